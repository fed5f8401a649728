import PyProof.Rows.All
import PyProof.SumAny
import PyProof.DictList
import PyProof.AttrMissHeap
import PyProof.TupleIter
import PyProof.ZipIter
import PyProof.AutoSeq1
import PyProof.LayNew
import PyProof.EnumFor
import PyProof.EnumStmt
import PyProof.EnumMake
import PyProof.Rows.TupAdd
import PyProof.ExcClass2
import PyProof.ConsumeWalk
import KE.KRevSl
import KE.KRevIter
import Wide.All
import OpenK.AllK
import Wide.FinOn
import Lean
import PyProof.EqAt
import PyProof.EqKinds
import PyProof.TupleCall
import PyProof.NeKinds
import PySem.Challenge.RW_ownchain_k10_words_looked_through
set_option maxHeartbeats 4000000
set_option genInjectivity false
set_option genSizeOfSpec false
set_option Elab.async false
set_option linter.all false
set_option maxRecDepth 100000
namespace L2
open PySem PySem.Spec PyProof.Rows
abbrev zB:=@List.length_append
abbrev zC:=@PySem.wpAny_bind
abbrev zD:=@List.length_map
abbrev zE:=@List.getElem?_eq_getElem
abbrev zI:=@if_neg
abbrev zJ:=@PySem.Heap.get?_push_of_some
abbrev zK:=@List.length_cons
abbrev zO:=@List.mem_cons_self
abbrev zP:=@PySem.wpAny_pure
abbrev zQ:=@List.mem_cons_of_mem
abbrev zS:=@List.getElem?_map
abbrev zT:=@if_pos
abbrev zU:=@PySem.F.plainAttrs_list
abbrev zW:=@Nat.le_refl
abbrev zX:=@List.mem_of_getElem?
abbrev zY:=@decide_eq_true
abbrev zZ:=@of_decide_eq_true
abbrev yA:=@decide_eq_false
abbrev yB:=@List.map_append
abbrev yC:=@List.size_toArray
abbrev yE:=@PySem.F.type_list_append
abbrev yF:=@PySem.F.slot_list_append
abbrev yG:=@PySem.Heap.lt_size
abbrev yJ:=@List.length_take
abbrev yK:=@Bool.false_ne_true
abbrev yL:=@PySem.Heap.get?_push_size
abbrev yQ:=@List.map_cons
abbrev yR:=@Array.length_toList
abbrev yT:=@Nat.le_trans
abbrev yU:=@Nat.zero_le
abbrev yW:=@List.append_assoc
abbrev yY:=@Nat.lt_of_lt_of_le
abbrev yZ:=@List.mem_append_right
abbrev xG:=@List.take_of_length_le
abbrev xH:=@PySem.Heap.get?_update_other
abbrev xI:=@List.append_nil
abbrev xM:=@Nat.ne_of_lt
abbrev xO:=@List.length_drop
abbrev xQ:=@List.drop_eq_getElem_cons
abbrev xR:=@PySem.W.mg_none_of
abbrev xS:=@PySem.PassesOwn.never
abbrev xT:=@of_decide_eq_false
abbrev xW:=@List.getD_eq_getElem?_getD
abbrev xZ:=@PySem.wpAny_field
abbrev jB:=@congrArg
abbrev jC:=@List.getElem?_eq_none
abbrev jD:=@List.cons_append
abbrev jE:=@Option.some.inj
abbrev jF:=@Bool.and_eq_true_iff
abbrev jG:=@Int.toNat_natCast
abbrev jM:=@PySem.F.plainAttrs_str
abbrev jQ:=@List.length_nil
abbrev jR:=@PySem.Heap.get?_update_self
abbrev jV:=@List.nil_append
abbrev jW:=@PySem.wpAny_newObj_type
abbrev kH:=@PySem.wpAny_callSpecial?_slot
abbrev kI:=@List.getElem?_append_right
abbrev kJ:=@List.flatten_cons
abbrev kO:=@Nat.lt_of_le_of_lt
abbrev kQ:=@Nat.lt_irrefl
abbrev kY:=@PySem.wpAny_truthy_bool
abbrev kZ:=@Nat.lt_trans
abbrev qA:=@List.mem_append_left
abbrev qD:=@PySem.W.kia_one
abbrev qF:=@Nat.lt_succ_self
abbrev qK:=@PySem.wpAny_holding
abbrev qL:=@PySem.F.type_list_extend
abbrev qO:=@PySem.F.slot_list_extend
abbrev qP:=@Nat.ne_of_gt
abbrev qQ:=@List.map_map
abbrev qS:=@PySem.Obj.data_mapFields
abbrev qV:=@PySem.wpAny_call_entry
abbrev qW:=@List.getElem?_of_mem
abbrev qZ:=@PyProof.Rows.callWith_type1
abbrev wC:=@PySem.wpAny_seqItems
abbrev wD:=@PySem.wpAny_mono
abbrev wE:=@List.drop_of_length_le
abbrev wG:=@PyProof.Rows.slot_tuple_getitem
abbrev wK:=@PySem.wpAny_Call_Name_kw
abbrev wL:=@beq_self_eq_true
abbrev wM:=@List.all_eq_true
abbrev wN:=@Bool.false_eq_true
abbrev wP:=@PySem.Paired.snoc
abbrev wQ:=@List.take_succ
abbrev wR:=@List.mem_of_mem_take
abbrev wW:=@PySem.call_meets
abbrev wY:=@PySem.mem_of_lookup
abbrev wZ:=@List.replicate_succ
abbrev vC:=@Nat.le_of_lt
abbrev vD:=@List.drop_eq_nil_of_le
abbrev vE:=@PySem.Calls.callWith_builtin
abbrev vH:=@PySem.wpAny_attempt
abbrev vI:=@Bool.and_eq_true
abbrev vN:=@PySem.wpAny_setField_rec
abbrev vO:=@PySem.wpAny_setField
abbrev vP:=@Int.natAbs_natCast
abbrev vQ:=@PySem.F.slot_tuple_iterator_next
abbrev vU:=@PySem.StrLaws.glued_eq_join
abbrev vV:=@PySem.F.type_str_join
abbrev vW:=@PySem.F.slot_str_join
abbrev vX:=@PySem.Obj.isFreed_of_fields
abbrev vY:=@List.lookup_cons_self
abbrev vZ:=@List.length_replicate
abbrev uA:=@List.getElem?_zipWith
abbrev uG:=@List.getElem?_append_left
abbrev uH:=@PySem.wpAny_passesOwn
abbrev uI:=@Nat.min_eq_left
abbrev uJ:=@List.forIn_cons
abbrev uP:=@PySem.wpAny_of_eq
abbrev uQ:=@List.reverse_cons
abbrev uR:=@List.mem_of_mem_drop
abbrev uU:=@Nat.add_assoc
abbrev uW:=@List.length_reverse
abbrev Ac:=@PySem.wpAny_isInstance
abbrev Ad:=@PySem.isSubtype_type
abbrev Ae:=@List.take_length
abbrev Af:=@List.drop_zero
abbrev Au:=@PySem.W.callWith_K
abbrev Av:=@Nat.sub_self
abbrev Aw:=@Int.emod_lt_of_pos
abbrev Ax:=@PySem.Calls.spliced_cons
abbrev AB:=@List.find?_cons
abbrev AF:=@List.any_cons
abbrev AI:=@PySem.builtinLookup_eq_fast
abbrev AJ:=@Array.getElem?_toList
abbrev AW:=@PySem.typeIs_str
abbrev AX:=@PySem.Heap.size_push
abbrev AY:=@PySem.Calls.evalArgs_plain
abbrev Bh:=@PySem.wpAny_execs_cons
abbrev Bi:=@PySem.codeAny_mono
abbrev Bj:=@Nat.min_eq_right
abbrev Bk:=@List.lookup_cons
abbrev Bl:=@List.filter_cons
abbrev Bm:=@Array.getElem?_eq_getElem
abbrev Br:=@PySem.Heap.SameBut.update
abbrev Bv:=@PySem.wpAny_comprehension_free
abbrev Bw:=@if_false
abbrev Bx:=@PySem.AutoSeq1.wpAny_loadPart'
abbrev BA:=@PySem.wpAny_execs_nil
abbrev BB:=@if_true
abbrev BC:=@Int.emod_nonneg
abbrev BM:=@PySem.wpAny_rule
abbrev BN:=@PySem.wpAny_call
abbrev BO:=@PySem.tupleKind_room_in1
abbrev BP:=@PySem.StrLaws.join_split
abbrev BQ:=@List.mem_singleton
abbrev BR:=@List.filter_append
abbrev BU:=@PySem.sizeLine_eq
abbrev BV:=@PySem.F.type_list_index
abbrev BW:=@PySem.F.slot_list_index
abbrev CV:=@PySem.wpAny_pyIter_list
abbrev CY:=@PySem.wpAny_loadPart_at
abbrev CZ:=@PySem.wpAny_Call_method_late
abbrev Da:=@PySem.W.looks_findIn
abbrev Db:=@PySem.W.cellsFrom_some
abbrev Dc:=@PySem.F.type_str_split
abbrev Dd:=@PySem.F.slot_str_split
abbrev De:=@List.getElem?_set_self
abbrev Dh:=@PySem.plainObj_wpAny_Assign_Attribute
abbrev Di:=@PyProof.Rows.slice_closes_fromL
abbrev Dk:=@List.eq_nil_or_concat
abbrev Dl:=@List.concat_eq_append
abbrev Dv:=@PySem.F.plain_sum_loop
abbrev Dy:=@PySem.wpAny_standAt
abbrev DJ:=@PySem.wpAny_updateSeq_pair
abbrev DK:=@PySem.codeAny_call_builtin
abbrev DL:=@List.getElem?_set_ne
abbrev DM:=@PySem.Around.under_plainId
abbrev DV:=@PySem.wpAny_specialOf
abbrev DW:=@PySem.typeLookup_type
abbrev DX:=@PySem.F.slot_dict_setdefault
abbrev DY:=@List.of_mem_zip
abbrev DZ:=@List.nodup_cons
abbrev Ea:=@List.length_set
abbrev Eb:=@PySem.F.slot_zip_next
abbrev Ed:=@PySem.F.args_tuple_iterator_next_1
abbrev Ee:=@Bool.eq_iff_iff
abbrev Eh:=@ne_true_of_eq_false
abbrev Ei:=@PySem.W.plainGet_of
abbrev Ej:=@List.length_take_le
abbrev Ek:=@List.flatten_append
abbrev El:=@List.filterMap_cons
abbrev Eu:=@Nat.le_of_eq
abbrev Ev:=@PySem.F.entry_tuple_iterator_next
abbrev EN:=@PySem.wpAny_loadPart
abbrev EO:=@PySem.intText_digits
abbrev EQ:=@PySem.StrLaws.split_free
abbrev ET:=@Nat.mod_lt
abbrev EU:=@List.getElem_idxOf
abbrev EV:=@List.forIn_nil
abbrev EW:=@PySem.F.args_str_split_2
abbrev EX:=@PySem.Calls.Constant_str
abbrev EY:=@Bool.and_false
abbrev Fc:=@List.mem_or_eq_of_mem_set
abbrev Fd:=@List.getElem?_zip_eq_some
abbrev Fe:=@Classical.byContradiction
abbrev Fv:=@decide_eq_true_eq
abbrev Fw:=@PySem.SeqAt.RcAt.tuples
abbrev Fx:=@PySem.Within.cons
abbrev Fy:=@Option.isSome_map
abbrev Fz:=@PySem.Obj.cls_mapFields
abbrev FA:=@List.flatMap_cons
abbrev FB:=@List.ext_getElem?
abbrev FC:=@PySem.F.entry_str_split
abbrev FD:=@PySem.Calls.spliced_nil
abbrev FM:=@PySem.wpAny_onRaise
abbrev FN:=@PySem.Paired.length
abbrev Gp:=@PySem.wpAny_lookBehind
abbrev Gq:=@PySem.pastItsLine_dict
abbrev Gr:=@Option.bind_some
abbrev Gs:=@Nat.add_sub_cancel_left
abbrev Gu:=@List.isEmpty_map
abbrev Gv:=@List.getElem_mem
abbrev Gw:=@List.getElem?_replicate
abbrev Gx:=@List.getElem?_cons_succ
abbrev Gy:=@List.append_cancel_left
abbrev Gz:=@Int.eq_ofNat_of_zero_le
abbrev GA:=@PySem.F.slot_str_split
abbrev DN:=Sum Int Str
def NH:DN->Value->Bool
 | .inl k,v=>Value.isInt k v
 | .inr x,v=>Value.isStrOf x v
def zFs (w:World):DN->Int
 | .inl k=>hashInt k
 | .inr x=>hashStr w x
theorem uO: ∀{k:DN} {v:Value},NH k v=true->(∃i t,k=Sum.inl i/\v=Value.int i t)\/(∃x t,k=Sum.inr x/\v=Value.str x t)
 | .inl i,v,h=>by
  obtain⟨t,e⟩:=Value.isInt_shape (k:=i) (v:=v) h;exact .inl ⟨i,t,rfl,e⟩
 | .inr x,v,h=>by
  obtain⟨t,e⟩:=Value.isStrOf_shape (x:=x) (v:=v) h;exact .inr ⟨x,t,rfl,e⟩
theorem Uo (i:Int)(t:Tok):NH (.inl i) (.int i t)=true:=by simp[NH,Value.isInt]
theorem Um (x:Str)(t:Tok):NH (.inr x) (.str x t)=true:=by simp[NH,Value.isStrOf]
theorem zAk (a b:Int):decide ((Sum.inl a:DN)=Sum.inl b)=(a==b):=by
 by_cases e:a=b
 ·subst e;simp
 ·have h: ¬(Sum.inl a:DN)=Sum.inl b:=λq=>e (Sum.inl.inj q);rw[yA h];exact(beq_eq_false_iff_ne.mpr e).symm
theorem zAh (a b:Str):decide ((Sum.inr a:DN)=Sum.inr b)=decide (a=b):=by
 by_cases e:a=b
 ·subst e;simp
 ·have h: ¬(Sum.inr a:DN)=Sum.inr b:=λq=>e (Sum.inr.inj q);rw[yA h,yA e]
theorem zAj (a:Int)(b:Str):decide ((Sum.inl a:DN)=Sum.inr b)=false:=yA (λq=>nomatch q)
theorem zAi (a:Str)(b:Int):decide ((Sum.inr a:DN)=Sum.inl b)=false:=yA (λq=>nomatch q)
def Ap (prog:Program)(w:World):PySem.KeyKind prog w DN where
 is:=NH
 hash:=zFs w
 inj:=λv a b ha hb=>by
  rcases uO ha with⟨i,t,rfl,rfl⟩|⟨x,t,rfl,rfl⟩
  ·rcases uO hb with⟨j,u,rfl,e⟩|⟨y,u,rfl,e⟩
   ·injection e with e1 _;rw[e1]
   ·exact nomatch e
  ·rcases uO hb with⟨j,u,rfl,e⟩|⟨y,u,rfl,e⟩
   ·exact nomatch e
   ·injection e with e1 _;rw[e1]
 byValue:=λk v h=>by
  rcases uO h with⟨i,t,rfl,rfl⟩|⟨x,t,rfl,rfl⟩<;>rfl
 pyHash:=λhv h=>by
  rcases uO hv with⟨i,t,rfl,rfl⟩|⟨x,t,rfl,rfl⟩
  ·exact wpAny_pyHash_int h
  ·exact wpAny_pyHash_str h
 eqBool:=λhu hv h=>by
  rcases uO hu with⟨i,t,rfl,rfl⟩|⟨x,t,rfl,rfl⟩
  ·rcases uO hv with⟨j,u,rfl,rfl⟩|⟨y,u,rfl,rfl⟩
   ·rw[zAk]at h;exact wpAny_eqBool_int h
   ·rw[zAj]at h;exact SeqAt.EqAt.int_str i t y u _ _ _ _ h
  ·rcases uO hv with⟨j,u,rfl,rfl⟩|⟨y,u,rfl,rfl⟩
   ·rw[zAi]at h;exact SeqAt.EqAt.str_int x t j u _ _ _ _ h
   ·rw[zAh]at h;exact wpAny_eqBool_str h
 «strs»:=λk x t v h=>by
  rcases uO h with⟨i,u,rfl,e⟩|⟨y,u,rfl,e⟩
  ·exact nomatch e
  ·injection e with e1 _
   subst e1;cases v<;>rfl
theorem QA (prog:Program)(w:World)(i:Int)(t:Tok):(Ap prog w).is (.inl i) (.int i t)=true:=Uo i t
theorem Qz (prog:Program)(w:World)(x:Str)(t:Tok):(Ap prog w).is (.inr x) (.str x t)=true:=Um x t
inductive V where
 |non|bl (b:Bool)|int (i:Int)|str (x:Str)|byt (b:Array UInt8)|flt (b:UInt64)|ref (a:Addr)|ty (n:String)
 deriving DecidableEq
def kU:V->Value->Prop
 | .non,u=>u=Value.none
 | .bl b,u=>u=Value.bool b
 | .int i,u=> ∃t,u=Value.int i t
 | .str x,u=> ∃t,u=Value.str x t
 | .byt b,u=> ∃t,u=Value.bytes b t
 | .flt b,u=> ∃t,u=Value.float b t
 | .ref a,u=>u=Value.ref a
 | .ty n,u=>u=Value.type n
abbrev jS:List V->List Value->Prop:=Paired kU
theorem jS.length {xs:List V}{us:List Value}(r:jS xs us):xs.length=us.length:=FN r
theorem jS.get: ∀{xs:List V} {us:List Value} {i:Nat} {x:V},jS xs us->xs[i]? =some x-> ∃u,us[i]? =some u/\kU x u
 |_,_,_,_,.nil,e=>by simp at e
 |_,_,0,_,.cons r _,e=>by simp at e;subst e;exact⟨_,rfl,r⟩
 |_,_,i+1,x,.cons _ t,e=>by
  obtain⟨u,h1,h2⟩:=jS.get (i:=i) (x:=x) t (by simpa using e);exact⟨u,by simpa using h1,h2⟩
theorem jS.set {x:V}{u:Value}(r:kU x u): ∀{xs:List V} {us:List Value} (i:Nat),jS xs us->jS (xs.set i x) (us.set i u)
 |_,_,_,.nil=>.nil
 |_,_,0,.cons _ t=>.cons r t
 |_,_,i+1,.cons q t=>.cons q (jS.set r i t)
theorem jS.append: ∀{xs ys:List V} {us ws:List Value},jS xs us->jS ys ws->jS (xs++ys) (us++ws)
 |_,_,_,_,.nil,s=>s
 |_,_,_,_,.cons r t,s=>.cons r (jS.append t s)
theorem jS.take: ∀{xs:List V} {us:List Value} (n:Nat),jS xs us->jS (xs.take n) (us.take n)
 |_,_,0,_=>.nil
 |_,_,_+1,.nil=>.nil
 |_,_,n+1,.cons r t=>.cons r (jS.take n t)
theorem jS.drop: ∀{xs:List V} {us:List Value} (n:Nat),jS xs us->jS (xs.drop n) (us.drop n)
 |_,_,0,r=>r
 |_,_,_+1,.nil=>.nil
 |_,_,n+1,.cons _ t=>jS.drop n t
def EZ:Option V->Option Value->Prop
 |some v,some u=>kU v u
 |none,none=>True
 |_,_=>False
def KV {κ:Type}:List (κ×V)->List (κ×Value)->Prop:=Paired fun(p:κ×V) (q:κ×Value)=>p.1=q.1/\kU p.2 q.2
def kV:DN->V
 | .inl i=>.int i
 | .inr x=>.str x
inductive HO where
 |lst (xs:List V)
 |tup (xs:List V)
 |dK (kvs:List (DN×V))|dT (kvs:List (List DN×V))
 |set (S:Int->Bool) (n:Nat)
 |ins (C dx:Addr) (fs:List (Str×V))
 |own (x:Addr)
 |xd (fs:List (Str×V))
 |met (f x:Addr)
 |rng (lo hi:Int)
 |frz (o:Obj) (u:HO)
 |tbl (ps:Array Value)
 |ext (φ:Heap->Prop)
abbrev Hp:=Addr->Option HO
def upd (H:Hp)(a:Addr)(o:HO):Hp:=λb=>if b=a then some o else H b
theorem zH {H:Hp}{a:Addr}{o:HO}:upd H a o a=some o:=by unfold upd;rw[zT rfl]
theorem zV {H:Hp}{a b:Addr}{o:HO}(h:b≠a):upd H a o b=H b:=by unfold upd;rw[zI h]
theorem Ig {H:Hp}{a:Addr}{o u:HO}:upd (upd H a o) a u=upd H a u:=by
 funext b;unfold upd;split<;>rfl
theorem zDa {H:Hp}{a b:Addr}{o u:HO}(h:H a=some o)(h':H b=some u)(d:o≠u):a≠b:=by
 intro e;subst e;rw[h]at h';exact d (jE h')
theorem zM {H:Hp}{a b:Addr}{o:HO}(h:H a=some o)(h':H b=none):a≠b:=by
 intro e;subst e;rw[h]at h';cases h'
section
variable (P:Program)(w:World)
def wT (H:Hp)(h:Heap)(a:Addr):HO->Prop
 | .lst xs=>xs.length<=sizeLine/\ ∃(its:List Value) (n:Nat),jS xs its/\h.get? a=some {cls:=.type "list",data:=.seq its.toArray n}
 | .tup xs=>xs.length<=sizeLine/\ ∃its:List Value,jS xs its/\IsTup h a its.toArray
 | .dK kvs=>kvs.length<=sizeLine/\(a==sysModules)=false/\ ∃vs,KV kvs vs/\h.DictOf (Ap P w) a vs
 | .dT kvs=>kvs.length<=sizeLine/\(a==sysModules)=false/\ ∃xs:List (List DN×Addr×Value),
   Paired (fun(p:List DN×V) (q:List DN×Addr×Value)=>p.1=q.1/\H q.2.1=some (.tup (p.1.map kV))/\kU p.2 q.2.2) kvs xs/\
   ∃o es ep,h.get? a=some o/\o.ExactDict/\o.data=.dict es ep/\es.toList=xs.map (entryOfKey (tupleKind (Ap P w)))/\(xs.map (·.1)).Nodup
 | .set S n=>h.SetOf (intKind P w) a S n
 | .ins C dx fs=>H dx=some (.own a)/\fs.length<=1000/\dx≠a/\h.get? a=some (PySem.W.instObj C dx)/\
   ∃mA,h.Ns1 dx mA/\(∀f,EZ (fs.lookup f) (mA f))/\PySem.Within mA (fs.map (·.1))
 | .own _=> ∃o,h.get? a=some o
 | .xd fs=> ∃mA,h.Ns1 a mA/\ ∀f,EZ (fs.lookup f) (mA f)
 | .rng lo hi=> ∃t u v,h.get? a=some {cls:=.type "range",data:=.fields #[.int lo t,.int hi u,.int 1 v]}
 | .frz o u=>h.get? a=some o/\wT H h a u
 | .tbl ps=>h.get? a=some {cls:=.none,data:=.fields ps}
 | .met f x=>h.get? a=some (PySem.W.methodObj (.ref f) (.ref x))
 | .ext φ=>φ h/\(∃o,h.get? a=some o)/\ ∀h1 h2:Heap,φ h1->(∀o,h1.get? a=some o->h2.get? a=some o)->φ h2
def Ix (H:Hp)(h:Heap):Prop:= ∀a o,H a=some o->wT P w H h a o
end
section
variable {P:Program}{w:World}{H H':Hp}{h h':Heap}{a:Addr}{o:HO}
theorem wT.lt (x:wT P w H h a o):a<h.objs.size:=by
 cases o with
 |lst xs=>obtain⟨_,_,_,_,e⟩:=x;exact yG e
 |tup xs=>obtain⟨_,_,_,p⟩:=x;exact p.lt
 |dK kvs=>obtain⟨_,_,_,_,o,_,_,e,_⟩:=x;exact yG e
 |dT kvs=>obtain⟨_,_,_,_,o,_,_,e,_⟩:=x;exact yG e
 |set S n=>obtain⟨o,_,_,_,e,_⟩:=x;exact yG e
 |ins C dx fs=>obtain⟨_,_,_,e,_⟩:=x;exact yG e
 |own y=>obtain⟨_,e⟩:=x;exact yG e
 |xd fs=>obtain⟨_,⟨_,_,_,e,_⟩,_⟩:=x;exact yG e
 |rng lo hi=>obtain⟨_,_,_,e⟩:=x;exact yG e
 |frz ob u=>obtain⟨e,_⟩:=x;exact yG e
 |tbl ps=>exact yG (show h.get? a=some _ from x)
 |met f y=>exact yG (show h.get? a=some _ from x)
 |ext φ=>obtain⟨_,⟨_,e⟩,_⟩:=x;exact yG e
theorem Paired.mapP {α β:Type}{F G:α->β->Prop}: ∀{l₁:List α} {l₂:List β},Paired F l₁ l₂->(∀a b,F a b->G a b)->Paired G l₁ l₂
 |_,_,.nil,_=>.nil
 |_,_,.cons r t,f=>.cons (f _ _ r) (Paired.mapP t f)
theorem wT.stay (x:wT P w H h a o)(k: ∀b u,(b=a\/H b=some (.own a))->h.get? b=some u->h'.get? b=some u)
  (ho: ∀b,H b=some (.own a)->H' b=some (.own a)) (ht: ∀b xs,H b=some (.tup xs)->H' b=some (.tup xs)):wT P w H' h' a o:=by
 induction o with
 |lst xs=>obtain⟨z,its,n,r,e⟩:=x;exact⟨z,its,n,r,k _ _ (.inl rfl) e⟩
 |tup xs=>obtain⟨z,its,r,ob,e,c⟩:=x;exact⟨z,its,r,ob,k _ _ (.inl rfl) e,c⟩
 |dK kvs=>obtain⟨z,y,vs,r,ob,es,ep,e,c⟩:=x;exact⟨z,y,vs,r,ob,es,ep,k _ _ (.inl rfl) e,c⟩
 |dT kvs=>
  obtain⟨z,y,xs,r,ob,es,ep,e,c⟩:=x;exact⟨z,y,xs,Paired.mapP r λp q z=>⟨z.1,ht _ _ z.2.1,z.2.2⟩,ob,es,ep,k _ _ (.inl rfl) e,c⟩
 |set S n=>obtain⟨ob,es,ep,t,e,c⟩:=x;exact⟨ob,es,ep,t,k _ _ (.inl rfl) e,c⟩
 |ins C dx fs=>
  obtain⟨d,z,ne,e,mA,⟨od,es,ep,e2,c⟩,r⟩:=x;exact⟨ho _ d,z,ne,k _ _ (.inl rfl) e,mA,⟨od,es,ep,k _ _ (.inr d) e2,c⟩,r⟩
 |own y=>obtain⟨ob,e⟩:=x;exact⟨ob,k _ _ (.inl rfl) e⟩
 |xd fs=>obtain⟨mA,⟨od,es,ep,e,c⟩,r⟩:=x;exact⟨mA,⟨od,es,ep,k _ _ (.inl rfl) e,c⟩,r⟩
 |rng lo hi=>obtain⟨t,u,v,e⟩:=x;exact⟨t,u,v,k _ _ (.inl rfl) e⟩
 |frz ob u ih=>obtain⟨e,q⟩:=x;exact⟨k _ _ (.inl rfl) e,ih q⟩
 |tbl ps=>
  have e:h.get? a=some {cls:=.none,data:=.fields ps}:=x;show h'.get? a=some {cls:=.none,data:=.fields ps};exact k a _ (.inl rfl) e
 |met f y=>
  have e:h.get? a=some (PySem.W.methodObj (.ref f) (.ref y)):=x;show h'.get? a=some (PySem.W.methodObj (.ref f) (.ref y));exact k a _ (.inl rfl) e
 |ext φ=>obtain⟨p,⟨o,e⟩,st⟩:=x;exact⟨st _ _ p λo q=>k _ _ (.inl rfl) q,⟨o,k _ _ (.inl rfl) e⟩,st⟩
theorem Ix.lt (x:Ix P w H h)(e:H a=some o):a<h.objs.size:=(x a o e).lt
theorem Ix.fresh (x:Ix P w H h)(e:h.objs.size<=a):H a=none:=by
 cases q:H a with
 |none=>rfl
 |some u=>exact absurd (yY (x.lt q) e) (kQ _)
theorem Ix.kept (x:Ix P w H h)(k: ∀b u,h.get? b=some u->h'.get? b=some u):Ix P w H h':=λa o e=>
 (x a o e).stay (λb u _ q=>k b u q) (λ_ q=>q) λ_ _ q=>q
theorem Ix.laid (x:Ix P w H h)(k: ∀b u,h.get? b=some u->h'.get? b=some u)(hp:h.objs.size<=a)(new:wT P w (upd H a o) h' a o):Ix P w (upd H a o) h':=λb u e=>by
 have hn:=x.fresh hp
 by_cases hb:b=a
 ·subst hb;rw[zH]at e;cases e;exact new
 ·rw[zV hb]at e;exact(x b u e).stay (λc v _ q=>k c v q) (λc q=>by rw[zV (zM q hn)];exact q) λc xs q=>by rw[zV (zM q hn)];exact q
end
def Rd (H:Hp)(a:Addr)(u:HO):Prop:=H a=some u\/ ∃o,H a=some (.frz o u)
theorem Rd.ok {P:Program}{w:World}{H:Hp}{h:Heap}{a:Addr}{u:HO}(r:Rd H a u)(x:Ix P w H h):wT P w H h a u:=by
 rcases r with r|⟨o,r⟩
 ·exact x a u r
 ·obtain⟨_,q⟩:=x a _ r;exact q
def Mut:Option HO->Prop
 |some (.lst _)=>True
 |some (.dK _)=>True
 |some (.dT _)=>True
 |some (.set _ _)=>True
 |some (.ins _ _ _)=>True
 |some (.ext _)=>True
 |_=>False
section
variable {P:Program}{w:World}{H:Hp}{h h':Heap}{x e:Addr}{o':HO}
theorem Ix.write (ok:Ix P w H h)(mu:Mut (H x))(he:e=x\/H e=some (.own x))(k: ∀b u,b≠e->h.get? b=some u->h'.get? b=some u)(heo: ∃u,h'.get? e=some u)
  (new:wT P w (upd H x o') h' x o'):Ix P w (upd H x o') h':=λb u q=>by
 have nown: ∀c y,H c=some (.own y)->c≠x:=λc y r z=>by subst z;rw[r]at mu;exact mu
 have ntup: ∀c xs,H c=some (.tup xs)->c≠x:=λc xs r z=>by subst z;rw[r]at mu;exact mu
 by_cases hb:b=x
 ·subst hb;rw[zH]at q;cases q;exact new
 ·rw[zV hb]at q
  by_cases hbe:b=e
  ·have q':H b=some (.own x):=by
    rcases he with z|z
    ·exact absurd (hbe.trans z) hb
    ·rw[hbe];exact z
   rw[q]at q';cases q';obtain⟨v,hv⟩:=heo;exact⟨v,by rw[hbe];exact hv⟩
  ·refine(ok b u q).stay (λc v hc r=>k c v ?_ r) (λc r=>by rw[zV (nown c b r)];exact r) λc xs r=>by rw[zV (ntup c xs r)];exact r
   rcases hc with rfl|hc
   ·exact hbe
   ·rintro rfl
    rcases he with z|z
    ·exact nown c b hc z
    ·rw[hc]at z;cases z;exact hb rfl
end
structure Un (fs ex:List Addr)(H H':Hp)(h h':Heap):Prop where
 keep: ∀b o,h.get? b=some o->H b=none->b∉fs->b∉ex->h'.get? b=some o
 slot: ∀b o,h.get? b=some o->H b=none->b∈fs->b∉ex-> ∃sl,h'.get? b=some {o with slots:=sl}
 free: ∀b o,h.get? b=some o->H b=none->b∉ex->H' b=none
 there: ∀b o,h.get? b=some o->b∉ex-> ∃o',h'.get? b=some o'
 tups: ∀b xs,H b=some (.tup xs)->H' b=some (.tup xs)
 frzs: ∀b o u,H b=some (.frz o u)->H' b=some (.frz o u)
 tbls: ∀b ps,H b=some (.tbl ps)-> ∃more,H' b=some (.tbl (ps++more))
section
variable {fs fs' ex ex':List Addr}{H H1 H2:Hp}{h h1 h2 h':Heap}{a x e:Addr}{o:HO}
theorem Un.any (u:Un fs ex H H1 h h1){b:Addr}{ob:Obj}(q:h.get? b=some ob)(n:H b=none)(hx:b∉ex): ∃sl,h1.get? b=some {ob with slots:=sl}:=by
 by_cases hb:b∈fs
 ·exact u.slot b ob q n hb hx
 ·exact⟨ob.slots,u.keep b ob q n hb hx⟩
theorem Un.kept (k: ∀b u,h.get? b=some u->h'.get? b=some u):Un fs ex H H h h':=
 ⟨λb ob q _ _ _=>k b ob q,λb ob q _ _ _=>⟨ob.slots,k b ob q⟩,λ_ _ _ n _=>n,λb ob q _=>⟨ob,k b ob q⟩,λ_ _ q=>q,λ_ _ _ q=>q,λ_ ps q=>⟨#[],by rw[q];simp⟩⟩
theorem Un.refl:Un fs ex H H h h:=Un.kept λ_ _ q=>q
theorem Un.laid (k: ∀b u,h.get? b=some u->h'.get? b=some u)(hp:h.objs.size<=a)(hn:H a=none):Un fs ex H (upd H a o) h h' where
 keep:=λb u q _ _ _=>k b u q
 slot:=λb u q _ _ _=>⟨u.slots,k b u q⟩
 free:=λb u q n _=>by rw[zV (xM (yY (yG q) hp))];exact n
 there:=λb u q _=>⟨u,k b u q⟩
 tups:=λb xs q=>by rw[zV (zM q hn)];exact q
 frzs:=λb u xs q=>by rw[zV (zM q hn)];exact q
 tbls:=λb ps q=>⟨#[],by rw[zV (zM q hn),q];simp⟩
theorem Un.write (mu:Mut (H x))(he:e=x\/H e=some (.own x))(k: ∀b u,b≠e->h.get? b=some u->h'.get? b=some u)(heo: ∃u,h'.get? e=some u):Un fs ex H (upd H x o) h h':=by
 have hx: ∀b,H b=none->b≠x:=λb n z=>by subst z;rw[n]at mu;exact mu
 have hb: ∀b,H b=none->b≠e:=λb n z=>by
  subst z
  rcases he with r|r
  ·exact hx b n r
  ·rw[n]at r;cases r
 have hm: ∀b u,H b=some u-> ¬Mut (some u)->b≠x:=λb u q nm z=>by subst z;rw[q]at mu;exact nm mu
 refine⟨λb u q n _ _=>k b u (hb b n) q,λb u q n _ _=>⟨u.slots,k b u (hb b n) q⟩,λb u q n _=>by rw[zV (hx b n)];exact n,λb u q _=>?_,
  λb xs q=>by rw[zV (hm b _ q λz=>z)];exact q,λb u xs q=>by rw[zV (hm b _ q λz=>z)];exact q,λb ps q=>⟨#[],by rw[zV (hm b _ q λz=>z),q];simp⟩⟩
 by_cases hbe:b=e
 ·subst hbe;exact heo
 ·exact⟨u,k b u hbe q⟩
end
def trk (h:Heap)(H:Hp):List Addr:=(List.range h.objs.size).filter λa=>(H a).isSome
def Pm (h:Heap)(H:Hp):Heap:=PySem.W.hideAll h (trk h H)
theorem Ur (h:Heap)(H:Hp):(Pm h H).objs.size =h.objs.size:=PySem.W.hideAll_size _ _
theorem Wx {h:Heap}{H:Hp}{b:Addr}{o:Obj}(e:h.get? b=some o)(n:H b=none):(Pm h H).get? b=some o:=
 PySem.W.hideAll_get _ e λhm=>by
  have q:(H b).isSome =true:=(List.mem_filter.mp hm).2;rw[n]at q;simp at q
theorem Ya {h:Heap}{H:Hp}{b:Addr}{o:Obj}(e:(Pm h H).get? b=some o):h.get? b=some o/\H b=none:=by
 have e':h.get? b=some o:=PySem.W.of_hideAll (trk h H) e;refine⟨e',?_⟩;cases q:H b with
 |none=>rfl
 |some x=>
  have hm:b∈trk h H:=List.mem_filter.mpr ⟨List.mem_range.mpr (yG e'),by simp[q]⟩;have z:(Pm h H).get? b=none:=PySem.W.hideAll_none (trk h H) hm;rw[z]at e;cases e
def YC (g h:Heap)(L:Addr):List (Addr×Obj):=(List.range h.objs.size).filterMap λa=>if a=L\/(g.get? a).isSome =true then none else(h.get? a).map λo=>(a,o)
def rest (g h:Heap)(L d:Addr):List (Addr×Obj):=(YC g h L).filter λp=>decide (p.1≠d)
structure Mod (K:PySem.W.Frag)(mg:Str->Option Value)(base:Heap):Prop where
 kin:K.In base
 glob:base.Ns mainGlobals mg
 blt: ∃mb,base.Ns builtinsNs mb/\ ∀x:Str,x≠"__name__"->mb x=bootBuiltins x
 nolimit:base.NoLimit
structure Cx where
 prog:Program
 w:World
 K:PySem.W.Frag
 mg:Str->Option Value
 base:Heap
 A:Around
 N:List Str
 s₀:Shared
 H₀:Hp
 env:Env
 outer:List Env
 stack:List Env
 ex:List Addr
 fn:Str->Bool
 calm:Bool
 pn:List (Addr×Obj)
 xe:Value->Shared->Prop
def frs (l:List Env):List Addr:=l.filterMap (·.frame)
abbrev Cx.fs (X:Cx):List Addr:=frs X.outer
def Vis (sc:Scope)(x:Str):Prop:=sc.names.lookup x=some .local\/sc.names.lookup x=some .cell\/sc.names.lookup x=some .free
def Loc (sc:Scope)(x:Str):Prop:=sc.names.lookup x=some .local\/sc.names.lookup x=some .cell
def zGf (env:Env)(h:Heap)(m:Str->Option Value)(x:Str)(u:Value):Prop:=
 (env.kindOf x=some .local/\m x=some u)\/((env.kindOf x=some .cell\/env.kindOf x=some .free)/\ ∃c,env.cells.lookup x=some c/\h.IsCell c (some u))
structure Cx.Ok (X:Cx):Prop where
 mod:Mod X.K X.mg X.base
 kind:X.env.scope.kind=.function
 glob:X.env.globals=mainGlobals
 blt:X.env.builtins=builtinsNs
 above:X.s₀.heap.objs.size<=X.env.locals
 inj: ∀x y c,X.env.cells.lookup x=some c->X.env.cells.lookup y=some c->x=y
 has: ∀x,(X.env.kindOf x=some .cell\/X.env.kindOf x=some .free)-> ∃c,X.env.cells.lookup x=some c
 cab: ∀x c,X.fn x=true->X.env.cells.lookup x=some c->X.s₀.heap.objs.size<=c
 hd:X.calm=true->X.A.handled=none
 frames:X.A.frames=some X.stack
 stk:X.stack=X.outer\/(X.stack=X.env::X.outer/\X.env.frame=some X.env.locals)
 exf: ∀b∈X.ex,b≠X.env.locals/\ ∀x c,X.env.cells.lookup x=some c->c≠b
 bs: ∀b o,X.base.get? b=some o->X.s₀.heap.get? b=some o/\X.H₀ b=none
 bsz:X.base.objs.size<=X.s₀.heap.objs.size
 noex: ∀b o,X.base.get? b=some o->b∉X.ex
 exfs: ∀b∈X.ex,b∉X.fs
 funs:X.s₀.heap.FunFrames X.base X.outer
 frf: ∀b∈X.fs,X.H₀ b=none
structure xK (X:Cx)(pins:List (Addr×Obj))(σ:List (Option V))(H:Hp)(s:Shared):Prop where
 ok:X.Ok
 os:s.os=X.s₀.os
 bare:AllBare s.gens
 base:Un X.fs X.ex X.H₀ H X.s₀.heap s.heap
 loc: ∃m,s.heap.Ns X.env.locals m/\ ∀(i:Nat) (x:Str) (v:V),X.N[i]? =some x->σ[i]? =some (some v)->Vis X.env.scope x-> ∃u,kU v u/\zGf X.env s.heap m x u
 cell: ∀x c,X.env.cells.lookup x=some c-> ∃v,s.heap.IsCell c v
 free:H X.env.locals=none
 freeC: ∀x c,X.env.cells.lookup x=some c->H c=none
 pin: ∀p∈X.pn++pins,s.heap.get? p.1=some p.2/\H p.1=none/\p.1≠X.env.locals/\p.1∉X.fs/\ ∀v,p.2.data≠ .cell v
 hok:Ix X.prog X.w H s.heap
 len:σ.length=X.N.length
section
variable {X:Cx}{pins:List (Addr×Obj)}{σ:List (Option V)}{H H':Hp}{s:Shared}{h':Heap}
theorem Cx.Ok.nofr (ok:X.Ok){b:Addr}{o:Obj}(e:X.base.get? b=some o):b∉X.fs:=λhb=>by
 have:=(ok.funs.mem hb).1;rw[e]at this;cases this
theorem xK.bs (I:xK X pins σ H s): ∀b o,X.base.get? b=some o->s.heap.get? b=some o/\H b=none:=λb o e=>
 ⟨I.base.keep b o (I.ok.bs b o e).1 (I.ok.bs b o e).2 (I.ok.nofr e) (I.ok.noex b o e),I.base.free b o (I.ok.bs b o e).1 (I.ok.bs b o e).2 (I.ok.noex b o e)⟩
theorem xK.bk (I:xK X pins σ H s): ∀b o,X.base.get? b=some o->s.heap.get? b=some o:=λb o e=>(I.bs b o e).1
theorem xK.mod (I:xK X pins σ H s):Mod X.K X.mg X.base:=I.ok.mod
theorem xK.kIn (I:xK X pins σ H s):X.K.In s.heap:=I.ok.mod.kin.keeps I.bk
theorem xK.lt (I:xK X pins σ H s):X.env.locals<s.heap.objs.size:=let⟨_,hn,_⟩:=I.loc;hn.lt
theorem xK.sz (I:xK X pins σ H s):X.s₀.heap.objs.size<=s.heap.objs.size:=yT I.ok.above (vC I.lt)
theorem xK.nofs (I:xK X pins σ H s){a:Addr}(h:s.heap.objs.size<=a):a∉X.fs:=λhb=>by
 obtain⟨_,o,ho,_⟩:=I.ok.funs.mem hb;exact absurd (yY (yG ho) (yT I.sz h)) (kQ _)
theorem xK.cne (I:xK X pins σ H s): ∀x c,X.env.cells.lookup x=some c->c≠X.env.locals:=λx c e z=>by
 obtain⟨v,o,ho,hd⟩:=I.cell x c e;obtain⟨m,⟨o',es,ep,ho',hd',_⟩,_⟩:=I.loc;rw[z,ho']at ho;cases ho;rw[hd']at hd;cases hd
theorem xK.funs (I:xK X pins σ H s):s.heap.FunFrames X.base X.outer:=by
 have all: ∀(l:List Env),(∀b∈frs l,b∈X.fs)->X.s₀.heap.FunFrames X.base l->s.heap.FunFrames X.base l:=by
  intro l
  induction l with
  |nil=>intro _ _;trivial
  |cons env r ih=>
   intro hs hl;obtain⟨hk,⟨L,o,hf,hn,ho,hd⟩,hr⟩:=hl;have hL:L∈X.fs:=hs L (by unfold frs;rw[El,hf];exact zO);obtain⟨sl,e⟩:=I.base.slot L o ho (I.ok.frf L hL) hL λz=>I.ok.exfs L z hL;exact⟨hk,⟨L,_,hf,hn,e,hd⟩,ih (λb hb=>hs b (by unfold frs;rw[El,hf];exact zQ _ hb)) hr⟩
 exact all X.outer (λ_ hb=>hb) I.ok.funs
theorem xK.stack (I:xK X pins σ H s):s.heap.FunFrames X.base X.stack:=by
 rcases I.ok.stk with e|⟨e,hf⟩
 ·rw[e];exact I.funs
 ·rw[e];obtain⟨m,hn,_⟩:=I.loc;refine .cons (by rw[I.ok.kind];decide) hf hn ?_ I.funs;exact Heap.get?_none_of_le (yT I.ok.bsz I.ok.above)
theorem xK.stkSub (I:xK X pins σ H s): ∀b∈frs X.stack,b∈X.env.locals::X.fs:=λb hb=>by
 rcases I.ok.stk with e|⟨e,hf⟩
 ·rw[e]at hb;exact zQ _ hb
 ·rw[e]at hb;unfold frs at hb;rw[El,hf]at hb;exact hb
theorem xK.stkFree (I:xK X pins σ H s): ∀b∈frs X.stack,H b=none:=λb hb=>by
 rcases List.mem_cons.mp (I.stkSub b hb)with e|hb
 ·rw[e];exact I.free
 ·obtain⟨_,o,ho,_⟩:=I.ok.funs.mem hb;exact I.base.free b o ho (I.ok.frf b hb) λz=>I.ok.exfs b z hb
theorem xK.step {g':Array GenState}{t':Nat}{d':Drawn}{ch:List Addr}(I:xK X pins σ H s)
  (hch: ∀b∈ch,(b∈X.ex\/X.s₀.heap.objs.size<=b)/\b≠X.env.locals/\(∀x c,X.env.cells.lookup x=some c->c≠b)/\ ∀p∈X.pn++pins,p.1≠b)
  (keep: ∀b o,b≠X.env.locals->b∉X.fs->b∉ch->s.heap.get? b=some o->H b=none->h'.get? b=some o)
  (slot: ∀b o,b≠X.env.locals->b∈X.fs->b∉ch->s.heap.get? b=some o->H b=none-> ∃sl,h'.get? b=some {o with slots:=sl}) (free: ∀b o,b∉ch->s.heap.get? b=some o->H b=none->H' b=none)
  (there: ∀b o,b∉ch->s.heap.get? b=some o-> ∃o',h'.get? b=some o')
  (tups: ∀b xs,H b=some (.tup xs)->H' b=some (.tup xs)) (frzs: ∀b o u,H b=some (.frz o u)->H' b=some (.frz o u)) (tbls: ∀b ps,H b=some (.tbl ps)-> ∃more,H' b=some (.tbl (ps++more)))
  (ns: ∀m,s.heap.Ns X.env.locals m->h'.Ns X.env.locals m) (hok:Ix X.prog X.w H' h') (hg:AllBare g'):
  xK X pins σ H' {s with heap:=h',gens:=g',drawn:=d',toks:=t'}:=by
 have neL: ∀b o,X.s₀.heap.get? b=some o->b≠X.env.locals:=λb o e=>xM (yY (yG e) I.ok.above);have neC: ∀b o,X.s₀.heap.get? b=some o->b∉X.ex->b∉ch:=λb o e hx hb=>by
  rcases(hch b hb).1 with z|z
  ·exact hx z
  ·exact absurd (yY (yG e) z) (kQ _)
 have cellK: ∀x c,X.env.cells.lookup x=some c-> ∀v,s.heap.IsCell c v->h'.IsCell c v:=λx c e v ⟨o,ho,hd⟩=>by
  have nch:c∉ch:=λz=>(hch c z).2.2.1 x c e rfl
  by_cases hc:c∈X.fs
  ·obtain⟨sl,q⟩:=slot c o (I.cne x c e) hc nch ho (I.freeC x c e);exact⟨_,q,hd⟩
  ·exact⟨o,keep c o (I.cne x c e) hc nch ho (I.freeC x c e),hd⟩
 refine⟨I.ok,I.os,hg,⟨λb o e n hb hx=>?_,λb o e n hb hx=>?_,λb o e n hx=>?_,λb o e hx=>?_,λb xs e=>tups b xs (I.base.tups b xs e),λb o xs e=>frzs b o xs (I.base.frzs b o xs e),λb ps e=>?_⟩,?_,λx c e=>?_,?_,λx c e=>?_,λp hp=>?_,hok,I.len⟩
 ·exact keep b o (neL b o e) hb (neC b o e hx) (I.base.keep b o e n hb hx) (I.base.free b o e n hx)
 ·obtain⟨sl,e1⟩:=I.base.slot b o e n hb hx;obtain⟨sl',e2⟩:=slot b _ (neL b o e) hb (neC b o e hx) e1 (I.base.free b o e n hx);exact⟨sl',e2⟩
 ·obtain⟨o',e1⟩:=I.base.there b o e hx;exact free b o' (neC b o e hx) e1 (I.base.free b o e n hx)
 ·obtain⟨o',e1⟩:=I.base.there b o e hx;exact there b o' (neC b o e hx) e1
 ·obtain⟨m1,e1⟩:=I.base.tbls b ps e;obtain⟨m2,e2⟩:=tbls b _ e1;exact⟨m1++m2,by rw[e2,Array.append_assoc]⟩
 ·obtain⟨m,hn,hl⟩:=I.loc;refine⟨m,ns m hn,λi x v e1 e2 e3=>?_⟩;obtain⟨u,r,l⟩:=hl i x v e1 e2 e3;refine⟨u,r,?_⟩
  rcases l with l|⟨k,c,e,z⟩
  ·exact .inl l
  ·exact .inr ⟨k,c,e,cellK x c e _ z⟩
 ·obtain⟨v,z⟩:=I.cell x c e;exact⟨v,cellK x c e v z⟩
 ·obtain⟨m,⟨o,_,_,ho,_⟩,_⟩:=I.loc;exact free _ o (λz=>(hch _ z).2.1 rfl) ho I.free
 ·obtain⟨v,o,ho,hd⟩:=I.cell x c e;exact free c o (λz=>(hch c z).2.2.1 x c e rfl) ho (I.freeC x c e)
 ·obtain⟨e,n,ne,nf,d⟩:=I.pin p hp;have nch:p.1∉ch:=λz=>(hch p.1 z).2.2.2 p hp rfl;exact⟨keep p.1 p.2 ne nf nch e n,free p.1 p.2 nch e n,ne,nf,d⟩
theorem xK.un {t':Nat}(I:xK X pins σ H s)(u:Un X.fs [] H H' s.heap h')(hok:Ix X.prog X.w H' h'):xK X pins σ H' {s with heap:=h',toks:=t'}:=by
 obtain⟨m,⟨o,es,ep,ho,r⟩,_⟩:=id I.loc;obtain⟨sl,hL⟩:=u.any ho I.free (by simp);exact I.step (g':=s.gens) (d':=s.drawn) (ch:=[]) (λ_ z=>nomatch z) (λb o _ hb _ e n=>u.keep b o e n hb (by simp)) (λb o _ hb _ e n=>u.slot b o e n hb (by simp)) (λb o _ e n=>u.free b o e n (by simp)) (λb o _ e=>u.there b o e (by simp)) u.tups u.frzs u.tbls (λm' hm=>by
  obtain⟨o',es',ep',ho',r'⟩:=hm;rw[ho]at ho';cases ho';exact⟨_,es',ep',hL,r'⟩) hok I.bare
theorem xK.call {g':Array GenState}{t':Nat}{d':Drawn}{ch:List Addr}(I:xK X pins σ H s)(u:Un (frs X.stack) ch H H' s.heap h')(hok:Ix X.prog X.w H' h')(hg:AllBare g')
  (hch: ∀b∈ch,(b∈X.ex\/X.s₀.heap.objs.size<=b)/\b≠X.env.locals/\(∀x c,X.env.cells.lookup x=some c->c≠b)/\ ∀p∈X.pn++pins,p.1≠b):
  xK X pins σ H' {s with heap:=h',gens:=g',drawn:=d',toks:=t'}:=by
 obtain⟨m,⟨o,es,ep,ho,r⟩,_⟩:=id I.loc;obtain⟨sl,hL⟩:=u.any ho I.free λz=>(hch _ z).2.1 rfl;exact I.step (ch:=ch) hch (λb o hL hb hc e n=>u.keep b o e n (λz=>(List.mem_cons.mp (I.stkSub b z)).elim hL hb) hc) (λb o _ _ hc e n=>u.any e n hc) (λb o hc e n=>u.free b o e n hc) (λb o hc e=>u.there b o e hc) u.tups u.frzs u.tbls (λm' hm=>by
  obtain⟨o',es',ep',ho',r'⟩:=hm;rw[ho]at ho';cases ho';exact⟨_,es',ep',hL,r'⟩) hok hg
theorem xK.turned {t':Nat}{it:Addr}(I:xK X pins σ H s)(k: ∀b o,b≠it->s.heap.get? b=some o->h'.get? b=some o)(hn:H it=none)(hL:it≠X.env.locals)
  (h1:it∈X.ex\/X.s₀.heap.objs.size<=it) (h2: ∀x c,X.env.cells.lookup x=some c->c≠it) (h3: ∀p∈X.pn++pins,p.1≠it):xK X pins σ H {s with heap:=h',toks:=t'}:=by
 have nit: ∀b u,H b=some u->b≠it:=λb u e z=>by rw[z,hn]at e;cases e
 refine I.step (g':=s.gens) (d':=s.drawn) (ch:=[it]) (λb hb=>?_) (λb o _ _ hc e _=>k b o (λz=>hc (by simp[z])) e) (λb o _ _ hc e _=>⟨o.slots,k b o (λz=>hc (by simp[z])) e⟩) (λ_ _ _ _ n=>n)
  (λb o hc e=>⟨o,k b o (λz=>hc (by simp[z])) e⟩) (λ_ _ e=>e) (λ_ _ _ e=>e) (λb ps e=>⟨#[],by rw[e];simp⟩) (λm hm=>?_) (λb u e=>?_) I.bare
 ·have e:b=it:=by simpa using hb
  subst e;exact⟨h1,hL,h2,h3⟩
 ·obtain⟨o,es,ep,ho,r⟩:=hm;exact⟨o,es,ep,k _ o (Ne.symm hL) ho,r⟩
 ·refine(I.hok b u e).stay (λc v hc q=>k c v ?_ q) (λ_ q=>q) λ_ _ q=>q
  rcases hc with z|z
  ·rw[z];exact nit b u e
  ·exact nit c _ z
theorem xK.tok (I:xK X pins σ H s)(t:Nat):xK X pins σ H {s with toks:=t}:=I.un (h':=s.heap) (t':=t) Un.refl I.hok
theorem xK.kept {t':Nat}(I:xK X pins σ H s)(k: ∀b u,s.heap.get? b=some u->h'.get? b=some u):xK X pins σ H {s with heap:=h',toks:=t'}:=I.un (Un.kept k) (I.hok.kept k)
theorem xK.laid {a:Addr}{o:HO}{t':Nat}(I:xK X pins σ H s)(k: ∀b u,s.heap.get? b=some u->h'.get? b=some u)(hp:s.heap.objs.size<=a)(new:wT X.prog X.w (upd H a o) h' a o):
  xK X pins σ (upd H a o) {s with heap:=h',toks:=t'}:=I.un (Un.laid k hp (I.hok.fresh hp)) (I.hok.laid k hp new)
theorem xK.write {x e:Addr}{o:HO}{t':Nat}(I:xK X pins σ H s)(mu:Mut (H x))(he:e=x\/H e=some (.own x))(k: ∀b u,b≠e->s.heap.get? b=some u->h'.get? b=some u)(heo: ∃u,h'.get? e=some u)
  (new:wT X.prog X.w (upd H x o) h' x o):xK X pins σ (upd H x o) {s with heap:=h',toks:=t'}:=I.un (Un.write mu he k heo) (I.hok.write mu he k heo new)
theorem xK.pins_of {pins':List (Addr×Obj)}(I:xK X pins σ H s)(h: ∀p∈pins',s.heap.get? p.1=some p.2/\H p.1=none/\p.1≠X.env.locals/\p.1∉X.fs/\ ∀v,p.2.data≠ .cell v):xK X pins' σ H s:=
 ⟨I.ok,I.os,I.bare,I.base,I.loc,I.cell,I.free,I.freeC,λp hp=>(List.mem_append.mp hp).elim (λz=>I.pin p (qA _ z)) (h p),I.hok,I.len⟩
theorem Ma {N:List Str}(hN:N.Nodup){i j:Nat}{x:Str}(a:N[i]? =some x)(b:N[j]? =some x):i=j:=by
 obtain⟨h1,e1⟩:=List.getElem?_eq_some_iff.mp a;obtain⟨h2,e2⟩:=List.getElem?_eq_some_iff.mp b;exact(List.getElem_inj hN).mp (e1.trans e2.symm)
theorem Nf {M:Model}{A:Around}{E:Value->Shared->Prop}{i:Nat}{x:Str}{v:V}{u:Value}{Q:Unit->Shared->Prop}(I:xK X pins σ H s)(hN:X.N.Nodup)(hi:X.N[i]? =some x)(hx:Loc X.env.scope x)(r:kU v u)
  (h: ∀s',xK X pins (σ.set i (some v)) H s'->(∃a,Heap.SameBut a s.heap s'.heap/\(a=X.env.locals\/X.env.cells.lookup x=some a))->Q () s') (hf:X.fn x=true\/X.env.scope.names.lookup x=some .local:=by first|exact .inl rfl|exact .inr rfl|assumption):wpAny M A (storeName X.env x u) Q E s:=by
 obtain⟨m,hn,hl⟩:=id I.loc;have hcls:(X.env.scope.kind== .class || (X.env.scope.kind== .module&&X.env.locals !=X.env.globals))=false:=by rw[I.ok.kind];rfl
 have hiσ:i<σ.length:=by rw[I.len];exact(List.getElem?_eq_some_iff.mp hi).1
 have cne:=I.cne;have tracked: ∀{a:Addr} {h':Heap},(∃o,s.heap.get? a=some o/\H a=none)->Heap.SameBut a s.heap h'->Ix X.prog X.w H h':=fun{a h'} ha hs b ob e=>by
  obtain⟨_,_,hfree⟩:=ha;refine(I.hok b ob e).stay (λc w' hc q=>(hs.2 c ?_).trans q) (λ_ q=>q) λ_ _ q=>q;rintro rfl
  rcases hc with rfl|hc
  ·rw[hfree]at e;cases e
  ·rw[hfree]at hc;cases hc
 rcases hx with hk|hk
 ·refine wpAny_storeName_local hk hn (λh' hn' hs=>?_) hcls;obtain⟨oL,_,_,hoL,_⟩:=id hn;refine h _ ⟨I.ok,I.os,I.bare,⟨λb o e n hb hx=>?_,λb o e n hb hx=>?_,I.base.free,λb o e hx=>?_,I.base.tups,I.base.frzs,I.base.tbls⟩,⟨_,hn',λj y v' e1 e2 e3=>?_⟩,λy c e=>?_,I.free,I.freeC,λp hp=>?_,tracked ⟨oL,hoL,I.free⟩ hs,by simpa using I.len⟩ ⟨_,hs,.inl rfl⟩
  ·exact(hs.2 b (xM (yY (yG e) I.ok.above))).trans (I.base.keep b o e n hb hx)
  ·obtain⟨sl,e1⟩:=I.base.slot b o e n hb hx;exact⟨sl,(hs.2 b (xM (yY (yG e) I.ok.above))).trans e1⟩
  ·obtain⟨o',e1⟩:=I.base.there b o e hx;exact⟨o',(hs.2 b (xM (yY (yG e) I.ok.above))).trans e1⟩
  ·by_cases hj:j=i
   ·subst hj;rw[hi]at e1;cases e1;rw[De hiσ]at e2;cases e2;exact⟨u,r,.inl ⟨hk,by simp⟩⟩
   ·rw[DL (Ne.symm hj)]at e2;obtain⟨u',r',q⟩:=hl j y v' e1 e2 e3;refine⟨u',r',?_⟩
    rcases q with⟨k,e⟩|⟨k,c,e,z⟩
    ·refine .inl ⟨k,?_⟩;have:y≠x:=λe=>hj (Ma hN e1 (e▸hi))
     simp[this,e]
    ·exact .inr ⟨k,c,e,z.sameBut hs (cne y c e)⟩
  ·obtain⟨w',z⟩:=I.cell y c e;exact⟨w',z.sameBut hs (cne y c e)⟩
  ·obtain⟨e,n,ne,nf,d⟩:=I.pin p hp;exact⟨(hs.2 p.1 ne).trans e,n,ne,nf,d⟩
 ·have hfn:X.fn x=true:=by
   rcases hf with z|z
   ·exact z
   ·rw[z]at hk;cases hk
  obtain⟨c,hc⟩:=I.ok.has x (.inl hk);obtain⟨w',z⟩:=I.cell x c hc;refine wpAny_storeName_cell I.ok.kind hk hc z (λh' hc' hs=>?_);obtain⟨oc,hoc,hocd⟩:=id z;refine h {s with heap:=h'} ⟨I.ok,I.os,I.bare,⟨λb o e n hb hx=>?_,λb o e n hb hx=>?_,I.base.free,λb o e hx=>?_,I.base.tups,I.base.frzs,I.base.tbls⟩,⟨m,hn.sameBut hs (Ne.symm (cne x c hc)),λj y v' e1 e2 e3=>?_⟩,λy c' e=>?_,I.free,I.freeC,λp hp=>?_,tracked ⟨oc,hoc,I.freeC x c hc⟩ hs,by simpa using I.len⟩ ⟨c,hs,.inr hc⟩
  ·exact(hs.2 b (xM (yY (yG e) (I.ok.cab x c hfn hc)))).trans (I.base.keep b o e n hb hx)
  ·obtain⟨sl,e1⟩:=I.base.slot b o e n hb hx;exact⟨sl,(hs.2 b (xM (yY (yG e) (I.ok.cab x c hfn hc)))).trans e1⟩
  ·obtain⟨o',e1⟩:=I.base.there b o e hx;exact⟨o',(hs.2 b (xM (yY (yG e) (I.ok.cab x c hfn hc)))).trans e1⟩
  ·by_cases hj:j=i
   ·subst hj;rw[hi]at e1;cases e1;rw[De hiσ]at e2;cases e2;exact⟨u,r,.inr ⟨.inl hk,c,hc,hc'⟩⟩
   ·rw[DL (Ne.symm hj)]at e2;obtain⟨u',r',q⟩:=hl j y v' e1 e2 e3;refine⟨u',r',?_⟩
    rcases q with q|⟨k,c',e,z'⟩
    ·exact .inl q
    ·refine .inr ⟨k,c',e,z'.sameBut hs ?_⟩;rintro rfl;exact hj (Ma hN e1 (I.ok.inj _ _ _ e hc▸hi))
  ·by_cases hcc:c'=c
   ·subst hcc;exact⟨_,hc'⟩
   ·obtain⟨w2,z2⟩:=I.cell y c' e;exact⟨w2,z2.sameBut hs hcc⟩
  ·obtain⟨e,n,ne,nf,d⟩:=I.pin p hp;refine⟨(hs.2 p.1 ?_).trans e,n,ne,nf,d⟩;intro q;rw[q,hoc]at e;have q':oc=p.2:=jE e;exact d w' (by rw[<-q'];exact hocd)
theorem Jp {M:Model}{A:Around}{E:Value->Shared->Prop}{i:Nat}{x:Str}{v:V}{u:Value}{Q:Unit->Shared->Prop}(I:xK X pins σ H s)(hN:X.N.Nodup)(hi:X.N[i]? =some x)(hx:Loc X.env.scope x)(r:kU v u)
  (h: ∀s',xK X pins (σ.set i (some v)) H s'->Q () s') (hf:X.fn x=true\/X.env.scope.names.lookup x=some .local:=by first|exact .inl rfl|exact .inr rfl|assumption):wpAny M A (storeName X.env x u) Q E s:=
 Nf I hN hi hx r (λs' I' _=>h s' I') hf
theorem xK.call' {s':Shared}{ch:List Addr}(I:xK X pins σ H s)(ho:s'.os=s.os)(u:Un (frs X.stack) ch H H' s.heap s'.heap)(hok:Ix X.prog X.w H' s'.heap)(hg:AllBare s'.gens)
  (hch: ∀b∈ch,(b∈X.ex\/X.s₀.heap.objs.size<=b)/\b≠X.env.locals/\(∀x c,X.env.cells.lookup x=some c->c≠b)/\ ∀p∈X.pn++pins,p.1≠b):xK X pins σ H' s':=by
 obtain⟨h',g',d',t',o'⟩:=s';have e:o'=s.os:=ho;subst e;exact I.call (g':=g') (t':=t') (d':=d') u hok hg hch
end
abbrev XK:=Value->Option Addr->Hp->Prop
abbrev St:=List (Option V)
abbrev VK:=V->Hp->Prop
abbrev TE:=St->Hp->VK->Prop
abbrev TT:=St->Hp->(Bool->Hp->Prop)->Prop
abbrev TA:=St->Hp->(List V->Hp->Prop)->Prop
structure He where
 nx:St->Hp->Prop
 rt:VK
 bk:St->Hp->Prop:=λ_ _=>False
 ct:St->Hp->Prop:=λ_ _=>False
abbrev TS:=He->St->Hp->Prop
def EP (X:Cx)(pins:List (Addr×Obj))(σ:St)(Q:VK)(u:Value)(s':Shared):Prop:= ∃v H',xK X pins σ H' s'/\kU v u/\Q v H'
def TP (X:Cx)(pins:List (Addr×Obj))(σ:St)(Q:Bool->Hp->Prop)(b:Bool)(s':Shared):Prop:= ∃H',xK X pins σ H' s'/\Q b H'
def AP (X:Cx)(pins:List (Addr×Obj))(σ:St)(Q:List V->Hp->Prop)(us:List Value)(s':Shared):Prop:= ∃vs H',xK X pins σ H' s'/\jS vs us/\Q vs H'
def SP (X:Cx)(pins:List (Addr×Obj))(D:He)(f:Flow)(s':Shared):Prop:=
 match f with
 | .next=> ∃σ' H',xK X pins σ' H' s'/\D.nx σ' H'
 | .brk=> ∃σ' H',xK X pins σ' H' s'/\D.bk σ' H'
 | .cont=> ∃σ' H',xK X pins σ' H' s'/\D.ct σ' H'
 | .ret u=> ∃v σ' H',xK X pins σ' H' s'/\kU v u/\D.rt v H'
structure PE (X:Cx)(e:Expr)(t:TE):Prop where
 go: ∀(pins:List (Addr×Obj)) (s:Shared) (σ:St) (H:Hp) (Q:VK),xK X pins σ H s->t σ H Q->wpAny (model X.prog X.w) X.A (eval e X.env) (EP X pins σ Q) X.xe s
instance {X:Cx}{e:Expr}{t:TE}:CoeFun (PE X e t) (λ_=> ∀(pins:List (Addr×Obj)) (s:Shared) (σ:St) (H:Hp) (Q:VK),xK X pins σ H s->t σ H Q->wpAny (model X.prog X.w) X.A (eval e X.env) (EP X pins σ Q) X.xe s):=⟨PE.go⟩
structure PT (X:Cx)(e:Expr)(t:TT):Prop where
 go: ∀(pins:List (Addr×Obj)) (s:Shared) (σ:St) (H:Hp) (Q:Bool->Hp->Prop),xK X pins σ H s->t σ H Q->wpAny (model X.prog X.w) X.A (isTrue e X.env (eval e X.env)) (TP X pins σ Q) X.xe s
instance {X:Cx}{e:Expr}{t:TT}:CoeFun (PT X e t) (λ_=> ∀(pins:List (Addr×Obj)) (s:Shared) (σ:St) (H:Hp) (Q:Bool->Hp->Prop),xK X pins σ H s->t σ H Q->wpAny (model X.prog X.w) X.A (isTrue e X.env (eval e X.env)) (TP X pins σ Q) X.xe s):=⟨PT.go⟩
structure PW (X:Cx)(e:Expr)(t:TT):Prop where
 go: ∀(whole:Sem Value) (pins:List (Addr×Obj)) (s:Shared) (σ:St) (H:Hp) (Q:Bool->Hp->Prop),xK X pins σ H s->t σ H Q->wpAny (model X.prog X.w) X.A (isTrue e X.env whole) (TP X pins σ Q) X.xe s
instance {X:Cx}{e:Expr}{t:TT}:CoeFun (PW X e t) (λ_=> ∀(whole:Sem Value) (pins:List (Addr×Obj)) (s:Shared) (σ:St) (H:Hp) (Q:Bool->Hp->Prop),xK X pins σ H s->t σ H Q->wpAny (model X.prog X.w) X.A (isTrue e X.env whole) (TP X pins σ Q) X.xe s):=⟨PW.go⟩
theorem PW.pt {X:Cx}{e:Expr}{t:TT}(h:PW X e t):PT X e t:=⟨h _⟩
structure PA (X:Cx)(es:List Expr)(t:TA):Prop where
 go: ∀(pos:Pos) (pins:List (Addr×Obj)) (s:Shared) (σ:St) (H:Hp) (Q:List V->Hp->Prop),xK X pins σ H s->t σ H Q->wpAny (model X.prog X.w) X.A (spliced (backTo pos (starEach es X.env))) (AP X pins σ Q) X.xe s
instance {X:Cx}{es:List Expr}{t:TA}:CoeFun (PA X es t) (λ_=> ∀(pos:Pos) (pins:List (Addr×Obj)) (s:Shared) (σ:St) (H:Hp) (Q:List V->Hp->Prop),xK X pins σ H s->t σ H Q->wpAny (model X.prog X.w) X.A (spliced (backTo pos (starEach es X.env))) (AP X pins σ Q) X.xe s):=⟨PA.go⟩
structure PS (X:Cx)(st:Stmt)(t:TS):Prop where
 go: ∀(pins:List (Addr×Obj)) (s:Shared) (σ:St) (H:Hp) (D:He),xK X pins σ H s->t D σ H->wpAny (model X.prog X.w) X.A (exec st X.env) (SP X pins D) X.xe s
instance {X:Cx}{st:Stmt}{t:TS}:CoeFun (PS X st t) (λ_=> ∀(pins:List (Addr×Obj)) (s:Shared) (σ:St) (H:Hp) (D:He),xK X pins σ H s->t D σ H->wpAny (model X.prog X.w) X.A (exec st X.env) (SP X pins D) X.xe s):=⟨PS.go⟩
structure MJ (X:Cx)(st:List Stmt)(t:TS):Prop where
 go: ∀(pins:List (Addr×Obj)) (s:Shared) (σ:St) (H:Hp) (D:He),xK X pins σ H s->t D σ H->wpAny (model X.prog X.w) X.A (execs st X.env) (SP X pins D) X.xe s
instance {X:Cx}{st:List Stmt}{t:TS}:CoeFun (MJ X st t) (λ_=> ∀(pins:List (Addr×Obj)) (s:Shared) (σ:St) (H:Hp) (D:He),xK X pins σ H s->t D σ H->wpAny (model X.prog X.w) X.A (execs st X.env) (SP X pins D) X.xe s):=⟨MJ.go⟩
theorem qT {α:Type}{t:Sem α}{Q Q':α->Shared->Prop}{M:Model}{A:Around}{E:Value->Shared->Prop}{s:Shared}(h:wpAny M A t Q E s)(hQ: ∀a s,Q a s->Q' a s):wpAny M A t Q' E s:=wD h hQ λ_ _ x=>x
section
variable {X:Cx}
inductive Va (i:Nat) (σ:St) (H:Hp) (Q:VK):Prop
 |mk (v:_) (h0:σ[i]? =some (some v)) (h1:Q v H):Va i σ H Q
def tC (v:V):TE:=λ_ H Q=>Q v H
theorem ZS {i:Nat}{x:Str}{pos:Pos}(hN:X.N[i]? =some x)(hv:Vis X.env.scope x)(hd:(x==("__debug__":Str))=false:=by decide)(hcd:(x==("__classdict__":Str))=false:=by decide):PE X (.Name x pos) (Va i):=by
 refine⟨?_⟩;intro pins s σ H Q I h;obtain⟨v,e,h⟩:=h;obtain⟨m,hn,hl⟩:=I.loc;obtain⟨u,r,l⟩:=hl i x v hN e hv;have fin:EP X pins σ Q u s:=⟨v,H,I,r,h⟩
 rcases l with⟨hk,hm⟩|⟨hk,c,hc,hcell⟩
 ·exact wpAny_Name (wpAny_loadName_local I.ok.kind hk hn hm fin) hd
 ·rcases hk with hk|hk
  ·exact wpAny_Name (wpAny_loadName_cell I.ok.kind hk hc hcell fin) hd
  ·exact wpAny_Name (wpAny_loadName_free I.ok.kind hk hc hcell fin hcd) hd
theorem zR {i j pos}:PE X (.Constant (.int i) j pos) (tC (.int i)):=⟨λ_ _ _ H _ I h=>wpAny_Constant_int ⟨.int i,H,I.tok _,⟨_,rfl⟩,h⟩⟩
theorem Fp {b j pos}:PE X (.Constant (.bool b) j pos) (tC (.bl b)):=⟨λ_ _ _ H _ I h=>Constant_bool ⟨.bl b,H,I,rfl,h⟩⟩
theorem ED {j pos}:PE X (.Constant .none j pos) (tC .non):=⟨λ_ _ _ H _ I h=>Constant_none ⟨.non,H,I,rfl,h⟩⟩
theorem jX {x j pos}:PE X (.Constant (.str x) j pos) (tC (.str x)):=⟨λ_ _ _ H _ I h=>EX ⟨.str x,H,I.tok _,⟨_,rfl⟩,h⟩⟩
def Gl (X:Cx)(x:Str):Prop:=X.env.kindOf x=some .globalImplicit
theorem GW {E:Value->Shared->Prop}{pins:List (Addr×Obj)}{s:Shared}{σ:St}{H:Hp}{x:Str}{u:Value}{pos:Pos}{Q:Value->Shared->Prop}(I:xK X pins σ H s)(hg:Gl X x)(hm:X.mg x=some u)(h:Q u s)
  (hd:(x==("__debug__":Str))=false:=by decide):wpAny (model X.prog X.w) X.A (eval (.Name x pos) X.env) Q E s:=
 Calls.Name_function_global I.ok.kind hg (Calls.loadGlobal_global (by rw[I.ok.glob];exact I.mod.glob.keeps I.bk) hm h) hd
theorem Jc {E:Value->Shared->Prop}{pins:List (Addr×Obj)}{s:Shared}{σ:St}{H:Hp}{x:Str}{u:Value}{pos:Pos}{Q:Value->Shared->Prop}(I:xK X pins σ H s)(hg:Gl X x)(hm:X.mg x=none)(hv:bootBuiltins x=some u)(h:Q u s)
  (hn:x≠"__name__":=by decide) (hd:(x==("__debug__":Str))=false:=by decide):wpAny (model X.prog X.w) X.A (eval (.Name x pos) X.env) Q E s:=by
 obtain⟨mb,h1,h2⟩:=I.mod.blt;exact Calls.Name_function_global I.ok.kind hg (Calls.loadGlobal_builtin (by rw[I.ok.glob];exact I.mod.glob.keeps I.bk) hm (by rw[I.ok.blt];exact h1.keeps I.bk) ((h2 x hn).trans hv) h) hd
theorem OX {x:Str}{v:V}{u:Value}{pos:Pos}(hg:Gl X x)(hm:X.mg x=some u)(r:kU v u)(hd:(x==("__debug__":Str))=false:=by decide):PE X (.Name x pos) (tC v):=⟨λ_ _ _ H _ I h=>GW I hg hm ⟨v,H,I,r,h⟩ hd⟩
theorem Il {x:Str}{v:V}{u:Value}{pos:Pos}(hg:Gl X x)(hm:X.mg x=none)(hv:bootBuiltins x=some u)(r:kU v u)(hn:x≠"__name__":=by decide)(hd:(x==("__debug__":Str))=false:=by decide):PE X (.Name x pos) (tC v):=⟨λ_ _ _ H _ I h=>Jc I hg hm hv ⟨v,H,I,r,h⟩ hn hd⟩
variable {a b:Expr}{ta tb:TE}{pos:Pos}
structure PC (X:Cx)(op:CmpOp)(a b:Expr)(t:TE):Prop where
 go: ∀(pins:List (Addr×Obj)) (s:Shared) (σ:St) (H:Hp) (Q:VK),xK X pins σ H s->t σ H Q->
  wpAny (model X.prog X.w) X.A (eval a X.env) (λv s₁=>wpAny (model X.prog X.w) X.A (eval b X.env) (λu s₂=>wpAny (model X.prog X.w) X.A (compareOp op v u) (EP X pins σ Q) X.xe s₂) X.xe s₁) X.xe s
instance {X:Cx}{op:CmpOp}{a b:Expr}{t:TE}:CoeFun (PC X op a b t) (λ_=> ∀(pins:List (Addr×Obj)) (s:Shared) (σ:St) (H:Hp) (Q:VK),xK X pins σ H s->t σ H Q->
  wpAny (model X.prog X.w) X.A (eval a X.env) (λv s₁=>wpAny (model X.prog X.w) X.A (eval b X.env) (λu s₂=>wpAny (model X.prog X.w) X.A (compareOp op v u) (EP X pins σ Q) X.xe s₂) X.xe s₁) X.xe s):=⟨PC.go⟩
theorem Wh (b:Expr){op:CmpOp}(h:op≠ .In)(h2:op≠ .NotIn):behindInMarks op b=false:=by
 have e1:(op==CmpOp.In)=false:=by cases op<;>first|rfl|exact absurd rfl h
 have e2:(op==CmpOp.NotIn)=false:=by cases op<;>first|rfl|exact absurd rfl h2
 cases b<;>simp[behindInMarks,e1,e2]
def tB (t:TE):TT:=λσ H Q=>t σ H λx H1=> ∃c,x=.bl c/\Q c H1
theorem RB {op:CmpOp}{t:TE}(h:PC X op a b t)(h1:behindInMarks op b=false:=by first|exact Wh _ (by decide) (by decide)|rfl):PT X (.Compare a [op] [b] pos) (tB t):=by
 refine⟨?_⟩;intro pins s σ H Q I hw;refine wpAny_isTrue_Compare1 (qT (h pins s σ H _ I hw) λv s1 h1=>qT h1 λu s2 h2=>qT h2 λc s3 ⟨x,H1,I1,r1,q1⟩=>?_) h1;obtain⟨d,rfl,q⟩:=q1;cases r1;exact kY ⟨H1,I1,q⟩
theorem uY {e:Expr}{t:TE}(h:PE X e t)(he: ∀whole,isTrue e X.env whole=(do let v<-whole;standAt e.pos;holding [v] (truthy v)):=by intro _;rfl):PT X e (tB t):=by
 refine⟨?_⟩;intro pins s σ H Q I hw;refine isTrue_plain (qT (h pins s σ H _ I hw) λv s1 ⟨x,H1,I1,r1,q1⟩=>?_) (he _);obtain⟨d,rfl,q⟩:=q1;cases r1;exact kY ⟨H1,I1,q⟩
variable {tA tB':TT}{rest:List Expr}
def zFj (t u:TT):TT:=λσ H Q=>t σ H λc H1=>if c=true then u σ H1 Q else Q false H1
def tOr (t u:TT):TT:=λσ H Q=>t σ H λc H1=>if c=true then Q true H1 else u σ H1 Q
def zFb (t:TT):TT:=λσ H Q=>t σ H λc H1=>Q (!c) H1
theorem Fo (ha:PT X a tA):PW X (.BoolOp .And [a] pos) tA:=by
 refine⟨?_⟩;intro wh pins s σ H Q I h;refine isTrue_and (qT (ha pins s σ H Q I h) λc s1 e=>?_);cases c with
 |true=>exact isTrue_and_nil e
 |false=>exact e
theorem vK (ha:PT X a tA):PW X (.BoolOp .Or [a] pos) tA:=by
 refine⟨?_⟩;intro wh pins s σ H Q I h;refine isTrue_or (qT (ha pins s σ H Q I h) λc s1 e=>?_);cases c with
 |false=>exact isTrue_or_nil e
 |true=>exact e
theorem HI (ha:PT X a tA)(hb:PW X (.BoolOp .And (b::rest) pos) tB'):PW X (.BoolOp .And (a::b::rest) pos) (zFj tA tB'):=by
 refine⟨?_⟩;intro wh pins s σ H Q I h;refine isTrue_and (qT (ha pins s σ H _ I h) λc s1 hzz=>?_);obtain⟨H1,I1,q1⟩:=hzz;cases c with
 |true=>exact hb wh pins s1 σ H1 Q I1 q1
 |false=>exact⟨H1,I1,q1⟩
theorem uX (ha:PT X a tA)(hb:PW X (.BoolOp .Or (b::rest) pos) tB'):PW X (.BoolOp .Or (a::b::rest) pos) (tOr tA tB'):=by
 refine⟨?_⟩;intro wh pins s σ H Q I h;refine isTrue_or (qT (ha pins s σ H _ I h) λc s1 hzz=>?_);obtain⟨H1,I1,q1⟩:=hzz;cases c with
 |true=>exact⟨H1,I1,q1⟩
 |false=>exact hb wh pins s1 σ H1 Q I1 q1
theorem AO (ha:PT X a tA):PT X (.UnaryOp .Not a pos) (zFb tA):=by
 refine⟨?_⟩;intro pins s σ H Q I h;exact isTrue_not (ha pins s σ H (λc H1=>Q (!c) H1) I h)
def YS (ta tb:TE):TE:=λσ H Q=>ta σ H λx H1=> ∃c,x=.bl c/\if c=true then tb σ H1 Q else Q (.bl false) H1
def zFa (ta tb:TE):TE:=λσ H Q=>ta σ H λx H1=> ∃c,x=.bl c/\if c=true then Q (.bl true) H1 else tb σ H1 Q
def zBx (ta:TE):TE:=λσ H Q=>ta σ H λx H1=> ∃c,x=.bl c/\Q (.bl (!c)) H1
theorem OW {op}{t:TE}(h:PE X a t):PE X (.BoolOp op [a] pos) t:=⟨λpins s σ H Q I hw=>BoolOp_one (h pins s σ H Q I hw)⟩
theorem OY (ha:PE X a ta)(hb:PE X (.BoolOp .And (b::rest) pos) tb):PE X (.BoolOp .And (a::b::rest) pos) (YS ta tb):=by
 refine⟨?_⟩;intro pins s σ H Q I h;refine BoolOp_and (qT (ha pins s σ H _ I h) λv s1 hzz=>?_);obtain⟨x,H1,I1,r1,q1⟩:=hzz;obtain⟨c,rfl,q1⟩:=q1;cases r1;refine kY ?_;cases c with
 |true=>exact hb pins s1 σ H1 Q I1 q1
 |false=>exact⟨.bl false,H1,I1,rfl,q1⟩
theorem zCw (ha:PE X a ta)(hb:PE X (.BoolOp .Or (b::rest) pos) tb):PE X (.BoolOp .Or (a::b::rest) pos) (zFa ta tb):=by
 refine⟨?_⟩;intro pins s σ H Q I h;refine BoolOp_or (qT (ha pins s σ H _ I h) λv s1 hzz=>?_);obtain⟨x,H1,I1,r1,q1⟩:=hzz;obtain⟨c,rfl,q1⟩:=q1;cases r1;refine kY ?_;cases c with
 |false=>exact hb pins s1 σ H1 Q I1 q1
 |true=>exact⟨.bl true,H1,I1,rfl,q1⟩
theorem VB (ha:PE X a ta):PE X (.UnaryOp .Not a pos) (zBx ta):=by
 refine⟨?_⟩;intro pins s σ H Q I h;refine UnaryOp_ (qT (ha pins s σ H _ I h) λv s1 hzz=>?_);obtain⟨x,H1,I1,r1,q1⟩:=hzz;obtain⟨c,rfl,q1⟩:=q1;cases r1;exact not_of (kY ⟨.bl (!c),H1,I1,rfl,q1⟩)
def tIf (t:TT)(ta tb:TE):TE:=λσ H Q=>t σ H λc H1=>if c=true then ta σ H1 Q else tb σ H1 Q
theorem VD {c:Expr}(hc:PT X c tA)(ha:PE X a ta)(hb:PE X b tb):PE X (.IfExp c a b pos) (tIf tA ta tb):=by
 refine⟨?_⟩;intro pins s σ H Q I h;refine wpAny_IfExp (qT (hc pins s σ H _ I h) λd s1 hzz=>?_);obtain⟨H1,I1,q1⟩:=hzz;cases d with
 |true=>exact ha pins s1 σ H1 Q I1 q1
 |false=>exact hb pins s1 σ H1 Q I1 q1
end
def Hb (K:PySem.W.Frag)(H:Hp)(a:Addr)(xs:List V):Prop:=
 Rd H a (.lst xs)\/
  ∃(o:Obj) (its:Array Value) (n:Nat),K.lookup a=some o/\o.cls=.type "list"/\o.dict=none/\o.data=.seq its n/\its.size<=sizeLine/\jS xs its.toList
def Gm (K:PySem.W.Frag)(H:Hp)(a:Addr)(xs:List V):Prop:=
 Rd H a (.tup xs)\/
  ∃(o:Obj) (its:Array Value) (n:Nat),K.lookup a=some o/\o.cls=.type "tuple"/\o.data=.seq its n/\its.size<=sizeLine/\jS xs its.toList
def zGb:Value->Option V
 | .none=>some .non
 | .bool b=>some (.bl b)
 | .int i _=>some (.int i)
 | .str x _=>some (.str x)
 | .bytes b _=>some (.byt b)
 | .float b _=>some (.flt b)
 | .ref a=>some (.ref a)
 | .type n=>some (.ty n)
 |_=>none
theorem kU.abs {x:V}{u:Value}(r:kU x u):zGb u=some x:=by
 cases x with
 |non=>cases r;rfl
 |bl _=>cases r;rfl
 |int _=>obtain⟨t,rfl⟩:=r;rfl
 |str _=>obtain⟨t,rfl⟩:=r;rfl
 |byt _=>obtain⟨t,rfl⟩:=r;rfl
 |flt _=>obtain⟨t,rfl⟩:=r;rfl
 |ref _=>cases r;rfl
 |ty _=>cases r;rfl
theorem kU.inj {x y:V}{u:Value}(r:kU x u)(q:kU y u):x=y:=jE (r.abs.symm.trans q.abs)
theorem jS.inj: ∀{xs ys:List V} {us:List Value},jS xs us->jS ys us->xs=ys
 |_,_,_,.nil,.nil=>rfl
 |_,_,_,.cons r t,.cons r' t'=>by rw[r.inj r',jS.inj t t']
section
variable {X:Cx}{pins:List (Addr×Obj)}{σ:St}{H:Hp}{s:Shared}{a:Addr}{xs ys:List V}
theorem Hb.of {K:PySem.W.Frag}(h:H a=some (.lst xs)):Hb K H a xs:=.inl (.inl h)
theorem Gm.of {K:PySem.W.Frag}(h:H a=some (.tup xs)):Gm K H a xs:=.inl (.inl h)
theorem xK.list (I:xK X pins σ H s)(h:Hb X.K H a xs): ∃its:List Value,jS xs its/\PlainL s.heap a its.toArray/\xs.length<=sizeLine:=by
 rcases h with h|⟨o,its,n,hk,hc,hd,hs,hz,r⟩
 ·obtain⟨z,its,n,r,e⟩:=h.ok I.hok;exact⟨its,r,⟨_,n,e,rfl,rfl,rfl⟩,z⟩
 ·refine⟨its.toList,r,⟨o,n,I.kIn a o hk,hc,hd,by simpa using hs⟩,?_⟩;have e:=r.length;simp only[yR]at e;lia
theorem xK.tuple (I:xK X pins σ H s)(h:Gm X.K H a xs): ∃its:List Value,jS xs its/\IsTup s.heap a its.toArray/\xs.length<=sizeLine:=by
 rcases h with h|⟨o,its,n,hk,hc,hs,hz,r⟩
 ·obtain⟨z,its,r,p⟩:=h.ok I.hok;exact⟨its,r,p,z⟩
 ·refine⟨its.toList,r,⟨o,I.kIn a o hk,hc,n,by simpa using hs⟩,?_⟩;have e:=r.length;simp only[yR]at e;lia
theorem xK.list_inj (I:xK X pins σ H s)(h:Hb X.K H a xs)(h':Hb X.K H a ys):xs=ys:=by
 obtain⟨its,r,⟨o,n,e,_,_,d⟩,_⟩:=I.list h;obtain⟨its',r',⟨o',n',e',_,_,d'⟩,_⟩:=I.list h';rw[e]at e';cases e';rw[d]at d';injection d' with d1 _
 have:its=its':=by simpa using jB Array.toList d1
 subst this;exact r.inj r'
theorem xK.tuple_inj (I:xK X pins σ H s)(h:Gm X.K H a xs)(h':Gm X.K H a ys):xs=ys:=by
 obtain⟨its,r,⟨o,e,_,n,d⟩,_⟩:=I.tuple h;obtain⟨its',r',⟨o',e',_,n',d'⟩,_⟩:=I.tuple h';rw[e]at e';cases e';rw[d]at d';injection d' with d1 _
 have:its=its':=by simpa using jB Array.toList d1
 subst this;exact r.inj r'
end
abbrev Cx.wish (X:Cx)(E:Value->Shared->Prop):Cx:={X with xe:=E}
abbrev Cx.nox (X:Cx):Cx:=X.wish λ_ _=>False
theorem Cx.Ok.wish {X:Cx}(ok:X.Ok)(E:Value->Shared->Prop):(X.wish E).Ok:=
 ⟨ok.mod,ok.kind,ok.glob,ok.blt,ok.above,ok.inj,ok.has,ok.cab,ok.hd,ok.frames,ok.stk,ok.exf,ok.bs,ok.bsz,ok.noex,ok.exfs,ok.funs,ok.frf⟩
theorem Cx.Ok.unwish {X:Cx}{E:Value->Shared->Prop}(ok:(X.wish E).Ok):X.Ok:=
 ⟨ok.mod,ok.kind,ok.glob,ok.blt,ok.above,ok.inj,ok.has,ok.cab,ok.hd,ok.frames,ok.stk,ok.exf,ok.bs,ok.bsz,ok.noex,ok.exfs,ok.funs,ok.frf⟩
section
variable {X:Cx}{pins:List (Addr×Obj)}{σ:St}{H:Hp}{s:Shared}{E:Value->Shared->Prop}
theorem xK.wish (I:xK X pins σ H s)(E:Value->Shared->Prop):xK (X.wish E) pins σ H s:=⟨I.ok.wish E,I.os,I.bare,I.base,I.loc,I.cell,I.free,I.freeC,I.pin,I.hok,I.len⟩
theorem xK.unwish (I:xK (X.wish E) pins σ H s):xK X pins σ H s:=⟨I.ok.unwish,I.os,I.bare,I.base,I.loc,I.cell,I.free,I.freeC,I.pin,I.hok,I.len⟩
theorem SP.unwish {D:He}{f:Flow}{s':Shared}(h:SP (X.wish E) pins D f s'):SP X pins D f s':=by
 cases f with
 |next=>obtain⟨σ',H',I,q⟩:=h;exact⟨σ',H',I.unwish,q⟩
 |brk=>obtain⟨σ',H',I,q⟩:=h;exact⟨σ',H',I.unwish,q⟩
 |cont=>obtain⟨σ',H',I,q⟩:=h;exact⟨σ',H',I.unwish,q⟩
 |ret u=>obtain⟨v,σ',H',I,r,q⟩:=h;exact⟨v,σ',H',I.unwish,r,q⟩
theorem MJ.nox {st:List Stmt}{t:TS}(h:MJ X.nox st t):MJ X st t:=⟨λpins s σ H D I hw=>
 wD (h pins s σ H D (I.wish _) hw) (λ_ _ q=>q.unwish) λ_ _ z=>False.elim z⟩
end
section
variable {X:Cx}{st:Stmt}{rest:List Stmt}{t u:TS}{e:Expr}{te:TE}{pos:Pos}
def zBy:TS:=λD σ H=>D.nx σ H
def Zz (t u:TS):TS:=λD σ H=>t {D with nx:=u D} σ H
theorem yM:MJ X [] zBy:=⟨λ_ _ σ H _ I h=>BA ⟨σ,H,I,h⟩⟩
theorem zF (h1:PS X st t)(h2:MJ X rest u):MJ X (st::rest) (Zz t u):=by
 refine⟨?_⟩;intro pins s σ H D I h;refine Bh (qT (h1 pins s σ H {D with nx:=u D} I h) λf s1 q=>?_);cases f with
 |next=>
  obtain⟨σ',H',I',q⟩:=q;exact h2 pins s1 σ' H' D I' q
 |ret v=>exact q
 |brk=>exact q
 |cont=>exact q
theorem zL (h1:PS X st t):MJ X [st] t:=by
 refine⟨?_⟩;intro pins s σ H D I h;refine Bh (qT (h1 pins s σ H D I h) λf s1 q=>?_);cases f with
 |next=>exact BA q
 |ret v=>exact q
 |brk=>exact q
 |cont=>exact q
theorem xK.quiet {pins:List (Addr×Obj)}{σ:St}{H:Hp}{s:Shared}(I:xK X pins σ H s):interactive X.env=false:=by simp[interactive,I.ok.kind]
def zCb (te:TE):TS:=λD σ H=>te σ H λ_ H1=>D.nx σ H1
theorem jJ (he:PE X e te)(hs:swapsWith e none pos.line X.env=pure false:=by rfl):PS X (.Expr e pos) (zCb te):=by
 refine⟨?_⟩;intro pins s σ H D I h;exact wpAny_Expr_any (qT (he pins s σ H _ I h) λv s1 ⟨x,H1,I1,r1,q1⟩=>⟨σ,H1,I1,q1⟩) I.quiet hs
def zBv (te:TE):TS:=λD σ H=>te σ H D.rt
theorem yO (he:PE X e te):PS X (.Return (some e) pos) (zBv te):=by
 refine⟨?_⟩;intro pins s σ H D I h;exact wpAny_Return_some (qT (he pins s σ H _ I h) λv s1 ⟨x,H1,I1,r1,q1⟩=>⟨x,σ,H1,I1,r1,q1⟩)
def zCa (c:TT)(t u:TS):TS:=λD σ H=>c σ H λb H1=>if b=true then t D σ H1 else u D σ H1
theorem xP {c:Expr}{a b:List Stmt}{tc:TT}(hc:PT X c tc)(ha:MJ X a t)(hb:MJ X b u):PS X (.If c a b pos) (zCa tc t u):=by
 refine⟨?_⟩;intro pins s σ H D I h;refine wpAny_If (qT (hc pins s σ H _ I h) λd s1 hzz=>?_);obtain⟨H1,I1,q1⟩:=hzz;cases d with
 |true=>exact ha pins s1 σ H1 D I1 q1
 |false=>exact hb pins s1 σ H1 D I1 q1
end
abbrev TG:=V->St->Hp->(St->Hp->Prop)->Prop
abbrev TGs:=List V->St->Hp->(St->Hp->Prop)->Prop
structure PG (X:Cx)(target:Expr)(t:TG):Prop where
 go: ∀(pins:List (Addr×Obj)) (s:Shared) (σ:St) (H:Hp) (v:V) (u:Value) (Q:St->Hp->Prop),xK X pins σ H s->kU v u->t v σ H Q->
  wpAny (model X.prog X.w) X.A (assign target X.env u) (λ_ s'=> ∃σ' H',xK X pins σ' H' s'/\Q σ' H') X.xe s
instance {X:Cx}{target:Expr}{t:TG}:CoeFun (PG X target t) (λ_=> ∀(pins:List (Addr×Obj)) (s:Shared) (σ:St) (H:Hp) (v:V) (u:Value) (Q:St->Hp->Prop),xK X pins σ H s->kU v u->t v σ H Q->
  wpAny (model X.prog X.w) X.A (assign target X.env u) (λ_ s'=> ∃σ' H',xK X pins σ' H' s'/\Q σ' H') X.xe s):=⟨PG.go⟩
structure PGs (X:Cx)(ts:List Expr)(t:TGs):Prop where
 go: ∀(pins:List (Addr×Obj)) (s:Shared) (σ:St) (H:Hp) (vs:List V) (us:List Value) (Q:St->Hp->Prop),xK X pins σ H s->jS vs us->t vs σ H Q->
  wpAny (model X.prog X.w) X.A (assignInOrder ((assignEach ts X.env).map (·.2)) us) (λ_ s'=> ∃σ' H',xK X pins σ' H' s'/\Q σ' H') X.xe s
instance {X:Cx}{ts:List Expr}{t:TGs}:CoeFun (PGs X ts t) (λ_=> ∀(pins:List (Addr×Obj)) (s:Shared) (σ:St) (H:Hp) (vs:List V) (us:List Value) (Q:St->Hp->Prop),xK X pins σ H s->jS vs us->t vs σ H Q->
  wpAny (model X.prog X.w) X.A (assignInOrder ((assignEach ts X.env).map (·.2)) us) (λ_ s'=> ∃σ' H',xK X pins σ' H' s'/\Q σ' H') X.xe s):=⟨PGs.go⟩
abbrev zBd:=V->V->V->Hp->(Hp->Prop)->Prop
def zDo (X:Cx)(t:zBd):Prop:=
 ∀(pins:List (Addr×Obj)) (s:Shared) (σ:St) (H:Hp) (o i v:V) (ov iv u:Value) (Q:Hp->Prop),xK X pins σ H s->kU o ov->kU i iv->kU v u->t o i v H Q->
  wpAny (model X.prog X.w) X.A (setItem ov iv u) (λ_ s'=> ∃H',xK X pins σ H' s'/\Q H') X.xe s
abbrev TIp:=V->V->Hp->VK->Prop
def PIp (X:Cx)(op:Operator)(t:TIp):Prop:=
 ∀(pins:List (Addr×Obj)) (s:Shared) (σ:St) (H:Hp) (x y:V) (v u:Value) (Q:VK),xK X pins σ H s->kU x v->kU y u->t x y H Q->
  wpAny (model X.prog X.w) X.A (inplaceOp op v u) (EP X pins σ Q) X.xe s
section
variable {X:Cx}{pos:Pos}
def NW (i:Nat):TG:=λv σ H Q=>Q (σ.set i (some v)) H
theorem xJ {i:Nat}{x:Str}(hN:X.N.Nodup)(hi:X.N[i]? =some x)(hx:Loc X.env.scope x)(hf:X.fn x=true\/X.env.scope.names.lookup x=some .local:=by first|exact .inl rfl|exact .inr rfl|assumption):PG X (.Name x pos) (NW i):=by
 refine⟨?_⟩;intro pins s σ H v u Q I r h;exact wpAny_assign_Name (Jp I hN hi hx r (λs' I'=>⟨_,H,I',h⟩) hf)
inductive zDg (vs:List V) (σ:St) (H:Hp) (Q:St->Hp->Prop):Prop
 |mk (h0:vs=[]) (h1:Q σ H):zDg vs σ H Q
inductive Zg (t:TG) (u:TGs) (vs:List V) (σ:St) (H:Hp) (Q:St->Hp->Prop):Prop
 |mk (v r:_) (h0:vs=v::r) (h1:t v σ H λσ' H'=>u r σ' H' Q):Zg t u vs σ H Q
theorem uL:PGs X [] zDg:=by
 refine⟨?_⟩;intro pins s σ H vs us Q I r h;obtain⟨e,h⟩:=h;subst e;cases r;exact assignInOrder_nil ⟨σ,H,I,h⟩
theorem xU {e:Expr}{es:List Expr}{t:TG}{u:TGs}(h1:PG X e t)(h2:PGs X es u)
  (hs:(assignEach (e::es) X.env).map (·.2)=assign e X.env::(assignEach es X.env).map (·.2):=by rfl):PGs X (e::es) (Zg t u):=by
 refine⟨?_⟩;intro pins s σ H vs us Q I r h;obtain⟨v,vr,e1,h⟩:=h;subst e1;cases r with
 |cons r rr=>
  rw[hs];refine assignInOrder_cons (qT (h1 pins s σ H _ _ _ I r h) λ_ s1 hzz=>?_);obtain⟨σ1,H1,I1,q1⟩:=hzz;exact h2 pins s1 σ1 H1 _ _ Q I1 rr q1
inductive zAr (K:PySem.W.Frag) (n:Nat) (t:TGs) (v:V) (σ:St) (H:Hp) (Q:St->Hp->Prop):Prop
 |mk (a xs:_) (h0:v=.ref a) (h1:Gm K H a xs) (h2:xs.length=n) (h3:t xs σ H Q):zAr K n t v σ H Q
theorem Bo {es:List Expr}{k:Nat}{t:TGs}{n:Nat}(hc:X.calm=true)(h:PGs X es t)
  (hn:(assignEach es X.env).length =n:=by rfl) (hst:(assignEach es X.env).findIdx? (·.1)=none:=by rfl):PG X (.Tuple es k pos) (zAr X.K n t):=by
 refine⟨?_⟩;intro pins s σ H v u Q I r hw;obtain⟨a,xs,e1,hq,hl,hw⟩:=hw;subst e1;cases r;obtain⟨its,rv,ht,hz⟩:=I.tuple hq;refine assign_Tuple_tuple (I.ok.hd hc) ht (by simp[hn,<-hl,rv.length]) hst λh' hx=>?_;have I1:xK X pins σ H {s with heap:=h'}:=I.kept (t':=s.toks) λb o e=>hx b o (xM (yG e)) e;exact h pins _ σ H xs _ Q I1 (by simpa using rv) hw
def zFz (to ti:TE)(t:zBd):TG:=λv σ H Q=>to σ H λo H1=>ti σ H1 λi H2=>t o i v H2 λH3=>Q σ H3
theorem Kl {o i:Expr}{to ti:TE}{t:zBd}(ho:PE X o to)(hi:PE X i ti)(hs:zDo X t)
  (ha: ∀v,assign (.Subscript o i pos) X.env v=(do
   let ov<-holding [v] (eval o X.env)
   let iv<-holding [v,ov] (eval i X.env)
   standAt pos
   holding [v,ov,iv] (setItem ov iv v)
   release [v,ov,iv] []):=by intro _;rfl):PG X (.Subscript o i pos) (zFz to ti t):=by
 refine⟨?_⟩;intro pins s σ H v u Q I r h;rw[ha];refine zC (qK (qT (ho pins s σ H _ I h) λov s1 hzz=>?_));obtain⟨x,H1,I1,r1,q1⟩:=hzz;refine zC (qK (qT (hi pins s1 σ H1 _ I1 q1) λiv s2 hzz=>?_));obtain⟨y,H2,I2,r2,q2⟩:=hzz;refine zC (Dy (zC (qK (qT (hs pins s2 σ H2 x y v ov iv u _ I2 r1 r2 r q2) λ_ s3 hzz=>?_))));obtain⟨H3,I3,q3⟩:=hzz;exact wpAny_release ⟨σ,H3,I3,q3⟩
def zCe (te:TE)(g:TG):TS:=λD σ H=>te σ H λx H1=>g x σ H1 D.nx
theorem BJ {tg e:Expr}{te:TE}{g:TG}(he:PE X e te)(hg:PG X tg g)(hs:swapsWithSole [tg] e pos.line X.env=pure false:=by rfl)(hw:swappedStores [tg] e X.env=pure none:=by rfl)
  (h1:(assignEach [tg] X.env).map (·.2)=[assign tg X.env]:=by rfl):PS X (.Assign [tg] e pos) (zCe te g):=by
 refine⟨?_⟩;intro pins s σ H D I h;refine wpAny_Assign_stores (qT (he pins s σ H _ I h) λv s1 ⟨x,H1,I1,r1,q1⟩=>?_) hs hw;rw[h1];exact qT (hg pins s1 σ H1 x v _ I1 r1 q1) λ_ s2 q=>q
theorem yS {i:Nat}{x:Str}{e:Expr}{te:TE}{pos':Pos}(hN:X.N.Nodup)(hi:X.N[i]? =some x)(hx:Loc X.env.scope x)(he:PE X e te)(hs:swapsWith e (some (.Name x pos')) pos.line X.env=pure false:=by rfl)(hf:X.fn x=true\/X.env.scope.names.lookup x=some .local:=by first|exact .inl rfl|exact .inr rfl|assumption):
  PS X (.Assign [.Name x pos'] e pos) (zCe te (NW i)):=by
 refine⟨?_⟩;intro pins s σ H D I h;refine wpAny_Assign_Name (qT (he pins s σ H _ I h) λv s1 ⟨y,H1,I1,r1,q1⟩=>?_) hs;exact Jp I1 hN hi hx r1 (λs2 I2=>⟨_,H1,I2,q1⟩) hf
def zFi (i:Nat)(te:TE)(ti:TIp):TS:=λD σ H=> ∃x,σ[i]? =some (some x)/\te σ H λy H1=>ti x y H1 λz H2=>D.nx (σ.set i (some z)) H2
theorem ZN {i:Nat}{x:Str}{e:Expr}{te:TE}{op:Operator}{ti:TIp}{pos':Pos}(hN:X.N.Nodup)(hi:X.N[i]? =some x)(hx:Loc X.env.scope x)(he:PE X e te)(ho:PIp X op ti)(hf:X.fn x=true\/X.env.scope.names.lookup x=some .local:=by first|exact .inl rfl|exact .inr rfl|assumption):
  PS X (.AugAssign (.Name x pos') op e pos) (zFi i te ti):=by
 refine⟨?_⟩;intro pins s σ H D I h;obtain⟨v,e1,h⟩:=h;obtain⟨m,hn,hl⟩:=I.loc;have vis:Vis X.env.scope x:=by rcases hx with k|k;exact .inl k;exact .inr (.inl k)
 obtain⟨u,r,l⟩:=hl i x v hi e1 vis;refine wpAny_AugAssign_Name ?_;have go:wpAny (model X.prog X.w) X.A (eval e X.env) (λw s₂=>wpAny (model X.prog X.w) X.A (inplaceOp op u w) (λr s₃=>wpAny (model X.prog X.w) X.A (storeName X.env x r) (λ_=>SP X pins D .next) X.xe s₃) X.xe s₂) X.xe s:=by
  refine qT (he pins s σ H _ I h) λw s1 hzz=>?_;obtain⟨y,H1,I1,r1,q1⟩:=hzz;refine qT (ho pins s1 σ H1 v y u w _ I1 r r1 q1) λz s2 hzz=>?_;obtain⟨zv,H2,I2,r2,q2⟩:=hzz;exact Jp I2 hN hi hx r2 (λs3 I3=>⟨_,H2,I3,q2⟩) hf
 rcases l with⟨hk,hm⟩|⟨hk,c,hc,hcell⟩
 ·exact wpAny_loadName_local I.ok.kind hk hn hm go
 ·rcases hk with hk|hk
  ·exact wpAny_loadName_cell I.ok.kind hk hc hcell go
  ·rcases hx with k|k
   ·have:X.env.scope.names.lookup x=some .free:=hk;rw[k]at this;cases this
   ·have:X.env.scope.names.lookup x=some .free:=hk;rw[k]at this;cases this
def ipI (f:Int->Int->Int):TIp:=λx y H Q=> ∃i j,x=.int i/\y=.int j/\Q (.int (f i j)) H
theorem zAm:PIp X .Add (ipI λi j=>i+j):=by
 intro pins s σ H x y v u Q I r1 r2 h;obtain⟨i,j,e1,e2,q⟩:=h;subst e1;subst e2;obtain⟨t,rfl⟩:=r1;obtain⟨t',rfl⟩:=r2;exact iadd_int ⟨.int _,H,I.tok _,⟨_,rfl⟩,q⟩
def Zy (c:TT)(tb:TS):TS:=λD σ H=> ∃W:Nat->St->Hp->Prop,(∃m,W m σ H)/\ ∀m σ H,W m σ H->
 c σ H λb H1=>if b=true then ∃N:St->Hp->Prop,(∀σ' H',N σ' H'-> ∃m',m'<m/\W m' σ' H')/\tb {D with nx:=N,ct:=N,bk:=D.nx} σ H1 else D.nx σ H1
theorem EC {c:Expr}{body:List Stmt}{tc:TT}{tb:TS}(hp:PassesOwn (model X.prog X.w) X.A X.env X.xe)(hc:PT X c tc)(hb:MJ X body tb):PS X (.While c body [] pos) (Zy tc tb):=by
 refine⟨?_⟩;intro pins s σ H D I h;obtain⟨W,⟨m0,w0⟩,turn⟩:=h;refine wpAny_While (codeAny_whileLoop (λn s'=> ∃σ' H',xK X pins σ' H' s'/\W n σ' H') ?_ m0 ⟨σ,H,I,w0⟩);rintro n s1 ⟨σ1,H1,I1,w1⟩;refine uH hp (qT (hc pins s1 σ1 H1 _ I1 (turn n σ1 H1 w1)) λb s2 hzz=>?_);obtain⟨H2,I2,q2⟩:=hzz;cases b with
 |true=>
  obtain⟨N,hN,q2⟩:=q2;rw[zT rfl];refine uH hp (qT (hb pins s2 σ1 H2 _ I2 q2) λf s3 q3=>?_);cases f with
  |next=>
   obtain⟨σ3,H3,I3,n3⟩:=q3;obtain⟨m',hm,w3⟩:=hN σ3 H3 n3;exact⟨m',hm,σ3,H3,I3,w3⟩
  |cont=>
   obtain⟨σ3,H3,I3,n3⟩:=q3;obtain⟨m',hm,w3⟩:=hN σ3 H3 n3;exact⟨m',hm,σ3,H3,I3,w3⟩
  |brk=>exact q3
  |ret v=>exact q3
 |false=>
  rw[zI yK];exact BA ⟨σ1,H2,I2,q2⟩
end
structure It where
 go:Nat->Hp->Prop
 yld:Nat->Hp->V->Hp->Prop
 stop:Nat->Hp->Prop
def MV (X:Cx)(pins:List (Addr×Obj))(H:Hp)(b:Addr):Prop:=
 H b=none/\b≠X.env.locals/\b∉X.fs/\(b∈X.ex\/X.s₀.heap.objs.size<=b)/\(∀x c,X.env.cells.lookup x=some c->c≠b)/\ ∀p∈X.pn++pins,p.1≠b
theorem xK.fpOk {X:Cx}{pins:List (Addr×Obj)}{σ:St}{H H':Hp}{s:Shared}{b:Addr}(I:xK X pins σ H s)(hb:s.heap.objs.size<=b)(hn:H' b=none):MV X pins H' b:=by
 refine⟨hn,qP (yY I.lt hb),I.nofs hb,.inr (yT I.sz hb),λx c e z=>?_,λp hp z=>?_⟩
 ·obtain⟨v,q⟩:=I.cell x c e;exact absurd (yY q.lt (by rw[z];exact hb)) (kQ _)
 ·exact absurd (yY (yG (I.pin p hp).1) (by rw[z];exact hb)) (kQ _)
structure Pz (P:Program)(w:World)(K:PySem.W.Frag)(tg:Expr)(J:It)(fp:List Addr)(it:Addr)(tn:Nat->Heap->Prop):Prop where
 mem:it∈fp
 obj: ∀i h,tn i h-> ∀b∈fp,∃o,h.get? b=some o/\ ∀v,o.data≠ .cell v
 keep: ∀i h h',tn i h->(∀b∈fp,∀o,h.get? b=some o->h'.get? b=some o)->tn i h'
 item: ∀(X:Cx),X.prog=P->X.w=w->X.K=K->X.calm=true-> ∀(i:Nat) (pins:List (Addr×Obj)) (s:Shared) (σ:St) (H:Hp) (E:Value->Shared->Prop),xK X pins σ H s->(∀b∈fp,MV X pins H b)->tn i s.heap->J.go i H->
  wpAny (model P w) X.A (pyNext (.ref it)) (λr s1=> ∃u,r=some u/\
   wpAny (model P w) X.A (letOwnedTupleGo tg (.ref it) u) (λ_ s2=> ∃x H',xK X pins σ H' s2/\kU x u/\J.yld i H x H'/\tn (i+1) s2.heap/\ ∀b∈fp,H' b=none) E s1) E s
 done: ∀(X:Cx),X.prog=P->X.w=w->X.K=K->X.calm=true-> ∀(i:Nat) (pins:List (Addr×Obj)) (s:Shared) (σ:St) (H:Hp) (E:Value->Shared->Prop),xK X pins σ H s->(∀b∈fp,MV X pins H b)->tn i s.heap->J.stop i H->
  wpAny (model P w) X.A (pyNext (.ref it)) (λr s1=>r=none/\xK X pins σ H s1) E s
 self: ∀(A:Around) (i:Nat) (s:Shared) (Q:Value->Shared->Prop) (E:Value->Shared->Prop),tn i s.heap->Q (.ref it) s->wpAny (model P w) A (pyIter (.ref it)) Q E s
abbrev TI:=St->Hp->(It->Hp->Prop)->Prop
def PIE (X:Cx)(pins:List (Addr×Obj))(σ:St)(tg:Expr)(R:It->Hp->Prop)(itv:Value)(s2:Shared):Prop:=
 ∃(it:Addr) (fp:List Addr) (tn:Nat->Heap->Prop) (J:It) (H':Hp),itv=.ref it/\xK X pins σ H' s2/\Pz X.prog X.w X.K tg J fp it tn/\tn 0 s2.heap/\(∀b∈fp,MV X pins H' b)/\R J H'
structure PI (X:Cx)(tg iter:Expr)(wi:TI):Prop where
 go: ∀(pins:List (Addr×Obj)) (s:Shared) (σ:St) (H:Hp) (R:It->Hp->Prop),xK X pins σ H s->wi σ H R->
  wpAny (model X.prog X.w) X.A (eval iter X.env) (λv s1=>wpAny (model X.prog X.w) X.A (pyIter v) (PIE X pins σ tg R) X.xe s1) X.xe s
instance {X:Cx}{tg iter:Expr}{wi:TI}:CoeFun (PI X tg iter wi) (λ_=> ∀(pins:List (Addr×Obj)) (s:Shared) (σ:St) (H:Hp) (R:It->Hp->Prop),xK X pins σ H s->wi σ H R->
  wpAny (model X.prog X.w) X.A (eval iter X.env) (λv s1=>wpAny (model X.prog X.w) X.A (pyIter v) (PIE X pins σ tg R) X.xe s1) X.xe s):=⟨PI.go⟩
theorem Mr {M : Model} {A : Around} {E : Value -> Shared -> Prop} {s : Shared} {tg : Expr} {it : Addr} {u : Value} {o : Obj} {n : String} {vs : Array Value} {Q : Unit -> Shared -> Prop} (ho : s.heap.get? it = some o) (hc : o.cls = .type n) (hd : o.data = .fields vs)
    (hn : ["enumerate", "zip", "dict_itemiterator", "dict_reverseitemiterator", "odict_iterator", "itertools.zip_longest", "itertools.pairwise"].contains n = false) (hQ : Q () s) : wpAny M A (letOwnedTupleGo tg (.ref it) u) Q E s := by
  unfold letOwnedTupleGo;cases tg <;> first
    | exact zP hQ
    | (cases u <;> first
        | exact zP hQ
        | (refine zC (wpAny_load ho ?_)
           rw [hc, hd];show wpAny M A (if (["enumerate", "zip", "dict_itemiterator", "dict_reverseitemiterator", "odict_iterator", "itertools.zip_longest", "itertools.pairwise"].contains n && vs[0]? == some (rawInt _)) = true then _ else _) Q E s;rw [zI (by intro h; rw [hn, Bool.false_and] at h; cases h)];exact zP hQ))
def Itl (K:PySem.W.Frag)(a:Addr):It:=
 ⟨λi H=> ∃xs x,Hb K H a xs/\xs[i]? =some x,λi H x H'=>H'=H/\ ∀xs,Hb K H a xs->xs[i]? =some x,λi H=> ∃xs,Hb K H a xs/\xs.length<=i⟩
def Itt (K:PySem.W.Frag)(a:Addr):It:=
 ⟨λi H=> ∃xs x,Gm K H a xs/\xs[i]? =some x,λi H x H'=>H'=H/\ ∀xs,Gm K H a xs->xs[i]? =some x,λi H=> ∃xs,Gm K H a xs/\xs.length<=i⟩
def Itr (lo:Int)(n:Nat):It:=⟨λi _=>i<n,λi H x H'=>H'=H/\x=.int (lo+i),λi _=>n<=i⟩
theorem Nc {P:Program}{w:World}{K:PySem.W.Frag}{tg:Expr}(a it:Addr):Pz P w K tg (Itl K a) [it] it (λi h=>h.IsListIter it a i) where
 mem:=by simp
 obj:=λi h st b hb=>by
  have e:b=it:=by simpa using hb
  subst e;obtain⟨o,e,c,d⟩:=st;exact⟨o,e,λv z=>by rw[d]at z;cases z⟩
 keep:=λi h h' st k=>st.at λo e=>k it (by simp) o e
 item:=by
  intro X hP hw hK hc i pins s σ H E I hf st hg;subst hP hw hK;obtain⟨xs,x,hq,hx⟩:=hg;obtain⟨its,rv,p,hz⟩:=I.list hq;obtain⟨u,hu,ru⟩:=rv.get hx;obtain⟨f0,f1,f2,f3,f4,f5⟩:=hf it (by simp);refine wpAny_pyNext_list_item st p.isList (x:=u) (by simpa using hu) λh' st' sb=>?_;have I1:xK X pins σ H {s with heap:=h'}:=I.turned (t':=s.toks) (λb o hb e=>(sb.2 b hb).trans e) f0 f1 f3 f4 f5;obtain⟨o,e,c,d⟩:=id st';exact⟨u,rfl,Mr (s:={s with heap:=h'}) e c d (by decide) ⟨x,H,I1,ru,⟨rfl,λys hy=>by rw[I.list_inj hy hq];exact hx⟩,st',λb hb=>(hf b hb).1⟩⟩
 done:=by
  intro X hP hw hK hc i pins s σ H E I hf st hg;subst hP hw hK;obtain⟨xs,hq,hx⟩:=hg;obtain⟨its,rv,p,hz⟩:=I.list hq;obtain⟨f0,f1,f2,f3,f4,f5⟩:=hf it (by simp);have hl:=rv.length;exact wpAny_pyNext_list_end (I.ok.hd hc) st p.isList (by simp;lia) λh' eb=>⟨rfl,I.turned (t':=s.toks) (λb o hb e=>eb b o hb e) f0 f1 f3 f4 f5⟩
 self:=λ_ _ _ _ _ st h=>wpAny_pyIter_listiter st h
theorem Rf {P:Program}{w:World}{K:PySem.W.Frag}{tg:Expr}(a it:Addr):Pz P w K tg (Itt K a) [it] it (λi h=>h.IsTupleIter it a i) where
 mem:=by simp
 obj:=λi h st b hb=>by
  have e:b=it:=by simpa using hb
  subst e;obtain⟨o,e,c,d⟩:=st;exact⟨o,e,λv z=>by rw[d]at z;cases z⟩
 keep:=λi h h' st k=>st.at λo e=>k it (by simp) o e
 item:=by
  intro X hP hw hK hc i pins s σ H E I hf st hg;subst hP hw hK;obtain⟨xs,x,hq,hx⟩:=hg;obtain⟨its,rv,p,hz⟩:=I.tuple hq;obtain⟨u,hu,ru⟩:=rv.get hx;obtain⟨f0,f1,f2,f3,f4,f5⟩:=hf it (by simp);refine wpAny_pyNext_tuple_item st (show s.heap.IsTuple a its.toArray from p) (x:=u) (by simpa using hu) λh' st' sb=>?_;have I1:xK X pins σ H {s with heap:=h'}:=I.turned (t':=s.toks) (λb o hb e=>(sb.2 b hb).trans e) f0 f1 f3 f4 f5;obtain⟨o,e,c,d⟩:=id st';exact⟨u,rfl,Mr (s:={s with heap:=h'}) e c d (by decide) ⟨x,H,I1,ru,⟨rfl,λys hy=>by rw[I.tuple_inj hy hq];exact hx⟩,st',λb hb=>(hf b hb).1⟩⟩
 done:=by
  intro X hP hw hK hc i pins s σ H E I hf st hg;subst hP hw hK;obtain⟨xs,hq,hx⟩:=hg;obtain⟨its,rv,p,hz⟩:=I.tuple hq;obtain⟨f0,f1,f2,f3,f4,f5⟩:=hf it (by simp);have hl:=rv.length;exact wpAny_pyNext_tuple_end (I.ok.hd hc) st (show s.heap.IsTuple a its.toArray from p) (by simp;lia) λh' eb=>⟨rfl,I.turned (t':=s.toks) (λb o hb e=>eb b o hb e) f0 f1 f3 f4 f5⟩
 self:=λ_ _ _ _ _ st h=>wpAny_pyIter_tupleiter st h
theorem Rg {P:Program}{w:World}{K:PySem.W.Frag}{tg:Expr}(it:Addr)(lo:Int)(n:Nat):Pz P w K tg (Itr lo n) [it] it (λi h=>IsRangeIter h it (lo+(i:Nat)*1) ((n:Int)-(i:Nat)) 1) where
 mem:=by simp
 obj:=λi h st b hb=>by
  have e:b=it:=by simpa using hb
  subst e;exact⟨_,st,λv z=>by
   have z':Data.fields _=Data.cell v:=z;cases z'⟩
 keep:=λi h h' st k=>k it (by simp) _ st
 item:=by
  intro X hP hw hK hc i pins s σ H E I hf st hg;subst hP hw hK;obtain⟨f0,f1,f2,f3,f4,f5⟩:=hf it (by simp);have W:=Walks.range (prog:=X.prog) (w:=X.w) (I.ok.hd hc) it lo 1 n;refine W.item i s _ _ hg st λv h' tk hv st' kk=>?_;obtain⟨t,rfl⟩:=hv;have I1:xK X pins σ H {s with heap:=h',toks:=tk}:=I.turned (λb o hb e=>kk b o (by simpa using hb) e) f0 f1 f3 f4 f5;refine⟨_,rfl,Mr (s:={s with heap:=h',toks:=tk}) (n:="range_iterator") st' rfl rfl (by decide) ⟨.int (lo+i),H,I1,⟨t,?_⟩,⟨rfl,rfl⟩,st',λb hb=>(hf b hb).1⟩⟩;rw[Int.mul_one]
 done:=by
  intro X hP hw hK hc i pins s σ H E I hf st hg;subst hP hw hK;obtain⟨f0,f1,f2,f3,f4,f5⟩:=hf it (by simp);exact wpAny_pyNext_range_end (I.ok.hd hc) st (by have:n<=i:=hg;lia) λh' eb=>⟨rfl,I.turned (t':=s.toks) (λb o hb e=>eb b o hb e) f0 f1 f3 f4 f5⟩
 self:=λ_ _ _ _ _ st h=>wpAny_pyIter_rangeiter st h
section
variable {X:Cx}{tg:Expr}
inductive Wv (K:PySem.W.Frag) (x:V) (H1:Hp) (R:It->Hp->Prop):Prop
 |mk (a:_) (h0:x=.ref a) (h1:(∃xs,Hb K H1 a xs)) (h2:R (Itl K a) H1):Wv K x H1 R
def Ze (K:PySem.W.Frag)(tl:TE):TI:=λσ H R=>tl σ H λx H1=>Wv K x H1 R
inductive Zb (K:PySem.W.Frag) (x:V) (H1:Hp) (R:It->Hp->Prop):Prop
 |mk (a:_) (h0:x=.ref a) (h1:(∃xs,Gm K H1 a xs)) (h2:R (Itt K a) H1):Zb K x H1 R
def zFv (K:PySem.W.Frag)(tl:TE):TI:=λσ H R=>tl σ H λx H1=>Zb K x H1 R
theorem Ik {l:Expr}{tl:TE}(hl:PE X l tl):PI X tg l (Ze X.K tl):=by
 refine⟨?_⟩;intro pins s σ H R I h;refine qT (hl pins s σ H _ I h) λv s1 hzz=>?_;obtain⟨x,H1,I1,r1,q1⟩:=hzz;obtain⟨a,e,⟨xs,hq⟩,q⟩:=q1;subst e;cases r1;obtain⟨its,rv,p,hz⟩:=I1.list hq;refine CV p.isList ?_;refine⟨s1.heap.objs.size,[s1.heap.objs.size],_,_,H1,rfl,I1.kept (t':=s1.toks) λb o e=>zJ _ e,Nc a _,⟨_,yL _ rfl,rfl,rfl⟩,λb hb=>?_,q⟩;have e:b=s1.heap.objs.size:=by simpa using hb
 subst e;exact I1.fpOk (zW _) (I1.hok.fresh (zW _))
theorem ZQ {l:Expr}{tl:TE}(hl:PE X l tl):PI X tg l (zFv X.K tl):=by
 refine⟨?_⟩;intro pins s σ H R I h;refine qT (hl pins s σ H _ I h) λv s1 hzz=>?_;obtain⟨x,H1,I1,r1,q1⟩:=hzz;obtain⟨a,e,⟨xs,hq⟩,q⟩:=q1;subst e;cases r1;obtain⟨its,rv,p,hz⟩:=I1.tuple hq;refine wpAny_pyIter_tuple (show s1.heap.IsTuple a its.toArray from p) ?_;refine⟨s1.heap.objs.size,[s1.heap.objs.size],_,_,H1,rfl,I1.kept (t':=s1.toks) λb o e=>zJ _ e,Rf a _,⟨_,yL _ rfl,rfl,rfl⟩,λb hb=>?_,q⟩;have e:b=s1.heap.objs.size:=by simpa using hb
 subst e;exact I1.fpOk (zW _) (I1.hok.fresh (zW _))
theorem Vq {pins:List (Addr×Obj)}{σ:St}{H:Hp}{s:Shared}{R:It->Hp->Prop}{E:Value->Shared->Prop}{lo hi:Int}{t u v:Tok}{tk:Nat}(I:xK X pins σ H s)(h1: -(2^62)<=lo)(h2:lo<2^62)(h3: -(2^62)<=hi)(h4:hi<2^62)
  (q:R (Itr lo (hi-lo).toNat) H):wpAny (model X.prog X.w) X.A (pyIter (.ref s.heap.objs.size)) (PIE X pins σ tg R) E {s with heap:=s.heap.push {cls:=.type "range",data:=.fields #[.int lo t,.int hi u,.int 1 v]},toks:=tk}:=by
 refine wpAny_pyIter_range (IsRange.new ..) (small_one h1 h2 h3 h4) ?_;have I1:xK X pins σ H {s with heap:=s.heap.push {cls:=.type "range",data:=.fields #[.int lo t,.int hi u,.int 1 v]},toks:=tk}:=I.kept λb o e=>zJ _ e;refine⟨(s.heap.push {cls:=.type "range",data:=.fields #[.int lo t,.int hi u,.int 1 v]}).objs.size,[(s.heap.push {cls:=.type "range",data:=.fields #[.int lo t,.int hi u,.int 1 v]}).objs.size],_,_,H,rfl,
  I1.kept (t':=tk) λb o e=>zJ _ e,Rg _ lo (hi-lo).toNat,?_,λb hb=>?_,q⟩
 ·have e1:lo+((0:Nat):Int)*1=lo:=by simp
  have e2:(((hi-lo).toNat:Nat):Int)-((0:Nat):Int)=Builtin.Range.rangeSize lo hi 1:=by rw[rangeSize_one];split<;>lia
  show IsRangeIter _ _ (lo+((0:Nat):Int)*1) ((((hi-lo).toNat:Nat):Int)-((0:Nat):Int)) 1;rw[e1,e2];exact yL _ rfl
 ·have e:b=(s.heap.push {cls:=.type "range",data:=.fields #[.int lo t,.int hi u,.int 1 v]}).objs.size:=by simpa using hb
  subst e;exact I1.fpOk (zW _) (I1.hok.fresh (zW _))
inductive Wu (vs:List V) (H1:Hp) (R:It->Hp->Prop):Prop
 |mk (j:Int) (h0:vs=[.int j]) (h1: -(2^62)<=j) (h2:j<2^62) (h3:R (Itr 0 j.toNat) H1):Wu vs H1 R
def zDe (ta:TA):TI:=λσ H R=>ta σ H λvs H1=>Wu vs H1 R
theorem uZ {a:Expr}{ta:TA}{p pos:Pos}(hg:Gl X "range")(hm:X.mg "range"=none)(ha:PA X [a] ta)(hs:starEach [a] X.env=[(false,eval a X.env)]:=by rfl):PI X tg (.Call (.Name "range" p) [a] [] pos) (zDe ta):=by
 refine⟨?_⟩;intro pins s σ H R I h;refine Call_ (Jc I hg hm boot_range (qZ (qT (ha pos pins s σ H _ I h) λus s1 ⟨vs,H1,I1,r1,q1⟩=>?_) hs rfl));obtain⟨j,e,q1,q2,q⟩:=q1;subst e;cases r1 with
 |cons r rr=>
  cases rr;obtain⟨t,rfl⟩:=r;exact call_range_1 (Vq I1 (by lia) (by lia) q1 q2 (by simpa using q))
def zFc (wi:TI)(g:TG)(tb:TS):TS:=λD σ H=>wi σ H λJ H1=> ∃W:Nat->Nat->St->Hp->Prop,(∃m,W 0 m σ H1)/\ ∀i m σ H,W i m σ H->
 (J.stop i H/\D.nx σ H)\/(J.go i H/\ ∃N:St->Hp->Prop,(∀σ' H',N σ' H'-> ∃m',m'<m/\W (i+1) m' σ' H')/\ ∀x H',J.yld i H x H'->g x σ H' λσ2 H2=>tb {D with nx:=N,ct:=N,bk:=D.nx} σ2 H2)
def LP (fp:List Addr)(h:Heap):List (Addr×Obj):=fp.filterMap λb=>(h.get? b).map λo=>(b,o)
theorem GS {fp:List Addr}{h:Heap}{b:Addr}{o:Obj}(hb:b∈fp)(e:h.get? b=some o):(b,o)∈LP fp h:=List.mem_filterMap.mpr ⟨b,hb,by rw[e];rfl⟩
theorem Ue {fp:List Addr}{h:Heap}{p:Addr×Obj}(hp:p∈LP fp h):p.1∈fp/\h.get? p.1=some p.2:=by
 obtain⟨b,hb,e⟩:=List.mem_filterMap.mp hp;cases q:h.get? b with
 |none=>rw[q]at e;cases e
 |some o=>
  rw[q]at e;have e':(b,o)=p:=jE e;subst e';exact⟨hb,q⟩
theorem xK.pinned {pins:List (Addr×Obj)}{σ:St}{H:Hp}{s:Shared}{fp:List Addr}(I:xK X pins σ H s)(hf: ∀b∈fp,MV X pins H b)(ho: ∀b∈fp,∃o,s.heap.get? b=some o/\ ∀v,o.data≠ .cell v):xK X (pins++LP fp s.heap) σ H s:=
 I.pins_of λp hp=>(List.mem_append.mp hp).elim (λz=>I.pin p (yZ _ z)) λz=>by
  obtain⟨hb,e⟩:=Ue z;obtain⟨f0,f1,f2,_⟩:=hf p.1 hb;obtain⟨o,e',d⟩:=ho p.1 hb;rw[e]at e';cases e';exact⟨e,f0,f1,f2,d⟩
theorem xK.unpinned {pins pl:List (Addr×Obj)}{σ:St}{H:Hp}{s:Shared}(I:xK X (pins++pl) σ H s):xK X pins σ H s:=I.pins_of λp hp=>I.pin p (yZ _ (qA _ hp))
theorem Al {iter:Expr}{body:List Stmt}{wi:TI}{g:TG}{tb:TS}{pos:Pos}(hp:PassesOwn (model X.prog X.w) X.A X.env X.xe)(hc:X.calm=true)(hi:PI X tg iter wi)(hg:PG X tg g)(hb:MJ X body tb)
  (hs: ∀x,foldedSetIterable iter X.env x=pure x:=by intro _;rfl):PS X (.For tg iter body [] pos) (zFc wi g tb):=by
 refine⟨?_⟩;intro pins s σ H D I h;refine wpAny_For (qT (hi pins s σ H _ I h) λv s1 h1=>qT h1 λitv s2 h2=>?_) hs;obtain⟨it,fp,tn,J,H2,e,I2,T,st2,f2,W,⟨m0,w0⟩,turn⟩:=h2;subst e;have stat: ∀{H':Hp},(∀b∈fp,H' b=none)-> ∀b∈fp,MV X pins H' b:=λhn b hb=>⟨hn b hb,(f2 b hb).2⟩;refine codeAny_forLoop_any (λn s'=> ∃i σ' H',xK X pins σ' H' s'/\tn i s'.heap/\(∀b∈fp,H' b=none)/\W i n σ' H') ?_ m0 ⟨0,σ,H2,I2,st2,λb hb=>(f2 b hb).1,w0⟩;rintro n s3 ⟨i,σ3,H3,I3,st3,fr3,w3⟩
 rcases turn i n σ3 H3 w3 with⟨stop,qn⟩|⟨go,N,hN,step⟩
 ·refine uH hp (qT (T.done X rfl rfl rfl hc i pins s3 σ3 H3 X.xe I3 (stat fr3) st3 stop) λr s4 hzz=>?_);obtain⟨hr,I4⟩:=hzz;subst hr;exact BA ⟨σ3,H3,I4,qn⟩
 ·refine uH hp (qT (T.item X rfl rfl rfl hc i pins s3 σ3 H3 X.xe I3 (stat fr3) st3 go) λr s4 hzz=>?_);obtain⟨u,hr,h4⟩:=hzz;subst hr;refine uH hp (qT h4 λ_ s5 hzz=>?_);obtain⟨x,H5,I5,r5,y5,st5,fr5⟩:=hzz;have I5':=I5.pinned (stat fr5) (T.obj _ _ st5);refine uH hp (qT (hg _ s5 σ3 H5 x u _ I5' r5 (step x H5 y5)) λ_ s6 hzz=>?_);obtain⟨σ6,H6,I6,q6⟩:=hzz;refine uH hp (qT (hb _ s6 σ6 H6 _ I6 q6) λf s7 q7=>?_);have again: ∀{σ7:St} {H7:Hp},xK X (pins++LP fp s5.heap) σ7 H7 s7->N σ7 H7-> ∃m,m<n/\ ∃i σ' H',xK X pins σ' H' s7/\tn i s7.heap/\(∀b∈fp,H' b=none)/\W i m σ' H':=fun{σ7 H7} I7 n7=>by
   obtain⟨m',hm,w7⟩:=hN σ7 H7 n7;refine⟨m',hm,i+1,σ7,H7,I7.unpinned,T.keep _ _ _ st5 λb hb o e=>(I7.pin (b,o) (yZ _ (yZ _ (GS hb e)))).1,λb hb=>?_,w7⟩;obtain⟨o,e,d⟩:=T.obj _ _ st5 b hb;exact(I7.pin (b,o) (yZ _ (yZ _ (GS hb e)))).2.1
  cases f with
  |next=>obtain⟨σ7,H7,I7,n7⟩:=q7;exact again I7 n7
  |cont=>obtain⟨σ7,H7,I7,n7⟩:=q7;exact again I7 n7
  |brk=>obtain⟨σ7,H7,I7,q7⟩:=q7;exact⟨σ7,H7,I7.unpinned,q7⟩
  |ret v=>obtain⟨x7,σ7,H7,I7,r7,q7⟩:=q7;exact⟨x7,σ7,H7,I7.unpinned,r7,q7⟩
end
theorem JM {K:PySem.W.Frag}{a:Addr}{xs:List V}{g:TG}{tb:TS}{D:He}{σ:St}{H:Hp}(Pv:Nat->St->Hp->Prop)(h0:Pv 0 σ H)(hl: ∀i σ H,i<=xs.length->Pv i σ H->Hb K H a xs)
  (hs: ∀i x σ H,xs[i]? =some x->Pv i σ H->g x σ H λσ2 H2=>tb {D with nx:=Pv (i+1),ct:=Pv (i+1),bk:=D.nx} σ2 H2) (hd: ∀σ H,Pv xs.length σ H->D.nx σ H):
  ∃W:Nat->Nat->St->Hp->Prop,(∃m,W 0 m σ H)/\ ∀i m σ H,W i m σ H->
   ((Itl K a).stop i H/\D.nx σ H)\/((Itl K a).go i H/\ ∃N:St->Hp->Prop,(∀σ' H',N σ' H'-> ∃m',m'<m/\W (i+1) m' σ' H')/\ ∀x H',(Itl K a).yld i H x H'->g x σ H' λσ2 H2=>tb {D with nx:=N,ct:=N,bk:=D.nx} σ2 H2):=by
 refine⟨λi m σ H=>m=xs.length-i/\i<=xs.length/\Pv i σ H,⟨xs.length,by simp,yU _,h0⟩,?_⟩;rintro i m σ H ⟨rfl,hi,p⟩;have q:=hl i σ H hi p
 by_cases hlt:i<xs.length
 ·refine .inr ⟨⟨xs,xs[i],q,by simp[hlt]⟩,Pv (i+1),λσ' H' p'=>⟨xs.length-(i+1),by lia,rfl,hlt,p'⟩,λx H' y=>?_⟩;obtain⟨e,y⟩:=y;subst e;exact hs i x σ _ (y xs q) p
 ·have e:i=xs.length:=by lia
  subst e;exact .inl ⟨⟨xs,q,zW _⟩,hd σ H p⟩
theorem Yr {K:PySem.W.Frag}{a:Addr}{xs:List V}{g:TG}{tb:TS}{D:He}{σ:St}{H:Hp}(Pv:Nat->St->Hp->Prop)(h0:Pv 0 σ H)(hl: ∀i σ H,i<=xs.length->Pv i σ H->Gm K H a xs)
  (hs: ∀i x σ H,xs[i]? =some x->Pv i σ H->g x σ H λσ2 H2=>tb {D with nx:=Pv (i+1),ct:=Pv (i+1),bk:=D.nx} σ2 H2) (hd: ∀σ H,Pv xs.length σ H->D.nx σ H):
  ∃W:Nat->Nat->St->Hp->Prop,(∃m,W 0 m σ H)/\ ∀i m σ H,W i m σ H->
   ((Itt K a).stop i H/\D.nx σ H)\/((Itt K a).go i H/\ ∃N:St->Hp->Prop,(∀σ' H',N σ' H'-> ∃m',m'<m/\W (i+1) m' σ' H')/\ ∀x H',(Itt K a).yld i H x H'->g x σ H' λσ2 H2=>tb {D with nx:=N,ct:=N,bk:=D.nx} σ2 H2):=by
 refine⟨λi m σ H=>m=xs.length-i/\i<=xs.length/\Pv i σ H,⟨xs.length,by simp,yU _,h0⟩,?_⟩;rintro i m σ H ⟨rfl,hi,p⟩;have q:=hl i σ H hi p
 by_cases hlt:i<xs.length
 ·refine .inr ⟨⟨xs,xs[i],q,by simp[hlt]⟩,Pv (i+1),λσ' H' p'=>⟨xs.length-(i+1),by lia,rfl,hlt,p'⟩,λx H' y=>?_⟩;obtain⟨e,y⟩:=y;subst e;exact hs i x σ _ (y xs q) p
 ·have e:i=xs.length:=by lia
  subst e;exact .inl ⟨⟨xs,q,zW _⟩,hd σ H p⟩
theorem AE {lo:Int}{n:Nat}{g:TG}{tb:TS}{D:He}{σ:St}{H:Hp}(Pv:Nat->St->Hp->Prop)(h0:Pv 0 σ H)
  (hs: ∀i σ H,i<n->Pv i σ H->g (.int (lo+i)) σ H λσ2 H2=>tb {D with nx:=Pv (i+1),ct:=Pv (i+1),bk:=D.nx} σ2 H2) (hd: ∀σ H,Pv n σ H->D.nx σ H):
  ∃W:Nat->Nat->St->Hp->Prop,(∃m,W 0 m σ H)/\ ∀i m σ H,W i m σ H->
   ((Itr lo n).stop i H/\D.nx σ H)\/((Itr lo n).go i H/\ ∃N:St->Hp->Prop,(∀σ' H',N σ' H'-> ∃m',m'<m/\W (i+1) m' σ' H')/\ ∀x H',(Itr lo n).yld i H x H'->g x σ H' λσ2 H2=>tb {D with nx:=N,ct:=N,bk:=D.nx} σ2 H2):=by
 refine⟨λi m σ H=>m=n-i/\i<=n/\Pv i σ H,⟨n,by simp,yU _,h0⟩,?_⟩;rintro i m σ H ⟨rfl,hi,p⟩
 by_cases hlt:i<n
 ·refine .inr ⟨hlt,Pv (i+1),λσ' H' p'=>⟨n-(i+1),by lia,rfl,hlt,p'⟩,λx H' y=>?_⟩;obtain⟨e,y⟩:=y;subst e y;exact hs i σ _ hlt p
 ·have e:i=n:=by lia
  subst e;exact .inl ⟨zW _,hd σ H p⟩
abbrev R2:=V->V->Hp->VK->Prop
def ID (X:Cx)(f:Value->Value->Sem Value)(r:R2):Prop:=
 ∀(pins:List (Addr×Obj)) (s:Shared) (σ:St) (H:Hp) (x y:V) (v u:Value) (Q:VK),xK X pins σ H s->kU x v->kU y u->r x y H Q->
  wpAny (model X.prog X.w) X.A (f v u) (EP X pins σ Q) X.xe s
def UnR (X:Cx)(f:Value->Sem Value)(r:V->Hp->VK->Prop):Prop:=
 ∀(pins:List (Addr×Obj)) (s:Shared) (σ:St) (H:Hp) (x:V) (v:Value) (Q:VK),xK X pins σ H s->kU x v->r x H Q->
  wpAny (model X.prog X.w) X.A (f v) (EP X pins σ Q) X.xe s
def EM (X:Cx)(f:Value)(r:List V->Hp->VK->Prop):Prop:=
 ∀(pins:List (Addr×Obj)) (s:Shared) (σ:St) (H:Hp) (xs:List V) (us:List Value) (Q:VK),xK X pins σ H s->jS xs us->r xs H Q->
  wpAny (model X.prog X.w) X.A (call f us) (EP X pins σ Q) X.xe s
def zGd (X:Cx)(r:V->Hp->(Bool->Hp->Prop)->Prop):Prop:=
 ∀(pins:List (Addr×Obj)) (s:Shared) (σ:St) (H:Hp) (x:V) (v:Value) (Q:Bool->Hp->Prop),xK X pins σ H s->kU x v->r x H Q->
  wpAny (model X.prog X.w) X.A (truthy v) (TP X pins σ Q) X.xe s
def ZB (r:R2)(ta tb:TE):TE:=λσ H Q=>ta σ H λx H1=>tb σ H1 λy H2=>r x y H2 Q
def tUn (r:V->Hp->VK->Prop)(ta:TE):TE:=λσ H Q=>ta σ H λx H1=>r x H1 Q
inductive rI (C:Int->Int->Prop) (g:Int->Int->V) (x:V) (y:V) (H:Hp) (Q:VK):Prop
 |mk (i j:_) (h0:x=.int i) (h1:y=.int j) (h2:C i j) (h3:Q (g i j) H):rI C g x y H Q
inductive Xv (g:Int->Int->V) (x:V) (y:V) (H:Hp) (Q:VK):Prop
 |mk (i j:_) (h0:x=.int i) (h1:y=.int j) (h2:Q (g i j) H):Xv g x y H Q
inductive rU (g:Int->V) (x:V) (H:Hp) (Q:VK):Prop
 |mk (i:_) (h0:x=.int i) (h1:Q (g i) H):rU g x H Q
section
variable {X:Cx}{a b c:Expr}{ta tb tc:TE}{pos:Pos}
theorem zBa (ha:PE X a ta)(hb:PE X b tb){pins:List (Addr×Obj)}{s:Shared}{σ:St}{H:Hp}{R:V->V->Hp->Prop}(I:xK X pins σ H s)
  (h:ta σ H λx H1=>tb σ H1 λy H2=>R x y H2) {Q:Value->Shared->Prop} {f:Value->Value->Sem Value}
  (hf: ∀v u s2 x y H2,xK X pins σ H2 s2->kU x v->kU y u->R x y H2->wpAny (model X.prog X.w) X.A (f v u) Q X.xe s2):
  wpAny (model X.prog X.w) X.A (eval a X.env) (λv s₁=>wpAny (model X.prog X.w) X.A (eval b X.env) (λu s₂=>wpAny (model X.prog X.w) X.A (f v u) Q X.xe s₂) X.xe s₁) X.xe s:=by
 refine qT (ha pins s σ H _ I h) λv s1 hzz=>?_;obtain⟨x,H1,I1,r1,q1⟩:=hzz;refine qT (hb pins s1 σ H1 _ I1 q1) λu s2 hzz=>?_;obtain⟨y,H2,I2,r2,q2⟩:=hzz;exact hf v u s2 x y H2 I2 r1 r2 q2
theorem yV {op:Operator}{r:R2}(ho:ID X (binaryOp op) r)(ha:PE X a ta)(hb:PE X b tb):PE X (.BinOp a op b pos) (ZB r ta tb):=by
 refine⟨?_⟩;intro pins s σ H Q I h;exact wpAny_BinOp (zBa ha hb I h λv u s2 x y H2 I2 rx ry q=>ho pins s2 σ H2 x y v u Q I2 rx ry q)
theorem SR {op:UnaryOp}{r:V->Hp->VK->Prop}(ho:UnR X (unaryOp op) r)(ha:PE X a ta):PE X (.UnaryOp op a pos) (tUn r ta):=by
 refine⟨?_⟩;intro pins s σ H Q I h;exact UnaryOp_ (qT (ha pins s σ H _ I h) λv s1 ⟨x,H1,I1,r1,q1⟩=>ho pins s1 σ H1 x v Q I1 r1 q1)
theorem opI {f:Value->Value->Sem Value}{C:Int->Int->Prop}{g:Int->Int->Int}
  (rule: ∀(i j:Int) (t u:Tok) (s:Shared) (Q:Value->Shared->Prop) (E:Value->Shared->Prop),C i j->Q (.int (g i j) s.toks) {s with toks:=s.toks+1}->wpAny (model X.prog X.w) X.A (f (.int i t) (.int j u)) Q E s):
  ID X f (rI C λi j=>.int (g i j)):=by
 intro pins s σ H x y v u Q I rx ry h;obtain⟨i,j,rfl,rfl,hc,q⟩:=h;obtain⟨t,rfl⟩:=rx;obtain⟨t',rfl⟩:=ry;exact rule i j t t' s _ _ hc ⟨.int (g i j),H,I.tok _,⟨_,rfl⟩,q⟩
theorem zCx {f:Value->Value->Sem Value}{g:Int->Int->Int}
  (rule: ∀(i j:Int) (t u:Tok) (s:Shared) (Q:Value->Shared->Prop) (E:Value->Shared->Prop),Q (.int (g i j) s.toks) {s with toks:=s.toks+1}->wpAny (model X.prog X.w) X.A (f (.int i t) (.int j u)) Q E s):
  ID X f (Xv λi j=>.int (g i j)):=by
 intro pins s σ H x y v u Q I rx ry h;obtain⟨i,j,rfl,rfl,q⟩:=h;obtain⟨t,rfl⟩:=rx;obtain⟨t',rfl⟩:=ry;exact rule i j t t' s _ _ ⟨.int (g i j),H,I.tok _,⟨_,rfl⟩,q⟩
theorem XM {f:Value->Value->Sem Value}{g:Int->Int->Bool}
  (rule: ∀(i j:Int) (t u:Tok) (s:Shared) (Q:Value->Shared->Prop) (E:Value->Shared->Prop),Q (.bool (g i j)) s->wpAny (model X.prog X.w) X.A (f (.int i t) (.int j u)) Q E s):
  ID X f (Xv λi j=>.bl (g i j)):=by
 intro pins s σ H x y v u Q I rx ry h;obtain⟨i,j,rfl,rfl,q⟩:=h;obtain⟨t,rfl⟩:=rx;obtain⟨t',rfl⟩:=ry;exact rule i j t t' s _ _ ⟨.bl (g i j),H,I,rfl,q⟩
def zGj (i j:Int):Prop:=0<=j/\j<=1000000/\i.natAbs<2^64
def zBo (i j:Int):Prop:=(-(2^64)<i/\i<2^64)\/(-(2^64)<j/\j<2^64)
theorem zBo.ok {i j:Int}(h:zBo i j):IntMulOk i j:=by
 rcases h with⟨h1,h2⟩|⟨h1,h2⟩
 ·exact .of_left (intBits_le_64 h1 h2)
 ·exact .of_right (intBits_le_64 h1 h2)
theorem jN:ID X (binaryOp .Add) (Xv λi j=>.int (i+j)):=zCx λ_ _ _ _ _ _ _ q=>add_int q
theorem wU:ID X (binaryOp .Sub) (Xv λi j=>.int (i-j)):=zCx λ_ _ _ _ _ _ _ q=>sub_int q
theorem FJ:ID X (binaryOp .Mult) (rI zBo λi j=>.int (i*j)):=opI λ_ _ _ _ _ _ _ hc q=>mul_int q hc.ok
theorem FK:ID X (binaryOp .Mod) (rI (λ_ j=>0<j) λi j=>.int (i % j)):=opI λi j _ _ _ _ _ hc q=>by
 have h1:(0:Int)<j:=hc;exact mod_int' (by lia) (by rw[Int.fmod_eq_emod_of_nonneg i (by lia)];exact q)
theorem Pa:ID X (binaryOp .Pow) (rI zGj λi j=>.int (i^j.toNat)):=opI λ_ _ _ _ _ _ _ hc q=>pow_int_small hc.1 hc.2.1 hc.2.2 q
theorem unI {f:Value->Sem Value}{g:Int->Int}
  (rule: ∀(i:Int) (t:Tok) (s:Shared) (Q:Value->Shared->Prop) (E:Value->Shared->Prop),Q (.int (g i) s.toks) {s with toks:=s.toks+1}->wpAny (model X.prog X.w) X.A (f (.int i t)) Q E s):
  UnR X f (rU λi=>.int (g i)):=by
 intro pins s σ H x v Q I rx h;obtain⟨i,rfl,q⟩:=h;obtain⟨t,rfl⟩:=rx;exact rule i t s _ _ ⟨.int (g i),H,I.tok _,⟨_,rfl⟩,q⟩
theorem Ov:UnR X (unaryOp .USub) (rU λi=>.int (-i)):=unI λ_ _ _ _ _ q=>neg_int q
end
def zCf:V->V->Bool
 | .non,.non=>true| .non,.int _=>true| .int _,.non=>true| .non,.bl _=>true| .bl _,.non=>true| .non,.str _=>true| .str _,.non=>true
 | .int _,.int _=>true| .bl _,.bl _=>true| .str _,.str _=>true| .byt _,.byt _=>true
 | .int _,.str _=>true| .str _,.int _=>true| .bl _,.str _=>true| .str _,.bl _=>true
 |_,_=>false
def rEq:R2:=λx y H Q=>zCf x y=true/\Q (.bl (decide (x=y))) H
def rNe:R2:=λx y H Q=>zCf x y=true/\Q (.bl (!decide (x=y))) H
theorem Th {i j:Int}:decide (V.int i=V.int j)=(i==j):=by
 rw[Ee]
 simp
 exact⟨λh=>by injection h,λh=>by rw[h]⟩
theorem WL {i j:Bool}:decide (V.bl i=V.bl j)=(i==j):=by
 rw[Ee]
 simp
 exact⟨λh=>by injection h,λh=>by rw[h]⟩
theorem Tg {i j:Str}:decide (V.str i=V.str j)=(i==j):=by
 rw[Ee]
 simp
 exact⟨λh=>by injection h,λh=>by rw[h]⟩
theorem Ti {i j:Array UInt8}:decide (V.byt i=V.byt j)=(i.toList==j.toList):=by
 rw[Ee];cases i;cases j
 simp
 exact⟨λh=>by injection h with h;injection h,λh=>by rw[h]⟩
section
variable {X:Cx}{a b c:Expr}{ta tb tc:TE}{pos:Pos}
theorem qH {pins:List (Addr×Obj)}{σ:St}{H:Hp}{s:Shared}{Q:VK}{k k':Bool}(I:xK X pins σ H s)(q:Q (.bl k) H)(e:k=k'):EP X pins σ Q (.bool k') s:=by
 subst e;exact⟨.bl k,H,I,rfl,q⟩
theorem jY:ID X (compareOp .Eq) rEq:=by
 intro pins s σ H x y v u Q I rx ry h;obtain⟨hs,q⟩:=h;cases x with
 |non=>
  cases rx;cases y with
  |non=>cases ry;exact PySem.EqNone.eq_none_none (qH I q (by simp))
  |bl j=>cases ry;exact PySem.EqNone.eq_none_bool (qH I q (by simp))
  |int j=>obtain⟨t',rfl⟩:=ry;exact PySem.EqNone.eq_none_int (qH I q (by simp))
  |str j=>obtain⟨t',rfl⟩:=ry;exact PySem.EqNone.eq_none_str (qH I q (by simp))
  |_=>exact absurd (show false=true from hs) yK
 |bl i=>
  cases rx;cases y with
  |non=>cases ry;exact PySem.EqNone.eq_bool_none (qH I q (by simp))
  |bl j=>cases ry;exact eq_bool (qH I q WL)
  |str j=>obtain⟨t',rfl⟩:=ry;exact PySem.EqMixed.eq_bool_str (qH I q (by simp))
  |_=>exact absurd (show false=true from hs) yK
 |int i=>
  obtain⟨t,rfl⟩:=rx;cases y with
  |non=>cases ry;exact PySem.EqNone.eq_int_none (qH I q (by simp))
  |int j=>obtain⟨t',rfl⟩:=ry;exact eq_int (qH I q Th)
  |str j=>obtain⟨t',rfl⟩:=ry;exact PySem.EqMixed.eq_int_str (qH I q (by simp))
  |_=>exact absurd (show false=true from hs) yK
 |str i=>
  obtain⟨t,rfl⟩:=rx;cases y with
  |non=>cases ry;exact PySem.EqNone.eq_str_none (qH I q (by simp))
  |bl j=>cases ry;exact PySem.EqMixed.eq_str_bool (qH I q (by simp))
  |int j=>obtain⟨t',rfl⟩:=ry;exact PySem.EqMixed.eq_str_int (qH I q (by simp))
  |str j=>obtain⟨t',rfl⟩:=ry;exact eq_str (qH I q Tg)
  |_=>exact absurd (show false=true from hs) yK
 |byt i=>
  obtain⟨t,rfl⟩:=rx;cases y with
  |byt j=>obtain⟨t',rfl⟩:=ry;exact PySem.W.eq_bytes (qH I q Ti)
  |_=>exact absurd (show false=true from hs) yK
 |_=>cases y<;>exact absurd (show false=true from hs) yK
theorem LW:ID X (compareOp .NotEq) rNe:=by
 intro pins s σ H x y v u Q I rx ry h;obtain⟨hs,q⟩:=h;cases x with
 |non=>
  cases rx;cases y with
  |non=>cases ry;exact PySem.EqNone.ne_none_none (qH I q (by simp))
  |bl j=>cases ry;exact PySem.EqNone.ne_none_bool (qH I q (by simp))
  |int j=>obtain⟨t',rfl⟩:=ry;exact PySem.EqNone.ne_none_int (qH I q (by simp))
  |str j=>obtain⟨t',rfl⟩:=ry;exact PySem.EqNone.ne_none_str (qH I q (by simp))
  |_=>exact absurd (show false=true from hs) yK
 |bl i=>
  cases rx;cases y with
  |non=>cases ry;exact PySem.EqNone.ne_bool_none (qH I q (by simp))
  |bl j=>cases ry;exact ne_bool (qH I q (jB not WL))
  |str j=>obtain⟨t',rfl⟩:=ry;exact PySem.EqMixed.ne_bool_str (qH I q (by simp))
  |_=>exact absurd (show false=true from hs) yK
 |int i=>
  obtain⟨t,rfl⟩:=rx;cases y with
  |non=>cases ry;exact PySem.EqNone.ne_int_none (qH I q (by simp))
  |int j=>obtain⟨t',rfl⟩:=ry;exact ne_int (qH I q (jB not Th))
  |str j=>obtain⟨t',rfl⟩:=ry;exact PySem.EqMixed.ne_int_str (qH I q (by simp))
  |_=>exact absurd (show false=true from hs) yK
 |str i=>
  obtain⟨t,rfl⟩:=rx;cases y with
  |non=>cases ry;exact PySem.EqNone.ne_str_none (qH I q (by simp))
  |bl j=>cases ry;exact PySem.EqMixed.ne_str_bool (qH I q (by simp))
  |int j=>obtain⟨t',rfl⟩:=ry;exact PySem.EqMixed.ne_str_int (qH I q (by simp))
  |str j=>obtain⟨t',rfl⟩:=ry;exact ne_str (qH I q (jB not Tg))
  |_=>exact absurd (show false=true from hs) yK
 |byt i=>
  obtain⟨t,rfl⟩:=rx;cases y with
  |byt j=>obtain⟨t',rfl⟩:=ry;exact PySem.W.ne_bytes (qH I q (jB not Ti))
  |_=>exact absurd (show false=true from hs) yK
 |_=>cases y<;>exact absurd (show false=true from hs) yK
theorem EF:ID X (compareOp .Lt) (Xv λi j=>.bl (decide (i<j))):=XM λ_ _ _ _ _ _ _ q=>lt_int q
theorem Nt:ID X (compareOp .LtE) (Xv λi j=>.bl (decide (i<=j))):=XM λ_ _ _ _ _ _ _ q=>le_int q
theorem Hh:ID X (compareOp .Gt) (Xv λi j=>.bl (decide (j<i))):=XM λ_ _ _ _ _ _ _ q=>gt_int q
theorem SU:ID X (compareOp .GtE) (Xv λi j=>.bl (decide (j<=i))):=XM λ_ _ _ _ _ _ _ q=>ge_int q
theorem RI:ID X (compareOp .Is) (λx y H Q=>y=.non/\Q (.bl (decide (x=.non))) H):=by
 intro pins s σ H x y v u Q I rx ry h;obtain⟨rfl,q⟩:=h;cases ry;refine is_none_gen (qH I q ?_);cases x<;>first
  |(cases rx;rfl)
  |(obtain⟨t,rfl⟩:=rx;rfl)
theorem XL:ID X (compareOp .IsNot) (λx y H Q=>y=.non/\Q (.bl (!decide (x=.non))) H):=by
 intro pins s σ H x y v u Q I rx ry h;obtain⟨rfl,q⟩:=h;cases ry;refine isnot_none_gen (qH I q ?_);cases x<;>first
  |(cases rx;rfl)
  |(obtain⟨t,rfl⟩:=rx;rfl)
theorem GQ:ID X (compareOp .NotIn) (λx y H Q=> ∃i j,x=.str i/\y=.str j/\Q (.bl (!(!(Builtin.Str.occurrences j i 0 j.length 1).isEmpty))) H):=by
 intro pins s σ H x y v u Q I rx ry h;obtain⟨i,j,rfl,rfl,q⟩:=h;obtain⟨t,rfl⟩:=rx;obtain⟨t',rfl⟩:=ry;exact notIn_str (qH I q rfl)
theorem yP (b:Expr){op:CmpOp}(h:op≠ .In:=by decide)(h2:op≠ .NotIn:=by decide):behindInMarks op b=false:=by
 have e1:(op==CmpOp.In)=false:=by cases op<;>first|rfl|exact absurd rfl h
 have e2:(op==CmpOp.NotIn)=false:=by cases op<;>first|rfl|exact absurd rfl h2
 cases b<;>simp[behindInMarks,e1,e2]
theorem uM {op:CmpOp}{r:R2}(ho:ID X (compareOp op) r)(ha:PE X a ta)(hb:PE X b tb)(hm:behindInMarks op b=false):PE X (.Compare a [op] [b] pos) (ZB r ta tb):=by
 refine⟨?_⟩;intro pins s σ H Q I h;exact wpAny_Compare1 (zBa ha hb I h λv u s2 x y H2 I2 rx ry q=>ho pins s2 σ H2 x y v u Q I2 rx ry q) hm
inductive Vc (x:V) (H':Hp) (Q:Bool->Hp->Prop):Prop
 |mk (k:_) (h0:x=.bl k) (h1:Q k H'):Vc x H' Q
def Vd (t:TE):TT:=λσ H Q=>t σ H λx H'=>Vc x H' Q
theorem yI {op:CmpOp}{r:R2}(ho:ID X (compareOp op) r)(ha:PE X a ta)(hb:PE X b tb)(hm:behindInMarks op b=false):PT X (.Compare a [op] [b] pos) (Vd (ZB r ta tb)):=by
 refine⟨?_⟩;intro pins s σ H Q I h;refine wpAny_isTrue_Compare1 (qT (ha pins s σ H _ I h) λv s1 ⟨x,H1,I1,r1,q1⟩=>qT (hb pins s1 σ H1 _ I1 q1) λu s2 ⟨y,H2,I2,r2,q2⟩=>
  qT (ho pins s2 σ H2 x y v u _ I2 r1 r2 q2) λc s3 ⟨z,H3,I3,r3,k,e,q3⟩=>?_) hm
 subst e;cases r3;exact kY ⟨H3,I3,q3⟩
def ZE (r r':R2)(ta tb tc:TE):TE:=λσ H Q=>ta σ H λx H1=>tb σ H1 λy H2=>r x y H2 λz H3=> ∃k,z=.bl k/\
 (if k=true then tc σ H3 λw' H4=>r' y w' H4 Q else Q (.bl false) H3)
theorem LN {op op':CmpOp}{r r':R2}(ho:ID X (compareOp op) r)(ho':ID X (compareOp op') r')(ha:PE X a ta)(hb:PE X b tb)(hc:PE X c tc)
  (hm:lastMarks [op,op'] [b,c]=false:=by with_unfolding_all rfl):PT X (.Compare a [op,op'] [b,c] pos) (Vd (ZE r r' ta tb tc)):=by
 refine⟨?_⟩;intro pins s σ H Q I h;refine isTrue_chain (qT (ha pins s σ H _ I h) λv s1 ⟨x,H1,I1,r1,q1⟩=>test_link (qT (hb pins s1 σ H1 _ I1 q1) λu s2 ⟨y,H2,I2,r2,q2⟩=>
  qT (ho pins s2 σ H2 x y v u _ I2 r1 r2 q2) λd s3 ⟨z,H3,I3,r3,k,e,q3⟩=>?_)) hm
 subst e;cases r3;refine kY ?_;cases k with
 |false=>
  obtain⟨k',e',q'⟩:=q3;cases e';exact ite_ff ⟨H3,I3,q'⟩
 |true=>
  refine ite_tt (test_last (qT (hc pins s3 σ H3 _ I3 q3) λw' s4 ⟨z',H4,I4,r4,q4⟩=>qT (ho' pins s4 σ H4 y z' u w' _ I4 r2 r4 q4) λd' s5 hzz=>?_));obtain⟨z2,H5,I5,r5,k2,e2,q5⟩:=hzz;subst e2;cases r5;exact kY ⟨H5,I5,q5⟩
def zDm (K:PySem.W.Frag)(x:V)(H:Hp)(k:Bool):Prop:=
 match x with
 | .non=>k=false
 | .bl b=>k=b
 | .int i=>k=(i !=0)
 | .str y=>y.length<=sizeLine/\k=((y.length:Int)!=0)
 | .byt y=>y.size<=sizeLine/\k=((y.size:Int)!=0)
 | .ref p=>(∃xs,Hb K H p xs/\k=!xs.isEmpty)\/(∃xs,Gm K H p xs/\k=!xs.isEmpty)\/ ∃kvs,H p=some (.dK kvs)/\k=!kvs.isEmpty
 |_=>False
theorem Se {κ:Type}{kvs:List (κ×V)}{vs:List (κ×Value)}(r:KV kvs vs):(!vs.isEmpty)=!kvs.isEmpty:=by
 cases r<;>rfl
theorem Mn {xs:List V}{its:List Value}(r:jS xs its):(!its.toArray.isEmpty)=!xs.isEmpty:=by
 cases r<;>simp
theorem FL:(sizeLine:Nat)<2^63:=by rw[BU];decide
theorem Zw:zGd X (λx H Q=> ∃k,zDm X.K x H k/\Q k H):=by
 intro pins s σ H x v Q I rx h;obtain⟨k,e,q⟩:=h;have hl:=FL;have hs:sizeLine=16777216:=BU;cases x with
 |non=>
  cases rx;have e':k=false:=e;subst e';exact truthy_none ⟨H,I,q⟩
 |bl b=>
  cases rx;have e':k=b:=e;subst e';exact kY ⟨H,I,q⟩
 |int i=>
  obtain⟨t,rfl⟩:=rx;have e':k=(i !=0):=e;subst e';exact PySem.P.truthy_int ⟨H,I,q⟩
 |str y=>
  obtain⟨t,rfl⟩:=rx;obtain⟨hy,e'⟩:y.length<=sizeLine/\k=((y.length:Int)!=0):=e;subst e';exact PySem.P.truthy_str (by lia) ⟨H,I.tok _,q⟩
 |byt y=>
  obtain⟨t,rfl⟩:=rx;obtain⟨hy,e'⟩:y.size<=sizeLine/\k=((y.size:Int)!=0):=e;subst e';exact PySem.W.truthy_bytes (by lia) ⟨H,I.tok _,q⟩
 |ref p=>
  cases rx;have e':(∃xs,Hb X.K H p xs/\k=!xs.isEmpty)\/(∃xs,Gm X.K H p xs/\k=!xs.isEmpty)\/ ∃kvs,H p=some (.dK kvs)/\k=!kvs.isEmpty:=e
  rcases e' with⟨xs,hx,e'⟩|⟨xs,hx,e'⟩|⟨kvs,hx,e'⟩
  ·subst e';obtain⟨its,r,pl,hz⟩:=I.list hx;have hlen:=r.length;exact wpAny_truthy_list pl.isList (by simp only[yC];lia) ⟨H,I.tok _,by rw[Mn r];exact q⟩
  ·subst e';obtain⟨its,r,pl,hz⟩:=I.tuple hx;have hlen:=r.length;exact truthy_tuple pl (by simp only[yC];lia) ⟨H,I.tok _,by rw[Mn r];exact q⟩
  ·subst e';obtain⟨hz,hS,vs,r,m⟩:kvs.length<=sizeLine/\(p==sysModules)=false/\ ∃vs,KV kvs vs/\s.heap.DictOf (Ap X.prog X.w) p vs:=I.hok p _ hx;have hlen:kvs.length=vs.length:=FN r;exact wpAny_truthy_dict hS m (by lia) ⟨H,I.tok _,by rw[Se r];exact q⟩
 |_=>exact(show False from e).elim
theorem HJ (ha:PE X a ta)(he: ∀whole,isTrue a X.env whole=(do let v<-whole;standAt a.pos;holding [v] (truthy v))):
  PT X a (λσ H Q=>ta σ H λx H'=> ∃k,zDm X.K x H' k/\Q k H'):=by
 refine⟨?_⟩;intro pins s σ H Q I h;exact isTrue_plain (qT (ha pins s σ H _ I h) λv s1 ⟨x,H1,I1,r1,q1⟩=>Zw pins s1 σ H1 x v Q I1 r1 q1) (he _)
theorem KG {x:V}{us:List Value}(r:jS [x] us): ∃u,us=[u]/\kU x u:=by
 cases r with
 |cons r1 r2=>cases r2;exact⟨_,rfl,r1⟩
theorem KF {x y:V}{us:List Value}(r:jS [x,y] us): ∃u w',us=[u,w']/\kU x u/\kU y w':=by
 cases r with
 |cons r1 r2=>
  cases r2 with
  |cons r3 r4=>cases r4;exact⟨_,_,rfl,r1,r3⟩
theorem UI (hc:X.calm=true):EM X (.builtin "min") (λxs H Q=> ∃i j,xs=[.int i,.int j]/\Q (.int (if j<i then j else i)) H):=by
 intro pins s σ H xs us Q I r h;obtain⟨i,j,rfl,q⟩:=h;obtain⟨u,w',rfl,⟨t,rfl⟩,⟨t',rfl⟩⟩:=KF r;refine min_two_ints (I.ok.hd hc) λh' tk k=>⟨_,H,I.kept k,?_,q⟩
 by_cases hj:j<i
 ·rw[zT hj,zT hj];exact⟨_,rfl⟩
 ·rw[zI hj,zI hj];exact⟨_,rfl⟩
theorem Dr:EM X (.type "int") (λxs H Q=>(∃i,xs=[.int i]/\Q (.int i) H)\/ ∃k,xs=[.bl k]/\Q (.int (if k then 1 else 0)) H):=by
 intro pins s σ H xs us Q I r h
 rcases h with⟨i,rfl,q⟩|⟨k,rfl,q⟩
 ·obtain⟨u,rfl,t,rfl⟩:=KG r;exact call_int_int ⟨.int i,H,I,⟨_,rfl⟩,q⟩
 ·obtain⟨u,rfl,r1⟩:=KG r;cases r1;exact call_int_bool ⟨.int (if k then 1 else 0),H,I.tok _,⟨_,rfl⟩,q⟩
theorem Ep:EM X (.type "str") (λxs H Q=> ∃i,xs=[.int i]/\i.natAbs.log2<1920/\Q (.str (toString i)) H):=by
 intro pins s σ H xs us Q I r h;obtain⟨i,rfl,hz,q⟩:=h;obtain⟨u,rfl,t,rfl⟩:=KG r;exact PySem.P.str_of_int hz ⟨.str _,H,I.tok _,⟨_,rfl⟩,q⟩
end
structure So (h:Heap)(x dx C:Addr)(mA:Str->Option Value):Prop where
 obj:h.get? x=some (PySem.W.instObj C dx)
 ns:h.Ns1 dx mA
 ne:dx≠x
theorem Ge {h:Heap}{dx:Addr}{mA:Str->Option Value}(n:h.Ns1 dx mA): ∃od,h.get? dx=some od/\ ∀name,PySem.W.lookIn name od=some (mA name):=by
 obtain⟨o,es,ep,ho,hd,hk,_,hm⟩:=n;refine⟨o,ho,λname=>?_⟩;have e:=hm name;unfold nsFind findBy at e;rw[<-Array.find?_toList]at e;unfold PySem.W.lookIn;rw[hd];dsimp only;split
 ·rename_i y q;rw[q]at e;exact jB some e
 ·rename_i q;rw[q]at e;have a:es.toList.any (·.refKey)=false:=by
   rw[List.any_eq_false];intro y hy;obtain⟨z,t,hkey⟩:=hk y (Array.mem_toList_iff.mp hy)
   simp[DictEntry.refKey,hkey]
  have a': ¬es.toList.any (·.refKey)=true:=by rw[a];exact yK
  rw[zI a'];exact jB some e
theorem So.look {h:Heap}{x dx C:Addr}{mA:Str->Option Value}(I:So h x dx C mA): ∃od,PySem.W.InstAt h x (PySem.W.instObj C dx) C (some od)/\ ∀name,PySem.W.lookIn name od=some (mA name):=
 let⟨od,ho,hl⟩:=Ge I.ns
 ⟨od,⟨I.obj,rfl,rfl,ho⟩,hl⟩
section
variable {prog:Program}{w:World}{A:Around}{E:Value->Shared->Prop}{s:Shared}{K:PySem.W.Frag}{x dx C f:Addr}{mA:Str->Option Value}{name:Str}{v:Value}
theorem Yn {expr:Bool}{Q:Value->Shared->Prop}(X:K.In s.heap)(I:So s.heap x dx C mA)(hg:PySem.W.plainGet K C name=true)(hh:PySem.W.hasDictIn K C=true)
  (ha:PySem.W.findIn K (.ref C) name=some none) (hv:mA name=some v) (hv':PySem.W.handedIn v=true) (h:Q v {s with toks:=s.toks+1}):
  wpAny (model prog w) A (getAttr (.ref x) name expr) Q E s:=by
 obtain⟨od,J,hl⟩:=I.look;exact PySem.W.get_value X J (Ei hg).1 (PySem.W.findObj_own hh ha rfl (by rw[hl,hv])) hv' h
theorem Wz {pl:Sem Bool}{Q:Value×List Value->Shared->Prop}(X:K.In s.heap)(I:So s.heap x dx C mA)(hg:PySem.W.plainGet K C name=true)
  (hf:PySem.W.findIn K (.ref C) name=some (some (.ref f))) (ht:PySem.W.isFn K (.ref f)=true) (hv:mA name=none) (h:Q (.ref f,[.ref x]) s):
  wpAny (model prog w) A (getMethod (.ref x) name pl) Q E s:=by
 obtain⟨od,J,hl⟩:=I.look;exact PySem.W.method_fn X J (Ei hg).1 (Ei hg).2 hf (beq_iff_eq.mp ht) (by show(PySem.W.lookIn name od).map (·.isSome)=some false;rw[hl,hv];rfl) h
theorem Xr {ns:List Str}{Q:Unit->Shared->Prop}(X:K.In s.heap)(I:So s.heap x dx C mA)
  (hs:PySem.W.findIn K (.ref C) "__setattr__"=some (some (.builtin "object.__setattr__"))) (hp:PySem.W.plainOver K C=true) (ht:PySem.W.takerIn K C name=some none) (hh:PySem.W.hasDictIn K C=true)
  (hw:PySem.Within mA ns) (hsz:ns.length<=sizeLine)
  (h: ∀h',So h' x dx C (λy=>if y=name then some v else mA y)->Heap.SameBut dx s.heap h'->Q () {s with heap:=h',toks:=s.toks+2}):
  wpAny (model prog w) A (setAttr (.ref x) name v) Q E s:=by
 obtain⟨od,J,hl⟩:=I.look;refine PySem.W.set_plain X J hs (PySem.W.osa_open (s:={s with toks:=s.toks+1}) (r:=none) X J hp ht λb=>?_);obtain⟨cd,hc,hd'⟩:=PySem.W.any_some hh;have hx:s.heap.get? x=some ⟨.ref C,some dx,.plain,#[]⟩:=I.obj;refine zC (zP (zC (zC (EN hx (zC (PySem.W.Looks.here (s:={s with toks:=s.toks+1}) (PySem.W.looks_clsIn X hc) ?_))))));rw[hd'];refine zP (a:=some dx) (zC (zP (zC ?_)));refine wpAny_nsSet1 (s:={s with toks:=s.toks+1}) I.ns λh' hn2 hs2=>?_;obtain⟨oD,esD,epD,hoD,hdD,hcD⟩:=hn2.count (Fx name v hw);refine zC (Gp hoD (by rw[hdD];exact Gq (yT hcD (by rw[zK];lia))) ?_);exact zP (h _ ⟨(hs2.2 _ (Ne.symm I.ne)).trans I.obj,hn2,I.ne⟩ hs2)
theorem Wm {R:Result->Shared->Prop}{vs:List Value}{kw:List (Str×Value)}(X:K.In s.heap)(hm:PySem.W.makesIn K C=true)
  (hi:PySem.W.findIn K (.ref C) "__init__"=some (some (.ref f))) (hf:PySem.W.typeIn K (.ref f)=some (.type "function"))
  (h:codeAny (model prog w) (A.under (.builtin "type.__call__" ⟨.ref C::vs,kw⟩)) (.call (.ref f) ⟨.ref (s.heap.objs.size+1)::vs,kw⟩) (PySem.W.InitBack (s.heap.objs.size+1) R)
   {s with heap:=(s.heap.push PySem.W.emptyDict).push (PySem.W.instObj C s.heap.objs.size)}):
  codeAny (model prog w) A (.call (.ref C) ⟨vs,kw⟩) R s:=by
 obtain⟨hh,g,d,t,os⟩:=s;exact PySem.W.make_core (PySem.W.makes_of X hm) (PySem.W.looks_findIn X hi) (λself=>PySem.W.bind_fn X self hf) (.inl rfl) h
end
def GN (f:Str)(v:V):List (Str×V)->List (Str×V)
 |[]=>[(f,v)]
 |(g,x)::r=>if g=f then(g,v)::r else(g,x)::GN f v r
theorem HM (f g:Str)(v:V): ∀fs:List (Str×V),(GN f v fs).lookup g=if g=f then some v else fs.lookup g
 |[]=>by
  show List.lookup g [(f,v)]=_
  by_cases h:g=f
  ·have hb:(g==f)=true:=beq_iff_eq.mpr h;simp only[List.lookup,hb,zT h]
  ·have hb:(g==f)=false:=beq_eq_false_iff_ne.mpr h;simp only[List.lookup,hb,zI h]
 |(k,x)::r=>by
  have ih:=HM f g v r;rw[show GN f v ((k,x)::r)=(if k=f then(k,v)::r else(k,x)::GN f v r)from rfl]
  by_cases hk:k=f
  ·rw[zT hk]
   by_cases h:g=k
   ·have hb:(g==k)=true:=beq_iff_eq.mpr h;simp only[List.lookup,hb,zT (h.trans hk)]
   ·have hb:(g==k)=false:=beq_eq_false_iff_ne.mpr h;simp only[List.lookup,hb,zI (λe:g=f=>h (e.trans hk.symm))]
  ·rw[zI hk]
   by_cases h:g=k
   ·have hb:(g==k)=true:=beq_iff_eq.mpr h;simp only[List.lookup,hb,zI (λe:g=f=>hk (h.symm.trans e))]
   ·have hb:(g==k)=false:=beq_eq_false_iff_ne.mpr h;simp only[List.lookup,hb];exact ih
theorem Gf (f:Str)(v:V): ∀fs:List (Str×V),f∈(GN f v fs).map (·.1)/\ ∀g,g∈fs.map (·.1)->g∈(GN f v fs).map (·.1)
 |[]=>⟨by simp[GN],λg h=>by simp at h⟩
 |(k,x)::r=>by
  obtain⟨i1,i2⟩:=Gf f v r;rw[show GN f v ((k,x)::r)=(if k=f then(k,v)::r else(k,x)::GN f v r)from rfl]
  by_cases hk:k=f
  ·rw[zT hk];subst hk;exact⟨by simp,λg h=>by simpa using h⟩
  ·rw[zI hk];refine⟨?_,λg h=>?_⟩
   ·rw[yQ];exact zQ _ i1
   ·rw[yQ]at h ⊢
    rcases List.mem_cons.mp h with e|e
    ·exact List.mem_cons.mpr (.inl e)
    ·exact zQ _ (i2 g e)
theorem KQ (f:Str)(v:V): ∀fs:List (Str×V),(GN f v fs).length<=fs.length+1
 |[]=>by simp[GN]
 |(k,x)::r=>by
  have ih:=KQ f v r;rw[show GN f v ((k,x)::r)=(if k=f then(k,v)::r else(k,x)::GN f v r)from rfl]
  by_cases hk:k=f
  ·rw[zT hk,zK,zK];lia
  ·rw[zI hk,zK,zK];lia
theorem EZ.some_of {v:V}{o:Option Value}(r:EZ (some v) o): ∃u,o=some u/\kU v u:=by
 cases o with
 |none=>exact(show False from r).elim
 |some u=>exact⟨u,rfl,r⟩
theorem EZ.none_of {o:Option Value}(r:EZ none o):o=none:=by
 cases o with
 |none=>rfl
 |some u=>exact(show False from r).elim
theorem NV {v:V}{u:Value}(r:kU v u):PySem.W.handedIn u=true:=by
 cases v with
 |non=>cases(show u=Value.none from r);rfl
 |bl b=>cases(show u=Value.bool b from r);rfl
 |int i=>obtain⟨t,e⟩:=(show ∃t,u=Value.int i t from r);cases e;rfl
 |str x=>obtain⟨t,e⟩:=(show ∃t,u=Value.str x t from r);cases e;rfl
 |byt b=>obtain⟨t,e⟩:=(show ∃t,u=Value.bytes b t from r);cases e;rfl
 |flt b=>obtain⟨t,e⟩:=(show ∃t,u=Value.float b t from r);cases e;rfl
 |ref a=>cases(show u=Value.ref a from r);rfl
 |ty n=>cases(show u=Value.type n from r);rfl
section
variable {P:Program}{w:World}{H H':Hp}{h h':Heap}{a C dx:Addr}{fs fs':List (Str×V)}
theorem Lq (hok:Ix P w H h)(e:H a=some (.ins C dx fs)): ∃mA,So h a dx C mA/\(∀f,EZ (fs.lookup f) (mA f))/\PySem.Within mA (fs.map (·.1))/\fs.length<=1000/\H dx=some (.own a):=by
 obtain⟨d,z,ne,ob,mA,n,r,q⟩:=(show wT P w H h a (.ins C dx fs)from hok a _ e);exact⟨mA,⟨ob,n,ne⟩,r,q,z,d⟩
end
structure Tw (K:PySem.W.Frag)(C:Addr):Prop where
 pg:PySem.W.plainGet K C Str.empty=true
 hd:PySem.W.hasDictIn K C=true
 po:PySem.W.plainOver K C=true
 sa:PySem.W.findIn K (.ref C) "__setattr__"=some (some (.builtin "object.__setattr__"))
theorem Tw.get {K:PySem.W.Frag}{C:Addr}(c:Tw K C)(f:Str):PySem.W.plainGet K C f=true:=c.pg
def uF (K:PySem.W.Frag)(C:Addr)(f:Str):Prop:=PySem.W.findIn K (.ref C) f=some none
theorem uF.taker {K:PySem.W.Frag}{C:Addr}{f:Str}(n:uF K C f):PySem.W.takerIn K C f=some none:=by
 unfold PySem.W.takerIn;rw[show PySem.W.findIn K (.ref C) f=some none from n];rfl
structure YH (K:PySem.W.Frag)(C:Addr)(m:Str)(f:Addr):Prop where
 at_:PySem.W.findIn K (.ref C) m=some (some (.ref f))
 fn:PySem.W.isFn K (.ref f)=true
 kp:PySem.W.keepIn K (.ref f)=true
section
variable {X:Cx}{pins:List (Addr×Obj)}{σ:St}{H:Hp}{s:Shared}{a C dx:Addr}{fs:List (Str×V)}{f:Str}{v:V}{A:Around}{E:Value->Shared->Prop}
theorem Mt {b:Bool}{Q:Value->Shared->Prop}(I:xK X pins σ H s)(e:H a=some (.ins C dx fs))(c:Tw X.K C)(n:uF X.K C f)(l:fs.lookup f=some v)
  (h: ∀u s',xK X pins σ H s'->kU v u->Q u s'):wpAny (model X.prog X.w) A (getAttr (.ref a) f b) Q E s:=by
 obtain⟨mA,O,r,_,_,_⟩:=Lq I.hok e;obtain⟨u,hu,ru⟩:=EZ.some_of (v:=v) (o:=mA f) (by rw[<-l];exact r f);exact Yn I.kIn O (c.get f) c.hd n hu (NV ru) (h u _ (I.tok _) ru)
theorem Ms {m:Str}{g:Addr}{pl:Sem Bool}{Q:Value×List Value->Shared->Prop}(I:xK X pins σ H s)(e:H a=some (.ins C dx fs))(c:Tw X.K C)(k:YH X.K C m g)(l:fs.lookup m=none)
  (h:Q (.ref g,[.ref a]) s):wpAny (model X.prog X.w) A (getMethod (.ref a) m pl) Q E s:=by
 obtain⟨mA,O,r,_,_,_⟩:=Lq I.hok e;have hn:mA m=none:=EZ.none_of (by rw[<-l];exact r m);exact Wz I.kIn O (c.get m) k.at_ k.fn hn h
theorem LK {y:V}{u:Value}{Q:Unit->Shared->Prop}(I:xK X pins σ H s)(e:H a=some (.ins C dx fs))(c:Tw X.K C)(n:uF X.K C f)(hl:fs.length<1000)(ry:kU y u)
  (h: ∀s',xK X pins σ (upd H a (.ins C dx (GN f y fs))) s'->Q () s'):wpAny (model X.prog X.w) A (setAttr (.ref a) f u) Q E s:=by
 obtain⟨mA,O,r,wi,_,ho⟩:=Lq I.hok e;have hz:(fs.map (·.1)).length<=sizeLine:=by rw[zD,BU];lia
 refine Xr I.kIn O c.sa c.po n.taker c.hd wi hz λh' O' sb=>h _ ?_;have hd: ∃o,h'.get? dx=some o:=let⟨o,_,_,e',_⟩:=O'.ns;⟨o,e'⟩;refine I.write (x:=a) (e:=dx) (by rw[e];exact True.intro) (.inr ho) (λb q hb z=>(sb.2 b hb).trans z) hd ?_;refine⟨by rw[zV O.ne];exact ho,?_,O.ne,O'.obj,_,O'.ns,λg=>?_,λg hg=>?_⟩
 ·have:=KQ f y fs;lia
 ·show EZ ((GN f y fs).lookup g) (if g=f then some u else mA g);rw[HM]
  by_cases q:g=f
  ·rw[zT q,zT q];exact ry
  ·rw[zI q,zI q];exact r g
 ·by_cases q:g=f
  ·rw[q];exact(Gf f y fs).1
  ·refine(Gf f y fs).2 g (wi g λz=>hg ?_);show(if g=f then some u else mA g)=none;rw[zI q];exact z
theorem xK.made (I:xK X pins σ H s):xK X pins σ (upd (upd H s.heap.objs.size (.own (s.heap.objs.size+1))) (s.heap.objs.size+1) (.ins C s.heap.objs.size []))
  {s with heap:=(s.heap.push PySem.W.emptyDict).push (PySem.W.instObj C s.heap.objs.size)}:=by
 have e1:(s.heap.push PySem.W.emptyDict).get? s.heap.objs.size=some PySem.W.emptyDict:=yL s.heap rfl;have e2:((s.heap.push PySem.W.emptyDict).push (PySem.W.instObj C s.heap.objs.size)).get? (s.heap.objs.size+1)=some (PySem.W.instObj C s.heap.objs.size):=by
  have:=yL (s.heap.push PySem.W.emptyDict) (o:=PySem.W.instObj C s.heap.objs.size) rfl
  rwa [AX]at this
 have e3:(s.heap.push PySem.W.emptyDict).Ns s.heap.objs.size (λ_=>none):=⟨PySem.W.emptyDict,#[],_,e1,rfl,(λe he=>absurd he (by simp)),λ_=>rfl⟩;have I1:=I.laid (a:=s.heap.objs.size) (o:=.own (s.heap.objs.size+1)) (h':=s.heap.push PySem.W.emptyDict) (t':=s.toks) (λb u q=>zJ _ q) (zW _) ⟨_,e1⟩;refine I1.laid (a:=s.heap.objs.size+1) (o:=.ins C s.heap.objs.size []) (t':=s.toks) (λb u q=>zJ _ q) (Eu (AX _ _)) ?_;have ne:s.heap.objs.size≠s.heap.objs.size+1:=xM (qF _);refine⟨by rw[zV ne,zH],yU _,ne,e2,λ_=>none,(Heap.Ns1.of_empty e3).at λo q=>zJ _ q,λ_=>True.intro,λy hy=>absurd rfl hy⟩
theorem Tq {prog:Program}{w:World}{env:Env}{e:Expr}{f:Str}{pos:Pos}{s:Shared}{Q:Value->Shared->Prop}(hb:attributeBase e f env (eval e env)=eval e env)
  (h:wpAny (model prog w) A (eval e env) (λo s₁=>wpAny (model prog w) A (getAttr o f true) Q E s₁) E s):wpAny (model prog w) A (eval (.Attribute e f pos) env) Q E s:=
 Attribute_any_ h (by rw[arm_eval_Attribute,hb])
end
inductive YQ (K:PySem.W.Frag) (f:Str) (x:V) (H1:Hp) (Q:VK):Prop
 |mk (a C dx fs v:_) (h0:x=.ref a) (h1:H1 a=some (.ins C dx fs)) (h2:Tw K C) (h3:uF K C f) (h4:fs.lookup f=some v) (h5:Q v H1):YQ K f x H1 Q
def zFd (K:PySem.W.Frag)(ta:TE)(f:Str):TE:=λσ H Q=>ta σ H λx H1=>YQ K f x H1 Q
def zFk (K:PySem.W.Frag)(ta tv:TE)(f:Str):TS:=λD σ H=>tv σ H λy H1=>ta σ H1 λx H2=> ∃a C dx fs,x=.ref a/\H2 a=some (.ins C dx fs)/\Tw K C/\uF K C f/\fs.length<1000/\
 D.nx σ (upd H2 a (.ins C dx (GN f y fs)))
def zEa (X:Cx)(op:Operator)(rd:V->V->Hp->VK->Prop):Prop:=
 ∀(pins:List (Addr×Obj)) (s:Shared) (σ:St) (H:Hp) (x y:V) (u v:Value) (Q:VK),xK X pins σ H s->kU x u->kU y v->rd x y H Q->wpAny (model X.prog X.w) X.A (inplaceOp op u v) (EP X pins σ Q) X.xe s
def Xs (K:PySem.W.Frag)(ta tv:TE)(rd:V->V->Hp->VK->Prop)(f:Str):TS:=λD σ H=>ta σ H λx H1=> ∃a C dx fs v,x=.ref a/\H1 a=some (.ins C dx fs)/\Tw K C/\uF K C f/\fs.lookup f=some v/\
 tv σ H1 λy H2=>rd v y H2 λz H3=> ∃dx' fs',H3 a=some (.ins C dx' fs')/\fs'.length<1000/\D.nx σ (upd H3 a (.ins C dx' (GN f z fs')))
section
variable {X:Cx}{o e value:Expr}{f:Str}{pos pos' tpos:Pos}{ta tv:TE}
theorem kD (he:PE X e ta)(hb:attributeBase e f X.env (eval e X.env)=eval e X.env):PE X (.Attribute e f pos) (zFd X.K ta f):=by
 refine⟨?_⟩;intro pins s σ H Q I h;refine Tq hb (qT (he pins s σ H _ I h) λu s1 hzz=>?_);obtain⟨x,H1,I1,rx,a,C,dx,fs,v,ex,ea,c,n,l,q⟩:=hzz;subst ex;obtain rfl:u=Value.ref a:=rx;exact Mt I1 ea c n l λu' s2 I2 ru=>⟨v,H1,I2,ru,q⟩
theorem GO (ha:PE X o ta)(hv:PE X value tv)(hs:swapsWith value (some (.Attribute o f pos')) pos.line X.env=pure false):PS X (.Assign [.Attribute o f pos'] value pos) (zFk X.K ta tv f):=by
 refine⟨?_⟩;intro pins s σ H D I h;refine Dh (qT (hv pins s σ H _ I h) λu s1 ⟨y,H1,I1,ry,q⟩=>qT (ha pins s1 σ H1 _ I1 q) λov s2 ⟨x,H2,I2,rx,a,C,dx,fs,ex,ea,c,n,l,q2⟩=>?_) hs;subst ex;obtain rfl:ov=Value.ref a:=rx;exact LK I2 ea c n l ry λs3 I3=>⟨σ,_,I3,q2⟩
theorem BS {op:Operator}{rd:V->V->Hp->VK->Prop}(ha:PE X o ta)(hv:PE X value tv)(hop:zEa X op rd):PS X (.AugAssign (.Attribute o f tpos) op value pos) (Xs X.K ta tv rd f):=by
 refine⟨?_⟩;intro pins s σ H D I h;refine wpAny_AugAssign_AttributeAny (qT (ha pins s σ H _ I h) λov s1 hzz=>?_);obtain⟨x,H1,I1,rx,a,C,dx,fs,v,ex,ea,c,n,l,q⟩:=hzz;subst ex;obtain rfl:ov=Value.ref a:=rx;refine Mt I1 ea c n l λu s2 I2 ru=>qT (hv pins s2 σ H1 _ I2 q) λw3 s3 ⟨y,H2,I3,ry,q3⟩=>qT (hop pins s3 σ H2 v y u w3 _ I3 ru ry q3) λw4 s4 hzz=>?_;obtain⟨z,H3,I4,rz,dx',fs',ea',l',q4⟩:=hzz;exact LK I4 ea' c n l' rz λs5 I5=>⟨σ,_,I5,q4⟩
def zFo:V->V->Hp->VK->Prop:=λx y H Q=> ∃i j,x=.int i/\y=.int j/\Q (.int (i+j)) H
theorem HP:zEa X .Add zFo:=by
 rintro pins s σ H x y u v Q I rx ry ⟨i,j,rfl,rfl,q⟩;obtain⟨t,rfl⟩:=(show ∃t,u=Value.int i t from rx);obtain⟨t',rfl⟩:=(show ∃t',v=Value.int j t' from ry);exact PyProof.Rows.iadd_int ⟨.int (i+j),H,I.tok _,⟨_,rfl⟩,q⟩
end
section
variable {X:Cx}{pins:List (Addr×Obj)}{σ:St}{H:Hp}{s:Shared}{A:Around}{E:Value->Shared->Prop}{Q:Value->Shared->Prop}{c:Value}{b:Bool}
inductive JT (K:PySem.W.Frag) (H:Hp):V->Value->Prop where
 |non:JT K H .non (.type "NoneType")
 |bl (x:Bool):JT K H (.bl x) (.type "bool")
 |int (i:Int):JT K H (.int i) (.type "int")
 |str (x:Str):JT K H (.str x) (.type "str")
 |flt (x:UInt64):JT K H (.flt x) (.type "float")
 |lst {a:Addr} {xs:List V} (e:H a=some (.lst xs)):JT K H (.ref a) (.type "list")
 |frz {a:Addr} {o:Obj} {xs:List V} (e:H a=some (.frz o (.lst xs))):JT K H (.ref a) (.type "list")
 |tup {a:Addr} {xs:List V} (e:H a=some (.tup xs)):JT K H (.ref a) (.type "tuple")
 |dK {a:Addr} {kvs:List (DN×V)} (e:H a=some (.dK kvs)):JT K H (.ref a) (.type "dict")
 |dT {a:Addr} {kvs:List (List DN×V)} (e:H a=some (.dT kvs)):JT K H (.ref a) (.type "dict")
 |ins {a C dx:Addr} {fs:List (Str×V)} (e:H a=some (.ins C dx fs)) (cl:Tw K C) (ha:PySem.W.findIn K (.ref C) "__class__"=some (some (.builtin "object.__class__")))
   (hn:PySem.W.specialIn K (.builtin "object.__class__") "__get__"=some (some (.builtin "getset_descriptor.__get__"))) (htk:PySem.W.takesIn K (.builtin "object.__class__")=some true)
   (hm:PySem.W.mroIn K C (.type "object")=some true):JT K H (.ref a) (.ref C)
theorem NP {x:V}{u t:Value}(I:xK X pins σ H s)(rx:kU x u)(ty:JT X.K H x t)(e:PySem.W.kitOne X.K t c=some b)(h: ∀tk,Q (.bool b) {s with toks:=tk}):
  wpAny (model X.prog X.w) A (call (.builtin "isinstance") [u,c]) Q E s:=by
 cases ty with
 |non=>cases(show u=Value.none from rx);exact qD PySem.W.kitx_none I.kIn True.intro e (λz=>nomatch z) h
 |bl y=>cases(show u=Value.bool y from rx);exact qD PySem.W.kitx_bool I.kIn True.intro e (λz=>nomatch z) h
 |int i=>obtain⟨t,q⟩:=(show ∃t,u=Value.int i t from rx);cases q;exact qD PySem.W.kitx_int I.kIn True.intro e (λz=>nomatch z) h
 |str y=>obtain⟨t,q⟩:=(show ∃t,u=Value.str y t from rx);cases q;exact qD PySem.W.kitx_str I.kIn True.intro e (λz=>nomatch z) h
 |flt y=>obtain⟨t,q⟩:=(show ∃t,u=Value.float y t from rx);cases q;exact qD PySem.W.kitx_float I.kIn True.intro e (λz=>nomatch z) h
 |@lst a xs ea=>
  cases(show u=Value.ref a from rx);obtain⟨_,_,n,_,h1⟩:=(show wT X.prog X.w H s.heap a (.lst xs)from I.hok a _ ea);exact qD PySem.W.kitx_list I.kIn ⟨_,h1,rfl⟩ e (λz=>nomatch z) h
 |@frz a ob xs ea=>
  cases(show u=Value.ref a from rx);obtain⟨_,_,_,n,_,h1⟩:=(show wT X.prog X.w H s.heap a (.frz ob (.lst xs))from I.hok a _ ea);exact qD PySem.W.kitx_list I.kIn ⟨_,h1,rfl⟩ e (λz=>nomatch z) h
 |@tup a xs ea=>
  cases(show u=Value.ref a from rx);obtain⟨_,_,_,p⟩:=(show wT X.prog X.w H s.heap a (.tup xs)from I.hok a _ ea);obtain⟨o,h1,h2,_⟩:=p;exact qD PySem.W.kitx_tuple I.kIn ⟨o,h1,h2⟩ e (λz=>nomatch z) h
 |@dK a kvs ea=>
  cases(show u=Value.ref a from rx);obtain⟨_,_,vs,_,p⟩:=(show wT X.prog X.w H s.heap a (.dK kvs)from I.hok a _ ea);obtain⟨o,es,ep,h1,h2,_⟩:=p;exact qD PySem.W.kitx_dict I.kIn ⟨o,h1,h2.1⟩ e (λz=>nomatch z) h
 |@dT a kvs ea=>
  cases(show u=Value.ref a from rx);obtain⟨_,_,xs,_,o,es,ep,h1,h2,_⟩:=(show wT X.prog X.w H s.heap a (.dT kvs)from I.hok a _ ea);exact qD PySem.W.kitx_dict I.kIn ⟨o,h1,h2.1⟩ e (λz=>nomatch z) h
 |@ins a C dx fs ea cl ha hn htk hm=>
  cases(show u=Value.ref a from rx);obtain⟨mA,O,_⟩:=Lq I.hok ea;obtain⟨od,J,_⟩:=O.look;exact qD (PySem.W.kitx_own (cl.get _) cl.hd ha hn htk hm) I.kIn J e (λz=>nomatch z) h
end
structure uE (k:Nat)(A:Around):Prop where
 hd:A.handled=none
 dp:A.depth+3*k+5<recursionLimit
 un:A.units+16*k+200<cLine
 gd:A.guards=some []
theorem uE.mono {j k:Nat}{A:Around}(r:uE k A)(h:j<=k):uE j A:=⟨r.hd,by have:=r.dp;lia,by have:=r.un;lia,r.gd⟩
theorem uE.deeper {k:Nat}{A:Around}(r:uE (k+1) A)(env:Env):uE k (A.deeper env):=
 ⟨r.hd,by have:=r.dp;show A.depth+1+3*k+5<_;lia,by have:=r.un;show A.units+3+16*k+200<_;lia,r.gd⟩
theorem Sb {A:Around}{C:Addr}{us:List Value}{kw:List (Str×Value)}:(A.under (.builtin "type.__call__" ⟨.ref C::us,kw⟩)).depth =A.depth+1:=by
 first|rfl|simp[Around.under,Code.weight,Code.isCreation,Code.isGuard,Code.isCaller,Code.frames,Code.isFrame,guardIds]
theorem Sa {A:Around}{C:Addr}{us:List Value}{kw:List (Str×Value)}:(A.under (.builtin "type.__call__" ⟨.ref C::us,kw⟩)).units =A.units+1:=by
 first|rfl|simp[Around.under,Code.cUnits,Code.frames,Code.isFrame]
theorem uE.make {k:Nat}{A:Around}(r:uE (k+1) A)(C:Addr)(us:List Value)(kw:List (Str×Value)):uE k (A.under (.builtin "type.__call__" ⟨.ref C::us,kw⟩)):=
 ⟨r.hd,by have:=r.dp;rw[Sb];lia,by have:=r.un;rw[Sa];lia,r.gd⟩
theorem uE.depth {k:Nat}{A:Around}(r:uE k A):A.depth<recursionLimit:=by have:=r.dp;lia
theorem uE.units {k:Nat}{A:Around}(r:uE k A):A.units+64<cLine:=by have:=r.un;lia
def Rh:TA:=λ_ H Q=>Q [] H
def Vh (ta:TE)(tr:TA):TA:=λσ H Q=>ta σ H λx H1=>tr σ H1 λxs H2=>Q (x::xs) H2
section
variable {X:Cx}{e:Expr}{es:List Expr}{te:TE}{t:TA}{pos:Pos}
theorem zG:PA X [] Rh:=⟨λ_ _ _ _ H Q I h=>FD ⟨[],H,I,.nil,h⟩⟩
theorem zA (ha:PE X e te)(hr:PA X es t)(hs:starEach (e::es) X.env=(false,eval e X.env)::starEach es X.env:=by rfl):PA X (e::es) (Vh te t):=by
 refine⟨?_⟩;intro pos pins s σ H Q I h;rw[hs];show wpAny _ _ (spliced ((false,eval e X.env)::backTo pos (starEach es X.env))) _ _ s;refine Ax (qT (ha pins s σ H _ I h) λu s1 hzz=>?_);obtain⟨x,H1,I1,r1,q1⟩:=hzz;exact qT (hr pos pins s1 σ H1 _ I1 q1) λus s2 ⟨xs,H2,I2,r2,q2⟩=>⟨x::xs,H2,I2,.cons r1 r2,q2⟩
inductive Sz (xs:List V) (H1:Hp) (Q:VK):Prop
 |mk (h0:xs.length<=sizeLine) (h1: ∀p,H1 p=none->Q (.ref p) (upd H1 p (.tup xs))):Sz xs H1 Q
def zEz (t:TA):TE:=λσ H Q=>t σ H λxs H1=>Sz xs H1 Q
inductive YN (xs:List V) (H1:Hp) (Q:VK):Prop
 |mk (h0:xs.length<=sizeLine) (h1: ∀p,H1 p=none->Q (.ref p) (upd H1 p (.lst xs))):YN xs H1 Q
def zBz (t:TA):TE:=λσ H Q=>t σ H λxs H1=>YN xs H1 Q
theorem jZ {x1}(h:PA X es t):PE X (.Tuple es x1 pos) (zEz t):=by
 refine⟨?_⟩;intro pins s σ H Q I hq;refine wpAny_Tuple_spliced (qT (h pos pins s σ H _ I hq) λus s1 ⟨xs,H1,I1,r,z,q⟩=>⟨by rw[<-r.length];exact z,?_⟩);have hf:H1 s1.heap.objs.size=none:=I1.hok.fresh (zW _);refine⟨.ref s1.heap.objs.size,upd H1 s1.heap.objs.size (.tup xs),I1.laid (t':=s1.toks) (λb u e=>zJ _ e) (zW _) ?_,rfl,q _ hf⟩;exact⟨z,us,r,⟨_,yL _ rfl,rfl,_,rfl⟩⟩
theorem xV (h:PA X es t):PE X (.List es pos) (zBz t):=by
 refine⟨?_⟩;intro pins s σ H Q I hq;refine wpAny_List_spliced (qT (h pos pins s σ H _ I hq) λus s1 ⟨xs,H1,I1,r,z,q⟩=>⟨by rw[<-r.length];exact z,?_⟩);have hf:H1 s1.heap.objs.size=none:=I1.hok.fresh (zW _);refine⟨.ref s1.heap.objs.size,upd H1 s1.heap.objs.size (.lst xs),I1.laid (t':=s1.toks) (λb u e=>zJ _ e) (zW _) ?_,rfl,q _ hf⟩;exact⟨z,us,0,r,yL _ rfl⟩
end
abbrev Sp:=List V->Hp->VK->XK->Prop
abbrev JW:=List Env->Hp->Shared->XK->Value->Shared->Prop
structure Ss (P:Program)(w:World)(K:PySem.W.Frag)(mg:Str->Option Value)(base:Heap)(A:Around)(outer:List Env)(s:Shared)(H:Hp):Prop where
 frames:A.frames=some outer
 mod:Mod K mg base
 bs: ∀b o,base.get? b=some o->s.heap.get? b=some o/\H b=none
 bsz:base.objs.size<=s.heap.objs.size
 funs:s.heap.FunFrames base outer
 frf: ∀b∈frs outer,H b=none
 hok:Ix P w H s.heap
 bare:AllBare s.gens
def CE (outer:List Env)(P:Program)(w:World)(H:Hp)(s:Shared)(Q:VK)(u:Value)(s':Shared):Prop:=
 ∃v H',s'.os=s.os/\AllBare s'.gens/\Un (frs outer) [] H H' s.heap s'.heap/\Ix P w H' s'.heap/\kU v u/\Q v H'
def CR (CX:JW)(outer:List Env)(P:Program)(w:World)(H:Hp)(s:Shared)(Q:VK)(E:XK)(r:Result)(s':Shared):Prop:=
 match r with
 | .ok (.ret u)=>CE outer P w H s Q u s'
 | .ok _=>False
 | .error e=>CX outer H s E e s'
structure CU (P:Program)(w:World)(K:PySem.W.Frag)(mg:Str->Option Value)(base:Heap)(CX:JW)(k:Nat)(f:Addr)(fd:FuncData)(ps:List Str)(sp:Sp):Prop where
 len: ∀vs H Q E,sp vs H Q E->vs.length=ps.length
 run: ∀(A:Around) (outer:List Env) (s:Shared) (H:Hp) (args:Args) (us:List Value) (vs:List V) (Q:VK) (E:XK),uE k A->Ss P w K mg base A outer s H->BindsTo s fd args (ps.zip us)->jS vs us->sp vs H Q E->
  codeAny (model P w) A (.call (.ref f) args) (CR CX outer P w H s Q E) s
theorem Ss.make {P:Program}{w:World}{K:PySem.W.Frag}{mg:Str->Option Value}{base:Heap}{A:Around}{outer:List Env}{s:Shared}{H:Hp}(e:Ss P w K mg base A outer s H)(C:Addr)(us:List Value)(kw:List (Str×Value)):
  Ss P w K mg base (A.under (.builtin "type.__call__" ⟨.ref C::us,kw⟩)) outer s H:=⟨by first|exact e.frames|(simpa[Around.under,Code.envs,Code.isFrame,pushEnvs]using e.frames),e.mod,e.bs,e.bsz,e.funs,e.frf,e.hok,e.bare⟩
section
variable {X:Cx}{pins:List (Addr×Obj)}{σ:St}{H:Hp}{s s':Shared}
theorem xK.env0 (I:xK X pins σ H s):Ss X.prog X.w X.K X.mg X.base X.A X.stack s H:=
 ⟨I.ok.frames,I.ok.mod,I.bs,yT I.ok.bsz I.sz,I.stack,I.stkFree,I.hok,I.bare⟩
theorem xK.after {Q:VK}{u:Value}(I:xK X pins σ H s)(h:CE X.stack X.prog X.w H s Q u s'):EP X pins σ Q u s':=by
 obtain⟨v,H',os,bare,un,hok,r,q⟩:=h;obtain⟨hh,g,d,t,os'⟩:=s';obtain rfl:os'=s.os:=os;exact⟨v,H',I.call (h':=hh) (g':=g) (d':=d) (t':=t) (ch:=[]) un hok bare (λb z=>absurd z (by simp)),r,q⟩
end
def SB (sp:Sp)(dvs:List V)(E:XK)(t:TA):TE:=λσ H Q=>t σ H λvs H1=>sp (vs++dvs) H1 Q E
inductive Vf (C:Addr) (m:Str) (sp:Sp) (dvs:List V) (E:XK) (t:TA) (σ:St) (x:V) (H1:Hp) (Q:VK):Prop
 |mk (a dx fs:_) (h0:x=.ref a) (h1:H1 a=some (.ins C dx fs)) (h2:fs.lookup m=none) (h3:t σ H1 λvs H2=>sp (x::(vs++dvs)) H2 Q E):Vf C m sp dvs E t σ x H1 Q
def SA (C:Addr)(m:Str)(sp:Sp)(dvs:List V)(E:XK)(ta:TE)(t:TA):TE:=λσ H Q=>ta σ H λx H1=>Vf C m sp dvs E t σ x H1 Q
def YM (C:Addr)(sp:Sp)(dvs:List V)(E:XK)(t:TA):TE:=λσ H Q=>t σ H λvs H1=> ∀x dx,H1 x=none->H1 dx=none->dx≠x->
 sp (.ref x::(vs++dvs)) (upd (upd H1 dx (.own x)) x (.ins C dx [])) (λv H2=>v=.non/\Q (.ref x) H2) E
def Ab (K:PySem.W.Frag)(fd:FuncData)(ps:List Str)(ds:List Value):Prop:=
 ∀(s:Shared) (us:List Value),K.In s.heap->(us++ds).length =ps.length->BindsTo s fd ⟨us,[]⟩ (ps.zip (us++ds))
theorem Ab.all {K:PySem.W.Frag}{fd:FuncData}{ps:List Str}(h: ∀us:List Value,us.length=ps.length->bindArgs fd ⟨us,[]⟩=pure (ps.zip us)):Ab K fd ps []:=λs us _ hl=>by
 rw[xI]at hl ⊢;exact .of_eq (h us hl)
def BL (CX:JW)(X:Cx)(E:XK):Prop:= ∀(pins:List (Addr×Obj)) (σ:St) (H:Hp) (s:Shared) (e:Value) (s':Shared),xK X pins σ H s->CX X.stack H s E e s'->X.xe e s'
section
variable {X:Cx}{CX:JW}{k:Nat}{f C:Addr}{fd:FuncData}{ps:List Str}{sp:Sp}{dvs:List V}{ds:List Value}{E:XK}{x m:Str}{p pos apos:Pos}{e o:Expr}{es:List Expr}{ta:TE}{t:TA}
theorem OR {pins:List (Addr×Obj)}{σ:St}{H:Hp}{s:Shared}{Q:VK}{us:List Value}{vs:List V}(F:CU X.prog X.w X.K X.mg X.base CX k f fd ps sp)(hr:uE k X.A)(hb:Ab X.K fd ps ds)(hd:jS dvs ds)(hx:BL CX X E)
  (I:xK X pins σ H s) (r:jS vs us) (h:sp (vs++dvs) H Q E):wpAny (model X.prog X.w) X.A (call (.ref f) us) (EP X pins σ Q) X.xe s:=by
 have r2:jS (vs++dvs) (us++ds):=r.append hd;have hl:(us++ds).length =ps.length:=by rw[<-r2.length];exact F.len _ _ _ _ h
 refine BN (Bi (F.run X.A X.stack s H ⟨us,[]⟩ (us++ds) (vs++dvs) Q E hr I.env0 (hb s us I.kIn hl) r2 h) λr s' hq=>?_);cases r with
 |error e=>exact hx pins σ H s e s' I hq
 |ok fl=>
  cases fl with
  |ret u=>exact I.after hq
  |next=>exact False.elim hq
  |brk=>exact False.elim hq
  |cont=>exact False.elim hq
theorem XG (F:CU X.prog X.w X.K X.mg X.base CX k f fd ps sp)(hr:uE k X.A)(hg:Gl X x)(hm:X.mg x=some (.ref f))(hk:PySem.W.keepIn X.K (.ref f)=true)(hb:Ab X.K fd ps ds)(hd:jS dvs ds)(hx:BL CX X E)
  (ha:PA X (e::es) t) (hdb:(x==("__debug__":Str))=false:=by decide) (he:starEach (e::es) X.env=(false,eval e X.env)::starEach es X.env:=by rfl) (hpl:(backTo pos (starEach es X.env)).any (·.1)=false:=by rfl):
  PE X (.Call (.Name x p) (e::es) [] pos) (SB sp dvs E t):=by
 refine⟨?_⟩;intro pins s σ H Q I h;refine wK (GW I hg hm ?_ hdb);refine Au (h₀:=X.base) I.ok.mod.kin hk (qT (ha pos pins s σ H _ I h) λus s1 ⟨vs,H1,I1,r,q⟩=>⟨I1.kIn,?_⟩) he hpl;exact OR F hr hb hd hx I1 r q
theorem VH (F:CU X.prog X.w X.K X.mg X.base CX k f fd ps sp)(hr:uE k X.A)(hg:Gl X x)(hm:X.mg x=some (.ref f))(hk:PySem.W.keepIn X.K (.ref f)=true)(hb:Ab X.K fd ps ds)(hd:jS dvs ds)(hx:BL CX X E)
  (hdb:(x==("__debug__":Str))=false:=by decide):PE X (.Call (.Name x p) [] [] pos) (SB sp dvs E Rh):=by
 refine⟨?_⟩;intro pins s σ H Q I h;refine wK (GW I hg hm ?_ hdb);exact PySem.W.callWith_K0 I.kIn hk (OR (us:=[]) F hr hb hd hx I .nil h)
theorem XD {pl:Sem Bool}(he:PE X o ta)(c:Tw X.K C)(hm:YH X.K C m f)(F:CU X.prog X.w X.K X.mg X.base CX k f fd ps sp)(hr:uE k X.A)(hb:Ab X.K fd ps ds)(hd:jS dvs ds)(hx:BL CX X E)(ha:PA X (e::es) t)
  (hst:starEach (e::es) X.env=(false,eval e X.env)::starEach es X.env:=by rfl) (hpl:(backTo pos (starEach es X.env)).any (·.1)=false:=by rfl)
  (ht:eval (.Call (.Attribute o m apos) (e::es) [] pos) X.env=(do
   let ov<-eval o X.env
   standAt apos.atName
   let(f,first)<-holding [ov] (getMethod ov m pl)
   callWith pos f first (backTo pos (starEach (e::es) X.env)) (backToKw pos (keywordEach [] X.env))):=by rfl):
  PE X (.Call (.Attribute o m apos) (e::es) [] pos) (SA C m sp dvs E ta t):=by
 refine⟨?_⟩;intro pins s σ H Q I h;refine PySem.W.methodCall_KW (pl:=pl) (qT (he pins s σ H _ I h) λu s1 ⟨x,H1,I1,rx,a,dx,fs,ex,ea,l,q⟩=>?_) ht;subst ex;obtain rfl:u=Value.ref a:=rx;refine Ms I1 ea c hm l ?_;refine Au (first:=[.ref a]) (h₀:=X.base) I.ok.mod.kin hm.kp (qT (ha pos pins s1 σ H1 _ I1 q) λus s2 ⟨vs,H2,I2,r,q2⟩=>⟨I2.kIn,?_⟩) hst hpl;exact OR (us:=.ref a::us) (vs:=.ref a::vs) F hr hb hd hx I2 (.cons rfl r) q2
theorem VC {pl:Sem Bool}(he:PE X o ta)(c:Tw X.K C)(hm:YH X.K C m f)(F:CU X.prog X.w X.K X.mg X.base CX k f fd ps sp)(hr:uE k X.A)(hb:Ab X.K fd ps ds)(hd:jS dvs ds)(hx:BL CX X E)
  (ht:eval (.Call (.Attribute o m apos) [] [] pos) X.env=(do
   let ov<-eval o X.env
   standAt apos.atName
   let(f,first)<-holding [ov] (getMethod ov m pl)
   callWith pos f first (backTo pos (starEach [] X.env)) (backToKw pos (keywordEach [] X.env))):=by rfl):
  PE X (.Call (.Attribute o m apos) [] [] pos) (SA C m sp dvs E ta Rh):=by
 refine⟨?_⟩;intro pins s σ H Q I h;refine PySem.W.methodCall_KW (pl:=pl) (qT (he pins s σ H _ I h) λu s1 ⟨x,H1,I1,rx,a,dx,fs,ex,ea,l,q⟩=>?_) ht;subst ex;obtain rfl:u=Value.ref a:=rx;refine Ms I1 ea c hm l ?_;exact PySem.W.callWith_K0 (first:=[.ref a]) I1.kIn hm.kp (OR (us:=[.ref a]) (vs:=[.ref a]) F hr hb hd hx I1 (.cons rfl .nil) q)
structure Mk (K:PySem.W.Frag)(C f:Addr):Prop where
 makes:PySem.W.makesIn K C=true
 init:PySem.W.findIn K (.ref C) "__init__"=some (some (.ref f))
 fn:PySem.W.isFn K (.ref f)=true
 kp:PySem.W.keepIn K (.ref C)=true
theorem Vp {pins:List (Addr×Obj)}{σ:St}{H:Hp}{s:Shared}{Q:VK}{us:List Value}{vs:List V}(M:Mk X.K C f)(F:CU X.prog X.w X.K X.mg X.base CX k f fd ps sp)(hr:uE (k+1) X.A)(hb:Ab X.K fd ps ds)(hd:jS dvs ds)
  (hx:BL CX X E) (I:xK X pins σ H s) (r:jS vs us)
  (h: ∀x dx,H x=none->H dx=none->dx≠x->sp (.ref x::(vs++dvs)) (upd (upd H dx (.own x)) x (.ins C dx [])) (λv H2=>v=.non/\Q (.ref x) H2) E):
  wpAny (model X.prog X.w) X.A (call (.ref C) us) (EP X pins σ Q) X.xe s:=by
 have hq:=h (s.heap.objs.size+1) s.heap.objs.size (I.hok.fresh (Nat.le_succ _)) (I.hok.fresh (zW _)) (xM (qF _));have I2:=xK.made (C:=C) I;have r2:jS (V.ref (s.heap.objs.size+1)::(vs++dvs)) (Value.ref (s.heap.objs.size+1)::(us++ds)):=.cons rfl (r.append hd);have hl:(Value.ref (s.heap.objs.size+1)::us++ds).length =ps.length:=by
  have e:=r2.length;rw[F.len _ _ _ _ hq]at e;exact e.symm
 refine BN (Wm (f:=f) I.kIn M.makes M.init (beq_iff_eq.mp M.fn) (Bi (F.run _ X.stack _ _ ⟨Value.ref (s.heap.objs.size+1)::us,[]⟩ (Value.ref (s.heap.objs.size+1)::(us++ds)) _ _ E (hr.make C us [])
  (I2.env0.make C us []) (hb _ (Value.ref (s.heap.objs.size+1)::us) I2.kIn hl) r2 hq) λr s' hq'=>?_))
 cases r with
 |error e=>exact hx pins σ _ _ e s' I2 hq'
 |ok fl=>
  cases fl with
  |ret u=>
   obtain⟨v,H',I3,rv,ev,q3⟩:=I2.after hq';subst ev;exact⟨rv,⟨V.ref (s.heap.objs.size+1),H',I3,rfl,q3⟩⟩
  |next=>exact False.elim hq'
  |brk=>exact False.elim hq'
  |cont=>exact False.elim hq'
theorem XE (M:Mk X.K C f)(F:CU X.prog X.w X.K X.mg X.base CX k f fd ps sp)(hr:uE (k+1) X.A)(hg:Gl X x)(hm:X.mg x=some (.ref C))(hb:Ab X.K fd ps ds)(hd:jS dvs ds)(hx:BL CX X E)
  (ha:PA X (e::es) t) (hdb:(x==("__debug__":Str))=false:=by decide) (he:starEach (e::es) X.env=(false,eval e X.env)::starEach es X.env:=by rfl) (hpl:(backTo pos (starEach es X.env)).any (·.1)=false:=by rfl):
  PE X (.Call (.Name x p) (e::es) [] pos) (YM C sp dvs E t):=by
 refine⟨?_⟩;intro pins s σ H Q I h;refine wK (GW I hg hm ?_ hdb);refine Au (h₀:=X.base) I.ok.mod.kin M.kp (qT (ha pos pins s σ H _ I h) λus s1 ⟨vs,H1,I1,r,q⟩=>⟨I1.kIn,?_⟩) he hpl;exact Vp M F hr hb hd hx I1 r q
end
structure PK (X:Cx)(kws:List Keyword)(t:TA):Prop where
 go: ∀(pos:Pos) (pins:List (Addr×Obj)) (s:Shared) (σ:St) (H:Hp) (Q:List V->Hp->Prop),xK X pins σ H s->t σ H Q->wpAny (model X.prog X.w) X.A (evalAll ((backToKw pos (keywordEach kws X.env)).map (·.2))) (AP X pins σ Q) X.xe s
instance {X:Cx}{kws:List Keyword}{t:TA}:CoeFun (PK X kws t) (λ_=> ∀(pos:Pos) (pins:List (Addr×Obj)) (s:Shared) (σ:St) (H:Hp) (Q:List V->Hp->Prop),xK X pins σ H s->t σ H Q->wpAny (model X.prog X.w) X.A (evalAll ((backToKw pos (keywordEach kws X.env)).map (·.2))) (AP X pins σ Q) X.xe s):=⟨PK.go⟩
structure xA (N P:List Str)(sc:Scope):Prop where
 kind:sc.kind=.function
 co:sc.isCoroutine=false
 gen:sc.isGenerator=false
 nd:N.Nodup
 pre:N.take P.length=P
 par: ∀x∈P,sc.names.lookup x=some .local\/sc.names.lookup x=some .cell
 nofree: ∀y∈sc.names,y.2≠ .free
theorem Oj {kindOf:Str->Option NameKind}{x:Str}: ∀{binds:List (Str×Value)} {m:Str->Option Value},(∀v,(x,v)∉binds)->bindL kindOf binds m x=m x
 |[],_,_=>rfl
 |(n,v)::r,m,h=>by
  unfold bindL;rw[Oj λw hw=>h w (zQ _ hw)];split
  ·have:x≠n:=by rintro rfl;exact h v zO
   simp[this]
  ·rfl
theorem Om {kindOf:Str->Option NameKind}{x:Str}: ∀{binds:List (Str×Value)} {m:Str->Option Value},(∀v,(x,v)∉binds)->bindC kindOf binds m x=m x
 |[],_,_=>rfl
 |(n,v)::r,m,h=>by
  unfold bindC;rw[Om λw hw=>h w (zQ _ hw)];split
  ·rfl
  ·have:x≠n:=by rintro rfl;exact h v zO
   simp[this]
theorem Ol {kindOf:Str->Option NameKind}{x:Str}{v:Value}: ∀{P:List Str} {vs:List Value} {i:Nat} {m:Str->Option Value},P.Nodup->P[i]? =some x->vs[i]? =some v->kindOf x=some .local->
  bindL kindOf (P.zip vs) m x=some v
 |[],_,_,_,_,h,_,_=>by simp at h
 |_::_,[],_,_,_,_,h,_=>by simp at h
 |p::P,w::vs,0,m,nd,h1,h2,hk=>by
  simp at h1 h2;subst h1;subst h2
  show bindL kindOf ((p,w)::P.zip vs) m p=_;unfold bindL;rw[Oj λv hv=>(List.nodup_cons.mp nd).1 (DY hv).1,zT hk]
  simp
 |p::P,w::vs,i+1,m,nd,h1,h2,hk=>by
  show bindL kindOf ((p,w)::P.zip vs) m x=_;unfold bindL;exact Ol (i:=i) (List.nodup_cons.mp nd).2 (by simpa using h1) (by simpa using h2) hk
theorem On {kindOf:Str->Option NameKind}{x:Str}{v:Value}: ∀{P:List Str} {vs:List Value} {i:Nat} {m:Str->Option Value},P.Nodup->P[i]? =some x->vs[i]? =some v->kindOf x≠some .local->
  bindC kindOf (P.zip vs) m x=some v
 |[],_,_,_,_,h,_,_=>by simp at h
 |_::_,[],_,_,_,_,h,_=>by simp at h
 |p::P,w::vs,0,m,nd,h1,h2,hk=>by
  simp at h1 h2;subst h1;subst h2
  show bindC kindOf ((p,w)::P.zip vs) m p=_;unfold bindC;rw[Om λv hv=>(List.nodup_cons.mp nd).1 (DY hv).1,zI hk]
  simp
 |p::P,w::vs,i+1,m,nd,h1,h2,hk=>by
  show bindC kindOf ((p,w)::P.zip vs) m x=_;unfold bindC;exact On (i:=i) (List.nodup_cons.mp nd).2 (by simpa using h1) (by simpa using h2) hk
def Ey (N:List Str)(vs:List V):St:=vs.map some++List.replicate (N.length-vs.length) none
def JO (CX:JW)(P:Program)(w:World)(K:PySem.W.Frag)(mg:Str->Option Value)(base:Heap)(N:List Str)(qual:Str)(scope:Scope)(f:Addr)(cd:Value)(A:Around)(outer:List Env)(s:Shared)(H:Hp)(E:XK):Cx where
 prog:=P
 w:=w
 K:=K
 mg:=mg
 base:=base
 A:=A.deeper (envOfC qual scope s.heap.objs.size f cd)
 N:=N
 s₀:=s
 H₀:=H
 env:=envOfC qual scope s.heap.objs.size f cd
 outer:=outer
 stack:=envOfC qual scope s.heap.objs.size f cd::outer
 ex:=[]
 calm:=true
 fn:=λ_=>true
 pn:=[]
 xe:=λe s'=>wpAny (model P w) (A.deeper (envOfC qual scope s.heap.objs.size f cd)) (leaving (envOfC qual scope s.heap.objs.size f cd) e) (λ_ s''=>CX outer H s E e s'') (λe' s''=>CX outer H s E e' s'') s'
theorem QS {sc:Scope}{n:Nat}{x:Str}(h:sc.names.lookup x=some .cell): ∃c,(cellsFrom n sc.names []).lookup x=some c:=by
 have q:=Db sc.names n [] (.inl h);exact Option.isSome_iff_exists.mp q
theorem NQ {CX:JW}{P:Program}{w:World}{K:PySem.W.Frag}{mg:Str->Option Value}{base:Heap}{N ps:List Str}{qual:Str}{scope:Scope}{f:Addr}{cd:Value}{A:Around}{outer:List Env}{s s1:Shared}{H:Hp}{E:XK}{us:List Value}{vs:List V}
  (S:xA N ps scope) (hd:A.handled=none) (e0:Ss P w K mg base A outer s H) (hl:vs.length=ps.length) (r:jS vs us)
  (x:InCallC s s.heap.objs.size (bindL (envOfC qual scope s.heap.objs.size f cd).kindOf (ps.zip us) λ_=>none) (cellsFrom (s.heap.objs.size+1) scope.names []) (bindC (envOfC qual scope s.heap.objs.size f cd).kindOf (ps.zip us) λ_=>none) s1):
  xK (JO CX P w K mg base N qual scope f cd A outer s H E) [] (Ey N vs) H s1:=by
 have hpl:ps.length<=N.length:=by have:=jB List.length S.pre;rw[yJ]at this;lia
 obtain⟨h1,tk,rfl,hk⟩:=x.done;have noA: ∀b:Addr,b∉(JO CX P w K mg base N qual scope f cd A outer s H E).ex:=λb z=>absurd (show b∈([]:List Addr)from z) (by simp);refine⟨⟨e0.mod,S.kind,rfl,rfl,zW _,λy z c h1 h2=>?_,λy hy=>?_,λy c _ h=>?_,λ_=>hd,Around.frames_deeper e0.frames,.inr ⟨rfl,rfl⟩,λb z=>absurd z (noA b),e0.bs,e0.bsz,λb _ _=>noA b,λb z=>absurd z (noA b),e0.funs,e0.frf⟩,
  rfl,e0.bare,Un.kept hk,⟨_,x.toInCall.ns,λi y v h1 h2 h3=>?_⟩,λy c h=>⟨_,x.cell y c h⟩,e0.hok.fresh (zW _),λy c h=>?_,λp hp=>absurd (show p∈([]:List (Addr×Obj))from hp) (by simp),e0.hok.kept hk,?_⟩
 ·exact name_of_addr x.apart (wY h1) (wY h2)
 ·have hy:scope.names.lookup y=some .cell\/scope.names.lookup y=some .free:=hy
  rcases hy with hy|hy
  ·exact QS hy
  ·exact absurd rfl (S.nofree _ (wY hy))
 ·exact vC (x.above y c (wY h))
 ·have hi:i<vs.length:=by
   unfold Ey at h2
   by_cases hi:i<vs.length
   ·exact hi
   ·rw[kI (by simpa using hi)]at h2;rw[Gw]at h2;split at h2<;>cases h2
  have ha:vs[i]? =some v:=by
   unfold Ey at h2;rw[uG (by simpa using hi),zS]at h2;cases e:vs[i]? with
   |none=>rw[e]at h2;cases h2
   |some a=>rw[e]at h2;cases h2;rfl
  obtain⟨u,hu,rv⟩:=r.get ha;have hp:ps[i]? =some y:=by
   rw[<-S.pre,List.getElem?_take_of_lt (by lia)];exact h1
  have ndP:ps.Nodup:=by rw[<-S.pre];exact S.nd.sublist (List.take_sublist _ _)
  refine⟨u,rv,?_⟩
  rcases S.par y (zX hp)with k|k
  ·exact .inl ⟨k,Ol ndP hp hu k⟩
  ·obtain⟨c,e⟩:=QS (n:=s.heap.objs.size+1) k;refine .inr ⟨.inl k,c,e,?_⟩;have q:=x.cell y c e;rw[On ndP hp hu (by show scope.names.lookup y≠_;rw[k];decide)]at q;exact q
 ·exact e0.hok.fresh (vC (x.above y c (wY h)))
 ·unfold Ey;show _=N.length;rw[zB,zD,vZ];lia
theorem Zh {CX:JW}{P:Program}{w:World}{K:PySem.W.Frag}{mg:Str->Option Value}{base:Heap}{k:Nat}{f:Addr}{name qual:Str}{params:Arguments}{body:List Stmt}{scope:Scope}{dV kV doc pm cdv ct oc:Value}{an od:Option Addr}
  {osl:Array (Option Value)} {N ps:List Str} {sp:Sp} (lk:K.lookup f=some ⟨oc,od,.func (PySem.W.fnOf name qual params body scope dV kV doc pm an cdv ct),osl⟩) (hcd:PySem.W.codeIn K cdv qual=true) (S:xA N ps scope)
  (len: ∀vs H Q E,sp vs H Q E->vs.length=ps.length)
  (hbody: ∀(A:Around) (outer:List Env) (s:Shared) (H:Hp) (vs:List V) (Q:VK) (E:XK),uE k (A.deeper (envOfC qual scope s.heap.objs.size f cdv))->sp vs H Q E->
   ∃t,MJ (JO CX P w K mg base N qual scope f cdv A outer s H E) body t/\t {nx:=λ_ H'=>Q .non H',rt:=Q} (Ey N vs) H):
  CU P w K mg base CX (k+1) f (PySem.W.fnOf name qual params body scope dV kV doc pm an cdv ct) ps sp:=by
 refine⟨len,λA outer s H args us vs Q E hr e0 hb r hsp=>?_⟩;have hl:=len _ _ _ _ hsp;have KX:K.In s.heap:=e0.mod.kin.keeps λb o e=>(e0.bs b o e).1;have lim:s.heap.NoLimit:=e0.mod.nolimit.keeps λb o e=>(e0.bs b o e).1;have hkind: ∀y∈ps.zip us,scope.names.lookup y.1=some .local\/(scope.names.lookup y.1=some .cell/\((cellsFrom (s.heap.objs.size+1) scope.names []).lookup y.1).isSome =true):=fun⟨n,v⟩ hy=>by
  rcases S.par n (DY hy).1 with q|q
  ·exact .inl q
  ·exact .inr ⟨q,Db _ _ _ (.inl q)⟩
 refine codeAny_call_function hr.depth (KX _ _ lk) rfl S.co S.gen rfl (PySem.W.codeRec_of KX hcd) (hb _ _ _ _ ?_);refine wpAny_newFunctionEnv_cells S.kind hkind λenv he s1 x=>?_;subst he;refine⟨lim.keeps x.toInCall.keep,codeAny_func ?_⟩;obtain⟨t,ht,hq⟩:=hbody A outer s H vs Q E (hr.deeper _) hsp;have I:xK (JO CX P w K mg base N qual scope f cdv A outer s H E) [] (Ey N vs) H s1:=NQ S hr.hd e0 hl r x;refine wD (ht [] s1 (Ey N vs) H _ I hq) (λfl s' hs=>?_) λe s' hs=>hs;have fin: ∀{σ':St} {H':Hp} {v:V} {u:Value},xK (JO CX P w K mg base N qual scope f cdv A outer s H E) [] σ' H' s'->kU v u->Q v H'->CE outer P w H s Q u s':=
  fun{σ' H' v u} J rv q=>⟨v,H',J.os,J.bare,J.base,J.hok,rv,q⟩
 cases fl with
 |ret u=>
  obtain⟨v,σ',H',J,rv,q⟩:=hs;exact fin J rv q
 |next=>
  obtain⟨σ',H',J,q⟩:=hs;exact fin (v:=V.non) (u:=Value.none) J rfl q
 |brk=>
  obtain⟨_,_,_,q⟩:=hs;exact False.elim q
 |cont=>
  obtain⟨_,_,_,q⟩:=hs;exact False.elim q
section
variable {X:Cx}{x:Str}{p pos:Pos}{e:Expr}{es:List Expr}{t:TA}{id T:String}{r:List V->Hp->VK->Prop}
def tCB (r:List V->Hp->VK->Prop)(t:TA):TE:=λσ H Q=>t σ H λvs H1=>r vs H1 Q
theorem xB (hc:EM X (.builtin id) r)(hg:Gl X x)(hm:X.mg x=none)(hv:bootBuiltins x=some (.builtin id))(ha:PA X (e::es) t)(hn:x≠"__name__":=by decide)(hdb:(x==("__debug__":Str))=false:=by decide)
  (he:starEach (e::es) X.env=(false,eval e X.env)::starEach es X.env:=by rfl) (hpl:(backTo pos (starEach es X.env)).any (·.1)=false:=by rfl):PE X (.Call (.Name x p) (e::es) [] pos) (tCB r t):=by
 refine⟨?_⟩;intro pins s σ H Q I h;refine wK (Jc I hg hm hv ?_ hn hdb);exact PyProof.Rows.callWith_builtin1 (qT (ha pos pins s σ H _ I h) λus s1 ⟨vs,H1,I1,r1,q1⟩=>hc pins s1 σ H1 vs us Q I1 r1 q1) he hpl
theorem jU (hc:EM X (.type T) r)(hg:Gl X x)(hm:X.mg x=none)(hv:bootBuiltins x=some (.type T))(ha:PA X (e::es) t)(hn:x≠"__name__":=by decide)(hdb:(x==("__debug__":Str))=false:=by decide)
  (he:starEach (e::es) X.env=(false,eval e X.env)::starEach es X.env:=by rfl) (hpl:(backTo pos (starEach es X.env)).any (·.1)=false:=by rfl):PE X (.Call (.Name x p) (e::es) [] pos) (tCB r t):=by
 refine⟨?_⟩;intro pins s σ H Q I h;refine wK (Jc I hg hm hv ?_ hn hdb);exact qZ (qT (ha pos pins s σ H _ I h) λus s1 ⟨vs,H1,I1,r1,q1⟩=>hc pins s1 σ H1 vs us Q I1 r1 q1) he hpl
end
end L2
namespace HT
open PySem PyProof.Rows
section
variable {prog:Program}{w:World}{A:Around}{E:Value->Shared->Prop}{s:Shared}
def sIx (n d:Nat):Option Int->Nat
 |none=>d
 |some v=>if v<0 then(v+(n:Int)).toNat else min v.toNat n
theorem sIx_none (n d:Nat):sIx n d none=d:=rfl
theorem sIx_nat (n d k:Nat):sIx n d (some (k:Int))=min k n:=by
 show(if(k:Int)<0 then((k:Int)+(n:Int)).toNat else min (k:Int).toNat n)=min k n;rw[if_neg (by lia),Int.toNat_natCast]
theorem ZJ (n d:Nat)(hd:d<=n)(o:Option Int):sIx n d o<=n:=by
 cases o with
 |none=>exact hd
 |some v=>
  show(if v<0 then(v+(n:Int)).toNat else min v.toNat n)<=n
  by_cases hv:v<0
  ·rw[if_pos hv];lia
  ·rw[if_neg hv];exact Nat.min_le_right _ _
theorem Tn (v:Int)(n d:Nat):(if v<0 then max (v+(n:Int)) 0 else min v (n:Int))=((sIx n d (some v):Nat):Int):=by
 show(if v<0 then max (v+(n:Int)) 0 else min v (n:Int))=(((if v<0 then(v+(n:Int)).toNat else min v.toNat n):Nat):Int)
 by_cases hv:v<0
 ·simp only[if_pos hv];lia
 ·simp only[if_neg hv];lia
theorem Sm (lo hi:Option Int)(n:Nat):Builtin.Slice.sliceAdjust lo hi 1 (n:Int)=(((sIx n 0 lo:Nat):Int),((sIx n n hi:Nat):Int)):=by
 have h1: ¬((1:Int)<0):=by lia
 unfold Builtin.Slice.sliceAdjust;simp only[h1,if_false];refine Prod.ext ?_ ?_
 ·cases lo with
  |none=>rfl
  |some v=>exact Tn v n 0
 ·cases hi with
  |none=>rfl
  |some v=>exact Tn v n n
theorem RE (i j:Nat):Builtin.Slice.slicePlaces (i:Int) (j:Int) 1=j-i:=by
 unfold Builtin.Slice.slicePlaces;have h1:(1:Int) > 0:=by lia
 simp only[h1,if_true,Int.ediv_one];split<;>lia
theorem LJ {v:Value}{o:Option Int}{Q:Option Int->Shared->Prop}(p:IsPart v o)(h:Q o s):wpAny (model prog w) A (Builtin.Slice.slicePartIndex v) Q E s:=by
 cases p with
 |none=>exact slicePart_none h
 |int i t=>exact slicePart_int h
theorem FS {sl:Addr}{vl vu:Value}{lo hi:Option Int}{n:Nat}{Q:Int×Int×Nat->Shared->Prop}(hs:s.heap.IsSliceOf sl vl vu .none)(pl:IsPart vl lo)(pu:IsPart vu hi)
  (h:Q (((sIx n 0 lo:Nat):Int),1,sIx n n hi-sIx n 0 lo) s):wpAny (model prog w) A (Builtin.Slice.sliceApplied (.ref sl) (pure (n:Int))) Q E s:=by
 obtain⟨os,hos,hcs,hds⟩:=id hs;unfold Builtin.Slice.sliceApplied Builtin.Slice.sliceFields;refine wpAny_bind (wpAny_bind (wpAny_field hos hds (x:=vl) rfl (wpAny_bind (wpAny_field hos hds (x:=vu) rfl (wpAny_bind (wpAny_field hos hds (x:=.none) rfl (wpAny_pure ?_)))))));refine wpAny_bind (slicePart_none ?_);show wpAny _ _ (if((1:Int)==0)=true then _ else _) _ _ s;rw[if_neg (by decide)];refine wpAny_bind (LJ pl (wpAny_bind (LJ pu (wpAny_bind (wpAny_pure ?_)))));show wpAny _ _ (match Builtin.Slice.sliceAdjust lo hi 1 (n:Int)with|(lo,hi)=>pure (lo,(1:Int),Builtin.Slice.slicePlaces lo hi 1)) _ _ s;rw[Sm lo hi n];show wpAny _ _ (pure (((sIx n 0 lo:Nat):Int),(1:Int),Builtin.Slice.slicePlaces ((sIx n 0 lo:Nat):Int) ((sIx n n hi:Nat):Int) 1)) _ _ s;rw[RE];exact wpAny_pure h
theorem Vy (xs:Array Value)(i k:Nat):((List.range k).filterMap fun(m:Nat)=>xs[((i:Int)+(m:Int)*1).toNat]?).toArray =((xs.toList.drop i).take k).toArray:=by
 have e:(fun(m:Nat)=>xs[((i:Int)+(m:Int)*1).toNat]?)=λm=>xs[i+m]?:=by
  funext m;have:((i:Int)+(m:Int)*1).toNat =i+m:=by lia
  rw[this]
 rw[e];have:=pick_run xs i k;rw[List.filterMap_map]at this;have e2:((λx=>xs[x]?)∘λx=>i+x)=λm=>xs[i+m]?:=rfl;rw[e2]at this;rw[this]
theorem getItem_tuple_cut {t sl:Addr}{items:Array Value}{vl vu:Value}{lo hi:Option Int}{Q:Value->Shared->Prop}(ht:IsTup s.heap t items)(hs:s.heap.IsSliceOf sl vl vu .none)(pl:IsPart vl lo)(pu:IsPart vu hi)
  (hw: ¬(sIx items.size 0 lo=0/\sIx items.size items.size hi=items.size))
  (h:Q (.ref s.heap.objs.size) {s with heap:=s.heap.push {cls:=.type "tuple",data:=.seq ((items.toList.drop (sIx items.size 0 lo)).take (sIx items.size items.size hi-sIx items.size 0 lo)).toArray}})
  (hsz:items.size<=sizeLine):wpAny (model prog w) A (getItem (.ref t) (.ref sl)) Q E s:=by
 have htake:sizeOk (.seq ((items.toList.drop (sIx items.size 0 lo)).take (sIx items.size items.size hi-sIx items.size 0 lo)).toArray):=by
  show((items.toList.drop (sIx items.size 0 lo)).take (sIx items.size items.size hi-sIx items.size 0 lo)).toArray.size<=sizeLine;rw[List.size_toArray,List.length_take,List.length_drop,Array.length_toList];lia
 have hj:sIx items.size items.size hi<=items.size:=ZJ _ _ (Nat.le_refl _) hi;obtain⟨os,hos,hcs,hds⟩:=id hs;have hTs:s.TypeIs (.ref sl) "slice":=⟨os,hos,hcs⟩;unfold getItem
 try with_reducible refine wpAny_holding ?_
 first|refine wpAny_bind (wpAny_pure ?_)|skip
 refine wpAny_bind (wpAny_sequenceKey ht.typeIs (by decide) ?_);refine wpAny_bind (wpAny_callSpecial?_slot (name:=Str.ofString "__getitem__") ht.typeIs PyProof.Rows.slot_tuple_getitem
  (wpAny_call_entry PyProof.Rows.slot_tuple_getitem ht.typeIs entry_tuple_getitem ?_ (args_tuple_getitem _ _)))
 show wpAny _ _ (Builtin.Tuple.tupleItemsOf (.ref t)>>=_) _ _ s;refine wpAny_bind (tupleItemsOf_ ht ?_);refine wpAny_bind (wpAny_typeOf hTs ?_);rw[if_pos (by decide)];refine wpAny_bind (FS hs pl pu ?_);have hno: ¬((((sIx items.size 0 lo:Nat):Int)==0&&(1:Int)==1&&(sIx items.size items.size hi-sIx items.size 0 lo)==items.size)=true):=by
  intro q;rw[Bool.and_eq_true,Bool.and_eq_true]at q;have q1:((sIx items.size 0 lo:Nat):Int)=0:=eq_of_beq q.1.1;have q2:sIx items.size items.size hi-sIx items.size 0 lo=items.size:=eq_of_beq q.2;exact hw ⟨by lia,by lia⟩
 show wpAny _ _ (if(((sIx items.size 0 lo:Nat):Int)==0&&(1:Int)==1&&(sIx items.size items.size hi-sIx items.size 0 lo)==items.size)=true then _ else _) _ _ s;rw[if_neg hno,Vy]
 first
  |exact wpAny_bind (m:=Builtin.Tuple.tupleExact _) (wpAny_newObj_type (wpAny_pure ⟨_,rfl,wpAny_pure h⟩) htake)
  |exact wpAny_bind (m:=Builtin.Tuple.tupleExact _) (wpAny_newObj_type (wpAny_bind (wpAny_pure (wpAny_pure ⟨_,rfl,wpAny_pure h⟩))) htake)
  |exact wpAny_bind (wpAny_bind (m:=Builtin.Tuple.tupleExact _) (wpAny_newObj_type (wpAny_pure (wpAny_pure ⟨_,rfl,wpAny_pure h⟩)) htake))
  |exact wpAny_bind (wpAny_bind (m:=Builtin.Tuple.tupleExact _) (wpAny_newObj_type (wpAny_pure ⟨_,rfl,wpAny_pure h⟩) htake))
end
end HT
namespace L2
open PySem PySem.Spec PyProof.Rows
abbrev TO:=St->Hp->(Option Int->Hp->Prop)->Prop
structure PO (X:Cx)(e:Option Expr)(t:TO):Prop where
 go: ∀(pins:List (Addr×Obj)) (s:Shared) (σ:St) (H:Hp) (Q:Option Int->Hp->Prop),xK X pins σ H s->t σ H Q->
  wpAny (model X.prog X.w) X.A (evalPart e X.env) (λu s'=> ∃o H',xK X pins σ H' s'/\IsPart u o/\Q o H') X.xe s
instance {X:Cx}{e:Option Expr}{t:TO}:CoeFun (PO X e t) (λ_=> ∀(pins:List (Addr×Obj)) (s:Shared) (σ:St) (H:Hp) (Q:Option Int->Hp->Prop),xK X pins σ H s->t σ H Q->
  wpAny (model X.prog X.w) X.A (evalPart e X.env) (λu s'=> ∃o H',xK X pins σ H' s'/\IsPart u o/\Q o H') X.xe s):=⟨PO.go⟩
def Ow:TO:=λ_ H Q=>Q none H
def PY (t:TE):TO:=λσ H Q=>t σ H λx H1=> ∃i,x=.int i/\Q (some i) H1
section
variable {X:Cx}{e:Expr}{te:TE}{lo hi:Option Expr}{tl th:TO}{pos p2:Pos}
theorem vR:PO X none Ow:=by
 refine⟨?_⟩;intro pins s σ H Q I h;rw[evalPart_none];exact zP ⟨none,H,I,.none,h⟩
theorem qY (h:PE X e te):PO X (some e) (PY te):=by
 refine⟨?_⟩;intro pins s σ H Q I hw;rw[evalPart_some];refine qT (h pins s σ H _ I hw) λu s1 hzz=>?_;obtain⟨x,H1,I1,r1,q1⟩:=hzz;obtain⟨i,rfl,q⟩:=q1;obtain⟨t,rfl⟩:=r1;exact⟨some i,H1,I1,.int i t,q⟩
def SlR (X:Cx)(r:V->Option Int->Option Int->Hp->VK->Prop):Prop:=
 ∀(pins:List (Addr×Obj)) (s:Shared) (σ:St) (H:Hp) (x:V) (v vl vu:Value) (lo hi:Option Int) (sl:Addr) (Q:VK),xK X pins σ H s->kU x v->s.heap.IsSliceOf sl vl vu .none->IsPart vl lo->IsPart vu hi->r x lo hi H Q->
  ∃T id,typeLookup (.type T) "__getitem__"=pure (some (.builtin id))/\s.TypeIs v T/\wpAny (model X.prog X.w) X.A (getItem v (.ref sl)) (EP X pins σ Q) X.xe s
def tSl (r:V->Option Int->Option Int->Hp->VK->Prop)(te:TE)(tl th:TO):TE:=λσ H Q=>te σ H λx H1=>tl σ H1 λl H2=>th σ H2 λu H3=>r x l u H3 Q
theorem qJ {r:V->Option Int->Option Int->Hp->VK->Prop}(hr:SlR X r)(he:PE X e te)(hl:PO X lo tl)(hu:PO X hi th):PE X (.Subscript e (.Slice lo hi none p2) pos) (tSl r te tl th):=by
 refine⟨?_⟩;intro pins s σ H Q I h;refine Subscript_ (qT (he pins s σ H _ I h) λv s1 hzz=>?_);obtain⟨x,H1,I1,r1,q1⟩:=hzz;refine wpAny_Slice (qT (hl pins s1 σ H1 _ I1 q1) λvl s2 ⟨l,H2,I2,pl,q2⟩=>qT (hu pins s2 σ H2 _ I2 q2) λvu s3 hzz=>?_);obtain⟨u,H3,I3,pu,q3⟩:=hzz;rw[evalPart_none];refine zP ?_;have I4:xK X pins σ H3 {s3 with heap:=s3.heap.push {cls:=.type "slice",data:=.fields #[vl,vu,.none]}}:=I3.kept (t':=s3.toks) λb ob q=>zJ _ q;obtain⟨T,id,hT,ht,hg⟩:=hr pins {s3 with heap:=s3.heap.push {cls:=.type "slice",data:=.fields #[vl,vu,.none]}} σ H3 x v vl vu l u s3.heap.objs.size Q I4 r1 (Heap.IsSliceOf.new ..) pl pu q3;show wpAny (model X.prog X.w) X.A (subscriptTail e (.Slice lo hi none p2) v (.ref s3.heap.objs.size)) (EP X pins σ Q) X.xe {s3 with heap:=s3.heap.push {cls:=.type "slice",data:=.fields #[vl,vu,.none]}};exact tail_any (ops:=[.ref s3.heap.objs.size,v]) ht hT hg (by with_unfolding_all rfl)
def DT (xs:List V)(lo hi:Option Int):List V:=(xs.drop (HT.sIx xs.length 0 lo)).take (HT.sIx xs.length xs.length hi-HT.sIx xs.length 0 lo)
theorem Lc (xs:List V)(lo hi:Option Int):(DT xs lo hi).length<=xs.length:=by
 unfold DT;rw[yJ,xO];lia
inductive zCl (K:PySem.W.Frag) (x:V) (lo:Option Int) (hi:Option Int) (H:Hp) (Q:VK):Prop
 |mk (a xs:_) (h0:x=.ref a) (h1:Gm K H a xs) (h2: ¬(HT.sIx xs.length 0 lo=0/\HT.sIx xs.length xs.length hi=xs.length)) (h3: ∀p,H p=none->Q (.ref p) (upd H p (.tup (DT xs lo hi)))):zCl K x lo hi H Q
theorem ZH:SlR X (zCl X.K):=by
 intro pins s σ H x v vl vu lo hi sl Q I rx hs pl pu h;obtain⟨a,xs,rfl,hx,hw,q⟩:=h;cases rx;obtain⟨its,r,ht,hz⟩:=I.tuple hx;have hlen:its.toArray.size=xs.length:=by rw[yC];exact r.length.symm
 refine⟨"tuple",_,PyProof.Rows.slot_tuple_getitem.lookup,ht.typeIs,?_⟩;refine HT.getItem_tuple_cut ht hs pl pu (by rw[hlen];exact hw) ?_ (by rw[hlen];exact hz);rw[hlen];refine⟨.ref s.heap.objs.size,_,I.laid (t':=s.toks) (o:=.tup (DT xs lo hi)) (λb ob q=>zJ _ q) (zW _) ?_,rfl,q _ (I.hok.fresh (zW _))⟩;exact⟨yT (Lc xs lo hi) hz,_,(r.drop (HT.sIx xs.length 0 lo)).take (HT.sIx xs.length xs.length hi-HT.sIx xs.length 0 lo),IsTup.new _ _⟩
end
def Uq (n:Nat)(i:Int):Option Nat:=if 0<=i then(if i<n then some i.toNat else none)else if-(n:Int)<=i then some (i+n).toNat else none
def FO {α:Type}(xs:List α)(i:Int):Option α:=(Uq xs.length i).bind λj=>xs[j]?
theorem SY {n:Nat}{i:Int}{j:Nat}(h:Uq n i=some j):seqIndex? i n=some j/\j<n/\ -(n:Int)<=i/\i<n:=by
 unfold Uq at h
 by_cases h0:0<=i
 ·rw[zT h0]at h
  by_cases h1:i<n
  ·rw[zT h1]at h;have e:i.toNat=j:=jE h;exact⟨by rw[seqIndex_of h0 h1,e],by lia,by lia,h1⟩
  ·rw[zI h1]at h;cases h
 ·rw[zI h0]at h
  by_cases h1: -(n:Int)<=i
  ·rw[zT h1]at h;have e:(i+n).toNat =j:=jE h;exact⟨by rw[seqIndex_neg (by lia) h1,e],by lia,h1,by lia⟩
  ·rw[zI h1]at h;cases h
theorem Py {α:Type}{xs:List α}{i:Int}{v:α}(h:FO xs i=some v): ∃j,seqIndex? i xs.length=some j/\xs[j]? =some v/\j<xs.length/\ -(xs.length:Int)<=i/\i<xs.length:=by
 unfold FO at h;cases e:Uq xs.length i with
 |none=>rw[e]at h;cases h
 |some j=>
  rw[e]at h;obtain⟨h1,h2,h3,h4⟩:=SY e;exact⟨j,h1,h,h2,h3,h4⟩
theorem vB {α:Type}{xs:List α}{j:Nat}{v:α}(h:xs[j]? =some v):FO xs (j:Int)=some v:=by
 have hj:j<xs.length:=(List.getElem?_eq_some_iff.mp h).1;have e:Uq xs.length (j:Int)=some j:=by
  unfold Uq;rw[zT (by lia),zT (by lia)];simp
 unfold FO;rw[e];exact h
theorem WT {α:Type}(xs:List α)(v:α):FO (xs++[v]) (-1)=some v:=by
 have hl:(xs++[v]).length =xs.length+1:=by simp
 have e:Uq (xs++[v]).length (-1)=some xs.length:=by
  unfold Uq;rw[hl,zI (by decide),zT (by lia)];congr 1;lia
 unfold FO;rw[e];show(xs++[v])[xs.length]? =some v
 simp
def YF (b:Expr):Prop:= ∀o i,subscripted b false o i=operate [o,i] (getItem o i)
def IxR (X:Cx)(r:R2):Prop:=
 ∀(value slice:Expr) (pins:List (Addr×Obj)) (s:Shared) (σ:St) (H:Hp) (x y:V) (v u:Value) (Q:VK),xK X pins σ H s->kU x v->kU y u->r x y H Q->
  subscripted slice false v u=operate [v,u] (getItem v u)->wpAny (model X.prog X.w) X.A (subscriptTail value slice v u) (EP X pins σ Q) X.xe s
def US (X:Cx)(id:String)(r:V->List V->Hp->VK->Prop):Prop:=
 ∀(pins:List (Addr×Obj)) (s:Shared) (σ:St) (H:Hp) (x:V) (xs:List V) (v:Value) (us:List Value) (Q:VK),xK X pins σ H s->kU x v->jS xs us->r x xs H Q->
  wpAny (model X.prog X.w) X.A (call (.builtin id) (v::us)) (EP X pins σ Q) X.xe s
section
variable {X:Cx}{a b:Expr}{ta tb:TE}{pos:Pos}
theorem jI {r:R2}(hr:IxR X r)(ha:PE X a ta)(hb:PE X b tb)(hs:YF b):PE X (.Subscript a b pos) (ZB r ta tb):=by
 refine⟨?_⟩;intro pins s σ H Q I h;exact Subscript_ (zBa ha hb I h λv u s2 x y H2 I2 rx ry q=>hr a b pins s2 σ H2 x y v u Q I2 rx ry q (hs _ _))
inductive zCs (K:PySem.W.Frag) (x:V) (y:V) (H:Hp) (Q:VK):Prop
 |mk (p xs i v:_) (h0:x=.ref p) (h1:y=.int i) (h2:Hb K H p xs) (h3:FO xs i=some v) (h4:Q v H):zCs K x y H Q
inductive ZK (K:PySem.W.Frag) (x:V) (y:V) (H:Hp) (Q:VK):Prop
 |mk (p xs i v:_) (h0:x=.ref p) (h1:y=.int i) (h2:Gm K H p xs) (h3:FO xs i=some v) (h4:Q v H):ZK K x y H Q
inductive zCr (x:V) (y:V) (H:Hp) (Q:VK):Prop
 |mk (z i c:_) (h0:x=.str z) (h1:y=.int i) (h2:z.length<=sizeLine) (h3:FO z.cps.toList i=some c) (h4:Q (.str ⟨#[c]⟩) H):zCr x y H Q
theorem jA:IxR X (zCs X.K):=by
 intro value slice pins s σ H x y v u Q I rx ry h hs;obtain⟨p,xs,i,z,rfl,rfl,hq,he,q⟩:=h;cases rx;obtain⟨t,rfl⟩:=ry;obtain⟨its,r,pl,hz⟩:=I.list hq;obtain⟨j,h1,h2,h3,h4,h5⟩:=Py he;obtain⟨w,ew,rw'⟩:=r.get h2;have hl:=r.length;have hn:=FL;have fin:EP X pins σ Q w s:=⟨z,H,I,rw',q⟩
 by_cases h0:0<=i
 ·have hj:i.toNat=j:=by
   rw[seqIndex_of h0 h5]at h1;exact jE h1
  exact item_listR pl.isList h0 (by lia) (by rw[hj];simpa using ew) fin hs
 ·have hj:(i+(its.toArray.size:Int)).toNat =j:=by
   rw[seqIndex_neg (by lia) h4]at h1;rw[yC,<-hl];exact jE h1
  exact subscriptTail_builtinR (x:=w) pl.isList.typeIs slot_list_getitem.lookup
   (wpAny_getItem_list_neg (Q:=λr s'=>r=w/\EP X pins σ Q r s') pl.isList (by lia) (by rw[yC]<;>lia) (by lia) (by rw[hj];simpa using ew) ⟨rfl,fin⟩) hs
theorem Aa:IxR X (ZK X.K):=by
 intro value slice pins s σ H x y v u Q I rx ry h hs;obtain⟨p,xs,i,z,rfl,rfl,hq,he,q⟩:=h;cases rx;obtain⟨t,rfl⟩:=ry;obtain⟨its,r,pl,hz⟩:=I.tuple hq;obtain⟨j,h1,h2,h3,h4,h5⟩:=Py he;obtain⟨w,ew,rw'⟩:=r.get h2;have hl:=r.length;have hn:=FL;have fin:EP X pins σ Q w s:=⟨z,H,I,rw',q⟩;exact subscriptTail_builtinR (x:=w) pl.typeIs slot_tuple_getitem.lookup
  (getItem_tuple (j:=j) (Q:=λr s'=>r=w/\EP X pins σ Q r s') pl (by lia) (by lia) (by rw[yC,<-hl];exact h1) (by simpa using ew) ⟨rfl,fin⟩) hs
theorem Sd:IxR X zCr:=by
 intro value slice pins s σ H x y v u Q I rx ry h hs;obtain⟨z,i,c,rfl,rfl,hz,he,q⟩:=h;obtain⟨t,rfl⟩:=rx;obtain⟨t',rfl⟩:=ry;obtain⟨j,h1,h2,h3,h4,h5⟩:=Py he;have hl:z.cps.toList.length=z.length:=by simp[Str.length]
 rw[hl]at h1 h4 h5;have hn:=FL;exact tail_any (AW s z t) slot_str_getitem.lookup (getItem_str (c:=c) (by
  have e1:decide (i< -(2^63:Int))=false:=yA (by lia);have e2:decide (i ≥ 2^63)=false:=yA (by lia);rw[e1,e2,Bool.or_false]) (by rw[h1];simpa using h2) ⟨.str ⟨#[c]⟩,H,I.tok _,⟨_,rfl⟩,q⟩) hs
theorem RY (its:List Value)(n j:Nat)(u:Value):Obj.mapSeq (·.setIfInBounds j u) {cls:=.type "list",data:=.seq its.toArray n}={cls:=.type "list",data:=.seq (its.set j u).toArray n}:=by
 simp[Obj.mapSeq]
theorem xK.lst {pins:List (Addr×Obj)}{σ:St}{H:Hp}{s:Shared}{p:Addr}{xs:List V}(I:xK X pins σ H s)(h:H p=some (.lst xs)):
  ∃(its:List Value) (n:Nat),jS xs its/\s.heap.get? p=some {cls:=.type "list",data:=.seq its.toArray n}/\xs.length<=sizeLine:=by
 obtain⟨z,its,n,r,e⟩:=I.hok p _ h;exact⟨its,n,r,e,z⟩
theorem xK.lstUpd {pins:List (Addr×Obj)}{σ:St}{H:Hp}{s:Shared}{p:Addr}{xs ys:List V}{its its':List Value}{n n':Nat}{f:Obj->Obj}(I:xK X pins σ H s)(h:H p=some (.lst xs))
  (ho:s.heap.get? p=some {cls:=.type "list",data:=.seq its.toArray n}) (hf:f {cls:=.type "list",data:=.seq its.toArray n}={cls:=.type "list",data:=.seq its'.toArray n'}) (r:jS ys its') (hz:ys.length<=sizeLine) (t:Nat):
  xK X pins σ (upd H p (.lst ys)) {s with heap:=s.heap.update p f,toks:=t}:=by
 have e:(s.heap.update p f).get? p=some {cls:=.type "list",data:=.seq its'.toArray n'}:=by
  rw[jR f ho (by rw[hf]<;>rfl),hf]
 refine I.write (x:=p) (e:=p) (by rw[h];trivial) (.inl rfl) (λb u hb q=>(xH _ _ (Ne.symm hb)).trans q) ⟨_,e⟩ ?_;exact⟨hz,its',n',r,e⟩
def zCn:V->V->V->Hp->(Hp->Prop)->Prop:=λo i v H Q=> ∃p xs k j,o=.ref p/\i=.int k/\H p=some (.lst xs)/\Uq xs.length k=some j/\Q (upd H p (.lst (xs.set j v)))
theorem FT:zDo X zCn:=by
 intro pins s σ H o i v ov iv u Q I ro ri rv h;obtain⟨p,xs,k,j,rfl,rfl,hp,hj,q⟩:=h;cases ro;obtain⟨t,rfl⟩:=ri;obtain⟨its,n,r,ho,hz⟩:=I.lst hp;obtain⟨h1,h2,h3,h4⟩:=SY hj;have hl:=r.length;have hn:=FL;have I':xK X pins σ (upd H p (.lst (xs.set j v))) {s with heap:=s.heap.update p (Obj.mapSeq (·.setIfInBounds j u))}:=
  I.lstUpd hp ho (RY its n j u) (r.set rv j) (by rw[Ea];exact hz) s.toks
 by_cases h0:0<=k
 ·have hk:k.toNat=j:=by
   rw[seqIndex_of h0 h4]at h1;exact jE h1
  exact PySem.W.ki_setAt ho h0 (by lia) (by rw[yC,<-hl];exact h4) (by rw[hk];exact⟨_,I',q⟩)
 ·have hk:(k+(its.toArray.size:Int)).toNat =j:=by
   rw[seqIndex_neg (by lia) h3]at h1;rw[yC,<-hl];exact jE h1
  exact PySem.W.ki_setBack ho (by lia) (by rw[yC,<-hl];exact h3) (by lia) (by rw[hk];exact⟨_,I',q⟩)
theorem OO (lo hi:Option Int)(n:Nat):(sliceBounds lo hi none n).1=((HT.sIx n 0 lo:Nat):Int)/\(sliceBounds lo hi none n).2.1=((HT.sIx n n hi:Nat):Int)/\(sliceBounds lo hi none n).2.2=1:=by
 refine⟨?_,?_,rfl⟩
 ·cases lo with
  |none=>simp[sliceBounds,HT.sIx]
  |some i=>
   simp only[sliceBounds,HT.sIx,Option.getD_none,show(1:Int) > 0 by decide,BB]
   by_cases h:i<0
   ·simp only[h,BB]<;>lia
   ·simp only[h,Bw]<;>lia
 ·cases hi with
  |none=>simp[sliceBounds,HT.sIx]
  |some i=>
   simp only[sliceBounds,HT.sIx,Option.getD_none,show(1:Int) > 0 by decide,BB]
   by_cases h:i<0
   ·simp only[h,BB]<;>lia
   ·simp only[h,Bw]<;>lia
theorem ML (its:List Value)(lo hi:Option Int):slicePick its.toArray lo hi none=((its.drop (HT.sIx its.length 0 lo)).take (HT.sIx its.length its.length hi-HT.sIx its.length 0 lo)).toArray:=by
 obtain⟨h1,h2,h3⟩:=OO lo hi its.toArray.size;unfold slicePick;rw[h1,h2,h3];simp only[sliceRange_one,pick_run,yC]<;>rfl
inductive Vs (K:PySem.W.Frag) (x:V) (lo:Option Int) (hi:Option Int) (H:Hp) (Q:VK):Prop
 |mk (a xs:_) (h0:x=.ref a) (h1:Hb K H a xs) (h2: ∀p,H p=none->Q (.ref p) (upd H p (.lst (DT xs lo hi)))):Vs K x lo hi H Q
theorem AK:SlR X (Vs X.K):=by
 intro pins s σ H x v vl vu lo hi sl Q I rx hs pl pu h;obtain⟨a,xs,rfl,hx,q⟩:=h;cases rx;obtain⟨its,r,ht,hz⟩:=I.list hx;have hlen:=r.length;refine⟨"list",_,slot_list_getitem.lookup,ht.isList.typeIs,?_⟩;refine wpAny_getItem_list_slice ht.isList hs pl pu .none (by simp) ?_ (by rw[yC]<;>lia);rw[ML,<-hlen];refine⟨.ref s.heap.objs.size,_,I.laid (t':=s.toks) (o:=.lst (DT xs lo hi)) (λb ob q=>zJ _ q) (zW _) ?_,rfl,q _ (I.hok.fresh (zW _))⟩;exact⟨yT (Lc xs lo hi) hz,_,0,(r.drop (HT.sIx xs.length 0 lo)).take (HT.sIx xs.length xs.length hi-HT.sIx xs.length 0 lo),yL _ rfl⟩
def CO:V->Bool
 | .non=>true
 | .bl _=>true
 | .int _=>true
 | .str _=>true
 |_=>false
def KZ:V->V->Bool
 | .non,.non=>true
 | .bl a,.bl b=>a==b
 | .bl a,.int b=>(if a then 1 else 0)==b
 | .int a,.bl b=>a==(if b then 1 else 0)
 | .int a,.int b=>a==b
 | .str a,.str b=>a==b
 |_,_=>false
theorem Pt {A:Around}{s:Shared}{y x:V}{u v:Value}(ry:kU y u)(rx:kU x v)(fy:CO y=true)(fx:CO x=true):SeqAt.EqAt A s u v (KZ y x):=by
 cases y with
 |non=>
  cases ry;cases x with
  |non=>cases rx;exact SeqAt.EqAt.same _
  |bl b=>cases rx;exact SeqAt.EqAt.none_bool b
  |int b=>obtain⟨t,rfl⟩:=rx;exact SeqAt.EqAt.none_int b t
  |str b=>obtain⟨t,rfl⟩:=rx;exact SeqAt.EqAt.none_str b t
  |_=>exact absurd (show false=true from fx) yK
 |bl a=>
  cases ry;cases x with
  |non=>cases rx;exact SeqAt.EqAt.bool_none a
  |bl b=>cases rx;exact SeqAt.EqAt.bool_bool a b
  |int b=>obtain⟨t,rfl⟩:=rx;exact SeqAt.EqAt.bool_int a b t
  |str b=>obtain⟨t,rfl⟩:=rx;exact SeqAt.EqAt.bool_str a b t
  |_=>exact absurd (show false=true from fx) yK
 |int a=>
  obtain⟨t',rfl⟩:=ry;cases x with
  |non=>cases rx;exact SeqAt.EqAt.int_none a t'
  |bl b=>cases rx;exact SeqAt.EqAt.int_bool a t' b
  |int b=>obtain⟨t,rfl⟩:=rx;exact SeqAt.EqAt.int_int a t' b t
  |str b=>obtain⟨t,rfl⟩:=rx;exact SeqAt.EqAt.int_str a t' b t
  |_=>exact absurd (show false=true from fx) yK
 |str a=>
  obtain⟨t',rfl⟩:=ry;cases x with
  |non=>cases rx;exact SeqAt.EqAt.str_none a t'
  |bl b=>cases rx;exact SeqAt.EqAt.str_bool a t' b
  |int b=>obtain⟨t,rfl⟩:=rx;exact SeqAt.EqAt.str_int a t' b t
  |str b=>obtain⟨t,rfl⟩:=rx;exact SeqAt.EqAt.str_str a t' b t
  |_=>exact absurd (show false=true from fx) yK
 |_=>exact absurd (show false=true from fy) yK
def Pr (x:V)(u:Value):Bool:=match u with
 | .none=>KZ .non x
 | .bool b=>KZ (.bl b) x
 | .int i _=>KZ (.int i) x
 | .str z _=>KZ (.str z) x
 |_=>false
theorem Pq {x y:V}{u:Value}(r:kU y u)(f:CO y=true):Pr x u=KZ y x:=by
 cases y with
 |non=>cases r;rfl
 |bl b=>cases r;rfl
 |int i=>obtain⟨t,rfl⟩:=r;rfl
 |str z=>obtain⟨t,rfl⟩:=r;rfl
 |_=>exact absurd (show false=true from f) yK
theorem JR {x:V}: ∀{xs:List V} {us:List Value},jS xs us->xs.all CO=true->us.any (Pr x)=xs.any λy=>KZ y x
 |_,_,.nil,_=>rfl
 |y::xs,u::us,.cons r t,f=>by
  rw[List.all_cons,vI]at f;rw[AF,AF,Pq r f.1,JR t f.2]
theorem EG {A:Around}{s:Shared}{x:V}{v:Value}(rx:kU x v)(fx:CO x=true): ∀{xs:List V} {us:List Value},jS xs us->xs.all CO=true-> ∀u∈us,SeqAt.EqAt A s u v (Pr x u)
 |_,_,.nil,_=>λu hu=>by cases hu
 |y::xs,u::us,.cons r t,f=>λu' hu=>by
  rw[List.all_cons,vI]at f
  rcases List.mem_cons.mp hu with rfl|hu
  ·rw[Pq r f.1];exact Pt r rx f.1 fx
  ·exact EG rx fx t f.2 u' hu
def Yj (x:V)(xs:List V):Bool:=xs.any λy=>KZ y x
inductive rIn (K:PySem.W.Frag) (neg:Bool) (x:V) (y:V) (H:Hp) (Q:VK):Prop
 |mk (p xs:_) (h0:y=.ref p) (h1:(Hb K H p xs\/Gm K H p xs)) (h2:CO x=true) (h3:xs.all CO=true) (h4:Q (.bl (if neg then !Yj x xs else Yj x xs)) H):rIn K neg x y H Q
theorem wS:ID X (compareOp .In) (rIn X.K false):=by
 intro pins s σ H x y v u Q I rx ry h;obtain⟨p,xs,rfl,hq,fx,fs,q⟩:=h;cases ry
 rcases hq with hq|hq
 ·obtain⟨its,r,pl,hz⟩:=I.list hq;refine SeqAt.in_listAt (Pr x) pl.isList (λw hw=>EG rx fx r fs w (by simpa using hw)) ⟨.bl _,H,I,rfl,?_⟩;rw[show its.toArray.any (Pr x)=its.any (Pr x)by simp,JR r fs];exact q
 ·obtain⟨its,r,pl,hz⟩:=I.tuple hq;refine SeqAt.in_tupleAt (Pr x) pl (λw hw=>EG rx fx r fs w (by simpa using hw)) ⟨.bl _,H,I,rfl,?_⟩;rw[show its.toArray.any (Pr x)=its.any (Pr x)by simp,JR r fs];exact q
theorem GR:ID X (compareOp .NotIn) (rIn X.K true):=by
 intro pins s σ H x y v u Q I rx ry h;obtain⟨p,xs,rfl,hq,fx,fs,q⟩:=h;cases ry
 rcases hq with hq|hq
 ·obtain⟨its,r,pl,hz⟩:=I.list hq;refine SeqAt.notIn_listAt (Pr x) pl.isList (λw hw=>EG rx fx r fs w (by simpa using hw)) ⟨.bl _,H,I,rfl,?_⟩;rw[show its.toArray.any (Pr x)=its.any (Pr x)by simp,JR r fs];exact q
 ·obtain⟨its,r,pl,hz⟩:=I.tuple hq;refine SeqAt.notIn_tupleAt (Pr x) pl (λw hw=>EG rx fx r fs w (by simpa using hw)) ⟨.bl _,H,I,rfl,?_⟩;rw[show its.toArray.any (Pr x)=its.any (Pr x)by simp,JR r fs];exact q
theorem yX:EM X (.builtin "len") (λxs H Q=> ∃p ys,xs=[.ref p]/\(Hb X.K H p ys\/Gm X.K H p ys)/\Q (.int ys.length) H):=by
 intro pins s σ H xs us Q I r h;obtain⟨p,ys,rfl,hq,q⟩:=h;obtain⟨u,rfl,rx⟩:=KG r;cases rx;have hn:=FL
 rcases hq with hq|hq
 ·obtain⟨its,r',pl,hz⟩:=I.list hq;have hlen:=r'.length;exact Calls.call_len_list pl.isList (by simp only[yC]<;>lia) ⟨.int ys.length,H,I.tok _,⟨s.toks+1,by rw[yC,hlen]⟩,q⟩
 ·obtain⟨its,r',pl,hz⟩:=I.tuple hq;have hlen:=r'.length;exact len_tuple pl (by simp only[yC]<;>lia) ⟨.int ys.length,H,I.tok _,⟨s.toks+1,by rw[yC,hlen]⟩,q⟩
theorem Bg:EM X (.builtin "len") (λxs H Q=> ∃z,xs=[.str z]/\z.length<=sizeLine/\Q (.int z.length) H):=by
 intro pins s σ H xs us Q I r h;obtain⟨z,rfl,hz,q⟩:=h;obtain⟨u,rfl,t,rfl⟩:=KG r;have hn:=FL;exact len_str (by lia) ⟨.int z.length,H,I.tok _,⟨_,rfl⟩,q⟩
theorem CP:EM X (.type "list") (λxs H Q=> ∃p ys,xs=[.ref p]/\(Hb X.K H p ys\/Gm X.K H p ys)/\ ∀l,H l=none->Q (.ref l) (upd H l (.lst ys))):=by
 intro pins s σ H xs us Q I r h;obtain⟨p,ys,rfl,hq,q⟩:=h;obtain⟨u,rfl,rx⟩:=KG r;cases rx;have fin: ∀(its:List Value),jS ys its->ys.length<=sizeLine-> ∀(h':Heap) (c':Nat),(∀b o',s.heap.get? b=some o'->h'.get? b=some o')->
   h'.get? s.heap.objs.size=some {cls:=.type "list",dict:=none,data:=.seq its.toArray c',slots:=#[]}->EP X pins σ Q (.ref s.heap.objs.size) {s with heap:=h'}:=λits r' hz h' c' kp e=>
  ⟨.ref s.heap.objs.size,_,I.laid (t':=s.toks) kp (zW _) (show wT X.prog X.w _ h' _ (.lst ys)from⟨hz,its,c',r',e⟩),rfl,q _ (I.hok.fresh (zW _))⟩
 rcases hq with hq|hq
 ·obtain⟨its,r',pl,hz⟩:=I.list hq;have hlen:=r'.length;obtain⟨o,ho,hc,n,hd⟩:=pl.isList;exact call_list_seq p (.inl rfl) ho hc hd (λh' c' kp e=>fin its r' hz h' c' kp e) (by simp only[yC]<;>lia)
 ·obtain⟨its,r',pl,hz⟩:=I.tuple hq;have hlen:=r'.length;obtain⟨o,ho,hc,n,hd⟩:=pl;exact call_list_seq p (.inr rfl) ho hc hd (λh' c' kp e=>fin its r' hz h' c' kp e) (by simp only[yC]<;>lia)
theorem Bt:EM X (.type "tuple") (λxs H Q=> ∃p ys,xs=[.ref p]/\((Hb X.K H p ys/\ ∀l,H l=none->Q (.ref l) (upd H l (.tup ys)))\/(Gm X.K H p ys/\Q (.ref p) H))):=by
 intro pins s σ H xs us Q I r h;obtain⟨p,ys,rfl,h⟩:=h;obtain⟨u,rfl,rx⟩:=KG r;cases rx
 rcases h with⟨hq,q⟩|⟨hq,q⟩
 ·obtain⟨its,r',pl,hz⟩:=I.list hq;have hlen:=r'.length;refine call_tuple_list pl.isList (λh' kp=>?_) (by simp only[yC]<;>lia);have I1:xK X pins σ H {s with heap:=h'}:=I.kept (t':=s.toks) kp;have I2:xK X pins σ (upd H h'.objs.size (.tup ys)) {s with heap:=h'.push {cls:=.type "tuple",data:=.seq its.toArray}}:=
   I1.laid (t':=s.toks) (λb o e=>zJ _ e) (zW _) (show wT X.prog X.w _ _ _ (.tup ys)from⟨hz,its,r',IsTup.new _ _⟩)
  exact⟨.ref h'.objs.size,_,I2,rfl,q _ (I1.hok.fresh (zW _))⟩
 ·obtain⟨its,r',pl,hz⟩:=I.tuple hq;exact call_tuple_same pl ⟨.ref p,H,I,rfl,q⟩
def tyV (K:PySem.W.Frag)(T:String)(x:V)(H:Hp):Prop:=match x with
 | .str _=>T="str"
 | .int _=>T="int"
 | .ref p=>(T="list"/\ ∃xs,Hb K H p xs)\/(T="tuple"/\ ∃o,K.lookup p=some o/\o.cls=.type "tuple"/\o.dict=none)\/
   (T="dict"/\((∃kvs,H p=some (.dK kvs))\/ ∃kvs,H p=some (.dT kvs)))\/(T="set"/\ ∃S n,H p=some (.set S n))
 |_=>False
theorem Re {pins:List (Addr×Obj)}{σ:St}{H:Hp}{s:Shared}{T:String}{x:V}{v:Value}(I:xK X pins σ H s)(r:kU x v)(ty:tyV X.K T x H):
  s.TypeIs v T/\ ∀a,v=.ref a-> ∃ob,s.heap.get? a=some ob/\ob.dict=none:=by
 cases x with
 |str z=>
  obtain⟨t,rfl⟩:=r;cases(show T="str" from ty);exact⟨AW s z t,λ_ e=>nomatch e⟩
 |int i=>
  obtain⟨t,rfl⟩:=r;cases(show T="int" from ty);exact⟨typeIs_int s i t,λ_ e=>nomatch e⟩
 |ref p=>
  cases r
  rcases ty with⟨rfl,xs,hq⟩|⟨rfl,o,hk,hc,hd⟩|⟨rfl,hk⟩|⟨rfl,S,n,hk⟩
  ·obtain⟨its,_,pl,_⟩:=I.list hq;refine⟨pl.isList.typeIs,λa e=>?_⟩;cases e;obtain⟨o,n,e,c,hd,_⟩:=pl;exact⟨o,e,hd⟩
  ·refine⟨⟨o,I.kIn p o hk,hc⟩,λa e=>?_⟩;cases e;exact⟨o,I.kIn _ o hk,hd⟩
  ·have z: ∃o,s.heap.get? p=some o/\o.ExactDict:=by
    rcases hk with⟨kvs,hk⟩|⟨kvs,hk⟩
    ·obtain⟨_,_,_,_,o,_,_,e,ex,_⟩:=I.hok p _ hk;exact⟨o,e,ex⟩
    ·obtain⟨_,_,_,_,o,_,_,e,ex,_⟩:=I.hok p _ hk;exact⟨o,e,ex⟩
   obtain⟨o,e,ex⟩:=z;refine⟨⟨o,e,ex.1⟩,λa e2=>?_⟩;cases e2;exact⟨o,e,ex.2.1⟩
  ·obtain⟨o,_,_,_,e,ex,_⟩:=I.hok p _ hk;refine⟨⟨o,e,ex.1⟩,λa e2=>?_⟩;cases e2;exact⟨o,e,ex.2.1⟩
 |_=>exact False.elim ty
inductive YR (K:PySem.W.Frag) (T:String) (r:V->List V->Hp->VK->Prop) (x:V) (H1:Hp) (Q:VK):Prop
 |mk (h0:tyV K T x H1) (h1:r x [] H1 Q):YR K T r x H1 Q
def zFg (K:PySem.W.Frag)(T:String)(r:V->List V->Hp->VK->Prop)(to:TE):TE:=λσ H Q=>to σ H λx H1=>YR K T r x H1 Q
inductive zCd (K:PySem.W.Frag) (T:String) (r:V->List V->Hp->VK->Prop) (t:TA) (σ:St) (x:V) (H1:Hp) (Q:VK):Prop
 |mk (h0:tyV K T x H1) (h1:t σ H1 λxs H2=>r x xs H2 Q):zCd K T r t σ x H1 Q
def tBM (K:PySem.W.Frag)(T:String)(r:V->List V->Hp->VK->Prop)(to:TE)(t:TA):TE:=λσ H Q=>to σ H λx H1=>zCd K T r t σ x H1 Q
variable {o e:Expr}{es:List Expr}{to:TE}{t:TA}{name:Str}{apos cpos:Pos}{T id:String}{r:V->List V->Hp->VK->Prop}
theorem RG (pa:PlainAttrs T)(slot:Slot T name id)(hty:typeOf (.builtin id)=pure (.type "method_descriptor"))(hm:US X id r)(ho:PE X o to)
  (hbase:attributeBase o name X.env (eval o X.env)=eval o X.env:=by rfl) (hline:(apos.endLine==cpos.line)=true:=by rfl):PE X (.Call (.Attribute o name apos) [] [] cpos) (zFg X.K T r to):=by
 refine⟨?_⟩;intro pins s σ H Q I h;refine wpAny_Call_method0_late hbase hline (qT (ho pins s σ H _ I h) λv s1 hzz=>?_);obtain⟨x,H1,I1,r1,ty,q1⟩:=hzz;obtain⟨h1,h2⟩:=Re I1 r1 ty;exact⟨T,id,pa,slot,hty,h1,h2,vE rfl (PySem.evalArgs_none (hm pins s1 σ H1 x [] v [] Q I1 r1 .nil q1))⟩
theorem qI (pa:PlainAttrs T)(slot:Slot T name id)(hty:typeOf (.builtin id)=pure (.type "method_descriptor"))(hm:US X id r)(ho:PE X o to)(ha:PA X (e::es) t)
  (hbase:attributeBase o name X.env (eval o X.env)=eval o X.env:=by rfl)
  (hfew:((backTo cpos (starEach (e::es) X.env)).all (λx=>!x.1)&&(backToKw cpos (keywordEach [] X.env)).all (λx=>x.1.isSome)
   &&decide ((e::es).length +([]:List Keyword).length +(if([]:List Keyword).isEmpty then 0 else 1)<30))=true:=by rfl)
  (hline:(apos.endLine==cpos.line)=true:=by rfl) (hs:starEach (e::es) X.env=(false,eval e X.env)::starEach es X.env:=by rfl) (hplain:(backTo cpos (starEach es X.env)).any (·.1)=false:=by rfl):
  PE X (.Call (.Attribute o name apos) (e::es) [] cpos) (tBM X.K T r to t):=by
 refine⟨?_⟩;intro pins s σ H Q I h;refine CZ hbase hfew hline rfl (qT (ho pins s σ H _ I h) λv s1 hzz=>?_);obtain⟨x,H1,I1,r1,ty,q1⟩:=hzz;obtain⟨h1,h2⟩:=Re I1 r1 ty;refine⟨T,id,pa,slot,hty,h1,h2,?_⟩;have hA:=ha cpos pins s1 σ H1 _ I1 q1;rw[hs]at hA ⊢;refine vE (by show(false || (backTo cpos (starEach es X.env)).any (·.1))=false;rw[hplain]<;>rfl) (AY ?_);exact qT hA λus s2 ⟨vs,H2,I2,r2,q2⟩=>hm pins s2 σ H2 x vs v us Q I2 r1 r2 q2
/-xs.append(e),list.index on a module's tuple .. are US facts of 06m-/
end
def MtM (X:Cx)(id:String)(r:V->List V->Hp->VK->Prop):Prop:=
 ∀(pins:List (Addr×Obj)) (s:Shared) (σ:St) (H:Hp) (x:V) (xs:List V) (v:Value) (us:List Value) (Q:VK),xK X pins σ H s->kU x v->jS xs us->r x xs H Q->
  wpAny (model X.prog X.w) X.A (call (.builtin id) (v::us)) (EP X pins σ Q) X.xe s
theorem jS.one: ∀{x:V} {us:List Value},jS [x] us-> ∃u,us=[u]/\kU x u
 |_,_,.cons r .nil=>⟨_,rfl,r⟩
theorem jS.zero: ∀{us:List Value},jS [] us->us=[]
 |_,.nil=>rfl
theorem jS.dropLast {xs:List V}{us:List Value}(h:jS xs us):jS xs.dropLast us.dropLast:=by
 induction h with
 |nil=>exact .nil
 |cons r t ih=>
  cases t with
  |nil=>exact .nil
  |cons q t'=>exact .cons r ih
theorem jS.reverse {xs:List V}{us:List Value}(h:jS xs us):jS xs.reverse us.reverse:=by
 induction h with
 |nil=>exact .nil
 |cons r t ih=>rw[uQ,uQ];exact jS.append ih (.cons r .nil)
theorem jS.rep {xs:List V}{us:List Value}(h:jS xs us): ∀k:Nat,jS (List.replicate k xs).flatten (List.replicate k us).flatten
 |0=>.nil
 |k+1=>by
  rw[wZ,wZ,kJ,kJ];exact jS.append h (jS.rep h k)
theorem Si {α:Type}(l:List α):l.eraseIdx (l.length-1)=l.dropLast:=by
 induction l with
 |nil=>rfl
 |cons a r ih=>
  cases r with
  |nil=>rfl
  |cons b r=>
   have e:(a::b::r).length -1=((b::r).length -1)+1:=by
    have h1:(a::b::r).length =r.length+2:=rfl;have h2:(b::r).length =r.length+1:=rfl;lia
   rw[e,List.eraseIdx_cons_succ,ih]
   all_goals rfl
theorem NZ (its:List Value): ∀(k:Nat) (acc:List Value),
  List.foldl (λx1 x2=>x1++x2) acc.toArray (List.replicate k its.toArray)=(acc++(List.replicate k its).flatten).toArray
 |0,acc=>by simp
 |k+1,acc=>by
  have e:acc.toArray++its.toArray=(acc++its).toArray:=by simp
  have e2:(acc++its)++(List.replicate k its).flatten =acc++(List.replicate (k+1) its).flatten:=by
   rw[wZ,kJ,yW]
  rw[<-e2,<-NZ its k (acc++its),<-e,wZ,List.foldl_cons]
section
variable {X:Cx}{pins:List (Addr×Obj)}{σ:St}{H:Hp}{s:Shared}{l b:Addr}{xs ys zs:List V}
theorem xK.lset {its its':List Value}{n:Nat}{f:Array Value->Array Value}{t':Nat}(I:xK X pins σ H s)(hH:H l=some (.lst xs))
  (e:s.heap.get? l=some {cls:=.type "list",data:=.seq its.toArray n}) (hf:f its.toArray=its'.toArray) (hv:jS ys its') (hz:ys.length<=sizeLine):
  xK X pins σ (upd H l (.lst ys)) {s with heap:=s.heap.update l (Obj.mapSeq f),toks:=t'}:=by
 have q:=PySem.IsL.update e f;rw[hf]at q;refine I.write (x:=l) (e:=l) (by rw[hH];exact trivial) (.inl rfl) (λb' u hb hu=>(xH s.heap (Obj.mapSeq f) (Ne.symm hb)).trans hu) ⟨_,q⟩ ?_;exact⟨hz,its',_,hv,q⟩
theorem xK.lnew {its:List Value}{t':Nat}(I:xK X pins σ H s)(hv:jS ys its)(hz:ys.length<=sizeLine):
  xK X pins σ (upd H s.heap.objs.size (.lst ys)) {s with heap:=s.heap.push {cls:=.type "list",data:=.seq its.toArray},toks:=t'}:=
 I.laid (λ_ _ q=>zJ _ q) (zW _) ⟨hz,its,0,hv,yL _ rfl⟩
theorem xK.fresh (I:xK X pins σ H s):H s.heap.objs.size=none:=I.hok.fresh (zW _)
theorem xK.lstM (I:xK X pins σ H s)(hH:H l=some (.lst xs)):xs.length<=sizeLine/\ ∃(its:List Value) (n:Nat),jS xs its/\xs.length=its.length/\s.heap.get? l=some {cls:=.type "list",data:=.seq its.toArray n}:=by
 obtain⟨z,its,n,r,e⟩:=I.hok l _ hH;exact⟨z,its,n,r,r.length,e⟩
theorem LZ {n:Nat}(h:n<=sizeLine):Builtin.List.listTooLong n=false:=by
 unfold Builtin.List.listTooLong;exact yA (by lia)
end
section
variable {X:Cx}
inductive SO (x:V) (vs:List V) (H:Hp) (Q:VK):Prop
 |mk (l xs y:_) (h0:x=.ref l) (h1:vs=[y]) (h2:H l=some (.lst xs)) (h3:xs.length<sizeLine) (h4:Q .non (upd H l (.lst (xs++[y])))):SO x vs H Q
theorem jO:MtM X "list.append" SO:=by
 intro pins s σ H x vs v us Q I rx rv h;obtain⟨l,xs,y,rfl,rfl,hH,hz,q⟩:=h;cases rx;obtain⟨u,rfl,ru⟩:=rv.one;obtain⟨z,its,n,r,hl,e⟩:=I.lstM hH;refine wW F.slot_list_append ⟨_,e,rfl⟩ F.entry_list_append (F.args_list_append_2 _ _) (PySem.list_append l its.toArray n u (by rw[yC];lia)) ⟨e,?_⟩;refine⟨.non,_,I.lset (its':=its++[u]) hH e (by simp) (r.append (.cons ru .nil)) ?_,rfl,q⟩;rw[zB,List.length_singleton];lia
inductive SM (x:V) (vs:List V) (H:Hp) (Q:VK):Prop
 |mk (l b xs zs:_) (h0:x=.ref l) (h1:vs=[.ref b]) (h2:H l=some (.lst xs)) (h3:H b=some (.lst zs)) (h4:xs.length+zs.length<=sizeLine) (h5:Q .non (upd H l (.lst (xs++zs)))):SM x vs H Q
theorem Gc:MtM X "list.extend" SM:=by
 intro pins s σ H x vs v us Q I rx rv h;obtain⟨l,b,xs,zs,rfl,rfl,hH,hB,hz,q⟩:=h;cases rx;obtain⟨u,rfl,ru⟩:=rv.one;cases ru;obtain⟨z,its,n,r,hl,e⟩:=I.lstM hH;obtain⟨z2,its2,n2,r2,hl2,e2⟩:=I.lstM hB;have hsz:its.toArray.size+its2.toArray.size<=sizeLine:=by rw[yC,yC];lia
 have hlong: ¬(!its.toArray.isEmpty&&Builtin.List.listTooLong (its.toArray.size+its2.toArray.size))=true:=by
  rw[LZ hsz,EY];exact yK
 refine wW F.slot_list_extend ⟨_,e,rfl⟩ F.entry_list_extend (F.args_list_extend_2 _ _)
  (AutoSeq1.list_extend_list_list_0 l its.toArray n b its2.toArray n2 hlong (by rw[yC];lia) (by lia)) ⟨e,e2,?_⟩
 refine⟨.non,_,I.lset (its':=its++its2) hH e (by simp) (r.append r2) ?_,rfl,q⟩;rw[zB];lia
inductive zCp (x:V) (vs:List V) (H:Hp) (Q:VK):Prop
 |mk (l xs y:_) (h0:x=.ref l) (h1:vs=[]) (h2:H l=some (.lst xs)) (h3:xs[xs.length-1]? =some y) (h4:Q y (upd H l (.lst xs.dropLast))):zCp x vs H Q
theorem Wk:MtM X "list.pop" zCp:=by
 intro pins s σ H x vs v us Q I rx rv h;obtain⟨l,xs,y,rfl,rfl,hH,hy,q⟩:=h;cases rx;have hus:=rv.zero;subst hus;obtain⟨z,its,n,r,hl,e⟩:=I.lstM hH;obtain⟨u,hu,ru⟩:=r.get hy;have hy':its.toArray[its.toArray.size-1]? =some u:=by
  show its.toArray[its.length-1]? =some u;rw[<-AJ,<-hl];exact hu
 refine wW F.slot_list_pop ⟨_,e,rfl⟩ F.entry_list_pop (F.args_list_pop_1 _) (MeetsSeq.list_pop_last l its.toArray n u hy' (by rw[yC];lia)) ⟨e,?_⟩;refine⟨y,_,I.lset (its':=its.dropLast) hH e ?_ r.dropLast ?_,ru,q⟩
 ·show its.toArray.eraseIdxIfInBounds (its.toArray.size-1)=its.dropLast.toArray;rw[yC,List.eraseIdxIfInBounds_toArray,Si]
 ·rw[List.length_dropLast];lia
inductive Qg (x:V) (vs:List V) (H:Hp) (Q:VK):Prop
 |mk (l xs:_) (h0:x=.ref l) (h1:vs=[]) (h2:H l=some (.lst xs)) (h3:Q .non (upd H l (.lst xs.reverse))):Qg x vs H Q
theorem RV:MtM X "list.reverse" Qg:=by
 intro pins s σ H x vs v us Q I rx rv h;obtain⟨l,xs,rfl,rfl,hH,q⟩:=h;cases rx;have hus:=rv.zero;subst hus;obtain⟨z,its,n,r,hl,e⟩:=I.lstM hH;refine wW F.slot_list_reverse ⟨_,e,rfl⟩ F.entry_list_reverse (F.args_list_reverse_1 _) (AutoSeq1.list_reverse_list_0 l its.toArray n (by rw[yC];lia)) ⟨e,?_⟩;refine⟨.non,_,I.lset (its':=its.reverse) hH e (by simp) r.reverse ?_,rfl,q⟩;rw[uW];lia
inductive ZL (x:V) (y:V) (H:Hp) (Q:VK):Prop
 |mk (l b xs zs:_) (h0:x=.ref l) (h1:y=.ref b) (h2:H l=some (.lst xs)) (h3:H b=some (.lst zs)) (h4:xs.length+zs.length<=sizeLine) (h5: ∀p,H p=none->Q (.ref p) (upd H p (.lst (xs++zs)))):ZL x y H Q
theorem wJ:ID X (binaryOp .Add) ZL:=by
 intro pins s σ H x y v u Q I rx ry h;obtain⟨l,b,xs,zs,rfl,rfl,hH,hB,hz,q⟩:=h;cases rx;cases ry;obtain⟨z,its,n,r,hl,e⟩:=I.lstM hH;obtain⟨z2,its2,n2,r2,hl2,e2⟩:=I.lstM hB;refine PySem.P.add_list e e2 ?_ (by rw[yC,yC];lia);have ea:its.toArray++its2.toArray=(its++its2).toArray:=by simp
 rw[ea];exact⟨.ref _,_,I.lnew (t':=s.toks) (r.append r2) (by rw[zB];lia),rfl,q _ I.fresh⟩
inductive zCo (x:V) (y:V) (H:Hp) (Q:VK):Prop
 |mk (l k xs:_) (h0:x=.ref l) (h1:y=.int k) (h2:H l=some (.lst xs)) (h3: -(2^63)<=k) (h4:k<2^63) (h5:xs.length*k.toNat<=sizeLine) (h6: ∀p,H p=none->Q (.ref p) (upd H p (.lst (List.replicate k.toNat xs).flatten))):zCo x y H Q
theorem Yd {α:Type}(xs:List α)(k:Nat):(List.replicate k xs).flatten.length =k*xs.length:=by
 induction k with
 |zero=>simp
 |succ k ih=>rw[wZ,kJ,zB,ih,Nat.succ_mul,Nat.add_comm]
theorem ZY:ID X (binaryOp .Mult) zCo:=by
 intro pins s σ H x y v u Q I rx ry h;obtain⟨l,k,xs,rfl,rfl,hH,h1,h2,hz,q⟩:=h;cases rx;obtain⟨t,rfl⟩:=ry;obtain⟨z,its,n,r,hl,e⟩:=I.lstM hH;have hlen:its.toArray.size*k.toNat<=sizeLine:=by rw[yC,<-hl];exact hz
 have hcap: ¬its.toArray.size*k.toNat > (2^63-1) / 8:=by
  have:(sizeLine:Nat)<=(2^63-1) / 8:=by decide
  lia
 have hfit: ¬(!Builtin.List.listFitsIndex k)=true:=by
  rw[fitsIndex_both h1 h2];exact yK
 have hlong: ¬Builtin.List.listTooLong (its.toArray.size*k.toNat)=true:=by
  rw[LZ hlen];exact yK
 have hnew:List.foldl (λx1 x2=>x1++x2) #[] (List.replicate (if its.toArray.isEmpty=true then 0 else k.toNat) its.toArray)=(List.replicate k.toNat its).flatten.toArray:=by
  have f0: ∀m:Nat,List.foldl (λx1 x2=>x1++x2) #[] (List.replicate m its.toArray)=(List.replicate m its).flatten.toArray:=λm=>by
   have:=NZ its m [];rw[jV]at this;exact this
  rw[f0];cases its with
  |nil=>simp
  |cons a r'=>rw[zI (by simp)]
 refine wpAny_binaryOp_repeat_ref (T:="list") (U:="int") (by decide) ⟨_,e,rfl⟩ (λs'=>typeIs_int s' k t) noFill_list_mul F.fills_int_mul F.slot_int_rmul repeat_list F.slot_int_index.lookup
  (wW F.slot_int_rmul (typeIs_int s k t) F.entry_int_rmul (F.args_int_rmul_2 _ _) (int___rmul___int_list k t l its.toArray n)
   ⟨e,rfl,⟨_,e,rfl⟩,wW F.slot_list_mul ⟨_,e,rfl⟩ F.entry_list_mul (F.args_list_mul_2 _ _) (AutoListH.list___mul___list_int_3 l its.toArray n k t hfit hcap hlong) ⟨e,?_⟩⟩)
 rw[hnew];exact⟨.ref _,_,I.lnew (t':=s.toks) (r.rep k.toNat) (by rw[Yd,Nat.mul_comm];exact hz),rfl,q _ I.fresh⟩
end
section
variable {prog:Program}{w:World}{A:Around}{E:Value->Shared->Prop}{s:Shared}
set_option maxRecDepth 100000 in
end
end L2
namespace Att
open PySem PySem.W PySem.Calls PyProof.Rows
theorem Lj {P:Params}{h:Heap}: ∀(ns:List Int) (vs:List Value),WellAll P h vs (ns.map WData.int)->IntsAre vs ns:=by
 intro ns
 induction ns with
 |nil=>
  intro vs w;rw[List.map_nil]at w;cases w;exact .nil
 |cons n ns ih=>
  intro vs w;rw[List.map_cons]at w;cases w with
  |cons a b=>
   cases a;exact .cons _ _ (ih _ b)
theorem TD {l:OpenLaw}{n:Nat}(hn:l.most=some n){P:Params}{h:Heap}{args:List WData}{vals:List Value}
  (hpre:l.row.toRowW.claim.pre args=true) (hwl:WellAll P h vals args):
  ∃a vs ns,vals=[Value.ref a]/\args=[WData.list (ns.map WData.int)]/\h.get? a=some {cls:=.type "list",data:=.seq vs.toArray}/\IntsAre vs ns/\ns.length<=n:=by
 have hsh:WShape.hasAll [] args [.list .int]=true:=(pre_splitW hpre).1;have hc:l.pre.holds [] {args:=args}=true:=(pre_splitW hpre).2;obtain⟨d,r,rfl,h1,h2⟩:=hasAllW_cons hsh;obtain rfl:=hasAllW_nil h2;obtain⟨xs,rfl,h3⟩:=hasW_list h1;obtain⟨ns,rfl⟩:=items_int h3;have hlen:ns.length<=n:=by
  unfold OpenLaw.pre at hc;have h4:(WTm.not (.lt (.lit (.int (n:Int))) (.len (.arg 0)))).holds [] {args:=[.list (ns.map .int)]}=true:=by
   have h4:=(holds_andW hc).1;rw[hn]at h4;exact h4
  have h5:=condW_of h4 (w_not (w_lt w_lit (w_len_list (w_arg rfl))));rw[List.length_map]at h5;refine Nat.le_of_not_lt λq=>?_;have q':(n:Int)<((ns.length:Nat):Int):=by lia
  first
   |(rw[decide_eq_true q']at h5;exact absurd h5 (by decide))
   |(simp at h5;lia)
 cases hwl with
 |cons w1 w2=>
  cases w2;cases w1 with
  |list ho hall=>exact⟨_,_,ns,rfl,rfl,ho,Lj ns _ hall,hlen⟩
theorem TJ (l:OpenLaw)(args:List WData):l.row.toRowW.claim.post args (.bool true) args=true:=
 postW_of (r:=l.row.toRowW) (X:=(true==true))
  (show WShape.has [] (.bool true) .bool =true by first|rfl|decide|simp[WShape.has,WShape.arms,WShape.armsAll])
  (show(WTm.eq .res (.lit (.bool true))).value [] {args:=args,res:=some (.bool true),after:=args}=some (.bool (true==true))from w_eq_bool (w_res rfl) w_lit) rfl
theorem attach_call {l:OpenLaw}{n:Nat}{q:Program}{loose:List Str}{XP:(Str->Option Value)->Heap->Prop}{YP:World->Heap->Prop}{d:DefRec}
  (hn:l.most=some n) (hdf:d.params.defaults=[])
  (call: ∀(w:World) (s₀ s₁:Shared) (mg mb:Str->Option Value) (fa:Addr) (o:Obj) (pm cd doc:Value) (a:Addr) (vs:List Value) (ns:List Int),
   Ground q loose [] XP w s₀ mg mb s₁.heap->YP w s₁.heap->
   s₁.heap.get? fa=some o->o.data=.func (docDef d.name d.params d.body d.scope pm cd doc)->s₁.heap.CodeRec cd d.name->mg d.name=some (.ref fa)->
   s₁.heap.get? a=some {cls:=.type "list",data:=.seq vs.toArray}->IntsAre vs ns->ns.length<=n->s₁.gens=#[]->
   codeAny (model l.prog w) callerA (.call (.ref fa) ⟨[.ref a],[]⟩) (λr s'=>r=.ok (.ret (.bool true))/\OldK s₁.heap s'.heap/\s'.os=s₁.os/\AllBare s'.gens) s₁):
  WalkO q loose XP YP l.row.toRowW d [] (λf vs=>PySem.call f vs):=by
 intro w s₀ s₁ mg mb G Y fa o pm cd doc dV kV ho hd hcd hD hmg hg args vals as hpre hlay hrd hwl hlo;obtain rfl:dV=.none:=Dflts.none hD hdf;obtain rfl:kV=.none:=Dflts.noKw hD;obtain⟨a,vs,ns,rfl,rfl,hobj,hints,hlen⟩:=TD hn hpre hwl;refine enter_call (codeAny_mono (call w s₀ s₁ mg mb fa o pm cd doc a vs ns G Y ho (fd_plain hd) hcd hmg hobj hints hlen hg) λr s' hq=>?_);obtain⟨rfl,h2,h3,h4⟩:=hq;exact⟨.inl ⟨.bool true,.bool true,[],rfl,λ_=>rfl,.bool true,TJ l _,λ_=>⟨List.Pairwise.nil,λ_ hm=>(nomatch hm)⟩⟩,h2,h3,h4⟩
section
variable {prog:Program}{w:World}{A:Around}{E:Value->Shared->Prop}{s:Shared}{K:Frag}
def zFr (h:Heap)(L d:Addr):List (Addr×Obj):=(List.range h.objs.size).filterMap λa=>if a=L\/a=d then none else(h.get? a).map λo=>(a,o)
end
end Att
namespace L2
open PySem PySem.Spec PyProof.Rows
theorem Nb: ∀{vs:List Value} {ns:List Int},IntsAre vs ns->jS (ns.map V.int) vs
 |_,_,.nil=>.nil
 |_,_,.cons n t h=>.cons ⟨t,rfl⟩ (Nb h)
def YG (H:Hp):Prop:= ∀b,H b=none\/ ∃o xs,H b=some (.frz o (.lst xs))
theorem Wp {P:Program}{w:World}{K:PySem.W.Frag}{mg mb:Str->Option Value}{CX:JW}{k:Nat}{fa a:Addr}{fd:FuncData}{x:Str}{sp:Sp}{s₁:Shared}{vs:List Value}{ns:List Int}
  (KX:K.In s₁.heap) (hns:s₁.heap.Ns mainGlobals mg) (hb:s₁.heap.Ns builtinsNs mb) (hbb: ∀x:Str,x≠"__name__"->mb x=bootBuiltins x) (hlim:s₁.heap.NoLimit) (hg:s₁.gens=#[])
  (ha:s₁.heap.get? a=some {cls:=.type "list",data:=.seq vs.toArray}) (hi:IntsAre vs ns) (hl:ns.length<=sizeLine) (hr:uE k callerA)
  (F: ∀base:Heap,K.In base->base.Ns mainGlobals mg->CU P w K mg base CX k fa fd [x] sp) (hbind: ∀(s:Shared) (u:Value),BindsTo s fd ⟨[u],[]⟩ [(x,u)])
  (hsp: ∀H:Hp,YG H->Hb K H a (ns.map V.int)->sp [.ref a] H (λv _=>v=.bl true) λ_ _ _=>False)
  (hCX: ∀H e s',CX [] H s₁ (λ_ _ _=>False) e s'->False):
  codeAny (model P w) callerA (.call (.ref fa) ⟨[.ref a],[]⟩) (λr s'=>r=.ok (.ret (.bool true))/\OldK s₁.heap s'.heap/\s'.os=s₁.os/\AllBare s'.gens) s₁:=by
 have rv:=Nb hi;have lenV:=hi.length;have core: ∀H:Hp,YG H->Hb K H a (ns.map V.int)->Ix P w H s₁.heap->(∀b,H b≠none->b=a)->(H a≠none->K.lookup a=none)->
   codeAny (model P w) callerA (.call (.ref fa) ⟨[.ref a],[]⟩) (λr s'=>r=.ok (.ret (.bool true))/\OldK s₁.heap s'.heap/\s'.os=s₁.os/\AllBare s'.gens) s₁:=by
  intro H hO hS hok hA hK;have base_of: ∀{b:Addr} {o:Obj},s₁.heap.get? b=some o->H b=none->(Pm s₁.heap H).get? b=some o:=λe n=>Wx e n;have noA: ∀{b:Addr} {o:Obj} {es:Array DictEntry} {ep:Nat},s₁.heap.get? b=some o->o.data=.dict es ep->H b=none:=fun{b o es ep} e d=>by
   cases q:H b with
   |none=>rfl
   |some u=>
    have e':b=a:=hA b (by rw[q];simp);subst e';rw[ha]at e;cases e;have d':Data.seq vs.toArray _=Data.dict es ep:=d;cases d'
  have nsK: ∀{b:Addr} {m:Str->Option Value},s₁.heap.Ns b m->(Pm s₁.heap H).Ns b m:=fun{b m} ⟨o,es,ep,e,d,r⟩=>⟨o,es,ep,base_of e (noA e d),d,r⟩;have hKb:K.In (Pm s₁.heap H):=λb o e=>base_of (KX b o e) (by
   cases q:H b with
   |none=>rfl
   |some u=>
    have e':b=a:=hA b (by rw[q];simp);subst e';rw[hK (by rw[q];simp)]at e;cases e)
  have hM:Mod K mg (Pm s₁.heap H):=⟨hKb,nsK hns,⟨mb,nsK hb,hbb⟩,let⟨mc,h1,h2⟩:=hlim;⟨mc,nsK h1,h2⟩⟩;have e0:Ss P w K mg (Pm s₁.heap H) callerA [] s₁ H:=⟨rfl,hM,λb o e=>Ya e,Eu (Ur _ _),trivial,λb hb=>absurd (show b∈([]:List Addr)from hb) (by simp),hok,.of_eq hg⟩;refine Bi ((F _ hKb (nsK hns)).run callerA [] s₁ H ⟨[.ref a],[]⟩ [.ref a] [.ref a] _ _ hr e0 (hbind s₁ (.ref a)) (.cons rfl .nil) (hsp H hO hS)) λr s' h=>?_;cases r with
  |error e=>exact(hCX H e s' h).elim
  |ok fl=>
   cases fl with
   |next=>exact False.elim h
   |brk=>exact False.elim h
   |cont=>exact False.elim h
   |ret u=>
    obtain⟨v,H',os,bare,un,hok',r',q⟩:=h;have q':v=.bl true:=q;subst q';obtain rfl:u=Value.bool true:=r';refine⟨rfl,OldK.of_keep λb o e=>?_,os,bare⟩;cases q:H b with
    |none=>exact un.keep b o e q (by intro z;exact absurd (show b∈([]:List Addr)from z) (by simp)) (by simp)
    |some u=>
     rcases hO b with z|⟨ob,xs,z⟩
     ·rw[q]at z;cases z
     ·have z2:=un.frzs b ob _ z;obtain⟨e1,_⟩:=hok b _ z;obtain⟨e2,_⟩:=hok' b _ z2;rw[e]at e1;cases e1;exact e2
 cases hk:K.lookup a with
 |some o=>
  have e:=KX a o hk;rw[ha]at e;cases e;refine core (λ_=>none) (λ_=>.inl rfl) (.inr ⟨_,vs.toArray,_,hk,rfl,rfl,rfl,by rw[yC,lenV];exact hl,by simpa using rv⟩) (λb u z=>by have z':(none:Option HO)=some u:=z;cases z') (λb z=>absurd rfl z) λz=>absurd rfl z
 |none=>
  refine core (λb=>if b=a then some (.frz {cls:=.type "list",data:=.seq vs.toArray} (.lst (ns.map V.int)))else none) (λb=>?_) (.inl (.inr ⟨{cls:=.type "list",data:=.seq vs.toArray},zT rfl⟩)) (λb u z=>?_) (λb z=>?_) λ_=>hk
  ·by_cases hb:b=a
   ·exact .inr ⟨_,_,zT hb⟩
   ·exact .inl (zI hb)
  ·by_cases hb:b=a
   ·have z':=(zT hb).symm.trans z;cases z';subst hb;exact⟨ha,by rw[zD];exact hl,vs,_,rv,ha⟩
   ·have z':=(zI hb).symm.trans z;cases z'
  ·by_cases hb:b=a
   ·exact hb
   ·exact absurd (zI hb) z
theorem walk_of {l:PySem.W.OpenLaw}{n k:Nat}{q:Program}{loose:List Str}{XP:(Str->Option Value)->Heap->Prop}{YP:World->Heap->Prop}{d:DefRec}{K:Params->PySem.W.Frag}{CX:World->JW}{sp:World->Sp}{x:Str}
  (hn:l.most=some n) (hn2:n<=sizeLine) (hdf:d.params.defaults=[]) (hr:uE k callerA)
  (hY: ∀(w:World) (h:Heap),YP w h->(K w.params).In h)
  (F: ∀(w:World) (mg:Str->Option Value) (fa:Addr) (h:Heap),(K w.params).In h->h.Ns mainGlobals mg->mg d.name=some (.ref fa)->
   ∃fd:FuncData,(∀(s:Shared) (u:Value),BindsTo s fd ⟨[u],[]⟩ [(x,u)])/\
    ∀base:Heap,(K w.params).In base->base.Ns mainGlobals mg->CU l.prog w (K w.params) mg base (CX w) k fa fd [x] (sp w))
  (hsp: ∀(w:World) (H:Hp) (a:Addr) (ns:List Int),ns.length<=n->YG H->Hb (K w.params) H a (ns.map V.int)->sp w [.ref a] H (λv _=>v=.bl true) λ_ _ _=>False)
  (hCX: ∀(w:World) (H:Hp) (s:Shared) (e:Value) (s':Shared),CX w [] H s (λ_ _ _=>False) e s'->False):
  PySem.W.WalkO q loose XP YP l.row.toRowW d [] (λf vs=>PySem.call f vs):=by
 refine Att.attach_call hn hdf λw s₀ s₁ mg mb fa o pm cd doc a vs ns G Y ho hd hcd hmg hobj hints hlen hg=>?_;have KX:=hY w _ Y;obtain⟨fd,hb,hF⟩:=F w mg fa _ KX G.T.g hmg;exact Wp KX G.T.g G.T.b G.T.builtins G.T.nolimit hg hobj hints (yT hlen hn2) hr hF hb (λH hO hS=>hsp w H a ns hlen hO hS) λH e s'=>hCX w H s₁ e s'
def Iu (s:Stmt)(j:Nat):Stmt:=match s with
 | .ClassDef _ _ _ body _ _ _ _ _ _ _=>body.getD j (.Pass ⟨0,0,0,0⟩)
 |_=>.Pass ⟨0,0,0,0⟩
def Be (s:Stmt):Arguments:=match s with
 | .FunctionDef _ a _ _ _ _ _ _ _ _=>a
 |_=>{posonlyargs:=[],args:=[],vararg:=none,kwonlyargs:=[],kw_defaults:=[],kwarg:=none,defaults:=[]}
def vS (s:Stmt):List Stmt:=match s with
 | .FunctionDef _ _ b _ _ _ _ _ _ _=>b
 |_=>[]
def yH (s:Stmt):Scope:=match s with
 | .FunctionDef _ _ _ _ _ _ sc _ _ _=>sc
 |_=>{kind:=.function,names:=[],isGenerator:=false,isCoroutine:=false}
abbrev E0:XK:=λ_ _ _=>False
structure uB (K:PySem.W.Frag)(x qual:Str)(st:Stmt)(f:Addr)(fd:FuncData):Prop where
 ex: ∃(oc:Value) (od:Option Addr) (kV doc pm:Value) (an:Option Addr) (cdv ct:Value) (osl:Array (Option Value)),
  fd=PySem.W.fnOf x qual (Be st) (vS st) (yH st) .none kV doc pm an cdv ct/\K.lookup f=some ⟨oc,od,.func fd,osl⟩/\PySem.W.codeIn K cdv qual=true
 kp:PySem.W.keepIn K (.ref f)=true
section
variable {P:Program}{w:World}{K:PySem.W.Frag}{mg:Str->Option Value}{base:Heap}
theorem uB.binds {x qual:Str}{st:Stmt}{f:Addr}{fd:FuncData}{ps:List Str}(F:uB K x qual st f fd)
  (h: ∀(kV doc pm:Value) (an:Option Addr) (cdv ct:Value) (us:List Value),us.length=ps.length->bindArgs (PySem.W.fnOf x qual (Be st) (vS st) (yH st) .none kV doc pm an cdv ct) ⟨us,[]⟩=pure (ps.zip us)):Ab K fd ps []:=by
 obtain⟨oc,od,kV,doc,pm,an,cdv,ct,osl,rfl,lk,hcd⟩:=F.ex;exact .all (h kV doc pm an cdv ct)
theorem WA {x qual:Str}{st:Stmt}{f:Addr}{oc:Value}{od an:Option Addr}{osl:Array (Option Value)}{kV doc pm cdv ct:Value}(l:K.lookup f=some ⟨oc,od,.func (PySem.W.fnOf x qual (Be st) (vS st) (yH st) .none kV doc pm an cdv ct),osl⟩)
  (c:PySem.W.codeIn K cdv qual=true) (k:PySem.W.keepIn K (.ref f)=true):uB K x qual st f (PySem.W.fnOf x qual (Be st) (vS st) (yH st) .none kV doc pm an cdv ct):=⟨⟨oc,od,kV,doc,pm,an,cdv,ct,osl,rfl,l,c⟩,k⟩
end
theorem NT {A:Around}{k:Nat}(hr:uE k A):A.units+1<cLine:=kO (Nat.add_le_add_left (by decide:1<=64) _) hr.units
theorem wI {n:Nat}(h:n<=1000):n<sizeLine:=kO h (by decide)
section
variable {X:Cx}
theorem pv (i:Nat){x:Str}{pos:Pos}(hN:X.N[i]? =some x:=by rfl)(hv:Vis X.env.scope x:=by first|exact Or.inl rfl|exact Or.inr (Or.inl rfl)|exact Or.inr (Or.inr rfl))(hd:(x==("__debug__":Str))=false:=by decide)
  (hcd:(x==("__classdict__":Str))=false:=by decide):PE X (.Name x pos) (Va i):=ZS hN hv hd hcd
end
theorem qG {A B:Prop}(h:B):if false=true then A else B:=by
 rw[zI yK];exact h
theorem kK {A B:Prop}(h:A):if true=true then A else B:=by
 rw[zT rfl];exact h
theorem kL {c A B:Prop}[Decidable c](h1:c->A)(h2: ¬c->B):if c then A else B:=by
 by_cases h:c
 ·rw[zT h];exact h1 h
 ·rw[zI h];exact h2 h
def kS (H H':Hp):Prop:= ∀b o,H b=some o->H' b=some o
theorem kS.refl (H:Hp):kS H H:=λ_ _ h=>h
theorem kS.trans {H H1 H2:Hp}(a:kS H H1)(b:kS H1 H2):kS H H2:=λc o h=>b c o (a c o h)
theorem kS.free {H H':Hp}(e:kS H H'){l:Addr}(h:H' l=Option.none):H l=Option.none:=by
 cases q:H l with
 |none=>rfl
 |some o=>
  rw[e l o q]at h;cases h
theorem Sj {prog:Program}{w:World}{A:Around}{R:Result->Shared->Prop}{s:Shared}{elt target iter:Expr}{ifs:List Expr}{scope:Scope}{pos:Pos}{it acc:Value}{env:Env}(J:Nat->Shared->Prop)
  (turn: ∀n s,J n s->wpAny (model prog w) A (pyNext it) (λr s1=>match r with
   |none=>R (.ok .next) s1
   |some v=>wpAny (model prog w) A (letOwnedTupleGo target it v) (λ_ s1=>wpAny (model prog w) A (assign target env v) (λ_ s2=>
     wpAny (model prog w) A (forIn ifs true λc r=>if r=true then do let ok<-isTrue c env (eval c env);pure (ForInStep.yield ok)else pure (ForInStep.yield r)) (λok s3=>
      if ok=true then wpAny (model prog w) A (eval elt env) (λx s4=>
       wpAny (model prog w) A (call (.builtin "list.append") [acc,x]) (λ_ s5=> ∃m,m<n/\J m s5) (λ_ _=>False) s4) (λ_ _=>False) s3
      else ∃m,m<n/\J m s3) (λ_ _=>False) s2) (λ_ _=>False) s1) (λ_ _=>False) s1) (λ_ _=>False) s)
  (n:Nat) (h:J n s):
  codeAny (model prog w) A (.compLoop (.ListComp elt [⟨target,iter,ifs,0⟩] scope pos) 0 it acc env) R s:=by
 refine codeAny_loop rfl J (λn s hI=>?_) n h;show wpAny _ A ((compTurn (.ListComp elt [⟨target,iter,ifs,0⟩] scope pos) 0 it acc env).onRaise (λx=>do noteFrame x env;theTreesLotGoes x)) _ _ s;refine wpAny_noted (wD (E:=λ_ _=>False) ?_ (λ_ _ q=>q) λ_ _ q=>q.elim);rw[compTurn_list];refine zC (Dy (zC (qT (turn n s hI) λr s1 h1=>?_)));cases r with
 |none=>exact zP h1
 |some v=>
  refine zC (qT h1 λ_ s1 h1=>?_);refine zC (qT h1 λ_ s2 h2=>zC (qT h2 λok s3 h3=>?_));cases ok with
  |false=>exact zP ⟨rfl,h3⟩
  |true=>exact zC (zC (qT h3 λx s4 h4=>zC (qT h4 λ_ s5 h5=>zP (zP ⟨rfl,h5⟩))))
theorem Jg {env:Env}: ∀(names:List (Str×NameKind)) (acc:List (Str×Addr)),(∀y∈names,y.2=.free-> ∃c,env.cells.lookup y.1=some c)->
  ∃cl:List (Str×Addr),(forIn names acc (fun(y:Str×NameKind) (r:List (Str×Addr))=>if(y.2==NameKind.free)=true then do let a<-cellOf env y.1;pure (ForInStep.yield ((y.1,a)::r))else pure (ForInStep.yield r)):Sem _)=pure cl/\
   ∀x,(∀c,cl.lookup x=some c->acc.lookup x=some c\/env.cells.lookup x=some c)/\((acc.lookup x).isSome =true\/(x,NameKind.free)∈names->(cl.lookup x).isSome =true)
 |[],acc,_=>⟨acc,rfl,λx=>⟨λc h=>.inl h,λh=>h.elim id λz=>nomatch z⟩⟩
 |(n,k)::r,acc,hf=>by
  by_cases hk:k=.free
  ·subst hk;obtain⟨c,hc⟩:=hf (n,.free) zO rfl;obtain⟨cl,e,q⟩:=Jg r ((n,c)::acc) λy hy=>hf y (zQ _ hy);refine⟨cl,?_,λx=>⟨λd hd=>?_,λhx=>?_⟩⟩
   ·rw[uJ];have e1:cellOf env n=pure c:=by unfold cellOf;simp only[hc]
    simp only[wL,BB,e1];exact e
   ·rcases(q x).1 d hd with z|z
    ·by_cases hx:x=n
     ·subst hx;rw[vY]at z;cases z;exact .inr hc
     ·rw[Bk,beq_eq_false_iff_ne.mpr hx]at z;exact .inl z
    ·exact .inr z
   ·refine(q x).2 ?_
    by_cases hxn:x=n
    ·subst hxn;exact .inl (by rw[vY];rfl)
    ·rcases hx with z|z
     ·exact .inl (by rw[Bk,beq_eq_false_iff_ne.mpr hxn];exact z)
     ·rcases List.mem_cons.mp z with z|z
      ·cases z;exact absurd rfl hxn
      ·exact .inr z
  ·obtain⟨cl,e,q⟩:=Jg r acc λy hy=>hf y (zQ _ hy);refine⟨cl,?_,λx=>⟨(q x).1,λhx=>(q x).2 ?_⟩⟩
   ·rw[uJ];have hb:(k==NameKind.free)=false:=by simpa using hk
    simp only[hb,wN,Bw];exact e
   ·rcases hx with z|z
    ·exact .inl z
    ·rcases List.mem_cons.mp z with z|z
     ·cases z;exact absurd rfl hk
     ·exact .inr z
theorem Jh {env:Env}{scope:Scope}(hf: ∀y∈scope.names,y.2=.free-> ∃c,env.cells.lookup y.1=some c):
  ∃cl,closureFor scope env=pure cl/\(∀x c,cl.lookup x=some c->env.cells.lookup x=some c)/\ ∀x,(x,NameKind.free)∈scope.names-> ∃c,cl.lookup x=some c:=by
 obtain⟨cl,e,q⟩:=Jg scope.names [] hf;refine⟨cl,?_,λx c h=>?_,λx hx=>Option.isSome_iff_exists.mp ((q x).2 (.inr hx))⟩
 ·unfold closureFor;exact(jB (·>>=λr=>pure r) e).trans rfl
 ·rcases(q x).1 c h with z|z
  ·simp at z
  ·exact z
abbrev Cx.comp (X:Cx)(N:List Str)(scope:Scope)(cl:List (Str×Addr))(C:Addr)(fp:List Addr)(s:Shared)(H:Hp):Cx:=
 {X with N:=N,s₀:=s,H₀:=H,env:=compEnvC scope cl C X.env,outer:=X.stack,stack:=X.stack,ex:=fp,fn:=λ_=>false,pn:=[],xe:=λ_ _=>False}
structure Zo (X:Cx)(ifs:List Expr)(t:TT):Prop where
 go: ∀(pins:List (Addr×Obj)) (s:Shared) (σ:St) (H:Hp) (Q:Bool->Hp->Prop),xK X pins σ H s->t σ H Q->
  wpAny (model X.prog X.w) X.A (forIn ifs true λc r=>if r=true then do let ok<-isTrue c X.env (eval c X.env);pure (ForInStep.yield ok)else pure (ForInStep.yield r)) (TP X pins σ Q) X.xe s
instance {X:Cx}{ifs:List Expr}{t:TT}:CoeFun (Zo X ifs t) (λ_=> ∀(pins:List (Addr×Obj)) (s:Shared) (σ:St) (H:Hp) (Q:Bool->Hp->Prop),xK X pins σ H s->t σ H Q->
  wpAny (model X.prog X.w) X.A (forIn ifs true λc r=>if r=true then do let ok<-isTrue c X.env (eval c X.env);pure (ForInStep.yield ok)else pure (ForInStep.yield r)) (TP X pins σ Q) X.xe s):=⟨Zo.go⟩
def zEy:TT:=λ_ H Q=>Q true H
theorem OU {X:Cx}:Zo X [] zEy:=⟨λ_ _ _ H _ I h=>wpAny_tests_nil ⟨H,I,h⟩⟩
theorem OT {X:Cx}{c:Expr}{t:TT}(h:PT X c t):Zo X [c] t:=⟨λpins s σ H Q I q=>wpAny_tests_one (h pins s σ H Q I q)⟩
def Kv (own:Nat)(js:List Nat)(σ:St):St:=List.replicate own none++js.map λj=>(σ[j]?).join
def MI (J:It)(p:Addr)(σ0:St)(H0:Hp)(g:TG)(tt:TT)(te:TE)(R:Hp->Prop):Prop:=
 ∃W:Nat->Nat->St->Hp->Prop,(∃m,W 0 m σ0 H0)/\ ∀i m σ' H',W i m σ' H'->
  (J.stop i H'/\R H')\/(J.go i H'/\ ∀x H2,J.yld i H' x H2->g x σ' H2 λσ3 H3=>tt σ3 H3 λb H4=>
   if b=true then te σ3 H4 λv H5=> ∃ys,H5 p=some (.lst ys)/\ys.length<sizeLine/\ ∃m',m'<m/\W (i+1) m' σ3 (upd H5 p (.lst (ys++[v])))
   else ∃m',m'<m/\W (i+1) m' σ3 H4)
def Vi (wi:TI)(own:Nat)(js:List Nat)(g:TG)(tt:TT)(te:TE):TE:=λσ H Q=>wi σ H λJ H1=> ∀p,H1 p=none->MI J p (Kv own js σ) (upd H1 p (.lst [])) g tt te (Q (.ref p))
inductive Ia (N:List Str):List Str->List Nat->Prop where
 |nil:Ia N [] []
 |cons {y:Str} {j:Nat} {ys:List Str} {js:List Nat} (h:N[j]? =some y) (r:Ia N ys js):Ia N (y::ys) (j::js)
theorem Ia.at {N:List Str}: ∀{ys:List Str} {js:List Nat},Ia N ys js-> ∀(i:Nat) (y:Str),ys[i]? =some y-> ∃j,js[i]? =some j/\N[j]? =some y
 |_,_,.nil,_,_,e=>by simp at e
 |_,_,.cons (j:=j) h _,0,_,e=>by simp at e;subst e;exact⟨j,rfl,h⟩
 |_,_,.cons _ r,i+1,y,e=>by
  obtain⟨j,h1,h2⟩:=r.at i y (by simpa using e);exact⟨j,by simpa using h1,h2⟩
theorem Ia.length {N:List Str}: ∀{ys:List Str} {js:List Nat},Ia N ys js->ys.length=js.length
 |_,_,.nil=>rfl
 |_,_,.cons _ r=>by simp[r.length]
theorem Gd {f:Str->NameKind->NameKind}: ∀{names:List (Str×NameKind)} {x:Str},(names.map λy=>(y.1,f y.1 y.2)).lookup x=(names.lookup x).map (f x)
 |[],_=>rfl
 |(n,k)::r,x=>by
  by_cases h:x=n
  ·subst h;rw[yQ,vY,vY];rfl
  ·have hb:(x==n)=false:=beq_eq_false_iff_ne.mpr h;rw[yQ,Bk,Bk,hb];exact Gd
def Qf (env:Env)(n:Str)(k:NameKind):NameKind:=if(k== .free&&env.scope.kind== .function&&env.kindOf n==some .cell)=true then .cell else k
theorem Jy (scope:Scope)(env:Env)(x:Str):(relabel scope env).names.lookup x=(scope.names.lookup x).map (Qf env x):=by
 have e:(relabel scope env).names =scope.names.map λy=>(y.1,Qf env y.1 y.2):=by
  unfold relabel;refine List.map_congr_left λy _=>?_;obtain⟨n,k⟩:=y;show(if(k== .free&&env.scope.kind== .function&&env.kindOf n==some .cell)=true then(n,NameKind.cell)else(n,k))=(n,Qf env n k);unfold Qf;split<;>rfl
 rw[e,Gd]
section
variable {X:Cx}{elt target iter:Expr}{ifs:List Expr}{scope:Scope}{own ys:List Str}{js:List Nat}{wi:TI}{g:TG}{tt:TT}{te:TE}{pos:Pos}
theorem Jf {pins:List (Addr×Obj)}{σ:St}{H:Hp}{s2:Shared}{it:Addr}{fp:List Addr}{tn:Nat->Heap->Prop}{J:It}{Q:VK}{E:Value->Shared->Prop}{cl:List (Str×Addr)}{RR:Value->Addr->Result->Shared->Prop}
  (hc:X.calm=true) (I:xK X pins σ H s2) (T:Pz X.prog X.w X.K target J fp it tn) (st:tn 0 s2.heap) (fpk: ∀b∈fp,MV X pins H b)
  (hkind:scope.kind=.function) (hcell: ∀y∈scope.names,y.2≠ .cell) (fr:Ia X.N ys js) (hys: ∀y∈ys,X.env.kindOf y=some .cell)
  (hcl1: ∀x c,cl.lookup x=some c->X.env.cells.lookup x=some c) (hcl2: ∀x,(x,NameKind.free)∈scope.names-> ∃c,cl.lookup x=some c)
  (hvis: ∀y∈ys,(relabel scope X.env).names.lookup y=some .cell)
  (hg: ∀cl C fp s H,PG (X.comp (own++ys) scope cl C fp s H) target g) (ht: ∀cl C fp s H,Zo (X.comp (own++ys) scope cl C fp s H) ifs tt) (he: ∀cl C fp s H,PE (X.comp (own++ys) scope cl C fp s H) elt te)
  (h: ∀p,H p=none-> ∃W:Nat->Nat->St->Hp->Prop,(∃m,W 0 m (Kv own.length js σ) (upd H p (.lst [])))/\ ∀i m σ' H',W i m σ' H'->
   (J.stop i H'/\Q (.ref p) H')\/(J.go i H'/\ ∀x H2,J.yld i H' x H2->g x σ' H2 λσ3 H3=>tt σ3 H3 λb H4=>
    if b=true then te σ3 H4 λv H5=> ∃ys,H5 p=some (.lst ys)/\ys.length<sizeLine/\ ∃m',m'<m/\W (i+1) m' σ3 (upd H5 p (.lst (ys++[v])))
    else ∃m',m'<m/\W (i+1) m' σ3 H4))
  (hRR: ∀D C (H':Hp) (s':Shared),xK X pins σ H' s'->Q (.ref D) H'->(∃m,s'.heap.Ns C m)->H' C=none->C≠X.env.locals->X.s₀.heap.objs.size<=C->(∀x c,X.env.cells.lookup x=some c->c≠C)->(∀p∈X.pn++pins,p.1≠C)->RR (.ref D) C (.ok .next) s'):
  wpAny (model X.prog X.w) X.A (newList []) (λacc s3=>wpAny (model X.prog X.w) X.A (newFunctionEnv scope X.env.globals cl [] X.env.qual none .none (some X.env)) (λcenv s4=>
   codeAny (model X.prog X.w) X.A (.compStart (.ListComp elt [⟨target,iter,ifs,0⟩] scope pos) 0 (.ref it) acc {cenv with scope:=relabel scope X.env}) (RR acc cenv.locals) s4) E s3) E s2:=by
 refine jW (wpAny_newFunctionEnv hcell (by intro y hy;simp at hy) (λh1 hns1 hsb1=>?_) hkind);have hnp:H s2.heap.objs.size=none:=I.hok.fresh (zW _);have I3:xK X pins σ (upd H s2.heap.objs.size (.lst [])) {s2 with heap:=s2.heap.push {cls:=.type "list",data:=.seq ([]:List Value).toArray},toks:=s2.toks}:=
  I.lnew (its:=[]) (ys:=[]) .nil (yU _)
 obtain⟨W,⟨m0,w0⟩,turn⟩:=h _ hnp;clear h;generalize hH0:upd H s2.heap.objs.size (.lst [])=H0 at I3 w0;generalize hp:s2.heap.objs.size=p at *
 have eS:({s2 with heap:=s2.heap.push {cls:=.type "list",data:=.seq ([]:List Value).toArray},toks:=s2.toks}:Shared)={s2 with heap:=s2.heap.push {cls:=.type "list",data:=.seq ([]:List Value).toArray}}:=rfl;rw[eS]at I3;clear eS;generalize hs3:({s2 with heap:=s2.heap.push {cls:=.type "list",data:=.seq ([]:List Value).toArray}}:Shared)=s3 at *
 have heap3:s3.heap=s2.heap.push {cls:=.type "list",data:=.seq ([]:List Value).toArray}:=by rw[<-hs3]
 have old3: ∀b o,s2.heap.get? b=some o->s3.heap.get? b=some o:=λb o e=>by rw[heap3];exact zJ _ e
 generalize hC:s3.heap.objs.size=C at *
 have st3:tn 0 s3.heap:=T.keep _ _ _ st λb _ o e=>old3 b o e;have fp3: ∀b∈fp,b<C:=λb hb=>by
  obtain⟨o,e,_⟩:=T.obj _ _ st3 b hb;have:=yG e;rw[hC]at this;exact this
 have nH0: ∀b∈fp,H0 b=none:=λb hb=>by
  obtain⟨o,e,_⟩:=T.obj _ _ st b hb;rw[<-hH0,zV (λz=>by have:=yG e;rw[hp,z]at this;exact kQ _ this)];exact(fpk b hb).1
 have old1: ∀b o,s3.heap.get? b=some o->h1.get? b=some o:=λb o e=>
  hsb1.extBut b o (λz=>by have:=yG e;rw[hC,z]at this;exact kQ _ this) (zJ _ e)
 have nstk: ∀b∈fp,b∉frs X.stack:=λb hb z=>by
  rcases List.mem_cons.mp (I.stkSub b z)with e|e
  ·exact(fpk b hb).2.1 e
  ·exact(fpk b hb).2.2.1 e
 have ncC: ∀x c,X.env.cells.lookup x=some c->c≠C:=λx c e z=>by
  obtain⟨v,o,ho,_⟩:=I3.cell x c e;have:=yG ho;rw[hC,z]at this;exact kQ _ this
 have LC:C≠X.env.locals:=λz=>by have:=I3.lt;rw[hC,z]at this;exact kQ _ this
 have sC:X.s₀.heap.objs.size<=C:=by rw[<-hC];exact I3.sz
 have rl: ∀x k,(compEnvC scope cl C X.env).kindOf x=some k->(k=.cell\/k=.free)->(x,NameKind.free)∈scope.names:=λx k e hk=>by
  have e':(relabel scope X.env).names.lookup x=some k:=e;rw[Jy]at e';cases q:scope.names.lookup x with
  |none=>rw[q]at e';cases e'
  |some k0=>
   rw[q]at e';have m0:=wY q;have n0:=hcell _ m0;have:Qf X.env x k0=k:=jE e';unfold Qf at this;split at this
   ·rename_i z;have:k0=.free:=by
     simp only[vI,beq_iff_eq]at z;exact z.1.1
    rw[<-this];exact m0
   ·rcases hk with hk|hk
    ·exact absurd (this.trans hk) n0
    ·rw[<-hk,<-this];exact m0
 let Y:=X.comp (own++ys) scope cl C fp s3 H0
 have okY:Y.Ok:=by
  refine⟨I.ok.mod,?_,I.ok.glob,I.ok.blt,?_,λx y c e1 e2=>I.ok.inj x y c (hcl1 x c e1) (hcl1 y c e2),λx hx=>?_,λx c z=>(nomatch z),I.ok.hd,I.ok.frames,.inl rfl,λb hb=>⟨?_,λx c e=>(fpk b hb).2.2.2.2.1 x c (hcl1 x c e)⟩,λb o e=>I3.bs b o e,?_,λb o e hb=>?_,nstk,I3.stack,I3.stkFree⟩
  ·exact hkind
  ·exact Eu hC
  ·rcases hx with hx|hx
   ·exact hcl2 x (rl x _ hx (.inl rfl))
   ·exact hcl2 x (rl x _ hx (.inr rfl))
  ·exact xM (fp3 b hb)
  ·exact yT I.ok.bsz I3.sz
  ·rcases(fpk b hb).2.2.2.1 with z|z
   ·exact I.ok.noex b o e z
   ·exact absurd (yY (yG e) (yT I.ok.bsz z)) (kQ _)
 have I4:xK Y [] (Kv own.length js σ) H0 {s3 with heap:=h1,toks:=s3.toks+([]:List (Str×Value)).length}:=by
  refine⟨okY,rfl,I3.bare,Un.kept old1,⟨_,hns1,λi x v e1 e2 e3=>?_⟩,λx c e=>?_,?_,λx c e=>I3.freeC x c (hcl1 x c e),λp hp=>absurd (show p∈([]:List (Addr×Obj))from hp) (by simp),I3.hok.kept old1,?_⟩
  ·have e1:(own++ys)[i]? =some x:=e1;have hi:own.length<=i:=Nat.le_of_not_lt λlt=>by
    unfold Kv at e2;rw[uG (by simpa using lt),Gw]at e2;split at e2<;>cases e2
   rw[kI hi]at e1;obtain⟨j,hj,hN⟩:=fr.at _ _ e1;unfold Kv at e2;rw[kI (by simpa using hi),vZ,zS,hj]at e2;have e2:(σ[j]?).join =some v:=jE e2;have e2':σ[j]? =some (some v):=by
    cases q:σ[j]? with
    |none=>rw[q]at e2;cases e2
    |some z=>rw[q]at e2;rw[show z=some v from e2]
   have my:=zX e1;have hk:=hys x my;obtain⟨m,hn,hl⟩:=I3.loc;obtain⟨u,r,q⟩:=hl j x v hN e2' (.inr (.inl hk));refine⟨u,r,?_⟩
   rcases q with⟨k,_⟩|⟨_,c,e,z⟩
   ·rw[hk]at k;cases k
   ·obtain⟨c',e'⟩:=hcl2 x (rl x _ (hvis x my) (.inl rfl));have:c'=c:=by have:=hcl1 x c' e';rw[e]at this;exact(jE this).symm
    subst this;refine .inr ⟨?_,c',e',?_⟩
    ·exact .inl (hvis x my)
    ·obtain⟨o,ho,hd⟩:=z;exact⟨o,old1 _ _ ho,hd⟩
  ·obtain⟨v,o,ho,hd⟩:=I3.cell x c (hcl1 x c e);exact⟨v,o,old1 _ _ ho,hd⟩
  ·exact I3.hok.fresh (Eu hC)
  ·unfold Kv;show _=(own++ys).length;rw[zB,vZ,zD,zB,fr.length]
 have stat: ∀{H':Hp},(∀b∈fp,H' b=none)-> ∀b∈fp,MV Y [] H' b:=λhn b hb=>
  ⟨hn b hb,xM (fp3 b hb),nstk b hb,.inl hb,λx c e=>(fpk b hb).2.2.2.2.1 x c (hcl1 x c e),λp hp=>absurd (show p∈([]:List (Addr×Obj))from hp) (by simp)⟩
 have fin: ∀{σ':St} {H':Hp} {s':Shared},xK Y [] σ' H' s'->Q (.ref p) H'->RR (.ref p) C (.ok .next) s':=fun{σ' H' s'} I' q=>by
  have back:xK X pins σ H' s':=I3.call' (ch:=fp) I'.os I'.base I'.hok I'.bare λb hb=>⟨(fpk b hb).2.2.2.1,(fpk b hb).2.1,(fpk b hb).2.2.2.2.1,(fpk b hb).2.2.2.2.2⟩;obtain⟨m,hn,_⟩:=I'.loc;exact hRR p C H' s' back q ⟨m,hn⟩ I'.free LC sC ncC λq hq z=>by
   have:=yG (I3.pin q hq).1;rw[hC,z]at this;exact kQ _ this
 have loop: ∀s4:Shared,s4={s3 with heap:=h1,toks:=s3.toks+([]:List (Str×Value)).length}->
   codeAny (model X.prog X.w) X.A (.compLoop (.ListComp elt [⟨target,iter,ifs,0⟩] scope pos) 0 (.ref it) (.ref p) (compEnvC scope cl C X.env)) (RR (.ref p) C) s4:=by
  rintro s4 rfl;refine Sj (λn s'=> ∃i σ' H',xK Y [] σ' H' s'/\tn i s'.heap/\(∀b∈fp,H' b=none)/\W i n σ' H') ?_ m0 ⟨0,_,_,I4,T.keep _ _ _ st3 λb _ o e=>old1 b o e,nH0,w0⟩;rintro n s5 ⟨i,σ5,H5,I5,st5,fr5,w5⟩
  rcases turn i n σ5 H5 w5 with⟨stop,qn⟩|⟨go,step⟩
  ·refine qT (T.done Y rfl rfl rfl hc i [] s5 σ5 H5 (λ_ _=>False) I5 (stat fr5) st5 stop) λr s6 hzz=>?_;obtain⟨hr,I6⟩:=hzz;subst hr;exact fin I6 qn
  ·refine qT (T.item Y rfl rfl rfl hc i [] s5 σ5 H5 (λ_ _=>False) I5 (stat fr5) st5 go) λr s6 hzz=>?_;obtain⟨u,hr,h6⟩:=hzz;subst hr;refine qT h6 λ_ s7 hzz=>?_;obtain⟨x,H7,I7,r7,y7,st7,fr7⟩:=hzz;have I7':=I7.pinned (stat fr7) (T.obj _ _ st7);have again: ∀{σ9:St} {H9:Hp} {s9:Shared} {m':Nat},xK Y ([]++LP fp s7.heap) σ9 H9 s9->m'<n->W (i+1) m' σ9 H9-> ∃m,m<n/\ ∃i σ' H',xK Y [] σ' H' s9/\tn i s9.heap/\(∀b∈fp,H' b=none)/\W i m σ' H':=fun{σ9 H9 s9 m'} I9 hm w9=>by
    refine⟨m',hm,i+1,σ9,H9,I9.unpinned,T.keep _ _ _ st7 λb hb o e=>(I9.pin (b,o) (yZ _ (yZ _ (GS hb e)))).1,λb hb=>?_,w9⟩;obtain⟨o,e,d⟩:=T.obj _ _ st7 b hb;exact(I9.pin (b,o) (yZ _ (yZ _ (GS hb e)))).2.1
   refine qT (hg cl C fp s3 H0 _ s7 σ5 H7 x u _ I7' r7 (step x H7 y7)) λ_ s8 hzz=>?_;obtain⟨σ8,H8,I8,q8⟩:=hzz;refine qT (ht cl C fp s3 H0 _ s8 σ8 H8 _ I8 q8) λb s9 hzz=>?_;obtain⟨H9,I9,q9⟩:=hzz;cases b with
   |false=>
    obtain⟨m',hm,w9⟩:=q9;exact again I9 hm w9
   |true=>
    refine qT (he cl C fp s3 H0 _ s9 σ8 H9 _ I9 q9) λy s10 hzz=>?_;obtain⟨v,H10,I10,r10,zs,e10,z10,m',hm,w10⟩:=hzz;refine qT (jO (X:=Y) _ s10 σ8 H10 (.ref p) [v] (.ref p) [y] (λ_ H'=>H'=upd H10 p (.lst (zs++[v]))) I10 rfl (.cons r10 .nil) ⟨p,zs,v,rfl,rfl,e10,z10,rfl⟩) λ_ s11 hzz=>?_;obtain⟨_,H11,I11,_,q11⟩:=hzz;subst q11;exact again I11 hm w10
 have st4:tn 0 h1:=T.keep _ _ _ st3 λb _ o e=>old1 b o e;exact codeAny_compStart_list (loop _ rfl) (T.self _ 0 _ _ _ st4 (loop _ rfl))
structure PD (X:Cx)(scope:Scope)(ys:List Str):Prop where
 kind:scope.kind=.function
 cell: ∀y∈scope.names,y.2≠ .cell
 loc: ∀y∈scope.names,y.2=.local->scope.names.lookup y.1=some .local
 free: ∀y∈scope.names,y.2=.free->X.env.kindOf y.1=some .cell
 cap: ∀y∈ys,X.env.kindOf y=some .cell
 vis: ∀y∈ys,(relabel scope X.env).names.lookup y=some .cell
def Tl (sc scope:Scope)(ys:List Str):Bool:=
 scope.kind== .function&&sc.kind== .function&&(scope.names.all λy=>y.2 != .cell&&(y.2 != .local || scope.names.lookup y.1==some .local)&&(y.2 != .free || sc.names.lookup y.1==some .cell))&&
  ys.all λy=>sc.names.lookup y==some .cell&&scope.names.lookup y==some .free
theorem Ex {sc:Scope}(hsc:X.env.scope=sc)(h:Tl sc scope ys=true):PD X scope ys:=by
 unfold Tl at h;simp only[vI,wM,beq_iff_eq,bne_iff_ne,Bool.or_eq_true,ne_eq]at h;obtain⟨⟨⟨h1,h0⟩,h2⟩,h3⟩:=h;subst hsc;refine⟨h1,λy hy=>(h2 y hy).1.1,λy hy e=>?_,λy hy e=>?_,λy hy=>(h3 y hy).1,λy hy=>?_⟩
 ·rcases(h2 y hy).1.2 with z|z
  ·exact absurd e z
  ·exact z
 ·rcases(h2 y hy).2 with z|z
  ·exact absurd e z
  ·exact z
 ·rw[Jy,(h3 y hy).2];show some (Qf X.env y .free)=_;have z:X.env.kindOf y=some .cell:=(h3 y hy).1;unfold Qf;rw[z,h0];rfl
theorem Lo (hc:X.calm=true)(hi:PI X target iter wi)(S:PD X scope ys)(fr:Ia X.N ys js)
  (hg: ∀cl C fp s H,PG (X.comp (own++ys) scope cl C fp s H) target g) (ht: ∀cl C fp s H,Zo (X.comp (own++ys) scope cl C fp s H) ifs tt) (he: ∀cl C fp s H,PE (X.comp (own++ys) scope cl C fp s H) elt te)
  (hs: ∀x,foldedSetIterable iter X.env x=pure x:=by intro _;rfl):PE X (.ListComp elt [⟨target,iter,ifs,0⟩] scope pos) (Vi wi own.length js g tt te):=by
 refine⟨?_⟩;intro pins s σ H Q I h;rw[eval_ListComp];obtain⟨cl,e,c1,c2⟩:=Jh (env:=X.env) (scope:=scope) λy hy hf=>I.ok.has y.1 (.inl (S.free y hy hf));refine Bv (use:=none) rfl hs e S.kind S.loc (qT (hi pins s σ H _ I h) λv s1 h1=>qT h1 λitv s2 h2=>?_);obtain⟨it,fp,tn,J,H2,e,I2,T,st2,f2,q2⟩:=h2;subst e;refine Jf (Q:=Q) (RR:=λacc C=>compPost (model X.prog X.w) X.A X.xe none (EP X pins σ Q) acc C) hc I2 T st2 f2 S.kind S.cell fr S.cap c1 c2 S.vis hg ht he q2 ?_;intro D C H' s' I' q hm n1 n2 n3 n4 n5;obtain⟨m,hn⟩:=hm;exact⟨m,hn,λh' hs'=>⟨.ref D,H',I'.turned (λb o hb e=>(hs'.2 b hb).trans e) n1 n2 (.inr n3) n4 n5,rfl,q⟩⟩
theorem RD {i:Nat}{x:Str}{pos' spos:Pos}(hN:X.N.Nodup)(hix:X.N[i]? =some x)(hx:X.env.scope.names.lookup x=some .local)(hc:X.calm=true)(hi:PI X target iter wi)(S:PD X scope ys)(fr:Ia X.N ys js)
  (hg: ∀cl C fp s H,PG (X.comp (own++ys) scope cl C fp s H) target g) (ht: ∀cl C fp s H,Zo (X.comp (own++ys) scope cl C fp s H) ifs tt) (he: ∀cl C fp s H,PE (X.comp (own++ys) scope cl C fp s H) elt te)
  (hsw:swapsWith (.ListComp elt [⟨target,iter,ifs,0⟩] scope pos) (some (.Name x pos')) spos.line X.env=pure true:=by rfl)
  (hs: ∀x,foldedSetIterable iter X.env x=pure x:=by intro _;rfl):PS X (.Assign [.Name x pos'] (.ListComp elt [⟨target,iter,ifs,0⟩] scope pos) spos) (λD σ H=>Vi wi own.length js g tt te σ H λv H1=>D.nx (σ.set i (some v)) H1):=by
 refine⟨?_⟩;intro pins s σ H D I h;rw[exec_Assign_Name_used _ _ _ _ hsw];refine zC (Dy (zC ?_));show wpAny _ X.A (do let _<-comprehension (.ListComp elt [⟨target,iter,ifs,0⟩] scope pos) scope X.env _ (newList []) false (eval iter X.env) (some (assign (.Name x pos') X.env))) _ _ s;obtain⟨cl,e,c1,c2⟩:=Jh (env:=X.env) (scope:=scope) λy hy hf=>I.ok.has y.1 (.inl (S.free y hy hf));refine zC (qT (Bv (use:=some (assign (.Name x pos') X.env)) (Q:=λ_ s'=>SP X pins D .next s') rfl hs e S.kind S.loc
  (qT (hi pins s σ H _ I h) λv s1 h1=>qT h1 λitv s2 h2=>?_)) λ_ s' hq=>zP (zP hq))
 obtain⟨it,fp,tn,J,H2,e,I2,T,st2,f2,q2⟩:=h2;subst e;refine Jf (Q:=λv H1=>D.nx (σ.set i (some v)) H1) (RR:=λacc C=>compPost (model X.prog X.w) X.A X.xe (some (assign (.Name x pos') X.env)) (λ_ s'=>SP X pins D .next s') acc C) hc I2 T st2 f2 S.kind S.cell fr S.cap c1 c2 S.vis hg ht he q2 ?_;intro B C H' s' I' q hm n1 n2 n3 n4 n5;obtain⟨m,hn⟩:=hm;show wpAny _ X.A (assign (.Name x pos') X.env (.ref B)) _ _ _;refine wpAny_assign_Name (Nf I' hN hix (.inl hx) (v:=.ref B) rfl (λs2 I2 hsb=>?_) (.inr hx));obtain⟨a,hsb,ha⟩:=hsb;have ne:C≠a:=by
  rcases ha with z|z
  ·rw[z];exact n2
  ·exact Ne.symm (n4 x a z)
 exact⟨m,hn.sameBut hsb ne,λh' hs'=>⟨_,H',I2.turned (λb o hb e=>(hs'.2 b hb).trans e) n1 n2 (.inr n3) n4 n5,q⟩⟩
end
section
variable {X:Cx}{x:Str}{p pos:Pos}{e:Expr}{es:List Expr}{t:TA}
def At (mg:Str->Option Value)(x:Str)(i:Int):Prop:= ∃t,mg x=some (.int i t)
theorem xL {i:Int}(hg:Gl X x)(hm:At X.mg x i)(hd:(x==("__debug__":Str))=false:=by decide):PE X (.Name x pos) (tC (.int i)):=by
 obtain⟨t,hm⟩:=hm;exact OX (v:=.int i) hg hm ⟨t,rfl⟩ hd
theorem Bz {a:Addr}(hg:Gl X x)(hm:X.mg x=some (.ref a))(hd:(x==("__debug__":Str))=false:=by decide):PE X (.Name x pos) (tC (.ref a)):=OX (v:=.ref a) hg hm rfl hd
structure Xi (P:Program)(w:World)(K:PySem.W.Frag)(mg:Str->Option Value)(base:Heap)(CX:JW)(k:Nat)(x:Str)(ps:List Str)(sp:Sp):Prop where
 ex: ∃f fd,CU P w K mg base CX k f fd ps sp/\mg x=some (.ref f)/\PySem.W.keepIn K (.ref f)=true/\Ab K fd ps []
theorem yD {CX:JW}{k n:Nat}{ps:List Str}{sp:Sp}{E:XK}(C:Xi X.prog X.w X.K X.mg X.base CX k x ps sp)(hr:uE n X.A)(hg:Gl X x)(ha:PA X (e::es) t)(hx:BL CX X E)(hk:k<=n:=by first|decide|lia)(hdb:(x==("__debug__":Str))=false:=by decide)
  (he:starEach (e::es) X.env=(false,eval e X.env)::starEach es X.env:=by rfl) (hpl:(backTo pos (starEach es X.env)).any (·.1)=false:=by rfl):PE X (.Call (.Name x p) (e::es) [] pos) (SB sp [] E t):=by
 obtain⟨f,fd,F,hm,kp,hb⟩:=C.ex;exact XG F (hr.mono hk) hg hm kp hb .nil hx ha hdb he hpl
theorem Ew {CX:JW}{k n:Nat}{ps:List Str}{sp:Sp}{E:XK}(C:Xi X.prog X.w X.K X.mg X.base CX k x ps sp)(hr:uE n X.A)(hg:Gl X x)(hx:BL CX X E)(hk:k<=n:=by first|decide|lia)(hdb:(x==("__debug__":Str))=false:=by decide):
  PE X (.Call (.Name x p) [] [] pos) (SB sp [] E Rh):=by
 obtain⟨f,fd,F,hm,kp,hb⟩:=C.ex;exact VH F (hr.mono hk) hg hm kp hb .nil hx hdb
inductive KC:List Expr->List V->Prop where
 |nil:KC [] []
 |int {i j pos es vs} (r:KC es vs):KC (.Constant (.int i) j pos::es) (.int i::vs)
 |str {x j pos es vs} (r:KC es vs):KC (.Constant (.str x) j pos::es) (.str x::vs)
theorem AD: ∀{es:List Expr} {vs:List V},KC es vs->PA X es (λ_ H Q=>Q vs H)
 |_,_,.nil=>⟨λpos pins s σ H Q I h=>zG pos pins s σ H Q I h⟩
 |_,_,.int r=>⟨λpos pins s σ H Q I h=>zA zR (AD r) (by rfl) pos pins s σ H Q I h⟩
 |_,_,.str r=>⟨λpos pins s σ H Q I h=>zA jX (AD r) (by rfl) pos pins s σ H Q I h⟩
def zCt (K:PySem.W.Frag):List V->Hp->VK->Prop:=λxs H Q=>
 (∃x n t b,xs=[x,.ty n]/\JT K H x t/\PySem.W.kitOne K t (.type n)=some b/\Q (.bl b) H)\/ ∃x C t b,xs=[x,.ref C]/\JT K H x t/\PySem.W.kitOne K t (.ref C)=some b/\Q (.bl b) H
theorem UJ (K:PySem.W.Frag)(hK:X.K=K):EM X (.builtin "isinstance") (zCt K):=by
 subst hK;intro pins s σ H xs us Q I r h
 rcases h with⟨x,n,t,b,rfl,ty,e,q⟩|⟨x,C,t,b,rfl,ty,e,q⟩
 ·obtain⟨u,w',rfl,ru,rw'⟩:=KF r;cases rw';exact NP I ru ty e λtk=>⟨.bl b,H,I.tok tk,rfl,q⟩
 ·obtain⟨u,w',rfl,ru,rw'⟩:=KF r;cases rw';exact NP I ru ty e λtk=>⟨.bl b,H,I.tok tk,rfl,q⟩
theorem HW:EM X (.builtin "isinstance") (zCt X.K):=UJ X.K rfl
theorem Yi (K:PySem.W.Frag)(hK:X.K=K):IxR X (ZK K):=hK▸Aa
theorem II {v:Value}{o:Option Int}(p:IsPart v o): ∃l:Option (Int×Tok),v=partValue l/\l.map (·.1)=o:=by
 cases p with
 |none=>exact⟨none,rfl,rfl⟩
 |int i t=>exact⟨some (i,t),rfl,rfl⟩
inductive zCm (x:V) (lo:Option Int) (hi:Option Int) (H:Hp) (Q:VK):Prop
 |mk (z:_) (h0:x=.str z) (h1:z.length<=sizeLine) (h2:Q (.str (Txt.slice z lo hi)) H):zCm x lo hi H Q
theorem Rt:SlR X zCm:=by
 intro pins s σ H x v vl vu lo hi sl Q I rx hs pl pu h;obtain⟨z,rfl,hz,q⟩:=h;obtain⟨t,rfl⟩:=(show ∃t,v=Value.str z t from rx);obtain⟨l,rfl,rfl⟩:=II pl;obtain⟨u,rfl,rfl⟩:=II pu;refine⟨"str",_,F.slot_str_getitem.lookup,AW s z t,wpAny_getItem_str_slice (l:=l) (u:=u) (st:=none) hs rfl ?_⟩;unfold sliceMade Txt.slice at *
 split
 ·rename_i c;have c':((1:Int)==1&&(Builtin.Str.strSliceIndices (l.map (·.1)) (u.map (·.1)) 1 z.length).length ==z.length)=true:=c;rw[zT c']at q;exact⟨.str z,H,I,⟨t,rfl⟩,q⟩
 ·rename_i c;have c': ¬((1:Int)==1&&(Builtin.Str.strSliceIndices (l.map (·.1)) (u.map (·.1)) 1 z.length).length ==z.length)=true:=c;have le:=Txt.slice_le z (l.map (·.1)) (u.map (·.1));unfold Txt.slice at le;rw[zI c']at q le;exact⟨yT le hz,.str _,H,I.tok _,⟨_,rfl⟩,q⟩
theorem LA: ∀{ys:List Str} {us:List Value},jS (ys.map V.str) us->StrsAre us ys
 |[],_,.nil=>.nil
 |y::ys,_,.cons r t=>by
  obtain⟨k,rfl⟩:=(show ∃t,_=Value.str y t from r);exact .cons y k (LA t)
inductive Vu (K:PySem.W.Frag) (x:V) (vs:List V) (H:Hp) (Q:VK):Prop
 |mk (z l ys:_) (h0:x=.str z) (h1:vs=[.ref l]) (h2:Hb K H l (ys.map V.str)) (h3:(ys.map (·.length)).sum +ys.length*z.length<=16777216) (h4:Q (.str (Txt.join z ys)) H):Vu K x vs H Q
theorem JF:US X "str.join" (Vu X.K):=by
 intro pins s σ H x vs v us Q I rx rv h;obtain⟨z,l,ys,rfl,rfl,hl,hz,q⟩:=h;obtain⟨t,rfl⟩:=(show ∃t,v=Value.str z t from rx);obtain⟨u,rfl,ru⟩:=rv.one;cases ru;obtain⟨its,r,pl,hsz⟩:=I.list hl;exact join_list pl.isList (by simpa using LA r) hz λt' k=>⟨.str _,H,I.tok k,⟨t',rfl⟩,q⟩
def PB (xs:List V)(y:V)(j:Nat):Prop:=(∃z,xs[j]? =some z/\KZ z y=true)/\ ∀(m:Nat) (z:V),m<j->xs[m]? =some z->KZ z y=false
inductive Rz (S:Hp->Addr->List V->Prop) (x:V) (vs:List V) (H:Hp) (Q:VK):Prop
 |mk (l xs y j:_) (h0:x=.ref l) (h1:vs=[y]) (h2:S H l xs) (h3:CO y=true) (h4:xs.all CO=true) (h5:PB xs y j) (h6:Q (.int (j:Nat)) H):Rz S x vs H Q
theorem KY {xs:List V}{its:List Value}{y:V}{j:Nat}(r:jS xs its)(fx:xs.all CO=true)(f:PB xs y j):
  ∃hj:j<its.length,Pr y its[j]=true/\ ∀m (hm:m<its.length),m<j->Pr y its[m]=false:=by
 obtain⟨⟨z,hz,ez⟩,hno⟩:=f;have fz: ∀{m:Nat} {z:V},xs[m]? =some z->CO z=true:=fun{m z} h=>List.all_eq_true.mp fx z (zX h);obtain⟨u,hu,ru⟩:=r.get hz;obtain⟨hj,eu⟩:=List.getElem?_eq_some_iff.mp hu;refine⟨hj,?_,λm hm hlt=>?_⟩
 ·rw[eu,Pq ru (fz hz)];exact ez
 ·have hm':m<xs.length:=by rw[r.length];exact hm
  have hx:xs[m]? =some xs[m]:=zE hm';obtain⟨u',hu',ru'⟩:=r.get hx;obtain⟨_,eu'⟩:=List.getElem?_eq_some_iff.mp hu';rw[eu',Pq ru' (fz hx)];exact hno m _ hlt hx
theorem Kr:US X "list.index" (Rz (Hb X.K)):=by
 intro pins s σ H x vs v us Q I rx rv h;obtain⟨l,xs,y,j,rfl,rfl,hl,fy,fx,fa,q⟩:=h;cases rx;obtain⟨u,rfl,ru⟩:=rv.one;obtain⟨its,r,pl,hsz⟩:=I.list hl;obtain⟨hj,h1,h2⟩:=KY r fx fa;obtain⟨⟨cls,dd,data,sl⟩,n,ho,hc,hd,hdat⟩:=pl;simp only at hc hd hdat;subst hc hd hdat;refine wW F.slot_list_index ⟨_,ho,rfl⟩ F.entry_list_index (F.args_list_index_2 _ _)
  (SeqAt.list_indexAt l its.toArray n _ sl u (Pr y) j (by simpa using hj) ?_ (by simpa using h1) (by simpa using h2)) ⟨ho,λw hw=>EG ru fy r fx w (by simpa using hw),?_⟩
 ·have:=FL;have z:=r.length;lia
 ·exact⟨.int j,H,I.tok _,⟨_,rfl⟩,q⟩
theorem MK (l:Addr)(items:Array Value)(n:Nat)(dd:Option Addr)(sl:Array (Option Value))(x:Value)(e:Value->Bool)(j:Nat)(hj:j<items.size)
  (hit:e items[j]=true) (hno: ∀m (hm:m<items.size),m<j->e items[m]=false):
  Meets (Builtin.«tuple.index» ⟨[.ref l,x],[]⟩)
   (λA R s=>s.heap.get? l=some {cls:=.type "tuple",dict:=dd,data:=.seq items n,slots:=sl}/\(∀y,y∈items->SeqAt.EqAt A.in1 s y x (e y))/\R (.ok (.ret (.int j s.toks))) {s with toks:=s.toks+1}):=by
 intro prog w A R s h;obtain⟨hp,g,d,tk,os⟩:=s;obtain⟨hl,he,h⟩:=h;unfold Builtin.«tuple.index»;simp only[Std.Legacy.Range.forIn_eq_forIn_range']
 wp_walk using Bx hl,wpAny_forIn_list _ (λrest b s'=>b.1=none/\s'=⟨hp,g,d,tk,os⟩/\ ∃i,i<=j/\rest=List.range' i (items.size-i)) _
 case turn=>
  rintro i rest b s' ⟨hb,rfl,i',hi',hr⟩;have hlt:i'<items.size:=by lia
  obtain⟨q,hq⟩: ∃q,items.size-i'=q+1:=⟨items.size-i'-1,by lia⟩;rw[hq,List.range'_succ]at hr;injection hr with hi hrest
  subst hi;rw[Bm hlt];refine zC (he _ (Array.getElem_mem hlt) prog w _ _ ?_)
  by_cases hij:i=j
  ·subst hij;rw[hit]
   wp_walk
   exact h
  ·rw[hno i hlt (by lia)]
   wp_walk
   exact⟨rfl,rfl,i+1,by lia,by rw[hrest,show items.size-(i+1)=q by lia]⟩
 case fin=>
  rintro b s' ⟨_,_,i',hi',hr⟩;exfalso;have:=jB List.length hr;rw[List.length_range']at this
  simp at this
  lia
 exact⟨rfl,rfl,0,yU _,by simp[Std.Legacy.Range.size]⟩
theorem Uj:US X "tuple.index" (Rz (Gm X.K)):=by
 intro pins s σ H x vs v us Q I rx rv h;obtain⟨l,xs,y,j,rfl,rfl,hl,fy,fx,fa,q⟩:=h;cases rx;obtain⟨u,rfl,ru⟩:=rv.one;obtain⟨its,r,pl,hsz⟩:=I.tuple hl;obtain⟨hj,h1,h2⟩:=KY r fx fa;obtain⟨⟨cls,dd,data,sl⟩,ho,hc,n,hd⟩:=pl;simp only at hc hd;subst hc hd;refine wW F.slot_tuple_index ⟨_,ho,rfl⟩ F.entry_tuple_index (F.args_tuple_index_2 _ _)
  (MK l its.toArray n dd sl u (Pr y) j (by simpa using hj) (by simpa using h1) (by simpa using h2)) ⟨ho,λw hw=>EG ru fy r fx w (by simpa using hw),?_⟩
 exact⟨.int j,H,I.tok _,⟨_,rfl⟩,q⟩
end
theorem kA:bootBuiltins "len"=some (.builtin "len"):=PySem.boot_len
theorem vG:bootBuiltins "isinstance"=some (.builtin "isinstance"):=by decide+kernel
theorem Dt:bootBuiltins "int"=some (.type "int"):=by decide+kernel
theorem To:bootBuiltins "bool"=some (.type "bool"):=by decide+kernel
theorem MB:bootBuiltins "str"=some (.type "str"):=by decide+kernel
theorem JP:bootBuiltins "list"=some (.type "list"):=by decide+kernel
theorem HX:bootBuiltins "tuple"=some (.type "tuple"):=by decide+kernel
theorem MR:bootBuiltins "ValueError"=some (.type "ValueError"):=by decide+kernel
theorem QU:bootBuiltins "reversed"=some (.type "reversed"):=by decide+kernel
theorem zAy:bootBuiltins "sum"=some (.builtin "sum"):=by decide+kernel
theorem zAz:bootBuiltins "min"=some (.builtin "min"):=by decide+kernel
theorem small {n:Nat}(h:n<=1000):n<=sizeLine:=vC (wI h)
theorem sm0:0<=sizeLine:=small (by decide)
theorem sm1:1<=sizeLine:=small (by decide)
theorem sm2:2<=sizeLine:=small (by decide)
theorem sm3:3<=sizeLine:=small (by decide)
theorem sm4:4<=sizeLine:=small (by decide)
theorem sm5:5<=sizeLine:=small (by decide)
theorem sm6:6<=sizeLine:=small (by decide)
theorem sm11:11<=sizeLine:=small (by decide)
theorem sm13:13<=sizeLine:=small (by decide)
theorem sm15:15<=sizeLine:=small (by decide)
theorem sm18:18<=sizeLine:=small (by decide)
theorem zN {H:Hp}{p:Addr}(h:H p=none)(o:HO):kS H (upd H p o):=λb u q=>by rw[zV (zM q h)];exact q
def Zk (K:PySem.W.Frag)(H:Hp)(a:Addr)(ns:List Int):Prop:=
 (∃o,H a=some (.frz o (.lst (ns.map V.int))))\/
  ∃(o:Obj) (its:Array Value) (n:Nat),K.lookup a=some o/\o.cls=.type "list"/\o.dict=none/\o.data=.seq its n/\its.size<=sizeLine/\jS (ns.map V.int) its.toList
theorem Zk.sq {K:PySem.W.Frag}{H:Hp}{a:Addr}{ns:List Int}(h:Zk K H a ns):Hb K H a (ns.map V.int):=by
 rcases h with h|h
 ·exact .inl (.inr h)
 ·exact .inr h
theorem Zk.of {K:PySem.W.Frag}{H:Hp}{a:Addr}{ns:List Int}(hO:YG H)(h:Hb K H a (ns.map V.int)):Zk K H a ns:=by
 rcases h with(h|h)|h
 ·rcases hO a with z|⟨o,xs,z⟩
  ·rw[h]at z;cases z
  ·rw[h]at z;cases z
 ·exact .inl h
 ·exact .inr h
def kX (st:Addr)(H H':Hp):Prop:= ∀b o,b≠st->H b=some o->H' b=some o
theorem kX.refl (st:Addr)(H:Hp):kX st H H:=λ_ _ _ e=>e
theorem kX.trans {st:Addr}{H H1 H2:Hp}(a:kX st H H1)(b:kX st H1 H2):kX st H H2:=λc o n e=>b c o n (a c o n e)
theorem kX.same {st:Addr}{H H1:Hp}(a:kS H H1):kX st H H1:=λc o _ e=>a c o e
theorem kX.upd {st:Addr}{H:Hp}{o:HO}:kX st H (upd H st o):=λc u n e=>by rw[zV n];exact e
theorem kX.new {st p:Addr}{H:Hp}(o:HO)(h:H p=none):kX st H (L2.upd H p o):=kX.same (zN h o)
def zGi (K:PySem.W.Frag)(H:Hp)(st:Addr):Prop:= ∃a ns k c,H st=some (.lst [.ref a,.int k,.int c])/\Zk K H a ns/\ns.length<=63/\0<=k/\0<=c
structure Drawn (K:PySem.W.Frag)(st:Addr)(H H':Hp):Prop where
 draw:zGi K H' st
 keep:kX st H H'
inductive Qa (K:PySem.W.Frag) (vs:List V) (H:Hp) (Q:VK) (E:XK):Prop
 |mk (a:Addr) (ns:List Int) (h0:vs=[.ref a]) (h1:Zk K H a ns) (h2:ns.length<=63) (h3: ∀H',Q (.bl true) H'):Qa K vs H Q E
theorem Ts {ns:List Int}{k:Int}(h0:0<=k)(h:k<(ns.length:Int)): ∃v:Int,FO (ns.map V.int) k=some (.int v):=by
 have hk:k.toNat<ns.length:=by lia
 have q:FO (ns.map V.int) ((k.toNat:Nat):Int)=some (.int ns[k.toNat]):=vB (by rw[zS,zE hk]<;>rfl);rw[show((k.toNat:Nat):Int)=k by lia]at q;exact⟨_,q⟩
def Oq (n:Nat)(fs:St)(Pv:Nat->List V->Hp->Prop)(i m:Nat)(σ:St)(H:Hp):Prop:=i<=n/\m=n-i/\(∃v,σ=v::fs)/\ ∃ys,Pv i ys H
theorem Oq.next {n:Nat}{fs:St}{Pv:Nat->List V->Hp->Prop}{i:Nat}{v:Option V}{H:Hp}{ys:List V}(hi:i<n)(h:Pv (i+1) ys H): ∃m',m'<n-i/\Oq n fs Pv (i+1) m' (v::fs) H:=
 ⟨n-(i+1),by lia,by lia,rfl,⟨v,rfl⟩,ys,h⟩
theorem WR {lo:Int}{n:Nat}{fs:St}{tt:TT}{te:TE}{R:Hp->Prop}{p:Addr}{H0:Hp}(Pv:Nat->List V->Hp->Prop)(h0:Pv 0 [] H0)
  (hs: ∀i ys H,i<n->Pv i ys H->tt (some (.int (lo+(i:Nat)))::fs) H λb H4=>
   if b=true then te (some (.int (lo+(i:Nat)))::fs) H4 λv H5=> ∃ys,H5 p=some (.lst ys)/\ys.length<sizeLine/\ ∃m',m'<n-i/\Oq n fs Pv (i+1) m' (some (.int (lo+(i:Nat)))::fs) (upd H5 p (.lst (ys++[v])))
   else ∃m',m'<n-i/\Oq n fs Pv (i+1) m' (some (.int (lo+(i:Nat)))::fs) H4)
  (hd: ∀ys H,Pv n ys H->R H):MI (Itr lo n) p (none::fs) H0 (NW 0) tt te R:=by
 refine⟨Oq n fs Pv,⟨n,yU _,rfl,⟨_,rfl⟩,[],h0⟩,λi m σ' H' w=>?_⟩;obtain⟨hi,rfl,⟨v,rfl⟩,ys,hp⟩:=w
 by_cases hlt:i<n
 ·refine .inr ⟨hlt,λx H2 y=>?_⟩;obtain⟨rfl,rfl⟩:=y;exact hs i ys _ hlt hp
 ·have:i=n:=by lia
  subst this;exact .inl ⟨zW _,hd ys H' hp⟩
theorem Pj {K:PySem.W.Frag}{t:Value}{n:String}{b:Bool}(h:PySem.W.subIn K t (.type n)=some b)(h1:(t==Value.type n)=false:=by decide)(h2:PySem.W.kitMeta n=true:=by decide+kernel):PySem.W.kitOne K t (.type n)=some b:=by
 unfold PySem.W.kitOne PySem.W.kitCls;rw[h1];simp only[wN,Bw,h2,BB];exact h
theorem DE {K:PySem.W.Frag}{t:Value}(h:(t==t)=true:=by decide):PySem.W.kitOne K t t=some true:=by
 unfold PySem.W.kitOne;rw[zT h]
theorem Rj {K:PySem.W.Frag}{a:Addr}{its:Array Value}{n:Nat}{sl:Array (Option Value)}{dd:Option Addr}{xs:List V}(h:K.lookup a=some ⟨.type "tuple",dd,.seq its n,sl⟩)(hz:its.size<=sizeLine)(r:jS xs its.toList)(H:Hp):Gm K H a xs:=
 .inr ⟨_,its,n,h,rfl,rfl,hz,r⟩
end L2
namespace L2
open PySem PySem.Spec PySem.W PyProof.Rows
section
variable {prog:Program}{w:World}{A:Around}{K:Frag}{E:Value->Shared->Prop}{h:Heap}{g:Array GenState}{d:PySem.Drawn}{t:Nat}{os:OsState}{R:Result->Shared->Prop}
variable {nm q:Str}{C N f:Addr}{bs bm bmB:List Value}{hdct:Bool}{sn:List Str}{sub:List Value}{ab:Bool}{col:Option Bool}{dd:Option Addr}{k0 k1 k2 k3 k5:Option Value}{B newId initId:String}
abbrev Sh (C tp:Addr):Obj:={cls:=.ref C,data:=.fields #[.ref tp,.none,.none,.none,.bool false,.none]}
abbrev Dx (h:Heap)(C:Addr)(rest:List Value):Heap:=(h.push {cls:=.type "tuple",data:=.seq rest.toArray}).push (Sh C h.objs.size)
theorem WG (X:K.In h)(hC:h.get? C=some (excClassObj nm q C N bs bm hdct sn sub ab col dd k0 k1 k2 k3 k5 newId))(F:ExcBaseFacts B newId initId bmB)(T:OwnTail h bmB bm)
  (hi:findIn K (.ref C) "__init__"=some (some (.ref f))) (hf:typeIn K (.ref f)=some (.type "function")) {rest:List Value} (hrest:rest.length<=sizeLine)
  (hq:codeAny (model prog w) (A.under (.builtin "type.__call__" ⟨.ref C::rest,[]⟩)) (.call (.ref f) ⟨.ref (h.objs.size+1)::rest,[]⟩) (InitBack (h.objs.size+1) R) ⟨Dx h C rest,g,d,t,os⟩):
  codeAny (model prog w) A (.call (.ref C) ⟨rest,[]⟩) R ⟨h,g,d,t,os⟩:=by
 have f1:=tc_lookup;have f2:=tc_bind (.ref C);have hT:(⟨h,g,d,t,os⟩:Shared).TypeIs (.ref C) "type":=⟨_,hC,rfl⟩;refine codeAny_of_tree ?_;show wpAny _ _ (callAny (.ref C) _) _ _ _
 repeat (any_goals (first|assumption|with_reducible refine CY hC ?_ |wp_step))
 refine⟨rfl,?_⟩;refine codeAny_call_builtin_at (Code.quiet_builtin _ (by decide+kernel)) entry_typeCall (wpAny_check_type_call_sub hC ?_)
 repeat (first|with_reducible refine CY hC ?_ |with_reducible refine wpAny_madeBy_exc hC ?_ |wp_step)
 refine codeAny_call_builtin_code (Code.quiet_builtin _ F.quiet) (wpAny_check_new_subT F T hC ?_);refine codeAny_exc_new_subT F T hC ?_ hrest;show wpAny _ _ _ _ _ _;have k: ∀b o,h.get? b=some o->(Dx h C rest).get? b=some o:=λb o e=>zJ _ (zJ _ e);have hx:(Dx h C rest).get? (h.objs.size+1)=some (Sh C h.objs.size):=by heap_get
 have t1:Looks (model prog w) (Dx h C rest) (typeOf (.ref (h.objs.size+1))) (.ref C):=(Looks.ld hx).andThen .now;have hcC:(Value.ref C::bm).contains (.ref C)=true:=by simp
 have i1:=(Da (M:=model prog w) X hi).keeps k;have b1:=(bind_fn (M:=model prog w) X (.ref (h.objs.size+1)) hf).keeps k;have s1:Looks (model prog w) (Dx h C rest) (isSubtype (.ref C) (.ref C)) true:=by
  intro A' Q' E' s' kk hq';obtain⟨h',g',d',t',os'⟩:=s';refine wpAny_isSubtype_exc (kk _ _ (k _ _ hC)) ?_;rw[hcC];exact hq'
 have n1:Looks (model prog w) (Dx h C rest) (isInstance (.ref (h.objs.size+1)) (.ref C)) true:=t1.andThen s1;refine zC (n1.at ?_);have c1:Looks (model prog w) (Dx h C rest) (specialOf (.ref (h.objs.size+1)) "__init__") (some (.ref f)):=t1.andThen i1;unfold callSpecial?
 repeat (first|with_reducible refine BN ?_ |lk)
 refine Bi hq λr s' z=>?_
 rcases r with e|(v|_|_|_)<;>first|exact z|exact z.elim|skip
 obtain⟨rfl,z⟩:=z;exact zP (zP z)
structure EL (K:Frag)(C:Addr):Prop where
 cd: ∃cd,clsIn K C=some cd/\cd.hasDict=true/\ ∀self,refuseLoop self "__setattr__" cd.mro=pure ()
 obj:mroIn K C (.type "object")=some true
 base:mroIn K C (.type "BaseException")=some true
 sa:findIn K (.ref C) "__setattr__"=some (some (.builtin "object.__setattr__"))
 ga:findIn K (.ref C) "__getattribute__"=some (some (.builtin "BaseException.__getattribute__"))
 noHook:findIn K (.ref C) "__getattr__"=some none
section
variable {s:Shared}{x:Addr}{ox:Obj}{od:Option Obj}{name:Str}{v:Value}{expr:Bool}{Q:Value->Shared->Prop}
theorem QM (X:K.In s.heap)(I:InstAt s.heap x ox C od)(Ec:EL K C)(hf:findObj K C od name=some (.value v))(hh:handedIn v=true)(hq:Q v {s with toks:=s.toks+1}):
  wpAny (model prog w) A (getAttr (.ref x) name expr) Q E s:=by
 obtain⟨h,g,d,t,os⟩:=s;have L0:=I.type (M:=model prog w);have L1:=Da (M:=model prog w) X Ec.ga;have L2':=Da (M:=model prog w) X Ec.noHook;have L3:=looks_find (M:=model prog w) X I hf;have Lb:Looks (model prog w) h (isInstance (.ref x) (.type "BaseException")) true:=L0.andThen (looks_mroIn X Ec.base);have f3:=F.excAttr_ValueError.ga.bind (.ref x);have hx0:(expr&&onTheHeap (Value.builtin "BaseException.__getattribute__"))=false:=by cases expr<;>rfl
 have hk:builtinKind "BaseException.__getattribute__"=some .slot:=by decide+kernel
 have hsplit:splitId "BaseException.__getattribute__"=some ("BaseException","__getattribute__"):=by decide+kernel
 unfold getAttr getAttrBy;refine zC (wpAny_mkText (qK (zC (L0.at (zC (L1.at ?_))))));show wpAny _ _ (getAttrByItsOwn _ _ _ _ _ _) _ _ _;unfold getAttrByItsOwn;refine zC (L2'.at (zC (vH (qK ?_))));unfold callGetattribute;rw[hx0];unfold boundAndCalled;show wpAny _ _ (bindSpecial _ _>>=_) _ _ _;rw[f3];refine zC (zP (BN (DK F.excAttr_ValueError.ga.plain F.entry_bexc_ga (@check_slot (model prog w) _ _ _ "BaseException.__getattribute__" "BaseException" "__getattribute__" (.ref x) [.str name t] [] _ hk hsplit Lb (F.args_bexc_ga _ _) ?_))));refine zC (zP (zC (zP (zC (L0.at (zC (L3.at ?_)))))));refine zP ?_;show wpAny _ _ (handedOut v) _ _ _;rw[handedOut_of hh];exact zP hq
theorem Tf {tk:Tok}{R:Result->Shared->Prop}(X:K.In s.heap)(I:InstAt s.heap x ox C od)(Ec:EL K C)(ha:findIn K (.ref C) name=some none)
  (hq:wpAny (model prog w) A.in1 (PySem.Builtin.ObjectAttr.storeInOwnDict (.ref x) (.ref C) (.str name tk) name v false)
   (λfin s'=>match fin with| .done f=>R (.ok f) s'| .again c'=>c'.quiet=true/\codeAny (model prog w) A c' R s') (λe s'=>R (.error e) s') s):
  codeAny (model prog w) A (.call (.builtin "object.__setattr__") ⟨[.ref x,.str name tk,v],[]⟩) R s:=by
 have SF:=PySem.F.store_object;obtain⟨cd,hc,hd,hp⟩:=Ec.cd;have sub:Looks (model prog w) s.heap (isInstance (.ref x) (.type "object")) true:=I.type.andThen (looks_mroIn X Ec.obj);refine DK SF.slot.plain SF.entry (@check_slot (model prog w) _ _ s "object.__setattr__" "object" "__setattr__" (.ref x) [.str name tk,v] [] _ SF.kind SF.split sub (SF.args (.ref x) (.str name tk) v) ?_);have hm:Looks (model prog w) s.heap (mroOf (.ref C)) cd.mro:=(looks_clsIn X hc).andThen .now;rw[osa_eq,refuse_eq];refine zC (zC (I.type.here (zC (hm.here ?_))));rw[hp];exact zP (zC (I.type.here (zC ((Da X ha).here (zC (zP hq))))))
theorem QK {vs:Array Value}{Qu:Unit->Shared->Prop}(X:K.In s.heap)(hx:s.heap.get? x=some ox)(hcl:ox.cls=.ref C)(hdi:ox.dict=none)(hda:ox.data=.fields vs)(Ec:EL K C)(ha:findIn K (.ref C) name=some none)
  (hq: ∀h',h'.Ns1 s.heap.objs.size (λy=>if y=name then some v else none)->h'.get? x=some {ox with dict:=some s.heap.objs.size}->(∀b o,b≠x->s.heap.get? b=some o->h'.get? b=some o)->Qu () {s with heap:=h',toks:=s.toks+2}):
  wpAny (model prog w) A (setAttr (.ref x) name v) Qu E s:=by
 have I:InstAt s.heap x ox C none:=⟨hx,hcl,by unfold notCls;rw[hda],by rw[hdi];trivial⟩;obtain⟨cd,hc,hd,hp⟩:=id Ec.cd;refine set_plain X I Ec.sa (Tf (s:={s with toks:=s.toks+1}) X I Ec ha ?_);have hxlt:=yG hx;clear I;obtain⟨oc,odi,oda,osl⟩:=ox;dsimp only at hcl hdi hda;subst hcl hdi hda;refine zC (zP (zC (zC (EN hx (zC (Looks.here (s:={s with toks:=s.toks+1}) (looks_clsIn X hc) ?_))))));rw[hd];show wpAny _ _ (alloc {cls:=Value.type "dict",data:=Data.dict #[]}>>=_) _ _ _;refine zC (wpAny_alloc (zC ?_));have hx1:=zJ (h:=s.heap) ({cls:=Value.type "dict",data:=Data.dict #[]}:Obj) hx;refine wpAny_update hx1 (zP ?_);have ne:s.heap.objs.size≠x:=qP hxlt;have hx2:=jR (λo:Obj=>{o with dict:=some s.heap.objs.size}) hx1 rfl;have hd2:((s.heap.push ({cls:=Value.type "dict",data:=Data.dict #[]}:Obj)).update x λo=>{o with dict:=some s.heap.objs.size}).Ns1 s.heap.objs.size (λ_=>none):=by
  refine⟨_,#[],_,(xH _ _ (Ne.symm ne)).trans (yL _ rfl),rfl,λe he=>by simp at he,List.Pairwise.nil,λn=>rfl⟩
 refine zC (zP (zC ?_));refine wpAny_nsSet1 (s:={s with heap:=(s.heap.push ({cls:=Value.type "dict",data:=Data.dict #[]}:Obj)).update x λo=>{o with dict:=some s.heap.objs.size},toks:=s.toks+1}) hd2 λh' hn2 hs2=>?_;have w0:PySem.Within (λ_:Str=>(none:Option Value)) []:=λn hn=>by first|cases hn|exact absurd rfl hn|simp at hn
 obtain⟨oD,esD,epD,hoD,hdD,hcD⟩:=hn2.count (Fx name v w0);refine zC (Gp hoD (by rw[hdD];exact Gq (yT hcD (show 1<=sizeLine+1 by decide))) ?_);refine zP (hq _ hn2 ((hs2.2 _ (Ne.symm ne)).trans hx2) λb o hb e=>?_);have hbs:b≠s.heap.objs.size:=xM (yG e);exact(hs2.2 _ hbs).trans ((xH _ _ (Ne.symm hb)).trans (zJ _ e))
theorem Pp {vs:Array Value}{dx:Addr}{mA:Str->Option Value}{ns:List Str}{Qu:Unit->Shared->Prop}(X:K.In s.heap)(hx:s.heap.get? x=some ox)(hcl:ox.cls=.ref C)(hdi:ox.dict=some dx)(hda:ox.data=.fields vs)(hn:s.heap.Ns1 dx mA)
  (hw:PySem.Within mA ns) (hsz:ns.length<sizeLine) (Ec:EL K C) (ha:findIn K (.ref C) name=some none)
  (hq: ∀h',h'.Ns1 dx (λy=>if y=name then some v else mA y)->Heap.SameBut dx s.heap h'->Qu () {s with heap:=h',toks:=s.toks+2}):
  wpAny (model prog w) A (setAttr (.ref x) name v) Qu E s:=by
 obtain⟨od,hod,_⟩:=Ge hn;have I:InstAt s.heap x ox C (some od):=⟨hx,hcl,by unfold notCls;rw[hda],by rw[hdi];exact hod⟩;obtain⟨cd,hc,hd,hp⟩:=id Ec.cd;refine set_plain X I Ec.sa (Tf (s:={s with toks:=s.toks+1}) X I Ec ha ?_);clear I;obtain⟨oc,odi,oda,osl⟩:=ox;dsimp only at hcl hdi hda;subst hcl hdi hda;refine zC (zP (zC (zC (EN hx (zC (Looks.here (s:={s with toks:=s.toks+1}) (looks_clsIn X hc) ?_))))));rw[hd];refine zP (a:=some dx) (zC (zP (zC ?_)));refine wpAny_nsSet1 (s:={s with toks:=s.toks+1}) hn λh' hn2 hs2=>?_;obtain⟨oD,esD,epD,hoD,hdD,hcD⟩:=hn2.count (Fx name v hw);refine zC (Gp hoD (by rw[hdD];exact Gq (yT hcD (by rw[zK];lia))) ?_);exact zP (hq _ hn2 hs2)
end
end
end L2
namespace L2
open PySem PySem.Spec PyProof.Rows
def Jl (x C:Addr)(od:Option Addr):HO:=.ext λh=> ∃o vs,h.get? x=some o/\o.cls=.ref C/\o.dict=od/\o.data=.fields vs/\6<=vs.size
def KA (x C:Addr)(od:Option Addr):HO:=.ext λh=> ∃o vs,h.get? x=some o/\o.cls=.ref C/\o.dict=od/\o.data=.fields vs/\6<=vs.size/\vs[1]? =some .none
def MD (dx:Addr)(fs:List (Str×V)):HO:=.ext λh=> ∃mA,h.Ns1 dx mA/\(∀f,EZ (fs.lookup f) (mA f))/\PySem.Within mA (fs.map (·.1))
section
variable {P:Program}{w:World}{H:Hp}{h:Heap}{x C dx:Addr}{od:Option Addr}{fs:List (Str×V)}
theorem Jl.ok {o:Obj}{vs:Array Value}(e:h.get? x=some o)(hc:o.cls=.ref C)(hd:o.dict=od)(hf:o.data=.fields vs)(hz:6<=vs.size):wT P w H h x (Jl x C od):=
 ⟨⟨o,vs,e,hc,hd,hf,hz⟩,⟨o,e⟩,λh1 h2 ⟨o,vs,e,r⟩ k=>⟨o,vs,k o e,r⟩⟩
theorem KA.ok {o:Obj}{vs:Array Value}(e:h.get? x=some o)(hc:o.cls=.ref C)(hd:o.dict=od)(hf:o.data=.fields vs)(hz:6<=vs.size)(h1:vs[1]? =some .none):wT P w H h x (KA x C od):=
 ⟨⟨o,vs,e,hc,hd,hf,hz,h1⟩,⟨o,e⟩,λg1 g2 ⟨o,vs,e,r⟩ k=>⟨o,vs,k o e,r⟩⟩
theorem KA.get (ok:Ix P w H h)(e:H x=some (KA x C od)): ∃o vs,h.get? x=some o/\o.cls=.ref C/\o.dict=od/\o.data=.fields vs/\6<=vs.size/\vs[1]? =some .none:=(ok x _ e).1
theorem Jl.get (ok:Ix P w H h)(e:H x=some (Jl x C od)): ∃o vs,h.get? x=some o/\o.cls=.ref C/\o.dict=od/\o.data=.fields vs/\6<=vs.size:=(ok x _ e).1
theorem MD.ok {mA:Str->Option Value}(n:h.Ns1 dx mA)(r: ∀f,EZ (fs.lookup f) (mA f))(wi:PySem.Within mA (fs.map (·.1))):wT P w H h dx (MD dx fs):=by
 obtain⟨o,es,ep,e,q⟩:=id n;exact⟨⟨mA,n,r,wi⟩,⟨o,e⟩,λh1 h2 ⟨mA,n,r⟩ k=>⟨mA,n.at k,r⟩⟩
theorem MD.get (ok:Ix P w H h)(e:H dx=some (MD dx fs)): ∃mA,h.Ns1 dx mA/\(∀f,EZ (fs.lookup f) (mA f))/\PySem.Within mA (fs.map (·.1)):=(ok dx _ e).1
end
inductive Vg (K:PySem.W.Frag) (f:Str) (y:V) (H1:Hp) (Q:VK):Prop
 |mk (a C d fs v:_) (h0:y=.ref a) (h1:H1 a=some (Jl a C (some d))) (h2:H1 d=some (MD d fs)) (h3:EL K C) (h4:uF K C f) (h5:fs.lookup f=some v) (h6:Q v H1):Vg K f y H1 Q
def YO (K:PySem.W.Frag)(ta:TE)(f:Str):TE:=λσ H Q=>ta σ H λy H1=>Vg K f y H1 Q
def zCg (K:PySem.W.Frag)(ta tv:TE)(f:Str):TS:=λD σ H=>tv σ H λy H1=>ta σ H1 λu H2=> ∃a C od,u=.ref a/\H2 a=some (KA a C od)/\EL K C/\uF K C f/\
 ((od=none/\ ∀d,H2 d=none->D.nx σ (upd (upd H2 d (MD d [(f,y)])) a (KA a C (some d))))\/ ∃d fs,od=some d/\H2 d=some (MD d fs)/\fs.length<1000/\D.nx σ (upd H2 d (MD d (GN f y fs))))
section
variable {X:Cx}{o e value:Expr}{f:Str}{pos pos':Pos}{ta tv:TE}
theorem XF (he:PE X e ta)(hb:attributeBase e f X.env (eval e X.env)=eval e X.env:=by rfl):PE X (.Attribute e f pos) (YO X.K ta f):=by
 refine⟨?_⟩;intro pins s σ H Q I h;refine Tq hb (qT (he pins s σ H _ I h) λu s1 hzz=>?_);obtain⟨y,H1,I1,r1,a,C,d,fs,v,hy,ha,hd,ec,na,l,q⟩:=hzz;subst hy;cases r1;obtain⟨ox,vs,gx,hcl,hdi,hda,_⟩:=Jl.get I1.hok ha;obtain⟨mA,n,r,wi⟩:=MD.get I1.hok hd;obtain⟨od,hod,hl⟩:=Ge n;have J:PySem.W.InstAt s1.heap a ox C (some od):=⟨gx,hcl,by unfold PySem.W.notCls;rw[hda],by rw[hdi];exact hod⟩;obtain⟨u,eu,ru⟩:=EZ.some_of (by have:=r f;rw[l]at this;exact this);obtain⟨cd,hc,hdd,_⟩:=ec.cd;refine QM I1.kIn J ec (v:=u) ?_ (NV ru) ⟨v,H1,I1.tok _,ru,q⟩;unfold PySem.W.findObj;rw[hc,Gr,na,Gr];simp only[Gr,PySem.W.ownOf,hdd,BB,hl,eu]
theorem xK.excDict {pins:List (Addr×Obj)}{σ:St}{H:Hp}{s:Shared}{h':Heap}{a C:Addr}{oa ob:HO}{t':Nat}(I:xK X pins σ H s)(ha:H a=some (KA a C none))
  (keep: ∀b o,b≠a->s.heap.get? b=some o->h'.get? b=some o) (hat: ∃o,h'.get? a=some o) (hoa:wT X.prog X.w (upd (upd H s.heap.objs.size ob) a oa) h' a oa) (hob:wT X.prog X.w (upd (upd H s.heap.objs.size ob) a oa) h' s.heap.objs.size ob):
  xK X pins σ (upd (upd H s.heap.objs.size ob) a oa) {s with heap:=h',toks:=t'}:=by
 have hd:H s.heap.objs.size=none:=I.fresh;have nda:a≠s.heap.objs.size:=zM ha hd;have off: ∀b u,H b=some u->u≠KA a C none->b≠a/\b≠s.heap.objs.size:=λb u e ne=>⟨λz=>by rw[z,ha]at e;exact ne (jE e).symm,zM e hd⟩;have up: ∀b,b≠a->b≠s.heap.objs.size->upd (upd H s.heap.objs.size ob) a oa b=H b:=λb h1 h2=>by rw[zV h1,zV h2]
 refine I.un ⟨λb o e n _ _=>keep b o (λz=>by rw[z,ha]at n;cases n) e,λb o e n _ _=>⟨o.slots,keep b o (λz=>by rw[z,ha]at n;cases n) e⟩,λb o e n _=>?_,λb o e _=>?_,λb xs e=>?_,λb o xs e=>?_,λb ps e=>?_⟩ λb u e=>?_
 ·rw[up b (λz=>by rw[z,ha]at n;cases n) (xM (yG e))];exact n
 ·by_cases z:b=a
  ·subst z;exact hat
  ·exact⟨o,keep b o z e⟩
 ·obtain⟨h1,h2⟩:=off b _ e (by intro z;cases z);rw[up b h1 h2];exact e
 ·obtain⟨h1,h2⟩:=off b _ e (by intro z;cases z);rw[up b h1 h2];exact e
 ·obtain⟨h1,h2⟩:=off b _ e (by intro z;cases z);exact⟨#[],by rw[up b h1 h2,e];simp⟩
 ·by_cases z:b=a
  ·subst z;rw[zH]at e;cases e;exact hoa
  ·rw[zV z]at e
   by_cases z2:b=s.heap.objs.size
   ·subst z2;rw[zH]at e;cases e;exact hob
   ·rw[zV z2]at e;refine(I.hok b u e).stay (λc v hc q=>keep c v ?_ q) (λc q=>?_) λc xs q=>?_
    ·rcases hc with hc|hc
     ·rw[hc];exact z
     ·exact(off c _ hc (by intro z;cases z)).1
    ·obtain⟨h1,h2⟩:=off c _ q (by intro z;cases z);rw[up c h1 h2];exact q
    ·obtain⟨h1,h2⟩:=off c _ q (by intro z;cases z);rw[up c h1 h2];exact q
theorem OV (ha:PE X o ta)(hv:PE X value tv)(hs:swapsWith value (some (.Attribute o f pos')) pos.line X.env=pure false:=by rfl):PS X (.Assign [.Attribute o f pos'] value pos) (zCg X.K ta tv f):=by
 refine⟨?_⟩;intro pins s σ H D I h;refine Dh (qT (hv pins s σ H _ I h) λu s1 ⟨y,H1,I1,ry,q⟩=>qT (ha pins s1 σ H1 _ I1 q) λov s2 ⟨x,H2,I2,rx,a,C,od,ex,ea,ec,na,q2⟩=>?_) hs;subst ex;obtain rfl:ov=Value.ref a:=rx;obtain⟨ox,vs,gx,hcl,hdi,hda,hz,h1⟩:=KA.get I2.hok ea
 rcases q2 with⟨rfl,q2⟩|⟨d,fs,rfl,hd,hl,q2⟩
 ·refine QK I2.kIn gx hcl hdi hda ec na λh' hn hx' keep=>?_;refine⟨σ,_,I2.excDict ea keep ⟨_,hx'⟩ (KA.ok hx' hcl rfl hda hz h1) (MD.ok hn (λg=>?_) λg hg=>?_),q2 _ I2.fresh⟩
  ·show EZ ([(f,y)].lookup g) (if g=f then some u else none)
   by_cases z:g=f
   ·subst z;rw[vY,zT rfl];exact ry
   ·rw[Bk,beq_eq_false_iff_ne.mpr z,zI z];exact True.intro
  ·by_cases z:g=f
   ·subst z;simp
   ·exact absurd (show(if g=f then some u else none)=none by rw[zI z]) hg
 ·obtain⟨mA,n,r,wi⟩:=MD.get I2.hok hd;refine Pp I2.kIn gx hcl hdi hda n wi (by rw[zD,BU];lia) ec na λh' hn sb=>?_;refine⟨σ,_,I2.write (x:=d) (e:=d) (by rw[hd];exact True.intro) (.inl rfl) (λb q hb z=>(sb.2 b hb).trans z) (let⟨o,_,_,e',_⟩:=hn;⟨o,e'⟩) (MD.ok hn (λg=>?_) λg hg=>?_),q2⟩
  ·show EZ ((GN f y fs).lookup g) (if g=f then some u else mA g);rw[HM]
   by_cases q:g=f
   ·rw[zT q,zT q];exact ry
   ·rw[zI q,zI q];exact r g
  ·by_cases q:g=f
   ·rw[q];exact(Gf f y fs).1
   ·refine(Gf f y fs).2 g (wi g λz=>hg ?_);show(if g=f then some u else mA g)=none;rw[zI q];exact z
end
def UP (X:Cx)(pins:List (Addr×Obj))(H:Hp)(T:Addr):Prop:=H T=none/\X.s₀.heap.objs.size<=T/\T≠X.env.locals/\ ∀p∈X.pn++pins,p.1≠T
def Tb (X:Cx)(pins:List (Addr×Obj))(H:Hp)(x:Addr)(h:Heap):Prop:=
 ∃oe vs,h.get? x=some oe/\oe.data=.fields vs/\(vs[1]? =some .none\/ ∃T oT ts fl,vs[1]? =some (.ref T)/\T≠x/\UP X pins H T/\h.get? T=some oT/\oT.data=.fields ts/\ts[3]? =some fl/\(fl=.none\/fl=rawInt X.env.locals))
def UM (X:Cx)(pins:List (Addr×Obj))(H:Hp)(x:Addr)(fl:Value)(h:Heap):Prop:=
 ∃oe vs T oT ts,h.get? x=some oe/\oe.data=.fields vs/\vs[1]? =some (.ref T)/\T≠x/\UP X pins H T/\h.get? T=some oT/\oT.data=.fields ts/\ts[3]? =some fl
theorem UM.tb {X:Cx}{pins:List (Addr×Obj)}{H:Hp}{x:Addr}{fl:Value}{h:Heap}(t:UM X pins H x fl h)(hf:fl=.none\/fl=rawInt X.env.locals):Tb X pins H x h:=by
 obtain⟨oe,vs,T,oT,ts,e,d,h1,r1,r2,r3,r4,r5⟩:=t;exact⟨oe,vs,e,d,.inr ⟨T,oT,ts,fl,h1,r1,r2,r3,r4,r5,hf⟩⟩
section
variable {X:Cx}{pins:List (Addr×Obj)}{σ:St}{H:Hp}{s:Shared}{h':Heap}{x C:Addr}{od:Option Addr}
theorem xK.flight (I:xK X pins σ H s)(hx:H x=some (Jl x C od)){ch:List Addr}(hch: ∀b∈ch,UP X pins H b)(ncell: ∀b∈ch,∀y c,X.env.cells.lookup y=some c->c≠b)
  (keep: ∀b o,b≠x->b∉ch->b∉frs X.stack->s.heap.get? b=some o->h'.get? b=some o) (slot: ∀b o,b≠x->b∉ch->s.heap.get? b=some o-> ∃sl,h'.get? b=some {o with slots:=sl})
  (hx': ∃o vs,h'.get? x=some o/\o.cls=.ref C/\o.dict=od/\o.data=.fields vs/\6<=vs.size):xK X pins σ H {s with heap:=h'}:=by
 have nx: ∀b,H b=none->b≠x:=λb n z=>by rw[z,hx]at n;cases n
 have nst: ∀b,b≠X.env.locals->b∉X.fs->b∉frs X.stack:=λb h1 h2 z=>(List.mem_cons.mp (I.stkSub b z)).elim h1 h2;have nch: ∀b u,H b=some u->b∉ch:=λb u e z=>by rw[(hch b z).1]at e;cases e
 have nfr: ∀b u,H b=some u->b∉frs X.stack:=λb u e z=>by rw[I.stkFree b z]at e;cases e
 refine I.step (g':=s.gens) (d':=s.drawn) (t':=s.toks) (ch:=ch) (λb hb=>⟨.inr (hch b hb).2.1,(hch b hb).2.2.1,ncell b hb,(hch b hb).2.2.2⟩)
  (λb o hL hf hc e n=>keep b o (nx b n) hc (nst b hL hf) e) (λb o hL hf hc e n=>slot b o (nx b n) hc e) (λb o hc e n=>n) (λb o hc e=>?_) (λ_ _ e=>e) (λ_ _ _ e=>e) (λb ps e=>⟨#[],by rw[e];simp⟩) (λm hm=>?_) (λb u e=>?_) I.bare
 ·by_cases z:b=x
  ·subst z;obtain⟨o,_,g,_⟩:=hx';exact⟨o,g⟩
  ·obtain⟨sl,q⟩:=slot b o z hc e;exact⟨_,q⟩
 ·obtain⟨o,es,ep,ho,hd,r⟩:=hm;obtain⟨sl,q⟩:=slot _ o (nx _ I.free) (λz=>(hch _ z).2.2.1 rfl) ho;exact⟨_,es,ep,q,hd,r⟩
 ·by_cases z:b=x
  ·subst z;rw[hx]at e;cases e;obtain⟨o,vs,g,r1,r2,r3,r4⟩:=hx';exact Jl.ok g r1 r2 r3 r4
  ·refine(I.hok b u e).stay (λc v hc q=>?_) (λ_ q=>q) λ_ _ q=>q
   rcases hc with hc|hc
   ·rw[hc]at q ⊢;exact keep b v z (nch b u e) (nfr b u e) q
   ·exact keep c v (λz2=>by rw[z2,hx]at hc;cases hc) (nch c _ hc) (nfr c _ hc) q
theorem UP.ncell {T:Addr}{oT:Obj}{ts:Array Value}(I:xK X pins σ H s)(g:s.heap.get? T=some oT)(d:oT.data=.fields ts): ∀b∈[T],∀y c,X.env.cells.lookup y=some c->c≠b:=λb hb y c e z=>by
 rw[List.mem_singleton.mp hb]at z;obtain⟨v,o,ho,hd⟩:=I.cell y c e;rw[z,g]at ho;cases ho;rw[d]at hd;cases hd
theorem Oa {M:Model}{A:Around}{E:Value->Shared->Prop}{Q:Unit->Shared->Prop}{head:Value}{hadNext:Bool}(I:xK X pins σ H s)(hst:X.stack=X.env::X.outer)(hfr:X.env.frame=some X.env.locals)(hA:A.frames=some X.stack)
  (hx:H x=some (Jl x C od)) (hq: ∀s',xK X pins σ H s'->UM X pins H x (rawInt X.env.locals) s'.heap->Q () s'):
  wpAny M A (do let a<-frameOf X.env;let pl<-entryPlaceOf X.env.locals hadNext;let b<-EntryCells.newEntry head a .none (rawInt X.env.locals) .none pl;setField (.ref x) 1 b) Q E s:=by
 have hl:s.heap.FunFrames X.base (X.env::X.outer):=hst▸I.stack;refine zC (wpAny_frameOf_fun (hst▸hA) hl hfr λh1 hs1=>?_);refine zC (wpAny_entryPlaceOf λpl hpl=>?_);unfold EntryCells.newEntry newFields;refine zC (jW ?_ (hpl.sizeOk5 _ _ _ _ _));obtain⟨ox,vs,gx,hcl,hdi,hda,hz⟩:=Jl.get I.hok hx;have hxf:x∉(X.env::X.outer).filterMap (·.frame):=λhm=>by
  obtain⟨_,o,ho,hnf⟩:=hl.mem hm;rw[gx]at ho;cases ho;exact hnf vs hda
 have gx1:h1.get? x=some ox:=(hs1.2.1 x hxf).trans gx;generalize hob:({cls:=.type "traceback",dict:=none,data:=.fields ([head,.ref X.env.locals,.none,rawInt X.env.locals,.none]++(if pl.isEmpty then List.replicate 6 Value.none else pl)).toArray}:Obj)=ob;have gx2:=zJ (h:=h1) ob gx1;have hz1:1<vs.size:=by lia
 refine vO gx2 hda hz1 ?_;have sz:h1.objs.size=s.heap.objs.size:=hs1.1;have hd3:=qS hda (·.setIfInBounds 1 (Value.ref h1.objs.size));have gx3:=jR (Obj.mapFields (·.setIfInBounds 1 (Value.ref h1.objs.size))) gx2 (vX hd3);have hTx:h1.objs.size≠x:=qP (yG gx1);have gT:(h1.push ob).get? h1.objs.size=some ob:=yL _ (by rw[<-hob];rfl);have hT:H h1.objs.size=none:=by rw[sz];exact I.fresh
 have keep: ∀b o,b≠x->h1.get? b=some o->((h1.push ob).update x (Obj.mapFields (·.setIfInBounds 1 (Value.ref h1.objs.size)))).get? b=some o:=λb o hb e=>by
  rw[xH _ _ (Ne.symm hb)];exact zJ _ e
 have I':xK X pins σ H {s with heap:=(h1.push ob).update x (Obj.mapFields (·.setIfInBounds 1 (Value.ref h1.objs.size)))}:=by
  refine I.flight hx (ch:=[]) (λb hb=>(nomatch hb)) (λb hb=>(nomatch hb)) (λb o hb _ hf e=>keep b o hb ((hs1.2.1 b (by rw[<-hst];exact hf)).trans e)) (λb o hb _ e=>?_) ⟨_,_,gx3,(Fz _ _).trans hcl,?_,hd3,by simp;exact hz⟩
  ·obtain⟨sl,q⟩:=hs1.2.2 b o e;exact⟨sl,keep b _ hb q⟩
  ·obtain⟨oc,odi,oda,osl⟩:=ox;simp only at hda;subst hda;exact hdi
 refine hq _ I' ⟨_,_,h1.objs.size,ob,_,gx3,hd3,by simp[hz1],hTx,⟨hT,?_,?_,λp hp z=>?_⟩,?_,by rw[<-hob],?_⟩
 ·rw[sz];exact I.sz
 ·rw[sz];exact qP I.lt
 ·have:=yG (I.pin p hp).1;rw[z,sz]at this;exact kQ _ this
 ·rw[xH _ _ (Ne.symm hTx)];exact gT
 ·first|(simp;done)|(rcases hpl with rfl|⟨_,_,_,_,_,_,_,rfl⟩<;>simp)
theorem Mv {M:Model}{A:Around}{E:Value->Shared->Prop}{Q:Unit->Shared->Prop}(I:xK X pins σ H s)(hst:X.stack=X.env::X.outer)(hfr:X.env.frame=some X.env.locals)(hA:A.frames=some X.stack)
  (hx:H x=some (Jl x C od)) (tb:Tb X pins H x s.heap) (hq: ∀s',xK X pins σ H s'->UM X pins H x (rawInt X.env.locals) s'.heap->Q () s'):wpAny M A (noteFrame (.ref x) X.env) Q E s:=by
 obtain⟨oe,vs,ge,hd,h1⟩:=tb;unfold noteFrame;simp only[hfr]
 rcases h1 with h1|⟨T,oT,ts,fl,h1,hTx,ours,gT,dT,h3,hfl⟩
 ·refine zC (xZ ge hd h1 ?_);rw[zI (by decide)];exact Oa I hst hfr hA hx hq
 ·refine zC (xZ ge hd h1 ?_);rw[zT (show(Value.ref T !=Value.none)=true from by simp)];refine zC (xZ gT dT h3 ?_)
  rcases hfl with rfl|rfl
  ·rw[zI (show ¬((Value.none==rawInt X.env.locals)=true)from by simp[rawInt])];refine zC (vO gT dT (Array.getElem?_eq_some_iff.mp h3).1 ?_);have other: ∀b,b≠T->(s.heap.update T (Obj.mapFields (·.setIfInBounds 3 Value.none))).get? b=s.heap.get? b:=λb hb=>xH _ _ (Ne.symm hb);obtain⟨ox,ws,gx,r⟩:=Jl.get I.hok hx;have I':xK X pins σ H {s with heap:=s.heap.update T (Obj.mapFields (·.setIfInBounds 3 Value.none))}:=by
    refine I.flight hx (ch:=[T]) (λb hb=>by rw[List.mem_singleton.mp hb];exact ours) (UP.ncell I gT dT) (λb o hb hc _ e=>(other b λz=>hc (by simp[z])).trans e) (λb o hb hc e=>⟨o.slots,(other b λz=>hc (by simp[z])).trans e⟩) ⟨ox,ws,(other x (Ne.symm hTx)).trans gx,r⟩
   exact Oa I' hst hfr hA hx hq
  ·rw[zT (show(rawInt X.env.locals==rawInt X.env.locals)=true from by simp)];exact zP (hq s I ⟨oe,vs,T,oT,ts,ge,hd,h1,hTx,ours,gT,dT,h3⟩)
theorem Lr {M:Model}{A:Around}{E:Value->Shared->Prop}{Q:Unit->Shared->Prop}{fl:Value}{to:Option Addr}(I:xK X pins σ H s)(hx:H x=some (Jl x C od))(tb:UM X pins H x fl s.heap)
  (hq: ∀s',xK X pins σ H s'->UM X pins H x (to.elim Value.none λf=>rawInt f) s'.heap->Q () s'):wpAny M A (setFlight (.ref x) to) Q E s:=by
 obtain⟨oe,vs,T,oT,ts,ge,hd,h1,hTx,ours,gT,dT,h3⟩:=tb;unfold setFlight;refine zC (xZ ge hd h1 ?_);rw[zT (show(Value.ref T !=Value.none)=true from by simp)];have hsz3:=(Array.getElem?_eq_some_iff.mp h3).1;refine vO gT dT hsz3 (hq _ ?_ ?_)
 ·obtain⟨ox,ws,gx,r⟩:=Jl.get I.hok hx;exact I.flight hx (ch:=[T]) (λb hb=>by rw[List.mem_singleton.mp hb];exact ours) (UP.ncell I gT dT) (λb o hb hc _ e=>(xH _ _ (λz=>hc (by simp[z]))).trans e) (λb o hb hc e=>⟨o.slots,(xH _ _ (λz=>hc (by simp[z]))).trans e⟩) ⟨ox,ws,(xH _ _ hTx).trans gx,r⟩
 ·exact⟨oe,vs,T,_,_,(xH _ _ hTx).trans ge,hd,h1,hTx,ours,jR _ gT (vX (qS dT _)),qS dT _,by simp[hsz3]⟩
end
def Hl (P:Program)(w:World):JW:=λouter H s E e s'=> ∃x C d H',e=.ref x/\s'.os=s.os/\AllBare s'.gens/\Un (frs outer) [] H H' s.heap s'.heap/\Ix P w H' s'.heap/\H' x=some (Jl x C d)/\
 (∃oe vs T oT ts,s'.heap.get? x=some oe/\oe.data=.fields vs/\vs[1]? =some (.ref T)/\T≠x/\H' T=none/\s.heap.objs.size<=T/\s'.heap.get? T=some oT/\oT.data=.fields ts/\ts[3]? =some .none)/\E (.ref C) d H'
theorem QR {P:Program}{w:World}{outer:List Env}{H:Hp}{s:Shared}{e:Value}{s':Shared}(h:Hl P w outer H s (λ_ _ _=>False) e s'):False:=by
 obtain⟨_,_,_,_,_,_,_,_,_,_,_,z⟩:=h;exact z
def UQ (X:Cx)(E:XK):Value->Shared->Prop:=λe s1=> ∃x C d pins σ H,e=.ref x/\xK X pins σ H s1/\H x=some (Jl x C d)/\Tb X pins H x s1.heap/\E (.ref C) d H
abbrev Cx.exc (X:Cx)(E:XK):Cx:=X.wish (UQ X E)
section
variable {X:Cx}{E:XK}
theorem jK {P:Program}{w:World}:BL (Hl P w) X E0:=λ_ _ _ _ _ _ _ h=>(QR h).elim
theorem Yy {pins:List (Addr×Obj)}{σ:St}{H:Hp}{s s':Shared}{e:Value}(I:xK X pins σ H s)(h:Hl X.prog X.w X.stack H s E e s'):UQ X E e s':=by
 obtain⟨x,C,d,H',rfl,ho,hg,u,hok,hx,⟨oe,vs,T,oT,ts,ge,hd,h1,hTx,hT,lo,gT,dT,h3⟩,q⟩:=h;have I':xK X pins σ H' s':=I.call' (ch:=[]) ho u hok hg λb z=>(nomatch z);refine⟨x,C,d,pins,σ,H',rfl,I',hx,⟨oe,vs,ge,hd,.inr ⟨T,oT,ts,.none,h1,hTx,⟨hT,yT I.sz lo,qP (yY I.lt lo),λp hp z=>?_⟩,gT,dT,h3,.inl rfl⟩⟩,q⟩;have:=yG (I.pin p hp).1;rw[z]at this;exact absurd (yY this lo) (kQ _)
theorem kW:BL (Hl X.prog X.w) (X.exc E) E:=λpins σ H s e s' I h=>Yy I.unwish h
theorem Uw {e:Value}{s1:Shared}{E':Value->Shared->Prop}(hst:X.stack=X.env::X.outer)(hfr:X.env.frame=some X.env.locals)(hex:X.ex=[])(h:UQ X E e s1):
  wpAny (model X.prog X.w) X.A (leaving X.env e) (λ_ s''=>Hl X.prog X.w X.outer X.H₀ X.s₀ E e s'') E' s1:=by
 obtain⟨x,C,d,pins,σ,H,rfl,I,hx,tb,q⟩:=h;unfold leaving;refine zC (Mv I hst hfr I.ok.frames hx tb λs2 I2 t2=>Lr (to:=none) I2 hx t2 λs3 I3 t3=>?_);obtain⟨oe,vs,T,oT,ts,ge,hd,h1,hTx,ours,gT,dT,h3⟩:=t3;have b:=I3.base;rw[hex]at b;exact⟨x,C,d,H,rfl,I3.os,I3.bare,b,I3.hok,hx,⟨oe,vs,T,oT,ts,ge,hd,h1,hTx,ours.1,ours.2.1,gT,dT,h3⟩,q⟩
theorem Ip (hst:X.stack=X.env::X.outer)(hfr:X.env.frame=some X.env.locals):PassesOwn (model X.prog X.w) X.A X.env (UQ X E):=λe s1 h=>by
 obtain⟨x,C,d,pins,σ,H,rfl,I,hx,tb,q⟩:=h;refine Mv I hst hfr I.ok.frames hx tb λs2 I2 t2=>?_;have t2':=t2;obtain⟨oe,vs,T,oT,ts,ge,hd,h1,hTx,ours,gT,dT,h3⟩:=t2;unfold cameBackBy;refine zC (xZ ge hd h1 ?_);rw[zI (show ¬((Value.ref T==Value.none)=true)from by simp)];rw[hfr];exact Lr (to:=some X.env.locals) I2 hx t2' λs3 I3 t3=>⟨x,C,d,pins,σ,H,rfl,I3,hx,t3.tb (.inr rfl),q⟩
end
section
variable {P:Program}{w:World}{K:PySem.W.Frag}{mg:Str->Option Value}{base:Heap}
theorem uB.okN {CX:JW}{x qual:Str}{st:Stmt}{f:Addr}{fd:FuncData}{N ps:List Str}{k:Nat}{sp:Sp}(F:uB K x qual st f fd)(S:xA N ps (yH st))(len: ∀vs H Q E,sp vs H Q E->vs.length=ps.length)
  (hbody: ∀(cdv:Value) (A:Around) (outer:List Env) (s:Shared) (H:Hp) (vs:List V) (Q:VK) (E:XK),uE k (A.deeper (envOfC qual (yH st) s.heap.objs.size f cdv))->sp vs H Q E->
   ∃t,MJ (JO CX P w K mg base N qual (yH st) f cdv A outer s H E).nox (vS st) t/\t {nx:=λ_ H'=>Q .non H',rt:=Q} (Ey N vs) H):CU P w K mg base CX (k+1) f fd ps sp:=by
 obtain⟨oc,od,kV,doc,pm,an,cdv,ct,osl,rfl,lk,hcd⟩:=F.ex;refine Zh lk hcd S len λA outer s H vs Q E hr hsp=>?_;obtain⟨t,h,q⟩:=hbody cdv A outer s H vs Q E hr hsp;exact⟨t,h.nox,q⟩
theorem uB.okX {x qual:Str}{st:Stmt}{f:Addr}{fd:FuncData}{N ps:List Str}{k:Nat}{sp:Sp}(F:uB K x qual st f fd)(S:xA N ps (yH st))(len: ∀vs H Q E,sp vs H Q E->vs.length=ps.length)
  (hbody: ∀(cdv:Value) (A:Around) (outer:List Env) (s:Shared) (H:Hp) (vs:List V) (Q:VK) (E:XK),uE k (A.deeper (envOfC qual (yH st) s.heap.objs.size f cdv))->sp vs H Q E->
   ∃t,MJ ((JO (Hl P w) P w K mg base N qual (yH st) f cdv A outer s H E).exc E) (vS st) t/\t {nx:=λ_ H'=>Q .non H',rt:=Q} (Ey N vs) H):CU P w K mg base (Hl P w) (k+1) f fd ps sp:=by
 obtain⟨oc,od,kV,doc,pm,an,cdv,ct,osl,rfl,lk,hcd⟩:=F.ex;refine Zh lk hcd S len λA outer s H vs Q E hr hsp=>?_;obtain⟨t,h,q⟩:=hbody cdv A outer s H vs Q E hr hsp;refine⟨t,⟨λpins s1 σ H1 D I hw=>?_⟩,q⟩;refine wD (h pins s1 σ H1 D (I.wish _) hw) (λfl s2 hs=>hs.unwish) λe s2 fl=>?_;exact Uw rfl rfl rfl fl
end
abbrev Fu:List Value:=[.type "ValueError",.type "Exception",.type "BaseException",.type "object"]
structure QY (K:PySem.W.Frag)(C f:Addr):Prop where
 cls: ∃(B nw ini:String) (bmB:List Value),ExcBaseFacts B nw ini bmB/\bmB.contains (.type "BaseException")=true/\ ∃nm q N bs bm hdct sn sub ab col dd k0 k1 k2 k3 k5,K.lookup C=some (excClassObj nm q C N bs bm hdct sn sub ab col dd k0 k1 k2 k3 k5 nw)/\ ∀h,K.In h->OwnTail h bmB bm
 init:PySem.W.findIn K (.ref C) "__init__"=some (some (.ref f))
 fn:PySem.W.typeIn K (.ref f)=some (.type "function")
 kp:PySem.W.keepIn K (.ref C)=true
 ec:EL K C
theorem QY.ofValue {K:PySem.W.Frag}{C f:Addr}(h: ∃nm q N bs bm hdct sn sub ab col dd k0 k1 k2 k3 k5,K.lookup C=some (excClassObj nm q C N bs bm hdct sn sub ab col dd k0 k1 k2 k3 k5 "ValueError.__new__")/\ ∀h,K.In h->OwnTail h Fu bm)
  (i:PySem.W.findIn K (.ref C) "__init__"=some (some (.ref f))) (fn:PySem.W.typeIn K (.ref f)=some (.type "function")) (kp:PySem.W.keepIn K (.ref C)=true) (ec:EL K C):QY K C f:=
 ⟨⟨_,_,_,Fu,F.excBase_ValueError,by decide,h⟩,i,fn,kp,ec⟩
section
variable {X:Cx}{pins:List (Addr×Obj)}{σ:St}{H:Hp}{s:Shared}
theorem xK.excMade (I:xK X pins σ H s)(C:Addr)(us:List Value):xK X pins σ (upd H (s.heap.objs.size+1) (KA (s.heap.objs.size+1) C none)) {s with heap:=Dx s.heap C us}:=by
 have gx:(Dx s.heap C us).get? (s.heap.objs.size+1)=some (Sh C s.heap.objs.size):=by heap_get
 refine I.laid (t':=s.toks) (λb o e=>zJ _ (zJ _ e)) (Nat.le_succ _) (KA.ok gx rfl rfl rfl (show 6<=6 by decide) rfl)
theorem Xt {CX:JW}{k:Nat}{f C:Addr}{fd:FuncData}{ps:List Str}{sp:Sp}{E:XK}{Q:Addr->Hp->Prop}{us:List Value}{vs:List V}(M:QY X.K C f)(G:CU X.prog X.w X.K X.mg X.base CX k f fd ps sp)(hr:uE (k+1) X.A)(hb:Ab X.K fd ps [])
  (hx:BL CX X E) (I:xK X pins σ H s) (r:jS vs us) (hz:us.length<=sizeLine)
  (h: ∀x,H x=none->sp (.ref x::vs) (upd H x (KA x C none)) (λv H2=>v=.non/\Q x H2) E):
  wpAny (model X.prog X.w) X.A (call (.ref C) us) (λu s'=> ∃x H',u=.ref x/\xK X pins σ H' s'/\Q x H') X.xe s:=by
 have hq:=h (s.heap.objs.size+1) (I.hok.fresh (Nat.le_succ _));have I2:=I.excMade C us;have r2:jS (V.ref (s.heap.objs.size+1)::vs) (Value.ref (s.heap.objs.size+1)::us):=.cons rfl r;have hl:(Value.ref (s.heap.objs.size+1)::us++[]).length =ps.length:=by
  have e:=r2.length;rw[G.len _ _ _ _ hq]at e;rw[xI];exact e.symm
 obtain⟨_,_,_,bmB,BF,hcb,nm,q,N,bs,bm,hdct,sn,sub,ab,col,dd,k0,k1,k2,k3,k5,hC,T⟩:=M.cls;have KI:=I.kIn;have bd:=hb {s with heap:=Dx s.heap C us} (Value.ref (s.heap.objs.size+1)::us) I2.kIn hl;rw[xI]at bd;obtain⟨hh,g,d,t,os⟩:=s;refine BN (WG KI (KI _ _ hC) BF (T _ KI) M.init M.fn hz (Bi (G.run _ X.stack _ _ ⟨Value.ref (hh.objs.size+1)::us,[]⟩ _ _ _ E (hr.make C us []) (I2.env0.make C us []) bd r2 hq) λr s' hq'=>?_));cases r with
 |error e=>exact hx pins σ _ _ e s' I2 hq'
 |ok fl=>
  cases fl with
  |ret u=>
   obtain⟨v,H',I3,rv,ev,q3⟩:=I2.after hq';subst ev;exact⟨rv,hh.objs.size+1,H',rfl,I3,q3⟩
  |next=>exact False.elim hq'
  |brk=>exact False.elim hq'
  |cont=>exact False.elim hq'
theorem Ry {M:Model}{A:Around}{E:Value->Shared->Prop}{env:Env}{xs:Sem Value}{Q:Flow->Shared->Prop}{K:PySem.W.Frag}{C:Addr}{s:Shared}{f:Addr}(hM:QY K C f)(hh:A.handled=none)
  (h:wpAny M A xs (λv s1=> ∃x oe vs,v=.ref x/\K.In s1.heap/\s1.heap.get? x=some oe/\oe.cls=.ref C/\oe.data=.fields vs/\vs[1]? =some .none/\E (.ref x) s1) E s):
  wpAny M A (raiseStmt env (some xs) none) Q E s:=by
 obtain⟨_,_,_,bmB,BF,hcb,nm,q,N,bs,bm,hdct,sn,sub,ab,col,dd,k0,k1,k2,k3,k5,hC,T⟩:=hM.cls;unfold raiseStmt;refine zC (qT h λv s1 h1=>?_);obtain⟨x,oe,vs,rfl,KI,ge,hcl,hd,h1,hE⟩:=h1;have hC1:=KI _ _ hC;have hcB:(Value.ref C::bm).contains (.type "BaseException")=true:=by rw[List.contains_cons,(T _ KI).hasType hcb,Bool.or_true]
 obtain⟨hp,g,d,tk,os⟩:=s1
 repeat (first|(with_reducible refine CY ge ?_;try rw[hcl])|with_reducible refine CY hC1 ?_ |(with_reducible refine wpAny_isSubtype_exc hC1 ?_;rw[hcB])|with_reducible refine xZ ge hd h1 ?_ |wp_step)
 exact wpAny_raiseNew_none hh hE
theorem xK.excFlies {x C d:Addr}(I:xK X pins σ H s)(hx:H x=some (KA x C (some d))):xK X pins σ (upd H x (Jl x C (some d))) s:=by
 obtain⟨o,vs,g,r1,r2,r3,r4,r5⟩:=KA.get I.hok hx;exact I.write (h':=s.heap) (t':=s.toks) (x:=x) (e:=x) (by rw[hx];exact True.intro) (.inl rfl) (λ_ _ _ q=>q) ⟨o,g⟩ (Jl.ok g r1 r2 r3 r4)
end
def Ve (C:Addr)(sp:Sp)(E:XK)(t:TA):TS:=λ_ σ H=>t σ H λvs H1=>vs.length<=sizeLine/\ ∀x,H1 x=none->
 sp (.ref x::vs) (upd H1 x (KA x C none)) (λv H2=>v=.non/\ ∃d,H2 x=some (KA x C (some d))/\E (.ref C) (some d) (upd H2 x (Jl x C (some d)))) E
section
variable {X:Cx}{E:XK}{k:Nat}{f C:Addr}{fd:FuncData}{ps:List Str}{sp:Sp}{x:Str}{np cpos pos:Pos}{e:Expr}{es:List Expr}{t:TA}
theorem Vx (M:QY X.K C f)(G:CU X.prog X.w X.K X.mg X.base (Hl X.prog X.w) k f fd ps sp)(hr:uE (k+1) X.A)(hg:Gl (X.exc E) x)(hm:X.mg x=some (.ref C))(hb:Ab X.K fd ps [])(ha:PA (X.exc E) (e::es) t)(hc:X.calm=true:=by rfl)
  (hdb:(x==("__debug__":Str))=false:=by decide) (he:starEach (e::es) X.env=(false,eval e X.env)::starEach es X.env:=by rfl) (hpl:(backTo cpos (starEach es X.env)).any (·.1)=false:=by rfl):
  PS (X.exc E) (.Raise (some (.Call (.Name x np) (e::es) [] cpos)) none pos) (Ve C sp E t):=by
 refine⟨?_⟩;intro pins s σ H D I h;have cal:wpAny (model X.prog X.w) X.A (eval (.Call (.Name x np) (e::es) [] cpos) X.env) (λv s1=> ∃y oe vs,v=.ref y/\X.K.In s1.heap/\s1.heap.get? y=some oe/\oe.cls=.ref C/\oe.data=.fields vs/\vs[1]? =some .none/\UQ X E (.ref y) s1) (UQ X E) s:=by
  refine wK (GW (X:=X.exc E) I hg hm ?_ hdb);refine Au (h₀:=X.base) I.ok.mod.kin M.kp (qT (ha cpos pins s σ H _ I h) λus s1 ⟨vs,H1,I1,r,hz,q⟩=>⟨I1.kIn,?_⟩) he hpl;refine qT (Xt (X:=X.exc E) (Q:=λy H2=> ∃d,H2 y=some (KA y C (some d))/\E (.ref C) (some d) (upd H2 y (Jl y C (some d)))) M G hr hb kW I1 r (by have:=r.length;rw[jV];lia) q) λv s2 ⟨y,H2,ev,I2,d,hy,qe⟩=>?_
  ·subst ev;obtain⟨o,ws,g,r1,r2,r3,r4,r5⟩:=KA.get I2.hok hy;exact⟨y,o,ws,rfl,I2.kIn,g,r1,r3,r5,y,C,some d,pins,σ,_,rfl,I2.unwish.excFlies hy,zH,⟨o,ws,g,r3,.inl r5⟩,qe⟩
 show wpAny _ _ (exec (.Raise (some (.Call (.Name x np) (e::es) [] cpos)) none pos) X.env) _ _ _;rw[arm_exec_Raise];refine zC (Dy (Ry (K:=X.K) M (I.ok.hd hc) ?_));exact zC (qT cal λv s1 h1=>zC (Dy (zP h1)))
end
section
variable {X:Cx}{pins:List (Addr×Obj)}{σ:St}{H:Hp}{s:Shared}
theorem Ug {M:Model}{A:Around}{E:Value->Shared->Prop}{i:Nat}{n:Str}{pos:Pos}{Q:Unit->Shared->Prop}(I:xK X pins σ H s)(hN:X.N.Nodup)(hi:X.N[i]? =some n)(hl:X.env.scope.names.lookup n=some .local)
  (h: ∀s',xK X pins (σ.set i none) H s'->Q () s'):wpAny M A (do bindName X.env n .none;unbindBehindTheSuite X.env n pos) Q E s:=by
 obtain⟨m,hn,hlk⟩:=id I.loc;have hcls:(X.env.scope.kind== .class || (X.env.scope.kind== .module&&X.env.locals !=X.env.globals))=false:=by rw[I.ok.kind];rfl
 have hiσ:i<σ.length:=by rw[I.len];exact(List.getElem?_eq_some_iff.mp hi).1
 refine wpAny_nameGoes_keeps hl hn hcls λh' v hn' hs=>h _ ?_;have neL: ∀b o,X.s₀.heap.get? b=some o->b≠X.env.locals:=λb o e=>xM (yY (yG e) I.ok.above);refine⟨I.ok,I.os,I.bare,⟨λb o e n hb hx=>(hs.2 b (neL b o e)).trans (I.base.keep b o e n hb hx),λb o e n hb hx=>?_,I.base.free,λb o e hx=>?_,I.base.tups,I.base.frzs,I.base.tbls⟩,⟨_,hn',λj y v' e1 e2 e3=>?_⟩,λy c e=>?_,I.free,I.freeC,λp hp=>?_,λb u e=>?_,by simpa using I.len⟩
 ·obtain⟨sl,e1⟩:=I.base.slot b o e n hb hx;exact⟨sl,(hs.2 b (neL b o e)).trans e1⟩
 ·obtain⟨o',e1⟩:=I.base.there b o e hx;exact⟨o',(hs.2 b (neL b o e)).trans e1⟩
 ·by_cases hj:j=i
  ·subst hj;rw[De hiσ]at e2;cases e2
  ·rw[DL (Ne.symm hj)]at e2;obtain⟨u',r',q⟩:=hlk j y v' e1 e2 e3;refine⟨u',r',?_⟩
   rcases q with⟨k,e⟩|⟨k,c,e,z⟩
   ·refine .inl ⟨k,?_⟩;have:y≠n:=λe=>hj (Ma hN e1 (e▸hi))
    simp[this,e]
   ·exact .inr ⟨k,c,e,z.sameBut hs (I.cne y c e)⟩
 ·obtain⟨w',z⟩:=I.cell y c e;exact⟨w',z.sameBut hs (I.cne y c e)⟩
 ·obtain⟨e,n,ne,nf,d⟩:=I.pin p hp;exact⟨(hs.2 p.1 ne).trans e,n,ne,nf,d⟩
 ·refine(I.hok b u e).stay (λc w' hc q=>(hs.2 c ?_).trans q) (λ_ q=>q) λ_ _ q=>q;rintro rfl
  rcases hc with rfl|hc
  ·rw[I.free]at e;cases e
  ·rw[I.free]at hc;cases hc
abbrev Cx.mark (X:Cx)(v:Value):Cx:={X with A:=X.A.mark (some v),calm:=false,xe:=λ_ _=>False}
theorem xK.mark (I:xK X pins σ H s)(v:Value):xK (X.mark v) pins σ H s:=
 ⟨⟨I.ok.mod,I.ok.kind,I.ok.glob,I.ok.blt,I.ok.above,I.ok.inj,I.ok.has,I.ok.cab,λz=>(nomatch z),I.ok.frames,I.ok.stk,I.ok.exf,I.ok.bs,I.ok.bsz,I.ok.noex,I.ok.exfs,I.ok.funs,I.ok.frf⟩,I.os,I.bare,I.base,I.loc,I.cell,I.free,I.freeC,I.pin,I.hok,I.len⟩
theorem xK.unmark {v:Value}(hd:X.calm=true->X.A.handled=none)(I:xK (X.mark v) pins σ H s):xK X pins σ H s:=
 ⟨⟨I.ok.mod,I.ok.kind,I.ok.glob,I.ok.blt,I.ok.above,I.ok.inj,I.ok.has,I.ok.cab,hd,I.ok.frames,I.ok.stk,I.ok.exf,I.ok.bs,I.ok.bsz,I.ok.noex,I.ok.exfs,I.ok.funs,I.ok.frf⟩,I.os,I.bare,I.base,I.loc,I.cell,I.free,I.freeC,I.pin,I.hok,I.len⟩
abbrev Cx.pinned (X:Cx)(pn:List (Addr×Obj)):Cx:={X with pn:=pn}
theorem xK.topin (I:xK X pins σ H s):xK (X.pinned (X.pn++pins)) [] σ H s:=
 ⟨⟨I.ok.mod,I.ok.kind,I.ok.glob,I.ok.blt,I.ok.above,I.ok.inj,I.ok.has,I.ok.cab,I.ok.hd,I.ok.frames,I.ok.stk,I.ok.exf,I.ok.bs,I.ok.bsz,I.ok.noex,I.ok.exfs,I.ok.funs,I.ok.frf⟩,I.os,I.bare,I.base,I.loc,I.cell,I.free,I.freeC,λp hp=>I.pin p (by rw[xI]at hp;exact hp),I.hok,I.len⟩
theorem xK.unpin {pins':List (Addr×Obj)}(I:xK (X.pinned (X.pn++pins)) pins' σ H s):xK X pins σ H s:=
 ⟨⟨I.ok.mod,I.ok.kind,I.ok.glob,I.ok.blt,I.ok.above,I.ok.inj,I.ok.has,I.ok.cab,I.ok.hd,I.ok.frames,I.ok.stk,I.ok.exf,I.ok.bs,I.ok.bsz,I.ok.noex,I.ok.exfs,I.ok.funs,I.ok.frf⟩,I.os,I.bare,I.base,I.loc,I.cell,I.free,I.freeC,λp hp=>I.pin p (qA _ hp),I.hok,I.len⟩
end
structure Mch (K:PySem.W.Frag)(C CE:Addr):Prop where
 sub:PySem.W.subIn K (.ref C) (.ref CE)=some true
 ty:PySem.W.typeIn K (.ref CE)=some (.type "type")
 cl:(PySem.W.clsIn K CE).isSome =true
 base:PySem.W.subIn K (.ref CE) (.type "BaseException")=some true
theorem QL {M:Model}{A:Around}{E:Value->Shared->Prop}{K:PySem.W.Frag}{s:Shared}{x C CE:Addr}{oe:Obj}{Q:Bool->Shared->Prop}(KI:K.In s.heap)(m:Mch K C CE)(ge:s.heap.get? x=some oe)(hcl:oe.cls=.ref C)(hq:Q true s):
  wpAny M A (excMatches (.ref x) (.ref CE)) Q E s:=by
 obtain⟨h,g,d,t,os⟩:=s;have kc:PySem.W.kitCls K (.ref C) (.ref CE)=some true:=by
  unfold PySem.W.kitCls;simp only[m.cl,m.ty,wL,Bool.and_self,BB];exact m.sub
 obtain⟨L1,L2',L3⟩:=PySem.W.kit_cls (M:=M) (h:=h) KI kc;have L4:=PySem.W.looks_subIn (M:=M) (h:=h) KI m.base;have L5:PySem.W.Looks M h (typeOf (.ref x)) (.ref C):=hcl▸(PySem.W.Looks.ld ge).andThen .now;have L6:PySem.W.Looks M h (isInstance (.ref CE) (.type "tuple")) false:=L1.andThen (PySem.W.Looks.of_pure tc_notTuple);have L7:PySem.W.Looks M h (isExcClass (.ref CE)) true:=L2'.andThen L4;unfold excMatches;refine zC (L6.at (zC (zP (zC ?_))));show wpAny M A (forIn [Value.ref CE] PUnit.unit _) _ E _;simp only[uJ,EV];refine zC (zC (L7.at ?_));refine zP (zP (zC (L5.at (zC (zC (zC (L3.at ?_)))))));exact zP (zP (zP hq))
def behind (D:He)(i:Nat):He:={nx:=λσ H=>D.nx (σ.set i none) H,rt:=D.rt,bk:=λσ H=>D.bk (σ.set i none) H,ct:=λσ H=>D.ct (σ.set i none) H}
def EqD (K:PySem.W.Frag)(H:Hp):Nat->V->V->Prop
 |0,x,y=>CO x=true/\x=y
 |n+1,x,y=>(CO x=true/\x=y)\/ ∃a b xs ys,x=.ref a/\y=.ref b/\((Hb K H a xs/\Hb K H b ys)\/(Gm K H a xs/\Gm K H b ys))/\Paired (EqD K H n) xs ys
theorem EqD.flat {K:PySem.W.Frag}{H:Hp}{x:V}(h:CO x=true): ∀n,EqD K H n x x
 |0=>⟨h,rfl⟩
 |_+1=>.inl ⟨h,rfl⟩
theorem QN: ∀{x:V},CO x=true->KZ x x=true
 | .non,_=>rfl
 | .bl b,_=>wL b
 | .int i,_=>wL i
 | .str z,_=>wL z
theorem Paired.get {α β:Type}{F:α->β->Prop}: ∀{xs:List α} {ys:List β},Paired F xs ys-> ∀(j:Nat) (x:α) (y:β),xs[j]? =some x->ys[j]? =some y->F x y
 |_,_,.nil,j,x,y,h,_=>by simp at h
 |_,_,.cons r t,0,x,y,h,q=>by simp at h q;subst h;subst q;exact r
 |_,_,.cons r t,j+1,x,y,h,q=>Paired.get t j x y (by simpa using h) (by simpa using q)
theorem Paired.len {α β:Type}{F:α->β->Prop}: ∀{xs:List α} {ys:List β},Paired F xs ys->xs.length=ys.length
 |_,_,.nil=>rfl
 |_,_,.cons _ t=>by simp[Paired.len t]
theorem Paired.imp {α β:Type}{F G:α->β->Prop}(h: ∀x y,F x y->G x y): ∀{xs:List α} {ys:List β},Paired F xs ys->Paired G xs ys
 |_,_,.nil=>.nil
 |_,_,.cons r t=>.cons (h _ _ r) (Paired.imp h t)
theorem JS (n:Nat):(List.range n).all (λ_=>true)=true:=List.all_eq_true.mpr λ_ _=>rfl
section
variable {X:Cx}{pins:List (Addr×Obj)}{σ:St}{H:Hp}{s:Shared}
theorem Ie {K:PySem.W.Frag}{xs ys:List V}{us vs:List Value}{R:V->V->Prop}(p:Paired R xs ys)(r:jS xs us)(q:jS ys vs)(P:Value->Value->Prop)(h: ∀x y u v,R x y->kU x u->kU y v->P u v):
  us.toArray.size=vs.toArray.size/\ ∀j (h1:j<us.toArray.size) (h2:j<vs.toArray.size),P us.toArray[j] vs.toArray[j]:=by
 refine⟨?_,λj h1 h2=>?_⟩
 ·have e1:=r.length;have e2:=q.length;have e3:=Paired.len p;simp only[yC];lia
 ·have l1:j<us.length:=by simpa using h1
  have l2:j<vs.length:=by simpa using h2
  have e1:=r.length;have e2:=q.length;have g1:xs[j]? =some xs[j]:=zE (by lia);have g2:ys[j]? =some ys[j]:=zE (by lia);simp only[List.getElem_toArray];exact h _ _ _ _ (Paired.get p j _ _ g1 g2) (Paired.get r j _ _ g1 (zE l1)) (Paired.get q j _ _ g2 (zE l2))
theorem Ps (I:xK X pins σ H s): ∀(n:Nat) (x y:V) (u v:Value) (A:Around),EqD X.K H n x y->kU x u->kU y v->A.units+n<=cLine->SeqAt.EqAt A s u v true
 |0,x,y,u,v,A,⟨f,e⟩,ru,rv,_=>by subst e;rw[<-QN f];exact Pt ru rv f f
 |n+1,x,y,u,v,A,.inl ⟨f,e⟩,ru,rv,_=>by subst e;rw[<-QN f];exact Pt ru rv f f
 |n+1,x,y,u,v,A,.inr ⟨a,b,xs,ys,ex,ey,hs,p⟩,ru,rv,hu=>by
  subst ex ey;cases ru;cases rv
  by_cases hab:a=b
  ·subst hab;exact SeqAt.EqAt.same _
  refine SeqAt.EqAt.of_refs hab ?_
  rcases hs with⟨ha,hb⟩|⟨ha,hb⟩
  ·obtain⟨us,r,pa,_⟩:=I.list ha;obtain⟨vs,q,pb,_⟩:=I.list hb;obtain⟨sz,he⟩:=Ie (K:=X.K) p r q (λu v=>SeqAt.EqAt A.in1 s u v true) λx y u v e ru rv=>Ps I n x y u v A.in1 e ru rv (by show A.units+1+n<=_;lia);have:=SeqAt.RcAt.lists (e:=λ_=>true) pa.isList pb.isList sz (by lia) he
   rwa [JS]at this
  ·obtain⟨us,r,pa,_⟩:=I.tuple ha;obtain⟨vs,q,pb,_⟩:=I.tuple hb;obtain⟨sz,he⟩:=Ie (K:=X.K) p r q (λu v=>SeqAt.EqAt A.in1 s u v true) λx y u v e ru rv=>Ps I n x y u v A.in1 e ru rv (by show A.units+1+n<=_;lia);have:=Fw (e:=λ_=>true) pa pb (by lia) he;rw[JS,sz,wL]at this;exact this
inductive zCv (K:PySem.W.Frag) (k:Bool) (x:V) (y:V) (H:Hp) (Q:VK):Prop
 |mk (a b xs ys n:_) (h0:x=.ref a) (h1:y=.ref b) (h2:((Hb K H a xs/\Hb K H b ys)\/(Gm K H a xs/\Gm K H b ys))) (h3:Paired (EqD K H n) xs ys) (h4:n<=100) (h5:Q (.bl k) H):zCv K k x y H Q
theorem RJ {k:Nat}(hr:uE k X.A):ID X (compareOp .Eq) (zCv X.K true):=by
 intro pins s σ H x y v u Q I rx ry h;obtain⟨a,b,xs,ys,n,rfl,rfl,hs,p,hn,q⟩:=h;cases rx;cases ry;have hu:=hr.un
 rcases hs with⟨ha,hb⟩|⟨ha,hb⟩
 ·obtain⟨us,r,pa,_⟩:=I.list ha;obtain⟨vs,q',pb,_⟩:=I.list hb;obtain⟨sz,he⟩:=Ie (K:=X.K) p r q' (λu v=>SeqAt.EqAt X.A.in1 s u v true) λx y u v e ru rv=>Ps I n x y u v X.A.in1 e ru rv (by show X.A.units+1+n<=_;lia);have:=SeqAt.RcAt.lists (e:=λ_=>true) pa.isList pb.isList sz (by lia) he;rw[JS]at this;exact this _ _ _ _ ⟨.bl true,H,I,rfl,q⟩
 ·obtain⟨us,r,pa,_⟩:=I.tuple ha;obtain⟨vs,q',pb,_⟩:=I.tuple hb;obtain⟨sz,he⟩:=Ie (K:=X.K) p r q' (λu v=>SeqAt.EqAt X.A.in1 s u v true) λx y u v e ru rv=>Ps I n x y u v X.A.in1 e ru rv (by show X.A.units+1+n<=_;lia);have:=Fw (e:=λ_=>true) pa pb (by lia) he;rw[JS,sz,wL]at this;exact this _ _ _ _ ⟨.bl true,H,I,rfl,q⟩
def Zs (i j:Int):Prop:=0<j/\j.natAbs.log2<8000
theorem Qo:ID X (binaryOp .FloorDiv) (rI Zs λi j=>.int (i / j)):=opI λi j _ _ _ _ _ hc q=>by
 rw[<-Int.fdiv_eq_ediv_of_nonneg i (by have:=hc.1;lia)]at q;exact floordiv_int (by have:=hc.1;lia) q (.inl (PyProof.noPylong_of_log2 (by have:=hc.2;lia)))
def zFf (t:TS):TS:=λD σ H=> ∃P:St->Hp->Prop,t {D with nx:=P} σ H/\ ∀σ' H',P σ' H'->D.nx σ' H'
theorem FI {st:Stmt}{t:TS}(h:PS X st t):PS X st (zFf t):=by
 refine⟨?_⟩;intro pins s σ H D I hw;obtain⟨P,h1,h2⟩:=hw;refine wD (h pins s σ H _ I h1) (λf s' q=>?_) λ_ _ z=>z;cases f with
 |next=>obtain⟨σ1,H1,I1,q⟩:=q;exact⟨σ1,H1,I1,h2 _ _ q⟩
 |brk=>exact q
 |cont=>exact q
 |ret u=>exact q
structure MW (P:Program)(w:World)(K:PySem.W.Frag)(mg:Str->Option Value)(base:Heap)(CX:JW)(k:Nat)(C:Addr)(m:Str)(ps:List Str)(sp:Sp):Prop where
 ex: ∃f fd,CU P w K mg base CX k f fd ps sp/\Tw K C/\YH K C m f/\Ab K fd ps []
end
section
variable {X:Cx}{o e:Expr}{es:List Expr}{m:Str}{apos pos:Pos}{ta:TE}{t:TA}{E:XK}{C:Addr}
theorem DC {CX:JW}{k n:Nat}{ps:List Str}{sp:Sp}{pl:Sem Bool}(he:PE X o ta)(G:MW X.prog X.w X.K X.mg X.base CX k C m ps sp)(hr:uE n X.A)(ha:PA X (e::es) t)(hx:BL CX X E)(hk:k<=n:=by first|decide|lia)
  (hst:starEach (e::es) X.env=(false,eval e X.env)::starEach es X.env:=by rfl) (hpl:(backTo pos (starEach es X.env)).any (·.1)=false:=by rfl)
  (ht:eval (.Call (.Attribute o m apos) (e::es) [] pos) X.env=(do
   let ov<-eval o X.env
   standAt apos.atName
   let(f,first)<-holding [ov] (getMethod ov m pl)
   callWith pos f first (backTo pos (starEach (e::es) X.env)) (backToKw pos (keywordEach [] X.env))):=by rfl):
  PE X (.Call (.Attribute o m apos) (e::es) [] pos) (SA C m sp [] E ta t):=by
 obtain⟨f,fd,F,c,hm,hb⟩:=G.ex;exact XD he c hm F (hr.mono hk) hb .nil hx ha hst hpl ht
theorem Nn {CX:JW}{k n:Nat}{ps:List Str}{sp:Sp}{pl:Sem Bool}(he:PE X o ta)(G:MW X.prog X.w X.K X.mg X.base CX k C m ps sp)(hr:uE n X.A)(hx:BL CX X E)(hk:k<=n:=by first|decide|lia)
  (ht:eval (.Call (.Attribute o m apos) [] [] pos) X.env=(do
   let ov<-eval o X.env
   standAt apos.atName
   let(f,first)<-holding [ov] (getMethod ov m pl)
   callWith pos f first (backTo pos (starEach [] X.env)) (backToKw pos (keywordEach [] X.env))):=by rfl):
  PE X (.Call (.Attribute o m apos) [] [] pos) (SA C m sp [] E ta Rh):=by
 obtain⟨f,fd,F,c,hm,hb⟩:=G.ex;exact VC he c hm F (hr.mono hk) hb .nil hx ht
theorem LR {f:Str}{te:TE}(K:PySem.W.Frag)(hK:X.K=K)(he:PE X e te)(hb:attributeBase e f X.env (eval e X.env)=eval e X.env:=by rfl):PE X (.Attribute e f pos) (YO K te f):=by
 subst hK;exact XF he hb
structure Xh (P:Program)(w:World)(K:PySem.W.Frag)(mg:Str->Option Value)(base:Heap)(CX:JW)(k:Nat)(x:Str)(C:Addr)(ps:List Str)(sp:Sp):Prop where
 ex: ∃f fd,Mk K C f/\CU P w K mg base CX k f fd ps sp/\mg x=some (.ref C)/\Ab K fd ps []
theorem Ql {x:Str}{p:Pos}{CX:JW}{k n:Nat}{ps:List Str}{sp:Sp}(G:Xh X.prog X.w X.K X.mg X.base CX k x C ps sp)(hr:uE n X.A)(hg:Gl X x)(ha:PA X (e::es) t)(hx:BL CX X E)(hk:k+1<=n:=by first|decide|lia)
  (hdb:(x==("__debug__":Str))=false:=by decide) (he:starEach (e::es) X.env=(false,eval e X.env)::starEach es X.env:=by rfl) (hpl:(backTo pos (starEach es X.env)).any (·.1)=false:=by rfl):
  PE X (.Call (.Name x p) (e::es) [] pos) (YM C sp [] E t):=by
 obtain⟨f,fd,M,F,hm,hb⟩:=G.ex;exact XE M F (hr.mono hk) hg hm hb .nil hx ha hdb he hpl
structure Go (P:Program)(w:World)(K:PySem.W.Frag)(mg:Str->Option Value)(base:Heap)(k:Nat)(x:Str)(C:Addr)(ps:List Str)(sp:Sp):Prop where
 ex: ∃f fd,QY K C f/\CU P w K mg base (Hl P w) k f fd ps sp/\mg x=some (.ref C)/\Ab K fd ps []
theorem wF {x:Str}{np cpos:Pos}{k n:Nat}{ps:List Str}{sp:Sp}(G:Go X.prog X.w X.K X.mg X.base k x C ps sp)(hr:uE n X.A)(hg:Gl (X.exc E) x)(ha:PA (X.exc E) (e::es) t)(hc:X.calm=true:=by rfl)(hk:k+1<=n:=by first|decide|lia)
  (hdb:(x==("__debug__":Str))=false:=by decide) (he:starEach (e::es) X.env=(false,eval e X.env)::starEach es X.env:=by rfl) (hpl:(backTo cpos (starEach es X.env)).any (·.1)=false:=by rfl):
  PS (X.exc E) (.Raise (some (.Call (.Name x np) (e::es) [] cpos)) none pos) (Ve C sp E t):=by
 obtain⟨f,fd,M,F,hm,hb⟩:=G.ex;exact Vx M F (hr.mono hk) hg hm hb ha hc hdb he hpl
end
end L2
namespace L2
open PySem PySem.Spec PySem.Builtin.Str PyProof.Rows
section
variable {X:Cx}
theorem MZ: ∀(ts:List Str) (k:Nat),jS (ts.map V.str) (strsFrom k ts)
 |[],_=>.nil
 |x::r,k=>.cons ⟨k,rfl⟩ (MZ r (k+1))
def YK (mg:Str->Option Value)(x z:Str):Prop:= ∃t,mg x=some (.str z t)
theorem SS {x z:Str}{pos:Pos}(hg:Gl X x)(hm:YK X.mg x z)(hd:(x==("__debug__":Str))=false:=by decide):PE X (.Name x pos) (tC (.str z)):=by
 obtain⟨t,hm⟩:=hm;exact OX (v:=.str z) hg hm ⟨t,rfl⟩ hd
inductive Vr (x:V) (vs:List V) (H:Hp) (Q:VK):Prop
 |mk (t sep:Str) (h0:x=.str t) (h1:vs=[.str sep]) (h2:(sep.length==0)=false) (h3:t.length<=sizeLine) (h4:(Txt.split t sep).length<=sizeLine) (h5: ∀p,H p=none->Q (.ref p) (upd H p (.lst ((Txt.split t sep).map V.str)))):Vr x vs H Q
theorem Mc:US X "str.split" Vr:=by
 intro pins s σ H x vs v us Q I rx rv h;obtain⟨t,sep,rfl,rfl,hs,hz,hn,q⟩:=h;obtain⟨tk,rfl⟩:=rx;obtain⟨u,rfl,ru⟩:=rv.one;obtain⟨tk2,rfl⟩:=ru;have one:Txt.split t sep=[t]-> ∀k',EP X pins σ Q (.ref s.heap.objs.size) {s with heap:=s.heap.push {cls:=.type "list",data:=.seq [Value.str t tk].toArray},toks:=k'}:=λe k'=>by
  have q':=q _ I.fresh;rw[e]at q' hn;exact⟨.ref s.heap.objs.size,_,I.lnew (ys:=[V.str t]) (.cons ⟨tk,rfl⟩ .nil) hn,rfl,q'⟩
 cases h1:(decide (t.length<sep.length) || decide (PySem.Builtin.Str.strKind t<PySem.Builtin.Str.strKind sep))
 ·cases hf:(occurrences t sep 0 t.length (t.length+1)).isEmpty
  ·have e:Txt.split t sep=partsBetween t (occurrences t sep 0 t.length (t.length+1)) sep.length:=(zI (Eh h1)).trans (zI (Eh hf));rw[e]at hn q;refine wW GA (AW _ _ _) FC (EW _ _) (meets_str_split_sep t sep tk tk2 h1 hs hf hz hn) ?_;exact⟨.ref s.heap.objs.size,_,I.lnew (MZ _ _) (by rw[zD];exact hn),rfl,q _ I.fresh⟩
  ·have e:Txt.split t sep=[t]:=(zI (Eh h1)).trans (zT hf);exact wW GA (AW _ _ _) FC (EW _ _) (meets_str_split_not_found t sep tk tk2 h1 hs hf) (one e _)
 ·have e:Txt.split t sep=[t]:=zT h1;exact wW GA (AW _ _ _) FC (EW _ _) (meets_str_split_cannot_occur t sep tk tk2 h1) (one e _)
inductive SL (x:V) (vs:List V) (H:Hp) (Q:VK):Prop
 |mk (t y:Str) (h0:x=.str t) (h1:vs=[.str y]) (h2:Q (.bl (decide (0+y.length<=t.length)&&subAt t y 0)) H):SL x vs H Q
theorem Uh:US X "str.startswith" SL:=by
 intro pins s σ H x vs v us Q I rx rv h;obtain⟨t,y,rfl,rfl,q⟩:=h;obtain⟨tk,rfl⟩:=rx;obtain⟨u,rfl,ru⟩:=rv.one;obtain⟨tk2,rfl⟩:=ru;exact wW F.slot_str_startswith (AW _ _ _) F.entry_str_startswith (F.args_str_startswith_2 _ _) (gives_str_startswith t y tk tk2).meets ⟨.bl _,H,I,rfl,q⟩
theorem Er:EM X (.type "int") (λxs H Q=> ∃(x:Str) (n:Int),xs=[.str x]/\PySem.intText? x=some n/\x.length<=640/\Q (.int n) H):=by
 intro pins s σ H xs us Q I r h;obtain⟨x,n,rfl,hn,hl,q⟩:=h;obtain⟨u,rfl,t,rfl⟩:=KG r;exact PySem.W.KIN.call_text hn hl ⟨.int _,H,I.tok _,⟨_,rfl⟩,q⟩
def MH (x:Str):It:=⟨λi _=>i<x.cps.size,λi H v H'=>H'=H/\ ∃c,x.cps[i]? =some c/\v=.str ⟨#[c]⟩,λi _=>x.cps.size<=i⟩
inductive Zc (v:V) (H1:Hp) (R:It->Hp->Prop):Prop
 |mk (x:Str) (h0:v=.str x) (h1:R (MH x) H1):Zc v H1 R
def zFw (tl:TE):TI:=λσ H R=>tl σ H λv H1=>Zc v H1 R
theorem Ho (x:Str):strIterType x="str_ascii_iterator"\/strIterType x="str_iterator":=by
 unfold strIterType;split
 ·exact .inl rfl
 ·exact .inr rfl
theorem UY {P:Program}{w:World}{K:PySem.W.Frag}{tg:Expr}(it:Addr)(x:Str)(t:Tok):Pz P w K tg (MH x) [it] it (λi h=>h.IsStrIter it (strIterType x) x t i) where
 mem:=by simp
 obj:=λi h st b hb=>by
  have e:b=it:=by simpa using hb
  subst e;obtain⟨o,e,c,d⟩:=st;exact⟨o,e,λv z=>by rw[d]at z;cases z⟩
 keep:=λi h h' st k=>by
  obtain⟨o,e,r⟩:=st;exact⟨o,k it (by simp) o e,r⟩
 item:=by
  intro X hP hw hK hc i pins s σ H E I hf st hg;subst hP hw hK;obtain⟨f0,f1,f2,f3,f4,f5⟩:=hf it (by simp);have hx:x.cps[i]? =some (x.cps[i]'hg):=Bm hg;generalize x.cps[i]'hg=c at hx;have I1: ∀h',Heap.SameBut it s.heap h'->xK X pins σ H {s with heap:=h',toks:=s.toks+1}:=λh' sb=>I.turned (t':=s.toks+1) (λb o hb e=>(sb.2 b hb).trans e) f0 f1 f3 f4 f5
  rcases Ho x with e|e
  ·rw[e]at st ⊢;refine wpAny_pyNext_ascii_item st hx λh' st' sb=>?_;obtain⟨o,e,cl,d⟩:=id st';exact⟨_,rfl,Mr (s:={s with heap:=h',toks:=s.toks+1}) e cl d (by decide) ⟨.str ⟨#[c]⟩,H,I1 h' sb,⟨_,rfl⟩,⟨rfl,c,hx,rfl⟩,st',λb hb=>(hf b hb).1⟩⟩
  ·rw[e]at st ⊢;refine wpAny_pyNext_wide_item st hx λh' st' sb=>?_;obtain⟨o,e,cl,d⟩:=id st';exact⟨_,rfl,Mr (s:={s with heap:=h',toks:=s.toks+1}) e cl d (by decide) ⟨.str ⟨#[c]⟩,H,I1 h' sb,⟨_,rfl⟩,⟨rfl,c,hx,rfl⟩,st',λb hb=>(hf b hb).1⟩⟩
 done:=by
  intro X hP hw hK hc i pins s σ H E I hf st hg;subst hP hw hK;obtain⟨f0,f1,f2,f3,f4,f5⟩:=hf it (by simp);have hx:x.cps[i]? =none:=Array.getElem?_eq_none hg
  rcases Ho x with e|e
  ·rw[e]at st;exact wpAny_pyNext_ascii_end (I.ok.hd hc) st hx λh' eb=>⟨rfl,I.turned (t':=s.toks) (λb o hb e=>eb b o hb e) f0 f1 f3 f4 f5⟩
  ·rw[e]at st;exact wpAny_pyNext_wide_end (I.ok.hd hc) st hx λh' eb=>⟨rfl,I.turned (t':=s.toks) (λb o hb e=>eb b o hb e) f0 f1 f3 f4 f5⟩
 self:=by
  intro A i s Q E st h
  rcases Ho x with e|e
  ·rw[e]at st;exact wpAny_pyIter_striter_ascii st h
  ·rw[e]at st;exact wpAny_pyIter_striter_wide st h
theorem RF {tg l:Expr}{tl:TE}(hl:PE X l tl):PI X tg l (zFw tl):=by
 refine⟨?_⟩;intro pins s σ H R I h;refine qT (hl pins s σ H _ I h) λv s1 z=>?_;obtain⟨y,H1,I1,r1,x,rfl,q⟩:=z;obtain⟨t,rfl⟩:=r1;refine wpAny_pyIter_strU ?_;refine⟨s1.heap.objs.size,[s1.heap.objs.size],_,_,H1,rfl,I1.kept (t':=s1.toks) λb o e=>zJ _ e,UY _ x t,⟨_,yL _ rfl,rfl,rfl⟩,λb hb=>?_,q⟩;have e:b=s1.heap.objs.size:=by simpa using hb
 subst e;exact I1.fpOk (zW _) (I1.hok.fresh (zW _))
theorem Ys {x:Str}{g:TG}{tb:TS}{D:He}{σ:St}{H:Hp}(Pv:Nat->St->Hp->Prop)(h0:Pv 0 σ H)
  (hs: ∀i c σ H,x.cps[i]? =some c->Pv i σ H->g (.str ⟨#[c]⟩) σ H λσ2 H2=>tb {D with nx:=Pv (i+1),ct:=Pv (i+1),bk:=D.nx} σ2 H2) (hd: ∀σ H,Pv x.cps.size σ H->D.nx σ H):
  ∃W:Nat->Nat->St->Hp->Prop,(∃m,W 0 m σ H)/\ ∀i m σ H,W i m σ H->
   ((MH x).stop i H/\D.nx σ H)\/((MH x).go i H/\ ∃N:St->Hp->Prop,(∀σ' H',N σ' H'-> ∃m',m'<m/\W (i+1) m' σ' H')/\ ∀v H',(MH x).yld i H v H'->g v σ H' λσ2 H2=>tb {D with nx:=N,ct:=N,bk:=D.nx} σ2 H2):=by
 refine⟨λi m σ H=>m=x.cps.size-i/\i<=x.cps.size/\Pv i σ H,⟨x.cps.size,rfl,yU _,h0⟩,?_⟩;rintro i m σ H ⟨rfl,hi,p⟩
 by_cases hlt:i<x.cps.size
 ·refine .inr ⟨hlt,Pv (i+1),λσ' H' p'=>⟨x.cps.size-(i+1),by lia,rfl,hlt,p'⟩,λv H' y=>?_⟩;obtain⟨e,c,hx,rfl⟩:=y;subst e;exact hs i c σ _ hx p
 ·have e:i=x.cps.size:=by lia
  subst e;exact .inl ⟨zW _,hd σ H p⟩
end
end L2
namespace L2
open PySem
def qR (c:Nat):List (List Nat)->List Nat
 |[]=>[]
 |[a]=>a
 |a::b::r=>a++c::qR c (b::r)
theorem Tj {c:Nat}: ∀{a b x y:List Nat},c∉a->c∉b->(x=[]\/ ∃z,x=c::z)->(y=[]\/ ∃z,y=c::z)->a++x=b++y->a=b/\x=y
 |[],[],x,y,_,_,_,_,e=>⟨rfl,e⟩
 |[],b::bs,x,y,_,hb,hx,_,e=>by
  rcases hx with rfl|⟨z,rfl⟩
  ·cases e
  ·rw[jV,jD]at e;injection e with e1 _
   exact absurd (by rw[e1];exact zO) hb
 |a::as,[],x,y,ha,_,_,hy,e=>by
  rcases hy with rfl|⟨z,rfl⟩
  ·cases e
  ·rw[jV,jD]at e;injection e with e1 _
   exact absurd (by rw[<-e1];exact zO) ha
 |a::as,b::bs,x,y,ha,hb,hx,hy,e=>by
  rw[jD,jD]at e;injection e with e1 e2
  obtain⟨r1,r2⟩:=Tj (λz=>ha (zQ _ z)) (λz=>hb (zQ _ z)) hx hy e2;exact⟨by rw[e1,r1],r2⟩
theorem Je (c:Nat)(a:List Nat)(r:List (List Nat)): ∃x,qR c (a::r)=a++x/\((r=[]/\x=[])\/(r≠[]/\x=c::qR c r)):=by
 cases r with
 |nil=>exact⟨[],(by rw[xI];rfl),.inl ⟨rfl,rfl⟩⟩
 |cons b r=>exact⟨_,rfl,.inr ⟨(λz=>nomatch z),rfl⟩⟩
theorem NR {c:Nat}: ∀{as bs:List (List Nat)},as≠[]->bs≠[]->(∀a∈as,c∉a)->(∀b∈bs,c∉b)->qR c as=qR c bs->as=bs
 |[],_,h,_,_,_,_=>absurd rfl h
 |_::_,[],_,h,_,_,_=>absurd rfl h
 |a::as,b::bs,_,_,ha,hb,e=>by
  obtain⟨x,ex,cx⟩:=Je c a as;obtain⟨y,ey,cy⟩:=Je c b bs;rw[ex,ey]at e;have sx:x=[]\/ ∃z,x=c::z:=by
   rcases cx with⟨_,e⟩|⟨_,e⟩
   ·exact .inl e
   ·exact .inr ⟨_,e⟩
  have sy:y=[]\/ ∃z,y=c::z:=by
   rcases cy with⟨_,e⟩|⟨_,e⟩
   ·exact .inl e
   ·exact .inr ⟨_,e⟩
  obtain⟨rfl,rfl⟩:=Tj (ha a zO) (hb b zO) sx sy e
  rcases cx with⟨e1,e2⟩|⟨e1,e2⟩<;>rcases cy with⟨e3,e4⟩|⟨e3,e4⟩
  ·rw[e1,e3]
  ·rw[e2]at e4;cases e4
  ·rw[e2]at e4;cases e4
  ·rw[e2]at e4;injection e4 with _ e5
   rw[NR e1 e3 (λz hz=>ha z (zQ _ hz)) (λz hz=>hb z (zQ _ hz)) e5]
theorem Bs (c:Nat): ∀ts:List Str,(Str.join ⟨#[c]⟩ ts).cps.toList =qR c (ts.map λt=>t.cps.toList)
 |[]=>rfl
 |[t]=>rfl
 |t::u::r=>by
  have ih:=Bs c (u::r);show(t++⟨#[c]⟩++Str.join ⟨#[c]⟩ (u::r)).cps.toList =t.cps.toList++c::qR c ((u::r).map λt=>t.cps.toList);rw[<-ih];show(t.cps++#[c]++(Str.join ⟨#[c]⟩ (u::r)).cps).toList =_
  simp
theorem Pw {ts us:List Str}(h:ts.map (λt=>t.cps.toList)=us.map (λt=>t.cps.toList)):ts=us:=by
 induction ts generalizing us with
 |nil=>cases us with
  |nil=>rfl
  |cons u us=>cases h
 |cons t ts ih=>cases us with
  |nil=>cases h
  |cons u us=>
   rw[yQ,yQ]at h;injection h with h1 h2
   rw[ih h2];obtain⟨a⟩:=t;obtain⟨b⟩:=u;have:a=b:=Array.toList_inj.mp h1;rw[this]
theorem Rk {c:Nat}{ts:List Str}(h0:ts≠[])(hf: ∀t∈ts,c∉t.cps.toList):Txt.split (Txt.join ⟨#[c]⟩ ts) ⟨#[c]⟩=ts:=by
 have ej:Txt.join ⟨#[c]⟩ ts=Str.join ⟨#[c]⟩ ts:=vU _ _;rw[ej];have e:=jB (λt:Str=>t.cps.toList) (BP (Str.join ⟨#[c]⟩ ts) ⟨#[c]⟩)
 try dsimp only at e
 rw[Bs,Bs]at e;refine Pw (NR ?_ ?_ ?_ ?_ e)
 ·have:=PyProof.Rows.split_pos (Str.join ⟨#[c]⟩ ts) ⟨#[c]⟩;intro z;rw[List.map_eq_nil_iff.mp z]at this;exact absurd this (by decide)
 ·intro z;exact h0 (List.map_eq_nil_iff.mp z)
 ·intro a ha;obtain⟨t,ht,rfl⟩:=List.mem_map.mp ha;exact EQ _ c t ht
 ·intro a ha;obtain⟨t,ht,rfl⟩:=List.mem_map.mp ha;exact hf t ht
open PySem.NumText PySem.W
abbrev Bc (n:Int):Str:=Str.ofString (toString n)
abbrev HS (m:Nat):List Nat:=(Nat.toDigits 10 m).map Char.toNat
theorem Iv {m:Nat}(h:m<10):HS m=[48+m]:=by
 have: ∀m:Fin 10,(Nat.digitChar m.1).toNat =48+m.1:=by decide
 show(Nat.toDigits 10 m).map Char.toNat=_;rw[Nat.toDigits_of_lt_base h];show[(Nat.digitChar m).toNat]=_;rw[this ⟨m,h⟩]
theorem Lu {m:Nat}(h: ¬m<10):HS m=HS (m / 10)++[48+m % 10]:=by
 have hm:m % 10<10:=ET m (by decide);have t:Nat.toDigits 10 (m / 10)++Nat.toDigits 10 (m % 10)=Nat.toDigits 10 (10*(m / 10)+m % 10):=Nat.toDigits_append_toDigits (by decide) (by lia) hm;rw[Nat.div_add_mod]at t;show(Nat.toDigits 10 m).map Char.toNat=_;rw[<-t,yB];have:=Iv hm;show HS (m / 10)++HS (m % 10)=_;rw[this]
theorem Gi (m:Nat):AllDigits (HS m):=by
 induction m using Nat.strongRecOn with
 |_ m ih=>
  intro c hc
  by_cases h:m<10
  ·rw[Iv h]at hc;rw[List.mem_singleton.mp hc];lia
  ·rw[Lu h]at hc
   rcases List.mem_append.mp hc with z|z
   ·exact ih (m / 10) (by lia) c z
   ·rw[List.mem_singleton.mp z];have:m % 10<10:=ET m (by decide);lia
theorem Iw (m:Nat): ∃c r,HS m=c::r/\(m≠0->c≠48):=by
 induction m using Nat.strongRecOn with
 |_ m ih=>
  by_cases h:m<10
  ·exact⟨_,_,Iv h,λz=>by lia⟩
  ·obtain⟨c,r,e,n⟩:=ih (m / 10) (by lia);exact⟨c,r++[48+m % 10],by rw[Lu h,e];rfl,λ_=>n (by lia)⟩
theorem JN: ∀{k m:Nat},m<10^(k+1)->(HS m).length<=k+1
 |0,m,h=>by rw[Iv (by lia)];exact zW _
 |k+1,m,h=>by
  by_cases c:m<10
  ·rw[Iv c];show 1<=_;lia
  ·have:m / 10<10^(k+1):=by
    rw[Nat.pow_succ]at h;exact Nat.div_lt_of_lt_mul (by rw[Nat.mul_comm];exact h)
   have:=JN this;rw[Lu c,zB];show _+1<=_;lia
theorem QP (m:Nat):digitsVal (HS m)=m:=KIN.val_back m
theorem FZ (n:Int):(0<=n/\(Bc n).cps.toList =HS n.natAbs)\/(n<0/\(Bc n).cps.toList =45::HS n.natAbs):=by
 cases n with
 |ofNat m=>exact .inl ⟨Int.natCast_nonneg m,KIN.signs_num m⟩
 |negSucc m=>
  refine .inr ⟨Int.negSucc_lt_zero m,?_⟩;have e:toString (Int.negSucc m)="-"++Nat.repr (m+1):=rfl;show(Str.ofString (toString (Int.negSucc m))).cps.toList =45::(Nat.toDigits 10 (m+1)).map Char.toNat;rw[e,PyProof.Rows.signs_ofString];rw[String.toList_append,yB,Nat.toList_repr];rfl
theorem Wf {n:Int}(h:n.natAbs<10^600):PySem.intText? (Bc n)=some n/\(Bc n).length<=601:=by
 have hl:(HS n.natAbs).length<=600:=JN (k:=599) h;obtain⟨c,r,e,_⟩:=Iw n.natAbs;have ne:HS n.natAbs≠[]:=by rw[e];exact λz=>nomatch z
 have ln:(Bc n).cps.toList.length =(Bc n).length:=yR
 rcases FZ n with⟨h0,hc⟩|⟨h0,hc⟩
 ·rw[hc]at ln;refine⟨?_,by lia⟩;rw[EO (by rw[hc];exact Gi _) (by rw[hc];exact ne) (by lia),hc,QP];exact jB some (by lia)
 ·rw[hc,zK]at ln;refine⟨?_,by lia⟩;rw[intText_neg hc (Gi _) ne (by lia),QP];exact jB some (by lia)
theorem SJ (c:Nat)(x:Str):(!(Builtin.Str.occurrences x ⟨#[c]⟩ 0 x.length 1).isEmpty)=decide (c∈x.cps.toList):=StrLaws.found_one x c
def AM (w sg:Str):Bool:=w.cps.toList.all λc=>decide (c∈sg.cps.toList)
def wB (x:Str):Str:=match x.cps.toList with
 |45::r=>⟨r.toArray⟩
 |_=>x
theorem NC:(Str.ofString "-")=⟨#[45]⟩:=by decide
theorem Jq (x:Str):(decide (0+(Str.ofString "-").length<=x.length)&&Builtin.Str.subAt x (Str.ofString "-") 0)=true ↔ x.cps.toList[0]? =some 45:=by
 rw[jF,Fv,NC];exact StrLaws.subAt_one x 45 0
theorem zAu (x:Str):x=⟨x.cps.toList.toArray⟩:=rfl
theorem AT {x:Str}{r:List Nat}(h:x.cps.toList=45::r):wB x=⟨r.toArray⟩/\Txt.slice x (some 1) none=⟨r.toArray⟩:=by
 constructor
 ·unfold wB;rw[h]<;>rfl
 ·have hl:x.cps.toList.length=x.length:=yR;rw[h,zK]at hl;have e:=eq_of_beq (Di (x:=x) (i:=1) (b:=(x.length:Int)) (by decide) (by lia) rfl);rw[e,h];show(⟨((45::r).drop 1 |>.take ((x.length:Int)-1).toNat).toArray⟩:Str)=_;rw[List.drop_one,List.tail_cons,xG (by lia)]
theorem AS {x:Str}(h: ¬x.cps.toList[0]? =some 45):wB x=x:=by
 unfold wB;split
 ·rename_i r e;rw[e]at h;exact absurd rfl h
 ·rfl
theorem QI (x:Str):(wB x).length<=x.length:=by
 by_cases c:x.cps.toList[0]? =some 45
 ·obtain⟨r,er⟩: ∃r,x.cps.toList=45::r:=by
   cases e:x.cps.toList with
   |nil=>rw[e]at c;cases c
   |cons a r=>rw[e]at c;cases c;exact⟨r,rfl⟩
  have hl:x.cps.toList.length=x.length:=yR;rw[er,zK]at hl;rw[(AT er).1];show r.toArray.size<=_;rw[yC];lia
 ·rw[AS c];exact zW _
def qU (x:Str)(most:Int):Bool:=decide (1<=(wB x).length)&&decide (((wB x).length:Int)<=most)&&AM (wB x) "0123456789"&&(decide (x="0") || !decide ((wB x).cps.toList[0]? =some 48))
theorem WF (n:Int):(wB (Bc n)).cps.toList =HS n.natAbs:=by
 rcases FZ n with⟨_,e⟩|⟨_,e⟩
 ·rw[AS (λz=>?_),e];obtain⟨c,r,ed,_⟩:=Iw n.natAbs;have:=Gi n.natAbs c (by rw[ed];exact zO);rw[e,ed]at z;cases z;lia
 ·rw[(AT e).1]
theorem HR:(Str.ofString "0123456789").cps.toList =[48,49,50,51,52,53,54,55,56,57]:=by decide
theorem Ux {c:Nat}(h:48<=c/\c<=57):c∈(Str.ofString "0123456789").cps.toList:=by
 rw[HR];have:c=48\/c=49\/c=50\/c=51\/c=52\/c=53\/c=54\/c=55\/c=56\/c=57:=by lia
 simpa using this
theorem Kn {n:Int}{k:Nat}{most:Int}(h:n.natAbs<10^(k+1))(hk:((k+1:Nat):Int)<=most):qU (Bc n) most=true:=by
 have ef:=WF n;have hl:(wB (Bc n)).cps.toList.length =(wB (Bc n)).length:=yR;obtain⟨c,r,ed,hn⟩:=Iw n.natAbs;have dl:=JN h;rw[ef]at hl;have l1:1<=(HS n.natAbs).length:=by rw[ed];exact Nat.succ_le_succ (yU _)
 have ia:AM (wB (Bc n)) "0123456789"=true:=by
  unfold AM;rw[ef,wM];intro d hd;exact zY (Ux (Gi _ d hd))
 unfold qU;rw[zY (by lia),zY (by lia),ia,ef,ed]
 by_cases z:n=0
 ·subst z;rw[zY (show Bc 0=("0":Str)by decide)];rfl
 ·have:c≠48:=hn (by lia);rw[yA (show ¬(c::r)[0]? =some 48 from λe=>this (by injection e))]
  simp
theorem Uf {n:Int}{c:Nat}(h:c∈(Bc n).cps.toList):c=45\/(48<=c/\c<=57):=by
 rcases FZ n with⟨_,e⟩|⟨_,e⟩
 ·rw[e]at h;exact .inr (Gi _ c h)
 ·rw[e]at h
  rcases List.mem_cons.mp h with z|z
  ·exact .inl z
  ·exact .inr (Gi _ c z)
def vJ (x:Str):Int:=(PySem.intText? x).getD 0
theorem Iq {x:Str}{most:Int}(h:qU x most=true):1<=(wB x).length/\((wB x).length:Int)<=most/\ ∀c∈(wB x).cps.toList,48<=c/\c<=57:=by
 unfold qU at h;rw[jF,jF,jF]at h;obtain⟨⟨⟨h1,h2⟩,h3⟩,_⟩:=h;refine⟨zZ h1,zZ h2,λc hc=>?_⟩;unfold AM at h3;rw[wM]at h3;have:=zZ (h3 c hc);rw[HR]at this
 simp at this
 omega
theorem Nw {x:Str}(h:qU x 60=true):PySem.intText? x=some (vJ x)/\x.length<=640:=by
 obtain⟨h1,h2,h3⟩:=Iq h;have hl:(wB x).cps.toList.length =(wB x).length:=yR;have ne:(wB x).cps.toList≠[]:=λz=>by rw[z]at hl;have:([]:List Nat).length =0:=rfl;lia
 by_cases c:x.cps.toList[0]? =some 45
 ·obtain⟨r,er⟩: ∃r,x.cps.toList=45::r:=by
   cases e:x.cps.toList with
   |nil=>rw[e]at c;cases c
   |cons a r=>rw[e]at c;cases c;exact⟨r,rfl⟩
  have ef:(wB x).cps.toList =r:=by rw[(AT er).1]
  rw[ef]at h3 ne hl;have hx:x.cps.toList.length=x.length:=yR;rw[er,zK]at hx;refine⟨?_,by lia⟩;unfold vJ;rw[intText_neg er h3 ne (by lia)];rfl
 ·have ef:=AS c;rw[ef]at h2 h3 ne hl;refine⟨?_,by lia⟩;unfold vJ;rw[EO h3 ne (by lia)];rfl
theorem PU {n:Int}(h:n.natAbs<10^600):vJ (Bc n)=n:=by
 unfold vJ;rw[(Wf h).1];rfl
def lettersS:Str:="abcdefghijklmnopqrstuvwxyz"
def kwH:List Str:=["fun","with","is"]
def kwW:List Str:=["set","all","pick","loop","call","fail","add","sub","mul","quo","rest","less","same","push","at","put","size","new"]
def jL (w:Str):Bool:=decide (1<=w.length)&&decide (w.length<=8)&&AM w lettersS&&!decide (w∈kwH)&&!decide (w∈kwW)
def jT:List (Str×Int)->Str->Option Int
 |[],_=>none
 |p::r,x=>if p.1=x then some p.2 else jT r x
def IC:List Str->Int->List (Str×Int)->List (Str×Int)
 |[],_,acc=>acc
 |w::r,f,acc=>if w="fun" then IC r (f+1) (match r with|[]=>acc|n::_=>if(jT acc n).isSome then acc else acc++[(n,f)])else IC r f acc
def AA (W:List Str):List (Str×Int):=IC W 0 []
def BX:List Str->Nat->Int×List Int
 |[],n=>(n,[])
 |w::r,n=>
  let q:=BX r (n+1)
  let e:Int:=if w="with" then n else q.1
  (e,if w="fun" then(e-n-2)::q.2 else q.2)
def AH (W:List Str):List Int:=(BX W 0).2
section
variable (W:List Str)
def Bq (a:Nat):Except Nat Str:=match W[a]? with|some w=>.ok w|none=>.error a
def HL (a:Nat)(there:List Str):Except Nat Str:=match W[a]? with
 |some w=>if jL w=true/\w∉there then .ok w else .error a
 |none=>.error a
def wV (most:Nat)(last:Str):Nat->Nat->List Str->Except Nat (Nat×List Str)
 |0,a,_=>.error a
 |n+1,a,bs=>match W[a]? with
  |none=>.error a
  |some w=>if w=last then .ok (a+1,bs)else if bs.length=most then .error a else if jL w=true/\w∉bs then wV most last n (a+1) (bs++[w])else .error a
def Ji (a:Nat)(bs:List Str):Except Nat Nat:=match W[a]? with
 |some w=>if w∈bs then .ok (bs.idxOf w)else .error a
 |none=>.error a
def IB (a:Nat):Except Nat Int:=match W[a]? with
 |some w=>if qU w 60=true then .ok (vJ w)else .error a
 |none=>.error a
def Eg (a:Nat)(least:Int):Except Nat Int:=match IB W a with
 | .ok n=>if n<least\/12<n then .error a else .ok n
 | .error e=>.error e
def Aq (num:List (Str×Int))(a:Nat):Except Nat Int:=match W[a]? with
 |some w=>if jL w=true then(match jT num w with|some f=>.ok f|none=>.error a)else .error a
 |none=>.error a
def Am (num:List (Str×Int))(a:Nat)(k:Int)(bs:List Str):Except Nat (List Int×Nat):=
 if k=0 then(match IB W a with| .ok n=>.ok ([n],a+1)| .error e=>.error e)
 else if k=1\/k=2 then(match Ji W a bs with| .ok n=>.ok ([(n:Int)],a+1)| .error e=>.error e)
 else if k=3 then(match Eg W a 1 with| .ok n=>.ok ([n],a+1)| .error e=>.error e)
 else if k=4 then(match Eg W a 2 with| .ok n=>.ok ([n],a+1)| .error e=>.error e)
 else if k=6 then(match Aq W num a with| .ok n=>.ok ([n],a+1)| .error e=>.error e)
 else .ok ([],a)
def Ag (a:Nat)(bs:List Str):Except Nat (Int×Nat):=match W[a]? with
 |some w=>if qU w 60=true then .ok (0,a)else if w∈bs then .ok (1,a)else if w∈kwW then .ok (2+(kwW.idxOf w:Int),a+1)else .error a
 |none=>.error a
end
def partsW:List Int:=[1,2,2,2,2,2,2,2,2,2,3,1,0]
def GZ (cnt:List Int)(k:Int)(ns:List Int):Int:=
 if k=0\/k=1 then 0 else if k=2 then 1 else if k=3 then ns.headD 0 else if k=4 then 1+ns.headD 0 else if k=5 then 2
 else if k=6 then(cnt[(ns.headD 0).toNat]?).getD 0 else(partsW[(k-7).toNat]?).getD 0
abbrev Zr:=Nat->List Int->Except Nat (Nat×List Int)
def uD (f:Zr):Nat->Zr
 |0,a,bd=>.ok (a,bd)
 |n+1,a,bd=>match f a bd with| .ok q=>uD f n q.1 q.2| .error e=>.error e
def uC (W:List Str)(num:List (Str×Int))(cnt:List Int)(bs:List Str):Nat->Zr
 |0,a,_=>.error a
 |d+1,a,bd=>match Ag W a bs with
  | .error e=>.error e
  | .ok q=>match Am W num q.2 q.1 bs with
   | .error e=>.error e
   | .ok r=>uD (uC W num cnt bs d) (GZ cnt q.1 r.1).toNat r.2 (bd++q.1::r.1)
structure RS where
 at_:Nat
 names:List (Str×List Str)
 heads:List Int
 bodies:List Int
def Lk (W:List Str)(num:List (Str×Int))(cnt:List Int)(s:RS):Except Nat RS:=match W[s.at_]? with
 |none=>.error s.at_
 |some w=>if w≠"fun"\/s.names.length=16 then .error s.at_ else match HL W (s.at_+1) (s.names.map (·.1))with
  | .error e=>.error e
  | .ok nm=>match wV W (if s.names=[]then 0 else 4) "with" (W.length+1) (s.at_+2) []with
   | .error e=>.error e
   | .ok q=>match wV W 12 "is" (W.length+1) q.1 q.2 with
    | .error e=>.error e
    | .ok r=>match uC W num cnt r.2 10 r.1 s.bodies with
     | .error e=>.error e
     | .ok z=>.ok ⟨z.1,s.names++[(nm,r.2)],s.heads++[(q.2.length:Int),(r.2.length:Int)],z.2⟩
def Gh (W:List Str)(num:List (Str×Int))(cnt:List Int):Nat->RS->Except Nat RS
 |0,s=>.ok s
 |n+1,s=>if s.at_<W.length then(match Lk W num cnt s with| .error e=>.error e| .ok s'=>Gh W num cnt n s')else .ok s
def Jz (W:List Str):Except Nat RS:=match Lk W (AA W) (AH W) ⟨0,[],[],[]⟩with
 | .error e=>.error e
 | .ok s=>Gh W (AA W) (AH W) W.length s
def OP (s:RS):List Int:=(s.names.length:Int)::(s.heads++s.bodies)
section
variable {W:List Str}{num:List (Str×Int)}{cnt:List Int}{bs:List Str}
theorem EI {a:Nat}{w:Str}(h:W[a]? =some w):a<W.length:=by
 rw[List.getElem?_eq_some_iff]at h;exact h.1
theorem SX {a:Nat}{n:Int}(h:IB W a=.ok n):a<W.length:=by
 unfold IB at h;split at h
 ·rename_i w e;exact EI e
 ·cases h
theorem Tp {a n:Nat}(h:Ji W a bs=.ok n):a<W.length/\n<bs.length:=by
 unfold Ji at h;split at h
 ·rename_i w e;split at h
  ·rename_i m;cases h;exact⟨EI e,List.idxOf_lt_length_iff.mpr m⟩
  ·cases h
 ·cases h
theorem Md {a:Nat}{l n:Int}(h:Eg W a l=.ok n):a<W.length/\l<=n/\n<=12:=by
 unfold Eg at h;split at h
 ·rename_i m e;split at h
  ·cases h
  ·cases h;exact⟨SX e,by lia,by lia⟩
 ·cases h
theorem Sl {a:Nat}{n:Int}(h:Aq W num a=.ok n):a<W.length:=by
 unfold Aq at h;split at h
 ·rename_i w e;exact EI e
 ·cases h
theorem Mi {a:Nat}{q:Int×Nat}(h:Ag W a bs=.ok q):a<W.length/\((q.1=0\/q.1=1)/\q.2=a\/2<=q.1/\q.1<=19/\q.2=a+1):=by
 unfold Ag at h;split at h
 ·rename_i w e;refine⟨EI e,?_⟩;split at h
  ·cases h;exact .inl ⟨.inl rfl,rfl⟩
  split at h
  ·cases h;exact .inl ⟨.inr rfl,rfl⟩
  split at h
  ·rename_i m;cases h;have:kwW.idxOf w<kwW.length:=List.idxOf_lt_length_iff.mpr m;have l:kwW.length=18:=rfl;refine .inr ⟨?_,?_,rfl⟩
   ·show 2<=2+(kwW.idxOf w:Int);lia
   ·show 2+(kwW.idxOf w:Int)<=19;lia
  ·cases h
 ·cases h
theorem OZ {a:Nat}{k:Int}{r:List Int×Nat}(h:Am W num a k bs=.ok r)(ha:a<=W.length):r.2<=W.length/\r.1.length<=1/\(k=0\/k=1->r.2=a+1)/\r.2<=a+1/\a<=r.2/\(k=3\/k=4\/k=6->r.1.length=1)/\(k=3\/k=4->1<=r.1.headD 0/\r.1.headD 0<=12):=by
 unfold Am at h;split at h
 ·rename_i k0;split at h
  ·rename_i n e;cases h;have:=SX e;dsimp only[List.length_cons,List.length_nil,List.headD];lia
  ·cases h
 split at h
 ·rename_i k0;split at h
  ·rename_i n e;cases h;have:=Tp e;dsimp only[List.length_cons,List.length_nil,List.headD];lia
  ·cases h
 split at h
 ·rename_i k0;split at h
  ·rename_i n e;cases h;have:=Md e;dsimp only[List.length_cons,List.length_nil,List.headD];lia
  ·cases h
 split at h
 ·rename_i k0;split at h
  ·rename_i n e;cases h;have:=Md e;dsimp only[List.length_cons,List.length_nil,List.headD];lia
  ·cases h
 split at h
 ·rename_i k0;split at h
  ·rename_i n e;cases h;have:=Sl e;dsimp only[List.length_cons,List.length_nil,List.headD];lia
  ·cases h
 ·cases h;dsimp only[List.length_cons,List.length_nil,List.headD];lia
def zEc (W:List Str)(f:Zr):Prop:= ∀a bd q,a<=W.length->f a bd=.ok q->a<q.1/\q.1<=W.length/\q.2.length+2*a<=bd.length+2*q.1
theorem LS {f:Zr}(g:zEc W f): ∀(n a:Nat) (bd:List Int) (q:Nat×List Int),a<=W.length->uD f n a bd=.ok q->a<=q.1/\q.1<=W.length/\q.2.length+2*a<=bd.length+2*q.1
 |0,a,bd,q,ha,h=>by cases h;exact⟨zW _,ha,zW _⟩
 |n+1,a,bd,q,ha,h=>by
  unfold uD at h;split at h
  ·rename_i r e;obtain⟨g1,g2,g3⟩:=g a bd r ha e;obtain⟨h1,h2,h3⟩:=LS g n r.1 r.2 q g2 h;lia
  ·cases h
theorem Kp: ∀d,zEc W (uC W num cnt bs d)
 |0=>λa bd q _ h=>by cases h
 |d+1=>λa bd q ha h=>by
  unfold uC at h;split at h
  ·cases h
  rename_i k e1;split at h
  ·cases h
  rename_i r e2;obtain⟨l1,l2⟩:=Mi e1;obtain⟨o1,o2,o3,o4,o5,_⟩:=OZ e2 (by lia);obtain⟨p1,p2,p3⟩:=LS (Kp d) _ _ _ _ o1 h;rw[zB,zK]at p3
  rcases l2 with⟨lk,l2⟩|⟨lk,l3,l2⟩
  ·have:=o3 lk;lia
  ·lia
end
end L2
namespace L2
open PySem PySem.Spec PyProof.Rows
section
variable {κ:Type}[DecidableEq κ]
def FP (kvs:List (κ×V))(k:κ):Option V:=(kvs.find? λkv=>decide (kv.1=k)).map (·.2)
def Kk (kvs:List (κ×V))(k:κ)(v:V):List (κ×V):=
 if(kvs.any λkv=>decide (kv.1=k))=true then kvs.map (λkv=>if kv.1=k then(kv.1,v)else kv)else kvs++[(k,v)]
theorem Jm {p:κ×V}{r:List (κ×V)}{k:κ}(e:p.1=k):FP (p::r) k=some p.2:=by simp[FP,AB,e]
theorem Jn {p:κ×V}{r:List (κ×V)}{k:κ}(e: ¬p.1=k):FP (p::r) k=FP r k:=by simp[FP,AB,e]
theorem Ly (k:κ): ∀kvs:List (κ×V),(kvs.any λkv=>decide (kv.1=k))=(FP kvs k).isSome
 |[]=>rfl
 |p::r=>by
  rw[AF]
  by_cases e:p.1=k
  ·simp only[Jm e,zY e,Bool.true_or,Option.isSome_some]
  ·rw[Jn e,yA e,Bool.false_or];exact Ly k r
theorem KP (kvs:List (κ×V))(k:κ)(v:V):(Kk kvs k v).length<=kvs.length+1:=by
 unfold Kk;split
 ·rw[zD];lia
 ·rw[zB,zK,jQ];lia
theorem Vw {kvs:List (κ×V)}{k:κ}(v:V)(h:FP kvs k=none):Kk kvs k v=kvs++[(k,v)]:=by
 unfold Kk;rw[Ly,h];exact zI (by decide)
theorem EZ.isSome_eq {o:Option V}{u:Option Value}(r:EZ o u):o.isSome=u.isSome:=by
 cases o with
 |none=>cases u with
  |none=>rfl
  |some _=>exact(show False from r).elim
 |some _=>cases u with
  |none=>exact(show False from r).elim
  |some _=>rfl
theorem KV.val {kvs:List (κ×V)}{vs:List (κ×Value)}(r:KV kvs vs)(k:κ):EZ (FP kvs k) (valueAt vs k):=by
 unfold KV at r
 induction r with
 |nil=>exact True.intro
 |@cons p q ps qs h t ih=>
  obtain⟨h1,h2⟩:=h
  by_cases e:p.1=k
  ·have e':q.1=k:=h1.symm.trans e;have b:valueAt (q::qs) k=some q.2:=by simp[valueAt,AB,e']
   rw[Jm e,b];exact h2
  ·have e': ¬q.1=k:=λz=>e (h1.trans z);have b:valueAt (q::qs) k=valueAt qs k:=by simp[valueAt,AB,e']
   rw[Jn e,b];exact ih
theorem KV.any {kvs:List (κ×V)}{vs:List (κ×Value)}(r:KV kvs vs)(k:κ):(kvs.any λkv=>decide (kv.1=k))=vs.any λkv=>decide (kv.1=k):=by
 unfold KV at r
 induction r with
 |nil=>rfl
 |cons h t ih=>rw[AF,AF,ih,h.1]
theorem KV.repl {kvs:List (κ×V)}{vs:List (κ×Value)}(r:KV kvs vs)(k:κ){y:V}{u:Value}(ry:kU y u):
  KV (kvs.map λkv=>if kv.1=k then(kv.1,y)else kv) (vs.map λkv=>if kv.1=k then(kv.1,u)else kv):=by
 unfold KV at r ⊢
 induction r with
 |nil=>exact .nil
 |@cons p q ps qs h t ih=>
  rw[yQ,yQ];refine .cons ?_ ih;obtain⟨h1,h2⟩:=h
  by_cases e:p.1=k
  ·rw[zT e,zT (h1.symm.trans e)];exact⟨h1,ry⟩
  ·rw[zI e,zI (λz=>e (h1.trans z))];exact⟨h1,h2⟩
theorem KV.put {kvs:List (κ×V)}{vs:List (κ×Value)}(r:KV kvs vs)(k:κ){y:V}{u:Value}(ry:kU y u):KV (Kk kvs k y) (stored vs k u):=by
 unfold Kk stored;rw[r.any k]
 by_cases e:(vs.any λkv=>decide (kv.1=k))=true
 ·rw[zT e,zT e];exact r.repl k ry
 ·rw[zI e,zI e];exact wP r ⟨rfl,ry⟩
theorem KV.length {kvs:List (κ×V)}{vs:List (κ×Value)}(r:KV kvs vs):kvs.length=vs.length:=FN r
end
theorem NI {P:Program}{w:World}{k:DN}{u:Value}(r:kU (kV k) u):(Ap P w).is k u=true:=by
 cases k with
 |inl i=>obtain⟨t,e⟩:=(show ∃t,u=Value.int i t from r);subst e;exact QA P w i t
 |inr x=>obtain⟨t,e⟩:=(show ∃t,u=Value.str x t from r);subst e;exact Qz P w x t
theorem NO {P:Program}{w:World}: ∀{ks:List DN} {us:List Value},jS (ks.map kV) us->ItemsAre (Ap P w) ks us
 |[],_,r=>by rw[List.map_nil]at r;cases r;exact .nil
 |k::ks,_,r=>by
  rw[yQ]at r;cases r with
  |cons h t=>exact .cons (NI h) (NO t)
abbrev KT (H:Hp):List (List DN×V)->List (List DN×Addr×Value)->Prop:=Paired λp q=>p.1=q.1/\H q.2.1=some (.tup (p.1.map kV))/\kU p.2 q.2.2
theorem KT.val {H:Hp}{kvs:List (List DN×V)}{xs:List (List DN×Addr×Value)}(r:KT H kvs xs)(k:List DN):EZ (FP kvs k) ((atKey xs k).map (·.2)):=by
 induction r with
 |nil=>exact True.intro
 |@cons p q ps qs h t ih=>
  obtain⟨h1,_,h2⟩:=h
  by_cases e:p.1=k
  ·have e':q.1=k:=h1.symm.trans e;have b:atKey (q::qs) k=some q.2:=by simp[atKey,AB,e']
   rw[Jm e,b];exact h2
  ·have e': ¬q.1=k:=λz=>e (h1.trans z);have b:atKey (q::qs) k=atKey qs k:=by simp[atKey,AB,e']
   rw[Jn e,b];exact ih
theorem KT.repl {H:Hp}{kvs:List (List DN×V)}{xs:List (List DN×Addr×Value)}(r:KT H kvs xs)(k:List DN){y:V}{u:Value}(ry:kU y u):
  KT H (kvs.map λkv=>if kv.1=k then(kv.1,y)else kv) (xs.map (putAt k u)):=by
 induction r with
 |nil=>exact .nil
 |@cons p q ps qs h t ih=>
  rw[yQ,yQ];refine .cons ?_ ih;obtain⟨h1,h2,h3⟩:=h;unfold putAt
  by_cases e:p.1=k
  ·rw[zT e,zT (h1.symm.trans e)];exact⟨h1,h2,ry⟩
  ·rw[zI e,zI (λz=>e (h1.trans z))];exact⟨h1,h2,h3⟩
theorem KT.put {H:Hp}{kvs:List (List DN×V)}{xs:List (List DN×Addr×Value)}(r:KT H kvs xs)(k:List DN){b:Addr}{y:V}{u:Value}(hb:H b=some (.tup (k.map kV)))(ry:kU y u):
  KT H (Kk kvs k y) (storedH xs k b u):=by
 have e:(kvs.any λkv=>decide (kv.1=k))=(atKey xs k).isSome:=by
  rw[Ly,(r.val k).isSome_eq,Fy]
 unfold Kk storedH;rw[e]
 by_cases q:(atKey xs k).isSome =true
 ·rw[zT q,zT q];exact r.repl k ry
 ·rw[zI q,zI q];exact wP r ⟨rfl,hb,ry⟩
theorem KT.keeps {H H':Hp}{kvs:List (List DN×V)}{xs:List (List DN×Addr×Value)}(r:KT H kvs xs)(ht: ∀b ys,H b=some (.tup ys)->H' b=some (.tup ys)):KT H' kvs xs:=
 Paired.mapP r λ_ _ z=>⟨z.1,ht _ _ z.2.1,z.2.2⟩
section
variable {P:Program}{w:World}{H:Hp}{h:Heap}{a:Addr}
theorem YT {u:HO}(ok:Ix P w H h)(e:Rd H a u):wT P w H h a u:=e.ok ok
theorem Od {kvs:List (DN×V)}(ok:Ix P w H h)(e:Rd H a (.dK kvs)):kvs.length<=sizeLine/\(a==sysModules)=false/\ ∃vs,KV kvs vs/\h.DictOf (Ap P w) a vs:=
 show wT P w H h a (.dK kvs)from YT ok e
theorem Zi {kvs:List (DN×V)}(ok:Ix P w H h)(e:H a=some (.dK kvs)):kvs.length<=sizeLine/\(a==sysModules)=false/\ ∃vs,KV kvs vs/\h.DictOf (Ap P w) a vs:=Od ok (.inl e)
theorem Ml {ks:List DN}(ok:Ix P w H h)(e:H a=some (.tup (ks.map kV))):(tupleKind (Ap P w)).is h ks a:=by
 obtain⟨_,its,r,o,h1,h2,n,h3⟩:=(show wT P w H h a (.tup (ks.map kV))from ok a _ e);exact⟨o,its.toArray,n,h1,h2,h3,by simpa using NO r⟩
theorem Oc {kvs:List (List DN×V)}(ok:Ix P w H h)(e:Rd H a (.dT kvs)):kvs.length<=sizeLine/\(a==sysModules)=false/\
  ∃xs,KT H kvs xs/\h.DictOfH (tupleKind (Ap P w)) a xs:=by
 obtain⟨z,y,xs,r,o,es,ep,h1,h2,h3,h4,h5⟩:=(show wT P w H h a (.dT kvs)from YT ok e);refine⟨z,y,xs,r,o,es,ep,h1,h2,h3,h4,λx hx=>?_,h5⟩;have all: ∀{l:List (List DN×V)} {m:List (List DN×Addr×Value)},KT H l m-> ∀x∈m,(tupleKind (Ap P w)).is h x.1 x.2.1:=by
  intro l m q
  induction q with
  |nil=>intro x hx;exact nomatch hx
  |@cons p q ps qs hq t ih=>
   intro x hx
   rcases List.mem_cons.mp hx with e|hx
   ·subst e;exact Ml ok (by rw[<-hq.1];exact hq.2.1)
   ·exact ih x hx
 exact all r x hx
theorem zDi {kvs:List (List DN×V)}(ok:Ix P w H h)(e:H a=some (.dT kvs)):kvs.length<=sizeLine/\(a==sysModules)=false/\
  ∃xs,KT H kvs xs/\h.DictOfH (tupleKind (Ap P w)) a xs:=Oc ok (.inl e)
end
def IF (H:Hp)(a:Addr)(y:V)(r:Option V):Prop:=
 (∃kvs k,Rd H a (.dK kvs)/\y=kV k/\r=FP kvs k)\/ ∃kvs k b,Rd H a (.dT kvs)/\y=.ref b/\H b=some (.tup (k.map kV))/\r=FP kvs k
def Xg (H:Hp)(a:Addr)(y v:V)(H':Hp):Prop:=
 (∃kvs k,H a=some (.dK kvs)/\y=kV k/\kvs.length<sizeLine/\H'=upd H a (.dK (Kk kvs k v)))\/
 ∃kvs k b,H a=some (.dT kvs)/\y=.ref b/\H b=some (.tup (k.map kV))/\kvs.length<sizeLine/\H'=upd H a (.dT (Kk kvs k v))
theorem IF.k {H:Hp}{a:Addr}{kvs:List (DN×V)}{k:DN}(e:H a=some (.dK kvs)):IF H a (kV k) (FP kvs k):=.inl ⟨kvs,k,.inl e,rfl,rfl⟩
theorem Xg.k {H:Hp}{a:Addr}{kvs:List (DN×V)}{k:DN}{v:V}(e:H a=some (.dK kvs))(hl:kvs.length<sizeLine):Xg H a (kV k) v (upd H a (.dK (Kk kvs k v))):=.inl ⟨kvs,k,e,rfl,hl,rfl⟩
section
variable {X:Cx}{pins:List (Addr×Obj)}{σ:St}{H:Hp}{s:Shared}{a:Addr}{y v:V}{u r:Value}{o:Option V}{A:Around}{E:Value->Shared->Prop}
theorem xK.big (I:xK X pins σ H s):sysModules<s.heap.objs.size:=by
 have h:mainGlobals<s.heap.objs.size:=(I.mod.glob.keeps I.bk).lt;exact kZ (by decide) h
theorem UB {Q:Value->Shared->Prop}(hu:A.units+1<cLine)(I:xK X pins σ H s)(g:IF H a y (some v))(ry:kU y u)(h: ∀w' s',xK X pins σ H s'->kU v w'->Q w' s'):
  wpAny (model X.prog X.w) A (getItem (.ref a) u) Q E s:=by
 rcases g with⟨kvs,k,e,ey,l⟩|⟨kvs,k,b,e,ey,eb,l⟩
 ·subst ey;obtain⟨z,hd,vs,rel,dd⟩:=Od I.hok e;obtain⟨w',hw,rw'⟩:=EZ.some_of (v:=v) (o:=valueAt vs k) (by rw[l];exact rel.val k);exact wpAny_getItem_of (NI ry) dd.mapOf hw (h w' _ (I.tok _) rw')
 ·subst ey;cases(show u=Value.ref b from ry);obtain⟨z,hd,xs,rel,dd⟩:=Oc I.hok e;obtain⟨w',hw,rw'⟩:=EZ.some_of (v:=v) (o:=(atKey xs k).map (·.2)) (by rw[l];exact rel.val k);obtain⟨p,hp,hp2⟩:=Option.map_eq_some_iff.mp hw;refine wpAny_getItem_heap (BO hu) (Ml I.hok eb) dd hp ?_;rw[hp2];exact h w' _ (I.tok _) rw'
theorem zGa {Q:Value->Shared->Prop}(hu:A.units+1<cLine)(I:xK X pins σ H s)(g:IF H a y o)(ry:kU y u)(h: ∀s',xK X pins σ H s'->Q (.bool o.isSome) s'):
  wpAny (model X.prog X.w) A (compareOp .In u (.ref a)) Q E s:=by
 rcases g with⟨kvs,k,e,ey,l⟩|⟨kvs,k,b,e,ey,eb,l⟩
 ·subst ey;obtain⟨z,hd,vs,rel,dd⟩:=Od I.hok e;refine wpAny_in_of (NI ry) hd dd.mapOf ?_;rw[<-(rel.val k).isSome_eq,<-l];exact h _ (I.tok _)
 ·subst ey;cases(show u=Value.ref b from ry);obtain⟨z,hd,xs,rel,dd⟩:=Oc I.hok e;refine wpAny_in_heap (BO hu) (Ml I.hok eb) hd dd ?_;have q:=(rel.val k).isSome_eq;rw[Fy]at q;rw[<-q,<-l];exact h _ (I.tok _)
theorem Yx {Q:Value->Shared->Prop}(hu:A.units+1<cLine)(I:xK X pins σ H s)(g:IF H a y o)(ry:kU y u)(h: ∀s',xK X pins σ H s'->Q (.bool (!o.isSome)) s'):
  wpAny (model X.prog X.w) A (compareOp .NotIn u (.ref a)) Q E s:=by
 rcases g with⟨kvs,k,e,ey,l⟩|⟨kvs,k,b,e,ey,eb,l⟩
 ·subst ey;obtain⟨z,hd,vs,rel,dd⟩:=Od I.hok e;refine wpAny_notIn_of (NI ry) hd dd.mapOf ?_;rw[<-(rel.val k).isSome_eq,<-l];exact h _ (I.tok _)
 ·subst ey;cases(show u=Value.ref b from ry);obtain⟨z,hd,xs,rel,dd⟩:=Oc I.hok e;refine wpAny_notIn_heap (BO hu) (Ml I.hok eb) hd dd ?_;have q:=(rel.val k).isSome_eq;rw[Fy]at q;rw[<-q,<-l];exact h _ (I.tok _)
theorem Pu {h':Heap}{t':Nat}{ob:HO}(I:xK X pins σ H s)(mu:Mut (H a))(hs:Heap.SameBut a s.heap h')(he: ∃q,h'.get? a=some q)(new:wT X.prog X.w (upd H a ob) h' a ob):
  xK X pins σ (upd H a ob) {s with heap:=h',toks:=t'}:=
 I.write (x:=a) (e:=a) mu (.inl rfl) (λb q hb z=>(hs.2 b hb).trans z) he new
theorem WJ {P:Program}{w:World}{H':Hp}{h':Heap}{kvs:List (DN×V)}{vs:List (DN×Value)}(z:kvs.length<=sizeLine)(hd:(a==sysModules)=false)(rel:KV kvs vs)(dd:h'.DictOf (Ap P w) a vs):
  wT P w H' h' a (.dK kvs):=⟨z,hd,vs,rel,dd⟩
theorem UA {H':Hp}{Q:Unit->Shared->Prop}(hu:A.units+1<cLine)(I:xK X pins σ H s)(g:Xg H a y v H')(ry:kU y u)(rv:kU v r)(h: ∀s',xK X pins σ H' s'->Q () s'):
  wpAny (model X.prog X.w) A (setItem (.ref a) u r) Q E s:=by
 rcases g with⟨kvs,k,e,ey,l,eH⟩|⟨kvs,k,b,e,ey,eb,l,eH⟩
 ·subst ey eH;obtain⟨z,hd,vs,rel,dd⟩:=Zi I.hok e;have hz:vs.length<=sizeLine:=by rw[<-rel.length];exact z
  have hl:(Kk kvs k v).length<=sizeLine:=by have:=KP kvs k v;lia
  refine wpAny_setItem_pairs (hsz:=hz) (NI ry) dd λh' dd' hs=>h _ ?_;have he: ∃q,h'.get? a=some q:=let⟨q,_,_,hq,_⟩:=dd';⟨q,hq⟩;exact Pu I (by rw[e];exact True.intro) hs he (WJ hl hd (rel.put k rv) dd')
 ·subst ey eH;cases(show u=Value.ref b from ry);obtain⟨z,hd,xs,rel,dd⟩:=zDi I.hok e;have hz:xs.length<=sizeLine:=by rw[<-FN rel];exact z
  have hl:(Kk kvs k v).length<=sizeLine:=by have:=KP kvs k v;lia
  refine wpAny_setItem_heap (hsz:=hz) (BO hu) (Ml I.hok eb) dd λh' dd' hs=>h _ ?_;obtain⟨q,es,ep,hq,h2,h3,h4,_,h5⟩:=dd';refine Pu I (by rw[e];exact True.intro) hs ⟨q,hq⟩ ⟨hl,hd,_,(rel.put k eb rv).keeps λc ys ec=>?_,q,es,ep,hq,h2,h3,h4,h5⟩;rw[zV (zDa ec e (λz=>nomatch z))];exact ec
end
def zDp (i:Expr):Prop:= ∀ov iv,subscripted i false ov iv=operate [ov,iv] (getItem ov iv)
theorem Xo {prog:Program}{w:World}{A:Around}{E:Value->Shared->Prop}{s:Shared}{env:Env}{value slice:Expr}{pos:Pos}{T id:String}{Q:Value->Shared->Prop}
  (hl:typeLookup (.type T) "__getitem__"=pure (some (.builtin id))) (hs:zDp slice)
  (h:wpAny (model prog w) A (eval value env) (λo s₁=>wpAny (model prog w) A (eval slice env) (λi s₂=>s₂.TypeIs o T/\wpAny (model prog w) A (getItem o i) Q E s₂) E s₁) E s):
  wpAny (model prog w) A (eval (.Subscript value slice pos) env) Q E s:=by
 refine Subscript_ (wD h (λo s₁ h₁=>wD h₁ (λi s₂ h₂=>?_) λ_ _ x=>x) λ_ _ x=>x);obtain⟨hT,h₂⟩:=h₂;unfold subscriptTail;refine zC ?_;rw[getitemInPython_of_ne hT.not_modules];refine zC (DV hT hl ?_);have fin:wpAny (model prog w) A (subscripted slice false o i) (λr s₃=>wpAny (model prog w) A (letTemporaryGo value o r>>=λ_=>pure r) Q E s₃) E s₂:=by
  rw[hs o i];exact wpAny_operating (wD h₂ (λr s₃ h₃=>zC (wpAny_letTemporaryGo (zP h₃))) λ_ _ x=>x)
 first
  |exact zP (zC fin)
  |exact zC (zP (zC fin))
  |exact zC fin
theorem QQ {X:Cx}{pins:List (Addr×Obj)}{σ:St}{H:Hp}{s:Shared}{a:Addr}{y:V}{o:Option V}(I:xK X pins σ H s)(g:IF H a y o):s.TypeIs (.ref a) "dict":=by
 rcases g with⟨kvs,k,e,_,_⟩|⟨kvs,k,b,e,_,_,_⟩
 ·obtain⟨_,_,vs,_,dd⟩:=Od I.hok e;exact dd.typeIs
 ·obtain⟨_,_,xs,_,dd⟩:=Oc I.hok e;exact dd.typeIs
def zCc (td ty:TE):TE:=λσ H Q=>td σ H λx H1=>ty σ H1 λy H2=> ∃a v,x=.ref a/\IF H2 a y (some v)/\Q v H2
def zFe (ty td:TE):TE:=λσ H Q=>ty σ H λy H1=>td σ H1 λx H2=> ∃a o,x=.ref a/\IF H2 a y o/\Q (.bl o.isSome) H2
def Xn (ty td:TE):TE:=λσ H Q=>ty σ H λy H1=>td σ H1 λx H2=> ∃a o,x=.ref a/\IF H2 a y o/\Q (.bl (!o.isSome)) H2
def zCh (td ty tv:TE):TS:=λD σ H=>tv σ H λv H1=>td σ H1 λx H2=>ty σ H2 λy H3=> ∃a H4,x=.ref a/\Xg H3 a y v H4/\D.nx σ H4
section
variable {X:Cx}{o i e value:Expr}{pos pos' tpos:Pos}{td ty tv:TE}
theorem ST (hu:X.A.units+1<cLine)(ho:PE X o td)(hi:PE X i ty)(hs:zDp i):PE X (.Subscript o i pos) (zCc td ty):=by
 refine⟨?_⟩;intro pins s σ H Q I h;refine Xo PySem.F.slot_dict_getitem.lookup hs (qT (ho pins s σ H _ I h) λu s1 ⟨x,H1,I1,rx,q1⟩=>qT (hi pins s1 σ H1 _ I1 q1) λiv s2 hzz=>?_);obtain⟨y,H2,I2,ry,a,v,ex,g,q2⟩:=hzz;subst ex;obtain rfl:u=Value.ref a:=rx;exact⟨QQ I2 g,UB hu I2 g ry λw' s3 I3 rw'=>⟨v,H2,I3,rw',q2⟩⟩
theorem ZV (hu:X.A.units+1<cLine)(hi:PE X i ty)(ho:PE X o td):PC X .In i o (zFe ty td):=by
 refine⟨?_⟩;intro pins s σ H Q I h;refine qT (hi pins s σ H _ I h) λiv s1 ⟨y,H1,I1,ry,q1⟩=>qT (ho pins s1 σ H1 _ I1 q1) λu s2 hzz=>?_;obtain⟨x,H2,I2,rx,a,ov,ex,g,q2⟩:=hzz;subst ex;obtain rfl:u=Value.ref a:=rx;exact zGa hu I2 g ry λs3 I3=>⟨.bl ov.isSome,H2,I3,rfl,q2⟩
theorem No (hu:X.A.units+1<cLine)(hi:PE X i ty)(ho:PE X o td):PC X .NotIn i o (Xn ty td):=by
 refine⟨?_⟩;intro pins s σ H Q I h;refine qT (hi pins s σ H _ I h) λiv s1 ⟨y,H1,I1,ry,q1⟩=>qT (ho pins s1 σ H1 _ I1 q1) λu s2 hzz=>?_;obtain⟨x,H2,I2,rx,a,ov,ex,g,q2⟩:=hzz;subst ex;obtain rfl:u=Value.ref a:=rx;exact Yx hu I2 g ry λs3 I3=>⟨.bl (!ov.isSome),H2,I3,rfl,q2⟩
theorem Xx (hu:X.A.units+1<cLine)(ho:PE X o td)(hi:PE X i ty)(hv:PE X value tv)(hs:swapsWith value (some (.Subscript o i pos')) pos.line X.env=pure false):
  PS X (.Assign [.Subscript o i pos'] value pos) (zCh td ty tv):=by
 refine⟨?_⟩;intro pins s σ H D I h;refine wpAny_Assign_Subscript (qT (hv pins s σ H _ I h) λr s1 ⟨v,H1,I1,rv,q1⟩=>qT (ho pins s1 σ H1 _ I1 q1) λu s2 ⟨x,H2,I2,rx,q2⟩=>qT (hi pins s2 σ H2 _ I2 q2) λiv s3 ⟨y,H3,I3,ry,a,H4,ex,g,q3⟩=>?_) hs;subst ex;obtain rfl:u=Value.ref a:=rx;exact UA hu I3 g ry rv λs4 I4=>⟨σ,H4,I4,q3⟩
end
theorem WK {P:Program}{w:World}{H:Hp}(h:Heap)(hb:sysModules<h.objs.size):wT P w H (h.push {cls:=.type "dict",data:=.dict #[]}) h.objs.size (.dK []):=
 ⟨yU _,beq_eq_false_iff_ne.mpr (Ne.symm (xM hb)),[],.nil,Heap.DictOf.new h⟩
def ZD:TE:=λ_ H Q=> ∀p,H p=none->Q (.ref p) (upd H p (.dK []))
section
variable {X:Cx}{pos:Pos}
theorem Qm:PE X (.Dict [] [] pos) ZD:=⟨λpins s σ H Q I h=>
 wpAny_Dict_empty ⟨.ref s.heap.objs.size,_,I.laid (a:=s.heap.objs.size) (o:=.dK []) (t':=s.toks) (λ_ _ q=>zJ _ q) (zW _) (WK s.heap I.big),rfl,h _ (I.hok.fresh (zW _))⟩⟩
end
structure M2 (X:Cx)(o:Expr)(m:Str)(apos:Pos)(e f:Expr)(cpos:Pos):Prop where
 base:attributeBase o m X.env (eval o X.env)=eval o X.env
 few:((backTo cpos (starEach [e,f] X.env)).all (λx=>!x.1)&&(backToKw cpos (keywordEach [] X.env)).all (λx=>x.1.isSome)
  &&decide (([e,f]:List Expr).length +([]:List Keyword).length +(if([]:List Keyword).isEmpty then 0 else 1)<30))=true
 line:(apos.endLine==cpos.line)=true
 trees:backTo cpos (starEach [e,f] X.env)=[(false,eval e X.env),(false,eval f X.env)]
def IsD (H:Hp)(a:Addr):Prop:=(∃kvs,Rd H a (.dK kvs))\/ ∃kvs,Rd H a (.dT kvs)
theorem zAl {X:Cx}{pins:List (Addr×Obj)}{σ:St}{H:Hp}{s:Shared}{a:Addr}(I:xK X pins σ H s)(d:IsD H a):
  s.TypeIs (.ref a) "dict"/\(∀b,Value.ref a=.ref b-> ∃ob,s.heap.get? b=some ob/\ob.dict=none)/\(a==sysModules)=false:=by
 rcases d with⟨kvs,e⟩|⟨kvs,e⟩
 ·obtain⟨_,hd,vs,_,dd⟩:=Od I.hok e;refine⟨dd.typeIs,λb q=>?_,hd⟩;cases q;obtain⟨ob,_,_,h1,h2,_⟩:=dd;exact⟨ob,h1,h2.2.1⟩
 ·obtain⟨_,hd,xs,_,dd⟩:=Oc I.hok e;refine⟨dd.typeIs,λb q=>?_,hd⟩;cases q;obtain⟨ob,_,_,h1,h2,_⟩:=dd;exact⟨ob,h1,h2.2.1⟩
theorem JI (k:Int): ∀ns:List Int,Yj (.int k) (ns.map V.int)=decide (k∈ns)
 |[]=>rfl
 |n::r=>by
  have ih:=JI k r;unfold Yj at ih ⊢;rw[yQ,AF,ih]
  by_cases h:n=k
  ·subst h;simp[KZ]
  ·have h2: ¬k=n:=λz=>h z.symm
   simp[KZ,h,h2]
theorem vt {a b:Int}(c:decide (V.int a=V.int b)=true):a=b:=by
 have:=zZ c;injection this
theorem vf {a b:Int}(c: ¬decide (V.int a=V.int b)=true):a≠b:=λe=>c (zY (by rw[e]))
theorem df {c:Prop}[Decidable c](h: ¬decide c=true): ¬c:=xT (Bool.eq_false_iff.mpr h)
def xY (as:List Addr)(H H':Hp):Prop:= ∀b o,b∉as->H b=some o->H' b=some o
theorem xY.same {as:List Addr}{H H':Hp}(h:kS H H'):xY as H H':=λb o _ e=>h b o e
theorem xY.refl (as:List Addr)(H:Hp):xY as H H:=λ_ _ _ e=>e
theorem xY.trans {as:List Addr}{H H1 H2:Hp}(a:xY as H H1)(b:xY as H1 H2):xY as H H2:=λc o n e=>b c o n (a c o n e)
theorem xY.upd {as:List Addr}{H:Hp}{a:Addr}{o:HO}(h:a∈as):xY as H (upd H a o):=λc u n e=>by
 have z:c≠a:=λz=>n (by rw[z];exact h);rw[zV z];exact e
theorem Du {α:Type}{xs:List α}{k:Int}{v:α}(h0:0<=k)(h:xs[k.toNat]? =some v):FO xs k=some v:=by
 have:=vB h
 rwa [show((k.toNat:Nat):Int)=k by lia]at this
end L2
namespace L2
open PySem
abbrev Os:=Nat×Str
abbrev DO:=List (Int×Int)
inductive Nd where
 |mk (kind:Int) (place:Nat) (own:List Int) (parts:List Nd)
def IG (ns:List Int)(p:Nat):Except Os Int:=match ns[p]? with
 |some n=>.ok n
 |none=>.error (p,"end")
def qX (ns:List Int)(p:Nat)(lo hi:Int):Except Os Int:=match ns[p]? with
 |some n=>if n<lo\/hi<n then .error (p,"range")else .ok n
 |none=>.error (p,"end")
def Bp (ns:List Int):Nat->Int->Nat->Except Os DO
 |0,_,_=>.ok []
 |n+1,most,p=>match qX ns p 0 most with
  | .error b=>.error b
  | .ok a=>match qX ns (p+1) a 12 with
   | .error b=>.error b
   | .ok c=>match Bp ns n 4 (p+2)with
    | .error b=>.error b
    | .ok r=>.ok ((a,c)::r)
def Bd (ns:List Int):Except Os DO:=match qX ns 0 1 16 with
 | .error b=>.error b
 | .ok n=>Bp ns n.toNat 0 1
def MO (r:Except Os Int):Except Os (List Int):=match r with
 | .ok n=>.ok [n]
 | .error b=>.error b
def IY (ns:List Int)(heads:DO)(boxes k:Int)(p:Nat):Except Os (List Int):=
 if k=0 then MO (IG ns p)else if k=1\/k=2 then MO (qX ns p 0 (boxes-1))else if k=3 then MO (qX ns p 1 12)else if k=4 then MO (qX ns p 2 12)else if k=6 then MO (qX ns p 0 ((heads.length:Int)-1))else .ok []
def partsN:List Int:=[1,2,2,2,2,2,2,2,2,2,3,1,0]
def Hk (heads:DO)(k:Int)(own:List Int):Int:=
 if k=0\/k=1 then 0 else if k=2 then 1 else if k=3 then own.headD 0 else if k=4 then 1+own.headD 0 else if k=5 then 2 else if k=6 then(heads.getD (own.headD 0).toNat (0,0)).1 else partsN.getD (k-7).toNat 0
def EE (f:Nat->Except Os (Nd×Nat)):Nat->Nat->Except Os (List Nd×Nat)
 |0,p=>.ok ([],p)
 |n+1,p=>match f p with
  | .error b=>.error b
  | .ok a=>match EE f n a.2 with
   | .error b=>.error b
   | .ok r=>.ok (a.1::r.1,r.2)
def Ef (ns:List Int)(heads:DO)(boxes:Int):Nat->Nat->Except Os (Nd×Nat)
 |0,p=>.error (p,"deep")
 |d+1,p=>match qX ns p 0 19 with
  | .error b=>.error b
  | .ok k=>match IY ns heads boxes k (p+1)with
   | .error b=>.error b
   | .ok own=>match EE (Ef ns heads boxes d) (Hk heads k own).toNat (p+1+own.length)with
    | .error b=>.error b
    | .ok r=>.ok (.mk k p own r.1,r.2)
def CQ (ns:List Int)(heads:DO):DO->Nat->Except Os (List Nd×Nat)
 |[],p=>.ok ([],p)
 |h::r,p=>match Ef ns heads h.2 10 p with
  | .error b=>.error b
  | .ok a=>match CQ ns heads r a.2 with
   | .error b=>.error b
   | .ok z=>.ok (a.1::z.1,z.2)
def AR (ns:List Int):Except Os (DO×List Nd):=match Bd ns with
 | .error b=>.error b
 | .ok hs=>match CQ ns hs hs (1+2*hs.length)with
  | .error b=>.error b
  | .ok r=>if r.2<ns.length then .error (r.2,"over")else .ok (hs,r.1)
def uS (H:Hp):Nat->V->Nd->Prop
 |0,_,_=>False
 |d+1,v,.mk k p own ps=> ∃t o q vs,v=.ref t/\H t=some (.tup [.int k,.int p,.ref o,.ref q])/\H o=some (.tup (own.map V.int))/\H q=some (.tup vs)/\Paired (uS H d) vs ps
def Xf (H:Hp)(v:V)(f:(Int×Int)×Nd):Prop:= ∃t b,v=.ref t/\H t=some (.tup [.int f.1.1,.int f.1.2,b])/\uS H 10 b f.2
def zEd (H:Hp)(l:Addr)(r:DO×List Nd):Prop:= ∃rs,H l=some (.lst rs)/\r.1.length=r.2.length/\Paired (Xf H) rs (r.1.zip r.2)
def Kz (H:Hp)(v:V)(h:Int×Int):Prop:= ∃t,v=.ref t/\H t=some (.tup [.int h.1,.int h.2])
def Hd (H:Hp)(hd:Addr)(hs:DO):Prop:= ∃rs,H hd=some (.lst rs)/\Paired (Kz H) rs hs
def AV (CL dx a:Addr)(p:Nat):HO:=.ins CL dx [("numbers",.ref a),("place",.int p)]
def uV (H H':Hp):Prop:= ∀b xs,H b=some (.tup xs)->H' b=some (.tup xs)
theorem uV.same {H H':Hp}(h:kS H H'):uV H H':=λ_ _ e=>h _ _ e
theorem uV.keep {lk CL dx a:Addr}{p:Nat}{H H':Hp}(e:H lk=some (AV CL dx a p))(k:kX lk H H'):uV H H':=λb xs q=>k b _ (λz=>by rw[z,e]at q;cases q) q
theorem uS.tups {H H':Hp}(h:uV H H'): ∀{d:Nat} {v:V} {n:Nd},uS H d v n->uS H' d v n
 |0,_,_,z=>z.elim
 |d+1,v,.mk k p own ps,⟨t,o,q,vs,e,h1,h2,h3,r⟩=>⟨t,o,q,vs,e,h _ _ h1,h _ _ h2,h _ _ h3,Paired.imp (λ_ _ z=>uS.tups h z) r⟩
theorem Kz.tups {H H':Hp}(h:uV H H'){v:V}{n:Int×Int}:Kz H v n->Kz H' v n:=fun⟨t,e,q⟩=>⟨t,e,h _ _ q⟩
theorem Xf.tups {H H':Hp}(h:uV H H'){v:V}{n:(Int×Int)×Nd}:Xf H v n->Xf H' v n:=fun⟨t,b,e,q,z⟩=>⟨t,b,e,h _ _ q,z.tups h⟩
theorem Hd.keep {lk CL dx a hd:Addr}{p:Nat}{H H':Hp}{hs:DO}(e:H lk=some (AV CL dx a p))(k:kX lk H H')(h:Hd H hd hs):Hd H' hd hs:=by
 obtain⟨rs,q,r⟩:=h;exact⟨rs,k hd _ (λz=>by rw[z,e]at q;cases q) q,Paired.imp (λ_ _ z=>z.tups (.keep e k)) r⟩
def Le {α:Type}(r:Except Os α)(ok:α->Prop)(bad:Nat->Str->Prop):Prop:=(∀a,r=.ok a->ok a)/\ ∀p w,r=.error (p,w)->bad p w
def Ib (CN lk:Addr)(H:Hp)(E:XK)(p:Nat)(w:Str):Prop:= ∀d H',kX lk H H'->H' d=some (MD d [("place",.int p),("word",.str w)])->E (.ref CN) (some d) H'
theorem Ib.keep {CN lk:Addr}{H H1:Hp}{E:XK}{p:Nat}{w:Str}(f:Ib CN lk H E p w)(k:kX lk H H1):Ib CN lk H1 E p w:=λd H' k' e=>f d H' (k.trans k') e
def Looks (CL:Addr)(H:Hp)(lk dx a:Addr)(p:Nat)(ns:List Int):Prop:=H lk=some (AV CL dx a p)/\H a=some (.lst (ns.map V.int))
theorem Looks.go {CL lk dx a:Addr}{p p':Nat}{ns:List Int}{H H':Hp}(l:Looks CL H lk dx a p ns)(k:kX lk H H')(e:H' lk=some (AV CL dx a p')):Looks CL H' lk dx a p' ns:=
 ⟨e,k a _ (λz=>by have:=l.1;rw[<-z,l.2]at this;cases this) l.2⟩
inductive Fg (C:Addr) (vs:List V) (H:Hp) (Q:VK) (E:XK):Prop
 |mk (x y z:_) (h0:vs=[.ref x,y,z]) (h1:H x=some (KA x C none)) (h2: ∀d H',d≠x->H d=none->(∀b o,b≠x->H b=some o->H' b=some o)->H' x=some (KA x C (some d))->H' d=some (MD d [("place",y),("word",z)])->Q .non H'):Fg C vs H Q E
inductive OJ (CL:Addr) (vs:List V) (H:Hp) (Q:VK) (E:XK):Prop
 |mk (x dx a:_) (h0:vs=[.ref x,.ref a]) (h1:H x=some (.ins CL dx [])) (h2: ∀H',kX x H H'->H' x=some (AV CL dx a 0)->Q .non H'):OJ CL vs H Q E
inductive Ox (vs:List V) (H:Hp) (Q:VK) (E:XK):Prop
 |mk (i:Int) (h0:vs=[.int i]) (h1:Q (.bl true) H):Ox vs H Q E
inductive Xp (CL CN:Addr) (vs:List V) (H:Hp) (Q:VK) (E:XK):Prop
 |mk (lk dx a p ns:_) (h0:vs=[.ref lk]) (h1:Looks CL H lk dx a p ns) (h2:Le (IG ns p) (λn=>Q (.int n) (upd H lk (AV CL dx a (p+1)))) (Ib CN lk H E)):Xp CL CN vs H Q E
inductive FQ (CL CN:Addr) (vs:List V) (H:Hp) (Q:VK) (E:XK):Prop
 |mk (lk dx a p ns lo hi:_) (h0:vs=[.ref lk,.int lo,.int hi]) (h1:Looks CL H lk dx a p ns) (h2:Le (qX ns p lo hi) (λn=>Q (.int n) (upd H lk (AV CL dx a (p+1)))) (Ib CN lk H E)):FQ CL CN vs H Q E
inductive OK (CL CN:Addr) (vs:List V) (H:Hp) (Q:VK) (E:XK):Prop
 |mk (lk dx a ns:_) (h0:vs=[.ref lk]) (h1:Looks CL H lk dx a 0 ns) (h2:Le (Bd ns) (λhs=> ∀hd H',kX lk H H'->H' lk=some (AV CL dx a (1+2*hs.length))->Hd H' hd hs->Q (.ref hd) H') (Ib CN lk H E)):OK CL CN vs H Q E
inductive SE (CL CN:Addr) (vs:List V) (H:Hp) (Q:VK) (E:XK):Prop
 |mk (lk dx a p ns hd hs boxes k:_) (h0:vs=[.ref lk,.int k,.ref hd,.int boxes]) (h1:Looks CL H lk dx a p ns) (h2:Hd H hd hs) (h3:Le (IY ns hs boxes k p) (λown=> ∀t H',kX lk H H'->H' lk=some (AV CL dx a (p+own.length))->H' t=some (.tup (own.map V.int))->Q (.ref t) H') (Ib CN lk H E)):SE CL CN vs H Q E
def WY (heads:DO)(k:Int)(own:List Int):Prop:=0<=k/\k<=19/\(k=3\/k=4\/k=6-> ∃n,own=[n]/\0<=n/\(k=6->n<heads.length)/\(k≠6->n<=12))
def Tu (hs:DO):Prop:= ∀h∈hs,0<=h.1/\h.1<=4
inductive SH (vs:List V) (H:Hp) (Q:VK) (E:XK):Prop
 |mk (k t own hd hs:_) (h0:vs=[.int k,.ref t,.ref hd]) (h1:H t=some (.tup (own.map V.int))) (h2:Hd H hd hs) (h3:WY hs k own) (h4:Q (.int (Hk hs k own)) H):SH vs H Q E
inductive Kb (CL CN:Addr) (d:Nat) (vs:List V) (H:Hp) (Q:VK) (E:XK):Prop
 |mk (lk dx a p ns hd hs boxes:_) (h0:vs=[.ref lk,.ref hd,.int boxes,.int (11-(d:Int))]) (h1:Looks CL H lk dx a p ns) (h2:Hd H hd hs) (h3:Tu hs) (h4:Le (Ef ns hs boxes d p) (λr=> ∀v H',kX lk H H'->H' lk=some (AV CL dx a r.2)->uS H' d v r.1->Q v H') (Ib CN lk H E)):Kb CL CN d vs H Q E
inductive Vk (CN:Addr) (vs:List V) (H:Hp) (Q:VK) (E:XK):Prop
 |mk (a ns:_) (h0:vs=[.ref a]) (h1:H a=some (.lst (ns.map V.int))) (h2:Le (AR ns) (λr=> ∀l H',kS H H'->H l=none->zEd H' l r->Q (.ref l) H') (λp w=> ∀d H',kS H H'->H' d=some (MD d [("place",.int p),("word",.str w)])->E (.ref CN) (some d) H')):Vk CN vs H Q E
inductive Jr (vs:List V) (H:Hp) (Q:VK) (E:XK):Prop
 |mk (a ns:_) (h0:vs=[.ref a]) (h1:H a=some (.lst (ns.map V.int))) (h2:Le (AR ns) (λ_=> ∀H',kS H H'->Q .non H') (λp w=> ∀t H',kS H H'->H' t=some (.tup [.int (p:Nat),.str w])->Q (.ref t) H')):Jr vs H Q E
theorem BE {ns:List Int}{p:Nat}{lo hi n:Int}(h:qX ns p lo hi=.ok n):ns[p]? =some n/\lo<=n/\n<=hi:=by
 unfold qX at h;cases e:ns[p]? with
 |none=>rw[e]at h;cases h
 |some m=>
  rw[e]at h;simp only at h
  by_cases c:m<lo\/hi<m
  ·rw[zT c]at h;cases h
  ·rw[zI c]at h;cases h;exact⟨rfl,by lia,by lia⟩
theorem Pb {r:Except Os Int}{own:List Int}(h:MO r=.ok own): ∃n,r=.ok n/\own=[n]:=by
 unfold MO at h;cases r with
 |error b=>cases h
 |ok n=>cases h;exact⟨n,rfl,rfl⟩
theorem ZW {ns:List Int}{hs:DO}{boxes k:Int}{p:Nat}{own:List Int}(h0:0<=k)(h1:k<=19)(h:IY ns hs boxes k p=.ok own):WY hs k own:=by
 refine⟨h0,h1,λhk=>?_⟩;unfold IY at h
 rcases hk with rfl|rfl|rfl
 ·rw[zI (by decide),zI (by decide),zT rfl]at h;obtain⟨n,e,rfl⟩:=Pb h;obtain⟨_,a,b⟩:=BE e;exact⟨n,rfl,by lia,λz=>by lia,λ_=>b⟩
 ·rw[zI (by decide),zI (by decide),zI (by decide),zT rfl]at h;obtain⟨n,e,rfl⟩:=Pb h;obtain⟨_,a,b⟩:=BE e;exact⟨n,rfl,by lia,λz=>by lia,λ_=>b⟩
 ·rw[zI (by decide),zI (by decide),zI (by decide),zI (by decide),zT rfl]at h;obtain⟨n,e,rfl⟩:=Pb h;obtain⟨_,a,b⟩:=BE e;exact⟨n,rfl,by lia,λ_=>by lia,λz=>absurd rfl z⟩
theorem TK: ∀k:Nat,0<=partsN.getD k 0/\partsN.getD k 0<=3:=by
 intro k
 by_cases h:k<13
 ·have: ∀k:Fin 13,0<=partsN.getD k.1 0/\partsN.getD k.1 0<=3:=by decide
  exact this ⟨k,h⟩
 ·have:partsN[k]? =none:=jC (by show 13<=k;lia);rw[xW,this];decide
theorem zAt {hs:DO}{k:Int}{own:List Int}(o:WY hs k own)(hh:Tu hs):0<=Hk hs k own/\Hk hs k own<=13:=by
 obtain⟨h0,h1,h2⟩:=o;unfold Hk
 by_cases c1:k=0\/k=1
 ·rw[zT c1];decide
 rw[zI c1]
 by_cases c2:k=2
 ·rw[zT c2];decide
 rw[zI c2]
 by_cases c3:k=3
 ·rw[zT c3];obtain⟨n,rfl,a,_,b⟩:=h2 (.inl c3);have:=b (by lia);show 0<=n/\n<=13;lia
 rw[zI c3]
 by_cases c4:k=4
 ·rw[zT c4];obtain⟨n,rfl,a,_,b⟩:=h2 (.inr (.inl c4));have:=b (by lia);show 0<=1+n/\1+n<=13;lia
 rw[zI c4]
 by_cases c5:k=5
 ·rw[zT c5];decide
 rw[zI c5]
 by_cases c6:k=6
 ·rw[zT c6];obtain⟨n,rfl,a,b,_⟩:=h2 (.inr (.inr c6));have hn:=b c6;show 0<=(hs.getD n.toNat (0,0)).1/\(hs.getD n.toNat (0,0)).1<=13;have hl:n.toNat<hs.length:=by lia
  rw[xW,zE hl];have:=hh _ (Gv hl);simp only[Option.getD_some];lia
 rw[zI c6];have:=TK (k-7).toNat;lia
theorem NU {ns:List Int}: ∀{n:Nat} {most:Int} {p:Nat} {hs:DO},most<=4->Bp ns n most p=.ok hs->Tu hs/\hs.length=n
 |0,_,_,_,_,h=>by cases h;exact⟨λ_ z=>(nomatch z),rfl⟩
 |n+1,most,p,hs,hm,h=>by
  unfold Bp at h;cases e1:qX ns p 0 most with
  |error b=>rw[e1]at h;cases h
  |ok a=>
   rw[e1]at h;simp only at h;cases e2:qX ns (p+1) a 12 with
   |error b=>rw[e2]at h;cases h
   |ok c=>
    rw[e2]at h;simp only at h;cases e3:Bp ns n 4 (p+2)with
    |error b=>rw[e3]at h;cases h
    |ok r=>
     rw[e3]at h;cases h;obtain⟨q,l⟩:=NU (Int.le_refl _) e3;obtain⟨_,a0,a1⟩:=BE e1;exact⟨λz hz=>by
      rcases List.mem_cons.mp hz with rfl|hz
      ·exact⟨a0,by show a<=4;lia⟩
      ·exact q z hz,by simp[l]⟩
theorem Po {ns:List Int}{hs:DO}(h:Bd ns=.ok hs):Tu hs/\ns[0]? =some (hs.length:Int)/\1<=hs.length/\hs.length<=16/\Bp ns hs.length 0 1=.ok hs:=by
 unfold Bd at h;cases e1:qX ns 0 1 16 with
 |error b=>rw[e1]at h;cases h
 |ok n=>
  rw[e1]at h;simp only at h;obtain⟨q,l⟩:=NU (by decide) h;obtain⟨e,a,b⟩:=BE e1;rw[l];refine⟨q,?_,by lia,by lia,h⟩;rw[e];congr 1;lia
def YZ {α:Type}(done:List α)(r:Except Os (List α)):Except Os (List α):=match r with
 | .ok r=>.ok (done++r)
 | .error b=>.error b
theorem Up {α:Type}(r:Except Os (List α)):YZ [] r=r:=by cases r<;>rfl
def Ws {α:Type}(done:List α)(r:Except Os (List α×Nat)):Except Os (List α×Nat):=match r with
 | .ok r=>.ok (done++r.1,r.2)
 | .error b=>.error b
theorem NK {α:Type}(r:Except Os (List α×Nat)):Ws [] r=r:=by cases r<;>rfl
theorem kX.fresh {lk hd:Addr}{H H':Hp}{o:HO}(k:kX lk H H')(h:H hd=none):kX lk H (L2.upd H' hd o):=λb u nb e=>by rw[zV (zM e h)];exact k b u nb e
theorem uV.upd {b:Addr}{ys:List V}{H:Hp}{o:HO}(h:H b=some (.lst ys)):uV H (L2.upd H b o):=λc xs e=>by rw[zV (λz=>by rw[z,h]at e;cases e)];exact e
theorem uV.trans {H H1 H2:Hp}(a:uV H H1)(b:uV H1 H2):uV H H2:=λc xs e=>b c xs (a c xs e)
theorem uV.new {b:Addr}{H:Hp}{o:HO}(h:H b=none):uV H (L2.upd H b o):=.same (zN h o)
theorem LM {C lk:Addr}{H H1:Hp}{E E':XK}{p:Nat}{w:Str}(f:Ib C lk H E p w)(k:kX lk H H1): ∀x,H1 x=none->
  Fg C [.ref x,.int (p:Int),.str w] (upd H1 x (KA x C none)) (λv H2=>v=.non/\ ∃d,H2 x=some (KA x C (some d))/\E (.ref C) (some d) (upd H2 x (Jl x C (some d)))) E':=by
 intro x hx;refine⟨x,_,_,rfl,zH,λd H' dx hd kp ex ed=>⟨rfl,d,ex,f d _ (λb o nb e=>?_) ?_⟩⟩
 ·have e1:=k b o nb e;have nx:b≠x:=zM e1 hx;rw[zV nx];exact kp b o nx (by rw[zV nx];exact e1)
 ·rw[zV dx];exact ed
def Sub (ns:List Int):Nat->List Int->Prop
 |_,[]=>True
 |p,z::zs=>ns[p]? =some z/\Sub ns (p+1) zs
theorem Sub.append {ns:List Int}: ∀{xs ys:List Int} {p:Nat},Sub ns p (xs++ys)->Sub ns p xs/\Sub ns (p+xs.length) ys
 |[],_,_,h=>⟨trivial,h⟩
 |x::xs,ys,p,h=>by
  have q:=Sub.append h.2;refine⟨⟨h.1,q.1⟩,?_⟩;rw[show p+(x::xs).length =p+1+xs.length by simp;lia];exact q.2
theorem Sub.behind: ∀(zs pre:List Int),Sub (pre++zs) pre.length zs
 |[],_=>trivial
 |z::zs,pre=>by
  refine⟨by simp,?_⟩;have:=Sub.behind zs (pre++[z])
  simpa using this
theorem Sub.self (ns:List Int):Sub ns 0 ns:=Sub.behind ns []
def HZ (hs:DO)(boxes k:Int)(own:List Int):Prop:=
 (k=0/\ ∃n,own=[n])\/((k=1\/k=2)/\ ∃n,own=[n]/\0<=n/\n<=boxes-1)\/(k=3/\ ∃n,own=[n]/\1<=n/\n<=12)\/(k=4/\ ∃n,own=[n]/\2<=n/\n<=12)\/(k=6/\ ∃n,own=[n]/\0<=n/\n<=(hs.length:Int)-1)\/((k=5\/7<=k)/\own=[])
theorem AN {ns:List Int}{p:Nat}{lo hi n:Int}(h:ns[p]? =some n)(h0:lo<=n)(h1:n<=hi):qX ns p lo hi=.ok n:=by
 unfold qX;rw[h];exact zI (by lia)
theorem XJ {ns:List Int}{hs:DO}{boxes k:Int}{own:List Int}{p:Nat}(f:HZ hs boxes k own)(s:Sub ns p own):IY ns hs boxes k p=.ok own:=by
 unfold IY
 rcases f with⟨rfl,n,rfl⟩|⟨hk,n,rfl,a,b⟩|⟨rfl,n,rfl,a,b⟩|⟨rfl,n,rfl,a,b⟩|⟨rfl,n,rfl,a,b⟩|⟨hk,rfl⟩
 ·rw[zT rfl];unfold IG;rw[s.1];rfl
 ·rw[zI (by lia),zT hk,AN s.1 a b];rfl
 ·rw[zI (by decide),zI (by decide),zT rfl,AN s.1 a b];rfl
 ·rw[zI (by decide),zI (by decide),zI (by decide),zT rfl,AN s.1 a b];rfl
 ·rw[zI (by decide),zI (by decide),zI (by decide),zI (by decide),zT rfl,AN s.1 a b];rfl
 ·rw[zI (by lia),zI (by lia),zI (by lia),zI (by lia),zI (by lia)]
structure Lv (hs:DO):Prop where
 lo:1<=hs.length
 hi:hs.length<=16
 all: ∀(i:Nat) (h:Int×Int),hs[i]? =some h->0<=h.1/\h.1<=4/\h.1<=h.2/\h.2<=12/\(i=0->h.1=0)
def flat:DO->List Int
 |[]=>[]
 |h::r=>h.1::h.2::flat r
theorem Mw: ∀hs:DO,(flat hs).length =2*hs.length
 |[]=>rfl
 |h::r=>by simp[flat,Mw r];lia
theorem KW {ns:List Int}: ∀{hs:DO} {most:Int} {p:Nat},(∀(i:Nat) (h:Int×Int),hs[i]? =some h->0<=h.1/\h.1<=4/\h.1<=h.2/\h.2<=12/\(i=0->h.1<=most))->Sub ns p (flat hs)->Bp ns hs.length most p=.ok hs
 |[],_,_,_,_=>rfl
 |h::r,most,p,a,s=>by
  obtain⟨a0,a1,a2,a3,a4⟩:=a 0 h rfl;unfold Bp;show(match qX ns p 0 most with| .error b=>_| .ok a=>_)=_;rw[AN s.1 a0 (a4 rfl)];simp only;rw[AN s.2.1 a2 a3];simp only;rw[KW (most:=4) (λi x e=>by have:=a (i+1) x (by simpa using e);lia) s.2.2]
theorem Lv.heads {ns:List Int}{hs:DO}{p:Nat}(g:Lv hs)(s:Sub ns p (flat hs)):Bp ns hs.length 0 p=.ok hs:=KW (λi h e=>by have:=g.all i h e;lia) s
theorem zDj {j:Int}(h0:0<j)(h1:j<2^256):Zs i j:=by
 refine⟨h0,?_⟩;have:j.natAbs.log2<256:=(Nat.log2_lt (by lia)).mpr (by lia);lia
def CW (n:Nat)(Pv:Nat->St->Hp->Prop)(i m:Nat)(σ:St)(H:Hp):Prop:=i<=n/\m=n-i/\Pv i σ H
theorem CW.next {n:Nat}{Pv:Nat->St->Hp->Prop}{i:Nat}{σ:St}{H:Hp}(hi:i<n)(h:Pv (i+1) σ H): ∃m',m'<n-i/\CW n Pv (i+1) m' σ H:=⟨n-(i+1),by lia,by lia,rfl,h⟩
theorem MA {K:PySem.W.Frag}{a p:Addr}{xs:List V}{g:TG}{tt:TT}{te:TE}{R:Hp->Prop}{σ0:St}{H0:Hp}(Pv:Nat->St->Hp->Prop)(h0:Pv 0 σ0 H0)(hl: ∀i σ H,i<=xs.length->Pv i σ H->Hb K H a xs)
  (hs: ∀i x σ H,i<xs.length->xs[i]? =some x->Pv i σ H->g x σ H λσ3 H3=>tt σ3 H3 λb H4=>
   if b=true then te σ3 H4 λv H5=> ∃ys,H5 p=some (.lst ys)/\ys.length<sizeLine/\ ∃m',m'<xs.length-i/\CW xs.length Pv (i+1) m' σ3 (upd H5 p (.lst (ys++[v])))
   else ∃m',m'<xs.length-i/\CW xs.length Pv (i+1) m' σ3 H4)
  (hd: ∀σ H,Pv xs.length σ H->R H):MI (Itl K a) p σ0 H0 g tt te R:=by
 refine⟨CW xs.length Pv,⟨_,yU _,rfl,h0⟩,λi m σ' H' w=>?_⟩;obtain⟨hi,rfl,hp⟩:=w;have q:=hl i σ' H' hi hp
 by_cases hlt:i<xs.length
 ·refine .inr ⟨⟨xs,xs[i],q,by simp[hlt]⟩,λx H2 y=>?_⟩;obtain⟨e,y⟩:=y;subst e;exact hs i x σ' _ hlt (y xs q) hp
 ·have e:i=xs.length:=by lia
  subst e;exact .inl ⟨⟨xs,q,zW _⟩,hd σ' H' hp⟩
end L2
namespace L2
open PySem PySem.Spec PyProof.Rows PySem.W
theorem YW {K:Frag}{N:Addr}{c:Value}{d:Option Addr}{es:Array DictEntry}{n:Nat}{sl:Array (Option Value)}(h:K.lookup N=some ⟨c,d,.dict es n,sl⟩)(q:(es.toList.all λe=>match e.key with| .str _ _=>true|_=>false)=true):nsOkIn K N=true:=by
 unfold nsOkIn;rw[h];rw[Array.all_toList]at q;exact q
theorem QJ {K:Frag}{CE nsC:Addr}{c:Value}{dd:Option Addr}{cd:ClassData}{sl:Array (Option Value)}(h:K.lookup CE=some ⟨c,dd,.cls cd,sl⟩)(hn:cd.ns=nsC)(ok:nsOkIn K nsC=true)(ni:nsIn K nsC "__init__"=some none)(h':Heap)(X:K.In h'):OwnTail h' Fu (.ref CE::Fu):=by
 subst hn;exact .own (X _ _ h) (.of_isNs (isNs_of_in X ok)) (nsMap_none_of_in X ok ni) .base
theorem WH {K:Frag}{C CE N:Addr}{nm q:Str}{bs:List Value}{sn:List Str}{sub:List Value}{ab:Bool}{col:Option Bool}{dd:Option Addr}{k0 k1 k2 k3 k5:Option Value}{newId:String}(h:K.lookup C=some (excClassObj nm q C N bs (.ref CE::Fu) true sn sub ab col dd k0 k1 k2 k3 k5 newId)):
  ∃cd,clsIn K C=some cd/\cd.hasDict=true/\ ∀self,refuseLoop self "__setattr__" cd.mro=pure ():=by
 refine⟨_,by unfold clsIn;rw[h],rfl,λself=>?_⟩;show refuseLoop self "__setattr__" (.ref C:: .ref CE::Fu)=_;rw[refuseLoop_ref,refuseLoop_ref];exact F.store_ValueError.passes self
theorem WD {P:Program}{w:World}{K:Frag}{mg:Str->Option Value}{base:Heap}{CX:JW}{k:Nat}{f:Addr}{fd:FuncData}{ps:List Str}:CU P w K mg base CX k f fd ps (λ_ _ _ _=>False):=
 ⟨λ_ _ _ _ z=>z.elim,λ_ _ _ _ _ _ _ _ _ _ _ _ _ z=>z.elim⟩
theorem xX {CX:JW}{P:Program}{w:World}{K:PySem.W.Frag}{mg:Str->Option Value}{base:Heap}{N:List Str}{qual:Str}{scope:Scope}{f:Addr}{cd:Value}{A:Around}{outer:List Env}{s:Shared}{H:Hp}{E:XK}:
  (JO CX P w K mg base N qual scope f cd A outer s H E).K =K:=rfl
def Dg (K:Frag)(g x q:Str)(st:Stmt)(f:Addr):Prop:=nsIn K mainGlobals g=some (some (.ref f))/\ ∃fd,uB K x q st f fd
def Dm (K:Frag)(c:Addr)(x q:Str)(st:Stmt)(f:Addr):Prop:=findIn K (.ref c) x=some (some (.ref f))/\ ∃fd,uB K x q st f fd
theorem dg_mk {K:Frag}{g x q:Str}{st:Stmt}{f:Addr}{oc:Value}{od an:Option Addr}{osl:Array (Option Value)}{kV doc pm cdv ct:Value}(a:nsIn K mainGlobals g=some (some (.ref f)))(l:K.lookup f=some ⟨oc,od,.func (fnOf x q (Be st) (vS st) (yH st) .none kV doc pm an cdv ct),osl⟩)(c:codeIn K cdv q=true)(k:keepIn K (.ref f)=true):Dg K g x q st f:=
 ⟨a,_,WA l c k⟩
theorem dm_mk {K:Frag}{C:Addr}{x q:Str}{st:Stmt}{f:Addr}{oc:Value}{od an:Option Addr}{osl:Array (Option Value)}{kV doc pm cdv ct:Value}(a:findIn K (.ref C) x=some (some (.ref f)))(l:K.lookup f=some ⟨oc,od,.func (fnOf x q (Be st) (vS st) (yH st) .none kV doc pm an cdv ct),osl⟩)(c:codeIn K cdv q=true)(k:keepIn K (.ref f)=true):Dm K C x q st f:=
 ⟨a,_,WA l c k⟩
theorem vL {us:List Value}{n:Nat}(h:us.length=n+1): ∃u r,us=u::r/\r.length=n:=by
 cases us with
 |nil=>cases h
 |cons u r=>exact⟨u,r,rfl,Nat.succ.inj h⟩
theorem Ir {us:List Value}(h:us.length=0):us=[]:=List.length_eq_zero_iff.mp h
theorem uB.b0 {K:Frag}{x q:Str}{st:Stmt}{f:Addr}{fd:FuncData}(F:uB K x q st f fd)(h: ∀(kV doc pm:Value) (an:Option Addr) (cdv ct:Value),bindArgs (fnOf x q (Be st) (vS st) (yH st) .none kV doc pm an cdv ct) ⟨[],[]⟩=pure []):Ab K fd [] []:=
 F.binds λa b c d e g us hl=>by
  cases Ir hl;exact h a b c d e g
theorem uB.b1 {K:Frag}{x q:Str}{st:Stmt}{f:Addr}{fd:FuncData}(F:uB K x q st f fd)(p0:Str)(h: ∀(kV doc pm:Value) (an:Option Addr) (cdv ct:Value) (u0:Value),bindArgs (fnOf x q (Be st) (vS st) (yH st) .none kV doc pm an cdv ct) ⟨[u0],[]⟩=pure [(p0,u0)]):Ab K fd [p0] []:=
 F.binds λa b c d e g us hl=>by
  obtain⟨u0,r0,rfl,h0⟩:=vL hl;cases Ir h0;exact h a b c d e g u0
theorem uB.b2 {K:Frag}{x q:Str}{st:Stmt}{f:Addr}{fd:FuncData}(F:uB K x q st f fd)(p0 p1:Str)(h: ∀(kV doc pm:Value) (an:Option Addr) (cdv ct:Value) (u0 u1:Value),bindArgs (fnOf x q (Be st) (vS st) (yH st) .none kV doc pm an cdv ct) ⟨[u0,u1],[]⟩=pure [(p0,u0),(p1,u1)]):Ab K fd [p0,p1] []:=
 F.binds λa b c d e g us hl=>by
  obtain⟨u0,r0,rfl,h0⟩:=vL hl;obtain⟨u1,r1,rfl,h1⟩:=vL h0;cases Ir h1;exact h a b c d e g u0 u1
theorem uB.b3 {K:Frag}{x q:Str}{st:Stmt}{f:Addr}{fd:FuncData}(F:uB K x q st f fd)(p0 p1 p2:Str)(h: ∀(kV doc pm:Value) (an:Option Addr) (cdv ct:Value) (u0 u1 u2:Value),bindArgs (fnOf x q (Be st) (vS st) (yH st) .none kV doc pm an cdv ct) ⟨[u0,u1,u2],[]⟩=pure [(p0,u0),(p1,u1),(p2,u2)]):Ab K fd [p0,p1,p2] []:=
 F.binds λa b c d e g us hl=>by
  obtain⟨u0,r0,rfl,h0⟩:=vL hl;obtain⟨u1,r1,rfl,h1⟩:=vL h0;obtain⟨u2,r2,rfl,h2⟩:=vL h1;cases Ir h2;exact h a b c d e g u0 u1 u2
theorem uB.b4 {K:Frag}{x q:Str}{st:Stmt}{f:Addr}{fd:FuncData}(F:uB K x q st f fd)(p0 p1 p2 p3:Str)(h: ∀(kV doc pm:Value) (an:Option Addr) (cdv ct:Value) (u0 u1 u2 u3:Value),bindArgs (fnOf x q (Be st) (vS st) (yH st) .none kV doc pm an cdv ct) ⟨[u0,u1,u2,u3],[]⟩=pure [(p0,u0),(p1,u1),(p2,u2),(p3,u3)]):Ab K fd [p0,p1,p2,p3] []:=
 F.binds λa b c d e g us hl=>by
  obtain⟨u0,r0,rfl,h0⟩:=vL hl;obtain⟨u1,r1,rfl,h1⟩:=vL h0;obtain⟨u2,r2,rfl,h2⟩:=vL h1;obtain⟨u3,r3,rfl,h3⟩:=vL h2;cases Ir h3;exact h a b c d e g u0 u1 u2 u3
theorem uB.b5 {K:Frag}{x q:Str}{st:Stmt}{f:Addr}{fd:FuncData}(F:uB K x q st f fd)(p0 p1 p2 p3 p4:Str)(h: ∀(kV doc pm:Value) (an:Option Addr) (cdv ct:Value) (u0 u1 u2 u3 u4:Value),bindArgs (fnOf x q (Be st) (vS st) (yH st) .none kV doc pm an cdv ct) ⟨[u0,u1,u2,u3,u4],[]⟩=pure [(p0,u0),(p1,u1),(p2,u2),(p3,u3),(p4,u4)]):Ab K fd [p0,p1,p2,p3,p4] []:=
 F.binds λa b c d e g us hl=>by
  obtain⟨u0,r0,rfl,h0⟩:=vL hl;obtain⟨u1,r1,rfl,h1⟩:=vL h0;obtain⟨u2,r2,rfl,h2⟩:=vL h1;obtain⟨u3,r3,rfl,h3⟩:=vL h2;obtain⟨u4,r4,rfl,h4⟩:=vL h3;cases Ir h4;exact h a b c d e g u0 u1 u2 u3 u4
theorem uB.law {K:Frag}{x q:Str}{st:Stmt}{f:Addr}{fd:FuncData}(F:uB K x q st f fd)(p:Str)(h: ∀(kV doc pm:Value) (an:Option Addr) (cdv ct v:Value),bindArgs (fnOf x q (Be st) (vS st) (yH st) .none kV doc pm an cdv ct) ⟨[v],[]⟩=pure [(p,v)])(s:Shared)(v:Value):BindsTo s fd ⟨[v],[]⟩ [(p,v)]:=by
 obtain⟨oc,od,kV,doc,pm,an,cdv,ct,osl,rfl,lk,hcd⟩:=F.ex;exact .of_eq (h kV doc pm an cdv ct v)
theorem Cl {P:Program}{w:World}{K:Frag}{h:Heap}{mg:Str->Option Value}{base:Heap}{CX:JW}(X:K.In h)(G:h.Ns mainGlobals mg){x q g:Str}{st:Stmt}{f:Addr}{fd:FuncData}{k:Nat}{ps:List Str}{sp:Sp}(a:nsIn K mainGlobals g=some (some (.ref f)))(F:uB K x q st f fd)(b:Ab K fd ps [])(o:CU P w K mg base CX k f fd ps sp):Xi P w K mg base CX k g ps sp:=
 ⟨⟨_,_,o,mg_of X G a,F.kp,b⟩⟩
end L2
namespace L2
open PySem PySem.Spec PyProof.Rows
def zEe (X:Cx)(E:St->XK):Value->Shared->Prop:=λe s1=> ∃x C d pins σ H,e=.ref x/\xK X pins σ H s1/\H x=some (Jl x C d)/\Tb X pins H x s1.heap/\E σ (.ref C) d H
abbrev Cx.excS (X:Cx)(E:St->XK):Cx:=X.wish (zEe X E)
def ZF (sp:Sp)(E:St->XK)(t:TA):TE:=λσ H Q=>t σ H λvs H1=>sp vs H1 Q (E σ)
section
variable {X:Cx}
theorem WN {E:St->XK}{pins:List (Addr×Obj)}{σ:St}{H:Hp}{s s':Shared}{e:Value}(I:xK X pins σ H s)(h:Hl X.prog X.w X.stack H s (E σ) e s'):zEe X E e s':=by
 obtain⟨x,C,d,H',rfl,ho,hg,u,hok,hx,⟨oe,vs,T,oT,ts,ge,hd,h1,hTx,hT,lo,gT,dT,h3⟩,q⟩:=h;have I':xK X pins σ H' s':=I.call' (ch:=[]) ho u hok hg λb z=>(nomatch z);refine⟨x,C,d,pins,σ,H',rfl,I',hx,⟨oe,vs,ge,hd,.inr ⟨T,oT,ts,.none,h1,hTx,⟨hT,yT I.sz lo,qP (yY I.lt lo),λp hp z=>?_⟩,gT,dT,h3,.inl rfl⟩⟩,q⟩;have:=yG (I.pin p hp).1;rw[z]at this;exact absurd (yY this lo) (kQ _)
theorem Qn {x:Str}{p pos:Pos}{e:Expr}{es:List Expr}{t:TA}{k n:Nat}{ps:List Str}{sp:Sp}{E:St->XK}(C:Xi X.prog X.w X.K X.mg X.base (Hl X.prog X.w) k x ps sp)(hr:uE n X.A)(hg:Gl (X.excS E) x)(ha:PA (X.excS E) (e::es) t)(hk:k<=n:=by first|decide|lia)
  (hdb:(x==("__debug__":Str))=false:=by decide) (he:starEach (e::es) X.env=(false,eval e X.env)::starEach es X.env:=by rfl) (hpl:(backTo pos (starEach es X.env)).any (·.1)=false:=by rfl):
  PE (X.excS E) (.Call (.Name x p) (e::es) [] pos) (ZF sp E t):=by
 obtain⟨f,fd,F,hm,kp,hb⟩:=C.ex;refine⟨?_⟩;intro pins s σ H Q I h;refine wK (GW I hg hm ?_ hdb);refine Au (h₀:=X.base) I.ok.mod.kin kp (qT (ha pos pins s σ H _ I h) λus s1 ⟨vs,H1,I1,r,q⟩=>⟨I1.kIn,?_⟩) he hpl;have hl:us.length=ps.length:=by rw[<-r.length];exact F.len _ _ _ _ q
 have hb':=hb s1 us I1.kIn (by rw[xI];exact hl);rw[xI]at hb';refine BN (Bi (F.run X.A X.stack s1 H1 ⟨us,[]⟩ us vs Q (E σ) (hr.mono hk) I1.unwish.env0 hb' r q) λrr s' hq=>?_);cases rr with
 |error e=>exact WN I1.unwish hq
 |ok fl=>
  cases fl with
  |ret u=>exact I1.after hq
  |next=>exact False.elim hq
  |brk=>exact False.elim hq
  |cont=>exact False.elim hq
def zBu (K:PySem.W.Frag)(N i:Nat)(CE:Addr)(tb:(St->XK)->TS)(th:TS):TS:=λD σ H=>
 tb (λσ1 cls dx H1=> ∃C d,cls=.ref C/\dx=some d/\Mch K C CE/\ ∀(x:Addr),H1 x=some (Jl x C (some d))->th (behind D i) (σ1.set i (some (.ref x))) H1) D σ H
theorem Xw {body suite:List Stmt}{b0:Stmt}{x n:Str}{i:Nat}{CE:Addr}{tb:(St->XK)->TS}{th:TS}{np hpos pos:Pos}(hN:X.N.Nodup)(hi:X.N[i]? =some n)(hl:X.env.scope.names.lookup n=some .local)(hg:Gl X x)(hm:X.mg x=some (.ref CE))
  (hb: ∀pn E',MJ ((X.pinned pn).excS E') body (tb E')) (hh: ∀v,MJ (X.mark v) (b0::suite) th)
  (hst:X.stack=X.env::X.outer:=by rfl) (hfr:X.env.frame=some X.env.locals:=by rfl) (hdb:(x==("__debug__":Str))=false:=by decide):
  PS X (.Try body [.ExceptHandler (some (.Name x np)) (some n) (b0::suite) hpos] [] [] pos) (zBu X.K X.N.length i CE tb th):=by
 refine⟨?_⟩;intro pins s σ H D I h;refine wpAny_Try_except ?_;refine wD (hb (X.pn++pins) _ [] s σ H D (I.topin.wish _) h) (λf s1 h1=>?_) λe s1 h1=>?_
 ·cases f with
  |next=>obtain⟨σ1,H1,I1,q⟩:=h1;exact BA ⟨σ1,H1,I1.unwish.unpin,q⟩
  |brk=>obtain⟨σ1,H1,I1,q⟩:=h1;exact⟨σ1,H1,I1.unwish.unpin,q⟩
  |cont=>obtain⟨σ1,H1,I1,q⟩:=h1;exact⟨σ1,H1,I1.unwish.unpin,q⟩
  |ret u=>obtain⟨v,σ1,H1,I1,r,q⟩:=h1;exact⟨v,σ1,H1,I1.unwish.unpin,r,q⟩
 ·obtain⟨y,C0,d0,pins1,σ1,H1,rfl,I1,hy,tb1,C,d,ec,ed,mc,q⟩:=h1;cases ec;cases ed;refine Mv (X:=X.pinned (X.pn++pins)) I1 hst hfr I1.ok.frames hy tb1 λs2 I2 t2=>Lr (to:=none) I2 hy t2 λs3 I3 t3=>?_;obtain⟨oe,vs,ge,hcl,hdi,hda,hz⟩:=Jl.get I3.hok hy;have J3:xK X pins σ1 H1 s3:=I3.unpin;refine wpAny_handleBy_cons (codeAny_handlers_test ?_) (by intro z;cases z);refine GW (X:=X.mark (.ref y)) (J3.mark _) hg hm ?_ hdb;refine QL J3.kIn mc ge hcl ?_;refine codeAny_handlers_suite_as ?_;refine Lr (X:=(X.pinned (X.pn++pins))) (to:=none) I3 hy t3 λs4 I4 t4=>?_;have J4:xK X pins σ1 H1 s4:=I4.unpin;refine Jp (X:=X.mark (.ref y)) (J4.mark _) hN hi (.inl hl) (v:=.ref y) rfl (λs5 I5=>?_) (.inr hl);refine wD (hh (.ref y) pins s5 _ H1 (behind D i) I5 (q y hy)) (λf s6 h6=>?_) λ_ _ z=>z.elim;have go: ∀{σ6:St} {H6:Hp} {P:Flow->Shared->Prop},xK (X.mark (.ref y)) pins σ6 H6 s6->(∀s7,xK X pins (σ6.set i none) H6 s7->P f s7)->wpAny (model X.prog X.w) X.A (do bindName X.env n .none;unbindBehindTheSuite X.env n hpos) (λ_ s7=>P f s7) X.xe s6:=
   fun{σ6 H6 P} I6 k=>Ug (xK.unmark I.ok.hd I6) hN hi hl k
  cases f with
  |next=>obtain⟨σ6,H6,I6,q6⟩:=h6;exact go (P:=SP X pins D) I6 λs7 I7=>⟨_,H6,I7,q6⟩
  |brk=>obtain⟨σ6,H6,I6,q6⟩:=h6;exact go (P:=SP X pins D) I6 λs7 I7=>⟨_,H6,I7,q6⟩
  |cont=>obtain⟨σ6,H6,I6,q6⟩:=h6;exact go (P:=SP X pins D) I6 λs7 I7=>⟨_,H6,I7,q6⟩
  |ret u=>obtain⟨v,σ6,H6,I6,r,q6⟩:=h6;exact go (P:=SP X pins D) I6 λs7 I7=>⟨v,_,H6,I7,r,q6⟩
end
end L2
namespace L2
open PySem PySem.W PySem.Spec PySem.Calls PyProof.Rows
section
variable {prog:Program}{w:World}{A:Around}{E:Value->Shared->Prop}{K:Frag}{C:Addr}{s:Shared}{x:Addr}{ox:Obj}{od:Option Obj}
theorem Uz {Q:Option Value->Shared->Prop}(X:K.In s.heap)(I:InstAt s.heap x ox C od)(Ec:EL K C)(ha:findIn K (.ref C) "__class__"=some (some (.builtin "object.__class__")))
  (hn:specialIn K (.builtin "object.__class__") "__get__"=some (some (.builtin "getset_descriptor.__get__"))) (htk:takesIn K (.builtin "object.__class__")=some true)
  (hq:Q (some (.ref C)) {s with toks:=s.toks+1}):wpAny (model prog w) A (getAttr? (.ref x) "__class__") Q E s:=by
 have hf:findObj K C od "__class__"=some (.bind (.builtin "getset_descriptor.__get__") (.builtin "object.__class__")):=by
  obtain⟨cd,hcd,_⟩:=Ec.cd
  simp[findObj,hcd,ha,hn,htk]
 obtain⟨h,g,d,t,os⟩:=s;have L0:=I.type (M:=model prog w);have L1:=Da (M:=model prog w) X Ec.ga;have L2':=Da (M:=model prog w) X Ec.noHook;have L3:=looks_find (M:=model prog w) X I hf;have Lb:PySem.W.Looks (model prog w) h (isInstance (.ref x) (.type "BaseException")) true:=L0.andThen (looks_mroIn X Ec.base);have f3:=F.excAttr_ValueError.ga.bind (.ref x);have hk:builtinKind "BaseException.__getattribute__"=some .slot:=by decide+kernel
 have hsplit:splitId "BaseException.__getattribute__"=some ("BaseException","__getattribute__"):=by decide+kernel
 unfold getAttr? getAttrBy? getAttrBy;refine zC (wpAny_mkText (zC (vH (qK (zC (L0.at (zC (L1.at ?_))))))));show wpAny _ _ (getAttrByItsOwn _ _ _ _ _ _) _ _ _;unfold getAttrByItsOwn;refine zC (L2'.at (zC (vH (qK ?_))));unfold callGetattribute;have hx0:(false&&onTheHeap (Value.builtin "BaseException.__getattribute__"))=false:=rfl;rw[hx0];unfold boundAndCalled;show wpAny _ _ (bindSpecial _ _>>=_) _ _ _;rw[f3];refine zC (zP (BN (DK F.excAttr_ValueError.ga.plain F.entry_bexc_ga (@check_slot (model prog w) _ _ _ "BaseException.__getattribute__" "BaseException" "__getattribute__" (.ref x) [.str "__class__" t] [] _ hk hsplit Lb (F.args_bexc_ga _ _) ?_))));refine zC (zP (zC (zP (zC (L0.at (zC (L3.at ?_)))))));show wpAny _ _ (Builtin.ObjectAttr.bindTo (Value.builtin "getset_descriptor.__get__") (Value.builtin "object.__class__") (Value.ref x) (Value.ref C)) _ _ _;show wpAny _ _ (holding [Value.builtin "object.__class__"] (call (Value.builtin "getset_descriptor.__get__") [Value.builtin "object.__class__",Value.ref x,Value.ref C])>>=ret) _ _ _;refine zC (qK (BN (class_get X I Ec.obj ?_)));refine zP ?_;show wpAny _ _ (handedOut (Value.ref C)) _ _ _;rw[handedOut_of (v:=Value.ref C) rfl];exact zP (zP hq)
theorem Mh (Ec:EL K C)(ha:findIn K (.ref C) "__class__"=some (some (.builtin "object.__class__")))
  (hn:specialIn K (.builtin "object.__class__") "__get__"=some (some (.builtin "getset_descriptor.__get__"))) (htk:takesIn K (.builtin "object.__class__")=some true):KitX K (.ref x) (.ref C) (λh=>InstAt h x ox C od) where
 ty:=λ_ _ _ I=>I.type
 it:=λ_ _ X _=>by
  obtain⟨cdD,hcD,_⟩:=Ec.cd;unfold clsIn at hcD;split at hcD
  ·rename_i c' d' cd' sl' ho;intro A' Q' E' s' k q;unfold isType loadHead;exact zC (EN (k _ _ (X _ _ ho)) (zP q))
  ·cases hcD
 ne:=λh tp dd its n sl X htp=>by
  obtain⟨cdD,hcD,_⟩:=Ec.cd;refine Bool.eq_false_iff.mpr λq=>?_;have e:C=tp:=Value.ref.inj (beq_iff_eq.mp q);subst e;unfold clsIn at hcD;split at hcD
  ·rename_i c' d' cd' sl' ho;have z:=(X _ _ ho).symm.trans htp;cases z
  ·cases hcD
 ca:=λX I k=>Uz X I Ec ha hn htk k
end
structure Xb (K:Frag)(C:Addr):Prop where
 ha:findIn K (.ref C) "__class__"=some (some (.builtin "object.__class__"))
 hn:specialIn K (.builtin "object.__class__") "__get__"=some (some (.builtin "getset_descriptor.__get__"))
 htk:takesIn K (.builtin "object.__class__")=some true
def zFm (K:Frag):List V->Hp->VK->Prop:=λxs H Q=> ∃x C dx fs b,H x=some (Jl x C (some dx))/\H dx=some (MD dx fs)/\EL K C/\Xb K C/\
 ((∃n,xs=[.ref x,.ty n]/\kitOne K (.ref C) (.type n)=some b)\/ ∃D,xs=[.ref x,.ref D]/\kitOne K (.ref C) (.ref D)=some b)/\Q (.bl b) H
theorem QT {X:Cx}:EM X (.builtin "isinstance") (zFm X.K):=by
 intro pins s σ H xs us Q I r h;obtain⟨x,C,dx,fs,b,hx,hd,Ec,Ic,hxs,q⟩:=h;obtain⟨ox,vs,ge,hcl,hdi,hda,_⟩:=Jl.get I.hok hx;obtain⟨mA,n,_,_⟩:=MD.get I.hok hd;obtain⟨od,hod,hl⟩:=Ge n;have J:InstAt s.heap x ox C (some od):=⟨ge,hcl,by unfold notCls;rw[hda],by rw[hdi];exact hod⟩
 rcases hxs with⟨n,rfl,e⟩|⟨D,rfl,e⟩
 ·obtain⟨u,w',rfl,ru,rw'⟩:=KF r;cases ru;cases rw';exact kia_one (Mh Ec Ic.ha Ic.hn Ic.htk) I.kIn J e (λz=>nomatch z) λtk=>⟨.bl b,H,I.tok tk,rfl,q⟩
 ·obtain⟨u,w',rfl,ru,rw'⟩:=KF r;cases ru;cases rw';exact kia_one (Mh Ec Ic.ha Ic.hn Ic.htk) I.kIn J e (λz=>nomatch z) λtk=>⟨.bl b,H,I.tok tk,rfl,q⟩
theorem JH {K:Frag}{C D:Addr}{b:Bool}(h:subIn K (.ref C) (.ref D)=some b)(ty:typeIn K (.ref D)=some (.type "type"))(cl:(clsIn K D).isSome =true)(self:subIn K (.ref C) (.ref C)=some true):kitOne K (.ref C) (.ref D)=some b:=by
 unfold kitOne
 by_cases e:(Value.ref C==Value.ref D)=true
 ·rw[zT e];have e2:C=D:=Value.ref.inj (beq_iff_eq.mp e);subst e2;rw[self]at h;exact h
 ·rw[zI e];unfold kitCls;simp only[cl,ty,wL,Bool.and_self,BB];exact h
end L2
namespace L2
open PySem PySem.Spec PyProof.Rows
namespace Rv
theorem owner:Manifest.owners.lookup (String.ofList ['d','e','s','r','e','v','e','r'].reverse)=some Manifest.sig_reversed:=by kernel_rfl
theorem slot_next:Slot "reversed" "__next__" "reversed.__next__":=
 .of (owner:="reversed") (n:="__next__") (by rw[DW,AI];kernel_rfl) (by decide+kernel) (by decide+kernel) (by decide+kernel)
  (by first|exact .inl (by decide+kernel)|exact .inr (by decide+kernel)) (by rw[Ad];kernel_rfl)
theorem entry_next:entryFor table "reversed.__next__"=some Builtin.«reversed.__next__»:=entryFor_of_tree (by kernel_rfl)
theorem args_next (a:Value):argsOk "reversed.__next__" ⟨[a],[]⟩:=by
 unfold argsOk;rw[signature?_of (id:="reversed.__next__") (n:=['_','_','t','x','e','n','_','_']) (o:=['d','e','s','r','e','v','e','r']) (by kernel_rfl) owner];kernel_rfl
theorem slot_iter:Slot "reversed" "__iter__" "reversed.__iter__":=
 .of (owner:="reversed") (n:="__iter__") (by rw[DW,AI];kernel_rfl) (by decide+kernel) (by decide+kernel) (by decide+kernel)
  (by first|exact .inl (by decide+kernel)|exact .inr (by decide+kernel)) (by rw[Ad];kernel_rfl)
theorem args_iter (a:Value):argsOk "reversed.__iter__" ⟨[a],[]⟩:=by
 unfold argsOk;rw[signature?_of (id:="reversed.__iter__") (n:=['_','_','r','e','t','i','_','_']) (o:=['d','e','s','r','e','v','e','r']) (by kernel_rfl) owner];kernel_rfl
theorem entry_iter:entryFor table "reversed.__iter__"=some Builtin.«dict_keyiterator.__iter__»:=
 entryFor_alias (id':="dict_keyiterator.__iter__") (by kernel_rfl) (by first|rfl|decide+kernel|(unfold String.splitOn;simp+decide [String.splitOnAux])) (by decide+kernel) (by kernel_rfl)
theorem TC:Slot "reversed" "__init__" "object.__init__":=
 .of (owner:="object") (n:="__init__") (by rw[DW,AI];kernel_rfl) (by decide+kernel) (by decide+kernel) (by decide+kernel)
  (by first|exact .inl (by decide+kernel)|exact .inr (by decide+kernel)) (by rw[Ad];kernel_rfl)
theorem called:TypeCalled "reversed" "reversed.__new__" "object.__init__":=
 ⟨by decide+kernel,by decide+kernel,⟨_,_,F.mro_reversed⟩,F.made_reversed,by decide+kernel,by rw[Ad];kernel_rfl,TC⟩
theorem tuple_no_rev:typeLookup (.type "tuple") "__reversed__"=pure none:=by rw[DW,AI];kernel_rfl
theorem tuple_no_dict:isSubtype (.type "tuple") (.type "dict")=pure false:=by rw[Ad];kernel_rfl
end Rv
end L2
namespace L2
open PySem PySem.Spec PyProof.Rows
section
variable {prog:Program}{w:World}{A:Around}{E:Value->Shared->Prop}{s:Shared}
def Qe (l:Addr)(i:Int):Obj:={cls:=.type "reversed",data:=.fields #[.ref l,rawInt i]}
def EJ (h:Heap)(a l:Addr)(i:Int):Prop:= ∃o,h.get? a=some o/\o.cls=.type "reversed"/\o.data=.fields #[.ref l,rawInt i]
theorem EJ.typeIs {a l:Addr}{i:Int}(x:EJ s.heap a l i):s.TypeIs (.ref a) "reversed":=let⟨o,ho,hc,_⟩:=x;⟨o,ho,hc⟩
theorem EJ.at {h h':Heap}{a l:Addr}{i:Int}(x:EJ h a l i)(e: ∀o,h.get? a=some o->h'.get? a=some o):EJ h' a l i:=let⟨o,ho,r⟩:=x;⟨o,e _ ho,r⟩
theorem UC {l:Addr}{items:Array Value}{Q₁:Value->Shared->Prop}(hl:s.heap.IsTuple l items)(hfit:(items.size:Int)<2^63)
  (h: ∀tk,Q₁ (.ref s.heap.objs.size) {s with heap:=s.heap.push (Qe l ((items.size:Int)-1)),toks:=tk}):
  codeAny (model prog w) A (.call (.builtin "reversed.__new__") ⟨[.type "reversed",.ref l],[]⟩) (wants Q₁ E) s:=by
 have hT:s.TypeIs (.ref l) "tuple":=by obtain⟨o,ho,hc,_⟩:=hl;exact⟨o,ho,hc⟩
 refine codeAny_of_tree ?_;show wpAny _ A.in1 (do checkBuiltinCall "reversed.__new__" ⟨[.type "reversed",.ref l],[]⟩;again (.builtin "reversed.__new__" ⟨[.type "reversed",.ref l],[]⟩)) _ _ s;refine zC (uP (F.newCall_reversed_1 _) (zP ⟨plainId_quiet F.plain_reversed_new _,codeAny_builtin F.entry_reversed_new ?_⟩));rw[DM F.plain_reversed_new _];unfold Builtin.«reversed.__new__»;refine zC (uP (newClass_reversed _) ?_)
 try dsimp only
 refine zC (uP (a:=()) (by first|rfl|kernel_rfl) ?_);refine zC (uP (a:=()) (by first|rfl|kernel_rfl) ?_)
 try dsimp only
 refine zC (DV hT Rv.tuple_no_rev ?_)
 try dsimp only
 refine zC ?_;show wpAny _ _ (isInstance (.ref l) (.type "dict")>>=_) _ _ s;refine zC (Ac hT Rv.tuple_no_dict ?_)
 try dsimp only
 show wpAny _ _ (specialOf (.ref l) "__getitem__">>=_) _ _ s;refine zC (DV hT F.slot_tuple_getitem.lookup ?_)
 try dsimp only
 show wpAny _ _ (if(["tuple.__getitem__","str.__getitem__","bytes.__getitem__","bytearray.__getitem__","memoryview.__getitem__","numpy.ndarray.__getitem__","sqlite3.Row.__getitem__"].contains "tuple.__getitem__")=true then _ else _) _ _ s;rw[zT (by decide)];refine zP ?_
 try dsimp only
 rw[zI (show ¬((!true)=true)from yK)];refine zC (len_tuple hl hfit ?_);refine zC (uP (a:=some (items.size:Int)) rfl ?_)
 try dsimp only
 refine zC ?_;show wpAny _ _ (newObj (.type "reversed") (.fields #[.ref l,rawInt ((items.size:Int)-1)])) _ _ _;refine jW ?_ (by size_fits);exact zP (h _)
theorem UH {l:Addr}{items:Array Value}{Q:Value->Shared->Prop}(hl:s.heap.IsTuple l items)(hfit:(items.size:Int)<2^63)
  (h: ∀tk,Q (.ref s.heap.objs.size) {s with heap:=s.heap.push (Qe l ((items.size:Int)-1)),toks:=tk}):wpAny (model prog w) A (call (.type "reversed") [.ref l]) Q E s:=by
 refine callType_codes (Q₁:=λobj s₁=>obj=.ref s.heap.objs.size/\ ∃tk,s₁={s with heap:=s.heap.push (Qe l ((items.size:Int)-1)),toks:=tk}) Rv.called (F.typeCall_reversed_1 _) F.entry_object_init (UC hl hfit λtk=>⟨rfl,tk,rfl⟩) ?_;rintro obj s₁ ⟨rfl,tk,rfl⟩;have hT:Shared.TypeIs {s with heap:=s.heap.push (Qe l ((items.size:Int)-1)),toks:=tk} (.ref s.heap.objs.size) "reversed":=⟨_,yL _ rfl,rfl⟩;exact⟨hT,F.args_object_init_2 _ _,object_init_meets Rv.called.init.lookup Rv.called.made (by decide) prog w A.in1 _ _ ⟨hT,rfl,h tk⟩⟩
theorem Mb {it l:Addr}{i:Nat}{items:Array Value}{x:Value}{Q:Option Value->Shared->Prop}(hit:EJ s.heap it l (i:Int))(hl:s.heap.IsTuple l items)(hx:items[i]? =some x)(hfit:(items.size:Int)<2^63)
  (hQ: ∀h' tk,EJ h' it l ((i:Int)-1)->Heap.SameBut it s.heap h'->Q (some x) {s with heap:=h',toks:=tk}):wpAny (model prog w) A (pyNext (.ref it)) Q E s:=by
 obtain⟨o,ho,hc,hd⟩:=id hit;have hT:s.TypeIs (.ref l) "tuple":=by obtain⟨o,ho,hc,_⟩:=hl;exact⟨o,ho,hc⟩
 have hi:i<items.size:=(Array.getElem?_eq_some_iff.mp hx).1;unfold pyNext;refine zC (vH (kH (name:=Str.ofString "__next__") hit.typeIs Rv.slot_next
  (qV Rv.slot_next hit.typeIs Rv.entry_next ?_ (Rv.args_next _))))
 unfold Builtin.«reversed.__next__»;refine zC (uP (a:=(Value.ref it,[])) rfl ?_)
 try dsimp only
 refine zC (xZ ho hd (x:=.ref l) rfl ?_);refine zC (xZ ho hd (x:=rawInt (i:Int)) rfl ?_);show wpAny _ _ (if(i:Int)<0 then _ else _) _ _ s;rw[zI (by lia)];show wpAny _ _ (specialOf (.ref l) "__getitem__">>=_) _ _ s;refine zC (DV hT F.slot_tuple_getitem.lookup ?_)
 try dsimp only
 rw[zI (show ¬((some (Value.builtin "tuple.__getitem__")).isNone =true)from yK)];refine zC (wpAny_mkInt ?_);refine zC (vH (getItem_tuple (j:=i) hl (by lia) (by lia) ?_ hx ?_))
 ·unfold seqIndex?;have e: ¬((i:Int)<0):=by lia
  simp only[zI e]
  simp[hi]
 try dsimp only
 refine zC (xZ ho hd (x:=rawInt (i:Int)) rfl ?_);show wpAny _ _ (setField (.ref it) 1 (rawInt ((i:Int)-1))>>=_) _ _ _;refine zC (vO ho hd (by simp) (zP ⟨x,rfl,zP (hQ _ _ ?_ (Br ..))⟩));exact⟨_,jR _ ho (vX (qS hd _)),(Fz ..).trans hc,by
  rw[qS hd];simp⟩
theorem MQ {it l:Addr}{Q:Option Value->Shared->Prop}(hh:A.handled=none)(hit:EJ s.heap it l (-1))
  (hQ: ∀h',Heap.ExtBut it s.heap h'->Q none {s with heap:=h'}):wpAny (model prog w) A (pyNext (.ref it)) Q E s:=by
 obtain⟨o,ho,hc,hd⟩:=id hit;unfold pyNext;refine zC (vH (kH (name:=Str.ofString "__next__") hit.typeIs Rv.slot_next
  (qV Rv.slot_next hit.typeIs Rv.entry_next ?_ (Rv.args_next _))))
 unfold Builtin.«reversed.__next__»;refine zC (uP (a:=(Value.ref it,[])) rfl ?_)
 try dsimp only
 refine zC (xZ ho hd (x:=.ref l) rfl ?_);refine zC (xZ ho hd (x:=rawInt (-1)) rfl ?_);show wpAny _ _ (if(-1:Int)<0 then _ else _) _ _ s;rw[zT (by decide)];refine zC (BM ?_);refine zC ?_;show wpAny _ _ (setField (.ref it) 1 (rawInt (-1))>>=_) _ _ s;refine zC (vO ho hd (by simp) ?_);have hd3:=qS hd (·.setIfInBounds 1 (rawInt (-1)));have gx3:=jR (Obj.mapFields (·.setIfInBounds 1 (rawInt (-1)))) ho (vX hd3);refine vO gx3 hd3 (by simp) ?_;refine zC ?_;show wpAny _ _ (newExc (.type "StopIteration") []>>=_) _ _ _;refine zC ?_;simp only[newExc,newTuple];refine zC (jW ?_ (by size_fits));refine zC (m:=firstArgMember _ _) (uP (a:=Value.none) (by first|rfl|(simp only[firstArgMember];rfl)) ?_);refine jW ?_ (by size_fits);simp only[raiseNew];refine zC (wpAny_handled ?_)
 first|rw[show A.in1.handled=none from hh]|rw[hh]
 refine zC (zP (wpAny_throw ?_));refine zC (Ac (T:="StopIteration") (b:=true) ⟨_,yL _ rfl,rfl⟩ isSubtype_stop ?_);refine zP (hQ _ (λb ob hb e=>zJ _ (zJ _ ?_)));rw[xH _ _ (Ne.symm hb),xH _ _ (Ne.symm hb)];exact e
theorem NL {it l:Addr}{i:Int}{Q:Value->Shared->Prop}(hit:EJ s.heap it l i)(h:Q (.ref it) s):wpAny (model prog w) A (pyIter (.ref it)) Q E s:=by
 refine wpAny_pyIter_slot hit.typeIs Rv.slot_iter (qV Rv.slot_iter hit.typeIs Rv.entry_iter ?_ (Rv.args_iter _));show wpAny _ _ (ret (.ref it)) _ _ s;exact zP ⟨_,rfl,"reversed",_,hit.typeIs,Rv.slot_next.lookup,h⟩
end
def Itv (K:PySem.W.Frag)(a:Addr)(n:Nat):It:=
 ⟨λi H=> ∃xs x,Gm K H a xs/\xs.length=n/\xs.reverse[i]? =some x,λi H x H'=>H'=H/\ ∀xs,Gm K H a xs->xs.reverse[i]? =some x,λi H=>(∃xs,Gm K H a xs/\xs.length=n)/\n<=i⟩
theorem UZ {P:Program}{w:World}{K:PySem.W.Frag}{tg:Expr}(a it:Addr)(n:Nat):Pz P w K tg (Itv K a n) [it] it (λi h=>i<=n/\EJ h it a ((n:Int)-1-(i:Int))) where
 mem:=by simp
 obj:=λi h st b hb=>by
  have e:b=it:=by simpa using hb
  subst e;obtain⟨_,o,e,c,d⟩:=st;exact⟨o,e,λv z=>by rw[d]at z;cases z⟩
 keep:=λi h h' st k=>⟨st.1,st.2.at λo e=>k it (by simp) o e⟩
 item:=by
  intro X hP hw hK hc i pins s σ H E I hf st hg;subst hP hw hK;obtain⟨xs,x,hq,hn,hx⟩:=hg;obtain⟨its,rv,p,hz⟩:=I.tuple hq;have hi:i<xs.length:=by
   have:=(List.getElem?_eq_some_iff.mp hx).1
   simpa using this
  have hx':xs[n-1-i]? =some x:=by
   rw[List.getElem?_reverse hi,hn]at hx;exact hx
  obtain⟨u,hu,ru⟩:=rv.get hx';obtain⟨f0,f1,f2,f3,f4,f5⟩:=hf it (by simp);have e1:(n:Int)-1-(i:Int)=((n-1-i:Nat):Int):=by lia
  have hl:=rv.length;have h63:=FL;refine Mb (i:=n-1-i) (by rw[<-e1];exact st.2) (show s.heap.IsTuple a its.toArray from p) (x:=u) (by simpa using hu) (by simp only[yC];lia) λh' tk st' sb=>?_;have I1:xK X pins σ H {s with heap:=h',toks:=tk}:=I.turned (t':=tk) (λb o hb e=>(sb.2 b hb).trans e) f0 f1 f3 f4 f5;obtain⟨o,e,c,d⟩:=id st';have e2:((n-1-i:Nat):Int)-1=(n:Int)-1-((i+1:Nat):Int):=by lia
  rw[e2]at st';exact⟨u,rfl,Mr (s:={s with heap:=h',toks:=tk}) e c d (by decide) ⟨x,H,I1,ru,⟨rfl,λys hy=>by rw[I.tuple_inj hy hq];exact hx⟩,⟨by lia,st'⟩,λb hb=>(hf b hb).1⟩⟩
 done:=by
  intro X hP hw hK hc i pins s σ H E I hf st hg;subst hP hw hK;obtain⟨f0,f1,f2,f3,f4,f5⟩:=hf it (by simp);have hi:i=n:=by have:=st.1;have:=hg.2;lia
  have e1:(n:Int)-1-(i:Int)= -1:=by lia
  have st2:=st.2;rw[e1]at st2;exact MQ (I.ok.hd hc) st2 λh' eb=>⟨rfl,I.turned (t':=s.toks) (λb o hb e=>eb b o hb e) f0 f1 f3 f4 f5⟩
 self:=λ_ _ _ _ _ st h=>NL st.2 h
inductive Zd (K:PySem.W.Frag) (vs:List V) (H1:Hp) (R:It->Hp->Prop):Prop
 |mk (a xs:_) (h0:vs=[.ref a]) (h1:Gm K H1 a xs) (h2:R (Itv K a xs.length) H1):Zd K vs H1 R
def zFx (K:PySem.W.Frag)(ta:TA):TI:=λσ H R=>ta σ H λvs H1=>Zd K vs H1 R
theorem ZR {X:Cx}{tg a:Expr}{ta:TA}{p pos:Pos}(hg:Gl X "reversed")(hm:X.mg "reversed"=none)(ha:PA X [a] ta)(hs:starEach [a] X.env=[(false,eval a X.env)]:=by rfl):PI X tg (.Call (.Name "reversed" p) [a] [] pos) (zFx X.K ta):=by
 refine⟨?_⟩;intro pins s σ H R I h;refine Call_ (Jc I hg hm QU (qZ (qT (ha pos pins s σ H _ I h) λus s1 ⟨vs,H1,I1,r1,q1⟩=>?_) hs rfl));obtain⟨b,xs,e,hq,q⟩:=q1;subst e;cases r1 with
 |cons r rr=>
  cases rr;cases r;obtain⟨its,rv,pl,hz⟩:=I1.tuple hq;have hl:=rv.length;have h63:=FL;refine UH (show s1.heap.IsTuple b its.toArray from pl) (by simp only[yC];lia) λtk=>?_;have I2:xK X pins σ H1 {s1 with heap:=s1.heap.push (Qe b (((its.toArray).size:Int)-1)),toks:=tk}:=I1.kept λb o e=>zJ _ e;have st:EJ (s1.heap.push (Qe b (((its.toArray).size:Int)-1))) s1.heap.objs.size b ((xs.length:Int)-1-((0:Nat):Int)):=⟨_,yL _ rfl,rfl,by rw[yC,hl];simp[Qe]⟩;refine NL (s:={s1 with heap:=s1.heap.push (Qe b (((its.toArray).size:Int)-1)),toks:=tk}) st ?_;refine⟨s1.heap.objs.size,[s1.heap.objs.size],_,_,H1,rfl,I2,UZ b _ xs.length,⟨yU _,st⟩,λc hc=>?_,q⟩;have e:c=s1.heap.objs.size:=by simpa using hc
  subst e;exact I1.fpOk (zW _) (I1.hok.fresh (zW _))
theorem Yt {K:PySem.W.Frag}{a:Addr}{xs:List V}{g:TG}{tb:TS}{D:He}{σ:St}{H:Hp}(Pv:Nat->St->Hp->Prop)(h0:Pv 0 σ H)(hl: ∀i σ H,i<=xs.length->Pv i σ H->Gm K H a xs)
  (hs: ∀i x σ H,xs.reverse[i]? =some x->Pv i σ H->g x σ H λσ2 H2=>tb {D with nx:=Pv (i+1),ct:=Pv (i+1),bk:=D.nx} σ2 H2) (hd: ∀σ H,Pv xs.length σ H->D.nx σ H):
  ∃W:Nat->Nat->St->Hp->Prop,(∃m,W 0 m σ H)/\ ∀i m σ H,W i m σ H->
   ((Itv K a xs.length).stop i H/\D.nx σ H)\/((Itv K a xs.length).go i H/\ ∃N:St->Hp->Prop,(∀σ' H',N σ' H'-> ∃m',m'<m/\W (i+1) m' σ' H')/\ ∀x H',(Itv K a xs.length).yld i H x H'->g x σ H' λσ2 H2=>tb {D with nx:=N,ct:=N,bk:=D.nx} σ2 H2):=by
 refine⟨λi m σ H=>m=xs.length-i/\i<=xs.length/\Pv i σ H,⟨xs.length,by simp,yU _,h0⟩,?_⟩;rintro i m σ H ⟨rfl,hi,p⟩;have q:=hl i σ H hi p
 by_cases hlt:i<xs.length
 ·refine .inr ⟨⟨xs,xs.reverse[i]'(by simpa using hlt),q,rfl,by simp[hlt]⟩,Pv (i+1),λσ' H' p'=>⟨xs.length-(i+1),by lia,rfl,hlt,p'⟩,λx H' y=>?_⟩;obtain⟨e,y⟩:=y;subst e;exact hs i x σ _ (y xs q) p
 ·have e:i=xs.length:=by lia
  subst e;exact .inl ⟨⟨⟨xs,q,rfl⟩,zW _⟩,hd σ H p⟩
end L2
namespace L2
open PySem
mutual
def pre:Nd->List Nd
 | .mk k p own ps=>.mk k p own ps::AG ps
def AG:List Nd->List Nd
 |[]=>[]
 |a::r=>pre a++AG r
end
theorem DB: ∀(xs ys:List Nd),AG (xs++ys)=AG xs++AG ys
 |[],ys=>by simp[AG]
 |a::r,ys=>by simp[AG,DB r ys]
theorem Xy: ∀n:Nd,1<=(pre n).length
 | .mk k p own ps=>by simp[pre]
theorem LO: ∀xs:List Nd,xs.length<=(AG xs).length
 |[]=>by simp[AG]
 |a::r=>by
  have:=Xy a;have:=LO r
  simp[AG];lia
theorem GP: ∀xs:List Nd,(AG xs.reverse).length =(AG xs).length
 |[]=>rfl
 |a::r=>by simp[AG,DB,GP r];lia
theorem uS.more {H:Hp}: ∀{d:Nat} {v:V} {n:Nd},uS H d v n->uS H (d+1) v n
 |0,_,_,z=>z.elim
 |d+1,v,.mk k p own ps,⟨t,o,q,vs,e,h1,h2,h3,r⟩=>⟨t,o,q,vs,e,h1,h2,h3,Paired.imp (λ_ _ z=>uS.more z) r⟩
inductive Ka (vs:List V) (H:Hp) (Q:VK) (E:XK):Prop
 |mk (v nd:_) (h0:vs=[v]) (h1:uS H 10 v nd) (h2:(pre nd).length<=1000000) (h3: ∀l us H',kS H H'->H l=none->H' l=some (.lst us)->Paired (uS H' 10) us (pre nd)->Q (.ref l) H'):Ka vs H Q E
theorem Paired.append {α β:Type}{F:α->β->Prop}: ∀{xs zs:List α} {ys ws:List β},Paired F xs ys->Paired F zs ws->Paired F (xs++zs) (ys++ws)
 |_,_,_,_,.nil,q=>q
 |_,_,_,_,.cons r t,q=>.cons r (Paired.append t q)
theorem Paired.rev {α β:Type}{F:α->β->Prop}: ∀{xs:List α} {ys:List β},Paired F xs ys->Paired F xs.reverse ys.reverse
 |_,_,.nil=>.nil
 |_,_,.cons r t=>by
  rw[uQ,uQ];exact Paired.append (Paired.rev t) (.cons r .nil)
theorem Paired.unsnoc {α β:Type}{F:α->β->Prop}: ∀{xs:List α} {x:α} {ys:List β},Paired F (xs++[x]) ys-> ∃ys' y,ys=ys'++[y]/\Paired F xs ys'/\F x y
 |[],x,_,.cons r .nil=>⟨[],_,rfl,.nil,r⟩
 |a::xs,x,_,.cons r t=>by
  obtain⟨ys',y,rfl,p,f⟩:=Paired.unsnoc t;exact⟨_::ys',y,rfl,.cons r p,f⟩
theorem kS.fresh {H H':Hp}{p:Addr}{o:HO}(s:kS H H')(h:H p=none):kS H (upd H' p o):=λb u e=>by rw[zV (zM e h)];exact s b u e
section
open PySem.Spec PyProof.Rows
variable {X:Cx}{e:Expr}{st:Option Expr}{te:TE}{ts:TO}{p2 pos:Pos}
inductive Vt (K:PySem.W.Frag) (x:V) (y:V) (H:Hp) (Q:VK):Prop
 |mk (a b xs:_) (h0:x=.ref a) (h1:y=.ref b) (h2:Hb K H a xs) (h3:Hb K H b []) (h4:Q (.bl (!xs.isEmpty)) H):Vt K x y H Q
theorem LV {k:Nat}(hr:uE k X.A):ID X (compareOp .NotEq) (Vt X.K):=by
 intro pins s σ H x y v u Q I rx ry h;obtain⟨a,b,xs,rfl,rfl,ha,hb,q⟩:=h;cases rx;cases ry;have hu:=hr.un;obtain⟨us,r,pa,_⟩:=I.list ha;obtain⟨vs,q',pb,_⟩:=I.list hb;cases q';cases xs with
 |nil=>
  cases r;have:=SeqAt.RcNeAt.lists (A:=X.A) (s:=s) (e:=λ_=>true) pa.isList pb.isList rfl (by lia) (λj h1 h2=>absurd h1 (by simp));exact this _ _ _ _ ⟨.bl false,H,I,rfl,q⟩
 |cons z zs=>
  cases r with
  |cons r1 r2=>
   have:=SeqAt.RcNeAt.lists_lengths (A:=X.A) (s:=s) pa.isList pb.isList (by simp) (by lia);exact this _ _ _ _ ⟨.bl true,H,I,rfl,q⟩
end
theorem SQ {X:Cx}{pos:Pos}{es:List Expr}{k:Nat}{t:TGs}{n:Nat}(K:PySem.W.Frag)(hK:X.K=K)(hc:X.calm=true)(h:PGs X es t)(hn:(assignEach es X.env).length =n:=by rfl)(hst:(assignEach es X.env).findIdx? (·.1)=none:=by rfl):PG X (.Tuple es k pos) (zAr K n t):=by
 subst hK;exact Bo hc h hn hst
end L2
namespace L2
open PySem PySem.Spec PyProof.Rows
theorem HH (a b:Int):Builtin.Range.rangeSize a b (-1)=(((a-b).toNat:Nat):Int):=by
 unfold Builtin.Range.rangeSize;rw[zI (by decide)]
 by_cases c:a > b
 ·rw[zT c];have:(-(-1:Int))=1:=by decide
  rw[this,Int.ediv_one];lia
 ·rw[zI c];lia
theorem Rs {a b:Int}(ha: -(2^62)<=a)(ha':a<2^62)(hb: -(2^62)<=b)(hb':b<2^62):Builtin.Range.small a b (-1)=true:=by
 unfold Builtin.Range.small;rw[HH];simp only[Builtin.Range.rangeFitsLong,vI,Bool.or_eq_true,Fv,beq_iff_eq,show ¬((-1:Int) > 0)by decide,Bw];lia
def Itd (lo:Int)(n:Nat):It:=⟨λi _=>i<n,λi H x H'=>H'=H/\x=.int (lo-i),λi _=>n<=i⟩
theorem Tx {P:Program}{w:World}{K:PySem.W.Frag}{tg:Expr}(it:Addr)(lo:Int)(n:Nat):Pz P w K tg (Itd lo n) [it] it (λi h=>IsRangeIter h it (lo+(i:Nat)*(-1)) ((n:Int)-(i:Nat)) (-1)) where
 mem:=by simp
 obj:=λi h st b hb=>by
  have e:b=it:=by simpa using hb
  subst e;exact⟨_,st,λv z=>by
   have z':Data.fields _=Data.cell v:=z;cases z'⟩
 keep:=λi h h' st k=>k it (by simp) _ st
 item:=by
  intro X hP hw hK hc i pins s σ H E I hf st hg;subst hP hw hK;obtain⟨f0,f1,f2,f3,f4,f5⟩:=hf it (by simp);have W:=Walks.range (prog:=X.prog) (w:=X.w) (I.ok.hd hc) it lo (-1) n;refine W.item i s _ _ hg st λv h' tk hv st' kk=>?_;obtain⟨t,rfl⟩:=hv;have I1:xK X pins σ H {s with heap:=h',toks:=tk}:=I.turned (λb o hb e=>kk b o (by simpa using hb) e) f0 f1 f3 f4 f5;refine⟨_,rfl,Mr (s:={s with heap:=h',toks:=tk}) (n:="range_iterator") st' rfl rfl (by decide) ⟨.int (lo-i),H,I1,⟨t,?_⟩,⟨rfl,rfl⟩,st',λb hb=>(hf b hb).1⟩⟩;rw[show lo+(i:Int)*(-1)=lo-(i:Int)by lia]
 done:=by
  intro X hP hw hK hc i pins s σ H E I hf st hg;subst hP hw hK;obtain⟨f0,f1,f2,f3,f4,f5⟩:=hf it (by simp);exact wpAny_pyNext_range_end (I.ok.hd hc) st (by have:n<=i:=hg;lia) λh' eb=>⟨rfl,I.turned (t':=s.toks) (λb o hb e=>eb b o hb e) f0 f1 f3 f4 f5⟩
 self:=λ_ _ _ _ _ st h=>wpAny_pyIter_rangeiter st h
inductive Ww (vs:List V) (H1:Hp) (R:It->Hp->Prop):Prop
 |mk (i j:Int) (h0:vs=[.int i,.int j,.int (-1)]) (h1:(-(2^62)<=i/\i<2^62/\ -(2^62)<=j/\j<2^62)) (h2:R (Itd i (i-j).toNat) H1):Ww vs H1 R
def zDf (ta:TA):TI:=λσ H R=>ta σ H λvs H1=>Ww vs H1 R
theorem XB {X:Cx}{tg a b c:Expr}{ta:TA}{p pos:Pos}(hg:Gl X "range")(hm:X.mg "range"=none)(ha:PA X [a,b,c] ta)(hs:starEach [a,b,c] X.env=(false,eval a X.env)::starEach [b,c] X.env:=by rfl)(hpl:(backTo pos (starEach [b,c] X.env)).any (·.1)=false:=by rfl):
  PI X tg (.Call (.Name "range" p) [a,b,c] [] pos) (zDf ta):=by
 refine⟨?_⟩;intro pins s σ H R I h;refine Call_ (Jc I hg hm boot_range (qZ (qT (ha pos pins s σ H _ I h) λus s1 ⟨vs,H1,I1,r1,q1⟩=>?_) hs hpl));obtain⟨i,j,e,⟨q1,q2,q3,q4⟩,q⟩:=q1;subst e;cases r1 with
 |cons r rr=>
  cases rr with
  |cons r' rr=>
   cases rr with
   |cons r'' rr=>
    cases rr;obtain⟨t,rfl⟩:=r;obtain⟨t',rfl⟩:=r';obtain⟨t'',rfl⟩:=r'';refine call_range_3 (by decide) ?_ (.inl (PyProof.noPylong_small (by decide)));refine wpAny_pyIter_range (IsRange.new ..) (Rs q1 q2 q3 q4) ?_;have I2:xK X pins σ H1 {s1 with heap:=s1.heap.push {cls:=.type "range",data:=.fields #[.int i t,.int j t',.int (-1) t'']},toks:=s1.toks}:=I1.kept λb o e=>zJ _ e;refine⟨_,[_],_,_,H1,rfl,I2.kept (t':=s1.toks) λb o e=>zJ _ e,Tx _ i (i-j).toNat,?_,λb hb=>?_,q⟩
    ·have e1:i+((0:Nat):Int)*(-1)=i:=by simp
     have e2:(((i-j).toNat:Nat):Int)-((0:Nat):Int)=Builtin.Range.rangeSize i j (-1):=by rw[HH];simp
     show IsRangeIter _ _ (i+((0:Nat):Int)*(-1)) ((((i-j).toNat:Nat):Int)-((0:Nat):Int)) (-1);rw[e1,e2];exact yL _ rfl
    ·have e:=List.mem_singleton.mp hb;subst e;exact I2.fpOk (zW _) (I2.hok.fresh (zW _))
inductive Ah (C:Addr) (vs:List V) (H:Hp) (Q:VK) (E:XK):Prop
 |mk (x y:_) (h0:vs=[.ref x,y]) (h1:H x=some (KA x C none)) (h2: ∀d H',d≠x->H d=none->(∀b o,b≠x->H b=some o->H' b=some o)->H' x=some (KA x C (some d))->H' d=some (MD d [("at",y)])->Q .non H'):Ah C vs H Q E
def DU (C:Addr)(H:Hp)(E:XK)(n:Int):Prop:= ∀d H',kS H H'->H' d=some (MD d [("at",.int n)])->E (.ref C) (some d) H'
theorem AL {C:Addr}{H:Hp}{E E':XK}{n:Int}(f:DU C H E n): ∀x,H x=none->
  Ah C [.ref x,.int n] (upd H x (KA x C none)) (λv H2=>v=.non/\ ∃d,H2 x=some (KA x C (some d))/\E (.ref C) (some d) (upd H2 x (Jl x C (some d)))) E':=by
 intro x hx;refine⟨x,_,rfl,zH,λd H' dx hd kp ex ed=>⟨rfl,d,ex,f d _ (λb o e=>?_) ?_⟩⟩
 ·have nx:b≠x:=zM e hx;rw[zV nx];exact kp b o nx (by rw[zV nx];exact e)
 ·rw[zV dx];exact ed
end L2
namespace L2
open PySem PySem.Spec
section
variable {K:Type}[DecidableEq K]{prog:Program}{w:World}{knd:KeyKind prog w K}{A:Around}{E:Value->Shared->Prop}{s:Shared}
theorem HV {d:Addr}{kvs:List (K×Value)}{k:K}{key dflt:Value}{Q:Value->Shared->Prop}(hkey:knd.is k key=true)(hm:s.heap.DictOf knd d kvs)
  (hthere: ∀v,valueAt kvs k=some v->Q v {s with toks:=s.toks+1})
  (hnew:valueAt kvs k=none-> ∀h',h'.DictOf knd d (kvs++[(k,dflt)])->Heap.SameBut d s.heap h'->Q dflt {s with heap:=h',toks:=s.toks+1})
  (hsz:kvs.length<=sizeLine):
  wpAny (model prog w) A (dictSetDefault d key dflt) Q E s:=by
 have hmo:=hm.mapOf;obtain⟨o,es,ep,ho,hc,hd,hk,hp,hn⟩:=hm;have hes:es.size<=sizeLine:=by
  have e1:=hp.length;have e2:es.toList.length=es.size:=by simp
  lia
 obtain⟨o',es',ep',ho',hc',hd',hk',hf⟩:=hmo;rw[ho]at ho';cases ho';rw[hd]at hd';injection hd' with q1 q2
 subst q1;unfold dictSetDefault
 try with_reducible refine qK ?_
 refine zC (knd.pyHash hkey ?_);refine zC (wpAny_dictFind_of (s:={s with toks:=s.toks+1}) hkey ho hd hk ?_);have hidx:(es.findIdx? λe=>knd.is k e.key)=kvs.findIdx? λkv=>decide (kv.1=k):=by
  rw[<-hp.findIdx k];obtain⟨l⟩:=es;simp
 cases hi:es.findIdx? λe=>knd.is k e.key with
 |some i=>
  have hfk:valueAt kvs k=(es[i]?).map (·.val):=by rw[<-hf k,findBy_of_findIdx?,hi]
  refine zC (wpAny_dictEntries (s:={s with toks:=s.toks+1}) ho hd ?_);cases he:es[i]? with
  |none=>
   exfalso;have:=Array.findIdx?_eq_some_iff_findIdx_eq.mp hi;have hlt:i<es.size:=this.1;rw[Bm hlt]at he;exact nomatch he
  |some e=>
   rw[he]at hfk;exact zC (BM (zP (hthere e.val hfk)))
 |none=>
  have hnot:k∉kvs.map (·.1):=not_mem_of_findIdx_none (hidx▸hi);have hfk:valueAt kvs k=none:=by rw[<-hf k,findBy_of_findIdx?,hi]
  refine zC (BM (zC (wpAny_updateDictKeys (hz:=hes) (s:={s with toks:=s.toks+1}) ho hd (zP (hnew hfk _ ⟨_,_,ep+1,jR _ ho (Obj.isFreed_of_dict (Obj.data_mapDictKeys hd _)),
   hc.mapDictKeys _,Obj.data_mapDictKeys hd _,hk.push hkey _,?_,?_⟩ (Br ..))))))
  ·rw[Array.toList_push];exact hp.append hkey _ _
  ·rw[yB];refine List.nodup_append.mpr ⟨hn,by simp,λa ha b hb e=>?_⟩;have:b=k:=by simpa using hb
   exact hnot (this▸e▸ha)
theorem GU {k:K}{key:Value}(d:Addr)(hkey:knd.is k key=true)(hd:(d==sysModules)=false)(dflt:Value):
  MeetsIn prog w (Builtin.«dict.setdefault» ⟨[.ref d,key,dflt],[]⟩) (λ_ R s=> ∃kvs,s.heap.DictOf knd d kvs/\kvs.length<=sizeLine/\
   (∀v,valueAt kvs k=some v->R (.ok (.ret v)) {s with toks:=s.toks+1})/\
   (valueAt kvs k=none-> ∀h',h'.DictOf knd d (kvs++[(k,dflt)])->Heap.SameBut d s.heap h'->R (.ok (.ret dflt)) {s with heap:=h',toks:=s.toks+1})):=
 .of_wp λA R s ⟨kvs,hm,hz,h1,h2⟩=>by
  unfold Builtin.«dict.setdefault»;refine zC ?_;unfold Builtin.Dict.keyAndDefault;refine zC (wpAny_notOrdered_dict hm.typeIs ?_);show wpAny _ _ (pure (d,key,some dflt)) _ _ s;refine zP ?_;show wpAny _ _ (if(d==sysModules)=true then _ else(dictSetDefault d key dflt>>=_)) _ _ s;rw[zI (by rw[hd];exact yK)];exact zC (HV hkey hm (λv hv=>zP ⟨v,rfl,h1 v hv⟩) (λhn h' hm' hs'=>zP ⟨dflt,rfl,h2 hn h' hm' hs'⟩) hz)
end
section
variable {X:Cx}{pins:List (Addr×Obj)}{σ:St}{H:Hp}{s:Shared}{a:Addr}{kvs:List (DN×V)}{k:DN}{u r:Value}{d:V}{A:Around}{E:Value->Shared->Prop}
theorem WM {Q:Value->Shared->Prop}(I:xK X pins σ H s)(e:H a=some (.dK kvs))(ry:kU (kV k) u)(rd:kU d r)(hl:kvs.length<sizeLine)
  (h1: ∀v w' s',FP kvs k=some v->xK X pins σ H s'->kU v w'->Q w' s') (h2: ∀s',FP kvs k=none->xK X pins σ (upd H a (.dK (kvs++[(k,d)]))) s'->Q r s'):
  wpAny (model X.prog X.w) A (call (.builtin "dict.setdefault") [.ref a,u,r]) Q E s:=by
 obtain⟨z,hd,vs,rel,dd⟩:=Zi I.hok e;have hz:vs.length<=sizeLine:=by rw[<-rel.length];exact z
 refine call_meetsIn DX dd.typeIs PySem.F.entry_dict_setdefault (PySem.F.args_dict_setdefault_3 _ _ _) (GU (knd:=Ap X.prog X.w) a (NI ry) hd r) ⟨vs,dd,hz,λv hv=>?_,λhv h' dd' hs=>?_⟩
 ·have rl:=rel.val k;rw[hv]at rl;cases q:FP kvs k with
  |none=>rw[q]at rl;exact rl.elim
  |some y=>rw[q]at rl;exact h1 y _ _ q (I.tok _) rl
 ·have rl:=rel.val k;rw[hv]at rl;have q:FP kvs k=none:=by
   cases q:FP kvs k with
   |none=>rfl
   |some y=>rw[q]at rl;exact rl.elim
  have he: ∃q,h'.get? a=some q:=let⟨q,_,_,hq,_⟩:=dd';⟨q,hq⟩;refine h2 _ q (Pu I (by rw[e];exact True.intro) hs he (WJ (by rw[zB];exact hl) hd (wP rel ⟨rfl,rd⟩) dd'))
end
section
variable {X:Cx}{o e f:Expr}{td ty tx:TE}{apos cpos:Pos}
def ZC (td ty tx:TE):TE:=λσ H Q=>td σ H λx H1=> ∃a,x=.ref a/\IsD H1 a/\ty σ H1 λy H2=>tx σ H2 λz H3=> ∃kvs k,H3 a=some (.dK kvs)/\y=kV k/\kvs.length<sizeLine/\
 (∀v,FP kvs k=some v->Q v H3)/\(FP kvs k=none->Q z (upd H3 a (.dK (kvs++[(k,z)]))))
theorem VE (ho:PE X o td)(he:PE X e ty)(hf:PE X f tx)(m:M2 X o "setdefault" apos e f cpos):PE X (.Call (.Attribute o "setdefault" apos) [e,f] [] cpos) (ZC td ty tx):=by
 refine⟨?_⟩;intro pins s σ H Q I h;refine wpAny_Call_method m.base m.few m.line PySem.F.plainAttrs_dict DX PySem.F.type_dict_setdefault (qT (ho pins s σ H _ I h) λu s1 hzz=>?_);obtain⟨x,H1,I1,rx,a,ex,d,q1⟩:=hzz;subst ex;obtain rfl:u=Value.ref a:=rx;obtain⟨t1,t2,_⟩:=zAl I1 d;refine⟨t1,t2,?_⟩;rw[m.trees];refine vE rfl (AY (Ax (qT (he pins s1 σ H1 _ I1 q1) λiv s2 ⟨y,H2,I2,ry,q2⟩=>
  Ax (qT (hf pins s2 σ H2 _ I2 q2) λfv s3 ⟨z,H3,I3,rz,kvs,k,ea,ey,hl,qa,qb⟩=>FD ?_))))
 subst ey;exact WM I3 ea ry rz hl (λv w' s' hv I4 rv=>⟨_,H3,I4,rv,qa v hv⟩) λs' hv I4=>⟨_,_,I4,rz,qb hv⟩
end
end L2
namespace L2
open PySem
theorem Kj {M:Model}{Γ:PySem.Ctx}{p:Pos}{t:Sem Fin}{fs:List Frame}{s:Shared}{e:End}{s':Shared}(h:Runs M Γ p t fs s e s'):s.toks<=s'.toks:=by
 induction h with
 |done=>exact zW _
 |raise=>exact zW _
 |again _ _ ih=>exact ih
 |rule _ ih=>exact ih
 |«at» _ ih=>exact ih
 |load _ _ ih=>exact ih
 |update _ _ ih=>exact ih
 |loadIfAlive _ ih=>exact ih
 |point _ ih=>exact ih
 |alloc _ ih=>exact ih
 |fresh _ ih=>exact Nat.le_of_succ_le ih
 |ask _ ih=>exact ih
 |choose _ _ ih=>exact ih
 |os _ ih=>exact ih
 |handled _ ih=>exact ih
 |genState _ _ ih=>exact ih
 |stack _ ih=>exact ih
 |thread _ ih=>exact ih
 |newGen _ ih=>exact ih
 |call _ _ i1 i2=>exact yT i1 i2
 |callSusp _ ih=>exact ih
 |yield=>exact zW _
 |resumeFresh _ _ _ _ i1 i2=>exact yT i1 i2
 |resumeSuspended _ _ _ _ i1 i2=>exact yT i1 i2
 |resumeJustStarted _ _ _ ih=>exact ih
 |resumeThrowFresh _ _ ih=>exact ih
 |resumeRunning _ _ ih=>exact ih
 |resumeFinished _ _ ih=>exact ih
 |segRet _ _ i1 i2=>exact yT i1 i2
 |segGen _ _ i1 i2=>exact yT i1 i2
 |segSuspOut _ _ ih=>exact ih
 |segSuspGen _ _ _ _ i1 i2=>exact yT i1 i2
theorem Rc {M:Model}{Γ:PySem.Ctx}{p:Pos}{g:Nat}{r:Resume}{s:Shared}{res:GenResult}{s':Shared}(h:Wakes M Γ p g r s res s'):s.toks<=s'.toks:=by
 unfold Wakes at h;split at h
 ·exact h.elim
 ·split at h
  ·obtain⟨e1,s1,h1,_,_,rfl⟩:=h;have:=Kj h1;exact this
  ·rw[h.2];exact zW _
  ·rw[h.2];exact zW _
 ·obtain⟨e1,s1,h1,_,_,rfl⟩:=h;have:=Kj h1;exact this
 ·rw[h.2];exact zW _
 ·rw[h.2];exact zW _
theorem Ot {α:Type}{M:Model}{Γ:PySem.Ctx}{Q:α->Pos->Shared->Prop}{E:Value->Pos->Shared->Prop}{n:Nat}: ∀(t:Sem α) (p:Pos) (s:Shared),n<=s.toks->Sem.wp M Γ t (λa p' s'=>n<=s'.toks->Q a p' s') (λe p' s'=>n<=s'.toks->E e p' s') p s->Sem.wp M Γ t Q E p s:=by
 intro t
 induction t with
 |pure a=>intro p s hn h;exact h hn
 |raise e=>intro p s hn h;exact h hn
 |unsupported _=>intro p s hn h;exact h
 |finish _=>intro p s hn h;exact h
 |rule _ k ih=>intro p s hn h;rw[Sem.wp_rule]at h ⊢;exact ih () p s hn h
 |«at» p' k ih=>intro p s hn h;rw[Sem.wp_at]at h ⊢;exact ih () p' s hn h
 |load a part k ih=>
  intro p s hn h;rw[Sem.wp_load]at h ⊢;obtain⟨o,e,h⟩:=h;exact⟨o,e,ih o p s hn h⟩
 |update a part f k ih=>
  intro p s hn h;rw[Sem.wp_update]at h ⊢;exact⟨h.1,ih () p _ hn h.2⟩
 |alloc o k ih=>intro p s hn h;rw[Sem.wp_alloc]at h ⊢;exact ih _ p _ hn h
 |loadIfAlive a k ih=>intro p s hn h;rw[Sem.wp_loadIfAlive]at h ⊢;exact ih _ p s hn h
 |point l k ih=>intro p s hn h;rw[Sem.wp_point]at h ⊢;exact ih () p s hn h
 |register a k ih=>intro p s hn h;rw[Sem.wp_register]at h;exact h.elim
 |fresh k ih=>intro p s hn h;rw[Sem.wp_fresh]at h ⊢;exact ih _ p _ (Nat.le_succ_of_le hn) h
 |ask k ih=>intro p s hn h;rw[Sem.wp_ask]at h ⊢;exact ih _ p s hn h
 |choose src m k ih=>intro p s hn h;unfold Sem.wp at h ⊢;exact⟨h.1,ih _ p _ hn h.2⟩
 |os q l k ih=>intro p s hn h;unfold Sem.wp at h ⊢;exact ih _ p _ hn h
 |call c hd g l k ih=>
  intro p s hn h;unfold Sem.wp at h ⊢;obtain⟨r,s1,hr,h⟩:=h;exact⟨r,s1,hr,ih r p s1 (yT hn (Kj hr)) h⟩
 |handled own k ih=>intro p s hn h;unfold Sem.wp at h ⊢;exact ih _ p s hn h
 |newGen c k ih=>intro p s hn h;unfold Sem.wp at h ⊢;exact ih _ p _ hn h
 |genState g k ih=>
  intro p s hn h;unfold Sem.wp at h ⊢;obtain⟨st,e,h⟩:=h;exact⟨st,e,ih _ p s hn h⟩
 |resume g r l k ih=>
  intro p s hn h;unfold Sem.wp at h ⊢;obtain⟨res,s1,hr,h⟩:=h;exact⟨res,s1,hr,ih _ p s1 (yT hn (Rc hr)) h⟩
 |yield v g l k ih=>intro p s hn h;unfold Sem.wp at h;exact h.elim
 |stack k ih=>intro p s hn h;unfold Sem.wp at h ⊢;exact ih _ p s hn h
 |fork c k ih=>intro p s hn h;unfold Sem.wp at h;exact h.elim
 |thread k ih=>intro p s hn h;unfold Sem.wp at h ⊢;exact ih _ p s hn h
 |await a tk td l k ih=>intro p s hn h;unfold Sem.wp at h;exact h.elim
theorem Lw {α:Type}{M:Model}{A:Around}{t:Sem α}{Q:α->Shared->Prop}{E:Value->Shared->Prop}{s:Shared}(h:wpAny M A t (λv s'=>s.toks<=s'.toks->Q v s') (λe s'=>s.toks<=s'.toks->E e s') s):wpAny M A t Q E s:=
 λΓ p hΓ=>Ot t p s (zW _) (h Γ p hΓ)
end L2
namespace L2
open PySem PySem.Spec PySem.Builtin.Str PyProof.Rows
def Oo {α:Type}(t:Sem α):Prop:= ∀(M:Model) (Γ:PySem.Ctx) (Q:α->Pos->Shared->Prop) (E:Value->Pos->Shared->Prop) (p:Pos) (s:Shared),
 Sem.wp M Γ t (λa p' s'=>s.toks<s'.toks->Q a p' s') E p s->Sem.wp M Γ t Q E p s
theorem Oo.fst {α β:Type}{m:Sem α}{f:α->Sem β}(h:Oo m):Oo (m>>=f):=λM Γ Q E p s q=>by
 rw[Sem.wp_bind']at q ⊢;refine h M Γ _ E p s (Sem.wp_mono M Γ m (λa p' s' h'=>?_) (λ_ _ _ h'=>h') p s q);intro lt;refine Ot (n:=s'.toks) (f a) p' s' (zW _) (Sem.wp_mono M Γ (f a) (λb p2 s2 h2=>?_) (exc':=λe p' s2=>s'.toks<=s2.toks->E e p' s2) (λ_ _ _ h2 _=>h2) p' s' h');exact λle=>h2 (yY lt le)
theorem Oo.snd {α β:Type}{m:Sem α}{f:α->Sem β}(h: ∀a,Oo (f a)):Oo (m>>=f):=λM Γ Q E p s q=>by
 rw[Sem.wp_bind']at q ⊢;refine Ot (n:=s.toks) m p s (zW _) (Sem.wp_mono M Γ m (λa p' s' h'=>?_) (exc':=λe p' s2=>s.toks<=s2.toks->E e p' s2) (λ_ _ _ h2 _=>h2) p s q);intro le;refine h a M Γ _ E p' s' (Sem.wp_mono M Γ (f a) (λb p2 s2 h2=>?_) (λ_ _ _ h2=>h2) p' s' h');exact λlt=>h2 (kO le lt)
theorem Uu:Oo fresh:=λM Γ Q E p s q=>by
 unfold fresh at q ⊢;rw[Sem.wp_fresh]at q ⊢;exact q (qF _)
theorem Ut {ns:Addr}{x:Str}{v:Value}:Oo (nsSet ns x v):=by
 unfold nsSet;exact Oo.snd λ_=>Oo.fst (Oo.fst Uu)
theorem Oo.go {α:Type}{t:Sem α}{M:Model}{A:Around}{Q:α->Shared->Prop}{E:Value->Shared->Prop}{s:Shared}(h:Oo t)(q:wpAny M A t (λa s'=>s.toks<s'.toks->Q a s') E s):wpAny M A t Q E s:=
 λΓ p hΓ=>h M Γ _ _ p s (q Γ p hΓ)
theorem Lg {env:Env}{x:Str}{v:Value}(hk:env.scope.kind=.function)(hl:env.kindOf x=some .local):storeName env x v=nsSet env.locals x v:=by
 unfold storeName;rw[hl,hk];rfl
theorem Yp {scope:Scope}{globals:Addr}{n:Str}{v:Value}{binds:List (Str×Value)}{qual:Str}{func:Option Addr}{code:Value}{builtins:Addr}(hk:scope.kind=.function)(hl:scope.names.lookup n=some .local):
  Oo (newFunctionEnv scope globals [] ((n,v)::binds) qual func code none builtins):=by
 simp only[newFunctionEnv,Option.isSome_none,wN,Bw];refine Oo.snd λL=>Oo.snd λcells=>Oo.fst ?_;rw[uJ];refine Oo.fst (Oo.fst ?_);rw[Lg (by exact hk) (by exact hl)];exact Ut
structure MU (X:Cx)(st:List Stmt)(t:TS):Prop where
 go: ∀(pins:List (Addr×Obj)) (s:Shared) (σ:St) (H:Hp) (D:He),xK X pins σ H s->0<s.toks->t D σ H->wpAny (model X.prog X.w) X.A (execs st X.env) (SP X pins D) X.xe s
structure UR (X:Cx)(e:Expr)(t:TE):Prop where
 go: ∀(pins:List (Addr×Obj)) (s:Shared) (σ:St) (H:Hp) (Q:VK),xK X pins σ H s->0<s.toks->t σ H Q->wpAny (model X.prog X.w) X.A (eval e X.env) (EP X pins σ Q) X.xe s
structure PIT (X:Cx)(tg iter:Expr)(wi:TI):Prop where
 go: ∀(pins:List (Addr×Obj)) (s:Shared) (σ:St) (H:Hp) (R:It->Hp->Prop),xK X pins σ H s->0<s.toks->wi σ H R->
  wpAny (model X.prog X.w) X.A (eval iter X.env) (λv s1=>wpAny (model X.prog X.w) X.A (pyIter v) (PIE X pins σ tg R) X.xe s1) X.xe s
theorem WC {CX:JW}{P:Program}{w:World}{K:PySem.W.Frag}{mg:Str->Option Value}{base:Heap}{k:Nat}{f:Addr}{name qual:Str}{params:Arguments}{body:List Stmt}{scope:Scope}{dV kV doc pm cdv ct oc:Value}{an od:Option Addr}
  {osl:Array (Option Value)} {N ps:List Str} {p0:Str} {sp:Sp} (lk:K.lookup f=some ⟨oc,od,.func (PySem.W.fnOf name qual params body scope dV kV doc pm an cdv ct),osl⟩) (hcd:PySem.W.codeIn K cdv qual=true) (S:xA N (p0::ps) scope)
  (h0:scope.names.lookup p0=some .local)
  (len: ∀vs H Q E,sp vs H Q E->vs.length=(p0::ps).length)
  (hbody: ∀(A:Around) (outer:List Env) (s:Shared) (H:Hp) (vs:List V) (Q:VK) (E:XK),uE k (A.deeper (envOfC qual scope s.heap.objs.size f cdv))->sp vs H Q E->
   ∃t,MU (JO CX P w K mg base N qual scope f cdv A outer s H E) body t/\t {nx:=λ_ H'=>Q .non H',rt:=Q} (Ey N vs) H):
  CU P w K mg base CX (k+1) f (PySem.W.fnOf name qual params body scope dV kV doc pm an cdv ct) (p0::ps) sp:=by
 refine⟨len,λA outer s H args us vs Q E hr e0 hb r hsp=>?_⟩;have hl:=len _ _ _ _ hsp;have KX:K.In s.heap:=e0.mod.kin.keeps λb o e=>(e0.bs b o e).1;have lim:s.heap.NoLimit:=e0.mod.nolimit.keeps λb o e=>(e0.bs b o e).1;have hkind: ∀y∈(p0::ps).zip us,scope.names.lookup y.1=some .local\/(scope.names.lookup y.1=some .cell/\((cellsFrom (s.heap.objs.size+1) scope.names []).lookup y.1).isSome =true):=fun⟨n,v⟩ hy=>by
  rcases S.par n (DY hy).1 with q|q
  ·exact .inl q
  ·exact .inr ⟨q,Db _ _ _ (.inl q)⟩
 have hul:us.length=vs.length:=r.length.symm;obtain⟨u0,us',rfl⟩: ∃u0 us',us=u0::us':=by
  cases us with
  |nil=>rw[hl]at hul;cases hul
  |cons a b=>exact⟨a,b,rfl⟩
 refine codeAny_call_function hr.depth (KX _ _ lk) rfl S.co S.gen rfl (PySem.W.codeRec_of KX hcd) (hb _ _ _ _ ?_);refine Oo.go (by rw[List.zip_cons_cons];exact Yp S.kind h0) ?_;refine wpAny_newFunctionEnv_cells S.kind hkind λenv he s1 x lt=>?_;subst he;refine⟨lim.keeps x.toInCall.keep,codeAny_func ?_⟩;obtain⟨t,ht,hq⟩:=hbody A outer s H vs Q E (hr.deeper _) hsp;have I:xK (JO CX P w K mg base N qual scope f cdv A outer s H E) [] (Ey N vs) H s1:=NQ S hr.hd e0 hl r x;refine wD (ht.go [] s1 (Ey N vs) H _ I (kO (yU _) lt) hq) (λfl s' hs=>?_) λe s' hs=>hs;have fin: ∀{σ':St} {H':Hp} {v:V} {u:Value},xK (JO CX P w K mg base N qual scope f cdv A outer s H E) [] σ' H' s'->kU v u->Q v H'->CE outer P w H s Q u s':=
  fun{σ' H' v u} J rv q=>⟨v,H',J.os,J.bare,J.base,J.hok,rv,q⟩
 cases fl with
 |ret u=>
  obtain⟨v,σ',H',J,rv,q⟩:=hs;exact fin J rv q
 |next=>
  obtain⟨σ',H',J,q⟩:=hs;exact fin (v:=V.non) (u:=Value.none) J rfl q
 |brk=>
  obtain⟨_,_,_,q⟩:=hs;exact False.elim q
 |cont=>
  obtain⟨_,_,_,q⟩:=hs;exact False.elim q
section
variable {X:Cx}{e:Expr}{te:TE}{pos:Pos}
theorem Qi (he:UR X e te):MU X [.Return (some e) pos] (zBv te):=by
 refine⟨?_⟩;intro pins s σ H D I h0 h;refine Bh (wpAny_Return_some (qT (he.go pins s σ H _ I h0 h) λv s1 hzz=>?_));obtain⟨x,H1,I1,r1,q1⟩:=hzz;exact⟨x,σ,H1,I1,r1,q1⟩
theorem Vz {tg l:Expr}{tl:TE}(hl:UR X l tl):PIT X tg l (Ze X.K tl):=by
 refine⟨?_⟩;intro pins s σ H R I h0 h;refine qT (hl.go pins s σ H _ I h0 h) λv s1 hzz=>?_;obtain⟨x,H1,I1,r1,q1⟩:=hzz;obtain⟨a,e,⟨xs,hq⟩,q⟩:=q1;subst e;cases r1;obtain⟨its,rv,p,hz⟩:=I1.list hq;refine CV p.isList ?_;refine⟨s1.heap.objs.size,[s1.heap.objs.size],_,_,H1,rfl,I1.kept (t':=s1.toks) λb o e=>zJ _ e,Nc a _,⟨_,yL _ rfl,rfl,rfl⟩,λb hb=>?_,q⟩;have e:b=s1.heap.objs.size:=by simpa using hb
 subst e;exact I1.fpOk (zW _) (I1.hok.fresh (zW _))
theorem VF {target iter elt:Expr}{ifs:List Expr}{scope:Scope}{wi:TI}{own ys:List Str}{js:List Nat}{g:TG}{tt:TT}(hc:X.calm=true)(hi:PIT X target iter wi)(S:PD X scope ys)(fr:Ia X.N ys js)
  (hg: ∀cl C fp s H,PG (X.comp (own++ys) scope cl C fp s H) target g) (ht: ∀cl C fp s H,Zo (X.comp (own++ys) scope cl C fp s H) ifs tt) (he: ∀cl C fp s H,PE (X.comp (own++ys) scope cl C fp s H) elt te)
  (hs: ∀x,foldedSetIterable iter X.env x=pure x:=by intro _;rfl):UR X (.ListComp elt [⟨target,iter,ifs,0⟩] scope pos) (Vi wi own.length js g tt te):=by
 refine⟨?_⟩;intro pins s σ H Q I h0 h;rw[eval_ListComp];obtain⟨cl,e,c1,c2⟩:=Jh (env:=X.env) (scope:=scope) λy hy hf=>I.ok.has y.1 (.inl (S.free y hy hf));refine Bv (use:=none) rfl hs e S.kind S.loc (qT (hi.go pins s σ H _ I h0 h) λv s1 h1=>qT h1 λitv s2 h2=>?_);obtain⟨it,fp,tn,J,H2,e,I2,T,st2,f2,q2⟩:=h2;subst e;refine Jf (Q:=Q) (RR:=λacc C=>compPost (model X.prog X.w) X.A X.xe none (EP X pins σ Q) acc C) hc I2 T st2 f2 S.kind S.cell fr S.cap c1 c2 S.vis hg ht he q2 ?_;intro D C H' s' I' q hm n1 n2 n3 n4 n5;obtain⟨m,hn⟩:=hm;exact⟨m,hn,λh' hs'=>⟨.ref D,H',I'.turned (λb o hb e=>(hs'.2 b hb).trans e) n1 n2 (.inr n3) n4 n5,rfl,q⟩⟩
theorem VI {o:Expr}{es:List Expr}{to:TE}{t:TA}{T id:String}{name:Str}{r:V->List V->Hp->VK->Prop}{apos cpos:Pos}(pa:PlainAttrs T)(slot:Slot T name id)(hty:typeOf (.builtin id)=pure (.type "method_descriptor"))(hm:US X id r)(ho:UR X o to)(ha:PA X (e::es) t)
  (hbase:attributeBase o name X.env (eval o X.env)=eval o X.env:=by rfl)
  (hfew:((backTo cpos (starEach (e::es) X.env)).all (λx=>!x.1)&&(backToKw cpos (keywordEach [] X.env)).all (λx=>x.1.isSome)
   &&decide ((e::es).length +([]:List Keyword).length +(if([]:List Keyword).isEmpty then 0 else 1)<30))=true:=by rfl)
  (hline:(apos.endLine==cpos.line)=true:=by rfl) (hs:starEach (e::es) X.env=(false,eval e X.env)::starEach es X.env:=by rfl) (hplain:(backTo cpos (starEach es X.env)).any (·.1)=false:=by rfl):
  UR X (.Call (.Attribute o name apos) (e::es) [] cpos) (tBM X.K T r to t):=by
 refine⟨?_⟩;intro pins s σ H Q I h0 h;refine CZ hbase hfew hline rfl (qT (ho.go pins s σ H _ I h0 h) λv s1 hzz=>?_);obtain⟨x,H1,I1,r1,ty,q1⟩:=hzz;obtain⟨h1,h2⟩:=Re I1 r1 ty;refine⟨T,id,pa,slot,hty,h1,h2,?_⟩;have hA:=ha cpos pins s1 σ H1 _ I1 q1;rw[hs]at hA ⊢;refine vE (by show(false || (backTo cpos (starEach es X.env)).any (·.1))=false;rw[hplain]<;>rfl) (AY ?_);exact qT hA λus s2 ⟨vs,H2,I2,r2,q2⟩=>hm pins s2 σ H2 x vs v us Q I2 r1 r2 q2
def zBw (to:TE)(y z:Str):TE:=λσ H Q=>to σ H λv H1=> ∃x:Str,v=.str x/\x.length<=1048576/\Q (.str (Txt.replace x y z)) H1
theorem KL {o:Expr}{to:TE}{y z:Str}{apos cpos p1 p2:Pos}{k1 k2:Nat}(hyz:(y==z)=false)(hz:z.length<=14)(ho:PE X o to)
  (hbase:attributeBase o "replace" X.env (eval o X.env)=eval o X.env:=by rfl)
  (hline:(apos.endLine==cpos.line)=true:=by rfl):
  UR X (.Call (.Attribute o "replace" apos) [.Constant (.str y) k1 p1,.Constant (.str z) k2 p2] [] cpos) (zBw to y z):=by
 refine⟨?_⟩;intro pins s σ H Q I h0 h;refine CZ hbase rfl hline rfl (Lw (wD (ho pins s σ H _ I h) (λv s1 ⟨x,H1,I1,r1,q1⟩ le=>?_) λ_ _ q _=>q));obtain⟨x,rfl,hx,q⟩:=q1;obtain⟨tk,rfl⟩:=r1;refine⟨"str","str.replace",F.plainAttrs_str,F.slot_str_replace,F.type_str_replace,AW _ _ _,(λ_ e=>nomatch e),?_⟩;refine vE rfl (AY ?_);refine Ax (EX (k:=k1) (pos:=p1) (Ax (EX (k:=k2) (pos:=p2) (FD ?_))));have hp:0<s1.toks:=yY h0 le;refine SC.replaceW (qP hp) (Nat.succ_ne_zero _) (xM (qF _)) hyz hx hz λt' k=>?_;exact⟨.str _,H1,I1.tok _,⟨_,rfl⟩,q⟩
theorem ZT {c a b:Expr}{tA:TT}{x y:V}(hc:PT X c tA)(ha:PE X a (tC x))(hb:PE X b (tC y)):PE X (.IfExp c a b pos) (λσ H Q=>tA σ H λc H1=>Q (if c=true then x else y) H1):=by
 refine⟨?_⟩;intro pins s σ H Q I h;refine wpAny_IfExp (qT (hc pins s σ H _ I h) λd s1 hzz=>?_);obtain⟨H1,I1,q1⟩:=hzz;cases d with
 |true=>exact ha pins s1 σ H1 Q I1 q1
 |false=>exact hb pins s1 σ H1 Q I1 q1
end
end L2
namespace L2
open PySem
structure RA where
 rd:Addr
 dr:Addr
 wd:Addr
 nm:Addr
 hd:Addr
 bd:Addr
 nu:Addr
 cn:Addr
def Fa (C:Addr)(A:RA)(a:Nat):HO:=.ins C A.dr [("words",.ref A.wd),("at",.int (a:Int)),("names",.ref A.nm),("heads",.ref A.hd),("bodies",.ref A.bd),("numbered",.ref A.nu),("counted",.ref A.cn)]
structure YE (W:List Str):Prop where
 few:W.length<=1000000
 short: ∀w∈W,w.length<=1000000
theorem kP {n:Nat}(h:n<=8000000):n<=sizeLine:=yT h (by decide)
theorem uN {n:Nat}(h:n<=8000000):n<sizeLine:=kO h (by decide)
theorem YE.at {W:List Str}(h:YE W){a:Nat}{w:Str}(e:W[a]? =some w):w.length<=sizeLine:=kP (yT (h.short w (zX e)) (by decide))
structure MT (C:Addr)(A:RA)(W:List Str)(H:Hp)(a:Nat):Prop where
 rd:H A.rd=some (Fa C A a)
 wd:H A.wd=some (.lst (W.map V.str))
 ok:YE W
section
variable {C CT:Addr}{A:RA}{W:List Str}{H H1:Hp}{a b:Nat}{E:XK}
theorem MT.ne (h:MT C A W H a){x:Addr}{xs:List V}(e:H x=some (.lst xs)):x≠A.rd:=λz=>by
 rw[z,h.rd]at e;cases e
theorem MT.put (h:MT C A W H a)(b:Nat):MT C A W (upd H A.rd (Fa C A b)) b:=⟨zH,by rw[zV (h.ne h.wd)];exact h.wd,h.ok⟩
theorem MT.at (h:MT C A W H a){w:Str}(e:W[a]? =some w):FO (W.map V.str) (a:Int)=some (.str w):=vB (by rw[zS,e];rfl)
theorem PV {H:Hp}{a:Addr}{o:HO}(h:H a=some o):upd H a o=H:=by
 funext b
 by_cases z:b=a
 ·rw[z,zH,h]
 ·rw[zV z]
def KB {α:Type}(ok:α->Prop)(no:Nat->Prop):Except Nat α->Prop
 | .ok x=>ok x
 | .error n=>no n
def wH (CT:Addr)(S:List Addr)(H:Hp)(E:XK)(n:Nat):Prop:= ∀d H',xY S H H'->H' d=some (MD d [("at",.int (n:Int))])->E (.ref CT) (some d) H'
theorem wH.mono {S:List Addr}{n:Nat}(f:wH CT S H E n)(k:xY S H H1):wH CT S H1 E n:=λd H' g e=>f d H' (k.trans g) e
theorem wH.one {S:List Addr}{n:Nat}(f:wH CT S H E n):DU CT H E (n:Int):=λd H' g e=>f d H' (xY.same g) e
theorem wH.sub {S S':List Addr}{n:Nat}(f:wH CT S H E n)(h: ∀x∈S',x∈S):wH CT S' H E n:=λd H' g e=>f d H' (λb o nb q=>g b o (λz=>nb (h b z)) q) e
end
theorem xY.fst {x:Addr}{S:List Addr}{H H1:Hp}{o:HO}(k:xY (x::S) H H1):xY (x::S) H (L2.upd H1 x o):=k.trans (xY.upd (zO ..))
theorem wX {H H1:Hp}{x:Addr}{o u:HO}(h: ∀b,H1 b=none->H b=none)(e:H1 x=some u): ∀b,upd H1 x o b=none->H b=none:=λb z=>by
 by_cases q:b=x
 ·rw[q,zH]at z;cases z
 ·rw[zV q]at z;exact h b z
theorem AU {W:List Str}{most:Nat}{last:Str}: ∀(n a:Nat) (bs:List Str) (q:Nat×List Str),wV W most last n a bs=.ok q->bs.length<=most->q.2.length<=most/\bs.length<=q.2.length/\a<q.1/\q.1<=W.length
 |0,a,bs,q,h,_=>by cases h
 |n+1,a,bs,q,h,l=>by
  unfold wV at h;split at h
  ·cases h
  rename_i w e;have hl:=EI e;split at h
  ·cases h;exact⟨l,zW _,qF _,hl⟩
  split at h
  ·cases h
  split at h
  ·rename_i c1 c2 c3;have r:=AU n (a+1) (bs++[w]) q h (by rw[zB];show bs.length+1<=most;lia);rw[zB]at r;have:[w].length =1:=rfl;lia
  ·cases h
theorem vM (k:Str): ∀ss:List Str,Yj (.str k) (ss.map V.str)=decide (k∈ss)
 |[]=>rfl
 |x::r=>by
  have ih:=vM k r;unfold Yj at ih ⊢;rw[yQ,AF,ih]
  by_cases z:x=k
  ·subst z;have:KZ (V.str x) (.str x)=true:=by unfold KZ;simp
   rw[this,zY (zO ..)];rfl
  ·have:KZ (V.str x) (.str k)=false:=by unfold KZ;simp[z]
   rw[this,Bool.false_or]
   by_cases m:k∈r
   ·rw[zY m,zY (zQ _ m)]
   ·rw[yA m,yA (λq=>m ((List.mem_cons.mp q).resolve_left (Ne.symm z)))]
theorem qE: ∀ys:List Str,(ys.map V.str).all CO=true
 |[]=>rfl
 |_::r=>by rw[yQ,List.all_cons,qE r];rfl
theorem My (x y:Str):KZ (V.str x) (.str y)=decide (x=y):=by
 unfold KZ
 by_cases z:x=y
 ·subst z;simp
 ·simp[z]
theorem GX {k:Str}{ss:List Str}(h:k∈ss):PB (ss.map V.str) (.str k) (ss.idxOf k):=by
 have hl:=List.idxOf_lt_length_iff.mpr h;refine⟨⟨.str k,?_,by rw[My,zY rfl]⟩,λm z hm hz=>?_⟩
 ·rw[zS,zE hl,EU hl];rfl
 ·rw[zS]at hz;have hml:m<ss.length:=kZ hm hl;rw[zE hml]at hz;cases hz;rw[My];refine yA λe=>?_;have:=List.not_of_lt_findIdx (p:=(· ==k)) (xs:=ss) (i:=m) hm
  simp[e]at this
def Gb (num:List (Str×Int)):List (DN×V):=num.map λp=>(Sum.inr p.1,V.int p.2)
theorem BZ (x:Str): ∀num:List (Str×Int),FP (Gb num) (Sum.inr x)=(jT num x).map V.int
 |[]=>rfl
 |p::r=>by
  unfold jT
  by_cases z:p.1=x
  ·rw[zT z];exact Jm (p:=(Sum.inr p.1,V.int p.2)) (by rw[z])
  ·rw[zI z,<-BZ x r];exact Jn (p:=(Sum.inr p.1,V.int p.2)) (λe=>z (by injection e))
section
variable (C CT:Addr)
inductive GB (vs:List V) (H:Hp) (Q:VK) (E:XK):Prop
 |mk (A:RA) (W:List Str) (a:Nat) (h0:vs=[.ref A.rd]) (h1:MT C A W H a) (h2:KB (λw=>Q (.str w) H) (λn=>DU CT H E (n:Int)) (Bq W a)):GB vs H Q E
inductive Jt (vs:List V) (H:Hp) (Q:VK) (E:XK):Prop
 |mk (x:Str) (h0:vs=[.str x]) (h1:x.length<=sizeLine) (h2:Q (.bl (jL x)) H):Jt vs H Q E
inductive OF (vs:List V) (H:Hp) (Q:VK) (E:XK):Prop
 |mk (A:RA) (W:List Str) (a:Nat) (th:Addr) (ts:List Str) (h0:vs=[.ref A.rd,.ref th]) (h1:MT C A W H a) (h2:H th=some (.lst (ts.map V.str))) (h3:KB (λw=>Q (.str w) (upd H A.rd (Fa C A (a+1)))) (λn=>DU CT H E (n:Int)) (HL W a ts)):OF vs H Q E
inductive LI (vs:List V) (H:Hp) (Q:VK) (E:XK):Prop
 |mk (A:RA) (W:List Str) (a:Nat) (bx:Addr) (bs:List Str) (most:Nat) (last:Str) (h0:vs=[.ref A.rd,.ref bx,.int (most:Int),.str last]) (h1:MT C A W H a) (h2:H bx=some (.lst (bs.map V.str))) (h3:bx≠A.wd) (h4:bs.length<=most) (h5:most<=50) (h6:KB (λq=> ∀H',xY [A.rd,bx] H H'->(∀b,H' b=none->H b=none)->H' A.rd=some (Fa C A q.1)->H' bx=some (.lst (q.2.map V.str))->Q .non H') (wH CT [A.rd,bx] H E) (wV W most last (W.length+1) a bs)):LI vs H Q E
inductive Rq (vs:List V) (H:Hp) (Q:VK) (E:XK):Prop
 |mk (A:RA) (W:List Str) (a:Nat) (bx:Addr) (bs:List Str) (h0:vs=[.ref A.rd,.ref bx]) (h1:MT C A W H a) (h2:H bx=some (.lst (bs.map V.str))) (h3:KB (λn=>Q (.int (n:Int)) (upd H A.rd (Fa C A (a+1)))) (λn=>DU CT H E (n:Int)) (Ji W a bs)):Rq vs H Q E
inductive OC (vs:List V) (H:Hp) (Q:VK) (E:XK):Prop
 |mk (A:RA) (W:List Str) (a:Nat) (h0:vs=[.ref A.rd]) (h1:MT C A W H a) (h2:KB (λn=>Q (.int n) (upd H A.rd (Fa C A (a+1)))) (λn=>DU CT H E (n:Int)) (IB W a)):OC vs H Q E
inductive OH (vs:List V) (H:Hp) (Q:VK) (E:XK):Prop
 |mk (A:RA) (W:List Str) (a:Nat) (least:Int) (h0:vs=[.ref A.rd,.int least]) (h1:MT C A W H a) (h2:KB (λn=>Q (.int n) (upd H A.rd (Fa C A (a+1)))) (wH CT [A.rd] H E) (Eg W a least)):OH vs H Q E
inductive Ke (vs:List V) (H:Hp) (Q:VK) (E:XK):Prop
 |mk (A:RA) (W:List Str) (a:Nat) (num:List (Str×Int)) (h0:vs=[.ref A.rd]) (h1:MT C A W H a) (h2:H A.nu=some (.dK (Gb num))) (h3:KB (λn=>Q (.int n) (upd H A.rd (Fa C A (a+1)))) (λn=>DU CT H E (n:Int)) (Aq W num a)):Ke vs H Q E
inductive OB (vs:List V) (H:Hp) (Q:VK) (E:XK):Prop
 |mk (A:RA) (W:List Str) (a:Nat) (k:Int) (bx:Addr) (bs:List Str) (num:List (Str×Int)) (h0:vs=[.ref A.rd,.int k,.ref bx]) (h1:MT C A W H a) (h2:H bx=some (.lst (bs.map V.str))) (h3:H A.nu=some (.dK (Gb num))) (h4:KB (λr=> ∀t H',xY [A.rd] H H'->(∀b,H' b=none->H b=none)->H' A.rd=some (Fa C A r.2)->H' t=some (.tup (r.1.map V.int))->Q (.ref t) H') (wH CT [A.rd] H E) (Am W num a k bs)):OB vs H Q E
inductive LG (vs:List V) (H:Hp) (Q:VK) (E:XK):Prop
 |mk (x:Str) (h0:vs=[.str x]) (h1:(x∈kwW->Q (.int (2+(kwW.idxOf x:Int))) H)) (h2:(x∉kwW->Q .non H)):LG vs H Q E
inductive Lm (vs:List V) (H:Hp) (Q:VK) (E:XK):Prop
 |mk (A:RA) (W:List Str) (a:Nat) (bx:Addr) (bs:List Str) (h0:vs=[.ref A.rd,.ref bx]) (h1:MT C A W H a) (h2:H bx=some (.lst (bs.map V.str))) (h3:KB (λq=>Q (.int q.1) (upd H A.rd (Fa C A q.2))) (λn=>DU CT H E (n:Int)) (Ag W a bs)):Lm vs H Q E
def Zp (H:Hp)(v:V)(n:Int):Prop:= ∃t,v=.ref t/\H t=some (.tup [.int n])
def Gn (H:Hp)(c:Addr)(cnt:List Int):Prop:= ∃vs,H c=some (.lst vs)/\Paired (Zp H) vs cnt
inductive LF (vs:List V) (H:Hp) (Q:VK) (E:XK):Prop
 |mk (k:Int) (h0:vs=[.int k]) (h1:7<=k) (h2:k<=19) (h3:Q (.int ((partsW[(k-7).toNat]?).getD 0)) H):LF vs H Q E
inductive OL (vs:List V) (H:Hp) (Q:VK) (E:XK):Prop
 |mk (k:Int) (t c:Addr) (ns cnt:List Int) (h0:vs=[.int k,.ref t,.ref c]) (h1:H t=some (.tup (ns.map V.int))) (h2:Gn H c cnt) (h3:0<=k) (h4:k<=19) (h5:(k=3\/k=4\/k=6->ns.length=1)) (h6:(k=6->0<=ns.headD 0/\(ns.headD 0).toNat <cnt.length)) (h7:Q (.int (GZ cnt k ns)) H):OL vs H Q E
structure Xa (A:RA)(H:Hp)(bx:Addr)(W bs:List Str)(num:List (Str×Int))(cnt:List Int)(a:Nat)(bs':List Int):Prop where
 w:MT C A W H a
 box:H bx=some (.lst (bs.map V.str))
 nu:H A.nu=some (.dK (Gb num))
 cn:Gn H A.cn cnt
 bd:H A.bd=some (.lst (bs'.map V.int))
 n1:A.bd≠A.wd
 n2:A.bd≠bx
 n3:A.bd≠A.cn
 le:a<=W.length
 few:bs'.length<=2*a
structure Sq (num:List (Str×Int))(cnt:List Int):Prop where
 there: ∀x f,jT num x=some f->0<=f/\f.toNat<cnt.length
 near: ∀c∈cnt,-1000000000<=c/\c<=1000000000
inductive Ii (d:Nat) (vs:List V) (H:Hp) (Q:VK) (E:XK):Prop
 |mk (A:RA) (bx:Addr) (W bs:List Str) (num:List (Str×Int)) (cnt:List Int) (a:Nat) (bd:List Int) (h0:vs=[.ref A.rd,.ref bx,.int (11-(d:Int))]) (h1:d<=10) (h2:Xa C A H bx W bs num cnt a bd) (h3:Sq num cnt) (h4:KB (λq=> ∀H',xY [A.rd,A.bd] H H'->(∀b,H' b=none->H b=none)->Xa C A H' bx W bs num cnt q.1 q.2->Q .non H') (wH CT [A.rd,A.bd] H E) (uC W num cnt bs d a bd)):Ii d vs H Q E
def Xq:Nat->Sp
 |0=>λ_ _ _ _=>False
 |d+1=>Ii C CT d
end
section
variable {C:Addr}{A:RA}{H H1:Hp}{bx:Addr}{W bs:List Str}{num:List (Str×Int)}{cnt:List Int}{a b:Nat}{bd bd':List Int}
theorem Gn.tups {c:Addr}(h:Gn H c cnt)(e: ∀xs,H c=some (.lst xs)->H1 c=some (.lst xs))(t:uV H H1):Gn H1 c cnt:=by
 obtain⟨vs,ev,p⟩:=h;refine⟨vs,e _ ev,Paired.imp (λ_ _ z=>?_) p⟩;obtain⟨q,rfl,hq⟩:=z;exact⟨q,rfl,t _ _ hq⟩
theorem Sk {n:Int}(h:Aq W num a=.ok n): ∃x,jT num x=some n:=by
 unfold Aq at h;split at h
 ·split at h
  ·split at h
   ·rename_i f e;cases h;exact⟨_,e⟩
   ·cases h
  ·cases h
 ·cases h
theorem XI {r:List Int×Nat}(h:Am W num a 6 bs=.ok r): ∃x,jT num x=some (r.1.headD 0):=by
 unfold Am at h;rw[zI (by decide),zI (by decide),zI (by decide),zI (by decide),zT rfl]at h;split at h
 ·rename_i n e;cases h;exact Sk e
 ·cases h
theorem WI (hn: ∀c∈cnt,-1000000000<=c/\c<=1000000000){k:Int}{ns:List Int}(h:k=3\/k=4->1<=ns.headD 0/\ns.headD 0<=12): -1000000000<=GZ cnt k ns/\GZ cnt k ns<=1000000000:=by
 have get: ∀(l:List Int) (i:Nat),(∀c∈l,-1000000000<=c/\c<=1000000000)-> -1000000000<=(l[i]?).getD 0/\(l[i]?).getD 0<=1000000000:=λl i hl=>by
  cases e:l[i]? with
  |none=>exact⟨by decide,by decide⟩
  |some c=>exact hl c (zX e)
 unfold GZ;split
 ·lia
 split
 ·lia
 split
 ·have:=h (by lia);lia
 split
 ·have:=h (by lia);lia
 split
 ·lia
 split
 ·exact get _ _ hn
 ·exact get _ _ (by decide)
end
end L2
namespace L2
open PySem PySem.Spec PySem.Builtin.Str PyProof.Rows
def CS (c:Nat):Prop:=c=32\/c=10
instance (c:Nat):Decidable (CS c):=inferInstanceAs (Decidable (_\/_))
def wl (acc:List Nat):List Nat->List (List Nat)
 |[]=>if acc=[]then[]else[acc]
 |c::r=>if CS c then(if acc=[]then wl [] r else acc::wl [] r)else wl (acc++[c]) r
def Jo (c:Nat):Nat:=if c=10 then 32 else c
theorem Ou: ∀(l acc:List Nat),wl acc (l.map Jo)=wl acc l
 |[],acc=>rfl
 |c::r,acc=>by
  rw[yQ];unfold wl
  by_cases z:c=10
  ·subst z;rw[zT (show CS (Jo 10)from .inl rfl),zT (show CS 10 from .inr rfl),Ou r]
  ·have:Jo c=c:=zI z;rw[this,Ou r,Ou r]
theorem Ll: ∀(q acc r:List Nat),(∀c∈q,¬CS c)->wl acc (q++r)=wl (acc++q) r
 |[],acc,r,_=>by rw[jV,xI]
 |c::q,acc,r,h=>by
  rw[jD]
  conv=>lhs;unfold wl
  rw[zI (h c (zO ..)),Ll q _ r (λd hd=>h d (zQ _ hd)),yW];rfl
theorem PR: ∀(qs:List (List Nat)) (acc:List Nat),(∀q∈qs,∀c∈q,¬CS c)->qs≠[]->wl acc (qR 32 qs)=((match qs with|[]=>[]|q::r=>(acc++q)::r).filter λl=>!decide (l=[]))
 |[],_,_,h=>absurd rfl h
 |[q],acc,h,_=>by
  show wl acc q=_;have:=Ll q acc [] (h q (zO ..));rw[xI]at this;rw[this];unfold wl
  by_cases z:acc++q=[]
  ·rw[zT z];simp[z]
  ·rw[zI z];simp[z]
 |q::q2::r,acc,h,_=>by
  show wl acc (q++32::qR 32 (q2::r))=_;rw[Ll q acc _ (h q (zO ..))];unfold wl;rw[zT (show CS 32 from .inl rfl),PR (q2::r) [] (λq hq=>h q (zQ _ hq)) (λz=>nomatch z)]
  by_cases z:acc++q=[]
  ·rw[zT z];simp[z]
  ·rw[zI z];simp[z]
theorem GV: ∀l:List Nat,10∉l->l.map Jo=l
 |[],_=>rfl
 |c::l,h=>by
  rw[yQ,GV l (λz=>h (zQ _ z))];have:c≠10:=λz=>h (z▸zO ..);rw[show Jo c=c from zI this]
theorem Ks: ∀ps:List (List Nat),(∀p∈ps,10∉p)->qR 32 ps=(qR 10 ps).map Jo
 |[],_=>rfl
 |[p],h=>(GV p (h p (zO ..))).symm
 |p::p2::r,h=>by
  show p++32::qR 32 (p2::r)=(p++10::qR 10 (p2::r)).map Jo;rw[yB,yQ,Ks (p2::r) (λq hq=>h q (zQ _ hq)),GV p (h p (zO ..))];rfl
theorem Gg (c:Nat): ∀qs:List (List Nat),qs.length<=(qR c qs).length +1
 |[]=>yU _
 |[q]=>by show 1<=q.length+1;lia
 |q::q2::r=>by
  have:=Gg c (q2::r);have h2:(q++c::qR c (q2::r)).length =q.length+((qR c (q2::r)).length +1):=by rw[zB,zK]
  show(q2::r).length +1<=(q++c::qR c (q2::r)).length +1;lia
theorem Wi:(Str.ofString "\n")=⟨#[10]⟩:=by decide
theorem Ha:(Str.ofString " ")=⟨#[32]⟩:=by decide
theorem OS (t:Str):(Txt.replace t "\n" " ").cps.toList =t.cps.toList.map Jo:=by
 rw[Wi,Ha,StrLaws.replace_one,Bs,Ks]
 ·rw[<-Bs,BP]
 ·intro p hp;obtain⟨q,hq,rfl⟩:=List.mem_map.mp hp;exact EQ _ 10 q hq
theorem SK (t:Str):(Txt.replace t "\n" " ").length =t.length:=by
 have:(Txt.replace t "\n" " ").cps.toList.length =(Txt.replace t "\n" " ").length:=yR;rw[<-this,OS,zD];exact yR
theorem TB (y:Str)(c:Nat):(Txt.split y ⟨#[c]⟩).length<=y.length+1:=by
 have e:=Bs c (Txt.split y ⟨#[c]⟩);rw[BP]at e;have:=Gg c ((Txt.split y ⟨#[c]⟩).map λt=>t.cps.toList);rw[<-e,zD]at this;have hl:y.cps.toList.length=y.length:=yR;lia
def RT (x:Str):Bool:=!decide (x="")
def wordsT (t:Str):List Str:=(Txt.split (Txt.replace t "\n" " ") " ").filter RT
theorem UV (t:Str):(wordsT t).map (λx=>x.cps.toList)=wl [] t.cps.toList:=by
 have e:=Bs 32 (Txt.split (Txt.replace t "\n" " ") " ");rw[Ha,BP,<-Ha,OS]at e;rw[<-Ou,e];have hp:=PyProof.Rows.split_pos (Txt.replace t "\n" " ") ⟨#[32]⟩;rw[<-Ha]at hp;have hf:=EQ (Txt.replace t "\n" " ") 32;rw[<-Ha]at hf;have h10: ∀c∈qR 32 ((Txt.split (Txt.replace t "\n" " ") " ").map λt=>t.cps.toList),c≠10:=by
  rw[<-e];intro c hc z;obtain⟨d,hd,ed⟩:=List.mem_map.mp hc;unfold Jo at ed;split at ed<;>lia
 unfold wordsT;generalize Txt.split (Txt.replace t "\n" " ") " "=qs at *
 have mem: ∀(ps:List (List Nat)) (q:List Nat) (c:Nat),q∈ps->c∈q->c∈qR 32 ps:=by
  intro ps
  induction ps with
  |nil=>intro q c h;cases h
  |cons p r ih=>
   intro q c hq hc;obtain⟨x,ex,cx⟩:=Je 32 p r;rw[ex]
   rcases List.mem_cons.mp hq with z|z
   ·rw[z]at hc;exact qA _ hc
   ·refine yZ _ ?_
    rcases cx with⟨e1,_⟩|⟨_,e2⟩
    ·rw[e1]at z;cases z
    ·rw[e2];exact zQ _ (ih q c z hc)
 rw[PR]
 ·cases qs with
  |nil=>rfl
  |cons q r=>
   rw[yQ];dsimp only;rw[jV];have key: ∀l:List Str,(l.filter RT).map (λx=>x.cps.toList)=(l.map λt=>t.cps.toList).filter λl=>!decide (l=[]):=by
    intro l
    induction l with
    |nil=>rfl
    |cons a l ih=>
     have ea:RT a=!decide (a.cps.toList=[]):=by
      unfold RT;congr 1
      by_cases z:a=""
      ·subst z;rfl
      ·have: ¬a.cps.toList=[]:=λy=>z (by
        obtain⟨⟨l⟩⟩:=a;have y':l=[]:=y;subst y';rfl)
       rw[yA z,yA this]
     rw[yQ,Bl,Bl,<-ea];split
     ·rw[yQ,ih]
     ·exact ih
   have:=key (q::r);rw[yQ]at this;exact this
 ·intro q hq c hc b;obtain⟨x,hx,rfl⟩:=List.mem_map.mp hq
  rcases b with b|b
  ·exact hf x hx (b▸hc)
  ·exact h10 c (mem _ _ _ hq hc) b
 ·intro z;rw[List.map_eq_nil_iff.mp z]at hp;exact absurd hp (by decide)
def Xu:V->List V->Hp->VK->Prop:=λx vs H Q=> ∃(t y:Str) (i:Nat) (rest:List Nat),x=.str t/\vs=[.str y]/\occurrences t y 0 t.length 1=i::rest/\Q (.int (i:Int)) H
theorem Ui {X:Cx}:US X "str.index" Xu:=by
 intro pins s σ H x vs v us Q I rx rv h;obtain⟨t,y,i,rest,rfl,rfl,ho,q⟩:=h;obtain⟨tk,rfl⟩:=rx;obtain⟨u,rfl,ru⟩:=rv.one;obtain⟨tk2,rfl⟩:=ru;exact call_gives F.slot_str_index (AW _ _ _) F.entry_str_index (F.args_str_index_2 _ _) (gives_str_index t y tk tk2 i rest ho) ⟨.int _,H,I.tok _,⟨_,rfl⟩,q⟩
end L2
namespace HT
open PySem PySem.Spec PyProof.Rows
section
variable {prog:Program}{w:World}{A:Around}{E:Value->Shared->Prop}{s:Shared}
theorem getItem_tuple_all {t sl:Addr}{items:Array Value}{vl vu:Value}{lo hi:Option Int}{Q:Value->Shared->Prop}(ht:IsTup s.heap t items)(hs:s.heap.IsSliceOf sl vl vu .none)(pl:IsPart vl lo)(pu:IsPart vu hi)
  (hw:sIx items.size 0 lo=0/\sIx items.size items.size hi=items.size) (h:Q (.ref t) s):wpAny (model prog w) A (getItem (.ref t) (.ref sl)) Q E s:=by
 obtain⟨os,hos,hcs,hds⟩:=id hs;have hTs:s.TypeIs (.ref sl) "slice":=⟨os,hos,hcs⟩;unfold getItem
 try with_reducible refine wpAny_holding ?_
 first|refine wpAny_bind (wpAny_pure ?_)|skip
 refine wpAny_bind (wpAny_sequenceKey ht.typeIs (by decide) ?_);refine wpAny_bind (wpAny_callSpecial?_slot (name:=Str.ofString "__getitem__") ht.typeIs PyProof.Rows.slot_tuple_getitem
  (wpAny_call_entry PyProof.Rows.slot_tuple_getitem ht.typeIs entry_tuple_getitem ?_ (args_tuple_getitem _ _)))
 show wpAny _ _ (Builtin.Tuple.tupleItemsOf (.ref t)>>=_) _ _ s;refine wpAny_bind (tupleItemsOf_ ht ?_);refine wpAny_bind (wpAny_typeOf hTs ?_);rw[if_pos (by decide)];refine wpAny_bind (FS hs pl pu ?_);have yes:(((sIx items.size 0 lo:Nat):Int)==0&&(1:Int)==1&&(sIx items.size items.size hi-sIx items.size 0 lo)==items.size)=true:=by
  rw[hw.1,hw.2];simp
 show wpAny _ _ (if(((sIx items.size 0 lo:Nat):Int)==0&&(1:Int)==1&&(sIx items.size items.size hi-sIx items.size 0 lo)==items.size)=true then _ else _) _ _ s;rw[if_pos yes];obtain⟨ot,hot,hct,_⟩:=ht;have Ty:s.TypeIs (.ref t) "tuple":=⟨ot,hot,hct⟩;unfold Builtin.Tuple.tupleIsExact;refine wpAny_bind (wpAny_bind (wpAny_typeOf Ty (wpAny_pure ?_)));rw[if_pos (by decide)]
 first
  |exact wpAny_bind (wpAny_rule (wpAny_pure ⟨_,rfl,wpAny_pure h⟩))
  |exact wpAny_bind (wpAny_rule (wpAny_bind (wpAny_pure (wpAny_pure ⟨_,rfl,wpAny_pure h⟩))))
end
end HT
namespace L2
open PySem PySem.Spec PyProof.Rows
section
variable {X:Cx}
inductive zCk (x:V) (lo:Option Int) (hi:Option Int) (H:Hp) (Q:VK):Prop
 |mk (a xs:_) (h0:x=.ref a) (h1:H a=some (.tup xs)) (h2: ∀r H',kS H H'->H' r=some (.tup (DT xs lo hi))->Q (.ref r) H'):zCk x lo hi H Q
theorem WP {xs:List V}{lo hi:Option Int}(h:HT.sIx xs.length 0 lo=0/\HT.sIx xs.length xs.length hi=xs.length):DT xs lo hi=xs:=by
 unfold DT;rw[h.1,h.2];simp
theorem Ln:SlR X zCk:=by
 intro pins s σ H x v vl vu lo hi sl Q I rx hs pl pu h;obtain⟨a,xs,rfl,hx,q⟩:=h
 by_cases hw:HT.sIx xs.length 0 lo=0/\HT.sIx xs.length xs.length hi=xs.length
 ·cases rx;obtain⟨its,r,ht,hz⟩:=I.tuple (Gm.of hx);have hlen:its.toArray.size=xs.length:=by rw[yC];exact r.length.symm
  refine⟨"tuple",_,PyProof.Rows.slot_tuple_getitem.lookup,ht.typeIs,?_⟩;exact HT.getItem_tuple_all ht hs pl pu (by rw[hlen];exact hw) ⟨.ref a,H,I,rfl,q a H (kS.refl _) (by rw[WP hw];exact hx)⟩
 ·exact ZH pins s σ H (.ref a) v vl vu lo hi sl Q I rx hs pl pu ⟨a,xs,rfl,Gm.of hx,hw,λp hp=>q p _ (zN hp _) zH⟩
end
theorem Oe {xs:List V}(n:Nat):DT xs none (some (n:Int))=xs.take n:=by
 unfold DT;rw[HT.sIx_none,HT.sIx_nat,Af,Nat.sub_zero]
 by_cases h:n<=xs.length
 ·rw[uI h]
 ·rw[Bj (by lia),Ae,xG (by lia)]
theorem Of {xs:List V}(n:Nat):DT xs (some (n:Int)) none=xs.drop n:=by
 unfold DT;rw[HT.sIx_none,HT.sIx_nat]
 by_cases h:n<=xs.length
 ·rw[uI h,xG (by rw[xO];lia)]
 ·rw[Bj (by lia),Av,List.take_zero,vD (by lia)]
section
variable {X:Cx}
inductive Vv (K:PySem.W.Frag) (x:V) (y:V) (H:Hp) (Q:VK):Prop
 |mk (a b xs:_) (h0:x=.ref a) (h1:y=.ref b) (h2:Hb K H a xs) (h3:Hb K H b []) (h4:Q (.bl xs.isEmpty) H):Vv K x y H Q
theorem Qp {k:Nat}(hr:uE k X.A):ID X (compareOp .Eq) (Vv X.K):=by
 intro pins s σ H x y v u Q I rx ry h;obtain⟨a,b,xs,rfl,rfl,ha,hb,q⟩:=h;cases xs with
 |nil=>exact RJ hr pins s σ H _ _ _ _ Q I rx ry ⟨a,b,[],[],0,rfl,rfl,.inl ⟨ha,hb⟩,.nil,by decide,q⟩
 |cons z zs=>
  cases rx;cases ry;have hu:=hr.un;obtain⟨us,r,pa,_⟩:=I.list ha;obtain⟨vs,q',pb,_⟩:=I.list hb;cases q';cases r with
  |cons r1 r2=>exact SeqAt.RcAt.lists_lengths (A:=X.A) pa.isList pb.isList (by simp) (by lia) _ _ _ _ ⟨.bl false,H,I,rfl,q⟩
end
end L2
namespace L2
open PySem PySem.Spec
section
variable {X:Cx}
inductive SN (K:PySem.W.Frag) (x:V) (y:V) (H:Hp) (Q:VK):Prop
 |mk (a b xs:_) (h0:x=.ref a) (h1:y=.ref b) (h2:Gm K H a xs) (h3:Gm K H b []) (h4:Q (.bl xs.isEmpty) H):SN K x y H Q
theorem TU {k:Nat}(hr:uE k X.A):ID X (compareOp .Eq) (SN X.K):=by
 intro pins s σ H x y v u Q I rx ry h;obtain⟨a,b,xs,rfl,rfl,ha,hb,q⟩:=h;cases xs with
 |nil=>exact RJ hr pins s σ H _ _ _ _ Q I rx ry ⟨a,b,[],[],0,rfl,rfl,.inr ⟨ha,hb⟩,.nil,by decide,q⟩
 |cons z zs=>
  cases rx;cases ry;have hu:=hr.un;obtain⟨us,r,pa,_⟩:=I.tuple ha;obtain⟨vs,q',pb,_⟩:=I.tuple hb;cases q';cases r with
  |cons r1 r2=>
   have:=Fw (A:=X.A) (s:=s) (e:=λ_=>true) pa pb (by lia) (λj h1 h2=>absurd h2 (by simp))
   simp at this
   exact this _ _ _ _ ⟨.bl false,H,I,rfl,q⟩
end
end L2
namespace L2
open PySem PySem.Spec PyProof.Rows
inductive Tr where
 |mk (kind:Int) (own:List Int) (parts:List Tr)
mutual
def ZO:Tr->List Tr
 | .mk k own ps=>.mk k own ps::Qk ps
def Qk:List Tr->List Tr
 |[]=>[]
 |a::r=>ZO a++Qk r
end
mutual
def Df:Tr->List Int
 | .mk k own ps=>k::(own++AQ ps)
def AQ:List Tr->List Int
 |[]=>[]
 |a::r=>Df a++AQ r
end
mutual
theorem JA: ∀t:Tr,(ZO t).length<=(Df t).length
 | .mk k own ps=>by
  have:=Nj ps
  simp[ZO,Df];lia
theorem Nj: ∀ts:List Tr,(Qk ts).length<=(AQ ts).length
 |[]=>by simp[Qk,AQ]
 |a::r=>by
  have:=JA a;have:=Nj r
  simp[Qk,AQ];lia
end
mutual
def bare:Nd->Tr
 | .mk k _ own ps=>.mk k own (Bu ps)
def Bu:List Nd->List Tr
 |[]=>[]
 |a::r=>bare a::Bu r
end
abbrev Fn:=(Int×Int)×Tr
def Pn (fs:List Fn):List Int:=fs.flatMap λf=>[f.1.1,f.1.2]
def Es (fs:List Fn):List Int:=fs.flatMap λf=>Df f.2
def wr (fs:List Fn):List Int:=(fs.length:Int)::(Pn fs++Es fs)
section
theorem Li (l:Addr)(items:Array Value)(n:Nat)(b:Addr)(items2:Array Value)(n2:Nat)(dd:Option Addr)(sl:Array (Option Value))(hs0: ¬(!items.isEmpty&&Builtin.List.listTooLong (items.size+items2.size))=true)(hs1:items.size<=sizeLine)(hs2:items.size+items2.size<=sizeLine+1):
  Meets (Builtin.«list.extend» ⟨[.ref l,.ref b],[]⟩) (λ_ R s=>s.heap.get? l=some {cls:=.type "list",dict:=none,data:=.seq items n,slots:=#[]}/\s.heap.get? b=some ⟨.type "tuple",dd,.seq items2 n2,sl⟩/\R (.ok (.ret Value.none)) {s with heap:=s.heap.update l (Obj.mapSeq λx=>x++items2),toks:=s.toks}):=
 .of_wp λ_ _ _ _ σs hyp=>by
  obtain⟨σh,σg,σd,σt,σo⟩:=σs;obtain⟨atL,atB,fin⟩:=hyp;have r1:=AutoSeq1.idx_int;have r2:=AutoSeq1.sub_tuple_tuple;have r3:=AutoSeq1.sub_list_list;have r4:=AutoSeq1.sub_tuple_list;have r5:=AutoSeq1.sub_list_tuple;have fits:(items++items2).size<=sizeLine+1:=by simpa using hs2
  wp_walk using(wpAny_updateSeq atL rfl (hz:=hs1) (_hz':=fits)),Bx atL,Bx atB
  exact⟨_,rfl,fin⟩
end
section
variable {X:Cx}
inductive Qh (x:V) (vs:List V) (H:Hp) (Q:VK):Prop
 |mk (l b xs zs:_) (h0:x=.ref l) (h1:vs=[.ref b]) (h2:H l=some (.lst xs)) (h3:H b=some (.tup zs)) (h4:xs.length+zs.length<=sizeLine) (h5:Q .non (upd H l (.lst (xs++zs)))):Qh x vs H Q
theorem RW:MtM X "list.extend" Qh:=by
 intro pins s σ H x vs v us Q I rx rv h;obtain⟨l,b,xs,zs,rfl,rfl,hH,hB,hz,q⟩:=h;cases rx;obtain⟨u,rfl,ru⟩:=rv.one;cases ru;obtain⟨z,its,n,r,hl,e⟩:=I.lstM hH;obtain⟨_,its2,r2,p⟩:=(show wT X.prog X.w H s.heap b (.tup zs)from I.hok b _ hB);obtain⟨⟨oc,od,oda,osl⟩,h1,h2,n2,h3⟩:=p;dsimp only at h2 h3;subst h2 h3;have hl2:=r2.length;have hsz:its.toArray.size+its2.toArray.size<=sizeLine:=by rw[yC,yC];lia
 have hlong: ¬(!its.toArray.isEmpty&&Builtin.List.listTooLong (its.toArray.size+its2.toArray.size))=true:=by
  rw[LZ hsz,EY];exact yK
 refine wW F.slot_list_extend ⟨_,e,rfl⟩ F.entry_list_extend (F.args_list_extend_2 _ _)
  (Li l its.toArray n b its2.toArray n2 od osl hlong (by rw[yC];lia) (by lia)) ⟨e,h1,?_⟩
 refine⟨.non,_,I.lset (its':=its++its2) hH e (by simp) (r.append r2) ?_,rfl,q⟩;rw[zB];lia
end
def Td (r:DO×List Nd):List Fn:=r.1.zip (Bu r.2)
end L2
namespace L2
open PySem
def BK (H:Hp)(st:Addr)(m:Int):Prop:= ∃c s t:Int,H st=some (.lst [.int c,.int s,.int t])/\0<=c/\0<=t/\t<=m
structure kB (st:Addr)(m:Int)(H H':Hp):Prop where
 pen:BK H' st m
 keep:kX st H H'
theorem kB.trans {st:Addr}{m n:Int}{H H1 H2:Hp}(a:kB st m H H1)(b:kB st n H1 H2):kB st n H H2:=⟨b.pen,a.keep.trans b.keep⟩
theorem BK.refl {st:Addr}{m:Int}{H:Hp}(d:BK H st m):kB st m H H:=⟨d,kX.refl st H⟩
theorem BK.is {H:Hp}{st:Addr}{m:Int}(d:BK H st m): ∃xs,H st=some (.lst xs):=by
 obtain⟨c,s,t,e,_⟩:=d;exact⟨_,e⟩
theorem BK.ne {st b:Addr}{m:Int}{H:Hp}(d:BK H st m)(h:H b=none):st≠b:=by
 obtain⟨xs,e⟩:=d.is;exact zM e h
theorem BK.mono {st:Addr}{m n:Int}{H:Hp}(d:BK H st m)(h:m<=n):BK H st n:=by
 obtain⟨c,s,t,e,a,b,k⟩:=d;exact⟨c,s,t,e,a,b,by lia⟩
theorem kB.mono {st:Addr}{m n:Int}{H H':Hp}(d:kB st m H H')(h:m<=n):kB st n H H':=⟨d.pen.mono h,d.keep⟩
theorem BK.same {st:Addr}{m:Int}{H H':Hp}(d:BK H st m)(h:kS H H'):BK H' st m:=by
 obtain⟨c,s,t,e,r⟩:=d;exact⟨c,s,t,h _ _ e,r⟩
theorem BK.more {st:Addr}{m:Int}{H H':Hp}(d:BK H st m)(g:kS H H'):kB st m H H':=⟨d.same g,kX.same g⟩
theorem BK.new {st p:Addr}{m:Int}{H:Hp}(d:BK H st m)(h:H p=none)(o:HO):kB st m H (upd H p o):=d.more (zN h o)
theorem BK.put {st p:Addr}{m:Int}{H:Hp}{o:HO}(d:BK H st m)(n:p≠st):BK (upd H p o) st m:=by
 obtain⟨c,s,t,e,r⟩:=d;exact⟨c,s,t,(by rw[zV (Ne.symm n)];exact e),r⟩
theorem kB.free {st b:Addr}{m:Int}{H H':Hp}(h:kB st m H H')(e:H' b=none):H b=none:=by
 cases z:H b with
 |none=>rfl
 |some o=>rw[h.keep b o (Ne.symm (h.pen.ne e)) z]at e;cases e
inductive Dw (vs:List V) (H:Hp) (Q:VK) (E:XK):Prop
 |mk (st:Addr) (many m:Int) (h0:vs=[.ref st,.int many]) (h1:0<many) (h2:many<1073741824) (h3:m<=1000000) (h4:BK H st m) (h5: ∀(r:Int) (H':Hp),0<=r->r<many->kB st (m+1) H H'->Q (.int r) H'):Dw vs H Q E
end L2
namespace L2
open PySem PySem.Spec PyProof.Rows
structure Nx (prog:Program)(w:World)(it a:Addr)(xs:Array Value)(St:Nat->Heap->Prop):Prop where
 item: ∀{A:Around} {E:Value->Shared->Prop} {k:Nat} {s:Shared} {x:Value} {Q:Value->Shared->Prop},St k s.heap->xs[k]? =some x->(∀h',St (k+1) h'->Heap.SameBut it s.heap h'->Q x {s with heap:=h'})->wpAny (model prog w) A (Builtin.SmallTypes.nextOf (.ref it)) Q E s
 stop: ∀{A:Around} {E:Value->Shared->Prop} {k:Nat} {s:Shared} {Q:Value->Shared->Prop},A.handled=none->St k s.heap->xs[k]? =none->(∀h' e,Heap.ExtBut it s.heap h'->(∃o,h'.get? e=some o/\o.cls=.type "StopIteration")->E (.ref e) {s with heap:=h'})->wpAny (model prog w) A (Builtin.SmallTypes.nextOf (.ref it)) Q E s
 keep: ∀{k:Nat} {h h':Heap},St k h->(∀o,h.get? it=some o->h'.get? it=some o)->(∀o,h.get? a=some o->h'.get? a=some o)->St k h'
 here: ∀{k:Nat} {h:Heap},St k h->(∃o,h.get? it=some o/\ ∀v,o.data≠ .cell v)/\ ∃o,h.get? a=some o
section
variable {prog:Program}{w:World}{it a:Addr}{xs:Array Value}
theorem Nx.list (ne:a≠it):Nx prog w it a xs (λk h=>h.IsListIter it a k/\h.IsList a xs) where
 item:=λst hx q=>wpAny_nextOf_list_item st.1 st.2 hx λh' i sb=>q h' ⟨i,st.2.extBut sb.extBut ne⟩ sb
 stop:=λhh st hx q=>wpAny_nextOf_list_end hh st.1 st.2 hx q
 keep:=λst k1 k2=>by
  obtain⟨⟨o,e,r⟩,o2,e2,r2⟩:=st;exact⟨⟨o,k1 o e,r⟩,o2,k2 o2 e2,r2⟩
 here:=λst=>by
  obtain⟨⟨o,e,r1,r2⟩,o2,e2,_⟩:=st;exact⟨⟨o,e,λv z=>by rw[r2]at z;cases z⟩,o2,e2⟩
theorem RU {A:Around}{E:Value->Shared->Prop}{k:Nat}{s:Shared}{x:Value}{Q:Value->Shared->Prop}(hit:s.heap.IsTupleIter it a k)(ht:s.heap.IsTuple a xs)(hx:xs[k]? =some x)(q: ∀h',h'.IsTupleIter it a (k+1)->Heap.SameBut it s.heap h'->Q x {s with heap:=h'}):
  wpAny (model prog w) A (Builtin.SmallTypes.nextOf (.ref it)) Q E s:=by
 obtain⟨o,ho,hc,hd⟩:=id hit;obtain⟨ol,hol,_,nl,hdl⟩:=ht;unfold Builtin.SmallTypes.nextOf;refine zC (kH (name:=Str.ofString "__next__") hit.typeIs vQ (qV vQ hit.typeIs Ev ?_ (Ed _)));show wpAny _ _ (field (.ref it) 0>>=_) _ _ s;refine zC (xZ ho hd (x:=.ref a) rfl ?_);show wpAny _ _ (if(Value.ref a==Value.none)=true then _ else _) _ _ s;rw[zI (show ¬((Value.ref a==Value.none)=true)from yK)];show wpAny _ _ (field (.ref it) 1>>=_) _ _ s;refine zC (xZ ho hd (x:=.int k 0) rfl ?_);show wpAny _ _ (seqItems? (.ref a)>>=_) _ _ s;refine zC (wC hol hdl ?_);simp only[jG,hx];refine zC (vO ho hd (by simp) (zP ⟨x,rfl,zP (q _ ?_ (Br ..))⟩));exact⟨_,jR _ ho (vX (qS hd _)),(Fz ..).trans hc,by rw[qS hd];simp[rawInt]⟩
theorem Ri {A:Around}{E:Value->Shared->Prop}{k:Nat}{s:Shared}{Q:Value->Shared->Prop}(hh:A.handled=none)(hit:s.heap.IsTupleIter it a k)(ht:s.heap.IsTuple a xs)(hx:xs[k]? =none)
  (q: ∀h' e,Heap.ExtBut it s.heap h'->(∃o,h'.get? e=some o/\o.cls=.type "StopIteration")->E (.ref e) {s with heap:=h'}):wpAny (model prog w) A (Builtin.SmallTypes.nextOf (.ref it)) Q E s:=by
 obtain⟨o,ho,hc,hd⟩:=id hit;obtain⟨ol,hol,_,nl,hdl⟩:=ht;unfold Builtin.SmallTypes.nextOf;refine zC (kH (name:=Str.ofString "__next__") hit.typeIs vQ (qV vQ hit.typeIs Ev ?_ (Ed _)));show wpAny _ _ (field (.ref it) 0>>=_) _ _ s;refine zC (xZ ho hd (x:=.ref a) rfl ?_);show wpAny _ _ (if(Value.ref a==Value.none)=true then _ else _) _ _ s;rw[zI (show ¬((Value.ref a==Value.none)=true)from yK)];show wpAny _ _ (field (.ref it) 1>>=_) _ _ s;refine zC (xZ ho hd (x:=.int k 0) rfl ?_);show wpAny _ _ (seqItems? (.ref a)>>=_) _ _ s;refine zC (wC hol hdl ?_);simp only[jG,hx];refine zC (BM (zC (vO ho hd (by simp) ?_)));show wpAny _ _ (newExc (.type "StopIteration") []>>=_) _ _ _;refine zC ?_;simp only[newExc,newTuple];refine zC (jW ?_ (by size_fits));refine zC (m:=firstArgMember _ _) (uP (a:=Value.none) (by first|rfl|(simp only[firstArgMember];rfl)) ?_);refine jW ?_ (by size_fits);simp only[raiseNew];refine zC (wpAny_handled ?_);rw[show A.in1.handled=none from hh];refine zC (zP (wpAny_throw ?_));exact q _ _ (((Br ..).extBut.push _).push _) ⟨_,yL _ rfl,rfl⟩
theorem Nx.tuple (ne:a≠it):Nx prog w it a xs (λk h=>h.IsTupleIter it a k/\h.IsTuple a xs) where
 item:=λst hx q=>RU st.1 st.2 hx λh' i sb=>q h' ⟨i,st.2.extBut sb.extBut ne⟩ sb
 stop:=λhh st hx q=>Ri hh st.1 st.2 hx q
 keep:=λst k1 k2=>by
  obtain⟨⟨o,e,r⟩,o2,e2,r2⟩:=st;exact⟨⟨o,k1 o e,r⟩,o2,k2 o2 e2,r2⟩
 here:=λst=>by
  obtain⟨⟨o,e,r1,r2⟩,o2,e2,_⟩:=st;exact⟨⟨o,e,λv z=>by rw[r2]at z;cases z⟩,o2,e2⟩
end
structure ZA (z TI TO i1 i2 a1 a2:Addr):Prop where
 TIz:TI≠z
 TOz:TO≠z
 i1z:i1≠z
 i2z:i2≠z
 TITO:TI≠TO
 TIi1:TI≠i1
 TIi2:TI≠i2
 TOi1:TO≠i1
 TOi2:TO≠i2
 i12:i1≠i2
 a1z:a1≠z
 a1TO:a1≠TO
 a1i1:a1≠i1
 a1i2:a1≠i2
 a2z:a2≠z
 a2TO:a2≠TO
 a2i1:a2≠i1
 a2i2:a2≠i2
section
variable {prog:Program}{w:World}{A:Around}{E:Value->Shared->Prop}{s:Shared}{z TI TO i1 i2 a1 a2:Addr}{xs ys:Array Value}{S1 S2:Nat->Heap->Prop}{k:Nat}{u v:Value}
def K4 (z TO i1 i2:Addr)(h h':Heap):Prop:= ∀c o,c≠z->c≠TO->c≠i1->c≠i2->h.get? c=some o->h'.get? c=some o
theorem UU (D:ZA z TI TO i1 i2 a1 a2)(N1:Nx prog w i1 a1 xs S1)(N2:Nx prog w i2 a2 ys S2){x y:Value}{Q:Value->Shared->Prop}(hz:IsZip s.heap z TI TO .none)(hTI:IsPair s.heap TI (.ref i1) (.ref i2))(hTO:IsPair s.heap TO u v)
  (s1:S1 k s.heap) (s2:S2 k s.heap) (hx:xs[k]? =some x) (hy:ys[k]? =some y)
  (q: ∀h',IsZip h' z TI TO (rawInt s.heap.objs.size)->IsPair h' TO x y->S1 (k+1) h'->S2 (k+1) h'->IsPair h' s.heap.objs.size x y->K4 z TO i1 i2 s.heap h'->Q (.ref s.heap.objs.size) {s with heap:=h'}):
  wpAny (model prog w) A (Builtin.«zip.__next__» ⟨[.ref z],[]⟩) (λfin s'=> ∃v,fin=.done (.ret v)/\Q v s') E s:=by
 show wpAny _ _ (field (.ref z) 2>>=_) _ _ _;refine zC (xZ hz rfl (x:=.bool false) rfl ?_);show wpAny _ _ (field (.ref z) 3>>=_) _ _ _;refine zC (xZ hz rfl (x:=.ref TI) rfl (zC (wC hTI rfl ?_)));show wpAny _ _ (Builtin.SmallTypes.ownedTupleIsFree (.ref z)>>=_) _ _ _;unfold Builtin.SmallTypes.ownedTupleIsFree;refine zC (zC (xZ hz rfl (x:=.none) rfl (zP ?_)));simp only[BB];refine zC (BM (zC (xZ hz rfl (x:=.ref TO) rfl (zC (vN hz (by simp) λh1 z1 b1=>zC ?_)))));have z1:IsZip h1 z TI TO .ellipsis:=z1;simp only[List.zipIdx_cons,List.zipIdx_nil,uJ,EV];refine zC (zC (FM ?_));show wpAny _ _ (Builtin.SmallTypes.nextOf (.ref i1)>>=_) _ _ _;have p1:S1 k h1:=N1.keep s1 (λo e=>b1.extBut _ _ D.i1z e) (λo e=>b1.extBut _ _ D.a1z e);refine zC (N1.item p1 hx λh2 p2 b2=>zP ?_);have t2:IsPair h2 TO u v:=b2.extBut _ _ D.TOi1 (b1.extBut _ _ D.TOz hTO);refine zC (wC t2 rfl (zC (DJ t2 λh3 t3 b3=>zC (wpAny_letGo (zP ?_)))));have t3:IsPair h3 TO x v:=t3;refine zC (zC (FM ?_));show wpAny _ _ (Builtin.SmallTypes.nextOf (.ref i2)>>=_) _ _ _;have r3:S2 k h3:=N2.keep s2 (λo e=>b3.extBut _ _ (Ne.symm D.TOi2) (b2.extBut _ _ (Ne.symm D.i12) (b1.extBut _ _ D.i2z e))) (λo e=>b3.extBut _ _ D.a2TO (b2.extBut _ _ D.a2i1 (b1.extBut _ _ D.a2z e)));refine zC (N2.item r3 hy λh4 r4 b4=>zP ?_);have t4:IsPair h4 TO x v:=b4.extBut _ _ D.TOi2 t3;refine zC (wC t4 rfl (zC (DJ t4 λh5 t5 b5=>zC (wpAny_letGo (zP (zP ?_))))));have t5:IsPair h5 TO x y:=t5;refine zC (wC t5 rfl (zC (wpAny_newTuple ?_)));have sz:h5.objs.size=s.heap.objs.size:=by rw[b5.1,b4.1,b3.1,b2.1,b1.1]
 have z5:IsZip h5 z TI TO .ellipsis:=b5.extBut _ _ (Ne.symm D.TOz) (b4.extBut _ _ (Ne.symm D.i2z) (b3.extBut _ _ (Ne.symm D.TOz) (b2.extBut _ _ (Ne.symm D.i1z) z1)));have k5:K4 z TO i1 i2 s.heap h5:=λc o c1 c2 c3 c4 e=>b5.extBut _ _ c2 (b4.extBut _ _ c4 (b3.extBut _ _ c2 (b2.extBut _ _ c3 (b1.extBut _ _ c1 e))));have p5:S1 (k+1) h5:=N1.keep p2 (λo e=>b5.extBut _ _ (Ne.symm D.TOi1) (b4.extBut _ _ D.i12 (b3.extBut _ _ (Ne.symm D.TOi1) e))) (λo e=>b5.extBut _ _ D.a1TO (b4.extBut _ _ D.a1i2 (b3.extBut _ _ D.a1TO e)));have r5:S2 (k+1) h5:=N2.keep r4 (λo e=>b5.extBut _ _ (Ne.symm D.TOi2) e) (λo e=>b5.extBut _ _ D.a2TO e);have zl:z<h5.objs.size:=yG z5;show wpAny _ _ (Builtin.SmallTypes.ownedTupleHandOut (.ref z) (.ref h5.objs.size)>>=_) _ _ _;unfold Builtin.SmallTypes.ownedTupleHandOut;have z6:IsZip (h5.push {cls:=.type "tuple",data:=.seq #[x,y]}) z TI TO .ellipsis:=zJ _ z5;refine zC (zC (vN z6 (by simp) λh7 z7 b7=>?_));have z7:IsZip h7 z TI TO (rawInt h5.objs.size):=z7;refine vN z7 (by simp) λh8 z8 b8=>?_;have z8:IsZip h8 z TI TO (rawInt h5.objs.size):=z8;have up: ∀c o,c≠z->h5.get? c=some o->h8.get? c=some o:=λc o c1 e=>b8.extBut _ _ c1 (b7.extBut _ _ c1 (zJ _ e));have t8:IsPair h8 h5.objs.size x y:=b8.extBut _ _ (qP zl) (b7.extBut _ _ (qP zl) (yL _ rfl));rw[sz]at z8 t8;refine zP ⟨_,rfl,?_⟩;show Q (.ref h5.objs.size) _;rw[sz];exact q h8 z8 (up _ _ D.TOz t5) (N1.keep p5 (λo e=>up _ o D.i1z e) (λo e=>up _ o D.a1z e)) (N2.keep r5 (λo e=>up _ o D.i2z e) (λo e=>up _ o D.a2z e)) t8 λc o c1 c2 c3 c4 e=>up c o c1 (k5 c o c1 c2 c3 c4 e)
theorem UT (hh:A.handled=none)(D:ZA z TI TO i1 i2 a1 a2)(N1:Nx prog w i1 a1 xs S1)(N2:Nx prog w i2 a2 ys S2){Q:Fin->Shared->Prop}(hz:IsZip s.heap z TI TO .none)(hTI:IsPair s.heap TI (.ref i1) (.ref i2))(hTO:IsPair s.heap TO u v)
  (s1:S1 k s.heap) (s2:S2 k s.heap) (he:xs[k]? =none\/ys[k]? =none)
  (q: ∀h' e,K4 z TO i1 i2 s.heap h'->(∃o,h'.get? e=some o/\o.cls=.type "StopIteration")->E (.ref e) {s with heap:=h'}):wpAny (model prog w) A (Builtin.«zip.__next__» ⟨[.ref z],[]⟩) Q E s:=by
 show wpAny _ _ (field (.ref z) 2>>=_) _ _ _;refine zC (xZ hz rfl (x:=.bool false) rfl ?_);show wpAny _ _ (field (.ref z) 3>>=_) _ _ _;refine zC (xZ hz rfl (x:=.ref TI) rfl (zC (wC hTI rfl ?_)));show wpAny _ _ (Builtin.SmallTypes.ownedTupleIsFree (.ref z)>>=_) _ _ _;unfold Builtin.SmallTypes.ownedTupleIsFree;refine zC (zC (xZ hz rfl (x:=.none) rfl (zP ?_)));simp only[BB];refine zC (BM (zC (xZ hz rfl (x:=.ref TO) rfl (zC (vN hz (by simp) λh1 z1 b1=>zC ?_)))));have z1:IsZip h1 z TI TO .ellipsis:=z1;simp only[List.zipIdx_cons,List.zipIdx_nil,uJ,EV];refine zC (zC (FM ?_));show wpAny _ _ (Builtin.SmallTypes.nextOf (.ref i1)>>=_) _ _ _;have p1:S1 k h1:=N1.keep s1 (λo e=>b1.extBut _ _ D.i1z e) (λo e=>b1.extBut _ _ D.a1z e);cases hx:xs[k]? with
 |none=>
  refine zC (N1.stop hh p1 hx λh2 e b2 hzz=>?_);obtain⟨oe,hoe,hce⟩:=hzz;have z2:IsZip h2 z TI TO .ellipsis:=b2 _ _ (Ne.symm D.i1z) z1;have ez:e≠z:=λx=>by subst x;rw[z2]at hoe;cases hoe;simp at hce
  exact vN z2 (by simp) λh3 _ b3=>q h3 e (λc o c1 _ c3 _ x=>b3.extBut _ _ c1 (b2 _ _ c3 (b1.extBut _ _ c1 x))) ⟨oe,b3.extBut _ _ ez hoe,hce⟩
 |some x=>
  have hy:ys[k]? =none:=he.resolve_left (by rw[hx];exact λz=>nomatch z);refine zC (N1.item p1 hx λh2 p2 b2=>zP ?_);have t2:IsPair h2 TO u v:=b2.extBut _ _ D.TOi1 (b1.extBut _ _ D.TOz hTO);refine zC (wC t2 rfl (zC (DJ t2 λh3 t3 b3=>zC (wpAny_letGo (zP ?_)))));refine zC (zC (FM ?_));show wpAny _ _ (Builtin.SmallTypes.nextOf (.ref i2)>>=_) _ _ _;have r3:S2 k h3:=N2.keep s2 (λo e=>b3.extBut _ _ (Ne.symm D.TOi2) (b2.extBut _ _ (Ne.symm D.i12) (b1.extBut _ _ D.i2z e))) (λo e=>b3.extBut _ _ D.a2TO (b2.extBut _ _ D.a2i1 (b1.extBut _ _ D.a2z e)));refine zC (N2.stop hh r3 hy λh4 e b4 hzz=>?_);obtain⟨oe,hoe,hce⟩:=hzz;have z4:IsZip h4 z TI TO .ellipsis:=b4 _ _ (Ne.symm D.i2z) (b3.extBut _ _ (Ne.symm D.TOz) (b2.extBut _ _ (Ne.symm D.i1z) z1));have ez:e≠z:=λx=>by subst x;rw[z4]at hoe;cases hoe;simp at hce
  exact vN z4 (by simp) λh5 _ b5=>q h5 e (λc o c1 c2 c3 c4 x=>b5.extBut _ _ c1 (b4 _ _ c4 (b3.extBut _ _ c2 (b2.extBut _ _ c3 (b1.extBut _ _ c1 x))))) ⟨oe,b5.extBut _ _ ez hoe,hce⟩
theorem Wj (D:ZA z TI TO i1 i2 a1 a2)(N1:Nx prog w i1 a1 xs S1)(N2:Nx prog w i2 a2 ys S2){x y:Value}{Q:Option Value->Shared->Prop}(hz:IsZip s.heap z TI TO .none)(hTI:IsPair s.heap TI (.ref i1) (.ref i2))(hTO:IsPair s.heap TO u v)
  (s1:S1 k s.heap) (s2:S2 k s.heap) (hx:xs[k]? =some x) (hy:ys[k]? =some y)
  (q: ∀h',IsZip h' z TI TO (rawInt s.heap.objs.size)->IsPair h' TO x y->S1 (k+1) h'->S2 (k+1) h'->IsPair h' s.heap.objs.size x y->K4 z TO i1 i2 s.heap h'->Q (some (.ref s.heap.objs.size)) {s with heap:=h'}):
  wpAny (model prog w) A (pyNext (.ref z)) Q E s:=by
 have hT:s.TypeIs (.ref z) "zip":=⟨_,hz,rfl⟩;unfold pyNext;exact zC (vH (kH (name:=Str.ofString "__next__") hT Eb (qV Eb hT F.entry_zip_next
  (UU D N1 N2 hz hTI hTO s1 s2 hx hy λh' e1 e2 e3 e4 e5 e6=>zP (q h' e1 e2 e3 e4 e5 e6)) (F.args_zip_next_1 _))))
theorem Yw (hh:A.handled=none)(D:ZA z TI TO i1 i2 a1 a2)(N1:Nx prog w i1 a1 xs S1)(N2:Nx prog w i2 a2 ys S2){Q:Option Value->Shared->Prop}(hz:IsZip s.heap z TI TO .none)(hTI:IsPair s.heap TI (.ref i1) (.ref i2))(hTO:IsPair s.heap TO u v)
  (s1:S1 k s.heap) (s2:S2 k s.heap) (he:xs[k]? =none\/ys[k]? =none) (q: ∀h',K4 z TO i1 i2 s.heap h'->Q none {s with heap:=h'}):wpAny (model prog w) A (pyNext (.ref z)) Q E s:=by
 have hT:s.TypeIs (.ref z) "zip":=⟨_,hz,rfl⟩;unfold pyNext;refine zC (vH (kH (name:=Str.ofString "__next__") hT Eb (qV Eb hT F.entry_zip_next
  (UT (A:=A.in1) hh D N1 N2 hz hTI hTO s1 s2 he λh' e hk ⟨o,ho,hc⟩=>?_) (F.args_zip_next_1 _))))
 refine zC (Ac (T:="StopIteration") (b:=true) ⟨o,ho,hc⟩ isSubtype_stop ?_);exact zP (q _ hk)
end
def UN (b:Bool)(K:PySem.W.Frag)(H:Hp)(a:Addr)(xs:List V):Prop:=if b=true then Gm K H a xs else Hb K H a xs
def Jk (b:Bool)(h:Heap)(a:Addr)(xs:Array Value):Prop:=if b=true then h.IsTuple a xs else h.IsList a xs
def SI (b:Bool)(h:Heap)(it a:Addr)(k:Nat):Prop:=if b=true then h.IsTupleIter it a k else h.IsListIter it a k
def QE (b:Bool)(a:Addr):Obj:={cls:=.type (if b=true then "tuple_iterator" else "list_iterator"),data:=.fields #[.ref a,.int 0 0]}
section
variable {prog:Program}{w:World}{A:Around}{E:Value->Shared->Prop}{s:Shared}{b:Bool}{it a:Addr}{xs:Array Value}{k:Nat}{h h':Heap}
theorem Ta {Q:Value->Shared->Prop}(hl:Jk b s.heap a xs)(hQ:Q (.ref s.heap.objs.size) {s with heap:=s.heap.push (QE b a)}):wpAny (model prog w) A (pyIter (.ref a)) Q E s:=by
 cases b with
 |true=>exact wpAny_pyIter_tuple (show s.heap.IsTuple a xs from hl) hQ
 |false=>exact CV (show s.heap.IsList a xs from hl) hQ
theorem Nx.sq (ne:a≠it):Nx prog w it a xs (λk h=>SI b h it a k/\Jk b h a xs):=by
 cases b with
 |true=>exact Nx.tuple ne
 |false=>exact Nx.list ne
theorem SI.keep (st:SI b h it a k)(k1: ∀o,h.get? it=some o->h'.get? it=some o):SI b h' it a k:=by
 cases b with
 |true=>obtain⟨o,e,r⟩:=(show h.IsTupleIter it a k from st);exact⟨o,k1 o e,r⟩
 |false=>obtain⟨o,e,r⟩:=(show h.IsListIter it a k from st);exact⟨o,k1 o e,r⟩
theorem SI.obj (st:SI b h it a k): ∃o,h.get? it=some o/\ ∀v,o.data≠ .cell v:=by
 cases b with
 |true=>obtain⟨o,e,_,r⟩:=(show h.IsTupleIter it a k from st);exact⟨o,e,λv z=>by rw[r]at z;cases z⟩
 |false=>obtain⟨o,e,_,r⟩:=(show h.IsListIter it a k from st);exact⟨o,e,λv z=>by rw[r]at z;cases z⟩
theorem SI.new {h:Heap}(g:h.get? it=some (QE b a)):SI b h it a 0:=by
 cases b with
 |true=>exact⟨_,g,rfl,rfl⟩
 |false=>exact⟨_,g,rfl,rfl⟩
theorem Jk.push {o:Obj}(x:Jk b h a xs):Jk b (h.push o) a xs:=by
 cases b with
 |true=>obtain⟨q,e,r⟩:=(show h.IsTuple a xs from x);exact⟨q,zJ _ e,r⟩
 |false=>obtain⟨q,e,r⟩:=(show h.IsList a xs from x);exact⟨q,zJ _ e,r⟩
theorem Jk.lt (x:Jk b h a xs):a<h.objs.size:=by
 cases b with
 |true=>obtain⟨q,e,r⟩:=(show h.IsTuple a xs from x);exact yG e
 |false=>obtain⟨q,e,r⟩:=(show h.IsList a xs from x);exact yG e
end
section
variable {X:Cx}{pins:List (Addr×Obj)}{σ:St}{H:Hp}{s:Shared}{b:Bool}{a:Addr}{xs ys:List V}
theorem xK.sq (I:xK X pins σ H s)(h:UN b X.K H a xs): ∃its:List Value,jS xs its/\Jk b s.heap a its.toArray/\xs.length<=sizeLine:=by
 cases b with
 |true=>
  obtain⟨its,r,p,z⟩:=I.tuple (show Gm X.K H a xs from h);exact⟨its,r,p,z⟩
 |false=>
  obtain⟨its,r,p,z⟩:=I.list (show Hb X.K H a xs from h);exact⟨its,r,p.isList,z⟩
theorem xK.sq_inj (I:xK X pins σ H s)(h:UN b X.K H a xs)(h':UN b X.K H a ys):xs=ys:=by
 cases b with
 |true=>exact I.tuple_inj h h'
 |false=>exact I.list_inj h h'
theorem xK.turnedL {h':Heap}{t':Nat}{L:List Addr}(I:xK X pins σ H s)(k: ∀b o,b∉L->s.heap.get? b=some o->h'.get? b=some o)(f: ∀b∈L,MV X pins H b):xK X pins σ H {s with heap:=h',toks:=t'}:=by
 have ne: ∀b u,H b=some u->b∉L:=λb u q z=>by
  have:=(f b z).1;rw[this]at q;cases q
 have nl:X.env.locals∉L:=λz=>(f _ z).2.1 rfl;refine I.step (g':=s.gens) (d':=s.drawn) (ch:=L) (λb hb=>⟨(f b hb).2.2.2.1,(f b hb).2.1,(f b hb).2.2.2.2.1,(f b hb).2.2.2.2.2⟩) (λb o _ _ hc q _=>k b o hc q) (λb o _ _ hc q _=>⟨o.slots,k b o hc q⟩) (λ_ _ _ _ n=>n)
  (λb o hc q=>⟨o,k b o hc q⟩) (λ_ _ q=>q) (λ_ _ _ q=>q) (λb ps q=>⟨#[],by rw[q];simp⟩) (λm hm=>?_) (λb u q=>?_) I.bare
 ·obtain⟨o,es,ep,ho,r⟩:=hm;exact⟨o,es,ep,k _ o nl ho,r⟩
 ·refine(I.hok b u q).stay (λc v hc x=>k c v ?_ x) (λ_ x=>x) λ_ _ x=>x
  rcases hc with z|z
  ·rw[z];exact ne b u q
  ·exact ne c _ z
end
def Itz (K : PySem.W.Frag) (b1 b2 : Bool) (a1 a2 : Addr) : It :=
  ⟨λi H => ∃ xs ys x y, UN b1 K H a1 xs /\ UN b2 K H a2 ys /\ xs[i]? = some x /\ ys[i]? = some y, λi H v H' => ∃ t x y, v = .ref t /\ H t = none /\ H' = upd H t (.tup [x, y]) /\ ∀ xs ys, UN b1 K H a1 xs -> UN b2 K H a2 ys -> xs[i]? = some x /\ ys[i]? = some y,
   λi H => ∃ xs ys, UN b1 K H a1 xs /\ UN b2 K H a2 ys /\ (xs.length <= i \/ ys.length <= i)⟩
def ZSt (b1 b2:Bool)(z TI TO i1 i2 a1 a2:Addr)(i:Nat)(h:Heap):Prop:=IsZip h z TI TO .none/\IsPair h TI (.ref i1) (.ref i2)/\(∃u v,IsPair h TO u v)/\SI b1 h i1 a1 i/\SI b2 h i2 a2 i
theorem UX {P:Program}{w:World}{K:PySem.W.Frag}{elts:List Expr}{x1:Nat}{pos:Pos}{b1 b2:Bool}{z TI TO i1 i2 a1 a2:Addr}(D:ZA z TI TO i1 i2 a1 a2):
  Pz P w K (.Tuple elts x1 pos) (Itz K b1 b2 a1 a2) [z,TI,TO,i1,i2] z (ZSt b1 b2 z TI TO i1 i2 a1 a2) where
 mem:=by simp
 obj:=λi h st b hb=>by
  obtain⟨hz,hTI,⟨u,v,hTO⟩,s1,s2⟩:=st
  rcases List.mem_cons.mp hb with e|hb
  ·rw[e];exact⟨_,hz,λv z=>by cases z⟩
  rcases List.mem_cons.mp hb with e|hb
  ·rw[e];exact⟨_,hTI,λv z=>by cases z⟩
  rcases List.mem_cons.mp hb with e|hb
  ·rw[e];exact⟨_,hTO,λv z=>by cases z⟩
  rcases List.mem_cons.mp hb with e|hb
  ·rw[e];exact s1.obj
  ·rw[List.mem_singleton.mp hb];exact s2.obj
 keep:=λi h h' st k=>by
  obtain⟨hz,hTI,⟨u,v,hTO⟩,s1,s2⟩:=st;exact⟨k z (by simp) _ hz,k TI (by simp) _ hTI,⟨u,v,k TO (by simp) _ hTO⟩,s1.keep λo e=>k i1 (by simp) o e,s2.keep λo e=>k i2 (by simp) o e⟩
 item:=by
  intro X hP hw hK hc i pins s σ H E I hf st hg;subst hP hw hK;obtain⟨xs,ys,x,y,q1,q2,hx,hy⟩:=hg;obtain⟨hz,hTI,⟨u,v,hTO⟩,s1,s2⟩:=st;obtain⟨its1,r1,p1,z1⟩:=I.sq q1;obtain⟨its2,r2,p2,z2⟩:=I.sq q2;obtain⟨u1,hu1,ru1⟩:=r1.get hx;obtain⟨u2,hu2,ru2⟩:=r2.get hy;refine Wj D (Nx.sq (b:=b1) (xs:=its1.toArray) D.a1i1) (Nx.sq (b:=b2) (xs:=its2.toArray) D.a2i2) hz hTI hTO ⟨s1,p1⟩ ⟨s2,p2⟩ (x:=u1) (y:=u2) (by simpa using hu1) (by simpa using hu2) λh' z' t' n1 n2 tp k4=>?_;refine⟨.ref s.heap.objs.size,rfl,wpAny_letOwnedTupleGo_zip z' λh'' z'' sb=>?_⟩;have fresh:=I.hok.fresh (zW s.heap.objs.size);have I1:=I.laid (a:=s.heap.objs.size) (o:=.tup [x,y]) (h':=s.heap.push {cls:=.type "tuple",data:=.seq #[u1,u2]}) (t':=s.toks) (λb o q=>zJ _ q) (zW _)
   ⟨sm2,[u1,u2],.cons ru1 (.cons ru2 .nil),IsTup.new _ _⟩
  have lt: ∀b∈[z,TI,TO,i1,i2],b<s.heap.objs.size:=λb hb=>by
   rcases List.mem_cons.mp hb with e|hb
   ·rw[e];exact yG hz
   rcases List.mem_cons.mp hb with e|hb
   ·rw[e];exact yG hTI
   rcases List.mem_cons.mp hb with e|hb
   ·rw[e];exact yG hTO
   rcases List.mem_cons.mp hb with e|hb
   ·rw[e];obtain⟨o,e,_⟩:=s1.obj;exact yG e
   ·rw[List.mem_singleton.mp hb];obtain⟨o,e,_⟩:=s2.obj;exact yG e
  have f': ∀b∈[z,TI,TO,i1,i2],MV X pins (upd H s.heap.objs.size (.tup [x,y])) b:=λb hb=>⟨by rw[zV (xM (lt b hb))];exact(hf b hb).1,(hf b hb).2⟩;have I2:=I1.turnedL (h':=h'') (t':=s.toks) (L:=[z,TI,TO,i1,i2]) (λb o hb q=>?_) f'
  ·refine⟨.ref s.heap.objs.size,_,I2,rfl,⟨s.heap.objs.size,x,y,rfl,fresh,rfl,λxs' ys' e1 e2=>?_⟩,⟨z'',sb.extBut _ _ D.TIz (k4 _ _ D.TIz D.TITO D.TIi1 D.TIi2 hTI),⟨_,_,sb.extBut _ _ D.TOz t'⟩,n1.1.keep λo e=>sb.extBut _ _ D.i1z e,n2.1.keep λo e=>sb.extBut _ _ D.i2z e⟩,λb hb=>(f' b hb).1⟩;rw[I.sq_inj e1 q1,I.sq_inj e2 q2];exact⟨hx,hy⟩
  ·have nz:b≠z:=λe=>hb (by simp[e]);refine sb.extBut _ _ nz ?_
   by_cases e:b=s.heap.objs.size
   ·subst e;rw[tp,<-q];exact(yL _ rfl).symm
   ·rcases Heap.get?_push_cases q with⟨c,_⟩|c
    ·exact absurd c e
    ·exact k4 b o nz (λe=>hb (by simp[e])) (λe=>hb (by simp[e])) (λe=>hb (by simp[e])) c
 done:=by
  intro X hP hw hK hc i pins s σ H E I hf st hg;subst hP hw hK;obtain⟨xs,ys,q1,q2,he⟩:=hg;obtain⟨hz,hTI,⟨u,v,hTO⟩,s1,s2⟩:=st;obtain⟨its1,r1,p1,z1⟩:=I.sq q1;obtain⟨its2,r2,p2,z2⟩:=I.sq q2;have l1:=r1.length;have l2:=r2.length;refine Yw (I.ok.hd hc) D (Nx.sq (b:=b1) (xs:=its1.toArray) D.a1i1) (Nx.sq (b:=b2) (xs:=its2.toArray) D.a2i2) hz hTI hTO ⟨s1,p1⟩ ⟨s2,p2⟩ (he.imp (λh=>by simp;lia) (λh=>by simp;lia)) λh' k4=>⟨rfl,I.turnedL (t':=s.toks) (L:=[z,TI,TO,i1,i2]) (λb o hb q=>?_) hf⟩;exact k4 b o (λe=>hb (by simp[e])) (λe=>hb (by simp[e])) (λe=>hb (by simp[e])) (λe=>hb (by simp[e])) q
 self:=λ_ _ _ _ _ st h=>wpAny_pyIter_zip st.1 h
theorem zBs {n a1 a2:Nat}(m1:a1<n)(m2:a2<n):ZA (n+4) (n+2) (n+3) n (n+1) a1 a2:=by
 constructor<;>(show _≠(_:Nat);lia)
abbrev zq1 (h:Heap)(b1:Bool)(a1:Addr):Heap:=h.push (QE b1 a1)
abbrev zq2 (h:Heap)(b1 b2:Bool)(a1 a2:Addr):Heap:=(zq1 h b1 a1).push (QE b2 a2)
abbrev zq3 (h:Heap)(b1 b2:Bool)(a1 a2:Addr):Heap:=(zq2 h b1 b2 a1 a2).push {cls:=.type "tuple",data:=.seq #[.ref h.objs.size,.ref (zq1 h b1 a1).objs.size]}
abbrev zq4 (h:Heap)(b1 b2:Bool)(a1 a2:Addr):Heap:=(zq3 h b1 b2 a1 a2).push {cls:=.type "tuple",data:=.seq #[.none,.none]}
abbrev Zt (h:Heap)(b1 b2:Bool)(a1 a2:Addr):Heap:=(zq4 h b1 b2 a1 a2).push {cls:=.type "zip",data:=.fields #[.none,.bool false,.bool false,.ref (zq2 h b1 b2 a1 a2).objs.size,.ref (zq3 h b1 b2 a1 a2).objs.size]}
theorem RX (b1 b2:Bool)(a1 a2:Addr)(xs ys:Array Value):Meets (Builtin.«zip.__new__» ⟨[.type "zip",.ref a1,.ref a2],[]⟩) (λ_ R s=>Jk b1 s.heap a1 xs/\Jk b2 s.heap a2 ys/\
  R (.ok (.ret (.ref (zq4 s.heap b1 b2 a1 a2).objs.size))) {s with heap:=Zt s.heap b1 b2 a1 a2}):=
 .of_wp λprog w A R s h=>by
  obtain⟨hp,g,d,tk,os⟩:=s;obtain⟨l1,l2,h⟩:=h;have hsub:=sub_zip;have L1:Jk b1 (Shared.heap ⟨hp,g,d,tk,os⟩) a1 xs:=l1;have L2:Jk b2 (Shared.heap ⟨hp.push (QE b1 a1),g,d,tk,os⟩) a2 ys:=Jk.push l2
  wp_walk using Ta L1,Ta L2
  exact⟨_,rfl,h⟩
section
variable {prog:Program}{w:World}{A:Around}{E:Value->Shared->Prop}{s:Shared}{b1 b2:Bool}{a1 a2:Addr}{xs ys:Array Value}
theorem UF {Q:Value->Shared->Prop}(l1:Jk b1 s.heap a1 xs)(l2:Jk b2 s.heap a2 ys)
  (q: ∀h' z TI TO i1 i2,ZA z TI TO i1 i2 a1 a2->ZSt b1 b2 z TI TO i1 i2 a1 a2 0 h'->(∀c∈[z,TI,TO,i1,i2],s.heap.objs.size<=c)->(∀c o,s.heap.get? c=some o->h'.get? c=some o)->Q (.ref z) {s with heap:=h'}):
  wpAny (model prog w) A (call (.type "zip") [.ref a1,.ref a2]) Q E s:=by
 refine callType_new F.called_zip (by decide) (F.typeCall_zip_2 _ _) (F.newCall_zip_2 _ _) (λobj=>F.args_object_init_3 obj _ _) F.entry_zip_new (RX b1 b2 a1 a2 xs ys) ⟨l1,l2,?_⟩;have z1:(zq1 s.heap b1 a1).objs.size =s.heap.objs.size+1:=AX ..;have z2:(zq2 s.heap b1 b2 a1 a2).objs.size =s.heap.objs.size+2:=by rw[AX,z1]
 have z3:(zq3 s.heap b1 b2 a1 a2).objs.size =s.heap.objs.size+3:=by rw[AX,z2]
 have z4:(zq4 s.heap b1 b2 a1 a2).objs.size =s.heap.objs.size+4:=by rw[AX,z3]
 have g5:(Zt s.heap b1 b2 a1 a2).get? (zq4 s.heap b1 b2 a1 a2).objs.size =some _:=yL _ rfl;have g4:(Zt s.heap b1 b2 a1 a2).get? (zq3 s.heap b1 b2 a1 a2).objs.size =some _:=zJ _ (yL _ rfl);have g3:(Zt s.heap b1 b2 a1 a2).get? (zq2 s.heap b1 b2 a1 a2).objs.size =some _:=zJ _ (zJ _ (yL _ rfl));have g2:(Zt s.heap b1 b2 a1 a2).get? (zq1 s.heap b1 a1).objs.size =some _:=zJ _ (zJ _ (zJ _ (yL _ (by cases b2<;>rfl))));have g1:(Zt s.heap b1 b2 a1 a2).get? s.heap.objs.size=some _:=zJ _ (zJ _ (zJ _ (zJ _ (yL _ (by cases b1<;>rfl)))));have m1:=l1.lt;have m2:=l2.lt;have up: ∀c o,s.heap.get? c=some o->(Zt s.heap b1 b2 a1 a2).get? c=some o:=λc o x=>zJ _ (zJ _ (zJ _ (zJ _ (zJ _ x))));rw[z2,z3,z4]at g5;rw[z1,z2]at g3;rw[z3]at g4;rw[z1]at g2;show _/\_;rw[z4];refine⟨⟨_,g5,rfl⟩,q _ (s.heap.objs.size+4) (s.heap.objs.size+2) (s.heap.objs.size+3) s.heap.objs.size (s.heap.objs.size+1) ?_ ⟨g5,g3,⟨_,_,g4⟩,SI.new g1,SI.new g2⟩ (λc hc=>?_) up⟩
 ·exact zBs m1 m2
 ·simp at hc
  rcases hc with e|e|e|e|e<;>(rw[e];lia)
end
theorem zAx:bootBuiltins "zip"=some (.type "zip"):=by decide+kernel
inductive Za (K:PySem.W.Frag) (b1 b2:Bool) (vs:List V) (H1:Hp) (R:It->Hp->Prop):Prop
 |mk (a1 a2 xs ys:_) (h0:vs=[.ref a1,.ref a2]) (h1:UN b1 K H1 a1 xs) (h2:UN b2 K H1 a2 ys) (h3:R (Itz K b1 b2 a1 a2) H1):Za K b1 b2 vs H1 R
def zFu (K:PySem.W.Frag)(b1 b2:Bool)(ta:TA):TI:=λσ H R=>ta σ H λvs H1=>Za K b1 b2 vs H1 R
section
variable {X:Cx}
theorem ZP (b1 b2:Bool){elts:List Expr}{x1:Nat}{tpos:Pos}{l m:Expr}{ta:TA}{p pos:Pos}(hg:Gl X "zip")(hm:X.mg "zip"=none)(ha:PA X [l,m] ta)(hs:starEach [l,m] X.env=(false,eval l X.env)::starEach [m] X.env:=by rfl)(hpl:(backTo pos (starEach [m] X.env)).any (·.1)=false:=by rfl):
  PI X (.Tuple elts x1 tpos) (.Call (.Name "zip" p) [l,m] [] pos) (zFu X.K b1 b2 ta):=by
 refine⟨?_⟩;intro pins s σ H R I h;refine Call_ (Jc I hg hm zAx (qZ (qT (ha pos pins s σ H _ I h) λus s1 ⟨vs,H1,I1,r1,q1⟩=>?_) hs hpl));obtain⟨a1,a2,xs,ys,e,k1,k2,q⟩:=q1;subst e;obtain⟨u1,u2,rfl,ru1,ru2⟩:=KF r1;cases ru1;cases ru2;obtain⟨i1,r1,p1,z1⟩:=I1.sq k1;obtain⟨i2,r2,p2,z2⟩:=I1.sq k2;refine UF p1 p2 λh' z TI TO j1 j2 D st lt hk=>?_;refine wpAny_pyIter_zip (s:={s1 with heap:=h'}) st.1 ?_;exact⟨z,[z,TI,TO,j1,j2],_,_,H1,rfl,I1.kept (t':=s1.toks) hk,UX D,st,λb hb=>I1.fpOk (lt b hb) (I1.hok.fresh (lt b hb)),q⟩
theorem Yq {K:PySem.W.Frag}{b1 b2:Bool}{a1 a2:Addr}{xs ys:List V}{g:TG}{tb:TS}{D:He}{σ:St}{H:Hp}(Pv:Nat->St->Hp->Prop)(h0:Pv 0 σ H)(hle:xs.length=ys.length)(hl: ∀i σ H,i<=xs.length->Pv i σ H->UN b1 K H a1 xs/\UN b2 K H a2 ys)
  (hs: ∀i x y σ H t,xs[i]? =some x->ys[i]? =some y->Pv i σ H->H t=none->g (.ref t) σ (upd H t (.tup [x,y])) λσ2 H2=>tb {D with nx:=Pv (i+1),ct:=Pv (i+1),bk:=D.nx} σ2 H2) (hd: ∀σ H,Pv xs.length σ H->D.nx σ H):
  ∃W:Nat->Nat->St->Hp->Prop,(∃m,W 0 m σ H)/\ ∀i m σ H,W i m σ H->
   ((Itz K b1 b2 a1 a2).stop i H/\D.nx σ H)\/((Itz K b1 b2 a1 a2).go i H/\ ∃N:St->Hp->Prop,(∀σ' H',N σ' H'-> ∃m',m'<m/\W (i+1) m' σ' H')/\ ∀x H',(Itz K b1 b2 a1 a2).yld i H x H'->g x σ H' λσ2 H2=>tb {D with nx:=N,ct:=N,bk:=D.nx} σ2 H2):=by
 refine⟨λi m σ H=>m=xs.length-i/\i<=xs.length/\Pv i σ H,⟨xs.length,by simp,yU _,h0⟩,?_⟩;rintro i m σ H ⟨rfl,hi,p⟩;obtain⟨q1,q2⟩:=hl i σ H hi p
 by_cases hlt:i<xs.length
 ·refine .inr ⟨⟨xs,ys,xs[i],ys[i],q1,q2,zE hlt,zE (by lia)⟩,Pv (i+1),λσ' H' p'=>⟨xs.length-(i+1),by lia,rfl,hlt,p'⟩,λv H' yd=>?_⟩;obtain⟨t,x,y,rfl,ht,rfl,hx⟩:=yd;obtain⟨e1,e2⟩:=hx xs ys q1 q2;exact hs i x y σ H t e1 e2 p ht
 ·have e:i=xs.length:=by lia
  subst e;exact .inl ⟨⟨xs,ys,q1,q2,.inl (zW _)⟩,hd σ H p⟩
end
theorem UL (a b:Value):argsOk "sum" ⟨[a,b],[]⟩:=by unfold argsOk;kernel_rfl
section
variable {prog:Program}{w:World}{A:Around}{R:Result->Shared->Prop}
theorem Tz (hh:A.in1.handled=none){it S l:Addr}{as:List Addr}{Ls:List (List Value)}(nS:it≠S)(nl:l≠it)(nlS:l≠S)(hlen:as.length=Ls.length)(na: ∀a∈as,a≠it/\a≠S):
  ∀(k i:Nat) (s:Shared) (t:Addr) (acc:List Value) (c nt:Nat),as.length-i=k->i<=as.length->s.heap.IsListIter it l i->s.heap.IsList l (as.map Value.ref).toArray->
  (∀(j:Nat) (a:Addr) (vs:List Value),as[j]? =some a->Ls[j]? =some vs-> ∃n,s.heap.get? a=some {cls:=.type "list",data:=.seq vs.toArray n})->
  s.heap.get? S=some {cls:=.type "list",dict:=none,data:=.seq #[.ref t] c,slots:=#[]}->s.heap.get? t=some {cls:=.type "list",data:=.seq acc.toArray nt}->t≠it->t≠S->
  acc.length+(Ls.drop i).flatten.length<=sizeLine->
  (∀(h':Heap) (t':Nat) (p:Addr) (np:Nat),(∀b o,b≠it->b≠S->s.heap.get? b=some o->h'.get? b=some o)->h'.get? p=some {cls:=.type "list",data:=.seq (acc++(Ls.drop i).flatten).toArray np}->(p=t/\i=as.length\/s.heap.objs.size<=p)->R (.ok (.ret (.ref p))) {s with heap:=h',toks:=t'})->
  codeAny (model prog w) A (.builtin "sum.loop" ⟨[.ref it,.ref S,rawInt 2,rawInt 0],[]⟩) R s:=by
 intro k
 induction k with
 |zero=>
  intro i s t acc c nt hk hi hit hl hL hS ht n1 n2 hz hR;have hin:i=as.length:=by lia
  refine codeAny_builtin F.entry_sum_loop ?_;rw[DM Dv _];show wpAny _ A.in1 (seqItems? (.ref S)>>=_) _ _ s;refine zC (wC hS rfl ?_);show wpAny _ A.in1 (tryCatch (pyNext (.ref it)) _>>=_) _ _ s;refine zC (wpAny_tryCatch (wpAny_pyNext_list_end hh hit hl (by simp[hin]) λh' hx=>?_));refine zP (hR h' s.toks t nt (λb o nb _ e=>hx b o nb e) ?_ (.inl ⟨rfl,hin⟩));rw[wE (by lia),List.flatten_nil,xI];exact hx _ _ n1 ht
 |succ k ih=>
  intro i s t acc c nt hk hi hit hl hL hS ht n1 n2 hz hR;have hlt:i<as.length:=by lia
  have hlt2:i<Ls.length:=by lia
  obtain⟨n,hv⟩:=hL i as[i] Ls[i] (zE hlt) (zE hlt2);obtain⟨m1,m2⟩:=na as[i] (Gv hlt);have ed:Ls.drop i=Ls[i]::Ls.drop (i+1):=xQ hlt2;rw[ed,kJ,zB]at hz;rw[ed,kJ,<-yW]at hR;have ei:(as.map Value.ref).toArray[i]? =some (.ref as[i]):=by simp[hlt]
  generalize as[i]=a at hv m1 m2 ei;generalize Ls[i]=vs at hv hz hR;refine codeAny_builtin F.entry_sum_loop ?_;rw[DM Dv _];show wpAny _ A.in1 (seqItems? (.ref S)>>=_) _ _ s;refine zC (wC hS rfl ?_);show wpAny _ A.in1 (tryCatch (pyNext (.ref it)) _>>=_) _ _ s;refine zC (wpAny_tryCatch (wpAny_pyNext_list_item hit hl ei λh1 it1 sb=>?_));have e1: ∀b o,b≠it->s.heap.get? b=some o->h1.get? b=some o:=λb o nb e=>sb.extBut b o nb e;have sz:s.heap.objs.size<=h1.objs.size:=Eu sb.1.symm;show wpAny _ A.in1 ((holding [Value.ref a] (binaryOp .Add (.ref t) (.ref a))).attempt>>=_) _ _ _;refine zC (vH (qK (PySem.P.add_list (e1 _ _ n1 ht) (e1 _ _ m1 hv) ?_ (by rw[yC,yC];lia))));have ea:acc.toArray++vs.toArray=(acc++vs).toArray:=by simp
  rw[ea];generalize eh:h1.push {cls:=.type "list",data:=.seq (acc++vs).toArray}=h2;have e2: ∀b o,h1.get? b=some o->h2.get? b=some o:=λb o e=>by rw[<-eh];exact zJ _ e
  have g2:h2.get? h1.objs.size=some {cls:=.type "list",data:=.seq (acc++vs).toArray}:=by rw[<-eh];exact yL _ rfl
  have hS2:=e2 _ _ (e1 _ _ (Ne.symm nS) hS);have lS:=yG (e1 _ _ (Ne.symm nS) hS);obtain⟨oi,hoi,ri⟩:=id it1;have lI:=yG hoi;show wpAny _ A.in1 (updateSeq S (λ_=>#[.ref h1.objs.size])>>=_) _ _ _;refine zC (wpAny_updateSeq hS2 rfl ?_);have hS3:=jR (Obj.mapSeq λ_=>#[Value.ref h1.objs.size]) hS2 rfl;refine zC (wpAny_letGo ?_);refine zC (wpAny_updateSeq hS3 rfl (zP ⟨plainId_quiet Dv _,?_⟩));have e3: ∀b o,b≠S->h2.get? b=some o->((h2.update S (Obj.mapSeq λ_=>#[Value.ref h1.objs.size])).update S (Obj.mapSeq λ_=>#[Value.ref h1.objs.size])).get? b=some o:=λb o nb e=>by
   rw[xH _ _ (Ne.symm nb),xH _ _ (Ne.symm nb)];exact e
  have kk: ∀b o,b≠it->b≠S->s.heap.get? b=some o->((h2.update S (Obj.mapSeq λ_=>#[Value.ref h1.objs.size])).update S (Obj.mapSeq λ_=>#[Value.ref h1.objs.size])).get? b=some o:=λb o n1 n2 e=>e3 _ _ n2 (e2 _ _ (e1 _ _ n1 e));have z1:s.heap.objs.size<=((h2.update S (Obj.mapSeq λ_=>#[Value.ref h1.objs.size])).update S (Obj.mapSeq λ_=>#[Value.ref h1.objs.size])).objs.size:=by
   exact yT sz (vC (yG (e3 _ _ (qP lS) g2)))
  refine ih (i+1) _ h1.objs.size (acc++vs) _ _ (by lia) hlt ⟨oi,e3 _ _ nS (e2 _ _ hoi),ri⟩ ?_ (λj a' vs' h1' h2'=>?_) (jR _ hS3 rfl) (e3 _ _ (qP lS) g2) (qP lI) (qP lS) (by rw[zB];lia) (λh' t' p np kp gp cp=>?_)
  ·obtain⟨o,ho,r⟩:=hl;exact⟨o,kk _ _ nl nlS ho,r⟩
  ·obtain⟨n',g'⟩:=hL j a' vs' h1' h2';obtain⟨q1,q2⟩:=na a' (zX h1');exact⟨n',kk _ _ q1 q2 g'⟩
  ·refine hR h' t' p np (λb o n1 n2 e=>kp b o n1 n2 (kk b o n1 n2 e)) gp (.inr ?_)
   rcases cp with⟨rfl,_⟩|z
   ·exact sz
   ·exact yT z1 z
end
theorem Lf:isSubtype (.type "list") (.type "bytes")=pure false:=by rw[Ad];kernel_rfl
theorem Iy:isSubtype (.type "list") (.type "bytearray")=pure false:=by rw[Ad];kernel_rfl
section
variable {X:Cx}
theorem Ng: ∀{as:List Addr} {us:List Value},jS (as.map V.ref) us->us=as.map Value.ref
 |[],_,.nil=>rfl
 |n::ns,_,.cons h t=>by
  rw[Ng t,yQ];congr 1
def zCj:List V->Hp->VK->Prop:=λxs H Q=> ∃(l z:Addr) (as:List Addr) (yss:List (List V)),xs=[.ref l,.ref z]/\H l=some (.lst (as.map V.ref))/\Paired (λa ys=>H a=some (.lst ys)) as yss/\H z=some (.lst [])/\yss.flatten.length<=sizeLine/\
 (yss=[]->Q (.ref z) H)/\ ∀p,H p=none->Q (.ref p) (upd H p (.lst yss.flatten))
theorem Wt {pins:List (Addr×Obj)}{σ:St}{H:Hp}{s:Shared}(I:xK X pins σ H s): ∀{as:List Addr} {yss:List (List V)},Paired (λa ys=>H a=some (.lst ys)) as yss-> ∃Ls:List (List Value),jS yss.flatten Ls.flatten/\as.length=Ls.length/\
  ∀(j:Nat) (a:Addr) (vs:List Value),as[j]? =some a->Ls[j]? =some vs-> ∃n,s.heap.get? a=some {cls:=.type "list",data:=.seq vs.toArray n}
 |[],_,.nil=>⟨[],.nil,rfl,λj a vs h=>by simp at h⟩
 |a::as,ys::yss,.cons h t=>by
  obtain⟨Ls,r,e,g⟩:=Wt I t;obtain⟨z,its,n,rv,hl,he⟩:=I.lstM h;refine⟨its::Ls,?_,by rw[zK,zK,e],λj b vs h1 h2=>?_⟩
  ·rw[kJ,kJ];exact rv.append r
  ·cases j with
   |zero=>
    have e1:a=b:=by simpa using h1
    have e2:its=vs:=by simpa using h2
    subst e1 e2;exact⟨n,he⟩
   |succ j=>exact g j b vs (by simpa using h1) (by simpa using h2)
theorem UG (hc:X.calm=true):EM X (.builtin "sum") zCj:=by
 intro pins s σ H xs us Q I r h;obtain⟨l,z,as,yss,rfl,hl,ha,hz,hn,q0,q1⟩:=h;obtain⟨u,u2,rfl,ru,ru2⟩:=KF r;cases ru;cases ru2;obtain⟨Ls,rL,eL,gL⟩:=Wt I ha;obtain⟨zl,its,n,rv,hli,he⟩:=I.lstM hl;obtain⟨zz,itz,nz,rz,hlz,ez⟩:=I.lstM hz;have e0:=Ng rv;subst e0;have e1:itz=[]:=by cases rz;rfl
 subst e1;refine call_function_tree F.kind_sum F.plain_sum F.entry_sum (UL _ _) ?_;unfold Builtin.«sum»;simp only[zK,jQ];rw[zI (by decide)];refine zC (uP (show Builtin.Builtins.bindParams "sum" ["start"] 0 ⟨[.ref z],[]⟩=pure [some (.ref z)]from rfl) ?_);have il:s.heap.IsList l (as.map Value.ref).toArray:=⟨_,he,rfl,_,rfl⟩;refine zC (CV il ?_);refine zC (zP ?_);generalize eh:s.heap.push {cls:=.type "list_iterator",data:=.fields #[.ref l,.int 0 0]}=h1;have k1: ∀b o,s.heap.get? b=some o->h1.get? b=some o:=λb o e=>by rw[<-eh];exact zJ _ e
 have iz:=k1 _ _ ez;have tz:({s with heap:=h1}:Shared).TypeIs (.ref z) "list":=Heap.IsList.typeIs (s:={s with heap:=h1}) ⟨_,iz,rfl,_,rfl⟩;have gi:h1.get? s.heap.objs.size=some {cls:=.type "list_iterator",data:=.fields #[.ref l,.int 0 0]}:=by rw[<-eh];exact yL _ rfl
 simp only[uJ,EV];refine zC (zC (zC (Ac (T:="list") (b:=false) tz F.sub_list_str ?_)));simp only[wN,Bw];refine zP (zC (zC (Ac (T:="list") (b:=false) tz Lf ?_)));simp only[wN,Bw];refine zP (zC (zC (Ac (T:="list") (b:=false) tz Iy ?_)));simp only[wN,Bw];refine zP (zP ?_);refine zC (jW ?_);have lz:=yG ez;have ll:=yG he;have l1:=yG gi;have k2: ∀b o,h1.get? b=some o->(h1.push {cls:=.type "list",data:=.seq #[.ref z]}).get? b=some o:=λb o e=>zJ _ e;refine zP ⟨plainId_quiet Dv _,Tz (it:=s.heap.objs.size) (S:=h1.objs.size) (l:=l) (as:=as) (Ls:=Ls) (I.ok.hd hc) (xM l1) (xM ll) (xM (kZ ll l1)) eL (λa ha'=>?_) as.length 0 _ z [] _ _ (Nat.sub_zero _) (yU _)
  ⟨_,k2 _ _ gi,rfl,rfl⟩ ⟨_,k2 _ _ (k1 _ _ he),rfl,_,rfl⟩ (λj a vs h1' h2'=>?_) (yL _ rfl) (k2 _ _ iz) (xM lz) (xM (kZ lz l1)) ?_ (λh' t' p np kp gp cp=>?_)⟩
 ·obtain⟨j,hj⟩:=qW ha';have hjl:=(List.getElem?_eq_some_iff.mp hj).1;obtain⟨n',g'⟩:=gL j a _ hj (zE (by lia));have:=yG g';exact⟨xM this,xM (kZ this l1)⟩
 ·obtain⟨n',g'⟩:=gL j a vs h1' h2';exact⟨n',k2 _ _ (k1 _ _ g')⟩
 ·rw[Af,<-rL.length];show 0+_<=_;lia
 ·rw[Af,jV]at gp;have kk: ∀b o,s.heap.get? b=some o->h'.get? b=some o:=λb o e=>kp b o (xM (yG e)) (xM (kZ (yG e) l1)) (k2 _ _ (k1 _ _ e))
  rcases cp with⟨rfl,e⟩|hp
  ·have:yss=[]:=by
    have:=Paired.len ha;cases yss with
    |nil=>rfl
    |cons y r=>rw[zK]at this;lia
   exact⟨.ref p,H,I.kept kk,rfl,q0 this⟩
  ·have hp':s.heap.objs.size<=p:=yT (vC l1) (yT (vC (yG (yL _ rfl))) hp);exact⟨.ref p,_,I.laid (o:=.lst yss.flatten) kk hp' ⟨hn,_,np,rL,gp⟩,rfl,q1 _ (I.hok.fresh hp')⟩
end
section
variable {X:Cx}{e o:Expr}{es:List Expr}{to:TE}{t:TA}{name:Str}{apos cpos:Pos}{T id:String}{r:V->List V->Hp->VK->Prop}
theorem Wl (K:PySem.W.Frag)(hK:X.K=K):US X "str.join" (Vu K):=hK▸JF
theorem ZU (K:PySem.W.Frag)(hK:X.K=K)(pa:PlainAttrs T)(slot:Slot T name id)(hty:typeOf (.builtin id)=pure (.type "method_descriptor"))(hm:US X id r)(ho:PE X o to)(ha:PA X (e::es) t)
  (hbase:attributeBase o name X.env (eval o X.env)=eval o X.env:=by rfl)
  (hfew:((backTo cpos (starEach (e::es) X.env)).all (λx=>!x.1)&&(backToKw cpos (keywordEach [] X.env)).all (λx=>x.1.isSome)
   &&decide ((e::es).length +([]:List Keyword).length +(if([]:List Keyword).isEmpty then 0 else 1)<30))=true:=by rfl)
  (hline:(apos.endLine==cpos.line)=true:=by rfl) (hs:starEach (e::es) X.env=(false,eval e X.env)::starEach es X.env:=by rfl) (hplain:(backTo cpos (starEach es X.env)).any (·.1)=false:=by rfl):
  PE X (.Call (.Attribute o name apos) (e::es) [] cpos) (tBM K T r to t):=hK▸qI pa slot hty hm ho ha hbase hfew hline hs hplain
end
theorem WQ {p:Addr}{x:Str}{g:TG}{tt:TT}{te:TE}{R:Hp->Prop}{σ0:St}{H0:Hp}(Pv:Nat->St->Hp->Prop)(h0:Pv 0 σ0 H0)
  (hs: ∀i c σ H,i<x.cps.size->x.cps[i]? =some c->Pv i σ H->g (.str ⟨#[c]⟩) σ H λσ3 H3=>tt σ3 H3 λb H4=>
   if b=true then te σ3 H4 λv H5=> ∃ys,H5 p=some (.lst ys)/\ys.length<sizeLine/\ ∃m',m'<x.cps.size-i/\CW x.cps.size Pv (i+1) m' σ3 (upd H5 p (.lst (ys++[v])))
   else ∃m',m'<x.cps.size-i/\CW x.cps.size Pv (i+1) m' σ3 H4)
  (hd: ∀σ H,Pv x.cps.size σ H->R H):MI (MH x) p σ0 H0 g tt te R:=by
 refine⟨CW x.cps.size Pv,⟨_,yU _,rfl,h0⟩,λi m σ' H' w=>?_⟩;obtain⟨hi,rfl,hp⟩:=w
 by_cases hlt:i<x.cps.size
 ·refine .inr ⟨hlt,λv H2 y=>?_⟩;obtain⟨e,c,hc,rfl⟩:=y;subst e;exact hs i c σ' _ hlt hc hp
 ·have e:i=x.cps.size:=by lia
  subst e;exact .inl ⟨zW _,hd σ' H' hp⟩
end L2
namespace L2
open PySem
def Jb (cs:List Nat):Str:=⟨cs.toArray⟩
def JC (c:Nat):Str:=⟨#[c]⟩
def kwA:List Str:=kwH++kwW
theorem Wo (cs:List Nat):(Jb cs).cps.toList =cs:=rfl
theorem Wn {a b:List Nat}(h:Jb a=Jb b):a=b:=by
 have:=jB (λt:Str=>t.cps.toList) h;exact this
theorem NJ: ∀cs:List Nat,Str.join "" (cs.map JC)=Jb cs
 |[]=>rfl
 |[c]=>rfl
 |c::d::r=>by
  have ih:=NJ (d::r);show(JC c++""++Str.join "" ((d::r).map JC))=_;rw[ih];refine jB Str.mk ?_;show(#[c]++(Str.ofString "").cps++(d::r).toArray)=(c::d::r).toArray
  simp[show(Str.ofString "").cps =#[]from by decide]
theorem PX (cs:List Nat):Txt.join "" (cs.map JC)=Jb cs:=(vU _ _).trans (NJ cs)
theorem Fq:lettersS.cps.toList=(List.range 26).map (97+·):=by decide+kernel
theorem Ud {cs:List Nat}(hc: ∀c∈cs,97<=c/\c<=122)(h1:1<=cs.length)(h8:cs.length<=8)(hk:Jb cs∉kwA):jL (Jb cs)=true:=by
 have hl:(Jb cs).length =cs.length:=yC ..;have ia:AM (Jb cs) lettersS=true:=by
  unfold AM;rw[wM];intro c h;refine zY ?_;rw[Fq,List.mem_map];have:=hc c h;exact⟨c-97,List.mem_range.mpr (by lia),by lia⟩
 have kh:Jb cs∉kwH:=λz=>hk (qA _ z);have kw:Jb cs∉kwW:=λz=>hk (yZ _ z);unfold jL;rw[zY (by lia),zY (by lia),ia,yA kh,yA kw];rfl
theorem Yf:(kwA.map λw=>w.cps.toList.dropLast).Nodup:=by decide+kernel
theorem Mx {α β:Type}[DecidableEq β](f:α->β)(b:β): ∀l:List α,(l.map f).Nodup->(l.filter λx=>decide (f x=b)).length<=1
 |[],_=>yU _
 |x::r,h=>by
  rw[yQ,DZ]at h;rw[Bl];split
  ·rename_i c;have c':=zZ c;have:r.filter (λx=>decide (f x=b))=[]:=by
    rw[List.filter_eq_nil_iff];intro y hy z;exact h.1 (List.mem_map.mpr ⟨y,hy,(zZ z).trans c'.symm⟩)
   rw[this];exact zW _
  ·exact Mx f b r h.2
theorem Qx {α:Type}[DecidableEq α]: ∀{l m:List α},l.Nodup->(∀x∈l,x∈m)->l.length<=m.length
 |[],m,_,_=>yU _
 |x::l,m,h,s=>by
  rw[DZ]at h;have hx:=s x (zO ..);have:=Qx (l:=l) (m:=m.erase x) h.2 λy hy=>by
   have ny:y≠x:=λz=>h.1 (z▸hy);exact(List.mem_erase_of_ne ny).mpr (s y (zQ _ hy))
  rw[List.length_erase_of_mem hx]at this;have:0<m.length:=List.length_pos_of_mem hx;rw[zK];lia
theorem Uv (pre:List Nat)(j0:Nat)(ts:List Str)(h:ts.length<=24): ∃k,k<26/\Jb (pre++[97+(j0+k) % 26])∉ts++kwA:=by
 refine Fe λno=>?_;have all: ∀j,j<26->Jb (pre++[97+j])∈ts++kwA:=λj hj=>by
  refine Fe λz=>no ⟨(j+26-j0 % 26) % 26,ET _ (by decide),?_⟩;have:(j0+(j+26-j0 % 26) % 26) % 26=j:=by lia
  rw[this];exact z
 have sub: ∀x∈(List.range 26).map (λj=>Jb (pre++[97+j])),x∈ts++kwA.filter (λw=>decide (w.cps.toList.dropLast=pre)):=λx hx=>by
  obtain⟨j,hj,rfl⟩:=List.mem_map.mp hx
  rcases List.mem_append.mp (all j (List.mem_range.mp hj))with z|z
  ·exact qA _ z
  ·refine yZ _ (List.mem_filter.mpr ⟨z,zY ?_⟩);rw[Wo,List.dropLast_concat]
 have nd:((List.range 26).map (λj=>Jb (pre++[97+j]))).Nodup:=by
  refine List.Pairwise.map _ ?_ List.nodup_range;intro a b hab e;have:=Wn e;have:=Gy this;injection this with e1 _
  lia
 have l1:=Qx nd sub;rw[zD,List.length_range,zB]at l1;have l2:=Mx (λw:Str=>w.cps.toList.dropLast) pre kwA Yf;lia
theorem Sf: ∀j:Fin 26,Builtin.Str.occurrences lettersS (JC (97+j.1)) 0 lettersS.length 1=[j.1]:=by decide+kernel
theorem KD:Txt.split "fun with is set all pick loop call fail add sub mul quo rest less same push at put size new" " "=kwA:=by decide+kernel
def Fb (W:List Str)(a:Nat)(ws:List Str):Prop:= ∃post,W.drop a=ws++post
theorem Fb.cons {W:List Str}{a:Nat}{x:Str}{r:List Str}(h:Fb W a (x::r)):W[a]? =some x/\Fb W (a+1) r:=by
 obtain⟨post,e⟩:=h;have e1:(W.drop a)[0]? =some x:=by rw[e];rfl
 rw[List.getElem?_drop]at e1;refine⟨by simpa using e1,post,?_⟩;have:=jB (List.drop 1) e;rw[List.drop_drop]at this
 simpa using this
theorem Fb.app {W:List Str}{a:Nat}{u v:List Str}(h:Fb W a (u++v)):Fb W a u/\Fb W (a+u.length) v:=by
 obtain⟨post,e⟩:=h;refine⟨⟨v++post,by rw[e,yW]⟩,post,?_⟩;have:=jB (List.drop u.length) e;rw[List.drop_drop,yW,List.drop_left]at this;exact this
abbrev IE:=Str×List Str×Nat
structure Su (bs:List Str):Prop where
 nd:bs.Nodup
 ok: ∀b∈bs,jL b=true
 few:bs.length<=12
structure Xd (h:IE):Prop where
 nm:jL h.1=true
 bx:Su h.2.1
 p4:h.2.2<=4
 pb:h.2.2<=h.2.1.length
structure Agr (hs:List IE)(num:List (Str×Int))(cnt:List Int):Prop where
 num: ∀(i:Nat) (h:IE),hs[i]? =some h->jT num h.1=some (i:Int)
 cnt: ∀(i:Nat) (h:IE),hs[i]? =some h->cnt[i]? =some (h.2.2:Int)
 ok: ∀h∈hs,Xd h
def HY (hs:List IE)(bs:List Str)(d:Nat)(ws:List Str)(zs:List Int):Prop:= ∀W num cnt a bd,Fb W a ws->Agr hs num cnt->uC W num cnt bs d a bd=.ok (a+ws.length,bd++zs)
theorem FY {w:Str}(h:jL w=true):AM w lettersS=true/\1<=w.length/\w.length<=8/\w∉kwH/\w∉kwW:=by
 unfold jL at h;rw[jF,jF,jF,jF]at h;obtain⟨⟨⟨⟨h1,h2⟩,h3⟩,h4⟩,h5⟩:=h;refine⟨h3,zZ h1,zZ h2,λz=>?_,λz=>?_⟩
 ·rw[zY z]at h4;cases h4
 ·rw[zY z]at h5;cases h5
theorem KN {w:Str}(h:jL w=true): ∀c∈w.cps.toList,97<=c/\c<=122:=λc hc=>by
 have h1:=(FY h).1;unfold AM at h1;rw[wM]at h1;have:=zZ (h1 c hc);rw[Fq,List.mem_map]at this;obtain⟨j,hj,e⟩:=this;have:=List.mem_range.mp hj;lia
theorem IJ {w:Str}(h: ∀c∈w.cps.toList,97<=c/\c<=122)(h0:1<=w.length):qU w 60=false:=by
 refine Bool.eq_false_iff.mpr λz=>?_;obtain⟨h1,h2,h3⟩:=Iq z;have hw:w.cps.toList.length=w.length:=yR;have hp:wB w=w:=AS (λe=>by
  have:=h 45 (zX e);lia)
 rw[hp]at h3;cases e:w.cps.toList with
 |nil=>rw[e]at hw;have:([]:List Nat).length =0:=rfl;lia
 |cons c r=>
  have a:=h c (by rw[e];exact zO ..);have b:=h3 c (by rw[e];exact zO ..);lia
theorem Pf {w:Str}(h:jL w=true):qU w 60=false:=IJ (KN h) (FY h).2.1
theorem Jd: ∀w∈kwA,(∀c∈w.cps.toList,97<=c/\c<=122)/\1<=w.length:=by decide+kernel
theorem Wq {w:Str}(h:w∈kwA):qU w 60=false:=IJ (Jd w h).1 (Jd w h).2
section
variable {hs:List IE}{bs:List Str}{W:List Str}{num:List (Str×Int)}{cnt:List Int}{a d:Nat}{bd:List Int}
theorem IX {f:Zr}:uD f 0 a bd=.ok (a,bd):=rfl
theorem Nh {n:Int}(hn:n.natAbs<10^60):HY hs bs (d+1) [Bc n] [0,n]:=λW num cnt a bd hw ag=>by
 obtain⟨e,_⟩:=hw.cons;have ok:qU (Bc n) 60=true:=Kn (k:=59) hn (by decide);have ek:Ag W a bs=.ok (0,a):=by unfold Ag;rw[e];dsimp only;rw[zT ok]
 have eo:Am W num a 0 bs=.ok ([n],a+1):=by
  unfold Am IB;rw[zT rfl,e];dsimp only;rw[zT ok,PU (kZ hn (by decide+kernel))]
 unfold uC;rw[ek];dsimp only;rw[eo];dsimp only;rw[show(GZ cnt 0 [n]).toNat =0 from rfl,IX];rfl
theorem Pk {b:Str}: ∀{bs:List Str} {i:Nat},bs.Nodup->bs[i]? =some b->bs.idxOf b=i
 |[],i,_,h=>by simp at h
 |x::r,0,_,h=>by
  have:x=b:=by simpa using h
  rw[this,List.idxOf_cons_self]
 |x::r,i+1,nd,h=>by
  rw[DZ]at nd;have h':r[i]? =some b:=by simpa using h
  have:x≠b:=λz=>nd.1 (z▸zX h');rw[List.idxOf_cons,Pk nd.2 h'];have:(x==b)=false:=by simpa using this
  rw[this];rfl
theorem Ni (hb:Su bs){i:Nat}{b:Str}(hi:bs[i]? =some b):HY hs bs (d+1) [b] [1,(i:Int)]:=λW num cnt a bd hw ag=>by
 obtain⟨e,_⟩:=hw.cons;have m:=zX hi;have ek:Ag W a bs=.ok (1,a):=by
  unfold Ag;rw[e];dsimp only;rw[zI (by rw[Pf (hb.ok b m)];decide),zT m]
 have eo:Am W num a 1 bs=.ok ([(i:Int)],a+1):=by
  unfold Am Ji;rw[zI (by decide),zT (.inl rfl),e];dsimp only;rw[zT m,Pk (i:=i) hb.nd hi]
 unfold uC;rw[ek];dsimp only;rw[eo];dsimp only;rw[show(GZ cnt 1 [(i:Int)]).toNat =0 from rfl,IX];rfl
inductive Hc (hs:List IE) (bs:List Str) (d:Nat):Nat->List Str->List Int->Prop
 |nil:Hc hs bs d 0 [] []
 |snoc {n:Nat} {ws ws':List Str} {zs zs':List Int}:Hc hs bs d n ws zs->HY hs bs d ws' zs'->Hc hs bs d (n+1) (ws++ws') (zs++zs')
theorem Np {f:Zr}: ∀(n m a:Nat) (bd:List Int),uD f (n+m) a bd=(match uD f n a bd with| .ok q=>uD f m q.1 q.2| .error e=>.error e)
 |0,m,a,bd=>by rw[Nat.zero_add];rfl
 |n+1,m,a,bd=>by
  rw[show n+1+m=(n+m)+1 by lia];rw[uD,uD];cases f a bd with
  |error e=>rfl
  |ok q=>exact Np n m q.1 q.2
theorem Hc.read {n:Nat}{ws:List Str}{zs:List Int}(h:Hc hs bs d n ws zs): ∀W num cnt a bd,Fb W a ws->Agr hs num cnt->uD (uC W num cnt bs d) n a bd=.ok (a+ws.length,bd++zs):=by
 induction h with
 |nil=>intro W num cnt a bd _ _;rw[xI];rfl
 |@snoc n ws ws' zs zs' h r ih=>
  intro W num cnt a bd hw ag;obtain⟨h1,h2⟩:=hw.app;rw[Np,ih W num cnt a bd h1 ag];dsimp only;rw[uD,r W num cnt (a+ws.length) (bd++zs) h2 ag];dsimp only;rw[IX,zB,uU,yW]
def JV (hs:List IE)(bs:List Str)(k:Int)(ow:List Str)(on:List Int)(n:Nat):Prop:= ∀W num cnt a,Fb W a ow->Agr hs num cnt->Am W num a k bs=.ok (on,a+ow.length)/\GZ cnt k on=(n:Int)
theorem LL (hb:Su bs){j:Nat}{w:Str}(hj:kwW[j]? =some w){ow:List Str}{on:List Int}{n:Nat}(ho:JV hs bs (2+(j:Int)) ow on n){ws:List Str}{zs:List Int}(hp:Hc hs bs d n ws zs):
  HY hs bs (d+1) (w::(ow++ws)) ((2+(j:Int))::(on++zs)):=λW num cnt a bd hw ag=>by
 obtain⟨e,h1⟩:=hw.cons;obtain⟨h2,h3⟩:=h1.app;have m:=zX hj;have nb:w∉bs:=λz=>(FY (hb.ok w z)).2.2.2.2 m;have ei:kwW.idxOf w=j:=Pk (i:=j) (by decide+kernel) hj;have ek:Ag W a bs=.ok (2+(j:Int),a+1):=by
  unfold Ag;rw[e];dsimp only;rw[zI (by rw[Wq (yZ _ m)];decide),zI nb,zT m,ei]
 obtain⟨eo,ed⟩:=ho W num cnt (a+1) h2 ag;unfold uC;rw[ek];dsimp only;rw[eo];dsimp only;rw[ed,jG,hp.read W num cnt _ _ h3 ag,zK,zB];refine jB Except.ok (Prod.ext ?_ ?_)
 ·show a+1+ow.length+ws.length=a+(ow.length+ws.length+1);lia
 ·show bd++(2+(j:Int))::on++zs=bd++(2+(j:Int))::(on++zs)
  simp
theorem KR {k:Int}{n:Nat}(h5:k≠0/\k≠1/\k≠2/\k≠3/\k≠4/\k≠6)(hn:(if k=5 then 2 else(partsW[(k-7).toNat]?).getD 0)=(n:Int)):JV hs bs k [] [] n:=λW num cnt a _ _=>by
 obtain⟨h0,h1,h2,h3,h4,h6⟩:=h5;refine⟨?_,?_⟩
 ·unfold Am;rw[zI h0,zI (by lia),zI h3,zI h4,zI h6];rfl
 ·unfold GZ;rw[zI (by lia),zI h2,zI h3,zI h4];rw[<-hn]
  by_cases c:k=5
  ·rw[zT c,zT c]
  ·rw[zI c,zI c,zI h6]
theorem Mm (hb:Su bs){i:Nat}{b:Str}(hi:bs[i]? =some b):JV hs bs 2 [b] [(i:Int)] 1:=λW num cnt a hw ag=>by
 obtain⟨e,_⟩:=hw.cons;refine⟨?_,rfl⟩;unfold Am Ji;rw[zI (by decide),zT (.inr rfl),e];dsimp only;rw[zT (zX hi),Pk (i:=i) hb.nd hi];rfl
theorem HN {k:Int}{c:Int}(hk:k=3\/k=4)(h1:k-2<=c)(h2:c<=12):JV hs bs k [Bc c] [c] (c+k-3).toNat:=λW num cnt a hw ag=>by
 obtain⟨e,_⟩:=hw.cons;have hn:c.natAbs<10^60:=kZ (show c.natAbs<100 by lia) (by decide+kernel);have ok:qU (Bc c) 60=true:=Kn (k:=59) hn (by decide);have en:IB W a=.ok c:=by
  unfold IB;rw[e];dsimp only;rw[zT ok,PU (kZ hn (by decide+kernel))]
 rcases hk with rfl|rfl
 ·refine⟨?_,?_⟩
  ·unfold Am Eg;rw[zI (by decide),zI (by decide),zT rfl,en];dsimp only;rw[zI (by lia)];rfl
  ·show c=_;lia
 ·refine⟨?_,?_⟩
  ·unfold Am Eg;rw[zI (by decide),zI (by decide),zI (by decide),zT rfl,en];dsimp only;rw[zI (by lia)];rfl
  ·show 1+c=_;lia
theorem KS {i:Nat}{h:IE}(hi:hs[i]? =some h):JV hs bs 6 [h.1] [(i:Int)] h.2.2:=λW num cnt a hw ag=>by
 obtain⟨e,_⟩:=hw.cons;have ok:=ag.ok h (zX hi);refine⟨?_,?_⟩
 ·unfold Am Aq;rw[zI (by decide),zI (by decide),zI (by decide),zI (by decide),zT rfl,e];dsimp only;rw[zT ok.nm,ag.num i h hi];rfl
 ·show(cnt[((i:Int)).toNat]?).getD 0=_;rw[jG,ag.cnt i h hi];rfl
end
structure Et (w:Str):Prop where
 nf:w≠"fun"
 nw:w≠"with"
 ne:w.cps.toList≠[]
 nb: ∀c∈w.cps.toList,¬CS c
 sh:w.length<=61
theorem Mg {w:Str}(h: ∀c∈w.cps.toList,97<=c/\c<=122)(h0:1<=w.length):w.cps.toList≠[]/\ ∀c∈w.cps.toList,¬CS c:=by
 have hw:w.cps.toList.length=w.length:=yR;refine⟨λz=>?_,λc hc b=>?_⟩
 ·rw[z]at hw;have:([]:List Nat).length =0:=rfl;lia
 ·have:=h c hc
  rcases b with b|b<;>lia
theorem Ao {w:Str}(h:jL w=true):Et w:=by
 obtain⟨h1,h2,h3,h4,h5⟩:=FY h;obtain⟨a,b⟩:=Mg (KN h) h2;refine⟨λz=>h4 (z▸zO ..),λz=>h4 (z▸zQ _ (zO ..)),a,b,by lia⟩
theorem zDd: ∀w∈kwW,w≠"fun"/\w≠"with"/\w.length<=61:=by decide+kernel
theorem Ph {w:Str}(h:w∈kwW):Et w:=by
 obtain⟨a,b⟩:=Jd w (yZ _ h);obtain⟨c,d⟩:=Mg a b;obtain⟨e1,e2,e3⟩:=zDd w h;exact⟨e1,e2,c,d,e3⟩
theorem Km {n:Int}(hn:n.natAbs<10^60):Et (Bc n):=by
 have sg:=λc (h:c∈(Bc n).cps.toList)=>Uf h;have dl:=JN (k:=59) hn;have hw:(Bc n).cps.toList.length =(Bc n).length:=yR;have l:1<=(Bc n).cps.toList.length/\(Bc n).cps.toList.length<=61:=by
  obtain⟨c,r,ed,_⟩:=Iw n.natAbs
  rcases FZ n with⟨_,e⟩|⟨_,e⟩
  ·rw[e,ed,zK];rw[ed,zK]at dl;lia
  ·rw[e,zK];lia
 have nl: ∀{w:Str} {c:Nat},c∈w.cps.toList->97<=c->Bc n≠w:=λhc h z=>by
  have:=sg _ (z▸hc);lia
 refine⟨nl (w:="fun") (c:=102) (by decide) (by decide),nl (w:="with") (c:=119) (by decide) (by decide),λz=>by rw[z]at l;have:([]:List Nat).length =0:=rfl;lia,λc hc b=>?_,by lia⟩;have:=sg c hc
 rcases b with b|b<;>lia
abbrev Pg:=IE×List Str×List Int
def kG (x:Pg):List Str:=("fun":Str)::x.1.1::(x.1.2.1.take x.1.2.2++("with":Str)::(x.1.2.1.drop x.1.2.2++("is":Str)::x.2.1))
def wA (pr:List Pg):List Str:=(pr.map kG).flatten
def An (pr:List Pg):List (Str×List Str):=pr.map λx=>(x.1.1,x.1.2.1)
def EH (pr:List Pg):List Int:=(pr.map λx=>[(x.1.2.2:Int),(x.1.2.1.length:Int)]).flatten
def vT (pr:List Pg):List Int:=(pr.map λx=>x.2.2).flatten
structure WX (hs:List IE)(x:Pg):Prop where
 hd:Xd x.1
 rd:HY hs x.1.2.1 10 x.2.1 x.2.2
 wd: ∀w∈x.2.1,Et w
structure PgW (x:Pg):Prop where
 hd:Xd x.1
 wd: ∀w∈x.2.1,Et w
structure Zm (pr:List Pg):Prop where
 all: ∀x∈pr,WX (pr.map (·.1)) x
 nd:(pr.map λx=>x.1.1).Nodup
 ne:pr≠[]
 few:pr.length<=16
 first: ∀x,pr[0]? =some x->x.1.2.2=0
def zCz (r:List Str)(f:Int)(acc:List (Str×Int)):List (Str×Int):=match r with|[]=>acc|n::_=>if(jT acc n).isSome then acc else acc++[(n,f)]
theorem Ko (w:Str)(r:List Str)(f:Int)(acc:List (Str×Int)):IC (w::r) f acc=if w="fun" then IC r (f+1) (zCz r f acc)else IC r f acc:=by
 cases r<;>rfl
def Zq (u:List Str):Prop:= ∀w∈u,w≠"fun"
theorem NA: ∀(u R:List Str) (f:Int) (acc:List (Str×Int)),Zq u->IC (u++R) f acc=IC R f acc
 |[],R,f,acc,_=>rfl
 |w::u,R,f,acc,h=>by
  rw[jD,Ko,zI (h w (zO ..))];exact NA u R f acc (λx hx=>h x (zQ _ hx))
theorem Uk {x:Pg}(ok:PgW x):Zq (x.1.1::(x.1.2.1.take x.1.2.2++("with":Str)::(x.1.2.1.drop x.1.2.2++("is":Str)::x.2.1))):=λw hw=>by
 have bx: ∀b∈x.1.2.1,b≠"fun":=λb hb=>(Ao (ok.hd.bx.ok b hb)).nf
 rcases List.mem_cons.mp hw with z|hw
 ·rw[z];exact(Ao ok.hd.nm).nf
 rcases List.mem_append.mp hw with z|hw
 ·exact bx w (wR z)
 rcases List.mem_cons.mp hw with z|hw
 ·rw[z];decide
 rcases List.mem_append.mp hw with z|hw
 ·exact bx w (uR z)
 rcases List.mem_cons.mp hw with z|hw
 ·rw[z];decide
 ·exact(ok.wd w hw).nf
def Wg:List Pg->Int->List (Str×Int)
 |[],_=>[]
 |x::r,f=>(x.1.1,f)::Wg r (f+1)
theorem Me {acc m:List (Str×Int)}{x:Str}(h:jT acc x=none):jT (acc++m) x=jT m x:=by
 induction acc with
 |nil=>rfl
 |cons p r ih=>
  unfold jT at h;split at h
  ·cases h
  ·rename_i c;rw[jD,jT,zI c];exact ih h
theorem Nz: ∀(pr:List Pg) (f:Int) (acc:List (Str×Int)),(∀x∈pr,PgW x)->(pr.map λx=>x.1.1).Nodup->(∀x∈pr,jT acc x.1.1=none)->IC (wA pr) f acc=acc++Wg pr f
 |[],f,acc,_,_,_=>by rw[show wA []=[]from rfl,show Wg [] f=[]from rfl,xI];rfl
 |x::r,f,acc,ok,nd,fr=>by
  have okx:=ok x (zO ..);rw[yQ,DZ]at nd;show IC (kG x++wA r) f acc=_;unfold kG;rw[jD,Ko,zT rfl];rw[jD];unfold zCz;dsimp only;rw[fr x (zO ..)];show IC (x.1.1::((x.1.2.1.take x.1.2.2++("with":Str)::(x.1.2.1.drop x.1.2.2++("is":Str)::x.2.1))++wA r)) (f+1) (acc++[(x.1.1,f)])=_;rw[<-jD,NA _ _ _ _ (Uk okx),Nz r (f+1) _ (λy hy=>ok y (zQ _ hy)) nd.2 ?_,yW]
  ·rfl
  ·intro y hy;rw[Me (fr y (zQ _ hy)),jT,zI]
   ·rfl
   ·intro z;have z':x.1.1=y.1.1:=z;exact nd.1 (z'▸List.mem_map.mpr ⟨y,hy,rfl⟩)
theorem Gk (w:Str)(r:List Str)(n:Nat):BX (w::r) n=((if w="with" then(n:Int)else(BX r (n+1)).1),if w="fun" then((if w="with" then(n:Int)else(BX r (n+1)).1)-n-2)::(BX r (n+1)).2 else(BX r (n+1)).2):=rfl
def zBk (u:List Str):Prop:= ∀w∈u,w≠"fun"/\w≠"with"
theorem Kw: ∀(u R:List Str) (n:Nat),zBk u->BX (u++R) n=BX R (n+u.length)
 |[],R,n,_=>rfl
 |w::u,R,n,h=>by
  obtain⟨h1,h2⟩:=h w (zO ..);rw[jD,Gk,zI h2,zI h1,Kw u R (n+1) (λx hx=>h x (zQ _ hx)),zK,show n+1+u.length=n+(u.length+1)by lia]
theorem UD {x:Pg}(ok:PgW x)(R:List Str)(n:Nat):(BX (kG x++R) n).2=(x.1.2.2:Int)::(BX R (n+(kG x).length)).2:=by
 have nb: ∀b∈x.1.2.1,b≠"fun"/\b≠"with":=λb hb=>⟨(Ao (ok.hd.bx.ok b hb)).nf,(Ao (ok.hd.bx.ok b hb)).nw⟩;have nn:zBk (x.1.1::x.1.2.1.take x.1.2.2):=λw hw=>by
  rcases List.mem_cons.mp hw with z|z
  ·rw[z];exact⟨(Ao ok.hd.nm).nf,(Ao ok.hd.nm).nw⟩
  ·exact nb w (wR z)
 have nt:zBk (x.1.2.1.drop x.1.2.2++("is":Str)::x.2.1):=λw hw=>by
  rcases List.mem_append.mp hw with z|hw
  ·exact nb w (uR z)
  rcases List.mem_cons.mp hw with z|hw
  ·rw[z];exact⟨by decide,by decide⟩
  ·exact⟨(ok.wd w hw).nf,(ok.wd w hw).nw⟩
 have el:kG x++R=("fun":Str)::((x.1.1::x.1.2.1.take x.1.2.2)++("with":Str)::((x.1.2.1.drop x.1.2.2++("is":Str)::x.2.1)++R)):=by
  unfold kG
  simp
 have lt:(x.1.1::x.1.2.1.take x.1.2.2).length =x.1.2.2+1:=by
  rw[zK,yJ,uI ok.hd.pb]
 have ll:(kG x).length =1+(x.1.2.2+1)+1+(x.1.2.1.drop x.1.2.2++("is":Str)::x.2.1).length:=by
  have:=jB List.length (show kG x=("fun":Str)::((x.1.1::x.1.2.1.take x.1.2.2)++("with":Str)::(x.1.2.1.drop x.1.2.2++("is":Str)::x.2.1))by unfold kG;simp);rw[this,zK,zB,lt,zK];lia
 rw[el,Gk,zT rfl,zI (show ¬(("fun":Str)="with")by decide),Kw _ _ _ nn,Gk,zT rfl,zI (show ¬(("with":Str)="fun")by decide),Kw _ _ _ nt,lt,ll];rw[show((n+1+(x.1.2.2+1):Nat):Int)-(n:Int)-2=(x.1.2.2:Int)by lia]
 ·rw[show n+1+(x.1.2.2+1)+1+(x.1.2.1.drop x.1.2.2++("is":Str)::x.2.1).length =n+(1+(x.1.2.2+1)+1+(x.1.2.1.drop x.1.2.2++("is":Str)::x.2.1).length)by lia]
theorem Og: ∀(pr:List Pg) (n:Nat),(∀x∈pr,PgW x)->(BX (wA pr) n).2=pr.map λx=>(x.1.2.2:Int)
 |[],n,_=>rfl
 |x::r,n,ok=>by
  show(BX (kG x++wA r) n).2=_;rw[UD (ok x (zO ..)),Og r _ (λy hy=>ok y (zQ _ hy)),yQ]
abbrev Prs:=List (Int×Int)
def jmp (rs:Prs)(i:Nat):Prop:= ∃n,rs[i]? =some (4,n)
instance (rs:Prs)(i:Nat):Decidable (jmp rs i):=
 match h:rs[i]? with
 |none=>isFalse fun⟨n,e⟩=>by rw[h]at e;cases e
 |some (op,n)=>if e:op=4 then isTrue ⟨n,by rw[h,e]⟩else isFalse fun⟨m,z⟩=>by rw[h]at z;cases z;exact e rfl
def stp (rs:Prs)(i:Nat):Nat:=match rs[i]? with
 |some (op,n)=>if op=4 then n.toNat else i
 |none=>i
def its (rs:Prs):Nat->Nat->Nat
 |0,i=>i
 |k+1,i=>stp rs (its rs k i)
inductive Out where
 |go (pc:Nat) (held:List Int) (br:Int)
 |bad (w:Str) (n:Int)
 |done (v:Int)
def pop (held:List Int)(f:List Int->Int->Out):Out:=match held.getLast? with
 |none=>.bad "stray" 0
 |some v=>f held.dropLast v
structure Ads where
 (m dm hd sp rw r0 r1 bd d dd bx hl:Addr)
inductive Ro where
 |m|bd|hd|sp|rw
 |row (i:Nat)
 |d (i:Nat)
 |bx (i:Nat)
 |hl (i:Nat)
structure Fr where
 pc:Nat
 bx:List Int
 hl:List Int
structure MS where
 rows:List (List Int)
 frs:List Fr
 br:Int
 va:Int
structure Pl where
 ad:Ro->Addr
 dd:Nat->Addr
 dm:Addr
 uh:List V
 us:List V
def MS.f (s:MS)(i:Nat):Fr:=s.frs.getD i ⟨0,[],[]⟩
def MG (CM:Addr)(A:Pl)(br va:Int):HO:=.ins CM A.dm [("heads",.ref (A.ad .hd)),("steps",.ref (A.ad .sp)),("rows",.ref (A.ad .rw)),("breaths",.int br),("being_done",.ref (A.ad .bd)),("value",.int va)]
def DG (CD:Addr)(A:Pl)(i:Nat)(pc:Int):HO:=.ins CD (A.dd i) [("at",.int pc),("boxes",.ref (A.ad (.bx i))),("held",.ref (A.ad (.hl i)))]
def bdL (A:Pl)(n:Nat):List V:=(List.range n).map λi=>V.ref (A.ad (.d i))
def rwL (A:Pl)(n:Nat):List Addr:=(List.range n).map λi=>A.ad (.row i)
def cont (CM CD:Addr)(A:Pl)(s:MS):Ro->HO
 | .m=>MG CM A s.br s.va
 | .bd=>.lst (bdL A s.frs.length)
 | .hd=>.lst A.uh
 | .sp=>.lst A.us
 | .rw=>.lst ((rwL A s.rows.length).map V.ref)
 | .row i=>.lst ((s.rows.getD i []).map V.int)
 | .d i=>DG CD A i (s.f i).pc
 | .bx i=>.lst ((s.f i).bx.map V.int)
 | .hl i=>.lst ((s.f i).hl.map V.int)
def Vb (v:Int):Prop:=v.natAbs<2^2000
abbrev Hn:=Int×List Int
abbrev Zj:=List (Nat×Int)
def zFy:Nd->Hn
 | .mk k _ own _=>(k,own)
def zFp:Nd->Nat
 | .mk _ p _ _=>p
def zDh (xs:List Hn):List Int:=xs.flatMap λx=>x.1::x.2
def hns (n:Nd):List Hn:=(pre n).map zFy
inductive Xk (hs:DO):Zj->List Hn->Zj->Prop where
 |nil {S:Zj}:Xk hs S [] S
 |cons {d:Nat} {b k:Int} {own:List Int} {r:Zj} {xs:List Hn} {S:Zj} (k0:0<=k) (k1:k<=19) (f:HZ hs b k own) (h:Xk hs (List.replicate (Hk hs k own).toNat (d,b)++r) xs S):Xk hs ((d+1,b)::r) ((k,own)::xs) S
theorem Xk.append {hs:DO}{S S1 S2:Zj}{xs ys:List Hn}(h:Xk hs S xs S1)(g:Xk hs S1 ys S2):Xk hs S (xs++ys) S2:=by
 induction h with
 |nil=>exact g
 |cons k0 k1 f _ ih=>exact .cons k0 k1 f (ih g)
mutual
def zDk:Nd->Nat
 | .mk _ _ _ ps=>1+zDl ps
def zDl:List Nd->Nat
 |[]=>0
 |a::r=>max (zDk a) (zDl r)
end
mutual
def zEf (hs:DO)(b:Int):Nd->Prop
 | .mk k _ own ps=>0<=k/\k<=19/\HZ hs b k own/\ps.length=(Hk hs k own).toNat/\zEg hs b ps
def zEg (hs:DO)(b:Int):List Nd->Prop
 |[]=>True
 |a::r=>zEf hs b a/\zEg hs b r
end
structure Ctx (hs:DO)(S0 R:Zj)(all:List Hn)(p0 i:Nat)(m:Nd)(e:Nat)(b:Int):Prop where
 ex: ∃X Y r,all=X++(hns m++Y)/\X.length=i/\Xk hs S0 X ((e,b)::r)/\Xk hs r Y R/\zFp m=p0+(zDh X).length
 fit:zEf hs b m
 dep:zDk m<=e
theorem Ctx.before {hs:DO}{S0 R1 R:Zj}{Z all:List Hn}{p0 i:Nat}{m:Nd}{e:Nat}{b:Int}(c:Ctx hs S0 R1 all p0 i m e b)(h:Xk hs R1 Z R):Ctx hs S0 R (all++Z) p0 i m e b:=by
 obtain⟨⟨X,Y,r,e1,e2,e3,e4,e5⟩,f,d⟩:=c;exact⟨⟨X,Y++Z,r,by rw[e1,yW,yW],e2,e3,e4.append h,e5⟩,f,d⟩
structure ES where
 rows:List (List Int)
 br:Int
 bx:List Int
 ct:Nat
inductive ER where
 |val (v:Int) (s:ES)
 |bad (w:Str) (n:Int) (rows:List (List Int)) (ct:Nat×Int)
mutual
def DI (hs:DO)(b:Int):Nat->Tr->Prop
 |0,_=>False
 |n+1,.mk k own ps=>0<=k/\k<=19/\HZ hs b k own/\ps.length=(Hk hs k own).toNat/\(∀v∈own,Vb v)/\EK hs b n ps
def EK (hs:DO)(b:Int):Nat->List Tr->Prop
 |_,[]=>True
 |n,a::r=>DI hs b n a/\EK hs b n r
end
section
variable {ns:List Int}{hs:DO}{b:Int}
theorem Nq {n:Nat}(ih: ∀(t:Tr) (p:Nat),DI hs b n t->Sub ns p (Df t)-> ∃nd,Ef ns hs b n p=.ok (nd,p+(Df t).length)/\bare nd=t):
  ∀(ps:List Tr) (p:Nat),EK hs b n ps->Sub ns p (AQ ps)-> ∃nds,EE (Ef ns hs b n) ps.length p=.ok (nds,p+(AQ ps).length)/\Bu nds=ps
 |[],p,_,_=>⟨[],rfl,rfl⟩
 |t::ps,p,f,s=>by
  unfold EK at f;have e:AQ (t::ps)=Df t++AQ ps:=rfl;rw[e]at s ⊢;obtain⟨s1,s2⟩:=Sub.append s;obtain⟨nd,e1,b1⟩:=ih t p f.1 s1;obtain⟨nds,e2,b2⟩:=Nq ih ps _ f.2 s2;refine⟨nd::nds,?_,?_⟩
  ·rw[zK];unfold EE;rw[e1];dsimp only;rw[e2];dsimp only;rw[zB,uU]
  ·show bare nd::Bu nds=_;rw[b1,b2]
theorem Qy: ∀(n:Nat) (t:Tr) (p:Nat),DI hs b n t->Sub ns p (Df t)-> ∃nd,Ef ns hs b n p=.ok (nd,p+(Df t).length)/\bare nd=t
 |0,t,p,f,_=>by unfold DI at f;exact f.elim
 |n+1,.mk k own ps,p,f,s=>by
  unfold DI at f;obtain⟨k0,k1,of,lp,_,fp⟩:=f;have e:Df (.mk k own ps)=(k::own)++AQ ps:=rfl;rw[e]at s ⊢;obtain⟨s1,s2⟩:=Sub.append (xs:=k::own) s;obtain⟨nds,e2,b2⟩:=Nq (Qy n) ps _ fp s2;refine⟨.mk k p own nds,?_,?_⟩
  ·unfold Ef;rw[AN s1.1 k0 k1];dsimp only;rw[XJ of s1.2];dsimp only;rw[show p+1+own.length=p+(k::own).length by rw[zK];lia,<-lp,e2];dsimp only;rw[zB,uU]
  ·show Tr.mk k own (Bu nds)=_;rw[b2]
theorem MC: ∀(fs:List Fn) (p:Nat),(∀f∈fs,DI hs f.1.2 10 f.2)->Sub ns p (Es fs)-> ∃nds,CQ ns hs (fs.map Prod.fst) p=.ok (nds,p+(Es fs).length)/\Bu nds=fs.map Prod.snd
 |[],p,_,_=>⟨[],rfl,rfl⟩
 |f::fs,p,h,s=>by
  have e:Es (f::fs)=Df f.2++Es fs:=FA ..;rw[e]at s ⊢;obtain⟨s1,s2⟩:=Sub.append s;obtain⟨nd,e1,b1⟩:=Qy 10 f.2 p (h f (zO ..)) s1;obtain⟨nds,e2,b2⟩:=MC fs _ (λg hg=>h g (zQ _ hg)) s2;refine⟨nd::nds,?_,?_⟩
  ·rw[yQ];unfold CQ;rw[e1];dsimp only;rw[e2];dsimp only;rw[zB,uU]
  ·show bare nd::Bu nds=_;rw[b1,b2]<;>rfl
theorem HQ: ∀fs:List Fn,Pn fs=flat (fs.map Prod.fst)
 |[]=>rfl
 |f::fs=>by
  show f.1.1::f.1.2::Pn fs=f.1.1::f.1.2::flat (fs.map Prod.fst);rw[HQ fs]
theorem Sv: ∀fs:List Fn,(fs.map Prod.fst).zip (fs.map Prod.snd)=fs
 |[]=>rfl
 |f::fs=>by
  show(f.1,f.2)::(fs.map Prod.fst).zip (fs.map Prod.snd)=_;rw[Sv fs]
theorem zAs {fs:List Fn}(g:Lv (fs.map Prod.fst))(h: ∀f∈fs,DI (fs.map Prod.fst) f.1.2 10 f.2): ∃nds,AR (wr fs)=.ok (fs.map Prod.fst,nds)/\Td (fs.map Prod.fst,nds)=fs:=by
 have lm:(fs.map Prod.fst).length =fs.length:=zD ..;have ew:wr fs=((fs.length:Int)::flat (fs.map Prod.fst))++Es fs:=by
  unfold wr;rw[HQ]<;>rfl
 have s:=Sub.self (wr fs);rw[ew]at s ⊢;obtain⟨s1,s2⟩:=Sub.append (xs:=(fs.length:Int)::flat (fs.map Prod.fst)) s;have l:0+((fs.length:Int)::flat (fs.map Prod.fst)).length =1+2*(fs.map Prod.fst).length:=by rw[zK,Mw];lia
 rw[l]at s2;obtain⟨nds,e,bb⟩:=MC (hs:=fs.map Prod.fst) fs _ h s2;refine⟨nds,?_,?_⟩
 ·have g1:=g.lo;have g2:=g.hi;have eh:Bd (((fs.length:Int)::flat (fs.map Prod.fst))++Es fs)=.ok (fs.map Prod.fst):=by
   unfold Bd;rw[AN s1.1 (by lia) (by lia)];dsimp only;rw[jG];have:=g.heads s1.2;rw[lm]at this;exact this
  unfold AR;rw[eh];dsimp only;rw[e];refine zI ?_;dsimp only;rw[zB,zK,Mw];lia
 ·show(fs.map Prod.fst).zip (Bu nds)=fs;rw[bb];exact Sv fs
end
end L2
namespace L2
open PySem PySem.NumText PySem.W
theorem HU (xs:List Nat)(c:Nat):digitsVal (xs++[c])=digitsVal xs*10+(c-48):=by
 unfold digitsVal;rw[List.foldl_append];rfl
theorem Kt: ∀(n:Nat) (xs:List Nat),xs.length<=n->xs≠[]->(∀c∈xs,48<=c/\c<=57)->(xs.length=1\/xs[0]?≠some 48)->HS (digitsVal xs)=xs
 |0,xs,hl,h0,_,_=>absurd (List.length_eq_zero_iff.mp (Nat.le_zero.mp hl)) h0
 |n+1,xs,hl,h0,hc,hh=>by
  rcases Dk xs with rfl|⟨ys,c,rfl⟩
  ·exact absurd rfl h0
  rw[Dl]at *
  have cc:=hc c (by simp);rw[HU]
  by_cases e:ys=[]
  ·subst e;have:digitsVal []=0:=rfl;rw[this,Iv (by lia)];show[48+(0*10+(c-48))]=[c];rw[show 48+(0*10+(c-48))=c by lia]
  ·have hl':ys.length<=n:=by rw[zB]at hl;have:[c].length =1:=rfl;lia
   have hy:ys[0]?≠some 48:=by
    rcases hh with z|z
    ·rw[zB]at z;have:[c].length =1:=rfl;exact absurd (List.length_eq_zero_iff.mp (by lia)) e
    ·rw[uG (List.length_pos_iff.mpr e)]at z;exact z
   have ih:=Kt n ys hl' e (λx hx=>hc x (by simp[hx])) (.inr hy);have p:digitsVal ys≠0:=λz=>by
    rw[z]at ih;rw[<-ih]at hy;exact hy (by decide)
   rw[Lu (by lia),show(digitsVal ys*10+(c-48)) / 10=digitsVal ys by lia,ih,show 48+(digitsVal ys*10+(c-48)) % 10=c by lia]
theorem Gj: ∀(n:Nat) (xs:List Nat),xs.length<=n->(∀c∈xs,48<=c/\c<=57)->digitsVal xs<10^n
 |0,xs,hl,_=>by rw[List.length_eq_zero_iff.mp (Nat.le_zero.mp hl)];decide
 |n+1,xs,hl,hc=>by
  rcases Dk xs with rfl|⟨ys,c,rfl⟩
  ·exact Nat.pos_of_ne_zero (by simp)
  rw[Dl]at *
  have cc:=hc c (by simp);have hl':ys.length<=n:=by rw[zB]at hl;have:[c].length =1:=rfl;lia
  have ih:=Gj n ys hl' (λx hx=>hc x (by simp[hx]));rw[HU,Nat.pow_succ];lia
theorem SD {x y:Str}(h:x.cps.toList=y.cps.toList):x=y:=by
 cases x;cases y;exact jB Str.mk (Array.ext' h)
theorem LY {x:Str}(h:qU x 60=true):x=Bc (vJ x)/\(vJ x).natAbs <10^60:=by
 obtain⟨h1,h2,h3⟩:=Iq h;have h4:x="0"\/ ¬(wB x).cps.toList[0]? =some 48:=by
  unfold qU at h;rw[jF,Bool.or_eq_true_iff]at h
  rcases h.2 with z|z
  ·exact .inl (zZ z)
  ·refine .inr λy=>?_;rw[zY y]at z;cases z
 have hl:(wB x).cps.toList.length =(wB x).length:=yR;have ne:(wB x).cps.toList≠[]:=λz=>by rw[z]at hl;have:([]:List Nat).length =0:=rfl;lia
 by_cases c:x.cps.toList[0]? =some 45
 ·obtain⟨r,er⟩: ∃r,x.cps.toList=45::r:=by
   cases e:x.cps.toList with
   |nil=>rw[e]at c;cases c
   |cons a r=>rw[e]at c;cases c;exact⟨r,rfl⟩
  have ef:(wB x).cps.toList =r:=by rw[(AT er).1]
  rw[ef]at h3 ne hl h4;have hx:x.cps.toList.length=x.length:=yR;rw[er,zK]at hx;have ev:vJ x= -(digitsVal r:Int):=by
   unfold vJ;rw[intText_neg er h3 ne (by lia)];rfl
  have h5: ¬r[0]? =some 48:=by
   rcases h4 with z|z
   ·rw[z]at er;exact absurd (jB (·[0]?) er) (by simp;decide)
   ·exact z
  have lt:=Gj 60 r (by lia) h3;have bk:=Kt r.length r (zW _) ne h3 (.inr h5);have nz:digitsVal r≠0:=λz=>by
   rw[z]at bk;rw[<-bk]at h5;exact h5 (by decide)
  rw[ev];refine⟨SD ?_,by rw[Int.natAbs_neg,vP];exact lt⟩
  rcases FZ (-(digitsVal r:Int))with⟨z,_⟩|⟨_,z⟩
  ·lia
  ·rw[z,er,Int.natAbs_neg,vP,bk]
 ·have ef:=AS c;rw[ef]at h2 h3 ne hl h4;have ev:vJ x=(digitsVal x.cps.toList:Int):=by
   unfold vJ;rw[EO h3 ne (by lia)];rfl
  have lt:=Gj 60 x.cps.toList (by lia) h3;rw[ev];refine⟨SD ?_,by rw[vP];exact lt⟩;have bk:HS (digitsVal x.cps.toList)=x.cps.toList:=by
   refine Kt _ _ (zW _) ne h3 ?_
   rcases h4 with z|z
   ·left;rw[z];decide
   ·exact .inr z
  rcases FZ (digitsVal x.cps.toList:Int)with⟨_,z⟩|⟨z,_⟩
  ·rw[z,vP,bk]
  ·lia
def FX (nm bs:List Str)(k n:Int):Str:=if k=1\/k=2 then bs.getD n.toNat "" else if k=6 then nm.getD n.toNat "" else Bc n
def JX (nm bs:List Str)(k:Int)(own:List Int):List Str:=(if k=0\/k=1 then[]else[kwW.getD (k-2).toNat ""])++own.map (FX nm bs k)
mutual
def BD (nm bs:List Str):Tr->List Str
 | .mk k own ps=>JX nm bs k own++BY nm bs ps
def BY (nm bs:List Str):List Tr->List Str
 |[]=>[]
 |a::r=>BD nm bs a++BY nm bs r
end
mutual
def UO:Tr->Prop
 | .mk _ own ps=>(∀v∈own,v.natAbs<10^60)/\MF ps
def MF:List Tr->Prop
 |[]=>True
 |a::r=>UO a/\MF r
end
structure YL (nm:List Str)(hs:DO)(num:List (Str×Int))(cnt:List Int):Prop where
 num: ∀(x:Str) (f:Int),jT num x=some f->0<=f/\f.toNat<hs.length/\nm[f.toNat]? =some x
 cnt: ∀i:Nat,i<hs.length->cnt[i]? =some (hs.getD i (0,0)).1
theorem zEw {n:Int}(h:n.natAbs<10^60):Vb n:=kZ h (by decide+kernel)
theorem getD_some {bs:List Str}{i:Nat}{w:Str}(h:bs[i]? =some w):bs.getD i ""=w:=by
 rw[xW,h];rfl
theorem CK {W:List Str}{a:Nat}{w:Str}(h:W[a]? =some w):Fb W a [w]:=by
 have hl:=EI h;refine⟨W.drop (a+1),?_⟩;rw[xQ hl];have:W[a]=w:=by
  have:=zE hl;rw[h]at this;exact(jE this).symm
 rw[this];rfl
theorem Fs {W:List Str}{a:Nat}:Fb W a []:=⟨_,rfl⟩
theorem Fb.join {W:List Str}{a:Nat}{u v:List Str}(h:Fb W a u)(g:Fb W (a+u.length) v):Fb W a (u++v):=by
 obtain⟨x,e⟩:=h;obtain⟨y,e2⟩:=g;rw[<-List.drop_drop,e,List.drop_left]at e2;exact⟨y,by rw[e,e2,yW]⟩
section
variable {W bs nm:List Str}{hs:DO}{num:List (Str×Int)}{cnt:List Int}
theorem Ga {a:Nat}{n:Int}(h:IB W a=.ok n):W[a]? =some (Bc n)/\n.natAbs<10^60:=by
 unfold IB at h;split at h
 ·rename_i w e;split at h
  ·rename_i c;cases h;obtain⟨h1,h2⟩:=LY c;rw[<-h1];exact⟨e,h2⟩
  ·cases h
 ·cases h
theorem Oi {a n:Nat}(h:Ji W a bs=.ok n): ∃w,W[a]? =some w/\bs[n]? =some w:=by
 unfold Ji at h;split at h
 ·rename_i w e;split at h
  ·rename_i m;cases h;refine⟨w,e,?_⟩;rw[zE (List.idxOf_lt_length_iff.mpr m),EU]
  ·cases h
 ·cases h
theorem Dq {a:Nat}{l n:Int}(h:Eg W a l=.ok n):W[a]? =some (Bc n)/\n.natAbs<10^60/\l<=n/\n<=12:=by
 have:=Md h;unfold Eg at h;split at h
 ·rename_i m e;split at h
  ·cases h
  ·cases h;exact⟨(Ga e).1,(Ga e).2,this.2.1,this.2.2⟩
 ·cases h
theorem Px (ag:YL nm hs num cnt){a:Nat}{n:Int}(h:Aq W num a=.ok n): ∃w,W[a]? =some w/\0<=n/\n.toNat<hs.length/\nm[n.toNat]? =some w:=by
 unfold Aq at h;split at h
 ·rename_i w e;split at h
  ·split at h
   ·rename_i e2;cases h;exact⟨w,e,ag.num w n e2⟩
   ·cases h
  ·cases h
 ·cases h
theorem TR (ag:YL nm hs num cnt)(hb:bs.length<=12)(hh:hs.length<=16){a:Nat}{k:Int}{q:List Int×Nat}(k0:0<=k)(k1:k<=19)(h:Am W num a k bs=.ok q):HZ hs (bs.length:Int) k q.1/\Fb W a (q.1.map (FX nm bs k))/\q.2=a+q.1.length/\(∀v∈q.1,v.natAbs<10^60)/\GZ cnt k q.1=Hk hs k q.1:=by
 unfold Am at h;split at h
 ·rename_i c;subst c;split at h
  ·rename_i n e;cases h;obtain⟨e1,e2⟩:=Ga e;exact⟨.inl ⟨rfl,n,rfl⟩,CK e1,rfl,λv hv=>by rw[List.mem_singleton.mp hv];exact e2,rfl⟩
  ·cases h
 split at h
 ·rename_i c0 c;split at h
  ·rename_i n e;cases h;obtain⟨w,e1,e2⟩:=Oi e;have hl:=(Tp e).2;refine⟨.inr (.inl ⟨c,(n:Int),rfl,by lia,by lia⟩),?_,rfl,λv hv=>by rw[List.mem_singleton.mp hv];exact kO (show _<=100000 by lia) (by decide+kernel),?_⟩
   ·show Fb W a [FX nm bs k (n:Int)];unfold FX;rw[zT c,jG,getD_some e2];exact CK e1
   ·unfold GZ Hk
    rcases c with rfl|rfl<;>rfl
  ·cases h
 split at h
 ·rename_i c0 c1 c;subst c;split at h
  ·rename_i n e;cases h;obtain⟨e1,e2,e3,e4⟩:=Dq e;exact⟨.inr (.inr (.inl ⟨rfl,n,rfl,e3,e4⟩)),CK e1,rfl,λv hv=>by rw[List.mem_singleton.mp hv];exact e2,rfl⟩
  ·cases h
 split at h
 ·rename_i c0 c1 c2 c;subst c;split at h
  ·rename_i n e;cases h;obtain⟨e1,e2,e3,e4⟩:=Dq e;exact⟨.inr (.inr (.inr (.inl ⟨rfl,n,rfl,e3,e4⟩))),CK e1,rfl,λv hv=>by rw[List.mem_singleton.mp hv];exact e2,rfl⟩
  ·cases h
 split at h
 ·rename_i c0 c1 c2 c3 c;subst c;split at h
  ·rename_i n e;cases h;obtain⟨w,e1,e2,e3,e4⟩:=Px ag e;refine⟨.inr (.inr (.inr (.inr (.inl ⟨rfl,n,rfl,e2,by lia⟩)))),?_,rfl,λv hv=>by rw[List.mem_singleton.mp hv];exact kO (show _<=100000 by lia) (by decide+kernel),?_⟩
   ·show Fb W a [FX nm bs 6 n];unfold FX;rw[zI (by decide),zT rfl,getD_some e4];exact CK e1
   ·show(cnt[n.toNat]?).getD 0=(hs.getD n.toNat (0,0)).1;rw[ag.cnt _ e3];rfl
  ·cases h
 ·rename_i c0 c1 c2 c3 c4;cases h;refine⟨.inr (.inr (.inr (.inr (.inr ⟨by lia,rfl⟩)))),Fs,rfl,(λv hv=>(nomatch hv)),?_⟩;unfold GZ Hk;rw[zI (by lia),zI (by lia),zI c2,zI c3,zI (show ¬(k=0\/k=1)by lia),zI (show ¬k=2 by lia),zI c2,zI c3,zI c4,zI c4];rw[xW];rfl
theorem Mj {a:Nat}{q:Int×Nat}(h:Ag W a bs=.ok q):0<=q.1/\q.1<=19/\Fb W a (if q.1=0\/q.1=1 then[]else[kwW.getD (q.1-2).toNat ""])/\q.2=a+(if q.1=0\/q.1=1 then[]else[kwW.getD (q.1-2).toNat ""]:List Str).length:=by
 have hl:=(Mi h).2;unfold Ag at h;split at h
 ·rename_i w e;split at h
  ·cases h;exact⟨Int.le_refl _,(show(0:Int)<=19 by decide),Fs,rfl⟩
  split at h
  ·cases h;exact⟨(show(0:Int)<=1 by decide),(show(1:Int)<=19 by decide),Fs,rfl⟩
  split at h
  ·rename_i m;cases h;have hm:kwW.idxOf w<kwW.length:=List.idxOf_lt_length_iff.mpr m;have l:kwW.length=18:=rfl;have e2:kwW[kwW.idxOf w]? =some w:=by rw[zE hm,EU]
   refine⟨by show 0<=2+(kwW.idxOf w:Int);lia,by show 2+(kwW.idxOf w:Int)<=19;lia,?_,?_⟩
   ·rw[zI (by show ¬(2+(kwW.idxOf w:Int)=0\/2+(kwW.idxOf w:Int)=1);lia)];show Fb W a [kwW.getD (2+(kwW.idxOf w:Int)-2).toNat ""];rw[show(2+(kwW.idxOf w:Int)-2).toNat =kwW.idxOf w by lia,getD_some e2];exact CK e
   ·rw[zI (by show ¬(2+(kwW.idxOf w:Int)=0\/2+(kwW.idxOf w:Int)=1);lia)];rfl
  ·cases h
 ·cases h
theorem NB (ag:YL nm hs num cnt)(hb:bs.length<=12)(hh:hs.length<=16): ∀(d a:Nat) (bd:List Int) (q:Nat×List Int),uC W num cnt bs d a bd=.ok q-> ∃t,DI hs (bs.length:Int) d t/\UO t/\q.2=bd++Df t/\Fb W a (BD nm bs t)/\q.1=a+(BD nm bs t).length
 |0,a,bd,q,h=>by cases h
 |d+1,a,bd,q,h=>by
  unfold uC at h;split at h
  ·cases h
  rename_i r er;split at h
  ·cases h
  rename_i s es;obtain⟨k0,k1,hk,ek⟩:=Mj er;obtain⟨o1,o2,o3,o4,o5⟩:=TR ag hb hh k0 k1 es;have key: ∀(n a:Nat) (bd:List Int) (q:Nat×List Int),uD (uC W num cnt bs d) n a bd=.ok q-> ∃ts:List Tr,ts.length=n/\EK hs (bs.length:Int) d ts/\MF ts/\q.2=bd++AQ ts/\Fb W a (BY nm bs ts)/\q.1=a+(BY nm bs ts).length:=by
   intro n
   induction n with
   |zero=>
    intro a bd q h;cases h;exact⟨[],rfl,by unfold EK;trivial,by unfold MF;trivial,by simp[AQ],Fs,rfl⟩
   |succ n ih=>
    intro a bd q h;rw[uD]at h;split at h
    ·rename_i u eu;obtain⟨t,f1,fs,f2,f3,f4⟩:=NB ag hb hh d a bd u eu;obtain⟨ts,g0,g1,gs,g2,g3,g4⟩:=ih u.1 u.2 q h;refine⟨t::ts,by rw[zK,g0],?_,?_,?_,?_,?_⟩
     ·unfold EK;exact⟨f1,g1⟩
     ·unfold MF;exact⟨fs,gs⟩
     ·rw[g2,f2];simp[AQ]
     ·show Fb W a (BD nm bs t++BY nm bs ts);rw[f4]at g3;exact f3.join g3
     ·show q.1=a+(BD nm bs t++BY nm bs ts).length;rw[zB,g4,f4,uU]
    ·cases h
  obtain⟨ts,g0,g1,gs,g2,g3,g4⟩:=key _ _ _ _ h;rw[o5]at g0;refine⟨.mk r.1 s.1 ts,?_,?_,?_,?_,?_⟩
  ·unfold DI;exact⟨k0,k1,o1,g0,λv hv=>zEw (o4 v hv),g1⟩
  ·unfold UO;exact⟨o4,gs⟩
  ·rw[g2];simp[Df]
  ·unfold BD JX;rw[ek]at o2;rw[o3,ek]at g3;refine(hk.join o2).join ?_;rw[zB,zD,<-uU];exact g3
  ·unfold BD JX;rw[g4,o3,ek,zB,zB,zD];lia
end
end L2
namespace L2
open PySem
abbrev Tt:=Str×List Str
def IW (nm:List Str)(n:Tt)(f:Fn):Pg:=((n.1,n.2,f.1.1.toNat),BD nm n.2 f.2,Df f.2)
def HK (ns:List Tt)(fs:List Fn):List Pg:=List.zipWith (IW (ns.map (·.1))) ns fs
structure YD (ns:List Tt)(fs:List Fn):Prop where
 len:ns.length=fs.length
 nm: ∀n∈ns,jL n.1=true/\Su n.2
 nd:(ns.map (·.1)).Nodup
 bx: ∀(i:Nat) (n:Tt) (f:Fn),ns[i]? =some n->fs[i]? =some f->f.1.2=(n.2.length:Int)
 good:Lv (fs.map Prod.fst)
 fit: ∀f∈fs,DI (fs.map Prod.fst) f.1.2 10 f.2
 sm: ∀f∈fs,UO f.2
section
variable {hs3:List IE}{bs nm:List Str}{hs:DO}
theorem JL {nm:List Str}{i:Nat}(h:i<nm.length):nm[i]? =some (nm.getD i ""):=by
 rw[xW,zE h];rfl
theorem Wr {k:Int}(h2:2<=k)(h19:k<=19):kwW[(k-2).toNat]? =some (kwW.getD (k-2).toNat ""):=JL (by show(k-2).toNat <18;lia)
theorem KM {d:Nat}(ih: ∀t,DI hs (bs.length:Int) d t->UO t->HY hs3 bs d (BD nm bs t) (Df t)): ∀(ts:List Tr) (n:Nat) (ws:List Str) (zs:List Int),Hc hs3 bs d n ws zs->EK hs (bs.length:Int) d ts->MF ts->Hc hs3 bs d (n+ts.length) (ws++BY nm bs ts) (zs++AQ ts)
 |[],n,ws,zs,h,_,_=>by simpa[BY,AQ]using h
 |t::ts,n,ws,zs,h,f,s=>by
  unfold EK at f;unfold MF at s;have:=KM ih ts (n+1) _ _ (h.snoc (ih t f.1 s.1)) f.2 s.2;have e1:ws++BY nm bs (t::ts)=ws++BD nm bs t++BY nm bs ts:=by rw[yW];rfl
  have e2:zs++AQ (t::ts)=zs++Df t++AQ ts:=by rw[yW];rfl
  rw[e1,e2,zK,show n+(ts.length+1)=n+1+ts.length by lia];exact this
theorem Ob (hn:nm=hs3.map (·.1))(hh:hs=hs3.map λh=>((h.2.2:Int),(h.2.1.length:Int)))(hb:Su bs): ∀(d:Nat) (t:Tr),DI hs (bs.length:Int) d t->UO t->HY hs3 bs d (BD nm bs t) (Df t)
 |0,t,f,_=>by unfold DI at f;exact f.elim
 |d+1,.mk k own ps,f,s=>by
  unfold DI at f;unfold UO at s;obtain⟨k0,k1,of,lp,_,fp⟩:=f;obtain⟨s1,s2⟩:=s;have pr:=KM (Ob hn hh hb d) ps 0 [] [] .nil fp s2;rw[Nat.zero_add,jV,jV]at pr;have fin:2<=k->JV hs3 bs k (own.map (FX nm bs k)) own ps.length->HY hs3 bs (d+1) (BD nm bs (.mk k own ps)) (Df (.mk k own ps)):=λh2 ho=>by
   have ek:2+(((k-2).toNat:Nat):Int)=k:=by lia
   have:=LL (hs:=hs3) (d:=d) hb (Wr h2 k1) (ow:=own.map (FX nm bs k)) (on:=own) (n:=ps.length) (by rw[ek];exact ho) pr;rw[ek]at this;have e:BD nm bs (.mk k own ps)=kwW.getD (k-2).toNat ""::(own.map (FX nm bs k)++BY nm bs ps):=by
    unfold BD JX;rw[zI (by lia)]
    simp
   rw[e];exact this
  rcases of with⟨rfl,n,rfl⟩|⟨hk,n,rfl,a,b⟩|⟨rfl,n,rfl,a,b⟩|⟨rfl,n,rfl,a,b⟩|⟨rfl,n,rfl,a,b⟩|⟨hk,rfl⟩
  ·have e0:ps=[]:=List.length_eq_zero_iff.mp lp;subst e0;exact Nh (s1 n (by simp))
  ·have hi:n.toNat<bs.length:=by lia
   have eb:=JL hi
   rcases hk with rfl|rfl
   ·have e0:ps=[]:=List.length_eq_zero_iff.mp lp;subst e0;have:=Ni (hs:=hs3) (d:=d) hb eb;rw[show((n.toNat:Nat):Int)=n by lia]at this;exact this
   ·have:=Mm (hs:=hs3) hb eb;rw[show((n.toNat:Nat):Int)=n by lia]at this;refine fin (by decide) ?_;rw[lp];exact this
  ·refine fin (by decide) ?_;rw[lp];have:=HN (hs:=hs3) (bs:=bs) (k:=3) (c:=n) (.inl rfl) (by lia) (by lia);rw[show(n+3-3).toNat =(Hk hs 3 [n]).toNat by show(n+3-3).toNat =n.toNat;lia]at this;exact this
  ·refine fin (by decide) ?_;rw[lp];have:=HN (hs:=hs3) (bs:=bs) (k:=4) (c:=n) (.inr rfl) (by lia) (by lia);rw[show(n+4-3).toNat =(Hk hs 4 [n]).toNat by show(n+4-3).toNat =(1+n).toNat;lia]at this;exact this
  ·have lh:hs.length=hs3.length:=by rw[hh,zD]
   have hi:n.toNat<hs3.length:=by lia
   have e3:hs3[n.toNat]? =some hs3[n.toNat]:=zE hi;have en:FX nm bs 6 n=hs3[n.toNat].1:=by
    unfold FX;rw[zI (by decide),zT rfl,hn];refine getD_some ?_;rw[zS,e3];rfl
   refine fin (by decide) ?_;rw[lp];have:=KS (bs:=bs) e3;rw[show((n.toNat:Nat):Int)=n by lia]at this;have ed:(Hk hs 6 [n]).toNat =hs3[n.toNat].2.2:=by
    show((hs.getD n.toNat (0,0)).1).toNat =_;rw[xW,hh,zS,e3];exact jG _
   rw[ed];show JV hs3 bs 6 [FX nm bs 6 n] [n] _;rw[en];exact this
  ·refine fin (by lia) ?_;refine KR (by lia) ?_;rw[lp];unfold Hk;rw[zI (show ¬(k=0\/k=1)by lia),zI (show ¬k=2 by lia),zI (show ¬k=3 by lia),zI (show ¬k=4 by lia)]
   by_cases c:k=5
   ·rw[zT c,zT c];rfl
   ·rw[zI c,zI c,zI (show ¬k=6 by lia)];have tab: ∀j:Fin 13,(partsW[j.1]?).getD 0=(((partsN.getD j.1 0).toNat:Nat):Int):=by decide
    exact tab ⟨(k-7).toNat,by lia⟩
theorem YY {k:Int}(h2:2<=k)(h19:k<=19):kwW.getD (k-2).toNat ""∈kwW:=zX (Wr h2 h19)
theorem TM (hm:nm.length=hs.length){k:Int}{own:List Int}(of:HZ hs (bs.length:Int) k own)(sm: ∀v∈own,v.natAbs<10^60): ∀v∈own,(∃b∈bs,FX nm bs k v=b)\/(∃b∈nm,FX nm bs k v=b)\/(FX nm bs k v=Bc v/\v.natAbs<10^60):=λv hv=>by
 rcases of with⟨rfl,n,rfl⟩|⟨hk,n,rfl,a,b⟩|⟨rfl,n,rfl,a,b⟩|⟨rfl,n,rfl,a,b⟩|⟨rfl,n,rfl,a,b⟩|⟨hk,rfl⟩
 ·exact .inr (.inr ⟨rfl,sm v hv⟩)
 ·have ev:=List.mem_singleton.mp hv;subst ev;refine .inl ⟨_,zX (JL (nm:=bs) (i:=v.toNat) (by lia)),?_⟩;unfold FX;rw[zT hk]
 ·exact .inr (.inr ⟨rfl,sm v hv⟩)
 ·exact .inr (.inr ⟨rfl,sm v hv⟩)
 ·have ev:=List.mem_singleton.mp hv;subst ev;exact .inr (.inl ⟨_,zX (JL (nm:=nm) (i:=v.toNat) (by lia)),rfl⟩)
 ·cases hv
theorem Xl (hm:nm.length=hs.length)(hb: ∀b∈bs,jL b=true)(hn: ∀b∈nm,jL b=true){k:Int}{own:List Int}(k0:0<=k)(k1:k<=19)(of:HZ hs (bs.length:Int) k own)(sm: ∀v∈own,v.natAbs<10^60): ∀w∈JX nm bs k own,Et w:=λw hw=>by
 unfold JX at hw
 rcases List.mem_append.mp hw with z|z
 ·split at z
  ·cases z
  ·rename_i c;rw[List.mem_singleton.mp z];exact Ph (YY (by lia) k1)
 ·obtain⟨v,hv,rfl⟩:=List.mem_map.mp z
  rcases TM hm of sm v hv with⟨b,m,e⟩|⟨b,m,e⟩|⟨e,h⟩
  ·rw[e];exact Ao (hb b m)
  ·rw[e];exact Ao (hn b m)
  ·rw[e];exact Km h
theorem PM {d:Nat}(ih: ∀t,DI hs (bs.length:Int) d t->UO t-> ∀w∈BD nm bs t,Et w): ∀ts:List Tr,EK hs (bs.length:Int) d ts->MF ts-> ∀w∈BY nm bs ts,Et w
 |[],_,_,w,hw=>nomatch hw
 |t::ts,f,s,w,hw=>by
  unfold EK at f;unfold MF at s
  rcases List.mem_append.mp (show w∈BD nm bs t++BY nm bs ts from hw)with z|z
  ·exact ih t f.1 s.1 w z
  ·exact PM ih ts f.2 s.2 w z
theorem WE (hm:nm.length=hs.length)(hb: ∀b∈bs,jL b=true)(hn: ∀b∈nm,jL b=true): ∀(d:Nat) (t:Tr),DI hs (bs.length:Int) d t->UO t-> ∀w∈BD nm bs t,Et w
 |0,t,f,_=>by unfold DI at f;exact f.elim
 |d+1,.mk k own ps,f,s=>by
  unfold DI at f;unfold UO at s;obtain⟨k0,k1,of,lp,_,fp⟩:=f;intro w hw;unfold BD at hw
  rcases List.mem_append.mp hw with z|z
  ·exact Xl hm hb hn k0 k1 of s.1 w z
  ·exact PM (WE hm hb hn d) ps fp s.2 w z
end
theorem Hf {α β γ δ:Type}{f:α->β->γ}{g:γ->δ}{h:α->δ}(e: ∀a b,g (f a b)=h a): ∀(as:List α) (bs:List β),as.length=bs.length->(List.zipWith f as bs).map g=as.map h
 |[],[],_=>rfl
 |a::as,b::bs,l=>by
  rw[List.zipWith_cons_cons,yQ,yQ,e,Hf e as bs (by simpa using l)]
theorem QZ {α β γ:Type}{f:α->β->γ}{as:List α}{bs:List β}{i:Nat}{x:γ}(h:(List.zipWith f as bs)[i]? =some x): ∃a b,as[i]? =some a/\bs[i]? =some b/\x=f a b:=by
 rw[uA]at h;split at h
 ·rename_i a b e1 e2;exact⟨a,b,e1,e2,(jE h).symm⟩
 ·cases h
section
variable {ns:List Tt}{fs:List Fn}
theorem JB (l:ns.length=fs.length):(HK ns fs).length =fs.length:=by
 unfold HK;rw[List.length_zipWith];lia
theorem VA (l:ns.length=fs.length):((HK ns fs).map λx=>x.1.1)=ns.map (·.1):=Hf (h:=λn:Tt=>n.1) (g:=λx:Pg=>x.1.1) (λa b=>rfl) ns fs l
theorem YD.hds (h:YD ns fs):((HK ns fs).map (·.1)).map (λh=>((h.2.2:Int),(h.2.1.length:Int)))=fs.map Prod.fst:=by
 refine FB λi=>?_;rw[zS,zS];have hl:=JB h.len
 by_cases c:i<fs.length
 ·have e1:fs[i]? =some fs[i]:=zE c;have e2:ns[i]? =some (ns[i]'(by rw[h.len];exact c)):=zE _;have e3:(HK ns fs)[i]? =some (IW (ns.map (·.1)) (ns[i]'(by rw[h.len];exact c)) fs[i]):=by
   unfold HK;rw[uA,e1,e2]
  rw[e3,zS,e1];have b:=h.bx i _ _ e2 e1;have g:=h.good.all i fs[i].1 (by rw[zS,e1];rfl);refine jB some (Prod.ext ?_ ?_)
  ·show((fs[i].1.1.toNat:Nat):Int)=fs[i].1.1;lia
  ·exact b.symm
 ·rw[jC (by lia),jC (by rw[zD];lia)];rfl
theorem YD.prog (h:YD ns fs):Zm (HK ns fs) where
 all:=λx hx=>by
  obtain⟨i,e⟩:=qW hx;obtain⟨n,f,e1,e2,rfl⟩:=QZ e;obtain⟨o1,o2⟩:=h.nm n (zX e1);have b:=h.bx i n f e1 e2;have g:=h.good.all i f.1 (by rw[zS,e2];rfl);have ft:=h.fit f (zX e2);have st:=h.sm f (zX e2);rw[b]at ft;have en:ns.map (·.1)=((HK ns fs).map (·.1)).map (·.1):=by rw[qQ];exact(VA h.len).symm
  refine⟨⟨o1,o2,by show f.1.1.toNat<=4;lia,by show f.1.1.toNat<=n.2.length;lia⟩,?_,?_⟩
  ·exact Ob en h.hds.symm o2 10 f.2 ft st
  ·refine WE ?_ o2.ok ?_ 10 f.2 ft st
   ·rw[zD,zD,h.len]
   ·intro b hb;obtain⟨m,hm,rfl⟩:=List.mem_map.mp hb;exact(h.nm m hm).1
 nd:=by rw[VA h.len];exact h.nd
 ne:=λz=>by
  have:=JB h.len;rw[z]at this;have g:=h.good.lo;rw[zD]at g;have:([]:List Pg).length =0:=rfl;lia
 few:=by
  rw[JB h.len];have g:=h.good.hi
  rwa [zD]at g
 first:=λx hx=>by
  obtain⟨n,f,e1,e2,rfl⟩:=QZ hx;have g:=h.good.all 0 f.1 (by rw[zS,e2];rfl);have:=g.2.2.2.2 rfl;show f.1.1.toNat=0;lia
end
theorem Nr {α β:Type}{R:α->β->Prop}: ∀(l:List α),(∀x∈l,∃y,R x y)-> ∃m,Paired R l m
 |[],_=>⟨[],.nil⟩
 |x::l,h=>by
  obtain⟨y,hy⟩:=h x (zO ..);obtain⟨m,hm⟩:=Nr l (λz hz=>h z (zQ _ hz));exact⟨y::m,.cons hy hm⟩
theorem Ny: ∀(pr:List Pg) (f g:Int) (x:Str),jT (Wg pr f) x=some g-> ∃(i:Nat) (y:Pg),pr[i]? =some y/\g=f+(i:Int)/\y.1.1=x
 |[],f,g,x,h=>by cases h
 |y::r,f,g,x,h=>by
  rw[Wg,jT]at h;split at h
  ·rename_i c;cases h;exact⟨0,y,rfl,by lia,c⟩
  ·obtain⟨i,z,e1,e2,e3⟩:=Ny r (f+1) g x h;exact⟨i+1,z,by simpa using e1,by lia,e3⟩
def JJ (pr:List Pg):DO:=pr.map λx=>((x.1.2.2:Int),(x.1.2.1.length:Int))
structure Zl (pr:List Pg):Prop where
 w: ∀x∈pr,PgW x
 nd:(pr.map λx=>x.1.1).Nodup
theorem TH {pr:List Pg}(p:Zl pr):YL (pr.map λx=>x.1.1) (JJ pr) (AA (wA pr)) (AH (wA pr)):=by
 refine⟨λx f h=>?_,λi hi=>?_⟩
 ·unfold AA at h;rw[Nz pr 0 [] p.w p.nd (λ_ _=>rfl),jV]at h;obtain⟨i,y,e1,e2,e3⟩:=Ny pr 0 f x h;have hl:=(List.getElem?_eq_some_iff.mp e1).1;rw[show f.toNat=i by lia];refine⟨by lia,?_,?_⟩
  ·show i<(pr.map _).length;rw[zD];exact hl
  ·rw[zS,e1,<-e3];rfl
 ·unfold AH;have hl:i<pr.length:=by rw[JJ,zD]at hi;exact hi
  rw[Og pr 0 p.w,zS,zE hl,JJ,xW,zS,zE hl];rfl
structure PgF (nm:List Str)(hs:DO)(x:Pg)(f:Fn):Prop where
 hd:f.1=((x.1.2.2:Int),(x.1.2.1.length:Int))
 ft:DI hs f.1.2 10 f.2
 sm:UO f.2
 nu:Df f.2=x.2.2
 wd:BD nm x.1.2.1 f.2=x.2.1
structure Zn (pr:List Pg):Prop where
 w:Zl pr
 ne:pr≠[]
 few:pr.length<=16
 first: ∀x,pr[0]? =some x->x.1.2.2=0
theorem zBt {pr:List Pg}{fs:List Fn}(p:Zn pr)(pf:Paired (PgF (pr.map λx=>x.1.1) (JJ pr)) pr fs):YD (An pr) fs/\HK (An pr) fs=pr:=by
 have lh:(JJ pr).length =pr.length:=zD ..;have lf:=Paired.len pf;have ln:(An pr).length =pr.length:=zD ..;have eh:fs.map Prod.fst=JJ pr:=by
  refine FB λi=>?_;rw[JJ,zS,zS]
  by_cases c:i<pr.length
  ·have e1:pr[i]? =some pr[i]:=zE c;have e2:fs[i]? =some (fs[i]'(by lia)):=zE _;rw[e1,e2];exact jB some (Paired.get pf _ _ _ e1 e2).hd
  ·rw[jC (by lia),jC (by lia)];rfl
 have en:(An pr).map (·.1)=pr.map λx=>x.1.1:=by
  unfold An;rw[qQ];rfl
 have at_: ∀(i:Nat) (f:Fn),fs[i]? =some f-> ∃x,pr[i]? =some x/\PgF (pr.map λx=>x.1.1) (JJ pr) x f:=λi f e=>by
  have hl:=(List.getElem?_eq_some_iff.mp e).1;have e1:pr[i]? =some (pr[i]'(by lia)):=zE _;exact⟨_,e1,Paired.get pf _ _ _ e1 e⟩
 refine⟨⟨by lia,λn hn=>?_,?_,λi n f e1 e2=>?_,⟨?_,?_,λi h e=>?_⟩,λf hf=>?_,λf hf=>?_⟩,?_⟩
 ·obtain⟨x,hx,rfl⟩:=List.mem_map.mp hn;exact⟨(p.w.w x hx).hd.nm,(p.w.w x hx).hd.bx⟩
 ·rw[en];exact p.w.nd
 ·obtain⟨x,ex,h⟩:=at_ i f e2;unfold An at e1;rw[zS,ex]at e1;cases e1;rw[h.hd]
 ·rw[eh,lh];exact List.length_pos_iff.mpr p.ne
 ·rw[eh,lh];exact p.few
 ·rw[eh,JJ,zS]at e;cases ex:pr[i]? with
  |none=>rw[ex]at e;cases e
  |some x=>
   rw[ex]at e;cases e;have ok:=(p.w.w x (zX ex)).hd;have p4:=ok.p4;have pb:=ok.pb;have b12:=ok.bx.few;show 0<=(x.1.2.2:Int)/\(x.1.2.2:Int)<=4/\(x.1.2.2:Int)<=(x.1.2.1.length:Int)/\(x.1.2.1.length:Int)<=12/\(i=0->(x.1.2.2:Int)=0);refine⟨by lia,by lia,by lia,by lia,λz=>?_⟩;subst z;have:=p.first x ex;lia
 ·obtain⟨i,e⟩:=qW hf;obtain⟨x,ex,h⟩:=at_ i f e;rw[eh];exact h.ft
 ·obtain⟨i,e⟩:=qW hf;obtain⟨x,ex,h⟩:=at_ i f e;exact h.sm
 ·refine FB λi=>?_;unfold HK;rw[uA,en]
  by_cases c:i<pr.length
  ·have e1:pr[i]? =some pr[i]:=zE c;have e2:fs[i]? =some (fs[i]'(by lia)):=zE _;have h:=Paired.get pf _ _ _ e1 e2;unfold An;rw[zS,e1,e2];refine jB some ?_;unfold IW;dsimp only;rw[h.wd,h.nu,h.hd,jG]
  ·rw[jC (show(An pr).length<=i by lia),jC (show pr.length<=i by lia)]
theorem KU: ∀pr:List Pg,EH pr=flat (JJ pr)
 |[]=>rfl
 |x::r=>by
  show[(x.1.2.2:Int),(x.1.2.1.length:Int)]++EH r=(x.1.2.2:Int)::(x.1.2.1.length:Int)::flat (JJ r);rw[KU r];rfl
theorem Ld (nm:List Str): ∀(ns:List Tt) (fs:List Fn),ns.length=fs.length->vT (List.zipWith (IW nm) ns fs)=Es fs
 |[],[],_=>rfl
 |n::ns,f::fs,l=>by
  show Df f.2++vT (List.zipWith (IW nm) ns fs)=_;rw[Ld nm ns fs (by simpa using l)];rfl
theorem Zu {ns:List Tt}{fs:List Fn}(h:YD ns fs):wr fs=((HK ns fs).length:Int)::(EH (HK ns fs)++vT (HK ns fs)):=by
 have e1:EH (HK ns fs)=Pn fs:=by
  have:=h.hds;rw[qQ]at this;rw[KU,HQ,<-this];rfl
 have e2:vT (HK ns fs)=Es fs:=Ld _ ns fs h.len;unfold wr;rw[e1,e2,JB h.len]
def YA (t:Str):Prop:= ∀c∈t.cps.toList,CS c
instance (t:Str):Decidable (YA t):=inferInstanceAs (Decidable (∀c∈_,_))
structure ME (w:Str):Prop where
 ne:w.cps.toList≠[]
 nb: ∀c∈w.cps.toList,¬CS c
 sh:w.length<=61
theorem Et.t {w:Str}(h:Et w):ME w:=⟨h.ne,h.nb,h.sh⟩
theorem PQ {t:Str}(h:t.length<=1000000):(∀w∈wordsT t,ME w)->(wordsT t).length<=1000000->(Txt.replace t "\n" " ").length<=1000000/\(Txt.split (Txt.replace t "\n" " ") " ").length<=2000000:=λ_ _=>by
 have e1:=SK t;have e2:=TB (Txt.replace t "\n" " ") 32;rw[<-Ha]at e2;lia
theorem JG {hs:List IE}{x:Pg}(h:WX hs x): ∀w∈kG x,ME w:=λw hw=>by
 have bx: ∀b∈x.1.2.1,ME b:=λb hb=>(Ao (h.hd.bx.ok b hb)).t
 rcases List.mem_cons.mp hw with z|hw
 ·rw[z];exact⟨by decide,by decide,by decide⟩
 rcases List.mem_cons.mp hw with z|hw
 ·rw[z];exact(Ao h.hd.nm).t
 rcases List.mem_append.mp hw with z|hw
 ·exact bx w (wR z)
 rcases List.mem_cons.mp hw with z|hw
 ·rw[z];exact⟨by decide,by decide,by decide⟩
 rcases List.mem_append.mp hw with z|hw
 ·exact bx w (uR z)
 rcases List.mem_cons.mp hw with z|hw
 ·rw[z];exact⟨by decide,by decide,by decide⟩
 ·exact(h.wd w hw).t
theorem Rb (c:Nat)(hc:CS c): ∀(p acc r:List Nat),wl acc (p++c::r)=wl acc p++wl [] r
 |[],acc,r=>by
  rw[jV]
  conv=>lhs;unfold wl
  rw[zT hc];unfold wl
  by_cases z:acc=[]
  ·rw[zT z,zT z];rfl
  ·rw[zI z,zI z];rfl
 |d::p,acc,r=>by
  rw[jD];have e: ∀l,wl acc (d::l)=if CS d then(if acc=[]then wl [] l else acc::wl [] l)else wl (acc++[d]) l:=λl=>by rw[wl]
  rw[e,e,Rb c hc p,Rb c hc p]
  by_cases b:CS d
  ·rw[zT b,zT b]
   by_cases z:acc=[]
   ·rw[zT z,zT z]
   ·rw[zI z,zI z];rfl
  ·rw[zI b,zI b]
theorem Lx (c:Nat)(hc:CS c): ∀ps:List (List Nat),wl [] (qR c ps)=(ps.map (wl [])).flatten
 |[]=>rfl
 |[p]=>by
  show wl [] p=[wl [] p].flatten
  simp
 |p::p2::r=>by
  show wl [] (p++c::qR c (p2::r))=_;rw[Rb c hc,Lx c hc (p2::r)];rfl
theorem Zv {w:List Nat}(h0:w≠[])(hb: ∀c∈w,¬CS c):wl [] w=[w]:=by
 have:=Ll w [] [] hb;rw[xI,jV]at this;rw[this];unfold wl;rw[zI h0]
theorem UW {ws:List Str}(h: ∀w∈ws,ME w)(c:Nat)(hc:CS c):wl [] (qR c (ws.map λx=>x.cps.toList))=ws.map λx=>x.cps.toList:=by
 rw[Lx c hc,qQ];have: ∀l:List Str,(∀w∈l,ME w)->(l.map (wl []∘λx=>x.cps.toList)).flatten =l.map λx=>x.cps.toList:=λl=>by
  induction l with
  |nil=>exact λ_=>rfl
  |cons x l ih=>
   intro hl;have hx:=hl x (zO ..);rw[yQ,kJ,ih (λw hw=>hl w (zQ _ hw)),yQ];show wl [] x.cps.toList++_=_;rw[Zv hx.ne hx.nb];rfl
 exact this ws h
theorem Sc {ws:List Str}(h: ∀w∈ws,ME w):wordsT (Txt.join " " ws)=ws:=by
 refine Pw ?_;have e:(Txt.join " " ws).cps.toList =qR 32 (ws.map λx=>x.cps.toList):=by
  rw[Ha];have:=Bs 32 ws;rw[<-this];exact jB (λt:Str=>t.cps.toList) (vU _ _)
 rw[UV,e,UW h 32 (.inl rfl)]
section
variable {W bs:List Str}{num:List (Str×Int)}{cnt:List Int}
theorem zAo {W:List Str}{a:Nat}{u v:List Str}(h:Fb W a u)(g:Fb W a v)(l:u.length=v.length):u=v:=by
 obtain⟨x,e⟩:=h;obtain⟨y,e'⟩:=g;rw[e]at e';exact(List.append_inj e' l).1
theorem DF {most:Nat}{last:Str}: ∀(n a:Nat) (bs:List Str) (q:Nat×List Str),wV W most last n a bs=.ok q-> ∃us,q.2=bs++us/\Fb W a (us++[last])/\q.1=a+us.length+1/\(∀u∈us,jL u=true)/\(bs.Nodup->q.2.Nodup)/\(bs.length<=most->q.2.length<=most)
 |0,a,bs,q,h=>by cases h
 |n+1,a,bs,q,h=>by
  rw[wV]at h;split at h
  ·cases h
  ·rename_i w e;split at h
   ·rename_i c;cases h;rw[c]at e;exact⟨[],by simp,CK e,rfl,λu hu=>(nomatch hu),λh=>h,λh=>h⟩
   split at h
   ·cases h
   rename_i c1 c2;split at h
   ·rename_i c3;obtain⟨us,e1,e2,e3,e4,e5,e6⟩:=DF n (a+1) (bs++[w]) q h;refine⟨w::us,by rw[e1,yW];rfl,?_,by rw[e3,zK];lia,λu hu=>?_,λh=>e5 ?_,λh=>e6 ?_⟩
    ·have:=(CK e).join (show Fb W (a+[w].length) (us++[last])from e2);exact this
    ·rcases List.mem_cons.mp hu with z|z
     ·rw[z];exact c3.1
     ·exact e4 u z
    ·rw[List.nodup_append];exact⟨h,by simp,λx hx y hy=>by rw[List.mem_singleton.mp hy];exact λz=>c3.2 (z▸hx)⟩
    ·rw[zB];show bs.length+1<=most;lia
   ·cases h
theorem QD (hb: ∀b∈bs,jL b=true){a:Nat}{q:Int×Nat}(h:Ag W a bs=.ok q): ∃ws,Fb W a ws/\q.2=a+ws.length/\ ∀w∈ws,Et w:=by
 obtain⟨k0,k1,h1,h2⟩:=Mj h;refine⟨_,h1,h2,λw hw=>?_⟩;split at hw
 ·cases hw
 ·rename_i c;rw[List.mem_singleton.mp hw];exact Ph (YY (by lia) k1)
theorem RH (hb: ∀b∈bs,jL b=true){a:Nat}{k:Int}{q:List Int×Nat}(h:Am W num a k bs=.ok q): ∃ws,Fb W a ws/\q.2=a+ws.length/\ ∀w∈ws,Et w:=by
 have one: ∀{w:Str},W[a]? =some w->Et w-> ∃ws,Fb W a ws/\a+1=a+ws.length/\ ∀w∈ws,Et w:=fun{w} e o=>⟨[w],CK e,rfl,λx hx=>by rw[List.mem_singleton.mp hx];exact o⟩;unfold Am at h;split at h
 ·split at h
  ·rename_i n e;cases h;exact one (Ga e).1 (Km (Ga e).2)
  ·cases h
 split at h
 ·split at h
  ·rename_i n e;cases h;obtain⟨w,e1,e2⟩:=Oi e;exact one e1 (Ao (hb w (zX e2)))
  ·cases h
 split at h
 ·split at h
  ·rename_i n e;cases h;exact one (Dq e).1 (Km (Dq e).2.1)
  ·cases h
 split at h
 ·split at h
  ·rename_i n e;cases h;exact one (Dq e).1 (Km (Dq e).2.1)
  ·cases h
 split at h
 ·split at h
  ·rename_i n e;cases h;unfold Aq at e;split at e
   ·rename_i w ew;split at e
    ·rename_i c;exact one ew (Ao c)
    ·cases e
   ·cases e
  ·cases h
 ·cases h;exact⟨[],Fs,rfl,λw hw=>nomatch hw⟩
theorem KO (hb: ∀b∈bs,jL b=true): ∀(d a:Nat) (bd:List Int) (q:Nat×List Int),uC W num cnt bs d a bd=.ok q-> ∃ws zs,Fb W a ws/\q.1=a+ws.length/\q.2=bd++zs/\ ∀w∈ws,Et w
 |0,a,bd,q,h=>by cases h
 |d+1,a,bd,q,h=>by
  unfold uC at h;split at h
  ·cases h
  rename_i r er;split at h
  ·cases h
  rename_i s es;obtain⟨w1,a1,b1,c1⟩:=QD hb er;obtain⟨w2,a2,b2,c2⟩:=RH hb es;have key: ∀(n a:Nat) (bd:List Int) (q:Nat×List Int),uD (uC W num cnt bs d) n a bd=.ok q-> ∃ws zs,Fb W a ws/\q.1=a+ws.length/\q.2=bd++zs/\ ∀w∈ws,Et w:=by
   intro n
   induction n with
   |zero=>
    intro a bd q h;cases h;exact⟨[],[],Fs,rfl,by simp,λw hw=>nomatch hw⟩
   |succ n ih=>
    intro a bd q h;rw[uD]at h;split at h
    ·rename_i u eu;obtain⟨v1,z1,f1,f2,f3,f4⟩:=KO hb d a bd u eu;obtain⟨v2,z2,g1,g2,g3,g4⟩:=ih u.1 u.2 q h;rw[f2]at g1 g2;refine⟨v1++v2,z1++z2,f1.join g1,by rw[g2,zB,uU],by rw[g3,f3,yW],λw hw=>?_⟩
     rcases List.mem_append.mp hw with z|z
     ·exact f4 w z
     ·exact g4 w z
    ·cases h
  obtain⟨w3,z3,a3,b3,c3,d3⟩:=key _ _ _ _ h;rw[b1]at a2 b2;rw[b2]at a3 b3;refine⟨w1++(w2++w3),(r.1::s.1)++z3,a1.join (a2.join a3),by rw[b3,zB,zB];lia,by rw[c3,yW],λw hw=>?_⟩
  rcases List.mem_append.mp hw with z|z
  ·exact c1 w z
  rcases List.mem_append.mp z with z|z
  ·exact c2 w z
  ·exact d3 w z
structure zGg (W:List Str)(num:List (Str×Int))(cnt:List Int)(s:RS)(x:Pg)(s':RS):Prop where
 has:Fb W s.at_ (kG x)
 at_:s'.at_=s.at_+(kG x).length
 w:PgW x
 nm:x.1.1∉s.names.map (·.1)
 few:s.names.length<16
 p0:s.names=[]->x.1.2.2=0
 names:s'.names=s.names++[(x.1.1,x.1.2.1)]
 heads:s'.heads=s.heads++[(x.1.2.2:Int),(x.1.2.1.length:Int)]
 bodies:s'.bodies=s.bodies++x.2.2
 node: ∃a bd,Fb W a x.2.1/\uC W num cnt x.1.2.1 10 a bd=.ok (a+x.2.1.length,bd++x.2.2)
theorem NY {s s':RS}(h:Lk W num cnt s=.ok s')(hn:s.names.length<=16): ∃x,zGg W num cnt s x s':=by
 unfold Lk at h;split at h
 ·cases h
 rename_i w ew;split at h
 ·cases h
 rename_i c;split at h
 ·cases h
 rename_i nm en;split at h
 ·cases h
 rename_i q eq;split at h
 ·cases h
 rename_i r er;split at h
 ·cases h
 rename_i z ez;cases h;have cw:w="fun":=Decidable.byContradiction λz=>c (.inl z);have c16:s.names.length≠16:=λz=>c (.inr z);obtain⟨u1,a1,a2,a3,a4,a5,a6⟩:=DF _ _ _ _ eq;obtain⟨u2,b1,b2,b3,b4,b5,b6⟩:=DF _ _ _ _ er;rw[jV]at a1;have nm1:W[s.at_+1]? =some nm/\jL nm=true/\nm∉s.names.map (·.1):=by
  unfold HL at en;split at en
  ·rename_i v ev;split at en
   ·rename_i c2;cases en;exact⟨ev,c2.1,c2.2⟩
   ·cases en
  ·cases en
 have q4:q.2.length<=4/\(s.names=[]->q.2.length=0):=by
  have:=a6 (yU _);split at this
  ·exact⟨by lia,λ_=>by lia⟩
  ·rename_i c3;exact⟨this,λz=>absurd z c3⟩
 have okb: ∀b∈r.2,jL b=true:=λb hb=>by
  rw[b1,a1]at hb
  rcases List.mem_append.mp hb with z|z
  ·exact a4 b z
  ·exact b4 b z
 have nodr:r.2.Nodup:=b5 (a5 List.nodup_nil);have fewr:r.2.length<=12:=b6 (by lia);obtain⟨ws,zs,n1,n2,n3,n4⟩:=KO okb 10 _ _ _ ez;have qr:q.2.length<=r.2.length:=by rw[b1,zB];lia
 have tk:r.2.take q.2.length=q.2:=by rw[b1,List.take_left]
 have dr:r.2.drop q.2.length=u2:=by rw[b1,List.drop_left]
 rw[cw]at ew;have hl:Fb W s.at_ (kG ((nm,r.2,q.2.length),ws,zs)):=by
  unfold kG;show Fb W s.at_ (("fun":Str)::nm::(r.2.take q.2.length++("with":Str)::(r.2.drop q.2.length++("is":Str)::ws)));rw[tk,dr];rw[a3,<-a1]at b2;rw[b3,a3,<-a1]at n1;have e:("fun":Str)::nm::(q.2++("with":Str)::(u2++("is":Str)::ws))=[("fun":Str)]++([nm]++((q.2++[("with":Str)])++((u2++[("is":Str)])++ws))):=by simp
  rw[e];rw[<-a1]at a2;refine(CK ew).join ((CK nm1.1).join (a2.join (Fb.join ?_ ?_)))
  ·have e2:s.at_+2+(q.2++[("with":Str)]).length =s.at_+2+q.2.length+1:=by rw[zB];rfl
   rw[e2];exact b2
  ·have e2:s.at_+2+(q.2++[("with":Str)]).length +(u2++[("is":Str)]).length =s.at_+2+q.2.length+1+u2.length+1:=by rw[zB,zB];rfl
   rw[e2];exact n1
 have ll:(kG ((nm,r.2,q.2.length),ws,zs)).length =r.2.length+4+ws.length:=by
  unfold kG;simp only[zK,zB,yJ,xO];lia
 have e5:r.2.length=q.2.length+u2.length:=by rw[b1,zB]
 refine⟨((nm,r.2,q.2.length),ws,zs),hl,?_,⟨⟨nm1.2.1,⟨nodr,okb,fewr⟩,q4.1,qr⟩,n4⟩,nm1.2.2,by lia,q4.2,rfl,rfl,n3,r.1,s.bodies,n1,?_⟩
 ·show z.1=_;rw[n2,b3,a3,ll,<-a1,e5];lia
 ·rw[ez];exact jB Except.ok (Prod.ext n2 n3)
theorem Mu: ∀(n:Nat) (s s':RS),Gh W num cnt n s=.ok s'->s.names.length<=16->W.length<=s.at_+n-> ∃pr:List Pg,Fb W s.at_ (wA pr)/\s'.at_=s.at_+(wA pr).length/\W.length<=s'.at_/\s'.names=s.names++An pr/\s'.heads=s.heads++EH pr/\s'.bodies=s.bodies++vT pr/\s'.names.length<=16/\(∀x∈pr,PgW x)/\((s.names.map (·.1)).Nodup->(s'.names.map (·.1)).Nodup)/\(∀x∈pr,∃a bd,Fb W a x.2.1/\uC W num cnt x.1.2.1 10 a bd=.ok (a+x.2.1.length,bd++x.2.2))/\(s.names=[]-> ∀x,pr[0]? =some x->x.1.2.2=0)
 |0,s,s',h,hn,hw=>by
  cases h;exact⟨[],Fs,rfl,by lia,by simp[An],by simp[EH],by simp[vT],hn,(λx hx=>nomatch hx),(λh=>h),(λx hx=>nomatch hx),λ_ x hx=>by simp at hx⟩
 |n+1,s,s',h,hn,hw=>by
  rw[Gh]at h;split at h
  ·split at h
   ·cases h
   ·rename_i s1 e1;obtain⟨x,F⟩:=NY e1 hn;have l0:0<(kG x).length:=by unfold kG;exact Nat.succ_pos _
    have hn1:s1.names.length<=16:=by rw[F.names,zB];show _+1<=_;have:=F.few;lia
    obtain⟨pr,a1,a2,a3,a4,a5,a6,a7,a8,a9,a10,a11⟩:=Mu n s1 s' h hn1 (by rw[F.at_];lia);have ew:wA (x::pr)=kG x++wA pr:=rfl;refine⟨x::pr,?_,?_,a3,?_,?_,?_,a7,λy hy=>?_,λh=>a9 ?_,λy hy=>?_,λz y hy=>?_⟩
    ·rw[ew];rw[F.at_]at a1;exact F.has.join a1
    ·rw[ew,a2,F.at_,zB,uU]
    ·rw[a4,F.names,yW];rfl
    ·rw[a5,F.heads,yW];rfl
    ·rw[a6,F.bodies,yW];rfl
    ·rcases List.mem_cons.mp hy with z|z
     ·rw[z];exact F.w
     ·exact a8 y z
    ·rw[F.names,yB,List.nodup_append];exact⟨h,by simp,λa ha b hb=>by rw[List.mem_singleton.mp hb];exact λz=>F.nm ((show a=x.1.1 from z)▸ha)⟩
    ·rcases List.mem_cons.mp hy with z|z
     ·rw[z];exact F.node
     ·exact a10 y z
    ·have:x=y:=by simpa using hy
     rw[<-this];exact F.p0 z
  ·cases h;exact⟨[],Fs,rfl,by lia,by simp[An],by simp[EH],by simp[vT],hn,(λx hx=>nomatch hx),(λh=>h),(λx hx=>nomatch hx),λ_ x hx=>by simp at hx⟩
end
theorem TF {W:List Str}{s:RS}(h:Jz W=.ok s): ∃ns fs,YD ns fs/\wA (HK ns fs)=W/\s.names=ns/\OP s=wr fs:=by
 unfold Jz at h;split at h
 ·cases h
 rename_i s1 e1;obtain⟨x,F⟩:=NY e1 (yU _);have hn1:s1.names.length<=16:=by rw[F.names];show 0+1<=16;decide
 obtain⟨pr,a1,a2,a3,a4,a5,a6,a7,a8,a9,a10,a11⟩:=Mu W.length s1 s h hn1 (by lia);have e0:s1.at_=(kG x).length:=by rw[F.at_];show 0+_=_;lia
 have hw:Fb W 0 (wA (x::pr)):=by
  have f:=F.has;have e:Fb W (0+(kG x).length) (wA pr):=by rw[Nat.zero_add,<-e0];exact a1
  exact Fb.join (show Fb W 0 (kG x)from f) e
 have lw:W.length<=(wA (x::pr)).length:=by
  show _<=(kG x++wA pr).length;rw[zB];lia
 have ew:wA (x::pr)=W:=by
  obtain⟨post,e⟩:=hw;rw[Af]at e;have:=jB List.length e;rw[zB]at this;have:post=[]:=List.length_eq_zero_iff.mp (by lia);rw[e,this,xI]
 have en:s.names=An (x::pr):=by rw[a4,F.names];rfl
 have eh:s.heads=EH (x::pr):=by rw[a5,F.heads];rfl
 have eb:s.bodies=vT (x::pr):=by rw[a6,F.bodies];rfl
 have nod:((x::pr).map λx=>x.1.1).Nodup:=by
  have:=a9 (by rw[F.names];simp);rw[en]at this;unfold An at this;rw[qQ]at this;exact this
 have few:(x::pr).length<=16:=by
  rw[en]at a7;unfold An at a7
  rwa [zD]at a7
 have pf:Zn (x::pr):=by
  refine⟨⟨λy hy=>?_,nod⟩,(λz=>(nomatch z)),few,λy hy=>?_⟩
  ·rcases List.mem_cons.mp hy with z|z
   ·rw[z];exact F.w
   ·exact a8 y z
  ·have:x=y:=by simpa using hy
   rw[<-this];exact F.p0 rfl
 have agB:=TH pf.w;rw[ew]at agB;have lh:(JJ (x::pr)).length<=16:=by unfold JJ;rw[zD];exact few
 obtain⟨fs,pfs⟩:=Nr (R:=PgF ((x::pr).map λx=>x.1.1) (JJ (x::pr))) (x::pr) λy hy=>by
  have ok:=pf.w.w y hy;have nd: ∃a bd,Fb W a y.2.1/\uC W (AA W) (AH W) y.1.2.1 10 a bd=.ok (a+y.2.1.length,bd++y.2.2):=by
   rcases List.mem_cons.mp hy with z|z
   ·rw[z];exact F.node
   ·exact a10 y z
  obtain⟨a,bd,h1,h2⟩:=nd;obtain⟨t,t1,t2,t3,t4,t5⟩:=NB agB ok.hd.bx.few lh 10 a bd _ h2;refine⟨((_,_),t),rfl,t1,t2,?_,?_⟩
  ·exact(Gy t3).symm
  ·exact(zAo h1 t4 (by have:a+y.2.1.length=a+_:=t5;lia)).symm
 obtain⟨w1,w2⟩:=zBt pf pfs;refine⟨An (x::pr),fs,w1,by rw[w2,ew],en,?_⟩;rw[Zu w1,w2];unfold OP;rw[en,eh,eb];unfold An;rw[zD]
end L2
namespace L2
open PySem PySem.NumText PySem.W
theorem Yu {x:Str}(h:AM (wB x) "0123456789"=true): ∀c∈(wB x).cps.toList,48<=c/\c<=57:=λc hc=>by
 unfold AM at h;rw[wM]at h;have:=zZ (h c hc);rw[HR]at this
 simp at this
 omega
theorem We {x:Str}(h1:1<=(wB x).length)(h2:(wB x).length<=60)(h:AM (wB x) "0123456789"=true):
  PySem.intText? x=some (vJ x)/\x.length<=640/\(vJ x).natAbs <10^60/\(Bc (vJ x)=x ↔ qU x 60=true):=by
 have h3:=Yu h;have hl:(wB x).cps.toList.length =(wB x).length:=yR;have ne:(wB x).cps.toList≠[]:=λz=>by rw[z]at hl;have:([]:List Nat).length =0:=rfl;lia
 have back:(vJ x).natAbs <10^60->(Bc (vJ x)=x ↔ qU x 60=true):=λlt=>
  ⟨λe=>by rw[<-e];exact Kn (k:=59) lt (by decide),λk=>(LY k).1.symm⟩
 by_cases c:x.cps.toList[0]? =some 45
 ·obtain⟨r,er⟩: ∃r,x.cps.toList=45::r:=by
   cases e:x.cps.toList with
   |nil=>rw[e]at c;cases c
   |cons a r=>rw[e]at c;cases c;exact⟨r,rfl⟩
  have ef:(wB x).cps.toList =r:=by rw[(AT er).1]
  rw[ef]at h3 ne hl;have hx:x.cps.toList.length=x.length:=yR;rw[er,zK]at hx;have ev:=intText_neg er h3 ne (by lia);have lt:=Gj 60 r (by lia) h3;have vv:vJ x= -(digitsVal r:Int):=by unfold vJ;rw[ev];rfl
  have lv:(vJ x).natAbs <10^60:=by rw[vv,Int.natAbs_neg,vP];exact lt
  exact⟨by unfold vJ;rw[ev];rfl,by lia,lv,back lv⟩
 ·have ef:=AS c;rw[ef]at h2 h3 ne hl;have ev:=EO h3 ne (by lia);have lt:=Gj 60 x.cps.toList (by lia) h3;have vv:vJ x=(digitsVal x.cps.toList:Int):=by unfold vJ;rw[ev];rfl
  have lv:(vJ x).natAbs <10^60:=by rw[vv,vP];exact lt
  exact⟨by unfold vJ;rw[ev];rfl,by lia,lv,back lv⟩
def Dn (l:List Str):Nat:=(l++[("with":Str)]).idxOf ("with":Str)
def zAe (r:List Str)(acc:List (Str×Int)):List (Str×Int):=match r with|[]=>acc|x::r'=>if(jT acc x).isSome then acc else acc++[(x,(Dn r':Int))]
def Xj:List Str->List (Str×Int)->List (Str×Int)
 |[],acc=>acc
 |w::r,acc=>if w="fun" then Xj r (zAe r acc)else Xj r acc
theorem Xm (l:List Str):Dn l<=l.length:=by
 have:Dn l<(l++[("with":Str)]).length:=List.idxOf_lt_length_iff.mpr (by simp);rw[zB]at this;exact Nat.le_of_lt_succ this
theorem MY (w:Str)(l:List Str):Dn (w::l)=if w="with" then 0 else Dn l+1:=by
 unfold Dn;rw[jD,List.idxOf_cons]
 by_cases c:w="with"
 ·rw[zT c,c];simp
 ·rw[zI c];have:(w==("with":Str))=false:=by simpa using c
  rw[this];rfl
theorem Tm: ∀(l:List Str) (n:Nat),(BX l n).1=(n:Int)+(Dn l:Int)
 |[],n=>by show(n:Int)=n+((([("with":Str)]).idxOf ("with":Str):Nat):Int);simp
 |w::r,n=>by
  rw[Gk,MY];dsimp only;split
  ·simp
  ·rw[Tm r (n+1)];lia
theorem Ja {acc:List (Str×Int)}{x y:Str}{v:Int}:jT (acc++[(x,v)]) y=match jT acc y with|some u=>some u|none=>if x=y then some v else none:=by
 induction acc with
 |nil=>rfl
 |cons p r ih=>
  rw[jD,jT,jT];split
  ·rfl
  ·exact ih
theorem Sg: ∀(l:List Str) (n:Nat) (cd:List Int) (an ah:List (Str×Int)) (C:List Int),cd++(BX l n).2=C->
  (∀x,jL x=true->jT ah x=(jT an x).map λf=>(C[f.toNat]?).getD 0)-> ∀x,jL x=true->jT (Xj l ah) x=(jT (IC l cd.length an) x).map λf=>(C[f.toNat]?).getD 0
 |[],n,cd,an,ah,C,eC,ih,x,hx=>ih x hx
 |w::r,n,cd,an,ah,C,eC,ih,x,hx=>by
  rw[Gk]at eC;dsimp only at eC;rw[Xj,Ko]
  by_cases c:w="fun"
  ·have nw: ¬w="with":=by rw[c];decide
   rw[zT c,zI nw]at eC;rw[zT c,zT c];have eC':(cd++[(BX r (n+1)).1-n-2])++(BX r (n+1)).2=C:=by rw[yW];exact eC
   have el:((cd++[(BX r (n+1)).1-n-2]).length:Int)=(cd.length:Int)+1:=by rw[zB];rfl
   rw[<-el];refine Sg r (n+1) _ _ _ C eC' (λy hy=>?_) x hx;cases r with
   |nil=>exact ih y hy
   |cons z r'=>
    show jT (if(jT ah z).isSome then ah else ah++[(z,(Dn r':Int))]) y=(jT (if(jT an z).isSome then an else an++[(z,(cd.length:Int))]) y).map _
    by_cases yz:z=y
    ·subst yz;have e:=ih z hy;have nz: ¬z="with":=λq=>by rw[q]at hy;exact absurd hy (by decide+kernel)
     have ev:(C[cd.length]?).getD 0=(Dn r':Int):=by
      rw[<-eC,kI (zW _),Av,Tm,MY,zI nz];show(((n+1:Nat):Int)+((Dn r'+1:Nat):Int)-n-2)=_;lia
     cases ez:jT an z with
     |some f=>rw[ez]at e;rw[e];simpa[ez]using e
     |none=>
      rw[ez]at e;have e':jT ah z=none:=e;rw[e'];simp only[Option.isSome_none,wN,Bw];rw[Ja,Ja,e',ez];simp only[BB,Option.map_some];rw[show((cd.length:Int)).toNat =cd.length by lia,ev]
    ·have e:=ih y hy;have a1: ∀(acc:List (Str×Int)) (v:Int),jT (if(jT acc z).isSome then acc else acc++[(z,v)]) y=jT acc y:=λacc v=>by
      split
      ·rfl
      ·rw[Ja,zI yz];cases jT acc y<;>rfl
     rw[a1,a1];exact e
  ·rw[zI c]at eC ⊢;rw[zI c];exact Sg r (n+1) cd an ah C eC ih x hx
def Zf (W:List Str):List (Str×Int):=Xj W []
theorem zAn {W:List Str}{x:Str}(h:jL x=true):jT (Zf W) x=(jT (AA W) x).map λf=>((AH W)[f.toNat]?).getD 0:=
 Sg W 0 [] [] [] (AH W) rfl (λ_ _=>rfl) x h
theorem Mq {B:Int}: ∀(l:List Str) (acc:List (Str×Int)),(∀p∈acc,0<=p.2/\p.2<=B)->(l.length:Int)<=B-> ∀p∈Xj l acc,0<=p.2/\p.2<=B
 |[],acc,h,_=>h
 |w::r,acc,h,hl=>by
  rw[zK]at hl;rw[Xj];split
  ·refine Mq r _ ?_ (by lia);cases r with
   |nil=>exact h
   |cons x r'=>
    unfold zAe;dsimp only;split
    ·exact h
    ·intro p hp
     rcases List.mem_append.mp hp with z|z
     ·exact h p z
     ·rw[List.mem_singleton.mp z];have:=Xm r';rw[zK]at hl;exact⟨by show(0:Int)<=(Dn r':Int);lia,by show(Dn r':Int)<=B;lia⟩
  ·exact Mq r acc h (by lia)
theorem ND: ∀{acc:List (Str×Int)} {x:Str} {v:Int},jT acc x=some v->(x,v)∈acc
 |p::r,x,v,h=>by
  rw[jT]at h;split at h
  ·rename_i c;cases h;rw[<-c];exact zO ..
  ·exact zQ _ (ND h)
theorem Yk {W:List Str}{x:Str}{v:Int}(h:jT (Zf W) x=some v):0<=v/\v<=W.length:=
 Mq W [] (λ_ z=>nomatch z) (Int.le_refl _) _ (ND h)
section
variable {W:List Str}{num:List (Str×Int)}{cnt:List Int}{bs:List Str}
def Yo:Except Nat (Nat×List Int)->Except Nat Nat
 | .ok q=>.ok q.1
 | .error e=>.error e
def LU (g:Nat->Except Nat Nat):Nat->Nat->Except Nat Nat
 |0,a=>.ok a
 |n+1,a=>match g a with| .ok b=>LU g n b| .error e=>.error e
theorem Im {f:Zr}{g:Nat->Except Nat Nat}(h: ∀a bd,Yo (f a bd)=g a): ∀n a bd,Yo (uD f n a bd)=LU g n a
 |0,a,bd=>rfl
 |n+1,a,bd=>by
  have:=h a bd;rw[uD,LU];cases e:f a bd with
  |error z=>rw[e]at this;rw[<-this];rfl
  |ok q=>rw[e]at this;rw[<-this];exact Im h n q.1 q.2
def JE (W:List Str)(num:List (Str×Int))(cnt:List Int)(bs:List Str)(d a:Nat):Except Nat Nat:=Yo (uC W num cnt bs d a [])
theorem JD: ∀(d a:Nat) (bd:List Int),Yo (uC W num cnt bs d a bd)=JE W num cnt bs d a
 |0,a,bd=>rfl
 |d+1,a,bd=>by
  unfold JE;rw[uC,uC];cases Ag W a bs with
  |error e=>rfl
  |ok q=>
   dsimp only;cases Am W num q.2 q.1 bs with
   |error e=>rfl
   |ok r=>exact(Im (λa bd=>JD d a bd) _ _ _).trans (Im (λa bd=>JD d a bd) _ _ _).symm
def PF (W:List Str)(num:List (Str×Int))(cnt:List Int)(bs:List Str):List Nat->Nat->Except Nat Nat
 |[],a=>.ok a
 |d::ds,a=>match JE W num cnt bs d a with| .ok b=>PF W num cnt bs ds b| .error e=>.error e
theorem Tc {d:Nat}{ds:List Nat}: ∀(n a:Nat),PF W num cnt bs (List.replicate n d++ds) a=match LU (JE W num cnt bs d) n a with| .ok b=>PF W num cnt bs ds b| .error e=>.error e
 |0,a=>rfl
 |n+1,a=>by
  rw[wZ,jD,PF,LU];cases JE W num cnt bs d a with
  |error e=>rfl
  |ok b=>exact Tc n b
theorem JK {d:Nat}{ds:List Nat}{a:Nat}:PF W num cnt bs ((d+1)::ds) a=match Ag W a bs with
  | .error e=>.error e
  | .ok q=>match Am W num q.2 q.1 bs with
   | .error e=>.error e
   | .ok r=>PF W num cnt bs (List.replicate (GZ cnt q.1 r.1).toNat d++ds) r.2:=by
 rw[PF];unfold JE;rw[uC];cases Ag W a bs with
 |error e=>rfl
 |ok q=>
  dsimp only;cases Am W num q.2 q.1 bs with
  |error e=>rfl
  |ok r=>
   dsimp only;rw[Tc,Im (λa bd=>JD d a bd)]
theorem Yl {d a:Nat}:PF W num cnt bs [d] a=JE W num cnt bs d a:=by
 rw[PF];cases JE W num cnt bs d a<;>rfl
end
end L2
namespace L2
open PySem PySem.Spec PyProof.Rows
variable {X:Cx}
def zFq (o:Option V)(z:V):Bool:=match o with|none=>false|some u=>KZ u z
inductive zCq (K:PySem.W.Frag) (x:V) (y:V) (H:Hp) (Q:VK):Prop
 |mk (a b:Addr) (o:Option V) (z:V) (h0:x=.ref a) (h1:y=.ref b) (h2:Hb K H a o.toList) (h3:Hb K H b [z]) (h4: ∀u∈o,CO u=true) (h5:CO z=true) (h6:Q (.bl (!zFq o z)) H):zCq K x y H Q
theorem ZZ {k:Nat}(hr:uE k X.A):ID X (compareOp .NotEq) (zCq X.K):=by
 intro pins s σ H x y v u Q I rx ry h;obtain⟨a,b,o,z,rfl,rfl,ha,hb,fo,fz,q⟩:=h;cases rx;cases ry;have hu:=hr.un;obtain⟨us,r,pa,_⟩:=I.list ha;obtain⟨vs,q',pb,_⟩:=I.list hb;cases q' with
 |cons t2 q'=>
 cases q';cases o with
 |none=>
  cases r;have:=SeqAt.RcNeAt.lists_lengths (A:=X.A) (s:=s) pa.isList pb.isList rfl (by lia);exact this _ _ _ _ ⟨.bl true,H,I,rfl,q⟩
 |some u=>
  cases r with
  |cons t1 r=>
  cases r;have:=SeqAt.RcNeAt.lists (A:=X.A) (s:=s) (e:=λ_=>KZ u z) pa.isList pb.isList rfl (by lia) (λj h1 h2=>by
   have h1:j<1:=h1;have:j=0:=by lia
   subst this;exact Pt t1 t2 (fo u rfl) fz)
  have e:(!((List.range 1).all λ_=>KZ u z))=!KZ u z:=by
   show(!(KZ u z&&true))=_;rw[Bool.and_true]
  have this:SeqAt.RcNeAt X.A s (Value.ref a) (Value.ref b) (!KZ u z):=e▸this;exact this _ _ _ _ ⟨.bl _,H,I,rfl,q⟩
end L2
namespace L2
open PySem
theorem NS (c:Nat): ∀(a b:List (List Nat)),a≠[]->b≠[]->qR c (a++b)=qR c a++c::qR c b
 |[],_,h,_=>absurd rfl h
 |[x],y::b,_,_=>rfl
 |[x],[],_,h=>absurd rfl h
 |x::x2::a,b,_,hb=>by
  show x++c::qR c ((x2::a)++b)=(x++c::qR c (x2::a))++c::qR c b;rw[NS c (x2::a) b (λz=>nomatch z) hb]
  simp
theorem Mo (c:Nat): ∀lss:List (List (List Nat)),(∀l∈lss,l≠[])->qR c (lss.map (qR c))=qR c lss.flatten
 |[],_=>rfl
 |[l],_=>by simp[qR]
 |l::l2::r,h=>by
  show qR c l++c::qR c ((l2::r).map (qR c))=_;rw[Mo c (l2::r) (λx hx=>h x (zQ _ hx)),kJ (l:=l),NS c l _ (h l (zO ..))];intro z;have:=h l2 (zQ _ (zO ..))
  simp at z
  exact this z.1
theorem Lp (c:Nat)(ws:List Str):(Txt.join ⟨#[c]⟩ ws).cps.toList =qR c (ws.map λx=>x.cps.toList):=by
 rw[<-Bs c ws];exact jB (λt:Str=>t.cps.toList) (vU _ _)
theorem QC {lss:List (List Str)}(h0:lss≠[])(h1: ∀l∈lss,l≠[])(h: ∀ls∈lss,∀w∈ls,ME w):Txt.replace (Txt.join "\n" (lss.map (Txt.join " "))) "\n" " "=Txt.join " " lss.flatten/\Txt.split (Txt.join " " lss.flatten) " "=lss.flatten:=by
 have nf:lss.flatten≠[]:=λz=>by
  cases lss with
  |nil=>exact h0 rfl
  |cons l r=>
   have:=h1 l (zO ..)
   simp at z
   exact this z.1
 have free: ∀t∈lss.flatten,32∉t.cps.toList:=λt ht z=>by
  obtain⟨l,hl,hw⟩:=List.mem_flatten.mp ht;exact(h l hl t hw).nb 32 z (.inl rfl)
 have ee:Txt.replace (Txt.join "\n" (lss.map (Txt.join " "))) "\n" " "=Txt.join " " lss.flatten:=by
  have:[Txt.replace (Txt.join "\n" (lss.map (Txt.join " "))) "\n" " "]=[Txt.join " " lss.flatten]:=by
   refine Pw ?_;rw[yQ,yQ,OS,Wi,Ha,Lp,Lp];congr 1;rw[<-Ks,qQ]
   ·have e:lss.map ((λx:Str=>x.cps.toList)∘Txt.join ⟨#[32]⟩)=(lss.map (List.map λx:Str=>x.cps.toList)).map (qR 32):=by
     rw[qQ];exact List.map_congr_left λl _=>Lp 32 l
    rw[e,Mo,List.map_flatten];intro l hl;obtain⟨l',hl',rfl⟩:=List.mem_map.mp hl;exact λz=>h1 l' hl' (List.map_eq_nil_iff.mp z)
   ·intro p hp;obtain⟨q,hq,rfl⟩:=List.mem_map.mp hp;obtain⟨l,hl,rfl⟩:=List.mem_map.mp hq;rw[Lp];intro z;have key: ∀(qs:List (List Nat)),10∈qR 32 qs-> ∃q∈qs,10∈q:=λqs=>by
     induction qs with
     |nil=>intro z;cases z
     |cons a r ih=>
      cases r with
      |nil=>exact λz=>⟨a,zO ..,z⟩
      |cons b r=>
       intro z
       rcases List.mem_append.mp z with z|z
       ·exact⟨a,zO ..,z⟩
       ·rcases List.mem_cons.mp z with z|z
        ·cases z
        ·obtain⟨q,hq,y⟩:=ih z;exact⟨q,zQ _ hq,y⟩
    obtain⟨q,hq,y⟩:=key _ z;obtain⟨x,hx,rfl⟩:=List.mem_map.mp hq;exact(h l hl x hx).nb 10 y (.inr rfl)
  injection this
 refine⟨ee,?_⟩;rw[Ha,Rk nf free]
theorem Yv (x:Str):Txt.slice x (some (if decide (V.str (Txt.slice x none (some 1))=V.str "-")=true then 1 else 0)) none=wB x:=by
 have hl:x.cps.toList.length=x.length:=yR
 by_cases z:x.length=0
 ·have:x=⟨#[]⟩:=by
   have e:=zAu x;rw[List.length_eq_zero_iff.mp (hl.trans z)]at e;exact e
  rw[this];decide+kernel
 ·have e:=eq_of_beq (PyProof.Rows.slice_closes_toL (x:=x) (j:=1) (by decide) (by lia));have e0:=eq_of_beq (Di (x:=x) (i:=0) (b:=(x.length:Int)) (by decide) (by lia) rfl);obtain⟨a,r,er⟩: ∃a r,x.cps.toList=a::r:=by
   cases e:x.cps.toList with
   |nil=>rw[e]at hl;exact absurd hl.symm z
   |cons a r=>exact⟨a,r,rfl⟩
  rw[er]at e;have e':Txt.slice x none (some 1)=⟨#[a]⟩:=e;rw[e',NC]
  by_cases c:a=45
  ·subst c;rw[zT (zY rfl),(AT er).1,(AT er).2]
  ·rw[zI (λy=>c (by have:=zZ y;injection this with this;injection this with this;simpa using this)),e0,AS (λy=>c (by rw[er]at y;injection y))];show(⟨((x.cps.toList.drop 0).take ((x.length:Int)-0).toNat).toArray⟩:Str)=x;rw[Af,xG (by lia)]
theorem Tk (xs:List V)(a b:Nat):DT xs (some (a:Int)) (some (b:Int))=(xs.drop a).take (b-a):=by
 unfold DT;rw[HT.sIx_nat,HT.sIx_nat]
 by_cases h:a<=xs.length
 ·rw[uI h]
  by_cases h2:b<=xs.length
  ·rw[uI h2]
  ·rw[Bj (by lia),xG (by simp),xG (by simp;lia)]
 ·have e1:xs.drop (min a xs.length)=[]:=wE (by lia);have e2:xs.drop a=[]:=wE (by lia);rw[e1,e2,List.take_nil,List.take_nil]
theorem Ku (xs:List V)(a:Nat):DT xs (some (a:Int)) none=xs.drop a:=by
 unfold DT;rw[HT.sIx_nat,HT.sIx_none]
 by_cases h:a<=xs.length
 ·rw[uI h,xG (by simp)]
 ·rw[Bj (by lia),wE (by lia),wE (by lia),List.take_nil]
theorem Yz (xs:List V)(b:Nat):DT xs none (some (b:Int))=xs.take b:=by
 unfold DT;rw[HT.sIx_nat,HT.sIx_none,Af,Nat.sub_zero]
 by_cases h:b<=xs.length
 ·rw[uI h]
 ·rw[Bj (by lia),xG (by lia),xG (by lia)]
structure WZ (W:List Str)(a:Nat)(x:Str):Prop where
 at_:(W++[("":Str)])[a]? =some x
 yes: ∀y,W[a]? =some y->x=y
 no:W[a]? =none->x=""
theorem YV {W:List Str}{a:Nat}(h:a<=W.length): ∃x,WZ W a x:=by
 cases e:W[a]? with
 |some y=>exact⟨y,by rw[uG (EI e)];exact e,λz h=>(by rw[e]at h;injection h),λh=>(by rw[e]at h;cases h)⟩
 |none=>
  have:a=W.length:=by have:=List.getElem?_eq_none_iff.mp e;lia
  exact⟨"",by rw[this,kI (zW _),Av];rfl,λz h=>(by rw[e]at h;cases h),λ_=>rfl⟩
theorem Kq:jL ""=false:=by decide+kernel
theorem Wd:qU "" 60=false:=by decide+kernel
theorem WZ.num {W:List Str}{a:Nat}{x:Str}(h:WZ W a x):IB W a=if qU x 60=true then .ok (vJ x)else .error a:=by
 unfold IB;cases e:W[a]? with
 |some y=>rw[h.yes y e]
 |none=>rw[h.no e,Wd];rfl
theorem WZ.box {W bs:List Str}{a:Nat}{x:Str}(h:WZ W a x)(hb: ∀b∈bs,jL b=true):Ji W a bs=if x∈bs then .ok (bs.idxOf x)else .error a:=by
 unfold Ji;cases e:W[a]? with
 |some y=>rw[h.yes y e]
 |none=>
  rw[h.no e,zI (λz=>by have:=hb _ z;rw[Kq]at this;cases this)]
theorem WZ.called {W:List Str}{num:List (Str×Int)}{a:Nat}{x:Str}(h:WZ W a x):Aq W num a=if jL x=true then(match jT num x with|some f=>.ok f|none=>.error a)else .error a:=by
 unfold Aq;cases e:W[a]? with
 |some y=>
  rw[h.yes y e]
  try dsimp only
  try (cases jT num y<;>rfl)
 |none=>rw[h.no e,Kq];rfl
theorem WZ.new {W there:List Str}{a:Nat}{x:Str}(h:WZ W a x):HL W a there=if jL x=true/\x∉there then .ok x else .error a:=by
 unfold HL;cases e:W[a]? with
 |some y=>rw[h.yes y e]
 |none=>rw[h.no e,Kq,zI (λz=>nomatch z.1)]
theorem WZ.short {W:List Str}{a:Nat}{x:Str}(h:WZ W a x){n:Nat}(hs: ∀w∈W,w.length<=n):x.length<=n:=by
 cases e:W[a]? with
 |some y=>rw[h.yes y e];exact hs y (zX e)
 |none=>rw[h.no e];exact yU _
theorem Ul {W bs:List Str}{num:List (Str×Int)}{cnt:List Int}{a:Nat}{k:Int}(h5:5<=k)(h19:k<=19)(h6:k≠6): ∃v:Nat,v<=3/\FO [V.int 2,.int 0,.int 1,.int 2,.int 2,.int 2,.int 2,.int 2,.int 2,.int 2,.int 2,.int 2,.int 3,.int 1,.int 0] (k-5)=some (.int (v:Int))/\(v:Int)=GZ cnt k []/\Am W num a k bs=.ok ([],a):=by
 have:k=5\/k=7\/k=8\/k=9\/k=10\/k=11\/k=12\/k=13\/k=14\/k=15\/k=16\/k=17\/k=18\/k=19:=by lia
 rcases this with rfl|rfl|rfl|rfl|rfl|rfl|rfl|rfl|rfl|rfl|rfl|rfl|rfl|rfl
 ·exact⟨2,by decide,rfl,rfl,rfl⟩
 ·exact⟨1,by decide,rfl,rfl,rfl⟩
 ·exact⟨2,by decide,rfl,rfl,rfl⟩
 ·exact⟨2,by decide,rfl,rfl,rfl⟩
 ·exact⟨2,by decide,rfl,rfl,rfl⟩
 ·exact⟨2,by decide,rfl,rfl,rfl⟩
 ·exact⟨2,by decide,rfl,rfl,rfl⟩
 ·exact⟨2,by decide,rfl,rfl,rfl⟩
 ·exact⟨2,by decide,rfl,rfl,rfl⟩
 ·exact⟨2,by decide,rfl,rfl,rfl⟩
 ·exact⟨2,by decide,rfl,rfl,rfl⟩
 ·exact⟨3,by decide,rfl,rfl,rfl⟩
 ·exact⟨1,by decide,rfl,rfl,rfl⟩
 ·exact⟨0,by decide,rfl,rfl,rfl⟩
section
variable {W:List Str}{num:List (Str×Int)}{cnt:List Int}{bs:List Str}
theorem Ym {d:Nat}{ds:List Nat}{a:Nat}(h:W.length<=a):PF W num cnt bs (d::ds) a=.error a:=by
 cases d with
 |zero=>rfl
 |succ d=>
  rw[JK];unfold Ag;rw[jC h]
theorem Wy {d:Nat}{ds:List Nat}{a:Nat}{x:Str}(e:W[a]? =some x)(h:x∈bs\/qU x 60=true):PF W num cnt bs ((d+1)::ds) a=PF W num cnt bs ds (a+1):=by
 rw[JK]
 by_cases z:qU x 60=true
 ·have k:Ag W a bs=.ok (0,a):=by unfold Ag;rw[e];exact zT z
  have o:Am W num a 0 bs=.ok ([vJ x],a+1):=by
   unfold Am IB;rw[e,zT rfl];dsimp only;rw[zT z]
  rw[k];dsimp only;rw[o];rfl
 ·have m:x∈bs:=h.resolve_right z;have k:Ag W a bs=.ok (1,a):=by unfold Ag;rw[e];dsimp only;rw[zI z,zT m]
  have o:Am W num a 1 bs=.ok ([(bs.idxOf x:Int)],a+1):=by
   unfold Am Ji;rw[e,zI (by decide),zT (.inl rfl)];dsimp only;rw[zT m]
  rw[k];dsimp only;rw[o];rfl
theorem zAq {d:Nat}{ds:List Nat}{a:Nat}{x:Str}(e:W[a]? =some x)(h1:x∉bs)(h2: ¬qU x 60=true)(h:x∈kwW):PF W num cnt bs ((d+1)::ds) a=match Am W num (a+1) (2+(kwW.idxOf x:Int)) bs with
  | .error e=>.error e
  | .ok r=>PF W num cnt bs (List.replicate (GZ cnt (2+(kwW.idxOf x:Int)) r.1).toNat d++ds) r.2:=by
 have k:Ag W a bs=.ok (2+(kwW.idxOf x:Int),a+1):=by
  unfold Ag;rw[e];dsimp only;rw[zI h2,zI h1,zT h]
 rw[JK,k]
 try dsimp only
 try (cases Am W num (a+1) (2+(kwW.idxOf x:Int)) bs<;>rfl)
theorem zAp {d:Nat}{ds:List Nat}{a:Nat}{x:Str}(e:W[a]? =some x)(h1:x∉bs)(h2: ¬qU x 60=true)(h:x∉kwW):PF W num cnt bs ((d+1)::ds) a=.error a:=by
 rw[JK];unfold Ag;rw[e];dsimp only;rw[zI h2,zI h1,zI h]
end
theorem WO (xs:List V)(a:Nat):DT xs (some (a:Int)) (some ((a:Int)+1))=xs[a]?.toList:=by
 rw[show(a:Int)+1=((a+1:Nat):Int)by lia,Tk,Gs]
 by_cases h:a<xs.length
 ·rw[xQ h,zE h];rfl
 ·rw[wE (by lia),jC (by lia)];rfl
theorem ZX {c d:Bool}{X Y Z:Prop}(hz:(if d=true then X else Y)->Z)(h:c=true\/d=true->X)(h':c=false->d=false->Y):if c=true then(if true=true then X else Y)else Z:=by
 cases c with
 |true=>exact kK (kK (h (.inl rfl)))
 |false=>
  refine qG (hz ?_);cases d with
  |true=>exact kK (h (.inr rfl))
  |false=>exact qG (h' rfl rfl)
theorem YB {c d:Bool}{X Y Z:Prop}(hz:(if d=true then X else Y)->Z)(h:c=true->d=true->X)(h':c=false\/d=false->Y):if c=true then Z else(if false=true then X else Y):=by
 cases c with
 |false=>exact qG (qG (h' (.inl rfl)))
 |true=>
  refine kK (hz ?_);cases d with
  |true=>exact kK (h rfl rfl)
  |false=>exact qG (h' (.inr rfl))
theorem SZ {n j:Nat}(h:j<n):Uq n (j:Int)=some j:=by
 unfold Uq;rw[zT (by lia),zT (by lia),jG]
end L2
namespace L2
open PySem PySem.Spec PyProof.Rows
def Hm (wd:Addr)(W:List Str)(σ:St)(ws:List Str)(t:TE):Prop:= ∀(H:Hp) (Q:VK),H wd=some (.lst (W.map V.str))->(∀a H',kS H H'->H' a=some (.lst (ws.map V.str))->Q (.ref a) H')->t σ H Q
section
variable {wd:Addr}{W ws us:List Str}{σ:St}{K:PySem.W.Frag}{t u t1 t2 t3:TE}
theorem Hm.var (h: ∀(H:Hp) (Q:VK),Q (.ref wd) H->t σ H Q):Hm wd W σ W t:=λH Q hw q=>h H Q (q wd H (kS.refl H) hw)
theorem Hm.to {a:Nat}(h1: ∀(H:Hp) (Q:VK),Q (.ref wd) H->t1 σ H Q)(h2: ∀(H:Hp) (Q:VK),Q (.int (a:Int)) H->t2 σ H Q):Hm wd W σ (W.take a) (tSl (Vs K) t1 Ow (PY t2)):=λH Q hw q=>
 h1 H _ (h2 H _ ⟨_,rfl,wd,_,rfl,.of hw,λp hp=>q p _ (zN hp _) (by rw[zH,Yz,List.map_take])⟩)
theorem Hm.fro {a:Nat}(h1: ∀(H:Hp) (Q:VK),Q (.ref wd) H->t1 σ H Q)(h2: ∀(H:Hp) (Q:VK),Q (.int (a:Int)) H->t2 σ H Q):Hm wd W σ (W.drop a) (tSl (Vs K) t1 (PY t2) Ow):=λH Q hw q=>
 h1 H _ (h2 H _ ⟨_,rfl,wd,_,rfl,.of hw,λp hp=>q p _ (zN hp _) (by rw[zH,Ku,List.map_drop])⟩)
theorem Hm.inn {a b:Nat}(h1: ∀(H:Hp) (Q:VK),Q (.ref wd) H->t1 σ H Q)(h2: ∀(H:Hp) (Q:VK),Q (.int (a:Int)) H->t2 σ H Q)(h3: ∀(H:Hp) (Q:VK),Q (.int (b:Int)) H->t3 σ H Q):Hm wd W σ ((W.drop a).take (b-a)) (tSl (Vs K) t1 (PY t2) (PY t3)):=λH Q hw q=>
 h1 H _ (h2 H _ ⟨_,rfl,h3 H _ ⟨_,rfl,wd,_,rfl,.of hw,λp hp=>q p _ (zN hp _) (by rw[zH,Tk,List.map_take,List.map_drop])⟩⟩)
theorem Hm.one {x:Str}(h: ∀(H:Hp) (Q:VK),Q (.str x) H->t σ H Q):Hm wd W σ [x] (zBz (Vh t Rh)):=λH Q hw q=>
 h H _ ⟨sm1,λp hp=>q p _ (zN hp _) zH⟩
theorem Hm.cat (hl:ws.length+us.length<=8000000)(h:Hm wd W σ ws t)(h':Hm wd W σ us u):Hm wd W σ (ws++us) (ZB ZL t u):=λH Q hw q=>
 h H _ hw λa H1 s1 e1=>h' H1 _ (s1 _ _ hw) λb H2 s2 e2=>⟨a,b,_,_,rfl,rfl,s2 _ _ e1,e2,by rw[zD,zD];exact kP hl,λp hp=>q p _ (s1.trans (s2.trans (zN hp _))) (by rw[zH,yB])⟩
end
def menuW:List Str:=kwA++([("0":Str),"1","12","13","2","01","-0","-7","1.0","+1","1_0"]:List Str)++([("zz":Str),"aaaaaaaaa","A","f_","-"]:List Str)
instance (c:Nat):Decidable (CS c):=inferInstanceAs (Decidable (_\/_))
theorem Yb: ∀w∈menuW,ME w:=λw hw=>by
 have: ∀w∈menuW,w.cps.toList≠[]/\(∀c∈w.cps.toList,¬CS c)/\w.length<=61:=by decide+kernel
 exact⟨(this w hw).1,(this w hw).2.1,(this w hw).2.2⟩
theorem QB:menuW.length=37:=by decide+kernel
end L2
namespace L2
open PySem PySem.W PySem.Spec PySem.Calls PyProof.Rows
def zCu (K:Frag):List V->Hp->VK->Prop:=λxs H Q=> ∃(x C dx:Addr) (fs:List (Str×V)) (tp:Addr) (Ds:List Addr) (b:Bool),H x=some (Jl x C (some dx))/\H dx=some (MD dx fs)/\EL K C/\Xb K C/\xs=[.ref x,.ref tp]/\H tp=some (.tup (Ds.map V.ref))/\kitAny K (.ref C) (Ds.map Value.ref)=some b/\Q (.bl b) H
theorem Na: ∀{ns:List Addr} {us:List Value},jS (ns.map V.ref) us->us=ns.map Value.ref
 |[],_,.nil=>rfl
 |n::ns,_,.cons h t=>by
  rw[Na t,yQ];congr 1
theorem UK {X:Cx}:EM X (.builtin "isinstance") (zCu X.K):=by
 intro pins s σ H xs us Q I r h;obtain⟨x,C,dx,fs,tp,Ds,b,hx,hd,Ec,Ic,rfl,ht,e,q⟩:=h;obtain⟨ox,vs,ge,hcl,hdi,hda,_⟩:=Jl.get I.hok hx;obtain⟨mA,n,_,_⟩:=MD.get I.hok hd;obtain⟨od,hod,hl⟩:=Ge n;have J:InstAt s.heap x ox C (some od):=⟨ge,hcl,by unfold notCls;rw[hda],by rw[hdi];exact hod⟩;obtain⟨_,its2,r2,p⟩:=(show wT X.prog X.w H s.heap tp (.tup (Ds.map V.ref))from I.hok tp _ ht);obtain⟨⟨oc,od',oda,osl⟩,h1,h2,n2,h3⟩:=p;dsimp only at h2 h3;subst h2 h3;have hv:=Na r2;subst hv;obtain⟨u,w',rfl,ru,rw'⟩:=KF r;cases ru;cases rw';exact kia_tup (Mh Ec Ic.ha Ic.hn Ic.htk) I.kIn J h1 e (λz=>nomatch z) λtk=>⟨.bl b,H,I.tok tk,rfl,q⟩
theorem Yh {K:Frag}{t a b c d:Value}(ha:kitOne K t a=some false)(hb:kitOne K t b=some false)(hc:kitOne K t c=some false)(hd:kitOne K t d=some false):kitAny K t [a,b,c,d]=some false:=by
 unfold kitAny;rw[ha];show kitAny K t [b,c,d]=_;unfold kitAny;rw[hb];show kitAny K t [c,d]=_;unfold kitAny;rw[hc];show kitAny K t [d]=_;unfold kitAny;rw[hd]<;>rfl
end L2
namespace L2
open PySem PySem.Spec PyProof.Rows
theorem Zx {α:Type}{M:Model}{A:Around}{t:Sem α}{P Q:α->Shared->Prop}{E:Value->Shared->Prop}{s:Shared}(h:wpAny M A t P E s)(h0:0<s.toks)(f: ∀v s1,P v s1->0<s1.toks->Q v s1):wpAny M A t Q E s:=
 Lw (wD h (λv s1 p le=>f v s1 p (yY h0 le)) (λ_ _ q _=>q))
structure PST (X:Cx)(st:Stmt)(t:TS):Prop where
 go: ∀(pins:List (Addr×Obj)) (s:Shared) (σ:St) (H:Hp) (D:He),xK X pins σ H s->0<s.toks->t D σ H->wpAny (model X.prog X.w) X.A (exec st X.env) (SP X pins D) X.xe s
section
variable {X:Cx}{st:Stmt}{rest:List Stmt}{t u:TS}{a b:Expr}{ta tb:TE}{pos:Pos}
theorem Ij (h1:PS X st t)(h2:MU X rest u):MU X (st::rest) (Zz t u):=by
 refine⟨?_⟩;intro pins s σ H D I h0 h;refine Bh (Zx (h1 pins s σ H {D with nx:=u D} I h) h0 λf s1 q h1=>?_);cases f with
 |next=>
  obtain⟨σ',H',I',q⟩:=q;exact h2.go pins s1 σ' H' D I' h1 q
 |ret v=>exact q
 |brk=>exact q
 |cont=>exact q
theorem RC (h1:PST X st t)(h2:MJ X rest u):MU X (st::rest) (Zz t u):=by
 refine⟨?_⟩;intro pins s σ H D I h0 h;refine Bh (qT (h1.go pins s σ H {D with nx:=u D} I h0 h) λf s1 q=>?_);cases f with
 |next=>
  obtain⟨σ',H',I',q⟩:=q;exact h2 pins s1 σ' H' D I' q
 |ret v=>exact q
 |brk=>exact q
 |cont=>exact q
theorem ZM {c:Expr}{a b:List Stmt}{tc:TT}(hc:PT X c tc)(ha:MU X a t)(hb:MJ X b u):PST X (.If c a b pos) (zCa tc t u):=by
 refine⟨?_⟩;intro pins s σ H D I h0 h;refine wpAny_If (Zx (hc pins s σ H _ I h) h0 λd s1 ⟨H1,I1,q1⟩ h1=>?_);cases d with
 |true=>exact ha.go pins s1 σ H1 D I1 h1 q1
 |false=>exact hb pins s1 σ H1 D I1 q1
theorem XC {op}{t:TE}(h:UR X a t):UR X (.BoolOp op [a] pos) t:=⟨λpins s σ H Q I h0 hw=>BoolOp_one (h.go pins s σ H Q I h0 hw)⟩
theorem XH {rest:List Expr}(ha:PE X a ta)(hb:UR X (.BoolOp .And (b::rest) pos) tb):UR X (.BoolOp .And (a::b::rest) pos) (YS ta tb):=by
 refine⟨?_⟩;intro pins s σ H Q I h0 h;refine BoolOp_and (Zx (ha pins s σ H _ I h) h0 λv s1 ⟨x,H1,I1,r1,q1⟩ h1=>?_);obtain⟨c,rfl,q1⟩:=q1;cases r1;refine kY ?_;cases c with
 |true=>exact hb.go pins s1 σ H1 Q I1 h1 q1
 |false=>exact⟨.bl false,H1,I1,rfl,q1⟩
theorem VG {op:CmpOp}{r:R2}(ho:ID X (compareOp op) r)(ha:UR X a ta)(hb:PE X b tb)(hm:behindInMarks op b=false):UR X (.Compare a [op] [b] pos) (ZB r ta tb):=by
 refine⟨?_⟩;intro pins s σ H Q I h0 h;refine wpAny_Compare1 (qT (ha.go pins s σ H _ I h0 h) λv s1 ⟨x,H1,I1,r1,q1⟩=>?_) hm;refine qT (hb pins s1 σ H1 _ I1 q1) λu s2 hzz=>?_;obtain⟨y,H2,I2,r2,q2⟩:=hzz;exact ho pins s2 σ H2 x y v u Q I2 r1 r2 q2
theorem MU.nox {st:List Stmt}{t:TS}(h:MU X.nox st t):MU X st t:=⟨λpins s σ H D I h0 hw=>
 wD (h.go pins s σ H D (I.wish _) h0 hw) (λ_ _ q=>q.unwish) λ_ _ z=>False.elim z⟩
end
theorem uB.okNT {P:Program}{w:World}{K:PySem.W.Frag}{mg:Str->Option Value}{base:Heap}{CX:JW}{x qual:Str}{st:Stmt}{f:Addr}{fd:FuncData}{N ps:List Str}{p0:Str}{k:Nat}{sp:Sp}(F:uB K x qual st f fd)(S:xA N (p0::ps) (yH st))(h0:(yH st).names.lookup p0=some .local)(len: ∀vs H Q E,sp vs H Q E->vs.length=(p0::ps).length)
  (hbody: ∀(cdv:Value) (A:Around) (outer:List Env) (s:Shared) (H:Hp) (vs:List V) (Q:VK) (E:XK),uE k (A.deeper (envOfC qual (yH st) s.heap.objs.size f cdv))->sp vs H Q E->
   ∃t,MU (JO CX P w K mg base N qual (yH st) f cdv A outer s H E).nox (vS st) t/\t {nx:=λ_ H'=>Q .non H',rt:=Q} (Ey N vs) H):CU P w K mg base CX (k+1) f fd (p0::ps) sp:=by
 obtain⟨oc,od,kV,doc,pm,an,cdv,ct,osl,rfl,lk,hcd⟩:=F.ex;refine WC lk hcd S h0 len λA outer s H vs Q E hr hsp=>?_;obtain⟨t,h,q⟩:=hbody cdv A outer s H vs Q E hr hsp;exact⟨t,h.nox,q⟩
section
variable {X:Cx}{pos p:Pos}{x:Str}{e a b:Expr}{es:List Expr}{te ta tb:TE}{t:TA}
theorem pa1 (h:PE X e te)(s:starEach [e] X.env=(false,eval e X.env)::starEach [] X.env:=by rfl):PA X [e] (Vh te Rh):=zA h zG s
end
abbrev uT (P:Program)(w:World)(K:PySem.W.Frag)(mg:Str->Option Value)(base:Heap):=Xi P w K mg base (Hl P w)
abbrev BT (P:Program)(w:World)(K:PySem.W.Frag)(mg:Str->Option Value)(base:Heap):=CU P w K mg base (Hl P w)
section
variable {P:Program}{w:World}{K:PySem.W.Frag}{mg:Str->Option Value}{base:Heap}
theorem uB.oN {CX:JW}{x qual:Str}{st:Stmt}{f:Addr}{fd:FuncData}{N ps:List Str}{k:Nat}{sp:Sp}(F:uB K x qual st f fd)(S:xA N ps (yH st))
  (hbody: ∀(cdv:Value) (A:Around) (outer:List Env) (s:Shared) (H:Hp) (vs:List V) (Q:VK) (E:XK),uE k (A.deeper (envOfC qual (yH st) s.heap.objs.size f cdv))->sp vs H Q E->
   ∃t,MJ (JO CX P w K mg base N qual (yH st) f cdv A outer s H E).nox (vS st) t/\t {nx:=λ_ H'=>Q .non H',rt:=Q} (Ey N vs) H) (len: ∀vs H Q E,sp vs H Q E->vs.length=ps.length:=by intro _ _ _ _ h;cases h;subst_vars;rfl):CU P w K mg base CX (k+1) f fd ps sp:=F.okN S len hbody
theorem uB.oX {x qual:Str}{st:Stmt}{f:Addr}{fd:FuncData}{N ps:List Str}{k:Nat}{sp:Sp}(F:uB K x qual st f fd)(S:xA N ps (yH st))
  (hbody: ∀(cdv:Value) (A:Around) (outer:List Env) (s:Shared) (H:Hp) (vs:List V) (Q:VK) (E:XK),uE k (A.deeper (envOfC qual (yH st) s.heap.objs.size f cdv))->sp vs H Q E->
   ∃t,MJ ((JO (Hl P w) P w K mg base N qual (yH st) f cdv A outer s H E).exc E) (vS st) t/\t {nx:=λ_ H'=>Q .non H',rt:=Q} (Ey N vs) H) (len: ∀vs H Q E,sp vs H Q E->vs.length=ps.length:=by intro _ _ _ _ h;cases h;subst_vars;rfl):CU P w K mg base (Hl P w) (k+1) f fd ps sp:=F.okX S len hbody
end
end L2
namespace L2
open PySem PySem.W PySem.W.X
theorem walkX_of {q:Program}{loose:List Str}{XP:(Str->Option Value)->Heap->Prop}{as:List Addr}{K:Params->Frag}{n t:Nat}{r:RowW}{d:DefRec}{kwd:List (Str×Expr)}{run:Value->List Value->Sem Value}(e: ∀P,as=(K P).map (·.1))
  (h:WalkO q loose XP (λw h=>(K w.params).In h) r d kwd run):WalkX q loose XP (obsZ as) (valZ K n t) r d kwd run:=by
 intro w s₀ s₁ mg mb G y a o pm cd doc dV kV h1 h2 h3 h4 h5 h6 args vals as' L h7 h8 h9 h10 h11;have Y:(K w.params).In s₁.heap:=InK.keeps (K:=K) w s₀.heap s₁.heap (z_facts e y).2.1 L.keeps;exact h w s₀ s₁ mg mb G Y a o pm cd doc dV kV h1 h2 h3 h4 h5 h6 args vals as' h7 h8 h9 h10 h11
end L2
namespace OcL
open PySem L2
def top (i:Nat):Stmt:=PySem.Challenge.pw_ownchain_k10_words_looked_through.main.body.getD i (.Pass ⟨0,0,0,0⟩)
abbrev BH:Stmt:=Iu (top 2) 0
theorem IA:xA ["self","place","word"] ["self","place","word"] (yH BH):=⟨rfl,rfl,rfl,by decide+kernel,rfl,by decide+kernel,by decide+kernel⟩
abbrev CI:Stmt:=Iu (top 3) 0
theorem IP:xA ["self","at"] ["self","at"] (yH CI):=⟨rfl,rfl,rfl,by decide+kernel,rfl,by decide+kernel,by decide+kernel⟩
abbrev GI:Stmt:=top 19
theorem KJ:xA ["kind"] ["kind"] (yH GI):=⟨rfl,rfl,rfl,by decide+kernel,rfl,by decide+kernel,by decide+kernel⟩
abbrev Kg:Stmt:=top 20
theorem Ru:xA ["kind"] ["kind"] (yH Kg):=⟨rfl,rfl,rfl,by decide+kernel,rfl,by decide+kernel,by decide+kernel⟩
abbrev Kh:Stmt:=top 21
theorem Rw:xA ["word"] ["word"] (yH Kh):=⟨rfl,rfl,rfl,by decide+kernel,rfl,by decide+kernel,by decide+kernel⟩
abbrev IT:Stmt:=top 30
theorem Qd:xA ["thing"] ["thing"] (yH IT):=⟨rfl,rfl,rfl,by decide+kernel,rfl,by decide+kernel,by decide+kernel⟩
abbrev DS:Stmt:=Iu (top 31) 0
theorem Kf:xA ["self","numbers"] ["self","numbers"] (yH DS):=⟨rfl,rfl,rfl,by decide+kernel,rfl,by decide+kernel,by decide+kernel⟩
abbrev HG:Stmt:=Iu (top 31) 1
theorem Jx:xA ["self","number"] ["self"] (yH HG):=⟨rfl,rfl,rfl,by decide+kernel,rfl,by decide+kernel,by decide+kernel⟩
abbrev BI:Stmt:=Iu (top 31) 2
theorem Bn:xA ["self","least","most","place","number"] ["self","least","most"] (yH BI):=⟨rfl,rfl,rfl,by decide+kernel,rfl,by decide+kernel,by decide+kernel⟩
abbrev GG:Stmt:=top 32
theorem AC:xA ["look","heads","most_params","function","params"] ["look"] (yH GG):=⟨rfl,rfl,rfl,by decide+kernel,rfl,by decide+kernel,by decide+kernel⟩
abbrev CB:Stmt:=top 33
theorem IN:xA ["look","kind","heads","boxes"] ["look","kind","heads","boxes"] (yH CB):=⟨rfl,rfl,rfl,by decide+kernel,rfl,by decide+kernel,by decide+kernel⟩
abbrev Fl:Stmt:=top 35
theorem Jw:xA ["kind","numbers","heads"] ["kind","numbers","heads"] (yH Fl):=⟨rfl,rfl,rfl,by decide+kernel,rfl,by decide+kernel,by decide+kernel⟩
abbrev Fj:Stmt:=top 36
theorem AZ:xA ["look","heads","boxes","deep","place","kind","numbers","parts","part"] ["look","heads","boxes","deep"] (yH Fj):=⟨rfl,rfl,rfl,by decide+kernel,rfl,by decide+kernel,by decide+kernel⟩
abbrev HA:Stmt:=top 37
theorem Ba:xA ["sheet","look","heads","told","params","boxes"] ["sheet"] (yH HA):=⟨rfl,rfl,rfl,by decide+kernel,rfl,by decide+kernel,by decide+kernel⟩
abbrev IS:Stmt:=top 38
theorem DA:xA ["body","told","waiting","node","part"] ["body"] (yH IS):=⟨rfl,rfl,rfl,by decide+kernel,rfl,by decide+kernel,by decide+kernel⟩
abbrev GF:Stmt:=top 45
theorem Qb:xA ["text"] ["text"] (yH GF):=⟨rfl,rfl,rfl,by decide+kernel,rfl,by decide+kernel,by decide+kernel⟩
abbrev DQ:Stmt:=top 46
theorem FV:xA ["word","signs","sign"] ["word","signs"] (yH DQ):=⟨rfl,rfl,rfl,by decide+kernel,rfl,by decide+kernel,by decide+kernel⟩
abbrev Ki:Stmt:=top 47
theorem Rx:xA ["word"] ["word"] (yH Ki):=⟨rfl,rfl,rfl,by decide+kernel,rfl,by decide+kernel,by decide+kernel⟩
abbrev EA:Stmt:=top 48
theorem Hg:xA ["word","most_figures","figures"] ["word","most_figures"] (yH EA):=⟨rfl,rfl,rfl,by decide+kernel,rfl,by decide+kernel,by decide+kernel⟩
abbrev Hz:Stmt:=top 49
theorem OQ:xA ["word"] ["word"] (yH Hz):=⟨rfl,rfl,rfl,by decide+kernel,rfl,by decide+kernel,by decide+kernel⟩
abbrev BG:Stmt:=Iu (top 50) 0
theorem Iz:xA ["self","words"] ["self","words"] (yH BG):=⟨rfl,rfl,rfl,by decide+kernel,rfl,by decide+kernel,by decide+kernel⟩
abbrev Ez:Stmt:=top 51
theorem Ay:xA ["words","numbered","function","at"] ["words"] (yH Ez):=⟨rfl,rfl,rfl,by decide+kernel,rfl,by decide+kernel,by decide+kernel⟩
abbrev EB:Stmt:=top 52
theorem Az:xA ["words","counted","ended","at"] ["words"] (yH EB):=⟨rfl,rfl,rfl,by decide+kernel,rfl,by decide+kernel,by decide+kernel⟩
abbrev Vo:Stmt:=top 53
theorem ZI:xA ["reading"] ["reading"] (yH Vo):=⟨rfl,rfl,rfl,by decide+kernel,rfl,by decide+kernel,by decide+kernel⟩
abbrev DP:Stmt:=top 54
theorem FU:xA ["reading","there","name"] ["reading","there"] (yH DP):=⟨rfl,rfl,rfl,by decide+kernel,rfl,by decide+kernel,by decide+kernel⟩
abbrev GH:Stmt:=top 55
theorem MM:xA ["reading","boxes","most","last"] ["reading","boxes","most","last"] (yH GH):=⟨rfl,rfl,rfl,by decide+kernel,rfl,by decide+kernel,by decide+kernel⟩
abbrev IQ:Stmt:=top 56
theorem KH:xA ["reading","boxes","name"] ["reading","boxes"] (yH IQ):=⟨rfl,rfl,rfl,by decide+kernel,rfl,by decide+kernel,by decide+kernel⟩
abbrev FF:Stmt:=top 57
theorem Hq:xA ["reading","word"] ["reading"] (yH FF):=⟨rfl,rfl,rfl,by decide+kernel,rfl,by decide+kernel,by decide+kernel⟩
abbrev Hu:Stmt:=top 58
theorem GC:xA ["reading","least","at","many"] ["reading","least"] (yH Hu):=⟨rfl,rfl,rfl,by decide+kernel,rfl,by decide+kernel,by decide+kernel⟩
abbrev FG:Stmt:=top 59
theorem Hr:xA ["reading","name"] ["reading"] (yH FG):=⟨rfl,rfl,rfl,by decide+kernel,rfl,by decide+kernel,by decide+kernel⟩
abbrev Dp:Stmt:=top 60
theorem Ju:xA ["reading","kind","boxes"] ["reading","kind","boxes"] (yH Dp):=⟨rfl,rfl,rfl,by decide+kernel,rfl,by decide+kernel,by decide+kernel⟩
abbrev Hv:Stmt:=top 62
theorem GD:xA ["reading","boxes","word","kind"] ["reading","boxes"] (yH Hv):=⟨rfl,rfl,rfl,by decide+kernel,rfl,by decide+kernel,by decide+kernel⟩
abbrev Fk:Stmt:=top 63
theorem Em:xA ["reading","boxes","deep","kind","numbers","part"] ["reading","boxes","deep"] (yH Fk):=⟨rfl,rfl,rfl,by decide+kernel,rfl,by decide+kernel,by decide+kernel⟩
abbrev By:Stmt:=top 64
theorem Do:xA ["reading","name","boxes"] ["reading"] (yH By):=⟨rfl,rfl,rfl,by decide+kernel,rfl,by decide+kernel,by decide+kernel⟩
abbrev Hy:Stmt:=top 65
theorem Jv:xA ["text","reading"] ["text"] (yH Hy):=⟨rfl,rfl,rfl,by decide+kernel,rfl,by decide+kernel,by decide+kernel⟩
abbrev IR:Stmt:=top 66
theorem Qc:xA ["kind","number","boxes","names"] ["kind","number","boxes","names"] (yH IR):=⟨rfl,rfl,rfl,by decide+kernel,rfl,by decide+kernel,by decide+kernel⟩
abbrev Hx:Stmt:=top 67
theorem Ai:xA ["body","boxes","names","words","kind","place","numbers","parts","number"] ["body","boxes","names"] (yH Hx):=⟨rfl,rfl,rfl,by decide+kernel,rfl,by decide+kernel,by decide+kernel⟩
abbrev Hw:Stmt:=top 68
theorem wO:xA ["names","sheet","lines","named","told","name","boxes","params","many","body","words"] ["names","sheet"] (yH Hw):=⟨rfl,rfl,rfl,by decide+kernel,rfl,by decide+kernel,by decide+kernel⟩
abbrev IU:Stmt:=top 70
theorem Fh:xA ["_law_script","_law_k","_law_cell"] ["_law_script","_law_k"] (yH IU):=⟨rfl,rfl,rfl,by decide+kernel,rfl,by decide+kernel,by decide+kernel⟩
abbrev HD:Stmt:=top 71
theorem CA:xA ["_law_pen_here","_law_many","_law_drawn","_law_number_here"] ["_law_pen_here","_law_many"] (yH HD):=⟨rfl,rfl,rfl,by decide+kernel,rfl,by decide+kernel,by decide+kernel⟩
abbrev GK:Stmt:=top 72
theorem IH:xA ["_law_words_here"] [] (yH GK):=⟨rfl,rfl,rfl,by decide+kernel,rfl,by decide+kernel,by decide+kernel⟩
abbrev Fm:Stmt:=top 73
theorem En:xA ["_law_pen_here","_law_taken","_law_letters","_law_size","_law_signs"] ["_law_pen_here","_law_taken"] (yH Fm):=⟨rfl,rfl,rfl,by decide+kernel,rfl,by decide+kernel,by decide+kernel⟩
abbrev GM:Stmt:=top 74
theorem vF:xA ["_law_pen_here","_law_most","_law_found","_law_taken","_law_k","_law_name_here","_law_params","_law_boxes","_law_j"] ["_law_pen_here","_law_most"] (yH GM):=⟨rfl,rfl,rfl,by decide+kernel,rfl,by decide+kernel,by decide+kernel⟩
abbrev FH:Stmt:=top 75
theorem Ht:xA ["_law_pen_here","_law_is_far","_law_way"] ["_law_pen_here","_law_is_far"] (yH FH):=⟨rfl,rfl,rfl,by decide+kernel,rfl,by decide+kernel,by decide+kernel⟩
abbrev Eo:Stmt:=top 76
theorem jH:xA ["_law_pen_here","_law_heads_here","_law_boxes","_law_left","_law_deep","_law_kind","_law_number_here","_law_at","_law_word","_law_many","_law_words_here","_law_numbers","_law_count","_law_k","_law_more","_law_further"] ["_law_pen_here","_law_heads_here","_law_boxes","_law_left","_law_deep"] (yH Eo):=⟨rfl,rfl,rfl,by decide+kernel,rfl,by decide+kernel,by decide+kernel⟩
abbrev CF:Stmt:=top 77
theorem jP:xA ["_law_pen_here","_law_most","_law_room","_law_heads_here","_law_names","_law_sheet","_law_name_here","_law_boxes","_law_params","_law_lines","_law_words_here","_law_numbers","_law_line"] ["_law_pen_here","_law_most","_law_room"] (yH CF):=⟨rfl,rfl,rfl,by decide+kernel,rfl,by decide+kernel,by decide+kernel⟩
abbrev CG:Stmt:=top 78
theorem Lh:xA ["_law_word"] ["_law_word"] (yH CG):=⟨rfl,rfl,rfl,by decide+kernel,rfl,by decide+kernel,by decide+kernel⟩
abbrev Bb:Stmt:=top 79
theorem Fi:xA ["_law_word","_law_figures"] ["_law_word"] (yH Bb):=⟨rfl,rfl,rfl,by decide+kernel,rfl,by decide+kernel,by decide+kernel⟩
abbrev CH:Stmt:=top 80
theorem Aj:xA ["_law_words_here","_law_found","_law_at","_law_behind"] ["_law_words_here"] (yH CH):=⟨rfl,rfl,rfl,by decide+kernel,rfl,by decide+kernel,by decide+kernel⟩
abbrev DR:Stmt:=top 81
theorem FW:xA ["_law_words_here","_law_at","_law_end","_law_boxes","_law_most"] ["_law_words_here","_law_at","_law_end","_law_boxes","_law_most"] (yH DR):=⟨rfl,rfl,rfl,by decide+kernel,rfl,by decide+kernel,by decide+kernel⟩
abbrev IV:Stmt:=top 82
theorem Hs:xA ["_law_words_here","_law_at","_law_boxes","_law_heads_here","_law_kind","_law_word"] ["_law_words_here","_law_at","_law_boxes","_law_heads_here"] (yH IV):=⟨rfl,rfl,rfl,by decide+kernel,rfl,by decide+kernel,by decide+kernel⟩
abbrev HE:Stmt:=top 83
theorem Ak:xA ["_law_words_here","_law_at","_law_boxes","_law_heads_here","_law_deeps","_law_deep","_law_word","_law_many"] ["_law_words_here","_law_at","_law_boxes","_law_heads_here"] (yH HE):=⟨rfl,rfl,rfl,by decide+kernel,rfl,by decide+kernel,by decide+kernel⟩
abbrev GJ:Stmt:=top 84
theorem qB:xA ["_law_words_here","_law_heads_here","_law_names","_law_at","_law_name_here","_law_boxes","_law_good"] ["_law_words_here"] (yH GJ):=⟨rfl,rfl,rfl,by decide+kernel,rfl,by decide+kernel,by decide+kernel⟩
abbrev GL:Stmt:=top 85
theorem MN:xA ["_law_e","_law_at"] ["_law_e","_law_at"] (yH GL):=⟨rfl,rfl,rfl,by decide+kernel,rfl,by decide+kernel,by decide+kernel⟩
abbrev HF:Stmt:=top 86
theorem uK:xA ["_law_pen_here","_law_words_here","_law_at","_law_other","_law_menu","_law_fresh","_law_way","_law_found"] ["_law_pen_here","_law_words_here"] (yH HF):=⟨rfl,rfl,rfl,by decide+kernel,rfl,by decide+kernel,by decide+kernel⟩
abbrev HC:Stmt:=top 87
theorem vA:xA ["_law_words_here","_law_wanted","_law_caught","_law_shown","_law_names","_law_sheet","_law_e"] ["_law_words_here"] (yH HC):=⟨rfl,rfl,rfl,by decide+kernel,rfl,by decide+kernel,by decide+kernel⟩
abbrev Vn:Stmt:=top 88
theorem FE:xA ["_law_script","_law_k","_law_pen_here","_law_names","_law_sheet","_law_lines","_law_words_here","_law_turn","_law_bent_here"] ["_law_script"] (yH Vn):=⟨rfl,rfl,rfl,by decide+kernel,rfl,by decide+kernel,by decide+kernel⟩
structure zBb (K:PySem.W.Frag)(mg:Str->Option Value):Prop where
 n_len:mg "len"=none
 m_FIGURES:YK mg "FIGURES" "0123456789"
 m_MOST_FIGURES:At mg "MOST_FIGURES" 60
structure Txt (K:PySem.W.Frag)(mg:Str->Option Value)(aP aW aH CT CR:Addr):Prop where
 n_len:mg "len"=none
 n_range:mg "range"=none
 n_int:mg "int"=none
 n_tuple:mg "tuple"=none
 n_str:mg "str"=none
 n_isinstance:mg "isinstance"=none
 m_NUMBER:At mg "NUMBER" 0
 m_GET:At mg "GET" 1
 m_SET:At mg "SET" 2
 m_ALL:At mg "ALL" 3
 m_PICK:At mg "PICK" 4
 m_LOOP:At mg "LOOP" 5
 m_CALL:At mg "CALL" 6
 m_FAIL:At mg "FAIL" 7
 m_MOST_FUNCTIONS:At mg "MOST_FUNCTIONS" 16
 m_MOST_PARAMS:At mg "MOST_PARAMS" 4
 m_MOST_BOXES:At mg "MOST_BOXES" 12
 m_MOST_DEEP:At mg "MOST_DEEP" 10
 m_MOST_MANY:At mg "MOST_MANY" 12
 m_LEAST_ALL:At mg "LEAST_ALL" 1
 m_LEAST_PICK:At mg "LEAST_PICK" 2
 m_MOST_LETTERS:At mg "MOST_LETTERS" 8
 m_MOST_FIGURES:At mg "MOST_FIGURES" 60
 m_LETTERS:YK mg "LETTERS" lettersS
 m_FIGURES:YK mg "FIGURES" "0123456789"
 m_WORDS:mg "WORDS"=some (.ref aW)
 m_HEAD_WORDS:mg "HEAD_WORDS"=some (.ref aH)
 m_PARTS:mg "PARTS"=some (.ref aP)
 words: ∀H,Gm K H aW (kwW.map V.str)
 wordsT: ∃o,K.lookup aW=some o/\o.cls=.type "tuple"/\o.dict=none
 hwords: ∀H,Gm K H aH (kwH.map V.str)
 parts: ∀H,Gm K H aP (partsW.map V.int)
 kstr:PySem.W.kitOne K (.type "str") (.type "str")=some true
 exc:EL K CT
 xat:uF K CT "at"
 cls:Tw K CR
 f_words:uF K CR "words"
 f_at:uF K CR "at"
 f_names:uF K CR "names"
 f_heads:uF K CR "heads"
 f_bodies:uF K CR "bodies"
 f_numbered:uF K CR "numbered"
 f_counted:uF K CR "counted"
structure JU (K:PySem.W.Frag)(mg:Str->Option Value)(aP CL CN:Addr):Prop where
 n_len:mg "len"=none
 n_abs:mg "abs"=none
 n_range:mg "range"=none
 n_isinstance:mg "isinstance"=none
 n_int:mg "int"=none
 n_bool:mg "bool"=none
 n_list:mg "list"=none
 n_tuple:mg "tuple"=none
 m_NUMBER:At mg "NUMBER" 0
 m_GET:At mg "GET" 1
 m_SET:At mg "SET" 2
 m_ALL:At mg "ALL" 3
 m_PICK:At mg "PICK" 4
 m_LOOP:At mg "LOOP" 5
 m_CALL:At mg "CALL" 6
 m_FAIL:At mg "FAIL" 7
 m_NEW:At mg "NEW" 19
 m_MOST_FUNCTIONS:At mg "MOST_FUNCTIONS" 16
 m_MOST_PARAMS:At mg "MOST_PARAMS" 4
 m_MOST_BOXES:At mg "MOST_BOXES" 12
 m_MOST_DEEP:At mg "MOST_DEEP" 10
 m_MOST_MANY:At mg "MOST_MANY" 12
 m_LEAST_ALL:At mg "LEAST_ALL" 1
 m_LEAST_PICK:At mg "LEAST_PICK" 2
 m_PARTS:mg "PARTS"=some (.ref aP)
 m_NoSheet:mg "NoSheet"=some (.ref CN)
 parts: ∀H,Gm K H aP (partsN.map V.int)
 kint:PySem.W.kitOne K (.type "int") (.type "int")=some true
 kbool:PySem.W.kitOne K (.type "int") (.type "bool")=some false
 klist:PySem.W.kitOne K (.type "list") (.type "list")=some true
 ktup:PySem.W.kitOne K (.type "tuple") (.type "tuple")=some true
 look:Tw K CL
 lnum:uF K CL "numbers"
 lplace:uF K CL "place"
 exc:EL K CN
 xplace:uF K CN "place"
 xword:uF K CN "word"
 mch:Mch K CN CN
section
variable {P:Program}{w:World}{K:PySem.W.Frag}{mg:Str->Option Value}{base:Heap}{f:Addr}{fd:FuncData}{aP aW aH CT CR CL CN:Addr}
inductive Ff (vs:List V) (H:Hp) (Q:VK) (E:XK):Prop
 |mk (w sg:Str) (h0:vs=[.str w,.str sg]) (h1:Q (.bl (AM w sg)) H):Ff vs H Q E
theorem MP (F:uB K "is_written_in" "is_written_in" DQ f fd):BT P w K mg base 1 f fd ["word","signs"] Ff:=by
 refine F.oN FV λcdv A outer s H vs Q E hr h=>?_;obtain⟨x,sg,rfl,q⟩:=h;refine⟨_,(zF (Al xS rfl (RF (pv 0)) (xJ (i:=2) FV.nd rfl (Or.inl rfl)) (zL (xP (yI GQ (pv 2) (pv 1) rfl) (zL (yO Fp)) yM)))
   (zL (yO Fp))),?_⟩
 try dsimp only[Cx.nox,Cx.exc,Cx.wish,xX]
 refine⟨_,rfl,x,rfl,Ys (λi σ' H'=>(∃v2,σ'=[some (.str x),some (.str sg),v2])/\H'=H/\ ∀j c,j<i->x.cps[j]? =some c->c∈sg.cps.toList) ⟨⟨_,rfl⟩,rfl,λj c hj=>absurd hj (Nat.not_lt_zero _)⟩ ?_ ?_⟩
 ·rintro i c σ' H' hc ⟨⟨v2,rfl⟩,rfl,hi⟩;refine⟨_,rfl,_,rfl,_,_,rfl,rfl,_,rfl,?_⟩;rw[SJ]
  by_cases m:c∈sg.cps.toList
  ·rw[zY m];refine qG ⟨⟨_,rfl⟩,rfl,λj d hj hd=>?_⟩
   by_cases z:j=i
   ·subst z;rw[hc]at hd;cases hd;exact m
   ·exact hi j d (by lia) hd
  ·rw[yA m];refine kK ?_;have:AM x sg=false:=by
    unfold AM;rw[List.all_eq_false];refine⟨c,?_,by rw[yA m];exact yK⟩;rw[<-AJ]at hc;exact zX hc
   rw[this]at q;exact q
 ·rintro σ' H' ⟨⟨v2,rfl⟩,rfl,hi⟩;have:AM x sg=true:=by
   unfold AM;rw[wM];intro c hc;obtain⟨j,hj⟩:=qW hc;rw[AJ]at hj;have hl:j<x.cps.size:=by
    rw[Array.getElem?_eq_some_iff]at hj;exact hj.1
   exact zY (hi j c hl hj)
  rw[this]at q;exact q
inductive OE (vs:List V) (H:Hp) (Q:VK) (E:XK):Prop
 |mk (x:Str) (most:Int) (h0:vs=[.str x,.int most]) (h1:x.length<=sizeLine) (h2:Q (.bl (qU x most)) H):OE vs H Q E
theorem Pe (T:zBb K mg)(F:uB K "is_number_of" "is_number_of" EA f fd)(Cn:uT P w K mg base 1 "is_written_in" ["word","signs"] Ff):BT P w K mg base 2 f fd ["word","most_figures"] OE:=by
 refine F.oN Hg λcdv A outer s H vs Q E hr h=>?_;obtain⟨x,most,rfl,hz,q⟩:=h;refine⟨_,(zF (FI (yS (i:=2) Hg.nd rfl (Or.inl rfl) (VD (uY (qI jM PySem.F.slot_str_startswith PySem.F.type_str_startswith Uh (pv 0) (zA jX zG))) (qJ Rt (pv 0) (qY zR) vR) (pv 0))))
   (zF (xP (PW.pt (uX (yI EF (xB Bg rfl T.n_len kA (zA (pv 2) zG)) zR (yP _)) (uX (yI Hh (xB Bg rfl T.n_len kA (zA (pv 2) zG)) (pv 1) (yP _)) (vK (AO (uY (yD Cn hr rfl (zA (pv 2) (zA (SS rfl T.m_FIGURES) zG)) jK))))))) (zL (yO Fp)) yM)
   (zL (yO (zCw (uM jY (pv 0) jX (yP _)) (OW (uM LW (jI Sd (pv 2) zR (λ_ _=>rfl)) jX (yP _)))))))),?_⟩
 try dsimp only[Cx.nox,Cx.exc,Cx.wish,xX]
 refine⟨λσ' H'=>σ'=[some (.str x),some (.int most),some (.str (wB x))]/\H'=H,?_,?_⟩
 ·refine⟨_,rfl,rfl,x,_,rfl,rfl,_,rfl,kL (λc=>?_) (λc=>?_)⟩
  ·have c':=(Jq x).mp c;obtain⟨r,er⟩: ∃r,x.cps.toList=45::r:=by
    cases e:x.cps.toList with
    |nil=>rw[e]at c';cases c'
    |cons a r=>rw[e]at c';cases c';exact⟨r,rfl⟩
   obtain⟨e1,e2⟩:=AT er;refine⟨_,rfl,_,rfl,x,rfl,hz,?_⟩;rw[e2,e1];exact⟨rfl,rfl⟩
  ·rw[AS (λz=>c ((Jq x).mpr z))];exact⟨_,rfl,rfl,rfl⟩
 rintro _ _ ⟨rfl,rfl⟩;rename_i H;have no: ∀{b:Bool},qU x most=b->Q (.bl b) H:=λe=>by rw[<-e];exact q
 have hzf:(wB x).length<=sizeLine:=yT (QI x) hz;refine⟨_,rfl,_,rfl,hzf,_,_,rfl,rfl,_,rfl,kL (λc1=>?_) (λc1=>?_)⟩
 ·exact kK (no (by
   have:=zZ c1;unfold qU;rw[yA (by lia)];rfl))
 have l1:1<=(wB x).length:=by
  have n1: ¬((wB x).length:Int)<1:=λz=>c1 (zY z);lia
 refine⟨_,rfl,_,rfl,hzf,_,rfl,_,_,rfl,rfl,_,rfl,kL (λc2=>?_) (λc2=>?_)⟩
 ·exact kK (no (by
   have:=zZ c2;unfold qU;rw[yA (show ¬((wB x).length:Int)<=most by lia),EY];rfl))
 have l2:((wB x).length:Int)<=most:=by
  have n2: ¬most<((wB x).length:Int):=λz=>c2 (zY z);lia
 have e0:qU x most=(AM (wB x) "0123456789"&&(decide (x="0") || !decide ((wB x).cps.toList[0]? =some 48))):=by
  unfold qU;rw[zY l1,zY l2];rfl
 refine⟨_,rfl,wB x,_,rfl,_,rfl,?_⟩;cases ci:AM (wB x) "0123456789" with
 |false=>exact kK (no (by rw[e0,ci];rfl))
 |true=>
  have hl:(wB x).cps.toList.length =(wB x).length:=yR;obtain⟨c0,r,ec⟩: ∃c0 r,(wB x).cps.toList =c0::r:=by
   cases e:(wB x).cps.toList with
   |nil=>rw[e]at hl;have:([]:List Nat).length =0:=rfl;lia
   |cons a r=>exact⟨a,r,rfl⟩
  rw[ci,ec]at e0;refine qG ⟨_,rfl,rfl,_,rfl,kL (λc=>?_) (λc=>?_)⟩
  ·have ex:x="0":=by
    have:=zZ c;injection this
   exact no (by rw[e0,zY ex];rfl)
  ·have nx: ¬x="0":=λz=>c (zY (jB V.str z));have ez:(Str.ofString "0")=⟨#[48]⟩:=by decide
   refine⟨_,rfl,wB x,0,c0,rfl,rfl,hzf,(by rw[ec];exact vB (xs:=c0::r) (j:=0) rfl),rfl,?_⟩;refine no ?_;rw[e0,yA nx];show(true&&(false || !decide (some c0=some 48)))=!decide (V.str ⟨#[c0]⟩=V.str (Str.ofString "0"));rw[ez]
   by_cases z:c0=48
   ·subst z;decide
   ·rw[yA (λh=>z (by injection h)),yA (λh=>z (by injection h with h;injection h with h;injection h with h;injection h with h))];rfl
inductive SG (vs:List V) (H:Hp) (Q:VK) (E:XK):Prop
 |mk (x:Str) (h0:vs=[.str x]) (h1:x.length<=sizeLine) (h2:Q (.bl (qU x 60)) H):SG vs H Q E
theorem Ua (T:zBb K mg)(F:uB K "is_number" "is_number" Hz f fd)(Ca6:uT P w K mg base 2 "is_number_of" ["word","most_figures"] OE):BT P w K mg base 3 f fd ["word"] SG:=by
 refine F.oN OQ λcdv A outer s H vs Q E hr h=>?_;obtain⟨x,rfl,hz,q⟩:=h;refine⟨_,(zL (yO (yD Ca6 hr rfl (zA (pv 0) (zA (xL rfl T.m_MOST_FIGURES) zG)) jK))),?_⟩
 try dsimp only[Cx.nox,Cx.exc,Cx.wish,xX]
 exact⟨_,rfl,x,60,rfl,hz,q⟩
theorem zFt {c:Bool}{A B:Prop}(e:c=false)(h:B):if c=true then A else B:=by
 rw[e];exact qG h
theorem VY (T:Txt K mg aP aW aH CT CR)(F:uB K "__init__" "NoText.__init__" CI f fd):BT P w K mg base 1 f fd ["self","at"] (Ah CT):=by
 refine F.oN IP λcdv A outer s H vs Q E hr h=>?_;obtain⟨x,y,rfl,hx,q⟩:=h;refine⟨_,(zL (OV (pv 0) (pv 1))),?_⟩
 try dsimp only[Cx.nox,Cx.exc,Cx.wish,xX]
 refine⟨_,rfl,_,rfl,x,CT,none,rfl,hx,T.exc,T.xat,.inl ⟨rfl,λd hd=>?_⟩⟩;have nd:d≠x:=λe=>by rw[e,hx]at hd;cases hd
 refine q d _ nd hd (λb o nb e=>?_) zH (by rw[zV nd];exact zH);rw[zV nb,zV (zM e hd)];exact e
inductive JY (vs:List V) (H:Hp) (Q:VK) (E:XK):Prop
 |mk (t:Str) (h0:vs=[.str t]) (h1:t.length<=1000000) (h2:(Txt.replace t "\n" " ").length<=1000000) (h3:(Txt.split (Txt.replace t "\n" " ") " ").length<=2000000) (h4: ∀p H',H p=none->kS H H'->H' p=some (.lst ((wordsT t).map V.str))->Q (.ref p) H'):JY vs H Q E
theorem Qq (F:uB K "words_of" "words_of" GF f fd):BT P w K mg base 1 f fd ["text"] JY:=by
 obtain⟨oc,od,kV,doc,pm,an,cdv,ct,osl,rfl,lk,hcd⟩:=F.ex;refine WC lk hcd Qb rfl (λvs H Q E h=>?_) (λA outer s H vs Q E hr h=>?_)
 ·obtain⟨t,rfl,_⟩:=h;rfl
 obtain⟨t,rfl,tl,rl,sl,q⟩:=h;refine⟨_,Qi (VF (own:=["word"]) (ys:=[]) rfl (Vz (VI jM Dd Dc Mc (KL (by decide) (by decide) (pv 0)) (zA jX zG)))
  (Ex (sc:=yH GF) rfl (by decide+kernel)) .nil (λ_ _ _ _ _=>(xJ (i:=0) (show List.Nodup [("word":Str)]from(by decide+kernel)) rfl (Or.inl rfl))) (λ_ _ _ _ _=>OT (yI LW (pv 0) jX (yP _))) (λ_ _ _ _ _=>(pv 0))),?_⟩
 refine⟨_,rfl,t,rfl,by lia,rfl,_," ",rfl,rfl,rfl,kP (by lia),kP (by lia),λa ha=>⟨a,rfl,⟨_,.of zH⟩,λp hp=>?_⟩⟩;have np:p≠a:=λz=>by rw[z,zH]at hp;cases hp
 have hpH:H p=none:=(zN ha _).free hp;refine MA (xs:=(Txt.split (Txt.replace t "\n" " ") " ").map V.str) (λi σ' H'=>H'=upd (upd H a (.lst ((Txt.split (Txt.replace t "\n" " ") " ").map V.str))) p (.lst ((((Txt.split (Txt.replace t "\n" " ") " ").take i).filter RT).map V.str))/\ ∃x,σ'=[x]) ⟨rfl,_,rfl⟩ ?_ ?_ ?_
 ·rintro i σ' H' hi ⟨rfl,_⟩;exact .of (by rw[zV (Ne.symm np)];exact zH)
 ·rintro i x σ' H' hi hx ⟨rfl,x0,rfl⟩;rw[zD]at hi;rw[zS,zE hi]at hx;cases hx;generalize ey:(Txt.split (Txt.replace t "\n" " ") " ")[i]=y;have et:(Txt.split (Txt.replace t "\n" " ") " ").take (i+1)=(Txt.split (Txt.replace t "\n" " ") " ").take i++[y]:=by
   rw[<-ey];rw[wQ,zE hi];rfl
  refine⟨_,rfl,rfl,_,rfl,kL (λc=>?_) (λc=>?_)⟩
  ·have c': ¬y="":=λz=>by rw[z]at c;exact absurd c (by decide)
   refine⟨_,rfl,_,zH,uN ?_,CW.next (by rw[zD];exact hi) ⟨?_,_,rfl⟩⟩
   ·rw[zD];exact yT (List.length_filter_le _ _) (yT (Ej ..) (by lia))
   ·rw[Ig,et,BR,yB]
    simp[RT,c']
  ·have c':y="":=by
    by_cases z:y=""
    ·exact z
    ·exact absurd (by show(!decide (V.str y=V.str ""))=true;rw[yA (λe=>z (by injection e))];rfl) c
   refine CW.next (by rw[zD];exact hi) ⟨?_,_,rfl⟩;rw[et,BR]
   simp[RT,c']
 ·rintro σ' H' ⟨rfl,_⟩;rw[zD,Ae];refine q p _ hpH (λb o e=>?_) zH;rw[zV (zM e hpH),zV (zM e ha)];exact e
theorem RO (T:Txt K mg aP aW aH CT CR)(F:uB K "is_name" "is_name" Ki f fd)(Cn:uT P w K mg base 1 "is_written_in" ["word","signs"] Ff):BT P w K mg base 2 f fd ["word"] Jt:=by
 refine F.oN Rx λcdv A outer s H vs Q E hr h=>?_;obtain⟨x,rfl,hz,q⟩:=h;refine⟨_,(zF (xP (PW.pt (uX (yI EF (xB Bg rfl T.n_len kA (zA (pv 0) zG)) zR (yP _)) (uX (yI Hh (xB Bg rfl T.n_len kA (zA (pv 0) zG)) (xL rfl T.m_MOST_LETTERS) (yP _)) (vK (AO (uY (yD Cn hr rfl (zA (pv 0) (zA (SS rfl T.m_LETTERS) zG)) jK))))))) (zL (yO Fp)) yM)
   (zL (yO (OY (uM GR (pv 0) (Bz rfl T.m_HEAD_WORDS) rfl) (OW (uM GR (pv 0) (Bz rfl T.m_WORDS) rfl)))))),?_⟩
 try dsimp only[Cx.nox,Cx.exc,Cx.wish,xX]
 have no: ∀{b:Bool},jL x=b->Q (.bl b) H:=λe=>by rw[<-e];exact q
 refine⟨_,rfl,_,rfl,hz,_,_,rfl,rfl,_,rfl,kL (λc1=>?_) (λc1=>?_)⟩
 ·exact kK (no (by
   have:=zZ c1;unfold jL;rw[yA (by lia)];rfl))
 have l1:1<=x.length:=by
  have n1: ¬(x.length:Int)<1:=λz=>c1 (zY z);lia
 refine⟨_,rfl,_,rfl,hz,_,_,rfl,rfl,_,rfl,kL (λc2=>?_) (λc2=>?_)⟩
 ·exact kK (no (by
   have:=zZ c2;unfold jL;rw[yA (show ¬x.length<=8 by lia),EY];rfl))
 have l2:x.length<=8:=by
  have n2: ¬(8:Int)<(x.length:Int):=λz=>c2 (zY z);lia
 have e0:jL x=(AM x lettersS&&!decide (x∈kwH)&&!decide (x∈kwW)):=by
  unfold jL;rw[zY l1,zY l2];rfl
 refine⟨_,rfl,x,_,rfl,_,rfl,?_⟩;cases ci:AM x lettersS with
 |false=>exact kK (no (by rw[e0,ci];rfl))
 |true=>
  refine qG ⟨_,rfl,aH,_,rfl,.inr (T.hwords H),rfl,qE _,_,rfl,?_⟩;rw[vM];rw[ci]at e0;cases c3:decide (x∈kwH)with
  |true=>exact qG (no (by rw[e0,c3];rfl))
  |false=>
   refine kK ⟨_,rfl,aW,_,rfl,.inr (T.words H),rfl,qE _,?_⟩;rw[vM];exact no (by rw[e0,c3];rfl)
theorem RN (T:Txt K mg aP aW aH CT CR)(F:uB K "kind_of" "kind_of" Kh f fd):BT P w K mg base 1 f fd ["word"] LG:=by
 refine F.oN Rw λcdv A outer s H vs Q E hr h=>?_;obtain⟨x,rfl,q1,q2⟩:=h;refine⟨_,(zF (xP (yI wS (pv 0) (Bz rfl T.m_WORDS) rfl) (zL (yO (yV jN (xL rfl T.m_SET) (qI PySem.F.plainAttrs_tuple PySem.F.slot_tuple_index PySem.F.type_tuple_index Uj (Bz rfl T.m_WORDS) (zA (pv 0) zG))))) yM)
   (zL (yO ED))),?_⟩
 try dsimp only[Cx.nox,Cx.exc,Cx.wish,xX]
 refine⟨_,rfl,aW,_,rfl,.inr (T.words H),rfl,qE _,_,rfl,?_⟩;rw[vM];refine kL (λc=>?_) (λc=>?_)
 ·have c':=zZ c;exact⟨.inr (.inl ⟨rfl,T.wordsT⟩),_,rfl,aW,_,_,_,rfl,rfl,T.words H,rfl,qE _,GX c',_,_,rfl,rfl,q1 c'⟩
 ·exact q2 (xT (Bool.eq_false_iff.mpr c))
theorem XX (T:Txt K mg aP aW aH CT CR)(F:uB K "due" "due" Vo f fd)(Cb:Go P w K mg base 1 "NoText" CT ["self","at"] (Ah CT)):BT P w K mg base 3 f fd ["reading"] (GB CR CT):=by
 refine F.oX ZI λcdv A outer s H vs Q E hr h=>?_;obtain⟨A,W,a,rfl,R,q⟩:=h;refine⟨_,(zF (xP (yI SU (kD (pv 0) rfl) (xB yX rfl T.n_len kA (zA (kD (pv 0) rfl) zG)) (yP _)) (zL (wF Cb hr rfl (zA (kD (pv 0) rfl) zG))) yM)
   (zL (yO (jI jA (kD (pv 0) rfl) (kD (pv 0) rfl) (λ_ _=>rfl))))),?_⟩
 try dsimp only[Cx.nox,Cx.exc,Cx.wish,xX]
 have hz:(W.map V.str).length =W.length:=zD ..;refine⟨_,rfl,A.rd,CR,A.dr,_,_,rfl,R.rd,T.cls,T.f_at,rfl,_,rfl,A.rd,CR,A.dr,_,_,rfl,R.rd,T.cls,T.f_words,rfl,A.wd,_,rfl,.inl (.of R.wd),_,_,rfl,rfl,_,rfl,kL (λc=>?_) (λc=>?_)⟩
 ·have c':=zZ c;have e:Bq W a=.error a:=by unfold Bq;rw[jC (by lia)]
  rw[e]at q;exact⟨_,rfl,A.rd,CR,A.dr,_,_,rfl,R.rd,T.cls,T.f_at,rfl,sm1,AL q⟩
 ·have c':=df c;have hl:a<W.length:=by lia
  have e1:W[a]? =some W[a]:=zE hl;generalize W[a]=x at e1;have e:Bq W a=.ok x:=by unfold Bq;rw[e1]
  rw[e]at q;exact⟨_,rfl,A.rd,CR,A.dr,_,_,rfl,R.rd,T.cls,T.f_words,rfl,_,rfl,A.rd,CR,A.dr,_,_,rfl,R.rd,T.cls,T.f_at,rfl,A.wd,_,_,_,rfl,rfl,.of R.wd,R.at e1,q⟩
theorem XT (T:Txt K mg aP aW aH CT CR)(F:uB K "take_new_name" "take_new_name" DP f fd)(Cb:Go P w K mg base 1 "NoText" CT ["self","at"] (Ah CT))(Cm:uT P w K mg base 3 "due" ["reading"] (GB CR CT))
  (Ca1:uT P w K mg base 2 "is_name" ["word"] Jt):BT P w K mg base 4 f fd ["reading","there"] (OF CR CT):=by
 refine F.oX FU λcdv A outer s H vs Q E hr h=>?_;obtain⟨A,W,a,th,ts,rfl,R,hth,q⟩:=h;refine⟨_,(zF (yS (i:=2) FU.nd rfl (Or.inl rfl) (yD Cm hr rfl (zA (pv 0) zG) kW))
   (zF (xP (PW.pt (uX (AO (uY (yD Ca1 hr rfl (zA (pv 2) zG) kW))) (vK (yI wS (pv 2) (pv 1) rfl)))) (zL (wF Cb hr rfl (zA (kD (pv 0) rfl) zG))) yM)
   (zF (BS (pv 0) zR HP)
   (zL (yO (pv 2)))))),?_⟩
 try dsimp only[Cx.nox,Cx.exc,Cx.wish,xX]
 refine⟨_,rfl,A,W,a,rfl,R,?_⟩;cases e1:W[a]? with
 |none=>
  have e:HL W a ts=.error a:=by unfold HL;rw[e1]
  rw[e]at q;rw[show Bq W a=.error a by unfold Bq;rw[e1]];exact q
 |some x=>
  rw[show Bq W a=.ok x by unfold Bq;rw[e1]];have no:jL x=true/\x∉ts\/HL W a ts=.error a:=by
   unfold HL;rw[e1]
   by_cases z:jL x=true/\x∉ts
   ·exact .inl z
   ·exact .inr (zI z)
  have fail:HL W a ts=.error a->DU CT H E (a:Int):=λe=>by rw[e]at q;exact q
  refine⟨_,rfl,x,rfl,R.ok.at e1,_,rfl,?_⟩;cases c1:jL x with
  |false=>
   refine kK ?_;exact⟨_,rfl,A.rd,CR,A.dr,_,_,rfl,R.rd,T.cls,T.f_at,rfl,sm1,AL (fail (no.resolve_left (λz=>by rw[c1]at z;exact absurd z.1 (by decide))))⟩
  |true=>
   refine qG ⟨_,rfl,_,rfl,th,_,rfl,.inl (.of hth),rfl,qE _,_,rfl,?_⟩;rw[vM];refine kL (λc=>?_) (λc=>?_)
   ·have m:=zZ c;exact⟨_,rfl,A.rd,CR,A.dr,_,_,rfl,R.rd,T.cls,T.f_at,rfl,sm1,AL (fail (no.resolve_left (λz=>z.2 m)))⟩
   ·have m:x∉ts:=xT (Bool.eq_false_iff.mpr c);have e:HL W a ts=.ok x:=by unfold HL;rw[e1];exact zT ⟨c1,m⟩
    rw[e]at q;exact⟨_,rfl,A.rd,CR,A.dr,_,_,rfl,R.rd,T.cls,T.f_at,rfl,_,_,rfl,rfl,A.dr,_,R.rd,(show 7<1000 by decide),_,rfl,q⟩
theorem Uc (T:Txt K mg aP aW aH CT CR)(F:uB K "take_boxes" "take_boxes" GH f fd)(Cb:Go P w K mg base 1 "NoText" CT ["self","at"] (Ah CT))(Cm:uT P w K mg base 3 "due" ["reading"] (GB CR CT))
  (Co:uT P w K mg base 4 "take_new_name" ["reading","there"] (OF CR CT)):BT P w K mg base 5 f fd ["reading","boxes","most","last"] (LI CR CT):=by
 refine F.oX MM λcdv A outer s H vs Q E hr h=>?_;obtain⟨A,W,a,bx,bs,most,last,rfl,R,hbx,nbw,hbm,hm,q⟩:=h;refine⟨_,(zF (EC (Ip rfl rfl) (yI LW (yD Cm hr rfl (zA (pv 0) zG) kW) (pv 3) (yP _)) (zF (xP (yI jY (xB yX rfl T.n_len kA (zA (pv 1) zG)) (pv 2) (yP _)) (zL (wF Cb hr rfl (zA (kD (pv 0) rfl) zG))) yM)
   (zL (jJ (qI zU yF yE jO (pv 1) (zA (yD Co hr rfl (zA (pv 0) (zA (pv 1) zG)) kW) zG))))))
   (zL (BS (pv 0) zR HP))),?_⟩
 try dsimp only[Cx.nox,Cx.exc,Cx.wish,xX]
 refine⟨λm σ' H'=> ∃a' bs',σ'=[some (.ref A.rd),some (.ref bx),some (.int (most:Int)),some (.str last)]/\xY [A.rd,bx] H H'/\(∀b,H' b=none->H b=none)/\MT CR A W H' a'/\H' bx=some (.lst (bs'.map V.str))/\bs'.length<=most/\
  wV W most last m a' bs'=wV W most last (W.length+1) a bs/\W.length<a'+m,⟨W.length+1,a,bs,rfl,xY.refl _ _,λ_ z=>z,R,hbx,hbm,rfl,by lia⟩,?_⟩
 rintro m σ' H' ⟨a',bs',rfl,kp,lv,R',hbx',hbm',eb,hlt⟩;refine⟨_,rfl,A,W,a',rfl,R',?_⟩;rw[<-eb]at q;cases e1:W[a']? with
 |none=>
  rw[show Bq W a'=.error a' by unfold Bq;rw[e1]];have e:wV W most last m a' bs'=.error a':=by
   cases m with
   |zero=>rfl
   |succ m=>unfold wV;rw[e1]
  rw[e]at q;exact(wH.mono q kp).one
 |some x=>
  rw[show Bq W a'=.ok x by unfold Bq;rw[e1]];have hl:=EI e1;obtain⟨m,rfl⟩: ∃m',m=m'+1:=⟨m-1,by lia⟩;unfold wV at q;rw[e1]at q;dsimp only at q;refine⟨_,rfl,rfl,_,rfl,kL (λc=>?_) (λc=>?_)⟩
  ·have c': ¬x=last:=λz=>by rw[z]at c;exact absurd c (by simp)
   rw[zI c']at q;refine⟨_,λσ2 H2 z=>z,?_⟩;refine⟨_,rfl,bx,_,rfl,.inl (.of hbx'),_,rfl,rfl,_,rfl,?_⟩;have hz:(bs'.map V.str).length =bs'.length:=zD ..;refine kL (λc2=>?_) (λc2=>?_)
   ·have c2':=vt c2;rw[zT (by lia)]at q;exact⟨_,rfl,A.rd,CR,A.dr,_,_,rfl,R'.rd,T.cls,T.f_at,rfl,sm1,AL (wH.mono q kp).one⟩
   ·have c2':=vf c2;have ne: ¬bs'.length=most:=by lia
    rw[zI ne]at q;refine⟨_,rfl,.inl ⟨rfl,_,.of hbx'⟩,_,rfl,_,rfl,A,W,a',bx,bs',rfl,R',hbx',?_⟩
    by_cases c3:jL x=true/\x∉bs'
    ·rw[show HL W a' bs'=.ok x by unfold HL;rw[e1];exact zT c3];rw[zT c3]at q;have hb2:upd H' A.rd (Fa CR A (a'+1)) bx=some (.lst (bs'.map V.str)):=by rw[zV (R'.ne hbx')];exact hbx'
     have R2:=R'.put (a'+1);have st:wV W most last (m+1) a' bs'=wV W most last m (a'+1) (bs'++[x]):=by
      rw[wV,e1];dsimp only;rw[zI c',zI ne,zT c3]
     refine⟨bx,_,_,rfl,rfl,hb2,uN (by lia),m,qF m,a'+1,bs'++[x],rfl,?_,?_,⟨?_,?_,R.ok⟩,?_,?_,st.symm.trans eb,by lia⟩
     ·exact kp.fst.trans (xY.upd (zQ _ (zO ..)))
     ·exact wX (wX lv R'.rd) hb2
     ·rw[zV (Ne.symm (R'.ne hbx'))];exact R2.rd
     ·rw[zV (Ne.symm nbw)];exact R2.wd
     ·rw[zH,yB];rfl
     ·rw[zB];show bs'.length+1<=most;lia
    ·rw[show HL W a' bs'=.error a' by unfold HL;rw[e1];exact zI c3];rw[zI c3]at q;exact(wH.mono q kp).one
  ·have c':x=last:=by
    by_cases z:x=last
    ·exact z
    ·exact absurd (by show(!decide (V.str x=V.str last))=true;rw[yA (λe=>z (by injection e))];rfl) c
   rw[zT c']at q;refine⟨_,rfl,A.rd,CR,A.dr,_,_,rfl,R'.rd,T.cls,T.f_at,rfl,_,_,rfl,rfl,A.dr,_,R'.rd,(show 7<1000 by decide),?_⟩;refine q _ kp.fst (wX lv R'.rd) zH ?_;rw[zV (R'.ne hbx')];exact hbx'
theorem XY (T:Txt K mg aP aW aH CT CR)(F:uB K "take_box" "take_box" IQ f fd)(Cb:Go P w K mg base 1 "NoText" CT ["self","at"] (Ah CT))(Cm:uT P w K mg base 3 "due" ["reading"] (GB CR CT)):BT P w K mg base 4 f fd ["reading","boxes"] (Rq CR CT):=by
 refine F.oX KH λcdv A outer s H vs Q E hr h=>?_;obtain⟨A,W,a,bx,bs,rfl,R,hbx,q⟩:=h;refine⟨_,(zF (yS (i:=2) KH.nd rfl (Or.inl rfl) (yD Cm hr rfl (zA (pv 0) zG) kW))
   (zF (xP (yI GR (pv 2) (pv 1) rfl) (zL (wF Cb hr rfl (zA (kD (pv 0) rfl) zG))) yM)
   (zF (BS (pv 0) zR HP)
   (zL (yO (qI zU BW BV Kr (pv 1) (zA (pv 2) zG))))))),?_⟩
 try dsimp only[Cx.nox,Cx.exc,Cx.wish,xX]
 refine⟨_,rfl,A,W,a,rfl,R,?_⟩;unfold Ji at q;cases e1:W[a]? with
 |none=>
  rw[e1]at q;rw[show Bq W a=.error a by unfold Bq;rw[e1]];exact q
 |some x=>
  rw[e1]at q;dsimp only at q;rw[show Bq W a=.ok x by unfold Bq;rw[e1]];refine⟨_,rfl,_,rfl,bx,_,rfl,.inl (.of hbx),rfl,qE _,_,rfl,?_⟩;rw[vM]
  by_cases m:x∈bs
  ·rw[zY m];rw[zT m]at q;refine qG ⟨_,rfl,A.rd,CR,A.dr,_,_,rfl,R.rd,T.cls,T.f_at,rfl,_,_,rfl,rfl,A.dr,_,R.rd,(show 7<1000 by decide),?_⟩;have hb2:upd H A.rd (Fa CR A (a+1)) bx=some (.lst (bs.map V.str)):=by rw[zV (R.ne hbx)];exact hbx
   exact⟨_,rfl,.inl ⟨rfl,_,.of hb2⟩,_,rfl,bx,_,_,_,rfl,rfl,.of hb2,rfl,qE _,GX m,q⟩
  ·rw[yA m];rw[zI m]at q;exact kK ⟨_,rfl,A.rd,CR,A.dr,_,_,rfl,R.rd,T.cls,T.f_at,rfl,sm1,AL q⟩
theorem XR (T:Txt K mg aP aW aH CT CR)(F:uB K "take_number" "take_number" FF f fd)(Cb:Go P w K mg base 1 "NoText" CT ["self","at"] (Ah CT))(Cm:uT P w K mg base 3 "due" ["reading"] (GB CR CT))
  (Ct:uT P w K mg base 3 "is_number" ["word"] SG):BT P w K mg base 4 f fd ["reading"] (OC CR CT):=by
 refine F.oX Hq λcdv A outer s H vs Q E hr h=>?_;obtain⟨A,W,a,rfl,R,q⟩:=h;refine⟨_,(zF (yS (i:=1) Hq.nd rfl (Or.inl rfl) (yD Cm hr rfl (zA (pv 0) zG) kW))
   (zF (xP (AO (uY (yD Ct hr rfl (zA (pv 1) zG) kW))) (zL (wF Cb hr rfl (zA (kD (pv 0) rfl) zG))) yM)
   (zF (BS (pv 0) zR HP)
   (zL (yO (jU Er rfl T.n_int Dt (zA (pv 1) zG))))))),?_⟩
 try dsimp only[Cx.nox,Cx.exc,Cx.wish,xX]
 refine⟨_,rfl,A,W,a,rfl,R,?_⟩;unfold IB at q;cases e1:W[a]? with
 |none=>
  rw[e1]at q;rw[show Bq W a=.error a by unfold Bq;rw[e1]];exact q
 |some x=>
  rw[e1]at q;dsimp only at q;rw[show Bq W a=.ok x by unfold Bq;rw[e1]];refine⟨_,rfl,x,rfl,R.ok.at e1,_,rfl,?_⟩;cases m:qU x 60 with
  |true=>
   rw[m,zT rfl]at q;obtain⟨i1,i2⟩:=Nw m;refine qG ⟨_,rfl,A.rd,CR,A.dr,_,_,rfl,R.rd,T.cls,T.f_at,rfl,_,_,rfl,rfl,A.dr,_,R.rd,(show 7<1000 by decide),?_⟩;exact⟨_,rfl,x,_,rfl,i1,i2,q⟩
  |false=>
   rw[m,zI (by decide)]at q;exact kK ⟨_,rfl,A.rd,CR,A.dr,_,_,rfl,R.rd,T.cls,T.f_at,rfl,sm1,AL q⟩
theorem VS (T:Txt K mg aP aW aH CT CR)(F:uB K "take_many" "take_many" Hu f fd)(Cb:Go P w K mg base 1 "NoText" CT ["self","at"] (Ah CT))(Cp:uT P w K mg base 4 "take_number" ["reading"] (OC CR CT)):BT P w K mg base 5 f fd ["reading","least"] (OH CR CT):=by
 refine F.oX GC λcdv A outer s H vs Q E hr h=>?_;obtain⟨A,W,a,least,rfl,R,q⟩:=h;refine⟨_,(zF (yS (i:=2) GC.nd rfl (Or.inl rfl) (kD (pv 0) rfl))
   (zF (yS (i:=3) GC.nd rfl (Or.inl rfl) (yD Cp hr rfl (zA (pv 0) zG) kW))
   (zF (xP (PW.pt (uX (yI EF (pv 3) (pv 1) (yP _)) (vK (yI Hh (pv 3) (xL rfl T.m_MOST_MANY) (yP _))))) (zL (wF Cb hr rfl (zA (pv 2) zG))) yM)
   (zL (yO (pv 3)))))),?_⟩
 try dsimp only[Cx.nox,Cx.exc,Cx.wish,xX]
 refine⟨_,rfl,A.rd,CR,A.dr,_,_,rfl,R.rd,T.cls,T.f_at,rfl,?_⟩;refine⟨_,rfl,A,W,a,rfl,R,?_⟩;unfold Eg at q;cases e1:IB W a with
 |error e=>
  rw[e1]at q;exact wH.one q
 |ok n=>
  rw[e1]at q;dsimp only at q;have R2:=R.put (a+1);have kp:xY [A.rd] H (upd H A.rd (Fa CR A (a+1))):=xY.upd (zO ..);refine⟨_,rfl,_,rfl,_,_,rfl,rfl,_,rfl,kL (λc=>?_) (λc=>?_)⟩
  ·have c':=zZ c;rw[zT (.inl c')]at q;exact kK ⟨_,rfl,sm1,AL (wH.mono q kp).one⟩
  ·have c':=df c;refine⟨_,rfl,_,_,rfl,rfl,_,rfl,kL (λc2=>?_) (λc2=>?_)⟩
   ·have c2':=zZ c2;rw[zT (.inr c2')]at q;exact⟨_,rfl,sm1,AL (wH.mono q kp).one⟩
   ·have c2':=df c2;rw[zI (by lia)]at q;exact⟨_,rfl,q⟩
theorem RQ (T:Txt K mg aP aW aH CT CR)(F:uB K "take_called" "take_called" FG f fd)(Cb:Go P w K mg base 1 "NoText" CT ["self","at"] (Ah CT))(Cm:uT P w K mg base 3 "due" ["reading"] (GB CR CT))
  (Ca1:uT P w K mg base 2 "is_name" ["word"] Jt):BT P w K mg base 4 f fd ["reading"] (Ke CR CT):=by
 refine F.oX Hr λcdv A outer s H vs Q E hr h=>?_;obtain⟨A,W,a,num,rfl,R,hnu,q⟩:=h;refine⟨_,(zF (yS (i:=1) Hr.nd rfl (Or.inl rfl) (yD Cm hr rfl (zA (pv 0) zG) kW))
   (zF (xP (PW.pt (uX (AO (uY (yD Ca1 hr rfl (zA (pv 1) zG) kW))) (vK (RB (No (NT hr) (pv 1) (kD (pv 0) rfl)))))) (zL (wF Cb hr rfl (zA (kD (pv 0) rfl) zG))) yM)
   (zF (BS (pv 0) zR HP)
   (zL (yO (ST (NT hr) (kD (pv 0) rfl) (pv 1) (λ_ _=>rfl))))))),?_⟩
 try dsimp only[Cx.nox,Cx.exc,Cx.wish,xX]
 refine⟨_,rfl,A,W,a,rfl,R,?_⟩;unfold Aq at q;cases e1:W[a]? with
 |none=>
  rw[e1]at q;rw[show Bq W a=.error a by unfold Bq;rw[e1]];exact q
 |some x=>
  rw[e1]at q;dsimp only at q;rw[show Bq W a=.ok x by unfold Bq;rw[e1]];refine⟨_,rfl,x,rfl,R.ok.at e1,_,rfl,?_⟩;cases m:jL x with
  |false=>
   rw[m,zI (by decide)]at q;exact kK ⟨_,rfl,A.rd,CR,A.dr,_,_,rfl,R.rd,T.cls,T.f_at,rfl,sm1,AL q⟩
  |true=>
   rw[m,zT rfl]at q;have dg:IF H A.nu (.str x) ((jT num x).map V.int):=by
    have:=IF.k (k:=Sum.inr x) hnu;rw[BZ]at this;exact this
   refine qG ⟨_,rfl,_,rfl,A.rd,CR,A.dr,_,_,rfl,R.rd,T.cls,T.f_numbered,rfl,A.nu,_,rfl,dg,_,rfl,?_⟩;cases e2:jT num x with
   |none=>
    rw[e2]at q;exact kK ⟨_,rfl,A.rd,CR,A.dr,_,_,rfl,R.rd,T.cls,T.f_at,rfl,sm1,AL q⟩
   |some n=>
    rw[e2]at q;have nn:A.nu≠A.rd:=λz=>by rw[z,R.rd]at hnu;cases hnu
    have dg2:IF (upd H A.rd (Fa CR A (a+1))) A.nu (.str x) (some (.int n)):=by
     have:=IF.k (k:=Sum.inr x) (show upd H A.rd (Fa CR A (a+1)) A.nu=some (.dK (Gb num))by rw[zV nn];exact hnu);rw[BZ,e2]at this;exact this
    refine qG ⟨_,rfl,A.rd,CR,A.dr,_,_,rfl,R.rd,T.cls,T.f_at,rfl,_,_,rfl,rfl,A.dr,_,R.rd,(show 7<1000 by decide),?_⟩;exact⟨_,rfl,A.rd,CR,A.dr,_,_,rfl,zH,T.cls,T.f_numbered,rfl,_,rfl,A.nu,_,rfl,dg2,q⟩
theorem VU (T:Txt K mg aP aW aH CT CR)(F:uB K "take_kind" "take_kind" Hv f fd)(Cb:Go P w K mg base 1 "NoText" CT ["self","at"] (Ah CT))(Cm:uT P w K mg base 3 "due" ["reading"] (GB CR CT))
  (Ct:uT P w K mg base 3 "is_number" ["word"] SG) (Cc6:uT P w K mg base 1 "kind_of" ["word"] LG):BT P w K mg base 4 f fd ["reading","boxes"] (Lm CR CT):=by
 refine F.oX GD λcdv A outer s H vs Q E hr h=>?_;obtain⟨A,W,a,bx,bs,rfl,R,hbx,q⟩:=h;refine⟨_,(zF (yS (i:=2) GD.nd rfl (Or.inl rfl) (yD Cm hr rfl (zA (pv 0) zG) kW))
   (zF (xP (uY (yD Ct hr rfl (zA (pv 2) zG) kW)) (zL (yO (xL rfl T.m_NUMBER))) yM)
   (zF (xP (yI wS (pv 2) (pv 1) rfl) (zL (yO (xL rfl T.m_GET))) yM)
   (zF (yS (i:=3) GD.nd rfl (Or.inl rfl) (yD Cc6 hr rfl (zA (pv 2) zG) kW))
   (zF (xP (yI RI (pv 3) ED (yP _)) (zL (wF Cb hr rfl (zA (kD (pv 0) rfl) zG))) yM)
   (zF (BS (pv 0) zR HP)
   (zL (yO (pv 3))))))))),?_⟩
 try dsimp only[Cx.nox,Cx.exc,Cx.wish,xX]
 refine⟨_,rfl,A,W,a,rfl,R,?_⟩;unfold Ag at q;cases e1:W[a]? with
 |none=>
  rw[e1]at q;rw[show Bq W a=.error a by unfold Bq;rw[e1]];exact q
 |some x=>
  rw[e1]at q;dsimp only at q;rw[show Bq W a=.ok x by unfold Bq;rw[e1]];refine⟨_,rfl,x,rfl,R.ok.at e1,_,rfl,?_⟩;cases m:qU x 60 with
  |true=>
   rw[m,zT rfl]at q;have q':Q (.int 0) (upd H A.rd (Fa CR A a)):=q;rw[PV R.rd]at q';exact kK q'
  |false=>
   rw[m,zI (by decide)]at q;refine qG ⟨_,rfl,_,rfl,bx,_,rfl,.inl (.of hbx),rfl,qE _,_,rfl,?_⟩;rw[vM]
   by_cases mb:x∈bs
   ·rw[zY mb];rw[zT mb]at q;have q':Q (.int 1) (upd H A.rd (Fa CR A a)):=q;rw[PV R.rd]at q';exact kK q'
   ·rw[yA mb];rw[zI mb]at q;refine qG ⟨_,rfl,x,rfl,λmk=>?_,λmk=>?_⟩
    ·rw[zT mk]at q;refine⟨_,rfl,rfl,_,rfl,qG ?_⟩;exact⟨_,rfl,A.rd,CR,A.dr,_,_,rfl,R.rd,T.cls,T.f_at,rfl,_,_,rfl,rfl,A.dr,_,R.rd,(show 7<1000 by decide),_,rfl,q⟩
    ·rw[zI mk]at q;refine⟨_,rfl,rfl,_,rfl,kK ?_⟩;exact⟨_,rfl,A.rd,CR,A.dr,_,_,rfl,R.rd,T.cls,T.f_at,rfl,sm1,AL q⟩
theorem XO (T:Txt K mg aP aW aH CT CR)(F:uB K "take_own" "take_own" Dp f fd)(Cc4:uT P w K mg base 4 "take_box" ["reading","boxes"] (Rq CR CT))(Cp:uT P w K mg base 4 "take_number" ["reading"] (OC CR CT))
  (Ca4:uT P w K mg base 5 "take_many" ["reading","least"] (OH CR CT)) (Ca9:uT P w K mg base 4 "take_called" ["reading"] (Ke CR CT)):BT P w K mg base 6 f fd ["reading","kind","boxes"] (OB CR CT):=by
 refine F.oX Ju λcdv A outer s H vs Q E hr h=>?_;obtain⟨A,W,a,k,bx,bs,num,rfl,R,hbx,hnu,q⟩:=h;refine⟨_,(zF (xP (yI jY (pv 1) (xL rfl T.m_NUMBER) (yP _)) (zL (yO (jZ (zA (yD Cp hr rfl (zA (pv 0) zG) kW) zG)))) yM)
   (zF (xP (PW.pt (uX (yI jY (pv 1) (xL rfl T.m_GET) (yP _)) (vK (yI jY (pv 1) (xL rfl T.m_SET) (yP _))))) (zL (yO (jZ (zA (yD Cc4 hr rfl (zA (pv 0) (zA (pv 2) zG)) kW) zG)))) yM)
   (zF (xP (yI jY (pv 1) (xL rfl T.m_ALL) (yP _)) (zL (yO (jZ (zA (yD Ca4 hr rfl (zA (pv 0) (zA (xL rfl T.m_LEAST_ALL) zG)) kW) zG)))) yM)
   (zF (xP (yI jY (pv 1) (xL rfl T.m_PICK) (yP _)) (zL (yO (jZ (zA (yD Ca4 hr rfl (zA (pv 0) (zA (xL rfl T.m_LEAST_PICK) zG)) kW) zG)))) yM)
   (zF (xP (yI jY (pv 1) (xL rfl T.m_CALL) (yP _)) (zL (yO (jZ (zA (yD Ca9 hr rfl (zA (pv 0) zG) kW) zG)))) yM)
   (zL (yO (jZ zG)))))))),?_⟩
 try dsimp only[Cx.nox,Cx.exc,Cx.wish,xX]
 have kp:xY [A.rd] H (upd H A.rd (Fa CR A (a+1))):=xY.upd (zO ..);have lv: ∀b,upd H A.rd (Fa CR A (a+1)) b=none->H b=none:=wX (λ_ z=>z) R.rd;have one: ∀(n:Int),KB (λr:List Int×Nat=> ∀t H',xY [A.rd] H H'->(∀b,H' b=none->H b=none)->H' A.rd=some (Fa CR A r.2)->H' t=some (.tup (r.1.map V.int))->Q (.ref t) H') (wH CT [A.rd] H E) (.ok ([n],a+1))->
   ∀p,upd H A.rd (Fa CR A (a+1)) p=none->Q (.ref p) (upd (upd H A.rd (Fa CR A (a+1))) p (.tup [.int n])):=λn q p hp=>by
  refine q p _ (kp.trans (xY.same (zN hp _))) (λb z=>lv b ((zN hp _).free z)) ?_ zH;rw[zV (λz=>by rw[<-z,zH]at hp;cases hp)];exact zH
 unfold Am at q;refine⟨_,rfl,rfl,_,rfl,kL (λc=>?_) (λc0=>?_)⟩
 ·rw[zT (vt c)]at q;refine⟨_,rfl,A,W,a,rfl,R,?_⟩;cases e:IB W a with
  |error n=>rw[e]at q;exact wH.one q
  |ok n=>rw[e]at q;exact⟨sm1,one n q⟩
 rw[zI (vf c0)]at q;refine⟨_,rfl,rfl,_,rfl,kL (λc=>kK ?_) (λc1=>?_)⟩
 ·rw[zT (.inl (vt c))]at q;refine⟨_,rfl,_,rfl,A,W,a,bx,bs,rfl,R,hbx,?_⟩;cases e:Ji W a bs with
  |error n=>rw[e]at q;exact wH.one q
  |ok n=>rw[e]at q;exact⟨sm1,one n q⟩
 refine⟨_,rfl,rfl,_,rfl,kL (λc=>?_) (λc2=>?_)⟩
 ·rw[zT (.inr (vt c))]at q;refine⟨_,rfl,_,rfl,A,W,a,bx,bs,rfl,R,hbx,?_⟩;cases e:Ji W a bs with
  |error n=>rw[e]at q;exact wH.one q
  |ok n=>rw[e]at q;exact⟨sm1,one n q⟩
 rw[zI (λz=>z.elim (vf c1) (vf c2))]at q;refine⟨_,rfl,rfl,_,rfl,kL (λc=>?_) (λc3=>?_)⟩
 ·rw[zT (vt c)]at q;refine⟨_,rfl,A,W,a,1,rfl,R,?_⟩;cases e:Eg W a 1 with
  |error n=>rw[e]at q;exact q
  |ok n=>rw[e]at q;exact⟨sm1,one n q⟩
 rw[zI (vf c3)]at q;refine⟨_,rfl,rfl,_,rfl,kL (λc=>?_) (λc4=>?_)⟩
 ·rw[zT (vt c)]at q;refine⟨_,rfl,A,W,a,2,rfl,R,?_⟩;cases e:Eg W a 2 with
  |error n=>rw[e]at q;exact q
  |ok n=>rw[e]at q;exact⟨sm1,one n q⟩
 rw[zI (vf c4)]at q;refine⟨_,rfl,rfl,_,rfl,kL (λc=>?_) (λc6=>?_)⟩
 ·rw[zT (vt c)]at q;refine⟨_,rfl,A,W,a,num,rfl,R,hnu,?_⟩;cases e:Aq W num a with
  |error n=>rw[e]at q;exact wH.one q
  |ok n=>rw[e]at q;exact⟨sm1,one n q⟩
 rw[zI (vf c6)]at q;exact⟨sm0,λp hp=>q p _ (xY.same (zN hp _)) (λb z=>(zN hp _).free z) (by rw[zV (zM R.rd hp)];exact R.rd) zH⟩
theorem TZ (T:Txt K mg aP aW aH CT CR)(F:uB K "parts_of" "parts_of" GI f fd):BT P w K mg base 1 f fd ["kind"] LF:=by
 refine F.oN KJ λcdv A outer s H vs Q E hr h=>?_;obtain⟨k,rfl,k0,k1,q⟩:=h;refine⟨_,(zL (yO (jI Aa (Bz rfl T.m_PARTS) (yV wU (pv 0) (xL rfl T.m_FAIL)) (λ_ _=>rfl)))),?_⟩
 try dsimp only[Cx.nox,Cx.exc,Cx.wish,xX]
 refine⟨_,rfl,_,_,rfl,rfl,aP,_,_,_,rfl,rfl,T.parts _,?_,q⟩;refine Du (by lia) ?_;have hl:(k-7).toNat <partsW.length:=by show(k-7).toNat <13;lia
 rw[zS,zE hl];rfl
theorem XW (T:Txt K mg aP aW aH CT CR)(F:uB K "parts_due" "parts_due" Fl f fd)(Cy:uT P w K mg base 1 "parts_of" ["kind"] LF):
  BT P w K mg base 2 f fd ["kind","numbers","heads"] OL:=by
 refine F.oN Jw λcdv A outer s H vs Q E hr h=>?_;obtain⟨k,t,c,ns,cnt,rfl,ht,⟨rs,eh,pr⟩,h0,h1,hk,hk6,q⟩:=h;refine⟨_,(zF (xP (PW.pt (uX (yI jY (pv 0) (xL rfl T.m_NUMBER) (yP _)) (vK (yI jY (pv 0) (xL rfl T.m_GET) (yP _))))) (zL (yO zR)) yM)
   (zF (xP (yI jY (pv 0) (xL rfl T.m_SET) (yP _)) (zL (yO zR)) yM)
   (zF (xP (yI jY (pv 0) (xL rfl T.m_ALL) (yP _)) (zL (yO (jI Aa (pv 1) zR (λ_ _=>rfl)))) yM)
   (zF (xP (yI jY (pv 0) (xL rfl T.m_PICK) (yP _)) (zL (yO (yV jN zR (jI Aa (pv 1) zR (λ_ _=>rfl))))) yM)
   (zF (xP (yI jY (pv 0) (xL rfl T.m_LOOP) (yP _)) (zL (yO zR)) yM)
   (zF (xP (yI jY (pv 0) (xL rfl T.m_CALL) (yP _)) (zL (yO (jI Aa (jI jA (pv 2) (jI Aa (pv 1) zR (λ_ _=>rfl)) (λ_ _=>rfl)) zR (λ_ _=>rfl)))) yM)
   (zL (yO (yD Cy hr rfl (zA (pv 0) zG) jK))))))))),?_⟩
 try dsimp only[Cx.nox,Cx.exc,Cx.wish,xX]
 have hd1:ns.length=1-> ∃n,ns=[n]:=λl=>by
  cases ns with
  |nil=>cases l
  |cons n r=>cases r with
   |nil=>exact⟨n,rfl⟩
   |cons m r=>cases l
 unfold GZ at q;refine⟨_,rfl,rfl,_,rfl,kL (λc=>kK ?_) (λc0=>?_)⟩
 ·rw[zT (.inl (vt c))]at q;exact q
 refine⟨_,rfl,rfl,_,rfl,kL (λc=>?_) (λc1=>?_)⟩
 ·rw[zT (.inr (vt c))]at q;exact q
 have n01: ¬(k=0\/k=1):=λz=>z.elim (vf c0) (vf c1);rw[zI n01]at q;refine⟨_,rfl,rfl,_,rfl,kL (λc=>?_) (λc2=>?_)⟩
 ·rw[zT (vt c)]at q;exact q
 rw[zI (vf c2)]at q;refine⟨_,rfl,rfl,_,rfl,kL (λc=>?_) (λc3=>?_)⟩
 ·rw[zT (vt c)]at q;obtain⟨n,rfl⟩:=hd1 (hk (.inl (vt c)));exact⟨_,rfl,t,_,_,_,rfl,rfl,.of ht,rfl,q⟩
 rw[zI (vf c3)]at q;refine⟨_,rfl,rfl,_,rfl,kL (λc=>?_) (λc4=>?_)⟩
 ·rw[zT (vt c)]at q;obtain⟨n,rfl⟩:=hd1 (hk (.inr (.inl (vt c))));exact⟨_,rfl,t,_,_,_,rfl,rfl,.of ht,rfl,_,_,rfl,rfl,q⟩
 rw[zI (vf c4)]at q;refine⟨_,rfl,rfl,_,rfl,kL (λc=>?_) (λc5=>?_)⟩
 ·rw[zT (vt c)]at q;exact q
 rw[zI (vf c5)]at q;refine⟨_,rfl,rfl,_,rfl,kL (λcc=>?_) (λc6=>?_)⟩
 ·rw[zT (vt cc)]at q;obtain⟨n,rfl⟩:=hd1 (hk (.inr (.inr (vt cc))));obtain⟨n0,n1⟩:=hk6 (vt cc);have n1':n.toNat<cnt.length:=n1;have n0':0<=n:=n0;have ln:rs.length=cnt.length:=Paired.len pr;have e1:cnt[n.toNat]? =some cnt[n.toNat]:=zE n1';have e2:rs[n.toNat]? =some rs[n.toNat]:=zE (by lia);obtain⟨tt,er,et⟩:=Paired.get pr _ _ _ e2 e1;have av:FO rs n=some (.ref tt):=Du n0' (by rw[e2,er]);refine⟨_,rfl,_,rfl,t,_,_,_,rfl,rfl,.of ht,rfl,c,rs,n,_,rfl,rfl,.of eh,av,tt,_,_,_,rfl,rfl,.of et,rfl,?_⟩;have:(cnt[([n].headD 0).toNat]?).getD 0=cnt[n.toNat]:=by
   show(cnt[n.toNat]?).getD 0=_;rw[e1];rfl
  rw[this]at q;exact q
 ·rw[zI (vf c6)]at q;have n0:=vf c0;have n1:=vf c1;have n2:=vf c2;have n3:=vf c3;have n4:=vf c4;have n5:=vf c5;have n6:=vf c6;exact⟨_,rfl,k,rfl,by lia,h1,q⟩
theorem Qv (d:Nat)(hd10:d<=10)(T:Txt K mg aP aW aH CT CR)(F:uB K "read_node" "read_node" Fk f fd)(Cb:Go P w K mg base 1 "NoText" CT ["self","at"] (Ah CT))(Cj:uT P w K mg base 4 "take_kind" ["reading","boxes"] (Lm CR CT))
  (Cf:uT P w K mg base 6 "take_own_texts" ["reading","kind","boxes"] (OB CR CT)) (Cd:uT P w K mg base 2 "parts_due" ["kind","numbers","heads"] OL)
  (Cu:uT P w K mg base (6+d) "read_node" ["reading","boxes","deep"] (Xq CR CT d)):BT P w K mg base (6+d+1) f fd ["reading","boxes","deep"] (Ii CR CT d):=by
 refine F.oX Em λcdv A outer s H vs Q E hr h=>?_;obtain⟨A,bx,W,bs,num,cnt,a,bd,rfl,_,N,nok,q⟩:=h;refine⟨_,(zF (xP (yI Hh (pv 2) (xL rfl T.m_MOST_DEEP) (yP _)) (zL (wF Cb hr rfl (zA (kD (pv 0) rfl) zG))) yM)
   (zF (yS (i:=3) Em.nd rfl (Or.inl rfl) (yD Cj hr rfl (zA (pv 0) (zA (pv 1) zG)) kW))
   (zF (yS (i:=4) Em.nd rfl (Or.inl rfl) (yD Cf hr rfl (zA (pv 0) (zA (pv 3) (zA (pv 1) zG))) kW))
   (zF (jJ (qI zU yF yE jO (kD (pv 0) rfl) (zA (pv 3) zG)))
   (zF (jJ (qI zU qO qL RW (kD (pv 0) rfl) (zA (pv 4) zG)))
   (zL (Al (Ip rfl rfl) rfl (uZ rfl T.n_range (zA (yD Cd hr rfl (zA (pv 3) (zA (pv 4) (zA (kD (pv 0) rfl) zG))) kW) zG)) (xJ (i:=5) Em.nd rfl (Or.inl rfl)) (zL (jJ (yD Cu hr rfl (zA (pv 0) (zA (pv 1) (zA (yV jN (pv 2) zR) zG))) kW)))))))))),?_⟩
 try dsimp only[Cx.nox,Cx.exc,Cx.wish,xX]
 refine⟨_,rfl,_,_,rfl,rfl,_,rfl,kL (λc=>?_) (λc=>?_)⟩
 ·have c':=zZ c;obtain rfl:d=0:=by lia
  exact⟨_,rfl,A.rd,CR,A.dr,_,_,rfl,N.w.rd,T.cls,T.f_at,rfl,sm1,AL (wH.one q)⟩
 have c':=df c;obtain⟨d,rfl⟩: ∃d',d=d'+1:=⟨d-1,by lia⟩;refine⟨_,rfl,_,rfl,A,W,a,bx,bs,rfl,N.w,N.box,?_⟩;unfold uC at q;cases e1:Ag W a bs with
 |error n=>rw[e1]at q;exact wH.one q
 |ok k=>
 rw[e1]at q;dsimp only at q;obtain⟨al,kq⟩:=Mi e1;have R1:=N.w.put k.2;have k1:xY [A.rd,A.bd] H (upd H A.rd (Fa CR A k.2)):=xY.upd (zO ..);have lv1: ∀b,upd H A.rd (Fa CR A k.2) b=none->H b=none:=wX (λ_ z=>z) N.w.rd;have nun:A.nu≠A.rd:=λz=>by have:=N.nu;rw[z,N.w.rd]at this;cases this
 refine⟨_,rfl,_,rfl,_,rfl,A,W,k.2,k.1,bx,bs,num,rfl,R1,by rw[zV (N.w.ne N.box)];exact N.box,by rw[zV nun];exact N.nu,?_⟩;cases e2:Am W num k.2 k.1 bs with
 |error n=>rw[e2]at q;exact(wH.mono q k1).sub (λx hx=>by rw[List.mem_singleton.mp hx];exact zO ..)
 |ok r=>
 rw[e2]at q;dsimp only at q;intro t H2 kp2 lv2 rd2 et2;obtain⟨o1,o2,o3,o4,o5,o6,o7⟩:=OZ e2 (by lia);have k2:xY [A.rd,A.bd] H H2:=k1.trans (λb o nb e=>kp2 b o (λz=>nb (by rw[List.mem_singleton.mp z];exact zO ..)) e);have lst2: ∀{x:Addr} {xs:List V},H x=some (.lst xs)->H2 x=some (.lst xs):=fun{x xs} e=>kp2 x _ (λz=>N.w.ne e (List.mem_singleton.mp z)) (by rw[zV (N.w.ne e)];exact e);have bd2:=lst2 N.bd;have ht2:uV H H2:=λb xs e=>by
  have nb:b≠A.rd:=λz=>by rw[z,N.w.rd]at e;cases e
  exact kp2 b _ (λz=>nb (List.mem_singleton.mp z)) (by rw[zV nb];exact e)
 have nu2:H2 A.nu=some (.dK (Gb num)):=kp2 _ _ (λz=>nun (List.mem_singleton.mp z)) (by rw[zV nun];exact N.nu);have nrb:A.rd≠A.bd:=Ne.symm (N.w.ne N.bd);have few:=N.few;have le:=N.le;have hWk:=N.w.ok.few;have hbl:(bd.map V.int).length =bd.length:=zD ..;refine⟨_,rfl,A.rd,CR,A.dr,_,_,rfl,rd2,T.cls,T.f_bodies,rfl,.inl ⟨rfl,_,.of bd2⟩,_,rfl,A.bd,_,_,rfl,rfl,bd2,uN (by lia),?_⟩;have rd3:upd H2 A.bd (.lst (bd.map V.int++[.int k.1])) A.rd=some (Fa CR A r.2):=by rw[zV nrb];exact rd2
 have tb:t≠A.bd:=λz=>by rw[z,bd2]at et2;cases et2
 have et3:upd H2 A.bd (.lst (bd.map V.int++[.int k.1])) t=some (.tup (r.1.map V.int)):=by rw[zV tb];exact et2
 refine⟨_,rfl,A.rd,CR,A.dr,_,_,rfl,rd3,T.cls,T.f_bodies,rfl,.inl ⟨rfl,_,.of zH⟩,_,rfl,A.bd,t,_,_,rfl,rfl,zH,et3,kP (by rw[zB,zD,zD];show bd.length+1+r.1.length<=_;lia),?_⟩;rw[Ig];have eb:bd.map V.int++[V.int k.1]++r.1.map V.int=(bd++k.1::r.1).map V.int:=by simp
 rw[eb];have et4:upd H2 A.bd (.lst ((bd++k.1::r.1).map V.int)) t=some (.tup (r.1.map V.int)):=by rw[zV tb];exact et2
 have k4:xY [A.rd,A.bd] H (upd H2 A.bd (.lst ((bd++k.1::r.1).map V.int))):=k2.trans (xY.upd (zQ _ (zO ..)));have lv4: ∀b,upd H2 A.bd (.lst ((bd++k.1::r.1).map V.int)) b=none->H b=none:=wX (λb z=>lv1 b (lv2 b z)) bd2;have ht4:uV H (upd H2 A.bd (.lst ((bd++k.1::r.1).map V.int))):=λb xs e=>by
  have:=ht2 b xs e;rw[zV (λz=>by rw[z,bd2]at this;cases this)];exact this
 have N4:Xa CR A (upd H2 A.bd (.lst ((bd++k.1::r.1).map V.int))) bx W bs num cnt r.2 (bd++k.1::r.1):=by
  refine⟨⟨by rw[zV nrb];exact rd2,by rw[zV (Ne.symm N.n1)];exact lst2 N.w.wd,N.w.ok⟩,by rw[zV (Ne.symm N.n2)];exact lst2 N.box,?_,N.cn.tups (λxs e=>by rw[zV (Ne.symm N.n3)];exact lst2 e) ht4,zH,N.n1,N.n2,N.n3,o1,?_⟩
  ·rw[zV (λz=>by rw[z,bd2]at nu2;cases nu2)];exact nu2
  ·rw[zB,zK]
   rcases kq with⟨ka,kb⟩|⟨ka,kb,kc⟩
   ·have:=o3 ka;lia
   ·lia
 generalize upd H2 A.bd (.lst ((bd++k.1::r.1).map V.int))=H4 at *
 generalize bd++k.1::r.1=bd4 at *
 have d6:k.1=6->0<=r.1.headD 0/\(r.1.headD 0).toNat <cnt.length:=λz=>by
  rw[z]at e2;obtain⟨x,ex⟩:=XI e2;exact nok.there _ _ ex
 refine⟨_,rfl,_,rfl,_,rfl,A.rd,CR,A.dr,_,_,rfl,N4.w.rd,T.cls,T.f_counted,rfl,k.1,t,A.cn,r.1,cnt,rfl,et4,N4.cn,?_,?_,o6,d6,?_⟩
 ·rcases kq with⟨ka,kb⟩|⟨ka,kb,kc⟩<;>lia
 ·rcases kq with⟨ka,kb⟩|⟨ka,kb,kc⟩<;>lia
 obtain⟨n1,n2⟩:=WI nok.near o7;generalize GZ cnt k.1 r.1=nd at *
 generalize er:uD (uC W num cnt bs d) nd.toNat r.2 bd4=res at q;refine⟨_,rfl,by lia,by lia,AE (λi σ' H'=> ∃a' bd' v5,σ'=[some (.ref A.rd),some (.ref bx),some (.int (11-((d+1:Nat):Int))),some (.int k.1),some (.ref t),v5]/\xY [A.rd,A.bd] H H'/\(∀b,H' b=none->H b=none)/\Xa CR A H' bx W bs num cnt a' bd'/\
  uD (uC W num cnt bs d) (nd.toNat-i) a' bd'=res) ⟨_,_,_,rfl,k4,lv4,N4,er⟩ ?_ ?_⟩
 ·rintro i σ' H' hi ⟨a',bd',v5,rfl,kp',lv',N',ep⟩;refine⟨_,rfl,_,rfl,_,rfl,_,_,rfl,rfl,A,bx,W,bs,num,cnt,a',bd',?_,by lia,N',nok,?_⟩
  ·show[V.ref A.rd,.ref bx,.int (11-((d+1:Nat):Int)+1)]=[V.ref A.rd,.ref bx,.int (11-(d:Int))];rw[show(11-((d+1:Nat):Int)+1)=11-(d:Int)by lia]
  have hs:nd.toNat-i=(nd.toNat-(i+1))+1:=by lia
  rw[hs]at ep;unfold uD at ep;cases e3:uC W num cnt bs d a' bd' with
  |error n=>
   rw[e3]at ep;rw[<-ep]at q;exact wH.mono q kp'
  |ok z=>
   rw[e3]at ep;dsimp only at ep;exact λH5 k5 lv5 N5=>⟨_,_,_,rfl,kp'.trans k5,λb e=>lv' b (lv5 b e),N5,ep⟩
 ·rintro σ' H' ⟨a',bd',v5,rfl,kp',lv',N',ep⟩;rw[Av]at ep;unfold uD at ep;rw[<-ep]at q;exact q H' kp' lv' N'
theorem WB {lo:Int}{n:Nat}{g:TG}{tb:TS}{D:He}{σ:St}{H:Hp}(Pv:Nat->St->Hp->Prop)(h0:Pv 0 σ H)
  (hs: ∀i σ H,i<n->Pv i σ H->g (.int (lo-(i:Nat))) σ H λσ2 H2=>tb {D with nx:=Pv (i+1),ct:=Pv (i+1),bk:=D.nx} σ2 H2) (hd: ∀σ H,Pv n σ H->D.nx σ H):
  ∃W:Nat->Nat->St->Hp->Prop,(∃m,W 0 m σ H)/\ ∀i m σ H,W i m σ H->
   ((Itd lo n).stop i H/\D.nx σ H)\/((Itd lo n).go i H/\ ∃N:St->Hp->Prop,(∀σ' H',N σ' H'-> ∃m',m'<m/\W (i+1) m' σ' H')/\ ∀x H',(Itd lo n).yld i H x H'->g x σ H' λσ2 H2=>tb {D with nx:=N,ct:=N,bk:=D.nx} σ2 H2):=by
 refine⟨λi m σ H=>m=n-i/\i<=n/\Pv i σ H,⟨n,by simp,yU _,h0⟩,?_⟩;rintro i m σ H ⟨rfl,hi,p⟩
 by_cases hlt:i<n
 ·refine .inr ⟨hlt,Pv (i+1),λσ' H' p'=>⟨n-(i+1),by lia,rfl,hlt,p'⟩,λx H' y=>?_⟩;obtain⟨e,y⟩:=y;subst e y;exact hs i σ _ hlt p
 ·have e:i=n:=by lia
  subst e;exact .inl ⟨zW _,hd σ H p⟩
inductive IM (vs:List V) (H:Hp) (Q:VK) (E:XK):Prop
 |mk (wd:Addr) (W:List Str) (h0:vs=[.ref wd]) (h1:H wd=some (.lst (W.map V.str))) (h2:W.length<=1000000) (h3: ∀p H',H p=none->kS H H'->H' p=some (.dK (Gb (AA W)))->Q (.ref p) H'):IM vs H Q E
inductive OM (vs:List V) (H:Hp) (Q:VK) (E:XK):Prop
 |mk (wd:Addr) (W:List Str) (h0:vs=[.ref wd]) (h1:H wd=some (.lst (W.map V.str))) (h2:W.length<=1000000) (h3: ∀p H',H p=none->kS H H'->Gn H' p (AH W)->Q (.ref p) H'):OM vs H Q E
theorem GY (x y:Str):decide (V.str x=V.str y)=decide (x=y):=by
 by_cases z:x=y
 ·rw[z,zY rfl,zY rfl]
 ·rw[yA z,yA (λe=>z (by injection e))]
theorem Qs (T:Txt K mg aP aW aH CT CR)(F:uB K "number_names" "number_names" Ez f fd):BT P w K mg base 1 f fd ["words"] IM:=by
 refine F.oN Ay λcdv A outer s H vs Q E hr h=>?_;obtain⟨wd,W,rfl,hw,hl,q⟩:=h;refine⟨_,(zF (yS (i:=1) Ay.nd rfl (Or.inl rfl) Qm)
   (zF (yS (i:=2) Ay.nd rfl (Or.inl rfl) zR)
   (zF (Al xS rfl (uZ rfl T.n_range (zA (xB yX rfl T.n_len kA (zA (pv 0) zG)) zG)) (xJ (i:=3) Ay.nd rfl (Or.inl rfl)) (zL (xP (yI jY (jI jA (pv 0) (pv 3) (λ_ _=>rfl)) jX (yP _)) (zF (xP (yI EF (yV jN (pv 3) zR) (xB yX rfl T.n_len kA (zA (pv 0) zG)) (yP _)) (zL (jJ (VE (pv 1) (jI jA (pv 0) (yV jN (pv 3) zR) (λ_ _=>rfl)) (pv 2) ⟨rfl,rfl,rfl,rfl⟩))) yM)
   (zL (ZN (i:=2) Ay.nd rfl (Or.inl rfl) zR zAm))) yM)))
   (zL (yO (pv 1)))))),?_⟩
 try dsimp only[Cx.nox,Cx.exc,Cx.wish,xX]
 intro p hp;have nw:wd≠p:=zM hw hp;have hwp: ∀o,upd H p o wd=some (.lst (W.map V.str)):=λo=>by rw[zV nw];exact hw
 have hz:(W.map V.str).length =W.length:=zD ..;refine⟨_,rfl,wd,_,rfl,.inl (.of (hwp _)),_,rfl,by lia,by lia,AE (λi σ' H'=> ∃(g:Int) (acc:List (Str×Int)) (v3:Option V),σ'=[some (.ref wd),some (.ref p),some (.int g),v3]/\H'=upd H p (.dK (Gb acc))/\IC (W.drop i) g acc=AA W/\acc.length<=i) ⟨0,[],none,rfl,rfl,rfl,zW _⟩ ?_ ?_⟩
 ·rintro i σ' H' hi ⟨g,acc,v3,rfl,rfl,eg,la⟩;have hi':i<W.length:=by lia
  have e1:W[i]? =some W[i]:=zE hi';rw[xQ hi']at eg;generalize W[i]=x at e1 eg;have atx:FO (W.map V.str) ((0:Int)+(i:Int))=some (.str x):=by
   rw[Int.zero_add];exact vB (by rw[zS,e1];rfl)
  refine⟨_,rfl,_,rfl,wd,_,_,_,rfl,rfl,.of (hwp _),atx,rfl,_,rfl,?_⟩;rw[GY];unfold IC at eg;refine kL (λc=>?_) (λc=>?_)
  ·rw[zT (zZ c)]at eg;refine⟨_,rfl,_,_,rfl,rfl,_,rfl,wd,_,rfl,.inl (.of (hwp _)),_,_,rfl,rfl,_,rfl,kL (λc2=>?_) (λc2=>?_)⟩
   ·have c2':=zZ c2;have hi2:i+1<W.length:=by lia
    have e2:W[i+1]? =some W[i+1]:=zE hi2;rw[xQ hi2]at eg;generalize ey:W[i+1]=y at e2 eg;have aty:FO (W.map V.str) ((0:Int)+(i:Int)+1)=some (.str y):=by
     have:=vB (xs:=W.map V.str) (j:=i+1) (v:=.str y) (by rw[zS,e2];rfl);rw[show(((i+1:Nat):Int))=(0:Int)+(i:Int)+1 by lia]at this;exact this
    dsimp only at eg;refine⟨_,rfl,p,rfl,.inl ⟨_,.inl zH⟩,_,rfl,_,rfl,_,_,rfl,rfl,wd,_,_,_,rfl,rfl,.of (hwp _),aty,_,rfl,Gb acc,Sum.inr y,zH,rfl,uN (by unfold Gb;rw[zD];lia),λv hv=>?_,λhv=>?_⟩
    ·rw[BZ]at hv;have hs:(jT acc y).isSome =true:=by
      cases z:jT acc y with
      |none=>rw[z]at hv;cases hv
      |some n=>rfl
     rw[hs,zT rfl]at eg;refine⟨_,rfl,_,_,rfl,rfl,?_⟩;exact⟨_,_,_,rfl,rfl,by rw[xQ hi2,ey];exact eg,by lia⟩
    ·rw[BZ]at hv;have hs:(jT acc y).isSome =false:=by
      cases z:jT acc y with
      |none=>rfl
      |some n=>rw[z]at hv;cases hv
     rw[hs,zI (by decide)]at eg;rw[Ig];refine⟨_,rfl,_,_,rfl,rfl,?_⟩;exact⟨_,acc++[(y,g)],_,rfl,by unfold Gb;rw[yB];rfl,by rw[xQ hi2,ey];exact eg,by rw[zB];show acc.length+1<=i+1;lia⟩
   ·have c2':=df c2;have hn:W.drop (i+1)=[]:=vD (by lia);rw[hn]at eg;refine⟨_,rfl,_,_,rfl,rfl,?_⟩;exact⟨_,_,_,rfl,rfl,by rw[hn];exact eg,by lia⟩
  ·rw[zI (xT (Bool.eq_false_iff.mpr c))]at eg;exact⟨_,_,_,rfl,rfl,eg,by lia⟩
 ·rintro σ' H' ⟨g,acc,v3,rfl,rfl,eg,la⟩;rw[vD (by lia)]at eg;have eg':acc=AA W:=eg;refine⟨_,rfl,q p _ hp (zN hp _) ?_⟩;rw[zH,eg']
theorem Wb (T:Txt K mg aP aW aH CT CR)(F:uB K "count_params" "count_params" EB f fd):BT P w K mg base 1 f fd ["words"] OM:=by
 refine F.oN Az λcdv A outer s H vs Q E hr h=>?_;obtain⟨wd,W,rfl,hw,hl,q⟩:=h;refine⟨_,(zF (yS (i:=1) Az.nd rfl (Or.inl rfl) (xV zG))
   (zF (yS (i:=2) Az.nd rfl (Or.inl rfl) (xB yX rfl T.n_len kA (zA (pv 0) zG)))
   (zF (Al xS rfl (XB rfl T.n_range (zA (yV wU (xB yX rfl T.n_len kA (zA (pv 0) zG)) zR) (zA (SR Ov zR) (zA (SR Ov zR) zG)))) (xJ (i:=3) Az.nd rfl (Or.inl rfl)) (zF (FI (xP (yI jY (jI jA (pv 0) (pv 3) (λ_ _=>rfl)) jX (yP _)) (zL (yS (i:=2) Az.nd rfl (Or.inl rfl) (pv 3))) yM))
   (zL (xP (yI jY (jI jA (pv 0) (pv 3) (λ_ _=>rfl)) jX (yP _)) (zL (jJ (qI zU yF yE jO (pv 1) (zA (jZ (zA (yV wU (yV wU (pv 2) (pv 3)) zR) zG)) zG)))) yM))))
   (zF (jJ (RG zU PySem.F.slot_list_reverse PySem.F.type_list_reverse RV (pv 1)))
   (zL (yO (pv 1))))))),?_⟩
 try dsimp only[Cx.nox,Cx.exc,Cx.wish,xX]
 refine⟨sm0,λp hp=>?_⟩;have nw:wd≠p:=zM hw hp;have hwp:upd H p (.lst []) wd=some (.lst (W.map V.str)):=by rw[zV nw];exact hw
 have hz:(W.map V.str).length =W.length:=zD ..;refine⟨_,rfl,wd,_,rfl,.inl (.of hwp),?_⟩;refine⟨_,rfl,wd,_,rfl,.inl (.of hwp),_,_,rfl,rfl,_,rfl,_,rfl,_,_,rfl,⟨by lia,by lia,by lia,by lia⟩,?_⟩;refine WB (λi σ' H'=> ∃(e:Int) (cs:List Int) (vs:List V) (v3:Option V),σ'=[some (.ref wd),some (.ref p),some (.int e),v3]/\kS H H'/\H' p=some (.lst vs)/\Paired (Zp H') vs cs.reverse/\i<=W.length/\BX (W.drop (W.length-i)) (W.length-i)=(e,cs)/\cs.length<=i)
  ⟨_,[],[],none,rfl,zN hp _,zH,.nil,yU _,?_,zW _⟩ ?_ ?_
 ·rw[Nat.sub_zero,List.drop_length];show(((W.length:Nat):Int),([]:List Int))=_;rw[hz]
 ·rintro i σ' H' hi ⟨e,cs,vs,v3,rfl,sm,ep,pr,hil,ec,lc⟩;have hi':i<W.length:=by lia
  have hj:W.length-(i+1)<W.length:=by lia
  have e1:W[W.length-(i+1)]? =some W[W.length-(i+1)]:=zE hj;have ed:W.drop (W.length-(i+1))=W[W.length-(i+1)]::W.drop (W.length-i):=by
   rw[xQ hj,show W.length-(i+1)+1=W.length-i by lia]
  have en:W.length-i=W.length-(i+1)+1:=by lia
  rw[en]at ec;rw[en]at ed;generalize W[W.length-(i+1)]=x at e1 ed;have atx:FO (W.map V.str) (((W.map V.str).length:Int)-1-(i:Int))=some (.str x):=by
   refine Du (by lia) ?_;rw[show(((W.map V.str).length:Int)-1-(i:Int)).toNat =W.length-(i+1)by lia,zS,e1];rfl
  have hw':=sm _ _ hw;have np: ∀{H2:Hp},kS H' H2->True:=λ_=>trivial;have step:BX (W.drop (W.length-(i+1))) (W.length-(i+1))=((if x="with" then((W.length-(i+1):Nat):Int)else e),if x="fun" then((if x="with" then((W.length-(i+1):Nat):Int)else e)-((W.length-(i+1):Nat):Int)-2)::cs else cs):=by
   rw[ed];unfold BX;rw[ec]
  have ej:((W.map V.str).length:Int)-1-(i:Int)=((W.length-(i+1):Nat):Int):=by lia
  generalize ee:(if x="with" then((W.length-(i+1):Nat):Int)else e)=e' at step;refine⟨λσ2 H2=>σ2=[some (.ref wd),some (.ref p),some (.int e'),some (.int (((W.map V.str).length:Int)-1-(i:Int)))]/\H2=H',?_,?_⟩
  ·refine⟨_,rfl,_,rfl,wd,_,_,_,rfl,rfl,.of hw',atx,rfl,_,rfl,?_⟩;rw[GY];refine kL (λc=>?_) (λc=>?_)
   ·rw[zT (zZ c)]at ee;rw[ej,<-ee];exact⟨_,rfl,rfl,rfl⟩
   ·rw[zI (xT (Bool.eq_false_iff.mpr c))]at ee;rw[<-ee];exact⟨rfl,rfl⟩
  rintro _ _ ⟨rfl,rfl⟩;rename_i H';refine⟨_,rfl,_,rfl,wd,_,_,_,rfl,rfl,.of hw',atx,rfl,_,rfl,?_⟩;rw[GY];refine kL (λc=>?_) (λc=>?_)
  ·rw[zT (zZ c)]at step;refine⟨_,rfl,.inl ⟨rfl,_,.of ep⟩,_,rfl,_,rfl,_,_,rfl,rfl,_,_,rfl,rfl,sm1,λt ht=>?_⟩;have nt:p≠t:=zM ep ht;have lv:=Paired.len pr;rw[uW]at lv;have sm2: ∀o u,kS H (upd (upd H' t o) p u):=λo u b z ez=>by
    rw[zV (zM ez hp),zV (zM (sm _ _ ez) ht)];exact sm _ _ ez
   refine⟨p,_,_,rfl,rfl,by rw[zV nt];exact ep,uN (by lia),_,_,_,_,rfl,sm2 _ _,zH,?_,by lia,step,?_⟩
   ·rw[uQ];refine wP (Paired.imp (λv n z=>?_) pr) ⟨t,rfl,?_⟩
    ·obtain⟨t',rfl,et⟩:=z;refine⟨t',rfl,?_⟩;rw[zV (λz=>by rw[z,ep]at et;cases et),zV (zM et ht)];exact et
    ·rw[zV (Ne.symm nt),zH,ej]
   ·rw[zK];lia
  ·rw[zI (xT (Bool.eq_false_iff.mpr c))]at step;exact⟨_,_,_,_,rfl,sm,ep,pr,by lia,step,by lia⟩
 ·rintro σ' H' ⟨e,cs,vs,v3,rfl,sm,ep,pr,hil,ec,lc⟩;refine⟨_,rfl,.inl ⟨rfl,_,.of ep⟩,p,_,rfl,rfl,ep,_,rfl,q p _ hp (λb z ez=>?_) ⟨_,zH,?_⟩⟩
  ·rw[zV (zM ez hp)];exact sm _ _ ez
  ·have e0:cs=AH W:=by
    have:W.length-(((W.map V.str).length:Int)-1- -1).toNat =0:=by lia
    rw[this,Af]at ec;unfold AH;rw[ec]
   rw[<-e0];have pr2:=Paired.rev pr;rw[List.reverse_reverse]at pr2;refine Paired.imp (λv n z=>?_) pr2;obtain⟨t',rfl,et⟩:=z;refine⟨t',rfl,?_⟩;rw[zV (λz=>by rw[z,ep]at et;cases et)];exact et
structure zDs (C:Addr)(A:RA)(H H':Hp)(W:List Str):Prop where
 rd:H' A.rd=some (Fa C A 0)
 keep:kX A.rd H H'
 nm:H' A.nm=some (.lst [])
 hd:H' A.hd=some (.lst [])
 bd:H' A.bd=some (.lst [])
 nu:H' A.nu=some (.dK (Gb (AA W)))
 cn:Gn H' A.cn (AH W)
 n1:A.nm≠A.hd
 n2:A.nm≠A.bd
 n3:A.hd≠A.bd
 n4:A.cn≠A.nm
 n5:A.cn≠A.hd
 n6:A.cn≠A.bd
 f1:H A.nm=none
 f2:H A.hd=none
 f3:H A.bd=none
 f4:H A.cn=none
theorem PZ {G G1:Hp}{x p:Addr}{i o:HO}(u:HO)(sm:kS G G1)(gx:G x=some i)(a:G p=none)(ep:G1 p=some o):G1 x=some i/\kX x G (upd G1 x u)/\upd G1 x u p=some o/\upd G1 x u x=some u/\ ∀b,upd G1 x u b=none->G b=none:=by
 have n:p≠x:=Ne.symm (zM gx a);refine⟨sm _ _ gx,λb v nb e=>?_,?_,zH,λb e=>?_⟩
 ·rw[zV nb];exact sm _ _ e
 ·rw[zV n];exact ep
 ·by_cases z:b=x
  ·rw[z,zH]at e;cases e
  ·rw[zV z]at e;exact sm.free e
theorem Gn.keep {H H':Hp}{x c:Addr}{cnt:List Int}{C dx:Addr}{fs:List (Str×V)}(h:Gn H c cnt)(k:kX x H H')(hx:H x=some (.ins C dx fs)):Gn H' c cnt:=
 h.tups (λxs e=>k _ _ (λz=>by rw[z,hx]at e;cases e) e) λb xs e=>k _ _ (λz=>by rw[z,hx]at e;cases e) e
inductive OI (C:Addr) (vs:List V) (H:Hp) (Q:VK) (E:XK):Prop
 |mk (x dx wd:Addr) (W:List Str) (h0:vs=[.ref x,.ref wd]) (h1:H x=some (.ins C dx [])) (h2:H wd=some (.lst (W.map V.str))) (h3:W.length<=1000000) (h4: ∀A H',A.rd=x->A.dr=dx->A.wd=wd->zDs C A H H' W->Q .non H'):OI C vs H Q E
theorem VW (T:Txt K mg aP aW aH CT CR)(F:uB K "__init__" "Reading.__init__" BG f fd)(Ca5:uT P w K mg base 1 "number_names" ["words"] IM)
  (Ca8:uT P w K mg base 1 "count_params" ["words"] OM):BT P w K mg base 2 f fd ["self","words"] (OI CR):=by
 refine F.oN Iz λcdv A outer s H vs Q E hr h=>?_;obtain⟨x,dx,wd,W,rfl,hx,hw,hl,q⟩:=h;refine⟨_,(zF (GO (pv 0) (pv 1) rfl)
   (zF (GO (pv 0) zR rfl)
   (zF (GO (pv 0) (xV zG) rfl)
   (zF (GO (pv 0) (xV zG) rfl)
   (zF (GO (pv 0) (xV zG) rfl)
   (zF (GO (pv 0) (yD Ca5 hr rfl (zA (pv 1) zG) jK) rfl)
   (zL (GO (pv 0) (yD Ca8 hr rfl (zA (pv 1) zG) jK) rfl)))))))),?_⟩
 try dsimp only[Cx.nox,Cx.exc,Cx.wish,xX]
 have nwx:wd≠x:=λz=>by rw[z,hx]at hw;cases hw
 refine⟨_,rfl,_,rfl,x,CR,dx,_,rfl,hx,T.cls,T.f_words,(show 0<1000 by decide),?_⟩;refine⟨_,rfl,x,CR,dx,_,rfl,zH,T.cls,T.f_at,(show 1<1000 by decide),?_⟩;rw[Ig];have live0: ∀{b:Addr} {o:HO},upd H x o b=none->H b=none:=fun{b o} e=>by
  by_cases z:b=x
  ·rw[z,zH]at e;cases e
  ·rw[zV z]at e;exact e
 have K0: ∀{o:HO},kX x H (upd H x o):=fun{o}=>kX.upd;generalize hG:upd H x _=G at *
 have gx:G x=some (.ins CR dx [("words",.ref wd),("at",.int 0)]):=by rw[<-hG];exact zH
 have gk:kX x H G:=by rw[<-hG];exact kX.upd
 have gl: ∀b,G b=none->H b=none:=λb e=>by rw[<-hG]at e;exact live0 e
 clear hG live0 K0;refine⟨sm0,λnm a1=>?_⟩;obtain⟨x1,k1,p1,y1,l1⟩:=PZ (.ins CR dx [("words",.ref wd),("at",.int 0),("names",.ref nm)]) (zN a1 (.lst [])) gx a1 zH;refine⟨_,rfl,x,CR,dx,_,rfl,x1,T.cls,T.f_names,(show 2<1000 by decide),sm0,λhd a2=>?_⟩;obtain⟨x2,k2,p2,y2,l2⟩:=PZ (.ins CR dx [("words",.ref wd),("at",.int 0),("names",.ref nm),("heads",.ref hd)]) (zN a2 (.lst [])) y1 a2 zH;refine⟨_,rfl,x,CR,dx,_,rfl,x2,T.cls,T.f_heads,(show 3<1000 by decide),sm0,λbd a3=>?_⟩;obtain⟨x3,k3,p3,y3,l3⟩:=PZ (.ins CR dx [("words",.ref wd),("at",.int 0),("names",.ref nm),("heads",.ref hd),("bodies",.ref bd)]) (zN a3 (.lst [])) y2 a3 zH;refine⟨_,rfl,x,CR,dx,_,rfl,x3,T.cls,T.f_bodies,(show 4<1000 by decide),?_⟩;have k03:=gk.trans (k1.trans (k2.trans k3));refine⟨_,rfl,wd,W,rfl,k03 _ _ nwx hw,hl,λnu G4 a4 s4 e4=>?_⟩;obtain⟨x4,k4,p4,y4,l4⟩:=PZ (.ins CR dx [("words",.ref wd),("at",.int 0),("names",.ref nm),("heads",.ref hd),("bodies",.ref bd),("numbered",.ref nu)]) s4 y3 a4 e4;refine⟨_,rfl,x,CR,dx,_,rfl,x4,T.cls,T.f_numbered,(show 5<1000 by decide),?_⟩;refine⟨_,rfl,wd,W,rfl,(k03.trans k4) _ _ nwx hw,hl,λcn G5 a5 s5 e5=>?_⟩;obtain⟨vs,ev,pv⟩:=id e5;obtain⟨x5,k5,p5,y5,l5⟩:=PZ (.ins CR dx [("words",.ref wd),("at",.int 0),("names",.ref nm),("heads",.ref hd),("bodies",.ref bd),("numbered",.ref nu),("counted",.ref cn)]) s5 y4 a5 ev;refine⟨_,rfl,x,CR,dx,_,rfl,x5,T.cls,T.f_counted,(show 6<1000 by decide),?_⟩;have nx: ∀{G:Hp} {b:Addr} {i:HO},G x=some i->G b=none->b≠x:=λe a=>Ne.symm (zM e a);have m1:=nx gx a1;have m2:=nx y1 a2;have m3:=nx y2 a3;have m4:=nx y3 a4;have h2:=k2 _ _ m1 p1;have h3:=k3 _ _ m1 h2;have h4:=k4 _ _ m1 h3;have i3:=k3 _ _ m2 p2;have i4:=k4 _ _ m2 i3;have j4:=k4 _ _ m3 p3;refine q ⟨x,dx,wd,nm,hd,bd,nu,cn⟩ _ rfl rfl rfl ⟨y5,k03.trans (k4.trans k5),k5 _ _ m1 h4,k5 _ _ m2 i4,k5 _ _ m3 j4,k5 _ _ m4 p4,Gn.keep e5 kX.upd x5,zM p1 a2,zM h2 a3,zM p2 a3,
  Ne.symm (zM h4 a5),Ne.symm (zM i4 a5),Ne.symm (zM j4 a5),gl _ a1,gl _ (l1 _ a2),gl _ (l1 _ (l2 _ a3)),gl _ (l1 _ (l2 _ (l3 _ (l4 _ a5))))⟩
def Jj (H:Hp)(v:V)(p:Str×List Str):Prop:= ∃t b,v=.ref t/\H t=some (.tup [.str p.1,.ref b])/\H b=some (.tup (p.2.map V.str))
theorem Jj.tups {H H':Hp}{v:V}{p:Str×List Str}(h:Jj H v p)(g:uV H H'):Jj H' v p:=by
 obtain⟨t,b,rfl,e1,e2⟩:=h;exact⟨t,b,rfl,g _ _ e1,g _ _ e2⟩
structure FnR (C:Addr)(A:RA)(H:Hp)(W:List Str)(num:List (Str×Int))(cnt:List Int)(s:RS):Prop where
 w:MT C A W H s.at_
 nm: ∃vs,H A.nm=some (.lst vs)/\Paired (Jj H) vs s.names
 hd:H A.hd=some (.lst (s.heads.map V.int))
 bd:H A.bd=some (.lst (s.bodies.map V.int))
 nu:H A.nu=some (.dK (Gb num))
 cn:Gn H A.cn cnt
 n1:A.nm≠A.hd
 n2:A.nm≠A.bd
 n3:A.hd≠A.bd
 n4:A.cn≠A.nm
 n5:A.cn≠A.hd
 n6:A.cn≠A.bd
 w1:A.wd≠A.nm
 w2:A.wd≠A.hd
 w3:A.wd≠A.bd
 le:s.at_<=W.length
 few:s.bodies.length<=2*s.at_
 hfew:s.heads.length=2*s.names.length
 nfew:s.names.length<=16
def UE (A:RA):List Addr:=[A.rd,A.bd,A.nm,A.hd]
inductive Rp (C CT:Addr) (vs:List V) (H:Hp) (Q:VK) (E:XK):Prop
 |mk (A:RA) (W:List Str) (num:List (Str×Int)) (cnt:List Int) (s:RS) (h0:vs=[.ref A.rd]) (h1:FnR C A H W num cnt s) (h2:Sq num cnt) (h3:KB (λs'=> ∀H',xY (UE A) H H'->(∀b,H' b=none->H b=none)->FnR C A H' W num cnt s'->Q .non H') (wH CT (UE A) H E) (Lk W num cnt s)):Rp C CT vs H Q E
theorem Kx {A:RA}:A.rd∈UE A:=zO ..
theorem WS {A:RA}:A.bd∈UE A:=zQ _ (zO ..)
theorem zAv {A:RA}:A.nm∈UE A:=zQ _ (zQ _ (zO ..))
theorem zAw {A:RA}:A.hd∈UE A:=zQ _ (zQ _ (zQ _ (zO ..)))
structure PH (C:Addr)(A:RA)(H Hi:Hp)(W:List Str)(num:List (Str×Int))(cnt:List Int)(bx:Addr)(bs:List Str)(a:Nat)(nv:List V)(hds bds:List Int):Prop where
 w:MT C A W Hi a
 nm:Hi A.nm=some (.lst nv)
 hd:Hi A.hd=some (.lst (hds.map V.int))
 bd:Hi A.bd=some (.lst (bds.map V.int))
 nu:Hi A.nu=some (.dK (Gb num))
 cn:Gn Hi A.cn cnt
 box:Hi bx=some (.lst (bs.map V.str))
 tup:uV H Hi
 keep:xY (UE A) H Hi
 live: ∀b,Hi b=none->H b=none
structure Apt (A:RA)(H:Hp)(bx:Addr):Prop where
 n1:A.nm≠A.hd
 n2:A.nm≠A.bd
 n3:A.hd≠A.bd
 n4:A.cn≠A.nm
 n5:A.cn≠A.hd
 n6:A.cn≠A.bd
 w1:A.wd≠A.nm
 w2:A.wd≠A.hd
 w3:A.wd≠A.bd
 b1:bx≠A.nm
 b2:bx≠A.hd
 b3:bx≠A.bd
 b4:bx≠A.wd
 b5:bx≠A.cn
 bn:H bx=none
section
variable {C:Addr}{A:RA}{H Hi Hj:Hp}{W:List Str}{num:List (Str×Int)}{cnt:List Int}{bx:Addr}{bs bs':List Str}{a a':Nat}{nv:List V}{hds bds:List Int}
theorem PH.fail (m:PH C A H Hi W num cnt bx bs a nv hds bds){E:XK}{n:Nat}(f:wH CT (UE A) H E n)(hb:H bx=none):wH CT [A.rd,bx] Hi E n:=λd H' g e=>f d H' (λb o nb q=>g b o (λz=>by
 rcases List.mem_cons.mp z with z|z
 ·exact nb (z▸Kx)
 ·rw[List.mem_singleton.mp z,hb]at q;cases q) (m.keep b o nb q)) e
theorem PH.boxes (m:PH C A H Hi W num cnt bx bs a nv hds bds)(p:Apt A H bx)(k:xY [A.rd,bx] Hi Hj)(lv: ∀b,Hj b=none->Hi b=none)(e1:Hj A.rd=some (Fa C A a'))(e2:Hj bx=some (.lst (bs'.map V.str))):PH C A H Hj W num cnt bx bs' a' nv hds bds:=by
 have nx: ∀{b:Addr} {xs:List V},Hi b=some (.lst xs)->b≠bx->Hj b=some (.lst xs):=fun{b xs} e n=>k b _ (λz=>by
  rcases List.mem_cons.mp z with z|z
  ·exact m.w.ne e z
  ·exact n (List.mem_singleton.mp z)) e
 have tp:uV Hi Hj:=λb xs e=>k b _ (λz=>by
  rcases List.mem_cons.mp z with z|z
  ·rw[z,m.w.rd]at e;cases e
  ·rw[List.mem_singleton.mp z,m.box]at e;cases e) e
 refine⟨⟨e1,nx m.w.wd (Ne.symm p.b4),m.w.ok⟩,nx m.nm (Ne.symm p.b1),nx m.hd (Ne.symm p.b2),nx m.bd (Ne.symm p.b3),k _ _ (λz=>?_) m.nu,m.cn.tups (λxs e=>nx e (Ne.symm p.b5)) tp,e2,λb xs e=>tp _ _ (m.tup _ _ e),λb o nb e=>k b o (λz=>?_) (m.keep b o nb e),λb e=>m.live b (lv b e)⟩
 ·have:=m.nu
  rcases List.mem_cons.mp z with z|z
  ·rw[z,m.w.rd]at this;cases this
  ·rw[List.mem_singleton.mp z,m.box]at this;cases this
 ·rcases List.mem_cons.mp z with z|z
  ·exact nb (z▸Kx)
  ·rw[List.mem_singleton.mp z,p.bn]at e;cases e
theorem PH.heads (m:PH C A H Hi W num cnt bx bs a nv hds bds)(p:Apt A H bx)(hds':List Int):PH C A H (upd Hi A.hd (.lst (hds'.map V.int))) W num cnt bx bs a nv hds' bds:=by
 have nx: ∀{b:Addr} {o:HO},b≠A.hd->Hi b=some o->upd Hi A.hd (.lst (hds'.map V.int)) b=some o:=λn e=>by rw[zV n];exact e
 have tp:uV Hi (upd Hi A.hd (.lst (hds'.map V.int))):=λb xs e=>nx (λz=>by rw[z,m.hd]at e;cases e) e;exact⟨⟨nx (Ne.symm (m.w.ne m.hd)) m.w.rd,nx p.w2 m.w.wd,m.w.ok⟩,nx p.n1 m.nm,zH,nx (Ne.symm p.n3) m.bd,nx (λz=>by have:=m.nu;rw[z,m.hd]at this;cases this) m.nu,m.cn.tups (λxs e=>nx p.n5 e) tp,nx p.b2 m.box,λb xs e=>tp _ _ (m.tup _ _ e),
  m.keep.trans (xY.upd zAw),wX m.live m.hd⟩
theorem PH.same (m:PH C A H Hi W num cnt bx bs a nv hds bds)(g:kS Hi Hj):PH C A H Hj W num cnt bx bs a nv hds bds:=
 ⟨⟨g _ _ m.w.rd,g _ _ m.w.wd,m.w.ok⟩,g _ _ m.nm,g _ _ m.hd,g _ _ m.bd,g _ _ m.nu,m.cn.tups (λxs e=>g _ _ e) λb xs e=>g _ _ e,g _ _ m.box,λb xs e=>g _ _ (m.tup _ _ e),m.keep.trans (xY.same g),λb e=>m.live b (g.free e)⟩
theorem PH.named (m:PH C A H Hi W num cnt bx bs a nv hds bds)(p:Apt A H bx)(nv':List V):PH C A H (upd Hi A.nm (.lst nv')) W num cnt bx bs a nv' hds bds:=by
 have nx: ∀{b:Addr} {o:HO},b≠A.nm->Hi b=some o->upd Hi A.nm (.lst nv') b=some o:=λn e=>by rw[zV n];exact e
 have tp:uV Hi (upd Hi A.nm (.lst nv')):=λb xs e=>nx (λz=>by rw[z,m.nm]at e;cases e) e;exact⟨⟨nx (Ne.symm (m.w.ne m.nm)) m.w.rd,nx p.w1 m.w.wd,m.w.ok⟩,zH,nx (Ne.symm p.n1) m.hd,nx (Ne.symm p.n2) m.bd,nx (λz=>by have:=m.nu;rw[z,m.nm]at this;cases this) m.nu,m.cn.tups (λxs e=>nx p.n4 e) tp,nx p.b1 m.box,λb xs e=>tp _ _ (m.tup _ _ e),
  m.keep.trans (xY.upd zAv),wX m.live m.nm⟩
theorem PH.nd (m:PH C A H Hi W num cnt bx bs a nv hds bds)(p:Apt A H bx)(le:a<=W.length)(few:bds.length<=2*a):Xa C A Hi bx W bs num cnt a bds:=
 ⟨m.w,m.box,m.nu,m.cn,m.bd,Ne.symm p.w3,Ne.symm p.b3,Ne.symm p.n6,le,few⟩
end
theorem XV (T:Txt K mg aP aW aH CT CR)(F:uB K "read_function" "read_function" By f fd)(Cb:Go P w K mg base 1 "NoText" CT ["self","at"] (Ah CT))(Cm:uT P w K mg base 3 "due" ["reading"] (GB CR CT))
  (Co:uT P w K mg base 4 "take_new_name" ["reading","there"] (OF CR CT)) (Cz:uT P w K mg base 5 "take_boxes" ["reading","boxes","most","last"] (LI CR CT))
  (Cu:uT P w K mg base 17 "read_node" ["reading","boxes","deep"] (Ii CR CT 10)):BT P w K mg base 18 f fd ["reading"] (Rp CR CT):=by
 refine F.okX Do (λvs H Q E h=>?_) (λcdv Ar outer s0 H vs Q E hr h=>?_)
 ·obtain⟨A,W,num,cnt,s,rfl,_⟩:=h;rfl
 obtain⟨A,W,num,cnt,s,rfl,R,nok,q⟩:=h;refine⟨_,(zF (xP (PW.pt (uX (yI LW (yD Cm hr rfl (zA (pv 0) zG) kW) jX (yP _)) (vK (yI jY (xB yX rfl T.n_len kA (zA (kD (pv 0) rfl) zG)) (xL rfl T.m_MOST_FUNCTIONS) (yP _))))) (zL (wF Cb hr rfl (zA (kD (pv 0) rfl) zG))) yM)
   (zF (BS (pv 0) zR HP)
   (zF (yS (i:=1) Do.nd rfl (Or.inl rfl) (yD Co hr rfl (zA (pv 0) (zA (Lo (own:=["named"]) (ys:=[]) rfl (Ik (kD (pv 0) rfl)) (Ex (sc:=yH By) rfl (by decide+kernel)) .nil (λ_ _ _ _ _=>(xJ (i:=0) (show List.Nodup [("named":Str)]from(by decide+kernel)) rfl (Or.inl rfl))) (λ_ _ _ _ _=>OU) (λ_ _ _ _ _=>(jI (Yi K rfl) (pv 0) zR (λ_ _=>rfl)))) zG)) kW))
   (zF (yS (i:=2) Do.nd rfl (Or.inl rfl) (xV zG))
   (zF (jJ (yD Cz hr rfl (zA (pv 0) (zA (pv 2) (zA (ZT (HJ (kD (pv 0) rfl) (λ_=>rfl)) (xL rfl T.m_MOST_PARAMS) zR) (zA jX zG)))) kW))
   (zF (jJ (qI zU yF yE jO (kD (pv 0) rfl) (zA (xB yX rfl T.n_len kA (zA (pv 2) zG)) zG)))
   (zF (jJ (yD Cz hr rfl (zA (pv 0) (zA (pv 2) (zA (xL rfl T.m_MOST_BOXES) (zA jX zG)))) kW))
   (zF (jJ (qI zU yF yE jO (kD (pv 0) rfl) (zA (xB yX rfl T.n_len kA (zA (pv 2) zG)) zG)))
   (zF (jJ (qI zU yF yE jO (kD (pv 0) rfl) (zA (jZ (zA (pv 1) (zA (jU Bt rfl T.n_tuple HX (zA (pv 2) zG)) zG))) zG)))
   (zL (jJ (yD Cu hr rfl (zA (pv 0) (zA (pv 2) (zA zR zG))) kW)))))))))))),?_⟩
 try dsimp only[Cx.nox,Cx.exc,Cx.wish,xX]
 obtain⟨nv,env,pnv⟩:=R.nm;have hnl:=Paired.len pnv;refine⟨_,rfl,A,W,s.at_,rfl,R.w,?_⟩;unfold Lk at q;cases e1:W[s.at_]? with
 |none=>
  rw[e1]at q;rw[show Bq W s.at_=.error s.at_ by unfold Bq;rw[e1]];exact wH.one q
 |some x=>
 rw[e1]at q;dsimp only at q;rw[show Bq W s.at_=.ok x by unfold Bq;rw[e1]];have al:=EI e1;have fail:DU CT H E (s.at_:Int)-> ∀(D:He) (σ:St),True:=λ_ _ _=>trivial;refine⟨rfl,_,rfl,?_⟩;rw[GY]
 by_cases cx:x="fun"
 ·rw[zY cx];have hnv:((nv.length:Nat):Int)=(s.names.length:Int):=by lia
  refine qG ⟨_,rfl,A.rd,CR,A.dr,_,_,rfl,R.w.rd,T.cls,T.f_names,rfl,A.nm,_,rfl,.inl (.of env),rfl,_,rfl,kL (λc=>?_) (λc=>?_)⟩
  ·have c':=vt c;rw[zT (.inr (by lia))]at q;exact⟨_,rfl,A.rd,CR,A.dr,_,_,rfl,R.w.rd,T.cls,T.f_at,rfl,sm1,AL (wH.one q)⟩
  have c':=vf c;have nf:=R.nfew;rw[zI (λz=>z.elim (λz=>z cx) (λz=>by lia))]at q;refine⟨_,rfl,A.rd,CR,A.dr,_,_,rfl,R.w.rd,T.cls,T.f_at,rfl,_,_,rfl,rfl,A.dr,_,R.w.rd,(show 7<1000 by decide),?_⟩;have R1:=R.w.put (s.at_+1);have nm1:upd H A.rd (Fa CR A (s.at_+1)) A.nm=some (.lst nv):=by rw[zV (R.w.ne env)];exact env
  have np1: ∀{b:Addr},upd H A.rd (Fa CR A (s.at_+1)) b=none->H b=none:=fun{b} e=>wX (λ_ z=>z) R.w.rd b e;have k1:xY (UE A) H (upd H A.rd (Fa CR A (s.at_+1))):=xY.upd Kx;have tp1:uV H (upd H A.rd (Fa CR A (s.at_+1))):=λb xs e=>by rw[zV (λz=>by rw[z,R.w.rd]at e;cases e)];exact e
  refine⟨_,rfl,_,rfl,A.rd,CR,A.dr,_,_,rfl,zH,T.cls,T.f_names,rfl,A.nm,rfl,⟨_,.of nm1⟩,λp hp=>?_⟩;have pm:A.nm≠p:=zM nm1 hp;have pr:A.rd≠p:=zM R1.rd hp;refine MA (xs:=nv) (λi σ' H'=>H'=upd (upd H A.rd (Fa CR A (s.at_+1))) p (.lst (((s.names.map (·.1)).take i).map V.str))/\ ∃x,σ'=[x]) ⟨rfl,_,rfl⟩ ?_ ?_ ?_
  ·rintro i σ' H' hi ⟨rfl,_⟩;exact .of (by rw[zV pm];exact nm1)
  ·rintro i v σ' H' hi hv ⟨rfl,x0,rfl⟩;have hi2:i<s.names.length:=by lia
   obtain⟨t,b,rfl,et,eb⟩:=Paired.get pnv _ _ _ hv (zE hi2);have et1:=tp1 _ _ et;refine⟨_,rfl,t,_,_,_,rfl,rfl,.of (by rw[zV (zM et1 hp)];exact et1),rfl,_,zH,uN ?_,CW.next hi ⟨?_,_,rfl⟩⟩
   ·rw[zD];have:=Ej i (s.names.map (·.1));lia
   ·rw[Ig,wQ,zS,zE hi2,yB];rfl
  rintro σ' H' ⟨rfl,_⟩;rw[xG (by rw[zD];lia)];have s2:kS (upd H A.rd (Fa CR A (s.at_+1))) (upd (upd H A.rd (Fa CR A (s.at_+1))) p (.lst ((s.names.map (·.1)).map V.str))):=zN hp _;have R2:MT CR A W (upd (upd H A.rd (Fa CR A (s.at_+1))) p (.lst ((s.names.map (·.1)).map V.str))) (s.at_+1):=⟨s2 _ _ R1.rd,s2 _ _ R1.wd,R1.ok⟩;refine⟨A,W,s.at_+1,p,s.names.map (·.1),rfl,R2,zH,?_⟩;cases e2:HL W (s.at_+1) (s.names.map (·.1))with
  |error n=>rw[e2]at q;exact(wH.mono q (k1.trans (xY.same s2))).one
  |ok name=>
  rw[e2]at q;dsimp only at q;have R3:=R2.put (s.at_+1+1);refine⟨sm0,λbx hb=>?_⟩;have s4:=zN hb (.lst []);have kb: ∀{b:Addr} {o:HO},b≠A.rd->H b=some o->upd (upd (upd (upd H A.rd (Fa CR A (s.at_+1))) p (.lst ((s.names.map (·.1)).map V.str))) A.rd (Fa CR A (s.at_+1+1))) bx (.lst []) b=some o:=fun{b o} n e=>
   s4 _ _ (by rw[zV n];exact s2 _ _ (by rw[zV n];exact e))
  have lv4: ∀b,upd (upd (upd (upd H A.rd (Fa CR A (s.at_+1))) p (.lst ((s.names.map (·.1)).map V.str))) A.rd (Fa CR A (s.at_+1+1))) bx (.lst []) b=none->H b=none:=λb e=>np1 (s2.free (wX (λ_ z=>z) R2.rd b (s4.free e)));have hbn:H bx=none:=np1 (s2.free (wX (λ_ z=>z) R2.rd bx hb));have ap:Apt A H bx:=⟨R.n1,R.n2,R.n3,R.n4,R.n5,R.n6,R.w1,R.w2,R.w3,Ne.symm (zM env hbn),Ne.symm (zM R.hd hbn),Ne.symm (zM R.bd hbn),Ne.symm (zM R.w.wd hbn),Ne.symm (by obtain⟨vs,e,_⟩:=R.cn;exact zM e hbn),hbn⟩;have tp4:uV H (upd (upd (upd (upd H A.rd (Fa CR A (s.at_+1))) p (.lst ((s.names.map (·.1)).map V.str))) A.rd (Fa CR A (s.at_+1+1))) bx (.lst [])):=λb xs e=>kb (λz=>by rw[z,R.w.rd]at e;cases e) e;have M:PH CR A H (upd (upd (upd (upd H A.rd (Fa CR A (s.at_+1))) p (.lst ((s.names.map (·.1)).map V.str))) A.rd (Fa CR A (s.at_+1+1))) bx (.lst [])) W num cnt bx [] (s.at_+2) nv s.heads s.bodies:=
   ⟨⟨s4 _ _ R3.rd,s4 _ _ R3.wd,R.w.ok⟩,kb (R.w.ne env) env,kb (R.w.ne R.hd) R.hd,kb (R.w.ne R.bd) R.bd,kb (λz=>by have:=R.nu;rw[z,R.w.rd]at this;cases this) R.nu,R.cn.tups (λxs e=>kb (R.w.ne e) e) tp4,zH,tp4,λb o nb e=>kb (λz=>nb (z▸Kx)) e,lv4⟩
  generalize upd (upd (upd (upd H A.rd (Fa CR A (s.at_+1))) p (.lst ((s.names.map (·.1)).map V.str))) A.rd (Fa CR A (s.at_+1+1))) bx (.lst [])=H4 at M;clear s4 kb lv4 tp4 s2 R2 R3;obtain⟨mo,emo⟩: ∃mo:Nat,mo=(if s.names=[]then 0 else 4):=⟨_,rfl⟩;rw[<-emo]at q;have hmo:mo<=4:=by rw[emo];split<;>lia
  have em:(if(!nv.isEmpty)=true then V.int 4 else V.int 0)=V.int (mo:Int):=by
   cases en:s.names with
   |nil=>rw[en]at hnl emo;rw[List.eq_nil_of_length_eq_zero hnl,emo];rfl
   |cons a b=>
    rw[en]at hnl emo;cases nv with
    |nil=>cases hnl
    |cons x y=>rw[emo];rfl
  refine⟨_,rfl,_,rfl,_,rfl,A.rd,CR,A.dr,_,_,rfl,M.w.rd,T.cls,T.f_names,rfl,_,.inl ⟨nv,.of M.nm,rfl⟩,A,W,s.at_+2,bx,[],mo,"with",by rw[em];rfl,M.w,M.box,ap.b4,yU _,by lia,?_⟩;cases e3:wV W mo "with" (W.length+1) (s.at_+2) []with
  |error n=>rw[e3]at q;exact M.fail q hbn
  |ok z=>
  rw[e3]at q;dsimp only at q;intro H5 k5 lv5 rd5 bx5;have M5:=M.boxes ap k5 lv5 rd5 bx5;obtain⟨zl,_,zg,zw⟩:=AU _ _ _ _ e3 (yU _);have hf:=R.hfew;have lh:(s.heads.map V.int).length =s.heads.length:=zD ..;have lz:((z.2.map V.str).length:Int)=(z.2.length:Int):=by rw[zD]
  refine⟨_,rfl,A.rd,CR,A.dr,_,_,rfl,M5.w.rd,T.cls,T.f_heads,rfl,.inl ⟨rfl,_,.of M5.hd⟩,_,rfl,bx,_,rfl,.inl (.of M5.box),A.hd,_,_,rfl,rfl,M5.hd,uN (by lia),?_⟩;rw[lz];have M6:=M5.heads ap (s.heads++[(z.2.length:Int)]);rw[yB]at M6;refine⟨_,rfl,_,rfl,A,W,z.1,bx,z.2,12,"is",rfl,M6.w,M6.box,ap.b4,by lia,by lia,?_⟩;cases e4:wV W 12 "is" (W.length+1) z.1 z.2 with
  |error n=>rw[e4]at q;exact M6.fail q hbn
  |ok r=>
  rw[e4]at q;dsimp only at q;intro H7 k7 lv7 rd7 bx7;have M7:=M6.boxes ap k7 lv7 rd7 bx7;obtain⟨rl,_,rg,rw'⟩:=AU _ _ _ _ e4 (by lia);have lr:((r.2.map V.str).length:Int)=(r.2.length:Int):=by rw[zD]
  refine⟨_,rfl,A.rd,CR,A.dr,_,_,rfl,M7.w.rd,T.cls,T.f_heads,rfl,.inl ⟨rfl,_,.of M7.hd⟩,_,rfl,bx,_,rfl,.inl (.of M7.box),A.hd,_,_,rfl,rfl,M7.hd,uN (by rw[zD,zB];show s.heads.length+1<=_;lia),?_⟩;rw[lr];have M8:=M7.heads ap (s.heads++[(z.2.length:Int)]++[(r.2.length:Int)]);rw[yB]at M8;refine⟨_,rfl,A.rd,CR,A.dr,_,_,rfl,M8.w.rd,T.cls,T.f_names,rfl,.inl ⟨rfl,_,.of M8.nm⟩,_,rfl,_,rfl,bx,_,rfl,.inl ⟨.of M8.box,λbt hbt=>⟨sm2,λt ht=>?_⟩⟩⟩;have sa:=zN hbt (.tup (r.2.map V.str));have sb:=zN ht (.tup [.str name,.ref bt]);have M9:=M8.same (sa.trans sb);have et9:=(show upd (upd (upd H7 A.hd (.lst ((s.heads++[(z.2.length:Int)]).map V.int++[V.int (r.2.length:Int)]))) bt (.tup (r.2.map V.str))) t (.tup [.str name,.ref bt]) t=some (.tup [.str name,.ref bt])from zH);have eb9:=sb _ _ (show upd (upd H7 A.hd (.lst ((s.heads++[(z.2.length:Int)]).map V.int++[V.int (r.2.length:Int)]))) bt (.tup (r.2.map V.str)) bt=some (.tup (r.2.map V.str))from zH);have M9':PH CR A H _ W num cnt bx r.2 r.1 nv (s.heads++[(z.2.length:Int)]++[(r.2.length:Int)]) s.bodies:=M9;refine⟨A.nm,_,_,rfl,rfl,M9.nm,uN (by lia),?_⟩;have M10:=M9.named ap (nv++[.ref t]);have tp10: ∀{b:Addr} {xs:List V},upd (upd (upd H7 A.hd (.lst ((s.heads++[(z.2.length:Int)]).map V.int++[V.int (r.2.length:Int)]))) bt (.tup (r.2.map V.str))) t (.tup [.str name,.ref bt]) b=some (.tup xs)->upd (upd (upd (upd H7 A.hd (.lst ((s.heads++[(z.2.length:Int)]).map V.int++[V.int (r.2.length:Int)]))) bt (.tup (r.2.map V.str))) t (.tup [.str name,.ref bt])) A.nm (.lst (nv++[.ref t])) b=some (.tup xs):=fun{b xs} e=>by
   rw[zV (λz=>by rw[z,M9.nm]at e;cases e)];exact e
  have et10:=tp10 et9;have eb10:=tp10 eb9;generalize upd (upd (upd (upd H7 A.hd (.lst ((s.heads++[(z.2.length:Int)]).map V.int++[V.int (r.2.length:Int)]))) bt (.tup (r.2.map V.str))) t (.tup [.str name,.ref bt])) A.nm (.lst (nv++[.ref t]))=H10 at *
  have fw:=R.few;refine⟨_,rfl,_,rfl,A,bx,W,r.2,num,cnt,r.1,s.bodies,rfl,by lia,M10.nd ap (by lia) (by lia),nok,?_⟩;cases e5:uC W num cnt r.2 10 r.1 s.bodies with
  |error n=>
   rw[e5]at q;exact(wH.mono q M10.keep).sub (λy hy=>by
    rcases List.mem_cons.mp hy with z|z
    ·exact z▸Kx
    ·exact(List.mem_singleton.mp z)▸WS)
  |ok y=>
  rw[e5]at q;dsimp only at q;intro H11 k11 lv11 N11;have tp11:uV H10 H11:=λb xs e=>k11 b _ (λz=>by
   rcases List.mem_cons.mp z with z|z
   ·rw[z,M10.w.rd]at e;cases e
   ·rw[List.mem_singleton.mp z,M10.bd]at e;cases e) e
  have ls11: ∀{b:Addr} {xs:List V},b≠A.bd->H10 b=some (.lst xs)->H11 b=some (.lst xs):=fun{b xs} n e=>k11 b _ (λz=>by
   rcases List.mem_cons.mp z with z|z
   ·exact M10.w.ne e z
   ·exact n (List.mem_singleton.mp z)) e
  refine q H11 (M10.keep.trans (λb o nb e=>k11 b o (λz=>by
    rcases List.mem_cons.mp z with z|z
    ·exact nb (z▸Kx)
    ·exact nb ((List.mem_singleton.mp z)▸WS)) e)) (λb e=>M10.live b (lv11 b e))
   ⟨N11.w,⟨_,ls11 ap.n2 M10.nm,wP (Paired.imp (λv p z=>Jj.tups (Jj.tups z M10.tup) tp11) pnv) ⟨t,bt,rfl,tp11 _ _ et10,tp11 _ _ eb10⟩⟩,?_,N11.bd,N11.nu,N11.cn,R.n1,R.n2,R.n3,R.n4,R.n5,R.n6,R.w1,R.w2,R.w3,N11.le,N11.few,?_,?_⟩
  ·have:=ls11 ap.n3 M10.hd;rw[yW]at this;exact this
  ·show(s.heads++_).length =2*(s.names++_).length;rw[zB,zB];show s.heads.length+2=2*(s.names.length+1);lia
  ·show(s.names++_).length<=16;rw[zB];show s.names.length+1<=16;lia
 ·rw[zT (.inl cx)]at q;rw[yA cx];exact kK ⟨_,rfl,A.rd,CR,A.dr,_,_,rfl,R.w.rd,T.cls,T.f_at,rfl,sm1,AL (wH.one q)⟩
theorem NE {x:Str}{f:Int}{n:Str}{g:Int}: ∀{acc:List (Str×Int)},jT (acc++[(n,g)]) x=some f->jT acc x=some f\/f=g
 |[],h=>by
  simp only[jV,jT]at h;split at h
  ·cases h;exact .inr rfl
  ·cases h
 |p::r,h=>by
  rw[jD]at h;unfold jT at h ⊢;split at h
  ·rename_i c;rw[zT c];exact .inl h
  ·rename_i c;rw[zI c];exact NE h
theorem IZ: ∀(l:List Str) (g:Int) (acc:List (Str×Int)) (n:Nat) (x:Str) (f:Int),jT (IC l g acc) x=some f->jT acc x=some f\/g<=f/\f<g+((BX l n).2.length:Int)
 |[],g,acc,n,x,f,h=>.inl h
 |w::r,g,acc,n,x,f,h=>by
  unfold IC at h;unfold BX;dsimp only;split at h
  ·rename_i c;rw[zT c,zK];have ih:=IZ r (g+1) _ (n+1) x f h
   rcases ih with ih|ih
   ·split at ih
    ·exact .inl ih
    ·split at ih
     ·exact .inl ih
     ·rcases NE ih with z|z
      ·exact .inl z
      ·exact .inr ⟨by lia,by lia⟩
   ·exact .inr ⟨by lia,by lia⟩
  ·rename_i c;rw[zI c];exact IZ r g acc (n+1) x f h
theorem Oh: ∀(l:List Str) (n:Nat),(n:Int)<=(BX l n).1/\(BX l n).1<=n+l.length/\ ∀c∈(BX l n).2,-2<=c/\c<=n+l.length
 |[],n=>⟨Int.le_refl _,by show(n:Int)<=n+((0:Nat):Int);lia,λc h=>by cases h⟩
 |w::r,n=>by
  obtain⟨i1,i2,i3⟩:=Oh r (n+1);have e1:(n:Int)<=(BX (w::r) n).1/\(BX (w::r) n).1<=n+(w::r).length:=by
   unfold BX;dsimp only;rw[zK];split<;>lia
  refine⟨e1.1,e1.2,λc hc=>?_⟩;have e2:=e1;unfold BX at hc e2;dsimp only at hc e2;rw[zK]at e2 ⊢;split at hc
  ·rcases List.mem_cons.mp hc with z|z
   ·lia
   ·have:=i3 c z;lia
  ·have:=i3 c hc;lia
theorem zAf {W:List Str}(h:W.length<=1000000):Sq (AA W) (AH W):=by
 refine⟨λx f e=>?_,λc hc=>?_⟩
 ·rcases IZ W 0 [] 0 x f e with z|⟨z1,z2⟩
  ·cases z
  ·unfold AH;lia
 ·have:=(Oh W 0).2.2 c hc;lia
theorem NX {W:List Str}{num:List (Str×Int)}{cnt:List Int}{s s':RS}(h:Lk W num cnt s=.ok s'):s.at_<s'.at_:=by
 unfold Lk at h;split at h
 ·cases h
 split at h
 ·cases h
 split at h
 ·cases h
 split at h
 ·cases h
 rename_i q e2;split at h
 ·cases h
 rename_i r e3;split at h
 ·cases h
 rename_i z e4;cases h;obtain⟨_,_,g1,g2⟩:=AU _ _ _ _ e2 (yU _);obtain⟨_,_,g3,g4⟩:=AU _ _ _ _ e3 (yT (AU _ _ _ _ e2 (yU _)).1 (by split<;>lia));have:=Kp 10 r.1 s.bodies z g4 e4;show s.at_<z.1;lia
structure WW (t:Str):Prop where
 len:t.length<=1000000
 rep:(Txt.replace t "\n" " ").length<=1000000
 spl:(Txt.split (Txt.replace t "\n" " ") " ").length<=2000000
 ok:YE (wordsT t)
def zBf (H':Hp)(p sp:Addr)(s:RS):Prop:= ∃np vs,H' p=some (.tup [.ref np,.ref sp])/\H' np=some (.tup vs)/\Paired (Jj H') vs s.names/\H' sp=some (.lst ((OP s).map V.int))
inductive Oy (CT:Addr) (vs:List V) (H:Hp) (Q:VK) (E:XK):Prop
 |mk (t:Str) (h0:vs=[.str t]) (h1:WW t) (h2:KB (λs=> ∀p sp H',kS H H'->zBf H' p sp s->H sp=none->Q (.ref p) H') (λn=>DU CT H E (n:Int)) (Jz (wordsT t))):Oy CT vs H Q E
theorem VM (T:Txt K mg aP aW aH CT CR)(F:uB K "read_text" "read_text" Hy f fd)(Cb:Go P w K mg base 1 "NoText" CT ["self","at"] (Ah CT))(Cc5:uT P w K mg base 1 "words_of" ["text"] JY)
  (Cc8:Xh P w K mg base (Hl P w) 2 "Reading" CR ["self","words"] (OI CR)) (Cr:uT P w K mg base 18 "read_function" ["reading"] (Rp CR CT)):BT P w K mg base 19 f fd ["text"] (Oy CT):=by
 refine F.okX Jv (λvs H Q E h=>?_) (λcdv Ar outer s0 H vs Q E hr h=>?_)
 ·obtain⟨t,rfl,_⟩:=h;rfl
 obtain⟨t,rfl,ok,q⟩:=h;refine⟨_,(zF (xP (AO (uY (xB HW rfl T.n_isinstance vG (zA (pv 0) (zA (Il (v:=.ty "str") rfl T.n_str MB rfl) zG))))) (zL (wF Cb hr rfl (zA zR zG))) yM)
   (zF (yS (i:=1) Jv.nd rfl (Or.inl rfl) (Ql Cc8 hr rfl (zA (yD Cc5 hr rfl (zA (pv 0) zG) kW) zG) kW))
   (zF (jJ (yD Cr hr rfl (zA (pv 1) zG) kW))
   (zF (EC (Ip rfl rfl) (yI EF (kD (pv 1) rfl) (xB yX rfl T.n_len kA (zA (kD (pv 1) rfl) zG)) (yP _)) (zL (jJ (yD Cr hr rfl (zA (pv 1) zG) kW))))
   (zL (yO (jZ (zA (jU Bt rfl T.n_tuple HX (zA (kD (pv 1) rfl) zG)) (zA (yV wJ (yV wJ (xV (zA (xB yX rfl T.n_len kA (zA (kD (pv 1) rfl) zG)) zG)) (kD (pv 1) rfl)) (kD (pv 1) rfl)) zG))))))))),?_⟩
 try dsimp only[Cx.nox,Cx.exc,Cx.wish,xX]
 refine⟨_,rfl,.inl ⟨_,_,_,true,rfl,.str t,T.kstr,_,rfl,qG ?_⟩⟩;refine⟨_,rfl,t,rfl,ok.len,ok.rep,ok.spl,λwd H1 hwd s1 e1=>?_⟩;have hW:=ok.ok;generalize wordsT t=W at *
 intro rd dr h1 h2 h3;have nd:wd≠dr:=zM e1 h2;have nr:wd≠rd:=zM e1 h1;refine⟨rd,dr,wd,W,rfl,zH,by rw[zV nr,zV nd];exact e1,hW.few,λA H2 er ed ew M=>⟨rfl,?_⟩⟩;subst er ed ew;have sH:kS H H2:=λb o e=>by
  have e':=s1 _ _ e;have n:b≠A.rd:=zM e' h1;exact M.keep _ _ n (by rw[zV n,zV (zM e' h2)];exact e')
 have wd2:H2 A.wd=some (.lst (W.map V.str)):=M.keep _ _ nr (by rw[zV nr,zV nd];exact e1);have free: ∀{b:Addr},upd (upd H1 A.dr (.own A.rd)) A.rd (.ins CR A.dr []) b=none->b≠A.wd/\H b=none:=fun{b} e=>by
  have n1:b≠A.rd:=λz=>by rw[z,zH]at e;cases e
  rw[zV n1]at e;have n2:b≠A.dr:=λz=>by rw[z,zH]at e;cases e
  rw[zV n2]at e;exact⟨(λz=>by rw[z,e1]at e;cases e),s1.free e⟩
 have nok:=zAf hW.few;have R0:FnR CR A H2 W (AA W) (AH W) ⟨0,[],[],[]⟩:=⟨⟨M.rd,wd2,hW⟩,⟨[],M.nm,.nil⟩,M.hd,M.bd,M.nu,M.cn,M.n1,M.n2,M.n3,M.n4,M.n5,M.n6,Ne.symm (free M.f1).1,Ne.symm (free M.f2).1,Ne.symm (free M.f3).1,yU _,zW _,rfl,yU _⟩;have nc: ∀x∈UE A,H x=none:=λx hx=>by
  rcases List.mem_cons.mp hx with z|hx
  ·rw[z];exact s1.free h1
  rcases List.mem_cons.mp hx with z|hx
  ·rw[z];exact(free M.f3).2
  rcases List.mem_cons.mp hx with z|hx
  ·rw[z];exact(free M.f1).2
  ·rw[List.mem_singleton.mp hx];exact(free M.f2).2
 have sK: ∀{G:Hp},xY (UE A) H2 G->kS H G:=λk b o e=>k b o (λz=>by rw[nc b z]at e;cases e) (sH _ _ e);have fl: ∀{n:Nat},DU CT H E (n:Int)->wH CT (UE A) H2 E n:=λf d H' g e=>f d H' (sK g) e;unfold Jz at q;refine⟨_,rfl,A,W,AA W,AH W,_,rfl,R0,nok,?_⟩;cases e2:Lk W (AA W) (AH W) ⟨0,[],[],[]⟩with
 |error n=>rw[e2]at q;exact fl q
 |ok s=>
 rw[e2]at q;dsimp only at q;intro H3 k3 lv3 R3;generalize er:Gh W (AA W) (AH W) W.length s=res at q;refine⟨λm σ' H'=> ∃s',σ'=[some (.str t),some (.ref A.rd)]/\xY (UE A) H2 H'/\FnR CR A H' W (AA W) (AH W) s'/\Gh W (AA W) (AH W) m s'=res/\W.length<=s'.at_+m,⟨W.length,s,rfl,k3,R3,er,Nat.le_add_left _ _⟩,?_⟩;rintro m σ' H' ⟨s',rfl,k',R',em,hm⟩;have lW:((W.map V.str).length:Int)=(W.length:Int):=by rw[zD]
 refine⟨_,rfl,A.rd,CR,A.dr,_,_,rfl,R'.w.rd,T.cls,T.f_at,rfl,_,rfl,A.rd,CR,A.dr,_,_,rfl,R'.w.rd,T.cls,T.f_words,rfl,A.wd,_,rfl,.inl (.of R'.w.wd),_,_,rfl,rfl,_,rfl,kL (λc=>?_) (λc=>?_)⟩
 ·have c':=zZ c;obtain⟨m,rfl⟩: ∃m',m=m'+1:=⟨m-1,by lia⟩;unfold Gh at em;rw[zT (by lia)]at em;refine⟨_,λσ2 H2 z=>z,?_⟩;refine⟨_,rfl,A,W,AA W,AH W,s',rfl,R',nok,?_⟩;cases e3:Lk W (AA W) (AH W) s' with
  |error n=>
   rw[e3]at em;rw[<-em]at q;exact wH.mono (fl q) k'
  |ok s2=>
   rw[e3]at em;dsimp only at em;have:=NX e3;exact λH4 k4 lv4 R4=>⟨m,qF m,s2,rfl,k'.trans k4,R4,em,by lia⟩
 ·have c':=df c;have ee:res=.ok s':=by
   rw[<-em];cases m with
   |zero=>rfl
   |succ m=>unfold Gh;rw[zI (by lia)]
  rw[ee]at q;obtain⟨nv,env,pnv⟩:=R'.nm;have hnl:=Paired.len pnv;have nf:=R'.nfew;have hf:=R'.hfew;have bf:=R'.few;have le:=R'.le;have wf:=hW.few;refine⟨_,rfl,A.rd,CR,A.dr,_,_,rfl,R'.w.rd,T.cls,T.f_names,rfl,A.nm,nv,rfl,.inl ⟨.of env,λnp hnp=>?_⟩⟩;have g1:=zN hnp (.tup nv);refine⟨_,rfl,A.rd,CR,A.dr,_,_,rfl,g1 _ _ R'.w.rd,T.cls,T.f_names,rfl,A.nm,_,rfl,.inl (.of (g1 _ _ env)),sm1,λl0 h0=>?_⟩;have g2:=g1.trans (zN h0 (.lst [.int (nv.length:Int)]));refine⟨_,rfl,A.rd,CR,A.dr,_,_,rfl,g2 _ _ R'.w.rd,T.cls,T.f_heads,rfl,l0,A.hd,_,_,rfl,rfl,zH,g2 _ _ R'.hd,kP (by rw[zD];show 1+_<=_;lia),λl1 h1=>?_⟩;have g3:=g2.trans (zN h1 (.lst ([.int (nv.length:Int)]++s'.heads.map V.int)));refine⟨_,rfl,A.rd,CR,A.dr,_,_,rfl,g3 _ _ R'.w.rd,T.cls,T.f_bodies,rfl,l1,A.bd,_,_,rfl,rfl,zH,g3 _ _ R'.bd,kP (by rw[zB,zD,zD];show 1+_+_<=_;lia),λl2 h2=>⟨sm2,λp hp=>?_⟩⟩;have s34:=zN h2 (.lst ([.int (nv.length:Int)]++s'.heads.map V.int++s'.bodies.map V.int));have g4:=g3.trans s34;have s45:=zN hp (.tup [.ref np,.ref l2]);have g5:=g4.trans s45;have lv2:H l2=none:=(sK k').free (g3.free h2);have enp:upd H' np (.tup nv) np=some (.tup nv):=zH;refine q p l2 _ ((sK k').trans g5) ⟨np,nv,zH,?_,Paired.imp (λv x z=>Jj.tups z λb xs e=>g5 _ _ e) pnv,?_⟩ lv2
  ·exact s45 _ _ (s34 _ _ ((zN h1 _) _ _ ((zN h0 _) _ _ enp)))
  ·rw[s45 _ _ zH];unfold OP;rw[yQ,yB,<-hnl];rfl
structure Ky (K:PySem.W.Frag)(mg:Str->Option Value):Prop where
 n_len:mg "len"=none
 n_range:mg "range"=none
 n_int:mg "int"=none
 n_str:mg "str"=none
 n_all:mg "all"=none
 n_list:mg "list"=none
 n_bool:mg "bool"=none
 n_tuple:mg "tuple"=none
 n_isinstance:mg "isinstance"=none
 klist:PySem.W.kitOne K (.type "list") (.type "list")=some true
 ktup:PySem.W.kitOne K (.type "tuple") (.type "tuple")=some true
 kint:PySem.W.kitOne K (.type "int") (.type "int")=some true
 kbool:PySem.W.kitOne K (.type "int") (.type "bool")=some false
inductive Rl (K:PySem.W.Frag) (vs:List V) (H:Hp) (Q:VK) (E:XK):Prop
 |mk (a:Addr) (ns:List Int) (k:Int) (h0:vs=[.ref a,.int k]) (h1:0<=k) (h2:k<1000) (h3:Zk K H a ns) (h4:ns.length<=63) (h5: ∀st H',H st=none->kS H H'->BK H' st 0->Q (.ref st) H'):Rl K vs H Q E
theorem XA:(0:Int)<2147483629:=by decide
theorem Xz:(0:Int)<2147483587:=by decide
theorem zDc (x:Int): -(2^64)<x % 2147483629/\x % 2147483629<2^64:=by
 have a1:=BC x (show(2147483629:Int)≠0 by decide);have a2:=Aw x XA;lia
theorem zDb (x:Int){t:Int}(h0:0<=t)(h1:t<=1000001): -(2^64)<x % 2147483587+7919*t/\x % 2147483587+7919*t<2^64:=by
 have a1:=BC x (show(2147483587:Int)≠0 by decide);have a2:=Aw x Xz;lia
theorem XN (T:Ky K mg)(F:uB K "_law_pen" "_law_pen" IU f fd):BT P w K mg base 1 f fd ["_law_script","_law_k"] (Rl K):=by
 refine F.oN Fh λcdv A outer s H vs Q E hr h=>?_;obtain⟨a,ns,k,rfl,k0,k1,hs,hl,q⟩:=h;refine⟨_,(zF (yS (i:=2) Fh.nd rfl (Or.inl rfl) (yV jN (yV FJ zR (pv 1)) zR))
   (zF (FI (xP (yI EF (pv 1) (xB yX rfl T.n_len kA (zA (pv 0) zG)) (yP _)) (zL (yS (i:=2) Fh.nd rfl (Or.inl rfl) (jI jA (pv 0) (pv 1) (λ_ _=>rfl)))) (zL (xP (yI Hh (xB yX rfl T.n_len kA (zA (pv 0) zG)) zR (yP _)) (zL (yS (i:=2) Fh.nd rfl (Or.inl rfl) (yV jN (yV FK (jI jA (pv 0) (yV FK (pv 1) (xB yX rfl T.n_len kA (zA (pv 0) zG))) (λ_ _=>rfl)) zR) (yV FJ zR (pv 1))))) yM))))
   (zF (xP (yI SU (pv 2) (yV Pa zR zR) (yP _)) (zL (yO (xV (zA (yV wU (pv 2) (yV Pa zR zR)) (zA (yV FK (pv 2) zR) (zA zR zG)))))) yM)
   (zL (yO (xV (zA zR (zA (yV FK (pv 2) zR) (zA zR zG))))))))),?_⟩
 try dsimp only[Cx.nox,Cx.exc,Cx.wish,xX]
 refine⟨_,rfl,_,_,rfl,rfl,.inl ⟨by decide,by decide⟩,_,_,rfl,rfl,?_⟩;have hlen:((ns.map V.int).length:Int)=ns.length:=by rw[zD]
 refine⟨λσ' H'=>H'=H/\ ∃x:Int,σ'=[some (.ref a),some (.int k),some (.int x)],?_,?_⟩
 ·refine⟨_,rfl,_,rfl,a,_,rfl,.inl hs.sq,_,_,rfl,rfl,_,rfl,kL (λc=>?_) (λc=>?_)⟩
  ·have c':=zZ c;obtain⟨v,hv⟩:=Ts (ns:=ns) (k:=k) k0 (by lia);exact⟨_,rfl,_,rfl,a,_,_,_,rfl,rfl,hs.sq,hv,rfl,_,rfl⟩
  ·refine⟨_,rfl,a,_,rfl,.inl hs.sq,_,_,rfl,rfl,_,rfl,kL (λc2=>?_) (λc2=>⟨rfl,_,rfl⟩)⟩;have c2':=zZ c2;obtain⟨v,hv⟩:=Ts (ns:=ns) (k:=k % ((ns.map V.int).length:Int)) (BC _ (by lia)) (by rw[<-hlen];exact Aw _ (by lia));exact⟨_,rfl,_,rfl,_,rfl,a,_,rfl,.inl hs.sq,_,_,rfl,rfl,by lia,a,_,_,_,rfl,rfl,hs.sq,hv,_,_,rfl,rfl,XA,_,rfl,_,_,rfl,rfl,.inl ⟨by decide,by decide⟩,_,_,rfl,rfl,rfl,_,rfl⟩
 rintro _ _ ⟨rfl,x,rfl⟩;rename_i H;refine⟨_,rfl,_,_,rfl,rfl,⟨by decide,by decide,by decide⟩,_,_,rfl,rfl,_,rfl,kL (λc=>?_) (λc=>?_)⟩
 ·have c':=zZ c;refine⟨_,rfl,_,_,rfl,rfl,⟨by decide,by decide,by decide⟩,_,_,rfl,rfl,_,rfl,_,_,rfl,rfl,Xz,sm3,λst hst=>?_⟩;exact q _ _ hst (zN hst _) ⟨_,_,_,zH,by lia,by decide,by decide⟩
 ·refine⟨_,rfl,_,_,rfl,rfl,Xz,sm3,λst hst=>?_⟩;exact q _ _ hst (zN hst _) ⟨_,_,_,zH,by decide,by decide,by decide⟩
theorem Wa (F:uB K "_law_draw" "_law_draw" HD f fd):BT P w K mg base 1 f fd ["_law_pen_here","_law_many"] Dw:=by
 refine F.oN CA λcdv A outer s H vs Q E hr h=>?_;obtain⟨st,many,m,rfl,hm0,hm1,mb,⟨c,sd,t,e,c0,t0,tm⟩,q⟩:=h;refine⟨_,(zF (BJ (yV jN (jI jA (pv 0) zR (λ_ _=>rfl)) zR) (Kl (pv 0) zR FT))
   (zF (xP (yI Hh (jI jA (pv 0) zR (λ_ _=>rfl)) zR (yP _)) (zF (yS (i:=2) CA.nd rfl (Or.inl rfl) (yV FK (jI jA (pv 0) zR (λ_ _=>rfl)) (pv 1)))
   (zF (BJ (yV Qo (jI jA (pv 0) zR (λ_ _=>rfl)) (pv 1)) (Kl (pv 0) zR FT))
   (zL (yO (pv 2))))) yM)
   (zF (yS (i:=3) CA.nd rfl (Or.inl rfl) (yV FK (yV jN (yV jN (jI jA (pv 0) zR (λ_ _=>rfl)) (yV FJ zR (jI jA (pv 0) zR (λ_ _=>rfl)))) zR) zR))
   (zF (yS (i:=3) CA.nd rfl (Or.inl rfl) (yV jN (yV FK (yV FJ (pv 3) (pv 3)) zR) (yV FJ zR (jI jA (pv 0) zR (λ_ _=>rfl)))))
   (zF (yS (i:=3) CA.nd rfl (Or.inl rfl) (yV FK (yV FJ (pv 3) (pv 3)) zR))
   (zL (yO (yV FK (yV Qo (pv 3) zR) (pv 1))))))))),?_⟩
 try dsimp only[Cx.nox,Cx.exc,Cx.wish,xX]
 refine⟨_,rfl,st,_,_,_,rfl,rfl,.of e,rfl,_,_,rfl,rfl,_,rfl,st,_,_,_,rfl,rfl,e,rfl,?_⟩;have e1:upd H st (.lst [.int c,.int sd,.int (t+1)]) st=some (.lst [.int c,.int sd,.int (t+1)]):=zH;have k1:kX st H (upd H st (.lst [.int c,.int sd,.int (t+1)])):=kX.upd;refine⟨_,rfl,st,_,_,_,rfl,rfl,.of e1,rfl,_,_,rfl,rfl,_,rfl,kL (λc2=>?_) (λc2=>?_)⟩
 ·refine⟨_,rfl,st,_,_,_,rfl,rfl,.of e1,rfl,_,rfl,_,_,rfl,rfl,hm0,?_⟩;refine⟨_,rfl,st,_,_,_,rfl,rfl,.of e1,rfl,_,rfl,_,_,rfl,rfl,zDj hm0 (Int.lt_trans hm1 (by decide)),_,rfl,st,_,_,_,rfl,rfl,e1,rfl,?_⟩;exact⟨_,rfl,q _ _ (BC _ (by lia)) (Aw _ hm0) ⟨⟨_,_,_,zH,Int.ediv_nonneg c0 (by lia),by lia,by lia⟩,k1.trans kX.upd⟩⟩
 ·refine⟨_,rfl,st,_,_,_,rfl,rfl,.of e1,rfl,_,rfl,st,_,_,_,rfl,rfl,.of e1,rfl,_,_,rfl,rfl,.inl ⟨by decide,by decide⟩,_,_,rfl,rfl,_,_,rfl,rfl,_,_,rfl,rfl,XA,?_⟩;refine⟨_,rfl,_,rfl,_,_,rfl,rfl,.inl (zDc _),_,_,rfl,rfl,Xz,_,rfl,st,_,_,_,rfl,rfl,.of e1,rfl,_,_,rfl,rfl,.inl ⟨by decide,by decide⟩,_,_,rfl,rfl,?_⟩;refine⟨_,rfl,_,rfl,_,_,rfl,rfl,.inl (zDb _ (t:=t+1) (by lia) (by lia)),_,_,rfl,rfl,XA,?_⟩;refine⟨_,rfl,_,_,rfl,rfl,zDj (by decide) (by decide),_,rfl,_,_,rfl,rfl,hm0,?_⟩;exact q _ _ (BC _ (by lia)) (Aw _ hm0) ⟨⟨_,_,_,e1,c0,by lia,by lia⟩,k1⟩
def Dz:Sp:=λvs H Q _=>vs=[]/\ ∀p H',H p=none->kS H H'->H' p=some (.lst (kwA.map V.str))->Q (.ref p) H'
theorem TW (F:uB K "_law_words" "_law_words" GK f fd):BT P w K mg base 1 f fd [] Dz:=by
 refine F.oN IH λcdv A outer s H vs Q E hr h=>?_;obtain⟨rfl,q⟩:=h;refine⟨_,(zF (yS (i:=0) IH.nd rfl (Or.inl rfl) jX)
   (zL (yO (qI jM Dd Dc Mc (pv 0) (zA jX zG))))),?_⟩
 try dsimp only[Cx.nox,Cx.exc,Cx.wish,xX]
 refine⟨_,rfl,rfl,_," ",rfl,rfl,rfl,kP (by decide),?_,?_⟩
 ·rw[KD];exact small (by decide)
 ·rw[KD];exact λp hp=>q p _ hp (zN hp _) zH
inductive OG (vs:List V) (H:Hp) (Q:VK) (E:XK):Prop
 |mk (st tk:Addr) (ts:List Str) (m:Int) (h0:vs=[.ref st,.ref tk]) (h1:BK H st m) (h2:m<=200000) (h3:H tk=some (.lst (ts.map V.str))) (h4:tk≠st) (h5:ts.length<=24) (h6: ∀nm H',jL nm=true->nm∉ts->kB st (m+10) H H'->Q (.str nm) H'):OG vs H Q E
theorem VR (T:Ky K mg)(F:uB K "_law_name" "_law_name" Fm f fd)(Ca:uT P w K mg base 1 "_law_draw" ["_law_pen_here","_law_many"] Dw)(Cc:uT P w K mg base 1 "_law_words" [] Dz):
  BT P w K mg base 2 f fd ["_law_pen_here","_law_taken"] OG:=by
 refine F.oN En λcdv A outer s H vs Q E hr h=>?_;obtain⟨st,tk,ts,m,rfl,D,m0,htk,ntk,hts,q⟩:=h;refine⟨_,(zF (yS (i:=2) En.nd rfl (Or.inr rfl) jX)
   (zF (yS (i:=3) En.nd rfl (Or.inl rfl) (jI jA (xV (zA zR (zA zR (zA zR (zA zR (zA zR (zA (yV jN zR (yD Ca hr rfl (zA (pv 0) (zA zR zG)) jK)) zG))))))) (yD Ca hr rfl (zA (pv 0) (zA zR zG)) jK) (λ_ _=>rfl)))
   (zF (RD (i:=4) En.nd rfl rfl (own:=["_law_k"]) (ys:=["_law_letters","_law_pen_here"]) rfl (uZ rfl T.n_range (zA (pv 3) zG)) (Ex (sc:=yH Fm) rfl (by decide+kernel)) (.cons (j:=2) rfl (.cons (j:=0) rfl .nil)) (λ_ _ _ _ _=>(xJ (i:=0) (show List.Nodup [("_law_k":Str),("_law_letters":Str),("_law_pen_here":Str)]from(by decide+kernel)) rfl (Or.inl rfl))) (λ_ _ _ _ _=>OU) (λ_ _ _ _ _=>(jI Sd (pv 1) (yD Ca hr rfl (zA (pv 2) (zA zR zG)) jK) (λ_ _=>rfl))))
   (zF (EC xS (yI wS (qI jM vW vV JF jX (zA (pv 4) zG)) (yV wJ (pv 1) (Ew Cc hr rfl jK)) rfl) (zL (BJ (jI Sd (pv 2) (yV FK (yV jN (qI jM PySem.F.slot_str_index PySem.F.type_str_index Ui (pv 2) (zA (jI jA (pv 4) (SR Ov zR) (λ_ _=>rfl)) zG)) zR) zR) (λ_ _=>rfl)) (Kl (pv 4) (SR Ov zR) FT))))
   (zL (yO (qI jM vW vV JF jX (zA (pv 4) zG)))))))),?_⟩
 try dsimp only[Cx.nox,Cx.exc,Cx.wish,xX]
 refine⟨_,rfl,st,8,m,rfl,by decide,by decide,by lia,D,λr8 H1 r0 r1 D1=>⟨_,_,rfl,rfl,sm6,λo ho=>?_⟩⟩;have D2:=D1.trans (D1.pen.new ho (.lst [.int 1,.int 1,.int 2,.int 3,.int 8,.int (1+r8)]));refine⟨_,rfl,st,6,m+1,rfl,by decide,by decide,by lia,D2.pen,λr6 H3 p0 p1 D3=>?_⟩;have eo:H3 o=some (.lst [.int 1,.int 1,.int 2,.int 3,.int 8,.int (1+r8)]):=D3.keep _ _ (Ne.symm (D1.pen.ne ho)) zH;obtain⟨sz,esz,z1,z8⟩: ∃sz:Int,FO [V.int 1,.int 1,.int 2,.int 3,.int 8,.int (1+r8)] r6=some (.int sz)/\1<=sz/\sz<=8:=by
  have:r6=0\/r6=1\/r6=2\/r6=3\/r6=4\/r6=5:=by lia
  rcases this with rfl|rfl|rfl|rfl|rfl|rfl
  ·exact⟨1,rfl,by decide,by decide⟩
  ·exact⟨1,rfl,by decide,by decide⟩
  ·exact⟨2,rfl,by decide,by decide⟩
  ·exact⟨3,rfl,by decide,by decide⟩
  ·exact⟨8,rfl,by decide,by decide⟩
  ·exact⟨1+r8,rfl,by lia,by lia⟩
 refine⟨o,_,_,_,rfl,rfl,.of eo,esz,?_⟩;have D13:=D2.trans D3;refine⟨_,rfl,_,rfl,by lia,by lia,λp hp=>?_⟩;have npt:p≠st:=Ne.symm (D3.pen.ne hp);refine WR (lo:=0) (n:=sz.toNat) (fs:=[some (.str lettersS),some (.ref st)]) (λj ys H'=>kB st (m+2+j) H3 H'/\ ∃cs:List Nat,H' p=some (.lst ((cs.map JC).map V.str))/\cs.length=j/\ ∀c∈cs,97<=c/\c<=122) ⟨(D3.pen.new hp _).mono (by lia),[],zH,rfl,λc hc=>(nomatch hc)⟩ ?_ ?_
 ·rintro j ys H' hj ⟨D',cs,ep,hl,hc⟩;refine⟨_,rfl,_,rfl,st,26,m+2+j,rfl,by decide,by decide,by lia,D'.pen,λr H4 q0 q1 D4=>?_⟩;have hr:r.toNat<26:=by lia
  have al:FO lettersS.cps.toList r=some (97+r.toNat):=Du q0 (by rw[Fq,zS,List.getElem?_range hr];rfl);refine⟨lettersS,r,_,rfl,rfl,kP (by decide),al,_,D4.keep _ _ npt ep,uN (by rw[zD,zD];lia),Oq.next (ys:=ys) hj ⟨?_,cs++[97+r.toNat],?_,?_,?_⟩⟩
  ·refine⟨(D4.pen.put npt).mono (by lia),λb v nb e=>?_⟩;have nbp:b≠p:=zM e hp;rw[zV nbp];exact D4.keep _ _ nb (D'.keep _ _ nb e)
  ·rw[zH,yB,yB];rfl
  ·rw[zB];show cs.length+1=j+1;lia
  ·intro c hm
   rcases List.mem_append.mp hm with z|z
   ·exact hc c z
   ·rw[List.mem_singleton.mp z];lia
 rintro ys H4 ⟨D4,cs,ep,hl,hc⟩;have D14:=D13.trans D4;obtain⟨pre,last,rfl⟩: ∃pre last,cs=pre++[last]:=by
  have:cs≠[]:=λz=>by rw[z]at hl;have:([]:List Nat).length =0:=rfl;lia
  exact⟨cs.dropLast,cs.getLast this,(List.dropLast_concat_getLast this).symm⟩
 have hlast:=hc last (yZ _ (List.mem_singleton.mpr rfl));obtain⟨j0,rfl⟩: ∃j0,last=97+j0:=⟨last-97,by lia⟩;obtain⟨ks,hks,hfree⟩:=Uv pre j0 ts hts;have hp1:pre.length+1=sz.toNat:=by rw[<-hl,zB];rfl
 have tk4:H4 tk=some (.lst (ts.map V.str)):=D14.keep _ _ ntk htk;have hpc: ∀c∈pre,97<=c/\c<=122:=λc h=>hc c (qA _ h);have hpH:H p=none:=D13.free hp;refine⟨λmm σ' H'=> ∃k,k<=ks/\mm=ks-k/\σ'=[some (.ref st),some (.ref tk),some (.str lettersS),some (.int sz),some (.ref p)]/\kB st (m+10) H H'/\H' p=some (.lst (((pre++[97+(j0+k) % 26]).map JC).map V.str)),⟨ks,0,yU _,rfl,rfl,D14.mono (by lia),?_⟩,?_⟩
 ·rw[ep,Nat.add_zero,Nat.mod_eq_of_lt (by lia)]
 rintro mm σ' H' ⟨k,hk,rfl,rfl,D',ep'⟩;have hlen:(((pre++[97+(j0+k) % 26]).map JC).map (·.length)).sum<=100:=by
  have: ∀l:List Nat,((l.map JC).map (·.length)).sum =l.length:=λl=>by
   induction l with
   |nil=>rfl
   |cons c l ih=>rw[yQ,yQ,List.sum_cons,ih,zK];show 1+_=_;lia
  rw[this,zB];show pre.length+1<=100;lia
 have tk':H' tk=some (.lst (ts.map V.str)):=D'.keep _ _ ntk htk;have ls:((pre++[97+(j0+k) % 26]).map JC).length<=100:=by rw[zD,zB];show pre.length+1<=100;lia
 refine⟨rfl,_,rfl,"",p,_,rfl,rfl,.of ep',(show _+_*0<=16777216 by lia),?_⟩;rw[PX];refine⟨_,rfl,rfl,λwl H5 hw s5 e5=>⟨tk,wl,_,_,rfl,rfl,s5 _ _ tk',e5,?_,λc hc2=>⟨c,_,rfl,.inl (.of zH),rfl,?_,_,rfl,?_⟩⟩⟩
 ·rw[zD,zD];exact small (show ts.length+21<=1000 by lia)
 ·rw[<-yB];exact qE _
 rw[<-yB,vM];have s6:=s5.trans (zN hc2 (.lst ((ts++kwA).map V.str)));have D6:=D'.trans (D'.pen.more s6);have ep6:=s6 _ _ ep';refine kL (λc2=>?_) (λc2=>?_)
 ·have mem:=zZ c2;have hk2:k<ks:=Nat.lt_of_le_of_ne hk (λz=>hfree (z▸mem));refine⟨_,λσ2 H2 z=>z,?_⟩;have hj:(j0+k) % 26<26:=ET _ (by decide);have hj2:(((j0+k) % 26:Nat)+1:Int) % 26=(((j0+(k+1)) % 26:Nat):Int):=by lia
  have hj3:(j0+(k+1)) % 26<26:=ET _ (by decide);have al:FO lettersS.cps.toList ((((j0+k) % 26:Nat)+1:Int) % 26)=some (97+(j0+(k+1)) % 26):=by
   rw[hj2];exact vB (by rw[Fq,zS,List.getElem?_range hj3];rfl)
  have el:FO (((pre++[97+(j0+k) % 26]).map JC).map V.str) (-1)=some (.str (JC (97+(j0+k) % 26))):=by
   rw[yB,yB];exact WT _ _
  refine⟨_,rfl,_,rfl,rfl,_,rfl,_,rfl,p,_,_,_,rfl,rfl,.of ep6,el,lettersS,_,_,_,rfl,rfl,Sf ⟨(j0+k) % 26,hj⟩,_,_,rfl,rfl,_,_,rfl,rfl,(show(0:Int)<26 by decide),lettersS,_,_,rfl,rfl,kP (by decide),al,?_⟩;have ei:Uq (((pre++[97+(j0+k) % 26]).map JC).map V.str).length (-1)=some pre.length:=by
   rw[zD,zD,zB];unfold Uq;rw[zI (by decide),zT (by show-((pre.length+1:Nat):Int)<= -1;lia)];congr 1;show(-1+((pre.length+1:Nat):Int)).toNat =pre.length;lia
  refine⟨_,rfl,_,rfl,p,_,_,_,rfl,rfl,ep6,ei,ks-(k+1),by lia,k+1,by lia,rfl,rfl,?_,?_⟩
  ·refine⟨D6.pen.put npt,λb v nb e=>?_⟩;rw[zV (zM e hpH)];exact D6.keep _ _ nb e
  ·rw[zH,yB,yB,yB,yB,List.set_append_right _ _ (by rw[zD,zD];exact zW _)];rw[zD,zD,Av];rfl
 ·have nmem:=xT (Bool.eq_false_iff.mpr c2);refine⟨rfl,_,rfl,"",p,(pre++[97+(j0+k) % 26]).map JC,rfl,rfl,.of ep6,(show _+_*0<=16777216 by lia),?_⟩;rw[PX];refine q _ _ (Ud (λc h=>?_) ?_ ?_ (λz=>nmem (yZ _ z))) (λz=>nmem (qA _ z)) ?_
  ·rcases List.mem_append.mp h with z|z
   ·exact hpc c z
   ·rw[List.mem_singleton.mp z];have:=ET (j0+k) (show 0<26 by decide);lia
  ·rw[zB];exact Nat.le_add_left 1 _
  ·rw[zB];show pre.length+1<=8;lia
  ·exact D6
def Tv (n:Int):Prop:=n.natAbs<10^60
theorem Ft {n:Int}(h0: -5000<=n)(h1:n<=5000):Tv n:=kZ (show n.natAbs<5001 by lia) (by decide+kernel)
theorem Uy {d e:Int}(d0:0<=d)(d1:d<10^6)(e0:0<=e)(e1:e<2):Tv ((10^60-1-d)*(1-2*e)):=by
 unfold Tv;have b1:(10:Int)^6<10^60:=by decide+kernel
 have b2:((10:Int)^60)=((10^60:Nat):Int):=by norm_cast
 have:e=0\/e=1:=by lia
 rcases this with rfl|rfl
 ·rw[show(1-2*0:Int)=1 from rfl,Int.mul_one];generalize(10:Int)^60=G at *
  generalize(10:Nat)^60=B at *
  lia
 ·rw[show(1-2*1:Int)= -1 from rfl,Int.mul_neg,Int.mul_one];generalize(10:Int)^60=G at *
  generalize(10:Nat)^60=B at *
  lia
theorem zAa {e:Int}(e0:0<=e)(e1:e<2): -(2^64)<1-2*e/\1-2*e<2^64:=by lia
inductive Ih (vs:List V) (H:Hp) (Q:VK) (E:XK):Prop
 |mk (st:Addr) (far:Bool) (m:Int) (h0:vs=[.ref st,.bl far]) (h1:m<=500000) (h2:BK H st m) (h3: ∀(n:Int) (H':Hp),Tv n->kB st (m+3) H H'->Q (.int n) H'):Ih vs H Q E
theorem RL (F:uB K "_law_number" "_law_number" FH f fd)(Ca:uT P w K mg base 1 "_law_draw" ["_law_pen_here","_law_many"] Dw):BT P w K mg base 2 f fd ["_law_pen_here","_law_is_far"] Ih:=by
 refine F.oN Ht λcdv A outer s H vs Q E hr h=>?_;obtain⟨st,far,m,rfl,mb,D,q⟩:=h;refine⟨_,(zF (yS (i:=2) Ht.nd rfl (Or.inl rfl) (yD Ca hr rfl (zA (pv 0) (zA zR zG)) jK))
   (zF (xP (yI EF (pv 2) zR (yP _)) (zL (yO (yV wU (yD Ca hr rfl (zA (pv 0) (zA zR zG)) jK) zR))) yM)
   (zF (xP (PW.pt (uX (yI jY (pv 2) zR (yP _)) (vK (AO (uY (pv 1)))))) (zL (yO (yV wU (yD Ca hr rfl (zA (pv 0) (zA zR zG)) jK) zR))) yM)
   (zL (yO (yV FJ (yV wU (yV wU (yV Pa zR zR) zR) (yD Ca hr rfl (zA (pv 0) (zA (yV Pa zR zR) zG)) jK)) (yV wU zR (yV FJ zR (yD Ca hr rfl (zA (pv 0) (zA zR zG)) jK))))))))),?_⟩
 try dsimp only[Cx.nox,Cx.exc,Cx.wish,xX]
 refine⟨_,rfl,st,6,m,rfl,by decide,by decide,by lia,D,λr H1 r0 r1 D1=>?_⟩;have mid: ∃(e:V),e=.ref st/\Dw [e,.int 2001] H1 (λv H2=> ∃(i j:Int),v=.int i/\V.int 1000=.int j/\Q (.int (i-j)) H2) E:=⟨_,rfl,st,2001,m+1,rfl,by decide,by decide,by lia,D1.pen,λx H2 x0 x1 D2=>⟨_,_,rfl,rfl,q _ _ (Ft (by lia) (by lia)) ((D1.trans D2).mono (by lia))⟩⟩;refine⟨_,rfl,_,_,rfl,rfl,_,rfl,kL (λc=>?_) (λc=>?_)⟩
 ·exact⟨_,rfl,st,12,m+1,rfl,by decide,by decide,by lia,D1.pen,λx H2 x0 x1 D2=>⟨_,_,rfl,rfl,q _ _ (Ft (by lia) (by lia)) ((D1.trans D2).mono (by lia))⟩⟩
 obtain⟨e,rfl,st',many,m',ev,k1,k2,k3,k4,k5⟩:=mid;refine⟨_,rfl,rfl,_,rfl,kL (λc=>kK ?_) (λc=>?_)⟩
 ·exact⟨_,rfl,st,2001,m+1,rfl,by decide,by decide,by lia,D1.pen,λx H2 x0 x1 D2=>⟨_,_,rfl,rfl,q _ _ (Ft (by lia) (by lia)) ((D1.trans D2).mono (by lia))⟩⟩
 refine⟨_,rfl,_,rfl,?_⟩;cases far with
 |false=>exact kK ⟨_,rfl,st,2001,m+1,rfl,by decide,by decide,by lia,D1.pen,λx H2 x0 x1 D2=>⟨_,_,rfl,rfl,q _ _ (Ft (by lia) (by lia)) ((D1.trans D2).mono (by lia))⟩⟩
 |true=>
  refine qG ?_;refine⟨_,_,rfl,rfl,⟨by decide,by decide,by decide⟩,_,_,rfl,rfl,_,rfl,_,_,rfl,rfl,⟨by decide,by decide,by decide⟩,st,_,m+1,rfl,by decide,by decide,by lia,D1.pen,λd H2 d0 d1 D2=>?_⟩;refine⟨_,_,rfl,rfl,_,rfl,st,2,m+2,rfl,by decide,by decide,by lia,D2.pen.mono (by lia),λe H3 e0 e1 D3=>?_⟩;refine⟨_,_,rfl,rfl,.inl ⟨by decide,by decide⟩,_,_,rfl,rfl,_,_,rfl,rfl,.inr (zAa e0 e1),?_⟩;exact q _ _ (Uy d0 d1 e0 e1) ((D1.trans (D2.trans D3)).mono (by lia))
def Xe (H:Hp)(v:V)(h:IE):Prop:= ∃t b,v=.ref t/\H t=some (.tup [.str h.1,.ref b,.int (h.2.2:Int)])/\H b=some (.tup (h.2.1.map V.str))
theorem Xe.tups {H H':Hp}{v:V}{h:IE}(x:Xe H v h)(g:uV H H'):Xe H' v h:=by
 obtain⟨t,b,rfl,e1,e2⟩:=x;exact⟨t,b,rfl,g _ _ e1,g _ _ e2⟩
def YJ (H:Hp)(l:Addr)(hs:List IE):Prop:= ∃vs,H l=some (.lst vs)/\Paired (Xe H) vs hs
structure zEb (hs:List IE):Prop where
 all: ∀h∈hs,Xd h
 nd:(hs.map (·.1)).Nodup
 ne:hs≠[]
 few:hs.length<=16
 first: ∀h,hs[0]? =some h->h.2.2=0
theorem LQ {st:Addr}{m n:Int}{H H':Hp}(D:BK H st n)(p:kB st m H H'):uV H H':=λb xs e=>p.keep b _ (λz=>by obtain⟨ys,ey⟩:=D.is;rw[z,ey]at e;cases e) e
inductive Kd (vs:List V) (H:Hp) (Q:VK) (E:XK):Prop
 |mk (st:Addr) (most m:Int) (h0:vs=[.ref st,.int most]) (h1:0<most) (h2:most<=16) (h3:BK H st m) (h4:m<=10000) (h5: ∀l hs H',kB st (m+3000) H H'->YJ H' l hs->zEb hs->(hs.length:Int)<=most->H l=none->Q (.ref l) H'):Kd vs H Q E
theorem RP (T:Ky K mg)(F:uB K "_law_heads" "_law_heads" GM f fd)(Ca:uT P w K mg base 1 "_law_draw" ["_law_pen_here","_law_many"] Dw)(Ca2:uT P w K mg base 2 "_law_name" ["_law_pen_here","_law_taken"] OG):
  BT P w K mg base 3 f fd ["_law_pen_here","_law_most"] Kd:=by
 refine F.oN vF λcdv A outer s H vs Q E hr h=>?_;obtain⟨st,most,m,rfl,o0,o1,D,m0,q⟩:=h;refine⟨_,(zF (yS (i:=2) vF.nd rfl (Or.inl rfl) (xV zG))
   (zF (yS (i:=3) vF.nd rfl (Or.inl rfl) (xV zG))
   (zF (Al xS rfl (uZ rfl T.n_range (zA (yV jN zR (yD Ca hr rfl (zA (pv 0) (zA (pv 1) zG)) jK)) zG)) (xJ (i:=4) vF.nd rfl (Or.inl rfl)) (zF (yS (i:=5) vF.nd rfl (Or.inl rfl) (yD Ca2 hr rfl (zA (pv 0) (zA (pv 3) zG)) jK))
   (zF (jJ (qI zU yF yE jO (pv 3) (zA (pv 5) zG)))
   (zF (yS (i:=6) vF.nd rfl (Or.inl rfl) (yV FJ (yD Ca hr rfl (zA (pv 0) (zA zR zG)) jK) (jU Dr rfl T.n_int Dt (zA (uM Hh (pv 4) zR (yP _)) zG))))
   (zF (yS (i:=7) vF.nd rfl (Or.inl rfl) (xV zG))
   (zF (Al xS rfl (uZ rfl T.n_range (zA (yV jN (pv 6) (yD Ca hr rfl (zA (pv 0) (zA (jI jA (xV (zA zR (zA (yV wU zR (pv 6)) zG))) (jU Dr rfl T.n_int Dt (zA (uM jY (yD Ca hr rfl (zA (pv 0) (zA zR zG)) jK) zR (yP _)) zG)) (λ_ _=>rfl)) zG)) jK)) zG)) (xJ (i:=8) vF.nd rfl (Or.inl rfl)) (zL (jJ (qI zU yF yE jO (pv 7) (zA (yD Ca2 hr rfl (zA (pv 0) (zA (pv 7) zG)) jK) zG)))))
   (zL (jJ (qI zU yF yE jO (pv 2) (zA (jZ (zA (pv 5) (zA (jU Bt rfl T.n_tuple HX (zA (pv 7) zG)) (zA (pv 6) zG)))) zG))))))))))
   (zL (yO (pv 2)))))),?_⟩
 try dsimp only[Cx.nox,Cx.exc,Cx.wish,xX]
 refine⟨sm0,λfo hf=>⟨sm0,λtk ht=>?_⟩⟩;have D1:=D.new hf (.lst []);have D2:=D1.trans (D1.pen.new ht (.lst []));have nft:fo≠tk:=λz=>by rw[<-z,zH]at ht;cases ht
 have hkt:H tk=none:=(zN hf (.lst [])).free ht;have nfs:fo≠st:=Ne.symm (D.ne hf);have nts:tk≠st:=Ne.symm (D.ne hkt);refine⟨_,rfl,_,rfl,st,most,m,rfl,o0,by lia,by lia,D2.pen,λr H3 r0 r1 D3=>⟨_,_,rfl,rfl,_,rfl,by lia,by lia,?_⟩⟩;have D23:=D2.trans D3;refine AE (λi σ' H'=> ∃(hs:List IE) (vs:List V) (v4 v5 v6 v7 v8:Option V),σ'=[some (.ref st),some (.int most),some (.ref fo),some (.ref tk),v4,v5,v6,v7,v8]/\kB st (m+1+140*i) H H'/\H' fo=some (.lst vs)/\Paired (Xe H') vs hs/\H' tk=some (.lst ((hs.map (·.1)).map V.str))/\hs.length=i/\
  (∀h∈hs,Xd h)/\(hs.map (·.1)).Nodup/\ ∀h,hs[0]? =some h->h.2.2=0) ⟨[],[],_,_,_,_,_,rfl,D23.mono (by lia),?_,.nil,?_,rfl,λh hh=>(nomatch hh),.nil,λh hh=>(nomatch hh)⟩ ?_ ?_
 ·exact D3.keep _ _ nfs (by rw[zV nft];exact zH)
 ·exact D3.keep _ _ nts zH
 ·rintro i σ' H' hi ⟨hs,vs,v4,v5,v6,v7,v8,rfl,D',ef,pv,et,hl,hok,hnd,hfst⟩;have hi16:i<16:=by lia
  refine⟨_,rfl,_,rfl,st,tk,hs.map (·.1),m+1+140*i,rfl,D'.pen,by lia,et,nts,by rw[zD];lia,λnm H4 ok nin D4=>?_⟩;have et4:=D4.keep _ _ nts et;have ef4:=D4.keep _ _ nfs ef;refine⟨_,rfl,.inl ⟨rfl,_,.of et4⟩,_,rfl,tk,_,_,rfl,rfl,et4,wI (by rw[zD,zD];lia),?_⟩;have D5:kB st (m+1+140*i+10) H (upd H4 tk (.lst ((hs.map (·.1)).map V.str++[.str nm]))):=⟨(D'.trans D4).pen.put nts,λb o nb e=>by rw[zV (zM e hkt)];exact(D'.trans D4).keep _ _ nb e⟩;have ef5:upd H4 tk (.lst ((hs.map (·.1)).map V.str++[.str nm])) fo=some (.lst vs):=by rw[zV nft];exact ef4
  have tp5:uV H' (upd H4 tk (.lst ((hs.map (·.1)).map V.str++[.str nm]))):=λb xs e=>by
   have:=LQ D'.pen D4 b xs e;rw[zV (λz=>by rw[z,et4]at this;cases this)];exact this
  have et5:upd H4 tk (.lst ((hs.map (·.1)).map V.str++[.str nm])) tk=some (.lst ((hs.map (·.1)).map V.str++[.str nm])):=zH;generalize upd H4 tk (.lst ((hs.map (·.1)).map V.str++[.str nm]))=H5 at *
  refine⟨_,rfl,st,5,m+1+140*i+10,rfl,by decide,by decide,by lia,D5.pen,λr5 H6 a0 a1 D6=>?_⟩;have ef6:=D6.keep _ _ nfs ef5;have et6:=D6.keep _ _ nts et5;have tp6:=LQ D5.pen D6;refine⟨_,rfl,_,_,rfl,rfl,.inr ⟨_,rfl,_,_,rfl,rfl,.inl (by lia),?_⟩⟩;obtain⟨p,ep,p4,pz⟩: ∃p:Nat,r5*(if decide ((0:Int)<0+(i:Int))=true then 1 else 0)=(p:Int)/\p<=4/\(i=0->p=0):=by
   by_cases z:i=0
   ·refine⟨0,?_,by lia,λ_=>rfl⟩;rw[zI (by rw[Fv];lia),Int.mul_zero];rfl
   ·refine⟨r5.toNat,?_,by lia,λy=>absurd y z⟩;rw[zT (zY (by lia)),Int.mul_one];lia
  show NW 6 (V.int (r5* if decide ((0:Int)<0+(i:Int))=true then 1 else 0)) _ _ _;rw[ep];refine⟨sm0,λbx hbx=>?_⟩;have D56:=D5.trans D6;have hbH:H bx=none:=D56.free hbx;have nbs:bx≠st:=Ne.symm (D56.pen.ne hbx);have nbf:fo≠bx:=zM ef6 hbx;have nbt:tk≠bx:=zM et6 hbx;have s7:=zN hbx (.lst []);have D7:=D56.trans (D56.pen.more s7);have eb7:upd H6 bx (.lst []) bx=some (.lst []):=zH;have ef7:=s7 _ _ ef6;have et7:=s7 _ _ et6;have tp7:uV H' (upd H6 bx (.lst [])):=λb xs e=>s7 _ _ (tp6 _ _ (tp5 _ _ e));clear s7;generalize upd H6 bx (.lst [])=H7 at *
  refine⟨_,rfl,_,rfl,_,rfl,_,_,rfl,rfl,sm2,λo ho=>?_⟩;have D8:=D7.trans (D7.pen.new ho (.lst [.int 3,.int (13-(p:Int))]));have s8:=zN ho (.lst [.int 3,.int (13-(p:Int))]);refine⟨_,rfl,st,6,m+1+140*i+11,rfl,by decide,by decide,by lia,D8.pen.mono (by lia),λr6 H9 b0 b1 D9=>?_⟩;have nos:o≠st:=Ne.symm (D7.pen.ne ho);have eo:H9 o=some (.lst [.int 3,.int (13-(p:Int))]):=D9.keep _ _ nos zH;obtain⟨c,ec,c0,c13⟩: ∃c:Int,FO [V.int 3,.int (13-(p:Int))] (if decide (V.int r6=V.int 0)=true then 1 else 0)=some (.int c)/\0<c/\c<=13-p:=by
   split
   ·exact⟨13-p,rfl,by lia,by lia⟩
   ·exact⟨3,rfl,by decide,by lia⟩
  refine⟨rfl,.inr ⟨_,rfl,o,_,_,_,rfl,rfl,.of eo,ec,st,c,m+1+140*i+12,rfl,c0,by lia,by lia,D9.pen.mono (by lia),λrc H10 d0 d1 D10=>⟨_,_,rfl,rfl,_,rfl,by lia,by lia,?_⟩⟩⟩;have D79:kB st (m+1+140*i+13) H H10:=(D8.trans (D9.trans D10)).mono (by lia);have k10: ∀{b:Addr} {o':HO},b≠st->H7 b=some o'->H10 b=some o':=λn e=>D10.keep _ _ n (D9.keep _ _ n (s8 _ _ e));have tp10:uV H' H10:=λb xs e=>by
   have e7:=tp7 _ _ e;exact k10 (λz=>by obtain⟨ys,ey⟩:=D7.pen.is;rw[z,ey]at e7;cases e7) e7
  have cnt12:((p:Int)+rc).toNat<=12:=by lia
  have cntp:p<=((p:Int)+rc).toNat:=by lia
  generalize((p:Int)+rc).toNat =nb at cnt12 cntp;have eb10:=k10 nbs eb7;refine AE (λj σ2 H2=> ∃(bs:List Str) (v8:Option V),σ2=[some (.ref st),some (.int most),some (.ref fo),some (.ref tk),some (.int (0+(i:Int))),some (.str nm),some (.int (p:Int)),some (.ref bx),v8]/\kB st (m+1+140*i+13+10*j) H H2/\(∀(b:Addr) (o':HO),b≠st->b≠bx->H10 b=some o'->H2 b=some o')/\H2 bx=some (.lst (bs.map V.str))/\bs.length=j/\bs.Nodup/\ ∀b∈bs,jL b=true)
   ⟨[],_,rfl,D79.mono (by lia),λ_ _ _ _ e=>e,eb10,rfl,.nil,λb hb=>(nomatch hb)⟩ ?_ ?_
  ·rintro j σ2 H2 hj ⟨bs,v8',rfl,Dj,kj,ebj,hlj,ndj,okj⟩;refine⟨_,rfl,.inl ⟨rfl,_,.of ebj⟩,_,rfl,_,rfl,st,bx,bs,m+1+140*i+13+10*j,rfl,Dj.pen,by lia,ebj,nbs,by lia,λbn H11 okb nib D11=>?_⟩;have eb11:=D11.keep _ _ nbs ebj;refine⟨bx,_,_,rfl,rfl,eb11,wI (by rw[zD];lia),bs++[bn],_,rfl,?_,?_,?_,?_,?_,?_⟩
   ·refine⟨((Dj.trans D11).pen.put nbs).mono (by lia),λb o' nb' e=>?_⟩;rw[zV (zM e hbH)];exact(Dj.trans D11).keep _ _ nb' e
   ·intro b o' n1 n2 e;rw[zV n2];exact D11.keep _ _ n1 (kj b o' n1 n2 e)
   ·rw[zH,yB];rfl
   ·rw[zB];show bs.length+1=j+1;lia
   ·exact List.nodup_append.mpr ⟨ndj,by simp,λa ha b hb e=>nib (by rw[<-List.mem_singleton.mp hb,<-e];exact ha)⟩
   ·intro b hb
    rcases List.mem_append.mp hb with z|z
    ·exact okj b z
    ·rw[List.mem_singleton.mp z];exact okb
  rintro σ2 H2 ⟨bs,v8',rfl,Dj,kj,ebj,hlj,ndj,okj⟩;have efj:=kj _ _ nfs nbf (k10 nfs ef7);have etj:=kj _ _ nts nbt (k10 nts et7);have tpj:uV H' H2:=λb xs e=>by
   have e10:=tp10 _ _ e;refine kj _ _ (λz=>?_) (λz=>?_) e10
   ·obtain⟨ys,ey⟩:=D79.pen.is;rw[z,ey]at e10;cases e10
   ·rw[z,eb10]at e10;cases e10
  have hlv:=Paired.len pv;refine⟨_,rfl,.inl ⟨rfl,_,.of efj⟩,_,rfl,_,rfl,bx,_,rfl,.inl ⟨.of ebj,λbt hbt=>?_⟩⟩;have sa:=zN hbt (.tup (bs.map V.str));refine⟨_,rfl,sm3,λt ht2=>?_⟩;have sb:=zN ht2 (.tup [.str nm,.ref bt,.int (p:Int)]);have sab:=sa.trans sb;have D12:=Dj.trans (Dj.pen.more sab);have ebt:upd (upd H2 bt (.tup (bs.map V.str))) t (.tup [.str nm,.ref bt,.int (p:Int)]) bt=some (.tup (bs.map V.str)):=sb _ _ zH;have ett:upd (upd H2 bt (.tup (bs.map V.str))) t (.tup [.str nm,.ref bt,.int (p:Int)]) t=some (.tup [.str nm,.ref bt,.int (p:Int)]):=zH;have ef12:=sab _ _ efj;have tpf: ∀{b:Addr} {xs:List V} {G:Hp} {o:HO},G fo=some (.lst vs)->G b=some (.tup xs)->upd G fo o b=some (.tup xs):=fun{b xs G o} h e=>by rw[zV (λz=>by rw[z,h]at e;cases e)];exact e
  refine⟨fo,_,_,rfl,rfl,ef12,wI (by lia),hs++[(nm,bs,p)],_,_,_,_,_,_,rfl,?_,zH,?_,?_,?_,?_,?_,?_⟩
  ·refine⟨(D12.pen.put nfs).mono (by lia),λb o' nb' e=>?_⟩;rw[zV (zM e hf)];exact D12.keep _ _ nb' e
  ·refine wP (Paired.imp (λv h z=>z.tups λb xs e=>tpf ef12 (sab _ _ (tpj _ _ e))) pv) ⟨t,bt,rfl,tpf ef12 ett,tpf ef12 ebt⟩
  ·rw[zV (Ne.symm nft),sab _ _ etj,yB,yB];rfl
  ·rw[zB];show hs.length+1=i+1;lia
  ·intro h hh
   rcases List.mem_append.mp hh with z|z
   ·exact hok h z
   ·rw[List.mem_singleton.mp z];exact⟨ok,⟨ndj,okj,by show bs.length<=12;lia⟩,p4,by show p<=bs.length;lia⟩
  ·rw[yB];refine List.nodup_append.mpr ⟨hnd,by simp,λa ha b hb e=>nin ?_⟩;have eb:b=nm:=by simpa using hb
   rw[<-eb,<-e];exact ha
  ·intro h hh;cases hs with
   |nil=>
    have:h=(nm,bs,p):=by simpa using hh.symm
    rw[this];exact pz hl.symm
   |cons a b=>exact hfst h (by simpa using hh)
 ·rintro σ' H' ⟨hs,vs,v4,v5,v6,v7,v8,rfl,D',ef,pv,et,hl,hok,hnd,hfst⟩;refine⟨_,rfl,q fo hs H' (D'.mono (by lia)) ⟨vs,ef,pv⟩ ⟨hok,hnd,λz=>?_,by lia,hfst⟩ (by lia) hf⟩;rw[z]at hl;have:([]:List IE).length =0:=rfl;lia
structure DH (st hd bx lf:Addr)(hs:List IE)(bs:List Str)(H:Hp)(m l:Int):Prop where
 pen:BK H st m
 hds:YJ H hd hs
 box:H bx=some (.tup (bs.map V.str))
 lft:H lf=some (.lst [.int l])
 n1:lf≠st
 n2:lf≠hd
 n3:hd≠st
section
variable {st hd bx lf:Addr}{hs:List IE}{bs:List Str}{H H':Hp}{m m' l l':Int}
theorem DH.penned (h:DH st hd bx lf hs bs H m l)(D:kB st m' H H'):DH st hd bx lf hs bs H' m' l:=by
 have tp:=LQ h.pen D;obtain⟨vs,e,p⟩:=h.hds;exact⟨D.pen,⟨vs,D.keep _ _ h.n3 e,Paired.imp (λv x z=>z.tups tp) p⟩,tp _ _ h.box,D.keep _ _ h.n1 h.lft,h.n1,h.n2,h.n3⟩
theorem DH.same (h:DH st hd bx lf hs bs H m l)(g:kS H H'):DH st hd bx lf hs bs H' m l:=h.penned (h.pen.more g)
theorem DH.mono (h:DH st hd bx lf hs bs H m l)(k:m<=m'):DH st hd bx lf hs bs H m' l:=⟨h.pen.mono k,h.hds,h.box,h.lft,h.n1,h.n2,h.n3⟩
theorem DH.put (h:DH st hd bx lf hs bs H m l){x:Addr}{xs ys:List V}(ex:H x=some (.lst xs))(n1:x≠st)(n2:x≠hd)(n3:x≠lf):DH st hd bx lf hs bs (upd H x (.lst ys)) m l:=by
 have tp:uV H (upd H x (.lst ys)):=λb zs e=>by rw[zV (λz=>by rw[z,ex]at e;cases e)];exact e
 obtain⟨vs,e,p⟩:=h.hds;exact⟨h.pen.put n1,⟨vs,by rw[zV (Ne.symm n2)];exact e,Paired.imp (λv x z=>z.tups tp) p⟩,tp _ _ h.box,by rw[zV (Ne.symm n3)];exact h.lft,h.n1,h.n2,h.n3⟩
theorem DH.left (h:DH st hd bx lf hs bs H m l)(l':Int):DH st hd bx lf hs bs (upd H lf (.lst [.int l'])) m l':=by
 have tp:uV H (upd H lf (.lst [.int l'])):=λb zs e=>by rw[zV (λz=>by rw[z,h.lft]at e;cases e)];exact e
 obtain⟨vs,e,p⟩:=h.hds;exact⟨h.pen.put h.n1,⟨vs,by rw[zV (Ne.symm h.n2)];exact e,Paired.imp (λv x z=>z.tups tp) p⟩,tp _ _ h.box,zH,h.n1,h.n2,h.n3⟩
theorem DH.hne (h:DH st hd bx lf hs bs H m l){x:Addr}(e:H x=none):x≠st/\x≠hd/\x≠lf:=by
 obtain⟨vs,e2,_⟩:=h.hds;exact⟨Ne.symm (h.pen.ne e),Ne.symm (zM e2 e),Ne.symm (zM h.lft e)⟩
end
theorem KK {st lf:Addr}{m:Int}{H H':Hp}(D:kB st m H H'):xY [st,lf] H H':=λb o nb e=>D.keep b o (λz=>nb (z▸zO ..)) e
def zGh (st hd bx lf:Addr)(hs:List IE)(bs:List Str)(d:Nat)(H:Hp)(m l:Int)(Q:VK):Prop:= ∀p wa na ws zs l' H',xY [st,lf] H H'->(∀b,H' b=none->H b=none)->DH st hd bx lf hs bs H' (m+10*(ws.length:Int)) l'->l'.toNat<=l.toNat->ws.length+28*l'.toNat<=2+28*l.toNat->zs.length<=2*ws.length->
 H' p=some (.tup [.ref wa,.ref na])->H' wa=some (.lst (ws.map V.str))->H' na=some (.lst (zs.map V.int))->H wa=none->H na=none->HY hs bs d ws zs->(∀w∈ws,Et w)->Q (.ref p) H'
inductive FR (d:Nat) (vs:List V) (H:Hp) (Q:VK) (E:XK):Prop
 |mk (st hd bx lf:Addr) (hs:List IE) (bs:List Str) (m l:Int) (h0:vs=[.ref st,.ref hd,.ref bx,.ref lf,.int (11-(d:Int))]) (h1:1<=d) (h2:d<=10) (h3:DH st hd bx lf hs bs H m l) (h4:zEb hs) (h5:Su bs) (h6:m+280*(l.toNat:Int)<=300000) (h7:l<=100) (h8:zGh st hd bx lf hs bs d H m l Q):FR d vs H Q E
def Vj:Nat->Sp
 |0=>λ_ _ _ _=>False
 |d+1=>FR d
def manyT:List Int:=[1,0,0,2,0,1,2,2,2,2,2,2,2,2,2,3,1,0]
def QX (st hd bx lf:Addr)(hs:List IE)(bs:List Str)(d:Nat)(k:Int)(w:Str)(wa na:Addr)(H:Hp)(m l:Int)(C:Prop)(σ':St)(H':Hp):Prop:= ∃(ow:List Str) (on:List Int) (n:Nat) (v7 v12:Option V),
 σ'=[some (.ref st),some (.ref hd),some (.ref bx),some (.ref lf),some (.int (11-((d+1:Nat):Int))),some (.int k),none,v7,some (.str w),some (.int (n:Int)),some (.ref wa),some (.ref na),v12,none,none,none]/\xY [st,lf] H H'/\(∀b,H' b=none->H b=none)/\DH st hd bx lf hs bs H' m l/\
 H' wa=some (.lst ((w::ow).map V.str))/\H' na=some (.lst ((k::on).map V.int))/\(C->JV hs bs k ow on n)/\(¬C->ow=[]/\on=[]/\manyT[(k-2).toNat]? =some (n:Int))/\ow.length<=1/\on.length=ow.length/\n<=13/\(∀x∈ow,Et x)/\(k=19->n=0)
structure NwS (st hd lf:Addr)(H:Hp)(wa na:Addr):Prop where
 w1:wa≠st
 w2:wa≠hd
 w3:wa≠lf
 a1:na≠st
 a2:na≠hd
 a3:na≠lf
 wn:wa≠na
 f1:H wa=none
 f2:H na=none
theorem QX.app {st hd bx lf:Addr}{hs:List IE}{bs:List Str}{d:Nat}{k:Int}{w:Str}{wa na:Addr}{H H2:Hp}{m l:Int}{C:Prop}(nw:NwS st hd lf H wa na)(kp:xY [st,lf] H H2)(lv: ∀b,H2 b=none->H b=none)(S:DH st hd bx lf hs bs H2 m l)(ew:H2 wa=some (.lst [.str w]))(en:H2 na=some (.lst [.int k]))
  {x:Str} {z:Int} {n:Nat} {v7 v12:Option V} (own:JV hs bs k [x] [z] n) (wd:Et x) (hn:n<=13) (hC:C) (h19:k≠19):
  QX st hd bx lf hs bs d k w wa na H m l C [some (.ref st),some (.ref hd),some (.ref bx),some (.ref lf),some (.int (11-((d+1:Nat):Int))),some (.int k),none,v7,some (.str w),some (.int (n:Int)),some (.ref wa),some (.ref na),v12,none,none,none]
   (upd (upd H2 wa (.lst ([.str w]++[.str x]))) na (.lst ([.int k]++[.int z]))):=by
 have en2:upd H2 wa (.lst ([.str w]++[.str x])) na=some (.lst [.int k]):=by rw[zV (Ne.symm nw.wn)];exact en
 refine⟨[x],[z],n,v7,v12,rfl,λb o nb e=>?_,wX (wX lv ew) en2,(S.put ew nw.w1 nw.w2 nw.w3).put en2 nw.a1 nw.a2 nw.a3,?_,zH,λ_=>own,λz=>absurd hC z,zW _,rfl,hn,(λy hy=>by rw[List.mem_singleton.mp hy];exact wd),λz=>absurd z h19⟩
 ·rw[zV (zM e nw.f2),zV (zM e nw.f1)];exact kp b o nb e
 ·rw[zV nw.wn];exact zH
theorem RZ: ∀j:Fin 18,∃n:Nat,manyT[j.1]? =some (n:Int)/\n<=13:=by
 intro j;have: ∀j:Fin 18,(manyT[j.1]?).map Int.toNat=some ((manyT.getD j.1 0).toNat)/\0<=manyT.getD j.1 0/\(manyT.getD j.1 0).toNat<=13:=by decide
 obtain⟨h1,h2,h3⟩:=this j;refine⟨(manyT.getD j.1 0).toNat,?_,h3⟩;have hl:j.1<manyT.length:=j.2;rw[zE hl];have:manyT.getD j.1 0=manyT[j.1]:=by rw[xW,zE hl];rfl
 rw[<-this];congr 1;lia
theorem Yc {k:Int}{n:Nat}(h2:2<=k)(h19:k<=19)(h234: ¬(k=2\/k=3\/k=4))(h6:k≠6)(e:manyT[(k-2).toNat]? =some (n:Int)):(if k=5 then 2 else(partsW[(k-7).toNat]?).getD 0)=(n:Int):=by
 have tab: ∀j:Fin 18,j.1<3\/j.1=4\/manyT[j.1]? =some (if j.1=3 then 2 else(partsW[j.1-5]?).getD 0):=by decide
 rcases tab ⟨(k-2).toNat,by lia⟩with z|z|z
 ·have z':(k-2).toNat <3:=z;lia
 ·have z':(k-2).toNat =4:=z;lia
 ·have z':manyT[(k-2).toNat]? =some (if(k-2).toNat =3 then 2 else(partsW[(k-2).toNat -5]?).getD 0):=z;rw[e]at z';injection z' with z'
  rw[z']
  by_cases c:k=5
  ·rw[zT c,zT (by lia)]
  ·rw[zI c,zI (by lia),show(k-2).toNat -5=(k-7).toNat by lia]
theorem zAg {k:Int}(h2:2<=k)(h19:k<=19): ∃w,kwW[(k-2).toNat]? =some w/\FO (kwA.map V.str) (k+1)=some (.str w):=by
 have hl:(k-2).toNat <kwW.length:=by show(k-2).toNat <18;lia
 refine⟨kwW[(k-2).toNat],zE hl,Du (by lia) ?_⟩;rw[zS,show(k+1).toNat =kwH.length+(k-2).toNat by show _=3+_;lia];unfold kwA;rw[kI (Nat.le_add_right _ _),Gs,zE hl];rfl
theorem YU {r:Int}(h0:0<=r)(h1:r<3): ∃k:Int,FO [V.int 0,.int 1,.int 19] r=some (.int k)/\(k=0\/k=1\/k=19):=by
 have:r=0\/r=1\/r=2:=by lia
 rcases this with rfl|rfl|rfl
 ·exact⟨0,rfl,.inl rfl⟩
 ·exact⟨1,rfl,.inr (.inl rfl)⟩
 ·exact⟨19,rfl,.inr (.inr rfl)⟩
theorem Nu (d:Nat)(T:Ky K mg)(F:uB K "_law_shape" "_law_shape" Eo f fd)(Ca:uT P w K mg base 1 "_law_draw" ["_law_pen_here","_law_many"] Dw)(Cc:uT P w K mg base 1 "_law_words" [] Dz)
  (Ci:uT P w K mg base 2 "_law_number" ["_law_pen_here","_law_is_far"] Ih) (Cq:uT P w K mg base (2+d) "_law_shape" ["_law_pen_here","_law_heads_here","_law_boxes","_law_left","_law_deep"] (Vj d)):
  BT P w K mg base (2+d+1) f fd ["_law_pen_here","_law_heads_here","_law_boxes","_law_left","_law_deep"] (FR d):=by
 refine F.oN jH λcdv A outer s H vs Q E hr h=>?_;obtain⟨st,hd,bx,lf,hs,bs,m,l,rfl,d1,d10,S,hg,hb,mb,lb,q⟩:=h;obtain⟨d,rfl⟩: ∃d',d=d'+1:=⟨d-1,by lia⟩;refine⟨_,(zF (BJ (yV wU (jI jA (pv 3) zR (λ_ _=>rfl)) zR) (Kl (pv 3) zR FT))
   (zF (yS (i:=5) jH.nd rfl (Or.inl rfl) (yD Ca hr rfl (zA (pv 0) (zA zR zG)) jK))
   (zF (FI (xP (PW.pt (uX (yI EF (jI jA (pv 3) zR (λ_ _=>rfl)) zR (yP _)) (vK (yI jY (pv 4) zR (yP _))))) (zL (yS (i:=5) jH.nd rfl (Or.inl rfl) (jI jA (xV (AD (.int (.int (.int .nil))))) (yD Ca hr rfl (zA (pv 0) (zA zR zG)) jK) (λ_ _=>rfl)))) yM))
   (zF (FI (xP (PW.pt (HI (yI wS (pv 5) (jZ (AD (.int (.int .nil)))) rfl) (Fo (yI (TU hr) (pv 2) (jZ zG) (yP _))))) (zL (yS (i:=5) jH.nd rfl (Or.inl rfl) zR)) yM))
   (zF (xP (yI jY (pv 5) zR (yP _)) (zF (yS (i:=6) jH.nd rfl (Or.inl rfl) (yD Ci hr rfl (zA (pv 0) (zA (uM Hh (jI jA (pv 3) zR (λ_ _=>rfl)) zR (yP _)) zG)) jK))
   (zL (yO (jZ (zA (xV (zA (jU Ep rfl T.n_str MB (zA (pv 6) zG)) zG)) (zA (xV (zA zR (zA (pv 6) zG))) zG)))))) yM)
   (zF (xP (yI jY (pv 5) zR (yP _)) (zF (yS (i:=7) jH.nd rfl (Or.inl rfl) (yD Ca hr rfl (zA (pv 0) (zA (xB yX rfl T.n_len kA (zA (pv 2) zG)) zG)) jK))
   (zL (yO (jZ (zA (xV (zA (jI Aa (pv 2) (pv 7) (λ_ _=>rfl)) zG)) (zA (xV (zA zR (zA (pv 7) zG))) zG)))))) yM)
   (zF (yS (i:=8) jH.nd rfl (Or.inl rfl) (jI jA (Ew Cc hr rfl jK) (yV jN (pv 5) zR) (λ_ _=>rfl)))
   (zF (yS (i:=9) jH.nd rfl (Or.inl rfl) (jI jA (xV (AD (.int (.int (.int (.int (.int (.int (.int (.int (.int (.int (.int (.int (.int (.int (.int (.int (.int (.int .nil)))))))))))))))))))) (yV wU (pv 5) zR) (λ_ _=>rfl)))
   (zF (yS (i:=10) jH.nd rfl (Or.inl rfl) (xV (zA (pv 8) zG)))
   (zF (yS (i:=11) jH.nd rfl (Or.inl rfl) (xV (zA (pv 5) zG)))
   (zF (FI (xP (yI jY (pv 5) zR (yP _)) (zF (yS (i:=7) jH.nd rfl (Or.inl rfl) (yD Ca hr rfl (zA (pv 0) (zA (xB yX rfl T.n_len kA (zA (pv 2) zG)) zG)) jK))
   (zF (jJ (qI zU yF yE jO (pv 10) (zA (jI Aa (pv 2) (pv 7) (λ_ _=>rfl)) zG)))
   (zL (jJ (qI zU yF yE jO (pv 11) (zA (pv 7) zG)))))) yM))
   (zF (FI (xP (yI wS (pv 5) (jZ (AD (.int (.int .nil)))) rfl) (zF (yS (i:=12) jH.nd rfl (Or.inl rfl) (yV jN (yV wU (pv 5) zR) (yD Ca hr rfl (zA (pv 0) (zA (jI jA (xV (zA zR (zA (yV wU zR (pv 5)) zG))) (jU Dr rfl T.n_int Dt (zA (uM jY (yD Ca hr rfl (zA (pv 0) (zA zR zG)) jK) zR (yP _)) zG)) (λ_ _=>rfl)) zG)) jK)))
   (zF (jJ (qI zU yF yE jO (pv 10) (zA (jU Ep rfl T.n_str MB (zA (pv 12) zG)) zG)))
   (zF (jJ (qI zU yF yE jO (pv 11) (zA (pv 12) zG)))
   (zL (yS (i:=9) jH.nd rfl (Or.inl rfl) (yV wU (yV jN (pv 12) (pv 5)) zR)))))) yM))
   (zF (FI (xP (yI jY (pv 5) zR (yP _)) (zF (yS (i:=7) jH.nd rfl (Or.inl rfl) (yD Ca hr rfl (zA (pv 0) (zA (xB yX rfl T.n_len kA (zA (pv 1) zG)) zG)) jK))
   (zF (jJ (qI zU yF yE jO (pv 10) (zA (jI Aa (jI jA (pv 1) (pv 7) (λ_ _=>rfl)) zR (λ_ _=>rfl)) zG)))
   (zF (jJ (qI zU yF yE jO (pv 11) (zA (pv 7) zG)))
   (zL (yS (i:=9) jH.nd rfl (Or.inl rfl) (jI Aa (jI jA (pv 1) (pv 7) (λ_ _=>rfl)) zR (λ_ _=>rfl))))))) yM))
   (zF (Al xS rfl (uZ rfl T.n_range (zA (pv 9) zG)) (xJ (i:=13) jH.nd rfl (Or.inl rfl)) (zF (BJ (yD Cq hr rfl (zA (pv 0) (zA (pv 1) (zA (pv 2) (zA (pv 3) (zA (yV jN (pv 4) zR) zG))))) jK) (Bo rfl (xU (xJ (i:=14) jH.nd rfl (Or.inl rfl)) (xU (xJ (i:=15) jH.nd rfl (Or.inl rfl)) uL))))
   (zF (jJ (qI zU qO qL Gc (pv 10) (zA (pv 14) zG)))
   (zL (jJ (qI zU qO qL Gc (pv 11) (zA (pv 15) zG)))))))
   (zL (yO (jZ (zA (pv 10) (zA (pv 11) zG))))))))))))))))))),?_⟩
 try dsimp only[Cx.nox,Cx.exc,Cx.wish,xX]
 refine⟨_,rfl,lf,_,_,_,rfl,rfl,.of S.lft,rfl,_,_,rfl,rfl,_,rfl,lf,_,_,_,rfl,rfl,S.lft,rfl,?_⟩;have S1:=S.left (l-1);have k1:xY [st,lf] H (upd H lf (.lst [.int (l-1)])):=xY.upd (zQ _ (zO ..));have lv1: ∀b,upd H lf (.lst [.int (l-1)]) b=none->H b=none:=wX (λ_ z=>z) S.lft;have eset:[V.int l].set 0 (.int (l-1))=[.int (l-1)]:=rfl;refine⟨_,rfl,st,20,m,rfl,by decide,by decide,by lia,S1.pen,λr H2 r0 r1 D2=>?_⟩;have S2:=S1.penned D2;have k2:xY [st,lf] H H2:=k1.trans (KK D2);have lv2: ∀b,H2 b=none->H b=none:=λb e=>lv1 b (D2.free e);have nl9: ∀(k:Int),(l-1<1\/d=0->k=0\/k=1\/k=19)->True:=λ_ _=>trivial;refine⟨λσ' H'=> ∃k:Int,σ'=[some (.ref st),some (.ref hd),some (.ref bx),some (.ref lf),some (.int (11-((d+1:Nat):Int))),some (.int k),none,none,none,none,none,none,none,none,none,none]/\0<=k/\k<=19/\(l-1<1\/d=0->k=0\/k=1\/k=19)/\xY [st,lf] H H'/\(∀b,H' b=none->H b=none)/\DH st hd bx lf hs bs H' (m+2) (l-1),?_,?_⟩
 ·refine⟨_,rfl,lf,_,_,_,rfl,rfl,.of S2.lft,rfl,_,_,rfl,rfl,_,rfl,kL (λc=>kK ?_) (λc=>?_)⟩
  ·refine⟨sm3,λo ho=>⟨_,rfl,st,3,m+1,rfl,by decide,by decide,by lia,(S2.same (zN ho _)).pen,λr3 H3 a0 a1 D3=>?_⟩⟩;obtain⟨k,ek,hk⟩:=YU a0 a1;have S3:=(S2.same (zN ho (.lst [.int 0,.int 1,.int 19]))).penned D3;have eo:H3 o=some (.lst [.int 0,.int 1,.int 19]):=D3.keep _ _ (S2.hne ho).1 zH;exact⟨o,_,_,_,rfl,rfl,.of eo,ek,k,rfl,by lia,by lia,λ_=>hk,k2.trans ((xY.same (zN ho _)).trans (KK D3)),λb e=>lv2 b ((zN ho _).free (D3.free e)),S3.mono (by lia)⟩
  have c':=df c;refine⟨_,rfl,rfl,_,rfl,kL (λc2=>?_) (λc2=>?_)⟩
  ·refine⟨sm3,λo ho=>⟨_,rfl,st,3,m+1,rfl,by decide,by decide,by lia,(S2.same (zN ho _)).pen,λr3 H3 a0 a1 D3=>?_⟩⟩;obtain⟨k,ek,hk⟩:=YU a0 a1;have S3:=(S2.same (zN ho (.lst [.int 0,.int 1,.int 19]))).penned D3;have eo:H3 o=some (.lst [.int 0,.int 1,.int 19]):=D3.keep _ _ (S2.hne ho).1 zH;exact⟨o,_,_,_,rfl,rfl,.of eo,ek,k,rfl,by lia,by lia,λ_=>hk,k2.trans ((xY.same (zN ho _)).trans (KK D3)),λb e=>lv2 b ((zN ho _).free (D3.free e)),S3.mono (by lia)⟩
  have c2':=vf c2;exact⟨r,rfl,r0,by lia,λz=>by lia,k2,lv2,S2.mono (by lia)⟩
 rintro _ _ ⟨k,rfl,k0,k19,hkl,k3,lv3,S3⟩;rename_i H3;refine⟨λσ' H'=> ∃k:Int,σ'=[some (.ref st),some (.ref hd),some (.ref bx),some (.ref lf),some (.int (11-((d+1:Nat):Int))),some (.int k),none,none,none,none,none,none,none,none,none,none]/\0<=k/\k<=19/\(l-1<1\/d=0->k=0\/k=1\/k=19)/\(k=1\/k=2->bs≠[])/\xY [st,lf] H H'/\(∀b,H' b=none->H b=none)/\DH st hd bx lf hs bs H' (m+2) (l-1),?_,?_⟩
 ·refine⟨_,rfl,sm2,λtp htp=>⟨tp,_,rfl,.inr (.of zH),rfl,rfl,_,rfl,?_⟩⟩;have k4:=k3.trans (xY.same (zN htp (.tup [.int 1,.int 2])));have lv4: ∀b,upd H3 tp (.tup [.int 1,.int 2]) b=none->H b=none:=λb e=>lv3 b ((zN htp _).free e);have S4:=S3.same (zN htp (.tup [.int 1,.int 2]));have ei:Yj (.int k) [V.int 1,.int 2]=decide (k=1\/k=2):=by
   exact(JI k [1,2]).trans (decide_eq_decide.mpr (by simp))
  rw[ei];refine kL (λc=>?_) (λc=>?_)
  ·have c':=zZ c;refine⟨_,rfl,sm0,λet het=>⟨bx,et,_,rfl,rfl,.of ((zN het _) _ _ S4.box),.of zH,_,rfl,?_⟩⟩;have k5:=k4.trans (xY.same (zN het (.tup [])));have lv5: ∀b,upd (upd H3 tp (.tup [.int 1,.int 2])) et (.tup []) b=none->H b=none:=λb e=>lv4 b ((zN het _).free e);have S5:=S4.same (zN het (.tup []));cases eb:bs with
   |nil=>
    subst eb;exact kK ⟨0,rfl,by decide,by decide,λ_=>.inl rfl,λz=>by lia,k5,lv5,S5⟩
   |cons x y=>
    rw[<-eb];refine zFt (by rw[eb];rfl) ⟨k,rfl,k0,k19,hkl,λ_=>by rw[eb];exact λz=>(nomatch z),k5,lv5,S5⟩
  ·have c':=xT (Bool.eq_false_iff.mpr c);exact⟨k,rfl,k0,k19,hkl,λz=>absurd z c',k4,lv4,S4⟩
 rintro _ _ ⟨k,rfl,k0,k19,hkl,hkb,k4,lv4,S4⟩;rename_i H4;have fin: ∀(H5:Hp) (m5 l5:Int) (ws:List Str) (zs:List Int) (wa na:Addr),xY [st,lf] H H5->(∀b,H5 b=none->H b=none)->DH st hd bx lf hs bs H5 m5 l5->m5<=m+10*(ws.length:Int)->l5.toNat<=l.toNat->ws.length+28*l5.toNat<=2+28*l.toNat->zs.length<=2*ws.length->H5 wa=some (.lst (ws.map V.str))->H5 na=some (.lst (zs.map V.int))->H wa=none->H na=none->
   HY hs bs (d+1) ws zs->(∀w∈ws,Et w)-> ∀p,H5 p=none->Q (.ref p) (upd H5 p (.tup [.ref wa,.ref na])):=λH5 m5 l5 ws zs wa na k5 lv5 S5 b1 b2 b3 b4 e1 e2 f1 f2 rd wd p hp=>by
  have sm:=zN hp (.tup [.ref wa,.ref na]);exact q p wa na ws zs l5 _ (k5.trans (xY.same sm)) (λb e=>lv5 b (sm.free e)) ((S5.same sm).mono b1) b2 b3 b4 zH (sm _ _ e1) (sm _ _ e2) f1 f2 rd wd
 have fin1: ∀(H5:Hp) (m5:Int) (x:Str) (zs:List Int),kB st m5 H4 H5->m5<=m+10->zs.length<=2->HY hs bs (d+1) [x] zs->Et x-> ∀wa,H5 wa=none-> ∀na,upd H5 wa (.lst [.str x]) na=none-> ∀p,upd (upd H5 wa (.lst [.str x])) na (.lst (zs.map V.int)) p=none->
   Q (.ref p) (upd (upd (upd H5 wa (.lst [.str x])) na (.lst (zs.map V.int))) p (.tup [.ref wa,.ref na])):=λH5 m5 x zs D5 b1 b4 rd wd wa hwa na hna p hp=>by
  have sa:=zN hwa (.lst [.str x]);have sb:=zN hna (.lst (zs.map V.int));refine fin _ m5 (l-1) [x] zs wa na ((k4.trans (KK D5)).trans (xY.same (sa.trans sb))) (λb e=>lv4 b (D5.free ((sa.trans sb).free e))) ((S4.penned D5).same (sa.trans sb)) (by show m5<=m+10*((1:Nat):Int);lia) (by lia) (by show 1+_<=_;lia) b4 (sb _ _ zH) zH (lv4 _ (D5.free hwa)) (lv4 _ (D5.free (sa.free hna))) rd (λw hw=>by rw[List.mem_singleton.mp hw];exact wd) p hp
 refine⟨_,rfl,rfl,_,rfl,kL (λc=>?_) (λc0=>?_)⟩
 ·refine⟨_,rfl,_,rfl,lf,_,_,_,rfl,rfl,.of S4.lft,rfl,_,_,rfl,rfl,st,_,m+2,rfl,by lia,S4.pen,λn H5 fn D5=>?_⟩;have lg:n.natAbs.log2<1920:=by
   refine kO (?_:n.natAbs.log2<=200) (by decide)
   by_cases z:n.natAbs=0
   ·rw[z];decide
   ·exact vC ((Nat.log2_lt z).mpr (kZ fn (by decide+kernel)))
  refine⟨_,rfl,n,rfl,lg,sm1,λwa hwa=>⟨_,rfl,sm2,λna hna=>⟨sm2,λp hp=>?_⟩⟩⟩;exact fin1 H5 _ (Bc n) [0,n] D5 (by lia) (zW _) (Nh fn) (Km fn) wa hwa na hna p hp
 refine⟨_,rfl,rfl,_,rfl,kL (λc=>?_) (λc1=>?_)⟩
 ·have bne:=hkb (.inl (vt c));have b12:=hb.few;have b0:0<bs.length:=List.length_pos_iff.mpr bne;have lbs:((bs.map V.str).length:Int)=(bs.length:Int):=by rw[zD]
  refine⟨_,rfl,_,rfl,bx,_,rfl,.inr (.of S4.box),st,_,m+2,rfl,by lia,by lia,by lia,S4.pen,λr H5 r0' r1' D5=>?_⟩;have hr':r.toNat<bs.length:=by lia
  have eb:bs[r.toNat]? =some bs[r.toNat]:=zE hr';generalize bs[r.toNat]=b at eb;have S5:=S4.penned D5;have ab:FO (bs.map V.str) r=some (.str b):=Du r0' (by rw[zS,eb];rfl);refine⟨_,rfl,_,rfl,bx,_,_,_,rfl,rfl,.of S5.box,ab,sm1,λwa hwa=>⟨_,rfl,sm2,λna hna=>⟨sm2,λp hp=>?_⟩⟩⟩;have rg:=Ni (hs:=hs) (d:=d) hb eb;rw[show((r.toNat:Nat):Int)=r by lia]at rg;exact fin1 H5 _ b [1,r] D5 (by lia) (zW _) rg (Ao (hb.ok b (zX eb))) wa hwa na hna p hp
 have n0:=vf c0;have n1:=vf c1;have k2':2<=k:=by lia
 obtain⟨w,hw,aw⟩:=zAg k2' k19;obtain⟨n,en,n13⟩:=RZ ⟨(k-2).toNat,by lia⟩;dsimp only at en;have am:FO (manyT.map V.int) (k-2)=some (.int (n:Int)):=Du (by lia) (by rw[zS,en];rfl);refine⟨rfl,λwl H5 hwl s5 e5=>⟨_,rfl,_,_,rfl,rfl,wl,_,_,_,rfl,rfl,.of e5,aw,?_⟩⟩;refine⟨sm18,λo ho=>⟨_,rfl,_,_,rfl,rfl,o,_,_,_,rfl,rfl,.of zH,am,?_⟩⟩;have s6:=s5.trans (zN ho (.lst (manyT.map V.int)));refine⟨_,rfl,sm1,λwa hwa=>⟨_,rfl,sm1,λna hna=>?_⟩⟩;have s7:=s6.trans (zN hwa (.lst [.str w]));have s8:=s7.trans (zN hna (.lst [.int k]));have nw:NwS st hd lf H wa na:=⟨((S4.same s6).hne hwa).1,((S4.same s6).hne hwa).2.1,((S4.same s6).hne hwa).2.2,((S4.same s7).hne hna).1,((S4.same s7).hne hna).2.1,((S4.same s7).hne hna).2.2,(λz=>by rw[<-z,zH]at hna;cases hna),lv4 _ (s6.free hwa),lv4 _ (s7.free hna)⟩;refine⟨QX st hd bx lf hs bs d k w wa na H (m+3) (l-1) (k=2),?_,?_⟩
 ·have S8:=S4.same s8;have k8:=k4.trans (xY.same s8);have lv8: ∀b,upd (upd (upd H5 o (.lst (manyT.map V.int))) wa (.lst [.str w])) na (.lst [.int k]) b=none->H b=none:=λb e=>lv4 b (s8.free e);have ew8:upd (upd (upd H5 o (.lst (manyT.map V.int))) wa (.lst [.str w])) na (.lst [.int k]) wa=some (.lst [.str w]):=by rw[zV nw.wn];exact zH
  have en8:upd (upd (upd H5 o (.lst (manyT.map V.int))) wa (.lst [.str w])) na (.lst [.int k]) na=some (.lst [.int k]):=zH;refine⟨_,rfl,rfl,_,rfl,kL (λc=>?_) (λc=>?_)⟩
  ·have kk:=vt c;have bne:=hkb (.inr kk);have b12:=hb.few;have b0:0<bs.length:=List.length_pos_iff.mpr bne;have lbs:((bs.map V.str).length:Int)=(bs.length:Int):=by rw[zD]
   refine⟨_,rfl,_,rfl,bx,_,rfl,.inr (.of S8.box),st,_,m+2,rfl,by lia,by lia,by lia,S8.pen,λr H9 r0' r1' D9=>?_⟩;have hr':r.toNat<bs.length:=by lia
   have eb:bs[r.toNat]? =some bs[r.toNat]:=zE hr';generalize bs[r.toNat]=b at eb;have S9:=S8.penned D9;have ab:FO (bs.map V.str) r=some (.str b):=Du r0' (by rw[zS,eb];rfl);have ew9:=D9.keep _ _ nw.w1 ew8;have en9:=D9.keep _ _ nw.a1 en8;have own:=Mm (hs:=hs) hb eb;rw[show((r.toNat:Nat):Int)=r by lia]at own;have e1:n=1:=by
    rw[kk]at en;have en':some (1:Int)=some (n:Int):=en;injection en' with z
    lia
   refine⟨_,rfl,.inl ⟨rfl,_,.of ew9⟩,_,rfl,_,rfl,bx,_,_,_,rfl,rfl,.of S9.box,ab,wa,_,_,rfl,rfl,ew9,wI (show 1<=1000 by decide),?_⟩;refine⟨_,rfl,.inl ⟨rfl,_,.of (by rw[zV (Ne.symm nw.wn)];exact en9)⟩,_,rfl,na,[.int k],_,rfl,rfl,by rw[zV (Ne.symm nw.wn)];exact en9,wI (show 1<=1000 by decide),?_⟩;exact QX.app nw (k8.trans (KK D9)) (λb e=>lv8 b (D9.free e)) (S9.mono (by lia)) ew9 en9 (by rw[kk,e1];exact own) (Ao (hb.ok b (zX eb))) n13 kk (by lia)
  ·have kk:=vf c;exact⟨[],[],n,none,none,rfl,k8,lv8,S8.mono (by lia),ew8,en8,λz=>absurd z kk,λ_=>⟨rfl,rfl,en⟩,yU _,rfl,n13,(λx hx=>(nomatch hx)),λz=>by
    rw[z]at en;have en':some (0:Int)=some (n:Int):=en;injection en' with y
    lia⟩
 rintro σ9 H9 M9;refine⟨QX st hd bx lf hs bs d k w wa na H (m+5) (l-1) (k=2\/k=3\/k=4),?_,?_⟩
 ·obtain⟨ow,on,n,v7,v12,rfl,k9,lv9,S9,ew9,en9,own9,no9,l1,l2,n13,wd9,z9⟩:=M9;refine⟨_,rfl,sm2,λtp htp=>⟨tp,_,rfl,.inr (.of zH),rfl,rfl,_,rfl,?_⟩⟩;have st9:=zN htp (.tup [.int 3,.int 4]);have ei:Yj (.int k) [V.int 3,.int 4]=decide (k=3\/k=4):=(JI k [3,4]).trans (decide_eq_decide.mpr (by simp));rw[ei];have kt:=k9.trans (xY.same st9);have lvt: ∀b,upd H9 tp (.tup [.int 3,.int 4]) b=none->H b=none:=λb e=>lv9 b (st9.free e);have St:=S9.same st9;have ewt:=st9 _ _ ew9;have ent:=st9 _ _ en9;refine kL (λc=>?_) (λc=>?_)
  ·have kk:=zZ c;obtain⟨rfl,rfl,en⟩:=no9 (by lia);refine⟨_,rfl,_,_,rfl,rfl,_,rfl,_,rfl,_,_,rfl,rfl,sm2,λo ho=>?_⟩;have so:=zN ho (.lst [.int 3,.int (15-k)]);refine⟨_,rfl,st,9,m+3,rfl,by decide,by decide,by lia,(St.same so).pen,λr9 H10 a0 a1 D10=>?_⟩;have eo:H10 o=some (.lst [.int 3,.int (15-k)]):=D10.keep _ _ (St.hne ho).1 zH;obtain⟨c,ec,c0,c13⟩: ∃c:Int,FO [V.int 3,.int (15-k)] (if decide (V.int r9=V.int 0)=true then 1 else 0)=some (.int c)/\0<c/\c<=15-k:=by
    split
    ·exact⟨15-k,rfl,by lia,by lia⟩
    ·exact⟨3,rfl,by decide,by lia⟩
   refine⟨rfl,.inr ⟨_,rfl,o,_,_,_,rfl,rfl,.of eo,ec,st,c,m+4,rfl,c0,by lia,by lia,D10.pen.mono (by lia),λrc H11 d0 d1' D11=>⟨_,_,rfl,rfl,?_⟩⟩⟩;have kE: ∀{b:Addr} {o':HO},b≠st->upd H9 tp (.tup [.int 3,.int 4]) b=some o'->H11 b=some o':=λn e=>D11.keep _ _ n (D10.keep _ _ n (so _ _ e));have S11:=((St.same so).penned D10).penned D11;have ew11:H11 wa=some (.lst [.str w]):=kE nw.w1 ewt;have en11:H11 na=some (.lst [.int k]):=kE nw.a1 ent;have cb1:k-2<=k-2+rc:=by lia
   have cb2:k-2+rc<=12:=by lia
   have own:=HN (hs:=hs) (bs:=bs) kk cb1 cb2;have wdc:Et (Bc (k-2+rc)):=Km (kZ (show(k-2+rc).natAbs <100 by lia) (by decide+kernel));have lg:(k-2+rc).natAbs.log2 <1920:=by
    refine kO (?_:(k-2+rc).natAbs.log2<=200) (by decide)
    by_cases z:(k-2+rc).natAbs =0
    ·rw[z];decide
    ·exact vC ((Nat.log2_lt z).mpr (kZ (show(k-2+rc).natAbs <100 by lia) (by decide+kernel)))
   have n13':(k-2+rc+k-3).toNat<=13:=by lia
   have ecast:(((k-2+rc+k-3).toNat:Nat):Int)=k-2+rc+k-3:=by lia
   refine⟨_,rfl,.inl ⟨rfl,_,.of ew11⟩,_,rfl,_,rfl,lg,wa,_,_,rfl,rfl,ew11,wI (show 1<=1000 by decide),?_⟩;refine⟨_,rfl,.inl ⟨rfl,_,.of (by rw[zV (Ne.symm nw.wn)];exact en11)⟩,_,rfl,na,[.int k],_,rfl,rfl,by rw[zV (Ne.symm nw.wn)];exact en11,wI (show 1<=1000 by decide),?_⟩;refine⟨_,rfl,_,rfl,_,_,rfl,rfl,_,_,rfl,rfl,?_⟩;have ap:=QX.app (d:=d) (C:=k=2\/k=3\/k=4) (v7:=v7) (v12:=some (.int (k-2+rc))) nw ((kt.trans (xY.same so)).trans ((KK D10).trans (KK D11))) (λb e=>lvt b (so.free (D10.free (D11.free e)))) (S11.mono (m':=m+5) (by lia)) ew11 en11 own wdc n13' (.inr kk) (by lia);rw[ecast]at ap;exact ap
  ·have kk:=xT (Bool.eq_false_iff.mpr c);exact⟨ow,on,n,v7,v12,rfl,kt,lvt,St.mono (by lia),ewt,ent,λz=>own9 (z.resolve_right kk),λz=>no9 (λy=>z (.inl y)),l1,l2,n13,wd9,z9⟩
 rintro σ10 H10 M10;refine⟨QX st hd bx lf hs bs d k w wa na H (m+6) (l-1) True,?_,?_⟩
 ·obtain⟨ow,on,n,v7,v12,rfl,k9,lv9,S9,ew9,en9,own9,no9,l1,l2,n13,wd9,z9⟩:=M10;refine⟨_,rfl,rfl,_,rfl,kL (λc=>?_) (λc=>?_)⟩
  ·have kk:=vt c;obtain⟨rfl,rfl,en⟩:=no9 (by lia);obtain⟨vs,ev,pv⟩:=S9.hds;have hl:=Paired.len pv;have h0:0<hs.length:=List.length_pos_iff.mpr hg.ne;have h16:=hg.few;refine⟨_,rfl,_,rfl,hd,_,rfl,.inl (.of ev),st,_,m+5,rfl,by lia,by lia,by lia,S9.pen,λr H11 r0' r1' D11=>?_⟩;have S11:=S9.penned D11;obtain⟨vs',ev',pv'⟩:=S11.hds;have hl':=Paired.len pv';have hr':r.toNat<hs.length:=by lia
   have eh:hs[r.toNat]? =some hs[r.toNat]:=zE hr';generalize hs[r.toNat]=h at eh;have ev2:vs'[r.toNat]? =some vs'[r.toNat]:=zE (by lia);obtain⟨t,b,et,e1,e2⟩:=Paired.get pv' _ _ _ ev2 eh;have av:FO vs' r=some (.ref t):=Du r0' (by rw[ev2,et]);have ew11:H11 wa=some (.lst [.str w]):=D11.keep _ _ nw.w1 ew9;have en11:H11 na=some (.lst [.int k]):=D11.keep _ _ nw.a1 en9;have hok:=hg.all h (zX eh);have own:=KS (bs:=bs) eh;rw[show((r.toNat:Nat):Int)=r by lia]at own;have p4:=hok.p4;have tw:t≠wa:=λz=>by rw[z,ew11]at e1;cases e1
   have tn:t≠na:=λz=>by rw[z,en11]at e1;cases e1
   refine⟨_,rfl,.inl ⟨rfl,_,.of ew11⟩,_,rfl,_,rfl,hd,_,_,_,rfl,rfl,.of ev',av,t,_,_,_,rfl,rfl,.of e1,rfl,wa,_,_,rfl,rfl,ew11,wI (show 1<=1000 by decide),?_⟩;refine⟨_,rfl,.inl ⟨rfl,_,.of (by rw[zV (Ne.symm nw.wn)];exact en11)⟩,_,rfl,na,[.int k],_,rfl,rfl,by rw[zV (Ne.symm nw.wn)];exact en11,wI (show 1<=1000 by decide),?_⟩;refine⟨_,rfl,_,rfl,hd,vs',_,_,rfl,rfl,.of (by rw[zV (Ne.symm nw.a2),zV (Ne.symm nw.w2)];exact ev'),av,t,[.str h.1,.ref b,.int (h.2.2:Int)],_,_,rfl,rfl,.of (by rw[zV tn,zV tw];exact e1),rfl,?_⟩;exact QX.app (d:=d) (C:=True) (v7:=some (.int r)) (v12:=v12) nw (k9.trans (KK D11)) (λb e=>lv9 b (D11.free e)) (S11.mono (m':=m+6) (by lia)) ew11 en11 (by rw[kk];exact own) (Ao hok.nm) (by lia) trivial (by lia)
  ·have kk:=vf c;refine⟨ow,on,n,v7,v12,rfl,k9,lv9,S9.mono (by lia),ew9,en9,λ_=>?_,λz=>absurd trivial z,l1,l2,n13,wd9,z9⟩
   by_cases z:k=2\/k=3\/k=4
   ·exact own9 z
   ·obtain⟨rfl,rfl,en⟩:=no9 z;exact KR ⟨by lia,by lia,by lia,by lia,by lia,kk⟩ (Yc k2' k19 (by lia) kk en)
 rintro σ11 H11 M11;obtain⟨ow,on,n,v7,v12,rfl,k11,lv11,S11,ew11,en11,own11,no11,l1,l2,n13,wd11,z11⟩:=M11;have own:=own11 trivial;have dn:0<n->1<=d/\2<=l:=λhn=>by
  have: ¬(l-1<1\/d=0):=λz=>by
   rcases hkl z with y|y|y
   ·lia
   ·lia
   ·have:=z11 y;lia
  lia
 refine⟨_,rfl,_,rfl,by lia,by lia,AE (λi σ' H'=> ∃(ws:List Str) (zs:List Int) (l':Int) (v13 v14 v15:Option V),σ'=[some (.ref st),some (.ref hd),some (.ref bx),some (.ref lf),some (.int (11-((d+1:Nat):Int))),some (.int k),none,v7,some (.str w),some (.int (n:Int)),some (.ref wa),some (.ref na),v12,v13,v14,v15]/\
  xY [st,lf] H H'/\(∀b,H' b=none->H b=none)/\DH st hd bx lf hs bs H' (m+6+10*(ws.length:Int)) l'/\l'.toNat<=(l-1).toNat/\ws.length+28*l'.toNat<=2*i+28*(l-1).toNat/\zs.length<=2*ws.length/\H' wa=some (.lst ((w::(ow++ws)).map V.str))/\H' na=some (.lst ((k::(on++zs)).map V.int))/\Hc hs bs d i ws zs/\ ∀x∈ws,Et x)
  ⟨[],[],l-1,none,none,none,rfl,k11,lv11,S11.mono (by show m+6<=m+6+10*((0:Nat):Int);lia),zW _,by show 0+_<=_;lia,yU _,by rw[xI];exact ew11,by rw[xI];exact en11,.nil,λx hx=>(nomatch hx)⟩ ?_ ?_⟩
 ·rintro i σ' H' hi ⟨ws,zs,l',v13,v14,v15,rfl,k',lv',S',b1,b2,b3,ew',en',rp,wd'⟩;have hi':i<n:=by lia
  obtain⟨hd1,hl2⟩:=dn (by lia);refine⟨_,rfl,_,rfl,_,rfl,_,rfl,_,rfl,_,_,rfl,rfl,st,hd,bx,lf,hs,bs,m+6+10*(ws.length:Int),l',?_,hd1,by lia,S',hg,hb,by lia,by lia,λp wa2 na2 ws2 zs2 l2 H2 k2 lv2 S2 c1 c2 c3 ep ew2 en2 f1 f2 rd2 wd2=>?_⟩
  ·show[V.ref st,.ref hd,.ref bx,.ref lf,.int (11-((d+1:Nat):Int)+1)]=[V.ref st,.ref hd,.ref bx,.ref lf,.int (11-(d:Int))];rw[show(11-((d+1:Nat):Int)+1)=11-(d:Int)by lia]
  have nin: ∀{b:Addr},b≠st->b≠lf->b∉[st,lf]:=λh1 h2 z=>by
   rcases List.mem_cons.mp z with z|z
   ·exact h1 z
   ·exact h2 (List.mem_singleton.mp z)
  have ewk:=k2 _ _ (nin nw.w1 nw.w3) ew';have enk:=k2 _ _ (nin nw.a1 nw.a3) en';have w2n:wa2≠wa:=λz=>by rw[z,ew']at f1;cases f1
  have w2a:wa2≠na:=λz=>by rw[z,en']at f1;cases f1
  have a2w:na2≠wa:=λz=>by rw[z,ew']at f2;cases f2
  have lnw:((w::(ow++ws)).map V.str).length =1+ow.length+ws.length:=by rw[zD,zK,zB];lia
  have lnz:((k::(on++zs)).map V.int).length =1+on.length+zs.length:=by rw[zD,zK,zB];lia
  refine⟨p,_,rfl,.of ep,rfl,_,_,rfl,_,_,rfl,rfl,?_⟩;refine⟨_,rfl,.inl ⟨rfl,_,.of ewk⟩,_,rfl,wa,wa2,_,_,rfl,rfl,ewk,ew2,?_,?_⟩
  ·rw[lnw,zD];exact kP (by lia)
  have enu:upd H2 wa (.lst ((w::(ow++ws)).map V.str++ws2.map V.str)) na=some (.lst ((k::(on++zs)).map V.int)):=by rw[zV (Ne.symm nw.wn)];exact enk
  have en2u:upd H2 wa (.lst ((w::(ow++ws)).map V.str++ws2.map V.str)) na2=some (.lst (zs2.map V.int)):=by rw[zV a2w];exact en2
  refine⟨_,rfl,.inl ⟨rfl,_,.of enu⟩,_,rfl,na,na2,_,_,rfl,rfl,enu,en2u,?_,?_⟩
  ·rw[lnz,zD];exact kP (by lia)
  have Sx:=(S2.put (ys:=(w::(ow++ws)).map V.str++ws2.map V.str) ewk nw.w1 nw.w2 nw.w3).put (ys:=(k::(on++zs)).map V.int++zs2.map V.int) enu nw.a1 nw.a2 nw.a3;refine⟨ws++ws2,zs++zs2,l2,_,_,_,rfl,λb o nb e=>?_,wX (wX (λb e=>lv' b (lv2 b e)) ewk) enu,Sx.mono (by rw[zB];lia),by lia,by rw[zB];lia,by rw[zB,zB];lia,?_,?_,.snoc rp rd2,λx hx=>?_⟩
  ·rw[zV (zM e nw.f2),zV (zM e nw.f1)];exact k2 b o nb (k' b o nb e)
  ·rw[zV nw.wn,zH];simp
  ·rw[zH];simp
  ·rcases List.mem_append.mp hx with z|z
   ·exact wd' x z
   ·exact wd2 x z
 ·rintro σ' H' ⟨ws,zs,l',v13,v14,v15,rfl,k',lv',S',b1,b2,b3,ew',en',rp,wd'⟩;have nn:((n:Int)).toNat =n:=jG n;rw[nn]at b2 rp;have lw:(w::(ow++ws)).length =1+ow.length+ws.length:=by rw[zK,zB];lia
  have lz:(k::(on++zs)).length =1+on.length+zs.length:=by rw[zK,zB];lia
  have kc:k=2+(((k-2).toNat:Nat):Int):=by lia
  refine⟨_,rfl,_,rfl,sm2,λp hp=>fin H' _ l' (w::(ow++ws)) (k::(on++zs)) wa na k' lv' S' (by rw[lw];lia) (by lia) ?_ (by rw[lw,lz];lia) ew' en' nw.f1 nw.f2 ?_ ?_ p hp⟩
  ·rw[lw]
   by_cases hn:0<n
   ·have:=dn hn;lia
   ·lia
  ·rw[kc]at own ⊢;exact LL hb hw own rp
  ·intro x hx
   rcases List.mem_cons.mp hx with z|z
   ·rw[z];exact Ph (zX hw)
   ·rcases List.mem_append.mp z with z|z
    ·exact wd11 x z
    ·exact wd' x z
def CJ (hs:List IE):List Int:=(hs.map λh=>[(h.2.2:Int),(h.2.1.length:Int)]).flatten
theorem Us (pr:List Pg):EH pr=CJ (pr.map (·.1)):=by
 unfold EH CJ;rw[qQ];rfl
theorem QF (hs:List IE)(h:IE):CJ (hs++[h])=CJ hs++[(h.2.2:Int),(h.2.1.length:Int)]:=by
 unfold CJ;rw[yB,Ek]
 simp
theorem JQ (pr:List Pg)(x:Pg):vT (pr++[x])=vT pr++x.2.2:=by
 unfold vT;rw[yB,Ek]
 simp
theorem Mp (hs:List IE):(CJ hs).length =2*hs.length:=by
 induction hs with
 |nil=>rfl
 |cons h r ih=>
  show([(h.2.2:Int),(h.2.1.length:Int)]++CJ r).length =_;rw[zB,ih];show 2+2*r.length=2*(r.length+1);lia
def zDu (H:Hp)(v:V)(ws:List Str):Prop:= ∃a,v=.ref a/\H a=some (.lst (ws.map V.str))
def Vm (pr:List Pg):List Int:=(pr.length:Int)::(EH pr++vT pr)
structure zBh (H:Hp)(p sh:Addr)(na li:Addr)(pr:List Pg):Prop where
 here:H p=some (.tup [.ref na,.ref sh,.ref li])
 nms: ∃vs,H na=some (.tup vs)/\Paired (Jj H) vs (An pr)
 sheet:H sh=some (.lst ((Vm pr).map V.int))
 lines: ∃vs,H li=some (.lst vs)/\Paired (zDu H) vs (pr.map kG)
structure PrG (pr:List Pg):Prop where
 ok:Zm pr
 few: ∀x∈pr,x.2.1.length<=700
 fewz:(vT pr).length<=100000
inductive Oz (vs:List V) (H:Hp) (Q:VK) (E:XK):Prop
 |mk (st:Addr) (most room m:Int) (h0:vs=[.ref st,.int most,.int room]) (h1:0<most) (h2:most<=16) (h3:0<=room) (h4:room<=24) (h5:BK H st m) (h6:m<=10000) (h7: ∀p sh na li pr H',kB st (m+120000) H H'->zBh H' p sh na li pr->PrG pr->(pr.length:Int)<=most->H sh=none->Q (.ref p) H'):Oz vs H Q E
def LnB (sh li st:Addr)(H:Hp)(v:V)(ws:List Str):Prop:= ∃a,v=.ref a/\H a=some (.lst (ws.map V.str))/\a≠sh/\a≠li/\a≠st
structure PIn (st hd na sh li:Addr)(hs:List IE)(H:Hp)(m:Int)(i:Nat)(pr:List Pg)(lvs:List V)(H':Hp):Prop where
 got:pr.map (·.1)=hs.take i
 pen:kB st m H H'
 hds:YJ H' hd hs
 nms: ∃ws,H' na=some (.tup ws)/\Paired (Jj H') ws (hs.map λh=>(h.1,h.2.1))
 sheet:H' sh=some (.lst (((hs.length:Int)::(CJ hs++vT pr)).map V.int))
 lines:H' li=some (.lst lvs)
 ln:Paired (LnB sh li st H') lvs (pr.map kG)
 ok: ∀x∈pr,WX hs x/\x.2.1.length<=700
 few:(vT pr).length<=2000*i
section
variable {st hd na sh li:Addr}{hs:List IE}{H H' H2:Hp}{m m':Int}{i:Nat}{pr:List Pg}{lvs:List V}
theorem PIn.step (h:PIn st hd na sh li hs H m i pr lvs H')(P:kB st m' H H2)(nd:hd≠st)(ns:sh≠st)(nl:li≠st)(k: ∀(b:Addr) (o:HO),b≠st->H' b=some o->H2 b=some o):PIn st hd na sh li hs H m' i pr lvs H2:=by
 have tp:uV H' H2:=λb xs e=>k b _ (λz=>by obtain⟨ys,ey⟩:=h.pen.pen.is;rw[z,ey]at e;cases e) e;obtain⟨vs,ev,pv⟩:=h.hds;obtain⟨ws,ew,pw⟩:=h.nms;refine⟨h.got,P,⟨vs,k _ _ nd ev,Paired.imp (λv x z=>z.tups tp) pv⟩,⟨ws,tp _ _ ew,Paired.imp (λv x z=>z.tups tp) pw⟩,k _ _ ns h.sheet,k _ _ nl h.lines,Paired.imp (λv x z=>?_) h.ln,h.ok,h.few⟩;obtain⟨a,rfl,ea,n1,n2,n3⟩:=z;exact⟨a,rfl,k _ _ n3 ea,n1,n2,n3⟩
end
theorem VN (T:Ky K mg)(F:uB K "_law_program" "_law_program" CF f fd)(Cb1:uT P w K mg base 3 "_law_heads" ["_law_pen_here","_law_most"] Kd)(Cq:uT P w K mg base 13 "_law_shape" ["_law_pen_here","_law_heads_here","_law_boxes","_law_left","_law_deep"] (FR 10)):
  BT P w K mg base 14 f fd ["_law_pen_here","_law_most","_law_room"] Oz:=by
 refine F.oN jP λcdv A outer s H vs Q E hr h=>?_;obtain⟨st,most,room,m,rfl,o0,o1,q0,q1,D,m0,q⟩:=h;refine⟨_,(zF (yS (i:=3) jP.nd rfl (Or.inl rfl) (yD Cb1 hr rfl (zA (pv 0) (zA (pv 1) zG)) jK))
   (zF (yS (i:=4) jP.nd rfl (Or.inl rfl) (jU Bt rfl T.n_tuple HX (zA (Lo (own:=["_law_name_here","_law_boxes","_law_params"]) (ys:=[]) rfl (Ik (pv 3)) (Ex (sc:=yH CF) rfl (by decide+kernel)) .nil (λ_ _ _ _ _=>(SQ (n:=3) K rfl rfl (xU (xJ (i:=0) (show List.Nodup [("_law_name_here":Str),("_law_boxes":Str),("_law_params":Str)]from(by decide+kernel)) rfl (Or.inl rfl)) (xU (xJ (i:=1) (show List.Nodup [("_law_name_here":Str),("_law_boxes":Str),("_law_params":Str)]from(by decide+kernel)) rfl (Or.inl rfl)) (xU (xJ (i:=2) (show List.Nodup [("_law_name_here":Str),("_law_boxes":Str),("_law_params":Str)]from(by decide+kernel)) rfl (Or.inl rfl)) uL))))) (λ_ _ _ _ _=>OU) (λ_ _ _ _ _=>(jZ (zA (pv 0) (zA (pv 1) zG))))) zG)))
   (zF (yS (i:=5) jP.nd rfl (Or.inl rfl) (xV (zA (xB yX rfl T.n_len kA (zA (pv 3) zG)) zG)))
   (zF (Al xS rfl (Ik (pv 3)) (Bo rfl (xU (xJ (i:=6) jP.nd rfl (Or.inl rfl)) (xU (xJ (i:=7) jP.nd rfl (Or.inl rfl)) (xU (xJ (i:=8) jP.nd rfl (Or.inl rfl)) uL)))) (zL (jJ (qI zU qO qL Gc (pv 5) (zA (xV (zA (pv 8) (zA (xB yX rfl T.n_len kA (zA (pv 7) zG)) zG))) zG)))))
   (zF (yS (i:=9) jP.nd rfl (Or.inl rfl) (xV zG))
   (zF (Al xS rfl (Ik (pv 3)) (Bo rfl (xU (xJ (i:=6) jP.nd rfl (Or.inl rfl)) (xU (xJ (i:=7) jP.nd rfl (Or.inl rfl)) (xU (xJ (i:=8) jP.nd rfl (Or.inl rfl)) uL)))) (zF (BJ (yD Cq hr rfl (zA (pv 0) (zA (pv 3) (zA (pv 7) (zA (xV (zA (pv 2) zG)) (zA zR zG))))) jK) (Bo rfl (xU (xJ (i:=10) jP.nd rfl (Or.inl rfl)) (xU (xJ (i:=11) jP.nd rfl (Or.inl rfl)) uL))))
   (zF (yS (i:=12) jP.nd rfl (Or.inl rfl) (yV wJ (yV wJ (yV wJ (yV wJ (xV (zA jX (zA (pv 6) zG))) (jU CP rfl T.n_list JP (zA (qJ Ln (pv 7) vR (qY (pv 8))) zG))) (xV (zA jX zG))) (jU CP rfl T.n_list JP (zA (qJ Ln (pv 7) (qY (pv 8)) vR) zG))) (xV (zA jX zG))))
   (zF (jJ (qI zU yF yE jO (pv 9) (zA (yV wJ (pv 12) (pv 10)) zG)))
   (zL (jJ (qI zU qO qL Gc (pv 5) (zA (pv 11) zG))))))))
   (zL (yO (jZ (zA (pv 4) (zA (pv 5) (zA (pv 9) zG)))))))))))),?_⟩
 try dsimp only[Cx.nox,Cx.exc,Cx.wish,xX]
 refine⟨_,rfl,_,rfl,st,most,m,rfl,o0,o1,D,m0,λhd hs H1 D1 hr1 hg hmost f1=>?_⟩;obtain⟨vs,ev,pv⟩:=id hr1;have hvl:=Paired.len pv;have h16:=hg.few;have nhs:hd≠st:=Ne.symm (D.ne f1);refine⟨_,rfl,hd,rfl,⟨_,.of ev⟩,λp hp=>?_⟩;have npd:hd≠p:=zM ev hp;refine MA (xs:=vs) (λi σ' H'=> ∃us,H' p=some (.lst us)/\Paired (Jj H') us ((hs.take i).map λh=>(h.1,h.2.1))/\kS H1 H'/\us.length=i/\ ∃x y z,σ'=[x,y,z]) ⟨[],zH,.nil,zN hp _,rfl,_,_,_,rfl⟩ ?_ ?_ ?_
 ·rintro i σ' H' hi ⟨us,_,_,sm,_⟩;exact .of (sm _ _ ev)
 ·rintro i v σ' H' hi hv ⟨us,ep,pu,sm,hlu,x0,y0,z0,rfl⟩;have hi2:i<hs.length:=by lia
  obtain⟨t,b,rfl,et,eb⟩:=Paired.get pv _ _ _ hv (zE hi2);refine⟨t,_,rfl,.of (sm _ _ et),rfl,_,_,rfl,_,_,rfl,_,_,rfl,rfl,?_⟩;refine⟨_,rfl,_,rfl,sm2,λt2 ht2=>?_⟩;have sm2:=zN ht2 (.tup [.str hs[i].1,.ref b]);have np:p≠t2:=zM ep ht2;have tpp: ∀{c:Addr} {xs:List V} {o:HO},upd H' t2 (.tup [.str hs[i].1,.ref b]) c=some (.tup xs)->upd (upd H' t2 (.tup [.str hs[i].1,.ref b])) p o c=some (.tup xs):=fun{c xs o} e=>by
   rw[zV (λz=>by rw[z,zV np,ep]at e;cases e)];exact e
  refine⟨us,by rw[zV np];exact ep,wI (by lia),CW.next hi ⟨us++[.ref t2],zH,?_,?_,?_,_,_,_,rfl⟩⟩
  ·rw[wQ,zE hi2,yB];exact wP (Paired.imp (λv x z=>z.tups λc xs e=>tpp (sm2 _ _ e)) pu) ⟨t2,b,rfl,tpp zH,tpp (sm2 _ _ (sm _ _ eb))⟩
  ·intro c o e;rw[zV (zM e hp)];exact sm2 _ _ (sm _ _ e)
  ·rw[zB];show us.length+1=i+1;lia
 rintro σ' H2 ⟨us,ep,pu,sm2,hlu,_⟩;rw[xG (by lia)]at pu;refine⟨p,_,rfl,.inl ⟨.of ep,λna hna=>?_⟩⟩;have s3:=zN hna (.tup us);have ev3:=s3 _ _ (sm2 _ _ ev);refine⟨_,rfl,hd,_,rfl,.inl (.of ev3),sm1,λsh hsh=>?_⟩;have D4:=D1.trans (D1.pen.more ((sm2.trans s3).trans (zN hsh (.lst [.int (vs.length:Int)]))));have hr4:YJ (upd (upd H2 na (.tup us)) sh (.lst [.int (vs.length:Int)])) hd hs:=⟨vs,(zN hsh _) _ _ ev3,Paired.imp (λv x z=>z.tups λc xs e=>(zN hsh _) _ _ (s3 _ _ (sm2 _ _ e))) pv⟩;have nm4: ∃ws,upd (upd H2 na (.tup us)) sh (.lst [.int (vs.length:Int)]) na=some (.tup ws)/\Paired (Jj (upd (upd H2 na (.tup us)) sh (.lst [.int (vs.length:Int)]))) ws (hs.map λh=>(h.1,h.2.1)):=
  ⟨us,(zN hsh _) _ _ zH,Paired.imp (λv x z=>z.tups λc xs e=>(zN hsh _) _ _ (s3 _ _ e)) pu⟩
 have fsh:H sh=none:=D1.free (sm2.free (s3.free hsh));have nss:sh≠st:=Ne.symm (D.ne fsh);have nsd:sh≠hd:=Ne.symm (zM ev3 hsh);have esh4:upd (upd H2 na (.tup us)) sh (.lst [.int (vs.length:Int)]) sh=some (.lst [.int (vs.length:Int)]):=zH;generalize upd (upd H2 na (.tup us)) sh (.lst [.int (vs.length:Int)])=H4 at *
 clear s3 ev3 sm2 ep hna hsh;obtain⟨vs4,ev4,pv4⟩:=id hr4;have hvl4:=Paired.len pv4;refine⟨_,rfl,hd,rfl,⟨_,.of ev4⟩,JM (xs:=vs4) (λi σ' H'=> ∃v6 v7 v8,σ'=[some (.ref st),some (.int most),some (.int room),some (.ref hd),some (.ref na),some (.ref sh),v6,v7,v8,none,none,none,none]/\(∀(b:Addr) (o:HO),b≠sh->H4 b=some o->H' b=some o)/\H' sh=some (.lst (((hs.length:Int)::CJ (hs.take i)).map V.int))/\ ∀b,H' b=none->H4 b=none)
  ⟨_,_,_,rfl,λ_ _ _ e=>e,by rw[esh4,hvl];rfl,λ_ e=>e⟩ (λi σ' H' hi ⟨_,_,_,_,k',_⟩=>.of (k' _ _ (Ne.symm nsd) ev4)) ?_ ?_⟩
 ·rintro i v σ' H' hv ⟨v6,v7,v8,rfl,k',es',lv'⟩;have hi2:i<hs.length:=by
   have:=(List.getElem?_eq_some_iff.mp hv).1;lia
  obtain⟨t,b,rfl,et,eb⟩:=Paired.get pv4 _ _ _ hv (zE hi2);have tk: ∀{c:Addr} {xs:List V},H4 c=some (.tup xs)->H' c=some (.tup xs):=fun{c xs} e=>k' _ _ (λz=>by rw[z,esh4]at e;cases e) e;refine⟨t,_,rfl,.of (tk et),rfl,_,_,rfl,_,_,rfl,_,_,rfl,rfl,?_⟩;refine⟨_,rfl,.inl ⟨rfl,_,.of es'⟩,_,rfl,_,rfl,b,_,rfl,.inr (.of (tk eb)),sm2,λx hx=>?_⟩;have nx:sh≠x:=zM es' hx;have lb:(((hs[i].2.1.map V.str).length:Nat):Int)=(hs[i].2.1.length:Int):=by rw[zD]
  rw[lb];refine⟨sh,x,_,_,rfl,rfl,by rw[zV nx];exact es',zH,?_,_,_,_,rfl,λc o n e=>?_,?_,λc e=>?_⟩
  ·rw[zD,zK,Mp];have:=Ej i hs;show 2*_+1+2<=sizeLine;exact kP (by lia)
  ·rw[zV n,zV (zM (k' _ _ n e) hx)];exact k' _ _ n e
  ·rw[zH,wQ,zE hi2];show some (HO.lst _)=some (.lst (((hs.length:Int)::CJ (hs.take i++[hs[i]])).map V.int));rw[QF]
   simp
  ·refine lv' c ?_
   by_cases z:c=sh
   ·rw[z,zH]at e;cases e
   ·rw[zV z]at e;exact(zN hx _).free e
 rintro σ' H5 ⟨v6,v7,v8,rfl,k5,es5,lv5⟩;rw[xG (by lia)]at es5;refine⟨sm0,λli hli=>?_⟩;have s6:=zN hli (.lst []);have fli:H li=none:=D4.free (lv5 _ hli);have nls:li≠st:=Ne.symm (D.ne fli);have nlh:sh≠li:=zM es5 hli;have tp5:uV H4 H5:=λc xs e=>k5 _ _ (λz=>by rw[z,esh4]at e;cases e) e;have D5:kB st (m+3000) H H5:=by
  obtain⟨⟨c,sd,t,e,z⟩,kp⟩:=D4;exact⟨⟨c,sd,t,k5 _ _ (Ne.symm nss) e,z⟩,λb o nb e=>k5 _ _ (zM e fsh) (kp b o nb e)⟩
 have P6:PIn st hd na sh li hs H (m+3000) 0 [] [] (upd H5 li (.lst [])):=by
  obtain⟨ws,ew,pw⟩:=nm4;exact⟨rfl,D5.trans (D5.pen.more s6),⟨vs4,s6 _ _ (k5 _ _ (Ne.symm nsd) ev4),Paired.imp (λv x z=>z.tups λc xs e=>s6 _ _ (tp5 _ _ e)) pv4⟩,⟨ws,s6 _ _ (tp5 _ _ ew),Paired.imp (λv x z=>z.tups λc xs e=>s6 _ _ (tp5 _ _ e)) pw⟩,
   by rw[s6 _ _ es5];show some (HO.lst _)=some (.lst (((hs.length:Int)::(CJ hs++[])).map V.int));rw[xI],zH,.nil,(λx hx=>(nomatch hx)),yU _⟩
 have ev6:=s6 _ _ (k5 _ _ (Ne.symm nsd) ev4);have nld:li≠hd:=λz=>by rw[z,k5 _ _ (Ne.symm nsd) ev4]at hli;cases hli
 generalize upd H5 li (.lst [])=H6 at *
 clear s6 tp5 D5 lv5 es5 k5;refine⟨_,rfl,hd,rfl,⟨_,.of ev6⟩,JM (xs:=vs4) (λi σ' H'=> ∃pr lvs v6 v7 v8 v10 v11 v12,σ'=[some (.ref st),some (.int most),some (.int room),some (.ref hd),some (.ref na),some (.ref sh),v6,v7,v8,some (.ref li),v10,v11,v12]/\PIn st hd na sh li hs H (m+3000+7000*i) i pr lvs H'/\H' hd=some (.lst vs4))
  ⟨[],[],_,_,_,_,_,_,rfl,P6.step (P6.pen.mono (by lia)) nhs nss nls (λ_ _ _ e=>e),ev6⟩ (λi σ' H' hi ⟨_,_,_,_,_,_,_,_,_,_,e⟩=>.of e) ?_ ?_⟩
 ·rintro i v σ' H7 hv ⟨pr,lvs,v6,v7,v8,v10,v11,v12,rfl,P7,ev7⟩;have hi2:i<hs.length:=by
   have:=(List.getElem?_eq_some_iff.mp hv).1;lia
  have eh:hs[i]? =some hs[i]:=zE hi2;have hok:=hg.all hs[i] (Gv hi2);obtain⟨vs7,ev7',pv7⟩:=P7.hds;rw[ev7]at ev7';cases ev7';obtain⟨t,b,rfl,et,eb⟩:=Paired.get pv7 _ _ _ hv eh;generalize hs[i]=h at *
  refine⟨t,_,rfl,.of et,rfl,_,_,rfl,_,_,rfl,_,_,rfl,rfl,?_⟩;refine⟨_,rfl,_,rfl,_,rfl,_,rfl,sm1,λlf hlf=>?_⟩;have s8:=zN hlf (.lst [.int room]);have P8:=P7.step (P7.pen.trans (P7.pen.pen.more s8)) nhs nss nls (λb o _ e=>s8 _ _ e);have nfs:lf≠st:=Ne.symm (P7.pen.pen.ne hlf);have nfd:lf≠hd:=Ne.symm (zM ev7 hlf);have S8:DH st hd b lf hs h.2.1 (upd H7 lf (.lst [.int room])) (m+3000+7000*i) room:=⟨P8.pen.pen,P8.hds,s8 _ _ eb,zH,nfs,nfd,nhs⟩;refine⟨st,hd,b,lf,hs,h.2.1,m+3000+7000*i,room,rfl,by decide,by decide,S8,hg,hok.bx,by lia,by lia,λp2 wa na2 ws zs l' H9 k9 lv9 S9 c1 c2 c3 ep2 ew en f1 f2 rd wd=>?_⟩;have ws7:ws.length<=674:=by lia
  have kb: ∀(c:Addr) (o:HO),c≠st->H7 c=some o->H9 c=some o:=λc o n e=>k9 c o (λz=>by
   rcases List.mem_cons.mp z with z|z
   ·exact n z
   ·exact zM e hlf (List.mem_singleton.mp z)) (s8 _ _ e)
  have P9:PIn st hd na sh li hs H (m+3000+7000*((i+1:Nat):Int)) i pr lvs H9:=P7.step ⟨S9.pen.mono (by lia),λc o n e=>kb c o n (P7.pen.keep c o n e)⟩ nhs nss nls kb;have lv79: ∀c,H9 c=none->H7 c=none:=λc e=>s8.free (lv9 c e);have eb9:H9 b=some (.tup (h.2.1.map V.str)):=S9.box;have b12:=hok.bx.few;have pb:=hok.pb;refine⟨p2,_,rfl,.of ep2,rfl,_,_,rfl,_,_,rfl,rfl,?_⟩;refine⟨_,rfl,sm2,λa1 h1=>?_⟩;have g1:=zN h1 (.lst [V.str "fun",V.str h.1]);refine⟨_,rfl,_,rfl,_,rfl,b,_,rfl,g1 _ _ eb9,λr1 G1 x1 y1=>⟨r1,_,rfl,.inr (.of y1),λa2 h2=>?_⟩⟩;rw[Oe];have dl:((h.2.1.map V.str).drop h.2.2).length<=12:=by rw[xO,zD];lia
  have p4:=hok.p4;have n2:=zN h2 (.lst ((h.2.1.map V.str).take h.2.2));refine⟨a1,a2,_,_,rfl,rfl,n2 _ _ (x1 _ _ zH),zH,small (show 2+((h.2.1.map V.str).take h.2.2).length<=1000 by rw[yJ,zD];lia),λa3 h3=>?_⟩;have n3:=zN h3 (.lst ([V.str "fun",V.str h.1]++(h.2.1.map V.str).take h.2.2));refine⟨sm1,λa4 h4=>?_⟩;have n4:=zN h4 (.lst [V.str "with"]);refine⟨a3,a4,_,_,rfl,rfl,n4 _ _ zH,zH,small (show([V.str "fun",V.str h.1]++(h.2.1.map V.str).take h.2.2).length +1<=1000 by rw[zB,yJ,zD];show 2+_+1<=_;lia),λa5 h5=>?_⟩;have n5:=zN h5 (.lst ([V.str "fun",V.str h.1]++(h.2.1.map V.str).take h.2.2++[V.str "with"]));have z5:=g1.trans (x1.trans (n2.trans (n3.trans (n4.trans n5))));refine⟨_,rfl,_,rfl,_,rfl,b,_,rfl,z5 _ _ eb9,λr2 G2 x2 y2=>⟨r2,_,rfl,.inr (.of y2),λa6 h6=>?_⟩⟩;rw[Of];have n6:=zN h6 (.lst ((h.2.1.map V.str).drop h.2.2));refine⟨a5,a6,_,_,rfl,rfl,n6 _ _ (x2 _ _ zH),zH,small (show([V.str "fun",V.str h.1]++(h.2.1.map V.str).take h.2.2++[V.str "with"]).length +((h.2.1.map V.str).drop h.2.2).length<=1000 by rw[zB,zB,yJ,zD];show 2+_+1+_<=_;lia),λa7 h7=>?_⟩;have n7:=zN h7 (.lst ([V.str "fun",V.str h.1]++(h.2.1.map V.str).take h.2.2++[V.str "with"]++(h.2.1.map V.str).drop h.2.2));refine⟨sm1,λa8 h8=>?_⟩;have n8:=zN h8 (.lst [V.str "is"]);have l7:([V.str "fun",V.str h.1]++(h.2.1.map V.str).take h.2.2++[V.str "with"]++(h.2.1.map V.str).drop h.2.2).length<=27:=by
   rw[zB,zB,zB,yJ,zD];show 2+_+1+_<=_;lia
  refine⟨a7,a8,_,_,rfl,rfl,n8 _ _ zH,zH,small (yT (Nat.add_le_add_right l7 1) (by decide)),λa9 h9=>?_⟩;have n9:=zN h9 (.lst ([V.str "fun",V.str h.1]++(h.2.1.map V.str).take h.2.2++[V.str "with"]++(h.2.1.map V.str).drop h.2.2++[V.str "is"]));have z9:=z5.trans (x2.trans (n6.trans (n7.trans (n8.trans n9))));refine⟨_,rfl,.inl ⟨rfl,_,.of (z9 _ _ P9.lines)⟩,_,rfl,_,rfl,a9,wa,_,_,rfl,rfl,zH,z9 _ _ ew,kP (by rw[zB,zD];show _+1+_<=_;lia),λa10 h10=>?_⟩;have n10:=zN h10 (.lst ([V.str "fun",V.str h.1]++(h.2.1.map V.str).take h.2.2++[V.str "with"]++(h.2.1.map V.str).drop h.2.2++[V.str "is"]++ws.map V.str));have z10:=z9.trans n10;have P10:=P9.step (P9.pen.trans (P9.pen.pen.more z10)) nhs nss nls (λc o _ e=>z10 _ _ e);have lln:=Paired.len P10.ln;have lpr:pr.length=i:=by
   have:=jB List.length P7.got;rw[zD,yJ]at this;lia
  rw[zD]at lln;refine⟨li,_,_,rfl,rfl,P10.lines,wI (by lia),?_⟩;have li9:=P7.lines;have a2l:na2≠li:=λz=>by rw[z,s8 _ _ li9]at f2;cases f2
  have a2s:na2≠sh:=λz=>by rw[z,s8 _ _ P7.sheet]at f2;cases f2
  have zl:zs.length<=1348:=by lia
  have lbs:=P7.few;have ehd:=P10.hds;obtain⟨vs10,ev10,pv10⟩:=P10.hds;obtain⟨ws10,ew10,pw10⟩:=P10.nms;have en10:=z10 _ _ en;have ea10:=(show ∀{G:Hp} {o:HO},upd G a10 o a10=some o from zH);have nal:a10≠li:=Ne.symm (zM (z9 _ _ P9.lines) h10);have nas:a10≠sh:=Ne.symm (zM (z9 _ _ P9.sheet) h10);have nat:a10≠st:=by
   obtain⟨xs,ex⟩:=P9.pen.pen.is;exact Ne.symm (zM (z9 _ _ ex) h10)
  have ealn:upd (upd (upd (upd (upd G2 a6 (.lst ((h.2.1.map V.str).drop h.2.2))) a7 (.lst ([V.str "fun",V.str h.1]++(h.2.1.map V.str).take h.2.2++[V.str "with"]++(h.2.1.map V.str).drop h.2.2))) a8 (.lst [V.str "is"])) a9 (.lst ([V.str "fun",V.str h.1]++(h.2.1.map V.str).take h.2.2++[V.str "with"]++(h.2.1.map V.str).drop h.2.2++[V.str "is"]))) a10 (.lst ([V.str "fun",V.str h.1]++(h.2.1.map V.str).take h.2.2++[V.str "with"]++(h.2.1.map V.str).drop h.2.2++[V.str "is"]++ws.map V.str)) a10=some (.lst ((kG (h,ws,zs)).map V.str)):=by
   rw[zH];unfold kG
   simp
  generalize upd (upd (upd (upd (upd G2 a6 (.lst ((h.2.1.map V.str).drop h.2.2))) a7 (.lst ([V.str "fun",V.str h.1]++(h.2.1.map V.str).take h.2.2++[V.str "with"]++(h.2.1.map V.str).drop h.2.2))) a8 (.lst [V.str "is"])) a9 (.lst ([V.str "fun",V.str h.1]++(h.2.1.map V.str).take h.2.2++[V.str "with"]++(h.2.1.map V.str).drop h.2.2++[V.str "is"]))) a10 (.lst ([V.str "fun",V.str h.1]++(h.2.1.map V.str).take h.2.2++[V.str "with"]++(h.2.1.map V.str).drop h.2.2++[V.str "is"]++ws.map V.str))=GE at *
  have esl:upd GE li (.lst (lvs++[.ref a10])) sh=some (.lst (((hs.length:Int)::(CJ hs++vT pr)).map V.int)):=by rw[zV nlh];exact P10.sheet
  refine⟨_,rfl,.inl ⟨rfl,_,.of esl⟩,_,rfl,sh,na2,_,_,rfl,rfl,esl,by rw[zV a2l];exact en10,?_,?_⟩
  ·rw[zD,zD,zK,zB,Mp];exact kP (by lia)
  have kF: ∀{c:Addr} {o:HO},c≠li->c≠sh->GE c=some o->upd (upd GE li (.lst (lvs++[.ref a10]))) sh (.lst (((hs.length:Int)::(CJ hs++vT pr)).map V.int++zs.map V.int)) c=some o:=λn1 n2 e=>by rw[zV n2,zV n1];exact e
  have tF: ∀{c:Addr} {xs:List V},GE c=some (.tup xs)->upd (upd GE li (.lst (lvs++[.ref a10]))) sh (.lst (((hs.length:Int)::(CJ hs++vT pr)).map V.int++zs.map V.int)) c=some (.tup xs):=fun{c xs} e=>kF (λz=>by rw[z,P10.lines]at e;cases e) (λz=>by rw[z,P10.sheet]at e;cases e) e;have evF:GE hd=some (.lst vs4):=z10 _ _ (kb _ _ nhs ev7);refine⟨pr++[(h,ws,zs)],lvs++[.ref a10],_,_,_,_,_,_,rfl,⟨?_,?_,?_,?_,?_,?_,?_,?_,?_⟩,?_⟩
  ·rw[yB,P7.got,wQ,eh];rfl
  ·exact⟨(P10.pen.pen.put nls).put nss,λc o n e=>by rw[zV (zM e fsh),zV (zM e fli)];exact P10.pen.keep c o n e⟩
  ·exact⟨vs10,kF (Ne.symm nld) (Ne.symm nsd) ev10,Paired.imp (λv x z=>z.tups λc xs e=>tF e) pv10⟩
  ·exact⟨ws10,tF ew10,Paired.imp (λv x z=>z.tups λc xs e=>tF e) pw10⟩
  ·rw[zH,JQ];simp
  ·rw[zV (Ne.symm nlh)];exact zH
  ·rw[yB];refine wP (Paired.imp (λv x z=>?_) P10.ln) ⟨a10,rfl,kF nal nas ealn,nas,nal,nat⟩;obtain⟨c,rfl,ec,y1,y2,y3⟩:=z;exact⟨c,rfl,kF y2 y1 ec,y1,y2,y3⟩
  ·intro x hx
   rcases List.mem_append.mp hx with z|z
   ·exact P7.ok x z
   ·rw[List.mem_singleton.mp z];exact⟨⟨hok,rd,wd⟩,by show ws.length<=700;lia⟩
  ·rw[JQ,zB];show _+zs.length<=_;lia
  ·exact kF (Ne.symm nld) (Ne.symm nsd) evF
 ·rintro σ' H7 ⟨pr,lvs,v6,v7,v8,v10,v11,v12,rfl,P7,ev7⟩;have got:=P7.got;rw[xG (by lia)]at got;have lpr:pr.length=hs.length:=by rw[<-got,zD]
  refine⟨_,rfl,_,rfl,_,rfl,sm3,λp3 hp3=>?_⟩;have s9:=zN hp3 (.tup [.ref na,.ref sh,.ref li]);obtain⟨ws10,ew10,pw10⟩:=P7.nms;have few:=P7.few;refine q p3 sh na li pr _ ((P7.pen.trans (P7.pen.pen.more s9)).mono (by lia)) ⟨zH,⟨ws10,s9 _ _ ew10,?_⟩,?_,⟨lvs,s9 _ _ P7.lines,Paired.imp (λv x z=>?_) P7.ln⟩⟩ ⟨⟨λx hx=>?_,?_,?_,by lia,λx hx=>?_⟩,λx hx=>(P7.ok x hx).2,by lia⟩ (by lia) fsh
  ·have e:An pr=hs.map λh=>(h.1,h.2.1):=by
    unfold An;rw[<-got,qQ];rfl
   rw[e];exact Paired.imp (λv x z=>z.tups λc xs e=>s9 _ _ e) pw10
  ·rw[s9 _ _ P7.sheet];unfold Vm;rw[Us,got,lpr]
  ·obtain⟨c,rfl,ec,_⟩:=z;exact⟨c,rfl,s9 _ _ ec⟩
  ·rw[got];exact(P7.ok x hx).1
  ·have:(pr.map λx=>x.1.1)=hs.map (·.1):=by rw[<-got,qQ];rfl
   rw[this];exact hg.nd
  ·intro z;rw[z]at lpr;exact hg.ne (List.length_eq_zero_iff.mp lpr.symm)
  ·refine hg.first x.1 ?_;rw[<-got,zS,hx];rfl
theorem VV (T:JU K mg aP CL CN)(F:uB K "__init__" "NoSheet.__init__" BH f fd):BT P w K mg base 1 f fd ["self","place","word"] (Fg CN):=by
 refine F.oN IA λcdv A outer s H vs Q E hr h=>?_;obtain⟨x,y,z,rfl,hx,q⟩:=h;refine⟨_,(zF (OV (pv 0) (pv 1))
   (zL (OV (pv 0) (pv 2)))),?_⟩
 try dsimp only[Cx.nox,Cx.exc,Cx.wish,xX]
 refine⟨_,rfl,_,rfl,x,CN,none,rfl,hx,T.exc,T.xplace,.inl ⟨rfl,λd hd=>?_⟩⟩;have nd:d≠x:=λe=>by rw[e,hx]at hd;cases hd
 refine⟨_,rfl,_,rfl,x,CN,some d,rfl,zH,T.exc,T.xword,.inr ⟨d,[("place",y)],rfl,by rw[zV nd];exact zH,(show 1<1000 by decide),?_⟩⟩;refine q d _ nd hd (λb o nb e=>?_) ?_ zH
 ·rw[zV (zM e hd),zV nb,zV (zM e hd)];exact e
 ·rw[zV (Ne.symm nd)];exact zH
theorem VX (T:JU K mg aP CL CN)(F:uB K "__init__" "Look.__init__" DS f fd):BT P w K mg base 1 f fd ["self","numbers"] (OJ CL):=by
 refine F.oN Kf λcdv A outer s H vs Q E hr h=>?_;obtain⟨x,dx,a,rfl,hx,q⟩:=h;refine⟨_,(zF (GO (pv 0) (pv 1) rfl)
   (zL (GO (pv 0) zR rfl))),?_⟩
 try dsimp only[Cx.nox,Cx.exc,Cx.wish,xX]
 refine⟨_,rfl,_,rfl,x,CL,dx,_,rfl,hx,T.look,T.lnum,(show 0<1000 by decide),?_⟩;refine⟨_,rfl,x,CL,dx,_,rfl,zH,T.look,T.lplace,(show 1<1000 by decide),?_⟩;refine q _ (λb o nb e=>?_) zH;rw[zV nb,zV nb];exact e
theorem VL (T:JU K mg aP CL CN)(F:uB K "is_whole" "is_whole" IT f fd):BT P w K mg base 1 f fd ["thing"] Ox:=by
 refine F.oN Qd λcdv A outer s H vs Q E hr h=>?_;obtain⟨i,rfl,q⟩:=h;refine⟨_,(zL (yO (OY (xB HW rfl T.n_isinstance vG (zA (pv 0) (zA (Il (v:=.ty "int") rfl T.n_int Dt rfl) zG))) (OW (VB (xB HW rfl T.n_isinstance vG (zA (pv 0) (zA (Il (v:=.ty "bool") rfl T.n_bool To rfl) zG)))))))),?_⟩
 try dsimp only[Cx.nox,Cx.exc,Cx.wish,xX]
 refine⟨_,rfl,.inl ⟨_,_,_,true,rfl,.int i,T.kint,_,rfl,kK ?_⟩⟩;exact⟨_,rfl,.inl ⟨_,_,_,false,rfl,.int i,T.kbool,_,rfl,q⟩⟩
theorem zCy (T:JU K mg aP CL CN)(F:uB K "take" "Look.take" HG f fd)(Cb9:uT P w K mg base 1 "is_whole" ["thing"] Ox)(Ce:Go P w K mg base 1 "NoSheet" CN ["self","place","word"] (Fg CN)):
  BT P w K mg base 3 f fd ["self"] (Xp CL CN):=by
 refine F.oX Jx λcdv A outer s H vs Q E hr h=>?_;obtain⟨lk,dx,a,p,ns,rfl,⟨hl,ha⟩,t1,t2⟩:=h;refine⟨_,(zF (xP (yI SU (kD (pv 0) rfl) (xB yX rfl T.n_len kA (zA (kD (pv 0) rfl) zG)) (yP _)) (zL (wF Ce hr rfl (zA (kD (pv 0) rfl) (zA jX zG)))) yM)
   (zF (yS (i:=1) Jx.nd rfl (Or.inl rfl) (jI jA (kD (pv 0) rfl) (kD (pv 0) rfl) (λ_ _=>rfl)))
   (zF (xP (AO (uY (yD Cb9 hr rfl (zA (pv 1) zG) kW))) (zL (wF Ce hr rfl (zA (kD (pv 0) rfl) (zA jX zG)))) yM)
   (zF (BS (pv 0) zR HP)
   (zL (yO (pv 1))))))),?_⟩
 try dsimp only[Cx.nox,Cx.exc,Cx.wish,xX]
 refine⟨_,rfl,lk,CL,dx,_,_,rfl,hl,T.look,T.lplace,rfl,_,rfl,lk,CL,dx,_,_,rfl,hl,T.look,T.lnum,rfl,a,_,rfl,.inl (.of ha),_,_,rfl,rfl,_,rfl,?_⟩;have hz:(ns.map V.int).length =ns.length:=zD ..;refine kL (λc=>?_) (λc=>?_)
 ·have c':=zZ c;have e:IG ns p=.error (p,"end"):=by
   unfold IG;rw[jC (by lia)]
  exact⟨_,rfl,lk,CL,dx,_,_,rfl,hl,T.look,T.lplace,rfl,sm2,LM (t2 _ _ e) (kX.refl _ _)⟩
 ·have hp:p<ns.length:=by
   refine Nat.lt_of_not_le λz=>c (zY ?_);lia
  have ep:ns[p]? =some ns[p]:=zE hp;generalize ns[p]=n at ep;have at_:FO (ns.map V.int) (p:Int)=some (.int n):=vB (by rw[zS,ep];rfl);have e:IG ns p=.ok n:=by unfold IG;rw[ep]
  refine⟨_,rfl,lk,CL,dx,_,_,rfl,hl,T.look,T.lnum,rfl,_,rfl,lk,CL,dx,_,_,rfl,hl,T.look,T.lplace,rfl,a,_,_,_,rfl,rfl,.of ha,at_,?_⟩;refine⟨_,rfl,n,rfl,_,rfl,qG ?_⟩;refine⟨_,rfl,lk,CL,dx,_,_,rfl,hl,T.look,T.lplace,rfl,_,_,rfl,rfl,dx,_,hl,(show 2<1000 by decide),?_⟩;exact⟨_,rfl,t1 n e⟩
theorem TX (T:JU K mg aP CL CN)(F:uB K "take_within" "Look.take_within" BI f fd)(Mtake:MW P w K mg base (Hl P w) 3 CL "take" ["self"] (Xp CL CN))(Ce:Go P w K mg base 1 "NoSheet" CN ["self","place","word"] (Fg CN)):
  BT P w K mg base 4 f fd ["self","least","most"] (FQ CL CN):=by
 refine F.oX Bn λcdv A outer s H vs Q E hr h=>?_;obtain⟨lk,dx,a,p,ns,lo,hi,rfl,⟨hl,ha⟩,t1,t2⟩:=h;refine⟨_,(zF (yS (i:=3) Bn.nd rfl (Or.inl rfl) (kD (pv 0) rfl))
   (zF (yS (i:=4) Bn.nd rfl (Or.inl rfl) (Nn (pv 0) Mtake hr kW))
   (zF (xP (PW.pt (uX (yI EF (pv 4) (pv 1) (yP _)) (vK (yI Hh (pv 4) (pv 2) (yP _))))) (zL (wF Ce hr rfl (zA (pv 3) (zA jX zG)))) yM)
   (zL (yO (pv 4)))))),?_⟩
 try dsimp only[Cx.nox,Cx.exc,Cx.wish,xX]
 refine⟨_,rfl,lk,CL,dx,_,_,rfl,hl,T.look,T.lplace,rfl,?_⟩;refine⟨_,rfl,lk,dx,_,rfl,hl,rfl,lk,dx,a,p,ns,rfl,⟨hl,ha⟩,λn e=>?_,λpl wd e=>?_⟩
 ·have ep:ns[p]? =some n:=by
   unfold IG at e;cases q:ns[p]? with
   |none=>rw[q]at e;cases e
   |some m=>rw[q]at e;cases e;rfl
  have bad:n<lo\/hi<n->qX ns p lo hi=.error (p,"range"):=λc=>by unfold qX;rw[ep];exact zT c
  have k1:kX lk H (upd H lk (AV CL dx a (p+1))):=kX.upd;refine⟨_,rfl,_,rfl,_,_,rfl,rfl,_,rfl,kL (λc=>?_) (λc=>?_)⟩
  ·exact kK ⟨_,rfl,sm2,LM (t2 _ _ (bad (.inl (zZ c)))) k1⟩
  ·refine⟨_,rfl,_,rfl,_,_,rfl,rfl,_,rfl,kL (λc2=>?_) (λc2=>?_)⟩
   ·exact⟨_,rfl,sm2,LM (t2 _ _ (bad (.inr (zZ c2)))) k1⟩
   ·refine⟨_,rfl,t1 n ?_⟩;unfold qX;rw[ep];exact zI (λz=>z.elim (λz=>c (zY z)) λz=>c2 (zY z))
 ·refine t2 pl wd ?_;unfold IG at e;unfold qX;cases q:ns[p]? with
  |none=>rw[q]at e;exact e
  |some m=>rw[q]at e;cases e
def Xc (lk hd dx a:Addr)(H:Hp)(ns:List Int)(n:Int)(i:Nat)(σ':St)(H':Hp):Prop:= ∃(done:DO) (rs:List V) (most:Int) (v3 v4:Option V),σ'=[some (.ref lk),some (.ref hd),some (.int most),v3,v4]/\most<=4/\done.length=i/\kX lk H H'/\
   H' lk=some (AV CL dx a (1+2*i))/\H' hd=some (.lst rs)/\Paired (Kz H') rs done/\Bp ns n.toNat 0 1=YZ done (Bp ns (n.toNat-i) most (1+2*i))
theorem VZ (T:JU K mg aP CL CN)(F:uB K "take_heads" "take_heads" GG f fd)(Mtake_within:MW P w K mg base (Hl P w) 4 CL "take_within" ["self","least","most"] (FQ CL CN)):
  BT P w K mg base 5 f fd ["look"] (OK CL CN):=by
 refine F.oX AC λcdv A outer s H vs Q E hr h=>?_;obtain⟨lk,dx,a,ns,rfl,⟨hl,ha⟩,t1,t2⟩:=h;refine⟨_,(zF (yS (i:=1) AC.nd rfl (Or.inl rfl) (xV zG))
   (zF (yS (i:=2) AC.nd rfl (Or.inl rfl) zR)
   (zF (Al (Ip rfl rfl) rfl (uZ rfl T.n_range (zA (DC (pv 0) Mtake_within hr (zA zR (zA (xL rfl T.m_MOST_FUNCTIONS) zG)) kW) zG)) (xJ (i:=3) AC.nd rfl (Or.inl rfl)) (zF (yS (i:=4) AC.nd rfl (Or.inl rfl) (DC (pv 0) Mtake_within hr (zA zR (zA (pv 2) zG)) kW))
   (zF (jJ (qI zU yF yE jO (pv 1) (zA (jZ (zA (pv 4) (zA (DC (pv 0) Mtake_within hr (zA (pv 4) (zA (xL rfl T.m_MOST_BOXES) zG)) kW) zG))) zG)))
   (zL (yS (i:=2) AC.nd rfl (Or.inl rfl) (xL rfl T.m_MOST_PARAMS))))))
   (zL (yO (pv 1)))))),?_⟩
 try dsimp only[Cx.nox,Cx.exc,Cx.wish,xX]
 refine⟨sm0,λhd hhd=>?_⟩;have nlh:lk≠hd:=zM hl hhd;have k1:kX lk H (upd H hd (.lst [])):=kX.new _ hhd;have l1:Looks CL (upd H hd (.lst [])) lk dx a 0 ns:=Looks.go ⟨hl,ha⟩ k1 (by rw[zV nlh];exact hl);refine⟨_,rfl,lk,dx,_,rfl,l1.1,rfl,lk,dx,a,0,ns,1,16,rfl,l1,λn e=>?_,λp wd e=>?_⟩
 ·obtain⟨_,n1,n16⟩:=BE e;have eh:Bd ns=Bp ns n.toNat 0 1:=by unfold Bd;rw[e]
  refine⟨n,rfl,by lia,by lia,AE (lo:=0) (n:=n.toNat) (Xc (CL:=CL) lk hd dx a H ns n) ⟨[],[],0,_,_,rfl,by decide,rfl,k1.trans kX.upd,zH,?_,.nil,(Up _).symm⟩ ?_ ?_⟩
  ·rw[zV (Ne.symm nlh)];exact zH
  ·rintro i σ' H' hi ⟨done,rs,most,v3,v4,rfl,hm,hn,kp,el,eh',pr,eq⟩;obtain⟨m,em⟩: ∃m,n.toNat-i=m+1:=⟨n.toNat-i-1,by lia⟩;have L1:Looks CL H' lk dx a (1+2*i) ns:=Looks.go ⟨hl,ha⟩ kp el;refine⟨_,rfl,lk,dx,_,rfl,el,rfl,_,rfl,lk,dx,a,_,ns,0,most,rfl,L1,λx ex=>?_,λp wd ex=>?_⟩
   ·have L2':Looks CL (upd H' lk (AV CL dx a (1+2*i+1))) lk dx a (1+2*i+1) ns:=L1.go kX.upd zH;have eh2:(upd H' lk (AV CL dx a (1+2*i+1))) hd=some (.lst rs):=by rw[zV (Ne.symm nlh)];exact eh'
    refine⟨_,rfl,.inl ⟨rfl,_,.of eh2⟩,_,rfl,_,rfl,lk,dx,_,rfl,zH,rfl,_,rfl,lk,dx,a,_,ns,x,12,rfl,L2',λy ey=>?_,λp wd ey=>?_⟩
    ·refine⟨sm2,λq hq=>?_⟩;generalize hH2:upd (upd H' lk (AV CL dx a (1+2*i+1))) lk (AV CL dx a (1+2*i+1+1))=H2 at hq;have k2:kX lk H' H2:=by rw[<-hH2];exact kX.trans kX.upd kX.upd
     have e2:H2 lk=some (AV CL dx a (1+2*i+1+1)):=by rw[<-hH2];exact zH
     have h2:H2 hd=some (.lst rs):=k2 hd _ (Ne.symm nlh) eh';have nq:hd≠q:=zM h2 hq;have ql:lk≠q:=zM e2 hq;have h3:upd H2 q (.tup [.int x,.int y]) hd=some (.lst rs):=by rw[zV nq];exact h2
     have len:rs.length<=16:=by have:=Paired.len pr;lia
     refine⟨hd,rs,_,rfl,rfl,h3,wI (by lia),?_⟩;have tp:uV H' (upd (upd H2 q (.tup [.int x,.int y])) hd (.lst (rs++[.ref q]))):=.trans (.keep el k2) (.trans (.new hq) (.upd h3));refine⟨done++[(x,y)],_,4,_,_,rfl,by decide,by simp[hn],(kp.trans (k2.trans (kX.new _ hq))).fresh hhd,?_,zH,wP (Paired.imp (λ_ _ z=>z.tups tp) pr) ⟨q,rfl,?_⟩,?_⟩
     ·rw[zV nlh,zV ql];exact e2
     ·rw[zV (Ne.symm nq)];exact zH
     ·rw[eq,em,show n.toNat-(i+1)=m by lia,show 1+2*(i+1)=1+2*i+2 by lia]
      conv=>lhs;unfold Bp
      rw[ex];simp only;rw[ey];simp only;cases Bp ns m 4 (1+2*i+2)with
      |error b=>rfl
      |ok r=>show Except.ok _=Except.ok _;rw[yW];rfl
    ·refine(t2 p wd ?_).keep (kp.trans kX.upd);rw[eh,eq,em];unfold Bp;rw[ex];simp only;rw[ey];rfl
   ·refine(t2 p wd ?_).keep kp;rw[eh,eq,em];unfold Bp;rw[ex];rfl
  ·rintro σ' H' ⟨done,rs,most,v3,v4,rfl,hm,hn,kp,el,eh',pr,eq⟩;refine⟨_,rfl,t1 done ?_ hd H' kp (by rw[hn];exact el) ⟨rs,eh',pr⟩⟩;rw[eh,eq,Av];show Except.ok (done++[])=_;rw[xI]
 ·exact(t2 p wd (by unfold Bd;rw[e])).keep k1
theorem vt {i j:Int}(c:decide (V.int i=V.int j)=true):i=j:=by
 have:=zZ c;injection this
theorem vf {i j:Int}(c: ¬decide (V.int i=V.int j)=true):i≠j:=λz=>c (zY (jB V.int z))
theorem zAb (T:JU K mg aP CL CN)(F:uB K "take_own" "take_own" CB f fd)(Mtake:MW P w K mg base (Hl P w) 3 CL "take" ["self"] (Xp CL CN))(Mtake_within:MW P w K mg base (Hl P w) 4 CL "take_within" ["self","least","most"] (FQ CL CN)):
  BT P w K mg base 5 f fd ["look","kind","heads","boxes"] (SE CL CN):=by
 refine F.oX IN λcdv A outer s H vs Q E hr h=>?_;obtain⟨lk,dx,a,p,ns,hd,hs,boxes,k,rfl,L1,hh,t1,t2⟩:=h;refine⟨_,(zF (xP (yI jY (pv 1) (xL rfl T.m_NUMBER) (yP _)) (zL (yO (jZ (zA (Nn (pv 0) Mtake hr kW) zG)))) yM)
   (zF (xP (PW.pt (uX (yI jY (pv 1) (xL rfl T.m_GET) (yP _)) (vK (yI jY (pv 1) (xL rfl T.m_SET) (yP _))))) (zL (yO (jZ (zA (DC (pv 0) Mtake_within hr (zA zR (zA (yV wU (pv 3) zR) zG)) kW) zG)))) yM)
   (zF (xP (yI jY (pv 1) (xL rfl T.m_ALL) (yP _)) (zL (yO (jZ (zA (DC (pv 0) Mtake_within hr (zA (xL rfl T.m_LEAST_ALL) (zA (xL rfl T.m_MOST_MANY) zG)) kW) zG)))) yM)
   (zF (xP (yI jY (pv 1) (xL rfl T.m_PICK) (yP _)) (zL (yO (jZ (zA (DC (pv 0) Mtake_within hr (zA (xL rfl T.m_LEAST_PICK) (zA (xL rfl T.m_MOST_MANY) zG)) kW) zG)))) yM)
   (zF (xP (yI jY (pv 1) (xL rfl T.m_CALL) (yP _)) (zL (yO (jZ (zA (DC (pv 0) Mtake_within hr (zA zR (zA (yV wU (xB yX rfl T.n_len kA (zA (pv 2) zG)) zR) zG)) kW) zG)))) yM)
   (zL (yO (jZ zG)))))))),?_⟩
 try dsimp only[Cx.nox,Cx.exc,Cx.wish,xX]
 have hl:=L1.1;have fin: ∀n,IY ns hs boxes k p=.ok [n]->Sz [.int n] (upd H lk (AV CL dx a (p+1))) Q:=λn e=>by
  refine⟨sm1,λt ht=>t1 [n] e t _ (kX.trans kX.upd (kX.new _ ht)) ?_ zH⟩;rw[zV (zM (zH (H:=H) (a:=lk) (o:=AV CL dx a (p+1))) ht)];exact zH
 refine⟨_,rfl,rfl,_,rfl,kL (λc=>?_) (λc0=>?_)⟩
 ·have o:IY ns hs boxes k p=MO (IG ns p):=zT (vt c);exact⟨_,rfl,lk,dx,_,rfl,hl,rfl,lk,dx,a,p,ns,rfl,L1,λn e=>fin n (by rw[o,e];rfl),λpl wd e=>t2 _ _ (by rw[o,e];rfl)⟩
 have n0:=vf c0;have one: ∀lo hi,(∀r,qX ns p lo hi=r->IY ns hs boxes k p=MO r)->Looks CL H lk dx a p ns/\Le (qX ns p lo hi) (λn=>Sz [.int n] (upd H lk (AV CL dx a (p+1))) Q) (Ib CN lk H E):=
  λlo hi o=>⟨L1,λn e=>fin n (o _ e),λpl wd e=>t2 _ _ (o _ e)⟩
 have br12:k=1\/k=2-> ∀r,qX ns p 0 (boxes-1)=r->IY ns hs boxes k p=MO r:=λz r e=>by unfold IY;rw[zI n0,zT z,e]
 refine⟨_,rfl,rfl,_,rfl,kL (λc=>kK ?_) (λc1=>?_)⟩
 ·have o:=one (0) (boxes-1) ((br12 (.inl (vt c))));exact⟨_,rfl,lk,dx,_,rfl,hl,rfl,_,rfl,_,_,rfl,rfl,lk,dx,a,p,ns,0,boxes-1,rfl,o.1,o.2⟩
 refine⟨_,rfl,rfl,_,rfl,kL (λc=>?_) (λc2=>?_)⟩
 ·have o:=one (0) (boxes-1) ((br12 (.inr (vt c))));exact⟨_,rfl,lk,dx,_,rfl,hl,rfl,_,rfl,_,_,rfl,rfl,lk,dx,a,p,ns,0,boxes-1,rfl,o.1,o.2⟩
 have n12: ¬(k=1\/k=2):=λz=>z.elim (vf c1) (vf c2);refine⟨_,rfl,rfl,_,rfl,kL (λc=>?_) (λc3=>?_)⟩
 ·have o:=one (1) (12) (λr e=>by unfold IY;rw[zI n0,zI n12,zT (vt c),e]);exact⟨_,rfl,lk,dx,_,rfl,hl,rfl,lk,dx,a,p,ns,1,12,rfl,o.1,o.2⟩
 refine⟨_,rfl,rfl,_,rfl,kL (λc=>?_) (λc4=>?_)⟩
 ·have o:=one (2) (12) (λr e=>by unfold IY;rw[zI n0,zI n12,zI (vf c3),zT (vt c),e]);exact⟨_,rfl,lk,dx,_,rfl,hl,rfl,lk,dx,a,p,ns,2,12,rfl,o.1,o.2⟩
 refine⟨_,rfl,rfl,_,rfl,kL (λc=>?_) (λc6=>?_)⟩
 ·obtain⟨rs,eh,pr⟩:=id hh;have ln:rs.length=hs.length:=Paired.len pr;have o:=one (0) _ (λr e=>by unfold IY;rw[zI n0,zI n12,zI (vf c3),zI (vf c4),zT (vt c),<-ln,e]);exact⟨_,rfl,lk,dx,_,rfl,hl,rfl,_,rfl,hd,_,rfl,.inl (.of eh),_,_,rfl,rfl,lk,dx,a,p,ns,0,_,rfl,o.1,o.2⟩
 ·refine⟨sm0,λt ht=>t1 [] ?_ t _ (kX.new _ ht) ?_ zH⟩
  ·unfold IY;rw[zI n0,zI n12,zI (vf c3),zI (vf c4),zI (vf c6)]
  ·rw[zV (zM hl ht)];exact hl
inductive OA (vs:List V) (H:Hp) (Q:VK) (E:XK):Prop
 |mk (k:Nat) (v:Int) (h0:vs=[.int (7+(k:Int))]) (h1:partsN[k]? =some v) (h2:Q (.int v) H):OA vs H Q E
theorem VO (T:JU K mg aP CL CN)(F:uB K "parts_of" "parts_of" GI f fd):BT P w K mg base 1 f fd ["kind"] OA:=by
 refine F.oN KJ λcdv A outer s H vs Q E hr h=>?_;obtain⟨k,v,rfl,hk,q⟩:=h;refine⟨_,(zL (yO (jI Aa (Bz rfl T.m_PARTS) (yV wU (pv 0) (xL rfl T.m_FAIL)) (λ_ _=>rfl)))),?_⟩
 try dsimp only[Cx.nox,Cx.exc,Cx.wish,xX]
 refine⟨_,rfl,_,_,rfl,rfl,aP,_,_,_,rfl,rfl,T.parts _,?_,q⟩;rw[show(7:Int)+(k:Int)-7=(k:Int)by lia];exact vB (by rw[zS,hk];rfl)
theorem zAd (T:JU K mg aP CL CN)(F:uB K "parts_due" "parts_due" Fl f fd)(Cy:uT P w K mg base 1 "parts_of" ["kind"] OA):
  BT P w K mg base 2 f fd ["kind","numbers","heads"] SH:=by
 refine F.oN Jw λcdv A outer s H vs Q E hr h=>?_;obtain⟨k,t,own,hd,hs,rfl,ht,⟨rs,eh,pr⟩,⟨h0,h1,hk⟩,q⟩:=h;refine⟨_,(zF (xP (PW.pt (uX (yI jY (pv 0) (xL rfl T.m_NUMBER) (yP _)) (vK (yI jY (pv 0) (xL rfl T.m_GET) (yP _))))) (zL (yO zR)) yM)
   (zF (xP (yI jY (pv 0) (xL rfl T.m_SET) (yP _)) (zL (yO zR)) yM)
   (zF (xP (yI jY (pv 0) (xL rfl T.m_ALL) (yP _)) (zL (yO (jI Aa (pv 1) zR (λ_ _=>rfl)))) yM)
   (zF (xP (yI jY (pv 0) (xL rfl T.m_PICK) (yP _)) (zL (yO (yV jN zR (jI Aa (pv 1) zR (λ_ _=>rfl))))) yM)
   (zF (xP (yI jY (pv 0) (xL rfl T.m_LOOP) (yP _)) (zL (yO zR)) yM)
   (zF (xP (yI jY (pv 0) (xL rfl T.m_CALL) (yP _)) (zL (yO (jI Aa (jI jA (pv 2) (jI Aa (pv 1) zR (λ_ _=>rfl)) (λ_ _=>rfl)) zR (λ_ _=>rfl)))) yM)
   (zL (yO (yD Cy hr rfl (zA (pv 0) zG) jK))))))))),?_⟩
 try dsimp only[Cx.nox,Cx.exc,Cx.wish,xX]
 have due0:k=0\/k=1->Hk hs k own=0:=λz=>zT z;refine⟨_,rfl,rfl,_,rfl,kL (λc=>kK ?_) (λc0=>?_)⟩
 ·rw[due0 (.inl (vt c))]at q;exact q
 refine⟨_,rfl,rfl,_,rfl,kL (λc=>?_) (λc1=>?_)⟩
 ·rw[due0 (.inr (vt c))]at q;exact q
 have n01: ¬(k=0\/k=1):=λz=>z.elim (vf c0) (vf c1);unfold Hk at q;rw[zI n01]at q;refine⟨_,rfl,rfl,_,rfl,kL (λc=>?_) (λc2=>?_)⟩
 ·rw[zT (vt c)]at q;exact q
 rw[zI (vf c2)]at q;refine⟨_,rfl,rfl,_,rfl,kL (λc=>?_) (λc3=>?_)⟩
 ·rw[zT (vt c)]at q;obtain⟨n,rfl,_⟩:=hk (.inl (vt c));exact⟨_,rfl,t,_,_,_,rfl,rfl,.of ht,rfl,q⟩
 rw[zI (vf c3)]at q;refine⟨_,rfl,rfl,_,rfl,kL (λc=>?_) (λc4=>?_)⟩
 ·rw[zT (vt c)]at q;obtain⟨n,rfl,_⟩:=hk (.inr (.inl (vt c)));exact⟨_,rfl,t,_,_,_,rfl,rfl,.of ht,rfl,_,_,rfl,rfl,q⟩
 rw[zI (vf c4)]at q;refine⟨_,rfl,rfl,_,rfl,kL (λc=>?_) (λc5=>?_)⟩
 ·rw[zT (vt c)]at q;exact q
 rw[zI (vf c5)]at q;refine⟨_,rfl,rfl,_,rfl,kL (λc=>?_) (λc6=>?_)⟩
 ·rw[zT (vt c)]at q;obtain⟨n,rfl,n0,n1,_⟩:=hk (.inr (.inr (vt c)));have hn:n.toNat<hs.length:=by have:=n1 (vt c);lia
  have ln:rs.length=hs.length:=Paired.len pr;have e1:hs[n.toNat]? =some hs[n.toNat]:=zE hn;have e2:rs[n.toNat]? =some rs[n.toNat]:=zE (by lia);obtain⟨tt,er,et⟩:=Paired.get pr _ _ _ e2 e1;have av:FO rs n=some (.ref tt):=by
   have:=vB (xs:=rs) e2;rw[show((n.toNat:Nat):Int)=n by lia,er]at this;exact this
  refine⟨_,rfl,_,rfl,t,_,_,_,rfl,rfl,.of ht,rfl,hd,rs,n,_,rfl,rfl,.of eh,av,tt,_,_,_,rfl,rfl,.of et,rfl,?_⟩;have:(hs.getD ([n].headD 0).toNat (0,0)).1=hs[n.toNat].1:=by
   show(hs.getD n.toNat (0,0)).1=_;rw[xW,e1];rfl
  rw[this]at q;exact q
 ·rw[zI (vf c6)]at q;have n0:=vf c0;have n1:=vf c1;have n2:=vf c2;have n3:=vf c3;have n4:=vf c4;have n5:=vf c5;have n6:=vf c6;have hk7:(k-7).toNat <13:=by lia
  have e1:partsN[(k-7).toNat]? =some (partsN.getD (k-7).toNat 0):=by
   rw[xW,zE (by exact hk7)];rfl
  exact⟨_,rfl,(k-7).toNat,_,(by rw[show(7:Int)+((k-7).toNat:Int)=k by lia];rfl),e1,q⟩
def ZG (CL CN:Addr):Nat->Sp
 |0=>λ_ _ _ _=>False
 |d+1=>Kb CL CN d
def YI (lk hd dx a t ps:Addr)(boxes k N:Int)(d p:Nat)(own:List Int)(H:Hp)(ns:List Int)(hs:DO)(i:Nat)(σ':St)(H':Hp):Prop:= ∃(done:List Nd) (vs:List V) (p':Nat) (v8:Option V),σ'=[some (.ref lk),some (.ref hd),some (.int boxes),some (.int (11-((d+1:Nat):Int))),some (.int (p:Int)),some (.int k),some (.ref t),some (.ref ps),v8]/\done.length=i/\kX lk H H'/\
   H' lk=some (AV CL dx a p')/\H' t=some (.tup (own.map V.int))/\H' ps=some (.lst vs)/\Paired (uS H' d) vs done/\EE (Ef ns hs boxes d) N.toNat (p+1+own.length)=Ws done (EE (Ef ns hs boxes d) (N.toNat-i) p')
theorem SV (d:Nat)(hd10:d<=10)(T:JU K mg aP CL CN)(F:uB K "take_node" "take_node" Fj f fd)(Ce:Go P w K mg base 1 "NoSheet" CN ["self","place","word"] (Fg CN))(Mtake_within:MW P w K mg base (Hl P w) 4 CL "take_within" ["self","least","most"] (FQ CL CN))
  (Cg:uT P w K mg base 5 "take_own_sheets" ["look","kind","heads","boxes"] (SE CL CN)) (Cd:uT P w K mg base 2 "parts_due" ["kind","numbers","heads"] SH)
  (Cw:uT P w K mg base (5+d) "take_node" ["look","heads","boxes","deep"] (ZG CL CN d)):BT P w K mg base (5+d+1) f fd ["look","heads","boxes","deep"] (Kb CL CN d):=by
 refine F.oX AZ λcdv A outer s H vs Q E hr h=>?_;obtain⟨lk,dx,a,p,ns,hd,hs,boxes,rfl,L1,hh,ho,t1,t2⟩:=h;refine⟨_,(zF (yS (i:=4) AZ.nd rfl (Or.inl rfl) (kD (pv 0) rfl))
   (zF (xP (yI Hh (pv 3) (xL rfl T.m_MOST_DEEP) (yP _)) (zL (wF Ce hr rfl (zA (pv 4) (zA jX zG)))) yM)
   (zF (yS (i:=5) AZ.nd rfl (Or.inl rfl) (DC (pv 0) Mtake_within hr (zA (xL rfl T.m_NUMBER) (zA (xL rfl T.m_NEW) zG)) kW))
   (zF (yS (i:=6) AZ.nd rfl (Or.inl rfl) (yD Cg hr rfl (zA (pv 0) (zA (pv 5) (zA (pv 1) (zA (pv 2) zG)))) kW))
   (zF (yS (i:=7) AZ.nd rfl (Or.inl rfl) (xV zG))
   (zF (Al (Ip rfl rfl) rfl (uZ rfl T.n_range (zA (yD Cd hr rfl (zA (pv 5) (zA (pv 6) (zA (pv 1) zG))) kW) zG)) (xJ (i:=8) AZ.nd rfl (Or.inl rfl)) (zL (jJ (qI zU yF yE jO (pv 7) (zA (yD Cw hr rfl (zA (pv 0) (zA (pv 1) (zA (pv 2) (zA (yV jN (pv 3) zR) zG)))) kW) zG)))))
   (zL (yO (jZ (zA (pv 5) (zA (pv 4) (zA (pv 6) (zA (jU Bt rfl T.n_tuple HX (zA (pv 7) zG)) zG))))))))))))),?_⟩
 try dsimp only[Cx.nox,Cx.exc,Cx.wish,xX]
 have hl:=L1.1;refine⟨_,rfl,lk,CL,dx,_,_,rfl,hl,T.look,T.lplace,rfl,?_⟩;refine⟨_,rfl,_,_,rfl,rfl,_,rfl,kL (λc=>?_) (λc=>?_)⟩
 ·have d0:d=0:=by have:=zZ c;lia
  subst d0;exact⟨_,rfl,sm2,LM (t2 p "deep" rfl) (kX.refl _ _)⟩
 cases d with
 |zero=>exact absurd (zY (by decide)) c
 |succ d=>
 refine⟨_,rfl,lk,dx,_,rfl,hl,rfl,lk,dx,a,p,ns,0,19,rfl,L1,λk ek=>?_,λpl wd ek=>t2 pl wd (by unfold Ef;rw[ek])⟩;obtain⟨_,k0,k19⟩:=BE ek;have ka:kX lk H (upd H lk (AV CL dx a (p+1))):=kX.upd;have La:=L1.go ka zH;refine⟨_,rfl,_,rfl,_,rfl,_,rfl,lk,dx,a,p+1,ns,hd,hs,boxes,k,rfl,La,hh.keep hl ka,λown eo t H2 k2 el2 et2=>?_,λpl wd eo=>?_⟩
 rotate_left
 ·exact(t2 pl wd (by unfold Ef;rw[ek];simp only;rw[eo])).keep ka
 have oo:=ZW k0 k19 eo;have kb:=ka.trans k2;refine⟨sm0,λps hps=>?_⟩;have g3:=zN hps (.lst []);have nps:lk≠ps:=zM el2 hps;have ntp:t≠ps:=zM et2 hps;have kc:kX lk H (upd H2 ps (.lst [])):=kb.trans (kX.same g3);have elc:=g3 _ _ el2;obtain⟨j0,j13⟩:=zAt oo ho;generalize hN:Hk hs k own=N at j0 j13;have nHp:H ps=none:=by
  cases e:H ps with
  |none=>rfl
  |some o=>rw[kb ps o (Ne.symm nps) e]at hps;cases hps
 refine⟨_,rfl,_,rfl,_,rfl,k,t,own,hd,hs,rfl,g3 _ _ et2,hh.keep hl kc,oo,N,by rw[hN],by lia,by lia,?_⟩;have en:Ef ns hs boxes (d+1) p=match EE (Ef ns hs boxes d) N.toNat (p+1+own.length)with
   | .error b=>.error b
   | .ok r=>.ok (.mk k p own r.1,r.2):=by
  conv=>lhs;unfold Ef
  rw[ek];simp only;rw[eo];simp only;rw[hN]<;>rfl
 refine AE (lo:=0) (n:=N.toNat) (YI (CL:=CL) lk hd dx a t ps boxes k N d p own H ns hs)
   ⟨[],[],_,_,rfl,rfl,kc,elc,g3 _ _ et2,zH,.nil,(NK _).symm⟩ ?_ ?_
 ·rintro i σ' H' hi ⟨done,vs,p',v8,rfl,hn,kp,el,et,ep,pr,eq⟩;obtain⟨m,em⟩: ∃m,N.toNat-i=m+1:=⟨N.toNat-i-1,by lia⟩;have L2':Looks CL H' lk dx a p' ns:=L1.go kp el;have ed:(11-((d+1:Nat):Int))+1=11-(d:Int):=by lia
  refine⟨_,rfl,.inl ⟨rfl,_,.of ep⟩,_,rfl,_,rfl,_,rfl,_,rfl,_,_,rfl,rfl,lk,dx,a,p',ns,hd,hs,boxes,jB (λz=>[V.ref lk,V.ref hd,V.int boxes,V.int z]) ed,L2',hh.keep hl kp,ho,λr er v H3 k3 el3 nv=>?_,λpl wd er=>?_⟩
  ·have ep3:H3 ps=some (.lst vs):=k3 ps _ (Ne.symm nps) ep;have len:vs.length<=13:=by have:=Paired.len pr;lia
   refine⟨ps,vs,_,rfl,rfl,ep3,wI (by lia),?_⟩;have tp:uV H' (upd H3 ps (.lst (vs++[v]))):=.trans (.keep el k3) (.upd ep3);have ntl:t≠lk:=λz=>by rw[z,el]at et;cases et
   refine⟨done++[r.1],_,r.2,_,rfl,by simp[hn],(kp.trans k3).fresh nHp,?_,?_,zH,wP (Paired.imp (λ_ _ z=>z.tups tp) pr) (nv.tups (.upd ep3)),?_⟩
   ·rw[zV nps];exact el3
   ·rw[zV ntp];exact k3 t _ ntl et
   ·rw[eq,em,show N.toNat-(i+1)=m by lia]
    conv=>lhs;unfold EE
    rw[er];simp only;cases EE (Ef ns hs boxes d) m r.2 with
    |error b=>rfl
    |ok r=>show Except.ok _=Except.ok _;rw[yW];rfl
  ·refine(t2 pl wd ?_).keep kp;rw[en,eq,em]
   conv=>lhs;unfold EE
   rw[er];rfl
 ·rintro σ' H' ⟨done,vs,p',v8,rfl,hn,kp,el,et,ep,pr,eq⟩;rw[Av]at eq;have eq':EE (Ef ns hs boxes d) N.toNat (p+1+own.length)=.ok (done,p'):=by rw[eq];show Except.ok (done++[],p')=_;rw[xI]
  refine⟨_,rfl,_,rfl,_,rfl,_,rfl,ps,vs,rfl,.inl ⟨.of ep,λq hq=>?_⟩⟩;refine⟨sm4,λu hu=>?_⟩;have s1:=zN hq (.tup vs);have s2:=zN hu (.tup [.int k,.int (p:Int),.ref t,.ref q]);refine t1 (.mk k p own done,p') (by rw[en,eq']) (.ref u) _ (kp.trans (kX.same (s1.trans s2))) (s2 _ _ (s1 _ _ el)) ?_;exact⟨u,t,q,vs,rfl,zH,s2 _ _ (s1 _ _ et),s2 _ _ zH,Paired.imp (λ_ _ z=>z.tups (.same (s1.trans s2))) pr⟩
theorem VP (T:JU K mg aP CL CN)(F:uB K "take_node" "take_node" Fj f fd)(Ce:Go P w K mg base 1 "NoSheet" CN ["self","place","word"] (Fg CN))(Mtake_within:MW P w K mg base (Hl P w) 4 CL "take_within" ["self","least","most"] (FQ CL CN))
  (Cg:uT P w K mg base 5 "take_own_sheets" ["look","kind","heads","boxes"] (SE CL CN)) (Cd:uT P w K mg base 2 "parts_due" ["kind","numbers","heads"] SH)
  (hm:mg "take_node"=some (.ref f)) (hk:PySem.W.keepIn K (.ref f)=true) (hb:Ab K fd ["look","heads","boxes","deep"] []): ∀d,d<=10->BT P w K mg base (5+d+1) f fd ["look","heads","boxes","deep"] (Kb CL CN d):=by
 intro d
 induction d with
 |zero=>exact λh=>SV 0 h T F Ce Mtake_within Cg Cd ⟨⟨_,_,WD,hm,hk,hb⟩⟩
 |succ d ih=>exact λh=>SV (d+1) h T F Ce Mtake_within Cg Cd ⟨⟨_,_,ih (by lia),hm,hk,hb⟩⟩
def zBm (a lk hd tl dx:Addr)(rs:List V)(hs:DO)(ns:List Int)(H1:Hp)(i:Nat)(σ':St)(H':Hp):Prop:= ∃(done:List Nd) (vs:List V) (p':Nat) (v4 v5:Option V),σ'=[some (.ref a),some (.ref lk),some (.ref hd),some (.ref tl),v4,v5]/\i<=rs.length/\done.length=i/\kX lk H1 H'/\H' lk=some (AV CL dx a p')/\
   H' hd=some (.lst rs)/\Paired (Kz H') rs hs/\H' tl=some (.lst vs)/\Paired (Xf H') vs ((hs.take i).zip done)/\CQ ns hs hs (1+2*hs.length)=Ws done (CQ ns hs (hs.drop i) p')
theorem zAc (T:JU K mg aP CL CN)(F:uB K "functions" "functions" HA f fd)(Ce:Go P w K mg base 1 "NoSheet" CN ["self","place","word"] (Fg CN))(Cc9:Xh P w K mg base (Hl P w) 1 "Look" CL ["self","numbers"] (OJ CL))
  (Cb0:uT P w K mg base 5 "take_heads" ["look"] (OK CL CN)) (Cw:uT P w K mg base 16 "take_node" ["look","heads","boxes","deep"] (Kb CL CN 10)):
  BT P w K mg base 17 f fd ["sheet"] (Vk CN):=by
 refine F.oX Ba λcdv A outer s H vs Q E hr h=>?_;obtain⟨a,ns,rfl,ha,t1,t2⟩:=h;refine⟨_,(zF (yS (i:=1) Ba.nd rfl (Or.inl rfl) (Ql Cc9 hr rfl (zA (pv 0) zG) kW))
   (zF (yS (i:=2) Ba.nd rfl (Or.inl rfl) (yD Cb0 hr rfl (zA (pv 1) zG) kW))
   (zF (yS (i:=3) Ba.nd rfl (Or.inl rfl) (xV zG))
   (zF (Al (Ip rfl rfl) rfl (Ik (pv 2)) (Bo rfl (xU (xJ (i:=4) Ba.nd rfl (Or.inl rfl)) (xU (xJ (i:=5) Ba.nd rfl (Or.inl rfl)) uL))) (zL (jJ (qI zU yF yE jO (pv 3) (zA (jZ (zA (pv 4) (zA (pv 5) (zA (yD Cw hr rfl (zA (pv 1) (zA (pv 2) (zA (pv 5) (zA zR zG)))) kW) zG)))) zG)))))
   (zF (xP (yI EF (kD (pv 1) rfl) (xB yX rfl T.n_len kA (zA (pv 0) zG)) (yP _)) (zL (wF Ce hr rfl (zA (kD (pv 1) rfl) (zA jX zG)))) yM)
   (zL (yO (pv 3)))))))),?_⟩
 try dsimp only[Cx.nox,Cx.exc,Cx.wish,xX]
 refine⟨_,rfl,λlk dx hlk hdx ndx=>⟨lk,dx,a,rfl,zH,λH1 k1 el1=>⟨rfl,?_⟩⟩⟩;have nla:a≠lk:=zM ha hlk;have same0: ∀{H':Hp},kX lk (upd (upd H dx (.own lk)) lk (.ins CL dx [])) H'->kS H H':=fun{H'} k b o e=>by
  refine k b o (zM e hlk) ?_;rw[zV (zM e hlk),zV (zM e hdx)];exact e
 have L1:Looks CL H1 lk dx a 0 ns:=⟨el1,same0 k1 _ _ ha⟩;have bad: ∀{H':Hp} {p:Nat} {wd:Str},kX lk H1 H'->AR ns=.error (p,wd)->Ib CN lk H' E p wd:=fun{H' p wd} k e d H'' k' ed=>t2 p wd e d H'' (same0 (k1.trans (k.trans k'))) ed;refine⟨_,rfl,lk,dx,a,ns,rfl,L1,λhs eh hd H2 k2 el2 hh=>?_,λp wd e=>bad (kX.refl _ _) (by unfold AR;rw[e])⟩;obtain⟨ho,_,l1,l16,_⟩:=Po eh;refine⟨sm0,λtl htl=>?_⟩;have g3:=zN htl (.lst []);have nlt:lk≠tl:=zM el2 htl;have kc:kX lk H1 (upd H2 tl (.lst [])):=k2.trans (kX.same g3);obtain⟨rs,ehd,pr⟩:=id hh;have nht:hd≠tl:=zM ehd htl;have nhl:hd≠lk:=λz=>by rw[z,el2]at ehd;cases ehd
 have lr:rs.length=hs.length:=Paired.len pr;have ef:AR ns=match CQ ns hs hs (1+2*hs.length)with
   | .error b=>.error b
   | .ok r=>if r.2<ns.length then .error (r.2,"over")else .ok (hs,r.1):=by unfold AR;rw[eh]<;>rfl
 have nHt:H1 tl=none:=by
  cases e:H1 tl with
  |none=>rfl
  |some o=>rw[k2 tl o (Ne.symm nlt) e]at htl;cases htl
 have nH0:H tl=none:=(same0 k1).free nHt;refine⟨_,rfl,hd,rfl,⟨rs,.of (g3 _ _ ehd)⟩,JM (xs:=rs) (zBm (CL:=CL) a lk hd tl dx rs hs ns H1)
   ⟨[],[],_,_,_,rfl,yU _,rfl,kc,g3 _ _ el2,g3 _ _ ehd,Paired.imp (λ_ _ z=>z.tups (.same g3)) pr,zH,.nil,(NK _).symm⟩ ?_ ?_ ?_⟩
 ·rintro i σ' H' _ ⟨done,vs,p',v4,v5,rfl,hi,hn,kp,el,eh',pr',et,pf,eq⟩;exact .of eh'
 ·rintro i x σ' H' hx ⟨done,vs,p',v4,v5,rfl,_,hn,kp,el,eh',pr',et,pf,eq⟩;have hi:i<rs.length:=(List.getElem?_eq_some_iff.mp hx).1;have e1:hs[i]? =some hs[i]:=zE (by lia);generalize hs[i]=hx1 at e1;obtain⟨u,rfl,eu⟩:=Paired.get pr' i _ _ hx e1;have dr:hs.drop i=hx1::hs.drop (i+1):=by
   have:=xQ (l:=hs) (i:=i) (by lia);rw[this];congr 1;exact jE ((zE (by lia)).symm.trans e1)
  have tk:hs.take (i+1)=hs.take i++[hx1]:=by rw[List.take_add_one,e1];rfl
  refine⟨u,_,rfl,.of eu,rfl,_,_,rfl,_,_,rfl,rfl,?_⟩;have L2':Looks CL H' lk dx a p' ns:=L1.go kp el;refine⟨_,rfl,.inl ⟨rfl,_,.of et⟩,_,rfl,_,rfl,_,rfl,_,rfl,_,rfl,lk,dx,a,p',ns,hd,hs,hx1.2,rfl,L2',⟨rs,eh',pr'⟩,ho,λr er v H3 k3 el3 nv=>?_,λpl wd er=>?_⟩
  ·refine⟨sm3,λq hq=>?_⟩;have s1:=zN hq (.tup [.int hx1.1,.int hx1.2,v]);have et3:=s1 _ _ (k3 tl _ (Ne.symm nlt) et);have len:vs.length<=16:=by
    have:=Paired.len pf;rw[List.length_zip,yJ]at this;lia
   refine⟨tl,vs,_,rfl,rfl,et3,wI (by lia),?_⟩;have tq:uV H3 (upd (upd H3 q (.tup [.int hx1.1,.int hx1.2,v])) tl (.lst (vs++[.ref q]))):=.trans (.same s1) (.upd et3);have tp:=uV.trans (.keep el k3) tq;have ntq:tl≠q:=zM (k3 tl _ (Ne.symm nlt) et) hq;have nql:lk≠q:=zM el3 hq;refine⟨done++[r.1],_,r.2,_,_,rfl,hi,by simp[hn],(kp.trans (k3.trans (kX.same s1))).fresh nHt,?_,?_,Paired.imp (λ_ _ z=>z.tups tp) pr',zH,?_,?_⟩
   ·rw[zV nlt];exact s1 _ _ el3
   ·rw[zV nht];exact s1 _ _ (k3 hd _ nhl eh')
   ·rw[tk,List.zip_append (by rw[yJ];lia)];exact wP (Paired.imp (λ_ _ z=>z.tups tp) pf) ⟨q,v,rfl,by rw[zV (Ne.symm ntq)];exact zH,nv.tups tq⟩
   ·rw[eq,dr]
    conv=>lhs;unfold CQ
    rw[er];simp only;cases CQ ns hs (hs.drop (i+1)) r.2 with
    |error b=>rfl
    |ok r=>show Except.ok _=Except.ok _;rw[yW];rfl
  ·refine bad kp ?_;rw[ef,eq,dr]
   conv=>lhs;unfold CQ
   rw[er];rfl
 ·rintro σ' H' ⟨done,vs,p',v4,v5,rfl,_,hn,kp,el,eh',pr',et,pf,eq⟩;rw[lr,List.drop_length]at eq;have eq':CQ ns hs hs (1+2*hs.length)=.ok (done,p'):=by rw[eq];show Except.ok (done++[],p')=_;rw[xI]
  have ea:H' a=some (.lst (ns.map V.int)):=kp a _ nla L1.2;have hz:(ns.map V.int).length =ns.length:=zD ..;refine⟨_,rfl,lk,CL,dx,_,_,rfl,el,T.look,T.lplace,rfl,_,rfl,a,_,rfl,.inl (.of ea),_,_,rfl,rfl,_,rfl,kL (λc=>?_) (λc=>?_)⟩
  ·have c':p'<ns.length:=by have:=zZ c;lia
   refine⟨_,rfl,lk,CL,dx,_,_,rfl,el,T.look,T.lplace,rfl,sm2,LM (bad (p:=p') (wd:="over") kp ?_) (kX.refl _ _)⟩;rw[ef,eq'];exact zT c'
  ·refine⟨_,rfl,t1 (hs,done) ?_ tl H' (same0 (k1.trans kp)) nH0 ⟨vs,et,by show hs.length=done.length;lia,?_⟩⟩
   ·rw[ef,eq'];exact zI λz=>c (zY (by lia))
   ·rw[lr,Ae]at pf;exact pf
def Sr (v:V)(tl wl:Addr)(H:Hp)(nd:Nd)(m:Nat)(σ':St)(H':Hp):Prop:= ∃(done st:List Nd) (us ws:List V) (v3 v4:Option V),σ'=[some v,some (.ref tl),some (.ref wl),v3,v4]/\m=(AG st).length/\kS H H'/\H' tl=some (.lst us)/\H' wl=some (.lst ws)/\Paired (uS H' 10) us done/\Paired (uS H' 10) ws st/\done++AG st.reverse=pre nd
theorem Qt (T:JU K mg aP CL CN)(n_reversed:mg "reversed"=none)(F:uB K "nodes_in" "nodes_in" IS f fd):BT P w K mg base 1 f fd ["body"] Ka:=by
 refine F.oN DA λcdv A outer s H vs Q E hr h=>?_;obtain⟨v,nd,rfl,hv,hc,q⟩:=h;refine⟨_,(zF (yS (i:=1) DA.nd rfl (Or.inl rfl) (xV zG))
   (zF (yS (i:=2) DA.nd rfl (Or.inl rfl) (xV (zA (pv 0) zG)))
   (zF (EC xS (HJ (pv 2) (λ_=>rfl)) (zF (yS (i:=3) DA.nd rfl (Or.inl rfl) (RG zU PySem.F.slot_list_pop PySem.F.type_list_pop Wk (pv 2)))
   (zF (jJ (qI zU yF yE jO (pv 1) (zA (pv 3) zG)))
   (zL (Al xS rfl (ZR rfl n_reversed (zA (jI Aa (pv 3) zR (λ_ _=>rfl)) zG)) (xJ (i:=4) DA.nd rfl (Or.inl rfl)) (zL (jJ (qI zU yF yE jO (pv 2) (zA (pv 4) zG)))))))))
   (zL (yO (pv 1)))))),?_⟩
 try dsimp only[Cx.nox,Cx.exc,Cx.wish,xX]
 refine⟨sm0,λtl htl=>?_⟩;have s1:=zN htl (.lst []);refine⟨_,rfl,sm1,λwl hwl=>?_⟩;have s2:=zN hwl (.lst [v]);have hwl0:H wl=none:=s1.free hwl;have ntw:tl≠wl:=zM zH hwl;have sl:sizeLine=16777216:=BU;refine⟨Sr v tl wl H nd,
  ⟨_,[],[nd],[],[v],_,_,rfl,rfl,s1.trans s2,s2 _ _ zH,zH,.nil,.cons (hv.tups (.same (s1.trans s2))) .nil,by simp[AG]⟩,?_⟩
 rintro m σ' H' ⟨done,st,us,ws,v3,v4,rfl,rfl,g,et,ew,pu,pw,eq⟩;refine⟨_,rfl,!ws.isEmpty,.inl ⟨ws,.of ew,rfl⟩,?_⟩
 rcases Dk ws with rfl|⟨ws',x,rfl⟩
 ·cases pw;refine qG ⟨_,rfl,q tl us H' g htl et ?_⟩;have:done=pre nd:=by simpa[AG]using eq
  rw[<-this];exact pu
 rw[Dl]at *
 obtain⟨st',n,rfl,pw',nx⟩:=Paired.unsnoc pw;have ne:(!(ws'++[x]).isEmpty)=true:=by simp
 rw[ne];refine kK ⟨λσ'' H''=> ∃m',m'<(AG (st'++[n])).length/\ ∃(done st:List Nd) (us ws:List V) (v3 v4:Option V),σ''=[some v,some (.ref tl),some (.ref wl),v3,v4]/\m'=(AG st).length/\kS H H''/\H'' tl=some (.lst us)/\H'' wl=some (.lst ws)/\Paired (uS H'' 10) us done/\Paired (uS H'' 10) ws st/\done++AG st.reverse=pre nd,λ_ _ z=>z,?_⟩;cases n with
 |mk k p own ps=>
 obtain⟨t,o,pq,vs,rfl,etn,eo,ep,pr⟩:=nx;have eq2:done++(.mk k p own ps::(AG ps++AG st'.reverse))=pre nd:=by
  rw[<-eq];simp[AG,pre,DB]
 have tot:done.length+1+(AG ps).length +(AG st').length<=1000000:=by
  have:=jB List.length eq2;rw[<-GP st'];simp only[zB,zK]at this;lia
 have lu:us.length=done.length:=Paired.len pu;have lw:ws'.length<=(AG st').length:=by rw[Paired.len pw'];exact LO st'
 have lv:vs.length<=(AG ps).length:=by rw[Paired.len pr];exact LO ps
 refine⟨_,rfl,.inl ⟨rfl,_,.of ew⟩,wl,_,.ref t,rfl,rfl,ew,by simp,?_⟩;have dl:(ws'++[V.ref t]).dropLast =ws':=by simp
 have et1:upd H' wl (.lst (ws'++[V.ref t]).dropLast) tl=some (.lst us):=by rw[zV ntw];exact et
 refine⟨_,rfl,.inl ⟨rfl,_,.of et1⟩,_,rfl,tl,us,_,rfl,rfl,et1,by lia,?_⟩;have tp2:uV H' (upd (upd H' wl (.lst (ws'++[V.ref t]).dropLast)) tl (.lst (us++[V.ref t]))):=.trans (.upd ew) (.upd et1);have g2:kS H (upd (upd H' wl (.lst (ws'++[V.ref t]).dropLast)) tl (.lst (us++[V.ref t]))):=(g.fresh hwl0).fresh htl;refine⟨_,rfl,t,_,_,_,rfl,rfl,.of (tp2 _ _ etn),rfl,pq,vs,rfl,.of (tp2 _ _ ep),Yt (xs:=vs) (λi σ'' H''=> ∃v4,σ''=[some v,some (.ref tl),some (.ref wl),some (.ref t),v4]/\kS H H''/\H'' tl=some (.lst (us++[.ref t]))/\H'' wl=some (.lst (ws'++vs.reverse.take i))/\uV H' H'')
  ⟨_,rfl,g2,zH,by rw[zV (Ne.symm ntw),zH,dl];simp,tp2⟩ ?_ ?_ ?_⟩
 ·rintro i σ'' H'' _ ⟨v4,rfl,_,_,_,tp⟩;exact .of (tp _ _ ep)
 ·rintro i x σ'' H'' hx ⟨v4,rfl,g3,et3,ew3,tp⟩;have hi:i<vs.length:=by have:=(List.getElem?_eq_some_iff.mp hx).1;simpa using this
  refine⟨_,rfl,.inl ⟨rfl,_,.of ew3⟩,_,rfl,wl,_,_,rfl,rfl,ew3,?_,?_⟩
  ·simp only[zB,yJ,uW];lia
  ·refine⟨_,rfl,g3.fresh hwl0,by rw[zV ntw];exact et3,?_,.trans tp (.upd ew3)⟩;rw[zH,List.take_add_one,hx,yW];rfl
 ·rintro σ'' H'' ⟨v4,rfl,g3,et3,ew3,tp⟩;have tk:vs.reverse.take vs.length=vs.reverse:=by rw[<-uW (as:=vs),Ae]
  rw[tk]at ew3;refine⟨_,?_,done++[.mk k p own ps],st'++ps.reverse,_,_,_,_,rfl,rfl,g3,et3,ew3,wP (Paired.imp (λ_ _ z=>z.tups tp) pu) (uS.tups (d:=10) (n:=.mk k p own ps) tp ⟨t,o,pq,vs,rfl,etn,eo,ep,pr⟩),Paired.append (Paired.imp (λ_ _ z=>z.tups tp) pw') (Paired.imp (λ_ _ z=>(uS.tups tp z).more) (Paired.rev pr)),?_⟩
  ·simp only[DB,GP,zB,AG,pre,zK,jQ];lia
  ·rw[<-eq2];simp[DB]
structure WU (K:PySem.W.Frag)(mg:Str->Option Value)(aW:Addr):Prop where
 n_str:mg "str"=none
 n_zip:mg "zip"=none
 n_list:mg "list"=none
 m_NUMBER:At mg "NUMBER" 0
 m_GET:At mg "GET" 1
 m_SET:At mg "SET" 2
 m_CALL:At mg "CALL" 6
 m_WORDS:mg "WORDS"=some (.ref aW)
 words: ∀H,Gm K H aW (kwW.map V.str)
inductive LB (vs:List V) (H:Hp) (Q:VK) (E:XK):Prop
 |mk (k:Int) (h0:vs=[.int k]) (h1:2<=k) (h2:k<=19) (h3:Q (.str (kwW.getD (k-2).toNat "")) H):LB vs H Q E
theorem RK (T:WU K mg aW)(F:uB K "word_of" "word_of" Kg f fd):BT P w K mg base 1 f fd ["kind"] LB:=by
 refine F.oN Ru λcdv A outer s H vs Q E hr h=>?_;obtain⟨k,rfl,h2,h19,q⟩:=h;refine⟨_,(zL (yO (jI Aa (Bz rfl T.m_WORDS) (yV wU (pv 0) (xL rfl T.m_SET)) (λ_ _=>rfl)))),?_⟩
 try dsimp only[Cx.nox,Cx.exc,Cx.wish,xX]
 refine⟨_,rfl,_,_,rfl,rfl,aW,_,_,_,rfl,rfl,T.words _,?_,q⟩;exact Du (by lia) (by rw[zS,Wr h2 h19];rfl)
theorem YX {n:Int}(h:n.natAbs<10^60):n.natAbs.log2<1920:=by
 refine kO (?_:n.natAbs.log2<=200) (by decide)
 by_cases z:n.natAbs=0
 ·rw[z];decide
 ·exact vC ((Nat.log2_lt z).mpr (kZ h (by decide+kernel)))
inductive JZ (vs:List V) (H:Hp) (Q:VK) (E:XK):Prop
 |mk (k n:Int) (bx na:Addr) (bs:List Str) (ns:List Tt) (us:List V) (h0:vs=[.int k,.int n,.ref bx,.ref na]) (h1:H bx=some (.tup (bs.map V.str))) (h2:H na=some (.tup us)) (h3:Paired (Jj H) us ns) (h4:(k=1\/k=2->0<=n/\n.toNat<bs.length)) (h5:(k=6->0<=n/\n.toNat<ns.length)) (h6:n.natAbs<10^60) (h7:Q (.str (FX (ns.map (·.1)) bs k n)) H):JZ vs H Q E
theorem Qr (T:WU K mg aW)(F:uB K "show_own" "show_own" IR f fd):BT P w K mg base 1 f fd ["kind","number","boxes","names"] JZ:=by
 refine F.oN Qc λcdv A outer s H vs Q E hr h=>?_;obtain⟨k,n,bx,na,bs,ns,us,rfl,eb,en,pn,h12,h6,hn,q⟩:=h;refine⟨_,(zF (xP (PW.pt (uX (yI jY (pv 0) (xL rfl T.m_GET) (yP _)) (vK (yI jY (pv 0) (xL rfl T.m_SET) (yP _))))) (zL (yO (jI Aa (pv 2) (pv 1) (λ_ _=>rfl)))) yM)
   (zF (xP (yI jY (pv 0) (xL rfl T.m_CALL) (yP _)) (zL (yO (jI Aa (jI Aa (pv 3) (pv 1) (λ_ _=>rfl)) zR (λ_ _=>rfl)))) yM)
   (zL (yO (jU Ep rfl T.n_str MB (zA (pv 1) zG)))))),?_⟩
 try dsimp only[Cx.nox,Cx.exc,Cx.wish,xX]
 unfold FX at q;have gb:k=1\/k=2-> ∃v,FO (bs.map V.str) n=some v/\Q v H:=λc=>by
  rw[zT c]at q;obtain⟨n0,n1⟩:=h12 c;exact⟨_,Du n0 (by rw[zS,JL n1];rfl),q⟩
 refine⟨_,rfl,rfl,_,rfl,kL (λc=>?_) (λc=>⟨_,rfl,rfl,_,rfl,kL (λc2=>?_) (λc2=>?_)⟩)⟩
 ·obtain⟨v,e1,q1⟩:=gb (.inl (vt c));exact⟨_,rfl,_,rfl,bx,_,_,_,rfl,rfl,.of eb,e1,q1⟩
 ·obtain⟨v,e1,q1⟩:=gb (.inr (vt c2));exact⟨_,rfl,_,rfl,bx,_,_,_,rfl,rfl,.of eb,e1,q1⟩
 rw[zI (λz=>z.elim (vf c) (vf c2))]at q;refine⟨_,rfl,rfl,_,rfl,kL (λc3=>?_) (λc3=>?_)⟩
 ·rw[zT (vt c3)]at q;obtain⟨n0,n1⟩:=h6 (vt c3);have lu:=Paired.len pn;have hi:n.toNat<us.length:=by lia
  have e1:us[n.toNat]? =some us[n.toNat]:=zE hi;have e2:ns[n.toNat]? =some ns[n.toNat]:=zE n1;obtain⟨t,b,ev,h1,h2⟩:=Paired.get pn _ _ _ e1 e2;have eg:(ns.map (λx:Tt=>x.1)).getD n.toNat ("":Str)=ns[n.toNat].1:=getD_some (by rw[zS,e2];rfl);rw[eg]at q;refine⟨_,rfl,_,rfl,na,_,_,_,rfl,rfl,.of en,Du n0 (by rw[e1,ev]),t,_,_,_,rfl,rfl,.of h1,rfl,q⟩
 ·rw[zI (vf c3)]at q;exact⟨_,rfl,n,rfl,YX hn,q⟩
def QW (hs:DO)(b:Int)(nd:Nd):Prop:= ∃k p own ps,nd=.mk k p own ps/\0<=k/\k<=19/\HZ hs b k own/\ ∀v∈own,v.natAbs<10^60
mutual
theorem Te {hs:DO}{b:Int}: ∀(nd:Nd) (d:Nat),DI hs b d (bare nd)->UO (bare nd)-> ∀x∈pre nd,QW hs b x
 | .mk k p own ps,0,f,_,x,hx=>by unfold DI at f;exact f.elim
 | .mk k p own ps,d+1,f,s,x,hx=>by
  rw[L2.bare]at f s;unfold DI at f;unfold UO at s;obtain⟨k0,k1,of,_,_,fp⟩:=f;rw[pre]at hx
  rcases List.mem_cons.mp hx with z|z
  ·exact⟨k,p,own,ps,z,k0,k1,of,s.1⟩
  ·exact QH ps d fp s.2 x z
theorem QH {hs:DO}{b:Int}: ∀(nds:List Nd) (d:Nat),EK hs b d (Bu nds)->MF (Bu nds)-> ∀x∈AG nds,QW hs b x
 |[],d,f,_,x,hx=>by rw[AG]at hx;cases hx
 |a::r,d,f,s,x,hx=>by
  rw[Bu]at f s;unfold EK at f;unfold MF at s;rw[AG]at hx
  rcases List.mem_append.mp hx with z|z
  ·exact Te a d f.1 s.1 x z
  ·exact QH r d f.2 s.2 x z
end
def Ra (nm bs:List Str):Nd->List Str
 | .mk k _ own _=>JX nm bs k own
mutual
theorem Sw (nm bs:List Str): ∀nd:Nd,BD nm bs (bare nd)=(pre nd).flatMap (Ra nm bs)
 | .mk k p own ps=>by
  rw[L2.bare,pre,FA,<-PL nm bs ps,BD];rfl
theorem PL (nm bs:List Str): ∀nds:List Nd,BY nm bs (Bu nds)=(AG nds).flatMap (Ra nm bs)
 |[]=>by rw[Bu,AG];rfl
 |a::r=>by
  rw[Bu,AG,List.flatMap_append,<-Sw nm bs a,<-PL nm bs r,BY]
end
theorem PP {hs:DO}{b:Int}{nd:Nd}(h:QW hs b nd)(nm bs:List Str):(Ra nm bs nd).length<=2:=by
 obtain⟨k,p,own,ps,rfl,k0,k1,of,_⟩:=h;show(JX nm bs k own).length<=2;unfold JX;rw[zB,zD];have l1:(if k=0\/k=1 then[]else[kwW.getD (k-2).toNat ""]:List Str).length<=1:=by split<;>simp
 have l2:own.length<=1:=by
  rcases of with⟨rfl,n,rfl⟩|⟨hk,n,rfl,a,b⟩|⟨rfl,n,rfl,a,b⟩|⟨rfl,n,rfl,a,b⟩|⟨rfl,n,rfl,a,b⟩|⟨hk,rfl⟩<;>simp
 lia
theorem PJ {hs:DO}{b:Int}(nm bs:List Str): ∀nds:List Nd,(∀x∈nds,QW hs b x)->(nds.flatMap (Ra nm bs)).length<=2*nds.length
 |[],_=>zW _
 |a::r,h=>by
  rw[FA,zB,zK];have h1:=PP (h a (zO ..)) nm bs;have h2:=PJ nm bs r (λx hx=>h x (zQ _ hx));lia
theorem nvt {i j:Int}(c:(!decide (V.int i=V.int j))=true):i≠j:=λz=>by
 rw[z]at c
 simp at c
theorem nvf {i j:Int}(c: ¬(!decide (V.int i=V.int j))=true):i=j:=by
 by_cases h:i=j
 ·exact h
 ·refine absurd ?_ c;have: ¬V.int i=V.int j:=λz=>h (by injection z);rw[yA this];rfl
inductive IL (vs:List V) (H:Hp) (Q:VK) (E:XK):Prop
 |mk (v:V) (nd:Nd) (bx na:Addr) (bs:List Str) (ns:List Tt) (us:List V) (hs:DO) (h0:vs=[v,.ref bx,.ref na]) (h1:uS H 10 v nd) (h2:(pre nd).length<=100000) (h3:H bx=some (.tup (bs.map V.str))) (h4:H na=some (.tup us)) (h5:Paired (Jj H) us ns) (h6:(∀x∈pre nd,QW hs (bs.length:Int) x)) (h7:ns.length=hs.length) (h8: ∀l H',kS H H'->H l=none->H' l=some (.lst ((BD (ns.map (·.1)) bs (bare nd)).map V.str))->Q (.ref l) H'):IL vs H Q E
theorem Pd (T:WU K mg aW)(F:uB K "show_body" "show_body" Hx f fd)(Cc3:uT P w K mg base 1 "nodes_in" ["body"] Ka)(Cc7:uT P w K mg base 1 "word_of" ["kind"] LB)(Cc1:uT P w K mg base 1 "show_own" ["kind","number","boxes","names"] JZ):BT P w K mg base 2 f fd ["body","boxes","names"] IL:=by
 refine F.oN Ai λcdv A outer s H vs Q E hr h=>?_;obtain⟨v,nd,bx,na,bs,ns,us,hs,rfl,hv,hc,eb,en,pn,ft,hl,q⟩:=h;refine⟨_,(zF (yS (i:=3) Ai.nd rfl (Or.inl rfl) (xV zG))
   (zF (Al xS rfl (Ik (yD Cc3 hr rfl (zA (pv 0) zG) jK)) (Bo rfl (xU (xJ (i:=4) Ai.nd rfl (Or.inl rfl)) (xU (xJ (i:=5) Ai.nd rfl (Or.inl rfl)) (xU (xJ (i:=6) Ai.nd rfl (Or.inl rfl)) (xU (xJ (i:=7) Ai.nd rfl (Or.inl rfl)) uL))))) (zF (FI (xP (PW.pt (HI (yI LW (pv 4) (xL rfl T.m_NUMBER) (yP _)) (Fo (yI LW (pv 4) (xL rfl T.m_GET) (yP _))))) (zL (jJ (qI zU yF yE jO (pv 3) (zA (yD Cc7 hr rfl (zA (pv 4) zG) jK) zG)))) yM))
   (zL (Al xS rfl (ZQ (pv 6)) (xJ (i:=8) Ai.nd rfl (Or.inl rfl)) (zL (jJ (qI zU yF yE jO (pv 3) (zA (yD Cc1 hr rfl (zA (pv 4) (zA (pv 8) (zA (pv 1) (zA (pv 2) zG)))) jK) zG))))))))
   (zL (yO (pv 3))))),?_⟩
 try dsimp only[Cx.nox,Cx.exc,Cx.wish,xX]
 refine⟨sm0,λl hl0=>?_⟩;have s1:=zN hl0 (.lst []);refine⟨_,rfl,v,nd,rfl,hv.tups (.same s1),by lia,λll vs H1 s2 hll el pv=>?_⟩;rw[Sw]at q;have lv:=Paired.len pv;have nll:ll≠l:=λz=>by rw[z,zH]at hll;cases hll
 have el0:H1 l=some (.lst []):=s2 _ _ zH;have sl:sizeLine=16777216:=BU;refine⟨ll,rfl,⟨_,.of el⟩,JM (xs:=vs) (λi σ' H'=> ∃v4 v5 v6 v7 v8,σ'=[some v,some (.ref bx),some (.ref na),some (.ref l),v4,v5,v6,v7,v8]/\H' l=some (.lst ((((pre nd).take i).flatMap (Ra (ns.map (·.1)) bs)).map V.str))/\(∀b o,b≠l->H1 b=some o->H' b=some o)) ⟨_,_,_,_,_,rfl,el0,λb o _ e=>e⟩ ?_ ?_ ?_⟩
 ·rintro i σ' H' _ ⟨v4,v5,v6,v7,v8,rfl,_,kp⟩;exact .of (kp _ _ nll el)
 ·rintro i x σ' H' hx ⟨v4,v5,v6,v7,v8,rfl,ew,kp⟩;have hi:i<(pre nd).length:=by have:=(List.getElem?_eq_some_iff.mp hx).1;lia
  have ex:(pre nd)[i]? =some (pre nd)[i]:=zE hi;have fx:=ft _ (zX ex);have nx:=Paired.get pv _ _ _ hx ex;have et:(pre nd).take (i+1)=(pre nd).take i++[(pre nd)[i]]:=by rw[wQ,ex];rfl
  generalize(pre nd)[i]=nd1 at *
  have wl:=PJ (ns.map (·.1)) bs ((pre nd).take i) (λx hx=>ft x (wR hx));have tl:((pre nd).take i).length<=100000:=by rw[yJ];lia
  have wl1:=PP fx (ns.map (·.1)) bs;obtain⟨k,p,own,ps,rfl,k0,k1,of,sm⟩:=fx;obtain⟨t,o,pq,vs2,rfl,etn,eo,ep,pr⟩:=nx;have tp: ∀{b:Addr} {xs:List V} {G:Hp},(∀b o,b≠l->H1 b=some o->G b=some o)->H1 b=some (.tup xs)->G b=some (.tup xs):=λh e=>h _ _ (λz=>by rw[z,el0]at e;cases e) e;refine⟨t,_,rfl,.of (tp kp etn),rfl,_,_,rfl,_,_,rfl,_,_,rfl,_,_,rfl,rfl,?_⟩;have sz: ∀{xs:List Str},xs.length<=200010->(xs.map V.str).length +1<=sizeLine:=λh=>by rw[zD];lia
  have e2:Ra (ns.map (·.1)) bs (.mk k p own ps)=(if k=0\/k=1 then[]else[kwW.getD (k-2).toNat ""])++own.map (FX (ns.map (·.1)) bs k):=rfl;rw[et,List.flatMap_append,List.flatMap_singleton];generalize((pre nd).take i).flatMap (Ra (ns.map (·.1)) bs)=W0 at *
  refine⟨λσ' H'=>σ'=[some v,some (.ref bx),some (.ref na),some (.ref l),some (.int k),some (.int (p:Int)),some (.ref o),some (.ref pq),v8]/\H' l=some (.lst ((W0++(if k=0\/k=1 then[]else[kwW.getD (k-2).toNat ""])).map V.str))/\(∀b o,b≠l->H1 b=some o->H' b=some o),?_,?_⟩
  ·have no:(k=0\/k=1)->H' l=some (.lst ((W0++(if k=0\/k=1 then[]else[kwW.getD (k-2).toNat ""])).map V.str)):=λc=>by
    rw[zT c,xI];exact ew
   refine⟨_,rfl,rfl,_,rfl,kL (λc=>⟨_,rfl,rfl,_,rfl,kL (λc2=>?_) (λc2=>?_)⟩) (λc=>?_)⟩
   ·have h2: ¬(k=0\/k=1):=by
     have a:=nvt c;have b:=nvt c2;lia
    refine⟨_,rfl,.inl ⟨rfl,_,.of ew⟩,_,rfl,k,rfl,by lia,k1,l,_,_,rfl,rfl,ew,sz (by lia),rfl,?_,λb o nb e=>by rw[zV nb];exact kp b o nb e⟩;rw[zH,zI h2,yB];rfl
   ·have h2:k=1:=nvf c2;exact⟨rfl,no (.inr h2),kp⟩
   ·have h2:k=0:=nvf c;exact⟨rfl,no (.inl h2),kp⟩
  ·rintro σ' H2 ⟨rfl,ew2,kp2⟩;have lk:(W0++(if k=0\/k=1 then[]else[kwW.getD (k-2).toNat ""])).length<=200001:=by
    rw[zB];have:(if k=0\/k=1 then[]else[kwW.getD (k-2).toNat ""]:List Str).length<=1:=by split<;>simp
    lia
   have lo:own.length<=1:=by
    rcases of with⟨rfl,n,rfl⟩|⟨hk,n,rfl,a,b⟩|⟨rfl,n,rfl,a,b⟩|⟨rfl,n,rfl,a,b⟩|⟨rfl,n,rfl,a,b⟩|⟨hk,rfl⟩<;>simp
   rw[e2,<-yW];generalize W0++(if k=0\/k=1 then[]else[kwW.getD (k-2).toNat ""])=W1 at *
   refine⟨_,rfl,o,rfl,⟨_,.of (tp kp2 eo)⟩,Yr (xs:=own.map V.int) (λj σ' H'=> ∃v8,σ'=[some v,some (.ref bx),some (.ref na),some (.ref l),some (.int k),some (.int (p:Int)),some (.ref o),some (.ref pq),v8]/\H' l=some (.lst ((W1++(own.take j).map (FX (ns.map (·.1)) bs k)).map V.str))/\(∀b o,b≠l->H1 b=some o->H' b=some o)) ⟨_,rfl,by rw[List.take_zero,List.map_nil,xI];exact ew2,kp2⟩ ?_ ?_ ?_⟩
   ·rintro j σ' H' _ ⟨v8,rfl,_,kp3⟩;exact .of (tp kp3 eo)
   ·rintro j x σ' H' hx ⟨v8,rfl,ew3,kp3⟩;rw[zS]at hx;obtain⟨n,hn,rfl⟩:=Option.map_eq_some_iff.mp hx;have nm:=zX hn;have k3: ∀{b:Addr} {o:HO},H b=some o->H' b=some o:=fun{b o} e=>kp3 _ _ (zM e hl0) (s2 _ _ (s1 _ _ e));refine⟨_,rfl,.inl ⟨rfl,_,.of ew3⟩,_,rfl,_,rfl,_,rfl,_,rfl,k,n,bx,na,bs,ns,us,rfl,k3 eb,k3 en,Paired.imp (λv x ⟨t,b,h1,h2,h3⟩=>⟨t,b,h1,k3 h2,k3 h3⟩) pn,?_,?_,sm n nm,l,_,_,rfl,rfl,ew3,sz ?_,_,rfl,?_,λb o nb e=>by rw[zV nb];exact kp3 b o nb e⟩
    ·rintro c
     rcases of with⟨rfl,_⟩|⟨hk,n',rfl,a,b⟩|⟨rfl,_⟩|⟨rfl,_⟩|⟨rfl,_⟩|⟨hk,rfl⟩
     ·lia
     ·rw[List.mem_singleton.mp nm];lia
     ·lia
     ·lia
     ·lia
     ·cases nm
    ·rintro rfl
     rcases of with⟨z,_⟩|⟨hk,_⟩|⟨z,_⟩|⟨z,_⟩|⟨_,n',rfl,a,b⟩|⟨hk,rfl⟩
     ·lia
     ·lia
     ·lia
     ·lia
     ·rw[List.mem_singleton.mp nm];lia
     ·cases nm
    ·rw[zB,zD,yJ];lia
    ·rw[zH,wQ,hn]
     simp
   ·rintro σ' H' ⟨v8,rfl,ew3,kp3⟩;rw[zD,Ae]at ew3;exact⟨_,_,_,_,_,rfl,ew3,kp3⟩
 ·rintro σ' H' ⟨v4,v5,v6,v7,v8,rfl,ew,kp⟩;rw[lv,Ae]at ew;exact⟨_,rfl,q l H' (λb o e=>kp _ _ (zM e hl0) (s2 _ _ (s1 _ _ e))) hl0 ew⟩
def Sy (pr:List Pg):Str:=Txt.join "\n" (pr.map λx=>Txt.join " " (kG x))
theorem QV: ∀(nds:List Nd) (i:Nat),(Bu nds)[i]? =nds[i]?.map bare
 |[],i=>by rw[Bu];rfl
 |a::r,0=>by rw[Bu];rfl
 |a::r,i+1=>by rw[Bu,Gx,Gx];exact QV r i
mutual
theorem JA: ∀nd:Nd,(pre nd).length<=(Df (bare nd)).length
 | .mk k p own ps=>by
  rw[pre,L2.bare,Df,zK,zK,zB];have:=Nk ps;lia
theorem Nk: ∀nds:List Nd,(AG nds).length<=(AQ (Bu nds)).length
 |[]=>by rw[AG];exact yU _
 |a::r=>by
  rw[AG,Bu,AQ,zB,zB];have:=JA a;have:=Nk r;lia
end
theorem Lz {α:Type}(g:α->Nat)(k:Nat): ∀l:List α,(∀x∈l,g x<=k)->(l.map g).sum<=k*l.length
 |[],_=>yU _
 |x::l,h=>by
  rw[yQ,List.sum_cons,zK,Nat.mul_add];have h1:=h x (zO ..);have h2:=Lz g k l (λy hy=>h y (zQ _ hy));lia
theorem Gg (c:Nat): ∀qs:List (List Nat),(qR c qs).length<=(qs.map λq=>q.length+1).sum
 |[]=>zW _
 |[q]=>by show q.length<=_;simp
 |q::q2::r=>by
  have:=Gg c (q2::r);show(q++c::qR c (q2::r)).length<=q.length+1+((q2::r).map λq=>q.length+1).sum;rw[zB,zK];lia
theorem NF {ws:List Str}(h: ∀w∈ws,w.length<=61):(Txt.join " " ws).length<=62*ws.length:=by
 have e:(Txt.join " " ws).cps.toList =qR 32 (ws.map λx=>x.cps.toList):=by
  have:=Bs 32 ws;rw[show Txt.join " " ws=Str.join ⟨#[32]⟩ ws from vU _ _];exact this
 have hl:(Txt.join " " ws).cps.toList.length =(Txt.join " " ws).length:=yR;have:=Gg 32 (ws.map λx=>x.cps.toList);rw[<-e,hl,qQ]at this;refine yT this (Lz _ 62 ws λw hw=>?_);have h1:=h w hw;have h2:w.cps.toList.length=w.length:=yR;show w.cps.toList.length+1<=62;lia
def Sn (fs:List Fn):Prop:= ∀f∈fs,(Df f.2).length<=6000
mutual
theorem PN (nm bs:List Str): ∀t:Tr,(BD nm bs t).length<=(Df t).length
 | .mk k own ps=>by
  rw[BD,Df,zB,zK,zB];have h1:(JX nm bs k own).length<=1+own.length:=by
   unfold JX;rw[zB,zD];have:(if k=0\/k=1 then[]else[kwW.getD (k-2).toNat ""]:List Str).length<=1:=by split<;>simp
   lia
  have:=MX nm bs ps;lia
theorem MX (nm bs:List Str): ∀ts:List Tr,(BY nm bs ts).length<=(AQ ts).length
 |[]=>zW _
 |a::r=>by
  rw[BY,AQ,zB,zB];have:=PN nm bs a;have:=MX nm bs r;lia
end
theorem NG {hs:List IE}{x:Pg}(h:WX hs x)(hl:x.2.1.length<=6000):(kG x).length<=6016:=by
 unfold kG;simp only[zK,zB,yJ,xO];have:=h.hd.pb;have:=h.hd.bx.few;lia
theorem Nl {ns:List Tt}{fs:List Fn}(h:Sn fs): ∀x∈HK ns fs,x.2.1.length<=6000:=λx hx=>by
 obtain⟨i,e⟩:=qW hx;obtain⟨n,f,e1,e2,rfl⟩:=QZ e;exact yT (PN _ _ f.2) (h f (zX e2))
inductive IK (vs:List V) (H:Hp) (Q:VK) (E:XK):Prop
 |mk (na sh:Addr) (ns:List Tt) (fs:List Fn) (us:List V) (h0:vs=[.ref na,.ref sh]) (h1:H na=some (.tup us)) (h2:Paired (Jj H) us ns) (h3:H sh=some (.lst ((wr fs).map V.int))) (h4:YD ns fs) (h5:Sn fs) (h6: ∀H',kS H H'->Q (.str (Sy (HK ns fs))) H'):IK vs H Q E
theorem Pc (T:WU K mg aW)(F:uB K "show_text" "show_text" Hw f fd)(Cb6:uT P w K mg base 17 "functions" ["sheet"] (Vk CN))(Cb8:uT P w K mg base 2 "show_body" ["body","boxes","names"] IL):BT P w K mg base 18 f fd ["names","sheet"] IK:=by
 refine F.oN wO λcdv A outer s H vs Q E hr h=>?_;obtain⟨na,sh,ns,fs,us,rfl,en,pn,es,wf,shrt,q⟩:=h;refine⟨_,(zF (yS (i:=2) wO.nd rfl (Or.inl rfl) (xV zG))
   (zF (Al xS rfl (ZP true false rfl T.n_zip (zA (pv 0) (zA (yD Cb6 hr rfl (zA (pv 1) zG) jK) zG))) (Bo rfl (xU (xJ (i:=3) wO.nd rfl (Or.inl rfl)) (xU (xJ (i:=4) wO.nd rfl (Or.inl rfl)) uL))) (zF (BJ (pv 3) (Bo rfl (xU (xJ (i:=5) wO.nd rfl (Or.inl rfl)) (xU (xJ (i:=6) wO.nd rfl (Or.inl rfl)) uL))))
   (zF (BJ (pv 4) (Bo rfl (xU (xJ (i:=7) wO.nd rfl (Or.inl rfl)) (xU (xJ (i:=8) wO.nd rfl (Or.inl rfl)) (xU (xJ (i:=9) wO.nd rfl (Or.inl rfl)) uL)))))
   (zF (yS (i:=10) wO.nd rfl (Or.inl rfl) (yV wJ (yV wJ (yV wJ (yV wJ (xV (zA jX (zA (pv 5) zG))) (jU CP rfl T.n_list JP (zA (qJ Ln (pv 6) vR (qY (pv 7))) zG))) (xV (zA jX zG))) (jU CP rfl T.n_list JP (zA (qJ Ln (pv 6) (qY (pv 7)) vR) zG))) (xV (zA jX zG))))
   (zL (jJ (qI zU yF yE jO (pv 2) (zA (qI jM vW vV JF jX (zA (yV wJ (pv 10) (yD Cb8 hr rfl (zA (pv 9) (zA (pv 6) (zA (pv 0) zG))) jK)) zG)) zG))))))))
   (zL (yO (qI jM vW vV JF jX (zA (pv 2) zG)))))),?_⟩
 try dsimp only[Cx.nox,Cx.exc,Cx.wish,xX]
 refine⟨sm0,λl hl=>?_⟩;have s1:=zN hl (.lst []);obtain⟨nds,em,ef⟩:=zAs wf.good wf.fit;refine⟨_,rfl,_,rfl,sh,wr fs,rfl,s1 _ _ es,⟨λr er=>?_,λp x er=>?_⟩⟩
 ·rw[em]at er;cases er;rintro fl H1 s2 hfl ⟨rs,efl,elen,pr⟩;have k1:=s1.trans s2;have en1:=k1 _ _ en;have el1:H1 l=some (.lst []):=s2 _ _ zH;have nfl:fl≠l:=λz=>by rw[z,zH]at hfl;cases hfl
  have nna:na≠l:=zM en hl;have lu:=Paired.len pn;have lr:=Paired.len pr;have ln:=wf.len;have lnd:nds.length=fs.length:=by
   have:=elen;rw[zD]at this;exact this.symm
  have lz:rs.length=fs.length:=by rw[lr];show((fs.map Prod.fst).zip nds).length =_;rw[List.length_zip,zD];lia
  have pgl:=JB wf.len;have f16:fs.length<=16:=by have:=wf.good.hi;rwa [zD]at this
  have pok:=wf.prog;have sl:sizeLine=16777216:=BU;refine⟨na,fl,us,rs,rfl,.of en1,.of efl,Yq (b1:=true) (b2:=false) (xs:=us) (ys:=rs) (λi σ' H'=> ∃v3 v4 v5 v6 v7 v8 v9 v10,σ'=[some (.ref na),some (.ref sh),some (.ref l),v3,v4,v5,v6,v7,v8,v9,v10]/\H' l=some (.lst ((((HK ns fs).take i).map λx=>Txt.join " " (kG x)).map V.str))/\(∀b o,b≠l->H1 b=some o->H' b=some o)) ⟨_,_,_,_,_,_,_,_,rfl,el1,λb o _ e=>e⟩ (by lia) ?_ ?_ ?_⟩
  ·rintro i σ' H' _ ⟨v3,v4,v5,v6,v7,v8,v9,v10,rfl,_,kp⟩;exact⟨.of (kp _ _ nna en1),.of (kp _ _ nfl efl)⟩
  ·rintro i x y σ' H' t hx hy ⟨v3,v4,v5,v6,v7,v8,v9,v10,rfl,ew,kp⟩ ht;have hi:i<fs.length:=by have:=(List.getElem?_eq_some_iff.mp hx).1;lia
   have e1:ns[i]? =some (ns[i]'(by lia)):=zE _;have e2:fs[i]? =some fs[i]:=zE hi;have e3:nds[i]? =some (nds[i]'(by lia)):=zE _;have epg:(HK ns fs)[i]? =some (IW (ns.map (·.1)) (ns[i]'(by lia)) fs[i]):=by
    unfold HK;rw[uA,e1,e2]
   have ez:((fs.map Prod.fst).zip nds)[i]? =some (fs[i].1,nds[i]'(by lia)):=by
    rw[Fd,zS,e2];exact⟨rfl,e3⟩
   have ebr:bare (nds[i]'(by lia))=fs[i].2:=by
    have:=jB (λl:List Fn=>l[i]?) ef;have t1:(Td (fs.map Prod.fst,nds))[i]? =some (fs[i].1,bare (nds[i]'(by lia))):=by
     unfold Td;rw[Fd,zS,e2,QV,e3];exact⟨rfl,rfl⟩
    have this:(Td (fs.map Prod.fst,nds))[i]? =fs[i]?:=this;rw[t1,e2]at this;injection this with this
    rw[<-this]
   have bxl:=wf.bx i _ _ e1 e2;have gd:=wf.good.all i fs[i].1 (by rw[zS,e2];rfl);have hft:=wf.fit _ (zX e2);have hsm:=wf.sm _ (zX e2);have hsh:=shrt _ (zX e2);have nok:=(wf.nm _ (zX e1)).2.few;obtain⟨tn,tb,rfl,en2,eb2⟩:=Paired.get pn _ _ _ hx e1;obtain⟨tf,vb,rfl,ef2,nf2⟩:=Paired.get pr _ _ _ hy ez;have et:(HK ns fs).take (i+1)=(HK ns fs).take i++[IW (ns.map (·.1)) (ns[i]'(by lia)) fs[i]]:=by rw[wQ,epg];rfl
   have okl:=pok.all _ (zX epg);have wl:=NG okl (Nl shrt _ (zX epg));have wd:=JG okl;generalize hn:(ns[i]'(by lia))=n at *
   generalize hfi:fs[i]=fi at *
   generalize hnd:(nds[i]'(by lia))=nd at *
   obtain⟨nm,bs⟩:=n;obtain⟨⟨pm,bm⟩,tr⟩:=fi;dsimp only at *
   have k0: ∀{b:Addr} {o:HO},H b=some o->H' b=some o:=fun{b o} e=>kp _ _ (zM e hl) (k1 _ _ e);have tp1: ∀{b:Addr} {xs:List V},H1 b=some (.tup xs)->H' b=some (.tup xs):=λe=>kp _ _ (λz=>by rw[z,el1]at e;cases e) e;have g0:=zN ht (.tup [.ref tn,.ref tf]);refine⟨t,_,rfl,.of zH,rfl,_,_,rfl,_,_,rfl,rfl,?_⟩;refine⟨_,rfl,tn,_,rfl,.of (g0 _ _ (k0 en2)),rfl,_,_,rfl,_,_,rfl,rfl,?_⟩;refine⟨_,rfl,tf,_,rfl,.of (g0 _ _ (tp1 ef2)),rfl,_,_,rfl,_,_,rfl,_,_,rfl,rfl,?_⟩;obtain⟨pp,rfl⟩: ∃pp:Nat,pm=(pp:Int):=⟨pm.toNat,by lia⟩;have pb:pp<=bs.length:=by lia
   have p4:pp<=4:=by lia
   have eb9:=g0 _ _ (k0 eb2);refine⟨_,rfl,sm2,λa1 h1=>?_⟩;have g1:=zN h1 (.lst [V.str "fun",V.str nm]);refine⟨_,rfl,_,rfl,_,rfl,tb,_,rfl,g1 _ _ eb9,λr1 G1 x1 y1=>⟨r1,_,rfl,.inr (.of y1),λa2 h2=>?_⟩⟩;rw[Oe];have dl:((bs.map V.str).drop pp).length<=12:=by rw[xO,zD];lia
   have n2:=zN h2 (.lst ((bs.map V.str).take pp));refine⟨a1,a2,_,_,rfl,rfl,n2 _ _ (x1 _ _ zH),zH,small (show 2+((bs.map V.str).take pp).length<=1000 by rw[yJ,zD];lia),λa3 h3=>?_⟩;have n3:=zN h3 (.lst ([V.str "fun",V.str nm]++(bs.map V.str).take pp));refine⟨sm1,λa4 h4=>?_⟩;have n4:=zN h4 (.lst [V.str "with"]);refine⟨a3,a4,_,_,rfl,rfl,n4 _ _ zH,zH,small (show([V.str "fun",V.str nm]++(bs.map V.str).take pp).length +1<=1000 by rw[zB,yJ,zD];show 2+_+1<=_;lia),λa5 h5=>?_⟩;have n5:=zN h5 (.lst ([V.str "fun",V.str nm]++(bs.map V.str).take pp++[V.str "with"]));have z5:=g1.trans (x1.trans (n2.trans (n3.trans (n4.trans n5))));refine⟨_,rfl,_,rfl,_,rfl,tb,_,rfl,z5 _ _ eb9,λr2 G2 x2 y2=>⟨r2,_,rfl,.inr (.of y2),λa6 h6=>?_⟩⟩;rw[Of];have n6:=zN h6 (.lst ((bs.map V.str).drop pp));refine⟨a5,a6,_,_,rfl,rfl,n6 _ _ (x2 _ _ zH),zH,small (show([V.str "fun",V.str nm]++(bs.map V.str).take pp++[V.str "with"]).length +((bs.map V.str).drop pp).length<=1000 by rw[zB,zB,yJ,zD];show 2+_+1+_<=_;lia),λa7 h7=>?_⟩;have n7:=zN h7 (.lst ([V.str "fun",V.str nm]++(bs.map V.str).take pp++[V.str "with"]++(bs.map V.str).drop pp));refine⟨sm1,λa8 h8=>?_⟩;have n8:=zN h8 (.lst [V.str "is"]);have l7:([V.str "fun",V.str nm]++(bs.map V.str).take pp++[V.str "with"]++(bs.map V.str).drop pp).length<=27:=by
    rw[zB,zB,zB,yJ,zD];show 2+_+1+_<=_;lia
   refine⟨a7,a8,_,_,rfl,rfl,n8 _ _ zH,zH,small (yT (Nat.add_le_add_right l7 1) (by decide)),λa9 h9=>?_⟩;have n9:=zN h9 (.lst ([V.str "fun",V.str nm]++(bs.map V.str).take pp++[V.str "with"]++(bs.map V.str).drop pp++[V.str "is"]));have z9:=g0.trans (z5.trans (x2.trans (n6.trans (n7.trans (n8.trans n9)))));have kz: ∀{b:Addr} {o:HO},H b=some o->_:=fun{b o} e=>z9 _ _ (k0 e);refine⟨_,rfl,.inl ⟨rfl,_,.of (z9 _ _ ew)⟩,rfl,_,rfl,_,rfl,_,rfl,_,rfl,vb,nd,tb,na,bs,ns,us,fs.map Prod.fst,rfl,nf2.tups (λb xs e=>z9 _ _ (tp1 e)),?_,kz eb2,kz en,Paired.imp (λv x ⟨t,b,h1,h2,h3⟩=>⟨t,b,h1,kz h2,kz h3⟩) pn,?_,by rw[zD];exact ln,λlb HB sb hlb elb=>?_⟩
   ·have:=JA nd;rw[ebr]at this;lia
   ·refine Te nd 10 ?_ ?_
    ·rw[ebr,<-bxl];exact hft
    ·rw[ebr];exact hsm
   rw[ebr]at elb;have key:[V.str "fun",V.str nm]++(bs.map V.str).take pp++[V.str "with"]++(bs.map V.str).drop pp++[V.str "is"]++(BD (ns.map (·.1)) bs tr).map V.str=(kG (IW (ns.map (·.1)) (nm,bs) (((pp:Int),bm),tr))).map V.str:=by
    show _=(("fun":Str)::nm::(bs.take pp++("with":Str)::(bs.drop pp++("is":Str)::BD (ns.map (·.1)) bs tr))).map V.str
    simp
   have lk:=jB List.length key;rw[zD,zB]at lk;refine⟨a9,lb,_,_,rfl,rfl,sb _ _ zH,elb,by lia,λa10 h10=>?_⟩;have z10:=z9.trans (sb.trans (zN h10 (.lst ([V.str "fun",V.str nm]++(bs.map V.str).take pp++[V.str "with"]++(bs.map V.str).drop pp++[V.str "is"]++(BD (ns.map (·.1)) bs tr).map V.str))));have sw:((kG (IW (ns.map (·.1)) (nm,bs) (((pp:Int),bm),tr))).map (·.length)).sum<=61*(kG (IW (ns.map (·.1)) (nm,bs) (((pp:Int),bm),tr))).length:=Lz _ 61 _ λw hw=>(wd w hw).sh;refine⟨" ",a10,kG (IW (ns.map (·.1)) (nm,bs) (((pp:Int),bm),tr)),rfl,rfl,.of (by rw[zH,key]),?_,l,_,_,rfl,rfl,z10 _ _ ew,?_,_,_,_,_,_,_,_,_,rfl,?_,λb o nb e=>by rw[zV nb];exact z10 _ _ (kp b o nb e)⟩
   ·show _+_*1<=_;lia
   ·rw[zD,zD,yJ];lia
   ·rw[zH,et,yB,yB];rfl
  ·rintro σ' H' ⟨v3,v4,v5,v6,v7,v8,v9,v10,rfl,ew,kp⟩;rw[xG (by lia)]at ew;refine⟨rfl,_,rfl,_,l,_,rfl,rfl,.of ew,?_,q H' λb o e=>kp _ _ (zM e hl) (k1 _ _ e)⟩;have bd: ∀x∈HK ns fs,(Txt.join " " (kG x)).length<=375000:=λx hx=>by
    have okl:=pok.all x hx;have wl:=NG okl (Nl shrt x hx);have:=NF (ws:=kG x) λw hw=>(JG okl w hw).sh;lia
   have:=Lz (λx=>(Txt.join " " (kG x)).length) 375000 _ bd;rw[qQ,zD];show(_:List Nat).sum +_*1<=_;have e0:((HK ns fs).map ((λx:Str=>x.length)∘λx=>Txt.join " " (kG x))).sum =((HK ns fs).map (λx=>(Txt.join " " (kG x)).length)).sum:=rfl;lia
 ·rw[em]at er;cases er
theorem Mz {p:Addr}{x al:Str}{σ0:St}{H:Hp}{R:Hp->Prop}(hx:x.length<=1000000)(h0: ∃y,σ0=[y])(hd: ∀ys:List V,(ys.isEmpty=true ↔ AM x al=true)->R (upd H p (.lst ys))):
  MI (MH x) p σ0 (upd H p (.lst [])) (NW 0) (Vd (ZB (λx y H Q=> ∃i j,x=V.str i/\y=V.str j/\Q (V.bl (!!(Builtin.Str.occurrences j i 0 j.length 1).isEmpty)) H) (Va 0) (tC (.str al)))) (Va 0) R:=by
 have hl:x.cps.toList.length=x.length:=yR;refine WQ (λi σ' H'=>H'=upd H p (.lst (((x.cps.toList.take i).filter λc=>!decide (c∈al.cps.toList)).map λc=>V.str ⟨#[c]⟩))/\ ∃y,σ'=[y]) ⟨rfl,h0⟩ ?_ ?_
 ·rintro i c σ' H' hi hc ⟨rfl,y,rfl⟩;have e:x.cps.toList[i]? =some c:=by rw[AJ];exact hc
  have et:x.cps.toList.take (i+1)=x.cps.toList.take i++[c]:=by rw[wQ,e];rfl
  refine⟨_,rfl,_,_,rfl,rfl,_,rfl,?_⟩;rw[show(!!(Builtin.Str.occurrences al ⟨#[c]⟩ 0 al.length 1).isEmpty)=!decide (c∈al.cps.toList)from jB not (SJ c al)];cases z:decide (c∈al.cps.toList)with
  |true=>
   refine qG (CW.next hi ⟨?_,_,rfl⟩);rw[et,BR,show[c].filter (λc=>!decide (c∈al.cps.toList))=[]by rw[Bl,z];rfl,xI]
  |false=>
   refine kK ⟨_,rfl,_,zH,uN ?_,CW.next hi ⟨?_,_,rfl⟩⟩
   ·rw[zD];exact yT (List.length_filter_le _ _) (by rw[yJ];lia)
   ·rw[Ig,et,BR,yB,show[c].filter (λc=>!decide (c∈al.cps.toList))=[c]by rw[Bl,z];rfl];rfl
 ·rintro σ' H' ⟨rfl,_⟩;rw[xG (by rw[yR];exact zW _)];refine hd _ ?_;rw[Gu,List.isEmpty_iff,List.filter_eq_nil_iff];unfold AM;rw[wM];exact⟨λh c hc=>by have:=h c hc;simpa using this,λh c hc=>by have:=h c hc;simpa using this⟩
inductive Js (vs:List V) (H:Hp) (Q:VK) (E:XK):Prop
 |mk (x:Str) (h0:vs=[.str x]) (h1:x.length<=1000000) (h2: ∀b H',kS H H'->(b=true ↔ jL x=true)->Q (.bl b) H'):Js vs H Q E
theorem VQ (T:Ky K mg)(F:uB K "_law_is_name" "_law_is_name" CG f fd)(Cc:uT P w K mg base 1 "_law_words" [] Dz):BT P w K mg base 2 f fd ["_law_word"] Js:=by
 refine F.oN Lh λcdv A outer s H vs Q E hr h=>?_;obtain⟨x,rfl,hx,q⟩:=h;refine⟨_,(zF (xP (PW.pt (uX (yI wS (pv 0) (Ew Cc hr rfl jK) rfl) (vK (AO (LN Nt Nt zR (xB Bg rfl T.n_len kA (zA (pv 0) zG)) zR))))) (zL (yO Fp)) yM)
   (zL (yO (uM (Qp hr) (Lo (own:=["_law_sign"]) (ys:=[]) rfl (RF (pv 0)) (Ex (sc:=yH CG) rfl (by decide+kernel)) .nil (λ_ _ _ _ _=>(xJ (i:=0) (show List.Nodup [("_law_sign":Str)]from(by decide+kernel)) rfl (Or.inl rfl))) (λ_ _ _ _ _=>OT (yI GQ (pv 0) jX rfl)) (λ_ _ _ _ _=>(pv 0))) (xV zG) (yP _))))),?_⟩
 try dsimp only[Cx.nox,Cx.exc,Cx.wish,xX]
 refine⟨_,rfl,rfl,λp H1 hp s1 e1=>⟨p,_,rfl,.inl (.of e1),rfl,qE _,_,rfl,?_⟩⟩;rw[vM];cases m:decide (x∈kwA)with
 |true=>
  refine kK (q false H1 s1 ⟨λz=>(nomatch z),λz=>?_⟩);unfold jL at z;unfold kwA at m
  simp at z m
  rcases m with m|m
  ·exact absurd m z.1.2
  ·exact absurd m z.2
 |false=>
  refine qG ?_;have nk:x∉kwH/\x∉kwW:=by
   have:=xT m;unfold kwA at this
   simp at this
   exact this
  refine⟨_,rfl,x,rfl,kP (by lia),_,_,rfl,rfl,_,rfl,?_⟩;have fin: ∀c:Bool,(c=true ↔ (1<=x.length/\x.length<=8))->(∀{R:VK},(∀b H',kS H H'->(b=true ↔ jL x=true)->R (.bl b) H')->c=false->R (.bl false) H1):=λc e R h cf=>h false H1 s1 ⟨λz=>(nomatch z),λz=>by
   have:=FY z;rw[cf]at e;exact nomatch e.mpr ⟨this.2.1,this.2.2.1⟩⟩
  cases c1:decide ((1:Int)<=(x.length:Int))with
  |false=>
   refine qG ⟨_,rfl,kK ?_⟩;have:=xT c1;exact fin false ⟨λz=>(nomatch z),λz=>by lia⟩ q rfl
  |true=>
   have c1':=zZ c1;refine kK ⟨_,_,rfl,rfl,_,rfl,?_⟩;cases c2:decide ((x.length:Int)<=8)with
   |false=>
    refine kK ?_;have:=xT c2;exact fin false ⟨λz=>(nomatch z),λz=>by lia⟩ q rfl
   |true=>
    have c2':=zZ c2;refine qG ⟨_,rfl,x,rfl,λl hl=>Mz (by lia) ⟨_,rfl⟩ λys ey=>⟨sm0,λe he=>?_⟩⟩;have ne:l≠e:=λz=>by rw[<-z,zH]at he;cases he
    refine⟨l,e,ys,rfl,rfl,.of (by rw[zV ne];exact zH),.of zH,q _ _ (s1.trans ((zN hl _).trans (zN he _))) (ey.trans ?_)⟩;unfold jL;have k1:(1<=x.length):=by lia
    have k2:(x.length<=8):=by lia
    simp[k1,k2,nk.1,nk.2]
    rfl
inductive OD (vs:List V) (H:Hp) (Q:VK) (E:XK):Prop
 |mk (x:Str) (h0:vs=[.str x]) (h1:x.length<=1000000) (h2: ∀b H',kS H H'->(b=true ↔ qU x 60=true)->Q (.bl b) H'):OD vs H Q E
theorem XS (T:Ky K mg)(F:uB K "_law_is_number" "_law_is_number" Bb f fd):BT P w K mg base 2 f fd ["_law_word"] OD:=by
 refine F.oN Fi λcdv A outer s H vs Q E hr h=>?_;obtain⟨x,rfl,hx,q⟩:=h;refine⟨_,(zF (yS (i:=1) Fi.nd rfl (Or.inl rfl) (qJ Rt (pv 0) (qY (jU Dr rfl T.n_int Dt (zA (uM jY (qJ Rt (pv 0) vR (qY zR)) jX (yP _)) zG))) vR))
   (zF (xP (PW.pt (uX (AO (LN Nt Nt zR (xB Bg rfl T.n_len kA (zA (pv 1) zG)) zR)) (vK (yI (LV hr) (Lo (own:=["_law_sign"]) (ys:=[]) rfl (RF (pv 1)) (Ex (sc:=yH Bb) rfl (by decide+kernel)) .nil (λ_ _ _ _ _=>(xJ (i:=0) (show List.Nodup [("_law_sign":Str)]from(by decide+kernel)) rfl (Or.inl rfl))) (λ_ _ _ _ _=>OT (yI GQ (pv 0) jX rfl)) (λ_ _ _ _ _=>(pv 0))) (xV zG) (yP _))))) (zL (yO Fp)) yM)
   (zL (yO (uM jY (jU Ep rfl T.n_str MB (zA (jU Er rfl T.n_int Dt (zA (pv 0) zG)) zG)) (pv 0) (yP _)))))),?_⟩
 try dsimp only[Cx.nox,Cx.exc,Cx.wish,xX]
 refine⟨_,rfl,_,rfl,1,rfl,x,rfl,kP (by lia),?_⟩;refine⟨rfl,.inr ⟨_,rfl,_,rfl,x,rfl,kP (by lia),?_⟩⟩;rw[Yv];have hf:=QI x;have no:(¬(1<=(wB x).length/\(wB x).length<=60/\AM (wB x) "0123456789"=true))->qU x 60=true->False:=λc k=>by
  have k0:=Iq k;unfold qU at k;rw[jF,jF,jF]at k;exact c ⟨k0.1,by have:=k0.2.1;lia,k.1.2⟩
 refine⟨_,rfl,wB x,rfl,kP (by lia),_,_,rfl,rfl,_,rfl,?_⟩;cases c1:decide ((1:Int)<=((wB x).length:Int))with
 |false=>
  have:=xT c1;exact qG ⟨_,rfl,kK (q false H (kS.refl H) ⟨λz=>(nomatch z),λz=>(no (λy=>by lia) z).elim⟩)⟩
 |true=>
  have c1':=zZ c1;refine kK ⟨_,_,rfl,rfl,_,rfl,?_⟩;cases c2:decide (((wB x).length:Int)<=60)with
  |false=>
   have:=xT c2;exact kK (q false H (kS.refl H) ⟨λz=>(nomatch z),λz=>(no (λy=>by lia) z).elim⟩)
  |true=>
   have c2':=zZ c2;refine qG ⟨_,rfl,wB x,rfl,λl hl=>Mz (by lia) ⟨_,rfl⟩ λys ey=>⟨sm0,λe he=>?_⟩⟩;have ne:l≠e:=λz=>by rw[<-z,zH]at he;cases he
   have sm:=(zN hl (.lst ys)).trans (zN he (.lst []));refine⟨l,e,ys,rfl,rfl,.of (by rw[zV ne];exact zH),.of zH,_,rfl,?_⟩;cases c3:ys.isEmpty with
   |false=>
    refine kK (q false _ sm ⟨λz=>(nomatch z),λz=>(no (λy=>?_) z).elim⟩);rw[ey.mpr y.2.2]at c3;cases c3
   |true=>
    obtain⟨n1,n2,n3,n4⟩:=We (x:=x) (by lia) (by lia) (ey.mp c3);refine qG ⟨_,rfl,x,_,rfl,n1,n2,_,rfl,YX n3,_,rfl,rfl,q _ _ sm ?_⟩;rw[GY,decide_eq_true_iff];exact n4
inductive LH (vs:List V) (H:Hp) (Q:VK) (E:XK):Prop
 |mk (wd:Addr) (W:List Str) (h0:vs=[.ref wd]) (h1:H wd=some (.lst (W.map V.str))) (h2:W.length<=1000000) (h3: ∀p H',H p=none->kS H H'->H' p=some (.dK (Gb (Zf W)))->Q (.ref p) H'):LH vs H Q E
theorem Ub (T:Ky K mg)(F:uB K "_law_heads_told" "_law_heads_told" CH f fd):BT P w K mg base 1 f fd ["_law_words_here"] LH:=by
 refine F.oN Aj λcdv A outer s H vs Q E hr h=>?_;obtain⟨wd,W,rfl,hw,hl,q⟩:=h;refine⟨_,(zF (yS (i:=1) Aj.nd rfl (Or.inl rfl) Qm)
   (zF (Al xS rfl (uZ rfl T.n_range (zA (yV wU (xB yX rfl T.n_len kA (zA (pv 0) zG)) zR) zG)) (xJ (i:=2) Aj.nd rfl (Or.inl rfl)) (zL (xP (PW.pt (HI (yI jY (jI jA (pv 0) (pv 2) (λ_ _=>rfl)) jX (yP _)) (Fo (RB (No (NT hr) (jI jA (pv 0) (yV jN (pv 2) zR) (λ_ _=>rfl)) (pv 1)))))) (zF (yS (i:=3) Aj.nd rfl (Or.inl rfl) (yV wJ (qJ AK (pv 0) (qY (yV jN (pv 2) zR)) vR) (xV (zA jX zG))))
   (zL (Xx (NT hr) (pv 1) (jI jA (pv 0) (yV jN (pv 2) zR) (λ_ _=>rfl)) (qI zU BW BV Kr (pv 3) (zA jX zG)) rfl))) yM)))
   (zL (yO (pv 1))))),?_⟩
 try dsimp only[Cx.nox,Cx.exc,Cx.wish,xX]
 intro p hp;have nw:wd≠p:=zM hw hp;have hz:(W.map V.str).length =W.length:=zD ..;refine⟨_,rfl,wd,_,rfl,.inl (.of (by rw[zV nw];exact hw)),_,_,rfl,rfl,_,rfl,by lia,by lia,AE (λi σ' H'=> ∃(acc:List (Str×Int)) (v2 v3:Option V),σ'=[some (.ref wd),some (.ref p),v2,v3]/\(∀b o,b≠p->H b=some o->H' b=some o)/\H' p=some (.dK (Gb acc))/\Xj (W.drop i) acc=Zf W/\acc.length<=i)
  ⟨[],_,_,rfl,λb o n e=>by rw[zV n];exact e,zH,rfl,zW _⟩ ?_ ?_⟩
 ·rintro i σ' H' hi ⟨acc,v2,v3,rfl,kp,ep,eg,la⟩;have hi':i+1<W.length:=by lia
  have hw':=kp _ _ nw hw;have e1:W[i]? =some W[i]:=zE (by lia);have e2:W[i+1]? =some W[i+1]:=zE hi';rw[xQ (by lia)]at eg;generalize W[i]=x at e1 eg;have ed:W.drop (i+1)=W[i+1]::W.drop (i+2):=xQ hi';generalize W[i+1]=y at e2 ed;have atx:FO (W.map V.str) ((0:Int)+(i:Int))=some (.str x):=by
   rw[Int.zero_add];exact vB (by rw[zS,e1];rfl)
  have aty:FO (W.map V.str) ((0:Int)+(i:Int)+1)=some (.str y):=by
   have:=vB (xs:=W.map V.str) (j:=i+1) (v:=.str y) (by rw[zS,e2];rfl);rw[show(((i+1:Nat):Int))=(0:Int)+(i:Int)+1 by lia]at this;exact this
  refine⟨_,rfl,_,rfl,wd,_,_,_,rfl,rfl,.of hw',atx,rfl,_,rfl,?_⟩;rw[GY];unfold Xj at eg;refine kL (λc=>?_) (λc=>?_)
  ·rw[zT (zZ c),ed]at eg;refine⟨_,rfl,_,rfl,_,_,rfl,rfl,wd,_,_,_,rfl,rfl,.of hw',aty,_,rfl,p,_,rfl,IF.k (k:=Sum.inr y) ep,_,rfl,?_⟩;rw[BZ];unfold zAe at eg;dsimp only at eg;cases z:jT acc y with
   |some n=>
    rw[z]at eg;exact qG ⟨acc,_,_,rfl,kp,ep,by rw[ed];exact eg,by lia⟩
   |none=>
    rw[z]at eg;refine kK ⟨_,rfl,_,rfl,_,_,rfl,rfl,_,rfl,wd,_,rfl,.of hw',λs1 h1=>⟨sm1,λt1 h2=>?_⟩⟩;have es:DT (W.map V.str) (some ((0:Int)+(i:Int)+2)) none=(W.drop (i+2)).map V.str:=by
     rw[show(0:Int)+(i:Int)+2=((i+2:Nat):Int)by lia,Ku,List.map_drop]
    rw[es]at h2 ⊢;have n12:s1≠t1:=λz=>by rw[<-z,zH]at h2;cases h2
    refine⟨s1,t1,_,_,rfl,rfl,by rw[zV n12];exact zH,zH,kP (by rw[zD,xO];show _+1<=_;lia),λb hb=>?_⟩;have g1:=zN h1 (.lst ((W.drop (i+2)).map V.str));have g2:=g1.trans (zN h2 (.lst [.str "with"]));have g3:=g2.trans (zN hb (.lst ((W.drop (i+2)).map V.str++[.str "with"])));have eb:upd (upd (upd H' s1 (.lst ((W.drop (i+2)).map V.str))) t1 (.lst [.str "with"])) b (.lst ((W.drop (i+2)).map V.str++[.str "with"])) b=some (.lst ((W.drop (i+2)++[("with":Str)]).map V.str)):=by rw[zH,yB];rfl
    generalize upd (upd (upd H' s1 (.lst ((W.drop (i+2)).map V.str))) t1 (.lst [.str "with"])) b (.lst ((W.drop (i+2)).map V.str++[.str "with"]))=G at g3 eb;have ep':=g3 _ _ ep;refine⟨_,rfl,.inl ⟨rfl,_,.of eb⟩,b,_,_,_,rfl,rfl,.of eb,rfl,qE _,GX (yZ _ (List.mem_singleton.mpr rfl)),_,rfl,_,rfl,_,rfl,_,_,rfl,rfl,wd,_,_,_,rfl,rfl,.of (g3 _ _ hw'),aty,p,_,rfl,Xg.k (k:=Sum.inr y) ep' (uN (by unfold Gb;rw[zD];lia)),acc++[(y,(Dn (W.drop (i+2)):Int))],_,_,rfl,λb' o n e=>?_,?_,?_,?_⟩
    ·rw[zV n];exact g3 _ _ (kp _ _ n e)
    ·rw[zH,Vw _ (by rw[BZ,z];rfl)];unfold Gb;rw[yB];rfl
    ·rw[ed];exact eg
    ·rw[zB];show acc.length+1<=i+1;lia
  ·rw[zI (xT (Bool.eq_false_iff.mpr c))]at eg;exact⟨acc,_,_,rfl,kp,ep,eg,by lia⟩
 ·rintro σ' H' ⟨acc,v2,v3,rfl,kp,ep,eg,la⟩;have eg':acc=Zf W:=by
   rw[<-eg]
   by_cases z:W.length=0
   ·rw[vD (by lia)];rfl
   ·have hi:((W.map V.str).length -1:Int).toNat =W.length-1:=by lia
    rw[hi,xQ (by lia),vD (by lia)];unfold Xj;split<;>rfl
  refine⟨_,rfl,q p _ hp (λb o e=>kp _ _ (zM e hp) e) ?_⟩;rw[ep,eg']
inductive Kc (vs:List V) (H:Hp) (Q:VK) (E:XK):Prop
 |mk (wd bx:Addr) (W bs:List Str) (a most:Nat) (last:Str) (h0:vs=[.ref wd,.int (a:Int),.str last,.ref bx,.int (most:Int)]) (h1:H wd=some (.lst (W.map V.str))) (h2:YE W) (h3:H bx=some (.lst (bs.map V.str))) (h4:wd≠bx) (h5:bs.length<=most) (h6:most<=12) (h7:match wV W most last (W.length+1) a bs with| .ok r=> ∀p H',xY [bx] H H'->H' bx=some (.lst (r.2.map V.str))->H' p=some (.tup [.int ((r.1:Int)-1),.bl true])->Q (.ref p) H'| .error e=> ∀p H',xY [bx] H H'->H' p=some (.tup [.int (e:Int),.bl false])->Q (.ref p) H'):Kc vs H Q E
theorem RM (T:Ky K mg)(F:uB K "_law_names_to" "_law_names_to" DR f fd)(Ch:uT P w K mg base 2 "_law_is_name" ["_law_word"] Js):BT P w K mg base 3 f fd ["_law_words_here","_law_at","_law_end","_law_boxes","_law_most"] Kc:=by
 refine F.oN FW λcdv A outer s H vs Q E hr h=>?_;obtain⟨wd,bx,W,bs,a,most,last,rfl,hw,ok,hb,nwb,lb,lm,q⟩:=h;refine⟨_,(zF (EC xS (PW.pt (HI (yI EF (pv 1) (xB yX rfl T.n_len kA (zA (pv 0) zG)) (yP _)) (Fo (yI LW (jI jA (pv 0) (pv 1) (λ_ _=>rfl)) (pv 2) (yP _))))) (zF (xP (PW.pt (uX (AO (uY (yD Ch hr rfl (zA (jI jA (pv 0) (pv 1) (λ_ _=>rfl)) zG) jK))) (uX (yI wS (jI jA (pv 0) (pv 1) (λ_ _=>rfl)) (pv 3) rfl) (vK (yI jY (xB yX rfl T.n_len kA (zA (pv 3) zG)) (pv 4) (yP _)))))) (zL (yO (jZ (zA (pv 1) (zA Fp zG))))) yM)
   (zF (jJ (qI zU yF yE jO (pv 3) (zA (jI jA (pv 0) (pv 1) (λ_ _=>rfl)) zG)))
   (zL (yS (i:=1) FW.nd rfl (Or.inl rfl) (yV jN (pv 1) zR))))))
   (zL (yO (jZ (zA (pv 1) (zA (uM EF (pv 1) (xB yX rfl T.n_len kA (zA (pv 0) zG)) (yP _)) zG)))))),?_⟩
 try dsimp only[Cx.nox,Cx.exc,Cx.wish,xX]
 have hz:(W.map V.str).length =W.length:=zD ..;generalize er:wV W most last (W.length+1) a bs=res at q;refine⟨λm σ' H'=> ∃a' bs',σ'=[some (.ref wd),some (.int (a':Nat)),some (.str last),some (.ref bx),some (.int (most:Int))]/\xY [bx] H H'/\H' bx=some (.lst (bs'.map V.str))/\bs'.length<=most/\wV W most last m a' bs'=res/\W.length<a'+m,⟨W.length+1,a,bs,rfl,xY.refl _ _,hb,lb,er,by lia⟩,?_⟩;rintro m σ' H' ⟨a',bs',rfl,kp,hb',lb',eb,hm⟩;have hw':=kp _ _ (by rw[BQ];exact nwb) hw;have lz:(bs'.map V.str).length =bs'.length:=zD ..;refine⟨_,rfl,_,rfl,wd,_,rfl,.inl (.of hw'),_,_,rfl,rfl,_,rfl,?_⟩;have over: ∀{H2:Hp},xY [bx] H H2->res=.error a'-> ∀p,H2 p=none->Q (.ref p) (upd H2 p (.tup [.int (a':Nat),.bl false])):=λk2 e p hp=>by
  rw[e]at q;exact q p _ (k2.trans (xY.same (zN hp _))) zH
 by_cases c:a'<W.length
 ·rw[show decide (((a':Nat):Int)<((W.map V.str).length:Int))=true from zY (by lia)];refine kK ?_;obtain⟨m,rfl⟩: ∃m',m=m'+1:=⟨m-1,by lia⟩;have e1:W[a']? =some W[a']:=zE c;generalize W[a']=x at e1;have atx:FO (W.map V.str) (a':Int)=some (.str x):=vB (by rw[zS,e1];rfl);have eb':=eb;rw[wV,e1]at eb;dsimp only at eb;refine⟨_,rfl,_,rfl,wd,_,_,_,rfl,rfl,.of hw',atx,_,rfl,rfl,_,rfl,?_⟩;rw[GY]
  by_cases c2:x=last
  ·rw[zY c2];rw[zT c2]at eb;rw[<-eb]at q;refine qG ⟨_,rfl,_,rfl,_,rfl,wd,_,rfl,.inl (.of hw'),_,_,rfl,rfl,sm2,λp hp=>?_⟩;rw[show decide (((a':Nat):Int)<((W.map V.str).length:Int))=true from zY (by lia)];have nb:bx≠p:=zM hb' hp;refine q p _ (kp.trans (xY.same (zN hp _))) (by rw[zV nb];exact hb') ?_;rw[zH,show(((a'+1:Nat):Int)-1)=(a':Int)by lia]
  ·rw[yA c2];rw[zI c2]at eb;refine kK ⟨_,λσ2 H2 z=>z,?_⟩;refine⟨_,rfl,_,rfl,wd,_,_,_,rfl,rfl,.of hw',atx,x,rfl,ok.short x (zX e1),λb H2 s2 hb2=>⟨_,rfl,?_⟩⟩;have k2:=kp.trans (xY.same s2:xY [bx] H' H2);have hw2:=s2 _ _ hw';have hbx2:=s2 _ _ hb';cases b with
   |false=>
    refine kK ⟨_,rfl,sm2,over k2 ?_⟩;rw[<-eb];split
    ·rfl
    ·exact zI (λz=>nomatch hb2.mpr z.1)
   |true=>
    refine qG ⟨_,rfl,_,rfl,wd,_,_,_,rfl,rfl,.of hw2,atx,_,rfl,bx,_,rfl,.inl (.of hbx2),rfl,qE _,_,rfl,?_⟩;rw[vM]
    by_cases c3:x∈bs'
    ·rw[zY c3];refine kK ⟨_,rfl,sm2,over k2 ?_⟩;rw[<-eb];split
     ·rfl
     ·exact zI (λz=>z.2 c3)
    ·rw[yA c3];refine qG ⟨_,rfl,bx,_,rfl,.inl (.of hbx2),_,rfl,rfl,_,rfl,?_⟩
     by_cases c4:bs'.length=most
     ·rw[zT c4]at eb;rw[show decide (V.int ((bs'.map V.str).length:Int)=V.int (most:Int))=true from zY (by rw[lz,c4])];exact kK ⟨_,rfl,sm2,over k2 eb.symm⟩
     ·rw[zI c4,zT ⟨hb2.mp rfl,c3⟩]at eb;rw[show decide (V.int ((bs'.map V.str).length:Int)=V.int (most:Int))=false from yA (λz=>c4 (by injection z with z;lia))];refine qG ⟨_,rfl,.inl ⟨rfl,_,.of hbx2⟩,_,rfl,_,rfl,wd,_,_,_,rfl,rfl,.of hw2,atx,bx,_,_,rfl,rfl,hbx2,uN (by lia),_,rfl,_,_,rfl,rfl,m,qF m,a'+1,bs'++[x],rfl,k2.fst,?_,?_,eb,by lia⟩
      ·rw[zH,yB];rfl
      ·rw[zB];show bs'.length+1<=most;lia
 ·rw[show decide (((a':Nat):Int)<((W.map V.str).length:Int))=false from yA (by lia)];refine qG ⟨_,rfl,_,rfl,_,rfl,wd,_,rfl,.inl (.of hw'),_,_,rfl,rfl,sm2,?_⟩;rw[show decide (((a':Nat):Int)<((W.map V.str).length:Int))=false from yA (by lia)];refine over kp ?_;rw[<-eb];cases m with
  |zero=>rfl
  |succ m=>rw[wV,jC (by lia)]
structure WV (K:PySem.W.Frag)(mg:Str->Option Value):Prop extends Ky K mg where
 n_min:mg "min"=none
 n_sum:mg "sum"=none
theorem Ye {w:Str}(h:w∈kwW):w∉kwH:=by
 have: ∀x∈kwW,x∉kwH:=by decide+kernel
 exact this w h
theorem Yg {w:Str}(h:w∈kwW):kwA.idxOf w=3+kwW.idxOf w:=by
 unfold kwA;rw[List.idxOf_append,zI (Ye h)];show _+3=_;lia
inductive Rm (vs:List V) (H:Hp) (Q:VK) (E:XK):Prop
 |mk (wd bx hd:Addr) (W bs:List Str) (a:Nat) (w:Str) (h0:vs=[.ref wd,.int (a:Int),.ref bx,.ref hd]) (h1:H wd=some (.lst (W.map V.str))) (h2:YE W) (h3:H bx=some (.lst (bs.map V.str))) (h4:H hd=some (.dK (Gb (Zf W)))) (h5:(∀b∈bs,jL b=true)) (h6:W[a]? =some w) (h7:w∈kwW) (h8:match Am W (AA W) (a+1) (2+(kwW.idxOf w:Int)) bs with| .ok r=> ∀p H' (c:Nat),kS H H'->(c:Int)=GZ (AH W) (2+(kwW.idxOf w:Int)) r.1->c<=W.length+13->H' p=some (.tup [.int (r.2:Int),.int (c:Int)])->Q (.ref p) H'| .error e=> ∀p H',kS H H'->H' p=some (.tup [.int (e:Int),.non])->Q (.ref p) H'):Rm vs H Q E
theorem XQ (T:Ky K mg)(F:uB K "_law_own" "_law_own" IV f fd)(Cc:uT P w K mg base 1 "_law_words" [] Dz)(Ch:uT P w K mg base 2 "_law_is_name" ["_law_word"] Js)
  (Ck:uT P w K mg base 2 "_law_is_number" ["_law_word"] OD):BT P w K mg base 3 f fd ["_law_words_here","_law_at","_law_boxes","_law_heads_here"] Rm:=by
 refine F.oN Hs λcdv A outer s H vs Q E hr h=>?_;obtain⟨wd,bx,hd,W,bs,a,w,rfl,hw,ok,hb,hh,hbs,ea,mw,q⟩:=h;refine⟨_,(zF (yS (i:=4) Hs.nd rfl (Or.inl rfl) (yV wU (qI zU BW BV Kr (Ew Cc hr rfl jK) (zA (jI jA (pv 0) (pv 1) (λ_ _=>rfl)) zG)) zR))
   (zF (yS (i:=5) Hs.nd rfl (Or.inl rfl) (jI jA (yV wJ (pv 0) (xV (zA jX zG))) (yV jN (pv 1) zR) (λ_ _=>rfl)))
   (zF (xP (yI jY (pv 4) zR (yP _)) (zL (yO (jZ (zA (yV jN (yV jN (pv 1) zR) (jU Dr rfl T.n_int Dt (zA (uM wS (pv 5) (pv 2) rfl) zG))) (zA (jI jA (xV (zA ED (zA zR zG))) (jU Dr rfl T.n_int Dt (zA (uM wS (pv 5) (pv 2) rfl) zG)) (λ_ _=>rfl)) zG))))) yM)
   (zF (xP (yI wS (pv 4) (jZ (AD (.int (.int .nil)))) rfl) (zF (xP (PW.pt (HI (uY (yD Ck hr rfl (zA (pv 5) zG) jK)) (Fo (LN Nt Nt (yV wU (pv 4) zR) (jU Er rfl T.n_int Dt (zA (pv 5) zG)) zR)))) (zL (yO (jZ (zA (yV jN (pv 1) zR) (zA (yV wU (yV jN (jU Er rfl T.n_int Dt (zA (pv 5) zG)) (pv 4)) zR) zG))))) yM)
   (zL (yO (jZ (zA (yV jN (pv 1) zR) (zA ED zG)))))) yM)
   (zF (xP (yI jY (pv 4) zR (yP _)) (zF (xP (PW.pt (HI (uY (yD Ch hr rfl (zA (pv 5) zG) jK)) (Fo (RB (ZV (NT hr) (pv 5) (pv 3)))))) (zL (yO (jZ (zA (yV jN (pv 1) zR) (zA (ST (NT hr) (pv 3) (pv 5) (λ_ _=>rfl)) zG))))) yM)
   (zL (yO (jZ (zA (yV jN (pv 1) zR) (zA ED zG)))))) yM)
   (zL (yO (jZ (zA (yV jN (pv 1) zR) (zA (jI jA (xV (AD (.int (.int (.int (.int (.int (.int (.int (.int (.int (.int (.int (.int (.int (.int (.int .nil))))))))))))))))) (yV wU (pv 4) zR) (λ_ _=>rfl)) zG)))))))))),?_⟩
 try dsimp only[Cx.nox,Cx.exc,Cx.wish,xX]
 have la:=EI ea;have ata:FO (W.map V.str) (a:Int)=some (.str w):=vB (by rw[zS,ea];rfl);refine⟨rfl,λp1 H1 hp1 s1 e1=>⟨.inl ⟨rfl,_,.of e1⟩,_,rfl,_,rfl,wd,_,_,_,rfl,rfl,.of (s1 _ _ hw),ata,p1,_,_,_,rfl,rfl,.of e1,rfl,qE _,GX (by unfold kwA;exact yZ _ mw),_,_,rfl,rfl,?_⟩⟩;rw[Yg mw];have hlt:kwW.idxOf w<18:=List.idxOf_lt_length_iff.mpr mw;have ek:(((3+kwW.idxOf w:Nat):Int)-1)=2+(kwW.idxOf w:Int):=by lia
 rw[ek];have k2:(2:Int)<=2+(kwW.idxOf w:Int):=by lia
 have k19:2+(kwW.idxOf w:Int)<=19:=by lia
 generalize 2+(kwW.idxOf w:Int)=k at *
 obtain⟨x,nx⟩:=YV (W:=W) (a:=a+1) la;have hx:=nx.short ok.short;have atx:FO ((W++[("":Str)]).map V.str) ((a:Int)+1)=some (.str x):=by
  have:=vB (xs:=(W++[("":Str)]).map V.str) (j:=a+1) (v:=.str x) (by rw[zS,nx.at_];rfl);rw[show(((a+1:Nat):Int))=(a:Int)+1 by lia]at this;exact this
 have lw:=ok.few;refine⟨_,rfl,sm1,λl1 hl1=>?_⟩;have s2:=s1.trans (zN hl1 (.lst [.str ""]));refine⟨wd,l1,_,_,rfl,rfl,s2 _ _ hw,zH,kP (by rw[zD];show _+1<=_;lia),λl2 hl2=>?_⟩;have s3:=s2.trans (zN hl2 (.lst (W.map V.str++[.str ""])));have el2:upd (upd H1 l1 (.lst [.str ""])) l2 (.lst (W.map V.str++[.str ""])) l2=some (.lst ((W++[("":Str)]).map V.str)):=by rw[zH,yB];rfl
 generalize upd (upd H1 l1 (.lst [.str ""])) l2 (.lst (W.map V.str++[.str ""]))=G at s3 el2;refine⟨_,rfl,_,_,rfl,rfl,l2,_,_,_,rfl,rfl,.of el2,atx,?_⟩;have hb':=s3 _ _ hb;have hh':=s3 _ _ hh;have qe: ∀{H2:Hp},kS H H2->Am W (AA W) (a+1) k bs=.error (a+1)-> ∀p,H2 p=none->Q (.ref p) (upd H2 p (.tup [.int ((a:Int)+1),.non])):=λsm e p hp=>by
  rw[e]at q;have:=q p _ (sm.trans (zN hp _)) zH;exact this
 have qo: ∀{H2:Hp} (r:List Int×Nat) (c:Nat) (d:Int),kS H H2->Am W (AA W) (a+1) k bs=.ok r->(r.2:Int)=d->(c:Int)=GZ (AH W) k r.1->c<=W.length+13-> ∀p,H2 p=none->Q (.ref p) (upd H2 p (.tup [.int d,.int (c:Int)])):=λr c d sm e ed ec hc p hp=>by
  rw[e]at q;subst ed;exact q p _ c (sm.trans (zN hp _)) ec hc zH
 clear q;refine⟨_,rfl,rfl,_,rfl,?_⟩
 by_cases c2:k=2
 ·subst c2;refine kK ⟨_,rfl,_,_,rfl,rfl,_,rfl,_,rfl,bx,_,rfl,.inl (.of hb'),rfl,qE _,.inr ⟨_,rfl,_,_,rfl,rfl,sm2,λl3 hl3=>?_⟩⟩;have s4:=s3.trans (zN hl3 (.lst [.non,.int 1]));have hb4:=s4 _ _ hb;have ow:Am W (AA W) (a+1) 2 bs=if x∈bs then .ok ([(bs.idxOf x:Int)],a+2)else .error (a+1):=by
   show(match Ji W (a+1) bs with| .ok n=>Except.ok ([(n:Int)],a+1+1)| .error e=>Except.error e:Except Nat (List Int×Nat))=_;rw[nx.box hbs]
   by_cases z:x∈bs
   ·rw[zT z,zT z]
   ·rw[zI z,zI z]
  refine⟨_,rfl,_,rfl,bx,_,rfl,.inl (.of hb4),rfl,qE _,.inr ⟨_,rfl,l3,_,_,(if x∈bs then .int 1 else .non),rfl,rfl,.of zH,?_,sm2,?_⟩⟩
  ·rw[vM]
   by_cases z:x∈bs
   ·rw[zT z,zY z];rfl
   ·rw[zI z,yA z];rfl
  ·rw[vM]
   by_cases z:x∈bs
   ·rw[zT z,zY z];rw[zT z]at ow;exact qo _ 1 _ s4 ow (by show((a+2:Nat):Int)=(a:Int)+1+1;lia) rfl (by lia)
   ·rw[zI z,yA z];rw[zI z]at ow;have:=qe s4 ow;exact this
 have d2:decide (V.int k=V.int 2)=false:=yA λz=>c2 (by injection z);rw[d2];refine qG ⟨_,rfl,sm2,λt3 ht3=>⟨t3,_,rfl,.inr (.of zH),rfl,rfl,_,rfl,?_⟩⟩;have s4:=s3.trans (zN ht3 (.tup [.int 3,.int 4]));rw[show Yj (.int k) [V.int 3,.int 4]=decide (k=3\/k=4)from(JI k [3,4]).trans (decide_eq_decide.mpr (by simp))]
 by_cases c3:k=3\/k=4
 ·rw[zY c3];refine kK ⟨_,rfl,x,rfl,hx,λb H5 s5 hb5=>⟨_,rfl,?_⟩⟩;have s6:=s4.trans s5;have ow:Am W (AA W) (a+1) k bs=if qU x 60=true/\k-2<=vJ x/\vJ x<=12 then .ok ([vJ x],a+2)else .error (a+1):=by
   have e: ∀l:Int,Eg W (a+1) l=if qU x 60=true/\l<=vJ x/\vJ x<=12 then .ok (vJ x)else .error (a+1):=λl=>by
    unfold Eg;rw[nx.num]
    by_cases z:qU x 60=true
    ·rw[zT z];dsimp only
     by_cases y:vJ x<l\/12<vJ x
     ·rw[zT y,zI (λu=>by lia)]
     ·rw[zI y,zT ⟨z,by lia,by lia⟩]
    ·rw[zI z,zI (λu=>z u.1)]
   rcases c3 with rfl|rfl
   ·show(match Eg W (a+1) 1 with| .ok n=>Except.ok ([n],a+1+1)| .error e=>Except.error e:Except Nat (List Int×Nat))=_;rw[e,show(3:Int)-2=1 from rfl]
    by_cases z:qU x 60=true/\(1:Int)<=vJ x/\vJ x<=12
    ·rw[zT z,zT z]
    ·rw[zI z,zI z]
   ·show(match Eg W (a+1) 2 with| .ok n=>Except.ok ([n],a+1+1)| .error e=>Except.error e:Except Nat (List Int×Nat))=_;rw[e,show(4:Int)-2=2 from rfl]
    by_cases z:qU x 60=true/\(2:Int)<=vJ x/\vJ x<=12
    ·rw[zT z,zT z]
    ·rw[zI z,zI z]
  cases b with
  |false=>
   rw[zI (λu=>nomatch hb5.mpr u.1)]at ow;exact qG ⟨_,rfl,_,_,rfl,rfl,sm2,qe s6 ow⟩
  |true=>
   have kx:=hb5.mp rfl;obtain⟨i1,i2⟩:=Nw kx;refine kK ⟨_,rfl,_,_,rfl,rfl,_,rfl,x,_,rfl,i1,i2,_,_,rfl,rfl,_,rfl,?_⟩
   by_cases c4:k-2<=vJ x
   ·rw[zY c4];refine kK ⟨_,_,rfl,rfl,_,rfl,?_⟩
    by_cases c5:vJ x<=12
    ·rw[zY c5];rw[zT ⟨kx,c4,c5⟩]at ow;have cc:((vJ x+k-3).toNat:Int)=vJ x+k-3:=by lia
     refine kK ⟨_,rfl,_,_,rfl,rfl,_,rfl,x,_,rfl,i1,i2,_,rfl,_,_,rfl,rfl,_,_,rfl,rfl,sm2,?_⟩;rw[<-cc];refine qo _ _ _ s6 ow (by show((a+2:Nat):Int)=_;lia) ?_ (by lia);rw[cc]
     rcases c3 with rfl|rfl
     ·show vJ x+3-3=vJ x;lia
     ·show vJ x+4-3=1+vJ x;lia
    ·rw[yA c5];rw[zI (λu=>c5 u.2.2)]at ow;exact qG ⟨_,rfl,_,_,rfl,rfl,sm2,qe s6 ow⟩
   ·rw[yA c4];rw[zI (λu=>c4 u.2.1)]at ow;exact qG ⟨_,rfl,qG ⟨_,rfl,_,_,rfl,rfl,sm2,qe s6 ow⟩⟩
 rw[yA c3];refine qG ⟨_,rfl,rfl,_,rfl,?_⟩
 by_cases c6:k=6
 ·subst c6;refine kK ⟨_,rfl,x,rfl,hx,λb H5 s5 hb5=>⟨_,rfl,?_⟩⟩;have s6:=s4.trans s5;have hh6:=s6 _ _ hh;have ow:Am W (AA W) (a+1) 6 bs=match Aq W (AA W) (a+1)with| .ok n=>.ok ([n],a+2)| .error e=>.error e:=rfl
  rw[nx.called]at ow;cases b with
  |false=>
   rw[zI (λu=>nomatch hb5.mpr u)]at ow;exact qG ⟨_,rfl,_,_,rfl,rfl,sm2,qe s6 ow⟩
  |true=>
   have kx:=hb5.mp rfl;rw[zT kx]at ow;have hc:=zAn (W:=W) kx;refine kK ⟨_,rfl,_,rfl,hd,_,rfl,IF.k (k:=Sum.inr x) hh6,_,rfl,?_⟩;rw[BZ];cases z:jT (AA W) x with
   |none=>
    rw[z]at ow hc;rw[hc];exact qG ⟨_,rfl,_,_,rfl,rfl,sm2,qe s6 ow⟩
   |some fn=>
    rw[z]at ow hc;have hc:jT (Zf W) x=some (((AH W)[fn.toNat]?).getD 0):=hc;rw[hc];have nr:=Yk hc;have cc:((((AH W)[fn.toNat]?).getD 0).toNat:Int)=((AH W)[fn.toNat]?).getD 0:=by lia
    refine kK ⟨_,rfl,_,_,rfl,rfl,_,rfl,_,rfl,hd,.int (((AH W)[fn.toNat]?).getD 0),rfl,?_,sm2,?_⟩
    ·have:=IF.k (k:=Sum.inr x) hh6;rw[BZ,hc]at this;exact this
    ·rw[<-cc];exact qo ([fn],a+2) _ _ s6 ow (by show((a+2:Nat):Int)=_;lia) cc (by lia)
 have d6:decide (V.int k=V.int 6)=false:=yA λz=>c6 (by injection z);rw[d6];obtain⟨v,v3,av,dv,ow⟩:=Ul (W:=W) (bs:=bs) (num:=AA W) (cnt:=AH W) (a:=a+1) (k:=k) (by lia) k19 c6;refine qG ⟨_,rfl,_,_,rfl,rfl,sm15,λl5 hl5=>⟨_,rfl,_,_,rfl,rfl,l5,_,_,_,rfl,rfl,.of zH,av,sm2,?_⟩⟩;exact qo _ v _ (s4.trans (zN hl5 _)) ow (by show((a+1:Nat):Int)=_;lia) dv (by lia)
inductive ON (vs:List V) (H:Hp) (Q:VK) (E:XK):Prop
 |mk (wd bx hd:Addr) (W bs:List Str) (a:Nat) (h0:vs=[.ref wd,.int (a:Int),.ref bx,.ref hd]) (h1:H wd=some (.lst (W.map V.str))) (h2:YE W) (h3:W.length<=2500) (h4:H bx=some (.lst (bs.map V.str))) (h5:H hd=some (.dK (Gb (Zf W)))) (h6:(∀b∈bs,jL b=true)) (h7:a<=W.length) (h8:match JE W (AA W) (AH W) bs 10 a with| .ok b=> ∀p H',kS H H'->H' p=some (.tup [.int (b:Int),.bl true])->Q (.ref p) H'| .error e=> ∀p H',kS H H'->H' p=some (.tup [.int (e:Int),.bl false])->Q (.ref p) H'):ON vs H Q E
theorem Wc (T:WV K mg)(F:uB K "_law_body" "_law_body" HE f fd)(Cc:uT P w K mg base 1 "_law_words" [] Dz)(Cc0:uT P w K mg base 3 "_law_own" ["_law_words_here","_law_at","_law_boxes","_law_heads_here"] Rm)
  (Ck:uT P w K mg base 2 "_law_is_number" ["_law_word"] OD):BT P w K mg base 4 f fd ["_law_words_here","_law_at","_law_boxes","_law_heads_here"] ON:=by
 refine F.oN Ak λcdv A outer s H vs Q E hr h=>?_;obtain⟨wd,bx,hd,W,bs,a,rfl,hw,ok,hl,hb,hh,hbs,ha,q⟩:=h;refine⟨_,(zF (yS (i:=4) Ak.nd rfl (Or.inl rfl) (xV (zA zR zG)))
   (zF (EC xS (yI (LV hr) (pv 4) (xV zG) (yP _)) (zF (yS (i:=5) Ak.nd rfl (Or.inl rfl) (RG zU PySem.F.slot_list_pop PySem.F.type_list_pop Wk (pv 4)))
   (zF (xP (PW.pt (uX (yI Hh (pv 5) zR (yP _)) (vK (yI SU (pv 1) (xB yX rfl T.n_len kA (zA (pv 0) zG)) (yP _))))) (zL (yO (jZ (zA (xB (UI rfl) rfl T.n_min zAz (zA (pv 1) (zA (xB yX rfl T.n_len kA (zA (pv 0) zG)) zG))) (zA Fp zG))))) yM)
   (zF (yS (i:=6) Ak.nd rfl (Or.inl rfl) (jI jA (pv 0) (pv 1) (λ_ _=>rfl)))
   (zL (xP (PW.pt (uX (yI wS (pv 6) (pv 2) rfl) (vK (uY (yD Ck hr rfl (zA (pv 6) zG) jK))))) (zL (yS (i:=1) Ak.nd rfl (Or.inl rfl) (yV jN (pv 1) zR))) (zL (xP (yI wS (pv 6) (qJ AK (Ew Cc hr rfl jK) (qY zR) vR) rfl) (zF (BJ (yD Cc0 hr rfl (zA (pv 0) (zA (pv 1) (zA (pv 2) (zA (pv 3) zG)))) jK) (Bo rfl (xU (xJ (i:=1) Ak.nd rfl (Or.inl rfl)) (xU (xJ (i:=7) Ak.nd rfl (Or.inl rfl)) uL))))
   (zF (xP (yI RI (pv 7) ED (yP _)) (zL (yO (jZ (zA (pv 1) (zA Fp zG))))) yM)
   (zL (jJ (qI zU qO qL Gc (pv 4) (zA (yV ZY (xV (zA (yV jN (pv 5) zR) zG)) (pv 7)) zG)))))) (zL (yO (jZ (zA (pv 1) (zA Fp zG)))))))))))))
   (zL (yO (jZ (zA (pv 1) (zA Fp zG))))))),?_⟩
 try dsimp only[Cx.nox,Cx.exc,Cx.wish,xX]
 rw[<-Yl]at q;generalize er:PF W (AA W) (AH W) bs [10] a=res at q;refine⟨sm1,λdp hdp=>?_⟩;have lz:(W.map V.str).length =W.length:=zD ..;have nwd:wd≠dp:=zM hw hdp;have nbx:bx≠dp:=zM hb hdp;have nhd:hd≠dp:=zM hh hdp;refine⟨λm σ' H'=> ∃(a':Nat) (ds:List Nat) (v5 v6 v7:Option V),σ'=[some (.ref wd),some (.int (a':Int)),some (.ref bx),some (.ref hd),some (.ref dp),v5,v6,v7]/\(∀b o,b≠dp->H b=some o->H' b=some o)/\H' dp=some (.lst (ds.reverse.map λd:Nat=>V.int (11-(d:Int))))/\(∀d∈ds,d<=10)/\PF W (AA W) (AH W) bs ds a'=res/\a'<=W.length/\m=W.length-a'/\ds.length<=1+a'*2513,
  ⟨_,a,[10],_,_,_,rfl,λb o n e=>by rw[zV n];exact e,zH,λd hd=>by rw[List.mem_singleton.mp hd];decide,er,ha,rfl,by show 1<=_;lia⟩,?_⟩
 rintro m σ' H' ⟨a',ds,v5,v6,v7,rfl,kp,ed,h10,eg,ha',rfl,hl'⟩;refine⟨_,rfl,sm0,λe0 he0=>?_⟩;have s1:=zN he0 (.lst []);refine⟨dp,e0,_,rfl,rfl,.of (s1 _ _ ed),.of zH,_,rfl,?_⟩;have kp1: ∀b o,b≠dp->H b=some o->upd H' e0 (.lst []) b=some o:=λb o n e=>s1 _ _ (kp b o n e);have ed1:=s1 _ _ ed;generalize upd H' e0 (.lst [])=H1 at kp1 ed1;clear s1 he0 ed kp;have sm: ∀{G G':Hp},(∀b o,b≠dp->H b=some o->G b=some o)->kS G G'->kS H G':=λk g b o e=>g _ _ (k b o (zM e hdp) e);have over: ∀{G:Hp} (e:Nat),(∀b o,b≠dp->H b=some o->G b=some o)->res=.error e-> ∀p,G p=none->Q (.ref p) (upd G p (.tup [.int (e:Int),.bl false])):=λe k er p hp=>by
  rw[er]at q;exact q p _ (sm k (zN hp _)) zH
 cases ds with
 |nil=>
  refine qG ⟨_,rfl,sm2,λp hp=>?_⟩;have:res=.ok a':=eg.symm;rw[this]at q;exact q p _ (sm kp1 (zN hp _)) zH
 |cons d ds=>
  rw[uQ,yB]at ed1 ⊢;rw[show(((ds.reverse.map λd:Nat=>V.int (11-(d:Int)))++[d].map λd:Nat=>V.int (11-(d:Int))).isEmpty)=false by cases(ds.reverse.map λd:Nat=>V.int (11-(d:Int)))<;>rfl];refine kK ⟨_,λσ2 H2 z=>z,?_⟩;refine⟨_,rfl,.inl ⟨rfl,_,.of ed1⟩,dp,_,.int (11-(d:Int)),rfl,rfl,ed1,by rw[zB];show(_++_)[_+1-1]? =_;rw[Nat.add_sub_cancel,kI (zW _),Av];rfl,?_⟩;rw[show((ds.reverse.map λd:Nat=>V.int (11-(d:Int)))++[d].map λd:Nat=>V.int (11-(d:Int))).dropLast =ds.reverse.map λd:Nat=>V.int (11-(d:Int))from List.dropLast_concat];have kp2: ∀b o,b≠dp->H b=some o->upd H1 dp (.lst (ds.reverse.map λd:Nat=>V.int (11-(d:Int)))) b=some o:=λb o n e=>by rw[zV n];exact kp1 b o n e
  have ed2:upd H1 dp (.lst (ds.reverse.map λd:Nat=>V.int (11-(d:Int)))) dp=some (.lst (ds.reverse.map λd:Nat=>V.int (11-(d:Int)))):=zH;generalize upd H1 dp (.lst (ds.reverse.map λd:Nat=>V.int (11-(d:Int))))=H2 at kp2 ed2;have hw2:=kp2 _ _ nwd hw;have hb2:=kp2 _ _ nbx hb;have hh2:=kp2 _ _ nhd hh;have d10:=h10 d (zO ..);have mn:(if((W.map V.str).length:Int)<(a':Int)then((W.map V.str).length:Int)else(a':Int))=(a':Int):=zI (by lia);refine⟨_,rfl,_,_,rfl,rfl,_,rfl,?_⟩;cases d with
  |zero=>
   refine kK ⟨_,rfl,_,rfl,wd,_,rfl,.inl (.of hw2),_,_,rfl,sm2,?_⟩;rw[mn];exact over a' kp2 eg.symm
  |succ d=>
  rw[show decide ((10:Int)<11-((d+1:Nat):Int))=false from yA (by lia)];refine qG ⟨_,rfl,_,rfl,wd,_,rfl,.inl (.of hw2),_,_,rfl,rfl,_,rfl,?_⟩
  by_cases c:a'<W.length
  ·rw[show decide (((W.map V.str).length:Int)<=(a':Int))=false from yA (by lia)];have e1:W[a']? =some W[a']:=zE c;generalize W[a']=x at e1;have atx:FO (W.map V.str) (a':Int)=some (.str x):=vB (by rw[zS,e1];rfl);refine qG ⟨_,rfl,_,rfl,wd,_,_,_,rfl,rfl,.of hw2,atx,?_⟩;refine⟨_,rfl,_,rfl,bx,_,rfl,.inl (.of hb2),rfl,qE _,_,rfl,?_⟩;rw[vM];have leaf: ∀{G:Hp} (v6 v7:Option V),(x∈bs\/qU x 60=true)->kS H2 G-> ∃m',m'<W.length-a'/\ ∃(a'':Nat) (ds':List Nat) (u5 u6 u7:Option V),[some (.ref wd),some (.int ((a':Int)+1)),some (.ref bx),some (.ref hd),some (.ref dp),some (.int (11-((d+1:Nat):Int))),v6,v7]=[some (.ref wd),some (.int (a'':Int)),some (.ref bx),some (.ref hd),some (.ref dp),u5,u6,u7]/\(∀b o,b≠dp->H b=some o->G b=some o)/\G dp=some (.lst (ds'.reverse.map λd:Nat=>V.int (11-(d:Int))))/\(∀d∈ds',d<=10)/\PF W (AA W) (AH W) bs ds' a''=res/\a''<=W.length/\m'=W.length-a''/\ds'.length<=1+a''*2513:=λv6 v7 h g=>
    ⟨W.length-(a'+1),by lia,a'+1,ds,_,_,_,rfl,λb o n e=>g _ _ (kp2 b o n e),g _ _ ed2,λd hd=>h10 d (zQ _ hd),by rw[<-eg,Wy e1 h],by lia,rfl,by rw[zK]at hl';lia⟩
   by_cases c1:x∈bs
   ·rw[zY c1];exact kK ⟨_,rfl,_,_,rfl,rfl,leaf _ _ (.inl c1) (kS.refl _)⟩
   ·rw[yA c1];refine qG ⟨_,rfl,x,rfl,ok.short x (zX e1),λb H3 s3 hb3=>⟨_,rfl,?_⟩⟩;cases b with
    |true=>exact kK ⟨_,rfl,_,_,rfl,rfl,leaf _ _ (.inr (hb3.mp rfl)) s3⟩
    |false=>
     have c2: ¬qU x 60=true:=λz=>nomatch hb3.mpr z;refine qG ⟨_,rfl,rfl,λp4 H4 hp4 s4 e4=>⟨_,rfl,p4,_,rfl,.of e4,λp5 hp5=>?_⟩⟩;have s5:=(s3.trans s4).trans (zN hp5 (.lst (DT (kwA.map V.str) (some 3) none)));have e5:upd H4 p5 (.lst (DT (kwA.map V.str) (some 3) none)) p5=some (.lst (kwW.map V.str)):=by
      rw[zH];have:DT (kwA.map V.str) (some ((3:Nat):Int)) none=kwW.map V.str:=by rw[Ku];rfl
      exact jB (λl=>some (HO.lst l)) this
     generalize upd H4 p5 (.lst (DT (kwA.map V.str) (some 3) none))=H5 at s5 e5;have kp5: ∀b o,b≠dp->H b=some o->H5 b=some o:=λb o n e=>s5 _ _ (kp2 b o n e);refine⟨p5,_,rfl,.inl (.of e5),rfl,qE _,_,rfl,?_⟩;rw[vM]
     by_cases c3:x∈kwW
     ·rw[zY c3];rw[zAq e1 c1 c2 c3]at eg;refine kK ⟨_,rfl,_,rfl,_,rfl,_,rfl,wd,bx,hd,W,bs,a',x,rfl,s5 _ _ hw2,ok,s5 _ _ hb2,s5 _ _ hh2,hbs,e1,c3,?_⟩;cases eo:Am W (AA W) (a'+1) (2+(kwW.idxOf x:Int)) bs with
      |error e=>
       rw[eo]at eg;intro p H6 s6 e6;refine⟨p,_,rfl,.of e6,rfl,_,_,rfl,_,_,rfl,rfl,?_⟩;refine⟨_,rfl,rfl,_,rfl,kK ⟨_,rfl,sm2,over e (λb o n z=>s6 _ _ (kp5 b o n z)) eg.symm⟩⟩
      |ok r=>
       rw[eo]at eg;dsimp only at eg;intro p H6 cn s6 ec hc e6;rw[<-ec,jG]at eg;have near:=OZ eo (by lia);have ed6:H6 dp=some (.lst (ds.reverse.map λd:Nat=>V.int (11-(d:Int)))):=s6 _ _ (s5 _ _ ed2);refine⟨p,_,rfl,.of e6,rfl,_,_,rfl,_,_,rfl,rfl,?_⟩;refine⟨_,rfl,rfl,_,rfl,qG ?_⟩;rw[zK]at hl';refine⟨_,rfl,.inl ⟨rfl,_,.of ed6⟩,_,rfl,_,_,rfl,rfl,sm1,λl7 h7=>⟨_,rfl,l7,(cn:Int),_,rfl,rfl,zH,by lia,by lia,kP (by rw[jG];show 1*cn<=_;lia),λl8 h8=>?_⟩⟩;have s7:=zN h7 (.lst [.int (11-((d+1:Nat):Int)+1)]);have s8:=s7.trans (zN h8 (.lst (List.replicate (cn:Int).toNat [V.int (11-((d+1:Nat):Int)+1)]).flatten));have fl:(List.replicate (cn:Int).toNat [V.int (11-((d+1:Nat):Int)+1)]).flatten =List.replicate cn (V.int (11-(d:Int))):=by
        rw[jG,show(11-((d+1:Nat):Int)+1)=11-(d:Int)by lia];exact List.flatten_replicate_singleton
       refine⟨dp,l8,_,_,rfl,rfl,s8 _ _ ed6,zH,kP (by rw[fl,zD,uW,vZ];lia),W.length-r.2,by lia,r.2,List.replicate cn d++ds,_,_,_,rfl,λb o n z=>?_,?_,λe he=>?_,eg,near.1,rfl,?_⟩
       ·rw[zV n];exact s8 _ _ (s6 _ _ (kp5 b o n z))
       ·rw[zH,fl,List.reverse_append,List.reverse_replicate,yB,List.map_replicate]
       ·rcases List.mem_append.mp he with z|z
        ·rw[List.eq_of_mem_replicate z];lia
        ·exact h10 e (zQ _ z)
       ·rw[zB,vZ];have:a'+1<=r.2:=near.2.2.2.2.1;lia
     ·rw[yA c3];rw[zAp e1 c1 c2 c3]at eg;exact qG ⟨_,rfl,sm2,over a' kp5 eg.symm⟩
  ·rw[show decide (((W.map V.str).length:Int)<=(a':Int))=true from zY (by lia)];refine kK ⟨_,rfl,_,rfl,wd,_,rfl,.inl (.of hw2),_,_,rfl,sm2,?_⟩;rw[mn];refine over a' kp2 ?_;rw[<-eg,Ym (by lia)]
inductive Jr (vs:List V) (H:Hp) (Q:VK) (E:XK):Prop
 |mk (wd:Addr) (W:List Str) (h0:vs=[.ref wd]) (h1:H wd=some (.lst (W.map V.str))) (h2:YE W) (h3:W.length<=2500) (h4:match Jz W with| .ok _=> ∀H',kS H H'->Q .non H'| .error e=> ∀H',kS H H'->Q (.int (e:Int)) H'):Jr vs H Q E
theorem VJ (T:WV K mg)(F:uB K "_law_wrong" "_law_wrong" GJ f fd)(Ca0:uT P w K mg base 1 "_law_heads_told" ["_law_words_here"] LH)(Ch:uT P w K mg base 2 "_law_is_name" ["_law_word"] Js)
  (Cs:uT P w K mg base 3 "_law_names_to" ["_law_words_here","_law_at","_law_end","_law_boxes","_law_most"] Kc) (Cb7:uT P w K mg base 4 "_law_body" ["_law_words_here","_law_at","_law_boxes","_law_heads_here"] ON):BT P w K mg base 5 f fd ["_law_words_here"] Jr:=by
 refine F.oN qB λcdv A outer s H vs Q E hr h=>?_;obtain⟨wd,W,rfl,hw,ok,hl,q⟩:=h;refine⟨_,(zF (yS (i:=1) qB.nd rfl (Or.inl rfl) (yD Ca0 hr rfl (zA (pv 0) zG) jK))
   (zF (yS (i:=2) qB.nd rfl (Or.inl rfl) (xV zG))
   (zF (yS (i:=3) qB.nd rfl (Or.inl rfl) zR)
   (zF (EC xS (PW.pt (uX (yI (Qp hr) (pv 2) (xV zG) (yP _)) (vK (yI EF (pv 3) (xB yX rfl T.n_len kA (zA (pv 0) zG)) (yP _))))) (zF (xP (PW.pt (uX (yI (ZZ hr) (qJ AK (pv 0) (qY (pv 3)) (qY (yV jN (pv 3) zR))) (xV (zA jX zG)) (yP _)) (vK (yI jY (xB yX rfl T.n_len kA (zA (pv 2) zG)) zR (yP _))))) (zL (yO (pv 3))) yM)
   (zF (yS (i:=4) qB.nd rfl (Or.inl rfl) (jI jA (yV wJ (pv 0) (xV (zA jX zG))) (yV jN (pv 3) zR) (λ_ _=>rfl)))
   (zF (xP (PW.pt (uX (AO (uY (yD Ch hr rfl (zA (pv 4) zG) jK))) (vK (yI wS (pv 4) (pv 2) rfl)))) (zL (yO (yV jN (pv 3) zR))) yM)
   (zF (jJ (qI zU yF yE jO (pv 2) (zA (pv 4) zG)))
   (zF (yS (i:=5) qB.nd rfl (Or.inl rfl) (xV zG))
   (zF (BJ (yD Cs hr rfl (zA (pv 0) (zA (yV jN (pv 3) zR) (zA jX (zA (pv 5) (zA (yV FJ zR (jU Dr rfl T.n_int Dt (zA (uM Hh (xB yX rfl T.n_len kA (zA (pv 2) zG)) zR (yP _)) zG))) zG))))) jK) (Bo rfl (xU (xJ (i:=3) qB.nd rfl (Or.inl rfl)) (xU (xJ (i:=6) qB.nd rfl (Or.inl rfl)) uL))))
   (zF (xP (HJ (pv 6) (λ_=>rfl)) (zL (BJ (yD Cs hr rfl (zA (pv 0) (zA (yV jN (pv 3) zR) (zA jX (zA (pv 5) (zA zR zG))))) jK) (Bo rfl (xU (xJ (i:=3) qB.nd rfl (Or.inl rfl)) (xU (xJ (i:=6) qB.nd rfl (Or.inl rfl)) uL))))) yM)
   (zF (xP (HJ (pv 6) (λ_=>rfl)) (zL (BJ (yD Cb7 hr rfl (zA (pv 0) (zA (yV jN (pv 3) zR) (zA (pv 5) (zA (pv 1) zG)))) jK) (Bo rfl (xU (xJ (i:=3) qB.nd rfl (Or.inl rfl)) (xU (xJ (i:=6) qB.nd rfl (Or.inl rfl)) uL))))) yM)
   (zL (xP (AO (HJ (pv 6) (λ_=>rfl))) (zL (yO (pv 3))) yM)))))))))))
   (zL (yO ED)))))),?_⟩
 try dsimp only[Cx.nox,Cx.exc,Cx.wish,xX]
 generalize er:Jz W=res at q;refine⟨_,rfl,wd,W,rfl,hw,ok.few,λhd H1 fh s1 eh=>⟨sm0,λnm hnm=>?_⟩⟩;have lz:(W.map V.str).length =W.length:=zD ..;have hw1:=s1 _ _ hw;have nwd:wd≠nm:=zM hw1 hnm;have nhd:hd≠nm:=zM eh hnm;have sm: ∀{G:Hp},(∀b o,b≠nm->H1 b=some o->G b=some o)->kS H G:=λk b o e=>k b o (zM (s1 _ _ e) hnm) (s1 _ _ e);refine⟨λm σ' H'=> ∃(st:RS) (v4 v5 v6:Option V),σ'=[some (.ref wd),some (.ref hd),some (.ref nm),some (.int (st.at_:Int)),v4,v5,v6]/\(∀b o,b≠nm->H1 b=some o->H' b=some o)/\H' nm=some (.lst ((st.names.map (·.1)).map V.str))/\st.names.length<=16/\st.at_<=W.length/\
  ((st=⟨0,[],[],[]⟩/\m=W.length+1)\/(st.names≠[]/\m<=W.length/\Gh W (AA W) (AH W) m st=res/\W.length<=st.at_+m)),⟨W.length+1,⟨0,[],[],[]⟩,_,_,_,rfl,λb o n e=>by rw[zV n];exact e,zH,yU _,yU _,.inl ⟨rfl,rfl⟩⟩,?_⟩
 rintro m σ' H' ⟨st,v4,v5,v6,rfl,kp,en,n16,la,inv⟩;refine⟨_,rfl,sm0,λe0 he0=>?_⟩;have s3:=zN he0 (.lst []);refine⟨nm,e0,_,rfl,rfl,.of (s3 _ _ en),.of zH,_,rfl,?_⟩;have kp1: ∀b o,b≠nm->H1 b=some o->upd H' e0 (.lst []) b=some o:=λb o n e=>s3 _ _ (kp b o n e);have en1:=s3 _ _ en;generalize upd H' e0 (.lst [])=H2 at kp1 en1;have hw2:=kp1 _ _ nwd hw1;have eh2:=kp1 _ _ nhd eh;refine ZX (λz=>⟨_,rfl,_,rfl,wd,_,rfl,.inl (.of hw2),_,_,rfl,rfl,_,rfl,z⟩) (λc=>⟨_,λσ2 H2 z=>z,?_⟩) (λc1 c2=>?_)
 rotate_left
 ·have c2':=xT c2;have hn:st.names≠[]:=λz=>by rw[z]at c1;exact nomatch c1
  rcases inv with⟨z,_⟩|⟨_,_,ef,_⟩
  ·rw[z]at hn;exact absurd rfl hn
  have:res=.ok st:=by
   rw[<-ef];cases m with
   |zero=>rfl
   |succ m=>rw[Gh,zI (by lia)]
  rw[this]at q;exact q _ (sm kp1)
 have c':st.names=[]\/st.at_<W.length:=by
  rcases c with c|c
  ·rw[Gu,Gu,List.isEmpty_iff]at c;exact .inl c
  ·have:=zZ c;exact .inr (by lia)
 generalize efr:Lk W (AA W) (AH W) st=fr;have bad: ∀e,fr=.error e->res=.error e:=λe ee=>by
  rcases inv with⟨rfl,rfl⟩|⟨hn,_,ef,hm⟩
  ·rw[<-er,Jz,efr,ee]
  ·have lt:=c'.resolve_left hn;obtain⟨m,rfl⟩: ∃m',m=m'+1:=⟨m-1,by lia⟩;rw[<-ef,Gh,zT lt,efr,ee]
 have next: ∀st':RS,fr=.ok st'->st'.names≠[]-> ∃m',m'<m/\(st'.names≠[]/\m'<=W.length/\Gh W (AA W) (AH W) m' st'=res/\W.length<=st'.at_+m'):=λst' ee ne=>by
  have gg:=NX (efr.trans ee)
  rcases inv with⟨rfl,rfl⟩|⟨hn,hml,ef,hm⟩
  ·rw[Jz,efr,ee]at er;exact⟨W.length,qF _,ne,zW _,er,by lia⟩
  ·have lt:=c'.resolve_left hn;obtain⟨m,rfl⟩: ∃m',m=m'+1:=⟨m-1,by lia⟩;rw[Gh,zT lt,efr,ee]at ef;exact⟨m,qF _,ne,by lia,ef,by lia⟩
 clear er inv;have over: ∀{G:Hp} (e:Nat),(∀b o,b≠nm->H1 b=some o->G b=some o)->fr=.error e->Q (.int (e:Int)) G:=λe k ee=>by
  rw[bad e ee]at q;exact q _ (sm k)
 unfold Lk at efr;refine⟨_,rfl,_,rfl,_,rfl,_,rfl,_,_,rfl,rfl,_,rfl,wd,_,rfl,.of hw2,λl3 h3=>⟨sm1,λl4 h4=>?_⟩⟩;rw[WO,zS]at h4 ⊢;have n34:l3≠l4:=λz=>by rw[<-z,zH]at h4;cases h4
 have e3:upd (upd H2 l3 (.lst (W[st.at_]?.map V.str).toList)) l4 (.lst [.str "fun"]) l3=some (.lst (W[st.at_]?.map V.str).toList):=by rw[zV n34];exact zH
 have e4:upd (upd H2 l3 (.lst (W[st.at_]?.map V.str).toList)) l4 (.lst [.str "fun"]) l4=some (.lst [.str "fun"]):=zH;have s4:=(zN h3 (.lst (W[st.at_]?.map V.str).toList)).trans (zN h4 (.lst [.str "fun"]));generalize upd (upd H2 l3 (.lst (W[st.at_]?.map V.str).toList)) l4 (.lst [.str "fun"])=H3 at s4 e3 e4;have kp3: ∀b o,b≠nm->H1 b=some o->H3 b=some o:=λb o n e=>s4 _ _ (kp1 b o n e);have en3:=s4 _ _ en1;refine⟨l3,l4,W[st.at_]?.map V.str,.str "fun",rfl,rfl,.of e3,.of e4,λu hu=>?_,rfl,_,rfl,?_⟩
 ·cases z:W[st.at_]? with
  |none=>rw[z]at hu;cases hu
  |some y=>rw[z]at hu;cases hu;rfl
 cases e1:W[st.at_]? with
 |none=>
  rw[e1]at efr;exact kK ⟨_,rfl,over _ kp3 efr.symm⟩
 |some y=>
 rw[e1]at efr;dsimp only at efr;show if(!KZ (.str y) (.str "fun"))=true then _ else _;rw[My]
 by_cases cf:y="fun"
 rotate_left
 ·rw[yA cf];rw[zT (.inl cf)]at efr;exact kK ⟨_,rfl,over _ kp3 efr.symm⟩
 rw[zY cf];refine qG ⟨_,rfl,nm,_,rfl,.inl (.of en3),rfl,_,rfl,?_⟩;have ln:((st.names.map (·.1)).map V.str).length =st.names.length:=by rw[zD,zD]
 by_cases c16:st.names.length=16
 ·rw[zT (.inr c16)]at efr;rw[show decide (V.int (((st.names.map (·.1)).map V.str).length:Int)=V.int 16)=true from zY (by rw[ln,c16];rfl)];exact kK ⟨_,rfl,over _ kp3 efr.symm⟩
 rw[zI (λz=>z.elim (λz=>z cf) c16)]at efr;rw[show decide (V.int (((st.names.map (·.1)).map V.str).length:Int)=V.int 16)=false from yA (λz=>c16 (by injection z with z;lia))];have lt:=EI e1;obtain⟨x,nx⟩:=YV (W:=W) (a:=st.at_+1) lt;have hx:=nx.short ok.short;have atx:FO ((W++[("":Str)]).map V.str) ((st.at_:Int)+1)=some (.str x):=by
  have:=vB (xs:=(W++[("":Str)]).map V.str) (j:=st.at_+1) (v:=.str x) (by rw[zS,nx.at_];rfl);rw[show(((st.at_+1:Nat):Int))=(st.at_:Int)+1 by lia]at this;exact this
 rw[nx.new]at efr;refine qG ⟨_,rfl,sm1,λl5 h5=>?_⟩;have s5:=zN h5 (.lst [.str ""]);refine⟨wd,l5,_,_,rfl,rfl,s5 _ _ (s4 _ _ hw2),zH,kP (by rw[zD];show _+1<=_;lia),λl6 h6=>?_⟩;have s6:=s5.trans (zN h6 (.lst (W.map V.str++[.str ""])));have e6:upd (upd H3 l5 (.lst [.str ""])) l6 (.lst (W.map V.str++[.str ""])) l6=some (.lst ((W++[("":Str)]).map V.str)):=by rw[zH,yB];rfl
 generalize upd (upd H3 l5 (.lst [.str ""])) l6 (.lst (W.map V.str++[.str ""]))=H6 at s6 e6;have kp6: ∀b o,b≠nm->H1 b=some o->H6 b=some o:=λb o n e=>s6 _ _ (kp3 b o n e);have en6:=s6 _ _ en3;refine⟨_,rfl,_,_,rfl,rfl,l6,_,_,_,rfl,rfl,.of e6,atx,?_⟩;refine⟨_,rfl,x,rfl,hx,λb H7 s7 hb7=>⟨_,rfl,?_⟩⟩;have kp7: ∀b o,b≠nm->H1 b=some o->H7 b=some o:=λb o n e=>s7 _ _ (kp6 b o n e);have en7:=s7 _ _ en6;cases b with
 |false=>
  rw[zI (λz=>nomatch hb7.mpr z.1)]at efr;exact kK ⟨_,rfl,_,_,rfl,rfl,over (st.at_+1) kp7 efr.symm⟩
 |true=>
 have okx:=hb7.mp rfl;refine qG ⟨_,rfl,_,rfl,nm,_,rfl,.inl (.of en7),rfl,qE _,_,rfl,?_⟩;rw[vM]
 by_cases cx:x∈st.names.map (·.1)
 ·rw[zY cx];rw[zI (λz=>z.2 cx)]at efr;exact kK ⟨_,rfl,_,_,rfl,rfl,over (st.at_+1) kp7 efr.symm⟩
 rw[yA cx];rw[zT ⟨okx,cx⟩]at efr;dsimp only at efr;refine qG ⟨_,rfl,.inl ⟨rfl,_,.of en7⟩,_,rfl,nm,_,_,rfl,rfl,en7,uN (by rw[ln];lia),sm0,λbx hbx=>?_⟩;have en8:upd H7 nm (.lst ((st.names.map (·.1)).map V.str++[.str x])) nm=some (.lst ((st.names.map (·.1)).map V.str++[.str x])):=zH;have kp8: ∀b o,b≠nm->H1 b=some o->upd H7 nm (.lst ((st.names.map (·.1)).map V.str++[.str x])) b=some o:=λb o n e=>by rw[zV n];exact kp7 b o n e
 generalize upd H7 nm (.lst ((st.names.map (·.1)).map V.str++[.str x]))=H8 at *
 have s9:=zN hbx (.lst []);have kp9: ∀b o,b≠nm->H1 b=some o->upd H8 bx (.lst []) b=some o:=λb o n e=>s9 _ _ (kp8 b o n e);have en9:=s9 _ _ en8;have eb9:upd H8 bx (.lst []) bx=some (.lst (([]:List Str).map V.str)):=zH;have nbx: ∀{b:Addr} {o:HO},b≠nm->H1 b=some o->b≠bx:=λn e=>zM (kp8 _ _ n e) hbx;have nnb:nm≠bx:=zM en8 hbx;generalize upd H8 bx (.lst [])=H9 at *
 have lL:((st.names.map (·.1)).map V.str++[V.str x]).length =st.names.length+1:=by rw[zB,ln];rfl
 refine⟨_,rfl,_,rfl,_,_,rfl,rfl,_,rfl,_,rfl,nm,_,rfl,.inl (.of en9),_,_,rfl,rfl,.inr ⟨_,rfl,_,_,rfl,rfl,.inl ⟨by decide,by decide⟩,?_⟩⟩;have em:(4:Int)*(if decide ((1:Int)<(((st.names.map (·.1)).map V.str++[V.str x]).length:Int))=true then 1 else 0)=((if st.names=[]then 0 else 4:Nat):Int):=by
  rw[lL]
  by_cases z:st.names=[]
  ·rw[zT z,z];rfl
  ·have:=List.length_pos_iff.mpr z;rw[zI z,zT (zY (by lia))];rfl
 rw[em];have hw9:=kp9 _ _ nwd hw1;have m4:(if st.names=[]then 0 else 4:Nat)<=12:=by split<;>decide
 refine⟨wd,bx,W,[],st.at_+2,_,"with",rfl,hw9,ok,eb9,nbx nwd hw1,yU _,m4,?_⟩;have kk: ∀{G G':Hp},(∀b o,b≠nm->H1 b=some o->G b=some o)->xY [bx] G G'->(∀b o,b≠nm->H1 b=some o->G' b=some o):=λk g b o n e=>g b o (by rw[BQ];exact nbx n e) (k b o n e);cases e2:wV W (if st.names=[]then 0 else 4) "with" (W.length+1) (st.at_+2) []with
 |error e=>
  rw[e2]at efr;intro p H10 k10 ep;refine⟨p,_,rfl,.of ep,rfl,_,_,rfl,_,_,rfl,rfl,?_⟩;exact⟨_,rfl,_,rfl,qG ⟨_,rfl,_,rfl,qG ⟨_,rfl,_,rfl,kK ⟨_,rfl,over e (kk kp9 k10) efr.symm⟩⟩⟩⟩
 |ok r=>
 rw[e2]at efr;dsimp only at efr;intro p H10 k10 eb10 ep;have kp10:=kk kp9 k10;have en10:=k10 _ _ (by rw[BQ];exact nnb) en9;refine⟨p,_,rfl,.of ep,rfl,_,_,rfl,_,_,rfl,rfl,?_⟩;refine⟨_,rfl,_,rfl,kK ⟨_,rfl,_,rfl,_,_,rfl,rfl,_,rfl,?_⟩⟩;rw[show((r.1:Int)-1+1)=(r.1:Int)by lia];obtain⟨bl1,_,bl3,bl4⟩:=AU _ _ _ _ e2 (yU _);obtain⟨u1,a1,_,_,a4,_,_⟩:=DF _ _ _ _ e2;refine⟨wd,bx,W,r.2,r.1,12,"is",rfl,kp10 _ _ nwd hw1,ok,eb10,nbx nwd hw1,by lia,by decide,?_⟩;cases e3:wV W 12 "is" (W.length+1) r.1 r.2 with
 |error e=>
  rw[e3]at efr;intro p H11 k11 ep;refine⟨p,_,rfl,.of ep,rfl,_,_,rfl,_,_,rfl,rfl,?_⟩;exact⟨_,rfl,_,rfl,qG ⟨_,rfl,_,rfl,kK ⟨_,rfl,over e (kk kp10 k11) efr.symm⟩⟩⟩
 |ok r2=>
 rw[e3]at efr;dsimp only at efr;intro p H11 k11 eb11 ep;have kp11:=kk kp10 k11;have en11:=k11 _ _ (by rw[BQ];exact nnb) en10;refine⟨p,_,rfl,.of ep,rfl,_,_,rfl,_,_,rfl,rfl,?_⟩;refine⟨_,rfl,_,rfl,kK ⟨_,rfl,_,rfl,_,_,rfl,rfl,_,rfl,_,rfl,?_⟩⟩;rw[show((r2.1:Int)-1+1)=(r2.1:Int)by lia];obtain⟨_,_,_,cl4⟩:=AU _ _ _ _ e3 (by lia);obtain⟨u2,b1,_,_,b4,_,_⟩:=DF _ _ _ _ e3;have okb: ∀b∈r2.2,jL b=true:=λb hb=>by
  rw[b1,a1]at hb
  rcases List.mem_append.mp hb with z|z
  ·exact a4 b (by simpa using z)
  ·exact b4 b z
 refine⟨wd,bx,hd,W,r2.2,r2.1,rfl,kp11 _ _ nwd hw1,ok,hl,eb11,kp11 _ _ nhd eh,okb,cl4,?_⟩;have ef:=JD (W:=W) (num:=AA W) (cnt:=AH W) (bs:=r2.2) 10 r2.1 st.bodies;cases e4:uC W (AA W) (AH W) r2.2 10 r2.1 st.bodies with
 |error e=>
  rw[e4]at efr ef;rw[<-ef];intro p H12 s12 ep;refine⟨p,_,rfl,.of ep,rfl,_,_,rfl,_,_,rfl,rfl,?_⟩;exact⟨_,rfl,_,rfl,kK ⟨_,rfl,over e (λb o n e=>s12 _ _ (kp11 b o n e)) efr.symm⟩⟩
 |ok z=>
  rw[e4]at efr ef;rw[<-ef];dsimp only at efr;intro p H12 s12 ep;have gz:=Kp 10 r2.1 st.bodies z cl4 e4;obtain⟨m',hm',inv'⟩:=next _ efr.symm (by simp)
  refine⟨p,_,rfl,.of ep,rfl,_,_,rfl,_,_,rfl,rfl,?_⟩;refine⟨_,rfl,_,rfl,qG ⟨m',hm',_,_,_,_,rfl,λb o n e=>s12 _ _ (kp11 b o n e),?_,?_,?_,.inr inv'⟩⟩
  ·rw[s12 _ _ en11];show _=some (HO.lst (((st.names++[(x,r2.2)]).map (·.1)).map V.str));rw[yB,yB];rfl
  ·show(st.names++[(x,r2.2)]).length<=16;rw[zB];show st.names.length+1<=16;lia
  ·show z.1<=W.length;lia
structure zBc (K:PySem.W.Frag)(mg:Str->Option Value)(CN CT CC CM CR CE:Addr):Prop where
 n_isinstance:mg "isinstance"=none
 n_int:mg "int"=none
 n_bool:mg "bool"=none
 n_ValueError:mg "ValueError"=none
 m_NoSheet:mg "NoSheet"=some (.ref CN)
 m_NoText:mg "NoText"=some (.ref CT)
 m_NoCode:mg "NoCode"=some (.ref CC)
 m_NoName:mg "NoName"=some (.ref CM)
 m_NoRow:mg "NoRow"=some (.ref CR)
 m_ChainError:mg "ChainError"=some (.ref CE)
 exc:EL K CT
 is:Xb K CT
 mch:Mch K CT CE
 xat:uF K CT "at"
 kT:PySem.W.kitOne K (.ref CT) (.ref CT)=some true
 kC:PySem.W.kitOne K (.ref CT) (.ref CC)=some false
 kM:PySem.W.kitOne K (.ref CT) (.ref CM)=some false
 kR:PySem.W.kitOne K (.ref CT) (.ref CR)=some false
 kN:PySem.W.kitOne K (.ref CT) (.ref CN)=some false
 kV:PySem.W.kitOne K (.ref CT) (.type "ValueError")=some true
 kint:PySem.W.kitOne K (.type "int") (.type "int")=some true
 kbool:PySem.W.kitOne K (.type "int") (.type "bool")=some false
variable {CN CC CM CW CE:Addr}
inductive LD (CT:Addr) (vs:List V) (H:Hp) (Q:VK) (E:XK):Prop
 |mk (x d:Addr) (n:Int) (h0:vs=[.ref x,.int n]) (h1:H x=some (Jl x CT (some d))) (h2:H d=some (MD d [("at",.int n)])) (h3: ∀H',kS H H'->Q (.bl true) H'):LD CT vs H Q E
theorem TY (T:zBc K mg CN CT CC CM CW CE)(F:uB K "_law_right" "_law_right" GL f fd):BT P w K mg base 1 f fd ["_law_e","_law_at"] (LD CT):=by
 refine F.oN MN λcdv A outer s H vs Q E hr h=>?_;obtain⟨x,d,n,rfl,ex,ed,q⟩:=h;refine⟨_,(zF (xP (PW.pt (uX (AO (uY (xB QT rfl T.n_isinstance vG (zA (pv 0) (zA (Bz rfl T.m_NoText) zG))))) (uX (AO (uY (xB QT rfl T.n_isinstance vG (zA (pv 0) (zA (Il (v:=.ty "ValueError") rfl T.n_ValueError MR rfl) zG))))) (vK (uY (xB UK rfl T.n_isinstance vG (zA (pv 0) (zA (jZ (zA (Bz rfl T.m_NoCode) (zA (Bz rfl T.m_NoName) (zA (Bz rfl T.m_NoRow) (zA (Bz rfl T.m_NoSheet) zG))))) zG)))))))) (zL (yO Fp)) yM)
   (zL (yO (OY (xB HW rfl T.n_isinstance vG (zA (LR K rfl (pv 0)) (zA (Il (v:=.ty "int") rfl T.n_int Dt rfl) zG))) (OY (VB (xB HW rfl T.n_isinstance vG (zA (LR K rfl (pv 0)) (zA (Il (v:=.ty "bool") rfl T.n_bool To rfl) zG)))) (OW (uM jY (LR K rfl (pv 0)) (pv 1) (yP _)))))))),?_⟩
 try dsimp only[Cx.nox,Cx.exc,Cx.wish,xX]
 refine⟨_,rfl,x,CT,d,_,true,ex,ed,T.exc,T.is,.inr ⟨_,rfl,T.kT⟩,_,rfl,qG ?_⟩;refine⟨_,rfl,x,CT,d,_,true,ex,ed,T.exc,T.is,.inl ⟨_,rfl,T.kV⟩,_,rfl,qG ?_⟩;refine⟨_,rfl,sm4,λtp htp=>?_⟩;have s3:=zN htp (.tup (([CC,CM,CW,CN]:List Addr).map V.ref));refine⟨x,CT,d,_,tp,[CC,CM,CW,CN],false,s3 _ _ ex,s3 _ _ ed,T.exc,T.is,rfl,zH,Yh T.kC T.kM T.kR T.kN,_,rfl,qG ?_⟩;have ex:=s3 _ _ ex;have ed:=s3 _ _ ed;refine⟨_,rfl,x,CT,d,_,_,rfl,ex,ed,T.exc,T.xat,rfl,.inl ⟨_,_,_,true,rfl,.int n,T.kint,_,rfl,kK ?_⟩⟩;refine⟨_,rfl,x,CT,d,_,_,rfl,ex,ed,T.exc,T.xat,rfl,.inl ⟨_,_,_,false,rfl,.int n,T.kbool,_,rfl,_,rfl,kK ?_⟩⟩;refine⟨_,rfl,x,CT,d,_,_,rfl,ex,ed,T.exc,T.xat,rfl,_,rfl,rfl,?_⟩;have e:decide (V.int n=V.int n)=true:=zY rfl;have q':=q _ s3;rw[<-e]at q';exact q'
inductive Rr (vs:List V) (H:Hp) (Q:VK) (E:XK):Prop
 |mk (st wd:Addr) (W:List Str) (m:Int) (h0:vs=[.ref st,.ref wd]) (h1:BK H st m) (h2:m<=200000) (h3:H wd=some (.lst (W.map V.str))) (h4:wd≠st) (h5:W≠[]) (h6:W.length<=2400) (h7:(∀w∈W,ME w)) (h8: ∀l H' (W':List Str),kB st (m+4) H H'->H' l=some (.lst (W'.map V.str))->(∀w∈W',ME w)->W'.length<=W.length+9->Q (.ref l) H'):Rr vs H Q E
theorem XZ (T:WV K mg)(F:uB K "_law_bent" "_law_bent" HF f fd)(Ca:uT P w K mg base 1 "_law_draw" ["_law_pen_here","_law_many"] Dw)(Cc:uT P w K mg base 1 "_law_words" [] Dz):BT P w K mg base 2 f fd ["_law_pen_here","_law_words_here"] Rr:=by
 refine F.oN uK λcdv A outer s H vs Q E hr h=>?_;obtain⟨st,wd,W,m,rfl,D,m0,hw,nws,hn,hl,hwd,q⟩:=h;refine⟨_,(zF (yS (i:=2) uK.nd rfl (Or.inl rfl) (yD Ca hr rfl (zA (pv 0) (zA (yV jN (xB yX rfl T.n_len kA (zA (pv 1) zG)) zR) zG)) jK))
   (zF (yS (i:=3) uK.nd rfl (Or.inl rfl) (yD Ca hr rfl (zA (pv 0) (zA (xB yX rfl T.n_len kA (zA (pv 1) zG)) zG)) jK))
   (zF (yS (i:=4) uK.nd rfl (Or.inl rfl) (yV wJ (Ew Cc hr rfl jK) (xV (AD (.str (.str (.str (.str (.str (.str (.str (.str (.str (.str (.str .nil)))))))))))))))
   (zF (yS (i:=4) uK.nd rfl (Or.inl rfl) (yV wJ (pv 4) (xV (AD (.str (.str (.str (.str (.str .nil)))))))))
   (zF (yS (i:=5) uK.nd rfl (Or.inl rfl) (jI jA (yV wJ (pv 4) (pv 1)) (yD Ca hr rfl (zA (pv 0) (zA (yV jN (xB yX rfl T.n_len kA (zA (pv 4) zG)) (xB yX rfl T.n_len kA (zA (pv 1) zG))) zG)) jK) (λ_ _=>rfl)))
   (zF (yS (i:=6) uK.nd rfl (Or.inl rfl) (yD Ca hr rfl (zA (pv 0) (zA zR zG)) jK))
   (zF (xP (yI jY (pv 6) zR (yP _)) (zL (yO (yV wJ (qJ AK (pv 1) vR (qY (pv 2))) (qJ AK (pv 1) (qY (yV jN (pv 2) zR)) vR)))) yM)
   (zF (xP (yI jY (pv 6) zR (yP _)) (zL (yO (yV wJ (yV wJ (qJ AK (pv 1) vR (qY (pv 2))) (qJ AK (pv 1) (qY (pv 2)) (qY (yV jN (pv 2) zR)))) (qJ AK (pv 1) (qY (pv 2)) vR)))) yM)
   (zF (xP (yI EF (pv 6) zR (yP _)) (zL (yO (yV wJ (yV wJ (qJ AK (pv 1) vR (qY (pv 2))) (xV (zA (pv 5) zG))) (qJ AK (pv 1) (qY (yV jN (pv 2) zR)) vR)))) yM)
   (zF (xP (yI jY (pv 6) zR (yP _)) (zL (yO (yV wJ (yV wJ (qJ AK (pv 1) vR (qY (pv 2))) (xV (zA (pv 5) zG))) (qJ AK (pv 1) (qY (pv 2)) vR)))) yM)
   (zF (xP (PW.pt (HI (yI jY (pv 6) zR (yP _)) (Fo (yI EF (pv 2) (xB yX rfl T.n_len kA (zA (pv 1) zG)) (yP _))))) (zF (yS (i:=7) uK.nd rfl (Or.inl rfl) (jU CP rfl T.n_list JP (zA (pv 1) zG)))
   (zF (BJ (jZ (zA (jI jA (pv 7) (pv 3) (λ_ _=>rfl)) (zA (jI jA (pv 7) (pv 2) (λ_ _=>rfl)) zG))) (Bo rfl (xU (Kl (pv 7) (pv 2) FT) (xU (Kl (pv 7) (pv 3) FT) uL))))
   (zL (yO (pv 7))))) yM)
   (zF (xP (yI jY (pv 6) zR (yP _)) (zL (yO (qJ AK (pv 1) vR (qY (pv 2))))) yM)
   (zL (yO (yV wJ (pv 1) (qJ AK (pv 1) (qY (pv 2)) (qY (yV jN (pv 2) zR)))))))))))))))))),?_⟩
 try dsimp only[Cx.nox,Cx.exc,Cx.wish,xX]
 have lz:(W.map V.str).length =W.length:=zD ..;have lp:=List.length_pos_iff.mpr hn;refine⟨_,rfl,_,rfl,wd,_,rfl,.inl (.of hw),_,_,rfl,rfl,st,_,m,rfl,by lia,by lia,by lia,D,λr1 H1 a0 a1 D1=>?_⟩;have hw1:=D1.keep _ _ nws hw;refine⟨_,rfl,_,rfl,wd,_,rfl,.inl (.of hw1),st,_,m+1,rfl,by lia,by lia,by lia,D1.pen,λr2 H2 b0 b1 D2=>?_⟩;have hw2:=D2.keep _ _ nws hw1;have D12:=D1.trans D2;refine⟨rfl,λp3 H3 hp3 s3 e3=>⟨sm11,λp4 hp4=>?_⟩⟩;have s4:=zN hp4 (.lst [.str "0",.str "1",.str "12",.str "13",.str "2",.str "01",.str "-0",.str "-7",.str "1.0",.str "+1",.str "1_0"]);refine⟨p3,p4,_,_,rfl,rfl,s4 _ _ e3,zH,kP (by rw[zD];decide),λp5 hp5=>?_⟩;have s5:=s4.trans (zN hp5 (.lst (kwA.map V.str++[.str "0",.str "1",.str "12",.str "13",.str "2",.str "01",.str "-0",.str "-7",.str "1.0",.str "+1",.str "1_0"])));refine⟨_,rfl,sm5,λp6 hp6=>?_⟩;have n56:p5≠p6:=λz=>by rw[<-z,zH]at hp6;cases hp6
 refine⟨p5,p6,_,_,rfl,rfl,by rw[zV n56];exact zH,zH,kP (by rw[zB,zD];decide),λp7 hp7=>?_⟩;have s7:=(s3.trans s5).trans ((zN hp6 (.lst [.str "zz",.str "aaaaaaaaa",.str "A",.str "f_",.str "-"])).trans (zN hp7 (.lst (kwA.map V.str++[.str "0",.str "1",.str "12",.str "13",.str "2",.str "01",.str "-0",.str "-7",.str "1.0",.str "+1",.str "1_0"]++[.str "zz",.str "aaaaaaaaa",.str "A",.str "f_",.str "-"]))));have e7:upd (upd (upd (upd H3 p4 (.lst [.str "0",.str "1",.str "12",.str "13",.str "2",.str "01",.str "-0",.str "-7",.str "1.0",.str "+1",.str "1_0"])) p5 (.lst (kwA.map V.str++[.str "0",.str "1",.str "12",.str "13",.str "2",.str "01",.str "-0",.str "-7",.str "1.0",.str "+1",.str "1_0"]))) p6 (.lst [.str "zz",.str "aaaaaaaaa",.str "A",.str "f_",.str "-"])) p7 (.lst (kwA.map V.str++[.str "0",.str "1",.str "12",.str "13",.str "2",.str "01",.str "-0",.str "-7",.str "1.0",.str "+1",.str "1_0"]++[.str "zz",.str "aaaaaaaaa",.str "A",.str "f_",.str "-"])) p7=some (.lst (menuW.map V.str)):=by
  rw[zH];unfold menuW;rw[yB,yB];rfl
 generalize upd (upd (upd (upd H3 p4 (.lst [.str "0",.str "1",.str "12",.str "13",.str "2",.str "01",.str "-0",.str "-7",.str "1.0",.str "+1",.str "1_0"])) p5 (.lst (kwA.map V.str++[.str "0",.str "1",.str "12",.str "13",.str "2",.str "01",.str "-0",.str "-7",.str "1.0",.str "+1",.str "1_0"]))) p6 (.lst [.str "zz",.str "aaaaaaaaa",.str "A",.str "f_",.str "-"])) p7 (.lst (kwA.map V.str++[.str "0",.str "1",.str "12",.str "13",.str "2",.str "01",.str "-0",.str "-7",.str "1.0",.str "+1",.str "1_0"]++[.str "zz",.str "aaaaaaaaa",.str "A",.str "f_",.str "-"]))=H7 at *
 have lm:(menuW.map V.str).length =37:=by rw[zD,QB]
 have hw7:=s7 _ _ hw2;have D7:=D12.trans (D2.pen.more s7);clear s5 s4 hp4 hp5 hp6 n56;refine⟨_,rfl,_,rfl,p7,wd,_,_,rfl,rfl,e7,hw7,kP (by lia),λp8 hp8=>?_⟩;have D8:=D7.trans (D7.pen.new hp8 (.lst (menuW.map V.str++W.map V.str)));have n7:p7≠p8:=zM e7 hp8;have n8:wd≠p8:=zM hw7 hp8;have e8:upd H7 p8 (.lst (menuW.map V.str++W.map V.str)) p8=some (.lst ((menuW++W).map V.str)):=by rw[zH,yB]
 have e7':upd H7 p8 (.lst (menuW.map V.str++W.map V.str)) p7=some (.lst (menuW.map V.str)):=by rw[zV n7];exact e7
 have hw8:upd H7 p8 (.lst (menuW.map V.str++W.map V.str)) wd=some (.lst (W.map V.str)):=by rw[zV n8];exact hw7
 generalize upd H7 p8 (.lst (menuW.map V.str++W.map V.str))=H8 at D8 e8 e7' hw8;have np8:p8≠st:=Ne.symm (D7.pen.ne hp8);refine⟨_,rfl,_,rfl,p7,_,rfl,.inl (.of e7'),_,rfl,wd,_,rfl,.inl (.of hw8),_,_,rfl,rfl,st,_,m+2,rfl,by lia,by lia,by lia,D8.pen.mono (by lia),λr3 H9 c0 c1 D9=>?_⟩;have hl3:r3.toNat<(menuW++W).length:=by rw[zB,QB];lia
 obtain⟨x,hx⟩: ∃x,(menuW++W)[r3.toNat]? =some x:=⟨_,zE hl3⟩;have wx:ME x:=by
  rcases List.mem_append.mp (zX hx)with z|z
  ·exact Yb x z
  ·exact hwd x z
 refine⟨p8,_,_,.str x,rfl,rfl,.of (D9.keep _ _ np8 e8),Du c0 (by rw[zS,hx];rfl),?_⟩;have hw9:=D9.keep _ _ nws hw8;refine⟨_,rfl,st,8,m+3,rfl,by decide,by decide,by lia,D9.pen.mono (by lia),λr4 H10 d0 d1 D10=>?_⟩;have hw10:=D10.keep _ _ nws hw9;have DD:=((D8.trans D9).trans D10).mono (show m+3+1<=m+4 by lia);clear D10 hw9 D9 e8 e7' hw8 D8 n7 n8 hw7 e7 D7 D12 hw2 D2 hw1 D1 lm hl3 hx np8;obtain⟨a,rfl⟩:=Gz a0;obtain⟨b,rfl⟩:=Gz b0;have ha:a<=W.length:=by lia
 have hb:b<W.length:=by lia
 have fin: ∀(l:Addr) (H':Hp) (U:List Str),(∀w∈U,ME w)->U.length<=W.length+9->kS H10 H'->H' l=some (.lst (U.map V.str))->Q (.ref l) H':=λl H' U h1 h2 g e=>q l H' U (DD.trans (DD.pen.more g)) e h1 h2;have mt: ∀w∈W.take a,ME w:=λw h=>hwd w (wR h);have md: ∀k,∀w∈W.drop k,ME w:=λk w h=>hwd w (uR h);have mi: ∀k,∀w∈(W.drop a).take k,ME w:=λk w h=>hwd w (uR (wR h));have mx: ∀w∈[x],ME w:=λw h=>by rw[List.mem_singleton.mp h];exact wx
 have ma: ∀{A B:List Str},(∀w∈A,ME w)->(∀w∈B,ME w)-> ∀w∈A++B,ME w:=λh g w z=>(List.mem_append.mp z).elim (h w) (g w);refine⟨_,rfl,rfl,_,rfl,kL (λ_=>?_) (λ_=>?_)⟩
 ·refine(Hm.cat (by simp only[yJ,xO];lia) (Hm.to (a:=a) (λ_ _ q=>⟨_,rfl,q⟩) (λ_ _ q=>⟨_,rfl,q⟩)) (Hm.fro (a:=a+1) (λ_ _ q=>⟨_,rfl,q⟩) (λ_ _ q=>⟨_,rfl,_,_,rfl,rfl,q⟩))) _ _ hw10 λl H' g e=>fin l H' _ (ma mt (md _)) (by simp only[zB,yJ,xO];lia) g e
 refine⟨_,rfl,rfl,_,rfl,kL (λ_=>?_) (λ_=>?_)⟩
 ·refine(Hm.cat (by simp only[zB,yJ,xO];lia) (Hm.cat (by simp only[yJ,xO];lia) (Hm.to (a:=a) (λ_ _ q=>⟨_,rfl,q⟩) (λ_ _ q=>⟨_,rfl,q⟩)) (Hm.inn (a:=a) (b:=a+1) (λ_ _ q=>⟨_,rfl,q⟩) (λ_ _ q=>⟨_,rfl,q⟩) (λ_ _ q=>⟨_,rfl,_,_,rfl,rfl,q⟩))) (Hm.fro (a:=a) (λ_ _ q=>⟨_,rfl,q⟩) (λ_ _ q=>⟨_,rfl,q⟩))) _ _ hw10 λl H' g e=>fin l H' _ (ma (ma mt (mi _)) (md _)) (by simp only[zB,yJ,xO];lia) g e
 refine⟨_,rfl,_,_,rfl,rfl,_,rfl,kL (λ_=>?_) (λ_=>?_)⟩
 ·refine(Hm.cat (by simp only[zB,yJ,xO,zK,jQ];lia) (Hm.cat (by simp only[yJ,zK,jQ];lia) (Hm.to (a:=a) (λ_ _ q=>⟨_,rfl,q⟩) (λ_ _ q=>⟨_,rfl,q⟩)) (Hm.one (x:=x) (λ_ _ q=>⟨_,rfl,q⟩))) (Hm.fro (a:=a+1) (λ_ _ q=>⟨_,rfl,q⟩) (λ_ _ q=>⟨_,rfl,_,_,rfl,rfl,q⟩))) _ _ hw10 λl H' g e=>fin l H' _ (ma (ma mt mx) (md _)) (by simp only[zB,yJ,xO,zK,jQ];lia) g e
 refine⟨_,rfl,rfl,_,rfl,kL (λ_=>?_) (λ_=>?_)⟩
 ·refine(Hm.cat (by simp only[zB,yJ,xO,zK,jQ];lia) (Hm.cat (by simp only[yJ,zK,jQ];lia) (Hm.to (a:=a) (λ_ _ q=>⟨_,rfl,q⟩) (λ_ _ q=>⟨_,rfl,q⟩)) (Hm.one (x:=x) (λ_ _ q=>⟨_,rfl,q⟩))) (Hm.fro (a:=a) (λ_ _ q=>⟨_,rfl,q⟩) (λ_ _ q=>⟨_,rfl,q⟩))) _ _ hw10 λl H' g e=>fin l H' _ (ma (ma mt mx) (md _)) (by simp only[zB,yJ,xO,zK,jQ];lia) g e
 refine⟨_,rfl,rfl,_,rfl,?_⟩;refine YB (λz=>⟨_,rfl,_,rfl,wd,_,rfl,.inl (.of hw10),_,_,rfl,rfl,_,rfl,z⟩) (λ_ c=>?_) (λ_=>?_)
 ·have c':a<W.length:=by have:=zZ c;lia
  obtain⟨y,ey⟩: ∃y,W[a]? =some y:=⟨_,zE c'⟩;obtain⟨z,ez⟩: ∃z,W[b]? =some z:=⟨_,zE hb⟩;have aty:FO (W.map V.str) (a:Int)=some (.str y):=vB (by rw[zS,ey];rfl);have atz:FO (W.map V.str) (b:Int)=some (.str z):=vB (by rw[zS,ez];rfl);refine⟨_,rfl,wd,_,rfl,.inl (.of hw10),λp hp=>⟨_,rfl,_,rfl,p,_,_,_,rfl,rfl,.of zH,atz,_,rfl,_,rfl,p,_,_,_,rfl,rfl,.of zH,aty,sm2,λtp htp=>?_⟩⟩;have np:p≠tp:=λz=>by rw[<-z,zH]at htp;cases htp
  refine⟨tp,_,rfl,.of zH,rfl,_,_,rfl,_,rfl,_,rfl,p,W.map V.str,_,a,rfl,rfl,by rw[zV np];exact zH,SZ (by lia),_,_,rfl,_,rfl,_,rfl,p,_,_,b,rfl,rfl,zH,SZ (by rw[Ea];lia),rfl,_,rfl,fin p _ ((W.set a z).set b y) (λw hw=>?_) (by rw[Ea,Ea];lia) (λq o e=>?_) ?_⟩
  ·rcases Fc hw with h|h
   ·rcases Fc h with h|h
    ·exact hwd w h
    ·rw[h];exact hwd z (zX ez)
   ·rw[h];exact hwd y (zX ey)
  ·have nq:q≠p:=zM e hp;rw[zV nq,zV nq];exact zN htp _ _ _ (zN hp _ _ _ e)
  ·rw[zH,List.map_set,List.map_set]
 refine⟨_,rfl,rfl,_,rfl,kL (λ_=>?_) (λ_=>?_)⟩
 ·exact(Hm.to (a:=a) (λ_ _ q=>⟨_,rfl,q⟩) (λ_ _ q=>⟨_,rfl,q⟩)) _ _ hw10 λl H' g e=>fin l H' _ mt (by simp only[yJ];lia) g e
 exact(Hm.cat (by simp only[yJ,xO];lia) (Hm.var (λ_ _ q=>⟨_,rfl,q⟩)) (Hm.inn (a:=a) (b:=a+9) (λ_ _ q=>⟨_,rfl,q⟩) (λ_ _ q=>⟨_,rfl,q⟩) (λ_ _ q=>⟨_,rfl,_,_,rfl,rfl,q⟩))) _ _ hw10 λl H' g e=>fin l H' _ (ma hwd (mi _)) (by simp only[zB,yJ,xO];lia) g e
end
section
variable {P:Program}{w:World}{K:PySem.W.Frag}{mg:Str->Option Value}{base:Heap}{f:Addr}{fd:FuncData}{aP aW aH CT CR CL CN:Addr}
variable {CC CM CW CE:Addr}
theorem Qw {hs:DO}{b:Int}{nm bs:List Str}{d:Nat}(ih: ∀t,DI hs b d t->(Df t).length<=2*(BD nm bs t).length): ∀ts:List Tr,EK hs b d ts->(AQ ts).length<=2*(BY nm bs ts).length
 |[],_=>zW _
 |t::ts,f=>by
  unfold EK at f;rw[AQ,BY,zB,zB];have h1:=ih t f.1;have h2:=Qw ih ts f.2;lia
theorem SW {hs:DO}{b:Int}(nm bs:List Str): ∀(d:Nat) (t:Tr),DI hs b d t->(Df t).length<=2*(BD nm bs t).length
 |0,t,f=>by unfold DI at f;exact f.elim
 |d+1,.mk k own ps,f=>by
  unfold DI at f;obtain⟨k0,k1,of,_,_,fp⟩:=f;have h1:=Qw (SW nm bs d) ps fp;rw[Df,BD,zK,zB,zB];have h2:1+own.length<=2*(JX nm bs k own).length:=by
   unfold JX;rw[zB,zD]
   by_cases c:k=0\/k=1
   ·rw[zT c];have:own.length=1:=by
     rcases of with⟨rfl,n,rfl⟩|⟨hk,n,rfl,a,b⟩|⟨rfl,n,rfl,a,b⟩|⟨rfl,n,rfl,a,b⟩|⟨rfl,n,rfl,a,b⟩|⟨hk,rfl⟩
     ·rfl
     ·rfl
     ·rfl
     ·rfl
     ·rfl
     ·lia
    show 1+own.length<=2*(0+own.length);lia
   ·rw[zI c];show 1+own.length<=2*(1+own.length);lia
  lia
theorem Vl {ns:List Tt}{fs:List Fn}(wf:YD ns fs)(h:(wA (HK ns fs)).length<=2500):Sn fs:=λf hf=>by
 obtain⟨i,e⟩:=qW hf;have hi:=(List.getElem?_eq_some_iff.mp e).1;have e3:ns[i]? =some (ns[i]'(by have:=wf.len;lia)):=zE _;have e4:(HK ns fs)[i]? =some (IW (ns.map (·.1)) (ns[i]'(by have:=wf.len;lia)) f):=by
  unfold HK;rw[uA,e3,e]
 have h2:=SW (ns.map (·.1)) (ns[i]'(by have:=wf.len;lia)).2 10 f.2 (wf.fit f hf);have hm:=zX e4;generalize ns[i]'(by have:=wf.len;lia)=n at *
 have h3:(kG (IW (ns.map (·.1)) n f)).length<=(wA (HK ns fs)).length:=by
  obtain⟨u,v,ev⟩:=List.append_of_mem hm;unfold wA;rw[ev,yB,yQ,Ek,kJ,zB,zB];lia
 have h4:(BD (ns.map (·.1)) n.2 f.2).length<=(kG (IW (ns.map (·.1)) n f)).length:=by
  unfold kG;simp only[zK,zB];show(IW (ns.map (·.1)) n f).2.1.length<=_;lia
 lia
theorem QO {K:PySem.W.Frag}{H:Hp}(n:Nat): ∀ss:List Str,Paired (EqD K H n) (ss.map V.str) (ss.map V.str)
 |[]=>.nil
 |x::r=>.cons (EqD.flat rfl n) (QO n r)
inductive Rn (vs:List V) (H:Hp) (Q:VK) (E:XK):Prop
 |mk (wd:Addr) (W:List Str) (h0:vs=[.ref wd]) (h1:H wd=some (.lst (W.map V.str))) (h2:W.length<=2500) (h3:(∀w∈W,ME w)) (h4: ∀H',kS H H'->Q (.bl true) H'):Rn vs H Q E
theorem XU (T:zBc K mg CN CT CC CM CW CE)(F:uB K "_law_held" "_law_held" HC f fd)(Cb2:uT P w K mg base 5 "_law_wrong" ["_law_words_here"] Jr)(Cb5:uT P w K mg base 19 "read_text" ["text"] (Oy CT))(Cb4:uT P w K mg base 18 "show_text" ["names","sheet"] IK)
  (Cb3:uT P w K mg base 1 "_law_right" ["_law_e","_law_at"] (LD CT)):BT P w K mg base 20 f fd ["_law_words_here"] Rn:=by
 refine F.okNT vA rfl (λvs H Q E h=>?_) (λcdv A outer s H vs Q E hr h=>?_)
 ·obtain⟨wd,W,rfl,_⟩:=h;rfl
 obtain⟨wd,W,rfl,hw,hl,hwd,q⟩:=h;refine⟨_,(Ij (yS (i:=1) vA.nd rfl (Or.inl rfl) (yD Cb2 hr rfl (zA (pv 0) zG) jK))
   (Ij (yS (i:=2) vA.nd rfl (Or.inl rfl) ED)
   (Ij (yS (i:=3) vA.nd rfl (Or.inl rfl) ED)
   (Ij (Xw (i:=6) vA.nd rfl rfl rfl T.m_ChainError (λ_ _=>(zF (BJ (Qn Cb5 hr rfl (zA (ZU K rfl jM vW vV (Wl K rfl) jX (zA (pv 0) zG)) zG)) (SQ (n:=2) K rfl rfl (xU (xJ (i:=4) vA.nd rfl (Or.inl rfl)) (xU (xJ (i:=5) vA.nd rfl (Or.inl rfl)) uL))))
   (zL (yS (i:=3) vA.nd rfl (Or.inl rfl) (Qn Cb4 hr rfl (zA (pv 4) (zA (pv 5) zG))))))) (λ_=>(zL (yS (i:=2) vA.nd rfl (Or.inl rfl) (pv 6)))))
   (RC (ZM (yI RI (pv 1) ED (yP _)) (Qi (XH (uM XL (pv 3) ED (yP _)) (XC (VG (RJ hr) (VI jM Dd Dc Mc (KL (by decide) (by decide) (pv 3)) (zA jX zG)) (pv 0) (yP _))))) yM)
   (zL (yO (yD Cb3 hr rfl (zA (pv 2) (zA (pv 1) zG)) jK)))))))),?_⟩
 try dsimp only[Cx.nox,Cx.exc,Cx.wish,xX]
 try dsimp only[NW,List.set]
 have wok:YE W:=⟨by lia,λw hw=>yT (hwd w hw).sh (by decide)⟩;have ew:wordsT (Txt.join " " W)=W:=Sc hwd;have jl:=NF (ws:=W) λw hw=>(hwd w hw).sh;have tok:WW (Txt.join " " W):=by
  have tl:(Txt.join " " W).length<=1000000:=by lia
  obtain⟨r1,r2⟩:=PQ tl (by rw[ew];exact hwd) (by rw[ew];lia);exact⟨tl,r1,r2,by rw[ew];exact wok⟩
 have js:(W.map (·.length)).sum +W.length*(" ":Str).length<=16777216:=by
  have:=Lz (λw:Str=>w.length) 61 W λw hw=>(hwd w hw).sh;show _+W.length*1<=_;lia
 refine⟨_,rfl,wd,W,rfl,hw,wok,hl,?_⟩;cases er:Jz W with
 |ok rs=>
  intro H1 s1;have hw1:=s1 _ _ hw;obtain⟨ns,fs,wf,e1,e2,e3⟩:=TF er;have pok:=wf.prog;refine⟨rfl,_,rfl," ",wd,W,rfl,rfl,.of hw1,js,_,rfl,tok,?_⟩;rw[ew,er];rintro p sp H2 s2 ⟨np,us,ep,enp,pn,esp⟩ fsp;rw[e2]at pn;rw[e3]at esp;refine⟨p,_,rfl,.of ep,rfl,_,_,rfl,_,_,rfl,rfl,?_⟩;refine⟨_,rfl,_,rfl,np,sp,ns,fs,us,rfl,enp,pn,esp,wf,Vl wf (by rw[e1];exact hl),λH3 s3=>?_⟩;have hw3:=s3 _ _ (s2 _ _ hw1);have sm:=s1.trans (s2.trans s3);obtain⟨f1,f2⟩:=QC (lss:=(HK ns fs).map kG) (λz=>pok.ne (List.map_eq_nil_iff.mp z)) (λl hl z=>by
   obtain⟨x,_,rfl⟩:=List.mem_map.mp hl;unfold kG at z;cases z) (λl hl w hw=>by
   obtain⟨x,hx,rfl⟩:=List.mem_map.mp hl;exact JG (pok.all x hx) w hw)
  have et:Txt.join "\n" (((HK ns fs).map kG).map (Txt.join " "))=Sy (HK ns fs):=by unfold Sy;rw[qQ];rfl
  have e1':((HK ns fs).map kG).flatten =W:=e1;rw[et,e1']at f1;rw[e1']at f2;have tl:(Sy (HK ns fs)).length =(Txt.join " " W).length:=by rw[<-f1,SK]
  refine⟨_,rfl,rfl,_,rfl,kK ?_⟩;refine⟨_,rfl,rfl,_,rfl,kK ?_⟩;refine⟨_,rfl,_,rfl,by lia,rfl,_," ",rfl,rfl,rfl,?_,?_,λp4 h4=>?_⟩
  ·rw[f1];exact kP (by lia)
  ·rw[f1,f2];exact kP (by lia)
  ·rw[f1,f2];exact⟨_,rfl,p4,wd,_,_,0,rfl,rfl,.inl ⟨.of zH,.of (zN h4 _ _ _ hw3)⟩,QO 0 _,by decide,q _ (sm.trans (zN h4 _))⟩
 |error e=>
  intro H1 s1;have hw1:=s1 _ _ hw;refine⟨rfl,_,rfl," ",wd,W,rfl,rfl,.of hw1,js,_,rfl,tok,?_⟩;rw[ew,er];intro d H2 g ed;refine⟨CT,d,rfl,rfl,T.mch,λx ex=>⟨_,rfl,?_⟩⟩;refine⟨_,rfl,rfl,_,rfl,qG ?_⟩;exact⟨_,rfl,_,rfl,x,d,(e:Int),rfl,ex,ed,λH3 s3=>q _ (s1.trans (g.trans s3))⟩
end
section
variable {P:Program}{w:World}{K:PySem.W.Frag}{mg:Str->Option Value}{base:Heap}{f:Addr}{fd:FuncData}{aP aW aH CT CR CL CN:Addr}
theorem QG {k:Nat}{ps:List Str}{CX:JW}:CU P w K mg base CX k f fd ps (λ_ _ _ _=>False):=
 ⟨λ_ _ _ _ h=>h.elim,λ_ _ _ _ _ _ _ _ _ _ _ _ _ h=>h.elim⟩
theorem Nv (T:Txt K mg aP aW aH CT CR)(F:uB K "read_node" "read_node" Fk f fd)(Cb:Go P w K mg base 1 "NoText" CT ["self","at"] (Ah CT))(Cj:uT P w K mg base 4 "take_kind" ["reading","boxes"] (Lm CR CT))
  (Cf:uT P w K mg base 6 "take_own_texts" ["reading","kind","boxes"] (OB CR CT)) (Cd:uT P w K mg base 2 "parts_due" ["kind","numbers","heads"] OL) (hm:mg "read_node"=some (.ref f)) (hk:PySem.W.keepIn K (.ref f)=true) (hb:Ab K fd ["reading","boxes","deep"] []):
  ∀d,d<=10->BT P w K mg base (6+d+1) f fd ["reading","boxes","deep"] (Ii CR CT d)
 |0,h=>Qv 0 h T F Cb Cj Cf Cd ⟨⟨_,_,QG,hm,hk,hb⟩⟩
 |d+1,h=>Qv (d+1) h T F Cb Cj Cf Cd ⟨⟨_,_,Nv T F Cb Cj Cf Cd hm hk hb d (by lia),hm,hk,hb⟩⟩
theorem LX (T:Ky K mg)(F:uB K "_law_shape" "_law_shape" Eo f fd)(Ca:uT P w K mg base 1 "_law_draw" ["_law_pen_here","_law_many"] Dw)(Cc:uT P w K mg base 1 "_law_words" [] Dz)
  (Ci:uT P w K mg base 2 "_law_number" ["_law_pen_here","_law_is_far"] Ih) (hm:mg "_law_shape"=some (.ref f)) (hk:PySem.W.keepIn K (.ref f)=true) (hb:Ab K fd ["_law_pen_here","_law_heads_here","_law_boxes","_law_left","_law_deep"] []):
  ∀d,BT P w K mg base (2+d+1) f fd ["_law_pen_here","_law_heads_here","_law_boxes","_law_left","_law_deep"] (FR d)
 |0=>Nu 0 T F Ca Cc Ci ⟨⟨_,_,QG,hm,hk,hb⟩⟩
 |d+1=>Nu (d+1) T F Ca Cc Ci ⟨⟨_,_,LX T F Ca Cc Ci hm hk hb d,hm,hk,hb⟩⟩
theorem Qj {hs:List IE}: ∀pr:List Pg,(∀x∈pr,WX hs x)->(∀x∈pr,x.2.1.length<=700)->(wA pr).length<=720*pr.length
 |[],_,_=>zW _
 |x::r,h,f=>by
  have ih:=Qj r (λy hy=>h y (zQ _ hy)) (λy hy=>f y (zQ _ hy));have hx:=h x (zO ..);have fx:=f x (zO ..);have b12:=hx.hd.bx.few;have pb:=hx.hd.pb;show(kG x++wA r).length<=_;have ll:(kG x).length<=x.1.2.1.length+4+x.2.1.length:=by
   unfold kG;simp only[zK,zB,yJ,xO];lia
  rw[zB,zK];lia
theorem Mf {H:Hp}: ∀{us:List V} {lss:List (List Str)},Paired (zDu H) us lss-> ∃as:List Addr,us=as.map V.ref/\Paired (λa ys=>H a=some (.lst ys)) as (lss.map λls=>ls.map V.str)
 |_,_,.nil=>⟨[],rfl,.nil⟩
 |_,_,.cons h t=>by
  obtain⟨a,rfl,e⟩:=h;obtain⟨as,rfl,p⟩:=Mf t;exact⟨a::as,rfl,.cons e p⟩
theorem Nm {H:Hp}{st l:Addr}{m:Int}{W:List Str}(D:BK H st m)(e:H l=some (.lst (W.map V.str))):l≠st:=λz=>by
 obtain⟨c,s,t,e',_⟩:=D;rw[z,e']at e;injection e with e
 injection e with e
 cases W with
 |nil=>cases e
 |cons x r=>injection e with e _;cases e
theorem VT (T:WV K mg)(F:uB K "law" "law" Vn f fd)(Cc2:uT P w K mg base 1 "_law_pen" ["_law_script","_law_k"] (Rl K))(Ca:uT P w K mg base 1 "_law_draw" ["_law_pen_here","_law_many"] Dw)(Ca7:uT P w K mg base 14 "_law_program" ["_law_pen_here","_law_most","_law_room"] Oz)
  (Ca3:uT P w K mg base 2 "_law_bent" ["_law_pen_here","_law_words_here"] Rr) (Cv:uT P w K mg base 20 "_law_held" ["_law_words_here"] Rn):BT P w K mg base 21 f fd ["_law_script"] (Qa K):=by
 refine F.oN FE λcdv A outer s H vs Q E hr h=>?_;obtain⟨a,ns,rfl,hs,hl,q⟩:=h;refine⟨_,(zF (Al xS rfl (uZ rfl T.n_range (zA zR zG)) (xJ (i:=1) FE.nd rfl (Or.inl rfl)) (zF (yS (i:=2) FE.nd rfl (Or.inl rfl) (yD Cc2 hr rfl (zA (pv 0) (zA (pv 1) zG)) jK))
   (zF (BJ (yD Ca7 hr rfl (zA (pv 2) (zA zR (zA zR zG))) jK) (Bo rfl (xU (xJ (i:=3) FE.nd rfl (Or.inl rfl)) (xU (xJ (i:=4) FE.nd rfl (Or.inl rfl)) (xU (xJ (i:=5) FE.nd rfl (Or.inl rfl)) uL)))))
   (zF (yS (i:=6) FE.nd rfl (Or.inl rfl) (xB (UG rfl) rfl T.n_sum zAy (zA (pv 5) (zA (xV zG) zG))))
   (zF (xP (AO (uY (yD Cv hr rfl (zA (pv 6) zG) jK))) (zL (yO Fp)) yM)
   (zL (Al xS rfl (uZ rfl T.n_range (zA zR zG)) (xJ (i:=7) FE.nd rfl (Or.inl rfl)) (zF (yS (i:=8) FE.nd rfl (Or.inl rfl) (yD Ca3 hr rfl (zA (pv 2) (zA (pv 6) zG)) jK))
   (zF (FI (xP (PW.pt (HI (yI (LV hr) (pv 8) (xV zG) (yP _)) (Fo (yI jY (yD Ca hr rfl (zA (pv 2) (zA zR zG)) jK) zR (yP _))))) (zL (yS (i:=8) FE.nd rfl (Or.inl rfl) (yD Ca3 hr rfl (zA (pv 2) (zA (pv 8) zG)) jK))) yM))
   (zL (xP (AO (uY (yD Cv hr rfl (zA (pv 8) zG) jK))) (zL (yO Fp)) yM)))))))))))
   (zL (yO (yD Cv hr rfl (zA (xV zG) zG) jK)))),?_⟩
 try dsimp only[Cx.nox,Cx.exc,Cx.wish,xX]
 refine⟨2,rfl,by decide,by decide,AE (lo:=0) (n:=2) (λi σ' H'=>(∃v1 v2 v3 v4 v5 v6 v7 v8,σ'=[some (.ref a),v1,v2,v3,v4,v5,v6,v7,v8])/\kS H H') ⟨⟨_,_,_,_,_,_,_,_,rfl⟩,kS.refl H⟩ ?_ ?_⟩
 rotate_left
 ·rintro σ' H1 ⟨⟨v1,v2,v3,v4,v5,v6,v7,v8,rfl⟩,s1⟩;exact⟨sm0,λl hl=>⟨l,[],rfl,zH,yU _,λw hw=>(nomatch hw),λH2 _=>q H2⟩⟩
 rintro i σ' H1 hi ⟨⟨v1,v2,v3,v4,v5,v6,v7,v8,rfl⟩,s1⟩;refine⟨_,rfl,_,rfl,a,ns,_,rfl,by lia,by lia,hs.imp (fun⟨o,z⟩=>⟨o,s1 _ _ z⟩) id,hl,λst H2 hst s2 D2=>?_⟩;refine⟨_,rfl,st,3,8,0,rfl,by decide,by decide,by decide,by decide,D2,by decide,λp sh na li pr H3 D3 pa pg p3 fsh=>?_⟩;have hstH:H st=none:=s1.free hst;have s3: ∀{G:Hp},(∀b o,b≠st->H2 b=some o->G b=some o)->kS H G:=λk b o e=>k b o (λz=>by rw[z,hstH]at e;cases e) (s2 _ _ (s1 _ _ e));obtain⟨pa1,_,_,⟨lv,el,pl⟩⟩:=pa;refine⟨p,_,rfl,.of pa1,rfl,_,_,rfl,_,_,rfl,_,_,rfl,rfl,?_⟩;have pok:=pg.ok;obtain⟨as,rfl,pas⟩:=Mf pl;have wl:=Qj pr pok.all pg.few;have wne:wA pr≠[]:=λz=>by
  have:=pok.ne;cases pr with
  |nil=>exact this rfl
  |cons x r=>
   have z':kG x++wA r=[]:=z;unfold kG at z';cases z'
 have wwd: ∀w∈wA pr,ME w:=λw hw=>by
  obtain⟨l,hl,hw'⟩:=List.mem_flatten.mp hw;obtain⟨x,hx,rfl⟩:=List.mem_map.mp hl;exact JG (pok.all x hx) w hw'
 have fl:((pr.map kG).map λls=>ls.map V.str).flatten =(wA pr).map V.str:=by
  unfold wA;rw[List.map_flatten]
 have hW:(wA pr).length<=2160:=by lia
 generalize wA pr=W at *
 refine⟨_,rfl,sm0,λz hz=>?_⟩;have s4:=zN hz (.lst []);refine⟨li,z,as,_,rfl,s4 _ _ el,Paired.imp (λ_ _ e=>s4 _ _ e) pas,zH,by rw[fl,zD];exact kP (by lia),λe=>?_,λww hww=>?_⟩
 ·exact absurd (List.map_eq_nil_iff.mp (List.map_eq_nil_iff.mp e)) pok.ne
 rw[fl];have s5:=s4.trans (zN hww (.lst (W.map V.str)));have eW:upd (upd H3 z (.lst [])) ww (.lst (W.map V.str)) ww=some (.lst (W.map V.str)):=zH;generalize upd (upd H3 z (.lst [])) ww (.lst (W.map V.str))=H4 at s5 eW;refine⟨_,rfl,ww,W,rfl,eW,by lia,wwd,λH5 s6=>⟨_,rfl,qG ?_⟩⟩;have D5:=D3.trans (D3.pen.more (s5.trans s6));have eW5:=s6 _ _ eW;have nw:=Nm D5.pen eW5;refine⟨6,rfl,by decide,by decide,AE (lo:=0) (n:=6) (λj σ' H'=>(∃v7 v8,σ'=[some (.ref a),some (.int (0+(i:Int))),some (.ref st),some (.ref na),some (.ref sh),some (.ref li),some (.ref ww),v7,v8])/\kB st (120000+10*(j:Int)) H5 H') ⟨⟨_,_,rfl⟩,(BK.refl D5.pen).mono (by lia)⟩ ?_ ?_⟩
 rotate_left
 ·rintro σ' H6 ⟨⟨v7,v8,rfl⟩,D6⟩;exact⟨⟨_,_,_,_,_,_,_,_,rfl⟩,s3 (D5.trans D6).keep⟩
 rintro j σ' H6 hj ⟨⟨v7,v8,rfl⟩,D6⟩;have eW6:=D6.keep _ _ nw eW5;refine⟨_,rfl,_,rfl,st,ww,W,120000+10*(j:Int),rfl,D6.pen,by lia,eW6,nw,wne,by lia,wwd,λl H7 W' D7 e7 w7 l7=>?_⟩;have n7:=Nm D7.pen e7;refine⟨λσ2 H'=> ∃(l':Addr) (W'':List Str),σ2=[some (.ref a),some (.int (0+(i:Int))),some (.ref st),some (.ref na),some (.ref sh),some (.ref li),some (.ref ww),some (.int (0+(j:Int))),some (.ref l')]/\kB st (120000+10*(j:Int)+9) H6 H'/\H' l'=some (.lst (W''.map V.str))/\(∀w∈W'',ME w)/\W''.length<=2500,?_,?_⟩
 ·refine⟨_,rfl,sm0,λe0 h0=>?_⟩;have s8:=zN h0 (.lst []);have D8:=D7.trans (D7.pen.more s8);refine⟨l,e0,_,rfl,rfl,.of (s8 _ _ e7),.of zH,_,rfl,?_⟩;have e8:=s8 _ _ e7;generalize upd H7 e0 (.lst [])=H8 at D8 e8;cases W' with
  |nil=>exact qG (qG ⟨l,[],rfl,D8.mono (by lia),e8,w7,yU _⟩)
  |cons x r=>
   refine kK ⟨_,rfl,st,3,120000+10*(j:Int)+4,rfl,by decide,by decide,by lia,D8.pen,λr3 H9 r0 r1 D9=>⟨rfl,_,rfl,kL (λc=>?_) (λc=>?_)⟩⟩
   ·have e9:=D9.keep _ _ n7 e8;exact⟨_,rfl,_,rfl,st,l,x::r,120000+10*(j:Int)+4+1,rfl,D9.pen,by lia,e9,n7,(λz=>nomatch z),by lia,w7,λl2 H10 W2 D10 e10 w10 l10=>⟨l2,W2,rfl,((D8.trans D9).trans D10).mono (by lia),e10,w10,by lia⟩⟩
   ·exact⟨l,x::r,rfl,(D8.trans D9).mono (by lia),D9.keep _ _ n7 e8,w7,by lia⟩
 ·rintro σ2 H8 ⟨l',W'',rfl,D8,e8,w8,l8⟩;refine⟨_,rfl,l',W'',rfl,e8,l8,w8,λH9 s9=>⟨_,rfl,qG ⟨⟨_,_,rfl⟩,?_⟩⟩⟩;exact(D6.trans (D8.trans (D8.pen.more s9))).mono (by lia)
end
open PySem.W in
theorem all_mk {l:OpenLaw}{w:World}{K:Frag}{h:Heap}{mg:Str->Option Value}{fa f0 f1 f2 f3 f4 f5 f6 f7 f8 f9 vz ua yg wq zk si wc sj yb ze xi zh rh yk qt qw qv qu xq qx vx uz vh vj vp vw wt zu su uq yq wj yr wu tj xx xj wk zo yj xa xy ue xz ui qy xg:Addr}{zx qN uu qC:Str}{NN fk pj:Addr}{xl qj zq qk oy:List Value}{ur uf:List Str}{ve sf zp pe:Bool}{qm qh:Option Bool}{wb se xw:Option Addr}{vy yf sv yh vo:Option Value}{yu yy:Value}{wm xv:Array (Option Value)}{qp:Array DictEntry}{nD:Nat}{ac ae aP aW aH:Addr}{jr pd ph px oj ng ms og bo cr dh fg fj dt dk bz ce io ja:Tok}{jx ju jq jt ky kg jv kr kn kl jh ig ir ij jg jc je iy:Tok}{me:Nat}{ly:Array (Option Value)}{cu cz cm:Tok}{dj:Nat}{di:Array (Option Value)}{ku jn jy jw jo ke ko jm jk jp ji jj iu:Tok}{mh:Nat}{lx:Array (Option Value)}{vn qM:Str}{NM:Addr}{yl ou:List Value}{re:List Str}{rn:Bool}{qg:Option Bool}{yx:Option Addr}{xm vm ra rm ug:Option Value}{aa ai:Addr}{qi:Tok}{ay bq bc af:Addr}(X:K.In h)(G:h.Ns mainGlobals mg)(zr:mg "law"=some (.ref fa))
  (dq:nsIn K mainGlobals "NoText"=some (some (.ref ac)))
  (gv:nsIn K mainGlobals "Reading"=some (some (.ref ae)))
  (bg:nsIn K mainGlobals "NoSheet"=some (some (.ref aa)))
  (mf:nsIn K mainGlobals "Look"=some (some (.ref ai)))
  (jd:nsIn K mainGlobals "NoCode"=some (some (.ref ay)))
  (kd:nsIn K mainGlobals "NoRow"=some (some (.ref bq)))
  (jf:nsIn K mainGlobals "NoName"=some (some (.ref bc)))
  (cq:nsIn K mainGlobals "ChainError"=some (some (.ref af)))
  (d0:Dm K ac "__init__" "NoText.__init__" CI f0)
  (d1:Dg K "parts_of" "parts_of" "parts_of" GI f1)
  (d2:Dg K "kind_of" "kind_of" "kind_of" Kh f2)
  (d3:Dg K "parts_due" "parts_due" "parts_due" Fl f3)
  (d4:Dg K "words_of" "words_of" "words_of" GF f4)
  (d5:Dg K "is_written_in" "is_written_in" "is_written_in" DQ f5)
  (d6:Dg K "is_name" "is_name" "is_name" Ki f6)
  (d7:Dg K "is_number_of" "is_number_of" "is_number_of" EA f7)
  (d8:Dg K "is_number" "is_number" "is_number" Hz f8)
  (d9:Dm K ae "__init__" "Reading.__init__" BG f9)
  (rj:Dg K "number_names" "number_names" "number_names" Ez vz)
  (xf:Dg K "count_params" "count_params" "count_params" EB ua)
  (xr:Dg K "due" "due" "due" Vo yg)
  (uj:Dg K "take_new_name" "take_new_name" "take_new_name" DP wq)
  (ul:Dg K "take_boxes" "take_boxes" "take_boxes" GH zk)
  (zc:Dg K "take_box" "take_box" "take_box" IQ si)
  (vd:Dg K "take_number" "take_number" "take_number" FF wc)
  (zi:Dg K "take_many" "take_many" "take_many" Hu sj)
  (uc:Dg K "take_called" "take_called" "take_called" FG yb)
  (wz:Dg K "take_own_texts" "take_own" "take_own" Dp ze)
  (tu:Dg K "take_kind" "take_kind" "take_kind" Hv xi)
  (vi:Dg K "read_node" "read_node" "read_node" Fk zh)
  (rf:Dg K "read_function" "read_function" "read_function" By rh)
  (ym:Dg K "read_text" "read_text" "read_text" Hy yk)
  (um:Dm K aa "__init__" "NoSheet.__init__" BH qt)
  (zj:Dm K ai "__init__" "Look.__init__" DS qw)
  (ye:Dm K ai "take" "Look.take" HG qv)
  (ub:Dm K ai "take_within" "Look.take_within" BI qu)
  (ud:Dg K "is_whole" "is_whole" "is_whole" IT xq)
  (zd:Dg K "take_heads" "take_heads" "take_heads" GG qx)
  (yc:Dg K "take_own_sheets" "take_own" "take_own" CB vx)
  (we:Dg K "take_node" "take_node" "take_node" Fj uz)
  (uy:Dg K "functions" "functions" "functions" HA vh)
  (zf:Dg K "nodes_in" "nodes_in" "nodes_in" IS vj)
  (rb:Dg K "word_of" "word_of" "word_of" Kg vp)
  (xt:Dg K "show_own" "show_own" "show_own" IR vw)
  (wo:Dg K "show_body" "show_body" "show_body" Hx wt)
  (qz:Dg K "show_text" "show_text" "show_text" Hw zu)
  (wv:Dg K "_law_pen" "_law_pen" "_law_pen" IU su)
  (zy:Dg K "_law_draw" "_law_draw" "_law_draw" HD uq)
  (d40:Dg K "_law_words" "_law_words" "_law_words" GK yq)
  (uw:Dg K "_law_name" "_law_name" "_law_name" Fm wj)
  (yv:Dg K "_law_heads" "_law_heads" "_law_heads" GM yr)
  (yw:Dg K "_law_number" "_law_number" "_law_number" FH wu)
  (zt:Dg K "_law_shape" "_law_shape" "_law_shape" Eo tj)
  (vg:Dg K "_law_program" "_law_program" "_law_program" CF xx)
  (yi:Dg K "_law_is_name" "_law_is_name" "_law_is_name" CG xj)
  (uv:Dg K "_law_is_number" "_law_is_number" "_law_is_number" Bb wk)
  (yp:Dg K "_law_heads_told" "_law_heads_told" "_law_heads_told" CH zo)
  (uk:Dg K "_law_names_to" "_law_names_to" "_law_names_to" DR yj)
  (xp:Dg K "_law_own" "_law_own" "_law_own" IV xa)
  (vq:Dg K "_law_body" "_law_body" "_law_body" HE xy)
  (vc:Dg K "_law_wrong" "_law_wrong" "_law_wrong" GJ ue)
  (xn:Dg K "_law_right" "_law_right" "_law_right" GL xz)
  (sr:Dg K "_law_bent" "_law_bent" "_law_bent" HF ui)
  (rk:Dg K "_law_held" "_law_held" "_law_held" HC qy)
  (xu:Dg K "law" "law" "law" Vn xg)
  (fu:nsIn K mainGlobals "len"=some none)
  (ck:nsIn K mainGlobals "range"=some none)
  (gc:nsIn K mainGlobals "int"=some none)
  (cv:nsIn K mainGlobals "tuple"=some none)
  (ii:nsIn K mainGlobals "str"=some none)
  (aj:nsIn K mainGlobals "isinstance"=some none)
  (mv:nsIn K mainGlobals "all"=some none)
  (ff:nsIn K mainGlobals "list"=some none)
  (dw:nsIn K mainGlobals "bool"=some none)
  (nh:nsIn K mainGlobals "abs"=some none)
  (mj:nsIn K mainGlobals "zip"=some none)
  (dz:nsIn K mainGlobals "reversed"=some none)
  (oh:nsIn K mainGlobals "sum"=some none)
  (mq:nsIn K mainGlobals "min"=some none)
  (de:nsIn K mainGlobals "ValueError"=some none)
  (bu:nsIn K mainGlobals "NUMBER"=some (some (.int 0 jr)))
  (ie:nsIn K mainGlobals "GET"=some (some (.int 1 pd)))
  (ic:nsIn K mainGlobals "SET"=some (some (.int 2 ph)))
  (lq:nsIn K mainGlobals "ALL"=some (some (.int 3 px)))
  (ip:nsIn K mainGlobals "PICK"=some (some (.int 4 oj)))
  (im:nsIn K mainGlobals "LOOP"=some (some (.int 5 ng)))
  (fc:nsIn K mainGlobals "CALL"=some (some (.int 6 ms)))
  (iq:nsIn K mainGlobals "FAIL"=some (some (.int 7 og)))
  (ao:nsIn K mainGlobals "MOST_FUNCTIONS"=some (some (.int 16 bo)))
  (ax:nsIn K mainGlobals "MOST_PARAMS"=some (some (.int 4 cr)))
  (ba:nsIn K mainGlobals "MOST_BOXES"=some (some (.int 12 dh)))
  (bi:nsIn K mainGlobals "MOST_DEEP"=some (some (.int 10 fg)))
  (bh:nsIn K mainGlobals "MOST_MANY"=some (some (.int 12 fj)))
  (bj:nsIn K mainGlobals "LEAST_ALL"=some (some (.int 1 dt)))
  (az:nsIn K mainGlobals "LEAST_PICK"=some (some (.int 2 dk)))
  (bp:nsIn K mainGlobals "MOST_LETTERS"=some (some (.int 8 bz)))
  (aq:nsIn K mainGlobals "MOST_FIGURES"=some (some (.int 60 ce)))
  (gt:nsIn K mainGlobals "LETTERS"=some (some (.str "abcdefghijklmnopqrstuvwxyz" io)))
  (cj:nsIn K mainGlobals "FIGURES"=some (some (.str "0123456789" ja)))
  (gf:nsIn K mainGlobals "WORDS"=some (some (.ref aW)))
  (gh:K.lookup aW=some ⟨.type "tuple",none,.seq #[.str "set" jx,.str "all" ju,.str "pick" jq,.str "loop" jt,.str "call" ky,.str "fail" kg,.str "add" jv,.str "sub" kr,.str "mul" kn,.str "quo" kl,.str "rest" jh,.str "less" ig,.str "same" ir,.str "push" ij,.str "at" jg,.str "put" jc,.str "size" je,.str "new" iy] me,ly⟩)
  (dc:nsIn K mainGlobals "HEAD_WORDS"=some (some (.ref aH)))
  (da:K.lookup aH=some ⟨.type "tuple",none,.seq #[.str "fun" cu,.str "with" cz,.str "is" cm] dj,di⟩)
  (fq:nsIn K mainGlobals "PARTS"=some (some (.ref aP)))
  (kf:K.lookup aP=some ⟨.type "tuple",none,.seq #[.int 1 ku,.int 2 jn,.int 2 jy,.int 2 jw,.int 2 jo,.int 2 ke,.int 2 ko,.int 2 jm,.int 2 jk,.int 2 jp,.int 3 ji,.int 1 jj,.int 0 iu] mh,lx⟩)
  (dy:subIn K (.type "int") (.type "bool")=some false)
  (ar:isFn K (.ref f9)=true)
  (jz:makesIn K ae=true)
  (oq:keepIn K (.ref ae)=true)
  (om:plainGet K ae Str.empty=true)
  (pi:hasDictIn K ae=true)
  (qc:plainOver K ae=true)
  (pk:findIn K (.ref ae) "__setattr__"=some (some (.builtin "object.__setattr__")))
  (km:findIn K (.ref ae) "words"=some none)
  (qd:findIn K (.ref ae) "at"=some none)
  (lj:findIn K (.ref ae) "names"=some none)
  (ki:findIn K (.ref ae) "heads"=some none)
  (iw:findIn K (.ref ae) "bodies"=some none)
  (fm:findIn K (.ref ae) "numbered"=some none)
  (gu:findIn K (.ref ae) "counted"=some none)
  (xN:K.lookup ac=some (excClassObj zx qN ac NN xl (.ref fk::Fu) true ur qj ve qm wb vy yf sv yh vo "ValueError.__new__"))
  (xC:K.lookup fk=some ⟨yu,se,.cls ⟨uu,zq,qk,pj,qC,sf,uf,oy,zp,qh,pe⟩,wm⟩)
  (xD:K.lookup pj=some ⟨yy,xw,.dict qp nD,xv⟩)
  (xF:nsIn K pj "__init__"=some none)
  (vk:keepIn K (.ref ac)=true)
  (yo:typeIn K (.ref f0)=some (.type "function"))
  (qf:mroIn K ac (.type "object")=some true)
  (mz:mroIn K ac (.type "BaseException")=some true)
  (xsa:findIn K (.ref ac) "__setattr__"=some (some (.builtin "object.__setattr__")))
  (yt:findIn K (.ref ac) "__getattribute__"=some (some (.builtin "BaseException.__getattribute__")))
  (za:findIn K (.ref ac) "__getattr__"=some none)
  (qq:findIn K (.ref ac) "at"=some none)
  (xE:(qp.toList.all λe=>match e.key with| .str _ _=>true|_=>false)=true)
  (nj:nsIn K mainGlobals "NEW"=some (some (.int 19 qi)))
  (be:isFn K (.ref qw)=true)
  (db:isFn K (.ref qv)=true)
  (au:isFn K (.ref qu)=true)
  (mr:makesIn K ai=true)
  (xh:keepIn K (.ref ai)=true)
  (pg:plainGet K ai Str.empty=true)
  (hd:hasDictIn K ai=true)
  (po:plainOver K ai=true)
  (sa:findIn K (.ref ai) "__setattr__"=some (some (.builtin "object.__setattr__")))
  (py:findIn K (.ref ai) "numbers"=some none)
  (rq:findIn K (.ref ai) "place"=some none)
  (yN:K.lookup aa=some (excClassObj vn qM aa NM yl (.ref fk::Fu) true re ou rn qg yx xm vm ra rm ug "ValueError.__new__"))
  (yn:keepIn K (.ref aa)=true)
  (ux:typeIn K (.ref qt)=some (.type "function"))
  (oz:mroIn K aa (.type "object")=some true)
  (ml:mroIn K aa (.type "BaseException")=some true)
  (xc:findIn K (.ref aa) "__setattr__"=some (some (.builtin "object.__setattr__")))
  (ut:findIn K (.ref aa) "__getattribute__"=some (some (.builtin "BaseException.__getattribute__")))
  (uo:findIn K (.ref aa) "__getattr__"=some none)
  (wy:findIn K (.ref aa) "place"=some none)
  (zm:findIn K (.ref aa) "word"=some none)
  (ya:subIn K (.ref aa) (.ref aa)=some true)
  (xb:typeIn K (.ref aa)=some (.type "type"))
  (xk:isClsIn K aa=true)
  (xo:subIn K (.ref aa) (.type "BaseException")=some true)
  (gn:typeIn K (.ref ay)=some (.type "type"))
  (gr:isClsIn K ay=true)
  (gm:subIn K (.ref ac) (.ref ay)=some false)
  (ix:typeIn K (.ref bq)=some (.type "type"))
  (jb:isClsIn K bq=true)
  (ik:subIn K (.ref ac) (.ref bq)=some false)
  (gj:typeIn K (.ref bc)=some (.type "type"))
  (gq:isClsIn K bc=true)
  (gw:subIn K (.ref ac) (.ref bc)=some false)
  (cg:typeIn K (.ref af)=some (.type "type"))
  (bv:isClsIn K af=true)
  (cb:subIn K (.ref ac) (.ref af)=some true)
  (ib:typeIn K (.ref ac)=some (.type "type"))
  (gy:isClsIn K ac=true)
  (ak:subIn K (.ref ac) (.ref ac)=some true)
  (du:typeIn K (.ref aa)=some (.type "type"))
  (fe:isClsIn K aa=true)
  (fb:subIn K (.ref ac) (.ref aa)=some false)
  (bw:subIn K (.ref af) (.type "BaseException")=some true)
  (zb:subIn K (.ref ac) (.type "ValueError")=some true)
  (sk:findIn K (.ref ac) "__class__"=some (some (.builtin "object.__class__")))
  (zn:specialIn K (.builtin "object.__class__") "__get__"=some (some (.builtin "getset_descriptor.__get__")))
  (wg:takesIn K (.builtin "object.__class__")=some true)
  : ∃fd:FuncData,(∀(s:Shared) (v:Value),BindsTo s fd ⟨[v],[]⟩ [("_law_script",v)])/\ ∀base:Heap,K.In base->base.Ns mainGlobals mg->CU l.prog w K mg base (Hl l.prog w) 21 fa fd ["_law_script"] (Qa K):=by
 obtain⟨a0,_,F0⟩:=d0;have b0:=F0.b2 "self" "at" λ_ _ _ _ _ _ _ _=>rfl;obtain⟨a1,_,F1⟩:=d1;have b1:=F1.b1 "kind" λ_ _ _ _ _ _ _=>rfl;have m1:=mg_of X G a1;have k1:=F1.kp;obtain⟨a2,_,F2⟩:=d2;have b2:=F2.b1 "word" λ_ _ _ _ _ _ _=>rfl;obtain⟨a3,_,F3⟩:=d3;have b3:=F3.b3 "kind" "numbers" "heads" λ_ _ _ _ _ _ _ _ _=>rfl;have m3:=mg_of X G a3;have k3:=F3.kp;obtain⟨a4,_,F4⟩:=d4;have b4:=F4.b1 "text" λ_ _ _ _ _ _ _=>rfl;obtain⟨a5,_,F5⟩:=d5;have b5:=F5.b2 "word" "signs" λ_ _ _ _ _ _ _ _=>rfl;obtain⟨a6,_,F6⟩:=d6;have b6:=F6.b1 "word" λ_ _ _ _ _ _ _=>rfl;obtain⟨a7,_,F7⟩:=d7;have b7:=F7.b2 "word" "most_figures" λ_ _ _ _ _ _ _ _=>rfl;obtain⟨a8,_,F8⟩:=d8;have b8:=F8.b1 "word" λ_ _ _ _ _ _ _=>rfl;obtain⟨a9,_,F9⟩:=d9;have b9:=F9.b2 "self" "words" λ_ _ _ _ _ _ _ _=>rfl;obtain⟨a10,_,F10⟩:=rj;have b10:=F10.b1 "words" λ_ _ _ _ _ _ _=>rfl;obtain⟨a11,_,F11⟩:=xf;have b11:=F11.b1 "words" λ_ _ _ _ _ _ _=>rfl;obtain⟨a12,_,F12⟩:=xr;have b12:=F12.b1 "reading" λ_ _ _ _ _ _ _=>rfl;obtain⟨a13,_,F13⟩:=uj;have b13:=F13.b2 "reading" "there" λ_ _ _ _ _ _ _ _=>rfl;obtain⟨a14,_,F14⟩:=ul;have b14:=F14.b4 "reading" "boxes" "most" "last" λ_ _ _ _ _ _ _ _ _ _=>rfl;obtain⟨a15,_,F15⟩:=zc;have b15:=F15.b2 "reading" "boxes" λ_ _ _ _ _ _ _ _=>rfl;obtain⟨a16,_,F16⟩:=vd;have b16:=F16.b1 "reading" λ_ _ _ _ _ _ _=>rfl;obtain⟨a17,_,F17⟩:=zi;have b17:=F17.b2 "reading" "least" λ_ _ _ _ _ _ _ _=>rfl;obtain⟨a18,_,F18⟩:=uc;have b18:=F18.b1 "reading" λ_ _ _ _ _ _ _=>rfl;obtain⟨a19,_,F19⟩:=wz;have b19:=F19.b3 "reading" "kind" "boxes" λ_ _ _ _ _ _ _ _ _=>rfl;obtain⟨a20,_,F20⟩:=tu;have b20:=F20.b2 "reading" "boxes" λ_ _ _ _ _ _ _ _=>rfl;obtain⟨a21,_,F21⟩:=vi;have b21:=F21.b3 "reading" "boxes" "deep" λ_ _ _ _ _ _ _ _ _=>rfl;have m21:=mg_of X G a21;have k21:=F21.kp;obtain⟨a22,_,F22⟩:=rf;have b22:=F22.b1 "reading" λ_ _ _ _ _ _ _=>rfl;obtain⟨a23,_,F23⟩:=ym;have b23:=F23.b1 "text" λ_ _ _ _ _ _ _=>rfl;obtain⟨a24,_,F24⟩:=um;have b24:=F24.b3 "self" "place" "word" λ_ _ _ _ _ _ _ _ _=>rfl;obtain⟨a25,_,F25⟩:=zj;have b25:=F25.b2 "self" "numbers" λ_ _ _ _ _ _ _ _=>rfl;obtain⟨a26,_,F26⟩:=ye;have b26:=F26.b1 "self" λ_ _ _ _ _ _ _=>rfl;have k26:=F26.kp;obtain⟨a27,_,F27⟩:=ub;have b27:=F27.b3 "self" "least" "most" λ_ _ _ _ _ _ _ _ _=>rfl;have k27:=F27.kp;obtain⟨a28,_,F28⟩:=ud;have b28:=F28.b1 "thing" λ_ _ _ _ _ _ _=>rfl;obtain⟨a29,_,F29⟩:=zd;have b29:=F29.b1 "look" λ_ _ _ _ _ _ _=>rfl;obtain⟨a30,_,F30⟩:=yc;have b30:=F30.b4 "look" "kind" "heads" "boxes" λ_ _ _ _ _ _ _ _ _ _=>rfl;obtain⟨a31,_,F31⟩:=we;have b31:=F31.b4 "look" "heads" "boxes" "deep" λ_ _ _ _ _ _ _ _ _ _=>rfl;have m31:=mg_of X G a31;have k31:=F31.kp;obtain⟨a32,_,F32⟩:=uy;have b32:=F32.b1 "sheet" λ_ _ _ _ _ _ _=>rfl;obtain⟨a33,_,F33⟩:=zf;have b33:=F33.b1 "body" λ_ _ _ _ _ _ _=>rfl;obtain⟨a34,_,F34⟩:=rb;have b34:=F34.b1 "kind" λ_ _ _ _ _ _ _=>rfl;obtain⟨a35,_,F35⟩:=xt;have b35:=F35.b4 "kind" "number" "boxes" "names" λ_ _ _ _ _ _ _ _ _ _=>rfl;obtain⟨a36,_,F36⟩:=wo;have b36:=F36.b3 "body" "boxes" "names" λ_ _ _ _ _ _ _ _ _=>rfl;obtain⟨a37,_,F37⟩:=qz;have b37:=F37.b2 "names" "sheet" λ_ _ _ _ _ _ _ _=>rfl;obtain⟨a38,_,F38⟩:=wv;have b38:=F38.b2 "_law_script" "_law_k" λ_ _ _ _ _ _ _ _=>rfl;obtain⟨a39,_,F39⟩:=zy;have b39:=F39.b2 "_law_pen_here" "_law_many" λ_ _ _ _ _ _ _ _=>rfl;obtain⟨a40,_,F40⟩:=d40;have b40:=F40.b0 λ_ _ _ _ _ _=>rfl;obtain⟨a41,_,F41⟩:=uw;have b41:=F41.b2 "_law_pen_here" "_law_taken" λ_ _ _ _ _ _ _ _=>rfl;obtain⟨a42,_,F42⟩:=yv;have b42:=F42.b2 "_law_pen_here" "_law_most" λ_ _ _ _ _ _ _ _=>rfl;obtain⟨a43,_,F43⟩:=yw;have b43:=F43.b2 "_law_pen_here" "_law_is_far" λ_ _ _ _ _ _ _ _=>rfl;obtain⟨a44,_,F44⟩:=zt;have b44:=F44.b5 "_law_pen_here" "_law_heads_here" "_law_boxes" "_law_left" "_law_deep" λ_ _ _ _ _ _ _ _ _ _ _=>rfl;have m44:=mg_of X G a44;have k44:=F44.kp;obtain⟨a45,_,F45⟩:=vg;have b45:=F45.b3 "_law_pen_here" "_law_most" "_law_room" λ_ _ _ _ _ _ _ _ _=>rfl;obtain⟨a46,_,F46⟩:=yi;have b46:=F46.b1 "_law_word" λ_ _ _ _ _ _ _=>rfl;obtain⟨a47,_,F47⟩:=uv;have b47:=F47.b1 "_law_word" λ_ _ _ _ _ _ _=>rfl;obtain⟨a48,_,F48⟩:=yp;have b48:=F48.b1 "_law_words_here" λ_ _ _ _ _ _ _=>rfl;obtain⟨a49,_,F49⟩:=uk;have b49:=F49.b5 "_law_words_here" "_law_at" "_law_end" "_law_boxes" "_law_most" λ_ _ _ _ _ _ _ _ _ _ _=>rfl;obtain⟨a50,_,F50⟩:=xp;have b50:=F50.b4 "_law_words_here" "_law_at" "_law_boxes" "_law_heads_here" λ_ _ _ _ _ _ _ _ _ _=>rfl;obtain⟨a51,_,F51⟩:=vq;have b51:=F51.b4 "_law_words_here" "_law_at" "_law_boxes" "_law_heads_here" λ_ _ _ _ _ _ _ _ _ _=>rfl;obtain⟨a52,_,F52⟩:=vc;have b52:=F52.b1 "_law_words_here" λ_ _ _ _ _ _ _=>rfl;obtain⟨a53,_,F53⟩:=xn;have b53:=F53.b2 "_law_e" "_law_at" λ_ _ _ _ _ _ _ _=>rfl;obtain⟨a54,_,F54⟩:=sr;have b54:=F54.b2 "_law_pen_here" "_law_words_here" λ_ _ _ _ _ _ _ _=>rfl;obtain⟨a55,_,F55⟩:=rk;have b55:=F55.b1 "_law_words_here" λ_ _ _ _ _ _ _=>rfl;obtain⟨a56,_,F56⟩:=xu;have e:=zr.symm.trans (mg_of X G a56);cases e;refine⟨_,F56.law "_law_script" λ_ _ _ _ _ _ _=>rfl,λbase _ _=>?_⟩;have cl: ∀{x q g:Str} {st:Stmt} {f:Addr} {fd:FuncData} {k:Nat} {ps:List Str} {sp:Sp},nsIn K mainGlobals g=some (some (.ref f))->uB K x q st f fd->Ab K fd ps []->CU l.prog w K mg base (Hl l.prog w) k f fd ps sp->Xi l.prog w K mg base (Hl l.prog w) k g ps sp:=λa F b o=>Cl X G a F b o;have TS:zBb K mg:=⟨xR X G fu,⟨_,mg_of X G cj⟩,⟨_,mg_of X G aq⟩⟩;have T:Txt K mg aP aW aH ac ae:=⟨xR X G fu,xR X G ck,xR X G gc,xR X G cv,xR X G ii,xR X G aj,⟨_,mg_of X G bu⟩,⟨_,mg_of X G ie⟩,⟨_,mg_of X G ic⟩,⟨_,mg_of X G lq⟩,⟨_,mg_of X G ip⟩,⟨_,mg_of X G im⟩,⟨_,mg_of X G fc⟩,⟨_,mg_of X G iq⟩,⟨_,mg_of X G ao⟩,⟨_,mg_of X G ax⟩,⟨_,mg_of X G ba⟩,⟨_,mg_of X G bi⟩,⟨_,mg_of X G bh⟩,⟨_,mg_of X G bj⟩,⟨_,mg_of X G az⟩,⟨_,mg_of X G bp⟩,⟨_,mg_of X G aq⟩,⟨_,mg_of X G gt⟩,⟨_,mg_of X G cj⟩,mg_of X G gf,mg_of X G dc,mg_of X G fq,λH=>Rj (xs:=[V.str "set",V.str "all",V.str "pick",V.str "loop",V.str "call",V.str "fail",V.str "add",V.str "sub",V.str "mul",V.str "quo",V.str "rest",V.str "less",V.str "same",V.str "push",V.str "at",V.str "put",V.str "size",V.str "new"]) gh sm18 (.cons ⟨_,rfl⟩ (.cons ⟨_,rfl⟩ (.cons ⟨_,rfl⟩ (.cons ⟨_,rfl⟩ (.cons ⟨_,rfl⟩ (.cons ⟨_,rfl⟩ (.cons ⟨_,rfl⟩ (.cons ⟨_,rfl⟩ (.cons ⟨_,rfl⟩ (.cons ⟨_,rfl⟩ (.cons ⟨_,rfl⟩ (.cons ⟨_,rfl⟩ (.cons ⟨_,rfl⟩ (.cons ⟨_,rfl⟩ (.cons ⟨_,rfl⟩ (.cons ⟨_,rfl⟩ (.cons ⟨_,rfl⟩ (.cons ⟨_,rfl⟩ (.nil))))))))))))))))))) H,⟨_,gh,rfl,rfl⟩,λH=>Rj (xs:=[V.str "fun",V.str "with",V.str "is"]) da sm3 (.cons ⟨_,rfl⟩ (.cons ⟨_,rfl⟩ (.cons ⟨_,rfl⟩ (.nil)))) H,λH=>Rj (xs:=[V.int 1,V.int 2,V.int 2,V.int 2,V.int 2,V.int 2,V.int 2,V.int 2,V.int 2,V.int 2,V.int 3,V.int 1,V.int 0]) kf sm13 (.cons ⟨_,rfl⟩ (.cons ⟨_,rfl⟩ (.cons ⟨_,rfl⟩ (.cons ⟨_,rfl⟩ (.cons ⟨_,rfl⟩ (.cons ⟨_,rfl⟩ (.cons ⟨_,rfl⟩ (.cons ⟨_,rfl⟩ (.cons ⟨_,rfl⟩ (.cons ⟨_,rfl⟩ (.cons ⟨_,rfl⟩ (.cons ⟨_,rfl⟩ (.cons ⟨_,rfl⟩ (.nil)))))))))))))) H,DE,⟨WH xN,qf,mz,xsa,yt,za⟩,qq,⟨om,pi,qc,pk⟩,km,qd,lj,ki,iw,fm,gu⟩;have TN:JU K mg aP ai aa:=⟨xR X G fu,xR X G nh,xR X G ck,xR X G aj,xR X G gc,xR X G dw,xR X G ff,xR X G cv,⟨_,mg_of X G bu⟩,⟨_,mg_of X G ie⟩,⟨_,mg_of X G ic⟩,⟨_,mg_of X G lq⟩,⟨_,mg_of X G ip⟩,⟨_,mg_of X G im⟩,⟨_,mg_of X G fc⟩,⟨_,mg_of X G iq⟩,⟨_,mg_of X G nj⟩,⟨_,mg_of X G ao⟩,⟨_,mg_of X G ax⟩,⟨_,mg_of X G ba⟩,⟨_,mg_of X G bi⟩,⟨_,mg_of X G bh⟩,⟨_,mg_of X G bj⟩,⟨_,mg_of X G az⟩,mg_of X G fq,mg_of X G bg,T.parts,DE,Pj dy,DE,DE,⟨pg,hd,po,sa⟩,py,rq,⟨WH yN,oz,ml,xc,ut,uo⟩,wy,zm,⟨ya,xb,xk,xo⟩⟩;have TV:WU K mg aW:=⟨xR X G ii,xR X G mj,xR X G ff,⟨_,mg_of X G bu⟩,⟨_,mg_of X G ie⟩,⟨_,mg_of X G ic⟩,⟨_,mg_of X G fc⟩,mg_of X G gf,T.words⟩;have n_reversed:=xR X G dz;have TL:Ky K mg:=⟨xR X G fu,xR X G ck,xR X G gc,xR X G ii,xR X G mv,xR X G ff,xR X G dw,xR X G cv,xR X G aj,DE,DE,DE,Pj dy⟩;have TQ:WV K mg:=⟨TL,xR X G mq,xR X G oh⟩;have TE:zBc K mg aa ac ay bc bq af:=⟨xR X G aj,xR X G gc,xR X G dw,xR X G de,mg_of X G bg,mg_of X G dq,mg_of X G jd,mg_of X G jf,mg_of X G kd,mg_of X G cq,T.exc,⟨sk,zn,wg⟩,⟨cb,cg,bv,bw⟩,qq,JH ak ib gy ak,JH gm gn gr ak,JH gw gj gq ak,JH ik ix jb ak,JH fb du fe ak,Pj zb rfl,DE,Pj dy⟩;have X0:Go l.prog w K mg base 1 "NoText" ac _ _:=⟨⟨_,_,QY.ofValue ⟨_,_,_,_,_,_,_,_,_,_,_,_,_,_,_,_,xN,QJ xC rfl (YW xD xE) xF⟩ a0 yo vk T.exc,VY T F0,mg_of X G dq,b0⟩⟩;have C1:=cl a1 F1 b1 (TZ T F1);have C2:=cl a2 F2 b2 (RN T F2);have C3:=cl a3 F3 b3 (XW T F3 C1);have C4:=cl a4 F4 b4 (Qq F4);have C5:=cl a5 F5 b5 (MP F5);have C6:=cl a6 F6 b6 (RO T F6 C5);have C7:=cl a7 F7 b7 (Pe TS F7 C5);have C8:=cl a8 F8 b8 (Ua TS F8 C7);have C10:=cl a10 F10 b10 (Qs T F10);have C11:=cl a11 F11 b11 (Wb T F11);have D9:Xh l.prog w K mg base (Hl l.prog w) 2 "Reading" ae _ _:=⟨⟨_,_,⟨jz,a9,ar,oq⟩,VW T F9 C10 C11,mg_of X G gv,b9⟩⟩;have C12:=cl a12 F12 b12 (XX T F12 X0);have C13:=cl a13 F13 b13 (XT T F13 X0 C12 C6);have C14:=cl a14 F14 b14 (Uc T F14 X0 C12 C13);have C15:=cl a15 F15 b15 (XY T F15 X0 C12);have C16:=cl a16 F16 b16 (XR T F16 X0 C12 C8);have C17:=cl a17 F17 b17 (VS T F17 X0 C16);have C18:=cl a18 F18 b18 (RQ T F18 X0 C12 C6);have C19:=cl a19 F19 b19 (XO T F19 C15 C16 C17 C18);have C20:=cl a20 F20 b20 (VU T F20 X0 C12 C8 C2);have C21:Xi l.prog w K mg base (Hl l.prog w) 17 "read_node" _ (Ii ae ac 10):=⟨⟨_,_,Nv T F21 X0 C20 C19 C3 m21 k21 b21 10 (zW _),m21,k21,b21⟩⟩;have C22:=cl a22 F22 b22 (XV T F22 X0 C12 C13 C14 C21);have C23:=cl a23 F23 b23 (VM T F23 X0 C4 D9 C22);have X24:Go l.prog w K mg base 1 "NoSheet" aa _ _:=⟨⟨_,_,QY.ofValue ⟨_,_,_,_,_,_,_,_,_,_,_,_,_,_,_,_,yN,QJ xC rfl (YW xD xE) xF⟩ a24 ux yn TN.exc,VV TN F24,mg_of X G bg,b24⟩⟩;have K25:Xh l.prog w K mg base (Hl l.prog w) 1 "Look" ai _ _:=⟨⟨_,_,⟨mr,a25,be,xh⟩,VX TN F25,mg_of X G mf,b25⟩⟩;have C28:=cl a28 F28 b28 (VL TN F28);have M26:MW l.prog w K mg base (Hl l.prog w) 3 ai "take" _ _:=⟨⟨_,_,zCy TN F26 C28 X24,TN.look,⟨a26,db,k26⟩,b26⟩⟩;have M27:MW l.prog w K mg base (Hl l.prog w) 4 ai "take_within" _ _:=⟨⟨_,_,TX TN F27 M26 X24,TN.look,⟨a27,au,k27⟩,b27⟩⟩;have C29:=cl a29 F29 b29 (VZ TN F29 M27);have C30:=cl a30 F30 b30 (zAb TN F30 M26 M27);have S1:Xi l.prog w K mg base (Hl l.prog w) 1 "parts_of" _ _:=⟨⟨_,_,VO TN F1,m1,k1,b1⟩⟩;have S3:Xi l.prog w K mg base (Hl l.prog w) 2 "parts_due" _ _:=⟨⟨_,_,zAd TN F3 S1,m3,k3,b3⟩⟩;have N31:=VP TN F31 X24 M27 C30 S3 m31 k31 b31;have C31:Xi l.prog w K mg base (Hl l.prog w) 16 "take_node" _ (Kb ai aa 10):=⟨⟨_,_,N31 10 (zW _),m31,k31,b31⟩⟩;have C32:=cl a32 F32 b32 (zAc TN F32 X24 K25 C29 C31);have C33:=cl a33 F33 b33 (Qt TN n_reversed F33);have C34:=cl a34 F34 b34 (RK TV F34);have C35:=cl a35 F35 b35 (Qr TV F35);have C36:=cl a36 F36 b36 (Pd TV F36 C33 C34 C35);have C37:=cl a37 F37 b37 (Pc TV F37 C32 C36);have C38:=cl a38 F38 b38 (XN TL F38);have C39:=cl a39 F39 b39 (Wa F39);have C40:=cl a40 F40 b40 (TW F40);have C41:=cl a41 F41 b41 (VR TL F41 C39 C40);have C42:=cl a42 F42 b42 (RP TL F42 C39 C41);have C43:=cl a43 F43 b43 (RL F43 C39);have C44:Xi l.prog w K mg base (Hl l.prog w) 13 "_law_shape" _ (FR 10):=⟨⟨_,_,LX TL F44 C39 C40 C43 m44 k44 b44 10,m44,k44,b44⟩⟩;have C45:=cl a45 F45 b45 (VN TL F45 C42 C44);have C46:=cl a46 F46 b46 (VQ TL F46 C40);have C47:=cl a47 F47 b47 (XS TL F47);have C48:=cl a48 F48 b48 (Ub TL F48);have C49:=cl a49 F49 b49 (RM TL F49 C46);have C50:=cl a50 F50 b50 (XQ TL F50 C40 C46 C47);have C51:=cl a51 F51 b51 (Wc TQ F51 C40 C50 C47);have C52:=cl a52 F52 b52 (VJ TQ F52 C48 C46 C49 C51);have C53:=cl a53 F53 b53 (TY TE F53);have C54:=cl a54 F54 b54 (XZ TQ F54 C39 C40);have C55:=cl a55 F55 b55 (XU TE F55 C52 C23 C37 C53);exact VT TQ F56 C38 C39 C45 C54 C55
theorem walk {l:PySem.W.OpenLaw}{q:Program}{loose:List Str}{XP:(Str->Option Value)->Heap->Prop}{YP:World->Heap->Prop}{d:DefRec}{K:Params->PySem.W.Frag}(hn:l.most=some 63)(hdf:d.params.defaults=[])
  (hY: ∀(w:World) (h:Heap),YP w h->(K w.params).In h)
  (F: ∀(w:World) (mg:Str->Option Value) (fa:Addr) (h:Heap),(K w.params).In h->h.Ns mainGlobals mg->mg d.name=some (.ref fa)->
   ∃fd:FuncData,(∀(s:Shared) (u:Value),BindsTo s fd ⟨[u],[]⟩ [("_law_script",u)])/\ ∀base:Heap,(K w.params).In base->base.Ns mainGlobals mg->CU l.prog w (K w.params) mg base (Hl l.prog w) 21 fa fd ["_law_script"] (Qa (K w.params))):
  PySem.W.WalkO q loose XP YP l.row.toRowW d [] (λf vs=>PySem.call f vs):=
 L2.walk_of (n:=63) (k:=21) (x:="_law_script") (CX:=λw=>(Hl l.prog w)) (sp:=λw=>Qa (K w.params)) hn (by decide) hdf ⟨rfl,by decide,by decide,rfl⟩ hY F (λ_ _ a ns hl hO hS=>⟨a,ns,rfl,Zk.of hO hS,hl,λ_=>rfl⟩) (λ_ _ _ _ _=>QR)
end OcL
namespace OcP
open PySem
set_option compiler.extract_closed false
def n:List Stmt->Nat->Stmt
 |a::_,0=>a
 |_::t,k+1=>n t k
 |_,_=>.Pass ⟨0,0,0,0⟩
def N:=n PySem.Challenge.pw_ownchain_k10_words_looked_through.main.body
def s0:=N 0
def s1:=N 1
def s2:=N 2
def s3:=N 3
def s4:=N 4
def s5:=N 5
def s6:=N 6
def s7:=N 7
def s8:=N 8
def s9:=N 9
def s10:=N 10
def s11:=N 11
def s12:=N 12
def s13:=N 13
def s14:=N 14
def s15:=N 15
def s16:=N 16
def s17:=N 17
def s18:=N 18
def s19:=N 19
def s20:=N 20
def s21:=N 21
def s22:=N 22
def s23:=N 23
def s24:=N 24
def s25:=N 25
def s26:=N 26
def s27:=N 27
def s28:=N 28
def s29:=N 29
def s30:=N 30
def s31:=N 31
def s32:=N 32
def s33:=N 33
def s34:=N 34
def s35:=N 35
def s36:=N 36
def s37:=N 37
def s38:=N 38
def s39:=N 39
def s40:=N 40
def s41:=N 41
def s42:=N 42
def s43:=N 43
def s44:=N 44
def s45:=N 45
def s46:=N 46
def s47:=N 47
def s48:=N 48
def s49:=N 49
def s50:=N 50
def s51:=N 51
def s52:=N 52
def s53:=N 53
def s54:=N 54
def s55:=N 55
def s56:=N 56
def s57:=N 57
def s58:=N 58
def s59:=N 59
def s60:=N 60
def s61:=N 61
def s62:=N 62
def s63:=N 63
def s64:=N 64
def s65:=N 65
def s66:=N 66
def s67:=N 67
def s68:=N 68
def s69:=N 69
def s70:=N 70
def s71:=N 71
def s72:=N 72
def s73:=N 73
def s74:=N 74
def s75:=N 75
def s76:=N 76
def s77:=N 77
def s78:=N 78
def s79:=N 79
def s80:=N 80
def s81:=N 81
def s82:=N 82
def s83:=N 83
def s84:=N 84
def s85:=N 85
def s86:=N 86
def s87:=N 87
def s88:=N 88
def sc:=PySem.Challenge.pw_ownchain_k10_words_looked_through.main.scope
def gi:Given:={argv:=[],stdin:=[],environ:=(some [([76,67,95,65,76,76],[67,46,85,84,70,45,56])]):PySem.Given}
def fi:Str:="/claim/cut.py"
def pw:Program:={main:={body:=[s0,s1,s2,s3,s4,s5,s6,s7,s8,s9,s10,s11,s12,s13,s14,s15,s16,s17,s18,s19,s20,s21,s22,s23,s24,s25,s26,s27,s28,s29,s30,s31,s32,s33,s34,s35,s36,s37,s38,s39,s40,s41,s42,s43,s44,s45,s46,s47,s48,s49,s50,s51,s52,s53,s54,s55,s56,s57,s58,s59,s60,s61,s62,s63,s64,s65,s66,s67,s68,s69,s70,s71,s72,s73,s74,s75,s76,s77,s78,s79,s80,s81,s82,s83,s84,s85,s86,s87,s88],scope:=sc,futureAnnotations:=false,file:=fi,more:=[]},modules:=[],parses:=[],absent:=[],harvested:=[],given:=gi}
def rw:PySem.W.OpenLaw:={prog:=pw,name:=(PySem.Str.ofString "law"),about:=[(PySem.Str.ofString "read_text")],foot:=19,most:=some 63,bound:=none,writes:=false}
theorem rw_eq:PySem.Challenge.rw_ownchain_k10_words_looked_through=rw:=rfl
end OcP
namespace PySem.W.Fast
 def tw10128318925688834326:=() def tw10196130085812490816:=() def tw10356995821242882131:=() def tw10672624134994468530:=() def tw11844565373898330654:=() def tw12067784932639321207:=() def tw12975411541430924672:=() def tw13312189280541759399:=()
 def tw13471881563429459470:=() def tw16105314868759134714:=() def tw16579709692599070415:=() def tw1761948585868270314:=() def tw3212788915102252138:=() def tw420961426902095146:=() def tw4232577813471633155:=() def tw925729382515247347:=()
 def tw9306719707892057658:=() def tw5144555410969932558:=() def tw18029286625467087335:=() def tw6332764939747194129:=() def tw16976093314135920252:=() def tw5789831680824020635:=() def tw2184916506694694427:=() def tw17631154265215099610:=()
 def tw13606044768324322846:=() def tw6634865714634005507:=() def tw16200232543746491899:=() def tw10291373119354155934:=() def tw11339908283949991567:=() def tw7041575202782503273:=() def tw793868218813219551:=() def tw13394753691716186400:=()
 def tw577383244846172122:=() def tw1236632199235230191:=() def tw11740473204353156151:=() def tw310427572373298956:=() def tw5629522135116622208:=() def tw14221206387972539492:=() def tw17798766827655627112:=() def tw14411464506239743028:=()
 def tw3139878009276750683:=() def tw9836690666250845634:=() def tw9289113069016095613:=() def tw183947874113632746:=() def tw18082169727056633903:=() def tw5617763648102347060:=() def tw2379534411100428943:=() def tw1313774474072661231:=()
 def tw12164479492966322924:=() def tw8572930718150557607:=() def tw7431233090889855914:=() def tw10419050919256994339:=() def tw16996706875424526112:=() def tw5017850964331821721:=() def tw2691948481750451190:=() def tw10629676287747422606:=()
 def tw5034743951676910594:=() def tw4145473862126454079:=() def tw12399303285070277833:=() def tw16805127537796713049:=() def tw8104682965927737734:=() def tw12316212815072990430:=() def tw12263523208277133562:=() def tw16783008403889635914:=()
 def tw7146772330850065157:=() def tw17978107650058026475:=() def tw11958861634457930427:=() def tw12969144078288990684:=() def tw1312414292615895496:=() def tw13203623664842214118:=() def tw12077638621265783633:=() def tw253951459677402829:=()
 def tw13257751664008287169:=() def tw13035586570900834620:=() def tw12790729339084858416:=() def tw16398368814757180958:=() def tw11952386150587617775:=() def tw1470107111485010424:=() def tw4863872740516572294:=() def tw3974959236143331953:=()
 def tw1221064733350596342:=() def tw940238851574108622:=() def tw17811571721334959267:=() def tw15477302015293673594:=() def tw17205558026060761100:=() def tw7325603560234011255:=() def tw12979368212003345001:=() def tw9906361099387190746:=()
 def tw11507579241786956089:=() def tw4337135198277196059:=() def tw15918484453758598958:=() def tw17817199887914378046:=() def tw18116447269401579712:=() def tw11701520275123347606:=() def tw12064733293841175175:=() def tw3391604115067685331:=()
 def tw1956121509981097221:=() def tw16973064736814500140:=() def tw9507443848324553397:=() def tw18159820235578174850:=() def tw793764121003494141:=() def tw6933243229646317088:=() def tw4561603610798911683:=() def tw1859345661506245060:=()
 def tw18039665570341638669:=() def tw16970140446576032155:=() def tw15153631002719656172:=() def tw3742161220141553994:=() def tw15402927256969020163:=() def tw8344158095659692106:=() def tw11853211414702252156:=() def tw8119105180293373780:=()
 def tw136768163240568198:=() def tw10484938552652666665:=() def tw15831409252485913377:=() def tw8883627676544989297:=() def tw11385666184823203814:=() def tw13876314077387804834:=() def tw8948207975929187361:=() def tw11224913269786209927:=()
 def tw5434580332527851318:=() def tw12877897345079050025:=() def tw811809607545320484:=() def tw10833533505070307676:=() def tw579716102884182378:=() def tw14449095318485610873:=() def tw4652639162705299908:=() def tw10689961827019498607:=()
 def tw710042486325617020:=() def tw12862091371517236511:=() def tw2719691339707513874:=() def tw5831525558175994341:=() def tw10314079335040258669:=() def tw16693912537932393581:=() def tw5235898499162390984:=() def tw14554848849098011603:=()
 def tw12411049109622190454:=() def tw9782223271978542485:=() def tw2970049903918687144:=() def tw2185953999954831654:=() def tw1727229333914851172:=() def tw14590320859372829048:=() def tw12254216320216026772:=() def tw16766185268183857586:=()
 def tw6414405583370072605:=() def tw18207393977588758919:=() def tw3178048100799187480:=() def tw1447519823756757881:=() def tw17798237663631305429:=() def tw6396674857800848053:=() def tw17748864104048658216:=() def tw4015177788026395593:=()
 def tw2587212778338688942:=() def tw13051689614206985554:=() def tw14926615295391339148:=() def tw10889933033617403511:=() def tw365057449258942507:=() def tw7606483409876279014:=() def tw8514256562216085210:=() def tw6460681732434906623:=()
 def tw5759911942922802908:=() def tw2038720176290406450:=() def tw5670699238373968577:=() def tw6954300327228299711:=() def tw2662235423606786896:=() def tw6342907875633407864:=() def tw7553952162733071570:=() def tw16299912187059338837:=()
 def tw12445050239267518683:=() def tw18214415278023593542:=() def tw8124149412334938064:=() def tw17933580202136158834:=() def tw17112640554887216697:=() def tw10084885124697552225:=() def tw7211464205382707221:=() def tw147537155745763508:=()
 def tw13201697638021514849:=() def tw8671355963091421759:=() def tw15943571918118796426:=() def tw14595710035145398:=() def tw5089398527872235190:=() def tw3596897722014278633:=() def tw1845053593958284342:=() def tw13880242839800325912:=()
 def tw14782943140169589857:=() def tw11596121109589302203:=() def tw1552691123325934562:=() def tw2283537841551762383:=() def tw8881457058084710802:=() def tw8173152578248078172:=() def tw6715176386178179:=() def tw17961692770977276666:=()
 def tw3185373183050541909:=() def tw11350168593483325491:=() def tw9391883917478126927:=() def tw8283373384316905411:=() def tw4179512670604218324:=() def tw13360760932182148958:=() def tw15979280682587765090:=() def tw18393930436050002398:=()
 def tw3860933343935409385:=() def tw9632501062264324931:=() def tw5738786247132747053:=() def tw547818215851498122:=() def tw15439288109327232034:=() def tw3969049781370800805:=() def tw10127082075988219802:=() def tw39344014359254347:=()
 def tw4658744879277336116:=() def tw16197849496350294077:=() def tw12503453371980509268:=() def tw288514846049088755:=() def tw8677838716591019122:=() def tw5893161027555707970:=() def tw4511738427948912115:=() def tw16835935187285222080:=()
 def tw5526068438544002335:=() def tw4743240072242618037:=() def tw10271499074161363100:=() def tw15547858858230156782:=() def tw15485980101815650572:=() def tw6829071044152388135:=() def tw14195092711791635219:=() def tw4117317148121879489:=()
 def tw9736688944871019012:=() def tw4326294932855263814:=() def tw2280087159115148306:=() def tw9737420151175383179:=() def tw14353126626920662147:=() def tw9622300744793774315:=() def tw6140033209445708472:=() def tw1091726388806399965:=()
 def tw3452056192436001872:=() def tw4384491514674421983:=() def tw7851380081166032958:=() def tw10123275923748707276:=() def tw13580754791303360936:=() def tw2074847635991843611:=() def tw934830424838579087:=() def tw11004225766476942138:=()
 def tw15401080749072757759:=() def tw5608950059556646235:=() def tw1727416110002495779:=() def tw777285680862376739:=() def tw5476295403025294036:=() def tw9072339460181175051:=() def tw17048042353722872503:=() def tw2100624368530891452:=()
 def tw8426519355614373931:=() def tw13817910816804201989:=() def tw12153608898760569389:=() def tw8592270051782826468:=() def tw6454182591171542565:=() def tw17971136448091650648:=() def tw11175276315189376189:=() def tw17842689128920678486:=()
 def tw15168284473879280653:=() def tw1092993972173727612:=() def tw14619276433084197223:=() def tw14032399293906428396:=() def tw17138684225988145849:=() def tw1231392671197822533:=() def tw3377895962304531417:=() def tw5782017874812010787:=()
 def tw15958238206150179820:=() def tw10499135023719930244:=() def tw4620571168042584566:=() def tw5963596088420113221:=() def tw17266086135650209254:=() def tw855769616180980396:=() def tw15624594762990886414:=() def tw2210679507811174856:=()
 def tw10246969457590349047:=() def tw16407705585620705448:=() def tw223460018218453591:=() def tw16733364256881683589:=() def tw6305875579368492410:=()
end PySem.W.Fast
open PySem PySem.W PyProof.Rows
set_option maxRecDepth 100000 in
set_option maxHeartbeats 0 in
theorem PySem.Challenge.cw_ownchain_k10_words_looked_through_holds : PySem.Challenge.rw_ownchain_k10_words_looked_through.Holds := by
 rw[OcP.rw_eq]
 w_on;o_law;z_head;(case hw=>w_witness2)
 k_fill
 refine L2.walkX_of (λP=>rfl) ?_;refine OcL.walk (l:=OcP.rw) rfl rfl (λw h Y=>Y) ?F
 case F=>
  intro w mg fa h KX G hmg
  refine' OcL.all_mk KX G hmg ?_ ?_ ?_ ?_ ?_ ?_ ?_ ?_ ?_ ?_ ?_ ?_ ?_ ?_ ?_ ?_ ?_ ?_ ?_ ?_ ?_ ?_ ?_ ?_ ?_ ?_ ?_ ?_ ?_ ?_ ?_ ?_ ?_ ?_ ?_ ?_ ?_ ?_ ?_ ?_ ?_ ?_ ?_ ?_ ?_ ?_ ?_ ?_ ?_ ?_ ?_ ?_ ?_ ?_ ?_ ?_ ?_ ?_ ?_ ?_ ?_ ?_ ?_ ?_ ?_ ?_ ?_ ?_ ?_ ?_ ?_ ?_ ?_ ?_ ?_ ?_ ?_ ?_ ?_ ?_ ?_ ?_ ?_ ?_ ?_ ?_ ?_ ?_ ?_ ?_ ?_ ?_ ?_ ?_ ?_ ?_ ?_ ?_ ?_ ?_ ?_ ?_ ?_ ?_ ?_ ?_ ?_ ?_ ?_ ?_ ?_ ?_ ?_ ?_ ?_ ?_ ?_ ?_ ?_ ?_ ?_ ?_ ?_ ?_ ?_ ?_ ?_ ?_ ?_ ?_ ?_ ?_ ?_ ?_ ?_ ?_ ?_ ?_ ?_ ?_ ?_ ?_ ?_ ?_ ?_ ?_ ?_ ?_ ?_ ?_ ?_ ?_ ?_ ?_ ?_ ?_ ?_ ?_ ?_ ?_ ?_ ?_ ?_ ?_ ?_ ?_ ?_ ?_ ?_ ?_ ?_ ?_ ?_ ?_ ?_ ?_ ?_ ?_ ?_ ?_ ?_ ?_
  all_goals first|k_is|rfl|(refine' L2.dg_mk ?a ?b ?c ?d;(case a=>k_is);(case b=>k_is);(case c=>k_is);(case d=>k_is))|(refine' L2.dm_mk ?a ?b ?c ?d;(case a=>k_is);(case b=>k_is);(case c=>k_is);(case d=>k_is))|skip
