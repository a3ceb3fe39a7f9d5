import PyProof.Rows.All
import Wide.All
import OpenK.AllK
import Wide.FinOn
import Lean
import PyProof.EqAt
import PyProof.EqKinds
import PyProof.TupleCall
import PySem.Challenge.RW_spaceturns_k34_what_is_no_turn
set_option Elab.async false
set_option linter.all false
set_option maxRecDepth 100000
theorem Qx:type_of%@PySem.wpAny_bind:=@PySem.wpAny_bind
theorem Qy:type_of%@PySem.Heap.get?_push_of_some:=@PySem.Heap.get?_push_of_some
theorem Qz:type_of%@PySem.wpAny_pure:=@PySem.wpAny_pure
theorem QA:type_of%@List.mem_cons:=@List.mem_cons
theorem QB:type_of%@List.mem_cons_of_mem:=@List.mem_cons_of_mem
theorem QC:type_of%@PySem.Heap.lt_size:=@PySem.Heap.lt_size
theorem QD:type_of%@Nat.le_trans:=@Nat.le_trans
theorem QE:type_of%@List.mem_cons_self:=@List.mem_cons_self
theorem QF:type_of%@Nat.le_refl:=@Nat.le_refl
theorem QG:type_of%@Nat.lt_of_lt_of_le:=@Nat.lt_of_lt_of_le
theorem QH:type_of%@PySem.Heap.get?_push_size:=@PySem.Heap.get?_push_size
theorem QI:type_of%@List.not_mem_nil:=@List.not_mem_nil
theorem QJ:type_of%@List.getElem?_eq_some_iff:=@List.getElem?_eq_some_iff
theorem QK:type_of%@Option.some.inj:=@Option.some.inj
theorem QL:type_of%@List.getElem?_eq_getElem:=@List.getElem?_eq_getElem
theorem QM:type_of%@List.size_toArray:=@List.size_toArray
theorem QN:type_of%@Bool.and_eq_true:=@Bool.and_eq_true
theorem QO:type_of%@List.lookup_cons:=@List.lookup_cons
theorem QP:type_of%@Bool.false_ne_true:=@Bool.false_ne_true
theorem QQ:type_of%@PySem.Heap.get?_update_other:=@PySem.Heap.get?_update_other
theorem QR:type_of%@PySem.mem_of_lookup:=@PySem.mem_of_lookup
theorem QS:type_of%@List.getElem?_map:=@List.getElem?_map
theorem QT:type_of%@Nat.ne_of_lt:=@Nat.ne_of_lt
theorem QU:type_of%@Int.fmod_nonneg_of_pos:=@Int.fmod_nonneg_of_pos
theorem QV:type_of%@Int.mul_assoc:=@Int.mul_assoc
theorem QW:type_of%@List.getD_eq_getElem?_getD:=@List.getD_eq_getElem?_getD
theorem QX:type_of%@PySem.W.mg_of:=@PySem.W.mg_of
theorem QY:type_of%@decide_eq_false:=@decide_eq_false
theorem QZ:type_of%@Nat.zero_le:=@Nat.zero_le
theorem Q0:type_of%@List.length_map:=@List.length_map
theorem Q1:type_of%@or_false:=@or_false
theorem Q2:type_of%@List.mem_append_right:=@List.mem_append_right
theorem Q3:type_of%@Nat.le_of_ble_eq_true:=@Nat.le_of_ble_eq_true
theorem Q4:type_of%@Int.fmod_lt_of_pos:=@Int.fmod_lt_of_pos
theorem Q5:type_of%@Nat.lt_succ_self:=@Nat.lt_succ_self
theorem Q6:type_of%@Nat.lt_irrefl:=@Nat.lt_irrefl
theorem Q7:type_of%@PySem.wpAny_holding:=@PySem.wpAny_holding
theorem Q8:type_of%@List.map_cons:=@List.map_cons
theorem Q9:type_of%@List.mem_of_getElem?:=@List.mem_of_getElem?
theorem Ra:type_of%@PySem.W.mg_none_of:=@PySem.W.mg_none_of
theorem Rb:type_of%@PySem.wpAny_Call_Name_kw:=@PySem.wpAny_Call_Name_kw
theorem Re:type_of%@PySem.wpAny_field:=@PySem.wpAny_field
theorem Rg:type_of%@PySem.Heap.size_push:=@PySem.Heap.size_push
theorem Rh:type_of%@List.length_set:=@List.length_set
theorem Ri:type_of%@List.length_cons:=@List.length_cons
theorem Rj:type_of%@Nat.lt_of_le_of_lt:=@Nat.lt_of_le_of_lt
theorem Rk:type_of%@Int.natAbs_mul:=@Int.natAbs_mul
theorem Rl:type_of%@List.append_nil:=@List.append_nil
theorem Rm:type_of%@PySem.Str.empty_append:=@PySem.Str.empty_append
theorem Rq:type_of%@PySem.wpAny_mono:=@PySem.wpAny_mono
theorem Rr:type_of%@PyProof.Rows.callWith_type1:=@PyProof.Rows.callWith_type1
theorem Ru:type_of%@PySem.Heap.get?_update_self:=@PySem.Heap.get?_update_self
theorem Rv:type_of%@PySem.W.kia_one:=@PySem.W.kia_one
theorem Rw:type_of%@Nat.not_lt_zero:=@Nat.not_lt_zero
theorem Rx:type_of%@PySem.wpAny_truthy_bool:=@PySem.wpAny_truthy_bool
theorem Ry:type_of%@Int.mul_one:=@Int.mul_one
theorem RA:type_of%@PySem.F.attrBase_ValueError:=@PySem.F.attrBase_ValueError
theorem RB:type_of%@Ne.symm:=@Ne.symm
theorem RC:type_of%@List.getElem?_set_ne:=@List.getElem?_set_ne
theorem RD:type_of%@Int.mul_zero:=@Int.mul_zero
theorem RE:type_of%@Int.mul_comm:=@Int.mul_comm
theorem RF:type_of%@PySem.wpAny_newObj_type:=@PySem.wpAny_newObj_type
theorem RG:type_of%@of_decide_eq_true:=@of_decide_eq_true
theorem RH:type_of%@PySem.Str.length_append:=@PySem.Str.length_append
theorem RI:type_of%@beq_eq_false_iff_ne:=@beq_eq_false_iff_ne
theorem RJ:type_of%@PySem.W.Looks.at:=@PySem.W.Looks.at
theorem RK:type_of%@PySem.wpAny_ite_false:=@PySem.wpAny_ite_false
theorem RL:type_of%@Nat.ne_of_gt:=@Nat.ne_of_gt
theorem RM:type_of%@PySem.wpAny_pyIter_tuple:=@PySem.wpAny_pyIter_tuple
theorem RN:type_of%@List.all_eq_true:=@List.all_eq_true
theorem RO:type_of%@Nat.pow_le_pow_right:=@Nat.pow_le_pow_right
theorem RP:type_of%@PySem.wpAny_pyIter_list:=@PySem.wpAny_pyIter_list
theorem RQ:type_of%@PySem.wpAny_loadPart_at:=@PySem.wpAny_loadPart_at
theorem RS:type_of%@Int.natAbs_sub_le:=@Int.natAbs_sub_le
theorem RT:type_of%@List.filterMap_cons:=@List.filterMap_cons
theorem RU:type_of%@List.getElem?_set_self:=@List.getElem?_set_self
theorem RV:type_of%@PySem.sizeLine_eq:=@PySem.sizeLine_eq
theorem RW:type_of%@Nat.lt_or_ge:=@Nat.lt_or_ge
theorem RX:type_of%@Array.getElem?_eq_none:=@Array.getElem?_eq_none
theorem RY:type_of%@List.mem_range:=@List.mem_range
theorem RZ:type_of%@decide_eq_true:=@decide_eq_true
theorem R0:type_of%@Nat.eq_zero_or_pos:=@Nat.eq_zero_or_pos
theorem R3:type_of%@PySem.wpAny_seqItems:=@PySem.wpAny_seqItems
theorem R4:type_of%@Int.mul_pos:=@Int.mul_pos
theorem R5:type_of%@PySem.PassesOwn.never:=@PySem.PassesOwn.never
theorem R6:type_of%@Int.natAbs_add_le:=@Int.natAbs_add_le
theorem R7:type_of%@PySem.wpAny_standAt:=@PySem.wpAny_standAt
theorem R8:type_of%@PySem.wpAny_callSpecial?_slot:=@PySem.wpAny_callSpecial?_slot
theorem R9:type_of%@List.length_eq_zero_iff:=@List.length_eq_zero_iff
theorem Sa:type_of%@List.getElem_mem:=@List.getElem_mem
theorem Sb:type_of%@List.any_eq_true:=@List.any_eq_true
theorem Sc:type_of%@Nat.le_add_right:=@Nat.le_add_right
theorem Sd:type_of%@PySem.wpAny_call:=@PySem.wpAny_call
theorem Se:type_of%@PySem.W.callWith_K:=@PySem.W.callWith_K
theorem Sf:type_of%@List.length_append:=@List.length_append
theorem Sg:type_of%@PySem.Obj.data_mapFields:=@PySem.Obj.data_mapFields
theorem Sh:type_of%@PySem.wpAny_passesOwn:=@PySem.wpAny_passesOwn
theorem Si:type_of%@PySem.Heap.get?_none_of_le:=@PySem.Heap.get?_none_of_le
theorem Sj:type_of%@Int.one_mul:=@Int.one_mul
theorem Sk:type_of%@Nat.mul_le_mul:=@Nat.mul_le_mul
theorem Sl:type_of%@Int.natAbs_neg:=@Int.natAbs_neg
theorem Sm:type_of%@PySem.codeAny_mono:=@PySem.codeAny_mono
theorem Sn:type_of%@List.length_take:=@List.length_take
theorem So:type_of%@PySem.wpAny_call_entry:=@PySem.wpAny_call_entry
theorem Sq:type_of%@beq_iff_eq:=@beq_iff_eq
theorem Sr:type_of%@PySem.wpAny_loadPart':=@PySem.wpAny_loadPart'
theorem Ss:type_of%@List.contains_cons:=@List.contains_cons
theorem Su:type_of%@List.forIn_cons:=@List.forIn_cons
theorem Sv:type_of%@List.getElem_idxOf:=@List.getElem_idxOf
theorem Sw:type_of%@Bool.eq_iff_iff:=@Bool.eq_iff_iff
theorem Sx:type_of%@PySem.wpAny_setField_rec:=@PySem.wpAny_setField_rec
theorem Sy:type_of%@Int.mul_eq_zero:=@Int.mul_eq_zero
theorem Sz:type_of%@Int.lt_or_gt_of_ne:=@Int.lt_or_gt_of_ne
theorem SA:type_of%@List.mem_singleton:=@List.mem_singleton
theorem SB:type_of%@List.pairwise_cons:=@List.pairwise_cons
theorem SC:type_of%@congrArg:=@congrArg
theorem SE:type_of%@Nat.pow_add:=@Nat.pow_add
theorem SG:type_of%@List.map_nil:=@List.map_nil
theorem SH:type_of%@PySem.wpAny_setField:=@PySem.wpAny_setField
theorem SI:type_of%@List.mem_map:=@List.mem_map
theorem SJ:type_of%@if_true:=@if_true
theorem SK:type_of%@List.mem_filter:=@List.mem_filter
theorem SN:type_of%@List.nodup_cons:=@List.nodup_cons
theorem SO:type_of%@Int.neg_mul_neg:=@Int.neg_mul_neg
theorem SQ:type_of%@Nat.le_of_lt:=@Nat.le_of_lt
theorem SS:type_of%@List.map_set:=@List.map_set
namespace L2
open PySem PySem.Spec PyProof.Rows
variable{us:List Value}{C a b dx it:Addr}{P:Program}{w:World}{base h:Heap}{o:Obj}{g':Array GenState}{ch fp:List Addr}{qual x:Str}{N ps:List Str}{i j k n:Nat}{M:Model}{A:Around}{E Q:Value->Shared->Prop}{u:Value}{s s':Shared}{c e l tg:Expr}{α:Type}{pins:List (Addr×Obj)}{p pos pos':Pos}{K:W.Frag}{es:List Expr}{op:Operator}{body:List Stmt}{f:Value->Value->Sem Value}{g:Int->Int->Int}{op':CmpOp}{mA mg:Str->Option Value}{pl:Sem Bool}{kw:List (Str×Value)}{fd:FuncData}{outer:List Env}{scope:Scope}
abbrev dG:=Sum Int Str
def Bs:dG->Value->Bool
 | .inl k,v=>Value.isInt k v
 | .inr x,v=>Value.isStrOf x v
def NJ(w:World):dG->Int
 | .inl k=>hashInt k
 | .inr x=>hashStr w x
theorem cJ:∀{k:dG} {v:Value},Bs k v=true->(∃i t,k=Sum.inl i/\v=Value.int i t)\/(∃x t,k=Sum.inr x/\v=Value.str x t)
 | .inl i,v,h=>by
  obtain⟨t,e⟩:=Value.isInt_shape (k:=i) (v:=v) h
  exact .inl ⟨i,t,rfl,e⟩
 | .inr x,v,h=>by
  obtain⟨t,e⟩:=Value.isStrOf_shape (x:=x) (v:=v) h
  exact .inr ⟨x,t,rfl,e⟩
theorem GI(a b:Int):decide ((Sum.inl a:dG)=Sum.inl b)=(a==b):=by
 by_cases e:a=b
 ·subst e;simp
 ·have h:¬ (Sum.inl a:dG)=Sum.inl b:=fun q=>e (Sum.inl.inj q)
  rw[QY h]
  exact(RI.mpr e).symm
theorem GC(a b:Str):decide ((Sum.inr a:dG)=Sum.inr b)=decide (a=b):=by
 by_cases e:a=b
 ·subst e;simp
 ·have h:¬ (Sum.inr a:dG)=Sum.inr b:=fun q=>e (Sum.inr.inj q)
  rw[QY h,QY e]
theorem GH(a:Int)(b:Str):decide ((Sum.inl a:dG)=Sum.inr b)=false:=QY (fun q=>nomatch q)
theorem GE(a:Str)(b:Int):decide ((Sum.inr a:dG)=Sum.inl b)=false:=QY (fun q=>nomatch q)
def uB(prog:Program)(w:World):PySem.KeyKind prog w dG where
 is:=Bs
 hash:=NJ w
 inj:=fun v a b ha hb=>by
  rcases cJ ha with⟨i,t,rfl,rfl⟩|⟨x,t,rfl,rfl⟩
  ·rcases cJ hb with⟨j,u,rfl,e⟩|⟨y,u,rfl,e⟩
   ·injection e with e1 _;rw[e1]
   ·exact nomatch e
  ·rcases cJ hb with⟨j,u,rfl,e⟩|⟨y,u,rfl,e⟩
   ·exact nomatch e
   ·injection e with e1 _;rw[e1]
 byValue:=fun k v h=>by
  rcases cJ h with⟨i,t,rfl,rfl⟩|⟨x,t,rfl,rfl⟩<;>rfl
 pyHash:=fun hv h=>by
  rcases cJ hv with⟨i,t,rfl,rfl⟩|⟨x,t,rfl,rfl⟩
  ·exact wpAny_pyHash_int h
  ·exact wpAny_pyHash_str h
 eqBool:=fun hu hv h=>by
  rcases cJ hu with⟨i,t,rfl,rfl⟩|⟨x,t,rfl,rfl⟩
  ·rcases cJ hv with⟨j,u,rfl,rfl⟩|⟨y,u,rfl,rfl⟩
   ·rw[GI]at h;exact wpAny_eqBool_int h
   ·rw[GH]at h;exact SeqAt.EqAt.int_str i t y u _ _ _ _ h
  ·rcases cJ hv with⟨j,u,rfl,rfl⟩|⟨y,u,rfl,rfl⟩
   ·rw[GE]at h;exact SeqAt.EqAt.str_int x t j u _ _ _ _ h
   ·rw[GC]at h;exact wpAny_eqBool_str h
 «strs» := fun k x t v h=>by
  rcases cJ h with⟨i,u,rfl,e⟩|⟨y,u,rfl,e⟩
  ·exact nomatch e
  ·injection e with e1 _
   subst e1
   cases v<;>rfl
inductive V where
 | non|bl (b:Bool)|int (i:Int)|str (x:Str)|byt (b:Array UInt8)|flt (b:UInt64)|ref (a:Addr)|ty (n:String)
 deriving DecidableEq
def aY:V->Value->Prop
 | .non,u=>u=Value.none
 | .bl b,u=>u=Value.bool b
 | .int i,u => ∃t,u=Value.int i t
 | .str x,u => ∃t,u=Value.str x t
 | .byt b,u => ∃t,u=Value.bytes b t
 | .flt b,u => ∃t,u=Value.float b t
 | .ref a,u=>u=Value.ref a
 | .ty n,u=>u=Value.type n
abbrev aL:List V->List Value->Prop:=Paired aY
theorem aL.length{xs:List V}(r:aL xs us):xs.length=us.length:=Paired.length r
theorem aL.get:∀{xs:List V} {us:List Value} {i:Nat} {x:V},aL xs us->xs[i]?=some x->∃u,us[i]?=some u/\aY x u
 | _,_,_,_,.nil,e=>by simp at e
 | _,_,0,_,.cons r _,e=>by simp at e;subst e;exact⟨_,rfl,r⟩
 | _,_,i+1,x,.cons _ t,e=>by
  obtain⟨u,h1,h2⟩:=aL.get (i:=i) (x:=x) t (by simpa using e)
  exact⟨u,by simpa using h1,h2⟩
theorem aL.set{x:V}{u:Value}(r:aY x u):∀{xs:List V} {us:List Value} (i:Nat),aL xs us->aL (xs.set i x) (us.set i u)
 | _,_,_,.nil=>.nil
 | _,_,0,.cons _ t=>.cons r t
 | _,_,i+1,.cons q t=>.cons q (aL.set r i t)
theorem aL.append:∀{xs ys:List V} {us ws:List Value},aL xs us->aL ys ws->aL (xs++ys) (us++ws)
 | _,_,_,_,.nil,s=>s
 | _,_,_,_,.cons r t,s=>.cons r (aL.append t s)
theorem aL.take:∀{xs:List V} {us:List Value} (n:Nat),aL xs us->aL (xs.take n) (us.take n)
 | _,_,0,_=>.nil
 | _,_,_+1,.nil=>.nil
 | _,_,n+1,.cons r t=>.cons r (aL.take n t)
theorem aL.drop:∀{xs:List V} {us:List Value} (n:Nat),aL xs us->aL (xs.drop n) (us.drop n)
 | _,_,0,r=>r
 | _,_,_+1,.nil=>.nil
 | _,_,n+1,.cons _ t=>aL.drop n t
theorem aL.none_of:∀{xs:List V} {us:List Value} {i:Nat},aL xs us->xs[i]?=none->us[i]?=none:=fun {xs us i} r e=>by
 have h1:=r.length
 have h2:xs.length<=i:=List.getElem?_eq_none_iff.mp e
 exact List.getElem?_eq_none_iff.mpr (by omega)
def fR:Option V->Option Value->Prop
 | some v,some u=>aY v u
 | none,none=>True
 | _,_=>False
def KV{κ:Type}:List (κ×V)->List (κ×Value)->Prop:=Paired fun(p:κ×V) (q:κ×Value)=>p.1=q.1/\aY p.2 q.2
def kV:dG->V
 | .inl i=>.int i
 | .inr x=>.str x
inductive HO where
  | lst (xs:List V)
  | tup (xs:List V)
  | dK (kvs:List (dG×V))|dT (kvs:List (List dG×V))
  | set (S:Int->Bool) (n:Nat)
  | ins (C dx:Addr) (fs:List (Str×V))
  | own (x:Addr)
  | xd (fs:List (Str×V))
  | met (f x:Addr)
  | rng (lo hi:Int)
  | frz (o:Obj) (u:HO)
  | tbl (ps:Array Value)
  | ext (φ:Heap->Prop)
abbrev Hp:=Addr->Option HO
def aG(H:Hp)(a:Addr)(o:HO):Hp:=fun b=>if b=a then some o else H b
theorem aD{H:Hp}{o:HO}:aG H a o a=some o:=by unfold aG;rw[if_pos rfl]
theorem ax{H:Hp}{o:HO}(h:b≠a):aG H a o b=H b:=by unfold aG;rw[if_neg h]
theorem i9{H:Hp}{o u:HO}:aG (aG H a o) a u=aG H a u:=by
 funext b;unfold aG;split<;>rfl
theorem gi{H:Hp}{o u:HO}(h:H a=some o)(h':H b=some u)(d:o≠u):a≠b:=by
 intro e;subst e;rw[h]at h';exact d (QK h')
theorem aU{H:Hp}{o:HO}(h:H a=some o)(h':H b=none):a≠b:=by
 intro e;subst e;rw[h]at h';cases h'
section
variable(P:Program)(w:World)
def bG(H:Hp)(h:Heap)(a:Addr):HO->Prop
  | .lst xs=>xs.length<=sizeLine/\∃(its:List Value) (n:Nat),aL xs its/\h.get? a=some { cls:=.type "list", data:=.seq its.toArray n }
  | .tup xs=>xs.length<=sizeLine/\∃its:List Value,aL xs its/\IsTup h a its.toArray
  | .dK kvs=>kvs.length<=sizeLine/\(a==sysModules)=false/\∃vs,KV kvs vs/\h.DictOf (uB P w) a vs
  | .dT kvs=>kvs.length<=sizeLine/\(a==sysModules)=false/\∃xs:List (List dG×Addr×Value),
      Paired (fun(p:List dG×V) (q:List dG×Addr×Value)=>p.1=q.1/\H q.2.1=some (.tup (p.1.map kV))/\aY p.2 q.2.2) kvs xs /\
      ∃o es ep,h.get? a=some o/\o.ExactDict/\o.data=.dict es ep/\es.toList=xs.map (entryOfKey (tupleKind (uB P w)))/\(xs.map (·.1)).Nodup
  | .set S n=>h.SetOf (intKind P w) a S n
  | .ins C dx fs=>H dx=some (.own a)/\fs.length<=1000/\dx≠a/\h.get? a=some (W.instObj C dx) /\
      ∃mA,h.Ns1 dx mA/\(∀f,fR (fs.lookup f) (mA f))/\PySem.Within mA (fs.map (·.1))
  | .own _ => ∃o,h.get? a=some o
  | .xd fs => ∃mA,h.Ns1 a mA/\∀f,fR (fs.lookup f) (mA f)
  | .rng lo hi => ∃t u v,h.get? a=some { cls:=.type "range", data:=.fields #[.int lo t,.int hi u,.int 1 v] }
  | .frz o u=>h.get? a=some o/\bG H h a u
  | .tbl ps=>h.get? a=some { cls:=.none,data:=.fields ps }
  | .met f x=>h.get? a=some (W.methodObj (.ref f) (.ref x))
  | .ext φ=>φ h/\(∃o,h.get? a=some o)/\∀h1 h2:Heap,φ h1->(∀o,h1.get? a=some o->h2.get? a=some o)->φ h2
def cD(H:Hp)(h:Heap):Prop:=∀a o,H a=some o->bG P w H h a o
end
section
variable{H H':Hp}{h':Heap}{o:HO}
theorem bG.lt(x:bG P w H h a o):a<h.objs.size:=by
 cases o with
 | lst xs=>obtain⟨_,_,_,_,e⟩:=x;exact QC e
 | tup xs=>obtain⟨_,_,_,p⟩:=x;exact p.lt
 | dK kvs=>obtain⟨_,_,_,_,o,_,_,e,_⟩:=x;exact QC e
 | dT kvs=>obtain⟨_,_,_,_,o,_,_,e,_⟩:=x;exact QC e
 | set S n=>obtain⟨o,_,_,_,e,_⟩:=x;exact QC e
 | ins C dx fs=>obtain⟨_,_,_,e,_⟩:=x;exact QC e
 | own y=>obtain⟨_,e⟩:=x;exact QC e
 | xd fs=>obtain⟨_,⟨_,_,_,e,_⟩,_⟩:=x;exact QC e
 | rng lo hi=>obtain⟨_,_,_,e⟩:=x;exact QC e
 | frz ob u=>obtain⟨e,_⟩:=x;exact QC e
 | tbl ps=>exact QC (show h.get? a=some _ from x)
 | met f y=>exact QC (show h.get? a=some _ from x)
 | ext φ=>obtain⟨_,⟨_,e⟩,_⟩:=x;exact QC e
theorem Paired.mapP{α β:Type}{F G:α->β->Prop}:∀{l₁:List α} {l₂:List β},Paired F l₁ l₂->(∀a b,F a b->G a b)->Paired G l₁ l₂
 | _,_,.nil,_=>.nil
 | _,_,.cons r t,f=>.cons (f _ _ r) (Paired.mapP t f)
theorem bG.stay(x:bG P w H h a o)(k:∀b u,(b=a\/H b=some (.own a))->h.get? b=some u->h'.get? b=some u)
  (ho:∀b,H b=some (.own a)->H' b=some (.own a)) (ht:∀b xs,H b=some (.tup xs)->H' b=some (.tup xs)):bG P w H' h' a o:=by
 induction o with
 | lst xs=>obtain⟨z,its,n,r,e⟩:=x;exact⟨z,its,n,r,k _ _ (.inl rfl) e⟩
 | tup xs=>obtain⟨z,its,r,ob,e,c⟩:=x;exact⟨z,its,r,ob,k _ _ (.inl rfl) e,c⟩
 | dK kvs=>obtain⟨z,y,vs,r,ob,es,ep,e,c⟩:=x;exact⟨z,y,vs,r,ob,es,ep,k _ _ (.inl rfl) e,c⟩
 | dT kvs =>
  obtain⟨z,y,xs,r,ob,es,ep,e,c⟩:=x
  exact⟨z,y,xs,Paired.mapP r fun p q z=>⟨z.1,ht _ _ z.2.1,z.2.2⟩,ob,es,ep,k _ _ (.inl rfl) e,c⟩
 | set S n=>obtain⟨ob,es,ep,t,e,c⟩:=x;exact⟨ob,es,ep,t,k _ _ (.inl rfl) e,c⟩
 | ins C dx fs =>
  obtain⟨d,z,ne,e,mA,⟨od,es,ep,e2,c⟩,r⟩:=x
  exact⟨ho _ d,z,ne,k _ _ (.inl rfl) e,mA,⟨od,es,ep,k _ _ (.inr d) e2,c⟩,r⟩
 | own y=>obtain⟨ob,e⟩:=x;exact⟨ob,k _ _ (.inl rfl) e⟩
 | xd fs=>obtain⟨mA,⟨od,es,ep,e,c⟩,r⟩:=x;exact⟨mA,⟨od,es,ep,k _ _ (.inl rfl) e,c⟩,r⟩
 | rng lo hi=>obtain⟨t,u,v,e⟩:=x;exact⟨t,u,v,k _ _ (.inl rfl) e⟩
 | frz ob u ih=>obtain⟨e,q⟩:=x;exact⟨k _ _ (.inl rfl) e,ih q⟩
 | tbl ps =>
  have e:h.get? a=some { cls:=.none,data:=.fields ps }:=x
  show h'.get? a=some { cls:=.none,data:=.fields ps }
  exact k a _ (.inl rfl) e
 | met f y =>
  have e:h.get? a=some (W.methodObj (.ref f) (.ref y)):=x
  show h'.get? a=some (W.methodObj (.ref f) (.ref y))
  exact k a _ (.inl rfl) e
 | ext φ=>obtain⟨p,⟨o,e⟩,st⟩:=x;exact⟨st _ _ p fun o q=>k _ _ (.inl rfl) q,⟨o,k _ _ (.inl rfl) e⟩,st⟩
theorem cD.lt(x:cD P w H h)(e:H a=some o):a<h.objs.size:=(x a o e).lt
theorem cD.fresh(x:cD P w H h)(e:h.objs.size<=a):H a=none:=by
 cases q:H a with
 | none=>rfl
 | some u=>exact absurd (QG (x.lt q) e) (Q6 _)
theorem cD.kept(x:cD P w H h)(k:∀b u,h.get? b=some u->h'.get? b=some u):cD P w H h':=fun a o e =>
 (x a o e).stay (fun b u _ q=>k b u q) (fun _ q=>q) fun _ _ q=>q
theorem cD.laid(x:cD P w H h)(k:∀b u,h.get? b=some u->h'.get? b=some u)(hp:h.objs.size<=a)(new:bG P w (aG H a o) h' a o):cD P w (aG H a o) h':=fun b u e=>by
 have hn:=x.fresh hp
 by_cases hb:b=a
 ·subst hb;rw[aD]at e;cases e;exact new
 ·rw[ax hb]at e
  exact(x b u e).stay (fun c v _ q=>k c v q) (fun c q=>by rw[ax (aU q hn)];exact q) fun c xs q=>by rw[ax (aU q hn)];exact q
end
def Rd(H:Hp)(a:Addr)(u:HO):Prop:=H a=some u\/∃o,H a=some (.frz o u)
theorem Rd.ok{H:Hp}{u:HO}(r:Rd H a u)(x:cD P w H h):bG P w H h a u:=by
 rcases r with r|⟨o,r⟩
 ·exact x a u r
 ·obtain⟨_,q⟩:=x a _ r
  exact q
def BO:Option HO->Prop
 | some (.lst _)=>True
 | some (.dK _)=>True
 | some (.dT _)=>True
 | some (.set _ _)=>True
 | some (.ins _ _ _)=>True
 | some (.ext _)=>True
 | _=>False
section
variable{H:Hp}{h':Heap}{x e:Addr}{o':HO}
theorem cD.write(ok:cD P w H h)(mu:BO (H x))(he:e=x\/H e=some (.own x))(k:∀b u,b≠e->h.get? b=some u->h'.get? b=some u)(heo:∃u,h'.get? e=some u)
  (new:bG P w (aG H x o') h' x o'):cD P w (aG H x o') h':=fun b u q=>by
 have nown:∀c y,H c=some (.own y)->c≠x:=fun c y r z=>by subst z;rw[r]at mu;exact mu
 have ntup:∀c xs,H c=some (.tup xs)->c≠x:=fun c xs r z=>by subst z;rw[r]at mu;exact mu
 by_cases hb:b=x
 ·subst hb;rw[aD]at q;cases q;exact new
 ·rw[ax hb]at q
  by_cases hbe:b=e
  ·have q':H b=some (.own x):=by
    rcases he with z|z
    ·exact absurd (hbe.trans z) hb
    ·rw[hbe];exact z
   rw[q]at q';cases q'
   obtain⟨v,hv⟩:=heo
   exact⟨v,by rw[hbe];exact hv⟩
  ·refine(ok b u q).stay (fun c v hc r=>k c v ?_ r) (fun c r=>by rw[ax (nown c b r)];exact r) fun c xs r=>by rw[ax (ntup c xs r)];exact r
   rcases hc with rfl|hc
   ·exact hbe
   ·rintro rfl
    rcases he with z|z
    ·exact nown c b hc z
    ·rw[hc]at z;cases z;exact hb rfl
end
structure Un(fs ex:List Addr)(H H':Hp)(h h':Heap):Prop where
 keep:∀b o,h.get? b=some o->H b=none->b∉fs->b∉ex->h'.get? b=some o
 slot:∀b o,h.get? b=some o->H b=none->b∈fs->b∉ex->∃sl,h'.get? b=some { o with slots:=sl }
 free:∀b o,h.get? b=some o->H b=none->b∉ex->H' b=none
 there:∀b o,h.get? b=some o->b∉ex->∃o',h'.get? b=some o'
 tups:∀b xs,H b=some (.tup xs)->H' b=some (.tup xs)
 frzs:∀b o u,H b=some (.frz o u)->H' b=some (.frz o u)
 tbls:∀b ps,H b=some (.tbl ps)->∃more,H' b=some (.tbl (ps++more))
section
variable{fs fs' ex ex':List Addr}{H H1 H2:Hp}{h1 h2 h':Heap}{x e:Addr}{o:HO}
theorem Un.any(u:Un fs ex H H1 h h1){ob:Obj}(q:h.get? b=some ob)(n:H b=none)(hx:b∉ex):∃sl,h1.get? b=some { ob with slots:=sl }:=by
 by_cases hb:b∈fs
 ·exact u.slot b ob q n hb hx
 ·exact⟨ob.slots,u.keep b ob q n hb hx⟩
theorem Un.kept(k:∀b u,h.get? b=some u->h'.get? b=some u):Un fs ex H H h h' :=
 ⟨fun b ob q _ _ _=>k b ob q,fun b ob q _ _ _=>⟨ob.slots,k b ob q⟩,fun _ _ _ n _=>n,fun b ob q _=>⟨ob,k b ob q⟩,fun _ _ q=>q,fun _ _ _ q=>q,fun _ ps q=>⟨#[],by rw[q];simp⟩⟩
theorem Un.refl:Un fs ex H H h h:=Un.kept fun _ _ q=>q
theorem Un.laid(k:∀b u,h.get? b=some u->h'.get? b=some u)(hp:h.objs.size<=a)(hn:H a=none):Un fs ex H (aG H a o) h h' where
 keep:=fun b u q _ _ _=>k b u q
 slot:=fun b u q _ _ _=>⟨u.slots,k b u q⟩
 free:=fun b u q n _=>by rw[ax (QT (QG (QC q) hp))];exact n
 there:=fun b u q _=>⟨u,k b u q⟩
 tups:=fun b xs q=>by rw[ax (aU q hn)];exact q
 frzs:=fun b u xs q=>by rw[ax (aU q hn)];exact q
 tbls:=fun b ps q=>⟨#[],by rw[ax (aU q hn),q];simp⟩
theorem Un.write(mu:BO (H x))(he:e=x\/H e=some (.own x))(k:∀b u,b≠e->h.get? b=some u->h'.get? b=some u)(heo:∃u,h'.get? e=some u):Un fs ex H (aG H x o) h h':=by
 have hx:∀b,H b=none->b≠x:=fun b n z=>by subst z;rw[n]at mu;exact mu
 have hb:∀b,H b=none->b≠e:=fun b n z=>by
  subst z
  rcases he with r|r
  ·exact hx b n r
  ·rw[n]at r;cases r
 have hm:∀b u,H b=some u -> ¬ BO (some u)->b≠x:=fun b u q nm z=>by subst z;rw[q]at mu;exact nm mu
 refine⟨fun b u q n _ _=>k b u (hb b n) q,fun b u q n _ _=>⟨u.slots,k b u (hb b n) q⟩,fun b u q n _=>by rw[ax (hx b n)];exact n,fun b u q _=>?_,
  fun b xs q=>by rw[ax (hm b _ q fun z=>z)];exact q,fun b u xs q=>by rw[ax (hm b _ q fun z=>z)];exact q,fun b ps q=>⟨#[],by rw[ax (hm b _ q fun z=>z),q];simp⟩⟩
 by_cases hbe:b=e
 ·subst hbe;exact heo
 ·exact⟨u,k b u hbe q⟩
end
def A3(h:Heap)(H:Hp):List Addr:=(List.range h.objs.size).filter fun a=>(H a).isSome
def jv(h:Heap)(H:Hp):Heap:=W.hideAll h (A3 h H)
theorem xY(h:Heap)(H:Hp):(jv h H).objs.size=h.objs.size:=W.hideAll_size _ _
theorem zX{H:Hp}(e:h.get? b=some o)(n:H b=none):(jv h H).get? b=some o :=
 W.hideAll_get _ e fun hm=>by
  have q:(H b).isSome=true:=(SK.mp hm).2
  rw[n]at q;simp at q
theorem Dj{H:Hp}(e:(jv h H).get? b=some o):h.get? b=some o/\H b=none:=by
 have e':h.get? b=some o:=W.of_hideAll (A3 h H) e
 refine⟨e',?_⟩
 cases q:H b with
 | none=>rfl
 | some x =>
  have hm:b∈A3 h H:=SK.mpr ⟨RY.mpr (QC e'),by simp[q]⟩
  have z:(jv h H).get? b=none:=W.hideAll_none (A3 h H) hm
  rw[z]at e;cases e
def Ew(g h:Heap)(L:Addr):List (Addr×Obj):=(List.range h.objs.size).filterMap fun a=>if a=L\/(g.get? a).isSome=true then none else(h.get? a).map fun o=>(a,o)
def rest(g h:Heap)(L d:Addr):List (Addr×Obj):=(Ew g h L).filter fun p=>decide (p.1≠d)
variable{v y:V}{H:Hp}{R:V->V->Hp->Prop}{vs:List V}
structure Mod(K:W.Frag)(mg:Str->Option Value)(base:Heap):Prop where
 kin:K.In base
 glob:base.Ns mainGlobals mg
 blt:∃mb,base.Ns builtinsNs mb/\∀x:Str,x ≠ "__name__" -> mb x=bootBuiltins x
 nolimit:base.NoLimit
structure Cx where
 prog:Program
 w:World
 K:W.Frag
 mg:Str->Option Value
 base:Heap
 A:Around
 N:List Str
 s₀:Shared
 H₀:Hp
 env:Env
 outer:List Env
 stack:List Env
 ex:List Addr
 fn:Str->Bool
 calm:Bool
 pn:List (Addr×Obj)
 xe:Value->Shared->Prop
def cw(l:List Env):List Addr:=l.filterMap (·.frame)
abbrev Cx.fs(X:Cx):List Addr:=cw X.outer
def fb(sc:Scope)(x:Str):Prop:=sc.names.lookup x=some .local\/sc.names.lookup x=some .cell\/sc.names.lookup x=some .free
def tJ(sc:Scope)(x:Str):Prop:=sc.names.lookup x=some .local\/sc.names.lookup x=some .cell
def Qa(env:Env)(h:Heap)(m:Str->Option Value)(x:Str)(u:Value):Prop :=
 (env.kindOf x=some .local/\m x=some u)\/((env.kindOf x=some .cell\/env.kindOf x=some .free)/\∃c,env.cells.lookup x=some c/\h.IsCell c (some u))
structure Cx.Ok(X:Cx):Prop where
 mod:Mod X.K X.mg X.base
 kind:X.env.scope.kind=.function
 glob:X.env.globals=mainGlobals
 blt:X.env.builtins=builtinsNs
 above:X.s₀.heap.objs.size<=X.env.locals
 inj:∀x y c,X.env.cells.lookup x=some c->X.env.cells.lookup y=some c->x=y
 has:∀x,(X.env.kindOf x=some .cell\/X.env.kindOf x=some .free)->∃c,X.env.cells.lookup x=some c
 cab:∀x c,X.fn x=true->X.env.cells.lookup x=some c->X.s₀.heap.objs.size<=c
 hd:X.calm=true->X.A.handled=none
 frames:X.A.frames=some X.stack
 stk:X.stack=X.outer\/(X.stack=X.env::X.outer/\X.env.frame=some X.env.locals)
 exf:∀b∈X.ex,b≠X.env.locals/\∀x c,X.env.cells.lookup x=some c->c≠b
 bs:∀b o,X.base.get? b=some o->X.s₀.heap.get? b=some o/\X.H₀ b=none
 bsz:X.base.objs.size<=X.s₀.heap.objs.size
 noex:∀b o,X.base.get? b=some o->b∉X.ex
 exfs:∀b∈X.ex,b∉X.fs
 funs:X.s₀.heap.FunFrames X.base X.outer
 frf:∀b∈X.fs,X.H₀ b=none
structure al(X:Cx)(pins:List (Addr×Obj))(σ:List (Option V))(H:Hp)(s:Shared):Prop where
 ok:X.Ok
 os:s.os=X.s₀.os
 bare:AllBare s.gens
 base:Un X.fs X.ex X.H₀ H X.s₀.heap s.heap
 loc:∃m,s.heap.Ns X.env.locals m/\∀(i:Nat) (x:Str) (v:V),X.N[i]?=some x->σ[i]?=some (some v)->fb X.env.scope x->∃u,aY v u/\Qa X.env s.heap m x u
 cell:∀x c,X.env.cells.lookup x=some c->∃v,s.heap.IsCell c v
 free:H X.env.locals=none
 freeC:∀x c,X.env.cells.lookup x=some c->H c=none
 pin:∀p∈X.pn++pins,s.heap.get? p.1=some p.2/\H p.1=none/\p.1≠X.env.locals/\p.1∉X.fs/\∀v,p.2.data ≠ .cell v
 hok:cD X.prog X.w H s.heap
 len:σ.length=X.N.length
section
variable{X:Cx}{σ:List (Option V)}{H':Hp}{h':Heap}
theorem Cx.Ok.nofr(ok:X.Ok)(e:X.base.get? b=some o):b∉X.fs:=fun hb=>by
 have:=(ok.funs.mem hb).1
 rw[e]at this;cases this
theorem al.bs(I:al X pins σ H s):∀b o,X.base.get? b=some o->s.heap.get? b=some o/\H b=none:=fun b o e =>
 ⟨I.base.keep b o (I.ok.bs b o e).1 (I.ok.bs b o e).2 (I.ok.nofr e) (I.ok.noex b o e),I.base.free b o (I.ok.bs b o e).1 (I.ok.bs b o e).2 (I.ok.noex b o e)⟩
theorem al.bk(I:al X pins σ H s):∀b o,X.base.get? b=some o->s.heap.get? b=some o:=fun b o e=>(I.bs b o e).1
theorem al.mod(I:al X pins σ H s):Mod X.K X.mg X.base:=I.ok.mod
theorem al.kIn(I:al X pins σ H s):X.K.In s.heap:=I.ok.mod.kin.keeps I.bk
theorem al.nolimit(I:al X pins σ H s):s.heap.NoLimit:=I.ok.mod.nolimit.keeps I.bk
theorem al.lt(I:al X pins σ H s):X.env.locals<s.heap.objs.size:=let ⟨_,hn,_⟩:=I.loc;hn.lt
theorem al.sz(I:al X pins σ H s):X.s₀.heap.objs.size<=s.heap.objs.size:=QD I.ok.above (SQ I.lt)
theorem al.nofs(I:al X pins σ H s)(h:s.heap.objs.size<=a):a∉X.fs:=fun hb=>by
 obtain⟨_,o,ho,_⟩:=I.ok.funs.mem hb
 exact absurd (QG (QC ho) (QD I.sz h)) (Q6 _)
theorem al.cne(I:al X pins σ H s):∀x c,X.env.cells.lookup x=some c->c≠X.env.locals:=fun x c e z=>by
 obtain⟨v,o,ho,hd⟩:=I.cell x c e
 obtain⟨m,⟨o',es,ep,ho',hd',_⟩,_⟩:=I.loc
 rw[z,ho']at ho;cases ho;rw[hd']at hd;cases hd
theorem al.funs(I:al X pins σ H s):s.heap.FunFrames X.base X.outer:=by
 have all:∀(l:List Env),(∀b∈cw l,b∈X.fs)->X.s₀.heap.FunFrames X.base l->s.heap.FunFrames X.base l:=by
  intro l
  induction l with
  | nil=>intro _ _;trivial
  | cons env r ih =>
   intro hs hl
   obtain⟨hk,⟨L,o,hf,hn,ho,hd⟩,hr⟩:=hl
   have hL:L∈X.fs:=hs L (by unfold cw;rw[RT,hf];exact QE)
   obtain⟨sl,e⟩:=I.base.slot L o ho (I.ok.frf L hL) hL fun z=>I.ok.exfs L z hL
   exact⟨hk,⟨L,_,hf,hn,e,hd⟩,ih (fun b hb=>hs b (by unfold cw;rw[RT,hf];exact QB _ hb)) hr⟩
 exact all X.outer (fun _ hb=>hb) I.ok.funs
theorem al.stack(I:al X pins σ H s):s.heap.FunFrames X.base X.stack:=by
 rcases I.ok.stk with e|⟨e,hf⟩
 ·rw[e];exact I.funs
 ·rw[e]
  obtain⟨m,hn,_⟩:=I.loc
  refine .cons (by rw[I.ok.kind];decide) hf hn ?_ I.funs
  exact Si (QD I.ok.bsz I.ok.above)
theorem al.stkSub(I:al X pins σ H s):∀b∈cw X.stack,b∈X.env.locals::X.fs:=fun b hb=>by
 rcases I.ok.stk with e|⟨e,hf⟩
 ·rw[e]at hb;exact QB _ hb
 ·rw[e]at hb
  unfold cw at hb
  rw[RT,hf]at hb
  exact hb
theorem al.stkFree(I:al X pins σ H s):∀b∈cw X.stack,H b=none:=fun b hb=>by
 rcases QA.mp (I.stkSub b hb)with e|hb
 ·rw[e];exact I.free
 ·obtain⟨_,o,ho,_⟩:=I.ok.funs.mem hb
  exact I.base.free b o ho (I.ok.frf b hb) fun z=>I.ok.exfs b z hb
theorem al.step{t':Nat}{d':Drawn}(I:al X pins σ H s)
  (hch:∀b∈ch,(b∈X.ex\/X.s₀.heap.objs.size<=b)/\b≠X.env.locals/\(∀x c,X.env.cells.lookup x=some c->c≠b)/\∀p∈X.pn++pins,p.1≠b)
  (keep:∀b o,b≠X.env.locals->b∉X.fs->b∉ch->s.heap.get? b=some o->H b=none->h'.get? b=some o)
  (slot:∀b o,b≠X.env.locals->b∈X.fs->b∉ch->s.heap.get? b=some o->H b=none->∃sl,h'.get? b=some { o with slots:=sl }) (free:∀b o,b∉ch->s.heap.get? b=some o->H b=none->H' b=none)
  (there:∀b o,b∉ch->s.heap.get? b=some o->∃o',h'.get? b=some o')
  (tups:∀b xs,H b=some (.tup xs)->H' b=some (.tup xs)) (frzs:∀b o u,H b=some (.frz o u)->H' b=some (.frz o u)) (tbls:∀b ps,H b=some (.tbl ps)->∃more,H' b=some (.tbl (ps++more)))
  (ns:∀m,s.heap.Ns X.env.locals m->h'.Ns X.env.locals m) (hok:cD X.prog X.w H' h') (hg:AllBare g') :
  al X pins σ H' { s with heap:=h',gens:=g',drawn:=d',toks:=t' }:=by
 have neL:∀b o,X.s₀.heap.get? b=some o->b≠X.env.locals:=fun b o e=>QT (QG (QC e) I.ok.above)
 have neC:∀b o,X.s₀.heap.get? b=some o->b∉X.ex->b∉ch:=fun b o e hx hb=>by
  rcases(hch b hb).1 with z|z
  ·exact hx z
  ·exact absurd (QG (QC e) z) (Q6 _)
 have cellK:∀x c,X.env.cells.lookup x=some c->∀v,s.heap.IsCell c v->h'.IsCell c v:=fun x c e v ⟨o,ho,hd⟩=>by
  have nch:c∉ch:=fun z=>(hch c z).2.2.1 x c e rfl
  by_cases hc:c∈X.fs
  ·obtain⟨sl,q⟩:=slot c o (I.cne x c e) hc nch ho (I.freeC x c e)
   exact⟨_,q,hd⟩
  ·exact⟨o,keep c o (I.cne x c e) hc nch ho (I.freeC x c e),hd⟩
 refine⟨I.ok,I.os,hg,⟨fun b o e n hb hx=>?_,fun b o e n hb hx=>?_,fun b o e n hx=>?_,fun b o e hx=>?_,fun b xs e=>tups b xs (I.base.tups b xs e),fun b o xs e=>frzs b o xs (I.base.frzs b o xs e),fun b ps e=>?_⟩,?_,fun x c e=>?_,?_,fun x c e=>?_,fun p hp=>?_,hok,I.len⟩
 ·exact keep b o (neL b o e) hb (neC b o e hx) (I.base.keep b o e n hb hx) (I.base.free b o e n hx)
 ·obtain⟨sl,e1⟩:=I.base.slot b o e n hb hx
  obtain⟨sl',e2⟩:=slot b _ (neL b o e) hb (neC b o e hx) e1 (I.base.free b o e n hx)
  exact⟨sl',e2⟩
 ·obtain⟨o',e1⟩:=I.base.there b o e hx
  exact free b o' (neC b o e hx) e1 (I.base.free b o e n hx)
 ·obtain⟨o',e1⟩:=I.base.there b o e hx
  exact there b o' (neC b o e hx) e1
 ·obtain⟨m1,e1⟩:=I.base.tbls b ps e
  obtain⟨m2,e2⟩:=tbls b _ e1
  exact⟨m1++m2,by rw[e2,Array.append_assoc]⟩
 ·obtain⟨m,hn,hl⟩:=I.loc
  refine⟨m,ns m hn,fun i x v e1 e2 e3=>?_⟩
  obtain⟨u,r,l⟩:=hl i x v e1 e2 e3
  refine⟨u,r,?_⟩
  rcases l with l|⟨k,c,e,z⟩
  ·exact .inl l
  ·exact .inr ⟨k,c,e,cellK x c e _ z⟩
 ·obtain⟨v,z⟩:=I.cell x c e
  exact⟨v,cellK x c e v z⟩
 ·obtain⟨m,⟨o,_,_,ho,_⟩,_⟩:=I.loc
  exact free _ o (fun z=>(hch _ z).2.1 rfl) ho I.free
 ·obtain⟨v,o,ho,hd⟩:=I.cell x c e
  exact free c o (fun z=>(hch c z).2.2.1 x c e rfl) ho (I.freeC x c e)
 ·obtain⟨e,n,ne,nf,d⟩:=I.pin p hp
  have nch:p.1∉ch:=fun z=>(hch p.1 z).2.2.2 p hp rfl
  exact⟨keep p.1 p.2 ne nf nch e n,free p.1 p.2 nch e n,ne,nf,d⟩
theorem al.un{t':Nat}(I:al X pins σ H s)(u:Un X.fs [] H H' s.heap h')(hok:cD X.prog X.w H' h'):al X pins σ H' { s with heap:=h',toks:=t' }:=by
 obtain⟨m,⟨o,es,ep,ho,r⟩,_⟩:=id I.loc
 obtain⟨sl,hL⟩:=u.any ho I.free (by simp)
 exact I.step (g':=s.gens) (d':=s.drawn) (ch:=[]) (fun _ z=>nomatch z) (fun b o _ hb _ e n=>u.keep b o e n hb (by simp)) (fun b o _ hb _ e n=>u.slot b o e n hb (by simp)) (fun b o _ e n=>u.free b o e n (by simp)) (fun b o _ e=>u.there b o e (by simp)) u.tups u.frzs u.tbls (fun m' hm=>by
  obtain⟨o',es',ep',ho',r'⟩:=hm
  rw[ho]at ho';cases ho'
  exact⟨_,es',ep',hL,r'⟩) hok I.bare
theorem al.call{t':Nat}{d':Drawn}(I:al X pins σ H s)(u:Un (cw X.stack) ch H H' s.heap h')(hok:cD X.prog X.w H' h')(hg:AllBare g')
  (hch:∀b∈ch,(b∈X.ex\/X.s₀.heap.objs.size<=b)/\b≠X.env.locals/\(∀x c,X.env.cells.lookup x=some c->c≠b)/\∀p∈X.pn++pins,p.1≠b) :
  al X pins σ H' { s with heap:=h',gens:=g',drawn:=d',toks:=t' }:=by
 obtain⟨m,⟨o,es,ep,ho,r⟩,_⟩:=id I.loc
 obtain⟨sl,hL⟩:=u.any ho I.free fun z=>(hch _ z).2.1 rfl
 exact I.step (ch:=ch) hch (fun b o hL hb hc e n=>u.keep b o e n (fun z=>(QA.mp (I.stkSub b z)).elim hL hb) hc) (fun b o _ _ hc e n=>u.any e n hc) (fun b o hc e n=>u.free b o e n hc) (fun b o hc e=>u.there b o e hc) u.tups u.frzs u.tbls (fun m' hm=>by
  obtain⟨o',es',ep',ho',r'⟩:=hm
  rw[ho]at ho';cases ho'
  exact⟨_,es',ep',hL,r'⟩) hok hg
theorem al.turned{t':Nat}(I:al X pins σ H s)(k:∀b o,b≠it->s.heap.get? b=some o->h'.get? b=some o)(hn:H it=none)(hL:it≠X.env.locals)
  (h1:it∈X.ex\/X.s₀.heap.objs.size<=it) (h2:∀x c,X.env.cells.lookup x=some c->c≠it) (h3:∀p∈X.pn++pins,p.1≠it):al X pins σ H { s with heap:=h',toks:=t' }:=by
 have nit:∀b u,H b=some u->b≠it:=fun b u e z=>by rw[z,hn]at e;cases e
 refine I.step (g':=s.gens) (d':=s.drawn) (ch:=[it]) (fun b hb=>?_) (fun b o _ _ hc e _=>k b o (fun z=>hc (by simp[z])) e) (fun b o _ _ hc e _=>⟨o.slots,k b o (fun z=>hc (by simp[z])) e⟩) (fun _ _ _ _ n=>n)
  (fun b o hc e=>⟨o,k b o (fun z=>hc (by simp[z])) e⟩) (fun _ _ e=>e) (fun _ _ _ e=>e) (fun b ps e=>⟨#[],by rw[e];simp⟩) (fun m hm=>?_) (fun b u e=>?_) I.bare
 ·have e:b=it:=by simpa using hb
  subst e
  exact⟨h1,hL,h2,h3⟩
 ·obtain⟨o,es,ep,ho,r⟩:=hm
  exact⟨o,es,ep,k _ o (RB hL) ho,r⟩
 ·refine(I.hok b u e).stay (fun c v hc q=>k c v ?_ q) (fun _ q=>q) fun _ _ q=>q
  rcases hc with z|z
  ·rw[z];exact nit b u e
  ·exact nit c _ z
theorem al.tok(I:al X pins σ H s)(t:Nat):al X pins σ H { s with toks:=t }:=I.un (h':=s.heap) (t':=t) Un.refl I.hok
theorem al.kept{t':Nat}(I:al X pins σ H s)(k:∀b u,s.heap.get? b=some u->h'.get? b=some u):al X pins σ H { s with heap:=h',toks:=t' }:=I.un (Un.kept k) (I.hok.kept k)
theorem al.laid{o:HO}{t':Nat}(I:al X pins σ H s)(k:∀b u,s.heap.get? b=some u->h'.get? b=some u)(hp:s.heap.objs.size<=a)(new:bG X.prog X.w (aG H a o) h' a o) :
  al X pins σ (aG H a o) { s with heap:=h',toks:=t' }:=I.un (Un.laid k hp (I.hok.fresh hp)) (I.hok.laid k hp new)
theorem al.write{x e:Addr}{o:HO}{t':Nat}(I:al X pins σ H s)(mu:BO (H x))(he:e=x\/H e=some (.own x))(k:∀b u,b≠e->s.heap.get? b=some u->h'.get? b=some u)(heo:∃u,h'.get? e=some u)
  (new:bG X.prog X.w (aG H x o) h' x o):al X pins σ (aG H x o) { s with heap:=h',toks:=t' }:=I.un (Un.write mu he k heo) (I.hok.write mu he k heo new)
theorem al.pins_of{pins':List (Addr×Obj)}(I:al X pins σ H s)(h:∀p∈pins',s.heap.get? p.1=some p.2/\H p.1=none/\p.1≠X.env.locals/\p.1∉X.fs/\∀v,p.2.data ≠ .cell v):al X pins' σ H s :=
 ⟨I.ok,I.os,I.bare,I.base,I.loc,I.cell,I.free,I.freeC,fun p hp=>(List.mem_append.mp hp).elim (fun z=>I.pin p (List.mem_append_left _ z)) (h p),I.hok,I.len⟩
theorem ig(hN:N.Nodup)(a:N[i]?=some x)(b:N[j]?=some x):i=j:=by
 obtain⟨h1,e1⟩:=QJ.mp a
 obtain⟨h2,e2⟩:=QJ.mp b
 exact(List.getElem_inj hN).mp (e1.trans e2.symm)
theorem wW{Q:Unit->Shared->Prop}(I:al X pins σ H s)(hN:X.N.Nodup)(hi:X.N[i]?=some x)(hx:tJ X.env.scope x)(r:aY v u)
  (h:∀s',al X pins (σ.set i (some v)) H s'->(∃a,Heap.SameBut a s.heap s'.heap/\(a=X.env.locals\/X.env.cells.lookup x=some a))->Q () s') (hf:X.fn x=true\/X.env.scope.names.lookup x=some .local:=by first|exact .inl rfl|exact .inr rfl|assumption):wpAny M A (storeName X.env x u) Q E s:=by
 obtain⟨m,hn,hl⟩:=id I.loc
 have hcls:(X.env.scope.kind == .class || (X.env.scope.kind == .module&&X.env.locals != X.env.globals))=false:=by rw[I.ok.kind];rfl
 have hiσ:i<σ.length:=by rw[I.len];exact(QJ.mp hi).1
 have cne:=I.cne
 have tracked:∀{a:Addr} {h':Heap},(∃o,s.heap.get? a=some o/\H a=none)->Heap.SameBut a s.heap h'->cD X.prog X.w H h':=fun {a h'} ha hs b ob e=>by
  obtain⟨_,_,hfree⟩:=ha
  refine(I.hok b ob e).stay (fun c w' hc q=>(hs.2 c ?_).trans q) (fun _ q=>q) fun _ _ q=>q
  rintro rfl
  rcases hc with rfl|hc
  ·rw[hfree]at e;cases e
  ·rw[hfree]at hc;cases hc
 rcases hx with hk|hk
 ·refine wpAny_storeName_local hk hn (fun h' hn' hs=>?_) hcls
  obtain⟨oL,_,_,hoL,_⟩:=id hn
  refine h _ ⟨I.ok,I.os,I.bare,⟨fun b o e n hb hx=>?_,fun b o e n hb hx=>?_,I.base.free,fun b o e hx=>?_,I.base.tups,I.base.frzs,I.base.tbls⟩,⟨_,hn',fun j y v' e1 e2 e3=>?_⟩,fun y c e=>?_,I.free,I.freeC,fun p hp=>?_,tracked ⟨oL,hoL,I.free⟩ hs,by simpa using I.len⟩ ⟨_,hs,.inl rfl⟩
  ·exact(hs.2 b (QT (QG (QC e) I.ok.above))).trans (I.base.keep b o e n hb hx)
  ·obtain⟨sl,e1⟩:=I.base.slot b o e n hb hx
   exact⟨sl,(hs.2 b (QT (QG (QC e) I.ok.above))).trans e1⟩
  ·obtain⟨o',e1⟩:=I.base.there b o e hx
   exact⟨o',(hs.2 b (QT (QG (QC e) I.ok.above))).trans e1⟩
  ·by_cases hj:j=i
   ·subst hj
    rw[hi]at e1;cases e1
    rw[RU hiσ]at e2
    cases e2
    exact⟨u,r,.inl ⟨hk,by simp⟩⟩
   ·rw[RC (RB hj)]at e2
    obtain⟨u',r',q⟩:=hl j y v' e1 e2 e3
    refine⟨u',r',?_⟩
    rcases q with⟨k,e⟩|⟨k,c,e,z⟩
    ·refine .inl ⟨k,?_⟩
     have:y≠x:=fun e=>hj (ig hN e1 (e ▸ hi))
     simp[this,e]
    ·exact .inr ⟨k,c,e,z.sameBut hs (cne y c e)⟩
  ·obtain⟨w',z⟩:=I.cell y c e
   exact⟨w',z.sameBut hs (cne y c e)⟩
  ·obtain⟨e,n,ne,nf,d⟩:=I.pin p hp
   exact⟨(hs.2 p.1 ne).trans e,n,ne,nf,d⟩
 ·have hfn:X.fn x=true:=by
   rcases hf with z|z
   ·exact z
   ·rw[z]at hk;cases hk
  obtain⟨c,hc⟩:=I.ok.has x (.inl hk)
  obtain⟨w',z⟩:=I.cell x c hc
  refine wpAny_storeName_cell I.ok.kind hk hc z (fun h' hc' hs=>?_)
  obtain⟨oc,hoc,hocd⟩:=id z
  refine h { s with heap:=h' } ⟨I.ok,I.os,I.bare,⟨fun b o e n hb hx=>?_,fun b o e n hb hx=>?_,I.base.free,fun b o e hx=>?_,I.base.tups,I.base.frzs,I.base.tbls⟩,⟨m,hn.sameBut hs (RB (cne x c hc)),fun j y v' e1 e2 e3=>?_⟩,fun y c' e=>?_,I.free,I.freeC,fun p hp=>?_,tracked ⟨oc,hoc,I.freeC x c hc⟩ hs,by simpa using I.len⟩ ⟨c,hs,.inr hc⟩
  ·exact(hs.2 b (QT (QG (QC e) (I.ok.cab x c hfn hc)))).trans (I.base.keep b o e n hb hx)
  ·obtain⟨sl,e1⟩:=I.base.slot b o e n hb hx
   exact⟨sl,(hs.2 b (QT (QG (QC e) (I.ok.cab x c hfn hc)))).trans e1⟩
  ·obtain⟨o',e1⟩:=I.base.there b o e hx
   exact⟨o',(hs.2 b (QT (QG (QC e) (I.ok.cab x c hfn hc)))).trans e1⟩
  ·by_cases hj:j=i
   ·subst hj
    rw[hi]at e1;cases e1
    rw[RU hiσ]at e2
    cases e2
    exact⟨u,r,.inr ⟨.inl hk,c,hc,hc'⟩⟩
   ·rw[RC (RB hj)]at e2
    obtain⟨u',r',q⟩:=hl j y v' e1 e2 e3
    refine⟨u',r',?_⟩
    rcases q with q|⟨k,c',e,z'⟩
    ·exact .inl q
    ·refine .inr ⟨k,c',e,z'.sameBut hs ?_⟩
     rintro rfl
     exact hj (ig hN e1 (I.ok.inj _ _ _ e hc ▸ hi))
  ·by_cases hcc:c'=c
   ·subst hcc;exact⟨_,hc'⟩
   ·obtain⟨w2,z2⟩:=I.cell y c' e
    exact⟨w2,z2.sameBut hs hcc⟩
  ·obtain⟨e,n,ne,nf,d⟩:=I.pin p hp
   refine⟨(hs.2 p.1 ?_).trans e,n,ne,nf,d⟩
   intro q
   rw[q,hoc]at e
   have q':oc=p.2:=QK e
   exact d w' (by rw[<- q'];exact hocd)
theorem fY{Q:Unit->Shared->Prop}(I:al X pins σ H s)(hN:X.N.Nodup)(hi:X.N[i]?=some x)(hx:tJ X.env.scope x)(r:aY v u)
  (h:∀s',al X pins (σ.set i (some v)) H s'->Q () s') (hf:X.fn x=true\/X.env.scope.names.lookup x=some .local:=by first|exact .inl rfl|exact .inr rfl|assumption):wpAny M A (storeName X.env x u) Q E s :=
 wW I hN hi hx r (fun s' I' _=>h s' I') hf
theorem al.call'(I:al X pins σ H s)(ho:s'.os=s.os)(u:Un (cw X.stack) ch H H' s.heap s'.heap)(hok:cD X.prog X.w H' s'.heap)(hg:AllBare s'.gens)
  (hch:∀b∈ch,(b∈X.ex\/X.s₀.heap.objs.size<=b)/\b≠X.env.locals/\(∀x c,X.env.cells.lookup x=some c->c≠b)/\∀p∈X.pn++pins,p.1≠b):al X pins σ H' s':=by
 obtain⟨h',g',d',t',o'⟩:=s'
 have e:o'=s.os:=ho
 subst e
 exact I.call (g':=g') (t':=t') (d':=d') u hok hg hch
end
abbrev XK:=Value->Option Addr->Hp->Prop
abbrev St:=List (Option V)
abbrev VK:=V->Hp->Prop
abbrev TE:=St->Hp->VK->Prop
abbrev TT:=St->Hp->(Bool->Hp->Prop)->Prop
abbrev TA:=St->Hp->(List V->Hp->Prop)->Prop
structure i8 where
 nx:St->Hp->Prop
 rt:VK
 bk:St->Hp->Prop:=fun _ _=>False
 ct:St->Hp->Prop:=fun _ _=>False
abbrev TS:=i8->St->Hp->Prop
def EP(X:Cx)(pins:List (Addr×Obj))(σ:St)(Q:VK)(u:Value)(s':Shared):Prop:=∃v H',al X pins σ H' s'/\aY v u/\Q v H'
def TP(X:Cx)(pins:List (Addr×Obj))(σ:St)(Q:Bool->Hp->Prop)(b:Bool)(s':Shared):Prop:=∃H',al X pins σ H' s'/\Q b H'
def AP(X:Cx)(pins:List (Addr×Obj))(σ:St)(Q:List V->Hp->Prop)(us:List Value)(s':Shared):Prop:=∃vs H',al X pins σ H' s'/\aL vs us/\Q vs H'
def SP(X:Cx)(pins:List (Addr×Obj))(D:i8)(f:Flow)(s':Shared):Prop :=
 match f with
 | .next => ∃σ' H',al X pins σ' H' s'/\D.nx σ' H'
 | .brk => ∃σ' H',al X pins σ' H' s'/\D.bk σ' H'
 | .cont => ∃σ' H',al X pins σ' H' s'/\D.ct σ' H'
 | .ret u => ∃v σ' H',al X pins σ' H' s'/\aY v u/\D.rt v H'
def PE(X:Cx)(e:Expr)(t:TE):Prop :=
 ∀(pins:List (Addr×Obj)) (s:Shared) (σ:St) (H:Hp) (Q:VK),al X pins σ H s->t σ H Q->wpAny (model X.prog X.w) X.A (eval e X.env) (EP X pins σ Q) X.xe s
def PT(X:Cx)(e:Expr)(t:TT):Prop :=
 ∀(pins:List (Addr×Obj)) (s:Shared) (σ:St) (H:Hp) (Q:Bool->Hp->Prop),al X pins σ H s->t σ H Q->wpAny (model X.prog X.w) X.A (isTrue e X.env (eval e X.env)) (TP X pins σ Q) X.xe s
def PW(X:Cx)(e:Expr)(t:TT):Prop :=
 ∀(whole:Sem Value) (pins:List (Addr×Obj)) (s:Shared) (σ:St) (H:Hp) (Q:Bool->Hp->Prop),al X pins σ H s->t σ H Q->wpAny (model X.prog X.w) X.A (isTrue e X.env whole) (TP X pins σ Q) X.xe s
theorem PW.pt{X:Cx}{t:TT}(h:PW X e t):PT X e t:=h _
def PA(X:Cx)(es:List Expr)(t:TA):Prop :=
 ∀(pos:Pos) (pins:List (Addr×Obj)) (s:Shared) (σ:St) (H:Hp) (Q:List V->Hp->Prop),al X pins σ H s->t σ H Q->wpAny (model X.prog X.w) X.A (spliced (backTo pos (starEach es X.env))) (AP X pins σ Q) X.xe s
def PS(X:Cx)(st:Stmt)(t:TS):Prop :=
 ∀(pins:List (Addr×Obj)) (s:Shared) (σ:St) (H:Hp) (D:i8),al X pins σ H s->t D σ H->wpAny (model X.prog X.w) X.A (exec st X.env) (SP X pins D) X.xe s
def dP(X:Cx)(st:List Stmt)(t:TS):Prop :=
 ∀(pins:List (Addr×Obj)) (s:Shared) (σ:St) (H:Hp) (D:i8),al X pins σ H s->t D σ H->wpAny (model X.prog X.w) X.A (execs st X.env) (SP X pins D) X.xe s
theorem aN{t:Sem α}{Q Q':α->Shared->Prop}(h:wpAny M A t Q E s)(hQ:∀a s,Q a s->Q' a s):wpAny M A t Q' E s:=Rq h hQ fun _ _ x=>x
variable{σ:St}{t te tl:TE}{X:Cx}{tc:TT}{ta:TA}{tb:TS}
section
theorem KP{a b:Expr}{ta tb:TE}(ha:PE X a ta)(hb:PE X b tb)(I:al X pins σ H s)(h:ta σ H fun x H1=>tb σ H1 fun y H2=>R x y H2)
  {Q:α->Shared->Prop} {f:Value->Value->Sem α}
  (hf:∀v u s2 x y H2,al X pins σ H2 s2->aY x v->aY y u->R x y H2->wpAny (model X.prog X.w) X.A (f v u) Q X.xe s2) :
  wpAny (model X.prog X.w) X.A (eval a X.env) (fun v s₁=>wpAny (model X.prog X.w) X.A (eval b X.env) (fun u s₂=>wpAny (model X.prog X.w) X.A (f v u) Q X.xe s₂) X.xe s₁) X.xe s:=by
 refine aN (ha pins s σ H _ I h) fun v s1 ⟨x,H1,I1,r1,q1⟩=>?_
 refine aN (hb pins s1 σ H1 _ I1 q1) fun u s2 ⟨y,H2,I2,r2,q2⟩=>?_
 exact hf v u s2 x y H2 I2 r1 r2 q2
def gH(i:Nat):TE:=fun σ H Q => ∃v,σ[i]?=some (some v)/\Q v H
def tC(v:V):TE:=fun _ H Q=>Q v H
theorem dO(hN:X.N[i]?=some x)(hv:fb X.env.scope x)(hd:(x==("__debug__" : Str))=false:=by decide)(hcd:(x==("__classdict__" : Str))=false:=by decide):PE X (.Name x pos) (gH i):=by
 intro pins s σ H Q I h
 obtain⟨v,e,h⟩:=h
 obtain⟨m,hn,hl⟩:=I.loc
 obtain⟨u,r,l⟩:=hl i x v hN e hv
 have fin:EP X pins σ Q u s:=⟨v,H,I,r,h⟩
 rcases l with⟨hk,hm⟩|⟨hk,c,hc,hcell⟩
 ·exact wpAny_Name (wpAny_loadName_local I.ok.kind hk hn hm fin) hd
 ·rcases hk with hk|hk
  ·exact wpAny_Name (wpAny_loadName_cell I.ok.kind hk hc hcell fin) hd
  ·exact wpAny_Name (wpAny_loadName_free I.ok.kind hk hc hcell fin hcd) hd
theorem FS{i j pos}:PE X (.Constant (.int i) j pos) (tC (.int i)):=fun _ _ _ H _ I h=>wpAny_Constant_int ⟨.int i,H,I.tok _,⟨_,rfl⟩,h⟩
theorem JC{b j pos}:PE X (.Constant (.bool b) j pos) (tC (.bl b)):=fun _ _ _ H _ I h=>Constant_bool ⟨.bl b,H,I,rfl,h⟩
theorem FQ{j pos}:PE X (.Constant .none j pos) (tC .non):=fun _ _ _ H _ I h=>Constant_none ⟨.non,H,I,rfl,h⟩
theorem FN{x j pos}:PE X (.Constant (.str x) j pos) (tC (.str x)):=fun _ _ _ H _ I h=>Calls.Constant_str ⟨.str x,H,I.tok _,⟨_,rfl⟩,h⟩
def Gl(X:Cx)(x:Str):Prop:=X.env.kindOf x=some .globalImplicit
theorem cH(I:al X pins σ H s)(hg:Gl X x)(hm:X.mg x=some u)(h:Q u s)
  (hd:(x==("__debug__" : Str))=false:=by decide):wpAny (model X.prog X.w) X.A (eval (.Name x pos) X.env) Q E s :=
 Calls.Name_function_global I.ok.kind hg (Calls.loadGlobal_global (by rw[I.ok.glob];exact I.mod.glob.keeps I.bk) hm h) hd
theorem eo(I:al X pins σ H s)(hg:Gl X x)(hm:X.mg x=none)(hv:bootBuiltins x=some u)(h:Q u s)
  (hn:x ≠ "__name__" := by decide) (hd:(x==("__debug__" : Str))=false:=by decide):wpAny (model X.prog X.w) X.A (eval (.Name x pos) X.env) Q E s:=by
 obtain⟨mb,h1,h2⟩:=I.mod.blt
 exact Calls.Name_function_global I.ok.kind hg (Calls.loadGlobal_builtin (by rw[I.ok.glob];exact I.mod.glob.keeps I.bk) hm (by rw[I.ok.blt];exact h1.keeps I.bk) ((h2 x hn).trans hv) h) hd
theorem Db(hg:Gl X x)(hm:X.mg x=some u)(r:aY v u)(hd:(x==("__debug__" : Str))=false:=by decide):PE X (.Name x pos) (tC v) :=
 fun _ _ _ H _ I h=>cH I hg hm ⟨v,H,I,r,h⟩ hd
theorem Dd(hg:Gl X x)(hm:X.mg x=none)(hv:bootBuiltins x=some u)(r:aY v u)(hn:x ≠ "__name__" := by decide)(hd:(x==("__debug__" : Str))=false:=by decide):PE X (.Name x pos) (tC v) :=
 fun _ _ _ H _ I h=>eo I hg hm hv ⟨v,H,I,r,h⟩ hn hd
variable{a b:Expr}{ta tb:TE}
def tB(t:TE):TT:=fun σ H Q=>t σ H fun x H1 => ∃c,x=.bl c/\Q c H1
theorem FD(h:PE X e t)(he:∀whole,isTrue e X.env whole=(do let v <- whole;standAt e.pos;holding [v] (truthy v)):=by intro _;rfl):PT X e (tB t):=by
 intro pins s σ H Q I hw
 refine isTrue_plain (aN (h pins s σ H _ I hw) fun v s1 ⟨x,H1,I1,r1,q1⟩=>?_) (he _)
 obtain⟨d,rfl,q⟩:=q1
 cases r1
 exact Rx ⟨H1,I1,q⟩
variable{tA tB':TT}{rest:List Expr}
def Ld(t u:TT):TT:=fun σ H Q=>t σ H fun c H1=>if c=true then u σ H1 Q else Q false H1
def Qn(t u:TT):TT:=fun σ H Q=>t σ H fun c H1=>if c=true then Q true H1 else u σ H1 Q
def K6(t:TT):TT:=fun σ H Q=>t σ H fun c H1=>Q (!c) H1
theorem CU(ha:PT X a tA):PW X (.BoolOp .And [a] pos) tA:=by
 intro wh pins s σ H Q I h
 refine isTrue_and (aN (ha pins s σ H Q I h) fun c s1 e=>?_)
 cases c with
 | true=>exact isTrue_and_nil e
 | false=>exact e
theorem FC(ha:PT X a tA):PW X (.BoolOp .Or [a] pos) tA:=by
 intro wh pins s σ H Q I h
 refine isTrue_or (aN (ha pins s σ H Q I h) fun c s1 e=>?_)
 cases c with
 | false=>exact isTrue_or_nil e
 | true=>exact e
theorem xr(ha:PT X a tA)(hb:PW X (.BoolOp .And (b::rest) pos) tB'):PW X (.BoolOp .And (a::b::rest) pos) (Ld tA tB'):=by
 intro wh pins s σ H Q I h
 refine isTrue_and (aN (ha pins s σ H _ I h) fun c s1 ⟨H1,I1,q1⟩=>?_)
 cases c with
 | true=>exact hb wh pins s1 σ H1 Q I1 q1
 | false=>exact⟨H1,I1,q1⟩
theorem Bf(ha:PT X a tA)(hb:PW X (.BoolOp .Or (b::rest) pos) tB'):PW X (.BoolOp .Or (a::b::rest) pos) (Qn tA tB'):=by
 intro wh pins s σ H Q I h
 refine isTrue_or (aN (ha pins s σ H _ I h) fun c s1 ⟨H1,I1,q1⟩=>?_)
 cases c with
 | true=>exact⟨H1,I1,q1⟩
 | false=>exact hb wh pins s1 σ H1 Q I1 q1
theorem FE(ha:PT X a tA):PT X (.UnaryOp .Not a pos) (K6 tA):=by
 intro pins s σ H Q I h
 exact isTrue_not (ha pins s σ H (fun c H1=>Q (!c) H1) I h)
def Jl(ta tb:TE):TE:=fun σ H Q=>ta σ H fun x H1 => ∃c,x=.bl c/\if c=true then tb σ H1 Q else Q (.bl false) H1
def K5(ta tb:TE):TE:=fun σ H Q=>ta σ H fun x H1 => ∃c,x=.bl c/\if c=true then Q (.bl true) H1 else tb σ H1 Q
def Jh(ta:TE):TE:=fun σ H Q=>ta σ H fun x H1 => ∃c,x=.bl c/\Q (.bl (!c)) H1
theorem FO{op}(h:PE X a t):PE X (.BoolOp op [a] pos) t:=fun pins s σ H Q I hw=>BoolOp_one (h pins s σ H Q I hw)
theorem xA(ha:PE X a ta)(hb:PE X (.BoolOp .And (b::rest) pos) tb):PE X (.BoolOp .And (a::b::rest) pos) (Jl ta tb):=by
 intro pins s σ H Q I h
 refine BoolOp_and (aN (ha pins s σ H _ I h) fun v s1 ⟨x,H1,I1,r1,q1⟩=>?_)
 obtain⟨c,rfl,q1⟩:=q1
 cases r1
 refine Rx ?_
 cases c with
 | true=>exact hb pins s1 σ H1 Q I1 q1
 | false=>exact⟨.bl false,H1,I1,rfl,q1⟩
theorem Bg(ha:PE X a ta)(hb:PE X (.BoolOp .Or (b::rest) pos) tb):PE X (.BoolOp .Or (a::b::rest) pos) (K5 ta tb):=by
 intro pins s σ H Q I h
 refine BoolOp_or (aN (ha pins s σ H _ I h) fun v s1 ⟨x,H1,I1,r1,q1⟩=>?_)
 obtain⟨c,rfl,q1⟩:=q1
 cases r1
 refine Rx ?_
 cases c with
 | false=>exact hb pins s1 σ H1 Q I1 q1
 | true=>exact⟨.bl true,H1,I1,rfl,q1⟩
theorem FP(ha:PE X a ta):PE X (.UnaryOp .Not a pos) (Jh ta):=by
 intro pins s σ H Q I h
 refine UnaryOp_ (aN (ha pins s σ H _ I h) fun v s1 ⟨x,H1,I1,r1,q1⟩=>?_)
 obtain⟨c,rfl,q1⟩:=q1
 cases r1
 exact not_of (Rx ⟨.bl (!c),H1,I1,rfl,q1⟩)
end
def cj(K:W.Frag)(H:Hp)(a:Addr)(xs:List V):Prop :=
 Rd H a (.lst xs) \/
  ∃(o:Obj) (its:Array Value) (n:Nat),K.lookup a=some o/\o.cls=.type "list" /\ o.dict=none/\o.data=.seq its n/\its.size<=sizeLine/\aL xs its.toList
def bT(K:W.Frag)(H:Hp)(a:Addr)(xs:List V):Prop :=
 Rd H a (.tup xs) \/
  ∃(o:Obj) (its:Array Value) (n:Nat),K.lookup a=some o/\o.cls=.type "tuple" /\ o.data=.seq its n/\its.size<=sizeLine/\aL xs its.toList
def P7:Value->Option V
 | .none=>some .non
 | .bool b=>some (.bl b)
 | .int i _=>some (.int i)
 | .str x _=>some (.str x)
 | .bytes b _=>some (.byt b)
 | .float b _=>some (.flt b)
 | .ref a=>some (.ref a)
 | .type n=>some (.ty n)
 | _=>none
theorem aY.abs{x:V}(r:aY x u):P7 u=some x:=by
 cases x with
 | non=>cases r;rfl
 | bl _=>cases r;rfl
 | int _=>obtain⟨t,rfl⟩:=r;rfl
 | str _=>obtain⟨t,rfl⟩:=r;rfl
 | byt _=>obtain⟨t,rfl⟩:=r;rfl
 | flt _=>obtain⟨t,rfl⟩:=r;rfl
 | ref _=>cases r;rfl
 | ty _=>cases r;rfl
theorem aY.inj{x:V}(r:aY x u)(q:aY y u):x=y:=QK (r.abs.symm.trans q.abs)
theorem aL.inj:∀{xs ys:List V} {us:List Value},aL xs us->aL ys us->xs=ys
 | _,_,_,.nil,.nil=>rfl
 | _,_,_,.cons r t,.cons r' t'=>by rw[r.inj r',aL.inj t t']
section
variable{xs ys:List V}
theorem cj.of(h:H a=some (.lst xs)):cj K H a xs:=.inl (.inl h)
theorem bT.of(h:H a=some (.tup xs)):bT K H a xs:=.inl (.inl h)
theorem al.list(I:al X pins σ H s)(h:cj X.K H a xs):∃its:List Value,aL xs its/\PlainL s.heap a its.toArray/\xs.length<=sizeLine:=by
 rcases h with h|⟨o,its,n,hk,hc,hd,hs,hz,r⟩
 ·obtain⟨z,its,n,r,e⟩:=h.ok I.hok
  exact⟨its,r,⟨_,n,e,rfl,rfl,rfl⟩,z⟩
 ·refine⟨its.toList,r,⟨o,n,I.kIn a o hk,hc,hd,by simpa using hs⟩,?_⟩
  have e:=r.length
  simp only[Array.length_toList]at e
  omega
theorem al.tuple(I:al X pins σ H s)(h:bT X.K H a xs):∃its:List Value,aL xs its/\IsTup s.heap a its.toArray/\xs.length<=sizeLine:=by
 rcases h with h|⟨o,its,n,hk,hc,hs,hz,r⟩
 ·obtain⟨z,its,r,p⟩:=h.ok I.hok
  exact⟨its,r,p,z⟩
 ·refine⟨its.toList,r,⟨o,I.kIn a o hk,hc,n,by simpa using hs⟩,?_⟩
  have e:=r.length
  simp only[Array.length_toList]at e
  omega
theorem al.list_inj(I:al X pins σ H s)(h:cj X.K H a xs)(h':cj X.K H a ys):xs=ys:=by
 obtain⟨its,r,⟨o,n,e,_,_,d⟩,_⟩:=I.list h
 obtain⟨its',r',⟨o',n',e',_,_,d'⟩,_⟩:=I.list h'
 rw[e]at e';cases e'
 rw[d]at d'
 injection d' with d1 _
 have:its=its':=by simpa using SC Array.toList d1
 subst this
 exact r.inj r'
theorem al.tuple_inj(I:al X pins σ H s)(h:bT X.K H a xs)(h':bT X.K H a ys):xs=ys:=by
 obtain⟨its,r,⟨o,e,_,n,d⟩,_⟩:=I.tuple h
 obtain⟨its',r',⟨o',e',_,n',d'⟩,_⟩:=I.tuple h'
 rw[e]at e';cases e'
 rw[d]at d'
 injection d' with d1 _
 have:its=its':=by simpa using SC Array.toList d1
 subst this
 exact r.inj r'
end
abbrev Cx.wish(X:Cx)(E:Value->Shared->Prop):Cx:={ X with xe:=E }
abbrev Cx.nox(X:Cx):Cx:=X.wish fun _ _=>False
theorem Cx.Ok.wish(ok:X.Ok)(E:Value->Shared->Prop):(X.wish E).Ok :=
 ⟨ok.mod,ok.kind,ok.glob,ok.blt,ok.above,ok.inj,ok.has,ok.cab,ok.hd,ok.frames,ok.stk,ok.exf,ok.bs,ok.bsz,ok.noex,ok.exfs,ok.funs,ok.frf⟩
theorem Cx.Ok.unwish(ok:(X.wish E).Ok):X.Ok :=
 ⟨ok.mod,ok.kind,ok.glob,ok.blt,ok.above,ok.inj,ok.has,ok.cab,ok.hd,ok.frames,ok.stk,ok.exf,ok.bs,ok.bsz,ok.noex,ok.exfs,ok.funs,ok.frf⟩
section
theorem al.wish(I:al X pins σ H s)(E:Value->Shared->Prop):al (X.wish E) pins σ H s:=⟨I.ok.wish E,I.os,I.bare,I.base,I.loc,I.cell,I.free,I.freeC,I.pin,I.hok,I.len⟩
theorem al.unwish(I:al (X.wish E) pins σ H s):al X pins σ H s:=⟨I.ok.unwish,I.os,I.bare,I.base,I.loc,I.cell,I.free,I.freeC,I.pin,I.hok,I.len⟩
theorem SP.unwish{D:i8}{f:Flow}(h:SP (X.wish E) pins D f s'):SP X pins D f s':=by
 cases f with
 | next=>obtain⟨σ',H',I,q⟩:=h;exact⟨σ',H',I.unwish,q⟩
 | brk=>obtain⟨σ',H',I,q⟩:=h;exact⟨σ',H',I.unwish,q⟩
 | cont=>obtain⟨σ',H',I,q⟩:=h;exact⟨σ',H',I.unwish,q⟩
 | ret u=>obtain⟨v,σ',H',I,r,q⟩:=h;exact⟨v,σ',H',I.unwish,r,q⟩
theorem PE.nox(h:PE X.nox e t):PE X e t:=fun pins s σ H Q I hw =>
 Rq (h pins s σ H Q (I.wish _) hw) (fun _ _ ⟨v,H',I',r,q⟩=>⟨v,H',I'.unwish,r,q⟩) fun _ _ z=>False.elim z
theorem PT.nox{t:TT}(h:PT X.nox e t):PT X e t:=fun pins s σ H Q I hw =>
 Rq (h pins s σ H Q (I.wish _) hw) (fun _ _ ⟨H',I',q⟩=>⟨H',I'.unwish,q⟩) fun _ _ z=>False.elim z
theorem dP.nox{st:List Stmt}{t:TS}(h:dP X.nox st t):dP X st t:=fun pins s σ H D I hw =>
 Rq (h pins s σ H D (I.wish _) hw) (fun _ _ q=>q.unwish) fun _ _ z=>False.elim z
end
section
variable{st:Stmt}{rest:List Stmt}{t u:TS}
def A6:TS:=fun D σ H=>D.nx σ H
def K2(t u:TS):TS:=fun D σ H=>t { D with nx:=u D } σ H
theorem n8:dP X [] A6:=fun _ _ σ H _ I h=>wpAny_execs_nil ⟨σ,H,I,h⟩
theorem dS(h1:PS X st t)(h2:dP X rest u):dP X (st::rest) (K2 t u):=by
 intro pins s σ H D I h
 refine wpAny_execs_cons (aN (h1 pins s σ H { D with nx:=u D } I h) fun f s1 q=>?_)
 cases f with
 | next =>
  obtain⟨σ',H',I',q⟩:=q
  exact h2 pins s1 σ' H' D I' q
 | ret v=>exact q
 | brk=>exact q
 | cont=>exact q
theorem kP(h1:PS X st t):dP X [st] t:=by
 intro pins s σ H D I h
 refine wpAny_execs_cons (aN (h1 pins s σ H D I h) fun f s1 q=>?_)
 cases f with
 | next=>exact wpAny_execs_nil q
 | ret v=>exact q
 | brk=>exact q
 | cont=>exact q
def EQ:TS:=fun D σ H=>D.bk σ H
def Jj:TS:=fun D σ H=>D.ct σ H
theorem CY:PS X (.Pass pos) A6:=fun _ _ σ H _ I h=>wpAny_Pass ⟨σ,H,I,h⟩
theorem zu:PS X (.Break pos) EQ:=fun _ _ σ H _ I h=>wpAny_Break ⟨σ,H,I,h⟩
theorem tO:PS X (.Continue pos) Jj:=fun _ _ σ H _ I h=>wpAny_Continue ⟨σ,H,I,h⟩
theorem al.quiet(I:al X pins σ H s):interactive X.env=false:=by simp[interactive,I.ok.kind]
def Ji(te:TE):TS:=fun D σ H=>te σ H fun _ H1=>D.nx σ H1
theorem gZ(he:PE X e te)(hs:swapsWith e none pos.line X.env=pure false:=by rfl):PS X (.Expr e pos) (Ji te):=by
 intro pins s σ H D I h
 exact wpAny_Expr_any (aN (he pins s σ H _ I h) fun v s1 ⟨x,H1,I1,r1,q1⟩=>⟨σ,H1,I1,q1⟩) I.quiet hs
def K3(te:TE):TS:=fun D σ H=>te σ H D.rt
theorem xu(he:PE X e te):PS X (.Return (some e) pos) (K3 te):=by
 intro pins s σ H D I h
 exact wpAny_Return_some (aN (he pins s σ H _ I h) fun v s1 ⟨x,H1,I1,r1,q1⟩=>⟨x,σ,H1,I1,r1,q1⟩)
def Jf:TS:=fun D _ H=>D.rt .non H
theorem CW:PS X (.Return none pos) Jf:=fun _ _ σ H _ I h=>wpAny_Return_none ⟨.non,σ,H,I,rfl,h⟩
def K8(c:TT)(t u:TS):TS:=fun D σ H=>c σ H fun b H1=>if b=true then t D σ H1 else u D σ H1
theorem vw{a b:List Stmt}(hc:PT X c tc)(ha:dP X a t)(hb:dP X b u):PS X (.If c a b pos) (K8 tc t u):=by
 intro pins s σ H D I h
 refine wpAny_If (aN (hc pins s σ H _ I h) fun d s1 ⟨H1,I1,q1⟩=>?_)
 cases d with
 | true=>exact ha pins s1 σ H1 D I1 q1
 | false=>exact hb pins s1 σ H1 D I1 q1
def EO:TS:=fun _ _ _=>False
theorem gz{sts:List Stmt}:dP X sts EO:=fun _ _ _ _ _ _ h=>h.elim
end
abbrev TG:=V->St->Hp->(St->Hp->Prop)->Prop
abbrev nK:=List V->St->Hp->(St->Hp->Prop)->Prop
def PG(X:Cx)(target:Expr)(t:TG):Prop :=
 ∀(pins:List (Addr×Obj)) (s:Shared) (σ:St) (H:Hp) (v:V) (u:Value) (Q:St->Hp->Prop),al X pins σ H s->aY v u->t v σ H Q ->
  wpAny (model X.prog X.w) X.A (assign target X.env u) (fun _ s' => ∃σ' H',al X pins σ' H' s'/\Q σ' H') X.xe s
def uZ(X:Cx)(ts:List Expr)(t:nK):Prop :=
 ∀(pins:List (Addr×Obj)) (s:Shared) (σ:St) (H:Hp) (vs:List V) (us:List Value) (Q:St->Hp->Prop),al X pins σ H s->aL vs us->t vs σ H Q ->
  wpAny (model X.prog X.w) X.A (assignInOrder ((assignEach ts X.env).map (·.2)) us) (fun _ s' => ∃σ' H',al X pins σ' H' s'/\Q σ' H') X.xe s
abbrev wo:=V->V->V->Hp->(Hp->Prop)->Prop
def IT(X:Cx)(t:wo):Prop :=
 ∀(pins:List (Addr×Obj)) (s:Shared) (σ:St) (H:Hp) (o i v:V) (ov iv u:Value) (Q:Hp->Prop),al X pins σ H s->aY o ov->aY i iv->aY v u->t o i v H Q ->
  wpAny (model X.prog X.w) X.A (setItem ov iv u) (fun _ s' => ∃H',al X pins σ H' s'/\Q H') X.xe s
abbrev IQ:=V->V->Hp->VK->Prop
def KQ(X:Cx)(op:Operator)(t:IQ):Prop :=
 ∀(pins:List (Addr×Obj)) (s:Shared) (σ:St) (H:Hp) (x y:V) (v u:Value) (Q:VK),al X pins σ H s->aY x v->aY y u->t x y H Q ->
  wpAny (model X.prog X.w) X.A (inplaceOp op v u) (EP X pins σ Q) X.xe s
section
def By(i:Nat):TG:=fun v σ H Q=>Q (σ.set i (some v)) H
theorem jc(hN:X.N.Nodup)(hi:X.N[i]?=some x)(hx:tJ X.env.scope x)(hf:X.fn x=true\/X.env.scope.names.lookup x=some .local:=by first|exact .inl rfl|exact .inr rfl|assumption):PG X (.Name x pos) (By i):=by
 intro pins s σ H v u Q I r h
 exact wpAny_assign_Name (fY I hN hi hx r (fun s' I'=>⟨_,H,I',h⟩) hf)
def Od:nK:=fun vs σ H Q=>vs=[]/\Q σ H
def Kg(t:TG)(u:nK):nK:=fun vs σ H Q => ∃v r,vs=v::r/\t v σ H fun σ' H'=>u r σ' H' Q
theorem n9:uZ X [] Od:=by
 intro pins s σ H vs us Q I r h
 obtain⟨e,h⟩:=h
 subst e
 cases r
 exact assignInOrder_nil ⟨σ,H,I,h⟩
theorem hX{t:TG}{u:nK}(h1:PG X e t)(h2:uZ X es u)
  (hs:(assignEach (e::es) X.env).map (·.2)=assign e X.env::(assignEach es X.env).map (·.2):=by rfl):uZ X (e::es) (Kg t u):=by
 intro pins s σ H vs us Q I r h
 obtain⟨v,vr,e1,h⟩:=h
 subst e1
 cases r with
 | cons r rr =>
  rw[hs]
  refine assignInOrder_cons (aN (h1 pins s σ H _ _ _ I r h) fun _ s1 ⟨σ1,H1,I1,q1⟩=>?_)
  exact h2 pins s1 σ1 H1 _ _ Q I1 rr q1
def Ob(K:W.Frag)(n:Nat)(t:nK):TG:=fun v σ H Q => ∃a xs,v=.ref a/\bT K H a xs/\xs.length=n/\t xs σ H Q
theorem mJ{t:nK}(hc:X.calm=true)(h:uZ X es t)
  (hn:(assignEach es X.env).length=n:=by rfl) (hst:(assignEach es X.env).findIdx? (·.1)=none:=by rfl):PG X (.Tuple es k pos) (Ob X.K n t):=by
 intro pins s σ H v u Q I r hw
 obtain⟨a,xs,e1,hq,hl,hw⟩:=hw
 subst e1
 cases r
 obtain⟨its,rv,ht,hz⟩:=I.tuple hq
 refine assign_Tuple_tuple (I.ok.hd hc) ht (by simp[hn,<- hl,rv.length]) hst fun h' hx=>?_
 have I1:al X pins σ H { s with heap:=h' }:=I.kept (t':=s.toks) fun b o e=>hx b o (QT (QC e)) e
 exact h pins _ σ H xs _ Q I1 (by simpa using rv) hw
def Oc(to ti:TE)(t:wo):TG:=fun v σ H Q=>to σ H fun o H1=>ti σ H1 fun i H2=>t o i v H2 fun H3=>Q σ H3
theorem j9{o i:Expr}{to ti:TE}{t:wo}(ho:PE X o to)(hi:PE X i ti)(hs:IT X t)
  (ha:∀v,assign (.Subscript o i pos) X.env v=(do
   let ov <- holding [v] (eval o X.env)
   let iv <- holding [v,ov] (eval i X.env)
   standAt pos
   holding [v,ov,iv] (setItem ov iv v)
   release [v,ov,iv] []):=by intro _;rfl):PG X (.Subscript o i pos) (Oc to ti t):=by
 intro pins s σ H v u Q I r h
 rw[ha]
 refine Qx (Q7 (aN (ho pins s σ H _ I h) fun ov s1 ⟨x,H1,I1,r1,q1⟩=>?_))
 refine Qx (Q7 (aN (hi pins s1 σ H1 _ I1 q1) fun iv s2 ⟨y,H2,I2,r2,q2⟩=>?_))
 refine Qx (R7 (Qx (Q7 (aN (hs pins s2 σ H2 x y v ov iv u _ I2 r1 r2 r q2) fun _ s3 ⟨H3,I3,q3⟩=>?_))))
 exact wpAny_release ⟨σ,H3,I3,q3⟩
def ER(te:TE)(g:TG):TS:=fun D σ H=>te σ H fun x H1=>g x σ H1 D.nx
theorem hW{g:TG}(he:PE X e te)(hg:PG X tg g)(hs:swapsWithSole [tg] e pos.line X.env=pure false:=by rfl)(hw:swappedStores [tg] e X.env=pure none:=by rfl)
  (h1:(assignEach [tg] X.env).map (·.2)=[assign tg X.env]:=by rfl):PS X (.Assign [tg] e pos) (ER te g):=by
 intro pins s σ H D I h
 refine wpAny_Assign_stores (aN (he pins s σ H _ I h) fun v s1 ⟨x,H1,I1,r1,q1⟩=>?_) hs hw
 rw[h1]
 exact aN (hg pins s1 σ H1 x v _ I1 r1 q1) fun _ s2 q=>q
theorem xt(hN:X.N.Nodup)(hi:X.N[i]?=some x)(hx:tJ X.env.scope x)(he:PE X e te)(hs:swapsWith e (some (.Name x pos')) pos.line X.env=pure false:=by rfl)(hf:X.fn x=true\/X.env.scope.names.lookup x=some .local:=by first|exact .inl rfl|exact .inr rfl|assumption) :
  PS X (.Assign [.Name x pos'] e pos) (ER te (By i)):=by
 intro pins s σ H D I h
 refine wpAny_Assign_Name (aN (he pins s σ H _ I h) fun v s1 ⟨y,H1,I1,r1,q1⟩=>?_) hs
 exact fY I1 hN hi hx r1 (fun s2 I2=>⟨_,H1,I2,q1⟩) hf
def K4(i j:Nat)(ta:TA):TS:=fun D σ H=>ta σ H fun vs H1 => ∃v w,vs=[v,w]/\D.nx ((σ.set i (some v)).set j (some w)) H1
theorem FF{y:Str}{a b:Expr}{px py pt:Pos}{kt k2 pt2}(hc:X.calm=true)(hN:X.N.Nodup)(hi:X.N[i]?=some x)(hj:X.N[j]?=some y)(hij:i≠j)
  (hx:X.env.scope.names.lookup x=some .local) (hy:X.env.scope.names.lookup y=some .local) (ha:PA X [a,b] ta)
  (hw:swappedStores [.Tuple [.Name x px,.Name y py] kt pt] (.Tuple [a,b] k2 pt2) X.env=pure (some [x,y]))
  (hs:swapsWithSole [.Tuple [.Name x px,.Name y py] kt pt] (.Tuple [a,b] k2 pt2) pos.line X.env=pure false:=by rfl) :
  PS X (.Assign [.Tuple [.Name x px,.Name y py] kt pt] (.Tuple [a,b] k2 pt2) pos) (K4 i j ta):=by
 intro pins s σ H D I h
 rw[exec_Assign_arm]
 refine Qx (R7 ?_)
 rw[hs]
 refine Qx (Qz ?_)
 rw[if_neg (by decide)]
 refine Qx (Tuple_ (aN (ha _ pins s σ H _ I h) fun us s1 ⟨vs,H1,I1,r1,q1⟩=>?_))
 obtain⟨v,w,e1,q1⟩:=q1
 subst e1
 obtain⟨u1,u2,rfl,rv,rw'⟩:∃u1 u2,us=[u1,u2]/\aY v u1/\aY w u2:=by
  cases r1 with
  | cons p q =>
   cases q with
   | cons p' q' =>
    cases q'
    exact⟨_,_,rfl,p,p'⟩
 refine RF ?_ (by show 2<=sizeLine;decide)
 have I2:al X pins σ H1 { s1 with heap:=s1.heap.push { cls:=.type "tuple", data:=.seq [u1,u2].toArray } }:=I1.kept (t':=s1.toks) fun b o e=>Qy _ e
 rw[hw]
 refine Qx (Qz ?_)
 show wpAny (model X.prog X.w) X.A (do rule "assign.swapped-stores"; let items <- unpackItems (.ref s1.heap.objs.size) 2 none;assignInOrder [fun v=>bindName X.env y v,fun v=>bindName X.env x v] items.reverse;pure Flow.next) _ _ _
 refine Qx (wpAny_rule (Qx (unpackItems_tuple (items:=#[u1,u2]) (I.ok.hd hc) (IsTup.new s1.heap _) fun h' hx'=>?_)))
 have I3:=I2.kept (h':=h') (t':=s1.toks) fun b o e=>hx' b o (QT (QC e)) e
 show wpAny _ _ (assignInOrder [fun v=>bindName X.env y v,fun v=>bindName X.env x v] [u2,u1] >>= fun _=>pure Flow.next) _ _ _
 refine Qx (assignInOrder_cons (wpAny_bindName (fY I3 hN hj (.inl hy) rw' (fun s2 I4=>?_) (.inr hy))))
 refine assignInOrder_cons (wpAny_bindName (fY I4 hN hi (.inl hx) rv (fun s3 I5=>assignInOrder_nil (Qz ?_)) (.inr hx)))
 rw[List.set_comm _ _ (RB hij)]at I5
 exact⟨_,H1,I5,q1⟩
def Lc(i:Nat)(te:TE)(ti:IQ):TS:=fun D σ H => ∃x,σ[i]?=some (some x)/\te σ H fun y H1=>ti x y H1 fun z H2=>D.nx (σ.set i (some z)) H2
theorem FG{ti:IQ}(hN:X.N.Nodup)(hi:X.N[i]?=some x)(hx:tJ X.env.scope x)(he:PE X e te)(ho:KQ X op ti)(hf:X.fn x=true\/X.env.scope.names.lookup x=some .local:=by first|exact .inl rfl|exact .inr rfl|assumption) :
  PS X (.AugAssign (.Name x pos') op e pos) (Lc i te ti):=by
 intro pins s σ H D I h
 obtain⟨v,e1,h⟩:=h
 obtain⟨m,hn,hl⟩:=I.loc
 have vis:fb X.env.scope x:=by rcases hx with k|k;exact .inl k;exact .inr (.inl k)
 obtain⟨u,r,l⟩:=hl i x v hi e1 vis
 refine wpAny_AugAssign_Name ?_
 have go:wpAny (model X.prog X.w) X.A (eval e X.env) (fun w s₂=>wpAny (model X.prog X.w) X.A (inplaceOp op u w) (fun r s₃=>wpAny (model X.prog X.w) X.A (storeName X.env x r) (fun _=>SP X pins D .next) X.xe s₃) X.xe s₂) X.xe s:=by
  refine aN (he pins s σ H _ I h) fun w s1 ⟨y,H1,I1,r1,q1⟩=>?_
  refine aN (ho pins s1 σ H1 v y u w _ I1 r r1 q1) fun z s2 ⟨zv,H2,I2,r2,q2⟩=>?_
  exact fY I2 hN hi hx r2 (fun s3 I3=>⟨_,H2,I3,q2⟩) hf
 rcases l with⟨hk,hm⟩|⟨hk,c,hc,hcell⟩
 ·exact wpAny_loadName_local I.ok.kind hk hn hm go
 ·rcases hk with hk|hk
  ·exact wpAny_loadName_cell I.ok.kind hk hc hcell go
  ·rcases hx with k|k
   ·have:X.env.scope.names.lookup x=some .free:=hk
    rw[k]at this;cases this
   ·have:X.env.scope.names.lookup x=some .free:=hk
    rw[k]at this;cases this
end
section
def EN(c:TT)(tb:TS):TS:=fun D σ H => ∃W:Nat->St->Hp->Prop,(∃m,W m σ H)/\∀m σ H,W m σ H ->
 c σ H fun b H1=>if b=true then ∃N:St->Hp->Prop,(∀σ' H',N σ' H'->∃m',m' < m/\W m' σ' H')/\tb { D with nx:=N,ct:=N,bk:=D.nx } σ H1 else D.nx σ H1
theorem zt(hp:PassesOwn (model X.prog X.w) X.A X.env X.xe)(hc:PT X c tc)(hb:dP X body tb):PS X (.While c body [] pos) (EN tc tb):=by
 intro pins s σ H D I h
 obtain⟨W,⟨m0,w0⟩,turn⟩:=h
 refine wpAny_While (codeAny_whileLoop (fun n s' => ∃σ' H',al X pins σ' H' s'/\W n σ' H') ?_ m0 ⟨σ,H,I,w0⟩)
 rintro n s1 ⟨σ1,H1,I1,w1⟩
 refine Sh hp (aN (hc pins s1 σ1 H1 _ I1 (turn n σ1 H1 w1)) fun b s2 ⟨H2,I2,q2⟩=>?_)
 cases b with
 | true =>
  obtain⟨N,hN,q2⟩:=q2
  rw[if_pos rfl]
  refine Sh hp (aN (hb pins s2 σ1 H2 _ I2 q2) fun f s3 q3=>?_)
  cases f with
  | next =>
   obtain⟨σ3,H3,I3,n3⟩:=q3
   obtain⟨m',hm,w3⟩:=hN σ3 H3 n3
   exact⟨m',hm,σ3,H3,I3,w3⟩
  | cont =>
   obtain⟨σ3,H3,I3,n3⟩:=q3
   obtain⟨m',hm,w3⟩:=hN σ3 H3 n3
   exact⟨m',hm,σ3,H3,I3,w3⟩
  | brk=>exact q3
  | ret v=>exact q3
 | false =>
  rw[if_neg QP]
  exact wpAny_execs_nil ⟨σ1,H2,I2,q2⟩
end
structure It where
 go:Nat->Hp->Prop
 yld:Nat->Hp->V->Hp->Prop
 stop:Nat->Hp->Prop
def fV(X:Cx)(pins:List (Addr×Obj))(H:Hp)(b:Addr):Prop :=
 H b=none/\b≠X.env.locals/\b∉X.fs/\(b∈X.ex\/X.s₀.heap.objs.size<=b)/\(∀x c,X.env.cells.lookup x=some c->c≠b)/\∀p∈X.pn++pins,p.1≠b
theorem al.fpOk{H':Hp}(I:al X pins σ H s)(hb:s.heap.objs.size<=b)(hn:H' b=none):fV X pins H' b:=by
 refine⟨hn,RL (QG I.lt hb),I.nofs hb,.inr (QD I.sz hb),fun x c e z=>?_,fun p hp z=>?_⟩
 ·obtain⟨v,q⟩:=I.cell x c e
  exact absurd (QG q.lt (by rw[z];exact hb)) (Q6 _)
 ·exact absurd (QG (QC (I.pin p hp).1) (by rw[z];exact hb)) (Q6 _)
structure Turn(P:Program)(w:World)(K:W.Frag)(tg:Expr)(J:It)(fp:List Addr)(it:Addr)(tn:Nat->Heap->Prop):Prop where
 mem:it∈fp
 obj:∀i h,tn i h->∀b∈fp,∃o,h.get? b=some o/\∀v,o.data ≠ .cell v
 keep:∀i h h',tn i h->(∀b∈fp,∀o,h.get? b=some o->h'.get? b=some o)->tn i h'
 item:∀(X:Cx),X.prog=P->X.w=w->X.K=K->X.calm=true->∀(i:Nat) (pins:List (Addr×Obj)) (s:Shared) (σ:St) (H:Hp) (E:Value->Shared->Prop),al X pins σ H s->(∀b∈fp,fV X pins H b)->tn i s.heap->J.go i H ->
  wpAny (model P w) X.A (pyNext (.ref it)) (fun r s1 => ∃u,r=some u /\
   wpAny (model P w) X.A (letOwnedTupleGo tg (.ref it) u) (fun _ s2 => ∃x H',al X pins σ H' s2/\aY x u/\J.yld i H x H'/\tn (i+1) s2.heap/\∀b∈fp,H' b=none) E s1) E s
 done:∀(X:Cx),X.prog=P->X.w=w->X.K=K->X.calm=true->∀(i:Nat) (pins:List (Addr×Obj)) (s:Shared) (σ:St) (H:Hp) (E:Value->Shared->Prop),al X pins σ H s->(∀b∈fp,fV X pins H b)->tn i s.heap->J.stop i H ->
  wpAny (model P w) X.A (pyNext (.ref it)) (fun r s1=>r=none/\al X pins σ H s1) E s
 self:∀(A:Around) (i:Nat) (s:Shared) (Q:Value->Shared->Prop) (E:Value->Shared->Prop),tn i s.heap->Q (.ref it) s->wpAny (model P w) A (pyIter (.ref it)) Q E s
abbrev TI:=St->Hp->(It->Hp->Prop)->Prop
def KR(X:Cx)(pins:List (Addr×Obj))(σ:St)(tg:Expr)(R:It->Hp->Prop)(itv:Value)(s2:Shared):Prop :=
 ∃(it:Addr) (fp:List Addr) (tn:Nat->Heap->Prop) (J:It) (H':Hp),itv=.ref it/\al X pins σ H' s2/\Turn X.prog X.w X.K tg J fp it tn/\tn 0 s2.heap/\(∀b∈fp,fV X pins H' b)/\R J H'
def PI(X:Cx)(tg iter:Expr)(wi:TI):Prop :=
 ∀(pins:List (Addr×Obj)) (s:Shared) (σ:St) (H:Hp) (R:It->Hp->Prop),al X pins σ H s->wi σ H R ->
  wpAny (model X.prog X.w) X.A (eval iter X.env) (fun v s1=>wpAny (model X.prog X.w) X.A (pyIter v) (KR X pins σ tg R) X.xe s1) X.xe s
theorem qH{n:String}{vs:Array Value}{Q:Unit->Shared->Prop}(ho:s.heap.get? it=some o)(hc:o.cls=.type n)(hd:o.data=.fields vs)
    (hn:["enumerate", "zip", "dict_itemiterator", "dict_reverseitemiterator", "odict_iterator", "itertools.zip_longest", "itertools.pairwise"].contains n=false) (hQ:Q () s):wpAny M A (letOwnedTupleGo tg (.ref it) u) Q E s:=by
  unfold letOwnedTupleGo
  cases tg<;>first
    | exact Qz hQ
    | (cases u<;>first
        | exact Qz hQ
        | (refine Qx (wpAny_load ho ?_)
           rw[hc,hd]
           show wpAny M A (if (["enumerate", "zip", "dict_itemiterator", "dict_reverseitemiterator", "odict_iterator", "itertools.zip_longest", "itertools.pairwise"].contains n&&vs[0]? == some (rawInt _))=true then _ else _) Q E s
           rw[if_neg (by intro h;rw[hn,Bool.false_and]at h;cases h)]
           exact Qz hQ))
def KU(K:W.Frag)(a:Addr):It :=
 ⟨fun i H => ∃xs x,cj K H a xs/\xs[i]?=some x,fun i H x H'=>H'=H/\∀xs,cj K H a xs->xs[i]?=some x,fun i H => ∃xs,cj K H a xs/\xs.length<=i⟩
def KT(K:W.Frag)(a:Addr):It :=
 ⟨fun i H => ∃xs x,bT K H a xs/\xs[i]?=some x,fun i H x H'=>H'=H/\∀xs,bT K H a xs->xs[i]?=some x,fun i H => ∃xs,bT K H a xs/\xs.length<=i⟩
def BP(lo:Int)(n:Nat):It:=⟨fun i _=>i<n,fun i H x H'=>H'=H/\x=.int (lo+i),fun i _=>n<=i⟩
theorem wS(a it:Addr):Turn P w K tg (KU K a) [it] it (fun i h=>h.IsListIter it a i) where
 mem:=by simp
 obj:=fun i h st b hb=>by
  have e:b=it:=by simpa using hb
  subst e
  obtain⟨o,e,c,d⟩:=st
  exact⟨o,e,fun v z=>by rw[d]at z;cases z⟩
 keep:=fun i h h' st k=>st.at fun o e=>k it (by simp) o e
 item:=by
  intro X hP hw hK hc i pins s σ H E I hf st hg
  subst hP hw hK
  obtain⟨xs,x,hq,hx⟩:=hg
  obtain⟨its,rv,p,hz⟩:=I.list hq
  obtain⟨u,hu,ru⟩:=rv.get hx
  obtain⟨f0,f1,f2,f3,f4,f5⟩:=hf it (by simp)
  refine wpAny_pyNext_list_item st p.isList (x:=u) (by simpa using hu) fun h' st' sb=>?_
  have I1:al X pins σ H { s with heap:=h' }:=I.turned (t':=s.toks) (fun b o hb e=>(sb.2 b hb).trans e) f0 f1 f3 f4 f5
  obtain⟨o,e,c,d⟩:=id st'
  exact⟨u,rfl,qH (s:={ s with heap:=h' }) e c d (by decide) ⟨x,H,I1,ru,⟨rfl,fun ys hy=>by rw[I.list_inj hy hq];exact hx⟩,st',fun b hb=>(hf b hb).1⟩⟩
 done:=by
  intro X hP hw hK hc i pins s σ H E I hf st hg
  subst hP hw hK
  obtain⟨xs,hq,hx⟩:=hg
  obtain⟨its,rv,p,hz⟩:=I.list hq
  obtain⟨f0,f1,f2,f3,f4,f5⟩:=hf it (by simp)
  have hl:=rv.length
  exact wpAny_pyNext_list_end (I.ok.hd hc) st p.isList (by simp;omega) fun h' eb=>⟨rfl,I.turned (t':=s.toks) (fun b o hb e=>eb b o hb e) f0 f1 f3 f4 f5⟩
 self:=fun _ _ _ _ _ st h=>wpAny_pyIter_listiter st h
theorem u8(a it:Addr):Turn P w K tg (KT K a) [it] it (fun i h=>h.IsTupleIter it a i) where
 mem:=by simp
 obj:=fun i h st b hb=>by
  have e:b=it:=by simpa using hb
  subst e
  obtain⟨o,e,c,d⟩:=st
  exact⟨o,e,fun v z=>by rw[d]at z;cases z⟩
 keep:=fun i h h' st k=>st.at fun o e=>k it (by simp) o e
 item:=by
  intro X hP hw hK hc i pins s σ H E I hf st hg
  subst hP hw hK
  obtain⟨xs,x,hq,hx⟩:=hg
  obtain⟨its,rv,p,hz⟩:=I.tuple hq
  obtain⟨u,hu,ru⟩:=rv.get hx
  obtain⟨f0,f1,f2,f3,f4,f5⟩:=hf it (by simp)
  refine wpAny_pyNext_tuple_item st (show s.heap.IsTuple a its.toArray from p) (x:=u) (by simpa using hu) fun h' st' sb=>?_
  have I1:al X pins σ H { s with heap:=h' }:=I.turned (t':=s.toks) (fun b o hb e=>(sb.2 b hb).trans e) f0 f1 f3 f4 f5
  obtain⟨o,e,c,d⟩:=id st'
  exact⟨u,rfl,qH (s:={ s with heap:=h' }) e c d (by decide) ⟨x,H,I1,ru,⟨rfl,fun ys hy=>by rw[I.tuple_inj hy hq];exact hx⟩,st',fun b hb=>(hf b hb).1⟩⟩
 done:=by
  intro X hP hw hK hc i pins s σ H E I hf st hg
  subst hP hw hK
  obtain⟨xs,hq,hx⟩:=hg
  obtain⟨its,rv,p,hz⟩:=I.tuple hq
  obtain⟨f0,f1,f2,f3,f4,f5⟩:=hf it (by simp)
  have hl:=rv.length
  exact wpAny_pyNext_tuple_end (I.ok.hd hc) st (show s.heap.IsTuple a its.toArray from p) (by simp;omega) fun h' eb=>⟨rfl,I.turned (t':=s.toks) (fun b o hb e=>eb b o hb e) f0 f1 f3 f4 f5⟩
 self:=fun _ _ _ _ _ st h=>wpAny_pyIter_tupleiter st h
theorem u9(it:Addr)(lo:Int)(n:Nat):Turn P w K tg (BP lo n) [it] it (fun i h=>IsRangeIter h it (lo+(i:Nat)*1) ((n:Int)-(i:Nat)) 1) where
 mem:=by simp
 obj:=fun i h st b hb=>by
  have e:b=it:=by simpa using hb
  subst e
  exact⟨_,st,fun v z=>by
   have z':Data.fields _=Data.cell v:=z
   cases z'⟩
 keep:=fun i h h' st k=>k it (by simp) _ st
 item:=by
  intro X hP hw hK hc i pins s σ H E I hf st hg
  subst hP hw hK
  obtain⟨f0,f1,f2,f3,f4,f5⟩:=hf it (by simp)
  have W:=Walks.range (prog:=X.prog) (w:=X.w) (I.ok.hd hc) it lo 1 n
  refine W.item i s _ _ hg st fun v h' tk hv st' kk=>?_
  obtain⟨t,rfl⟩:=hv
  have I1:al X pins σ H { s with heap:=h',toks:=tk }:=I.turned (fun b o hb e=>kk b o (by simpa using hb) e) f0 f1 f3 f4 f5
  refine⟨_,rfl,qH (s:={ s with heap:=h',toks:=tk }) (n := "range_iterator") st' rfl rfl (by decide) ⟨.int (lo+i),H,I1,⟨t,?_⟩,⟨rfl,rfl⟩,st',fun b hb=>(hf b hb).1⟩⟩
  rw[Ry]
 done:=by
  intro X hP hw hK hc i pins s σ H E I hf st hg
  subst hP hw hK
  obtain⟨f0,f1,f2,f3,f4,f5⟩:=hf it (by simp)
  exact wpAny_pyNext_range_end (I.ok.hd hc) st (by have:n<=i:=hg;omega) fun h' eb=>⟨rfl,I.turned (t':=s.toks) (fun b o hb e=>eb b o hb e) f0 f1 f3 f4 f5⟩
 self:=fun _ _ _ _ _ st h=>wpAny_pyIter_rangeiter st h
section
def Kc(K:W.Frag)(tl:TE):TI:=fun σ H R=>tl σ H fun x H1 => ∃a,x=.ref a/\(∃xs,cj K H1 a xs)/\R (KU K a) H1
def Oa(K:W.Frag)(tl:TE):TI:=fun σ H R=>tl σ H fun x H1 => ∃a,x=.ref a/\(∃xs,bT K H1 a xs)/\R (KT K a) H1
theorem C7(hl:PE X l tl):PI X tg l (Kc X.K tl):=by
 intro pins s σ H R I h
 refine aN (hl pins s σ H _ I h) fun v s1 ⟨x,H1,I1,r1,q1⟩=>?_
 obtain⟨a,e,⟨xs,hq⟩,q⟩:=q1
 subst e
 cases r1
 obtain⟨its,rv,p,hz⟩:=I1.list hq
 refine RP p.isList ?_
 refine⟨s1.heap.objs.size,[s1.heap.objs.size],_,_,H1,rfl,I1.kept (t':=s1.toks) fun b o e=>Qy _ e,wS a _,⟨_,QH _ rfl,rfl,rfl⟩,fun b hb=>?_,q⟩
 have e:b=s1.heap.objs.size:=by simpa using hb
 subst e
 exact I1.fpOk (QF _) (I1.hok.fresh (QF _))
theorem FL(hl:PE X l tl):PI X tg l (Oa X.K tl):=by
 intro pins s σ H R I h
 refine aN (hl pins s σ H _ I h) fun v s1 ⟨x,H1,I1,r1,q1⟩=>?_
 obtain⟨a,e,⟨xs,hq⟩,q⟩:=q1
 subst e
 cases r1
 obtain⟨its,rv,p,hz⟩:=I1.tuple hq
 refine RM (show s1.heap.IsTuple a its.toArray from p) ?_
 refine⟨s1.heap.objs.size,[s1.heap.objs.size],_,_,H1,rfl,I1.kept (t':=s1.toks) fun b o e=>Qy _ e,u8 a _,⟨_,QH _ rfl,rfl,rfl⟩,fun b hb=>?_,q⟩
 have e:b=s1.heap.objs.size:=by simpa using hb
 subst e
 exact I1.fpOk (QF _) (I1.hok.fresh (QF _))
theorem rC{R:It->Hp->Prop}{lo hi:Int}{t u v:Tok}{tk:Nat}(I:al X pins σ H s)(h1:-(2 ^ 62)<=lo)(h2:lo<2 ^ 62)(h3:-(2 ^ 62)<=hi)(h4:hi<2 ^ 62)
  (q:R (BP lo (hi-lo).toNat) H):wpAny (model X.prog X.w) X.A (pyIter (.ref s.heap.objs.size)) (KR X pins σ tg R) E { s with heap:=s.heap.push { cls:=.type "range", data:=.fields #[.int lo t,.int hi u,.int 1 v] },toks:=tk }:=by
 refine wpAny_pyIter_range (IsRange.new ..) (small_one h1 h2 h3 h4) ?_
 have I1:al X pins σ H { s with heap:=s.heap.push { cls:=.type "range", data:=.fields #[.int lo t,.int hi u,.int 1 v] },toks:=tk }:=I.kept fun b o e=>Qy _ e
 refine⟨(s.heap.push { cls:=.type "range", data:=.fields #[.int lo t,.int hi u,.int 1 v] }).objs.size,[(s.heap.push { cls:=.type "range", data:=.fields #[.int lo t,.int hi u,.int 1 v] }).objs.size],_,_,H,rfl,
  I1.kept (t':=tk) fun b o e=>Qy _ e,u9 _ lo (hi-lo).toNat,?_,fun b hb=>?_,q⟩
 ·have e1:lo+((0:Nat):Int)*1=lo:=by simp
  have e2:(((hi-lo).toNat:Nat):Int)-((0:Nat):Int)=Builtin.Range.rangeSize lo hi 1:=by rw[rangeSize_one];split<;>omega
  show IsRangeIter _ _ (lo+((0:Nat):Int)*1) ((((hi-lo).toNat:Nat):Int)-((0:Nat):Int)) 1
  rw[e1,e2]
  exact QH _ rfl
 ·have e:b=(s.heap.push { cls:=.type "range", data:=.fields #[.int lo t,.int hi u,.int 1 v] }).objs.size:=by simpa using hb
  subst e
  exact I1.fpOk (QF _) (I1.hok.fresh (QF _))
def Kb(ta:TA):TI:=fun σ H R=>ta σ H fun vs H1 => ∃j:Int,vs=[.int j] /\ -(2 ^ 62)<=j/\j<2 ^ 62/\R (BP 0 j.toNat) H1
def Ka(ta:TA):TI:=fun σ H R=>ta σ H fun vs H1 => ∃i j:Int,vs=[.int i,.int j]/\(-(2 ^ 62)<=i/\i<2 ^ 62 /\ -(2 ^ 62)<=j/\j<2 ^ 62)/\R (BP i (j-i).toNat) H1
theorem xx{a:Expr}(hg:Gl X "range")(hm:X.mg "range" = none)(ha:PA X [a] ta)(hs:starEach [a] X.env=[(false,eval a X.env)]:=by rfl):PI X tg (.Call (.Name "range" p) [a] [] pos) (Kb ta):=by
 intro pins s σ H R I h
 refine Call_ (eo I hg hm boot_range (Rr (aN (ha pos pins s σ H _ I h) fun us s1 ⟨vs,H1,I1,r1,q1⟩=>?_) hs rfl))
 obtain⟨j,e,q1,q2,q⟩:=q1
 subst e
 cases r1 with
 | cons r rr =>
  cases rr
  obtain⟨t,rfl⟩:=r
  exact call_range_1 (rC I1 (by omega) (by omega) q1 q2 (by simpa using q))
theorem xw{a b:Expr}(hg:Gl X "range")(hm:X.mg "range" = none)(ha:PA X [a,b] ta)(hs:starEach [a,b] X.env=[(false,eval a X.env),(false,eval b X.env)]:=by rfl)(hs2:starEach [b] X.env=[(false,eval b X.env)]:=by rfl) :
  PI X tg (.Call (.Name "range" p) [a,b] [] pos) (Ka ta):=by
 intro pins s σ H R I h
 refine Call_ (eo I hg hm boot_range (Rr (aN (ha pos pins s σ H _ I h) fun us s1 ⟨vs,H1,I1,r1,q1⟩=>?_) (by rw[hs,hs2]) (by rw[hs2];rfl)))
 obtain⟨i,j,e,⟨q1,q2,q3,q4⟩,q⟩:=q1
 subst e
 cases r1 with
 | cons r rr =>
  cases rr with
  | cons r' rr =>
   cases rr
   obtain⟨t,rfl⟩:=r
   obtain⟨t',rfl⟩:=r'
   exact call_range_2 (rC I1 q1 q2 q3 q4 q)
def K9(wi:TI)(g:TG)(tb:TS):TS:=fun D σ H=>wi σ H fun J H1 => ∃W:Nat->Nat->St->Hp->Prop,(∃m,W 0 m σ H1)/\∀i m σ H,W i m σ H ->
 (J.stop i H/\D.nx σ H)\/(J.go i H/\∃N:St->Hp->Prop,(∀σ' H',N σ' H'->∃m',m' < m/\W (i+1) m' σ' H')/\∀x H',J.yld i H x H'->g x σ H' fun σ2 H2=>tb { D with nx:=N,ct:=N,bk:=D.nx } σ2 H2)
def j7(fp:List Addr)(h:Heap):List (Addr×Obj):=fp.filterMap fun b=>(h.get? b).map fun o=>(b,o)
theorem gR(hb:b∈fp)(e:h.get? b=some o):(b,o)∈j7 fp h:=List.mem_filterMap.mpr ⟨b,hb,by rw[e];rfl⟩
theorem xD{p:Addr×Obj}(hp:p∈j7 fp h):p.1∈fp/\h.get? p.1=some p.2:=by
 obtain⟨b,hb,e⟩:=List.mem_filterMap.mp hp
 cases q:h.get? b with
 | none=>rw[q]at e;cases e
 | some o =>
  rw[q]at e
  have e':(b,o)=p:=QK e
  subst e'
  exact⟨hb,q⟩
theorem al.pinned(I:al X pins σ H s)(hf:∀b∈fp,fV X pins H b)(ho:∀b∈fp,∃o,s.heap.get? b=some o/\∀v,o.data ≠ .cell v):al X (pins++j7 fp s.heap) σ H s :=
 I.pins_of fun p hp=>(List.mem_append.mp hp).elim (fun z=>I.pin p (Q2 _ z)) fun z=>by
  obtain⟨hb,e⟩:=xD z
  obtain⟨f0,f1,f2,_⟩:=hf p.1 hb
  obtain⟨o,e',d⟩:=ho p.1 hb
  rw[e]at e';cases e'
  exact⟨e,f0,f1,f2,d⟩
theorem al.unpinned{pl:List (Addr×Obj)}(I:al X (pins++pl) σ H s):al X pins σ H s:=I.pins_of fun p hp=>I.pin p (Q2 _ (List.mem_append_left _ hp))
theorem rE{iter:Expr}{wi:TI}{g:TG}(hp:PassesOwn (model X.prog X.w) X.A X.env X.xe)(hc:X.calm=true)(hi:PI X tg iter wi)(hg:PG X tg g)(hb:dP X body tb)
  (hs:∀x,foldedSetIterable iter X.env x=pure x:=by intro _;rfl):PS X (.For tg iter body [] pos) (K9 wi g tb):=by
 intro pins s σ H D I h
 refine wpAny_For (aN (hi pins s σ H _ I h) fun v s1 h1=>aN h1 fun itv s2 h2=>?_) hs
 obtain⟨it,fp,tn,J,H2,e,I2,T,st2,f2,W,⟨m0,w0⟩,turn⟩:=h2
 subst e
 have stat:∀{H':Hp},(∀b∈fp,H' b=none)->∀b∈fp,fV X pins H' b:=fun hn b hb=>⟨hn b hb,(f2 b hb).2⟩
 refine codeAny_forLoop_any (fun n s' => ∃i σ' H',al X pins σ' H' s'/\tn i s'.heap/\(∀b∈fp,H' b=none)/\W i n σ' H') ?_ m0 ⟨0,σ,H2,I2,st2,fun b hb=>(f2 b hb).1,w0⟩
 rintro n s3 ⟨i,σ3,H3,I3,st3,fr3,w3⟩
 rcases turn i n σ3 H3 w3 with⟨stop,qn⟩|⟨go,N,hN,step⟩
 ·refine Sh hp (aN (T.done X rfl rfl rfl hc i pins s3 σ3 H3 X.xe I3 (stat fr3) st3 stop) fun r s4 ⟨hr,I4⟩=>?_)
  subst hr
  exact wpAny_execs_nil ⟨σ3,H3,I4,qn⟩
 ·refine Sh hp (aN (T.item X rfl rfl rfl hc i pins s3 σ3 H3 X.xe I3 (stat fr3) st3 go) fun r s4 ⟨u,hr,h4⟩=>?_)
  subst hr
  refine Sh hp (aN h4 fun _ s5 ⟨x,H5,I5,r5,y5,st5,fr5⟩=>?_)
  have I5':=I5.pinned (stat fr5) (T.obj _ _ st5)
  refine Sh hp (aN (hg _ s5 σ3 H5 x u _ I5' r5 (step x H5 y5)) fun _ s6 ⟨σ6,H6,I6,q6⟩=>?_)
  refine Sh hp (aN (hb _ s6 σ6 H6 _ I6 q6) fun f s7 q7=>?_)
  have again:∀{σ7:St} {H7:Hp},al X (pins++j7 fp s5.heap) σ7 H7 s7->N σ7 H7->∃m,m<n/\∃i σ' H',al X pins σ' H' s7/\tn i s7.heap/\(∀b∈fp,H' b=none)/\W i m σ' H':=fun {σ7 H7} I7 n7=>by
   obtain⟨m',hm,w7⟩:=hN σ7 H7 n7
   refine⟨m',hm,i+1,σ7,H7,I7.unpinned,T.keep _ _ _ st5 fun b hb o e=>(I7.pin (b,o) (Q2 _ (Q2 _ (gR hb e)))).1,fun b hb=>?_,w7⟩
   obtain⟨o,e,d⟩:=T.obj _ _ st5 b hb
   exact(I7.pin (b,o) (Q2 _ (Q2 _ (gR hb e)))).2.1
  cases f with
  | next=>obtain⟨σ7,H7,I7,n7⟩:=q7;exact again I7 n7
  | cont=>obtain⟨σ7,H7,I7,n7⟩:=q7;exact again I7 n7
  | brk=>obtain⟨σ7,H7,I7,q7⟩:=q7;exact⟨σ7,H7,I7.unpinned,q7⟩
  | ret v=>obtain⟨x7,σ7,H7,I7,r7,q7⟩:=q7;exact⟨x7,σ7,H7,I7.unpinned,r7,q7⟩
end
abbrev R2:=V->V->Hp->VK->Prop
def cP(X:Cx)(f:Value->Value->Sem Value)(r:R2):Prop :=
 ∀(pins:List (Addr×Obj)) (s:Shared) (σ:St) (H:Hp) (x y:V) (v u:Value) (Q:VK),al X pins σ H s->aY x v->aY y u->r x y H Q ->
  wpAny (model X.prog X.w) X.A (f v u) (EP X pins σ Q) X.xe s
def IO(X:Cx)(f:Value->Sem Value)(r:V->Hp->VK->Prop):Prop :=
 ∀(pins:List (Addr×Obj)) (s:Shared) (σ:St) (H:Hp) (x:V) (v:Value) (Q:VK),al X pins σ H s->aY x v->r x H Q ->
  wpAny (model X.prog X.w) X.A (f v) (EP X pins σ Q) X.xe s
def dz(X:Cx)(f:Value)(r:List V->Hp->VK->Prop):Prop :=
 ∀(pins:List (Addr×Obj)) (s:Shared) (σ:St) (H:Hp) (xs:List V) (us:List Value) (Q:VK),al X pins σ H s->aL xs us->r xs H Q ->
  wpAny (model X.prog X.w) X.A (call f us) (EP X pins σ Q) X.xe s
def KL(r:R2)(ta tb:TE):TE:=fun σ H Q=>ta σ H fun x H1=>tb σ H1 fun y H2=>r x y H2 Q
def Qk(r:V->Hp->VK->Prop)(ta:TE):TE:=fun σ H Q=>ta σ H fun x H1=>r x H1 Q
def rI(C:Int->Int->Prop)(g:Int->Int->V):R2:=fun x y H Q => ∃i j,x=.int i/\y=.int j/\C i j/\Q (g i j) H
def jI(g:Int->Int->V):R2:=fun x y H Q => ∃i j,x=.int i/\y=.int j/\Q (g i j) H
def rU(g:Int->V):V->Hp->VK->Prop:=fun x H Q => ∃i,x=.int i/\Q (g i) H
section
variable{a b:Expr}{ta tb tc:TE}
theorem Ix(ha:PE X a ta)(hb:PE X b tb)(I:al X pins σ H s)
  (h:ta σ H fun x H1=>tb σ H1 fun y H2=>R x y H2)
  (hf:∀v u s2 x y H2,al X pins σ H2 s2->aY x v->aY y u->R x y H2->wpAny (model X.prog X.w) X.A (f v u) Q X.xe s2) :
  wpAny (model X.prog X.w) X.A (eval a X.env) (fun v s₁=>wpAny (model X.prog X.w) X.A (eval b X.env) (fun u s₂=>wpAny (model X.prog X.w) X.A (f v u) Q X.xe s₂) X.xe s₁) X.xe s:=by
 refine aN (ha pins s σ H _ I h) fun v s1 ⟨x,H1,I1,r1,q1⟩=>?_
 refine aN (hb pins s1 σ H1 _ I1 q1) fun u s2 ⟨y,H2,I2,r2,q2⟩=>?_
 exact hf v u s2 x y H2 I2 r1 r2 q2
theorem Bh{r:R2}(ho:cP X (binaryOp op) r)(ha:PE X a ta)(hb:PE X b tb):PE X (.BinOp a op b pos) (KL r ta tb):=by
 intro pins s σ H Q I h
 exact wpAny_BinOp (Ix ha hb I h fun v u s2 x y H2 I2 rx ry q=>ho pins s2 σ H2 x y v u Q I2 rx ry q)
theorem JB{op:UnaryOp}{r:V->Hp->VK->Prop}(ho:IO X (unaryOp op) r)(ha:PE X a ta):PE X (.UnaryOp op a pos) (Qk r ta):=by
 intro pins s σ H Q I h
 exact UnaryOp_ (aN (ha pins s σ H _ I h) fun v s1 ⟨x,H1,I1,r1,q1⟩=>ho pins s1 σ H1 x v Q I1 r1 q1)
theorem uu{C:Int->Int->Prop}
  (rule:∀(i j:Int) (t u:Tok) (s:Shared) (Q:Value->Shared->Prop) (E:Value->Shared->Prop),C i j->Q (.int (g i j) s.toks) { s with toks:=s.toks+1 }->wpAny (model X.prog X.w) X.A (f (.int i t) (.int j u)) Q E s) :
  cP X f (rI C fun i j=>.int (g i j)):=by
 intro pins s σ H x y v u Q I rx ry h
 obtain⟨i,j,rfl,rfl,hc,q⟩:=h
 obtain⟨t,rfl⟩:=rx
 obtain⟨t',rfl⟩:=ry
 exact rule i j t t' s _ _ hc ⟨.int (g i j),H,I.tok _,⟨_,rfl⟩,q⟩
theorem vF
  (rule:∀(i j:Int) (t u:Tok) (s:Shared) (Q:Value->Shared->Prop) (E:Value->Shared->Prop),Q (.int (g i j) s.toks) { s with toks:=s.toks+1 }->wpAny (model X.prog X.w) X.A (f (.int i t) (.int j u)) Q E s) :
  cP X f (jI fun i j=>.int (g i j)):=by
 intro pins s σ H x y v u Q I rx ry h
 obtain⟨i,j,rfl,rfl,q⟩:=h
 obtain⟨t,rfl⟩:=rx
 obtain⟨t',rfl⟩:=ry
 exact rule i j t t' s _ _ ⟨.int (g i j),H,I.tok _,⟨_,rfl⟩,q⟩
theorem vG{g:Int->Int->Bool}
  (rule:∀(i j:Int) (t u:Tok) (s:Shared) (Q:Value->Shared->Prop) (E:Value->Shared->Prop),Q (.bool (g i j)) s->wpAny (model X.prog X.w) X.A (f (.int i t) (.int j u)) Q E s) :
  cP X f (jI fun i j=>.bl (g i j)):=by
 intro pins s σ H x y v u Q I rx ry h
 obtain⟨i,j,rfl,rfl,q⟩:=h
 obtain⟨t,rfl⟩:=rx
 obtain⟨t',rfl⟩:=ry
 exact rule i j t t' s _ _ ⟨.bl (g i j),H,I,rfl,q⟩
def Qg(i j:Int):Prop:=0<=j/\j<=1000000/\i.natAbs<2 ^ 64
theorem F5:cP X (binaryOp .Add) (jI fun i j=>.int (i+j)):=vF fun _ _ _ _ _ _ _ q=>add_int q
theorem F2:cP X (binaryOp .Sub) (jI fun i j=>.int (i-j)):=vF fun _ _ _ _ _ _ _ q=>sub_int q
theorem Dh:cP X (binaryOp .Mod) (rI (fun _ j=>j≠0) fun i j=>.int (i.fmod j)):=uu fun _ _ _ _ _ _ _ hc q=>mod_int' hc q
theorem F3:cP X (binaryOp .Pow) (rI Qg fun i j=>.int (i ^ j.toNat)):=uu fun _ _ _ _ _ _ _ hc q=>pow_int_small hc.1 hc.2.1 hc.2.2 q
theorem DB:cP X (inplaceOp .Add) (jI fun i j=>.int (i+j)):=vF fun _ _ _ _ _ _ _ q=>iadd_int q
theorem DA:cP X (inplaceOp .Sub) (jI fun i j=>.int (i-j)):=vF fun _ _ _ _ _ _ _ q=>isub_int q
theorem Qi{f:Value->Sem Value}{g:Int->Int}
  (rule:∀(i:Int) (t:Tok) (s:Shared) (Q:Value->Shared->Prop) (E:Value->Shared->Prop),Q (.int (g i) s.toks) { s with toks:=s.toks+1 }->wpAny (model X.prog X.w) X.A (f (.int i t)) Q E s) :
  IO X f (rU fun i=>.int (g i)):=by
 intro pins s σ H x v Q I rx h
 obtain⟨i,rfl,q⟩:=h
 obtain⟨t,rfl⟩:=rx
 exact rule i t s _ _ ⟨.int (g i),H,I.tok _,⟨_,rfl⟩,q⟩
theorem EE:IO X (unaryOp .USub) (rU fun i=>.int (-i)):=Qi fun _ _ _ _ _ q=>neg_int q
end
section
variable{a b:Expr}{ta tb tc:TE}
theorem x9{Q:VK}{k k':Bool}(I:al X pins σ H s)(q:Q (.bl k) H)(e:k=k'):EP X pins σ Q (.bool k') s:=by
 subst e
 exact⟨.bl k,H,I,rfl,q⟩
theorem JD:cP X (compareOp .Lt) (jI fun i j=>.bl (decide (i<j))):=vG fun _ _ _ _ _ _ _ q=>lt_int q
theorem JE:cP X (compareOp .LtE) (jI fun i j=>.bl (decide (i<=j))):=vG fun _ _ _ _ _ _ _ q=>le_int q
theorem JF:cP X (compareOp .Gt) (jI fun i j=>.bl (decide (j<i))):=vG fun _ _ _ _ _ _ _ q=>gt_int q
theorem JG:cP X (compareOp .GtE) (jI fun i j=>.bl (decide (j<=i))):=vG fun _ _ _ _ _ _ _ q=>ge_int q
theorem F4:cP X (compareOp .Is) (fun x y H Q=>y=.non/\Q (.bl (decide (x=.non))) H):=by
 intro pins s σ H x y v u Q I rx ry h
 obtain⟨rfl,q⟩:=h
 cases ry
 refine is_none_gen (x9 I q ?_)
 cases x<;>first
  | (cases rx;rfl)
  | (obtain⟨t,rfl⟩:=rx;rfl)
theorem Df:cP X (compareOp .IsNot) (fun x y H Q=>y=.non/\Q (.bl (!decide (x=.non))) H):=by
 intro pins s σ H x y v u Q I rx ry h
 obtain⟨rfl,q⟩:=h
 cases ry
 refine isnot_none_gen (x9 I q ?_)
 cases x<;>first
  | (cases rx;rfl)
  | (obtain⟨t,rfl⟩:=rx;rfl)
def Je(t:TE):TT:=fun σ H Q=>t σ H fun x H' => ∃k,x=.bl k/\Q k H'
def wV(r r':R2)(ta tb tc:TE):TE:=fun σ H Q=>ta σ H fun x H1=>tb σ H1 fun y H2=>r x y H2 fun z H3 => ∃k,z=.bl k /\
 (if k=true then tc σ H3 fun w' H4=>r' y w' H4 Q else Q (.bl false) H3)
theorem zA{op:CmpOp}{r r':R2}(ho:cP X (compareOp op) r)(ho':cP X (compareOp op') r')(ha:PE X a ta)(hb:PE X b tb)(hc:PE X c tc)
  (hm:lastMarks [op,op'] [b,c]=false:=by with_unfolding_all rfl):PE X (.Compare a [op,op'] [b,c] pos) (wV r r' ta tb tc):=by
 intro pins s σ H Q I h
 refine Compare_chain (aN (ha pins s σ H _ I h) fun v s1 ⟨x,H1,I1,r1,q1⟩=>chain_link (aN (hb pins s1 σ H1 _ I1 q1) fun u s2 ⟨y,H2,I2,r2,q2⟩ =>
  aN (ho pins s2 σ H2 x y v u _ I2 r1 r2 q2) fun d s3 ⟨z,H3,I3,r3,k,e,q3⟩=>?_)) hm
 subst e
 cases r3
 refine Rx ?_
 cases k with
 | false=>exact ite_ff ⟨.bl false,H3,I3,rfl,q3⟩
 | true=>exact ite_tt (chain_last (aN (hc pins s3 σ H3 _ I3 q3) fun w' s4 ⟨z',H4,I4,r4,q4⟩=>ho' pins s4 σ H4 y z' u w' Q I4 r2 r4 q4))
theorem zr{op:CmpOp}{r r':R2}(ho:cP X (compareOp op) r)(ho':cP X (compareOp op') r')(ha:PE X a ta)(hb:PE X b tb)(hc:PE X c tc)
  (hm:lastMarks [op,op'] [b,c]=false:=by with_unfolding_all rfl):PT X (.Compare a [op,op'] [b,c] pos) (Je (wV r r' ta tb tc)):=by
 intro pins s σ H Q I h
 refine isTrue_chain (aN (ha pins s σ H _ I h) fun v s1 ⟨x,H1,I1,r1,q1⟩=>test_link (aN (hb pins s1 σ H1 _ I1 q1) fun u s2 ⟨y,H2,I2,r2,q2⟩ =>
  aN (ho pins s2 σ H2 x y v u _ I2 r1 r2 q2) fun d s3 ⟨z,H3,I3,r3,k,e,q3⟩=>?_)) hm
 subst e
 cases r3
 refine Rx ?_
 cases k with
 | false =>
  obtain⟨k',e',q'⟩:=q3
  cases e'
  exact ite_ff ⟨H3,I3,q'⟩
 | true =>
  refine ite_tt (test_last (aN (hc pins s3 σ H3 _ I3 q3) fun w' s4 ⟨z',H4,I4,r4,q4⟩=>aN (ho' pins s4 σ H4 y z' u w' _ I4 r2 r4 q4) fun d' s5 ⟨z2,H5,I5,r5,k2,e2,q5⟩=>?_))
  subst e2
  cases r5
  exact Rx ⟨H5,I5,q5⟩
theorem mT:(sizeLine:Nat)<2 ^ 63:=by rw[RV];decide
theorem vE:cP X (binaryOp .Add) (fun x y H Q => ∃i j,x=.str i/\y=.str j/\i.length+j.length<=sizeLine/\Q (.str (i++j)) H):=by
 intro pins s σ H x y v u Q I rx ry h
 obtain⟨i,j,rfl,rfl,hz,q⟩:=h
 obtain⟨t,rfl⟩:=rx
 obtain⟨t',rfl⟩:=ry
 exact add_str (fun t' tk=>⟨.str (i++j),H,I.tok _,⟨_,rfl⟩,q⟩) hz
theorem dR{x:V}(r:aL [x] us):∃u,us=[u]/\aY x u:=by
 cases r with
 | cons r1 r2=>cases r2;exact⟨_,rfl,r1⟩
theorem kM{x:V}(r:aL [x,y] us):∃u w',us=[u,w']/\aY x u/\aY y w':=by
 cases r with
 | cons r1 r2 =>
  cases r2 with
  | cons r3 r4=>cases r4;exact⟨_,_,rfl,r1,r3⟩
theorem An:dz X (.builtin "abs") (fun xs H Q => ∃i,xs=[.int i]/\Q (.int (if i<0 then -i else i)) H):=by
 intro pins s σ H xs us Q I r h
 obtain⟨i,rfl,q⟩:=h
 obtain⟨u,rfl,t,rfl⟩:=dR r
 exact call_abs_int fun u tk=>⟨.int (if i<0 then -i else i),H,I.tok _,⟨_,rfl⟩,q⟩
theorem pV:dz X (.type "int") (fun xs H Q=>(∃i,xs=[.int i]/\Q (.int i) H)\/∃k,xs=[.bl k]/\Q (.int (if k then 1 else 0)) H):=by
 intro pins s σ H xs us Q I r h
 rcases h with⟨i,rfl,q⟩|⟨k,rfl,q⟩
 ·obtain⟨u,rfl,t,rfl⟩:=dR r
  exact call_int_int ⟨.int i,H,I,⟨_,rfl⟩,q⟩
 ·obtain⟨u,rfl,r1⟩:=dR r
  cases r1
  exact call_int_bool ⟨.int (if k then 1 else 0),H,I.tok _,⟨_,rfl⟩,q⟩
end
structure ml(h:Heap)(x dx C:Addr)(mA:Str->Option Value):Prop where
 obj:h.get? x=some (W.instObj C dx)
 ns:h.Ns1 dx mA
 ne:dx≠x
theorem pE(n:h.Ns1 dx mA):∃od,h.get? dx=some od/\∀name,W.lookIn name od=some (mA name):=by
 obtain⟨o,es,ep,ho,hd,hk,_,hm⟩:=n
 refine⟨o,ho,fun name=>?_⟩
 have e:=hm name
 unfold nsFind findBy at e
 rw[<- Array.find?_toList]at e
 unfold W.lookIn
 rw[hd]
 dsimp only
 split
 ·rename_i y q
  rw[q]at e
  exact SC some e
 ·rename_i q
  rw[q]at e
  have a:es.toList.any (·.refKey)=false:=by
   rw[List.any_eq_false]
   intro y hy
   obtain⟨z,t,hkey⟩:=hk y (Array.mem_toList_iff.mp hy)
   simp[DictEntry.refKey,hkey]
  have a':¬ es.toList.any (·.refKey)=true:=by rw[a];exact QP
  rw[if_neg a']
  exact SC some e
theorem ml.look{x:Addr}(I:ml h x dx C mA):∃od,W.InstAt h x (W.instObj C dx) C (some od)/\∀name,W.lookIn name od=some (mA name) :=
 let ⟨od,ho,hl⟩:=pE I.ns
 ⟨od,⟨I.obj,rfl,rfl,ho⟩,hl⟩
section
variable{prog:Program}{x f:Addr}{name:Str}{v:Value}
theorem DJ{expr:Bool}(X:K.In s.heap)(I:ml s.heap x dx C mA)(hg:W.plainGet K C name=true)(hh:W.hasDictIn K C=true)
  (ha:W.findIn K (.ref C) name=some none) (hv:mA name=some v) (hv':W.handedIn v=true) (h:Q v { s with toks:=s.toks+1 }) :
  wpAny (model prog w) A (getAttr (.ref x) name expr) Q E s:=by
 obtain⟨od,J,hl⟩:=I.look
 exact W.get_value X J (W.plainGet_of hg).1 (W.findObj_own hh ha rfl (by rw[hl,hv])) hv' h
theorem zY{Q:Value×List Value->Shared->Prop}(X:K.In s.heap)(I:ml s.heap x dx C mA)(hg:W.plainGet K C name=true)
  (hf:W.findIn K (.ref C) name=some (some (.ref f))) (ht:W.isFn K (.ref f)=true) (hv:mA name=none) (h:Q (.ref f,[.ref x]) s) :
  wpAny (model prog w) A (getMethod (.ref x) name pl) Q E s:=by
 obtain⟨od,J,hl⟩:=I.look
 exact W.method_fn X J (W.plainGet_of hg).1 (W.plainGet_of hg).2 hf (Sq.mp ht) (by show(W.lookIn name od).map (·.isSome)=some false;rw[hl,hv];rfl) h
theorem CB{ns:List Str}{Q:Unit->Shared->Prop}(X:K.In s.heap)(I:ml s.heap x dx C mA)
  (hs:W.findIn K (.ref C) "__setattr__" = some (some (.builtin "object.__setattr__"))) (hp:W.plainOver K C=true) (ht:W.takerIn K C name=some none) (hh:W.hasDictIn K C=true)
  (hw:PySem.Within mA ns) (hsz:ns.length<=sizeLine)
  (h:∀h',ml h' x dx C (fun y=>if y=name then some v else mA y)->Heap.SameBut dx s.heap h'->Q () { s with heap:=h',toks:=s.toks+2 }) :
  wpAny (model prog w) A (setAttr (.ref x) name v) Q E s:=by
 obtain⟨od,J,hl⟩:=I.look
 refine W.set_plain X J hs (W.osa_open (s:={ s with toks:=s.toks+1 }) (r:=none) X J hp ht fun b=>?_)
 obtain⟨cd,hc,hd'⟩:=W.any_some hh
 have hx:s.heap.get? x=some ⟨.ref C,some dx,.plain,#[]⟩:=I.obj
 refine Qx (Qz (Qx (Qx (wpAny_loadPart hx (Qx (W.Looks.here (s:={ s with toks:=s.toks+1 }) (W.looks_clsIn X hc) ?_))))))
 rw[hd']
 refine Qz (a:=some dx) (Qx (Qz (Qx ?_)))
 refine wpAny_nsSet1 (s:={ s with toks:=s.toks+1 }) I.ns fun h' hn2 hs2=>?_
 obtain⟨oD,esD,epD,hoD,hdD,hcD⟩:=hn2.count (PySem.Within.cons name v hw)
 refine Qx (wpAny_lookBehind hoD (by rw[hdD];exact pastItsLine_dict (QD hcD (by rw[Ri];omega))) ?_)
 exact Qz (h _ ⟨(hs2.2 _ (RB I.ne)).trans I.obj,hn2,I.ne⟩ hs2)
theorem rV{R:Result->Shared->Prop}{vs:List Value}(X:K.In s.heap)(hm:W.makesIn K C=true)
  (hi:W.findIn K (.ref C) "__init__" = some (some (.ref f))) (hf:W.typeIn K (.ref f)=some (.type "function"))
  (h:codeAny (model prog w) (A.under (.builtin "type.__call__" ⟨.ref C::vs,kw⟩)) (.call (.ref f) ⟨.ref (s.heap.objs.size+1)::vs,kw⟩) (W.InitBack (s.heap.objs.size+1) R)
   { s with heap:=(s.heap.push W.emptyDict).push (W.instObj C s.heap.objs.size) }) :
  codeAny (model prog w) A (.call (.ref C) ⟨vs,kw⟩) R s:=by
 obtain⟨hh,g,d,t,os⟩:=s
 exact W.make_core (W.makes_of X hm) (W.looks_findIn X hi) (fun self=>W.bind_fn X self hf) (.inl rfl) h
end
def dA(f:Str)(v:V):List (Str×V)->List (Str×V)
 | []=>[(f,v)]
 | (g,x)::r=>if g=f then(g,v)::r else(g,x)::dA f v r
theorem lA(f g:Str)(v:V):∀fs:List (Str×V),(dA f v fs).lookup g=if g=f then some v else fs.lookup g
 | []=>by
  show List.lookup g [(f,v)]=_
  by_cases h:g=f
  ·have hb:(g==f)=true:=Sq.mpr h
   simp only[List.lookup,hb,if_pos h]
  ·have hb:(g==f)=false:=RI.mpr h
   simp only[List.lookup,hb,if_neg h]
 | (k,x)::r=>by
  have ih:=lA f g v r
  rw[show dA f v ((k,x)::r)=(if k=f then(k,v)::r else(k,x)::dA f v r)from rfl]
  by_cases hk:k=f
  ·rw[if_pos hk]
   by_cases h:g=k
   ·have hb:(g==k)=true:=Sq.mpr h
    simp only[List.lookup,hb,if_pos (h.trans hk)]
   ·have hb:(g==k)=false:=RI.mpr h
    simp only[List.lookup,hb,if_neg (fun e:g=f=>h (e.trans hk.symm))]
  ·rw[if_neg hk]
   by_cases h:g=k
   ·have hb:(g==k)=true:=Sq.mpr h
    simp only[List.lookup,hb,if_neg (fun e:g=f=>hk (h.symm.trans e))]
   ·have hb:(g==k)=false:=RI.mpr h
    simp only[List.lookup,hb]
    exact ih
theorem kl(f:Str)(v:V):∀fs:List (Str×V),f∈(dA f v fs).map (·.1)/\∀g,g∈fs.map (·.1)->g∈(dA f v fs).map (·.1)
 | []=>⟨by simp[dA],fun g h=>by simp at h⟩
 | (k,x)::r=>by
  obtain⟨i1,i2⟩:=kl f v r
  rw[show dA f v ((k,x)::r)=(if k=f then(k,v)::r else(k,x)::dA f v r)from rfl]
  by_cases hk:k=f
  ·rw[if_pos hk]
   subst hk
   exact⟨by simp,fun g h=>by simpa using h⟩
  ·rw[if_neg hk]
   refine⟨?_,fun g h=>?_⟩
   ·rw[Q8]
    exact QB _ i1
   ·rw[Q8]at h⊢
    rcases QA.mp h with e|e
    ·exact QA.mpr (.inl e)
    ·exact QB _ (i2 g e)
theorem gj(f:Str)(v:V):∀fs:List (Str×V),(dA f v fs).length<=fs.length+1
 | []=>by simp[dA]
 | (k,x)::r=>by
  have ih:=gj f v r
  rw[show dA f v ((k,x)::r)=(if k=f then(k,v)::r else(k,x)::dA f v r)from rfl]
  by_cases hk:k=f
  ·rw[if_pos hk,Ri,Ri];omega
  ·rw[if_neg hk,Ri,Ri];omega
theorem fR.some_of{o:Option Value}(r:fR (some v) o):∃u,o=some u/\aY v u:=by
 cases o with
 | none=>exact(show False from r).elim
 | some u=>exact⟨u,rfl,r⟩
theorem fR.none_of{o:Option Value}(r:fR none o):o=none:=by
 cases o with
 | none=>rfl
 | some u=>exact(show False from r).elim
theorem pK(r:aY v u):W.handedIn u=true:=by
 cases v with
 | non=>cases (show u=Value.none from r);rfl
 | bl b=>cases (show u=Value.bool b from r);rfl
 | int i=>obtain⟨t,e⟩:=(show ∃t,u=Value.int i t from r);cases e;rfl
 | str x=>obtain⟨t,e⟩:=(show ∃t,u=Value.str x t from r);cases e;rfl
 | byt b=>obtain⟨t,e⟩:=(show ∃t,u=Value.bytes b t from r);cases e;rfl
 | flt b=>obtain⟨t,e⟩:=(show ∃t,u=Value.float b t from r);cases e;rfl
 | ref a=>cases (show u=Value.ref a from r);rfl
 | ty n=>cases (show u=Value.type n from r);rfl
section
variable{H':Hp}{h':Heap}{fs fs':List (Str×V)}
theorem kY(hok:cD P w H h)(e:H a=some (.ins C dx fs)):∃mA,ml h a dx C mA/\(∀f,fR (fs.lookup f) (mA f))/\PySem.Within mA (fs.map (·.1))/\fs.length<=1000/\H dx=some (.own a):=by
 obtain⟨d,z,ne,ob,mA,n,r,q⟩:=(show bG P w H h a (.ins C dx fs)from hok a _ e)
 exact⟨mA,⟨ob,n,ne⟩,r,q,z,d⟩
end
structure eJ(K:W.Frag)(C:Addr):Prop where
 pg:W.plainGet K C Str.empty=true
 hd:W.hasDictIn K C=true
 po:W.plainOver K C=true
 sa:W.findIn K (.ref C) "__setattr__" = some (some (.builtin "object.__setattr__"))
theorem eJ.get(c:eJ K C)(f:Str):W.plainGet K C f=true:=c.pg
def dF(K:W.Frag)(C:Addr)(f:Str):Prop:=W.findIn K (.ref C) f=some none
theorem dF.taker{f:Str}(n:dF K C f):W.takerIn K C f=some none:=by
 unfold W.takerIn
 rw[show W.findIn K (.ref C) f=some none from n]
 rfl
structure tG(K:W.Frag)(C:Addr)(m:Str)(f:Addr):Prop where
 at_:W.findIn K (.ref C) m=some (some (.ref f))
 fn:W.isFn K (.ref f)=true
 kp:W.keepIn K (.ref f)=true
section
variable{fs:List (Str×V)}{f:Str}
theorem vR{b:Bool}(I:al X pins σ H s)(e:H a=some (.ins C dx fs))(c:eJ X.K C)(n:dF X.K C f)(l:fs.lookup f=some v)
  (h:∀u s',al X pins σ H s'->aY v u->Q u s'):wpAny (model X.prog X.w) A (getAttr (.ref a) f b) Q E s:=by
 obtain⟨mA,O,r,_,_,_⟩:=kY I.hok e
 obtain⟨u,hu,ru⟩:=fR.some_of (v:=v) (o:=mA f) (by rw[<- l];exact r f)
 exact DJ I.kIn O (c.get f) c.hd n hu (pK ru) (h u _ (I.tok _) ru)
theorem mX{m:Str}{g:Addr}{Q:Value×List Value->Shared->Prop}(I:al X pins σ H s)(e:H a=some (.ins C dx fs))(c:eJ X.K C)(k:tG X.K C m g)(l:fs.lookup m=none)
  (h:Q (.ref g,[.ref a]) s):wpAny (model X.prog X.w) A (getMethod (.ref a) m pl) Q E s:=by
 obtain⟨mA,O,r,_,_,_⟩:=kY I.hok e
 have hn:mA m=none:=fR.none_of (by rw[<- l];exact r m)
 exact zY I.kIn O (c.get m) k.at_ k.fn hn h
theorem vm{Q:Unit->Shared->Prop}(I:al X pins σ H s)(e:H a=some (.ins C dx fs))(c:eJ X.K C)(n:dF X.K C f)(hl:fs.length<1000)(ry:aY y u)
  (h:∀s',al X pins σ (aG H a (.ins C dx (dA f y fs))) s'->Q () s'):wpAny (model X.prog X.w) A (setAttr (.ref a) f u) Q E s:=by
 obtain⟨mA,O,r,wi,_,ho⟩:=kY I.hok e
 have hz:(fs.map (·.1)).length<=sizeLine:=by rw[Q0,RV];omega
 refine CB I.kIn O c.sa c.po n.taker c.hd wi hz fun h' O' sb=>h _ ?_
 have hd:∃o,h'.get? dx=some o:=let ⟨o,_,_,e',_⟩:=O'.ns;⟨o,e'⟩
 refine I.write (x:=a) (e:=dx) (by rw[e];exact True.intro) (.inr ho) (fun b q hb z=>(sb.2 b hb).trans z) hd ?_
 refine⟨by rw[ax O.ne];exact ho,?_,O.ne,O'.obj,_,O'.ns,fun g=>?_,fun g hg=>?_⟩
 ·have:=gj f y fs;omega
 ·show fR ((dA f y fs).lookup g) (if g=f then some u else mA g)
  rw[lA]
  by_cases q:g=f
  ·rw[if_pos q,if_pos q];exact ry
  ·rw[if_neg q,if_neg q];exact r g
 ·by_cases q:g=f
  ·rw[q];exact(kl f y fs).1
  ·refine(kl f y fs).2 g (wi g fun z=>hg ?_)
   show(if g=f then some u else mA g)=none
   rw[if_neg q];exact z
theorem al.made(I:al X pins σ H s):al X pins σ (aG (aG H s.heap.objs.size (.own (s.heap.objs.size+1))) (s.heap.objs.size+1) (.ins C s.heap.objs.size []))
  { s with heap:=(s.heap.push W.emptyDict).push (W.instObj C s.heap.objs.size) }:=by
 have e1:(s.heap.push W.emptyDict).get? s.heap.objs.size=some W.emptyDict:=QH s.heap rfl
 have e2:((s.heap.push W.emptyDict).push (W.instObj C s.heap.objs.size)).get? (s.heap.objs.size+1)=some (W.instObj C s.heap.objs.size):=by
  have:=QH (s.heap.push W.emptyDict) (o:=W.instObj C s.heap.objs.size) rfl
  rwa [Rg]at this
 have e3:(s.heap.push W.emptyDict).Ns s.heap.objs.size (fun _=>none):=⟨W.emptyDict,#[],_,e1,rfl,(fun e he=>absurd he (by simp)),fun _=>rfl⟩
 have I1:=I.laid (a:=s.heap.objs.size) (o:=.own (s.heap.objs.size+1)) (h':=s.heap.push W.emptyDict) (t':=s.toks) (fun b u q=>Qy _ q) (QF _) ⟨_,e1⟩
 refine I1.laid (a:=s.heap.objs.size+1) (o:=.ins C s.heap.objs.size []) (t':=s.toks) (fun b u q=>Qy _ q) (Nat.le_of_eq (Rg _ _)) ?_
 have ne:s.heap.objs.size≠s.heap.objs.size+1:=QT (Q5 _)
 refine⟨by rw[ax ne,aD],QZ _,ne,e2,fun _=>none,(Heap.Ns1.of_empty e3).at fun o q=>Qy _ q,fun _=>True.intro,fun y hy=>absurd rfl hy⟩
theorem uV{prog:Program}{env:Env}{f:Str}(hb:attributeBase e f env (eval e env)=eval e env)
  (h:wpAny (model prog w) A (eval e env) (fun o s₁=>wpAny (model prog w) A (getAttr o f true) Q E s₁) E s):wpAny (model prog w) A (eval (.Attribute e f pos) env) Q E s :=
 Attribute_any_ h (by rw[arm_eval_Attribute,hb])
end
def La(K:W.Frag)(ta:TE)(f:Str):TE:=fun σ H Q=>ta σ H fun x H1 => ∃a C dx fs v,x=.ref a/\H1 a=some (.ins C dx fs)/\eJ K C/\dF K C f/\fs.lookup f=some v/\Q v H1
def L6(K:W.Frag)(ta tv:TE)(f:Str):TS:=fun D σ H=>tv σ H fun y H1=>ta σ H1 fun x H2 => ∃a C dx fs,x=.ref a/\H2 a=some (.ins C dx fs)/\eJ K C/\dF K C f/\fs.length<1000 /\
 D.nx σ (aG H2 a (.ins C dx (dA f y fs)))
section
variable{o value:Expr}{f:Str}{tpos:Pos}{ta tv:TE}
theorem FW(he:PE X e ta)(hb:attributeBase e f X.env (eval e X.env)=eval e X.env):PE X (.Attribute e f pos) (La X.K ta f):=by
 intro pins s σ H Q I h
 refine uV hb (aN (he pins s σ H _ I h) fun u s1 ⟨x,H1,I1,rx,a,C,dx,fs,v,ex,ea,c,n,l,q⟩=>?_)
 subst ex
 obtain rfl:u=Value.ref a:=rx
 exact vR I1 ea c n l fun u' s2 I2 ru=>⟨v,H1,I2,ru,q⟩
theorem rF(ha:PE X o ta)(hv:PE X value tv)(hs:swapsWith value (some (.Attribute o f pos')) pos.line X.env=pure false):PS X (.Assign [.Attribute o f pos'] value pos) (L6 X.K ta tv f):=by
 intro pins s σ H D I h
 refine plainObj_wpAny_Assign_Attribute (aN (hv pins s σ H _ I h) fun u s1 ⟨y,H1,I1,ry,q⟩=>aN (ha pins s1 σ H1 _ I1 q) fun ov s2 ⟨x,H2,I2,rx,a,C,dx,fs,ex,ea,c,n,l,q2⟩=>?_) hs
 subst ex
 obtain rfl:ov=Value.ref a:=rx
 exact vm I2 ea c n l ry fun s3 I3=>⟨σ,_,I3,q2⟩
end
section
variable{c:Value}{b:Bool}
inductive gM(K:W.Frag)(H:Hp):V->Value->Prop where
  | non:gM K H .non (.type "NoneType")
  | bl (x:Bool):gM K H (.bl x) (.type "bool")
  | int (i:Int):gM K H (.int i) (.type "int")
  | str (x:Str):gM K H (.str x) (.type "str")
  | flt (x:UInt64):gM K H (.flt x) (.type "float")
  | lst {a:Addr} {xs:List V} (e:H a=some (.lst xs)):gM K H (.ref a) (.type "list")
  | frz {a:Addr} {o:Obj} {xs:List V} (e:H a=some (.frz o (.lst xs))):gM K H (.ref a) (.type "list")
  | tup {a:Addr} {xs:List V} (e:H a=some (.tup xs)):gM K H (.ref a) (.type "tuple")
  | dK {a:Addr} {kvs:List (dG×V)} (e:H a=some (.dK kvs)):gM K H (.ref a) (.type "dict")
  | dT {a:Addr} {kvs:List (List dG×V)} (e:H a=some (.dT kvs)):gM K H (.ref a) (.type "dict")
  | ins {a C dx:Addr} {fs:List (Str×V)} (e:H a=some (.ins C dx fs)) (cl:eJ K C) (ha:W.findIn K (.ref C) "__class__" = some (some (.builtin "object.__class__")))
      (hn:W.specialIn K (.builtin "object.__class__") "__get__" = some (some (.builtin "getset_descriptor.__get__"))) (htk:W.takesIn K (.builtin "object.__class__")=some true)
      (hm:W.mroIn K C (.type "object")=some true):gM K H (.ref a) (.ref C)
theorem pG{x:V}{t:Value}(I:al X pins σ H s)(rx:aY x u)(ty:gM X.K H x t)(e:W.kitOne X.K t c=some b)(h:∀tk,Q (.bool b) { s with toks:=tk }) :
  wpAny (model X.prog X.w) A (call (.builtin "isinstance") [u,c]) Q E s:=by
 cases ty with
 | non=>cases (show u=Value.none from rx);exact Rv W.kitx_none I.kIn True.intro e (fun z=>nomatch z) h
 | bl y=>cases (show u=Value.bool y from rx);exact Rv W.kitx_bool I.kIn True.intro e (fun z=>nomatch z) h
 | int i=>obtain⟨t,q⟩:=(show ∃t,u=Value.int i t from rx);cases q;exact Rv W.kitx_int I.kIn True.intro e (fun z=>nomatch z) h
 | str y=>obtain⟨t,q⟩:=(show ∃t,u=Value.str y t from rx);cases q;exact Rv W.kitx_str I.kIn True.intro e (fun z=>nomatch z) h
 | flt y=>obtain⟨t,q⟩:=(show ∃t,u=Value.float y t from rx);cases q;exact Rv W.kitx_float I.kIn True.intro e (fun z=>nomatch z) h
 | @lst a xs ea =>
  cases (show u=Value.ref a from rx)
  obtain⟨_,_,n,_,h1⟩:=(show bG X.prog X.w H s.heap a (.lst xs)from I.hok a _ ea)
  exact Rv W.kitx_list I.kIn ⟨_,h1,rfl⟩ e (fun z=>nomatch z) h
 | @frz a ob xs ea =>
  cases (show u=Value.ref a from rx)
  obtain⟨_,_,_,n,_,h1⟩:=(show bG X.prog X.w H s.heap a (.frz ob (.lst xs))from I.hok a _ ea)
  exact Rv W.kitx_list I.kIn ⟨_,h1,rfl⟩ e (fun z=>nomatch z) h
 | @tup a xs ea =>
  cases (show u=Value.ref a from rx)
  obtain⟨_,_,_,p⟩:=(show bG X.prog X.w H s.heap a (.tup xs)from I.hok a _ ea)
  obtain⟨o,h1,h2,_⟩:=p
  exact Rv W.kitx_tuple I.kIn ⟨o,h1,h2⟩ e (fun z=>nomatch z) h
 | @dK a kvs ea =>
  cases (show u=Value.ref a from rx)
  obtain⟨_,_,vs,_,p⟩:=(show bG X.prog X.w H s.heap a (.dK kvs)from I.hok a _ ea)
  obtain⟨o,es,ep,h1,h2,_⟩:=p
  exact Rv W.kitx_dict I.kIn ⟨o,h1,h2.1⟩ e (fun z=>nomatch z) h
 | @dT a kvs ea =>
  cases (show u=Value.ref a from rx)
  obtain⟨_,_,xs,_,o,es,ep,h1,h2,_⟩:=(show bG X.prog X.w H s.heap a (.dT kvs)from I.hok a _ ea)
  exact Rv W.kitx_dict I.kIn ⟨o,h1,h2.1⟩ e (fun z=>nomatch z) h
 | @ins a C dx fs ea cl ha hn htk hm =>
  cases (show u=Value.ref a from rx)
  obtain⟨mA,O,_⟩:=kY I.hok ea
  obtain⟨od,J,_⟩:=O.look
  exact Rv (W.kitx_own (cl.get _) cl.hd ha hn htk hm) I.kIn J e (fun z=>nomatch z) h
end
structure bC(k:Nat)(A:Around):Prop where
 hd:A.handled=none
 dp:A.depth+3*k+5<recursionLimit
 un:A.units+16*k+200<cLine
 gd:A.guards=some []
theorem bC.mono(r:bC k A)(h:j<=k):bC j A:=⟨r.hd,by have:=r.dp;omega,by have:=r.un;omega,r.gd⟩
theorem bC.deeper(r:bC (k+1) A)(env:Env):bC k (A.deeper env) :=
 ⟨r.hd,by have:=r.dp;show A.depth+1+3*k+5<_;omega,by have:=r.un;show A.units+3+16*k+200<_;omega,r.gd⟩
theorem bC.in1(r:bC (k+1) A):bC k A.in1 :=
 ⟨r.hd,by have:=r.dp;show A.depth+3*k+5<_;omega,by have:=r.un;show A.units+1+16*k+200<_;omega,r.gd⟩
theorem vK:(A.under (.builtin "type.__call__" ⟨.ref C::us,kw⟩)).depth=A.depth+1:=by
 first|rfl|simp[Around.under,Code.weight,Code.isCreation,Code.isGuard,Code.isCaller,Code.frames,Code.isFrame,guardIds]
theorem vJ:(A.under (.builtin "type.__call__" ⟨.ref C::us,kw⟩)).units=A.units+1:=by
 first|rfl|simp[Around.under,Code.cUnits,Code.frames,Code.isFrame]
theorem tQ(h:A.guards=some []):(A.under (.builtin "type.__call__" ⟨.ref C::us,kw⟩)).guards=some []:=by
 first|exact h|(simp[Around.under,Code.guards,Code.isGuard,Code.isCaller,Code.isFrame,guardIds,pushGuards,h];done)|(show pushGuards _ A.guards=_;rw[h];rfl)
theorem bC.make(r:bC (k+1) A)(C:Addr)(us:List Value)(kw:List (Str×Value)):bC k (A.under (.builtin "type.__call__" ⟨.ref C::us,kw⟩)) :=
 ⟨r.hd,by have:=r.dp;rw[vK];omega,by have:=r.un;rw[vJ];omega,tQ r.gd⟩
theorem bC.depth(r:bC k A):A.depth<recursionLimit:=by have:=r.dp;omega
theorem bC.units(r:bC k A):A.units+64<cLine:=by have:=r.un;omega
theorem bC.units0(r:bC k A):A.units<cLine:=by have:=r.un;omega
def vd:TA:=fun _ H Q=>Q [] H
def Jk(ta:TE)(tr:TA):TA:=fun σ H Q=>ta σ H fun x H1=>tr σ H1 fun xs H2=>Q (x::xs) H2
section
variable{t:TA}
theorem ke:PA X [] vd:=fun _ _ _ _ H Q I h=>Calls.spliced_nil ⟨[],H,I,.nil,h⟩
theorem dC(ha:PE X e te)(hr:PA X es t)(hs:starEach (e::es) X.env=(false,eval e X.env)::starEach es X.env:=by rfl):PA X (e::es) (Jk te t):=by
 intro pos pins s σ H Q I h
 rw[hs]
 show wpAny _ _ (spliced ((false,eval e X.env)::backTo pos (starEach es X.env))) _ _ s
 refine Calls.spliced_cons (aN (ha pins s σ H _ I h) fun u s1 ⟨x,H1,I1,r1,q1⟩=>?_)
 exact aN (hr pos pins s1 σ H1 _ I1 q1) fun us s2 ⟨xs,H2,I2,r2,q2⟩=>⟨x::xs,H2,I2,.cons r1 r2,q2⟩
def K1(t:TA):TE:=fun σ H Q=>t σ H fun xs H1=>xs.length<=sizeLine/\∀p,H1 p=none->Q (.ref p) (aG H1 p (.tup xs))
def K7(t:TA):TE:=fun σ H Q=>t σ H fun xs H1=>xs.length<=sizeLine/\∀p,H1 p=none->Q (.ref p) (aG H1 p (.lst xs))
theorem xy{x1}(h:PA X es t):PE X (.Tuple es x1 pos) (K1 t):=by
 intro pins s σ H Q I hq
 refine wpAny_Tuple_spliced (aN (h pos pins s σ H _ I hq) fun us s1 ⟨xs,H1,I1,r,z,q⟩=>⟨by rw[<- r.length];exact z,?_⟩)
 have hf:H1 s1.heap.objs.size=none:=I1.hok.fresh (QF _)
 refine⟨.ref s1.heap.objs.size,aG H1 s1.heap.objs.size (.tup xs),I1.laid (t':=s1.toks) (fun b u e=>Qy _ e) (QF _) ?_,rfl,q _ hf⟩
 exact⟨z,us,r,⟨_,QH _ rfl,rfl,_,rfl⟩⟩
theorem FR(h:PA X es t):PE X (.List es pos) (K7 t):=by
 intro pins s σ H Q I hq
 refine wpAny_List_spliced (aN (h pos pins s σ H _ I hq) fun us s1 ⟨xs,H1,I1,r,z,q⟩=>⟨by rw[<- r.length];exact z,?_⟩)
 have hf:H1 s1.heap.objs.size=none:=I1.hok.fresh (QF _)
 refine⟨.ref s1.heap.objs.size,aG H1 s1.heap.objs.size (.lst xs),I1.laid (t':=s1.toks) (fun b u e=>Qy _ e) (QF _) ?_,rfl,q _ hf⟩
 exact⟨z,us,0,r,QH _ rfl⟩
end
abbrev Sp:=List V->Hp->VK->XK->Prop
abbrev iE:=List Env->Hp->Shared->XK->Value->Shared->Prop
structure i7(P:Program)(w:World)(K:W.Frag)(mg:Str->Option Value)(base:Heap)(A:Around)(outer:List Env)(s:Shared)(H:Hp):Prop where
 frames:A.frames=some outer
 mod:Mod K mg base
 bs:∀b o,base.get? b=some o->s.heap.get? b=some o/\H b=none
 bsz:base.objs.size<=s.heap.objs.size
 funs:s.heap.FunFrames base outer
 frf:∀b∈cw outer,H b=none
 hok:cD P w H s.heap
 bare:AllBare s.gens
def CE(outer:List Env)(P:Program)(w:World)(H:Hp)(s:Shared)(Q:VK)(u:Value)(s':Shared):Prop :=
 ∃v H',s'.os=s.os/\AllBare s'.gens/\Un (cw outer) [] H H' s.heap s'.heap/\cD P w H' s'.heap/\aY v u/\Q v H'
def CR(CX:iE)(outer:List Env)(P:Program)(w:World)(H:Hp)(s:Shared)(Q:VK)(E:XK)(r:Result)(s':Shared):Prop :=
 match r with
 | .ok (.ret u)=>CE outer P w H s Q u s'
 | .ok _=>False
 | .error e=>CX outer H s E e s'
structure br(P:Program)(w:World)(K:W.Frag)(mg:Str->Option Value)(base:Heap)(CX:iE)(k:Nat)(f:Addr)(fd:FuncData)(ps:List Str)(sp:Sp):Prop where
 len:∀vs H Q E,sp vs H Q E->vs.length=ps.length
 run:∀(A:Around) (outer:List Env) (s:Shared) (H:Hp) (args:Args) (us:List Value) (vs:List V) (Q:VK) (E:XK),bC k A->i7 P w K mg base A outer s H->BindsTo s fd args (ps.zip us)->aL vs us->sp vs H Q E ->
  codeAny (model P w) A (.call (.ref f) args) (CR CX outer P w H s Q E) s
theorem br.mono{CX:iE}{f:Addr}{sp:Sp}(F:br P w K mg base CX j f fd ps sp)(h:j<=k) :
  br P w K mg base CX k f fd ps sp:=⟨F.len,fun A outer s H args us vs Q E hr=>F.run A outer s H args us vs Q E (hr.mono h)⟩
theorem i7.make(e:i7 P w K mg base A outer s H)(C:Addr)(us:List Value)(kw:List (Str×Value)) :
  i7 P w K mg base (A.under (.builtin "type.__call__" ⟨.ref C::us,kw⟩)) outer s H:=⟨by first|exact e.frames|(simpa [Around.under,Code.envs,Code.isFrame,pushEnvs]using e.frames),e.mod,e.bs,e.bsz,e.funs,e.frf,e.hok,e.bare⟩
theorem i7.in1(e:i7 P w K mg base A outer s H) :
  i7 P w K mg base A.in1 outer s H:=⟨e.frames,e.mod,e.bs,e.bsz,e.funs,e.frf,e.hok,e.bare⟩
section
theorem al.env0(I:al X pins σ H s):i7 X.prog X.w X.K X.mg X.base X.A X.stack s H :=
 ⟨I.ok.frames,I.ok.mod,I.bs,QD I.ok.bsz I.sz,I.stack,I.stkFree,I.hok,I.bare⟩
theorem al.after{Q:VK}(I:al X pins σ H s)(h:CE X.stack X.prog X.w H s Q u s'):EP X pins σ Q u s':=by
 obtain⟨v,H',os,bare,un,hok,r,q⟩:=h
 obtain⟨hh,g,d,t,os'⟩:=s'
 obtain rfl:os'=s.os:=os
 exact⟨v,H',I.call (h':=hh) (g':=g) (d':=d) (t':=t) (ch:=[]) un hok bare (fun b z=>absurd z (by simp)),r,q⟩
end
def ve(sp:Sp)(dvs:List V)(E:XK)(t:TA):TE:=fun σ H Q=>t σ H fun vs H1=>sp (vs++dvs) H1 Q E
def A7(C:Addr)(m:Str)(sp:Sp)(dvs:List V)(E:XK)(ta:TE)(t:TA):TE:=fun σ H Q=>ta σ H fun x H1 => ∃a dx fs,x=.ref a/\H1 a=some (.ins C dx fs)/\fs.lookup m=none /\
 t σ H1 fun vs H2=>sp (x::(vs++dvs)) H2 Q E
def A8(C:Addr)(sp:Sp)(dvs:List V)(E:XK)(t:TA):TE:=fun σ H Q=>t σ H fun vs H1 => ∀x dx,H1 x=none->H1 dx=none->dx≠x ->
 sp (.ref x::(vs++dvs)) (aG (aG H1 dx (.own x)) x (.ins C dx [])) (fun v H2=>v=.non/\Q (.ref x) H2) E
def bH(K:W.Frag)(fd:FuncData)(ps:List Str)(ds:List Value):Prop :=
 ∀(s:Shared) (us:List Value),K.In s.heap->(us++ds).length=ps.length->BindsTo s fd ⟨us,[]⟩ (ps.zip (us++ds))
theorem bH.all(h:∀us:List Value,us.length=ps.length->bindArgs fd ⟨us,[]⟩=pure (ps.zip us)):bH K fd ps []:=fun s us _ hl=>by
 rw[Rl]at hl⊢
 exact .of_eq (h us hl)
def fi(CX:iE)(X:Cx)(E:XK):Prop:=∀(pins:List (Addr×Obj)) (σ:St) (H:Hp) (s:Shared) (e:Value) (s':Shared),al X pins σ H s->CX X.stack H s E e s'->X.xe e s'
section
variable{CX:iE}{f:Addr}{sp:Sp}{dvs:List V}{ds:List Value}{E:XK}{m:Str}{apos:Pos}{o:Expr}{ta:TE}{t:TA}
theorem jZ{Q:VK}(F:br X.prog X.w X.K X.mg X.base CX k f fd ps sp)(hr:bC k X.A)(hb:bH X.K fd ps ds)(hd:aL dvs ds)(hx:fi CX X E)
  (I:al X pins σ H s) (r:aL vs us) (h:sp (vs++dvs) H Q E):wpAny (model X.prog X.w) X.A (call (.ref f) us) (EP X pins σ Q) X.xe s:=by
 have r2:aL (vs++dvs) (us++ds):=r.append hd
 have hl:(us++ds).length=ps.length:=by rw[<- r2.length];exact F.len _ _ _ _ h
 refine Sd (Sm (F.run X.A X.stack s H ⟨us,[]⟩ (us++ds) (vs++dvs) Q E hr I.env0 (hb s us I.kIn hl) r2 h) fun r s' hq=>?_)
 cases r with
 | error e=>exact hx pins σ H s e s' I hq
 | ok fl =>
  cases fl with
  | ret u=>exact I.after hq
  | next=>exact False.elim hq
  | brk=>exact False.elim hq
  | cont=>exact False.elim hq
theorem um(F:br X.prog X.w X.K X.mg X.base CX k f fd ps sp)(hr:bC k X.A)(hg:Gl X x)(hm:X.mg x=some (.ref f))(hk:W.keepIn X.K (.ref f)=true)(hb:bH X.K fd ps ds)(hd:aL dvs ds)(hx:fi CX X E)
  (ha:PA X (e::es) t) (hdb:(x==("__debug__" : Str))=false:=by decide) (he:starEach (e::es) X.env=(false,eval e X.env)::starEach es X.env:=by rfl) (hpl:(backTo pos (starEach es X.env)).any (·.1)=false:=by rfl) :
  PE X (.Call (.Name x p) (e::es) [] pos) (ve sp dvs E t):=by
 intro pins s σ H Q I h
 refine Rb (cH I hg hm ?_ hdb)
 refine Se (h₀:=X.base) I.ok.mod.kin hk (aN (ha pos pins s σ H _ I h) fun us s1 ⟨vs,H1,I1,r,q⟩=>⟨I1.kIn,?_⟩) he hpl
 exact jZ F hr hb hd hx I1 r q
theorem zC(F:br X.prog X.w X.K X.mg X.base CX k f fd ps sp)(hr:bC k X.A)(hg:Gl X x)(hm:X.mg x=some (.ref f))(hk:W.keepIn X.K (.ref f)=true)(hb:bH X.K fd ps ds)(hd:aL dvs ds)(hx:fi CX X E)
  (hdb:(x==("__debug__" : Str))=false:=by decide):PE X (.Call (.Name x p) [] [] pos) (ve sp dvs E vd):=by
 intro pins s σ H Q I h
 refine Rb (cH I hg hm ?_ hdb)
 exact W.callWith_K0 I.kIn hk (jZ (us:=[]) F hr hb hd hx I .nil h)
theorem C9(he:PE X o ta)(c:eJ X.K C)(hm:tG X.K C m f)(F:br X.prog X.w X.K X.mg X.base CX k f fd ps sp)(hr:bC k X.A)(hb:bH X.K fd ps ds)(hd:aL dvs ds)(hx:fi CX X E)(ha:PA X (e::es) t)
  (hst:starEach (e::es) X.env=(false,eval e X.env)::starEach es X.env:=by rfl) (hpl:(backTo pos (starEach es X.env)).any (·.1)=false:=by rfl)
  (ht:eval (.Call (.Attribute o m apos) (e::es) [] pos) X.env=(do
   let ov <- eval o X.env
   standAt apos.atName
   let (f,first) <- holding [ov] (getMethod ov m pl)
   callWith pos f first (backTo pos (starEach (e::es) X.env)) (backToKw pos (keywordEach [] X.env))):=by rfl) :
  PE X (.Call (.Attribute o m apos) (e::es) [] pos) (A7 C m sp dvs E ta t):=by
 intro pins s σ H Q I h
 refine W.methodCall_KW (pl:=pl) (aN (he pins s σ H _ I h) fun u s1 ⟨x,H1,I1,rx,a,dx,fs,ex,ea,l,q⟩=>?_) ht
 subst ex
 obtain rfl:u=Value.ref a:=rx
 refine mX I1 ea c hm l ?_
 refine Se (first:=[.ref a]) (h₀:=X.base) I.ok.mod.kin hm.kp (aN (ha pos pins s1 σ H1 _ I1 q) fun us s2 ⟨vs,H2,I2,r,q2⟩=>⟨I2.kIn,?_⟩) hst hpl
 exact jZ (us:=.ref a::us) (vs:=.ref a::vs) F hr hb hd hx I2 (.cons rfl r) q2
theorem zx(he:PE X o ta)(c:eJ X.K C)(hm:tG X.K C m f)(F:br X.prog X.w X.K X.mg X.base CX k f fd ps sp)(hr:bC k X.A)(hb:bH X.K fd ps ds)(hd:aL dvs ds)(hx:fi CX X E)
  (ht:eval (.Call (.Attribute o m apos) [] [] pos) X.env=(do
   let ov <- eval o X.env
   standAt apos.atName
   let (f,first) <- holding [ov] (getMethod ov m pl)
   callWith pos f first (backTo pos (starEach [] X.env)) (backToKw pos (keywordEach [] X.env))):=by rfl) :
  PE X (.Call (.Attribute o m apos) [] [] pos) (A7 C m sp dvs E ta vd):=by
 intro pins s σ H Q I h
 refine W.methodCall_KW (pl:=pl) (aN (he pins s σ H _ I h) fun u s1 ⟨x,H1,I1,rx,a,dx,fs,ex,ea,l,q⟩=>?_) ht
 subst ex
 obtain rfl:u=Value.ref a:=rx
 refine mX I1 ea c hm l ?_
 exact W.callWith_K0 (first:=[.ref a]) I1.kIn hm.kp (jZ (us:=[.ref a]) (vs:=[.ref a]) F hr hb hd hx I1 (.cons rfl .nil) q)
structure Mk(K:W.Frag)(C f:Addr):Prop where
 makes:W.makesIn K C=true
 init:W.findIn K (.ref C) "__init__" = some (some (.ref f))
 fn:W.isFn K (.ref f)=true
 kp:W.keepIn K (.ref C)=true
theorem rn{Q:VK}(M:Mk X.K C f)(F:br X.prog X.w X.K X.mg X.base CX k f fd ps sp)(hr:bC (k+1) X.A)(hb:bH X.K fd ps ds)(hd:aL dvs ds)
  (hx:fi CX X E) (I:al X pins σ H s) (r:aL vs us)
  (h:∀x dx,H x=none->H dx=none->dx≠x->sp (.ref x::(vs++dvs)) (aG (aG H dx (.own x)) x (.ins C dx [])) (fun v H2=>v=.non/\Q (.ref x) H2) E) :
  wpAny (model X.prog X.w) X.A (call (.ref C) us) (EP X pins σ Q) X.xe s:=by
 have hq:=h (s.heap.objs.size+1) s.heap.objs.size (I.hok.fresh (Nat.le_succ _)) (I.hok.fresh (QF _)) (QT (Q5 _))
 have I2:=al.made (C:=C) I
 have r2:aL (V.ref (s.heap.objs.size+1)::(vs++dvs)) (Value.ref (s.heap.objs.size+1)::(us++ds)):=.cons rfl (r.append hd)
 have hl:(Value.ref (s.heap.objs.size+1)::us++ds).length=ps.length:=by
  have e:=r2.length
  rw[F.len _ _ _ _ hq]at e
  exact e.symm
 refine Sd (rV (f:=f) I.kIn M.makes M.init (Sq.mp M.fn) (Sm (F.run _ X.stack _ _ ⟨Value.ref (s.heap.objs.size+1)::us,[]⟩ (Value.ref (s.heap.objs.size+1)::(us++ds)) _ _ E (hr.make C us [])
  (I2.env0.make C us []) (hb _ (Value.ref (s.heap.objs.size+1)::us) I2.kIn hl) r2 hq) fun r s' hq'=>?_))
 cases r with
 | error e=>exact hx pins σ _ _ e s' I2 hq'
 | ok fl =>
  cases fl with
  | ret u =>
   obtain⟨v,H',I3,rv,ev,q3⟩:=I2.after hq'
   subst ev
   exact⟨rv,⟨V.ref (s.heap.objs.size+1),H',I3,rfl,q3⟩⟩
  | next=>exact False.elim hq'
  | brk=>exact False.elim hq'
  | cont=>exact False.elim hq'
theorem Da(M:Mk X.K C f)(F:br X.prog X.w X.K X.mg X.base CX k f fd ps sp)(hr:bC (k+1) X.A)(hg:Gl X x)(hm:X.mg x=some (.ref C))(hb:bH X.K fd ps ds)(hd:aL dvs ds)(hx:fi CX X E)
  (ha:PA X (e::es) t) (hdb:(x==("__debug__" : Str))=false:=by decide) (he:starEach (e::es) X.env=(false,eval e X.env)::starEach es X.env:=by rfl) (hpl:(backTo pos (starEach es X.env)).any (·.1)=false:=by rfl) :
  PE X (.Call (.Name x p) (e::es) [] pos) (A8 C sp dvs E t):=by
 intro pins s σ H Q I h
 refine Rb (cH I hg hm ?_ hdb)
 refine Se (h₀:=X.base) I.ok.mod.kin M.kp (aN (ha pos pins s σ H _ I h) fun us s1 ⟨vs,H1,I1,r,q⟩=>⟨I1.kIn,?_⟩) he hpl
 exact rn M F hr hb hd hx I1 r q
theorem zy(M:Mk X.K C f)(F:br X.prog X.w X.K X.mg X.base CX k f fd ps sp)(hr:bC (k+1) X.A)(hg:Gl X x)(hm:X.mg x=some (.ref C))(hb:bH X.K fd ps ds)(hd:aL dvs ds)(hx:fi CX X E)
  (hdb:(x==("__debug__" : Str))=false:=by decide):PE X (.Call (.Name x p) [] [] pos) (A8 C sp dvs E vd):=by
 intro pins s σ H Q I h
 refine Rb (cH I hg hm ?_ hdb)
 exact W.callWith_K0 I.kIn M.kp (rn (us:=[]) M F hr hb hd hx I .nil h)
end
section
variable{CX:iE}{f:Addr}{ks:List Str}{sp:Sp}{E:XK}{m:Str}{apos kpos:Pos}{o:Expr}{kws:List Keyword}{ta:TE}{t tk:TA}{nm:Option Str}
variable{g:List Value->List Value->List Value}{gV:List V->List V->List V}
end
structure aM(N P:List Str)(sc:Scope):Prop where
 kind:sc.kind=.function
 co:sc.isCoroutine=false
 gen:sc.isGenerator=false
 nd:N.Nodup
 pre:N.take P.length=P
 par:∀x∈P,sc.names.lookup x=some .local\/sc.names.lookup x=some .cell
 nofree:∀y∈sc.names,y.2 ≠ .free
theorem pW{kindOf:Str->Option NameKind}{x:Str}:∀{binds:List (Str×Value)} {m:Str->Option Value},(∀v,(x,v)∉binds)->bindL kindOf binds m x=m x
 | [],_,_=>rfl
 | (n,v)::r,m,h=>by
  unfold bindL
  rw[pW fun w hw=>h w (QB _ hw)]
  split
  ·have:x≠n:=by rintro rfl;exact h v QE
   simp[this]
  ·rfl
theorem pY{kindOf:Str->Option NameKind}{x:Str}:∀{binds:List (Str×Value)} {m:Str->Option Value},(∀v,(x,v)∉binds)->bindC kindOf binds m x=m x
 | [],_,_=>rfl
 | (n,v)::r,m,h=>by
  unfold bindC
  rw[pY fun w hw=>h w (QB _ hw)]
  split
  ·rfl
  ·have:x≠n:=by rintro rfl;exact h v QE
   simp[this]
theorem pX{kindOf:Str->Option NameKind}{x:Str}{v:Value}:∀{P:List Str} {vs:List Value} {i:Nat} {m:Str->Option Value},P.Nodup->P[i]?=some x->vs[i]?=some v->kindOf x=some .local ->
  bindL kindOf (P.zip vs) m x=some v
 | [],_,_,_,_,h,_,_=>by simp at h
 | _::_,[],_,_,_,_,h,_=>by simp at h
 | p::P,w::vs,0,m,nd,h1,h2,hk=>by
  simp at h1 h2;subst h1;subst h2
  show bindL kindOf ((p,w)::P.zip vs) m p=_
  unfold bindL
  rw[pW fun v hv=>(SN.mp nd).1 (List.of_mem_zip hv).1,if_pos hk]
  simp
 | p::P,w::vs,i+1,m,nd,h1,h2,hk=>by
  show bindL kindOf ((p,w)::P.zip vs) m x=_
  unfold bindL
  exact pX (i:=i) (SN.mp nd).2 (by simpa using h1) (by simpa using h2) hk
theorem pZ{kindOf:Str->Option NameKind}{x:Str}{v:Value}:∀{P:List Str} {vs:List Value} {i:Nat} {m:Str->Option Value},P.Nodup->P[i]?=some x->vs[i]?=some v->kindOf x≠some .local ->
  bindC kindOf (P.zip vs) m x=some v
 | [],_,_,_,_,h,_,_=>by simp at h
 | _::_,[],_,_,_,_,h,_=>by simp at h
 | p::P,w::vs,0,m,nd,h1,h2,hk=>by
  simp at h1 h2;subst h1;subst h2
  show bindC kindOf ((p,w)::P.zip vs) m p=_
  unfold bindC
  rw[pY fun v hv=>(SN.mp nd).1 (List.of_mem_zip hv).1,if_neg hk]
  simp
 | p::P,w::vs,i+1,m,nd,h1,h2,hk=>by
  show bindC kindOf ((p,w)::P.zip vs) m x=_
  unfold bindC
  exact pZ (i:=i) (SN.mp nd).2 (by simpa using h1) (by simpa using h2) hk
def start(N:List Str)(vs:List V):St:=vs.map some++List.replicate (N.length-vs.length) none
def cn(CX:iE)(P:Program)(w:World)(K:W.Frag)(mg:Str->Option Value)(base:Heap)(N:List Str)(qual:Str)(scope:Scope)(f:Addr)(cd:Value)(A:Around)(outer:List Env)(s:Shared)(H:Hp)(E:XK):Cx where
 prog:=P
 w:=w
 K:=K
 mg:=mg
 base:=base
 A:=A.deeper (envOfC qual scope s.heap.objs.size f cd)
 N:=N
 s₀:=s
 H₀:=H
 env:=envOfC qual scope s.heap.objs.size f cd
 outer:=outer
 stack:=envOfC qual scope s.heap.objs.size f cd::outer
 ex:=[]
 calm:=true
 fn:=fun _=>true
 pn:=[]
 xe:=fun e s'=>wpAny (model P w) (A.deeper (envOfC qual scope s.heap.objs.size f cd)) (leaving (envOfC qual scope s.heap.objs.size f cd) e) (fun _ s''=>CX outer H s E e s'') (fun e' s''=>CX outer H s E e' s'') s'
theorem sR{sc:Scope}(h:sc.names.lookup x=some .cell):∃c,(cellsFrom n sc.names []).lookup x=some c:=by
 have q:=W.cellsFrom_some sc.names n [] (.inl h)
 exact Option.isSome_iff_exists.mp q
theorem xV{CX:iE}{f:Addr}{cd:Value}{s1:Shared}{E:XK}
  (S:aM N ps scope) (hd:A.handled=none) (e0:i7 P w K mg base A outer s H) (hl:vs.length=ps.length) (r:aL vs us)
  (x:InCallC s s.heap.objs.size (bindL (envOfC qual scope s.heap.objs.size f cd).kindOf (ps.zip us) fun _=>none) (cellsFrom (s.heap.objs.size+1) scope.names []) (bindC (envOfC qual scope s.heap.objs.size f cd).kindOf (ps.zip us) fun _=>none) s1) :
  al (cn CX P w K mg base N qual scope f cd A outer s H E) [] (start N vs) H s1:=by
 have hpl:ps.length<=N.length:=by have:=SC List.length S.pre;rw[Sn]at this;omega
 obtain⟨h1,tk,rfl,hk⟩:=x.done
 have noA:∀b:Addr,b∉(cn CX P w K mg base N qual scope f cd A outer s H E).ex:=fun b z=>absurd (show b∈([]:List Addr)from z) (by simp)
 refine⟨⟨e0.mod,S.kind,rfl,rfl,QF _,fun y z c h1 h2=>?_,fun y hy=>?_,fun y c _ h=>?_,fun _=>hd,Around.frames_deeper e0.frames,.inr ⟨rfl,rfl⟩,fun b z=>absurd z (noA b),e0.bs,e0.bsz,fun b _ _=>noA b,fun b z=>absurd z (noA b),e0.funs,e0.frf⟩,
  rfl,e0.bare,Un.kept hk,⟨_,x.toInCall.ns,fun i y v h1 h2 h3=>?_⟩,fun y c h=>⟨_,x.cell y c h⟩,e0.hok.fresh (QF _),fun y c h=>?_,fun p hp=>absurd (show p∈([]:List (Addr×Obj))from hp) (by simp),e0.hok.kept hk,?_⟩
 ·exact name_of_addr x.apart (QR h1) (QR h2)
 ·have hy:scope.names.lookup y=some .cell\/scope.names.lookup y=some .free:=hy
  rcases hy with hy|hy
  ·exact sR hy
  ·exact absurd rfl (S.nofree _ (QR hy))
 ·exact SQ (x.above y c (QR h))
 ·have hi:i<vs.length:=by
   unfold start at h2
   by_cases hi:i<vs.length
   ·exact hi
   ·rw[List.getElem?_append_right (by simpa using hi)]at h2
    rw[List.getElem?_replicate]at h2
    split at h2<;>cases h2
  have ha:vs[i]?=some v:=by
   unfold start at h2
   rw[List.getElem?_append_left (by simpa using hi),QS]at h2
   cases e:vs[i]? with
   | none=>rw[e]at h2;cases h2
   | some a=>rw[e]at h2;cases h2;rfl
  obtain⟨u,hu,rv⟩:=r.get ha
  have hp:ps[i]?=some y:=by
   rw[<- S.pre,List.getElem?_take_of_lt (by omega)];exact h1
  have ndP:ps.Nodup:=by rw[<- S.pre];exact S.nd.sublist (List.take_sublist _ _)
  refine⟨u,rv,?_⟩
  rcases S.par y (Q9 hp)with k|k
  ·exact .inl ⟨k,pX ndP hp hu k⟩
  ·obtain⟨c,e⟩:=sR (n:=s.heap.objs.size+1) k
   refine .inr ⟨.inl k,c,e,?_⟩
   have q:=x.cell y c e
   rw[pZ ndP hp hu (by show scope.names.lookup y≠_;rw[k];decide)]at q
   exact q
 ·exact e0.hok.fresh (SQ (x.above y c (QR h)))
 ·unfold start
  show _=N.length
  rw[Sf,Q0,List.length_replicate]
  omega
theorem qI{CX:iE}{f:Addr}{name:Str}{params:Arguments}{dV kV doc pm cdv ct oc:Value}{an od:Option Addr}
  {osl:Array (Option Value)} {sp:Sp} (lk:K.lookup f=some ⟨oc,od,.func (W.fnOf name qual params body scope dV kV doc pm an cdv ct),osl⟩) (hcd:W.codeIn K cdv qual=true) (S:aM N ps scope)
  (len:∀vs H Q E,sp vs H Q E->vs.length=ps.length)
  (hbody:∀(A:Around) (outer:List Env) (s:Shared) (H:Hp) (vs:List V) (Q:VK) (E:XK),bC k (A.deeper (envOfC qual scope s.heap.objs.size f cdv))->sp vs H Q E ->
   ∃t,dP (cn CX P w K mg base N qual scope f cdv A outer s H E) body t/\t { nx:=fun _ H'=>Q .non H',rt:=Q } (start N vs) H) :
  br P w K mg base CX (k+1) f (W.fnOf name qual params body scope dV kV doc pm an cdv ct) ps sp:=by
 refine⟨len,fun A outer s H args us vs Q E hr e0 hb r hsp=>?_⟩
 have hl:=len _ _ _ _ hsp
 have KX:K.In s.heap:=e0.mod.kin.keeps fun b o e=>(e0.bs b o e).1
 have lim:s.heap.NoLimit:=e0.mod.nolimit.keeps fun b o e=>(e0.bs b o e).1
 have hkind:∀y∈ps.zip us,scope.names.lookup y.1=some .local\/(scope.names.lookup y.1=some .cell/\((cellsFrom (s.heap.objs.size+1) scope.names []).lookup y.1).isSome=true):=fun⟨n,v⟩ hy=>by
  rcases S.par n (List.of_mem_zip hy).1 with q|q
  ·exact .inl q
  ·exact .inr ⟨q,W.cellsFrom_some _ _ _ (.inl q)⟩
 refine codeAny_call_function hr.depth (KX _ _ lk) rfl S.co S.gen rfl (W.codeRec_of KX hcd) (hb _ _ _ _ ?_)
 refine wpAny_newFunctionEnv_cells S.kind hkind fun env he s1 x=>?_
 subst he
 refine⟨lim.keeps x.toInCall.keep,codeAny_func ?_⟩
 obtain⟨t,ht,hq⟩:=hbody A outer s H vs Q E (hr.deeper _) hsp
 have I:al (cn CX P w K mg base N qual scope f cdv A outer s H E) [] (start N vs) H s1:=xV S hr.hd e0 hl r x
 refine Rq (ht [] s1 (start N vs) H _ I hq) (fun fl s' hs=>?_) fun e s' hs=>hs
 have fin:∀{σ':St} {H':Hp} {v:V} {u:Value},al (cn CX P w K mg base N qual scope f cdv A outer s H E) [] σ' H' s'->aY v u->Q v H'->CE outer P w H s Q u s' :=
  fun {σ' H' v u} J rv q=>⟨v,H',J.os,J.bare,J.base,J.hok,rv,q⟩
 cases fl with
 | ret u =>
  obtain⟨v,σ',H',J,rv,q⟩:=hs
  exact fin J rv q
 | next =>
  obtain⟨σ',H',J,q⟩:=hs
  exact fin (v:=V.non) (u:=Value.none) J rfl q
 | brk =>
  obtain⟨_,_,_,q⟩:=hs
  exact False.elim q
 | cont =>
  obtain⟨_,_,_,q⟩:=hs
  exact False.elim q
section
variable{t:TA}{id T:String}{r:List V->Hp->VK->Prop}
def KM(r:List V->Hp->VK->Prop)(t:TA):TE:=fun σ H Q=>t σ H fun vs H1=>r vs H1 Q
theorem zB(hc:dz X (.builtin id) r)(hg:Gl X x)(hm:X.mg x=none)(hv:bootBuiltins x=some (.builtin id))(ha:PA X (e::es) t)(hn:x ≠ "__name__" := by decide)(hdb:(x==("__debug__" : Str))=false:=by decide)
  (he:starEach (e::es) X.env=(false,eval e X.env)::starEach es X.env:=by rfl) (hpl:(backTo pos (starEach es X.env)).any (·.1)=false:=by rfl):PE X (.Call (.Name x p) (e::es) [] pos) (KM r t):=by
 intro pins s σ H Q I h
 refine Rb (eo I hg hm hv ?_ hn hdb)
 exact PyProof.Rows.callWith_builtin1 (aN (ha pos pins s σ H _ I h) fun us s1 ⟨vs,H1,I1,r1,q1⟩=>hc pins s1 σ H1 vs us Q I1 r1 q1) he hpl
theorem xz(hc:dz X (.type T) r)(hg:Gl X x)(hm:X.mg x=none)(hv:bootBuiltins x=some (.type T))(ha:PA X (e::es) t)(hn:x ≠ "__name__" := by decide)(hdb:(x==("__debug__" : Str))=false:=by decide)
  (he:starEach (e::es) X.env=(false,eval e X.env)::starEach es X.env:=by rfl) (hpl:(backTo pos (starEach es X.env)).any (·.1)=false:=by rfl):PE X (.Call (.Name x p) (e::es) [] pos) (KM r t):=by
 intro pins s σ H Q I h
 refine Rb (eo I hg hm hv ?_ hn hdb)
 exact Rr (aN (ha pos pins s σ H _ I h) fun us s1 ⟨vs,H1,I1,r1,q1⟩=>hc pins s1 σ H1 vs us Q I1 r1 q1) he hpl
end
end L2
namespace HT
open PySem PyProof.Rows
variable{sl t:Addr}{Q:Value->Shared->Prop}{vl vu:Value}{hi lo:Option Int}
def lexLt:List Int->List Int->Bool
 | [],[]=>false
 | [],_::_=>true
 | _::_,[]=>false
 | x::xs,y::ys=>if x=y then lexLt xs ys else decide (x<y)
section
open PySem.SeqAt
open PySem.AutoSeq1 (wpAny_loadPart')
open PySem.MeetsSeq PySem.MeetsSeq2 PySem.MeetsSeq3
end
section
variable{prog:Program}{w:World}{A:Around}{E:Value->Shared->Prop}{s:Shared}
theorem cat_tup{b:Addr}{vs ws:List Value}(ht:IsTup s.heap t vs.toArray)(hb:IsTup s.heap b ws.toArray)(hv:vs≠[])
  (h1:ws=[]->Q (.ref t) s) (h2:ws≠[]->Q (.ref s.heap.objs.size) { s with heap:=s.heap.push { cls:=.type "tuple", data:=.seq (vs++ws).toArray } })
  (hsz:vs.length+ws.length<=sizeLine):wpAny (model prog w) A (binaryOp .Add (.ref t) (.ref b)) Q E s:=by
 obtain⟨⟨cls,dd,data,sl⟩,ho,hc,n,hd⟩:=id ht
 obtain⟨⟨cls2,dd2,data2,sl2⟩,ho2,hc2,n2,hd2⟩:=id hb
 simp only at hc hd hc2 hd2
 subst hc hd hc2 hd2
 have e:vs.toArray++ws.toArray=(vs++ws).toArray:=by simp
 by_cases hw:ws=[]
 ·exact concat_meets ⟨_,ho,rfl⟩ ⟨_,ho2,rfl⟩ noFill_tuple_add seq_tuple_add PySem.F.slot_tuple_add PySem.F.entry_tuple_add (PySem.F.args_tuple_add_2 _ _)
   (tuple_addW1 t b vs.toArray ws.toArray n n2 dd dd2 sl sl2 (by simpa using hv) (by simp[hw])) ⟨ho,ho2,h1 hw⟩
 ·refine concat_meets ⟨_,ho,rfl⟩ ⟨_,ho2,rfl⟩ noFill_tuple_add seq_tuple_add PySem.F.slot_tuple_add PySem.F.entry_tuple_add (PySem.F.args_tuple_add_2 _ _)
   (tuple_addW2 t b vs.toArray ws.toArray n n2 dd dd2 sl sl2 (by simpa using hv) (by simpa using hw) (by rw[QM,QM];exact hsz)) ⟨ho,ho2,?_⟩
  rw[e]
  exact h2 hw
def sIx(n d:Nat):Option Int->Nat
 | none=>d
 | some v=>if v<0 then(v+(n:Int)).toNat else min v.toNat n
theorem Fu(n d:Nat)(hd:d<=n)(o:Option Int):sIx n d o<=n:=by
 cases o with
 | none=>exact hd
 | some v =>
  show(if v<0 then(v+(n:Int)).toNat else min v.toNat n)<=n
  by_cases hv:v<0
  ·rw[if_pos hv];omega
  ·rw[if_neg hv];exact Nat.min_le_right _ _
theorem uR(v:Int)(n d:Nat):(if v<0 then max (v+(n:Int)) 0 else min v (n:Int))=((sIx n d (some v):Nat):Int):=by
 show(if v<0 then max (v+(n:Int)) 0 else min v (n:Int))=(((if v<0 then(v+(n:Int)).toNat else min v.toNat n):Nat):Int)
 by_cases hv:v<0
 ·simp only[if_pos hv];omega
 ·simp only[if_neg hv];omega
theorem wl(lo hi:Option Int)(n:Nat):Builtin.Slice.sliceAdjust lo hi 1 (n:Int)=(((sIx n 0 lo:Nat):Int),((sIx n n hi:Nat):Int)):=by
 have h1:¬ ((1:Int)<0):=by omega
 unfold Builtin.Slice.sliceAdjust
 simp only[h1,if_false]
 refine Prod.ext ?_ ?_
 ·cases lo with
  | none=>rfl
  | some v=>exact uR v n 0
 ·cases hi with
  | none=>rfl
  | some v=>exact uR v n n
theorem vB(i j:Nat):Builtin.Slice.slicePlaces (i:Int) (j:Int) 1=j-i:=by
 unfold Builtin.Slice.slicePlaces
 have h1:(1:Int)>0:=by omega
 simp only[h1,SJ,Int.ediv_one]
 split<;>omega
theorem mF{v:Value}{o:Option Int}{Q:Option Int->Shared->Prop}(p:IsPart v o)(h:Q o s):wpAny (model prog w) A (Builtin.Slice.slicePartIndex v) Q E s:=by
 cases p with
 | none=>exact slicePart_none h
 | int i t=>exact slicePart_int h
theorem lL{n:Nat}{Q:Int×Int×Nat->Shared->Prop}(hs:s.heap.IsSliceOf sl vl vu .none)(pl:IsPart vl lo)(pu:IsPart vu hi)
  (h:Q (((sIx n 0 lo:Nat):Int),1,sIx n n hi-sIx n 0 lo) s):wpAny (model prog w) A (Builtin.Slice.sliceApplied (.ref sl) (pure (n:Int))) Q E s:=by
 obtain⟨os,hos,hcs,hds⟩:=id hs
 unfold Builtin.Slice.sliceApplied Builtin.Slice.sliceFields
 refine Qx (Qx (Re hos hds (x:=vl) rfl (Qx (Re hos hds (x:=vu) rfl (Qx (Re hos hds (x:=.none) rfl (Qz ?_)))))))
 refine Qx (slicePart_none ?_)
 show wpAny _ _ (if ((1:Int)==0)=true then _ else _) _ _ s
 rw[if_neg (by decide)]
 refine Qx (mF pl (Qx (mF pu (Qx (Qz ?_)))))
 show wpAny _ _ (match Builtin.Slice.sliceAdjust lo hi 1 (n:Int)with|(lo,hi)=>pure (lo,(1:Int),Builtin.Slice.slicePlaces lo hi 1)) _ _ s
 rw[wl lo hi n]
 show wpAny _ _ (pure (((sIx n 0 lo:Nat):Int),(1:Int),Builtin.Slice.slicePlaces ((sIx n 0 lo:Nat):Int) ((sIx n n hi:Nat):Int) 1)) _ _ s
 rw[vB]
 exact Qz h
theorem zw(xs:Array Value)(i k:Nat):((List.range k).filterMap fun(m:Nat)=>xs[((i:Int)+(m:Int)*1).toNat]?).toArray=((xs.toList.drop i).take k).toArray:=by
 have e:(fun(m:Nat)=>xs[((i:Int)+(m:Int)*1).toNat]?)=fun m=>xs[i+m]?:=by
  funext m
  have:((i:Int)+(m:Int)*1).toNat=i+m:=by omega
  rw[this]
 rw[e]
 have:=pick_run xs i k
 rw[List.filterMap_map]at this
 have e2:((fun x=>xs[x]?) ∘ fun x=>i+x)=fun m=>xs[i+m]?:=rfl
 rw[e2]at this
 rw[this]
theorem getItem_tuple_cut{items:Array Value}(ht:IsTup s.heap t items)(hs:s.heap.IsSliceOf sl vl vu .none)(pl:IsPart vl lo)(pu:IsPart vu hi)
  (hw:¬ (sIx items.size 0 lo=0/\sIx items.size items.size hi=items.size))
  (h:Q (.ref s.heap.objs.size) { s with heap:=s.heap.push { cls:=.type "tuple", data:=.seq ((items.toList.drop (sIx items.size 0 lo)).take (sIx items.size items.size hi-sIx items.size 0 lo)).toArray } })
  (hsz:items.size<=sizeLine):wpAny (model prog w) A (getItem (.ref t) (.ref sl)) Q E s:=by
 have htake:sizeOk (.seq ((items.toList.drop (sIx items.size 0 lo)).take (sIx items.size items.size hi-sIx items.size 0 lo)).toArray):=by
  show((items.toList.drop (sIx items.size 0 lo)).take (sIx items.size items.size hi-sIx items.size 0 lo)).toArray.size<=sizeLine
  rw[QM,Sn,List.length_drop,Array.length_toList]
  omega
 have hj:sIx items.size items.size hi<=items.size:=Fu _ _ (QF _) hi
 obtain⟨os,hos,hcs,hds⟩:=id hs
 have hTs:s.TypeIs (.ref sl) "slice" := ⟨os,hos,hcs⟩
 unfold getItem
 try with_reducible refine Q7 ?_
 first|refine Qx (Qz ?_)|skip
 refine Qx (wpAny_sequenceKey ht.typeIs (by decide) ?_)
 refine Qx (R8 (name:=Str.ofString "__getitem__") ht.typeIs PyProof.Rows.slot_tuple_getitem
  (So PyProof.Rows.slot_tuple_getitem ht.typeIs entry_tuple_getitem ?_ (args_tuple_getitem _ _)))
 show wpAny _ _ (Builtin.Tuple.tupleItemsOf (.ref t) >>= _) _ _ s
 refine Qx (tupleItemsOf_ ht ?_)
 refine Qx (wpAny_typeOf hTs ?_)
 rw[if_pos (by decide)]
 refine Qx (lL hs pl pu ?_)
 have hno:¬ ((((sIx items.size 0 lo:Nat):Int)==0&&(1:Int)==1&&(sIx items.size items.size hi-sIx items.size 0 lo)==items.size)=true):=by
  intro q
  rw[QN,QN]at q
  have q1:((sIx items.size 0 lo:Nat):Int)=0:=eq_of_beq q.1.1
  have q2:sIx items.size items.size hi-sIx items.size 0 lo=items.size:=eq_of_beq q.2
  exact hw ⟨by omega,by omega⟩
 show wpAny _ _ (if (((sIx items.size 0 lo:Nat):Int)==0&&(1:Int)==1&&(sIx items.size items.size hi-sIx items.size 0 lo)==items.size)=true then _ else _) _ _ s
 rw[if_neg hno,zw]
 first
  | exact Qx (m:=Builtin.Tuple.tupleExact _) (RF (Qz ⟨_,rfl,Qz h⟩) htake)
  | exact Qx (m:=Builtin.Tuple.tupleExact _) (RF (Qx (Qz (Qz ⟨_,rfl,Qz h⟩))) htake)
  | exact Qx (Qx (m:=Builtin.Tuple.tupleExact _) (RF (Qz (Qz ⟨_,rfl,Qz h⟩)) htake))
  | exact Qx (Qx (m:=Builtin.Tuple.tupleExact _) (RF (Qz ⟨_,rfl,Qz h⟩) htake))
end
end HT
namespace L2
open PySem PySem.Spec PyProof.Rows
variable{xs:List V}{its its' us:List Value}{j n:Nat}{i:Int}{α:Type}{pins:List (Addr×Obj)}{σ:St}{H:Hp}{s:Shared}{p:Addr}
abbrev TO:=St->Hp->(Option Int->Hp->Prop)->Prop
def PO(X:Cx)(e:Option Expr)(t:TO):Prop :=
 ∀(pins:List (Addr×Obj)) (s:Shared) (σ:St) (H:Hp) (Q:Option Int->Hp->Prop),al X pins σ H s->t σ H Q ->
  wpAny (model X.prog X.w) X.A (evalPart e X.env) (fun u s' => ∃o H',al X pins σ H' s'/\IsPart u o/\Q o H') X.xe s
def Cp:TO:=fun _ H Q=>Q none H
def Jg(t:TE):TO:=fun σ H Q=>t σ H fun x H1 => ∃i,x=.int i/\Q (some i) H1
section
variable{X:Cx}{e:Expr}{te:TE}{lo hi:Option Expr}{tl th:TO}{pos p2:Pos}
theorem C5:PO X none Cp:=by
 intro pins s σ H Q I h
 rw[evalPart_none]
 exact Qz ⟨none,H,I,.none,h⟩
theorem C4(h:PE X e te):PO X (some e) (Jg te):=by
 intro pins s σ H Q I hw
 rw[evalPart_some]
 refine aN (h pins s σ H _ I hw) fun u s1 ⟨x,H1,I1,r1,q1⟩=>?_
 obtain⟨i,rfl,q⟩:=q1
 obtain⟨t,rfl⟩:=r1
 exact⟨some i,H1,I1,.int i t,q⟩
def IS(X:Cx)(r:V->Option Int->Option Int->Hp->VK->Prop):Prop :=
 ∀(pins:List (Addr×Obj)) (s:Shared) (σ:St) (H:Hp) (x:V) (v vl vu:Value) (lo hi:Option Int) (sl:Addr) (Q:VK),al X pins σ H s->aY x v->s.heap.IsSliceOf sl vl vu .none->IsPart vl lo->IsPart vu hi->r x lo hi H Q ->
  ∃T id,typeLookup (.type T) "__getitem__" = pure (some (.builtin id))/\s.TypeIs v T/\wpAny (model X.prog X.w) X.A (getItem v (.ref sl)) (EP X pins σ Q) X.xe s
def Ql(r:V->Option Int->Option Int->Hp->VK->Prop)(te:TE)(tl th:TO):TE:=fun σ H Q=>te σ H fun x H1=>tl σ H1 fun l H2=>th σ H2 fun u H3=>r x l u H3 Q
theorem lP{r:V->Option Int->Option Int->Hp->VK->Prop}(hr:IS X r)(he:PE X e te)(hl:PO X lo tl)(hu:PO X hi th):PE X (.Subscript e (.Slice lo hi none p2) pos) (Ql r te tl th):=by
 intro pins s σ H Q I h
 refine Subscript_ (aN (he pins s σ H _ I h) fun v s1 ⟨x,H1,I1,r1,q1⟩=>?_)
 refine wpAny_Slice (aN (hl pins s1 σ H1 _ I1 q1) fun vl s2 ⟨l,H2,I2,pl,q2⟩=>aN (hu pins s2 σ H2 _ I2 q2) fun vu s3 ⟨u,H3,I3,pu,q3⟩=>?_)
 rw[evalPart_none]
 refine Qz ?_
 have I4:al X pins σ H3 { s3 with heap:=s3.heap.push { cls:=.type "slice", data:=.fields #[vl,vu,.none] } }:=I3.kept (t':=s3.toks) fun b ob q=>Qy _ q
 obtain⟨T,id,hT,ht,hg⟩:=hr pins { s3 with heap:=s3.heap.push { cls:=.type "slice", data:=.fields #[vl,vu,.none] } } σ H3 x v vl vu l u s3.heap.objs.size Q I4 r1 (Heap.IsSliceOf.new ..) pl pu q3
 show wpAny (model X.prog X.w) X.A (subscriptTail e (.Slice lo hi none p2) v (.ref s3.heap.objs.size)) (EP X pins σ Q) X.xe { s3 with heap:=s3.heap.push { cls:=.type "slice", data:=.fields #[vl,vu,.none] } }
 exact tail_any (ops:=[.ref s3.heap.objs.size,v]) ht hT hg (by with_unfolding_all rfl)
def ir(xs:List V)(lo hi:Option Int):List V:=(xs.drop (HT.sIx xs.length 0 lo)).take (HT.sIx xs.length xs.length hi-HT.sIx xs.length 0 lo)
theorem lC(xs:List V)(lo hi:Option Int):(ir xs lo hi).length<=xs.length:=by
 unfold ir
 rw[Sn,List.length_drop]
 omega
def L7(K:W.Frag):V->Option Int->Option Int->Hp->VK->Prop:=fun x lo hi H Q => ∃a xs,x=.ref a/\bT K H a xs /\
 ¬ (HT.sIx xs.length 0 lo=0/\HT.sIx xs.length xs.length hi=xs.length)/\∀p,H p=none->Q (.ref p) (aG H p (.tup (ir xs lo hi)))
theorem Fc:IS X (L7 X.K):=by
 intro pins s σ H x v vl vu lo hi sl Q I rx hs pl pu h
 obtain⟨a,xs,rfl,hx,hw,q⟩:=h
 cases rx
 obtain⟨its,r,ht,hz⟩:=I.tuple hx
 have hlen:its.toArray.size=xs.length:=by rw[QM];exact r.length.symm
 refine⟨"tuple", _,PyProof.Rows.slot_tuple_getitem.lookup,ht.typeIs,?_⟩
 refine HT.getItem_tuple_cut ht hs pl pu (by rw[hlen];exact hw) ?_ (by rw[hlen];exact hz)
 rw[hlen]
 refine⟨.ref s.heap.objs.size,_,I.laid (t':=s.toks) (o:=.tup (ir xs lo hi)) (fun b ob q=>Qy _ q) (QF _) ?_,rfl,q _ (I.hok.fresh (QF _))⟩
 exact⟨QD (lC xs lo hi) hz,_,(r.drop (HT.sIx xs.length 0 lo)).take (HT.sIx xs.length xs.length hi-HT.sIx xs.length 0 lo),IsTup.new _ _⟩
def rLtT(K:W.Frag):R2:=fun x y H Q => ∃a b ns ms,x=.ref a/\y=.ref b/\bT K H a (ns.map V.int)/\bT K H b (ms.map V.int)/\Q (.bl (HT.lexLt ns ms)) H
def Jy(K:W.Frag):R2:=fun x y H Q => ∃a b xs ys,x=.ref a/\y=.ref b/\bT K H a xs/\bT K H b ys/\xs≠[]/\xs.length+ys.length<=sizeLine /\
 (ys=[]->Q (.ref a) H)/\(ys≠[]->∀p,H p=none->Q (.ref p) (aG H p (.tup (xs++ys))))
theorem aL.nil_iff(r:aL xs us):us=[]↔xs=[]:=by
 cases r with
 | nil=>simp
 | cons _ _=>simp
theorem Di:cP X (binaryOp .Add) (Jy X.K):=by
 intro pins s σ H x y v u Q I rx ry h
 obtain⟨a,b,xs,ys,rfl,rfl,ha,hb,hx,hz,q1,q2⟩:=h
 cases rx
 cases ry
 obtain⟨its,r1,p1,_⟩:=I.tuple ha
 obtain⟨its2,r2,p2,_⟩:=I.tuple hb
 refine HT.cat_tup p1 p2 (fun z=>hx (r1.nil_iff.mp z)) (fun z=>⟨.ref a,H,I,rfl,q1 (r2.nil_iff.mp z)⟩) (fun z=>?_) (by rw[<- r1.length,<- r2.length];exact hz)
 refine⟨.ref s.heap.objs.size,_,I.laid (t':=s.toks) (o:=.tup (xs++ys)) (fun b ob q=>Qy _ q) (QF _) ?_,rfl,q2 (fun w=>z (r2.nil_iff.mpr w)) _ (I.hok.fresh (QF _))⟩
 exact⟨by rw[Sf];exact hz,_,r1.append r2,IsTup.new _ _⟩
end
def ixN(n:Nat)(i:Int):Option Nat:=if 0<=i then(if i<n then some i.toNat else none)else if -(n:Int)<=i then some (i+n).toNat else none
def atI{α:Type}(xs:List α)(i:Int):Option α:=(ixN xs.length i).bind fun j=>xs[j]?
theorem uG(h:ixN n i=some j):seqIndex? i n=some j/\j<n /\ -(n:Int)<=i/\i<n:=by
 unfold ixN at h
 by_cases h0:0<=i
 ·rw[if_pos h0]at h
  by_cases h1:i<n
  ·rw[if_pos h1]at h
   have e:i.toNat=j:=QK h
   exact⟨by rw[seqIndex_of h0 h1,e],by omega,by omega,h1⟩
  ·rw[if_neg h1]at h;cases h
 ·rw[if_neg h0]at h
  by_cases h1:-(n:Int)<=i
  ·rw[if_pos h1]at h
   have e:(i+n).toNat=j:=QK h
   exact⟨by rw[seqIndex_neg (by omega) h1,e],by omega,h1,by omega⟩
  ·rw[if_neg h1]at h;cases h
theorem uW{xs:List α}{v:α}(h:atI xs i=some v):∃j,seqIndex? i xs.length=some j/\xs[j]?=some v/\j<xs.length /\ -(xs.length:Int)<=i/\i<xs.length:=by
 unfold atI at h
 cases e:ixN xs.length i with
 | none=>rw[e]at h;cases h
 | some j =>
  rw[e]at h
  obtain⟨h1,h2,h3,h4⟩:=uG e
  exact⟨j,h1,h,h2,h3,h4⟩
theorem dD{xs:List α}{v:α}(h:xs[j]?=some v):atI xs (j:Int)=some v:=by
 have hj:j<xs.length:=(QJ.mp h).1
 have e:ixN xs.length (j:Int)=some j:=by
  unfold ixN
  rw[if_pos (by omega),if_pos (by omega)];simp
 unfold atI;rw[e];exact h
def eY(b:Expr):Prop:=∀o i,subscripted b false o i=operate [o,i] (getItem o i)
def I0(X:Cx)(r:R2):Prop :=
 ∀(value slice:Expr) (pins:List (Addr×Obj)) (s:Shared) (σ:St) (H:Hp) (x y:V) (v u:Value) (Q:VK),al X pins σ H s->aY x v->aY y u->r x y H Q ->
  subscripted slice false v u=operate [v,u] (getItem v u)->wpAny (model X.prog X.w) X.A (subscriptTail value slice v u) (EP X pins σ Q) X.xe s
def IV(X:Cx)(id:String)(r:V->List V->Hp->VK->Prop):Prop :=
 ∀(pins:List (Addr×Obj)) (s:Shared) (σ:St) (H:Hp) (x:V) (xs:List V) (v:Value) (us:List Value) (Q:VK),al X pins σ H s->aY x v->aL xs us->r x xs H Q ->
  wpAny (model X.prog X.w) X.A (call (.builtin id) (v::us)) (EP X pins σ Q) X.xe s
section
variable{X:Cx}{a b:Expr}{ta tb:TE}{pos:Pos}
theorem kQ{r:R2}(hr:I0 X r)(ha:PE X a ta)(hb:PE X b tb)(hs:eY b):PE X (.Subscript a b pos) (KL r ta tb):=by
 intro pins s σ H Q I h
 exact Subscript_ (Ix ha hb I h fun v u s2 x y H2 I2 rx ry q=>hr a b pins s2 σ H2 x y v u Q I2 rx ry q (hs _ _))
def Ma(K:W.Frag):R2:=fun x y H Q => ∃p xs i v,x=.ref p/\y=.int i/\cj K H p xs/\atI xs i=some v/\Q v H
def L9(K:W.Frag):R2:=fun x y H Q => ∃p xs i v,x=.ref p/\y=.int i/\bT K H p xs/\atI xs i=some v/\Q v H
theorem kW:I0 X (Ma X.K):=by
 intro value slice pins s σ H x y v u Q I rx ry h hs
 obtain⟨p,xs,i,z,rfl,rfl,hq,he,q⟩:=h
 cases rx
 obtain⟨t,rfl⟩:=ry
 obtain⟨its,r,pl,hz⟩:=I.list hq
 obtain⟨j,h1,h2,h3,h4,h5⟩:=uW he
 obtain⟨w,ew,rw'⟩:=r.get h2
 have hl:=r.length
 have hn:=mT
 have fin:EP X pins σ Q w s:=⟨z,H,I,rw',q⟩
 by_cases h0:0<=i
 ·have hj:i.toNat=j:=by
   rw[seqIndex_of h0 h5]at h1
   exact QK h1
  exact item_listR pl.isList h0 (by omega) (by rw[hj];simpa using ew) fin hs
 ·have hj:(i+(its.toArray.size:Int)).toNat=j:=by
   rw[seqIndex_neg (by omega) h4]at h1
   rw[QM,<- hl]
   exact QK h1
  exact subscriptTail_builtinR (x:=w) pl.isList.typeIs slot_list_getitem.lookup
   (wpAny_getItem_list_neg (Q:=fun r s'=>r=w/\EP X pins σ Q r s') pl.isList (by omega) (by rw[QM]<;>omega) (by omega) (by rw[hj];simpa using ew) ⟨rfl,fin⟩) hs
theorem xQ:I0 X (L9 X.K):=by
 intro value slice pins s σ H x y v u Q I rx ry h hs
 obtain⟨p,xs,i,z,rfl,rfl,hq,he,q⟩:=h
 cases rx
 obtain⟨t,rfl⟩:=ry
 obtain⟨its,r,pl,hz⟩:=I.tuple hq
 obtain⟨j,h1,h2,h3,h4,h5⟩:=uW he
 obtain⟨w,ew,rw'⟩:=r.get h2
 have hl:=r.length
 have hn:=mT
 have fin:EP X pins σ Q w s:=⟨z,H,I,rw',q⟩
 exact subscriptTail_builtinR (x:=w) pl.typeIs slot_tuple_getitem.lookup
  (getItem_tuple (j:=j) (Q:=fun r s'=>r=w/\EP X pins σ Q r s') pl (by omega) (by omega) (by rw[QM,<- hl];exact h1) (by simpa using ew) ⟨rfl,fin⟩) hs
theorem vI(its:List Value)(n j:Nat)(u:Value):Obj.mapSeq (·.setIfInBounds j u) { cls:=.type "list", data:=.seq its.toArray n } = { cls:=.type "list", data:=.seq (its.set j u).toArray n }:=by
 simp[Obj.mapSeq]
theorem al.lst(I:al X pins σ H s)(h:H p=some (.lst xs)) :
  ∃(its:List Value) (n:Nat),aL xs its/\s.heap.get? p=some { cls:=.type "list", data:=.seq its.toArray n }/\xs.length<=sizeLine:=by
 obtain⟨z,its,n,r,e⟩:=I.hok p _ h
 exact⟨its,n,r,e,z⟩
theorem al.lstUpd{ys:List V}{n':Nat}{f:Obj->Obj}(I:al X pins σ H s)(h:H p=some (.lst xs))
  (ho:s.heap.get? p=some { cls:=.type "list", data:=.seq its.toArray n }) (hf:f { cls:=.type "list", data:=.seq its.toArray n } = { cls:=.type "list", data:=.seq its'.toArray n' }) (r:aL ys its') (hz:ys.length<=sizeLine) (t:Nat) :
  al X pins σ (aG H p (.lst ys)) { s with heap:=s.heap.update p f,toks:=t }:=by
 have e:(s.heap.update p f).get? p=some { cls:=.type "list", data:=.seq its'.toArray n' }:=by
  rw[Ru f ho (by rw[hf]<;>rfl),hf]
 refine I.write (x:=p) (e:=p) (by rw[h];trivial) (.inl rfl) (fun b u hb q=>(QQ _ _ (RB hb)).trans q) ⟨_,e⟩ ?_
 exact⟨hz,its',n',r,e⟩
def Jx:V->V->V->Hp->(Hp->Prop)->Prop:=fun o i v H Q => ∃p xs k j,o=.ref p/\i=.int k/\H p=some (.lst xs)/\ixN xs.length k=some j/\Q (aG H p (.lst (xs.set j v)))
theorem hJ:IT X Jx:=by
 intro pins s σ H o i v ov iv u Q I ro ri rv h
 obtain⟨p,xs,k,j,rfl,rfl,hp,hj,q⟩:=h
 cases ro
 obtain⟨t,rfl⟩:=ri
 obtain⟨its,n,r,ho,hz⟩:=I.lst hp
 obtain⟨h1,h2,h3,h4⟩:=uG hj
 have hl:=r.length
 have hn:=mT
 have I':al X pins σ (aG H p (.lst (xs.set j v))) { s with heap:=s.heap.update p (Obj.mapSeq (·.setIfInBounds j u)) } :=
  I.lstUpd hp ho (vI its n j u) (r.set rv j) (by rw[Rh];exact hz) s.toks
 by_cases h0:0<=k
 ·have hk:k.toNat=j:=by
   rw[seqIndex_of h0 h4]at h1
   exact QK h1
  exact W.ki_setAt ho h0 (by omega) (by rw[QM,<- hl];exact h4) (by rw[hk];exact⟨_,I',q⟩)
 ·have hk:(k+(its.toArray.size:Int)).toNat=j:=by
   rw[seqIndex_neg (by omega) h3]at h1
   rw[QM,<- hl]
   exact QK h1
  exact W.ki_setBack ho (by omega) (by rw[QM,<- hl];exact h3) (by omega) (by rw[hk];exact⟨_,I',q⟩)
theorem rh(lo hi:Option Int)(n:Nat):(sliceBounds lo hi none n).1=((HT.sIx n 0 lo:Nat):Int)/\(sliceBounds lo hi none n).2.1=((HT.sIx n n hi:Nat):Int)/\(sliceBounds lo hi none n).2.2=1:=by
 refine⟨?_,?_,rfl⟩
 ·cases lo with
  | none=>simp[sliceBounds,HT.sIx]
  | some i =>
   simp only[sliceBounds,HT.sIx,Option.getD_none,show(1:Int)>0 by decide,SJ]
   by_cases h:i<0
   ·simp only[h,SJ]<;>omega
   ·simp only[h,if_false]<;>omega
 ·cases hi with
  | none=>simp[sliceBounds,HT.sIx]
  | some i =>
   simp only[sliceBounds,HT.sIx,Option.getD_none,show(1:Int)>0 by decide,SJ]
   by_cases h:i<0
   ·simp only[h,SJ]<;>omega
   ·simp only[h,if_false]<;>omega
theorem qt(its:List Value)(lo hi:Option Int):slicePick its.toArray lo hi none=((its.drop (HT.sIx its.length 0 lo)).take (HT.sIx its.length its.length hi-HT.sIx its.length 0 lo)).toArray:=by
 obtain⟨h1,h2,h3⟩:=rh lo hi its.toArray.size
 unfold slicePick
 rw[h1,h2,h3]
 simp only[sliceRange_one,pick_run,QM]<;>rfl
def L8(K:W.Frag):V->Option Int->Option Int->Hp->VK->Prop:=fun x lo hi H Q => ∃a xs,x=.ref a/\cj K H a xs/\∀p,H p=none->Q (.ref p) (aG H p (.lst (ir xs lo hi)))
theorem ug:IS X (L8 X.K):=by
 intro pins s σ H x v vl vu lo hi sl Q I rx hs pl pu h
 obtain⟨a,xs,rfl,hx,q⟩:=h
 cases rx
 obtain⟨its,r,ht,hz⟩:=I.list hx
 have hlen:=r.length
 refine⟨"list", _,slot_list_getitem.lookup,ht.isList.typeIs,?_⟩
 refine wpAny_getItem_list_slice ht.isList hs pl pu .none (by simp) ?_ (by rw[QM]<;>omega)
 rw[qt,<- hlen]
 refine⟨.ref s.heap.objs.size,_,I.laid (t':=s.toks) (o:=.lst (ir xs lo hi)) (fun b ob q=>Qy _ q) (QF _) ?_,rfl,q _ (I.hok.fresh (QF _))⟩
 exact⟨QD (lC xs lo hi) hz,_,0,(r.drop (HT.sIx xs.length 0 lo)).take (HT.sIx xs.length xs.length hi-HT.sIx xs.length 0 lo),QH _ rfl⟩
theorem kC:dz X (.builtin "len") (fun xs H Q => ∃p ys,xs=[.ref p]/\(cj X.K H p ys\/bT X.K H p ys)/\Q (.int ys.length) H):=by
 intro pins s σ H xs us Q I r h
 obtain⟨p,ys,rfl,hq,q⟩:=h
 obtain⟨u,rfl,rx⟩:=dR r
 cases rx
 have hn:=mT
 rcases hq with hq|hq
 ·obtain⟨its,r',pl,hz⟩:=I.list hq
  have hlen:=r'.length
  exact Calls.call_len_list pl.isList (by simp only[QM]<;>omega) ⟨.int ys.length,H,I.tok _,⟨s.toks+1,by rw[QM,hlen]⟩,q⟩
 ·obtain⟨its,r',pl,hz⟩:=I.tuple hq
  have hlen:=r'.length
  exact len_tuple pl (by simp only[QM]<;>omega) ⟨.int ys.length,H,I.tok _,⟨s.toks+1,by rw[QM,hlen]⟩,q⟩
theorem kB:dz X (.type "list") (fun xs H Q => ∃p ys,xs=[.ref p]/\(cj X.K H p ys\/bT X.K H p ys)/\∀l,H l=none->Q (.ref l) (aG H l (.lst ys))):=by
  intro pins s σ H xs us Q I r h
  obtain⟨p,ys,rfl,hq,q⟩:=h
  obtain⟨u,rfl,rx⟩:=dR r
  cases rx
  have fin:∀(its:List Value),aL ys its->ys.length<=sizeLine->∀(h':Heap) (c':Nat),(∀b o',s.heap.get? b=some o'->h'.get? b=some o') ->
      h'.get? s.heap.objs.size=some { cls:=.type "list", dict:=none,data:=.seq its.toArray c',slots:=#[] }->EP X pins σ Q (.ref s.heap.objs.size) { s with heap:=h' }:=fun its r' hz h' c' kp e =>
    ⟨.ref s.heap.objs.size,_,I.laid (t':=s.toks) kp (QF _) (show bG X.prog X.w _ h' _ (.lst ys)from⟨hz,its,c',r',e⟩),rfl,q _ (I.hok.fresh (QF _))⟩
  rcases hq with hq|hq
  . obtain⟨its,r',pl,hz⟩:=I.list hq
    have hlen:=r'.length
    obtain⟨o,ho,hc,n,hd⟩:=pl.isList
    exact call_list_seq p (.inl rfl) ho hc hd (fun h' c' kp e=>fin its r' hz h' c' kp e) (by simp only[QM]<;>omega)
  . obtain⟨its,r',pl,hz⟩:=I.tuple hq
    have hlen:=r'.length
    obtain⟨o,ho,hc,n,hd⟩:=pl
    exact call_list_seq p (.inr rfl) ho hc hd (fun h' c' kp e=>fin its r' hz h' c' kp e) (by simp only[QM]<;>omega)
theorem jK:dz X (.type "tuple") (fun xs H Q => ∃p ys,xs=[.ref p]/\((cj X.K H p ys/\∀l,H l=none->Q (.ref l) (aG H l (.tup ys)))\/(bT X.K H p ys/\Q (.ref p) H))):=by
 intro pins s σ H xs us Q I r h
 obtain⟨p,ys,rfl,h⟩:=h
 obtain⟨u,rfl,rx⟩:=dR r
 cases rx
 rcases h with⟨hq,q⟩|⟨hq,q⟩
 ·obtain⟨its,r',pl,hz⟩:=I.list hq
  have hlen:=r'.length
  refine call_tuple_list pl.isList (fun h' kp=>?_) (by simp only[QM]<;>omega)
  have I1:al X pins σ H { s with heap:=h' }:=I.kept (t':=s.toks) kp
  have I2:al X pins σ (aG H h'.objs.size (.tup ys)) { s with heap:=h'.push { cls:=.type "tuple", data:=.seq its.toArray } } :=
   I1.laid (t':=s.toks) (fun b o e=>Qy _ e) (QF _) (show bG X.prog X.w _ _ _ (.tup ys)from⟨hz,its,r',IsTup.new _ _⟩)
  exact⟨.ref h'.objs.size,_,I2,rfl,q _ (I1.hok.fresh (QF _))⟩
 ·obtain⟨its,r',pl,hz⟩:=I.tuple hq
  exact call_tuple_same pl ⟨.ref p,H,I,rfl,q⟩
def EF(K:W.Frag)(T:String)(x:V)(H:Hp):Prop:=match x with
  | .str _=>T = "str"
  | .int _=>T = "int"
  | .ref p=>(T = "list" /\ ∃xs,cj K H p xs)\/(T = "tuple" /\ ∃o,K.lookup p=some o/\o.cls=.type "tuple" /\ o.dict=none) \/
      (T = "dict" /\ ((∃kvs,H p=some (.dK kvs))\/∃kvs,H p=some (.dT kvs)))\/(T = "set" /\ ∃S n,H p=some (.set S n))
  | _=>False
theorem wQ{T:String}{x:V}{v:Value}(I:al X pins σ H s)(r:aY x v)(ty:EF X.K T x H) :
  s.TypeIs v T/\∀a,v=.ref a->∃ob,s.heap.get? a=some ob/\ob.dict=none:=by
 cases x with
 | str z =>
  obtain⟨t,rfl⟩:=r
  cases (show T = "str" from ty)
  exact⟨typeIs_str s z t,fun _ e=>nomatch e⟩
 | int i =>
  obtain⟨t,rfl⟩:=r
  cases (show T = "int" from ty)
  exact⟨typeIs_int s i t,fun _ e=>nomatch e⟩
 | ref p =>
  cases r
  rcases ty with⟨rfl,xs,hq⟩|⟨rfl,o,hk,hc,hd⟩|⟨rfl,hk⟩|⟨rfl,S,n,hk⟩
  ·obtain⟨its,_,pl,_⟩:=I.list hq
   refine⟨pl.isList.typeIs,fun a e=>?_⟩
   cases e
   obtain⟨o,n,e,c,hd,_⟩:=pl
   exact⟨o,e,hd⟩
  ·refine⟨⟨o,I.kIn p o hk,hc⟩,fun a e=>?_⟩
   cases e
   exact⟨o,I.kIn _ o hk,hd⟩
  ·have z:∃o,s.heap.get? p=some o/\o.ExactDict:=by
    rcases hk with⟨kvs,hk⟩|⟨kvs,hk⟩
    ·obtain⟨_,_,_,_,o,_,_,e,ex,_⟩:=I.hok p _ hk
     exact⟨o,e,ex⟩
    ·obtain⟨_,_,_,_,o,_,_,e,ex,_⟩:=I.hok p _ hk
     exact⟨o,e,ex⟩
   obtain⟨o,e,ex⟩:=z
   refine⟨⟨o,e,ex.1⟩,fun a e2=>?_⟩
   cases e2
   exact⟨o,e,ex.2.1⟩
  ·obtain⟨o,_,_,_,e,ex,_⟩:=I.hok p _ hk
   refine⟨⟨o,e,ex.1⟩,fun a e2=>?_⟩
   cases e2
   exact⟨o,e,ex.2.1⟩
 | _=>exact False.elim ty
def Lb(K:W.Frag)(T:String)(r:V->List V->Hp->VK->Prop)(to:TE):TE:=fun σ H Q=>to σ H fun x H1=>EF K T x H1/\r x [] H1 Q
def Qp(K:W.Frag)(T:String)(r:V->List V->Hp->VK->Prop)(to:TE)(t:TA):TE:=fun σ H Q=>to σ H fun x H1=>EF K T x H1/\t σ H1 fun xs H2=>r x xs H2 Q
variable{o e:Expr}{es:List Expr}{to:TE}{t:TA}{name:Str}{apos cpos:Pos}{T id:String}{r:V->List V->Hp->VK->Prop}
theorem FX(pa:PlainAttrs T)(slot:Slot T name id)(hty:typeOf (.builtin id)=pure (.type "method_descriptor"))(hm:IV X id r)(ho:PE X o to)
  (hbase:attributeBase o name X.env (eval o X.env)=eval o X.env:=by rfl) (hline:(apos.endLine==cpos.line)=true:=by rfl):PE X (.Call (.Attribute o name apos) [] [] cpos) (Lb X.K T r to):=by
 intro pins s σ H Q I h
 refine wpAny_Call_method0_late hbase hline (aN (ho pins s σ H _ I h) fun v s1 ⟨x,H1,I1,r1,ty,q1⟩=>?_)
 obtain⟨h1,h2⟩:=wQ I1 r1 ty
 exact⟨T,id,pa,slot,hty,h1,h2,Calls.callWith_builtin rfl (PySem.evalArgs_none (hm pins s1 σ H1 x [] v [] Q I1 r1 .nil q1))⟩
theorem Bi(pa:PlainAttrs T)(slot:Slot T name id)(hty:typeOf (.builtin id)=pure (.type "method_descriptor"))(hm:IV X id r)(ho:PE X o to)(ha:PA X (e::es) t)
  (hbase:attributeBase o name X.env (eval o X.env)=eval o X.env:=by rfl)
  (hfew:((backTo cpos (starEach (e::es) X.env)).all (fun x => !x.1)&&(backToKw cpos (keywordEach [] X.env)).all (fun x=>x.1.isSome)
   && decide ((e::es).length+([]:List Keyword).length+(if ([]:List Keyword).isEmpty then 0 else 1)<30))=true:=by rfl)
  (hline:(apos.endLine==cpos.line)=true:=by rfl) (hs:starEach (e::es) X.env=(false,eval e X.env)::starEach es X.env:=by rfl) (hplain:(backTo cpos (starEach es X.env)).any (·.1)=false:=by rfl) :
  PE X (.Call (.Attribute o name apos) (e::es) [] cpos) (Qp X.K T r to t):=by
 intro pins s σ H Q I h
 refine wpAny_Call_method_late hbase hfew hline rfl (aN (ho pins s σ H _ I h) fun v s1 ⟨x,H1,I1,r1,ty,q1⟩=>?_)
 obtain⟨h1,h2⟩:=wQ I1 r1 ty
 refine⟨T,id,pa,slot,hty,h1,h2,?_⟩
 have hA:=ha cpos pins s1 σ H1 _ I1 q1
 rw[hs]at hA⊢
 refine Calls.callWith_builtin (by show(false || (backTo cpos (starEach es X.env)).any (·.1))=false;rw[hplain]<;>rfl) (Calls.evalArgs_plain ?_)
 exact aN hA fun us s2 ⟨vs,H2,I2,r2,q2⟩=>hm pins s2 σ H2 x vs v us Q I2 r1 r2 q2
/- xs.append(e),list.index on a module's tuple .. are IV facts of 06m -/
end
def KS(X:Cx)(id:String)(r:V->List V->Hp->VK->Prop):Prop :=
 ∀(pins:List (Addr×Obj)) (s:Shared) (σ:St) (H:Hp) (x:V) (xs:List V) (v:Value) (us:List Value) (Q:VK),al X pins σ H s->aY x v->aL xs us->r x xs H Q ->
  wpAny (model X.prog X.w) X.A (call (.builtin id) (v::us)) (EP X pins σ Q) X.xe s
theorem aL.one:∀{x:V} {us:List Value},aL [x] us->∃u,us=[u]/\aY x u
 | _,_,.cons r .nil=>⟨_,rfl,r⟩
theorem aL.zero:∀{us:List Value},aL [] us->us=[]
 | _,.nil=>rfl
theorem aL.reverse(h:aL xs us):aL xs.reverse us.reverse:=by
 induction h with
 | nil=>exact .nil
 | cons r t ih=>rw[List.reverse_cons,List.reverse_cons];exact aL.append ih (.cons r .nil)
section
variable{X:Cx}{l b:Addr}{ys zs:List V}
theorem al.lset{f:Array Value->Array Value}{t':Nat}(I:al X pins σ H s)(hH:H l=some (.lst xs))
  (e:s.heap.get? l=some { cls:=.type "list", data:=.seq its.toArray n }) (hf:f its.toArray=its'.toArray) (hv:aL ys its') (hz:ys.length<=sizeLine) :
  al X pins σ (aG H l (.lst ys)) { s with heap:=s.heap.update l (Obj.mapSeq f),toks:=t' }:=by
 have q:=PySem.IsL.update e f
 rw[hf]at q
 refine I.write (x:=l) (e:=l) (by rw[hH];exact trivial) (.inl rfl) (fun b' u hb hu=>(QQ s.heap (Obj.mapSeq f) (RB hb)).trans hu) ⟨_,q⟩ ?_
 exact⟨hz,its',_,hv,q⟩
theorem al.lnew{t':Nat}(I:al X pins σ H s)(hv:aL ys its)(hz:ys.length<=sizeLine) :
  al X pins σ (aG H s.heap.objs.size (.lst ys)) { s with heap:=s.heap.push { cls:=.type "list", data:=.seq its.toArray },toks:=t' } :=
 I.laid (fun _ _ q=>Qy _ q) (QF _) ⟨hz,its,0,hv,QH _ rfl⟩
theorem al.fresh(I:al X pins σ H s):H s.heap.objs.size=none:=I.hok.fresh (QF _)
theorem al.lstM(I:al X pins σ H s)(hH:H l=some (.lst xs)):xs.length<=sizeLine/\∃(its:List Value) (n:Nat),aL xs its/\xs.length=its.length/\s.heap.get? l=some { cls:=.type "list", data:=.seq its.toArray n }:=by
 obtain⟨z,its,n,r,e⟩:=I.hok l _ hH
 exact⟨z,its,n,r,r.length,e⟩
end
section
variable{X:Cx}
def CS:V->List V->Hp->VK->Prop:=fun x vs H Q => ∃l xs y,x=.ref l/\vs=[y]/\H l=some (.lst xs)/\xs.length<sizeLine/\Q .non (aG H l (.lst (xs++[y])))
theorem pB:KS X "list.append" CS:=by
 intro pins s σ H x vs v us Q I rx rv h
 obtain⟨l,xs,y,rfl,rfl,hH,hz,q⟩:=h
 cases rx
 obtain⟨u,rfl,ru⟩:=rv.one
 obtain⟨z,its,n,r,hl,e⟩:=I.lstM hH
 refine call_meets F.slot_list_append ⟨_,e,rfl⟩ F.entry_list_append (F.args_list_append_2 _ _) (PySem.list_append l its.toArray n u (by rw[QM];omega)) ⟨e,?_⟩
 refine⟨.non,_,I.lset (its':=its++[u]) hH e (by simp) (r.append (.cons ru .nil)) ?_,rfl,q⟩
 rw[Sf,List.length_singleton]
 omega
end
section
variable{prog:Program}{w:World}{A:Around}{E:Value->Shared->Prop}
set_option maxRecDepth 100000 in
end
section
variable{X:Cx}
end
end L2
namespace Att
open PySem PySem.W PySem.Calls PyProof.Rows
variable{P:Params}{h:Heap}{l:OpenLaw}{n:Nat}
theorem mW:∀(ns:List Int) (vs:List Value),WellAll P h vs (ns.map WData.int)->IntsAre vs ns:=by
 intro ns
 induction ns with
 | nil =>
  intro vs w
  rw[SG]at w
  cases w
  exact .nil
 | cons n ns ih =>
  intro vs w
  rw[Q8]at w
  cases w with
  | cons a b =>
   cases a
   exact .cons _ _ (ih _ b)
theorem pk(hn:l.most=some n){args:List WData}{vals:List Value}
  (hpre:l.row.toRowW.claim.pre args=true) (hwl:WellAll P h vals args) :
  ∃a vs ns,vals=[Value.ref a]/\args=[WData.list (ns.map WData.int)]/\h.get? a=some { cls:=.type "list", data:=.seq vs.toArray }/\IntsAre vs ns/\ns.length<=n:=by
 have hsh:WShape.hasAll [] args [.list .int]=true:=(pre_splitW hpre).1
 have hc:l.pre.holds [] { args:=args }=true:=(pre_splitW hpre).2
 obtain⟨d,r,rfl,h1,h2⟩:=hasAllW_cons hsh
 obtain rfl:=hasAllW_nil h2
 obtain⟨xs,rfl,h3⟩:=hasW_list h1
 obtain⟨ns,rfl⟩:=items_int h3
 have hlen:ns.length<=n:=by
  unfold OpenLaw.pre at hc
  have h4:(WTm.not (.lt (.lit (.int (n:Int))) (.len (.arg 0)))).holds [] { args:=[.list (ns.map .int)] }=true:=by
   have h4:=(holds_andW hc).1
   rw[hn]at h4
   exact h4
  have h5:=condW_of h4 (w_not (w_lt w_lit (w_len_list (w_arg rfl))))
  rw[Q0]at h5
  refine Nat.le_of_not_lt fun q=>?_
  have q':(n:Int)<((ns.length:Nat):Int):=by omega
  first
   | (rw[RZ q']at h5;exact absurd h5 (by decide))
   | (simp at h5;omega)
 cases hwl with
 | cons w1 w2 =>
  cases w2
  cases w1 with
  | list ho hall=>exact⟨_,_,ns,rfl,rfl,ho,mW ns _ hall,hlen⟩
theorem pA(l:OpenLaw)(args:List WData):l.row.toRowW.claim.post args (.bool true) args=true :=
 postW_of (r:=l.row.toRowW) (X:=(true==true))
  (show WShape.has [] (.bool true) .bool=true by first|rfl|decide|simp[WShape.has,WShape.arms,WShape.armsAll])
  (show(WTm.eq .res (.lit (.bool true))).value [] { args:=args,res:=some (.bool true),after:=args }=some (.bool (true==true))from w_eq_bool (w_res rfl) w_lit) rfl
theorem attach_call{q:Program}{loose:List Str}{XP:(Str->Option Value)->Heap->Prop}{YP:World->Heap->Prop}{d:DefRec}
  (hn:l.most=some n) (hdf:d.params.defaults=[])
  (call:∀(w:World) (s₀ s₁:Shared) (mg mb:Str->Option Value) (fa:Addr) (o:Obj) (pm cd doc:Value) (a:Addr) (vs:List Value) (ns:List Int),
   Ground q loose [] XP w s₀ mg mb s₁.heap->YP w s₁.heap ->
   s₁.heap.get? fa=some o->o.data=.func (docDef d.name d.params d.body d.scope pm cd doc)->s₁.heap.CodeRec cd d.name->mg d.name=some (.ref fa) ->
   s₁.heap.get? a=some { cls:=.type "list", data:=.seq vs.toArray }->IntsAre vs ns->ns.length<=n->s₁.gens = #[] ->
   codeAny (model l.prog w) callerA (.call (.ref fa) ⟨[.ref a],[]⟩) (fun r s'=>r=.ok (.ret (.bool true))/\OldK s₁.heap s'.heap/\s'.os=s₁.os/\AllBare s'.gens) s₁) :
  WalkO q loose XP YP l.row.toRowW d [] (fun f vs=>PySem.call f vs):=by
 intro w s₀ s₁ mg mb G Y fa o pm cd doc dV kV ho hd hcd hD hmg hg args vals as hpre hlay hrd hwl hlo
 obtain rfl:dV=.none:=Dflts.none hD hdf
 obtain rfl:kV=.none:=Dflts.noKw hD
 obtain⟨a,vs,ns,rfl,rfl,hobj,hints,hlen⟩:=pk hn hpre hwl
 refine enter_call (Sm (call w s₀ s₁ mg mb fa o pm cd doc a vs ns G Y ho (fd_plain hd) hcd hmg hobj hints hlen hg) fun r s' hq=>?_)
 obtain⟨rfl,h2,h3,h4⟩:=hq
 exact⟨.inl ⟨.bool true,.bool true,[],rfl,fun _=>rfl,.bool true,pA l _,fun _=>⟨List.Pairwise.nil,fun _ hm=>(nomatch hm)⟩⟩,h2,h3,h4⟩
section
variable{prog:Program}{w:World}{A:Around}{E:Value->Shared->Prop}{s:Shared}{K:Frag}
end
end Att
namespace L2
open PySem PySem.Spec PyProof.Rows
variable{k:Nat}{x:Str}
theorem o9:∀{vs:List Value} {ns:List Int},IntsAre vs ns->aL (ns.map V.int) vs
 | _,_,.nil=>.nil
 | _,_,.cons n t h=>.cons ⟨t,rfl⟩ (o9 h)
def tE(H:Hp):Prop:=∀b,H b=none\/∃o xs,H b=some (.frz o (.lst xs))
theorem rZ{P:Program}{w:World}{K:W.Frag}{mg mb:Str->Option Value}{CX:iE}{fa a:Addr}{fd:FuncData}{sp:Sp}{s₁:Shared}{vs:List Value}{ns:List Int}
    (KX:K.In s₁.heap) (hns:s₁.heap.Ns mainGlobals mg) (hb:s₁.heap.Ns builtinsNs mb) (hbb:∀x:Str,x ≠ "__name__" -> mb x=bootBuiltins x) (hlim:s₁.heap.NoLimit) (hg:s₁.gens = #[])
    (ha:s₁.heap.get? a=some { cls:=.type "list", data:=.seq vs.toArray }) (hi:IntsAre vs ns) (hl:ns.length<=sizeLine) (hr:bC k callerA)
    (F:∀base:Heap,K.In base->base.Ns mainGlobals mg->br P w K mg base CX k fa fd [x] sp) (hbind:∀(s:Shared) (u:Value),BindsTo s fd ⟨[u],[]⟩ [(x,u)])
    (hsp:∀H:Hp,tE H->cj K H a (ns.map V.int)->sp [.ref a] H (fun v _=>v=.bl true) fun _ _ _=>False)
    (hCX:∀H e s',CX [] H s₁ (fun _ _ _=>False) e s'->False) :
    codeAny (model P w) callerA (.call (.ref fa) ⟨[.ref a],[]⟩) (fun r s'=>r=.ok (.ret (.bool true))/\OldK s₁.heap s'.heap/\s'.os=s₁.os/\AllBare s'.gens) s₁:=by
  have rv:=o9 hi
  have lenV:=hi.length
  have core:∀H:Hp,tE H->cj K H a (ns.map V.int)->cD P w H s₁.heap->(∀b,H b≠none->b=a)->(H a≠none->K.lookup a=none) ->
      codeAny (model P w) callerA (.call (.ref fa) ⟨[.ref a],[]⟩) (fun r s'=>r=.ok (.ret (.bool true))/\OldK s₁.heap s'.heap/\s'.os=s₁.os/\AllBare s'.gens) s₁:=by
    intro H hO hS hok hA hK
    have eS:∀{b:Addr} {o:Obj},s₁.heap.get? b=some o->H b=none->(jv s₁.heap H).get? b=some o:=fun e n=>zX e n
    have noA:∀{b:Addr} {o:Obj} {es:Array DictEntry} {ep:Nat},s₁.heap.get? b=some o->o.data=.dict es ep->H b=none:=fun {b o es ep} e d=>by
      cases q:H b with
      | none=>rfl
      | some u =>
        have e':b=a:=hA b (by rw[q];simp)
        subst e'
        rw[ha]at e;cases e
        have d':Data.seq vs.toArray _=Data.dict es ep:=d
        cases d'
    have nsK:∀{b:Addr} {m:Str->Option Value},s₁.heap.Ns b m->(jv s₁.heap H).Ns b m:=fun {b m} ⟨o,es,ep,e,d,r⟩=>⟨o,es,ep,eS e (noA e d),d,r⟩
    have hKb:K.In (jv s₁.heap H):=fun b o e=>eS (KX b o e) (by
      cases q:H b with
      | none=>rfl
      | some u =>
        have e':b=a:=hA b (by rw[q];simp)
        subst e'
        rw[hK (by rw[q];simp)]at e;cases e)
    have hM:Mod K mg (jv s₁.heap H):=⟨hKb,nsK hns,⟨mb,nsK hb,hbb⟩,let ⟨mc,h1,h2⟩:=hlim;⟨mc,nsK h1,h2⟩⟩
    have e0:i7 P w K mg (jv s₁.heap H) callerA [] s₁ H:=⟨rfl,hM,fun b o e=>Dj e,Nat.le_of_eq (xY _ _),trivial,fun b hb=>absurd (show b∈([]:List Addr)from hb) (by simp),hok,.of_eq hg⟩
    refine Sm ((F _ hKb (nsK hns)).run callerA [] s₁ H ⟨[.ref a],[]⟩ [.ref a] [.ref a] _ _ hr e0 (hbind s₁ (.ref a)) (.cons rfl .nil) (hsp H hO hS)) fun r s' h=>?_
    cases r with
    | error e=>exact(hCX H e s' h).elim
    | ok fl =>
      cases fl with
      | next=>exact False.elim h
      | brk=>exact False.elim h
      | cont=>exact False.elim h
      | ret u =>
        obtain⟨v,H',os,bare,un,hok',r',q⟩:=h
        have q':v=.bl true:=q
        subst q'
        obtain rfl:u=Value.bool true:=r'
        refine⟨rfl,OldK.of_keep fun b o e=>?_,os,bare⟩
        cases q:H b with
        | none=>exact un.keep b o e q (by intro z;exact absurd (show b∈([]:List Addr)from z) (by simp)) (by simp)
        | some u =>
          rcases hO b with z|⟨ob,xs,z⟩
          . rw[q]at z;cases z
          . have z2:=un.frzs b ob _ z
            obtain⟨e1,_⟩:=hok b _ z
            obtain⟨e2,_⟩:=hok' b _ z2
            rw[e]at e1;cases e1
            exact e2
  cases hk:K.lookup a with
  | some o =>
    have e:=KX a o hk
    rw[ha]at e
    cases e
    refine core (fun _=>none) (fun _=>.inl rfl) (.inr ⟨_,vs.toArray,_,hk,rfl,rfl,rfl,by rw[QM,lenV];exact hl,by simpa using rv⟩) (fun b u z=>by have z':(none:Option HO)=some u:=z;cases z') (fun b z=>absurd rfl z) fun z=>absurd rfl z
  | none =>
    refine core (fun b=>if b=a then some (.frz { cls:=.type "list", data:=.seq vs.toArray } (.lst (ns.map V.int)))else none) (fun b=>?_) (.inl (.inr ⟨{ cls:=.type "list", data:=.seq vs.toArray },if_pos rfl⟩)) (fun b u z=>?_) (fun b z=>?_) fun _=>hk
    . by_cases hb:b=a
      . exact .inr ⟨_,_,if_pos hb⟩
      . exact .inl (if_neg hb)
    . by_cases hb:b=a
      . have z':=(if_pos hb).symm.trans z
        cases z'
        subst hb
        exact⟨ha,by rw[Q0];exact hl,vs,_,rv,ha⟩
      . have z':=(if_neg hb).symm.trans z
        cases z'
    . by_cases hb:b=a
      . exact hb
      . exact absurd (if_neg hb) z
abbrev KOf{K:W.Frag}{h:Heap}(_:K.In h):W.Frag:=K
theorem walk_of{l:W.OpenLaw}{n:Nat}{q:Program}{loose:List Str}{XP:(Str->Option Value)->Heap->Prop}{YP:World->Heap->Prop}{d:DefRec}{K:Params->W.Frag}{CX:World->iE}{sp:World->Sp}
  (hn:l.most=some n) (hn2:n<=sizeLine) (hdf:d.params.defaults=[]) (hr:bC k callerA)
  (hY:∀(w:World) (h:Heap),YP w h->(K w.params).In h)
  (F:∀(w:World) (mg:Str->Option Value) (fa:Addr) (h:Heap),(K w.params).In h->h.Ns mainGlobals mg->mg d.name=some (.ref fa) ->
   ∃fd:FuncData,(∀(s:Shared) (u:Value),BindsTo s fd ⟨[u],[]⟩ [(x,u)]) /\
    ∀base:Heap,(K w.params).In base->base.Ns mainGlobals mg->br l.prog w (K w.params) mg base (CX w) k fa fd [x] (sp w))
  (hsp:∀(w:World) (H:Hp) (a:Addr) (ns:List Int),ns.length<=n->tE H->cj (K w.params) H a (ns.map V.int)->sp w [.ref a] H (fun v _=>v=.bl true) fun _ _ _=>False)
  (hCX:∀(w:World) (H:Hp) (s:Shared) (e:Value) (s':Shared),CX w [] H s (fun _ _ _=>False) e s'->False) :
  W.WalkO q loose XP YP l.row.toRowW d [] (fun f vs=>PySem.call f vs):=by
 refine Att.attach_call hn hdf fun w s₀ s₁ mg mb fa o pm cd doc a vs ns G Y ho hd hcd hmg hobj hints hlen hg=>?_
 have KX:=hY w _ Y
 obtain⟨fd,hb,hF⟩:=F w mg fa _ KX G.T.g hmg
 exact rZ KX G.T.g G.T.b G.T.builtins G.T.nolimit hg hobj hints (QD hlen hn2) hr hF hb (fun H hO hS=>hsp w H a ns hlen hO hS) fun H e s'=>hCX w H s₁ e s'
end L2
/- THE LAST THEOREM (shape;LID,My.* are yours):
   My.Adr: a structure of the addresses that your layer names (classes,functions);My.Txt K t: a structure (Prop) of the equations over K;
   My.txt_mk:{K} {implicit addresses ..} (e1:nsIn K mainGlobals "law" = some (some (.ref f))) (e2:K.lookup f=some ⟨oc,od,.func (fnOf "law" "law" params body scope dV kV doc pm an cdv ct),sl⟩) (e3:codeIn K cdv "law" = true) ..:∃t,My.Txt K t
set_option maxRecDepth 100000 in
set_option maxHeartbeats 0 in
theorem PySem.Challenge.cw_LID_holds : PySem.Challenge.rw_LID.Holds := by
 w_on;o_law;k_head;(case hw=>w_witness2)
 k_fill
 refine L2.walk_of (l:=PySem.Challenge.rw_LID) (n:=63) (k:=40) (x := "script") (CX:=fun w=>..) (sp:=fun _=>My.sp_law) rfl (by decide) rfl ⟨rfl,by decide,by decide⟩ (fun w h Y=>PySem.W.kIn_of Y) ?F ?S ?C
 case F =>
  intro w mg fa h KX G hmg
  have T:∃t,My.Txt (L2.KOf KX) t:=by
   dsimp only[L2.KOf]                          -- K must stand as «<heap const> w.params» for k_is
   refine' My.txt_mk ?e1 ?e2 ?e3 ..
   (case e1=>PySem.W.k_is)                    -- in the order: a name->its address->its object->its parts
   (case e2=>PySem.W.k_is)
   ..
  obtain⟨t,T⟩:=T
  have e0:=hmg.symm.trans (PySem.W.mg_of KX G T.law)
  cases e0                                       -- fa is the law's own address
  exact⟨_,fun s u=>.of_eq rfl,fun base kb nb=>My.law_fn T kb nb⟩     -- if «.of_eq rfl» comes too early: refine' ⟨_,?b,fun base kb nb=>My.law_fn T kb nb⟩;exact fun s u=>.of_eq rfl
 case S=>exact fun w H a ns hl hO hS=>..
 case C=>exact ..
(the tactic k_is has no namespace: write k_is) -/
namespace L2
open PySem PySem.Spec PyProof.Rows
variable{qual x:Str}{st:Stmt}{f:Addr}{fd:FuncData}{ps:List Str}{H H':Hp}
def bg(s:Stmt):Arguments:=match s with
 | .FunctionDef _ a _ _ _ _ _ _ _ _=>a
 | _ => { posonlyargs:=[],args:=[],vararg:=none,kwonlyargs:=[],kw_defaults:=[],kwarg:=none,defaults:=[] }
def am(s:Stmt):List Stmt:=match s with
 | .FunctionDef _ _ b _ _ _ _ _ _ _=>b
 | _=>[]
def ae(s:Stmt):Scope:=match s with
 | .FunctionDef _ _ _ _ _ _ sc _ _ _=>sc
 | _ => { kind:=.function,names:=[],isGenerator:=false,isCoroutine:=false }
abbrev cz:iE:=fun _ _ _ _ _ _=>False
abbrev E0:XK:=fun _ _ _=>False
theorem gQ{X:Cx}:fi cz X E0:=fun _ _ _ _ _ _ _ h=>h.elim
structure fX(K:W.Frag)(x qual:Str)(st:Stmt)(f:Addr)(fd:FuncData):Prop where
 ex:∃(oc:Value) (od:Option Addr) (kV doc pm:Value) (an:Option Addr) (cdv ct:Value) (osl:Array (Option Value)),
  fd=W.fnOf x qual (bg st) (am st) (ae st) .none kV doc pm an cdv ct/\K.lookup f=some ⟨oc,od,.func fd,osl⟩/\W.codeIn K cdv qual=true
 kp:W.keepIn K (.ref f)=true
section
variable{P:Program}{w:World}{K:W.Frag}{mg:Str->Option Value}{base:Heap}
theorem fX.ok{N:List Str}{k:Nat}{sp:Sp}(F:fX K x qual st f fd)(S:aM N ps (ae st))(len:∀vs H Q E,sp vs H Q E->vs.length=ps.length)
  (hbody:∀(cdv:Value) (A:Around) (outer:List Env) (s:Shared) (H:Hp) (vs:List V) (Q:VK) (E:XK),bC k (A.deeper (envOfC qual (ae st) s.heap.objs.size f cdv))->sp vs H Q E ->
   ∃t,dP (cn cz P w K mg base N qual (ae st) f cdv A outer s H E).nox (am st) t/\t { nx:=fun _ H'=>Q .non H',rt:=Q } (start N vs) H):br P w K mg base cz (k+1) f fd ps sp:=by
 obtain⟨oc,od,kV,doc,pm,an,cdv,ct,osl,rfl,lk,hcd⟩:=F.ex
 refine qI lk hcd S len fun A outer s H vs Q E hr hsp=>?_
 obtain⟨t,h,q⟩:=hbody cdv A outer s H vs Q E hr hsp
 exact⟨t,h.nox,q⟩
theorem fX.binds(F:fX K x qual st f fd)
  (h:∀(kV doc pm:Value) (an:Option Addr) (cdv ct:Value) (us:List Value),us.length=ps.length->bindArgs (W.fnOf x qual (bg st) (am st) (ae st) .none kV doc pm an cdv ct) ⟨us,[]⟩=pure (ps.zip us)):bH K fd ps []:=by
 obtain⟨oc,od,kV,doc,pm,an,cdv,ct,osl,rfl,lk,hcd⟩:=F.ex
 exact .all (h kV doc pm an cdv ct)
theorem bD{oc:Value}{od an:Option Addr}{osl:Array (Option Value)}{kV doc pm cdv ct:Value}(l:K.lookup f=some ⟨oc,od,.func (W.fnOf x qual (bg st) (am st) (ae st) .none kV doc pm an cdv ct),osl⟩)
  (c:W.codeIn K cdv qual=true) (k:W.keepIn K (.ref f)=true):fX K x qual st f (W.fnOf x qual (bg st) (am st) (ae st) .none kV doc pm an cdv ct):=⟨⟨oc,od,kV,doc,pm,an,cdv,ct,osl,rfl,l,c⟩,k⟩
end
section
variable{X:Cx}
end
def av(H H':Hp):Prop:=∀b o,H b=some o->H' b=some o
theorem av.refl(H:Hp):av H H:=fun _ _ h=>h
theorem av.trans{H1 H2:Hp}(a:av H H1)(b:av H1 H2):av H H2:=fun c o h=>b c o (a c o h)
theorem av.free(e:av H H'){l:Addr}(h:H' l=Option.none):H l=Option.none:=by
 cases q:H l with
 | none=>rfl
 | some o =>
  rw[e l o q]at h
  cases h
theorem av.seq{K:W.Frag}{a:Addr}{xs:List V}(e:av H H')(h:cj K H a xs):cj K H' a xs:=by
 rcases h with(h|⟨o,h⟩)|h
 ·exact .inl (.inl (e _ _ h))
 ·exact .inl (.inr ⟨o,e _ _ h⟩)
 ·exact .inr h
end L2
set_option maxHeartbeats 4000000
namespace L2
open PySem PySem.Spec PyProof.Rows
variable{hid:List Addr}{H:Hp}{base h h1 h2:Heap}{P prog:Program}{w:World}{M:Model}{A:Around}{E R:Value->Shared->Prop}{s:Shared}{C L N S T e fI t0 x:Addr}{oI oe ox:Obj}{vs:Array Value}{Q:Unit->Shared->Prop}{env:Env}{outer:List Env}{dd od:Option Addr}{a0 v:Value}{K:W.Frag}{g:Array GenState}{d:Drawn}{os:OsState}{name q:Str}{bm bmB bs sub:List Value}{ab hdct:Bool}{sn:List Str}{col:Option Bool}{k0 k1 k2 k3 k5:Option Value}{B initId newId:String}{pos:Pos}{t:Nat}{mN:Str->Option Value}{cd:ClassData}
theorem qT{fs:List Addr}{H':Hp}(u:Un fs [] H H' h h1)(hh:∀b o,h.get? b=some o->b∈hid->b∈fs)(k:∀b o,h1.get? b=some o->b∉hid->h2.get? b=some o)
  (kf:∀b∈fs,∀o,h1.get? b=some o->∃sl,h2.get? b=some { o with slots:=sl }):Un fs [] H H' h h2:=by
 refine⟨fun b o e n hb hx=>?_,fun b o e n hb hx=>?_,u.free,fun b o e hx=>?_,u.tups,u.frzs,u.tbls⟩
 ·exact k b o (u.keep b o e n hb hx) fun z=>hb (hh b o e z)
 ·obtain⟨sl,e1⟩:=u.slot b o e n hb hx
  obtain⟨sl',e2⟩:=kf b hb _ e1
  exact⟨sl',e2⟩
 ·obtain⟨o',e1⟩:=u.there b o e hx
  by_cases z:b∈hid
  ·obtain⟨sl,e2⟩:=kf b (hh b o e z) _ e1
   exact⟨_,e2⟩
  ·exact⟨o',k b o' e1 z⟩
theorem oq(hk:cD P w H h1)(hn:∀b∈hid,H b=none)(k:∀b o,h1.get? b=some o->b∉hid->h2.get? b=some o):cD P w H h2:=fun a o e=>by
 have ne:∀b u,H b=some u->b∉hid:=fun b u e z=>by rw[hn b z]at e;cases e
 refine(hk a o e).stay (fun c v hc q=>k c v q ?_) (fun _ q=>q) fun _ _ q=>q
 rcases hc with z|z
 ·rw[z];exact ne a o e
 ·exact ne c _ z
theorem uL{h base:Heap}:∀{l:List Env},h.FunFrames base l->∀b∈cw l,∃o,h.get? b=some o/\∀vs,o.data ≠ .fields vs
 | [],_,b,hb=>by cases hb
 | env::l,hf,b,hb=>by
  obtain⟨h1,⟨L,o,e1,e2,e3,e4⟩,h2⟩:=hf
  unfold cw at hb;rw[RT,e1]at hb
  rcases QA.mp hb with rfl|hb
  ·exact⟨o,e3,e4⟩
  ·exact uL h2 b hb
def IP(x C T:Addr)(od:Option Addr)(h:Heap):Prop:=∃oe vs oT ts a0,h.get? x=some oe/\oe.cls=.ref C/\oe.dict=od/\oe.data=.fields vs/\vs[0]?=some a0/\vs[1]?=some (.ref T)/\T≠x/\h.get? T=some oT/\oT.data=.fields ts/\ts[3]?=some .none
def cq(P:Program)(w:World):iE:=fun outer H s E e s' => ∃x C T od H',e=.ref x/\s.heap.get? x=none/\s.heap.get? T=none/\IP x C T od s'.heap/\s'.os=s.os/\AllBare s'.gens /\
 Un (cw outer) [] H H' s.heap s'.heap/\cD P w H' s'.heap/\H' x=none/\H' T=none/\E (.ref C) od H'
theorem xE{a:Addr}:∀{o:HO},bG P w H h a o->∃u,h.get? a=some u
 | .lst xs,x=>let ⟨_,_,_,_,e⟩:=x;⟨_,e⟩
 | .tup xs,x=>let ⟨_,_,_,o,e,_⟩:=x;⟨o,e⟩
 | .dK kvs,x=>let ⟨_,_,_,_,o,_,_,e,_⟩:=x;⟨_,e⟩
 | .dT kvs,x=>let ⟨_,_,_,_,o,_,_,e,_⟩:=x;⟨_,e⟩
 | .set S n,x=>let ⟨o,_,_,_,e,_⟩:=x;⟨_,e⟩
 | .ins C dx fs,x=>let ⟨_,_,_,e,_⟩:=x;⟨_,e⟩
 | .own y,x=>x
 | .xd fs,x=>let ⟨_,⟨_,_,_,e,_⟩,_⟩:=x;⟨_,e⟩
 | .rng lo hi,x=>let ⟨_,_,_,e⟩:=x;⟨_,e⟩
 | .frz ob u,x=>⟨_,x.1⟩
 | .tbl ps,x=>⟨_,(show h.get? a=some _ from x)⟩
 | .met f y,x=>⟨_,(show h.get? a=some _ from x)⟩
 | .ext φ,x=>x.2.1
theorem sy{h h' base:Heap}:∀{l:List Env},h.FunFrames base l->(∀b∈cw l,∀o,h.get? b=some o->∃sl,h'.get? b=some { o with slots:=sl })->h'.FunFrames base l
 | [],_,_=>True.intro
 | env::l,hf,hb=>by
  obtain⟨h1,⟨L,o,e1,e2,e3,e4⟩,h2⟩:=hf
  have hm:L∈cw (env::l):=by unfold cw;rw[RT,e1];exact QE
  obtain⟨sl,e5⟩:=hb L hm o e3
  refine⟨h1,⟨L,_,e1,e2,e5,e4⟩,sy h2 fun b z=>hb b ?_⟩
  unfold cw;rw[RT,e1];exact QB _ z
theorem sC{oT:Obj}{ts:Array Value}(e1:s.heap.get? x=some oe)(e3:oe.data=.fields vs)(e5:vs[1]?=some (.ref T))(f1:s.heap.get? T=some oT)(f2:oT.data=.fields ts)(f3:3<ts.size)
  (h:Q () { s with heap:=s.heap.update T (Obj.mapFields fun v=>v.setIfInBounds 3 .none) }):wpAny M A (setFlight (.ref x) none) Q E s:=by
 unfold setFlight
 refine Qx (Re e1 e3 e5 ?_)
 rw[if_pos (by simp)]
 exact SH f1 f2 f3 h
theorem Gi(fs:A.frames=some (env::outer))(hf:s.heap.FunFrames base (env::outer))(hfr:env.frame=some L)
    (e1:s.heap.get? x=some oe) (e3:oe.data=.fields vs) (hsz:1<vs.size) (e5:vs[1]?=some .none\/∃T oT ts,vs[1]?=some (.ref T)/\T≠x/\s.heap.get? T=some oT/\oT.data=.fields ts/\ts[3]?=some .none)
    (h:∀h2 T',(∀b o,s.heap.get? b=some o->b≠x->vs[1]? ≠ some (.ref b)->b∉cw (env::outer)->h2.get? b=some o)->(∀b∈cw (env::outer),∀o,s.heap.get? b=some o->∃sl,h2.get? b=some { o with slots:=sl }) ->
      s.heap.get? T'=none->T'≠x->h2.get? x=some (Obj.mapFields (fun v=>v.setIfInBounds 1 (.ref T')) oe)->(∃oT ts,h2.get? T'=some oT/\oT.data=.fields ts/\ts[3]?=some (rawInt L))->Q () { s with heap:=h2 }):wpAny M A (noteFrame (.ref x) env) Q E s:=by
  have xf:x∉cw (env::outer):=fun hm=>by
    obtain⟨_,o,ho,hn⟩:=Heap.FunFrames.mem hf hm
    rw[e1]at ho;cases ho
    exact hn vs e3
  have core:∀(s1:Shared) (head:Value) (hn:Bool),s1.gens=s.gens->s1.drawn=s.drawn->s1.toks=s.toks->s1.os=s.os->s1.heap.objs.size=s.heap.objs.size->s1.heap.get? x=some oe->s1.heap.FunFrames base (env::outer)->(∀b o,s.heap.get? b=some o->b≠x->vs[1]? ≠ some (.ref b)->s1.heap.get? b=some o)->(∀b∈cw (env::outer),∀o,s.heap.get? b=some o->s1.heap.get? b=some o) ->
      wpAny M A (do
        let a <- PySem.frameOf env
        let pl <- entryPlaceOf L hn
        let b <- EntryCells.newEntry head a Value.none (rawInt L) Value.none pl
        setField (.ref x) 1 b) Q E s1:=fun s1 head hn g1 g2 g3 g4 g5 k1 k2 k3 k4=>by
    refine Qx (wpAny_frameOf_fun fs k2 hfr fun h1 so=>Qx (wpAny_entryPlaceOf fun pl hpl=>?_))
    unfold EntryCells.newEntry newFields
    refine Qx (RF ?_ (hd:=?_))
    rotate_left
    . show Array.size _<=sizeLine+2
      rw[RV]
      rcases hpl with rfl|⟨a,b,c,d,c9,b10,_,rfl⟩<;>simp
    have he1:h1.get? x=some oe:=(so.2.1 x xf).trans k1
    have he2:=Qy { cls:=.type "traceback", data:=.fields ([head,.ref L,.none,rawInt L,.none]++(if pl.isEmpty then List.replicate 6 .none else pl)).toArray } he1
    have szT:h1.objs.size=s.heap.objs.size:=so.1.trans g5
    have nT:h1.objs.size≠x:=RL (QC he1)
    refine SH he2 e3 hsz ?_
    have st:(⟨s.heap,s.gens,s.drawn,s.toks,s.os⟩:Shared)=s:=rfl
    have key:=h ((h1.push { cls:=.type "traceback", data:=.fields ([head,.ref L,.none,rawInt L,.none]++(if pl.isEmpty then List.replicate 6 .none else pl)).toArray }).update x (Obj.mapFields fun v=>v.setIfInBounds 1 (.ref h1.objs.size))) h1.objs.size ?_ ?_ ?_ nT ?_ ?_
    . rw[<- g1,<- g2,<- g3,<- g4]at key;exact key
    . intro b o eb b1 b2 b3
      rw[QQ _ _ (RB b1)]
      exact Qy _ ((so.2.1 b b3).trans (k3 b o eb b1 b2))
    . intro b hb o eb
      obtain⟨sl,z⟩:=so.2.2 b o (k4 b hb o eb)
      refine⟨sl,?_⟩
      rw[QQ _ _ (show x≠b from fun z=>xf (by rw[z];exact hb))]
      exact Qy _ z
    . rw[szT]
      cases z:s.heap.get? s.heap.objs.size with
      | none=>rfl
      | some o=>exact absurd (QC z) (Q6 _)
    . exact Ru _ he2 (Obj.isFreed_of_fields (Sg e3 _))
    . refine⟨{ cls:=.type "traceback", data:=.fields ([head,.ref L,.none,rawInt L,.none]++(if pl.isEmpty then List.replicate 6 .none else pl)).toArray },_,?_,rfl,by simp⟩
      rw[QQ _ _ (RB nT)]
      exact QH _ rfl
  unfold noteFrame
  rw[hfr]
  dsimp only
  rcases e5 with e5|⟨T,oT,ts,e5,f0,f1,f2,f3⟩
  . refine Qx (Re e1 e3 e5 ?_)
    rw[if_neg (by simp)]
    exact core s _ _ rfl rfl rfl rfl rfl e1 hf (fun b o eb _ _=>eb) fun b _ o eb=>eb
  . refine Qx (Re e1 e3 e5 ?_)
    rw[if_pos (by simp)]
    refine Qx (Re f1 f2 f3 ?_)
    rw[if_neg (by simp[rawInt])]
    have f4:3<ts.size:=by
      rcases RW 3 ts.size with z|z
      . exact z
      . rw[RX z]at f3;cases f3
    have Tf:T∉cw (env::outer):=fun hm=>by
      obtain⟨_,o,ho,hn⟩:=Heap.FunFrames.mem hf hm
      rw[f1]at ho;cases ho
      exact hn ts f2
    refine Qx (SH f1 f2 f4 ?_)
    refine core _ _ _ rfl rfl rfl rfl (Heap.size_update ..) ((QQ _ _ f0).trans e1) ?_ ?_ ?_
    . exact sy hf fun b hb o eb=>⟨o.slots,(QQ _ _ (show T≠b from fun z=>Tf (by rw[z];exact hb))).trans eb⟩
    . intro b o eb b1 b2
      exact(QQ _ _ (fun z=>b2 (by rw[e5,z]))).trans eb
    . intro b hb o eb
      exact(QQ _ _ (show T≠b from fun z=>Tf (by rw[z];exact hb))).trans eb
section
variable{X:Cx}{pins:List (Addr×Obj)}{σ:St}{H':Hp}
theorem al.frame(I:al X pins σ H s)(hs:X.stack=X.env::X.outer):X.env.frame=some X.env.locals:=by
 rcases I.ok.stk with z|z
 ·have:=SC List.length (hs.symm.trans z)
  simp at this
 ·exact z.2
structure i6(X:Cx)(hid:List Addr)(h1 h2:Heap):Prop where
 keep:∀b o,h1.get? b=some o->b∉hid->h2.get? b=some o
 up:∀b∈cw X.stack,∀o,h1.get? b=some o->∃sl,h2.get? b=some { o with slots:=sl }
theorem i6.trans{h3:Heap}(a:i6 X hid h1 h2)(b:i6 X hid h2 h3):i6 X hid h1 h3 :=
 ⟨fun c o e n=>b.keep c o (a.keep c o e n) n,fun c hc o e=>by
  obtain⟨sl,e1⟩:=a.up c hc o e
  obtain⟨sl',e2⟩:=b.up c hc _ e1
  exact⟨sl',e2⟩⟩
theorem pM{l:List Env}(h:env.frame=some L):cw (env::l)=L::cw l:=by unfold cw;rw[RT,h]
theorem yg{E:XK}(I:al X pins σ H s)(hs:X.stack=X.env::X.outer)(hex:X.ex=[])(h1:∀b∈hid,b∈cw X.stack\/X.s₀.heap.get? b=none)(h2n:∀b∈hid,H b=none)
  (ov:i6 X hid s.heap h2) (t:IP x C T od h2) (hT:s.heap.get? T=none\/T∈hid) (hx:X.s₀.heap.get? x=none) (hxn:H x=none) (q:E (.ref C) od H):cq X.prog X.w X.outer X.H₀ X.s₀ E (.ref x) { s with heap:=h2 }:=by
 have hfr:=I.frame hs
 have nL:∀b o,X.s₀.heap.get? b=some o->b≠X.env.locals:=fun b o e=>QT (QG (QC e) I.ok.above)
 have ub:Un X.fs [] X.H₀ H X.s₀.heap s.heap:=by have:=I.base;rw[hex]at this;exact this
 have hf:=I.stack
 have dat:∀b∈cw X.stack,b≠T:=fun b hb z=>by
  obtain⟨o,e,d⟩:=uL hf b hb
  obtain⟨sl,e2⟩:=ov.up b hb o e
  obtain⟨oe,vs,oT,ts,a0,_,_,_,_,_,_,_,e7,e8,_⟩:=t
  rw[z,e7]at e2
  cases e2
  exact d ts e8
 have old:X.s₀.heap.get? T=none:=by
  cases z:X.s₀.heap.get? T with
  | none=>rfl
  | some o =>
   obtain⟨o',e⟩:=ub.there T o z (by simp)
   rcases hT with hT|hT
   ·rw[hT]at e;cases e
   ·rcases h1 T hT with h|h
    ·exact absurd rfl (dat T h)
    ·rw[h]at z;cases z
 refine⟨x,C,T,od,H,rfl,hx,old,t,I.os,I.bare,qT (hid:=hid) ub (fun b o e hb=>?_) ov.keep (fun b hb o e=>ov.up b (by rw[hs,pM hfr];exact QB _ hb) o e),oq I.hok h2n ov.keep,hxn,?_,q⟩
 ·rcases h1 b hb with h|h
  ·rw[hs,pM hfr]at h
   rcases QA.mp h with h|h
   ·exact absurd h (nL b o e)
   ·exact h
  ·rw[h]at e;cases e
 ·cases z:H T with
  | none=>rfl
  | some o =>
   obtain⟨u,e⟩:=xE (I.hok T o z)
   rcases hT with hT|hT
   ·rw[hT]at e;cases e
   ·rw[h2n T hT]at z;cases z
theorem lQ(fs:A.frames=some (env::outer))(hf:s.heap.FunFrames base (env::outer))(hfr:env.frame=some L)
  (e1:s.heap.get? x=some oe) (e2:oe.cls=.ref C) (e6:oe.dict=od) (e3:oe.data=.fields vs) (hsz:1<vs.size) (e4:vs[0]?=some a0) (e5:vs[1]?=some .none\/∃T oT ts,vs[1]?=some (.ref T)/\T≠x/\s.heap.get? T=some oT/\oT.data=.fields ts/\ts[3]?=some .none)
  (h:∀h2 T',(∀b o,s.heap.get? b=some o->b≠x->vs[1]? ≠ some (.ref b)->b∉cw (env::outer)->h2.get? b=some o)->(∀b∈cw (env::outer),∀o,s.heap.get? b=some o->∃sl,h2.get? b=some { o with slots:=sl }) ->
   s.heap.get? T'=none->IP x C T' od h2->Q () { s with heap:=h2 }):wpAny M A (noteFrame (.ref x) env) (fun _ s2=>wpAny M A (setFlight (.ref x) none) Q E s2) E s:=by
 refine Gi fs hf hfr e1 e3 hsz e5 fun h2 T' k1 k2 nT nTx ex ⟨oT,ts,f1,f2,f3⟩=>?_
 have d1:(Obj.mapFields (fun v=>v.setIfInBounds 1 (.ref T')) oe).data=.fields (vs.setIfInBounds 1 (.ref T')):=Sg e3 _
 have v1:(vs.setIfInBounds 1 (.ref T'))[1]?=some (.ref T'):=by simp[hsz]
 have f4:3<ts.size:=by
  rcases RW 3 ts.size with z|z
  ·exact z
  ·rw[RX z]at f3;cases f3
 refine sC (s:={ s with heap:=h2 }) ex d1 v1 f1 f2 f4 ?_
 have nT2:∀b o,s.heap.get? b=some o->T'≠b:=fun b o eb z=>by rw[<- z,nT]at eb;cases eb
 have ce:(Obj.mapFields (fun v=>v.setIfInBounds 1 (.ref T')) oe).cls=.ref C/\(Obj.mapFields (fun v=>v.setIfInBounds 1 (.ref T')) oe).dict=od:=by
  obtain⟨c,d,da,sl⟩:=oe
  simp only at e3 e2 e6
  subst e3
  exact⟨e2,e6⟩
 refine h (h2.update T' _) T' (fun b o eb b1 b2 b3=>(QQ _ _ (nT2 b o eb)).trans (k1 b o eb b1 b2 b3)) (fun b hb o eb=>?_) nT ⟨_,_,_,_,a0,(QQ _ _ nTx).trans ex,ce.1,ce.2,d1,?_,v1,nTx,Ru _ f1 (Obj.isFreed_of_fields (Sg f2 _)),Sg f2 _,by simp[f4]⟩
 ·obtain⟨sl,z⟩:=k2 b hb o eb
  exact⟨sl,(QQ _ _ (nT2 b o eb)).trans z⟩
 ·rw[Array.getElem?_setIfInBounds_ne (by decide)];exact e4
theorem ij{E:XK}(I:al X pins σ H s)(hs:X.stack=X.env::X.outer)(hex:X.ex=[])(e1:s.heap.get? e=some oe)(e2:oe.cls=.ref C)(e6:oe.dict=od)(e3:oe.data=.fields vs)(hsz:1<vs.size)(e4:vs[0]?=some a0)(e5:vs[1]?=some .none)
  (n0:X.s₀.heap.get? e=none) (nH:H e=none) (q:E (.ref C) od H) :
  wpAny (model X.prog X.w) X.A (leaving X.env (.ref e)) (fun _ s''=>cq X.prog X.w X.outer X.H₀ X.s₀ E (.ref e) s'') R s:=by
 have hfr:=I.frame hs
 have fs:X.A.frames=some (X.env::X.outer):=by rw[<- hs];exact I.ok.frames
 have hf:=I.stack
 rw[hs]at hf
 refine Qx (lQ (C:=C) (od:=od) fs hf hfr e1 e2 e6 e3 hsz e4 (.inl e5) fun h2 T' k1 k2 nT tr=>?_)
 have ov:i6 X (e::cw X.stack) s.heap h2:=⟨fun b o eb nb=>k1 b o eb (fun z=>nb (by rw[z];exact QE)) (by rw[e5];intro z;cases z) (fun z=>nb (QB _ (by rw[hs];exact z))),fun b hb o eb=>k2 b (by rw[<- hs];exact hb) o eb⟩
 refine yg (s:=s) I hs hex (fun b hb=>?_) (fun b hb=>?_) ov tr (.inl nT) n0 nH q
 ·rcases QA.mp hb with rfl|hb
  ·exact .inr n0
  ·exact .inl hb
 ·rcases QA.mp hb with rfl|hb
  ·exact nH
  ·exact I.stkFree b hb
theorem lB{h':Heap}{vs:List Value}{E:XK}(I:al X pins σ H s)(hs:X.stack=X.env::X.outer)(hex:X.ex=[])(m:s.heap.MadeExcOf h' e (.ref C) vs)(q:E (.ref C) none H) :
  wpAny (model X.prog X.w) X.A (leaving X.env (.ref e)) (fun _ s''=>cq X.prog X.w X.outer X.H₀ X.s₀ E (.ref e) s'') R { s with heap:=h' }:=by
 have ub:Un X.fs [] X.H₀ H X.s₀.heap s.heap:=by have:=I.base;rw[hex]at this;exact this
 obtain⟨t,m1,m2,m3⟩:=m.there
 refine ij (s:={ s with heap:=h' }) (I.kept (t':=s.toks) m.keeps) hs hex m1 rfl rfl rfl (by simp) rfl rfl ?_ ?_ q
 ·cases z:X.s₀.heap.get? e with
  | none=>rfl
  | some o=>obtain⟨o',e'⟩:=ub.there e o z (by simp);rw[m.new]at e';cases e'
 ·cases z:H e with
  | none=>rfl
  | some o=>obtain⟨u,e'⟩:=xE (I.hok e o z);rw[m.new]at e';cases e'
theorem gS{E:XK}{e:Value}{s':Shared}(I:al X pins σ H s)(hs:X.stack=X.env::X.outer)(hex:X.ex=[])(c:cq X.prog X.w X.stack H s E e s') :
  wpAny (model X.prog X.w) X.A (leaving X.env e) (fun _ s''=>cq X.prog X.w X.outer X.H₀ X.s₀ E e s'') R s':=by
 obtain⟨x,C,T,od,H',rfl,hx,hT,t,ho,hg,u,hk,nx,nT,q⟩:=c
 have J:al X pins σ H' s':=I.call' (ch:=[]) ho u hk hg (fun b z=>absurd z (by simp))
 have hfr:=I.frame hs
 have ub:Un X.fs [] X.H₀ H X.s₀.heap s.heap:=by have:=I.base;rw[hex]at this;exact this
 have fs:X.A.frames=some (X.env::X.outer):=by rw[<- hs];exact I.ok.frames
 have hf:=J.stack
 rw[hs]at hf
 have old:∀b,s.heap.get? b=none->X.s₀.heap.get? b=none:=fun b hb=>by
  cases z:X.s₀.heap.get? b with
  | none=>rfl
  | some o=>obtain⟨o',e'⟩:=ub.there b o z (by simp);rw[hb]at e';cases e'
 obtain⟨oe,vs,oT,ts,a0,e1,e2,e6,e3,e4,e5,f0,f1,f2,f3⟩:=id t
 have hsz:1<vs.size:=by
  rcases RW 1 vs.size with z|z
  ·exact z
  ·rw[RX z]at e5;cases e5
 refine Qx (lQ (C:=C) (od:=od) fs hf hfr e1 e2 e6 e3 hsz e4 (.inr ⟨T,oT,ts,e5,f0,f1,f2,f3⟩) fun h2 T2 k1 k2 nT2 tr=>?_)
 have ov:i6 X (x::T::cw X.stack) s'.heap h2:=⟨fun b o eb nb=>k1 b o eb (fun z=>nb (by rw[z];exact QE)) (by rw[e5];intro z;injection z with z;injection z with z;exact nb (by rw[<- z];exact QB _ QE)) (fun z=>nb (QB _ (QB _ (by rw[hs];exact z)))),fun b hb o eb=>k2 b (by rw[<- hs];exact hb) o eb⟩
 refine yg J hs hex (fun b hb=>?_) (fun b hb=>?_) ov tr (.inl nT2) (old x hx) nx q
 ·rcases QA.mp hb with rfl|hb
  ·exact .inr (old _ hx)
  ·rcases QA.mp hb with rfl|hb
   ·exact .inr (old _ hT)
   ·exact .inl hb
 ·rcases QA.mp hb with rfl|hb
  ·exact nx
  ·rcases QA.mp hb with rfl|hb
   ·exact nT
   ·exact J.stkFree b hb
end
abbrev fG:List Value:=[Value.type "ValueError", Value.type "Exception", Value.type "BaseException", Value.type "object"]
theorem g7{D:Addr}(e1:h.get? x=some ox)(e2:ox.cls=.ref D):∀M,W.Looks M h (typeOf (.ref x)) (.ref D):=by
 intro M A Q E s hk hq
 unfold typeOf
 refine Qx (wpAny_loadPart (hk _ _ e1) ?_)
 rw[e2]
 exact Qz hq
theorem vW{D:Addr}{R:Result->Shared->Prop}{tp:Value}{tk:Nat}(KI:K.In h)(ty:∀M,W.Looks M h (typeOf (.ref x)) (.ref D))(hm:W.mroIn K D (.type "object")=some true)
  (hR:R (.ok (.ret (.ref D))) ⟨h,g,d,tk,os⟩):codeAny (model prog w) A (.call (.builtin "getset_descriptor.__get__") ⟨[.builtin "object.__class__", .ref x,tp],[]⟩) R ⟨h,g,d,tk,os⟩:=by
 refine codeAny_call_builtin W.KF.slot_gs.plain W.KF.entry_gs ?_
 refine W.KF.slot_gs.check _ _ _ _ _ _ _ _ ?_ (W.KF.args_gs _ _ _) ?_
 ·exact W.KF.type_class
 show wpAny _ _ (Builtin.Getset_descriptor.descrGet ⟨[.builtin "object.__class__", .ref x,tp],[]⟩) _ _ _
 unfold Builtin.Getset_descriptor.descrGet
 rw[W.dga_obj]
 refine Qx (Qz ?_)
 dsimp only
 unfold Builtin.Getset_descriptor.descrGetter
 dsimp only
 refine Qx ?_
 unfold Builtin.Getset_descriptor.descrCheckInstance
 refine Qx ?_
 unfold Builtin.Getset_descriptor.descrNameAndClass
 dsimp only
 rw[W.KF.owner_class]
 refine Qz ?_
 dsimp only
 refine Qx ?_
 unfold isInstance
 refine Qx (RJ (ty _) (RJ (W.looks_mroIn KI hm) ?_))
 rw[if_neg (by simp)]
 refine Qz ?_
 refine Qz ?_
 refine⟨Code.quiet_builtin _ (by decide +kernel),codeAny_builtin W.KF.entry_class ?_⟩
 show wpAny _ _ (Builtin.«object.__class__» ⟨[.ref x],[]⟩) _ _ _
 unfold Builtin.«object.__class__»
 dsimp only
 refine Qx ?_
 unfold shownTypeOf
 refine Qx (RJ (ty _) ?_)
 rw[if_neg (by simp)]
 refine Qz ?_
 exact Qz hR
theorem ye{D:Addr}{Q:Option Value->Shared->Prop}{nm:Str}
  (hga:W.findIn K (.ref D) "__getattribute__" = some (some (.builtin "BaseException.__getattribute__"))) (hgt:W.findIn K (.ref D) "__getattr__" = some none)
  (hf:W.findIn K (.ref D) "__class__" = some (some (.builtin "object.__class__"))) (hs:W.specialIn K (.builtin "object.__class__") "__get__" = some (some (.builtin "getset_descriptor.__get__"))) (ht:W.takesIn K (.builtin "object.__class__")=some true) (hm:W.mroIn K D (.type "object")=some true)
  (KI:K.In s.heap) (e1:s.heap.get? x=some ox) (e2:ox.cls=.ref D) (hD:s.heap.get? D=some (excClassObj nm q D N bs bm hdct sn sub ab col dd k0 k1 k2 k3 k5 newId)) (hT:OwnTailQ s.heap fG bm)
  (hq:Q (some (.ref D)) { s with toks:=s.toks+1 }):wpAny (model prog w) A (getAttr? (.ref x) "__class__") Q E s:=by
 obtain⟨h,g,d,tk,os⟩:=s
 have ty:=g7 e1 e2
 have lf:∀M,W.Looks M h (Builtin.ObjectAttr.find (.ref x) (.ref D) "__class__") (.bind (.builtin "getset_descriptor.__get__") (.builtin "object.__class__")):=by
  intro M A Q E s hk hq
  unfold Builtin.ObjectAttr.find
  refine Qx (W.looks_findIn KI hf A _ E s hk ?_)
  refine Qx ?_
  unfold Builtin.ObjectAttr.getOf
  refine W.looks_specialIn KI hs A _ E s hk ?_
  refine Qx ?_
  unfold Builtin.ObjectAttr.dataDescriptor?
  refine Qx (W.looks_takesIn KI ht A _ E s hk ?_)
  rw[if_pos rfl]
  refine Qz ?_
  exact W.Looks.tag (W.Looks.now) A _ E s hk hq
 unfold getAttr?
 refine Qx (wpAny_mkText ?_)
 unfold getAttrBy?
 refine Qx (wpAny_attempt ?_)
 unfold getAttrBy
 refine Q7 (Qx (RJ (ty _) ?_))
 refine Qx (RJ (W.looks_findIn KI hga) ?_)
 dsimp only
 have e9:(onTheHeap (Value.ref D)&&Value.builtin "BaseException.__getattribute__" == Value.builtin "object.__getattribute__")=false:=by
  have e0:(Value.builtin "BaseException.__getattribute__" == Value.builtin "object.__getattribute__")=false:=by decide +kernel
  rw[e0,Bool.and_false]
 rw[e9]
 rw[if_neg (by simp)]
 unfold getAttrByItsOwn
 refine Qx (RJ (W.looks_hook KI (r:=none) (by show(if true=true then W.findIn K (.ref D) "__getattr__" else some none)=some none;rw[if_pos rfl];exact hgt)) ?_)
 refine Qx (wpAny_attempt (Q7 ?_))
 unfold callGetattribute
 rw[if_neg (by simp)]
 unfold boundAndCalled
 rw[(RA.toExcAttrFacts.ga).bind]
 refine Qx (Qz ?_)
 refine Sd (codeAny_call_builtin (RA.toExcAttrFacts.ga).plain PySem.F.entry_bexc_ga ?_)
 refine wpAny_check_ga_own RA hD hT e1 e2 ?_
 show wpAny _ _ (Builtin.«object.__getattribute__» ⟨[Value.ref x,Value.str "__class__" tk],[]⟩) _ _ _
 unfold Builtin.«object.__getattribute__»
 refine Qx ?_
 unfold slotArgs
 dsimp only
 rw[if_neg (by simp),if_neg (by simp)]
 refine Qz ?_
 dsimp only
 refine Qx ?_
 unfold Builtin.ObjectAttr.attrName
 refine Qz ?_
 refine Qx (RJ (ty _) ?_)
 refine Qx (RJ (lf _) ?_)
 dsimp only
 unfold Builtin.ObjectAttr.bindTo
 dsimp only
 refine Qx (Q7 (Sd (vW KI ty hm ?_)))
 refine Qz ?_
 refine W.handed_on rfl ?_
 exact Qz hq
def EU:Value->Bool
 | .str _ _=>true
 | _=>false
def n5(K:W.Frag)(N:Addr):Bool :=
 match K.lookup N with
 | some ⟨_,_,.dict es _,_⟩=>es.toList.all (fun e=>EU e.key)&&quietNames.all fun n=>(nsFind es n).isNone
 | _=>false
def lO(K:W.Frag)(N:Addr):Bool :=
 match K.lookup N with
 | some ⟨_,_,.dict es _,_⟩=>es.toList.all (fun e=>EU e.key)
 | _=>false
def rM(K:W.Frag)(N:Addr):Option Value :=
 match K.lookup N with
 | some ⟨_,_,.dict es _,_⟩=>nsFind es "__init__"
 | _=>none
def fj(K:W.Frag)(C:Addr):Option Value :=
 match K.lookup C with
 | some ⟨_,_,.cls cd,_⟩=>rM K cd.ns
 | _=>none
def Gj(sl:Array (Option Value)):Bool :=
 match sl.toList with
 | [_,_,_,_,some (.builtin id),_]=>id == "ValueError.__new__"
 | _=>false
def iW(K:W.Frag)(C S:Addr):Bool :=
 match K.lookup C,K.lookup S with
 | some ⟨.type t,_,.cls cd,sl⟩,some ⟨_,_,.cls ce,_⟩=>t == "type" && Gj sl&&(cd.mro == .ref C :: .ref S::fG) && !cd.hasDel&&lO K cd.ns&&n5 K ce.ns
 | _,_=>false
theorem zp(q:n5 K N=true)(KI:K.In h):∃mN,h.Ns N mN/\∀n∈quietNames,mN n=none:=by
 unfold n5 at q
 split at q
 ·rename_i c d es ep sl e
  rw[QN]at q
  refine⟨nsFind es,⟨_,es,ep,KI _ _ e,rfl,fun x hx=>?_,fun _=>rfl⟩,fun n hn=>?_⟩
  ·have:=RN.mp q.1 x (by simpa using hx)
   cases hk:x.key with
   | str n t=>exact⟨n,t,rfl⟩
   | _=>rw[hk]at this;cases this
  ·have:=RN.mp q.2 n hn
   simpa using this
 ·cases q
theorem xq(q:lO K N=true)(KI:K.In h):∃mN,h.Ns N mN/\mN "__init__" = rM K N:=by
 unfold lO at q
 unfold rM
 split at q
 ·rename_i c d es ep sl e
  refine⟨nsFind es,⟨_,es,ep,KI _ _ e,rfl,fun x hx=>?_,fun _=>rfl⟩,rfl⟩
  have:=RN.mp q x (by simpa using hx)
  cases hk:x.key with
  | str n t=>exact⟨n,t,rfl⟩
  | _=>rw[hk]at this;cases this
 ·cases q
theorem fA(q:iW K C S=true)(KI:K.In h) :
  ∃nm qn N bs hdct sn sub ab col dd k0 k1 k2 k3 k5 mN,h.get? C=some (excClassObj nm qn C N bs (.ref S::fG) hdct sn sub ab col dd k0 k1 k2 k3 k5 "ValueError.__new__")/\h.Ns N mN/\mN "__init__" = fj K C/\OwnTailQ h fG (.ref S::fG):=by
 unfold iW at q
 split at q
 ·rename_i t d1 cd sl c2 d2 ce sl2 e1 e2
  simp only[QN]at q
  obtain⟨⟨⟨⟨⟨q1,q2⟩,q3⟩,q4⟩,q5⟩,q6⟩:=q
  have q1:t = "type" := by simpa using q1
  subst q1
  replace q3:cd.mro=.ref C :: .ref S::fG:=by simpa using q3
  replace q4:cd.hasDel=false:=by simpa using q4
  obtain⟨mN,n1,n2⟩:=xq q5 KI
  obtain⟨mS,m1,m2⟩:=zp q6 KI
  unfold Gj at q2
  split at q2
  ·rename_i k0 k1 k2 k3 id k5 es
   have q2:id = "ValueError.__new__" := by simpa using q2
   subst q2
   have es:sl = #[k0,k1,k2,k3,some (.builtin "ValueError.__new__"),k5]:=by
    have:=SC List.toArray es
    simpa using this
   subst es
   have g1:=KI _ _ e1
   have g2:=KI _ _ e2
   obtain⟨f1,f2,f3,f4,f5,f6,f7,f8,f9,f10,f11⟩:=cd
   simp only at q3 q4 n1
   subst q3 q4
   exact⟨_,_,_,_,_,_,_,_,_,_,_,_,_,_,_,mN,g1,n1,by rw[n2];unfold fj;rw[e1],.own g2 m1 m2 .base⟩
  ·cases q2
 ·cases q
structure fW(K:W.Frag)(C S:Addr):Prop where
 ex:iW K C S=true
 ga:W.findIn K (.ref C) "__getattribute__" = some (some (.builtin "BaseException.__getattribute__"))
 gt:W.findIn K (.ref C) "__getattr__" = some none
 cl:W.findIn K (.ref C) "__class__" = some (some (.builtin "object.__class__"))
 sp:W.specialIn K (.builtin "object.__class__") "__get__" = some (some (.builtin "getset_descriptor.__get__"))
 tk:W.takesIn K (.builtin "object.__class__")=some true
 mo:W.mroIn K C (.type "object")=some true
theorem fW.is(e:fW K C S):∃cd,W.clsIn K C=some cd:=by
 have:=e.mo
 unfold W.mroIn at this
 cases h:W.clsIn K C with
 | none=>rw[h]at this;cases this
 | some cd=>exact⟨cd,rfl⟩
def IK(x C:Addr)(h:Heap):Prop:=∃o,h.get? x=some o/\o.cls=.ref C
theorem lR(e:fW K C S):W.KitX K (.ref x) (.ref C) (IK x C):=by
 obtain⟨cd,hcd⟩:=e.is
 refine⟨fun M h KI ⟨o,e1,e2⟩=>?_,fun M h KI _=>?_,fun h tp dd its n sl KI ht=>?_,fun {prog w A E Q s} KI ⟨o,e1,e2⟩ hq=>?_⟩
 ·exact g7 e1 e2 M
 ·obtain⟨nm,qn,N,bs,hdct,sn,sub,ab,col,dd,k0,k1,k2,k3,k5,mN,g1,g2,g3,g4⟩:=fA e.ex KI
  intro A Q E s hk hq
  unfold isType
  refine Qx (wpAny_loadPart (hk _ _ g1) ?_)
  exact Qz hq
 ·obtain⟨nm,qn,N,bs,hdct,sn,sub,ab,col,dd,k0,k1,k2,k3,k5,mN,g1,g2,g3,g4⟩:=fA e.ex KI
  rw[RI]
  intro z
  injection z with z
  rw[<- z,g1]at ht
  injection ht with ht
  injection ht with h1
  injection h1 with h1
  exact absurd h1 (by decide)
 ·obtain⟨nm,qn,N,bs,hdct,sn,sub,ab,col,dd,k0,k1,k2,k3,k5,mN,g1,g2,g3,g4⟩:=fA e.ex KI
  exact ye e.ga e.gt e.cl e.sp e.tk e.mo KI e1 e2 g1 g4 hq
theorem yE(S:Addr):(Value.ref S::fG).contains (.type "BaseException")=true:=by
 rw[Ss,show fG.contains (Value.type "BaseException")=true by decide +kernel,Bool.or_true]
section
variable{X:Cx}{pins:List (Addr×Obj)}{σ:St}
theorem lN{x:Str}{np cpos:Pos}{e:Expr}{t:TA}{Q:Flow->Shared->Prop}(I:al X pins σ H s)(hc:X.calm=true)(hg:Gl X x)(hm:X.mg x=some (.ref C))(hx:fW X.K C S)(hin:fj X.K C=none)(hdb:(x==("__debug__" : Str))=false)
  (ha:PA X [e] t) (hn:(backTo cpos (starEach [e] X.env)).any (·.1)=false) (he:starEach [e] X.env=[(false,eval e X.env)])
  (h:t σ H fun vs H1=>vs.length<=sizeLine/\∀s1 h' a us,al X pins σ H1 s1->s1.heap.MadeExcOf h' a (.ref C) us->X.xe (.ref a) { s1 with heap:=h' }) :
  wpAny (model X.prog X.w) X.A (exec (.Raise (some (.Call (.Name x np) [e] [] cpos)) none pos) X.env) Q X.xe s:=by
 obtain⟨nm,qn,N,bs,hdct,sn,sub,ab,col,dd,k0,k1,k2,k3,k5,mN,g1,g2,g3,g4⟩:=fA hx.ex I.ok.mod.kin
 refine wpAny_Raise_call_subT (nm:=nm) (q:=qn) (N:=N) (bs:=bs) (bm:=.ref S::fG) (hdct:=hdct) (sn:=sn) (sub:=sub) (ab:=ab) (col:=col) (dd:=dd) (k0:=k0) (k1:=k1) (k2:=k2) (k3:=k3) (k5:=k5) PySem.F.excBase_ValueError (yE S) (I.ok.hd hc) hn (g3.trans hin) (cH I hg hm ⟨rfl,?_⟩ hdb)
 have key:=ha cpos pins s σ H _ I h
 rw[he]at key⊢
 obtain⟨y,ey⟩:∃y,backTo cpos [(false,eval e X.env)]=[(false,y)]:=⟨_,rfl⟩
 rw[ey]at key⊢
 refine PySem.Calls.evalArgs_plain (aN key fun us s1 ⟨vs,H1,I1,r,hl,q⟩=>?_)
 obtain⟨o,es,ep,e1,e2,e3,e4⟩:=g2
 exact⟨rfl,by rw[<- r.length];exact hl,I1.bk _ _ g1,⟨o,es,ep,I1.bk _ _ e1,e2,e3,e4⟩,(OwnTailQ.tail g4).keeps I1.bk,fun h' a m=>q s1 h' a us I1 m⟩
end
section
variable{X:Cx}{pins:List (Addr×Obj)}{σ:St}{H':Hp}
theorem DI{i:Nat}{n:Str}(I:al X pins σ H s)(hN:X.N.Nodup)(hi:X.N[i]?=some n)(hk:X.env.scope.names.lookup n=some .local)
  (h:∀s',al X pins (σ.set i none) H s'->Q () s'):wpAny M A (do bindName X.env n .none;unbindBehindTheSuite X.env n pos) Q E s:=by
 obtain⟨m,hn,hl⟩:=id I.loc
 have hcls:(X.env.scope.kind == .class || (X.env.scope.kind == .module&&X.env.locals != X.env.globals))=false:=by rw[I.ok.kind];rfl
 have hiσ:i<σ.length:=by rw[I.len];exact(QJ.mp hi).1
 have cne:=I.cne
 refine wpAny_nameGoes_keeps hk hn hcls fun h' v hn' hs=>?_
 obtain⟨oL,_,_,hoL,_⟩:=id hn
 refine h _ ⟨I.ok,I.os,I.bare,⟨fun b o e n hb hx=>?_,fun b o e n hb hx=>?_,I.base.free,fun b o e hx=>?_,I.base.tups,I.base.frzs,I.base.tbls⟩,⟨_,hn',fun j y v' e1 e2 e3=>?_⟩,fun y c e=>?_,I.free,I.freeC,fun p hp=>?_,fun b ob e=>?_,by simpa using I.len⟩
 ·exact(hs.2 b (QT (QG (QC e) I.ok.above))).trans (I.base.keep b o e n hb hx)
 ·obtain⟨sl,e1⟩:=I.base.slot b o e n hb hx
  exact⟨sl,(hs.2 b (QT (QG (QC e) I.ok.above))).trans e1⟩
 ·obtain⟨o',e1⟩:=I.base.there b o e hx
  exact⟨o',(hs.2 b (QT (QG (QC e) I.ok.above))).trans e1⟩
 ·by_cases hj:j=i
  ·subst hj
   rw[RU hiσ]at e2
   cases e2
  ·rw[RC (RB hj)]at e2
   obtain⟨u',r',q⟩:=hl j y v' e1 e2 e3
   refine⟨u',r',?_⟩
   rcases q with⟨k,e⟩|⟨k,c,e,z⟩
   ·refine .inl ⟨k,?_⟩
    have:y≠n:=fun e=>hj (ig hN e1 (e ▸ hi))
    simp[this,e]
   ·exact .inr ⟨k,c,e,z.sameBut hs (cne y c e)⟩
 ·obtain⟨w',z⟩:=I.cell y c e
  exact⟨w',z.sameBut hs (cne y c e)⟩
 ·obtain⟨e,n,ne,nf,d⟩:=I.pin p hp
  exact⟨(hs.2 p.1 ne).trans e,n,ne,nf,d⟩
 ·refine(I.hok b ob e).stay (fun c w' hc q=>(hs.2 c ?_).trans q) (fun _ q=>q) fun _ _ q=>q
  rintro rfl
  rcases hc with rfl|hc
  ·rw[I.free]at e;cases e
  ·rw[I.free]at hc;cases hc
abbrev Cx.mark(X:Cx)(e:Value):Cx:={ X with A:=X.A.mark (some e),calm:=false,xe:=fun _ _=>False }
theorem Cx.Ok.mark(ok:X.Ok)(e:Value):(X.mark e).Ok:=⟨ok.mod,ok.kind,ok.glob,ok.blt,ok.above,ok.inj,ok.has,ok.cab,(fun z=>by cases z),ok.frames,ok.stk,ok.exf,ok.bs,ok.bsz,ok.noex,ok.exfs,ok.funs,ok.frf⟩
theorem al.mark(I:al X pins σ H s)(e:Value):al (X.mark e) pins σ H s:=⟨I.ok.mark e,I.os,I.bare,I.base,I.loc,I.cell,I.free,I.freeC,I.pin,I.hok,I.len⟩
theorem al.unmark{e:Value}(ok:X.Ok)(I:al (X.mark e) pins σ H s):al X pins σ H s:=⟨ok,I.os,I.bare,I.base,I.loc,I.cell,I.free,I.freeC,I.pin,I.hok,I.len⟩
abbrev jf(x C:Addr)(od:Option Addr):HO:=.ext (fun h => ∃o vs,h.get? x=some o/\o.cls=.ref C/\o.dict=od/\o.data=.fields vs)
theorem Hi{o:Obj}(e1:h.get? x=some o)(e2:o.cls=.ref C)(e3:o.dict=od)(e4:o.data=.fields vs):bG P w H h x (jf x C od) :=
 ⟨⟨o,vs,e1,e2,e3,e4⟩,⟨o,e1⟩,fun h1 h2 ⟨o',vs',a,b,c,d⟩ k=>⟨o',vs',k o' a,b,c,d⟩⟩
theorem Jb{o:HO}(hk:cD P w H h)(hn:H x=none)(ho:bG P w (aG H x o) h x o):cD P w (aG H x o) h:=fun a u e=>by
 by_cases z:a=x
 ·subst z
  rw[aD]at e;cases e
  exact ho
 ·rw[ax z]at e
  exact(hk a u e).stay (fun _ _ _ q=>q) (fun b q=>by rw[ax (aU q hn)];exact q) fun b xs q=>by rw[ax (aU q hn)];exact q
end
theorem my{nm:Str}
  (F:ExcBaseFacts B newId initId bmB) (ht:OwnTail h bmB bm) {rest:List Value} {Q:PySem.Fin->Shared->Prop} (hC:h.get? C=some (excClassObj nm q C N bs bm hdct sn sub ab col dd k0 k1 k2 k3 k5 newId)) (hn:h.Ns N mN) (hi:mN "__init__" = some (.ref fI)) (hfI:h.get? fI=some oI) (hfc:oI.cls=.type "function")
  (hq:∀h' e,h.objs.size<=e->h.MadeExcOf h' e (.ref C) rest->wpAny (model prog w) A (call (.ref fI) (.ref e::rest)) (fun r s'=>r=.none/\Q (.done (.ret (.ref e))) s') E ⟨h',g,d,t,os⟩) (hrest:rest.length<=sizeLine) :
  wpAny (model prog w) A (Builtin.«type.__call__» ⟨.ref C::rest,[]⟩) Q E ⟨h,g,d,t,os⟩:=by
 unfold Builtin.«type.__call__»
 dsimp only
 refine RK rfl ?_
 refine Qx ?_
 unfold mroOf
 refine Qx ?_
 unfold classData
 refine Qx (wpAny_load' hC (Qz (Qz ?_)))
 refine RK rfl ?_
 refine Qx (wpAny_madeBy_exc hC ?_)
 refine Qx (Qz ?_)
 refine Qx (Q7 (Sd (codeAny_call_builtin_code (Code.quiet_builtin ⟨.ref C::rest,[]⟩ F.quiet) (wpAny_check_new_subT F ht hC (codeAny_exc_new_subT F ht hC ?_ hrest)))))
 have kp:∀b o,h.get? b=some o->((h.push { cls:=.type "tuple", data:=.seq rest.toArray }).push { cls:=.ref C,data:=.fields #[.ref h.objs.size,.none,.none,.none,.bool false,.none] }).get? b=some o:=fun b o e=>Qy _ (Qy _ e)
 have hget:((h.push { cls:=.type "tuple", data:=.seq rest.toArray }).push { cls:=.ref C,data:=.fields #[.ref h.objs.size,.none,.none,.none,.bool false,.none] }).get? (h.objs.size+1)=some { cls:=.ref C,data:=.fields #[.ref h.objs.size,.none,.none,.none,.bool false,.none] }:=Heap.get?_push_at (by simp) rfl
 have m:h.MadeExcOf ((h.push { cls:=.type "tuple", data:=.seq rest.toArray }).push { cls:=.ref C,data:=.fields #[.ref h.objs.size,.none,.none,.none,.bool false,.none] }) (h.objs.size+1) (.ref C) rest:=⟨kp,Si (Nat.le_succ _),h.objs.size,hget,Si (QF _),Qy _ (Heap.get?_push_at rfl rfl)⟩
 have hcC:(Value.ref C::bm).contains (.ref C)=true:=by simp
 generalize hh:(h.push { cls:=.type "tuple", data:=.seq rest.toArray }).push { cls:=.ref C,data:=.fields #[.ref h.objs.size,.none,.none,.none,.bool false,.none] }=h1 at *
 refine Qx (E:=E) ?_
 unfold isInstance
 refine Qx ?_
 unfold typeOf
 refine Qx (RQ hget ?_)
 refine Qz ?_
 refine wpAny_isSubtype_exc (kp _ _ hC) ?_
 rw[hcC]
 refine RK rfl ?_
 refine Qx (Q7 ?_)
 unfold callSpecial?
 refine Qx ?_
 unfold specialOf
 refine Qx ?_
 unfold typeOf
 refine Qx (RQ hget ?_)
 refine Qz ?_
 have ht1:OwnTail h1 bmB bm:=ht.keeps kp
 have hn1:h1.Ns N mN:=by obtain⟨o,es,ep,a,b⟩:=hn;exact⟨o,es,ep,kp _ _ a,b⟩
 refine wpAny_typeLookup_tail (kp _ _ hC) hn1 ht1 F.mroIs F.init.lookup ?_
 rw[hi]
 dsimp only
 refine Q7 (Qx ?_)
 unfold bindSpecial
 refine Qx (wpAny_typeOf ⟨oI,kp _ _ hfI,hfc⟩ ?_)
 rw[if_pos (by decide)]
 refine Qz (Qx (Rq (hq h1 _ (Nat.le_succ _) m) (fun r s' hr=>?_) (fun _ _ z=>z)))
 obtain⟨rfl,hQ⟩:=hr
 refine Qz ?_
 dsimp only
 rw[if_neg (by simp)]
 exact Qz hQ
theorem v9{nm:Str}
  (F:ExcBaseFacts B newId initId bmB) (ht:OwnTail h bmB bm) {rest:List Value} {Q:Value->Shared->Prop} (hC:h.get? C=some (excClassObj nm q C N bs bm hdct sn sub ab col dd k0 k1 k2 k3 k5 newId)) (hn:h.Ns N mN) (hi:mN "__init__" = some (.ref fI)) (hfI:h.get? fI=some oI) (hfc:oI.cls=.type "function")
  (hq:∀h' e,h.objs.size<=e->h.MadeExcOf h' e (.ref C) rest->wpAny (model prog w) (A.under (.builtin "type.__call__" ⟨.ref C::rest,[]⟩)) (call (.ref fI) (.ref e::rest)) (fun r s'=>r=.none/\Q (.ref e) s') E ⟨h',g,d,t,os⟩) (hrest:rest.length<=sizeLine) :
  wpAny (model prog w) A (call (.ref C) rest) Q E ⟨h,g,d,t,os⟩:=by
 have f1:=tc_lookup
 have f2:=tc_bind (.ref C)
 have hT:Shared.TypeIs ⟨h,g,d,t,os⟩ (.ref C) "type" := ⟨_,hC,rfl⟩
 refine Sd (codeAny_of_tree ?_)
 refine Qx (wpAny_load' hC ?_)
 refine Qx (wpAny_specialOf hT f1 ?_)
 refine Qx (wpAny_of_eq f2 ?_)
 refine Qx ?_
 refine Qz (wpAny_ite_true rfl ?_)
 refine Qz ⟨rfl,codeAny_call_builtin_at (Code.quiet_builtin ⟨.ref C::rest,[]⟩ (by decide +kernel)) entry_typeCall (wpAny_check_type_call_sub hC (my F ht hC hn hi hfI hfc (fun h' e hl hm=>hq h' e hl hm) hrest))⟩
theorem vp{nm:Str}{x:Sem Value}{Q:Flow->Shared->Prop}
  (hbase:bm.contains (.type "BaseException")=true) (hh:A.handled=none)
  (h:wpAny M A x (fun v s₁ => ∃e oe vs,v=.ref e/\s₁.heap.get? C=some (excClassObj nm q C N bs bm hdct sn sub ab col dd k0 k1 k2 k3 k5 newId)/\s₁.heap.get? e=some oe/\oe.cls=.ref C/\oe.data=.fields vs/\vs[1]?=some .none/\E (.ref e) s₁) E s):wpAny M A (raiseStmt env (some x) none) Q E s:=by
 have hcB:(Value.ref C::bm).contains (.type "BaseException")=true:=by rw[Ss,hbase,Bool.or_true]
 unfold raiseStmt
 dsimp only
 refine Qx (Rq h (fun v s1 h1=>?_) (fun _ _ z=>z))
 obtain⟨e,oe,vs,rfl,hC,he,e2,e3,e5,hE⟩:=h1
 obtain⟨hp,g,d,tk,os⟩:=s1
 obtain⟨oc,od,oda,osl⟩:=oe
 simp only at e2 e3
 subst e2 e3
 refine Qx (Qz ?_)
 refine Qx (Q7 ?_)
 unfold excFromValue
 refine Qx ?_
 unfold isExcClass
 refine Qx ?_
 unfold isType
 refine Qx (RQ he (Qz ?_))
 refine RK rfl (Qz ?_)
 refine RK rfl ?_
 refine Qx ?_
 unfold isInstance
 refine Qx ?_
 unfold typeOf
 refine Qx (RQ he (Qz ?_))
 refine wpAny_isSubtype_exc hC ?_
 rw[hcB]
 refine wpAny_ite_true rfl (Qz ?_)
 dsimp only
 refine Qx ?_
 refine Qx (RQ he (Qz ?_))
 refine RK rfl ?_
 refine Qx ?_
 unfold raisedInstance
 refine Qx ?_
 unfold typeOf
 refine Qx (RQ he (Qz ?_))
 refine Qx ?_
 refine Qx (RQ hC (Qz ?_))
 refine wpAny_ite_true rfl (Qz ?_)
 refine Qx ?_
 unfold setFlight
 refine Qx (Re he rfl e5 ?_)
 refine RK rfl (Qz ?_)
 exact wpAny_raiseNew_none hh hE
theorem De{R:Result->Shared->Prop}{od:Option Obj}{tk:Tok}(X:K.In s.heap)(I:W.InstAt s.heap x ox C od)(hc:W.clsIn K C=some cd)(hm:cd.mro=.ref C :: .ref S::fG)(ht:W.findIn K (.ref C) name=some none)
  (h:wpAny (model prog w) A.in1 (Builtin.ObjectAttr.storeInOwnDict (.ref x) (.ref C) (.str name tk) name v false) (fun fin s'=>match fin with | .done f=>R (.ok f) s' | .again c'=>c'.quiet=true/\codeAny (model prog w) A c' R s') (fun e s'=>R (.error e) s') s) :
  codeAny (model prog w) A (.call (.builtin "object.__setattr__") ⟨[.ref x,.str name tk,v],[]⟩) R s:=by
 have SF:=F.store_object
 have mi:W.mroIn K C (.type "object")=some true:=by
  unfold W.mroIn
  rw[hc,Option.bind_some,hm,if_neg (by simp)]
  simp[fG]
 have sub:W.Looks (model prog w) s.heap (isInstance (.ref x) (.type "object")) true:=W.Looks.andThen (W.InstAt.type I) (W.looks_mroIn X mi)
 refine codeAny_call_builtin SF.slot.plain SF.entry ?_
 have ao:argsOk "object.__setattr__" ⟨[.ref x,.str name tk,v],[]⟩:=SF.args (.ref x) (.str name tk) v
 refine W.check_slot (i := "object.__setattr__") (owner := "object") (n := "__setattr__") (self:=.ref x) (rest:=[.str name tk,v]) (kw:=[]) SF.kind SF.split sub ao ?_
 have hmr:W.Looks (model prog w) s.heap (mroOf (.ref C)) cd.mro:=W.Looks.andThen (W.looks_clsIn X hc) W.Looks.now
 rw[W.osa_eq,refuse_eq]
 refine Qx (Qx (W.Looks.here (W.InstAt.type I) (Qx (W.Looks.here hmr ?_))))
 rw[hm,refuseLoop_ref,refuseLoop_ref,F.store_ValueError.passes]
 refine Qz (Qx (W.Looks.here (W.InstAt.type I) (Qx (W.Looks.here (W.looks_findIn X ht) ?_))))
 refine Qx ?_
 unfold Builtin.ObjectAttr.storeTaker?
 refine Qz ?_
 exact h
theorem DT(X:K.In s.heap)(e1:s.heap.get? x=some ox)(e2:ox.cls=.ref C)(e3:ox.data=.fields vs)(e6:ox.dict=none)(hc:W.clsIn K C=some cd)(hm:cd.mro=.ref C :: .ref S::fG)(hd:cd.hasDict=true)
  (hs:W.findIn K (.ref C) "__setattr__" = some (some (.builtin "object.__setattr__"))) (ht:W.findIn K (.ref C) name=some none)
  (h:∀h' dx,s.heap.objs.size<=dx->(∀b o,b≠x->s.heap.get? b=some o->h'.get? b=some o)->h'.get? x=some { ox with dict:=some dx }->(h'.Ns1 dx fun y=>if y=name then some v else none)->Q () { s with heap:=h',toks:=s.toks+2 }) :
  wpAny (model prog w) A (setAttr (.ref x) name v) Q E s:=by
 obtain⟨oc,odd,oda,osl⟩:=ox
 simp only at e2 e3 e6
 subst e2 e3 e6
 have J:W.InstAt s.heap x ⟨.ref C,none,.fields vs,osl⟩ C none:=⟨e1,rfl,rfl,True.intro⟩
 refine W.set_plain X J hs (De (s:={ s with toks:=s.toks+1 }) X J hc hm ht ?_)
 unfold Builtin.ObjectAttr.storeInOwnDict
 refine Qx (Qz ?_)
 refine RK rfl ?_
 refine Qx ?_
 unfold Builtin.ObjectAttr.ownDictForStores
 unfold instanceDict
 refine Qx (RQ e1 ?_)
 refine Qx (W.Looks.here (s:={ s with toks:=s.toks+1 }) (W.looks_clsIn X hc) ?_)
 rw[hd]
 refine RK rfl ?_
 refine RK rfl ?_
 dsimp only
 have e2:=Qy { cls:=.type "dict", data:=.dict #[] } e1
 refine Qx (wpAny_alloc (Qx (wpAny_update e2 ?_)))
 unfold dictMade
 refine Qz ?_
 dsimp only
 have nx:s.heap.objs.size≠x:=RL (QC e1)
 have e3:((s.heap.push { cls:=.type "dict", data:=.dict #[] }).update x fun o => { o with dict:=some s.heap.objs.size }).get? x=some ⟨.ref C,some s.heap.objs.size,.fields vs,osl⟩:=Ru _ e2 rfl
 have e4:((s.heap.push { cls:=.type "dict", data:=.dict #[] }).update x fun o => { o with dict:=some s.heap.objs.size }).get? s.heap.objs.size=some { cls:=.type "dict", data:=.dict #[] }:=(QQ _ _ (RB nx)).trans (QH _ rfl)
 have n1:((s.heap.push { cls:=.type "dict", data:=.dict #[] }).update x fun o => { o with dict:=some s.heap.objs.size }).Ns1 s.heap.objs.size (fun _=>none):=⟨_,#[],_,e4,rfl,fun e he=>absurd he (by simp),by simp[UniqKeys],fun _=>rfl⟩
 unfold Builtin.ObjectAttr.storeInDict
 refine Qx (Qz ?_)
 refine Qx (wpAny_nsSet1 n1 fun h' hn2 hs2=>?_)
 obtain⟨oD,esD,epD,hoD,hdD,hcD⟩:=hn2.count (PySem.Within.cons (ns:=[]) name v (fun y hy=>absurd rfl hy))
 refine Qx (wpAny_lookBehind hoD (by rw[hdD];exact pastItsLine_dict (QD hcD (by rw[RV];exact Q3 rfl))) ?_)
 refine Qz (h h' s.heap.objs.size ?_ (fun b o hb eb=>?_) ?_ hn2)
 ·exact QF _
 ·refine(hs2.2 b (QT (QC eb))).trans ?_
  rw[QQ _ _ (RB hb)]
  exact Qy _ eb
 ·exact(hs2.2 x (RB nx)).trans e3
theorem wf{E:Value->Shared->Prop}{ob:Obj}{Q:PySem.Fin->Shared->Prop}(he:s.heap.get? e=some ob)(hd:ob.data=.fields vs)(h0:vs[0]?=some (.ref t0))
  (h:Q (.done (.ret .none)) ⟨(s.heap.push { cls:=.type "tuple", data:=.seq #[v] }).update e (Obj.mapFields fun x=>x.setIfInBounds 0 (.ref s.heap.objs.size)),s.gens,s.drawn,s.toks,s.os⟩) :
  wpAny (model prog w) A (Builtin.«BaseException.__init__» { pos:=[.ref e,v] }) Q E s:=by
 unfold Builtin.«BaseException.__init__»
 dsimp only
 rw[if_neg (by simp)]
 have hsz:=(Array.getElem?_eq_some_iff.mp h0).1
 have he1:=Qy { cls:=Value.type "tuple", data:=Data.seq #[v] } he
 refine Qx (wpAny_newTuple ?_)
 unfold Builtin.BaseException.bexcPut
 refine Qx (Qx (Re he1 hd h0 ?_))
 exact Qx (SH he1 hd hsz (wpAny_letGo (Qz h)))
theorem wa{nm:Str}
  (F:ExcBaseFacts B newId initId bmB) (ht:OwnTail s.heap bmB bm) {Q:Value->Shared->Prop} (hq:(Code.builtin initId { pos:=[.ref e,v] }).quiet=true) (hC:s.heap.get? C=some (excClassObj nm q C N bs bm hdct sn sub ab col dd k0 k1 k2 k3 k5 newId)) (he:s.heap.get? e=some oe) (hc:oe.cls=.ref C) (hd:oe.data=.fields vs) (h0:vs[0]?=some (.ref t0))
  (h:∀h',(∀b o,b≠e->s.heap.get? b=some o->h'.get? b=some o)->h'.get? e=some { oe with data:=.fields (vs.setIfInBounds 0 (.ref s.heap.objs.size)) }->Q .none { s with heap:=h' }) :
  wpAny (model prog w) A (call (.builtin initId) [.ref e,v]) Q E s:=by
 obtain⟨oc,odd,oda,osl⟩:=oe
 simp only at hc hd
 subst hc hd
 refine Sd (codeAny_call_builtin_at hq F.initEntry (wpAny_check_init_subT F ht hC he rfl (wf he rfl h0 ?_)))
 dsimp only
 refine h _ (fun b o hb eb=>?_) ?_
 ·rw[QQ _ _ hb.symm];exact Qy _ eb
 ·have e1:=Qy { cls:=Value.type "tuple", data:=Data.seq #[v] } he
  exact Ru _ e1 rfl
theorem DU{D dx:Addr}{b:Bool}{mA:Str->Option Value}{Q:Value->Shared->Prop}{nm:Str}
  (hga:W.findIn K (.ref D) "__getattribute__" = some (some (.builtin "BaseException.__getattribute__"))) (hgt:W.findIn K (.ref D) "__getattr__" = some none) (hf:W.findIn K (.ref D) name=some none) (hdi:W.hasDictIn K D=true)
  (KI:K.In s.heap) (e1:s.heap.get? x=some ox) (e2:ox.cls=.ref D) (e3:ox.data=.fields vs) (e4:ox.dict=some dx) (hn:s.heap.Ns1 dx mA) (hv:mA name=some v) (hh:W.handedIn v=true) (hD:s.heap.get? D=some (excClassObj nm q D N bs bm hdct sn sub ab col dd k0 k1 k2 k3 k5 newId)) (hT:OwnTailQ s.heap fG bm)
  (hq:Q v { s with toks:=s.toks+1 }):wpAny (model prog w) A (getAttr (.ref x) name b) Q E s:=by
 obtain⟨h,g,d,tk,os⟩:=s
 have ty:=g7 e1 e2
 obtain⟨od,ho,hl⟩:=pE hn
 have J:W.InstAt h x ox D (some od):=⟨e1,e2,by unfold W.notCls;rw[e3],by rw[e4];exact ho⟩
 have lf:∀M,W.Looks M h (Builtin.ObjectAttr.find (.ref x) (.ref D) name) (.value v):=fun M=>W.looks_find KI J (W.findObj_own hdi hf rfl (by rw[hl,hv]))
 unfold getAttr
 refine Qx (wpAny_mkText ?_)
 unfold getAttrBy
 refine Q7 (Qx (RJ (ty _) ?_))
 refine Qx (RJ (W.looks_findIn KI hga) ?_)
 dsimp only
 have e9:(onTheHeap (Value.ref D)&&Value.builtin "BaseException.__getattribute__" == Value.builtin "object.__getattribute__")=false:=by
  have e0:(Value.builtin "BaseException.__getattribute__" == Value.builtin "object.__getattribute__")=false:=by decide +kernel
  rw[e0,Bool.and_false]
 rw[e9]
 rw[if_neg (by simp)]
 unfold getAttrByItsOwn
 refine Qx (RJ (W.looks_hook KI (r:=none) (by show(if true=true then W.findIn K (.ref D) "__getattr__" else some none)=some none;rw[if_pos rfl];exact hgt)) ?_)
 refine Qx (wpAny_attempt (Q7 ?_))
 unfold callGetattribute
 rw[if_neg (by rw[show onTheHeap (Value.builtin "BaseException.__getattribute__")=false from rfl];simp)]
 unfold boundAndCalled
 rw[(RA.toExcAttrFacts.ga).bind]
 refine Qx (Qz ?_)
 refine Sd (codeAny_call_builtin (RA.toExcAttrFacts.ga).plain PySem.F.entry_bexc_ga ?_)
 refine wpAny_check_ga_own RA hD hT e1 e2 ?_
 show wpAny _ _ (Builtin.«object.__getattribute__» ⟨[Value.ref x,Value.str name tk],[]⟩) _ _ _
 unfold Builtin.«object.__getattribute__»
 refine Qx ?_
 unfold slotArgs
 dsimp only
 rw[if_neg (by simp),if_neg (by simp)]
 refine Qz ?_
 dsimp only
 refine Qx ?_
 unfold Builtin.ObjectAttr.attrName
 refine Qz ?_
 refine Qx (RJ (ty _) ?_)
 refine Qx (RJ (lf _) ?_)
 dsimp only
 refine Qz ?_
 exact W.handed_on hh hq
end L2
namespace Sp
open PySem PySem.Spec PyProof.Rows L2
variable{K:W.Frag}{H:Hp}{n:Str}{C S:Addr}
structure BJ(K:W.Frag)(n:Str)(C:Addr):Prop where
 cl:((W.clsIn K C).isSome&&W.typeIn K (.ref C)==some (.type "type"))=true
 sole:∀m,W.nsIn K mainGlobals m=some (some (.ref C))->m=n
 obj:∃o,K.lookup C=some o/\o.cls=.type "type"
abbrev Fv:=Str×List Int
def qj(q:Fv):List V:=.str q.1::q.2.map V.int
abbrev Xs:=Str×Str×List (Str×Fv)
def ni(K:W.Frag)(H:Hp)(od:Option Addr)(fs:List (Str×Fv)):Prop:=∀f i,fs=[(f,i)]->∃dx a,od=some dx/\H dx=some (.xd [(f,.ref a)])/\bT K H a (qj i)
theorem ni.nil{od:Option Addr}:ni K H od []:=fun _ _ z=>by cases z
structure tM(K:W.Frag)(C:Addr)(f:Str):Prop where
 no:W.findIn K (.ref C) f=some none
 di:W.hasDictIn K C=true
def jG(K:W.Frag)(H:Hp)(n:Str):Option (Str×List (Str×Fv))->V->Prop
 | none,v => ∃C,v=.ref C/\W.nsIn K mainGlobals n=some (some (.ref C))/\BJ K n C
 | some (p,fs),v => ∃x C S od,v=.ref x/\W.nsIn K mainGlobals n=some (some (.ref C))/\W.nsIn K mainGlobals p=some (some (.ref S))/\fW K C S/\H x=some (jf x C od)/\ni K H od fs/\∀f i,fs=[(f,i)]->tM K C f
theorem jG.mono{H':Hp}(k:∀a C od,H a=some (jf a C od)->H' a=some (jf a C od))(kd:∀a fs,H a=some (.xd fs)->H' a=some (.xd fs))(kt:∀a vs,bT K H a vs->bT K H' a vs):∀{p:Option (Str×List (Str×Fv))} {v:V},jG K H n p v->jG K H' n p v
 | none,_,h=>h
 | some (p,fs),_,⟨x,C,S,od,e,h1,h2,h3,h4,h5,h6⟩=>⟨x,C,S,od,e,h1,h2,h3,k _ _ _ h4,fun f i z=>let ⟨dx,a,b,c,d⟩:=h5 f i z;⟨dx,a,b,kd _ _ c,kt _ _ d⟩,h6⟩
theorem jG.ref:∀{p:Option (Str×List (Str×Fv))} {v:V},jG K H n p v->∃a,v=.ref a
 | none,_,⟨C,e,_⟩=>⟨C,e⟩
 | some (p,fs),_,⟨x,_,_,_,e,_⟩=>⟨x,e⟩
theorem jG.at:∀{p:Option (Str×List (Str×Fv))} {a:Addr},jG K H n p (.ref a)->(∃o,K.lookup a=some o/\o.cls=.type "type")\/∃C od,H a=some (jf a C od)
 | none,_,⟨C,e,_,h⟩=>by cases e;exact .inl h.obj
 | some (p,fs),_,⟨x,C,_,od,e,_,_,_,h,_⟩=>by cases e;exact .inr ⟨C,od,h⟩
theorem rQ(e:iW K C S=true):∃cd,W.clsIn K C=some cd/\cd.mro=.ref C :: .ref S::fG:=by
 unfold iW at e
 split at e
 ·rename_i t d1 cd sl c2 d2 ce sl2 e1 e2
  simp only[QN]at e
  obtain⟨⟨⟨⟨⟨q1,q2⟩,q3⟩,q4⟩,q5⟩,q6⟩:=e
  exact⟨cd,by unfold W.clsIn;rw[e1],by simpa using q3⟩
 ·cases e
theorem xO{Cm:Addr}{p m:Str}(e:fW K C S)(hn:W.nsIn K mainGlobals n=some (some (.ref C)))(hp:W.nsIn K mainGlobals p=some (some (.ref S)))(hm:W.nsIn K mainGlobals m=some (some (.ref Cm)))(x:BJ K m Cm) :
  W.kitOne K (.ref C) (.ref Cm)=some (decide (m=n) || decide (m=p)):=by
 obtain⟨cd,h1,h2⟩:=rQ e.ex
 have a1:(Value.ref Cm==Value.ref C)=decide (m=n):=by
  by_cases z:m=n
  ·subst z;rw[hm]at hn;cases hn;simp
  ·rw[QY z]
   refine RI.mpr fun y=>z ?_
   injection y with y
   subst y
   exact(x.sole n hn).symm
 have a2:(Value.ref Cm==Value.ref S)=decide (m=p):=by
  by_cases z:m=p
  ·subst z;rw[hm]at hp;cases hp;simp
  ·rw[QY z]
   refine RI.mpr fun y=>z ?_
   injection y with y
   subst y
   exact(x.sole p hp).symm
 unfold W.kitOne
 have a3:(Value.ref C==Value.ref Cm)=decide (m=n):=by
  by_cases z:m=n
  ·subst z;rw[hm]at hn;cases hn;simp
  ·rw[QY z]
   refine RI.mpr fun y=>z ?_
   injection y with y
   subst y
   exact(x.sole n hn).symm
 rw[a3]
 by_cases z:m=n
 ·rw[if_pos (RZ z),RZ z];rfl
 ·rw[QY z,if_neg (by simp),Bool.false_or]
  unfold W.kitCls
  dsimp only
  rw[if_pos x.cl]
  unfold W.subIn W.mroIn
  dsimp only
  rw[h1,Option.bind_some,h2,if_neg (by simp)]
  rw[Ss,Ss,a1,a2,QY z,Bool.false_or,show fG.contains (Value.ref Cm)=false by simp[fG],Bool.or_false]
theorem GB(e:fW K C S):W.kitOne K (.ref C) (.type "ValueError")=some true:=by
 obtain⟨cd,h1,h2⟩:=rQ e.ex
 unfold W.kitOne
 rw[if_neg (by simp)]
 unfold W.kitCls
 dsimp only
 rw[if_pos (by decide +kernel)]
 unfold W.subIn W.mroIn
 dsimp only
 rw[h1,Option.bind_some,h2,if_neg (by simp)]
 simp[fG]
end Sp
namespace L2
open PySem PySem.Spec PyProof.Rows
variable{y:V}{u:Value}
section
variable{κ:Type}[DecidableEq κ]
def lJ(kvs:List (κ×V))(k:κ):Option V:=(kvs.find? fun kv=>decide (kv.1=k)).map (·.2)
def zq(kvs:List (κ×V))(k:κ)(v:V):List (κ×V) :=
 if (kvs.any fun kv=>decide (kv.1=k))=true then kvs.map (fun kv=>if kv.1=k then(kv.1,v)else kv)else kvs++[(k,v)]
def BD(kvs:List (κ×V))(k:κ):List (κ×V):=kvs.filter fun kv=>decide (kv.1≠k)
theorem yY{p:κ×V}{r:List (κ×V)}{k:κ}(e:p.1=k):lJ (p::r) k=some p.2:=by simp[lJ,List.find?_cons,e]
theorem yZ{p:κ×V}{r:List (κ×V)}{k:κ}(e:¬ p.1=k):lJ (p::r) k=lJ r k:=by simp[lJ,List.find?_cons,e]
theorem fR.getD{o:Option V}{u:Option Value}{d:V}{d':Value}(r:fR o u)(rd:aY d d'):aY (o.getD d) (u.getD d'):=by
 cases o with
 | none=>cases u with
  | none=>exact rd
  | some _=>exact(show False from r).elim
 | some _=>cases u with
  | none=>exact(show False from r).elim
  | some _=>exact r
theorem KV.val{kvs:List (κ×V)}{vs:List (κ×Value)}(r:KV kvs vs)(k:κ):fR (lJ kvs k) (valueAt vs k):=by
 unfold KV at r
 induction r with
 | nil=>exact True.intro
 | @cons p q ps qs h t ih =>
  obtain⟨h1,h2⟩:=h
  by_cases e:p.1=k
  ·have e':q.1=k:=h1.symm.trans e
   have b:valueAt (q::qs) k=some q.2:=by simp[valueAt,List.find?_cons,e']
   rw[yY e,b];exact h2
  ·have e':¬ q.1=k:=fun z=>e (h1.trans z)
   have b:valueAt (q::qs) k=valueAt qs k:=by simp[valueAt,List.find?_cons,e']
   rw[yZ e,b];exact ih
theorem KV.any{kvs:List (κ×V)}{vs:List (κ×Value)}(r:KV kvs vs)(k:κ):(kvs.any fun kv=>decide (kv.1=k))=vs.any fun kv=>decide (kv.1=k):=by
 unfold KV at r
 induction r with
 | nil=>rfl
 | cons h t ih=>rw[List.any_cons,List.any_cons,ih,h.1]
theorem KV.repl{kvs:List (κ×V)}{vs:List (κ×Value)}(r:KV kvs vs)(k:κ)(ry:aY y u) :
  KV (kvs.map fun kv=>if kv.1=k then(kv.1,y)else kv) (vs.map fun kv=>if kv.1=k then(kv.1,u)else kv):=by
 unfold KV at r⊢
 induction r with
 | nil=>exact .nil
 | @cons p q ps qs h t ih =>
  rw[Q8,Q8]
  refine .cons ?_ ih
  obtain⟨h1,h2⟩:=h
  by_cases e:p.1=k
  ·rw[if_pos e,if_pos (h1.symm.trans e)];exact⟨h1,ry⟩
  ·rw[if_neg e,if_neg (fun z=>e (h1.trans z))];exact⟨h1,h2⟩
theorem KV.put{kvs:List (κ×V)}{vs:List (κ×Value)}(r:KV kvs vs)(k:κ)(ry:aY y u):KV (zq kvs k y) (stored vs k u):=by
 unfold zq stored
 rw[r.any k]
 by_cases e:(vs.any fun kv=>decide (kv.1=k))=true
 ·rw[if_pos e,if_pos e];exact r.repl k ry
 ·rw[if_neg e,if_neg e];exact Paired.snoc r ⟨rfl,ry⟩
theorem KV.drop{kvs:List (κ×V)}{vs:List (κ×Value)}(r:KV kvs vs)(k:κ):KV (BD kvs k) (without vs k):=by
 unfold KV at r⊢
 unfold BD without
 induction r with
 | nil=>exact .nil
 | @cons p q ps qs h t ih =>
  obtain⟨h1,h2⟩:=h
  rw[List.filter_cons,List.filter_cons]
  by_cases e:p.1=k
  ·have a:¬ decide (p.1≠k)=true:=by simp[e]
   have b:¬ decide (q.1≠k)=true:=by simp[h1.symm.trans e]
   rw[if_neg a,if_neg b];exact ih
  ·have e':¬ q.1=k:=fun z=>e (h1.trans z)
   have a:decide (p.1≠k)=true:=by simp[e]
   have b:decide (q.1≠k)=true:=by simp[e']
   rw[if_pos a,if_pos b];exact .cons ⟨h1,h2⟩ ih
theorem KV.length{kvs:List (κ×V)}{vs:List (κ×Value)}(r:KV kvs vs):kvs.length=vs.length:=Paired.length r
end
end L2
namespace Sp
open PySem PySem.Spec PyProof.Rows L2
variable{K:W.Frag}{H H' H0 H1:Hp}{a c e e2 elt iter tg:Expr}{vs vs':List V}{v:V}{X:Cx}{σ:L2.St}{b it r r2 t κ κ':Bool}{i j k k2 ko n n1 n2 nn:Nat}{env:Env}{sc scope:Scope}{M:Model}{A:Around}{E Q:Value->Shared->Prop}{s:Shared}{cl:List (Str×Addr)}{f g m qual s0 x:Str}{pins:List (Addr×Obj)}{N' fs ns ps:List Str}{ch fp:List Addr}{P prog:Program}{w:World}{args cs es ifs tgs:List Expr}{ap apos cp p p1 p2 p4 pos px py q tp:Pos}{base h h' h2:Heap}{op op2:CmpOp}{body els ss:List Stmt}{α β:Type}{o:List Prop}{T:String}{hi lo:Option Expr}{st:Stmt}{mg:Str->Option Value}{cdv mc:Value}{outer:List Env}{fd:FuncData}{dd:Option Addr}{its xs ys:Array Value}{tu:Addr}{us:List Value}
inductive D where
 | non|bl (b:Bool)|int (i:Int)|str (x:Str)|dct (ks:List dG) (ds:List D)|tup (l:List D)|lst (l:List D)|typ (n:String)|sn (n:Nat)|obj (n:Str) (ns:List Str) (ds:List D)|cls (n:Str)|xc (n:Str) (p:Option (Str×List (Str×Fv)))
mutual
def D.lless:D->Bool
 | .lst _=>false
 | .dct _ _=>false
 | .tup l=>az l
 | _=>true
def az:List D->Bool
 | []=>true
 | d::l=>d.lless&&az l
end
def tH(K:W.Frag)(H:Hp)(a:Addr)(vs:List V):Bool->Prop
 | true=>H a=some (.lst vs)
 | false=>(∃o,H a=some (.frz o (.lst vs)))\/∃(o:Obj) (its:Array Value) (n:Nat),K.lookup a=some o/\o.cls=.type "list" /\ o.dict=none/\o.data=.seq its n/\its.size<=sizeLine/\aL vs its.toList
theorem tH.sq{a:Addr}:∀{b:Bool},tH K H a vs b->cj K H a vs
 | true,h=>cj.of h
 | false,.inl ⟨o,h⟩=>.inl (.inr ⟨o,h⟩)
 | false,.inr h=>.inr h
structure qO(K:W.Frag)(C:Addr):Prop where
 ha:W.findIn K (.ref C) "__class__" = some (some (.builtin "object.__class__"))
 hn:W.specialIn K (.builtin "object.__class__") "__get__" = some (some (.builtin "getset_descriptor.__get__"))
 ht:W.takesIn K (.builtin "object.__class__")=some true
 hm:W.mroIn K C (.type "object")=some true
def HM:List Str:=["Deed", "Turn", "HalfTurn", "Mirror"]
def qW(m n:Str):Bool:=decide (m=n) || (decide (n = "Deed")&&(decide (m = "Turn") || decide (m = "HalfTurn") || decide (m = "Mirror")))
structure KJ(K:W.Frag)(C:Addr)(n:Str):Prop where
 all:∀m∈HM,∀Cm,W.nsIn K mainGlobals m=some (some (.ref Cm))->qO K Cm/\W.kitOne K (.ref Cm) (.ref C)=some (qW m n)
abbrev bj:=Addr->Bool->Prop
mutual
def aj(K:W.Frag)(H:Hp)(P:bj):D->V->Prop
 | .non,v=>v=.non
 | .bl b,v=>v=.bl b
 | .int i,v=>v=.int i
 | .str x,v=>v=.str x
 | .dct ks ds,v=>az ds=true/\ks.length=ds.length/\∃a vs,v=.ref a/\H a=some (.dK (ks.zip vs))/\P a true/\ah K H P ds vs
 | .typ n,v=>v=.ty n
 | .sn n,v => ∃a S,v=.ref a/\H a=some (.set S n)
 | .xc n p,v=>jG K H n p v
 | .cls n,v => ∃C o,v=.ref C/\W.nsIn K mainGlobals n=some (some (.ref C))/\K.lookup C=some o/\o.cls=.type "type" /\ qO K C/\KJ K C n
 | .obj n ns ds,v=>az ds=true/\ns.length=ds.length/\∃a C dx vs,v=.ref a/\W.nsIn K mainGlobals n=some (some (.ref C))/\eJ K C/\H a=some (.ins C dx (ns.zip vs))/\ah K H P ds vs
 | .tup l,v => ∃a vs,v=.ref a/\bT K H a vs/\ah K H P l vs
 | .lst l,v => ∃a vs b,v=.ref a/\tH K H a vs b/\P a b/\ah K H P l vs
def ah(K:W.Frag)(H:Hp)(P:bj):List D->List V->Prop
 | [],vs=>vs=[]
 | d::l,vs => ∃v r,vs=v::r/\aj K H P d v/\ah K H P l r
end
def nm:HO->Prop
 | .lst _=>False
 | .dK _=>False
 | _=>True
structure dM(P P':bj)(H H':Hp):Prop where
 oth:∀a o,H a=some o->nm o->H' a=some o
 lst:∀a o,H a=some o->P a true->H' a=some o
 impT:∀a o,H a=some o->P a true->P' a true
 impF:∀a,P a false->P' a false
theorem dM.sq{P P':bj}(s:dM P P' H H'){a:Addr}(h:bT K H a vs):bT K H' a vs:=by
 rcases h with(h|⟨o,h⟩)|h
 ·exact .inl (.inl (s.oth _ _ h True.intro))
 ·exact .inl (.inr ⟨o,s.oth _ _ h True.intro⟩)
 ·exact .inr h
theorem dM.ls{P P':bj}(s:dM P P' H H'){a:Addr}:∀{b:Bool},tH K H a vs b->P a b->tH K H' a vs b
 | true,h,p=>s.lst a _ h p
 | false,.inl ⟨o,h⟩,_=>.inl ⟨o,s.oth _ _ h True.intro⟩
 | false,.inr h,_=>.inr h
theorem dM.imp{P P':bj}(s:dM P P' H H'){a:Addr}:∀{b:Bool},tH K H a vs b->P a b->P' a b
 | true,h,p=>s.impT a _ h p
 | false,_,p=>s.impF a p
mutual
theorem aj.mono{K:W.Frag}{P P':bj}{H H':Hp}(s:dM P P' H H'):∀{d:D} {v:V},aj K H P d v->aj K H' P' d v
 | .non,v,h=>by rw[aj]at h⊢;exact h
 | .bl b,v,h=>by rw[aj]at h⊢;exact h
 | .int i,v,h=>by rw[aj]at h⊢;exact h
 | .str x,v,h=>by rw[aj]at h⊢;exact h
 | .dct ks ds,v,h=>by
  rw[aj]at h⊢
  obtain⟨f,e0,a,vs,e,h1,p,r⟩:=h
  exact⟨f,e0,a,vs,e,s.lst _ _ h1 p,s.impT _ _ h1 p,ah.mono s r⟩
 | .typ n,v,h=>by rw[aj]at h⊢;exact h
 | .sn n,v,h=>by
  rw[aj]at h⊢
  obtain⟨a,S,e,h⟩:=h
  exact⟨a,S,e,s.oth _ _ h True.intro⟩
 | .cls n,v,h=>by rw[aj]at h⊢;exact h
 | .xc n p,v,h=>by rw[aj]at h⊢;exact h.mono (fun a C od z=>s.oth _ _ z True.intro) (fun a fs z=>s.oth _ _ z True.intro) (fun a vs z=>s.sq z)
 | .obj n ns ds,v,h=>by
  rw[aj]at h⊢
  obtain⟨f,e0,a,C,dx,vs,e,h1,h2,h3,r⟩:=h
  exact⟨f,e0,a,C,dx,vs,e,h1,h2,s.oth _ _ h3 True.intro,ah.mono s r⟩
 | .tup l,v,h=>by
  rw[aj]at h⊢
  obtain⟨a,vs,e,h,r⟩:=h
  exact⟨a,vs,e,s.sq h,ah.mono s r⟩
 | .lst l,v,h=>by
  rw[aj]at h⊢
  obtain⟨a,vs,b,e,h,p,r⟩:=h
  exact⟨a,vs,b,e,s.ls h p,s.imp h p,ah.mono s r⟩
theorem ah.mono{K:W.Frag}{P P':bj}{H H':Hp}(s:dM P P' H H'):∀{l:List D} {vs:List V},ah K H P l vs->ah K H' P' l vs
 | [],vs,h=>by rw[ah]at h⊢;exact h
 | d::l,vs,h=>by
  rw[ah]at h⊢
  obtain⟨v,r,e,h1,h2⟩:=h
  exact⟨v,r,e,aj.mono s h1,ah.mono s h2⟩
end
theorem dM.same{P P':bj}(s:av H H')(i:∀a b,P a b->P' a b):dM P P' H H':=⟨fun a o h _=>s a o h,fun a vs h _=>s a _ h,fun a _ _ p=>i a true p,fun a p=>i a false p⟩
theorem aj.same{P:bj}(s:av H H'){d:D}(h:aj K H P d v):aj K H' P d v:=h.mono (.same s fun _ _ p=>p)
theorem ah.same{P:bj}(s:av H H'){d:List D}{v:List V}(h:ah K H P d v):ah K H' P d v:=h.mono (.same s fun _ _ p=>p)
theorem aj.imp{P P':bj}(i:∀a b,P a b->P' a b){d:D}(h:aj K H P d v):aj K H P' d v:=h.mono (.same (av.refl _) i)
theorem ah.imp{P P':bj}(i:∀a b,P a b->P' a b){d:List D}{v:List V}(h:ah K H P d v):ah K H P' d v:=h.mono (.same (av.refl _) i)
theorem aj.impH{P P':bj}(i:∀a o,H a=some o->P a true->P' a true)(j:∀a,P a false->P' a false){d:D}(h:aj K H P d v):aj K H P' d v:=h.mono ⟨fun _ _ h _=>h,fun _ _ h _=>h,i,j⟩
theorem ah.impH{P P':bj}(i:∀a o,H a=some o->P a true->P' a true)(j:∀a,P a false->P' a false){d:List D}{v:List V}(h:ah K H P d v):ah K H P' d v:=h.mono ⟨fun _ _ h _=>h,fun _ _ h _=>h,i,j⟩
mutual
theorem aj.flat{K:W.Frag}{P:bj}(P':bj){H:Hp}:∀{d:D} {v:V},d.lless=true->aj K H P d v->aj K H P' d v
 | .non,v,_,h=>by rw[aj]at h⊢;exact h
 | .bl b,v,_,h=>by rw[aj]at h⊢;exact h
 | .int i,v,_,h=>by rw[aj]at h⊢;exact h
 | .str x,v,_,h=>by rw[aj]at h⊢;exact h
 | .dct _ _,v,f,h=>by rw[D.lless]at f;cases f
 | .typ n,v,_,h=>by rw[aj]at h⊢;exact h
 | .sn n,v,_,h=>by rw[aj]at h⊢;exact h
 | .cls n,v,_,h=>by rw[aj]at h⊢;exact h
 | .xc n p,v,_,h=>by rw[aj]at h⊢;exact h
 | .obj n ns ds,v,_,h=>by
  rw[aj]at h⊢
  obtain⟨f,e0,a,C,dx,vs,e,h1,h2,h3,r⟩:=h
  exact⟨f,e0,a,C,dx,vs,e,h1,h2,h3,ah.flat P' f r⟩
 | .tup l,v,f,h=>by
  rw[aj]at h⊢
  obtain⟨a,vs,e,h,r⟩:=h
  exact⟨a,vs,e,h,ah.flat P' (by rw[D.lless]at f;exact f) r⟩
 | .lst l,v,f,h=>by rw[D.lless]at f;cases f
theorem ah.flat{K:W.Frag}{P:bj}(P':bj){H:Hp}:∀{l:List D} {vs:List V},az l=true->ah K H P l vs->ah K H P' l vs
 | [],vs,_,h=>by rw[ah]at h⊢;exact h
 | d::l,vs,f,h=>by
  rw[ah]at h⊢
  rw[az,QN]at f
  obtain⟨v,r,e,h1,h2⟩:=h
  exact⟨v,r,e,aj.flat P' f.1 h1,ah.flat P' f.2 h2⟩
end
theorem ah.length{P:bj}:∀{l:List D} {vs:List V},ah K H P l vs->l.length=vs.length
 | [],vs,h=>by rw[ah]at h;subst h;rfl
 | d::l,vs,h=>by
  rw[ah]at h
  obtain⟨v,r,e,h1,h2⟩:=h
  subst e
  rw[Ri,Ri,h2.length]
theorem ah.get{K:W.Frag}{P:bj}{H:Hp}:∀{l:List D} {vs:List V} {i:Nat} {d:D},ah K H P l vs->l[i]?=some d->∃v,vs[i]?=some v/\aj K H P d v
 | [],vs,i,d,h,e=>by simp at e
 | x::l,vs,0,d,h,e=>by
  rw[ah]at h
  obtain⟨v,r,rfl,h1,h2⟩:=h
  simp at e;subst e
  exact⟨v,by simp,h1⟩
 | x::l,vs,i+1,d,h,e=>by
  rw[ah]at h
  obtain⟨v,r,rfl,h1,h2⟩:=h
  obtain⟨u,h3,h4⟩:=ah.get (i:=i) h2 (by simpa using e)
  exact⟨u,by simpa using h3,h4⟩
theorem ah.append{K:W.Frag}{P:bj}{H:Hp}:∀{l m:List D} {vs ws:List V},ah K H P l vs->ah K H P m ws->ah K H P (l++m) (vs++ws)
 | [],m,vs,ws,h,g=>by rw[ah]at h;subst h;exact g
 | d::l,m,vs,ws,h,g=>by
  rw[ah]at h
  obtain⟨v,r,rfl,h1,h2⟩:=h
  show ah K H P (d::(l++m)) (v::(r++ws))
  rw[ah]
  exact⟨v,_,rfl,h1,ah.append h2 g⟩
theorem ah.one{P:bj}{d:D}(h:aj K H P d v):ah K H P [d] [v]:=by
 rw[ah];exact⟨v,[],rfl,h,by rw[ah]⟩
theorem ah.nil{P:bj}:ah K H P [] []:=by rw[ah]
theorem ah.cons{P:bj}{d:D}{l:List D}(h:aj K H P d v)(g:ah K H P l vs):ah K H P (d::l) (v::vs):=by
 rw[ah];exact⟨v,vs,rfl,h,g⟩
theorem ah.take{K:W.Frag}{P:bj}{H:Hp}:∀{l:List D} {vs:List V} (n:Nat),ah K H P l vs->ah K H P (l.take n) (vs.take n)
 | [],vs,n,h=>by rw[ah]at h;subst h;simp;exact ah.nil
 | d::l,vs,0,h=>by simp;exact ah.nil
 | d::l,vs,n+1,h=>by
  rw[ah]at h
  obtain⟨v,r,rfl,h1,h2⟩:=h
  exact ah.cons h1 (ah.take n h2)
theorem ah.drop{K:W.Frag}{P:bj}{H:Hp}:∀{l:List D} {vs:List V} (n:Nat),ah K H P l vs->ah K H P (l.drop n) (vs.drop n)
 | [],vs,n,h=>by rw[ah]at h;subst h;simp;exact ah.nil
 | d::l,vs,0,h=>h
 | d::l,vs,n+1,h=>by
  rw[ah]at h
  obtain⟨v,r,rfl,h1,h2⟩:=h
  exact ah.drop n h2
theorem ah.mapInt{K:W.Frag}{P:bj}{H:Hp}:∀{ns:List Int} {vs:List V},ah K H P (ns.map D.int) vs->vs=ns.map V.int
 | [],vs,h=>by rw[SG,ah]at h;exact h
 | n::ns,vs,h=>by
  rw[Q8,ah]at h
  obtain⟨v,r,rfl,h1,h2⟩:=h
  rw[aj]at h1
  rw[h1,ah.mapInt h2];rfl
theorem ah.ofInts{K:W.Frag}{P:bj}{H:Hp}:∀{ns:List Int},ah K H P (ns.map D.int) (ns.map V.int)
 | []=>ah.nil
 | n::ns=>ah.cons (by rw[aj]) ah.ofInts
abbrev Ow:=Addr->Option (Option Str)
def Kp(ow:Ow)(H:Hp):Nat->bj
 | 0=>fun a b=>b=true/\H a=none
 | 1=>fun a b=>b=true->ow a=none
 | 2=>fun a b=>b=true/\(ow a≠none\/H a=none)
 | _=>fun _ _=>True
def kj:Nat->Nat->Nat
 | 0,k=>k
 | k,0=>k
 | 1,1=>1
 | 2,2=>2
 | _,_=>3
def jq(ow:Ow)(x:Str):Bool->bj
 | true=>fun a b=>b=true/\ow a=some (some x)
 | false=>fun a b=>b=true->ow a=none
def fe(ow:Ow)(H:Hp):Prop:=∀a,ow a≠none->∃o,H a=some o
theorem fe.same{ow:Ow}(o:fe ow H)(s:av H H'):fe ow H':=fun a h=>let ⟨x,e⟩:=o a h;⟨x,s a x e⟩
theorem fe.free{ow:Ow}(o:fe ow H){a:Addr}(h:H a=none):ow a=none:=by
 cases e:ow a with
 | none=>rfl
 | some x=>obtain⟨y,q⟩:=o a (by rw[e];exact(fun z=>nomatch z));rw[h]at q;cases q
theorem Kp.back{ow:Ow}(s:av H H'):∀(k:Nat) (a:Addr) (b:Bool),Kp ow H' k a b->Kp ow H k a b
 | 0,a,b,h=>⟨h.1,s.free h.2⟩
 | 1,a,b,h=>h
 | 2,a,b,h=>⟨h.1,h.2.imp id fun z=>s.free z⟩
 | _+3,a,b,h=>True.intro
theorem Kp.joinL{ow:Ow}(o:fe ow H):∀(k j:Nat) (a:Addr) (b:Bool),Kp ow H k a b->Kp ow H (kj k j) a b
 | 0,0,a,b,h=>h
 | 0,1,a,b,h=>fun _=>o.free h.2
 | 0,2,a,b,h=>⟨h.1,.inr h.2⟩
 | 0,_+3,a,b,h=>True.intro
 | 1,0,a,b,h=>h
 | 1,1,a,b,h=>h
 | 1,2,a,b,h=>True.intro
 | 1,_+3,a,b,h=>True.intro
 | 2,0,a,b,h=>h
 | 2,1,a,b,h=>True.intro
 | 2,2,a,b,h=>h
 | 2,_+3,a,b,h=>True.intro
 | _+3,0,a,b,h=>True.intro
 | _+3,1,a,b,h=>True.intro
 | _+3,2,a,b,h=>True.intro
 | _+3,_+3,a,b,h=>True.intro
theorem Dw:∀k j,kj k j=kj j k
 | 0,0|0,1|0,2|0,_+3|1,0|1,1|1,2|1,_+3|2,0|2,1|2,2|2,_+3|_+3,0|_+3,1|_+3,2|_+3,_+3=>rfl
theorem Kp.joinR{ow:Ow}(o:fe ow H)(k j:Nat)(a:Addr)(b:Bool)(h:Kp ow H j a b):Kp ow H (kj k j) a b:=by
 rw[Dw];exact Kp.joinL o j k a b h
abbrev ag:=Str->Option (D×Bool)
structure aF(X:Cx)(ow:Ow)(H:Hp)(σ:L2.St)(ρ:ag):Prop where
 get:∀x d o,ρ x=some (d,o)->∃(i:Nat) (v:V),X.N[i]?=some x/\fb X.env.scope x/\σ[i]?=some (some v)/\aj X.K H (jq ow x o) d v
 own:fe ow H
theorem aF.same{ow:Ow}{ρ:ag}(e:aF X ow H σ ρ)(s:av H H'):aF X ow H' σ ρ :=
 ⟨fun x d o h=>let ⟨i,v,h1,h2,h3,h4⟩:=e.get x d o h;⟨i,v,h1,h2,h3,h4.same s⟩,e.own.same s⟩
def tD(X:Cx)(ow:Ow)(ρ:ag)(d:D)(k:Nat):TE:=fun σ H Q=>aF X ow H σ ρ/\∀v H',av H H'->aj X.K H' (Kp ow H k) d v->Q v H'
def ED(X:Cx)(ρ:ag)(e:Expr)(d:D)(k:Nat):Prop:=∀ow,PE X e (tD X ow ρ d k)
def A5(X:Cx)(ow:Ow)(ρ:ag)(b:Bool):TT:=fun σ H Q=>aF X ow H σ ρ/\∀H',av H H'->Q b H'
def TD(X:Cx)(ρ:ag)(e:Expr)(b:Bool):Prop:=∀ow,PT X e (A5 X ow ρ b)
def Qq(X:Cx)(ow:Ow)(ρ:ag)(ds:List D)(k:Nat):TA:=fun σ H Q=>aF X ow H σ ρ/\∀vs H',av H H'->ah X.K H' (Kp ow H k) ds vs->Q vs H'
def AD(X:Cx)(ρ:ag)(es:List Expr)(ds:List D)(k:Nat):Prop:=∀ow,PA X es (Qq X ow ρ ds k)
theorem bF{t t':TE}(h:PE X e t)(i:∀σ H Q,t' σ H Q->t σ H Q):PE X e t':=fun pins s σ H Q I q=>h pins s σ H Q I (i σ H Q q)
theorem wt{t t':TT}(h:PT X e t)(i:∀σ H Q,t' σ H Q->t σ H Q):PT X e t':=fun pins s σ H Q I q=>h pins s σ H Q I (i σ H Q q)
theorem BM{e:List Expr}{t t':TA}(h:PA X e t)(i:∀σ H Q,t' σ H Q->t σ H Q):PA X e t':=fun pos pins s σ H Q I q=>h pos pins s σ H Q I (i σ H Q q)
def kn(d:D)(k:Nat):Nat:=if d.lless=true then 0 else k
theorem ED.kn{ρ:ag}{d:D}(h:ED X ρ e d k):ED X ρ e d (Sp.kn d k):=by
 unfold Sp.kn
 by_cases f:d.lless=true
 ·rw[if_pos f]
  exact fun ow=>bF (h ow) fun σ H Q ⟨E,q⟩=>⟨E,fun v H' s r=>q v H' s (r.flat _ f)⟩
 ·rw[if_neg f];exact h
variable{C C' ρ ρ':ag}{d y z:D}{ow ow':Ow}{ds l l':List D}
def KY(K:W.Frag)(J:It)(ds:List D)(P:bj)(H1:Hp):Prop :=
 ∀(i:Nat) (H2:Hp),dM P P H1 H2->(∀d,ds[i]?=some d->J.go i H2/\∀x H3,J.yld i H2 x H3->av H2 H3/\aj K H3 P d x)/\(ds.length<=i->J.stop i H2)
def Kd(ow:Ow)(H:Hp)(k:Nat)(H1:Hp):bj:=fun a b=>Kp ow H k a b/\(b=true->∃o,H1 a=some o)
def tI(X:Cx)(ow:Ow)(ρ:ag)(ds:List D)(k:Nat):TI:=fun σ H R=>aF X ow H σ ρ/\∀J H1,av H H1->KY X.K J ds (Kd ow H k H1) H1->R J H1
def IE(X:Cx)(ρ:ag)(tg iter:Expr)(ds:List D)(k:Nat):Prop:=∀ow,PI X tg iter (tI X ow ρ ds k)
def ip(ifs:List Expr)(env:Env):Sem Bool:=forIn ifs true fun c r=>if r=true then do let ok <- isTrue c env (eval c env);pure (ForInStep.yield ok)else pure (ForInStep.yield r)
def yP(X:Cx)(ρ:ag)(ifs:List Expr)(b:Bool):Prop:=∀ow (pins:List (Addr×Obj)) (s:Shared) (σ:L2.St) (H:Hp) (Q:Bool->Hp->Prop),al X pins σ H s->A5 X ow ρ b σ H Q->wpAny (model X.prog X.w) X.A (ip ifs X.env) (TP X pins σ Q) X.xe s
def GD(X:Cx)(ρ:ag)(tg:Expr)(d:D)(ρ':ag):Prop:=∃g:TG,PG X tg g/\∀(ow:Ow) (v:V) (σ:L2.St) (H:Hp) (Q:L2.St->Hp->Prop),σ.length=X.N.length->aF X ow H σ ρ->aj X.K H (fun a b=>b=true->ow a=none) d v->(∀σ',σ'.length=X.N.length->aF X ow H σ' ρ'->Q σ' H)->g v σ H Q
abbrev ku(X:Cx)(scope:Scope)(cl:List (Str×Addr))(C:Addr)(N':List Str)(s:Shared)(H:Hp)(fp:List Addr):Cx :=
 { X with N:=N',s₀:=s,H₀:=H,env:=compEnvC scope cl C X.env,outer:=X.stack,stack:=X.stack,ex:=fp,fn:=fun x=>decide (scope.names.lookup x=some .cell),pn:=[],xe:=fun _ _=>False }
theorem iw{env:Env}:∀(names:List (Str×NameKind)) (cs:List (Str×Addr)),(∀n,(n,NameKind.free)∈names->∃c,env.cells.lookup n=some c) ->
  ∃cl,(forIn names cs (fun(x:Str×NameKind) (r:List (Str×Addr))=>(if (x.2==NameKind.free)=true then do let a <- cellOf env x.1;pure (ForInStep.yield ((x.1,a)::r))else pure (ForInStep.yield r):Sem (ForInStep (List (Str×Addr))))))=(pure cl:Sem (List (Str×Addr))) /\
   (∀x c,cl.lookup x=some c->(env.cells.lookup x=some c/\(x,NameKind.free)∈names)\/cs.lookup x=some c)/\(∀x,(x,NameKind.free)∈names->∃c,cl.lookup x=some c)/\(∀x c,cs.lookup x=some c->∃c',cl.lookup x=some c')
 | [],cs,_=>⟨cs,rfl,fun x c h=>.inr h,fun x h=>(by cases h),fun x c h=>⟨c,h⟩⟩
 | (n,k)::r,cs,h=>by
  have hr:∀n,(n,NameKind.free)∈r->∃c,env.cells.lookup n=some c:=fun m hm=>h m (QB _ hm)
  by_cases hk:k=.free
  ·subst hk
   obtain⟨c,hc⟩:=h n QE
   obtain⟨cl,e,h1,h2,h3⟩:=iw r ((n,c)::cs) hr
   refine⟨cl,?_,fun x c' hx=>?_,fun x hx=>?_,fun x c' hx=>?_⟩
   ·rw[Su]
    simp only[beq_self_eq_true,SJ,cellOf,hc]
    rw[pure_bind,pure_bind]
    exact e
   ·rcases h1 x c' hx with q|q
    ·exact .inl ⟨q.1,QB _ q.2⟩
    ·rw[QO]at q
     split at q
     ·rename_i hb
      have:x=n:=by simpa using hb
      subst this;cases q;exact .inl ⟨hc,QE⟩
     ·exact .inr q
   ·rcases QA.mp hx with q|q
    ·cases q
     exact h3 n c (by simp)
    ·exact h2 x q
   ·by_cases hb:x==n
    ·exact h3 x c (by rw[QO,hb])
    ·exact h3 x c' (by rw[QO];simp only[hb];exact hx)
  ·obtain⟨cl,e,h1,h2,h3⟩:=iw r cs hr
   refine⟨cl,?_,fun x c hx=>(h1 x c hx).imp (fun q=>⟨q.1,QB _ q.2⟩) id,fun x hx=>?_,h3⟩
   ·rw[Su]
    have:(k==NameKind.free)=false:=by simpa using hk
    simp only[this,Bool.false_eq_true,if_false]
    rw[pure_bind]
    exact e
   ·rcases QA.mp hx with q|q
    ·cases q;exact absurd rfl hk
    ·exact h2 x q
theorem tS(h:∀n,(n,NameKind.free)∈scope.names->∃c,env.cells.lookup n=some c) :
  ∃cl,closureFor scope env=pure cl/\(∀x c,cl.lookup x=some c->env.cells.lookup x=some c/\(x,NameKind.free)∈scope.names)/\(∀x,(x,NameKind.free)∈scope.names->∃c,cl.lookup x=some c):=by
 obtain⟨cl,e,h1,h2,_⟩:=iw scope.names [] h
 refine⟨cl,?_,fun x c hx=>(h1 x c hx).resolve_right (by simp),h2⟩
 unfold closureFor
 rw[<- e,<- bind_pure (forIn scope.names _ _)]
theorem dy{env:Env}:∀{names:List (Str×NameKind)} {x:Str},names.lookup x=some .free ->
  (names.map fun(n,k)=>if (k==NameKind.free&&env.scope.kind == .function&&env.kindOf n==some .cell)then(n,NameKind.cell)else(n,k)).lookup x=some .cell \/
  (names.map fun(n,k)=>if (k==NameKind.free&&env.scope.kind == .function&&env.kindOf n==some .cell)then(n,NameKind.cell)else(n,k)).lookup x=some .free
 | [],_,h=>by simp at h
 | (n,k)::r,x,h=>by
  have ih:=@dy env r x
  show List.lookup x ((if (k==NameKind.free&&env.scope.kind == .function&&env.kindOf n==some .cell)=true then(n,NameKind.cell)else(n,k))::_)=_\/List.lookup x ((if (k==NameKind.free&&env.scope.kind == .function&&env.kindOf n==some .cell)=true then(n,NameKind.cell)else(n,k))::_)=_
  cases hx:x==n with
  | true =>
   simp only[QO,hx]at h
   cases h
   by_cases hc:(NameKind.free==NameKind.free&&env.scope.kind == .function&&env.kindOf n==some .cell)=true
   ·rw[if_pos hc];simp[QO,hx]
   ·rw[if_neg hc];simp[QO,hx]
  | false =>
   simp only[QO,hx]at h
   by_cases hc:(k==NameKind.free&&env.scope.kind == .function&&env.kindOf n==some .cell)=true
   ·rw[if_pos hc];simp only[QO,hx];exact ih h
   ·rw[if_neg hc];simp only[QO,hx];exact ih h
theorem gc{env:Env}:∀{names:List (Str×NameKind)} {x:Str} {k:NameKind},(names.map fun(n,k)=>if (k==NameKind.free&&env.scope.kind == .function&&env.kindOf n==some .cell)then(n,NameKind.cell)else(n,k)).lookup x=some k ->
  names.lookup x=some k\/(k=.cell/\names.lookup x=some .free)
 | [],_,_,h=>by simp at h
 | (n,j)::r,x,k,h=>by
  have ih:=@gc env r x k
  replace h:List.lookup x ((if (j==NameKind.free&&env.scope.kind == .function&&env.kindOf n==some .cell)=true then(n,NameKind.cell)else(n,j))::_)=some k:=h
  cases hx:x==n with
  | true =>
   simp only[QO,hx]
   by_cases hc:(j==NameKind.free&&env.scope.kind == .function&&env.kindOf n==some .cell)=true
   ·rw[if_pos hc]at h
    simp only[QO,hx]at h
    cases h
    have:j=.free:=by
     have:=(QN _ _).mp ((QN _ _).mp hc).1
     simpa using this.1
    exact .inr ⟨rfl,by rw[this]⟩
   ·rw[if_neg hc]at h
    simp only[QO,hx]at h
    exact .inl h
  | false =>
   simp only[QO,hx]
   by_cases hc:(j==NameKind.free&&env.scope.kind == .function&&env.kindOf n==some .cell)=true
   ·rw[if_pos hc]at h;simp only[QO,hx]at h;exact ih h
   ·rw[if_neg hc]at h;simp only[QO,hx]at h;exact ih h
structure gG(env:Env)(scope:Scope)(N':List Str):Prop where
 kind:scope.kind=.function
 nn:(scope.names.map (·.1)).Nodup
 names:∀y∈scope.names,y.2=.local->scope.names.lookup y.1=some .local
 nd:N'.Nodup
 fr:∀n,(n,NameKind.free)∈scope.names->env.kindOf n=some .cell\/env.kindOf n=some .free
theorem rX:∀{names:List (Str×NameKind)} {x:Str} {k:NameKind},(names.map (·.1)).Nodup->(x,k)∈names->names.lookup x=some k
 | [],_,_,_,h=>by cases h
 | (n,j)::r,x,k,nd,h=>by
  rw[Q8,SN]at nd
  rcases QA.mp h with e|h'
  ·cases e;simp
  ·have hx:(x==n)=false:=by
    cases q:x==n with
    | false=>rfl
    | true =>
     have:x=n:=by simpa using q
     subst this
     have hm:x∈r.map (·.1):=SI.mpr ⟨(x,k),h',rfl⟩
     exact absurd hm nd.1
   rw[QO,hx]
   exact rX nd.2 h'
theorem nD:∀(names:List (Str×NameKind)) (n:Nat) (acc:List (Str×Addr)) {x:Str} {c:Addr},(cellsFrom n names acc).lookup x=some c->acc.lookup x=some c\/(n<=c/\(x,NameKind.cell)∈names)
 | [],_,_,_,_,h=>.inl h
 | (y,k)::r,n,acc,x,c,h=>by
  unfold cellsFrom at h
  split at h
  ·rename_i hk
   have hk:k=.cell:=by simpa using hk
   subst hk
   rcases nD r (n+1) ((y,n)::acc) h with q|⟨q1,q2⟩
   ·rw[QO]at q
    split at q
    ·rename_i hb
     have:x=y:=by simpa using hb
     subst this
     cases q
     exact .inr ⟨QF _,QE⟩
    ·exact .inl q
   ·exact .inr ⟨by omega,QB _ q2⟩
  ·rcases nD r n acc h with q|⟨q1,q2⟩
   ·exact .inl q
   ·exact .inr ⟨q1,QB _ q2⟩
theorem sQ:∀(names:List (Str×NameKind)) (n:Nat) (acc:List (Str×Addr)),(∀x y c,acc.lookup x=some c->acc.lookup y=some c->x=y)->(∀x c,acc.lookup x=some c->c<n) ->
  ∀x y c,(cellsFrom n names acc).lookup x=some c->(cellsFrom n names acc).lookup y=some c->x=y
 | [],_,_,h,_,x,y,c,a,b=>h x y c a b
 | (z,k)::r,n,acc,h,hb,x,y,c,a,b=>by
  unfold cellsFrom at a b
  split at a
  ·rename_i hk
   rw[if_pos hk]at b
   refine sQ r (n+1) ((z,n)::acc) (fun u v d p q=>?_) (fun u d p=>?_) x y c a b
   ·rw[QO]at p q
    split at p
    ·rename_i e1
     split at q
     ·rename_i e2
      rw[show u=z by simpa using e1,show v=z by simpa using e2]
     ·cases p;exact absurd (hb v _ q) (Q6 _)
    ·split at q
     ·cases q;exact absurd (hb u _ p) (Q6 _)
     ·exact h u v d p q
   ·rw[QO]at p
    split at p
    ·cases p;exact Q5 _
    ·exact Nat.lt_succ_of_lt (hb u d p)
  ·rename_i hk
   rw[if_neg hk]at b
   exact sQ r n acc h hb x y c a b
theorem oQ:∀(names:List (Str×NameKind)) (h:Heap) (acc:List (Str×Addr)),(∀x c,acc.lookup x=some c->∃v,h.IsCell c v)->∀x c,(cellsFrom h.objs.size names acc).lookup x=some c->∃v,(pushCells h names).IsCell c v
 | [],_,_,h,x,c,a=>h x c a
 | (z,k)::r,h,acc,hc,x,c,a=>by
  unfold cellsFrom at a
  unfold pushCells
  split at a
  ·rename_i hk
   rw[if_pos hk]
   have:=oQ r (h.push { cls:=.type "cell", data:=.cell none }) ((z,h.objs.size)::acc) (fun u d p=>?_) x c
   ·rw[Rg]at this
    exact this a
   ·rw[QO]at p
    split at p
    ·cases p;exact⟨none,_,QH _ rfl,rfl⟩
    ·obtain⟨v,q⟩:=hc u d p
     exact⟨v,q.keeps fun b o e=>Qy _ e⟩
  ·rename_i hk
   rw[if_neg hk]
   exact oQ r h acc hc x c a
theorem wP{globals:Addr}{Q:Env->Shared->Prop}(hcl:∀x c,cl.lookup x=some c->∃v,s.heap.IsCell c v)
  (h:∀h',h'.Ns s.heap.objs.size (fun _=>none)->(∀b o,s.heap.get? b=some o->h'.get? b=some o)->(∀x c,(cellsFrom (s.heap.objs.size+1) scope.names cl).lookup x=some c->∃v,h'.IsCell c v) ->
   Q (newEnv scope s.heap.objs.size globals (cellsFrom (s.heap.objs.size+1) scope.names cl) qual none .none (some env) builtinsNs) { s with heap:=h',toks:=s.toks+0 }) :
  wpAny M A (newFunctionEnv scope globals cl [] qual none .none (some env)) Q E s:=by
 simp only[newFunctionEnv,Option.isSome_some,SJ]
 refine Qx (wpAny_alloc ?_)
 refine Qx (wpAny_layCells _ (fun name kind cells=>by cases hkc:kind==NameKind.cell<;>simp[hkc]) _ _ _ _ ?_)
 rw[show({ s with heap:=s.heap.push { cls:=.type "dict", data:=.dict #[] } }:Shared).heap.objs.size=s.heap.objs.size+1 from Rg ..]
 rw[List.forIn_nil]
 refine Qx (Qz (Qz ?_))
 refine h _ ((Heap.Ns.new s.heap (.type "dict")).keeps (pushCells_keeps _ _)) (fun b o e=>pushCells_keeps _ _ b o (Qy _ e)) fun x c hc=>?_
 have:=oQ scope.names (s.heap.push { cls:=.type "dict", data:=.dict #[] }) cl (fun u d p=>by
  obtain⟨v,q⟩:=hcl u d p
  exact⟨v,q.keeps fun b o e=>Qy _ e⟩) x c
 rw[Rg]at this
 exact this hc
structure lr(X:Cx)(scope:Scope)(cl:List (Str×Addr))(n:Nat):Prop where
 k1:∀x c,cl.lookup x=some c->X.env.cells.lookup x=some c\/(n<c/\scope.names.lookup x=some .cell)
 k2:∀x,scope.names.lookup x=some .free\/scope.names.lookup x=some .cell->∃c,cl.lookup x=some c
 k4:∀x y c,cl.lookup x=some c->cl.lookup y=some c->x=y
 k5:∀x c,scope.names.lookup x=some .cell->cl.lookup x=some c->n<=c
variable{X:Cx}
theorem Aj(I:al X pins σ H s)(S:gG X.env scope N')
  (h1:∀x c,cl.lookup x=some c->X.env.cells.lookup x=some c/\(x,NameKind.free)∈scope.names) (h2:∀x,(x,NameKind.free)∈scope.names->∃c,cl.lookup x=some c) :
  lr X scope (cellsFrom (s.heap.objs.size+1) scope.names cl) s.heap.objs.size where
 k1:=fun x c h=>by
  rcases nD _ _ _ h with q|⟨q1,q2⟩
  ·exact .inl (h1 x c q).1
  ·exact .inr ⟨q1,rX S.nn q2⟩
 k2:=fun x h=>by
  refine Option.isSome_iff_exists.mp (W.cellsFrom_some scope.names _ cl ?_)
  rcases h with h|h
  ·obtain⟨c,hc⟩:=h2 x (QR h)
   exact .inr (by rw[hc];rfl)
  ·exact .inl h
 k4:=sQ scope.names _ cl (fun x y c a b=>I.ok.inj x y c (h1 x c a).1 (h1 y c b).1) fun x c a=>by
  obtain⟨v,hv⟩:=I.cell x c (h1 x c a).1
  exact Nat.lt_succ_of_lt hv.lt
 k5:=fun x c hx h=>by
  rcases nD _ _ _ h with q|⟨q1,q2⟩
  ·rw[rX S.nn (h1 x c q).2]at hx;cases hx
  ·omega
theorem JH{C:Addr}(I:al X pins σ H s)(S:gG X.env scope N')
  (hC:s.heap.objs.size<=C) (k:lr X scope cl s.heap.objs.size)
  (hf:∀b∈fp,fV X pins H b) (hfC:∀b∈fp,b<s.heap.objs.size):(ku X scope cl C N' s H fp).Ok where
 mod:=I.ok.mod
 kind:=by show(relabel scope X.env).kind=_;exact S.kind
 glob:=I.ok.glob
 blt:=I.ok.blt
 above:=hC
 inj:=k.k4
 has:=fun x hx=>by
  have hx:(relabel scope X.env).names.lookup x=some .cell\/(relabel scope X.env).names.lookup x=some .free:=hx
  rcases hx with hx|hx
  ·rcases gc hx with q|⟨_,q⟩
   ·exact k.k2 x (.inr q)
   ·exact k.k2 x (.inl q)
  ·rcases gc hx with q|⟨q,_⟩
   ·exact k.k2 x (.inl q)
   ·cases q
 cab:=fun x c h hc=>k.k5 x c (RG h) hc
 hd:=I.ok.hd
 frames:=I.ok.frames
 stk:=.inl rfl
 exf:=fun b hb=>⟨by have:=hfC b hb;intro z;subst z;show False;exact absurd (QG this hC) (Q6 _),fun x c h=>by
  rcases k.k1 x c h with q|⟨q,_⟩
  ·exact(hf b hb).2.2.2.2.1 x c q
  ·have:=hfC b hb
   intro z;subst z;exact absurd (Nat.lt_trans q this) (Q6 _)⟩
 bs:=I.bs
 bsz:=QD I.ok.bsz I.sz
 noex:=fun b o e hb=>by
  rcases(hf b hb).2.2.2.1 with q|q
  ·exact I.ok.noex b o e q
  ·exact absurd (QG (QC e) (QD I.ok.bsz q)) (Q6 _)
 exfs:=fun b hb z=>by
  rcases QA.mp (I.stkSub b z)with q|q
  ·exact(hf b hb).2.1 q
  ·exact(hf b hb).2.2.1 q
 funs:=I.stack
 frf:=I.stkFree
def lM(X:Cx)(scope:Scope)(N':List Str)(σ:L2.St):L2.St:=N'.map fun x=>if scope.names.lookup x=some .free then(σ[X.N.idxOf x]?).join else none
theorem GS{s1:Shared}{m:Str->Option Value}(I:al X pins σ H s)(S:gG X.env scope N')
  (k:lr X scope cl s.heap.objs.size) (k6:∀x c,cl.lookup x=some c->∃v,s1.heap.IsCell c v)
  (hf:∀b∈fp,fV X pins H b) (hfC:∀b∈fp,b<s.heap.objs.size)
  (es:∃h t,s1 = { s with heap:=h,toks:=t }) (hns:s1.heap.Ns s.heap.objs.size m) (hk:∀b o,s.heap.get? b=some o->s1.heap.get? b=some o) :
  al (ku X scope cl s.heap.objs.size N' s H fp) [] (lM X scope N' σ) H s1:=by
 obtain⟨h',t,rfl⟩:=es
 have I1:al X pins σ H { s with heap:=h',toks:=t }:=I.kept hk
 refine⟨JH I S (QF _) k hf hfC,rfl,I.bare,Un.kept hk,⟨m,hns,fun i x v e1 e2 e3=>?_⟩,k6,I.hok.fresh (QF _),fun x c h=>(k.k1 x c h).elim (fun q=>I.freeC x c q) fun q=>I.hok.fresh (SQ q.1),fun p hp=>absurd (show p∈([]:List (Addr×Obj))from hp) (by simp),I1.hok,?_⟩
 ·have hN:N'[i]?=some x:=e1
  unfold lM at e2
  rw[QS,hN]at e2
  simp only[Option.map_some,Option.some.injEq]at e2
  split at e2
  ·rename_i hfr
   have hj:σ[X.N.idxOf x]?=some (some v):=by
    cases q:σ[X.N.idxOf x]? with
    | none=>rw[q]at e2;cases e2
    | some y=>rw[q]at e2;rw[show y=some v from e2]
   have hlt:X.N.idxOf x<X.N.length:=by rw[<- I.len];exact(QJ.mp hj).1
   have hx:X.N[X.N.idxOf x]?=some x:=by
    rw[QL hlt,Sv hlt]
   have kf:=S.fr x (QR hfr)
   have vis:fb X.env.scope x:=.inr (kf.imp id id)
   obtain⟨m1,hn1,hl1⟩:=I1.loc
   obtain⟨u,r,l⟩:=hl1 _ x v hx hj vis
   refine⟨u,r,.inr ⟨?_,?_⟩⟩
   ·exact dy hfr
   ·rcases l with⟨hk',_⟩|⟨_,c,hc,hcell⟩
    ·rcases kf with q|q<;>rw[q]at hk'<;>cases hk'
    ·obtain⟨c',hc'⟩:=k.k2 x (.inl hfr)
     have:c'=c:=by
      rcases k.k1 x c' hc' with this|⟨_,this⟩
      ·rw[hc]at this;exact(QK this).symm
      ·rw[hfr]at this;cases this
     subst this
     exact⟨c',hc',hcell⟩
  ·cases e2
 ·unfold lM;simp
def flt(scope:Scope)(ρ:ag):ag:=fun x=>if scope.names.lookup x=some .free then ρ x else none
theorem jz{y:D×Bool}(h:flt scope ρ x=some y):ρ x=some y/\scope.names.lookup x=some .free:=by
 unfold flt at h
 split at h
 ·rename_i e;exact⟨h,e⟩
 ·cases h
theorem Ho{C:Addr}(E:aF X ow H σ ρ)(hN:X.N.Nodup)
  (hsub:∀x d o,flt scope ρ x=some (d,o)->x∈N') :
  aF (ku X scope cl C N' s H0 fp) ow H (lM X scope N' σ) (flt scope ρ):=by
 refine⟨fun x d o h=>?_,E.own⟩
 obtain⟨h1,h2⟩:=jz h
 obtain⟨i,v,e1,e2,e3,e4⟩:=E.get x d o h1
 have hx:x∈N':=hsub x d o h
 have hi:X.N.idxOf x=i:=by
  have hm:x∈X.N:=Q9 e1
  have hlt:=List.idxOf_lt_length_iff.mpr hm
  exact ig hN (by rw[QL hlt,Sv hlt]) e1
 refine⟨N'.idxOf x,v,?_,?_,?_,e4⟩
 ·have hlt:=List.idxOf_lt_length_iff.mpr hx
  show N'[N'.idxOf x]?=some x
  rw[QL hlt,Sv hlt]
 ·exact .inr (dy h2)
 ·have hlt:=List.idxOf_lt_length_iff.mpr hx
  unfold lM
  rw[QS,QL hlt,Sv hlt]
  simp only[Option.map_some]
  rw[if_pos h2,hi,e3];rfl
variable{X:Cx}
theorem yi{R:Result->Shared->Prop}{target:Expr}{it acc:Value}(J:Nat->Shared->Prop)
    (turn:∀n s,J n s->wpAny (model prog w) A (pyNext it) (fun r s₁=>match r with
      | none=>R (.ok .next) s₁
      | some v=>wpAny (model prog w) A (letOwnedTupleGo target it v) (fun _ s₁=>wpAny (model prog w) A (assign target env v) (fun _ s₂ =>
          wpAny (model prog w) A (ip ifs env) (fun ok s₃ =>
            if ok=true then wpAny (model prog w) A (eval elt env) (fun x s₄ =>
              wpAny (model prog w) A (call (.builtin "list.append") [acc,x]) (fun _ s₅ => ∃m,m<n/\J m s₅) (fun _ _=>False) s₄) (fun _ _=>False) s₃
            else ∃m,m<n/\J m s₃) (fun _ _=>False) s₂) (fun _ _=>False) s₁) (fun _ _=>False) s₁) (fun _ _=>False) s)
    (n:Nat) (h:J n s):codeAny (model prog w) A (.compLoop (.ListComp elt [⟨target,iter,ifs,0⟩] scope pos) 0 it acc env) R s:=by
  refine codeAny_loop rfl J (fun n s hI=>?_) n h
  show wpAny _ A ((compTurn (.ListComp elt [⟨target,iter,ifs,0⟩] scope pos) 0 it acc env).onRaise (fun x=>do noteFrame x env;theTreesLotGoes x)) _ _ s
  refine wpAny_noted ?_
  rw[compTurn_list]
  refine Qx (R7 (Qx (Rq (turn n s hI) (fun r s₁ h₁=>?_) fun _ _ h'=>h'.elim)))
  cases r with
  | none=>exact Qz h₁
  | some v =>
    refine Qx (Rq h₁ (fun _ s₁' h₁'=>?_) fun _ _ h'=>h'.elim)
    refine Qx (Rq h₁' (fun _ s₂ h₂=>Qx (Rq h₂ (fun ok s₃ h₃=>?_) fun _ _ h'=>h'.elim)) fun _ _ h'=>h'.elim)
    cases ok with
    | false=>exact Qz ⟨rfl,h₃⟩
    | true =>
      exact Qx (Qx (Rq h₃ (fun x s₄ h₄=>Qx (Rq h₄ (fun _ s₅ h₅=>Qz (Qz ⟨rfl,h₅⟩)) fun _ _ h'=>h'.elim)) fun _ _ h'=>h'.elim))
def lj(X:Cx)(ρ:ag)(tg:Expr)(ifs:List Expr)(elt:Expr)(k:Nat)(d:D)(r:Option D):Prop :=
 ∃ρ' b,GD X ρ tg d ρ'/\(∀x y,ρ x=some y->ρ' x=some y)/\yP X ρ' ifs b/\match r with|some d'=>b=true/\ED X ρ' elt d' k|none=>b=false
theorem fF(o:fe ow H){a:Addr}:∀{k:Nat},k<=1->Kp ow H k a true->ow a=none
 | 0,_,p=>o.free p.2
 | 1,_,p=>p rfl
 | _+2,h,_=>absurd h (by omega)
theorem Dv{H9:Hp}{D:Addr}{x:HO}(sm:av H H9)(hD:H9 D=some x){a:Addr}:∀{k:Nat},k<=1->Kp (fun a=>if a=D then some none else ow a) H9 k a b->Kp ow H k a b/\(b=true->a≠D)
 | 0,_,p=>⟨⟨p.1,sm.free p.2⟩,fun _ z=>by subst z;have:=p.2;rw[hD]at this;cases this⟩
 | 1,_,p=>by
  have p:b=true->(if a=D then some none else ow a)=none:=p
  refine⟨fun hb=>?_,fun hb hz=>?_⟩
  ·have p:=p hb
   by_cases hz:a=D
   ·rw[if_pos hz]at p;cases p
   ·rw[if_neg hz]at p;exact p
  ·have p:=p hb
   rw[if_pos hz]at p;cases p
 | _+2,h,_=>absurd h (by omega)
theorem xN{D:Addr}(o:fe ow H)(hD:H D=none):∀{k:Nat},k<=1->Kp ow H k D true
 | 0,_=>⟨rfl,hD⟩
 | 1,_=>fun _=>o.free hD
 | _+2,h=>absurd h (by omega)
theorem mR:∀{l:List D} {i:Nat} {d:D},az l=true->l[i]?=some d->d.lless=true
 | [],_,_,_,h=>by simp at h
 | x::l,0,d,f,h=>by
  rw[az,QN]at f
  simp at h;subst h;exact f.1
 | x::l,i+1,d,f,h=>by
  rw[az,QN]at f
  exact mR (i:=i) f.2 (by simpa using h)
structure ln(X:Cx)(pins:List (Addr×Obj))(σ:L2.St)(H5:Hp)(s6:Shared)(C:Addr)(m6:Str->Option Value):Prop where
 inv:al X pins σ H5 s6
 ns:s6.heap.Ns C m6
 free:H5 C=none
 loc:C≠X.env.locals
 old:X.s₀.heap.objs.size<=C
 cell:∀x c,X.env.cells.lookup x=some c->c≠C
 pin:∀p∈X.pn++pins,p.1≠C
 fs:C∉X.fs
theorem pP{use:Option (Value->Sem Unit)}{Q':Value->Shared->Prop}{pos2:Pos}{f:D->Option D}
  (hcalm:X.calm=true) (hN:X.N.Nodup) (hk:az ds=true\/k<=1) (hko:ko<=1) (hlen:ds.length<sizeLine) (S:gG X.env scope N') (hsub:∀x d o,flt scope ρ x=some (d,o)->x∈N')
  (hi:IE X ρ tg iter ds k)
  (turn:∀cl C s H fp,∀d∈ds,lj (ku X scope cl C N' s H fp) (flt scope ρ) tg ifs elt ko d (f d))
  (hs:∀x,foldedSetIterable iter X.env x=pure x) (I:al X pins σ H s) (E:aF X ow H σ ρ)
  (fin:∀D C s6 H5 m6,ln X pins σ H5 s6 C m6->av H H5->aj X.K H5 (Kp ow H ko) (.lst (ds.filterMap f)) (.ref D)->compPost (model X.prog X.w) X.A X.xe use Q' (.ref D) C (.ok .next) s6) :
  wpAny (model X.prog X.w) X.A (comprehension (.ListComp elt [⟨tg,iter,ifs,0⟩] scope pos) scope X.env pos2 (newList []) false (eval iter X.env) use) Q' X.xe s:=by
 obtain⟨cl,hclos,h1,h2⟩:=tS (env:=X.env) (scope:=scope) fun n hn=>I.ok.has n (S.fr n hn)
 refine wpAny_comprehension_free rfl hs hclos S.kind S.names ?_
 refine aN (hi ow pins s σ H (fun J H1=>av H H1/\KY X.K J ds (Kd ow H k H1) H1) I ⟨E,fun J H1 a b=>⟨a,b⟩⟩) fun v s1 h1'=>aN h1' fun itv s2 h2'=>?_
 obtain⟨it,fp,tn,J,H2,rfl,I2,T,st2,f2,s12,itd⟩:=h2'
 have hD2:H2 s2.heap.objs.size=none:=I2.hok.fresh (QF _)
 refine RF (wP (fun x c hc=>(I2.cell x c (h1 x c hc).1).imp fun v q=>q.keeps fun b o e=>Qy _ e) fun h₁ hns₁ kp0 k60=>?_)
 have I3:al X pins σ (aG H2 s2.heap.objs.size (.lst [])) { s2 with heap:=s2.heap.push { cls:=.type "list", dict:=none,data:=.seq ([]:List Value).toArray } } :=
  I2.laid (t':=s2.toks) (fun b u e=>Qy _ e) (QF _) ⟨QZ _,[],0,.nil,QH _ rfl⟩
 generalize hD:s2.heap.objs.size=D at *
 generalize hs3:({ s2 with heap:=s2.heap.push { cls:=.type "list", dict:=none,data:=.seq ([]:List Value).toArray } }:Shared)=s3 at *
 have hsz3:s3.heap.objs.size=D+1:=by rw[<- hs3];show(s2.heap.push _).objs.size=_;rw[Rg,hD]
 have f3:∀b∈fp,fV X pins (aG H2 D (.lst [])) b:=fun b hb=>by
  obtain⟨g0,g⟩:=f2 b hb
  obtain⟨o,e,_⟩:=T.obj _ _ st2 b hb
  have hlt:=QC e
  rw[hD]at hlt
  exact⟨by rw[ax (QT hlt)];exact g0,g⟩
 have fl3:∀b∈fp,b<s3.heap.objs.size:=fun b hb=>by
  obtain⟨o,e,_⟩:=T.obj _ _ st2 b hb
  have hlt:=QC e
  rw[hD]at hlt
  rw[hsz3];exact Nat.lt_succ_of_lt hlt
 have kp:∀b o,s3.heap.get? b=some o->h₁.get? b=some o:=kp0
 have kc:lr X scope (cellsFrom (s3.heap.objs.size+1) scope.names cl) s3.heap.objs.size:=Aj I3 S h1 h2
 generalize hcl':cellsFrom (s3.heap.objs.size+1) scope.names cl=cl' at *
 have I4:=GS (s1:={ s3 with heap:=h₁,toks:=s3.toks+0 }) (N':=N') I3 S kc k60 f3 fl3 ⟨_,_,rfl⟩ hns₁ kp
 have sH2:∀vs,av H2 (aG H2 D (.lst vs)):=fun vs b o e=>by rw[ax (aU e hD2)];exact e
 let ow':Ow:=fun a=>if a=D then some none else ow a
 have ow'D:ow' D=some none:=if_pos rfl
 have ow'n:∀a,a≠D->ow' a=ow a:=fun a h=>if_neg h
 have own':∀{H':Hp} (vs:List V),H' D=some (.lst vs)->av H2 H'->fe ow' H':=fun {H'} vs hd sm a ha=>by
  by_cases hz:a=D
  ·subst hz;exact⟨_,hd⟩
  ·rw[ow'n a hz]at ha
   obtain⟨o,e⟩:=(E.same s12).own a ha
   exact⟨o,sm a o e⟩
 have E4:aF (ku X scope cl' s3.heap.objs.size N' s3 (aG H2 D (.lst [])) fp) ow' (aG H2 D (.lst [])) (lM X scope N' σ) (flt scope ρ):=by
  have E3:=Ho (scope:=scope) (cl:=cl') (C:=s3.heap.objs.size) (N':=N') (s:=s3) (fp:=fp) (H0:=aG H2 D (.lst [])) (E.same s12) hN hsub
  refine⟨fun x d o h=>?_,own' [] aD (sH2 [])⟩
  obtain⟨i,v,e1,e2,e3,e4⟩:=E3.get x d o h
  refine⟨i,v,e1,e2,e3,aj.same (sH2 []) (e4.impH (fun a ob ha p=>?_) fun a p=>?_)⟩
  ·have hz:a≠D:=aU ha hD2
   cases o with
   | true=>exact⟨p.1,(ow'n a hz).trans p.2⟩
   | false=>exact fun _=>(ow'n a hz).trans (p rfl)
  ·cases o with
   | true=>cases p.1
   | false=>exact fun z=>(by cases z)
 generalize hX':ku X scope cl' s3.heap.objs.size N' s3 (aG H2 D (.lst [])) fp=X' at *
 have turn':∀d∈ds,lj X' (flt scope ρ) tg ifs elt ko d (f d):=fun d hd=>by rw[<- hX'];exact turn _ _ _ _ _ d hd
 have eK:X'.K=X.K:=by rw[<- hX']
 have eP:X'.prog=X.prog:=by rw[<- hX']
 have eW:X'.w=X.w:=by rw[<- hX']
 have eA:X'.A=X.A:=by rw[<- hX']
 have eE:X'.env=compEnvC scope cl' s3.heap.objs.size X.env:=by rw[<- hX']
 have eX:X'.xe=fun _ _=>False:=by rw[<- hX']
 have eC:X'.calm=true:=by rw[<- hX'];exact hcalm
 have stat:∀{H':Hp},(∀b∈fp,H' b=none)->∀b∈fp,fV X' [] H' b:=fun hn b hb=>by
  rw[<- hX']
  refine⟨hn b hb,?_,?_,.inl hb,fun x c h=>(kc.k1 x c h).elim (fun q=>(f3 b hb).2.2.2.2.1 x c q) (fun q z=>by subst z;exact absurd (Nat.lt_trans q.1 (fl3 _ hb)) (Q6 _)),fun p hp=>absurd (show p∈([]:List (Addr×Obj))from hp) (by simp)⟩
  ·show b≠s3.heap.objs.size
   exact QT (fl3 b hb)
  ·intro z
   rcases QA.mp (I3.stkSub b z)with q|q
   ·exact(f3 b hb).2.1 q
   ·exact(f3 b hb).2.2.1 q
 let Pe:bj:=fun a b=>Kp ow H ko a b/\(b=true->a≠D)
 have loop:codeAny (model X.prog X.w) X.A (.compLoop (.ListComp elt [⟨tg,iter,ifs,0⟩] scope pos) 0 (.ref it) (.ref D) (compEnvC scope cl' s3.heap.objs.size X.env)) (compPost (model X.prog X.w) X.A X.xe use Q' (.ref D) s3.heap.objs.size) { s3 with heap:=h₁,toks:=s3.toks+0 }:=by
  refine yi (fun n s' => ∃(i:Nat) (σ':L2.St) (H':Hp) (vs:List V),al X' [] σ' H' s'/\tn i s'.heap/\(∀b∈fp,H' b=none)/\aF X' ow' H' σ' (flt scope ρ)/\H' D=some (.lst vs)/\av H2 H' /\
   ah X.K H' Pe ((ds.take i).filterMap f) vs/\i<=ds.length/\n=ds.length-i) ?_ ds.length
   ⟨0,lM X scope N' σ,aG H2 D (.lst []),[],I4,?_,fun b hb=>(f3 b hb).1,E4,aD,sH2 [],?_,QZ _,rfl⟩
  ·rintro n s5 ⟨i,σ5,H5,vs,I5,st5,fr5,E5,hD5,sm5,rp5,hi5,rfl⟩
   have stay:dM (Kd ow H k H2) (Kd ow H k H2) H2 H5:=.same sm5 fun _ _ p=>p
   have itd5:=itd i H5 stay
   by_cases hlt:i<ds.length
   ·obtain⟨go,yl⟩:=itd5.1 ds[i] (by simp[hlt])
    have Ti:=T.item X' eP eW eK eC i [] s5 σ5 H5 (fun _ _=>False) I5 (stat fr5) st5 go
    rw[eA]at Ti
    refine aN Ti fun r s6 ⟨u,hr,h6⟩=>?_
    subst hr
    refine aN h6 fun _ s7 ⟨x,H7,I7,r7,y7,st7,fr7⟩=>?_
    obtain⟨sm7,rx7⟩:=yl x H7 y7
    obtain⟨ρ',b,⟨g,hg,hgd⟩,hext,hts,hel⟩:=turn' ds[i] (Sa hlt)
    have rx7':aj X'.K H7 (fun a b=>b=true->ow' a=none) ds[i] x:=by
     rw[eK]
     rcases hk with hk|hk
     ·exact rx7.flat _ (mR hk (QL hlt))
     refine rx7.impH (fun a o ha p _=>?_) fun a _ z=>(by cases z)
     obtain⟨p,p2⟩:=p
     obtain⟨o2,ho2⟩:=p2 rfl
     show ow' a=none
     rw[ow'n a (aU ho2 hD2)]
     exact fF E.own hk p
    have E7:=E5.same sm7
    have I7':=I7.pinned (stat fr7) (T.obj _ _ st7)
    have hg':=hg _ s7 σ5 H7 x u (fun σ' H'=>aF X' ow' H' σ' ρ'/\H7=H') I7' r7 (hgd ow' x σ5 H7 _ I7.len E7 rx7' fun σ' _ e=>⟨e,rfl⟩)
    rw[eP,eW,eA,eE,eX]at hg'
    refine aN hg' fun _ s8 ⟨σ8,H8,I8,E8,eH8⟩=>?_
    subst eH8
    have ht':=hts ow' _ s8 σ8 H7 (fun c H'=>c=b/\av H7 H') I8 ⟨E8,fun H' sm=>⟨rfl,sm⟩⟩
    rw[eP,eW,eA,eE,eX]at ht'
    refine aN ht' fun c s9 ⟨H9,I9,ec,sm9⟩=>?_
    subst ec
    have back:∀{H':Hp} {σ':L2.St} {s':Shared},al X' ([]++j7 fp s7.heap) σ' H' s'->al X' [] σ' H' s'/\tn (i+1) s'.heap/\∀b∈fp,H' b=none:=fun {H' σ' s'} J7=>by
     refine⟨J7.unpinned,T.keep _ _ _ st7 fun b hb o e=>(J7.pin (b,o) (Q2 _ (Q2 _ (gR hb e)))).1,fun b hb=>?_⟩
     obtain⟨o,e,d⟩:=T.obj _ _ st7 b hb
     exact(J7.pin (b,o) (Q2 _ (Q2 _ (gR hb e)))).2.1
    have envf:∀{H':Hp} {σ':L2.St},aF X' ow' H' σ' ρ'->aF X' ow' H' σ' (flt scope ρ):=fun {H' σ'} e=>⟨fun x d o h=>e.get x d o (hext x _ h),e.own⟩
    have tk:(ds.take (i+1)).filterMap f=(ds.take i).filterMap f++(f ds[i]).toList:=by
     rw[List.take_add_one]
     simp only[QL hlt,Option.toList_some,List.filterMap_append]
     congr 1
    have sm59:av H5 H9:=sm7.trans sm9
    cases hc:c with
    | false =>
     rw[if_neg QP]
     subst hc
     obtain⟨I9',st9,fr9⟩:=back I9
     have fn:f ds[i]=none:=by
      cases hf:f ds[i]with
      | none=>rfl
      | some d'=>rw[hf]at hel;cases hel.1
     refine⟨ds.length-(i+1),by omega,i+1,σ8,H9,vs,I9',st9,fr9,envf (E8.same sm9),sm59 _ _ hD5,sm5.trans sm59,?_,hlt,rfl⟩
     rw[tk,fn,Option.toList_none,Rl]
     exact rp5.same sm59
    | true =>
     rw[if_pos rfl]
     subst hc
     obtain⟨d',fs,hed⟩:∃d',f ds[i]=some d'/\ED X' ρ' elt d' ko:=by
      cases hf:f ds[i]with
      | none=>rw[hf]at hel;cases hel
      | some d'=>rw[hf]at hel;exact⟨d',rfl,hel.2⟩
     have he':=hed ow' _ s9 σ8 H9 (fun v H'=>av H9 H'/\aj X'.K H' (Kp ow' H9 ko) d' v) I9 ⟨E8.same sm9,fun v H' a r=>⟨a,r⟩⟩
     rw[eP,eW,eA,eE,eX]at he'
     refine aN he' fun y s10 ⟨v10,H10,I10,r10,sm10,rp10⟩=>?_
     have sm510:=sm59.trans sm10
     have hD10:=sm510 _ _ hD5
     have hlv:vs.length<sizeLine:=by
      rw[<- rp5.length]
      refine Rj (List.length_filterMap_le _ _) ?_
      rw[Sn];omega
     have ha':=pB (X:=X') _ s10 σ8 H10 (.ref D) [v10] (.ref D) [y] (fun w H'=>aG H10 D (.lst (vs++[v10]))=H') I10 rfl (.cons r10 .nil) ⟨D,vs,v10,rfl,rfl,hD10,hlv,rfl⟩
     rw[eP,eW,eA,eX]at ha'
     refine aN ha' fun _ s11 ⟨w11,H11,I11,_,eH11⟩=>?_
     subst eH11
     obtain⟨I11',st11,fr11⟩:=back I11
     have s2D:∀a o,H2 a=some o->a≠D:=fun a o e=>aU e hD2
     have stD:dM Pe Pe H10 (aG H10 D (.lst (vs++[v10]))):=⟨fun a o h hn=>by rw[ax (fun z=>by subst z;rw[hD10]at h;cases h;exact hn)];exact h,fun a ws h p=>by rw[ax (p.2 rfl)];exact h,fun _ _ _ p=>p,fun _ p=>p⟩
     refine⟨ds.length-(i+1),by omega,i+1,σ8,_,vs++[v10],I11',st11,fr11,?_,aD,?_,?_,hlt,rfl⟩
     ·have E10:=envf ((E8.same sm9).same sm10)
      refine⟨fun x d o h=>?_,own' _ aD (fun a o e=>by rw[ax (s2D a o e)];exact(sm5.trans sm510) a o e)⟩
      obtain⟨i',v',e1,e2,e3,e4⟩:=E10.get x d o h
      refine⟨i',v',e1,e2,e3,e4.mono ⟨fun a o h hn=>by rw[ax (fun z=>by subst z;rw[hD10]at h;cases h;exact hn)];exact h,fun a ws h p=>?_,fun _ _ _ p=>p,fun _ p=>p⟩⟩
      have hz:a≠D:=by
       intro z;subst z
       cases o with
       | true=>have:=p.2;rw[ow'D]at this;cases this
       | false=>have:ow' a=none:=p rfl;rw[ow'D]at this;cases this
      rw[ax hz];exact h
     ·intro a o e
      rw[ax (s2D a o e)]
      exact(sm5.trans sm510) a o e
     ·rw[tk,fs,Option.toList_some]
      refine((rp5.same sm510).mono stD).append (ah.one (aj.mono stD ?_))
      rw[eK]at rp10
      have sH9:av H H9:=s12.trans (sm5.trans sm59)
      exact rp10.imp fun a b p=>Dv sH9 (sm59 _ _ hD5) hko p
   ·have hstop:=itd5.2 (by omega)
    have Td:=T.done X' eP eW eK eC i [] s5 σ5 H5 (fun _ _=>False) I5 (stat fr5) st5 hstop
    rw[eA]at Td
    refine aN Td fun r s6 ⟨hr,I6⟩=>?_
    subst hr
    have ei:i=ds.length:=by omega
    subst ei
    rw[List.take_length]at rp5
    have hC:X'.env.locals=s3.heap.objs.size:=by rw[eE];rfl
    obtain⟨m6,hn6,_⟩:=I6.loc
    rw[hC]at hn6
    have hfree:H5 s3.heap.objs.size=none:=by have:=I6.free;rw[hC]at this;exact this
    have IX:al X pins σ H5 s6:=by
     have b6:=I6.base
     have o6:=I6.os
     have k6:=I6.hok
     have g6:=I6.bare
     rw[<- hX']at b6 o6 k6
     exact I3.call' o6 b6 k6 g6 fun b hb=>⟨(f3 b hb).2.2.2.1,(f3 b hb).2.1,(f3 b hb).2.2.2.2.1,(f3 b hb).2.2.2.2.2⟩
    have hHD:H D=none:=s12.free hD2
    refine fin D _ s6 H5 m6 ⟨IX,hn6,hfree,RL I3.lt,I3.sz,fun x c hc z=>?_,fun p hp z=>?_,I3.nofs (QF _)⟩ (s12.trans sm5) ?_
    ·obtain⟨v,hv⟩:=I3.cell x c hc
     have:=hv.lt
     rw[z]at this;exact absurd this (Q6 _)
    ·have:=QC (I3.pin p hp).1
     rw[z]at this;exact absurd this (Q6 _)
    ·rw[aj]
     exact⟨D,vs,true,rfl,hD5,xN E.own hHD hko,rp5.imp fun _ _ p=>p.1⟩
  ·exact T.keep 0 s2.heap h₁ st2 fun b hb o e=>kp b o (by rw[<- hs3];exact Qy _ e)
  ·exact ah.nil
 exact codeAny_compStart_list loop (T.self _ 0 _ _ _ (T.keep 0 s2.heap h₁ st2 fun b hb o e=>kp b o (by rw[<- hs3];exact Qy _ e)) loop)
theorem ln.done{H5:Hp}{s6:Shared}{C:Addr}{m6:Str->Option Value}(e:ln X pins σ H5 s6 C m6)(sb:Heap.SameBut C s6.heap h'):al X pins σ H5 { s6 with heap:=h' } :=
 e.inv.turned (t':=s6.toks) (it:=C) (fun b o hb e=>sb.extBut b o hb e) e.free e.loc (.inr e.old) e.cell e.pin
theorem D8{f:D->Option D}
  (hcalm:X.calm=true) (hN:X.N.Nodup) (hk:az ds=true\/k<=1) (hko:ko<=1) (hlen:ds.length<sizeLine) (S:gG X.env scope N') (hsub:∀x d o,flt scope ρ x=some (d,o)->x∈N')
  (hi:IE X ρ tg iter ds k)
  (turn:∀cl C s H fp,∀d∈ds,lj (ku X scope cl C N' s H fp) (flt scope ρ) tg ifs elt ko d (f d))
  (hs:∀x,foldedSetIterable iter X.env x=pure x:=by intro _;rfl) :
  ED X ρ (.ListComp elt [⟨tg,iter,ifs,0⟩] scope pos) (.lst (ds.filterMap f)) ko:=by
 intro ow pins s σ H Q I ⟨E,q⟩
 rw[eval_ListComp]
 refine pP hcalm hN hk hko hlen S hsub hi turn hs I E fun D C s6 H5 m6 ce sm rp=>?_
 exact⟨m6,ce.ns,fun h' sb=>⟨.ref D,H5,ce.done sb,rfl,q (.ref D) H5 sm rp⟩⟩
theorem CZ{D0:i8}{spos:Pos}{f:D->Option D}
  (hcalm:X.calm=true) (hN:X.N.Nodup) (hk:az ds=true\/k<=1) (hko:ko<=1) (hlen:ds.length<sizeLine) (S:gG X.env scope N') (hsub:∀x d o,flt scope ρ x=some (d,o)->x∈N')
  (hi:IE X ρ tg iter ds k)
  (turn:∀cl C s H fp,∀d∈ds,lj (ku X scope cl C N' s H fp) (flt scope ρ) tg ifs elt ko d (f d))
  (hs:∀x,foldedSetIterable iter X.env x=pure x) (I:al X pins σ H s) (E:aF X ow H σ ρ)
  (hsw:swapsWith (.ListComp elt [⟨tg,iter,ifs,0⟩] scope pos) (some (.Name x px)) spos.line X.env=pure true)
  (hx:X.N[i]?=some x) (hl:tJ X.env.scope x) (hf:X.fn x=true\/X.env.scope.names.lookup x=some .local)
  (q:∀v H',av H H'->aj X.K H' (Kp ow H ko) (.lst (ds.filterMap f)) v->D0.nx (σ.set i (some v)) H') :
  wpAny (model X.prog X.w) X.A (exec (.Assign [.Name x px] (.ListComp elt [⟨tg,iter,ifs,0⟩] scope pos) spos) X.env) (SP X pins D0) X.xe s:=by
 rw[exec_Assign_Name_used _ _ _ _ hsw]
 refine Qx (R7 (Qx ?_))
 show wpAny _ X.A (do let _ <- comprehension (.ListComp elt [⟨tg,iter,ifs,0⟩] scope pos) scope X.env _ (newList []) false (eval iter X.env) (some (assign (.Name x px) X.env))) _ _ s
 refine Qx (Rq (pP (use:=some (assign (.Name x px) X.env)) (Q':=fun _ s'=>SP X pins D0 .next s') hcalm hN hk hko hlen S hsub hi turn hs I E fun D C s6 H5 m6 ce sm rp=>?_) (fun _ s' hq=>Qz (Qz hq)) fun _ _ e=>e)
 obtain⟨o,es,ep,ho,hd,hrest⟩:=id ce.ns
 have Ip:al X (pins++[(C,o)]) σ H5 s6:=ce.inv.pins_of fun p hp=>by
  rcases List.mem_append.mp hp with z|z
  ·exact ce.inv.pin p (Q2 _ z)
  ·have e:p=(C,o):=by simpa using z
   subst e
   exact⟨ho,ce.free,ce.loc,ce.fs,fun v z=>by rw[hd]at z;cases z⟩
 show wpAny _ X.A (assign (.Name x px) X.env (.ref D)) _ _ _
 refine aN (jc (i:=i) hN hx hl hf (pins++[(C,o)]) s6 σ H5 (.ref D) (.ref D) (fun σ' H'=>σ.set i (some (.ref D))=σ'/\H5=H') Ip rfl ⟨rfl,rfl⟩) fun _ s7 ⟨σ7,H7,I7,e1,e2⟩=>?_
 subst e1 e2
 have pC:=(I7.pin (C,o) (Q2 _ (Q2 _ (by simp)))).1
 refine⟨m6,⟨o,es,ep,pC,hd,hrest⟩,fun h' sb=>?_⟩
 have ce':ln X pins (σ.set i (some (.ref D))) H5 s7 C m6:=⟨I7.unpinned,⟨o,es,ep,pC,hd,hrest⟩,ce.free,ce.loc,ce.old,ce.cell,ce.pin,ce.fs⟩
 exact⟨_,H5,ce'.done sb,q (.ref D) H5 sm rp⟩
mutual
def D.py:D->PyData
 | .non=>.none
 | .bl b=>.bool b
 | .int i=>.int i
 | .str x=>.str x
 | .dct _ _=>.dict []
 | .typ _=>.dict []
 | .sn _=>.dict []
 | .obj _ _ _=>.dict []
 | .cls _=>.dict []
 | .xc _ _=>.dict []
 | .tup l=>.tuple (pw l)
 | .lst l=>.list (pw l)
def pw:List D->List PyData
 | []=>[]
 | d::l=>d.py::pw l
end
inductive Rs(α:Type) where
 | ok (a:α) (l:List Prop)
 | st
def aH:List Prop->Prop
 | []=>True
 | p::l=>p/\aH l
def Rs.bnd{α β:Type}(r:Rs α)(f:α->Rs β):Rs β :=
 match r with
 | .st=>.st
 | .ok a l=>match f a with
  | .st=>.st
  | .ok b m=>.ok b (l++m)
def Qr{α:Type}:Option α->Rs α
 | some a=>.ok a []
 | none=>.st
def gd(b:Bool):List Prop->List Prop
 | []=>[]
 | m=>[b=true->aH m]
abbrev R1:=Rs (D×Nat)
def mk(d:D)(k:Nat):R1:=.ok (d,kn d k) []
structure Fx where
 fn:Str->Option (List D->Rs D)
 con:Str->Option D
 blt:Str->Option (List D->R1)
 itr:Str->Option (List D->Nat->R1)
 mth:Str->Option (D->List D->R1)
 mtt:Str->Option (List D->List D->Nat->Rs (List D))
 slf:D->Option Int->Option Int->R1:=fun _ _ _=>.st
 fld:Str->Str->Bool:=fun _ _=>false
 omt:Str->Str->Option (List D->Rs D):=fun _ _=>none
def BE:Const->Option D
 | .none=>some .non
 | .bool b=>some (.bl b)
 | .int i=>some (.int i)
 | .str x=>some (.str x)
 | _=>none
def dm:Nat:=2 ^ 9000
def cg(a b:Int):Prop:=a.natAbs<2 ^ 64\/b.natAbs<2 ^ 64\/(a.natAbs<dm/\b.natAbs<dm)\/(Builtin.Int.intBits a<=2 ^ 22/\Builtin.Int.intBits b<=2 ^ 22)
def jD(b:Int):Prop:=b≠0/\b.natAbs<dm
def vA(a b:Int):Prop:=0<=b/\b<=1000/\a.natAbs<2 ^ 64
def cG:Nat:=40000
def Ap(op:Operator)(a b:Int):R1 :=
 match op with
 | .Add=>.ok (.int (a+b),0) []
 | .Sub=>.ok (.int (a-b),0) []
 | .Mult=>.ok (.int (a*b),0) [cg a b]
 | .FloorDiv=>.ok (.int (a.fdiv b),0) [jD b]
 | .Mod=>.ok (.int (a.fmod b),0) [b≠0]
 | .Pow=>.ok (.int (a ^ b.toNat),0) [vA a b]
 | _=>.st
def qF:Operator->Bool
 | .Add=>true
 | _=>false
def sU(op:Operator)(x y:D)(k j:Nat):R1 :=
 match x,y with
 | .int a,.int b=>Ap op a b
 | .str a,.str b=>if qF op=true then .ok (.str (a++b),0) [a.length+b.length<=cG]else .st
 | .tup a,.tup b=>if qF op=true then .ok (.tup (a++b),kn (.tup (a++b)) (kj k j)) [a.length+b.length<=cG]else .st
 | .lst a,.lst b=>if qF op=true then .ok (.lst (a++b),0) [az (a++b)=true,a.length+b.length<=cG]else .st
 | _,_=>.st
def A2(op:UnaryOp)(x:D):Option D :=
 match op,x with
 | .USub,.int a=>some (.int (-a))
 | .Not,.bl b=>some (.bl (!b))
 | _,_=>none
def sK(x y:D):Bool:=SeqAt.shaped x.py&&SeqAt.shaped y.py
def eqD(x y:D):Bool:=PyData.eqv x.py y.py
def cF:List D->Option (List Int)
 | []=>some []
 | .int i::l=>(cF l).map (i :: ·)
 | _::_=>none
def Gr(x:D)(l:List D):Rs Bool:=.ok (l.any fun y=>eqD y x) [sK (.tup l) x=true]
def D.isNon:D->Bool
 | .non=>true
 | _=>false
def eM:D->Option (List D)
 | .tup l=>some l
 | .lst l=>some l
 | _=>none
def ge(op:CmpOp)(a b:Int):Option Bool :=
 match op with
 | .Lt=>some (decide (a<b))
 | .LtE=>some (decide (a<=b))
 | .Gt=>some (decide (b<a))
 | .GtE=>some (decide (b<=a))
 | _=>none
def vD(op:CmpOp)(x y:D):Option Bool :=
 match x,y with
 | .int a,.int b=>ge op a b
 | _,_=>none
def Rs.nt:Rs Bool->Rs Bool
 | .ok b l=>.ok (!b) l
 | .st=>.st
def keyD:D->Option dG
 | .int i=>some (.inl i)
 | .str x=>some (.inr x)
 | _=>none
def dGet(ks:List dG)(ds:List D)(k:dG):Option D:=((ks.zip ds).find? fun p=>decide (p.1=k)).map (·.2)
def GX(ks:List dG)(k:dG):Bool:=ks.any fun j=>decide (j=k)
def dPutK(ks:List dG)(k:dG):List dG:=cond (GX ks k) ks (ks++[k])
def dPutV{α:Type}(ks:List dG)(ds:List α)(k:dG)(d:α):List α:=cond (GX ks k) (List.zipWith (fun j e=>if j=k then d else e) ks ds) (ds++[d])
def inD(x y:D):Rs Bool :=
 match y with
 | .tup l=>Gr x l
 | .lst l=>Gr x l
 | .dct _ _=>.st
 | .str b=>(match x with | .str a=>.ok (Txt.contains b a) []|_=>.st)
 | _=>.st
def lY(op:CmpOp)(x y:D):Rs Bool :=
 match op with
 | .Eq=>.ok (eqD x y) [sK x y=true]
 | .NotEq=>.ok (!eqD x y) [sK x y=true]
 | .Is=>(match y with | .non=>.ok x.isNon [] | .bl c=>(match x with | .bl b=>.ok (b==c) []|_=>.st)|_=>.st)
 | .IsNot=>(match y with | .non=>.ok (!x.isNon) [] | .bl c=>(match x with | .bl b=>.ok (!(b==c)) []|_=>.st)|_=>.st)
 | op=>Qr (vD op x y)
def D.ty0:D->Option String
 | .non=>some "NoneType"
 | .bl _=>some "bool"
 | .int _=>some "int"
 | .str _=>some "str"
 | .dct _ _=>some "dict"
 | .tup _=>some "tuple"
 | .lst _=>some "list"
 | _=>none
def GQ(x:D)(T:String):Option Bool:=x.ty0.map fun a=>decide (a=T) || decide (a = "bool" /\ T = "int")
def u7(x:Str):Option String :=
 if x = "int" then some "int" else if x = "bool" then some "bool" else if x = "str" then some "str" else if x = "tuple" then some "tuple" else if x = "list" then some "list" else if x = "ValueError" then some "ValueError" else none
def dn:List D->Option (List Bool)
 | []=>some []
 | .bl i::l=>(dn l).map (i :: ·)
 | _::_=>none
def iA:List Str:=["len", "tuple", "list", "abs", "all", "sum", "isinstance", "set", "int", "bool", "str", "range", "zip", "enumerate", "any", "sorted", "min", "max", "reversed", "ValueError"]
def ik:Expr->Bool
 | .Tuple .. => true
 | _=>false
def fy(e tg:Expr):Bool :=
 match e with
 | .Call (.Name f _) _ _ _=>if f = "enumerate" \/ f = "zip" then ik tg else true
 | _=>true
def Ba(x:Str):List D:=x.cps.toList.map fun c=>.str ⟨#[c]⟩
def items:D->Option (List D)
 | .lst l=>some l
 | .tup l=>some l
 | .str x=>if (x.cps.all fun c=>decide (c<128))=true then some (Ba x)else none
 | _=>none
def bP(ρ:ag)(x:Str)(y:D×Bool):ag:=fun z=>if z=x then some y else ρ z
def cS(sc:Scope)(x:Str):Bool:=sc.names.lookup x==some .local || sc.names.lookup x==some .cell
def aX(sc:Scope):List Expr->List D->ag->Option ag
 | [],[],ρ=>some ρ
 | .Name x _::es,d::ds,ρ=>if cS sc x=true then aX sc es ds (bP ρ x (d,false))else none
 | _,_,_=>none
def bY(sc:Scope)(tg:Expr)(d:D)(ρ:ag):Option ag :=
 match tg with
 | .Name x _=>if cS sc x=true then some (bP ρ x (d,false))else none
 | .Tuple es _ _=>(match d with | .tup ds=>aX sc es ds ρ|_=>none)
 | _=>none
def nF(sc scope:Scope):Bool :=
 decide (scope.kind=.function)&&scope.names.all (fun y=>decide (y.2 ≠ .local) || decide (scope.names.lookup y.1=some .local)) &&
 scope.names.all (fun y=>decide (y.2 ≠ .free) || cS sc y.1&&decide (sc.names.lookup y.1=some .cell) || decide (sc.names.lookup y.1=some .free))&&decide ((scope.names.map (·.1)).Nodup)
def gk(step:D->Rs (Option (D×Nat))):List D->Rs (List D×Nat)
 | []=>.ok ([],0) []
 | d::l=>(step d).bnd fun r=>(gk step l).bnd fun q=>match r with
  | none=>.ok q []
  | some p=>.ok (p.1::q.1,kj p.2 q.2) []
def r6(x:D)(i:Int)(k:Nat):R1 :=
 match eM x with
 | some l=>(match atI l i with|some d=>mk d k|none=>.st)
 | none=>.st
def ju(p:D×Nat)(f:Int->R1):R1 :=
 match p.1 with
 | .int j=>f j
 | _=>.st
def lK(p q:D×Nat):R1 :=
 match p.1 with
 | .dct _ _=>.st
 | x=>ju q fun j=>r6 x j p.2
def kA(l:List D)(lo hi:Option Int):List D:=(l.drop (HT.sIx l.length 0 lo)).take (HT.sIx l.length l.length hi-HT.sIx l.length 0 lo)
def HD(l:List D)(lo hi:Option Int):Bool:=!(decide (HT.sIx l.length 0 lo=0)&&decide (HT.sIx l.length l.length hi=l.length))
def bA(x:D)(lo hi:Option Int):R1 :=
 match x with
 | .tup l=>.ok (.tup (kA l lo hi),0) [az l=true,HD l lo hi=true]
 | .lst l=>.ok (.lst (kA l lo hi),0) [az l=true]
 | _=>.st
def cQ(x:Str):Bool:=decide ((x==("__debug__" : Str))=false)&&decide ((x==("__classdict__" : Str))=false)
def wj(b:Bool)(r:Rs Bool):Rs Bool :=
 match r with
 | .ok c m=>.ok (b&&c) (gd b m)
 | .st=>match b with|false=>.ok false []|true=>.st
def Bk(b:Bool)(r:Rs Bool):Rs Bool :=
 match r with
 | .ok c m=>.ok (b || c) (gd (!b) m)
 | .st=>match b with|true=>.ok true []|false=>.st
mutual
def oj(b:Bool):D->D->D
 | .int x,.int y=>.int (cond b x y)
 | .bl x,.bl y=>.bl (cond b x y)
 | .tup x,.tup y=>if x.length=y.length then .tup (kh b x y)else cond b (.tup x) (.tup y)
 | x,y=>cond b x y
def kh(b:Bool):List D->List D->List D
 | x::l,y::m=>oj b x y::kh b l m
 | l,m=>cond b l m
end
def xP(t:Bool)(k j:Nat):Nat:=if k=j then k else cond t k j
def Bx(b:Bool)(r s:R1):R1 :=
 match r with
 | .st=>(match b with|true=>.st|false=>s)
 | .ok p m=>match s with
  | .st=>(match b with|true=>.ok p m|false=>.st)
  | .ok q n=>.ok (oj b p.1 q.1,xP b p.2 q.2) (gd b m++gd (!b) n)
def js(Φ:Fx)(x:Str)(sc:Scope)(ρ:ag):R1 :=
 if cQ x=true then
  (if sc.names.lookup x=some .globalImplicit then(match Φ.con x with|some d=>.ok (d,0) []|none=>match u7 x with|some T=>.ok (.typ T,0) []|none=>.st)
  else match ρ x with
   | some p=>mk p.1 (cond p.2 2 1)
   | none=>.st)
 else .st
def lg(Φ:Fx)(f:Str)(it:Bool)(ds:List D)(k:Nat):R1 :=
 match Φ.fn f with
 | some F=>(F ds).bnd fun d=>.ok (d,0) []
 | none=>match (if it=true then Φ.itr f else none)with
  | some B=>B ds k
  | none=>match Φ.blt f with
   | some B=>B ds
   | none=>.st
def ji{α:Type}(p:D×Nat)(f:Bool->Rs α):Rs α :=
 match p.1 with
 | .bl j=>f j
 | _=>.st
def iN(q:Fv):D:=.tup (.str q.1::q.2.map D.int)
def Hb(Φ:Fx)(x:D)(f:Str):R1 :=
 match x with
 | .obj n ns ds=>if Φ.fld n f=true then(match (ns.zip ds).lookup f with|some d=>.ok (d,0) []|none=>.st)else .st
 | .xc _ (some (_,[(g,i)]))=>if f=g then .ok (iN i,0) []else .st
 | _=>.st
def iB:Expr->Bool
 | .Call (.Name _ _) [] [] _=>false
 | _=>true
def zG(Φ:Fx)(a:Expr)(m:Str)(x:D)(ds:List D):R1 :=
 match x with
 | .obj n ns es=>if ns.contains m=false/\iB a=true/\ds.length<29 then(match Φ.omt n m with|some F=>(F (.obj n ns es::ds)).bnd fun d=>.ok (d,0) []|none=>.st)else .st
 | x=>if iB a=true then(match Φ.mth m with|some M=>M x ds|none=>.st)else .st
def HP(op op2:CmpOp)(x y z:D):R1 :=
 match x,y,z with
 | .int a,.int b,.int c=>(match ge op a b,ge op2 b c with|some r,some r2=>.ok (.bl (r&&r2),0) []|_,_=>.st)
 | _,_,_=>.st
mutual
def aC(Φ:Fx):Expr->Bool->Scope->ag->R1
  | .Constant c _ _,_,_,_=>(match BE c with|some d=>.ok (d,0) []|none=>.st)
  | .Name x _,_,sc,ρ=>js Φ x sc ρ
  | .BinOp a op b _,_,sc,ρ=>(aC Φ a false sc ρ).bnd fun p=>(aC Φ b false sc ρ).bnd fun q=>sU op p.1 q.1 p.2 q.2
  | .UnaryOp op a _,_,sc,ρ=>(aC Φ a false sc ρ).bnd fun p=>(match A2 op p.1 with|some d=>.ok (d,0) []|none=>.st)
  | .BoolOp op es _,_,sc,ρ=>if es.isEmpty=true then .st else(eZ Φ op es sc ρ).bnd fun b=>.ok (.bl b,0) []
  | .Compare a [op] [b] _,_,sc,ρ=>(aC Φ a false sc ρ).bnd fun p=>(aC Φ b false sc ρ).bnd fun q=>(lY op p.1 q.1).bnd fun r=>.ok (.bl r,0) []
  | .Compare a [op,op2] [b,c] _,_,sc,ρ=>(aC Φ a false sc ρ).bnd fun p=>(aC Φ b false sc ρ).bnd fun q=>(aC Φ c false sc ρ).bnd fun t=>HP op op2 p.1 q.1 t.1
  | .IfExp c a b _,_,sc,ρ=>(aC Φ c false sc ρ).bnd fun p=>ji p fun t=>Bx t (aC Φ a false sc ρ) (aC Φ b false sc ρ)
  | .Tuple es _ _,_,sc,ρ=>(bK Φ es sc ρ).bnd fun p=>if p.1.length<=cG then mk (.tup p.1) p.2 else .st
  | .List es _,_,sc,ρ=>(bK Φ es sc ρ).bnd fun p=>if p.1.length<=cG/\p.2<=1 then .ok (.lst p.1,p.2) []else .st
  | .Subscript a (.Slice lo hi none _) _,_,sc,ρ=>(aC Φ a false sc ρ).bnd fun p=>(pN Φ lo sc ρ).bnd fun l=>(pN Φ hi sc ρ).bnd fun h=>Φ.slf p.1 l h
  | .Subscript a i _,_,sc,ρ=>(aC Φ a false sc ρ).bnd fun p=>(aC Φ i false sc ρ).bnd fun q=>lK p q
  | .Call (.Name f _) args [] _,it,sc,ρ =>
    if sc.names.lookup f=some .globalImplicit then(bK Φ args sc ρ).bnd fun p=>lg Φ f it p.1 p.2
    else .st
  | .Attribute (.Name x _) f _,_,sc,ρ=>(js Φ x sc ρ).bnd fun p=>Hb Φ p.1 f
  | .Call (.Attribute a m ap) args [] cp,_,sc,ρ=>if (ap.endLine==cp.line)=true then(aC Φ a false sc ρ).bnd fun p=>(bK Φ args sc ρ).bnd fun q=>zG Φ a m p.1 q.1 else .st
  | .ListComp elt [⟨tg,iter,ifs,0⟩] scope _,_,sc,ρ =>
    if nF sc scope=true then(aC Φ iter true sc ρ).bnd fun p=>(match items p.1 with
      | some ds=>if fy iter tg=true then
          (Rs.ok () [ds.length<=cG,az ds=true\/p.2<=1]).bnd fun _=>(gk (fun d=>match bY scope tg d (flt scope ρ)with
            | none=>.st
            | some ρ'=>(eZ Φ .And ifs scope ρ').bnd fun b=>cond b ((aC Φ elt false scope ρ').bnd fun r=>.ok (some r) []) (.ok none [])) ds).bnd fun q=>if q.2<=1 then .ok (.lst q.1,q.2) []else .st
        else .st
      | none=>.st)
    else .st
  | _,_,_,_=>.st
def bK(Φ:Fx):List Expr->Scope->ag->Rs (List D×Nat)
 | [],_,_=>.ok ([],0) []
 | e::es,sc,ρ=>(aC Φ e false sc ρ).bnd fun p=>(bK Φ es sc ρ).bnd fun q=>.ok (p.1::q.1,kj p.2 q.2) []
def eZ(Φ:Fx):BoolOp->List Expr->Scope->ag->Rs Bool
 | .And,[],_,_=>.ok true []
 | .Or,[],_,_=>.ok false []
 | .And,e::es,sc,ρ=>(aC Φ e false sc ρ).bnd fun p=>ji p fun b=>wj b (eZ Φ .And es sc ρ)
 | .Or,e::es,sc,ρ=>(aC Φ e false sc ρ).bnd fun p=>ji p fun b=>Bk b (eZ Φ .Or es sc ρ)
def pN(Φ:Fx):Option Expr->Scope->ag->Rs (Option Int)
 | none,_,_=>.ok none []
 | some e,sc,ρ=>(aC Φ e false sc ρ).bnd fun p=>(match p.1 with | .int i=>.ok (some i) []|_=>.st)
end
theorem oM{Φ:Fx}{op:BoolOp}:aC Φ (.BoolOp op es p) it sc ρ=(if es.isEmpty=true then .st else(eZ Φ op es sc ρ).bnd fun b=>.ok (.bl b,0) []):=rfl
theorem jB{Φ:Fx}{p:Pos}:aC Φ (.Call (.Name f p) args [] q) it sc ρ=(if sc.names.lookup f=some .globalImplicit then(bK Φ args sc ρ).bnd fun p=>lg Φ f it p.1 p.2 else .st):=rfl
theorem sJ{Φ:Fx}:aC Φ (.Call (.Attribute a m ap) args [] cp) it sc ρ=(if (ap.endLine==cp.line)=true then(aC Φ a false sc ρ).bnd fun p=>(bK Φ args sc ρ).bnd fun q=>zG Φ a m p.1 q.1 else .st):=rfl
theorem oK{Φ:Fx}{q:Pos}:aC Φ (.ListComp elt [⟨tg,iter,ifs,0⟩] scope q) it sc ρ=(if nF sc scope=true then(aC Φ iter true sc ρ).bnd fun p=>(match items p.1 with
      | some ds=>if fy iter tg=true then
          (Rs.ok () [ds.length<=cG,az ds=true\/p.2<=1]).bnd fun _=>(gk (fun d=>match bY scope tg d (flt scope ρ)with
            | none=>.st
            | some ρ'=>(eZ Φ .And ifs scope ρ').bnd fun b=>cond b ((aC Φ elt false scope ρ').bnd fun r=>.ok (some r) []) (.ok none [])) ds).bnd fun q=>if q.2<=1 then .ok (.lst q.1,q.2) []else .st
        else .st
      | none=>.st)
    else .st):=rfl
variable{Φ:Fx}{F:List D->Rs D}{B:List D->R1}
inductive Fl where
 | nx (ρ:ag)|rt (d:D)|bk (ρ:ag)|ct (ρ:ag)
def il:Expr->Bool
 | .ListComp .. => true
 | .SetComp .. => true
 | .DictComp .. => true
 | _=>false
def setD(l:List D)(i:Int)(d:D):Option (List D):=(ixN l.length i).map fun j=>l.set j d
def iJ(f:ag->Rs Fl):Fl->Rs Fl
 | .nx ρ=>f ρ
 | .ct ρ=>f ρ
 | .bk ρ=>.ok (.nx ρ) []
 | .rt d=>.ok (.rt d) []
def dH(bind:D->ag->Option ag)(body:ag->Rs Fl):List D->ag->Rs Fl
 | [],ρ=>.ok (.nx ρ) []
 | d::l,ρ=>match bind d ρ with
  | none=>.st
  | some ρ1=>(body ρ1).bnd (iJ (dH bind body l))
def lz(test:ag->Rs Bool)(body:ag->Rs Fl):Nat->ag->Rs Fl
 | 0,_=>.st
 | n+1,ρ=>(test ρ).bnd fun b=>cond b ((body ρ).bnd (iJ (lz test body n))) (.ok (.nx ρ) [])
def demX(x:Str)(ρ:ag):ag:=fun y=>if y=x then(ρ y).map fun p=>(p.1,false)else ρ y
def demA(x:Str)(ρ:ag):ag:=fun y=>if y=x then(ρ y).map fun p=>(p.1,p.2&&p.1.lless)else ρ y
def demL:List Expr->ag->ag
 | [],ρ=>ρ
 | .Name x _::es,ρ=>demL es (demA x ρ)
 | .Subscript (.Name x _) _ _::es,ρ=>demL es (demA x ρ)
 | _::es,ρ=>demL es ρ
def demote(e:Expr)(ρ:ag):ag :=
 match e with
 | .Name x _=>demX x ρ
 | .Subscript (.Name x _) _ _=>demX x ρ
 | .Call _ args _ _=>demL args ρ
 | _=>ρ
def n6(sc:Scope)(x:Str)(p:D×Nat)(ρ:ag):Rs Fl :=
 if cS sc x=true then
  match p.2 with
  | 0=>.ok (.nx (bP ρ x (p.1,true))) []
  | 1=>.ok (.nx (bP ρ x (p.1,false))) []
  | _=>.st
 else .st
def vC(ρ:ag)(x:Str)(f:List D->Rs Fl):Rs Fl :=
 match ρ x with
 | some (.lst l,true)=>if cQ x=true then f l else .st
 | _=>.st
def mK(sc:Scope)(x y:Str)(px py:Pos)(a b:Expr):Bool :=
 sc.names.lookup x==some .local&&sc.names.lookup y==some .local&&(px.line==py.line) && !decide (x=y) && !([a,b].all (foldedForSure 8)) && !([a,b].all (constantsAlone 8))
def ld(Φ:Fx)(es:List Expr)(e:Expr)(sc:Scope)(ρ:ag):Rs Fl :=
  match es,e with
  | [.Name x px,.Name y py],.Tuple [a,b] _ _=>if mK sc x y px py a b=true then(bK Φ [a,b] sc ρ).bnd fun p=>(match p.1 with
      | [u,v]=>if az [u,v]=true\/p.2<=1 then .ok (.nx (bP (bP ρ x (u,false)) y (v,false))) []else .st
      | _=>.st)else .st
  | _,_=>.st
def sS(sc:Scope)(es:List Expr)(e:Expr):Bool :=
 match es,e with
 | [.Name x _,.Name _ _],.Tuple [_,_] _ _=>sc.names.lookup x==some .cell
 | _,_=>false
def mC(sc:Scope)(es:List Expr)(e:Expr):Bool:=ik e && !sS sc es e
def rJ(sc:Scope)(es:List Expr)(p:D×Nat):Bool :=
 match es,p.1,p.2 with
 | [.Name x _,.Name y _],.tup [d1,d2],0=>d1.lless && !d2.lless && !decide (x=y)&&cS sc x&&cS sc y
 | _,_,_=>false
def vt(es:List Expr)(p:D×Nat)(ρ:ag):ag :=
 match es,p.1 with
 | [.Name x _,.Name y _],.tup [d1,d2]=>bP (bP ρ y (d2,true)) x (d1,false)
 | _,_=>ρ
def EZ(_:Expr):Bool:=true
def nX(ρ:ag)(x:Str)(i d:D):Rs Fl :=
 match ρ x with
 | some (.lst l,true)=>(match i with | .int j=>if cQ x=true then(match setD l j d with|some l'=>.ok (.nx (bP ρ x (.lst l',true))) [az l=true,d.lless=true]|none=>.st)else .st|_=>.st)
 | some (.dct _ _,true)=>.st
 | _=>.st
def nr(Φ:Fx)(tgs:List Expr)(e:Expr)(sc:Scope)(ρ:ag):Rs Fl :=
  match tgs with
  | [.Name x _]=>(aC Φ e false sc ρ).bnd fun p=>n6 sc x p ρ
  | [.Tuple es _ _]=>if mC sc es e=true then ld Φ es e sc ρ else(aC Φ e false sc ρ).bnd fun p=>if rJ sc es p=true then .ok (.nx (vt es p ρ)) []else(match eM p.1 with
      | some ds=>if az ds=true\/p.2<=1 then(match aX sc es ds ρ with|some ρ'=>.ok (.nx ρ') []|none=>.st)else .st
      | none=>.st)
  | [.Subscript (.Name x _) i _]=>if EZ e=true then(aC Φ e false sc ρ).bnd fun p=>(aC Φ i false sc ρ).bnd fun q=>nX ρ x q.1 p.1
    else .st
  | _=>.st
def AE(op:Operator)(a b:Int):R1 :=
 match op with
 | .Add=>.ok (.int (a+b),0) []
 | .Sub=>.ok (.int (a-b),0) []
 | .Mult=>.ok (.int (a*b),0) [cg a b]
 | .FloorDiv=>.ok (.int (a.fdiv b),0) [jD b]
 | _=>.st
def nq(Φ:Fx)(t:Expr)(op:Operator)(e:Expr)(sc:Scope)(ρ:ag):Rs Fl :=
  match t with
  | .Name x _=>if cS sc x=true then(match ρ x with
      | some p=>ju (p.1,0) (fun a=>(aC Φ e false sc ρ).bnd fun q=>ju q fun b=>AE op a b) |>.bnd fun r=>.ok (.nx (bP ρ x (r.1,true))) []
      | none=>.st)else .st
  | _=>.st
def nl(Φ:Fx)(e:Expr)(sc:Scope)(ρ:ag):Rs Fl :=
  match e with
  | .Call (.Attribute (.Name x _) m ap) args [] cp=>if (ap.endLine==cp.line)=true then(bK Φ args sc ρ).bnd fun p=>(match Φ.mtt m with
      | some M=>vC ρ x fun l=>(M l p.1 p.2).bnd fun l'=>.ok (.nx (bP ρ x (.lst l',true))) []
      | none=>.st)else .st
  | .Call (.Name f p) args ks cp=>(aC Φ (.Call (.Name f p) args ks cp) false sc ρ).bnd fun _=>.ok (.nx ρ) []
  | _=>.st
def eB(ρ:ag):ag:=fun y=>(ρ y).map fun p=>(p.1,false)
def Bo:Expr->Bool
 | .ListComp elt _ _ _=>il elt
 | _=>false
def qE:Expr->Bool
 | .Tuple es _ _=>es.any Bo
 | e=>Bo e
def rq(e:Expr)(ρ:ag):ag:=cond (qE e) (eB ρ) ρ
def vo(p:D×Nat):Rs Fl:=if p.2=0\/p.2=2 then .ok (.rt p.1) []else .st
mutual
def ff(Φ:Fx):Stmt->Scope->ag->Rs Fl
  | .Return (some e) _,sc,ρ=>(aC Φ e false sc (rq e ρ)).bnd vo
  | .Return none _,_,_=>.ok (.rt .non) []
  | .Pass _,_,ρ=>.ok (.nx ρ) []
  | .Break _,_,ρ=>.ok (.bk ρ) []
  | .Continue _,_,ρ=>.ok (.ct ρ) []
  | .Assign tgs e _,sc,ρ=>nr Φ tgs e sc ρ
  | .AugAssign t op e _,sc,ρ=>nq Φ t op e sc ρ
  | .Expr e _,sc,ρ=>nl Φ e sc ρ
  | .If c a b _,sc,ρ=>(aC Φ c false sc ρ).bnd fun p=>ji p fun t=>cond t (aJ Φ a sc ρ) (aJ Φ b sc ρ)
  | .For tg it body els _,sc,ρ=>if els.isEmpty=true then(aC Φ it true sc (demote it ρ)).bnd fun p=>(match items p.1 with
      | some ds=>if p.2<=1/\fy it tg=true then dH (bY sc tg) (aJ Φ body sc) ds (demote it ρ)else .st
      | none=>.st)
    else .st
  | .While c body els _,sc,ρ=>if els.isEmpty=true then lz (fun ρ=>(aC Φ c false sc ρ).bnd fun p=>ji p fun b=>.ok b []) (aJ Φ body sc) cG ρ else .st
  | _,_,_=>.st
def aJ(Φ:Fx):List Stmt->Scope->ag->Rs Fl
 | [],_,ρ=>.ok (.nx ρ) []
 | s::ss,sc,ρ=>(ff Φ s sc ρ).bnd fun
  | .nx ρ'=>aJ Φ ss sc ρ'
  | f=>.ok f []
end
theorem oE{it:Expr}:ff Φ (.For tg it body els q) sc ρ=(if els.isEmpty=true then(aC Φ it true sc (demote it ρ)).bnd fun p=>(match items p.1 with
      | some ds=>if p.2<=1/\fy it tg=true then dH (bY sc tg) (aJ Φ body sc) ds (demote it ρ)else .st
      | none=>.st)
    else .st):=rfl
theorem sF{ρ:ag}:ff Φ (.While c body els q) sc ρ=(if els.isEmpty=true then lz (fun ρ=>(aC Φ c false sc ρ).bnd fun p=>ji p fun b=>.ok b []) (aJ Φ body sc) cG ρ else .st):=rfl
def dg:List Str->List D->ag
 | p::ps,d::ds=>fun z=>if z=p then some (d,false)else dg ps ds z
 | _,_=>fun _=>none
def cE(Φ:Fx)(sc:Scope)(ps:List Str)(body:List Stmt)(ds:List D):Rs D :=
 if ds.length=ps.length then(aJ Φ body sc (dg ps ds)).bnd fun
  | .rt d=>.ok d []
  | .nx _=>.ok .non []
  | _=>.st
 else .st
def As(ds:List D):R1 :=
 match ds with
 | [.sn n]=>.ok (.int n,0) []
 | [x]=>(match eM x with|some l=>.ok (.int l.length,0) []|none=>.st)
 | _=>.st
def kN:List String:=["int", "bool", "str", "tuple", "list", "dict"]
def Au(ds:List D):R1 :=
 match ds with
 | [.obj m _ _,.cls n]=>if m=n then .ok (.bl true,0) []else if m∈HM then .ok (.bl (qW m n),0) []else .st
 | [x,.typ T]=>if T∈kN then(match GQ x T with|some b=>.ok (.bl b,0) []|none=>.st)else .st
 | _=>.st
def sV(ds:List D):R1 :=
 match ds with
 | [x]=>(match eM x with|some l=>.ok (.tup l,0) [az l=true]|none=>.st)
 | _=>.st
def qL(ds:List D):R1 :=
 match ds with
 | [x]=>(match eM x with|some l=>.ok (.lst l,0) [az l=true]|none=>.st)
 | _=>.st
def Az(ds:List D):R1 :=
 match ds with
 | [.int i]=>.ok (.int (if i<0 then -i else i),0) []
 | _=>.st
def Ay(ds:List D):R1 :=
 match ds with
 | [.lst l]=>(match dn l with|some bs=>.ok (.bl (bs.all id),0) []|none=>.st)
 | _=>.st
def Ax(ds:List D):R1 :=
 match ds with
 | [.lst l]=>(match cF l with
  | some ns=>.ok (.bl (ns.any fun n=>n != 0),0) []
  | none=>match dn l with|some bs=>.ok (.bl (bs.any id),0) []|none=>.st)
 | _=>.st
def Aq(ds:List D):R1 :=
 match ds with
 | [.lst l]=>(match cF l with|some ns=>.ok (.int ns.sum,0) []|none=>.st)
 | _=>.st
def Av(ds:List D):R1 :=
 match ds with
 | [.int i]=>.ok (.int i,0) []
 | [.bl b]=>.ok (.int (cond b 1 0),0) []
 | _=>.st
def su(ds:List D)(_:Nat):R1 :=
 match ds with
 | [.int j]=>.ok (.lst ((List.range j.toNat).map fun i=>.int (i:Nat)),0) [-4611686018427387904<=j,j<=cG]
 | [.int i,.int j]=>.ok (.lst ((List.range (j-i).toNat).map fun m=>.int (i+(m:Nat))),0) [-4611686018427387904<=i,i<=4611686018427387000,-4611686018427387904<=j,j-i<=800]
 | _=>.st
def zW(ds:List D)(k:Nat):R1 :=
 match ds with
 | [.tup a,.tup b]=>.ok (.lst (List.zipWith (fun x y=>.tup [x,y]) a b),0) [az a=true,az b=true]
 | [x,y]=>(match eM x,eM y with|some a,some b=>.ok (.lst (List.zipWith (fun x y=>.tup [x,y]) a b),k) [az a=true,az b=true]|_,_=>.st)
 | _=>.st
def ol(l ds:List D)(k:Nat):Rs (List D) :=
 match ds with
 | [d]=>.ok (l++[d]) [d.lless=true\/k=0,l.length<cG]
 | _=>.st
def Tb(l:List (Str×(List D->Rs D)))(c:List (Str×D))(b:List (Str×(List D->R1)))(i:List (Str×(List D->Nat->R1)))(m:List (Str×(D->List D->R1)))(t:List (Str×(List D->List D->Nat->Rs (List D))))(sf:D->Option Int->Option Int->R1):Fx :=
 { slf:=sf,fn:=fun g=>l.lookup g,con:=fun x=>c.lookup x,blt:=fun x=>b.lookup x,itr:=fun x=>i.lookup x,mth:=fun x=>m.lookup x,mtt:=fun x=>t.lookup x }
variable{fl:Fl}{bodyF:ag->Rs Fl}
variable{X:Cx}
theorem kS{k:Int}(h:k.natAbs<2 ^ n):Builtin.Int.intBits k<=n:=by
 unfold Builtin.Int.intBits
 split
 ·exact QZ _
 ·rename_i h0
  have:k.natAbs.log2<n:=by
   rcases R0 k.natAbs with h1|hp
   ·exact absurd (by simpa using h1) (by simpa using h0)
   ·exact(Nat.log2_lt (RL hp)).mpr h
  omega
theorem dJ:∀{l m:List Prop},aH (l++m)↔aH l/\aH m
 | [],m=>by simp[aH]
 | p::l,m=>by
  show p/\aH (l++m)↔(p/\aH l)/\aH m
  rw[dJ,and_assoc]
theorem aR{r:Rs α}{f:α->Rs β}{b:β}{l:List Prop}(h:r.bnd f=.ok b l)(hp:aH l):∃a l1 l2,r=.ok a l1/\aH l1/\f a=.ok b l2/\aH l2:=by
 unfold Rs.bnd at h
 split at h
 ·cases h
 ·rename_i a l1
  split at h
  ·cases h
  ·rename_i b' m e
   cases h
   obtain⟨h1,h2⟩:=dJ.mp hp
   exact⟨a,l1,m,rfl,h1,e,h2⟩
theorem mZ{m:List Prop}(h:aH (gd b m))(hb:b=true):aH m:=by
 cases m with
 | nil=>exact True.intro
 | cons p l=>exact h.1 hb
theorem JQ{a b:Int}(h:Builtin.Int.intBits a<=2 ^ 22)(g:Builtin.Int.intBits b<=2 ^ 22):IntMulOk a b:=by
 have h':Builtin.Int.intTooBig (Builtin.Int.intBits a+Builtin.Int.intBits b)=false:=by
  unfold Builtin.Int.intTooBig bitsLine;exact QY (by omega)
 unfold IntMulOk;rw[h'];simp
theorem rP{a b:Int}(h:cg a b):IntMulOk a b:=by
 rcases h with h|h|⟨h,g⟩|⟨h,g⟩
 ·exact .of_left (kS h)
 ·exact .of_right (kS h)
 ·exact IntMulOk.of_bits (QD (kS h) (by decide)) (QD (kS g) (by decide))
 ·exact JQ h g
theorem Dg:cP X (binaryOp .Mult) (rI (fun i j=>cg i j) fun i j=>.int (i*j)):=uu fun _ _ _ _ _ _ _ hc q=>mul_int q (rP hc)
theorem zE:cP X (binaryOp .FloorDiv) (rI (fun _ j=>j≠0/\j.natAbs<dm) fun i j=>.int (i.fdiv j)):=uu fun i j _ _ _ _ _ hc q=>floordiv_int hc.1 q (.inl (PyProof.noPylong_of_log2 (by
 rcases R0 j.natAbs with h1|hp
 ·exact absurd (by simpa using h1) hc.1
 ·exact(Nat.log2_lt (RL hp)).mpr hc.2)))
mutual
theorem hV{pins:List (Addr×Obj)}{σ:L2.St}{H:Hp}{s:Shared}(I:al X pins σ H s){P:bj}:∀{d:D} {v:V} {u:Value},d.py.canLay0=true->aj X.K H P d v->aY v u->∃as,Reads s.heap u d.py as
 | .non,v,u,_,h,r=>by
  rw[aj]at h;subst h;cases (show u=Value.none from r);rw[D.py];exact⟨_,.none⟩
 | .bl b,v,u,_,h,r=>by rw[aj]at h;subst h;cases (show u=Value.bool b from r);rw[D.py];exact⟨_,.bool b⟩
 | .int i,v,u,_,h,r=>by rw[aj]at h;subst h;obtain⟨t,e⟩:=(show ∃t,u=Value.int i t from r);subst e;rw[D.py];exact⟨_,.int i t⟩
 | .str x,v,u,_,h,r=>by rw[aj]at h;subst h;obtain⟨t,e⟩:=(show ∃t,u=Value.str x t from r);subst e;rw[D.py];exact⟨_,.str x t⟩
 | .dct _ _,v,u,c,h,r=>by rw[D.py]at c;simp[PyData.canLay0]at c
 | .typ _,v,u,c,h,r=>by rw[D.py]at c;simp[PyData.canLay0]at c
 | .sn _,v,u,c,h,r=>by rw[D.py]at c;simp[PyData.canLay0]at c
 | .obj _ _ _,v,u,c,h,r=>by rw[D.py]at c;simp[PyData.canLay0]at c
 | .cls _,v,u,c,h,r=>by rw[D.py]at c;simp[PyData.canLay0]at c
 | .xc _ _,v,u,c,h,r=>by rw[D.py]at c;simp[PyData.canLay0]at c
 | .tup l,v,u,c,h,r=>by
  rw[aj]at h
  obtain⟨a,vs,rfl,h,q⟩:=h
  cases (show u=Value.ref a from r)
  obtain⟨its,rv,ht,_⟩:=I.tuple h
  obtain⟨o,e1,e2,n,e3⟩:=ht
  rw[D.py]at c⊢
  obtain⟨as,ra⟩:=j6 I (by simpa [PyData.canLay0]using c) q rv
  exact⟨as,.tuple e1 e2 e3 (by simpa using ra)⟩
 | .lst l,v,u,c,h,r=>by
  rw[aj]at h
  obtain⟨a,vs,b,rfl,h,_,q⟩:=h
  cases (show u=Value.ref a from r)
  have hs:cj X.K H a vs:=h.sq
  obtain⟨its,rv,ht,_⟩:=I.list hs
  obtain⟨o,n,e1,e2,_,e3⟩:=ht
  rw[D.py]at c⊢
  obtain⟨as,ra⟩:=j6 I (by simpa [PyData.canLay0]using c) q rv
  exact⟨_,.list e1 e2 e3 (by simpa using ra)⟩
theorem j6{pins:List (Addr×Obj)}{σ:L2.St}{H:Hp}{s:Shared}(I:al X pins σ H s){P:bj}:∀{l:List D} {vs:List V} {us:List Value},PyData.canLayAll0 (pw l)=true->ah X.K H P l vs->aL vs us->∃as,ReadsAll s.heap us (pw l) as
 | [],vs,us,_,h,r=>by rw[ah]at h;subst h;cases r;rw[pw];exact⟨_,.nil⟩
 | d::l,vs,us,c,h,r=>by
  rw[ah]at h
  obtain⟨v,vr,rfl,h1,h2⟩:=h
  cases r with
  | cons r1 r2 =>
   rw[pw,PyData.canLayAll0,QN]at c
   obtain⟨as,ra⟩:=hV I c.1 h1 r1
   obtain⟨bs,rb⟩:=j6 I c.2 h2 r2
   rw[pw]
   exact⟨_,.cons ra rb⟩
end
def BN(X:Cx)(f:Value->Value->Sem Value)(x y z:D)(k j l:Nat):Prop :=
 ∃r:R2,cP X f r/\∀ow H0 H2 v u (Q:VK),fe ow H0->av H0 H2->aj X.K H2 (Kp ow H0 k) x v->aj X.K H2 (Kp ow H0 j) y u->(∀w H',av H2 H'->aj X.K H' (Kp ow H0 l) z w->Q w H')->r v u H2 Q
theorem bR{p:Addr}{o:HO}(h:H p=none):av H (aG H p o):=fun b x e=>by rw[ax (aU e h)];exact e
theorem aj.kn(h:aj K H (Kp ow H0 k) d v):aj K H (Kp ow H0 (Sp.kn d k)) d v:=by
 unfold Sp.kn
 by_cases f:d.lless=true
 ·rw[if_pos f];exact h.flat _ f
 ·rw[if_neg f];exact h
theorem dU:cG<=sizeLine:=by rw[RV];decide
theorem pD:cG<sizeLine:=by rw[RV];decide
theorem kR{f:Value->Value->Sem Value}{a b:Int}{g:Int->Int->Int}{C:Int->Int->Prop}(h:cP X f (rI C fun i j=>.int (g i j)))(hc:C a b):BN X f (.int a) (.int b) (.int (g a b)) k j 0 :=
 ⟨_,h,fun ow H0 H2 v u Q o s rx ry q=>by
  rw[aj]at rx ry;subst rx ry
  exact⟨a,b,rfl,rfl,hc,q _ _ (av.refl _) (by rw[aj])⟩⟩
theorem rL{f:Value->Value->Sem Value}{a b:Int}{g:Int->Int->Int}(h:cP X f (jI fun i j=>.int (g i j))):BN X f (.int a) (.int b) (.int (g a b)) k j 0 :=
 ⟨_,h,fun ow H0 H2 v u Q o s rx ry q=>by
  rw[aj]at rx ry;subst rx ry
  exact⟨a,b,rfl,rfl,q _ _ (av.refl _) (by rw[aj])⟩⟩
theorem jJ:∀{a b:List D},az (a++b)=(az a&&az b)
 | [],b=>by simp[az]
 | x::a,b=>by rw[List.cons_append,az,az,jJ,Bool.and_assoc]
theorem Ek{op:Operator}{a b:Int}{l:Nat}(h:Ap op a b=.ok (z,l) o)(hp:aH o):BN X (binaryOp op) (.int a) (.int b) z k j l:=by
 unfold Ap at h
 split at h
 ·cases h;exact rL F5
 ·cases h;exact rL F2
 ·cases h;exact kR Dg hp.1
 ·cases h;exact kR zE hp.1
 ·cases h;exact kR Dh hp.1
 ·cases h
  have c:vA a b:=hp.1
  exact kR F3 ⟨c.1,by have:=c.2.1;omega,c.2.2⟩
 ·cases h
theorem lS{op:Operator}(h:qF op=true):op=.Add:=by cases op<;>first|rfl|cases h
theorem zF:cP X (binaryOp .Add) (fun x y H Q => ∃a b ys,x=.ref a/\y=.ref b/\bT X.K H a []/\bT X.K H b ys/\Q (.ref b) H):=by
 intro pins s σ H x y v u Q I rx ry h
 obtain⟨a,b,ys,rfl,rfl,ha,hb,q⟩:=h
 cases rx
 cases ry
 obtain⟨its,r1,p1,_⟩:=I.tuple ha
 obtain⟨its2,r2,p2,_⟩:=I.tuple hb
 cases r1
 obtain⟨⟨cls,dd,data,sl⟩,ho,hc,n,hd⟩:=id p1
 obtain⟨⟨cls2,dd2,data2,sl2⟩,ho2,hc2,n2,hd2⟩:=id p2
 simp only at hc hd hc2 hd2
 subst hc hd hc2 hd2
 exact concat_meets ⟨_,ho,rfl⟩ ⟨_,ho2,rfl⟩ noFill_tuple_add seq_tuple_add PySem.F.slot_tuple_add PySem.F.entry_tuple_add (PySem.F.args_tuple_add_2 _ _)
  (tuple_addW0 a b _ its2.toArray n n2 dd dd2 sl sl2 (by rfl)) ⟨ho,ho2,⟨.ref b,H,I,rfl,q⟩⟩
theorem ut:cP X (binaryOp .Add) (fun x y H Q => ∃l b xs zs,x=.ref l/\y=.ref b/\cj X.K H l xs/\cj X.K H b zs/\xs.length+zs.length<=sizeLine/\∀p,H p=none->Q (.ref p) (aG H p (.lst (xs++zs)))):=by
 intro pins s σ H x y v u Q I rx ry h
 obtain⟨l,b,xs,zs,rfl,rfl,hH,hB,hz,q⟩:=h
 cases rx
 cases ry
 obtain⟨its,r,⟨⟨cls,dd,data,sl⟩,n,ho,hc,_,hd⟩,z⟩:=I.list hH
 obtain⟨its2,r2,⟨⟨cls2,dd2,data2,sl2⟩,n2,ho2,hc2,_,hd2⟩,z2⟩:=I.list hB
 simp only at hc hd hc2 hd2
 subst hc hd hc2 hd2
 have l1:=r.length
 have l2:=r2.length
 refine concat_meets ⟨_,ho,rfl⟩ ⟨_,ho2,rfl⟩ noFill_list_add seq_list_add PySem.F.slot_list_add PySem.F.entry_list_add (PySem.F.args_list_add_2 _ _) (list_addW l b its.toArray its2.toArray n n2 dd dd2 sl sl2 (by rw[QM,QM];omega)) ⟨ho,ho2,?_⟩
 have ea:its.toArray++its2.toArray=(its++its2).toArray:=by simp
 rw[ea]
 exact⟨.ref _,_,I.lnew (t':=s.toks) (r.append r2) (by rw[Sf];omega),rfl,q _ I.fresh⟩
theorem Iw{op:Operator}{x:D}{l:Nat}(h:sU op x y k j=.ok (z,l) o)(hp:aH o):BN X (binaryOp op) x y z k j l:=by
 unfold sU at h
 split at h
 ·exact Ek h hp
 ·rename_i a b
  split at h
  ·rename_i c;cases h
   cases lS c
   refine⟨_,vE,fun ow H0 H2 v u Q o s rx ry q=>?_⟩
   rw[aj]at rx ry;subst rx ry
   exact⟨a,b,rfl,rfl,QD hp.1 dU,q _ _ (av.refl _) (by rw[aj])⟩
  ·cases h
 ·rename_i a b
  split at h
  ·rename_i c
   cases lS c
   cases h
   cases a with
   | nil =>
    refine⟨_,zF,fun ow H0 H2 v u Q o s rx ry q=>?_⟩
    rw[aj]at rx ry
    obtain⟨pa,va,rfl,ha,ra⟩:=rx
    obtain⟨pb,vb,rfl,hb,rb⟩:=ry
    have rb':=rb.imp (Kp.joinR o k j)
    cases ra
    refine⟨pa,pb,vb,rfl,rfl,ha,hb,q _ _ (av.refl _) (aj.kn ?_)⟩
    rw[aj]
    exact⟨pb,vb,rfl,hb,rb'⟩
   | cons a0 a =>
    refine⟨_,Di,fun ow H0 H2 v u Q o s rx ry q=>?_⟩
    rw[aj]at rx ry
    obtain⟨pa,va,rfl,ha,ra⟩:=rx
    obtain⟨pb,vb,rfl,hb,rb⟩:=ry
    have ra':=ra.imp (Kp.joinL o k j)
    have rb':=rb.imp (Kp.joinR o k j)
    have la:=ra.length
    have lb:=rb.length
    refine⟨pa,pb,va,vb,rfl,rfl,ha,hb,?_,?_,fun e=>?_,fun e p hp'=>?_⟩
    ·intro e;subst e;cases la
    ·rw[<- la,<- lb];exact QD hp.1 dU
    ·subst e
     have:b=[]:=R9.mp lb
     subst this
     refine q _ _ (av.refl _) (aj.kn ?_)
     rw[aj]
     exact⟨pa,va,rfl,ha,by rw[Rl];exact ra'⟩
    ·have sm:=bR (o:=HO.tup (va++vb)) hp'
     refine q _ _ sm (aj.kn ?_)
     rw[aj]
     exact⟨p,_,rfl,bT.of aD,(ra'.same sm).append (rb'.same sm)⟩
  ·cases h
 ·rename_i a b
  split at h
  ·rename_i c;cases h
   cases lS c
   refine⟨_,ut,fun ow H0 H2 v u Q o s rx ry q=>?_⟩
   rw[aj]at rx ry
   obtain⟨pa,va,b1,rfl,ha,qa,ra⟩:=rx
   obtain⟨pb,vb,b2,rfl,hb,qb,rb⟩:=ry
   have la:=ra.length
   have lb:=rb.length
   have fl:=hp.1
   rw[jJ,QN]at fl
   refine⟨pa,pb,va,vb,rfl,rfl,ha.sq,hb.sq,by rw[<- la,<- lb];exact QD hp.2.1 dU,fun p hp'=>?_⟩
   have sm:=bR (o:=HO.lst (va++vb)) hp'
   refine q _ _ sm ?_
   rw[aj]
   exact⟨p,_,true,rfl,aD,⟨rfl,s.free hp'⟩,((ra.flat _ fl.1).same sm).append ((rb.flat _ fl.2).same sm)⟩
  ·cases h
 ·cases h
theorem zK{pins:List (Addr×Obj)}{σ:L2.St}{s:Shared}{P:bj}(h:aj X.K H P (.lst l) v):∃a vs,v=.ref a/\cj X.K H a vs/\ah X.K H P l vs:=by
 rw[aj]at h
 obtain⟨a,vs,b,rfl,h,_,q⟩:=h
 exact⟨a,vs,rfl,h.sq,q⟩
theorem iM:∀{l:List D} {ns:List Int},cF l=some ns->l=ns.map D.int
 | [],ns,h=>by rw[cF]at h;cases h;rfl
 | .int i::l,ns,h=>by
  rw[cF]at h
  cases e:cF l with
  | none=>rw[e]at h;cases h
  | some m=>rw[e]at h;cases h;rw[iM e];rfl
 | .non::l,ns,h=>by rw[cF]at h<;>first|cases h|(intro z;intro e;cases e)
 | .bl _::l,ns,h=>by rw[cF]at h<;>first|cases h|(intro z;intro e;cases e)
 | .str _::l,ns,h=>by rw[cF]at h<;>first|cases h|(intro z;intro e;cases e)
 | .dct _ _::l,ns,h=>by rw[cF]at h<;>first|cases h|(intro z;intro e;cases e)
 | .typ _::l,ns,h=>by cases h
 | .sn _::l,ns,h=>by cases h
 | .obj _ _ _::l,ns,h=>by cases h
 | .cls _::l,ns,h=>by cases h
 | .xc _ _::l,ns,h=>by cases h
 | .tup _::l,ns,h=>by rw[cF]at h<;>first|cases h|(intro z;intro e;cases e)
 | .lst _::l,ns,h=>by rw[cF]at h<;>first|cases h|(intro z;intro e;cases e)
theorem jE:∀{l:List D} {ns:List Bool},dn l=some ns->l=ns.map D.bl
 | [],ns,h=>by rw[dn]at h;cases h;rfl
 | .bl i::l,ns,h=>by
  rw[dn]at h
  cases e:dn l with
  | none=>rw[e]at h;cases h
  | some m=>rw[e]at h;cases h;rw[jE e];rfl
 | .non::l,ns,h=>by rw[dn]at h<;>first|cases h|(intro z;intro e;cases e)
 | .int _::l,ns,h=>by rw[dn]at h<;>first|cases h|(intro z;intro e;cases e)
 | .str _::l,ns,h=>by rw[dn]at h<;>first|cases h|(intro z;intro e;cases e)
 | .dct _ _::l,ns,h=>by rw[dn]at h<;>first|cases h|(intro z;intro e;cases e)
 | .typ _::l,ns,h=>by cases h
 | .sn _::l,ns,h=>by cases h
 | .obj _ _ _::l,ns,h=>by cases h
 | .cls _::l,ns,h=>by cases h
 | .xc _ _::l,ns,h=>by cases h
 | .tup _::l,ns,h=>by rw[dn]at h<;>first|cases h|(intro z;intro e;cases e)
 | .lst _::l,ns,h=>by rw[dn]at h<;>first|cases h|(intro z;intro e;cases e)
def wx(X:Cx)(op:CmpOp)(x y:D)(r:Bool):Prop:=∀(P P':bj),cP X (compareOp op) (fun v u H Q=>aj X.K H P x v/\aj X.K H P' y u/\Q (.bl r) H)
theorem le{a b:Int}{g:Int->Int->Bool}(h:cP X (compareOp op) (jI fun i j=>.bl (g i j))):wx X op (.int a) (.int b) (g a b):=fun P P' pins s σ H v u xv yu Q I rx ry ⟨h1,h2,q⟩=>by
 rw[aj]at h1 h2;subst h1 h2
 exact h pins s σ H _ _ xv yu Q I rx ry ⟨a,b,rfl,rfl,q⟩
theorem ux{P:bj}{x:D}(h:aj X.K H P x v):decide (v=.non)=x.isNon:=by
 cases x with
 | non=>rw[aj]at h;subst h;rfl
 | bl _=>rw[aj]at h;subst h;rfl
 | int _=>rw[aj]at h;subst h;rfl
 | str _=>rw[aj]at h;subst h;rfl
 | dct _ _=>rw[aj]at h;obtain⟨_,_,a,_,rfl,_⟩:=h;rfl
 | typ _=>rw[aj]at h;subst h;rfl
 | sn _=>rw[aj]at h;obtain⟨a,_,rfl,_⟩:=h;rfl
 | obj _ _ _=>rw[aj]at h;obtain⟨_,_,a,_,_,_,rfl,_⟩:=h;rfl
 | cls _=>rw[aj]at h;obtain⟨_,_,rfl,_⟩:=h;rfl
 | xc _ _=>rw[aj]at h;obtain⟨_,rfl⟩:=h.ref;rfl
 | tup _=>rw[aj]at h;obtain⟨a,_,rfl,_⟩:=h;rfl
 | lst _=>rw[aj]at h;obtain⟨a,_,_,rfl,_⟩:=h;rfl
theorem fz(h:eM d=some l):d=.tup l\/d=.lst l:=by
 unfold eM at h
 split at h
 ·cases h;exact .inl rfl
 ·cases h;exact .inr rfl
 ·cases h
theorem Ed{a b:Int}(h:ge op a b=some r):wx X op (.int a) (.int b) r:=by
 unfold ge at h
 split at h
 ·cases h;exact le JD
 ·cases h;exact le JE
 ·cases h;exact le JF
 ·cases h;exact le JG
 ·cases h
theorem F1{x:D}(hu:X.A.units+70<cLine)(h:vD op x y=some r):wx X op x y r:=by
 unfold vD at h
 split at h
 ·exact Ed h
 ·cases h
theorem BG(b c:Bool):(Value.bool b==Value.bool c)=(b==c):=by cases b<;>cases c<;>rfl
theorem jh{x:D}(hu:X.A.units+70<cLine)(h:lY op x y=.ok r o)(hp:aH o):wx X op x y r:=by
 unfold lY at h
 split at h
 ·cases h
  have c:=hp.1
  unfold sK at c
  rw[QN]at c
  intro P P' pins s σ H v u xv yu Q I rx ry ⟨h1,h2,q⟩
  obtain⟨as,r1⟩:=hV I (SeqAt.canLay_of_shaped c.1) h1 rx
  obtain⟨bs,r2⟩:=hV I (SeqAt.canLay_of_shaped c.2) h2 ry
  exact eq_dataH r1 r2 c.1 c.2 (by omega) ⟨.bl _,H,I,rfl,q⟩
 ·cases h
  have c:=hp.1
  unfold sK at c
  rw[QN]at c
  intro P P' pins s σ H v u xv yu Q I rx ry ⟨h1,h2,q⟩
  obtain⟨as,r1⟩:=hV I (SeqAt.canLay_of_shaped c.1) h1 rx
  obtain⟨bs,r2⟩:=hV I (SeqAt.canLay_of_shaped c.2) h2 ry
  exact ne_dataH r1 r2 c.1 c.2 (by omega) ⟨.bl _,H,I,rfl,q⟩
 ·split at h
  ·cases h
   intro P P' pins s σ H v u xv yu Q I rx ry ⟨h1,h2,q⟩
   rw[aj]at h2
   subst h2
   exact F4 pins s σ H v _ xv yu Q I rx ry ⟨rfl,by rw[ux h1];exact q⟩
  ·split at h
   ·cases h
    intro P P' pins s σ H v u xv yu Q I rx ry ⟨h1,h2,q⟩
    rw[aj]at h1 h2
    subst h1 h2
    cases rx
    cases ry
    exact wpAny_is_plain rfl ⟨.bl _,H,I,rfl,by rw[BG];exact q⟩
   ·cases h
  ·cases h
 ·split at h
  ·cases h
   intro P P' pins s σ H v u xv yu Q I rx ry ⟨h1,h2,q⟩
   rw[aj]at h2
   subst h2
   refine Df pins s σ H v _ xv yu Q I rx ry ⟨rfl,?_⟩
   rw[ux h1]
   exact q
  ·split at h
   ·cases h
    intro P P' pins s σ H v u xv yu Q I rx ry ⟨h1,h2,q⟩
    rw[aj]at h1 h2
    subst h1 h2
    cases rx
    cases ry
    exact wpAny_isNot_plain rfl ⟨.bl _,H,I,rfl,by rw[BG];exact q⟩
   ·cases h
  ·cases h
 ·cases e:vD op x y with
  | none=>rw[e]at h;cases h
  | some b=>rw[e]at h;cases h;exact F1 hu e
variable{X:Cx}
theorem uF(K:W.Frag){t:Value}:W.kitOne K t t=some true:=by unfold W.kitOne;rw[if_pos (beq_self_eq_true t)]
def D.ty:D->String
 | .non => "NoneType"
 | .bl _ => "bool"
 | .int _ => "int"
 | .str _ => "str"
 | .dct _ _ => "dict"
 | .tup _ => "tuple"
 | .lst _ => "list"
 | .typ _ => "type"
 | .sn _ => "set"
 | .obj _ _ _ => "object"
 | .cls _ => "type"
 | .xc _ _ => "type"
def D.plain:D->Bool
 | .typ _=>false
 | .sn _=>false
 | .obj _ _ _=>false
 | .cls _=>false
 | .xc _ _=>false
 | _=>true
theorem GO{x:D}{c:String}(hpl:x.plain=true)(e:∀K,W.kitOne K (.type x.ty) (.type c)=some b){u:Value}{P:bj}
  (I:al X pins σ H s) (h:aj X.K H P x v) (r:aY v u) (q:∀tk,Q (.bool b) { s with toks:=tk }):wpAny (model X.prog X.w) X.A (call (.builtin "isinstance") [u,.type c]) Q E s:=by
 have e:=e X.K
 cases x with
 | non=>rw[aj]at h;subst h;cases (show u=Value.none from r);exact Rv W.kitx_none I.kIn True.intro e (fun z=>nomatch z) q
 | bl y=>rw[aj]at h;subst h;cases (show u=Value.bool y from r);exact Rv W.kitx_bool I.kIn True.intro e (fun z=>nomatch z) q
 | int i=>rw[aj]at h;subst h;obtain⟨t,z⟩:=(show ∃t,u=Value.int i t from r);cases z;exact Rv W.kitx_int I.kIn True.intro e (fun z=>nomatch z) q
 | str y=>rw[aj]at h;subst h;obtain⟨t,z⟩:=(show ∃t,u=Value.str y t from r);cases z;exact Rv W.kitx_str I.kIn True.intro e (fun z=>nomatch z) q
 | dct ks ds =>
  rw[aj]at h
  obtain⟨_,_,a,vs,rfl,ea,_⟩:=h
  cases (show u=Value.ref a from r)
  obtain⟨_,_,vs,_,p⟩:=(show bG X.prog X.w H s.heap a (.dK _)from I.hok a _ ea)
  obtain⟨o,es,ep,h1,h2,_⟩:=p
  exact Rv W.kitx_dict I.kIn ⟨o,h1,h2.1⟩ e (fun z=>nomatch z) q
 | typ _=>cases hpl
 | sn _=>cases hpl
 | obj _ _ _=>cases hpl
 | cls _=>cases hpl
 | xc _ _=>cases hpl
 | tup l =>
  rw[aj]at h
  obtain⟨a,vs,rfl,ea,_⟩:=h
  cases (show u=Value.ref a from r)
  obtain⟨_,_,⟨o,h1,h2,_⟩,_⟩:=I.tuple ea
  exact Rv W.kitx_tuple I.kIn ⟨o,h1,h2⟩ e (fun z=>nomatch z) q
 | lst l =>
  obtain⟨a,vs,rfl,ea,_⟩:=zK (pins:=pins) (σ:=σ) (s:=s) h
  cases (show u=Value.ref a from r)
  obtain⟨_,_,⟨o,n,h1,h2,_⟩,_⟩:=I.list ea
  exact Rv W.kitx_list I.kIn ⟨o,h1,h2⟩ e (fun z=>nomatch z) q
theorem kt(K:W.Frag)(a b:String)(r:Bool)(h:(a==b)=false)(h2:W.kitCls K (.type a) (.type b)=some r):W.kitOne K (.type a) (.type b)=some r:=by
 unfold W.kitOne
 rw[if_neg (by
  intro z
  have:a=b:=by simpa using z
  subst this
  simp at h)]
 exact h2
theorem Dx:∀a∈["NoneType", "bool", "int", "str", "dict", "tuple", "list"],∀T∈kN,(a==T)=false->∀K,W.kitCls K (.type a) (.type T)=some (decide (a = "bool" /\ T = "int")):=by
 intro a ha T hT
 simp only[QA,QI,Q1,kN]at ha hT
 rcases ha with rfl|rfl|rfl|rfl|rfl|rfl|rfl<;>rcases hT with rfl|rfl|rfl|rfl|rfl|rfl<;>intro h K<;>first|(exact absurd h (by decide))|kernel_rfl
theorem GP{x:D}(h:GQ x T=some b)(hT:T∈kN):x.plain=true/\∀K,W.kitOne K (.type x.ty) (.type T)=some b:=by
 have key:∀(a:String),a∈["NoneType", "bool", "int", "str", "dict", "tuple", "list"]->∀K,W.kitOne K (.type a) (.type T)=some (decide (a=T) || decide (a = "bool" /\ T = "int")):=fun a ha K=>by
  by_cases e:a=T
  ·subst e;rw[uF];simp
  ·have e':(a==T)=false:=by simpa using e
   rw[kt K a T _ e' (Dx a ha T hT e' K)];simp[e]
 unfold GQ at h
 cases hx:x.ty0 with
 | none=>rw[hx]at h;cases h
 | some a =>
  rw[hx]at h
  cases h
  have hp:x.plain=true/\x.ty=a/\a∈["NoneType", "bool", "int", "str", "dict", "tuple", "list"]:=by
   cases x<;>cases hx<;>exact⟨rfl,rfl,by decide⟩
  refine⟨hp.1,fun K=>?_⟩
  rw[hp.2.1]
  exact key a hp.2.2 K
def gW(X:Cx)(f:Value)(ds:List D)(z:D)(l:Nat):Prop :=
 ∃r:List V->Hp->VK->Prop,dz X f r/\∀ow H0 H2 vs (P:bj) (Q:VK),fe ow H0->av H0 H2->ah X.K H2 P ds vs->(∀w H',av H2 H'->aj X.K H' (Kp ow H0 l) z w->Q w H')->r vs H2 Q
theorem ah.only{P:bj}(h:ah K H P [d] vs):∃v,vs=[v]/\aj K H P d v:=by
 rw[ah]at h
 obtain⟨v,r,rfl,h1,h2⟩:=h
 rw[ah]at h2;subst h2
 exact⟨v,rfl,h1⟩
theorem fK{P:bj}(h:aj X.K H P (.lst l) v):∃a vs,v=.ref a/\cj X.K H a vs/\ah X.K H P l vs:=by
 rw[aj]at h
 obtain⟨a,vs,b,rfl,h,_,q⟩:=h
 exact⟨a,vs,rfl,h.sq,q⟩
theorem ej{P:bj}(h:aj X.K H P (.tup l) v):∃a vs,v=.ref a/\bT X.K H a vs/\ah X.K H P l vs:=by
 rw[aj]at h;exact h
theorem xM:gW X (.builtin "len") [.tup l] (.int l.length) 0/\gW X (.builtin "len") [.lst l] (.int l.length) 0:=by
 constructor
 ·refine⟨_,kC,fun ow H0 H2 vs P Q o s rx q=>?_⟩
  obtain⟨v,rfl,ry⟩:=rx.only
  obtain⟨a,ws,rfl,hs,rl⟩:=ej ry
  exact⟨a,ws,rfl,.inr hs,by rw[<- rl.length];exact q _ _ (av.refl _) (by rw[aj])⟩
 ·refine⟨_,kC,fun ow H0 H2 vs P Q o s rx q=>?_⟩
  obtain⟨v,rfl,ry⟩:=rx.only
  obtain⟨a,ws,rfl,hs,rl⟩:=fK ry
  exact⟨a,ws,rfl,.inl hs,by rw[<- rl.length];exact q _ _ (av.refl _) (by rw[aj])⟩
theorem qU(f:az l=true):gW X (.type "tuple") [.lst l] (.tup l) 0/\gW X (.type "tuple") [.tup l] (.tup l) 0:=by
 constructor
 ·refine⟨_,jK,fun ow H0 H2 vs P Q o s rx q=>?_⟩
  obtain⟨v,rfl,ry⟩:=rx.only
  obtain⟨a,ws,rfl,hs,rl⟩:=fK ry
  refine⟨a,ws,rfl,.inl ⟨hs,fun p hp=>?_⟩⟩
  have sm:=bR (o:=HO.tup ws) hp
  refine q _ _ sm ?_
  rw[aj]
  exact⟨p,ws,rfl,bT.of aD,(rl.flat _ f).same sm⟩
 ·refine⟨_,jK,fun ow H0 H2 vs P Q o s rx q=>?_⟩
  obtain⟨v,rfl,ry⟩:=rx.only
  obtain⟨a,ws,rfl,hs,rl⟩:=ej ry
  refine⟨a,ws,rfl,.inr ⟨hs,q _ _ (av.refl _) ?_⟩⟩
  rw[aj]
  exact⟨a,ws,rfl,hs,rl.flat _ f⟩
theorem uE(f:az l=true):gW X (.type "list") [.lst l] (.lst l) 0/\gW X (.type "list") [.tup l] (.lst l) 0:=by
 constructor
 ·refine⟨_,kB,fun ow H0 H2 vs P Q o s rx q=>?_⟩
  obtain⟨v,rfl,ry⟩:=rx.only
  obtain⟨a,ws,rfl,hs,rl⟩:=fK ry
  refine⟨a,ws,rfl,.inl hs,fun p hp=>?_⟩
  have sm:=bR (o:=HO.lst ws) hp
  refine q _ _ sm ?_
  rw[aj]
  exact⟨p,ws,true,rfl,aD,⟨rfl,s.free hp⟩,(rl.flat _ f).same sm⟩
 ·refine⟨_,kB,fun ow H0 H2 vs P Q o s rx q=>?_⟩
  obtain⟨v,rfl,ry⟩:=rx.only
  obtain⟨a,ws,rfl,hs,rl⟩:=ej ry
  refine⟨a,ws,rfl,.inr hs,fun p hp=>?_⟩
  have sm:=bR (o:=HO.lst ws) hp
  refine q _ _ sm ?_
  rw[aj]
  exact⟨p,ws,true,rfl,aD,⟨rfl,s.free hp⟩,(rl.flat _ f).same sm⟩
theorem IJ{i:Int}:gW X (.builtin "abs") [.int i] (.int (if i<0 then -i else i)) 0:=by
 refine⟨_,An,fun ow H0 H2 vs P Q o s rx q=>?_⟩
 obtain⟨v,rfl,ry⟩:=rx.only
 rw[aj]at ry;subst ry
 exact⟨i,rfl,q _ _ (av.refl _) (by rw[aj])⟩
theorem ah.mapBl{K:W.Frag}{P:bj}{H:Hp}:∀{ns:List Bool} {vs:List V},ah K H P (ns.map D.bl) vs->vs=ns.map V.bl
 | [],vs,h=>by rw[SG,ah]at h;exact h
 | n::ns,vs,h=>by
  rw[Q8,ah]at h
  obtain⟨v,r,rfl,h1,h2⟩:=h
  rw[aj]at h1
  rw[h1,ah.mapBl h2];rfl
theorem nS:∀{bs:List Bool} {us:List Value},aL (bs.map V.bl) us->us=bs.map Value.bool
 | [],us,h=>by cases h;rfl
 | b::bs,us,h=>by
  cases h with
  | cons h1 h2=>rw[show _=Value.bool b from h1,nS h2];rfl
theorem qS:∀{ns:List Int} {us:List Value},aL (ns.map V.int) us->(∀v,v∈us->∃a t,v=Value.int a t)/\numsOf us=ns
 | [],us,h=>by cases h;exact⟨fun _ h=>(by cases h),rfl⟩
 | n::ns,us,h=>by
  cases h with
  | cons h1 h2 =>
   obtain⟨t,rfl⟩:=(show ∃t,_=Value.int n t from h1)
   obtain⟨i1,i2⟩:=qS h2
   refine⟨fun v hv=>?_,by simp only[numsOf];rw[i2]⟩
   rcases QA.mp hv with rfl|hv
   ·exact⟨_,_,rfl⟩
   ·exact i1 v hv
theorem yx(hc:X.calm=true):dz X (.builtin "sum") (fun xs H Q => ∃(p:Addr) (ns:List Int),xs=[.ref p]/\cj X.K H p (ns.map V.int)/\Q (.int ns.sum) H):=by
 intro pins s σ H xs us Q I r h
 obtain⟨p,ns,rfl,hq,q⟩:=h
 obtain⟨u,rfl,rx⟩:=dR r
 cases rx
 obtain⟨its,rv,pl,hz⟩:=I.list hq
 obtain⟨hall,hnum⟩:=qS rv
 obtain⟨xs,e⟩:=AllInts.items (vs:=its.toArray) (fun v hv=>hall v (by simpa using hv))
 have hl:=pl.isList
 rw[e]at hl
 refine sum_intListG (I.ok.hd hc) hl fun h' tk t' hk=>?_
 refine⟨.int ns.sum,H,I.kept hk,⟨t',?_⟩,q⟩
 congr 1
 rw[preSum_eq,List.take_of_length_le (by simp),<- nums_intItems,<- e]
 simp[hnum]
theorem yC(hc:X.calm=true):dz X (.builtin "all") (fun xs H Q => ∃(p:Addr) (bs:List Bool),xs=[.ref p]/\cj X.K H p (bs.map V.bl)/\Q (.bl (bs.all id)) H):=by
 intro pins s σ H xs us Q I r h
 obtain⟨p,bs,rfl,hq,q⟩:=h
 obtain⟨u,rfl,rx⟩:=dR r
 cases rx
 obtain⟨its,rv,pl,hz⟩:=I.list hq
 have ei:=nS rv
 subst ei
 have hl:=pl.isList
 have hlt:p<s.heap.objs.size:=by obtain⟨_,e,_⟩:=hl;exact QC e
 refine call_all_walk (RP hl ?_)
 refine⟨_,_,_,_,_,_,fun i=>bs.getD i true,rfl,Walks.list (A:=X.A.in1) (by exact I.ok.hd hc) _ p (QT hlt) (bs.map Value.bool).toArray,⟨⟨_,QH _ rfl,rfl,rfl⟩,hl.push _⟩,?_,fun h' tk hk=>?_⟩
 ·intro i v s' Q' E' hP hQ
  have hP:((bs.map Value.bool).toArray)[i]?=some v:=hP
  simp only[List.getElem?_toArray,QS]at hP
  cases e:bs[i]? with
  | none=>rw[e]at hP;cases hP
  | some b =>
   rw[e]at hP;cases hP
   refine Rx ?_
   have:bs.getD i true=b:=by rw[QW,e];rfl
   rw[<- this];exact hQ
 ·have:((List.range (bs.map Value.bool).toArray.size).all fun i=>bs.getD i true)=bs.all id:=by
   simp only[QM,Q0]
   rw[Sw,RN,RN]
   constructor
   ·intro h x hx
    obtain⟨i,hi,rfl⟩:=List.mem_iff_getElem.mp hx
    have:=h i (RY.mpr hi)
    rw[QW,QL hi]at this
    exact this
   ·intro h i hi
    have hi:=RY.mp hi
    rw[QW,QL hi]
    exact h _ (Sa hi)
  rw[this]
  refine⟨.bl _,H,I.kept (fun b o e=>hk b o (fun hm=>?_) (Qy _ e)),rfl,q⟩
  have hb:b=s.heap.objs.size:=by simpa using hm
  subst hb
  exact absurd (QC e) (Q6 _)
theorem yB(hc:X.calm=true):dz X (.builtin "any") (fun xs H Q => ∃(p:Addr) (ns:List Int),xs=[.ref p]/\cj X.K H p (ns.map V.int)/\Q (.bl (ns.any fun n=>n != 0)) H):=by
 intro pins s σ H xs us Q I r h
 obtain⟨p,ns,rfl,hq,q⟩:=h
 obtain⟨u,rfl,rx⟩:=dR r
 cases rx
 obtain⟨its,rv,pl,hz⟩:=I.list hq
 have hlen:its.length=ns.length:=by have:=rv.length;simpa using this.symm
 have hl:=pl.isList
 have hlt:p<s.heap.objs.size:=by obtain⟨_,e,_⟩:=hl;exact QC e
 refine call_any_walk (RP hl ?_)
 refine⟨_,_,_,_,_,_,fun i=>(ns.getD i 0 != 0),rfl,Walks.list (A:=X.A.in1) (by exact I.ok.hd hc) _ p (QT hlt) its.toArray,⟨⟨_,QH _ rfl,rfl,rfl⟩,hl.push _⟩,?_,fun h' tk hk=>?_⟩
 ·intro i v s' Q' E' hP hQ
  have hP:(its.toArray)[i]?=some v:=hP
  simp only[List.getElem?_toArray]at hP
  have hi:i<ns.length:=by rw[<- hlen];exact(QJ.mp hP).1
  obtain⟨w,hw,rw'⟩:=rv.get (i:=i) (x:=V.int ns[i]) (by simp[hi])
  rw[hP]at hw;cases hw
  obtain⟨t,rfl⟩:=rw'
  refine PyProof.Rows.truthy_int ?_
  have:ns.getD i 0=ns[i]:=by rw[QW,QL hi];rfl
  rw[<- this];exact hQ
 ·have:((List.range its.toArray.size).any fun i=>(ns.getD i 0 != 0))=ns.any fun n=>n != 0:=by
   simp only[QM,hlen]
   rw[Sw,Sb,Sb]
   constructor
   ·rintro⟨i,hi,h⟩
    have hi:=RY.mp hi
    rw[QW,QL hi]at h
    exact⟨_,Sa hi,h⟩
   ·rintro⟨x,hx,h⟩
    obtain⟨i,hi,rfl⟩:=List.mem_iff_getElem.mp hx
    exact⟨i,RY.mpr hi,by rw[QW,QL hi];exact h⟩
  rw[this]
  refine⟨.bl _,H,I.kept (fun b o e=>hk b o (fun hm=>?_) (Qy _ e)),rfl,q⟩
  have hb:b=s.heap.objs.size:=by simpa using hm
  subst hb
  exact absurd (QC e) (Q6 _)
theorem yA(hc:X.calm=true):dz X (.builtin "any") (fun xs H Q => ∃(p:Addr) (bs:List Bool),xs=[.ref p]/\cj X.K H p (bs.map V.bl)/\Q (.bl (bs.any id)) H):=by
 intro pins s σ H xs us Q I r h
 obtain⟨p,bs,rfl,hq,q⟩:=h
 obtain⟨u,rfl,rx⟩:=dR r
 cases rx
 obtain⟨its,rv,pl,hz⟩:=I.list hq
 have ei:=nS rv
 subst ei
 have hl:=pl.isList
 have hlt:p<s.heap.objs.size:=by obtain⟨_,e,_⟩:=hl;exact QC e
 refine call_any_walk (RP hl ?_)
 refine⟨_,_,_,_,_,_,fun i=>bs.getD i false,rfl,Walks.list (A:=X.A.in1) (by exact I.ok.hd hc) _ p (QT hlt) (bs.map Value.bool).toArray,⟨⟨_,QH _ rfl,rfl,rfl⟩,hl.push _⟩,?_,fun h' tk hk=>?_⟩
 ·intro i v s' Q' E' hP hQ
  have hP:((bs.map Value.bool).toArray)[i]?=some v:=hP
  simp only[List.getElem?_toArray,QS]at hP
  cases e:bs[i]? with
  | none=>rw[e]at hP;cases hP
  | some b =>
   rw[e]at hP;cases hP
   refine Rx ?_
   have:bs.getD i false=b:=by rw[QW,e];rfl
   rw[<- this];exact hQ
 ·have:((List.range (bs.map Value.bool).toArray.size).any fun i=>bs.getD i false)=bs.any id:=by
   simp only[QM,Q0]
   rw[Sw,Sb,Sb]
   constructor
   ·rintro⟨i,hi,h⟩
    have hi:=RY.mp hi
    rw[QW,QL hi]at h
    exact⟨_,Sa hi,h⟩
   ·rintro⟨x,hx,h⟩
    obtain⟨i,hi,rfl⟩:=List.mem_iff_getElem.mp hx
    exact⟨i,RY.mpr hi,by rw[QW,QL hi];exact h⟩
  rw[this]
  refine⟨.bl _,H,I.kept (fun b o e=>hk b o (fun hm=>?_) (Qy _ e)),rfl,q⟩
  have hb:b=s.heap.objs.size:=by simpa using hm
  subst hb
  exact absurd (QC e) (Q6 _)
theorem yy:dz X (.builtin "len") (fun xs H Q => ∃(p:Addr) (S:Int->Bool) (n:Nat),xs=[.ref p]/\H p=some (.set S n)/\Q (.int n) H):=by
 intro pins s σ H xs us Q I r h
 obtain⟨p,S,n,rfl,hp,q⟩:=h
 obtain⟨u,rfl,rx⟩:=dR r
 cases rx
 obtain⟨o,es,ep,t,h1,h2,h3,_,_,h4,h5,rfl⟩:=(show s.heap.SetOf (intKind X.prog X.w) p S n from I.hok p _ hp)
 exact call_len_set h1 h2 h3 h5 (by unfold scanBound at h4;omega) ⟨.int _,H,I.tok _,⟨_,rfl⟩,q⟩
def dW(f:Str)(B:List D->R1):Prop:=f∈iA/\f ≠ "__name__" /\ (f==("__debug__" : Str))=false/\(B []=.st)/\∀(X:Cx) (ds:List D) (z:D) (l:Nat) (o:List Prop),X.calm=true->B ds=.ok (z,l) o->aH o ->
 ((∃id,bootBuiltins f=some (.builtin id)/\gW X (.builtin id) ds z l)\/∃T,bootBuiltins f=some (.type T)/\gW X (.type T) ds z l)
theorem En:dW "len" As:=by
 refine⟨by decide +kernel,by decide +kernel,by decide +kernel,rfl,fun X ds z l o hc h _=>.inl ⟨"len", by decide +kernel,?_⟩⟩
 unfold As at h
 split at h
 ·cases h
  refine⟨_,yy,fun ow H0 H2 vs P Q o s rx q=>?_⟩
  obtain⟨v,rfl,ry⟩:=rx.only
  rw[aj]at ry
  obtain⟨a,S,rfl,ha⟩:=ry
  exact⟨a,S,_,rfl,ha,q _ _ (av.refl _) (by rw[aj])⟩
 ·split at h
  ·rename_i m e
   cases h
   rcases fz e with rfl|rfl
   ·exact xM.1
   ·exact xM.2
  ·cases h
 ·cases h
theorem yG:dW "tuple" sV:=by
 refine⟨by decide +kernel,by decide +kernel,by decide +kernel,rfl,fun X ds z l o hc h hp=>.inr ⟨"tuple", by decide +kernel,?_⟩⟩
 unfold sV at h
 split at h
 ·split at h
  ·rename_i m e
   cases h
   have c:=hp.1
   rcases fz e with rfl|rfl
   ·exact(qU c).2
   ·exact(qU c).1
  ·cases h
 ·cases h
theorem Ar:dW "list" qL:=by
 refine⟨by decide +kernel,by decide +kernel,by decide +kernel,rfl,fun X ds z l o hc h hp=>.inr ⟨"list", by decide +kernel,?_⟩⟩
 unfold qL at h
 split at h
 ·split at h
  ·rename_i m e
   cases h
   have c:=hp.1
   rcases fz e with rfl|rfl
   ·exact(uE c).2
   ·exact(uE c).1
  ·cases h
 ·cases h
theorem Eu:dW "abs" Az:=by
 refine⟨by decide +kernel,by decide +kernel,by decide +kernel,rfl,fun X ds z l o hc h _=>.inl ⟨"abs", by decide +kernel,?_⟩⟩
 unfold Az at h
 split at h
 ·cases h;exact IJ
 ·cases h
theorem Et:dW "all" Ay:=by
 refine⟨by decide +kernel,by decide +kernel,by decide +kernel,rfl,fun X ds z l o hc h _=>.inl ⟨"all", by decide +kernel,?_⟩⟩
 unfold Ay at h
 split at h
 ·split at h
  ·rename_i bs e
   cases h
   cases jE e
   refine⟨_,yC hc,fun ow H0 H2 vs P Q o s rx q=>?_⟩
   obtain⟨v,rfl,ry⟩:=rx.only
   obtain⟨a,ws,rfl,hs,rl⟩:=fK ry
   exact⟨a,bs,rfl,by rw[<- rl.mapBl];exact hs,q _ _ (av.refl _) (by rw[aj])⟩
  ·cases h
 ·cases h
theorem Es:dW "any" Ax:=by
 refine⟨by decide +kernel,by decide +kernel,by decide +kernel,rfl,fun X ds z l o hc h _=>.inl ⟨"any", by decide +kernel,?_⟩⟩
 unfold Ax at h
 split at h
 ·split at h
  ·rename_i ns e
   cases h
   cases iM e
   refine⟨_,yB hc,fun ow H0 H2 vs P Q o s rx q=>?_⟩
   obtain⟨v,rfl,ry⟩:=rx.only
   obtain⟨a,ws,rfl,hs,rl⟩:=fK ry
   exact⟨a,ns,rfl,by rw[<- rl.mapInt];exact hs,q _ _ (av.refl _) (by rw[aj])⟩
  ·split at h
   ·rename_i bs e
    cases h
    cases jE e
    refine⟨_,yA hc,fun ow H0 H2 vs P Q o s rx q=>?_⟩
    obtain⟨v,rfl,ry⟩:=rx.only
    obtain⟨a,ws,rfl,hs,rl⟩:=fK ry
    exact⟨a,bs,rfl,by rw[<- rl.mapBl];exact hs,q _ _ (av.refl _) (by rw[aj])⟩
   ·cases h
 ·cases h
theorem Em:dW "sum" Aq:=by
 refine⟨by decide +kernel,by decide +kernel,by decide +kernel,rfl,fun X ds z l o hc h _=>.inl ⟨"sum", by decide +kernel,?_⟩⟩
 unfold Aq at h
 split at h
 ·split at h
  ·rename_i bs e
   cases h
   cases iM e
   refine⟨_,yx hc,fun ow H0 H2 vs P Q o s rx q=>?_⟩
   obtain⟨v,rfl,ry⟩:=rx.only
   obtain⟨a,ws,rfl,hs,rl⟩:=fK ry
   exact⟨a,bs,rfl,by rw[<- rl.mapInt];exact hs,q _ _ (av.refl _) (by rw[aj])⟩
  ·cases h
 ·cases h
theorem Dz(b:Bool):(if b=true then(1:Int)else 0)=cond b 1 0:=by cases b<;>rfl
theorem Er:dW "int" Av:=by
 refine⟨by decide +kernel,by decide +kernel,by decide +kernel,rfl,fun X ds z l o hc h hp=>.inr ⟨"int", by decide +kernel,?_⟩⟩
 unfold Av at h
 split at h
 ·cases h
  refine⟨_,pV,fun ow H0 H2 vs P Q o s rx q=>?_⟩
  obtain⟨v,rfl,ry⟩:=rx.only
  rw[aj]at ry;subst ry
  exact .inl ⟨_,rfl,q _ _ (av.refl _) (by rw[aj])⟩
 ·cases h
  refine⟨_,pV,fun ow H0 H2 vs P Q o s rx q=>?_⟩
  obtain⟨v,rfl,ry⟩:=rx.only
  rw[aj]at ry;subst ry
  exact .inr ⟨_,rfl,q _ _ (av.refl _) (by rw[aj,Dz])⟩
 ·cases h
theorem Ep:dW "isinstance" Au:=by
 refine⟨by decide +kernel,by decide +kernel,by decide +kernel,rfl,fun X ds z l o hc h _=>.inl ⟨"isinstance", by decide +kernel,?_⟩⟩
 unfold Au at h
 split at h
 ·rename_i m ns es n
  split at h
  ·rename_i hmn
   subst hmn
   cases h
   have cr:dz X (.builtin "isinstance") (fun xs H Q => ∃a C dx fs,xs=[.ref a,.ref C]/\H a=some (.ins C dx fs)/\eJ X.K C/\qO X.K C/\Q (.bl true) H):=by
    intro pins s σ H xs us Q I r hh
    obtain⟨a,C,dx,fs,rfl,ea,hc,ho,q⟩:=hh
    obtain⟨u,u2,rfl,ru,ru2⟩:=kM r
    cases (show u2=Value.ref C from ru2)
    exact pG I ru (.ins ea hc ho.ha ho.hn ho.ht ho.hm) (uF _) fun tk=>⟨.bl true,H,I.tok tk,rfl,q⟩
   refine⟨_,cr,fun ow H0 H2 vs P Q o s rx q=>?_⟩
   rw[ah]at rx
   obtain⟨v,r,rfl,r1,r2⟩:=rx
   obtain⟨w,rfl,r3⟩:=r2.only
   rw[aj]at r1
   rw[aj]at r3
   obtain⟨_,_,a,C,dx,vs,rfl,h1,h2,h3,_⟩:=r1
   obtain⟨C',o',rfl,h4,_,_,h5,_⟩:=r3
   rw[h1]at h4;cases h4
   exact⟨a,C,dx,_,rfl,h3,h2,h5,q _ _ (av.refl _) (by rw[aj])⟩
  ·split at h
   ·rename_i hmn
    cases h
    have cr:dz X (.builtin "isinstance") (fun xs H Q => ∃a C C' dx fs,xs=[.ref a,.ref C']/\H a=some (.ins C dx fs)/\eJ X.K C/\qO X.K C/\W.kitOne X.K (.ref C) (.ref C')=some (qW m n)/\Q (.bl (qW m n)) H):=by
     intro pins s σ H xs us Q I r hh
     obtain⟨a,C,C',dx,fs,rfl,ea,hc,ho,hk,q⟩:=hh
     obtain⟨u,u2,rfl,ru,ru2⟩:=kM r
     cases (show u2=Value.ref C' from ru2)
     exact pG I ru (.ins ea hc ho.ha ho.hn ho.ht ho.hm) hk fun tk=>⟨.bl (qW m n),H,I.tok tk,rfl,q⟩
    refine⟨_,cr,fun ow H0 H2 vs P Q o s rx q=>?_⟩
    rw[ah]at rx
    obtain⟨v,r,rfl,r1,r2⟩:=rx
    obtain⟨w,rfl,r3⟩:=r2.only
    rw[aj]at r1
    rw[aj]at r3
    obtain⟨_,_,a,C,dx,vs,rfl,h1,h2,h3,_⟩:=r1
    obtain⟨C',o',rfl,_,_,_,_,h5⟩:=r3
    obtain⟨h6,h7⟩:=h5.all m hmn C h1
    exact⟨a,C,C',dx,_,rfl,h3,h2,h6,h7,q _ _ (av.refl _) (by rw[aj])⟩
   ·cases h
 ·rename_i x T
  split at h
  ·rename_i hT
   split at h
   ·rename_i b hb
    cases h
    obtain⟨h1,h2⟩:=GP hb hT
    have cr:dz X (.builtin "isinstance") (fun xs H Q => ∃v P,xs=[v,.ty T]/\aj X.K H P x v/\Q (.bl b) H):=by
     intro pins s σ H xs us Q I r hh
     obtain⟨v,P,rfl,rp,q⟩:=hh
     obtain⟨u,u2,rfl,ru,ru2⟩:=kM r
     cases (show u2=Value.type T from ru2)
     exact GO h1 h2 I rp ru fun tk=>⟨.bl b,H,I.tok tk,rfl,q⟩
    refine⟨_,cr,fun ow H0 H2 vs P Q o s rx q=>?_⟩
    rw[ah]at rx
    obtain⟨v,r,rfl,r1,r2⟩:=rx
    obtain⟨w,rfl,r3⟩:=r2.only
    rw[aj]at r3;subst r3
    exact⟨v,P,rfl,r1,q _ _ (av.refl _) (by rw[aj])⟩
   ·cases h
  ·cases h
 ·cases h
def ja(K:W.Frag)(F:List D->Rs D):Sp:=fun vs H Q _ => ∃ds r l,ah K H (fun _ _=>True) ds vs/\F ds=.ok r l/\aH l/\∀v H',av H H'->aj K H' (fun a b=>b=true/\H a=none) r v->Q v H'
def BR(X:Cx)(g:Str)(F:List D->Rs D):Prop:=∃k f fd ps,br X.prog X.w X.K X.mg X.base cz k f fd ps (ja X.K F)/\bC k X.A/\X.mg g=some (.ref f)/\W.keepIn X.K (.ref f)=true/\bH X.K fd ps []/\(g==("__debug__" : Str))=false
def wZ(K:W.Frag)(n:Str)(F:List D->Rs D):Sp:=fun vs H Q _ => ∃x ws C dx ds r l,vs=.ref x::ws/\H x=some (.ins C dx [])/\W.nsIn K mainGlobals n=some (some (.ref C))/\eJ K C/\ah K H (fun _ _=>True) ds ws/\F ds=.ok r l/\aH l/\r.lless=true /\
 ∀H',(∀a o,a≠x->H a=some o->H' a=some o)->aj K H' (fun _ _=>True) r (.ref x)->Q .non H'
def IY(X:Cx)(g:Str)(F:List D->Rs D):Prop:=∃k C f fd ps,(∀ds r l,F ds=.ok r l->r.lless=true)/\Mk X.K C f/\br X.prog X.w X.K X.mg X.base cz k f fd ps (wZ X.K g F)/\bC (k+1) X.A/\X.mg g=some (.ref C)/\W.nsIn X.K mainGlobals g=some (some (.ref C))/\eJ X.K C/\bH X.K fd ps []/\(g==("__debug__" : Str))=false
def Qf(X:Cx)(g:Str)(F:List D->Rs D):Prop:=BR X g F\/IY X g F
def IZ(X:Cx)(n m:Str)(F:List D->Rs D):Prop:=∃k C f fd ps,W.nsIn X.K mainGlobals n=some (some (.ref C))/\eJ X.K C/\tG X.K C m f/\br X.prog X.w X.K X.mg X.base cz k f fd ps (ja X.K F)/\bC k X.A/\bH X.K fd ps []
def nO(f:Str)(B:List D->Nat->R1):Prop:=f∈iA/\∀(X:Cx) (ρ:ag) (p pos:Pos) (args:List Expr) (ds:List D) (k:Nat) (d:D) (j:Nat) (l:List D) (tg:Expr) (o:List Prop),X.calm=true->Gl X f->X.mg f=none->AD X ρ args ds k ->
 (∀e∈args,∀x p,e ≠ .Starred x p)->args.length=ds.length->B ds k=.ok (d,j) o->aH o->items d=some l->fy (.Call (.Name f p) args [] pos) tg=true->IE X ρ tg (.Call (.Name f p) args [] pos) l j
def wu(m:Str)(M:D->List D->R1):Prop:=∀(X:Cx) (ρ:ag) (a:Expr) (args:List Expr) (ap cp:Pos) (x:D) (k:Nat) (ds:List D) (j:Nat) (z:D) (l:Nat) (o:List Prop),X.calm=true->X.A.units+70<cLine->ED X ρ a x k->AD X ρ args ds j ->
 (∀e∈args,∀x p,e ≠ .Starred x p)->args.length=ds.length->(ap.endLine==cp.line)=true->iB a=true->M x ds=.ok (z,l) o->aH o->ED X ρ (.Call (.Attribute a m ap) args [] cp) z l
def lm(m:Str)(M:List D->List D->Nat->Rs (List D)):Prop:=∀X:Cx,X.calm=true->∃(id:String) (r:V->List V->Hp->VK->Prop),Slot "list" m id/\typeOf (.builtin id)=pure (.type "method_descriptor")/\KS X id r /\
 ∀(ow:Ow) (H0 H:Hp) (l ds l':List D) (j:Nat) (o:List Prop) (a:Addr) (vs ws:List V),M l ds j=.ok l' o->aH o->ds.length<29/\(∀(P:bj) (Q:VK),(∀b c,Kp ow H0 0 b c->P b c)->fe ow H0->av H0 H->H a=some (.lst vs)->ah X.K H P l vs->ah X.K H (Kp ow H0 j) ds ws ->
  (∀vs' w,ah X.K H P l' vs'->Q w (aG H a (.lst vs')))->r (.ref a) ws H Q)
def Qo(X:Cx)(ow:Ow)(ρ:ag)(o:Option Int):TO:=fun σ H Q=>aF X ow H σ ρ/\∀H',av H H'->Q o H'
def OD(X:Cx)(ρ:ag)(e:Option Expr)(o:Option Int):Prop:=∀ow,PO X e (Qo X ow ρ o)
def qM(F:D->Option Int->Option Int->R1):Prop:=∀(X:Cx) (ρ:ag) (a:Expr) (lo hi:Option Expr) (p2 pos:Pos) (x z:D) (l h:Option Int) (k j:Nat) (o:List Prop),ED X ρ a x k->OD X ρ lo l->OD X ρ hi h->F x l h=.ok (z,j) o->aH o->ED X ρ (.Subscript a (.Slice lo hi none p2) pos) z j
structure aO(Φ:Fx)(X:Cx)(sc:Scope):Prop where
 calm:X.calm=true
 nd:X.N.Nodup
 gl:∀x,sc.names.lookup x=some .globalImplicit->Gl X x
 kc:∀x,(sc.names.lookup x=some .cell\/sc.names.lookup x=some .free)->X.env.kindOf x=some .cell\/X.env.kindOf x=some .free
 lc:∀x,sc.names.lookup x=some .local->X.env.scope.names.lookup x=some .local
 cc:∀x,sc.names.lookup x=some .cell->X.env.scope.names.lookup x=some .cell
 fn:∀g F,Φ.fn g=some F->Qf X g F
 con:∀x d,Φ.con x=some d->∃v u,X.mg x=some u/\aY v u/\∀H P,aj X.K H P d v
 blt:∀f B,Φ.blt f=some B->dW f B
 itr:∀f B,Φ.itr f=some B->nO f B
 mth:∀m M,Φ.mth m=some M->wu m M
 mtt:∀m M,Φ.mtt m=some M->lm m M
 slf:qM Φ.slf
 fld:∀n f,Φ.fld n f=true->∀C,W.nsIn X.K mainGlobals n=some (some (.ref C))->dF X.K C f
 omt:∀n m F,Φ.omt n m=some F->IZ X n m F
 bl:∀f∈iA,X.mg f=none
 room:X.A.units+70<cLine
 ns:∀x,cS sc x=true->x∈X.N
 ft:∀x,sc.names.lookup x=some .cell->X.fn x=true
variable{X:Cx}
theorem bU(h:cQ x=true):(x==("__debug__" : Str))=false/\(x==("__classdict__" : Str))=false:=by
 unfold cQ at h
 rw[QN]at h
 exact⟨RG h.1,RG h.2⟩
theorem uO{o:Bool}(h:ρ x=some (d,o))(hx:cQ x=true):ED X ρ (.Name x pos) d (kn d (cond o 2 1)):=by
 refine ED.kn fun ow pins s σ H Q I ⟨E,q⟩=>?_
 obtain⟨i,v,e1,e2,e3,e4⟩:=E.get x d o h
 refine dO (i:=i) e1 e2 (bU hx).1 (bU hx).2 pins s σ H Q I ⟨v,e3,q v H (av.refl _) (e4.imp fun a b p=>?_)⟩
 cases o with
 | true=>exact⟨p.1,.inl (by rw[p.2];exact(fun z=>nomatch z))⟩
 | false=>exact p
theorem Hv(G:aO Φ X sc)(h:Φ.con x=some d)(hg:sc.names.lookup x=some .globalImplicit)(hx:cQ x=true):ED X ρ (.Name x pos) d 0:=by
 obtain⟨v,u,h1,h2,h3⟩:=G.con x d h
 exact fun ow=>bF (Db (G.gl x hg) h1 h2 (bU hx).1) fun σ H Q ⟨E,q⟩=>q v H (av.refl _) (h3 H _)
theorem BZ(h:u7 x=some T):bootBuiltins x=some (.type T)/\x ≠ "__name__" /\ (x==("__debug__" : Str))=false/\x∈iA:=by
 unfold u7 at h
 split at h
 ·rename_i e;subst e;cases h;exact⟨by decide +kernel,by decide +kernel,by decide +kernel,by decide +kernel⟩
 split at h
 ·rename_i e;subst e;cases h;exact⟨by decide +kernel,by decide +kernel,by decide +kernel,by decide +kernel⟩
 split at h
 ·rename_i e;subst e;cases h;exact⟨by decide +kernel,by decide +kernel,by decide +kernel,by decide +kernel⟩
 split at h
 ·rename_i e;subst e;cases h;exact⟨by decide +kernel,by decide +kernel,by decide +kernel,by decide +kernel⟩
 split at h
 ·rename_i e;subst e;cases h;exact⟨by decide +kernel,by decide +kernel,by decide +kernel,by decide +kernel⟩
 split at h
 ·rename_i e;subst e;cases h;exact⟨by decide +kernel,by decide +kernel,by decide +kernel,by decide +kernel⟩
 ·cases h
theorem Hq(G:aO Φ X sc)(h:u7 x=some T)(hg:sc.names.lookup x=some .globalImplicit):ED X ρ (.Name x pos) (.typ T) 0:=by
 obtain⟨h1,h2,h3,h4⟩:=BZ h
 exact fun ow=>bF (Dd (v:=.ty T) (G.gl x hg) (G.bl x h4) h1 rfl h2 h3) fun σ H Q ⟨E,q⟩=>q _ H (av.refl _) (by rw[aj])
theorem Hu{c:Const}(h:BE c=some d):ED X ρ (.Constant c n pos) d 0:=by
 intro ow
 unfold BE at h
 split at h
 ·cases h;exact bF FQ fun σ H Q ⟨E,q⟩=>q _ H (av.refl _) (by rw[aj])
 ·cases h;exact bF JC fun σ H Q ⟨E,q⟩=>q _ H (av.refl _) (by rw[aj])
 ·cases h;exact bF FS fun σ H Q ⟨E,q⟩=>q _ H (av.refl _) (by rw[aj])
 ·cases h;exact bF FN fun σ H Q ⟨E,q⟩=>q _ H (av.refl _) (by rw[aj])
 ·cases h
theorem Hy{b:Expr}{op:Operator}{x:D}{l:Nat}(ha:ED X ρ a x k)(hb:ED X ρ b y j)(h:sU op x y k j=.ok (z,l) o)(hp:aH o):ED X ρ (.BinOp a op b pos) z l:=by
 obtain⟨r,h1,h2⟩:=Iw (X:=X) h hp
 refine fun ow=>bF (Bh h1 (ha ow) (hb ow)) fun σ H Q ⟨E,q⟩=>⟨E,fun v H1 s1 r1=>⟨E.same s1,fun u H2 s2 r2=>?_⟩⟩
 exact h2 ow H H2 v u Q E.own (s1.trans s2) (r1.same s2) (r2.imp (Kp.back s1 j)) fun w H' s3 r3=>q w H' ((s1.trans s2).trans s3) r3
theorem Kl{op:UnaryOp}{x:D}(ha:ED X ρ a x k)(h:A2 op x=some z):ED X ρ (.UnaryOp op a pos) z 0:=by
 unfold A2 at h
 split at h
 ·cases h
  refine fun ow=>bF (JB EE (ha ow)) fun σ H Q ⟨E,q⟩=>⟨E,fun v H1 s1 r1=>?_⟩
  rw[aj]at r1;subst r1
  exact⟨_,rfl,q _ H1 s1 (by rw[aj])⟩
 ·cases h
  refine fun ow=>bF (FP (ha ow)) fun σ H Q ⟨E,q⟩=>⟨E,fun v H1 s1 r1=>?_⟩
  rw[aj]at r1;subst r1
  exact⟨_,rfl,q _ H1 s1 (by rw[aj])⟩
 ·cases h
theorem Hw{b:Expr}{x:D}(hu:X.A.units+70<cLine)(ha:ED X ρ a x k)(hb:ED X ρ b y j)(h:lY op x y=.ok r o)(hp:aH o)(hm:behindInMarks op b=false):ED X ρ (.Compare a [op] [b] pos) (.bl r) 0:=by
 have c:=jh hu h hp
 intro ow pins s σ H Q I ⟨E,q⟩
 refine wpAny_Compare1 (KP (ha ow) (hb ow) I (R:=fun v u H2=>av H H2/\aj X.K H2 (fun _ _=>True) x v/\aj X.K H2 (fun _ _=>True) y u) ⟨E,fun v H1 s1 r1=>⟨E.same s1,fun u H2 s2 r2=>⟨s1.trans s2,(r1.imp fun _ _ _=>True.intro).same s2,r2.imp fun _ _ _=>True.intro⟩⟩⟩ fun v u s2 x y H2 I2 rx ry ⟨sm,r1,r2⟩=>?_) hm
 exact c _ _ pins s2 σ H2 x y v u Q I2 rx ry ⟨r1,r2,q _ H2 sm (by rw[aj])⟩
theorem Ef{x:D}{r:D×Nat}{l:List Prop}(h:HP op op2 x y z=.ok r l):∃a b c r1 r2,x=.int a/\y=.int b/\z=.int c/\ge op a b=some r1/\ge op2 b c=some r2/\r=(.bl (r1&&r2),0):=by
 unfold HP at h
 split at h
 ·split at h
  ·rename_i h1 h2;cases h;exact⟨_,_,_,_,_,rfl,rfl,rfl,h1,h2,rfl⟩
  ·cases h
 ·cases h
theorem nC{a b:Int}(h:ge op a b=some r):lY op (.int a) (.int b)=.ok r []:=by
 unfold ge at h
 split at h<;>first|(cases h;rfl)|cases h
theorem Ae{b:Expr}{x y z:Int}(hu:X.A.units+70<cLine)(ha:ED X ρ a (.int x) k)(hb:ED X ρ b (.int y) j)(hc:ED X ρ c (.int z) i)(h:ge op x y=some r)(h2:ge op2 y z=some r2)(hm:behindInMarks op2 c=false):ED X ρ (.Compare a [op,op2] [b,c] pos) (.bl (r&&r2)) 0:=by
 have c1:=jh (X:=X) hu (nC h) (show aH []from True.intro)
 have c2:=jh (X:=X) hu (nC h2) (show aH []from True.intro)
 refine fun ow=>bF (zA (c1 (fun _ _=>True) (fun _ _=>True)) (c2 (fun _ _=>True) (fun _ _=>True)) (ha ow) (hb ow) (hc ow) hm) fun σ H Q ⟨E,q⟩=>⟨E,fun v H1 s1 r1=>⟨E.same s1,fun u H2 s2 r2=>?_⟩⟩
 rw[aj]at r1 r2
 subst r1 r2
 refine⟨by rw[aj],by rw[aj],r,rfl,?_⟩
 cases r with
 | false=>exact q _ H2 (s1.trans s2) (by rw[aj];rfl)
 | true =>
  rw[if_pos rfl]
  refine⟨(E.same s1).same s2,fun w H3 s3 r3=>?_⟩
  rw[aj]at r3
  subst r3
  exact⟨by rw[aj],by rw[aj],q _ H3 ((s1.trans s2).trans s3) (by rw[aj];rfl)⟩
theorem Jc(h:ED X ρ e (.bl b) k)(he:∀whole,isTrue e X.env whole=(do let v <- whole;standAt e.pos;holding [v] (truthy v))):TD X ρ e b :=
 fun ow=>wt (FD (h ow) he) fun σ H Q ⟨E,q⟩=>⟨E,fun v H1 s1 r1=>by rw[aj]at r1;exact⟨b,r1,q H1 s1⟩⟩
theorem jj:AD X ρ [] [] 0:=fun ow=>BM ke fun σ H Q ⟨E,q⟩=>q [] H (av.refl _) ah.nil
theorem eV(h1:ED X ρ e d k)(h2:AD X ρ es ds j)(hs:starEach (e::es) X.env=(false,eval e X.env)::starEach es X.env):AD X ρ (e::es) (d::ds) (kj k j) :=
 fun ow=>BM (dC (h1 ow) (h2 ow) hs) fun σ H Q ⟨E,q⟩=>⟨E,fun v H1 s1 r1=>⟨E.same s1,fun vs H2 s2 r2=>q _ H2 (s1.trans s2) (ah.cons ((r1.imp (Kp.joinL E.own k j)).same s2) (r2.imp fun a b p=>Kp.joinR E.own k j a b (Kp.back s1 j a b p)))⟩⟩
theorem Ab(h:AD X ρ es ds k)(hl:ds.length<=cG):ED X ρ (.Tuple es n pos) (.tup ds) (kn (.tup ds) k):=by
 refine ED.kn fun ow=>bF (xy (h ow)) fun σ H Q ⟨E,q⟩=>⟨E,fun vs H1 s1 r1=>⟨by rw[<- r1.length];exact QD hl dU,fun p hp=>?_⟩⟩
 have sm:=bR (o:=HO.tup vs) hp
 refine q _ _ (s1.trans sm) ?_
 rw[aj]
 exact⟨p,vs,rfl,bT.of aD,r1.same sm⟩
theorem uP(h:AD X ρ es ds k)(hk:k<=1)(hl:ds.length<=cG):ED X ρ (.List es pos) (.lst ds) k:=by
 refine fun ow=>bF (FR (h ow)) fun σ H Q ⟨E,q⟩=>⟨E,fun vs H1 s1 r1=>⟨by rw[<- r1.length];exact QD hl dU,fun p hp=>?_⟩⟩
 have sm:=bR (o:=HO.lst vs) hp
 refine q _ _ (s1.trans sm) ?_
 rw[aj]
 exact⟨p,vs,true,rfl,aD,xN E.own (s1.free hp) hk,r1.same sm⟩
theorem BB{b:Expr}(hc:TD X ρ c t)(h:if t=true then ED X ρ a d k else ED X ρ b d k):ED X ρ (.IfExp c a b pos) d k:=by
 cases t with
 | true =>
  intro ow pins s σ H Q I ⟨E,q⟩
  refine PyProof.Rows.IfExp_ (aN (hc ow pins s σ H (fun t H1=>t=true/\av H H1) I ⟨E,fun H1 s1=>⟨rfl,s1⟩⟩) fun t s1 ⟨H1,I1,e1,s1'⟩=>?_)
  subst e1
  exact h ow pins s1 σ H1 Q I1 ⟨E.same s1',fun v H2 s2 r2=>q v H2 (s1'.trans s2) (r2.imp (Kp.back s1' k))⟩
 | false =>
  intro ow pins s σ H Q I ⟨E,q⟩
  refine PyProof.Rows.IfExp_ (aN (hc ow pins s σ H (fun t H1=>t=false/\av H H1) I ⟨E,fun H1 s1=>⟨rfl,s1⟩⟩) fun t s1 ⟨H1,I1,e1,s1'⟩=>?_)
  subst e1
  exact h ow pins s1 σ H1 Q I1 ⟨E.same s1',fun v H2 s2 r2=>q v H2 (s1'.trans s2) (r2.imp (Kp.back s1' k))⟩
variable{X:Cx}
theorem ah.atI{P:bj}{i:Int}(h:ah K H P l vs)(e:L2.atI l i=some d):∃v,L2.atI vs i=some v/\aj K H P d v:=by
 unfold L2.atI at e⊢
 rw[<- h.length]
 cases q:ixN l.length i with
 | none=>rw[q]at e;cases e
 | some j=>rw[q]at e;exact h.get e
theorem BA{b:Expr}{x:D}{i:Int}{l:Nat}(ha:ED X ρ a x k)(hb:ED X ρ b (.int i) j)(hs:eY b)(h:r6 x i k=.ok (z,l) o):ED X ρ (.Subscript a b pos) z l:=by
 unfold r6 at h
 split at h
 ·rename_i m e0
  split at h
  ·rename_i d e
   unfold mk at h
   cases h
   rcases fz e0 with rfl|rfl
   ·refine ED.kn fun ow=>bF (kQ xQ (ha ow) (hb ow) hs) fun σ H Q ⟨E,q⟩=>⟨E,fun v H1 s1 r1=>⟨E.same s1,fun u H2 s2 r2=>?_⟩⟩
    obtain⟨p,vs,rfl,hq,rl⟩:=ej (r1.same s2)
    rw[aj]at r2;subst r2
    obtain⟨w,h1,h2⟩:=rl.atI e
    exact⟨p,vs,i,w,rfl,rfl,hq,h1,q w H2 (s1.trans s2) h2⟩
   ·refine ED.kn fun ow=>bF (kQ kW (ha ow) (hb ow) hs) fun σ H Q ⟨E,q⟩=>⟨E,fun v H1 s1 r1=>⟨E.same s1,fun u H2 s2 r2=>?_⟩⟩
    obtain⟨p,vs,rfl,hq,rl⟩:=fK (r1.same s2)
    rw[aj]at r2;subst r2
    obtain⟨w,h1,h2⟩:=rl.atI e
    exact⟨p,vs,i,w,rfl,rfl,hq,h1,q w H2 (s1.trans s2) h2⟩
  ·cases h
 ·cases h
def rIxD:R2:=fun x y H Q => ∃p kvs k v,x=.ref p/\y=kV k/\H p=some (.dK kvs)/\lJ kvs k=some v/\Q v H
theorem pF:∀{l:List D} {d:D},az l=true->d∈l->d.lless=true
 | x::l,d,h,m=>by
  rw[az,QN]at h
  rcases QA.mp m with rfl|m
  ·exact h.1
  ·exact pF h.2 m
theorem Hr{b:Expr}{p q r:D×Nat}(ha:ED X ρ a p.1 p.2)(hb:ED X ρ b q.1 q.2)(hs:eY b)(h:lK p q=.ok r o):ED X ρ (.Subscript a b pos) r.1 r.2:=by
 obtain⟨z,k⟩:=p
 unfold lK at h
 split at h
 ·cases h
 ·unfold ju at h
  split at h
  ·rename_i j hj
   rw[hj]at hb
   exact BA ha hb hs h
  ·cases h
theorem BK{e:Option Expr}{t t':TO}(h:PO X e t)(i:∀σ H Q,t' σ H Q->t σ H Q):PO X e t':=fun pins s σ H Q I q=>h pins s σ H Q I (i σ H Q q)
theorem uw:OD X ρ none none:=fun ow=>BK C5 fun σ H Q ⟨E,q⟩=>q H (av.refl _)
theorem uv{i:Int}(h:ED X ρ e (.int i) k):OD X ρ (some e) (some i):=fun ow=>BK (C4 (h ow)) fun σ H Q ⟨E,q⟩=>⟨E,fun v H1 s1 r1=>by rw[aj]at r1;exact⟨i,r1,q H1 s1⟩⟩
theorem ah.cut{P:bj}{lo hi:Option Int}(h:ah K H P l vs):ah K H P (kA l lo hi) (ir vs lo hi):=by
 unfold kA ir
 rw[<- h.length]
 exact(h.drop _).take _
theorem iU:∀{l:List D} {n:Nat},az l=true->az (l.take n)=true
 | [],n,h=>by simp[az]
 | d::l,0,h=>by simp[az]
 | d::l,n+1,h=>by
  rw[az,QN]at h
  rw[List.take_succ_cons,az,QN];exact⟨h.1,iU h.2⟩
theorem iV:∀{l:List D} {n:Nat},az l=true->az (l.drop n)=true
 | [],n,h=>by simp[az]
 | d::l,0,h=>h
 | d::l,n+1,h=>by
  rw[az,QN]at h
  exact iV (n:=n) h.2
theorem Ac{x:D}{l h:Option Int}(ha:ED X ρ a x k)(hl:OD X ρ lo l)(hh:OD X ρ hi h)(e:bA x l h=.ok (z,j) o)(hp:aH o):ED X ρ (.Subscript a (.Slice lo hi none p2) pos) z j:=by
 unfold bA at e
 split at e
 ·rename_i m
  ·cases e
   have c:az m=true /\ ¬ (HT.sIx m.length 0 l=0/\HT.sIx m.length m.length h=m.length):=⟨hp.1,by have hx:=hp.2.1;unfold HD at hx;intro z;rw[RZ z.1,RZ z.2]at hx;cases hx⟩
   refine fun ow=>bF (lP Fc (ha ow) (hl ow) (hh ow)) fun σ H Q ⟨E,q⟩=>⟨E,fun v H1 s1 r1=>⟨E.same s1,fun H2 s2=>⟨(E.same s1).same s2,fun H3 s3=>?_⟩⟩⟩
   have s13:=s2.trans s3
   obtain⟨p,vs,rfl,hq,rl⟩:=ej (r1.same s13)
   refine⟨p,vs,rfl,hq,by rw[<- rl.length];exact c.2,fun p' hp'=>?_⟩
   have sm:=bR (o:=HO.tup (ir vs l h)) hp'
   refine q _ _ ((s1.trans s13).trans sm) ?_
   rw[aj]
   exact⟨p',_,rfl,bT.of aD,ah.flat _ (by unfold kA;exact iU (iV c.1)) (rl.cut.same sm)⟩
 ·rename_i m
  ·cases e
   have c:az m=true:=hp.1
   refine fun ow=>bF (lP ug (ha ow) (hl ow) (hh ow)) fun σ H Q ⟨E,q⟩=>⟨E,fun v H1 s1 r1=>⟨E.same s1,fun H2 s2=>⟨(E.same s1).same s2,fun H3 s3=>?_⟩⟩⟩
   have s13:=s2.trans s3
   obtain⟨p,vs,rfl,hq,rl⟩:=fK (r1.same s13)
   refine⟨p,vs,rfl,hq,fun p' hp'=>?_⟩
   have sm:=bR (o:=HO.lst (ir vs l h)) hp'
   refine q _ _ ((s1.trans s13).trans sm) ?_
   rw[aj]
   exact⟨p',_,true,rfl,aD,⟨rfl,(s1.trans s13).free hp'⟩,ah.flat _ (by unfold kA;exact iU (iV c)) (rl.cut.same sm)⟩
 ·cases e
theorem aP:qM bA:=fun X ρ a lo hi p2 pos x z l h k j o ha hl hh e hp=>Ac ha hl hh e hp
theorem be{env:Env}{pos:Pos}:∀{es:List Expr},(∀e∈es,∀x p,e ≠ .Starred x p)->(backTo pos (starEach es env)).any (·.1)=false
 | [],_=>rfl
 | e::es,h=>by
  have ih:=be (env:=env) (es:=es) (pos:=pos) fun x hx=>h x (QB _ hx)
  have he:=h e QE
  cases e<;>first|exact absurd rfl (he _ _)|exact ih
theorem aA(h:∀x p,e ≠ .Starred x p):starEach (e::es) env=(false,eval e env)::starEach es env:=by
 cases e<;>first|exact absurd rfl (h _ _)|rfl
theorem Ag{r:D}(G:aO Φ X sc)(hf:BR X f F)(hg:sc.names.lookup f=some .globalImplicit)
  (ha:AD X ρ args ds k) (hst:∀e∈args,∀x p,e ≠ .Starred x p) (hnil:args=[]->ds=[]) (h:F ds=.ok r o) (hp:aH o):ED X ρ (.Call (.Name f p) args [] pos) r 0:=by
 obtain⟨n,fa,fd,ps,hF,hr,hm,hk,hb,hd⟩:=hf
 intro ow
 cases args with
 | nil =>
  refine bF (zC hF hr (G.gl f hg) hm hk hb .nil gQ hd) fun σ H Q ⟨E,q⟩=>?_
  have hds:=hnil rfl
  subst hds
  exact⟨[],r,o,ah.nil,h,hp,fun v H' s1 r1=>q v H' s1 r1⟩
 | cons e es =>
  refine bF (um hF hr (G.gl f hg) hm hk hb .nil gQ (ha ow) hd (aA (hst e QE)) (be fun x hx=>hst x (QB _ hx))) fun σ H Q ⟨E,q⟩=>⟨E,fun vs H1 s1 r1=>?_⟩
  refine⟨ds,r,o,by rw[Rl];exact r1.imp fun _ _ _=>True.intro,h,hp,fun v H' s2 r2=>q v H' (s1.trans s2) (r2.imp fun a b p=>⟨p.1,s1.free p.2⟩)⟩
theorem gx{x dx C:Addr}(hx:H x=none)(hd:H dx=none):av H (aG (aG H dx (.own x)) x (.ins C dx [])):=fun a o h=>by
 rw[ax (fun z=>by subst z;rw[hx]at h;cases h),ax (fun z=>by subst z;rw[hd]at h;cases h)]
 exact h
theorem D5{r:D}(G:aO Φ X sc)(hf:IY X f F)(hg:sc.names.lookup f=some .globalImplicit)
  (ha:AD X ρ args ds k) (hst:∀e∈args,∀x p,e ≠ .Starred x p) (hnil:args=[]->ds=[]) (h:F ds=.ok r o) (hp:aH o):ED X ρ (.Call (.Name f p) args [] pos) r 0:=by
 obtain⟨n,C,fa,fd,ps,hfl,hM,hF,hr,hm,hns,hc,hb,hd⟩:=hf
 have hl:=hfl ds r o h
 intro ow
 cases args with
 | nil =>
  refine bF (zy hM hF hr (G.gl f hg) hm hb .nil gQ hd) fun σ H Q ⟨E,q⟩=>?_
  have hds:=hnil rfl
  subst hds
  intro x dx hx hdx ne
  refine⟨x,[],C,dx,[],r,o,rfl,aD,hns,hc,ah.nil,h,hp,hl,fun H' kp rr=>⟨rfl,q _ H' (fun a ob ha=>?_) (rr.flat _ hl)⟩⟩
  exact kp a ob (fun z=>by subst z;rw[hx]at ha;cases ha) (gx hx hdx a ob ha)
 | cons e es =>
  refine bF (Da hM hF hr (G.gl f hg) hm hb .nil gQ (ha ow) hd (aA (hst e QE)) (be fun x hx=>hst x (QB _ hx))) fun σ H Q ⟨E,q⟩=>⟨E,fun vs H1 s1 r1=>?_⟩
  intro x dx hx hdx ne
  refine⟨x,vs++[],C,dx,ds,r,o,rfl,aD,hns,hc,by rw[Rl];exact(r1.same (gx hx hdx)).imp fun _ _ _=>True.intro,h,hp,hl,fun H' kp rr=>⟨rfl,q _ H' (s1.trans fun a ob ha=>?_) (rr.flat _ hl)⟩⟩
  exact kp a ob (fun z=>by subst z;rw[hx]at ha;cases ha) (gx hx hdx a ob ha)
theorem Ea{r:D}(G:aO Φ X sc)(hf:Φ.fn f=some F)(hg:sc.names.lookup f=some .globalImplicit)
  (ha:AD X ρ args ds k) (hst:∀e∈args,∀x p,e ≠ .Starred x p) (hnil:args=[]->ds=[]) (h:F ds=.ok r o) (hp:aH o):ED X ρ (.Call (.Name f p) args [] pos) r 0:=by
 rcases G.fn f F hf with z|z
 ·exact Ag G z hg ha hst hnil h hp
 ·exact D5 G z hg ha hst hnil h hp
theorem qG{o:Expr}{name:Str}(hb:attributeBase o name env (eval o env)=eval o env)(hf:methodCallForm (args.length+([]:List Keyword).length) (backTo pos (starEach args env)) (backToKw pos (keywordEach [] env))=true)
  (hl:(apos.endLine==pos.line)=true):eval (.Call (.Attribute o name apos) args [] pos) env=(do
   let ov <- eval o env
   standAt apos.atName
   let (f,first) <- holding [ov] (getMethod ov name (do return (<- importBound o env).getD true))
   callWith pos f first (backTo pos (starEach args env)) (backToKw pos (keywordEach [] env))):=by
 show(do
  let ov <- attributeBase o name env (eval o env)
  standAt apos.atName
  methodCall o name apos pos env ov (args.length+([]:List Keyword).length) (backTo pos (starEach args env)) (backToKw pos (keywordEach [] env)))=_
 rw[hb]
 unfold methodCall calleeOf methodCallPos
 rw[hf,hl]
 rfl
theorem eS{t:Sem Value}(h:iB a=true):attributeBase a m env t=t:=by
 unfold attributeBase
 split
 ·cases h
 ·rfl
theorem nh(hst:∀e∈args,∀x p,e ≠ .Starred x p)(hn:args.length<29):methodCallForm (args.length+([]:List Keyword).length) (backTo pos (starEach args env)) (backToKw pos (keywordEach [] env))=true:=by
 unfold methodCallForm
 have e1:(backTo pos (starEach args env)).all (fun x => !x.1)=true:=by
  have:=be (env:=env) (pos:=pos) hst
  rw[RN]
  intro x hx
  have h2:¬ (backTo pos (starEach args env)).any (·.1)=true:=by rw[this];exact QP
  cases hb:x.1 with
  | false=>rfl
  | true=>exact absurd (Sb.mpr ⟨x,hx,hb⟩) h2
 rw[e1]
 show(true&&true&&decide (args.length+0+0<30))=true
 simp;omega
theorem qQ:ns.contains m=false->(ns.zip vs).lookup m=none:=by
 induction ns generalizing vs with
 | nil=>intro _;rfl
 | cons a ns ih =>
  intro h
  cases vs with
  | nil=>rfl
  | cons v vs =>
   rw[Ss,Bool.or_eq_false_iff]at h
   show List.lookup m ((a,v)::ns.zip vs)=none
   rw[QO,h.1]
   exact ih h.2
theorem D4{n:Str}{es:List D}{r:D}(G:aO Φ X sc)(hf:Φ.omt n m=some F)(he:ED X ρ a (.obj n ns es) j)
  (ha:AD X ρ args ds k) (hst:∀e∈args,∀x p,e ≠ .Starred x p) (hlen:args.length=ds.length) (hn:ns.contains m=false) (hb:iB a=true) (hfew:ds.length<29) (hl:(ap.endLine==pos.line)=true) (h:F (.obj n ns es::ds)=.ok r o) (hp:aH o):ED X ρ (.Call (.Attribute a m ap) args [] pos) r 0:=by
 obtain⟨kk,C,fa,fd,ps,hns,hc,hm,hF,hr,hbd⟩:=G.omt n m F hf
 intro ow
 have ht:=qG (o:=a) (name:=m) (apos:=ap) (pos:=pos) (args:=args) (env:=X.env) (eS hb) (nh hst (by omega)) hl
 cases args with
 | nil =>
  refine bF (zx (he ow) hc hm hF hr hbd .nil gQ ht) fun σ H Q ⟨E,q⟩=>⟨E,fun v H1 s1 r1=>?_⟩
  have hds:ds=[]:=R9.mp hlen.symm
  subst hds
  have r0:=r1
  rw[aj]at r1
  obtain⟨f,e0,x,C',dx,vs,rfl,h1,h2,h3,r2⟩:=r1
  rw[hns]at h1;cases h1
  refine⟨x,dx,_,rfl,h3,qQ hn,[.obj n ns es],r,o,ah.one (r0.imp fun _ _ _=>True.intro),h,hp,fun v H' s2 r2=>q v H' (s1.trans s2) (r2.imp fun a b p=>⟨p.1,s1.free p.2⟩)⟩
 | cons e es' =>
  refine bF (C9 (he ow) hc hm hF hr hbd .nil gQ (ha ow) (aA (hst e QE)) (be fun x hx=>hst x (QB _ hx)) ht) fun σ H Q ⟨E,q⟩=>⟨E,fun v H1 s1 r1=>?_⟩
  have r0:=r1
  rw[aj]at r1
  obtain⟨f,e0,x,C',dx,vs,rfl,h1,h2,h3,r2⟩:=r1
  rw[hns]at h1;cases h1
  refine⟨x,dx,_,rfl,h3,qQ hn,E.same s1,fun ws H2 s2 rw2=>?_⟩
  refine⟨.obj n ns es::ds,r,o,by rw[Rl];exact ah.cons ((r0.same s2).imp fun _ _ _=>True.intro) (rw2.imp fun _ _ _=>True.intro),h,hp,fun v H' s3 r3=>q v H' ((s1.trans s2).trans s3) (r3.imp fun a b p=>⟨p.1,s1.free (s2.free p.2)⟩)⟩
theorem qR{K:W.Frag}{H:Hp}{P:bj}{f:Str}{d:D}:∀{ns:List Str} {ds:List D} {vs:List V},ah K H P ds vs->(ns.zip ds).lookup f=some d->∃v,(ns.zip vs).lookup f=some v/\aj K H P d v/\(az ds=true->d.lless=true)
 | [],ds,vs,_,h=>by cases h
 | a::ns,[],vs,_,h=>by cases h
 | a::ns,e::ds,vs,r,h=>by
  rw[ah]at r
  obtain⟨v,ws,rfl,r1,r2⟩:=r
  replace h:List.lookup f ((a,e)::ns.zip ds)=some d:=h
  show ∃u,List.lookup f ((a,v)::ns.zip ws)=some u/\_
  rw[QO]at h⊢
  cases hb:f==a with
  | true =>
   rw[hb]at h;cases h
   exact⟨v,rfl,r1,fun z=>by rw[az,QN]at z;exact z.1⟩
  | false =>
   rw[hb]at h
   obtain⟨u,u1,u2,u3⟩:=qR r2 h
   exact⟨u,u1,u2,fun z=>by rw[az,QN]at z;exact u3 z.2⟩
theorem Ht{n:Str}(G:aO Φ X sc)(hf:Φ.fld n f=true)(he:ED X ρ a (.obj n ns ds) j)(hb:iB a=true)(h:(ns.zip ds).lookup f=some d):ED X ρ (.Attribute a f pos) d 0:=by
 intro ow
 refine bF (FW (he ow) (eS hb)) fun σ H Q ⟨E,q⟩=>⟨E,fun v H1 s1 r1=>?_⟩
 rw[aj]at r1
 obtain⟨fl,e0,x,C,dx,vs,rfl,h1,h2,h3,r2⟩:=r1
 obtain⟨u,u1,u2,u3⟩:=qR r2 h
 exact⟨x,C,dx,_,u,rfl,h3,h2,G.fld n f hf C h1,u1,q u H1 s1 (u2.flat _ (u3 fl))⟩
theorem mE{a:Addr}(s:av H H')(h:bT K H a vs):bT K H' a vs:=by
 rcases h with(h|⟨o,h⟩)|h
 ·exact .inl (.inl (s _ _ h))
 ·exact .inl (.inr ⟨o,s _ _ h⟩)
 ·exact .inr h
theorem CQ{P:bj}(q:Fv):ah K H P (.str q.1::q.2.map D.int) (qj q):=ah.cons (by rw[aj]) ah.ofInts
theorem pr{K:W.Frag}{P:bj}{H:Hp}:∀{ns:List Int} {vs:List V},ah K H P (ns.map D.int) vs->vs=ns.map V.int
 | [],vs,h=>by rw[SG,ah]at h;exact h
 | n::ns,vs,h=>by
  rw[Q8,ah]at h
  obtain⟨v,r,rfl,h1,h2⟩:=h
  rw[aj]at h1
  rw[h1,pr h2];rfl
theorem FA{P:bj}{q:Fv}(h:aj K H P (iN q) v):∃t,v=.ref t/\bT K H t (qj q):=by
 unfold iN at h
 rw[aj]at h
 obtain⟨a,vs,e,h1,h2⟩:=h
 rw[ah]at h2
 obtain⟨v0,r,rfl,h3,h4⟩:=h2
 rw[aj]at h3
 rw[h3,pr h4]at h1
 exact⟨a,e,h1⟩
theorem D3{n p:Str}{i:Fv}(he:ED X ρ a (.xc n (some (p,[(f,i)]))) j)(hb:iB a=true):ED X ρ (.Attribute a f pos) (iN i) 0:=by
 intro ow pins s σ H Q I ⟨E,q⟩
 refine uV (eS hb) (aN (he ow pins s σ H (fun v H'=>av H H'/\jG X.K H' n (some (p,[(f,i)])) v) I ⟨E,fun v H' s1 r1=>⟨s1,by rw[aj]at r1;exact r1⟩⟩) fun u s1 ⟨v,H1,I1,rx,sm,x,C,S,od,e,h1,h2,h3,h4,h5,h6⟩=>?_)
 subst e
 obtain rfl:u=Value.ref x:=rx
 obtain⟨dx,tt,rfl,hdx,hsq⟩:=h5 f i rfl
 obtain⟨o,vs,e1,e2,e3,e4⟩:=(show bG X.prog X.w H1 s1.heap x (jf x C (some dx))from I1.hok x _ h4).1
 obtain⟨mA,hn,hr⟩:=(show bG X.prog X.w H1 s1.heap dx (.xd [(f,.ref tt)])from I1.hok dx _ hdx)
 obtain⟨u,hu,ru⟩:=fR.some_of (v:=.ref tt) (o:=mA f) (by have:=hr f;rw[QO,beq_self_eq_true]at this;exact this)
 obtain⟨nm,qn,N,bs,hdct,sn,sub,ab,col,dd,k0,k1,k2,k3,k5,mN,g1,g2,g3,g4⟩:=fA h3.ex I1.kIn
 exact DU h3.ga h3.gt (h6 f i rfl).no (h6 f i rfl).di I1.kIn e1 e2 e4 e3 hn hu (pK ru) g1 g4 ⟨.ref tt,H1,I1.tok _,ru,q _ _ sm (by unfold iN;rw[aj];exact⟨tt,_,rfl,hsq,CQ i⟩)⟩
theorem Hx{l:Nat}(G:aO Φ X sc)(hB:dW f B)(hg:sc.names.lookup f=some .globalImplicit)
  (ha:AD X ρ (e::es) ds k) (hst:∀x∈e::es,∀y p,x ≠ .Starred y p) (h:B ds=.ok (z,l) o) (hp:aH o):ED X ρ (.Call (.Name f p) (e::es) [] pos) z l:=by
 obtain⟨h3,h1,h2,_,h4⟩:=hB
 have h4:=h4 X ds z l o G.calm h hp
 intro ow
 have n1:=aA (env:=X.env) (es:=es) (hst e QE)
 have n2:(backTo pos (starEach es X.env)).any (·.1)=false:=be fun x hx=>hst x (QB _ hx)
 rcases h4 with⟨id,e1,r,e2,e3⟩|⟨T,e1,r,e2,e3⟩
 ·refine bF (zB e2 (G.gl f hg) (G.bl f h3) e1 (ha ow) h1 h2 n1 n2) fun σ H Q ⟨E,q⟩=>⟨E,fun vs H1 s1 r1=>?_⟩
  exact e3 ow H H1 vs _ Q E.own s1 r1 fun w H' s2 r2=>q w H' (s1.trans s2) r2
 ·refine bF (xz e2 (G.gl f hg) (G.bl f h3) e1 (ha ow) h1 h2 n1 n2) fun σ H Q ⟨E,q⟩=>⟨E,fun vs H1 s1 r1=>?_⟩
  exact e3 ow H H1 vs _ Q E.own s1 r1 fun w H' s2 r2=>q w H' (s1.trans s2) r2
theorem DE(h:ED X ρ e (.lst l) k):IE X ρ tg e l k:=by
 intro ow pins s σ H R I ⟨E,q⟩
 refine C7 (tg:=tg) (h ow) pins s σ H R I ⟨E,fun v H1 s1 r1=>?_⟩
 rw[aj]at r1
 obtain⟨a,vs,b,rfl,hl,hp,rl⟩:=r1
 have rl':ah X.K H1 (Kd ow H k H1) l vs:=rl.impH (fun a o ho p=>⟨p,fun _=>⟨o,ho⟩⟩) fun a p=>⟨p,fun z=>(by cases z)⟩
 have hp':Kd ow H k H1 a b:=⟨hp,fun hb=>by subst hb;exact⟨_,hl⟩⟩
 have sq:∀{H2:Hp},tH X.K H2 a vs b->cj X.K H2 a vs:=fun {H2} h=>h.sq
 refine⟨a,rfl,⟨vs,sq hl⟩,q _ H1 s1 fun i H2 st=>⟨fun d hd=>?_,fun hle=>?_⟩⟩
 ·have h2:=sq (st.ls hl hp')
  obtain⟨w,hw,rw'⟩:=rl'.get hd
  refine⟨⟨vs,w,h2,hw⟩,fun x H3 ⟨e3,y3⟩=>?_⟩
  subst e3
  have:=y3 vs h2
  rw[hw]at this;cases this
  exact⟨av.refl _,rw'.mono st⟩
 ·exact⟨vs,sq (st.ls hl hp'),by rw[<- rl.length];exact hle⟩
theorem GU(h:ED X ρ e (.tup l) k):IE X ρ tg e l k:=by
 intro ow pins s σ H R I ⟨E,q⟩
 refine FL (tg:=tg) (h ow) pins s σ H R I ⟨E,fun v H1 s1 r1=>?_⟩
 rw[aj]at r1
 obtain⟨a,vs,rfl,hl,rl⟩:=r1
 have rl':ah X.K H1 (Kd ow H k H1) l vs:=rl.impH (fun a o ho p=>⟨p,fun _=>⟨o,ho⟩⟩) fun a p=>⟨p,fun z=>(by cases z)⟩
 refine⟨a,rfl,⟨vs,hl⟩,q _ H1 s1 fun i H2 st=>⟨fun d hd=>?_,fun hle=>?_⟩⟩
 ·have h2:=st.sq hl
  obtain⟨w,hw,rw'⟩:=rl'.get hd
  refine⟨⟨vs,w,h2,hw⟩,fun x H3 ⟨e3,y3⟩=>?_⟩
  subst e3
  have:=y3 vs h2
  rw[hw]at this;cases this
  exact⟨av.refl _,rw'.mono st⟩
 ·exact⟨vs,st.sq hl,by rw[<- rl.length];exact hle⟩
def KW(x:Str):It:=⟨fun i _=>i<x.cps.size,fun i H v H'=>H'=H/\∃c,x.cps[i]?=some c/\v=.str ⟨#[c]⟩,fun i _=>x.cps.size<=i⟩
theorem y8(x:Str)(t:Tok)(it:Addr):Turn P w K tg (KW x) [it] it (fun i h=>h.IsStrIter it "str_ascii_iterator" x t i) where
 mem:=by simp
 obj:=fun i h st b hb=>by
  have e:b=it:=by simpa using hb
  subst e
  obtain⟨o,e,c,d⟩:=st
  exact⟨o,e,fun v z=>by rw[d]at z;cases z⟩
 keep:=fun i h h' st k=>by
  obtain⟨o,e,c,d⟩:=st
  exact⟨o,k it (by simp) o e,c,d⟩
 item:=by
  intro X hP hw hK hc i pins s σ H E I hf st hg
  subst hP hw hK
  obtain⟨f0,f1,f2,f3,f4,f5⟩:=hf it (by simp)
  have hx:x.cps[i]?=some x.cps[i]:=Array.getElem?_eq_getElem hg
  refine wpAny_pyNext_ascii_item st hx fun h' st' sb=>?_
  have I1:al X pins σ H { s with heap:=h',toks:=s.toks+1 }:=I.turned (t':=s.toks+1) (fun b o hb e=>(sb.2 b hb).trans e) f0 f1 f3 f4 f5
  obtain⟨o,e,c,d⟩:=id st'
  exact⟨_,rfl,qH (s:={ s with heap:=h',toks:=s.toks+1 }) e c d (by decide) ⟨.str ⟨#[x.cps[i]]⟩,H,I1,⟨_,rfl⟩,⟨rfl,_,hx,rfl⟩,st',fun b hb=>(hf b hb).1⟩⟩
 done:=by
  intro X hP hw hK hc i pins s σ H E I hf st hg
  subst hP hw hK
  obtain⟨f0,f1,f2,f3,f4,f5⟩:=hf it (by simp)
  exact wpAny_pyNext_ascii_end (I.ok.hd hc) st (RX hg) fun h' eb=>⟨rfl,I.turned (t':=s.toks) (fun b o hb e=>eb b o hb e) f0 f1 f3 f4 f5⟩
 self:=fun _ _ _ _ _ st h=>wpAny_pyIter_striter_ascii st h
theorem GV(h:ED X ρ e (.str x) k)(ha:(x.cps.all fun c=>decide (c<128))=true):IE X ρ tg e (Ba x) k:=by
 intro ow pins s σ H R I ⟨E,q⟩
 refine aN (h ow pins s σ H _ I ⟨E,fun v H1 s1 r1=>(show(fun v H1=>av H H1/\aj X.K H1 (Kp ow H k) (.str x) v) v H1 from⟨s1,r1⟩)⟩) fun v s1 ⟨y,H1,I1,rel,sm,rp⟩=>?_
 rw[aj]at rp;subst rp
 obtain⟨t,rfl⟩:=rel
 have ty:strIterType x = "str_ascii_iterator" := if_pos ha
 refine wpAny_pyIter_strU ?_
 rw[ty]
 refine⟨s1.heap.objs.size,[s1.heap.objs.size],_,KW x,H1,rfl,I1.kept (t':=s1.toks) fun b o e=>Qy _ e,y8 x t _,⟨_,QH _ rfl,rfl,rfl⟩,fun b hb=>?_,q _ H1 sm fun i H2 st=>⟨fun d hd=>?_,fun hle=>?_⟩⟩
 ·have e:b=s1.heap.objs.size:=by simpa using hb
  subst e
  exact I1.fpOk (QF _) (I1.hok.fresh (QF _))
 ·unfold Ba at hd
  rw[QS]at hd
  cases hc:x.cps.toList[i]? with
  | none=>rw[hc]at hd;cases hd
  | some c =>
   rw[hc]at hd;cases hd
   have hi:i<x.cps.size:=by simpa using (QJ.mp hc).1
   refine⟨hi,fun z H3 ⟨e3,c',e4,e5⟩=>?_⟩
   subst e3 e5
   rw[Array.getElem?_toList]at hc
   rw[hc]at e4;cases e4
   exact⟨av.refl _,by rw[aj]⟩
 ·unfold Ba at hle
  rw[Q0,Array.length_toList]at hle
  exact hle
theorem J9(h:ED X ρ e d k)(hi:items d=some l):IE X ρ tg e l k:=by
 unfold items at hi
 split at hi
 ·cases hi;exact DE h
 ·cases hi;exact GU h
 ·split at hi
  ·rename_i ha;cases hi;exact GV h ha
  ·cases hi
 ·cases hi
theorem zV{j:Int}(hg:Gl X "range")(hm0:X.mg "range" = none)(ha:AD X ρ [a] [.int j] k)(hst:∀y p,a ≠ .Starred y p)(h1:-4611686018427387904<=j)(h2:j<=cG) :
  IE X ρ tg (.Call (.Name "range" p) [a] [] pos) ((List.range j.toNat).map fun i=>.int (i:Nat)) 0:=by
 intro ow pins s σ H R I ⟨E,q⟩
 refine xx (tg:=tg) hg hm0 (ha ow) (by rw[aA hst];rfl) pins s σ H R I ⟨E,fun vs H1 s1 r1=>?_⟩
 obtain⟨v,rfl,rv⟩:=r1.only
 rw[aj]at rv;subst rv
 have hm:(cG:Int)<2 ^ 62:=by decide
 refine⟨j,rfl,h1,by omega,q _ H1 s1 fun i H2 st=>⟨fun d hd=>?_,fun hle=>?_⟩⟩
 ·rw[QS]at hd
  cases e:(List.range j.toNat)[i]? with
  | none=>rw[e]at hd;cases hd
  | some n =>
   rw[e]at hd;cases hd
   obtain⟨hi,hn⟩:=QJ.mp e
   rw[List.getElem_range]at hn
   subst hn
   rw[List.length_range]at hi
   refine⟨hi,fun x H3 ⟨e3,y3⟩=>?_⟩
   subst e3 y3
   exact⟨av.refl _,by rw[aj,Int.zero_add]⟩
 ·rw[Q0,List.length_range]at hle
  exact hle
theorem xW{b:Expr}{j0 j:Int}(hg:Gl X "range")(hm0:X.mg "range" = none)(ha:AD X ρ [a,b] [.int j0,.int j] k)(hst:∀y p,a ≠ .Starred y p)(hst2:∀y p,b ≠ .Starred y p)(h1:-4611686018427387904<=j0)(h2:j0<=4611686018427387000)(h3:-4611686018427387904<=j)(h4:j-j0<=800) :
  IE X ρ tg (.Call (.Name "range" p) [a,b] [] pos) ((List.range (j-j0).toNat).map fun i=>.int (j0+(i:Nat))) 0:=by
 intro ow pins s σ H R I ⟨E,q⟩
 refine xw (tg:=tg) hg hm0 (ha ow) (by rw[aA hst,aA hst2];rfl) (by rw[aA hst2];rfl) pins s σ H R I ⟨E,fun vs H1 s1 r1=>?_⟩
 rw[ah]at r1
 obtain⟨v1,r,rfl,r2,r3⟩:=r1
 rw[ah]at r3
 obtain⟨v2,r',rfl,r4,r5⟩:=r3
 rw[ah]at r5
 rw[aj]at r2 r4
 subst r2 r4 r5
 refine⟨j0,j,rfl,⟨h1,by omega,h3,by omega⟩,q _ H1 s1 fun i H2 st=>⟨fun d hd=>?_,fun hle=>?_⟩⟩
 ·rw[QS]at hd
  cases e:(List.range (j-j0).toNat)[i]? with
  | none=>rw[e]at hd;cases hd
  | some n =>
   rw[e]at hd;cases hd
   obtain⟨hi,hn⟩:=QJ.mp e
   rw[List.getElem_range]at hn
   subst hn
   rw[List.length_range]at hi
   refine⟨hi,fun x H3 ⟨e3,y3⟩=>?_⟩
   subst e3 y3
   exact⟨av.refl _,by rw[aj]⟩
 ·rw[Q0,List.length_range]at hle
  exact hle
theorem xX:nO "range" su:=by
 refine⟨by decide +kernel,fun X ρ p pos args ds k d j l tg o hc hg hm ha hst hlen h hp hl ht=>?_⟩
 unfold su at h
 split at h
 ·rename_i n
  cases h
  cases hl
  match args,hlen,ha,hst with
  | [a],_,ha,hst=>exact zV hg hm ha (hst a QE) hp.1 hp.2.1
 ·rename_i m n
  cases h
  cases hl
  match args,hlen,ha,hst with
  | [a,b],_,ha,hst=>exact xW hg hm ha (hst a QE) (hst b (QB _ QE)) hp.1 hp.2.1 hp.2.2.1 hp.2.2.2.1
 ·cases h
variable{X:Cx}
theorem dl{y:D×Bool}(z:Str):bP ρ x y z=if z=x then some y else ρ z:=rfl
theorem eR{o:Bool}(hN:X.N.Nodup)(hl:σ.length=X.N.length)(E:aF X ow H σ ρ)(hi:X.N[i]?=some x)(hv:fb X.env.scope x)(r:aj X.K H (jq ow x o) d v) :
  aF X ow H (σ.set i (some v)) (bP ρ x (d,o)):=by
 have hil:i<σ.length:=by rw[hl];exact(QJ.mp hi).1
 refine⟨fun y e o' h=>?_,E.own⟩
 rw[dl]at h
 by_cases hy:y=x
 ·subst hy
  rw[if_pos rfl]at h
  cases h
  exact⟨i,v,hi,hv,by rw[RU hil],r⟩
 ·rw[if_neg hy]at h
  obtain⟨j,w,e1,e2,e3,e4⟩:=E.get y e o' h
  have hij:i≠j:=by intro z;subst z;rw[hi]at e1;cases e1;exact hy rfl
  exact⟨j,w,e1,e2,by rw[RC hij];exact e3,e4⟩
theorem fM(G:aO Φ X sc)(h:cS sc x=true):tJ X.env.scope x/\fb X.env.scope x/\(X.fn x=true\/X.env.scope.names.lookup x=some .local)/\∃i:Nat,X.N[i]?=some x:=by
 have hx:=G.ns x h
 have hlt:=List.idxOf_lt_length_iff.mpr hx
 have hi:∃i:Nat,X.N[i]?=some x:=⟨X.N.idxOf x,by rw[QL hlt,Sv hlt]⟩
 unfold cS at h
 rw[Bool.or_eq_true]at h
 rcases h with h|h
 ·have h:=G.lc x (by simpa using h)
  exact⟨.inl h,.inl h,.inr h,hi⟩
 ·have h0:sc.names.lookup x=some .cell:=by simpa using h
  have h:=G.cc x h0
  exact⟨.inr h,.inr (.inl h),.inl (G.ft x h0),hi⟩
theorem j8{Φ:Fx}{sc:Scope}(G:aO Φ X sc):∀{es:List Expr} {ds:List D} {ρ ρ':ag},aX sc es ds ρ=some ρ'->∃t,uZ X es t/\(assignEach es X.env).length=ds.length/\(assignEach es X.env).findIdx? (·.1)=none /\
  ∀(ow:Ow) (vs:List V) (σ:L2.St) (H:Hp) (Q:L2.St->Hp->Prop),σ.length=X.N.length->aF X ow H σ ρ->ah X.K H (fun a b=>b=true->ow a=none) ds vs->(∀σ',σ'.length=X.N.length->aF X ow H σ' ρ'->Q σ' H)->t vs σ H Q
 | [],[],ρ,ρ',h=>by
  rw[aX]at h;cases h
  refine⟨_,n9,rfl,rfl,fun ow vs σ H Q hl E r q=>?_⟩
  rw[ah]at r
  exact⟨r,q σ hl E⟩
 | .Name x p::es,d::ds,ρ,ρ',h=>by
  rw[aX]at h
  split at h
  ·rename_i hx
   obtain⟨t,h1,h2,h3,h4⟩:=j8 G h
   obtain⟨g1,g2,g3,i,g4⟩:=fM G hx
   refine⟨_,hX (jc (i:=i) G.nd g4 g1 g3) h1 rfl,?_,?_,fun ow vs σ H Q hl E r q=>?_⟩
   ·show(assignEach es X.env).length+1=ds.length+1
    rw[h2]
   ·show List.findIdx? (·.1) ((false,_)::assignEach es X.env)=none
    rw[List.findIdx?_cons,h3];rfl
   ·rw[ah]at r
    obtain⟨v,vr,rfl,r1,r2⟩:=r
    refine⟨v,vr,rfl,?_⟩
    exact h4 ow vr _ H Q (by rw[Rh];exact hl) (eR G.nd hl E g4 g2 r1) r2 q
  ·cases h
 | [],_::_,ρ,ρ',h=>by simp[aX]at h
 | .Name _ _::_,[],ρ,ρ',h=>by simp[aX]at h
 | .BoolOp .. :: _,ds,ρ,ρ',h=>by cases ds<;>simp[aX]at h
 | .NamedExpr .. :: _,ds,ρ,ρ',h=>by cases ds<;>simp[aX]at h
 | .BinOp .. :: _,ds,ρ,ρ',h=>by cases ds<;>simp[aX]at h
 | .UnaryOp .. :: _,ds,ρ,ρ',h=>by cases ds<;>simp[aX]at h
 | .Lambda .. :: _,ds,ρ,ρ',h=>by cases ds<;>simp[aX]at h
 | .IfExp .. :: _,ds,ρ,ρ',h=>by cases ds<;>simp[aX]at h
 | .Dict .. :: _,ds,ρ,ρ',h=>by cases ds<;>simp[aX]at h
 | .Set .. :: _,ds,ρ,ρ',h=>by cases ds<;>simp[aX]at h
 | .ListComp .. :: _,ds,ρ,ρ',h=>by cases ds<;>simp[aX]at h
 | .SetComp .. :: _,ds,ρ,ρ',h=>by cases ds<;>simp[aX]at h
 | .DictComp .. :: _,ds,ρ,ρ',h=>by cases ds<;>simp[aX]at h
 | .GeneratorExp .. :: _,ds,ρ,ρ',h=>by cases ds<;>simp[aX]at h
 | .Await .. :: _,ds,ρ,ρ',h=>by cases ds<;>simp[aX]at h
 | .Yield .. :: _,ds,ρ,ρ',h=>by cases ds<;>simp[aX]at h
 | .YieldFrom .. :: _,ds,ρ,ρ',h=>by cases ds<;>simp[aX]at h
 | .Compare .. :: _,ds,ρ,ρ',h=>by cases ds<;>simp[aX]at h
 | .Call .. :: _,ds,ρ,ρ',h=>by cases ds<;>simp[aX]at h
 | .FormattedValue .. :: _,ds,ρ,ρ',h=>by cases ds<;>simp[aX]at h
 | .JoinedStr .. :: _,ds,ρ,ρ',h=>by cases ds<;>simp[aX]at h
 | .Constant .. :: _,ds,ρ,ρ',h=>by cases ds<;>simp[aX]at h
 | .Attribute .. :: _,ds,ρ,ρ',h=>by cases ds<;>simp[aX]at h
 | .Subscript .. :: _,ds,ρ,ρ',h=>by cases ds<;>simp[aX]at h
 | .Starred .. :: _,ds,ρ,ρ',h=>by cases ds<;>simp[aX]at h
 | .List .. :: _,ds,ρ,ρ',h=>by cases ds<;>simp[aX]at h
 | .Tuple .. :: _,ds,ρ,ρ',h=>by cases ds<;>simp[aX]at h
 | .Slice .. :: _,ds,ρ,ρ',h=>by cases ds<;>simp[aX]at h
theorem mY(G:aO Φ X sc)(h:bY sc tg d ρ=some ρ'):GD X ρ tg d ρ':=by
 unfold bY at h
 split at h
 ·split at h
  ·rename_i x p hx
   cases h
   obtain⟨g1,g2,g3,i,g4⟩:=fM G hx
   exact⟨_,jc (i:=i) G.nd g4 g1 g3,fun ow v σ H Q hl E r q=>q _ (by rw[Rh];exact hl) (eR G.nd hl E g4 g2 r)⟩
  ·cases h
 ·split at h
  ·obtain⟨t,h1,h2,h3,h4⟩:=j8 G h
   refine⟨_,mJ (n:=_) G.calm h1 h2 h3,fun ow v σ H Q hl E r q=>?_⟩
   obtain⟨a,vs,rfl,hs,rl⟩:=ej r
   exact⟨a,vs,rfl,hs,rl.length.symm,h4 ow vs σ H Q hl E rl q⟩
  ·cases h
 ·cases h
theorem vc{Q:Bool->Shared->Prop}
  (h:wpAny M A (isTrue c env (eval c env)) (fun b s'=>if b=true then wpAny M A (ip cs env) Q E s' else Q false s') E s):wpAny M A (ip (c::cs) env) Q E s:=by
 have no:∀(l:List Expr) (s:Shared),Q false s->wpAny M A (forIn l false fun c r=>if r=true then do let ok <- isTrue c env (eval c env);pure (ForInStep.yield ok)else pure (ForInStep.yield r)) Q E s:=by
  intro l
  induction l with
  | nil=>intro s h;exact Qz h
  | cons x l ih =>
   intro s h
   rw[Su]
   simp only[Bool.false_eq_true,if_false]
   exact Qx (Qz (ih s h))
 unfold ip
 rw[Su]
 simp only[SJ]
 refine Qx (Qx (Rq h (fun b s' hb=>Qz ?_) fun _ _ x=>x))
 cases b with
 | true=>exact hb
 | false=>exact no cs s' hb
theorem wT:yP X ρ [] true:=fun ow pins s σ H Q I ⟨E,q⟩=>Qz ⟨H,I,q H (av.refl _)⟩
theorem nV{b':Bool}(h:TD X ρ c b)(h':if b=true then yP X ρ cs b' else b'=false):yP X ρ (c::cs) b':=by
 intro ow pins s σ H Q I ⟨E,q⟩
 refine vc (aN (h ow pins s σ H (fun t H1=>t=b/\av H H1) I ⟨E,fun H1 s1=>⟨rfl,s1⟩⟩) fun t s1 ⟨H1,I1,e,sm⟩=>?_)
 subst e
 cases t with
 | true =>
  rw[if_pos rfl]at h' ⊢
  exact h' ow pins s1 σ H1 Q I1 ⟨E.same sm,fun H2 s2=>q H2 (sm.trans s2)⟩
 | false =>
  rw[if_neg QP]at h' ⊢
  subst h'
  exact⟨H1,I1,q H1 sm⟩
variable{X:Cx}
structure fJ(X:Cx)(ρ:ag)(e:Expr)(it:Bool)(d:D)(k:Nat):Prop where
 ed:it=false->ED X ρ e d k
 td:it=false->∀b,d=.bl b->TD X ρ e b
 ie:it=true->∀tg l,items d=some l->fy e tg=true->IE X ρ tg e l k
theorem fJ.of(h:ED X ρ e d k)(t:∀b,d=.bl b->TD X ρ e b):fJ X ρ e it d k:=⟨fun _=>h,fun _=>t,fun _ tg l hi _=>J9 h hi⟩
theorem eQ{r:D×Nat}{l:List Prop}(h:aC Φ e it sc ρ=.ok r l):∀x p,e ≠ .Starred x p:=by
 intro x p z;subst z;cases h
theorem cf{Φ:Fx}{sc:Scope}{ρ:ag}:∀{es:List Expr} {r:List D×Nat} {l:List Prop},bK Φ es sc ρ=.ok r l->aH l->(∀e∈es,∀x p,e ≠ .Starred x p)/\es.length=r.1.length
 | [],r,l,h,_=>by cases h;exact⟨fun e he=>(by cases he),rfl⟩
 | e::es,r,l,h,hp=>by
  obtain⟨p,l1,l2,h1,p1,h,p2⟩:=aR h hp
  obtain⟨q,l3,l4,h2,p3,h,p4⟩:=aR h p2
  cases h
  obtain⟨i1,i2⟩:=cf h2 p3
  refine⟨fun e' he=>?_,by rw[Ri,Ri,i2]⟩
  rcases QA.mp he with rfl|he
  ·exact eQ h1
  ·exact i1 e' he
theorem JV:kn d k=0\/kn d k=k:=by
 unfold kn;split
 ·exact .inl rfl
 ·exact .inr rfl
theorem yD(h:nF sc scope=true):scope.kind=.function/\(∀y∈scope.names,y.2=.local->scope.names.lookup y.1=some .local) /\
  (∀y∈scope.names,y.2=.free->sc.names.lookup y.1=some .cell\/sc.names.lookup y.1=some .free)/\(scope.names.map (·.1)).Nodup:=by
 unfold nF at h
 simp only[QN,RN,decide_eq_true_eq,Bool.or_eq_true]at h
 obtain⟨⟨⟨h1,h3⟩,h4⟩,h5⟩:=h
 refine⟨h1,fun y hy e=>(h3 y hy).resolve_left (fun z=>z e),fun y hy e=>?_,h5⟩
 rcases h4 y hy with(q|q)|q
 ·exact absurd e q
 ·exact .inl q.2
 ·exact .inr q
theorem dw{env:Env}:∀{names:List (Str×NameKind)} {x:Str} {k0:NameKind},k0 ≠ .free->names.lookup x=some k0 ->
  (names.map fun(n,k)=>if (k==NameKind.free&&env.scope.kind == .function&&env.kindOf n==some .cell)then(n,NameKind.cell)else(n,k)).lookup x=some k0
 | [],_,_,_,h=>by simp at h
 | (n,k)::r,x,k0,hk,h=>by
  have ih:=@dw env r x k0 hk
  show List.lookup x ((if (k==NameKind.free&&env.scope.kind == .function&&env.kindOf n==some .cell)=true then(n,NameKind.cell)else(n,k))::_)=_
  cases hx:x==n with
  | true =>
   simp only[QO,hx]at h
   cases h
   have:(k==NameKind.free)=false:=by simpa using hk
   simp[QO,hx,this]
  | false =>
   simp only[QO,hx]at h
   by_cases hc:(k==NameKind.free&&env.scope.kind == .function&&env.kindOf n==some .cell)=true
   ·rw[if_pos hc];simp only[QO,hx];exact ih h
   ·rw[if_neg hc];simp only[QO,hx];exact ih h
theorem mP{names:List (Str×NameKind)}:∀{x:Str} {k:NameKind},names.lookup x=some k->x∈names.map (·.1):=fun {x k} h=>SI.mpr ⟨_,QR h,rfl⟩
theorem DH{C:Addr}(G:aO Φ X sc)(h:nF sc scope=true):aO Φ (ku X scope cl C (scope.names.map (·.1)) s H fp) scope:=by
 obtain⟨h1,h3,h4,h5⟩:=yD h
 refine⟨G.calm,h5,fun x hx=>?_,fun x hx=>?_,fun x hx=>lookup_relabel_local hx,fun x hx=>dw (by decide) hx,fun g F hg=>G.fn g F hg,G.con,G.blt,G.itr,G.mth,G.mtt,G.slf,G.fld,G.omt,G.bl,G.room,fun x hx=>?_,fun x hx=>RZ hx⟩
 ·exact dw (by decide) hx
 ·rcases hx with hx|hx
  ·exact .inl (dw (by decide) hx)
  ·exact dy hx
 ·unfold cS at hx
  rw[Bool.or_eq_true]at hx
  rcases hx with hx|hx<;>exact mP (by simpa using hx)
theorem yh(G:aO Φ X sc)(h:nF sc scope=true):gG X.env scope (scope.names.map (·.1)):=by
 obtain⟨h1,h3,h4,h5⟩:=yD h
 exact⟨h1,h5,h3,h5,fun n hn=>G.kc n (h4 (n,.free) hn rfl)⟩
theorem JW:∀{a b:Nat},kj a b<=1->a<=kj a b/\b<=kj a b
 | 0,0,_=>by decide
 | 0,1,_=>by decide
 | 0,2,h=>absurd h (by decide)
 | 0,_+3,h=>by rw[kj]at h;omega
 | 1,0,_=>by decide
 | 1,1,_=>by decide
 | 1,2,h=>absurd h (by decide)
 | 1,_+3,h=>absurd h (by rw[kj]<;>simp)
 | 2,0,h=>absurd h (by decide)
 | 2,1,h=>absurd h (by decide)
 | 2,2,h=>absurd h (by decide)
 | 2,_+3,h=>absurd h (by rw[kj]<;>simp)
 | _+3,0,h=>by rw[kj]at h<;>simp_all<;>omega
 | _+3,1,h=>absurd h (by rw[kj]<;>simp)
 | _+3,2,h=>absurd h (by rw[kj]<;>simp)
 | _+3,_+3,h=>absurd h (by rw[kj]<;>simp)
theorem Kp.up(o:fe ow H){a:Addr}:∀{i j:Nat},i<=j->j<=1->Kp ow H i a b->Kp ow H j a b
 | 0,0,_,_,p=>p
 | 0,1,_,_,p=>fun _=>o.free p.2
 | 1,1,_,_,p=>p
 | 1,0,h,_,_=>absurd h (by omega)
 | _+2,_,h,g,_=>absurd h (by omega)
 | 0,_+2,_,g,_=>absurd g (by omega)
 | 1,_+2,_,g,_=>absurd g (by omega)
theorem ED.up(h:ED X ρ e d i)(h1:i<=j)(h2:j<=1):ED X ρ e d j:=fun ow=>bF (h ow) fun σ H Q ⟨E,q⟩=>⟨E,fun v H' s r=>q v H' s (r.imp fun a b p=>Kp.up E.own h1 h2 p)⟩
def qD(step:D->Rs (Option (D×Nat)))(d:D):Option D:=match step d with | .ok (some p) _=>some p.1|_=>none
theorem sN{step:D->Rs (Option (D×Nat))}:∀{ds:List D} {r:List D×Nat} {l:List Prop},gk step ds=.ok r l->aH l ->
  (∀d∈ds,∃r l,step d=.ok r l/\aH l)/\r.1=ds.filterMap (qD step)/\(r.2<=1->∀d∈ds,∀p l,step d=.ok (some p) l->p.2<=r.2)
 | [],r,l,h,_=>by
  cases h
  exact⟨fun d hd=>(by cases hd),rfl,fun _ d hd=>(by cases hd)⟩
 | d::ds,r,l,h,hp=>by
  obtain⟨x,l1,l2,h1,p1,h,p2⟩:=aR h hp
  obtain⟨q,l3,l4,h2,p3,h,p4⟩:=aR h p2
  obtain⟨i1,i2,i3⟩:=sN h2 p3
  have i1':∀y∈d::ds,∃r l,step y=.ok r l/\aH l:=fun y hy=>by
   rcases QA.mp hy with rfl|hy
   ·exact⟨_,_,h1,p1⟩
   ·exact i1 y hy
  cases x with
  | none =>
   cases h
   refine⟨i1',?_,fun hj x hx y i e=>?_⟩
   ·rw[List.filterMap_cons_none (by unfold qD;rw[h1])];exact i2
   ·rcases QA.mp hx with rfl|hx
    ·rw[h1]at e;cases e
    ·exact i3 hj x hx y i e
  | some p =>
   cases h
   refine⟨i1',?_,fun hj x hx y i e=>?_⟩
   ·rw[List.filterMap_cons_some (by unfold qD;rw[h1]),i2]
   ·obtain⟨a1,a2⟩:=JW hj
    rcases QA.mp hx with rfl|hx
    ·rw[h1]at e;cases e;exact a1
    ·exact QD (i3 (QD a2 hj) x hx y i e) a2
theorem bW(h:ED X ρ e d k)(he:∀whole,isTrue e X.env whole=(do let v <- whole;standAt e.pos;holding [v] (truthy v))):fJ X ρ e it d k:=.of h fun b hb=>by subst hb;exact Jc h he
theorem EL{b:Expr}{x:D}(hu:X.A.units+70<cLine)(ha:ED X ρ a x k)(hb:ED X ρ b y j)(h:lY op x y=.ok r o)(hp:aH o)(hm:behindInMarks op b=false):TD X ρ (.Compare a [op] [b] pos) r:=by
 have c:=jh (X:=X) hu h hp
 intro ow pins s σ H Q I ⟨E,q⟩
 refine wpAny_isTrue_Compare1 (KP (ha ow) (hb ow) I (R:=fun v u H2=>av H H2/\aj X.K H2 (fun _ _=>True) x v/\aj X.K H2 (fun _ _=>True) y u) ⟨E,fun v H1 s1 r1=>⟨E.same s1,fun u H2 s2 r2=>⟨s1.trans s2,(r1.imp fun _ _ _=>True.intro).same s2,r2.imp fun _ _ _=>True.intro⟩⟩⟩ fun v u s2 x y H2 I2 rx ry ⟨sm,r1,r2⟩=>?_) hm
 refine aN (c _ _ pins s2 σ H2 x y v u (fun w H'=>w=.bl r/\H2=H') I2 rx ry ⟨r1,r2,rfl,rfl⟩) fun u' s3 ⟨w,H3,I3,r3,e1,e2⟩=>?_
 subst e1 e2
 cases (show u'=Value.bool r from r3)
 exact Rx ⟨H2,I3,q H2 sm⟩
theorem za{b:Expr}{x y z:Int}(hu:X.A.units+70<cLine)(ha:ED X ρ a (.int x) k)(hb:ED X ρ b (.int y) j)(hc:ED X ρ c (.int z) i)(h:ge op x y=some r)(h2:ge op2 y z=some r2)(hm:behindInMarks op2 c=false):TD X ρ (.Compare a [op,op2] [b,c] pos) (r&&r2):=by
 have c1:=jh (X:=X) hu (nC h) (show aH []from True.intro)
 have c2:=jh (X:=X) hu (nC h2) (show aH []from True.intro)
 refine fun ow=>wt (zr (c1 (fun _ _=>True) (fun _ _=>True)) (c2 (fun _ _=>True) (fun _ _=>True)) (ha ow) (hb ow) (hc ow) hm) fun σ H Q ⟨E,q⟩=>⟨E,fun v H1 s1 r1=>⟨E.same s1,fun u H2 s2 r2=>?_⟩⟩
 rw[aj]at r1 r2
 subst r1 r2
 refine⟨by rw[aj],by rw[aj],r,rfl,?_⟩
 cases r with
 | false=>exact⟨false,rfl,q H2 (s1.trans s2)⟩
 | true =>
  rw[if_pos rfl]
  refine⟨(E.same s1).same s2,fun w H3 s3 r3=>?_⟩
  rw[aj]at r3
  subst r3
  exact⟨by rw[aj],by rw[aj],_,rfl,q H3 ((s1.trans s2).trans s3)⟩
theorem EK(h:TD X ρ a b):TD X ρ (.UnaryOp .Not a pos) (!b):=fun ow=>wt (FE (h ow)) fun σ H Q ⟨E,q⟩=>⟨E,fun H1 s1=>q H1 s1⟩
structure dZ(X:Cx)(ρ:ag)(op:BoolOp)(es:List Expr)(b:Bool):Prop where
 ed:es≠[]->∀pos,ED X ρ (.BoolOp op es pos) (.bl b) 0
 tw:es≠[]->∀pos ow,PW X (.BoolOp op es pos) (A5 X ow ρ b)
 ts:op=.And->yP X ρ es b
theorem gm{op:BoolOp}(h:ED X ρ e (.bl b) k)(t:TD X ρ e b):dZ X ρ op [e] b:=by
 have h0:ED X ρ e (.bl b) 0:=by
  have:=h.kn
  rw[show kn (.bl b) k=0 from rfl]at this
  exact this
 refine⟨fun _ pos ow=>FO (h0 ow),fun _ pos ow=>?_,fun _=>nV t (by cases b;rfl;exact wT)⟩
 cases op with
 | And=>exact CU (t ow)
 | Or=>exact FC (t ow)
theorem tV(h:ED X ρ e (.bl true) k)(t:TD X ρ e true)(r:dZ X ρ .And (e2::es) b):dZ X ρ .And (e::e2::es) b:=by
 refine⟨fun _ pos ow=>?_,fun _ pos ow=>?_,fun _=>nV t (by rw[if_pos rfl];exact r.ts rfl)⟩
 ·refine bF (xA (h ow) (r.ed (by simp) pos ow)) fun σ H Q ⟨E,q⟩=>⟨E,fun v H1 s1 r1=>?_⟩
  rw[aj]at r1
  exact⟨true,r1,by rw[if_pos rfl];exact⟨E.same s1,fun w H2 s2 r2=>q w H2 (s1.trans s2) (r2.imp (Kp.back s1 0))⟩⟩
 ·intro wh pins s σ H Q I hq
  exact xr (t ow) (r.tw (by simp) pos ow) wh pins s σ H Q I ⟨hq.1,fun H1 s1=>by dsimp only;rw[if_pos rfl];exact⟨hq.1.same s1,fun H2 s2=>hq.2 H2 (s1.trans s2)⟩⟩
theorem sT(h:ED X ρ e (.bl false) k)(t:TD X ρ e false)(ne:∀pos,∃t,PE X (.BoolOp .And (e2::es) pos) t)(nw:∀pos,∃t,PW X (.BoolOp .And (e2::es) pos) t):dZ X ρ .And (e::e2::es) false:=by
 refine⟨fun _ pos ow=>?_,fun _ pos ow=>?_,fun _=>nV t (by rw[if_neg QP])⟩
 ·obtain⟨t2,h2⟩:=ne pos
  refine bF (xA (h ow) h2) fun σ H Q ⟨E,q⟩=>⟨E,fun v H1 s1 r1=>?_⟩
  rw[aj]at r1
  exact⟨false,r1,by rw[if_neg QP];exact q _ H1 s1 (by rw[aj])⟩
 ·obtain⟨t2,h2⟩:=nw pos
  intro wh pins s σ H Q I hq
  exact xr (t ow) h2 wh pins s σ H Q I ⟨hq.1,fun H1 s1=>by dsimp only;rw[if_neg QP];exact hq.2 H1 s1⟩
theorem wb(h:ED X ρ e (.bl false) k)(t:TD X ρ e false)(r:dZ X ρ .Or (e2::es) b):dZ X ρ .Or (e::e2::es) b:=by
 refine⟨fun _ pos ow=>?_,fun _ pos ow=>?_,fun z=>by cases z⟩
 ·refine bF (Bg (h ow) (r.ed (by simp) pos ow)) fun σ H Q ⟨E,q⟩=>⟨E,fun v H1 s1 r1=>?_⟩
  rw[aj]at r1
  exact⟨false,r1,by rw[if_neg QP];exact⟨E.same s1,fun w H2 s2 r2=>q w H2 (s1.trans s2) (r2.imp (Kp.back s1 0))⟩⟩
 ·intro wh pins s σ H Q I hq
  exact Bf (t ow) (r.tw (by simp) pos ow) wh pins s σ H Q I ⟨hq.1,fun H1 s1=>by dsimp only;rw[if_neg QP];exact⟨hq.1.same s1,fun H2 s2=>hq.2 H2 (s1.trans s2)⟩⟩
theorem tU(h:ED X ρ e (.bl true) k)(t:TD X ρ e true)(ne:∀pos,∃t,PE X (.BoolOp .Or (e2::es) pos) t)(nw:∀pos,∃t,PW X (.BoolOp .Or (e2::es) pos) t):dZ X ρ .Or (e::e2::es) true:=by
 refine⟨fun _ pos ow=>?_,fun _ pos ow=>?_,fun z=>by cases z⟩
 ·obtain⟨t2,h2⟩:=ne pos
  refine bF (Bg (h ow) h2) fun σ H Q ⟨E,q⟩=>⟨E,fun v H1 s1 r1=>?_⟩
  rw[aj]at r1
  exact⟨true,r1,by rw[if_pos rfl];exact q _ H1 s1 (by rw[aj])⟩
 ·obtain⟨t2,h2⟩:=nw pos
  intro wh pins s σ H Q I hq
  exact Bf (t ow) h2 wh pins s σ H Q I ⟨hq.1,fun H1 s1=>by dsimp only;rw[if_pos rfl];exact hq.2 H1 s1⟩
theorem rG:PE X e (fun _ _ _=>False):=fun _ _ _ _ _ _ h=>h.elim
theorem rD:PW X e (fun _ _ _=>False):=fun _ _ _ _ _ _ _ h=>h.elim
theorem BF{b:Expr}{r:D×Nat}{l:List Prop}(h:aC Φ b it sc ρ=.ok r l):behindInMarks op b=false:=by
 cases b<;>first|rfl|cases h
theorem uD{z:Str}(h:cS sc z=true)(hx:sc.names.lookup x=some .free):x≠z:=by
 intro e;subst e
 unfold cS at h
 rw[hx]at h
 revert h;decide
theorem we:∀{es:List Expr} {ds:List D} {ρ ρ':ag},aX sc es ds ρ=some ρ'->∀x y,sc.names.lookup x=some .free->ρ x=some y->ρ' x=some y:=by
 intro es
 induction es with
 | nil =>
  intro ds ρ ρ' h x y hx hl
  cases ds with
  | nil=>rw[aX]at h;cases h;exact hl
  | cons d ds=>cases h
 | cons e es ih =>
  intro ds ρ ρ' h x y hx hl
  cases ds with
  | nil=>cases e<;>cases h
  | cons d ds =>
   cases e with
   | Name z p =>
    rw[aX]at h
    split at h
    ·rename_i hz
     exact ih h x y hx (by rw[dl,if_neg (uD hz hx)];exact hl)
    ·cases h
   | _=>cases h
theorem yF(h:bY sc tg d ρ=some ρ'):∀x y,sc.names.lookup x=some .free->ρ x=some y->ρ' x=some y:=by
 intro x y hx hl
 unfold bY at h
 split at h
 ·split at h
  ·rename_i hz
   cases h
   rw[dl,if_neg (uD hz hx)];exact hl
  ·cases h
 ·split at h
  ·exact we h x y hx hl
  ·cases h
 ·cases h
theorem iO{r:D×Nat}{l:List Prop}(h:aC Φ e it sc ρ=.ok r l)(x:Value):foldedSetIterable e env x=pure x:=by
 cases e<;>first|rfl|cases h
mutual
theorem rR:∀x y:D,oj true x y=x
 | .int _,.int _=>rfl
 | .bl _,.bl _=>rfl
 | .tup l,.tup m=>by
  show(if l.length=m.length then D.tup (kh true l m)else cond true (.tup l) (.tup m))=.tup l
  split
  ·rename_i h;rw[xF l m h]
  ·rfl
 | .non,_=>rfl
 | .str _,_=>rfl
 | .dct _ _,_=>rfl
 | .lst _,_=>rfl
 | .typ _,_=>rfl
 | .sn _,_=>rfl
 | .obj _ _ _,_=>rfl
 | .cls _,_=>rfl
 | .xc _ _,_=>rfl
 | .int _,.non=>rfl
 | .int _,.bl _=>rfl
 | .int _,.str _=>rfl
 | .int _,.dct _ _=>rfl
 | .int _,.typ _=>rfl
 | .int _,.sn _=>rfl
 | .int _,.obj _ _ _=>rfl
 | .int _,.cls _=>rfl
 | .int _,.xc _ _=>rfl
 | .int _,.tup _=>rfl
 | .int _,.lst _=>rfl
 | .bl _,.non=>rfl
 | .bl _,.int _=>rfl
 | .bl _,.str _=>rfl
 | .bl _,.dct _ _=>rfl
 | .bl _,.typ _=>rfl
 | .bl _,.sn _=>rfl
 | .bl _,.obj _ _ _=>rfl
 | .bl _,.cls _=>rfl
 | .bl _,.xc _ _=>rfl
 | .bl _,.tup _=>rfl
 | .bl _,.lst _=>rfl
 | .tup _,.non=>rfl
 | .tup _,.int _=>rfl
 | .tup _,.bl _=>rfl
 | .tup _,.str _=>rfl
 | .tup _,.dct _ _=>rfl
 | .tup _,.typ _=>rfl
 | .tup _,.sn _=>rfl
 | .tup _,.obj _ _ _=>rfl
 | .tup _,.cls _=>rfl
 | .tup _,.xc _ _=>rfl
 | .tup _,.lst _=>rfl
theorem xF:∀l m:List D,l.length=m.length->kh true l m=l
 | [],[],_=>rfl
 | x::l,y::m,h=>by
  show oj true x y::kh true l m=x::l
  rw[rR x y,xF l m (by simpa using h)]
 | [],_::_,h=>by cases h
 | _::_,[],h=>by cases h
end
mutual
theorem rS:∀x y:D,oj false x y=y
 | .int _,.int _=>rfl
 | .bl _,.bl _=>rfl
 | .tup l,.tup m=>by
  show(if l.length=m.length then D.tup (kh false l m)else cond false (.tup l) (.tup m))=.tup m
  split
  ·rename_i h;rw[xG l m h]
  ·rfl
 | .non,_=>rfl
 | .str _,_=>rfl
 | .dct _ _,_=>rfl
 | .lst _,_=>rfl
 | .typ _,_=>rfl
 | .sn _,_=>rfl
 | .obj _ _ _,_=>rfl
 | .cls _,_=>rfl
 | .xc _ _,_=>rfl
 | .int _,.non=>rfl
 | .int _,.bl _=>rfl
 | .int _,.str _=>rfl
 | .int _,.dct _ _=>rfl
 | .int _,.typ _=>rfl
 | .int _,.sn _=>rfl
 | .int _,.obj _ _ _=>rfl
 | .int _,.cls _=>rfl
 | .int _,.xc _ _=>rfl
 | .int _,.tup _=>rfl
 | .int _,.lst _=>rfl
 | .bl _,.non=>rfl
 | .bl _,.int _=>rfl
 | .bl _,.str _=>rfl
 | .bl _,.dct _ _=>rfl
 | .bl _,.typ _=>rfl
 | .bl _,.sn _=>rfl
 | .bl _,.obj _ _ _=>rfl
 | .bl _,.cls _=>rfl
 | .bl _,.xc _ _=>rfl
 | .bl _,.tup _=>rfl
 | .bl _,.lst _=>rfl
 | .tup _,.non=>rfl
 | .tup _,.int _=>rfl
 | .tup _,.bl _=>rfl
 | .tup _,.str _=>rfl
 | .tup _,.dct _ _=>rfl
 | .tup _,.typ _=>rfl
 | .tup _,.sn _=>rfl
 | .tup _,.obj _ _ _=>rfl
 | .tup _,.cls _=>rfl
 | .tup _,.xc _ _=>rfl
 | .tup _,.lst _=>rfl
theorem xG:∀l m:List D,l.length=m.length->kh false l m=m
 | [],[],_=>rfl
 | x::l,y::m,h=>by
  show oj false x y::kh false l m=y::m
  rw[rS x y,xG l m (by simpa using h)]
 | [],_::_,h=>by cases h
 | _::_,[],h=>by cases h
end
theorem Bt:xP true k j=k:=by unfold xP;split<;>rfl
theorem Bu:xP false k j=j:=by
 unfold xP;split
 ·assumption
 ·rfl
theorem uH{r s:R1}{d:D×Nat}{l:List Prop}(h:Bx t r s=.ok d l)(hp:aH l):∃m,(if t=true then r else s)=.ok d m/\aH m:=by
 unfold Bx at h
 split at h
 ·cases t with
  | true=>cases h
  | false=>exact⟨l,h,hp⟩
 ·rename_i p m
  split at h
  ·cases t with
   | true=>exact⟨l,h,hp⟩
   | false=>cases h
  ·rename_i q n
   cases h
   obtain⟨p1,p2⟩:=dJ.mp hp
   cases t with
   | true=>exact⟨m,by rw[rR,Bt];rfl,mZ p1 rfl⟩
   | false=>exact⟨n,by rw[rS,Bu];rfl,mZ p2 rfl⟩
theorem lh{p:D×Nat}{f:Bool->Rs α}{a:α}{l:List Prop}(h:ji p f=.ok a l):∃b,p.1=.bl b/\f b=.ok a l:=by
 unfold ji at h
 split at h
 ·rename_i b e;exact⟨b,e,h⟩
 ·cases h
theorem zS{p:D×Nat}{f:Int->R1}{a:D×Nat}{l:List Prop}(h:ju p f=.ok a l):∃b,p.1=.int b/\f b=.ok a l:=by
 unfold ju at h
 split at h
 ·rename_i b e;exact⟨b,e,h⟩
 ·cases h
structure Ih(Φ:Fx)(n:Nat):Prop where
 e:∀(e:Expr) {it:Bool} {sc:Scope} {ρ:ag} {p:D×Nat} {l:List Prop} {X:Cx},sizeOf e<n->aC Φ e it sc ρ=.ok p l->aH l->aO Φ X sc->fJ X ρ e it p.1 p.2
 es:∀(es:List Expr) {sc:Scope} {ρ:ag} {p:List D×Nat} {l:List Prop} {X:Cx},sizeOf es<n->bK Φ es sc ρ=.ok p l->aH l->aO Φ X sc->AD X ρ es p.1 p.2
 b:∀(op:BoolOp) (es:List Expr) {sc:Scope} {ρ:ag} {b:Bool} {l:List Prop} {X:Cx},sizeOf es<n->eZ Φ op es sc ρ=.ok b l->aH l->aO Φ X sc->dZ X ρ op es b
 o:∀(e:Option Expr) {sc:Scope} {ρ:ag} {o:Option Int} {l:List Prop} {X:Cx},sizeOf e<n->pN Φ e sc ρ=.ok o l->aH l->aO Φ X sc->OD X ρ e o
theorem bo{a b:Nat}(h:a<b)(hs:b<n+1):a<n:=QG h (Nat.le_of_lt_succ hs)
section
variable{Φ:Fx}{n:Nat}{it:Bool}{sc:Scope}{ρ:ag}{r:D×Nat}{l:List Prop}{X:Cx}
theorem Cq(h:js Φ x sc ρ=.ok r l)(G:aO Φ X sc):fJ X ρ (.Name x pos) it r.1 r.2:=by
 unfold js at h
 split at h
 ·rename_i hx
  split at h
  ·rename_i hg
   split at h
   ·rename_i d hd;cases h;exact bW (Hv G hd hg hx) (fun _=>rfl)
   ·split at h
    ·rename_i T hT;cases h;exact bW (Hq G hT hg) (fun _=>rfl)
    ·cases h
  ·split at h
   ·rename_i p hl
    unfold mk at h;cases h
    exact bW (uO (o:=p.2) hl hx) (fun _=>rfl)
   ·cases h
 ·cases h
theorem EY(I:Ih Φ n){b:Expr}{op:Operator}(hs:sizeOf (Expr.BinOp a op b pos)<n+1)(h:aC Φ (.BinOp a op b pos) it sc ρ=.ok r l)(hp:aH l)(G:aO Φ X sc):fJ X ρ (.BinOp a op b pos) it r.1 r.2:=by
 obtain⟨p,l1,l2,h1,p1,h,p2⟩:=aR (show Rs.bnd _ _=_ from h) hp
 obtain⟨q,l3,l4,h2,p3,h,p4⟩:=aR h p2
 exact bW (Hy ((I.e a (bo (by simp<;>omega) hs) h1 p1 G).ed rfl) ((I.e b (bo (by simp<;>omega) hs) h2 p3 G).ed rfl) h p4) (fun _=>rfl)
theorem Jm(I:Ih Φ n){op:UnaryOp}(hs:sizeOf (Expr.UnaryOp op a pos)<n+1)(h:aC Φ (.UnaryOp op a pos) it sc ρ=.ok r l)(hp:aH l)(G:aO Φ X sc):fJ X ρ (.UnaryOp op a pos) it r.1 r.2:=by
 obtain⟨p,l1,l2,h1,p1,h,p2⟩:=aR (show Rs.bnd _ _=_ from h) hp
 split at h
 ·rename_i z hu
  cases h
  have c:=I.e a (bo (by simp<;>omega) hs) h1 p1 G
  refine .of (Kl (c.ed rfl) hu) fun b hb=>?_
  have hb:z=.bl b:=hb
  subst hb
  unfold A2 at hu
  split at hu
  ·cases hu
  ·rename_i e;cases hu;exact EK (c.td rfl _ e)
  ·cases hu
 ·cases h
theorem EW(I:Ih Φ n){b:Expr}(hs:sizeOf (Expr.Compare a [op] [b] pos)<n+1)(h:aC Φ (.Compare a [op] [b] pos) it sc ρ=.ok r l)(hp:aH l)(G:aO Φ X sc):fJ X ρ (.Compare a [op] [b] pos) it r.1 r.2:=by
 obtain⟨p,l1,l2,h1,p1,h,p2⟩:=aR (show Rs.bnd _ _=_ from h) hp
 obtain⟨q,l3,l4,h2,p3,h,p4⟩:=aR h p2
 obtain⟨z,l5,l6,hc,p5,h,p6⟩:=aR h p4
 cases h
 have ca:=(I.e a (bo (by simp<;>omega) hs) h1 p1 G).ed rfl
 have cb:=(I.e b (bo (by simp<;>omega) hs) h2 p3 G).ed rfl
 exact .of (Hw G.room ca cb hc p5 (BF h2)) fun b' hb'=>by cases hb';exact EL G.room ca cb hc p5 (BF h2)
theorem zc(I:Ih Φ n){b:Expr}(hs:sizeOf (Expr.Compare a [op,op2] [b,c] pos)<n+1)(h:aC Φ (.Compare a [op,op2] [b,c] pos) it sc ρ=.ok r l)(hp:aH l)(G:aO Φ X sc):fJ X ρ (.Compare a [op,op2] [b,c] pos) it r.1 r.2:=by
 obtain⟨p,l1,l2,h1,p1,h,p2⟩:=aR (show Rs.bnd _ _=_ from h) hp
 obtain⟨q,l3,l4,h2,p3,h,p4⟩:=aR h p2
 obtain⟨t,l5,l6,h3,p5,h,p6⟩:=aR h p4
 obtain⟨x,y,z,r1,r2,e1,e2,e3,k1,k2,rfl⟩:=Ef h
 have ca:=(I.e a (bo (by simp<;>omega) hs) h1 p1 G).ed rfl
 have cb:=(I.e b (bo (by simp<;>omega) hs) h2 p3 G).ed rfl
 have cc:=(I.e c (bo (by simp<;>omega) hs) h3 p5 G).ed rfl
 rw[e1]at ca
 rw[e2]at cb
 rw[e3]at cc
 exact .of (Ae G.room ca cb cc k1 k2 (BF h3)) fun b' hb'=>by cases hb';exact za G.room ca cb cc k1 k2 (BF h3)
theorem Jn(I:Ih Φ n){b:Expr}(hs:sizeOf (Expr.IfExp c a b pos)<n+1)(h:aC Φ (.IfExp c a b pos) it sc ρ=.ok r l)(hp:aH l)(G:aO Φ X sc):fJ X ρ (.IfExp c a b pos) it r.1 r.2:=by
 obtain⟨p,l1,l2,h1,p1,h,p2⟩:=aR (show Rs.bnd _ _=_ from h) hp
 obtain⟨t,ht,h⟩:=lh h
 obtain⟨m,he,hm⟩:=uH h p2
 have hc:=(I.e c (bo (by simp<;>omega) hs) h1 p1 G).td rfl t ht
 cases t with
 | true =>
  rw[if_pos rfl]at he
  have ha:=I.e a (bo (by simp<;>omega) hs) he hm G
  refine .of (BB hc (by rw[if_pos rfl];exact ha.ed rfl)) fun b' hb'=>?_
  intro ow pins s σ H Q I ⟨E,q⟩
  refine isTrue_IfExp (aN (hc ow pins s σ H (fun t H1=>t=true/\av H H1) I ⟨E,fun H1 s1=>⟨rfl,s1⟩⟩) fun t s1 ⟨H1,I1,e1,s1'⟩=>?_)
  subst e1
  exact ha.td rfl b' hb' ow pins s1 σ H1 Q I1 ⟨E.same s1',fun H2 s2=>q H2 (s1'.trans s2)⟩
 | false =>
  rw[if_neg QP]at he
  have hb:=I.e b (bo (by simp<;>omega) hs) he hm G
  refine .of (BB hc (by rw[if_neg QP];exact hb.ed rfl)) fun b' hb'=>?_
  intro ow pins s σ H Q I ⟨E,q⟩
  refine isTrue_IfExp (aN (hc ow pins s σ H (fun t H1=>t=false/\av H H1) I ⟨E,fun H1 s1=>⟨rfl,s1⟩⟩) fun t s1 ⟨H1,I1,e1,s1'⟩=>?_)
  subst e1
  exact hb.td rfl b' hb' ow pins s1 σ H1 Q I1 ⟨E.same s1',fun H2 s2=>q H2 (s1'.trans s2)⟩
theorem mI{r:D×Nat}{l:List Prop}(h:aC Φ e it sc ρ=.ok r l):eY e:=by
 cases e<;>first|(intro _ _;rfl)|cases h
theorem A9(I:Ih Φ n){i:Expr}(hs:sizeOf (Expr.Subscript a i pos)<n+1)(h:((aC Φ a false sc ρ).bnd fun p=>(aC Φ i false sc ρ).bnd fun q=>lK p q)=.ok r l)(hp:aH l)(G:aO Φ X sc):fJ X ρ (.Subscript a i pos) it r.1 r.2:=by
 obtain⟨p,l1,l2,h1,p1,h,p2⟩:=aR h hp
 obtain⟨q,l3,l4,h2,p3,h,p4⟩:=aR h p2
 exact bW (Hr ((I.e a (bo (by simp<;>omega) hs) h1 p1 G).ed rfl) ((I.e i (bo (by simp<;>omega) hs) h2 p3 G).ed rfl) (mI h2) h) (fun _=>rfl)
theorem zb(I:Ih Φ n)(hs:sizeOf (Expr.Subscript a (.Slice lo hi none p2) pos)<n+1)(h:aC Φ (.Subscript a (.Slice lo hi none p2) pos) it sc ρ=.ok r l)(hp:aH l)(G:aO Φ X sc):fJ X ρ (.Subscript a (.Slice lo hi none p2) pos) it r.1 r.2:=by
 obtain⟨p,l1,l2,h1,p1,h,q2⟩:=aR (show Rs.bnd _ _=_ from h) hp
 obtain⟨q,l3,l4,h2,p3,h,p4⟩:=aR h q2
 obtain⟨q',l5,l6,h3,p5,h,p6⟩:=aR h p4
 exact bW (G.slf X ρ a lo hi p2 pos p.1 r.1 q q' p.2 r.2 l6 ((I.e a (bo (by simp<;>omega) hs) h1 p1 G).ed rfl) (I.o lo (bo (by simp<;>omega) hs) h2 p3 G) (I.o hi (bo (by simp<;>omega) hs) h3 p5 G) h p6) (fun _=>rfl)
theorem EV(I:Ih Φ n){i:Expr}(hs:sizeOf (Expr.Subscript a i pos)<n+1)(h:aC Φ (.Subscript a i pos) it sc ρ=.ok r l)(hp:aH l)(G:aO Φ X sc):fJ X ρ (.Subscript a i pos) it r.1 r.2:=by
 cases i with
 | Slice lo hi st p2 =>
  cases st with
  | none=>exact zb I hs h hp G
  | some e=>exact A9 I hs h hp G
 | _=>exact A9 I hs h hp G
theorem Cr(I:Ih Φ n)(hs:sizeOf args<n)(hf:sc.names.lookup f=some .globalImplicit)(h0:((bK Φ args sc ρ).bnd fun p=>lg Φ f it p.1 p.2)=.ok r l)(hp:aH l)(G:aO Φ X sc):fJ X ρ (.Call (.Name f p) args [] pos) it r.1 r.2:=by
 obtain⟨q,l1,l2,h1,p1,h,p2⟩:=aR h0 hp
 clear h0
 have ha:=I.es args hs h1 p1 G
 obtain⟨hst,hlen⟩:=cf h1 p1
 unfold lg at h
 split at h
 ·rename_i F hF
  obtain⟨d,l3,l4,h2,p3,h,p4⟩:=aR h p2
  cases h
  exact bW (Ea G hF hf ha hst (fun z=>by subst z;exact R9.mp hlen.symm) h2 p3) (fun _=>rfl)
 ·split at h
  ·rename_i B hB
   split at hB
   ·rename_i hit
    have hI:=G.itr f B hB
    refine⟨fun z=>(by rw[hit]at z;cases z),fun z=>(by rw[hit]at z;cases z),fun _ tg l' hl ht=>?_⟩
    exact hI.2 X ρ p pos args q.1 q.2 r.1 r.2 l' tg l2 G.calm (G.gl f hf) (G.bl f hI.1) ha hst hlen h p2 hl ht
   ·cases hB
  ·split at h
   ·rename_i B hB
    have hb:=G.blt f B hB
    cases args with
    | nil =>
     have e0:q.1=[]:=R9.mp hlen.symm
     rw[e0,hb.2.2.2.1]at h;cases h
    | cons e es=>exact bW (Hx G hb hf ha hst h p2) (fun _=>rfl)
   ·cases h
theorem zd(I:Ih Φ n)(hs:sizeOf (Expr.Call (.Name f p) args [] pos)<n+1)(h:aC Φ (.Call (.Name f p) args [] pos) it sc ρ=.ok r l)(hp:aH l)(G:aO Φ X sc):fJ X ρ (.Call (.Name f p) args [] pos) it r.1 r.2:=by
 rw[jB]at h
 split at h
 ·rename_i hf
  exact Cr I (bo (by simp<;>omega) hs) hf h hp G
 ·cases h
theorem ze(I:Ih Φ n)(hs:sizeOf (Expr.Call (.Attribute a m ap) args [] pos)<n+1)(h:aC Φ (.Call (.Attribute a m ap) args [] pos) it sc ρ=.ok r l)(hp:aH l)(G:aO Φ X sc):fJ X ρ (.Call (.Attribute a m ap) args [] pos) it r.1 r.2:=by
 rw[sJ]at h
 split at h
 ·rename_i hln
  obtain⟨p,l1,l2,h1,p1,h,p2⟩:=aR h hp
  obtain⟨q,l3,l4,h2,p3,h,p4⟩:=aR h p2
  obtain⟨hst,hlen⟩:=cf h2 p3
  have hea:=(I.e a (bo (by simp<;>omega) hs) h1 p1 G).ed rfl
  have hes:=I.es args (bo (by simp<;>omega) hs) h2 p3 G
  obtain⟨x,kx⟩:=p
  unfold zG at h
  dsimp only at h hea
  split at h
  ·rename_i n ns es
   split at h
   ·rename_i hc
    split at h
    ·rename_i F hF
     obtain⟨d,l5,l6,h3,p5,h,p6⟩:=aR h p4
     cases h
     exact bW (D4 G hF hea hes hst hlen hc.1 hc.2.1 hc.2.2 hln h3 p5) (fun _=>rfl)
    ·cases h
   ·cases h
  ·split at h
   ·rename_i hb
    split at h
    ·rename_i M hM
     exact bW (G.mth m M hM X ρ a args ap pos x kx q.1 q.2 r.1 r.2 l4 G.calm G.room hea hes hst hlen hln hb h p4) (fun _=>rfl)
    ·cases h
   ·cases h
 ·cases h
theorem turn_of{q:List D×Nat}{m:List Prop}(hE:∀{ρ:ag} {p:D×Nat} {l:List Prop} {X:Cx},aC Φ elt false scope ρ=.ok p l->aH l->aO Φ X scope->fJ X ρ elt false p.1 p.2)
    (hB:∀{ρ:ag} {b:Bool} {l:List Prop} {X:Cx},eZ Φ .And ifs scope ρ=.ok b l->aH l->aO Φ X scope->dZ X ρ .And ifs b) (hc:nF sc scope=true) (G:aO Φ X sc)
    (h:gk (fun d=>match bY scope tg d (flt scope ρ)with
            | none=>.st
            | some ρ'=>(eZ Φ .And ifs scope ρ').bnd fun b=>cond b ((aC Φ elt false scope ρ').bnd fun r=>.ok (some r) []) (.ok none [])) ds=.ok q m) (hp:aH m) (hj:q.2<=1) :
    ∃f:D->Option D,q.1=ds.filterMap f/\∀cl C s H fp,∀d∈ds,lj (ku X scope cl C (scope.names.map (·.1)) s H fp) (flt scope ρ) tg ifs elt q.2 d (f d):=by
  generalize hst:(fun d=>match bY scope tg d (flt scope ρ)with
            | none=>.st
            | some ρ'=>(eZ Φ .And ifs scope ρ').bnd fun b=>cond b ((aC Φ elt false scope ρ').bnd fun r=>.ok (some r) []) (.ok none []):D->Rs (Option (D×Nat)))=step at h
  obtain⟨c1,c2,c3⟩:=sN h hp
  refine⟨_,c2,fun cl C s H fp d hd=>?_⟩
  have G':=DH (cl:=cl) (C:=C) (s:=s) (H:=H) (fp:=fp) G hc
  obtain⟨x,lx,hx,px⟩:=c1 d hd
  have c3:=c3 hj d hd
  have hs:=congrFun hst d
  unfold qD
  rw[hx]
  split at hs
  . rw[<- hs]at hx;cases hx
  . rename_i ρ' hb
    have gd:=mY G' hb
    have ext:∀x y,flt scope ρ x=some y->ρ' x=some y:=fun x y hxy=>yF hb x y (jz hxy).2 hxy
    have hx0:=hx
    rw[<- hs]at hx
    obtain⟨b,l3,l4,h2,p3,hx,p4⟩:=aR hx px
    have ts:=(hB h2 p3 G').ts rfl
    cases b with
    | false =>
      cases hx
      exact⟨ρ',false,gd,ext,ts,rfl⟩
    | true =>
      rw[cond_true]at hx
      obtain⟨z,l5,l6,h3,p5,hx,p6⟩:=aR hx p4
      cases hx
      exact⟨ρ',true,gd,ext,ts,rfl,((hE h3 p5 G').ed rfl).up (c3 z lx hx0) hj⟩
theorem ue(I:Ih Φ n)(hs:sizeOf (Expr.ListComp elt [⟨tg,iter,ifs,0⟩] scope pos)<n+1)(h:aC Φ (.ListComp elt [⟨tg,iter,ifs,0⟩] scope pos) it sc ρ=.ok r l)(hp:aH l)(G:aO Φ X sc) :
  ∃ds f k,(az ds=true\/k<=1)/\r.2<=1/\ds.length<sizeLine/\gG X.env scope (scope.names.map (·.1))/\(∀x d o,flt scope ρ x=some (d,o)->x∈scope.names.map (·.1))/\IE X ρ tg iter ds k /\
   (∀cl C s H fp,∀d∈ds,lj (ku X scope cl C (scope.names.map (·.1)) s H fp) (flt scope ρ) tg ifs elt r.2 d (f d))/\(∀x,foldedSetIterable iter X.env x=pure x)/\r.1=.lst (ds.filterMap f):=by
 rw[oK]at h
 split at h
 ·rename_i hc
  obtain⟨p,l1,l2,h1,p1,h,p2⟩:=aR h hp
  split at h
  ·rename_i ds hd
   split at h
   ·rename_i ht
    obtain⟨u0,l7,l8,h7,p7,h,p8⟩:=aR h p2
    cases h7
    have hl:=And.intro p7.1 p7.2.1
    obtain⟨q,l3,l4,h2,p3,h,p4⟩:=aR h p8
    split at h
    ·rename_i hj
     cases h
     obtain⟨f,e1,t⟩:=turn_of (fun a b c=>I.e elt (by first|omega|(simp at *;omega)) a b c) (fun a b c=>I.b .And ifs (by first|omega|(simp at *;omega)) a b c) hc G h2 p3 hj
     refine⟨ds,f,p.2,hl.2,hj,Rj hl.1 pD,yh G hc,fun x d o hx=>mP (jz hx).2,(I.e iter (by first|omega|(simp at *;omega)) h1 p1 G).ie rfl tg ds hd ht,t,iO h1,by rw[e1]⟩
    ·cases h
   ·cases h
  ·cases h
 ·cases h
theorem ou{gens:List Comprehension}(h:aC Φ (.ListComp elt gens scope pos) it sc ρ=.ok r l):∃tg iter ifs,gens=[⟨tg,iter,ifs,0⟩]:=by
 match gens,h with
 | [⟨tg,iter,ifs,0⟩],h=>exact⟨_,_,_,rfl⟩
 | [],h=>cases h
 | ⟨_,_,_,.ofNat (n+1)⟩::r,h=>cases r<;>cases h
 | ⟨_,_,_,.negSucc n⟩::_,h=>cases h
 | ⟨_,_,_,0⟩::_::_,h=>cases h
theorem Kj(I:Ih Φ n)(e:Expr)(hs:sizeOf e<n+1)(h:aC Φ e it sc ρ=.ok r l)(hp:aH l)(G:aO Φ X sc):fJ X ρ e it r.1 r.2:=by
 cases e with
 | Constant c k p =>
  replace h:(match BE c with|some d=>.ok (d,0) []|none=>.st:R1)=.ok r l:=h
  split at h
  ·rename_i d hc;cases h;exact bW (Hu hc) (fun _=>rfl)
  ·cases h
 | Name x p=>exact Cq h G
 | BinOp a op b p=>exact EY I hs h hp G
 | UnaryOp op a p=>exact Jm I hs h hp G
 | BoolOp op es p =>
  rw[oM]at h
  split at h
  ·cases h
  ·rename_i hne
   obtain⟨b,l1,l2,h1,p1,h,p2⟩:=aR h hp
   cases h
   have ne:es≠[]:=fun z=>hne (by rw[z];rfl)
   have c:=I.b op es (bo (by simp<;>omega) hs) h1 p1 G
   exact .of (c.ed ne p) fun b' hb'=>by cases hb';exact fun ow=>(c.tw ne p ow).pt
 | Compare a ops bs p =>
  match ops,bs,hs,h with
  | [op],[b],hs,h=>exact EW I hs h hp G
  | [],bs,_,h=>cases h
  | [op],[],_,h=>cases h
  | [op],_::_::_,_,h=>cases h
  | [op,op2],[b,c],hs,h=>exact zc I hs h hp G
  | [_,_],[],_,h=>cases h
  | [_,_],[_],_,h=>cases h
  | [_,_],_::_::_::_,_,h=>cases h
  | _::_::_::_,bs,_,h=>cases h
 | IfExp c a b p=>exact Jn I hs h hp G
 | Tuple es k p =>
  obtain⟨q,l1,l2,h1,p1,h,p2⟩:=aR (show Rs.bnd _ _=_ from h) hp
  split at h
  ·rename_i hl
   unfold mk at h;cases h
   exact bW (Ab (I.es es (bo (by simp<;>omega) hs) h1 p1 G) hl) (fun _=>rfl)
  ·cases h
 | List es p =>
  obtain⟨q,l1,l2,h1,p1,h,p2⟩:=aR (show Rs.bnd _ _=_ from h) hp
  split at h
  ·rename_i hl
   cases h
   exact bW (uP (I.es es (bo (by simp<;>omega) hs) h1 p1 G) hl.2 hl.1) (fun _=>rfl)
  ·cases h
 | Attribute a f p =>
  cases a with
  | Name x pn =>
   obtain⟨q,l1,l2,h1,p1,h,p2⟩:=aR (show Rs.bnd _ _=_ from h) hp
   have hea:=(I.e (.Name x pn) (bo (by simp<;>omega) hs) (it:=false) h1 p1 G).ed rfl
   obtain⟨d,kd⟩:=q
   unfold Hb at h
   dsimp only at h hea
   split at h
   ·rename_i n ns ds
    split at h
    ·rename_i hf
     split at h
     ·rename_i e hl
      cases h
      exact bW (Ht G hf hea rfl hl) (fun _=>rfl)
     ·cases h
    ·cases h
   ·split at h
    ·rename_i hf
     subst hf
     cases h
     exact bW (D3 hea rfl) (fun _=>rfl)
    ·cases h
   ·cases h
  | _=>cases h
 | Dict ks vs p =>
  match ks,vs,h with
  | [],[],h=>cases h
  | _::_,_,h=>cases h
  | [],_::_,h=>cases h
 | Subscript a i p=>exact EV I hs h hp G
 | Call f args kws p =>
  cases f with
  | Name f fp =>
   cases kws with
   | nil=>exact zd I hs h hp G
   | cons _ _=>cases h
  | Attribute a m ap =>
   cases kws with
   | nil=>exact ze I hs h hp G
   | cons _ _=>cases h
  | _=>cases h
 | ListComp elt gens scope p =>
  obtain⟨tg,iter,ifs,rfl⟩:=ou h
  obtain⟨ds,f,k,a1,a2,a3,a4,a5,a6,a7,a8,a9⟩:=ue I hs h hp G
  rw[a9]
  exact bW (D8 G.calm G.nd a1 a2 a3 a4 a5 a6 a7 a8) (fun _=>rfl)
 | _=>cases h
theorem Hj(I:Ih Φ n)(es:List Expr){r:List D×Nat}(hs:sizeOf es<n+1)(h:bK Φ es sc ρ=.ok r l)(hp:aH l)(G:aO Φ X sc):AD X ρ es r.1 r.2:=by
 cases es with
 | nil=>cases h;exact jj
 | cons e es =>
  obtain⟨p,l1,l2,h1,p1,h,p2⟩:=aR (show Rs.bnd _ _=_ from h) hp
  obtain⟨q,l3,l4,h2,p3,h,p4⟩:=aR h p2
  cases h
  exact eV ((I.e e (bo (by simp<;>omega) hs) h1 p1 G).ed rfl) (I.es es (bo (by simp<;>omega) hs) h2 p3 G) (aA (eQ h1))
theorem sX{c:Bool}{r:Rs Bool}{l:List Prop}(h:wj b r=.ok c l)(hp:aH l):(b=true/\∃m,r=.ok c m/\aH m)\/(b=false/\c=false):=by
 unfold wj at h
 split at h
 ·rename_i c' m
  cases h
  cases b with
  | true=>exact .inl ⟨rfl,m,rfl,mZ hp rfl⟩
  | false=>exact .inr ⟨rfl,rfl⟩
 ·cases b with
  | true=>cases h
  | false=>cases h;exact .inr ⟨rfl,rfl⟩
theorem uo{c:Bool}{r:Rs Bool}{l:List Prop}(h:Bk b r=.ok c l)(hp:aH l):(b=false/\∃m,r=.ok c m/\aH m)\/(b=true/\c=true):=by
 unfold Bk at h
 split at h
 ·rename_i c' m
  cases h
  cases b with
  | false=>exact .inl ⟨rfl,m,rfl,mZ hp rfl⟩
  | true=>exact .inr ⟨rfl,rfl⟩
 ·cases b with
  | false=>cases h
  | true=>cases h;exact .inr ⟨rfl,rfl⟩
theorem Hl(I:Ih Φ n)(op:BoolOp)(es:List Expr)(hs:sizeOf es<n+1)(h:eZ Φ op es sc ρ=.ok b l)(hp:aH l)(G:aO Φ X sc):dZ X ρ op es b:=by
 cases es with
 | nil =>
  cases op with
  | And=>cases h;exact⟨fun z=>absurd rfl z,fun z=>absurd rfl z,fun _=>wT⟩
  | Or=>cases h;exact⟨fun z=>absurd rfl z,fun z=>absurd rfl z,fun z=>(by cases z)⟩
 | cons e es =>
  cases op with
  | And =>
   obtain⟨p,l1,l2,h1,p1,h,p2⟩:=aR (show Rs.bnd _ _=_ from h) hp
   obtain⟨b',hb,h⟩:=lh h
   have c:=I.e e (bo (by simp<;>omega) hs) h1 p1 G
   have ce:=c.ed rfl
   rw[hb]at ce
   have ct:=c.td rfl b' hb
   rcases sX h p2 with⟨rfl,m,h,pm⟩|⟨rfl,rfl⟩
   ·cases es with
    | nil=>cases h;exact gm ce ct
    | cons e2 es=>exact tV ce ct (I.b .And (e2::es) (bo (by simp<;>omega) hs) h pm G)
   ·cases es with
    | nil=>exact gm ce ct
    | cons e2 es=>exact sT ce ct (fun pos=>⟨_,rG⟩) (fun pos=>⟨_,rD⟩)
  | Or =>
   obtain⟨p,l1,l2,h1,p1,h,p2⟩:=aR (show Rs.bnd _ _=_ from h) hp
   obtain⟨b',hb,h⟩:=lh h
   have c:=I.e e (bo (by simp<;>omega) hs) h1 p1 G
   have ce:=c.ed rfl
   rw[hb]at ce
   have ct:=c.td rfl b' hb
   rcases uo h p2 with⟨rfl,m,h,pm⟩|⟨rfl,rfl⟩
   ·cases es with
    | nil=>cases h;exact gm ce ct
    | cons e2 es=>exact wb ce ct (I.b .Or (e2::es) (bo (by simp<;>omega) hs) h pm G)
   ·cases es with
    | nil=>exact gm ce ct
    | cons e2 es=>exact tU ce ct (fun pos=>⟨_,rG⟩) (fun pos=>⟨_,rD⟩)
theorem Hk(I:Ih Φ n)(e:Option Expr){o:Option Int}(hs:sizeOf e<n+1)(h:pN Φ e sc ρ=.ok o l)(hp:aH l)(G:aO Φ X sc):OD X ρ e o:=by
 cases e with
 | none=>cases h;exact uw
 | some e =>
  obtain⟨p,l1,l2,h1,p1,h,p2⟩:=aR (show Rs.bnd _ _=_ from h) hp
  have c:=(I.e e (bo (by simp<;>omega) hs) h1 p1 G).ed rfl
  split at h
  ·rename_i i hi
   cases h
   rw[hi]at c
   exact uv c
  ·cases h
end
theorem im(Φ:Fx):∀n,Ih Φ n
 | 0=>⟨fun _ _ _ _ _ _ _ h=>absurd h (Rw _),fun _ _ _ _ _ _ h=>absurd h (Rw _),fun _ _ _ _ _ _ _ h=>absurd h (Rw _),fun _ _ _ _ _ _ h=>absurd h (Rw _)⟩
 | n+1=>⟨fun e _ _ _ _ _ _ hs h hp G=>Kj (im Φ n) e hs h hp G,fun e _ _ _ _ _ hs h hp G=>Hj (im Φ n) e hs h hp G,fun op e _ _ _ _ _ hs h hp G=>Hl (im Φ n) op e hs h hp G,fun e _ _ _ _ _ hs h hp G=>Hk (im Φ n) e hs h hp G⟩
theorem Kk(e:Expr){p:D×Nat}{l:List Prop}(h:aC Φ e it sc ρ=.ok p l)(hp:aH l)(G:aO Φ X sc):fJ X ρ e it p.1 p.2:=(im Φ _).e e (Q5 _) h hp G
theorem fN(es:List Expr){p:List D×Nat}{l:List Prop}(h:bK Φ es sc ρ=.ok p l)(hp:aH l)(G:aO Φ X sc):AD X ρ es p.1 p.2:=(im Φ _).es es (Q5 _) h hp G
structure bf(ow:Ow)(H:Hp)(ow':Ow)(H':Hp):Prop where
 keep:∀a o,H a=some o->(nm o\/ow a=none)->H' a=some o
 low:∀a o,H a=some o->ow a=none->ow' a=none
theorem bf.refl(ow:Ow)(H:Hp):bf ow H ow H:=⟨fun _ _ h _=>h,fun _ _ _ h=>h⟩
theorem bf.same(s:av H H'):bf ow H ow H':=⟨fun a o h _=>s a o h,fun _ _ _ h=>h⟩
theorem bf.trans{ow1 ow2:Ow}{H2:Hp}(a:bf ow H ow1 H1)(b:bf ow1 H1 ow2 H2):bf ow H ow2 H2 :=
 ⟨fun x o h c=>b.keep x o (a.keep x o h c) (c.imp id fun z=>a.low x o h z),fun x o h z=>b.low x o (a.keep x o h (.inr z)) (a.low x o h z)⟩
def bQ(H0:Hp)(ow:Ow)(H:Hp):Prop:=∀a o,H0 a=some o->H a=some o/\ow a=none
theorem bQ.keep(b:bQ H0 ow H)(k:bf ow H ow' H'):bQ H0 ow' H':=fun a o h=>let ⟨h1,h2⟩:=b a o h;⟨k.keep a o h1 (.inr h2),k.low a o h1 h2⟩
theorem bQ.sm(b:bQ H0 ow H):av H0 H:=fun a o h=>(b a o h).1
variable{X:Cx}
def mj(X:Cx)(H0:Hp)(ow:Ow)(H:Hp)(fl:Fl)(D:i8):Prop :=
 match fl with
 | .nx ρ => ∀ow' σ' H',aF X ow' H' σ' ρ->σ'.length=X.N.length->bf ow H ow' H'->D.nx σ' H'
 | .bk ρ => ∀ow' σ' H',aF X ow' H' σ' ρ->σ'.length=X.N.length->bf ow H ow' H'->D.bk σ' H'
 | .ct ρ => ∀ow' σ' H',aF X ow' H' σ' ρ->σ'.length=X.N.length->bf ow H ow' H'->D.ct σ' H'
 | .rt d => ∀v H',av H0 H'->aj X.K H' (fun a b=>b=true/\H0 a=none) d v->D.rt v H'
theorem mj.keep{D:i8}(p:mj X H0 ow H fl D)(k:bf ow H ow' H'):mj X H0 ow' H' fl D:=by
 cases fl with
 | nx ρ=>exact fun ow2 σ2 H2 a b c=>p ow2 σ2 H2 a b (k.trans c)
 | bk ρ=>exact fun ow2 σ2 H2 a b c=>p ow2 σ2 H2 a b (k.trans c)
 | ct ρ=>exact fun ow2 σ2 H2 a b c=>p ow2 σ2 H2 a b (k.trans c)
 | rt d=>exact p
def wU(X:Cx)(H0:Hp)(ρ:ag)(fl:Fl):TS:=fun D σ H => ∃ow,aF X ow H σ ρ/\σ.length=X.N.length/\bQ H0 ow H/\mj X H0 ow H fl D
def SD(X:Cx)(H0:Hp)(ρ:ag)(st:Stmt)(fl:Fl):Prop:=PS X st (wU X H0 ρ fl)
def fc(X:Cx)(H0:Hp)(ρ:ag)(st:List Stmt)(fl:Fl):Prop:=dP X st (wU X H0 ρ fl)
theorem Cs:fc X H0 ρ [] (.nx ρ):=fun pins s σ H D I ⟨ow,E,hl,B,q⟩=>n8 pins s σ H D I (q ow σ H E hl (bf.refl _ _))
theorem ee{ρ1:ag}(h1:SD X H0 ρ st (.nx ρ1))(h2:fc X H0 ρ1 ss fl):fc X H0 ρ (st::ss) fl:=fun pins s σ H D I ⟨ow,E,hl,B,q⟩ =>
 dS h1 h2 pins s σ H D I ⟨ow,E,hl,B,fun ow' σ' H' E' hl' k=>⟨ow',E',hl',B.keep k,q.keep k⟩⟩
theorem g8(h1:SD X H0 ρ st fl)(hf:∀ρ',fl ≠ .nx ρ'):fc X H0 ρ (st::ss) fl:=fun pins s σ H D I ⟨ow,E,hl,B,q⟩ =>
 dS h1 gz pins s σ H D I ⟨ow,E,hl,B,by
  cases fl with
  | nx ρ'=>exact absurd rfl (hf ρ')
  | bk ρ'=>exact q
  | ct ρ'=>exact q
  | rt d=>exact q⟩
theorem xm(h:ED X ρ e d k)(hk:k=0\/k=2):SD X H0 ρ (.Return (some e) pos) (.rt d):=fun pins s σ H D I ⟨ow,E,hl,B,q⟩ =>
 xu (h ow) pins s σ H D I ⟨E,fun v H1 s1 r1=>q v H1 (B.sm.trans s1) (r1.imp fun a b p=>by
  rcases hk with rfl|rfl
  ·exact⟨p.1,B.sm.free p.2⟩
  ·refine⟨p.1,p.2.elim (fun z=>?_) B.sm.free⟩
   cases e0:H0 a with
   | none=>rfl
   | some o=>exact absurd (B a o e0).2 z)⟩
theorem D2(E:aF X ow H σ ρ):aF X (fun _=>none) H σ (eB ρ):=by
 refine⟨fun x d o h=>?_,fun a z=>absurd rfl z⟩
 unfold eB at h
 cases e:ρ x with
 | none=>rw[e]at h;cases h
 | some y =>
  rw[e]at h
  cases h
  obtain⟨i,v,h1,h2,h3,h4⟩:=E.get x y.1 y.2 e
  exact⟨i,v,h1,h2,h3,h4.imp fun _ _ _ _=>rfl⟩
theorem CG(h:ED X (eB ρ) e d k)(hk:k=0\/k=2):SD X H0 ρ (.Return (some e) pos) (.rt d):=fun pins s σ H D I ⟨ow,E,hl,B,q⟩ =>
 xu (h fun _=>none) pins s σ H D I ⟨D2 E,fun v H1 s1 r1=>q v H1 (B.sm.trans s1) (r1.imp fun a b p=>by
  rcases hk with rfl|rfl
  ·exact⟨p.1,B.sm.free p.2⟩
  ·exact⟨p.1,p.2.elim (fun z=>absurd rfl z) B.sm.free⟩)⟩
theorem CN(h:ED X ρ e d k)(hc:∃f p args ks cp,e=.Call (.Name f p) args ks cp):SD X H0 ρ (.Expr e pos) (.nx ρ):=fun pins s σ H D I ⟨ow,E,hl,B,q⟩=>by
 obtain⟨f,p,args,ks,cp,rfl⟩:=hc
 exact gZ (h ow) rfl pins s σ H D I ⟨E,fun v H1 s1 r1=>q ow σ H1 (E.same s1) hl (bf.same s1)⟩
theorem CF:SD X H0 ρ (.Return none pos) (.rt .non):=fun pins s σ H D I ⟨ow,E,hl,B,q⟩=>CW pins s σ H D I (q .non H B.sm (by rw[aj]))
theorem CI:SD X H0 ρ (.Pass pos) (.nx ρ):=fun pins s σ H D I ⟨ow,E,hl,B,q⟩=>CY pins s σ H D I (q ow σ H E hl (bf.refl _ _))
theorem zk:SD X H0 ρ (.Break pos) (.bk ρ):=fun pins s σ H D I ⟨ow,E,hl,B,q⟩=>zu pins s σ H D I (q ow σ H E hl (bf.refl _ _))
theorem CO:SD X H0 ρ (.Continue pos) (.ct ρ):=fun pins s σ H D I ⟨ow,E,hl,B,q⟩=>tO pins s σ H D I (q ow σ H E hl (bf.refl _ _))
theorem qC{a b:List Stmt}(hc:TD X ρ c t)(h:if t=true then fc X H0 ρ a fl else fc X H0 ρ b fl):SD X H0 ρ (.If c a b pos) fl:=by
 cases t with
 | true =>
  intro pins s σ H D I ⟨ow,E,hl,B,q⟩
  exact vw (hc ow) h gz pins s σ H D I ⟨E,fun H1 s1=>by
   show if true=true then _ else _
   rw[if_pos rfl]
   exact⟨ow,E.same s1,hl,B.keep (bf.same s1),q.keep (bf.same s1)⟩⟩
 | false =>
  intro pins s σ H D I ⟨ow,E,hl,B,q⟩
  exact vw (hc ow) gz h pins s σ H D I ⟨E,fun H1 s1=>by
   show if false=true then _ else _
   rw[if_neg QP]
   exact⟨ow,E.same s1,hl,B.keep (bf.same s1),q.keep (bf.same s1)⟩⟩
theorem oO(hN:X.N.Nodup)(hl:σ.length=X.N.length)(E:aF X ow H σ ρ)(sm:av H H1)(hi:X.N[i]?=some x)(hv:fb X.env.scope x)(r:aj X.K H1 (Kp ow H 0) d v) :
  ∃ow',aF X ow' H1 (σ.set i (some v)) (bP ρ x (d,true))/\bf ow H ow' H1:=by
 classical
 let ow':Ow:=fun a=>if H a=none/\∃o,H1 a=some o then some (some x)else ow a
 have o1:∀a o,H a=some o->ow' a=ow a:=fun a o h=>if_neg (fun z=>by rw[h]at z;cases z.1)
 have E1:aF X ow' H1 σ ρ:=⟨fun y e o h=>by
  obtain⟨j,w,e1,e2,e3,e4⟩:=E.get y e o h
  refine⟨j,w,e1,e2,e3,aj.same sm (e4.impH (fun a ob ha p=>?_) fun a p=>?_)⟩
  ·cases o with
   | true=>exact⟨p.1,(o1 a ob ha).trans p.2⟩
   | false=>exact fun z=>(o1 a ob ha).trans (p z)
  ·cases o with
   | true=>cases p.1
   | false=>exact fun z=>(by cases z),fun a ha=>by
  by_cases hz:H a=none/\∃o,H1 a=some o
  ·exact hz.2
  ·have:ow' a=ow a:=if_neg hz
   rw[this]at ha
   exact(E.own.same sm) a ha⟩
 refine⟨ow',eR hN hl E1 hi hv (r.impH (fun a o ha p=>⟨rfl,if_pos ⟨p.2,o,ha⟩⟩) fun a p=>(by cases p.1)),fun a o h _=>sm a o h,fun a o h z=>(o1 a o h).trans z⟩
theorem dY{t:Option Expr}(h:il e=false):swapsWith e t n env=pure false:=by
 cases e<;>first|rfl|cases h
theorem jY{o:Bool}(G:aO Φ X sc)(hx:cS sc x=true)(h:ED X ρ e d k)(ho:(k=0/\o=true)\/(k=1/\o=false))(hs:swapsWith e (some (.Name x p)) pos.line X.env=pure false) :
  SD X H0 ρ (.Assign [.Name x p] e pos) (.nx (bP ρ x (d,o))):=by
 obtain⟨g1,g2,g3,i,g4⟩:=fM G hx
 intro pins s σ H D I ⟨ow,E,hl,B,q⟩
 refine xt (i:=i) G.nd g4 g1 (h ow) hs g3 pins s σ H D I ⟨E,fun v H1 s1 r1=>?_⟩
 show D.nx (σ.set i (some v)) H1
 rcases ho with⟨rfl,rfl⟩|⟨rfl,rfl⟩
 ·obtain⟨ow',E',k'⟩:=oO G.nd hl E s1 g4 g2 r1
  exact q ow' _ H1 E' (by rw[Rh];exact hl) k'
 ·exact q ow _ H1 (eR G.nd hl (E.same s1) g4 g2 r1) (by rw[Rh];exact hl) (bf.same s1)
theorem gw:swapsWithSole [.Tuple es n p] e k env=pure false:=by
 cases e<;>rfl
theorem jT{i:Expr}:swapsWithSole [.Subscript a i p] e k env=pure false:=by
 cases e<;>rfl
def Oe(K:W.Frag)(n:Nat)(t:nK):TG:=fun v σ H Q => ∃a xs,v=.ref a/\cj K H a xs/\xs.length=n/\t xs σ H Q
theorem FM{t:nK}(hc:X.calm=true)(h:uZ X es t)
  (hn:(assignEach es X.env).length=n) (hst:(assignEach es X.env).findIdx? (·.1)=none):PG X (.Tuple es k pos) (Oe X.K n t):=by
 intro pins s σ H v u Q I r hw
 obtain⟨a,xs,e1,hq,hl,hw⟩:=hw
 subst e1
 cases r
 obtain⟨its,rv,pl,hz⟩:=I.list hq
 have hsz:(assignEach es X.env).length=its.toArray.size:=by simp[hn,<- hl,rv.length]
 rw[assign_Tuple]
 refine Qx (R7 ?_)
 unfold unpack
 rw[hst,hsz]
 refine Qx (Q7 (W.kun_itemsOf (I.ok.hd hc) pl.isList fun h' hx=>?_))
 have I1:al X pins σ H { s with heap:=h' }:=I.kept (t':=s.toks) fun b o e=>hx b o (QT (QC e)) e
 exact h pins _ σ H xs _ Q I1 (by simpa using rv) hw
theorem mH(o:fe ow H)(hf:az ds=true\/k<=1)(r:ah X.K H1 (Kp ow H k) ds vs):ah X.K H1 (fun a b=>b=true->ow a=none) ds vs:=by
 rcases hf with hf|hf
 ·exact r.flat _ hf
 ·exact r.imp fun a b p hb=>by subst hb;exact fF o hf p
theorem nW(G:aO Φ X sc)(ht:mC sc es e=false):swappedStores [.Tuple es n p] e X.env=pure none:=by
 unfold mC at ht
 cases hte:ik e with
 | false=>cases e<;>first|rfl|cases hte
 | true =>
  rw[hte]at ht
  have hc:sS sc es e=true:=by simpa using ht
  unfold sS at hc
  split at hc
  ·rename_i x px y py a b m q
   have k1:X.env.kindOf x=some .cell:=G.cc x (by simpa using hc)
   unfold swappedStores
   dsimp only
   split
   ·rfl
   ·split
    ·rfl
    ·rw[if_pos]
     rw[List.filterMap_cons_none (by simp[k1])]
     have:∀l:List Str,l.length<=1->(l.length != [Expr.Name x px,Expr.Name y py].length || l.eraseDups.length != l.length)=true:=fun l hl=>by
      have:(l.length != [Expr.Name x px,Expr.Name y py].length)=true:=by simp;omega
      rw[this];rfl
     exact this _ (QD (List.length_filterMap_le _ _) (QF _))
  ·cases hc
theorem Fg(G:aO Φ X sc)(h:ED X ρ e d k)(hd:eM d=some ds)(hf:az ds=true\/k<=1)(hb:aX sc es ds ρ=some ρ')(ht:mC sc es e=false) :
  SD X H0 ρ (.Assign [.Tuple es n p] e pos) (.nx ρ'):=by
 obtain⟨t,h1,h2,h3,h4⟩:=j8 G hb
 intro pins s σ H D I ⟨ow,E,hl,B,q⟩
 have fin:∀H1 vs,av H H1->ah X.K H1 (Kp ow H k) ds vs->t vs σ H1 D.nx:=fun H1 vs s1 rl=>h4 ow vs σ H1 D.nx hl (E.same s1) (mH E.own hf rl) fun σ' hl' E'=>q ow σ' H1 E' hl' (bf.same s1)
 rcases fz hd with rfl|rfl
 ·refine hW (h ow) (mJ (n:=_) G.calm h1 h2 h3) gw (nW G ht) rfl pins s σ H D I ⟨E,fun v H1 s1 r1=>?_⟩
  obtain⟨a,vs,rfl,hs,rl⟩:=ej r1
  exact⟨a,vs,rfl,hs,rl.length.symm,fin H1 vs s1 rl⟩
 ·refine hW (h ow) (FM (n:=_) G.calm h1 h2 h3) gw (nW G ht) rfl pins s σ H D I ⟨E,fun v H1 s1 r1=>?_⟩
  obtain⟨a,vs,rfl,hs,rl⟩:=fK r1
  exact⟨a,vs,rfl,hs,rl.length.symm,fin H1 vs s1 rl⟩
theorem Jw{P:bj}{a b:D}(h:ah K H P [a,b] vs):∃x y,vs=[x,y]/\aj K H P a x/\aj K H P b y:=by
 rw[ah]at h
 obtain⟨x,r,rfl,h1,h⟩:=h
 rw[ah]at h
 obtain⟨y,r,rfl,h2,h⟩:=h
 rw[ah]at h
 subst h
 exact⟨x,y,rfl,h1,h2⟩
theorem CJ{pt:Pos}{p:D×Nat}(G:aO Φ X sc)(h:ED X ρ e p.1 p.2)(ho:rJ sc es p=true)(ht:mC sc es e=false) :
  SD X H0 ρ (.Assign [.Tuple es n pt] e pos) (.nx (vt es p ρ)):=by
 obtain⟨d,k⟩:=p
 unfold rJ at ho
 split at ho
 ·rename_i x px y py d1 d2 e0 e1
  have e0:d=_:=e0
  have e1:k=_:=e1
  subst e0 e1
  simp only[QN,Bool.not_eq_true',decide_eq_false_iff_not]at ho
  obtain⟨⟨⟨⟨f1,_⟩,hxy⟩,hx⟩,hy⟩:=ho
  obtain⟨g1,g2,g3,i,g4⟩:=fM G hx
  obtain⟨j1,j2,j3,j,j4⟩:=fM G hy
  have hij:i≠j:=fun z=>by subst z;rw[g4]at j4;exact hxy (QK j4)
  intro pins s σ H D I ⟨ow,E,hl,B,q⟩
  refine hW (h ow) (mJ (n:=2) G.calm (hX (jc (i:=i) G.nd g4 g1 g3) (hX (jc (i:=j) G.nd j4 j1 j3) n9 rfl) rfl) rfl rfl) gw (nW G ht) rfl pins s σ H D I ⟨E,fun v H1 s1 r1=>?_⟩
  obtain⟨a,vs,rfl,hs,rl⟩:=ej r1
  obtain⟨v1,v2,rfl,r2,r3⟩:=Jw rl
  refine⟨a,[v1,v2],rfl,hs,rfl,v1,[v2],rfl,v2,[],rfl,rfl,?_⟩
  obtain⟨ow',E',k'⟩:=oO G.nd hl E s1 j4 j2 r3
  have hl':(σ.set j (some v2)).length=X.N.length:=by rw[Rh];exact hl
  have E2:=eR (o:=false) G.nd hl' E' g4 g2 (r2.flat _ f1)
  rw[List.set_comm _ _ hij]
  exact q ow' _ H1 E2 (by rw[Rh];exact hl') k'
 ·cases ho
theorem vf{y:Str}{b:Expr}(G:aO Φ X sc)(hk:X.env.scope.kind=.function)(h:mK sc x y px py a b=true)(ha:∀x p,a ≠ .Starred x p)(hb:∀x p,b ≠ .Starred x p) :
  swappedStores [.Tuple [.Name x px,.Name y py] n p] (.Tuple [a,b] n2 p2) X.env=pure (some [x,y]):=by
 unfold mK at h
 simp only[QN,Bool.not_eq_true',Sq,decide_eq_false_iff_not]at h
 obtain⟨⟨⟨⟨⟨h1,h2⟩,h3⟩,h4⟩,h5⟩,h6⟩:=h
 have k1:X.env.kindOf x=some .local:=G.lc x h1
 have k2:X.env.kindOf y=some .local:=G.lc y h2
 have bk:X.env.blockKind=.function:=by unfold Env.blockKind;rw[hk];rfl
 have an:∀f:Expr->Bool,(∀e,(∀x p,e ≠ .Starred x p)->f e=false) -> ¬ ([a,b].any f=true):=fun f hf=>by simp[hf a ha,hf b hb]
 have fm:∀f:Expr->Option Str,f (.Name x px)=some x->f (.Name y py)=some y->[Expr.Name x px,Expr.Name y py].filterMap f=[x,y]:=fun f h1 h2=>by simp[h1,h2]
 have ed:[x,y].eraseDups=[x,y]:=by
  have e1:(!(y==x))=true:=by simp;exact fun z=>h4 z.symm
  rw[List.eraseDups_cons,List.filter_cons_of_pos (p:=fun b => !b==x) e1,List.filter_nil]
  rfl
 unfold swappedStores
 dsimp only
 rw[bk]
 refine(if_neg (by simp)).trans ?_
 refine(if_neg (an _ fun e he=>by cases e<;>first|rfl|exact absurd rfl (he _ _))).trans ?_
 rw[fm _ (by show(if (X.env.kindOf x==some NameKind.local&&px.line==px.line)=true then some x else none)=some x;rw[k1];simp) (by show(if (X.env.kindOf y==some NameKind.local&&py.line==px.line)=true then some y else none)=some y;rw[k2,h3];simp)]
 rw[ed]
 refine(if_neg (by simp)).trans ?_
 rw[h5,h6]
 rfl
theorem Fi{b:Expr}{y:Str}{u v:D}(G:aO Φ X sc)(h:AD X ρ [a,b] [u,v] k)(hf:az [u,v]=true\/k<=1)(hp:mK sc x y px py a b=true)(ha:∀x p,a ≠ .Starred x p)(hb:∀x p,b ≠ .Starred x p) :
  SD X H0 ρ (.Assign [.Tuple [.Name x px,.Name y py] n p] (.Tuple [a,b] n2 p2) pos) (.nx (bP (bP ρ x (u,false)) y (v,false))):=by
 have hp0:=hp
 unfold mK at hp
 simp only[QN,Bool.not_eq_true',Sq,decide_eq_false_iff_not]at hp
 obtain⟨⟨⟨⟨⟨l1,l2⟩,_⟩,hxy⟩,_⟩,_⟩:=hp
 obtain⟨g1,g2,g3,i,g4⟩:=fM (x:=x) G (by unfold cS;rw[l1];rfl)
 obtain⟨j1,j2,j3,j,j4⟩:=fM (x:=y) G (by unfold cS;rw[l2];rfl)
 have hij:i≠j:=by intro z;subst z;rw[g4]at j4;cases j4;exact hxy rfl
 intro pins s σ H D I ⟨ow,E,hl,B,q⟩
 refine FF (i:=i) (j:=j) G.calm G.nd g4 j4 hij (G.lc x l1) (G.lc y l2) (h ow) (vf G I.ok.kind hp0 ha hb) gw pins s σ H D I ⟨E,fun vs H1 s1 r1=>?_⟩
 have rs:=mH E.own hf r1
 rw[ah]at rs
 obtain⟨v1,r,rfl,rv1,rs⟩:=rs
 obtain⟨v2,rfl,rv2⟩:=rs.only
 refine⟨v1,v2,rfl,?_⟩
 have E1:=eR (o:=false) G.nd hl (E.same s1) g4 g2 rv1
 have hl1:(σ.set i (some v1)).length=X.N.length:=by rw[Rh];exact hl
 exact q ow _ H1 (eR (o:=false) G.nd hl1 E1 j4 j2 rv2) (by rw[Rh];exact hl1) (bf.same s1)
theorem yf{a:Addr}(E:aF X ow H1 σ ρ)(hi:X.N[i]?=some x)(hs:σ[i]?=some (some (.ref a)))
  (hv:fb X.env.scope x) (ha:H1 a=some (.lst vs)) (ho:ow a=some (some x)) (f:az l'=true) (r:ah X.K H1 (fun _ _=>True) l' vs') :
  aF X ow (aG H1 a (.lst vs')) σ (bP ρ x (.lst l',true)):=by
 have st:∀{P:bj},(P a true->False)->dM P P H1 (aG H1 a (.lst vs')):=fun {P} h=>⟨fun b o hb hn=>by rw[ax (fun z=>by subst z;rw[ha]at hb;cases hb;exact hn)];exact hb,fun b ws hb p=>by rw[ax (fun z=>by subst z;exact h p)];exact hb,fun _ _ _ p=>p,fun _ p=>p⟩
 have r':ah X.K (aG H1 a (.lst vs')) (jq ow x true) l' vs':=ah.flat _ f ((r.flat (fun _ _=>False) f).mono (st fun z=>z))
 refine⟨fun y e o h=>?_,fun b hb=>?_⟩
 ·rw[dl]at h
  by_cases hy:y=x
  ·subst hy
   rw[if_pos rfl]at h
   cases h
   exact⟨i,.ref a,hi,hv,hs,by rw[aj];exact⟨a,vs',true,rfl,aD,⟨rfl,ho⟩,r'⟩⟩
  ·rw[if_neg hy]at h
   obtain⟨j,w,e1,e2,e3,e4⟩:=E.get y e o h
   refine⟨j,w,e1,e2,e3,e4.mono (st fun p=>?_)⟩
   cases o with
   | true=>have:=p.2;rw[ho]at this;cases this;exact hy rfl
   | false=>have:=p rfl;rw[ho]at this;cases this
 ·by_cases hz:b=a
  ·subst hz;exact⟨_,aD⟩
  ·rw[ax hz];exact E.own b hb
theorem FZ(E:aF X ow H σ ρ)(h:ρ x=some (.lst l,true)):∃(i:Nat) (a:Addr) (vs:List V),X.N[i]?=some x/\fb X.env.scope x/\σ[i]?=some (some (.ref a))/\H a=some (.lst vs)/\ow a=some (some x)/\ah X.K H (fun _ _=>True) l vs:=by
 obtain⟨i,v,e1,e2,e3,e4⟩:=E.get x _ _ h
 rw[aj]at e4
 obtain⟨a,vs,b,rfl,hl,hp,rl⟩:=e4
 cases hp.1
 exact⟨i,a,vs,e1,e2,e3,hl,hp.2,rl.imp fun _ _ _=>True.intro⟩
theorem jt{a:Addr}(sm:av H H1)(h0:H a=some (.lst vs))(ho:ow a=some (some x)):bf ow H ow (aG H1 a (.lst vs')) :=
 ⟨fun b o h c=>by
  rw[ax (fun z=>by
   subst z
   rw[h0]at h;cases h
   rcases c with c|c
   ·exact c
   ·rw[ho]at c;cases c)]
  exact sm b o h,fun _ _ _ z=>z⟩
theorem gA(I:al X pins σ H s){a:Addr}{o:Obj}(h:X.K.lookup a=some o):H a=none:=(I.bs a o (I.ok.mod.kin a o h)).2
mutual
def D.lsz:D->Nat
 | .lst l=>1+iT l
 | .tup l=>iT l
 | _=>0
def iT:List D->Nat
 | []=>0
 | d::l=>d.lsz+iT l
end
theorem zH(I:al X pins σ H s){P:bj}{a:Addr}(ha:H a=some (.lst vs))(h:aj X.K H P d (.ref a)):∃l,d=.lst l:=by
 cases d with
 | lst l=>exact⟨l,rfl⟩
 | tup l =>
  rw[aj]at h
  obtain⟨a',vs',e,hs,_⟩:=h
  cases e
  rcases hs with(q|⟨o,q⟩)|⟨o,its,n,q,_⟩
  ·rw[ha]at q;cases q
  ·rw[ha]at q;cases q
  ·rw[gA I q]at ha;cases ha
 | dct _ _=>rw[aj]at h;obtain⟨_,_,a',_,e,hl,_⟩:=h;cases e;rw[ha]at hl;cases hl
 | sn m=>rw[aj]at h;obtain⟨a',S,e,hl⟩:=h;cases e;rw[ha]at hl;cases hl
 | obj n ns es=>rw[aj]at h;obtain⟨_,_,a',C,dx,vs',e,_,_,hl,_⟩:=h;cases e;rw[ha]at hl;cases hl
 | cls n=>rw[aj]at h;obtain⟨C,o',e,_,hl,_⟩:=h;cases e;rw[gA I hl]at ha;cases ha
 | xc n p =>
  rw[aj]at h
  rcases h.at with⟨o',hl,_⟩|⟨C,od,hl⟩
  ·rw[gA I hl]at ha;cases ha
  ·rw[ha]at hl;cases hl
 | _=>rw[aj]at h;cases h
theorem y9(I:al X pins σ H s){P:bj}(hP:∀a b,P a b->b=true){a:Addr}(ha:bT X.K H a vs)(h:aj X.K H P d (.ref a)):∃l,d=.tup l/\ah X.K H P l vs:=by
 have no:∀o,H a=some o->(∀xs,o ≠ .tup xs)->(∀p q,o ≠ .frz p q)->False:=fun o e h1 h2=>by
  rcases ha with(q|⟨o',q⟩)|⟨o',its,n,q,_⟩
  ·rw[e]at q;cases q;exact h1 _ rfl
  ·rw[e]at q;cases q;exact h2 _ _ rfl
  ·rw[gA I q]at e;cases e
 cases d with
 | lst l =>
  rw[aj]at h
  obtain⟨a',vs',b,e,hl,p,_⟩:=h
  cases e
  cases hP _ _ p
  exact(no _ hl (fun _ z=>nomatch z) fun _ _ z=>nomatch z).elim
 | tup l =>
  rw[aj]at h
  obtain⟨a',vs',e,hs,rl⟩:=h
  cases e
  have:=I.tuple_inj ha hs
  subst this
  exact⟨l,rfl,rl⟩
 | dct _ _=>rw[aj]at h;obtain⟨_,_,a',_,e,hl,_⟩:=h;cases e;exact(no _ hl (fun _ z=>nomatch z) fun _ _ z=>nomatch z).elim
 | sn m=>rw[aj]at h;obtain⟨a',S,e,hl⟩:=h;cases e;exact(no _ hl (fun _ z=>nomatch z) fun _ _ z=>nomatch z).elim
 | obj n ns es=>rw[aj]at h;obtain⟨_,_,a',C,dx,vs',e,_,_,hl,_⟩:=h;cases e;exact(no _ hl (fun _ z=>nomatch z) fun _ _ z=>nomatch z).elim
 | cls n =>
  rw[aj]at h
  obtain⟨C,o',e,_,hl,ht,_⟩:=h
  cases e
  rcases ha with(q|⟨o,q⟩)|⟨o,its,n,q,hc,_⟩
  ·rw[gA I hl]at q;cases q
  ·rw[gA I hl]at q;cases q
  ·rw[hl]at q;cases q;rw[hc]at ht;injection ht with ht;exact absurd ht (by decide)
 | xc n p =>
  rw[aj]at h
  rcases h.at with⟨o',hl,ht⟩|⟨C,od,hl⟩
  ·rcases ha with(q|⟨o,q⟩)|⟨o,its,n,q,hc,_⟩
   ·rw[gA I hl]at q;cases q
   ·rw[gA I hl]at q;cases q
   ·rw[hl]at q;cases q;rw[hc]at ht;injection ht with ht;exact absurd ht (by decide)
  ·exact(no _ hl (fun _ z=>nomatch z) fun _ _ z=>nomatch z).elim
 | _=>rw[aj]at h;cases h
mutual
theorem rA{pins:List (Addr×Obj)}{σ:L2.St}{H:Hp}{s:Shared}(I:al X pins σ H s){P:bj}(hP:∀a b,P a b->b=true):∀(d d':D) (v:V),aj X.K H P d v->aj X.K H P d' v->d.lsz<=d'.lsz
 | .tup l,d',v,h,h'=>by
  rw[aj]at h
  obtain⟨a,vs,rfl,hs,rl⟩:=h
  obtain⟨l',rfl,rl'⟩:=y9 I hP hs h'
  rw[D.lsz,D.lsz];exact j5 I hP l l' vs rl rl'
 | .lst l,d',v,h,h'=>by
  rw[aj]at h
  obtain⟨a,vs,b,rfl,hs,p,rl⟩:=h
  cases hP _ _ p
  replace hs:H a=some (.lst vs):=hs
  obtain⟨l',rfl⟩:=zH I hs h'
  rw[aj]at h'
  obtain⟨a',vs',b,e,hl,p',rl'⟩:=h'
  cases e
  cases hP _ _ p'
  replace hl:H a=some (.lst vs'):=hl
  rw[hs]at hl;cases hl
  rw[D.lsz,D.lsz]
  exact Nat.add_le_add_left (j5 I hP l l' vs rl rl') 1
 | .non,_,_,_,_=>QZ _
 | .bl _,_,_,_,_=>QZ _
 | .int _,_,_,_,_=>QZ _
 | .str _,_,_,_,_=>QZ _
 | .dct _ _,_,_,_,_=>QZ _
 | .typ _,_,_,_,_=>QZ _
 | .sn _,_,_,_,_=>QZ _
 | .obj _ _ _,_,_,_,_=>QZ _
 | .cls _,_,_,_,_=>QZ _
 | .xc _ _,_,_,_,_=>QZ _
theorem j5{pins:List (Addr×Obj)}{σ:L2.St}{H:Hp}{s:Shared}(I:al X pins σ H s){P:bj}(hP:∀a b,P a b->b=true):∀(l l':List D) (vs:List V),ah X.K H P l vs->ah X.K H P l' vs->iT l<=iT l'
 | [],l',vs,h,h'=>QZ _
 | d::l,l',vs,h,h'=>by
  rw[ah]at h
  obtain⟨v,r,rfl,h1,h2⟩:=h
  cases l' with
  | nil=>rw[ah]at h';cases h'
  | cons d' l' =>
   rw[ah]at h'
   obtain⟨v',r',e,h1',h2'⟩:=h'
   cases e
   rw[iT,iT]
   exact Nat.add_le_add (rA I hP d d' v h1 h1') (j5 I hP l l' r h2 h2')
end
mutual
theorem Fz{pins:List (Addr×Obj)}{σ:L2.St}{H:Hp}{s:Shared}(I:al X pins σ H s){P:bj}(hP:∀a b,P a b->b=true){A:Addr}{l:List D}(hA:aj X.K H P (.lst l) (.ref A)):∀(d:D) (v:V),d.lsz<(D.lst l).lsz->aj X.K H P d v->aj X.K H (fun a b=>P a b/\a≠A) d v
 | .tup m,v,hs,h=>by
  rw[aj]at h⊢
  obtain⟨a,vs,e,h1,h2⟩:=h
  exact⟨a,vs,e,h1,kO I hP hA m vs (by rw[D.lsz]at hs;exact hs) h2⟩
 | .lst m,v,hs,h=>by
  have h0:=h
  rw[aj]at h⊢
  obtain⟨a,vs,b,e,h1,p,h2⟩:=h
  refine⟨a,vs,b,e,h1,⟨p,fun z=>?_⟩,kO I hP hA m vs (by rw[D.lsz]at hs;omega) h2⟩
  subst e z
  have:=rA I hP _ _ _ hA h0
  exact absurd (QG hs this) (Q6 _)
 | .non,v,_,h=>by rw[aj]at h⊢;exact h
 | .bl _,v,_,h=>by rw[aj]at h⊢;exact h
 | .int _,v,_,h=>by rw[aj]at h⊢;exact h
 | .str _,v,_,h=>by rw[aj]at h⊢;exact h
 | .dct ks es,v,_,h=>by
  rw[aj]at h⊢
  obtain⟨f,e0,a,vs,e,h1,p,r⟩:=h
  refine⟨f,e0,a,vs,e,h1,⟨p,fun z=>?_⟩,r.flat _ f⟩
  subst z
  rw[aj]at hA
  obtain⟨a2,vs2,b,e2,hl,p2,_⟩:=hA
  cases e2
  cases hP _ _ p2
  replace hl:H a=some (.lst vs2):=hl
  rw[h1]at hl;cases hl
 | .typ _,v,_,h=>by rw[aj]at h⊢;exact h
 | .sn _,v,_,h=>by rw[aj]at h⊢;exact h
 | .obj n ns es,v,_,h=>h.flat _ rfl
 | .cls n,v,_,h=>h.flat _ rfl
 | .xc n p,v,_,h=>h.flat _ rfl
theorem kO{pins:List (Addr×Obj)}{σ:L2.St}{H:Hp}{s:Shared}(I:al X pins σ H s){P:bj}(hP:∀a b,P a b->b=true){A:Addr}{l:List D}(hA:aj X.K H P (.lst l) (.ref A)):∀(m:List D) (vs:List V),iT m<(D.lst l).lsz->ah X.K H P m vs->ah X.K H (fun a b=>P a b/\a≠A) m vs
 | [],vs,_,h=>by rw[ah]at h⊢;exact h
 | d::m,vs,hs,h=>by
  rw[ah]at h⊢
  obtain⟨v,r,e,h1,h2⟩:=h
  exact⟨v,r,e,Fz I hP hA d v (by rw[iT]at hs;omega) h1,kO I hP hA m r (by rw[iT]at hs;omega) h2⟩
end
theorem mL(I:al X pins σ H s)(E:aF X ow H σ ρ)(h:ρ x=some (.lst l,true)):∃(i:Nat) (a:Addr) (vs:List V),X.N[i]?=some x/\fb X.env.scope x/\σ[i]?=some (some (.ref a))/\H a=some (.lst vs)/\ow a=some (some x)/\ah X.K H (fun b c=>jq ow x true b c/\b≠a) l vs:=by
 obtain⟨i,v,e1,e2,e3,e4⟩:=E.get x _ _ h
 have e5:=e4
 rw[aj]at e4
 obtain⟨a,vs,b,rfl,hl,hp,rl⟩:=e4
 cases hp.1
 exact⟨i,a,vs,e1,e2,e3,hl,hp.2,kO I (fun _ _ p=>p.1) e5 l vs (by rw[D.lsz];omega) rl⟩
theorem oP{a:Addr}(E:aF X ow H σ ρ)(sm:av H H1)(hi:X.N[i]?=some x)(hs:σ[i]?=some (some (.ref a)))
  (hv:fb X.env.scope x) (h0:H a=some (.lst vs)) (ho:ow a=some (some x)) (r:ah X.K H1 (fun b c=>(jq ow x true b c/\b≠a)\/Kp ow H 0 b c) l' vs') :
  ∃ow',aF X ow' (aG H1 a (.lst vs')) σ (bP ρ x (.lst l',true))/\bf ow H ow' (aG H1 a (.lst vs')):=by
 classical
 let ow':Ow:=fun a=>if H a=none/\∃o,H1 a=some o then some (some x)else ow a
 have o1:∀a o,H a=some o->ow' a=ow a:=fun a o h=>if_neg (fun z=>by rw[h]at z;cases z.1)
 have ha:H1 a=some (.lst vs):=sm _ _ h0
 have ho':ow' a=some (some x):=(o1 a _ h0).trans ho
 have E1:aF X ow' H1 σ ρ:=⟨fun y e o h=>by
  obtain⟨j,w,e1,e2,e3,e4⟩:=E.get y e o h
  refine⟨j,w,e1,e2,e3,aj.same sm (e4.impH (fun a ob ha p=>?_) fun a p=>?_)⟩
  ·cases o with
   | true=>exact⟨p.1,(o1 a ob ha).trans p.2⟩
   | false=>exact fun z=>(o1 a ob ha).trans (p z)
  ·cases o with
   | true=>cases p.1
   | false=>exact fun z=>(by cases z),fun a ha=>by
  by_cases hz:H a=none/\∃o,H1 a=some o
  ·exact hz.2
  ·have:ow' a=ow a:=if_neg hz
   rw[this]at ha
   exact(E.own.same sm) a ha⟩
 have st:∀{P:bj},(P a true->False)->dM P P H1 (aG H1 a (.lst vs')):=fun {P} h=>⟨fun b o hb hn=>by rw[ax (fun z=>by subst z;rw[ha]at hb;cases hb;exact hn)];exact hb,fun b ws hb p=>by rw[ax (fun z=>by subst z;exact h p)];exact hb,fun _ _ _ p=>p,fun _ p=>p⟩
 have r1:ah X.K H1 (fun b c=>jq ow' x true b c/\b≠a) l' vs':=r.impH (fun b o hb p=>by
  rcases p with⟨p,hne⟩|p
  ·refine⟨⟨rfl,?_⟩,hne⟩
   by_cases hz:H b=none/\∃o,H1 b=some o
   ·exact if_pos hz
   ·exact(if_neg hz).trans p.2
  ·exact⟨⟨rfl,if_pos ⟨p.2,o,hb⟩⟩,fun z=>by subst z;rw[p.2]at h0;cases h0⟩) fun b p=>by
  rcases p with⟨p,_⟩|p
  ·cases p.1
  ·cases p.1
 have r':ah X.K (aG H1 a (.lst vs')) (jq ow' x true) l' vs':=(r1.mono (st fun z=>z.2 rfl)).imp fun _ _ p=>p.1
 refine⟨ow',⟨fun y e o h=>?_,fun b hb=>?_⟩,fun b o h c=>?_,fun b o h z=>(o1 b o h).trans z⟩
 ·rw[dl]at h
  by_cases hy:y=x
  ·subst hy
   rw[if_pos rfl]at h
   cases h
   exact⟨i,.ref a,hi,hv,hs,by rw[aj];exact⟨a,vs',true,rfl,aD,⟨rfl,ho'⟩,r'⟩⟩
  ·rw[if_neg hy]at h
   obtain⟨j,w,e1,e2,e3,e4⟩:=E1.get y e o h
   refine⟨j,w,e1,e2,e3,e4.mono (st fun p=>?_)⟩
   cases o with
   | true=>have:=p.2;rw[ho']at this;cases this;exact hy rfl
   | false=>have:=p rfl;rw[ho']at this;cases this
 ·by_cases hz:b=a
  ·subst hz;exact⟨_,aD⟩
  ·rw[ax hz];exact E1.own b hb
 ·rw[ax (fun z=>by
   subst z
   rw[h0]at h;cases h
   rcases c with c|c
   ·exact c
   ·rw[ho]at c;cases c)]
  exact sm b o h
theorem jr{env:Env}{pos:Pos}:∀{es:List Expr},(∀e∈es,∀x p,e ≠ .Starred x p)->(backTo pos (starEach es env)).all (fun x => !x.1)=true
 | [],_=>rfl
 | e::es,h=>by
  have ih:=jr (env:=env) (es:=es) (pos:=pos) fun x hx=>h x (QB _ hx)
  have he:=h e QE
  cases e<;>first|exact absurd rfl (he _ _)|exact ih
theorem Fj{M:List D->List D->Nat->Rs (List D)}(hcalm:X.calm=true)(hM:lm m M)(hx:ρ x=some (.lst l,true))(h:AD X ρ args ds k)(hst:∀e∈args,∀y p,e ≠ .Starred y p)(hlen:args.length=ds.length)
  (hn:cQ x=true) (hln:(ap.endLine==cp.line)=true) (hm:M l ds k=.ok l' o) (hp:aH o):SD X H0 ρ (.Expr (.Call (.Attribute (.Name x p1) m ap) args [] cp) p4) (.nx (bP ρ x (.lst l',true))):=by
 obtain⟨id,r,sl,ty,mt,hr⟩:=hM X hcalm
 intro pins s σ H D I ⟨ow,E,hl,B,q⟩
 obtain⟨i,a,vs,g1,g2,g3,g4,g5,g6⟩:=mL I E hx
 have pn:PE X (.Name x p1) (gH i):=dO g1 g2 (bU hn).1 (bU hn).2
 have fin:∀(H1:Hp) (ws:List V),av H H1->ah X.K H1 (Kp ow H k) ds ws->r (.ref a) ws H1 fun _ H2=>D.nx σ H2:=fun H1 ws s1 r1 =>
  (hr ow H H1 l ds l' k o a vs ws hm hp).2 (fun b c=>(jq ow x true b c/\b≠a)\/Kp ow H 0 b c) _ (fun _ _ p=>.inr p) E.own s1 (s1 _ _ g4) ((g6.same s1).imp fun _ _ p=>.inl p) r1 fun vs' _ rv=>by
   obtain⟨ow',E',k'⟩:=oP E s1 g1 g3 g2 g4 g5 rv
   exact q ow' σ _ E' hl k'
 have few:ds.length<29:=(hr ow H H l ds l' k o a vs vs hm hp).1
 cases args with
 | nil =>
  have e0:ds=[]:=R9.mp hlen.symm
  refine gZ (FX PySem.F.plainAttrs_list sl ty mt pn rfl hln) rfl pins s σ H D I ⟨_,g3,.inl ⟨rfl,_,cj.of g4⟩,?_⟩
  exact fin H [] (av.refl _) (by rw[e0];exact ah.nil)
 | cons e es =>
  have hfew:((backTo cp (starEach (e::es) X.env)).all (fun x => !x.1)&&(backToKw cp (keywordEach [] X.env)).all (fun x=>x.1.isSome)&&decide ((e::es).length+([]:List Keyword).length+(if ([]:List Keyword).isEmpty then 0 else 1)<30))=true:=by
   rw[jr hst,hlen]
   have:decide (ds.length+0+0<30)=true:=by simp;omega
   exact this
  refine gZ (Bi PySem.F.plainAttrs_list sl ty mt pn (h ow) rfl hfew hln (aA (hst e QE)) (be fun x hx=>hst x (QB _ hx))) rfl pins s σ H D I ⟨_,g3,.inl ⟨rfl,_,cj.of g4⟩,E,fun ws H1 s1 r1=>?_⟩
  exact fin H1 ws s1 r1
theorem mQ:∀{l:List D} {j:Nat} {d:D},az l=true->d.lless=true->az (l.set j d)=true
 | [],j,d,h,f=>by simp[az]
 | x::l,0,d,h,f=>by
  rw[az,QN]at h
  rw[List.set_cons_zero,az,QN];exact⟨f,h.2⟩
 | x::l,j+1,d,h,f=>by
  rw[az,QN]at h
  rw[List.set_cons_succ,az,QN];exact⟨h.1,mQ h.2 f⟩
theorem ah.set{K:W.Frag}{P:bj}{H:Hp}{d:D}{v:V}(r:aj K H P d v):∀{l:List D} {vs:List V} (j:Nat),ah K H P l vs->ah K H P (l.set j d) (vs.set j v)
 | [],vs,j,h=>by rw[ah]at h;subst h;simp;exact ah.nil
 | x::l,vs,0,h=>by
  rw[ah]at h
  obtain⟨w,u,rfl,h1,h2⟩:=h
  exact ah.cons r h2
 | x::l,vs,j+1,h=>by
  rw[ah]at h
  obtain⟨w,u,rfl,h1,h2⟩:=h
  exact ah.cons h1 (ah.set r j h2)
theorem zj{i:Expr}{j:Int}(hx:ρ x=some (.lst l,true))(h:ED X ρ e d k)(hi:ED X ρ i (.int j) k2)(f:az l=true)(fd:d.lless=true)(hn:cQ x=true)(hm:setD l j d=some l')(hsl:∀a b c p,i ≠ .Slice a b c p) :
  SD X H0 ρ (.Assign [.Subscript (.Name x p1) i p2] e pos) (.nx (bP ρ x (.lst l',true))):=by
 unfold setD at hm
 cases hj:ixN l.length j with
 | none=>rw[hj]at hm;cases hm
 | some n =>
  rw[hj]at hm;cases hm
  intro pins s σ H D I ⟨ow,E,hl,B,q⟩
  obtain⟨ix,a,vs,g1,g2,g3,g4,g5,g6⟩:=FZ E hx
  have pn:PE X (.Name x p1) (gH ix):=dO g1 g2 (bU hn).1 (bU hn).2
  refine hW (h ow) (j9 pn (hi ow) hJ (fun v=>by cases i<;>first|rfl|exact absurd rfl (hsl _ _ _ _))) jT (by cases e<;>rfl) rfl pins s σ H D I ⟨E,fun v H1 s1 r1=>?_⟩
  refine⟨_,g3,E.same s1,fun u H2 s2 r2=>?_⟩
  rw[aj]at r2;subst r2
  have s12:=s1.trans s2
  refine⟨a,vs,j,n,rfl,rfl,s12 _ _ g4,by rw[<- g6.length];exact hj,?_⟩
  exact q ow σ _ (yf (E.same s12) g1 g3 g2 (s12 _ _ g4) g5 (mQ f fd) (ah.set ((r1.imp fun _ _ _=>True.intro).same s2) n (g6.same s12))) hl (jt s12 g4 g5)
def rSetD:wo:=fun o i v H Q => ∃p kvs k,o=.ref p/\i=kV k/\H p=some (.dK kvs)/\kvs.length<sizeLine/\Q (aG H p (.dK (zq kvs k v)))
theorem J0{op:Operator}{r:R2}(h:cP X (inplaceOp op) r):KQ X op r:=h
theorem zR:cP X (inplaceOp .Mult) (rI (fun i j=>cg i j) fun i j=>.int (i*j)):=uu fun _ _ _ _ _ _ _ hc q=>imul_int q (rP hc)
theorem xU:cP X (inplaceOp .FloorDiv) (rI (fun _ j=>jD j) fun i j=>.int (i.fdiv j)):=uu fun i j _ _ _ _ _ hc q=>ifloordiv_int hc.1 q (.inl (PyProof.noPylong_of_log2 (by
 rcases R0 j.natAbs with h1|hp
 ·exact absurd (by simpa using h1) hc.1
 ·exact(Nat.log2_lt (RL hp)).mpr hc.2)))
theorem Fm{op:Operator}{a b:Int}{o:Bool}{l:List Prop}(G:aO Φ X sc)(hx:cS sc x=true)(ha:ρ x=some (.int a,o))(h:ED X ρ e (.int b) k)(hr:AE op a b=.ok (d,k2) l)(hp:aH l) :
  SD X H0 ρ (.AugAssign (.Name x p) op e pos) (.nx (bP ρ x (d,true))):=by
 obtain⟨g1,g2,g3,i,g4⟩:=fM G hx
 obtain⟨r,hr1,hr2⟩:∃r:R2,cP X (inplaceOp op) r/\d.lless=true/\∀H (Q:VK),(∀v,aj X.K H (fun _ _=>False) d v->Q v H)->r (.int a) (.int b) H Q:=by
  unfold AE at hr
  split at hr
  ·cases hr;exact⟨_,DB,rfl,fun H Q q=>⟨a,b,rfl,rfl,q _ (by rw[aj])⟩⟩
  ·cases hr;exact⟨_,DA,rfl,fun H Q q=>⟨a,b,rfl,rfl,q _ (by rw[aj])⟩⟩
  ·cases hr;exact⟨_,zR,rfl,fun H Q q=>⟨a,b,rfl,rfl,hp.1,q _ (by rw[aj])⟩⟩
  ·cases hr;exact⟨_,xU,rfl,fun H Q q=>⟨a,b,rfl,rfl,hp.1,q _ (by rw[aj])⟩⟩
  ·cases hr
 intro pins s σ H D I ⟨ow,E,hl,B,q⟩
 obtain⟨i2,v,e1,e2,e3,e4⟩:=E.get x _ _ ha
 rw[aj]at e4;subst e4
 have hi:i2=i:=ig G.nd e1 g4
 subst hi
 refine FG (i:=i2) G.nd g4 g1 (h ow) (J0 hr1) g3 pins s σ H D I ⟨.int a,e3,E,fun v H1 s1 r1=>?_⟩
 rw[aj]at r1;subst r1
 refine hr2.2 H1 _ fun w rw'=>?_
 exact q ow _ H1 (eR G.nd hl (E.same s1) g4 g2 (rw'.flat _ hr2.1)) (by rw[Rh];exact hl) (bf.same s1)
theorem vL:lm "append" ol:=fun X hc=>⟨"list.append", _,PySem.F.slot_list_append,PySem.F.type_list_append,pB,fun ow H0 H l ds l' j o a vs ws h hp=>by
 unfold ol at h
 split at h
 ·rename_i d
  cases h
  have c:=hp.1
  refine⟨by simp,fun P Q hP oi sm ha rl rd q=>?_⟩
  obtain⟨w,rfl,rw'⟩:=rd.only
  refine⟨a,vs,w,rfl,rfl,ha,?_,q _ _ (rl.append (ah.one ?_))⟩
  ·rw[<- rl.length];exact Nat.lt_trans hp.2.1 pD
  ·rcases c with c|c
   ·exact rw'.flat _ c
   ·subst c;exact rw'.imp hP
 ·cases h⟩
theorem ah.rev{K:W.Frag}{P:bj}{H:Hp}:∀{l:List D} {vs:List V},ah K H P l vs->ah K H P l.reverse vs.reverse
 | [],vs,h=>by rw[ah]at h;subst h;exact ah.nil
 | d::l,vs,h=>by
  rw[ah]at h
  obtain⟨v,r,rfl,h1,h2⟩:=h
  rw[List.reverse_cons,List.reverse_cons]
  exact(ah.rev h2).append (ah.one h1)
variable{X:Cx}
theorem lV(x:Str)(E:aF X ow H σ ρ):∃ow',aF X ow' H σ (demX x ρ)/\bf ow H ow' H:=by
 classical
 unfold demX
 let ow':Ow:=fun a=>if ow a=some (some x)then none else ow a
 have o1:∀a,ow a=none->ow' a=none:=fun a h=>by show(if _ then _ else _)=_;split;rfl;exact h
 refine⟨ow',⟨fun y e o h=>?_,fun a ha=>?_⟩,fun a o h _=>h,fun a o h z=>o1 a z⟩
 ·by_cases hy:y=x
  ·subst hy
   simp only[SJ]at h
   cases hd:ρ y with
   | none=>rw[hd]at h;cases h
   | some q =>
    obtain⟨d,o'⟩:=q
    rw[hd]at h
    cases h
    obtain⟨j,w,e1,e2,e3,e4⟩:=E.get y _ _ hd
    refine⟨j,w,e1,e2,e3,e4.imp fun a b p z=>?_⟩
    cases o' with
    | true=>exact if_pos p.2
    | false=>exact o1 a (p z)
  ·simp only[if_neg hy]at h
   obtain⟨j,w,e1,e2,e3,e4⟩:=E.get y e o h
   refine⟨j,w,e1,e2,e3,e4.imp fun a b p=>?_⟩
   cases o with
   | true=>exact⟨p.1,by show(if _ then _ else _)=_;rw[if_neg (fun z=>by rw[p.2]at z;cases z;exact hy rfl)];exact p.2⟩
   | false=>exact fun z=>o1 a (p z)
 ·refine E.own a fun z=>ha (o1 a z)
theorem Ec(x:Str)(ρ:ag):demA x ρ=ρ\/demA x ρ=demX x ρ:=by
 cases h:ρ x with
 | none=>exact .inl (funext fun y=>by unfold demA;split;(rename_i e;subst e;rw[h];rfl);rfl)
 | some p =>
  cases hl:p.1.lless with
  | true=>exact .inl (funext fun y=>by unfold demA;split;(rename_i e;subst e;rw[h];show some (p.1,p.2&&p.1.lless)=_;rw[hl,Bool.and_true]);rfl)
  | false=>exact .inr (funext fun y=>by unfold demA demX;split;(rename_i e;subst e;rw[h];show some (p.1,p.2&&p.1.lless)=_;rw[hl,Bool.and_false];rfl);rfl)
theorem jC:∀{es:List Expr} {ow:Ow} {H:Hp} {σ:L2.St} {ρ:ag},aF X ow H σ ρ->∃ow',aF X ow' H σ (demL es ρ)/\bf ow H ow' H
 | [],ow,H,σ,ρ,E=>⟨ow,E,bf.refl _ _⟩
 | e::es,ow,H,σ,ρ,E=>by
  have one:∀x,∃ow',aF X ow' H σ (demL es (demA x ρ))/\bf ow H ow' H:=fun x=>by
   rcases Ec x ρ with h|h
   ·rw[h];exact jC E
   ·rw[h]
    obtain⟨ow1,E1,k1⟩:=lV x E
    obtain⟨ow2,E2,k2⟩:=jC (es:=es) E1
    exact⟨ow2,E2,k1.trans k2⟩
  unfold demL
  split
  ·rename_i z;cases z
  ·rename_i z;cases z;exact one _
  ·rename_i z;cases z;exact one _
  ·rename_i z;cases z;exact jC E
theorem nu(E:aF X ow H σ ρ):∃ow',aF X ow' H σ (demote e ρ)/\bf ow H ow' H:=by
 unfold demote
 split
 ·exact lV _ E
 ·exact lV _ E
 ·exact jC E
 ·exact⟨ow,E,bf.refl _ _⟩
def af{α:Type}(r:Rs α)(a:α):Prop:=∃l,r=.ok a l/\aH l
theorem aw{r:Rs α}{f:α->Rs β}{b:β}(h:af (r.bnd f) b):∃a,af r a/\af (f a) b:=by
 obtain⟨l,h,hp⟩:=h
 obtain⟨a,l1,l2,h1,p1,h2,p2⟩:=aR h hp
 exact⟨a,⟨l1,h1,p1⟩,l2,h2,p2⟩
theorem au{a:α}(h:af (.st) a):False:=by obtain⟨l,h,_⟩:=h;cases h
theorem aI{a b:α}{l:List Prop}(h:af (.ok a l) b):a=b:=by obtain⟨m,h,_⟩:=h;cases h;rfl
theorem Fk{bind:D->ag->Option ag}(hp:PassesOwn (model X.prog X.w) X.A X.env X.xe)(hcalm:X.calm=true)
  (hi:IE X (demote iter ρ) tg iter ds k) (hk:k<=1) (hg:∀d ρ ρ',bind d ρ=some ρ'->GD X ρ tg d ρ') (hb:∀ρ fl,af (bodyF ρ) fl->fc X H0 ρ body fl) (h:af (dH bind bodyF ds (demote iter ρ)) fl)
  (hs:∀x,foldedSetIterable iter X.env x=pure x):SD X H0 ρ (.For tg iter body [] pos) fl:=by
 intro pins s σ H D0 I ⟨ow0,E0,hl,B0,q0⟩
 obtain⟨ow,E,k0⟩:=nu (e:=iter) E0
 have B:=B0.keep k0
 have q:=q0.keep k0
 have pb:dP X body (fun D σ H => ∃ρ fl,af (bodyF ρ) fl/\wU X H0 ρ fl D σ H):=fun pins s σ H D I ⟨ρ1,fl1,h1,h2⟩=>hb ρ1 fl1 h1 pins s σ H D I h2
 have pg:PG X tg (fun v σ H Q => ∃g:TG,PG X tg g/\g v σ H Q):=fun pins s σ H v u Q I r ⟨g,h1,h2⟩=>h1 pins s σ H v u Q I r h2
 refine rE hp hcalm (hi ow) pg pb hs pins s σ H D0 I ⟨E,fun J H1 s1 itd=>?_⟩
 refine⟨fun i m σ' H'=>m=ds.length-i/\i<=ds.length/\∃ow' ρ',aF X ow' H' σ' ρ'/\σ'.length=X.N.length/\bQ H0 ow' H'/\bf ow H1 ow' H'/\af (dH bind bodyF (ds.drop i) ρ') fl,
  ⟨ds.length,by simp,QZ _,ow,_,E.same s1,hl,B.keep (bf.same s1),bf.refl _ _,h⟩,?_⟩
 rintro i m σ' H' ⟨rfl,hile,ow',ρ',E',hl',B',k',hf⟩
 have q':mj X H0 ow' H' fl D0:=q.keep ((bf.same s1).trans k')
 have st:dM (Kd ow H k H1) (Kd ow H k H1) H1 H':=⟨fun a o ha hn=>k'.keep a o ha (.inl hn),fun a vs ha p=>k'.keep a _ ha (.inr (fF E.own hk p.1)),fun _ _ _ p=>p,fun _ p=>p⟩
 have it:=itd i H' st
 by_cases hlt:i<ds.length
 ·obtain⟨go,yl⟩:=it.1 ds[i] (QL hlt)
  have hdrop:ds.drop i=ds[i]::ds.drop (i+1):=List.drop_eq_getElem_cons hlt
  rw[hdrop,dH]at hf
  refine .inr ⟨go,fun σ2 H2=>i+1<=ds.length/\∃ow2 ρ2,aF X ow2 H2 σ2 ρ2/\σ2.length=X.N.length/\bQ H0 ow2 H2/\bf ow H1 ow2 H2/\af (dH bind bodyF (ds.drop (i+1)) ρ2) fl,fun σ2 H2 n=>⟨ds.length-(i+1),by omega,rfl,n.1,n.2⟩,fun x H3 y3=>?_⟩
  obtain⟨sm3,rx⟩:=yl x H3 y3
  cases hbd:bind ds[i] ρ' with
  | none=>rw[hbd]at hf;exact(au hf).elim
  | some ρ1 =>
   rw[hbd]at hf
   dsimp only at hf
   obtain⟨g,g1,g2⟩:=hg _ _ _ hbd
   have rx':aj X.K H3 (fun a b=>b=true->ow' a=none) ds[i] x:=rx.impH (fun a o ha p _=>by
    obtain⟨o1,h1⟩:=p.2 rfl
    exact k'.low a o1 h1 (fF E.own hk p.1)) fun a _ z=>(by cases z)
   refine⟨g,g1,g2 ow' x σ' H3 _ hl' (E'.same sm3) rx' fun σ2 hl2 E2=>?_⟩
   have k3:bf ow' H' ow' H3:=bf.same sm3
   obtain⟨f1,hbo,hf⟩:=aw hf
   refine⟨ρ1,f1,hbo,ow',E2,hl2,B'.keep k3,?_⟩
   cases f1 with
   | nx ρ2=>exact fun ow2 σ3 H4 a b c=>⟨hlt,ow2,ρ2,a,b,(B'.keep k3).keep c,k'.trans (k3.trans c),hf⟩
   | ct ρ2=>exact fun ow2 σ3 H4 a b c=>⟨hlt,ow2,ρ2,a,b,(B'.keep k3).keep c,k'.trans (k3.trans c),hf⟩
   | bk ρ2=>cases aI hf;exact fun ow2 σ3 H4 a b c=>q' ow2 σ3 H4 a b (k3.trans c)
   | rt d=>cases aI hf;exact q'
 ·have ei:i=ds.length:=by omega
  subst ei
  rw[List.drop_length,dH]at hf
  cases aI hf
  exact .inl ⟨it.2 (QF _),q' ow' σ' H' E' hl' (bf.refl _ _)⟩
theorem zi{test:ag->Rs Bool}(hp:PassesOwn (model X.prog X.w) X.A X.env X.xe)
  (hc:∀ρ b,af (test ρ) b->TD X ρ c b) (hb:∀ρ fl,af (bodyF ρ) fl->fc X H0 ρ body fl) {n0:Nat} {ρ0:ag} (h:af (lz test bodyF n0 ρ0) fl):SD X H0 ρ0 (.While c body [] pos) fl:=by
 intro pins s σ H D0 I ⟨ow,E,hl,B,q⟩
 have pc:PT X c (fun σ H Q => ∃ow ρ b,af (test ρ) b/\A5 X ow ρ b σ H Q):=fun pins s σ H Q I ⟨ow,ρ,b,h1,h2⟩=>hc ρ b h1 ow pins s σ H Q I h2
 have pb:dP X body (fun D σ H => ∃ρ fl,af (bodyF ρ) fl/\wU X H0 ρ fl D σ H):=fun pins s σ H D I ⟨ρ1,fl1,h1,h2⟩=>hb ρ1 fl1 h1 pins s σ H D I h2
 refine zt hp pc pb pins s σ H D0 I ?_
 refine⟨fun m σ' H' => ∃ow' ρ',aF X ow' H' σ' ρ'/\σ'.length=X.N.length/\bQ H0 ow' H'/\bf ow H ow' H'/\af (lz test bodyF m ρ') fl,⟨n0,ow,ρ0,E,hl,B,bf.refl _ _,h⟩,?_⟩
 rintro m σ' H' ⟨ow',ρ',E',hl',B',k',hw⟩
 have q':mj X H0 ow' H' fl D0:=q.keep k'
 cases m with
 | zero=>exact(au hw).elim
 | succ m =>
  rw[lz]at hw
  obtain⟨b,ht,hw⟩:=aw hw
  refine⟨ow',ρ',b,ht,E',fun H1 s1=>?_⟩
  have k1:bf ow' H' ow' H1:=bf.same s1
  cases b with
  | false =>
   cases aI hw
   exact q' ow' σ' H1 (E'.same s1) hl' k1
  | true =>
   rw[cond_true]at hw
   show if true=true then _ else _
   rw[if_pos rfl]
   refine⟨fun σ2 H2 => ∃ow2 ρ2,aF X ow2 H2 σ2 ρ2/\σ2.length=X.N.length/\bQ H0 ow2 H2/\bf ow H ow2 H2/\af (lz test bodyF m ρ2) fl,fun σ2 H2 z=>⟨m,Q5 _,z⟩,?_⟩
   obtain⟨f1,hbo,hw⟩:=aw hw
   refine⟨ρ',f1,hbo,ow',E'.same s1,hl',B'.keep k1,?_⟩
   cases f1 with
   | nx ρ2=>exact fun ow2 σ3 H4 a b c=>⟨ow2,ρ2,a,b,(B'.keep k1).keep c,k'.trans (k1.trans c),hw⟩
   | ct ρ2=>exact fun ow2 σ3 H4 a b c=>⟨ow2,ρ2,a,b,(B'.keep k1).keep c,k'.trans (k1.trans c),hw⟩
   | bk ρ2=>cases aI hw;exact fun ow2 σ3 H4 a b c=>q' ow2 σ3 H4 a b (k1.trans c)
   | rt d=>cases aI hw;exact q'
theorem bv{p:D×Nat}(h:af (aC Φ e it sc ρ) p)(G:aO Φ X sc):fJ X ρ e it p.1 p.2:=let ⟨_,h,hp⟩:=h;Kk e h hp G
theorem xT(h:il e=true):(∃a b c d,e=.ListComp a b c d)\/∀(Φ:Fx) (sc:Scope) (ρ:ag),aC Φ e false sc ρ=.st:=by
 cases e<;>first|exact .inl ⟨_,_,_,_,rfl⟩|exact .inr fun _ _ _=>rfl|cases h
theorem pj{r:D×Nat}{o:Bool}(G:aO Φ X sc)(hx:cS sc x=true)(h:af (aC Φ e false sc ρ) r)(ho:(r.2=0/\o=true)\/(r.2=1/\o=false)) :
  SD X H0 ρ (.Assign [.Name x p] e pos) (.nx (bP ρ x (r.1,o))):=by
 by_cases hc:il e=true
 ·rcases xT hc with⟨elt,gens,scope,q,rfl⟩|hno
  rotate_left
  ·rw[hno]at h;exact(au h).elim
  ·clear hc
   have hsw:∃b,swapsWith (.ListComp elt gens scope q) (some (.Name x p)) pos.line X.env=pure b:=⟨_,rfl⟩
   obtain⟨b,hsw⟩:=hsw
   cases b with
   | false=>exact jY G hx ((bv h G).ed rfl) ho hsw
   | true =>
    obtain⟨l,h,hp⟩:=h
    obtain⟨tg,iter,ifs,rfl⟩:=ou h
    obtain⟨ds,f,k1,a1,a2,a3,a4,a5,a6,a7,a8,a9⟩:=ue (im Φ _) (Q5 _) h hp G
    obtain⟨g1,g2,g3,i,g4⟩:=fM G hx
    rw[a9]
    intro pins s σ H D0 I ⟨ow,E,hl,B,q⟩
    refine CZ (D0:=D0) (i:=i) G.calm G.nd a1 a2 a3 a4 a5 a6 a7 a8 I E hsw g4 g1 g3 fun v H1 s1 r1=>?_
    rcases ho with⟨ho,rfl⟩|⟨ho,rfl⟩<;>rw[ho]at r1
    ·obtain⟨ow',E',k'⟩:=oO G.nd hl E s1 g4 g2 r1
     exact q ow' _ H1 E' (by rw[Rh];exact hl) k'
    ·exact q ow _ H1 (eR G.nd hl (E.same s1) g4 g2 r1) (by rw[Rh];exact hl) (bf.same s1)
 ·exact jY G hx ((bv h G).ed rfl) ho (dY (by simpa using hc))
theorem tR{r:D×Nat}(h:af (aC Φ e it sc ρ) r):∀a b c p,e ≠ .Slice a b c p:=by
 intro a b c p z;subst z;exact(au h).elim
theorem rH{f:List D->Rs Fl}(h:af (vC ρ x f) fl):∃l,ρ x=some (.lst l,true)/\cQ x=true/\af (f l) fl:=by
 unfold vC at h
 split at h
 ·rename_i l e
  split at h
  ·rename_i c
   exact⟨l,e,c,h⟩
  ·exact(au h).elim
 ·exact(au h).elim
theorem gb{a b:α}{l:List Prop}(h:af (.ok a l) b):a=b/\aH l:=by obtain⟨m,h,hp⟩:=h;cases h;exact⟨rfl,hp⟩
theorem qY{i:D}(h:af (nX ρ x i d) fl):(∃l j l',ρ x=some (.lst l,true)/\az l=true/\cQ x=true/\i=.int j/\setD l j d=some l'/\d.lless=true/\fl=.nx (bP ρ x (.lst l',true)))\/False:=by
 unfold nX at h
 split at h
 ·rename_i l e
  split at h
  ·split at h
   ·rename_i hn
    split at h
    ·rename_i l' hs
     obtain⟨h9,h1,h2,_⟩:=gb h
     exact .inl ⟨l,_,l',e,h1,hn,rfl,hs,h2,h9.symm⟩
    ·exact(au h).elim
   ·exact(au h).elim
  ·exact(au h).elim
 ·exact(au h).elim
 ·exact(au h).elim
theorem FY(h:af (ld Φ es e sc ρ) fl)(G:aO Φ X sc):SD X H0 ρ (.Assign [.Tuple es n p] e pos) fl:=by
 unfold ld at h
 split at h
 ·split at h
  ·rename_i hp
   obtain⟨q,⟨lq,h1,hq⟩,h⟩:=aw h
   split at h
   ·rename_i u v hd
    split at h
    ·rename_i hf
     cases aI h
     obtain⟨n1,_⟩:=cf h1 hq
     have c:=fN _ h1 hq G
     rw[hd]at c
     exact Fi G c hf hp (n1 _ (by simp)) (n1 _ (by simp))
    ·exact(au h).elim
   ·exact(au h).elim
  ·exact(au h).elim
 ·exact(au h).elim
theorem IC(h:af (nr Φ tgs e sc ρ) fl)(G:aO Φ X sc):SD X H0 ρ (.Assign tgs e pos) fl:=by
 unfold nr at h
 split at h
 ·obtain⟨p,h1,h⟩:=aw h
  unfold n6 at h
  split at h
  ·rename_i hx
   split at h
   ·rename_i ho;cases aI h;exact pj G hx h1 (.inl ⟨ho,rfl⟩)
   ·rename_i ho;cases aI h;exact pj G hx h1 (.inr ⟨ho,rfl⟩)
   ·exact(au h).elim
  ·exact(au h).elim
 ·split at h
  ·exact FY h G
  ·rename_i ht
   have ht:=Bool.eq_false_iff.mpr ht
   obtain⟨p,h1,h⟩:=aw h
   split at h
   ·rename_i ho
    cases aI h
    exact CJ G ((bv h1 G).ed rfl) ho ht
   split at h
   ·rename_i ds hd
    split at h
    ·rename_i hf
     split at h
     ·rename_i ρ' hb
      cases aI h
      exact Fg G ((bv h1 G).ed rfl) hd hf hb ht
     ·exact(au h).elim
    ·exact(au h).elim
   ·exact(au h).elim
 ·split at h
  ·rename_i hc
   obtain⟨p,h1,h⟩:=aw h
   obtain⟨q,h2,h⟩:=aw h
   have c2:=(bv h2 G).ed rfl
   rcases qY h with⟨l,j,l',a1,a2,a3,hj,hs,hf,rfl⟩|hF
   ·rw[hj]at c2
    exact zj a1 ((bv h1 G).ed rfl) c2 a2 hf a3 hs (tR h2)
   ·exact hF.elim
  ·exact(au h).elim
 ·exact(au h).elim
theorem og{p:D×Nat}{f:Int->R1}{a:D×Nat}(h:af (ju p f) a):∃b,p.1=.int b/\af (f b) a:=by
 obtain⟨l,h,hp⟩:=h
 obtain⟨b,h1,h2⟩:=zS h
 exact⟨b,h1,l,h2,hp⟩
theorem IB{t:Expr}{op:Operator}(h:af (nq Φ t op e sc ρ) fl)(G:aO Φ X sc):SD X H0 ρ (.AugAssign t op e pos) fl:=by
 unfold nq at h
 split at h
 ·split at h
  ·rename_i hx
   split at h
   ·rename_i p hp
    obtain⟨r,h1,h⟩:=aw h
    cases aI h
    obtain⟨a,ha,h3⟩:=og h1
    obtain⟨q,h2,h4⟩:=aw h3
    obtain⟨b,hb,h5⟩:=og h4
    obtain⟨l,h9,hpl⟩:=h5
    have c:=(bv h2 G).ed rfl
    rw[hb]at c
    obtain⟨p1,p2⟩:=p
    have ha:p1=.int a:=ha
    subst ha
    exact Fm G hx hp c h9 hpl
   ·exact(au h).elim
  ·exact(au h).elim
 ·exact(au h).elim
theorem He(h:af (nl Φ e sc ρ) fl)(G:aO Φ X sc):SD X H0 ρ (.Expr e pos) fl:=by
 unfold nl at h
 split at h
 ·split at h
  ·rename_i hln
   obtain⟨p,⟨lp,h1,hp1⟩,h⟩:=aw h
   split at h
   ·rename_i M hM
    obtain⟨l,a1,a3,h⟩:=rH h
    obtain⟨l',⟨o,h2,hp2⟩,h⟩:=aw h
    cases aI h
    obtain⟨n1,n2⟩:=cf h1 hp1
    exact Fj G.calm (G.mtt _ M hM) a1 (fN _ h1 hp1 G) n1 n2 a3 hln h2 hp2
   ·exact(au h).elim
  ·exact(au h).elim
 ·obtain⟨p,h1,h⟩:=aw h
  cases aI h
  exact CN ((bv h1 G).ed rfl) ⟨_,_,_,_,_,rfl⟩
 ·exact(au h).elim
structure Is(Φ:Fx)(n:Nat):Prop where
 s:∀(st:Stmt) {sc:Scope} {ρ:ag} {fl:Fl} {X:Cx} {H0:Hp},sizeOf st<n->af (ff Φ st sc ρ) fl->aO Φ X sc->PassesOwn (model X.prog X.w) X.A X.env X.xe->SD X H0 ρ st fl
 ss:∀(st:List Stmt) {sc:Scope} {ρ:ag} {fl:Fl} {X:Cx} {H0:Hp},sizeOf st<n->af (aJ Φ st sc ρ) fl->aO Φ X sc->PassesOwn (model X.prog X.w) X.A X.env X.xe->fc X H0 ρ st fl
theorem hZ{p:D×Nat}{f:Bool->Rs α}{a:α}(h:af (ji p f) a):∃b,p.1=.bl b/\af (f b) a:=by
 obtain⟨l,h,hp⟩:=h
 obtain⟨b,h1,h2⟩:=lh h
 exact⟨b,h1,l,h2,hp⟩
theorem Ki(I:Is Φ n)(st:Stmt)(hs:sizeOf st<n+1)(h:af (ff Φ st sc ρ) fl)(G:aO Φ X sc)(hp:PassesOwn (model X.prog X.w) X.A X.env X.xe):SD X H0 ρ st fl:=by
 cases st with
 | Return e p =>
  cases e with
  | none=>cases aI h;exact CF
  | some e =>
   obtain⟨p,h1,h⟩:=aw (show af (Rs.bnd _ _) fl from h)
   unfold vo at h
   split at h
   ·rename_i hk
    cases aI h
    unfold rq at h1
    cases hn:qE e with
    | true=>rw[hn]at h1;exact CG ((bv h1 G).ed rfl) hk
    | false=>rw[hn]at h1;exact xm ((bv h1 G).ed rfl) hk
   ·exact(au h).elim
 | Pass p=>cases aI h;exact CI
 | Break p=>cases aI h;exact zk
 | Continue p=>cases aI h;exact CO
 | Assign tgs e p=>exact IC h G
 | AugAssign t op e p=>exact IB h G
 | Expr e p=>exact He h G
 | If c a b p =>
  obtain⟨p,h1,h⟩:=aw (show af (Rs.bnd _ _) fl from h)
  obtain⟨t,ht,h⟩:=hZ h
  refine qC ((bv h1 G).td rfl t ht) ?_
  cases t with
  | true=>rw[if_pos rfl];exact I.ss _ (bo (by simp<;>omega) hs) h G hp
  | false=>rw[if_neg QP];exact I.ss _ (bo (by simp<;>omega) hs) h G hp
 | For tg it body els p =>
  rw[oE]at h
  split at h
  ·rename_i he
   have he:=List.isEmpty_iff.mp he
   subst he
   obtain⟨p,h1,h⟩:=aw h
   split at h
   ·rename_i ds hd
    split at h
    ·rename_i hk
     obtain⟨lq,h1',_⟩:=id h1
     exact Fk hp G.calm ((bv h1 G).ie rfl _ ds hd hk.2) hk.1 (fun d ρ ρ' hb=>mY G hb) (fun ρ1 f1 h2=>I.ss _ (bo (by simp<;>omega) hs) h2 G hp) h (iO h1')
    ·exact(au h).elim
   ·exact(au h).elim
  ·exact(au h).elim
 | While c body els p =>
  rw[sF]at h
  split at h
  ·rename_i he
   have he:=List.isEmpty_iff.mp he
   subst he
   refine zi hp (fun ρ b hb=>?_) (fun ρ1 f1 h2=>I.ss _ (bo (by simp<;>omega) hs) h2 G hp) h
   obtain⟨p,h1,hb⟩:=aw hb
   obtain⟨t,ht,hb⟩:=hZ hb
   cases aI hb
   exact(bv h1 G).td rfl _ ht
  ·exact(au h).elim
 | _=>exact(au h).elim
theorem Hd(I:Is Φ n)(ss:List Stmt)(hs:sizeOf ss<n+1)(h:af (aJ Φ ss sc ρ) fl)(G:aO Φ X sc)(hp:PassesOwn (model X.prog X.w) X.A X.env X.xe):fc X H0 ρ ss fl:=by
 cases ss with
 | nil=>cases aI h;exact Cs
 | cons s ss =>
  obtain⟨f1,h1,h⟩:=aw (show af (Rs.bnd _ _) fl from h)
  have c:=I.s s (H0:=H0) (bo (by simp<;>omega) hs) h1 G hp
  cases f1 with
  | nx ρ'=>exact ee c (I.ss ss (bo (by simp<;>omega) hs) h G hp)
  | bk ρ'=>cases aI h;exact g8 c (fun _ z=>(by cases z))
  | ct ρ'=>cases aI h;exact g8 c (fun _ z=>(by cases z))
  | rt d=>cases aI h;exact g8 c (fun _ z=>(by cases z))
theorem je(Φ:Fx):∀n,Is Φ n
 | 0=>⟨fun _ _ _ _ _ _ h=>absurd h (Rw _),fun _ _ _ _ _ _ h=>absurd h (Rw _)⟩
 | n+1=>⟨fun e _ _ _ _ _ hs h G hp=>Ki (je Φ n) e hs h G hp,fun e _ _ _ _ _ hs h G hp=>Hd (je Φ n) e hs h G hp⟩
theorem nk(ss:List Stmt)(h:af (aJ Φ ss sc ρ) fl)(G:aO Φ X sc)(hp:PassesOwn (model X.prog X.w) X.A X.env X.xe):fc X H0 ρ ss fl:=(je Φ _).ss ss (Q5 _) h G hp
def aq(sc:Scope):List Str:=(sc.names.filter fun y=>y.2 == .local || y.2 == .cell).map (·.1)
def dv(P:Program)(w:World)(K:W.Frag)(mg:Str->Option Value)(base:Heap)(k:Nat)(g:Str)(F:List D->Rs D):Prop :=
 ∃f fd ps,br P w K mg base cz k f fd ps (ja K F)/\mg g=some (.ref f)/\W.keepIn K (.ref f)=true/\bH K fd ps []/\(g==("__debug__" : Str))=false
theorem dv.mono(h:dv P w K mg base j g F)(hjk:j<=k):dv P w K mg base k g F :=
 let ⟨f,fd,ps,h1,h2⟩:=h;⟨f,fd,ps,h1.mono hjk,h2⟩
def tF(P:Program)(w:World)(K:W.Frag)(mg:Str->Option Value)(base:Heap)(k:Nat)(g:Str)(F:List D->Rs D):Prop :=
 ∃j C f fd ps,j+1<=k/\(∀ds r l,F ds=.ok r l->r.lless=true)/\Mk K C f/\br P w K mg base cz j f fd ps (wZ K g F)/\mg g=some (.ref C)/\W.nsIn K mainGlobals g=some (some (.ref C))/\eJ K C/\bH K fd ps []/\(g==("__debug__" : Str))=false
theorem tF.mono(h:tF P w K mg base j g F)(hjk:j<=k):tF P w K mg base k g F :=
 let ⟨i,C,f,fd,ps,h0,h1⟩:=h;⟨i,C,f,fd,ps,QD h0 hjk,h1⟩
def KZ(P:Program)(w:World)(K:W.Frag)(mg:Str->Option Value)(base:Heap)(k:Nat)(g:Str)(F:List D->Rs D):Prop:=dv P w K mg base k g F\/tF P w K mg base k g F
def qN(P:Program)(w:World)(K:W.Frag)(mg:Str->Option Value)(base:Heap)(k:Nat)(n m:Str)(F:List D->Rs D):Prop :=
 ∃C f fd ps,W.nsIn K mainGlobals n=some (some (.ref C))/\eJ K C/\tG K C m f/\br P w K mg base cz k f fd ps (ja K F)/\bH K fd ps []
theorem qN.mono{n:Str}(h:qN P w K mg base j n m F)(hjk:j<=k):qN P w K mg base k n m F :=
 let ⟨C,f,fd,ps,h1,h2,h3,h4,h5⟩:=h;⟨C,f,fd,ps,h1,h2,h3,h4.mono hjk,h5⟩
theorem lZ:∀{ps:List Str} {ds:List D} {x:Str} {d:D} {o:Bool},dg ps ds x=some (d,o)->o=false/\∃i:Nat,ps[i]?=some x/\ds[i]?=some d
 | [],ds,x,d,o,h=>by cases ds<;>cases h
 | p::ps,[],x,d,o,h=>by cases h
 | p::ps,y::ds,x,d,o,h=>by
  replace h:(if x=p then some (y,false)else dg ps ds x)=some (d,o):=h
  by_cases e:x=p
  ·rw[if_pos e]at h
   cases h;subst e;exact⟨rfl,0,rfl,rfl⟩
  ·rw[if_neg e]at h
   obtain⟨h1,i,h2,h3⟩:=lZ h
   exact⟨h1,i+1,by simpa using h2,by simpa using h3⟩
structure jN(P:Program)(w:World)(K:W.Frag)(mg:Str->Option Value)(base:Heap)(k:Nat)(Φ:Fx):Prop where
 fn:∀g F,Φ.fn g=some F->KZ P w K mg base k g F
 con:∀x d,Φ.con x=some d->∃v u,mg x=some u/\aY v u/\∀H P,aj K H P d v
 blt:∀f B,Φ.blt f=some B->dW f B
 itr:∀f B,Φ.itr f=some B->nO f B
 mth:∀m M,Φ.mth m=some M->wu m M
 mtt:∀m M,Φ.mtt m=some M->lm m M
 slf:qM Φ.slf
 fld:∀n f,Φ.fld n f=true->∀C,W.nsIn K mainGlobals n=some (some (.ref C))->dF K C f
 omt:∀n m F,Φ.omt n m=some F->qN P w K mg base k n m F
 bl:∀n∈iA,mg n=none
def dN(Φ:Fx)(sc:Scope)(ps:List Str)(body:List Stmt)(F:List D->Rs D):Prop:=∀ds r,af (F ds) r->af (cE Φ sc ps body ds) r
theorem dN.self:dN Φ sc ps body (cE Φ sc ps body):=fun _ _ h=>h
theorem eO{f:Addr}{E:XK}
  (S:aM (aq (ae st)) ps (ae st)) (hΦ:jN P w K mg base k Φ) (hr:bC k (A.deeper (envOfC qual (ae st) s.heap.objs.size f cdv))) :
  aO Φ (cn cz P w K mg base (aq (ae st)) qual (ae st) f cdv A outer s H E).nox (ae st):=by
 have hun:=hr.un
 refine⟨rfl,S.nd,fun x hx=>hx,fun x hx=>hx,fun x hx=>hx,fun x hx=>hx,fun g' F' hg=>?_,hΦ.con,hΦ.blt,hΦ.itr,hΦ.mth,hΦ.mtt,hΦ.slf,hΦ.fld,fun n m F hF=>?_,hΦ.bl,?_,fun x hx=>?_,fun x _=>rfl⟩
 ·rcases hΦ.fn g' F' hg with z|z
  ·obtain⟨f',fd',ps',a1,a2,a3,a4,a5⟩:=z
   exact .inl ⟨k,f',fd',ps',a1,hr,a2,a3,a4,a5⟩
  ·obtain⟨j,C,f',fd',ps',a0,a1,a2,a3,a4⟩:=z
   exact .inr ⟨j,C,f',fd',ps',a1,a2,a3,hr.mono a0,a4⟩
 ·obtain⟨C,f',fd',ps',a1,a2,a3,a4,a5⟩:=hΦ.omt n m F hF
  exact⟨k,C,f',fd',ps',a1,a2,a3,a4,hr,a5⟩
 ·show(A.deeper _).units+70<cLine
  omega
 ·show x∈aq (ae st)
  unfold aq
  unfold cS at hx
  rw[Bool.or_eq_true]at hx
  rcases hx with hx|hx
  ·have hx:(ae st).names.lookup x=some .local:=by simpa using hx
   exact SI.mpr ⟨(x,.local),SK.mpr ⟨QR hx,by simp⟩,rfl⟩
  ·have hx:(ae st).names.lookup x=some .cell:=by simpa using hx
   exact SI.mpr ⟨(x,.cell),SK.mpr ⟨QR hx,by simp⟩,rfl⟩
theorem gC{f:Addr}{E:XK}
  (S:aM (aq (ae st)) ps (ae st)) (h1:ah K H (fun _ _=>True) ds vs) (hl:ds.length=ps.length) :
  aF (cn cz P w K mg base (aq (ae st)) qual (ae st) f cdv A outer s H E).nox (fun _=>none) H (start (aq (ae st)) vs) (dg ps ds)/\(start (aq (ae st)) vs).length=(aq (ae st)).length:=by
 have hpl:ps.length<=(aq (ae st)).length:=by have:=SC List.length S.pre;rw[Sn]at this;omega
 have hvl:vs.length=ps.length:=by rw[<- h1.length];exact hl
 refine⟨⟨fun x d o hx=>?_,fun a ha=>absurd rfl ha⟩,by unfold L2.start;rw[Sf,Q0,List.length_replicate];omega⟩
 obtain⟨rfl,i,i1,i2⟩:=lZ hx
 obtain⟨v,i3,i4⟩:=h1.get i2
 have hi:i<ps.length:=(QJ.mp i1).1
 refine⟨i,v,?_,?_,?_,i4.imp fun a b _ _=>rfl⟩
 ·show(aq (ae st))[i]?=some x
  rw[<- S.pre,List.getElem?_take_of_lt hi]at i1
  exact i1
 ·rcases S.par x (Q9 i1)with z|z
  ·exact .inl z
  ·exact .inr (.inl z)
 ·unfold L2.start
  rw[List.getElem?_append_left (by rw[Q0];omega),QS,i3];rfl
theorem DL{f:Addr}(Fn:fX K g qual st f fd)
  (S:aM (aq (ae st)) ps (ae st)) (hΦ:jN P w K mg base k Φ)
  (hrun:dN Φ (ae st) ps (am st) F):br P w K mg base cz (k+1) f fd ps (ja K F):=by
 refine Fn.ok S (fun vs H Q E h=>?_) (fun cdv A outer s H vs Q E hr h=>?_)
 ·obtain⟨ds,r,l,h1,h2,hp,_⟩:=h
  have:=hrun ds r ⟨l,h2,hp⟩
  unfold cE at this
  split at this
  ·rename_i hl;rw[<- h1.length];exact hl
  ·exact(au this).elim
 ·obtain⟨ds,r,l,h1,h2,hp,q⟩:=h
  have hr1:=hrun ds r ⟨l,h2,hp⟩
  unfold cE at hr1
  split at hr1
  ·rename_i hl
   have G:=eO (outer:=outer) (H:=H) (E:=E) S hΦ hr
   obtain⟨E0,hsl⟩:=gC (P:=P) (w:=w) (mg:=mg) (base:=base) (qual:=qual) (f:=f) (cdv:=cdv) (A:=A) (outer:=outer) (s:=s) (E:=E) S h1 hl
   have B0:bQ H (fun _=>none) H:=fun a o h=>⟨h,rfl⟩
   obtain⟨fl,hx,hr1⟩:=aw hr1
   cases fl with
   | rt d =>
    cases aI hr1
    exact⟨_,nk _ (H0:=H) hx G R5,fun _=>none,E0,hsl,B0,fun v H' sm rp=>q v H' sm rp⟩
   | nx ρ' =>
    cases aI hr1
    exact⟨_,nk _ (H0:=H) hx G R5,fun _=>none,E0,hsl,B0,fun ow' σ' H' _ _ kp=>q .non H' (fun a o h=>kp.keep a o h (.inr rfl)) (by rw[aj])⟩
   | bk ρ'=>exact(au hr1).elim
   | ct ρ'=>exact(au hr1).elim
  ·exact(au hr1).elim
def Fa(K:W.Frag)(fs:List Str):Sp:=fun vs H Q _ => ∃x ws C dx,vs=.ref x::ws/\ws.length=fs.length/\H x=some (.ins C dx [])/\eJ K C/\(∀f∈fs,dF K C f)/\Q .non (aG H x (.ins C dx (fs.zip ws)))
theorem El{f:Addr}(Fn:fX K g qual st f fd){a1 a2 a3 f1 f2 f3:Str}{p3 q1 q2 q3 q4 r1 r2 r3 r4:Pos}
  (hN:aq (ae st)=[s0,a1,a2,a3]) (S:aM (aq (ae st)) [s0,a1,a2,a3] (ae st)) (hv:∀x∈[s0,a1,a2,a3],fb (ae st) x) (hok:∀x∈[s0,a1,a2,a3],cQ x=true)
  (hb:am st=[.Assign [.Attribute (.Name s0 p1) f1 p2] (.Name a1 p3) p4,.Assign [.Attribute (.Name s0 q1) f2 q2] (.Name a2 q3) q4,.Assign [.Attribute (.Name s0 r1) f3 r2] (.Name a3 r3) r4]) (h12:f1≠f2) (h13:f1≠f3) (h23:f2≠f3) :
  br P w K mg base cz 1 f fd [s0,a1,a2,a3] (Fa K [f1,f2,f3]):=by
 refine Fn.ok (k:=0) S (fun vs H Q E h=>?_) (fun cdv A outer s H vs Q E hr h=>?_)
 ·obtain⟨x,ws,C,dx,rfl,hl,_⟩:=h
  rw[Ri,hl];rfl
 ·obtain⟨x,ws,C,dx,rfl,hl,hx,hc,hn,q⟩:=h
  obtain⟨y1,ws,rfl⟩:∃y r,ws=y::r:=by cases ws with|nil=>cases hl|cons y r=>exact⟨y,r,rfl⟩
  obtain⟨y2,ws,rfl⟩:∃y r,ws=y::r:=by cases ws with|nil=>cases hl|cons y r=>exact⟨y,r,rfl⟩
  obtain⟨y3,ws,rfl⟩:∃y r,ws=y::r:=by cases ws with|nil=>cases hl|cons y r=>exact⟨y,r,rfl⟩
  obtain rfl:ws=[]:=by cases ws with|nil=>rfl|cons _ _=>cases hl
  have nm:∀(i:Nat) (x:Str) (p:Pos),[s0,a1,a2,a3][i]?=some x->PE (cn cz P w K mg base (aq (ae st)) qual (ae st) f cdv A outer s H E).nox (.Name x p) (gH i):=fun i x p hi =>
   dO (by show(aq (ae st))[i]?=some x;rw[hN];exact hi) (hv x (Q9 hi)) (bU (hok x (Q9 hi))).1 (bU (hok x (Q9 hi))).2
  rw[hb]
  refine⟨_,dS (rF (nm 0 s0 p1 rfl) (nm 1 a1 p3 rfl) rfl) (dS (rF (nm 0 s0 q1 rfl) (nm 2 a2 q3 rfl) rfl) (kP (rF (nm 0 s0 r1 rfl) (nm 3 a3 r3 rfl) rfl))),?_⟩
  rw[hN]
  refine⟨y1,rfl,.ref x,rfl,x,C,dx,_,rfl,hx,hc,hn f1 (by simp),by decide,?_⟩
  refine⟨y2,rfl,.ref x,rfl,x,C,dx,_,rfl,aD,hc,hn f2 (by simp),by simp[dA],?_⟩
  refine⟨y3,rfl,.ref x,rfl,x,C,dx,_,rfl,aD,hc,hn f3 (by simp),?_,?_⟩
  ·have:=gj f2 y2 (dA f1 y1 []);have:=gj f1 y1 [];simp at this;omega
  ·rw[i9,i9]
   have e:dA f3 y3 (dA f2 y2 (dA f1 y1 []))=[(f1,y1),(f2,y2),(f3,y3)]:=by simp[dA,h12,h13,h23]
   rw[e]
   exact q
theorem zz{CX:iE}{f C:Addr}{sp:Sp}{E:XK}{b:Str}{t:TA}(hg:Gl X b)(hm:X.mg b=some (.ref C))(hga:W.specialIn X.K (.ref C) "__getattribute__" = some (some (.builtin "type.__getattribute__")))
  (hrd:W.readsIn X.K C mc=true) (hfc:W.findCls X.K (.ref C) mc m=some (.val (.ref f))) (hk:W.keepIn X.K (.ref f)=true) (F:br X.prog X.w X.K X.mg X.base CX k f fd ps sp) (hr:bC k X.A) (hb:bH X.K fd ps []) (hx:fi CX X E) (ha:PA X (e::es) t)
  (hst:starEach (e::es) X.env=(false,eval e X.env)::starEach es X.env) (hpl:(backTo pos (starEach es X.env)).any (·.1)=false) (hdb:(b==("__debug__" : Str))=false)
  (ht:eval (.Call (.Attribute (.Name b p) m apos) (e::es) [] pos) X.env=(do
   let ov <- eval (.Name b p) X.env
   standAt apos.atName
   let (f,first) <- holding [ov] (getMethod ov m (do return (<- importBound (.Name b p) X.env).getD true))
   callWith pos f first (backTo pos (starEach (e::es) X.env)) (backToKw pos (keywordEach [] X.env)))) :
  PE X (.Call (.Attribute (.Name b p) m apos) (e::es) [] pos) (ve sp [] E t):=by
 intro pins s σ H Q I h
 refine W.methodCall_KW (pl:=(do return (<- importBound (.Name b p) X.env).getD true)) (cH I hg hm ?_ hdb) ht
 refine W.method_cls I.kIn hga (W.cls_value I.kIn hrd hfc rfl ?_)
 have I':=I.tok (s.toks+1)
 refine Se (first:=[]) (h₀:=X.base) I.ok.mod.kin hk (aN (ha pos pins _ σ H _ I' h) fun us s2 ⟨vs,H2,I2,r,q2⟩=>⟨I2.kIn,?_⟩) hst hpl
 exact jZ (us:=us) F hr hb .nil hx I2 r q2
mutual
def D.noObj:D->Bool
 | .obj _ _ _=>false
 | .tup l=>ii l
 | .lst l=>ii l
 | .dct _ l=>ii l
 | _=>true
def ii:List D->Bool
 | []=>true
 | d::l=>d.noObj&&ii l
end
mutual
theorem aj.off{K:W.Frag}{P:bj}{H H':Hp}{x C dx:Addr}{fs:List (Str×V)}(hx:H x=some (.ins C dx fs))(s:∀a o,a≠x->H a=some o->H' a=some o):∀{d:D} {v:V},d.noObj=true->aj K H P d v->aj K H' P d v
 | .non,v,_,h=>by rw[aj]at h⊢;exact h
 | .bl b,v,_,h=>by rw[aj]at h⊢;exact h
 | .int i,v,_,h=>by rw[aj]at h⊢;exact h
 | .str x,v,_,h=>by rw[aj]at h⊢;exact h
 | .dct ks es,v,f,h=>by
  rw[aj]at h⊢
  obtain⟨f0,e0,a,vs,e,h1,p,r⟩:=h
  exact⟨f0,e0,a,vs,e,s _ _ (gi h1 hx (fun z=>nomatch z)) h1,p,ah.off hx s (by rw[D.noObj]at f;exact f) r⟩
 | .typ n,v,_,h=>by rw[aj]at h⊢;exact h
 | .sn n,v,_,h=>by
  rw[aj]at h⊢
  obtain⟨a,S,e,h⟩:=h
  exact⟨a,S,e,s _ _ (gi h hx (fun z=>nomatch z)) h⟩
 | .obj n ns ds,v,f,h=>by rw[D.noObj]at f;cases f
 | .cls n,v,_,h=>by rw[aj]at h⊢;exact h
 | .xc n p,v,_,h=>by rw[aj]at h⊢;exact h.mono (fun a C od z=>s _ _ (gi z hx (fun z=>nomatch z)) z) (fun a fs z=>s _ _ (gi z hx (fun z=>nomatch z)) z) (fun a vs z=>by
  rcases z with(z|⟨o,z⟩)|z
  ·exact .inl (.inl (s _ _ (gi z hx (fun z=>nomatch z)) z))
  ·exact .inl (.inr ⟨o,s _ _ (gi z hx (fun z=>nomatch z)) z⟩)
  ·exact .inr z)
 | .tup l,v,f,h=>by
  rw[aj]at h⊢
  obtain⟨a,vs,e,h,r⟩:=h
  refine⟨a,vs,e,?_,ah.off hx s (by rw[D.noObj]at f;exact f) r⟩
  rcases h with(h|⟨o,h⟩)|h
  ·exact .inl (.inl (s _ _ (gi h hx (fun z=>nomatch z)) h))
  ·exact .inl (.inr ⟨o,s _ _ (gi h hx (fun z=>nomatch z)) h⟩)
  ·exact .inr h
 | .lst l,v,f,h=>by
  rw[aj]at h⊢
  obtain⟨a,vs,b,e,h,p,r⟩:=h
  refine⟨a,vs,b,e,?_,p,ah.off hx s (by rw[D.noObj]at f;exact f) r⟩
  cases b with
  | true=>exact s _ _ (gi h hx (fun z=>nomatch z)) h
  | false =>
   rcases h with⟨o,h⟩|h
   ·exact .inl ⟨o,s _ _ (gi h hx (fun z=>nomatch z)) h⟩
   ·exact .inr h
theorem ah.off{K:W.Frag}{P:bj}{H H':Hp}{x C dx:Addr}{fs:List (Str×V)}(hx:H x=some (.ins C dx fs))(s:∀a o,a≠x->H a=some o->H' a=some o):∀{l:List D} {vs:List V},ii l=true->ah K H P l vs->ah K H' P l vs
 | [],vs,_,h=>by rw[ah]at h⊢;exact h
 | d::l,vs,f,h=>by
  rw[ah]at h⊢
  rw[ii,QN]at f
  obtain⟨v,r,e,h1,h2⟩:=h
  exact⟨v,r,e,aj.off hx s f.1 h1,ah.off hx s f.2 h2⟩
end
def b5(s:Stmt)(j:Nat):Stmt:=(match s with | .ClassDef _ _ _ b _ _ _ _ _ _ _=>b|_=>[]).getD j (.Pass ⟨0,0,0,0⟩)
def zU(s:Stmt):List Expr:=match am s with
 | [.Expr (.Call _ (_::args) _ _) _]=>args
 | _=>[]
def kZ(Φ:Fx)(sc:Scope)(ps:List Str)(args:List Expr)(n:Str)(fs:List Str)(ds:List D):Rs D :=
 if ds.length+1=ps.length then(bK Φ args sc (dg ps (.obj n [] []::ds))).bnd fun q=>if q.1.length=fs.length then .ok (.obj n fs q.1) [az q.1=true,ii q.1=true]else .st else .st
theorem DC{f f0:Addr}{fd0:FuncData}{ps0:List Str}{n b:Str}{C0:Addr}{pb p0:Pos}(Fn:fX K g qual st f fd)
  (S:aM (aq (ae st)) ps (ae st)) (hΦ:jN P w K mg base k Φ) (hF0:br P w K mg base cz k f0 fd0 ps0 (Fa K fs)) (hb0:bH K fd0 ps0 []) (hk0:W.keepIn K (.ref f0)=true)
  (hgb:(ae st).names.lookup b=some .globalImplicit) (hm:mg b=some (.ref C0)) (hga:W.specialIn K (.ref C0) "__getattribute__" = some (some (.builtin "type.__getattribute__"))) (hrd:W.readsIn K C0 mc=true) (hfc:W.findCls K (.ref C0) mc "__init__" = some (.val (.ref f0)))
  (hbody:am st=[.Expr (.Call (.Attribute (.Name b pb) "__init__" ap) (.Name s0 p0::args) [] cp) p4]) (hs0:ps[0]?=some s0) (hok:cQ s0=true) (hdb:(b==("__debug__" : Str))=false) (hln:(ap.endLine==cp.line)=true) (hfew:args.length<28)
  (hna:∀C,W.nsIn K mainGlobals n=some (some (.ref C))->∀x∈fs,dF K C x):br P w K mg base cz (k+1) f fd ps (wZ K n (kZ Φ (ae st) ps args n fs)):=by
 refine Fn.ok S (fun vs H Q E h=>?_) (fun cdv A outer s H vs Q E hr h=>?_)
 ·obtain⟨x,ws,C,dx,ds,r,l,rfl,hx,hns,hc,r1,hF,_⟩:=h
  unfold kZ at hF
  split at hF
  ·rename_i hl;rw[Ri,<- r1.length];exact hl
  ·cases hF
 ·obtain⟨x,ws,C,dx,ds,r,l,rfl,hx,hns,hc,r1,hF,hp,hl,q⟩:=h
  unfold kZ at hF
  split at hF
  ·rename_i hlen
   obtain⟨qv,l1,l2,h1,p1,hF,p2⟩:=aR hF hp
   split at hF
   ·rename_i hfl
    cases hF
    have G:=eO (outer:=outer) (H:=H) (E:=E) S hΦ hr
    have r0:ah K H (fun _ _=>True) (.obj n [] []::ds) (.ref x::ws):=ah.cons (by rw[aj];exact⟨rfl,rfl,x,C,dx,[],rfl,hns,hc,hx,ah.nil⟩) r1
    obtain⟨E0,hsl⟩:=gC (P:=P) (w:=w) (mg:=mg) (base:=base) (qual:=qual) (f:=f) (cdv:=cdv) (A:=A) (outer:=outer) (s:=s) (E:=E) S r0 hlen
    obtain⟨hst,hal⟩:=cf h1 p1
    have ad:=fN args h1 p1 G
    have hi0:(aq (ae st))[0]?=some s0:=by
     have hp0:=(QJ.mp hs0).1
     have hs1:=hs0
     rw[<- S.pre,List.getElem?_take_of_lt hp0]at hs1
     exact hs1
    have hv0:fb (ae st) s0:=by
     rcases S.par s0 (Q9 hs0)with z|z
     ·exact .inl z
     ·exact .inr (.inl z)
    have hst':∀e∈Expr.Name s0 p0::args,∀y p,e ≠ .Starred y p:=fun e he=>by
     rcases QA.mp he with rfl|he
     ·intro _ _ z;cases z
     ·exact hst e he
    rw[hbody]
    refine⟨_,kP (gZ (zz (G.gl b hgb) hm hga hrd hfc hk0 hF0 hr hb0 gQ (dC (dO (i:=0) hi0 hv0 (bU hok).1 (bU hok).2) (ad (fun _=>none)) (aA fun _ _ z=>by cases z)) (aA fun _ _ z=>by cases z) (be hst) hdb (qG (eS rfl) (nh hst' (by rw[Ri];omega)) hln)) rfl),?_⟩
    refine⟨.ref x,?_,E0,fun vs H1 s1 rv=>?_⟩
    ·have hn:0<(aq (ae st)).length:=(QJ.mp hi0).1
     rfl
    ·refine⟨x,vs++[],C,dx,rfl,by rw[Rl,<- rv.length];exact hfl,s1 _ _ hx,hc,hna C hns,q _ (fun a o ha h=>?_) ?_⟩
     ·rw[ax ha];exact s1 _ _ h
     ·rw[aj,Rl]
      exact⟨p2.1,hfl.symm,x,C,dx,vs,rfl,hns,hc,aD,((rv.off (s1 _ _ hx) (fun a o ha h=>by rw[ax ha];exact h) p2.2.1).imp fun _ _ _=>True.intro)⟩
   ·cases hF
  ·cases hF
theorem ci{f:Addr}(Fn:fX K g qual st f fd)
  (S:aM (aq (ae st)) ps (ae st)) (hm:mg g=some (.ref f)) (hb:bH K fd ps []) (hd:(g==("__debug__" : Str))=false)
  (hΦ:jN P w K mg base k Φ) (hrun:dN Φ (ae st) ps (am st) F):dv P w K mg base (k+1) g F :=
 ⟨f,fd,ps,DL Fn S hΦ hrun,hm,Fn.kp,hb,hd⟩
theorem ar{Pr:α->Prop}{x:α}{l:List α}(h1:Pr x)(h2:∀y∈l,Pr y):∀y∈x::l,Pr y:=fun y hy=>(QA.mp hy).elim (fun e=>e ▸ h1) (h2 y)
theorem ay{Pr:α->Prop}:∀y∈([]:List α),Pr y:=fun y hy=>by cases hy
theorem GW{a:Addr}{ns:List Int}(hO:tE H)(hS:cj K H a (ns.map V.int))(h:af (F [.lst (ns.map D.int)]) (.bl true)):ja K F [.ref a] H (fun v _=>v=.bl true) fun _ _ _=>False:=by
 obtain⟨l,h,hp⟩:=h
 refine⟨[.lst (ns.map D.int)],.bl true,l,ah.one ?_,h,hp,fun v H' _ r=>by rw[aj]at r;exact r⟩
 rw[aj]
 rcases hS with(hS|hS)|hS
 ·rcases hO a with z|⟨o,xs,z⟩
  ·rw[z]at hS;cases hS
  ·rw[z]at hS;cases hS
 ·exact⟨a,_,false,rfl,.inl hS,True.intro,ah.ofInts⟩
 ·exact⟨a,_,false,rfl,.inr hS,True.intro,ah.ofInts⟩
abbrev tL(P:Program)(w:World)(K:W.Frag)(mg:Str->Option Value)(base:Heap)(k:Nat):Str×(List D->Rs D)->Prop:=fun p=>KZ P w K mg base k p.1 p.2
abbrev fC(mg:Str->Option Value)(K:W.Frag):Str×D->Prop:=fun p => ∃v u,mg p.1=some u/\aY v u/\∀H P,aj K H P p.2 v
abbrev iF:Str×(List D->R1)->Prop:=fun p=>dW p.1 p.2
abbrev wv:Str×(List D->Nat->R1)->Prop:=fun p=>nO p.1 p.2
abbrev IU:Str×(D->List D->R1)->Prop:=fun p=>wu p.1 p.2
abbrev AN:Str×(List D->List D->Nat->Rs (List D))->Prop:=fun p=>lm p.1 p.2
theorem bu{l:List (Str×(List D->Rs D))}{c:List (Str×D)}{b:List (Str×(List D->R1))}{i:List (Str×(List D->Nat->R1))}{m:List (Str×(D->List D->R1))}{t:List (Str×(List D->List D->Nat->Rs (List D)))}{sf:D->Option Int->Option Int->R1}
  (hl:∀p∈l,tL P w K mg base k p) (hc:∀p∈c,fC mg K p) (hb:∀p∈b,iF p) (hi:∀p∈i,wv p) (hm:∀p∈m,IU p) (ht:∀p∈t,AN p) (hs:qM sf) (hn:∀n∈iA,mg n=none):jN P w K mg base k (Tb l c b i m t sf) :=
 ⟨fun g F h=>hl (g,F) (QR h),fun x d h=>hc (x,d) (QR h),fun f B h=>hb (f,B) (QR h),fun f B h=>hi (f,B) (QR h),fun f B h=>hm (f,B) (QR h),fun f B h=>ht (f,B) (QR h),hs,(fun _ _ h=>by cases h),(fun _ _ _ h=>by cases h),hn⟩
theorem Gq{n:Str}{C f:Addr}(hF:∀ds r l,F ds=.ok r l->r.lless=true)(hM:Mk K C f)(h:br P w K mg base cz k f fd ps (wZ K n F))(hm:mg n=some (.ref C))
  (hn:W.nsIn K mainGlobals n=some (some (.ref C))) (hc:eJ K C) (hb:bH K fd ps []) (hd:(n==("__debug__" : Str))=false):tF P w K mg base (k+1) n F:=⟨k,C,f,fd,ps,QF _,hF,hM,h,hm,hn,hc,hb,hd⟩
theorem vQ{n:Str}:∀ds r l,kZ Φ sc ps args n fs ds=.ok r l->r.lless=true:=fun ds r l h=>by
 unfold kZ at h
 split at h
 ·unfold Rs.bnd at h
  split at h
  ·cases h
  ·split at h
   ·cases h
   ·rename_i e
    cases h
    dsimp only at e
    split at e
    ·cases e;rfl
    ·cases e
 ·cases h
theorem Ai{c:Addr}{ss:Array (Option Value)}(hm:mg x=some (.ref c))(hl:K.lookup c=some ⟨.type "tuple", dd,.seq its nn,ss⟩)(hz:its.size<=sizeLine)(hv:aL vs its.toList)
  (hr:∀H P,ah K H P ds vs):fC mg K (x,.tup ds):=⟨.ref c,.ref c,hm,rfl,fun H P=>by rw[aj];exact⟨c,_,rfl,.inr ⟨_,its,nn,hl,rfl,rfl,hz,hv⟩,hr H P⟩⟩
theorem gY{c:Addr}{ss:Array (Option Value)}{ns:List Int}(hl:K.lookup c=some ⟨.type "tuple", dd,.seq its nn,ss⟩)(hz:its.size<=sizeLine)(hv:aL (ns.map V.int) its.toList):∀H P,aj K H P (.tup (ns.map .int)) (.ref c) :=
 fun H P=>by rw[aj];exact⟨c,_,rfl,.inr ⟨_,its,nn,hl,rfl,rfl,hz,hv⟩,ah.ofInts⟩
open AutoSeq1 (wpAny_loadPart')
section
variable{prog:Program}{w:World}{A:Around}{E:Value->Shared->Prop}{s:Shared}
theorem B9{it:Addr}{vs:Array Value}{x:Value}(hIt:s.heap.IsTupleIter it tu i)(hT:s.heap.IsTuple tu vs)(hx:vs[i]?=some x)
  (go:∀h1,h1.IsTupleIter it tu (i+1)->Heap.SameBut it s.heap h1->Q x { s with heap:=h1 }):wpAny (model prog w) A (Builtin.SmallTypes.nextOf (.ref it)) Q E s:=by
 have key:=wpAny_pyNext_tuple_item (prog:=prog) (w:=w) (A:=A) (E:=E) (Q:=fun r s1 => ∃v,r=some v/\Q v s1) hIt hT hx (fun h1 a b=>⟨x,rfl,go h1 a b⟩)
 obtain⟨o,ho,hc,hd⟩:=id hIt
 obtain⟨ot,hot,_,nt,hdt⟩:=hT
 unfold Builtin.SmallTypes.nextOf
 refine Qx (R8 (name:=Str.ofString "__next__") hIt.typeIs F.slot_tuple_iterator_next (So F.slot_tuple_iterator_next hIt.typeIs F.entry_tuple_iterator_next ?_ (F.args_tuple_iterator_next_1 _)))
 show wpAny _ _ (field (.ref it) 0 >>= _) _ _ s
 refine Qx (Re ho hd (x:=.ref tu) rfl ?_)
 show wpAny _ _ (if (Value.ref tu==Value.none)=true then _ else _) _ _ s
 rw[if_neg (show ¬ ((Value.ref tu==Value.none)=true)from QP)]
 show wpAny _ _ (field (.ref it) 1 >>= _) _ _ s
 refine Qx (Re ho hd (x:=Value.int (i:Int) 0) rfl ?_)
 show wpAny _ _ (seqItems? (.ref tu) >>= _) _ _ s
 refine Qx (R3 hot hdt ?_)
 simp only[Int.toNat_natCast,hx]
 refine Qx (SH ho hd (by simp) (Qz ⟨x,rfl,Qz (go _ ?_ (Heap.SameBut.update ..))⟩))
 refine⟨_,Ru _ ho (Obj.isFreed_of_fields (Sg hd _)),(Obj.cls_mapFields ..).trans hc,?_⟩
 rw[Sg hd];simp[rawInt]
theorem EI{it:Addr}{vs:Array Value}(hh:A.handled=none)(hIt:s.heap.IsTupleIter it tu i)(hT:s.heap.IsTuple tu vs)(hx:vs[i]?=none)
  (go:∀h1 x,Heap.ExtBut it s.heap h1->(∃o,h1.get? x=some o/\o.cls=.type "StopIteration")->E (.ref x) { s with heap:=h1 }):wpAny (model prog w) A (Builtin.SmallTypes.nextOf (.ref it)) Q E s:=by
 obtain⟨o,ho,hc,hd⟩:=id hIt
 obtain⟨ot,hot,_,nt,hdt⟩:=hT
 unfold Builtin.SmallTypes.nextOf
 refine Qx (R8 (name:=Str.ofString "__next__") hIt.typeIs F.slot_tuple_iterator_next (So F.slot_tuple_iterator_next hIt.typeIs F.entry_tuple_iterator_next ?_ (F.args_tuple_iterator_next_1 _)))
 show wpAny _ _ (field (.ref it) 0 >>= _) _ _ s
 refine Qx (Re ho hd (x:=.ref tu) rfl ?_)
 show wpAny _ _ (if (Value.ref tu==Value.none)=true then _ else _) _ _ s
 rw[if_neg (show ¬ ((Value.ref tu==Value.none)=true)from QP)]
 show wpAny _ _ (field (.ref it) 1 >>= _) _ _ s
 refine Qx (Re ho hd (x:=Value.int (i:Int) 0) rfl ?_)
 show wpAny _ _ (seqItems? (.ref tu) >>= _) _ _ s
 refine Qx (R3 hot hdt ?_)
 simp only[Int.toNat_natCast,hx]
 refine Qx (wpAny_rule (Qx (SH ho hd (by simp) ?_)))
 show wpAny _ _ (newExc (.type "StopIteration") [] >>= _) _ _ _
 refine Qx ?_
 simp only[newExc,newTuple]
 refine Qx (RF ?_ (by size_fits))
 refine Qx (m:=firstArgMember _ _) (wpAny_of_eq (a:=Value.none) (by first|rfl|(simp only[firstArgMember]<;>rfl)) ?_)
 refine RF ?_ (by size_fits)
 simp only[raiseNew]
 refine Qx (wpAny_handled ?_)
 first|rw[show A.in1.handled=none from hh]|rw[hh]
 refine Qx (Qz (wpAny_throw ?_))
 exact go _ _ (((Heap.SameBut.update ..).extBut.push _).push _) ⟨_,QH _ rfl,rfl⟩
end
variable{X:Cx}
theorem pH{t2:Nat}{p:Addr}{o:HO}(I:al X pins σ H s)
  (k:∀b u,b∉ch->s.heap.get? b=some u->h2.get? b=some u) (hp:s.heap.objs.size<=p) (hn:∀b∈ch,fV X pins H b) (new:bG X.prog X.w (aG H p o) h2 p o):al X pins σ (aG H p o) { s with heap:=h2,toks:=t2 }:=by
 have hH:H p=none:=I.hok.fresh hp
 have tr:∀b u,H b=some u->b∉ch:=fun b u e z=>by rw[(hn b z).1]at e;cases e
 have un:Un (cw X.stack) ch H (aG H p o) s.heap h2:=by
  refine⟨fun b ob e n _ c=>k b ob c e,fun b ob e n _ c=>⟨ob.slots,k b ob c e⟩,fun b ob e n c=>?_,fun b ob e c=>⟨ob,k b ob c e⟩,fun b xs e=>?_,fun b ob u e=>?_,fun b ps e=>⟨#[],?_⟩⟩
  ·rw[ax (QT (QG (QC e) hp))];exact n
  ·rw[ax (aU e hH)];exact e
  ·rw[ax (aU e hH)];exact e
  ·rw[ax (aU e hH),e];simp
 refine I.call (g':=s.gens) (d':=s.drawn) un (fun b u e=>?_) I.bare fun b hb=>⟨(hn b hb).2.2.2.1,(hn b hb).2.1,(hn b hb).2.2.2.2.1,(hn b hb).2.2.2.2.2⟩
 by_cases hb:b=p
 ·subst hb;rw[aD]at e;cases e;exact new
 ·rw[ax hb]at e
  refine(I.hok b u e).stay (fun c v hc q=>k c v ?_ q) (fun c q=>by rw[ax (aU q hH)];exact q) fun c xs q=>by rw[ax (aU q hH)];exact q
  rcases hc with z|z
  ·rw[z];exact tr b u e
  ·exact tr c _ z
theorem xR(h:ik tg=true):∃es n p,tg=.Tuple es n p:=by
 cases tg<;>first|exact⟨_,_,_,rfl⟩|cases h
open AutoSeq1 (wpAny_loadPart')
structure Wk(prog:Program)(w:World)(i l:Addr)(P:Nat->Heap->Prop)(g:Nat->Option Value):Prop where
 stay:∀k (h h':Heap),P k h->(∀c o,c=i\/c=l->h.get? c=some o->h'.get? c=some o)->P k h'
 here:∀k (h:Heap),P k h->∃o,h.get? i=some o/\∀v,o.data≠Data.cell v
 item:∀(A:Around) (E:Value->Shared->Prop) (s:Shared) (k:Nat) (x:Value) (Q:Value->Shared->Prop),P k s.heap->g k=some x->(∀h1,P (k+1) h1->Heap.SameBut i s.heap h1->Q x { s with heap:=h1 })->wpAny (model prog w) A (Builtin.SmallTypes.nextOf (.ref i)) Q E s
 done:∀(A:Around) (E:Value->Shared->Prop) (s:Shared) (k:Nat) (Q:Value->Shared->Prop),A.handled=none->P k s.heap->g k=none->(∀h1 x,Heap.ExtBut i s.heap h1->(∃o,h1.get? x=some o/\o.cls=.type "StopIteration")->E (.ref x) { s with heap:=h1 })->wpAny (model prog w) A (Builtin.SmallTypes.nextOf (.ref i)) Q E s
theorem jS{i l:Addr}(ne:l≠i):Wk prog w i l (fun k h=>h.IsTupleIter i l k/\h.IsTuple l xs) (fun k=>xs[k]?) where
 stay:=fun k h h' p q=>⟨p.1.at fun o e=>q i o (.inl rfl) e,p.2.at fun o e=>q l o (.inr rfl) e⟩
 here:=fun k h p=>let ⟨o,e,_,d⟩:=p.1;⟨o,e,fun v z=>by rw[d]at z;cases z⟩
 item:=fun A E s k x Q p hx q=>B9 p.1 p.2 hx fun h1 a b=>q h1 ⟨a,p.2.extBut b.extBut ne⟩ b
 done:=fun A E s k Q hh p hx q=>EI hh p.1 p.2 hx q
theorem EC{i l:Addr}(ne:l≠i):Wk prog w i l (fun k h=>h.IsListIter i l k/\h.IsList l xs) (fun k=>xs[k]?) where
 stay:=fun k h h' p q=>⟨p.1.at fun o e=>q i o (.inl rfl) e,p.2.at fun o e=>q l o (.inr rfl) e⟩
 here:=fun k h p=>let ⟨o,e,_,d⟩:=p.1;⟨o,e,fun v z=>by rw[d]at z;cases z⟩
 item:=fun A E s k x Q p hx q=>wpAny_nextOf_list_item p.1 p.2 hx fun h1 a b=>q h1 ⟨a,p.2.extBut b.extBut ne⟩ b
 done:=fun A E s k Q hh p hx q=>wpAny_nextOf_list_end hh p.1 p.2 hx q
section
variable{prog:Program}{w:World}{A:Around}{E:Value->Shared->Prop}{s:Shared}
variable{z TI TO i1 i2 l1 l2:Addr}{k1 k2:Nat}{P1 P2:Nat->Heap->Prop}{g1 g2:Nat->Option Value}{x y a b:Value}
structure Zs(z TI TO i1 i2 l1 l2:Addr)(P1 P2:Nat->Heap->Prop)(k:Nat)(h:Heap):Prop where
 ap:ZipApart z TI TO i1 i2 l1 l2
 rd:IsZip h z TI TO .none
 ins:IsPair h TI (.ref i1) (.ref i2)
 out:∃a b,IsPair h TO a b
 fst:P1 k h
 snd:P2 k h
theorem Zs.item(W1:Wk prog w i1 l1 P1 g1)(W2:Wk prog w i2 l2 P2 g2)(S:Zs z TI TO i1 i2 l1 l2 P1 P2 k s.heap)(hx:g1 k=some x)(hy:g2 k=some y)
  (go:∀h1,(∀h2,IsZip h2 z TI TO .none->Heap.SameBut z h1 h2->Zs z TI TO i1 i2 l1 l2 P1 P2 (k+1) h2)->IsZip h1 z TI TO (rawInt s.heap.objs.size)->IsPair h1 s.heap.objs.size x y->(∀c o,c∉[z,TO,i1,i2]->s.heap.get? c=some o->h1.get? c=some o)->Q (.ref s.heap.objs.size) { s with heap:=h1 }) :
  wpAny (model prog w) A (Builtin.«zip.__next__» ⟨[.ref z],[]⟩) (fun fin s' => ∃v,fin=.done (.ret v)/\Q v s') E s:=by
 obtain⟨D,isZ,pI,⟨a,b,pO⟩,p1,p2⟩:=S
 obtain⟨h0,gg,dd,t0,oo⟩:=s
 show wpAny _ _ (field (.ref z) 2 >>= _) _ _ ⟨h0,gg,dd,t0,oo⟩
 refine Qx (Re isZ rfl (x:=Value.bool false) rfl ?_)
 show wpAny _ _ (field (.ref z) 3 >>= _) _ _ ⟨h0,gg,dd,t0,oo⟩
 refine Qx (Re isZ rfl (x:=Value.ref TI) rfl (Qx (R3 pI rfl ?_)))
 show wpAny _ _ (Builtin.SmallTypes.ownedTupleIsFree (.ref z) >>= _) _ _ ⟨h0,gg,dd,t0,oo⟩
 unfold Builtin.SmallTypes.ownedTupleIsFree
 refine Qx (Qx (Re isZ rfl (x:=Value.none) rfl (Qz ?_)))
 simp only[SJ]
 refine Qx (wpAny_rule (Qx (Re isZ rfl (x:=Value.ref TO) rfl (Qx (Sx isZ (by simp) fun q1 Z1 m1=>?_)))))
 have Z1:IsZip q1 z TI TO .ellipsis:=Z1
 have m1:Heap.SameBut z h0 q1:=m1
 simp only[List.zipIdx_cons,List.zipIdx_nil,Su,List.forIn_nil]
 refine Qx (Qx (Qx (wpAny_onRaise ?_)))
 show wpAny _ _ (Builtin.SmallTypes.nextOf (.ref i1) >>= _) _ _ ⟨q1,gg,dd,t0,oo⟩
 have e1:∀c o,c≠z->h0.get? c=some o->q1.get? c=some o:=fun c o n u=>m1.extBut c o n u
 refine Qx (W1.item _ _ _ k x _ (W1.stay k _ _ p1 fun c o hc u=>e1 c o (by rcases hc with rfl|rfl;exact D.i1z;exact D.l1z) u) hx fun q2 p1' m2=>Qz ?_)
 have m2:Heap.SameBut i1 q1 q2:=m2
 have e2:∀c o,c≠z->c≠i1->h0.get? c=some o->q2.get? c=some o:=fun c o n n' u=>m2.extBut c o n' (e1 c o n u)
 have O2:IsPair q2 TO a b:=e2 _ _ D.TOz D.TOi1 pO
 refine Qx (R3 O2 rfl (Qx (wpAny_updateSeq_pair O2 fun q3 O3 m3=>Qx (wpAny_letGo (Qz ?_)))))
 have O3:IsPair q3 TO x b:=O3
 have m3:Heap.SameBut TO q2 q3:=m3
 have e3:∀c o,c≠z->c≠i1->c≠TO->h0.get? c=some o->q3.get? c=some o:=fun c o n n' n'' u=>m3.extBut c o n'' (e2 c o n n' u)
 refine Qx (Qx (wpAny_onRaise ?_))
 show wpAny _ _ (Builtin.SmallTypes.nextOf (.ref i2) >>= _) _ _ ⟨q3,gg,dd,t0,oo⟩
 refine Qx (W2.item _ _ _ k y _ (W2.stay k _ _ p2 fun c o hc u=>by
  rcases hc with rfl|rfl
  ·exact e3 c o D.i2z D.i12.symm D.TOi2.symm u
  ·exact e3 c o D.l2z D.l2i1 D.l2TO u) hy fun q4 p2' m4=>Qz ?_)
 have m4:Heap.SameBut i2 q3 q4:=m4
 have O4:IsPair q4 TO x b:=m4.extBut _ _ D.TOi2 O3
 refine Qx (R3 O4 rfl (Qx (wpAny_updateSeq_pair O4 fun q5 O5 m5=>Qx (wpAny_letGo (Qz (Qz ?_))))))
 have O5:IsPair q5 TO x y:=O5
 have m5:Heap.SameBut TO q4 q5:=m5
 refine Qx (R3 O5 rfl (Qx (wpAny_newTuple ?_)))
 have sz:q5.objs.size=h0.objs.size:=by rw[m5.1,m4.1,m3.1,m2.1,m1.1]
 have e5:∀c o,c≠z->c≠i1->c≠TO->c≠i2->h0.get? c=some o->q5.get? c=some o:=fun c o n n' n'' n3 u=>m5.extBut c o n'' (m4.extBut c o n3 (e3 c o n n' n'' u))
 have Z5:IsZip q5 z TI TO .ellipsis:=m5.extBut _ _ D.TOz.symm (m4.extBut _ _ D.i2z.symm (m3.extBut _ _ D.TOz.symm (m2.extBut _ _ D.i1z.symm Z1)))
 have r1:P1 (k+1) q5:=W1.stay _ _ _ p1' fun c o hc u=>by
  rcases hc with rfl|rfl
  ·exact m5.extBut c o D.TOi1.symm (m4.extBut c o D.i12 (m3.extBut c o D.TOi1.symm u))
  ·exact m5.extBut c o D.l1TO (m4.extBut c o D.l1i2 (m3.extBut c o D.l1TO u))
 have r2:P2 (k+1) q5:=W2.stay _ _ _ p2' fun c o hc u=>by
  rcases hc with rfl|rfl
  ·exact m5.extBut c o D.TOi2.symm u
  ·exact m5.extBut c o D.l2TO u
 have I5:IsPair q5 TI (.ref i1) (.ref i2):=e5 _ _ D.TIz D.TIi1 D.TITO D.TIi2 pI
 have zl:z<q5.objs.size:=QC Z5
 show wpAny _ _ (Builtin.SmallTypes.ownedTupleHandOut (.ref z) (.ref q5.objs.size) >>= _) _ _ ⟨q5.push { cls:=.type "tuple", data:=.seq #[x,y] },gg,dd,t0,oo⟩
 unfold Builtin.SmallTypes.ownedTupleHandOut
 have Z6:IsZip (q5.push { cls:=.type "tuple", data:=.seq #[x,y] }) z TI TO .ellipsis:=Qy _ Z5
 refine Qx (Qx (Sx Z6 (by simp) fun q7 Z7 m7=>?_))
 have Z7:IsZip q7 z TI TO (rawInt q5.objs.size):=Z7
 refine Sx Z7 (by simp) fun q8 Z8 m8=>?_
 have Z8:IsZip q8 z TI TO (rawInt q5.objs.size):=Z8
 have far:∀c o,c≠z->q5.get? c=some o->q8.get? c=some o:=fun c o n u=>m8.extBut _ _ n (m7.extBut _ _ n (Qy _ u))
 have T8:IsPair q8 q5.objs.size x y:=m8.extBut _ _ (RL zl) (m7.extBut _ _ (RL zl) (QH _ rfl))
 refine Qz ⟨_,rfl,?_⟩
 show Q (.ref q5.objs.size) _
 rw[sz]at Z8 T8⊢
 refine go q8 (fun h2 Zn mn=>⟨D,Zn,mn.extBut _ _ D.TIz (far _ _ D.TIz I5),⟨x,y,mn.extBut _ _ D.TOz (far _ _ D.TOz O5)⟩,W1.stay _ _ _ r1 fun c o hc u=>?_,W2.stay _ _ _ r2 fun c o hc u=>?_⟩) Z8 T8 fun c o hc u=>?_
 ·have n:c≠z:=by rcases hc with rfl|rfl;exact D.i1z;exact D.l1z
  exact mn.extBut c o n (far c o n u)
 ·have n:c≠z:=by rcases hc with rfl|rfl;exact D.i2z;exact D.l2z
  exact mn.extBut c o n (far c o n u)
 ·have c1:c≠z:=fun q=>hc (by simp[q])
  have c2:c≠TO:=fun q=>hc (by simp[q])
  have c3:c≠i1:=fun q=>hc (by simp[q])
  have c4:c≠i2:=fun q=>hc (by simp[q])
  exact far c o c1 (e5 c o c1 c3 c2 c4 u)
theorem Zs.done{Q:Fin->Shared->Prop}(hh:A.handled=none)(W1:Wk prog w i1 l1 P1 g1)(W2:Wk prog w i2 l2 P2 g2)(S:Zs z TI TO i1 i2 l1 l2 P1 P2 k s.heap)(hxy:g1 k=none\/g2 k=none)
    (go:∀h1 e,(∀c o,c∉[z,TO,i1,i2]->s.heap.get? c=some o->h1.get? c=some o)->(∃o,h1.get? e=some o/\o.cls=.type "StopIteration")->E (.ref e) { s with heap:=h1 }) :
    wpAny (model prog w) A (Builtin.«zip.__next__» ⟨[.ref z],[]⟩) Q E s:=by
  obtain⟨D,isZ,pI,⟨a,b,pO⟩,p1,p2⟩:=S
  obtain⟨h0,gg,dd,t0,oo⟩:=s
  show wpAny _ _ (field (.ref z) 2 >>= _) _ _ ⟨h0,gg,dd,t0,oo⟩
  refine Qx (Re isZ rfl (x:=Value.bool false) rfl ?_)
  show wpAny _ _ (field (.ref z) 3 >>= _) _ _ ⟨h0,gg,dd,t0,oo⟩
  refine Qx (Re isZ rfl (x:=Value.ref TI) rfl (Qx (R3 pI rfl ?_)))
  show wpAny _ _ (Builtin.SmallTypes.ownedTupleIsFree (.ref z) >>= _) _ _ ⟨h0,gg,dd,t0,oo⟩
  unfold Builtin.SmallTypes.ownedTupleIsFree
  refine Qx (Qx (Re isZ rfl (x:=Value.none) rfl (Qz ?_)))
  simp only[SJ]
  refine Qx (wpAny_rule (Qx (Re isZ rfl (x:=Value.ref TO) rfl (Qx (Sx isZ (by simp) fun q1 Z1 m1=>?_)))))
  have Z1:IsZip q1 z TI TO .ellipsis:=Z1
  have m1:Heap.SameBut z h0 q1:=m1
  simp only[List.zipIdx_cons,List.zipIdx_nil,Su,List.forIn_nil]
  refine Qx (Qx (Qx (wpAny_onRaise ?_)))
  show wpAny _ _ (Builtin.SmallTypes.nextOf (.ref i1) >>= _) _ _ ⟨q1,gg,dd,t0,oo⟩
  have e1:∀c o,c≠z->h0.get? c=some o->q1.get? c=some o:=fun c o n u=>m1.extBut c o n u
  have p1:P1 k q1:=W1.stay k _ _ p1 fun c o hc u=>e1 c o (by rcases hc with rfl|rfl;exact D.i1z;exact D.l1z) u
  have nin:∀c,c∉[z,TO,i1,i2]->c≠z/\c≠TO/\c≠i1/\c≠i2:=fun c hc=>⟨fun q=>hc (by simp[q]),fun q=>hc (by simp[q]),fun q=>hc (by simp[q]),fun q=>hc (by simp[q])⟩
  have last:∀(q2:Heap) (ex:Addr) (oe:Obj),IsZip q2 z TI TO .ellipsis->(∀c o,c∉[z,TO,i1,i2]->h0.get? c=some o->q2.get? c=some o)->q2.get? ex=some oe->oe.cls=.type "StopIteration" ->
      wpAny (model prog w) A (setField (.ref z) 0 .none) (fun _ s'=>E (.ref ex) s') E ⟨q2,gg,dd,t0,oo⟩:=fun q2 ex oe Z2 k2 ho hc=>by
    have hez:ex≠z:=fun u=>by subst u;rw[Z2]at ho;cases ho;simp at hc
    refine Sx Z2 (by simp) fun q3 _ m3=>go q3 ex (fun c o hc u=>?_) ⟨oe,m3.extBut _ _ hez ho,hc⟩
    exact m3.extBut c o (nin c hc).1 (k2 c o hc u)
  cases hx:g1 k with
  | none =>
    refine Qx (W1.done _ _ _ k _ hh p1 hx fun q2 ex m2 he=>?_)
    obtain⟨oe,ho,hc⟩:=he
    have m2:Heap.ExtBut i1 q1 q2:=m2
    exact last q2 ex oe (m2 _ _ D.i1z.symm Z1) (fun c o hc u=>m2 c o (nin c hc).2.2.1 (e1 c o (nin c hc).1 u)) ho hc
  | some x =>
    have hy:g2 k=none:=hxy.resolve_left (by rw[hx];exact fun q=>nomatch q)
    refine Qx (W1.item _ _ _ k x _ p1 hx fun q2 p1' m2=>Qz ?_)
    have m2:Heap.SameBut i1 q1 q2:=m2
    have e2:∀c o,c≠z->c≠i1->h0.get? c=some o->q2.get? c=some o:=fun c o n n' u=>m2.extBut c o n' (e1 c o n u)
    have O2:IsPair q2 TO a b:=e2 _ _ D.TOz D.TOi1 pO
    refine Qx (R3 O2 rfl (Qx (wpAny_updateSeq_pair O2 fun q3 O3 m3=>Qx (wpAny_letGo (Qz ?_)))))
    have m3:Heap.SameBut TO q2 q3:=m3
    have e3:∀c o,c≠z->c≠i1->c≠TO->h0.get? c=some o->q3.get? c=some o:=fun c o n n' n'' u=>m3.extBut c o n'' (e2 c o n n' u)
    refine Qx (Qx (wpAny_onRaise ?_))
    show wpAny _ _ (Builtin.SmallTypes.nextOf (.ref i2) >>= _) _ _ ⟨q3,gg,dd,t0,oo⟩
    refine Qx (W2.done _ _ _ k _ hh (W2.stay k _ _ p2 fun c o hc u=>by
      rcases hc with rfl|rfl
      . exact e3 c o D.i2z D.i12.symm D.TOi2.symm u
      . exact e3 c o D.l2z D.l2i1 D.l2TO u) hy fun q4 ex m4 he=>?_)
    obtain⟨oe,ho,hc⟩:=he
    have m4:Heap.ExtBut i2 q3 q4:=m4
    exact last q4 ex oe (m4 _ _ D.i2z.symm (m3.extBut _ _ D.TOz.symm (m2.extBut _ _ D.i1z.symm Z1))) (fun c o hc u=>m4 c o (nin c hc).2.2.2 (e3 c o (nin c hc).1 (nin c hc).2.2.1 (nin c hc).2.1 u)) ho hc
theorem Zs.pyItem{Q:Option Value->Shared->Prop}(W1:Wk prog w i1 l1 P1 g1)(W2:Wk prog w i2 l2 P2 g2)(S:Zs z TI TO i1 i2 l1 l2 P1 P2 k s.heap)(hx:g1 k=some x)(hy:g2 k=some y)
  (go:∀h1,(∀h2,IsZip h2 z TI TO .none->Heap.SameBut z h1 h2->Zs z TI TO i1 i2 l1 l2 P1 P2 (k+1) h2)->IsZip h1 z TI TO (rawInt s.heap.objs.size)->IsPair h1 s.heap.objs.size x y->(∀c o,c∉[z,TO,i1,i2]->s.heap.get? c=some o->h1.get? c=some o)->Q (some (.ref s.heap.objs.size)) { s with heap:=h1 }) :
  wpAny (model prog w) A (pyNext (.ref z)) Q E s:=by
 have ty:s.TypeIs (.ref z) "zip" := ⟨_,S.rd,rfl⟩
 unfold pyNext
 exact Qx (wpAny_attempt (R8 (name:=Str.ofString "__next__") ty F.slot_zip_next (So F.slot_zip_next ty F.entry_zip_next (S.item W1 W2 hx hy fun h1 a b c d=>Qz (go h1 a b c d)) (F.args_zip_next_1 _))))
theorem Zs.pyDone{Q:Option Value->Shared->Prop}(hh:A.handled=none)(W1:Wk prog w i1 l1 P1 g1)(W2:Wk prog w i2 l2 P2 g2)(S:Zs z TI TO i1 i2 l1 l2 P1 P2 k s.heap)(hxy:g1 k=none\/g2 k=none)
  (go:∀h1,(∀c o,c∉[z,TO,i1,i2]->s.heap.get? c=some o->h1.get? c=some o)->Q none { s with heap:=h1 }):wpAny (model prog w) A (pyNext (.ref z)) Q E s:=by
 have ty:s.TypeIs (.ref z) "zip" := ⟨_,S.rd,rfl⟩
 unfold pyNext
 refine Qx (wpAny_attempt (R8 (name:=Str.ofString "__next__") ty F.slot_zip_next (So F.slot_zip_next ty F.entry_zip_next (S.done hh W1 W2 hxy fun h1 e kk he=>?_) (F.args_zip_next_1 _))))
 obtain⟨oe,ho,hc⟩:=he
 exact Qx (wpAny_isInstance (T := "StopIteration") (b:=true) ⟨oe,ho,hc⟩ isSubtype_stop (Qz (go h1 kk)))
end
abbrev AT(h:Heap)(a:Addr):Heap:=h.push { cls:=.type "tuple_iterator", data:=.fields #[.ref a,.int 0 0] }
abbrev AS(h:Heap)(a b:Addr):Heap:=(AT h a).push { cls:=.type "tuple_iterator", data:=.fields #[.ref b,.int 0 0] }
abbrev AR(h:Heap)(a b:Addr):Heap:=(AS h a b).push { cls:=.type "tuple", data:=.seq #[.ref h.objs.size,.ref (AT h a).objs.size] }
abbrev AQ(h:Heap)(a b:Addr):Heap:=(AR h a b).push { cls:=.type "tuple", data:=.seq #[.none,.none] }
abbrev qP(h:Heap)(a b:Addr):Heap:=(AQ h a b).push { cls:=.type "zip", data:=.fields #[.none,.bool false,.bool false,.ref (AS h a b).objs.size,.ref (AR h a b).objs.size] }
theorem Ez(a b:Addr)(xs ys:Array Value) :
  Meets (Builtin.«zip.__new__» ⟨[.type "zip", .ref a,.ref b],[]⟩) (fun _ R s=>s.heap.IsTuple a xs/\s.heap.IsTuple b ys/\R (.ok (.ret (.ref (AQ s.heap a b).objs.size))) { s with heap:=qP s.heap a b }) :=
 .of_wp fun pg wd AA RR st hh=>by
  obtain⟨hp0,gg,dd,tk0,oo⟩:=st;obtain⟨ha,hb,hh⟩:=hh
  have hsub0:=sub_zip
  have T1:Heap.IsTuple (Shared.heap ⟨hp0,gg,dd,tk0,oo⟩) a xs:=ha
  have T2:Heap.IsTuple (Shared.heap ⟨hp0.push { cls:=.type "tuple_iterator", data:=.fields #[.ref a,.int 0 0] },gg,dd,tk0,oo⟩) b ys:=hb.at fun o e=>Qy _ e
  wp_walk using RM T1,RM T2
  exact⟨_,rfl,hh⟩
theorem BX{a b:Addr}(ha:s.heap.IsTuple a xs)(hb:s.heap.IsTuple b ys)
  (go:∀h1,Zs (s.heap.objs.size+4) (s.heap.objs.size+2) (s.heap.objs.size+3) s.heap.objs.size (s.heap.objs.size+1) a b (fun k h=>h.IsTupleIter s.heap.objs.size a k/\h.IsTuple a xs) (fun k h=>h.IsTupleIter (s.heap.objs.size+1) b k/\h.IsTuple b ys) 0 h1->(∀c o,s.heap.get? c=some o->h1.get? c=some o)->Q (.ref (s.heap.objs.size+4)) { s with heap:=h1 }) :
  wpAny (model prog w) A (call (.type "zip") [.ref a,.ref b]) Q E s:=by
 refine callType_new F.called_zip (by decide) (F.typeCall_zip_2 _ _) (F.newCall_zip_2 _ _) (fun ob=>F.args_object_init_3 ob _ _) F.entry_zip_new (Ez a b xs ys) ⟨ha,hb,?_⟩
 have s1:(AT s.heap a).objs.size=s.heap.objs.size+1:=Rg ..
 have s2:(AS s.heap a b).objs.size=s.heap.objs.size+2:=by rw[Rg,s1]
 have s3:(AR s.heap a b).objs.size=s.heap.objs.size+3:=by rw[Rg,s2]
 have s4:(AQ s.heap a b).objs.size=s.heap.objs.size+4:=by rw[Rg,s3]
 have r5:(qP s.heap a b).get? (AQ s.heap a b).objs.size=some _:=QH _ rfl
 have r4:(qP s.heap a b).get? (AR s.heap a b).objs.size=some _:=Qy _ (QH _ rfl)
 have r3:(qP s.heap a b).get? (AS s.heap a b).objs.size=some _:=Qy _ (Qy _ (QH _ rfl))
 have r2:(qP s.heap a b).get? (AT s.heap a).objs.size=some _:=Qy _ (Qy _ (Qy _ (QH _ rfl)))
 have r1:(qP s.heap a b).get? s.heap.objs.size=some _:=Qy _ (Qy _ (Qy _ (Qy _ (QH _ rfl))))
 have up:∀c o,s.heap.get? c=some o->(qP s.heap a b).get? c=some o:=fun c o e=>Qy _ (Qy _ (Qy _ (Qy _ (Qy _ e))))
 have la:a<s.heap.objs.size:=by obtain⟨_,e,_⟩:=ha;exact QC e
 have lb:b<s.heap.objs.size:=by obtain⟨_,e,_⟩:=hb;exact QC e
 rw[s2,s3,s4]at r5
 rw[s1,s2]at r3
 rw[s3]at r4
 rw[s1]at r2
 show _/\_
 rw[s4]
 have ne:∀{m n:Nat},m<n->m≠n:=fun h=>QT h
 refine⟨⟨_,r5,rfl⟩,go _ ⟨?_,r5,r3,⟨_,_,r4⟩,⟨⟨_,r1,rfl,rfl⟩,ha.at fun o e=>up _ _ e⟩,⟨⟨_,r2,rfl,rfl⟩,hb.at fun o e=>up _ _ e⟩⟩ up⟩
 generalize s.heap.objs.size=n at la lb
 have la':(a:Nat)<n:=la
 have lb':(b:Nat)<n:=lb
 constructor<;>first|exact ne (by omega)|exact(ne (by omega)).symm|exact ne (QG la (by omega))|exact ne (QG lb (by omega))|exact ne la|exact ne lb
variable{X:Cx}
theorem mV{t2:Nat}(I:al X pins σ H s)
  (k:∀b u,b∉ch->s.heap.get? b=some u->h2.get? b=some u) (hn:∀b∈ch,fV X pins H b):al X pins σ H { s with heap:=h2,toks:=t2 }:=by
 have tr:∀b u,H b=some u->b∉ch:=fun b u e z=>by rw[(hn b z).1]at e;cases e
 have un:Un (cw X.stack) ch H H s.heap h2:=⟨fun b ob e n _ c=>k b ob c e,fun b ob e n _ c=>⟨ob.slots,k b ob c e⟩,fun b ob e n c=>n,fun b ob e c=>⟨ob,k b ob c e⟩,fun b xs e=>e,fun b ob u e=>e,fun b ps e=>⟨#[],by rw[e];simp⟩⟩
 refine I.call (g':=s.gens) (d':=s.drawn) un (fun b u e=>?_) I.bare fun b hb=>⟨(hn b hb).2.2.2.1,(hn b hb).2.1,(hn b hb).2.2.2.2.1,(hn b hb).2.2.2.2.2⟩
 refine(I.hok b u e).stay (fun c v hc q=>k c v ?_ q) (fun c q=>q) fun c xs q=>q
 rcases hc with z|z
 ·rw[z];exact tr b u e
 ·exact tr c _ z
def Qw(K:W.Frag)(a b:Addr):It :=
 ⟨fun i H => ∃xs ys x y,bT K H a xs/\xs[i]?=some x/\bT K H b ys/\ys[i]?=some y,fun i H x H' => ∃p u v,x=.ref p/\H p=none/\H'=aG H p (.tup [u,v])/\(∀xs,bT K H a xs->xs[i]?=some u)/\∀ys,bT K H b ys->ys[i]?=some v,fun i H => ∃xs ys,bT K H a xs/\bT K H b ys/\(xs.length<=i\/ys.length<=i)⟩
theorem y6(a b z TI TO i1 i2:Addr)(D:ZipApart z TI TO i1 i2 a b) :
  L2.Turn P w K (.Tuple es n1 pos) (Qw K a b) [z,TI,TO,i1,i2] z (fun i h=>IsZip h z TI TO .none/\IsPair h TI (.ref i1) (.ref i2)/\(∃u v,IsPair h TO u v)/\h.IsTupleIter i1 a i/\h.IsTupleIter i2 b i) where
 mem:=by simp
 obj:=fun i h st c hc=>by
  obtain⟨q1,q2,⟨u,v,q3⟩,⟨o4,q4,c4,d4⟩,⟨o5,q5,c5,d5⟩⟩:=st
  simp only[QA,QI,Q1]at hc
  rcases hc with rfl|rfl|rfl|rfl|rfl
  ·exact⟨_,q1,fun v e=>by have e':Data.fields _=Data.cell v:=e;cases e'⟩
  ·exact⟨_,q2,fun v e=>by have e':Data.seq _ _=Data.cell v:=e;cases e'⟩
  ·exact⟨_,q3,fun v e=>by have e':Data.seq _ _=Data.cell v:=e;cases e'⟩
  ·exact⟨_,q4,fun v e=>by rw[d4]at e;cases e⟩
  ·exact⟨_,q5,fun v e=>by rw[d5]at e;cases e⟩
 keep:=fun i h h' ⟨q1,q2,⟨u,v,q3⟩,q4,q5⟩ k=>⟨k _ (by simp) _ q1,k _ (by simp) _ q2,⟨u,v,k _ (by simp) _ q3⟩,q4.at fun o e=>k _ (by simp) o e,q5.at fun o e=>k _ (by simp) o e⟩
 item:=by
  intro Y hP hw hK hc i pins s σ H E I hf st hg
  subst hP hw hK
  obtain⟨xs,ys,x,y,hq,hx,hr,hy⟩:=hg
  obtain⟨its,rv,p1,hz⟩:=I.tuple hq
  obtain⟨jts,rw',p2,hz'⟩:=I.tuple hr
  obtain⟨u,hu,ru⟩:=rv.get hx
  obtain⟨v,hv,rv'⟩:=rw'.get hy
  obtain⟨q1,q2,q3,q4,q5⟩:=st
  have zlt:z<s.heap.objs.size:=QC q1
  refine Zs.pyItem (jS (i:=i1) (l:=a) (xs:=its.toArray) D.l1i1) (jS (i:=i2) (l:=b) (xs:=jts.toArray) D.l2i2) ⟨D,q1,q2,q3,⟨q4,p1⟩,⟨q5,p2⟩⟩ (x:=u) (y:=v) (by simpa using hu) (by simpa using hv) fun h1 iJ zo t1 k1=>?_
  refine⟨_,rfl,wpAny_letOwnedTupleGo_zip zo fun h2 z2 m2=>?_⟩
  have m2:Heap.SameBut z h1 h2:=m2
  have N:=iJ h2 z2 m2
  have k2:∀c o,c∉[z,TI,TO,i1,i2]->s.heap.get? c=some o->h2.get? c=some o:=fun c o nc q=>by
   have n1:c≠z:=fun e=>nc (by simp[e])
   refine m2.extBut c o n1 (k1 c o (fun e=>nc ?_) q)
   simp only[QA,QI,Q1]at e⊢
   rcases e with e|e|e|e<;>simp[e]
  have t2:h2.get? s.heap.objs.size=some { cls:=.type "tuple", data:=.seq #[u,v] }:=m2.extBut _ _ (RL zlt) t1
  have hn0:H s.heap.objs.size=none:=I.hok.fresh (QF _)
  refine⟨.ref s.heap.objs.size,aG H s.heap.objs.size (.tup [x,y]),pH (s:=s) (h2:=h2) (t2:=s.toks) I k2 (QF _) hf ?_,rfl,⟨_,x,y,rfl,hn0,rfl,fun ws hw=>by rw[I.tuple_inj hw hq];exact hx,fun ws hw=>by rw[I.tuple_inj hw hr];exact hy⟩,⟨N.rd,N.ins,N.out,N.fst.1,N.snd.1⟩,fun c hc=>?_⟩
  ·exact⟨by show 2<=sizeLine;decide,[u,v],.cons ru (.cons rv' .nil),⟨_,t2,rfl,_,rfl⟩⟩
  ·have hb':=hf c hc
   have lt:c<s.heap.objs.size:=by
    obtain⟨u',v',q3⟩:=q3
    obtain⟨o4,q4,_⟩:=q4
    obtain⟨o5,q5,_⟩:=q5
    simp only[QA,QI,Q1]at hc
    rcases hc with rfl|rfl|rfl|rfl|rfl
    ·exact zlt
    ·exact QC q2
    ·exact QC q3
    ·exact QC q4
    ·exact QC q5
   rw[ax (QT lt)];exact hb'.1
 done:=by
  intro Y hP hw hK hc i pins s σ H E I hf st hg
  subst hP hw hK
  obtain⟨xs,ys,hq,hr,hl⟩:=hg
  obtain⟨its,rv,p1,hz⟩:=I.tuple hq
  obtain⟨jts,rw',p2,hz'⟩:=I.tuple hr
  obtain⟨q1,q2,q3,q4,q5⟩:=st
  have l1:=rv.length
  have l2:=rw'.length
  refine Zs.pyDone (I.ok.hd hc) (jS (i:=i1) (l:=a) (xs:=its.toArray) D.l1i1) (jS (i:=i2) (l:=b) (xs:=jts.toArray) D.l2i2) ⟨D,q1,q2,q3,⟨q4,p1⟩,⟨q5,p2⟩⟩ ?_ fun h1 k1=>⟨rfl,mV (s:=s) (t2:=s.toks) (ch:=[z,TI,TO,i1,i2]) I (fun c o nc q=>k1 c o (fun e=>nc ?_) q) hf⟩
  ·rcases hl with hl|hl
   ·exact .inl (by simp;omega)
   ·exact .inr (by simp;omega)
  ·simp only[QA,QI,Q1]at e⊢
   rcases e with e|e|e|e<;>simp[e]
 self:=fun _ _ _ _ _ st h=>wpAny_pyIter_zip st.1 h
theorem GT{b:Expr}{m:List D}(hg:Gl X "zip")(hm0:X.mg "zip" = none)(ha:AD X ρ [a,b] [.tup l,.tup m] k)(hst:∀e∈[a,b],∀y p,e ≠ .Starred y p)(hf:az l=true)(hm:az m=true) :
  IE X ρ (.Tuple es n1 tp) (.Call (.Name "zip" p) [a,b] [] pos) (List.zipWith (fun x y=>.tup [x,y]) l m) 0:=by
 intro ow pins s σ H R I ⟨E,q⟩
 have n1':=aA (env:=X.env) (es:=[b]) (hst a (by simp))
 have n2':(backTo pos (starEach [b] X.env)).any (·.1)=false:=be fun x hx=>hst x (by simp at hx;simp[hx])
 refine Call_ (eo I hg hm0 (show bootBuiltins "zip" = some (.type "zip") by decide +kernel) (Rr (aN (ha ow pos pins s σ H (fun vs H1=>av H H1/\ah X.K H1 (Kp ow H k) [.tup l,.tup m] vs) I ⟨E,fun vs H1 s1 r1=>⟨s1,r1⟩⟩) fun us s1 ⟨vs,H1,I1,rv,sm,rp⟩=>?_) n1' n2') (by decide +kernel) (by decide +kernel))
 rw[ah]at rp
 obtain⟨v1,vr,rfl,rp1,rp2⟩:=rp
 obtain⟨v2,rfl,rp3⟩:=rp2.only
 obtain⟨ta,xs,rfl,hq,rl⟩:=ej rp1
 obtain⟨tb,ys,rfl,hr,rm⟩:=ej rp3
 obtain⟨u1,u2,rfl,ru1,ru2⟩:=kM rv
 cases (show u1=Value.ref ta from ru1)
 cases (show u2=Value.ref tb from ru2)
 obtain⟨its,rvs,pt,hz⟩:=I1.tuple hq
 obtain⟨jts,rvs',pt',hz'⟩:=I1.tuple hr
 refine BX (show s1.heap.IsTuple ta its.toArray from pt) (show s1.heap.IsTuple tb jts.toArray from pt') fun h2 Z k2=>?_
 refine wpAny_pyIter_zip Z.rd ?_
 have I2:al X pins σ H1 { s1 with heap:=h2 }:=I1.kept (t':=s1.toks) k2
 have fr:∀j,fV X pins H1 (s1.heap.objs.size+j):=fun j=>I1.fpOk (Sc _ _) (I1.hok.fresh (Sc _ _))
 refine⟨s1.heap.objs.size+4,[s1.heap.objs.size+4,s1.heap.objs.size+2,s1.heap.objs.size+3,s1.heap.objs.size,s1.heap.objs.size+1],_,_,H1,rfl,I2,y6 ta tb _ _ _ _ _ Z.ap,⟨Z.rd,Z.ins,Z.out,Z.fst.1,Z.snd.1⟩,fun c hc=>?_,q _ H1 sm ?_⟩
 ·simp only[QA,QI,Q1]at hc
  rcases hc with rfl|rfl|rfl|rfl|rfl
  ·exact fr 4
  ·exact fr 2
  ·exact fr 3
  ·exact fr 0
  ·exact fr 1
 ·intro i H2 st
  have rl':ah X.K H1 (Kd ow H 0 H1) l xs:=rl.flat _ hf
  have rm':ah X.K H1 (Kd ow H 0 H1) m ys:=rm.flat _ hm
  refine⟨fun d hd=>?_,fun hle=>?_⟩
  ·rw[List.getElem?_zipWith]at hd
   cases e:l[i]? with
   | none=>rw[e]at hd;cases hd
   | some x =>
    cases e':m[i]? with
    | none=>rw[e,e']at hd;cases hd
    | some y =>
     rw[e,e']at hd;cases hd
     obtain⟨u,hu,ru⟩:=rl'.get e
     obtain⟨v,hv,rv⟩:=rm'.get e'
     refine⟨⟨xs,ys,u,v,st.sq hq,hu,st.sq hr,hv⟩,fun x' H3 ⟨p',u',v',e1,e2,e3,e4,e5⟩=>?_⟩
     have c1:=e4 xs (st.sq hq)
     have c2:=e5 ys (st.sq hr)
     rw[hu]at c1;cases c1
     rw[hv]at c2;cases c2
     subst e1 e3
     have sm3:=bR (o:=HO.tup [u,v]) e2
     refine⟨sm3,?_⟩
     rw[aj]
     exact⟨p',_,rfl,bT.of aD,ah.cons ((ru.mono st).same sm3) (ah.one ((rv.mono st).same sm3))⟩
  ·rw[List.length_zipWith]at hle
   have l1:=rl.length
   have l2:=rm.length
   exact⟨xs,ys,st.sq hq,st.sq hr,by omega⟩
variable{X:Cx}
def gU(κ:Bool)(h:Heap)(i a:Addr)(k:Nat):Prop:=match κ with|true=>h.IsTupleIter i a k|false=>h.IsListIter i a k
def fU(κ:Bool)(h:Heap)(a:Addr)(xs:Array Value):Prop:=match κ with|true=>h.IsTuple a xs|false=>h.IsList a xs
def kF(κ:Bool)(K:W.Frag)(H:Hp)(a:Addr)(xs:List V):Prop:=match κ with|true=>bT K H a xs|false=>cj K H a xs
def jX(κ:Bool)(l:List D):D:=match κ with|true=>.tup l|false=>.lst l
def GN(κ:Bool):String:=match κ with|true => "tuple_iterator" | false => "list_iterator"
theorem u6(κ:Bool){i l:Addr}(ne:l≠i):Wk prog w i l (fun k h=>gU κ h i l k/\fU κ h l xs) (fun k=>xs[k]?):=by
 cases κ
 ·exact EC ne
 ·exact jS ne
theorem iK{i a:Addr}(p:gU κ h i a k):∃o,h.get? i=some o/\∀v,o.data≠Data.cell v:=by
 cases κ
 ·obtain⟨o,e,_,d⟩:=(show h.IsListIter i a k from p);exact⟨o,e,fun v z=>by rw[d]at z;cases z⟩
 ·obtain⟨o,e,_,d⟩:=(show h.IsTupleIter i a k from p);exact⟨o,e,fun v z=>by rw[d]at z;cases z⟩
theorem sg{i a:Addr}(p:gU κ h i a k)(q:∀o,h.get? i=some o->h'.get? i=some o):gU κ h' i a k:=by
 cases κ
 ·exact(show h.IsListIter i a k from p).at q
 ·exact(show h.IsTupleIter i a k from p).at q
theorem r9{a:Addr}(p:fU κ h a xs)(q:∀o,h.get? a=some o->h'.get? a=some o):fU κ h' a xs:=by
 cases κ
 ·exact(show h.IsList a xs from p).at q
 ·exact(show h.IsTuple a xs from p).at q
theorem r8{a:Addr}(p:fU κ h a xs):a<h.objs.size:=by
 cases κ
 ·obtain⟨_,e,_⟩:=(show h.IsList a xs from p);exact QC e
 ·obtain⟨_,e,_⟩:=(show h.IsTuple a xs from p);exact QC e
theorem kX{a:Addr}{xs:List V}(I:al X pins σ H s)(h:kF κ X.K H a xs):∃its:List Value,aL xs its/\fU κ s.heap a its.toArray/\xs.length<=sizeLine:=by
 cases κ
 ·obtain⟨its,r,p,z⟩:=I.list h;exact⟨its,r,p.isList,z⟩
 ·obtain⟨its,r,p,z⟩:=I.tuple h;exact⟨its,r,p,z⟩
theorem pJ{a:Addr}{xs ys:List V}(I:al X pins σ H s)(h:kF κ X.K H a xs)(h':kF κ X.K H a ys):xs=ys:=by
 cases κ
 ·exact I.list_inj h h'
 ·exact I.tuple_inj h h'
theorem jW(h:aj X.K H1 (Kp ow H k) (jX κ l) v):∃a vs,v=.ref a/\kF κ X.K H1 a vs/\ah X.K H1 (Kp ow H k) l vs/\∀{P':bj} {H2:Hp},dM (Kd ow H k H1) P' H1 H2->kF κ X.K H2 a vs:=by
 cases κ
 ·rw[show jX false l=.lst l from rfl,aj]at h
  obtain⟨a,vs,b,rfl,hl,hp,rl⟩:=h
  have hp':Kd ow H k H1 a b:=⟨hp,fun hb=>by subst hb;exact⟨_,hl⟩⟩
  exact⟨a,vs,rfl,hl.sq,rl,fun st=>(st.ls hl hp').sq⟩
 ·rw[show jX true l=.tup l from rfl,aj]at h
  obtain⟨a,vs,rfl,hl,rl⟩:=h
  exact⟨a,vs,rfl,hl,rl,fun st=>st.sq hl⟩
abbrev AW(κ:Bool)(h:Heap)(a:Addr):Heap:=h.push { cls:=.type (GN κ),data:=.fields #[.ref a,.int 0 0] }
abbrev AV(κ κ':Bool)(h:Heap)(a b:Addr):Heap:=(AW κ h a).push { cls:=.type (GN κ'),data:=.fields #[.ref b,.int 0 0] }
abbrev AU(κ κ':Bool)(h:Heap)(a b:Addr):Heap:=(AV κ κ' h a b).push { cls:=.type "tuple", data:=.seq #[.ref h.objs.size,.ref (AW κ h a).objs.size] }
abbrev oZ(κ κ':Bool)(h:Heap)(a b:Addr):Heap:=(AU κ κ' h a b).push { cls:=.type "tuple", data:=.seq #[.none,.none] }
abbrev jQ(κ κ':Bool)(h:Heap)(a b:Addr):Heap:=(oZ κ κ' h a b).push { cls:=.type "zip", data:=.fields #[.none,.bool false,.bool false,.ref (AV κ κ' h a b).objs.size,.ref (AU κ κ' h a b).objs.size] }
theorem jP(a b:Addr)(xs ys:Array Value) :
  Meets (Builtin.«zip.__new__» ⟨[.type "zip", .ref a,.ref b],[]⟩) (fun _ R s=>s.heap.IsList a xs/\s.heap.IsList b ys/\R (.ok (.ret (.ref (oZ false false s.heap a b).objs.size))) { s with heap:=jQ false false s.heap a b }) :=
 .of_wp fun pg wd AA RR st hh=>by
  obtain⟨hp0,gg,dd,tk0,oo⟩:=st;obtain⟨ha,hb,hh⟩:=hh
  have hsub0:=sub_zip
  have T1:Heap.IsList (Shared.heap ⟨hp0,gg,dd,tk0,oo⟩) a xs:=ha
  have T2:Heap.IsList (Shared.heap ⟨hp0.push { cls:=.type "list_iterator", data:=.fields #[.ref a,.int 0 0] },gg,dd,tk0,oo⟩) b ys:=hb.at fun o e=>Qy _ e
  wp_walk using RP T1,RP T2
  exact⟨_,rfl,hh⟩
theorem lw(a b:Addr)(xs ys:Array Value) :
  Meets (Builtin.«zip.__new__» ⟨[.type "zip", .ref a,.ref b],[]⟩) (fun _ R s=>s.heap.IsList a xs/\s.heap.IsTuple b ys/\R (.ok (.ret (.ref (oZ false true s.heap a b).objs.size))) { s with heap:=jQ false true s.heap a b }) :=
 .of_wp fun pg wd AA RR st hh=>by
  obtain⟨hp0,gg,dd,tk0,oo⟩:=st;obtain⟨ha,hb,hh⟩:=hh
  have hsub0:=sub_zip
  have T1:Heap.IsList (Shared.heap ⟨hp0,gg,dd,tk0,oo⟩) a xs:=ha
  have T2:Heap.IsTuple (Shared.heap ⟨hp0.push { cls:=.type "list_iterator", data:=.fields #[.ref a,.int 0 0] },gg,dd,tk0,oo⟩) b ys:=hb.at fun o e=>Qy _ e
  wp_walk using RP T1,RM T2
  exact⟨_,rfl,hh⟩
theorem lu(a b:Addr)(xs ys:Array Value) :
  Meets (Builtin.«zip.__new__» ⟨[.type "zip", .ref a,.ref b],[]⟩) (fun _ R s=>s.heap.IsTuple a xs/\s.heap.IsList b ys/\R (.ok (.ret (.ref (oZ true false s.heap a b).objs.size))) { s with heap:=jQ true false s.heap a b }) :=
 .of_wp fun pg wd AA RR st hh=>by
  obtain⟨hp0,gg,dd,tk0,oo⟩:=st;obtain⟨ha,hb,hh⟩:=hh
  have hsub0:=sub_zip
  have T1:Heap.IsTuple (Shared.heap ⟨hp0,gg,dd,tk0,oo⟩) a xs:=ha
  have T2:Heap.IsList (Shared.heap ⟨hp0.push { cls:=.type "tuple_iterator", data:=.fields #[.ref a,.int 0 0] },gg,dd,tk0,oo⟩) b ys:=hb.at fun o e=>Qy _ e
  wp_walk using RM T1,RP T2
  exact⟨_,rfl,hh⟩
theorem lI(a b:Addr)(xs ys:Array Value) :
  Meets (Builtin.«zip.__new__» ⟨[.type "zip", .ref a,.ref b],[]⟩) (fun _ R s=>s.heap.IsTuple a xs/\s.heap.IsTuple b ys/\R (.ok (.ret (.ref (oZ true true s.heap a b).objs.size))) { s with heap:=jQ true true s.heap a b }) :=
 .of_wp fun pg wd AA RR st hh=>by
  obtain⟨hp0,gg,dd,tk0,oo⟩:=st;obtain⟨ha,hb,hh⟩:=hh
  have hsub0:=sub_zip
  have T1:Heap.IsTuple (Shared.heap ⟨hp0,gg,dd,tk0,oo⟩) a xs:=ha
  have T2:Heap.IsTuple (Shared.heap ⟨hp0.push { cls:=.type "tuple_iterator", data:=.fields #[.ref a,.int 0 0] },gg,dd,tk0,oo⟩) b ys:=hb.at fun o e=>Qy _ e
  wp_walk using RM T1,RM T2
  exact⟨_,rfl,hh⟩
theorem EA(κ κ':Bool)(a b:Addr)(xs ys:Array Value) :
  Meets (Builtin.«zip.__new__» ⟨[.type "zip", .ref a,.ref b],[]⟩) (fun _ R s=>fU κ s.heap a xs/\fU κ' s.heap b ys/\R (.ok (.ret (.ref (oZ κ κ' s.heap a b).objs.size))) { s with heap:=jQ κ κ' s.heap a b }):=by
 cases κ<;>cases κ'
 ·exact jP a b xs ys
 ·exact lw a b xs ys
 ·exact lu a b xs ys
 ·exact lI a b xs ys
theorem se{i a:Addr}(e:h.get? i=some { cls:=.type (GN κ),data:=.fields #[.ref a,.int 0 0] }):gU κ h i a 0:=by
 cases κ
 ·exact⟨_,e,rfl,rfl⟩
 ·exact⟨_,e,rfl,rfl⟩
theorem yU{a b:Addr}(ha:fU κ s.heap a xs)(hb:fU κ' s.heap b ys)
  (go:∀h1,Zs (s.heap.objs.size+4) (s.heap.objs.size+2) (s.heap.objs.size+3) s.heap.objs.size (s.heap.objs.size+1) a b (fun k h=>gU κ h s.heap.objs.size a k/\fU κ h a xs) (fun k h=>gU κ' h (s.heap.objs.size+1) b k/\fU κ' h b ys) 0 h1->(∀c o,s.heap.get? c=some o->h1.get? c=some o)->Q (.ref (s.heap.objs.size+4)) { s with heap:=h1 }) :
  wpAny (model prog w) A (call (.type "zip") [.ref a,.ref b]) Q E s:=by
 refine callType_new F.called_zip (by decide) (F.typeCall_zip_2 _ _) (F.newCall_zip_2 _ _) (fun ob=>F.args_object_init_3 ob _ _) F.entry_zip_new (EA κ κ' a b xs ys) ⟨ha,hb,?_⟩
 have s1:(AW κ s.heap a).objs.size=s.heap.objs.size+1:=Rg ..
 have s2:(AV κ κ' s.heap a b).objs.size=s.heap.objs.size+2:=by rw[Rg,s1]
 have s3:(AU κ κ' s.heap a b).objs.size=s.heap.objs.size+3:=by rw[Rg,s2]
 have s4:(oZ κ κ' s.heap a b).objs.size=s.heap.objs.size+4:=by rw[Rg,s3]
 have r5:(jQ κ κ' s.heap a b).get? (oZ κ κ' s.heap a b).objs.size=some _:=QH _ rfl
 have r4:(jQ κ κ' s.heap a b).get? (AU κ κ' s.heap a b).objs.size=some _:=Qy _ (QH _ rfl)
 have r3:(jQ κ κ' s.heap a b).get? (AV κ κ' s.heap a b).objs.size=some _:=Qy _ (Qy _ (QH _ rfl))
 have r2:(jQ κ κ' s.heap a b).get? (AW κ s.heap a).objs.size=some _:=Qy _ (Qy _ (Qy _ (QH _ rfl)))
 have r1:(jQ κ κ' s.heap a b).get? s.heap.objs.size=some _:=Qy _ (Qy _ (Qy _ (Qy _ (QH _ rfl))))
 have up:∀c o,s.heap.get? c=some o->(jQ κ κ' s.heap a b).get? c=some o:=fun c o e=>Qy _ (Qy _ (Qy _ (Qy _ (Qy _ e))))
 have la:a<s.heap.objs.size:=r8 ha
 have lb:b<s.heap.objs.size:=r8 hb
 rw[s2,s3,s4]at r5
 rw[s1,s2]at r3
 rw[s3]at r4
 rw[s1]at r2
 show _/\_
 rw[s4]
 have ne:∀{m n:Nat},m<n->m≠n:=fun h=>QT h
 refine⟨⟨_,r5,rfl⟩,go _ ⟨?_,r5,r3,⟨_,_,r4⟩,⟨se r1,r9 ha fun o e=>up _ _ e⟩,⟨se r2,r9 hb fun o e=>up _ _ e⟩⟩ up⟩
 generalize s.heap.objs.size=n at la lb
 have la':(a:Nat)<n:=la
 have lb':(b:Nat)<n:=lb
 constructor<;>first|exact ne (by omega)|exact(ne (by omega)).symm|exact ne (QG la (by omega))|exact ne (QG lb (by omega))|exact ne la|exact ne lb
def Qb(κ κ':Bool)(K:W.Frag)(a b:Addr):It :=
 ⟨fun i H => ∃xs ys x y,kF κ K H a xs/\xs[i]?=some x/\kF κ' K H b ys/\ys[i]?=some y,fun i H x H' => ∃p u v,x=.ref p/\H p=none/\H'=aG H p (.tup [u,v])/\(∀xs,kF κ K H a xs->xs[i]?=some u)/\∀ys,kF κ' K H b ys->ys[i]?=some v,fun i H => ∃xs ys,kF κ K H a xs/\kF κ' K H b ys/\(xs.length<=i\/ys.length<=i)⟩
theorem wR(κ κ':Bool)(a b z TI TO i1 i2:Addr)(D:ZipApart z TI TO i1 i2 a b) :
  L2.Turn P w K (.Tuple es n1 pos) (Qb κ κ' K a b) [z,TI,TO,i1,i2] z (fun i h=>IsZip h z TI TO .none/\IsPair h TI (.ref i1) (.ref i2)/\(∃u v,IsPair h TO u v)/\gU κ h i1 a i/\gU κ' h i2 b i) where
 mem:=by simp
 obj:=fun i h st c hc=>by
  obtain⟨q1,q2,⟨u,v,q3⟩,q4,q5⟩:=st
  obtain⟨o4,q4,d4⟩:=iK q4
  obtain⟨o5,q5,d5⟩:=iK q5
  simp only[QA,QI,Q1]at hc
  rcases hc with rfl|rfl|rfl|rfl|rfl
  ·exact⟨_,q1,fun v e=>by have e':Data.fields _=Data.cell v:=e;cases e'⟩
  ·exact⟨_,q2,fun v e=>by have e':Data.seq _ _=Data.cell v:=e;cases e'⟩
  ·exact⟨_,q3,fun v e=>by have e':Data.seq _ _=Data.cell v:=e;cases e'⟩
  ·exact⟨_,q4,d4⟩
  ·exact⟨_,q5,d5⟩
 keep:=fun i h h' ⟨q1,q2,⟨u,v,q3⟩,q4,q5⟩ k=>⟨k _ (by simp) _ q1,k _ (by simp) _ q2,⟨u,v,k _ (by simp) _ q3⟩,sg q4 fun o e=>k _ (by simp) o e,sg q5 fun o e=>k _ (by simp) o e⟩
 item:=by
  intro Y hP hw hK hc i pins s σ H E I hf st hg
  subst hP hw hK
  obtain⟨xs,ys,x,y,hq,hx,hr,hy⟩:=hg
  obtain⟨its,rv,p1,hz⟩:=kX I hq
  obtain⟨jts,rw',p2,hz'⟩:=kX I hr
  obtain⟨u,hu,ru⟩:=rv.get hx
  obtain⟨v,hv,rv'⟩:=rw'.get hy
  obtain⟨q1,q2,q3,q4,q5⟩:=st
  have zlt:z<s.heap.objs.size:=QC q1
  refine Zs.pyItem (u6 κ (i:=i1) (l:=a) (xs:=its.toArray) D.l1i1) (u6 κ' (i:=i2) (l:=b) (xs:=jts.toArray) D.l2i2) ⟨D,q1,q2,q3,⟨q4,p1⟩,⟨q5,p2⟩⟩ (x:=u) (y:=v) (by simpa using hu) (by simpa using hv) fun h1 iJ zo t1 k1=>?_
  refine⟨_,rfl,wpAny_letOwnedTupleGo_zip zo fun h2 z2 m2=>?_⟩
  have m2:Heap.SameBut z h1 h2:=m2
  have N:=iJ h2 z2 m2
  have k2:∀c o,c∉[z,TI,TO,i1,i2]->s.heap.get? c=some o->h2.get? c=some o:=fun c o nc q=>by
   have n1:c≠z:=fun e=>nc (by simp[e])
   refine m2.extBut c o n1 (k1 c o (fun e=>nc ?_) q)
   simp only[QA,QI,Q1]at e⊢
   rcases e with e|e|e|e<;>simp[e]
  have t2:h2.get? s.heap.objs.size=some { cls:=.type "tuple", data:=.seq #[u,v] }:=m2.extBut _ _ (RL zlt) t1
  have hn0:H s.heap.objs.size=none:=I.hok.fresh (QF _)
  refine⟨.ref s.heap.objs.size,aG H s.heap.objs.size (.tup [x,y]),pH (s:=s) (h2:=h2) (t2:=s.toks) I k2 (QF _) hf ?_,rfl,⟨_,x,y,rfl,hn0,rfl,fun ws hw=>by rw[pJ I hw hq];exact hx,fun ws hw=>by rw[pJ I hw hr];exact hy⟩,⟨N.rd,N.ins,N.out,N.fst.1,N.snd.1⟩,fun c hc=>?_⟩
  ·exact⟨by show 2<=sizeLine;decide,[u,v],.cons ru (.cons rv' .nil),⟨_,t2,rfl,_,rfl⟩⟩
  ·have hb':=hf c hc
   have lt:c<s.heap.objs.size:=by
    obtain⟨u',v',q3⟩:=q3
    obtain⟨o4,q4,_⟩:=iK q4
    obtain⟨o5,q5,_⟩:=iK q5
    simp only[QA,QI,Q1]at hc
    rcases hc with rfl|rfl|rfl|rfl|rfl
    ·exact zlt
    ·exact QC q2
    ·exact QC q3
    ·exact QC q4
    ·exact QC q5
   rw[ax (QT lt)];exact hb'.1
 done:=by
  intro Y hP hw hK hc i pins s σ H E I hf st hg
  subst hP hw hK
  obtain⟨xs,ys,hq,hr,hl⟩:=hg
  obtain⟨its,rv,p1,hz⟩:=kX I hq
  obtain⟨jts,rw',p2,hz'⟩:=kX I hr
  obtain⟨q1,q2,q3,q4,q5⟩:=st
  have l1:=rv.length
  have l2:=rw'.length
  refine Zs.pyDone (I.ok.hd hc) (u6 κ (i:=i1) (l:=a) (xs:=its.toArray) D.l1i1) (u6 κ' (i:=i2) (l:=b) (xs:=jts.toArray) D.l2i2) ⟨D,q1,q2,q3,⟨q4,p1⟩,⟨q5,p2⟩⟩ ?_ fun h1 k1=>⟨rfl,mV (s:=s) (t2:=s.toks) (ch:=[z,TI,TO,i1,i2]) I (fun c o nc q=>k1 c o (fun e=>nc ?_) q) hf⟩
  ·rcases hl with hl|hl
   ·exact .inl (by simp;omega)
   ·exact .inr (by simp;omega)
  ·simp only[QA,QI,Q1]at e⊢
   rcases e with e|e|e|e<;>simp[e]
 self:=fun _ _ _ _ _ st h=>wpAny_pyIter_zip st.1 h
theorem DD{b:Expr}{m:List D}(hg:Gl X "zip")(hm0:X.mg "zip" = none)(ha:AD X ρ [a,b] [jX κ l,jX κ' m] k)(hst:∀e∈[a,b],∀y p,e ≠ .Starred y p)(hf:az l=true)(hm:az m=true) :
  IE X ρ (.Tuple es n1 tp) (.Call (.Name "zip" p) [a,b] [] pos) (List.zipWith (fun x y=>.tup [x,y]) l m) k:=by
 intro ow pins s σ H R I ⟨E,q⟩
 have n1':=aA (env:=X.env) (es:=[b]) (hst a (by simp))
 have n2':(backTo pos (starEach [b] X.env)).any (·.1)=false:=be fun x hx=>hst x (by simp at hx;simp[hx])
 refine Call_ (eo I hg hm0 (show bootBuiltins "zip" = some (.type "zip") by decide +kernel) (Rr (aN (ha ow pos pins s σ H (fun vs H1=>av H H1/\ah X.K H1 (Kp ow H k) [jX κ l,jX κ' m] vs) I ⟨E,fun vs H1 s1 r1=>⟨s1,r1⟩⟩) fun us s1 ⟨vs,H1,I1,rv,sm,rp⟩=>?_) n1' n2') (by decide +kernel) (by decide +kernel))
 rw[ah]at rp
 obtain⟨v1,vr,rfl,rp1,rp2⟩:=rp
 obtain⟨v2,rfl,rp3⟩:=rp2.only
 obtain⟨ta,xs,rfl,hq,rl,hk1⟩:=jW rp1
 obtain⟨tb,ys,rfl,hr,rm,hk2⟩:=jW rp3
 obtain⟨u1,u2,rfl,ru1,ru2⟩:=kM rv
 cases (show u1=Value.ref ta from ru1)
 cases (show u2=Value.ref tb from ru2)
 obtain⟨its,rvs,pt,hz⟩:=kX I1 hq
 obtain⟨jts,rvs',pt',hz'⟩:=kX I1 hr
 refine yU (κ:=κ) (κ':=κ') pt pt' fun h2 Z k2=>?_
 refine wpAny_pyIter_zip Z.rd ?_
 have I2:al X pins σ H1 { s1 with heap:=h2 }:=I1.kept (t':=s1.toks) k2
 have fr:∀j,fV X pins H1 (s1.heap.objs.size+j):=fun j=>I1.fpOk (Sc _ _) (I1.hok.fresh (Sc _ _))
 refine⟨s1.heap.objs.size+4,[s1.heap.objs.size+4,s1.heap.objs.size+2,s1.heap.objs.size+3,s1.heap.objs.size,s1.heap.objs.size+1],_,_,H1,rfl,I2,wR κ κ' ta tb _ _ _ _ _ Z.ap,⟨Z.rd,Z.ins,Z.out,Z.fst.1,Z.snd.1⟩,fun c hc=>?_,q _ H1 sm ?_⟩
 ·simp only[QA,QI,Q1]at hc
  rcases hc with rfl|rfl|rfl|rfl|rfl
  ·exact fr 4
  ·exact fr 2
  ·exact fr 3
  ·exact fr 0
  ·exact fr 1
 ·intro i H2 st
  have rl':ah X.K H1 (Kd ow H k H1) l xs:=rl.flat _ hf
  have rm':ah X.K H1 (Kd ow H k H1) m ys:=rm.flat _ hm
  refine⟨fun d hd=>?_,fun hle=>?_⟩
  ·rw[List.getElem?_zipWith]at hd
   cases e:l[i]? with
   | none=>rw[e]at hd;cases hd
   | some x =>
    cases e':m[i]? with
    | none=>rw[e,e']at hd;cases hd
    | some y =>
     rw[e,e']at hd;cases hd
     obtain⟨u,hu,ru⟩:=rl'.get e
     obtain⟨v,hv,rv⟩:=rm'.get e'
     refine⟨⟨xs,ys,u,v,hk1 st,hu,hk2 st,hv⟩,fun x' H3 ⟨p',u',v',e1,e2,e3,e4,e5⟩=>?_⟩
     have c1:=e4 xs (hk1 st)
     have c2:=e5 ys (hk2 st)
     rw[hu]at c1;cases c1
     rw[hv]at c2;cases c2
     subst e1 e3
     have sm3:=bR (o:=HO.tup [u,v]) e2
     refine⟨sm3,?_⟩
     rw[aj]
     exact⟨p',_,rfl,bT.of aD,ah.cons ((ru.mono st).same sm3) (ah.one ((rv.mono st).same sm3))⟩
  ·rw[List.length_zipWith]at hle
   have l1:=rl.length
   have l2:=rm.length
   exact⟨xs,ys,hk1 st,hk2 st,by omega⟩
theorem uh{x:D}(h:eM x=some l):∃κ,x=jX κ l:=by
 rcases fz h with rfl|rfl
 ·exact⟨true,rfl⟩
 ·exact⟨false,rfl⟩
theorem DF:nO "zip" zW:=by
 refine⟨by decide +kernel,fun X ρ p pos args ds k d j l tg o hc hg hm ha hst hlen h hp hl ht=>?_⟩
 have ht2:ik tg=true:=by simpa [fy]using ht
 obtain⟨es,n1,tp,rfl⟩:=xR ht2
 unfold zW at h
 split at h
 ·cases h
  cases hl
  match args,hlen,ha,hst with
  | [a',b'],_,ha,hst=>exact GT hg hm ha hst hp.1 hp.2.1
 ·split at h
  ·rename_i x y _ a b e1 e2
   cases h
   cases hl
   obtain⟨κ,rfl⟩:=uh e1
   obtain⟨κ',rfl⟩:=uh e2
   match args,hlen,ha,hst with
   | [a',b'],_,ha,hst=>exact DD hg hm ha hst hp.1 hp.2.1
  ·cases h
 ·cases h
open AutoSeq1 (wpAny_loadPart')
variable{X:Cx}
section
variable{prog:Program}{w:World}{A:Around}{E:Value->Shared->Prop}{s:Shared}
end
open PySem.W (KasT kas_sort kas_ask KatLex KatTups kat_sorted kat_kind kat_lt kat_cons kat_nil kat_go kat_yes kat_no kat_one KasFin)
section
variable{prog:Program}{w:World}{A:Around}{E:Value->Shared->Prop}{s:Shared}
end
variable{X:Cx}
theorem fL{r:Rs α}{a:α}{l:List Prop}(h:r=.ok a l)(hp:aH l):af r a:=⟨l,h,hp⟩
theorem af.eq{r:Rs α}{a b:α}(h:af r a)(e:a=b):af r b:=e ▸ h
theorem af.bnd{r:Rs α}{f:α->Rs β}{a:α}{b:β}(h1:af r a)(h2:af (f a) b):af (r.bnd f) b:=by
 obtain⟨l,rfl,p1⟩:=h1
 obtain⟨m,h2,p2⟩:=h2
 refine⟨l++m,?_,dJ.mpr ⟨p1,p2⟩⟩
 show(match f a with | .st=>(.st:Rs β) | .ok b m=>Rs.ok b (l++m))=_
 rw[h2]
theorem af.inj{r:Rs α}{a b:α}(h:af r a)(g:af r b):a=b:=by
 obtain⟨l,h,_⟩:=h;obtain⟨m,g,_⟩:=g;rw[h]at g;cases g;rfl
section
variable{Φ:Fx}{sc:Scope}{ρ ρ':ag}{fl:Fl}{ss:List Stmt}
theorem eN(h:af (aJ Φ body sc (dg ps ds)) (.rt d))(hl:ds.length=ps.length:=by rfl):af (cE Φ sc ps body ds) d:=by
 unfold cE;rw[if_pos hl];exact h.bnd ⟨[],rfl,True.intro⟩
theorem b7:af (aJ Φ [] sc ρ) (.nx ρ):=⟨[],rfl,True.intro⟩
theorem bh{s:Stmt}(h:af (ff Φ s sc ρ) (.nx ρ'))(h2:af (aJ Φ ss sc ρ') fl):af (aJ Φ (s::ss) sc ρ) fl:=af.bnd h h2
theorem jU{s:Stmt}(h:af (ff Φ s sc ρ) fl)(hf:∀ρ,fl ≠ .nx ρ):af (aJ Φ (s::ss) sc ρ) fl:=af.bnd h (by
 cases fl with
 | nx ρ=>exact absurd rfl (hf ρ)
 | rt d=>exact⟨[],rfl,True.intro⟩
 | bk ρ=>exact⟨[],rfl,True.intro⟩
 | ct ρ=>exact⟨[],rfl,True.intro⟩)
theorem bZ{s:Stmt}(h:af (ff Φ s sc ρ) (.rt d)):af (aJ Φ (s::ss) sc ρ) (.rt d):=jU h fun _ z=>by cases z
theorem qZ{s:Stmt}(h:af (aJ Φ (s::ss) sc ρ) fl):(∃ρ',af (ff Φ s sc ρ) (.nx ρ')/\af (aJ Φ ss sc ρ') fl)\/((∀ρ,fl ≠ .nx ρ)/\af (ff Φ s sc ρ) fl):=by
 obtain⟨f,h1,h2⟩:=aw (show af (Rs.bnd _ _) fl from h)
 cases f with
 | nx ρ'=>exact .inl ⟨ρ',h1,h2⟩
 | rt d=>cases aI h2;exact .inr ⟨fun _ z=>(by cases z),h1⟩
 | bk ρ=>cases aI h2;exact .inr ⟨fun _ z=>(by cases z),h1⟩
 | ct ρ=>cases aI h2;exact .inr ⟨fun _ z=>(by cases z),h1⟩
theorem yI:∀{a:List Stmt} {ρ:ag},af (aJ Φ a sc ρ) (.nx ρ')->af (aJ Φ ss sc ρ') fl->af (aJ Φ (a++ss) sc ρ) fl
 | [],ρ,h,h2=>by cases aI h;exact h2
 | s::a,ρ,h,h2=>by
  rcases qZ h with⟨ρ1,h3,h4⟩|⟨h3,_⟩
  ·exact bh h3 (yI h4 h2)
  ·exact absurd rfl (h3 _)
theorem oR:∀{a:List Stmt} {ρ:ag},af (aJ Φ (a++ss) sc ρ) fl->(∃ρ',af (aJ Φ a sc ρ) (.nx ρ')/\af (aJ Φ ss sc ρ') fl)\/((∀ρ,fl ≠ .nx ρ)/\af (aJ Φ a sc ρ) fl)
 | [],ρ,h=>.inl ⟨ρ,b7,h⟩
 | s::a,ρ,h=>by
  rcases qZ h with⟨ρ1,h3,h4⟩|⟨h3,h4⟩
  ·rcases oR h4 with⟨ρ2,h5,h6⟩|⟨h5,h6⟩
   ·exact .inl ⟨ρ2,bh h3 h5,h6⟩
   ·exact .inr ⟨h5,bh h3 h6⟩
  ·exact .inr ⟨h3,jU h4 h3⟩
theorem bI(n:Nat)(h:af (aJ Φ (ss.take n) sc ρ) (.nx ρ'))(h2:af (aJ Φ (ss.drop n) sc ρ') fl):af (aJ Φ ss sc ρ) fl:=by
 rw[<- List.take_append_drop n ss];exact yI h h2
theorem vg{a b:List Stmt}(hc:af (aC Φ c false sc ρ) (.bl t,k))(h1:t=true->af (aJ Φ (a++ss) sc ρ) fl)(h2:t=false->af (aJ Φ (b++ss) sc ρ) fl):af (aJ Φ (.If c a b p::ss) sc ρ) fl:=by
 have key:∀x,af (cond t (aJ Φ a sc ρ) (aJ Φ b sc ρ)) x->af (ff Φ (.If c a b p) sc ρ) x:=fun x hx=>af.bnd hc hx
 cases t with
 | true =>
  rcases oR (h1 rfl)with⟨ρ1,h3,h4⟩|⟨h3,h4⟩
  ·exact bh (key _ h3) h4
  ·exact jU (key _ h4) h3
 | false =>
  rcases oR (h2 rfl)with⟨ρ1,h3,h4⟩|⟨h3,h4⟩
  ·exact bh (key _ h3) h4
  ·exact jU (key _ h4) h3
theorem cm{a b:List Stmt}(hc:af (aC Φ c false sc ρ) (.bl t,k))(ht:t=true)(h1:af (aJ Φ (a++ss) sc ρ) fl):af (aJ Φ (.If c a b p::ss) sc ρ) fl:=vg hc (fun _=>h1) fun z=>by rw[ht]at z;cases z
theorem b8{a b:List Stmt}(hc:af (aC Φ c false sc ρ) (.bl t,k))(ht:t=false)(h1:af (aJ Φ (b++ss) sc ρ) fl):af (aJ Φ (.If c a b p::ss) sc ρ) fl:=vg hc (fun z=>by rw[ht]at z;cases z) fun _=>h1
theorem sE{it:Expr}(hi:af (aC Φ it true sc (demote it ρ)) (d,k))(hd:items d=some ds)(hk:k<=1)(ht:fy it tg=true)(h:af (dH (bY sc tg) (aJ Φ body sc) ds (demote it ρ)) fl):af (ff Φ (.For tg it body [] p) sc ρ) fl:=by
 rw[oE,if_pos (show List.isEmpty ([]:List Stmt)=true from rfl)]
 refine hi.bnd ?_
 dsimp only
 rw[hd]
 dsimp only
 rw[if_pos ⟨hk,ht⟩]
 exact h
theorem zZ(h:af (lz (fun ρ=>(aC Φ c false sc ρ).bnd fun p=>ji p fun b=>.ok b []) (aJ Φ body sc) cG ρ) fl):af (ff Φ (.While c body [] p) sc ρ) fl:=by
 rw[sF,if_pos (show List.isEmpty ([]:List Stmt)=true from rfl)];exact h
theorem aE{v:D}(ha:af (bK Φ args sc ρ) (ds,k))(hv:af (F ds) v)(hF:Φ.fn f=some F:=by rfl)(hg:sc.names.lookup f=some .globalImplicit:=by rfl):af (aC Φ (.Call (.Name f p) args [] q) it sc ρ) (v,0):=by
 rw[jB,if_pos hg]
 refine ha.bnd ?_
 unfold lg
 rw[hF]
 exact hv.bnd ⟨[],rfl,True.intro⟩
theorem Hn{v:D×Nat}(ha:af (bK Φ args sc ρ) (ds,k))(hv:af (B ds) v)(hF:Φ.fn f=none:=by rfl)(hI:(if it=true then Φ.itr f else none)=none:=by rfl)(hB:Φ.blt f=some B:=by rfl)(hg:sc.names.lookup f=some .globalImplicit:=by rfl):af (aC Φ (.Call (.Name f p) args [] q) it sc ρ) v:=by
 rw[jB,if_pos hg]
 refine ha.bnd ?_
 unfold lg
 rw[hF];dsimp only
 rw[hI];dsimp only
 rw[hB];exact hv
theorem oG:af (bK Φ [] sc ρ) ([],0):=⟨[],rfl,True.intro⟩
theorem jA(h:af (aC Φ e false sc ρ) (d,k))(h2:af (bK Φ es sc ρ) (ds,j)):af (bK Φ (e::es) sc ρ) (d::ds,kj k j):=af.bnd h (af.bnd h2 ⟨[],rfl,True.intro⟩)
theorem oJ{out:List D}(hi:af (aC Φ iter true sc ρ) (d,k))(hd:items d=some ds)(hl:ds.length<=cG/\(az ds=true\/k<=1))
    (h:af (gk (fun d=>match bY scope tg d (flt scope ρ)with
            | none=>.st
            | some ρ'=>(eZ Φ .And ifs scope ρ').bnd fun b=>cond b ((aC Φ elt false scope ρ').bnd fun r=>.ok (some r) []) (.ok none [])) ds) (out,j)) (hj:j<=1) (hc:nF sc scope=true:=by rfl) (ht:fy iter tg=true:=by rfl):af (aC Φ (.ListComp elt [⟨tg,iter,ifs,0⟩] scope p) it sc ρ) (.lst out,j):=by
  rw[oK,if_pos hc]
  refine hi.bnd ?_
  dsimp only
  rw[hd]
  dsimp only
  rw[if_pos ht]
  refine af.bnd (a:=()) ⟨_,rfl,hl.1,hl.2,True.intro⟩ ?_
  refine h.bnd ?_
  rw[if_pos hj]
  exact⟨[],rfl,True.intro⟩
theorem fP{i:Expr}{x:D}{j:Int}(ha:af (aC Φ a false sc ρ) (x,k))(hi:af (aC Φ i false sc ρ) (.int j,k2))(hx:eM x=some l)(hd:L2.atI l j=some d):af (aC Φ (.Subscript a i p) it sc ρ) (d,kn d k):=by
 have key:af ((aC Φ a false sc ρ).bnd fun p=>(aC Φ i false sc ρ).bnd fun q=>lK p q) (d,kn d k):=by
  refine ha.bnd (hi.bnd ?_)
  rcases fz hx with rfl|rfl
  ·show af (r6 (.tup l) j k) _
   unfold r6
   rw[hx];dsimp only
   rw[hd];exact⟨[],rfl,True.intro⟩
  ·show af (r6 (.lst l) j k) _
   unfold r6
   rw[hx];dsimp only
   rw[hd];exact⟨[],rfl,True.intro⟩
 cases i with
 | Slice lo hi st p2=>exact(au hi).elim
 | _=>exact key
theorem aW(h:af (aC Φ e false sc ρ) (d,0))(hx:cS sc x=true:=by rfl):af (ff Φ (.Assign [.Name x p] e q) sc ρ) (.nx (bP ρ x (d,true))):=by
 refine af.bnd h ?_
 unfold n6
 rw[if_pos hx]
 exact⟨[],rfl,True.intro⟩
theorem bJ(h:af (aC Φ e false sc ρ) (d,k))(hk:k=0\/k=2:=by exact .inl rfl)(hn:qE e=false:=by rfl):af (ff Φ (.Return (some e) q) sc ρ) (.rt d):=by
 have h:af (aC Φ e false sc (rq e ρ)) (d,k):=by unfold rq;rw[hn];exact h
 refine af.bnd h ?_
 unfold vo
 rw[if_pos hk]
 exact⟨[],rfl,True.intro⟩
end
theorem sA{bind:D->ag->Option ag}{body:ag->Rs Fl}(al:List D->ag->Prop)(step:∀d l ρ,al (d::l) ρ->∃ρ1 ρ2,bind d ρ=some ρ1/\(af (body ρ1) (.nx ρ2)\/af (body ρ1) (.ct ρ2))/\al l ρ2):∀{ds:List D} {ρ:ag},al ds ρ->∃ρ',af (dH bind body ds ρ) (.nx ρ')/\al [] ρ'
 | [],ρ,h=>⟨ρ,⟨[],rfl,True.intro⟩,h⟩
 | d::l,ρ,h=>by
  obtain⟨ρ1,ρ2,h1,h2,h3⟩:=step d l ρ h
  obtain⟨ρ',h4,h5⟩:=sA al step h3
  refine⟨ρ',?_,h5⟩
  show af (match bind d ρ with|none=>(.st:Rs Fl)|some ρ1=>(body ρ1).bnd (iJ (dH bind body l))) _
  rw[h1]
  rcases h2 with h2|h2
  ·exact h2.bnd h4
  ·exact h2.bnd h4
theorem uM{bind:D->ag->Option ag}{body:ag->Rs Fl}(al:List D->ag->Prop)(R:D->Prop)(step:∀d l ρ,al (d::l) ρ->∃ρ1,bind d ρ=some ρ1/\((∃ρ2,(af (body ρ1) (.nx ρ2)\/af (body ρ1) (.ct ρ2))/\al l ρ2)\/∃r,af (body ρ1) (.rt r)/\R r)):∀{ds:List D} {ρ:ag},al ds ρ->(∃ρ',af (dH bind body ds ρ) (.nx ρ')/\al [] ρ')\/∃r,af (dH bind body ds ρ) (.rt r)/\R r
 | [],ρ,h=>.inl ⟨ρ,⟨[],rfl,True.intro⟩,h⟩
 | d::l,ρ,h=>by
  obtain⟨ρ1,h1,h2⟩:=step d l ρ h
  have key:dH bind body (d::l) ρ=(body ρ1).bnd (iJ (dH bind body l)):=by
   show(match bind d ρ with|none=>(.st:Rs Fl)|some ρ1=>(body ρ1).bnd (iJ (dH bind body l)))=_
   rw[h1]
  rw[key]
  rcases h2 with⟨ρ2,h2,h3⟩|⟨r,h2,h3⟩
  ·have go:∀x,af (dH bind body l ρ2) x->af ((body ρ1).bnd (iJ (dH bind body l))) x:=fun x hx=>by
    rcases h2 with h2|h2
    ·exact h2.bnd hx
    ·exact h2.bnd hx
   rcases uM al R step h3 with⟨ρ',h4,h5⟩|⟨r,h4,h5⟩
   ·exact .inl ⟨ρ',go _ h4,h5⟩
   ·exact .inr ⟨r,go _ h4,h5⟩
  ·exact .inr ⟨r,h2.bnd ⟨[],rfl,True.intro⟩,h3⟩
theorem pQ{α:Type}{step:D->Rs (Option (D×Nat))}{g:α->D}{f:α->D}:∀{l:List α},(∀x∈l,af (step (g x)) (some (f x,0)))->af (gk step (l.map g)) (l.map f,0)
 | [],_=>⟨[],rfl,True.intro⟩
 | x::l,h=>af.bnd (h x QE) (af.bnd (pQ fun y hy=>h y (QB _ hy)) ⟨[],rfl,True.intro⟩)
theorem iu{α:Type}{step:D->Rs (Option (D×Nat))}{g:α->D}{f:α->D}{c:α->Bool}:∀{l:List α},(∀x∈l,af (step (g x)) (cond (c x) (some (f x,0)) none))->af (gk step (l.map g)) ((l.filter c).map f,0)
 | [],_=>⟨[],rfl,True.intro⟩
 | x::l,h=>by
  have h1:=h x QE
  have h2:=iu (c:=c) fun y hy=>h y (QB _ hy)
  cases e:c x with
  | true =>
   rw[e]at h1
   rw[List.filter_cons_of_pos e]
   exact af.bnd h1 (af.bnd h2 ⟨[],rfl,True.intro⟩)
  | false =>
   rw[e]at h1
   rw[List.filter_cons_of_neg (by rw[e];decide)]
   exact af.bnd h1 (af.bnd h2 ⟨[],rfl,True.intro⟩)
theorem Dn{a b:Int}(h:a.natAbs<18446744073709551616):cg a b:=.inl h
theorem Dm{a b:Int}(h:b.natAbs<18446744073709551616):cg a b:=.inr (.inl h)
theorem ck{a b:Int}(h:a.natAbs<dm)(g:b.natAbs<dm):cg a b:=.inr (.inr (.inl ⟨h,g⟩))
theorem Dl{a b:Int}(h:Builtin.Int.intBits a<=2 ^ 22)(g:Builtin.Int.intBits b<=2 ^ 22):cg a b:=.inr (.inr (.inr ⟨h,g⟩))
theorem Iy(h:n<2 ^ 64):n<dm:=QG h (RO (by decide) (by decide))
theorem Eb{b:Int}(h0:b≠0)(h:b.natAbs<18446744073709551616):jD b:=⟨h0,Iy h⟩
theorem Ev{ns:List Int}{i:Int}(h0:0<=i)(h1:i<ns.length):L2.atI (ns.map D.int) i=some (.int (ns.getD i.toNat 0)):=by
 obtain⟨j,rfl⟩:=Int.eq_ofNat_of_zero_le h0
 have hj:j<ns.length:=by omega
 have:=dD (xs:=ns.map D.int) (j:=j) (v:=.int (ns.getD j 0)) (by simp[hj])
 simpa using this
theorem AG:aH []:=True.intro
theorem wk{l m:List Prop}(h:aH l)(g:aH m):aH (l++m):=dJ.mpr ⟨h,g⟩
theorem AF{p:Prop}(h:p):aH [p]:=⟨h,True.intro⟩
theorem tW{p:Prop}{l:List Prop}(h:p)(g:aH l):aH (p::l):=⟨h,g⟩
theorem C3{a b:Int}(h0:0<=b)(h1:b<=1000)(h2:a.natAbs<18446744073709551616):vA a b:=⟨h0,h1,h2⟩
def Sub(C ρ:ag):Prop:=∀x y,C x=some y->ρ x=some y
theorem Sub.refl(ρ:ag):Sub ρ ρ:=fun _ _ h=>h
theorem Sub.trans{a b c:ag}(h:Sub a b)(g:Sub b c):Sub a c:=fun x y e=>g x y (h x y e)
theorem Sub.put(h:Sub C ρ)(x:Str)(y:D×Bool):Sub (bP C x y) (bP ρ x y):=fun z w e=>by
 rw[dl]at e⊢
 by_cases hz:z=x
 ·rw[if_pos hz]at e⊢;exact e
 ·rw[if_neg hz]at e⊢;exact h z w e
theorem Sub.flt(h:Sub C ρ)(scope:Scope):Sub (flt scope C) (flt scope ρ):=fun z w e=>by
 obtain⟨e1,e2⟩:=jz e
 unfold Sp.flt
 rw[if_pos e2];exact h z w e1
theorem Sub.demX(h:Sub C ρ)(x:Str):Sub (demX x C) (demX x ρ):=by
 unfold Sp.demX
 intro z w hz
 by_cases hx:z=x
 ·simp only[if_pos hx]at hz⊢
  cases hc:C z with
  | none=>rw[hc]at hz;cases hz
  | some q=>rw[hc]at hz;rw[h z q hc];exact hz
 ·simp only[if_neg hx]at hz⊢;exact h z w hz
theorem Sub.demA(h:Sub C ρ)(x:Str):Sub (demA x C) (demA x ρ):=by
 intro z w hz
 unfold Sp.demA at hz⊢
 by_cases hx:z=x
 ·simp only[if_pos hx]at hz⊢
  cases hc:C z with
  | none=>rw[hc]at hz;cases hz
  | some q=>rw[hc]at hz;rw[h z q hc];exact hz
 ·simp only[if_neg hx]at hz⊢;exact h z w hz
theorem Sub.demL:∀{es:List Expr} {C ρ:ag},Sub C ρ->Sub (demL es C) (demL es ρ)
 | [],_,_,h=>h
 | e::es,C,ρ,h=>by
  cases e with
  | Name x p=>exact Sub.demL (es:=es) (h.demA x)
  | Subscript a i p =>
   cases a with
   | Name x q=>exact Sub.demL (es:=es) (h.demA x)
   | _=>exact Sub.demL (es:=es) h
  | _=>exact Sub.demL (es:=es) h
theorem Sub.demote(h:Sub C ρ)(e:Expr):Sub (demote e C) (demote e ρ):=by
 unfold Sp.demote
 split
 ·exact h.demX _
 ·exact h.demX _
 ·exact h.demL
 ·exact h
theorem pf:∀{es:List Expr} {ds:List D} {C C' ρ:ag},aX sc es ds C=some C'->Sub C ρ->∃ρ',aX sc es ds ρ=some ρ'/\Sub C' ρ':=by
 intro es
 induction es with
 | nil =>
  intro ds C C' ρ h s
  cases ds with
  | nil=>cases h;exact⟨ρ,rfl,s⟩
  | cons d ds=>cases h
 | cons e es ih =>
  intro ds C C' ρ h s
  cases ds with
  | nil=>cases e<;>cases h
  | cons d ds =>
   cases e with
   | Name z p =>
    rw[aX]at h⊢
    split at h
    ·rename_i hz
     rw[if_pos hz]
     exact ih h (s.put _ _)
    ·cases h
   | _=>cases h
theorem qX(h:bY sc tg d C=some C')(s:Sub C ρ):∃ρ',bY sc tg d ρ=some ρ'/\Sub C' ρ':=by
 unfold bY at h⊢
 split at h
 ·split at h
  ·rename_i hx;cases h;exact⟨_,if_pos hx,s.put _ _⟩
  ·cases h
 ·split at h
  ·exact pf h s
  ·cases h
 ·cases h
theorem eU{m:List Prop}(h:b=true->aH m):aH (gd b m):=by
 cases m with
 | nil=>exact True.intro
 | cons p l=>exact⟨h,True.intro⟩
theorem sY{c:Bool}{r:Rs Bool}(h:b=true->af r c)(hf:b=false->c=false):af (wj b r) c:=by
 cases b with
 | true =>
  obtain⟨m,rfl,hm⟩:=h rfl
  exact⟨_,rfl,eU fun _=>hm⟩
 | false =>
  rw[hf rfl]
  cases r with
  | ok c' m=>exact⟨_,rfl,eU fun z=>(by cases z)⟩
  | st=>exact⟨_,rfl,True.intro⟩
theorem Bj{c:Bool}{r:Rs Bool}(h:b=false->af r c)(hf:b=true->c=true):af (Bk b r) c:=by
 cases b with
 | false =>
  obtain⟨m,rfl,hm⟩:=h rfl
  exact⟨_,rfl,eU fun _=>hm⟩
 | true =>
  rw[hf rfl]
  cases r with
  | ok c' m=>exact⟨_,rfl,eU fun z=>(by cases z)⟩
  | st=>exact⟨_,rfl,True.intro⟩
theorem Bw{r s:R1}{d:D×Nat}(h:af (if t=true then r else s) d):af (Bx t r s) d:=by
 cases t with
 | true =>
  rw[if_pos rfl]at h
  obtain⟨m,rfl,hm⟩:=h
  cases s with
  | ok q n=>exact⟨_,by show Rs.ok _ _=Rs.ok _ _;rw[rR,Bt],dJ.mpr ⟨eU fun _=>hm,eU fun z=>(by cases z)⟩⟩
  | st=>exact⟨m,rfl,hm⟩
 | false =>
  rw[if_neg QP]at h
  obtain⟨m,rfl,hm⟩:=h
  cases r with
  | ok q n=>exact⟨_,by show Rs.ok _ _=Rs.ok _ _;rw[rS,Bu],dJ.mpr ⟨eU fun z=>(by cases z),eU fun _=>hm⟩⟩
  | st=>exact⟨m,rfl,hm⟩
theorem kD{p:D×Nat}{f:Bool->Rs α}{a:α}(h:p.1=.bl b)(h2:af (f b) a):af (ji p f) a:=by
 unfold ji;rw[h];exact h2
theorem J8{p:D×Nat}{f:Int->R1}{a:D×Nat}{b:Int}(h:p.1=.int b)(h2:af (f b) a):af (ju p f) a:=by
 unfold ju;rw[h];exact h2
structure Mo(Φ:Fx)(n:Nat):Prop where
 e:∀(e:Expr) {it:Bool} {sc:Scope} {C ρ:ag} {p:D×Nat},sizeOf e<n->af (aC Φ e it sc C) p->Sub C ρ->af (aC Φ e it sc ρ) p
 es:∀(es:List Expr) {sc:Scope} {C ρ:ag} {p:List D×Nat},sizeOf es<n->af (bK Φ es sc C) p->Sub C ρ->af (bK Φ es sc ρ) p
 b:∀(op:BoolOp) (es:List Expr) {sc:Scope} {C ρ:ag} {b:Bool},sizeOf es<n->af (eZ Φ op es sc C) b->Sub C ρ->af (eZ Φ op es sc ρ) b
 o:∀(e:Option Expr) {sc:Scope} {C ρ:ag} {o:Option Int},sizeOf e<n->af (pN Φ e sc C) o->Sub C ρ->af (pN Φ e sc ρ) o
theorem uz{step step2:D->Rs (Option (D×Nat))}(h:∀d r,af (step d) r->af (step2 d) r):∀{ds:List D} {q:List D×Nat},af (gk step ds) q->af (gk step2 ds) q
 | [],q,hq=>hq
 | d::ds,q,hq=>by
  obtain⟨r,h1,h2⟩:=aw (show af (Rs.bnd _ _) q from hq)
  obtain⟨q1,h3,h4⟩:=aw h2
  exact af.bnd (h _ _ h1) (af.bnd (uz h h3) h4)
section
variable{Φ:Fx}{n:Nat}{it:Bool}{sc:Scope}{C ρ:ag}{p:D×Nat}
theorem Bq(I:Mo Φ n){i:Expr}(hs:sizeOf (Expr.Subscript a i pos)<n+1)(h:af ((aC Φ a false sc C).bnd fun p=>(aC Φ i false sc C).bnd fun q=>lK p q) p)(s:Sub C ρ):af ((aC Φ a false sc ρ).bnd fun p=>(aC Φ i false sc ρ).bnd fun q=>lK p q) p:=by
 obtain⟨x,h1,h⟩:=aw h
 obtain⟨y,h2,h⟩:=aw h
 exact af.bnd (I.e a (bo (by simp<;>omega) hs) h1 s) (af.bnd (I.e i (bo (by simp<;>omega) hs) h2 s) h)
theorem Nz(I:Mo Φ n)(e:Expr)(hs:sizeOf e<n+1)(h:af (aC Φ e it sc C) p)(s:Sub C ρ):af (aC Φ e it sc ρ) p:=by
 cases e with
 | Constant c k q=>exact h
 | Name x q =>
  replace h:af (js Φ x sc C) p:=h
  show af (js Φ x sc ρ) p
  unfold js at h⊢
  split at h
  ·rename_i hx
   rw[if_pos hx]
   split at h
   ·rename_i hg;rw[if_pos hg];exact h
   ·rename_i hg
    rw[if_neg hg]
    split at h
    ·rename_i y hy;rw[s x y hy];exact h
    ·exact(au h).elim
  ·exact(au h).elim
 | BinOp a op b q =>
  obtain⟨x,h1,h⟩:=aw (show af (Rs.bnd _ _) p from h)
  obtain⟨y,h2,h⟩:=aw h
  exact af.bnd (I.e a (bo (by simp<;>omega) hs) h1 s) (af.bnd (I.e b (bo (by simp<;>omega) hs) h2 s) h)
 | UnaryOp op a q =>
  obtain⟨x,h1,h⟩:=aw (show af (Rs.bnd _ _) p from h)
  exact af.bnd (I.e a (bo (by simp<;>omega) hs) h1 s) h
 | BoolOp op es q =>
  rw[oM]at h⊢
  split at h
  ·exact(au h).elim
  ·rename_i hne
   rw[if_neg hne]
   obtain⟨b,h1,h⟩:=aw h
   exact af.bnd (I.b op es (bo (by simp<;>omega) hs) h1 s) h
 | Compare a ops bs q =>
  match ops,bs,hs,h with
  | [op],[b],hs,h =>
   obtain⟨x,h1,h⟩:=aw (show af (Rs.bnd _ _) p from h)
   obtain⟨y,h2,h⟩:=aw h
   exact af.bnd (I.e a (bo (by simp<;>omega) hs) h1 s) (af.bnd (I.e b (bo (by simp<;>omega) hs) h2 s) h)
  | [],bs,_,h=>exact(au h).elim
  | [op],[],_,h=>exact(au h).elim
  | [op],_::_::_,_,h=>exact(au h).elim
  | [op,op2],[b,c],hs,h =>
   obtain⟨x,h1,h⟩:=aw (show af (Rs.bnd _ _) p from h)
   obtain⟨y,h2,h⟩:=aw h
   obtain⟨z,h3,h⟩:=aw h
   exact af.bnd (I.e a (bo (by simp<;>omega) hs) h1 s) (af.bnd (I.e b (bo (by simp<;>omega) hs) h2 s) (af.bnd (I.e c (bo (by simp<;>omega) hs) h3 s) h))
  | [_,_],[],_,h=>exact(au h).elim
  | [_,_],[_],_,h=>exact(au h).elim
  | [_,_],_::_::_::_,_,h=>exact(au h).elim
  | _::_::_::_,bs,_,h=>exact(au h).elim
 | IfExp c a b q =>
  obtain⟨x,h1,h⟩:=aw (show af (Rs.bnd _ _) p from h)
  obtain⟨t,ht,h⟩:=hZ h
  obtain⟨l,h,hp⟩:=h
  obtain⟨m,h,hm⟩:=uH h hp
  refine af.bnd (I.e c (bo (by simp<;>omega) hs) h1 s) (kD ht (Bw ?_))
  cases t with
  | true=>exact I.e a (bo (by simp<;>omega) hs) ⟨m,h,hm⟩ s
  | false=>exact I.e b (bo (by simp<;>omega) hs) ⟨m,h,hm⟩ s
 | Tuple es k q =>
  obtain⟨x,h1,h⟩:=aw (show af (Rs.bnd _ _) p from h)
  exact af.bnd (I.es es (bo (by simp<;>omega) hs) h1 s) h
 | List es q =>
  obtain⟨x,h1,h⟩:=aw (show af (Rs.bnd _ _) p from h)
  exact af.bnd (I.es es (bo (by simp<;>omega) hs) h1 s) h
 | Attribute a f q =>
  cases a with
  | Name x pn =>
   obtain⟨y,h1,h⟩:=aw (show af (Rs.bnd _ _) p from h)
   exact af.bnd (I.e (.Name x pn) (it:=false) (bo (by simp<;>omega) hs) h1 s) h
  | _=>exact(au h).elim
 | Dict ks vs q =>
  match ks,vs,h with
  | [],[],h=>exact h
  | _::_,_,h=>exact(au h).elim
  | [],_::_,h=>exact(au h).elim
 | Subscript a i q =>
  cases i with
  | Slice lo hi st p2 =>
   cases st with
   | none =>
    obtain⟨x,h1,h⟩:=aw (show af (Rs.bnd _ _) p from h)
    obtain⟨y,h2,h⟩:=aw h
    obtain⟨z,h3,h⟩:=aw h
    exact af.bnd (I.e a (bo (by simp<;>omega) hs) h1 s) (af.bnd (I.o lo (bo (by simp<;>omega) hs) h2 s) (af.bnd (I.o hi (bo (by simp<;>omega) hs) h3 s) h))
   | some e=>exact Bq I hs h s
  | _=>exact Bq I hs h s
 | Call f args kws q =>
  cases f with
  | Name f fp =>
   cases kws with
   | nil =>
    rw[jB]at h⊢
    split at h
    ·rename_i hf
     rw[if_pos hf]
     obtain⟨x,h1,h⟩:=aw h
     exact af.bnd (I.es args (bo (by simp<;>omega) hs) h1 s) h
    ·exact(au h).elim
   | cons _ _=>exact(au h).elim
  | Attribute a m ap =>
   cases kws with
   | nil =>
    rw[sJ]at h⊢
    split at h
    ·rename_i hf
     rw[if_pos hf]
     obtain⟨x,h1,h⟩:=aw h
     obtain⟨y,h2,h⟩:=aw h
     exact af.bnd (I.e a (bo (by simp<;>omega) hs) h1 s) (af.bnd (I.es args (bo (by simp<;>omega) hs) h2 s) h)
    ·exact(au h).elim
   | cons _ _=>exact(au h).elim
  | _=>exact(au h).elim
 | ListComp elt gens scope q =>
  obtain⟨l0,h0,_⟩:=id h
  obtain⟨tg,iter,ifs,rfl⟩:=ou h0
  rw[oK]at h⊢
  split at h
  ·rename_i hc
   rw[if_pos hc]
   obtain⟨x,h1,h⟩:=aw h
   refine af.bnd (I.e iter (by first|omega|(simp at *;omega)) h1 s) ?_
   split at h
   ·split at h
    ·rename_i hl
     rw[if_pos hl]
     obtain⟨u0,h0',h⟩:=aw h
     obtain⟨y,h2,h⟩:=aw h
     refine af.bnd h0' (af.bnd (uz (fun d r hr=>?_) h2) h)
     split at hr
     ·exact(au hr).elim
     ·rename_i C' hb
      obtain⟨ρ',hb',s'⟩:=qX hb (s.flt scope)
      rw[hb']
      obtain⟨b,h3,hr⟩:=aw hr
      refine af.bnd (I.b .And ifs (by first|omega|(simp at *;omega)) h3 s') ?_
      cases b with
      | false=>exact hr
      | true =>
       rw[cond_true]at hr⊢
       obtain⟨z,h4,hr⟩:=aw hr
       exact af.bnd (I.e elt (by first|omega|(simp at *;omega)) h4 s') hr
    ·exact(au h).elim
   ·exact(au h).elim
  ·exact(au h).elim
 | _=>exact(au h).elim
theorem JS(I:Mo Φ n)(es:List Expr){p:List D×Nat}(hs:sizeOf es<n+1)(h:af (bK Φ es sc C) p)(s:Sub C ρ):af (bK Φ es sc ρ) p:=by
 cases es with
 | nil=>exact h
 | cons e es =>
  obtain⟨x,h1,h⟩:=aw (show af (Rs.bnd _ _) p from h)
  obtain⟨y,h2,h⟩:=aw h
  exact af.bnd (I.e e (bo (by simp<;>omega) hs) h1 s) (af.bnd (I.es es (bo (by simp<;>omega) hs) h2 s) h)
theorem NA(I:Mo Φ n)(op:BoolOp)(es:List Expr)(hs:sizeOf es<n+1)(h:af (eZ Φ op es sc C) b)(s:Sub C ρ):af (eZ Φ op es sc ρ) b:=by
 cases es with
 | nil=>cases op<;>exact h
 | cons e es =>
  cases op with
  | And =>
   obtain⟨x,h1,h⟩:=aw (show af (Rs.bnd _ _) b from h)
   obtain⟨t,ht,l,h,hp⟩:=hZ h
   refine af.bnd (I.e e (bo (by simp<;>omega) hs) h1 s) (kD ht ?_)
   rcases sX h hp with⟨rfl,m,h,pm⟩|⟨rfl,rfl⟩
   ·exact sY (fun _=>I.b .And es (bo (by simp<;>omega) hs) ⟨m,h,pm⟩ s) fun z=>(by cases z)
   ·exact sY (fun z=>(by cases z)) fun _=>rfl
  | Or =>
   obtain⟨x,h1,h⟩:=aw (show af (Rs.bnd _ _) b from h)
   obtain⟨t,ht,l,h,hp⟩:=hZ h
   refine af.bnd (I.e e (bo (by simp<;>omega) hs) h1 s) (kD ht ?_)
   rcases uo h hp with⟨rfl,m,h,pm⟩|⟨rfl,rfl⟩
   ·exact Bj (fun _=>I.b .Or es (bo (by simp<;>omega) hs) ⟨m,h,pm⟩ s) fun z=>(by cases z)
   ·exact Bj (fun z=>(by cases z)) fun _=>rfl
theorem Ny(I:Mo Φ n)(e:Option Expr){o:Option Int}(hs:sizeOf e<n+1)(h:af (pN Φ e sc C) o)(s:Sub C ρ):af (pN Φ e sc ρ) o:=by
 cases e with
 | none=>exact h
 | some e =>
  obtain⟨x,h1,h⟩:=aw (show af (Rs.bnd _ _) o from h)
  exact af.bnd (I.e e (bo (by simp<;>omega) hs) h1 s) h
end
theorem jd(Φ:Fx):∀n,Mo Φ n
 | 0=>⟨fun _ _ _ _ _ _ h=>absurd h (Rw _),fun _ _ _ _ _ h=>absurd h (Rw _),fun _ _ _ _ _ _ h=>absurd h (Rw _),fun _ _ _ _ _ h=>absurd h (Rw _)⟩
 | n+1=>⟨fun e _ _ _ _ _ hs h s=>Nz (jd Φ n) e hs h s,fun e _ _ _ _ hs h s=>JS (jd Φ n) e hs h s,fun op e _ _ _ _ hs h s=>NA (jd Φ n) op e hs h s,fun e _ _ _ _ hs h s=>Ny (jd Φ n) e hs h s⟩
theorem dE{p:D×Nat}(h:af (aC Φ e it sc C) p)(s:Sub C ρ):af (aC Φ e it sc ρ) p:=(jd Φ _).e e (Q5 _) h s
theorem uy{e:List Expr}{p:List D×Nat}(h:af (bK Φ e sc C) p)(s:Sub C ρ):af (bK Φ e sc ρ) p:=(jd Φ _).es e (Q5 _) h s
def AJ:Fl->Fl->Prop
 | .nx a,.nx b=>Sub a b
 | .bk a,.bk b=>Sub a b
 | .ct a,.ct b=>Sub a b
 | .rt a,.rt b=>a=b
 | _,_=>False
theorem du{a:α}:af (.ok a []) a:=⟨[],rfl,True.intro⟩
def jM(f:ag->Rs Fl):Prop:=∀C ρ fl,af (f C) fl->Sub C ρ->∃fl',af (f ρ) fl'/\AJ fl fl'
theorem xH{f:ag->Rs Fl}(h:jM f){x y z:Fl}(hx:af (iJ f x) z)(s:AJ x y):∃z',af (iJ f y) z'/\AJ z z':=by
 cases x<;>cases y<;>first|exact s.elim|skip
 ·exact h _ _ _ hx s
 ·cases aI hx;cases s;exact⟨_,du,rfl⟩
 ·cases aI hx;exact⟨_,du,s⟩
 ·exact h _ _ _ hx s
theorem xI{sc:Scope}{tg:Expr}{body:ag->Rs Fl}(hb:jM body):∀ds,jM (dH (bY sc tg) body ds)
 | []=>fun C ρ fl h s=>by cases aI h;exact⟨_,du,s⟩
 | d::ds=>fun C ρ fl h s=>by
  replace h:af (match bY sc tg d C with|none=>(.st:Rs Fl)|some ρ1=>(body ρ1).bnd (iJ (dH (bY sc tg) body ds))) fl:=h
  split at h
  ·exact(au h).elim
  ·rename_i C1 hC
   obtain⟨ρ1,hρ,s1⟩:=qX hC s
   obtain⟨x,h1,h2⟩:=aw h
   obtain⟨y,h3,s2⟩:=hb _ _ _ h1 s1
   obtain⟨z,h4,s3⟩:=xH (xI hb ds) h2 s2
   refine⟨z,?_,s3⟩
   show af (match bY sc tg d ρ with|none=>(.st:Rs Fl)|some ρ1=>(body ρ1).bnd (iJ (dH (bY sc tg) body ds))) z
   rw[hρ];exact af.bnd h3 h4
theorem Bp{test:ag->Rs Bool}{body:ag->Rs Fl}(ht:∀C ρ b,af (test C) b->Sub C ρ->af (test ρ) b)(hb:jM body):∀n,jM (lz test body n)
 | 0=>fun C ρ fl h s=>(au h).elim
 | n+1=>fun C ρ fl h s=>by
  obtain⟨b,h1,h2⟩:=aw (show af (Rs.bnd _ _) fl from h)
  have h1':=ht _ _ _ h1 s
  cases b with
  | false=>cases aI h2;exact⟨_,af.bnd h1' du,s⟩
  | true =>
   obtain⟨x,h3,h4⟩:=aw (show af (Rs.bnd _ _) fl from h2)
   obtain⟨y,h5,s2⟩:=hb _ _ _ h3 s
   obtain⟨z,h6,s3⟩:=xH (Bp ht hb n) h4 s2
   exact⟨z,af.bnd h1' (af.bnd h5 h6),s3⟩
theorem Gp:jM (nr Φ tgs e sc):=by
 intro C ρ fl h s
 unfold nr at h⊢
 split at h
 ·obtain⟨p,h1,h⟩:=aw h
  unfold n6 at h
  split at h
  ·rename_i hx
   split at h
   ·rename_i ho;cases aI h
    exact⟨.nx _,af.bnd (dE h1 s) (by unfold n6;rw[if_pos hx,ho];exact du),s.put _ _⟩
   ·rename_i ho;cases aI h
    exact⟨.nx _,af.bnd (dE h1 s) (by unfold n6;rw[if_pos hx,ho];exact du),s.put _ _⟩
   ·exact(au h).elim
  ·exact(au h).elim
 ·split at h
  ·rename_i ht
   rw[if_pos ht]
   unfold ld at h⊢
   split at h
   ·split at h
    ·rename_i hp
     rw[if_pos hp]
     obtain⟨q,h1,h⟩:=aw h
     split at h
     ·rename_i u v hd
      split at h
      ·rename_i hf
       cases aI h
       refine⟨.nx _,af.bnd (uy h1 s) ?_,(s.put _ _).put _ _⟩
       rw[hd];dsimp only;rw[if_pos hf];exact du
      ·exact(au h).elim
     ·exact(au h).elim
    ·exact(au h).elim
   ·exact(au h).elim
  ·rename_i ht
   rw[if_neg ht]
   obtain⟨p,h1,h⟩:=aw h
   split at h
   ·rename_i ho
    cases aI h
    refine⟨.nx _,af.bnd (dE h1 s) (by rw[if_pos ho];exact du),?_⟩
    show Sub _ _
    unfold vt
    split
    ·exact(s.put _ _).put _ _
    ·exact s
   rename_i ho
   split at h
   ·rename_i ds hd
    split at h
    ·rename_i hf
     split at h
     ·rename_i C' hb
      cases aI h
      obtain⟨ρ',hb',s'⟩:=pf hb s
      refine⟨.nx _,af.bnd (dE h1 s) ?_,s'⟩
      rw[if_neg ho,hd];dsimp only;rw[if_pos hf,hb'];exact du
     ·exact(au h).elim
    ·exact(au h).elim
   ·exact(au h).elim
 ·split at h
  ·rename_i hc
   rw[if_pos hc]
   obtain⟨p,h1,h⟩:=aw h
   obtain⟨q,h2,h⟩:=aw h
   rcases qY h with⟨l,j,l',a1,a2,a3,hj,hs,hf,rfl⟩|hF
   ·refine⟨.nx _,af.bnd (dE h1 s) (af.bnd (dE h2 s) ?_),s.put _ _⟩
    rw[hj];unfold nX;rw[s _ _ a1];dsimp only;rw[if_pos a3,hs]
    exact⟨_,rfl,a2,hf,True.intro⟩
   ·exact hF.elim
  ·exact(au h).elim
 ·exact(au h).elim
theorem Go{t:Expr}{op:Operator}:jM (nq Φ t op e sc):=by
 intro C ρ fl h s
 unfold nq at h⊢
 split at h
 ·split at h
  ·rename_i hx
   rw[if_pos hx]
   split at h
   ·rename_i p hp
    rw[s _ _ hp]
    obtain⟨r,h1,h⟩:=aw h
    cases aI h
    obtain⟨a,ha,h3⟩:=og h1
    obtain⟨q,h2,h4⟩:=aw h3
    exact⟨.nx _,af.bnd (J8 ha (af.bnd (dE h2 s) h4)) du,s.put _ _⟩
   ·exact(au h).elim
  ·exact(au h).elim
 ·exact(au h).elim
theorem Gn:jM (nl Φ e sc):=by
 intro C ρ fl h s
 unfold nl at h⊢
 split at h
 ·split at h
  ·rename_i hln
   rw[if_pos hln]
   obtain⟨p,h1,h⟩:=aw h
   split at h
   ·rename_i M hM
    obtain⟨l,a1,a3,h⟩:=rH h
    obtain⟨l',h2,h⟩:=aw h
    cases aI h
    refine⟨.nx _,af.bnd (uy h1 s) ?_,s.put _ _⟩
    unfold vC;rw[s _ _ a1];dsimp only;rw[if_pos a3];exact af.bnd h2 du
   ·exact(au h).elim
  ·exact(au h).elim
 ·obtain⟨p,h1,h⟩:=aw h
  cases aI h
  exact⟨.nx _,af.bnd (dE h1 s) du,s⟩
 ·exact(au h).elim
structure IW(Φ:Fx)(n:Nat):Prop where
 s:∀(st:Stmt) (sc:Scope),sizeOf st<n->jM (ff Φ st sc)
 ss:∀(st:List Stmt) (sc:Scope),sizeOf st<n->jM (aJ Φ st sc)
theorem JR(I:IW Φ n)(st:Stmt)(sc:Scope)(hs:sizeOf st<n+1):jM (ff Φ st sc):=by
 intro C ρ fl h s
 cases st with
 | Return e p =>
  cases e with
  | none=>cases aI h;exact⟨_,du,rfl⟩
  | some e =>
   obtain⟨p,h1,h⟩:=aw (show af (Rs.bnd _ _) fl from h)
   have s':Sub (rq e C) (rq e ρ):=by
    unfold rq
    cases qE e with
    | false=>exact s
    | true =>
     intro x y hx
     have hx:(C x).map (fun p=>(p.1,false))=some y:=hx
     show(ρ x).map (fun p=>(p.1,false))=some y
     cases e:C x with
     | none=>rw[e]at hx;cases hx
     | some z=>rw[e]at hx;rw[s x z e];exact hx
   refine⟨fl,af.bnd (dE h1 s') h,?_⟩
   unfold vo at h
   split at h
   ·cases aI h;rfl
   ·exact(au h).elim
 | Pass p=>cases aI h;exact⟨_,du,s⟩
 | Break p=>cases aI h;exact⟨_,du,s⟩
 | Continue p=>cases aI h;exact⟨_,du,s⟩
 | Assign tgs e p=>exact Gp C ρ fl h s
 | AugAssign t op e p=>exact Go C ρ fl h s
 | Expr e p=>exact Gn C ρ fl h s
 | If c a b p =>
  obtain⟨p,h1,h⟩:=aw (show af (Rs.bnd _ _) fl from h)
  obtain⟨t,ht,h⟩:=hZ h
  cases t with
  | true =>
   obtain⟨z,h2,s2⟩:=I.ss a sc (bo (by simp<;>omega) hs) C ρ fl h s
   exact⟨z,af.bnd (dE h1 s) (kD ht h2),s2⟩
  | false =>
   obtain⟨z,h2,s2⟩:=I.ss b sc (bo (by simp<;>omega) hs) C ρ fl h s
   exact⟨z,af.bnd (dE h1 s) (kD ht h2),s2⟩
 | For tg it body els p =>
  rw[oE]at h⊢
  split at h
  ·rename_i he
   rw[if_pos he]
   obtain⟨p,h1,h⟩:=aw h
   split at h
   ·rename_i ds hd
    split at h
    ·rename_i hk
     obtain⟨z,h2,s2⟩:=xI (I.ss body sc (bo (by simp<;>omega) hs)) ds _ _ fl h (s.demote it)
     refine⟨z,af.bnd (dE h1 (s.demote it)) ?_,s2⟩
     rw[hd];dsimp only;rw[if_pos hk];exact h2
    ·exact(au h).elim
   ·exact(au h).elim
  ·exact(au h).elim
 | While c body els p =>
  rw[sF]at h⊢
  split at h
  ·rename_i he
   rw[if_pos he]
   refine Bp (fun C ρ b hb s=>?_) (I.ss body sc (bo (by simp<;>omega) hs)) cG C ρ fl h s
   obtain⟨q,h1,hb⟩:=aw hb
   exact af.bnd (dE h1 s) hb
  ·exact(au h).elim
 | _=>exact(au h).elim
theorem Gm(I:IW Φ n)(ss:List Stmt)(sc:Scope)(hs:sizeOf ss<n+1):jM (aJ Φ ss sc):=by
 intro C ρ fl h s
 cases ss with
 | nil=>cases aI h;exact⟨_,du,s⟩
 | cons st ss =>
  rcases qZ h with⟨C',h1,h2⟩|⟨h1,h2⟩
  ·obtain⟨x,h3,s2⟩:=I.s st sc (bo (by simp<;>omega) hs) C ρ _ h1 s
   cases x with
   | nx ρ' =>
    obtain⟨z,h4,s3⟩:=I.ss ss sc (bo (by simp<;>omega) hs) C' ρ' fl h2 s2
    exact⟨z,bh h3 h4,s3⟩
   | rt _=>exact s2.elim
   | bk _=>exact s2.elim
   | ct _=>exact s2.elim
  ·obtain⟨x,h3,s2⟩:=I.s st sc (bo (by simp<;>omega) hs) C ρ _ h2 s
   refine⟨x,jU h3 fun ρ' z=>?_,s2⟩
   subst z
   cases fl<;>first|exact h1 _ rfl|exact s2
theorem kT(Φ:Fx):∀n,IW Φ n
 | 0=>⟨fun _ _ h=>absurd h (Rw _),fun _ _ h=>absurd h (Rw _)⟩
 | n+1=>⟨fun e sc hs=>JR (kT Φ n) e sc hs,fun e sc hs=>Gm (kT Φ n) e sc hs⟩
theorem Dp(h:af (aJ Φ ss sc C) (.nx C'))(s:Sub C ρ):∃ρ',af (aJ Φ ss sc ρ) (.nx ρ')/\Sub C' ρ':=by
 obtain⟨z,h1,h2⟩:=(kT Φ _).ss ss sc (Q5 _) C ρ _ h s
 cases z with
 | nx ρ'=>exact⟨ρ',h1,h2⟩
 | rt _=>exact h2.elim
 | bk _=>exact h2.elim
 | ct _=>exact h2.elim
theorem Do(h:af (aJ Φ ss sc C) (.rt d))(s:Sub C ρ):af (aJ Φ ss sc ρ) (.rt d):=by
 obtain⟨z,h1,h2⟩:=(kT Φ _).ss ss sc (Q5 _) C ρ _ h s
 cases z with
 | rt _=>cases h2;exact h1
 | nx _=>exact h2.elim
 | bk _=>exact h2.elim
 | ct _=>exact h2.elim
def bi:List (Str×D×Bool)->ag
 | []=>fun _=>none
 | p::l=>fun z=>if z=p.1 then some p.2 else bi l z
theorem aT:Sub (bi []) ρ:=fun _ _ h=>by cases h
theorem ai{y:D×Bool}{l:List (Str×D×Bool)}(h:ρ x=some y)(g:Sub (bi l) ρ):Sub (bi ((x,y)::l)) ρ:=fun z w e=>by
 replace e:(if z=x then some y else bi l z)=some w:=e
 by_cases hz:z=x
 ·rw[if_pos hz]at e;cases e;rw[hz];exact h
 ·rw[if_neg hz]at e;exact g z w e
theorem Sub.get{y:D×Bool}(s:Sub C ρ)(h:C x=some y:=by rfl):ρ x=some y:=s x y h
section
variable{Φ:Fx}{sc:Scope}{ρ ρ':ag}{fl:Fl}{ss:List Stmt}
theorem cv{P:ag->Prop}(s:Sub C ρ)(h:af (aJ Φ ss sc C) (.nx C'))(k:∀ρ',Sub C' ρ'->P ρ'):∃ρ',af (aJ Φ ss sc ρ) (.nx ρ')/\P ρ' :=
 let ⟨ρ',h1,h2⟩:=Dp h s;⟨ρ',h1,k ρ' h2⟩
theorem bw(s:Sub C ρ)(h:af (aJ Φ ss sc C) (.rt d)):af (aJ Φ ss sc ρ) (.rt d):=Do h s
theorem cy{p:D×Nat}(s:Sub C ρ)(h:af (aC Φ e it sc C) p):af (aC Φ e it sc ρ) p:=dE h s
theorem Cv{it:Expr}(al:List D->ag->Prop)(hi:af (aC Φ it true sc (demote it ρ)) (d,k))(h0:al ds (demote it ρ))
  (step:∀d l ρ,al (d::l) ρ->∃ρ1,bY sc tg d ρ=some ρ1/\∃ρ2,af (aJ Φ body sc ρ1) (.nx ρ2)/\al l ρ2) (rest:∀ρ',al [] ρ'->af (aJ Φ ss sc ρ') fl) (hd:items d=some ds:=by rfl) (hk:k<=1:=by first|exact QF 1|exact QZ 1) (ht:fy it tg=true:=by rfl):af (aJ Φ (.For tg it body [] p::ss) sc ρ) fl:=by
 obtain⟨ρ',h1,h2⟩:=sA (bind:=bY sc tg) (body:=aJ Φ body sc) al (fun d l ρ h=>let ⟨ρ1,a,ρ2,b,c⟩:=step d l ρ h;⟨ρ1,ρ2,a,.inl b,c⟩) h0
 exact bh (sE hi hd hk ht h1) (rest ρ' h2)
theorem Cu{it:Expr}(al:List D->ag->Prop)(R:D->Prop)(hi:af (aC Φ it true sc (demote it ρ)) (d,k))(h0:al ds (demote it ρ))
  (step:∀d l ρ,al (d::l) ρ->∃ρ1,bY sc tg d ρ=some ρ1/\((∃ρ2,af (aJ Φ body sc ρ1) (.nx ρ2)/\al l ρ2)\/∃r,af (aJ Φ body sc ρ1) (.rt r)/\R r)) (rest:∀ρ',al [] ρ'->∃r,af (aJ Φ ss sc ρ') (.rt r)/\R r) (hd:items d=some ds:=by rfl) (hk:k<=1:=by first|exact QF 1|exact QZ 1) (ht:fy it tg=true:=by rfl):∃r,af (aJ Φ (.For tg it body [] p::ss) sc ρ) (.rt r)/\R r:=by
 rcases uM (bind:=bY sc tg) (body:=aJ Φ body sc) al R (fun d l ρ h=>by
  obtain⟨ρ1,a,b⟩:=step d l ρ h
  rcases b with⟨ρ2,b,c⟩|⟨r,b,c⟩
  ·exact⟨ρ1,a,.inl ⟨ρ2,.inl b,c⟩⟩
  ·exact⟨ρ1,a,.inr ⟨r,b,c⟩⟩) h0 with⟨ρ',h1,h2⟩|⟨r,h1,h2⟩
 ·obtain⟨r,h3,h4⟩:=rest ρ' h2
  exact⟨r,bh (sE hi hd hk ht h1) h3,h4⟩
 ·exact⟨r,bZ (sE hi hd hk ht h1),h2⟩
theorem cM{b:Expr}{x:D}(ha:af (aC Φ a false sc ρ) (x,k))(hb:af (aC Φ b false sc ρ) (y,j))(h:af (lY op x y) r):af (aC Φ (.Compare a [op] [b] p) it sc ρ) (.bl r,0) :=
 af.bnd ha (af.bnd hb (af.bnd h du))
theorem iq{op:BoolOp}(h:af (eZ Φ op (e::es) sc ρ) b):af (aC Φ (.BoolOp op (e::es) p) it sc ρ) (.bl b,0):=by
 rw[oM,if_neg (show ¬ (List.isEmpty (e::es)=true)from QP)];exact af.bnd h du
theorem oH{c:Bool}(h:af (aC Φ e false sc ρ) (.bl b,k))(h1:b=true->af (eZ Φ .And es sc ρ) c)(h2:b=false->c=false):af (eZ Φ .And (e::es) sc ρ) c:=af.bnd h (kD rfl (sY h1 h2))
theorem d8{c:Bool}(h:af (aC Φ e false sc ρ) (.bl true,k))(h1:af (eZ Φ .And es sc ρ) c):af (eZ Φ .And (e::es) sc ρ) c:=oH h (fun _=>h1) fun z=>by cases z
theorem fO:af (eZ Φ .And [] sc ρ) true:=du
theorem af.bl{r:R1}{c:Bool}(h:af r (.bl b,k))(e:b=c):af r (.bl c,k):=e ▸ h
theorem lU{g f:α->D}{l:List α}(hi:af (aC Φ iter true sc ρ) (d,k))(hd:items d=some (l.map g))(hl:l.length<=cG)(hk:az (l.map g)=true\/k<=1)
  (h:∀x∈l,∃ρ',bY scope tg (g x) (flt scope ρ)=some ρ'/\af (aC Φ elt false scope ρ') (f x,0)) (hc:nF sc scope=true:=by rfl) (ht:fy iter tg=true:=by rfl):af (aC Φ (.ListComp elt [⟨tg,iter,[],0⟩] scope p) it sc ρ) (.lst (l.map f),0):=by
 refine oJ hi hd ⟨by rw[Q0];exact hl,hk⟩ (pQ fun x hx=>?_) (QZ _) hc ht
 obtain⟨ρ',h1,h2⟩:=h x hx
 rw[h1]
 refine af.bnd (a:=true) du ?_
 rw[cond_true]
 exact af.bnd h2 du
end
theorem Gw(h:us.length=1):∃a,us=[a]:=List.length_eq_one_iff.mp h
theorem zN(h:us.length=n+1):∃a r,us=a::r/\r.length=n:=by
 cases us with
 | nil=>cases h
 | cons a r=>exact⟨a,r,rfl,by simpa using h⟩
theorem zO(h:us.length=2):∃a b,us=[a,b]:=by
 obtain⟨a,r,e1,h1⟩:=zN h;subst e1;obtain⟨b,rfl⟩:=Gw h1;exact⟨a,b,rfl⟩
theorem Gv(h:us.length=3):∃a b c,us=[a,b,c]:=by
 obtain⟨a,r,e1,h1⟩:=zN h;subst e1;obtain⟨b,c,rfl⟩:=zO h1;exact⟨a,b,c,rfl⟩
theorem NH(h:us.length=4):∃a b c d,us=[a,b,c,d]:=by
 obtain⟨a,r,e1,h1⟩:=zN h;subst e1;obtain⟨b,c,d,rfl⟩:=Gv h1;exact⟨a,b,c,d,rfl⟩
end Sp
namespace Qm
end Qm
namespace K
open PySem L2 Sp
variable{α β:Type}{ds:List D}{r:D}
structure Dc(α:Type) where
 dec:D->Option α
 enc:α->D
 ok:∀x a,dec x=some a->x=enc a
noncomputable def dI:Dc Int:=⟨fun | .int i=>some i|_=>none,.int,fun x a h=>by cases x<;>cases h;rfl⟩
noncomputable def dL:Dc (List D):=⟨fun | .lst i=>some i|_=>none,.lst,fun x a h=>by cases x<;>cases h;rfl⟩
noncomputable def Fb{α:Type}(A:Dc α)(f:α->Rs D):List D->Rs D
 | [x]=>(match A.dec x with|some a=>f a|none=>.st)
 | _=>.st
noncomputable def xa{α β:Type}(A:Dc α)(B:Dc β)(f:α->β->Rs D):List D->Rs D
 | [x,y]=>(match A.dec x with|some a=>(match B.dec y with|some b=>f a b|none=>.st)|none=>.st)
 | _=>.st
theorem sM{A:Dc α}{x:D}{f:α->Rs β}{r:β}(h:af (match A.dec x with|some a=>f a|none=>.st) r):∃a,x=A.enc a/\af (f a) r:=by
 split at h
 ·rename_i a e;exact⟨a,A.ok _ _ e,h⟩
 ·exact(au h).elim
theorem Cw{A:Dc α}{f:α->Rs D}(h:af (Fb A f ds) r):∃a,ds=[A.enc a]/\af (f a) r:=by
 unfold Fb at h
 split at h
 ·obtain⟨a,e1,h1⟩:=sM h;exact⟨a,by rw[e1],h1⟩
 ·exact(au h).elim
theorem nZ{A:Dc α}{B:Dc β}{f:α->β->Rs D}(h:af (xa A B f ds) r):∃a b,ds=[A.enc a,B.enc b]/\af (f a b) r:=by
 unfold xa at h
 split at h
 ·obtain⟨a,e1,h1⟩:=sM h
  obtain⟨b,e2,h2⟩:=sM h1
  exact⟨a,b,by rw[e1,e2],h2⟩
 ·exact(au h).elim
noncomputable def Qj:D->Int
 | .int i=>i
 | _=>0
noncomputable def mz(l:List D):List Int:=l.map Qj
theorem jn(ns:List Int):mz (ns.map D.int)=ns:=by
 induction ns with
 | nil=>rfl
 | cons n ns ih=>show n::mz (ns.map D.int)=_;rw[ih]
noncomputable def okL(l:List D):Prop:=∃ns:List Int,l=ns.map D.int
noncomputable def eG(ns:List Int)(k:Int):Int:=if ns=[]then 0 else ns.getD (k.fmod ns.length).toNat 0
noncomputable def nE(ns:List Int)(k:Int):Int :=
 (eG ns k).fdiv 2147483647*2147483647+((((eG ns k).fmod 2147483647+7919*k+1)*48271).fmod 2147483647*69621+k).fmod 2147483647
noncomputable def aK(l:List D)(k:Int):Int:=nE (mz l) k
noncomputable abbrev t4(a b c d:Int):D:=.tup [.int a,.int b,.int c,.int d]
noncomputable abbrev Qd:=Int×Int×Int×Int
noncomputable def dq(q:Qd):D:=t4 q.1 q.2.1 q.2.2.1 q.2.2.2
noncomputable def q4:D->Option Qd
 | .tup [.int a,.int b,.int c,.int d]=>some (a,b,c,d)
 | _=>none
theorem JA(x:D)(q:Qd)(h:q4 x=some q):x=dq q:=by
 unfold q4 at h
 split at h
 ·cases h;rfl
 ·cases h
noncomputable def dQ:Dc Qd:=⟨q4,dq,JA⟩
noncomputable abbrev qc(q:Qd):Prop:=q.1.natAbs<dm/\q.2.1.natAbs<dm/\q.2.2.1.natAbs<dm/\q.2.2.2.natAbs<dm
@[simp] theorem fk(a b:Int):eqD (.int a) (.int b)=decide (a=b):=by
 show(a==b)=_
 rw[Sw];simp
@[simp] theorem eqD_q(p q:Qd):eqD (dq p) (dq q)=decide (p=q):=by
 show(p.1==q.1&&(p.2.1==q.2.1&&(p.2.2.1==q.2.2.1&&(p.2.2.2==q.2.2.2&&true))))=_
 obtain⟨a,b,c,d⟩:=p;obtain⟨e,f,g,h⟩:=q
 rw[Sw];simp
end K
namespace Sp
open PySem PySem.Spec PyProof.Rows L2
variable{k m:Nat}{c:Expr}{p:Pos}
variable{Φ:Fx}{sc:Scope}{ρ ρ':ag}{fl:Fl}{ss:List Stmt}
theorem sD{x:Str}{i e:Expr}{p1 p2 q:Pos}{l l':List D}{d:D}{j:Int}{k2:Nat}(hx:ρ x=some (.lst l,true))(h:af (aC Φ e false sc ρ) (d,k))(hi:af (aC Φ i false sc ρ) (.int j,k2))(hs:setD l j d=some l')(hl:az l=true)(hd:d.lless=true)(ht:EZ e=true:=by rfl)(hn:cQ x=true:=by rfl) :
  af (ff Φ (.Assign [.Subscript (.Name x p1) i p2] e q) sc ρ) (.nx (bP ρ x (.lst l',true))):=by
 refine af.bnd h (af.bnd hi ?_)
 show af (nX _ _ _ _) _
 unfold nX
 rw[hx];dsimp only;rw[if_pos hn,hs]
 exact⟨_,rfl,hl,hd,True.intro⟩
theorem vU{a b:Expr}{it:Bool}{t:Bool}{r:D×Nat}(hc:af (aC Φ c false sc ρ) (.bl t,k))(h1:t=true->af (aC Φ a false sc ρ) r)(h2:t=false->af (aC Φ b false sc ρ) r):af (aC Φ (.IfExp c a b p) it sc ρ) r:=by
 refine af.bnd hc (kD rfl (Bw ?_))
 cases t with
 | true=>exact h1 rfl
 | false=>exact h2 rfl
theorem yX{test:ag->Rs Bool}{body:ag->Rs Fl}(al:Nat->ag->Prop)(step:∀m ρ,al m ρ->∃b,af (test ρ) b/\(b=true->∃m' ρ2,m' < m/\af (body ρ) (.nx ρ2)/\al m' ρ2)):∀{n m:Nat} {ρ:ag},al m ρ->m<n->∃m' ρ',af (lz test body n ρ) (.nx ρ')/\al m' ρ'/\af (test ρ') false:=by
 intro n
 induction n with
 | zero=>intro m ρ _ h;omega
 | succ n ih =>
  intro m ρ hi hm
  obtain⟨b,hb,h⟩:=step m ρ hi
  cases b with
  | false=>exact⟨m,ρ,af.bnd hb du,hi,hb⟩
  | true =>
   obtain⟨m',ρ2,h1,h2,h3⟩:=h rfl
   obtain⟨m2,ρ3,h4,h5,h6⟩:=ih h3 (show m' < n by omega)
   exact⟨m2,ρ3,af.bnd hb (af.bnd h2 h4),h5,h6⟩
theorem wX{body:List Stmt}(al:Nat->ag->Prop)(h0:al m ρ)(hm:m<cG)
  (step:∀m ρ,al m ρ->∃b k,af (aC Φ c false sc ρ) (.bl b,k)/\(b=true->∃m' ρ2,m' < m/\af (aJ Φ body sc ρ) (.nx ρ2)/\al m' ρ2)) (rest:∀m ρ',al m ρ'->(∃k,af (aC Φ c false sc ρ') (.bl false,k))->af (aJ Φ ss sc ρ') fl):af (aJ Φ (.While c body [] p::ss) sc ρ) fl:=by
 obtain⟨m',ρ',h1,h2,h3⟩:=yX (test:=fun ρ=>(aC Φ c false sc ρ).bnd fun p=>ji p fun b=>.ok b []) (body:=aJ Φ body sc) al (fun m ρ h=>by
  obtain⟨b,k,a1,a2⟩:=step m ρ h
  exact⟨b,a1.bnd (kD rfl du),a2⟩) h0 hm
 obtain⟨q,h4,h5⟩:=aw h3
 obtain⟨t,ht,h5⟩:=hZ h5
 cases aI h5
 obtain⟨q1,q2⟩:=q
 have ht:q1=.bl false:=ht
 subst ht
 exact bh (zZ h1) (rest m' ρ' h2 ⟨q2,h4⟩)
theorem BY{m':Nat}{A:ag->Prop}{P:Nat->ag->Prop}(h:m' < m)(k:∃ρ2,A ρ2/\P m' ρ2):∃m' ρ2,m' < m/\A ρ2/\P m' ρ2:=by
 obtain⟨ρ2,a,b⟩:=k
 exact⟨m',ρ2,h,a,b⟩
end Sp
namespace K
open PySem L2 Sp
variable{p q:Qd}{m n:Nat}
noncomputable def bx(p q:Qd):Qd :=
 (p.1*q.1-p.2.1*q.2.1-p.2.2.1*q.2.2.1-p.2.2.2*q.2.2.2,p.1*q.2.1+p.2.1*q.1+p.2.2.1*q.2.2.2-p.2.2.2*q.2.2.1,
  p.1*q.2.2.1-p.2.1*q.2.2.2+p.2.2.1*q.1+p.2.2.2*q.2.1,p.1*q.2.2.2+p.2.1*q.2.2.1-p.2.2.1*q.2.1+p.2.2.2*q.1)
noncomputable def E6(q:Qd):Int:=q.1*q.1+(q.2.1*q.2.1+(q.2.2.1*q.2.2.1+(q.2.2.2*q.2.2.2+0)))
noncomputable def iH(n:Nat)(q:Qd):Prop:=q.1.natAbs<2 ^ n/\q.2.1.natAbs<2 ^ n/\q.2.2.1.natAbs<2 ^ n/\q.2.2.2.natAbs<2 ^ n
theorem de{a e:Int}{M N:Nat}(h:a.natAbs<M)(g:e.natAbs<N):(a*e).natAbs<M*N:=by
 rw[Rk]
 exact Nat.mul_lt_mul'' h g
theorem A0{x y z w:Int}{K:Nat}(h1:x.natAbs<K)(h2:y.natAbs<K)(h3:z.natAbs<K)(h4:w.natAbs<K):(x-y-z-w).natAbs<4*K/\(x+y+z-w).natAbs<4*K/\(x-y+z+w).natAbs<4*K/\(x+y-z+w).natAbs<4*K:=by
 have k:x.natAbs+y.natAbs+z.natAbs+w.natAbs<4*K:=by omega
 have up:∀{p q:Nat} (r:Nat),p<=q->p+r<=q+r:=fun r h=>Nat.add_le_add_right h r
 exact⟨Rj (QD (RS _ _) (up _ (QD (RS _ _) (up _ (RS _ _))))) k,Rj (QD (RS _ _) (up _ (QD (R6 _ _) (up _ (R6 _ _))))) k,
  Rj (QD (R6 _ _) (up _ (QD (R6 _ _) (up _ (RS _ _))))) k,Rj (QD (R6 _ _) (up _ (QD (RS _ _) (up _ (R6 _ _))))) k⟩
theorem gX(h:iH m p)(g:iH n q):iH (m+n+2) (bx p q):=by
 have e:2 ^ (m+n+2)=4*(2 ^ m*2 ^ n):=by rw[SE,SE];omega
 obtain⟨a1,a2,a3,a4⟩:=h
 obtain⟨b1,b2,b3,b4⟩:=g
 unfold iH
 rw[e]
 exact⟨(A0 (de a1 b1) (de a2 b2) (de a3 b3) (de a4 b4)).1,(A0 (de a1 b2) (de a2 b1) (de a3 b4) (de a4 b3)).2.1,
  (A0 (de a1 b3) (de a2 b4) (de a3 b1) (de a4 b2)).2.2.1,(A0 (de a1 b4) (de a2 b3) (de a3 b2) (de a4 b1)).2.2.2⟩
theorem iH.mono(h:iH m p)(g:m<=n):iH n p:=by
 have e:2 ^ m<=2 ^ n:=RO (by decide) g
 obtain⟨a1,a2,a3,a4⟩:=h
 exact⟨QG a1 e,QG a2 e,QG a3 e,QG a4 e⟩
theorem iH.bd(h:iH n p)(g:n<=9000):qc p:=by
 have h:=h.mono g
 exact h
theorem Iz(h:qc p)(g:qc q):(cg p.1 q.1/\cg p.2.1 q.2.1/\cg p.2.2.1 q.2.2.1/\cg p.2.2.2 q.2.2.2)/\(cg p.1 q.2.1/\cg p.2.1 q.1/\cg p.2.2.1 q.2.2.2/\cg p.2.2.2 q.2.2.1)/\(cg p.1 q.2.2.1/\cg p.2.1 q.2.2.2/\cg p.2.2.1 q.1/\cg p.2.2.2 q.2.1)/\(cg p.1 q.2.2.2/\cg p.2.1 q.2.2.1/\cg p.2.2.1 q.2.1/\cg p.2.2.2 q.1) :=
 ⟨⟨ck h.1 g.1,ck h.2.1 g.2.1,ck h.2.2.1 g.2.2.1,ck h.2.2.2 g.2.2.2⟩,⟨ck h.1 g.2.1,ck h.2.1 g.1,ck h.2.2.1 g.2.2.2,ck h.2.2.2 g.2.2.1⟩,⟨ck h.1 g.2.2.1,ck h.2.1 g.2.2.2,ck h.2.2.1 g.1,ck h.2.2.2 g.2.1⟩,⟨ck h.1 g.2.2.2,ck h.2.1 g.2.2.1,ck h.2.2.1 g.2.1,ck h.2.2.2 g.1⟩⟩

end K
namespace K
open PySem L2 Sp Qm
variable{a b c e g i n x:Int}{Φ:Fx}{sc:Scope}{ρ:ag}{p q:Pos}{k m:Nat}{d:D}{l:List D}{ns:List Int}{es:List Expr}
noncomputable def Gs(M:Nat)(q:Qd):Prop:=q.1.natAbs<=M/\q.2.1.natAbs<=M/\q.2.2.1.natAbs<=M/\q.2.2.2.natAbs<=M
theorem oh{M N:Nat}(h:a.natAbs<=M)(g:e.natAbs<=N):(a*e).natAbs<=M*N:=by
 rw[Rk];exact Sk h g
noncomputable def Nw:Qd:=(0,0,0,0)
theorem KN{y f:Int}(h:a=2*x+e)(g:b=2*y+f):a+b=2*(x+y)+(e+f):=by omega
theorem qA(x:Int):0<=x*x:=by
 rcases Int.le_total 0 x with h|h
 ·exact Int.mul_nonneg h h
 ·have:=Int.mul_nonneg (show 0 <= -x by omega) (show 0 <= -x by omega);rwa [SO]at this
theorem DS(x:Int)(h:0<n):(x.fdiv n).natAbs<=x.natAbs:=by
 rw[Int.fdiv_eq_ediv_of_nonneg _ (by omega)]
 exact Int.natAbs_ediv_le_natAbs x n

theorem gK(h:a=b):(!eqD (.int a) (.int b))=false:=by rw[h];simp
theorem oN(h:a=b):eqD (.int a) (.int b)=true:=by rw[h];simp

theorem sI{a b:Expr}{op:Operator}{it:Bool}{x y:D}{j:Nat}{r:D×Nat}(ha:af (aC Φ a false sc ρ) (x,k))(hb:af (aC Φ b false sc ρ) (y,j))(h:af (sU op x y k j) r):af (aC Φ (.BinOp a op b p) it sc ρ) r:=af.bnd ha (af.bnd hb h)
theorem KC{α:Type}{f:α->D}{l:List α}(h0:0<=i)(h1:i<l.length):∃x∈l,L2.atI (l.map f) i=some (f x):=by
 obtain⟨j,rfl⟩:=Int.eq_ofNat_of_zero_le h0
 have hj:j<l.length:=by omega
 exact⟨l[j],Sa _,dD (by simp[hj])⟩
noncomputable def yR(Φ:Fx)(sc:Scope)(tg:Expr)(body ss:List Stmt)(r:D):List D->ag->Prop
 | [],ρ=>af (aJ Φ ss sc ρ) (.rt r)
 | d::l,ρ => ∃ρ1,bY sc tg d ρ=some ρ1/\((∃ρ2,af (aJ Φ body sc ρ1) (.nx ρ2)/\yR Φ sc tg body ss r l ρ2)\/af (aJ Φ body sc ρ1) (.rt r))
theorem uf{ss:List Stmt}{tg it:Expr}{body:List Stmt}{r:D}(ds:List D)(hi:af (aC Φ it true sc (demote it ρ)) (d,k))(h:yR Φ sc tg body ss r ds (demote it ρ))(hd:items d=some ds:=by rfl)(hk:k<=1:=by first|exact QF 1|exact QZ 1)(ht:fy it tg=true:=by rfl):af (aJ Φ (.For tg it body [] p::ss) sc ρ) (.rt r):=by
 obtain⟨r',h1,rfl⟩:=Cu (ds:=ds) (fun ds ρ=>yR Φ sc tg body ss r ds ρ) (fun r'=>r'=r) hi h (fun d l ρ ⟨ρ1,h1,h2⟩=>⟨ρ1,h1,by
  rcases h2 with h2|h2
  ·exact .inl h2
  ·exact .inr ⟨r,h2,rfl⟩⟩) (fun ρ' h=>⟨r,h,rfl⟩) hd hk ht
 exact h1
noncomputable def d7(c k:Int):Int:=if k.fmod 3=0 then(c*1000003 ^ 4).fmod (2*10 ^ 20+1)-10 ^ 20 else if k.fmod 3=1 then c.fmod 61-30 else c.fmod 7-3
theorem ic(c k:Int):(d7 c k).natAbs<=10 ^ 20:=by
 have h0:=QU (c*1000003 ^ 4) (show(0:Int)<2*10 ^ 20+1 by decide)
 have h1:=Q4 (c*1000003 ^ 4) (show(0:Int)<2*10 ^ 20+1 by decide)
 have g0:=QU c (show(0:Int)<61 by decide)
 have g1:=Q4 c (show(0:Int)<61 by decide)
 have f0:=QU c (show(0:Int)<7 by decide)
 have f1:=Q4 c (show(0:Int)<7 by decide)
 unfold d7
 generalize (c*1000003 ^ 4).fmod (2*10 ^ 20+1)=x at *
 split
 ·omega
 ·split<;>omega
noncomputable abbrev d3(x y z:Int):D:=.tup [.int x,.int y,.int z]
noncomputable def sZ(i:Int):Int:=if i<0 then -i else i
theorem Ey(i:Int):sZ i=(i.natAbs:Int):=by unfold sZ;split<;>omega
theorem bE{n:Nat}(h:n<=2 ^ m)(hm:m<9000):n<dm:=Rj h (Nat.pow_lt_pow_right (by decide) hm)
open Builtin.Int (intBits)
theorem Ej(h:intBits x<=k):x.natAbs<2 ^ k:=by
 unfold intBits at h
 by_cases h0:x=0
 ·subst h0;exact Nat.pow_pos (by decide)
 ·rw[if_neg (by simpa using h0)]at h
  exact QG Nat.lt_log2_self (RO (by decide) h)
theorem Ds(h:x.natAbs<2 ^ k):intBits x<=k:=by
 unfold intBits
 by_cases h0:x=0
 ·rw[if_pos (by simpa using h0)];exact QZ _
 ·rw[if_neg (by simpa using h0)]
  exact(Nat.log2_lt (by omega)).mpr h
noncomputable def kg(l:List D):Prop:=∃ns:List Int,l=ns.map D.int/\∀m∈ns,intBits m<=2 ^ 20
theorem kg.okL(h:kg l):okL l:=let ⟨ns,e,_⟩:=h;⟨ns,e⟩
theorem yk{n:Nat}(h:∀m∈ns,m.natAbs<2 ^ n)(k:Int):(eG ns k).natAbs<2 ^ n:=by
 unfold eG
 split
 ·exact Nat.pow_pos (by decide)
 ·rw[QW]
  cases e:ns[(k.fmod ns.length).toNat]? with
  | none=>exact Nat.pow_pos (by decide)
  | some m=>exact h m (Q9 e)
theorem Ak{n:Nat}(h:∀m∈ns,m.natAbs<2 ^ n)(k:Int):(nE ns k).natAbs<2 ^ (n+33):=by
 have hx:=yk h k
 unfold nE
 have r0:=QU ((((eG ns k).fmod 2147483647+7919*k+1)*48271).fmod 2147483647*69621+k) (show(0:Int)<2147483647 by decide)
 have r1:=Q4 ((((eG ns k).fmod 2147483647+7919*k+1)*48271).fmod 2147483647*69621+k) (show(0:Int)<2147483647 by decide)
 generalize ((((eG ns k).fmod 2147483647+7919*k+1)*48271).fmod 2147483647*69621+k).fmod 2147483647=r at *
 generalize eG ns k=x at *
 have e:=Int.mul_fdiv_add_fmod x 2147483647
 have f0:=QU x (show(0:Int)<2147483647 by decide)
 have f1:=Q4 x (show(0:Int)<2147483647 by decide)
 generalize x.fdiv 2147483647=q at *
 generalize x.fmod 2147483647=f at *
 have e2:2 ^ (n+33)=2 ^ n*8589934592:=by rw[SE]
 have p:1<=2 ^ n:=Nat.one_le_two_pow
 rw[e2]
 generalize 2 ^ n=N at *
 omega
theorem Al(h:kg l)(k:Int):intBits (aK l k)<=2 ^ 21:=by
 obtain⟨ns,rfl,hb⟩:=h
 unfold aK
 rw[jn]
 have key:∀n:Nat,(∀m∈ns,intBits m<=n)->intBits (nE ns k)<=n+33:=fun n hn=>Ds (Ak (fun m hm=>Ej (hn m hm)) k)
 exact QD (key _ hb) (by decide)
theorem uI{P:ag->Prop}{C:ag}(h:Sub C ρ)(k:∀ρ,Sub C ρ->P ρ):P ρ:=k ρ h
theorem Ao:intBits (1000003 ^ 4)<=2 ^ 22:=by decide
noncomputable def bX:Nat->List Int->Nat
 | g,[]=>g
 | g,n::r=>bX (Nat.gcd g n.natAbs) r
@[irreducible] noncomputable def jy(l:List D):Int:=(bX 0 (mz l):Nat)
noncomputable def okT(l:List D):Prop:=∃ns:List Int,l=ns.map D.int/\ns.length<=100/\∀n∈ns,n.natAbs<2 ^ 1000
theorem F6(h:okT l):okT l:=h
theorem jx(ns:List Int):jy (ns.map D.int)=(bX 0 ns:Nat):=by unfold jy;rw[jn]
theorem io:∀(ns:List Int) (g:Nat),bX g ns∣g/\∀n∈ns,bX g ns∣n.natAbs
 | [],g=>⟨Nat.dvd_refl _,fun n h=>by cases h⟩
 | n::r,g=>by
  obtain⟨h1,h2⟩:=io r (Nat.gcd g n.natAbs)
  refine⟨Nat.dvd_trans h1 (Nat.gcd_dvd_left _ _),fun m hm=>?_⟩
  rcases QA.mp hm with rfl|hm
  ·exact Nat.dvd_trans h1 (Nat.gcd_dvd_right _ _)
  ·exact h2 m hm
theorem lW{d:Nat}:∀(ns:List Int) (g:Nat),d∣g->(∀n∈ns,d∣n.natAbs)->d∣bX g ns
 | [],g,h,_=>h
 | n::r,g,h,k=>lW r _ (Nat.dvd_gcd h (k n QE)) fun m hm=>k m (QB _ hm)
theorem pL(h:n∈ns):((bX 0 ns:Nat):Int)∣n:=Int.ofNat_dvd_left.mpr ((io ns 0).2 n h)
theorem jw(h:n∈ns)(h0:n≠0):0<bX 0 ns:=by
 rcases R0 (bX 0 ns)with e|e
 ·have:=(io ns 0).2 n h
  rw[e]at this
  have:=Nat.eq_zero_of_zero_dvd this
  omega
 ·exact e
theorem Ah{m:Int}(h:n∈ns)(h0:n≠0)(hm:m∈ns):m=(bX 0 ns:Nat)*m.fdiv (bX 0 ns:Nat):=by
 obtain⟨u,e⟩:=pL hm
 have hp:=jw h h0
 generalize bX 0 ns=g at *
 rw[e,Int.mul_fdiv_cancel_left _ (by omega)]
theorem OQ(h:n∈ns)(h0:n≠0):bX 0 (ns.map fun m=>m.fdiv (bX 0 ns:Nat))=1:=by
 have hp:=jw h h0
 have key:((bX 0 (ns.map fun m=>m.fdiv (bX 0 ns:Nat)))*bX 0 ns)∣bX 0 ns:=by
  refine lW ns 0 (Nat.dvd_zero _) fun m hm=>?_
  obtain⟨u,e⟩:=(io (ns.map fun m=>m.fdiv (bX 0 ns:Nat)) 0).2 _ (SI.mpr ⟨m,hm,rfl⟩)
  have e2:=SC Int.natAbs (Ah h h0 hm)
  rw[Rk,Int.natAbs_natCast,e]at e2
  exact⟨u,by rw[e2];simp only[Nat.mul_comm,Nat.mul_left_comm,Nat.mul_assoc]⟩
 have:=Nat.le_of_dvd hp key
 have h1:bX 0 (ns.map fun m=>m.fdiv (bX 0 ns:Nat))<=1:=by
  rcases RW 1 (bX 0 (ns.map fun m=>m.fdiv (bX 0 ns:Nat)))with q|q
  ·have:=Nat.mul_lt_mul_of_pos_right q hp
   omega
  ·exact q
 have h2:0<bX 0 (ns.map fun m=>m.fdiv (bX 0 ns:Nat)):=jw (n:=n.fdiv (bX 0 ns:Nat)) (SI.mpr ⟨n,h,rfl⟩) fun z=>by
  have:=Ah h h0 h
  rw[z,RD]at this
  exact h0 this
 omega
theorem sv(c:Nat):∀(ns:List Int) (g:Nat),bX (c*g) (ns.map fun m=>(c:Int)*m)=c*bX g ns
 | [],g=>rfl
 | n::r,g=>by
  show bX (Nat.gcd (c*g) ((c:Int)*n).natAbs) _=_
  rw[Rk,Int.natAbs_natCast,Nat.gcd_mul_left]
  exact sv c r _
theorem DK(h:n∈ns)(h0:n≠0):bX 0 ns<=n.natAbs:=Nat.le_of_dvd (by omega) ((io ns 0).2 n h)
theorem Qt(d:D):kn d 1<=1:=by rcases JV (d:=d) (k:=1)with q|q<;>omega
noncomputable def BV(a b m:Nat):Prop:=(b<=a/\a*b<2 ^ m)\/(a<b/\a*b<2 ^ (m-1)/\1<=m)
theorem DW{a b:Nat}(h:BV a b m)(h0:b≠0):∃m',m' < m/\BV b (a % b) m':=by
 rcases h with⟨h1,h2⟩|⟨h1,h2,h3⟩
 ·have hm:1<=m:=by
   rcases R0 m with e|e
   ·subst e
    have:1*1<=a*b:=Sk (by omega) (by omega)
    omega
   ·exact e
  refine⟨m-1,by omega,.inl ⟨SQ (Nat.mod_lt _ (by omega)),?_⟩⟩
  have e:2 ^ m=2*2 ^ (m-1):=by rw[<- Nat.pow_succ'];congr 1;omega
  rw[e]at h2
  have hk:b+a % b<=a:=by
   have:=Nat.div_add_mod a b
   have q:1<=a / b:=(Nat.one_le_div_iff (by omega)).mpr h1
   have:=Nat.mul_le_mul_left b q
   omega
  have hlt:=Nat.mod_lt a (show 0<b by omega)
  have:b*(a % b)+b*(a % b)<=a*b:=by
   rw[<- Nat.mul_add,Nat.mul_comm a b]
   exact Nat.mul_le_mul_left b (by omega)
  omega
 ·refine⟨m-1,by omega,.inl ?_⟩
  rw[Nat.mod_eq_of_lt h1,Nat.mul_comm]
  exact⟨SQ h1,h2⟩
theorem Of{a b:Nat}(ha:a<2 ^ 1000)(hb:b<2 ^ 1000):BV a b 2002:=by
 have h:a*b<2 ^ 2001:=QG (Nat.mul_lt_mul'' ha hb) (by rw[<- SE];exact RO (by decide) (by decide))
 rcases RW a b with q|q
 ·exact .inr ⟨q,h,by decide⟩
 ·exact .inl ⟨q,Nat.lt_trans h (Nat.pow_lt_pow_right (by decide) (by decide))⟩
theorem Ha(a b:Nat):(a:Int).fmod b=((a % b:Nat):Int):=by
 rw[Int.fmod_eq_emod_of_nonneg _ (by omega)];rfl
theorem Hf{ρ':ag}{e:Expr}{n:Nat}{ds:List D}(h:af (aC Φ e false sc ρ) (d,k))(hs:eM d=some ds)(hk:az ds=true\/k<=1)(hb:aX sc es ds ρ=some ρ')(ht:ik e=false:=by rfl)(ho:rJ sc es (d,k)=false:=by rfl):af (ff Φ (.Assign [.Tuple es n p] e q) sc ρ) (.nx ρ'):=by
 show af (if mC sc es e=true then ld Φ es e sc ρ else _) _
 rw[if_neg (by unfold mC;rw[ht];exact QP)]
 refine af.bnd h ?_
 rw[if_neg (by rw[ho];exact QP)]
 dsimp only
 rw[hs];dsimp only
 rw[if_pos hk,hb]
 exact du
theorem Hg{e:Expr}{n:Nat}{d:D×Nat}(h:af (aC Φ e false sc ρ) d)(ho:rJ sc es d=true)(ht:ik e=false:=by rfl):af (ff Φ (.Assign [.Tuple es n p] e q) sc ρ) (.nx (vt es d ρ)):=by
 show af (if mC sc es e=true then ld Φ es e sc ρ else _) _
 rw[if_neg (by unfold mC;rw[ht];exact QP)]
 refine af.bnd h ?_
 rw[if_pos ho]
 exact du
noncomputable def gI(ns:List Int):Int:=(bX 0 ns:Nat)
theorem uJ(ns:List Int):jy (ns.map D.int)=gI ns:=jx ns
theorem ng(h:n∈ns)(h0:n≠0):0<gI ns:=by have:=jw h h0;unfold gI;omega
theorem ky{m:Int}(h:n∈ns)(h0:n≠0)(hm:m∈ns):m=gI ns*m.fdiv (gI ns):=Ah h h0 hm
theorem xZ(h:n∈ns)(h0:n≠0):gI (ns.map fun m=>m.fdiv (gI ns))=1:=by
 have:=OQ h h0
 unfold gI;rw[this];rfl
theorem x4(hc:0<c)(ns:List Int):gI (ns.map fun m=>c*m)=c*gI ns:=by
 obtain⟨k,rfl⟩:=Int.eq_ofNat_of_zero_le (Int.le_of_lt hc)
 have:=sv k ns 0
 unfold gI
 rw[Nat.mul_zero]at this
 rw[this];simp
theorem Kf(h:n∈ns)(h0:n≠0):(gI ns).natAbs<=n.natAbs:=by
 have:=DK h h0
 unfold gI;omega
theorem DR(hg:0<g):(x.fdiv g).natAbs<=x.natAbs:=DS x hg
theorem vS(hc:0<c)(hg:0<g):(c*x).fdiv (c*g)=x.fdiv g:=Int.mul_fdiv_mul_of_pos x g hc
theorem mM(hk:k<=999)(hl:ns.length<=100)(h:∀n∈ns,n.natAbs<=2 ^ k):okT (ns.map D.int) :=
 ⟨ns,rfl,hl,fun n hn=>Rj (h n hn) (Nat.pow_lt_pow_right (by decide) (by omega))⟩
noncomputable abbrev b9(a b c x y z:Int):Int:=a*x+(b*y+(c*z+0))
theorem zh(h0:0<=i)(h1:i<4)(a b c d v:Int):∃a' b' c' d':Int,setD [.int a,.int b,.int c,.int d] i (.int v)=some [.int a',.int b',.int c',.int d']/\(∀P:Int->Prop,P a->P b->P c->P d->P v->P a'/\P b'/\P c'/\P d')/\(v≠0 -> ¬ (a'=0/\b'=0/\c'=0/\d'=0)):=by
 have:i=0\/i=1\/i=2\/i=3:=by omega
 rcases this with rfl|rfl|rfl|rfl
 ·exact⟨v,b,c,d,rfl,fun P p1 p2 p3 p4 p5=>⟨p5,p2,p3,p4⟩,fun h z=>h z.1⟩
 ·exact⟨a,v,c,d,rfl,fun P p1 p2 p3 p4 p5=>⟨p1,p5,p3,p4⟩,fun h z=>h z.2.1⟩
 ·exact⟨a,b,v,d,rfl,fun P p1 p2 p3 p4 p5=>⟨p1,p2,p5,p4⟩,fun h z=>h z.2.2.1⟩
 ·exact⟨a,b,c,v,rfl,fun P p1 p2 p3 p4 p5=>⟨p1,p2,p3,p5⟩,fun h z=>h z.2.2.2⟩
noncomputable def cA(x:Int):Prop:=x.natAbs<=10 ^ 20
theorem ID(a b c d:Int):(([a,b,c,d]:List Int).any fun n=>n != 0) = !decide (a=0/\b=0/\c=0/\d=0):=by
 by_cases h1:a=0<;>by_cases h2:b=0<;>by_cases h3:c=0<;>by_cases h4:d=0<;>simp[h1,h2,h3,h4]

end K
namespace K
open PySem PySem.Spec PyProof.Rows L2 Sp Qm
variable{ns:List Int}{A B a b c d k w x y z:Int}{M N m n:Nat}
theorem yz{X:Cx}(hc:X.calm=true):dz X (.builtin "any") (fun xs H Q => ∃(p:Addr) (ns:List Int),xs=[.ref p]/\bT X.K H p (ns.map V.int)/\Q (.bl (ns.any fun n=>n != 0)) H):=by
 intro pins s σ H xs us Q I r h
 obtain⟨p,ns,rfl,hq,q⟩:=h
 obtain⟨u,rfl,rx⟩:=dR r
 cases rx
 obtain⟨its,rv,pl,hz⟩:=I.tuple hq
 have hlen:its.length=ns.length:=by have:=rv.length;simpa using this.symm
 have hl:s.heap.IsTuple p its.toArray:=by obtain⟨o,e,c,n,d⟩:=pl;exact⟨o,e,c,n,d⟩
 have hlt:p<s.heap.objs.size:=by obtain⟨_,e,_⟩:=hl;exact QC e
 refine call_any_walk (RM hl ?_)
 refine⟨_,_,_,_,_,_,fun i=>(ns.getD i 0 != 0),rfl,Walks.tuple (A:=X.A.in1) (by exact I.ok.hd hc) _ p (QT hlt) its.toArray,⟨⟨_,QH _ rfl,rfl,rfl⟩,hl.at fun o e=>Qy _ e⟩,?_,fun h' tk hk=>?_⟩
 ·intro i v s' Q' E' hP hQ
  have hP:(its.toArray)[i]?=some v:=hP
  simp only[List.getElem?_toArray]at hP
  have hi:i<ns.length:=by rw[<- hlen];exact(QJ.mp hP).1
  obtain⟨w,hw,rw'⟩:=rv.get (i:=i) (x:=V.int ns[i]) (by simp[hi])
  rw[hP]at hw;cases hw
  obtain⟨t,rfl⟩:=rw'
  refine PyProof.Rows.truthy_int ?_
  have:ns.getD i 0=ns[i]:=by rw[QW,QL hi];rfl
  rw[<- this];exact hQ
 ·have:((List.range its.toArray.size).any fun i=>(ns.getD i 0 != 0))=ns.any fun n=>n != 0:=by
   simp only[QM,hlen]
   rw[Sw,Sb,Sb]
   constructor
   ·rintro⟨i,hi,h⟩
    have hi:=RY.mp hi
    rw[QW,QL hi]at h
    exact⟨_,Sa hi,h⟩
   ·rintro⟨x,hx,h⟩
    obtain⟨i,hi,rfl⟩:=List.mem_iff_getElem.mp hx
    exact⟨i,RY.mpr hi,by rw[QW,QL hi];exact h⟩
  rw[this]
  refine⟨.bl _,H,I.kept (fun b o e=>hk b o (fun hm=>?_) (Qy _ e)),rfl,q⟩
  have hb:b=s.heap.objs.size:=by simpa using hm
  subst hb
  exact absurd (QC e) (Q6 _)
noncomputable def wg(ds:List D):R1 :=
 match ds with
 | [.tup l]=>(match cF l with|some ns=>.ok (.bl (ns.any fun n=>n != 0),0) []|none=>.st)
 | ds=>Ax ds
theorem Aw:dW "any" wg:=by
 refine⟨by decide +kernel,by decide +kernel,by decide +kernel,rfl,fun X ds z l o hc h hp=>?_⟩
 unfold wg at h
 split at h
 ·split at h
  ·rename_i ns e
   refine .inl ⟨"any", by decide +kernel,?_⟩
   cases h
   cases iM e
   refine⟨_,yz hc,fun ow H0 H2 vs P Q o s rx q=>?_⟩
   obtain⟨v,rfl,ry⟩:=rx.only
   rw[aj]at ry
   obtain⟨a,ws,rfl,hs,rl⟩:=ry
   exact⟨a,ns,rfl,by rw[<- rl.mapInt];exact hs,q _ _ (av.refl _) (by rw[aj])⟩
  ·cases h
 ·exact Es.2.2.2.2 X _ z l o hc h hp
theorem sw:∀(ns ms:List Int) (g:Nat),ns.map Int.natAbs=ms.map Int.natAbs->bX g ns=bX g ms
 | [],[],g,_=>rfl
 | [],_::_,g,h=>by cases h
 | _::_,[],g,h=>by cases h
 | n::ns,m::ms,g,h=>by
  have h1:n.natAbs=m.natAbs/\ns.map Int.natAbs=ms.map Int.natAbs:=by simpa using h
  show bX (Nat.gcd g n.natAbs) ns=bX (Nat.gcd g m.natAbs) ms
  rw[h1.1]
  exact sw ns ms _ h1.2
theorem x6{ms:List Int}(h:ns.map Int.natAbs=ms.map Int.natAbs):gI ns=gI ms:=by unfold gI;rw[sw ns ms 0 h]
theorem kz(h:∀m∈ns,d∣m):d∣gI ns:=by
 unfold gI
 have:=lW (d:=d.natAbs) ns 0 (Nat.dvd_zero _) fun n hn=>Int.natAbs_dvd_natAbs.mpr (h n hn)
 exact Int.natAbs_dvd.mp (Int.ofNat_dvd.mpr this)
theorem x5{n:Int}(h:n∈ns):gI ns∣n:=pL h
theorem oA(k a b c d:Int)(hk:k≠0):gI [k*a,k*b,k*c,k*d]=(k.natAbs:Int)*gI [a,b,c,d]:=by
 rw[<- x4 (c:=(k.natAbs:Int)) (by omega) [a,b,c,d]]
 apply x6
 simp[Rk]
noncomputable def gL(a b c d:Int):Int:=if a≠0 then a else if b≠0 then b else if c≠0 then c else d
theorem rY(a b c d:Int)(hk:k≠0):gL (k*a) (k*b) (k*c) (k*d)=k*gL a b c d:=by
 unfold gL
 have e:∀x:Int,(k*x≠0)=(x≠0):=fun x=>by
  apply propext
  constructor
  ·intro h z;subst z;simp at h
  ·intro h z;rcases Sy.mp z with q|q
   ·exact hk q
   ·exact h q
 simp only[e]
 by_cases ha:a≠0
 ·rw[if_pos ha,if_pos ha]
 ·rw[if_neg ha,if_neg ha]
  by_cases hb:b≠0
  ·rw[if_pos hb,if_pos hb]
  ·rw[if_neg hb,if_neg hb]
   by_cases hc:c≠0
   ·rw[if_pos hc,if_pos hc]
   ·rw[if_neg hc,if_neg hc]
theorem Du(h:¬ (a=0/\b=0/\c=0/\d=0)):gL a b c d≠0:=by
 unfold gL
 split
 ·assumption
 ·split
  ·assumption
  ·split
   ·assumption
   ·intro z;apply h;omega
structure Pm(a b c d:Int):Prop where
 one:gI [a,b,c,d]=1
 pos:0<gL a b c d
theorem Pm.ne(h:Pm a b c d):¬ (a=0/\b=0/\c=0/\d=0):=by
 rintro⟨rfl,rfl,rfl,rfl⟩
 have:=h.pos
 simp[gL]at this
theorem C2(h:¬ (x=0/\y=0/\z=0/\w=0)):∃k a b c d:Int,k≠0/\x=k*a/\y=k*b/\z=k*c/\w=k*d/\Pm a b c d/\k.natAbs=(gI [x,y,z,w]).natAbs:=by
 obtain⟨v,hv,hv0⟩:∃v∈[x,y,z,w],v≠0:=by
  by_cases hx:x=0
  ·by_cases hy:y=0
   ·by_cases hz:z=0
    ·exact⟨w,by simp,fun q=>h ⟨hx,hy,hz,q⟩⟩
    ·exact⟨z,by simp,hz⟩
   ·exact⟨y,by simp,hy⟩
  ·exact⟨x,by simp,hx⟩
 have g0:=ng hv hv0
 have ex:=ky (m:=x) hv hv0 (by simp)
 have ey:=ky (m:=y) hv hv0 (by simp)
 have ez:=ky (m:=z) hv hv0 (by simp)
 have ew:=ky (m:=w) hv hv0 (by simp)
 have one:=xZ hv hv0
 simp only[Q8,SG]at one
 generalize gI [x,y,z,w]=g at *
 generalize x.fdiv g=a at *
 generalize y.fdiv g=b at *
 generalize z.fdiv g=c at *
 generalize w.fdiv g=d at *
 have hn:¬ (a=0/\b=0/\c=0/\d=0):=by
  rintro⟨rfl,rfl,rfl,rfl⟩
  apply h
  simp at ex ey ez ew
  exact⟨ex,ey,ez,ew⟩
 have hl:=Du hn
 rcases Sz hl with q|q
 ·refine⟨-g,-a,-b,-c,-d,by omega,by rw[SO];exact ex,by rw[SO];exact ey,by rw[SO];exact ez,by rw[SO];exact ew,⟨?_,?_⟩,by rw[Sl]⟩
  ·rw[<- one];apply x6;simp
  ·have:=rY (k:=-1) a b c d (by decide)
   simp only[Int.neg_mul,Sj]at this
   rw[this];omega
 ·exact⟨g,a,b,c,d,by omega,ex,ey,ez,ew,⟨one,q⟩,rfl⟩
noncomputable def n4(a b c d:Int):Int:=a*a+b*b+c*c+d*d
noncomputable def dk(a b c d:Int):Int:=a*a+b*b-c*c-d*d
noncomputable def cZ(a b c d:Int):Int:=2*b*c-2*a*d
noncomputable def cY(a b c d:Int):Int:=2*b*d+2*a*c
noncomputable def cX(a b c d:Int):Int:=2*b*c+2*a*d
noncomputable def dj(a b c d:Int):Int:=a*a-b*b+c*c-d*d
noncomputable def cW(a b c d:Int):Int:=2*c*d-2*a*b
noncomputable def cV(a b c d:Int):Int:=2*b*d-2*a*c
noncomputable def cU(a b c d:Int):Int:=2*c*d+2*a*b
noncomputable def dh(a b c d:Int):Int:=a*a-b*b-c*c+d*d
noncomputable def bz(a b c d:Int):List Int:=[n4 a b c d,dk a b c d,cZ a b c d,cY a b c d,cX a b c d,dj a b c d,cW a b c d,cV a b c d,cU a b c d,dh a b c d]
theorem mD(h:x≠0):0<x*x:=by
 rcases Sz h with q|q
 ·exact Int.mul_pos_of_neg_of_neg q q
 ·exact R4 q q
theorem mO(h:¬ (a=0/\b=0/\c=0/\d=0)):0<n4 a b c d:=by
 unfold n4
 have h1:=qA a;have h2:=qA b;have h3:=qA c;have h4:=qA d
 by_cases ha:a=0
 ·by_cases hb:b=0
  ·by_cases hc:c=0
   ·have:=mD (x:=d) (fun q=>h ⟨ha,hb,hc,q⟩);omega
   ·have:=mD hc;omega
  ·have:=mD hb;omega
 ·have:=mD ha;omega
theorem xB(h:x % 2=1):∃k,x*x=8*k+1:=by
 obtain⟨u,rfl⟩:∃u,x=2*u+1:=⟨x / 2,by omega⟩
 have hu:u % 2=0\/u % 2=1:=by omega
 rcases hu with q|q
 ·obtain⟨v,rfl⟩:∃v,u=2*v:=⟨u / 2,by omega⟩
  exact⟨2*v*v+v,by grind⟩
 ·obtain⟨v,rfl⟩:∃v,u=2*v+1:=⟨u / 2,by omega⟩
  exact⟨2*v*v+3*v+1,by grind⟩
theorem Qu(h:x % 2=0):∃k,x*x=4*k:=by
 obtain⟨u,rfl⟩:∃u,x=2*u:=⟨x / 2,by omega⟩
 exact⟨u*u,by grind⟩
theorem ur(h:x % 2=1)(h':y % 2=1):∃k,x*y=2*k+1:=by
 obtain⟨u,rfl⟩:∃u,x=2*u+1:=⟨x / 2,by omega⟩
 obtain⟨v,rfl⟩:∃v,y=2*v+1:=⟨y / 2,by omega⟩
 exact⟨2*u*v+u+v,by grind⟩
theorem Og{g:Int}(h1:gI [a,b,c,d]=1)(h:∀x∈[a,b,c,d],∀y∈[a,b,c,d],g∣4*(x*y)):g∣4:=by
 have one:∀y∈[a,b,c,d],g∣4*y:=fun y hy=>by
  by_cases y0:y=0
  ·subst y0;exact⟨0,by simp⟩
  ·have k:=kz (d:=g) (ns:=[(4*y)*a,(4*y)*b,(4*y)*c,(4*y)*d]) (by
    intro m hm
    simp only[QA,QI,Q1]at hm
    have q:∀x∈[a,b,c,d],g∣4*y*x:=fun x hx=>by
     have:=h x hx y hy
     rwa [show 4*y*x=4*(x*y) by grind]
    rcases hm with rfl|rfl|rfl|rfl
    ·exact q a (by simp)
    ·exact q b (by simp)
    ·exact q c (by simp)
    ·exact q d (by simp))
   rw[oA _ _ _ _ _ (by omega),h1,Ry]at k
   exact Int.dvd_natAbs.mp k
 have k:=kz (d:=g) (ns:=[4*a,4*b,4*c,4*d]) (by
  intro m hm
  simp only[QA,QI,Q1]at hm
  rcases hm with rfl|rfl|rfl|rfl
  ·exact one a (by simp)
  ·exact one b (by simp)
  ·exact one c (by simp)
  ·exact one d (by simp))
 rw[oA _ _ _ _ _ (by decide),h1]at k
 exact k
theorem Ca(h:Pm a b c d):gI (bz a b c d)∣4:=by
 have q:∀x∈bz a b c d,gI (bz a b c d)∣x:=fun x hx=>x5 hx
 generalize gI (bz a b c d)=g at *
 have e:g∣n4 a b c d:=q _ (by simp[bz])
 have e0:g∣dk a b c d:=q _ (by simp[bz])
 have e1:g∣cZ a b c d:=q _ (by simp[bz])
 have e2:g∣cY a b c d:=q _ (by simp[bz])
 have e3:g∣cX a b c d:=q _ (by simp[bz])
 have e4:g∣dj a b c d:=q _ (by simp[bz])
 have e5:g∣cW a b c d:=q _ (by simp[bz])
 have e6:g∣cV a b c d:=q _ (by simp[bz])
 have e7:g∣cU a b c d:=q _ (by simp[bz])
 have e8:g∣dh a b c d:=q _ (by simp[bz])
 obtain⟨k,hk⟩:=e;obtain⟨k0,h0⟩:=e0;obtain⟨k1,h1⟩:=e1;obtain⟨k2,h2⟩:=e2;obtain⟨k3,h3⟩:=e3
 obtain⟨k4,h4⟩:=e4;obtain⟨k5,h5⟩:=e5;obtain⟨k6,h6⟩:=e6;obtain⟨k7,h7⟩:=e7;obtain⟨k8,h8⟩:=e8
 simp only[n4,dk,cZ,cY,cX,dj,cW,cV,cU,dh]at hk h0 h1 h2 h3 h4 h5 h6 h7 h8
 apply Og h.one
 have aa:g∣4*(a*a):=⟨k+k0+k4+k8,by grind⟩
 have bb:g∣4*(b*b):=⟨k+k0-k4-k8,by grind⟩
 have cc:g∣4*(c*c):=⟨k-k0+k4-k8,by grind⟩
 have dd:g∣4*(d*d):=⟨k-k0-k4+k8,by grind⟩
 have bc:g∣4*(b*c):=⟨k1+k3,by grind⟩
 have ad:g∣4*(a*d):=⟨k3-k1,by grind⟩
 have bd:g∣4*(b*d):=⟨k2+k6,by grind⟩
 have ac:g∣4*(a*c):=⟨k2-k6,by grind⟩
 have cd:g∣4*(c*d):=⟨k5+k7,by grind⟩
 have ab:g∣4*(a*b):=⟨k7-k5,by grind⟩
 have ba:g∣4*(b*a):=by rw[RE b a];exact ab
 have ca:g∣4*(c*a):=by rw[RE c a];exact ac
 have da:g∣4*(d*a):=by rw[RE d a];exact ad
 have cb:g∣4*(c*b):=by rw[RE c b];exact bc
 have db:g∣4*(d*b):=by rw[RE d b];exact bd
 have dc:g∣4*(d*c):=by rw[RE d c];exact cd
 intro x hx y hy
 simp only[QA,QI,Q1]at hx hy
 rcases hx with hx|hx|hx|hx<;>rcases hy with hy|hy|hy|hy<;>rw[hx,hy]<;>assumption
theorem HI(h:Pm a b c d):∃g m:Int,gI (bz a b c d)=g/\(g=1\/g=2\/g=4)/\n4 a b c d=g*m/\m % 2=1/\0<m:=by
 have hn:=mO h.ne
 have mn:n4 a b c d∈bz a b c d:=by simp[bz]
 have g0:=ng mn (by omega)
 have g4:=Ca h
 obtain⟨m,hm⟩:=x5 mn
 have hg:gI (bz a b c d)=1\/gI (bz a b c d)=2\/gI (bz a b c d)=4:=by
  have l4:=Int.le_of_dvd (by decide) g4
  obtain⟨u,hu⟩:=g4
  generalize gI (bz a b c d)=g at *
  have:g=1\/g=2\/g=3\/g=4:=by omega
  rcases this with rfl|rfl|rfl|rfl
  ·exact .inl rfl
  ·exact .inr (.inl rfl)
  ·omega
  ·exact .inr (.inr rfl)
 have two:2∣n4 a b c d->2∣gI (bz a b c d):=fun h2=>kz fun x hx=>by
  obtain⟨u,hu⟩:=h2
  simp only[bz,QA,QI,Q1]at hx
  rcases hx with rfl|rfl|rfl|rfl|rfl|rfl|rfl|rfl|rfl|rfl
  ·exact⟨u,hu⟩
  ·exact⟨u-c*c-d*d,by unfold n4 at hu;unfold dk;grind⟩
  ·exact⟨b*c-a*d,by unfold cZ;grind⟩
  ·exact⟨b*d+a*c,by unfold cY;grind⟩
  ·exact⟨b*c+a*d,by unfold cX;grind⟩
  ·exact⟨u-b*b-d*d,by unfold n4 at hu;unfold dj;grind⟩
  ·exact⟨c*d-a*b,by unfold cW;grind⟩
  ·exact⟨b*d-a*c,by unfold cV;grind⟩
  ·exact⟨c*d+a*b,by unfold cU;grind⟩
  ·exact⟨u-b*b-c*c,by unfold n4 at hu;unfold dh;grind⟩
 have four:4∣n4 a b c d->4∣gI (bz a b c d)/\n4 a b c d % 8=4:=fun h4=>by
  have ne:¬ (a % 2=0/\b % 2=0/\c % 2=0/\d % 2=0):=fun z=>by
   have:=kz (d:=2) (ns:=[a,b,c,d]) (by
    intro m hm
    simp only[QA,QI,Q1]at hm
    rcases hm with rfl|rfl|rfl|rfl
    ·exact Int.dvd_of_emod_eq_zero z.1
    ·exact Int.dvd_of_emod_eq_zero z.2.1
    ·exact Int.dvd_of_emod_eq_zero z.2.2.1
    ·exact Int.dvd_of_emod_eq_zero z.2.2.2)
   rw[h.one]at this
   omega
  have od:a % 2=1/\b % 2=1/\c % 2=1/\d % 2=1:=by
   unfold n4 at h4
   have sq:∀x:Int,∃k,x*x=4*k+x % 2/\(x % 2=0\/x % 2=1):=fun x=>by
    rcases(show x % 2=0\/x % 2=1 by omega)with q|q
    ·obtain⟨k,e⟩:=Qu q;exact⟨k,by rw[q];omega,.inl q⟩
    ·obtain⟨k,e⟩:=xB q;exact⟨2*k,by rw[q];omega,.inr q⟩
   obtain⟨ka,ea,pa⟩:=sq a
   obtain⟨kb,eb,pb⟩:=sq b
   obtain⟨kc,ec,pc⟩:=sq c
   obtain⟨kd,ed,pd⟩:=sq d
   rw[ea,eb,ec,ed]at h4
   clear ea eb ec ed sq
   generalize a % 2=A at *;generalize b % 2=B at *;generalize c % 2=C at *;generalize d % 2=E at *
   omega
  obtain⟨oa,ob,oc,od⟩:=od
  obtain⟨ka,ya⟩:=xB oa;obtain⟨kb,yb⟩:=xB ob;obtain⟨kc,yc⟩:=xB oc;obtain⟨kd,yd⟩:=xB od
  obtain⟨bc,zbc⟩:=ur ob oc;obtain⟨ad,zad⟩:=ur oa od;obtain⟨bd,zbd⟩:=ur ob od;obtain⟨ac,zac⟩:=ur oa oc;obtain⟨cd,zcd⟩:=ur oc od;obtain⟨ab,zab⟩:=ur oa ob
  refine⟨kz fun x hx=>?_,by unfold n4;omega⟩
  simp only[bz,QA,QI,Q1]at hx
  rcases hx with rfl|rfl|rfl|rfl|rfl|rfl|rfl|rfl|rfl|rfl
  ·exact h4
  ·exact⟨2*ka+2*kb-2*kc-2*kd,by unfold dk;omega⟩
  ·exact⟨bc-ad,by unfold cZ;rw[QV,QV,zbc,zad];omega⟩
  ·exact⟨bd+ac+1,by unfold cY;rw[QV,QV,zbd,zac];omega⟩
  ·exact⟨bc+ad+1,by unfold cX;rw[QV,QV,zbc,zad];omega⟩
  ·exact⟨2*ka-2*kb+2*kc-2*kd,by unfold dj;omega⟩
  ·exact⟨cd-ab,by unfold cW;rw[QV,QV,zcd,zab];omega⟩
  ·exact⟨bd-ac,by unfold cV;rw[QV,QV,zbd,zac];omega⟩
  ·exact⟨cd+ab+1,by unfold cU;rw[QV,QV,zcd,zab];omega⟩
  ·exact⟨2*ka-2*kb-2*kc+2*kd,by unfold dh;omega⟩
 refine⟨_,m,rfl,hg,hm,?_,?_⟩
 ·generalize gI (bz a b c d)=g at *
  generalize n4 a b c d=n at *
  rcases hg with rfl|rfl|rfl
  ·have:¬ 2∣n:=fun z=>by have:=two z;omega
   omega
  ·have:¬ 4∣n:=fun z=>by have:=(four z).1;omega
   omega
  ·have:=(four ⟨m,hm⟩).2
   omega
 ·generalize gI (bz a b c d)=g at *
  generalize n4 a b c d=n at *
  rcases hg with rfl|rfl|rfl<;>omega
theorem Gx(h:¬ (x=0/\y=0/\z=0/\w=0)):L2.atI ((([x,y,z,w]:List Int).filter fun t => !decide (t=0)).map D.int) 0=some (.int (gL x y z w)):=by
 unfold gL
 by_cases hx:x=0
 ·subst hx
  by_cases hy:y=0
  ·subst hy
   by_cases hz:z=0
   ·subst hz
    have hw:w≠0:=fun q=>h ⟨rfl,rfl,rfl,q⟩
    simp[hw,L2.atI,L2.ixN]
   ·simp[hz,L2.atI,L2.ixN]
  ·simp[hy,L2.atI,L2.ixN]
 ·simp[hx,L2.atI,L2.ixN]
theorem jl{k:Nat}(hx:x.natAbs<=m)(hy:y.natAbs<=n)(h:m+n<=k):(x+y).natAbs<=k:=QD (R6 _ _) (QD (Nat.add_le_add hx hy) h)
theorem jk{k:Nat}(hx:x.natAbs<=m)(hy:y.natAbs<=n)(h:m+n<=k):(x-y).natAbs<=k:=QD (RS _ _) (QD (Nat.add_le_add hx hy) h)
theorem nG(hx:x.natAbs<=m):(2*x).natAbs<=2*m:=by rw[Rk];exact Nat.mul_le_mul_left 2 hx
theorem JP{C E:Int}(h:8*M<=N)(ha:A.natAbs<=M)(hb:B.natAbs<=M)(hc:C.natAbs<=M)(he:E.natAbs<=M):(A+B+C+E).natAbs<=N/\(A+B-C-E).natAbs<=N/\(A-B+C-E).natAbs<=N/\(A-B-C+E).natAbs<=N:=by
 have h4:M+M+M+M<=N:=by omega
 have p2:=jl ha hb (QF _)
 have m2:=jk ha hb (QF _)
 exact⟨jl (jl p2 hc (QF _)) he h4,jk (jk p2 hc (QF _)) he h4,jk (jl m2 hc (QF _)) he h4,jl (jk m2 hc (QF _)) he h4⟩
theorem vH(h:8*M<=N)(ha:A.natAbs<=M)(hb:B.natAbs<=M):(2*A-2*B).natAbs<=N/\(2*A+2*B).natAbs<=N:=by
 have h4:2*M+2*M<=N:=by omega
 exact⟨jk (nG ha) (nG hb) h4,jl (nG ha) (nG hb) h4⟩
theorem A4(hM:m*m<=M)(hN:8*M<=N)(ha:a.natAbs<=m)(hb:b.natAbs<=m)(hc:c.natAbs<=m)(hd:d.natAbs<=m):∀x∈bz a b c d,x.natAbs<=N:=by
 have p:∀{x y:Int},x.natAbs<=m->y.natAbs<=m->(x*y).natAbs<=M:=fun hx hy=>by rw[Rk];exact QD (Sk hx hy) hM
 obtain⟨h1,h2,h3,h4⟩:=JP hN (p ha ha) (p hb hb) (p hc hc) (p hd hd)
 have bc:=vH hN (p hb hc) (p ha hd)
 have bd:=vH hN (p hb hd) (p ha hc)
 have cd:=vH hN (p hc hd) (p ha hb)
 intro x hx
 simp only[bz,QA,QI,Q1]at hx
 rcases hx with rfl|rfl|rfl|rfl|rfl|rfl|rfl|rfl|rfl|rfl
 ·exact h1
 ·exact h2
 ·unfold cZ;rw[QV,QV];exact bc.1
 ·unfold cY;rw[QV,QV];exact bd.2
 ·unfold cX;rw[QV,QV];exact bc.2
 ·exact h3
 ·unfold cW;rw[QV,QV];exact cd.1
 ·unfold cV;rw[QV,QV];exact bd.1
 ·unfold cU;rw[QV,QV];exact cd.2
 ·exact h4
theorem EM(ha:a.natAbs<=2 ^ 140)(hb:b.natAbs<=2 ^ 140)(hc:c.natAbs<=2 ^ 140)(hd:d.natAbs<=2 ^ 140):∀x∈bz a b c d,x.natAbs<=2 ^ 290 :=
 A4 (M:=2 ^ 140*2 ^ 140) (QF _) (by rw[show(8:Nat)=2 ^ 3 from rfl,<- SE,<- SE];exact RO (by decide) (by decide)) ha hb hc hd
theorem EJ(ha:a.natAbs<=2 ^ 140)(hb:b.natAbs<=2 ^ 140)(hc:c.natAbs<=2 ^ 140)(hd:d.natAbs<=2 ^ 140):okT ((bz a b c d).map D.int):=mM (k:=290) (by decide) (Q3 rfl) (EM ha hb hc hd)
theorem vq(hm:m<=999)(h:∀t∈[x,y,z,w],t.natAbs<=2 ^ m):okT (([x,y,z,w]:List Int).map D.int):=mM (k:=m) hm (Q3 rfl) h
noncomputable def K0(a b c d:Int):D:=.tup [.int ((n4 a b c d).fdiv (gI (bz a b c d))),.tup [d3 ((dk a b c d).fdiv (gI (bz a b c d))) ((cZ a b c d).fdiv (gI (bz a b c d))) ((cY a b c d).fdiv (gI (bz a b c d))),d3 ((cX a b c d).fdiv (gI (bz a b c d))) ((dj a b c d).fdiv (gI (bz a b c d))) ((cW a b c d).fdiv (gI (bz a b c d))),d3 ((cV a b c d).fdiv (gI (bz a b c d))) ((cU a b c d).fdiv (gI (bz a b c d))) ((dh a b c d).fdiv (gI (bz a b c d)))]]
theorem JX(hk:k≠0)(p:Pm a b c d):gI [k*a,k*b,k*c,k*d]=k.natAbs:=by rw[oA _ _ _ _ _ hk,p.one,Ry]
end K
namespace Sp
open PySem PySem.Spec PyProof.Rows L2
open AutoSeq1 (wpAny_loadPart')
variable{P:Program}{w:World}{H:Hp}{h:Heap}
section
variable{prog:Program}{A:Around}{E:Value->Shared->Prop}{s:Shared}
variable{n l1 l2 l3:Nat}{xs ys ws:Array Value}{k:Nat}{x y u:Value}{f0 f1:Value}
end
open AutoSeq1 (wpAny_loadPart')
section
variable{prog:Program}{A:Around}{E:Value->Shared->Prop}{s:Shared}
end
section
variable{prog:Program}{A:Around}{E:Value->Shared->Prop}{s:Shared}
abbrev rW(acc:Array Value)(c:Nat):Obj:={ cls:=.type "list", dict:=none,data:=.seq acc c,slots:=#[] }
theorem uC{S I:Addr}{res:Value}{R:Result->Shared->Prop}(h:wpAny (model prog w) A.in1 (pyNext (.ref I)) (fun r s'=>match r with
      | some v => ∃acc c,s'.heap.get? S=some (rW acc c)/\acc.size+1<=sizeLine/\∀h2 c2,h2.get? S=some (rW (acc.push v) c2)->Heap.SameBut S s'.heap h2->codeAny (model prog w) A (.builtin "list.extend.loop" ⟨[.ref S,.ref I,res],[]⟩) R { s' with heap:=h2 }
      | none=>R (.ok (.ret res)) s') (fun e s'=>R (.error e) s') s):codeAny (model prog w) A (.builtin "list.extend.loop" ⟨[.ref S,.ref I,res],[]⟩) R s:=by
  refine codeAny_builtin F.entry_extend_loop ?_
  rw[Around.under_plainId F.plain_extend_loop _]
  show wpAny _ A.in1 (pyNext (.ref I) >>= _) _ _ s
  refine Qx (Rq h (fun r s' hr=>?_) fun _ _ z=>z)
  cases r with
  | none=>exact Qz hr
  | some v =>
    obtain⟨acc,c,hS,hz,k⟩:=hr
    show wpAny _ A.in1 (updateSeq S (·.push v) >>= _) _ _ _
    refine Qx (wpAny_updateSeq hS rfl (Qz ⟨plainId_quiet F.plain_extend_loop _,k _ _ (Ru _ hS rfl) (Heap.SameBut.update ..)⟩) ?_ ?_)
    . omega
    . show(acc.push v).size<=sizeLine+1
      rw[Array.size_push];omega
end
variable{X:Cx}
theorem lT{b:Addr}{o:HO}(x:cD P w H h)(hb:H b=none)(new:bG P w (aG H b o) h b o):cD P w (aG H b o) h:=fun c u e=>by
 by_cases hc:c=b
 ·subst hc;rw[aD]at e;cases e;exact new
 ·rw[ax hc]at e
  exact(x c u e).stay (fun d v _ r=>r) (fun d r=>by rw[ax (aU r hb)];exact r) (fun d xs r=>by rw[ax (aU r hb)];exact r)
theorem nU{fs ex:List Addr}{H':Hp}{h':Heap}(k:∀b u,h.get? b=some u->h'.get? b=some u)(hH:∀c,c<h.objs.size->H' c=H c)(hin:∀c o,H c=some o->c<h.objs.size):Un fs ex H H' h h' where
 keep:=fun b u q _ _ _=>k b u q
 slot:=fun b u q _ _ _=>⟨u.slots,k b u q⟩
 free:=fun b u q n _=>(hH b (QC q)).trans n
 there:=fun b u q _=>⟨u,k b u q⟩
 tups:=fun b xs r=>(hH b (hin b _ r)).trans r
 frzs:=fun b o u r=>(hH b (hin b _ r)).trans r
 tbls:=fun b ps r=>⟨#[],by rw[Array.append_empty];exact(hH b (hin b _ r)).trans r⟩
theorem nY{Φ:Fx}{sc:Scope}{H0:Hp}{fl:Fl}{rest:List Stmt}(G:aO Φ X sc)(hp:PassesOwn (model X.prog X.w) X.A X.env X.xe):∀{pre:List Stmt} {ρ ρ1:ag},af (aJ Φ pre sc ρ) (.nx ρ1)->fc X H0 ρ1 rest fl->fc X H0 ρ (pre++rest) fl
 | [],ρ,ρ1,h,k=>by cases aI h;exact k
 | st::ss,ρ,ρ1,h,k=>by
  obtain⟨f1,h1,h2⟩:=aw (show af (Rs.bnd _ _) _ from h)
  cases f1 with
  | nx ρ'=>exact ee ((je Φ _).s st (Q5 _) h1 G hp) (nY G hp h2 k)
  | rt d=>cases aI h2
  | bk ρ'=>cases aI h2
  | ct ρ'=>cases aI h2
theorem x8{K:W.Frag}{mg:Str->Option Value}{base:Heap}{k:Nat}{g:Str}{f:Addr}{fd:FuncData}{ps:List Str}{F:List D->Rs D}(h:br P w K mg base cz k f fd ps (ja K F))(hm:mg g=some (.ref f))(hk:W.keepIn K (.ref f)=true)(hb:bH K fd ps [])(hd:(g==("__debug__" : Str))=false):dv P w K mg base k g F :=
 ⟨f,fd,ps,h,hm,hk,hb,hd⟩
end Sp
namespace K
open PySem PySem.Spec PyProof.Rows L2 Sp Qm
variable{k:Nat}
structure T9 where
 n:Int
 a:Int
 b:Int
 c:Int
 d:Int
 e:Int
 f:Int
 g:Int
 h:Int
 i:Int
noncomputable def T9.l(T:T9):List Int:=[T.n,T.a,T.b,T.c,T.d,T.e,T.f,T.g,T.h,T.i]
noncomputable def T9.D(T:T9):D:=.tup [.int T.n,.tup [d3 T.a T.b T.c,d3 T.d T.e T.f,d3 T.g T.h T.i]]
noncomputable def T9.map(f:Int->Int)(T:T9):T9:=⟨f T.n,f T.a,f T.b,f T.c,f T.d,f T.e,f T.f,f T.g,f T.h,f T.i⟩
theorem T9.l_map(f:Int->Int)(T:T9):(T.map f).l=T.l.map f:=rfl
noncomputable def T9.low(T:T9):T9:=T.map fun x=>x.fdiv (gI T.l)
theorem T9.ext{A B:T9}(h:A.l=B.l):A=B:=by
 cases A;cases B
 simp only[T9.l,List.cons.injEq,and_true]at h
 obtain⟨h0,h1,h2,h3,h4,h5,h6,h7,h8,h9⟩:=h
 subst h0 h1 h2 h3 h4 h5 h6 h7 h8 h9
 rfl
theorem T9.mem_n(T:T9):T.n∈T.l:=by simp[T9.l]
theorem T9.gpos{T:T9}(h:0<T.n):0<gI T.l:=ng T.mem_n (by omega)
theorem T9.cut{T:T9}(h:0<T.n):T=T.low.map (gI T.l * ·):=by
 have k:=fun m hm=>ky (m:=m) T.mem_n (show T.n≠0 by omega) hm
 apply T9.ext
 show T.l=(T.low.map (gI T.l * ·)).l
 rw[T9.l_map,T9.low,T9.l_map,List.map_map]
 conv=>lhs;rw[<- List.map_id T.l]
 exact List.map_congr_left fun m hm=>k m hm
theorem T9.low_mul{c:Int}(hc:0<c){T:T9}(h:0<T.n):(T.map (c * ·)).low=T.low:=by
 have g:=T9.gpos h
 unfold T9.low
 rw[T9.l_map,x4 hc]
 unfold T9.map
 simp only[vS hc g]
noncomputable def T9.bd(k:Nat)(T:T9):Prop:=∀x∈T.l,x.natAbs<=2 ^ k
theorem T9.bd_low{T:T9}(h:0<T.n)(b:T.bd k):T.low.bd k:=by
 intro x hx
 rw[T9.low,T9.l_map]at hx
 obtain⟨y,hy,rfl⟩:=SI.mp hx
 exact QD (DR (T9.gpos h)) (b y hy)
theorem T9.okT{T:T9}(hk:k<=999)(b:T.bd k):okT (T.l.map D.int):=mM (k:=k) hk (Q3 rfl) b
theorem T9.eqD(T:T9):Sp.eqD T.D T.D=true:=by
 unfold T9.D
 show((_==_&&(((_==_&&(_==_&&(_==_&&true)))&&((_==_&&(_==_&&(_==_&&true)))&&((_==_&&(_==_&&(_==_&&true)))&&true)))&&true)):Bool)=true
 simp
end K
namespace K
open PySem L2 Sp Qm
noncomputable def tq(q:Qd):T9:=⟨n4 q.1 q.2.1 q.2.2.1 q.2.2.2,dk q.1 q.2.1 q.2.2.1 q.2.2.2,cZ q.1 q.2.1 q.2.2.1 q.2.2.2,cY q.1 q.2.1 q.2.2.1 q.2.2.2,cX q.1 q.2.1 q.2.2.1 q.2.2.2,dj q.1 q.2.1 q.2.2.1 q.2.2.2,cW q.1 q.2.1 q.2.2.1 q.2.2.2,cV q.1 q.2.1 q.2.2.1 q.2.2.2,cU q.1 q.2.1 q.2.2.1 q.2.2.2,dh q.1 q.2.1 q.2.2.1 q.2.2.2⟩
noncomputable def kq(k:Int)(q:Qd):Qd:=(k*q.1,k*q.2.1,k*q.2.2.1,k*q.2.2.2)
noncomputable def Bl(q:Qd):Prop:=¬ (q.1=0/\q.2.1=0/\q.2.2.1=0/\q.2.2.2=0)
theorem qV{q:Qd}(h:Bl q):0<(tq q).n:=mO h
noncomputable def T9.dx(T:T9)(x y z:Int):Int:=b9 T.a T.b T.c x y z
end K
namespace K
open PySem L2 Sp
variable{a b c d n p q r s t u v w x:Int}{T:T9}
structure lH(n p q r s t u v w x:Int):Prop where
 n0:0<n
 a:p*p+q*q+r*r=n*n
 b:s*s+t*t+u*u=n*n
 c:v*v+w*w+x*x=n*n
 ab:p*s+q*t+r*u=0
 ac:p*v+q*w+r*x=0
 bc:s*v+t*w+u*x=0
noncomputable def dt(p q r s t u v w x:Int):Int:=p*(t*x-u*w)+q*(u*v-s*x)+r*(s*w-t*v)
theorem HL(p q r s t u v w x:Int):(t*x-u*w)*(p*p+q*q+r*r)+(r*w-q*x)*(p*s+q*t+r*u)+(q*u-r*t)*(p*v+q*w+r*x)=dt p q r s t u v w x*p:=by unfold dt;grind
theorem HK(p q r s t u v w x:Int):(u*v-s*x)*(p*p+q*q+r*r)+(p*x-r*v)*(p*s+q*t+r*u)+(r*s-p*u)*(p*v+q*w+r*x)=dt p q r s t u v w x*q:=by unfold dt;grind
theorem HJ(p q r s t u v w x:Int):(s*w-t*v)*(p*p+q*q+r*r)+(q*v-p*w)*(p*s+q*t+r*u)+(p*t-q*s)*(p*v+q*w+r*x)=dt p q r s t u v w x*r:=by unfold dt;grind
theorem NI(s t u v w x:Int):(t*x-u*w)*(t*x-u*w)+(u*v-s*x)*(u*v-s*x)+(s*w-t*v)*(s*w-t*v)=(s*s+t*t+u*u)*(v*v+w*w+x*x)-(s*v+t*w+u*x)*(s*v+t*w+u*x):=by grind
theorem Lf(ha:0<=a)(hb:0<=b)(h:a*a=b*b):a=b:=by
 have e:(a-b)*(a+b)=0:=by grind
 rcases Sy.mp e with z|z<;>omega
theorem lE(h:0<c)(e:c*a=c*b):a=b:=Int.eq_of_mul_eq_mul_left (by omega) e
section
theorem lH.det(o:lH n p q r s t u v w x)(hd:0<=dt p q r s t u v w x):dt p q r s t u v w x=n*n*n:=by
 have hn:=o.n0
 have h1:=HL p q r s t u v w x
 have h2:=HK p q r s t u v w x
 have h3:=HJ p q r s t u v w x
 have h4:=NI s t u v w x
 rw[o.a,o.ab,o.ac]at h1 h2 h3
 rw[o.b,o.c,o.bc]at h4
 generalize dt p q r s t u v w x=d at *
 have nn:0<n*n:=R4 hn hn
 have n3:0<n*n*n:=R4 nn hn
 refine Lf hd (Int.le_of_lt n3) (lE nn ?_)
 have e1:(t*x-u*w)*(n*n)=d*p:=by omega
 have e2:(u*v-s*x)*(n*n)=d*q:=by omega
 have e3:(s*w-t*v)*(n*n)=d*r:=by omega
 have h0:=o.a
 generalize t*x-u*w=A at *
 generalize u*v-s*x=B at *
 generalize s*w-t*v=C at *
 have k1:(A*A+B*B+C*C)*(n*n)*(n*n)=d*d*(p*p+q*q+r*r):=by
  have:(A*A+B*B+C*C)*(n*n)*(n*n)=(A*(n*n))*(A*(n*n))+(B*(n*n))*(B*(n*n))+(C*(n*n))*(C*(n*n)):=by grind
  rw[this,e1,e2,e3];grind
 rw[h0,h4]at k1
 have:n*n*(d*d)=(n*n*(n*n)-0*0)*(n*n)*(n*n):=by rw[k1];grind
 rw[this];grind
theorem lH.cof(o:lH n p q r s t u v w x)(hd:0<=dt p q r s t u v w x):t*x-u*w=n*p/\u*v-s*x=n*q/\s*w-t*v=n*r:=by
 have hn:=o.n0
 have h1:=HL p q r s t u v w x
 have h2:=HK p q r s t u v w x
 have h3:=HJ p q r s t u v w x
 rw[o.a,o.ab,o.ac,o.det hd]at h1 h2 h3
 have nn:0<n*n:=R4 hn hn
 refine⟨lE nn ?_,lE nn ?_,lE nn ?_⟩
 ·generalize t*x-u*w=A at *
  have:n*n*A=A*(n*n):=RE ..
  have h1:A*(n*n)=n*n*n*p:=by omega
  rw[this,h1];grind
 ·generalize u*v-s*x=A at *
  have:n*n*A=A*(n*n):=RE ..
  have h1:A*(n*n)=n*n*n*q:=by omega
  rw[this,h1];grind
 ·generalize s*w-t*v=A at *
  have:n*n*A=A*(n*n):=RE ..
  have h1:A*(n*n)=n*n*n*r:=by omega
  rw[this,h1];grind
theorem sL(p q r s t u v w x:Int):dt s t u v w x p q r=dt p q r s t u v w x:=by unfold dt;grind
theorem lH.rot(o:lH n p q r s t u v w x):lH n s t u v w x p q r:=⟨o.n0,o.b,o.c,o.a,o.bc,by have:=o.ab;rw[<- this];grind,by have:=o.ac;rw[<- this];grind⟩
structure nM(n p q r s t u v w x:Int):Prop where
 n0:0<n
 a:p*p+q*q+r*r=n*n
 b:s*s+t*t+u*u=n*n
 c:v*v+w*w+x*x=n*n
 ab:p*s+q*t+r*u=0
 ac:p*v+q*w+r*x=0
 bc:s*v+t*w+u*x=0
 A:p*p+s*s+v*v=n*n
 B:q*q+t*t+w*w=n*n
 C:r*r+u*u+x*x=n*n
 AB:p*q+s*t+v*w=0
 AC:p*r+s*u+v*x=0
 BC:q*r+t*u+w*x=0
 fp:t*x-u*w=n*p
 fq:u*v-s*x=n*q
 fr:s*w-t*v=n*r
 fs:w*r-x*q=n*s
 ft:x*p-v*r=n*t
 fu:v*q-w*p=n*u
 fv:q*u-r*t=n*v
 fw:r*s-p*u=n*w
 fx:p*t-q*s=n*x
theorem lH.all(o:lH n p q r s t u v w x)(hd:0<=dt p q r s t u v w x):nM n p q r s t u v w x:=by
 have hn:=o.n0
 obtain⟨c1,c2,c3⟩:=o.cof hd
 obtain⟨c4,c5,c6⟩:=o.rot.cof (by rw[sL];exact hd)
 obtain⟨c7,c8,c9⟩:=o.rot.rot.cof (by rw[sL,sL];exact hd)
 have hdt:=o.det hd
 refine⟨hn,o.a,o.b,o.c,o.ab,o.ac,o.bc,lE hn ?_,lE hn ?_,lE hn ?_,lE hn ?_,lE hn ?_,lE hn ?_,c1,c2,c3,c4,c5,c6,c7,c8,c9⟩
 ·have:n*(p*p+s*s+v*v)=(n*p)*p+(n*s)*s+(n*v)*v:=by grind
  rw[this,<- c1,<- c4,<- c7,<- QV,<- hdt];unfold dt;grind
 ·have:n*(q*q+t*t+w*w)=(n*q)*q+(n*t)*t+(n*w)*w:=by grind
  rw[this,<- c2,<- c5,<- c8,<- QV,<- hdt];unfold dt;grind
 ·have:n*(r*r+u*u+x*x)=(n*r)*r+(n*u)*u+(n*x)*x:=by grind
  rw[this,<- c3,<- c6,<- c9,<- QV,<- hdt];unfold dt;grind
 ·have:n*(p*q+s*t+v*w)=(n*p)*q+(n*s)*t+(n*v)*w:=by grind
  rw[this,<- c1,<- c4,<- c7];grind
 ·have:n*(p*r+s*u+v*x)=(n*p)*r+(n*s)*u+(n*v)*x:=by grind
  rw[this,<- c1,<- c4,<- c7];grind
 ·have:n*(q*r+t*u+w*x)=(n*q)*r+(n*t)*u+(n*w)*x:=by grind
  rw[this,<- c2,<- c5,<- c8];grind
theorem vn{e:Int}(aa:a*a=e*(n+p+t+x))(bb:b*b=e*(n+p-t-x))(cc:c*c=e*(n-p+t-x))(dd:d*d=e*(n-p-t+x))(ab:a*b=e*(w-u))(ac:a*c=e*(r-v))(ad:a*d=e*(s-q))(bc:b*c=e*(q+s))(bd:b*d=e*(r+v))(cd:c*d=e*(u+w)) :
  (tq (a,b,c,d)).map (n * ·)=(T9.mk n p q r s t u v w x).map (n4 a b c d * ·):=by
 have hn:n4 a b c d=e*(4*n):=by unfold n4;grind
 show T9.mk _ _ _ _ _ _ _ _ _ _=T9.mk _ _ _ _ _ _ _ _ _ _
 rw[hn]
 show T9.mk (n*n4 a b c d) (n*dk a b c d) (n*cZ a b c d) (n*cY a b c d) (n*cX a b c d) (n*dj a b c d) (n*cW a b c d) (n*cV a b c d) (n*cU a b c d) (n*dh a b c d)=T9.mk (e*(4*n)*n) (e*(4*n)*p) (e*(4*n)*q) (e*(4*n)*r) (e*(4*n)*s) (e*(4*n)*t) (e*(4*n)*u) (e*(4*n)*v) (e*(4*n)*w) (e*(4*n)*x)
 rw[hn]
 congr 1
 ·grind
 ·rw[show dk a b c d=e*(4*p) by unfold dk;grind];grind
 ·rw[show cZ a b c d=e*(4*q) by unfold cZ;grind];grind
 ·rw[show cY a b c d=e*(4*r) by unfold cY;grind];grind
 ·rw[show cX a b c d=e*(4*s) by unfold cX;grind];grind
 ·rw[show dj a b c d=e*(4*t) by unfold dj;grind];grind
 ·rw[show cW a b c d=e*(4*u) by unfold cW;grind];grind
 ·rw[show cV a b c d=e*(4*v) by unfold cV;grind];grind
 ·rw[show cU a b c d=e*(4*w) by unfold cU;grind];grind
 ·rw[show dh a b c d=e*(4*x) by unfold dh;grind];grind




theorem nM.row0(o:nM n p q r s t u v w x):(tq (n+p+t+x,w-u,r-v,s-q)).map (n * ·)=(T9.mk n p q r s t u v w x).map (n4 (n+p+t+x) (w-u) (r-v) (s-q) * ·) :=
 by cases o;refine vn (e:=n+p+t+x) rfl ?_ ?_ ?_ ?_ ?_ ?_ ?_ ?_ ?_<;>(simp only[Int.mul_add,Int.add_mul,Int.mul_sub,Int.sub_mul,RE]at *<;>omega)
theorem nM.row1(o:nM n p q r s t u v w x):(tq (w-u,n+p-t-x,q+s,r+v)).map (n * ·)=(T9.mk n p q r s t u v w x).map (n4 (w-u) (n+p-t-x) (q+s) (r+v) * ·) :=
 by cases o;refine vn (e:=n+p-t-x) ?_ rfl ?_ ?_ ?_ ?_ ?_ ?_ ?_ ?_<;>(simp only[Int.mul_add,Int.add_mul,Int.mul_sub,Int.sub_mul,RE]at *<;>omega)
theorem nM.row2(o:nM n p q r s t u v w x):(tq (r-v,q+s,n-p+t-x,u+w)).map (n * ·)=(T9.mk n p q r s t u v w x).map (n4 (r-v) (q+s) (n-p+t-x) (u+w) * ·) :=
 by cases o;refine vn (e:=n-p+t-x) ?_ ?_ rfl ?_ ?_ ?_ ?_ ?_ ?_ ?_<;>(simp only[Int.mul_add,Int.add_mul,Int.mul_sub,Int.sub_mul,RE]at *<;>omega)
theorem nM.row3(o:nM n p q r s t u v w x):(tq (s-q,r+v,u+w,n-p-t+x)).map (n * ·)=(T9.mk n p q r s t u v w x).map (n4 (s-q) (r+v) (u+w) (n-p-t+x) * ·) :=
 by cases o;refine vn (e:=n-p-t+x) ?_ ?_ ?_ rfl ?_ ?_ ?_ ?_ ?_ ?_<;>(simp only[Int.mul_add,Int.add_mul,Int.mul_sub,Int.sub_mul,RE]at *<;>omega)
theorem kU(hn:0<n)(h:¬ (a=0/\b=0/\c=0/\d=0))(e:(tq (a,b,c,d)).map (n * ·)=(T9.mk n p q r s t u v w x).map (n4 a b c d * ·)):(tq (a,b,c,d)).low=(T9.mk n p q r s t u v w x).low:=by
 have h4:0<n4 a b c d:=qV (q:=(a,b,c,d)) h
 rw[<- T9.low_mul hn (T:=tq (a,b,c,d)) h4,e,T9.low_mul h4 hn]
end
noncomputable def lX(T:T9):Int:=b9 T.a T.b T.c (T.e*T.i-T.f*T.h) (T.f*T.g-T.d*T.i) (T.d*T.h-T.e*T.g)
noncomputable def iP(T:T9):Option (Str×List Int) :=
 if b9 T.a T.b T.c T.a T.b T.c=T.n*T.n then
  if b9 T.a T.b T.c T.d T.e T.f=0 then
   if b9 T.a T.b T.c T.g T.h T.i=0 then
    if b9 T.d T.e T.f T.d T.e T.f=T.n*T.n then
     if b9 T.d T.e T.f T.g T.h T.i=0 then
      if b9 T.g T.h T.i T.g T.h T.i=T.n*T.n then
       if lX T<0 then some (Str.ofString "over", [])else none
      else some (Str.ofString "rows", [2,2])
     else some (Str.ofString "rows", [1,2])
    else some (Str.ofString "rows", [1,1])
   else some (Str.ofString "rows", [0,2])
  else some (Str.ofString "rows", [0,1])
 else some (Str.ofString "rows", [0,0])
theorem oB{q:Str×List Int}(h:iP T=some q):q∈[(Str.ofString "rows", ([0,0]:List Int)),(Str.ofString "rows", [0,1]),(Str.ofString "rows", [0,2]),(Str.ofString "rows", [1,1]),(Str.ofString "rows", [1,2]),(Str.ofString "rows", [2,2]),(Str.ofString "over", [])]:=by
 unfold iP at h
 repeat' (split at h)
 all_goals first|(cases h;simp;done)|cases h
theorem DQ(hn:0<T.n)(h:iP T=none):lH T.n T.a T.b T.c T.d T.e T.f T.g T.h T.i/\0<=dt T.a T.b T.c T.d T.e T.f T.g T.h T.i:=by
 unfold iP at h
 split at h
 ·rename_i h1
  split at h
  ·rename_i h2
   split at h
   ·rename_i h3
    split at h
    ·rename_i h4
     split at h
     ·rename_i h5
      split at h
      ·rename_i h6
       split at h
       ·cases h
       ·rename_i h7
        unfold b9 at *
        refine⟨⟨hn,by omega,by omega,by omega,by omega,by omega,by omega⟩,?_⟩
        unfold lX b9 at h7
        unfold dt
        omega
      ·cases h
     ·cases h
    ·cases h
   ·cases h
  ·cases h
 ·cases h
end K
namespace Sp
open PySem PySem.Spec PyProof.Rows L2
variable{X:Cx}
theorem ul{Φ:Fx}{sc:Scope}{H0:Hp}{rest:List Stmt}{t:TS}(G:aO Φ X sc)(hp:PassesOwn (model X.prog X.w) X.A X.env X.xe)(hr:dP X rest t):∀{pre:List Stmt} {ρ ρ1:ag},af (aJ Φ pre sc ρ) (.nx ρ1) ->
  dP X (pre++rest) (fun D σ H => ∃ow,aF X ow H σ ρ/\σ.length=X.N.length/\bQ H0 ow H/\∀ow' σ' H',aF X ow' H' σ' ρ1->σ'.length=X.N.length->bQ H0 ow' H'->t D σ' H')
 | [],ρ,ρ1,h=>by
  cases aI h
  exact fun pins s σ H D I ⟨ow,E,hl,B,q⟩=>hr pins s σ H D I (q ow σ H E hl B)
 | st::ss,ρ,ρ1,h=>by
  obtain⟨f1,h1,h2⟩:=aw (show af (Rs.bnd _ _) _ from h)
  cases f1 with
  | nx ρ' =>
   have sd:=(je Φ _).s st (H0:=H0) (Q5 _) h1 G hp
   have ih:=ul (H0:=H0) G hp hr h2
   exact fun pins s σ H D I ⟨ow,E,hl,B,q⟩=>dS sd ih pins s σ H D I ⟨ow,E,hl,B,fun ow' σ' H' E' hl' k=>⟨ow',E',hl',B.keep k,q⟩⟩
  | rt d=>cases aI h2
  | bk ρ'=>cases aI h2
  | ct ρ'=>cases aI h2
theorem Aa{ow:Ow}{H:Hp}{σ:L2.St}{ρ:ag}(E:aF X ow H σ ρ):aF X (fun _=>none) H σ (eB ρ):=⟨fun x d o h=>by
 unfold eB at h
 cases e:ρ x with
 | none=>rw[e]at h;cases h
 | some p =>
  rw[e]at h
  obtain⟨i,v,e1,e2,e3,e4⟩:=E.get x p.1 p.2 (by rw[e])
  cases h
  exact⟨i,v,e1,e2,e3,e4.imp fun _ _ _ _=>rfl⟩,fun a ha=>absurd rfl ha⟩
end Sp
namespace K
open PySem L2 Sp Qm
variable{k:Int}{q:Qd}{m:Nat}
section
variable{Φ:Fx}{sc:Scope}{ρ ρ1:ag}{ss:List Stmt}
theorem ud{l:List (Str×D×Bool)}{ρ:ag}(s:Sub (bi l) ρ):Sub (bi (l.map fun p=>(p.1,p.2.1,false))) (eB ρ):=by
 have key:∀(l:List (Str×D×Bool)) z,bi (l.map fun p=>(p.1,p.2.1,false)) z=(bi l z).map fun p=>(p.1,false):=by
  intro l z
  induction l with
  | nil=>rfl
  | cons p l ih =>
   show(if z=p.1 then _ else _)=((if z=p.1 then _ else _:Option (D×Bool))).map _
   by_cases h:z=p.1
   ·rw[if_pos h,if_pos h];rfl
   ·rw[if_neg h,if_neg h];exact ih
 intro z w e
 rw[key]at e
 unfold eB
 cases h:bi l z with
 | none=>rw[h]at e;cases e
 | some y=>rw[h]at e;rw[s z y h];exact e
end

theorem EH(q:Qd)(p:Pm q.1 q.2.1 q.2.2.1 q.2.2.2):∃g:Int,(g=1\/g=2\/g=4)/\tq q=(tq q).low.map (g * ·)/\(tq q).n=g*(tq q).low.n/\(tq q).low.n % 2=1/\0<(tq q).low.n/\gI (tq q).low.l=1:=by
 have hp:=qV p.ne
 obtain⟨g,m,e,hg,en,ho,hm⟩:=HI p
 have eg:gI (tq q).l=g:=e
 have hn:(tq q).low.n=m:=by
  show((tq q).n).fdiv (gI (tq q).l)=m
  rw[eg,show(tq q).n=g*m from en]
  exact Int.mul_fdiv_cancel_left m (by omega)
 refine⟨g,hg,?_,?_,by rw[hn];exact ho,by rw[hn];exact hm,?_⟩
 ·rw[<- eg];exact T9.cut hp
 ·rw[hn];exact en
 ·have:=xZ (tq q).mem_n (show(tq q).n≠0 by omega)
  exact this
theorem NK(hq:Bl q)(h:Gs (2 ^ m) (kq k q)):k.natAbs<=2 ^ m:=by
 obtain⟨h1,h2,h3,h4⟩:=h
 have key:∀t:Int,t≠0->(k*t).natAbs<=2 ^ m->k.natAbs<=2 ^ m:=fun t t0 ht=>by
  rw[Rk]at ht
  exact QD (Nat.le_mul_of_pos_right _ (by omega)) ht
 by_cases q1:q.1=0
 ·by_cases q2:q.2.1=0
  ·by_cases q3:q.2.2.1=0
   ·exact key _ (fun q4=>hq ⟨q1,q2,q3,q4⟩) h4
   ·exact key _ q3 h3
  ·exact key _ q2 h2
 ·exact key _ q1 h1
theorem Gz(hm:m<=999)(h:Gs (2 ^ m) (kq k q)):okT (([k*q.1,k*q.2.1,k*q.2.2.1,k*q.2.2.2]:List Int).map D.int):=vq (m:=m) hm (by
 obtain⟨h1,h2,h3,h4⟩:=h
 intro t ht
 simp only[QA,QI,Q1]at ht
 rcases ht with rfl|rfl|rfl|rfl
 ·exact h1
 ·exact h2
 ·exact h3
 ·exact h4)
end K
namespace Sp
open PySem PySem.Spec PyProof.Rows L2
variable{P:Program}{w:World}{H H' H0:Hp}{base h:Heap}{a b g n qual x:Str}{o:Obj}{X:Cx}{C S f z:Addr}{mc:Value}{p p0 p1 p2 p3 pos:Pos}{es:List Expr}{t:TA}{cd:ClassData}{e:Expr}{k kd:Nat}{K:W.Frag}{mg:Str->Option Value}{st:Stmt}{fd:FuncData}{pins:List (Addr×Obj)}{σ:L2.St}{s:Shared}{ps:List Str}{Q:Flow->Shared->Prop}{sp:L2.Sp}{E:XK}{ρ:ag}{ow:Ow}{Φ:Fx}{sc:Scope}{fs:List (Str×Fv)}{G:List D->Option Xs}{ds:List D}{Ψ:Str->Option (List D->Option Xs)}{Ex:Str->Option (Str×Option Str)}{l:List (Str×Str×Option Str)}
abbrev gB(x:Addr)(o:Obj):HO:=.ext (fun h=>h.get? x=some o)
theorem sG{x:Addr}(e:h.get? x=some o):bG P w H h x (gB x o):=⟨e,⟨o,e⟩,fun h1 h2 a b=>b _ a⟩
theorem sH{x:Addr}(e:bG P w H h x (gB x o)):h.get? x=some o:=e.1
theorem zD{apos:Pos}{e1:Expr}(hg:Gl X b)(hm:X.mg b=some (.ref S))(hga:W.specialIn X.K (.ref S) "__getattribute__" = some (some (.builtin "type.__getattribute__")))
  (hrd:W.readsIn X.K S mc=true) (hfc:W.findCls X.K (.ref S) mc "__init__" = some (.val (.builtin "ValueError.__init__"))) (hex:iW X.K C S=true) (ha:PA X (e1::es) t)
  (hst:starEach (e1::es) X.env=(false,eval e1 X.env)::starEach es X.env) (hpl:(backTo pos (starEach es X.env)).any (·.1)=false) (hdb:(b==("__debug__" : Str))=false)
  (ht:eval (.Call (.Attribute (.Name b p) "__init__" apos) (e1::es) [] pos) X.env=(do
   let ov <- eval (.Name b p) X.env
   standAt apos.atName
   let (f,first) <- holding [ov] (getMethod ov "__init__" (do return (<- importBound (.Name b p) X.env).getD true))
   callWith pos f first (backTo pos (starEach (e1::es) X.env)) (backToKw pos (keywordEach [] X.env)))) :
  PE X (.Call (.Attribute (.Name b p) "__init__" apos) (e1::es) [] pos) (fun σ H Q=>t σ H fun vs H1 => ∃x y o vv t0,vs=[.ref x,y]/\H1 x=some (gB x o)/\o.cls=.ref C/\o.data=.fields vv/\vv[0]?=some (.ref t0)/\∀t1,Q .non (aG H1 x (gB x { o with data:=.fields (vv.setIfInBounds 0 (.ref t1)) }))):=by
 intro pins s σ H Q I h
 obtain⟨nm,qn,N,bs,hdct,sn,sub,ab,col,dd,k0,k1,k2,k3,k5,mN,g1,g2,g3,g4⟩:=fA hex I.ok.mod.kin
 refine W.methodCall_KW (pl:=(do return (<- importBound (.Name b p) X.env).getD true)) (cH I hg hm ?_ hdb) ht
 refine W.method_cls I.kIn hga (W.cls_value I.kIn hrd hfc rfl ?_)
 have I':=I.tok (s.toks+1)
 refine PyProof.Rows.callWith_builtin1 (aN (ha pos pins _ σ H _ I' h) fun us s2 ⟨vs,H2,I2,r,q2⟩=>?_) hst hpl
 obtain⟨x,y,o,vv,t0,rfl,hx,hc,hd,h0,q⟩:=q2
 have e0:=sH (I2.hok x _ hx)
 cases r with
 | cons r1 r =>
  cases r with
  | cons r2 r =>
   cases r
   cases r1
   refine wa PySem.F.excBase_ValueError ((OwnTailQ.tail g4).keeps I2.bk) (Code.quiet_builtin _ (by decide +kernel)) (I2.bk _ _ g1) e0 hc hd h0 (fun h' w1 w2=>?_)
   exact⟨.non,_,I2.write (x:=x) (e:=x) (by rw[hx];exact True.intro) (.inl rfl) w1 ⟨_,w2⟩ (sG w2),rfl,q _⟩
theorem CV{o value:Expr}{ta tv:TE}{f:Str}{pos':Pos}(hcd:W.clsIn X.K C=some cd)(hmro:cd.mro=.ref C :: .ref S::fG)(hdd:cd.hasDict=true)(hsa:W.findIn X.K (.ref C) "__setattr__" = some (some (.builtin "object.__setattr__")))(hff:W.findIn X.K (.ref C) f=some none)
  (ha:PE X o ta) (hv:PE X value tv) (hs:swapsWith value (some (.Attribute o f pos')) pos.line X.env=pure false):PS X (.Assign [.Attribute o f pos'] value pos) (fun D σ H=>tv σ H fun y H1=>ta σ H1 fun x H2 => ∃a ob vv,x=.ref a/\H2 a=some (gB a ob)/\ob.cls=.ref C/\ob.data=.fields vv/\ob.dict=none/\∀dx,H2 dx=none->D.nx σ (aG (aG H2 a (gB a { ob with dict:=some dx })) dx (.xd [(f,y)]))):=by
 intro pins s σ H D I h
 refine plainObj_wpAny_Assign_Attribute (aN (hv pins s σ H _ I h) fun u s1 ⟨y,H1,I1,ry,q⟩=>aN (ha pins s1 σ H1 _ I1 q) fun ov s2 ⟨x,H2,I2,rx,a,ob,vv,ex,ea,c1,c2,c3,q2⟩=>?_) hs
 subst ex
 obtain rfl:ov=Value.ref a:=rx
 have e0:=sH (I2.hok a _ ea)
 refine DT I2.kIn e0 c1 c2 c3 hcd hmro hdd hsa hff (fun h' dx w1 w2 w3 w4=>?_)
 have n1:H2 dx=none:=I2.hok.fresh w1
 have hne:a≠dx:=fun z=>by subst z;rw[n1]at ea;cases ea
 have up:(s2.heap.update a fun _ => { ob with dict:=some dx }).get? a=some { ob with dict:=some dx }:=Ru _ e0 (by show Obj.isFreed _=false;unfold Obj.isFreed;rw[c2])
 have J1:al X pins σ (aG H2 a (gB a { ob with dict:=some dx })) { s2 with heap:=s2.heap.update a fun _ => { ob with dict:=some dx },toks:=s2.toks }:=I2.write (x:=a) (e:=a) (by rw[ea];exact True.intro) (.inl rfl) (fun b u hb e=>(QQ _ _ hb.symm).trans e) ⟨_,up⟩ (sG up)
 have J2:=J1.laid (a:=dx) (o:=.xd [(f,y)]) (h':=h') (t':=s2.toks+2) (fun b u e=>by
  by_cases hb:b=a
  ·subst hb
   have:some { ob with dict:=some dx }=some u:=up.symm.trans e
   rw[w3,this]
  ·exact w2 b u hb ((QQ _ _ (RB hb)).symm.trans e)) (by show(s2.heap.update a _).objs.size<=dx;rw[Heap.size_update];exact w1) ⟨_,w4,fun g=>by
   by_cases hg:g=f
   ·subst hg;simp[QO];exact ry
   ·rw[if_neg hg,QO,show(g==f)=false from by simpa using hg];exact True.intro⟩
 exact⟨σ,_,J2,q2 dx n1⟩
def Bz(q:Fv):List Str:=reprText q.1::q.2.map fun i=>Str.ofString (toString i)
def tK(q:Fv):Prop:=(reprText q.1).length<=1000/\(∀i∈q.2,i.natAbs.log2<1920)/\(tupleText (Bz q)).length<=1000
theorem rB{prog:Program}{w:World}:∀{ns:List Int} {us:List Value},aL (ns.map V.int) us->(∀i∈ns,i.natAbs.log2<1920)->ReprAll prog w us (ns.map fun i=>Str.ofString (toString i))
 | [],us,h,_=>by cases h;exact .nil
 | n::ns,us,h,hb=>by
  cases h with
  | cons h1 h2 =>
   obtain⟨t,rfl⟩:=h1
   exact .cons (ReprIs.int t (hb n QE)) (rB h2 fun i hi=>hb i (QB _ hi))
theorem FV{te:TE}(he:PE X e te)(ha:a.length<=200)(hg:X.A.guards=some [])(hu:X.A.units<cLine):PE X (.JoinedStr [.Constant (.str a) kd p0,.FormattedValue e 114 none p1] p3) (fun σ H Q=>te σ H fun v H1 => ∃(t:Addr) (q:Fv),v=.ref t/\bT X.K H1 t (qj q)/\tK q/\∀y,Q (.str y) H1):=by
 intro pins s σ H Q I h
 have hz:(2200:Nat)<=sizeLine:=by rw[RV];decide
 refine wpAny_JoinedStr ?_
 show wpAny _ _ (eval (.Constant (.str a) kd p0) X.env) (fun v s₁ => ∃y t',v=Value.str y t'/\(Str.empty++y).length<=sizeLine/\wpAny _ _ (eval (.FormattedValue e 114 none p1) X.env) (fun v s₂ => ∃z t'',v=Value.str z t''/\(Str.empty++y++z).length<=sizeLine/\_) _ s₁) _ s
 refine wpAny_Constant_str ⟨_,_,rfl,?_,?_⟩
 ·rw[Rm];omega
 rw[arm_eval_FormattedValue]
 refine Qx (aN (he pins _ σ H _ (I.tok _) h) fun u s1 ⟨v,H1,I1,r1,t,qv,e1,hsq,hok,q⟩=>?_)
 subst e1
 cases (show u=Value.ref t from r1)
 obtain⟨its,rv,⟨⟨c0,dd,data,sl⟩,g1,g2,n0,g3⟩,_⟩:=I1.tuple hsq
 simp only at g2 g3
 subst g2 g3
 obtain⟨o1,o2,o3⟩:=hok
 unfold qj at rv
 have hT:ReprAll X.prog X.w its (Bz qv):=by
  cases rv with
  | cons h1 h2 =>
   obtain⟨tk,rfl⟩:=h1
   exact .cons (ReprIs.str qv.1 tk (by omega)) (rB h2 o2)
 refine Qx (R7 ?_)
 refine Qx (Q7 ?_)
 show wpAny _ _ (pyReprObj (Value.ref t)) _ _ _
 refine wpAny_pyReprObj_tuple (g:=[]) ⟨_,g1,rfl⟩ hg (fun c hc=>by cases hc) hu g1 rfl (ts:=Bz qv) (by simpa using hT) (fun u' tk'=>?_) (by omega)
 show wpAny _ _ (formatField (Value.str (tupleText (Bz qv)) u') Str.empty) _ _ _
 refine PyProof.Rows.formatField_str (fun t' tk'=>⟨_,_,rfl,?_,?_⟩) (by omega)
 ·rw[Rm,RH];omega
 ·refine⟨?_,.str _,H1,(I1.tok _).tok _,⟨_,rfl⟩,q _⟩
  rw[Rm,RH];omega
def rc(K:W.Frag)(C:Addr)(f:Str):Sp:=fun vs H Q _ => ∃x i qv o vv t0,vs=[.ref x,.ref i]/\(bT K H i (qj qv)/\tK qv)/\H x=some (gB x o)/\o.cls=.ref C/\o.data=.fields vv/\o.dict=none/\vv[0]?=some (.ref t0) /\
 ∀t1 dx,H dx=none->Q .non (aG (aG H x (gB x ⟨o.cls,some dx,.fields (vv.setIfInBounds 0 (.ref t1)),o.slots⟩)) dx (.xd [(f,.ref i)]))
theorem yV{S0:Addr}(Fn:fX K g qual st f fd){s0 a1 fl:Str}{p5 p6 p7 p8 p9 p10 q1 q2 q3 q4:Pos}
  (hN:aq (ae st)=[s0,a1]) (S:aM (aq (ae st)) [s0,a1] (ae st)) (hv:∀x∈[s0,a1],fb (ae st) x) (hok:∀x∈[s0,a1],cQ x=true)
  (hgb:(ae st).names.lookup b=some .globalImplicit) (hm:mg b=some (.ref S0)) (hga:W.specialIn K (.ref S0) "__getattribute__" = some (some (.builtin "type.__getattribute__"))) (hrd:W.readsIn K S0 mc=true) (hfc:W.findCls K (.ref S0) mc "__init__" = some (.val (.builtin "ValueError.__init__"))) (hex:iW K C S0=true)
  (hcd:W.clsIn K C=some cd) (hmro:cd.mro=.ref C :: .ref S0::fG) (hdd:cd.hasDict=true) (hsa:W.findIn K (.ref C) "__setattr__" = some (some (.builtin "object.__setattr__"))) (hff:W.findIn K (.ref C) fl=some none)
  (hb:am st=[.Expr (.Call (.Attribute (.Name b p1) "__init__" p2) [.Name s0 p3,.JoinedStr [.Constant (.str a) kd p5,.FormattedValue (.Name a1 p6) 114 none p7] p8] [] p9) p10,.Assign [.Attribute (.Name s0 q1) fl q2] (.Name a1 q3) q4]) (ha:a.length<=200) (hln:(p2.endLine==p9.line)=true) (hdb:(b==("__debug__" : Str))=false) :
  br P w K mg base cz 1 f fd [s0,a1] (rc K C fl):=by
 refine Fn.ok (k:=0) S (fun vs H Q E h=>?_) (fun cdv A outer s H vs Q E hr h=>?_)
 ·obtain⟨x,i,qv,o,vv,t0,rfl,_⟩:=h
  rfl
 ·obtain⟨x,i,qv,o,vv,t0,rfl,hi,hx,hc,hd,hdi,h0,q⟩:=h
  have nm:∀(i:Nat) (x:Str) (p:Pos),[s0,a1][i]?=some x->PE (cn cz P w K mg base (aq (ae st)) qual (ae st) f cdv A outer s H E).nox (.Name x p) (gH i):=fun i x p hi =>
   dO (by show(aq (ae st))[i]?=some x;rw[hN];exact hi) (hv x (Q9 hi)) (bU (hok x (Q9 hi))).1 (bU (hok x (Q9 hi))).2
  have ns:∀e∈[Expr.Name s0 p3,.JoinedStr [.Constant (.str a) kd p5,.FormattedValue (.Name a1 p6) 114 none p7] p8],∀y p,e≠Expr.Starred y p:=fun e he=>by
   simp only[QA,QI,Q1]at he
   rcases he with rfl|rfl<;>(intro y p z;cases z)
  rw[hb]
  refine⟨_,dS (gZ (zD (C:=C) hgb hm hga hrd hfc hex (dC (nm 0 s0 p3 rfl) (dC (FV (nm 1 a1 p6 rfl) ha hr.gd hr.units0) ke (aA fun _ _ z=>by cases z)) (aA fun _ _ z=>by cases z)) (aA fun _ _ z=>by cases z) (be fun e he=>ns e (QB _ he)) hdb (qG (eS rfl) (nh ns (Q3 rfl)) hln)) rfl) (kP (CV hcd hmro hdd hsa hff (nm 0 s0 q1 rfl) (nm 1 a1 q3 rfl) rfl)),?_⟩
  rw[hN]
  refine⟨.ref x,rfl,.ref i,rfl,i,qv,rfl,hi.1,hi.2,fun y=>⟨x,.str y,o,vv,t0,rfl,hx,hc,hd,h0,fun t1=>?_⟩⟩
  refine⟨.ref i,rfl,.ref x,rfl,x,_,_,rfl,aD,hc,rfl,hdi,fun dx hdx=>?_⟩
  rw[i9]
  have hne:dx≠x:=fun z=>by subst z;rw[aD]at hdx;cases hdx
  exact q t1 dx (by rw[ax hne]at hdx;exact hdx)
def hide(H:Hp)(z:Addr):Hp:=fun a=>if a=z then none else H a
theorem Un.hide{fs ex:List Addr}{h1 h2:Heap}{o:HO}(u:Un fs ex (aG H z o) H' h1 h2)(k:∀b q,h.get? b=some q->h1.get? b=some q)(hz:h.get? z=none)(nz:H z=none):Un fs ex H (Sp.hide H' z) h h2:=by
 have ne:∀b q,h.get? b=some q->b≠z:=fun b q e y=>by subst y;rw[hz]at e;cases e
 have up:∀b q,h.get? b=some q->H b=none->aG H z o b=none:=fun b q e n=>(ax (ne b q e)).trans n
 have nt:∀b q,H b=some q->b≠z:=fun b q e y=>by subst y;rw[nz]at e;cases e
 refine⟨fun b q e n hf hx=>u.keep b q (k b q e) (up b q e n) hf hx,fun b q e n hf hx=>u.slot b q (k b q e) (up b q e n) hf hx,fun b q e n hx=>?_,fun b q e hx=>u.there b q (k b q e) hx,fun b xs e=>?_,fun b q v e=>?_,fun b ps e=>?_⟩
 ·show(if b=z then none else H' b)=none
  rw[if_neg (ne b q e)];exact u.free b q (k b q e) (up b q e n) hx
 ·show(if b=z then none else H' b)=_
  rw[if_neg (nt b _ e)];exact u.tups b xs ((ax (nt b _ e)).trans e)
 ·show(if b=z then none else H' b)=_
  rw[if_neg (nt b _ e)];exact u.frzs b q v ((ax (nt b _ e)).trans e)
 ·show ∃more,(if b=z then none else H' b)=_
  rw[if_neg (nt b _ e)];exact u.tbls b ps ((ax (nt b _ e)).trans e)
theorem cD.hide{φ:Heap->Prop}(ok:cD P w H h)(hz:H z=some (.ext φ)):cD P w (Sp.hide H z) h:=fun b o e=>by
 have hb:b≠z:=fun y=>by subst y;unfold Sp.hide at e;rw[if_pos rfl]at e;cases e
 have e':H b=some o:=by unfold Sp.hide at e;rw[if_neg hb]at e;exact e
 have st:∀a q,H a=some q->(∀φ,q ≠ .ext φ)->Sp.hide H z a=some q:=fun a q ea hq=>by
  unfold Sp.hide
  rw[if_neg (fun y=>by subst y;rw[hz]at ea;cases ea;exact hq _ rfl)];exact ea
 exact(ok b o e').stay (fun c v _ q=>q) (fun x q=>st _ _ q (fun _ y=>by cases y)) (fun a xs q=>st _ _ q (fun _ y=>by cases y))
theorem xp{f:Str}{fI:Addr}{oI:Obj}{np cpos:Pos}(I:al X pins σ H s)(hc:X.calm=true)(hg:Gl X x)(hm:X.mg x=some (.ref C))(hx:fW X.K C S)(hin:fj X.K C=some (.ref fI))
  (hfo:X.K.lookup fI=some oI) (hfc:oI.cls=.type "function") (hkC:W.keepIn X.K (.ref C)=true) (F:br X.prog X.w X.K X.mg X.base cz k fI fd ps (rc X.K C f)) (hr:bC (k+1) X.A) (hb:bH X.K fd ps []) (hdb:(x==("__debug__" : Str))=false)
  (ha:PA X [e] t) (he:starEach [e] X.env=(false,eval e X.env)::starEach [] X.env)
  (h:t σ H fun vs H1 => ∃(i:Addr) (qv:Fv),vs=[.ref i]/\(bT X.K H1 i (qj qv)/\tK qv)/\∀s1 z dx o vv a0,al X pins σ (aG H1 dx (.xd [(f,.ref i)])) s1->H1 dx=none->s1.heap.get? z=some o->o.cls=.ref C->o.dict=some dx->o.data=.fields vv->1<vv.size->vv[0]?=some a0->vv[1]?=some .none->(aG H1 dx (.xd [(f,.ref i)])) z=none->X.s₀.heap.get? z=none->X.xe (.ref z) s1) :
  wpAny (model X.prog X.w) X.A (exec (.Raise (some (.Call (.Name x np) [e] [] cpos)) none pos) X.env) Q X.xe s:=by
 obtain⟨nm,qn,N,bs,hdct,sn,sub,ab,col,dd,k0,k1,k2,k3,k5,mN,g1,g2,g3,g4⟩:=fA hx.ex I.ok.mod.kin
 rw[arm_exec_Raise]
 refine Qx (R7 ?_)
 refine vp (x:=(do let v <- eval (.Call (.Name x np) [e] [] cpos) X.env;standAt pos;pure v)) (C:=C) (nm:=nm) (q:=qn) (N:=N) (bs:=bs) (bm:=.ref S::fG) (hdct:=hdct) (sn:=sn) (sub:=sub) (ab:=ab) (col:=col) (dd:=dd) (k0:=k0) (k1:=k1) (k2:=k2) (k3:=k3) (k5:=k5) (newId := "ValueError.__new__") (yE S) (I.ok.hd hc) ?_
 refine Qx (wpAny_Call_ofName (cH I hg hm ?_ hdb))
 refine Se (h₀:=X.base) I.ok.mod.kin hkC (aN (ha cpos pins s σ H _ I h) fun us s1 ⟨vs,H1,I1,r,i,qv,ev,hi,q⟩=>⟨I1.kIn,?_⟩) he rfl
 subst ev
 cases r with
 | cons r1 r =>
 rename_i u0 us0
 cases r
 obtain rfl:=(show _=Value.ref i from r1)
 obtain⟨hh,gg,d0,tt,oo⟩:=s1
 have gN:hh.Ns N mN:=by obtain⟨o,es,ep,e1,e2⟩:=g2;exact⟨o,es,ep,I1.bk _ _ e1,e2⟩
 refine v9 PySem.F.excBase_ValueError ((OwnTailQ.tail g4).keeps I1.bk) (I1.bk _ _ g1) gN (g3.trans hin) (I1.kIn _ _ hfo) hfc (fun h' z hz m=>?_) (by rw[RV];exact Q3 rfl)
 obtain⟨t0,w1,w2,w3⟩:=m.there
 have n1:H1 z=none:=I1.hok.fresh hz
 have I2:al X pins σ (aG H1 z (gB z _)) ⟨h',gg,d0,tt,oo⟩:=I1.laid (a:=z) (h':=h') (t':=tt) m.keeps hz (sG w1)
 have hsp:rc X.K C f [.ref z,.ref i] (aG H1 z (gB z { cls:=.ref C,data:=.fields #[.ref t0,.none,.none,.none,.bool false,.none] })) (fun v H'=>v=.non/\∃t1 dx,(aG H1 z (gB z { cls:=.ref C,data:=.fields #[.ref t0,.none,.none,.none,.bool false,.none] })) dx=none/\H'=aG (aG (aG H1 z (gB z { cls:=.ref C,data:=.fields #[.ref t0,.none,.none,.none,.bool false,.none] })) z (gB z ⟨.ref C,some dx,.fields (#[.ref t0,.none,.none,.none,.bool false,.none].setIfInBounds 0 (.ref t1)),#[]⟩)) dx (.xd [(f,.ref i)])) (fun _ _ _=>False) :=
  ⟨z,i,qv,_,_,t0,rfl,⟨mE (bR n1) hi.1,hi.2⟩,aD,rfl,rfl,rfl,rfl,fun t1 dx hdx=>⟨rfl,t1,dx,hdx,rfl⟩⟩
 have r2:aL [.ref z,.ref i] [.ref z,.ref i]:=.cons rfl (.cons rfl .nil)
 have hl:([Value.ref z,.ref i]++[]).length=ps.length:=F.len _ _ _ _ hsp
 refine Sd (Sm (F.run (X.A.under (.builtin "type.__call__" ⟨.ref C::([]++[.ref i]),[]⟩)) X.stack ⟨h',gg,d0,tt,oo⟩ _ ⟨[.ref z,.ref i],[]⟩ [.ref z,.ref i] [.ref z,.ref i] _ _ (hr.make C _ []) (I2.env0.make C _ []) (by have:=hb ⟨h',gg,d0,tt,oo⟩ [.ref z,.ref i] I2.kIn hl;rw[Rl]at this;exact this) r2 hsp) fun r s' hq=>?_)
 cases r with
 | error e=>exact gQ pins σ _ _ e s' I2 hq
 | ok fl =>
  cases fl with
  | next=>exact False.elim hq
  | brk=>exact False.elim hq
  | cont=>exact False.elim hq
  | ret u =>
   obtain⟨v,H',os',bare,un,hok,ru,rfl,t1,dx,hdx,rfl⟩:=hq
   have hne:dx≠z:=fun y=>by subst y;rw[aD]at hdx;cases hdx
   rw[ax hne]at hdx
   rw[i9]at un hok
   have hzn:hh.get? z=none:=Si hz
   have un2:=Un.hide un m.keeps hzn n1
   have ez:(aG (aG H1 z (gB z ⟨.ref C,some dx,.fields (#[.ref t0,.none,.none,.none,.bool false,.none].setIfInBounds 0 (.ref t1)),#[]⟩)) dx (.xd [(f,.ref i)])) z=some (gB z ⟨.ref C,some dx,.fields (#[.ref t0,.none,.none,.none,.bool false,.none].setIfInBounds 0 (.ref t1)),#[]⟩):=by rw[ax hne.symm];exact aD
   have hok2:=cD.hide hok ez
   have oz:=sH (hok z _ ez)
   have eH:Sp.hide (aG (aG H1 z (gB z ⟨.ref C,some dx,.fields (#[.ref t0,.none,.none,.none,.bool false,.none].setIfInBounds 0 (.ref t1)),#[]⟩)) dx (.xd [(f,.ref i)])) z=aG H1 dx (.xd [(f,.ref i)]):=by
    funext a
    unfold Sp.hide
    by_cases ha:a=z
    ·subst ha;rw[if_pos rfl,ax hne.symm,n1]
    ·rw[if_neg ha]
     by_cases hb:a=dx
     ·subst hb;rw[aD,aD]
     ·rw[ax hb,ax hb,ax ha]
   rw[eH]at un2 hok2
   obtain⟨hh',g',d',t',o'⟩:=s'
   obtain rfl:o'=oo:=os'
   have I3:=I1.call (h':=hh') (g':=g') (d':=d') (t':=t') (ch:=[]) un2 hok2 bare (fun b z=>absurd z (by simp))
   have ru:u=Value.none:=ru
   refine⟨ru,Qx (R7 (Qz ⟨z,_,_,rfl,I3.bk _ _ g1,oz,rfl,rfl,by simp,q _ z dx _ _ _ I3 hdx oz rfl rfl rfl (by simp) (by simp;rfl) (by simp) (by rw[ax hne.symm];exact n1) (Si (QD I1.sz hz))⟩))⟩
theorem _root_.L2.PA.nox(h:PA X.nox es t):PA X es t:=fun pos pins s σ H Q I hw =>
 Rq (h pos pins s σ H Q (I.wish _) hw) (fun _ _ ⟨v,H',I',r,q⟩=>⟨v,H',I'.unwish,r,q⟩) fun _ _ z=>False.elim z
theorem _root_.L2.PS.nox{t:TS}(h:PS X.nox st t):PS X st t:=fun pins s σ H D I hw =>
 Rq (h pins s σ H D (I.wish _) hw) (fun _ _ q=>q.unwish) fun _ _ z=>False.elim z
theorem Eh{Q:Value->Shared->Prop}(F:br X.prog X.w X.K X.mg X.base (cq X.prog X.w) k f fd ps sp)(hr:bC k X.A)(hg:Gl X x)(hm:X.mg x=some (.ref f))(hk:W.keepIn X.K (.ref f)=true)(hb:bH X.K fd ps [])
  (I:al X pins σ H s) (hx:∀H1 s1 e s',al X pins σ H1 s1->cq X.prog X.w X.stack H1 s1 E e s'->X.xe e s')
  (ha:PA X (e::es) t) (hdb:(x==("__debug__" : Str))=false) (he:starEach (e::es) X.env=(false,eval e X.env)::starEach es X.env) (hpl:(backTo pos (starEach es X.env)).any (·.1)=false)
  (h:t σ H fun vs H1=>sp vs H1 (fun _ _=>False) E):wpAny (model X.prog X.w) X.A (eval (.Call (.Name x p) (e::es) [] pos) X.env) Q X.xe s:=by
 refine Rb (cH I hg hm ?_ hdb)
 refine Se (h₀:=X.base) I.ok.mod.kin hk (aN (ha pos pins s σ H _ I h) fun us s1 ⟨vs,H1,I1,r,q⟩=>⟨I1.kIn,?_⟩) he hpl
 have hl:us.length=ps.length:=by rw[<- r.length];exact F.len _ _ _ _ q
 refine Sd (Sm (F.run X.A X.stack s1 H1 ⟨us,[]⟩ us vs _ E hr I1.env0 (by have:=hb s1 us I1.kIn (by rw[Rl];exact hl);rw[Rl]at this;exact this) r q) fun r s' hq=>?_)
 cases r with
 | error e=>exact hx H1 s1 e s' I1 hq
 | ok fl =>
  cases fl with
  | ret u=>obtain⟨_,_,_,_,_,_,_,z⟩:=hq;exact z.elim
  | next=>exact False.elim hq
  | brk=>exact False.elim hq
  | cont=>exact False.elim hq
theorem Dr{Q:Value->Shared->Prop}(M:Mk X.K C f)(F:br X.prog X.w X.K X.mg X.base (cq X.prog X.w) k f fd ps sp)(hr:bC (k+1) X.A)(hg:Gl X x)(hm:X.mg x=some (.ref C))(hb:bH X.K fd ps [])
  (I:al X pins σ H s) (hx:∀H1 s1 e s',al X pins σ H1 s1->cq X.prog X.w X.stack H1 s1 E e s'->X.xe e s')
  (ha:PA X (e::es) t) (hdb:(x==("__debug__" : Str))=false) (he:starEach (e::es) X.env=(false,eval e X.env)::starEach es X.env) (hpl:(backTo pos (starEach es X.env)).any (·.1)=false)
  (h:t σ H fun vs H1 => ∀x dx,H1 x=none->H1 dx=none->dx≠x->sp (.ref x::vs) (aG (aG H1 dx (.own x)) x (.ins C dx [])) (fun _ _=>False) E):wpAny (model X.prog X.w) X.A (eval (.Call (.Name x p) (e::es) [] pos) X.env) Q X.xe s:=by
 refine Rb (cH I hg hm ?_ hdb)
 refine Se (h₀:=X.base) I.ok.mod.kin M.kp (aN (ha pos pins s σ H _ I h) fun us s1 ⟨vs,H1,I1,r,q⟩=>⟨I1.kIn,?_⟩) he hpl
 have hq:=q (s1.heap.objs.size+1) s1.heap.objs.size (I1.hok.fresh (Nat.le_succ _)) (I1.hok.fresh (QF _)) (QT (Q5 _))
 have I2:=al.made (C:=C) I1
 have r2:aL (V.ref (s1.heap.objs.size+1)::vs) (Value.ref (s1.heap.objs.size+1)::us):=.cons rfl r
 have hl:(Value.ref (s1.heap.objs.size+1)::us++[]).length=ps.length:=by
  have e:=r2.length
  rw[F.len _ _ _ _ hq]at e
  rw[Rl]
  exact e.symm
 refine Sd (rV (f:=f) I1.kIn M.makes M.init (Sq.mp M.fn) (Sm (F.run _ X.stack _ _ ⟨Value.ref (s1.heap.objs.size+1)::us,[]⟩ (Value.ref (s1.heap.objs.size+1)::us) _ _ E (hr.make C us [])
  (I2.env0.make C us []) (by have:=hb _ (Value.ref (s1.heap.objs.size+1)::us) I2.kIn hl;rw[Rl]at this;exact this) r2 hq) fun r s' hq'=>?_))
 cases r with
 | error e=>exact hx _ _ e s' I2 hq'
 | ok fl =>
  cases fl with
  | ret u=>obtain⟨_,_,_,_,_,_,_,z⟩:=hq';exact z.elim
  | next=>exact False.elim hq'
  | brk=>exact False.elim hq'
  | cont=>exact False.elim hq'
def re(K:W.Frag)(G:List D->Option Xs):L2.Sp:=fun vs H _ E => ∃ds n p fs C S,ah K H (fun _ _=>True) ds vs/\G ds=some (n,p,fs)/\W.nsIn K mainGlobals n=some (some (.ref C))/\W.nsIn K mainGlobals p=some (some (.ref S))/\fW K C S/\∀od H',av H H'->ni K H' od fs->E (.ref C) od H'
def u5(K:W.Frag)(H0:Hp)(C:Addr)(fs:List (Str×Fv)):XK:=fun c od H'=>c=.ref C/\av H0 H'/\ni K H' od fs
def rj(g:Str)(G:List D->Option Xs):List D->Option Xs:=fun ds=>match ds with
 | .obj n [] []::l=>if n=g then G l else none
 | _=>none
def Qe(X:Cx)(g:Str)(G:List D->Option Xs):Prop:=∃k f fd ps,br X.prog X.w X.K X.mg X.base (cq X.prog X.w) k f fd ps (re X.K G)/\bC k X.A/\X.mg g=some (.ref f)/\W.keepIn X.K (.ref f)=true/\bH X.K fd ps []/\(g==("__debug__" : Str))=false
def P9(X:Cx)(g:Str)(G:List D->Option Xs):Prop:=∃k C f fd ps,Mk X.K C f/\br X.prog X.w X.K X.mg X.base (cq X.prog X.w) k f fd ps (re X.K (rj g G))/\bC (k+1) X.A/\X.mg g=some (.ref C)/\W.nsIn X.K mainGlobals g=some (some (.ref C))/\eJ X.K C/\bH X.K fd ps []/\(g==("__debug__" : Str))=false
def kI(X:Cx)(g:Str)(G:List D->Option Xs):Prop:=Qe X g G\/P9 X g G
theorem FT{t:Str}(he:ED X ρ e (.str x) k)(hx:(reprText x).length<=1000)(ht:t.length<=64):ED X ρ (.JoinedStr [.FormattedValue e 114 none p1,.Constant (.str t) kd p2] p3) (.str (reprText x++t)) 0:=by
 intro ow pins s σ H Q I ⟨E,q⟩
 have hz:(1064:Nat)<=sizeLine:=by rw[RV];decide
 have hx':(reprText x).length<=sizeLine:=by omega
 refine wpAny_JoinedStr ?_
 show wpAny _ _ (eval (.FormattedValue e 114 none p1) X.env) (fun v s₁ => ∃y t',v=Value.str y t'/\(Str.empty++y).length<=sizeLine/\wpAny _ _ (eval (.Constant (.str t) kd p2) X.env) (fun v s₂ => ∃z t'',v=Value.str z t''/\(Str.empty++y++z).length<=sizeLine/\_) _ s₁) _ s
 rw[arm_eval_FormattedValue]
 refine Qx (aN (he ow pins s σ H (fun v H'=>v=.str x/\av H H') I ⟨E,fun v H' s' r=>⟨by rw[aj]at r;exact r,s'⟩⟩) fun u s1 ⟨v,H1,I1,r1,e1,s1'⟩=>?_)
 subst e1
 obtain⟨tk,rfl⟩:=r1
 refine Qx (R7 ?_)
 refine Qx (Q7 ?_)
 show wpAny _ _ (pyReprObj (Value.str x tk)) _ _ _
 refine wpAny_pyReprObj_str ?_ hx'
 show wpAny _ _ (formatField (Value.str (reprText x) s1.toks) Str.empty) _ _ _
 refine PyProof.Rows.formatField_str (fun t' tk'=>⟨_,_,rfl,?_,?_⟩) hx'
 ·rw[Rm];exact hx'
 ·refine wpAny_Constant_str ⟨_,_,rfl,?_,?_⟩
  ·rw[Rm,RH];omega
  ·refine⟨?_,.str _,H1,((I1.tok _).tok _).tok _,⟨_,rfl⟩,q _ _ s1' (by rw[aj,Rm])⟩
   rw[Rm,RH];omega
theorem FU{i:Int}{t:Str}{kd0:Nat}(he:ED X ρ e (.int i) k)(hi:i.natAbs<2 ^ 1900)(ha:a.length<=200)(ht:t.length<=64):ED X ρ (.JoinedStr [.Constant (.str a) kd0 p0,.FormattedValue e (-1) none p1,.Constant (.str t) kd p2] p3) (.str (a++Str.ofString (toString i)++t)) 0:=by
 intro ow pins s σ H Q I ⟨E,q⟩
 have hl:i.natAbs.log2<1920:=by
  rcases R0 i.natAbs with z|z
  ·rw[z];decide
  ·exact QG ((Nat.log2_lt (RL z)).mpr hi) (by decide)
 have tl:=int_text_len_1921 hl
 have hz:(2200:Nat)<=sizeLine:=by rw[RV];decide
 refine wpAny_JoinedStr ?_
 show wpAny _ _ (eval (.Constant (.str a) kd0 p0) X.env) (fun v s₁ => ∃y t',v=Value.str y t'/\(Str.empty++y).length<=sizeLine/\wpAny _ _ (eval (.FormattedValue e (-1) none p1) X.env) (fun v s₂ => ∃z t'',v=Value.str z t''/\(Str.empty++y++z).length<=sizeLine/\wpAny _ _ (eval (.Constant (.str t) kd p2) X.env) (fun v s₂ => ∃z' t'',v=Value.str z' t''/\(Str.empty++y++z++z').length<=sizeLine/\_) _ s₂) _ s₁) _ s
 refine wpAny_Constant_str ⟨_,_,rfl,?_,?_⟩
 ·rw[Rm];omega
 refine wpAny_FormattedValue_plain ?_
 refine aN (he ow pins _ σ H (fun v H'=>v=.int i/\av H H') (I.tok _) ⟨E,fun v H' s' r=>⟨by rw[aj]at r;exact r,s'⟩⟩) fun u s1 ⟨v,H1,I1,r1,e1,s1'⟩=>?_
 subst e1
 obtain⟨tk,rfl⟩:=r1
 refine wpAny_formatField_int hl ⟨_,_,rfl,?_,?_⟩
 ·rw[Rm,RH];omega
 ·refine wpAny_Constant_str ⟨_,_,rfl,?_,?_⟩
  ·rw[Rm,RH,RH];omega
  ·refine⟨?_,.str _,H1,(I1.tok _).tok _ |>.tok _,⟨_,rfl⟩,q _ _ s1' (by rw[aj,Rm])⟩
   rw[Rm,RH,RH];omega
inductive Rz(Φ:Fx)(Ψ:Str->Option (List D->Option Xs))(Ex:Str->Option (Str×Option Str))(sc:Scope):List Stmt->ag->Xs->Prop where
 | raise {e:Expr} {d:D} {k:Nat} {x p:Str} {np cpos pos:Pos} {ss:List Stmt} {ρ:ag} (he:af (aC Φ e false sc ρ) (d,k)) (hx:sc.names.lookup x=some .globalImplicit) (hd:(x==("__debug__" : Str))=false) (hp:Ex x=some (p,none)):Rz Φ Ψ Ex sc (.Raise (some (.Call (.Name x np) [e] [] cpos)) none pos::ss) ρ (x,p,[])
 | raiseR {e:Expr} {y t:Str} {k kd:Nat} {x p:Str} {np cpos pos p1 p2 p3:Pos} {ss:List Stmt} {ρ:ag} (he:af (aC Φ e false sc ρ) (.str y,k)) (hy:(reprText y).length<=1000) (ht:t.length<=64) (hx:sc.names.lookup x=some .globalImplicit) (hd:(x==("__debug__" : Str))=false) (hp:Ex x=some (p,none)):Rz Φ Ψ Ex sc (.Raise (some (.Call (.Name x np) [.JoinedStr [.FormattedValue e 114 none p1,.Constant (.str t) kd p2] p3] [] cpos)) none pos::ss) ρ (x,p,[])
 | raiseM {e:Expr} {i:Int} {a t:Str} {k kd0 kd:Nat} {x p:Str} {np cpos pos p0 p1 p2 p3:Pos} {ss:List Stmt} {ρ:ag} (he:af (aC Φ e false sc ρ) (.int i,k)) (hi:i.natAbs<2 ^ 1900) (ha:a.length<=200) (ht:t.length<=64) (hx:sc.names.lookup x=some .globalImplicit) (hd:(x==("__debug__" : Str))=false) (hp:Ex x=some (p,none)):Rz Φ Ψ Ex sc (.Raise (some (.Call (.Name x np) [.JoinedStr [.Constant (.str a) kd0 p0,.FormattedValue e (-1) none p1,.Constant (.str t) kd p2] p3] [] cpos)) none pos::ss) ρ (x,p,[])
 | raiseF {e:Expr} {i:Fv} {k:Nat} {x p f:Str} {np cpos pos:Pos} {ss:List Stmt} {ρ:ag} (he:af (aC Φ e false sc ρ) (iN i,k)) (hi:tK i) (hx:sc.names.lookup x=some .globalImplicit) (hd:(x==("__debug__" : Str))=false) (hp:Ex x=some (p,some f)):Rz Φ Ψ Ex sc (.Raise (some (.Call (.Name x np) [e] [] cpos)) none pos::ss) ρ (x,p,[(f,i)])
 | exp {f:Str} {G:List D->Option Xs} {e:Expr} {es:List Expr} {p q pos:Pos} {ds:List D} {k:Nat} {ss:List Stmt} {ρ:ag} {r:Xs} (ha:af (bK Φ (e::es) sc ρ) (ds,k)) (hf:sc.names.lookup f=some .globalImplicit) (hG:Ψ f=some G) (h:G ds=some r):Rz Φ Ψ Ex sc (.Expr (.Call (.Name f p) (e::es) [] q) pos::ss) ρ r
 | asn {f:Str} {G:List D->Option Xs} {x:Str} {e:Expr} {es:List Expr} {p q pos px:Pos} {ds:List D} {k:Nat} {ss:List Stmt} {ρ:ag} {r:Xs} (ha:af (bK Φ (e::es) sc ρ) (ds,k)) (hf:sc.names.lookup f=some .globalImplicit) (hG:Ψ f=some G) (h:G ds=some r):Rz Φ Ψ Ex sc (.Assign [.Name x px] (.Call (.Name f p) (e::es) [] q) pos::ss) ρ r
 | ast {f:Str} {G:List D->Option Xs} {ts:List Expr} {n:Nat} {e:Expr} {es:List Expr} {p q pos px:Pos} {ds:List D} {k:Nat} {ss:List Stmt} {ρ:ag} {r:Xs} (ha:af (bK Φ (e::es) sc ρ) (ds,k)) (hf:sc.names.lookup f=some .globalImplicit) (hG:Ψ f=some G) (h:G ds=some r):Rz Φ Ψ Ex sc (.Assign [.Tuple ts n px] (.Call (.Name f p) (e::es) [] q) pos::ss) ρ r
 | ret {f:Str} {G:List D->Option Xs} {e:Expr} {es:List Expr} {p q pos:Pos} {ds:List D} {k:Nat} {ss:List Stmt} {ρ:ag} {r:Xs} (ha:af (bK Φ (e::es) sc ρ) (ds,k)) (hf:sc.names.lookup f=some .globalImplicit) (hG:Ψ f=some G) (h:G ds=some r):Rz Φ Ψ Ex sc (.Return (some (.Call (.Name f p) (e::es) [] q)) pos::ss) ρ r
 | iff {c:Expr} {a b ss:List Stmt} {t:Bool} {k:Nat} {pos:Pos} {ρ:ag} {r:Xs} (hc:af (aC Φ c false sc ρ) (.bl t,k)) (h:Rz Φ Ψ Ex sc (cond t a b) ρ r):Rz Φ Ψ Ex sc (.If c a b pos::ss) ρ r
 | step {s:Stmt} {ss:List Stmt} {ρ ρ':ag} {r:Xs} (hs:af (ff Φ s sc ρ) (.nx ρ')) (h:Rz Φ Ψ Ex sc ss ρ' r):Rz Φ Ψ Ex sc (s::ss) ρ r
def uc(X:Cx)(H0:Hp)(ρ:ag):TS:=fun _ σ H => ∃ow,aF X.nox ow H σ ρ/\σ.length=X.N.length/\bQ H0 ow H
theorem bQ.same(b:bQ H0 ow H)(s:av H H'):bQ H0 ow H':=b.keep (bf.same s)
theorem ek{ss:List Stmt}(h:PS X st (uc X H0 ρ)):dP X (st::ss) (uc X H0 ρ):=fun pins s σ H D I q=>dS h gz pins s σ H D I q
theorem fD{p:Str}{f:Str}{fp q:Pos}{Q:Value->Shared->Prop}
  (Gd:aO Φ X.nox sc) (GR:kI X f G) (hcn:W.nsIn X.K mainGlobals n=some (some (.ref C))) (hcp:W.nsIn X.K mainGlobals p=some (some (.ref S))) (hex:fW X.K C S)
  (ha:af (bK Φ (e::es) sc ρ) (ds,k)) (hf:sc.names.lookup f=some .globalImplicit) (h:G ds=some (n,p,fs)) (I:al X pins σ H s) (E:aF X.nox ow H σ ρ) (B:av H0 H)
  (hx:∀H1 s1 e s',al X pins σ H1 s1->cq X.prog X.w X.stack H1 s1 (u5 X.K H0 C fs) e s'->X.xe e s'):wpAny (model X.prog X.w) X.A (eval (.Call (.Name f fp) (e::es) [] q) X.env) Q X.xe s:=by
 rcases GR with GR|GR
 ·obtain⟨k',fa,fd,ps,F,hr,hm,hk,hb,hdb⟩:=GR
  obtain⟨l,ha,hp⟩:=ha
  obtain⟨hst,_⟩:=cf ha hp
  have ad:=fN (e::es) ha hp Gd
  refine Eh F hr (Gd.gl f hf) hm hk hb I hx (ad ow).nox hdb (aA (hst e QE)) (be fun x hx=>hst x (QB _ hx)) ⟨E,fun vs H1 s1 r1=>?_⟩
  exact⟨ds,n,p,fs,C,S,r1.imp fun _ _ _=>True.intro,h,hcn,hcp,hex,fun od H' s' fd=>⟨rfl,(B.trans s1).trans s',fd⟩⟩
 ·obtain⟨k',Cc,fa,fd,ps,hM,F,hr,hm,hns,hc,hb,hdb⟩:=GR
  obtain⟨l,ha,hp⟩:=ha
  obtain⟨hst,_⟩:=cf ha hp
  have ad:=fN (e::es) ha hp Gd
  refine Dr hM F hr (Gd.gl f hf) hm hb I hx (ad ow).nox hdb (aA (hst e QE)) (be fun x hx=>hst x (QB _ hx)) ⟨E,fun vs H1 s1 r1=>?_⟩
  intro x dx hx0 hd0 ne
  exact⟨.obj f [] []::ds,n,p,fs,C,S,ah.cons (by rw[aj];exact⟨rfl,rfl,x,Cc,dx,[],rfl,hns,hc,aD,ah.nil⟩) ((r1.same (gx hx0 hd0)).imp fun _ _ _=>True.intro),(if_pos rfl).trans h,hcn,hcp,hex,fun od H' s' fd=>⟨rfl,((B.trans s1).trans (gx hx0 hd0)).trans s',fd⟩⟩
def KG(X:Cx)(C:Addr)(f:Str):Prop:=∃j fI oI fd ps,fj X.K C=some (.ref fI)/\X.K.lookup fI=some oI/\oI.cls=.type "function" /\ W.keepIn X.K (.ref C)=true/\br X.prog X.w X.K X.mg X.base cz j fI fd ps (rc X.K C f)/\bC (j+1) X.A/\bH X.K fd ps []
theorem Bb{p:Str}(Gd:aO Φ X.nox sc)(GR:∀f G,Ψ f=some G->kI X f G)(hcn:W.nsIn X.K mainGlobals n=some (some (.ref C)))(hcp:W.nsIn X.K mainGlobals p=some (some (.ref S)))(hex:fW X.K C S)(hmn:X.mg n=some (.ref C))(hin:∀p',Ex n=some (p',none)->fj X.K C=none)(hif:∀p' f,Ex n=some (p',some f)->KG X C f)
  (hr:fs=[]->∀pins σ H s h' a us,al X pins σ H s->av H0 H->s.heap.MadeExcOf h' a (.ref C) us->X.xe (.ref a) { s with heap:=h' })
  (hr2:∀f i,fs=[(f,i)]->∀pins σ H1 s1 z dx tt o vv a0,av H0 H1->bT X.K H1 tt (qj i)->al X pins σ (aG H1 dx (.xd [(f,.ref tt)])) s1->H1 dx=none->s1.heap.get? z=some o->o.cls=.ref C->o.dict=some dx->o.data=.fields vv->1<vv.size->vv[0]?=some a0->vv[1]?=some .none->(aG H1 dx (.xd [(f,.ref tt)])) z=none->X.s₀.heap.get? z=none->X.xe (.ref z) s1)
  (hx:∀pins σ H1 s1 e s',al X pins σ H1 s1->cq X.prog X.w X.stack H1 s1 (u5 X.K H0 C fs) e s'->X.xe e s'):∀{ss:List Stmt} {ρ:ag} {r:Xs},Rz Φ Ψ Ex sc ss ρ r->r=(n,p,fs)->dP X ss (uc X H0 ρ):=by
 intro ss ρ r h
 induction h with
 | raise he hl hd hp =>
  rename_i e d k x p' np cpos pos ss ρ
  intro er
  cases er
  refine ek fun pins s σ H D I ⟨ow,E,hl',B⟩=>?_
  have ed:=(bv he Gd).ed rfl
  obtain⟨l,he',_⟩:=id he
  have ns:=eQ he'
  have ad:AD X.nox ρ [e] [d] (kj k 0):=eV ed jj (aA ns)
  refine lN I Gd.calm (Gd.gl _ hl) hmn hex (hin _ hp) hd (ad ow).nox (be fun y hy=>by rw[SA.mp hy];exact ns) (aA ns) ⟨E,fun vs H1 s1 r1=>⟨?_,fun s2 h' a us I2 m=>hr rfl pins σ H1 s2 h' a us I2 (B.sm.trans s1) m⟩⟩
  rw[<- r1.length]
  exact QD (show 1<=cG by decide) dU
 | raiseR he hy ht hl hd hp =>
  rename_i e y t k kd x p' np cpos pos p1 p2 p3 ss ρ
  intro er
  cases er
  refine ek fun pins s σ H D I ⟨ow,E,hl',B⟩=>?_
  have ed:=FT (p1:=p1) (p2:=p2) (p3:=p3) (kd:=kd) ((bv he Gd).ed rfl) hy ht
  have ns:∀(z:Expr) (p:Pos),Expr.JoinedStr [.FormattedValue e 114 none p1,.Constant (.str t) kd p2] p3 ≠ .Starred z p:=fun z p h=>by cases h
  have ad:AD X.nox ρ [Expr.JoinedStr [.FormattedValue e 114 none p1,.Constant (.str t) kd p2] p3] [.str (reprText y++t)] (kj 0 0):=eV ed jj (aA ns)
  refine lN I Gd.calm (Gd.gl _ hl) hmn hex (hin _ hp) hd (ad ow).nox (be fun y hy=>by rw[SA.mp hy];exact ns) (aA ns) ⟨E,fun vs H1 s1 r1=>⟨?_,fun s2 h' a us I2 m=>hr rfl pins σ H1 s2 h' a us I2 (B.sm.trans s1) m⟩⟩
  rw[<- r1.length]
  exact QD (show 1<=cG by decide) dU
 | raiseM he hi ha ht hl hd hp =>
  rename_i e i a t k kd0 kd x p' np cpos pos p0 p1 p2 p3 ss ρ
  intro er
  cases er
  refine ek fun pins s σ H D I ⟨ow,E,hl',B⟩=>?_
  have ed:=FU (p0:=p0) (p1:=p1) (p2:=p2) (p3:=p3) (kd0:=kd0) (kd:=kd) ((bv he Gd).ed rfl) hi ha ht
  have ns:∀(z:Expr) (p:Pos),Expr.JoinedStr [.Constant (.str a) kd0 p0,.FormattedValue e (-1) none p1,.Constant (.str t) kd p2] p3 ≠ .Starred z p:=fun z p h=>by cases h
  have ad:AD X.nox ρ [Expr.JoinedStr [.Constant (.str a) kd0 p0,.FormattedValue e (-1) none p1,.Constant (.str t) kd p2] p3] [.str (a++Str.ofString (toString i)++t)] (kj 0 0):=eV ed jj (aA ns)
  refine lN I Gd.calm (Gd.gl _ hl) hmn hex (hin _ hp) hd (ad ow).nox (be fun y hy=>by rw[SA.mp hy];exact ns) (aA ns) ⟨E,fun vs H1 s1 r1=>⟨?_,fun s2 h' a us I2 m=>hr rfl pins σ H1 s2 h' a us I2 (B.sm.trans s1) m⟩⟩
  rw[<- r1.length]
  exact QD (show 1<=cG by decide) dU
 | raiseF he hi hl hd hp =>
  rename_i e i k x p' f np cpos pos ss ρ
  intro er
  cases er
  refine ek fun pins s σ H D I ⟨ow,E,hl',B⟩=>?_
  have ed:=(bv he Gd).ed rfl
  obtain⟨l,he',_⟩:=id he
  have ns:=eQ he'
  have ad:AD X.nox ρ [e] [iN i] (kj k 0):=eV ed jj (aA ns)
  obtain⟨j,fI,oI,fd,ps,q1,q2,q3,q4,q5,q6,q7⟩:=hif _ _ hp
  refine xp I Gd.calm (Gd.gl _ hl) hmn hex q1 q2 q3 q4 q5 q6 q7 hd (ad ow).nox (aA ns) ⟨E,fun vs H1 s1 r1=>?_⟩
  obtain⟨v,rfl,rv⟩:=r1.only
  obtain⟨tt,rfl,hsq⟩:=FA rv
  exact⟨tt,i,rfl,⟨hsq,hi⟩,fun s2 z dx o vv a0 I2 w1 w2 w3 w4 w5 w6 w7 w8 w9 w10=>hr2 f i rfl pins σ H1 s2 z dx tt o vv a0 (B.sm.trans s1) hsq I2 w1 w2 w3 w4 w5 w6 w7 w8 w9 w10⟩
 | exp ha hf hG h =>
  intro er
  subst er
  refine ek fun pins s σ H D I ⟨ow,E,hl',B⟩=>?_
  exact wpAny_Expr_any (fD Gd (GR _ _ hG) hcn hcp hex ha hf h I E B.sm (hx pins σ)) I.quiet rfl
 | asn ha hf hG h =>
  intro er
  subst er
  refine ek fun pins s σ H D I ⟨ow,E,hl',B⟩=>?_
  exact wpAny_Assign_Name (fD Gd (GR _ _ hG) hcn hcp hex ha hf h I E B.sm (hx pins σ)) (dY rfl)
 | ast ha hf hG h =>
  intro er
  subst er
  refine ek fun pins s σ H D I ⟨ow,E,hl',B⟩=>?_
  exact wpAny_Assign_stores (fD Gd (GR _ _ hG) hcn hcp hex ha hf h I E B.sm (hx pins σ)) gw rfl
 | ret ha hf hG h =>
  intro er
  subst er
  refine ek fun pins s σ H D I ⟨ow,E,hl',B⟩=>?_
  exact wpAny_Return_some (fD Gd (GR _ _ hG) hcn hcp hex ha hf h I E B.sm (hx pins σ))
 | iff hc h ih =>
  rename_i c a b ss t k pos ρ r
  intro er
  refine ek fun pins s σ H D I ⟨ow,E,hl',B⟩=>?_
  have td:=((bv hc Gd).td rfl t rfl ow).nox
  refine wpAny_If (aN (td pins s σ H (fun b H'=>b=t/\av H H') I ⟨E,fun H' sm=>⟨rfl,sm⟩⟩) fun d s1 ⟨H1,I1,e,sm⟩=>?_)
  subst e
  cases d with
  | true=>exact ih er pins s1 σ H1 _ I1 ⟨ow,E.same sm,hl',B.same sm⟩
  | false=>exact ih er pins s1 σ H1 _ I1 ⟨ow,E.same sm,hl',B.same sm⟩
 | step hs h ih =>
  rename_i st ss ρ ρ' r
  intro er
  have sd:=((je Φ _).s st (H0:=H0) (Q5 _) hs Gd R5)
  intro pins s σ H D I ⟨ow,E,hl',B⟩
  exact dS (L2.PS.nox sd) (ih er) pins s σ H D I ⟨ow,E,hl',B,fun ow' σ' H' E' hl2 k=>⟨ow',E',hl2,B.keep k⟩⟩
def Qc(P:Program)(w:World)(K:W.Frag)(mg:Str->Option Value)(base:Heap)(k:Nat)(g:Str)(G:List D->Option Xs):Prop:=∃f fd ps,br P w K mg base (cq P w) k f fd ps (re K G)/\mg g=some (.ref f)/\W.keepIn K (.ref f)=true/\bH K fd ps []/\(g==("__debug__" : Str))=false
def Qv(P:Program)(w:World)(K:W.Frag)(mg:Str->Option Value)(base:Heap)(k:Nat)(g:Str)(G:List D->Option Xs):Prop:=∃j C f fd ps,j+1<=k/\Mk K C f/\br P w K mg base (cq P w) j f fd ps (re K (rj g G))/\mg g=some (.ref C)/\W.nsIn K mainGlobals g=some (some (.ref C))/\eJ K C/\bH K fd ps []/\(g==("__debug__" : Str))=false
def gP(P:Program)(w:World)(K:W.Frag)(mg:Str->Option Value)(base:Heap)(k:Nat)(g:Str)(G:List D->Option Xs):Prop:=Qc P w K mg base k g G\/Qv P w K mg base k g G
theorem gP.mono{j:Nat}(h:gP P w K mg base j g G)(hjk:j<=k):gP P w K mg base k g G:=by
 rcases h with⟨f,fd,ps,h1,h2⟩|⟨i,C,f,fd,ps,h0,h1⟩
 ·exact .inl ⟨f,fd,ps,h1.mono hjk,h2⟩
 ·exact .inr ⟨i,C,f,fd,ps,QD h0 hjk,h1⟩
theorem gP.at(h:gP X.prog X.w X.K X.mg X.base k g G)(hr:bC k X.A):kI X g G:=by
 rcases h with⟨f',fd',ps',a1,a2,a3,a4,a5⟩|⟨j,C',f',fd',ps',a0,a1,a2,a3,a4,a5,a6,a7⟩
 ·exact .inl ⟨k,f',fd',ps',a1,hr,a2,a3,a4,a5⟩
 ·exact .inr ⟨j,C',f',fd',ps',a1,a2,hr.mono a0,a3,a4,a5,a6,a7⟩
def BU(P:Program)(w:World)(K:W.Frag)(mg:Str->Option Value)(base:Heap)(k:Nat)(Ex:Str->Option (Str×Option Str)):Prop:=∀c C,W.nsIn K mainGlobals c=some (some (.ref C))->(∀p,Ex c=some (p,none)->fj K C=none) /\
 ∀p f,Ex c=some (p,some f)->∃j fI oI fd ps,j+1<=k/\fj K C=some (.ref fI)/\K.lookup fI=some oI/\oI.cls=.type "function" /\ W.keepIn K (.ref C)=true/\br P w K mg base cz j fI fd ps (rc K C f)/\bH K fd ps []
theorem sB(Fn:fX K g qual st f fd)
  (S:aM (aq (ae st)) ps (ae st)) (hΦ:jN P w K mg base k Φ) (hΨ:∀g G,Ψ g=some G->gP P w K mg base k g G) (hmg:∀n C,W.nsIn K mainGlobals n=some (some (.ref C))->mg n=some (.ref C)) (hEI:BU P w K mg base k Ex)
  (hrun:∀ds r,G ds=some r->ds.length=ps.length/\Rz Φ Ψ Ex (ae st) (am st) (dg ps ds) r):br P w K mg base (cq P w) (k+1) f fd ps (re K G):=by
 obtain⟨oc,od,kV,doc,pm,an,cdv,ct,osl,rfl,lk,hcd⟩:=Fn.ex
 refine qI lk hcd S (fun vs H Q E h=>?_) fun A outer s H vs Q E hr hsp=>?_
 ·obtain⟨ds,n,p,fs,C,S',h1,h2,_⟩:=h
  rw[<- h1.length];exact(hrun ds _ h2).1
 ·obtain⟨ds,n,p,fs,C,S',h1,h2,h3,h4,h5,h6⟩:=hsp
  obtain⟨hl,hz⟩:=hrun ds _ h2
  have Gd:=eO (outer:=outer) (H:=H) (E:=E) S hΦ hr
  obtain⟨E0,hsl⟩:=gC (P:=P) (w:=w) (mg:=mg) (base:=base) (qual:=qual) (f:=f) (cdv:=cdv) (A:=A) (outer:=outer) (s:=s) (E:=E) S h1 hl
  have B0:bQ H (fun _=>none) H:=fun a o h=>⟨h,rfl⟩
  refine⟨_,Bb (X:=cn (cq P w) P w K mg base (aq (ae st)) qual (ae st) f cdv A outer s H E) (H0:=H) (C:=C) (S:=S') Gd (fun g' G' hG=>?_) h3 h4 h5 (hmg n C h3) (hEI n C h3).1 (fun p' f' hp'=>?_) (fun hfs pins σ H1 s1 h' a us I sm m=>?_) (fun f' i' hfs pins σ H1 s1 z dx tt o vv a0 sm hsq I w1 w2 w3 w4 w5 w6 w7 w8 w9 w10=>?_) (fun pins σ H1 s1 e s' I c=>?_) hz rfl,fun _=>none,E0,hsl,B0⟩
  ·exact(hΨ g' G' hG).at hr
  ·obtain⟨j,fI,oI,fd',ps',q0,q1,q2,q3,q4,q5,q6⟩:=(hEI n C h3).2 p' f' hp'
   exact⟨j,fI,oI,fd',ps',q1,q2,q3,q4,q5,hr.mono q0,q6⟩
  ·subst hfs
   exact lB I rfl rfl m (h6 none H1 sm ni.nil)
  ·subst hfs
   exact ij I rfl rfl w2 w3 w4 w5 w6 w7 w8 w10 w9 (h6 _ _ (sm.trans (bR w1)) (fun f i z=>by cases z;exact⟨dx,tt,rfl,aD,mE (bR w1) hsq⟩))
  ·refine gS I rfl rfl ?_
   obtain⟨x,C',T,od,H',rfl,z1,z2,z3,z4,z5,z6,z7,z8,z9,⟨e1,e2,e3⟩⟩:=c
   cases e1
   exact⟨x,C,T,od,H',rfl,z1,z2,z3,z4,z5,z6,z7,z8,z9,h6 od H' e2 e3⟩
def vT(ρ:ag)(n y c B:Str)(fs:List (Str×Fv)):ag:=fun z=>if z=n then none else if z=y then some (.xc c (some (B,fs)),true)else ρ z
inductive Rt(Φ:Fx)(Ψ:Str->Option (List D->Option Xs))(sc:Scope):List Stmt->ag->Xs->Prop where
 | exp {f:Str} {G:List D->Option Xs} {e:Expr} {es:List Expr} {p q pos:Pos} {ds:List D} {k:Nat} {ρ:ag} {r:Xs} (ha:af (bK Φ (e::es) sc ρ) (ds,k)) (hf:sc.names.lookup f=some .globalImplicit) (hG:Ψ f=some G) (h:G ds=some r):Rt Φ Ψ sc [.Expr (.Call (.Name f p) (e::es) [] q) pos] ρ r
 | asn {f:Str} {G:List D->Option Xs} {x:Str} {e:Expr} {es:List Expr} {p q pos px:Pos} {ds:List D} {k:Nat} {ρ:ag} {r:Xs} (ha:af (bK Φ (e::es) sc ρ) (ds,k)) (hf:sc.names.lookup f=some .globalImplicit) (hG:Ψ f=some G) (h:G ds=some r):Rt Φ Ψ sc [.Assign [.Name x px] (.Call (.Name f p) (e::es) [] q) pos] ρ r
 | iff {c:Expr} {a b:List Stmt} {t:Bool} {k:Nat} {pos:Pos} {ρ:ag} {r:Xs} (hc:af (aC Φ c false sc ρ) (.bl t,k)) (h:Rt Φ Ψ sc (cond t a b) ρ r):Rt Φ Ψ sc [.If c a b pos] ρ r
theorem jR{M:Model}{A:Around}{E:Value->Shared->Prop}{env:Env}(h:wpAny M A (exec st env) Q E s):wpAny M A (execs [st] env) Q E s :=
 wpAny_execs_cons (aN h fun f s1 q=>by
  cases f with
  | next=>exact wpAny_execs_nil q
  | ret v=>exact q
  | brk=>exact q
  | cont=>exact q)
theorem Ju{p:Str}(Gd:aO Φ X.nox sc)(GR:∀f G,Ψ f=some G->kI X f G)(hcn:W.nsIn X.K mainGlobals n=some (some (.ref C)))(hcp:W.nsIn X.K mainGlobals p=some (some (.ref S)))(hex:fW X.K C S)
  (hx:∀H1 s1 e s',al X pins σ H1 s1->cq X.prog X.w X.stack H1 s1 (u5 X.K H0 C fs) e s'->X.xe e s'):∀{ss:List Stmt} {ρ:ag} {r:Xs},Rt Φ Ψ sc ss ρ r->r=(n,p,fs)->∀{s:Shared} {H:Hp},al X pins σ H s->aF X.nox ow H σ ρ->av H0 H->wpAny (model X.prog X.w) X.A (execs ss X.env) Q X.xe s:=by
 intro ss ρ r h
 induction h with
 | exp ha hf hG h =>
  intro er s H I E B
  subst er
  exact jR (wpAny_Expr_any (fD Gd (GR _ _ hG) hcn hcp hex ha hf h I E B hx) I.quiet rfl)
 | asn ha hf hG h =>
  intro er s H I E B
  subst er
  exact jR (wpAny_Assign_Name (fD Gd (GR _ _ hG) hcn hcp hex ha hf h I E B hx) (dY rfl))
 | iff hc h ih =>
  rename_i c a b t k pos ρ r
  intro er s H I E B
  have td:=((bv hc Gd).td rfl t rfl ow).nox
  refine jR (wpAny_If (aN (td pins s σ H (fun b H'=>b=t/\av H H') I ⟨E,fun H' sm=>⟨rfl,sm⟩⟩) fun d s1 ⟨H1,I1,e,sm⟩=>?_))
  subst e
  cases d with
  | true=>exact ih er I1 (E.same sm) (B.trans sm)
  | false=>exact ih er I1 (E.same sm) (B.trans sm)
theorem D1{x:Addr}{od:Option Addr}{c B y:Str}{ie iy:Nat}(E:aF X ow H σ ρ)(sm:av H H')(nx:H' x=none)(hie:X.N[ie]?=some n)(hiy:X.N[iy]?=some y)(hv:fb X.env.scope y)(hne:iy≠ie)(hl:iy<σ.length)
  (hcn:W.nsIn X.K mainGlobals c=some (some (.ref C))) (hcp:W.nsIn X.K mainGlobals B=some (some (.ref S))) (hex:fW X.K C S) (hfd:ni X.K H' od fs) (hfo:∀f i,fs=[(f,i)]->tM X.K C f) :
  aF X ow (aG H' x (jf x C od)) (((σ.set ie (some (.ref x))).set iy (some (.ref x))).set ie none) (vT ρ n y c B fs):=by
 have sm':av H (aG H' x (jf x C od)):=sm.trans fun a o h=>by rw[ax (aU h nx)];exact h
 refine⟨fun z d o h=>?_,(E.same sm').own⟩
 unfold vT at h
 by_cases hz:z=n
 ·rw[if_pos hz]at h;cases h
 ·rw[if_neg hz]at h
  by_cases hy:z=y
  ·rw[if_pos hy]at h
   cases h
   refine⟨iy,.ref x,by rw[hiy,hy],by rw[hy];exact hv,?_,?_⟩
   ·rw[RC (RB hne),RU (by rw[Rh];exact hl)]
   ·rw[aj]
    refine⟨x,C,S,od,rfl,hcn,hcp,hex,aD,fun f i z=>?_,hfo⟩
    obtain⟨dx,tt,e1,e2,e3⟩:=hfd f i z
    exact⟨dx,tt,e1,by rw[ax (aU e2 nx)];exact e2,mE (fun a o h=>by rw[ax (aU h nx)];exact h) e3⟩
  ·rw[if_neg hy]at h
   obtain⟨i,v,e1,e2,e3,e4⟩:=(E.same sm').get z d o h
   have n1:i≠ie:=fun q=>hz (by rw[q,hie]at e1;exact(QK e1).symm)
   have n2:i≠iy:=fun q=>hy (by rw[q,hiy]at e1;exact(QK e1).symm)
   exact⟨i,v,e1,e2,by rw[RC (RB n1),RC (RB n2),RC (RB n1)];exact e3,e4⟩
def AO(K:W.Frag)(Ex:Str->Option (Str×Option Str)):Prop:=∀c p o,Ex c=some (p,o)->∃C S,W.nsIn K mainGlobals c=some (some (.ref C))/\W.nsIn K mainGlobals p=some (some (.ref S))/\fW K C S/\W.exmOne K (.ref C) (.ref S)=some true/\∀f,o=some f->tM K C f
def nR(n p:Str):List D->Option Bool
 | []=>some false
 | .xc m none::l=>(nR n p l).map fun b=>(decide (m=n) || decide (m=p)) || b
 | _=>none
def KK(n p:Str):D->Option Bool
 | .xc m none=>some (decide (m=n) || decide (m=p))
 | .typ T=>if T = "ValueError" then some true else none
 | .tup cs=>nR n p cs
 | _=>none
def At(ds:List D):R1 :=
 match ds with
 | [.xc n (some (p,_)),c]=>(match KK n p c with|some b=>.ok (.bl b,0) []|none=>.st)
 | ds=>Au ds
theorem Bv{K:W.Frag}{H:Hp}{P:bj}{n p:Str}{C S:Addr}(hn:W.nsIn K mainGlobals n=some (some (.ref C)))(hp:W.nsIn K mainGlobals p=some (some (.ref S)))(e:fW K C S):∀{cs:List D} {vs:List V} {us:List Value} {b:Bool},nR n p cs=some b->ah K H P cs vs->aL vs us->W.kitAny K (.ref C) us=some b
 | [],vs,us,b,h,r,q=>by
  rw[nR]at h;cases h
  rw[ah]at r;subst r;cases q;rfl
 | .xc m none::l,vs,us,b,h,r,q=>by
  rw[nR]at h
  cases hl:nR n p l with
  | none=>rw[hl]at h;cases h
  | some b' =>
   rw[hl]at h;cases h
   rw[ah]at r
   obtain⟨v,vr,rfl,r1,r2⟩:=r
   rw[aj]at r1
   obtain⟨Cm,rfl,hm,hx⟩:=r1
   cases q with
   | cons q1 q2 =>
    cases q1
    have k1:=xO e hn hp hm hx
    have k2:=Bv hn hp e hl r2 q2
    show(match W.kitOne K (.ref C) (.ref Cm)with|some true=>some true|some false=>W.kitAny K (.ref C) _|none=>none)=_
    rw[k1]
    cases hd:(decide (m=n) || decide (m=p))with
    | true=>rfl
    | false=>exact k2
theorem Eo:dW "isinstance" At:=by
 refine⟨by decide +kernel,by decide +kernel,by decide +kernel,rfl,fun X ds z l o hc h hp=>?_⟩
 unfold At at h
 split at h
 ·rename_i n p fs c
  split at h
  ·rename_i b hb
   cases h
   refine .inl ⟨"isinstance", by decide +kernel,?_⟩
   have cr:dz X (.builtin "isinstance") (fun xs H Q => ∃v w P,xs=[v,w]/\aj X.K H P (.xc n (some (p,fs))) v/\aj X.K H P c w/\Q (.bl b) H):=by
    intro pins s σ H xs us Q I r hh
    obtain⟨v,w,P,rfl,r1,r2,q⟩:=hh
    obtain⟨u,u2,rfl,ru,ru2⟩:=kM r
    rw[aj]at r1
    obtain⟨x,C,S,od,rfl,h1,h2,h3,h4,_,_⟩:=r1
    cases ru
    have xo:IK x C s.heap:=let ⟨o,_,a,b,_⟩:=(show bG X.prog X.w H s.heap x (jf x C od)from I.hok x _ h4).1;⟨o,a,b⟩
    unfold KK at hb
    split at hb
    ·rename_i m
     cases hb
     rw[aj]at r2
     obtain⟨Cm,rfl,hm,hx⟩:=r2
     cases ru2
     exact Rv (lR h3) I.kIn xo (xO h3 h1 h2 hm hx) (fun z=>nomatch z) fun tk=>⟨.bl _,H,I.tok tk,rfl,q⟩
    ·rename_i T
     split at hb
     ·rename_i hT
      subst hT
      cases hb
      rw[aj]at r2
      subst r2
      cases ru2
      exact Rv (lR h3) I.kIn xo (GB h3) (fun z=>nomatch z) fun tk=>⟨.bl _,H,I.tok tk,rfl,q⟩
     ·cases hb
    ·rename_i cs
     rw[aj]at r2
     obtain⟨a,vs,rfl,sq,rl⟩:=r2
     cases ru2
     obtain⟨its,rv,⟨⟨c0,dd,data,sl⟩,e1,e2,n0,e3⟩,_⟩:=I.tuple sq
     simp only at e2 e3
     subst e2 e3
     exact W.kia_tup (lR h3) I.kIn xo e1 (Bv h1 h2 h3 hb rl rv) (fun z=>nomatch z) fun tk=>⟨.bl _,H,I.tok tk,rfl,q⟩
    ·cases hb
   refine⟨_,cr,fun ow H0 H2 vs P Q o s rx q=>?_⟩
   rw[ah]at rx
   obtain⟨v,r,rfl,r1,r2⟩:=rx
   obtain⟨w,rfl,r3⟩:=r2.only
   exact⟨v,w,P,rfl,r1,r3,q _ _ (av.refl _) (by rw[aj])⟩
  ·cases h
 ·exact Ep.2.2.2.2 X _ z l o hc h hp
theorem eF(hm:mg x=some (.ref C))(hn:W.nsIn K mainGlobals x=some (some (.ref C)))(hx:BJ K x C):fC mg K (x,.xc x none) :=
 ⟨.ref C,.ref C,hm,rfl,fun H P=>by rw[aj];exact⟨C,rfl,hn,hx⟩⟩
def eL(K:W.Frag)(n:Str)(C:Addr):Bool :=
 match K.lookup mainGlobals with
 | some ⟨_,_,.dict es _,_⟩=>es.toList.all fun e => !(e.val == .ref C) || (match e.key with | .str m _=>decide (m=n)|_=>false)
 | _=>false
def gh(K:W.Frag)(C:Addr):Bool :=
 match K.lookup C with
 | some ⟨.type t,_,.cls _,_⟩=>t == "type"
 | _=>false
theorem d9(h1:eL K n C=true)(h2:gh K C=true):BJ K n C:=by
 unfold gh at h2
 split at h2
 ·rename_i t d cd sl e
  have et:t = "type" := by simpa using h2
  subst et
  refine⟨?_,fun m hm=>?_,⟨_,e,rfl⟩⟩
  ·have c1:W.clsIn K C=some cd:=by unfold W.clsIn;rw[e]
   have c2:W.typeIn K (.ref C)=some (.type "type"):=by
    show Option.map (fun x=>x.cls) (List.lookup C K)=_
    rw[e];rfl
   rw[c1,c2];rfl
  ·unfold eL at h1
   unfold W.nsIn at hm
   split at h1
   ·rename_i a1 a2 es a3 a4 e1
    rw[e1]at hm
    dsimp only at hm
    split at hm
    ·rename_i x hf
     have hv:x.val=.ref C:=QK (QK hm)
     have hx:=List.mem_of_find?_eq_some hf
     have hk:x.key.isStr m=true:=List.find?_some (p:=fun x:DictEntry=>x.key.isStr m) hf
     have:=RN.mp h1 x hx
     rw[hv,show((Value.ref C==Value.ref C):Bool)=true by simp,Bool.not_true,Bool.false_or]at this
     cases hkk:x.key with
     | str k t =>
      rw[hkk]at this hk
      have a1:k=n:=RG this
      have a2:k=m:=by simpa [Value.isStr]using hk
      rw[<- a2,a1]
     | _=>rw[hkk]at this;cases this
    ·split at hm<;>cases hm
   ·cases h1
 ·cases h2
abbrev IN(K:W.Frag):Str×Str×Option Str->Prop:=fun q => ∃C S,W.nsIn K mainGlobals q.1=some (some (.ref C))/\W.nsIn K mainGlobals q.2.1=some (some (.ref S))/\fW K C S/\W.exmOne K (.ref C) (.ref S)=some true/\∀f,q.2.2=some f->tM K C f
theorem DV(h:∀q∈l,IN K q):AO K (fun c=>l.lookup c):=fun c p o e=>h (c,p,o) (QR e)
abbrev IM(P:Program)(w:World)(K:W.Frag)(mg:Str->Option Value)(base:Heap)(k:Nat):Str×Str×Option Str->Prop:=fun q => ∃C,W.nsIn K mainGlobals q.1=some (some (.ref C))/\(q.2.2=none->fj K C=none) /\
 ∀f,q.2.2=some f->∃j fI oI fd ps,j+1<=k/\fj K C=some (.ref fI)/\K.lookup fI=some oI/\oI.cls=.type "function" /\ W.keepIn K (.ref C)=true/\br P w K mg base cz j fI fd ps (rc K C f)/\bH K fd ps []
theorem Hh(h:∀q∈l,IM P w K mg base k q):BU P w K mg base k (fun c=>l.lookup c):=fun c C hc =>
 ⟨fun p e=>by
  obtain⟨C',h1,h2,_⟩:=h (c,p,none) (QR e)
  rw[hc]at h1;cases h1;exact h2 rfl,fun p f e=>by
  obtain⟨C',h1,_,h3⟩:=h (c,p,some f) (QR e)
  rw[hc]at h1;cases h1;exact h3 f rfl⟩
abbrev nP(P:Program)(w:World)(K:W.Frag)(mg:Str->Option Value)(base:Heap)(k:Nat):Str×(List D->Option Xs)->Prop:=fun q=>gP P w K mg base k q.1 q.2
theorem jb{l:List (Str×(List D->Option Xs))}(h:∀q∈l,nP P w K mg base k q):∀g G,(fun g:Str=>l.lookup g) g=some G->gP P w K mg base k g G:=fun g G e=>h (g,G) (QR e)
def EG:Stmt->List Stmt
 | .Try b _ _ _ _=>b
 | _=>[]
def BQ(Φ:Fx)(Ψ:Str->Option (List D->Option Xs))(sc:Scope)(s0 c:Expr)(u:Str)(es:List Expr)(ρ:ag)(r:Xs):Prop:=∃d0 kc0 d kc ds2 k2 Gu,af (aC Φ s0 false sc ρ) (d0,kc0)/\af (aC Φ c false sc ρ) (d,kc)/\af (bK Φ es sc ρ) (ds2,k2)/\Ψ u=some Gu/\Gu ds2=some r
def ES:List Stmt->List Expr
 | [.Expr (.Call _ args _ _) _]=>args
 | _=>[]
def Le:List Stmt->List Expr
 | [.Expr (.Call _ (_::_ :: .Call _ es _ _::_) _ _) _]=>es
 | _=>[]
def Qs(es:List Expr):Bool:=es.all fun e=>match e with | .Starred _ _=>false|_=>true
theorem Gh(h:Qs es=true):∀e∈es,∀y p,e ≠ .Starred y p:=fun e he y p z=>by
 have q:=RN.mp h e he
 subst z
 cases q
theorem Cz{r:Xs}(h:rj g G ds=some r):∃l,ds=.obj g [] []::l/\G l=some r:=by
 unfold rj at h
 split at h
 ·split at h
  ·rename_i e;subst e;exact⟨_,rfl,h⟩
  ·cases h
 ·cases h
theorem Cy{T:List D->Xs->Prop}(h:∀ds r,G ds=some r->ds.length+1=ps.length/\T (.obj g [] []::ds) r):∀ds r,rj g G ds=some r->ds.length=ps.length/\T ds r:=fun ds r q=>by
 obtain⟨l,rfl,q'⟩:=Cz q
 exact h l r q'
theorem zT{f0:Addr}{u:Str}{C0:Addr}{pb ap cp p4 up uq:Pos}{s0 c:Expr}{rest:List Expr}(Fn:fX K g qual st f fd)
  (S:aM (aq (ae st)) ps (ae st)) (hΦ:jN P w K mg base k Φ) (hΨ:∀g G,Ψ g=some G->gP P w K mg base k g G) (hk0:W.keepIn K (.ref f0)=true)
  (hgb:(ae st).names.lookup b=some .globalImplicit) (hm:mg b=some (.ref C0)) (hga:W.specialIn K (.ref C0) "__getattribute__" = some (some (.builtin "type.__getattribute__"))) (hrd:W.readsIn K C0 mc=true) (hfc:W.findCls K (.ref C0) mc "__init__" = some (.val (.ref f0)))
  (hbody:am st=[.Expr (.Call (.Attribute (.Name b pb) "__init__" ap) (s0::c :: .Call (.Name u up) (e::es) [] uq::rest) [] cp) p4]) (hdb:(b==("__debug__" : Str))=false) (hln:(ap.endLine==cp.line)=true) (hfew:rest.length<20) (hst:∀e∈s0::c::rest,∀y p,e ≠ .Starred y p) (hu:(ae st).names.lookup u=some .globalImplicit)
  (hrun:∀ds r,G ds=some r->ds.length=ps.length/\BQ Φ Ψ (ae st) s0 c u (e::es) (dg ps ds) r):br P w K mg base (cq P w) (k+1) f fd ps (re K G):=by
 obtain⟨oc,od,kV,doc,pm,an,cdv,ct,osl,rfl,lk,hcd⟩:=Fn.ex
 refine qI lk hcd S (fun vs H Q E h=>?_) fun A outer s H vs Q E hr hsp=>?_
 ·obtain⟨ds,n,p,fs,C,S',h1,h2,_⟩:=h
  rw[<- h1.length];exact(hrun ds _ h2).1
 ·obtain⟨ds,n,p,fs,C,S',h1,h2,h3,h4,h5,h6⟩:=hsp
  obtain⟨hl,d0,kc0,d,kc,ds2,k2,Gu,e0,e1,e2,e3,e4⟩:=hrun ds _ h2
  have Gd:aO Φ (cn (cq P w) P w K mg base (aq (ae st)) qual (ae st) f cdv A outer s H E).nox (ae st):=eO (outer:=outer) (H:=H) (E:=E) S hΦ hr
  obtain⟨E0,hsl⟩:=gC (P:=P) (w:=w) (mg:=mg) (base:=base) (qual:=qual) (f:=f) (cdv:=cdv) (A:=A) (outer:=outer) (s:=s) (E:=E) S h1 hl
  have B0:bQ H (fun _=>none) H:=fun a o h=>⟨h,rfl⟩
  have n0:=hst s0 QE
  have n1:=hst c (QB _ QE)
  have hst':∀e'∈s0::c :: .Call (.Name u up) (e::es) [] uq::rest,∀y p,e' ≠ .Starred y p:=fun e' he=>by
   rcases QA.mp he with rfl|he
   ·exact n0
   ·rcases QA.mp he with rfl|he
    ·exact n1
    ·rcases QA.mp he with rfl|he
     ·intro _ _ z;cases z
     ·exact hst _ (QB _ (QB _ he))
  rw[hbody]
  refine⟨uc (cn (cq P w) P w K mg base (aq (ae st)) qual (ae st) f cdv A outer s H E) H (dg ps ds),ek fun pins s1 σ H1 D I ⟨ow,E1,hl1,B1⟩=>?_,fun _=>none,E0,hsl,B0⟩
  have hx:∀pins σ H2 s2 e s',al (cn (cq P w) P w K mg base (aq (ae st)) qual (ae st) f cdv A outer s H E) pins σ H2 s2->cq P w (cn (cq P w) P w K mg base (aq (ae st)) qual (ae st) f cdv A outer s H E).stack H2 s2 (u5 K H C fs) e s'->(cn (cq P w) P w K mg base (aq (ae st)) qual (ae st) f cdv A outer s H E).xe e s':=fun pins σ H2 s2 e s' I2 cx=>by
   refine gS I2 rfl rfl ?_
   obtain⟨x,C',T,od,H',rfl,z1,z2,z3,z4,z5,z6,z7,z8,z9,⟨q1,q2,q3⟩⟩:=cx
   cases q1
   exact⟨x,C,T,od,H',rfl,z1,z2,z3,z4,z5,z6,z7,z8,z9,h6 od H' q2 q3⟩
  have P0:PE (cn (cq P w) P w K mg base (aq (ae st)) qual (ae st) f cdv A outer s H E) s0 (tD (cn (cq P w) P w K mg base (aq (ae st)) qual (ae st) f cdv A outer s H E).nox ow (dg ps ds) d0 kc0):=((bv e0 Gd).ed rfl ow).nox
  have P1:PE (cn (cq P w) P w K mg base (aq (ae st)) qual (ae st) f cdv A outer s H E) c (tD (cn (cq P w) P w K mg base (aq (ae st)) qual (ae st) f cdv A outer s H E).nox ow (dg ps ds) d kc):=((bv e1 Gd).ed rfl ow).nox
  have P2:PE (cn (cq P w) P w K mg base (aq (ae st)) qual (ae st) f cdv A outer s H E) (.Call (.Name u up) (e::es) [] uq) (fun σ' H' _=>aF (cn (cq P w) P w K mg base (aq (ae st)) qual (ae st) f cdv A outer s H E).nox ow H' σ' (dg ps ds)/\av H H'):=fun pins' s' σ' H' Q' I' ⟨E',B'⟩ =>
   fD Gd ((hΨ u Gu e3).at hr) h3 h4 h5 e2 hu e4 I' E' B' (hx pins' σ')
  have P3:PA (cn (cq P w) P w K mg base (aq (ae st)) qual (ae st) f cdv A outer s H E) rest (fun _ _ _=>False):=fun _ _ _ _ _ _ _ z=>z.elim
  have PP:=dC P0 (dC P1 (dC P2 P3 (aA fun _ _ z=>by cases z)) (aA n1)) (aA n0)
  refine wpAny_Expr_any ?_ I.quiet rfl
  refine W.methodCall_KW (pl:=(do return (<- importBound (.Name b pb) (cn (cq P w) P w K mg base (aq (ae st)) qual (ae st) f cdv A outer s H E).env).getD true)) (cH I (Gd.gl b hgb) hm ?_ hdb) (qG (eS rfl) (nh hst' (by simp only[Ri];omega)) hln)
  refine W.method_cls I.kIn hga (W.cls_value I.kIn hrd hfc rfl ?_)
  have I':=I.tok (s1.toks+1)
  refine Se (first:=[]) (h₀:=base) I.ok.mod.kin hk0 (aN (PP cp pins _ σ H1 (fun _ _=>False) I' ⟨E1,fun v H2 s2 _=>⟨E1.same s2,fun v' H3 s3 _=>⟨(E1.same s2).same s3,(B1.sm.trans s2).trans s3⟩⟩⟩) fun us s2 ⟨vs,H2,I2,r,q2⟩=>q2.elim) (aA n0) (be fun x hx=>hst' x (QB _ hx))
end Sp
namespace L2
open PySem PySem.Spec PyProof.Rows
section
variable{X:Cx}{pins:List (Addr×Obj)}{σ:St}{H H':Hp}{s:Shared}
abbrev yQ:=Str×Pos×Str×List Stmt×Pos
def xl(q:yQ):ExceptHandler:=.ExceptHandler (some (.Name q.1 q.2.1)) (some q.2.2.1) q.2.2.2.1 q.2.2.2.2
def AK(X:Cx)(C:Addr)(q:yQ):Prop:=∃C1,Gl X q.1/\X.mg q.1=some (.ref C1)/\(q.1==("__debug__" : Str))=false/\W.exmOne X.K (.ref C) (.ref C1)=some false
theorem rk{x C:Addr}{ox:Obj}{rest:List ExceptHandler}{Q:Flow->Shared->Prop}(J2:al X pins σ H s)(ex1:s.heap.get? x=some ox)(ex2:ox.cls=.ref C):∀(sk:List yQ),(∀q∈sk,AK X C q) ->
  wpAny (model X.prog X.w) X.A (handleBy (.ref x) X.env rest) Q X.xe s->wpAny (model X.prog X.w) X.A (handleBy (.ref x) X.env (sk.map xl++rest)) Q X.xe s
 | [],_,h=>h
 | q::sk,hs,h=>by
  obtain⟨C1,g1,g2,g3,g4⟩:=hs q QE
  refine wpAny_handleBy_cons ?_ (by intro z;cases z)
  refine codeAny_handlers_test ?_
  refine cH (X:=X.mark (.ref x)) (J2.mark (.ref x)) g1 g2 ?_ g3
  refine RJ (W.exm_one J2.kIn (g7 ex1 ex2 _) g4) ?_
  exact rk J2 ex1 ex2 sk (fun p hp=>hs p (QB _ hp)) h
theorem Eg{E:XK}{e:Value}{s':Shared}{D:i8}{B n:Str}{ie:Nat}{C0:Addr}{bp hpos:Pos}{b0:Stmt}{body:List Stmt}{more:List ExceptHandler}(sk:List yQ)(I:al X pins σ H s)(hs:X.stack=X.env::X.outer)(hN:X.N.Nodup)(c:cq X.prog X.w X.stack H s E e s')
  (hB:Gl X B) (hmB:X.mg B=some (.ref C0)) (hdb:(B==("__debug__" : Str))=false) (hie:X.N[ie]?=some n) (hen:X.env.scope.names.lookup n=some .local)
  (hE:∀C od H',E (.ref C) od H'->(∀q∈sk,AK X C q)/\W.exmOne X.K (.ref C) (.ref C0)=some true/\∀x,H' x=none->∃t,dP (X.mark (.ref x)) (b0::body) t/\t ⟨fun σ' H''=>D.nx (σ'.set ie none) H'',fun _ _=>False,fun _ _=>False,fun _ _=>False⟩ (σ.set ie (some (.ref x))) (aG H' x (jf x C od))) :
  wpAny (model X.prog X.w) X.A (noteFrame e X.env) (fun _ s₂=>wpAny (model X.prog X.w) X.A (setFlight e none) (fun _ s₃=>wpAny (model X.prog X.w) X.A (handleBy e X.env (sk.map xl ++ .ExceptHandler (some (.Name B bp)) (some n) (b0::body) hpos::more)) (SP X pins D) X.xe s₃) X.xe s₂) X.xe s':=by
 obtain⟨x,C,T,od,H',rfl,hx,hT,t,ho,hg,u,hk,nx,nT,q⟩:=c
 have J:al X pins σ H' s':=I.call' (ch:=[]) ho u hk hg (fun b z=>absurd z (by simp))
 have hfr:=I.frame hs
 have fs:X.A.frames=some (X.env::X.outer):=by rw[<- hs];exact I.ok.frames
 have hf:=J.stack
 rw[hs]at hf
 obtain⟨oe,vs,oT,ts,a0,e1,e2,e6,e3,e4,e5,f0,f1,f2,f3⟩:=id t
 have hsz:1<vs.size:=by
  rcases RW 1 vs.size with z|z
  ·exact z
  ·rw[RX z]at e5;cases e5
 obtain⟨qs,qm,qn⟩:=hE C od H' q
 refine lQ (C:=C) (od:=od) fs hf hfr e1 e2 e6 e3 hsz e4 (.inr ⟨T,oT,ts,e5,f0,f1,f2,f3⟩) fun h2 T2 k1 k2 nT2 tr=>?_
 have hidn:∀b∈x::T::cw X.stack,H' b=none:=fun b hb=>by
  rcases QA.mp hb with rfl|hb
  ·exact nx
  ·rcases QA.mp hb with rfl|hb
   ·exact nT
   ·exact J.stkFree b hb
 have hidf:∀b o,s.heap.get? b=some o->b∈x::T::cw X.stack->b∈cw X.stack:=fun b o eb hb=>by
  rcases QA.mp hb with rfl|hb
  ·rw[hx]at eb;cases eb
  ·rcases QA.mp hb with rfl|hb
   ·rw[hT]at eb;cases eb
   ·exact hb
 have mkI:∀h3:Heap,i6 X (x::T::cw X.stack) s'.heap h3->al X pins σ H' { s' with heap:=h3 }:=fun h3 ov =>
  I.call' (s':={ s' with heap:=h3 }) (ch:=[]) ho (qT u hidf ov.keep ov.up) (oq hk hidn ov.keep) hg (fun b z=>absurd z (by simp))
 have ov2:i6 X (x::T::cw X.stack) s'.heap h2:=⟨fun b o eb nb=>k1 b o eb (fun z=>nb (by rw[z];exact QE)) (by rw[e5];intro z;injection z with z;injection z with z;exact nb (by rw[<- z];exact QB _ QE)) (fun z=>nb (QB _ (QB _ (by rw[hs];exact z)))),fun b hb o eb=>k2 b (by rw[<- hs];exact hb) o eb⟩
 have J2:=mkI h2 ov2
 obtain⟨ox,vx,oU,us,a1,ex1,ex2,ex6,ex3,ex4,ex5,u0,u1,u2,u3⟩:=tr
 refine rk J2 ex1 ex2 sk qs ?_
 refine wpAny_handleBy_cons ?_ (by intro z;cases z)
 refine codeAny_handlers_test ?_
 refine cH (X:=X.mark (.ref x)) (J2.mark (.ref x)) hB hmB ?_ hdb
 refine RJ (W.exm_one J2.kIn (g7 ex1 ex2 _) qm) ?_
 show codeAny _ _ _ _ _
 refine codeAny_handlers_suite_as ?_
 have u4:3<us.size:=by
  rcases RW 3 us.size with z|z
  ·exact z
  ·rw[RX z]at u3;cases u3
 have nT3:∀b o,s'.heap.get? b=some o->T2≠b:=fun b o eb z=>by rw[<- z,nT2]at eb;cases eb
 refine sC (s:={ s' with heap:=h2 }) ex1 ex3 ex5 u1 u2 u4 ?_
 obtain⟨h3,eh3⟩:∃h3,h2.update T2 (Obj.mapFields fun v=>v.setIfInBounds 3 .none)=h3:=⟨_,rfl⟩
 have oth:∀b,T2≠b->h3.get? b=h2.get? b:=fun b hb=>by rw[<- eh3];exact QQ _ _ hb
 show wpAny _ _ _ _ _ { s' with heap:=h2.update T2 (Obj.mapFields fun v=>v.setIfInBounds 3 .none) }
 rw[eh3]
 have ov3:i6 X (x::T::cw X.stack) s'.heap h3:=⟨fun b o eb nb=>(oth b (nT3 b o eb)).trans (ov2.keep b o eb nb),fun b hb o eb=>by
  obtain⟨sl,z⟩:=ov2.up b hb o eb
  exact⟨sl,(oth b (nT3 b o eb)).trans z⟩⟩
 have ey1:h3.get? x=some ox:=(oth x u0).trans ex1
 have J3:al X pins σ (aG H' x (jf x C od)) { s' with heap:=h3 }:=by
  have u3:=qT u hidf ov3.keep ov3.up
  refine I.call' (s':={ s' with heap:=h3 }) (ch:=[]) ho ⟨u3.keep,u3.slot,fun b o eb n hb=>?_,u3.there,fun b xs eb=>?_,fun b o w eb=>?_,fun b ps eb=>?_⟩ (Jb (oq hk hidn ov3.keep) nx (Hi ey1 ex2 ex6 ex3)) hg (fun b z=>absurd z (by simp))
  ·have:b≠x:=fun z=>by rw[z,hx]at eb;cases eb
   rw[ax this];exact u3.free b o eb n hb
  ·have z:=u3.tups b xs eb
   rw[ax (aU z nx)];exact z
  ·have z:=u3.frzs b o w eb
   rw[ax (aU z nx)];exact z
  ·obtain⟨more,z⟩:=u3.tbls b ps eb
   exact⟨more,by rw[ax (aU z nx)];exact z⟩
 refine fY (X:=X) J3 hN hie (.inl hen) (v:=.ref x) rfl (fun s4 J4=>?_) (.inr hen)
 obtain⟨t,ps,ht⟩:=qn x nx
 refine Rq (ps pins s4 _ _ _ (J4.mark (.ref x)) ht) (fun f s5 hf=>?_) (fun _ _ z=>z.elim)
 cases f with
 | next =>
  obtain⟨σ',H'',J5,q5⟩:=hf
  refine DI (X:=X) (J5.unmark I.ok) hN hie hen fun s6 J6=>?_
  exact⟨_,_,J6,q5⟩
 | brk=>obtain⟨_,_,_,z⟩:=hf;exact z.elim
 | cont=>obtain⟨_,_,_,z⟩:=hf;exact z.elim
 | ret v=>obtain⟨_,_,_,_,_,z⟩:=hf;exact z.elim
end
end L2
namespace Sp
open PySem PySem.Spec PyProof.Rows L2
variable{Y:Cx}{Φ:Fx}{Ψ:Str->Option (List D->Option Xs)}{sc:Scope}{H H0 H1:Hp}{C S b f:Addr}{B c g n qual x y z:Str}{bp hpos p p1 p2 p3 p4 pos q q1 q2 q3 t tpos:Pos}{fs:List (Str×Fv)}{body ss tb:List Stmt}{ρ ρ':ag}{ie k k1 k2:Nat}{P:Program}{w:World}{K:W.Frag}{mg:Str->Option Value}{base:Heap}{st:Stmt}{fd:FuncData}{ps:List Str}{Ex:Str->Option (Str×Option Str)}{F:List D->Rs D}{ds l l' m:List D}{d d1 d2 r:D}{G:List D->Option Xs}{a e i iter tg:Expr}{s:Shared}{σ:L2.St}{ow:Ow}{Q:Value->Shared->Prop}{fl:Fl}{ns:List Int}{us:List Value}{us' vs:List V}{j:Int}{o:List Prop}
variable{X:Cx}
def IR(Y:Cx)(C:Addr)(ie:Nat)(fs:List (Str×Fv))(ρ ρ':ag)(ss:List Stmt):Prop:=∀(x:Addr) (od:Option Addr) (σ:L2.St) (H H':Hp) (ow:Ow) (D:i8),aF Y.nox ow H σ ρ->σ.length=Y.N.length->av H H'->H' x=none->ni Y.K H' od fs ->
 (∀ow' σ' H'',aF Y.nox ow' H'' σ' ρ'->σ'.length=Y.N.length->bf ow H ow' H''->D.nx σ' H'')->∃t,dP (Y.nox.mark (.ref x)) ss t/\t ⟨fun σ' H''=>D.nx (σ'.set ie none) H'',fun _ _=>False,fun _ _=>False,fun _ _=>False⟩ (σ.set ie (some (.ref x))) (aG H' x (jf x C od))
theorem CC{C0:Addr}{p:Str}{b0:Stmt}{more:List ExceptHandler}(sk:List yQ)(Gd:aO Φ Y.nox sc)(GR:∀f G,Ψ f=some G->kI Y.nox f G)(hst:Y.stack=Y.env::Y.outer)
  (hcn:W.nsIn Y.K mainGlobals c=some (some (.ref C))) (hcp:W.nsIn Y.K mainGlobals p=some (some (.ref S))) (hex:fW Y.K C S) (hsk:∀q∈sk,AK Y.nox C q) (hexm:W.exmOne Y.K (.ref C) (.ref C0)=some true) (hmB:Y.mg B=some (.ref C0))
  (hB:sc.names.lookup B=some .globalImplicit) (hdb:(B==("__debug__" : Str))=false) (hn:sc.names.lookup n=some .local) (hie:Y.N[ie]?=some n) (hS:IR Y C ie fs ρ ρ' (b0::body))
  (h:Rt Φ Ψ sc tb ρ (c,p,fs)):SD Y.nox H0 ρ (.Try tb (sk.map xl ++ .ExceptHandler (some (.Name B bp)) (some n) (b0::body) hpos::more) [] [] tpos) (.nx ρ'):=by
 intro pins s σ H D I ⟨ow,E,hl,B0,q⟩
 obtain⟨h0,hs,eh⟩:∃h0 hs,sk.map xl++ExceptHandler.ExceptHandler (some (.Name B bp)) (some n) (b0::body) hpos::more=h0::hs:=by
  cases sk with
  | nil=>exact⟨_,_,rfl⟩
  | cons a l=>exact⟨_,_,rfl⟩
 rw[eh]
 refine wpAny_Try_except ?_
 rw[<- eh]
 refine Ju (X:=Y.nox.wish fun e s₁=>wpAny (model Y.prog Y.w) Y.A (noteFrame e Y.env) (fun _ s₂=>wpAny (model Y.prog Y.w) Y.A (setFlight e none) (fun _ s₃=>wpAny (model Y.prog Y.w) Y.A (handleBy e Y.env (sk.map xl ++ .ExceptHandler (some (.Name B bp)) (some n) (b0::body) hpos::more)) (SP Y.nox pins D) Y.nox.xe s₃) Y.nox.xe s₂) Y.nox.xe s₁) (H0:=H) (n:=c) (p:=p) Gd GR hcn hcp hex (fun H1 s1 e s' I1 c1=>?_) h rfl (I.wish _) E (av.refl _)
 refine Eg (X:=Y.nox) (ie:=ie) (C0:=C0) sk I1.unwish hst Gd.nd c1 (Gd.gl B hB) hmB hdb hie (Gd.lc n hn) fun C' od H' ⟨e1,sm,hfd⟩=>?_
 cases e1
 exact⟨hsk,hexm,fun x nx=>hS x od σ H H' ow D E hl sm nx hfd q⟩
theorem xL(Gd:aO Φ X sc)(hz:sc.names.lookup z=some .local):∃i:Nat,X.N[i]?=some z:=by
 have:=Gd.ns z (by unfold cS;rw[hz];rfl)
 obtain⟨i,hi,e⟩:=List.getElem_of_mem this
 exact⟨i,by rw[QL hi];exact SC some e⟩
theorem zm{H':Hp}{x:Addr}{od:Option Addr}(sm:av H H')(nx:H' x=none):av H (aG H' x (jf x C od)):=sm.trans fun a o h=>by rw[ax (aU h nx)];exact h
theorem ET{p:Str}(Gd:aO Φ Y.nox sc)(hcn:W.nsIn Y.K mainGlobals c=some (some (.ref C)))(hcp:W.nsIn Y.K mainGlobals p=some (some (.ref S)))(hex:fW Y.K C S)(hfo:∀f i,fs=[(f,i)]->tM Y.K C f)
  (hn:sc.names.lookup n=some .local) (hy:sc.names.lookup y=some .local) (hny:n≠y) (hd1:(n==("__debug__" : Str))=false) (hd2:(n==("__classdict__" : Str))=false) (hie:Y.N[ie]?=some n):IR Y C ie fs ρ (vT ρ n y c p fs) [.Assign [.Name y p1] (.Name n p2) p3]:=by
 intro x od σ H H' ow D E hl sm nx hfd q
 obtain⟨iy,hiy⟩:=xL Gd hy
 have hiy:Y.N[iy]?=some y:=hiy
 have hne:iy≠ie:=fun z=>hny (by rw[z,hie]at hiy;exact QK hiy)
 have hl2:iy<σ.length:=by rw[hl];exact(QJ.mp hiy).1
 have hl1:ie<σ.length:=by rw[hl];exact(QJ.mp hie).1
 have pv:PE (Y.nox.mark (.ref x)) (.Name n p2) (gH ie):=dO (X:=Y.nox.mark (.ref x)) hie (.inl (Gd.lc n hn)) hd1 hd2
 refine⟨_,kP (xt (X:=Y.nox.mark (.ref x)) (pos:=p3) (pos':=p1) Gd.nd hiy (.inl (Gd.lc y hy)) pv rfl (.inr (Gd.lc y hy))),_,RU hl1,?_⟩
 exact q ow _ _ (D1 (X:=Y.nox) E sm nx hie hiy (.inl (Gd.lc y hy)) hne hl2 hcn hcp hex hfd hfo) (by simpa using hl) (bf.same (zm sm nx))
def uX(Φ:Fx)(Ψ:Str->Option (List D->Option Xs))(Ex:Str->Option (Str×Option Str))(sc:Scope)(ps:List Str)(pre tb post:List Stmt)(B n y:Str)(ds:List D)(r:D):Prop :=
 ds.length=ps.length/\∃ρ1,af (aJ Φ pre sc (dg ps ds)) (.nx ρ1)/\∃p o fs,Ex B=some (p,o)/\(∀f i,fs=[(f,i)]->o=some f)/\Rt Φ Ψ sc tb ρ1 (B,p,fs)/\af (aJ Φ post sc (vT ρ1 n y B p fs)) (.rt r)
theorem DM{pre post:List Stmt}{C1:Addr}(Fn:fX K g qual st f fd)
  (S:aM (aq (ae st)) ps (ae st)) (hΦ:jN P w K mg base k Φ) (hΨ:∀g G,Ψ g=some G->gP P w K mg base k g G) (hmg:∀n C,W.nsIn K mainGlobals n=some (some (.ref C))->mg n=some (.ref C)) (hEx:AO K Ex)
  (hb:am st=pre ++ .Try tb [.ExceptHandler (some (.Name B bp)) (some n) [.Assign [.Name y q1] (.Name n q2) q3] hpos] [] [] tpos::post)
  (hB:(ae st).names.lookup B=some .globalImplicit) (hdb:(B==("__debug__" : Str))=false) (hn:(ae st).names.lookup n=some .local) (hy:(ae st).names.lookup y=some .local) (hny:n≠y) (hd1:(n==("__debug__" : Str))=false) (hd2:(n==("__classdict__" : Str))=false)
  (c1:W.nsIn K mainGlobals B=some (some (.ref C1))) (w1:W.exmOne K (.ref C1) (.ref C1)=some true)
  (hrun:∀ds r,af (F ds) r->uX Φ Ψ Ex (ae st) ps pre tb post B n y ds r):br P w K mg base cz (k+1) f fd ps (ja K F):=by
 refine Fn.ok S (fun vs H Q E h=>?_) (fun cdv A outer s H vs Q E hr h=>?_)
 ·obtain⟨ds,r,l,h1,h2,hp,_⟩:=h
  rw[<- h1.length];exact(hrun ds r ⟨l,h2,hp⟩).1
 ·obtain⟨ds,r,l,h1,h2,hp,qq⟩:=h
  obtain⟨hl,ρ1,h3,p,o,fs,hc,hfs,h5,h6⟩:=hrun ds r ⟨l,h2,hp⟩
  have G:=eO (outer:=outer) (H:=H) (E:=E) S hΦ hr
  obtain⟨E0,hsl⟩:=gC (P:=P) (w:=w) (mg:=mg) (base:=base) (qual:=qual) (f:=f) (cdv:=cdv) (A:=A) (outer:=outer) (s:=s) (E:=E) S h1 hl
  have B0:bQ H (fun _=>none) H:=fun a o h=>⟨h,rfl⟩
  obtain⟨ie,hie⟩:=xL G hn
  obtain⟨C,S',a1,a2,a3,_,a5⟩:=hEx B p _ hc
  rw[c1]at a1;cases a1
  have key:fc (cn cz P w K mg base (aq (ae st)) qual (ae st) f cdv A outer s H E).nox H ρ1 (.Try tb [.ExceptHandler (some (.Name B bp)) (some n) [.Assign [.Name y q1] (.Name n q2) q3] hpos] [] [] tpos::post) (.rt r) :=
   ee (CC (Y:=cn cz P w K mg base (aq (ae st)) qual (ae st) f cdv A outer s H E) [] G (fun g' G' hG=>(hΨ g' G' hG).at hr) rfl c1 a2 a3 (fun q hq=>by cases hq) w1 (hmg _ _ c1) hB hdb hn hie (ET G c1 a2 a3 (fun f i e=>a5 f (hfs f i e)) hn hy hny hd1 hd2 hie) h5) (nk post (H0:=H) h6 G R5)
  rw[hb]
  exact⟨_,ul (H0:=H) G R5 key h3,fun _=>none,E0,hsl,B0,fun ow' σ' H' E' hl' B'=>⟨ow',E',hl',B',fun v H2 s2 r2=>qq v H2 s2 r2⟩⟩
noncomputable def uU(P:List D->D->Prop):List D->Rs D:=fun ds => @dite (Rs D) (∃r,P ds r) (Classical.propDecidable _) (fun h=>.ok (Classical.choose h) []) (fun _=>.st)
theorem uT{P:List D->D->Prop}(h:af (uU P ds) r):P ds r:=by
 unfold uU at h
 split at h
 ·rename_i k;cases aI h;exact Classical.choose_spec k
 ·exact(au h).elim
theorem yj{P:List D->D->Prop}(h:P ds r):∃r',af (uU P ds) r'/\P ds r':=by
 have k:∃r,P ds r:=⟨r,h⟩
 exact⟨Classical.choose k,⟨[],by unfold uU;rw[dif_pos k],True.intro⟩,Classical.choose_spec k⟩
noncomputable def sP(f:List D->Option Xs)(P:List D->Xs->Prop):List D->Option Xs:=fun ds => @ite (Option Xs) (∃r,f ds=some r/\P ds r) (Classical.propDecidable _) (f ds) none
theorem Ee{f:List D->Option Xs}{P:List D->Xs->Prop}{r:Xs}(h:sP f P ds=some r):P ds r:=by
 unfold sP at h
 split at h
 ·rename_i k;obtain⟨r',e,p⟩:=k;rw[e]at h;cases h;exact p
 ·cases h
theorem HN{f:List D->Option Xs}{P:List D->Xs->Prop}{r:Xs}(e:f ds=some r)(h:P ds r):sP f P ds=some r:=by
 unfold sP;rw[if_pos ⟨r,e,h⟩];exact e
theorem Dy{f:Str}(h:kI X f G):∃a,X.mg f=some (.ref a)/\W.keepIn X.K (.ref a)=true/\(f==("__debug__" : Str))=false:=by
 rcases h with⟨k,a,fd,ps,_,_,hm,hk,_,hd⟩|⟨k,C,a,fd,ps,hM,_,_,hm,_,_,_,hd⟩
 ·exact⟨a,hm,hk,hd⟩
 ·exact⟨C,hm,hM.kp,hd⟩
theorem zn{p:Str}{f:Str}{Gf Gg:List D->Option Xs}{es:List Expr}{fp gp:Pos}{pins:List (Addr×Obj)}
  (Gd:aO Φ X.nox sc) (GF:kI X f Gf) (GG:kI X g Gg) (hcn:W.nsIn X.K mainGlobals n=some (some (.ref C))) (hcp:W.nsIn X.K mainGlobals p=some (some (.ref S))) (hex:fW X.K C S)
  (ha:af (bK Φ (e::es) sc ρ) (ds,k)) (hf:sc.names.lookup f=some .globalImplicit) (hg:sc.names.lookup g=some .globalImplicit) (h:Gg ds=some (n,p,fs)) (I:al X pins σ H s) (E:aF X.nox ow H σ ρ) (B:av H0 H)
  (hx:∀pins σ H1 s1 e s',al X pins σ H1 s1->cq X.prog X.w X.stack H1 s1 (u5 X.K H0 C fs) e s'->X.xe e s'):wpAny (model X.prog X.w) X.A (eval (.Call (.Name f fp) [.Call (.Name g gp) (e::es) [] q] [] q2) X.env) Q X.xe s:=by
 obtain⟨fa,hm,hk,hd⟩:=Dy GF
 have P2:PE X (.Call (.Name g gp) (e::es) [] q) (fun σ' H' _=>aF X.nox ow H' σ' ρ/\av H0 H'):=fun pins' s' σ' H' Q' I' ⟨E',B'⟩=>fD Gd GG hcn hcp hex ha hg h I' E' B' (hx pins' σ')
 have ns:∀(u:Expr) (r:Pos),Expr.Call (.Name g gp) (e::es) [] q ≠ .Starred u r:=fun _ _ z=>by cases z
 refine Rb (cH I (Gd.gl f hf) hm ?_ hd)
 exact Se (h₀:=X.base) I.ok.mod.kin hk (aN ((dC P2 ke (aA ns)) q2 pins s σ H (fun _ _=>False) I ⟨E,B⟩) fun us s1 ⟨vs,H1,I1,r,z⟩=>z.elim) (aA ns) (be fun x hx=>by cases hx)
inductive uY(Φ:Fx)(Ψ:Str->Option (List D->Option Xs))(Ex:Str->Option (Str×Option Str))(sc:Scope):List Stmt->ag->Xs->Prop where
 | rz {ss:List Stmt} {ρ:ag} {r:Xs} (h:Rz Φ Ψ Ex sc ss ρ r):uY Φ Ψ Ex sc ss ρ r
 | retA {f g:Str} {Gf Gg:List D->Option Xs} {e:Expr} {es:List Expr} {fp gp q q2 pos:Pos} {ds:List D} {k:Nat} {ss:List Stmt} {ρ:ag} {r:Xs} (hF:Ψ f=some Gf) (hG:Ψ g=some Gg) (ha:af (bK Φ (e::es) sc ρ) (ds,k)) (hf:sc.names.lookup f=some .globalImplicit) (hg:sc.names.lookup g=some .globalImplicit) (h:Gg ds=some r) :
  uY Φ Ψ Ex sc (.Return (some (.Call (.Name f fp) [.Call (.Name g gp) (e::es) [] q] [] q2)) pos::ss) ρ r
theorem Fw{r0:Xs}(Gd:aO Φ X.nox sc)
  (hz:∀{ss:List Stmt} {ρ:ag},Rz Φ Ψ Ex sc ss ρ r0->dP X ss (uc X H0 ρ))
  (hc0:∀{f g:Str} {Gf Gg:List D->Option Xs} {e:Expr} {es:List Expr} {fp gp q q2:Pos} {ds:List D} {k:Nat} {ρ:ag} {pins:List (Addr×Obj)} {s:Shared} {σ:L2.St} {H:Hp} {ow:Ow} {Q:Value->Shared->Prop},Ψ f=some Gf->Ψ g=some Gg->af (bK Φ (e::es) sc ρ) (ds,k)->sc.names.lookup f=some .globalImplicit->sc.names.lookup g=some .globalImplicit->Gg ds=some r0->al X pins σ H s->aF X.nox ow H σ ρ->av H0 H->wpAny (model X.prog X.w) X.A (eval (.Call (.Name f fp) [.Call (.Name g gp) (e::es) [] q] [] q2) X.env) Q X.xe s) :
  ∀{ss:List Stmt} {ρ:ag} {r:Xs},uY Φ Ψ Ex sc ss ρ r->r=r0->dP X ss (uc X H0 ρ):=by
 intro ss ρ r h er
 cases h with
 | rz h=>subst er;exact hz h
 | retA hF hG ha hf hg h =>
  subst er
  exact ek fun pins s σ H D I ⟨ow,E,hl',B⟩=>wpAny_Return_some (hc0 hF hG ha hf hg h I E B.sm)
theorem DP(Fn:fX K g qual st f fd)
  (S:aM (aq (ae st)) ps (ae st)) (hΦ:jN P w K mg base k Φ) (hΨ:∀g G,Ψ g=some G->gP P w K mg base k g G) (hmg:∀n C,W.nsIn K mainGlobals n=some (some (.ref C))->mg n=some (.ref C)) (hEI:BU P w K mg base k Ex)
  (hrun:∀ds r,G ds=some r->ds.length=ps.length/\uY Φ Ψ Ex (ae st) (am st) (dg ps ds) r):br P w K mg base (cq P w) (k+1) f fd ps (re K G):=by
 obtain⟨oc,od,kV,doc,pm,an,cdv,ct,osl,rfl,lk,hcd⟩:=Fn.ex
 refine qI lk hcd S (fun vs H Q E h=>?_) fun A outer s H vs Q E hr hsp=>?_
 ·obtain⟨ds,n,p,fs,C,S',h1,h2,_⟩:=h
  rw[<- h1.length];exact(hrun ds _ h2).1
 ·obtain⟨ds,n,p,fs,C,S',h1,h2,h3,h4,h5,h6⟩:=hsp
  obtain⟨hl,hz⟩:=hrun ds _ h2
  have Gd:=eO (outer:=outer) (H:=H) (E:=E) S hΦ hr
  obtain⟨E0,hsl⟩:=gC (P:=P) (w:=w) (mg:=mg) (base:=base) (qual:=qual) (f:=f) (cdv:=cdv) (A:=A) (outer:=outer) (s:=s) (E:=E) S h1 hl
  have B0:bQ H (fun _=>none) H:=fun a o h=>⟨h,rfl⟩
  have hcx:∀{pins' σ' H1 s1 e s'},al (cn (cq P w) P w K mg base (aq (ae st)) qual (ae st) f cdv A outer s H E) pins' σ' H1 s1->cq P w (cn (cq P w) P w K mg base (aq (ae st)) qual (ae st) f cdv A outer s H E).stack H1 s1 (u5 K H C fs) e s'->(cn (cq P w) P w K mg base (aq (ae st)) qual (ae st) f cdv A outer s H E).xe e s':=fun {pins' σ' H1 s1 e s'} I c=>by
   refine gS I rfl rfl ?_
   obtain⟨x,C',T,od,H',rfl,z1,z2,z3,z4,z5,z6,z7,z8,z9,⟨e1,e2,e3⟩⟩:=c
   cases e1
   exact⟨x,C,T,od,H',rfl,z1,z2,z3,z4,z5,z6,z7,z8,z9,h6 od H' e2 e3⟩
  refine⟨_,Fw (X:=(cn (cq P w) P w K mg base (aq (ae st)) qual (ae st) f cdv A outer s H E)) (H0:=H) (r0:=(n,p,fs)) Gd (fun {ss ρ} hz=>?_) (fun {f' g' Gf Gg e es fp gp q q2 ds k ρ pins s' σ H' ow Q'} hF hG ha hf hg h I E' B=>zn Gd ((hΨ _ _ hF).at hr) ((hΨ _ _ hG).at hr) h3 h4 h5 ha hf hg h I E' B fun pins' σ' H1 s1 e s' I c=>hcx I c) hz rfl,fun _=>none,E0,hsl,B0⟩
  refine Bb (X:=cn (cq P w) P w K mg base (aq (ae st)) qual (ae st) f cdv A outer s H E) (H0:=H) (C:=C) (S:=S') Gd (fun g' G' hG=>?_) h3 h4 h5 (hmg n C h3) (hEI n C h3).1 (fun p' f' hp'=>?_) (fun hfs pins σ H1 s1 h' a us I sm m=>?_) (fun f' i' hfs pins σ H1 s1 z dx tt o vv a0 sm hsq I w1 w2 w3 w4 w5 w6 w7 w8 w9 w10=>?_) (fun pins σ H1 s1 e s' I c=>?_) hz rfl
  ·exact(hΨ g' G' hG).at hr
  ·obtain⟨j,fI,oI,fd',ps',q0,q1,q2,q3,q4,q5,q6⟩:=(hEI n C h3).2 p' f' hp'
   exact⟨j,fI,oI,fd',ps',q1,q2,q3,q4,q5,hr.mono q0,q6⟩
  ·subst hfs
   exact lB I rfl rfl m (h6 none H1 sm ni.nil)
  ·subst hfs
   exact ij I rfl rfl w2 w3 w4 w5 w6 w7 w8 w10 w9 (h6 _ _ (sm.trans (bR w1)) (fun f i z=>by cases z;exact⟨dx,tt,rfl,aD,mE (bR w1) hsq⟩))
  ·refine gS I rfl rfl ?_
   obtain⟨x,C',T,od,H',rfl,z1,z2,z3,z4,z5,z6,z7,z8,z9,⟨e1,e2,e3⟩⟩:=c
   cases e1
   exact⟨x,C,T,od,H',rfl,z1,z2,z3,z4,z5,z6,z7,z8,z9,h6 od H' e2 e3⟩
section
variable{prog:Program}{A:Around}{E:Value->Shared->Prop}
theorem vM:typeLookup (.type "list_reverseiterator") "__len__" = pure none:=by rw[typeLookup_type,builtinLookup_eq_fast];kernel_rfl
theorem zI:typeLookup (.type "list_reverseiterator") "__length_hint__" = pure (some (.builtin "list_reverseiterator.__length_hint__")):=by rw[typeLookup_type,builtinLookup_eq_fast];kernel_rfl
theorem Dt:isSubtype (.type "list_reverseiterator") (.type "list_reverseiterator")=pure true:=by kernel_rfl
theorem xJ:splitId "list_reverseiterator.__length_hint__" = some ("list_reverseiterator", "__length_hint__"):=by decide +kernel
theorem xK{S I l:Nat}{items:Array Value}{res:Value}{R:Result->Shared->Prop}(hh:A.in1.handled=none)(n1:S≠I)(n2:S≠l)(n3:l≠I):∀(k:Nat) (s:Shared) (acc:Array Value) (c:Nat),k<=items.size->s.heap.IsRevIter I l ((k:Int)-1)->s.heap.IsList l items->s.heap.get? S=some (rW acc c)->acc.size+k<=sizeLine ->
  (∀h' acc' c',h'.get? S=some (rW acc' c')->acc'.toList=acc.toList++(items.toList.take k).reverse->(∀(b:Nat) o,b≠S->b≠I->s.heap.get? b=some o->h'.get? b=some o)->R (.ok (.ret res)) { s with heap:=h' }) ->
  codeAny (model prog w) A (.builtin "list.extend.loop" ⟨[.ref S,.ref I,res],[]⟩) R s
 | 0,s,acc,c,_,st,pl,hS,hz,q=>by
  refine uC (wpAny_pyNext_rev_end hh (by simpa using st) fun h' eb=>?_)
  exact q h' acc c (eb _ _ n1 hS) (by simp) fun b o _ hb e=>eb b o hb e
 | k+1,s,acc,c,hk,st,pl,hS,hz,q=>by
  have e:((k+1:Nat):Int)-1=(k:Int):=by omega
  rw[e]at st
  have hx:items[k]?=some items[k]:=Array.getElem?_eq_getElem (by omega)
  refine uC (wpAny_pyNext_rev_item st pl hx fun h' st' sb=>?_)
  refine⟨acc,c,(sb.2 _ n1).trans hS,by omega,fun h2 c2 hS2 sb2=>?_⟩
  have sb2:Heap.SameBut S h' h2:=sb2
  obtain⟨o,e1,e2,e3⟩:=st'
  obtain⟨o2,f1,f2,f3⟩:=pl
  refine xK hh n1 n2 n3 k { s with heap:=h2 } (acc.push items[k]) c2 (by omega) ⟨o,(sb2.2 _ (RB n1)).trans e1,e2,e3⟩ ⟨o2,(sb2.2 _ (RB n2)).trans ((sb.2 _ n3).trans f1),f2,f3⟩ hS2 (by rw[Array.size_push];omega) fun h3 acc' c' g1 g2 g3=>?_
  refine q h3 acc' c' g1 ?_ fun b o hb1 hb2 e=>g3 b o hb1 hb2 ((sb2.2 b hb1).trans ((sb.2 b hb2).trans e))
  rw[g2,Array.toList_push,List.take_add_one,List.append_assoc]
  congr 1
  have:items.toList[k]?=some items[k]:=by rw[Array.getElem?_toList];exact hx
  rw[this]
  simp
theorem zL{n l:Nat}{items:Array Value}(hh:A.handled=none)(hl:l<n)(st:s.heap.IsRevIter n l ((items.size:Int)-1))(pl:s.heap.IsList l items)(sz:s.heap.objs.size=n+1)(hz:items.size<=sizeLine)
  (go:∀h1 acc m,h1.get? (n+1)=some (rW acc m)->acc.toList=items.toList.reverse->(∀(d:Nat) o,d<n->s.heap.get? d=some o->h1.get? d=some o)->Q (.ref (n+1)) { s with heap:=h1 }) :
  wpAny (model prog w) A (call (.type "list") [.ref n]) Q E s:=by
 obtain⟨h0,gg,dd,t0,oo⟩:=s
 have sz:h0.objs.size=n+1:=sz
 refine callType_codes (Q₁:=fun ob s₁=>ob=.ref (n+1)/\s₁=⟨h0.push { cls:=.type "list", data:=.seq #[] },gg,dd,t0,oo⟩) F.called_list (F.typeCall_list_1 _) F.entry_list_init (code_list_new _ ⟨by show Value.ref h0.objs.size=_;rw[sz],rfl⟩) fun ob s₁ hq=>?_
 obtain⟨rfl,rfl⟩:=hq
 have hS:(h0.push { cls:=.type "list", data:=.seq #[] }).get? (n+1)=some (rW #[] 0):=by rw[<- sz];exact QH _ rfl
 refine⟨⟨_,hS,rfl⟩,F.args_list_init_2 _ _,?_⟩
 show wpAny _ A.in1.in1 (Builtin.List.listItems (.ref (n+1)) >>= fun old=>Builtin.List.listUpdate (.ref (n+1)) (fun _ => #[]) >>= fun _=>letGo old.toList.reverse >>= fun _=>Builtin.List.listExtendWith (.ref (n+1)) (.ref n) .none) _ _ _
 unfold Builtin.List.listItems
 refine Qx (Qx (R3 hS rfl (Qz ?_)))
 show wpAny _ A.in1.in1 (updateSeq (n+1) (fun _ => #[]) >>= _) _ _ _
 refine Qx (wpAny_updateSeq hS rfl ?_)
 refine Qx (wpAny_letGo ?_)
 have S1:=Ru (Obj.mapSeq (fun _=>(#[]:Array Value))) hS rfl
 generalize hr1:(h0.push { cls:=.type "list", data:=.seq #[] }).update (n+1) (Obj.mapSeq fun _=>(#[]:Array Value))=r1 at S1
 have k1:∀(d:Nat) o,d≠n+1->h0.get? d=some o->r1.get? d=some o:=fun d o g e=>by rw[<- hr1];exact(QQ _ _ (RB g)).trans (Qy _ e)
 obtain⟨m1,S1⟩:∃m,r1.get? (n+1)=some (rW #[] m):=⟨_,S1⟩
 obtain⟨o,e1,e2,e3⟩:=st
 obtain⟨o2,f1,f2,f3⟩:=pl
 have z1:r1.IsRevIter n l ((items.size:Int)-1):=⟨o,k1 _ _ (by omega) e1,e2,e3⟩
 have p1:r1.IsList l items:=⟨o2,k1 _ _ (by omega) f1,f2,f3⟩
 have ty:Shared.TypeIs ⟨r1,gg,dd,t0,oo⟩ (.ref n) "list_reverseiterator" := ⟨_,k1 _ _ (by omega) e1,e2⟩
 unfold Builtin.List.listExtendWith
 refine Qx (wpAny_typeOf ty ?_)
 have g1:Builtin.List.listSameRef (.ref (n+1)) (.ref n)=false:=by simp[Builtin.List.listSameRef]
 have g2:(Value.type "list_reverseiterator" == Value.type "list")=false:=by decide
 have g3:(Value.type "list_reverseiterator" == Value.type "tuple")=false:=by decide
 simp only[g1,g2,g3,Bool.or_false,Bool.false_eq_true,if_false]
 refine Qx (wpAny_pyIter_revIter z1 (Qx (Q7 ?_)))
 unfold Builtin.List.listLengthHint
 refine Qx (wpAny_specialOf ty vM ?_)
 show wpAny _ _ (specialOf (Value.ref n) (Str.ofString "__length_hint__") >>= _) _ _ _
 refine Qx (wpAny_specialOf ty zI ?_)
 dsimp only
 rw[xJ]
 refine Qx (wpAny_isInstance ty Dt ?_)
 rw[if_neg (by decide)]
 rw[if_pos (by decide +kernel)]
 rw[if_neg (by decide)]
 refine Qz ?_
 rw[if_neg (by decide +kernel)]
 refine Qz ⟨plainId_quiet F.plain_extend_loop _,?_⟩
 refine xK (A:=A.in1) (S:=n+1) (I:=n) (l:=l) hh (by omega) (by omega) (by omega) items.size ⟨r1,gg,dd,t0,oo⟩ #[] m1 (QF _) z1 p1 S1 (by simpa using hz) fun h' acc' c' q1 q2 q3=>?_
 refine⟨rfl,go h' acc' c' q1 (by rw[q2];simp;exact List.take_of_length_le (by simp)) fun d o hd e=>q3 d o (by omega) (by omega) (k1 _ _ (by omega) e)⟩
end
theorem D6{f:Str}{r:Pos}(hc:X.calm=true)(hf:f = "list")(hg:g = "reversed")(gf:Gl X f)(gg:Gl X g)(mf:X.mg f=none)(mg:X.mg g=none)
  (h:AD X ρ [e] [.lst l] k) (hst:∀y∈[e],∀x p,y ≠ .Starred x p) (fl:az l=true):ED X ρ (.Call (.Name f p) [.Call (.Name g q) [e] [] r] [] t) (.lst l.reverse) 0:=by
 intro ow pins s σ H Q I ⟨E,qq⟩
 subst hf hg
 refine Rb (eo I gf mf (u:=.type "list") (by decide +kernel) ?_ (by decide +kernel) (by decide +kernel))
 refine Rr (Calls.spliced_cons (Rb (eo I gg mg (u:=.type "reversed") (by decide +kernel) ?_ (by decide +kernel) (by decide +kernel)))) rfl rfl
 have n1:=aA (env:=X.env) (es:=[]) (hst e QE)
 have n2:(backTo r (starEach [] X.env)).any (·.1)=false:=be fun x hx=>by cases hx
 refine Rr (aN (h ow r pins s σ H _ I ⟨E,fun vs H1 s1 r1=>(show(fun vs H1=>av H H1/\ah X.K H1 (Kp ow H k) [.lst l] vs) vs H1 from⟨s1,r1⟩)⟩) fun us s1 ⟨vs,H1,I1,rv,sm,rp⟩=>?_) n1 n2
 obtain⟨v,rfl,rv1⟩:=rp.only
 obtain⟨a,xs,rfl,hq,rl,hk1⟩:=jW (κ:=false) rv1
 replace hq:cj X.K H1 a xs:=hq
 obtain⟨u,rfl,ru⟩:=dR rv
 cases (show u=Value.ref a from ru)
 obtain⟨its,rvs,pt,hz⟩:=I1.list hq
 have hh:X.A.handled=none:=I.ok.hd hc
 have pl:=pt.isList
 refine call_reversed_list pl ?_
 refine Calls.spliced_nil ?_
 obtain⟨hp,gs,dr,tk,os⟩:=s1
 have pl:hp.IsList a its.toArray:=pl
 have el:=rvs.length
 have fr:∀j:Nat,H1 (hp.objs.size+j)=none:=fun j=>I1.hok.fresh (Sc _ _)
 have alt:(a:Nat)<hp.objs.size:=let ⟨o,e,_⟩:=pl;QC e
 have KN:(hp.push (revObj a (((its.toArray.size:Nat):Int)-1))).IsList a its.toArray:=let ⟨o,e,c⟩:=pl;⟨o,Qy _ e,c⟩
 refine zL (n:=hp.objs.size) (l:=a) (items:=its.toArray) hh alt ⟨_,QH _ rfl,rfl,rfl⟩ KN (Rg ..) (by rw[QM,<- el];exact hz) fun h3 acc m S3 eA kp=>?_
 have kk:∀b o,hp.get? b=some o->h3.get? b=some o:=fun b o e=>kp b o (QC e) (Qy _ e)
 generalize hn:hp.objs.size=n at *
 have hk0:cD X.prog X.w H1 h3:=I1.hok.kept kk
 have ob:bG X.prog X.w (aG H1 (n+1) (.lst xs.reverse)) h3 (n+1) (.lst xs.reverse):=⟨by rw[List.length_reverse];exact hz,acc.toList,m,by rw[eA];exact rvs.reverse,by rw[Array.toArray_toList];exact S3⟩
 have hk1:=lT hk0 (fr 1) ob
 generalize hH:aG H1 (n+1) (.lst xs.reverse)=H4 at hk1
 have g6:H4 (n+1)=some (.lst xs.reverse):=by rw[<- hH];exact aD
 have old:∀c:Nat,c<n->H4 c=H1 c:=fun c hc=>by rw[<- hH,ax (by show(c:Nat)≠n+1;omega)]
 have inn:∀(c:Nat) o,H1 c=some o->c<n:=fun c o e=>by
  rcases RW c n with z|z
  ·exact z
  ·have:=fr (c-n);rw[Nat.add_sub_cancel' z]at this;rw[this]at e;cases e
 have s4:av H1 H4:=fun c o e=>(old c (inn c o e)).trans e
 have I4:al X pins σ H4 ⟨h3,gs,dr,tk,os⟩:=I1.un (t':=tk) (nU kk (fun c hc=>old c (by rw[<- hn];exact hc)) fun c o e=>by rw[hn];exact inn c o e) hk1
 refine⟨.ref (n+1),H4,I4,rfl,qq _ H4 (sm.trans s4) ?_⟩
 rw[aj]
 exact⟨n+1,_,true,rfl,g6,⟨rfl,sm.free (fr 1)⟩,(ah.flat _ fl (rl.same s4)).rev⟩
theorem Ct(h:fc X H0 (eB ρ) ss fl):fc X H0 ρ ss fl:=fun pins s σ H D I ⟨ow,E,hl,B,q⟩ =>
 h pins s σ H D I ⟨fun _=>none,Aa E,hl,fun a o h=>⟨(B a o h).1,rfl⟩,q.keep ⟨fun a o h _=>h,fun _ _ _ _=>rfl⟩⟩

def om(x:Int):List Int->List Int
 | []=>[x]
 | y::l=>if x<=y then x::y::l else y::om x l
def jo:List Int->List Int
 | []=>[]
 | x::l=>om x (jo l)
theorem kr(x:Int):∀l:List Int,(om x l).Perm (x::l)
 | []=>List.Perm.refl _
 | y::l=>by
  rw[om]
  split
  ·exact List.Perm.refl _
  ·exact((kr x l).cons y).trans (List.Perm.swap x y l)
theorem jV:∀l:List Int,(jo l).Perm l
 | []=>List.Perm.refl _
 | x::l=>(kr x (jo l)).trans ((jV l).cons x)
theorem si(x:Int):∀{l:List Int},l.Pairwise (· <= ·)->(om x l).Pairwise (· <= ·)
 | [],_=>List.pairwise_singleton _ _
 | y::l,h=>by
  rw[om]
  have hh:=SB.mp h
  split
  ·rename_i hxy
   exact SB.mpr ⟨fun z hz=>by
    rcases QA.mp hz with rfl|hz
    ·exact hxy
    ·exact Int.le_trans hxy (hh.1 z hz),h⟩
  ·rename_i hxy
   refine SB.mpr ⟨fun z hz=>?_,si x hh.2⟩
   rcases QA.mp ((kr x l).mem_iff.mp hz)with rfl|hz
   ·omega
   ·exact hh.1 z hz
theorem q9:∀l:List Int,(jo l).Pairwise (· <= ·)
 | []=>List.Pairwise.nil
 | x::l=>si x (q9 l)
theorem rK:∀{a b:List Int},a.Perm b->a.Pairwise (· <= ·)->b.Pairwise (· <= ·)->a=b
 | [],b,p,_,_=>by rw[List.nil_perm.mp p]
 | x::a,[],p,_,_=>by have:=p.length_eq;cases this
 | x::a,y::b,p,ha,hb=>by
  have h1:=SB.mp ha
  have h2:=SB.mp hb
  have e:x=y:=by
   have i1:x∈y::b:=p.mem_iff.mp QE
   have i2:y∈x::a:=p.mem_iff.mpr QE
   rcases QA.mp i1 with e|i1
   ·exact e
   ·rcases QA.mp i2 with e|i2
    ·exact e.symm
    ·have:=h1.1 y i2;have:=h2.1 x i1;omega
  subst e
  rw[rK ((List.perm_cons x).mp p) h1.2 h2.2]
theorem ph{a:List Int}(p:a.Perm ns)(h:a.Pairwise (· <= ·)):a=jo ns:=rK (p.trans (jV ns).symm) h (q9 ns)
theorem zf(ns:List Int):(jo ns).length=ns.length:=(jV ns).length_eq
theorem sh:∀{ns:List Int} {us:List Value},aL (ns.map V.int) us->IntsAre us ns
 | [],us,h=>by cases h;exact .nil
 | n::ns,us,h=>by
  cases h with
  | cons r1 r2=>obtain⟨t,rfl⟩:=r1;exact .cons n t (sh r2)
theorem sW:∀{ns:List Int} {us:List Value},IntsAre us ns->aL (ns.map V.int) us
 | _,_,.nil=>.nil
 | _,_,.cons n t h=>.cons ⟨t,rfl⟩ (sW h)
theorem iI{K:W.Frag}{H:Hp}{P:bj}:∀{ns:List Int} {vs:List V},ah K H P (ns.map D.int) vs->vs=ns.map V.int
 | [],vs,h=>by rw[SG,ah]at h;exact h
 | n::ns,vs,h=>by
  rw[Q8,ah]at h
  obtain⟨v,r,rfl,h1,h2⟩:=h
  rw[aj]at h1
  rw[iI h2,h1];rfl
theorem iL{K:W.Frag}{H:Hp}{P:bj}:∀ns:List Int,ah K H P (ns.map D.int) (ns.map V.int)
 | []=>ah.nil
 | n::ns=>ah.cons (by rw[aj]) (iL ns)
def Gy(b:Bool)(n0:Nat)(p0 kp:Pos):List Keyword:=cond b [⟨some (Str.ofString "reverse"),.Constant (.bool true) n0 p0,kp⟩] []
def jp(b:Bool)(ns:List Int):List Int:=cond b (jo ns).reverse (jo ns)
theorem Hs{f:Str}{p0 kp:Pos}{n0:Nat}(b:Bool)(hf:f = "sorted")(gf:Gl X f)(mf:X.mg f=none)
  (h:AD X ρ [e] [.lst (ns.map D.int)] k) (hst:∀y∈[e],∀x p,y ≠ .Starred x p) (hn:ns.length<64):ED X ρ (.Call (.Name f p) [e] (Gy b n0 p0 kp) t) (.lst ((jp b ns).map D.int)) 0:=by
 intro ow pins s σ H Q I ⟨E,qq⟩
 subst hf
 refine Rb (eo I gf mf (u:=.builtin "sorted") (by decide +kernel) ?_ (by decide +kernel) (by decide +kernel))
 have n1:=aA (env:=X.env) (es:=[]) (hst e QE)
 have n3:starEach [e] X.env=(false,eval e X.env)::starEach [] X.env:=n1
 have key:∀(us:List Value) (s1:Shared),(∃vs H1,al X pins σ H1 s1/\aL vs us/\av H H1/\ah X.K H1 (Kp ow H k) [.lst (ns.map D.int)] vs)->wpAny (model X.prog X.w) X.A (call (.builtin "sorted") us (cond b [(Str.ofString "reverse", .bool true)] [])) (fun v s2 => ∃x H2,al X pins σ H2 s2/\aY x v/\Q x H2) X.xe s1:=by
  rintro us s1 ⟨vs,H1,I1,rv,sm,rp⟩
  obtain⟨v,rfl,rv1⟩:=rp.only
  obtain⟨a,xs,rfl,hq,rl,hk1⟩:=jW (κ:=false) rv1
  replace hq:cj X.K H1 a xs:=hq
  obtain⟨u,rfl,ru⟩:=dR rv
  cases (show u=Value.ref a from ru)
  obtain⟨its,rvs,pt,hz⟩:=I1.list hq
  have pl:=pt.isList
  have ex:=iI rl
  subst ex
  have hI:=sh rvs
  have el:=rvs.length
  rw[Q0]at el
  obtain⟨hp,gs,dr,tk,os⟩:=s1
  have fin:∀(out:Array Value) (ns':List Int),IntsAre out.toList ns'->ns'=jp b ns->∃x H2,al X pins σ H2 ⟨sortedAll hp its out,gs,dr,tk,os⟩/\aY x (.ref (hp.objs.size+1))/\Q x H2:=by
   intro out ns' a1 e1
   subst e1
   obtain⟨m,S3⟩:=sortedAll_at hp its out
   have kk:∀b o,hp.get? b=some o->(sortedAll hp its out).get? b=some o:=fun b o e=>sortedAll_old e
   generalize sortedAll hp its out=h3 at *
   have fr:∀j:Nat,H1 (hp.objs.size+j)=none:=fun j=>I1.hok.fresh (Sc _ _)
   generalize hn':hp.objs.size=n at *
   have hk0:cD X.prog X.w H1 h3:=I1.hok.kept kk
   have lb:(jp b ns).length=ns.length:=by cases b<;>simp[jp,zf]
   have ob:bG X.prog X.w (aG H1 (n+1) (.lst ((jp b ns).map V.int))) h3 (n+1) (.lst ((jp b ns).map V.int)):=⟨by rw[Q0,lb,<- Q0 (f:=V.int)];exact hz,out.toList,m,sW a1,by rw[Array.toArray_toList];exact S3⟩
   have hk1:=lT hk0 (fr 1) ob
   generalize hH:aG H1 (n+1) (.lst ((jp b ns).map V.int))=H4 at hk1
   have g6:H4 (n+1)=some (.lst ((jp b ns).map V.int)):=by rw[<- hH];exact aD
   have old:∀c:Nat,c<n->H4 c=H1 c:=fun c hc=>by rw[<- hH,ax (by show(c:Nat)≠n+1;omega)]
   have inn:∀(c:Nat) o,H1 c=some o->c<n:=fun c o e=>by
    rcases RW c n with z|z
    ·exact z
    ·have:=fr (c-n);rw[Nat.add_sub_cancel' z]at this;rw[this]at e;cases e
   have s4:av H1 H4:=fun c o e=>(old c (inn c o e)).trans e
   have I4:al X pins σ H4 ⟨h3,gs,dr,tk,os⟩:=I1.un (t':=tk) (nU kk (fun c hc=>old c (by rw[<- hn'];exact hc)) fun c o e=>by rw[hn'];exact inn c o e) hk1
   refine⟨.ref (n+1),H4,I4,rfl,qq _ H4 (sm.trans s4) ?_⟩
   rw[aj]
   exact⟨n+1,_,true,rfl,g6,⟨rfl,sm.free (fr 1)⟩,iL _⟩
  cases b with
  | false=>exact sorted_ints pl hI (by omega) fun out ns' a1 a2 a3=>fin out ns' a1 (ph a2 a3)
  | true =>
   refine sorted_ints_rev (b:=true) pl hI (by omega) fun out ns' a1 a2 a3=>fin out ns' a1 ?_
   have a3:ns'.Pairwise (· >= ·):=a3
   have:=ph (a:=ns'.reverse) ((List.reverse_perm ns').trans a2) (List.pairwise_reverse.mpr a3)
   show ns'=(jo ns).reverse
   rw[<- this,List.reverse_reverse]
 cases b with
 | false =>
  refine callWith_kw (kws:=[]) (aN (h ow t pins s σ H _ I ⟨E,fun vs H1 s1 r1=>(show(fun vs H1=>av H H1/\ah X.K H1 (Kp ow H k) [.lst (ns.map D.int)] vs) vs H1 from⟨s1,r1⟩)⟩) fun us s1 ⟨vs,H1,I1,rv,sm,rp⟩=>kws_nil (key us s1 ⟨vs,H1,I1,rv,sm,rp⟩)) (by rw[n1];rfl) (be fun x hx=>hst x hx)
 | true =>
  refine callWith_kw (kws:=[⟨some (Str.ofString "reverse"),.Constant (.bool true) n0 p0,kp⟩]) (aN (h ow t pins s σ H _ I ⟨E,fun vs H1 s1 r1=>(show(fun vs H1=>av H H1/\ah X.K H1 (Kp ow H k) [.lst (ns.map D.int)] vs) vs H1 from⟨s1,r1⟩)⟩) fun us s1 ⟨vs,H1,I1,rv,sm,rp⟩=>kws_cons (Qz (kws_nil (key us s1 ⟨vs,H1,I1,rv,sm,rp⟩)))) (by rw[n1];rfl) (be fun x hx=>hst x hx)
theorem wy:∀{us:List Value},us.length<2->(us.toArray.zip us.toArray).map (·.2)=us.toArray
 | [],_=>by simp
 | [_],_=>by simp
 | _::_::_,h=>absurd h (by simp)
section
variable{prog:Program}{A:Around}{E:Value->Shared->Prop}
theorem vh{m:Nat}{R:Fin->Shared->Prop}(hb:s.heap.get? b=some (seqObj "list" us.toArray m))(hu:us.length<2)
  (go:R (.done (.ret .none)) { s with heap:=sortedHeap s.heap b us us.toArray }):wpAny (model prog w) A (Builtin.«list.sort» ⟨[.ref b],[]⟩) R E s:=by
 have lb:b<s.heap.objs.size:=QC hb
 obtain⟨c1,g1⟩:∃c,(s.heap.update b (Obj.mapSeq fun _ => #[])).get? b=some (seqObj "list" #[] c):=⟨_,get?_update_seq hb (fun _ => #[])⟩
 rw[list_sort_plain]
 refine Qx (listItems_at hb rfl (Qx (listUpdate_at hb rfl (Qx (seqEpoch_at g1 rfl (Qx (wpAny_newTuple (Qx (wpAny_newList (Q7 ?_))))))))))
 have g6:(((s.heap.update b (Obj.mapSeq fun _ => #[])).push (seqObj "tuple" us.toArray 0)).push (seqObj "list" #[] 0)).get? b=some (seqObj "list" #[] c1):=by
  have l1:b<(s.heap.update b (Obj.mapSeq fun _ => #[])).objs.size:=by rw[Heap.size_update];exact lb
  exact Qy _ (Qy _ g1)
 have l2:us.toArray.size<2:=by rw[QM];exact hu
 change wpAny (model prog w) A _ R E { s with heap:=((s.heap.update b (Obj.mapSeq fun _ => #[])).push (seqObj "tuple" us.toArray 0)).push (seqObj "list" #[] 0) }
 dsimp only
 rw[if_pos l2,if_pos l2]
 refine Qx (Qz ?_)
 rw[StateT.run_pure]
 refine Qx (Qz ?_)
 dsimp only
 have ea:Array.map (fun x=>x.snd) (arrOf (SortSt.mk' general' (us.toArray.zip us.toArray) #[] 7 none))=us.toArray:=wy hu
 rw[ea]
 refine Qx (seqEpoch_at g6 rfl (Qx (listUpdate_at g6 rfl ?_ (hsz2:=by rw[RV];omega))))
 simp only[bne_self_eq_false,Bool.false_eq_true,if_false]
 exact Qz go
theorem rg{R:Value->Shared->Prop}(hb:s.heap.IsList b us.toArray)(hu:us.length<2)
  (go:R (.ref (s.heap.objs.size+1)) { s with heap:=sortedAll s.heap us us.toArray }):wpAny (model prog w) A (call (.builtin "sorted") [.ref b]) R E s:=by
 have z1:((s.heap.push (seqObj "list" #[] 0)).update s.heap.objs.size (Obj.mapSeq (· ++ us.toArray))).objs.size=s.heap.objs.size+1:=(Heap.size_update ..).trans (size_push' ..)
 have z2:(((s.heap.push (seqObj "list" #[] 0)).update s.heap.objs.size (Obj.mapSeq (· ++ us.toArray))).push (seqObj "list" us.toArray 0)).get? (s.heap.objs.size+1)=some (seqObj "list" us.toArray 0):=z1 ▸ QH _ rfl
 refine Calls.call_function_entry kind_sorted plain_sorted entry_sorted (args_sorted1 _) ?_
 unfold Builtin.«sorted»
 refine Qx (m:=checkCount "sorted" 1 1 _) (Qz (Qx (collect_list hb (Qx (wpAny_newList ?_)) (by rw[RV];omega))))
 change wpAny _ _ _ _ _ { s with heap:=((s.heap.push (seqObj "list" #[] 0)).update s.heap.objs.size (Obj.mapSeq (· ++ us.toArray))).push (seqObj "list" us.toArray 0) }
 rw[z1]
 exact Qx (Q7 (So slot_list_sort ⟨_,z2,rfl⟩ entry_list_sort (vh z2 hu ⟨_,rfl,Qz ⟨_,rfl,go⟩⟩) (args_list_sort _)))
end
theorem Ad{f:Str}(hf:f = "sorted")(gf:Gl X f)(mf:X.mg f=none)
  (h:AD X ρ [e] [.lst l] k) (hst:∀y∈[e],∀x p,y ≠ .Starred x p) (hn:l.length<2) (fl:az l=true):ED X ρ (.Call (.Name f p) [e] [] t) (.lst l) 0:=by
 intro ow pins s σ H Q I ⟨E,qq⟩
 subst hf
 refine Rb (eo I gf mf (u:=.builtin "sorted") (by decide +kernel) ?_ (by decide +kernel) (by decide +kernel))
 have n1:=aA (env:=X.env) (es:=[]) (hst e QE)
 refine callWith_kw (kws:=[]) (aN (h ow t pins s σ H _ I ⟨E,fun vs H1 s1 r1=>(show(fun vs H1=>av H H1/\ah X.K H1 (Kp ow H k) [.lst l] vs) vs H1 from⟨s1,r1⟩)⟩) fun us s1 ⟨vs,H1,I1,rv,sm,rp⟩=>kws_nil ?_) (by rw[n1];rfl) (be fun x hx=>hst x hx)
 obtain⟨v,rfl,rv1⟩:=rp.only
 obtain⟨a,xs,rfl,hq,rl,hk1⟩:=jW (κ:=false) rv1
 replace hq:cj X.K H1 a xs:=hq
 obtain⟨u,rfl,ru⟩:=dR rv
 cases (show u=Value.ref a from ru)
 obtain⟨its,rvs,pt,hz⟩:=I1.list hq
 have el:=rvs.length
 have el2:=rl.length
 obtain⟨hp,gs,dr,tk,os⟩:=s1
 refine rg pt.isList (by omega) ?_
 obtain⟨m,S3⟩:=sortedAll_at hp its its.toArray
 have kk:∀b o,hp.get? b=some o->(sortedAll hp its its.toArray).get? b=some o:=fun b o e=>sortedAll_old e
 show ∃x H2,al X pins σ H2 ⟨sortedAll hp its its.toArray,gs,dr,tk,os⟩/\aY x (.ref (hp.objs.size+1))/\Q x H2
 generalize sortedAll hp its its.toArray=h3 at *
 have fr:∀j:Nat,H1 (hp.objs.size+j)=none:=fun j=>I1.hok.fresh (Sc _ _)
 generalize hn':hp.objs.size=n at *
 have hk0:cD X.prog X.w H1 h3:=I1.hok.kept kk
 have ob:bG X.prog X.w (aG H1 (n+1) (.lst xs)) h3 (n+1) (.lst xs):=⟨hz,its,m,rvs,S3⟩
 have hk1:=lT hk0 (fr 1) ob
 generalize hH:aG H1 (n+1) (.lst xs)=H4 at hk1
 have g6:H4 (n+1)=some (.lst xs):=by rw[<- hH];exact aD
 have old:∀c:Nat,c<n->H4 c=H1 c:=fun c hc=>by rw[<- hH,ax (by show(c:Nat)≠n+1;omega)]
 have inn:∀(c:Nat) o,H1 c=some o->c<n:=fun c o e=>by
  rcases RW c n with z|z
  ·exact z
  ·have:=fr (c-n);rw[Nat.add_sub_cancel' z]at this;rw[this]at e;cases e
 have s4:av H1 H4:=fun c o e=>(old c (inn c o e)).trans e
 have I4:al X pins σ H4 ⟨h3,gs,dr,tk,os⟩:=I1.un (t':=tk) (nU kk (fun c hc=>old c (by rw[<- hn'];exact hc)) fun c o e=>by rw[hn'];exact inn c o e) hk1
 refine⟨.ref (n+1),H4,I4,rfl,qq _ H4 (sm.trans s4) ?_⟩
 rw[aj]
 exact⟨n+1,_,true,rfl,g6,⟨rfl,sm.free (fr 1)⟩,ah.flat _ fl (rl.same s4)⟩
inductive Xd(Φ:Fx)(sc:Scope)(ρ:ag):Expr->D->Prop where
 | ev {e:Expr} {d:D} (h:af (aC Φ e false sc ρ) (d,0)):Xd Φ sc ρ e d
 | lrev {e:Expr} {l:List D} {k:Nat} {f g:Str} {p q r t:Pos} (h:af (bK Φ [e] sc ρ) ([.lst l],k)) (fl:az l=true) (hf:f = "list" := by rfl) (hg:g = "reversed" := by rfl) (gf:sc.names.lookup f=some .globalImplicit:=by rfl) (gg:sc.names.lookup g=some .globalImplicit:=by rfl):Xd Φ sc ρ (.Call (.Name f p) [.Call (.Name g q) [e] [] r] [] t) (.lst l.reverse)
 | srt (b:Bool) {e:Expr} {ns:List Int} {k n0:Nat} {f:Str} {p t p0 kp:Pos} (h:af (bK Φ [e] sc ρ) ([.lst (ns.map D.int)],k)) (hn:ns.length<64) (hf:f = "sorted" := by rfl) (gf:sc.names.lookup f=some .globalImplicit:=by rfl):Xd Φ sc ρ (.Call (.Name f p) [e] (Gy b n0 p0 kp) t) (.lst ((jp b ns).map D.int))
 | short {e:Expr} {l:List D} {k:Nat} {f:Str} {p t:Pos} (h:af (bK Φ [e] sc ρ) ([.lst l],k)) (hn:l.length<2) (fl:az l=true) (hf:f = "sorted" := by rfl) (gf:sc.names.lookup f=some .globalImplicit:=by rfl):Xd Φ sc ρ (.Call (.Name f p) [e] [] t) (.lst l)
 | pick4 {e1 e2 e3 e4 i:Expr} {d1 d2 d3 d4 d:D} {j:Int} {k:Nat} {lp p:Pos} (h1:Xd Φ sc ρ e1 d1) (h2:Xd Φ sc ρ e2 d2) (h3:Xd Φ sc ρ e3 d3) (h4:Xd Φ sc ρ e4 d4) (hi:af (aC Φ i false sc ρ) (.int j,k)) (ha:atI [d1,d2,d3,d4] j=some d):Xd Φ sc ρ (.Subscript (.List [e1,e2,e3,e4] lp) i p) d
theorem iG(h:Xd Φ sc ρ e d):∀y p,e ≠ .Starred y p:=by
 cases h with
 | ev h=>intro y p z;subst z;obtain⟨_,h,_⟩:=h;cases h
 | lrev=>intro y p z;cases z
 | srt=>intro y p z;cases z
 | short=>intro y p z;cases z
 | pick4=>intro y p z;cases z
theorem Dq(d:D):mk d 0=.ok (d,0) []:=by unfold mk kn;split<;>rfl
theorem AZ(G:aO Φ X sc)(h:Xd Φ sc ρ e d):ED X ρ e d 0:=by
 induction h with
 | ev h=>exact(bv h G).ed rfl
 | lrev h fl hf hg gf gg =>
  obtain⟨l7,h7,p7⟩:=h
  obtain⟨hst,_⟩:=cf h7 p7
  exact D6 G.calm hf hg (G.gl _ gf) (G.gl _ gg) (by subst hf;exact G.bl _ (by decide +kernel)) (by subst hg;exact G.bl _ (by decide +kernel)) (fN [_] h7 p7 G) hst fl
 | srt b h hn hf gf =>
  obtain⟨l7,h7,p7⟩:=h
  obtain⟨hst,_⟩:=cf h7 p7
  exact Hs b hf (G.gl _ gf) (by subst hf;exact G.bl _ (by decide +kernel)) (fN [_] h7 p7 G) hst hn
 | short h hn fl hf gf =>
  obtain⟨l7,h7,p7⟩:=h
  obtain⟨hst,_⟩:=cf h7 p7
  exact Ad hf (G.gl _ gf) (by subst hf;exact G.bl _ (by decide +kernel)) (fN [_] h7 p7 G) hst hn fl
 | pick4 h1 h2 h3 h4 hi ha i1 i2 i3 i4 =>
  have at4:=eV i1 (eV i2 (eV i3 (eV i4 jj (aA (iG h4))) (aA (iG h3))) (aA (iG h2))) (aA (iG h1))
  obtain⟨l,hi',pi⟩:=hi
  refine BA (o:=[]) (uP (k:=0) at4 (QZ _) (by show 4<=40000;decide)) ((bv ⟨l,hi',pi⟩ G).ed rfl) (mI hi') ?_
  show(match atI _ _ with|some d=>mk d 0|none=>.st)=_
  rw[ha]
  exact Dq _
inductive Rn(Φ:Fx)(sc:Scope):List Stmt->ag->D->Prop where
 | fin {ss:List Stmt} {ρ:ag} {r:D} (h:af (aJ Φ ss sc ρ) (.rt r)):Rn Φ sc ss ρ r
 | cut (n:Nat) {ss:List Stmt} {ρ ρ1:ag} {r:D} (h:af (aJ Φ (ss.take n) sc ρ) (.nx ρ1)) (k:Rn Φ sc (ss.drop n) ρ1 r):Rn Φ sc ss ρ r
 | dem {ss:List Stmt} {ρ:ag} {r:D} (k:Rn Φ sc ss (eB ρ) r):Rn Φ sc ss ρ r
 | set {x:Str} {e:Expr} {px q:Pos} {ss:List Stmt} {ρ:ag} {d r:D} (h:Xd Φ sc ρ e d) (k:Rn Φ sc ss (bP ρ x (d,true)) r) (hx:cS sc x=true:=by rfl) (hc:il e=false:=by rfl):Rn Φ sc (.Assign [.Name x px] e q::ss) ρ r
theorem D7{lo hi:Option Expr}{l h:Option Int}(ha:ED X ρ a (.lst m) 1)(hl:OD X ρ lo l)(hh:OD X ρ hi h):ED X ρ (.Subscript a (.Slice lo hi none p2) pos) (.lst (kA m l h)) 1:=by
 refine fun ow=>bF (lP ug (ha ow) (hl ow) (hh ow)) fun σ H Q ⟨E,q⟩=>⟨E,fun v H1 s1 r1=>⟨E.same s1,fun H2 s2=>⟨(E.same s1).same s2,fun H3 s3=>?_⟩⟩⟩
 have s13:=s2.trans s3
 obtain⟨p,vs,rfl,hq,rl⟩:=fK (r1.same s13)
 refine⟨p,vs,rfl,hq,fun p' hp'=>?_⟩
 have sm:=bR (o:=HO.lst (ir vs l h)) hp'
 refine q _ _ ((s1.trans s13).trans sm) ?_
 rw[aj]
 exact⟨p',_,true,rfl,aD,fun _=>E.own.free ((s1.trans s13).free hp'),rl.cut.same sm⟩
theorem D9{b:Expr}(ha:ED X ρ a (.lst l) 1)(hb:ED X ρ b (.lst m) 1)(hn:l.length+m.length<=cG):ED X ρ (.BinOp a .Add b pos) (.lst (l++m)) 1:=by
 refine fun ow=>bF (Bh ut (ha ow) (hb ow)) fun σ H Q ⟨E,q⟩=>⟨E,fun v H1 s1 r1=>⟨E.same s1,fun u H2 s2 r2=>?_⟩⟩
 have r1':=r1.same s2
 have r2':=r2.imp (Kp.back s1 1)
 rw[aj]at r1' r2'
 obtain⟨pa,va,b1,rfl,ha,qa,ra⟩:=r1'
 obtain⟨pb,vb,b2,rfl,hb,qb,rb⟩:=r2'
 have la:=ra.length
 have lb:=rb.length
 refine⟨pa,pb,va,vb,rfl,rfl,ha.sq,hb.sq,by rw[<- la,<- lb];exact QD hn dU,fun p hp'=>?_⟩
 have sm:=bR (o:=HO.lst (va++vb)) hp'
 refine q _ _ ((s1.trans s2).trans sm) ?_
 rw[aj]
 exact⟨p,_,true,rfl,aD,fun _=>E.own.free ((s1.trans s2).free hp'),(ra.same sm).append (rb.same sm)⟩
def aS(l:List Int):D:=.lst (l.map D.int)
theorem rT:∀{a b:List Int},a.map V.int=b.map V.int->a=b
 | [],[],_=>rfl
 | [],_::_,h=>by cases h
 | _::_,[],h=>by cases h
 | x::a,y::b,h=>by
  simp only[Q8,List.cons.injEq,V.int.injEq]at h
  rw[h.1,rT h.2]
theorem uj{P:bj}(hP:∀a b,P a b->b=true){l l':List Int}{v:V}(h:aj K H P (aS l) v)(hb:H b=some (.lst (l'.map V.int)))(hne:l≠l'){o:HO}:aj K (aG H b o) P (aS l) v:=by
 unfold aS at h⊢
 rw[aj]at h⊢
 obtain⟨a,vs,c,rfl,h1,h2,h3⟩:=h
 cases hP _ _ h2
 have e:=iI h3
 subst e
 have hab:a≠b:=fun z=>by
  subst z
  have:some (HO.lst (l.map V.int))=some (.lst (l'.map V.int)):=Eq.trans (Eq.symm h1) hb
  exact hne (rT (HO.lst.inj (QK this)))
 exact⟨a,_,true,rfl,(ax hab).trans h1,h2,iL _⟩
theorem ui{K:W.Frag}{H:Hp}{P:bj}(hP:∀a b,P a b->b=true){b:Addr}{l l':List Int}(hb:H b=some (.lst (l.map V.int))):∀{Ls:List (List Int)} {vs:List V} {n:Nat},ah K H P (Ls.map aS) vs->Ls[n]?=some l->vs[n]?=some (.ref b) ->
  (∀a m,Ls[a]?=some m->a≠n->m≠l)->ah K (aG H b (.lst (l'.map V.int))) P ((Ls.set n l').map aS) vs
 | [],vs,n,h,e,_,_=>by simp at e
 | x::Ls,vs,0,h,e,ev,hd=>by
  rw[Q8,ah]at h
  obtain⟨v,r,rfl,h1,h2⟩:=h
  cases (QK e:x=l)
  cases (QK ev:v=.ref b)
  rw[List.set_cons_zero,Q8]
  refine ah.cons ?_ ?_
  ·unfold aS at h1⊢
   rw[aj]at h1⊢
   obtain⟨a,vs,c,e,h1,h3,h4⟩:=h1
   cases e
   exact⟨b,_,true,rfl,aD,by cases hP _ _ h3;exact h3,iL _⟩
  ·have:∀(M:List (List Int)) (ws:List V),(∀m∈M,m≠l)->ah K H P (M.map aS) ws->ah K (aG H b (.lst (l'.map V.int))) P (M.map aS) ws:=by
    intro M
    induction M with
    | nil=>intro ws _ h;rw[SG,ah]at h;subst h;exact ah.nil
    | cons m M ih =>
     intro ws hm h
     rw[Q8,ah]at h
     obtain⟨v,r,rfl,g1,g2⟩:=h
     exact ah.cons (uj hP g1 hb (hm m QE)) (ih r (fun y hy=>hm y (QB _ hy)) g2)
   refine this Ls r (fun m hm=>?_) h2
   obtain⟨k,hk⟩:=List.mem_iff_getElem?.mp hm
   exact hd (k+1) m (by simpa using hk) (Nat.succ_ne_zero k)
 | x::Ls,vs,n+1,h,e,ev,hd=>by
  rw[Q8,ah]at h
  obtain⟨v,r,rfl,h1,h2⟩:=h
  rw[List.set_cons_succ,Q8]
  exact ah.cons (uj hP h1 hb (hd 0 x rfl (fun z=>nomatch z))) (ui hP hb h2 (by simpa using e) (by simpa using ev) fun a m ha hn=>hd (a+1) m (by simpa using ha) (by omega))
theorem DZ{a:Addr}{us:List V}{i:Nat}(E:aF X ow H1 σ ρ)(hi:X.N[i]?=some x)(hs:σ[i]?=some (some (.ref a)))
  (hv:fb X.env.scope x) (ha:H1 a=some (.lst vs)) (ho:ow a=some (some x)) (hb:H1 b=some (.lst us)) (hob:ow b=some (some x)) (hab:a≠b) (r':ah X.K (aG H1 b (.lst us')) (jq ow x true) l' vs) :
  aF X ow (aG H1 b (.lst us')) σ (bP ρ x (.lst l',true)):=by
 have st:∀{P:bj},(P b true->False)->dM P P H1 (aG H1 b (.lst us')):=fun {P} h=>⟨fun c o hc hn=>by rw[ax (fun z=>by subst z;rw[hb]at hc;cases hc;exact hn)];exact hc,fun c ws hc p=>by rw[ax (fun z=>by subst z;exact h p)];exact hc,fun _ _ _ p=>p,fun _ p=>p⟩
 refine⟨fun y e o h=>?_,fun c hc=>?_⟩
 ·rw[dl]at h
  by_cases hy:y=x
  ·subst hy
   rw[if_pos rfl]at h
   cases h
   exact⟨i,.ref a,hi,hv,hs,by rw[aj];exact⟨a,vs,true,rfl,(ax hab).trans ha,⟨rfl,ho⟩,r'⟩⟩
  ·rw[if_neg hy]at h
   obtain⟨j,w,e1,e2,e3,e4⟩:=E.get y e o h
   refine⟨j,w,e1,e2,e3,e4.mono (st fun p=>?_)⟩
   cases o with
   | true=>have:=p.2;rw[hob]at this;cases this;exact hy rfl
   | false=>have:=p rfl;rw[hob]at this;cases this
 ·by_cases hz:c=b
  ·subst hz;exact⟨_,aD⟩
  ·rw[ax hz];exact E.own c hc
theorem CD{m:Expr}{Ls:List (List Int)}{l:List Int}{jm v:Int}{n nm:Nat}(hx:ρ x=some (.lst (Ls.map aS),true))(h:ED X ρ e (.int v) k)(hi:ED X ρ i (.int j) k1)(hm:ED X ρ m (.int jm) k2)(hn:cQ x=true)
  (h1:ixN Ls.length j=some n) (h2:Ls[n]?=some l) (h3:ixN l.length jm=some nm) (hd:∀a y,Ls[a]?=some y->a≠n->y≠l) (hs:eY i) (hsl:∀a b c p,m ≠ .Slice a b c p) :
  SD X H0 ρ (.Assign [.Subscript (.Subscript (.Name x p1) i p2) m p3] e pos) (.nx (bP ρ x (.lst ((Ls.set n (l.set nm v)).map aS),true))):=by
 intro pins s σ H D I ⟨ow,E,hl,B,q⟩
 obtain⟨ix,a,vs,g1,g2,g3,g4,g5,g6⟩:=mL I E hx
 have pn:PE X (.Name x p1) (gH ix):=dO g1 g2 (bU hn).1 (bU hn).2
 obtain⟨w,hw,rw'⟩:=g6.get (i:=n) (d:=aS l) (by rw[QS,h2];rfl)
 unfold aS at rw'
 rw[aj]at rw'
 obtain⟨b,us,bb,rfl,hb,pb,rl⟩:=rw'
 cases pb.1.1
 have eu:=iI rl
 subst eu
 refine hW (h ow) (j9 (kQ kW pn (hi ow) hs) (hm ow) hJ (fun v=>by cases m<;>first|rfl|exact absurd rfl (hsl _ _ _ _))) jT (by cases e<;>rfl) rfl pins s σ H D I ⟨E,fun v' H1 s1 r1=>?_⟩
 rw[aj]at r1;subst r1
 refine⟨_,g3,E.same s1,fun u H2 s2 r2=>?_⟩
 rw[aj]at r2;subst r2
 have s12:=s1.trans s2
 refine⟨a,vs,j,.ref b,rfl,rfl,cj.of (s12 _ _ g4),?_,E.same s12,fun u H3 s3 r3=>?_⟩
 ·unfold L2.atI
  rw[<- g6.length,Q0,h1]
  exact hw
 rw[aj]at r3;subst r3
 have s13:=s12.trans s3
 refine⟨b,l.map V.int,jm,nm,rfl,rfl,s13 _ _ hb,by rw[Q0];exact h3,?_⟩
 have em:(l.map V.int).set nm (.int v)=(l.set nm v).map V.int:=by rw[SS]
 rw[em]
 have hb':H3 b=some (.lst (l.map V.int)):=s13 _ _ hb
 refine q ow σ _ (DZ (E.same s13) g1 g3 g2 (s13 _ _ g4) g5 hb' pb.1.2 (RB pb.2) ?_) hl (jt s13 hb pb.1.2)
 exact(ui (fun _ _ p=>p.1) hb' ((g6.same s13).imp fun _ _ p=>p.1) h2 hw hd)
def qK(ρ:ag)(x:Str):ag:=fun y=>if y=x then none else ρ y
theorem DX{us:List V}(E:aF X ow H1 σ ρ)(hb:H1 b=some (.lst us))(hob:ow b=some (some x)):aF X ow (aG H1 b (.lst us')) σ (qK ρ x):=by
 have st:∀{P:bj},(P b true->False)->dM P P H1 (aG H1 b (.lst us')):=fun {P} h=>⟨fun c o hc hn=>by rw[ax (fun z=>by subst z;rw[hb]at hc;cases hc;exact hn)];exact hc,fun c ws hc p=>by rw[ax (fun z=>by subst z;exact h p)];exact hc,fun _ _ _ p=>p,fun _ p=>p⟩
 refine⟨fun y e o h=>?_,fun c hc=>?_⟩
 ·unfold qK at h
  by_cases hy:y=x
  ·rw[if_pos hy]at h;cases h
  ·rw[if_neg hy]at h
   obtain⟨j,w,e1,e2,e3,e4⟩:=E.get y e o h
   refine⟨j,w,e1,e2,e3,e4.mono (st fun p=>?_)⟩
   cases o with
   | true=>have:=p.2;rw[hob]at this;cases this;exact hy rfl
   | false=>have:=p rfl;rw[hob]at this;cases this
 ·by_cases hz:c=b
  ·subst hz;exact⟨_,aD⟩
  ·rw[ax hz];exact E.own c hc
theorem zg{p:Addr}(h:bT K H p vs)(s:av H H1):bT K H1 p vs:=by
 rcases h with(h|⟨o,h⟩)|h
 ·exact .inl (.inl (s _ _ h))
 ·exact .inl (.inr ⟨o,s _ _ h⟩)
 ·exact .inr h
theorem CK{m:Str}{M:List D->List D->Nat->Rs (List D)}{ap cp:Pos}{dt:List D}{ki:Nat}(hcalm:X.calm=true)(hM:lm m M)(hx:ρ x=some (.tup dt,true))(hi:ED X ρ i (.int j) ki)(hs:eY i)(hat:L2.atI dt j=some (.lst l))
  (h:AD X ρ [e] [d] k) (hst:∀y p,e ≠ .Starred y p) (hn:cQ x=true) (hln:(ap.endLine==cp.line)=true) (hm:M l [d] k=.ok l' o) (hp:aH o):SD X H0 ρ (.Expr (.Call (.Attribute (.Subscript (.Name x p1) i p2) m ap) [e] [] cp) p4) (.nx (qK ρ x)):=by
 obtain⟨id,r,sl,ty,mt,hr⟩:=hM X hcalm
 intro pins s σ H D I ⟨ow,E,hl,B,q⟩
 obtain⟨ix,v,g1,g2,g3,g4⟩:=E.get x _ _ hx
 have pn:PE X (.Name x p1) (gH ix):=dO g1 g2 (bU hn).1 (bU hn).2
 obtain⟨p,vs,rfl,hq,rl⟩:=ej g4
 obtain⟨w,hw,rw'⟩:=rl.atI hat
 rw[aj]at rw'
 obtain⟨b,us,bb,rfl,hb,pb,rl2⟩:=rw'
 cases pb.1
 have hfew:((backTo cp (starEach [e] X.env)).all (fun x => !x.1)&&(backToKw cp (keywordEach [] X.env)).all (fun x=>x.1.isSome)&&decide ([e].length+([]:List Keyword).length+(if ([]:List Keyword).isEmpty then 0 else 1)<30))=true:=by
  rw[jr (fun z hz=>by rw[SA.mp hz];exact hst)];rfl
 refine gZ (Bi PySem.F.plainAttrs_list sl ty mt (kQ xQ pn (hi ow) hs) (h ow) rfl hfew hln (aA hst) (be fun z hz=>by cases hz)) rfl pins s σ H D I ⟨_,g3,E,fun u H1 s1 r1=>?_⟩
 rw[aj]at r1;subst r1
 refine⟨p,vs,j,.ref b,rfl,rfl,zg hq s1,hw,.inl ⟨rfl,_,cj.of (s1 _ _ hb)⟩,E.same s1,fun ws H2 s2 r2=>?_⟩
 have s12:=s1.trans s2
 refine(hr ow H1 H2 l [d] l' k o b us ws hm hp).2 (fun _ _=>True) _ (fun _ _ _=>True.intro) (E.own.same s1) s2 (s12 _ _ hb) ((rl2.imp fun _ _ _=>True.intro).same s12) r2 fun vs' _ rv=>?_
 exact q ow σ _ (DX (E.same s12) (s12 _ _ hb) pb.2) hl (jt s12 hb pb.2)
def yS(X:Cx)(H0:Hp)(tg:Expr)(body:List Stmt):List D->ag->Fl->Prop
 | [],ρ,fl=>fl=.nx ρ
 | d::ds,ρ,fl => ∃ρ1,GD X ρ tg d ρ1/\((∃ρ2,fc X H0 ρ1 body (.nx ρ2)/\yS X H0 tg body ds ρ2 fl)\/∃r,fl=.rt r/\fc X H0 ρ1 body (.rt r))
theorem CM(hp:PassesOwn (model X.prog X.w) X.A X.env X.xe)(hcalm:X.calm=true)
  (hi:IE X (demote iter ρ) tg iter ds k) (hk:k<=1) (h:yS X H0 tg body ds (demote iter ρ) fl)
  (hs:∀x,foldedSetIterable iter X.env x=pure x):SD X H0 ρ (.For tg iter body [] pos) fl:=by
 intro pins s σ H D0 I ⟨ow0,E0,hl,B0,q0⟩
 obtain⟨ow,E,k0⟩:=nu (e:=iter) E0
 have B:=B0.keep k0
 have q:=q0.keep k0
 have pb:dP X body (fun D σ H => ∃ρ fl,fc X H0 ρ body fl/\wU X H0 ρ fl D σ H):=fun pins s σ H D I ⟨ρ1,fl1,h1,h2⟩=>h1 pins s σ H D I h2
 have pg:PG X tg (fun v σ H Q => ∃g:TG,PG X tg g/\g v σ H Q):=fun pins s σ H v u Q I r ⟨g,h1,h2⟩=>h1 pins s σ H v u Q I r h2
 refine rE hp hcalm (hi ow) pg pb hs pins s σ H D0 I ⟨E,fun J H1 s1 itd=>?_⟩
 refine⟨fun i m σ' H'=>m=ds.length-i/\i<=ds.length/\∃ow' ρ',aF X ow' H' σ' ρ'/\σ'.length=X.N.length/\bQ H0 ow' H'/\bf ow H1 ow' H'/\yS X H0 tg body (ds.drop i) ρ' fl,
  ⟨ds.length,by simp,QZ _,ow,_,E.same s1,hl,B.keep (bf.same s1),bf.refl _ _,h⟩,?_⟩
 rintro i m σ' H' ⟨rfl,hile,ow',ρ',E',hl',B',k',hf⟩
 have q':mj X H0 ow' H' fl D0:=q.keep ((bf.same s1).trans k')
 have st:dM (Kd ow H k H1) (Kd ow H k H1) H1 H':=⟨fun a o ha hn=>k'.keep a o ha (.inl hn),fun a vs ha p=>k'.keep a _ ha (.inr (fF E.own hk p.1)),fun _ _ _ p=>p,fun _ p=>p⟩
 have it:=itd i H' st
 by_cases hlt:i<ds.length
 ·obtain⟨go,yl⟩:=it.1 ds[i] (QL hlt)
  have hdrop:ds.drop i=ds[i]::ds.drop (i+1):=List.drop_eq_getElem_cons hlt
  rw[hdrop]at hf
  refine .inr ⟨go,fun σ2 H2=>i+1<=ds.length/\∃ow2 ρ2,aF X ow2 H2 σ2 ρ2/\σ2.length=X.N.length/\bQ H0 ow2 H2/\bf ow H1 ow2 H2/\yS X H0 tg body (ds.drop (i+1)) ρ2 fl,fun σ2 H2 n=>⟨ds.length-(i+1),by omega,rfl,n.1,n.2⟩,fun x H3 y3=>?_⟩
  obtain⟨sm3,rx⟩:=yl x H3 y3
  obtain⟨ρ1,⟨g,g1,g2⟩,hf⟩:=hf
  have rx':aj X.K H3 (fun a b=>b=true->ow' a=none) ds[i] x:=rx.impH (fun a o ha p _=>by
   obtain⟨o1,h1⟩:=p.2 rfl
   exact k'.low a o1 h1 (fF E.own hk p.1)) fun a _ z=>(by cases z)
  refine⟨g,g1,g2 ow' x σ' H3 _ hl' (E'.same sm3) rx' fun σ2 hl2 E2=>?_⟩
  have k3:bf ow' H' ow' H3:=bf.same sm3
  rcases hf with⟨ρ2,hb,hf⟩|⟨r,rfl,hb⟩
  ·exact⟨ρ1,.nx ρ2,hb,ow',E2,hl2,B'.keep k3,fun ow2 σ3 H4 a b c=>⟨hlt,ow2,ρ2,a,b,(B'.keep k3).keep c,k'.trans (k3.trans c),hf⟩⟩
  ·exact⟨ρ1,.rt r,hb,ow',E2,hl2,B'.keep k3,q'⟩
 ·have ei:i=ds.length:=by omega
  subst ei
  rw[List.drop_length]at hf
  cases (show fl=.nx ρ' from hf)
  exact .inl ⟨it.2 (QF _),q' ow' σ' H' E' hl' (bf.refl _ _)⟩
def yT(X:Cx)(tg:Expr)(c:Expr):List D->ag->ag->Prop
 | [],ρ,ρ'=>ρ'=ρ
 | d::ds,ρ,ρ' => ∃ρ1,GD X ρ tg d ρ1/\TD X ρ1 c false/\yT X tg c ds ρ1 ρ'
theorem CL{ρf:ag}{c:Expr}{a:List Stmt}{q0:Pos}(hp:PassesOwn (model X.prog X.w) X.A X.env X.xe)(hcalm:X.calm=true)
  (hi:IE X ρ tg iter ds k) (hll:az ds=true) (h:yT X tg c ds ρ ρf)
  (hs:∀x,foldedSetIterable iter X.env x=pure x):SD X H0 ρ (.For tg iter [.If c a [] q0] [] pos) (.nx ρf):=by
 intro pins s σ H D0 I ⟨ow,E,hl,B,q⟩
 have pb:dP X [.If c a [] q0] (fun D σ H => ∃ρ,TD X ρ c false/\aF X ow H σ ρ/\∀H2,av H H2->D.nx σ H2):=fun pins s σ H D I ⟨ρ1,h1,h2,h3⟩=>dS (vw (h1 ow) gz n8) n8 pins s σ H D I ⟨h2,fun H2 s2=>by
  show if false=true then _ else _
  rw[if_neg QP]
  exact h3 H2 s2⟩
 have pg:PG X tg (fun v σ H Q => ∃g:TG,PG X tg g/\g v σ H Q):=fun pins s σ H v u Q I r ⟨g,h1,h2⟩=>h1 pins s σ H v u Q I r h2
 refine rE hp hcalm (hi ow) pg pb hs pins s σ H D0 I ⟨E,fun J H1 s1 itd=>?_⟩
 refine⟨fun i m σ' H'=>m=ds.length-i/\i<=ds.length/\∃ρ',aF X ow H' σ' ρ'/\σ'.length=X.N.length/\av H1 H'/\yT X tg c (ds.drop i) ρ' ρf,
  ⟨ds.length,by simp,QZ _,_,E.same s1,hl,av.refl _,h⟩,?_⟩
 rintro i m σ' H' ⟨rfl,hile,ρ',E',hl',sm,hf⟩
 have st:dM (Kd ow H k H1) (Kd ow H k H1) H1 H':=⟨fun a o ha _=>sm a o ha,fun a o ha _=>sm a o ha,fun _ _ _ p=>p,fun _ p=>p⟩
 have it:=itd i H' st
 by_cases hlt:i<ds.length
 ·obtain⟨go,yl⟩:=it.1 ds[i] (QL hlt)
  have hdrop:ds.drop i=ds[i]::ds.drop (i+1):=List.drop_eq_getElem_cons hlt
  rw[hdrop]at hf
  refine .inr ⟨go,fun σ2 H2=>i+1<=ds.length/\∃ρ2,aF X ow H2 σ2 ρ2/\σ2.length=X.N.length/\av H1 H2/\yT X tg c (ds.drop (i+1)) ρ2 ρf,fun σ2 H2 n=>⟨ds.length-(i+1),by omega,rfl,n.1,n.2⟩,fun x H3 y3=>?_⟩
  obtain⟨sm3,rx⟩:=yl x H3 y3
  obtain⟨ρ1,⟨g,g1,g2⟩,ht,hf⟩:=hf
  have li:ds[i].lless=true:=pF hll (Sa hlt)
  refine⟨g,g1,g2 ow x σ' H3 _ hl' (E'.same sm3) (rx.flat _ li) fun σ2 hl2 E2=>?_⟩
  exact⟨ρ1,ht,E2,fun H4 s4=>⟨hlt,ρ1,E2.same s4,hl2,sm.trans (sm3.trans s4),hf⟩⟩
 ·have ei:i=ds.length:=by omega
  subst ei
  rw[List.drop_length]at hf
  cases (show ρf=ρ' from hf)
  exact .inl ⟨it.2 (QF _),q ow σ' H' E' hl' (bf.same (s1.trans sm))⟩
inductive Rp(Φ:Fx)(sc:Scope)(tg c:Expr):List D->ag->ag->Prop where
 | nil {ρ:ag}:Rp Φ sc tg c [] ρ ρ
 | cons {d:D} {ds:List D} {ρ ρ1 ρ':ag} {k:Nat} (hb:bY sc tg d ρ=some ρ1) (hc:af (aC Φ c false sc ρ1) (.bl false,k)) (h:Rp Φ sc tg c ds ρ1 ρ'):Rp Φ sc tg c (d::ds) ρ ρ'
inductive Xo(Φ:Fx)(sc:Scope)(ρ:ag):Option Expr->Option Int->Prop where
 | no:Xo Φ sc ρ none none
 | yes {e:Expr} {i:Int} {k:Nat} (h:af (aC Φ e false sc ρ) (.int i,k)):Xo Φ sc ρ (some e) (some i)
inductive qd(Φ:Fx)(sc:Scope)(ρ:ag):Expr->D->Prop where
 | name {x:Str} {p:Pos} {m:List D} (h:ρ x=some (.lst m,false)) (hx:cQ x=true):qd Φ sc ρ (.Name x p) (.lst m)
 | cut {e:Expr} {lo hi:Option Expr} {l h:Option Int} {m:List D} {p2 p:Pos} (he:qd Φ sc ρ e (.lst m)) (hl:Xo Φ sc ρ lo l) (hh:Xo Φ sc ρ hi h):qd Φ sc ρ (.Subscript e (.Slice lo hi none p2) p) (.lst (kA m l h))
 | cat {a b:Expr} {l m:List D} {p:Pos} (ha:qd Φ sc ρ a (.lst l)) (hb:qd Φ sc ρ b (.lst m)) (hn:l.length+m.length<=cG):qd Φ sc ρ (.BinOp a .Add b p) (.lst (l++m))
theorem AY{e:Option Expr}{i:Option Int}(G:aO Φ X sc)(h:Xo Φ sc ρ e i):OD X ρ e i:=by
 cases h with
 | no=>exact uw
 | yes h=>exact uv ((bv h G).ed rfl)
theorem GA(m:List D):kn (.lst m) 1=1:=by rfl
theorem AX(G:aO Φ X sc)(h:qd Φ sc ρ e d):ED X ρ e d 1/\il e=false:=by
 induction h with
 | name h hx=>exact⟨by have:=uO (X:=X) (pos:=‹Pos›) h hx;rw[show cond false 2 1=1 from rfl,GA]at this;exact this,rfl⟩
 | cut he hl hh ih=>exact⟨D7 ih.1 (AY G hl) (AY G hh),rfl⟩
 | cat ha hb hn ia ib=>exact⟨D9 ia.1 ib.1 hn,rfl⟩
mutual
inductive Rf(Φ:Fx)(sc:Scope):List Stmt->ag->Fl->Prop where
 | base {ss:List Stmt} {ρ:ag} {fl:Fl} (h:af (aJ Φ ss sc ρ) fl):Rf Φ sc ss ρ fl
 | cut (n:Nat) {ss:List Stmt} {ρ ρ1:ag} {fl:Fl} (h:af (aJ Φ (ss.take n) sc ρ) (.nx ρ1)) (k:Rf Φ sc (ss.drop n) ρ1 fl):Rf Φ sc ss ρ fl
 | seq {s:Stmt} {ss:List Stmt} {ρ ρ1:ag} {fl:Fl} (h:jL Φ sc s ρ (.nx ρ1)) (k:Rf Φ sc ss ρ1 fl):Rf Φ sc (s::ss) ρ fl
 | stop {s:Stmt} {ss:List Stmt} {ρ:ag} {r:D} (h:jL Φ sc s ρ (.rt r)):Rf Φ sc (s::ss) ρ (.rt r)
 | dem {ss:List Stmt} {ρ:ag} {fl:Fl} (k:Rf Φ sc ss (eB ρ) fl):Rf Φ sc ss ρ fl
inductive jL(Φ:Fx)(sc:Scope):Stmt->ag->Fl->Prop where
 | set {x:Str} {e:Expr} {px q:Pos} {ρ:ag} {d:D} (h:Xd Φ sc ρ e d) (hx:cS sc x=true) (hc:il e=false):jL Φ sc (.Assign [.Name x px] e q) ρ (.nx (bP ρ x (d,true)))
 | setS {x:Str} {e:Expr} {px q:Pos} {ρ:ag} {d:D} (h:qd Φ sc ρ e d) (hx:cS sc x=true):jL Φ sc (.Assign [.Name x px] e q) ρ (.nx (bP ρ x (d,false)))
 | app1 {x m:Str} {M:List D->List D->Nat->Rs (List D)} {i e:Expr} {p1 p2 ap cp p4:Pos} {ρ:ag} {dt l l':List D} {d:D} {j:Int} {k ki:Nat} (hM:Φ.mtt m=some M) (hx:ρ x=some (.tup dt,true)) (hi:af (aC Φ i false sc ρ) (.int j,ki)) (hs:eY i) (hat:L2.atI dt j=some (.lst l)) (h:af (bK Φ [e] sc ρ) ([d],k)) (hn:cQ x=true) (hln:(ap.endLine==cp.line)=true) (hm:af (M l [d] k) l') :
  jL Φ sc (.Expr (.Call (.Attribute (.Subscript (.Name x p1) i p2) m ap) [e] [] cp) p4) ρ (.nx (qK ρ x))
 | sto2 {x:Str} {e i m:Expr} {p1 p2 p3 pos:Pos} {ρ:ag} {Ls:List (List Int)} {l:List Int} {j jm v:Int} {n nm k k1 k2:Nat} (hx:ρ x=some (.lst (Ls.map aS),true)) (h:af (aC Φ e false sc ρ) (.int v,k)) (hi:af (aC Φ i false sc ρ) (.int j,k1)) (hm:af (aC Φ m false sc ρ) (.int jm,k2)) (hn:cQ x=true)
  (h1:ixN Ls.length j=some n) (h2:Ls[n]?=some l) (h3:ixN l.length jm=some nm) (hd:∀a y,Ls[a]?=some y->a≠n->y≠l) (hs:eY i) (hsl:∀a b c p,m ≠ .Slice a b c p) :
  jL Φ sc (.Assign [.Subscript (.Subscript (.Name x p1) i p2) m p3] e pos) ρ (.nx (bP ρ x (.lst ((Ls.set n (l.set nm v)).map aS),true)))
 | ret {e:Expr} {q:Pos} {ρ:ag} {d:D} (h:Xd Φ sc ρ e d):jL Φ sc (.Return (some e) q) ρ (.rt d)
 | iff {c:Expr} {a b:List Stmt} {pos:Pos} {ρ:ag} {t:Bool} {k:Nat} {fl:Fl} (hc:af (aC Φ c false sc ρ) (.bl t,k)) (h:Rf Φ sc (cond t a b) ρ fl):jL Φ sc (.If c a b pos) ρ fl
 | forC {tg it:Expr} {body:List Stmt} {pos:Pos} {ρ:ag} {d:D} {ds:List D} {k:Nat} {fl:Fl} (hi:af (aC Φ it true sc (demote it ρ)) (d,k)) (hd:items d=some ds) (hk:k<=1) (ht:fy it tg=true) (h:Rc Φ sc tg body ds (demote it ρ) fl):jL Φ sc (.For tg it body [] pos) ρ fl
 | forP {tg it c:Expr} {a:List Stmt} {pos q:Pos} {ρ ρ':ag} {d:D} {ds:List D} {k:Nat} (hi:af (aC Φ it true sc ρ) (d,k)) (hd:items d=some ds) (hl:az ds=true) (ht:fy it tg=true) (h:Rp Φ sc tg c ds ρ ρ'):jL Φ sc (.For tg it [.If c a [] q] [] pos) ρ (.nx ρ')
inductive Rc(Φ:Fx)(sc:Scope):Expr->List Stmt->List D->ag->Fl->Prop where
 | nil {tg:Expr} {body:List Stmt} {ρ:ag}:Rc Φ sc tg body [] ρ (.nx ρ)
 | cons {tg:Expr} {body:List Stmt} {d:D} {ds:List D} {ρ ρ1 ρ2:ag} {fl:Fl} (hb:bY sc tg d ρ=some ρ1) (h:Rf Φ sc body ρ1 (.nx ρ2)) (k:Rc Φ sc tg body ds ρ2 fl):Rc Φ sc tg body (d::ds) ρ fl
 | stop {tg:Expr} {body:List Stmt} {d:D} {ds:List D} {ρ ρ1:ag} {r:D} (hb:bY sc tg d ρ=some ρ1) (h:Rf Φ sc body ρ1 (.rt r)):Rc Φ sc tg body (d::ds) ρ (.rt r)
end
theorem Jv{c:Expr}(G:aO Φ X sc)(h:Rp Φ sc tg c ds ρ ρ'):yT X tg c ds ρ ρ':=by
 induction h with
 | nil=>exact rfl
 | cons hb hc h ih=>exact⟨_,mY G hb,(bv hc G).td rfl false rfl,ih⟩
theorem Bd(G:aO Φ X sc)(hp:PassesOwn (model X.prog X.w) X.A X.env X.xe)(h:Rf Φ sc ss ρ fl):fc X H0 ρ ss fl:=by
 refine Rf.rec (motive_1:=fun ss ρ fl _=>fc X H0 ρ ss fl) (motive_2:=fun s ρ fl _=>SD X H0 ρ s fl) (motive_3:=fun tg body ds ρ fl _=>yS X H0 tg body ds ρ fl) ?_ ?_ ?_ ?_ ?_ ?_ ?_ ?_ ?_ ?_ ?_ ?_ ?_ ?_ ?_ ?_ h
 ·intro ss ρ fl h;exact nk _ h G hp
 ·intro n ss ρ ρ1 fl h k ih;rw[<- List.take_append_drop n ss];exact nY G hp h ih
 ·intro s ss ρ ρ1 fl h k i1 i2;exact ee i1 i2
 ·intro s ss ρ r h ih;exact g8 ih fun _ z=>nomatch z
 ·intro ss ρ fl k ih;exact Ct ih
 ·intro x e px q ρ d h hx hc;exact jY G hx (AZ G h) (.inl ⟨rfl,rfl⟩) (dY hc)
 ·intro x e px q ρ d h hx;exact jY G hx (AX G h).1 (.inr ⟨rfl,rfl⟩) (dY (AX G h).2)
 ·intro x m M i e p1 p2 ap cp p4 ρ dt l l' d j k ki hM hx hi hs hat h hn hln hm
  obtain⟨l7,h7,p7⟩:=h
  obtain⟨hst,_⟩:=cf h7 p7
  obtain⟨o,hm,hp⟩:=hm
  exact CK G.calm (G.mtt m M hM) hx ((bv hi G).ed rfl) hs hat (fN [_] h7 p7 G) (hst e QE) hn hln hm hp
 ·intro x e i m p1 p2 p3 pos ρ Ls l j jm v n nm k k1 k2 hx h hi hm hn h1 h2 h3 hd hs hsl;exact CD hx ((bv h G).ed rfl) ((bv hi G).ed rfl) ((bv hm G).ed rfl) hn h1 h2 h3 hd hs hsl
 ·intro e q ρ d h;exact xm (AZ G h) (.inl rfl)
 ·intro c a b pos ρ t k fl hc h ih
  refine qC ((bv hc G).td rfl t rfl) ?_
  cases t with
  | true=>rw[if_pos rfl];exact ih
  | false=>rw[if_neg QP];exact ih
 ·intro tg it body pos ρ d ds k fl hi hd hk ht h ih
  obtain⟨l,h1,h2⟩:=hi
  exact CM hp G.calm ((bv ⟨l,h1,h2⟩ G).ie rfl _ ds hd ht) hk ih (iO h1)
 ·intro tg it c a pos q ρ ρ' d ds k hi hd hl ht h
  obtain⟨l,h1,h2⟩:=hi
  exact CL hp G.calm ((bv ⟨l,h1,h2⟩ G).ie rfl _ ds hd ht) hl (Jv G h) (iO h1)
 ·intro tg body ρ;exact rfl
 ·intro tg body d ds ρ ρ1 ρ2 fl hb h k i1 i2;exact⟨_,mY G hb,.inl ⟨_,i1,i2⟩⟩
 ·intro tg body d ds ρ ρ1 r hb h ih;exact⟨_,mY G hb,.inr ⟨_,rfl,ih⟩⟩
def wq(Φ:Fx)(sc:Scope)(ps:List Str)(ss:List Stmt)(ds:List D)(r:D):Prop:=ds.length=ps.length/\Rf Φ sc ss (dg ps ds) (.rt r)
theorem DO(Fn:fX K g qual st f fd)
  (S:aM (aq (ae st)) ps (ae st)) (hΦ:jN P w K mg base k Φ) (hrun:∀ds r,af (F ds) r->wq Φ (ae st) ps (am st) ds r):br P w K mg base cz (k+1) f fd ps (ja K F):=by
 refine Fn.ok S (fun vs H Q E h=>?_) (fun cdv A outer s H vs Q E hr h=>?_)
 ·obtain⟨ds,r,l,h1,h2,hp,_⟩:=h
  rw[<- h1.length]
  exact(hrun ds r ⟨l,h2,hp⟩).1
 ·obtain⟨ds,r,l,h1,h2,hp,qq⟩:=h
  obtain⟨hl,hr'⟩:=hrun ds r ⟨l,h2,hp⟩
  have G:=eO (outer:=outer) (H:=H) (E:=E) S hΦ hr
  obtain⟨E0,hsl⟩:=gC (P:=P) (w:=w) (mg:=mg) (base:=base) (qual:=qual) (f:=f) (cdv:=cdv) (A:=A) (outer:=outer) (s:=s) (E:=E) S h1 hl
  have B0:bQ H (fun _=>none) H:=fun a o h=>⟨h,rfl⟩
  exact⟨_,Bd (H0:=H) G R5 hr',fun _=>none,E0,hsl,B0,fun v H' sm rp=>qq v H' sm rp⟩
variable{X:Cx}
theorem ah.setD{K:W.Frag}{H:Hp}{P:bj}:∀{l:List D} {vs:List V} {n:Nat} {d:D} {v:V},ah K H P l vs->aj K H P d v->ah K H P (l.set n d) (vs.set n v)
 | [],vs,n,d,v,h,_=>by rw[ah]at h;subst h;exact ah.nil
 | x::l,vs,0,d,v,h,r=>by
  rw[ah]at h
  obtain⟨w,us,rfl,h1,h2⟩:=h
  exact ah.cons r h2
 | x::l,vs,n+1,d,v,h,r=>by
  rw[ah]at h
  obtain⟨w,us,rfl,h1,h2⟩:=h
  exact ah.cons h1 (ah.setD h2 r)
theorem CH{n:Nat}(hx:ρ x=some (.lst l,true))(h:ED X ρ e d 0)(hi:ED X ρ i (.int j) k1)(hn:cQ x=true)
  (h1:ixN l.length j=some n) (hsl:∀a b c p,i ≠ .Slice a b c p) :
  SD X H0 ρ (.Assign [.Subscript (.Name x p1) i p2] e pos) (.nx (bP ρ x (.lst (l.set n d),true))):=by
 intro pins s σ H D I ⟨ow,E,hl,B,q⟩
 obtain⟨ix,a,vs,g1,g2,g3,g4,g5,g6⟩:=mL I E hx
 have pn:PE X (.Name x p1) (gH ix):=dO g1 g2 (bU hn).1 (bU hn).2
 refine hW (h ow) (j9 pn (hi ow) hJ (fun v=>by cases i<;>first|rfl|exact absurd rfl (hsl _ _ _ _))) jT (by cases e<;>rfl) rfl pins s σ H D I ⟨E,fun v' H1 s1 r1=>?_⟩
 refine⟨_,g3,E.same s1,fun u H2 s2 r2=>?_⟩
 rw[aj]at r2;subst r2
 have s12:=s1.trans s2
 refine⟨a,vs,j,n,rfl,rfl,s12 _ _ g4,by rw[<- g6.length];exact h1,?_⟩
 obtain⟨ow',E',k'⟩:=oP (vs':=vs.set n v') (l':=l.set n d) E s12 g1 g3 g2 g4 g5 (ah.setD ((g6.same s12).imp fun _ _ p=>.inl p) ((r1.same s2).imp fun _ _ p=>.inr p))
 exact q ow' σ _ E' hl k'
theorem Fh{p5 p6 pt q4 q5 q6 q7:Pos}{kt:Nat}{j1 j2:Int}{n1 n2:Nat}{o1 o2:Bool}(hc:X.calm=true)(hx:ρ x=some (.lst l,true))(hy:ρ y=some (.int j1,o1))(hz:ρ z=some (.int j2,o2))(ox:cQ x=true)(oy:cQ y=true)(oz:cQ z=true)
  (h1:ixN l.length j1=some n1) (h2:ixN l.length j2=some n2) (e1:l[n1]?=some d1) (e2:l[n2]?=some d2) :
  SD X H0 ρ (.Assign [.Tuple [.Subscript (.Name x p1) (.Name y p2) p3,.Subscript (.Name x p4) (.Name z p5) p6] kt pt] (.Tuple [.Subscript (.Name x q1) (.Name z q2) q3,.Subscript (.Name x q4) (.Name y q5) q6] k2 q7) pos) (.nx (bP ρ x (.lst ((l.set n1 d2).set n2 d1),true))):=by
 intro pins s σ H D I ⟨ow,E,hl,B,q⟩
 obtain⟨ix,a,vs,g1,g2,g3,g4,g5,g6⟩:=mL I E hx
 obtain⟨iy,vy,y1,y2,y3,y4⟩:=E.get y _ _ hy
 obtain⟨iz,vz,z1,z2,z3,z4⟩:=E.get z _ _ hz
 rw[aj]at y4 z4
 subst y4 z4
 have px:∀p,PE X (.Name x p) (gH ix):=fun p=>dO g1 g2 (bU ox).1 (bU ox).2
 have py:∀p,PE X (.Name y p) (gH iy):=fun p=>dO y1 y2 (bU oy).1 (bU oy).2
 have pz:∀p,PE X (.Name z p) (gH iz):=fun p=>dO z1 z2 (bU oz).1 (bU oz).2
 obtain⟨w1,hw1,r1⟩:=g6.get e1
 obtain⟨w2,hw2,r2⟩:=g6.get e2
 have lv:vs.length=l.length:=g6.length.symm
 have a1:L2.atI vs j1=some w1:=by unfold L2.atI;rw[lv,h1];exact hw1
 have a2:L2.atI vs j2=some w2:=by unfold L2.atI;rw[lv,h2];exact hw2
 have pl:∀(w:Str) (p:Pos),eY (.Name w p):=fun _ _ _ _=>rfl
 have ns:∀(a b:Expr) (p:Pos) (u:Expr) (r:Pos),Expr.Subscript a b p ≠ .Starred u r:=fun _ _ _ _ _ z=>by cases z
 have pe:PE X (.Tuple [.Subscript (.Name x q1) (.Name z q2) q3,.Subscript (.Name x q4) (.Name y q5) q6] k2 q7) _:=xy (dC (kQ kW (px q1) (pz q2) (pl _ _)) (dC (kQ kW (px q4) (py q5) (pl _ _)) ke (aA (ns _ _ _))) (aA (ns _ _ _)))
 have pg:PG X (.Tuple [.Subscript (.Name x p1) (.Name y p2) p3,.Subscript (.Name x p4) (.Name z p5) p6] kt pt) _:=mJ hc (hX (j9 (px p1) (py p2) hJ (fun v=>rfl)) (hX (j9 (px p4) (pz p5) hJ (fun v=>rfl)) n9))
 refine hW pe pg (by rfl) (by unfold swappedStores;simp) rfl pins s σ H D I ?_
 refine⟨.ref a,g3,.int j2,z3,a,vs,j2,w2,rfl,rfl,cj.of g4,a2,.ref a,g3,.int j1,y3,a,vs,j1,w1,rfl,rfl,cj.of g4,a1,by show 2<=sizeLine;decide,fun p hp=>?_⟩
 have hpa:a≠p:=fun z=>by subst z;rw[g4]at hp;cases hp
 refine⟨p,[w2,w1],rfl,.inl (.inl aD),rfl,w2,[w1],rfl,.ref a,g3,.int j1,y3,a,vs,j1,n1,rfl,rfl,(ax hpa).trans g4,by rw[lv];exact h1,w1,[],rfl,.ref a,g3,.int j2,z3,a,_,j2,n2,rfl,rfl,aD,by rw[Rh,lv];exact h2,rfl,?_⟩
 rw[i9]
 have sm:av H (aG H p (.tup [w2,w1])):=bR hp
 obtain⟨ow',E',k'⟩:=oP (vs':=(vs.set n1 w2).set n2 w1) (l':=(l.set n1 d2).set n2 d1) E sm g1 g3 g2 g4 g5 (ah.setD (ah.setD ((g6.same sm).imp fun _ _ p=>.inl p) ((r2.same sm).imp fun _ _ p=>.inl p)) ((r1.same sm).imp fun _ _ p=>.inl p))
 exact q ow' σ _ E' hl k'
def E9(K:W.Frag)(F:List D->Rs D):L2.Sp:=fun vs H Q _ => ∃d1 d2 r l H0 v1 v2,vs=[v1,v2]/\av H0 H/\aj K H0 (fun _ _=>True) d1 v1/\aj K H (fun a b=>b=true/\H0 a=none) d2 v2/\F [d1,d2]=.ok r l/\aH l/\∀v H',av H0 H'->aj K H' (fun a b=>b=true/\H0 a=none) r v->Q v H'
def l9(p1 p2:Str)(d1 d2:D):ag:=bP (dg [p1] [d1]) p2 (d2,true)
theorem DY{p1 p2:Str}{cdv:Value}{A:Around}{outer:List Env}{E:XK}{v1 v2:V}
  (S:aM (aq (ae st)) [p1,p2] (ae st)) (sm:av H0 H) (h1:aj K H0 (fun _ _=>True) d1 v1) (h2:aj K H (fun a b=>b=true/\H0 a=none) d2 v2) (hne:p1≠p2) :
  ∃ow,aF (cn cz P w K mg base (aq (ae st)) qual (ae st) f cdv A outer s H E).nox ow H (start (aq (ae st)) [v1,v2]) (l9 p1 p2 d1 d2)/\(start (aq (ae st)) [v1,v2]).length=(aq (ae st)).length/\bQ H0 ow H:=by
 classical
 have hpl:2<=(aq (ae st)).length:=by have:=SC List.length S.pre;rw[Sn]at this;have e:[p1,p2].length=2:=rfl;omega
 let ow:Ow:=fun a=>if H0 a=none/\∃o,H a=some o then some (some p2)else none
 have lk:∀(i:Nat) (x:Str),[p1,p2][i]?=some x->(aq (ae st))[i]?=some x/\fb (ae st) x:=fun i x hi=>by
  have hlt:i<2:=(QJ.mp hi).1
  refine⟨?_,?_⟩
  ·have hi':=hi
   rw[<- S.pre,List.getElem?_take_of_lt (by show i<2;exact hlt)]at hi'
   exact hi'
  ·rcases S.par x (Q9 hi)with z|z
   ·exact .inl z
   ·exact .inr (.inl z)
 have st0:∀(i:Nat) (v:V),[v1,v2][i]?=some v->(start (aq (ae st)) [v1,v2])[i]?=some (some v):=fun i v hi=>by
  have hlt:i<2:=(QJ.mp hi).1
  unfold L2.start
  rw[List.getElem?_append_left (by rw[Q0];exact hlt),QS,hi];rfl
 refine⟨ow,⟨fun x d o hx=>?_,fun a ha=>?_⟩,by unfold L2.start;rw[Sf,Q0,List.length_replicate];show 2+(_-2)=_;omega,fun a o h=>⟨sm a o h,if_neg fun z=>by rw[h]at z;cases z.1⟩⟩
 ·unfold l9 at hx
  rw[dl]at hx
  by_cases hz:x=p2
  ·subst hz
   rw[if_pos rfl]at hx
   cases hx
   exact⟨1,v2,(lk 1 x rfl).1,(lk 1 x rfl).2,st0 1 v2 rfl,h2.impH (fun a ob ha p=>⟨rfl,if_pos ⟨p.2,ob,ha⟩⟩) fun a p=>by cases p.1⟩
  ·rw[if_neg hz]at hx
   obtain⟨rfl,i,i1,i2⟩:=lZ hx
   have e0:i=0:=by
    have:i<1:=(QJ.mp i1).1
    omega
   subst e0
   cases (QK i1:p1=x)
   cases (QK i2:d1=d)
   exact⟨0,v1,(lk 0 p1 rfl).1,(lk 0 p1 rfl).2,st0 0 v1 rfl,aj.same sm (h1.impH (fun a ob ha p _=>if_neg fun z=>by rw[ha]at z;cases z.1) fun a p z=>by cases z)⟩
 ·show ∃o,H a=some o
  have hh:ow a≠none:=ha
  by_cases hz:H0 a=none/\∃o,H a=some o
  ·exact hz.2
  ·exact absurd (if_neg hz) hh
def Ja(X:Cx)(g:Str)(F:List D->Rs D):Prop:=∃k f fd ps,br X.prog X.w X.K X.mg X.base cz k f fd ps (E9 X.K F)/\bC k X.A/\X.mg g=some (.ref f)/\W.keepIn X.K (.ref f)=true/\bH X.K fd ps []/\(g==("__debug__" : Str))=false
def qk(P:Program)(w:World)(K:W.Frag)(mg:Str->Option Value)(base:Heap)(k:Nat)(g:Str)(F:List D->Rs D):Prop :=
 ∃f fd ps,br P w K mg base cz k f fd ps (E9 K F)/\mg g=some (.ref f)/\W.keepIn K (.ref f)=true/\bH K fd ps []/\(g==("__debug__" : Str))=false
theorem qk.mono{j:Nat}(h:qk P w K mg base j g F)(hjk:j<=k):qk P w K mg base k g F :=
 let ⟨f,fd,ps,h1,h2⟩:=h;⟨f,fd,ps,h1.mono hjk,h2⟩
theorem Af{f:Str}{e1 e2:Expr}(G:aO Φ X sc)(hf:Ja X f F)(hg:sc.names.lookup f=some .globalImplicit)(h1:ED X ρ e1 d1 k1)(h2:ED X ρ e2 d2 0)(n1:∀x p,e1 ≠ .Starred x p)(n2:∀x p,e2 ≠ .Starred x p)(h:F [d1,d2]=.ok r o)(hp:aH o):ED X ρ (.Call (.Name f p) [e1,e2] [] pos) r 0:=by
 obtain⟨n,fa,fd,ps,hF,hr,hm,hk,hb,hd⟩:=hf
 intro ow
 refine bF (um hF hr (G.gl f hg) hm hk hb .nil gQ (dC (h1 ow) (dC (h2 ow) ke (aA n2)) (aA n1)) hd (aA n1) (be fun x hx=>by rw[SA.mp hx];exact n2)) fun σ H Q ⟨E,q⟩=>⟨E,fun v1 H1 s1 r1=>⟨E.same s1,fun v2 H2 s2 r2=>?_⟩⟩
 exact⟨d1,d2,r,o,H1,v1,v2,rfl,s2,r1.imp fun _ _ _=>True.intro,r2.imp fun a b p=>p,h,hp,fun v H' s3 r3=>q v H' (s1.trans s3) (r3.imp fun a b p=>⟨p.1,s1.free p.2⟩)⟩
abbrev tz:=Str->Option (List D->Rs D)
inductive Ro(Φ:Fx)(Ω:tz)(sc:Scope):List Stmt->ag->Fl->Prop where
 | rf {ss:List Stmt} {ρ:ag} {fl:Fl} (h:Rf Φ sc ss ρ fl):Ro Φ Ω sc ss ρ fl
 | cut (n:Nat) {ss:List Stmt} {ρ ρ1:ag} {fl:Fl} (h:af (aJ Φ (ss.take n) sc ρ) (.nx ρ1)) (k:Ro Φ Ω sc (ss.drop n) ρ1 fl):Ro Φ Ω sc ss ρ fl
 | iff {c:Expr} {a b ss:List Stmt} {pos:Pos} {ρ ρ1:ag} {t:Bool} {k:Nat} {fl:Fl} (hc:af (aC Φ c false sc ρ) (.bl t,k)) (h:Ro Φ Ω sc (cond t a b) ρ (.nx ρ1)) (k:Ro Φ Ω sc ss ρ1 fl):Ro Φ Ω sc (.If c a b pos::ss) ρ fl
 | ifS {c:Expr} {a b ss:List Stmt} {pos:Pos} {ρ:ag} {t:Bool} {k:Nat} {r:D} (hc:af (aC Φ c false sc ρ) (.bl t,k)) (h:Ro Φ Ω sc (cond t a b) ρ (.rt r)):Ro Φ Ω sc (.If c a b pos::ss) ρ (.rt r)
 | setO {f x:Str} {F:List D->Rs D} {e1 e2:Expr} {d1 d2 r:D} {k1:Nat} {p pos px q:Pos} {ss:List Stmt} {ρ:ag} {fl:Fl} (hΩ:Ω f=some F) (h1:af (aC Φ e1 false sc ρ) (d1,k1)) (h2:af (aC Φ e2 false sc ρ) (d2,0)) (hF:af (F [d1,d2]) r) (hf:sc.names.lookup f=some .globalImplicit) (hx:cS sc x=true) (k:Ro Φ Ω sc ss (bP ρ x (r,true)) fl) :
  Ro Φ Ω sc (.Assign [.Name x px] (.Call (.Name f p) [e1,e2] [] pos) q::ss) ρ fl
 | putL {x:Str} {e i:Expr} {p1 p2 pos:Pos} {l:List D} {d:D} {j:Int} {n k1:Nat} {ss:List Stmt} {ρ:ag} {fl:Fl} (hx:ρ x=some (.lst l,true)) (h:af (aC Φ e false sc ρ) (d,0)) (hi:af (aC Φ i false sc ρ) (.int j,k1)) (hn:cQ x=true) (h1:ixN l.length j=some n) (hsl:∀a b c p,i ≠ .Slice a b c p) (k:Ro Φ Ω sc ss (bP ρ x (.lst (l.set n d),true)) fl) :
  Ro Φ Ω sc (.Assign [.Subscript (.Name x p1) i p2] e pos::ss) ρ fl
 | swp {x y z:Str} {p1 p2 p3 p4 p5 p6 pt q1 q2 q3 q4 q5 q6 q7 pos:Pos} {kt k2:Nat} {l:List D} {d1 d2:D} {j1 j2:Int} {n1 n2:Nat} {o1 o2:Bool} {ss:List Stmt} {ρ:ag} {fl:Fl} (hx:ρ x=some (.lst l,true)) (hy:ρ y=some (.int j1,o1)) (hz:ρ z=some (.int j2,o2)) (ox:cQ x=true) (oy:cQ y=true) (oz:cQ z=true)
  (h1:ixN l.length j1=some n1) (h2:ixN l.length j2=some n2) (e1:l[n1]?=some d1) (e2:l[n2]?=some d2) (k:Ro Φ Ω sc ss (bP ρ x (.lst ((l.set n1 d2).set n2 d1),true)) fl) :
  Ro Φ Ω sc (.Assign [.Tuple [.Subscript (.Name x p1) (.Name y p2) p3,.Subscript (.Name x p4) (.Name z p5) p6] kt pt] (.Tuple [.Subscript (.Name x q1) (.Name z q2) q3,.Subscript (.Name x q4) (.Name y q5) q6] k2 q7) pos::ss) ρ fl
theorem Bc{Ω:tz}(G:aO Φ X sc)(hp:PassesOwn (model X.prog X.w) X.A X.env X.xe)(hO:∀f F,Ω f=some F->Ja X f F)(h:Ro Φ Ω sc ss ρ fl):fc X H0 ρ ss fl:=by
 induction h with
 | rf h=>exact Bd G hp h
 | cut n h k ih =>
  rename_i ss ρ ρ1 fl
  rw[<- List.take_append_drop n ss];exact nY G hp h ih
 | iff hc h k i1 i2 =>
  rename_i c a b ss pos ρ ρ1 t k' fl
  refine ee (qC ((bv hc G).td rfl t rfl) ?_) i2
  cases t with
  | true=>rw[if_pos rfl];exact i1
  | false=>rw[if_neg QP];exact i1
 | ifS hc h i1 =>
  rename_i c a b ss pos ρ t k' r
  refine g8 (qC ((bv hc G).td rfl t rfl) ?_) (fun _ z=>by cases z)
  cases t with
  | true=>rw[if_pos rfl];exact i1
  | false=>rw[if_neg QP];exact i1
 | setO hΩ h1 h2 hF hf hx k ih =>
  obtain⟨l1,g1,_⟩:=id h1
  obtain⟨l2,g2,_⟩:=id h2
  obtain⟨l3,g3,g4⟩:=hF
  exact ee (jY G hx (Af G (hO _ _ hΩ) hf ((bv h1 G).ed rfl) ((bv h2 G).ed rfl) (eQ g1) (eQ g2) g3 g4) (.inl ⟨rfl,rfl⟩) (dY rfl)) ih
 | putL hx h hi hn h1 hsl k ih=>exact ee (CH hx ((bv h G).ed rfl) ((bv hi G).ed rfl) hn h1 hsl) ih
 | swp hx hy hz ox oy oz h1 h2 e1 e2 k ih=>exact ee (Fh G.calm hx hy hz ox oy oz h1 h2 e1 e2) ih
def ll(Φ:Fx)(Ω:tz)(sc:Scope)(ps:List Str)(ss:List Stmt)(ds:List D)(r:D):Prop:=ds.length=ps.length/\Ro Φ Ω sc ss (dg ps ds) (.rt r)
theorem DN{Ω:tz}(Fn:fX K g qual st f fd)
  (S:aM (aq (ae st)) ps (ae st)) (hΦ:jN P w K mg base k Φ) (hO:∀f F,Ω f=some F->qk P w K mg base k f F) (hrun:∀ds r,af (F ds) r->ll Φ Ω (ae st) ps (am st) ds r):br P w K mg base cz (k+1) f fd ps (ja K F):=by
 refine Fn.ok S (fun vs H Q E h=>?_) (fun cdv A outer s H vs Q E hr h=>?_)
 ·obtain⟨ds,r,l,h1,h2,hp,_⟩:=h
  rw[<- h1.length]
  exact(hrun ds r ⟨l,h2,hp⟩).1
 ·obtain⟨ds,r,l,h1,h2,hp,qq⟩:=h
  obtain⟨hl,hr'⟩:=hrun ds r ⟨l,h2,hp⟩
  have G:=eO (outer:=outer) (H:=H) (E:=E) S hΦ hr
  obtain⟨E0,hsl⟩:=gC (P:=P) (w:=w) (mg:=mg) (base:=base) (qual:=qual) (f:=f) (cdv:=cdv) (A:=A) (outer:=outer) (s:=s) (E:=E) S h1 hl
  have B0:bQ H (fun _=>none) H:=fun a o h=>⟨h,rfl⟩
  exact⟨_,Bc (H0:=H) G R5 (fun f' F' h=>let ⟨a,b,c,d,e⟩:=hO f' F' h;⟨k,a,b,c,d,hr,e⟩) hr',fun _=>none,E0,hsl,B0,fun v H' sm rp=>qq v H' sm rp⟩
theorem F0{l:List (Str×(List D->Rs D))}(h:∀q∈l,qk P w K mg base k q.1 q.2):∀f F,(fun f:Str=>l.lookup f) f=some F->qk P w K mg base k f F:=fun f F e=>h (f,F) (QR e)
theorem G9{p1 p2:Str}(Fn:fX K g qual st f fd)
  (S:aM (aq (ae st)) [p1,p2] (ae st)) (hΦ:jN P w K mg base k Φ) (hne:p1≠p2) (hrun:∀d1 d2 r,af (F [d1,d2]) r->Ro Φ (fun _=>none) (ae st) (am st) (l9 p1 p2 d1 d2) (.rt r)):br P w K mg base cz (k+1) f fd [p1,p2] (E9 K F):=by
 refine Fn.ok S (fun vs H Q E h=>?_) (fun cdv A outer s H vs Q E hr h=>?_)
 ·obtain⟨d1,d2,r,l,H0,v1,v2,rfl,_⟩:=h
  rfl
 ·obtain⟨d1,d2,r,l,H0,v1,v2,rfl,sm,g1,g2,g3,g4,qq⟩:=h
  have G:=eO (outer:=outer) (H:=H) (E:=E) S hΦ hr
  obtain⟨ow,E0,hsl,B0⟩:=DY (P:=P) (w:=w) (mg:=mg) (base:=base) (qual:=qual) (f:=f) (cdv:=cdv) (A:=A) (outer:=outer) (s:=s) (E:=E) S sm g1 g2 hne
  exact⟨_,Bc (H0:=H0) G R5 (fun f' F' h=>by cases h) (hrun d1 d2 r ⟨l,g3,g4⟩),ow,E0,hsl,B0,fun v H' sm rp=>qq v H' sm rp⟩
end Sp
namespace K
open PySem L2 Sp Qm
section
variable{Φ:Fx}{sc:Scope}{ρ ρ1:ag}{ss:List Stmt}
end
section
variable{Φ:Fx}{sc:Scope}{ρ ρ1:ag}{ss:List Stmt}{P Q:ag->Prop}
theorem Hm{a:Expr}{p:Pos}{it:Bool}{i:Int}{k:Nat}(h:af (aC Φ a false sc ρ) (.int i,k)):af (aC Φ (.UnaryOp .USub a p) it sc ρ) (.int (-i),0):=af.bnd h du
end
noncomputable def KO:List Int:=[0,1,2,3,4,5,6,7,8,9,10,11,12,13,14,15,16,17,18,19,20]
section
variable{Φ:Fx}{sc:Scope}{ρ ρ1:ag}{ss:List Stmt}
noncomputable abbrev Qh:Xs:=(Str.ofString "Nought", Str.ofString "SpaceError", [])
noncomputable def km:D->Bool
 | .tup [.int a,.int b,.int c,.int d]=>decide (a=0/\b=0/\c=0/\d=0)
 | _=>false
theorem xS{d:D}(h:km d=true):d=dq Nw:=by
 unfold km at h
 split at h
 ·obtain⟨rfl,rfl,rfl,rfl⟩:=RG h;rfl
 ·cases h
end
end K
namespace Sp
open PySem PySem.Spec PyProof.Rows L2
variable{K:W.Frag}{f:Addr}
theorem GZ{o:Obj}(h:W.isFn K (.ref f)=true)(l:K.lookup f=some o):o.cls=.type "function" := by
 have:Option.map (fun x:Obj=>x.cls) (List.lookup f K)=some (.type "function"):=Sq.mp h
 rw[show List.lookup f K=some o from l]at this
 exact QK this
theorem yW{P:Program}{w:World}{mg:Str->Option Value}{base:Heap}{g qual:Str}{st:Stmt}{C S0:Addr}{fd:FuncData}{mc:Value}(Fn:fX K g qual st f fd){s0 a1 fl b a:Str}{kd:Nat}{p1 p2 p3 p5 p6 p7 p8 p9 p10 q1 q2 q3 q4:Pos}
  (hN:aq (ae st)=[s0,a1]) (S:aM (aq (ae st)) [s0,a1] (ae st)) (hv:(ae st).names.lookup s0=some .local/\(ae st).names.lookup a1=some .local) (hok:cQ s0=true/\cQ a1=true)
  (hgb:(ae st).names.lookup b=some .globalImplicit) (hm:mg b=some (.ref S0)) (hga:W.specialIn K (.ref S0) "__getattribute__" = some (some (.builtin "type.__getattribute__"))) (hrd:W.readsIn K S0 mc=true) (hfc:W.findCls K (.ref S0) mc "__init__" = some (.val (.builtin "ValueError.__init__"))) (hex:iW K C S0=true)
  (hdi:W.hasDictIn K C=true) (hsa:W.findIn K (.ref C) "__setattr__" = some (some (.builtin "object.__setattr__"))) (hff:W.findIn K (.ref C) fl=some none)
  (hb:am st=[.Expr (.Call (.Attribute (.Name b p1) "__init__" p2) [.Name s0 p3,.JoinedStr [.Constant (.str a) kd p5,.FormattedValue (.Name a1 p6) 114 none p7] p8] [] p9) p10,.Assign [.Attribute (.Name s0 q1) fl q2] (.Name a1 q3) q4]) (ha:a.length<=200) (hln:(p2.endLine==p9.line)=true) (hdb:(b==("__debug__" : Str))=false) :
  br P w K mg base cz 1 f fd [s0,a1] (rc K C fl):=by
 obtain⟨cd,h1,h2⟩:=rQ hex
 have h3:cd.hasDict=true:=by
  unfold W.hasDictIn at hdi
  rw[h1]at hdi
  exact hdi
 refine yV Fn hN S (fun x hx=>?_) (fun x hx=>?_) hgb hm hga hrd hfc hex h1 h2 h3 hsa hff hb ha hln hdb
 ·simp only[QA,QI,Q1]at hx
  rcases hx with rfl|rfl
  ·exact .inl hv.1
  ·exact .inl hv.2
 ·simp only[QA,QI,Q1]at hx
  rcases hx with rfl|rfl
  ·exact hok.1
  ·exact hok.2
end Sp
namespace Att
open PySem PySem.W PySem.Calls PyProof.Rows
theorem mx:∀(ns:List Int) (m:Int),m∈ns->Builtin.Int.intBits m<=WData.weightAll (ns.map WData.int)
 | n::ns,m,h=>by
  rw[Q8,WData.weightAll,WData.weight]
  rcases QA.mp h with rfl|h
  ·unfold Builtin.Int.intBits;omega
  ·have:=mx ns m h;omega
theorem Ei{ns:List Int}(h:WData.layableAll [WData.list (ns.map WData.int)]=true):∀m∈ns,Builtin.Int.intBits m<=2 ^ 20:=fun m hm=>by
 unfold WData.layableAll at h
 have h1:WData.layable (WData.list (ns.map WData.int))=true:=by simpa using h
 unfold WData.layable at h1
 have h2:=(Bool.and_eq_true_iff.mp h1).2
 have h3:=RG h2
 rw[WData.weight]at h3
 exact QD (mx ns m hm) h3
theorem attach_callB{l:OpenLaw}{n:Nat}{q:Program}{loose:List Str}{XP:(Str->Option Value)->Heap->Prop}{YP:World->Heap->Prop}{d:DefRec}
  (hn:l.most=some n) (hdf:d.params.defaults=[])
  (call:∀(w:World) (s₀ s₁:Shared) (mg mb:Str->Option Value) (fa:Addr) (o:Obj) (pm cd doc:Value) (a:Addr) (vs:List Value) (ns:List Int),
   Ground q loose [] XP w s₀ mg mb s₁.heap->YP w s₁.heap ->
   s₁.heap.get? fa=some o->o.data=.func (docDef d.name d.params d.body d.scope pm cd doc)->s₁.heap.CodeRec cd d.name->mg d.name=some (.ref fa) ->
   s₁.heap.get? a=some { cls:=.type "list", data:=.seq vs.toArray }->IntsAre vs ns->ns.length<=n->(∀m∈ns,Builtin.Int.intBits m<=2 ^ 20)->s₁.gens = #[] ->
   codeAny (model l.prog w) callerA (.call (.ref fa) ⟨[.ref a],[]⟩) (fun r s'=>r=.ok (.ret (.bool true))/\OldK s₁.heap s'.heap/\s'.os=s₁.os/\AllBare s'.gens) s₁) :
  WalkO q loose XP YP l.row.toRowW d [] (fun f vs=>PySem.call f vs):=by
 intro w s₀ s₁ mg mb G Y fa o pm cd doc dV kV ho hd hcd hD hmg hg args vals as hpre hlay hrd hwl hlo
 obtain rfl:dV=.none:=Dflts.none hD hdf
 obtain rfl:kV=.none:=Dflts.noKw hD
 obtain⟨a,vs,ns,rfl,rfl,hobj,hints,hlen⟩:=pk hn hpre hwl
 have hbits:=Ei hlay
 refine enter_call (Sm (call w s₀ s₁ mg mb fa o pm cd doc a vs ns G Y ho (fd_plain hd) hcd hmg hobj hints hlen hbits hg) fun r s' hq=>?_)
 obtain⟨rfl,h2,h3,h4⟩:=hq
 exact⟨.inl ⟨.bool true,.bool true,[],rfl,fun _=>rfl,.bool true,pA l _,fun _=>⟨List.Pairwise.nil,fun _ hm=>(nomatch hm)⟩⟩,h2,h3,h4⟩
end Att
namespace L2
open PySem PySem.Spec PyProof.Rows
theorem walk_ofB{l:W.OpenLaw}{n k:Nat}{q:Program}{loose:List Str}{XP:(Str->Option Value)->Heap->Prop}{YP:World->Heap->Prop}{d:DefRec}{K:Params->W.Frag}{CX:World->iE}{sp:World->Sp}{x:Str}
  (hn:l.most=some n) (hn2:n<=sizeLine) (hdf:d.params.defaults=[]) (hr:bC k callerA)
  (hY:∀(w:World) (h:Heap),YP w h->(K w.params).In h)
  (F:∀(w:World) (mg:Str->Option Value) (fa:Addr) (h:Heap),(K w.params).In h->h.Ns mainGlobals mg->mg d.name=some (.ref fa) ->
   ∃fd:FuncData,(∀(s:Shared) (u:Value),BindsTo s fd ⟨[u],[]⟩ [(x,u)]) /\
    ∀base:Heap,(K w.params).In base->base.Ns mainGlobals mg->br l.prog w (K w.params) mg base (CX w) k fa fd [x] (sp w))
  (hsp:∀(w:World) (H:Hp) (a:Addr) (ns:List Int),ns.length<=n->(∀m∈ns,Builtin.Int.intBits m<=2 ^ 20)->tE H->cj (K w.params) H a (ns.map V.int)->sp w [.ref a] H (fun v _=>v=.bl true) fun _ _ _=>False)
  (hCX:∀(w:World) (H:Hp) (s:Shared) (e:Value) (s':Shared),CX w [] H s (fun _ _ _=>False) e s'->False) :
  W.WalkO q loose XP YP l.row.toRowW d [] (fun f vs=>PySem.call f vs):=by
 refine Att.attach_callB hn hdf fun w s₀ s₁ mg mb fa o pm cd doc a vs ns G Y ho hd hcd hmg hobj hints hlen hbits hg=>?_
 have KX:=hY w _ Y
 obtain⟨fd,hb,hF⟩:=F w mg fa _ KX G.T.g hmg
 exact rZ KX G.T.g G.T.b G.T.builtins G.T.nolimit hg hobj hints (QD hlen hn2) hr hF hb (fun H hO hS=>hsp w H a ns hlen hbits hO hS) fun H e s'=>hCX w H s₁ e s'
end L2
namespace K
open PySem L2 Sp
variable{L ds:List D}{a b c d k w x y z:Int}{B j m n:Nat}{T:T9}{ρ:ag}{q:Fv}{r:Xs}{P:Program}{k0:W.Frag}{mg:Str->Option Value}{base:Heap}{g:Str}{F:List D->Rs D}{l:List (Str×(List D->Rs D))}{loose:List Str}{XP:(Str->Option Value)->Heap->Prop}
noncomputable def ak(i:Nat):Stmt:=PySem.Challenge.pw_spaceturns_k34_what_is_no_turn.main.body.getD i (.Pass ⟨0,0,0,0⟩)
local macro_rules | `(tactic| walk_at "leaf") => `(tactic| first | ((with_reducible apply Dm);decide) | ((with_reducible apply Dn);decide) | ((with_reducible apply Eb) <;> decide) | ((with_reducible apply ck) <;> (with_reducible assumption)) | ((with_reducible apply C3) <;> decide) | ((with_reducible refine Eq.trans ?_ rfl);exact rfl) | ((with_reducible apply Al);(with_reducible assumption)) | ((with_reducible apply F6);assumption) | exact Q3 rfl|exact Or.inl rfl|exact Or.inr rfl|exact Or.inr (QF 1) | exact Or.inr (QZ 1) | decide|decide +kernel)
local macro_rules | `(tactic| walk_at "ob") => `(tactic| (repeat' (first|with_reducible exact True.intro|with_reducible exact AG|with_reducible apply wk|with_reducible apply AF|with_reducible apply tW|with_reducible assumption | ((with_reducible apply eU);intro hgd) | walk_at "leaf")))
local macro_rules | `(∅) => `(fL rfl (by walk_at "ob"))
noncomputable def BL:List (Str×(List D->R1)):=[("len", As),("tuple", sV),("list", qL),("abs", Az),("all", Ay),("any", wg),("sum", Aq),("isinstance", At),("int", Av)]
noncomputable def IL:List (Str×(List D->Nat->R1)):=[("range", su),("zip", zW)]
noncomputable def ML:List (Str×(D->List D->R1)):=[]
noncomputable def TL:List (Str×(List D->List D->Nat->Rs (List D))):=[("append", ol)]
noncomputable def EX:Str->Option (Str×Option Str):=fun c=>([("NoTurn", "SpaceError", some "why"),("Nought", "SpaceError", none)]:List (Str×Str×Option Str)).lookup c
noncomputable def AI:Fx:=Tb [] [] BL IL ML TL bA
noncomputable def AM:List D->Rs D:=cE AI (ae (ak 35)) ["_law_script", "_law_k"] (am (ak 35))
noncomputable def iC:List D->Rs D:=xa dL dI fun l k=>.ok (.int (aK l k)) [okL l]
theorem t7:∀ds r,af (iC ds) r->af (AM ds) r:=by
 intro ds r h
 obtain⟨l,k,rfl,h⟩:=nZ h
 obtain⟨rfl,⟨ns,rfl⟩,_⟩:=gb h
 refine eN (bI 1 (fL rfl True.intro) (vg (fL rfl True.intro) (fun ht=>?_) (fun hf=>?_)))
 ·have hl:(ns.map D.int).length=ns.length:=by simp
  have hp:(0:Int)<((ns.map D.int).length:Nat):=by simpa using ht
  have hi:L2.atI (ns.map D.int) (k.fmod (((ns.map D.int).length:Nat):Int))=some (.int (eG ns k)):=by
   rw[hl]at hp⊢
   have hne:ns≠[]:=by intro z;subst z;simp at hp
   unfold eG
   rw[if_neg hne]
   exact Ev (QU _ hp) (Q4 _ hp)
  refine bh (aW (d:=.int (eG ns k)) (fP (fL rfl True.intro) (fL rfl ⟨Int.ne_of_gt hp,True.intro⟩) rfl hi)) ?_
  refine ∅.eq ?_
  unfold aK nE;rw[jn]
 ·have hp:ns=[]:=by
   cases ns with
   | nil=>rfl
   | cons n ns=>simp at hf
  subst hp
  refine ∅.eq ?_
  rfl
noncomputable def wn:Fx:=Tb [] [] BL IL ML TL bA
noncomputable def wr:List D->Rs D:=cE wn (ae (ak 38)) ["_law_cell_here", "_law_kind"] (am (ak 38))
noncomputable def gT:List D->Rs D:=xa dI dI fun c k=>.ok (.int (d7 c k)) [Builtin.Int.intBits c<=2 ^ 21]
theorem qz:∀ds r,af (gT ds) r->af (wr ds) r:=by
 intro ds r h
 obtain⟨c,k,rfl,h'⟩:=nZ h
 obtain⟨rfl,hb,_⟩:=gb h'
 have hm:cg c (1000003 ^ Int.toNat 4):=Dl (QD hb (by decide)) Ao
 unfold d7
 by_cases h1:k.fmod 3=0
 ·rw[if_pos h1]
  exact eN (cm ∅ (oN h1) ∅)
 ·rw[if_neg h1]
  by_cases h2:k.fmod 3=1
  ·rw[if_pos h2]
   exact eN (b8 ∅ ((fk _ _).trans (QY h1)) (cm ∅ (oN h2) ∅))
  ·rw[if_neg h2]
   exact eN (b8 ∅ ((fk _ _).trans (QY h1)) (b8 ∅ ((fk _ _).trans (QY h2)) ∅))
noncomputable def gn:Fx:=Tb [("_law_cell", iC),("_law_number", gT)] [] BL IL ML TL bA
noncomputable def i5:List D->Rs D:=cE gn (ae (ak 39)) ["_law_script", "_law_at", "_law_many"] (am (ak 39))
theorem Bm(hw:kg L)(k q:Int)(ha:cA a)(hb:cA b)(hc:cA c)(hd:cA d):∃x y z w:Int,(cA x/\cA y/\cA z/\cA w) /\ ¬ (x=0/\y=0/\z=0/\w=0)/\af (aJ gn ((am (ak 39)).drop 4) (ae (ak 39)) (bi [("_law_script", .lst L,false),("_law_at", .int k,false),("_law_many", .int 4,false),("_law_kind", .int q,true),("_law_found", .lst [.int a,.int b,.int c,.int d],true)])) (.rt (.tup [.int x,.int y,.int z,.int w])):=by
 have i0:=QU (q.fdiv 9) (show(0:Int)<4 by decide)
 have i1:=Q4 (q.fdiv 9) (show(0:Int)<4 by decide)
 have j0:=QU (q.fdiv 36) (show(0:Int)<2 by decide)
 have j1:=Q4 (q.fdiv 36) (show(0:Int)<2 by decide)
 have an:=ID a b c d
 by_cases h:a=0/\b=0/\c=0/\d=0
 ·rw[RZ h]at an
  obtain⟨x,y,z,w,e,hp,hn⟩:=zh i0 i1 a b c d (1-2*(q.fdiv 36).fmod 2)
  refine⟨x,y,z,w,hp cA ha hb hc hd (by unfold cA;generalize (q.fdiv 36).fmod 2=t at *;omega),hn (by omega),?_⟩
  exact cm (∅.bl (c:=true) (by show(!(([a,b,c,d]:List Int).any fun n=>n != 0))=true;rw[an];rfl)) rfl (bh (sD rfl ∅ ∅ e rfl rfl) ∅)
 ·rw[QY h]at an
  refine⟨a,b,c,d,⟨ha,hb,hc,hd⟩,h,?_⟩
  exact b8 (∅.bl (c:=false) (by show(!(([a,b,c,d]:List Int).any fun n=>n != 0))=false;rw[an];rfl)) rfl ∅
theorem Bn(hw:kg L)(k q:Int)(ha:cA a)(hb:cA b)(hc:cA c)(hd:cA d):∃x y z w:Int,(cA x/\cA y/\cA z/\cA w) /\ ¬ (x=0/\y=0/\z=0/\w=0)/\af (aJ gn ((am (ak 39)).drop 3) (ae (ak 39)) (bi [("_law_script", .lst L,false),("_law_at", .int k,false),("_law_many", .int 4,false),("_law_kind", .int q,true),("_law_found", .lst [.int a,.int b,.int c,.int d],true)])) (.rt (.tup [.int x,.int y,.int z,.int w])):=by
 have hl:=hw.okL
 have i0:=QU (q.fdiv 9) (show(0:Int)<4 by decide)
 have i1:=Q4 (q.fdiv 9) (show(0:Int)<4 by decide)
 by_cases h:(q.fdiv 3).fmod 3=2
 ·obtain⟨x,y,z,w,e,hp,hn⟩:=zh i0 i1 a a a a (d7 (aK L (k+2)) q)
  obtain⟨hx,hy,hz,hw'⟩:=hp cA ha ha ha ha (ic _ _)
  obtain⟨x',y',z',w',h1,h2,h3⟩:=Bm hw k q hx hy hz hw'
  refine⟨x',y',z',w',h1,h2,?_⟩
  exact cm ∅ (oN h) (bI 1 ∅ (bh (sD rfl ∅ ∅ e rfl rfl) (bw (ai rfl (ai rfl (ai rfl (ai rfl (ai rfl aT))))) h3)))
 ·obtain⟨x',y',z',w',h1,h2,h3⟩:=Bm hw k q ha hb hc hd
  refine⟨x',y',z',w',h1,h2,?_⟩
  exact b8 ∅ ((fk _ _).trans (QY h)) h3
theorem JI(hw:kg L)(k q:Int)(ha:cA a)(hb:cA b)(hc:cA c)(hd:cA d):∃x y z w:Int,(cA x/\cA y/\cA z/\cA w) /\ ¬ (x=0/\y=0/\z=0/\w=0)/\af (aJ gn ((am (ak 39)).drop 2) (ae (ak 39)) (bi [("_law_script", .lst L,false),("_law_at", .int k,false),("_law_many", .int 4,false),("_law_kind", .int q,true),("_law_found", .lst [.int a,.int b,.int c,.int d],true)])) (.rt (.tup [.int x,.int y,.int z,.int w])):=by
 have hl:=hw.okL
 have i0:=QU (q.fdiv 9) (show(0:Int)<4 by decide)
 have i1:=Q4 (q.fdiv 9) (show(0:Int)<4 by decide)
 by_cases h:(q.fdiv 3).fmod 3=1
 ·obtain⟨x,y,z,w,e,hp,hn⟩:=zh i0 i1 a b c d 0
  obtain⟨hx,hy,hz,hw'⟩:=hp cA ha hb hc hd (QZ _)
  obtain⟨x',y',z',w',h1,h2,h3⟩:=Bn hw k q hx hy hz hw'
  refine⟨x',y',z',w',h1,h2,?_⟩
  exact cm ∅ (oN h) (bh (sD rfl ∅ ∅ e rfl rfl) (bw (ai rfl (ai rfl (ai rfl (ai rfl (ai rfl aT))))) h3))
 ·obtain⟨x',y',z',w',h1,h2,h3⟩:=Bn hw k q ha hb hc hd
  refine⟨x',y',z',w',h1,h2,?_⟩
  exact b8 ∅ ((fk _ _).trans (QY h)) h3
theorem Ge(hw:kg L)(k:Int):∃x y z w:Int,(cA x/\cA y/\cA z/\cA w) /\ ¬ (x=0/\y=0/\z=0/\w=0)/\af (i5 [.lst L,.int k,.int 4]) (.tup [.int x,.int y,.int z,.int w]):=by
 have hl:=hw.okL
 obtain⟨x',y',z',w',h1,h2,h3⟩:=JI hw k (aK L k) (ic (aK L (k+1+0)) (aK L k)) (ic (aK L (k+1+1)) (aK L k)) (ic (aK L (k+1+2)) (aK L k)) (ic (aK L (k+1+3)) (aK L k))
 exact⟨x',y',z',w',h1,h2,eN (bI 2 ∅ (bw (ai rfl (ai rfl (ai rfl (ai rfl (ai rfl aT))))) h3))⟩
noncomputable def t3:Fx:=Tb [] [] BL IL ML TL bA
noncomputable def t8:List D->Rs D:=cE t3 (ae (ak 42)) ["_law_numbers_here"] (am (ak 42))
noncomputable def gq:List D->Rs D:=Fb dQ fun p=>.ok (.int (E6 p)) [qc p]
theorem oV:∀ds r,af (gq ds) r->af (t8 ds) r:=by
 intro ds r h
 obtain⟨p,rfl,h⟩:=Cw h
 obtain⟨rfl,hp,_⟩:=gb h
 obtain⟨h1,h2,h3,h4⟩:=hp
 exact fL rfl (by walk_at "ob")
noncomputable def aV:Fx:=Tb [("_law_cell", iC)] [] BL IL ML TL bA
noncomputable def aQ(T:T9):List (List Int):=[[T.a,T.b,T.c],[T.d,T.e,T.f],[T.g,T.h,T.i]]
noncomputable abbrev T9.RR(T:T9):Sp.D:=.lst ((aQ T).map aS)
noncomputable def cu(P:Int->Prop)(T:T9):Prop:=(P T.a/\P T.b/\P T.c)/\(P T.d/\P T.e/\P T.f)/\P T.g/\P T.h/\P T.i
theorem gy(T:T9)(hn:n<3):∃x y z,(aQ T)[n]?=some [x,y,z]/\∀P,cu P T->P x/\P y/\P z:=by
 match n,hn with
 | 0,_=>exact⟨_,_,_,rfl,fun P h=>h.1⟩
 | 1,_=>exact⟨_,_,_,rfl,fun P h=>h.2.1⟩
 | 2,_=>exact⟨_,_,_,rfl,fun P h=>h.2.2⟩
theorem fZ(T:T9)(hn:n<3)(x y z:Int):∃T',(aQ T).set n [x,y,z]=aQ T'/\∀P,cu P T->P x->P y->P z->cu P T':=by
 match n,hn with
 | 0,_=>exact⟨⟨T.n,x,y,z,T.d,T.e,T.f,T.g,T.h,T.i⟩,rfl,fun P h a b c=>⟨⟨a,b,c⟩,h.2.1,h.2.2⟩⟩
 | 1,_=>exact⟨⟨T.n,T.a,T.b,T.c,x,y,z,T.g,T.h,T.i⟩,rfl,fun P h a b c=>⟨h.1,⟨a,b,c⟩,h.2.2⟩⟩
 | 2,_=>exact⟨⟨T.n,T.a,T.b,T.c,T.d,T.e,T.f,x,y,z⟩,rfl,fun P h a b c=>⟨h.1,h.2.1,a,b,c⟩⟩
theorem mG(x y z v:Int)(hn:n<3):∃x' y' z' u,([x,y,z]:List Int).set n v=[x',y',z']/\[x,y,z][n]?=some u/\∀P:Int->Prop,P x->P y->P z->P u/\(P v->P x'/\P y'/\P z'):=by
 match n,hn with
 | 0,_=>exact⟨_,_,_,_,rfl,rfl,fun P a b c=>⟨a,fun d=>⟨d,b,c⟩⟩⟩
 | 1,_=>exact⟨_,_,_,_,rfl,rfl,fun P a b c=>⟨b,fun d=>⟨a,d,c⟩⟩⟩
 | 2,_=>exact⟨_,_,_,_,rfl,rfl,fun P a b c=>⟨c,fun d=>⟨a,b,d⟩⟩⟩
theorem mU(hn:n<3):ixN 3 (n:Int)=some n:=by
 match n,hn with
 | 0,_=>rfl
 | 1,_=>rfl
 | 2,_=>rfl
noncomputable abbrev bt(x:Int):Prop:=x.natAbs<=2 ^ 145
theorem IA(h:x.natAbs<=2 ^ 140)(t:Int)(ht:0<=t/\t<=1):bt (x+1-2*t):=by
 have e:(2:Nat) ^ 145=32*2 ^ 140:=by decide
 have e1:1<=(2:Nat) ^ 140:=Nat.one_le_two_pow
 show _<=2 ^ 145
 rw[e]
 generalize (2:Nat) ^ 140=B at *
 omega
theorem aZ(h:x.natAbs<=2 ^ 140):bt x:=QD h (RO (by decide) (by decide))
theorem yH{mm:Int}(h:x.natAbs<=2 ^ 140)(hm:mm.natAbs<=3):bt (mm*x):=by
 have e:(2:Nat) ^ 145=32*2 ^ 140:=by decide
 show _<=2 ^ 145
 rw[Rk,e]
 exact Sk (QD hm (by decide)) h
noncomputable def T9.ok(T:T9):Prop:=0<T.n/\∀x∈T.l,x.natAbs<=2 ^ 150
noncomputable def gr:List D->Rs D:=uU fun ds r => ∃d1 d2,ds=[d1,d2]/\Ro aV (fun _=>none) (ae (ak 44)) (am (ak 44)) (l9 "_law_script" "_law_rows_here" d1 d2) (.rt r)/\∃T',r=T9.RR T'/\cu bt T'
theorem oY:∀d1 d2 r,af (gr [d1,d2]) r->Ro aV (fun _=>none) (ae (ak 44)) (am (ak 44)) (l9 "_law_script" "_law_rows_here" d1 d2) (.rt r):=by
 intro d1 d2 r h
 obtain⟨a,b,e,h,_⟩:=uT h
 cases e
 exact h
theorem Pu(hn:n<3)(hm:m<3)(h9:cu (fun x=>x.natAbs<=2 ^ 140) T)(hd:∀(i j:Nat) (l l':List Int),(aQ T)[i]?=some l->(aQ T)[j]?=some l'->i≠j->l≠l')(s:Sub (bi [("_law_script", .lst L,false),("_law_rows_here", .lst ((aQ T).map aS),true),("_law_cell_here", .int (aK L 1),true),("_law_way", .int 0,true),("_law_i", .int (n:Nat),true),("_law_j", .int (m:Nat),true)]) ρ):∃T',cu bt T'/\Ro aV (fun _=>none) (ae (ak 44)) ((am (ak 44)).drop 4) ρ (.rt (T9.RR T')):=by
 have hl3:((aQ T).map aS).length=3:=rfl
 exact⟨T,⟨⟨aZ h9.1.1,aZ h9.1.2.1,aZ h9.1.2.2⟩,⟨aZ h9.2.1.1,aZ h9.2.1.2.1,aZ h9.2.1.2.2⟩,aZ h9.2.2.1,aZ h9.2.2.2.1,aZ h9.2.2.2.2⟩,Ro.rf (.base (bw s ∅))⟩
theorem Pt(hn:n<3)(hm:m<3)(h9:cu (fun x=>x.natAbs<=2 ^ 140) T)(hd:∀(i j:Nat) (l l':List Int),(aQ T)[i]?=some l->(aQ T)[j]?=some l'->i≠j->l≠l')(s:Sub (bi [("_law_script", .lst L,false),("_law_rows_here", .lst ((aQ T).map aS),true),("_law_cell_here", .int (aK L 1),true),("_law_way", .int 1,true),("_law_i", .int (n:Nat),true),("_law_j", .int (m:Nat),true)]) ρ):∃T',cu bt T'/\Ro aV (fun _=>none) (ae (ak 44)) ((am (ak 44)).drop 4) ρ (.rt (T9.RR T')):=by
 have hl3:((aQ T).map aS).length=3:=rfl
 obtain⟨x,y,z,e1,p1⟩:=gy T hn
 have pp:=p1 _ h9
 have hat:L2.atI ((aQ T).map aS) (n:Int)=some (aS [x,y,z]):=dD (by rw[QS,e1];rfl)
 obtain⟨_,_,_,u0,_,e0,p0⟩:=mG x y z 0 hm
 have pu:=(p0 (fun x=>x.natAbs<=2 ^ 140) pp.1 pp.2.1 pp.2.2).1
 obtain⟨x',y',z',u,e2,e3,p2⟩:=mG x y z (u0+1-2*((aK L 1).fdiv 72).fmod 2) hm
 obtain⟨T',eT0,p3⟩:=fZ T hn x' y' z'
 have eT:((aQ T).set n (([x,y,z]:List Int).set m (u0+1-2*((aK L 1).fdiv 72).fmod 2)))=aQ T':=by rw[e2];exact eT0
 have hv:bt (u0+1-2*((aK L 1).fdiv 72).fmod 2):=IA pu _ ⟨QU _ (by decide),by have:=Q4 ((aK L 1).fdiv 72) (show(0:Int)<2 by decide);omega⟩
 have pv:=(p2 bt (aZ pp.1) (aZ pp.2.1) (aZ pp.2.2)).2 hv
 have h145:cu bt T:=⟨⟨aZ h9.1.1,aZ h9.1.2.1,aZ h9.1.2.2⟩,⟨aZ h9.2.1.1,aZ h9.2.1.2.1,aZ h9.2.1.2.2⟩,aZ h9.2.2.1,aZ h9.2.2.2.1,aZ h9.2.2.2.2⟩
 have hat2:L2.atI (([x,y,z]:List Int).map D.int) (m:Int)=some (.int u0):=dD (by rw[QS,e0];rfl)
 refine⟨T',p3 bt h145 pv.1 pv.2.1 pv.2.2,Ro.iff (t:=true) (k:=0) (cy s ∅) (Ro.rf (Rf.seq (jL.sto2 (Ls:=aQ T) (l:=[x,y,z]) (n:=n) (nm:=m) (v:=(u0+1-2*((aK L 1).fdiv 72).fmod 2)) (k:=0) s.get (cy s (sI (k:=0) (j:=0) (sI (k:=0) (j:=0) (fP (k:=2) (k2:=0) (x:=aS [x,y,z]) (fP (k:=2) (k2:=0) ∅ ∅ rfl hat) ∅ rfl hat2) ∅ ∅) ∅ ∅)) (cy s ∅) (cy s ∅) rfl (mU hn) e1 (mU hm) (fun i l h1 h2=>hd i n l _ h1 e1 h2) (fun _ _=>rfl) (fun _ _ _ _ z=>by cases z)) (.base b7))) ?_⟩
 have s1:=s.put "_law_rows_here" (.lst ((aQ T').map aS),true)
 exact Ro.rf (.base (bw (C:=bi [("_law_script", .lst L,false),("_law_rows_here", .lst ((aQ T').map aS),true),("_law_cell_here", .int (aK L 1),true),("_law_way", .int 1,true),("_law_i", .int (n:Nat),true),("_law_j", .int (m:Nat),true)]) (by rw[eT];exact ai s1.get (ai s1.get (ai s1.get (ai s1.get (ai s1.get (ai s1.get aT)))))) ∅))
theorem Ps(hn:n<3)(hm:m<3)(h9:cu (fun x=>x.natAbs<=2 ^ 140) T)(hd:∀(i j:Nat) (l l':List Int),(aQ T)[i]?=some l->(aQ T)[j]?=some l'->i≠j->l≠l')(s:Sub (bi [("_law_script", .lst L,false),("_law_rows_here", .lst ((aQ T).map aS),true),("_law_cell_here", .int (aK L 1),true),("_law_way", .int 2,true),("_law_i", .int (n:Nat),true),("_law_j", .int (m:Nat),true)]) ρ):∃T',cu bt T'/\Ro aV (fun _=>none) (ae (ak 44)) ((am (ak 44)).drop 4) ρ (.rt (T9.RR T')):=by
 have hl3:((aQ T).map aS).length=3:=rfl
 obtain⟨ρ0,hc0,s⟩:∃ρ0,af (aJ aV (((am (ak 44)).drop 4).take 1) (ae (ak 44)) ρ) (.nx ρ0)/\Sub (bi [("_law_script", .lst L,false),("_law_rows_here", .lst ((aQ T).map aS),true),("_law_cell_here", .int (aK L 1),true),("_law_way", .int 2,true),("_law_i", .int (n:Nat),true),("_law_j", .int (m:Nat),true)]) ρ0:=cv s (ss:=((am (ak 44)).drop 4).take 1) (Φ:=aV) (sc:=ae (ak 44)) (P:=fun ρ'=>Sub (bi [("_law_script", .lst L,false),("_law_rows_here", .lst ((aQ T).map aS),true),("_law_cell_here", .int (aK L 1),true),("_law_way", .int 2,true),("_law_i", .int (n:Nat),true),("_law_j", .int (m:Nat),true)]) ρ') ∅ fun ρ' z=>ai z.get (ai z.get (ai z.get (ai z.get (ai z.get (ai z.get aT)))))
 obtain⟨x,y,z,e1,p1⟩:=gy T hn
 have pp:=p1 _ h9
 have hat:L2.atI ((aQ T).map aS) (n:Int)=some (aS [x,y,z]):=dD (by rw[QS,e1];rfl)
 have h145:cu bt T:=⟨⟨aZ h9.1.1,aZ h9.1.2.1,aZ h9.1.2.2⟩,⟨aZ h9.2.1.1,aZ h9.2.1.2.1,aZ h9.2.1.2.2⟩,aZ h9.2.2.1,aZ h9.2.2.2.1,aZ h9.2.2.2.2⟩
 obtain⟨x2,y2,z2,e2,p2⟩:=gy T hm
 have pq:=p2 _ h9
 obtain⟨T1,eT1,q1⟩:=fZ T hn x2 y2 z2
 obtain⟨T',eT2,q2⟩:=fZ T1 hm x y z
 have eT:(((aQ T).set n [x2,y2,z2]).set m [x,y,z])=aQ T':=by rw[eT1];exact eT2
 have eD:((((aQ T).map aS).set n (aS [x2,y2,z2])).set m (aS [x,y,z]))=(((aQ T).set n [x2,y2,z2]).set m [x,y,z]).map aS:=by rw[SS,SS]
 refine⟨T',q2 bt (q1 bt h145 (aZ pq.1) (aZ pq.2.1) (aZ pq.2.2)) (aZ pp.1) (aZ pp.2.1) (aZ pp.2.2),Ro.cut 1 hc0 (Ro.iff (t:=true) (k:=0) (cy s ∅) (Ro.swp (l:=(aQ T).map aS) (d1:=aS [x,y,z]) (d2:=aS [x2,y2,z2]) (n1:=n) (n2:=m) s.get s.get s.get rfl rfl rfl (mU hn) (mU hm) (by rw[QS,e1];rfl) (by rw[QS,e2];rfl) (.rf (.base b7))) ?_)⟩
 have s1:=s.put "_law_rows_here" (.lst ((aQ T').map aS),true)
 exact Ro.rf (.base (bw (C:=bi [("_law_script", .lst L,false),("_law_rows_here", .lst ((aQ T').map aS),true),("_law_cell_here", .int (aK L 1),true),("_law_way", .int 2,true),("_law_i", .int (n:Nat),true),("_law_j", .int (m:Nat),true)]) (by rw[eD,eT];exact ai s1.get (ai s1.get (ai s1.get (ai s1.get (ai s1.get (ai s1.get aT)))))) ∅))
theorem Pq(hn:n<3)(hm:m<3)(h9:cu (fun x=>x.natAbs<=2 ^ 140) T)(hd:∀(i j:Nat) (l l':List Int),(aQ T)[i]?=some l->(aQ T)[j]?=some l'->i≠j->l≠l')(s:Sub (bi [("_law_script", .lst L,false),("_law_rows_here", .lst ((aQ T).map aS),true),("_law_cell_here", .int (aK L 1),true),("_law_way", .int 3,true),("_law_i", .int (n:Nat),true),("_law_j", .int (m:Nat),true)]) ρ):∃T',cu bt T'/\Ro aV (fun _=>none) (ae (ak 44)) ((am (ak 44)).drop 4) ρ (.rt (T9.RR T')):=by
 have hl3:((aQ T).map aS).length=3:=rfl
 obtain⟨ρ0,hc0,s⟩:∃ρ0,af (aJ aV (((am (ak 44)).drop 4).take 2) (ae (ak 44)) ρ) (.nx ρ0)/\Sub (bi [("_law_script", .lst L,false),("_law_rows_here", .lst ((aQ T).map aS),true),("_law_cell_here", .int (aK L 1),true),("_law_way", .int 3,true),("_law_i", .int (n:Nat),true),("_law_j", .int (m:Nat),true)]) ρ0:=cv s (ss:=((am (ak 44)).drop 4).take 2) (Φ:=aV) (sc:=ae (ak 44)) (P:=fun ρ'=>Sub (bi [("_law_script", .lst L,false),("_law_rows_here", .lst ((aQ T).map aS),true),("_law_cell_here", .int (aK L 1),true),("_law_way", .int 3,true),("_law_i", .int (n:Nat),true),("_law_j", .int (m:Nat),true)]) ρ') ∅ fun ρ' z=>ai z.get (ai z.get (ai z.get (ai z.get (ai z.get (ai z.get aT)))))
 obtain⟨x,y,z,e1,p1⟩:=gy T hn
 have pp:=p1 _ h9
 have hat:L2.atI ((aQ T).map aS) (n:Int)=some (aS [x,y,z]):=dD (by rw[QS,e1];rfl)
 have h145:cu bt T:=⟨⟨aZ h9.1.1,aZ h9.1.2.1,aZ h9.1.2.2⟩,⟨aZ h9.2.1.1,aZ h9.2.1.2.1,aZ h9.2.1.2.2⟩,aZ h9.2.2.1,aZ h9.2.2.2.1,aZ h9.2.2.2.2⟩
 have g:∀{x:Int},x.natAbs<=2 ^ 140->bt (-x):=fun h=>by rw[show bt _=(_<=_)from rfl,Sl];exact aZ h
 obtain⟨T',eT0,q1⟩:=fZ T hn (-x) (-y) (-z)
 have eD:(((aQ T).map aS).set n (aS [(-x),(-y),(-z)]))=((aQ T).set n [(-x),(-y),(-z)]).map aS:=by rw[SS]
 have eT:((aQ T).set n [(-x),(-y),(-z)])=aQ T':=eT0
 refine⟨T',q1 bt h145 (g pp.1) (g pp.2.1) (g pp.2.2),Ro.cut 2 hc0 (Ro.iff (t:=true) (k:=0) (cy s ∅) (Ro.putL (l:=(aQ T).map aS) (d:=aS [(-x),(-y),(-z)]) (j:=(n:Nat)) (n:=n) (k1:=0) s.get (cy s (by exact lU (l:=[x,y,z]) (g:=D.int) (f:=fun t=>D.int (-t)) (fP (k:=2) (k2:=0) ∅ ∅ rfl hat) rfl (Q3 rfl) (.inl rfl) fun t ht=>⟨_,rfl,∅⟩)) (cy s ∅) rfl (mU hn) (fun _ _ _ _ z=>by cases z) (.rf (.base b7))) ?_)⟩
 have s1:=s.put "_law_rows_here" (.lst ((aQ T').map aS),true)
 exact Ro.rf (.base (bw (C:=bi [("_law_script", .lst L,false),("_law_rows_here", .lst ((aQ T').map aS),true),("_law_cell_here", .int (aK L 1),true),("_law_way", .int 3,true),("_law_i", .int (n:Nat),true),("_law_j", .int (m:Nat),true)]) (by rw[eD,eT];exact ai s1.get (ai s1.get (ai s1.get (ai s1.get (ai s1.get (ai s1.get aT)))))) ∅))
theorem Pp(hn:n<3)(hm:m<3)(h9:cu (fun x=>x.natAbs<=2 ^ 140) T)(hd:∀(i j:Nat) (l l':List Int),(aQ T)[i]?=some l->(aQ T)[j]?=some l'->i≠j->l≠l')(s:Sub (bi [("_law_script", .lst L,false),("_law_rows_here", .lst ((aQ T).map aS),true),("_law_cell_here", .int (aK L 1),true),("_law_way", .int 4,true),("_law_i", .int (n:Nat),true),("_law_j", .int (m:Nat),true)]) ρ):∃T',cu bt T'/\Ro aV (fun _=>none) (ae (ak 44)) ((am (ak 44)).drop 4) ρ (.rt (T9.RR T')):=by
 have hl3:((aQ T).map aS).length=3:=rfl
 have g:∀{x:Int},x.natAbs<=2 ^ 140->bt (-x):=fun h=>by rw[show bt _=(_<=_)from rfl,Sl];exact aZ h
 refine⟨⟨T.n,-T.a,-T.b,-T.c,-T.d,-T.e,-T.f,-T.g,-T.h,-T.i⟩,⟨⟨g h9.1.1,g h9.1.2.1,g h9.1.2.2⟩,⟨g h9.2.1.1,g h9.2.1.2.1,g h9.2.1.2.2⟩,g h9.2.2.1,g h9.2.2.2.1,g h9.2.2.2.2⟩,Ro.rf (Rf.dem (.base (bw (C:=bi [("_law_script", .lst L,false),("_law_rows_here", .lst ((aQ T).map aS),false),("_law_cell_here", .int (aK L 1),false),("_law_way", .int 4,false),("_law_i", .int (n:Nat),false),("_law_j", .int (m:Nat),false)]) (ud s) ∅)))⟩
theorem Po(hn:n<3)(hm:m<3)(h9:cu (fun x=>x.natAbs<=2 ^ 140) T)(hd:∀(i j:Nat) (l l':List Int),(aQ T)[i]?=some l->(aQ T)[j]?=some l'->i≠j->l≠l')(s:Sub (bi [("_law_script", .lst L,false),("_law_rows_here", .lst ((aQ T).map aS),true),("_law_cell_here", .int (aK L 1),true),("_law_way", .int 5,true),("_law_i", .int (n:Nat),true),("_law_j", .int (m:Nat),true)]) ρ):∃T',cu bt T'/\Ro aV (fun _=>none) (ae (ak 44)) ((am (ak 44)).drop 4) ρ (.rt (T9.RR T')):=by
 have hl3:((aQ T).map aS).length=3:=rfl
 obtain⟨ρ0,hc0,s⟩:∃ρ0,af (aJ aV (((am (ak 44)).drop 4).take 4) (ae (ak 44)) ρ) (.nx ρ0)/\Sub (bi [("_law_script", .lst L,false),("_law_rows_here", .lst ((aQ T).map aS),true),("_law_cell_here", .int (aK L 1),true),("_law_way", .int 5,true),("_law_i", .int (n:Nat),true),("_law_j", .int (m:Nat),true)]) ρ0:=cv s (ss:=((am (ak 44)).drop 4).take 4) (Φ:=aV) (sc:=ae (ak 44)) (P:=fun ρ'=>Sub (bi [("_law_script", .lst L,false),("_law_rows_here", .lst ((aQ T).map aS),true),("_law_cell_here", .int (aK L 1),true),("_law_way", .int 5,true),("_law_i", .int (n:Nat),true),("_law_j", .int (m:Nat),true)]) ρ') ∅ fun ρ' z=>ai z.get (ai z.get (ai z.get (ai z.get (ai z.get (ai z.get aT)))))
 obtain⟨x,y,z,e1,p1⟩:=gy T hn
 have pp:=p1 _ h9
 have hat:L2.atI ((aQ T).map aS) (n:Int)=some (aS [x,y,z]):=dD (by rw[QS,e1];rfl)
 obtain⟨_,_,_,u0,_,e0,p0⟩:=mG x y z 0 hm
 have pu:=(p0 (fun x=>x.natAbs<=2 ^ 140) pp.1 pp.2.1 pp.2.2).1
 obtain⟨x',y',z',u,e2,e3,p2⟩:=mG x y z (-u0) hm
 obtain⟨T',eT0,p3⟩:=fZ T hn x' y' z'
 have eT:((aQ T).set n (([x,y,z]:List Int).set m (-u0)))=aQ T':=by rw[e2];exact eT0
 have hv:bt (-u0):=(by rw[show bt _=(_<=_)from rfl,Sl];exact aZ pu)
 have pv:=(p2 bt (aZ pp.1) (aZ pp.2.1) (aZ pp.2.2)).2 hv
 have h145:cu bt T:=⟨⟨aZ h9.1.1,aZ h9.1.2.1,aZ h9.1.2.2⟩,⟨aZ h9.2.1.1,aZ h9.2.1.2.1,aZ h9.2.1.2.2⟩,aZ h9.2.2.1,aZ h9.2.2.2.1,aZ h9.2.2.2.2⟩
 have hat2:L2.atI (([x,y,z]:List Int).map D.int) (m:Int)=some (.int u0):=dD (by rw[QS,e0];rfl)
 refine⟨T',p3 bt h145 pv.1 pv.2.1 pv.2.2,Ro.cut 4 hc0 (Ro.iff (t:=true) (k:=0) (cy s ∅) (Ro.rf (Rf.seq (jL.sto2 (Ls:=aQ T) (l:=[x,y,z]) (n:=n) (nm:=m) (v:=(-u0)) (k:=0) s.get (cy s (Hm (fP (k:=2) (k2:=0) (x:=aS [x,y,z]) (fP (k:=2) (k2:=0) ∅ ∅ rfl hat) ∅ rfl hat2))) (cy s ∅) (cy s ∅) rfl (mU hn) e1 (mU hm) (fun i l h1 h2=>hd i n l _ h1 e1 h2) (fun _ _=>rfl) (fun _ _ _ _ z=>by cases z)) (.base b7))) ?_)⟩
 have s1:=s.put "_law_rows_here" (.lst ((aQ T').map aS),true)
 exact Ro.rf (.base (bw (C:=bi [("_law_script", .lst L,false),("_law_rows_here", .lst ((aQ T').map aS),true),("_law_cell_here", .int (aK L 1),true),("_law_way", .int 5,true),("_law_i", .int (n:Nat),true),("_law_j", .int (m:Nat),true)]) (by rw[eT];exact ai s1.get (ai s1.get (ai s1.get (ai s1.get (ai s1.get (ai s1.get aT)))))) ∅))
theorem Pn(hn:n<3)(hm:m<3)(h9:cu (fun x=>x.natAbs<=2 ^ 140) T)(hd:∀(i j:Nat) (l l':List Int),(aQ T)[i]?=some l->(aQ T)[j]?=some l'->i≠j->l≠l')(s:Sub (bi [("_law_script", .lst L,false),("_law_rows_here", .lst ((aQ T).map aS),true),("_law_cell_here", .int (aK L 1),true),("_law_way", .int 6,true),("_law_i", .int (n:Nat),true),("_law_j", .int (m:Nat),true)]) ρ):∃T',cu bt T'/\Ro aV (fun _=>none) (ae (ak 44)) ((am (ak 44)).drop 4) ρ (.rt (T9.RR T')):=by
 have hl3:((aQ T).map aS).length=3:=rfl
 obtain⟨ρ0,hc0,s⟩:∃ρ0,af (aJ aV (((am (ak 44)).drop 4).take 5) (ae (ak 44)) ρ) (.nx ρ0)/\Sub (bi [("_law_script", .lst L,false),("_law_rows_here", .lst ((aQ T).map aS),true),("_law_cell_here", .int (aK L 1),true),("_law_way", .int 6,true),("_law_i", .int (n:Nat),true),("_law_j", .int (m:Nat),true)]) ρ0:=cv s (ss:=((am (ak 44)).drop 4).take 5) (Φ:=aV) (sc:=ae (ak 44)) (P:=fun ρ'=>Sub (bi [("_law_script", .lst L,false),("_law_rows_here", .lst ((aQ T).map aS),true),("_law_cell_here", .int (aK L 1),true),("_law_way", .int 6,true),("_law_i", .int (n:Nat),true),("_law_j", .int (m:Nat),true)]) ρ') ∅ fun ρ' z=>ai z.get (ai z.get (ai z.get (ai z.get (ai z.get (ai z.get aT)))))
 obtain⟨x,y,z,e1,p1⟩:=gy T hn
 have pp:=p1 _ h9
 have hat:L2.atI ((aQ T).map aS) (n:Int)=some (aS [x,y,z]):=dD (by rw[QS,e1];rfl)
 have h145:cu bt T:=⟨⟨aZ h9.1.1,aZ h9.1.2.1,aZ h9.1.2.2⟩,⟨aZ h9.2.1.1,aZ h9.2.1.2.1,aZ h9.2.1.2.2⟩,aZ h9.2.2.1,aZ h9.2.2.2.1,aZ h9.2.2.2.2⟩
 obtain⟨mm,hmm,hatm⟩:=KC (f:=D.int) (l:=[2,3,0]) (i:=((aK L 1).fdiv 72).fmod 3) (QU _ (by decide)) (Q4 _ (by decide))
 have m3:mm.natAbs<=3:=by
  simp only[QA,QI,Q1]at hmm
  rcases hmm with rfl|rfl|rfl<;>decide
 have mok:∀t:Int,t∈[x,y,z]->cg mm t:=fun t ht=>by
  have ht:t.natAbs<=2 ^ 140:=by
   simp only[QA,QI,Q1]at ht
   rcases ht with rfl|rfl|rfl
   ·exact pp.1
   ·exact pp.2.1
   ·exact pp.2.2
  exact ck (bE (m:=2) (QD m3 (by decide)) (by decide)) (bE ht (by decide))
 obtain⟨T',eT0,q1⟩:=fZ T hn (mm*x) (mm*y) (mm*z)
 have eD:(((aQ T).map aS).set n (aS [(mm*x),(mm*y),(mm*z)]))=((aQ T).set n [(mm*x),(mm*y),(mm*z)]).map aS:=by rw[SS]
 have eT:((aQ T).set n [(mm*x),(mm*y),(mm*z)])=aQ T':=eT0
 refine⟨T',q1 bt h145 (yH pp.1 m3) (yH pp.2.1 m3) (yH pp.2.2 m3),Ro.cut 5 hc0 (Ro.iff (t:=true) (k:=0) (cy s ∅) (Ro.putL (l:=(aQ T).map aS) (d:=aS [(mm*x),(mm*y),(mm*z)]) (j:=(n:Nat)) (n:=n) (k1:=0) s.get (cy s (by exact lU (l:=[x,y,z]) (g:=D.int) (f:=fun t=>D.int (mm*t)) (fP (k:=2) (k2:=0) ∅ ∅ rfl hat) rfl (Q3 rfl) (.inl rfl) fun t ht=>⟨_,rfl,(by have mo:=mok t ht;exact sI (k:=0) (j:=0) (fP (k:=0) (k2:=0) ∅ ∅ rfl hatm) ∅ ∅)⟩)) (cy s ∅) rfl (mU hn) (fun _ _ _ _ z=>by cases z) (.rf (.base b7))) ?_)⟩
 have s1:=s.put "_law_rows_here" (.lst ((aQ T').map aS),true)
 exact Ro.rf (.base (bw (C:=bi [("_law_script", .lst L,false),("_law_rows_here", .lst ((aQ T').map aS),true),("_law_cell_here", .int (aK L 1),true),("_law_way", .int 6,true),("_law_i", .int (n:Nat),true),("_law_j", .int (m:Nat),true)]) (by rw[eD,eT];exact ai s1.get (ai s1.get (ai s1.get (ai s1.get (ai s1.get (ai s1.get aT)))))) ∅))
theorem Pl(hn:n<3)(hm:m<3)(h9:cu (fun x=>x.natAbs<=2 ^ 140) T)(hd:∀(i j:Nat) (l l':List Int),(aQ T)[i]?=some l->(aQ T)[j]?=some l'->i≠j->l≠l')(s:Sub (bi [("_law_script", .lst L,false),("_law_rows_here", .lst ((aQ T).map aS),true),("_law_cell_here", .int (aK L 1),true),("_law_way", .int 7,true),("_law_i", .int (n:Nat),true),("_law_j", .int (m:Nat),true)]) ρ):∃T',cu bt T'/\Ro aV (fun _=>none) (ae (ak 44)) ((am (ak 44)).drop 4) ρ (.rt (T9.RR T')):=by
 have hl3:((aQ T).map aS).length=3:=rfl
 obtain⟨ρ0,hc0,s⟩:∃ρ0,af (aJ aV (((am (ak 44)).drop 4).take 6) (ae (ak 44)) ρ) (.nx ρ0)/\Sub (bi [("_law_script", .lst L,false),("_law_rows_here", .lst ((aQ T).map aS),true),("_law_cell_here", .int (aK L 1),true),("_law_way", .int 7,true),("_law_i", .int (n:Nat),true),("_law_j", .int (m:Nat),true)]) ρ0:=cv s (ss:=((am (ak 44)).drop 4).take 6) (Φ:=aV) (sc:=ae (ak 44)) (P:=fun ρ'=>Sub (bi [("_law_script", .lst L,false),("_law_rows_here", .lst ((aQ T).map aS),true),("_law_cell_here", .int (aK L 1),true),("_law_way", .int 7,true),("_law_i", .int (n:Nat),true),("_law_j", .int (m:Nat),true)]) ρ') ∅ fun ρ' z=>ai z.get (ai z.get (ai z.get (ai z.get (ai z.get (ai z.get aT)))))
 obtain⟨x,y,z,e1,p1⟩:=gy T hn
 have pp:=p1 _ h9
 have hat:L2.atI ((aQ T).map aS) (n:Int)=some (aS [x,y,z]):=dD (by rw[QS,e1];rfl)
 have h145:cu bt T:=⟨⟨aZ h9.1.1,aZ h9.1.2.1,aZ h9.1.2.2⟩,⟨aZ h9.2.1.1,aZ h9.2.1.2.1,aZ h9.2.1.2.2⟩,aZ h9.2.2.1,aZ h9.2.2.2.1,aZ h9.2.2.2.2⟩
 obtain⟨x2,y2,z2,e2,p2⟩:=gy T hm
 have pq:=p2 _ h9
 have hatj:L2.atI ((aQ T).map aS) (m:Int)=some (aS [x2,y2,z2]):=dD (by rw[QS,e2];rfl)
 obtain⟨T',eT0,q1⟩:=fZ T hn x2 y2 z2
 have eD:(((aQ T).map aS).set n (aS [x2,y2,z2]))=((aQ T).set n [x2,y2,z2]).map aS:=by rw[SS]
 have eT:((aQ T).set n [x2,y2,z2])=aQ T':=eT0
 refine⟨T',q1 bt h145 (aZ pq.1) (aZ pq.2.1) (aZ pq.2.2),Ro.cut 6 hc0 (Ro.iff (t:=true) (k:=0) (cy s ∅) (Ro.putL (l:=(aQ T).map aS) (d:=aS [x2,y2,z2]) (j:=(n:Nat)) (n:=n) (k1:=0) s.get (cy s (by exact Hn (B:=qL) (jA (fP (k:=2) (k2:=0) ∅ ∅ rfl hatj) oG) ∅)) (cy s ∅) rfl (mU hn) (fun _ _ _ _ z=>by cases z) (.rf (.base b7))) ?_)⟩
 have s1:=s.put "_law_rows_here" (.lst ((aQ T').map aS),true)
 exact Ro.rf (.base (bw (C:=bi [("_law_script", .lst L,false),("_law_rows_here", .lst ((aQ T').map aS),true),("_law_cell_here", .int (aK L 1),true),("_law_way", .int 7,true),("_law_i", .int (n:Nat),true),("_law_j", .int (m:Nat),true)]) (by rw[eD,eT];exact ai s1.get (ai s1.get (ai s1.get (ai s1.get (ai s1.get (ai s1.get aT)))))) ∅))
theorem Kv(hw:kg L)(h9:cu (fun x=>x.natAbs<=2 ^ 140) T)(hd:∀(i j:Nat) (l l':List Int),(aQ T)[i]?=some l->(aQ T)[j]?=some l'->i≠j->l≠l'):∃T',cu bt T'/\af (gr [.lst L,T9.RR T]) (T9.RR T'):=by
 have hl:=hw.okL
 obtain⟨ρ1,hc,s⟩:∃ρ1,af (aJ aV ((am (ak 44)).take 4) (ae (ak 44)) (l9 "_law_script" "_law_rows_here" (.lst L) (T9.RR T))) (.nx ρ1)/\Sub (bi [("_law_script", .lst L,false),("_law_rows_here", .lst ((aQ T).map aS),true),("_law_cell_here", .int (aK L 1),true),("_law_way", .int ((aK L 1).fmod 8),true),("_law_i", .int (((aK L 1).fdiv 8).fmod 3),true),("_law_j", .int (((aK L 1).fdiv 24).fmod 3),true)]) ρ1:=cv (C:=bi [("_law_script", .lst L,false),("_law_rows_here", T9.RR T,true)]) (ai rfl (ai rfl aT)) ∅ fun ρ' z=>ai z.get (ai z.get (ai z.get (ai z.get (ai z.get (ai z.get aT)))))
 have hf:∀x:Int,∃n:Nat,x.fmod 3=(n:Int)/\n<3:=fun x=>⟨(x.fmod 3).toNat,by have:=QU x (show(0:Int)<3 by decide);omega,by have:=Q4 x (show(0:Int)<3 by decide);have:=QU x (show(0:Int)<3 by decide);omega⟩
 obtain⟨n,en,hn⟩:=hf ((aK L 1).fdiv 8)
 obtain⟨m,em,hm⟩:=hf ((aK L 1).fdiv 24)
 rw[en,em]at s
 have w0:=QU (aK L 1) (show(0:Int)<8 by decide)
 have w1:=Q4 (aK L 1) (show(0:Int)<8 by decide)
 have key:∃T',cu bt T'/\Ro aV (fun _=>none) (ae (ak 44)) ((am (ak 44)).drop 4) ρ1 (.rt (T9.RR T')):=by
  rcases(show(aK L 1).fmod 8=0\/(aK L 1).fmod 8=1\/(aK L 1).fmod 8=2\/(aK L 1).fmod 8=3\/(aK L 1).fmod 8=4\/(aK L 1).fmod 8=5\/(aK L 1).fmod 8=6\/(aK L 1).fmod 8=7 by omega)with z|z|z|z|z|z|z|z
  ·rw[z]at s;exact Pu hn hm h9 hd s
  ·rw[z]at s;exact Pt hn hm h9 hd s
  ·rw[z]at s;exact Ps hn hm h9 hd s
  ·rw[z]at s;exact Pq hn hm h9 hd s
  ·rw[z]at s;exact Pp hn hm h9 hd s
  ·rw[z]at s;exact Po hn hm h9 hd s
  ·rw[z]at s;exact Pn hn hm h9 hd s
  ·rw[z]at s;exact Pl hn hm h9 hd s
 obtain⟨T',hT,hr⟩:=key
 obtain⟨r,h1,d1,d2,e,_,T2,e2,h2⟩:=yj (P:=fun ds r => ∃d1 d2,ds=[d1,d2]/\Ro aV (fun _=>none) (ae (ak 44)) (am (ak 44)) (l9 "_law_script" "_law_rows_here" d1 d2) (.rt r)/\∃T',r=T9.RR T'/\cu bt T') ⟨_,_,rfl,Ro.cut 4 hc hr,T',rfl,hT⟩
 subst e2
 exact⟨T2,h2,h1⟩
noncomputable def t6:Fx:=Tb [] [] BL IL ML TL bA
noncomputable def t9:List D->Rs D:=cE t6 (ae (ak 40)) ["_law_one", "_law_other"] (am (ak 40))
noncomputable def iY:List D->Rs D:=xa dQ dQ fun p q=>.ok (dq (bx p q)) [qc p,qc q]
theorem oX:∀ds r,af (iY ds) r->af (t9 ds) r:=by
 intro ds r h
 obtain⟨p,q,rfl,h⟩:=nZ h
 obtain⟨rfl,hp,hq,_⟩:=gb h
 obtain⟨⟨a1,a2,a3,a4⟩,⟨b1,b2,b3,b4⟩,⟨c1,c2,c3,c4⟩,d1,d2,d3,d4⟩:=Iz hp hq
 exact fL rfl (by walk_at "ob")
noncomputable def AH:Fx:=Tb [("_law_product", iY)] [] BL IL ML TL bA
noncomputable def me:List D->Rs D:=cE AH (ae (ak 41)) ["_law_numbers_here"] (am (ak 41))
theorem Fy(hx:cA x)(hy:cA y)(hz:cA z)(hw:cA w):af (me [.tup [.int x,.int y,.int z,.int w]]) (.lst [.lst [.int (dk x y z w),.int (cZ x y z w),.int (cY x y z w)],.lst [.int (cX x y z w),.int (dj x y z w),.int (cW x y z w)],.lst [.int (cV x y z w),.int (cU x y z w),.int (dh x y z w)]]):=by
 have h67:∀t:Int,cA t->t.natAbs<2 ^ 67:=fun t h=>Rj h (by decide)
 have wp:iH 67 (x,y,z,w):=⟨h67 _ hx,h67 _ hy,h67 _ hz,h67 _ hw⟩
 have wc:iH 67 (x,-y,-z,-w):=⟨h67 _ hx,by show(-y).natAbs<_;rw[Sl];exact h67 _ hy,by show(-z).natAbs<_;rw[Sl];exact h67 _ hz,by show(-w).natAbs<_;rw[Sl];exact h67 _ hw⟩
 have w1:iH 1 (0,1,0,0):=⟨by decide,by decide,by decide,by decide⟩
 have w2:iH 1 (0,0,1,0):=⟨by decide,by decide,by decide,by decide⟩
 have w3:iH 1 (0,0,0,1):=⟨by decide,by decide,by decide,by decide⟩
 have bp:=wp.bd (by decide)
 have bc:=wc.bd (by decide)
 have b1:=w1.bd (by decide)
 have b2:=w2.bd (by decide)
 have b3:=w3.bd (by decide)
 have p1:=gX wp w1
 have p2:=gX wp w2
 have p3:=gX wp w3
 have c1:=p1.bd (by decide)
 have c2:=p2.bd (by decide)
 have c3:=p3.bd (by decide)
 have q1:=(gX p1 wc).mono (show _<=150 by decide)
 have q2:=(gX p2 wc).mono (show _<=150 by decide)
 have q3:=(gX p3 wc).mono (show _<=150 by decide)
 have e00:(bx (bx (x,y,z,w) (0,1,0,0)) (x,-y,-z,-w)).2.1=dk x y z w:=by simp only[bx,dk];grind
 have e01:(bx (bx (x,y,z,w) (0,0,1,0)) (x,-y,-z,-w)).2.1=cZ x y z w:=by simp only[bx,cZ];grind
 have e02:(bx (bx (x,y,z,w) (0,0,0,1)) (x,-y,-z,-w)).2.1=cY x y z w:=by simp only[bx,cY];grind
 have e10:(bx (bx (x,y,z,w) (0,1,0,0)) (x,-y,-z,-w)).2.2.1=cX x y z w:=by simp only[bx,cX];grind
 have e11:(bx (bx (x,y,z,w) (0,0,1,0)) (x,-y,-z,-w)).2.2.1=dj x y z w:=by simp only[bx,dj];grind
 have e12:(bx (bx (x,y,z,w) (0,0,0,1)) (x,-y,-z,-w)).2.2.1=cW x y z w:=by simp only[bx,cW];grind
 have e20:(bx (bx (x,y,z,w) (0,1,0,0)) (x,-y,-z,-w)).2.2.2=cV x y z w:=by simp only[bx,cV];grind
 have e21:(bx (bx (x,y,z,w) (0,0,1,0)) (x,-y,-z,-w)).2.2.2=cU x y z w:=by simp only[bx,cU];grind
 have e22:(bx (bx (x,y,z,w) (0,0,0,1)) (x,-y,-z,-w)).2.2.2=dh x y z w:=by simp only[bx,dh];grind
 refine af.eq ∅ ?_
 show D.lst [.lst [.int ((bx (bx (x,y,z,w) (0,1,0,0)) (x,-y,-z,-w)).2.1),.int ((bx (bx (x,y,z,w) (0,0,1,0)) (x,-y,-z,-w)).2.1),.int ((bx (bx (x,y,z,w) (0,0,0,1)) (x,-y,-z,-w)).2.1)],.lst [.int ((bx (bx (x,y,z,w) (0,1,0,0)) (x,-y,-z,-w)).2.2.1),.int ((bx (bx (x,y,z,w) (0,0,1,0)) (x,-y,-z,-w)).2.2.1),.int ((bx (bx (x,y,z,w) (0,0,0,1)) (x,-y,-z,-w)).2.2.1)],.lst [.int ((bx (bx (x,y,z,w) (0,1,0,0)) (x,-y,-z,-w)).2.2.2),.int ((bx (bx (x,y,z,w) (0,0,1,0)) (x,-y,-z,-w)).2.2.2),.int ((bx (bx (x,y,z,w) (0,0,0,1)) (x,-y,-z,-w)).2.2.2)]]=D.lst [.lst [.int (dk x y z w),.int (cZ x y z w),.int (cY x y z w)],.lst [.int (cX x y z w),.int (dj x y z w),.int (cW x y z w)],.lst [.int (cV x y z w),.int (cU x y z w),.int (dh x y z w)]]
 rw[e00,e01,e02,e10,e11,e12,e20,e21,e22]
noncomputable def fH:Fx:=Tb [("_law_cell", iC),("_law_numbers", i5),("_law_squares", gq),("_law_rows", me),("_law_number", gT)] [] BL IL ML TL bA
noncomputable def eI:tz:=fun g=>([("_law_changed", gr)]:List (Str×(List D->Rs D))).lookup g
theorem On(k x y z w:Int):b9 (k*dk x y z w) (k*cZ x y z w) (k*cY x y z w) (k*dk x y z w) (k*cZ x y z w) (k*cY x y z w)=k*n4 x y z w*(k*n4 x y z w):=by simp only[b9,n4,dk,cZ,cY,cX,dj,cW,cV,cU,dh];grind
theorem Om(k x y z w:Int):b9 (k*dk x y z w) (k*cZ x y z w) (k*cY x y z w) (k*cX x y z w) (k*dj x y z w) (k*cW x y z w)=0:=by simp only[b9,n4,dk,cZ,cY,cX,dj,cW,cV,cU,dh];grind
theorem Ol(k x y z w:Int):b9 (k*dk x y z w) (k*cZ x y z w) (k*cY x y z w) (k*cV x y z w) (k*cU x y z w) (k*dh x y z w)=0:=by simp only[b9,n4,dk,cZ,cY,cX,dj,cW,cV,cU,dh];grind
theorem Oj(k x y z w:Int):b9 (k*cX x y z w) (k*dj x y z w) (k*cW x y z w) (k*cX x y z w) (k*dj x y z w) (k*cW x y z w)=k*n4 x y z w*(k*n4 x y z w):=by simp only[b9,n4,dk,cZ,cY,cX,dj,cW,cV,cU,dh];grind
theorem Oi(k x y z w:Int):b9 (k*cX x y z w) (k*dj x y z w) (k*cW x y z w) (k*cV x y z w) (k*cU x y z w) (k*dh x y z w)=0:=by simp only[b9,n4,dk,cZ,cY,cX,dj,cW,cV,cU,dh];grind
theorem Oh(k x y z w:Int):b9 (k*cV x y z w) (k*cU x y z w) (k*dh x y z w) (k*cV x y z w) (k*cU x y z w) (k*dh x y z w)=k*n4 x y z w*(k*n4 x y z w):=by simp only[b9,n4,dk,cZ,cY,cX,dj,cW,cV,cU,dh];grind
theorem Ke{N:Int}(hN:0<N)(a:b9 T.a T.b T.c T.a T.b T.c=N)(b:b9 T.d T.e T.f T.d T.e T.f=N)(c:b9 T.g T.h T.i T.g T.h T.i=N)(ab:b9 T.a T.b T.c T.d T.e T.f=0)(ac:b9 T.a T.b T.c T.g T.h T.i=0)(bc:b9 T.d T.e T.f T.g T.h T.i=0):∀(i j:Nat) (l l':List Int),(aQ T)[i]?=some l->(aQ T)[j]?=some l'->i≠j->l≠l':=by
 have r:∀{x y z u v w:Int},([x,y,z]:List Int)=[u,v,w]->x=u/\y=v/\z=w:=fun h=>by cases h;exact⟨rfl,rfl,rfl⟩
 have n01:([T.a,T.b,T.c]:List Int)≠[T.d,T.e,T.f]:=fun z=>by
  obtain⟨p,q,s⟩:=r z
  rw[p,q,s,b]at ab;omega
 have n02:([T.a,T.b,T.c]:List Int)≠[T.g,T.h,T.i]:=fun z=>by
  obtain⟨p,q,s⟩:=r z
  rw[p,q,s,c]at ac;omega
 have n12:([T.d,T.e,T.f]:List Int)≠[T.g,T.h,T.i]:=fun z=>by
  obtain⟨p,q,s⟩:=r z
  rw[p,q,s,c]at bc;omega
 intro i j l l' h1 h2 hne
 have hi:i<3:=(QJ.mp h1).1
 have hj:j<3:=(QJ.mp h2).1
 match i,j,hi,hj with
 | 0,0,_,_=>exact absurd rfl hne
 | 0,1,_,_=>cases (QK h1:_=l);cases (QK h2:_=l');exact n01
 | 0,2,_,_=>cases (QK h1:_=l);cases (QK h2:_=l');exact n02
 | 1,0,_,_=>cases (QK h1:_=l);cases (QK h2:_=l');exact n01.symm
 | 1,1,_,_=>exact absurd rfl hne
 | 1,2,_,_=>cases (QK h1:_=l);cases (QK h2:_=l');exact n12
 | 2,0,_,_=>cases (QK h1:_=l);cases (QK h2:_=l');exact n02.symm
 | 2,1,_,_=>cases (QK h1:_=l);cases (QK h2:_=l');exact n12.symm
 | 2,2,_,_=>exact absurd rfl hne
noncomputable def iS:List D->Rs D:=uU fun ds r=>ll fH eI (ae (ak 45)) ["_law_script"] (am (ak 45)) ds r/\∃T:T9,r=.tup [.int T.n,T9.RR T]/\T.ok
theorem tx:∀ds r,af (iS ds) r->ll fH eI (ae (ak 45)) ["_law_script"] (am (ak 45)) ds r:=fun ds r h=>(uT h).1
theorem xC{n:Int}(hn:0<n)(nb:n.natAbs<=2 ^ 150)(h:cu bt T):T9.ok ⟨n,T.a,T.b,T.c,T.d,T.e,T.f,T.g,T.h,T.i⟩:=by
 have u:∀{x:Int},bt x->x.natAbs<=2 ^ 150:=fun h=>QD h (RO (by decide) (by decide))
 refine⟨hn,fun x hx=>?_⟩
 simp only[T9.l,QA,QI,Q1]at hx
 rcases hx with rfl|rfl|rfl|rfl|rfl|rfl|rfl|rfl|rfl|rfl
 ·exact nb
 ·exact u h.1.1
 ·exact u h.1.2.1
 ·exact u h.1.2.2
 ·exact u h.2.1.1
 ·exact u h.2.1.2.1
 ·exact u h.2.1.2.2
 ·exact u h.2.2.1
 ·exact u h.2.2.2.1
 ·exact u h.2.2.2.2
theorem Kn(hw:kg L):∃T:T9,ll fH eI (ae (ak 45)) ["_law_script"] (am (ak 45)) [.lst L] (.tup [.int T.n,T9.RR T])/\T.ok:=by
  have hl:=hw.okL
  have m0:=QU ((aK L 0).fdiv 4) (show(0:Int)<5 by decide)
  have m1:=Q4 ((aK L 0).fdiv 4) (show(0:Int)<5 by decide)
  have hm:((1+((aK L 0).fdiv 4).fmod 5)).natAbs<=2 ^ 3:=by omega
  have hm0:0<(1+((aK L 0).fdiv 4).fmod 5):=by omega
  have mB:=bE hm (by decide)
  by_cases hk:(aK L 0).fmod 4=0
  . have na:=ic (aK L 2) ((aK L 0).fdiv 60)
    have np:0<1+sZ (d7 (aK L 2) ((aK L 0).fdiv 60))/\(1+sZ (d7 (aK L 2) ((aK L 0).fdiv 60))).natAbs<=2 ^ 150:=by
      rw[Ey]
      generalize d7 (aK L 2) ((aK L 0).fdiv 60)=t at *
      omega
    refine⟨⟨1+sZ (d7 (aK L 2) ((aK L 0).fdiv 60)),d7 (aK L (3+3*0+0)) ((aK L 0).fdiv 20),d7 (aK L (3+3*0+1)) ((aK L 0).fdiv 20),d7 (aK L (3+3*0+2)) ((aK L 0).fdiv 20),d7 (aK L (3+3*1+0)) ((aK L 0).fdiv 20),d7 (aK L (3+3*1+1)) ((aK L 0).fdiv 20),d7 (aK L (3+3*1+2)) ((aK L 0).fdiv 20),d7 (aK L (3+3*2+0)) ((aK L 0).fdiv 20),d7 (aK L (3+3*2+1)) ((aK L 0).fdiv 20),d7 (aK L (3+3*2+2)) ((aK L 0).fdiv 20)⟩,⟨rfl,Ro.rf (.base (bI 2 ∅ (cm ∅ (oN hk) ∅)))⟩,np.1,?_⟩
    intro x hx
    simp only[T9.l,QA,QI,Q1]at hx
    rcases hx with rfl|rfl|rfl|rfl|rfl|rfl|rfl|rfl|rfl|rfl
    . exact np.2
    all_goals exact QD (ic _ _) (by decide)
  . obtain⟨x,y,z,w,⟨hx,hy,hz,hw'⟩,h0,hN⟩:=Ge hw 2
    have hR:=Fy hx hy hz hw'
    have u14:∀{t:Int},cA t->t.natAbs<=2 ^ 67:=fun h=>QD h (by decide)
    have tb:=A4 (m:=2 ^ 67) (M:=2 ^ 67*2 ^ 67) (N:=2 ^ 137) (QF _) (by decide) (u14 hx) (u14 hy) (u14 hz) (u14 hw')
    have hn:=mO h0
    have bq:qc (x,y,z,w):=⟨bE (u14 hx) (by decide),bE (u14 hy) (by decide),bE (u14 hz) (by decide),bE (u14 hw') (by decide)⟩
    have hSq:af (gq [t4 x y z w]) (.int (n4 x y z w)):=⟨[qc (x,y,z,w)],by rw[<- (show E6 (x,y,z,w)=n4 x y z w by simp only[E6,n4];omega)];rfl,bq,True.intro⟩
    have nb0:=tb (n4 x y z w) (by simp[bz])
    have nB:=bE nb0 (by decide)
    have nb1:(n4 x y z w+1).natAbs<=2 ^ 138:=by omega
    have nB1:=bE nb1 (by decide)
    have G0:=bE (tb (dk x y z w) (by simp[bz])) (by decide)
    have G1:=bE (tb (cZ x y z w) (by simp[bz])) (by decide)
    have G2:=bE (tb (cY x y z w) (by simp[bz])) (by decide)
    have G3:=bE (tb (cX x y z w) (by simp[bz])) (by decide)
    have G4:=bE (tb (dj x y z w) (by simp[bz])) (by decide)
    have G5:=bE (tb (cW x y z w) (by simp[bz])) (by decide)
    have G6:=bE (tb (cV x y z w) (by simp[bz])) (by decide)
    have G7:=bE (tb (cU x y z w) (by simp[bz])) (by decide)
    have G8:=bE (tb (dh x y z w) (by simp[bz])) (by decide)
    have kb:∀{t:Int},t.natAbs<=2 ^ 137->((1+((aK L 0).fdiv 4).fmod 5)*t).natAbs<=2 ^ 140:=fun h=>QD (oh hm h) (by decide)
    obtain⟨T',h145,hC⟩:=Kv hw (T:=⟨(1+((aK L 0).fdiv 4).fmod 5)*n4 x y z w,(1+((aK L 0).fdiv 4).fmod 5)*dk x y z w,(1+((aK L 0).fdiv 4).fmod 5)*cZ x y z w,(1+((aK L 0).fdiv 4).fmod 5)*cY x y z w,(1+((aK L 0).fdiv 4).fmod 5)*cX x y z w,(1+((aK L 0).fdiv 4).fmod 5)*dj x y z w,(1+((aK L 0).fdiv 4).fmod 5)*cW x y z w,(1+((aK L 0).fdiv 4).fmod 5)*cV x y z w,(1+((aK L 0).fdiv 4).fmod 5)*cU x y z w,(1+((aK L 0).fdiv 4).fmod 5)*dh x y z w⟩) ⟨⟨kb (tb _ (by simp[bz])),kb (tb _ (by simp[bz])),kb (tb _ (by simp[bz]))⟩,⟨kb (tb _ (by simp[bz])),kb (tb _ (by simp[bz])),kb (tb _ (by simp[bz]))⟩,kb (tb _ (by simp[bz])),kb (tb _ (by simp[bz])),kb (tb _ (by simp[bz]))⟩ (Ke (N:=(1+((aK L 0).fdiv 4).fmod 5)*n4 x y z w*((1+((aK L 0).fdiv 4).fmod 5)*n4 x y z w)) (R4 (R4 hm0 hn) (R4 hm0 hn)) (On _ _ _ _ _) (Oj _ _ _ _ _) (Oh _ _ _ _ _) (Om _ _ _ _ _) (Ol _ _ _ _ _) (Oi _ _ _ _ _))
    have fin:∀{r:D},(∀ρ,Sub (bi [("_law_kind", .int (aK L 0),true),("_law_many", .int (1+((aK L 0).fdiv 4).fmod 5),true),("_law_n", .int (n4 x y z w),true),("_law_rows_here", T9.RR T',true)]) ρ->Ro fH eI (ae (ak 45)) ((am (ak 45)).drop 6) ρ (.rt r))->ll fH eI (ae (ak 45)) ["_law_script"] (am (ak 45)) [.lst L] r:=fun k=>by
      refine⟨rfl,Ro.cut 2 ∅ (Ro.iff (t:=false) (k:=0) ((∅).bl ((fk _ _).trans (QY hk))) (.rf (.base b7)) (Ro.cut 2 (by exact bh (aW (aE ∅ hN)) (bh (aW (aE ∅ hSq)) b7)) (Ro.setO rfl ∅ (by exact lU (α:=Int×Int×Int) (g:=fun q=>.lst [.int q.1,.int q.2.1,.int q.2.2]) (f:=fun q=>.lst [.int ((1+((aK L 0).fdiv 4).fmod 5)*q.1),.int ((1+((aK L 0).fdiv 4).fmod 5)*q.2.1),.int ((1+((aK L 0).fdiv 4).fmod 5)*q.2.2)]) (l:=[(dk x y z w,cZ x y z w,cY x y z w),(cX x y z w,dj x y z w,cW x y z w),(cV x y z w,cU x y z w,dh x y z w)]) (aE ∅ hR) rfl (Q3 rfl) (.inr (QZ 1)) (by
          intro q hq
          simp only[QA,QI,Q1]at hq
          rcases hq with h|h|h<;>cases h<;>exact⟨_,rfl,∅⟩)) hC rfl rfl (k _ (by first|exact ai rfl (ai rfl (ai rfl (ai rfl (ai rfl aT))))|exact ai rfl (ai rfl (ai rfl (ai rfl aT))))))))⟩
    by_cases h3:((aK L 0).fdiv 20).fmod 8=3
    . refine⟨⟨(1+((aK L 0).fdiv 4).fmod 5)*(n4 x y z w+1),T'.a,T'.b,T'.c,T'.d,T'.e,T'.f,T'.g,T'.h,T'.i⟩,fin fun ρ s=>?_,xC (R4 hm0 (by omega)) (QD (oh hm nb1) (by decide)) h145⟩
      exact Ro.rf (.base (bw s (cm ∅ (oN h3) ∅)))
    . refine⟨⟨(1+((aK L 0).fdiv 4).fmod 5)*n4 x y z w,T'.a,T'.b,T'.c,T'.d,T'.e,T'.f,T'.g,T'.h,T'.i⟩,fin fun ρ s=>?_,xC (R4 hm0 hn) (QD (oh hm nb0) (by decide)) h145⟩
      exact Ro.rf (.base (bw s (b8 ∅ ((fk _ _).trans (QY h3)) ∅)))
theorem Km(hw:kg L):∃T:T9,T.ok/\af (iS [.lst L]) (.tup [.int T.n,T9.RR T]):=by
 obtain⟨T,h1,h2⟩:=Kn hw
 obtain⟨r,h3,_,T2,e2,h4⟩:=yj (P:=fun ds r=>ll fH eI (ae (ak 45)) ["_law_script"] (am (ak 45)) ds r/\∃T:T9,r=.tup [.int T.n,T9.RR T]/\T.ok) ⟨h1,T,rfl,h2⟩
 subst e2
 exact⟨T2,h4,h3⟩
noncomputable def yO:Fx:=Tb [] [] BL IL ML TL bA
noncomputable def kH:List D->Rs D:=cE yO (ae (ak 46)) ["_law_n", "_law_rows_here"] (am (ak 46))
noncomputable def oF(x:Option Fv):D:=match x with
 | none=>.non
 | some q=>iN q
theorem T9.ok.all(h:T.ok):T.n.natAbs<dm/\T.a.natAbs<dm/\T.b.natAbs<dm/\T.c.natAbs<dm/\T.d.natAbs<dm/\T.e.natAbs<dm/\T.f.natAbs<dm/\T.g.natAbs<dm/\T.h.natAbs<dm/\T.i.natAbs<dm:=by
 have k:∀x∈T.l,x.natAbs<dm:=fun x hx=>bE (h.2 x hx) (by decide)
 exact⟨k _ (by simp[T9.l]),k _ (by simp[T9.l]),k _ (by simp[T9.l]),k _ (by simp[T9.l]),k _ (by simp[T9.l]),k _ (by simp[T9.l]),k _ (by simp[T9.l]),k _ (by simp[T9.l]),k _ (by simp[T9.l]),k _ (by simp[T9.l])⟩
theorem vV{p q r s:Int}(hp:p.natAbs<=2 ^ 150)(hq:q.natAbs<=2 ^ 150)(hr:r.natAbs<=2 ^ 150)(hs:s.natAbs<=2 ^ 150):(p*q-r*s).natAbs<dm:=by
 have h1:(p*q).natAbs<=2 ^ 300:=by rw[Rk];exact QD (Sk hp hq) (by rw[<- SE];exact QF _)
 have h2:(r*s).natAbs<=2 ^ 300:=by rw[Rk];exact QD (Sk hr hs) (by rw[<- SE];exact QF _)
 have h3:(p*q-r*s).natAbs<=2 ^ 300+2 ^ 300:=QD (RS _ _) (Nat.add_le_add h1 h2)
 exact bE (m:=301) (QD h3 (by rw[Nat.pow_succ];omega)) (by decide)
theorem T9.ok.crs(h:T.ok):(T.e*T.i-T.f*T.h).natAbs<dm/\(T.f*T.g-T.d*T.i).natAbs<dm/\(T.d*T.h-T.e*T.g).natAbs<dm:=by
 have k:=h.2
 exact⟨vV (k _ (by simp[T9.l])) (k _ (by simp[T9.l])) (k _ (by simp[T9.l])) (k _ (by simp[T9.l])),vV (k _ (by simp[T9.l])) (k _ (by simp[T9.l])) (k _ (by simp[T9.l])) (k _ (by simp[T9.l])),vV (k _ (by simp[T9.l])) (k _ (by simp[T9.l])) (k _ (by simp[T9.l])) (k _ (by simp[T9.l]))⟩
theorem gJ(h:a≠b):(!eqD (.int a) (.int b))=true:=by rw[fk,QY h];rfl
noncomputable abbrev T9.R(T:T9):Sp.D:=.lst [.lst [.int T.a,.int T.b,.int T.c],.lst [.int T.d,.int T.e,.int T.f],.lst [.int T.g,.int T.h,.int T.i]]
theorem zM(h:T.ok):af (kH [.int T.n,T.R]) (oF (iP T)):=by
 obtain⟨nb,B0,B1,B2,B3,B4,B5,B6,B7,B8⟩:=h.all
 obtain⟨x0,x1,x2⟩:=h.crs
 refine eN (uf [.tup [.int 0,.int 0],.tup [.int 0,.int 1],.tup [.int 0,.int 2],.tup [.int 1,.int 1],.tup [.int 1,.int 2],.tup [.int 2,.int 2]] ∅ ?_)
 refine uI (C:=bi [("_law_n", .int T.n,false),("_law_rows_here", .lst [.lst [.int T.a,.int T.b,.int T.c],.lst [.int T.d,.int T.e,.int T.f],.lst [.int T.g,.int T.h,.int T.i]],false)]) (P:=fun ρ=>yR _ _ _ _ _ _ _ ρ) (ai rfl (ai rfl aT)) fun ρ s=>?_
 unfold iP
 by_cases h0:b9 T.a T.b T.c T.a T.b T.c=T.n*T.n
 ·rw[if_pos h0]
  refine⟨_,rfl,.inl (cv ((s.put _ _).put _ _) (bI 1 ∅ (b8 (t:=false) (k:=0) ((∅).bl (gK (by show(b9 T.a T.b T.c T.a T.b T.c:Int)=T.n*T.n*(cond (eqD (.int 0) (.int 0)) 1 0);rw[h0];first|exact(Ry _).symm|exact(RD _).symm))) rfl b7)) fun ρ s'=>?_)⟩
  replace s:=(show Sub (bi [("_law_n", .int T.n,false),("_law_rows_here", .lst [.lst [.int T.a,.int T.b,.int T.c],.lst [.int T.d,.int T.e,.int T.f],.lst [.int T.g,.int T.h,.int T.i]],false)]) ρ from ai s'.get (ai s'.get aT))
  clear s'
  by_cases h1:b9 T.a T.b T.c T.d T.e T.f=0
  ·rw[if_pos h1]
   refine⟨_,rfl,.inl (cv ((s.put _ _).put _ _) (bI 1 ∅ (b8 (t:=false) (k:=0) ((∅).bl (gK (by show(b9 T.a T.b T.c T.d T.e T.f:Int)=T.n*T.n*(cond (eqD (.int 0) (.int 1)) 1 0);rw[h1];first|exact(Ry _).symm|exact(RD _).symm))) rfl b7)) fun ρ s'=>?_)⟩
   replace s:=(show Sub (bi [("_law_n", .int T.n,false),("_law_rows_here", .lst [.lst [.int T.a,.int T.b,.int T.c],.lst [.int T.d,.int T.e,.int T.f],.lst [.int T.g,.int T.h,.int T.i]],false)]) ρ from ai s'.get (ai s'.get aT))
   clear s'
   by_cases h2:b9 T.a T.b T.c T.g T.h T.i=0
   ·rw[if_pos h2]
    refine⟨_,rfl,.inl (cv ((s.put _ _).put _ _) (bI 1 ∅ (b8 (t:=false) (k:=0) ((∅).bl (gK (by show(b9 T.a T.b T.c T.g T.h T.i:Int)=T.n*T.n*(cond (eqD (.int 0) (.int 2)) 1 0);rw[h2];first|exact(Ry _).symm|exact(RD _).symm))) rfl b7)) fun ρ s'=>?_)⟩
    replace s:=(show Sub (bi [("_law_n", .int T.n,false),("_law_rows_here", .lst [.lst [.int T.a,.int T.b,.int T.c],.lst [.int T.d,.int T.e,.int T.f],.lst [.int T.g,.int T.h,.int T.i]],false)]) ρ from ai s'.get (ai s'.get aT))
    clear s'
    by_cases h3:b9 T.d T.e T.f T.d T.e T.f=T.n*T.n
    ·rw[if_pos h3]
     refine⟨_,rfl,.inl (cv ((s.put _ _).put _ _) (bI 1 ∅ (b8 (t:=false) (k:=0) ((∅).bl (gK (by show(b9 T.d T.e T.f T.d T.e T.f:Int)=T.n*T.n*(cond (eqD (.int 1) (.int 1)) 1 0);rw[h3];first|exact(Ry _).symm|exact(RD _).symm))) rfl b7)) fun ρ s'=>?_)⟩
     replace s:=(show Sub (bi [("_law_n", .int T.n,false),("_law_rows_here", .lst [.lst [.int T.a,.int T.b,.int T.c],.lst [.int T.d,.int T.e,.int T.f],.lst [.int T.g,.int T.h,.int T.i]],false)]) ρ from ai s'.get (ai s'.get aT))
     clear s'
     by_cases h4:b9 T.d T.e T.f T.g T.h T.i=0
     ·rw[if_pos h4]
      refine⟨_,rfl,.inl (cv ((s.put _ _).put _ _) (bI 1 ∅ (b8 (t:=false) (k:=0) ((∅).bl (gK (by show(b9 T.d T.e T.f T.g T.h T.i:Int)=T.n*T.n*(cond (eqD (.int 1) (.int 2)) 1 0);rw[h4];first|exact(Ry _).symm|exact(RD _).symm))) rfl b7)) fun ρ s'=>?_)⟩
      replace s:=(show Sub (bi [("_law_n", .int T.n,false),("_law_rows_here", .lst [.lst [.int T.a,.int T.b,.int T.c],.lst [.int T.d,.int T.e,.int T.f],.lst [.int T.g,.int T.h,.int T.i]],false)]) ρ from ai s'.get (ai s'.get aT))
      clear s'
      by_cases h5:b9 T.g T.h T.i T.g T.h T.i=T.n*T.n
      ·rw[if_pos h5]
       refine⟨_,rfl,.inl (cv ((s.put _ _).put _ _) (bI 1 ∅ (b8 (t:=false) (k:=0) ((∅).bl (gK (by show(b9 T.g T.h T.i T.g T.h T.i:Int)=T.n*T.n*(cond (eqD (.int 2) (.int 2)) 1 0);rw[h5];first|exact(Ry _).symm|exact(RD _).symm))) rfl b7)) fun ρ s'=>?_)⟩
       replace s:=(show Sub (bi [("_law_n", .int T.n,false),("_law_rows_here", .lst [.lst [.int T.a,.int T.b,.int T.c],.lst [.int T.d,.int T.e,.int T.f],.lst [.int T.g,.int T.h,.int T.i]],false)]) ρ from ai s'.get (ai s'.get aT))
       clear s'
       have ed:T.a*(T.e*T.i-T.f*T.h)+T.b*(T.f*T.g-T.d*T.i)+T.c*(T.d*T.h-T.e*T.g)=lX T:=by unfold lX b9;omega
       refine bw s ?_
       by_cases hd:lX T<0
       ·rw[if_pos hd]
        exact bI 4 ∅ (cm (t:=true) (k:=0) ((∅).bl (RZ (by rw[ed];exact hd))) rfl (bZ (bJ ∅)))
       ·rw[if_neg hd]
        exact bI 4 ∅ (b8 (t:=false) (k:=0) ((∅).bl (QY (by rw[ed];exact hd))) rfl (bZ (bJ ∅)))
      ·rw[if_neg h5]
       exact⟨_,rfl,.inr (bw ((s.put _ _).put _ _) (bI 1 ∅ (cm (t:=true) (k:=0) ((∅).bl (gJ (fun z=>h5 (z.trans (by show T.n*T.n*(cond (eqD (.int 2) (.int 2)) 1 0)=T.n*T.n;first|exact Ry _|exact RD _))))) rfl (bZ (bJ ∅)))))⟩
     ·rw[if_neg h4]
      exact⟨_,rfl,.inr (bw ((s.put _ _).put _ _) (bI 1 ∅ (cm (t:=true) (k:=0) ((∅).bl (gJ (fun z=>h4 (z.trans (by show T.n*T.n*(cond (eqD (.int 1) (.int 2)) 1 0)=0;first|exact Ry _|exact RD _))))) rfl (bZ (bJ ∅)))))⟩
    ·rw[if_neg h3]
     exact⟨_,rfl,.inr (bw ((s.put _ _).put _ _) (bI 1 ∅ (cm (t:=true) (k:=0) ((∅).bl (gJ (fun z=>h3 (z.trans (by show T.n*T.n*(cond (eqD (.int 1) (.int 1)) 1 0)=T.n*T.n;first|exact Ry _|exact RD _))))) rfl (bZ (bJ ∅)))))⟩
   ·rw[if_neg h2]
    exact⟨_,rfl,.inr (bw ((s.put _ _).put _ _) (bI 1 ∅ (cm (t:=true) (k:=0) ((∅).bl (gJ (fun z=>h2 (z.trans (by show T.n*T.n*(cond (eqD (.int 0) (.int 2)) 1 0)=0;first|exact Ry _|exact RD _))))) rfl (bZ (bJ ∅)))))⟩
  ·rw[if_neg h1]
   exact⟨_,rfl,.inr (bw ((s.put _ _).put _ _) (bI 1 ∅ (cm (t:=true) (k:=0) ((∅).bl (gJ (fun z=>h1 (z.trans (by show T.n*T.n*(cond (eqD (.int 0) (.int 1)) 1 0)=0;first|exact Ry _|exact RD _))))) rfl (bZ (bJ ∅)))))⟩
 ·rw[if_neg h0]
  exact⟨_,rfl,.inr (bw ((s.put _ _).put _ _) (bI 1 ∅ (cm (t:=true) (k:=0) ((∅).bl (gJ (fun z=>h0 (z.trans (by show T.n*T.n*(cond (eqD (.int 0) (.int 0)) 1 0)=T.n*T.n;first|exact Ry _|exact RD _))))) rfl (bZ (bJ ∅)))))⟩
noncomputable def md:Fx:=Tb [] [] BL IL ML TL bA
noncomputable def fB:List D->Rs D:=cE md (ae (ak 18)) ["one", "other"] (am (ak 18))
noncomputable def qy:Fx:=Tb [("added_products", fB)] [] BL IL ML TL bA
noncomputable def gO:List D->Rs D:=cE qy (ae (ak 25)) ["rows"] (am (ak 25))
noncomputable def qx:Fx:=Tb [("added_products", fB),("determinant", gO)] [("PAIRS", .tup [.tup [.int 0,.int 0],.tup [.int 0,.int 1],.tup [.int 0,.int 2],.tup [.int 1,.int 1],.tup [.int 1,.int 2],.tup [.int 2,.int 2]])] BL IL ML TL bA
noncomputable def cC:List D->Rs D:=cE qx (ae (ak 24)) ["table"] (am (ak 24))
theorem oC(h:T.ok):af (cC [T.D]) (oF (iP T)):=by
 obtain⟨nb,B0,B1,B2,B3,B4,B5,B6,B7,B8⟩:=h.all
 obtain⟨x0,x1,x2⟩:=h.crs
 show af (cC [.tup [.int T.n,.tup [d3 T.a T.b T.c,d3 T.d T.e T.f,d3 T.g T.h T.i]]]) _
 refine eN (bI 1 ∅ (uf [.tup [.int 0,.int 0],.tup [.int 0,.int 1],.tup [.int 0,.int 2],.tup [.int 1,.int 1],.tup [.int 1,.int 2],.tup [.int 2,.int 2]] ∅ ?_))
 refine uI (C:=bi [("n", .int T.n,false),("rows", .tup [d3 T.a T.b T.c,d3 T.d T.e T.f,d3 T.g T.h T.i],false)]) (P:=fun ρ=>yR _ _ _ _ _ _ _ ρ) (ai rfl (ai rfl aT)) fun ρ s=>?_
 unfold iP
 by_cases h0:b9 T.a T.b T.c T.a T.b T.c=T.n*T.n
 ·rw[if_pos h0]
  refine⟨_,rfl,.inl (cv ((s.put _ _).put _ _) (b8 (t:=false) (k:=0) ((∅).bl (gK h0)) rfl b7) fun ρ s'=>?_)⟩
  replace s:=(show Sub (bi [("n", .int T.n,false),("rows", .tup [d3 T.a T.b T.c,d3 T.d T.e T.f,d3 T.g T.h T.i],false)]) ρ from ai s'.get (ai s'.get aT))
  clear s'
  by_cases h1:b9 T.a T.b T.c T.d T.e T.f=0
  ·rw[if_pos h1]
   refine⟨_,rfl,.inl (cv ((s.put _ _).put _ _) (b8 (t:=false) (k:=0) ((∅).bl (gK h1)) rfl b7) fun ρ s'=>?_)⟩
   replace s:=(show Sub (bi [("n", .int T.n,false),("rows", .tup [d3 T.a T.b T.c,d3 T.d T.e T.f,d3 T.g T.h T.i],false)]) ρ from ai s'.get (ai s'.get aT))
   clear s'
   by_cases h2:b9 T.a T.b T.c T.g T.h T.i=0
   ·rw[if_pos h2]
    refine⟨_,rfl,.inl (cv ((s.put _ _).put _ _) (b8 (t:=false) (k:=0) ((∅).bl (gK h2)) rfl b7) fun ρ s'=>?_)⟩
    replace s:=(show Sub (bi [("n", .int T.n,false),("rows", .tup [d3 T.a T.b T.c,d3 T.d T.e T.f,d3 T.g T.h T.i],false)]) ρ from ai s'.get (ai s'.get aT))
    clear s'
    by_cases h3:b9 T.d T.e T.f T.d T.e T.f=T.n*T.n
    ·rw[if_pos h3]
     refine⟨_,rfl,.inl (cv ((s.put _ _).put _ _) (b8 (t:=false) (k:=0) ((∅).bl (gK h3)) rfl b7) fun ρ s'=>?_)⟩
     replace s:=(show Sub (bi [("n", .int T.n,false),("rows", .tup [d3 T.a T.b T.c,d3 T.d T.e T.f,d3 T.g T.h T.i],false)]) ρ from ai s'.get (ai s'.get aT))
     clear s'
     by_cases h4:b9 T.d T.e T.f T.g T.h T.i=0
     ·rw[if_pos h4]
      refine⟨_,rfl,.inl (cv ((s.put _ _).put _ _) (b8 (t:=false) (k:=0) ((∅).bl (gK h4)) rfl b7) fun ρ s'=>?_)⟩
      replace s:=(show Sub (bi [("n", .int T.n,false),("rows", .tup [d3 T.a T.b T.c,d3 T.d T.e T.f,d3 T.g T.h T.i],false)]) ρ from ai s'.get (ai s'.get aT))
      clear s'
      by_cases h5:b9 T.g T.h T.i T.g T.h T.i=T.n*T.n
      ·rw[if_pos h5]
       refine⟨_,rfl,.inl (cv ((s.put _ _).put _ _) (b8 (t:=false) (k:=0) ((∅).bl (gK h5)) rfl b7) fun ρ s'=>?_)⟩
       replace s:=(show Sub (bi [("n", .int T.n,false),("rows", .tup [d3 T.a T.b T.c,d3 T.d T.e T.f,d3 T.g T.h T.i],false)]) ρ from ai s'.get (ai s'.get aT))
       clear s'
       have hA:af (gO [.tup [d3 T.a T.b T.c,d3 T.d T.e T.f,d3 T.g T.h T.i]]) (.int (lX T)):=∅
       refine bw s ?_
       by_cases hd:lX T<0
       ·rw[if_pos hd]
        exact bZ (bJ (vU (cM (aE ∅ hA) ∅ ∅) (fun _=>∅) (fun z=>absurd hd (of_decide_eq_false z))))
       ·rw[if_neg hd]
        exact bZ (bJ (vU (cM (aE ∅ hA) ∅ ∅) (fun z=>absurd (RG z) hd) (fun _=>∅)))
      ·rw[if_neg h5]
       exact⟨_,rfl,.inr (bw ((s.put _ _).put _ _) (cm (t:=true) (k:=0) ((∅).bl (gJ h5)) rfl (bZ (bJ ∅))))⟩
     ·rw[if_neg h4]
      exact⟨_,rfl,.inr (bw ((s.put _ _).put _ _) (cm (t:=true) (k:=0) ((∅).bl (gJ h4)) rfl (bZ (bJ ∅))))⟩
    ·rw[if_neg h3]
     exact⟨_,rfl,.inr (bw ((s.put _ _).put _ _) (cm (t:=true) (k:=0) ((∅).bl (gJ h3)) rfl (bZ (bJ ∅))))⟩
   ·rw[if_neg h2]
    exact⟨_,rfl,.inr (bw ((s.put _ _).put _ _) (cm (t:=true) (k:=0) ((∅).bl (gJ h2)) rfl (bZ (bJ ∅))))⟩
  ·rw[if_neg h1]
   exact⟨_,rfl,.inr (bw ((s.put _ _).put _ _) (cm (t:=true) (k:=0) ((∅).bl (gJ h1)) rfl (bZ (bJ ∅))))⟩
 ·rw[if_neg h0]
  exact⟨_,rfl,.inr (bw ((s.put _ _).put _ _) (cm (t:=true) (k:=0) ((∅).bl (gJ h0)) rfl (bZ (bJ ∅))))⟩
noncomputable def tY:Fx:=Tb [] [] BL IL ML TL bA
noncomputable def iZ:List D->Rs D:=cE tY (ae (ak 15)) ["one", "other"] (am (ak 15))
theorem LI(a b:Nat)(ha:a<2 ^ 1000)(hb:b<2 ^ 1000):af (iZ [.int a,.int b]) (.int (Nat.gcd a b:Nat)):=by
 refine eN (wX (m:=2002) (fun m ρ => ∃(x y:Nat) (f g:Bool),BV x y m/\Nat.gcd x y=Nat.gcd a b/\Sub (bi [("one", .int x,f),("other", .int y,g)]) ρ) ⟨a,b,false,false,Of ha hb,rfl,ai rfl (ai rfl aT)⟩ (by decide) ?_ ?_)
 ·rintro m ρ ⟨x,y,f,g,hm,hg,s⟩
  refine⟨!decide ((y:Int)=0),0,cy s (∅.bl (by show(!eqD (.int y) (.int 0))=_;rw[fk])),fun ht=>?_⟩
  have h0:y≠0:=by
   intro z;subst z;exact absurd ht (by decide)
  have hn:(y:Int)≠0:=by omega
  obtain⟨m',hm',hE⟩:=DW hm h0
  have e:=Ha x y
  exact BY hm' (cv s ∅ fun ρ' s'=>⟨y,x % y,true,true,hE,by rw[<- hg,Nat.gcd_comm x y,Nat.gcd_rec y x,Nat.gcd_comm],ai s'.get (ai (by rw[<- e];exact s'.get) aT)⟩)
 ·rintro m ρ ⟨x,y,f,g,hm,hg,s⟩ ⟨k,hk⟩
  have e:=hk.inj (cy s ∅)
  have h0:y=0:=by
   have e1:(!eqD (.int y) (.int 0))=false:=by injection e with e1 e2;injection e1 with e1;exact e1.symm
   rw[fk]at e1
   have:(y:Int)=0:=by simpa using e1
   omega
  subst h0
  rw[<- hg,Nat.gcd_zero_right]
  exact bw s ∅
noncomputable def ma:Fx:=Tb [("shared_by", iZ)] [] BL IL ML TL bA
noncomputable def mh:List D->Rs D:=cE ma (ae (ak 14)) ["numbers"] (am (ak 14))
noncomputable def cI:List D->Rs D
 | [.tup l]=>.ok (.int (jy l)) [okT l]
 | _=>.st
theorem jO:∀ds r,af (cI ds) r->af (mh ds) r:=by
 intro ds r h
 unfold cI at h
 split at h
 ·obtain⟨rfl,⟨ns,rfl,hl,hb⟩,_⟩:=gb h
  rw[jx]
  refine eN (bI 1 ∅ (Cv (ds:=ns.map D.int) (fun rem ρ => ∃(r:List Int) (g:Nat),rem=r.map D.int/\(∀n∈r,n.natAbs<2 ^ 1000)/\bX g r=bX 0 ns/\g<2 ^ 1000/\Sub (bi [("reached", .int g,true)]) ρ) ∅ ⟨ns,0,rfl,hb,rfl,Nat.pow_pos (by decide),ai rfl aT⟩ ?_ ?_ rfl (Qt (.tup (ns.map D.int)))))
  ·rintro d l ρ ⟨r,g,hr,hb',hg,hlt,s⟩
   cases r with
   | nil=>cases hr
   | cons n r =>
    cases hr
    have hn:=hb' n QE
    have ea:(if n<0 then -n else n)=((n.natAbs:Nat):Int):=by omega
    have k:=LI g n.natAbs hlt hn
    refine⟨_,rfl,cv (s.put _ _) (bh (aW (aE (v:=.int (Nat.gcd g n.natAbs:Nat)) (∅.eq (by rw[ea])) k)) b7) fun ρ' s'=>⟨r,Nat.gcd g n.natAbs,rfl,fun m hm=>hb' m (QB _ hm),hg,?_,ai s'.get aT⟩⟩
    rcases R0 g with z|z
    ·subst z;rw[Nat.gcd_zero_left];exact hn
    ·exact Rj (Nat.le_of_dvd z (Nat.gcd_dvd_left _ _)) hlt
  ·rintro ρ ⟨r,g,hr,hb',hg,hlt,s⟩
   cases r with
   | nil =>
    rw[<- hg]
    exact bw s ∅
   | cons n r=>cases hr
 ·exact(au h).elim
noncomputable def tX:Fx:=Tb [] [] BL IL ML TL bA
noncomputable def gu:List D->Rs D:=cE tX (ae (ak 16)) ["numbers", "divisor"] (am (ak 16))
noncomputable def qe:Fx:=Tb [("common_divisor", cI),("shortened", gu)] [] BL IL ML TL bA
noncomputable def yJ:Str->Option (List D->Option Xs):=fun g=>([]:List (Str×(List D->Option Xs))).lookup g
noncomputable def gF:List D->Rs D:=cE qe (ae (ak 17)) ["numbers"] (am (ak 17))
theorem CA(x y z w K:Int)(hK:jD K):af (gu [t4 x y z w,.int K]) (t4 (x.fdiv K) (y.fdiv K) (z.fdiv K) (w.fdiv K)):=fL rfl (by walk_at "ob")
theorem A1(hk:k≠0)(p:Pm a b c d)(hT:okT (([k*a,k*b,k*c,k*d]:List Int).map D.int))(kb:k.natAbs<dm):af (gF [t4 (k*a) (k*b) (k*c) (k*d)]) (t4 a b c d):=by
 have hn:¬ (k*a=0/\k*b=0/\k*c=0/\k*d=0):=fun z=>p.ne ⟨(Sy.mp z.1).resolve_left hk,(Sy.mp z.2.1).resolve_left hk,(Sy.mp z.2.2.1).resolve_left hk,(Sy.mp z.2.2.2).resolve_left hk⟩
 have hg:jy (([k*a,k*b,k*c,k*d]:List Int).map D.int)=k.natAbs:=by rw[uJ];exact JX hk p
 have hl:=Gx hn
 rw[rY _ _ _ _ hk]at hl
 have pos:=p.pos
 have fd:∀x:Int,(k*x).fdiv k=x:=fun x=>Int.mul_fdiv_cancel_left x hk
 have fin:=CA (k*a) (k*b) (k*c) (k*d) k ⟨hk,kb⟩
 rw[fd,fd,fd,fd]at fin
 have hD:af (cI [t4 (k*a) (k*b) (k*c) (k*d)]) (.int (k.natAbs:Nat)):=⟨[okT (([k*a,k*b,k*c,k*d]:List Int).map D.int)],by rw[<- hg];rfl,hT,True.intro⟩
 have k0:¬ ((k.natAbs:Nat):Int)=0:=by omega
 refine eN (bh (aW (d:=.int (k.natAbs:Nat)) (aE ∅ hD)) (b8 ∅ ((fk _ _).trans (QY k0)) (bh (aW (d:=.int (k*gL a b c d)) (fP (k:=0) (oJ (out:=((([k*a,k*b,k*c,k*d]:List Int).filter fun t => !decide (t=0)).map D.int)) (j:=0) ∅ (ds:=([k*a,k*b,k*c,k*d]:List Int).map D.int) rfl ⟨Q3 rfl,.inl rfl⟩ (iu (g:=D.int) (f:=D.int) (c:=fun t => !decide (t=0)) (fun x _=>?_)) (QZ 1)) ∅ rfl hl)) ?_)))
 ·refine af.bnd (a:=!decide (x=0)) (oH (b:=!decide (x=0)) (c:=!decide (x=0)) (∅.bl (by show(!eqD (.int x) (.int 0))=_;rw[fk])) (fun h=>by rw[h];exact fO) id) ?_
  cases decide (x=0)
  ·exact af.bnd ∅ du
  ·exact du
 ·refine bZ (bJ (aE (jA ∅ (jA (vU (r:=(.int k,0)) ∅ (fun ht=>?_) (fun hf=>?_)) oG)) fin))
  ·have hlt:0<k*gL a b c d:=RG ht
   have kp:0<k:=by
    rcases Sz hk with q|q
    ·have:=Int.mul_neg_of_neg_of_pos q pos;omega
    ·exact q
   exact af.eq ∅ (by rw[show((k.natAbs:Nat):Int)=k by omega];rfl)
  ·have hge:¬ 0<k*gL a b c d:=of_decide_eq_false hf
   have kp:k<0:=by
    rcases Sz hk with q|q
    ·exact q
    ·have:=R4 q pos;omega
   exact af.eq ∅ (by show(D.int (-((k.natAbs:Nat):Int)),0)=_;rw[show -((k.natAbs:Nat):Int)=k by omega])
noncomputable def vP:D->Bool
 | .tup [.int a,.int b,.int c]=>decide (a=0/\b=0/\c=0)
 | _=>false
theorem zQ{d:D}(h:vP d=true):d=d3 0 0 0:=by
 unfold vP at h
 split at h
 ·obtain⟨rfl,rfl,rfl⟩:=RG h;rfl
 ·cases h
noncomputable def cO:List D->Option Xs:=fun ds=>match ds with
 | [q]=>if (km q || vP q)=true then some Qh else none
 | _=>none
theorem tf:∀ds r,cO ds=some r->ds.length=1/\Rz qe yJ EX (ae (ak 17)) (am (ak 17)) (dg ["numbers"] ds) r:=by
 intro ds r h
 unfold cO at h
 split at h
 ·rename_i q
  split at h
  ·rename_i hq
   cases h
   have hq:km q=true\/vP q=true:=by
    cases h1:km q with
    | true=>exact .inl rfl
    | false=>rw[h1]at hq;exact .inr hq
   rcases hq with hq|hq
   ·cases xS hq
    have hT:okT (([0,0,0,0]:List Int).map D.int):=vq (m:=1) (by decide) (by
     intro t ht
     simp only[QA,QI,Q1]at ht
     rcases ht with rfl|rfl|rfl|rfl<;>decide)
    have e0:jy (([0,0,0,0]:List Int).map D.int)=0:=by rw[jx];rfl
    exact⟨rfl,Rz.step (aW (d:=.int 0) (af.eq ∅ (by show(D.int (jy (([0,0,0,0]:List Int).map D.int)),0)=_;rw[e0]))) (Rz.iff (t:=true) (k:=0) ∅ (Rz.raise ∅ rfl (by decide +kernel) rfl))⟩
   ·cases zQ hq
    have hT:okT (([0,0,0]:List Int).map D.int):=mM (k:=1) (by decide) (Q3 rfl) (by
     intro t ht
     simp only[QA,QI,Q1]at ht
     rcases ht with rfl|rfl|rfl<;>decide)
    have e0:jy (([0,0,0]:List Int).map D.int)=0:=by rw[jx];rfl
    exact⟨rfl,Rz.step (aW (d:=.int 0) (af.eq ∅ (by show(D.int (jy (([0,0,0]:List Int).map D.int)),0)=_;rw[e0]))) (Rz.iff (t:=true) (k:=0) ∅ (Rz.raise ∅ rfl (by decide +kernel) rfl))⟩
  ·cases h
 ·cases h
noncomputable def tZ:Fx:=Tb [] [] BL IL ML TL bA
noncomputable def gv:List D->Rs D:=cE tZ (ae (ak 27)) ["table"] (am (ak 27))
noncomputable def fE(T:T9):List Qd:=[(T.n+T.a+T.e+T.i,T.h-T.f,T.c-T.g,T.d-T.b),(T.h-T.f,T.n+T.a-T.e-T.i,T.b+T.d,T.c+T.g),(T.c-T.g,T.b+T.d,T.n-T.a+T.e-T.i,T.f+T.h),(T.d-T.b,T.c+T.g,T.f+T.h,T.n-T.a-T.e+T.i)]
theorem Gk(T:T9):af (gv [T.D]) (.lst ((fE T).map dq)):=by
 show af (gv [.tup [.int T.n,.tup [d3 T.a T.b T.c,d3 T.d T.e T.f,d3 T.g T.h T.i]]]) _
 exact ∅
theorem CT(hn:0<T.n)(e:iP T=none):∀q∈fE T,Bl q->(tq q).low=T.low:=by
 obtain⟨o,hd⟩:=DQ hn e
 have r:=o.all hd
 intro q hq nz
 obtain⟨a,b,c,d⟩:=q
 unfold fE at hq
 simp only[QA,QI,Q1]at hq
 rcases hq with h|h|h|h
 ·cases h;exact kU hn nz r.row0
 ·cases h;exact kU hn nz r.row1
 ·cases h;exact kU hn nz r.row2
 ·cases h;exact kU hn nz r.row3
theorem Nx(h1:w.natAbs<=B)(h2:x.natAbs<=B)(h3:y.natAbs<=B)(h4:z.natAbs<=B):(w+x+y+z).natAbs<=4*B/\(w+x-y-z).natAbs<=4*B/\(w-x+y-z).natAbs<=4*B/\(w-x-y+z).natAbs<=4*B:=⟨by omega,by omega,by omega,by omega⟩
theorem rN(h1:x.natAbs<=B)(h2:y.natAbs<=B):(x-y).natAbs<=4*B/\(x+y).natAbs<=4*B:=⟨by omega,by omega⟩
theorem Jz(h:T.ok):∀q∈fE T,Gs (2 ^ 152) q:=by
 have k:∀x∈T.l,x.natAbs<=2 ^ 150:=h.2
 have e:(2:Nat) ^ 152=4*2 ^ 150:=by decide
 have d4:=Nx (k T.n (by simp[T9.l])) (k T.a (by simp[T9.l])) (k T.e (by simp[T9.l])) (k T.i (by simp[T9.l]))
 have d1:=rN (k T.h (by simp[T9.l])) (k T.f (by simp[T9.l]))
 have d2:=rN (k T.c (by simp[T9.l])) (k T.g (by simp[T9.l]))
 have d3:=rN (k T.d (by simp[T9.l])) (k T.b (by simp[T9.l]))
 have d5:=rN (k T.b (by simp[T9.l])) (k T.d (by simp[T9.l]))
 have d6:=rN (k T.f (by simp[T9.l])) (k T.h (by simp[T9.l]))
 rw[<- e]at d4 d1 d2 d3 d5 d6
 intro q hq
 unfold fE at hq
 simp only[QA,QI,Q1]at hq
 rcases hq with rfl|rfl|rfl|rfl
 ·exact⟨d4.1,d1.1,d2.1,d3.1⟩
 ·exact⟨d1.1,d4.2.1,d5.2,d2.2⟩
 ·exact⟨d2.1,d5.2,d4.2.2.1,d6.2⟩
 ·exact⟨d3.1,d2.2,d6.2,d4.2.2.2⟩
theorem FB(hn:0<T.n):∃q l,(fE T).filter (fun q => !decide (q.1=0/\q.2.1=0/\q.2.2.1=0/\q.2.2.2=0))=q::l/\q∈fE T/\Bl q:=by
 cases e:(fE T).filter (fun q => !decide (q.1=0/\q.2.1=0/\q.2.2.1=0/\q.2.2.2=0))with
 | nil =>
  exfalso
  have z:=List.filter_eq_nil_iff.mp e
  have k:∀q∈fE T,q.1=0/\q.2.1=0/\q.2.2.1=0/\q.2.2.2=0:=fun q hq=>by
   have:=z q hq
   simpa using this
  have k0:=(k _ (show(T.n+T.a+T.e+T.i,T.h-T.f,T.c-T.g,T.d-T.b)∈fE T by simp[fE])).1
  have k1:=(k _ (show(T.h-T.f,T.n+T.a-T.e-T.i,T.b+T.d,T.c+T.g)∈fE T by simp[fE])).2.1
  have k2:=(k _ (show(T.c-T.g,T.b+T.d,T.n-T.a+T.e-T.i,T.f+T.h)∈fE T by simp[fE])).2.2.1
  have k3:=(k _ (show(T.d-T.b,T.c+T.g,T.f+T.h,T.n-T.a-T.e+T.i)∈fE T by simp[fE])).2.2.2
  dsimp only at k0 k1 k2 k3
  omega
 | cons q l =>
  have hm:q∈(fE T).filter (fun q => !decide (q.1=0/\q.2.1=0/\q.2.2.1=0/\q.2.2.2=0)):=by rw[e];exact QE
  obtain⟨h1,h2⟩:=SK.mp hm
  refine⟨q,l,rfl,h1,fun z=>?_⟩
  have:decide (q.1=0/\q.2.1=0/\q.2.2.1=0/\q.2.2.2=0)=true:=RZ z
  rw[this]at h2
  cases h2
noncomputable def iX:Fx:=Tb [("table_fault", cC),("upright", gF),("multiples", gv)] [] BL IL ML TL bA
noncomputable def lF:Str->Option (List D->Option Xs):=fun g=>([("upright", cO)]:List (Str×(List D->Option Xs))).lookup g
noncomputable def fh:List D->Rs D:=cE iX (ae (ak 26)) ["table"] (am (ak 26))
theorem wY(a:Int):0<=a*a:=by
 rcases Int.le_total 0 a with z|z
 ·exact Int.mul_nonneg z z
 ·exact Int.mul_nonneg_of_nonpos_of_nonpos z z
theorem qB{n:Int}(h:a*a<=n)(hn:n.natAbs<=2 ^ 152):a.natAbs<=2 ^ 140:=by
 rcases RW (2 ^ 76) a.natAbs with z|z
 ·exfalso
  have h1:(a*a).natAbs<=n.natAbs:=by have:=wY a;omega
  rw[Rk]at h1
  have h2:2 ^ 76*2 ^ 76<a.natAbs*a.natAbs:=Nat.mul_lt_mul'' z z
  have e:(2:Nat) ^ 76*2 ^ 76=2 ^ 152:=by decide
  omega
 ·exact QD z (by decide)
theorem Dk(h:T.ok)(e:iP T=none):∃a b c d:Int,Pm a b c d/\(a.natAbs<=2 ^ 140/\b.natAbs<=2 ^ 140/\c.natAbs<=2 ^ 140/\d.natAbs<=2 ^ 140)/\(tq (a,b,c,d)).low=T.low/\af (fh [T.D]) (t4 a b c d):=by
 obtain⟨q,l,ef,hq,nz⟩:=FB h.1
 have hlow:=CT h.1 e q hq nz
 have hb:=Jz h q hq
 obtain⟨x,y,z,w⟩:=q
 obtain⟨k,a,b,c,d,hk,rfl,rfl,rfl,rfl,p,_⟩:=C2 nz
 have tl:(tq (a,b,c,d)).low=T.low:=by
  rw[<- hlow]
  have e1:tq (k*a,k*b,k*c,k*d)=(tq (a,b,c,d)).map (k*k * ·):=by
   show T9.mk (n4 _ _ _ _) (dk _ _ _ _) (cZ _ _ _ _) (cY _ _ _ _) (cX _ _ _ _) (dj _ _ _ _) (cW _ _ _ _) (cV _ _ _ _) (cU _ _ _ _) (dh _ _ _ _)=T9.mk (k*k*n4 a b c d) (k*k*dk a b c d) (k*k*cZ a b c d) (k*k*cY a b c d) (k*k*cX a b c d) (k*k*dj a b c d) (k*k*cW a b c d) (k*k*cV a b c d) (k*k*cU a b c d) (k*k*dh a b c d)
   congr 1<;>simp only[n4,dk,cZ,cY,cX,dj,cW,cV,cU,dh]<;>grind
  have kk:0<k*k:=by
   rcases Sz hk with z|z
   ·exact Int.mul_pos_of_neg_of_neg z z
   ·exact R4 z z
  rw[e1,T9.low_mul kk (qV (q:=(a,b,c,d)) p.ne)]
 have hT:=Gz (q:=(a,b,c,d)) (m:=152) (by decide) hb
 have kb:k.natAbs<dm:=bE (NK (q:=(a,b,c,d)) p.ne hb) (by decide)
 obtain⟨g,hg,_,hgn,_,_,_⟩:=EH (a,b,c,d) p
 have hn4:(n4 a b c d).natAbs<=2 ^ 152:=by
  have lb:T.low.n.natAbs<=2 ^ 150:=T9.bd_low h.1 h.2 _ (by simp[T9.l])
  have en:n4 a b c d=g*T.low.n:=by rw[<- tl];exact hgn
  have e2:(2:Nat) ^ 152=4*2 ^ 150:=by decide
  rw[en,Rk,e2]
  refine Sk ?_ lb
  rcases hg with rfl|rfl|rfl<;>decide
 have s1:=wY a
 have s2:=wY b
 have s3:=wY c
 have s4:=wY d
 have en:n4 a b c d=a*a+b*b+c*c+d*d:=by unfold n4;omega
 refine⟨a,b,c,d,p,⟨qB (by omega) hn4,qB (by omega) hn4,qB (by omega) hn4,qB (by omega) hn4⟩,tl,?_⟩
 have hF:=oC h
 rw[e]at hF
 have hU:=A1 hk p hT kb
 refine eN (bh (aW (aE ∅ hF)) (b8 (t:=false) (k:=0) ∅ rfl ?_))
 refine bZ (bJ (aE (jA (fP (d:=t4 (k*a) (k*b) (k*c) (k*d)) (oJ (out:=((fE T).filter (fun q => !decide (q.1=0/\q.2.1=0/\q.2.2.1=0/\q.2.2.2=0))).map dq) (j:=0) (aE ∅ (Gk T)) (ds:=(fE T).map dq) rfl ⟨Q3 rfl,.inl rfl⟩ (iu (g:=dq) (f:=dq) (c:=fun q => !decide (q.1=0/\q.2.1=0/\q.2.2.1=0/\q.2.2.2=0)) (fun x _=>?_)) (QZ 1)) ∅ rfl (by rw[ef];exact dD (j:=0) rfl)) oG) hU))
 have ea:(([x.1,x.2.1,x.2.2.1,x.2.2.2]:List Int).any fun n=>n != 0) = !decide (x.1=0/\x.2.1=0/\x.2.2.1=0/\x.2.2.2=0):=ID _ _ _ _
 refine af.bnd (a:=!decide (x.1=0/\x.2.1=0/\x.2.2.1=0/\x.2.2.2=0)) (oH (b:=!decide (x.1=0/\x.2.1=0/\x.2.2.1=0/\x.2.2.2=0)) (c:=!decide (x.1=0/\x.2.1=0/\x.2.2.1=0/\x.2.2.2=0)) ((∅).bl (by exact ea)) (fun h=>by rw[h];exact fO) id) ?_
 cases decide (x.1=0/\x.2.1=0/\x.2.2.1=0/\x.2.2.2=0)
 ·exact af.bnd ∅ du
 ·exact du
noncomputable abbrev ua(q:Fv):Xs:=(Str.ofString "NoTurn", Str.ofString "SpaceError", [(Str.ofString "why", q)])
noncomputable def sx:D->Option Fv
 | .tup (.str s::l)=>(cF l).map fun is=>(s,is)
 | _=>none
theorem GY(q:Fv):sx (iN q)=some q:=by
 have:∀l:List Int,cF (l.map D.int)=some l:=by
  intro l
  induction l with
  | nil=>rfl
  | cons a l ih=>rw[Q8,cF,ih];rfl
 show(cF (q.2.map D.int)).map _=_
 rw[this];rfl
noncomputable def Hc:List D->Option Xs:=fun ds=>match ds with
 | [d]=>(match cC [d]with | .ok r _=>(sx r).map ua|_=>none)
 | _=>none
theorem Kh(h:iP T=some q):tK q:=by
 have:=oB h
 simp only[QA,QI,Q1]at this
 rcases this with rfl|rfl|rfl|rfl|rfl|rfl|rfl<;>exact⟨by decide +kernel,by decide +kernel,by decide +kernel⟩
noncomputable def cK:List D->Option Xs:=sP Hc fun ds r=>ds.length=1/\Rz iX lF EX (ae (ak 26)) (am (ak 26)) (dg ["table"] ds) r
theorem oS:∀ds r,cK ds=some r->ds.length=1/\Rz iX lF EX (ae (ak 26)) (am (ak 26)) (dg ["table"] ds) r:=fun ds r h=>Ee h
theorem P8(h:T.ok)(e:iP T=some q):cK [T.D]=some (ua q):=by
 have hF:=oC h
 rw[e]at hF
 have hF:af (cC [T.D]) (iN q):=hF
 refine HN ?_ ⟨rfl,?_⟩
 ·obtain⟨l,e1,_⟩:=hF
  show(match cC [T.D]with | .ok r _=>(sx r).map ua|_=>none)=_
  rw[e1]
  show(sx (iN q)).map ua=_
  rw[GY];rfl
 ·have fo:=Kh e
  have hm:=oB e
  clear e
  generalize T.D=d at *
  simp only[QA,QI,Q1]at hm
  rcases hm with rfl|rfl|rfl|rfl|rfl|rfl|rfl
  ·exact Rz.step (aW (aE ∅ hF)) (Rz.iff (t:=true) (k:=0) ∅ (Rz.raiseF (k:=0) ∅ fo rfl (by decide +kernel) rfl))
  ·exact Rz.step (aW (aE ∅ hF)) (Rz.iff (t:=true) (k:=0) ∅ (Rz.raiseF (k:=0) ∅ fo rfl (by decide +kernel) rfl))
  ·exact Rz.step (aW (aE ∅ hF)) (Rz.iff (t:=true) (k:=0) ∅ (Rz.raiseF (k:=0) ∅ fo rfl (by decide +kernel) rfl))
  ·exact Rz.step (aW (aE ∅ hF)) (Rz.iff (t:=true) (k:=0) ∅ (Rz.raiseF (k:=0) ∅ fo rfl (by decide +kernel) rfl))
  ·exact Rz.step (aW (aE ∅ hF)) (Rz.iff (t:=true) (k:=0) ∅ (Rz.raiseF (k:=0) ∅ fo rfl (by decide +kernel) rfl))
  ·exact Rz.step (aW (aE ∅ hF)) (Rz.iff (t:=true) (k:=0) ∅ (Rz.raiseF (k:=0) ∅ fo rfl (by decide +kernel) rfl))
  ·exact Rz.step (aW (aE ∅ hF)) (Rz.iff (t:=true) (k:=0) ∅ (Rz.raiseF (k:=0) ∅ fo rfl (by decide +kernel) rfl))
noncomputable def tm:Fx:=Tb [("common_divisor", cI),("shortened", gu)] [] BL IL ML TL bA
noncomputable def iD:List D->Rs D:=cE tm (ae (ak 21)) ["table"] (am (ak 21))
theorem zJ(n a b c d e f g h i G:Int)(hG:jD G):af (aJ tm ((am (ak 21)).drop 2) (ae (ak 21)) (bi [("n", .int n,false),("rows", .tup [d3 a b c,d3 d e f,d3 g h i],false),("common", .int G,true)])) (.rt (.tup [.int (n.fdiv G),.tup [d3 (a.fdiv G) (b.fdiv G) (c.fdiv G),d3 (d.fdiv G) (e.fdiv G) (f.fdiv G),d3 (g.fdiv G) (h.fdiv G) (i.fdiv G)]])):=fL rfl (by walk_at "ob")
theorem Br{n e f g h i:Int}(hn:0<n)(nb:n.natAbs<dm)(hT:okT ([n,a,b,c,d,e,f,g,h,i].map D.int)):af (iD [.tup [.int n,.tup [d3 a b c,d3 d e f,d3 g h i]]]) (.tup [.int (n.fdiv (gI [n,a,b,c,d,e,f,g,h,i])),.tup [d3 (a.fdiv (gI [n,a,b,c,d,e,f,g,h,i])) (b.fdiv (gI [n,a,b,c,d,e,f,g,h,i])) (c.fdiv (gI [n,a,b,c,d,e,f,g,h,i])),d3 (d.fdiv (gI [n,a,b,c,d,e,f,g,h,i])) (e.fdiv (gI [n,a,b,c,d,e,f,g,h,i])) (f.fdiv (gI [n,a,b,c,d,e,f,g,h,i])),d3 (g.fdiv (gI [n,a,b,c,d,e,f,g,h,i])) (h.fdiv (gI [n,a,b,c,d,e,f,g,h,i])) (i.fdiv (gI [n,a,b,c,d,e,f,g,h,i]))]]):=by
 have h0:0<gI [n,a,b,c,d,e,f,g,h,i]:=ng (n:=n) (by simp) (by omega)
 have hd:jD (gI [n,a,b,c,d,e,f,g,h,i]):=⟨by omega,Rj (Kf (n:=n) (by simp) (by omega)) nb⟩
 rw[<- uJ]at hd⊢
 exact eN (bI 2 ∅ (bw (ai rfl (ai rfl (ai rfl aT))) (zJ n _ _ _ _ _ _ _ _ _ _ hd)))
noncomputable def nJ:Fx:=Tb [("upright", gF),("lowest", iD)] [] BL IL ML TL bA
noncomputable def wm:Str->Option (List D->Option Xs):=fun g=>([("upright", cO)]:List (Str×(List D->Option Xs))).lookup g
noncomputable def fS:List D->Rs D:=cE nJ (ae (ak 23)) ["numbers"] (am (ak 23))
theorem Jd(hk:k≠0)(p:Pm a b c d)(hT:okT (([k*a,k*b,k*c,k*d]:List Int).map D.int))(kb:k.natAbs<dm)(ha:a.natAbs<=2 ^ 140)(hb:b.natAbs<=2 ^ 140)(hc:c.natAbs<=2 ^ 140)(hd:d.natAbs<=2 ^ 140):af (fS [t4 (k*a) (k*b) (k*c) (k*d)]) (K0 a b c d):=by
 have aB:=bE ha (by decide)
 have bB:=bE hb (by decide)
 have cB:=bE hc (by decide)
 have dB:=bE hd (by decide)
 have dbl:∀{x:Int},x.natAbs<=2 ^ 140->(2*x).natAbs<dm:=fun {x} hx=>bE (m:=141) (by rw[Rk,Nat.pow_succ,Nat.mul_comm];exact Nat.mul_le_mul_right _ hx) (by decide)
 have a2:=dbl ha
 have b2:=dbl hb
 have c2:=dbl hc
 have hL:=Br (a:=dk a b c d) (b:=cZ a b c d) (c:=cY a b c d) (d:=cX a b c d) (e:=dj a b c d) (f:=cW a b c d) (g:=cV a b c d) (h:=cU a b c d) (i:=dh a b c d) (mO p.ne) (bE (EM ha hb hc hd _ (by simp[bz])) (by decide)) (EJ ha hb hc hd)
 exact eN (bh (Hf (aE ∅ (A1 hk p hT kb)) rfl (.inl rfl) rfl) (bh (aW (d:=.tup [d3 (dk a b c d) (cZ a b c d) (cY a b c d),d3 (cX a b c d) (dj a b c d) (cW a b c d),d3 (cV a b c d) (cU a b c d) (dh a b c d)]) ∅) (bZ (bJ (aE ∅ hL)))))
noncomputable def jF:List D->Option Xs:=cO
theorem EB(h:cO ds=some r):∃q,ds=[q]:=by
 unfold cO at h
 split at h
 ·exact⟨_,rfl⟩
 ·cases h
theorem qw:∀ds r,jF ds=some r->ds.length=1/\Rz nJ wm EX (ae (ak 23)) (am (ak 23)) (dg ["numbers"] ds) r:=by
 intro ds r h
 obtain⟨q,rfl⟩:=EB h
 exact⟨rfl,Rz.ast ∅ rfl rfl h⟩
noncomputable def yN:Fx:=Tb [] [("NoSide", .xc "NoSide" none),("Nought", .xc "Nought" none),("TooGreat", .xc "TooGreat" none),("NoPrime", .xc "NoPrime" none),("NoLine", .xc "NoLine" none),("NoText", .xc "NoText" none),("NoOrder", .xc "NoOrder" none),("Divided", .xc "Divided" none),("NoTurn", .xc "NoTurn" none),("NoName", .xc "NoName" none),("SpaceError", .xc "SpaceError" none)] BL IL ML TL bA
noncomputable def qi:List D->Rs D:=cE yN (ae (ak 43)) ["_law_error"] (am (ak 43))
noncomputable def iR:Fx:=Tb [("upright", gF),("table_of", fS)] [] BL IL ML TL bA
noncomputable def nI:Str->Option (List D->Option Xs):=fun g=>([("upright", cO),("table_of", jF)]:List (Str×(List D->Option Xs))).lookup g
noncomputable def fT:List D->Rs D:=kZ iR (ae (b5 (ak 31) 0)) ["self", "numbers"] (zU (b5 (ak 31) 0)) "Turn" ["word", "row", "fractions"]
noncomputable def fQ:List D->Option Xs:=cO
theorem kE:∀ds r,fQ ds=some r->ds.length+1=2/\BQ iR nI (ae (b5 (ak 31) 0)) ((ES (am (b5 (ak 31) 0))).getD 0 (.Constant .none 0 ⟨0,0,0,0⟩)) ((ES (am (b5 (ak 31) 0))).getD 1 (.Constant .none 0 ⟨0,0,0,0⟩)) "upright" (Le (am (b5 (ak 31) 0))) (dg ["self", "numbers"] (.obj "Turn" [] []::ds)) r:=by
 intro ds r h
 obtain⟨q,rfl⟩:=EB h
 exact⟨rfl,_,_,_,_,_,_,cO,∅,∅,∅,rfl,h⟩
noncomputable def qf:Fx:=Tb [("number_of", fh),("Turn", fT)] [] BL IL ML TL bA
noncomputable def yK:Str->Option (List D->Option Xs):=fun g=>([("number_of", cK),("Turn", fQ)]:List (Str×(List D->Option Xs))).lookup g
noncomputable def qg:List D->Rs D:=cE qf (ae (ak 33)) ["table"] (am (ak 33))
noncomputable def gE:List D->Option Xs:=fun ds=>match ds with
 | [d]=>cK [d]
 | _=>none
theorem tj:∀ds r,gE ds=some r->ds.length=1/\uY qf yK EX (ae (ak 33)) (am (ak 33)) (dg ["table"] ds) r:=by
 intro ds r h
 unfold gE at h
 split at h
 ·exact⟨rfl,uY.retA (f := "Turn") (g := "number_of") rfl rfl ∅ rfl rfl h⟩
 ·cases h
noncomputable def t5:Fx:=Tb [("_law_kinds", qi),("number_of", fh),("turn_of", qg)] [] BL IL ML TL bA
noncomputable def lG:Str->Option (List D->Option Xs):=fun g=>([("number_of", cK),("turn_of", gE)]:List (Str×(List D->Option Xs))).lookup g
theorem Kw{f:List D->Option Xs}{P:List D->Xs->Prop}(h:sP f P ds=some r):f ds=some r:=by
 unfold sP at h
 split at h
 ·exact h
 ·cases h
noncomputable def fg:List D->Rs D:=fun ds=>match ds with
 | [.int w,d]=>(match cK [d]with|some (_,_,[(_,q)])=>.ok (.tup [.lst [.str (Str.ofString "NoTurn")],iN q]) [w=0\/w=1]|_=>.st)
 | _=>.st
theorem oW:∀ds r,af (fg ds) r->uX t5 lG EX (ae (ak 47)) ["_law_way", "_law_table"] ((am (ak 47)).take 1) (EG ((am (ak 47)).getD 1 (.Pass ⟨0,0,0,0⟩))) ((am (ak 47)).drop 2) "NoTurn" "_law_e" "_law_told" ds r:=by
 intro ds r h
 unfold fg at h
 split at h
 ·rename_i w d
  cases hz:cK [d]with
  | none=>rw[hz]at h;exact(au h).elim
  | some x =>
   have hf:Hc [d]=some x:=Kw hz
   rw[hz]at h
   have hq:∃q,x=ua q:=by
    unfold Hc at hf
    dsimp only at hf
    split at hf
    ·rename_i r' l' e'
     cases ev:sx r' with
     | none=>rw[ev]at hf;cases hf
     | some q=>rw[ev]at hf;cases hf;exact⟨q,rfl⟩
    ·cases hf
   obtain⟨q,rfl⟩:=hq
   obtain⟨rfl,hw,_⟩:=gb h
   clear h
   have hz2:gE [d]=some (ua q):=hz
   rcases hw with rfl|rfl
   ·exact⟨rfl,_,∅,_,_,_,rfl,(fun f i z=>by cases z;rfl),Rt.iff (t:=true) (k:=0) ∅ (Rt.exp ∅ rfl rfl hz),∅⟩
   ·exact⟨rfl,_,∅,_,_,_,rfl,(fun f i z=>by cases z;rfl),Rt.iff (t:=false) (k:=0) ∅ (Rt.exp ∅ rfl rfl hz2),∅⟩
 ·exact(au h).elim
theorem Be(h:T.ok)(e:iP T=some q)(hw:w=0\/w=1):af (fg [.int w,T.D]) (.tup [.lst [.str (Str.ofString "NoTurn")],iN q]):=by
 refine⟨[w=0\/w=1],?_,hw,True.intro⟩
 show(match cK [T.D]with|some (_,_,[(_,q)])=>Rs.ok (D.tup [.lst [.str (Str.ofString "NoTurn")],iN q]) [w=0\/w=1]|_=>.st)=_
 rw[P8 h e]
noncomputable def yL:Fx:=Tb [] [] BL IL ML TL bA
noncomputable def kG:List D->Rs D:=cE yL (ae (ak 36)) ["_law_x"] (am (ak 36))
noncomputable def yM:Fx:=Tb [("_law_whole", kG)] [] BL IL ML TL bA
noncomputable def qh:List D->Rs D:=cE yM (ae (ak 37)) ["_law_found", "_law_many"] (am (ak 37))
noncomputable def BI:Fx:=Tb [("_law_drawn", iS),("_law_fault", kH),("table_fault", cC),("number_of", fh),("table_of", fS),("lowest", iD),("_law_refused", fg),("_law_tuple", qh),("_law_whole", kG)] [] BL IL ML TL bA
noncomputable def nN:List D->Rs D:=fun ds=>.ok (.bl true) [wq BI (ae (ak 48)) ["_law_script"] (am (ak 48)) ds (.bl true)]
theorem AL:∀ds r,af (nN ds) r->wq BI (ae (ak 48)) ["_law_script"] (am (ak 48)) ds r:=by
 rintro ds r ⟨l,h,hp⟩
 cases h
 exact hp.1
theorem zP(ns:List Int)(_:ns.length<=63)(hb:∀m∈ns,Builtin.Int.intBits m<=2 ^ 20):af (nN [.lst (ns.map D.int)]) (.bl true):=by
 have hw:kg (ns.map D.int):=⟨ns,rfl,hb⟩
 generalize ns.map D.int=L at *
 obtain⟨T,hT,hD⟩:=Km hw
 have hF:=oC hT
 have hL:=zM hT
 refine⟨_,rfl,⟨rfl,Rf.cut 1 (by exact bh (Hg (aE ∅ hD) rfl) b7) (Rf.dem (.base (bw (C:=bi [("_law_n", .int T.n,false),("_law_rows_here", T9.RR T,false)]) (ud (l:=[("_law_n", .int T.n,false),("_law_rows_here", T9.RR T,true)]) (ai rfl (ai rfl aT))) ?_)))⟩,True.intro⟩
 cases e:iP T with
 | none =>
  rw[e]at hF hL
  obtain⟨a,b,c,d,p,⟨a1,b1,c1,d1⟩,tl,hN⟩:=Dk hT e
  have hT1:okT (([1*a,1*b,1*c,1*d]:List Int).map D.int):=by
   rw[Sj,Sj,Sj,Sj]
   exact vq (m:=140) (by decide) (by
    intro t ht
    simp only[QA,QI,Q1]at ht
    rcases ht with rfl|rfl|rfl|rfl<;>assumption)
  have hTab:=Jd (k:=1) (by decide) p hT1 (bE (m:=1) (by decide) (by decide)) a1 b1 c1 d1
  rw[Sj,Sj,Sj,Sj]at hTab
  have hTab2:af (fS [t4 a b c d]) T.low.D:=by rw[<- tl];exact hTab
  have hLo:af (iD [T.D]) T.low.D:=Br hT.1 (bE (hT.2 _ T.mem_n) (by decide)) (T9.okT (k:=150) (by decide) hT.2)
  refine bh (aW (d:=T.D) ∅) (bh (aW (aE ∅ hL)) (bh (aW (aE ∅ hF)) (cm (t:=true) (k:=0) ∅ rfl ?_)))
  exact bh (aW (aE ∅ hN)) (b8 (t:=false) (k:=0) ∅ rfl (bZ (bJ (cM (aE ∅ hTab2) (aE ∅ hLo) (af.eq ∅ (T9.eqD _))))))
 | some q =>
  rw[e]at hF hL
  have h0:=Be hT e (w:=0) (.inl rfl)
  have h1:=Be hT e (w:=1) (.inr rfl)
  have hm:=oB e
  clear e
  simp only[QA,QI,Q1]at hm
  rcases hm with rfl|rfl|rfl|rfl|rfl|rfl|rfl
  ·exact bh (aW (d:=T.D) ∅) (bh (aW (aE ∅ hL)) (bh (aW (aE ∅ hF)) (bI 4 ∅ (bZ (bJ (iq (d8 (cM (aE ∅ h0) ∅ ∅) (d8 (cM (aE ∅ h1) ∅ ∅) fO))))))))
  ·exact bh (aW (d:=T.D) ∅) (bh (aW (aE ∅ hL)) (bh (aW (aE ∅ hF)) (bI 4 ∅ (bZ (bJ (iq (d8 (cM (aE ∅ h0) ∅ ∅) (d8 (cM (aE ∅ h1) ∅ ∅) fO))))))))
  ·exact bh (aW (d:=T.D) ∅) (bh (aW (aE ∅ hL)) (bh (aW (aE ∅ hF)) (bI 4 ∅ (bZ (bJ (iq (d8 (cM (aE ∅ h0) ∅ ∅) (d8 (cM (aE ∅ h1) ∅ ∅) fO))))))))
  ·exact bh (aW (d:=T.D) ∅) (bh (aW (aE ∅ hL)) (bh (aW (aE ∅ hF)) (bI 4 ∅ (bZ (bJ (iq (d8 (cM (aE ∅ h0) ∅ ∅) (d8 (cM (aE ∅ h1) ∅ ∅) fO))))))))
  ·exact bh (aW (d:=T.D) ∅) (bh (aW (aE ∅ hL)) (bh (aW (aE ∅ hF)) (bI 4 ∅ (bZ (bJ (iq (d8 (cM (aE ∅ h0) ∅ ∅) (d8 (cM (aE ∅ h1) ∅ ∅) fO))))))))
  ·exact bh (aW (d:=T.D) ∅) (bh (aW (aE ∅ hL)) (bh (aW (aE ∅ hF)) (bI 4 ∅ (bZ (bJ (iq (d8 (cM (aE ∅ h0) ∅ ∅) (d8 (cM (aE ∅ h1) ∅ ∅) fO))))))))
  ·exact bh (aW (d:=T.D) ∅) (bh (aW (aE ∅ hL)) (bh (aW (aE ∅ hF)) (bI 4 ∅ (bZ (bJ (iq (d8 (cM (aE ∅ h0) ∅ ∅) (d8 (cM (aE ∅ h1) ∅ ∅) fO))))))))
theorem LW:aM (aq (ae (ak 35))) ["_law_script", "_law_k"] (ae (ak 35)):=⟨rfl,rfl,rfl,by decide +kernel,by decide +kernel,by decide +kernel,by decide +kernel⟩
theorem LT:aM (aq (ae (ak 38))) ["_law_cell_here", "_law_kind"] (ae (ak 38)):=⟨rfl,rfl,rfl,by decide +kernel,by decide +kernel,by decide +kernel,by decide +kernel⟩
theorem LS:aM (aq (ae (ak 39))) ["_law_script", "_law_at", "_law_many"] (ae (ak 39)):=⟨rfl,rfl,rfl,by decide +kernel,by decide +kernel,by decide +kernel,by decide +kernel⟩
theorem LP:aM (aq (ae (ak 42))) ["_law_numbers_here"] (ae (ak 42)):=⟨rfl,rfl,rfl,by decide +kernel,by decide +kernel,by decide +kernel,by decide +kernel⟩
theorem LN:aM (aq (ae (ak 44))) ["_law_script", "_law_rows_here"] (ae (ak 44)):=⟨rfl,rfl,rfl,by decide +kernel,by decide +kernel,by decide +kernel,by decide +kernel⟩
theorem LR:aM (aq (ae (ak 40))) ["_law_one", "_law_other"] (ae (ak 40)):=⟨rfl,rfl,rfl,by decide +kernel,by decide +kernel,by decide +kernel,by decide +kernel⟩
theorem LQ:aM (aq (ae (ak 41))) ["_law_numbers_here"] (ae (ak 41)):=⟨rfl,rfl,rfl,by decide +kernel,by decide +kernel,by decide +kernel,by decide +kernel⟩
theorem LM:aM (aq (ae (ak 45))) ["_law_script"] (ae (ak 45)):=⟨rfl,rfl,rfl,by decide +kernel,by decide +kernel,by decide +kernel,by decide +kernel⟩
theorem LL:aM (aq (ae (ak 46))) ["_law_n", "_law_rows_here"] (ae (ak 46)):=⟨rfl,rfl,rfl,by decide +kernel,by decide +kernel,by decide +kernel,by decide +kernel⟩
theorem L1:aM (aq (ae (ak 18))) ["one", "other"] (ae (ak 18)):=⟨rfl,rfl,rfl,by decide +kernel,by decide +kernel,by decide +kernel,by decide +kernel⟩
theorem LY:aM (aq (ae (ak 25))) ["rows"] (ae (ak 25)):=⟨rfl,rfl,rfl,by decide +kernel,by decide +kernel,by decide +kernel,by decide +kernel⟩
theorem LZ:aM (aq (ae (ak 24))) ["table"] (ae (ak 24)):=⟨rfl,rfl,rfl,by decide +kernel,by decide +kernel,by decide +kernel,by decide +kernel⟩
theorem L4:aM (aq (ae (ak 15))) ["one", "other"] (ae (ak 15)):=⟨rfl,rfl,rfl,by decide +kernel,by decide +kernel,by decide +kernel,by decide +kernel⟩
theorem L5:aM (aq (ae (ak 14))) ["numbers"] (ae (ak 14)):=⟨rfl,rfl,rfl,by decide +kernel,by decide +kernel,by decide +kernel,by decide +kernel⟩
theorem L3:aM (aq (ae (ak 16))) ["numbers", "divisor"] (ae (ak 16)):=⟨rfl,rfl,rfl,by decide +kernel,by decide +kernel,by decide +kernel,by decide +kernel⟩
theorem Fs:aM (aq (ae (ak 17))) ["numbers"] (ae (ak 17)):=⟨rfl,rfl,rfl,by decide +kernel,by decide +kernel,by decide +kernel,by decide +kernel⟩
theorem LX:aM (aq (ae (ak 27))) ["table"] (ae (ak 27)):=⟨rfl,rfl,rfl,by decide +kernel,by decide +kernel,by decide +kernel,by decide +kernel⟩
theorem Fq:aM (aq (ae (ak 26))) ["table"] (ae (ak 26)):=⟨rfl,rfl,rfl,by decide +kernel,by decide +kernel,by decide +kernel,by decide +kernel⟩
theorem L0:aM (aq (ae (ak 21))) ["table"] (ae (ak 21)):=⟨rfl,rfl,rfl,by decide +kernel,by decide +kernel,by decide +kernel,by decide +kernel⟩
theorem Fr:aM (aq (ae (ak 23))) ["numbers"] (ae (ak 23)):=⟨rfl,rfl,rfl,by decide +kernel,by decide +kernel,by decide +kernel,by decide +kernel⟩
theorem LO:aM (aq (ae (ak 43))) ["_law_error"] (ae (ak 43)):=⟨rfl,rfl,rfl,by decide +kernel,by decide +kernel,by decide +kernel,by decide +kernel⟩
theorem Fp:aM (aq (ae (b5 (ak 30) 0))) ["self", "word", "row", "fractions"] (ae (b5 (ak 30) 0)):=⟨rfl,rfl,rfl,by decide +kernel,by decide +kernel,by decide +kernel,by decide +kernel⟩
theorem xn:aM (aq (ae (b5 (ak 31) 0))) ["self", "numbers"] (ae (b5 (ak 31) 0)):=⟨rfl,rfl,rfl,by decide +kernel,by decide +kernel,by decide +kernel,by decide +kernel⟩
theorem Fo:aM (aq (ae (ak 33))) ["table"] (ae (ak 33)):=⟨rfl,rfl,rfl,by decide +kernel,by decide +kernel,by decide +kernel,by decide +kernel⟩
theorem LK:aM (aq (ae (ak 47))) ["_law_way", "_law_table"] (ae (ak 47)):=⟨rfl,rfl,rfl,by decide +kernel,by decide +kernel,by decide +kernel,by decide +kernel⟩
theorem LV:aM (aq (ae (ak 36))) ["_law_x"] (ae (ak 36)):=⟨rfl,rfl,rfl,by decide +kernel,by decide +kernel,by decide +kernel,by decide +kernel⟩
theorem LU:aM (aq (ae (ak 37))) ["_law_found", "_law_many"] (ae (ak 37)):=⟨rfl,rfl,rfl,by decide +kernel,by decide +kernel,by decide +kernel,by decide +kernel⟩
theorem LJ:aM (aq (ae (ak 48))) ["_law_script"] (ae (ak 48)):=⟨rfl,rfl,rfl,by decide +kernel,by decide +kernel,by decide +kernel,by decide +kernel⟩
theorem Ft:aM (aq (ae (b5 (ak 11) 0))) ["self", "why"] (ae (b5 (ak 11) 0)):=⟨rfl,rfl,rfl,by decide +kernel,by decide +kernel,by decide +kernel,by decide +kernel⟩
theorem bO:∀p∈BL,iF p:=ar (Pr:=iF) (En) (ar (Pr:=iF) (yG) (ar (Pr:=iF) (Ar) (ar (Pr:=iF) (Eu) (ar (Pr:=iF) (Et) (ar (Pr:=iF) (Aw) (ar (Pr:=iF) (Em) (ar (Pr:=iF) (Eo) (ar (Pr:=iF) (Er) (ay)))))))))
theorem bN:∀p∈IL,wv p:=ar (Pr:=wv) (xX) (ar (Pr:=wv) (DF) (ay))
theorem bM:∀p∈ML,IU p:=ay
theorem bL:∀p∈TL,AN p:=ar (Pr:=AN) (vL) (ay)
theorem cL{w:World}{k:Nat}(h:dv P w k0 mg base j g F)(t:∀p∈l,tL P w k0 mg base k p)(hj:j<=k:=by decide):∀p∈(g,F)::l,tL P w k0 mg base k p:=ar (Pr:=tL P w k0 mg base k) (Or.inl (h.mono hj)) t
theorem cR{w:World}{k:Nat}(h:tF P w k0 mg base j g F)(t:∀p∈l,tL P w k0 mg base k p)(hj:j<=k:=by decide):∀p∈(g,F)::l,tL P w k0 mg base k p:=ar (Pr:=tL P w k0 mg base k) (Or.inr (h.mono hj)) t
theorem cN{n:Str}{l:List Str}(h:mg n=none)(t:∀m∈l,mg m=none):∀m∈n::l,mg m=none:=ar (Pr:=fun n=>mg n=none) h t
local macro_rules | `(tactic| walk_at "bn") => `(tactic| (intro _ _ _ _ _ _ us hl;first | (obtain ⟨x0,e⟩:=Gw hl;subst e;rfl) | (obtain ⟨x0,x1,e⟩:=zO hl;subst e;rfl) | (obtain ⟨x0,x1,x2,e⟩:=Gv hl;subst e;rfl) | (obtain ⟨x0,x1,x2,x3,e⟩:=NH hl;subst e;rfl)))
theorem all_mk{l:W.OpenLaw}{w:World}{K:W.Frag}{h:Heap}{fa f35 f38 f39 f42 f44 f40 f41 f45 f46 f18 f25 f24 f15 f14 f16 f17 f27 f26 f21 f23 f43 qJ nj f33 f47 f36 f37 f48 k9 df nQ:Addr}(X:K.In h)(G:h.Ns mainGlobals mg)(hfa:mg "law" = some (.ref fa))
  {MR PL MO PH MN PF MJ PB MH Py MM PD MK PC MG Px MF Pw MZ PY MV PR MW PU M2 P5 M3 P6 M1 P4 M0 PZ MT PN MU PQ MY PX MX PV MI Pz F8 IH F7 IG MS PM ME Pv MQ PK MP PJ MD IF F9 II:Option Addr} {Lv Lq Lp Lm Lk Lo Ln Lj Li LD Lz LA LG LH LF LE Lx Ly LC LB Ll Fe Fd Lw Lh Lu Lr Lg Ff:Array (Option Value)} {Ni NX OC Mp Id O7 Nf NU Oz Ml Ia O0 Nd NT Oy Mj HZ OZ Na NQ Ou Mg HW OW M8 NO Os Me HU OU Nc NS Ox Mi HY OY Nb NR Ov Mh HX OX M7 NN Oq Md HS OT M6 NM Op Mc HR OS Nq N5 OL Mx Io Pg Nm N1 OH Mt Ij Pb Nn N2 OI Mu Ik Pc Nu N8 OO MB Iu Pj Nv N9 OP MC Iv Pk Nt N7 ON MA Ir Pi Nr N6 OM Mz Iq Ph Nk NZ OF Mr Ig O9 Nl N0 OG Ms Ii Pa Np N4 OK Mw Im Pf No N3 OJ Mv Il Pd M9 NP Ot Mf HV OV Gb GL HB FJ yn HG Ga GK HA FI ym HF Nj NY OE Mq Ie O8 M5 NL Oo Mb HQ OR Nh NW OB Mn Ic O6 Ng NV OA Mm Ib O1 M4 GJ Hz FH Am HE Gc GM HC FK yo HH:Value}
  (jg:W.nsIn K mainGlobals "Turn" = some (some (.ref df)))
  (C8:W.plainGet K df Str.empty=true)
  (DG:W.hasDictIn K df=true)
  (C6:W.plainOver K df=true)
  (CP:W.findIn K (.ref df) "__setattr__" = some (some (.builtin "object.__setattr__")))
  (uA:W.makesIn K df=true)
  (sj:W.findIn K (.ref df) "__init__" = some (some (.ref nj)))
  (sr:W.isFn K (.ref nj)=true)
  (sO:W.keepIn K (.ref df)=true)
  (rO:W.findIn K (.ref df) "word" = some none)
  (tP:W.findIn K (.ref df) "row" = some none)
  (ly:W.findIn K (.ref df) "fractions" = some none)
  (uQ:W.nsIn K mainGlobals "Deed" = some (some (.ref nQ))) (uK:W.specialIn K (.ref nQ) "__getattribute__" = some (some (.builtin "type.__getattribute__"))) (uk:W.readsIn K nQ (.type "type")=true) (uN:W.findCls K (.ref nQ) (.type "type") "__init__" = some (.val (.ref qJ)))
  {bS:Addr} (gD:W.nsIn K mainGlobals "NoTurn" = some (some (.ref bS))) (xi_NoTurn:W.findIn K (.ref bS) "__init__" = some (some (.ref k9)))
  (a35:W.nsIn K mainGlobals "_law_cell" = some (some (.ref f35)))    (l35:K.lookup f35=some ⟨Ni,MR,.func (W.fnOf "_law_cell" "_law_cell" (bg (ak 35)) (am (ak 35)) (ae (ak 35)) .none NX OC Mp PL Id O7),Lv⟩) (c35:W.codeIn K Id "_law_cell" = true) (k35:W.keepIn K (.ref f35)=true)
  (a38:W.nsIn K mainGlobals "_law_number" = some (some (.ref f38)))    (l38:K.lookup f38=some ⟨Nf,MO,.func (W.fnOf "_law_number" "_law_number" (bg (ak 38)) (am (ak 38)) (ae (ak 38)) .none NU Oz Ml PH Ia O0),Lq⟩) (c38:W.codeIn K Ia "_law_number" = true) (k38:W.keepIn K (.ref f38)=true)
  (a39:W.nsIn K mainGlobals "_law_numbers" = some (some (.ref f39)))    (l39:K.lookup f39=some ⟨Nd,MN,.func (W.fnOf "_law_numbers" "_law_numbers" (bg (ak 39)) (am (ak 39)) (ae (ak 39)) .none NT Oy Mj PF HZ OZ),Lp⟩) (c39:W.codeIn K HZ "_law_numbers" = true) (k39:W.keepIn K (.ref f39)=true)
  (a42:W.nsIn K mainGlobals "_law_squares" = some (some (.ref f42)))    (l42:K.lookup f42=some ⟨Na,MJ,.func (W.fnOf "_law_squares" "_law_squares" (bg (ak 42)) (am (ak 42)) (ae (ak 42)) .none NQ Ou Mg PB HW OW),Lm⟩) (c42:W.codeIn K HW "_law_squares" = true) (k42:W.keepIn K (.ref f42)=true)
  (a44:W.nsIn K mainGlobals "_law_changed" = some (some (.ref f44)))    (l44:K.lookup f44=some ⟨M8,MH,.func (W.fnOf "_law_changed" "_law_changed" (bg (ak 44)) (am (ak 44)) (ae (ak 44)) .none NO Os Me Py HU OU),Lk⟩) (c44:W.codeIn K HU "_law_changed" = true) (k44:W.keepIn K (.ref f44)=true)
  (a40:W.nsIn K mainGlobals "_law_product" = some (some (.ref f40)))    (l40:K.lookup f40=some ⟨Nc,MM,.func (W.fnOf "_law_product" "_law_product" (bg (ak 40)) (am (ak 40)) (ae (ak 40)) .none NS Ox Mi PD HY OY),Lo⟩) (c40:W.codeIn K HY "_law_product" = true) (k40:W.keepIn K (.ref f40)=true)
  (a41:W.nsIn K mainGlobals "_law_rows" = some (some (.ref f41)))    (l41:K.lookup f41=some ⟨Nb,MK,.func (W.fnOf "_law_rows" "_law_rows" (bg (ak 41)) (am (ak 41)) (ae (ak 41)) .none NR Ov Mh PC HX OX),Ln⟩) (c41:W.codeIn K HX "_law_rows" = true) (k41:W.keepIn K (.ref f41)=true)
  (a45:W.nsIn K mainGlobals "_law_drawn" = some (some (.ref f45)))    (l45:K.lookup f45=some ⟨M7,MG,.func (W.fnOf "_law_drawn" "_law_drawn" (bg (ak 45)) (am (ak 45)) (ae (ak 45)) .none NN Oq Md Px HS OT),Lj⟩) (c45:W.codeIn K HS "_law_drawn" = true) (k45:W.keepIn K (.ref f45)=true)
  (a46:W.nsIn K mainGlobals "_law_fault" = some (some (.ref f46)))    (l46:K.lookup f46=some ⟨M6,MF,.func (W.fnOf "_law_fault" "_law_fault" (bg (ak 46)) (am (ak 46)) (ae (ak 46)) .none NM Op Mc Pw HR OS),Li⟩) (c46:W.codeIn K HR "_law_fault" = true) (k46:W.keepIn K (.ref f46)=true)
  (a18:W.nsIn K mainGlobals "added_products" = some (some (.ref f18)))    (l18:K.lookup f18=some ⟨Nq,MZ,.func (W.fnOf "added_products" "added_products" (bg (ak 18)) (am (ak 18)) (ae (ak 18)) .none N5 OL Mx PY Io Pg),LD⟩) (c18:W.codeIn K Io "added_products" = true) (k18:W.keepIn K (.ref f18)=true)
  (a25:W.nsIn K mainGlobals "determinant" = some (some (.ref f25)))    (l25:K.lookup f25=some ⟨Nm,MV,.func (W.fnOf "determinant" "determinant" (bg (ak 25)) (am (ak 25)) (ae (ak 25)) .none N1 OH Mt PR Ij Pb),Lz⟩) (c25:W.codeIn K Ij "determinant" = true) (k25:W.keepIn K (.ref f25)=true)
  (a24:W.nsIn K mainGlobals "table_fault" = some (some (.ref f24)))    (l24:K.lookup f24=some ⟨Nn,MW,.func (W.fnOf "table_fault" "table_fault" (bg (ak 24)) (am (ak 24)) (ae (ak 24)) .none N2 OI Mu PU Ik Pc),LA⟩) (c24:W.codeIn K Ik "table_fault" = true) (k24:W.keepIn K (.ref f24)=true)
  (a15:W.nsIn K mainGlobals "shared_by" = some (some (.ref f15)))    (l15:K.lookup f15=some ⟨Nu,M2,.func (W.fnOf "shared_by" "shared_by" (bg (ak 15)) (am (ak 15)) (ae (ak 15)) .none N8 OO MB P5 Iu Pj),LG⟩) (c15:W.codeIn K Iu "shared_by" = true) (k15:W.keepIn K (.ref f15)=true)
  (a14:W.nsIn K mainGlobals "common_divisor" = some (some (.ref f14)))    (l14:K.lookup f14=some ⟨Nv,M3,.func (W.fnOf "common_divisor" "common_divisor" (bg (ak 14)) (am (ak 14)) (ae (ak 14)) .none N9 OP MC P6 Iv Pk),LH⟩) (c14:W.codeIn K Iv "common_divisor" = true) (k14:W.keepIn K (.ref f14)=true)
  (a16:W.nsIn K mainGlobals "shortened" = some (some (.ref f16)))    (l16:K.lookup f16=some ⟨Nt,M1,.func (W.fnOf "shortened" "shortened" (bg (ak 16)) (am (ak 16)) (ae (ak 16)) .none N7 ON MA P4 Ir Pi),LF⟩) (c16:W.codeIn K Ir "shortened" = true) (k16:W.keepIn K (.ref f16)=true)
  (a17:W.nsIn K mainGlobals "upright" = some (some (.ref f17)))    (l17:K.lookup f17=some ⟨Nr,M0,.func (W.fnOf "upright" "upright" (bg (ak 17)) (am (ak 17)) (ae (ak 17)) .none N6 OM Mz PZ Iq Ph),LE⟩) (c17:W.codeIn K Iq "upright" = true) (k17:W.keepIn K (.ref f17)=true)
  (a27:W.nsIn K mainGlobals "multiples" = some (some (.ref f27)))    (l27:K.lookup f27=some ⟨Nk,MT,.func (W.fnOf "multiples" "multiples" (bg (ak 27)) (am (ak 27)) (ae (ak 27)) .none NZ OF Mr PN Ig O9),Lx⟩) (c27:W.codeIn K Ig "multiples" = true) (k27:W.keepIn K (.ref f27)=true)
  (a26:W.nsIn K mainGlobals "number_of" = some (some (.ref f26)))    (l26:K.lookup f26=some ⟨Nl,MU,.func (W.fnOf "number_of" "number_of" (bg (ak 26)) (am (ak 26)) (ae (ak 26)) .none N0 OG Ms PQ Ii Pa),Ly⟩) (c26:W.codeIn K Ii "number_of" = true) (k26:W.keepIn K (.ref f26)=true)
  (a21:W.nsIn K mainGlobals "lowest" = some (some (.ref f21)))    (KO:K.lookup f21=some ⟨Np,MY,.func (W.fnOf "lowest" "lowest" (bg (ak 21)) (am (ak 21)) (ae (ak 21)) .none N4 OK Mw PX Im Pf),LC⟩) (c21:W.codeIn K Im "lowest" = true) (k21:W.keepIn K (.ref f21)=true)
  (a23:W.nsIn K mainGlobals "table_of" = some (some (.ref f23)))    (l23:K.lookup f23=some ⟨No,MX,.func (W.fnOf "table_of" "table_of" (bg (ak 23)) (am (ak 23)) (ae (ak 23)) .none N3 OJ Mv PV Il Pd),LB⟩) (c23:W.codeIn K Il "table_of" = true) (k23:W.keepIn K (.ref f23)=true)
  (a43:W.nsIn K mainGlobals "_law_kinds" = some (some (.ref f43)))    (l43:K.lookup f43=some ⟨M9,MI,.func (W.fnOf "_law_kinds" "_law_kinds" (bg (ak 43)) (am (ak 43)) (ae (ak 43)) .none NP Ot Mf Pz HV OV),Ll⟩) (c43:W.codeIn K HV "_law_kinds" = true) (k43:W.keepIn K (.ref f43)=true)
  (JU:K.lookup qJ=some ⟨Gb,F8,.func (W.fnOf "__init__" "Deed.__init__" (bg (b5 (ak 30) 0)) (am (b5 (ak 30) 0)) (ae (b5 (ak 30) 0)) .none GL HB FJ IH yn HG),Fe⟩) (Ky:W.codeIn K yn "Deed.__init__" = true) (vO:W.keepIn K (.ref qJ)=true)
  (JT:K.lookup nj=some ⟨Ga,F7,.func (W.fnOf "__init__" "Turn.__init__" (bg (b5 (ak 31) 0)) (am (b5 (ak 31) 0)) (ae (b5 (ak 31) 0)) .none GK HA FI IG ym HF),Fd⟩) (Kx:W.codeIn K ym "Turn.__init__" = true) (JY:W.keepIn K (.ref nj)=true)
  (a33:W.nsIn K mainGlobals "turn_of" = some (some (.ref f33)))    (l33:K.lookup f33=some ⟨Nj,MS,.func (W.fnOf "turn_of" "turn_of" (bg (ak 33)) (am (ak 33)) (ae (ak 33)) .none NY OE Mq PM Ie O8),Lw⟩) (c33:W.codeIn K Ie "turn_of" = true) (k33:W.keepIn K (.ref f33)=true)
  (a47:W.nsIn K mainGlobals "_law_refused" = some (some (.ref f47)))    (l47:K.lookup f47=some ⟨M5,ME,.func (W.fnOf "_law_refused" "_law_refused" (bg (ak 47)) (am (ak 47)) (ae (ak 47)) .none NL Oo Mb Pv HQ OR),Lh⟩) (c47:W.codeIn K HQ "_law_refused" = true) (k47:W.keepIn K (.ref f47)=true)
  (a36:W.nsIn K mainGlobals "_law_whole" = some (some (.ref f36)))    (l36:K.lookup f36=some ⟨Nh,MQ,.func (W.fnOf "_law_whole" "_law_whole" (bg (ak 36)) (am (ak 36)) (ae (ak 36)) .none NW OB Mn PK Ic O6),Lu⟩) (c36:W.codeIn K Ic "_law_whole" = true) (k36:W.keepIn K (.ref f36)=true)
  (a37:W.nsIn K mainGlobals "_law_tuple" = some (some (.ref f37)))    (l37:K.lookup f37=some ⟨Ng,MP,.func (W.fnOf "_law_tuple" "_law_tuple" (bg (ak 37)) (am (ak 37)) (ae (ak 37)) .none NV OA Mm PJ Ib O1),Lr⟩) (c37:W.codeIn K Ib "_law_tuple" = true) (k37:W.keepIn K (.ref f37)=true)
  (a48:W.nsIn K mainGlobals "law" = some (some (.ref f48)))    (l48:K.lookup f48=some ⟨M4,MD,.func (W.fnOf "law" "law" (bg (ak 48)) (am (ak 48)) (ae (ak 48)) .none GJ Hz FH IF Am HE),Lg⟩) (c48:W.codeIn K Am "law" = true) (k48:W.keepIn K (.ref f48)=true)
  (vN:K.lookup k9=some ⟨Gc,F9,.func (W.fnOf "__init__" "NoTurn.__init__" (bg (b5 (ak 11) 0)) (am (b5 (ak 11) 0)) (ae (b5 (ak 11) 0)) .none GM HC FK II yo HH),Ff⟩) (Kz:W.codeIn K yo "NoTurn.__init__" = true) (JZ:W.keepIn K (.ref k9)=true)
  {kL:Addr} (nA:W.nsIn K mainGlobals "Divided" = some (some (.ref kL)))
  {mw:Addr} (pU:W.nsIn K mainGlobals "NoLine" = some (some (.ref mw)))
  {mv:Addr} (pT:W.nsIn K mainGlobals "NoName" = some (some (.ref mv)))
  {kK:Addr} (ny:W.nsIn K mainGlobals "NoOrder" = some (some (.ref kK)))
  {kJ:Addr} (nv:W.nsIn K mainGlobals "NoPrime" = some (some (.ref kJ)))
  {mr:Addr} (pS:W.nsIn K mainGlobals "NoSide" = some (some (.ref mr)))
  {mq:Addr} (pR:W.nsIn K mainGlobals "NoText" = some (some (.ref mq)))
  {cT:Addr} (iQ:W.nsIn K mainGlobals "Nought" = some (some (.ref cT)))
  {bV:Addr} (dX:W.nsIn K mainGlobals "SpaceError" = some (some (.ref bV)))
  {jH:Addr} (lD:W.nsIn K mainGlobals "TooGreat" = some (some (.ref jH)))
  (vk:eL K "Divided" kL=true) (vZ:gh K kL=true)
  (xk:eL K "NoLine" mw=true) (yw:gh K mw=true)
  (xj:eL K "NoName" mv=true) (yv:gh K mv=true)
  (vj:eL K "NoOrder" kK=true) (vY:gh K kK=true)
  (vi:eL K "NoPrime" kJ=true) (vX:gh K kJ=true)
  (xi:eL K "NoSide" mr=true) (yt:gh K mr=true)
  (xh:eL K "NoText" mq=true) (yr:gh K mq=true)
  (xg:eL K "NoTurn" bS=true) (yq:gh K bS=true)
  (xb:eL K "Nought" cT=true) (yp:gh K cT=true)
  (qr:eL K "SpaceError" bV=true) (qu:gh K bV=true)
  (tN:eL K "TooGreat" jH=true) (tT:gh K jH=true)
  (xs0:W.specialIn K (.builtin "object.__class__") "__get__" = some (some (.builtin "getset_descriptor.__get__"))) (xt0:W.takesIn K (.builtin "object.__class__")=some true)
  (o8:iW K bS bV=true) (wN:W.findIn K (.ref bS) "__getattribute__" = some (some (.builtin "BaseException.__getattribute__"))) (wL:W.findIn K (.ref bS) "__getattr__" = some none) (wJ:W.findIn K (.ref bS) "__class__" = some (some (.builtin "object.__class__"))) (wH:W.mroIn K bS (.type "object")=some true) (wF:W.exmOne K (.ref bS) (.ref bV)=some true) (wD:fj K bS=some (.ref k9))
  (wB:W.keepIn K (.ref bS)=true) (o7:W.hasDictIn K bS=true) (wA:W.findIn K (.ref bS) "__setattr__" = some (some (.builtin "object.__setattr__"))) (o0:W.findIn K (.ref bS) "why" = some none) (wz:W.isFn K (.ref k9)=true)
  (wO:iW K cT bV=true) (wM:W.findIn K (.ref cT) "__getattribute__" = some (some (.builtin "BaseException.__getattribute__"))) (wK:W.findIn K (.ref cT) "__getattr__" = some none) (wI:W.findIn K (.ref cT) "__class__" = some (some (.builtin "object.__class__"))) (wG:W.mroIn K cT (.type "object")=some true) (wE:W.exmOne K (.ref cT) (.ref bV)=some true) (wC:fj K cT=none)
  (qo:W.specialIn K (.ref bV) "__getattribute__" = some (some (.builtin "type.__getattribute__"))) (ql:W.readsIn K bV (.type "type")=true) (qp:W.findCls K (.ref bV) (.type "type") "__init__" = some (.val (.builtin "ValueError.__init__")))
  (v1:W.exmOne K (.ref bS) (.ref bS)=some true)
  {ca9 v8 v7 v6 v5 v4 v3:Addr} {dd9:Option Addr} {ss9:Array (Option Value)} {nn9:Nat} (g9:W.nsIn K mainGlobals "PAIRS" = some (some (.ref ca9))) (m9:K.lookup ca9=some ⟨.type "tuple", dd9,.seq #[.ref v8,.ref v7,.ref v6,.ref v5,.ref v4,.ref v3] nn9,ss9⟩)
  {Ko:Option Addr} {Jo:Array (Option Value)} {JJ:Nat} {Cd Cb:Tok} (NB:K.lookup v3=some ⟨.type "tuple", Ko,.seq #[.int (2) Cd,.int (2) Cb] JJ,Jo⟩)
  {Kq:Option Addr} {Jp:Array (Option Value)} {JK:Nat} {Cf Ce:Tok} (NC:K.lookup v4=some ⟨.type "tuple", Kq,.seq #[.int (1) Cf,.int (2) Ce] JK,Jp⟩)
  {Kr:Option Addr} {Jq:Array (Option Value)} {JL:Nat} {Ch Cg:Tok} (ND:K.lookup v5=some ⟨.type "tuple", Kr,.seq #[.int (1) Ch,.int (1) Cg] JL,Jq⟩)
  {Ks:Option Addr} {Jr:Array (Option Value)} {JM:Nat} {Cj Ci:Tok} (NE:K.lookup v6=some ⟨.type "tuple", Ks,.seq #[.int (0) Cj,.int (2) Ci] JM,Jr⟩)
  {Kt:Option Addr} {Js:Array (Option Value)} {JN:Nat} {Cl Ck:Tok} (NF:K.lookup v7=some ⟨.type "tuple", Kt,.seq #[.int (0) Cl,.int (1) Ck] JN,Js⟩)
  {Ku:Option Addr} {Jt:Array (Option Value)} {JO:Nat} {Co Cn:Tok} (NG:K.lookup v8=some ⟨.type "tuple", Ku,.seq #[.int (0) Co,.int (0) Cn] JO,Jt⟩)
  (z0:W.nsIn K mainGlobals "len" = some none)    (z1:W.nsIn K mainGlobals "tuple" = some none)    (z2:W.nsIn K mainGlobals "list" = some none)    (z3:W.nsIn K mainGlobals "abs" = some none)    (z4:W.nsIn K mainGlobals "all" = some none)    (z5:W.nsIn K mainGlobals "sum" = some none)    (z6:W.nsIn K mainGlobals "isinstance" = some none)    (z7:W.nsIn K mainGlobals "set" = some none)    (z8:W.nsIn K mainGlobals "int" = some none)    (z9:W.nsIn K mainGlobals "bool" = some none)    (z10:W.nsIn K mainGlobals "str" = some none)    (z11:W.nsIn K mainGlobals "range" = some none)    (z12:W.nsIn K mainGlobals "zip" = some none)    (z13:W.nsIn K mainGlobals "enumerate" = some none)    (z14:W.nsIn K mainGlobals "any" = some none)    (z15:W.nsIn K mainGlobals "sorted" = some none)    (z16:W.nsIn K mainGlobals "min" = some none)    (z17:W.nsIn K mainGlobals "max" = some none)    (z18:W.nsIn K mainGlobals "reversed" = some none)    (z19:W.nsIn K mainGlobals "ValueError" = some none) :
  ∃fd:FuncData,(∀(s:Shared) (v:Value),BindsTo s fd ⟨[v],[]⟩ [("_law_script", v)])/\∀base:Heap,K.In base->base.Ns mainGlobals mg->br l.prog w K mg base cz 11 fa fd ["_law_script"] (ja K nN):=by
 have e:=hfa.symm.trans (QX X G a48)
 cases e
 have hbl:∀n∈iA,mg n=none:=cN (Ra X G z0) (cN (Ra X G z1) (cN (Ra X G z2) (cN (Ra X G z3) (cN (Ra X G z4) (cN (Ra X G z5) (cN (Ra X G z6) (cN (Ra X G z7) (cN (Ra X G z8) (cN (Ra X G z9) (cN (Ra X G z10) (cN (Ra X G z11) (cN (Ra X G z12) (cN (Ra X G z13) (cN (Ra X G z14) (cN (Ra X G z15) (cN (Ra X G z16) (cN (Ra X G z17) (cN (Ra X G z18) (cN (Ra X G z19) (ay))))))))))))))))))))
 have hmg:∀n C,W.nsIn K mainGlobals n=some (some (.ref C))->mg n=some (.ref C):=fun n C h=>QX X G h
 have hEx:AO K EX:=DV (ar (Pr:=IN K) (⟨bS,bV,gD,dX,⟨o8,wN,wL,wJ,xs0,xt0,wH⟩,wF,fun _ z=>by cases z;exact⟨o0,o7⟩⟩) (ar (Pr:=IN K) (⟨cT,bV,iQ,dX,⟨wO,wM,wK,wI,xs0,xt0,wG⟩,wE,fun _ z=>by cases z⟩) (ay)))
 have uS:eJ K df:=⟨C8,DG,C6,CP⟩
 have F35:=bD (st:=(ak 35)) l35 c35 k35
 have b35:=F35.binds (ps:=["_law_script", "_law_k"]) (by walk_at "bn")
 have F38:=bD (st:=(ak 38)) l38 c38 k38
 have b38:=F38.binds (ps:=["_law_cell_here", "_law_kind"]) (by walk_at "bn")
 have F39:=bD (st:=(ak 39)) l39 c39 k39
 have b39:=F39.binds (ps:=["_law_script", "_law_at", "_law_many"]) (by walk_at "bn")
 have F42:=bD (st:=(ak 42)) l42 c42 k42
 have b42:=F42.binds (ps:=["_law_numbers_here"]) (by walk_at "bn")
 have F44:=bD (st:=(ak 44)) l44 c44 k44
 have b44:=F44.binds (ps:=["_law_script", "_law_rows_here"]) (by walk_at "bn")
 have F40:=bD (st:=(ak 40)) l40 c40 k40
 have b40:=F40.binds (ps:=["_law_one", "_law_other"]) (by walk_at "bn")
 have F41:=bD (st:=(ak 41)) l41 c41 k41
 have b41:=F41.binds (ps:=["_law_numbers_here"]) (by walk_at "bn")
 have F45:=bD (st:=(ak 45)) l45 c45 k45
 have IA:=F45.binds (ps:=["_law_script"]) (by walk_at "bn")
 have F46:=bD (st:=(ak 46)) l46 c46 k46
 have aZ:=F46.binds (ps:=["_law_n", "_law_rows_here"]) (by walk_at "bn")
 have F18:=bD (st:=(ak 18)) l18 c18 k18
 have b18:=F18.binds (ps:=["one", "other"]) (by walk_at "bn")
 have F25:=bD (st:=(ak 25)) l25 c25 k25
 have b25:=F25.binds (ps:=["rows"]) (by walk_at "bn")
 have F24:=bD (st:=(ak 24)) l24 c24 k24
 have b24:=F24.binds (ps:=["table"]) (by walk_at "bn")
 have F15:=bD (st:=(ak 15)) l15 c15 k15
 have b15:=F15.binds (ps:=["one", "other"]) (by walk_at "bn")
 have F14:=bD (st:=(ak 14)) l14 c14 k14
 have b14:=F14.binds (ps:=["numbers"]) (by walk_at "bn")
 have F16:=bD (st:=(ak 16)) l16 c16 k16
 have b16:=F16.binds (ps:=["numbers", "divisor"]) (by walk_at "bn")
 have F17:=bD (st:=(ak 17)) l17 c17 k17
 have b17:=F17.binds (ps:=["numbers"]) (by walk_at "bn")
 have F27:=bD (st:=(ak 27)) l27 c27 k27
 have b27:=F27.binds (ps:=["table"]) (by walk_at "bn")
 have F26:=bD (st:=(ak 26)) l26 c26 k26
 have b26:=F26.binds (ps:=["table"]) (by walk_at "bn")
 have F21:=bD (st:=(ak 21)) KO c21 k21
 have b21:=F21.binds (ps:=["table"]) (by walk_at "bn")
 have F23:=bD (st:=(ak 23)) l23 c23 k23
 have b23:=F23.binds (ps:=["numbers"]) (by walk_at "bn")
 have F43:=bD (st:=(ak 43)) l43 c43 k43
 have b43:=F43.binds (ps:=["_law_error"]) (by walk_at "bn")
 have BS:=bD (st:=(b5 (ak 30) 0)) JU Ky vO
 have KA:=BS.binds (ps:=["self", "word", "row", "fractions"]) (by walk_at "bn")
 have ww:=bD (st:=(b5 (ak 31) 0)) JT Kx JY
 have BH:=ww.binds (ps:=["self", "numbers"]) (by walk_at "bn")
 have F33:=bD (st:=(ak 33)) l33 c33 k33
 have b33:=F33.binds (ps:=["table"]) (by walk_at "bn")
 have F47:=bD (st:=(ak 47)) l47 c47 k47
 have yH:=F47.binds (ps:=["_law_way", "_law_table"]) (by walk_at "bn")
 have F36:=bD (st:=(ak 36)) l36 c36 k36
 have b36:=F36.binds (ps:=["_law_x"]) (by walk_at "bn")
 have F37:=bD (st:=(ak 37)) l37 c37 k37
 have b37:=F37.binds (ps:=["_law_found", "_law_many"]) (by walk_at "bn")
 have F48:=bD (st:=(ak 48)) l48 c48 k48
 have BT:=bD (st:=(b5 (ak 11) 0)) vN Kz JZ
 have KB:=BT.binds (ps:=["self", "why"]) fun _ _ _ _ _ _ us hl=>by obtain⟨x0,x1,rfl⟩:=zO hl;rfl
 have hEI:∀base k,2<=k->BU l.prog w K mg base k EX:=fun base k hk=>Hh (ar (Pr:=IM l.prog w K mg base k) (⟨bS,gD,(fun z=>by cases z),fun _ z=>by cases z;exact⟨1,k9,_,_,["self", "why"],hk,wD,vN,GZ wz vN,wB,yW BT rfl Ft ⟨rfl,rfl⟩ ⟨by decide +kernel,by decide +kernel⟩ rfl (QX X G dX) qo ql qp o8 o7 wA o0 rfl (by decide +kernel) rfl (by decide +kernel),KB⟩⟩) (ar (Pr:=IM l.prog w K mg base k) (⟨cT,iQ,fun _=>wC,fun _ z=>by cases z⟩) (ay)))
 refine⟨W.fnOf "law" "law" (bg (ak 48)) (am (ak 48)) (ae (ak 48)) .none GJ Hz FH IF Am HE,fun s v=>.of_eq rfl,fun base _ _=>?_⟩
 have nA0:∀C,W.nsIn K mainGlobals "Turn" = some (some (.ref C))->∀f∈[("word" : Str),("row" : Str),("fractions" : Str)],dF K C f:=by intro C hC;cases (jg.symm.trans hC);exact ar (Pr:=fun f=>dF K df f) (rO) (ar (Pr:=fun f=>dF K df f) (tP) (ar (Pr:=fun f=>dF K df f) (ly) (ay)))
 have D35:dv l.prog w K mg base 3 "_law_cell" iC:=ci F35 LW (QX X G a35) b35 (by decide +kernel) (bu (ay) (ay) bO bN bM bL aP hbl) t7
 have D38:dv l.prog w K mg base 3 "_law_number" gT:=ci F38 LT (QX X G a38) b38 (by decide +kernel) (bu (ay) (ay) bO bN bM bL aP hbl) qz
 have D39:dv l.prog w K mg base 4 "_law_numbers" i5:=ci F39 LS (QX X G a39) b39 (by decide +kernel) (bu (cL D35 (cL D38 (ay))) (ay) bO bN bM bL aP hbl) dN.self
 have D42:dv l.prog w K mg base 3 "_law_squares" gq:=ci F42 LP (QX X G a42) b42 (by decide +kernel) (bu (ay) (ay) bO bN bM bL aP hbl) oV
 have O44:qk l.prog w K mg base 4 "_law_changed" gr:=⟨_,_,["_law_script", "_law_rows_here"],G9 F44 LN (bu (cL D35 (ay)) (ay) bO bN bM bL aP hbl) (by decide +kernel) oY,QX X G a44,k44,b44,by decide +kernel⟩
 have D40:dv l.prog w K mg base 3 "_law_product" iY:=ci F40 LR (QX X G a40) b40 (by decide +kernel) (bu (ay) (ay) bO bN bM bL aP hbl) oX
 have D41:dv l.prog w K mg base 4 "_law_rows" me:=ci F41 LQ (QX X G a41) b41 (by decide +kernel) (bu (cL D40 (ay)) (ay) bO bN bM bL aP hbl) dN.self
 have D45:dv l.prog w K mg base 5 "_law_drawn" iS:=x8 (DN (Ω:=eI) F45 LM (bu (cL D35 (cL D39 (cL D42 (cL D41 (cL D38 (ay)))))) (ay) bO bN bM bL aP hbl) (F0 (ar (Pr:=fun q:Str×(List D->Rs D)=>qk l.prog w K mg base 4 q.1 q.2) (O44.mono (by decide)) (ay))) tx) (QX X G a45) k45 IA (by decide +kernel)
 have D46:dv l.prog w K mg base 3 "_law_fault" kH:=ci F46 LL (QX X G a46) aZ (by decide +kernel) (bu (ay) (ay) bO bN bM bL aP hbl) dN.self
 have D18:dv l.prog w K mg base 3 "added_products" fB:=ci F18 L1 (QX X G a18) b18 (by decide +kernel) (bu (ay) (ay) bO bN bM bL aP hbl) dN.self
 have D25:dv l.prog w K mg base 4 "determinant" gO:=ci F25 LY (QX X G a25) b25 (by decide +kernel) (bu (cL D18 (ay)) (ay) bO bN bM bL aP hbl) dN.self
 have D24:dv l.prog w K mg base 5 "table_fault" cC:=ci F24 LZ (QX X G a24) b24 (by decide +kernel) (bu (cL D18 (cL D25 (ay))) (ar (Pr:=fC mg K) (Ai (ds:=[.tup [.int 0,.int 0],.tup [.int 0,.int 1],.tup [.int 0,.int 2],.tup [.int 1,.int 1],.tup [.int 1,.int 2],.tup [.int 2,.int 2]]) (vs:=[.ref v8,.ref v7,.ref v6,.ref v5,.ref v4,.ref v3]) (QX X G g9) m9 (show 6<=sizeLine by decide) (.cons rfl (.cons rfl (.cons rfl (.cons rfl (.cons rfl (.cons rfl (.nil))))))) (fun H P=>ah.cons (gY (ns:=[0,0]) NG (show 2<=sizeLine by decide) (.cons ⟨_,rfl⟩ (.cons ⟨_,rfl⟩ (.nil))) H P) (ah.cons (gY (ns:=[0,1]) NF (show 2<=sizeLine by decide) (.cons ⟨_,rfl⟩ (.cons ⟨_,rfl⟩ (.nil))) H P) (ah.cons (gY (ns:=[0,2]) NE (show 2<=sizeLine by decide) (.cons ⟨_,rfl⟩ (.cons ⟨_,rfl⟩ (.nil))) H P) (ah.cons (gY (ns:=[1,1]) ND (show 2<=sizeLine by decide) (.cons ⟨_,rfl⟩ (.cons ⟨_,rfl⟩ (.nil))) H P) (ah.cons (gY (ns:=[1,2]) NC (show 2<=sizeLine by decide) (.cons ⟨_,rfl⟩ (.cons ⟨_,rfl⟩ (.nil))) H P) (ah.cons (gY (ns:=[2,2]) NB (show 2<=sizeLine by decide) (.cons ⟨_,rfl⟩ (.cons ⟨_,rfl⟩ (.nil))) H P) (ah.nil)))))))) (ay)) bO bN bM bL aP hbl) dN.self
 have D15:dv l.prog w K mg base 3 "shared_by" iZ:=ci F15 L4 (QX X G a15) b15 (by decide +kernel) (bu (ay) (ay) bO bN bM bL aP hbl) dN.self
 have D14:dv l.prog w K mg base 4 "common_divisor" cI:=ci F14 L5 (QX X G a14) b14 (by decide +kernel) (bu (cL D15 (ay)) (ay) bO bN bM bL aP hbl) jO
 have D16:dv l.prog w K mg base 3 "shortened" gu:=ci F16 L3 (QX X G a16) b16 (by decide +kernel) (bu (ay) (ay) bO bN bM bL aP hbl) dN.self
 have Q17:gP l.prog w K mg base 5 "upright" cO:=.inl ⟨_,_,["numbers"],sB (Ex:=EX) F17 Fs (bu (cL D14 (cL D16 (ay))) (ay) bO bN bM bL aP hbl) (jb (ay)) hmg (hEI _ _ (by decide)) tf,QX X G a17,k17,b17,by decide +kernel⟩
 have D17:dv l.prog w K mg base 5 "upright" gF:=ci F17 Fs (QX X G a17) b17 (by decide +kernel) (bu (cL D14 (cL D16 (ay))) (ay) bO bN bM bL aP hbl) dN.self
 have D27:dv l.prog w K mg base 3 "multiples" gv:=ci F27 LX (QX X G a27) b27 (by decide +kernel) (bu (ay) (ay) bO bN bM bL aP hbl) dN.self
 have Q26:gP l.prog w K mg base 6 "number_of" cK:=.inl ⟨_,_,["table"],sB (Ex:=EX) F26 Fq (bu (cL D24 (cL D17 (cL D27 (ay)))) (ay) bO bN bM bL aP hbl) (jb (ar (Pr:=nP l.prog w K mg base 5) (Q17.mono (by decide)) (ay))) hmg (hEI _ _ (by decide)) oS,QX X G a26,k26,b26,by decide +kernel⟩
 have D26:dv l.prog w K mg base 6 "number_of" fh:=ci F26 Fq (QX X G a26) b26 (by decide +kernel) (bu (cL D24 (cL D17 (cL D27 (ay)))) (ay) bO bN bM bL aP hbl) dN.self
 have D21:dv l.prog w K mg base 5 "lowest" iD:=ci F21 L0 (QX X G a21) b21 (by decide +kernel) (bu (cL D14 (cL D16 (ay))) (ay) bO bN bM bL aP hbl) dN.self
 have Q23:gP l.prog w K mg base 6 "table_of" jF:=.inl ⟨_,_,["numbers"],sB (Ex:=EX) F23 Fr (bu (cL D17 (cL D21 (ay))) (ay) bO bN bM bL aP hbl) (jb (ar (Pr:=nP l.prog w K mg base 5) (Q17.mono (by decide)) (ay))) hmg (hEI _ _ (by decide)) qw,QX X G a23,k23,b23,by decide +kernel⟩
 have D23:dv l.prog w K mg base 6 "table_of" fS:=ci F23 Fr (QX X G a23) b23 (by decide +kernel) (bu (cL D17 (cL D21 (ay))) (ay) bO bN bM bL aP hbl) dN.self
 have D43:dv l.prog w K mg base 3 "_law_kinds" qi:=ci F43 LO (QX X G a43) b43 (by decide +kernel) (bu (ay) (ar (Pr:=fC mg K) (eF (QX X G pS) pS (d9 xi yt)) (ar (Pr:=fC mg K) (eF (QX X G iQ) iQ (d9 xb yp)) (ar (Pr:=fC mg K) (eF (QX X G lD) lD (d9 tN tT)) (ar (Pr:=fC mg K) (eF (QX X G nv) nv (d9 vi vX)) (ar (Pr:=fC mg K) (eF (QX X G pU) pU (d9 xk yw)) (ar (Pr:=fC mg K) (eF (QX X G pR) pR (d9 xh yr)) (ar (Pr:=fC mg K) (eF (QX X G ny) ny (d9 vj vY)) (ar (Pr:=fC mg K) (eF (QX X G nA) nA (d9 vk vZ)) (ar (Pr:=fC mg K) (eF (QX X G gD) gD (d9 xg yq)) (ar (Pr:=fC mg K) (eF (QX X G pT) pT (d9 xj yv)) (ar (Pr:=fC mg K) (eF (QX X G dX) dX (d9 qr qu)) (ay)))))))))))) bO bN bM bL aP hbl) dN.self
 have KH:br l.prog w K mg base cz 1 qJ _ ["self", "word", "row", "fractions"] (Fa K ["word", "row", "fractions"]):=El BS rfl Fp (ar (Pr:=fun x=>fb (ae (b5 (ak 30) 0)) x) (Or.inl rfl) (ar (Pr:=fun x=>fb (ae (b5 (ak 30) 0)) x) (Or.inl rfl) (ar (Pr:=fun x=>fb (ae (b5 (ak 30) 0)) x) (Or.inl rfl) (ar (Pr:=fun x=>fb (ae (b5 (ak 30) 0)) x) (Or.inl rfl) (ay))))) (ar (Pr:=fun x=>cQ x=true) (rfl) (ar (Pr:=fun x=>cQ x=true) (rfl) (ar (Pr:=fun x=>cQ x=true) (rfl) (ar (Pr:=fun x=>cQ x=true) (rfl) (ay))))) rfl (by decide) (by decide) (by decide)
 have KE:br l.prog w K mg base cz 7 nj _ ["self", "numbers"] (wZ K "Turn" fT):=DC (n := "Turn") (b := "Deed") ww xn (bu (cL D17 (cL D23 (ay))) (ay) bO bN bM bL aP hbl) (KH.mono (by decide)) KA vO rfl (QX X G uQ) uK uk uN rfl rfl rfl (by decide +kernel) rfl (by decide) nA0
 have BW:tF l.prog w K mg base 8 "Turn" fT:=Gq vQ ⟨uA,sj,sr,sO⟩ KE (QX X G jg) jg uS BH (by decide +kernel)
 have KD:gP l.prog w K mg base 8 "Turn" fQ:=.inr ⟨7,df,_,_,["self", "numbers"],by decide,⟨uA,sj,sr,sO⟩,zT (b := "Deed") ww xn (bu (cL D17 (cL D23 (ay))) (ay) bO bN bM bL aP hbl) (jb (ar (Pr:=nP l.prog w K mg base 6) (Q17.mono (by decide)) (ar (Pr:=nP l.prog w K mg base 6) (Q23.mono (by decide)) (ay)))) vO rfl (QX X G uQ) uK uk uN rfl (by decide +kernel) rfl (by decide) (Gh rfl) rfl (Cy kE),QX X G jg,jg,uS,BH,by decide +kernel⟩
 have Q33:gP l.prog w K mg base 9 "turn_of" gE:=.inl ⟨_,_,["table"],DP (Ex:=EX) F33 Fo (bu (cL D26 (cR BW (ay))) (ay) bO bN bM bL aP hbl) (jb (ar (Pr:=nP l.prog w K mg base 8) (Q26.mono (by decide)) (ar (Pr:=nP l.prog w K mg base 8) (KD.mono (by decide)) (ay)))) hmg (hEI _ _ (by decide)) tj,QX X G a33,k33,b33,by decide +kernel⟩
 have D33:dv l.prog w K mg base 9 "turn_of" qg:=ci F33 Fo (QX X G a33) b33 (by decide +kernel) (bu (cL D26 (cR BW (ay))) (ay) bO bN bM bL aP hbl) dN.self
 have D47:dv l.prog w K mg base 10 "_law_refused" fg:=x8 (DM (pre:=(am (ak 47)).take 1) (tb:=EG ((am (ak 47)).getD 1 (.Pass ⟨0,0,0,0⟩))) (post:=(am (ak 47)).drop 2) (Ψ:=lG) (Ex:=EX) F47 LK (bu (cL D43 (cL D26 (cL D33 (ay)))) (ay) bO bN bM bL aP hbl) (jb (ar (Pr:=nP l.prog w K mg base 9) (Q26.mono (by decide)) (ar (Pr:=nP l.prog w K mg base 9) (Q33.mono (by decide)) (ay)))) hmg hEx rfl rfl (by decide +kernel) rfl rfl (by decide +kernel) (by decide +kernel) (by decide +kernel) gD v1 oW) (QX X G a47) k47 yH (by decide +kernel)
 have D36:dv l.prog w K mg base 3 "_law_whole" kG:=ci F36 LV (QX X G a36) b36 (by decide +kernel) (bu (ay) (ay) bO bN bM bL aP hbl) dN.self
 have D37:dv l.prog w K mg base 4 "_law_tuple" qh:=ci F37 LU (QX X G a37) b37 (by decide +kernel) (bu (cL D36 (ay)) (ay) bO bN bM bL aP hbl) dN.self
 exact DO F48 LJ (bu (cL D45 (cL D46 (cL D24 (cL D26 (cL D23 (cL D21 (cL D47 (cL D37 (cL D36 (ay)))))))))) (ay) bO bN bM bL aP hbl) AL
theorem walkX{q:Program}{r:W.RowW}{d:DefRec}{kwd:List (Str×Expr)}{run:Value->List Value->Sem Value}{K:Params->W.Frag}{as:List Addr}{t:Nat}
  (e:∀P,as=(K P).map (·.1)) (h:W.WalkO q loose XP (W.InK K) r d kwd run):W.WalkX q loose XP (W.X.obsZ as) (W.X.valZ K n t) r d kwd run :=
 fun w _ _ mg mb G y a o pm cd doc dV kV h1 h2 h3 h4 h5 h6 args vals as' L =>
  h w _ _ mg mb G (W.InK.keeps w _ _ (W.X.z_facts e y).2.1 L.keeps) a o pm cd doc dV kV h1 h2 h3 h4 h5 h6 args vals as'
theorem walk{l:W.OpenLaw}{q:Program}{YP:World->Heap->Prop}{d:DefRec}{K:Params->W.Frag}(hn:l.most=some 63)(hdf:d.params.defaults=[])
  (hY:∀(w:World) (h:Heap),YP w h->(K w.params).In h)
  (F:∀(w:World) (mg:Str->Option Value) (fa:Addr) (h:Heap),(K w.params).In h->h.Ns mainGlobals mg->mg d.name=some (.ref fa) ->
   ∃fd:FuncData,(∀(s:Shared) (u:Value),BindsTo s fd ⟨[u],[]⟩ [("_law_script", u)])/\∀base:Heap,(K w.params).In base->base.Ns mainGlobals mg->br l.prog w (K w.params) mg base cz 11 fa fd ["_law_script"] (ja (K w.params) nN)) :
  W.WalkO q loose XP YP l.row.toRowW d [] (fun f vs=>PySem.call f vs) :=
 L2.walk_ofB (n:=63) (k:=11) (x := "_law_script") (CX:=fun _=>cz) (sp:=fun w=>ja (K w.params) nN) hn (by decide) hdf ⟨rfl,by decide,by decide,rfl⟩ hY F (fun _ _ a ns hl hb hO hS=>GW hO hS (zP ns hl hb)) fun _ _ _ _ _ z=>z
end K
namespace PySem.W.Fast
theorem tw2386160777062414587:True:=.intro
theorem tw1524429878558979259:True:=.intro
theorem tw12164591391409010729:True:=.intro
theorem tw17052823378937618899:True:=.intro
theorem tw17158076367784119559:True:=.intro
theorem tw18272765800510313691:True:=.intro
theorem tw13302825588533548343:True:=.intro
theorem tw18119745444761816829:True:=.intro
theorem tw14265934621060975281:True:=.intro
theorem tw9338691066514483816:True:=.intro
theorem tw11710633402072295437:True:=.intro
theorem tw3821630371151353945:True:=.intro
theorem tw16326250970706592319:True:=.intro
theorem tw18030984998335019255:True:=.intro
theorem tw3655015600386570923:True:=.intro
theorem tw10482530211497061827:True:=.intro
theorem tw2094297566046366114:True:=.intro
theorem tw851323785009867740:True:=.intro
theorem tw8131753067665964608:True:=.intro
theorem tw13708252402345869137:True:=.intro
theorem tw12674214075356562214:True:=.intro
theorem tw3793007520018324759:True:=.intro
theorem tw4229396345049376093:True:=.intro
theorem tw9448860085428640197:True:=.intro
theorem tw16150445590682660599:True:=.intro
theorem tw7562494729417028767:True:=.intro
theorem tw18067657702461080796:True:=.intro
theorem tw10815045427591871447:True:=.intro
theorem tw7162834510256450120:True:=.intro
theorem tw5182124213573748178:True:=.intro
theorem tw2480611765348968205:True:=.intro
theorem tw13508505736642519993:True:=.intro
theorem tw1022010233949278343:True:=.intro
theorem tw13976565755949401255:True:=.intro
theorem tw17255739489603940341:True:=.intro
theorem tw11660740597074659336:True:=.intro
theorem tw9667967280085964788:True:=.intro
theorem tw7905795677121254152:True:=.intro
theorem tw2902042314630412373:True:=.intro
theorem tw12373539013362714064:True:=.intro
theorem tw11291887610857026853:True:=.intro
theorem tw14805005823216242383:True:=.intro
theorem tw897112658394802388:True:=.intro
theorem tw1697036905046582620:True:=.intro
theorem tw1627185806019742495:True:=.intro
theorem tw11409333448997828081:True:=.intro
theorem tw4176478915430988509:True:=.intro
theorem tw17392292394141285421:True:=.intro
theorem tw10517552871959143084:True:=.intro
theorem tw7996625018672401370:True:=.intro
theorem tw7140512132473218056:True:=.intro
theorem tw8954697391950096860:True:=.intro
theorem tw2555100070033441384:True:=.intro
theorem tw3188123711570394702:True:=.intro
theorem tw10230391771127612313:True:=.intro
theorem tw10892890185509608114:True:=.intro
theorem tw6888745976149963581:True:=.intro
theorem tw7997530015747001491:True:=.intro
theorem tw5182757824712007278:True:=.intro
theorem tw7552186078978124578:True:=.intro
theorem tw5089525044000764629:True:=.intro
theorem tw10592754202927292489:True:=.intro
theorem tw14989122385161336197:True:=.intro
theorem tw9715214854119190106:True:=.intro
theorem tw2388980311125303710:True:=.intro
theorem tw12892312222273351288:True:=.intro
theorem tw10412357716297034793:True:=.intro
theorem tw6513296842551783579:True:=.intro
theorem tw11693456601749489443:True:=.intro
theorem tw2565958595577079968:True:=.intro
theorem tw12852752286682404780:True:=.intro
theorem tw18030858596556569527:True:=.intro
theorem tw7276873682679628475:True:=.intro
theorem tw4904106767593036181:True:=.intro
theorem tw187618194065413618:True:=.intro
theorem tw10308289100043064548:True:=.intro
theorem tw7098060343643509102:True:=.intro
theorem tw17931816751437484936:True:=.intro
theorem tw2174093147271965245:True:=.intro
theorem tw3699934257526304707:True:=.intro
theorem tw8370706852913550756:True:=.intro
theorem tw9154028592955489504:True:=.intro
theorem tw866139671910127949:True:=.intro
theorem tw16174340249144239107:True:=.intro
theorem tw12248714022277754289:True:=.intro
theorem tw18056134890668069085:True:=.intro
theorem tw2395950096922911928:True:=.intro
theorem tw3759972961304742451:True:=.intro
theorem tw4670998043762925659:True:=.intro
theorem tw5931243271811190824:True:=.intro
theorem tw15925649288499373303:True:=.intro
theorem tw10673143564374419666:True:=.intro
theorem tw8285276364253818277:True:=.intro
theorem tw11234014305257025038:True:=.intro
theorem tw10721261605423351498:True:=.intro
theorem tw7894037087427730106:True:=.intro
theorem tw13325779132718875211:True:=.intro
theorem tw10681443458923028040:True:=.intro
theorem tw13994810403341519469:True:=.intro
theorem tw11963277532796593746:True:=.intro
theorem tw2683817026853142739:True:=.intro
theorem tw5781289703035066075:True:=.intro
theorem tw1925409934560729815:True:=.intro
theorem tw9079593326426255992:True:=.intro
theorem tw17329650922541000850:True:=.intro
theorem tw13563931098310750883:True:=.intro
theorem tw6950930548088576329:True:=.intro
theorem tw5347781186997196409:True:=.intro
theorem tw6021015762911302038:True:=.intro
theorem tw14501029072590005138:True:=.intro
theorem tw5591431101768487105:True:=.intro
theorem tw14281717707741789778:True:=.intro
theorem tw15101179687146577474:True:=.intro
theorem tw134065839906910612:True:=.intro
theorem tw4083890935426433647:True:=.intro
theorem tw11001999062685142926:True:=.intro
theorem tw3772169113960524704:True:=.intro
theorem tw7451576195016636027:True:=.intro
theorem tw3792653597140681168:True:=.intro
theorem tw14134970409549273337:True:=.intro
theorem tw7705590466974452565:True:=.intro
theorem tw15362114996606617784:True:=.intro
theorem tw14091159741340543666:True:=.intro
theorem tw7465843675200556876:True:=.intro
theorem tw9124167994804762746:True:=.intro
theorem tw202102278124089420:True:=.intro
theorem tw14618152178386155614:True:=.intro
theorem tw8697844355399354471:True:=.intro
theorem tw8215567219298863285:True:=.intro
theorem tw13323405449596530020:True:=.intro
theorem tw18247445120357189809:True:=.intro
theorem tw4422578026228764125:True:=.intro
theorem tw9043721435471020976:True:=.intro
theorem tw14944682058477955998:True:=.intro
theorem tw1874428287596379728:True:=.intro
theorem tw18205163418128485178:True:=.intro
theorem tw6748067449997631806:True:=.intro
theorem tw6004705785403415691:True:=.intro
theorem tw98346994635297837:True:=.intro
theorem tw17910242146621321705:True:=.intro
theorem tw7758812472082118737:True:=.intro
theorem tw11911068638081053327:True:=.intro
theorem tw16013776098420906684:True:=.intro
theorem tw8805229614864732964:True:=.intro
theorem tw4079484027755906488:True:=.intro
theorem tw423451604870102939:True:=.intro
theorem tw10091644579800652003:True:=.intro
theorem tw1466533826199905689:True:=.intro
theorem tw11459967788962339500:True:=.intro
theorem tw8279864895709721663:True:=.intro
theorem tw15467112390063549705:True:=.intro
theorem tw8072695934658910663:True:=.intro
theorem tw5044216319131430270:True:=.intro
theorem tw6491235007868985915:True:=.intro
theorem tw7103649108022484128:True:=.intro
theorem tw4749253350008549683:True:=.intro
theorem tw6178765757006499001:True:=.intro
theorem tw2526479093117503525:True:=.intro
theorem tw16405319286759225261:True:=.intro
theorem tw4270439573574329665:True:=.intro
theorem tw17358847366832429110:True:=.intro
theorem tw4758332127606869364:True:=.intro
theorem tw4775456440253813360:True:=.intro
theorem tw9028185083813411356:True:=.intro
theorem tw4763563676437689438:True:=.intro
theorem tw9665732114952978964:True:=.intro
theorem tw3775678191198921255:True:=.intro
theorem tw4435546815907496508:True:=.intro
theorem tw9066249853686666780:True:=.intro
theorem tw8904567964437368662:True:=.intro
theorem tw1673852289590061334:True:=.intro
theorem tw12790782486267804038:True:=.intro
theorem tw2737529905747192458:True:=.intro
theorem tw10325778458028211075:True:=.intro
theorem tw15845239110847275465:True:=.intro
theorem tw220964604169323191:True:=.intro
theorem tw13282431136058972784:True:=.intro
theorem tw5345861414664625695:True:=.intro
theorem tw177974825944097895:True:=.intro
theorem tw9608566939514093522:True:=.intro
theorem tw1298873340241174540:True:=.intro
theorem tw15284581754870975851:True:=.intro
theorem tw17454851061262422742:True:=.intro
theorem tw13953963152031610590:True:=.intro
theorem tw541812661803426385:True:=.intro
theorem tw1741774434280193658:True:=.intro
theorem tw11790620976650476722:True:=.intro
theorem tw11467013567555486959:True:=.intro
theorem tw861689373510881986:True:=.intro
theorem tw11788115081921875463:True:=.intro
theorem tw1388479651762267688:True:=.intro
theorem tw8555225304895931280:True:=.intro
theorem tw17797450584424139673:True:=.intro
theorem tw10806724328809040722:True:=.intro
theorem tw9478200989089797434:True:=.intro
theorem tw10400290403258355087:True:=.intro
theorem tw14124647671850193553:True:=.intro
theorem tw15048995030564775444:True:=.intro
theorem tw12020980619649012511:True:=.intro
theorem tw10690490847357587025:True:=.intro
theorem tw10154976314511633247:True:=.intro
theorem tw11802224384389525137:True:=.intro
theorem tw15570237548830431352:True:=.intro
theorem tw17536230549694150940:True:=.intro
theorem tw1199827522962189051:True:=.intro
theorem tw7560793342392960460:True:=.intro
theorem tw9668962075155627206:True:=.intro
theorem tw713903570366715948:True:=.intro
theorem tw11089442209195183801:True:=.intro
theorem tw9764100116307516548:True:=.intro
theorem tw9814456635165481279:True:=.intro
theorem tw15600100781438085127:True:=.intro
theorem tw12718688105369473373:True:=.intro
theorem tw123994238695983761:True:=.intro
theorem tw9954401340833709930:True:=.intro
theorem tw10819907218352754964:True:=.intro
theorem tw3131251036466609136:True:=.intro
theorem tw10297794309609368932:True:=.intro
theorem tw16696766824308416421:True:=.intro
theorem tw15055732686353854507:True:=.intro
theorem tw2920419792064711614:True:=.intro
theorem tw7318920093450369926:True:=.intro
theorem tw2121164293785701461:True:=.intro
theorem tw15018190013338423829:True:=.intro
theorem tw17536946354328877262:True:=.intro
theorem tw10093217066540600569:True:=.intro
theorem tw16955214594268462356:True:=.intro
theorem tw844468429068464876:True:=.intro
theorem tw819915961451089482:True:=.intro
theorem tw8730875015011971949:True:=.intro
theorem tw2666975990295181786:True:=.intro
theorem tw5771504840812361204:True:=.intro
theorem tw14773454664410664712:True:=.intro
theorem tw3098370858255995442:True:=.intro
theorem tw17643142358101102622:True:=.intro
theorem tw11032628925703246841:True:=.intro
theorem tw920121807724019703:True:=.intro
theorem tw10681131450005546555:True:=.intro
theorem tw2343037113576293329:True:=.intro
theorem tw10092537830036997264:True:=.intro
theorem tw6620763146973131840:True:=.intro
theorem tw14515701438789896379:True:=.intro
theorem tw15204007127988103780:True:=.intro
theorem tw13217972538111052855:True:=.intro
theorem tw16454300471469792512:True:=.intro
theorem tw11134801068078271936:True:=.intro
theorem tw15069188969588898870:True:=.intro
theorem tw16622177410343690794:True:=.intro
theorem tw10579914072151326995:True:=.intro
theorem tw3424608669278085767:True:=.intro
theorem tw2812199028281336655:True:=.intro
theorem tw12582439246241590789:True:=.intro
theorem tw9115733296232896497:True:=.intro
theorem tw6939363359587479158:True:=.intro
theorem tw11849785640164218334:True:=.intro
theorem tw2213988130392876976:True:=.intro
theorem tw8275498391603578339:True:=.intro
theorem tw1054770455765818494:True:=.intro
theorem tw15403978002594497123:True:=.intro
theorem tw2389987775714166862:True:=.intro
theorem tw10867859410395480745:True:=.intro
theorem tw16821055132962247050:True:=.intro
theorem tw17099256277925046924:True:=.intro
theorem tw10920327791100821638:True:=.intro
theorem tw13849683756957314802:True:=.intro
theorem tw5943876098543495379:True:=.intro
theorem tw17039528092125011116:True:=.intro
theorem tw5372643910029467035:True:=.intro
theorem tw7510909094150257479:True:=.intro
theorem tw7665639632081085557:True:=.intro
theorem tw12511408784706184809:True:=.intro
theorem tw4923061594043132790:True:=.intro
theorem tw14758159490272700442:True:=.intro
theorem tw9313958353080801633:True:=.intro
theorem tw9014504849639007446:True:=.intro
theorem tw17867448137689302126:True:=.intro
theorem tw13172711132927038894:True:=.intro
end PySem.W.Fast
namespace PySem.W.Fast
end PySem.W.Fast
open PySem PySem.W PyProof.Rows
set_option maxRecDepth 100000 in
set_option maxHeartbeats 0 in
theorem PySem.Challenge.cw_spaceturns_k34_what_is_no_turn_holds : PySem.Challenge.rw_spaceturns_k34_what_is_no_turn.Holds := by
 w_on;o_law;z_head;(case hw=>w_witness2)
 k_fill
 refine K.walkX (fun _=>rfl) (K.walk (l:=PySem.Challenge.rw_spaceturns_k34_what_is_no_turn) rfl rfl (fun w h Y=>Y) ?F)
 case F =>
  intro w mg fa h KX G hmg
  refine' K.all_mk KX G hmg ?_ ?_ ?_ ?_ ?_ ?_ ?_ ?_ ?_ ?_ ?_ ?_ ?_ ?_ ?_ ?_ ?_ ?_ ?_ ?_ ?_ ?_ ?_ ?_ ?_ ?_ ?_ ?_ ?_ ?_ ?_ ?_ ?_ ?_ ?_ ?_ ?_ ?_ ?_ ?_ ?_ ?_ ?_ ?_ ?_ ?_ ?_ ?_ ?_ ?_ ?_ ?_ ?_ ?_ ?_ ?_ ?_ ?_ ?_ ?_ ?_ ?_ ?_ ?_ ?_ ?_ ?_ ?_ ?_ ?_ ?_ ?_ ?_ ?_ ?_ ?_ ?_ ?_ ?_ ?_ ?_ ?_ ?_ ?_ ?_ ?_ ?_ ?_ ?_ ?_ ?_ ?_ ?_ ?_ ?_ ?_ ?_ ?_ ?_ ?_ ?_ ?_ ?_ ?_ ?_ ?_ ?_ ?_ ?_ ?_ ?_ ?_ ?_ ?_ ?_ ?_ ?_ ?_ ?_ ?_ ?_ ?_ ?_ ?_ ?_ ?_ ?_ ?_ ?_ ?_ ?_ ?_ ?_ ?_ ?_ ?_ ?_ ?_ ?_ ?_ ?_ ?_ ?_ ?_ ?_ ?_ ?_ ?_ ?_ ?_ ?_ ?_ ?_ ?_ ?_ ?_ ?_ ?_ ?_ ?_ ?_ ?_ ?_ ?_ ?_ ?_ ?_ ?_ ?_ ?_ ?_ ?_ ?_ ?_ ?_ ?_ ?_ ?_ ?_ ?_ ?_ ?_ ?_ ?_ ?_ ?_ ?_ ?_ ?_ ?_ ?_ ?_ ?_ ?_ ?_ ?_ ?_ ?_ ?_ ?_ ?_ ?_ ?_ ?_ ?_ ?_ ?_ ?_ ?_ ?_ ?_ ?_ ?_ ?_ ?_ ?_
  all_goals try first|k_is|kernel_rfl
