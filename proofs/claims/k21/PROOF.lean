import PyProof.Rows.All
import Wide.All
import OpenK.AllK
import Wide.FinOn
import Lean
import PyProof.EqAt
import PyProof.EqKinds
import PyProof.TupleCall
import PySem.Challenge.RW_spaceturns_k21_orders_refused
set_option Elab.async false
set_option linter.all false
set_option maxRecDepth 100000
local macro_rules|`(tactic|decide)=>`(tactic|decide +kernel)
theorem U8:type_of%@PySem.wpAny_bind:=@PySem.wpAny_bind
theorem U9:type_of%@PySem.Heap.get?_push_of_some:=@PySem.Heap.get?_push_of_some
theorem Va:type_of%@PySem.wpAny_pure:=@PySem.wpAny_pure
theorem Vb:type_of%@List.mem_cons_self:=@List.mem_cons_self
theorem Vc:type_of%@List.mem_cons_of_mem:=@List.mem_cons_of_mem
theorem Vd:type_of%@PySem.Heap.lt_size:=@PySem.Heap.lt_size
theorem Ve:type_of%@List.mem_cons:=@List.mem_cons
theorem Vf:type_of%@Nat.le_refl:=@Nat.le_refl
theorem Vg:type_of%@PySem.Heap.get?_push_size:=@PySem.Heap.get?_push_size
theorem Vh:type_of%@decide_eq_false:=@decide_eq_false
theorem Vi:type_of%@List.length_map:=@List.length_map
theorem Vj:type_of%@Nat.lt_of_lt_of_le:=@Nat.lt_of_lt_of_le
theorem Vk:type_of%@Bool.and_eq_true:=@Bool.and_eq_true
theorem Vl:type_of%@Nat.le_trans:=@Nat.le_trans
theorem Vm:type_of%@Nat.zero_le:=@Nat.zero_le
theorem Vn:type_of%@List.lookup_cons:=@List.lookup_cons
theorem Vo:type_of%@List.size_toArray:=@List.size_toArray
theorem Vp:type_of%@Bool.false_ne_true:=@Bool.false_ne_true
theorem Vq:type_of%@PySem.Heap.get?_update_other:=@PySem.Heap.get?_update_other
theorem Vr:type_of%@PySem.W.mg_of:=@PySem.W.mg_of
theorem Vs:type_of%@PySem.mem_of_lookup:=@PySem.mem_of_lookup
theorem Vt:type_of%@decide_eq_true:=@decide_eq_true
theorem Vu:type_of%@List.getElem?_eq_some_iff:=@List.getElem?_eq_some_iff
theorem Vv:type_of%@Nat.ne_of_lt:=@Nat.ne_of_lt
theorem Vw:type_of%@List.length_append:=@List.length_append
theorem Vx:type_of%@List.map_cons:=@List.map_cons
theorem Vy:type_of%@Nat.lt_succ_self:=@Nat.lt_succ_self
theorem Vz:type_of%@Int.mul_le_mul_of_nonneg_left:=@Int.mul_le_mul_of_nonneg_left
theorem VA:type_of%@Option.some.inj:=@Option.some.inj
theorem VB:type_of%@List.getElem?_eq_getElem:=@List.getElem?_eq_getElem
theorem VC:type_of%@PySem.wpAny_field:=@PySem.wpAny_field
theorem VD:type_of%@List.mem_append_right:=@List.mem_append_right
theorem VE:type_of%@Nat.lt_of_le_of_lt:=@Nat.lt_of_le_of_lt
theorem VF:type_of%@List.not_mem_nil:=@List.not_mem_nil
theorem VG:type_of%@PyProof.Rows.callWith_type1:=@PyProof.Rows.callWith_type1
theorem VH:type_of%@PySem.Heap.size_push:=@PySem.Heap.size_push
theorem VI:type_of%@Int.fmod_nonneg_of_pos:=@Int.fmod_nonneg_of_pos
theorem VJ:type_of%@Nat.pow_le_pow_right:=@Nat.pow_le_pow_right
theorem VL:type_of%@Int.fdiv_eq_ediv_of_nonneg:=@Int.fdiv_eq_ediv_of_nonneg
theorem VM:type_of%@List.length_cons:=@List.length_cons
theorem VN:type_of%@PySem.W.mg_none_of:=@PySem.W.mg_none_of
theorem VO:type_of%@PySem.wpAny_holding:=@PySem.wpAny_holding
theorem VP:type_of%@Nat.ne_of_gt:=@Nat.ne_of_gt
theorem VQ:type_of%@PySem.wpAny_Call_Name_kw:=@PySem.wpAny_Call_Name_kw
theorem VR:type_of%@Int.fmod_lt_of_pos:=@Int.fmod_lt_of_pos
theorem VS:type_of%@PySem.wpAny_loadPart':=@PySem.wpAny_loadPart'
theorem VT:type_of%@List.length_set:=@List.length_set
theorem VU:type_of%@Nat.lt_irrefl:=@Nat.lt_irrefl
theorem VV:type_of%@PySem.wpAny_callSpecial?_slot:=@PySem.wpAny_callSpecial?_slot
theorem VW:type_of%@of_decide_eq_true:=@of_decide_eq_true
theorem VX:type_of%@PySem.wpAny_mono:=@PySem.wpAny_mono
theorem VY:type_of%@Nat.pow_lt_pow_right:=@Nat.pow_lt_pow_right
theorem VZ:type_of%@List.append_nil:=@List.append_nil
theorem V0:type_of%@congrArg:=@congrArg
theorem V1:type_of%@PySem.Str.empty_append:=@PySem.Str.empty_append
theorem V2:type_of%@Ne.symm:=@Ne.symm
theorem V3:type_of%@PySem.Heap.get?_update_self:=@PySem.Heap.get?_update_self
theorem V4:type_of%@PySem.wpAny_pyIter_tuple:=@PySem.wpAny_pyIter_tuple
theorem V5:type_of%@PySem.W.kia_one:=@PySem.W.kia_one
theorem V6:type_of%@List.find?_cons:=@List.find?_cons
theorem V7:type_of%@Nat.not_lt_zero:=@Nat.not_lt_zero
theorem V8:type_of%@PySem.wpAny_setField_rec:=@PySem.wpAny_setField_rec
theorem V9:type_of%@List.getElem?_map:=@List.getElem?_map
theorem Wa:type_of%@PySem.F.slot_enumerate_next:=@PySem.F.slot_enumerate_next
theorem Wb:type_of%@Int.mul_comm:=@Int.mul_comm
theorem Wc:type_of%@List.map_append:=@List.map_append
theorem Wd:type_of%@PySem.F.attrBase_ValueError:=@PySem.F.attrBase_ValueError
theorem We:type_of%@Nat.eq_zero_or_pos:=@Nat.eq_zero_or_pos
theorem Wf:type_of%@List.getElem?_set_ne:=@List.getElem?_set_ne
theorem Wg:type_of%@PySem.wpAny_call_entry:=@PySem.wpAny_call_entry
theorem Wh:type_of%@List.mem_map:=@List.mem_map
theorem Wi:type_of%@Int.fmod_eq_emod_of_nonneg:=@Int.fmod_eq_emod_of_nonneg
theorem Wj:type_of%@PySem.SeqAt.canLay_of_shaped:=@PySem.SeqAt.canLay_of_shaped
theorem Wl:type_of%@PySem.wpAny_truthy_bool:=@PySem.wpAny_truthy_bool
theorem Wm:type_of%@PySem.wpAny_newObj_type:=@PySem.wpAny_newObj_type
theorem Wn:type_of%@PySem.wpAny_pyIter_list:=@PySem.wpAny_pyIter_list
theorem Wo:type_of%@PySem.Str.length_append:=@PySem.Str.length_append
theorem Wp:type_of%@PySem.wpAny_ite_false:=@PySem.wpAny_ite_false
theorem Wq:type_of%@Nat.le_of_ble_eq_true:=@Nat.le_of_ble_eq_true
theorem Wr:type_of%@List.length_take:=@List.length_take
theorem Ws:type_of%@or_false:=@or_false
theorem Wt:type_of%@Nat.le_add_right:=@Nat.le_add_right
theorem Wu:type_of%@PySem.W.Looks.at:=@PySem.W.Looks.at
theorem Wv:type_of%@PySem.wpAny_loadPart_at:=@PySem.wpAny_loadPart_at
theorem Ww:type_of%@List.filterMap_cons:=@List.filterMap_cons
theorem Wx:type_of%@List.getElem?_set_self:=@List.getElem?_set_self
theorem Wy:type_of%@Nat.lt_or_ge:=@Nat.lt_or_ge
theorem Wz:type_of%@Array.getElem?_eq_none:=@Array.getElem?_eq_none
theorem WA:type_of%@List.take_of_length_le:=@List.take_of_length_le
theorem WB:type_of%@Nat.pow_add:=@Nat.pow_add
theorem WC:type_of%@Int.mul_assoc:=@Int.mul_assoc
theorem WD:type_of%@List.all_eq_true:=@List.all_eq_true
theorem WE:type_of%@PySem.wpAny_seqItems:=@PySem.wpAny_seqItems
theorem WF:type_of%@List.mem_singleton:=@List.mem_singleton
theorem WG:type_of%@PySem.sizeLine_eq:=@PySem.sizeLine_eq
theorem WH:type_of%@Int.mul_sub:=@Int.mul_sub
theorem WI:type_of%@List.mem_of_getElem?:=@List.mem_of_getElem?
theorem WJ:type_of%@Int.le_trans:=@Int.le_trans
theorem WK:type_of%@PySem.wpAny_attempt:=@PySem.wpAny_attempt
theorem WL:type_of%@Int.eq_ofNat_of_zero_le:=@Int.eq_ofNat_of_zero_le
theorem WM:type_of%@beq_eq_false_iff_ne:=@beq_eq_false_iff_ne
theorem WN:type_of%@List.length_drop:=@List.length_drop
theorem WO:type_of%@PySem.wpAny_call:=@PySem.wpAny_call
theorem WP:type_of%@PySem.Obj.data_mapFields:=@PySem.Obj.data_mapFields
theorem WQ:type_of%@Bool.false_eq_true:=@Bool.false_eq_true
theorem WR:type_of%@PySem.wpAny_passesOwn:=@PySem.wpAny_passesOwn
theorem WS:type_of%@List.take_append_drop:=@List.take_append_drop
theorem WT:type_of%@Int.add_mul_ediv_left:=@Int.add_mul_ediv_left
theorem WU:type_of%@PySem.wpAny_standAt:=@PySem.wpAny_standAt
theorem WV:type_of%@List.append_assoc:=@List.append_assoc
theorem WW:type_of%@PySem.Heap.get?_none_of_le:=@PySem.Heap.get?_none_of_le
theorem WX:type_of%@Nat.le_succ:=@Nat.le_succ
theorem WY:type_of%@if_true:=@if_true
theorem WZ:type_of%@List.length_reverse:=@List.length_reverse
theorem W0:type_of%@PySem.wpAny_execs_nil:=@PySem.wpAny_execs_nil
theorem W3:type_of%@List.length_nil:=@List.length_nil
theorem W4:type_of%@List.forIn_cons:=@List.forIn_cons
theorem W5:type_of%@List.getElem_idxOf:=@List.getElem_idxOf
theorem W6:type_of%@PySem.PassesOwn.never:=@PySem.PassesOwn.never
theorem W7:type_of%@Nat.one_le_two_pow:=@Nat.one_le_two_pow
theorem W8:type_of%@List.pairwise_cons:=@List.pairwise_cons
theorem W9:type_of%@Int.sub_mul:=@Int.sub_mul
theorem Xa:type_of%@List.reverse_cons:=@List.reverse_cons
theorem Xb:type_of%@List.length_range:=@List.length_range
theorem Xc:type_of%@PySem.codeAny_mono:=@PySem.codeAny_mono
theorem Xe:type_of%@PySem.wpAny_setField:=@PySem.wpAny_setField
theorem Xf:type_of%@Int.mul_nonneg:=@Int.mul_nonneg
theorem Xg:type_of%@Int.ofNat_le:=@Int.ofNat_le
theorem Xh:type_of%@List.any_cons:=@List.any_cons
theorem Xi:type_of%@List.mem_filter:=@List.mem_filter
theorem Xj:type_of%@List.mem_append:=@List.mem_append
theorem Xk:type_of%@List.nodup_cons:=@List.nodup_cons
theorem Xl:type_of%@Int.mul_eq_zero:=@Int.mul_eq_zero
theorem Xm:type_of%@Nat.le_of_lt:=@Nat.le_of_lt
theorem Xn:type_of%@if_false:=@if_false
theorem Xp:type_of%@List.map_nil:=@List.map_nil
theorem Xq:type_of%@Nat.lt_trans:=@Nat.lt_trans
theorem Xr:type_of%@List.mem_range:=@List.mem_range
theorem Xu:type_of%@Int.mul_one:=@Int.mul_one
theorem Xw:type_of%@Int.one_mul:=@Int.one_mul
namespace L2
open PySem PySem.Spec PyProof.Rows
variable{us:List Value}{C a b dx it:Addr}{P:Program}{w:World}{base h:Heap}{o:Obj}{g':Array GenState}{ch fp:List Addr}{qual x:Str}{N ps:List Str}{i j k n:Nat}{M:Model}{A:Around}{E Q:Value->Shared->Prop}{u:Value}{s s':Shared}{c e l tg:Expr}{α:Type}{pins:List (Addr×Obj)}{p pos pos':Pos}{K:W.Frag}{es:List Expr}{op:Operator}{body:List Stmt}{f:Value->Value->Sem Value}{g:Int->Int->Int}{op':CmpOp}{mA mg:Str->Option Value}{kw:List (Str×Value)}{fd:FuncData}{outer:List Env}{scope:Scope}
abbrev ci:=Sum Int Str
def nU:ci->Value->Bool
 | .inl k,v=>Value.isInt k v
 | .inr x,v=>Value.isStrOf x v
def RK(w:World):ci->Int
 | .inl k=>hashInt k
 | .inr x=>hashStr w x
theorem cQ:∀{k:ci} {v:Value},nU k v=true->(∃i t,k=Sum.inl i/\v=Value.int i t)\/(∃x t,k=Sum.inr x/\v=Value.str x t)
 | .inl i,v,h=>by
  obtain⟨t,e⟩:=Value.isInt_shape (k:=i) (v:=v) h
  exact .inl ⟨i,t,rfl,e⟩
 | .inr x,v,h=>by
  obtain⟨t,e⟩:=Value.isStrOf_shape (x:=x) (v:=v) h
  exact .inr ⟨x,t,rfl,e⟩
theorem A5(i:Int)(t:Tok):nU (.inl i) (.int i t)=true:=by simp[nU,Value.isInt]
theorem A0(x:Str)(t:Tok):nU (.inr x) (.str x t)=true:=by simp[nU,Value.isStrOf]
theorem JN(a b:Int):decide ((Sum.inl a:ci)=Sum.inl b)=(a==b):=by
 by_cases e:a=b
 ·subst e;simp
 ·have h:¬ (Sum.inl a:ci)=Sum.inl b:=fun q=>e (Sum.inl.inj q)
  rw[Vh h]
  exact(WM.mpr e).symm
theorem JK(a b:Str):decide ((Sum.inr a:ci)=Sum.inr b)=decide (a=b):=by
 by_cases e:a=b
 ·subst e;simp
 ·have h:¬ (Sum.inr a:ci)=Sum.inr b:=fun q=>e (Sum.inr.inj q)
  rw[Vh h,Vh e]
theorem JM(a:Int)(b:Str):decide ((Sum.inl a:ci)=Sum.inr b)=false:=Vh (fun q=>nomatch q)
theorem JL(a:Str)(b:Int):decide ((Sum.inr a:ci)=Sum.inl b)=false:=Vh (fun q=>nomatch q)
def gE(prog:Program)(w:World):PySem.KeyKind prog w ci where
 is:=nU
 hash:=RK w
 inj:=fun v a b ha hb=>by
  rcases cQ ha with⟨i,t,rfl,rfl⟩|⟨x,t,rfl,rfl⟩
  ·rcases cQ hb with⟨j,u,rfl,e⟩|⟨y,u,rfl,e⟩
   ·injection e with e1 _;rw[e1]
   ·exact nomatch e
  ·rcases cQ hb with⟨j,u,rfl,e⟩|⟨y,u,rfl,e⟩
   ·exact nomatch e
   ·injection e with e1 _;rw[e1]
 byValue:=fun k v h=>by
  rcases cQ h with⟨i,t,rfl,rfl⟩|⟨x,t,rfl,rfl⟩<;>rfl
 pyHash:=fun hv h=>by
  rcases cQ hv with⟨i,t,rfl,rfl⟩|⟨x,t,rfl,rfl⟩
  ·exact wpAny_pyHash_int h
  ·exact wpAny_pyHash_str h
 eqBool:=fun hu hv h=>by
  rcases cQ hu with⟨i,t,rfl,rfl⟩|⟨x,t,rfl,rfl⟩
  ·rcases cQ hv with⟨j,u,rfl,rfl⟩|⟨y,u,rfl,rfl⟩
   ·rw[JN]at h;exact wpAny_eqBool_int h
   ·rw[JM]at h;exact SeqAt.EqAt.int_str i t y u _ _ _ _ h
  ·rcases cQ hv with⟨j,u,rfl,rfl⟩|⟨y,u,rfl,rfl⟩
   ·rw[JL]at h;exact SeqAt.EqAt.str_int x t j u _ _ _ _ h
   ·rw[JK]at h;exact wpAny_eqBool_str h
 «strs» := fun k x t v h=>by
  rcases cQ h with⟨i,u,rfl,e⟩|⟨y,u,rfl,e⟩
  ·exact nomatch e
  ·injection e with e1 _
   subst e1
   cases v<;>rfl
theorem wa(prog:Program)(w:World)(i:Int)(t:Tok):(gE prog w).is (.inl i) (.int i t)=true:=A5 i t
theorem v9(prog:Program)(w:World)(x:Str)(t:Tok):(gE prog w).is (.inr x) (.str x t)=true:=A0 x t
inductive V where
 | non|bl (b:Bool)|int (i:Int)|str (x:Str)|byt (b:Array UInt8)|flt (b:UInt64)|ref (a:Addr)|ty (n:String)
 deriving DecidableEq
def aX:V->Value->Prop
 | .non,u=>u=Value.none
 | .bl b,u=>u=Value.bool b
 | .int i,u => ∃t,u=Value.int i t
 | .str x,u => ∃t,u=Value.str x t
 | .byt b,u => ∃t,u=Value.bytes b t
 | .flt b,u => ∃t,u=Value.float b t
 | .ref a,u=>u=Value.ref a
 | .ty n,u=>u=Value.type n
abbrev aP:List V->List Value->Prop:=Paired aX
theorem aP.length{xs:List V}(r:aP xs us):xs.length=us.length:=Paired.length r
theorem aP.get:∀{xs:List V} {us:List Value} {i:Nat} {x:V},aP xs us->xs[i]?=some x->∃u,us[i]?=some u/\aX x u
 | _,_,_,_,.nil,e=>by simp at e
 | _,_,0,_,.cons r _,e=>by simp at e;subst e;exact⟨_,rfl,r⟩
 | _,_,i+1,x,.cons _ t,e=>by
  obtain⟨u,h1,h2⟩:=aP.get (i:=i) (x:=x) t (by simpa using e)
  exact⟨u,by simpa using h1,h2⟩
theorem aP.set{x:V}{u:Value}(r:aX x u):∀{xs:List V} {us:List Value} (i:Nat),aP xs us->aP (xs.set i x) (us.set i u)
 | _,_,_,.nil=>.nil
 | _,_,0,.cons _ t=>.cons r t
 | _,_,i+1,.cons q t=>.cons q (aP.set r i t)
theorem aP.append:∀{xs ys:List V} {us ws:List Value},aP xs us->aP ys ws->aP (xs++ys) (us++ws)
 | _,_,_,_,.nil,s=>s
 | _,_,_,_,.cons r t,s=>.cons r (aP.append t s)
theorem aP.take:∀{xs:List V} {us:List Value} (n:Nat),aP xs us->aP (xs.take n) (us.take n)
 | _,_,0,_=>.nil
 | _,_,_+1,.nil=>.nil
 | _,_,n+1,.cons r t=>.cons r (aP.take n t)
theorem aP.drop:∀{xs:List V} {us:List Value} (n:Nat),aP xs us->aP (xs.drop n) (us.drop n)
 | _,_,0,r=>r
 | _,_,_+1,.nil=>.nil
 | _,_,n+1,.cons _ t=>aP.drop n t
def gM:Option V->Option Value->Prop
 | some v,some u=>aX v u
 | none,none=>True
 | _,_=>False
def KV{κ:Type}:List (κ×V)->List (κ×Value)->Prop:=Paired fun(p:κ×V) (q:κ×Value)=>p.1=q.1/\aX p.2 q.2
def kV:ci->V
 | .inl i=>.int i
 | .inr x=>.str x
inductive HO where
  | lst (xs:List V)
  | tup (xs:List V)
  | dK (kvs:List (ci×V))|dT (kvs:List (List ci×V))
  | set (S:Int->Bool) (n:Nat)
  | ins (C dx:Addr) (fs:List (Str×V))
  | own (x:Addr)
  | xd (fs:List (Str×V))
  | met (f x:Addr)
  | rng (lo hi:Int)
  | frz (o:Obj) (u:HO)
  | tbl (ps:Array Value)
  | ext (φ:Heap->Prop)
abbrev Hp:=Addr->Option HO
def aH(H:Hp)(a:Addr)(o:HO):Hp:=fun b=>if b=a then some o else H b
theorem aF{H:Hp}{o:HO}:aH H a o a=some o:=by unfold aH;rw[if_pos rfl]
theorem ay{H:Hp}{o:HO}(h:b≠a):aH H a o b=H b:=by unfold aH;rw[if_neg h]
theorem wu{H:Hp}{o u:HO}:aH (aH H a o) a u=aH H a u:=by
 funext b;unfold aH;split<;>rfl
theorem js{H:Hp}{o u:HO}(h:H a=some o)(h':H b=some u)(d:o≠u):a≠b:=by
 intro e;subst e;rw[h]at h';exact d (VA h')
theorem aZ{H:Hp}{o:HO}(h:H a=some o)(h':H b=none):a≠b:=by
 intro e;subst e;rw[h]at h';cases h'
section
variable(P:Program)(w:World)
def bD(H:Hp)(h:Heap)(a:Addr):HO->Prop
  | .lst xs=>xs.length<=sizeLine/\∃(its:List Value) (n:Nat),aP xs its/\h.get? a=some { cls:=.type "list", data:=.seq its.toArray n }
  | .tup xs=>xs.length<=sizeLine/\∃its:List Value,aP xs its/\IsTup h a its.toArray
  | .dK kvs=>kvs.length<=sizeLine/\(a==sysModules)=false/\∃vs,KV kvs vs/\h.DictOf (gE P w) a vs
  | .dT kvs=>kvs.length<=sizeLine/\(a==sysModules)=false/\∃xs:List (List ci×Addr×Value),
      Paired (fun(p:List ci×V) (q:List ci×Addr×Value)=>p.1=q.1/\H q.2.1=some (.tup (p.1.map kV))/\aX p.2 q.2.2) kvs xs /\
      ∃o es ep,h.get? a=some o/\o.ExactDict/\o.data=.dict es ep/\es.toList=xs.map (entryOfKey (tupleKind (gE P w)))/\(xs.map (·.1)).Nodup
  | .set S n=>h.SetOf (intKind P w) a S n
  | .ins C dx fs=>H dx=some (.own a)/\fs.length<=1000/\dx≠a/\h.get? a=some (W.instObj C dx) /\
      ∃mA,h.Ns1 dx mA/\(∀f,gM (fs.lookup f) (mA f))/\PySem.Within mA (fs.map (·.1))
  | .own _ => ∃o,h.get? a=some o
  | .xd fs => ∃mA,h.Ns1 a mA/\∀f,gM (fs.lookup f) (mA f)
  | .rng lo hi => ∃t u v,h.get? a=some { cls:=.type "range", data:=.fields #[.int lo t,.int hi u,.int 1 v] }
  | .frz o u=>h.get? a=some o/\bD H h a u
  | .tbl ps=>h.get? a=some { cls:=.none,data:=.fields ps }
  | .met f x=>h.get? a=some (W.methodObj (.ref f) (.ref x))
  | .ext φ=>φ h/\(∃o,h.get? a=some o)/\∀h1 h2:Heap,φ h1->(∀o,h1.get? a=some o->h2.get? a=some o)->φ h2
def cO(H:Hp)(h:Heap):Prop:=∀a o,H a=some o->bD P w H h a o
end
section
variable{H H':Hp}{h':Heap}{o:HO}
theorem bD.lt(x:bD P w H h a o):a<h.objs.size:=by
 cases o with
 | lst xs=>obtain⟨_,_,_,_,e⟩:=x;exact Vd e
 | tup xs=>obtain⟨_,_,_,p⟩:=x;exact p.lt
 | dK kvs=>obtain⟨_,_,_,_,o,_,_,e,_⟩:=x;exact Vd e
 | dT kvs=>obtain⟨_,_,_,_,o,_,_,e,_⟩:=x;exact Vd e
 | set S n=>obtain⟨o,_,_,_,e,_⟩:=x;exact Vd e
 | ins C dx fs=>obtain⟨_,_,_,e,_⟩:=x;exact Vd e
 | own y=>obtain⟨_,e⟩:=x;exact Vd e
 | xd fs=>obtain⟨_,⟨_,_,_,e,_⟩,_⟩:=x;exact Vd e
 | rng lo hi=>obtain⟨_,_,_,e⟩:=x;exact Vd e
 | frz ob u=>obtain⟨e,_⟩:=x;exact Vd e
 | tbl ps=>exact Vd (show h.get? a=some _ from x)
 | met f y=>exact Vd (show h.get? a=some _ from x)
 | ext φ=>obtain⟨_,⟨_,e⟩,_⟩:=x;exact Vd e
theorem Paired.mapP{α β:Type}{F G:α->β->Prop}:∀{l₁:List α} {l₂:List β},Paired F l₁ l₂->(∀a b,F a b->G a b)->Paired G l₁ l₂
 | _,_,.nil,_=>.nil
 | _,_,.cons r t,f=>.cons (f _ _ r) (Paired.mapP t f)
theorem bD.stay(x:bD P w H h a o)(k:∀b u,(b=a\/H b=some (.own a))->h.get? b=some u->h'.get? b=some u)
  (ho:∀b,H b=some (.own a)->H' b=some (.own a)) (ht:∀b xs,H b=some (.tup xs)->H' b=some (.tup xs)):bD P w H' h' a o:=by
 induction o with
 | lst xs=>obtain⟨z,its,n,r,e⟩:=x;exact⟨z,its,n,r,k _ _ (.inl rfl) e⟩
 | tup xs=>obtain⟨z,its,r,ob,e,c⟩:=x;exact⟨z,its,r,ob,k _ _ (.inl rfl) e,c⟩
 | dK kvs=>obtain⟨z,y,vs,r,ob,es,ep,e,c⟩:=x;exact⟨z,y,vs,r,ob,es,ep,k _ _ (.inl rfl) e,c⟩
 | dT kvs =>
  obtain⟨z,y,xs,r,ob,es,ep,e,c⟩:=x
  exact⟨z,y,xs,Paired.mapP r fun p q z=>⟨z.1,ht _ _ z.2.1,z.2.2⟩,ob,es,ep,k _ _ (.inl rfl) e,c⟩
 | set S n=>obtain⟨ob,es,ep,t,e,c⟩:=x;exact⟨ob,es,ep,t,k _ _ (.inl rfl) e,c⟩
 | ins C dx fs =>
  obtain⟨d,z,ne,e,mA,⟨od,es,ep,e2,c⟩,r⟩:=x
  exact⟨ho _ d,z,ne,k _ _ (.inl rfl) e,mA,⟨od,es,ep,k _ _ (.inr d) e2,c⟩,r⟩
 | own y=>obtain⟨ob,e⟩:=x;exact⟨ob,k _ _ (.inl rfl) e⟩
 | xd fs=>obtain⟨mA,⟨od,es,ep,e,c⟩,r⟩:=x;exact⟨mA,⟨od,es,ep,k _ _ (.inl rfl) e,c⟩,r⟩
 | rng lo hi=>obtain⟨t,u,v,e⟩:=x;exact⟨t,u,v,k _ _ (.inl rfl) e⟩
 | frz ob u ih=>obtain⟨e,q⟩:=x;exact⟨k _ _ (.inl rfl) e,ih q⟩
 | tbl ps =>
  have e:h.get? a=some { cls:=.none,data:=.fields ps }:=x
  show h'.get? a=some { cls:=.none,data:=.fields ps }
  exact k a _ (.inl rfl) e
 | met f y =>
  have e:h.get? a=some (W.methodObj (.ref f) (.ref y)):=x
  show h'.get? a=some (W.methodObj (.ref f) (.ref y))
  exact k a _ (.inl rfl) e
 | ext φ=>obtain⟨p,⟨o,e⟩,st⟩:=x;exact⟨st _ _ p fun o q=>k _ _ (.inl rfl) q,⟨o,k _ _ (.inl rfl) e⟩,st⟩
theorem cO.lt(x:cO P w H h)(e:H a=some o):a<h.objs.size:=(x a o e).lt
theorem cO.fresh(x:cO P w H h)(e:h.objs.size<=a):H a=none:=by
 cases q:H a with
 | none=>rfl
 | some u=>exact absurd (Vj (x.lt q) e) (VU _)
theorem cO.kept(x:cO P w H h)(k:∀b u,h.get? b=some u->h'.get? b=some u):cO P w H h':=fun a o e =>
 (x a o e).stay (fun b u _ q=>k b u q) (fun _ q=>q) fun _ _ q=>q
theorem cO.laid(x:cO P w H h)(k:∀b u,h.get? b=some u->h'.get? b=some u)(hp:h.objs.size<=a)(new:bD P w (aH H a o) h' a o):cO P w (aH H a o) h':=fun b u e=>by
 have hn:=x.fresh hp
 by_cases hb:b=a
 ·subst hb;rw[aF]at e;cases e;exact new
 ·rw[ay hb]at e
  exact(x b u e).stay (fun c v _ q=>k c v q) (fun c q=>by rw[ay (aZ q hn)];exact q) fun c xs q=>by rw[ay (aZ q hn)];exact q
end
def Rd(H:Hp)(a:Addr)(u:HO):Prop:=H a=some u\/∃o,H a=some (.frz o u)
theorem Rd.ok{H:Hp}{u:HO}(r:Rd H a u)(x:cO P w H h):bD P w H h a u:=by
 rcases r with r|⟨o,r⟩
 ·exact x a u r
 ·obtain⟨_,q⟩:=x a _ r
  exact q
def E9:Option HO->Prop
 | some (.lst _)=>True
 | some (.dK _)=>True
 | some (.dT _)=>True
 | some (.set _ _)=>True
 | some (.ins _ _ _)=>True
 | some (.ext _)=>True
 | _=>False
section
variable{H:Hp}{h':Heap}{x e:Addr}{o':HO}
theorem cO.write(ok:cO P w H h)(mu:E9 (H x))(he:e=x\/H e=some (.own x))(k:∀b u,b≠e->h.get? b=some u->h'.get? b=some u)(heo:∃u,h'.get? e=some u)
  (new:bD P w (aH H x o') h' x o'):cO P w (aH H x o') h':=fun b u q=>by
 have nown:∀c y,H c=some (.own y)->c≠x:=fun c y r z=>by subst z;rw[r]at mu;exact mu
 have ntup:∀c xs,H c=some (.tup xs)->c≠x:=fun c xs r z=>by subst z;rw[r]at mu;exact mu
 by_cases hb:b=x
 ·subst hb;rw[aF]at q;cases q;exact new
 ·rw[ay hb]at q
  by_cases hbe:b=e
  ·have q':H b=some (.own x):=by
    rcases he with z|z
    ·exact absurd (hbe.trans z) hb
    ·rw[hbe];exact z
   rw[q]at q';cases q'
   obtain⟨v,hv⟩:=heo
   exact⟨v,by rw[hbe];exact hv⟩
  ·refine(ok b u q).stay (fun c v hc r=>k c v ?_ r) (fun c r=>by rw[ay (nown c b r)];exact r) fun c xs r=>by rw[ay (ntup c xs r)];exact r
   rcases hc with rfl|hc
   ·exact hbe
   ·rintro rfl
    rcases he with z|z
    ·exact nown c b hc z
    ·rw[hc]at z;cases z;exact hb rfl
end
structure Un(fs ex:List Addr)(H H':Hp)(h h':Heap):Prop where
 keep:∀b o,h.get? b=some o->H b=none->b∉fs->b∉ex->h'.get? b=some o
 slot:∀b o,h.get? b=some o->H b=none->b∈fs->b∉ex->∃sl,h'.get? b=some { o with slots:=sl }
 free:∀b o,h.get? b=some o->H b=none->b∉ex->H' b=none
 there:∀b o,h.get? b=some o->b∉ex->∃o',h'.get? b=some o'
 tups:∀b xs,H b=some (.tup xs)->H' b=some (.tup xs)
 frzs:∀b o u,H b=some (.frz o u)->H' b=some (.frz o u)
 tbls:∀b ps,H b=some (.tbl ps)->∃more,H' b=some (.tbl (ps++more))
section
variable{fs fs' ex ex':List Addr}{H H1 H2:Hp}{h1 h2 h':Heap}{x e:Addr}{o:HO}
theorem Un.any(u:Un fs ex H H1 h h1){ob:Obj}(q:h.get? b=some ob)(n:H b=none)(hx:b∉ex):∃sl,h1.get? b=some { ob with slots:=sl }:=by
 by_cases hb:b∈fs
 ·exact u.slot b ob q n hb hx
 ·exact⟨ob.slots,u.keep b ob q n hb hx⟩
theorem Un.kept(k:∀b u,h.get? b=some u->h'.get? b=some u):Un fs ex H H h h' :=
 ⟨fun b ob q _ _ _=>k b ob q,fun b ob q _ _ _=>⟨ob.slots,k b ob q⟩,fun _ _ _ n _=>n,fun b ob q _=>⟨ob,k b ob q⟩,fun _ _ q=>q,fun _ _ _ q=>q,fun _ ps q=>⟨#[],by rw[q];simp⟩⟩
theorem Un.refl:Un fs ex H H h h:=Un.kept fun _ _ q=>q
theorem Un.laid(k:∀b u,h.get? b=some u->h'.get? b=some u)(hp:h.objs.size<=a)(hn:H a=none):Un fs ex H (aH H a o) h h' where
 keep:=fun b u q _ _ _=>k b u q
 slot:=fun b u q _ _ _=>⟨u.slots,k b u q⟩
 free:=fun b u q n _=>by rw[ay (Vv (Vj (Vd q) hp))];exact n
 there:=fun b u q _=>⟨u,k b u q⟩
 tups:=fun b xs q=>by rw[ay (aZ q hn)];exact q
 frzs:=fun b u xs q=>by rw[ay (aZ q hn)];exact q
 tbls:=fun b ps q=>⟨#[],by rw[ay (aZ q hn),q];simp⟩
theorem Un.write(mu:E9 (H x))(he:e=x\/H e=some (.own x))(k:∀b u,b≠e->h.get? b=some u->h'.get? b=some u)(heo:∃u,h'.get? e=some u):Un fs ex H (aH H x o) h h':=by
 have hx:∀b,H b=none->b≠x:=fun b n z=>by subst z;rw[n]at mu;exact mu
 have hb:∀b,H b=none->b≠e:=fun b n z=>by
  subst z
  rcases he with r|r
  ·exact hx b n r
  ·rw[n]at r;cases r
 have hm:∀b u,H b=some u -> ¬ E9 (some u)->b≠x:=fun b u q nm z=>by subst z;rw[q]at mu;exact nm mu
 refine⟨fun b u q n _ _=>k b u (hb b n) q,fun b u q n _ _=>⟨u.slots,k b u (hb b n) q⟩,fun b u q n _=>by rw[ay (hx b n)];exact n,fun b u q _=>?_,
  fun b xs q=>by rw[ay (hm b _ q fun z=>z)];exact q,fun b u xs q=>by rw[ay (hm b _ q fun z=>z)];exact q,fun b ps q=>⟨#[],by rw[ay (hm b _ q fun z=>z),q];simp⟩⟩
 by_cases hbe:b=e
 ·subst hbe;exact heo
 ·exact⟨u,k b u hbe q⟩
end
def D6(h:Heap)(H:Hp):List Addr:=(List.range h.objs.size).filter fun a=>(H a).isSome
def kG(h:Heap)(H:Hp):Heap:=W.hideAll h (D6 h H)
theorem Bd(h:Heap)(H:Hp):(kG h H).objs.size=h.objs.size:=W.hideAll_size _ _
theorem Dd{H:Hp}(e:h.get? b=some o)(n:H b=none):(kG h H).get? b=some o :=
 W.hideAll_get _ e fun hm=>by
  have q:(H b).isSome=true:=(Xi.mp hm).2
  rw[n]at q;simp at q
theorem F4{H:Hp}(e:(kG h H).get? b=some o):h.get? b=some o/\H b=none:=by
 have e':h.get? b=some o:=W.of_hideAll (D6 h H) e
 refine⟨e',?_⟩
 cases q:H b with
 | none=>rfl
 | some x =>
  have hm:b∈D6 h H:=Xi.mpr ⟨Xr.mpr (Vd e'),by simp[q]⟩
  have z:(kG h H).get? b=none:=W.hideAll_none (D6 h H) hm
  rw[z]at e;cases e
def Hr(g h:Heap)(L:Addr):List (Addr×Obj):=(List.range h.objs.size).filterMap fun a=>if a=L\/(g.get? a).isSome=true then none else(h.get? a).map fun o=>(a,o)
def rest(g h:Heap)(L d:Addr):List (Addr×Obj):=(Hr g h L).filter fun p=>decide (p.1≠d)
variable{v y:V}{H:Hp}{R:V->V->Hp->Prop}{vs:List V}
structure Mod(K:W.Frag)(mg:Str->Option Value)(base:Heap):Prop where
 kin:K.In base
 glob:base.Ns mainGlobals mg
 blt:∃mb,base.Ns builtinsNs mb/\∀x:Str,x ≠ "__name__" -> mb x=bootBuiltins x
 nolimit:base.NoLimit
structure Cx where
 prog:Program
 w:World
 K:W.Frag
 mg:Str->Option Value
 base:Heap
 A:Around
 N:List Str
 s₀:Shared
 H₀:Hp
 env:Env
 outer:List Env
 stack:List Env
 ex:List Addr
 fn:Str->Bool
 calm:Bool
 pn:List (Addr×Obj)
 xe:Value->Shared->Prop
def cF(l:List Env):List Addr:=l.filterMap (·.frame)
abbrev Cx.fs(X:Cx):List Addr:=cF X.outer
def jf(sc:Scope)(x:Str):Prop:=sc.names.lookup x=some .local\/sc.names.lookup x=some .cell\/sc.names.lookup x=some .free
def v4(sc:Scope)(x:Str):Prop:=sc.names.lookup x=some .local\/sc.names.lookup x=some .cell
def UB(env:Env)(h:Heap)(m:Str->Option Value)(x:Str)(u:Value):Prop :=
 (env.kindOf x=some .local/\m x=some u)\/((env.kindOf x=some .cell\/env.kindOf x=some .free)/\∃c,env.cells.lookup x=some c/\h.IsCell c (some u))
structure Cx.Ok(X:Cx):Prop where
 mod:Mod X.K X.mg X.base
 kind:X.env.scope.kind=.function
 glob:X.env.globals=mainGlobals
 blt:X.env.builtins=builtinsNs
 above:X.s₀.heap.objs.size<=X.env.locals
 inj:∀x y c,X.env.cells.lookup x=some c->X.env.cells.lookup y=some c->x=y
 has:∀x,(X.env.kindOf x=some .cell\/X.env.kindOf x=some .free)->∃c,X.env.cells.lookup x=some c
 cab:∀x c,X.fn x=true->X.env.cells.lookup x=some c->X.s₀.heap.objs.size<=c
 hd:X.calm=true->X.A.handled=none
 frames:X.A.frames=some X.stack
 stk:X.stack=X.outer\/(X.stack=X.env::X.outer/\X.env.frame=some X.env.locals)
 exf:∀b∈X.ex,b≠X.env.locals/\∀x c,X.env.cells.lookup x=some c->c≠b
 bs:∀b o,X.base.get? b=some o->X.s₀.heap.get? b=some o/\X.H₀ b=none
 bsz:X.base.objs.size<=X.s₀.heap.objs.size
 noex:∀b o,X.base.get? b=some o->b∉X.ex
 exfs:∀b∈X.ex,b∉X.fs
 funs:X.s₀.heap.FunFrames X.base X.outer
 frf:∀b∈X.fs,X.H₀ b=none
structure aj(X:Cx)(pins:List (Addr×Obj))(σ:List (Option V))(H:Hp)(s:Shared):Prop where
 ok:X.Ok
 os:s.os=X.s₀.os
 bare:AllBare s.gens
 base:Un X.fs X.ex X.H₀ H X.s₀.heap s.heap
 loc:∃m,s.heap.Ns X.env.locals m/\∀(i:Nat) (x:Str) (v:V),X.N[i]?=some x->σ[i]?=some (some v)->jf X.env.scope x->∃u,aX v u/\UB X.env s.heap m x u
 cell:∀x c,X.env.cells.lookup x=some c->∃v,s.heap.IsCell c v
 free:H X.env.locals=none
 freeC:∀x c,X.env.cells.lookup x=some c->H c=none
 pin:∀p∈X.pn++pins,s.heap.get? p.1=some p.2/\H p.1=none/\p.1≠X.env.locals/\p.1∉X.fs/\∀v,p.2.data ≠ .cell v
 hok:cO X.prog X.w H s.heap
 len:σ.length=X.N.length
section
variable{X:Cx}{σ:List (Option V)}{H':Hp}{h':Heap}
theorem Cx.Ok.nofr(ok:X.Ok)(e:X.base.get? b=some o):b∉X.fs:=fun hb=>by
 have:=(ok.funs.mem hb).1
 rw[e]at this;cases this
theorem aj.bs(I:aj X pins σ H s):∀b o,X.base.get? b=some o->s.heap.get? b=some o/\H b=none:=fun b o e =>
 ⟨I.base.keep b o (I.ok.bs b o e).1 (I.ok.bs b o e).2 (I.ok.nofr e) (I.ok.noex b o e),I.base.free b o (I.ok.bs b o e).1 (I.ok.bs b o e).2 (I.ok.noex b o e)⟩
theorem aj.bk(I:aj X pins σ H s):∀b o,X.base.get? b=some o->s.heap.get? b=some o:=fun b o e=>(I.bs b o e).1
theorem aj.mod(I:aj X pins σ H s):Mod X.K X.mg X.base:=I.ok.mod
theorem aj.kIn(I:aj X pins σ H s):X.K.In s.heap:=I.ok.mod.kin.keeps I.bk
theorem aj.nolimit(I:aj X pins σ H s):s.heap.NoLimit:=I.ok.mod.nolimit.keeps I.bk
theorem aj.lt(I:aj X pins σ H s):X.env.locals<s.heap.objs.size:=let ⟨_,hn,_⟩:=I.loc;hn.lt
theorem aj.sz(I:aj X pins σ H s):X.s₀.heap.objs.size<=s.heap.objs.size:=Vl I.ok.above (Xm I.lt)
theorem aj.nofs(I:aj X pins σ H s)(h:s.heap.objs.size<=a):a∉X.fs:=fun hb=>by
 obtain⟨_,o,ho,_⟩:=I.ok.funs.mem hb
 exact absurd (Vj (Vd ho) (Vl I.sz h)) (VU _)
theorem aj.cne(I:aj X pins σ H s):∀x c,X.env.cells.lookup x=some c->c≠X.env.locals:=fun x c e z=>by
 obtain⟨v,o,ho,hd⟩:=I.cell x c e
 obtain⟨m,⟨o',es,ep,ho',hd',_⟩,_⟩:=I.loc
 rw[z,ho']at ho;cases ho;rw[hd']at hd;cases hd
theorem aj.funs(I:aj X pins σ H s):s.heap.FunFrames X.base X.outer:=by
 have all:∀(l:List Env),(∀b∈cF l,b∈X.fs)->X.s₀.heap.FunFrames X.base l->s.heap.FunFrames X.base l:=by
  intro l
  induction l with
  | nil=>intro _ _;trivial
  | cons env r ih =>
   intro hs hl
   obtain⟨hk,⟨L,o,hf,hn,ho,hd⟩,hr⟩:=hl
   have hL:L∈X.fs:=hs L (by unfold cF;rw[Ww,hf];exact Vb)
   obtain⟨sl,e⟩:=I.base.slot L o ho (I.ok.frf L hL) hL fun z=>I.ok.exfs L z hL
   exact⟨hk,⟨L,_,hf,hn,e,hd⟩,ih (fun b hb=>hs b (by unfold cF;rw[Ww,hf];exact Vc _ hb)) hr⟩
 exact all X.outer (fun _ hb=>hb) I.ok.funs
theorem aj.stack(I:aj X pins σ H s):s.heap.FunFrames X.base X.stack:=by
 rcases I.ok.stk with e|⟨e,hf⟩
 ·rw[e];exact I.funs
 ·rw[e]
  obtain⟨m,hn,_⟩:=I.loc
  refine .cons (by rw[I.ok.kind];decide) hf hn ?_ I.funs
  exact WW (Vl I.ok.bsz I.ok.above)
theorem aj.stkSub(I:aj X pins σ H s):∀b∈cF X.stack,b∈X.env.locals::X.fs:=fun b hb=>by
 rcases I.ok.stk with e|⟨e,hf⟩
 ·rw[e]at hb;exact Vc _ hb
 ·rw[e]at hb
  unfold cF at hb
  rw[Ww,hf]at hb
  exact hb
theorem aj.stkFree(I:aj X pins σ H s):∀b∈cF X.stack,H b=none:=fun b hb=>by
 rcases Ve.mp (I.stkSub b hb)with e|hb
 ·rw[e];exact I.free
 ·obtain⟨_,o,ho,_⟩:=I.ok.funs.mem hb
  exact I.base.free b o ho (I.ok.frf b hb) fun z=>I.ok.exfs b z hb
theorem aj.step{t':Nat}{d':Drawn}(I:aj X pins σ H s)
  (hch:∀b∈ch,(b∈X.ex\/X.s₀.heap.objs.size<=b)/\b≠X.env.locals/\(∀x c,X.env.cells.lookup x=some c->c≠b)/\∀p∈X.pn++pins,p.1≠b)
  (keep:∀b o,b≠X.env.locals->b∉X.fs->b∉ch->s.heap.get? b=some o->H b=none->h'.get? b=some o)
  (slot:∀b o,b≠X.env.locals->b∈X.fs->b∉ch->s.heap.get? b=some o->H b=none->∃sl,h'.get? b=some { o with slots:=sl }) (free:∀b o,b∉ch->s.heap.get? b=some o->H b=none->H' b=none)
  (there:∀b o,b∉ch->s.heap.get? b=some o->∃o',h'.get? b=some o')
  (tups:∀b xs,H b=some (.tup xs)->H' b=some (.tup xs)) (frzs:∀b o u,H b=some (.frz o u)->H' b=some (.frz o u)) (tbls:∀b ps,H b=some (.tbl ps)->∃more,H' b=some (.tbl (ps++more)))
  (ns:∀m,s.heap.Ns X.env.locals m->h'.Ns X.env.locals m) (hok:cO X.prog X.w H' h') (hg:AllBare g') :
  aj X pins σ H' { s with heap:=h',gens:=g',drawn:=d',toks:=t' }:=by
 have neL:∀b o,X.s₀.heap.get? b=some o->b≠X.env.locals:=fun b o e=>Vv (Vj (Vd e) I.ok.above)
 have neC:∀b o,X.s₀.heap.get? b=some o->b∉X.ex->b∉ch:=fun b o e hx hb=>by
  rcases(hch b hb).1 with z|z
  ·exact hx z
  ·exact absurd (Vj (Vd e) z) (VU _)
 have cellK:∀x c,X.env.cells.lookup x=some c->∀v,s.heap.IsCell c v->h'.IsCell c v:=fun x c e v ⟨o,ho,hd⟩=>by
  have nch:c∉ch:=fun z=>(hch c z).2.2.1 x c e rfl
  by_cases hc:c∈X.fs
  ·obtain⟨sl,q⟩:=slot c o (I.cne x c e) hc nch ho (I.freeC x c e)
   exact⟨_,q,hd⟩
  ·exact⟨o,keep c o (I.cne x c e) hc nch ho (I.freeC x c e),hd⟩
 refine⟨I.ok,I.os,hg,⟨fun b o e n hb hx=>?_,fun b o e n hb hx=>?_,fun b o e n hx=>?_,fun b o e hx=>?_,fun b xs e=>tups b xs (I.base.tups b xs e),fun b o xs e=>frzs b o xs (I.base.frzs b o xs e),fun b ps e=>?_⟩,?_,fun x c e=>?_,?_,fun x c e=>?_,fun p hp=>?_,hok,I.len⟩
 ·exact keep b o (neL b o e) hb (neC b o e hx) (I.base.keep b o e n hb hx) (I.base.free b o e n hx)
 ·obtain⟨sl,e1⟩:=I.base.slot b o e n hb hx
  obtain⟨sl',e2⟩:=slot b _ (neL b o e) hb (neC b o e hx) e1 (I.base.free b o e n hx)
  exact⟨sl',e2⟩
 ·obtain⟨o',e1⟩:=I.base.there b o e hx
  exact free b o' (neC b o e hx) e1 (I.base.free b o e n hx)
 ·obtain⟨o',e1⟩:=I.base.there b o e hx
  exact there b o' (neC b o e hx) e1
 ·obtain⟨m1,e1⟩:=I.base.tbls b ps e
  obtain⟨m2,e2⟩:=tbls b _ e1
  exact⟨m1++m2,by rw[e2,Array.append_assoc]⟩
 ·obtain⟨m,hn,hl⟩:=I.loc
  refine⟨m,ns m hn,fun i x v e1 e2 e3=>?_⟩
  obtain⟨u,r,l⟩:=hl i x v e1 e2 e3
  refine⟨u,r,?_⟩
  rcases l with l|⟨k,c,e,z⟩
  ·exact .inl l
  ·exact .inr ⟨k,c,e,cellK x c e _ z⟩
 ·obtain⟨v,z⟩:=I.cell x c e
  exact⟨v,cellK x c e v z⟩
 ·obtain⟨m,⟨o,_,_,ho,_⟩,_⟩:=I.loc
  exact free _ o (fun z=>(hch _ z).2.1 rfl) ho I.free
 ·obtain⟨v,o,ho,hd⟩:=I.cell x c e
  exact free c o (fun z=>(hch c z).2.2.1 x c e rfl) ho (I.freeC x c e)
 ·obtain⟨e,n,ne,nf,d⟩:=I.pin p hp
  have nch:p.1∉ch:=fun z=>(hch p.1 z).2.2.2 p hp rfl
  exact⟨keep p.1 p.2 ne nf nch e n,free p.1 p.2 nch e n,ne,nf,d⟩
theorem aj.un{t':Nat}(I:aj X pins σ H s)(u:Un X.fs [] H H' s.heap h')(hok:cO X.prog X.w H' h'):aj X pins σ H' { s with heap:=h',toks:=t' }:=by
 obtain⟨m,⟨o,es,ep,ho,r⟩,_⟩:=id I.loc
 obtain⟨sl,hL⟩:=u.any ho I.free (by simp)
 exact I.step (g':=s.gens) (d':=s.drawn) (ch:=[]) (fun _ z=>nomatch z) (fun b o _ hb _ e n=>u.keep b o e n hb (by simp)) (fun b o _ hb _ e n=>u.slot b o e n hb (by simp)) (fun b o _ e n=>u.free b o e n (by simp)) (fun b o _ e=>u.there b o e (by simp)) u.tups u.frzs u.tbls (fun m' hm=>by
  obtain⟨o',es',ep',ho',r'⟩:=hm
  rw[ho]at ho';cases ho'
  exact⟨_,es',ep',hL,r'⟩) hok I.bare
theorem aj.call{t':Nat}{d':Drawn}(I:aj X pins σ H s)(u:Un (cF X.stack) ch H H' s.heap h')(hok:cO X.prog X.w H' h')(hg:AllBare g')
  (hch:∀b∈ch,(b∈X.ex\/X.s₀.heap.objs.size<=b)/\b≠X.env.locals/\(∀x c,X.env.cells.lookup x=some c->c≠b)/\∀p∈X.pn++pins,p.1≠b) :
  aj X pins σ H' { s with heap:=h',gens:=g',drawn:=d',toks:=t' }:=by
 obtain⟨m,⟨o,es,ep,ho,r⟩,_⟩:=id I.loc
 obtain⟨sl,hL⟩:=u.any ho I.free fun z=>(hch _ z).2.1 rfl
 exact I.step (ch:=ch) hch (fun b o hL hb hc e n=>u.keep b o e n (fun z=>(Ve.mp (I.stkSub b z)).elim hL hb) hc) (fun b o _ _ hc e n=>u.any e n hc) (fun b o hc e n=>u.free b o e n hc) (fun b o hc e=>u.there b o e hc) u.tups u.frzs u.tbls (fun m' hm=>by
  obtain⟨o',es',ep',ho',r'⟩:=hm
  rw[ho]at ho';cases ho'
  exact⟨_,es',ep',hL,r'⟩) hok hg
theorem aj.turned{t':Nat}(I:aj X pins σ H s)(k:∀b o,b≠it->s.heap.get? b=some o->h'.get? b=some o)(hn:H it=none)(hL:it≠X.env.locals)
  (h1:it∈X.ex\/X.s₀.heap.objs.size<=it) (h2:∀x c,X.env.cells.lookup x=some c->c≠it) (h3:∀p∈X.pn++pins,p.1≠it):aj X pins σ H { s with heap:=h',toks:=t' }:=by
 have nit:∀b u,H b=some u->b≠it:=fun b u e z=>by rw[z,hn]at e;cases e
 refine I.step (g':=s.gens) (d':=s.drawn) (ch:=[it]) (fun b hb=>?_) (fun b o _ _ hc e _=>k b o (fun z=>hc (by simp[z])) e) (fun b o _ _ hc e _=>⟨o.slots,k b o (fun z=>hc (by simp[z])) e⟩) (fun _ _ _ _ n=>n)
  (fun b o hc e=>⟨o,k b o (fun z=>hc (by simp[z])) e⟩) (fun _ _ e=>e) (fun _ _ _ e=>e) (fun b ps e=>⟨#[],by rw[e];simp⟩) (fun m hm=>?_) (fun b u e=>?_) I.bare
 ·have e:b=it:=by simpa using hb
  subst e
  exact⟨h1,hL,h2,h3⟩
 ·obtain⟨o,es,ep,ho,r⟩:=hm
  exact⟨o,es,ep,k _ o (V2 hL) ho,r⟩
 ·refine(I.hok b u e).stay (fun c v hc q=>k c v ?_ q) (fun _ q=>q) fun _ _ q=>q
  rcases hc with z|z
  ·rw[z];exact nit b u e
  ·exact nit c _ z
theorem aj.tok(I:aj X pins σ H s)(t:Nat):aj X pins σ H { s with toks:=t }:=I.un (h':=s.heap) (t':=t) Un.refl I.hok
theorem aj.kept{t':Nat}(I:aj X pins σ H s)(k:∀b u,s.heap.get? b=some u->h'.get? b=some u):aj X pins σ H { s with heap:=h',toks:=t' }:=I.un (Un.kept k) (I.hok.kept k)
theorem aj.laid{o:HO}{t':Nat}(I:aj X pins σ H s)(k:∀b u,s.heap.get? b=some u->h'.get? b=some u)(hp:s.heap.objs.size<=a)(new:bD X.prog X.w (aH H a o) h' a o) :
  aj X pins σ (aH H a o) { s with heap:=h',toks:=t' }:=I.un (Un.laid k hp (I.hok.fresh hp)) (I.hok.laid k hp new)
theorem aj.write{x e:Addr}{o:HO}{t':Nat}(I:aj X pins σ H s)(mu:E9 (H x))(he:e=x\/H e=some (.own x))(k:∀b u,b≠e->s.heap.get? b=some u->h'.get? b=some u)(heo:∃u,h'.get? e=some u)
  (new:bD X.prog X.w (aH H x o) h' x o):aj X pins σ (aH H x o) { s with heap:=h',toks:=t' }:=I.un (Un.write mu he k heo) (I.hok.write mu he k heo new)
theorem aj.pins_of{pins':List (Addr×Obj)}(I:aj X pins σ H s)(h:∀p∈pins',s.heap.get? p.1=some p.2/\H p.1=none/\p.1≠X.env.locals/\p.1∉X.fs/\∀v,p.2.data ≠ .cell v):aj X pins' σ H s :=
 ⟨I.ok,I.os,I.bare,I.base,I.loc,I.cell,I.free,I.freeC,fun p hp=>(Xj.mp hp).elim (fun z=>I.pin p (List.mem_append_left _ z)) (h p),I.hok,I.len⟩
theorem iV(hN:N.Nodup)(a:N[i]?=some x)(b:N[j]?=some x):i=j:=by
 obtain⟨h1,e1⟩:=Vu.mp a
 obtain⟨h2,e2⟩:=Vu.mp b
 exact(List.getElem_inj hN).mp (e1.trans e2.symm)
theorem Ah{Q:Unit->Shared->Prop}(I:aj X pins σ H s)(hN:X.N.Nodup)(hi:X.N[i]?=some x)(hx:v4 X.env.scope x)(r:aX v u)
  (h:∀s',aj X pins (σ.set i (some v)) H s'->(∃a,Heap.SameBut a s.heap s'.heap/\(a=X.env.locals\/X.env.cells.lookup x=some a))->Q () s') (hf:X.fn x=true\/X.env.scope.names.lookup x=some .local:=by first|exact .inl rfl|exact .inr rfl|assumption):wpAny M A (storeName X.env x u) Q E s:=by
 obtain⟨m,hn,hl⟩:=id I.loc
 have hcls:(X.env.scope.kind == .class || (X.env.scope.kind == .module&&X.env.locals != X.env.globals))=false:=by rw[I.ok.kind];rfl
 have hiσ:i<σ.length:=by rw[I.len];exact(Vu.mp hi).1
 have cne:=I.cne
 have tracked:∀{a:Addr} {h':Heap},(∃o,s.heap.get? a=some o/\H a=none)->Heap.SameBut a s.heap h'->cO X.prog X.w H h':=fun {a h'} ha hs b ob e=>by
  obtain⟨_,_,hfree⟩:=ha
  refine(I.hok b ob e).stay (fun c w' hc q=>(hs.2 c ?_).trans q) (fun _ q=>q) fun _ _ q=>q
  rintro rfl
  rcases hc with rfl|hc
  ·rw[hfree]at e;cases e
  ·rw[hfree]at hc;cases hc
 rcases hx with hk|hk
 ·refine wpAny_storeName_local hk hn (fun h' hn' hs=>?_) hcls
  obtain⟨oL,_,_,hoL,_⟩:=id hn
  refine h _ ⟨I.ok,I.os,I.bare,⟨fun b o e n hb hx=>?_,fun b o e n hb hx=>?_,I.base.free,fun b o e hx=>?_,I.base.tups,I.base.frzs,I.base.tbls⟩,⟨_,hn',fun j y v' e1 e2 e3=>?_⟩,fun y c e=>?_,I.free,I.freeC,fun p hp=>?_,tracked ⟨oL,hoL,I.free⟩ hs,by simpa using I.len⟩ ⟨_,hs,.inl rfl⟩
  ·exact(hs.2 b (Vv (Vj (Vd e) I.ok.above))).trans (I.base.keep b o e n hb hx)
  ·obtain⟨sl,e1⟩:=I.base.slot b o e n hb hx
   exact⟨sl,(hs.2 b (Vv (Vj (Vd e) I.ok.above))).trans e1⟩
  ·obtain⟨o',e1⟩:=I.base.there b o e hx
   exact⟨o',(hs.2 b (Vv (Vj (Vd e) I.ok.above))).trans e1⟩
  ·by_cases hj:j=i
   ·subst hj
    rw[hi]at e1;cases e1
    rw[Wx hiσ]at e2
    cases e2
    exact⟨u,r,.inl ⟨hk,by simp⟩⟩
   ·rw[Wf (V2 hj)]at e2
    obtain⟨u',r',q⟩:=hl j y v' e1 e2 e3
    refine⟨u',r',?_⟩
    rcases q with⟨k,e⟩|⟨k,c,e,z⟩
    ·refine .inl ⟨k,?_⟩
     have:y≠x:=fun e=>hj (iV hN e1 (e ▸ hi))
     simp[this,e]
    ·exact .inr ⟨k,c,e,z.sameBut hs (cne y c e)⟩
  ·obtain⟨w',z⟩:=I.cell y c e
   exact⟨w',z.sameBut hs (cne y c e)⟩
  ·obtain⟨e,n,ne,nf,d⟩:=I.pin p hp
   exact⟨(hs.2 p.1 ne).trans e,n,ne,nf,d⟩
 ·have hfn:X.fn x=true:=by
   rcases hf with z|z
   ·exact z
   ·rw[z]at hk;cases hk
  obtain⟨c,hc⟩:=I.ok.has x (.inl hk)
  obtain⟨w',z⟩:=I.cell x c hc
  refine wpAny_storeName_cell I.ok.kind hk hc z (fun h' hc' hs=>?_)
  obtain⟨oc,hoc,hocd⟩:=id z
  refine h { s with heap:=h' } ⟨I.ok,I.os,I.bare,⟨fun b o e n hb hx=>?_,fun b o e n hb hx=>?_,I.base.free,fun b o e hx=>?_,I.base.tups,I.base.frzs,I.base.tbls⟩,⟨m,hn.sameBut hs (V2 (cne x c hc)),fun j y v' e1 e2 e3=>?_⟩,fun y c' e=>?_,I.free,I.freeC,fun p hp=>?_,tracked ⟨oc,hoc,I.freeC x c hc⟩ hs,by simpa using I.len⟩ ⟨c,hs,.inr hc⟩
  ·exact(hs.2 b (Vv (Vj (Vd e) (I.ok.cab x c hfn hc)))).trans (I.base.keep b o e n hb hx)
  ·obtain⟨sl,e1⟩:=I.base.slot b o e n hb hx
   exact⟨sl,(hs.2 b (Vv (Vj (Vd e) (I.ok.cab x c hfn hc)))).trans e1⟩
  ·obtain⟨o',e1⟩:=I.base.there b o e hx
   exact⟨o',(hs.2 b (Vv (Vj (Vd e) (I.ok.cab x c hfn hc)))).trans e1⟩
  ·by_cases hj:j=i
   ·subst hj
    rw[hi]at e1;cases e1
    rw[Wx hiσ]at e2
    cases e2
    exact⟨u,r,.inr ⟨.inl hk,c,hc,hc'⟩⟩
   ·rw[Wf (V2 hj)]at e2
    obtain⟨u',r',q⟩:=hl j y v' e1 e2 e3
    refine⟨u',r',?_⟩
    rcases q with q|⟨k,c',e,z'⟩
    ·exact .inl q
    ·refine .inr ⟨k,c',e,z'.sameBut hs ?_⟩
     rintro rfl
     exact hj (iV hN e1 (I.ok.inj _ _ _ e hc ▸ hi))
  ·by_cases hcc:c'=c
   ·subst hcc;exact⟨_,hc'⟩
   ·obtain⟨w2,z2⟩:=I.cell y c' e
    exact⟨w2,z2.sameBut hs hcc⟩
  ·obtain⟨e,n,ne,nf,d⟩:=I.pin p hp
   refine⟨(hs.2 p.1 ?_).trans e,n,ne,nf,d⟩
   intro q
   rw[q,hoc]at e
   have q':oc=p.2:=VA e
   exact d w' (by rw[<- q'];exact hocd)
theorem gy{Q:Unit->Shared->Prop}(I:aj X pins σ H s)(hN:X.N.Nodup)(hi:X.N[i]?=some x)(hx:v4 X.env.scope x)(r:aX v u)
  (h:∀s',aj X pins (σ.set i (some v)) H s'->Q () s') (hf:X.fn x=true\/X.env.scope.names.lookup x=some .local:=by first|exact .inl rfl|exact .inr rfl|assumption):wpAny M A (storeName X.env x u) Q E s :=
 Ah I hN hi hx r (fun s' I' _=>h s' I') hf
theorem aj.call'(I:aj X pins σ H s)(ho:s'.os=s.os)(u:Un (cF X.stack) ch H H' s.heap s'.heap)(hok:cO X.prog X.w H' s'.heap)(hg:AllBare s'.gens)
  (hch:∀b∈ch,(b∈X.ex\/X.s₀.heap.objs.size<=b)/\b≠X.env.locals/\(∀x c,X.env.cells.lookup x=some c->c≠b)/\∀p∈X.pn++pins,p.1≠b):aj X pins σ H' s':=by
 obtain⟨h',g',d',t',o'⟩:=s'
 have e:o'=s.os:=ho
 subst e
 exact I.call (g':=g') (t':=t') (d':=d') u hok hg hch
end
abbrev XK:=Value->Option Addr->Hp->Prop
abbrev St:=List (Option V)
abbrev VK:=V->Hp->Prop
abbrev TE:=St->Hp->VK->Prop
abbrev TT:=St->Hp->(Bool->Hp->Prop)->Prop
abbrev TA:=St->Hp->(List V->Hp->Prop)->Prop
structure lh where
 nx:St->Hp->Prop
 rt:VK
 bk:St->Hp->Prop:=fun _ _=>False
 ct:St->Hp->Prop:=fun _ _=>False
abbrev TS:=lh->St->Hp->Prop
def EP(X:Cx)(pins:List (Addr×Obj))(σ:St)(Q:VK)(u:Value)(s':Shared):Prop:=∃v H',aj X pins σ H' s'/\aX v u/\Q v H'
def TP(X:Cx)(pins:List (Addr×Obj))(σ:St)(Q:Bool->Hp->Prop)(b:Bool)(s':Shared):Prop:=∃H',aj X pins σ H' s'/\Q b H'
def AP(X:Cx)(pins:List (Addr×Obj))(σ:St)(Q:List V->Hp->Prop)(us:List Value)(s':Shared):Prop:=∃vs H',aj X pins σ H' s'/\aP vs us/\Q vs H'
def SP(X:Cx)(pins:List (Addr×Obj))(D:lh)(f:Flow)(s':Shared):Prop :=
 match f with
 | .next => ∃σ' H',aj X pins σ' H' s'/\D.nx σ' H'
 | .brk => ∃σ' H',aj X pins σ' H' s'/\D.bk σ' H'
 | .cont => ∃σ' H',aj X pins σ' H' s'/\D.ct σ' H'
 | .ret u => ∃v σ' H',aj X pins σ' H' s'/\aX v u/\D.rt v H'
def PE(X:Cx)(e:Expr)(t:TE):Prop :=
 ∀(pins:List (Addr×Obj)) (s:Shared) (σ:St) (H:Hp) (Q:VK),aj X pins σ H s->t σ H Q->wpAny (model X.prog X.w) X.A (eval e X.env) (EP X pins σ Q) X.xe s
def PT(X:Cx)(e:Expr)(t:TT):Prop :=
 ∀(pins:List (Addr×Obj)) (s:Shared) (σ:St) (H:Hp) (Q:Bool->Hp->Prop),aj X pins σ H s->t σ H Q->wpAny (model X.prog X.w) X.A (isTrue e X.env (eval e X.env)) (TP X pins σ Q) X.xe s
def PW(X:Cx)(e:Expr)(t:TT):Prop :=
 ∀(whole:Sem Value) (pins:List (Addr×Obj)) (s:Shared) (σ:St) (H:Hp) (Q:Bool->Hp->Prop),aj X pins σ H s->t σ H Q->wpAny (model X.prog X.w) X.A (isTrue e X.env whole) (TP X pins σ Q) X.xe s
theorem PW.pt{X:Cx}{t:TT}(h:PW X e t):PT X e t:=h _
def PA(X:Cx)(es:List Expr)(t:TA):Prop :=
 ∀(pos:Pos) (pins:List (Addr×Obj)) (s:Shared) (σ:St) (H:Hp) (Q:List V->Hp->Prop),aj X pins σ H s->t σ H Q->wpAny (model X.prog X.w) X.A (spliced (backTo pos (starEach es X.env))) (AP X pins σ Q) X.xe s
def PS(X:Cx)(st:Stmt)(t:TS):Prop :=
 ∀(pins:List (Addr×Obj)) (s:Shared) (σ:St) (H:Hp) (D:lh),aj X pins σ H s->t D σ H->wpAny (model X.prog X.w) X.A (exec st X.env) (SP X pins D) X.xe s
def fe(X:Cx)(st:List Stmt)(t:TS):Prop :=
 ∀(pins:List (Addr×Obj)) (s:Shared) (σ:St) (H:Hp) (D:lh),aj X pins σ H s->t D σ H->wpAny (model X.prog X.w) X.A (execs st X.env) (SP X pins D) X.xe s
theorem aQ{t:Sem α}{Q Q':α->Shared->Prop}(h:wpAny M A t Q E s)(hQ:∀a s,Q a s->Q' a s):wpAny M A t Q' E s:=VX h hQ fun _ _ x=>x
variable{σ:St}{t te tl:TE}{X:Cx}{tc:TT}{ta:TA}{tb:TS}
section
theorem NW{a b:Expr}{ta tb:TE}(ha:PE X a ta)(hb:PE X b tb)(I:aj X pins σ H s)(h:ta σ H fun x H1=>tb σ H1 fun y H2=>R x y H2)
  {Q:α->Shared->Prop} {f:Value->Value->Sem α}
  (hf:∀v u s2 x y H2,aj X pins σ H2 s2->aX x v->aX y u->R x y H2->wpAny (model X.prog X.w) X.A (f v u) Q X.xe s2) :
  wpAny (model X.prog X.w) X.A (eval a X.env) (fun v s₁=>wpAny (model X.prog X.w) X.A (eval b X.env) (fun u s₂=>wpAny (model X.prog X.w) X.A (f v u) Q X.xe s₂) X.xe s₁) X.xe s:=by
 refine aQ (ha pins s σ H _ I h) fun v s1 ⟨x,H1,I1,r1,q1⟩=>?_
 refine aQ (hb pins s1 σ H1 _ I1 q1) fun u s2 ⟨y,H2,I2,r2,q2⟩=>?_
 exact hf v u s2 x y H2 I2 r1 r2 q2
def lT(i:Nat):TE:=fun σ H Q => ∃v,σ[i]?=some (some v)/\Q v H
def tC(v:V):TE:=fun _ H Q=>Q v H
theorem g9(hN:X.N[i]?=some x)(hv:jf X.env.scope x)(hd:(x==("__debug__" : Str))=false:=by decide)(hcd:(x==("__classdict__" : Str))=false:=by decide):PE X (.Name x pos) (lT i):=by
 intro pins s σ H Q I h
 obtain⟨v,e,h⟩:=h
 obtain⟨m,hn,hl⟩:=I.loc
 obtain⟨u,r,l⟩:=hl i x v hN e hv
 have fin:EP X pins σ Q u s:=⟨v,H,I,r,h⟩
 rcases l with⟨hk,hm⟩|⟨hk,c,hc,hcell⟩
 ·exact wpAny_Name (wpAny_loadName_local I.ok.kind hk hn hm fin) hd
 ·rcases hk with hk|hk
  ·exact wpAny_Name (wpAny_loadName_cell I.ok.kind hk hc hcell fin) hd
  ·exact wpAny_Name (wpAny_loadName_free I.ok.kind hk hc hcell fin hcd) hd
theorem Jc{i j pos}:PE X (.Constant (.int i) j pos) (tC (.int i)):=fun _ _ _ H _ I h=>wpAny_Constant_int ⟨.int i,H,I.tok _,⟨_,rfl⟩,h⟩
theorem MS{b j pos}:PE X (.Constant (.bool b) j pos) (tC (.bl b)):=fun _ _ _ H _ I h=>Constant_bool ⟨.bl b,H,I,rfl,h⟩
theorem Ja{j pos}:PE X (.Constant .none j pos) (tC .non):=fun _ _ _ H _ I h=>Constant_none ⟨.non,H,I,rfl,h⟩
theorem IY{x j pos}:PE X (.Constant (.str x) j pos) (tC (.str x)):=fun _ _ _ H _ I h=>Calls.Constant_str ⟨.str x,H,I.tok _,⟨_,rfl⟩,h⟩
def Gl(X:Cx)(x:Str):Prop:=X.env.kindOf x=some .globalImplicit
theorem dU(I:aj X pins σ H s)(hg:Gl X x)(hm:X.mg x=some u)(h:Q u s)
  (hd:(x==("__debug__" : Str))=false:=by decide):wpAny (model X.prog X.w) X.A (eval (.Name x pos) X.env) Q E s :=
 Calls.Name_function_global I.ok.kind hg (Calls.loadGlobal_global (by rw[I.ok.glob];exact I.mod.glob.keeps I.bk) hm h) hd
theorem dH(I:aj X pins σ H s)(hg:Gl X x)(hm:X.mg x=none)(hv:bootBuiltins x=some u)(h:Q u s)
  (hn:x ≠ "__name__" := by decide) (hd:(x==("__debug__" : Str))=false:=by decide):wpAny (model X.prog X.w) X.A (eval (.Name x pos) X.env) Q E s:=by
 obtain⟨mb,h1,h2⟩:=I.mod.blt
 exact Calls.Name_function_global I.ok.kind hg (Calls.loadGlobal_builtin (by rw[I.ok.glob];exact I.mod.glob.keeps I.bk) hm (by rw[I.ok.blt];exact h1.keeps I.bk) ((h2 x hn).trans hv) h) hd
theorem FX(hg:Gl X x)(hm:X.mg x=some u)(r:aX v u)(hd:(x==("__debug__" : Str))=false:=by decide):PE X (.Name x pos) (tC v) :=
 fun _ _ _ H _ I h=>dU I hg hm ⟨v,H,I,r,h⟩ hd
theorem FY(hg:Gl X x)(hm:X.mg x=none)(hv:bootBuiltins x=some u)(r:aX v u)(hn:x ≠ "__name__" := by decide)(hd:(x==("__debug__" : Str))=false:=by decide):PE X (.Name x pos) (tC v) :=
 fun _ _ _ H _ I h=>dH I hg hm hv ⟨v,H,I,r,h⟩ hn hd
variable{a b:Expr}{ta tb:TE}
def tB(t:TE):TT:=fun σ H Q=>t σ H fun x H1 => ∃c,x=.bl c/\Q c H1
theorem IK(h:PE X e t)(he:∀whole,isTrue e X.env whole=(do let v <- whole;standAt e.pos;holding [v] (truthy v)):=by intro _;rfl):PT X e (tB t):=by
 intro pins s σ H Q I hw
 refine isTrue_plain (aQ (h pins s σ H _ I hw) fun v s1 ⟨x,H1,I1,r1,q1⟩=>?_) (he _)
 obtain⟨d,rfl,q⟩:=q1
 cases r1
 exact Wl ⟨H1,I1,q⟩
variable{tA tB':TT}{rest:List Expr}
def Ol(t u:TT):TT:=fun σ H Q=>t σ H fun c H1=>if c=true then u σ H1 Q else Q false H1
def UN(t u:TT):TT:=fun σ H Q=>t σ H fun c H1=>if c=true then Q true H1 else u σ H1 Q
def Od(t:TT):TT:=fun σ H Q=>t σ H fun c H1=>Q (!c) H1
theorem FK(ha:PT X a tA):PW X (.BoolOp .And [a] pos) tA:=by
 intro wh pins s σ H Q I h
 refine isTrue_and (aQ (ha pins s σ H Q I h) fun c s1 e=>?_)
 cases c with
 | true=>exact isTrue_and_nil e
 | false=>exact e
theorem IJ(ha:PT X a tA):PW X (.BoolOp .Or [a] pos) tA:=by
 intro wh pins s σ H Q I h
 refine isTrue_or (aQ (ha pins s σ H Q I h) fun c s1 e=>?_)
 cases c with
 | false=>exact isTrue_or_nil e
 | true=>exact e
theorem Ao(ha:PT X a tA)(hb:PW X (.BoolOp .And (b::rest) pos) tB'):PW X (.BoolOp .And (a::b::rest) pos) (Ol tA tB'):=by
 intro wh pins s σ H Q I h
 refine isTrue_and (aQ (ha pins s σ H _ I h) fun c s1 ⟨H1,I1,q1⟩=>?_)
 cases c with
 | true=>exact hb wh pins s1 σ H1 Q I1 q1
 | false=>exact⟨H1,I1,q1⟩
theorem Eg(ha:PT X a tA)(hb:PW X (.BoolOp .Or (b::rest) pos) tB'):PW X (.BoolOp .Or (a::b::rest) pos) (UN tA tB'):=by
 intro wh pins s σ H Q I h
 refine isTrue_or (aQ (ha pins s σ H _ I h) fun c s1 ⟨H1,I1,q1⟩=>?_)
 cases c with
 | true=>exact⟨H1,I1,q1⟩
 | false=>exact hb wh pins s1 σ H1 Q I1 q1
theorem IM(ha:PT X a tA):PT X (.UnaryOp .Not a pos) (Od tA):=by
 intro pins s σ H Q I h
 exact isTrue_not (ha pins s σ H (fun c H1=>Q (!c) H1) I h)
def Ms(ta tb:TE):TE:=fun σ H Q=>ta σ H fun x H1 => ∃c,x=.bl c/\if c=true then tb σ H1 Q else Q (.bl false) H1
def Oc(ta tb:TE):TE:=fun σ H Q=>ta σ H fun x H1 => ∃c,x=.bl c/\if c=true then Q (.bl true) H1 else tb σ H1 Q
def Mn(ta:TE):TE:=fun σ H Q=>ta σ H fun x H1 => ∃c,x=.bl c/\Q (.bl (!c)) H1
theorem IZ{op}(h:PE X a t):PE X (.BoolOp op [a] pos) t:=fun pins s σ H Q I hw=>BoolOp_one (h pins s σ H Q I hw)
theorem Av(ha:PE X a ta)(hb:PE X (.BoolOp .And (b::rest) pos) tb):PE X (.BoolOp .And (a::b::rest) pos) (Ms ta tb):=by
 intro pins s σ H Q I h
 refine BoolOp_and (aQ (ha pins s σ H _ I h) fun v s1 ⟨x,H1,I1,r1,q1⟩=>?_)
 obtain⟨c,rfl,q1⟩:=q1
 cases r1
 refine Wl ?_
 cases c with
 | true=>exact hb pins s1 σ H1 Q I1 q1
 | false=>exact⟨.bl false,H1,I1,rfl,q1⟩
theorem Ek(ha:PE X a ta)(hb:PE X (.BoolOp .Or (b::rest) pos) tb):PE X (.BoolOp .Or (a::b::rest) pos) (Oc ta tb):=by
 intro pins s σ H Q I h
 refine BoolOp_or (aQ (ha pins s σ H _ I h) fun v s1 ⟨x,H1,I1,r1,q1⟩=>?_)
 obtain⟨c,rfl,q1⟩:=q1
 cases r1
 refine Wl ?_
 cases c with
 | false=>exact hb pins s1 σ H1 Q I1 q1
 | true=>exact⟨.bl true,H1,I1,rfl,q1⟩
theorem I0(ha:PE X a ta):PE X (.UnaryOp .Not a pos) (Mn ta):=by
 intro pins s σ H Q I h
 refine UnaryOp_ (aQ (ha pins s σ H _ I h) fun v s1 ⟨x,H1,I1,r1,q1⟩=>?_)
 obtain⟨c,rfl,q1⟩:=q1
 cases r1
 exact not_of (Wl ⟨.bl (!c),H1,I1,rfl,q1⟩)
end
def cn(K:W.Frag)(H:Hp)(a:Addr)(xs:List V):Prop :=
 Rd H a (.lst xs) \/
  ∃(o:Obj) (its:Array Value) (n:Nat),K.lookup a=some o/\o.cls=.type "list" /\ o.dict=none/\o.data=.seq its n/\its.size<=sizeLine/\aP xs its.toList
def cD(K:W.Frag)(H:Hp)(a:Addr)(xs:List V):Prop :=
 Rd H a (.tup xs) \/
  ∃(o:Obj) (its:Array Value) (n:Nat),K.lookup a=some o/\o.cls=.type "tuple" /\ o.data=.seq its n/\its.size<=sizeLine/\aP xs its.toList
def Uz:Value->Option V
 | .none=>some .non
 | .bool b=>some (.bl b)
 | .int i _=>some (.int i)
 | .str x _=>some (.str x)
 | .bytes b _=>some (.byt b)
 | .float b _=>some (.flt b)
 | .ref a=>some (.ref a)
 | .type n=>some (.ty n)
 | _=>none
theorem aX.abs{x:V}(r:aX x u):Uz u=some x:=by
 cases x with
 | non=>cases r;rfl
 | bl _=>cases r;rfl
 | int _=>obtain⟨t,rfl⟩:=r;rfl
 | str _=>obtain⟨t,rfl⟩:=r;rfl
 | byt _=>obtain⟨t,rfl⟩:=r;rfl
 | flt _=>obtain⟨t,rfl⟩:=r;rfl
 | ref _=>cases r;rfl
 | ty _=>cases r;rfl
theorem aX.inj{x:V}(r:aX x u)(q:aX y u):x=y:=VA (r.abs.symm.trans q.abs)
theorem aP.inj:∀{xs ys:List V} {us:List Value},aP xs us->aP ys us->xs=ys
 | _,_,_,.nil,.nil=>rfl
 | _,_,_,.cons r t,.cons r' t'=>by rw[r.inj r',aP.inj t t']
section
variable{xs ys:List V}
theorem cn.of(h:H a=some (.lst xs)):cn K H a xs:=.inl (.inl h)
theorem cD.of(h:H a=some (.tup xs)):cD K H a xs:=.inl (.inl h)
theorem aj.list(I:aj X pins σ H s)(h:cn X.K H a xs):∃its:List Value,aP xs its/\PlainL s.heap a its.toArray/\xs.length<=sizeLine:=by
 rcases h with h|⟨o,its,n,hk,hc,hd,hs,hz,r⟩
 ·obtain⟨z,its,n,r,e⟩:=h.ok I.hok
  exact⟨its,r,⟨_,n,e,rfl,rfl,rfl⟩,z⟩
 ·refine⟨its.toList,r,⟨o,n,I.kIn a o hk,hc,hd,by simpa using hs⟩,?_⟩
  have e:=r.length
  simp only[Array.length_toList]at e
  omega
theorem aj.tuple(I:aj X pins σ H s)(h:cD X.K H a xs):∃its:List Value,aP xs its/\IsTup s.heap a its.toArray/\xs.length<=sizeLine:=by
 rcases h with h|⟨o,its,n,hk,hc,hs,hz,r⟩
 ·obtain⟨z,its,r,p⟩:=h.ok I.hok
  exact⟨its,r,p,z⟩
 ·refine⟨its.toList,r,⟨o,I.kIn a o hk,hc,n,by simpa using hs⟩,?_⟩
  have e:=r.length
  simp only[Array.length_toList]at e
  omega
theorem aj.list_inj(I:aj X pins σ H s)(h:cn X.K H a xs)(h':cn X.K H a ys):xs=ys:=by
 obtain⟨its,r,⟨o,n,e,_,_,d⟩,_⟩:=I.list h
 obtain⟨its',r',⟨o',n',e',_,_,d'⟩,_⟩:=I.list h'
 rw[e]at e';cases e'
 rw[d]at d'
 injection d' with d1 _
 have:its=its':=by simpa using V0 Array.toList d1
 subst this
 exact r.inj r'
theorem aj.tuple_inj(I:aj X pins σ H s)(h:cD X.K H a xs)(h':cD X.K H a ys):xs=ys:=by
 obtain⟨its,r,⟨o,e,_,n,d⟩,_⟩:=I.tuple h
 obtain⟨its',r',⟨o',e',_,n',d'⟩,_⟩:=I.tuple h'
 rw[e]at e';cases e'
 rw[d]at d'
 injection d' with d1 _
 have:its=its':=by simpa using V0 Array.toList d1
 subst this
 exact r.inj r'
end
abbrev Cx.wish(X:Cx)(E:Value->Shared->Prop):Cx:={ X with xe:=E }
abbrev Cx.nox(X:Cx):Cx:=X.wish fun _ _=>False
theorem Cx.Ok.wish(ok:X.Ok)(E:Value->Shared->Prop):(X.wish E).Ok :=
 ⟨ok.mod,ok.kind,ok.glob,ok.blt,ok.above,ok.inj,ok.has,ok.cab,ok.hd,ok.frames,ok.stk,ok.exf,ok.bs,ok.bsz,ok.noex,ok.exfs,ok.funs,ok.frf⟩
theorem Cx.Ok.unwish(ok:(X.wish E).Ok):X.Ok :=
 ⟨ok.mod,ok.kind,ok.glob,ok.blt,ok.above,ok.inj,ok.has,ok.cab,ok.hd,ok.frames,ok.stk,ok.exf,ok.bs,ok.bsz,ok.noex,ok.exfs,ok.funs,ok.frf⟩
section
theorem aj.wish(I:aj X pins σ H s)(E:Value->Shared->Prop):aj (X.wish E) pins σ H s:=⟨I.ok.wish E,I.os,I.bare,I.base,I.loc,I.cell,I.free,I.freeC,I.pin,I.hok,I.len⟩
theorem aj.unwish(I:aj (X.wish E) pins σ H s):aj X pins σ H s:=⟨I.ok.unwish,I.os,I.bare,I.base,I.loc,I.cell,I.free,I.freeC,I.pin,I.hok,I.len⟩
theorem SP.unwish{D:lh}{f:Flow}(h:SP (X.wish E) pins D f s'):SP X pins D f s':=by
 cases f with
 | next=>obtain⟨σ',H',I,q⟩:=h;exact⟨σ',H',I.unwish,q⟩
 | brk=>obtain⟨σ',H',I,q⟩:=h;exact⟨σ',H',I.unwish,q⟩
 | cont=>obtain⟨σ',H',I,q⟩:=h;exact⟨σ',H',I.unwish,q⟩
 | ret u=>obtain⟨v,σ',H',I,r,q⟩:=h;exact⟨v,σ',H',I.unwish,r,q⟩
theorem PE.nox(h:PE X.nox e t):PE X e t:=fun pins s σ H Q I hw =>
 VX (h pins s σ H Q (I.wish _) hw) (fun _ _ ⟨v,H',I',r,q⟩=>⟨v,H',I'.unwish,r,q⟩) fun _ _ z=>False.elim z
theorem PT.nox{t:TT}(h:PT X.nox e t):PT X e t:=fun pins s σ H Q I hw =>
 VX (h pins s σ H Q (I.wish _) hw) (fun _ _ ⟨H',I',q⟩=>⟨H',I'.unwish,q⟩) fun _ _ z=>False.elim z
theorem fe.nox{st:List Stmt}{t:TS}(h:fe X.nox st t):fe X st t:=fun pins s σ H D I hw =>
 VX (h pins s σ H D (I.wish _) hw) (fun _ _ q=>q.unwish) fun _ _ z=>False.elim z
end
section
variable{st:Stmt}{rest:List Stmt}{t u:TS}
def Ea:TS:=fun D σ H=>D.nx σ H
def N9(t u:TS):TS:=fun D σ H=>t { D with nx:=u D } σ H
theorem rk:fe X [] Ea:=fun _ _ σ H _ I h=>W0 ⟨σ,H,I,h⟩
theorem fh(h1:PS X st t)(h2:fe X rest u):fe X (st::rest) (N9 t u):=by
 intro pins s σ H D I h
 refine wpAny_execs_cons (aQ (h1 pins s σ H { D with nx:=u D } I h) fun f s1 q=>?_)
 cases f with
 | next =>
  obtain⟨σ',H',I',q⟩:=q
  exact h2 pins s1 σ' H' D I' q
 | ret v=>exact q
 | brk=>exact q
 | cont=>exact q
theorem wJ(h1:PS X st t):fe X [st] t:=by
 intro pins s σ H D I h
 refine wpAny_execs_cons (aQ (h1 pins s σ H D I h) fun f s1 q=>?_)
 cases f with
 | next=>exact W0 q
 | ret v=>exact q
 | brk=>exact q
 | cont=>exact q
def Ic:TS:=fun D σ H=>D.bk σ H
def Mq:TS:=fun D σ H=>D.ct σ H
theorem FP:PS X (.Pass pos) Ea:=fun _ _ σ H _ I h=>wpAny_Pass ⟨σ,H,I,h⟩
theorem Cy:PS X (.Break pos) Ic:=fun _ _ σ H _ I h=>wpAny_Break ⟨σ,H,I,h⟩
theorem v8:PS X (.Continue pos) Mq:=fun _ _ σ H _ I h=>wpAny_Continue ⟨σ,H,I,h⟩
theorem aj.quiet(I:aj X pins σ H s):interactive X.env=false:=by simp[interactive,I.ok.kind]
def Mp(te:TE):TS:=fun D σ H=>te σ H fun _ H1=>D.nx σ H1
theorem jR(he:PE X e te)(hs:swapsWith e none pos.line X.env=pure false:=by rfl):PS X (.Expr e pos) (Mp te):=by
 intro pins s σ H D I h
 exact wpAny_Expr_any (aQ (he pins s σ H _ I h) fun v s1 ⟨x,H1,I1,r1,q1⟩=>⟨σ,H1,I1,q1⟩) I.quiet hs
def Oa(te:TE):TS:=fun D σ H=>te σ H D.rt
theorem ur(he:PE X e te):PS X (.Return (some e) pos) (Oa te):=by
 intro pins s σ H D I h
 exact wpAny_Return_some (aQ (he pins s σ H _ I h) fun v s1 ⟨x,H1,I1,r1,q1⟩=>⟨x,σ,H1,I1,r1,q1⟩)
def Ml:TS:=fun D _ H=>D.rt .non H
theorem FO:PS X (.Return none pos) Ml:=fun _ _ σ H _ I h=>wpAny_Return_none ⟨.non,σ,H,I,rfl,h⟩
def Of(c:TT)(t u:TS):TS:=fun D σ H=>c σ H fun b H1=>if b=true then t D σ H1 else u D σ H1
theorem yr{a b:List Stmt}(hc:PT X c tc)(ha:fe X a t)(hb:fe X b u):PS X (.If c a b pos) (Of tc t u):=by
 intro pins s σ H D I h
 refine wpAny_If (aQ (hc pins s σ H _ I h) fun d s1 ⟨H1,I1,q1⟩=>?_)
 cases d with
 | true=>exact ha pins s1 σ H1 D I1 q1
 | false=>exact hb pins s1 σ H1 D I1 q1
def Ib:TS:=fun _ _ _=>False
theorem fR{sts:List Stmt}:fe X sts Ib:=fun _ _ _ _ _ _ h=>h.elim
end
abbrev TG:=V->St->Hp->(St->Hp->Prop)->Prop
abbrev qP:=List V->St->Hp->(St->Hp->Prop)->Prop
def PG(X:Cx)(target:Expr)(t:TG):Prop :=
 ∀(pins:List (Addr×Obj)) (s:Shared) (σ:St) (H:Hp) (v:V) (u:Value) (Q:St->Hp->Prop),aj X pins σ H s->aX v u->t v σ H Q ->
  wpAny (model X.prog X.w) X.A (assign target X.env u) (fun _ s' => ∃σ' H',aj X pins σ' H' s'/\Q σ' H') X.xe s
def xK(X:Cx)(ts:List Expr)(t:qP):Prop :=
 ∀(pins:List (Addr×Obj)) (s:Shared) (σ:St) (H:Hp) (vs:List V) (us:List Value) (Q:St->Hp->Prop),aj X pins σ H s->aP vs us->t vs σ H Q ->
  wpAny (model X.prog X.w) X.A (assignInOrder ((assignEach ts X.env).map (·.2)) us) (fun _ s' => ∃σ' H',aj X pins σ' H' s'/\Q σ' H') X.xe s
abbrev zp:=V->V->V->Hp->(Hp->Prop)->Prop
def DT(X:Cx)(t:zp):Prop :=
 ∀(pins:List (Addr×Obj)) (s:Shared) (σ:St) (H:Hp) (o i v:V) (ov iv u:Value) (Q:Hp->Prop),aj X pins σ H s->aX o ov->aX i iv->aX v u->t o i v H Q ->
  wpAny (model X.prog X.w) X.A (setItem ov iv u) (fun _ s' => ∃H',aj X pins σ H' s'/\Q H') X.xe s
abbrev LF:=V->V->Hp->VK->Prop
def NX(X:Cx)(op:Operator)(t:LF):Prop :=
 ∀(pins:List (Addr×Obj)) (s:Shared) (σ:St) (H:Hp) (x y:V) (v u:Value) (Q:VK),aj X pins σ H s->aX x v->aX y u->t x y H Q ->
  wpAny (model X.prog X.w) X.A (inplaceOp op v u) (EP X pins σ Q) X.xe s
section
def EF(i:Nat):TG:=fun v σ H Q=>Q (σ.set i (some v)) H
theorem jT(hN:X.N.Nodup)(hi:X.N[i]?=some x)(hx:v4 X.env.scope x)(hf:X.fn x=true\/X.env.scope.names.lookup x=some .local:=by first|exact .inl rfl|exact .inr rfl|assumption):PG X (.Name x pos) (EF i):=by
 intro pins s σ H v u Q I r h
 exact wpAny_assign_Name (gy I hN hi hx r (fun s' I'=>⟨_,H,I',h⟩) hf)
def Sr:qP:=fun vs σ H Q=>vs=[]/\Q σ H
def Nn(t:TG)(u:qP):qP:=fun vs σ H Q => ∃v r,vs=v::r/\t v σ H fun σ' H'=>u r σ' H' Q
theorem wO:xK X [] Sr:=by
 intro pins s σ H vs us Q I r h
 obtain⟨e,h⟩:=h
 subst e
 cases r
 exact assignInOrder_nil ⟨σ,H,I,h⟩
theorem oS{t:TG}{u:qP}(h1:PG X e t)(h2:xK X es u)
  (hs:(assignEach (e::es) X.env).map (·.2)=assign e X.env::(assignEach es X.env).map (·.2):=by rfl):xK X (e::es) (Nn t u):=by
 intro pins s σ H vs us Q I r h
 obtain⟨v,vr,e1,h⟩:=h
 subst e1
 cases r with
 | cons r rr =>
  rw[hs]
  refine assignInOrder_cons (aQ (h1 pins s σ H _ _ _ I r h) fun _ s1 ⟨σ1,H1,I1,q1⟩=>?_)
  exact h2 pins s1 σ1 H1 _ _ Q I1 rr q1
def So(K:W.Frag)(n:Nat)(t:qP):TG:=fun v σ H Q => ∃a xs,v=.ref a/\cD K H a xs/\xs.length=n/\t xs σ H Q
theorem uv{t:qP}(hc:X.calm=true)(h:xK X es t)
  (hn:(assignEach es X.env).length=n:=by rfl) (hst:(assignEach es X.env).findIdx? (·.1)=none:=by rfl):PG X (.Tuple es k pos) (So X.K n t):=by
 intro pins s σ H v u Q I r hw
 obtain⟨a,xs,e1,hq,hl,hw⟩:=hw
 subst e1
 cases r
 obtain⟨its,rv,ht,hz⟩:=I.tuple hq
 refine assign_Tuple_tuple (I.ok.hd hc) ht (by simp[hn,<- hl,rv.length]) hst fun h' hx=>?_
 have I1:aj X pins σ H { s with heap:=h' }:=I.kept (t':=s.toks) fun b o e=>hx b o (Vv (Vd e)) e
 exact h pins _ σ H xs _ Q I1 (by simpa using rv) hw
def Sq(to ti:TE)(t:zp):TG:=fun v σ H Q=>to σ H fun o H1=>ti σ H1 fun i H2=>t o i v H2 fun H3=>Q σ H3
theorem uw{o i:Expr}{to ti:TE}{t:zp}(ho:PE X o to)(hi:PE X i ti)(hs:DT X t)
  (ha:∀v,assign (.Subscript o i pos) X.env v=(do
   let ov <- holding [v] (eval o X.env)
   let iv <- holding [v,ov] (eval i X.env)
   standAt pos
   holding [v,ov,iv] (setItem ov iv v)
   release [v,ov,iv] []):=by intro _;rfl):PG X (.Subscript o i pos) (Sq to ti t):=by
 intro pins s σ H v u Q I r h
 rw[ha]
 refine U8 (VO (aQ (ho pins s σ H _ I h) fun ov s1 ⟨x,H1,I1,r1,q1⟩=>?_))
 refine U8 (VO (aQ (hi pins s1 σ H1 _ I1 q1) fun iv s2 ⟨y,H2,I2,r2,q2⟩=>?_))
 refine U8 (WU (U8 (VO (aQ (hs pins s2 σ H2 x y v ov iv u _ I2 r1 r2 r q2) fun _ s3 ⟨H3,I3,q3⟩=>?_))))
 exact wpAny_release ⟨σ,H3,I3,q3⟩
def Id(te:TE)(g:TG):TS:=fun D σ H=>te σ H fun x H1=>g x σ H1 D.nx
theorem jS{g:TG}(he:PE X e te)(hg:PG X tg g)(hs:swapsWithSole [tg] e pos.line X.env=pure false:=by rfl)(hw:swappedStores [tg] e X.env=pure none:=by rfl)
  (h1:(assignEach [tg] X.env).map (·.2)=[assign tg X.env]:=by rfl):PS X (.Assign [tg] e pos) (Id te g):=by
 intro pins s σ H D I h
 refine wpAny_Assign_stores (aQ (he pins s σ H _ I h) fun v s1 ⟨x,H1,I1,r1,q1⟩=>?_) hs hw
 rw[h1]
 exact aQ (hg pins s1 σ H1 x v _ I1 r1 q1) fun _ s2 q=>q
theorem uq(hN:X.N.Nodup)(hi:X.N[i]?=some x)(hx:v4 X.env.scope x)(he:PE X e te)(hs:swapsWith e (some (.Name x pos')) pos.line X.env=pure false:=by rfl)(hf:X.fn x=true\/X.env.scope.names.lookup x=some .local:=by first|exact .inl rfl|exact .inr rfl|assumption) :
  PS X (.Assign [.Name x pos'] e pos) (Id te (EF i)):=by
 intro pins s σ H D I h
 refine wpAny_Assign_Name (aQ (he pins s σ H _ I h) fun v s1 ⟨y,H1,I1,r1,q1⟩=>?_) hs
 exact gy I1 hN hi hx r1 (fun s2 I2=>⟨_,H1,I2,q1⟩) hf
def Ob(i j:Nat)(ta:TA):TS:=fun D σ H=>ta σ H fun vs H1 => ∃v w,vs=[v,w]/\D.nx ((σ.set i (some v)).set j (some w)) H1
theorem IN{y:Str}{a b:Expr}{px py pt:Pos}{kt k2 pt2}(hc:X.calm=true)(hN:X.N.Nodup)(hi:X.N[i]?=some x)(hj:X.N[j]?=some y)(hij:i≠j)
  (hx:X.env.scope.names.lookup x=some .local) (hy:X.env.scope.names.lookup y=some .local) (ha:PA X [a,b] ta)
  (hw:swappedStores [.Tuple [.Name x px,.Name y py] kt pt] (.Tuple [a,b] k2 pt2) X.env=pure (some [x,y]))
  (hs:swapsWithSole [.Tuple [.Name x px,.Name y py] kt pt] (.Tuple [a,b] k2 pt2) pos.line X.env=pure false:=by rfl) :
  PS X (.Assign [.Tuple [.Name x px,.Name y py] kt pt] (.Tuple [a,b] k2 pt2) pos) (Ob i j ta):=by
 intro pins s σ H D I h
 rw[exec_Assign_arm]
 refine U8 (WU ?_)
 rw[hs]
 refine U8 (Va ?_)
 rw[if_neg (by decide)]
 refine U8 (Tuple_ (aQ (ha _ pins s σ H _ I h) fun us s1 ⟨vs,H1,I1,r1,q1⟩=>?_))
 obtain⟨v,w,e1,q1⟩:=q1
 subst e1
 obtain⟨u1,u2,rfl,rv,rw'⟩:∃u1 u2,us=[u1,u2]/\aX v u1/\aX w u2:=by
  cases r1 with
  | cons p q =>
   cases q with
   | cons p' q' =>
    cases q'
    exact⟨_,_,rfl,p,p'⟩
 refine Wm ?_ (by show 2<=sizeLine;decide)
 have I2:aj X pins σ H1 { s1 with heap:=s1.heap.push { cls:=.type "tuple", data:=.seq [u1,u2].toArray } }:=I1.kept (t':=s1.toks) fun b o e=>U9 _ e
 rw[hw]
 refine U8 (Va ?_)
 show wpAny (model X.prog X.w) X.A (do rule "assign.swapped-stores"; let items <- unpackItems (.ref s1.heap.objs.size) 2 none;assignInOrder [fun v=>bindName X.env y v,fun v=>bindName X.env x v] items.reverse;pure Flow.next) _ _ _
 refine U8 (wpAny_rule (U8 (unpackItems_tuple (items:=#[u1,u2]) (I.ok.hd hc) (IsTup.new s1.heap _) fun h' hx'=>?_)))
 have I3:=I2.kept (h':=h') (t':=s1.toks) fun b o e=>hx' b o (Vv (Vd e)) e
 show wpAny _ _ (assignInOrder [fun v=>bindName X.env y v,fun v=>bindName X.env x v] [u2,u1] >>= fun _=>pure Flow.next) _ _ _
 refine U8 (assignInOrder_cons (wpAny_bindName (gy I3 hN hj (.inl hy) rw' (fun s2 I4=>?_) (.inr hy))))
 refine assignInOrder_cons (wpAny_bindName (gy I4 hN hi (.inl hx) rv (fun s3 I5=>assignInOrder_nil (Va ?_)) (.inr hx)))
 rw[List.set_comm _ _ (V2 hij)]at I5
 exact⟨_,H1,I5,q1⟩
def Oj(i:Nat)(te:TE)(ti:LF):TS:=fun D σ H => ∃x,σ[i]?=some (some x)/\te σ H fun y H1=>ti x y H1 fun z H2=>D.nx (σ.set i (some z)) H2
theorem IO{ti:LF}(hN:X.N.Nodup)(hi:X.N[i]?=some x)(hx:v4 X.env.scope x)(he:PE X e te)(ho:NX X op ti)(hf:X.fn x=true\/X.env.scope.names.lookup x=some .local:=by first|exact .inl rfl|exact .inr rfl|assumption) :
  PS X (.AugAssign (.Name x pos') op e pos) (Oj i te ti):=by
 intro pins s σ H D I h
 obtain⟨v,e1,h⟩:=h
 obtain⟨m,hn,hl⟩:=I.loc
 have vis:jf X.env.scope x:=by rcases hx with k|k;exact .inl k;exact .inr (.inl k)
 obtain⟨u,r,l⟩:=hl i x v hi e1 vis
 refine wpAny_AugAssign_Name ?_
 have go:wpAny (model X.prog X.w) X.A (eval e X.env) (fun w s₂=>wpAny (model X.prog X.w) X.A (inplaceOp op u w) (fun r s₃=>wpAny (model X.prog X.w) X.A (storeName X.env x r) (fun _=>SP X pins D .next) X.xe s₃) X.xe s₂) X.xe s:=by
  refine aQ (he pins s σ H _ I h) fun w s1 ⟨y,H1,I1,r1,q1⟩=>?_
  refine aQ (ho pins s1 σ H1 v y u w _ I1 r r1 q1) fun z s2 ⟨zv,H2,I2,r2,q2⟩=>?_
  exact gy I2 hN hi hx r2 (fun s3 I3=>⟨_,H2,I3,q2⟩) hf
 rcases l with⟨hk,hm⟩|⟨hk,c,hc,hcell⟩
 ·exact wpAny_loadName_local I.ok.kind hk hn hm go
 ·rcases hk with hk|hk
  ·exact wpAny_loadName_cell I.ok.kind hk hc hcell go
  ·rcases hx with k|k
   ·have:X.env.scope.names.lookup x=some .free:=hk
    rw[k]at this;cases this
   ·have:X.env.scope.names.lookup x=some .free:=hk
    rw[k]at this;cases this
end
section
def HZ(c:TT)(tb:TS):TS:=fun D σ H => ∃W:Nat->St->Hp->Prop,(∃m,W m σ H)/\∀m σ H,W m σ H ->
 c σ H fun b H1=>if b=true then ∃N:St->Hp->Prop,(∀σ' H',N σ' H'->∃m',m' < m/\W m' σ' H')/\tb { D with nx:=N,ct:=N,bk:=D.nx } σ H1 else D.nx σ H1
theorem Cw(hp:PassesOwn (model X.prog X.w) X.A X.env X.xe)(hc:PT X c tc)(hb:fe X body tb):PS X (.While c body [] pos) (HZ tc tb):=by
 intro pins s σ H D I h
 obtain⟨W,⟨m0,w0⟩,turn⟩:=h
 refine wpAny_While (codeAny_whileLoop (fun n s' => ∃σ' H',aj X pins σ' H' s'/\W n σ' H') ?_ m0 ⟨σ,H,I,w0⟩)
 rintro n s1 ⟨σ1,H1,I1,w1⟩
 refine WR hp (aQ (hc pins s1 σ1 H1 _ I1 (turn n σ1 H1 w1)) fun b s2 ⟨H2,I2,q2⟩=>?_)
 cases b with
 | true =>
  obtain⟨N,hN,q2⟩:=q2
  rw[if_pos rfl]
  refine WR hp (aQ (hb pins s2 σ1 H2 _ I2 q2) fun f s3 q3=>?_)
  cases f with
  | next =>
   obtain⟨σ3,H3,I3,n3⟩:=q3
   obtain⟨m',hm,w3⟩:=hN σ3 H3 n3
   exact⟨m',hm,σ3,H3,I3,w3⟩
  | cont =>
   obtain⟨σ3,H3,I3,n3⟩:=q3
   obtain⟨m',hm,w3⟩:=hN σ3 H3 n3
   exact⟨m',hm,σ3,H3,I3,w3⟩
  | brk=>exact q3
  | ret v=>exact q3
 | false =>
  rw[if_neg Vp]
  exact W0 ⟨σ1,H2,I2,q2⟩
end
structure It where
 go:Nat->Hp->Prop
 yld:Nat->Hp->V->Hp->Prop
 stop:Nat->Hp->Prop
def gn(X:Cx)(pins:List (Addr×Obj))(H:Hp)(b:Addr):Prop :=
 H b=none/\b≠X.env.locals/\b∉X.fs/\(b∈X.ex\/X.s₀.heap.objs.size<=b)/\(∀x c,X.env.cells.lookup x=some c->c≠b)/\∀p∈X.pn++pins,p.1≠b
theorem aj.fpOk{H':Hp}(I:aj X pins σ H s)(hb:s.heap.objs.size<=b)(hn:H' b=none):gn X pins H' b:=by
 refine⟨hn,VP (Vj I.lt hb),I.nofs hb,.inr (Vl I.sz hb),fun x c e z=>?_,fun p hp z=>?_⟩
 ·obtain⟨v,q⟩:=I.cell x c e
  exact absurd (Vj q.lt (by rw[z];exact hb)) (VU _)
 ·exact absurd (Vj (Vd (I.pin p hp).1) (by rw[z];exact hb)) (VU _)
structure Turn(P:Program)(w:World)(K:W.Frag)(tg:Expr)(J:It)(fp:List Addr)(it:Addr)(tn:Nat->Heap->Prop):Prop where
 mem:it∈fp
 obj:∀i h,tn i h->∀b∈fp,∃o,h.get? b=some o/\∀v,o.data ≠ .cell v
 keep:∀i h h',tn i h->(∀b∈fp,∀o,h.get? b=some o->h'.get? b=some o)->tn i h'
 item:∀(X:Cx),X.prog=P->X.w=w->X.K=K->X.calm=true->∀(i:Nat) (pins:List (Addr×Obj)) (s:Shared) (σ:St) (H:Hp) (E:Value->Shared->Prop),aj X pins σ H s->(∀b∈fp,gn X pins H b)->tn i s.heap->J.go i H ->
  wpAny (model P w) X.A (pyNext (.ref it)) (fun r s1 => ∃u,r=some u /\
   wpAny (model P w) X.A (letOwnedTupleGo tg (.ref it) u) (fun _ s2 => ∃x H',aj X pins σ H' s2/\aX x u/\J.yld i H x H'/\tn (i+1) s2.heap/\∀b∈fp,H' b=none) E s1) E s
 done:∀(X:Cx),X.prog=P->X.w=w->X.K=K->X.calm=true->∀(i:Nat) (pins:List (Addr×Obj)) (s:Shared) (σ:St) (H:Hp) (E:Value->Shared->Prop),aj X pins σ H s->(∀b∈fp,gn X pins H b)->tn i s.heap->J.stop i H ->
  wpAny (model P w) X.A (pyNext (.ref it)) (fun r s1=>r=none/\aj X pins σ H s1) E s
 self:∀(A:Around) (i:Nat) (s:Shared) (Q:Value->Shared->Prop) (E:Value->Shared->Prop),tn i s.heap->Q (.ref it) s->wpAny (model P w) A (pyIter (.ref it)) Q E s
abbrev TI:=St->Hp->(It->Hp->Prop)->Prop
def NY(X:Cx)(pins:List (Addr×Obj))(σ:St)(tg:Expr)(R:It->Hp->Prop)(itv:Value)(s2:Shared):Prop :=
 ∃(it:Addr) (fp:List Addr) (tn:Nat->Heap->Prop) (J:It) (H':Hp),itv=.ref it/\aj X pins σ H' s2/\Turn X.prog X.w X.K tg J fp it tn/\tn 0 s2.heap/\(∀b∈fp,gn X pins H' b)/\R J H'
def PI(X:Cx)(tg iter:Expr)(wi:TI):Prop :=
 ∀(pins:List (Addr×Obj)) (s:Shared) (σ:St) (H:Hp) (R:It->Hp->Prop),aj X pins σ H s->wi σ H R ->
  wpAny (model X.prog X.w) X.A (eval iter X.env) (fun v s1=>wpAny (model X.prog X.w) X.A (pyIter v) (NY X pins σ tg R) X.xe s1) X.xe s
theorem qt{n:String}{vs:Array Value}{Q:Unit->Shared->Prop}(ho:s.heap.get? it=some o)(hc:o.cls=.type n)(hd:o.data=.fields vs)
    (hn:["enumerate", "zip", "dict_itemiterator", "dict_reverseitemiterator", "odict_iterator", "itertools.zip_longest", "itertools.pairwise"].contains n=false) (hQ:Q () s):wpAny M A (letOwnedTupleGo tg (.ref it) u) Q E s:=by
  unfold letOwnedTupleGo
  cases tg<;>first
    | exact Va hQ
    | (cases u<;>first
        | exact Va hQ
        | (refine U8 (wpAny_load ho ?_)
           rw[hc,hd]
           show wpAny M A (if (["enumerate", "zip", "dict_itemiterator", "dict_reverseitemiterator", "odict_iterator", "itertools.zip_longest", "itertools.pairwise"].contains n&&vs[0]? == some (rawInt _))=true then _ else _) Q E s
           rw[if_neg (by intro h;rw[hn,Bool.false_and]at h;cases h)]
           exact Va hQ))
def N0(K:W.Frag)(a:Addr):It :=
 ⟨fun i H => ∃xs x,cn K H a xs/\xs[i]?=some x,fun i H x H'=>H'=H/\∀xs,cn K H a xs->xs[i]?=some x,fun i H => ∃xs,cn K H a xs/\xs.length<=i⟩
def NZ(K:W.Frag)(a:Addr):It :=
 ⟨fun i H => ∃xs x,cD K H a xs/\xs[i]?=some x,fun i H x H'=>H'=H/\∀xs,cD K H a xs->xs[i]?=some x,fun i H => ∃xs,cD K H a xs/\xs.length<=i⟩
def Fc(lo:Int)(n:Nat):It:=⟨fun i _=>i<n,fun i H x H'=>H'=H/\x=.int (lo+i),fun i _=>n<=i⟩
theorem zZ(a it:Addr):Turn P w K tg (N0 K a) [it] it (fun i h=>h.IsListIter it a i) where
 mem:=by simp
 obj:=fun i h st b hb=>by
  have e:b=it:=by simpa using hb
  subst e
  obtain⟨o,e,c,d⟩:=st
  exact⟨o,e,fun v z=>by rw[d]at z;cases z⟩
 keep:=fun i h h' st k=>st.at fun o e=>k it (by simp) o e
 item:=by
  intro X hP hw hK hc i pins s σ H E I hf st hg
  subst hP hw hK
  obtain⟨xs,x,hq,hx⟩:=hg
  obtain⟨its,rv,p,hz⟩:=I.list hq
  obtain⟨u,hu,ru⟩:=rv.get hx
  obtain⟨f0,f1,f2,f3,f4,f5⟩:=hf it (by simp)
  refine wpAny_pyNext_list_item st p.isList (x:=u) (by simpa using hu) fun h' st' sb=>?_
  have I1:aj X pins σ H { s with heap:=h' }:=I.turned (t':=s.toks) (fun b o hb e=>(sb.2 b hb).trans e) f0 f1 f3 f4 f5
  obtain⟨o,e,c,d⟩:=id st'
  exact⟨u,rfl,qt (s:={ s with heap:=h' }) e c d (by decide) ⟨x,H,I1,ru,⟨rfl,fun ys hy=>by rw[I.list_inj hy hq];exact hx⟩,st',fun b hb=>(hf b hb).1⟩⟩
 done:=by
  intro X hP hw hK hc i pins s σ H E I hf st hg
  subst hP hw hK
  obtain⟨xs,hq,hx⟩:=hg
  obtain⟨its,rv,p,hz⟩:=I.list hq
  obtain⟨f0,f1,f2,f3,f4,f5⟩:=hf it (by simp)
  have hl:=rv.length
  exact wpAny_pyNext_list_end (I.ok.hd hc) st p.isList (by simp;omega) fun h' eb=>⟨rfl,I.turned (t':=s.toks) (fun b o hb e=>eb b o hb e) f0 f1 f3 f4 f5⟩
 self:=fun _ _ _ _ _ st h=>wpAny_pyIter_listiter st h
theorem yc(a it:Addr):Turn P w K tg (NZ K a) [it] it (fun i h=>h.IsTupleIter it a i) where
 mem:=by simp
 obj:=fun i h st b hb=>by
  have e:b=it:=by simpa using hb
  subst e
  obtain⟨o,e,c,d⟩:=st
  exact⟨o,e,fun v z=>by rw[d]at z;cases z⟩
 keep:=fun i h h' st k=>st.at fun o e=>k it (by simp) o e
 item:=by
  intro X hP hw hK hc i pins s σ H E I hf st hg
  subst hP hw hK
  obtain⟨xs,x,hq,hx⟩:=hg
  obtain⟨its,rv,p,hz⟩:=I.tuple hq
  obtain⟨u,hu,ru⟩:=rv.get hx
  obtain⟨f0,f1,f2,f3,f4,f5⟩:=hf it (by simp)
  refine wpAny_pyNext_tuple_item st (show s.heap.IsTuple a its.toArray from p) (x:=u) (by simpa using hu) fun h' st' sb=>?_
  have I1:aj X pins σ H { s with heap:=h' }:=I.turned (t':=s.toks) (fun b o hb e=>(sb.2 b hb).trans e) f0 f1 f3 f4 f5
  obtain⟨o,e,c,d⟩:=id st'
  exact⟨u,rfl,qt (s:={ s with heap:=h' }) e c d (by decide) ⟨x,H,I1,ru,⟨rfl,fun ys hy=>by rw[I.tuple_inj hy hq];exact hx⟩,st',fun b hb=>(hf b hb).1⟩⟩
 done:=by
  intro X hP hw hK hc i pins s σ H E I hf st hg
  subst hP hw hK
  obtain⟨xs,hq,hx⟩:=hg
  obtain⟨its,rv,p,hz⟩:=I.tuple hq
  obtain⟨f0,f1,f2,f3,f4,f5⟩:=hf it (by simp)
  have hl:=rv.length
  exact wpAny_pyNext_tuple_end (I.ok.hd hc) st (show s.heap.IsTuple a its.toArray from p) (by simp;omega) fun h' eb=>⟨rfl,I.turned (t':=s.toks) (fun b o hb e=>eb b o hb e) f0 f1 f3 f4 f5⟩
 self:=fun _ _ _ _ _ st h=>wpAny_pyIter_tupleiter st h
theorem yd(it:Addr)(lo:Int)(n:Nat):Turn P w K tg (Fc lo n) [it] it (fun i h=>IsRangeIter h it (lo+(i:Nat)*1) ((n:Int)-(i:Nat)) 1) where
 mem:=by simp
 obj:=fun i h st b hb=>by
  have e:b=it:=by simpa using hb
  subst e
  exact⟨_,st,fun v z=>by
   have z':Data.fields _=Data.cell v:=z
   cases z'⟩
 keep:=fun i h h' st k=>k it (by simp) _ st
 item:=by
  intro X hP hw hK hc i pins s σ H E I hf st hg
  subst hP hw hK
  obtain⟨f0,f1,f2,f3,f4,f5⟩:=hf it (by simp)
  have W:=Walks.range (prog:=X.prog) (w:=X.w) (I.ok.hd hc) it lo 1 n
  refine W.item i s _ _ hg st fun v h' tk hv st' kk=>?_
  obtain⟨t,rfl⟩:=hv
  have I1:aj X pins σ H { s with heap:=h',toks:=tk }:=I.turned (fun b o hb e=>kk b o (by simpa using hb) e) f0 f1 f3 f4 f5
  refine⟨_,rfl,qt (s:={ s with heap:=h',toks:=tk }) (n := "range_iterator") st' rfl rfl (by decide) ⟨.int (lo+i),H,I1,⟨t,?_⟩,⟨rfl,rfl⟩,st',fun b hb=>(hf b hb).1⟩⟩
  rw[Xu]
 done:=by
  intro X hP hw hK hc i pins s σ H E I hf st hg
  subst hP hw hK
  obtain⟨f0,f1,f2,f3,f4,f5⟩:=hf it (by simp)
  exact wpAny_pyNext_range_end (I.ok.hd hc) st (by have:n<=i:=hg;omega) fun h' eb=>⟨rfl,I.turned (t':=s.toks) (fun b o hb e=>eb b o hb e) f0 f1 f3 f4 f5⟩
 self:=fun _ _ _ _ _ st h=>wpAny_pyIter_rangeiter st h
section
def Nk(K:W.Frag)(tl:TE):TI:=fun σ H R=>tl σ H fun x H1 => ∃a,x=.ref a/\(∃xs,cn K H1 a xs)/\R (N0 K a) H1
def Sn(K:W.Frag)(tl:TE):TI:=fun σ H R=>tl σ H fun x H1 => ∃a,x=.ref a/\(∃xs,cD K H1 a xs)/\R (NZ K a) H1
theorem FV(hl:PE X l tl):PI X tg l (Nk X.K tl):=by
 intro pins s σ H R I h
 refine aQ (hl pins s σ H _ I h) fun v s1 ⟨x,H1,I1,r1,q1⟩=>?_
 obtain⟨a,e,⟨xs,hq⟩,q⟩:=q1
 subst e
 cases r1
 obtain⟨its,rv,p,hz⟩:=I1.list hq
 refine Wn p.isList ?_
 refine⟨s1.heap.objs.size,[s1.heap.objs.size],_,_,H1,rfl,I1.kept (t':=s1.toks) fun b o e=>U9 _ e,zZ a _,⟨_,Vg _ rfl,rfl,rfl⟩,fun b hb=>?_,q⟩
 have e:b=s1.heap.objs.size:=by simpa using hb
 subst e
 exact I1.fpOk (Vf _) (I1.hok.fresh (Vf _))
theorem IU(hl:PE X l tl):PI X tg l (Sn X.K tl):=by
 intro pins s σ H R I h
 refine aQ (hl pins s σ H _ I h) fun v s1 ⟨x,H1,I1,r1,q1⟩=>?_
 obtain⟨a,e,⟨xs,hq⟩,q⟩:=q1
 subst e
 cases r1
 obtain⟨its,rv,p,hz⟩:=I1.tuple hq
 refine V4 (show s1.heap.IsTuple a its.toArray from p) ?_
 refine⟨s1.heap.objs.size,[s1.heap.objs.size],_,_,H1,rfl,I1.kept (t':=s1.toks) fun b o e=>U9 _ e,yc a _,⟨_,Vg _ rfl,rfl,rfl⟩,fun b hb=>?_,q⟩
 have e:b=s1.heap.objs.size:=by simpa using hb
 subst e
 exact I1.fpOk (Vf _) (I1.hok.fresh (Vf _))
theorem ul{R:It->Hp->Prop}{lo hi:Int}{t u v:Tok}{tk:Nat}(I:aj X pins σ H s)(h1:-(2 ^ 62)<=lo)(h2:lo<2 ^ 62)(h3:-(2 ^ 62)<=hi)(h4:hi<2 ^ 62)
  (q:R (Fc lo (hi-lo).toNat) H):wpAny (model X.prog X.w) X.A (pyIter (.ref s.heap.objs.size)) (NY X pins σ tg R) E { s with heap:=s.heap.push { cls:=.type "range", data:=.fields #[.int lo t,.int hi u,.int 1 v] },toks:=tk }:=by
 refine wpAny_pyIter_range (IsRange.new ..) (small_one h1 h2 h3 h4) ?_
 have I1:aj X pins σ H { s with heap:=s.heap.push { cls:=.type "range", data:=.fields #[.int lo t,.int hi u,.int 1 v] },toks:=tk }:=I.kept fun b o e=>U9 _ e
 refine⟨(s.heap.push { cls:=.type "range", data:=.fields #[.int lo t,.int hi u,.int 1 v] }).objs.size,[(s.heap.push { cls:=.type "range", data:=.fields #[.int lo t,.int hi u,.int 1 v] }).objs.size],_,_,H,rfl,
  I1.kept (t':=tk) fun b o e=>U9 _ e,yd _ lo (hi-lo).toNat,?_,fun b hb=>?_,q⟩
 ·have e1:lo+((0:Nat):Int)*1=lo:=by simp
  have e2:(((hi-lo).toNat:Nat):Int)-((0:Nat):Int)=Builtin.Range.rangeSize lo hi 1:=by rw[rangeSize_one];split<;>omega
  show IsRangeIter _ _ (lo+((0:Nat):Int)*1) ((((hi-lo).toNat:Nat):Int)-((0:Nat):Int)) 1
  rw[e1,e2]
  exact Vg _ rfl
 ·have e:b=(s.heap.push { cls:=.type "range", data:=.fields #[.int lo t,.int hi u,.int 1 v] }).objs.size:=by simpa using hb
  subst e
  exact I1.fpOk (Vf _) (I1.hok.fresh (Vf _))
def Nj(ta:TA):TI:=fun σ H R=>ta σ H fun vs H1 => ∃j:Int,vs=[.int j] /\ -(2 ^ 62)<=j/\j<2 ^ 62/\R (Fc 0 j.toNat) H1
def Ni(ta:TA):TI:=fun σ H R=>ta σ H fun vs H1 => ∃i j:Int,vs=[.int i,.int j]/\(-(2 ^ 62)<=i/\i<2 ^ 62 /\ -(2 ^ 62)<=j/\j<2 ^ 62)/\R (Fc i (j-i).toNat) H1
theorem At{a:Expr}(hg:Gl X "range")(hm:X.mg "range" = none)(ha:PA X [a] ta)(hs:starEach [a] X.env=[(false,eval a X.env)]:=by rfl):PI X tg (.Call (.Name "range" p) [a] [] pos) (Nj ta):=by
 intro pins s σ H R I h
 refine Call_ (dH I hg hm boot_range (VG (aQ (ha pos pins s σ H _ I h) fun us s1 ⟨vs,H1,I1,r1,q1⟩=>?_) hs rfl))
 obtain⟨j,e,q1,q2,q⟩:=q1
 subst e
 cases r1 with
 | cons r rr =>
  cases rr
  obtain⟨t,rfl⟩:=r
  exact call_range_1 (ul I1 (by omega) (by omega) q1 q2 (by simpa using q))
theorem As{a b:Expr}(hg:Gl X "range")(hm:X.mg "range" = none)(ha:PA X [a,b] ta)(hs:starEach [a,b] X.env=[(false,eval a X.env),(false,eval b X.env)]:=by rfl)(hs2:starEach [b] X.env=[(false,eval b X.env)]:=by rfl) :
  PI X tg (.Call (.Name "range" p) [a,b] [] pos) (Ni ta):=by
 intro pins s σ H R I h
 refine Call_ (dH I hg hm boot_range (VG (aQ (ha pos pins s σ H _ I h) fun us s1 ⟨vs,H1,I1,r1,q1⟩=>?_) (by rw[hs,hs2]) (by rw[hs2];rfl)))
 obtain⟨i,j,e,⟨q1,q2,q3,q4⟩,q⟩:=q1
 subst e
 cases r1 with
 | cons r rr =>
  cases rr with
  | cons r' rr =>
   cases rr
   obtain⟨t,rfl⟩:=r
   obtain⟨t',rfl⟩:=r'
   exact call_range_2 (ul I1 q1 q2 q3 q4 q)
def Og(wi:TI)(g:TG)(tb:TS):TS:=fun D σ H=>wi σ H fun J H1 => ∃W:Nat->Nat->St->Hp->Prop,(∃m,W 0 m σ H1)/\∀i m σ H,W i m σ H ->
 (J.stop i H/\D.nx σ H)\/(J.go i H/\∃N:St->Hp->Prop,(∀σ' H',N σ' H'->∃m',m' < m/\W (i+1) m' σ' H')/\∀x H',J.yld i H x H'->g x σ H' fun σ2 H2=>tb { D with nx:=N,ct:=N,bk:=D.nx } σ2 H2)
def me(fp:List Addr)(h:Heap):List (Addr×Obj):=fp.filterMap fun b=>(h.get? b).map fun o=>(b,o)
theorem iC(hb:b∈fp)(e:h.get? b=some o):(b,o)∈me fp h:=List.mem_filterMap.mpr ⟨b,hb,by rw[e];rfl⟩
theorem AE{p:Addr×Obj}(hp:p∈me fp h):p.1∈fp/\h.get? p.1=some p.2:=by
 obtain⟨b,hb,e⟩:=List.mem_filterMap.mp hp
 cases q:h.get? b with
 | none=>rw[q]at e;cases e
 | some o =>
  rw[q]at e
  have e':(b,o)=p:=VA e
  subst e'
  exact⟨hb,q⟩
theorem aj.pinned(I:aj X pins σ H s)(hf:∀b∈fp,gn X pins H b)(ho:∀b∈fp,∃o,s.heap.get? b=some o/\∀v,o.data ≠ .cell v):aj X (pins++me fp s.heap) σ H s :=
 I.pins_of fun p hp=>(Xj.mp hp).elim (fun z=>I.pin p (VD _ z)) fun z=>by
  obtain⟨hb,e⟩:=AE z
  obtain⟨f0,f1,f2,_⟩:=hf p.1 hb
  obtain⟨o,e',d⟩:=ho p.1 hb
  rw[e]at e';cases e'
  exact⟨e,f0,f1,f2,d⟩
theorem aj.unpinned{pl:List (Addr×Obj)}(I:aj X (pins++pl) σ H s):aj X pins σ H s:=I.pins_of fun p hp=>I.pin p (VD _ (List.mem_append_left _ hp))
theorem ut{iter:Expr}{wi:TI}{g:TG}(hp:PassesOwn (model X.prog X.w) X.A X.env X.xe)(hc:X.calm=true)(hi:PI X tg iter wi)(hg:PG X tg g)(hb:fe X body tb)
  (hs:∀x,foldedSetIterable iter X.env x=pure x:=by intro _;rfl):PS X (.For tg iter body [] pos) (Og wi g tb):=by
 intro pins s σ H D I h
 refine wpAny_For (aQ (hi pins s σ H _ I h) fun v s1 h1=>aQ h1 fun itv s2 h2=>?_) hs
 obtain⟨it,fp,tn,J,H2,e,I2,T,st2,f2,W,⟨m0,w0⟩,turn⟩:=h2
 subst e
 have stat:∀{H':Hp},(∀b∈fp,H' b=none)->∀b∈fp,gn X pins H' b:=fun hn b hb=>⟨hn b hb,(f2 b hb).2⟩
 refine codeAny_forLoop_any (fun n s' => ∃i σ' H',aj X pins σ' H' s'/\tn i s'.heap/\(∀b∈fp,H' b=none)/\W i n σ' H') ?_ m0 ⟨0,σ,H2,I2,st2,fun b hb=>(f2 b hb).1,w0⟩
 rintro n s3 ⟨i,σ3,H3,I3,st3,fr3,w3⟩
 rcases turn i n σ3 H3 w3 with⟨stop,qn⟩|⟨go,N,hN,step⟩
 ·refine WR hp (aQ (T.done X rfl rfl rfl hc i pins s3 σ3 H3 X.xe I3 (stat fr3) st3 stop) fun r s4 ⟨hr,I4⟩=>?_)
  subst hr
  exact W0 ⟨σ3,H3,I4,qn⟩
 ·refine WR hp (aQ (T.item X rfl rfl rfl hc i pins s3 σ3 H3 X.xe I3 (stat fr3) st3 go) fun r s4 ⟨u,hr,h4⟩=>?_)
  subst hr
  refine WR hp (aQ h4 fun _ s5 ⟨x,H5,I5,r5,y5,st5,fr5⟩=>?_)
  have I5':=I5.pinned (stat fr5) (T.obj _ _ st5)
  refine WR hp (aQ (hg _ s5 σ3 H5 x u _ I5' r5 (step x H5 y5)) fun _ s6 ⟨σ6,H6,I6,q6⟩=>?_)
  refine WR hp (aQ (hb _ s6 σ6 H6 _ I6 q6) fun f s7 q7=>?_)
  have again:∀{σ7:St} {H7:Hp},aj X (pins++me fp s5.heap) σ7 H7 s7->N σ7 H7->∃m,m<n/\∃i σ' H',aj X pins σ' H' s7/\tn i s7.heap/\(∀b∈fp,H' b=none)/\W i m σ' H':=fun {σ7 H7} I7 n7=>by
   obtain⟨m',hm,w7⟩:=hN σ7 H7 n7
   refine⟨m',hm,i+1,σ7,H7,I7.unpinned,T.keep _ _ _ st5 fun b hb o e=>(I7.pin (b,o) (VD _ (VD _ (iC hb e)))).1,fun b hb=>?_,w7⟩
   obtain⟨o,e,d⟩:=T.obj _ _ st5 b hb
   exact(I7.pin (b,o) (VD _ (VD _ (iC hb e)))).2.1
  cases f with
  | next=>obtain⟨σ7,H7,I7,n7⟩:=q7;exact again I7 n7
  | cont=>obtain⟨σ7,H7,I7,n7⟩:=q7;exact again I7 n7
  | brk=>obtain⟨σ7,H7,I7,q7⟩:=q7;exact⟨σ7,H7,I7.unpinned,q7⟩
  | ret v=>obtain⟨x7,σ7,H7,I7,r7,q7⟩:=q7;exact⟨x7,σ7,H7,I7.unpinned,r7,q7⟩
end
abbrev R2:=V->V->Hp->VK->Prop
def du(X:Cx)(f:Value->Value->Sem Value)(r:R2):Prop :=
 ∀(pins:List (Addr×Obj)) (s:Shared) (σ:St) (H:Hp) (x y:V) (v u:Value) (Q:VK),aj X pins σ H s->aX x v->aX y u->r x y H Q ->
  wpAny (model X.prog X.w) X.A (f v u) (EP X pins σ Q) X.xe s
def LD(X:Cx)(f:Value->Sem Value)(r:V->Hp->VK->Prop):Prop :=
 ∀(pins:List (Addr×Obj)) (s:Shared) (σ:St) (H:Hp) (x:V) (v:Value) (Q:VK),aj X pins σ H s->aX x v->r x H Q ->
  wpAny (model X.prog X.w) X.A (f v) (EP X pins σ Q) X.xe s
def eL(X:Cx)(f:Value)(r:List V->Hp->VK->Prop):Prop :=
 ∀(pins:List (Addr×Obj)) (s:Shared) (σ:St) (H:Hp) (xs:List V) (us:List Value) (Q:VK),aj X pins σ H s->aP xs us->r xs H Q ->
  wpAny (model X.prog X.w) X.A (call f us) (EP X pins σ Q) X.xe s
def NP(r:R2)(ta tb:TE):TE:=fun σ H Q=>ta σ H fun x H1=>tb σ H1 fun y H2=>r x y H2 Q
def UL(r:V->Hp->VK->Prop)(ta:TE):TE:=fun σ H Q=>ta σ H fun x H1=>r x H1 Q
def rI(C:Int->Int->Prop)(g:Int->Int->V):R2:=fun x y H Q => ∃i j,x=.int i/\y=.int j/\C i j/\Q (g i j) H
def ly(g:Int->Int->V):R2:=fun x y H Q => ∃i j,x=.int i/\y=.int j/\Q (g i j) H
def rU(g:Int->V):V->Hp->VK->Prop:=fun x H Q => ∃i,x=.int i/\Q (g i) H
section
variable{a b:Expr}{ta tb tc:TE}
theorem Lr(ha:PE X a ta)(hb:PE X b tb)(I:aj X pins σ H s)
  (h:ta σ H fun x H1=>tb σ H1 fun y H2=>R x y H2)
  (hf:∀v u s2 x y H2,aj X pins σ H2 s2->aX x v->aX y u->R x y H2->wpAny (model X.prog X.w) X.A (f v u) Q X.xe s2) :
  wpAny (model X.prog X.w) X.A (eval a X.env) (fun v s₁=>wpAny (model X.prog X.w) X.A (eval b X.env) (fun u s₂=>wpAny (model X.prog X.w) X.A (f v u) Q X.xe s₂) X.xe s₁) X.xe s:=by
 refine aQ (ha pins s σ H _ I h) fun v s1 ⟨x,H1,I1,r1,q1⟩=>?_
 refine aQ (hb pins s1 σ H1 _ I1 q1) fun u s2 ⟨y,H2,I2,r2,q2⟩=>?_
 exact hf v u s2 x y H2 I2 r1 r2 q2
theorem El{r:R2}(ho:du X (binaryOp op) r)(ha:PE X a ta)(hb:PE X b tb):PE X (.BinOp a op b pos) (NP r ta tb):=by
 intro pins s σ H Q I h
 exact wpAny_BinOp (Lr ha hb I h fun v u s2 x y H2 I2 rx ry q=>ho pins s2 σ H2 x y v u Q I2 rx ry q)
theorem MR{op:UnaryOp}{r:V->Hp->VK->Prop}(ho:LD X (unaryOp op) r)(ha:PE X a ta):PE X (.UnaryOp op a pos) (UL r ta):=by
 intro pins s σ H Q I h
 exact UnaryOp_ (aQ (ha pins s σ H _ I h) fun v s1 ⟨x,H1,I1,r1,q1⟩=>ho pins s1 σ H1 x v Q I1 r1 q1)
theorem wS{C:Int->Int->Prop}
  (rule:∀(i j:Int) (t u:Tok) (s:Shared) (Q:Value->Shared->Prop) (E:Value->Shared->Prop),C i j->Q (.int (g i j) s.toks) { s with toks:=s.toks+1 }->wpAny (model X.prog X.w) X.A (f (.int i t) (.int j u)) Q E s) :
  du X f (rI C fun i j=>.int (g i j)):=by
 intro pins s σ H x y v u Q I rx ry h
 obtain⟨i,j,rfl,rfl,hc,q⟩:=h
 obtain⟨t,rfl⟩:=rx
 obtain⟨t',rfl⟩:=ry
 exact rule i j t t' s _ _ hc ⟨.int (g i j),H,I.tok _,⟨_,rfl⟩,q⟩
theorem yB
  (rule:∀(i j:Int) (t u:Tok) (s:Shared) (Q:Value->Shared->Prop) (E:Value->Shared->Prop),Q (.int (g i j) s.toks) { s with toks:=s.toks+1 }->wpAny (model X.prog X.w) X.A (f (.int i t) (.int j u)) Q E s) :
  du X f (ly fun i j=>.int (g i j)):=by
 intro pins s σ H x y v u Q I rx ry h
 obtain⟨i,j,rfl,rfl,q⟩:=h
 obtain⟨t,rfl⟩:=rx
 obtain⟨t',rfl⟩:=ry
 exact rule i j t t' s _ _ ⟨.int (g i j),H,I.tok _,⟨_,rfl⟩,q⟩
theorem yC{g:Int->Int->Bool}
  (rule:∀(i j:Int) (t u:Tok) (s:Shared) (Q:Value->Shared->Prop) (E:Value->Shared->Prop),Q (.bool (g i j)) s->wpAny (model X.prog X.w) X.A (f (.int i t) (.int j u)) Q E s) :
  du X f (ly fun i j=>.bl (g i j)):=by
 intro pins s σ H x y v u Q I rx ry h
 obtain⟨i,j,rfl,rfl,q⟩:=h
 obtain⟨t,rfl⟩:=rx
 obtain⟨t',rfl⟩:=ry
 exact rule i j t t' s _ _ ⟨.bl (g i j),H,I,rfl,q⟩
def UH(i j:Int):Prop:=0<=j/\j<=1000000/\i.natAbs<2 ^ 64
theorem Jp:du X (binaryOp .Add) (ly fun i j=>.int (i+j)):=yB fun _ _ _ _ _ _ _ q=>add_int q
theorem Jm:du X (binaryOp .Sub) (ly fun i j=>.int (i-j)):=yB fun _ _ _ _ _ _ _ q=>sub_int q
theorem F3:du X (binaryOp .Mod) (rI (fun _ j=>j≠0) fun i j=>.int (i.fmod j)):=wS fun _ _ _ _ _ _ _ hc q=>mod_int' hc q
theorem Jn:du X (binaryOp .Pow) (rI UH fun i j=>.int (i ^ j.toNat)):=wS fun _ _ _ _ _ _ _ hc q=>pow_int_small hc.1 hc.2.1 hc.2.2 q
theorem Gp:du X (inplaceOp .Add) (ly fun i j=>.int (i+j)):=yB fun _ _ _ _ _ _ _ q=>iadd_int q
theorem Go:du X (inplaceOp .Sub) (ly fun i j=>.int (i-j)):=yB fun _ _ _ _ _ _ _ q=>isub_int q
theorem UJ{f:Value->Sem Value}{g:Int->Int}
  (rule:∀(i:Int) (t:Tok) (s:Shared) (Q:Value->Shared->Prop) (E:Value->Shared->Prop),Q (.int (g i) s.toks) { s with toks:=s.toks+1 }->wpAny (model X.prog X.w) X.A (f (.int i t)) Q E s) :
  LD X f (rU fun i=>.int (g i)):=by
 intro pins s σ H x v Q I rx h
 obtain⟨i,rfl,q⟩:=h
 obtain⟨t,rfl⟩:=rx
 exact rule i t s _ _ ⟨.int (g i),H,I.tok _,⟨_,rfl⟩,q⟩
theorem HE:LD X (unaryOp .USub) (rU fun i=>.int (-i)):=UJ fun _ _ _ _ _ q=>neg_int q
end
section
variable{a b:Expr}{ta tb tc:TE}
theorem Bj{Q:VK}{k k':Bool}(I:aj X pins σ H s)(q:Q (.bl k) H)(e:k=k'):EP X pins σ Q (.bool k') s:=by
 subst e
 exact⟨.bl k,H,I,rfl,q⟩
theorem MT:du X (compareOp .Lt) (ly fun i j=>.bl (decide (i<j))):=yC fun _ _ _ _ _ _ _ q=>lt_int q
theorem MU:du X (compareOp .LtE) (ly fun i j=>.bl (decide (i<=j))):=yC fun _ _ _ _ _ _ _ q=>le_int q
theorem MV:du X (compareOp .Gt) (ly fun i j=>.bl (decide (j<i))):=yC fun _ _ _ _ _ _ _ q=>gt_int q
theorem MW:du X (compareOp .GtE) (ly fun i j=>.bl (decide (j<=i))):=yC fun _ _ _ _ _ _ _ q=>ge_int q
theorem Jo:du X (compareOp .Is) (fun x y H Q=>y=.non/\Q (.bl (decide (x=.non))) H):=by
 intro pins s σ H x y v u Q I rx ry h
 obtain⟨rfl,q⟩:=h
 cases ry
 refine is_none_gen (Bj I q ?_)
 cases x<;>first
  | (cases rx;rfl)
  | (obtain⟨t,rfl⟩:=rx;rfl)
theorem F1:du X (compareOp .IsNot) (fun x y H Q=>y=.non/\Q (.bl (!decide (x=.non))) H):=by
 intro pins s σ H x y v u Q I rx ry h
 obtain⟨rfl,q⟩:=h
 cases ry
 refine isnot_none_gen (Bj I q ?_)
 cases x<;>first
  | (cases rx;rfl)
  | (obtain⟨t,rfl⟩:=rx;rfl)
def Mj(t:TE):TT:=fun σ H Q=>t σ H fun x H' => ∃k,x=.bl k/\Q k H'
def Af(r r':R2)(ta tb tc:TE):TE:=fun σ H Q=>ta σ H fun x H1=>tb σ H1 fun y H2=>r x y H2 fun z H3 => ∃k,z=.bl k /\
 (if k=true then tc σ H3 fun w' H4=>r' y w' H4 Q else Q (.bl false) H3)
theorem CB{op:CmpOp}{r r':R2}(ho:du X (compareOp op) r)(ho':du X (compareOp op') r')(ha:PE X a ta)(hb:PE X b tb)(hc:PE X c tc)
  (hm:lastMarks [op,op'] [b,c]=false:=by with_unfolding_all rfl):PE X (.Compare a [op,op'] [b,c] pos) (Af r r' ta tb tc):=by
 intro pins s σ H Q I h
 refine Compare_chain (aQ (ha pins s σ H _ I h) fun v s1 ⟨x,H1,I1,r1,q1⟩=>chain_link (aQ (hb pins s1 σ H1 _ I1 q1) fun u s2 ⟨y,H2,I2,r2,q2⟩ =>
  aQ (ho pins s2 σ H2 x y v u _ I2 r1 r2 q2) fun d s3 ⟨z,H3,I3,r3,k,e,q3⟩=>?_)) hm
 subst e
 cases r3
 refine Wl ?_
 cases k with
 | false=>exact ite_ff ⟨.bl false,H3,I3,rfl,q3⟩
 | true=>exact ite_tt (chain_last (aQ (hc pins s3 σ H3 _ I3 q3) fun w' s4 ⟨z',H4,I4,r4,q4⟩=>ho' pins s4 σ H4 y z' u w' Q I4 r2 r4 q4))
theorem Cv{op:CmpOp}{r r':R2}(ho:du X (compareOp op) r)(ho':du X (compareOp op') r')(ha:PE X a ta)(hb:PE X b tb)(hc:PE X c tc)
  (hm:lastMarks [op,op'] [b,c]=false:=by with_unfolding_all rfl):PT X (.Compare a [op,op'] [b,c] pos) (Mj (Af r r' ta tb tc)):=by
 intro pins s σ H Q I h
 refine isTrue_chain (aQ (ha pins s σ H _ I h) fun v s1 ⟨x,H1,I1,r1,q1⟩=>test_link (aQ (hb pins s1 σ H1 _ I1 q1) fun u s2 ⟨y,H2,I2,r2,q2⟩ =>
  aQ (ho pins s2 σ H2 x y v u _ I2 r1 r2 q2) fun d s3 ⟨z,H3,I3,r3,k,e,q3⟩=>?_)) hm
 subst e
 cases r3
 refine Wl ?_
 cases k with
 | false =>
  obtain⟨k',e',q'⟩:=q3
  cases e'
  exact ite_ff ⟨H3,I3,q'⟩
 | true =>
  refine ite_tt (test_last (aQ (hc pins s3 σ H3 _ I3 q3) fun w' s4 ⟨z',H4,I4,r4,q4⟩=>aQ (ho' pins s4 σ H4 y z' u w' _ I4 r2 r4 q4) fun d' s5 ⟨z2,H5,I5,r5,k2,e2,q5⟩=>?_))
  subst e2
  cases r5
  exact Wl ⟨H5,I5,q5⟩
theorem mv:(sizeLine:Nat)<2 ^ 63:=by rw[WG];decide
theorem ee{x:V}(r:aP [x] us):∃u,us=[u]/\aX x u:=by
 cases r with
 | cons r1 r2=>cases r2;exact⟨_,rfl,r1⟩
theorem nl{x:V}(r:aP [x,y] us):∃u w',us=[u,w']/\aX x u/\aX y w':=by
 cases r with
 | cons r1 r2 =>
  cases r2 with
  | cons r3 r4=>cases r4;exact⟨_,_,rfl,r1,r3⟩
theorem Dt:eL X (.builtin "abs") (fun xs H Q => ∃i,xs=[.int i]/\Q (.int (if i<0 then -i else i)) H):=by
 intro pins s σ H xs us Q I r h
 obtain⟨i,rfl,q⟩:=h
 obtain⟨u,rfl,t,rfl⟩:=ee r
 exact call_abs_int fun u tk=>⟨.int (if i<0 then -i else i),H,I.tok _,⟨_,rfl⟩,q⟩
theorem sK:eL X (.type "int") (fun xs H Q=>(∃i,xs=[.int i]/\Q (.int i) H)\/∃k,xs=[.bl k]/\Q (.int (if k then 1 else 0)) H):=by
 intro pins s σ H xs us Q I r h
 rcases h with⟨i,rfl,q⟩|⟨k,rfl,q⟩
 ·obtain⟨u,rfl,t,rfl⟩:=ee r
  exact call_int_int ⟨.int i,H,I,⟨_,rfl⟩,q⟩
 ·obtain⟨u,rfl,r1⟩:=ee r
  cases r1
  exact call_int_bool ⟨.int (if k then 1 else 0),H,I.tok _,⟨_,rfl⟩,q⟩
end
structure zx(h:Heap)(x dx C:Addr)(mA:Str->Option Value):Prop where
 obj:h.get? x=some (W.instObj C dx)
 ns:h.Ns1 dx mA
 ne:dx≠x
theorem sx(n:h.Ns1 dx mA):∃od,h.get? dx=some od/\∀name,W.lookIn name od=some (mA name):=by
 obtain⟨o,es,ep,ho,hd,hk,_,hm⟩:=n
 refine⟨o,ho,fun name=>?_⟩
 have e:=hm name
 unfold nsFind findBy at e
 rw[<- Array.find?_toList]at e
 unfold W.lookIn
 rw[hd]
 dsimp only
 split
 ·rename_i y q
  rw[q]at e
  exact V0 some e
 ·rename_i q
  rw[q]at e
  have a:es.toList.any (·.refKey)=false:=by
   rw[List.any_eq_false]
   intro y hy
   obtain⟨z,t,hkey⟩:=hk y (Array.mem_toList_iff.mp hy)
   simp[DictEntry.refKey,hkey]
  have a':¬ es.toList.any (·.refKey)=true:=by rw[a];exact Vp
  rw[if_neg a']
  exact V0 some e
theorem zx.look{x:Addr}(I:zx h x dx C mA):∃od,W.InstAt h x (W.instObj C dx) C (some od)/\∀name,W.lookIn name od=some (mA name) :=
 let ⟨od,ho,hl⟩:=sx I.ns
 ⟨od,⟨I.obj,rfl,rfl,ho⟩,hl⟩
section
variable{prog:Program}{x f:Addr}{name:Str}{v:Value}
theorem Gz{expr:Bool}(X:K.In s.heap)(I:zx s.heap x dx C mA)(hg:W.plainGet K C name=true)(hh:W.hasDictIn K C=true)
  (ha:W.findIn K (.ref C) name=some none) (hv:mA name=some v) (hv':W.handedIn v=true) (h:Q v { s with toks:=s.toks+1 }) :
  wpAny (model prog w) A (getAttr (.ref x) name expr) Q E s:=by
 obtain⟨od,J,hl⟩:=I.look
 exact W.get_value X J (W.plainGet_of hg).1 (W.findObj_own hh ha rfl (by rw[hl,hv])) hv' h
theorem uO{R:Result->Shared->Prop}{vs:List Value}(X:K.In s.heap)(hm:W.makesIn K C=true)
  (hi:W.findIn K (.ref C) "__init__" = some (some (.ref f))) (hf:W.typeIn K (.ref f)=some (.type "function"))
  (h:codeAny (model prog w) (A.under (.builtin "type.__call__" ⟨.ref C::vs,kw⟩)) (.call (.ref f) ⟨.ref (s.heap.objs.size+1)::vs,kw⟩) (W.InitBack (s.heap.objs.size+1) R)
   { s with heap:=(s.heap.push W.emptyDict).push (W.instObj C s.heap.objs.size) }) :
  codeAny (model prog w) A (.call (.ref C) ⟨vs,kw⟩) R s:=by
 obtain⟨hh,g,d,t,os⟩:=s
 exact W.make_core (W.makes_of X hm) (W.looks_findIn X hi) (fun self=>W.bind_fn X self hf) (.inl rfl) h
end
theorem gM.some_of{o:Option Value}(r:gM (some v) o):∃u,o=some u/\aX v u:=by
 cases o with
 | none=>exact(show False from r).elim
 | some u=>exact⟨u,rfl,r⟩
theorem sF(r:aX v u):W.handedIn u=true:=by
 cases v with
 | non=>cases (show u=Value.none from r);rfl
 | bl b=>cases (show u=Value.bool b from r);rfl
 | int i=>obtain⟨t,e⟩:=(show ∃t,u=Value.int i t from r);cases e;rfl
 | str x=>obtain⟨t,e⟩:=(show ∃t,u=Value.str x t from r);cases e;rfl
 | byt b=>obtain⟨t,e⟩:=(show ∃t,u=Value.bytes b t from r);cases e;rfl
 | flt b=>obtain⟨t,e⟩:=(show ∃t,u=Value.float b t from r);cases e;rfl
 | ref a=>cases (show u=Value.ref a from r);rfl
 | ty n=>cases (show u=Value.type n from r);rfl
section
variable{H':Hp}{h':Heap}{fs fs':List (Str×V)}
theorem xn(hok:cO P w H h)(e:H a=some (.ins C dx fs)):∃mA,zx h a dx C mA/\(∀f,gM (fs.lookup f) (mA f))/\PySem.Within mA (fs.map (·.1))/\fs.length<=1000/\H dx=some (.own a):=by
 obtain⟨d,z,ne,ob,mA,n,r,q⟩:=(show bD P w H h a (.ins C dx fs)from hok a _ e)
 exact⟨mA,⟨ob,n,ne⟩,r,q,z,d⟩
end
structure jk(K:W.Frag)(C:Addr):Prop where
 pg:W.plainGet K C Str.empty=true
 hd:W.hasDictIn K C=true
 po:W.plainOver K C=true
 sa:W.findIn K (.ref C) "__setattr__" = some (some (.builtin "object.__setattr__"))
theorem jk.get(c:jk K C)(f:Str):W.plainGet K C f=true:=c.pg
def qV(K:W.Frag)(C:Addr)(f:Str):Prop:=W.findIn K (.ref C) f=some none
structure LP(K:W.Frag)(C:Addr)(m:Str)(f:Addr):Prop where
 at_:W.findIn K (.ref C) m=some (some (.ref f))
 fn:W.isFn K (.ref f)=true
 kp:W.keepIn K (.ref f)=true
section
variable{fs:List (Str×V)}{f:Str}
theorem yS{b:Bool}(I:aj X pins σ H s)(e:H a=some (.ins C dx fs))(c:jk X.K C)(n:qV X.K C f)(l:fs.lookup f=some v)
  (h:∀u s',aj X pins σ H s'->aX v u->Q u s'):wpAny (model X.prog X.w) A (getAttr (.ref a) f b) Q E s:=by
 obtain⟨mA,O,r,_,_,_⟩:=xn I.hok e
 obtain⟨u,hu,ru⟩:=gM.some_of (v:=v) (o:=mA f) (by rw[<- l];exact r f)
 exact Gz I.kIn O (c.get f) c.hd n hu (sF ru) (h u _ (I.tok _) ru)
theorem aj.made(I:aj X pins σ H s):aj X pins σ (aH (aH H s.heap.objs.size (.own (s.heap.objs.size+1))) (s.heap.objs.size+1) (.ins C s.heap.objs.size []))
  { s with heap:=(s.heap.push W.emptyDict).push (W.instObj C s.heap.objs.size) }:=by
 have e1:(s.heap.push W.emptyDict).get? s.heap.objs.size=some W.emptyDict:=Vg s.heap rfl
 have e2:((s.heap.push W.emptyDict).push (W.instObj C s.heap.objs.size)).get? (s.heap.objs.size+1)=some (W.instObj C s.heap.objs.size):=by
  have:=Vg (s.heap.push W.emptyDict) (o:=W.instObj C s.heap.objs.size) rfl
  rwa [VH]at this
 have e3:(s.heap.push W.emptyDict).Ns s.heap.objs.size (fun _=>none):=⟨W.emptyDict,#[],_,e1,rfl,(fun e he=>absurd he (by simp)),fun _=>rfl⟩
 have I1:=I.laid (a:=s.heap.objs.size) (o:=.own (s.heap.objs.size+1)) (h':=s.heap.push W.emptyDict) (t':=s.toks) (fun b u q=>U9 _ q) (Vf _) ⟨_,e1⟩
 refine I1.laid (a:=s.heap.objs.size+1) (o:=.ins C s.heap.objs.size []) (t':=s.toks) (fun b u q=>U9 _ q) (Nat.le_of_eq (VH _ _)) ?_
 have ne:s.heap.objs.size≠s.heap.objs.size+1:=Vv (Vy _)
 refine⟨by rw[ay ne,aF],Vm _,ne,e2,fun _=>none,(Heap.Ns1.of_empty e3).at fun o q=>U9 _ q,fun _=>True.intro,fun y hy=>absurd rfl hy⟩
theorem xG{prog:Program}{env:Env}{f:Str}(hb:attributeBase e f env (eval e env)=eval e env)
  (h:wpAny (model prog w) A (eval e env) (fun o s₁=>wpAny (model prog w) A (getAttr o f true) Q E s₁) E s):wpAny (model prog w) A (eval (.Attribute e f pos) env) Q E s :=
 Attribute_any_ h (by rw[arm_eval_Attribute,hb])
end
def Oh(K:W.Frag)(ta:TE)(f:Str):TE:=fun σ H Q=>ta σ H fun x H1 => ∃a C dx fs v,x=.ref a/\H1 a=some (.ins C dx fs)/\jk K C/\qV K C f/\fs.lookup f=some v/\Q v H1
section
variable{o value:Expr}{f:Str}{tpos:Pos}{ta tv:TE}
theorem Jg(he:PE X e ta)(hb:attributeBase e f X.env (eval e X.env)=eval e X.env):PE X (.Attribute e f pos) (Oh X.K ta f):=by
 intro pins s σ H Q I h
 refine xG hb (aQ (he pins s σ H _ I h) fun u s1 ⟨x,H1,I1,rx,a,C,dx,fs,v,ex,ea,c,n,l,q⟩=>?_)
 subst ex
 obtain rfl:u=Value.ref a:=rx
 exact yS I1 ea c n l fun u' s2 I2 ru=>⟨v,H1,I2,ru,q⟩
end
section
variable{c:Value}{b:Bool}
inductive iw(K:W.Frag)(H:Hp):V->Value->Prop where
  | non:iw K H .non (.type "NoneType")
  | bl (x:Bool):iw K H (.bl x) (.type "bool")
  | int (i:Int):iw K H (.int i) (.type "int")
  | str (x:Str):iw K H (.str x) (.type "str")
  | flt (x:UInt64):iw K H (.flt x) (.type "float")
  | lst {a:Addr} {xs:List V} (e:H a=some (.lst xs)):iw K H (.ref a) (.type "list")
  | frz {a:Addr} {o:Obj} {xs:List V} (e:H a=some (.frz o (.lst xs))):iw K H (.ref a) (.type "list")
  | tup {a:Addr} {xs:List V} (e:H a=some (.tup xs)):iw K H (.ref a) (.type "tuple")
  | dK {a:Addr} {kvs:List (ci×V)} (e:H a=some (.dK kvs)):iw K H (.ref a) (.type "dict")
  | dT {a:Addr} {kvs:List (List ci×V)} (e:H a=some (.dT kvs)):iw K H (.ref a) (.type "dict")
  | ins {a C dx:Addr} {fs:List (Str×V)} (e:H a=some (.ins C dx fs)) (cl:jk K C) (ha:W.findIn K (.ref C) "__class__" = some (some (.builtin "object.__class__")))
      (hn:W.specialIn K (.builtin "object.__class__") "__get__" = some (some (.builtin "getset_descriptor.__get__"))) (htk:W.takesIn K (.builtin "object.__class__")=some true)
      (hm:W.mroIn K C (.type "object")=some true):iw K H (.ref a) (.ref C)
theorem sA{x:V}{t:Value}(I:aj X pins σ H s)(rx:aX x u)(ty:iw X.K H x t)(e:W.kitOne X.K t c=some b)(h:∀tk,Q (.bool b) { s with toks:=tk }) :
  wpAny (model X.prog X.w) A (call (.builtin "isinstance") [u,c]) Q E s:=by
 cases ty with
 | non=>cases (show u=Value.none from rx);exact V5 W.kitx_none I.kIn True.intro e (fun z=>nomatch z) h
 | bl y=>cases (show u=Value.bool y from rx);exact V5 W.kitx_bool I.kIn True.intro e (fun z=>nomatch z) h
 | int i=>obtain⟨t,q⟩:=(show ∃t,u=Value.int i t from rx);cases q;exact V5 W.kitx_int I.kIn True.intro e (fun z=>nomatch z) h
 | str y=>obtain⟨t,q⟩:=(show ∃t,u=Value.str y t from rx);cases q;exact V5 W.kitx_str I.kIn True.intro e (fun z=>nomatch z) h
 | flt y=>obtain⟨t,q⟩:=(show ∃t,u=Value.float y t from rx);cases q;exact V5 W.kitx_float I.kIn True.intro e (fun z=>nomatch z) h
 | @lst a xs ea =>
  cases (show u=Value.ref a from rx)
  obtain⟨_,_,n,_,h1⟩:=(show bD X.prog X.w H s.heap a (.lst xs)from I.hok a _ ea)
  exact V5 W.kitx_list I.kIn ⟨_,h1,rfl⟩ e (fun z=>nomatch z) h
 | @frz a ob xs ea =>
  cases (show u=Value.ref a from rx)
  obtain⟨_,_,_,n,_,h1⟩:=(show bD X.prog X.w H s.heap a (.frz ob (.lst xs))from I.hok a _ ea)
  exact V5 W.kitx_list I.kIn ⟨_,h1,rfl⟩ e (fun z=>nomatch z) h
 | @tup a xs ea =>
  cases (show u=Value.ref a from rx)
  obtain⟨_,_,_,p⟩:=(show bD X.prog X.w H s.heap a (.tup xs)from I.hok a _ ea)
  obtain⟨o,h1,h2,_⟩:=p
  exact V5 W.kitx_tuple I.kIn ⟨o,h1,h2⟩ e (fun z=>nomatch z) h
 | @dK a kvs ea =>
  cases (show u=Value.ref a from rx)
  obtain⟨_,_,vs,_,p⟩:=(show bD X.prog X.w H s.heap a (.dK kvs)from I.hok a _ ea)
  obtain⟨o,es,ep,h1,h2,_⟩:=p
  exact V5 W.kitx_dict I.kIn ⟨o,h1,h2.1⟩ e (fun z=>nomatch z) h
 | @dT a kvs ea =>
  cases (show u=Value.ref a from rx)
  obtain⟨_,_,xs,_,o,es,ep,h1,h2,_⟩:=(show bD X.prog X.w H s.heap a (.dT kvs)from I.hok a _ ea)
  exact V5 W.kitx_dict I.kIn ⟨o,h1,h2.1⟩ e (fun z=>nomatch z) h
 | @ins a C dx fs ea cl ha hn htk hm =>
  cases (show u=Value.ref a from rx)
  obtain⟨mA,O,_⟩:=xn I.hok ea
  obtain⟨od,J,_⟩:=O.look
  exact V5 (W.kitx_own (cl.get _) cl.hd ha hn htk hm) I.kIn J e (fun z=>nomatch z) h
end
structure bS(k:Nat)(A:Around):Prop where
 hd:A.handled=none
 dp:A.depth+3*k+5<recursionLimit
 un:A.units+16*k+200<cLine
theorem bS.mono(r:bS k A)(h:j<=k):bS j A:=⟨r.hd,by have:=r.dp;omega,by have:=r.un;omega⟩
theorem bS.deeper(r:bS (k+1) A)(env:Env):bS k (A.deeper env) :=
 ⟨r.hd,by have:=r.dp;show A.depth+1+3*k+5<_;omega,by have:=r.un;show A.units+3+16*k+200<_;omega⟩
theorem bS.in1(r:bS (k+1) A):bS k A.in1 :=
 ⟨r.hd,by have:=r.dp;show A.depth+3*k+5<_;omega,by have:=r.un;show A.units+1+16*k+200<_;omega⟩
theorem yJ:(A.under (.builtin "type.__call__" ⟨.ref C::us,kw⟩)).depth=A.depth+1:=by
 first|rfl|simp[Around.under,Code.weight,Code.isCreation,Code.isGuard,Code.isCaller,Code.frames,Code.isFrame,guardIds]
theorem yI:(A.under (.builtin "type.__call__" ⟨.ref C::us,kw⟩)).units=A.units+1:=by
 first|rfl|simp[Around.under,Code.cUnits,Code.frames,Code.isFrame]
theorem bS.make(r:bS (k+1) A)(C:Addr)(us:List Value)(kw:List (Str×Value)):bS k (A.under (.builtin "type.__call__" ⟨.ref C::us,kw⟩)) :=
 ⟨r.hd,by have:=r.dp;rw[yJ];omega,by have:=r.un;rw[yI];omega⟩
theorem bS.depth(r:bS k A):A.depth<recursionLimit:=by have:=r.dp;omega
theorem bS.units(r:bS k A):A.units+64<cLine:=by have:=r.un;omega
def Cg:TA:=fun _ H Q=>Q [] H
def Mr(ta:TE)(tr:TA):TA:=fun σ H Q=>ta σ H fun x H1=>tr σ H1 fun xs H2=>Q (x::xs) H2
section
variable{t:TA}
theorem Aw:PA X [] Cg:=fun _ _ _ _ H Q I h=>Calls.spliced_nil ⟨[],H,I,.nil,h⟩
theorem rA(ha:PE X e te)(hr:PA X es t)(hs:starEach (e::es) X.env=(false,eval e X.env)::starEach es X.env:=by rfl):PA X (e::es) (Mr te t):=by
 intro pos pins s σ H Q I h
 rw[hs]
 show wpAny _ _ (spliced ((false,eval e X.env)::backTo pos (starEach es X.env))) _ _ s
 refine Calls.spliced_cons (aQ (ha pins s σ H _ I h) fun u s1 ⟨x,H1,I1,r1,q1⟩=>?_)
 exact aQ (hr pos pins s1 σ H1 _ I1 q1) fun us s2 ⟨xs,H2,I2,r2,q2⟩=>⟨x::xs,H2,I2,.cons r1 r2,q2⟩
def N8(t:TA):TE:=fun σ H Q=>t σ H fun xs H1=>xs.length<=sizeLine/\∀p,H1 p=none->Q (.ref p) (aH H1 p (.tup xs))
def Oe(t:TA):TE:=fun σ H Q=>t σ H fun xs H1=>xs.length<=sizeLine/\∀p,H1 p=none->Q (.ref p) (aH H1 p (.lst xs))
theorem IW{x1}(h:PA X es t):PE X (.Tuple es x1 pos) (N8 t):=by
 intro pins s σ H Q I hq
 refine wpAny_Tuple_spliced (aQ (h pos pins s σ H _ I hq) fun us s1 ⟨xs,H1,I1,r,z,q⟩=>⟨by rw[<- r.length];exact z,?_⟩)
 have hf:H1 s1.heap.objs.size=none:=I1.hok.fresh (Vf _)
 refine⟨.ref s1.heap.objs.size,aH H1 s1.heap.objs.size (.tup xs),I1.laid (t':=s1.toks) (fun b u e=>U9 _ e) (Vf _) ?_,rfl,q _ hf⟩
 exact⟨z,us,r,⟨_,Vg _ rfl,rfl,_,rfl⟩⟩
theorem Jb(h:PA X es t):PE X (.List es pos) (Oe t):=by
 intro pins s σ H Q I hq
 refine wpAny_List_spliced (aQ (h pos pins s σ H _ I hq) fun us s1 ⟨xs,H1,I1,r,z,q⟩=>⟨by rw[<- r.length];exact z,?_⟩)
 have hf:H1 s1.heap.objs.size=none:=I1.hok.fresh (Vf _)
 refine⟨.ref s1.heap.objs.size,aH H1 s1.heap.objs.size (.lst xs),I1.laid (t':=s1.toks) (fun b u e=>U9 _ e) (Vf _) ?_,rfl,q _ hf⟩
 exact⟨z,us,0,r,Vg _ rfl⟩
end
abbrev Sp:=List V->Hp->VK->XK->Prop
abbrev kh:=List Env->Hp->Shared->XK->Value->Shared->Prop
structure jL(P:Program)(w:World)(K:W.Frag)(mg:Str->Option Value)(base:Heap)(A:Around)(outer:List Env)(s:Shared)(H:Hp):Prop where
 frames:A.frames=some outer
 mod:Mod K mg base
 bs:∀b o,base.get? b=some o->s.heap.get? b=some o/\H b=none
 bsz:base.objs.size<=s.heap.objs.size
 funs:s.heap.FunFrames base outer
 frf:∀b∈cF outer,H b=none
 hok:cO P w H s.heap
 bare:AllBare s.gens
def CE(outer:List Env)(P:Program)(w:World)(H:Hp)(s:Shared)(Q:VK)(u:Value)(s':Shared):Prop :=
 ∃v H',s'.os=s.os/\AllBare s'.gens/\Un (cF outer) [] H H' s.heap s'.heap/\cO P w H' s'.heap/\aX v u/\Q v H'
def CR(CX:kh)(outer:List Env)(P:Program)(w:World)(H:Hp)(s:Shared)(Q:VK)(E:XK)(r:Result)(s':Shared):Prop :=
 match r with
 | .ok (.ret u)=>CE outer P w H s Q u s'
 | .ok _=>False
 | .error e=>CX outer H s E e s'
structure bT(P:Program)(w:World)(K:W.Frag)(mg:Str->Option Value)(base:Heap)(CX:kh)(k:Nat)(f:Addr)(fd:FuncData)(ps:List Str)(sp:Sp):Prop where
 len:∀vs H Q E,sp vs H Q E->vs.length=ps.length
 run:∀(A:Around) (outer:List Env) (s:Shared) (H:Hp) (args:Args) (us:List Value) (vs:List V) (Q:VK) (E:XK),bS k A->jL P w K mg base A outer s H->BindsTo s fd args (ps.zip us)->aP vs us->sp vs H Q E ->
  codeAny (model P w) A (.call (.ref f) args) (CR CX outer P w H s Q E) s
theorem bT.mono{CX:kh}{f:Addr}{sp:Sp}(F:bT P w K mg base CX j f fd ps sp)(h:j<=k) :
  bT P w K mg base CX k f fd ps sp:=⟨F.len,fun A outer s H args us vs Q E hr=>F.run A outer s H args us vs Q E (hr.mono h)⟩
theorem jL.make(e:jL P w K mg base A outer s H)(C:Addr)(us:List Value)(kw:List (Str×Value)) :
  jL P w K mg base (A.under (.builtin "type.__call__" ⟨.ref C::us,kw⟩)) outer s H:=⟨by first|exact e.frames|(simpa [Around.under,Code.envs,Code.isFrame,pushEnvs]using e.frames),e.mod,e.bs,e.bsz,e.funs,e.frf,e.hok,e.bare⟩
theorem jL.in1(e:jL P w K mg base A outer s H) :
  jL P w K mg base A.in1 outer s H:=⟨e.frames,e.mod,e.bs,e.bsz,e.funs,e.frf,e.hok,e.bare⟩
section
theorem aj.env0(I:aj X pins σ H s):jL X.prog X.w X.K X.mg X.base X.A X.stack s H :=
 ⟨I.ok.frames,I.ok.mod,I.bs,Vl I.ok.bsz I.sz,I.stack,I.stkFree,I.hok,I.bare⟩
theorem aj.after{Q:VK}(I:aj X pins σ H s)(h:CE X.stack X.prog X.w H s Q u s'):EP X pins σ Q u s':=by
 obtain⟨v,H',os,bare,un,hok,r,q⟩:=h
 obtain⟨hh,g,d,t,os'⟩:=s'
 obtain rfl:os'=s.os:=os
 exact⟨v,H',I.call (h':=hh) (g':=g) (d':=d) (t':=t) (ch:=[]) un hok bare (fun b z=>absurd z (by simp)),r,q⟩
end
def Ec(sp:Sp)(dvs:List V)(E:XK)(t:TA):TE:=fun σ H Q=>t σ H fun vs H1=>sp (vs++dvs) H1 Q E
def tMeth(C:Addr)(m:Str)(sp:Sp)(dvs:List V)(E:XK)(ta:TE)(t:TA):TE:=fun σ H Q=>ta σ H fun x H1 => ∃a dx fs,x=.ref a/\H1 a=some (.ins C dx fs)/\fs.lookup m=none /\
 t σ H1 fun vs H2=>sp (x::(vs++dvs)) H2 Q E
def Eb(C:Addr)(sp:Sp)(dvs:List V)(E:XK)(t:TA):TE:=fun σ H Q=>t σ H fun vs H1 => ∀x dx,H1 x=none->H1 dx=none->dx≠x ->
 sp (.ref x::(vs++dvs)) (aH (aH H1 dx (.own x)) x (.ins C dx [])) (fun v H2=>v=.non/\Q (.ref x) H2) E
def cu(K:W.Frag)(fd:FuncData)(ps:List Str)(ds:List Value):Prop :=
 ∀(s:Shared) (us:List Value),K.In s.heap->(us++ds).length=ps.length->BindsTo s fd ⟨us,[]⟩ (ps.zip (us++ds))
theorem cu.all(h:∀us:List Value,us.length=ps.length->bindArgs fd ⟨us,[]⟩=pure (ps.zip us)):cu K fd ps []:=fun s us _ hl=>by
 rw[VZ]at hl⊢
 exact .of_eq (h us hl)
def ji(CX:kh)(X:Cx)(E:XK):Prop:=∀(pins:List (Addr×Obj)) (σ:St) (H:Hp) (s:Shared) (e:Value) (s':Shared),aj X pins σ H s->CX X.stack H s E e s'->X.xe e s'
section
variable{CX:kh}{f:Addr}{sp:Sp}{dvs:List V}{ds:List Value}{E:XK}{m:Str}{apos:Pos}{o:Expr}{ta:TE}{t:TA}
theorem Al{Q:VK}(F:bT X.prog X.w X.K X.mg X.base CX k f fd ps sp)(hr:bS k X.A)(hb:cu X.K fd ps ds)(hd:aP dvs ds)(hx:ji CX X E)
  (I:aj X pins σ H s) (r:aP vs us) (h:sp (vs++dvs) H Q E):wpAny (model X.prog X.w) X.A (call (.ref f) us) (EP X pins σ Q) X.xe s:=by
 have r2:aP (vs++dvs) (us++ds):=r.append hd
 have hl:(us++ds).length=ps.length:=by rw[<- r2.length];exact F.len _ _ _ _ h
 refine WO (Xc (F.run X.A X.stack s H ⟨us,[]⟩ (us++ds) (vs++dvs) Q E hr I.env0 (hb s us I.kIn hl) r2 h) fun r s' hq=>?_)
 cases r with
 | error e=>exact hx pins σ H s e s' I hq
 | ok fl =>
  cases fl with
  | ret u=>exact I.after hq
  | next=>exact False.elim hq
  | brk=>exact False.elim hq
  | cont=>exact False.elim hq
theorem wP(F:bT X.prog X.w X.K X.mg X.base CX k f fd ps sp)(hr:bS k X.A)(hg:Gl X x)(hm:X.mg x=some (.ref f))(hk:W.keepIn X.K (.ref f)=true)(hb:cu X.K fd ps ds)(hd:aP dvs ds)(hx:ji CX X E)
  (ha:PA X (e::es) t) (hdb:(x==("__debug__" : Str))=false:=by decide) (he:starEach (e::es) X.env=(false,eval e X.env)::starEach es X.env:=by rfl) (hpl:(backTo pos (starEach es X.env)).any (·.1)=false:=by rfl) :
  PE X (.Call (.Name x p) (e::es) [] pos) (Ec sp dvs E t):=by
 intro pins s σ H Q I h
 refine VQ (dU I hg hm ?_ hdb)
 refine W.callWith_K (h₀:=X.base) I.ok.mod.kin hk (aQ (ha pos pins s σ H _ I h) fun us s1 ⟨vs,H1,I1,r,q⟩=>⟨I1.kIn,?_⟩) he hpl
 exact Al F hr hb hd hx I1 r q
theorem CD(F:bT X.prog X.w X.K X.mg X.base CX k f fd ps sp)(hr:bS k X.A)(hg:Gl X x)(hm:X.mg x=some (.ref f))(hk:W.keepIn X.K (.ref f)=true)(hb:cu X.K fd ps ds)(hd:aP dvs ds)(hx:ji CX X E)
  (hdb:(x==("__debug__" : Str))=false:=by decide):PE X (.Call (.Name x p) [] [] pos) (Ec sp dvs E Cg):=by
 intro pins s σ H Q I h
 refine VQ (dU I hg hm ?_ hdb)
 exact W.callWith_K0 I.kIn hk (Al (us:=[]) F hr hb hd hx I .nil h)
structure Mk(K:W.Frag)(C f:Addr):Prop where
 makes:W.makesIn K C=true
 init:W.findIn K (.ref C) "__init__" = some (some (.ref f))
 fn:W.isFn K (.ref f)=true
 kp:W.keepIn K (.ref C)=true
theorem uh{Q:VK}(M:Mk X.K C f)(F:bT X.prog X.w X.K X.mg X.base CX k f fd ps sp)(hr:bS (k+1) X.A)(hb:cu X.K fd ps ds)(hd:aP dvs ds)
  (hx:ji CX X E) (I:aj X pins σ H s) (r:aP vs us)
  (h:∀x dx,H x=none->H dx=none->dx≠x->sp (.ref x::(vs++dvs)) (aH (aH H dx (.own x)) x (.ins C dx [])) (fun v H2=>v=.non/\Q (.ref x) H2) E) :
  wpAny (model X.prog X.w) X.A (call (.ref C) us) (EP X pins σ Q) X.xe s:=by
 have hq:=h (s.heap.objs.size+1) s.heap.objs.size (I.hok.fresh (WX _)) (I.hok.fresh (Vf _)) (Vv (Vy _))
 have I2:=aj.made (C:=C) I
 have r2:aP (V.ref (s.heap.objs.size+1)::(vs++dvs)) (Value.ref (s.heap.objs.size+1)::(us++ds)):=.cons rfl (r.append hd)
 have hl:(Value.ref (s.heap.objs.size+1)::us++ds).length=ps.length:=by
  have e:=r2.length
  rw[F.len _ _ _ _ hq]at e
  exact e.symm
 refine WO (uO (f:=f) I.kIn M.makes M.init (beq_iff_eq.mp M.fn) (Xc (F.run _ X.stack _ _ ⟨Value.ref (s.heap.objs.size+1)::us,[]⟩ (Value.ref (s.heap.objs.size+1)::(us++ds)) _ _ E (hr.make C us [])
  (I2.env0.make C us []) (hb _ (Value.ref (s.heap.objs.size+1)::us) I2.kIn hl) r2 hq) fun r s' hq'=>?_))
 cases r with
 | error e=>exact hx pins σ _ _ e s' I2 hq'
 | ok fl =>
  cases fl with
  | ret u =>
   obtain⟨v,H',I3,rv,ev,q3⟩:=I2.after hq'
   subst ev
   exact⟨rv,⟨V.ref (s.heap.objs.size+1),H',I3,rfl,q3⟩⟩
  | next=>exact False.elim hq'
  | brk=>exact False.elim hq'
  | cont=>exact False.elim hq'
theorem FW(M:Mk X.K C f)(F:bT X.prog X.w X.K X.mg X.base CX k f fd ps sp)(hr:bS (k+1) X.A)(hg:Gl X x)(hm:X.mg x=some (.ref C))(hb:cu X.K fd ps ds)(hd:aP dvs ds)(hx:ji CX X E)
  (ha:PA X (e::es) t) (hdb:(x==("__debug__" : Str))=false:=by decide) (he:starEach (e::es) X.env=(false,eval e X.env)::starEach es X.env:=by rfl) (hpl:(backTo pos (starEach es X.env)).any (·.1)=false:=by rfl) :
  PE X (.Call (.Name x p) (e::es) [] pos) (Eb C sp dvs E t):=by
 intro pins s σ H Q I h
 refine VQ (dU I hg hm ?_ hdb)
 refine W.callWith_K (h₀:=X.base) I.ok.mod.kin M.kp (aQ (ha pos pins s σ H _ I h) fun us s1 ⟨vs,H1,I1,r,q⟩=>⟨I1.kIn,?_⟩) he hpl
 exact uh M F hr hb hd hx I1 r q
theorem CA(M:Mk X.K C f)(F:bT X.prog X.w X.K X.mg X.base CX k f fd ps sp)(hr:bS (k+1) X.A)(hg:Gl X x)(hm:X.mg x=some (.ref C))(hb:cu X.K fd ps ds)(hd:aP dvs ds)(hx:ji CX X E)
  (hdb:(x==("__debug__" : Str))=false:=by decide):PE X (.Call (.Name x p) [] [] pos) (Eb C sp dvs E Cg):=by
 intro pins s σ H Q I h
 refine VQ (dU I hg hm ?_ hdb)
 exact W.callWith_K0 I.kIn M.kp (uh (us:=[]) M F hr hb hd hx I .nil h)
end
section
variable{CX:kh}{f:Addr}{ks:List Str}{sp:Sp}{E:XK}{m:Str}{apos kpos:Pos}{o:Expr}{kws:List Keyword}{ta:TE}{t tk:TA}{nm:Option Str}
variable{g:List Value->List Value->List Value}{gV:List V->List V->List V}
end
structure aN(N P:List Str)(sc:Scope):Prop where
 kind:sc.kind=.function
 co:sc.isCoroutine=false
 gen:sc.isGenerator=false
 nd:N.Nodup
 pre:N.take P.length=P
 par:∀x∈P,sc.names.lookup x=some .local\/sc.names.lookup x=some .cell
 nofree:∀y∈sc.names,y.2 ≠ .free
theorem sL{kindOf:Str->Option NameKind}{x:Str}:∀{binds:List (Str×Value)} {m:Str->Option Value},(∀v,(x,v)∉binds)->bindL kindOf binds m x=m x
 | [],_,_=>rfl
 | (n,v)::r,m,h=>by
  unfold bindL
  rw[sL fun w hw=>h w (Vc _ hw)]
  split
  ·have:x≠n:=by rintro rfl;exact h v Vb
   simp[this]
  ·rfl
theorem sN{kindOf:Str->Option NameKind}{x:Str}:∀{binds:List (Str×Value)} {m:Str->Option Value},(∀v,(x,v)∉binds)->bindC kindOf binds m x=m x
 | [],_,_=>rfl
 | (n,v)::r,m,h=>by
  unfold bindC
  rw[sN fun w hw=>h w (Vc _ hw)]
  split
  ·rfl
  ·have:x≠n:=by rintro rfl;exact h v Vb
   simp[this]
theorem sM{kindOf:Str->Option NameKind}{x:Str}{v:Value}:∀{P:List Str} {vs:List Value} {i:Nat} {m:Str->Option Value},P.Nodup->P[i]?=some x->vs[i]?=some v->kindOf x=some .local ->
  bindL kindOf (P.zip vs) m x=some v
 | [],_,_,_,_,h,_,_=>by simp at h
 | _::_,[],_,_,_,_,h,_=>by simp at h
 | p::P,w::vs,0,m,nd,h1,h2,hk=>by
  simp at h1 h2;subst h1;subst h2
  show bindL kindOf ((p,w)::P.zip vs) m p=_
  unfold bindL
  rw[sL fun v hv=>(Xk.mp nd).1 (List.of_mem_zip hv).1,if_pos hk]
  simp
 | p::P,w::vs,i+1,m,nd,h1,h2,hk=>by
  show bindL kindOf ((p,w)::P.zip vs) m x=_
  unfold bindL
  exact sM (i:=i) (Xk.mp nd).2 (by simpa using h1) (by simpa using h2) hk
theorem sO{kindOf:Str->Option NameKind}{x:Str}{v:Value}:∀{P:List Str} {vs:List Value} {i:Nat} {m:Str->Option Value},P.Nodup->P[i]?=some x->vs[i]?=some v->kindOf x≠some .local ->
  bindC kindOf (P.zip vs) m x=some v
 | [],_,_,_,_,h,_,_=>by simp at h
 | _::_,[],_,_,_,_,h,_=>by simp at h
 | p::P,w::vs,0,m,nd,h1,h2,hk=>by
  simp at h1 h2;subst h1;subst h2
  show bindC kindOf ((p,w)::P.zip vs) m p=_
  unfold bindC
  rw[sN fun v hv=>(Xk.mp nd).1 (List.of_mem_zip hv).1,if_neg hk]
  simp
 | p::P,w::vs,i+1,m,nd,h1,h2,hk=>by
  show bindC kindOf ((p,w)::P.zip vs) m x=_
  unfold bindC
  exact sO (i:=i) (Xk.mp nd).2 (by simpa using h1) (by simpa using h2) hk
def start(N:List Str)(vs:List V):St:=vs.map some++List.replicate (N.length-vs.length) none
def i8(CX:kh)(P:Program)(w:World)(K:W.Frag)(mg:Str->Option Value)(base:Heap)(N:List Str)(qual:Str)(scope:Scope)(f:Addr)(cd:Value)(A:Around)(outer:List Env)(s:Shared)(H:Hp)(E:XK):Cx where
 prog:=P
 w:=w
 K:=K
 mg:=mg
 base:=base
 A:=A.deeper (envOfC qual scope s.heap.objs.size f cd)
 N:=N
 s₀:=s
 H₀:=H
 env:=envOfC qual scope s.heap.objs.size f cd
 outer:=outer
 stack:=envOfC qual scope s.heap.objs.size f cd::outer
 ex:=[]
 calm:=true
 fn:=fun _=>true
 pn:=[]
 xe:=fun e s'=>wpAny (model P w) (A.deeper (envOfC qual scope s.heap.objs.size f cd)) (leaving (envOfC qual scope s.heap.objs.size f cd) e) (fun _ s''=>CX outer H s E e s'') (fun e' s''=>CX outer H s E e' s'') s'
theorem vF{sc:Scope}(h:sc.names.lookup x=some .cell):∃c,(cellsFrom n sc.names []).lookup x=some c:=by
 have q:=W.cellsFrom_some sc.names n [] (.inl h)
 exact Option.isSome_iff_exists.mp q
theorem Ba{CX:kh}{f:Addr}{cd:Value}{s1:Shared}{E:XK}
  (S:aN N ps scope) (hd:A.handled=none) (e0:jL P w K mg base A outer s H) (hl:vs.length=ps.length) (r:aP vs us)
  (x:InCallC s s.heap.objs.size (bindL (envOfC qual scope s.heap.objs.size f cd).kindOf (ps.zip us) fun _=>none) (cellsFrom (s.heap.objs.size+1) scope.names []) (bindC (envOfC qual scope s.heap.objs.size f cd).kindOf (ps.zip us) fun _=>none) s1) :
  aj (i8 CX P w K mg base N qual scope f cd A outer s H E) [] (start N vs) H s1:=by
 have hpl:ps.length<=N.length:=by have:=V0 List.length S.pre;rw[Wr]at this;omega
 obtain⟨h1,tk,rfl,hk⟩:=x.done
 have noA:∀b:Addr,b∉(i8 CX P w K mg base N qual scope f cd A outer s H E).ex:=fun b z=>absurd (show b∈([]:List Addr)from z) (by simp)
 refine⟨⟨e0.mod,S.kind,rfl,rfl,Vf _,fun y z c h1 h2=>?_,fun y hy=>?_,fun y c _ h=>?_,fun _=>hd,Around.frames_deeper e0.frames,.inr ⟨rfl,rfl⟩,fun b z=>absurd z (noA b),e0.bs,e0.bsz,fun b _ _=>noA b,fun b z=>absurd z (noA b),e0.funs,e0.frf⟩,
  rfl,e0.bare,Un.kept hk,⟨_,x.toInCall.ns,fun i y v h1 h2 h3=>?_⟩,fun y c h=>⟨_,x.cell y c h⟩,e0.hok.fresh (Vf _),fun y c h=>?_,fun p hp=>absurd (show p∈([]:List (Addr×Obj))from hp) (by simp),e0.hok.kept hk,?_⟩
 ·exact name_of_addr x.apart (Vs h1) (Vs h2)
 ·have hy:scope.names.lookup y=some .cell\/scope.names.lookup y=some .free:=hy
  rcases hy with hy|hy
  ·exact vF hy
  ·exact absurd rfl (S.nofree _ (Vs hy))
 ·exact Xm (x.above y c (Vs h))
 ·have hi:i<vs.length:=by
   unfold start at h2
   by_cases hi:i<vs.length
   ·exact hi
   ·rw[List.getElem?_append_right (by simpa using hi)]at h2
    rw[List.getElem?_replicate]at h2
    split at h2<;>cases h2
  have ha:vs[i]?=some v:=by
   unfold start at h2
   rw[List.getElem?_append_left (by simpa using hi),V9]at h2
   cases e:vs[i]? with
   | none=>rw[e]at h2;cases h2
   | some a=>rw[e]at h2;cases h2;rfl
  obtain⟨u,hu,rv⟩:=r.get ha
  have hp:ps[i]?=some y:=by
   rw[<- S.pre,List.getElem?_take_of_lt (by omega)];exact h1
  have ndP:ps.Nodup:=by rw[<- S.pre];exact S.nd.sublist (List.take_sublist _ _)
  refine⟨u,rv,?_⟩
  rcases S.par y (WI hp)with k|k
  ·exact .inl ⟨k,sM ndP hp hu k⟩
  ·obtain⟨c,e⟩:=vF (n:=s.heap.objs.size+1) k
   refine .inr ⟨.inl k,c,e,?_⟩
   have q:=x.cell y c e
   rw[sO ndP hp hu (by show scope.names.lookup y≠_;rw[k];decide)]at q
   exact q
 ·exact e0.hok.fresh (Xm (x.above y c (Vs h)))
 ·unfold start
  show _=N.length
  rw[Vw,Vi,List.length_replicate]
  omega
theorem EH{CX:kh}{f:Addr}{name:Str}{params:Arguments}{dV kV doc pm cdv ct oc:Value}{an od:Option Addr}
  {osl:Array (Option Value)} {sp:Sp} (lk:K.lookup f=some ⟨oc,od,.func (W.fnOf name qual params body scope dV kV doc pm an cdv ct),osl⟩) (hcd:W.codeIn K cdv qual=true) (S:aN N ps scope)
  (len:∀vs H Q E,sp vs H Q E->vs.length=ps.length)
  (hbody:∀(A:Around) (outer:List Env) (s:Shared) (H:Hp) (vs:List V) (Q:VK) (E:XK),bS k (A.deeper (envOfC qual scope s.heap.objs.size f cdv))->sp vs H Q E ->
   ∃t,fe (i8 CX P w K mg base N qual scope f cdv A outer s H E) body t/\t { nx:=fun _ H'=>Q .non H',rt:=Q } (start N vs) H) :
  bT P w K mg base CX (k+1) f (W.fnOf name qual params body scope dV kV doc pm an cdv ct) ps sp:=by
 refine⟨len,fun A outer s H args us vs Q E hr e0 hb r hsp=>?_⟩
 have hl:=len _ _ _ _ hsp
 have KX:K.In s.heap:=e0.mod.kin.keeps fun b o e=>(e0.bs b o e).1
 have lim:s.heap.NoLimit:=e0.mod.nolimit.keeps fun b o e=>(e0.bs b o e).1
 have hkind:∀y∈ps.zip us,scope.names.lookup y.1=some .local\/(scope.names.lookup y.1=some .cell/\((cellsFrom (s.heap.objs.size+1) scope.names []).lookup y.1).isSome=true):=fun⟨n,v⟩ hy=>by
  rcases S.par n (List.of_mem_zip hy).1 with q|q
  ·exact .inl q
  ·exact .inr ⟨q,W.cellsFrom_some _ _ _ (.inl q)⟩
 refine codeAny_call_function hr.depth (KX _ _ lk) rfl S.co S.gen rfl (W.codeRec_of KX hcd) (hb _ _ _ _ ?_)
 refine wpAny_newFunctionEnv_cells S.kind hkind fun env he s1 x=>?_
 subst he
 refine⟨lim.keeps x.toInCall.keep,codeAny_func ?_⟩
 obtain⟨t,ht,hq⟩:=hbody A outer s H vs Q E (hr.deeper _) hsp
 have I:aj (i8 CX P w K mg base N qual scope f cdv A outer s H E) [] (start N vs) H s1:=Ba S hr.hd e0 hl r x
 refine VX (ht [] s1 (start N vs) H _ I hq) (fun fl s' hs=>?_) fun e s' hs=>hs
 have fin:∀{σ':St} {H':Hp} {v:V} {u:Value},aj (i8 CX P w K mg base N qual scope f cdv A outer s H E) [] σ' H' s'->aX v u->Q v H'->CE outer P w H s Q u s' :=
  fun {σ' H' v u} J rv q=>⟨v,H',J.os,J.bare,J.base,J.hok,rv,q⟩
 cases fl with
 | ret u =>
  obtain⟨v,σ',H',J,rv,q⟩:=hs
  exact fin J rv q
 | next =>
  obtain⟨σ',H',J,q⟩:=hs
  exact fin (v:=V.non) (u:=Value.none) J rfl q
 | brk =>
  obtain⟨_,_,_,q⟩:=hs
  exact False.elim q
 | cont =>
  obtain⟨_,_,_,q⟩:=hs
  exact False.elim q
section
variable{t:TA}{id T:String}{r:List V->Hp->VK->Prop}
def NQ(r:List V->Hp->VK->Prop)(t:TA):TE:=fun σ H Q=>t σ H fun vs H1=>r vs H1 Q
theorem CC(hc:eL X (.builtin id) r)(hg:Gl X x)(hm:X.mg x=none)(hv:bootBuiltins x=some (.builtin id))(ha:PA X (e::es) t)(hn:x ≠ "__name__" := by decide)(hdb:(x==("__debug__" : Str))=false:=by decide)
  (he:starEach (e::es) X.env=(false,eval e X.env)::starEach es X.env:=by rfl) (hpl:(backTo pos (starEach es X.env)).any (·.1)=false:=by rfl):PE X (.Call (.Name x p) (e::es) [] pos) (NQ r t):=by
 intro pins s σ H Q I h
 refine VQ (dH I hg hm hv ?_ hn hdb)
 exact PyProof.Rows.callWith_builtin1 (aQ (ha pos pins s σ H _ I h) fun us s1 ⟨vs,H1,I1,r1,q1⟩=>hc pins s1 σ H1 vs us Q I1 r1 q1) he hpl
theorem Au(hc:eL X (.type T) r)(hg:Gl X x)(hm:X.mg x=none)(hv:bootBuiltins x=some (.type T))(ha:PA X (e::es) t)(hn:x ≠ "__name__" := by decide)(hdb:(x==("__debug__" : Str))=false:=by decide)
  (he:starEach (e::es) X.env=(false,eval e X.env)::starEach es X.env:=by rfl) (hpl:(backTo pos (starEach es X.env)).any (·.1)=false:=by rfl):PE X (.Call (.Name x p) (e::es) [] pos) (NQ r t):=by
 intro pins s σ H Q I h
 refine VQ (dH I hg hm hv ?_ hn hdb)
 exact VG (aQ (ha pos pins s σ H _ I h) fun us s1 ⟨vs,H1,I1,r1,q1⟩=>hc pins s1 σ H1 vs us Q I1 r1 q1) he hpl
end
end L2
namespace HT
open PySem PyProof.Rows
variable{sl:Addr}{vl vu:Value}{hi lo:Option Int}
def lexLt:List Int->List Int->Bool
 | [],[]=>false
 | [],_::_=>true
 | _::_,[]=>false
 | x::xs,y::ys=>if x=y then lexLt xs ys else decide (x<y)
section
open PySem.SeqAt
open PySem.AutoSeq1 (wpAny_loadPart')
open PySem.MeetsSeq PySem.MeetsSeq2 PySem.MeetsSeq3
end
section
variable{prog:Program}{w:World}{A:Around}{E:Value->Shared->Prop}{s:Shared}
def sIx(n d:Nat):Option Int->Nat
 | none=>d
 | some v=>if v<0 then(v+(n:Int)).toNat else min v.toNat n
theorem sIx_none(n d:Nat):sIx n d none=d:=rfl
theorem sIx_nat(n d k:Nat):sIx n d (some (k:Int))=min k n:=by
 show(if (k:Int)<0 then((k:Int)+(n:Int)).toNat else min (k:Int).toNat n)=min k n
 rw[if_neg (by omega),Int.toNat_natCast]
theorem ID(n d:Nat)(hd:d<=n)(o:Option Int):sIx n d o<=n:=by
 cases o with
 | none=>exact hd
 | some v =>
  show(if v<0 then(v+(n:Int)).toNat else min v.toNat n)<=n
  by_cases hv:v<0
  ·rw[if_pos hv];omega
  ·rw[if_neg hv];exact Nat.min_le_right _ _
theorem xF(v:Int)(n d:Nat):(if v<0 then max (v+(n:Int)) 0 else min v (n:Int))=((sIx n d (some v):Nat):Int):=by
 show(if v<0 then max (v+(n:Int)) 0 else min v (n:Int))=(((if v<0 then(v+(n:Int)).toNat else min v.toNat n):Nat):Int)
 by_cases hv:v<0
 ·simp only[if_pos hv];omega
 ·simp only[if_neg hv];omega
theorem zi(lo hi:Option Int)(n:Nat):Builtin.Slice.sliceAdjust lo hi 1 (n:Int)=(((sIx n 0 lo:Nat):Int),((sIx n n hi:Nat):Int)):=by
 have h1:¬ ((1:Int)<0):=by omega
 unfold Builtin.Slice.sliceAdjust
 simp only[h1,Xn]
 refine Prod.ext ?_ ?_
 ·cases lo with
  | none=>rfl
  | some v=>exact xF v n 0
 ·cases hi with
  | none=>rfl
  | some v=>exact xF v n n
theorem yv(i j:Nat):Builtin.Slice.slicePlaces (i:Int) (j:Int) 1=j-i:=by
 unfold Builtin.Slice.slicePlaces
 have h1:(1:Int)>0:=by omega
 simp only[h1,WY,Int.ediv_one]
 split<;>omega
theorem pY{v:Value}{o:Option Int}{Q:Option Int->Shared->Prop}(p:IsPart v o)(h:Q o s):wpAny (model prog w) A (Builtin.Slice.slicePartIndex v) Q E s:=by
 cases p with
 | none=>exact slicePart_none h
 | int i t=>exact slicePart_int h
theorem oN{n:Nat}{Q:Int×Int×Nat->Shared->Prop}(hs:s.heap.IsSliceOf sl vl vu .none)(pl:IsPart vl lo)(pu:IsPart vu hi)
  (h:Q (((sIx n 0 lo:Nat):Int),1,sIx n n hi-sIx n 0 lo) s):wpAny (model prog w) A (Builtin.Slice.sliceApplied (.ref sl) (pure (n:Int))) Q E s:=by
 obtain⟨os,hos,hcs,hds⟩:=id hs
 unfold Builtin.Slice.sliceApplied Builtin.Slice.sliceFields
 refine U8 (U8 (VC hos hds (x:=vl) rfl (U8 (VC hos hds (x:=vu) rfl (U8 (VC hos hds (x:=.none) rfl (Va ?_)))))))
 refine U8 (slicePart_none ?_)
 show wpAny _ _ (if ((1:Int)==0)=true then _ else _) _ _ s
 rw[if_neg (by decide)]
 refine U8 (pY pl (U8 (pY pu (U8 (Va ?_)))))
 show wpAny _ _ (match Builtin.Slice.sliceAdjust lo hi 1 (n:Int)with|(lo,hi)=>pure (lo,(1:Int),Builtin.Slice.slicePlaces lo hi 1)) _ _ s
 rw[zi lo hi n]
 show wpAny _ _ (pure (((sIx n 0 lo:Nat):Int),(1:Int),Builtin.Slice.slicePlaces ((sIx n 0 lo:Nat):Int) ((sIx n n hi:Nat):Int) 1)) _ _ s
 rw[yv]
 exact Va h
theorem Cz(xs:Array Value)(i k:Nat):((List.range k).filterMap fun(m:Nat)=>xs[((i:Int)+(m:Int)*1).toNat]?).toArray=((xs.toList.drop i).take k).toArray:=by
 have e:(fun(m:Nat)=>xs[((i:Int)+(m:Int)*1).toNat]?)=fun m=>xs[i+m]?:=by
  funext m
  have:((i:Int)+(m:Int)*1).toNat=i+m:=by omega
  rw[this]
 rw[e]
 have:=pick_run xs i k
 rw[List.filterMap_map]at this
 have e2:((fun x=>xs[x]?) ∘ fun x=>i+x)=fun m=>xs[i+m]?:=rfl
 rw[e2]at this
 rw[this]
theorem getItem_tuple_cut{t:Addr}{items:Array Value}{Q:Value->Shared->Prop}(ht:IsTup s.heap t items)(hs:s.heap.IsSliceOf sl vl vu .none)(pl:IsPart vl lo)(pu:IsPart vu hi)
  (hw:¬ (sIx items.size 0 lo=0/\sIx items.size items.size hi=items.size))
  (h:Q (.ref s.heap.objs.size) { s with heap:=s.heap.push { cls:=.type "tuple", data:=.seq ((items.toList.drop (sIx items.size 0 lo)).take (sIx items.size items.size hi-sIx items.size 0 lo)).toArray } })
  (hsz:items.size<=sizeLine):wpAny (model prog w) A (getItem (.ref t) (.ref sl)) Q E s:=by
 have htake:sizeOk (.seq ((items.toList.drop (sIx items.size 0 lo)).take (sIx items.size items.size hi-sIx items.size 0 lo)).toArray):=by
  show((items.toList.drop (sIx items.size 0 lo)).take (sIx items.size items.size hi-sIx items.size 0 lo)).toArray.size<=sizeLine
  rw[Vo,Wr,WN,Array.length_toList]
  omega
 have hj:sIx items.size items.size hi<=items.size:=ID _ _ (Vf _) hi
 obtain⟨os,hos,hcs,hds⟩:=id hs
 have hTs:s.TypeIs (.ref sl) "slice" := ⟨os,hos,hcs⟩
 unfold getItem
 try with_reducible refine VO ?_
 first|refine U8 (Va ?_)|skip
 refine U8 (wpAny_sequenceKey ht.typeIs (by decide) ?_)
 refine U8 (VV (name:=Str.ofString "__getitem__") ht.typeIs PyProof.Rows.slot_tuple_getitem
  (Wg PyProof.Rows.slot_tuple_getitem ht.typeIs entry_tuple_getitem ?_ (args_tuple_getitem _ _)))
 show wpAny _ _ (Builtin.Tuple.tupleItemsOf (.ref t) >>= _) _ _ s
 refine U8 (tupleItemsOf_ ht ?_)
 refine U8 (wpAny_typeOf hTs ?_)
 rw[if_pos (by decide)]
 refine U8 (oN hs pl pu ?_)
 have hno:¬ ((((sIx items.size 0 lo:Nat):Int)==0&&(1:Int)==1&&(sIx items.size items.size hi-sIx items.size 0 lo)==items.size)=true):=by
  intro q
  rw[Vk,Vk]at q
  have q1:((sIx items.size 0 lo:Nat):Int)=0:=eq_of_beq q.1.1
  have q2:sIx items.size items.size hi-sIx items.size 0 lo=items.size:=eq_of_beq q.2
  exact hw ⟨by omega,by omega⟩
 show wpAny _ _ (if (((sIx items.size 0 lo:Nat):Int)==0&&(1:Int)==1&&(sIx items.size items.size hi-sIx items.size 0 lo)==items.size)=true then _ else _) _ _ s
 rw[if_neg hno,Cz]
 first
  | exact U8 (m:=Builtin.Tuple.tupleExact _) (Wm (Va ⟨_,rfl,Va h⟩) htake)
  | exact U8 (m:=Builtin.Tuple.tupleExact _) (Wm (U8 (Va (Va ⟨_,rfl,Va h⟩))) htake)
  | exact U8 (U8 (m:=Builtin.Tuple.tupleExact _) (Wm (Va (Va ⟨_,rfl,Va h⟩)) htake))
  | exact U8 (U8 (m:=Builtin.Tuple.tupleExact _) (Wm (Va ⟨_,rfl,Va h⟩) htake))
end
end HT
namespace L2
open PySem PySem.Spec PyProof.Rows
variable{j n:Nat}{i:Int}{α:Type}{pins:List (Addr×Obj)}{σ:St}{H:Hp}{s:Shared}{p:Addr}{xs:List V}{its its':List Value}
abbrev TO:=St->Hp->(Option Int->Hp->Prop)->Prop
def PO(X:Cx)(e:Option Expr)(t:TO):Prop :=
 ∀(pins:List (Addr×Obj)) (s:Shared) (σ:St) (H:Hp) (Q:Option Int->Hp->Prop),aj X pins σ H s->t σ H Q ->
  wpAny (model X.prog X.w) X.A (evalPart e X.env) (fun u s' => ∃o H',aj X pins σ H' s'/\IsPart u o/\Q o H') X.xe s
def Fp:TO:=fun _ H Q=>Q none H
def Mm(t:TE):TO:=fun σ H Q=>t σ H fun x H1 => ∃i,x=.int i/\Q (some i) H1
section
variable{X:Cx}{e:Expr}{te:TE}{lo hi:Option Expr}{tl th:TO}{pos p2:Pos}
theorem FU:PO X none Fp:=by
 intro pins s σ H Q I h
 rw[evalPart_none]
 exact Va ⟨none,H,I,.none,h⟩
theorem FT(h:PE X e te):PO X (some e) (Mm te):=by
 intro pins s σ H Q I hw
 rw[evalPart_some]
 refine aQ (h pins s σ H _ I hw) fun u s1 ⟨x,H1,I1,r1,q1⟩=>?_
 obtain⟨i,rfl,q⟩:=q1
 obtain⟨t,rfl⟩:=r1
 exact⟨some i,H1,I1,.int i t,q⟩
def LG(X:Cx)(r:V->Option Int->Option Int->Hp->VK->Prop):Prop :=
 ∀(pins:List (Addr×Obj)) (s:Shared) (σ:St) (H:Hp) (x:V) (v vl vu:Value) (lo hi:Option Int) (sl:Addr) (Q:VK),aj X pins σ H s->aX x v->s.heap.IsSliceOf sl vl vu .none->IsPart vl lo->IsPart vu hi->r x lo hi H Q ->
  ∃T id,typeLookup (.type T) "__getitem__" = pure (some (.builtin id))/\s.TypeIs v T/\wpAny (model X.prog X.w) X.A (getItem v (.ref sl)) (EP X pins σ Q) X.xe s
def UM(r:V->Option Int->Option Int->Hp->VK->Prop)(te:TE)(tl th:TO):TE:=fun σ H Q=>te σ H fun x H1=>tl σ H1 fun l H2=>th σ H2 fun u H3=>r x l u H3 Q
theorem oV{r:V->Option Int->Option Int->Hp->VK->Prop}(hr:LG X r)(he:PE X e te)(hl:PO X lo tl)(hu:PO X hi th):PE X (.Subscript e (.Slice lo hi none p2) pos) (UM r te tl th):=by
 intro pins s σ H Q I h
 refine Subscript_ (aQ (he pins s σ H _ I h) fun v s1 ⟨x,H1,I1,r1,q1⟩=>?_)
 refine wpAny_Slice (aQ (hl pins s1 σ H1 _ I1 q1) fun vl s2 ⟨l,H2,I2,pl,q2⟩=>aQ (hu pins s2 σ H2 _ I2 q2) fun vu s3 ⟨u,H3,I3,pu,q3⟩=>?_)
 rw[evalPart_none]
 refine Va ?_
 have I4:aj X pins σ H3 { s3 with heap:=s3.heap.push { cls:=.type "slice", data:=.fields #[vl,vu,.none] } }:=I3.kept (t':=s3.toks) fun b ob q=>U9 _ q
 obtain⟨T,id,hT,ht,hg⟩:=hr pins { s3 with heap:=s3.heap.push { cls:=.type "slice", data:=.fields #[vl,vu,.none] } } σ H3 x v vl vu l u s3.heap.objs.size Q I4 r1 (Heap.IsSliceOf.new ..) pl pu q3
 show wpAny (model X.prog X.w) X.A (subscriptTail e (.Slice lo hi none p2) v (.ref s3.heap.objs.size)) (EP X pins σ Q) X.xe { s3 with heap:=s3.heap.push { cls:=.type "slice", data:=.fields #[vl,vu,.none] } }
 exact tail_any (ops:=[.ref s3.heap.objs.size,v]) ht hT hg (by with_unfolding_all rfl)
def i9(xs:List V)(lo hi:Option Int):List V:=(xs.drop (HT.sIx xs.length 0 lo)).take (HT.sIx xs.length xs.length hi-HT.sIx xs.length 0 lo)
theorem oB(xs:List V)(lo hi:Option Int):(i9 xs lo hi).length<=xs.length:=by
 unfold i9
 rw[Wr,WN]
 omega
def Py(K:W.Frag):V->Option Int->Option Int->Hp->VK->Prop:=fun x lo hi H Q => ∃a xs,x=.ref a/\cD K H a xs /\
 ¬ (HT.sIx xs.length 0 lo=0/\HT.sIx xs.length xs.length hi=xs.length)/\∀p,H p=none->Q (.ref p) (aH H p (.tup (i9 xs lo hi)))
theorem Il:LG X (Py X.K):=by
 intro pins s σ H x v vl vu lo hi sl Q I rx hs pl pu h
 obtain⟨a,xs,rfl,hx,hw,q⟩:=h
 cases rx
 obtain⟨its,r,ht,hz⟩:=I.tuple hx
 have hlen:its.toArray.size=xs.length:=by rw[Vo];exact r.length.symm
 refine⟨"tuple", _,PyProof.Rows.slot_tuple_getitem.lookup,ht.typeIs,?_⟩
 refine HT.getItem_tuple_cut ht hs pl pu (by rw[hlen];exact hw) ?_ (by rw[hlen];exact hz)
 rw[hlen]
 refine⟨.ref s.heap.objs.size,_,I.laid (t':=s.toks) (o:=.tup (i9 xs lo hi)) (fun b ob q=>U9 _ q) (Vf _) ?_,rfl,q _ (I.hok.fresh (Vf _))⟩
 exact⟨Vl (oB xs lo hi) hz,_,(r.drop (HT.sIx xs.length 0 lo)).take (HT.sIx xs.length xs.length hi-HT.sIx xs.length 0 lo),IsTup.new _ _⟩
def rLtT(K:W.Frag):R2:=fun x y H Q => ∃a b ns ms,x=.ref a/\y=.ref b/\cD K H a (ns.map V.int)/\cD K H b (ms.map V.int)/\Q (.bl (HT.lexLt ns ms)) H
def rCatT(K:W.Frag):R2:=fun x y H Q => ∃a b xs ys,x=.ref a/\y=.ref b/\cD K H a xs/\cD K H b ys/\xs≠[]/\xs.length+ys.length<=sizeLine /\
 (ys=[]->Q (.ref a) H)/\(ys≠[]->∀p,H p=none->Q (.ref p) (aH H p (.tup (xs++ys))))
end
def ju(n:Nat)(i:Int):Option Nat:=if 0<=i then(if i<n then some i.toNat else none)else if -(n:Int)<=i then some (i+n).toNat else none
def atI{α:Type}(xs:List α)(i:Int):Option α:=(ju xs.length i).bind fun j=>xs[j]?
theorem xm(h:ju n i=some j):seqIndex? i n=some j/\j<n /\ -(n:Int)<=i/\i<n:=by
 unfold ju at h
 by_cases h0:0<=i
 ·rw[if_pos h0]at h
  by_cases h1:i<n
  ·rw[if_pos h1]at h
   have e:i.toNat=j:=VA h
   exact⟨by rw[seqIndex_of h0 h1,e],by omega,by omega,h1⟩
  ·rw[if_neg h1]at h;cases h
 ·rw[if_neg h0]at h
  by_cases h1:-(n:Int)<=i
  ·rw[if_pos h1]at h
   have e:(i+n).toNat=j:=VA h
   exact⟨by rw[seqIndex_neg (by omega) h1,e],by omega,h1,by omega⟩
  ·rw[if_neg h1]at h;cases h
theorem xI{xs:List α}{v:α}(h:atI xs i=some v):∃j,seqIndex? i xs.length=some j/\xs[j]?=some v/\j<xs.length /\ -(xs.length:Int)<=i/\i<xs.length:=by
 unfold atI at h
 cases e:ju xs.length i with
 | none=>rw[e]at h;cases h
 | some j =>
  rw[e]at h
  obtain⟨h1,h2,h3,h4⟩:=xm e
  exact⟨j,h1,h,h2,h3,h4⟩
theorem xH{xs:List α}{v:α}(h:xs[j]?=some v):atI xs (j:Int)=some v:=by
 have hj:j<xs.length:=(Vu.mp h).1
 have e:ju xs.length (j:Int)=some j:=by
  unfold ju
  rw[if_pos (by omega),if_pos (by omega)];simp
 unfold atI;rw[e];exact h
def fV(b:Expr):Prop:=∀o i,subscripted b false o i=operate [o,i] (getItem o i)
def Fb(X:Cx)(r:R2):Prop :=
 ∀(value slice:Expr) (pins:List (Addr×Obj)) (s:Shared) (σ:St) (H:Hp) (x y:V) (v u:Value) (Q:VK),aj X pins σ H s->aX x v->aX y u->r x y H Q ->
  subscripted slice false v u=operate [v,u] (getItem v u)->wpAny (model X.prog X.w) X.A (subscriptTail value slice v u) (EP X pins σ Q) X.xe s
def LK(X:Cx)(id:String)(r:V->List V->Hp->VK->Prop):Prop :=
 ∀(pins:List (Addr×Obj)) (s:Shared) (σ:St) (H:Hp) (x:V) (xs:List V) (v:Value) (us:List Value) (Q:VK),aj X pins σ H s->aX x v->aP xs us->r x xs H Q ->
  wpAny (model X.prog X.w) X.A (call (.builtin id) (v::us)) (EP X pins σ Q) X.xe s
section
variable{X:Cx}{a b:Expr}{ta tb:TE}{pos:Pos}
theorem qe{r:R2}(hr:Fb X r)(ha:PE X a ta)(hb:PE X b tb)(hs:fV b):PE X (.Subscript a b pos) (NP r ta tb):=by
 intro pins s σ H Q I h
 exact Subscript_ (Lr ha hb I h fun v u s2 x y H2 I2 rx ry q=>hr a b pins s2 σ H2 x y v u Q I2 rx ry q (hs _ _))
def PC(K:W.Frag):R2:=fun x y H Q => ∃p xs i v,x=.ref p/\y=.int i/\cn K H p xs/\atI xs i=some v/\Q v H
def PB(K:W.Frag):R2:=fun x y H Q => ∃p xs i v,x=.ref p/\y=.int i/\cD K H p xs/\atI xs i=some v/\Q v H
theorem xl:Fb X (PC X.K):=by
 intro value slice pins s σ H x y v u Q I rx ry h hs
 obtain⟨p,xs,i,z,rfl,rfl,hq,he,q⟩:=h
 cases rx
 obtain⟨t,rfl⟩:=ry
 obtain⟨its,r,pl,hz⟩:=I.list hq
 obtain⟨j,h1,h2,h3,h4,h5⟩:=xI he
 obtain⟨w,ew,rw'⟩:=r.get h2
 have hl:=r.length
 have hn:=mv
 have fin:EP X pins σ Q w s:=⟨z,H,I,rw',q⟩
 by_cases h0:0<=i
 ·have hj:i.toNat=j:=by
   rw[seqIndex_of h0 h5]at h1
   exact VA h1
  exact item_listR pl.isList h0 (by omega) (by rw[hj];simpa using ew) fin hs
 ·have hj:(i+(its.toArray.size:Int)).toNat=j:=by
   rw[seqIndex_neg (by omega) h4]at h1
   rw[Vo,<- hl]
   exact VA h1
  exact subscriptTail_builtinR (x:=w) pl.isList.typeIs slot_list_getitem.lookup
   (wpAny_getItem_list_neg (Q:=fun r s'=>r=w/\EP X pins σ Q r s') pl.isList (by omega) (by rw[Vo]<;>omega) (by omega) (by rw[hj];simpa using ew) ⟨rfl,fin⟩) hs
theorem A7:Fb X (PB X.K):=by
 intro value slice pins s σ H x y v u Q I rx ry h hs
 obtain⟨p,xs,i,z,rfl,rfl,hq,he,q⟩:=h
 cases rx
 obtain⟨t,rfl⟩:=ry
 obtain⟨its,r,pl,hz⟩:=I.tuple hq
 obtain⟨j,h1,h2,h3,h4,h5⟩:=xI he
 obtain⟨w,ew,rw'⟩:=r.get h2
 have hl:=r.length
 have hn:=mv
 have fin:EP X pins σ Q w s:=⟨z,H,I,rw',q⟩
 exact subscriptTail_builtinR (x:=w) pl.typeIs slot_tuple_getitem.lookup
  (getItem_tuple (j:=j) (Q:=fun r s'=>r=w/\EP X pins σ Q r s') pl (by omega) (by omega) (by rw[Vo,<- hl];exact h1) (by simpa using ew) ⟨rfl,fin⟩) hs
theorem yH(its:List Value)(n j:Nat)(u:Value):Obj.mapSeq (·.setIfInBounds j u) { cls:=.type "list", data:=.seq its.toArray n } = { cls:=.type "list", data:=.seq (its.set j u).toArray n }:=by
 simp[Obj.mapSeq]
theorem aj.lst(I:aj X pins σ H s)(h:H p=some (.lst xs)) :
  ∃(its:List Value) (n:Nat),aP xs its/\s.heap.get? p=some { cls:=.type "list", data:=.seq its.toArray n }/\xs.length<=sizeLine:=by
 obtain⟨z,its,n,r,e⟩:=I.hok p _ h
 exact⟨its,n,r,e,z⟩
theorem aj.lstUpd{ys:List V}{n':Nat}{f:Obj->Obj}(I:aj X pins σ H s)(h:H p=some (.lst xs))
  (ho:s.heap.get? p=some { cls:=.type "list", data:=.seq its.toArray n }) (hf:f { cls:=.type "list", data:=.seq its.toArray n } = { cls:=.type "list", data:=.seq its'.toArray n' }) (r:aP ys its') (hz:ys.length<=sizeLine) (t:Nat) :
  aj X pins σ (aH H p (.lst ys)) { s with heap:=s.heap.update p f,toks:=t }:=by
 have e:(s.heap.update p f).get? p=some { cls:=.type "list", data:=.seq its'.toArray n' }:=by
  rw[V3 f ho (by rw[hf]<;>rfl),hf]
 refine I.write (x:=p) (e:=p) (by rw[h];trivial) (.inl rfl) (fun b u hb q=>(Vq _ _ (V2 hb)).trans q) ⟨_,e⟩ ?_
 exact⟨hz,its',n',r,e⟩
def MJ:V->V->V->Hp->(Hp->Prop)->Prop:=fun o i v H Q => ∃p xs k j,o=.ref p/\i=.int k/\H p=some (.lst xs)/\ju xs.length k=some j/\Q (aH H p (.lst (xs.set j v)))
theorem ue:DT X MJ:=by
 intro pins s σ H o i v ov iv u Q I ro ri rv h
 obtain⟨p,xs,k,j,rfl,rfl,hp,hj,q⟩:=h
 cases ro
 obtain⟨t,rfl⟩:=ri
 obtain⟨its,n,r,ho,hz⟩:=I.lst hp
 obtain⟨h1,h2,h3,h4⟩:=xm hj
 have hl:=r.length
 have hn:=mv
 have I':aj X pins σ (aH H p (.lst (xs.set j v))) { s with heap:=s.heap.update p (Obj.mapSeq (·.setIfInBounds j u)) } :=
  I.lstUpd hp ho (yH its n j u) (r.set rv j) (by rw[VT];exact hz) s.toks
 by_cases h0:0<=k
 ·have hk:k.toNat=j:=by
   rw[seqIndex_of h0 h4]at h1
   exact VA h1
  exact W.ki_setAt ho h0 (by omega) (by rw[Vo,<- hl];exact h4) (by rw[hk];exact⟨_,I',q⟩)
 ·have hk:(k+(its.toArray.size:Int)).toNat=j:=by
   rw[seqIndex_neg (by omega) h3]at h1
   rw[Vo,<- hl]
   exact VA h1
  exact W.ki_setBack ho (by omega) (by rw[Vo,<- hl];exact h3) (by omega) (by rw[hk];exact⟨_,I',q⟩)
theorem ud(lo hi:Option Int)(n:Nat):(sliceBounds lo hi none n).1=((HT.sIx n 0 lo:Nat):Int)/\(sliceBounds lo hi none n).2.1=((HT.sIx n n hi:Nat):Int)/\(sliceBounds lo hi none n).2.2=1:=by
 refine⟨?_,?_,rfl⟩
 ·cases lo with
  | none=>simp[sliceBounds,HT.sIx]
  | some i =>
   simp only[sliceBounds,HT.sIx,Option.getD_none,show(1:Int)>0 by decide,WY]
   by_cases h:i<0
   ·simp only[h,WY]<;>omega
   ·simp only[h,Xn]<;>omega
 ·cases hi with
  | none=>simp[sliceBounds,HT.sIx]
  | some i =>
   simp only[sliceBounds,HT.sIx,Option.getD_none,show(1:Int)>0 by decide,WY]
   by_cases h:i<0
   ·simp only[h,WY]<;>omega
   ·simp only[h,Xn]<;>omega
theorem sU(its:List Value)(lo hi:Option Int):slicePick its.toArray lo hi none=((its.drop (HT.sIx its.length 0 lo)).take (HT.sIx its.length its.length hi-HT.sIx its.length 0 lo)).toArray:=by
 obtain⟨h1,h2,h3⟩:=ud lo hi its.toArray.size
 unfold slicePick
 rw[h1,h2,h3]
 simp only[sliceRange_one,pick_run,Vo]<;>rfl
def Pz(K:W.Frag):V->Option Int->Option Int->Hp->VK->Prop:=fun x lo hi H Q => ∃a xs,x=.ref a/\cn K H a xs/\∀p,H p=none->Q (.ref p) (aH H p (.lst (i9 xs lo hi)))
theorem wC:LG X (Pz X.K):=by
 intro pins s σ H x v vl vu lo hi sl Q I rx hs pl pu h
 obtain⟨a,xs,rfl,hx,q⟩:=h
 cases rx
 obtain⟨its,r,ht,hz⟩:=I.list hx
 have hlen:=r.length
 refine⟨"list", _,slot_list_getitem.lookup,ht.isList.typeIs,?_⟩
 refine wpAny_getItem_list_slice ht.isList hs pl pu .none (by simp) ?_ (by rw[Vo]<;>omega)
 rw[sU,<- hlen]
 refine⟨.ref s.heap.objs.size,_,I.laid (t':=s.toks) (o:=.lst (i9 xs lo hi)) (fun b ob q=>U9 _ q) (Vf _) ?_,rfl,q _ (I.hok.fresh (Vf _))⟩
 exact⟨Vl (oB xs lo hi) hz,_,0,(r.drop (HT.sIx xs.length 0 lo)).take (HT.sIx xs.length xs.length hi-HT.sIx xs.length 0 lo),Vg _ rfl⟩
theorem mL:eL X (.builtin "len") (fun xs H Q => ∃p ys,xs=[.ref p]/\(cn X.K H p ys\/cD X.K H p ys)/\Q (.int ys.length) H):=by
 intro pins s σ H xs us Q I r h
 obtain⟨p,ys,rfl,hq,q⟩:=h
 obtain⟨u,rfl,rx⟩:=ee r
 cases rx
 have hn:=mv
 rcases hq with hq|hq
 ·obtain⟨its,r',pl,hz⟩:=I.list hq
  have hlen:=r'.length
  exact Calls.call_len_list pl.isList (by simp only[Vo]<;>omega) ⟨.int ys.length,H,I.tok _,⟨s.toks+1,by rw[Vo,hlen]⟩,q⟩
 ·obtain⟨its,r',pl,hz⟩:=I.tuple hq
  have hlen:=r'.length
  exact len_tuple pl (by simp only[Vo]<;>omega) ⟨.int ys.length,H,I.tok _,⟨s.toks+1,by rw[Vo,hlen]⟩,q⟩
theorem mK:eL X (.type "list") (fun xs H Q => ∃p ys,xs=[.ref p]/\(cn X.K H p ys\/cD X.K H p ys)/\∀l,H l=none->Q (.ref l) (aH H l (.lst ys))):=by
  intro pins s σ H xs us Q I r h
  obtain⟨p,ys,rfl,hq,q⟩:=h
  obtain⟨u,rfl,rx⟩:=ee r
  cases rx
  have fin:∀(its:List Value),aP ys its->ys.length<=sizeLine->∀(h':Heap) (c':Nat),(∀b o',s.heap.get? b=some o'->h'.get? b=some o') ->
      h'.get? s.heap.objs.size=some { cls:=.type "list", dict:=none,data:=.seq its.toArray c',slots:=#[] }->EP X pins σ Q (.ref s.heap.objs.size) { s with heap:=h' }:=fun its r' hz h' c' kp e =>
    ⟨.ref s.heap.objs.size,_,I.laid (t':=s.toks) kp (Vf _) (show bD X.prog X.w _ h' _ (.lst ys)from⟨hz,its,c',r',e⟩),rfl,q _ (I.hok.fresh (Vf _))⟩
  rcases hq with hq|hq
  . obtain⟨its,r',pl,hz⟩:=I.list hq
    have hlen:=r'.length
    obtain⟨o,ho,hc,n,hd⟩:=pl.isList
    exact call_list_seq p (.inl rfl) ho hc hd (fun h' c' kp e=>fin its r' hz h' c' kp e) (by simp only[Vo]<;>omega)
  . obtain⟨its,r',pl,hz⟩:=I.tuple hq
    have hlen:=r'.length
    obtain⟨o,ho,hc,n,hd⟩:=pl
    exact call_list_seq p (.inr rfl) ho hc hd (fun h' c' kp e=>fin its r' hz h' c' kp e) (by simp only[Vo]<;>omega)
theorem lB:eL X (.type "tuple") (fun xs H Q => ∃p ys,xs=[.ref p]/\((cn X.K H p ys/\∀l,H l=none->Q (.ref l) (aH H l (.tup ys)))\/(cD X.K H p ys/\Q (.ref p) H))):=by
 intro pins s σ H xs us Q I r h
 obtain⟨p,ys,rfl,h⟩:=h
 obtain⟨u,rfl,rx⟩:=ee r
 cases rx
 rcases h with⟨hq,q⟩|⟨hq,q⟩
 ·obtain⟨its,r',pl,hz⟩:=I.list hq
  have hlen:=r'.length
  refine call_tuple_list pl.isList (fun h' kp=>?_) (by simp only[Vo]<;>omega)
  have I1:aj X pins σ H { s with heap:=h' }:=I.kept (t':=s.toks) kp
  have I2:aj X pins σ (aH H h'.objs.size (.tup ys)) { s with heap:=h'.push { cls:=.type "tuple", data:=.seq its.toArray } } :=
   I1.laid (t':=s.toks) (fun b o e=>U9 _ e) (Vf _) (show bD X.prog X.w _ _ _ (.tup ys)from⟨hz,its,r',IsTup.new _ _⟩)
  exact⟨.ref h'.objs.size,_,I2,rfl,q _ (I1.hok.fresh (Vf _))⟩
 ·obtain⟨its,r',pl,hz⟩:=I.tuple hq
  exact call_tuple_same pl ⟨.ref p,H,I,rfl,q⟩
def HF(K:W.Frag)(T:String)(x:V)(H:Hp):Prop:=match x with
  | .str _=>T = "str"
  | .int _=>T = "int"
  | .ref p=>(T = "list" /\ ∃xs,cn K H p xs)\/(T = "tuple" /\ ∃o,K.lookup p=some o/\o.cls=.type "tuple" /\ o.dict=none) \/
      (T = "dict" /\ ((∃kvs,H p=some (.dK kvs))\/∃kvs,H p=some (.dT kvs)))\/(T = "set" /\ ∃S n,H p=some (.set S n))
  | _=>False
theorem zW{T:String}{x:V}{v:Value}(I:aj X pins σ H s)(r:aX x v)(ty:HF X.K T x H) :
  s.TypeIs v T/\∀a,v=.ref a->∃ob,s.heap.get? a=some ob/\ob.dict=none:=by
 cases x with
 | str z =>
  obtain⟨t,rfl⟩:=r
  cases (show T = "str" from ty)
  exact⟨typeIs_str s z t,fun _ e=>nomatch e⟩
 | int i =>
  obtain⟨t,rfl⟩:=r
  cases (show T = "int" from ty)
  exact⟨typeIs_int s i t,fun _ e=>nomatch e⟩
 | ref p =>
  cases r
  rcases ty with⟨rfl,xs,hq⟩|⟨rfl,o,hk,hc,hd⟩|⟨rfl,hk⟩|⟨rfl,S,n,hk⟩
  ·obtain⟨its,_,pl,_⟩:=I.list hq
   refine⟨pl.isList.typeIs,fun a e=>?_⟩
   cases e
   obtain⟨o,n,e,c,hd,_⟩:=pl
   exact⟨o,e,hd⟩
  ·refine⟨⟨o,I.kIn p o hk,hc⟩,fun a e=>?_⟩
   cases e
   exact⟨o,I.kIn _ o hk,hd⟩
  ·have z:∃o,s.heap.get? p=some o/\o.ExactDict:=by
    rcases hk with⟨kvs,hk⟩|⟨kvs,hk⟩
    ·obtain⟨_,_,_,_,o,_,_,e,ex,_⟩:=I.hok p _ hk
     exact⟨o,e,ex⟩
    ·obtain⟨_,_,_,_,o,_,_,e,ex,_⟩:=I.hok p _ hk
     exact⟨o,e,ex⟩
   obtain⟨o,e,ex⟩:=z
   refine⟨⟨o,e,ex.1⟩,fun a e2=>?_⟩
   cases e2
   exact⟨o,e,ex.2.1⟩
  ·obtain⟨o,_,_,_,e,ex,_⟩:=I.hok p _ hk
   refine⟨⟨o,e,ex.1⟩,fun a e2=>?_⟩
   cases e2
   exact⟨o,e,ex.2.1⟩
 | _=>exact False.elim ty
def Oi(K:W.Frag)(T:String)(r:V->List V->Hp->VK->Prop)(to:TE):TE:=fun σ H Q=>to σ H fun x H1=>HF K T x H1/\r x [] H1 Q
def UP(K:W.Frag)(T:String)(r:V->List V->Hp->VK->Prop)(to:TE)(t:TA):TE:=fun σ H Q=>to σ H fun x H1=>HF K T x H1/\t σ H1 fun xs H2=>r x xs H2 Q
variable{o e:Expr}{es:List Expr}{to:TE}{t:TA}{name:Str}{apos cpos:Pos}{T id:String}{r:V->List V->Hp->VK->Prop}
theorem Jh(pa:PlainAttrs T)(slot:Slot T name id)(hty:typeOf (.builtin id)=pure (.type "method_descriptor"))(hm:LK X id r)(ho:PE X o to)
  (hbase:attributeBase o name X.env (eval o X.env)=eval o X.env:=by rfl) (hline:(apos.endLine==cpos.line)=true:=by rfl):PE X (.Call (.Attribute o name apos) [] [] cpos) (Oi X.K T r to):=by
 intro pins s σ H Q I h
 refine wpAny_Call_method0_late hbase hline (aQ (ho pins s σ H _ I h) fun v s1 ⟨x,H1,I1,r1,ty,q1⟩=>?_)
 obtain⟨h1,h2⟩:=zW I1 r1 ty
 exact⟨T,id,pa,slot,hty,h1,h2,Calls.callWith_builtin rfl (PySem.evalArgs_none (hm pins s1 σ H1 x [] v [] Q I1 r1 .nil q1))⟩
theorem Em(pa:PlainAttrs T)(slot:Slot T name id)(hty:typeOf (.builtin id)=pure (.type "method_descriptor"))(hm:LK X id r)(ho:PE X o to)(ha:PA X (e::es) t)
  (hbase:attributeBase o name X.env (eval o X.env)=eval o X.env:=by rfl)
  (hfew:((backTo cpos (starEach (e::es) X.env)).all (fun x => !x.1)&&(backToKw cpos (keywordEach [] X.env)).all (fun x=>x.1.isSome)
   && decide ((e::es).length+([]:List Keyword).length+(if ([]:List Keyword).isEmpty then 0 else 1)<30))=true:=by rfl)
  (hline:(apos.endLine==cpos.line)=true:=by rfl) (hs:starEach (e::es) X.env=(false,eval e X.env)::starEach es X.env:=by rfl) (hplain:(backTo cpos (starEach es X.env)).any (·.1)=false:=by rfl) :
  PE X (.Call (.Attribute o name apos) (e::es) [] cpos) (UP X.K T r to t):=by
 intro pins s σ H Q I h
 refine wpAny_Call_method_late hbase hfew hline rfl (aQ (ho pins s σ H _ I h) fun v s1 ⟨x,H1,I1,r1,ty,q1⟩=>?_)
 obtain⟨h1,h2⟩:=zW I1 r1 ty
 refine⟨T,id,pa,slot,hty,h1,h2,?_⟩
 have hA:=ha cpos pins s1 σ H1 _ I1 q1
 rw[hs]at hA⊢
 refine Calls.callWith_builtin (by show(false || (backTo cpos (starEach es X.env)).any (·.1))=false;rw[hplain]<;>rfl) (Calls.evalArgs_plain ?_)
 exact aQ hA fun us s2 ⟨vs,H2,I2,r2,q2⟩=>hm pins s2 σ H2 x vs v us Q I2 r1 r2 q2
/- xs.append(e),list.index on a module's tuple .. are LK facts of 06m -/
end
def LL(X:Cx)(id:String)(r:V->List V->Hp->VK->Prop):Prop :=
 ∀(pins:List (Addr×Obj)) (s:Shared) (σ:St) (H:Hp) (x:V) (xs:List V) (v:Value) (us:List Value) (Q:VK),aj X pins σ H s->aX x v->aP xs us->r x xs H Q ->
  wpAny (model X.prog X.w) X.A (call (.builtin id) (v::us)) (EP X pins σ Q) X.xe s
theorem aP.one:∀{x:V} {us:List Value},aP [x] us->∃u,us=[u]/\aX x u
 | _,_,.cons r .nil=>⟨_,rfl,r⟩
theorem aP.zero:∀{us:List Value},aP [] us->us=[]
 | _,.nil=>rfl
theorem aP.reverse{us:List Value}(h:aP xs us):aP xs.reverse us.reverse:=by
 induction h with
 | nil=>exact .nil
 | cons r t ih=>rw[Xa,Xa];exact aP.append ih (.cons r .nil)
section
variable{X:Cx}{l b:Addr}{ys zs:List V}
theorem aj.lset{f:Array Value->Array Value}{t':Nat}(I:aj X pins σ H s)(hH:H l=some (.lst xs))
  (e:s.heap.get? l=some { cls:=.type "list", data:=.seq its.toArray n }) (hf:f its.toArray=its'.toArray) (hv:aP ys its') (hz:ys.length<=sizeLine) :
  aj X pins σ (aH H l (.lst ys)) { s with heap:=s.heap.update l (Obj.mapSeq f),toks:=t' }:=by
 have q:=PySem.IsL.update e f
 rw[hf]at q
 refine I.write (x:=l) (e:=l) (by rw[hH];exact trivial) (.inl rfl) (fun b' u hb hu=>(Vq s.heap (Obj.mapSeq f) (V2 hb)).trans hu) ⟨_,q⟩ ?_
 exact⟨hz,its',_,hv,q⟩
theorem aj.lnew{t':Nat}(I:aj X pins σ H s)(hv:aP ys its)(hz:ys.length<=sizeLine) :
  aj X pins σ (aH H s.heap.objs.size (.lst ys)) { s with heap:=s.heap.push { cls:=.type "list", data:=.seq its.toArray },toks:=t' } :=
 I.laid (fun _ _ q=>U9 _ q) (Vf _) ⟨hz,its,0,hv,Vg _ rfl⟩
theorem aj.fresh(I:aj X pins σ H s):H s.heap.objs.size=none:=I.hok.fresh (Vf _)
theorem aj.lstM(I:aj X pins σ H s)(hH:H l=some (.lst xs)):xs.length<=sizeLine/\∃(its:List Value) (n:Nat),aP xs its/\xs.length=its.length/\s.heap.get? l=some { cls:=.type "list", data:=.seq its.toArray n }:=by
 obtain⟨z,its,n,r,e⟩:=I.hok l _ hH
 exact⟨z,its,n,r,r.length,e⟩
end
section
variable{X:Cx}
def FJ:V->List V->Hp->VK->Prop:=fun x vs H Q => ∃l xs y,x=.ref l/\vs=[y]/\H l=some (.lst xs)/\xs.length<sizeLine/\Q .non (aH H l (.lst (xs++[y])))
theorem sw:LL X "list.append" FJ:=by
 intro pins s σ H x vs v us Q I rx rv h
 obtain⟨l,xs,y,rfl,rfl,hH,hz,q⟩:=h
 cases rx
 obtain⟨u,rfl,ru⟩:=rv.one
 obtain⟨z,its,n,r,hl,e⟩:=I.lstM hH
 refine call_meets F.slot_list_append ⟨_,e,rfl⟩ F.entry_list_append (F.args_list_append_2 _ _) (PySem.list_append l its.toArray n u (by rw[Vo];omega)) ⟨e,?_⟩
 refine⟨.non,_,I.lset (its':=its++[u]) hH e (by simp) (r.append (.cons ru .nil)) ?_,rfl,q⟩
 rw[Vw,List.length_singleton]
 omega
end
section
variable{prog:Program}{w:World}{A:Around}{E:Value->Shared->Prop}
set_option maxRecDepth 100000 in
end
section
variable{X:Cx}
end
end L2
namespace Att
open PySem PySem.W PySem.Calls PyProof.Rows
variable{P:Params}{h:Heap}{l:OpenLaw}{n:Nat}
theorem qp:∀(ns:List Int) (vs:List Value),WellAll P h vs (ns.map WData.int)->IntsAre vs ns:=by
 intro ns
 induction ns with
 | nil =>
  intro vs w
  rw[Xp]at w
  cases w
  exact .nil
 | cons n ns ih =>
  intro vs w
  rw[Vx]at w
  cases w with
  | cons a b =>
   cases a
   exact .cons _ _ (ih _ b)
theorem Ak(hn:l.most=some n){args:List WData}{vals:List Value}
  (hpre:l.row.toRowW.claim.pre args=true) (hwl:WellAll P h vals args) :
  ∃a vs ns,vals=[Value.ref a]/\args=[WData.list (ns.map WData.int)]/\h.get? a=some { cls:=.type "list", data:=.seq vs.toArray }/\IntsAre vs ns/\ns.length<=n:=by
 have hsh:WShape.hasAll [] args [.list .int]=true:=(pre_splitW hpre).1
 have hc:l.pre.holds [] { args:=args }=true:=(pre_splitW hpre).2
 obtain⟨d,r,rfl,h1,h2⟩:=hasAllW_cons hsh
 obtain rfl:=hasAllW_nil h2
 obtain⟨xs,rfl,h3⟩:=hasW_list h1
 obtain⟨ns,rfl⟩:=items_int h3
 have hlen:ns.length<=n:=by
  unfold OpenLaw.pre at hc
  have h4:(WTm.not (.lt (.lit (.int (n:Int))) (.len (.arg 0)))).holds [] { args:=[.list (ns.map .int)] }=true:=by
   have h4:=(holds_andW hc).1
   rw[hn]at h4
   exact h4
  have h5:=condW_of h4 (w_not (w_lt w_lit (w_len_list (w_arg rfl))))
  rw[Vi]at h5
  refine Nat.le_of_not_lt fun q=>?_
  have q':(n:Int)<((ns.length:Nat):Int):=by omega
  first
   | (rw[Vt q']at h5;exact absurd h5 (by decide))
   | (simp at h5;omega)
 cases hwl with
 | cons w1 w2 =>
  cases w2
  cases w1 with
  | list ho hall=>exact⟨_,_,ns,rfl,rfl,ho,qp ns _ hall,hlen⟩
theorem Ar(l:OpenLaw)(args:List WData):l.row.toRowW.claim.post args (.bool true) args=true :=
 postW_of (r:=l.row.toRowW) (X:=(true==true))
  (show WShape.has [] (.bool true) .bool=true by first|rfl|decide|simp[WShape.has,WShape.arms,WShape.armsAll])
  (show(WTm.eq .res (.lit (.bool true))).value [] { args:=args,res:=some (.bool true),after:=args }=some (.bool (true==true))from w_eq_bool (w_res rfl) w_lit) rfl
theorem attach_call{q:Program}{loose:List Str}{XP:(Str->Option Value)->Heap->Prop}{YP:World->Heap->Prop}{d:DefRec}
  (hn:l.most=some n) (hdf:d.params.defaults=[])
  (call:∀(w:World) (s₀ s₁:Shared) (mg mb:Str->Option Value) (fa:Addr) (o:Obj) (pm cd doc:Value) (a:Addr) (vs:List Value) (ns:List Int),
   Ground q loose [] XP w s₀ mg mb s₁.heap->YP w s₁.heap ->
   s₁.heap.get? fa=some o->o.data=.func (docDef d.name d.params d.body d.scope pm cd doc)->s₁.heap.CodeRec cd d.name->mg d.name=some (.ref fa) ->
   s₁.heap.get? a=some { cls:=.type "list", data:=.seq vs.toArray }->IntsAre vs ns->ns.length<=n->s₁.gens = #[] ->
   codeAny (model l.prog w) callerA (.call (.ref fa) ⟨[.ref a],[]⟩) (fun r s'=>r=.ok (.ret (.bool true))/\OldK s₁.heap s'.heap/\s'.os=s₁.os/\AllBare s'.gens) s₁) :
  WalkO q loose XP YP l.row.toRowW d [] (fun f vs=>PySem.call f vs):=by
 intro w s₀ s₁ mg mb G Y fa o pm cd doc dV kV ho hd hcd hD hmg hg args vals as hpre hlay hrd hwl hlo
 obtain rfl:dV=.none:=Dflts.none hD hdf
 obtain rfl:kV=.none:=Dflts.noKw hD
 obtain⟨a,vs,ns,rfl,rfl,hobj,hints,hlen⟩:=Ak hn hpre hwl
 refine enter_call (Xc (call w s₀ s₁ mg mb fa o pm cd doc a vs ns G Y ho (fd_plain hd) hcd hmg hobj hints hlen hg) fun r s' hq=>?_)
 obtain⟨rfl,h2,h3,h4⟩:=hq
 exact⟨.inl ⟨.bool true,.bool true,[],rfl,fun _=>rfl,.bool true,Ar l _,fun _=>⟨List.Pairwise.nil,fun _ hm=>(nomatch hm)⟩⟩,h2,h3,h4⟩
section
variable{prog:Program}{w:World}{A:Around}{E:Value->Shared->Prop}{s:Shared}{K:Frag}
end
end Att
namespace L2
open PySem PySem.Spec PyProof.Rows
variable{k:Nat}{x:Str}
theorem sj:∀{vs:List Value} {ns:List Int},IntsAre vs ns->aP (ns.map V.int) vs
 | _,_,.nil=>.nil
 | _,_,.cons n t h=>.cons ⟨t,rfl⟩ (sj h)
def zw(H:Hp):Prop:=∀b,H b=none\/∃o xs,H b=some (.frz o (.lst xs))
theorem CZ{P:Program}{w:World}{K:W.Frag}{mg mb:Str->Option Value}{CX:kh}{fa a:Addr}{fd:FuncData}{sp:Sp}{s₁:Shared}{vs:List Value}{ns:List Int}
    (KX:K.In s₁.heap) (hns:s₁.heap.Ns mainGlobals mg) (hb:s₁.heap.Ns builtinsNs mb) (hbb:∀x:Str,x ≠ "__name__" -> mb x=bootBuiltins x) (hlim:s₁.heap.NoLimit) (hg:s₁.gens = #[])
    (ha:s₁.heap.get? a=some { cls:=.type "list", data:=.seq vs.toArray }) (hi:IntsAre vs ns) (hl:ns.length<=sizeLine) (hr:bS k callerA)
    (F:∀base:Heap,K.In base->base.Ns mainGlobals mg->bT P w K mg base CX k fa fd [x] sp) (hbind:∀(s:Shared) (u:Value),BindsTo s fd ⟨[u],[]⟩ [(x,u)])
    (hsp:∀H:Hp,zw H->cn K H a (ns.map V.int)->sp [.ref a] H (fun v _=>v=.bl true) fun _ _ _=>False)
    (hCX:∀H e s',CX [] H s₁ (fun _ _ _=>False) e s'->False) :
    codeAny (model P w) callerA (.call (.ref fa) ⟨[.ref a],[]⟩) (fun r s'=>r=.ok (.ret (.bool true))/\OldK s₁.heap s'.heap/\s'.os=s₁.os/\AllBare s'.gens) s₁:=by
  have rv:=sj hi
  have lenV:=hi.length
  have core:∀H:Hp,zw H->cn K H a (ns.map V.int)->cO P w H s₁.heap->(∀b,H b≠none->b=a)->(H a≠none->K.lookup a=none) ->
      codeAny (model P w) callerA (.call (.ref fa) ⟨[.ref a],[]⟩) (fun r s'=>r=.ok (.ret (.bool true))/\OldK s₁.heap s'.heap/\s'.os=s₁.os/\AllBare s'.gens) s₁:=by
    intro H hO hS hok hA hK
    have iQ:∀{b:Addr} {o:Obj},s₁.heap.get? b=some o->H b=none->(kG s₁.heap H).get? b=some o:=fun e n=>Dd e n
    have noA:∀{b:Addr} {o:Obj} {es:Array DictEntry} {ep:Nat},s₁.heap.get? b=some o->o.data=.dict es ep->H b=none:=fun {b o es ep} e d=>by
      cases q:H b with
      | none=>rfl
      | some u =>
        have e':b=a:=hA b (by rw[q];simp)
        subst e'
        rw[ha]at e;cases e
        have d':Data.seq vs.toArray _=Data.dict es ep:=d
        cases d'
    have nsK:∀{b:Addr} {m:Str->Option Value},s₁.heap.Ns b m->(kG s₁.heap H).Ns b m:=fun {b m} ⟨o,es,ep,e,d,r⟩=>⟨o,es,ep,iQ e (noA e d),d,r⟩
    have hKb:K.In (kG s₁.heap H):=fun b o e=>iQ (KX b o e) (by
      cases q:H b with
      | none=>rfl
      | some u =>
        have e':b=a:=hA b (by rw[q];simp)
        subst e'
        rw[hK (by rw[q];simp)]at e;cases e)
    have hM:Mod K mg (kG s₁.heap H):=⟨hKb,nsK hns,⟨mb,nsK hb,hbb⟩,let ⟨mc,h1,h2⟩:=hlim;⟨mc,nsK h1,h2⟩⟩
    have e0:jL P w K mg (kG s₁.heap H) callerA [] s₁ H:=⟨rfl,hM,fun b o e=>F4 e,Nat.le_of_eq (Bd _ _),trivial,fun b hb=>absurd (show b∈([]:List Addr)from hb) (by simp),hok,.of_eq hg⟩
    refine Xc ((F _ hKb (nsK hns)).run callerA [] s₁ H ⟨[.ref a],[]⟩ [.ref a] [.ref a] _ _ hr e0 (hbind s₁ (.ref a)) (.cons rfl .nil) (hsp H hO hS)) fun r s' h=>?_
    cases r with
    | error e=>exact(hCX H e s' h).elim
    | ok fl =>
      cases fl with
      | next=>exact False.elim h
      | brk=>exact False.elim h
      | cont=>exact False.elim h
      | ret u =>
        obtain⟨v,H',os,bare,un,hok',r',q⟩:=h
        have q':v=.bl true:=q
        subst q'
        obtain rfl:u=Value.bool true:=r'
        refine⟨rfl,OldK.of_keep fun b o e=>?_,os,bare⟩
        cases q:H b with
        | none=>exact un.keep b o e q (by intro z;exact absurd (show b∈([]:List Addr)from z) (by simp)) (by simp)
        | some u =>
          rcases hO b with z|⟨ob,xs,z⟩
          . rw[q]at z;cases z
          . have z2:=un.frzs b ob _ z
            obtain⟨e1,_⟩:=hok b _ z
            obtain⟨e2,_⟩:=hok' b _ z2
            rw[e]at e1;cases e1
            exact e2
  cases hk:K.lookup a with
  | some o =>
    have e:=KX a o hk
    rw[ha]at e
    cases e
    refine core (fun _=>none) (fun _=>.inl rfl) (.inr ⟨_,vs.toArray,_,hk,rfl,rfl,rfl,by rw[Vo,lenV];exact hl,by simpa using rv⟩) (fun b u z=>by have z':(none:Option HO)=some u:=z;cases z') (fun b z=>absurd rfl z) fun z=>absurd rfl z
  | none =>
    refine core (fun b=>if b=a then some (.frz { cls:=.type "list", data:=.seq vs.toArray } (.lst (ns.map V.int)))else none) (fun b=>?_) (.inl (.inr ⟨{ cls:=.type "list", data:=.seq vs.toArray },if_pos rfl⟩)) (fun b u z=>?_) (fun b z=>?_) fun _=>hk
    . by_cases hb:b=a
      . exact .inr ⟨_,_,if_pos hb⟩
      . exact .inl (if_neg hb)
    . by_cases hb:b=a
      . have z':=(if_pos hb).symm.trans z
        cases z'
        subst hb
        exact⟨ha,by rw[Vi];exact hl,vs,_,rv,ha⟩
      . have z':=(if_neg hb).symm.trans z
        cases z'
    . by_cases hb:b=a
      . exact hb
      . exact absurd (if_neg hb) z
abbrev KOf{K:W.Frag}{h:Heap}(_:K.In h):W.Frag:=K
theorem walk_of{l:W.OpenLaw}{n:Nat}{q:Program}{loose:List Str}{XP:(Str->Option Value)->Heap->Prop}{YP:World->Heap->Prop}{d:DefRec}{K:Params->W.Frag}{CX:World->kh}{sp:World->Sp}
  (hn:l.most=some n) (hn2:n<=sizeLine) (hdf:d.params.defaults=[]) (hr:bS k callerA)
  (hY:∀(w:World) (h:Heap),YP w h->(K w.params).In h)
  (F:∀(w:World) (mg:Str->Option Value) (fa:Addr) (h:Heap),(K w.params).In h->h.Ns mainGlobals mg->mg d.name=some (.ref fa) ->
   ∃fd:FuncData,(∀(s:Shared) (u:Value),BindsTo s fd ⟨[u],[]⟩ [(x,u)]) /\
    ∀base:Heap,(K w.params).In base->base.Ns mainGlobals mg->bT l.prog w (K w.params) mg base (CX w) k fa fd [x] (sp w))
  (hsp:∀(w:World) (H:Hp) (a:Addr) (ns:List Int),ns.length<=n->zw H->cn (K w.params) H a (ns.map V.int)->sp w [.ref a] H (fun v _=>v=.bl true) fun _ _ _=>False)
  (hCX:∀(w:World) (H:Hp) (s:Shared) (e:Value) (s':Shared),CX w [] H s (fun _ _ _=>False) e s'->False) :
  W.WalkO q loose XP YP l.row.toRowW d [] (fun f vs=>PySem.call f vs):=by
 refine Att.attach_call hn hdf fun w s₀ s₁ mg mb fa o pm cd doc a vs ns G Y ho hd hcd hmg hobj hints hlen hg=>?_
 have KX:=hY w _ Y
 obtain⟨fd,hb,hF⟩:=F w mg fa _ KX G.T.g hmg
 exact CZ KX G.T.g G.T.b G.T.builtins G.T.nolimit hg hobj hints (Vl hlen hn2) hr hF hb (fun H hO hS=>hsp w H a ns hlen hO hS) fun H e s'=>hCX w H s₁ e s'
end L2
/- THE LAST THEOREM (shape;LID,My.* are yours):
   My.Adr: a structure of the addresses that your layer names (classes,functions);My.Txt K t: a structure (Prop) of the equations over K;
   My.txt_mk:{K} {implicit addresses ..} (e1:nsIn K mainGlobals "law" = some (some (.ref f))) (e2:K.lookup f=some ⟨oc,od,.func (fnOf "law" "law" params body scope dV kV doc pm an cdv ct),sl⟩) (e3:codeIn K cdv "law" = true) ..:∃t,My.Txt K t
set_option maxRecDepth 100000 in
set_option maxHeartbeats 0 in
theorem PySem.Challenge.cw_LID_holds : PySem.Challenge.rw_LID.Holds := by
 w_on;o_law;k_head;(case hw=>w_witness2)
 k_fill
 refine L2.walk_of (l:=PySem.Challenge.rw_LID) (n:=63) (k:=40) (x := "script") (CX:=fun w=>..) (sp:=fun _=>My.sp_law) rfl (by decide) rfl ⟨rfl,by decide,by decide⟩ (fun w h Y=>PySem.W.kIn_of Y) ?F ?S ?C
 case F =>
  intro w mg fa h KX G hmg
  have T:∃t,My.Txt (L2.KOf KX) t:=by
   dsimp only[L2.KOf]                          -- K must stand as «<heap const> w.params» for k_is
   refine' My.txt_mk ?e1 ?e2 ?e3 ..
   (case e1=>PySem.W.k_is)                    -- in the order: a name->its address->its object->its parts
   (case e2=>PySem.W.k_is)
   ..
  obtain⟨t,T⟩:=T
  have e0:=hmg.symm.trans (PySem.W.mg_of KX G T.law)
  cases e0                                       -- fa is the law's own address
  exact⟨_,fun s u=>.of_eq rfl,fun base kb nb=>My.law_fn T kb nb⟩     -- if «.of_eq rfl» comes too early: refine' ⟨_,?b,fun base kb nb=>My.law_fn T kb nb⟩;exact fun s u=>.of_eq rfl
 case S=>exact fun w H a ns hl hO hS=>..
 case C=>exact ..
(the tactic k_is has no namespace: write k_is) -/
namespace L2
open PySem PySem.Spec PyProof.Rows
variable{qual x:Str}{st:Stmt}{f:Addr}{fd:FuncData}{ps:List Str}{H H':Hp}
def aR(s:Stmt):Arguments:=match s with
 | .FunctionDef _ a _ _ _ _ _ _ _ _=>a
 | _ => { posonlyargs:=[],args:=[],vararg:=none,kwonlyargs:=[],kw_defaults:=[],kwarg:=none,defaults:=[] }
def ak(s:Stmt):List Stmt:=match s with
 | .FunctionDef _ _ b _ _ _ _ _ _ _=>b
 | _=>[]
def aa(s:Stmt):Scope:=match s with
 | .FunctionDef _ _ _ _ _ _ sc _ _ _=>sc
 | _ => { kind:=.function,names:=[],isGenerator:=false,isCoroutine:=false }
abbrev dS:kh:=fun _ _ _ _ _ _=>False
abbrev E0:XK:=fun _ _ _=>False
theorem nI{X:Cx}:ji dS X E0:=fun _ _ _ _ _ _ _ h=>h.elim
structure ke(K:W.Frag)(x qual:Str)(st:Stmt)(f:Addr)(fd:FuncData):Prop where
 ex:∃(oc:Value) (od:Option Addr) (kV doc pm:Value) (an:Option Addr) (cdv ct:Value) (osl:Array (Option Value)),
  fd=W.fnOf x qual (aR st) (ak st) (aa st) .none kV doc pm an cdv ct/\K.lookup f=some ⟨oc,od,.func fd,osl⟩/\W.codeIn K cdv qual=true
 kp:W.keepIn K (.ref f)=true
section
variable{P:Program}{w:World}{K:W.Frag}{mg:Str->Option Value}{base:Heap}
theorem ke.ok{N:List Str}{k:Nat}{sp:Sp}(F:ke K x qual st f fd)(S:aN N ps (aa st))(len:∀vs H Q E,sp vs H Q E->vs.length=ps.length)
  (hbody:∀(cdv:Value) (A:Around) (outer:List Env) (s:Shared) (H:Hp) (vs:List V) (Q:VK) (E:XK),bS k (A.deeper (envOfC qual (aa st) s.heap.objs.size f cdv))->sp vs H Q E ->
   ∃t,fe (i8 dS P w K mg base N qual (aa st) f cdv A outer s H E).nox (ak st) t/\t { nx:=fun _ H'=>Q .non H',rt:=Q } (start N vs) H):bT P w K mg base dS (k+1) f fd ps sp:=by
 obtain⟨oc,od,kV,doc,pm,an,cdv,ct,osl,rfl,lk,hcd⟩:=F.ex
 refine EH lk hcd S len fun A outer s H vs Q E hr hsp=>?_
 obtain⟨t,h,q⟩:=hbody cdv A outer s H vs Q E hr hsp
 exact⟨t,h.nox,q⟩
theorem ke.binds(F:ke K x qual st f fd)
  (h:∀(kV doc pm:Value) (an:Option Addr) (cdv ct:Value) (us:List Value),us.length=ps.length->bindArgs (W.fnOf x qual (aR st) (ak st) (aa st) .none kV doc pm an cdv ct) ⟨us,[]⟩=pure (ps.zip us)):cu K fd ps []:=by
 obtain⟨oc,od,kV,doc,pm,an,cdv,ct,osl,rfl,lk,hcd⟩:=F.ex
 exact .all (h kV doc pm an cdv ct)
theorem bj{oc:Value}{od an:Option Addr}{osl:Array (Option Value)}{kV doc pm cdv ct:Value}(l:K.lookup f=some ⟨oc,od,.func (W.fnOf x qual (aR st) (ak st) (aa st) .none kV doc pm an cdv ct),osl⟩)
  (c:W.codeIn K cdv qual=true) (k:W.keepIn K (.ref f)=true):ke K x qual st f (W.fnOf x qual (aR st) (ak st) (aa st) .none kV doc pm an cdv ct):=⟨⟨oc,od,kV,doc,pm,an,cdv,ct,osl,rfl,l,c⟩,k⟩
end
section
variable{X:Cx}
end
def aA(H H':Hp):Prop:=∀b o,H b=some o->H' b=some o
theorem aA.refl(H:Hp):aA H H:=fun _ _ h=>h
theorem aA.trans{H1 H2:Hp}(a:aA H H1)(b:aA H1 H2):aA H H2:=fun c o h=>b c o (a c o h)
theorem aA.free(e:aA H H'){l:Addr}(h:H' l=Option.none):H l=Option.none:=by
 cases q:H l with
 | none=>rfl
 | some o =>
  rw[e l o q]at h
  cases h
theorem aA.seq{K:W.Frag}{a:Addr}{xs:List V}(e:aA H H')(h:cn K H a xs):cn K H' a xs:=by
 rcases h with(h|⟨o,h⟩)|h
 ·exact .inl (.inl (e _ _ h))
 ·exact .inl (.inr ⟨o,e _ _ h⟩)
 ·exact .inr h
end L2
set_option maxHeartbeats 4000000
namespace L2
open PySem PySem.Spec PyProof.Rows
variable{hid:List Addr}{H:Hp}{base h h1 h2:Heap}{P prog:Program}{w:World}{M:Model}{A:Around}{E R:Value->Shared->Prop}{s s':Shared}{C L N S T e fI t0 x:Addr}{oI oe ox:Obj}{vs:Array Value}{Q:Unit->Shared->Prop}{env:Env}{outer:List Env}{dd od:Option Addr}{a0 v:Value}{K:W.Frag}{g:Array GenState}{d:Drawn}{os:OsState}{n name q:Str}{bm bmB bs sub:List Value}{ab hdct:Bool}{sn:List Str}{col:Option Bool}{k0 k1 k2 k3 k5:Option Value}{B initId newId:String}{pos:Pos}{t:Nat}{mN:Str->Option Value}{cd:ClassData}
theorem tT{fs:List Addr}{H':Hp}(u:Un fs [] H H' h h1)(hh:∀b o,h.get? b=some o->b∈hid->b∈fs)(k:∀b o,h1.get? b=some o->b∉hid->h2.get? b=some o)
  (kf:∀b∈fs,∀o,h1.get? b=some o->∃sl,h2.get? b=some { o with slots:=sl }):Un fs [] H H' h h2:=by
 refine⟨fun b o e n hb hx=>?_,fun b o e n hb hx=>?_,u.free,fun b o e hx=>?_,u.tups,u.frzs,u.tbls⟩
 ·exact k b o (u.keep b o e n hb hx) fun z=>hb (hh b o e z)
 ·obtain⟨sl,e1⟩:=u.slot b o e n hb hx
  obtain⟨sl',e2⟩:=kf b hb _ e1
  exact⟨sl',e2⟩
 ·obtain⟨o',e1⟩:=u.there b o e hx
  by_cases z:b∈hid
  ·obtain⟨sl,e2⟩:=kf b (hh b o e z) _ e1
   exact⟨_,e2⟩
  ·exact⟨o',k b o' e1 z⟩
theorem rJ(hk:cO P w H h1)(hn:∀b∈hid,H b=none)(k:∀b o,h1.get? b=some o->b∉hid->h2.get? b=some o):cO P w H h2:=fun a o e=>by
 have ne:∀b u,H b=some u->b∉hid:=fun b u e z=>by rw[hn b z]at e;cases e
 refine(hk a o e).stay (fun c v hc q=>k c v q ?_) (fun _ q=>q) fun _ _ q=>q
 rcases hc with z|z
 ·rw[z];exact ne a o e
 ·exact ne c _ z
theorem xr{h base:Heap}:∀{l:List Env},h.FunFrames base l->∀b∈cF l,∃o,h.get? b=some o/\∀vs,o.data ≠ .fields vs
 | [],_,b,hb=>by cases hb
 | env::l,hf,b,hb=>by
  obtain⟨h1,⟨L,o,e1,e2,e3,e4⟩,h2⟩:=hf
  unfold cF at hb;rw[Ww,e1]at hb
  rcases Ve.mp hb with rfl|hb
  ·exact⟨o,e3,e4⟩
  ·exact xr h2 b hb
def LE(x C T:Addr)(od:Option Addr)(h:Heap):Prop:=∃oe vs oT ts a0,h.get? x=some oe/\oe.cls=.ref C/\oe.dict=od/\oe.data=.fields vs/\vs[0]?=some a0/\vs[1]?=some (.ref T)/\T≠x/\h.get? T=some oT/\oT.data=.fields ts/\ts[3]?=some .none
def gp(P:Program)(w:World):kh:=fun outer H s E e s' => ∃x C T od H',e=.ref x/\s.heap.get? x=none/\s.heap.get? T=none/\LE x C T od s'.heap/\s'.os=s.os/\AllBare s'.gens /\
 Un (cF outer) [] H H' s.heap s'.heap/\cO P w H' s'.heap/\H' x=none/\H' T=none/\E (.ref C) od H'
theorem AH{a:Addr}:∀{o:HO},bD P w H h a o->∃u,h.get? a=some u
 | .lst xs,x=>let ⟨_,_,_,_,e⟩:=x;⟨_,e⟩
 | .tup xs,x=>let ⟨_,_,_,o,e,_⟩:=x;⟨o,e⟩
 | .dK kvs,x=>let ⟨_,_,_,_,o,_,_,e,_⟩:=x;⟨_,e⟩
 | .dT kvs,x=>let ⟨_,_,_,_,o,_,_,e,_⟩:=x;⟨_,e⟩
 | .set S n,x=>let ⟨o,_,_,_,e,_⟩:=x;⟨_,e⟩
 | .ins C dx fs,x=>let ⟨_,_,_,e,_⟩:=x;⟨_,e⟩
 | .own y,x=>x
 | .xd fs,x=>let ⟨_,⟨_,_,_,e,_⟩,_⟩:=x;⟨_,e⟩
 | .rng lo hi,x=>let ⟨_,_,_,e⟩:=x;⟨_,e⟩
 | .frz ob u,x=>⟨_,x.1⟩
 | .tbl ps,x=>⟨_,(show h.get? a=some _ from x)⟩
 | .met f y,x=>⟨_,(show h.get? a=some _ from x)⟩
 | .ext φ,x=>x.2.1
theorem ve{h h' base:Heap}:∀{l:List Env},h.FunFrames base l->(∀b∈cF l,∀o,h.get? b=some o->∃sl,h'.get? b=some { o with slots:=sl })->h'.FunFrames base l
 | [],_,_=>True.intro
 | env::l,hf,hb=>by
  obtain⟨h1,⟨L,o,e1,e2,e3,e4⟩,h2⟩:=hf
  have hm:L∈cF (env::l):=by unfold cF;rw[Ww,e1];exact Vb
  obtain⟨sl,e5⟩:=hb L hm o e3
  refine⟨h1,⟨L,_,e1,e2,e5,e4⟩,ve h2 fun b z=>hb b ?_⟩
  unfold cF;rw[Ww,e1];exact Vc _ z
theorem vh{oT:Obj}{ts:Array Value}(e1:s.heap.get? x=some oe)(e3:oe.data=.fields vs)(e5:vs[1]?=some (.ref T))(f1:s.heap.get? T=some oT)(f2:oT.data=.fields ts)(f3:3<ts.size)
  (h:Q () { s with heap:=s.heap.update T (Obj.mapFields fun v=>v.setIfInBounds 3 .none) }):wpAny M A (setFlight (.ref x) none) Q E s:=by
 unfold setFlight
 refine U8 (VC e1 e3 e5 ?_)
 rw[if_pos (by simp)]
 exact Xe f1 f2 f3 h
theorem Jw(fs:A.frames=some (env::outer))(hf:s.heap.FunFrames base (env::outer))(hfr:env.frame=some L)
    (e1:s.heap.get? x=some oe) (e3:oe.data=.fields vs) (hsz:1<vs.size) (e5:vs[1]?=some .none\/∃T oT ts,vs[1]?=some (.ref T)/\T≠x/\s.heap.get? T=some oT/\oT.data=.fields ts/\ts[3]?=some .none)
    (h:∀h2 T',(∀b o,s.heap.get? b=some o->b≠x->vs[1]? ≠ some (.ref b)->b∉cF (env::outer)->h2.get? b=some o)->(∀b∈cF (env::outer),∀o,s.heap.get? b=some o->∃sl,h2.get? b=some { o with slots:=sl }) ->
      s.heap.get? T'=none->T'≠x->h2.get? x=some (Obj.mapFields (fun v=>v.setIfInBounds 1 (.ref T')) oe)->(∃oT ts,h2.get? T'=some oT/\oT.data=.fields ts/\ts[3]?=some (rawInt L))->Q () { s with heap:=h2 }):wpAny M A (noteFrame (.ref x) env) Q E s:=by
  have xf:x∉cF (env::outer):=fun hm=>by
    obtain⟨_,o,ho,hn⟩:=Heap.FunFrames.mem hf hm
    rw[e1]at ho;cases ho
    exact hn vs e3
  have core:∀(s1:Shared) (head:Value) (hn:Bool),s1.gens=s.gens->s1.drawn=s.drawn->s1.toks=s.toks->s1.os=s.os->s1.heap.objs.size=s.heap.objs.size->s1.heap.get? x=some oe->s1.heap.FunFrames base (env::outer)->(∀b o,s.heap.get? b=some o->b≠x->vs[1]? ≠ some (.ref b)->s1.heap.get? b=some o)->(∀b∈cF (env::outer),∀o,s.heap.get? b=some o->s1.heap.get? b=some o) ->
      wpAny M A (do
        let a <- PySem.frameOf env
        let pl <- entryPlaceOf L hn
        let b <- EntryCells.newEntry head a Value.none (rawInt L) Value.none pl
        setField (.ref x) 1 b) Q E s1:=fun s1 head hn g1 g2 g3 g4 g5 k1 k2 k3 k4=>by
    refine U8 (wpAny_frameOf_fun fs k2 hfr fun h1 so=>U8 (wpAny_entryPlaceOf fun pl hpl=>?_))
    unfold EntryCells.newEntry newFields
    refine U8 (Wm ?_ (hd:=?_))
    rotate_left
    . show Array.size _<=sizeLine+2
      rw[WG]
      rcases hpl with rfl|⟨a,b,c,d,c9,b10,_,rfl⟩<;>simp
    have he1:h1.get? x=some oe:=(so.2.1 x xf).trans k1
    have he2:=U9 { cls:=.type "traceback", data:=.fields ([head,.ref L,.none,rawInt L,.none]++(if pl.isEmpty then List.replicate 6 .none else pl)).toArray } he1
    have szT:h1.objs.size=s.heap.objs.size:=so.1.trans g5
    have nT:h1.objs.size≠x:=VP (Vd he1)
    refine Xe he2 e3 hsz ?_
    have st:(⟨s.heap,s.gens,s.drawn,s.toks,s.os⟩:Shared)=s:=rfl
    have key:=h ((h1.push { cls:=.type "traceback", data:=.fields ([head,.ref L,.none,rawInt L,.none]++(if pl.isEmpty then List.replicate 6 .none else pl)).toArray }).update x (Obj.mapFields fun v=>v.setIfInBounds 1 (.ref h1.objs.size))) h1.objs.size ?_ ?_ ?_ nT ?_ ?_
    . rw[<- g1,<- g2,<- g3,<- g4]at key;exact key
    . intro b o eb b1 b2 b3
      rw[Vq _ _ (V2 b1)]
      exact U9 _ ((so.2.1 b b3).trans (k3 b o eb b1 b2))
    . intro b hb o eb
      obtain⟨sl,z⟩:=so.2.2 b o (k4 b hb o eb)
      refine⟨sl,?_⟩
      rw[Vq _ _ (show x≠b from fun z=>xf (by rw[z];exact hb))]
      exact U9 _ z
    . rw[szT]
      cases z:s.heap.get? s.heap.objs.size with
      | none=>rfl
      | some o=>exact absurd (Vd z) (VU _)
    . exact V3 _ he2 (Obj.isFreed_of_fields (WP e3 _))
    . refine⟨{ cls:=.type "traceback", data:=.fields ([head,.ref L,.none,rawInt L,.none]++(if pl.isEmpty then List.replicate 6 .none else pl)).toArray },_,?_,rfl,by simp⟩
      rw[Vq _ _ (V2 nT)]
      exact Vg _ rfl
  unfold noteFrame
  rw[hfr]
  dsimp only
  rcases e5 with e5|⟨T,oT,ts,e5,f0,f1,f2,f3⟩
  . refine U8 (VC e1 e3 e5 ?_)
    rw[if_neg (by simp)]
    exact core s _ _ rfl rfl rfl rfl rfl e1 hf (fun b o eb _ _=>eb) fun b _ o eb=>eb
  . refine U8 (VC e1 e3 e5 ?_)
    rw[if_pos (by simp)]
    refine U8 (VC f1 f2 f3 ?_)
    rw[if_neg (by simp[rawInt])]
    have f4:3<ts.size:=by
      rcases Wy 3 ts.size with z|z
      . exact z
      . rw[Wz z]at f3;cases f3
    have Tf:T∉cF (env::outer):=fun hm=>by
      obtain⟨_,o,ho,hn⟩:=Heap.FunFrames.mem hf hm
      rw[f1]at ho;cases ho
      exact hn ts f2
    refine U8 (Xe f1 f2 f4 ?_)
    refine core _ _ _ rfl rfl rfl rfl (Heap.size_update ..) ((Vq _ _ f0).trans e1) ?_ ?_ ?_
    . exact ve hf fun b hb o eb=>⟨o.slots,(Vq _ _ (show T≠b from fun z=>Tf (by rw[z];exact hb))).trans eb⟩
    . intro b o eb b1 b2
      exact(Vq _ _ (fun z=>b2 (by rw[e5,z]))).trans eb
    . intro b hb o eb
      exact(Vq _ _ (show T≠b from fun z=>Tf (by rw[z];exact hb))).trans eb
section
variable{X:Cx}{pins:List (Addr×Obj)}{σ:St}{H':Hp}
theorem aj.frame(I:aj X pins σ H s)(hs:X.stack=X.env::X.outer):X.env.frame=some X.env.locals:=by
 rcases I.ok.stk with z|z
 ·have:=V0 List.length (hs.symm.trans z)
  simp at this
 ·exact z.2
structure jK(X:Cx)(hid:List Addr)(h1 h2:Heap):Prop where
 keep:∀b o,h1.get? b=some o->b∉hid->h2.get? b=some o
 up:∀b∈cF X.stack,∀o,h1.get? b=some o->∃sl,h2.get? b=some { o with slots:=sl }
theorem jK.trans{h3:Heap}(a:jK X hid h1 h2)(b:jK X hid h2 h3):jK X hid h1 h3 :=
 ⟨fun c o e n=>b.keep c o (a.keep c o e n) n,fun c hc o e=>by
  obtain⟨sl,e1⟩:=a.up c hc o e
  obtain⟨sl',e2⟩:=b.up c hc _ e1
  exact⟨sl',e2⟩⟩
theorem sG{l:List Env}(h:env.frame=some L):cF (env::l)=L::cF l:=by unfold cF;rw[Ww,h]
theorem Bt{E:XK}(I:aj X pins σ H s)(hs:X.stack=X.env::X.outer)(hex:X.ex=[])(h1:∀b∈hid,b∈cF X.stack\/X.s₀.heap.get? b=none)(h2n:∀b∈hid,H b=none)
  (ov:jK X hid s.heap h2) (t:LE x C T od h2) (hT:s.heap.get? T=none\/T∈hid) (hx:X.s₀.heap.get? x=none) (hxn:H x=none) (q:E (.ref C) od H):gp X.prog X.w X.outer X.H₀ X.s₀ E (.ref x) { s with heap:=h2 }:=by
 have hfr:=I.frame hs
 have nL:∀b o,X.s₀.heap.get? b=some o->b≠X.env.locals:=fun b o e=>Vv (Vj (Vd e) I.ok.above)
 have ub:Un X.fs [] X.H₀ H X.s₀.heap s.heap:=by have:=I.base;rw[hex]at this;exact this
 have hf:=I.stack
 have dat:∀b∈cF X.stack,b≠T:=fun b hb z=>by
  obtain⟨o,e,d⟩:=xr hf b hb
  obtain⟨sl,e2⟩:=ov.up b hb o e
  obtain⟨oe,vs,oT,ts,a0,_,_,_,_,_,_,_,e7,e8,_⟩:=t
  rw[z,e7]at e2
  cases e2
  exact d ts e8
 have old:X.s₀.heap.get? T=none:=by
  cases z:X.s₀.heap.get? T with
  | none=>rfl
  | some o =>
   obtain⟨o',e⟩:=ub.there T o z (by simp)
   rcases hT with hT|hT
   ·rw[hT]at e;cases e
   ·rcases h1 T hT with h|h
    ·exact absurd rfl (dat T h)
    ·rw[h]at z;cases z
 refine⟨x,C,T,od,H,rfl,hx,old,t,I.os,I.bare,tT (hid:=hid) ub (fun b o e hb=>?_) ov.keep (fun b hb o e=>ov.up b (by rw[hs,sG hfr];exact Vc _ hb) o e),rJ I.hok h2n ov.keep,hxn,?_,q⟩
 ·rcases h1 b hb with h|h
  ·rw[hs,sG hfr]at h
   rcases Ve.mp h with h|h
   ·exact absurd h (nL b o e)
   ·exact h
  ·rw[h]at e;cases e
 ·cases z:H T with
  | none=>rfl
  | some o =>
   obtain⟨u,e⟩:=AH (I.hok T o z)
   rcases hT with hT|hT
   ·rw[hT]at e;cases e
   ·rw[h2n T hT]at z;cases z
theorem o0(fs:A.frames=some (env::outer))(hf:s.heap.FunFrames base (env::outer))(hfr:env.frame=some L)
  (e1:s.heap.get? x=some oe) (e2:oe.cls=.ref C) (e6:oe.dict=od) (e3:oe.data=.fields vs) (hsz:1<vs.size) (e4:vs[0]?=some a0) (e5:vs[1]?=some .none\/∃T oT ts,vs[1]?=some (.ref T)/\T≠x/\s.heap.get? T=some oT/\oT.data=.fields ts/\ts[3]?=some .none)
  (h:∀h2 T',(∀b o,s.heap.get? b=some o->b≠x->vs[1]? ≠ some (.ref b)->b∉cF (env::outer)->h2.get? b=some o)->(∀b∈cF (env::outer),∀o,s.heap.get? b=some o->∃sl,h2.get? b=some { o with slots:=sl }) ->
   s.heap.get? T'=none->LE x C T' od h2->Q () { s with heap:=h2 }):wpAny M A (noteFrame (.ref x) env) (fun _ s2=>wpAny M A (setFlight (.ref x) none) Q E s2) E s:=by
 refine Jw fs hf hfr e1 e3 hsz e5 fun h2 T' k1 k2 nT nTx ex ⟨oT,ts,f1,f2,f3⟩=>?_
 have d1:(Obj.mapFields (fun v=>v.setIfInBounds 1 (.ref T')) oe).data=.fields (vs.setIfInBounds 1 (.ref T')):=WP e3 _
 have v1:(vs.setIfInBounds 1 (.ref T'))[1]?=some (.ref T'):=by simp[hsz]
 have f4:3<ts.size:=by
  rcases Wy 3 ts.size with z|z
  ·exact z
  ·rw[Wz z]at f3;cases f3
 refine vh (s:={ s with heap:=h2 }) ex d1 v1 f1 f2 f4 ?_
 have nT2:∀b o,s.heap.get? b=some o->T'≠b:=fun b o eb z=>by rw[<- z,nT]at eb;cases eb
 have ce:(Obj.mapFields (fun v=>v.setIfInBounds 1 (.ref T')) oe).cls=.ref C/\(Obj.mapFields (fun v=>v.setIfInBounds 1 (.ref T')) oe).dict=od:=by
  obtain⟨c,d,da,sl⟩:=oe
  simp only at e3 e2 e6
  subst e3
  exact⟨e2,e6⟩
 refine h (h2.update T' _) T' (fun b o eb b1 b2 b3=>(Vq _ _ (nT2 b o eb)).trans (k1 b o eb b1 b2 b3)) (fun b hb o eb=>?_) nT ⟨_,_,_,_,a0,(Vq _ _ nTx).trans ex,ce.1,ce.2,d1,?_,v1,nTx,V3 _ f1 (Obj.isFreed_of_fields (WP f2 _)),WP f2 _,by simp[f4]⟩
 ·obtain⟨sl,z⟩:=k2 b hb o eb
  exact⟨sl,(Vq _ _ (nT2 b o eb)).trans z⟩
 ·rw[Array.getElem?_setIfInBounds_ne (by decide)];exact e4
theorem mz{E:XK}(I:aj X pins σ H s)(hs:X.stack=X.env::X.outer)(hex:X.ex=[])(e1:s.heap.get? e=some oe)(e2:oe.cls=.ref C)(e6:oe.dict=od)(e3:oe.data=.fields vs)(hsz:1<vs.size)(e4:vs[0]?=some a0)(e5:vs[1]?=some .none)
  (n0:X.s₀.heap.get? e=none) (nH:H e=none) (q:E (.ref C) od H) :
  wpAny (model X.prog X.w) X.A (leaving X.env (.ref e)) (fun _ s''=>gp X.prog X.w X.outer X.H₀ X.s₀ E (.ref e) s'') R s:=by
 have hfr:=I.frame hs
 have fs:X.A.frames=some (X.env::X.outer):=by rw[<- hs];exact I.ok.frames
 have hf:=I.stack
 rw[hs]at hf
 refine U8 (o0 (C:=C) (od:=od) fs hf hfr e1 e2 e6 e3 hsz e4 (.inl e5) fun h2 T' k1 k2 nT tr=>?_)
 have ov:jK X (e::cF X.stack) s.heap h2:=⟨fun b o eb nb=>k1 b o eb (fun z=>nb (by rw[z];exact Vb)) (by rw[e5];intro z;cases z) (fun z=>nb (Vc _ (by rw[hs];exact z))),fun b hb o eb=>k2 b (by rw[<- hs];exact hb) o eb⟩
 refine Bt (s:=s) I hs hex (fun b hb=>?_) (fun b hb=>?_) ov tr (.inl nT) n0 nH q
 ·rcases Ve.mp hb with rfl|hb
  ·exact .inr n0
  ·exact .inl hb
 ·rcases Ve.mp hb with rfl|hb
  ·exact nH
  ·exact I.stkFree b hb
theorem wc{h':Heap}{vs:List Value}{E:XK}(I:aj X pins σ H s)(hs:X.stack=X.env::X.outer)(hex:X.ex=[])(m:s.heap.MadeExcOf h' e (.ref C) vs)(q:E (.ref C) none H) :
  wpAny (model X.prog X.w) X.A (leaving X.env (.ref e)) (fun _ s''=>gp X.prog X.w X.outer X.H₀ X.s₀ E (.ref e) s'') R { s with heap:=h' }:=by
 have ub:Un X.fs [] X.H₀ H X.s₀.heap s.heap:=by have:=I.base;rw[hex]at this;exact this
 obtain⟨t,m1,m2,m3⟩:=m.there
 refine mz (s:={ s with heap:=h' }) (I.kept (t':=s.toks) m.keeps) hs hex m1 rfl rfl rfl (by simp) rfl rfl ?_ ?_ q
 ·cases z:X.s₀.heap.get? e with
  | none=>rfl
  | some o=>obtain⟨o',e'⟩:=ub.there e o z (by simp);rw[m.new]at e';cases e'
 ·cases z:H e with
  | none=>rfl
  | some o=>obtain⟨u,e'⟩:=AH (I.hok e o z);rw[m.new]at e';cases e'
theorem yN{E:XK}{e:Value}(I:aj X pins σ H s)(hs:X.stack=X.env::X.outer)(hex:X.ex=[])(c:gp X.prog X.w X.stack H s E e s') :
  wpAny (model X.prog X.w) X.A (leaving X.env e) (fun _ s''=>gp X.prog X.w X.outer X.H₀ X.s₀ E e s'') R s':=by
 obtain⟨x,C,T,od,H',rfl,hx,hT,t,ho,hg,u,hk,nx,nT,q⟩:=c
 have J:aj X pins σ H' s':=I.call' (ch:=[]) ho u hk hg (fun b z=>absurd z (by simp))
 have hfr:=I.frame hs
 have ub:Un X.fs [] X.H₀ H X.s₀.heap s.heap:=by have:=I.base;rw[hex]at this;exact this
 have fs:X.A.frames=some (X.env::X.outer):=by rw[<- hs];exact I.ok.frames
 have hf:=J.stack
 rw[hs]at hf
 have old:∀b,s.heap.get? b=none->X.s₀.heap.get? b=none:=fun b hb=>by
  cases z:X.s₀.heap.get? b with
  | none=>rfl
  | some o=>obtain⟨o',e'⟩:=ub.there b o z (by simp);rw[hb]at e';cases e'
 obtain⟨oe,vs,oT,ts,a0,e1,e2,e6,e3,e4,e5,f0,f1,f2,f3⟩:=id t
 have hsz:1<vs.size:=by
  rcases Wy 1 vs.size with z|z
  ·exact z
  ·rw[Wz z]at e5;cases e5
 refine U8 (o0 (C:=C) (od:=od) fs hf hfr e1 e2 e6 e3 hsz e4 (.inr ⟨T,oT,ts,e5,f0,f1,f2,f3⟩) fun h2 T2 k1 k2 nT2 tr=>?_)
 have ov:jK X (x::T::cF X.stack) s'.heap h2:=⟨fun b o eb nb=>k1 b o eb (fun z=>nb (by rw[z];exact Vb)) (by rw[e5];intro z;injection z with z;injection z with z;exact nb (by rw[<- z];exact Vc _ Vb)) (fun z=>nb (Vc _ (Vc _ (by rw[hs];exact z)))),fun b hb o eb=>k2 b (by rw[<- hs];exact hb) o eb⟩
 refine Bt J hs hex (fun b hb=>?_) (fun b hb=>?_) ov tr (.inl nT2) (old x hx) nx q
 ·rcases Ve.mp hb with rfl|hb
  ·exact .inr (old _ hx)
  ·rcases Ve.mp hb with rfl|hb
   ·exact .inr (old _ hT)
   ·exact .inl hb
 ·rcases Ve.mp hb with rfl|hb
  ·exact nx
  ·rcases Ve.mp hb with rfl|hb
   ·exact nT
   ·exact J.stkFree b hb
end
abbrev fU:List Value:=[Value.type "ValueError", Value.type "Exception", Value.type "BaseException", Value.type "object"]
theorem km{D:Addr}(e1:h.get? x=some ox)(e2:ox.cls=.ref D):∀M,W.Looks M h (typeOf (.ref x)) (.ref D):=by
 intro M A Q E s hk hq
 unfold typeOf
 refine U8 (wpAny_loadPart (hk _ _ e1) ?_)
 rw[e2]
 exact Va hq
theorem y6{D:Addr}{R:Result->Shared->Prop}{tp:Value}{tk:Nat}(KI:K.In h)(ty:∀M,W.Looks M h (typeOf (.ref x)) (.ref D))(hm:W.mroIn K D (.type "object")=some true)
  (hR:R (.ok (.ret (.ref D))) ⟨h,g,d,tk,os⟩):codeAny (model prog w) A (.call (.builtin "getset_descriptor.__get__") ⟨[.builtin "object.__class__", .ref x,tp],[]⟩) R ⟨h,g,d,tk,os⟩:=by
 refine codeAny_call_builtin W.KF.slot_gs.plain W.KF.entry_gs ?_
 refine W.KF.slot_gs.check _ _ _ _ _ _ _ _ ?_ (W.KF.args_gs _ _ _) ?_
 ·exact W.KF.type_class
 show wpAny _ _ (Builtin.Getset_descriptor.descrGet ⟨[.builtin "object.__class__", .ref x,tp],[]⟩) _ _ _
 unfold Builtin.Getset_descriptor.descrGet
 rw[W.dga_obj]
 refine U8 (Va ?_)
 dsimp only
 unfold Builtin.Getset_descriptor.descrGetter
 dsimp only
 refine U8 ?_
 unfold Builtin.Getset_descriptor.descrCheckInstance
 refine U8 ?_
 unfold Builtin.Getset_descriptor.descrNameAndClass
 dsimp only
 rw[W.KF.owner_class]
 refine Va ?_
 dsimp only
 refine U8 ?_
 unfold isInstance
 refine U8 (Wu (ty _) (Wu (W.looks_mroIn KI hm) ?_))
 rw[if_neg (by simp)]
 refine Va ?_
 refine Va ?_
 refine⟨Code.quiet_builtin _ (by decide),codeAny_builtin W.KF.entry_class ?_⟩
 show wpAny _ _ (Builtin.«object.__class__» ⟨[.ref x],[]⟩) _ _ _
 unfold Builtin.«object.__class__»
 dsimp only
 refine U8 ?_
 unfold shownTypeOf
 refine U8 (Wu (ty _) ?_)
 rw[if_neg (by simp)]
 refine Va ?_
 exact Va hR
theorem Bk{D:Addr}{Q:Option Value->Shared->Prop}{nm:Str}
  (hga:W.findIn K (.ref D) "__getattribute__" = some (some (.builtin "BaseException.__getattribute__"))) (hgt:W.findIn K (.ref D) "__getattr__" = some none)
  (hf:W.findIn K (.ref D) "__class__" = some (some (.builtin "object.__class__"))) (hs:W.specialIn K (.builtin "object.__class__") "__get__" = some (some (.builtin "getset_descriptor.__get__"))) (ht:W.takesIn K (.builtin "object.__class__")=some true) (hm:W.mroIn K D (.type "object")=some true)
  (KI:K.In s.heap) (e1:s.heap.get? x=some ox) (e2:ox.cls=.ref D) (hD:s.heap.get? D=some (excClassObj nm q D N bs bm hdct sn sub ab col dd k0 k1 k2 k3 k5 newId)) (hT:OwnTailQ s.heap fU bm)
  (hq:Q (some (.ref D)) { s with toks:=s.toks+1 }):wpAny (model prog w) A (getAttr? (.ref x) "__class__") Q E s:=by
 obtain⟨h,g,d,tk,os⟩:=s
 have ty:=km e1 e2
 have lf:∀M,W.Looks M h (Builtin.ObjectAttr.find (.ref x) (.ref D) "__class__") (.bind (.builtin "getset_descriptor.__get__") (.builtin "object.__class__")):=by
  intro M A Q E s hk hq
  unfold Builtin.ObjectAttr.find
  refine U8 (W.looks_findIn KI hf A _ E s hk ?_)
  refine U8 ?_
  unfold Builtin.ObjectAttr.getOf
  refine W.looks_specialIn KI hs A _ E s hk ?_
  refine U8 ?_
  unfold Builtin.ObjectAttr.dataDescriptor?
  refine U8 (W.looks_takesIn KI ht A _ E s hk ?_)
  rw[if_pos rfl]
  refine Va ?_
  exact W.Looks.tag (W.Looks.now) A _ E s hk hq
 unfold getAttr?
 refine U8 (wpAny_mkText ?_)
 unfold getAttrBy?
 refine U8 (WK ?_)
 unfold getAttrBy
 refine VO (U8 (Wu (ty _) ?_))
 refine U8 (Wu (W.looks_findIn KI hga) ?_)
 dsimp only
 have e9:(onTheHeap (Value.ref D)&&Value.builtin "BaseException.__getattribute__" == Value.builtin "object.__getattribute__")=false:=by
  have e0:(Value.builtin "BaseException.__getattribute__" == Value.builtin "object.__getattribute__")=false:=by decide
  rw[e0,Bool.and_false]
 rw[e9]
 rw[if_neg (by simp)]
 unfold getAttrByItsOwn
 refine U8 (Wu (W.looks_hook KI (r:=none) (by show(if true=true then W.findIn K (.ref D) "__getattr__" else some none)=some none;rw[if_pos rfl];exact hgt)) ?_)
 refine U8 (WK (VO ?_))
 unfold callGetattribute
 rw[if_neg (by simp)]
 unfold boundAndCalled
 rw[(Wd.toExcAttrFacts.ga).bind]
 refine U8 (Va ?_)
 refine WO (codeAny_call_builtin (Wd.toExcAttrFacts.ga).plain PySem.F.entry_bexc_ga ?_)
 refine wpAny_check_ga_own Wd hD hT e1 e2 ?_
 show wpAny _ _ (Builtin.«object.__getattribute__» ⟨[Value.ref x,Value.str "__class__" tk],[]⟩) _ _ _
 unfold Builtin.«object.__getattribute__»
 refine U8 ?_
 unfold slotArgs
 dsimp only
 rw[if_neg (by simp),if_neg (by simp)]
 refine Va ?_
 dsimp only
 refine U8 ?_
 unfold Builtin.ObjectAttr.attrName
 refine Va ?_
 refine U8 (Wu (ty _) ?_)
 refine U8 (Wu (lf _) ?_)
 dsimp only
 unfold Builtin.ObjectAttr.bindTo
 dsimp only
 refine U8 (VO (WO (y6 KI ty hm ?_)))
 refine Va ?_
 refine W.handed_on rfl ?_
 exact Va hq
def Ie:Value->Bool
 | .str _ _=>true
 | _=>false
def rh(K:W.Frag)(N:Addr):Bool :=
 match K.lookup N with
 | some ⟨_,_,.dict es _,_⟩=>es.toList.all (fun e=>Ie e.key)&&quietNames.all fun n=>(nsFind es n).isNone
 | _=>false
def oR(K:W.Frag)(N:Addr):Bool :=
 match K.lookup N with
 | some ⟨_,_,.dict es _,_⟩=>es.toList.all (fun e=>Ie e.key)
 | _=>false
def uG(K:W.Frag)(N:Addr):Option Value :=
 match K.lookup N with
 | some ⟨_,_,.dict es _,_⟩=>nsFind es "__init__"
 | _=>none
def eZ(K:W.Frag)(C:Addr):Option Value :=
 match K.lookup C with
 | some ⟨_,_,.cls cd,_⟩=>uG K cd.ns
 | _=>none
def Jx(sl:Array (Option Value)):Bool :=
 match sl.toList with
 | [_,_,_,_,some (.builtin id),_]=>id == "ValueError.__new__"
 | _=>false
def iq(K:W.Frag)(C S:Addr):Bool :=
 match K.lookup C,K.lookup S with
 | some ⟨.type t,_,.cls cd,sl⟩,some ⟨_,_,.cls ce,_⟩=>t == "type" && Jx sl&&(cd.mro == .ref C :: .ref S::fU) && !cd.hasDel&&oR K cd.ns&&rh K ce.ns
 | _,_=>false
theorem Ct(q:rh K N=true)(KI:K.In h):∃mN,h.Ns N mN/\∀n∈quietNames,mN n=none:=by
 unfold rh at q
 split at q
 ·rename_i c d es ep sl e
  rw[Vk]at q
  refine⟨nsFind es,⟨_,es,ep,KI _ _ e,rfl,fun x hx=>?_,fun _=>rfl⟩,fun n hn=>?_⟩
  ·have:=WD.mp q.1 x (by simpa using hx)
   cases hk:x.key with
   | str n t=>exact⟨n,t,rfl⟩
   | _=>rw[hk]at this;cases this
  ·have:=WD.mp q.2 n hn
   simpa using this
 ·cases q
theorem An(q:oR K N=true)(KI:K.In h):∃mN,h.Ns N mN/\mN "__init__" = uG K N:=by
 unfold oR at q
 unfold uG
 split at q
 ·rename_i c d es ep sl e
  refine⟨nsFind es,⟨_,es,ep,KI _ _ e,rfl,fun x hx=>?_,fun _=>rfl⟩,rfl⟩
  have:=WD.mp q x (by simpa using hx)
  cases hk:x.key with
  | str n t=>exact⟨n,t,rfl⟩
  | _=>rw[hk]at this;cases this
 ·cases q
theorem fO(q:iq K C S=true)(KI:K.In h) :
  ∃nm qn N bs hdct sn sub ab col dd k0 k1 k2 k3 k5 mN,h.get? C=some (excClassObj nm qn C N bs (.ref S::fU) hdct sn sub ab col dd k0 k1 k2 k3 k5 "ValueError.__new__")/\h.Ns N mN/\mN "__init__" = eZ K C/\OwnTailQ h fU (.ref S::fU):=by
 unfold iq at q
 split at q
 ·rename_i t d1 cd sl c2 d2 ce sl2 e1 e2
  simp only[Vk]at q
  obtain⟨⟨⟨⟨⟨q1,q2⟩,q3⟩,q4⟩,q5⟩,q6⟩:=q
  have q1:t = "type" := by simpa using q1
  subst q1
  replace q3:cd.mro=.ref C :: .ref S::fU:=by simpa using q3
  replace q4:cd.hasDel=false:=by simpa using q4
  obtain⟨mN,n1,n2⟩:=An q5 KI
  obtain⟨mS,m1,m2⟩:=Ct q6 KI
  unfold Jx at q2
  split at q2
  ·rename_i k0 k1 k2 k3 id k5 es
   have q2:id = "ValueError.__new__" := by simpa using q2
   subst q2
   have es:sl = #[k0,k1,k2,k3,some (.builtin "ValueError.__new__"),k5]:=by
    have:=V0 List.toArray es
    simpa using this
   subst es
   have g1:=KI _ _ e1
   have g2:=KI _ _ e2
   obtain⟨f1,f2,f3,f4,f5,f6,f7,f8,f9,f10,f11⟩:=cd
   simp only at q3 q4 n1
   subst q3 q4
   exact⟨_,_,_,_,_,_,_,_,_,_,_,_,_,_,_,mN,g1,n1,by rw[n2];unfold eZ;rw[e1],.own g2 m1 m2 .base⟩
  ·cases q2
 ·cases q
structure io(K:W.Frag)(C S:Addr):Prop where
 ex:iq K C S=true
 ga:W.findIn K (.ref C) "__getattribute__" = some (some (.builtin "BaseException.__getattribute__"))
 gt:W.findIn K (.ref C) "__getattr__" = some none
 cl:W.findIn K (.ref C) "__class__" = some (some (.builtin "object.__class__"))
 sp:W.specialIn K (.builtin "object.__class__") "__get__" = some (some (.builtin "getset_descriptor.__get__"))
 tk:W.takesIn K (.builtin "object.__class__")=some true
 mo:W.mroIn K C (.type "object")=some true
theorem io.is(e:io K C S):∃cd,W.clsIn K C=some cd:=by
 have:=e.mo
 unfold W.mroIn at this
 cases h:W.clsIn K C with
 | none=>rw[h]at this;cases this
 | some cd=>exact⟨cd,rfl⟩
def LC(x C:Addr)(h:Heap):Prop:=∃o,h.get? x=some o/\o.cls=.ref C
theorem o7(e:io K C S):W.KitX K (.ref x) (.ref C) (LC x C):=by
 obtain⟨cd,hcd⟩:=e.is
 refine⟨fun M h KI ⟨o,e1,e2⟩=>?_,fun M h KI _=>?_,fun h tp dd its n sl KI ht=>?_,fun {prog w A E Q s} KI ⟨o,e1,e2⟩ hq=>?_⟩
 ·exact km e1 e2 M
 ·obtain⟨nm,qn,N,bs,hdct,sn,sub,ab,col,dd,k0,k1,k2,k3,k5,mN,g1,g2,g3,g4⟩:=fO e.ex KI
  intro A Q E s hk hq
  unfold isType
  refine U8 (wpAny_loadPart (hk _ _ g1) ?_)
  exact Va hq
 ·obtain⟨nm,qn,N,bs,hdct,sn,sub,ab,col,dd,k0,k1,k2,k3,k5,mN,g1,g2,g3,g4⟩:=fO e.ex KI
  rw[WM]
  intro z
  injection z with z
  rw[<- z,g1]at ht
  injection ht with ht
  injection ht with h1
  injection h1 with h1
  exact absurd h1 (by decide)
 ·obtain⟨nm,qn,N,bs,hdct,sn,sub,ab,col,dd,k0,k1,k2,k3,k5,mN,g1,g2,g3,g4⟩:=fO e.ex KI
  exact Bk e.ga e.gt e.cl e.sp e.tk e.mo KI e1 e2 g1 g4 hq
theorem BD(S:Addr):(Value.ref S::fU).contains (.type "BaseException")=true:=by
 rw[List.contains_cons,show fU.contains (Value.type "BaseException")=true by decide,Bool.or_true]
section
variable{X:Cx}{pins:List (Addr×Obj)}{σ:St}
theorem oQ{x:Str}{np cpos:Pos}{e:Expr}{t:TA}{Q:Flow->Shared->Prop}(I:aj X pins σ H s)(hc:X.calm=true)(hg:Gl X x)(hm:X.mg x=some (.ref C))(hx:io X.K C S)(hin:eZ X.K C=none)(hdb:(x==("__debug__" : Str))=false)
  (ha:PA X [e] t) (hn:(backTo cpos (starEach [e] X.env)).any (·.1)=false) (he:starEach [e] X.env=[(false,eval e X.env)])
  (h:t σ H fun vs H1=>vs.length<=sizeLine/\∀s1 h' a us,aj X pins σ H1 s1->s1.heap.MadeExcOf h' a (.ref C) us->X.xe (.ref a) { s1 with heap:=h' }) :
  wpAny (model X.prog X.w) X.A (exec (.Raise (some (.Call (.Name x np) [e] [] cpos)) none pos) X.env) Q X.xe s:=by
 obtain⟨nm,qn,N,bs,hdct,sn,sub,ab,col,dd,k0,k1,k2,k3,k5,mN,g1,g2,g3,g4⟩:=fO hx.ex I.ok.mod.kin
 refine wpAny_Raise_call_subT (nm:=nm) (q:=qn) (N:=N) (bs:=bs) (bm:=.ref S::fU) (hdct:=hdct) (sn:=sn) (sub:=sub) (ab:=ab) (col:=col) (dd:=dd) (k0:=k0) (k1:=k1) (k2:=k2) (k3:=k3) (k5:=k5) PySem.F.excBase_ValueError (BD S) (I.ok.hd hc) hn (g3.trans hin) (dU I hg hm ⟨rfl,?_⟩ hdb)
 have key:=ha cpos pins s σ H _ I h
 rw[he]at key⊢
 obtain⟨y,ey⟩:∃y,backTo cpos [(false,eval e X.env)]=[(false,y)]:=⟨_,rfl⟩
 rw[ey]at key⊢
 refine PySem.Calls.evalArgs_plain (aQ key fun us s1 ⟨vs,H1,I1,r,hl,q⟩=>?_)
 obtain⟨o,es,ep,e1,e2,e3,e4⟩:=g2
 exact⟨rfl,by rw[<- r.length];exact hl,I1.bk _ _ g1,⟨o,es,ep,I1.bk _ _ e1,e2,e3,e4⟩,(OwnTailQ.tail g4).keeps I1.bk,fun h' a m=>q s1 h' a us I1 m⟩
end
section
variable{X:Cx}{pins:List (Addr×Obj)}{σ:St}{H':Hp}
theorem Gy{i:Nat}(I:aj X pins σ H s)(hN:X.N.Nodup)(hi:X.N[i]?=some n)(hk:X.env.scope.names.lookup n=some .local)
  (h:∀s',aj X pins (σ.set i none) H s'->Q () s'):wpAny M A (do bindName X.env n .none;unbindBehindTheSuite X.env n pos) Q E s:=by
 obtain⟨m,hn,hl⟩:=id I.loc
 have hcls:(X.env.scope.kind == .class || (X.env.scope.kind == .module&&X.env.locals != X.env.globals))=false:=by rw[I.ok.kind];rfl
 have hiσ:i<σ.length:=by rw[I.len];exact(Vu.mp hi).1
 have cne:=I.cne
 refine wpAny_nameGoes_keeps hk hn hcls fun h' v hn' hs=>?_
 obtain⟨oL,_,_,hoL,_⟩:=id hn
 refine h _ ⟨I.ok,I.os,I.bare,⟨fun b o e n hb hx=>?_,fun b o e n hb hx=>?_,I.base.free,fun b o e hx=>?_,I.base.tups,I.base.frzs,I.base.tbls⟩,⟨_,hn',fun j y v' e1 e2 e3=>?_⟩,fun y c e=>?_,I.free,I.freeC,fun p hp=>?_,fun b ob e=>?_,by simpa using I.len⟩
 ·exact(hs.2 b (Vv (Vj (Vd e) I.ok.above))).trans (I.base.keep b o e n hb hx)
 ·obtain⟨sl,e1⟩:=I.base.slot b o e n hb hx
  exact⟨sl,(hs.2 b (Vv (Vj (Vd e) I.ok.above))).trans e1⟩
 ·obtain⟨o',e1⟩:=I.base.there b o e hx
  exact⟨o',(hs.2 b (Vv (Vj (Vd e) I.ok.above))).trans e1⟩
 ·by_cases hj:j=i
  ·subst hj
   rw[Wx hiσ]at e2
   cases e2
  ·rw[Wf (V2 hj)]at e2
   obtain⟨u',r',q⟩:=hl j y v' e1 e2 e3
   refine⟨u',r',?_⟩
   rcases q with⟨k,e⟩|⟨k,c,e,z⟩
   ·refine .inl ⟨k,?_⟩
    have:y≠n:=fun e=>hj (iV hN e1 (e ▸ hi))
    simp[this,e]
   ·exact .inr ⟨k,c,e,z.sameBut hs (cne y c e)⟩
 ·obtain⟨w',z⟩:=I.cell y c e
  exact⟨w',z.sameBut hs (cne y c e)⟩
 ·obtain⟨e,n,ne,nf,d⟩:=I.pin p hp
  exact⟨(hs.2 p.1 ne).trans e,n,ne,nf,d⟩
 ·refine(I.hok b ob e).stay (fun c w' hc q=>(hs.2 c ?_).trans q) (fun _ q=>q) fun _ _ q=>q
  rintro rfl
  rcases hc with rfl|hc
  ·rw[I.free]at e;cases e
  ·rw[I.free]at hc;cases hc
abbrev Cx.mark(X:Cx)(e:Value):Cx:={ X with A:=X.A.mark (some e),calm:=false,xe:=fun _ _=>False }
theorem Cx.Ok.mark(ok:X.Ok)(e:Value):(X.mark e).Ok:=⟨ok.mod,ok.kind,ok.glob,ok.blt,ok.above,ok.inj,ok.has,ok.cab,(fun z=>by cases z),ok.frames,ok.stk,ok.exf,ok.bs,ok.bsz,ok.noex,ok.exfs,ok.funs,ok.frf⟩
theorem aj.mark(I:aj X pins σ H s)(e:Value):aj (X.mark e) pins σ H s:=⟨I.ok.mark e,I.os,I.bare,I.base,I.loc,I.cell,I.free,I.freeC,I.pin,I.hok,I.len⟩
theorem aj.unmark{e:Value}(ok:X.Ok)(I:aj (X.mark e) pins σ H s):aj X pins σ H s:=⟨ok,I.os,I.bare,I.base,I.loc,I.cell,I.free,I.freeC,I.pin,I.hok,I.len⟩
abbrev lA(x C:Addr)(od:Option Addr):HO:=.ext (fun h => ∃o vs,h.get? x=some o/\o.cls=.ref C/\o.dict=od/\o.data=.fields vs)
theorem Ki{o:Obj}(e1:h.get? x=some o)(e2:o.cls=.ref C)(e3:o.dict=od)(e4:o.data=.fields vs):bD P w H h x (lA x C od) :=
 ⟨⟨o,vs,e1,e2,e3,e4⟩,⟨o,e1⟩,fun h1 h2 ⟨o',vs',a,b,c,d⟩ k=>⟨o',vs',k o' a,b,c,d⟩⟩
theorem LY{o:HO}(hk:cO P w H h)(hn:H x=none)(ho:bD P w (aH H x o) h x o):cO P w (aH H x o) h:=fun a u e=>by
 by_cases z:a=x
 ·subst z
  rw[aF]at e;cases e
  exact ho
 ·rw[ay z]at e
  exact(hk a u e).stay (fun _ _ _ q=>q) (fun b q=>by rw[ay (aZ q hn)];exact q) fun b xs q=>by rw[ay (aZ q hn)];exact q
theorem Lp{E:XK}{e:Value}{D:lh}{B y:Str}{ie iy:Nat}{C0:Addr}{bp hpos p1 p2 p3:Pos}(I:aj X pins σ H s)(hs:X.stack=X.env::X.outer)(hN:X.N.Nodup)(c:gp X.prog X.w X.stack H s E e s')
  (hB:Gl X B) (hmB:X.mg B=some (.ref C0)) (hdb:(B==("__debug__" : Str))=false) (hie:X.N[ie]?=some n) (hen:X.env.scope.names.lookup n=some .local) (hiy:X.N[iy]?=some y) (hyn:X.env.scope.names.lookup y=some .local) (hne:iy≠ie)
  (hd1:(n==("__debug__" : Str))=false) (hd2:(n==("__classdict__" : Str))=false)
  (hE:∀C od H',E (.ref C) od H'->W.exmOne X.K (.ref C) (.ref C0)=some true/\∀x,H' x=none->D.nx (((σ.set ie (some (.ref x))).set iy (some (.ref x))).set ie none) (aH H' x (lA x C od))) :
  wpAny (model X.prog X.w) X.A (noteFrame e X.env) (fun _ s₂=>wpAny (model X.prog X.w) X.A (setFlight e none) (fun _ s₃=>wpAny (model X.prog X.w) X.A (handleBy e X.env [.ExceptHandler (some (.Name B bp)) (some n) [.Assign [.Name y p1] (.Name n p2) p3] hpos]) (SP X pins D) X.xe s₃) X.xe s₂) X.xe s':=by
 obtain⟨x,C,T,od,H',rfl,hx,hT,t,ho,hg,u,hk,nx,nT,q⟩:=c
 have J:aj X pins σ H' s':=I.call' (ch:=[]) ho u hk hg (fun b z=>absurd z (by simp))
 have hfr:=I.frame hs
 have fs:X.A.frames=some (X.env::X.outer):=by rw[<- hs];exact I.ok.frames
 have hf:=J.stack
 rw[hs]at hf
 obtain⟨oe,vs,oT,ts,a0,e1,e2,e6,e3,e4,e5,f0,f1,f2,f3⟩:=id t
 have hsz:1<vs.size:=by
  rcases Wy 1 vs.size with z|z
  ·exact z
  ·rw[Wz z]at e5;cases e5
 obtain⟨qm,qn⟩:=hE C od H' q
 refine o0 (C:=C) (od:=od) fs hf hfr e1 e2 e6 e3 hsz e4 (.inr ⟨T,oT,ts,e5,f0,f1,f2,f3⟩) fun h2 T2 k1 k2 nT2 tr=>?_
 have hidn:∀b∈x::T::cF X.stack,H' b=none:=fun b hb=>by
  rcases Ve.mp hb with rfl|hb
  ·exact nx
  ·rcases Ve.mp hb with rfl|hb
   ·exact nT
   ·exact J.stkFree b hb
 have hidf:∀b o,s.heap.get? b=some o->b∈x::T::cF X.stack->b∈cF X.stack:=fun b o eb hb=>by
  rcases Ve.mp hb with rfl|hb
  ·rw[hx]at eb;cases eb
  ·rcases Ve.mp hb with rfl|hb
   ·rw[hT]at eb;cases eb
   ·exact hb
 have mkI:∀h3:Heap,jK X (x::T::cF X.stack) s'.heap h3->aj X pins σ H' { s' with heap:=h3 }:=fun h3 ov =>
  I.call' (s':={ s' with heap:=h3 }) (ch:=[]) ho (tT u hidf ov.keep ov.up) (rJ hk hidn ov.keep) hg (fun b z=>absurd z (by simp))
 have ov2:jK X (x::T::cF X.stack) s'.heap h2:=⟨fun b o eb nb=>k1 b o eb (fun z=>nb (by rw[z];exact Vb)) (by rw[e5];intro z;injection z with z;injection z with z;exact nb (by rw[<- z];exact Vc _ Vb)) (fun z=>nb (Vc _ (Vc _ (by rw[hs];exact z)))),fun b hb o eb=>k2 b (by rw[<- hs];exact hb) o eb⟩
 have J2:=mkI h2 ov2
 obtain⟨ox,vx,oU,us,a1,ex1,ex2,ex6,ex3,ex4,ex5,u0,u1,u2,u3⟩:=tr
 refine wpAny_handleBy_cons ?_ (by intro z;cases z)
 refine codeAny_handlers_test ?_
 refine dU (X:=X.mark (.ref x)) (J2.mark (.ref x)) hB hmB ?_ hdb
 refine Wu (W.exm_one J2.kIn (km ex1 ex2 _) qm) ?_
 show codeAny _ _ _ _ _
 refine codeAny_handlers_suite_as ?_
 have u4:3<us.size:=by
  rcases Wy 3 us.size with z|z
  ·exact z
  ·rw[Wz z]at u3;cases u3
 have nT3:∀b o,s'.heap.get? b=some o->T2≠b:=fun b o eb z=>by rw[<- z,nT2]at eb;cases eb
 refine vh (s:={ s' with heap:=h2 }) ex1 ex3 ex5 u1 u2 u4 ?_
 obtain⟨h3,eh3⟩:∃h3,h2.update T2 (Obj.mapFields fun v=>v.setIfInBounds 3 .none)=h3:=⟨_,rfl⟩
 have oth:∀b,T2≠b->h3.get? b=h2.get? b:=fun b hb=>by rw[<- eh3];exact Vq _ _ hb
 show wpAny _ _ _ _ _ { s' with heap:=h2.update T2 (Obj.mapFields fun v=>v.setIfInBounds 3 .none) }
 rw[eh3]
 have ov3:jK X (x::T::cF X.stack) s'.heap h3:=⟨fun b o eb nb=>(oth b (nT3 b o eb)).trans (ov2.keep b o eb nb),fun b hb o eb=>by
  obtain⟨sl,z⟩:=ov2.up b hb o eb
  exact⟨sl,(oth b (nT3 b o eb)).trans z⟩⟩
 have ey1:h3.get? x=some ox:=(oth x u0).trans ex1
 have J3:aj X pins σ (aH H' x (lA x C od)) { s' with heap:=h3 }:=by
  have u3:=tT u hidf ov3.keep ov3.up
  refine I.call' (s':={ s' with heap:=h3 }) (ch:=[]) ho ⟨u3.keep,u3.slot,fun b o eb n hb=>?_,u3.there,fun b xs eb=>?_,fun b o w eb=>?_,fun b ps eb=>?_⟩ (LY (rJ hk hidn ov3.keep) nx (Ki ey1 ex2 ex6 ex3)) hg (fun b z=>absurd z (by simp))
  ·have:b≠x:=fun z=>by rw[z,hx]at eb;cases eb
   rw[ay this];exact u3.free b o eb n hb
  ·have z:=u3.tups b xs eb
   rw[ay (aZ z nx)];exact z
  ·have z:=u3.frzs b o w eb
   rw[ay (aZ z nx)];exact z
  ·obtain⟨more,z⟩:=u3.tbls b ps eb
   exact⟨more,by rw[ay (aZ z nx)];exact z⟩
 refine gy (X:=X) J3 hN hie (.inl hen) (v:=.ref x) rfl (fun s4 J4=>?_) (.inr hen)
 have hl:ie<σ.length:=by rw[I.len];exact(Vu.mp hie).1
 have pv:PE (X.mark (.ref x)) (.Name n p2) (lT ie):=g9 (X:=X.mark (.ref x)) hie (.inl hen) hd1 hd2
 have ps:=uq (X:=X.mark (.ref x)) (pos:=p3) (pos':=p1) hN hiy (.inl hyn) pv rfl (.inr hyn)
 refine VX (wJ ps pins s4 _ _ ⟨fun σ' H''=>σ'=(σ.set ie (some (.ref x))).set iy (some (.ref x))/\H''=aH H' x (lA x C od),fun _ _=>False,fun _ _=>False,fun _ _=>False⟩ (J4.mark (.ref x)) ⟨_,Wx hl,rfl,rfl⟩) (fun f s5 hf=>?_) (fun _ _ z=>z.elim)
 cases f with
 | next =>
  obtain⟨σ',H'',J5,rfl,rfl⟩:=hf
  refine Gy (X:=X) (J5.unmark I.ok) hN hie hen fun s6 J6=>?_
  exact⟨_,_,J6,qn x nx⟩
 | brk=>obtain⟨_,_,_,z⟩:=hf;exact z.elim
 | cont=>obtain⟨_,_,_,z⟩:=hf;exact z.elim
 | ret v=>obtain⟨_,_,_,_,_,z⟩:=hf;exact z.elim
end
theorem pR{nm:Str}
  (F:ExcBaseFacts B newId initId bmB) (ht:OwnTail h bmB bm) {rest:List Value} {Q:PySem.Fin->Shared->Prop} (hC:h.get? C=some (excClassObj nm q C N bs bm hdct sn sub ab col dd k0 k1 k2 k3 k5 newId)) (hn:h.Ns N mN) (hi:mN "__init__" = some (.ref fI)) (hfI:h.get? fI=some oI) (hfc:oI.cls=.type "function")
  (hq:∀h' e,h.objs.size<=e->h.MadeExcOf h' e (.ref C) rest->wpAny (model prog w) A (call (.ref fI) (.ref e::rest)) (fun r s'=>r=.none/\Q (.done (.ret (.ref e))) s') E ⟨h',g,d,t,os⟩) (hrest:rest.length<=sizeLine) :
  wpAny (model prog w) A (Builtin.«type.__call__» ⟨.ref C::rest,[]⟩) Q E ⟨h,g,d,t,os⟩:=by
 unfold Builtin.«type.__call__»
 dsimp only
 refine Wp rfl ?_
 refine U8 ?_
 unfold mroOf
 refine U8 ?_
 unfold classData
 refine U8 (wpAny_load' hC (Va (Va ?_)))
 refine Wp rfl ?_
 refine U8 (wpAny_madeBy_exc hC ?_)
 refine U8 (Va ?_)
 refine U8 (VO (WO (codeAny_call_builtin_code (Code.quiet_builtin ⟨.ref C::rest,[]⟩ F.quiet) (wpAny_check_new_subT F ht hC (codeAny_exc_new_subT F ht hC ?_ hrest)))))
 have kp:∀b o,h.get? b=some o->((h.push { cls:=.type "tuple", data:=.seq rest.toArray }).push { cls:=.ref C,data:=.fields #[.ref h.objs.size,.none,.none,.none,.bool false,.none] }).get? b=some o:=fun b o e=>U9 _ (U9 _ e)
 have hget:((h.push { cls:=.type "tuple", data:=.seq rest.toArray }).push { cls:=.ref C,data:=.fields #[.ref h.objs.size,.none,.none,.none,.bool false,.none] }).get? (h.objs.size+1)=some { cls:=.ref C,data:=.fields #[.ref h.objs.size,.none,.none,.none,.bool false,.none] }:=Heap.get?_push_at (by simp) rfl
 have m:h.MadeExcOf ((h.push { cls:=.type "tuple", data:=.seq rest.toArray }).push { cls:=.ref C,data:=.fields #[.ref h.objs.size,.none,.none,.none,.bool false,.none] }) (h.objs.size+1) (.ref C) rest:=⟨kp,WW (WX _),h.objs.size,hget,WW (Vf _),U9 _ (Heap.get?_push_at rfl rfl)⟩
 have hcC:(Value.ref C::bm).contains (.ref C)=true:=by simp
 generalize hh:(h.push { cls:=.type "tuple", data:=.seq rest.toArray }).push { cls:=.ref C,data:=.fields #[.ref h.objs.size,.none,.none,.none,.bool false,.none] }=h1 at *
 refine U8 (E:=E) ?_
 unfold isInstance
 refine U8 ?_
 unfold typeOf
 refine U8 (Wv hget ?_)
 refine Va ?_
 refine wpAny_isSubtype_exc (kp _ _ hC) ?_
 rw[hcC]
 refine Wp rfl ?_
 refine U8 (VO ?_)
 unfold callSpecial?
 refine U8 ?_
 unfold specialOf
 refine U8 ?_
 unfold typeOf
 refine U8 (Wv hget ?_)
 refine Va ?_
 have ht1:OwnTail h1 bmB bm:=ht.keeps kp
 have hn1:h1.Ns N mN:=by obtain⟨o,es,ep,a,b⟩:=hn;exact⟨o,es,ep,kp _ _ a,b⟩
 refine wpAny_typeLookup_tail (kp _ _ hC) hn1 ht1 F.mroIs F.init.lookup ?_
 rw[hi]
 dsimp only
 refine VO (U8 ?_)
 unfold bindSpecial
 refine U8 (wpAny_typeOf ⟨oI,kp _ _ hfI,hfc⟩ ?_)
 rw[if_pos (by decide)]
 refine Va (U8 (VX (hq h1 _ (WX _) m) (fun r s' hr=>?_) (fun _ _ z=>z)))
 obtain⟨rfl,hQ⟩:=hr
 refine Va ?_
 dsimp only
 rw[if_neg (by simp)]
 exact Va hQ
theorem za{nm:Str}
  (F:ExcBaseFacts B newId initId bmB) (ht:OwnTail h bmB bm) {rest:List Value} {Q:Value->Shared->Prop} (hC:h.get? C=some (excClassObj nm q C N bs bm hdct sn sub ab col dd k0 k1 k2 k3 k5 newId)) (hn:h.Ns N mN) (hi:mN "__init__" = some (.ref fI)) (hfI:h.get? fI=some oI) (hfc:oI.cls=.type "function")
  (hq:∀h' e,h.objs.size<=e->h.MadeExcOf h' e (.ref C) rest->wpAny (model prog w) (A.under (.builtin "type.__call__" ⟨.ref C::rest,[]⟩)) (call (.ref fI) (.ref e::rest)) (fun r s'=>r=.none/\Q (.ref e) s') E ⟨h',g,d,t,os⟩) (hrest:rest.length<=sizeLine) :
  wpAny (model prog w) A (call (.ref C) rest) Q E ⟨h,g,d,t,os⟩:=by
 have f1:=tc_lookup
 have f2:=tc_bind (.ref C)
 have hT:Shared.TypeIs ⟨h,g,d,t,os⟩ (.ref C) "type" := ⟨_,hC,rfl⟩
 refine WO (codeAny_of_tree ?_)
 refine U8 (wpAny_load' hC ?_)
 refine U8 (wpAny_specialOf hT f1 ?_)
 refine U8 (wpAny_of_eq f2 ?_)
 refine U8 ?_
 refine Va (wpAny_ite_true rfl ?_)
 refine Va ⟨rfl,codeAny_call_builtin_at (Code.quiet_builtin ⟨.ref C::rest,[]⟩ (by decide)) entry_typeCall (wpAny_check_type_call_sub hC (pR F ht hC hn hi hfI hfc (fun h' e hl hm=>hq h' e hl hm) hrest))⟩
theorem yq{nm:Str}{x:Sem Value}{Q:Flow->Shared->Prop}
  (hbase:bm.contains (.type "BaseException")=true) (hh:A.handled=none)
  (h:wpAny M A x (fun v s₁ => ∃e oe vs,v=.ref e/\s₁.heap.get? C=some (excClassObj nm q C N bs bm hdct sn sub ab col dd k0 k1 k2 k3 k5 newId)/\s₁.heap.get? e=some oe/\oe.cls=.ref C/\oe.data=.fields vs/\vs[1]?=some .none/\E (.ref e) s₁) E s):wpAny M A (raiseStmt env (some x) none) Q E s:=by
 have hcB:(Value.ref C::bm).contains (.type "BaseException")=true:=by rw[List.contains_cons,hbase,Bool.or_true]
 unfold raiseStmt
 dsimp only
 refine U8 (VX h (fun v s1 h1=>?_) (fun _ _ z=>z))
 obtain⟨e,oe,vs,rfl,hC,he,e2,e3,e5,hE⟩:=h1
 obtain⟨hp,g,d,tk,os⟩:=s1
 obtain⟨oc,od,oda,osl⟩:=oe
 simp only at e2 e3
 subst e2 e3
 refine U8 (Va ?_)
 refine U8 (VO ?_)
 unfold excFromValue
 refine U8 ?_
 unfold isExcClass
 refine U8 ?_
 unfold isType
 refine U8 (Wv he (Va ?_))
 refine Wp rfl (Va ?_)
 refine Wp rfl ?_
 refine U8 ?_
 unfold isInstance
 refine U8 ?_
 unfold typeOf
 refine U8 (Wv he (Va ?_))
 refine wpAny_isSubtype_exc hC ?_
 rw[hcB]
 refine wpAny_ite_true rfl (Va ?_)
 dsimp only
 refine U8 ?_
 refine U8 (Wv he (Va ?_))
 refine Wp rfl ?_
 refine U8 ?_
 unfold raisedInstance
 refine U8 ?_
 unfold typeOf
 refine U8 (Wv he (Va ?_))
 refine U8 ?_
 refine U8 (Wv hC (Va ?_))
 refine wpAny_ite_true rfl (Va ?_)
 refine U8 ?_
 unfold setFlight
 refine U8 (VC he rfl e5 ?_)
 refine Wp rfl (Va ?_)
 exact wpAny_raiseNew_none hh hE
theorem F0{R:Result->Shared->Prop}{od:Option Obj}{tk:Tok}(X:K.In s.heap)(I:W.InstAt s.heap x ox C od)(hc:W.clsIn K C=some cd)(hm:cd.mro=.ref C :: .ref S::fU)(ht:W.findIn K (.ref C) name=some none)
  (h:wpAny (model prog w) A.in1 (Builtin.ObjectAttr.storeInOwnDict (.ref x) (.ref C) (.str name tk) name v false) (fun fin s'=>match fin with | .done f=>R (.ok f) s' | .again c'=>c'.quiet=true/\codeAny (model prog w) A c' R s') (fun e s'=>R (.error e) s') s) :
  codeAny (model prog w) A (.call (.builtin "object.__setattr__") ⟨[.ref x,.str name tk,v],[]⟩) R s:=by
 have SF:=F.store_object
 have mi:W.mroIn K C (.type "object")=some true:=by
  unfold W.mroIn
  rw[hc,Option.bind_some,hm,if_neg (by simp)]
  simp[fU]
 have sub:W.Looks (model prog w) s.heap (isInstance (.ref x) (.type "object")) true:=W.Looks.andThen (W.InstAt.type I) (W.looks_mroIn X mi)
 refine codeAny_call_builtin SF.slot.plain SF.entry ?_
 have ao:argsOk "object.__setattr__" ⟨[.ref x,.str name tk,v],[]⟩:=SF.args (.ref x) (.str name tk) v
 refine W.check_slot (i := "object.__setattr__") (owner := "object") (n := "__setattr__") (self:=.ref x) (rest:=[.str name tk,v]) (kw:=[]) SF.kind SF.split sub ao ?_
 have hmr:W.Looks (model prog w) s.heap (mroOf (.ref C)) cd.mro:=W.Looks.andThen (W.looks_clsIn X hc) W.Looks.now
 rw[W.osa_eq,refuse_eq]
 refine U8 (U8 (W.Looks.here (W.InstAt.type I) (U8 (W.Looks.here hmr ?_))))
 rw[hm,refuseLoop_ref,refuseLoop_ref,F.store_ValueError.passes]
 refine Va (U8 (W.Looks.here (W.InstAt.type I) (U8 (W.Looks.here (W.looks_findIn X ht) ?_))))
 refine U8 ?_
 unfold Builtin.ObjectAttr.storeTaker?
 refine Va ?_
 exact h
theorem GJ(X:K.In s.heap)(e1:s.heap.get? x=some ox)(e2:ox.cls=.ref C)(e3:ox.data=.fields vs)(e6:ox.dict=none)(hc:W.clsIn K C=some cd)(hm:cd.mro=.ref C :: .ref S::fU)(hd:cd.hasDict=true)
  (hs:W.findIn K (.ref C) "__setattr__" = some (some (.builtin "object.__setattr__"))) (ht:W.findIn K (.ref C) name=some none)
  (h:∀h' dx,s.heap.objs.size<=dx->(∀b o,b≠x->s.heap.get? b=some o->h'.get? b=some o)->h'.get? x=some { ox with dict:=some dx }->(h'.Ns1 dx fun y=>if y=name then some v else none)->Q () { s with heap:=h',toks:=s.toks+2 }) :
  wpAny (model prog w) A (setAttr (.ref x) name v) Q E s:=by
 obtain⟨oc,odd,oda,osl⟩:=ox
 simp only at e2 e3 e6
 subst e2 e3 e6
 have J:W.InstAt s.heap x ⟨.ref C,none,.fields vs,osl⟩ C none:=⟨e1,rfl,rfl,True.intro⟩
 refine W.set_plain X J hs (F0 (s:={ s with toks:=s.toks+1 }) X J hc hm ht ?_)
 unfold Builtin.ObjectAttr.storeInOwnDict
 refine U8 (Va ?_)
 refine Wp rfl ?_
 refine U8 ?_
 unfold Builtin.ObjectAttr.ownDictForStores
 unfold instanceDict
 refine U8 (Wv e1 ?_)
 refine U8 (W.Looks.here (s:={ s with toks:=s.toks+1 }) (W.looks_clsIn X hc) ?_)
 rw[hd]
 refine Wp rfl ?_
 refine Wp rfl ?_
 dsimp only
 have e2:=U9 { cls:=.type "dict", data:=.dict #[] } e1
 refine U8 (wpAny_alloc (U8 (wpAny_update e2 ?_)))
 unfold dictMade
 refine Va ?_
 dsimp only
 have nx:s.heap.objs.size≠x:=VP (Vd e1)
 have e3:((s.heap.push { cls:=.type "dict", data:=.dict #[] }).update x fun o => { o with dict:=some s.heap.objs.size }).get? x=some ⟨.ref C,some s.heap.objs.size,.fields vs,osl⟩:=V3 _ e2 rfl
 have e4:((s.heap.push { cls:=.type "dict", data:=.dict #[] }).update x fun o => { o with dict:=some s.heap.objs.size }).get? s.heap.objs.size=some { cls:=.type "dict", data:=.dict #[] }:=(Vq _ _ (V2 nx)).trans (Vg _ rfl)
 have n1:((s.heap.push { cls:=.type "dict", data:=.dict #[] }).update x fun o => { o with dict:=some s.heap.objs.size }).Ns1 s.heap.objs.size (fun _=>none):=⟨_,#[],_,e4,rfl,fun e he=>absurd he (by simp),by simp[UniqKeys],fun _=>rfl⟩
 unfold Builtin.ObjectAttr.storeInDict
 refine U8 (Va ?_)
 refine U8 (wpAny_nsSet1 n1 fun h' hn2 hs2=>?_)
 obtain⟨oD,esD,epD,hoD,hdD,hcD⟩:=hn2.count (PySem.Within.cons (ns:=[]) name v (fun y hy=>absurd rfl hy))
 refine U8 (wpAny_lookBehind hoD (by rw[hdD];exact pastItsLine_dict (Vl hcD (by rw[WG];exact Wq rfl))) ?_)
 refine Va (h h' s.heap.objs.size ?_ (fun b o hb eb=>?_) ?_ hn2)
 ·exact Vf _
 ·refine(hs2.2 b (Vv (Vd eb))).trans ?_
  rw[Vq _ _ (V2 hb)]
  exact U9 _ eb
 ·exact(hs2.2 x (V2 nx)).trans e3
theorem ze{E:Value->Shared->Prop}{ob:Obj}{Q:PySem.Fin->Shared->Prop}(he:s.heap.get? e=some ob)(hd:ob.data=.fields vs)(h0:vs[0]?=some (.ref t0))
  (h:Q (.done (.ret .none)) ⟨(s.heap.push { cls:=.type "tuple", data:=.seq #[v] }).update e (Obj.mapFields fun x=>x.setIfInBounds 0 (.ref s.heap.objs.size)),s.gens,s.drawn,s.toks,s.os⟩) :
  wpAny (model prog w) A (Builtin.«BaseException.__init__» { pos:=[.ref e,v] }) Q E s:=by
 unfold Builtin.«BaseException.__init__»
 dsimp only
 rw[if_neg (by simp)]
 have hsz:=(Array.getElem?_eq_some_iff.mp h0).1
 have he1:=U9 { cls:=Value.type "tuple", data:=Data.seq #[v] } he
 refine U8 (wpAny_newTuple ?_)
 unfold Builtin.BaseException.bexcPut
 refine U8 (U8 (VC he1 hd h0 ?_))
 exact U8 (Xe he1 hd hsz (wpAny_letGo (Va h)))
theorem zb{nm:Str}
  (F:ExcBaseFacts B newId initId bmB) (ht:OwnTail s.heap bmB bm) {Q:Value->Shared->Prop} (hq:(Code.builtin initId { pos:=[.ref e,v] }).quiet=true) (hC:s.heap.get? C=some (excClassObj nm q C N bs bm hdct sn sub ab col dd k0 k1 k2 k3 k5 newId)) (he:s.heap.get? e=some oe) (hc:oe.cls=.ref C) (hd:oe.data=.fields vs) (h0:vs[0]?=some (.ref t0))
  (h:∀h',(∀b o,b≠e->s.heap.get? b=some o->h'.get? b=some o)->h'.get? e=some { oe with data:=.fields (vs.setIfInBounds 0 (.ref s.heap.objs.size)) }->Q .none { s with heap:=h' }) :
  wpAny (model prog w) A (call (.builtin initId) [.ref e,v]) Q E s:=by
 obtain⟨oc,odd,oda,osl⟩:=oe
 simp only at hc hd
 subst hc hd
 refine WO (codeAny_call_builtin_at hq F.initEntry (wpAny_check_init_subT F ht hC he rfl (ze he rfl h0 ?_)))
 dsimp only
 refine h _ (fun b o hb eb=>?_) ?_
 ·rw[Vq _ _ hb.symm];exact U9 _ eb
 ·have e1:=U9 { cls:=Value.type "tuple", data:=Data.seq #[v] } he
  exact V3 _ e1 rfl
theorem j5{D dx:Addr}{b:Bool}{mA:Str->Option Value}{Q:Value->Shared->Prop}{nm:Str}
  (hga:W.findIn K (.ref D) "__getattribute__" = some (some (.builtin "BaseException.__getattribute__"))) (hgt:W.findIn K (.ref D) "__getattr__" = some none) (hf:W.findIn K (.ref D) name=some none) (hdi:W.hasDictIn K D=true)
  (KI:K.In s.heap) (e1:s.heap.get? x=some ox) (e2:ox.cls=.ref D) (e3:ox.data=.fields vs) (e4:ox.dict=some dx) (hn:s.heap.Ns1 dx mA) (hv:mA name=some v) (hh:W.handedIn v=true) (hD:s.heap.get? D=some (excClassObj nm q D N bs bm hdct sn sub ab col dd k0 k1 k2 k3 k5 newId)) (hT:OwnTailQ s.heap fU bm)
  (hq:Q v { s with toks:=s.toks+1 }):wpAny (model prog w) A (getAttr (.ref x) name b) Q E s:=by
 obtain⟨h,g,d,tk,os⟩:=s
 have ty:=km e1 e2
 obtain⟨od,ho,hl⟩:=sx hn
 have J:W.InstAt h x ox D (some od):=⟨e1,e2,by unfold W.notCls;rw[e3],by rw[e4];exact ho⟩
 have lf:∀M,W.Looks M h (Builtin.ObjectAttr.find (.ref x) (.ref D) name) (.value v):=fun M=>W.looks_find KI J (W.findObj_own hdi hf rfl (by rw[hl,hv]))
 unfold getAttr
 refine U8 (wpAny_mkText ?_)
 unfold getAttrBy
 refine VO (U8 (Wu (ty _) ?_))
 refine U8 (Wu (W.looks_findIn KI hga) ?_)
 dsimp only
 have e9:(onTheHeap (Value.ref D)&&Value.builtin "BaseException.__getattribute__" == Value.builtin "object.__getattribute__")=false:=by
  have e0:(Value.builtin "BaseException.__getattribute__" == Value.builtin "object.__getattribute__")=false:=by decide
  rw[e0,Bool.and_false]
 rw[e9]
 rw[if_neg (by simp)]
 unfold getAttrByItsOwn
 refine U8 (Wu (W.looks_hook KI (r:=none) (by show(if true=true then W.findIn K (.ref D) "__getattr__" else some none)=some none;rw[if_pos rfl];exact hgt)) ?_)
 refine U8 (WK (VO ?_))
 unfold callGetattribute
 rw[if_neg (by rw[show onTheHeap (Value.builtin "BaseException.__getattribute__")=false from rfl];simp)]
 unfold boundAndCalled
 rw[(Wd.toExcAttrFacts.ga).bind]
 refine U8 (Va ?_)
 refine WO (codeAny_call_builtin (Wd.toExcAttrFacts.ga).plain PySem.F.entry_bexc_ga ?_)
 refine wpAny_check_ga_own Wd hD hT e1 e2 ?_
 show wpAny _ _ (Builtin.«object.__getattribute__» ⟨[Value.ref x,Value.str name tk],[]⟩) _ _ _
 unfold Builtin.«object.__getattribute__»
 refine U8 ?_
 unfold slotArgs
 dsimp only
 rw[if_neg (by simp),if_neg (by simp)]
 refine Va ?_
 dsimp only
 refine U8 ?_
 unfold Builtin.ObjectAttr.attrName
 refine Va ?_
 refine U8 (Wu (ty _) ?_)
 refine U8 (Wu (lf _) ?_)
 dsimp only
 refine Va ?_
 exact W.handed_on hh hq
end L2
namespace Sp
open PySem PySem.Spec PyProof.Rows L2
variable{H:Hp}{K:W.Frag}{n:Str}{C S:Addr}
structure EV(K:W.Frag)(n:Str)(C:Addr):Prop where
 cl:((W.clsIn K C).isSome&&W.typeIn K (.ref C)==some (.type "type"))=true
 sole:∀m,W.nsIn K mainGlobals m=some (some (.ref C))->m=n
 obj:∃o,K.lookup C=some o/\o.cls=.type "type"
abbrev Xs:=Str×Str×List (Str×Int)
def vi(H:Hp)(od:Option Addr)(fs:List (Str×Int)):Prop:=∀f i,fs=[(f,i)]->∃dx,od=some dx/\H dx=some (.xd [(f,.int i)])
theorem vi.nil{od:Option Addr}:vi H od []:=fun _ _ z=>by cases z
structure v6(K:W.Frag)(C:Addr)(f:Str):Prop where
 no:W.findIn K (.ref C) f=some none
 di:W.hasDictIn K C=true
def kW(K:W.Frag)(H:Hp)(n:Str):Option (Str×List (Str×Int))->V->Prop
 | none,v => ∃C,v=.ref C/\W.nsIn K mainGlobals n=some (some (.ref C))/\EV K n C
 | some (p,fs),v => ∃x C S od,v=.ref x/\W.nsIn K mainGlobals n=some (some (.ref C))/\W.nsIn K mainGlobals p=some (some (.ref S))/\io K C S/\H x=some (lA x C od)/\vi H od fs/\∀f i,fs=[(f,i)]->v6 K C f
theorem kW.mono{H':Hp}(k:∀a C od,H a=some (lA a C od)->H' a=some (lA a C od))(kd:∀a fs,H a=some (.xd fs)->H' a=some (.xd fs)):∀{p:Option (Str×List (Str×Int))} {v:V},kW K H n p v->kW K H' n p v
 | none,_,h=>h
 | some (p,fs),_,⟨x,C,S,od,e,h1,h2,h3,h4,h5,h6⟩=>⟨x,C,S,od,e,h1,h2,h3,k _ _ _ h4,fun f i z=>let ⟨dx,a,b⟩:=h5 f i z;⟨dx,a,kd _ _ b⟩,h6⟩
theorem kW.ref:∀{p:Option (Str×List (Str×Int))} {v:V},kW K H n p v->∃a,v=.ref a
 | none,_,⟨C,e,_⟩=>⟨C,e⟩
 | some (p,fs),_,⟨x,_,_,_,e,_⟩=>⟨x,e⟩
theorem kW.at:∀{p:Option (Str×List (Str×Int))} {a:Addr},kW K H n p (.ref a)->(∃o,K.lookup a=some o/\o.cls=.type "type")\/∃C od,H a=some (lA a C od)
 | none,_,⟨C,e,_,h⟩=>by cases e;exact .inl h.obj
 | some (p,fs),_,⟨x,C,_,od,e,_,_,_,h,_⟩=>by cases e;exact .inr ⟨C,od,h⟩
theorem uK(e:iq K C S=true):∃cd,W.clsIn K C=some cd/\cd.mro=.ref C :: .ref S::fU:=by
 unfold iq at e
 split at e
 ·rename_i t d1 cd sl c2 d2 ce sl2 e1 e2
  simp only[Vk]at e
  obtain⟨⟨⟨⟨⟨q1,q2⟩,q3⟩,q4⟩,q5⟩,q6⟩:=e
  exact⟨cd,by unfold W.clsIn;rw[e1],by simpa using q3⟩
 ·cases e
theorem AZ{Cm:Addr}{p m:Str}(e:io K C S)(hn:W.nsIn K mainGlobals n=some (some (.ref C)))(hp:W.nsIn K mainGlobals p=some (some (.ref S)))(hm:W.nsIn K mainGlobals m=some (some (.ref Cm)))(x:EV K m Cm) :
  W.kitOne K (.ref C) (.ref Cm)=some (decide (m=n) || decide (m=p)):=by
 obtain⟨cd,h1,h2⟩:=uK e.ex
 have a1:(Value.ref Cm==Value.ref C)=decide (m=n):=by
  by_cases z:m=n
  ·subst z;rw[hm]at hn;cases hn;simp
  ·rw[Vh z]
   refine WM.mpr fun y=>z ?_
   injection y with y
   subst y
   exact(x.sole n hn).symm
 have a2:(Value.ref Cm==Value.ref S)=decide (m=p):=by
  by_cases z:m=p
  ·subst z;rw[hm]at hp;cases hp;simp
  ·rw[Vh z]
   refine WM.mpr fun y=>z ?_
   injection y with y
   subst y
   exact(x.sole p hp).symm
 unfold W.kitOne
 have a3:(Value.ref C==Value.ref Cm)=decide (m=n):=by
  by_cases z:m=n
  ·subst z;rw[hm]at hn;cases hn;simp
  ·rw[Vh z]
   refine WM.mpr fun y=>z ?_
   injection y with y
   subst y
   exact(x.sole n hn).symm
 rw[a3]
 by_cases z:m=n
 ·rw[if_pos (Vt z),Vt z];rfl
 ·rw[Vh z,if_neg (by simp),Bool.false_or]
  unfold W.kitCls
  dsimp only
  rw[if_pos x.cl]
  unfold W.subIn W.mroIn
  dsimp only
  rw[h1,Option.bind_some,h2,if_neg (by simp)]
  rw[List.contains_cons,List.contains_cons,a1,a2,Vh z,Bool.false_or,show fU.contains (Value.ref Cm)=false by simp[fU],Bool.or_false]
theorem JJ(e:io K C S):W.kitOne K (.ref C) (.type "ValueError")=some true:=by
 obtain⟨cd,h1,h2⟩:=uK e.ex
 unfold W.kitOne
 rw[if_neg (by simp)]
 unfold W.kitCls
 dsimp only
 rw[if_pos (by decide)]
 unfold W.subIn W.mroIn
 dsimp only
 rw[h1,Option.bind_some,h2,if_neg (by simp)]
 simp[fU]
end Sp
namespace L2
open PySem PySem.Spec PyProof.Rows
variable{o:Option V}{u:Value}{y:V}
section
variable{κ:Type}[DecidableEq κ]
def kl(kvs:List (κ×V))(k:κ):Option V:=(kvs.find? fun kv=>decide (kv.1=k)).map (·.2)
def jD(kvs:List (κ×V))(k:κ)(v:V):List (κ×V) :=
 if (kvs.any fun kv=>decide (kv.1=k))=true then kvs.map (fun kv=>if kv.1=k then(kv.1,v)else kv)else kvs++[(k,v)]
def EN(kvs:List (κ×V))(k:κ):List (κ×V):=kvs.filter fun kv=>decide (kv.1≠k)
theorem oK{p:κ×V}{r:List (κ×V)}{k:κ}(e:p.1=k):kl (p::r) k=some p.2:=by simp[kl,V6,e]
theorem oM{p:κ×V}{r:List (κ×V)}{k:κ}(e:¬ p.1=k):kl (p::r) k=kl r k:=by simp[kl,V6,e]
theorem tS(k:κ):∀kvs:List (κ×V),(kvs.any fun kv=>decide (kv.1=k))=(kl kvs k).isSome
 | []=>rfl
 | p::r=>by
  rw[Xh]
  by_cases e:p.1=k
  ·simp only[oK e,Vt e,Bool.true_or,Option.isSome_some]
  ·rw[oM e,Vh e,Bool.false_or];exact tS k r
theorem wb(kvs:List (κ×V))(k:κ)(v:V):(jD kvs k v).length<=kvs.length+1:=by
 unfold jD
 split
 ·rw[Vi];omega
 ·rw[Vw,VM,W3];omega
theorem gM.isSome_eq{u:Option Value}(r:gM o u):o.isSome=u.isSome:=by
 cases o with
 | none=>cases u with
  | none=>rfl
  | some _=>exact(show False from r).elim
 | some _=>cases u with
  | none=>exact(show False from r).elim
  | some _=>rfl
theorem gM.getD{u:Option Value}{d:V}{d':Value}(r:gM o u)(rd:aX d d'):aX (o.getD d) (u.getD d'):=by
 cases o with
 | none=>cases u with
  | none=>exact rd
  | some _=>exact(show False from r).elim
 | some _=>cases u with
  | none=>exact(show False from r).elim
  | some _=>exact r
theorem KV.val{kvs:List (κ×V)}{vs:List (κ×Value)}(r:KV kvs vs)(k:κ):gM (kl kvs k) (valueAt vs k):=by
 unfold KV at r
 induction r with
 | nil=>exact True.intro
 | @cons p q ps qs h t ih =>
  obtain⟨h1,h2⟩:=h
  by_cases e:p.1=k
  ·have e':q.1=k:=h1.symm.trans e
   have b:valueAt (q::qs) k=some q.2:=by simp[valueAt,V6,e']
   rw[oK e,b];exact h2
  ·have e':¬ q.1=k:=fun z=>e (h1.trans z)
   have b:valueAt (q::qs) k=valueAt qs k:=by simp[valueAt,V6,e']
   rw[oM e,b];exact ih
theorem KV.any{kvs:List (κ×V)}{vs:List (κ×Value)}(r:KV kvs vs)(k:κ):(kvs.any fun kv=>decide (kv.1=k))=vs.any fun kv=>decide (kv.1=k):=by
 unfold KV at r
 induction r with
 | nil=>rfl
 | cons h t ih=>rw[Xh,Xh,ih,h.1]
theorem KV.repl{kvs:List (κ×V)}{vs:List (κ×Value)}(r:KV kvs vs)(k:κ)(ry:aX y u) :
  KV (kvs.map fun kv=>if kv.1=k then(kv.1,y)else kv) (vs.map fun kv=>if kv.1=k then(kv.1,u)else kv):=by
 unfold KV at r⊢
 induction r with
 | nil=>exact .nil
 | @cons p q ps qs h t ih =>
  rw[Vx,Vx]
  refine .cons ?_ ih
  obtain⟨h1,h2⟩:=h
  by_cases e:p.1=k
  ·rw[if_pos e,if_pos (h1.symm.trans e)];exact⟨h1,ry⟩
  ·rw[if_neg e,if_neg (fun z=>e (h1.trans z))];exact⟨h1,h2⟩
theorem KV.put{kvs:List (κ×V)}{vs:List (κ×Value)}(r:KV kvs vs)(k:κ)(ry:aX y u):KV (jD kvs k y) (stored vs k u):=by
 unfold jD stored
 rw[r.any k]
 by_cases e:(vs.any fun kv=>decide (kv.1=k))=true
 ·rw[if_pos e,if_pos e];exact r.repl k ry
 ·rw[if_neg e,if_neg e];exact Paired.snoc r ⟨rfl,ry⟩
theorem KV.drop{kvs:List (κ×V)}{vs:List (κ×Value)}(r:KV kvs vs)(k:κ):KV (EN kvs k) (without vs k):=by
 unfold KV at r⊢
 unfold EN without
 induction r with
 | nil=>exact .nil
 | @cons p q ps qs h t ih =>
  obtain⟨h1,h2⟩:=h
  rw[List.filter_cons,List.filter_cons]
  by_cases e:p.1=k
  ·have a:¬ decide (p.1≠k)=true:=by simp[e]
   have b:¬ decide (q.1≠k)=true:=by simp[h1.symm.trans e]
   rw[if_neg a,if_neg b];exact ih
  ·have e':¬ q.1=k:=fun z=>e (h1.trans z)
   have a:decide (p.1≠k)=true:=by simp[e]
   have b:decide (q.1≠k)=true:=by simp[e']
   rw[if_pos a,if_pos b];exact .cons ⟨h1,h2⟩ ih
theorem KV.length{kvs:List (κ×V)}{vs:List (κ×Value)}(r:KV kvs vs):kvs.length=vs.length:=Paired.length r
end
theorem yO{P:Program}{w:World}{k:ci}(r:aX (kV k) u):(gE P w).is k u=true:=by
 cases k with
 | inl i=>obtain⟨t,e⟩:=(show ∃t,u=Value.int i t from r);subst e;exact wa P w i t
 | inr x=>obtain⟨t,e⟩:=(show ∃t,u=Value.str x t from r);subst e;exact v9 P w x t
end L2
namespace Sp
open PySem PySem.Spec PyProof.Rows L2
variable{K:W.Frag}{H H' H0 H1:Hp}{a c e e2 elt iter tg:Expr}{vs vs':List V}{v:V}{X:Cx}{σ:L2.St}{i j k k2 ko n n1 n2:Nat}{env:Env}{sc scope:Scope}{M:Model}{A:Around}{E Q:Value->Shared->Prop}{s:Shared}{f g m qual x:Str}{pins:List (Addr×Obj)}{N' ps:List Str}{ch fp:List Addr}{prog:Program}{w:World}{args cs es ifs tgs:List Expr}{ap cp p p1 p2 pos px py q tp:Pos}{b it r r2 t κ κ':Bool}{base h h' h2:Heap}{op op2:CmpOp}{body els ss:List Stmt}{α β:Type}{o:List Prop}{ks:List ci}{T:String}{hi lo:Option Expr}{st:Stmt}{mg:Str->Option Value}{cdv old:Value}{outer:List Env}{fd:FuncData}{ns:List Int}{tu:Addr}{xs ys:Array Value}{us:List Value}
inductive D where
 | non|bl (b:Bool)|int (i:Int)|str (x:Str)|dct (ks:List ci) (ds:List D)|tup (l:List D)|lst (l:List D)|typ (n:String)|sn (n:Nat)|obj (n:Str) (ns:List Str) (ds:List D)|cls (n:Str)|xc (n:Str) (p:Option (Str×List (Str×Int)))
mutual
def D.lless:D->Bool
 | .lst _=>false
 | .dct _ _=>false
 | .tup l=>ar l
 | _=>true
def ar:List D->Bool
 | []=>true
 | d::l=>d.lless&&ar l
end
def v3(K:W.Frag)(H:Hp)(a:Addr)(vs:List V):Bool->Prop
 | true=>H a=some (.lst vs)
 | false=>(∃o,H a=some (.frz o (.lst vs)))\/∃(o:Obj) (its:Array Value) (n:Nat),K.lookup a=some o/\o.cls=.type "list" /\ o.dict=none/\o.data=.seq its n/\its.size<=sizeLine/\aP vs its.toList
theorem v3.sq{a:Addr}:∀{b:Bool},v3 K H a vs b->cn K H a vs
 | true,h=>cn.of h
 | false,.inl ⟨o,h⟩=>.inl (.inr ⟨o,h⟩)
 | false,.inr h=>.inr h
structure tL(K:W.Frag)(C:Addr):Prop where
 ha:W.findIn K (.ref C) "__class__" = some (some (.builtin "object.__class__"))
 hn:W.specialIn K (.builtin "object.__class__") "__get__" = some (some (.builtin "getset_descriptor.__get__"))
 ht:W.takesIn K (.builtin "object.__class__")=some true
 hm:W.mroIn K C (.type "object")=some true
def KL:List Str:=["Deed", "Turn", "HalfTurn", "Mirror"]
def tY(m n:Str):Bool:=decide (m=n) || (decide (n = "Deed")&&(decide (m = "Turn") || decide (m = "HalfTurn") || decide (m = "Mirror")))
structure NL(K:W.Frag)(C:Addr)(n:Str):Prop where
 all:∀m∈KL,∀Cm,W.nsIn K mainGlobals m=some (some (.ref Cm))->tL K Cm/\W.kitOne K (.ref Cm) (.ref C)=some (tY m n)
abbrev bn:=Addr->Bool->Prop
mutual
def ai(K:W.Frag)(H:Hp)(P:bn):D->V->Prop
 | .non,v=>v=.non
 | .bl b,v=>v=.bl b
 | .int i,v=>v=.int i
 | .str x,v=>v=.str x
 | .dct ks ds,v=>ar ds=true/\ks.length=ds.length/\∃a vs,v=.ref a/\H a=some (.dK (ks.zip vs))/\P a true/\ah K H P ds vs
 | .typ n,v=>v=.ty n
 | .sn n,v => ∃a S,v=.ref a/\H a=some (.set S n)
 | .xc n p,v=>kW K H n p v
 | .cls n,v => ∃C o,v=.ref C/\W.nsIn K mainGlobals n=some (some (.ref C))/\K.lookup C=some o/\o.cls=.type "type" /\ tL K C/\NL K C n
 | .obj n ns ds,v=>ar ds=true/\ns.length=ds.length/\∃a C dx vs,v=.ref a/\W.nsIn K mainGlobals n=some (some (.ref C))/\jk K C/\H a=some (.ins C dx (ns.zip vs))/\ah K H P ds vs
 | .tup l,v => ∃a vs,v=.ref a/\cD K H a vs/\ah K H P l vs
 | .lst l,v => ∃a vs b,v=.ref a/\v3 K H a vs b/\P a b/\ah K H P l vs
def ah(K:W.Frag)(H:Hp)(P:bn):List D->List V->Prop
 | [],vs=>vs=[]
 | d::l,vs => ∃v r,vs=v::r/\ai K H P d v/\ah K H P l r
end
def nm:HO->Prop
 | .lst _=>False
 | .dK _=>False
 | _=>True
structure dF(P P':bn)(H H':Hp):Prop where
 oth:∀a o,H a=some o->nm o->H' a=some o
 lst:∀a o,H a=some o->P a true->H' a=some o
 impT:∀a o,H a=some o->P a true->P' a true
 impF:∀a,P a false->P' a false
theorem dF.sq{P P':bn}(s:dF P P' H H'){a:Addr}(h:cD K H a vs):cD K H' a vs:=by
 rcases h with(h|⟨o,h⟩)|h
 ·exact .inl (.inl (s.oth _ _ h True.intro))
 ·exact .inl (.inr ⟨o,s.oth _ _ h True.intro⟩)
 ·exact .inr h
theorem dF.ls{P P':bn}(s:dF P P' H H'){a:Addr}:∀{b:Bool},v3 K H a vs b->P a b->v3 K H' a vs b
 | true,h,p=>s.lst a _ h p
 | false,.inl ⟨o,h⟩,_=>.inl ⟨o,s.oth _ _ h True.intro⟩
 | false,.inr h,_=>.inr h
theorem dF.imp{P P':bn}(s:dF P P' H H'){a:Addr}:∀{b:Bool},v3 K H a vs b->P a b->P' a b
 | true,h,p=>s.impT a _ h p
 | false,_,p=>s.impF a p
mutual
theorem ai.mono{K:W.Frag}{P P':bn}{H H':Hp}(s:dF P P' H H'):∀{d:D} {v:V},ai K H P d v->ai K H' P' d v
 | .non,v,h=>by rw[ai]at h⊢;exact h
 | .bl b,v,h=>by rw[ai]at h⊢;exact h
 | .int i,v,h=>by rw[ai]at h⊢;exact h
 | .str x,v,h=>by rw[ai]at h⊢;exact h
 | .dct ks ds,v,h=>by
  rw[ai]at h⊢
  obtain⟨f,e0,a,vs,e,h1,p,r⟩:=h
  exact⟨f,e0,a,vs,e,s.lst _ _ h1 p,s.impT _ _ h1 p,ah.mono s r⟩
 | .typ n,v,h=>by rw[ai]at h⊢;exact h
 | .sn n,v,h=>by
  rw[ai]at h⊢
  obtain⟨a,S,e,h⟩:=h
  exact⟨a,S,e,s.oth _ _ h True.intro⟩
 | .cls n,v,h=>by rw[ai]at h⊢;exact h
 | .xc n p,v,h=>by rw[ai]at h⊢;exact h.mono (fun a C od z=>s.oth _ _ z True.intro) (fun a fs z=>s.oth _ _ z True.intro)
 | .obj n ns ds,v,h=>by
  rw[ai]at h⊢
  obtain⟨f,e0,a,C,dx,vs,e,h1,h2,h3,r⟩:=h
  exact⟨f,e0,a,C,dx,vs,e,h1,h2,s.oth _ _ h3 True.intro,ah.mono s r⟩
 | .tup l,v,h=>by
  rw[ai]at h⊢
  obtain⟨a,vs,e,h,r⟩:=h
  exact⟨a,vs,e,s.sq h,ah.mono s r⟩
 | .lst l,v,h=>by
  rw[ai]at h⊢
  obtain⟨a,vs,b,e,h,p,r⟩:=h
  exact⟨a,vs,b,e,s.ls h p,s.imp h p,ah.mono s r⟩
theorem ah.mono{K:W.Frag}{P P':bn}{H H':Hp}(s:dF P P' H H'):∀{l:List D} {vs:List V},ah K H P l vs->ah K H' P' l vs
 | [],vs,h=>by rw[ah]at h⊢;exact h
 | d::l,vs,h=>by
  rw[ah]at h⊢
  obtain⟨v,r,e,h1,h2⟩:=h
  exact⟨v,r,e,ai.mono s h1,ah.mono s h2⟩
end
theorem dF.same{P P':bn}(s:aA H H')(i:∀a b,P a b->P' a b):dF P P' H H':=⟨fun a o h _=>s a o h,fun a vs h _=>s a _ h,fun a _ _ p=>i a true p,fun a p=>i a false p⟩
theorem ai.same{P:bn}(s:aA H H'){d:D}(h:ai K H P d v):ai K H' P d v:=h.mono (.same s fun _ _ p=>p)
theorem ah.same{P:bn}(s:aA H H'){d:List D}{v:List V}(h:ah K H P d v):ah K H' P d v:=h.mono (.same s fun _ _ p=>p)
theorem ai.imp{P P':bn}(i:∀a b,P a b->P' a b){d:D}(h:ai K H P d v):ai K H P' d v:=h.mono (.same (aA.refl _) i)
theorem ah.imp{P P':bn}(i:∀a b,P a b->P' a b){d:List D}{v:List V}(h:ah K H P d v):ah K H P' d v:=h.mono (.same (aA.refl _) i)
theorem ai.impH{P P':bn}(i:∀a o,H a=some o->P a true->P' a true)(j:∀a,P a false->P' a false){d:D}(h:ai K H P d v):ai K H P' d v:=h.mono ⟨fun _ _ h _=>h,fun _ _ h _=>h,i,j⟩
theorem ah.impH{P P':bn}(i:∀a o,H a=some o->P a true->P' a true)(j:∀a,P a false->P' a false){d:List D}{v:List V}(h:ah K H P d v):ah K H P' d v:=h.mono ⟨fun _ _ h _=>h,fun _ _ h _=>h,i,j⟩
mutual
theorem ai.flat{K:W.Frag}{P:bn}(P':bn){H:Hp}:∀{d:D} {v:V},d.lless=true->ai K H P d v->ai K H P' d v
 | .non,v,_,h=>by rw[ai]at h⊢;exact h
 | .bl b,v,_,h=>by rw[ai]at h⊢;exact h
 | .int i,v,_,h=>by rw[ai]at h⊢;exact h
 | .str x,v,_,h=>by rw[ai]at h⊢;exact h
 | .dct _ _,v,f,h=>by rw[D.lless]at f;cases f
 | .typ n,v,_,h=>by rw[ai]at h⊢;exact h
 | .sn n,v,_,h=>by rw[ai]at h⊢;exact h
 | .cls n,v,_,h=>by rw[ai]at h⊢;exact h
 | .xc n p,v,_,h=>by rw[ai]at h⊢;exact h
 | .obj n ns ds,v,_,h=>by
  rw[ai]at h⊢
  obtain⟨f,e0,a,C,dx,vs,e,h1,h2,h3,r⟩:=h
  exact⟨f,e0,a,C,dx,vs,e,h1,h2,h3,ah.flat P' f r⟩
 | .tup l,v,f,h=>by
  rw[ai]at h⊢
  obtain⟨a,vs,e,h,r⟩:=h
  exact⟨a,vs,e,h,ah.flat P' (by rw[D.lless]at f;exact f) r⟩
 | .lst l,v,f,h=>by rw[D.lless]at f;cases f
theorem ah.flat{K:W.Frag}{P:bn}(P':bn){H:Hp}:∀{l:List D} {vs:List V},ar l=true->ah K H P l vs->ah K H P' l vs
 | [],vs,_,h=>by rw[ah]at h⊢;exact h
 | d::l,vs,f,h=>by
  rw[ah]at h⊢
  rw[ar,Vk]at f
  obtain⟨v,r,e,h1,h2⟩:=h
  exact⟨v,r,e,ai.flat P' f.1 h1,ah.flat P' f.2 h2⟩
end
theorem ah.length{P:bn}:∀{l:List D} {vs:List V},ah K H P l vs->l.length=vs.length
 | [],vs,h=>by rw[ah]at h;subst h;rfl
 | d::l,vs,h=>by
  rw[ah]at h
  obtain⟨v,r,e,h1,h2⟩:=h
  subst e
  rw[VM,VM,h2.length]
theorem ah.get{K:W.Frag}{P:bn}{H:Hp}:∀{l:List D} {vs:List V} {i:Nat} {d:D},ah K H P l vs->l[i]?=some d->∃v,vs[i]?=some v/\ai K H P d v
 | [],vs,i,d,h,e=>by simp at e
 | x::l,vs,0,d,h,e=>by
  rw[ah]at h
  obtain⟨v,r,rfl,h1,h2⟩:=h
  simp at e;subst e
  exact⟨v,by simp,h1⟩
 | x::l,vs,i+1,d,h,e=>by
  rw[ah]at h
  obtain⟨v,r,rfl,h1,h2⟩:=h
  obtain⟨u,h3,h4⟩:=ah.get (i:=i) h2 (by simpa using e)
  exact⟨u,by simpa using h3,h4⟩
theorem ah.append{K:W.Frag}{P:bn}{H:Hp}:∀{l m:List D} {vs ws:List V},ah K H P l vs->ah K H P m ws->ah K H P (l++m) (vs++ws)
 | [],m,vs,ws,h,g=>by rw[ah]at h;subst h;exact g
 | d::l,m,vs,ws,h,g=>by
  rw[ah]at h
  obtain⟨v,r,rfl,h1,h2⟩:=h
  show ah K H P (d::(l++m)) (v::(r++ws))
  rw[ah]
  exact⟨v,_,rfl,h1,ah.append h2 g⟩
theorem ah.one{P:bn}{d:D}(h:ai K H P d v):ah K H P [d] [v]:=by
 rw[ah];exact⟨v,[],rfl,h,by rw[ah]⟩
theorem ah.nil{P:bn}:ah K H P [] []:=by rw[ah]
theorem ah.cons{P:bn}{d:D}{l:List D}(h:ai K H P d v)(g:ah K H P l vs):ah K H P (d::l) (v::vs):=by
 rw[ah];exact⟨v,vs,rfl,h,g⟩
theorem ah.take{K:W.Frag}{P:bn}{H:Hp}:∀{l:List D} {vs:List V} (n:Nat),ah K H P l vs->ah K H P (l.take n) (vs.take n)
 | [],vs,n,h=>by rw[ah]at h;subst h;simp;exact ah.nil
 | d::l,vs,0,h=>by simp;exact ah.nil
 | d::l,vs,n+1,h=>by
  rw[ah]at h
  obtain⟨v,r,rfl,h1,h2⟩:=h
  exact ah.cons h1 (ah.take n h2)
theorem ah.drop{K:W.Frag}{P:bn}{H:Hp}:∀{l:List D} {vs:List V} (n:Nat),ah K H P l vs->ah K H P (l.drop n) (vs.drop n)
 | [],vs,n,h=>by rw[ah]at h;subst h;simp;exact ah.nil
 | d::l,vs,0,h=>h
 | d::l,vs,n+1,h=>by
  rw[ah]at h
  obtain⟨v,r,rfl,h1,h2⟩:=h
  exact ah.drop n h2
theorem ah.mapInt{K:W.Frag}{P:bn}{H:Hp}:∀{ns:List Int} {vs:List V},ah K H P (ns.map D.int) vs->vs=ns.map V.int
 | [],vs,h=>by rw[Xp,ah]at h;exact h
 | n::ns,vs,h=>by
  rw[Vx,ah]at h
  obtain⟨v,r,rfl,h1,h2⟩:=h
  rw[ai]at h1
  rw[h1,ah.mapInt h2];rfl
theorem ah.ofInts{K:W.Frag}{P:bn}{H:Hp}:∀{ns:List Int},ah K H P (ns.map D.int) (ns.map V.int)
 | []=>ah.nil
 | n::ns=>ah.cons (by rw[ai]) ah.ofInts
abbrev Ow:=Addr->Option (Option Str)
def Kp(ow:Ow)(H:Hp):Nat->bn
 | 0=>fun a b=>b=true/\H a=none
 | 1=>fun a b=>b=true->ow a=none
 | 2=>fun a b=>b=true/\(ow a≠none\/H a=none)
 | _=>fun _ _=>True
def kj:Nat->Nat->Nat
 | 0,k=>k
 | k,0=>k
 | 1,1=>1
 | 2,2=>2
 | _,_=>3
def kB(ow:Ow)(x:Str):Bool->bn
 | true=>fun a b=>b=true/\ow a=some (some x)
 | false=>fun a b=>b=true->ow a=none
def fB(ow:Ow)(H:Hp):Prop:=∀a,ow a≠none->∃o,H a=some o
theorem fB.same{ow:Ow}(o:fB ow H)(s:aA H H'):fB ow H':=fun a h=>let ⟨x,e⟩:=o a h;⟨x,s a x e⟩
theorem fB.free{ow:Ow}(o:fB ow H){a:Addr}(h:H a=none):ow a=none:=by
 cases e:ow a with
 | none=>rfl
 | some x=>obtain⟨y,q⟩:=o a (by rw[e];exact(fun z=>nomatch z));rw[h]at q;cases q
theorem Kp.back{ow:Ow}(s:aA H H'):∀(k:Nat) (a:Addr) (b:Bool),Kp ow H' k a b->Kp ow H k a b
 | 0,a,b,h=>⟨h.1,s.free h.2⟩
 | 1,a,b,h=>h
 | 2,a,b,h=>⟨h.1,h.2.imp id fun z=>s.free z⟩
 | _+3,a,b,h=>True.intro
theorem Kp.joinL{ow:Ow}(o:fB ow H):∀(k j:Nat) (a:Addr) (b:Bool),Kp ow H k a b->Kp ow H (kj k j) a b
 | 0,0,a,b,h=>h
 | 0,1,a,b,h=>fun _=>o.free h.2
 | 0,2,a,b,h=>⟨h.1,.inr h.2⟩
 | 0,_+3,a,b,h=>True.intro
 | 1,0,a,b,h=>h
 | 1,1,a,b,h=>h
 | 1,2,a,b,h=>True.intro
 | 1,_+3,a,b,h=>True.intro
 | 2,0,a,b,h=>h
 | 2,1,a,b,h=>True.intro
 | 2,2,a,b,h=>h
 | 2,_+3,a,b,h=>True.intro
 | _+3,0,a,b,h=>True.intro
 | _+3,1,a,b,h=>True.intro
 | _+3,2,a,b,h=>True.intro
 | _+3,_+3,a,b,h=>True.intro
theorem Gj:∀k j,kj k j=kj j k
 | 0,0|0,1|0,2|0,_+3|1,0|1,1|1,2|1,_+3|2,0|2,1|2,2|2,_+3|_+3,0|_+3,1|_+3,2|_+3,_+3=>rfl
theorem Kp.joinR{ow:Ow}(o:fB ow H)(k j:Nat)(a:Addr)(b:Bool)(h:Kp ow H j a b):Kp ow H (kj k j) a b:=by
 rw[Gj];exact Kp.joinL o j k a b h
abbrev af:=Str->Option (D×Bool)
structure aO(X:Cx)(ow:Ow)(H:Hp)(σ:L2.St)(ρ:af):Prop where
 get:∀x d o,ρ x=some (d,o)->∃(i:Nat) (v:V),X.N[i]?=some x/\jf X.env.scope x/\σ[i]?=some (some v)/\ai X.K H (kB ow x o) d v
 own:fB ow H
theorem aO.same{ow:Ow}{ρ:af}(e:aO X ow H σ ρ)(s:aA H H'):aO X ow H' σ ρ :=
 ⟨fun x d o h=>let ⟨i,v,h1,h2,h3,h4⟩:=e.get x d o h;⟨i,v,h1,h2,h3,h4.same s⟩,e.own.same s⟩
def tD(X:Cx)(ow:Ow)(ρ:af)(d:D)(k:Nat):TE:=fun σ H Q=>aO X ow H σ ρ/\∀v H',aA H H'->ai X.K H' (Kp ow H k) d v->Q v H'
def ED(X:Cx)(ρ:af)(e:Expr)(d:D)(k:Nat):Prop:=∀ow,PE X e (tD X ow ρ d k)
def D7(X:Cx)(ow:Ow)(ρ:af)(b:Bool):TT:=fun σ H Q=>aO X ow H σ ρ/\∀H',aA H H'->Q b H'
def TD(X:Cx)(ρ:af)(e:Expr)(b:Bool):Prop:=∀ow,PT X e (D7 X ow ρ b)
def UQ(X:Cx)(ow:Ow)(ρ:af)(ds:List D)(k:Nat):TA:=fun σ H Q=>aO X ow H σ ρ/\∀vs H',aA H H'->ah X.K H' (Kp ow H k) ds vs->Q vs H'
def AD(X:Cx)(ρ:af)(es:List Expr)(ds:List D)(k:Nat):Prop:=∀ow,PA X es (UQ X ow ρ ds k)
theorem bR{t t':TE}(h:PE X e t)(i:∀σ H Q,t' σ H Q->t σ H Q):PE X e t':=fun pins s σ H Q I q=>h pins s σ H Q I (i σ H Q q)
theorem zu{t t':TT}(h:PT X e t)(i:∀σ H Q,t' σ H Q->t σ H Q):PT X e t':=fun pins s σ H Q I q=>h pins s σ H Q I (i σ H Q q)
theorem EY{e:List Expr}{t t':TA}(h:PA X e t)(i:∀σ H Q,t' σ H Q->t σ H Q):PA X e t':=fun pos pins s σ H Q I q=>h pos pins s σ H Q I (i σ H Q q)
def kn(d:D)(k:Nat):Nat:=if d.lless=true then 0 else k
theorem ED.kn{ρ:af}{d:D}(h:ED X ρ e d k):ED X ρ e d (Sp.kn d k):=by
 unfold Sp.kn
 by_cases f:d.lless=true
 ·rw[if_pos f]
  exact fun ow=>bR (h ow) fun σ H Q ⟨E,q⟩=>⟨E,fun v H' s r=>q v H' s (r.flat _ f)⟩
 ·rw[if_neg f];exact h
variable{C C' ρ ρ':af}{d y z:D}{ow ow':Ow}{ds l l':List D}{P:bn}
def N2(K:W.Frag)(J:It)(ds:List D)(P:bn)(H1:Hp):Prop :=
 ∀(i:Nat) (H2:Hp),dF P P H1 H2->(∀d,ds[i]?=some d->J.go i H2/\∀x H3,J.yld i H2 x H3->aA H2 H3/\ai K H3 P d x)/\(ds.length<=i->J.stop i H2)
def Kd(ow:Ow)(H:Hp)(k:Nat)(H1:Hp):bn:=fun a b=>Kp ow H k a b/\(b=true->∃o,H1 a=some o)
def tI(X:Cx)(ow:Ow)(ρ:af)(ds:List D)(k:Nat):TI:=fun σ H R=>aO X ow H σ ρ/\∀J H1,aA H H1->N2 X.K J ds (Kd ow H k H1) H1->R J H1
def IE(X:Cx)(ρ:af)(tg iter:Expr)(ds:List D)(k:Nat):Prop:=∀ow,PI X tg iter (tI X ow ρ ds k)
def i5(ifs:List Expr)(env:Env):Sem Bool:=forIn ifs true fun c r=>if r=true then do let ok <- isTrue c env (eval c env);pure (ForInStep.yield ok)else pure (ForInStep.yield r)
def BV(X:Cx)(ρ:af)(ifs:List Expr)(b:Bool):Prop:=∀ow (pins:List (Addr×Obj)) (s:Shared) (σ:L2.St) (H:Hp) (Q:Bool->Hp->Prop),aj X pins σ H s->D7 X ow ρ b σ H Q->wpAny (model X.prog X.w) X.A (i5 ifs X.env) (TP X pins σ Q) X.xe s
def GD(X:Cx)(ρ:af)(tg:Expr)(d:D)(ρ':af):Prop:=∃g:TG,PG X tg g/\∀(ow:Ow) (v:V) (σ:L2.St) (H:Hp) (Q:L2.St->Hp->Prop),σ.length=X.N.length->aO X ow H σ ρ->ai X.K H (fun a b=>b=true->ow a=none) d v->(∀σ',σ'.length=X.N.length->aO X ow H σ' ρ'->Q σ' H)->g v σ H Q
abbrev mC(X:Cx)(scope:Scope)(cl:List (Str×Addr))(C:Addr)(N':List Str)(s:Shared)(H:Hp)(fp:List Addr):Cx :=
 { X with N:=N',s₀:=s,H₀:=H,env:=compEnvC scope cl C X.env,outer:=X.stack,stack:=X.stack,ex:=fp,fn:=fun x=>decide (scope.names.lookup x=some .cell),pn:=[],xe:=fun _ _=>False }
theorem ja{env:Env}:∀(names:List (Str×NameKind)) (cs:List (Str×Addr)),(∀n,(n,NameKind.free)∈names->∃c,env.cells.lookup n=some c) ->
  ∃cl,(forIn names cs (fun(x:Str×NameKind) (r:List (Str×Addr))=>(if (x.2==NameKind.free)=true then do let a <- cellOf env x.1;pure (ForInStep.yield ((x.1,a)::r))else pure (ForInStep.yield r):Sem (ForInStep (List (Str×Addr))))))=(pure cl:Sem (List (Str×Addr))) /\
   (∀x c,cl.lookup x=some c->(env.cells.lookup x=some c/\(x,NameKind.free)∈names)\/cs.lookup x=some c)/\(∀x,(x,NameKind.free)∈names->∃c,cl.lookup x=some c)/\(∀x c,cs.lookup x=some c->∃c',cl.lookup x=some c')
 | [],cs,_=>⟨cs,rfl,fun x c h=>.inr h,fun x h=>(by cases h),fun x c h=>⟨c,h⟩⟩
 | (n,k)::r,cs,h=>by
  have hr:∀n,(n,NameKind.free)∈r->∃c,env.cells.lookup n=some c:=fun m hm=>h m (Vc _ hm)
  by_cases hk:k=.free
  ·subst hk
   obtain⟨c,hc⟩:=h n Vb
   obtain⟨cl,e,h1,h2,h3⟩:=ja r ((n,c)::cs) hr
   refine⟨cl,?_,fun x c' hx=>?_,fun x hx=>?_,fun x c' hx=>?_⟩
   ·rw[W4]
    simp only[beq_self_eq_true,WY,cellOf,hc]
    rw[pure_bind,pure_bind]
    exact e
   ·rcases h1 x c' hx with q|q
    ·exact .inl ⟨q.1,Vc _ q.2⟩
    ·rw[Vn]at q
     split at q
     ·rename_i hb
      have:x=n:=by simpa using hb
      subst this;cases q;exact .inl ⟨hc,Vb⟩
     ·exact .inr q
   ·rcases Ve.mp hx with q|q
    ·cases q
     exact h3 n c (by simp)
    ·exact h2 x q
   ·by_cases hb:x==n
    ·exact h3 x c (by rw[Vn,hb])
    ·exact h3 x c' (by rw[Vn];simp only[hb];exact hx)
  ·obtain⟨cl,e,h1,h2,h3⟩:=ja r cs hr
   refine⟨cl,?_,fun x c hx=>(h1 x c hx).imp (fun q=>⟨q.1,Vc _ q.2⟩) id,fun x hx=>?_,h3⟩
   ·rw[W4]
    have:(k==NameKind.free)=false:=by simpa using hk
    simp only[this,WQ,Xn]
    rw[pure_bind]
    exact e
   ·rcases Ve.mp hx with q|q
    ·cases q;exact absurd rfl hk
    ·exact h2 x q
theorem we(h:∀n,(n,NameKind.free)∈scope.names->∃c,env.cells.lookup n=some c) :
  ∃cl,closureFor scope env=pure cl/\(∀x c,cl.lookup x=some c->env.cells.lookup x=some c/\(x,NameKind.free)∈scope.names)/\(∀x,(x,NameKind.free)∈scope.names->∃c,cl.lookup x=some c):=by
 obtain⟨cl,e,h1,h2,_⟩:=ja scope.names [] h
 refine⟨cl,?_,fun x c hx=>(h1 x c hx).resolve_right (by simp),h2⟩
 unfold closureFor
 rw[<- e,<- bind_pure (forIn scope.names _ _)]
theorem dD{env:Env}:∀{names:List (Str×NameKind)} {x:Str},names.lookup x=some .free ->
  (names.map fun(n,k)=>if (k==NameKind.free&&env.scope.kind == .function&&env.kindOf n==some .cell)then(n,NameKind.cell)else(n,k)).lookup x=some .cell \/
  (names.map fun(n,k)=>if (k==NameKind.free&&env.scope.kind == .function&&env.kindOf n==some .cell)then(n,NameKind.cell)else(n,k)).lookup x=some .free
 | [],_,h=>by simp at h
 | (n,k)::r,x,h=>by
  have ih:=@dD env r x
  show List.lookup x ((if (k==NameKind.free&&env.scope.kind == .function&&env.kindOf n==some .cell)=true then(n,NameKind.cell)else(n,k))::_)=_\/List.lookup x ((if (k==NameKind.free&&env.scope.kind == .function&&env.kindOf n==some .cell)=true then(n,NameKind.cell)else(n,k))::_)=_
  cases hx:x==n with
  | true =>
   simp only[Vn,hx]at h
   cases h
   by_cases hc:(NameKind.free==NameKind.free&&env.scope.kind == .function&&env.kindOf n==some .cell)=true
   ·rw[if_pos hc];simp[Vn,hx]
   ·rw[if_neg hc];simp[Vn,hx]
  | false =>
   simp only[Vn,hx]at h
   by_cases hc:(k==NameKind.free&&env.scope.kind == .function&&env.kindOf n==some .cell)=true
   ·rw[if_pos hc];simp only[Vn,hx];exact ih h
   ·rw[if_neg hc];simp only[Vn,hx];exact ih h
theorem gF{env:Env}:∀{names:List (Str×NameKind)} {x:Str} {k:NameKind},(names.map fun(n,k)=>if (k==NameKind.free&&env.scope.kind == .function&&env.kindOf n==some .cell)then(n,NameKind.cell)else(n,k)).lookup x=some k ->
  names.lookup x=some k\/(k=.cell/\names.lookup x=some .free)
 | [],_,_,h=>by simp at h
 | (n,j)::r,x,k,h=>by
  have ih:=@gF env r x k
  replace h:List.lookup x ((if (j==NameKind.free&&env.scope.kind == .function&&env.kindOf n==some .cell)=true then(n,NameKind.cell)else(n,j))::_)=some k:=h
  cases hx:x==n with
  | true =>
   simp only[Vn,hx]
   by_cases hc:(j==NameKind.free&&env.scope.kind == .function&&env.kindOf n==some .cell)=true
   ·rw[if_pos hc]at h
    simp only[Vn,hx]at h
    cases h
    have:j=.free:=by
     have:=(Vk _ _).mp ((Vk _ _).mp hc).1
     simpa using this.1
    exact .inr ⟨rfl,by rw[this]⟩
   ·rw[if_neg hc]at h
    simp only[Vn,hx]at h
    exact .inl h
  | false =>
   simp only[Vn,hx]
   by_cases hc:(j==NameKind.free&&env.scope.kind == .function&&env.kindOf n==some .cell)=true
   ·rw[if_pos hc]at h;simp only[Vn,hx]at h;exact ih h
   ·rw[if_neg hc]at h;simp only[Vn,hx]at h;exact ih h
structure ip(env:Env)(scope:Scope)(N':List Str):Prop where
 kind:scope.kind=.function
 nn:(scope.names.map (·.1)).Nodup
 names:∀y∈scope.names,y.2=.local->scope.names.lookup y.1=some .local
 nd:N'.Nodup
 fr:∀n,(n,NameKind.free)∈scope.names->env.kindOf n=some .cell\/env.kindOf n=some .free
theorem uR:∀{names:List (Str×NameKind)} {x:Str} {k:NameKind},(names.map (·.1)).Nodup->(x,k)∈names->names.lookup x=some k
 | [],_,_,_,h=>by cases h
 | (n,j)::r,x,k,nd,h=>by
  rw[Vx,Xk]at nd
  rcases Ve.mp h with e|h'
  ·cases e;simp
  ·have hx:(x==n)=false:=by
    cases q:x==n with
    | false=>rfl
    | true =>
     have:x=n:=by simpa using q
     subst this
     have hm:x∈r.map (·.1):=Wh.mpr ⟨(x,k),h',rfl⟩
     exact absurd hm nd.1
   rw[Vn,hx]
   exact uR nd.2 h'
theorem qG:∀(names:List (Str×NameKind)) (n:Nat) (acc:List (Str×Addr)) {x:Str} {c:Addr},(cellsFrom n names acc).lookup x=some c->acc.lookup x=some c\/(n<=c/\(x,NameKind.cell)∈names)
 | [],_,_,_,_,h=>.inl h
 | (y,k)::r,n,acc,x,c,h=>by
  unfold cellsFrom at h
  split at h
  ·rename_i hk
   have hk:k=.cell:=by simpa using hk
   subst hk
   rcases qG r (n+1) ((y,n)::acc) h with q|⟨q1,q2⟩
   ·rw[Vn]at q
    split at q
    ·rename_i hb
     have:x=y:=by simpa using hb
     subst this
     cases q
     exact .inr ⟨Vf _,Vb⟩
    ·exact .inl q
   ·exact .inr ⟨by omega,Vc _ q2⟩
  ·rcases qG r n acc h with q|⟨q1,q2⟩
   ·exact .inl q
   ·exact .inr ⟨q1,Vc _ q2⟩
theorem vE:∀(names:List (Str×NameKind)) (n:Nat) (acc:List (Str×Addr)),(∀x y c,acc.lookup x=some c->acc.lookup y=some c->x=y)->(∀x c,acc.lookup x=some c->c<n) ->
  ∀x y c,(cellsFrom n names acc).lookup x=some c->(cellsFrom n names acc).lookup y=some c->x=y
 | [],_,_,h,_,x,y,c,a,b=>h x y c a b
 | (z,k)::r,n,acc,h,hb,x,y,c,a,b=>by
  unfold cellsFrom at a b
  split at a
  ·rename_i hk
   rw[if_pos hk]at b
   refine vE r (n+1) ((z,n)::acc) (fun u v d p q=>?_) (fun u d p=>?_) x y c a b
   ·rw[Vn]at p q
    split at p
    ·rename_i e1
     split at q
     ·rename_i e2
      rw[show u=z by simpa using e1,show v=z by simpa using e2]
     ·cases p;exact absurd (hb v _ q) (VU _)
    ·split at q
     ·cases q;exact absurd (hb u _ p) (VU _)
     ·exact h u v d p q
   ·rw[Vn]at p
    split at p
    ·cases p;exact Vy _
    ·exact Nat.lt_succ_of_lt (hb u d p)
  ·rename_i hk
   rw[if_neg hk]at b
   exact vE r n acc h hb x y c a b
theorem rT:∀(names:List (Str×NameKind)) (h:Heap) (acc:List (Str×Addr)),(∀x c,acc.lookup x=some c->∃v,h.IsCell c v)->∀x c,(cellsFrom h.objs.size names acc).lookup x=some c->∃v,(pushCells h names).IsCell c v
 | [],_,_,h,x,c,a=>h x c a
 | (z,k)::r,h,acc,hc,x,c,a=>by
  unfold cellsFrom at a
  unfold pushCells
  split at a
  ·rename_i hk
   rw[if_pos hk]
   have:=rT r (h.push { cls:=.type "cell", data:=.cell none }) ((z,h.objs.size)::acc) (fun u d p=>?_) x c
   ·rw[VH]at this
    exact this a
   ·rw[Vn]at p
    split at p
    ·cases p;exact⟨none,_,Vg _ rfl,rfl⟩
    ·obtain⟨v,q⟩:=hc u d p
     exact⟨v,q.keeps fun b o e=>U9 _ e⟩
  ·rename_i hk
   rw[if_neg hk]
   exact rT r h acc hc x c a
theorem zU{globals:Addr}{cl:List (Str×Addr)}{Q:Env->Shared->Prop}(hcl:∀x c,cl.lookup x=some c->∃v,s.heap.IsCell c v)
  (h:∀h',h'.Ns s.heap.objs.size (fun _=>none)->(∀b o,s.heap.get? b=some o->h'.get? b=some o)->(∀x c,(cellsFrom (s.heap.objs.size+1) scope.names cl).lookup x=some c->∃v,h'.IsCell c v) ->
   Q (newEnv scope s.heap.objs.size globals (cellsFrom (s.heap.objs.size+1) scope.names cl) qual none .none (some env) builtinsNs) { s with heap:=h',toks:=s.toks+0 }) :
  wpAny M A (newFunctionEnv scope globals cl [] qual none .none (some env)) Q E s:=by
 simp only[newFunctionEnv,Option.isSome_some,WY]
 refine U8 (wpAny_alloc ?_)
 refine U8 (wpAny_layCells _ (fun name kind cells=>by cases hkc:kind==NameKind.cell<;>simp[hkc]) _ _ _ _ ?_)
 rw[show({ s with heap:=s.heap.push { cls:=.type "dict", data:=.dict #[] } }:Shared).heap.objs.size=s.heap.objs.size+1 from VH ..]
 rw[List.forIn_nil]
 refine U8 (Va (Va ?_))
 refine h _ ((Heap.Ns.new s.heap (.type "dict")).keeps (pushCells_keeps _ _)) (fun b o e=>pushCells_keeps _ _ b o (U9 _ e)) fun x c hc=>?_
 have:=rT scope.names (s.heap.push { cls:=.type "dict", data:=.dict #[] }) cl (fun u d p=>by
  obtain⟨v,q⟩:=hcl u d p
  exact⟨v,q.keeps fun b o e=>U9 _ e⟩) x c
 rw[VH]at this
 exact this hc
structure oa(X:Cx)(scope:Scope)(cl:List (Str×Addr))(n:Nat):Prop where
 k1:∀x c,cl.lookup x=some c->X.env.cells.lookup x=some c\/(n<c/\scope.names.lookup x=some .cell)
 k2:∀x,scope.names.lookup x=some .free\/scope.names.lookup x=some .cell->∃c,cl.lookup x=some c
 k4:∀x y c,cl.lookup x=some c->cl.lookup y=some c->x=y
 k5:∀x c,scope.names.lookup x=some .cell->cl.lookup x=some c->n<=c
variable{X:Cx}
theorem Dr{cl:List (Str×Addr)}(I:aj X pins σ H s)(S:ip X.env scope N')
  (h1:∀x c,cl.lookup x=some c->X.env.cells.lookup x=some c/\(x,NameKind.free)∈scope.names) (h2:∀x,(x,NameKind.free)∈scope.names->∃c,cl.lookup x=some c) :
  oa X scope (cellsFrom (s.heap.objs.size+1) scope.names cl) s.heap.objs.size where
 k1:=fun x c h=>by
  rcases qG _ _ _ h with q|⟨q1,q2⟩
  ·exact .inl (h1 x c q).1
  ·exact .inr ⟨q1,uR S.nn q2⟩
 k2:=fun x h=>by
  refine Option.isSome_iff_exists.mp (W.cellsFrom_some scope.names _ cl ?_)
  rcases h with h|h
  ·obtain⟨c,hc⟩:=h2 x (Vs h)
   exact .inr (by rw[hc];rfl)
  ·exact .inl h
 k4:=vE scope.names _ cl (fun x y c a b=>I.ok.inj x y c (h1 x c a).1 (h1 y c b).1) fun x c a=>by
  obtain⟨v,hv⟩:=I.cell x c (h1 x c a).1
  exact Nat.lt_succ_of_lt hv.lt
 k5:=fun x c hx h=>by
  rcases qG _ _ _ h with q|⟨q1,q2⟩
  ·rw[uR S.nn (h1 x c q).2]at hx;cases hx
  ·omega
theorem MX{cl:List (Str×Addr)}{C:Addr}(I:aj X pins σ H s)(S:ip X.env scope N')
  (hC:s.heap.objs.size<=C) (k:oa X scope cl s.heap.objs.size)
  (hf:∀b∈fp,gn X pins H b) (hfC:∀b∈fp,b<s.heap.objs.size):(mC X scope cl C N' s H fp).Ok where
 mod:=I.ok.mod
 kind:=by show(relabel scope X.env).kind=_;exact S.kind
 glob:=I.ok.glob
 blt:=I.ok.blt
 above:=hC
 inj:=k.k4
 has:=fun x hx=>by
  have hx:(relabel scope X.env).names.lookup x=some .cell\/(relabel scope X.env).names.lookup x=some .free:=hx
  rcases hx with hx|hx
  ·rcases gF hx with q|⟨_,q⟩
   ·exact k.k2 x (.inr q)
   ·exact k.k2 x (.inl q)
  ·rcases gF hx with q|⟨q,_⟩
   ·exact k.k2 x (.inl q)
   ·cases q
 cab:=fun x c h hc=>k.k5 x c (VW h) hc
 hd:=I.ok.hd
 frames:=I.ok.frames
 stk:=.inl rfl
 exf:=fun b hb=>⟨by have:=hfC b hb;intro z;subst z;show False;exact absurd (Vj this hC) (VU _),fun x c h=>by
  rcases k.k1 x c h with q|⟨q,_⟩
  ·exact(hf b hb).2.2.2.2.1 x c q
  ·have:=hfC b hb
   intro z;subst z;exact absurd (Xq q this) (VU _)⟩
 bs:=I.bs
 bsz:=Vl I.ok.bsz I.sz
 noex:=fun b o e hb=>by
  rcases(hf b hb).2.2.2.1 with q|q
  ·exact I.ok.noex b o e q
  ·exact absurd (Vj (Vd e) (Vl I.ok.bsz q)) (VU _)
 exfs:=fun b hb z=>by
  rcases Ve.mp (I.stkSub b z)with q|q
  ·exact(hf b hb).2.1 q
  ·exact(hf b hb).2.2.1 q
 funs:=I.stack
 frf:=I.stkFree
def oO(X:Cx)(scope:Scope)(N':List Str)(σ:L2.St):L2.St:=N'.map fun x=>if scope.names.lookup x=some .free then(σ[X.N.idxOf x]?).join else none
theorem JT{s1:Shared}{cl:List (Str×Addr)}{m:Str->Option Value}(I:aj X pins σ H s)(S:ip X.env scope N')
  (k:oa X scope cl s.heap.objs.size) (k6:∀x c,cl.lookup x=some c->∃v,s1.heap.IsCell c v)
  (hf:∀b∈fp,gn X pins H b) (hfC:∀b∈fp,b<s.heap.objs.size)
  (es:∃h t,s1 = { s with heap:=h,toks:=t }) (hns:s1.heap.Ns s.heap.objs.size m) (hk:∀b o,s.heap.get? b=some o->s1.heap.get? b=some o) :
  aj (mC X scope cl s.heap.objs.size N' s H fp) [] (oO X scope N' σ) H s1:=by
 obtain⟨h',t,rfl⟩:=es
 have I1:aj X pins σ H { s with heap:=h',toks:=t }:=I.kept hk
 refine⟨MX I S (Vf _) k hf hfC,rfl,I.bare,Un.kept hk,⟨m,hns,fun i x v e1 e2 e3=>?_⟩,k6,I.hok.fresh (Vf _),fun x c h=>(k.k1 x c h).elim (fun q=>I.freeC x c q) fun q=>I.hok.fresh (Xm q.1),fun p hp=>absurd (show p∈([]:List (Addr×Obj))from hp) (by simp),I1.hok,?_⟩
 ·have hN:N'[i]?=some x:=e1
  unfold oO at e2
  rw[V9,hN]at e2
  simp only[Option.map_some,Option.some.injEq]at e2
  split at e2
  ·rename_i hfr
   have hj:σ[X.N.idxOf x]?=some (some v):=by
    cases q:σ[X.N.idxOf x]? with
    | none=>rw[q]at e2;cases e2
    | some y=>rw[q]at e2;rw[show y=some v from e2]
   have hlt:X.N.idxOf x<X.N.length:=by rw[<- I.len];exact(Vu.mp hj).1
   have hx:X.N[X.N.idxOf x]?=some x:=by
    rw[VB hlt,W5 hlt]
   have kf:=S.fr x (Vs hfr)
   have vis:jf X.env.scope x:=.inr (kf.imp id id)
   obtain⟨m1,hn1,hl1⟩:=I1.loc
   obtain⟨u,r,l⟩:=hl1 _ x v hx hj vis
   refine⟨u,r,.inr ⟨?_,?_⟩⟩
   ·exact dD hfr
   ·rcases l with⟨hk',_⟩|⟨_,c,hc,hcell⟩
    ·rcases kf with q|q<;>rw[q]at hk'<;>cases hk'
    ·obtain⟨c',hc'⟩:=k.k2 x (.inl hfr)
     have:c'=c:=by
      rcases k.k1 x c' hc' with this|⟨_,this⟩
      ·rw[hc]at this;exact(VA this).symm
      ·rw[hfr]at this;cases this
     subst this
     exact⟨c',hc',hcell⟩
  ·cases e2
 ·unfold oO;simp
def flt(scope:Scope)(ρ:af):af:=fun x=>if scope.names.lookup x=some .free then ρ x else none
theorem kJ{y:D×Bool}(h:flt scope ρ x=some y):ρ x=some y/\scope.names.lookup x=some .free:=by
 unfold flt at h
 split at h
 ·rename_i e;exact⟨h,e⟩
 ·cases h
theorem Ks{cl:List (Str×Addr)}{C:Addr}(E:aO X ow H σ ρ)(hN:X.N.Nodup)
  (hsub:∀x d o,flt scope ρ x=some (d,o)->x∈N') :
  aO (mC X scope cl C N' s H0 fp) ow H (oO X scope N' σ) (flt scope ρ):=by
 refine⟨fun x d o h=>?_,E.own⟩
 obtain⟨h1,h2⟩:=kJ h
 obtain⟨i,v,e1,e2,e3,e4⟩:=E.get x d o h1
 have hx:x∈N':=hsub x d o h
 have hi:X.N.idxOf x=i:=by
  have hm:x∈X.N:=WI e1
  have hlt:=List.idxOf_lt_length_iff.mpr hm
  exact iV hN (by rw[VB hlt,W5 hlt]) e1
 refine⟨N'.idxOf x,v,?_,?_,?_,e4⟩
 ·have hlt:=List.idxOf_lt_length_iff.mpr hx
  show N'[N'.idxOf x]?=some x
  rw[VB hlt,W5 hlt]
 ·exact .inr (dD h2)
 ·have hlt:=List.idxOf_lt_length_iff.mpr hx
  unfold oO
  rw[V9,VB hlt,W5 hlt]
  simp only[Option.map_some]
  rw[if_pos h2,hi,e3];rfl
variable{X:Cx}
theorem Bv{R:Result->Shared->Prop}{target:Expr}{it acc:Value}(J:Nat->Shared->Prop)
    (turn:∀n s,J n s->wpAny (model prog w) A (pyNext it) (fun r s₁=>match r with
      | none=>R (.ok .next) s₁
      | some v=>wpAny (model prog w) A (letOwnedTupleGo target it v) (fun _ s₁=>wpAny (model prog w) A (assign target env v) (fun _ s₂ =>
          wpAny (model prog w) A (i5 ifs env) (fun ok s₃ =>
            if ok=true then wpAny (model prog w) A (eval elt env) (fun x s₄ =>
              wpAny (model prog w) A (call (.builtin "list.append") [acc,x]) (fun _ s₅ => ∃m,m<n/\J m s₅) (fun _ _=>False) s₄) (fun _ _=>False) s₃
            else ∃m,m<n/\J m s₃) (fun _ _=>False) s₂) (fun _ _=>False) s₁) (fun _ _=>False) s₁) (fun _ _=>False) s)
    (n:Nat) (h:J n s):codeAny (model prog w) A (.compLoop (.ListComp elt [⟨target,iter,ifs,0⟩] scope pos) 0 it acc env) R s:=by
  refine codeAny_loop rfl J (fun n s hI=>?_) n h
  show wpAny _ A ((compTurn (.ListComp elt [⟨target,iter,ifs,0⟩] scope pos) 0 it acc env).onRaise (fun x=>do noteFrame x env;theTreesLotGoes x)) _ _ s
  refine wpAny_noted ?_
  rw[compTurn_list]
  refine U8 (WU (U8 (VX (turn n s hI) (fun r s₁ h₁=>?_) fun _ _ h'=>h'.elim)))
  cases r with
  | none=>exact Va h₁
  | some v =>
    refine U8 (VX h₁ (fun _ s₁' h₁'=>?_) fun _ _ h'=>h'.elim)
    refine U8 (VX h₁' (fun _ s₂ h₂=>U8 (VX h₂ (fun ok s₃ h₃=>?_) fun _ _ h'=>h'.elim)) fun _ _ h'=>h'.elim)
    cases ok with
    | false=>exact Va ⟨rfl,h₃⟩
    | true =>
      exact U8 (U8 (VX h₃ (fun x s₄ h₄=>U8 (VX h₄ (fun _ s₅ h₅=>Va (Va ⟨rfl,h₅⟩)) fun _ _ h'=>h'.elim)) fun _ _ h'=>h'.elim))
def n6(X:Cx)(ρ:af)(tg:Expr)(ifs:List Expr)(elt:Expr)(k:Nat)(d:D)(r:Option D):Prop :=
 ∃ρ' b,GD X ρ tg d ρ'/\(∀x y,ρ x=some y->ρ' x=some y)/\BV X ρ' ifs b/\match r with|some d'=>b=true/\ED X ρ' elt d' k|none=>b=false
theorem fT(o:fB ow H){a:Addr}:∀{k:Nat},k<=1->Kp ow H k a true->ow a=none
 | 0,_,p=>o.free p.2
 | 1,_,p=>p rfl
 | _+2,h,_=>absurd h (by omega)
theorem Gi{H9:Hp}{D:Addr}{x:HO}(sm:aA H H9)(hD:H9 D=some x){a:Addr}:∀{k:Nat},k<=1->Kp (fun a=>if a=D then some none else ow a) H9 k a b->Kp ow H k a b/\(b=true->a≠D)
 | 0,_,p=>⟨⟨p.1,sm.free p.2⟩,fun _ z=>by subst z;have:=p.2;rw[hD]at this;cases this⟩
 | 1,_,p=>by
  have p:b=true->(if a=D then some none else ow a)=none:=p
  refine⟨fun hb=>?_,fun hb hz=>?_⟩
  ·have p:=p hb
   by_cases hz:a=D
   ·rw[if_pos hz]at p;cases p
   ·rw[if_neg hz]at p;exact p
  ·have p:=p hb
   rw[if_pos hz]at p;cases p
 | _+2,h,_=>absurd h (by omega)
theorem AY{D:Addr}(o:fB ow H)(hD:H D=none):∀{k:Nat},k<=1->Kp ow H k D true
 | 0,_=>⟨rfl,hD⟩
 | 1,_=>fun _=>o.free hD
 | _+2,h=>absurd h (by omega)
theorem qk:∀{l:List D} {i:Nat} {d:D},ar l=true->l[i]?=some d->d.lless=true
 | [],_,_,_,h=>by simp at h
 | x::l,0,d,f,h=>by
  rw[ar,Vk]at f
  simp at h;subst h;exact f.1
 | x::l,i+1,d,f,h=>by
  rw[ar,Vk]at f
  exact qk (i:=i) f.2 (by simpa using h)
structure n9(X:Cx)(pins:List (Addr×Obj))(σ:L2.St)(H5:Hp)(s6:Shared)(C:Addr)(m6:Str->Option Value):Prop where
 inv:aj X pins σ H5 s6
 ns:s6.heap.Ns C m6
 free:H5 C=none
 loc:C≠X.env.locals
 old:X.s₀.heap.objs.size<=C
 cell:∀x c,X.env.cells.lookup x=some c->c≠C
 pin:∀p∈X.pn++pins,p.1≠C
 fs:C∉X.fs
theorem sI{use:Option (Value->Sem Unit)}{Q':Value->Shared->Prop}{pos2:Pos}{f:D->Option D}
  (hcalm:X.calm=true) (hN:X.N.Nodup) (hk:ar ds=true\/k<=1) (hko:ko<=1) (hlen:ds.length<sizeLine) (S:ip X.env scope N') (hsub:∀x d o,flt scope ρ x=some (d,o)->x∈N')
  (hi:IE X ρ tg iter ds k)
  (turn:∀cl C s H fp,∀d∈ds,n6 (mC X scope cl C N' s H fp) (flt scope ρ) tg ifs elt ko d (f d))
  (hs:∀x,foldedSetIterable iter X.env x=pure x) (I:aj X pins σ H s) (E:aO X ow H σ ρ)
  (fin:∀D C s6 H5 m6,n9 X pins σ H5 s6 C m6->aA H H5->ai X.K H5 (Kp ow H ko) (.lst (ds.filterMap f)) (.ref D)->compPost (model X.prog X.w) X.A X.xe use Q' (.ref D) C (.ok .next) s6) :
  wpAny (model X.prog X.w) X.A (comprehension (.ListComp elt [⟨tg,iter,ifs,0⟩] scope pos) scope X.env pos2 (newList []) false (eval iter X.env) use) Q' X.xe s:=by
 obtain⟨cl,hclos,h1,h2⟩:=we (env:=X.env) (scope:=scope) fun n hn=>I.ok.has n (S.fr n hn)
 refine wpAny_comprehension_free rfl hs hclos S.kind S.names ?_
 refine aQ (hi ow pins s σ H (fun J H1=>aA H H1/\N2 X.K J ds (Kd ow H k H1) H1) I ⟨E,fun J H1 a b=>⟨a,b⟩⟩) fun v s1 h1'=>aQ h1' fun itv s2 h2'=>?_
 obtain⟨it,fp,tn,J,H2,rfl,I2,T,st2,f2,s12,itd⟩:=h2'
 have hD2:H2 s2.heap.objs.size=none:=I2.hok.fresh (Vf _)
 refine Wm (zU (fun x c hc=>(I2.cell x c (h1 x c hc).1).imp fun v q=>q.keeps fun b o e=>U9 _ e) fun h₁ hns₁ kp0 k60=>?_)
 have I3:aj X pins σ (aH H2 s2.heap.objs.size (.lst [])) { s2 with heap:=s2.heap.push { cls:=.type "list", dict:=none,data:=.seq ([]:List Value).toArray } } :=
  I2.laid (t':=s2.toks) (fun b u e=>U9 _ e) (Vf _) ⟨Vm _,[],0,.nil,Vg _ rfl⟩
 generalize hD:s2.heap.objs.size=D at *
 generalize hs3:({ s2 with heap:=s2.heap.push { cls:=.type "list", dict:=none,data:=.seq ([]:List Value).toArray } }:Shared)=s3 at *
 have hsz3:s3.heap.objs.size=D+1:=by rw[<- hs3];show(s2.heap.push _).objs.size=_;rw[VH,hD]
 have f3:∀b∈fp,gn X pins (aH H2 D (.lst [])) b:=fun b hb=>by
  obtain⟨g0,g⟩:=f2 b hb
  obtain⟨o,e,_⟩:=T.obj _ _ st2 b hb
  have hlt:=Vd e
  rw[hD]at hlt
  exact⟨by rw[ay (Vv hlt)];exact g0,g⟩
 have fl3:∀b∈fp,b<s3.heap.objs.size:=fun b hb=>by
  obtain⟨o,e,_⟩:=T.obj _ _ st2 b hb
  have hlt:=Vd e
  rw[hD]at hlt
  rw[hsz3];exact Nat.lt_succ_of_lt hlt
 have kp:∀b o,s3.heap.get? b=some o->h₁.get? b=some o:=kp0
 have kc:oa X scope (cellsFrom (s3.heap.objs.size+1) scope.names cl) s3.heap.objs.size:=Dr I3 S h1 h2
 generalize hcl':cellsFrom (s3.heap.objs.size+1) scope.names cl=cl' at *
 have I4:=JT (s1:={ s3 with heap:=h₁,toks:=s3.toks+0 }) (N':=N') I3 S kc k60 f3 fl3 ⟨_,_,rfl⟩ hns₁ kp
 have sH2:∀vs,aA H2 (aH H2 D (.lst vs)):=fun vs b o e=>by rw[ay (aZ e hD2)];exact e
 let ow':Ow:=fun a=>if a=D then some none else ow a
 have ow'D:ow' D=some none:=if_pos rfl
 have ow'n:∀a,a≠D->ow' a=ow a:=fun a h=>if_neg h
 have own':∀{H':Hp} (vs:List V),H' D=some (.lst vs)->aA H2 H'->fB ow' H':=fun {H'} vs hd sm a ha=>by
  by_cases hz:a=D
  ·subst hz;exact⟨_,hd⟩
  ·rw[ow'n a hz]at ha
   obtain⟨o,e⟩:=(E.same s12).own a ha
   exact⟨o,sm a o e⟩
 have E4:aO (mC X scope cl' s3.heap.objs.size N' s3 (aH H2 D (.lst [])) fp) ow' (aH H2 D (.lst [])) (oO X scope N' σ) (flt scope ρ):=by
  have E3:=Ks (scope:=scope) (cl:=cl') (C:=s3.heap.objs.size) (N':=N') (s:=s3) (fp:=fp) (H0:=aH H2 D (.lst [])) (E.same s12) hN hsub
  refine⟨fun x d o h=>?_,own' [] aF (sH2 [])⟩
  obtain⟨i,v,e1,e2,e3,e4⟩:=E3.get x d o h
  refine⟨i,v,e1,e2,e3,ai.same (sH2 []) (e4.impH (fun a ob ha p=>?_) fun a p=>?_)⟩
  ·have hz:a≠D:=aZ ha hD2
   cases o with
   | true=>exact⟨p.1,(ow'n a hz).trans p.2⟩
   | false=>exact fun _=>(ow'n a hz).trans (p rfl)
  ·cases o with
   | true=>cases p.1
   | false=>exact fun z=>(by cases z)
 generalize hX':mC X scope cl' s3.heap.objs.size N' s3 (aH H2 D (.lst [])) fp=X' at *
 have turn':∀d∈ds,n6 X' (flt scope ρ) tg ifs elt ko d (f d):=fun d hd=>by rw[<- hX'];exact turn _ _ _ _ _ d hd
 have eK:X'.K=X.K:=by rw[<- hX']
 have eP:X'.prog=X.prog:=by rw[<- hX']
 have eW:X'.w=X.w:=by rw[<- hX']
 have eA:X'.A=X.A:=by rw[<- hX']
 have eE:X'.env=compEnvC scope cl' s3.heap.objs.size X.env:=by rw[<- hX']
 have eX:X'.xe=fun _ _=>False:=by rw[<- hX']
 have eC:X'.calm=true:=by rw[<- hX'];exact hcalm
 have stat:∀{H':Hp},(∀b∈fp,H' b=none)->∀b∈fp,gn X' [] H' b:=fun hn b hb=>by
  rw[<- hX']
  refine⟨hn b hb,?_,?_,.inl hb,fun x c h=>(kc.k1 x c h).elim (fun q=>(f3 b hb).2.2.2.2.1 x c q) (fun q z=>by subst z;exact absurd (Xq q.1 (fl3 _ hb)) (VU _)),fun p hp=>absurd (show p∈([]:List (Addr×Obj))from hp) (by simp)⟩
  ·show b≠s3.heap.objs.size
   exact Vv (fl3 b hb)
  ·intro z
   rcases Ve.mp (I3.stkSub b z)with q|q
   ·exact(f3 b hb).2.1 q
   ·exact(f3 b hb).2.2.1 q
 let Pe:bn:=fun a b=>Kp ow H ko a b/\(b=true->a≠D)
 have loop:codeAny (model X.prog X.w) X.A (.compLoop (.ListComp elt [⟨tg,iter,ifs,0⟩] scope pos) 0 (.ref it) (.ref D) (compEnvC scope cl' s3.heap.objs.size X.env)) (compPost (model X.prog X.w) X.A X.xe use Q' (.ref D) s3.heap.objs.size) { s3 with heap:=h₁,toks:=s3.toks+0 }:=by
  refine Bv (fun n s' => ∃(i:Nat) (σ':L2.St) (H':Hp) (vs:List V),aj X' [] σ' H' s'/\tn i s'.heap/\(∀b∈fp,H' b=none)/\aO X' ow' H' σ' (flt scope ρ)/\H' D=some (.lst vs)/\aA H2 H' /\
   ah X.K H' Pe ((ds.take i).filterMap f) vs/\i<=ds.length/\n=ds.length-i) ?_ ds.length
   ⟨0,oO X scope N' σ,aH H2 D (.lst []),[],I4,?_,fun b hb=>(f3 b hb).1,E4,aF,sH2 [],?_,Vm _,rfl⟩
  ·rintro n s5 ⟨i,σ5,H5,vs,I5,st5,fr5,E5,hD5,sm5,rp5,hi5,rfl⟩
   have stay:dF (Kd ow H k H2) (Kd ow H k H2) H2 H5:=.same sm5 fun _ _ p=>p
   have itd5:=itd i H5 stay
   by_cases hlt:i<ds.length
   ·obtain⟨go,yl⟩:=itd5.1 ds[i] (by simp[hlt])
    have Ti:=T.item X' eP eW eK eC i [] s5 σ5 H5 (fun _ _=>False) I5 (stat fr5) st5 go
    rw[eA]at Ti
    refine aQ Ti fun r s6 ⟨u,hr,h6⟩=>?_
    subst hr
    refine aQ h6 fun _ s7 ⟨x,H7,I7,r7,y7,st7,fr7⟩=>?_
    obtain⟨sm7,rx7⟩:=yl x H7 y7
    obtain⟨ρ',b,⟨g,hg,hgd⟩,hext,hts,hel⟩:=turn' ds[i] (List.getElem_mem hlt)
    have rx7':ai X'.K H7 (fun a b=>b=true->ow' a=none) ds[i] x:=by
     rw[eK]
     rcases hk with hk|hk
     ·exact rx7.flat _ (qk hk (VB hlt))
     refine rx7.impH (fun a o ha p _=>?_) fun a _ z=>(by cases z)
     obtain⟨p,p2⟩:=p
     obtain⟨o2,ho2⟩:=p2 rfl
     show ow' a=none
     rw[ow'n a (aZ ho2 hD2)]
     exact fT E.own hk p
    have E7:=E5.same sm7
    have I7':=I7.pinned (stat fr7) (T.obj _ _ st7)
    have hg':=hg _ s7 σ5 H7 x u (fun σ' H'=>aO X' ow' H' σ' ρ'/\H7=H') I7' r7 (hgd ow' x σ5 H7 _ I7.len E7 rx7' fun σ' _ e=>⟨e,rfl⟩)
    rw[eP,eW,eA,eE,eX]at hg'
    refine aQ hg' fun _ s8 ⟨σ8,H8,I8,E8,eH8⟩=>?_
    subst eH8
    have ht':=hts ow' _ s8 σ8 H7 (fun c H'=>c=b/\aA H7 H') I8 ⟨E8,fun H' sm=>⟨rfl,sm⟩⟩
    rw[eP,eW,eA,eE,eX]at ht'
    refine aQ ht' fun c s9 ⟨H9,I9,ec,sm9⟩=>?_
    subst ec
    have back:∀{H':Hp} {σ':L2.St} {s':Shared},aj X' ([]++me fp s7.heap) σ' H' s'->aj X' [] σ' H' s'/\tn (i+1) s'.heap/\∀b∈fp,H' b=none:=fun {H' σ' s'} J7=>by
     refine⟨J7.unpinned,T.keep _ _ _ st7 fun b hb o e=>(J7.pin (b,o) (VD _ (VD _ (iC hb e)))).1,fun b hb=>?_⟩
     obtain⟨o,e,d⟩:=T.obj _ _ st7 b hb
     exact(J7.pin (b,o) (VD _ (VD _ (iC hb e)))).2.1
    have envf:∀{H':Hp} {σ':L2.St},aO X' ow' H' σ' ρ'->aO X' ow' H' σ' (flt scope ρ):=fun {H' σ'} e=>⟨fun x d o h=>e.get x d o (hext x _ h),e.own⟩
    have tk:(ds.take (i+1)).filterMap f=(ds.take i).filterMap f++(f ds[i]).toList:=by
     rw[List.take_add_one]
     simp only[VB hlt,Option.toList_some,List.filterMap_append]
     congr 1
    have sm59:aA H5 H9:=sm7.trans sm9
    cases hc:c with
    | false =>
     rw[if_neg Vp]
     subst hc
     obtain⟨I9',st9,fr9⟩:=back I9
     have fn:f ds[i]=none:=by
      cases hf:f ds[i]with
      | none=>rfl
      | some d'=>rw[hf]at hel;cases hel.1
     refine⟨ds.length-(i+1),by omega,i+1,σ8,H9,vs,I9',st9,fr9,envf (E8.same sm9),sm59 _ _ hD5,sm5.trans sm59,?_,hlt,rfl⟩
     rw[tk,fn,Option.toList_none,VZ]
     exact rp5.same sm59
    | true =>
     rw[if_pos rfl]
     subst hc
     obtain⟨d',fs,hed⟩:∃d',f ds[i]=some d'/\ED X' ρ' elt d' ko:=by
      cases hf:f ds[i]with
      | none=>rw[hf]at hel;cases hel
      | some d'=>rw[hf]at hel;exact⟨d',rfl,hel.2⟩
     have he':=hed ow' _ s9 σ8 H9 (fun v H'=>aA H9 H'/\ai X'.K H' (Kp ow' H9 ko) d' v) I9 ⟨E8.same sm9,fun v H' a r=>⟨a,r⟩⟩
     rw[eP,eW,eA,eE,eX]at he'
     refine aQ he' fun y s10 ⟨v10,H10,I10,r10,sm10,rp10⟩=>?_
     have sm510:=sm59.trans sm10
     have hD10:=sm510 _ _ hD5
     have hlv:vs.length<sizeLine:=by
      rw[<- rp5.length]
      refine VE (List.length_filterMap_le _ _) ?_
      rw[Wr];omega
     have ha':=sw (X:=X') _ s10 σ8 H10 (.ref D) [v10] (.ref D) [y] (fun w H'=>aH H10 D (.lst (vs++[v10]))=H') I10 rfl (.cons r10 .nil) ⟨D,vs,v10,rfl,rfl,hD10,hlv,rfl⟩
     rw[eP,eW,eA,eX]at ha'
     refine aQ ha' fun _ s11 ⟨w11,H11,I11,_,eH11⟩=>?_
     subst eH11
     obtain⟨I11',st11,fr11⟩:=back I11
     have s2D:∀a o,H2 a=some o->a≠D:=fun a o e=>aZ e hD2
     have stD:dF Pe Pe H10 (aH H10 D (.lst (vs++[v10]))):=⟨fun a o h hn=>by rw[ay (fun z=>by subst z;rw[hD10]at h;cases h;exact hn)];exact h,fun a ws h p=>by rw[ay (p.2 rfl)];exact h,fun _ _ _ p=>p,fun _ p=>p⟩
     refine⟨ds.length-(i+1),by omega,i+1,σ8,_,vs++[v10],I11',st11,fr11,?_,aF,?_,?_,hlt,rfl⟩
     ·have E10:=envf ((E8.same sm9).same sm10)
      refine⟨fun x d o h=>?_,own' _ aF (fun a o e=>by rw[ay (s2D a o e)];exact(sm5.trans sm510) a o e)⟩
      obtain⟨i',v',e1,e2,e3,e4⟩:=E10.get x d o h
      refine⟨i',v',e1,e2,e3,e4.mono ⟨fun a o h hn=>by rw[ay (fun z=>by subst z;rw[hD10]at h;cases h;exact hn)];exact h,fun a ws h p=>?_,fun _ _ _ p=>p,fun _ p=>p⟩⟩
      have hz:a≠D:=by
       intro z;subst z
       cases o with
       | true=>have:=p.2;rw[ow'D]at this;cases this
       | false=>have:ow' a=none:=p rfl;rw[ow'D]at this;cases this
      rw[ay hz];exact h
     ·intro a o e
      rw[ay (s2D a o e)]
      exact(sm5.trans sm510) a o e
     ·rw[tk,fs,Option.toList_some]
      refine((rp5.same sm510).mono stD).append (ah.one (ai.mono stD ?_))
      rw[eK]at rp10
      have sH9:aA H H9:=s12.trans (sm5.trans sm59)
      exact rp10.imp fun a b p=>Gi sH9 (sm59 _ _ hD5) hko p
   ·have hstop:=itd5.2 (by omega)
    have Td:=T.done X' eP eW eK eC i [] s5 σ5 H5 (fun _ _=>False) I5 (stat fr5) st5 hstop
    rw[eA]at Td
    refine aQ Td fun r s6 ⟨hr,I6⟩=>?_
    subst hr
    have ei:i=ds.length:=by omega
    subst ei
    rw[List.take_length]at rp5
    have hC:X'.env.locals=s3.heap.objs.size:=by rw[eE];rfl
    obtain⟨m6,hn6,_⟩:=I6.loc
    rw[hC]at hn6
    have hfree:H5 s3.heap.objs.size=none:=by have:=I6.free;rw[hC]at this;exact this
    have IX:aj X pins σ H5 s6:=by
     have b6:=I6.base
     have o6:=I6.os
     have k6:=I6.hok
     have g6:=I6.bare
     rw[<- hX']at b6 o6 k6
     exact I3.call' o6 b6 k6 g6 fun b hb=>⟨(f3 b hb).2.2.2.1,(f3 b hb).2.1,(f3 b hb).2.2.2.2.1,(f3 b hb).2.2.2.2.2⟩
    have hHD:H D=none:=s12.free hD2
    refine fin D _ s6 H5 m6 ⟨IX,hn6,hfree,VP I3.lt,I3.sz,fun x c hc z=>?_,fun p hp z=>?_,I3.nofs (Vf _)⟩ (s12.trans sm5) ?_
    ·obtain⟨v,hv⟩:=I3.cell x c hc
     have:=hv.lt
     rw[z]at this;exact absurd this (VU _)
    ·have:=Vd (I3.pin p hp).1
     rw[z]at this;exact absurd this (VU _)
    ·rw[ai]
     exact⟨D,vs,true,rfl,hD5,AY E.own hHD hko,rp5.imp fun _ _ p=>p.1⟩
  ·exact T.keep 0 s2.heap h₁ st2 fun b hb o e=>kp b o (by rw[<- hs3];exact U9 _ e)
  ·exact ah.nil
 exact codeAny_compStart_list loop (T.self _ 0 _ _ _ (T.keep 0 s2.heap h₁ st2 fun b hb o e=>kp b o (by rw[<- hs3];exact U9 _ e)) loop)
theorem n9.done{H5:Hp}{s6:Shared}{C:Addr}{m6:Str->Option Value}(e:n9 X pins σ H5 s6 C m6)(sb:Heap.SameBut C s6.heap h'):aj X pins σ H5 { s6 with heap:=h' } :=
 e.inv.turned (t':=s6.toks) (it:=C) (fun b o hb e=>sb.extBut b o hb e) e.free e.loc (.inr e.old) e.cell e.pin
theorem G6{f:D->Option D}
  (hcalm:X.calm=true) (hN:X.N.Nodup) (hk:ar ds=true\/k<=1) (hko:ko<=1) (hlen:ds.length<sizeLine) (S:ip X.env scope N') (hsub:∀x d o,flt scope ρ x=some (d,o)->x∈N')
  (hi:IE X ρ tg iter ds k)
  (turn:∀cl C s H fp,∀d∈ds,n6 (mC X scope cl C N' s H fp) (flt scope ρ) tg ifs elt ko d (f d))
  (hs:∀x,foldedSetIterable iter X.env x=pure x:=by intro _;rfl) :
  ED X ρ (.ListComp elt [⟨tg,iter,ifs,0⟩] scope pos) (.lst (ds.filterMap f)) ko:=by
 intro ow pins s σ H Q I ⟨E,q⟩
 rw[eval_ListComp]
 refine sI hcalm hN hk hko hlen S hsub hi turn hs I E fun D C s6 H5 m6 ce sm rp=>?_
 exact⟨m6,ce.ns,fun h' sb=>⟨.ref D,H5,ce.done sb,rfl,q (.ref D) H5 sm rp⟩⟩
theorem FQ{D0:lh}{spos:Pos}{f:D->Option D}
  (hcalm:X.calm=true) (hN:X.N.Nodup) (hk:ar ds=true\/k<=1) (hko:ko<=1) (hlen:ds.length<sizeLine) (S:ip X.env scope N') (hsub:∀x d o,flt scope ρ x=some (d,o)->x∈N')
  (hi:IE X ρ tg iter ds k)
  (turn:∀cl C s H fp,∀d∈ds,n6 (mC X scope cl C N' s H fp) (flt scope ρ) tg ifs elt ko d (f d))
  (hs:∀x,foldedSetIterable iter X.env x=pure x) (I:aj X pins σ H s) (E:aO X ow H σ ρ)
  (hsw:swapsWith (.ListComp elt [⟨tg,iter,ifs,0⟩] scope pos) (some (.Name x px)) spos.line X.env=pure true)
  (hx:X.N[i]?=some x) (hl:v4 X.env.scope x) (hf:X.fn x=true\/X.env.scope.names.lookup x=some .local)
  (q:∀v H',aA H H'->ai X.K H' (Kp ow H ko) (.lst (ds.filterMap f)) v->D0.nx (σ.set i (some v)) H') :
  wpAny (model X.prog X.w) X.A (exec (.Assign [.Name x px] (.ListComp elt [⟨tg,iter,ifs,0⟩] scope pos) spos) X.env) (SP X pins D0) X.xe s:=by
 rw[exec_Assign_Name_used _ _ _ _ hsw]
 refine U8 (WU (U8 ?_))
 show wpAny _ X.A (do let _ <- comprehension (.ListComp elt [⟨tg,iter,ifs,0⟩] scope pos) scope X.env _ (newList []) false (eval iter X.env) (some (assign (.Name x px) X.env))) _ _ s
 refine U8 (VX (sI (use:=some (assign (.Name x px) X.env)) (Q':=fun _ s'=>SP X pins D0 .next s') hcalm hN hk hko hlen S hsub hi turn hs I E fun D C s6 H5 m6 ce sm rp=>?_) (fun _ s' hq=>Va (Va hq)) fun _ _ e=>e)
 obtain⟨o,es,ep,ho,hd,hrest⟩:=id ce.ns
 have Ip:aj X (pins++[(C,o)]) σ H5 s6:=ce.inv.pins_of fun p hp=>by
  rcases Xj.mp hp with z|z
  ·exact ce.inv.pin p (VD _ z)
  ·have e:p=(C,o):=by simpa using z
   subst e
   exact⟨ho,ce.free,ce.loc,ce.fs,fun v z=>by rw[hd]at z;cases z⟩
 show wpAny _ X.A (assign (.Name x px) X.env (.ref D)) _ _ _
 refine aQ (jT (i:=i) hN hx hl hf (pins++[(C,o)]) s6 σ H5 (.ref D) (.ref D) (fun σ' H'=>σ.set i (some (.ref D))=σ'/\H5=H') Ip rfl ⟨rfl,rfl⟩) fun _ s7 ⟨σ7,H7,I7,e1,e2⟩=>?_
 subst e1 e2
 have pC:=(I7.pin (C,o) (VD _ (VD _ (by simp)))).1
 refine⟨m6,⟨o,es,ep,pC,hd,hrest⟩,fun h' sb=>?_⟩
 have ce':n9 X pins (σ.set i (some (.ref D))) H5 s7 C m6:=⟨I7.unpinned,⟨o,es,ep,pC,hd,hrest⟩,ce.free,ce.loc,ce.old,ce.cell,ce.pin,ce.fs⟩
 exact⟨_,H5,ce'.done sb,q (.ref D) H5 sm rp⟩
mutual
def D.py:D->PyData
 | .non=>.none
 | .bl b=>.bool b
 | .int i=>.int i
 | .str x=>.str x
 | .dct _ _=>.dict []
 | .typ _=>.dict []
 | .sn _=>.dict []
 | .obj _ _ _=>.dict []
 | .cls _=>.dict []
 | .xc _ _=>.dict []
 | .tup l=>.tuple (eO l)
 | .lst l=>.list (eO l)
def eO:List D->List PyData
 | []=>[]
 | d::l=>d.py::eO l
end
inductive Rs(α:Type) where
 | ok (a:α) (l:List Prop)
 | st
def aM:List Prop->Prop
 | []=>True
 | p::l=>p/\aM l
def Rs.bnd{α β:Type}(r:Rs α)(f:α->Rs β):Rs β :=
 match r with
 | .st=>.st
 | .ok a l=>match f a with
  | .st=>.st
  | .ok b m=>.ok b (l++m)
def UZ{α:Type}:Option α->Rs α
 | some a=>.ok a []
 | none=>.st
def gd(b:Bool):List Prop->List Prop
 | []=>[]
 | m=>[b=true->aM m]
abbrev R1:=Rs (D×Nat)
def mk(d:D)(k:Nat):R1:=.ok (d,kn d k) []
structure Fx where
 fn:Str->Option (List D->Rs D)
 con:Str->Option D
 blt:Str->Option (List D->R1)
 itr:Str->Option (List D->Nat->R1)
 mth:Str->Option (D->List D->R1)
 mtt:Str->Option (List D->List D->Nat->Rs (List D))
 slf:D->Option Int->Option Int->R1:=fun _ _ _=>.st
 fld:Str->Str->Bool:=fun _ _=>false
 omt:Str->Str->Option (List D->Rs D):=fun _ _=>none
def EQ:Const->Option D
 | .none=>some .non
 | .bool b=>some (.bl b)
 | .int i=>some (.int i)
 | .str x=>some (.str x)
 | _=>none
def dn:Nat:=2 ^ 9000
def bL(a b:Int):Prop:=a.natAbs<2 ^ 64\/b.natAbs<2 ^ 64\/(a.natAbs<dn/\b.natAbs<dn)\/(Builtin.Int.intBits a<=2 ^ 22/\Builtin.Int.intBits b<=2 ^ 22)
def ge(b:Int):Prop:=b≠0/\b.natAbs<dn
def yt(a b:Int):Prop:=0<=b/\b<=1000/\a.natAbs<2 ^ 64
def bO:Nat:=40000
def Du(op:Operator)(a b:Int):R1 :=
 match op with
 | .Add=>.ok (.int (a+b),0) []
 | .Sub=>.ok (.int (a-b),0) []
 | .Mult=>.ok (.int (a*b),0) [bL a b]
 | .FloorDiv=>.ok (.int (a.fdiv b),0) [ge b]
 | .Mod=>.ok (.int (a.fmod b),0) [b≠0]
 | .Pow=>.ok (.int (a ^ b.toNat),0) [yt a b]
 | _=>.st
def Ez:Operator->Bool
 | .Add=>true
 | _=>false
def rV(op:Operator)(x y:D)(k j:Nat):R1 :=
 match x,y with
 | .int a,.int b=>Du op a b
 | .lst a,.lst b=>if Ez op=true then .ok (.lst (a++b),0) [ar (a++b)=true,a.length+b.length<=bO]else .st
 | _,_=>.st
def zV(op:UnaryOp)(x:D):Option D :=
 match op,x with
 | .USub,.int a=>some (.int (-a))
 | .Not,.bl b=>some (.bl (!b))
 | _,_=>none
def gH(x y:D):Bool:=SeqAt.shaped x.py&&SeqAt.shaped y.py
def cU(x y:D):Bool:=PyData.eqv x.py y.py
def dg:List D->Option (List Int)
 | []=>some []
 | .int i::l=>(dg l).map (i :: ·)
 | _::_=>none
def yG(x:D)(l:List D):Rs Bool:=.ok (l.any fun y=>cU y x) [gH (.tup l) x=true]
def D.isNon:D->Bool
 | .non=>true
 | _=>false
def fv:D->Option (List D)
 | .tup l=>some l
 | .lst l=>some l
 | _=>none
def gK(op:CmpOp)(a b:Int):Option Bool :=
 match op with
 | .Lt=>some (decide (a<b))
 | .LtE=>some (decide (a<=b))
 | .Gt=>some (decide (b<a))
 | .GtE=>some (decide (b<=a))
 | _=>none
def yz(op:CmpOp)(x y:D):Option Bool :=
 match x,y with
 | .int a,.int b=>gK op a b
 | _,_=>none
def Rs.nt:Rs Bool->Rs Bool
 | .ok b l=>.ok (!b) l
 | .st=>.st
def o9:D->Option ci
 | .int i=>some (.inl i)
 | .str x=>some (.inr x)
 | _=>none
def mH(ks:List ci)(ds:List D)(k:ci):Option D:=((ks.zip ds).find? fun p=>decide (p.1=k)).map (·.2)
def fN(ks:List ci)(k:ci):Bool:=ks.any fun j=>decide (j=k)
def kM(ks:List ci)(k:ci):List ci:=cond (fN ks k) ks (ks++[k])
def fb{α:Type}(ks:List ci)(ds:List α)(k:ci)(d:α):List α:=cond (fN ks k) (List.zipWith (fun j e=>if j=k then d else e) ks ds) (ds++[d])
def EB(x y:D):Rs Bool :=
 match y with
 | .tup l=>yG x l
 | .lst l=>yG x l
 | .dct ks _=>(match o9 x with|some k=>.ok (fN ks k) []|none=>.st)
 | .str b=>(match x with | .str a=>.ok (Txt.contains b a) []|_=>.st)
 | _=>.st
def iu(op:CmpOp)(x y:D):Rs Bool :=
 match op with
 | .Eq=>.ok (cU x y) [gH x y=true]
 | .NotEq=>.ok (!cU x y) [gH x y=true]
 | .In=>EB x y
 | .NotIn=>(EB x y).nt
 | .Is=>(match y with | .non=>.ok x.isNon []|_=>.st)
 | .IsNot=>(match y with | .non=>.ok (!x.isNon) []|_=>.st)
 | op=>UZ (yz op x y)
def D.ty0:D->Option String
 | .non=>some "NoneType"
 | .bl _=>some "bool"
 | .int _=>some "int"
 | .str _=>some "str"
 | .dct _ _=>some "dict"
 | .tup _=>some "tuple"
 | .lst _=>some "list"
 | _=>none
def JS(x:D)(T:String):Option Bool:=x.ty0.map fun a=>decide (a=T) || decide (a = "bool" /\ T = "int")
def yb(x:Str):Option String :=
 if x = "int" then some "int" else if x = "bool" then some "bool" else if x = "str" then some "str" else if x = "tuple" then some "tuple" else if x = "list" then some "list" else if x = "ValueError" then some "ValueError" else none
def cY:List D->Option (List Bool)
 | []=>some []
 | .bl i::l=>(cY l).map (i :: ·)
 | _::_=>none
def jb:List Str:=["len", "tuple", "list", "abs", "all", "sum", "isinstance", "set", "int", "bool", "str", "range", "zip", "enumerate", "any", "sorted", "min", "max", "reversed", "ValueError"]
def iX:Expr->Bool
 | .Tuple .. => true
 | _=>false
def eh(e tg:Expr):Bool :=
 match e with
 | .Call (.Name f _) _ _ _=>if f = "enumerate" \/ f = "zip" then iX tg else true
 | _=>true
def Ef(x:Str):List D:=x.cps.toList.map fun c=>.str ⟨#[c]⟩
def items:D->Option (List D)
 | .lst l=>some l
 | .tup l=>some l
 | .str x=>if (x.cps.all fun c=>decide (c<128))=true then some (Ef x)else none
 | _=>none
def bE(ρ:af)(x:Str)(y:D×Bool):af:=fun z=>if z=x then some y else ρ z
def cT(sc:Scope)(x:Str):Bool:=sc.names.lookup x==some .local || sc.names.lookup x==some .cell
def bc(sc:Scope):List Expr->List D->af->Option af
 | [],[],ρ=>some ρ
 | .Name x _::es,d::ds,ρ=>if cT sc x=true then bc sc es ds (bE ρ x (d,false))else none
 | _,_,_=>none
def bJ(sc:Scope)(tg:Expr)(d:D)(ρ:af):Option af :=
 match tg with
 | .Name x _=>if cT sc x=true then some (bE ρ x (d,false))else none
 | .Tuple es _ _=>(match d with | .tup ds=>bc sc es ds ρ|_=>none)
 | _=>none
def qH(sc scope:Scope):Bool :=
 decide (scope.kind=.function)&&scope.names.all (fun y=>decide (y.2 ≠ .local) || decide (scope.names.lookup y.1=some .local)) &&
 scope.names.all (fun y=>decide (y.2 ≠ .free) || cT sc y.1&&decide (sc.names.lookup y.1=some .cell) || decide (sc.names.lookup y.1=some .free))&&decide ((scope.names.map (·.1)).Nodup)
def iE(step:D->Rs (Option (D×Nat))):List D->Rs (List D×Nat)
 | []=>.ok ([],0) []
 | d::l=>(step d).bnd fun r=>(iE step l).bnd fun q=>match r with
  | none=>.ok q []
  | some p=>.ok (p.1::q.1,kj p.2 q.2) []
def uT(x:D)(i:Int)(k:Nat):R1 :=
 match fv x with
 | some l=>(match atI l i with|some d=>mk d k|none=>.st)
 | none=>.st
def kF(p:D×Nat)(f:Int->R1):R1 :=
 match p.1 with
 | .int j=>f j
 | _=>.st
def kr(p q:D×Nat):R1 :=
 match p.1 with
 | .dct ks ds=>(match o9 q.1 with|some k=>(match mH ks ds k with|some d=>.ok (d,0) []|none=>.st)|none=>.st)
 | x=>kF q fun j=>uT x j p.2
def ir(l:List D)(lo hi:Option Int):List D:=(l.drop (HT.sIx l.length 0 lo)).take (HT.sIx l.length l.length hi-HT.sIx l.length 0 lo)
def KH(l:List D)(lo hi:Option Int):Bool:=!(decide (HT.sIx l.length 0 lo=0)&&decide (HT.sIx l.length l.length hi=l.length))
def bi(x:D)(lo hi:Option Int):R1 :=
 match x with
 | .tup l=>.ok (.tup (ir l lo hi),0) [ar l=true,KH l lo hi=true]
 | .lst l=>.ok (.lst (ir l lo hi),0) [ar l=true]
 | _=>.st
def fi(x:Str):Bool:=decide ((x==("__debug__" : Str))=false)&&decide ((x==("__classdict__" : Str))=false)
def zg(b:Bool)(r:Rs Bool):Rs Bool :=
 match r with
 | .ok c m=>.ok (b&&c) (gd b m)
 | .st=>match b with|false=>.ok false []|true=>.st
def Ep(b:Bool)(r:Rs Bool):Rs Bool :=
 match r with
 | .ok c m=>.ok (b || c) (gd (!b) m)
 | .st=>match b with|true=>.ok true []|false=>.st
mutual
def rF(b:Bool):D->D->D
 | .int x,.int y=>.int (cond b x y)
 | .bl x,.bl y=>.bl (cond b x y)
 | .tup x,.tup y=>if x.length=y.length then .tup (mj b x y)else cond b (.tup x) (.tup y)
 | x,y=>cond b x y
def mj(b:Bool):List D->List D->List D
 | x::l,y::m=>rF b x y::mj b l m
 | l,m=>cond b l m
end
def A6(t:Bool)(k j:Nat):Nat:=if k=j then k else cond t k j
def EE(b:Bool)(r s:R1):R1 :=
 match r with
 | .st=>(match b with|true=>.st|false=>s)
 | .ok p m=>match s with
  | .st=>(match b with|true=>.ok p m|false=>.st)
  | .ok q n=>.ok (rF b p.1 q.1,A6 b p.2 q.2) (gd b m++gd (!b) n)
def kD(Φ:Fx)(x:Str)(sc:Scope)(ρ:af):R1 :=
 if fi x=true then
  (if sc.names.lookup x=some .globalImplicit then(match Φ.con x with|some d=>.ok (d,0) []|none=>match yb x with|some T=>.ok (.typ T,0) []|none=>.st)
  else match ρ x with
   | some p=>mk p.1 (cond p.2 2 1)
   | none=>.st)
 else .st
def kO(Φ:Fx)(f:Str)(it:Bool)(ds:List D)(k:Nat):R1 :=
 match Φ.fn f with
 | some F=>(F ds).bnd fun d=>.ok (d,0) []
 | none=>match (if it=true then Φ.itr f else none)with
  | some B=>B ds k
  | none=>match Φ.blt f with
   | some B=>B ds
   | none=>.st
def jz{α:Type}(p:D×Nat)(f:Bool->Rs α):Rs α :=
 match p.1 with
 | .bl j=>f j
 | _=>.st
def Kb(Φ:Fx)(x:D)(f:Str):R1 :=
 match x with
 | .obj n ns ds=>if Φ.fld n f=true then(match (ns.zip ds).lookup f with|some d=>.ok (d,0) []|none=>.st)else .st
 | .xc _ (some (_,[(g,i)]))=>if f=g then .ok (.int i,0) []else .st
 | _=>.st
def mM:Expr->Bool
 | .Call (.Name _ _) [] [] _=>false
 | _=>true
def CM(Φ:Fx)(a:Expr)(m:Str)(x:D)(ds:List D):R1 :=
 if mM a=true then(match Φ.mth m with|some M=>M x ds|none=>.st)else .st
def KP(op op2:CmpOp)(x y z:D):R1 :=
 match x,y,z with
 | .int a,.int b,.int c=>(match gK op a b,gK op2 b c with|some r,some r2=>.ok (.bl (r&&r2),0) []|_,_=>.st)
 | _,_,_=>.st
mutual
def az(Φ:Fx):Expr->Bool->Scope->af->R1
  | .Constant c _ _,_,_,_=>(match EQ c with|some d=>.ok (d,0) []|none=>.st)
  | .Name x _,_,sc,ρ=>kD Φ x sc ρ
  | .BinOp a op b _,_,sc,ρ=>(az Φ a false sc ρ).bnd fun p=>(az Φ b false sc ρ).bnd fun q=>rV op p.1 q.1 p.2 q.2
  | .UnaryOp op a _,_,sc,ρ=>(az Φ a false sc ρ).bnd fun p=>(match zV op p.1 with|some d=>.ok (d,0) []|none=>.st)
  | .BoolOp op es _,_,sc,ρ=>if es.isEmpty=true then .st else(dZ Φ op es sc ρ).bnd fun b=>.ok (.bl b,0) []
  | .Compare a [op] [b] _,_,sc,ρ=>(az Φ a false sc ρ).bnd fun p=>(az Φ b false sc ρ).bnd fun q=>(iu op p.1 q.1).bnd fun r=>.ok (.bl r,0) []
  | .Compare a [op,op2] [b,c] _,_,sc,ρ=>(az Φ a false sc ρ).bnd fun p=>(az Φ b false sc ρ).bnd fun q=>(az Φ c false sc ρ).bnd fun t=>KP op op2 p.1 q.1 t.1
  | .IfExp c a b _,_,sc,ρ=>(az Φ c false sc ρ).bnd fun p=>jz p fun t=>EE t (az Φ a false sc ρ) (az Φ b false sc ρ)
  | .Tuple es _ _,_,sc,ρ=>(bG Φ es sc ρ).bnd fun p=>if p.1.length<=bO then mk (.tup p.1) p.2 else .st
  | .Dict [] [] _,_,_,_=>.ok (.dct [] [],0) []
  | .List es _,_,sc,ρ=>(bG Φ es sc ρ).bnd fun p=>if p.1.length<=bO/\p.2<=1 then .ok (.lst p.1,p.2) []else .st
  | .Subscript a (.Slice lo hi none _) _,_,sc,ρ=>(az Φ a false sc ρ).bnd fun p=>(sH Φ lo sc ρ).bnd fun l=>(sH Φ hi sc ρ).bnd fun h=>Φ.slf p.1 l h
  | .Subscript a i _,_,sc,ρ=>(az Φ a false sc ρ).bnd fun p=>(az Φ i false sc ρ).bnd fun q=>kr p q
  | .Call (.Name f _) args [] _,it,sc,ρ =>
    if sc.names.lookup f=some .globalImplicit then(bG Φ args sc ρ).bnd fun p=>kO Φ f it p.1 p.2
    else .st
  | .Attribute (.Name x _) f _,_,sc,ρ=>(kD Φ x sc ρ).bnd fun p=>Kb Φ p.1 f
  | .Call (.Attribute a m ap) args [] cp,_,sc,ρ=>if (ap.endLine==cp.line)=true then(az Φ a false sc ρ).bnd fun p=>(bG Φ args sc ρ).bnd fun q=>CM Φ a m p.1 q.1 else .st
  | .ListComp elt [⟨tg,iter,ifs,0⟩] scope _,_,sc,ρ =>
    if qH sc scope=true then(az Φ iter true sc ρ).bnd fun p=>(match items p.1 with
      | some ds=>if eh iter tg=true then
          (Rs.ok () [ds.length<=bO,ar ds=true\/p.2<=1]).bnd fun _=>(iE (fun d=>match bJ scope tg d (flt scope ρ)with
            | none=>.st
            | some ρ'=>(dZ Φ .And ifs scope ρ').bnd fun b=>cond b ((az Φ elt false scope ρ').bnd fun r=>.ok (some r) []) (.ok none [])) ds).bnd fun q=>if q.2<=1 then .ok (.lst q.1,q.2) []else .st
        else .st
      | none=>.st)
    else .st
  | _,_,_,_=>.st
def bG(Φ:Fx):List Expr->Scope->af->Rs (List D×Nat)
 | [],_,_=>.ok ([],0) []
 | e::es,sc,ρ=>(az Φ e false sc ρ).bnd fun p=>(bG Φ es sc ρ).bnd fun q=>.ok (p.1::q.1,kj p.2 q.2) []
def dZ(Φ:Fx):BoolOp->List Expr->Scope->af->Rs Bool
 | .And,[],_,_=>.ok true []
 | .Or,[],_,_=>.ok false []
 | .And,e::es,sc,ρ=>(az Φ e false sc ρ).bnd fun p=>jz p fun b=>zg b (dZ Φ .And es sc ρ)
 | .Or,e::es,sc,ρ=>(az Φ e false sc ρ).bnd fun p=>jz p fun b=>Ep b (dZ Φ .Or es sc ρ)
def sH(Φ:Fx):Option Expr->Scope->af->Rs (Option Int)
 | none,_,_=>.ok none []
 | some e,sc,ρ=>(az Φ e false sc ρ).bnd fun p=>(match p.1 with | .int i=>.ok (some i) []|_=>.st)
end
theorem rQ{Φ:Fx}{op:BoolOp}:az Φ (.BoolOp op es p) it sc ρ=(if es.isEmpty=true then .st else(dZ Φ op es sc ρ).bnd fun b=>.ok (.bl b,0) []):=rfl
theorem i7{Φ:Fx}{p:Pos}:az Φ (.Call (.Name f p) args [] q) it sc ρ=(if sc.names.lookup f=some .globalImplicit then(bG Φ args sc ρ).bnd fun p=>kO Φ f it p.1 p.2 else .st):=rfl
theorem vt{Φ:Fx}:az Φ (.Call (.Attribute a m ap) args [] cp) it sc ρ=(if (ap.endLine==cp.line)=true then(az Φ a false sc ρ).bnd fun p=>(bG Φ args sc ρ).bnd fun q=>CM Φ a m p.1 q.1 else .st):=rfl
theorem rP{Φ:Fx}{q:Pos}:az Φ (.ListComp elt [⟨tg,iter,ifs,0⟩] scope q) it sc ρ=(if qH sc scope=true then(az Φ iter true sc ρ).bnd fun p=>(match items p.1 with
      | some ds=>if eh iter tg=true then
          (Rs.ok () [ds.length<=bO,ar ds=true\/p.2<=1]).bnd fun _=>(iE (fun d=>match bJ scope tg d (flt scope ρ)with
            | none=>.st
            | some ρ'=>(dZ Φ .And ifs scope ρ').bnd fun b=>cond b ((az Φ elt false scope ρ').bnd fun r=>.ok (some r) []) (.ok none [])) ds).bnd fun q=>if q.2<=1 then .ok (.lst q.1,q.2) []else .st
        else .st
      | none=>.st)
    else .st):=rfl
variable{Φ:Fx}{F:List D->Rs D}{B:List D->R1}
inductive Fl where
 | nx (ρ:af)|rt (d:D)|bk (ρ:af)|ct (ρ:af)
def iY:Expr->Bool
 | .ListComp .. => true
 | .SetComp .. => true
 | .DictComp .. => true
 | _=>false
def yk(l:List D)(i:Int)(d:D):Option (List D):=(ju l.length i).map fun j=>l.set j d
def jq(f:af->Rs Fl):Fl->Rs Fl
 | .nx ρ=>f ρ
 | .ct ρ=>f ρ
 | .bk ρ=>.ok (.nx ρ) []
 | .rt d=>.ok (.rt d) []
def dz(bind:D->af->Option af)(body:af->Rs Fl):List D->af->Rs Fl
 | [],ρ=>.ok (.nx ρ) []
 | d::l,ρ=>match bind d ρ with
  | none=>.st
  | some ρ1=>(body ρ1).bnd (jq (dz bind body l))
def ol(test:af->Rs Bool)(body:af->Rs Fl):Nat->af->Rs Fl
 | 0,_=>.st
 | n+1,ρ=>(test ρ).bnd fun b=>cond b ((body ρ).bnd (jq (ol test body n))) (.ok (.nx ρ) [])
def demX(x:Str)(ρ:af):af:=fun y=>if y=x then(ρ y).map fun p=>(p.1,false)else ρ y
def demA(x:Str)(ρ:af):af:=fun y=>if y=x then(ρ y).map fun p=>(p.1,p.2&&p.1.lless)else ρ y
def demL:List Expr->af->af
 | [],ρ=>ρ
 | .Name x _::es,ρ=>demL es (demA x ρ)
 | .Subscript (.Name x _) _ _::es,ρ=>demL es (demA x ρ)
 | _::es,ρ=>demL es ρ
def demote(e:Expr)(ρ:af):af :=
 match e with
 | .Name x _=>demX x ρ
 | .Subscript (.Name x _) _ _=>demX x ρ
 | .Call _ args _ _=>demL args ρ
 | _=>ρ
def rj(sc:Scope)(x:Str)(p:D×Nat)(ρ:af):Rs Fl :=
 if cT sc x=true then
  match p.2 with
  | 0=>.ok (.nx (bE ρ x (p.1,true))) []
  | 1=>.ok (.nx (bE ρ x (p.1,false))) []
  | _=>.st
 else .st
def rB(ρ:af)(x:Str)(f:List D->Rs Fl):Rs Fl :=
 match ρ x with
 | some (.lst l,true)=>if fi x=true then f l else .st
 | _=>.st
def qf(sc:Scope)(x y:Str)(px py:Pos)(a b:Expr):Bool :=
 sc.names.lookup x==some .local&&sc.names.lookup y==some .local&&(px.line==py.line) && !decide (x=y) && !([a,b].all (foldedForSure 8)) && !([a,b].all (constantsAlone 8))
def qx(Φ:Fx)(es:List Expr)(e:Expr)(sc:Scope)(ρ:af):Rs Fl :=
  match es,e with
  | [.Name x px,.Name y py],.Tuple [a,b] _ _=>if qf sc x y px py a b=true then(bG Φ [a,b] sc ρ).bnd fun p=>(match p.1 with
      | [u,v]=>if ar [u,v]=true\/p.2<=1 then .ok (.nx (bE (bE ρ x (u,false)) y (v,false))) []else .st
      | _=>.st)else .st
  | _,_=>.st
def vG(sc:Scope)(es:List Expr)(e:Expr):Bool :=
 match es,e with
 | [.Name x _,.Name _ _],.Tuple [_,_] _ _=>sc.names.lookup x==some .cell
 | _,_=>false
def tX(sc:Scope)(es:List Expr)(e:Expr):Bool:=iX e && !vG sc es e
def yy(sc:Scope)(es:List Expr)(p:D×Nat):Bool :=
 match es,p.1,p.2 with
 | [.Name x _,.Name y _],.tup [d1,d2],0=>d1.lless && !d2.lless && !decide (x=y)&&cT sc x&&cT sc y
 | _,_,_=>false
def Cu(es:List Expr)(p:D×Nat)(ρ:af):af :=
 match es,p.1 with
 | [.Name x _,.Name y _],.tup [d1,d2]=>bE (bE ρ y (d2,true)) x (d1,false)
 | _,_=>ρ
def On(_:Expr):Bool:=true
def t6(ρ:af)(x:Str)(i d:D):Rs Fl :=
 match ρ x with
 | some (.lst l,true)=>(match i with | .int j=>if fi x=true then(match yk l j d with|some l'=>.ok (.nx (bE ρ x (.lst l',true))) [ar l=true,d.lless=true]|none=>.st)else .st|_=>.st)
 | some (.dct ks ds,true)=>(match o9 i with|some k=>if fi x=true then .ok (.nx (bE ρ x (.dct (kM ks k) (fb ks ds k d),true))) [d.lless=true,ks.length<bO]else .st|none=>.st)
 | _=>.st
def qA(Φ:Fx)(tgs:List Expr)(e:Expr)(sc:Scope)(ρ:af):Rs Fl :=
  match tgs with
  | [.Name x _]=>(az Φ e false sc ρ).bnd fun p=>rj sc x p ρ
  | [.Tuple es _ _]=>if tX sc es e=true then qx Φ es e sc ρ else(az Φ e false sc ρ).bnd fun p=>if yy sc es p=true then .ok (.nx (Cu es p ρ)) []else(match fv p.1 with
      | some ds=>if ar ds=true\/p.2<=1 then(match bc sc es ds ρ with|some ρ'=>.ok (.nx ρ') []|none=>.st)else .st
      | none=>.st)
  | [.Subscript (.Name x _) i _]=>if On e=true then(az Φ e false sc ρ).bnd fun p=>(az Φ i false sc ρ).bnd fun q=>t6 ρ x q.1 p.1
    else .st
  | _=>.st
def DG(op:Operator)(a b:Int):R1 :=
 match op with
 | .Add=>.ok (.int (a+b),0) []
 | .Sub=>.ok (.int (a-b),0) []
 | .Mult=>.ok (.int (a*b),0) [bL a b]
 | .FloorDiv=>.ok (.int (a.fdiv b),0) [ge b]
 | _=>.st
def qz(Φ:Fx)(t:Expr)(op:Operator)(e:Expr)(sc:Scope)(ρ:af):Rs Fl :=
  match t with
  | .Name x _=>if cT sc x=true then(match ρ x with
      | some p=>kF (p.1,0) (fun a=>(az Φ e false sc ρ).bnd fun q=>kF q fun b=>DG op a b) |>.bnd fun r=>.ok (.nx (bE ρ x (r.1,true))) []
      | none=>.st)else .st
  | _=>.st
def qy(Φ:Fx)(e:Expr)(sc:Scope)(ρ:af):Rs Fl :=
  match e with
  | .Call (.Attribute (.Name x _) m ap) args [] cp=>if (ap.endLine==cp.line)=true then(bG Φ args sc ρ).bnd fun p=>(match Φ.mtt m with
      | some M=>rB ρ x fun l=>(M l p.1 p.2).bnd fun l'=>.ok (.nx (bE ρ x (.lst l',true))) []
      | none=>.st)else .st
  | .Call (.Name f p) args ks cp=>(az Φ (.Call (.Name f p) args ks cp) false sc ρ).bnd fun _=>.ok (.nx ρ) []
  | _=>.st
def bY(ρ:af):af:=fun y=>(ρ y).map fun p=>(p.1,false)
def Er:Expr->Bool
 | .ListComp elt _ _ _=>iY elt
 | _=>false
def tq:Expr->Bool
 | .Tuple es _ _=>es.any Er
 | e=>Er e
def ui(e:Expr)(ρ:af):af:=cond (tq e) (bY ρ) ρ
def yp(p:D×Nat):Rs Fl:=if p.2=0\/p.2=2 then .ok (.rt p.1) []else .st
mutual
def dX(Φ:Fx):Stmt->Scope->af->Rs Fl
  | .Return (some e) _,sc,ρ=>(az Φ e false sc (ui e ρ)).bnd yp
  | .Return none _,_,_=>.ok (.rt .non) []
  | .Pass _,_,ρ=>.ok (.nx ρ) []
  | .Break _,_,ρ=>.ok (.bk ρ) []
  | .Continue _,_,ρ=>.ok (.ct ρ) []
  | .Assign tgs e _,sc,ρ=>qA Φ tgs e sc ρ
  | .AugAssign t op e _,sc,ρ=>qz Φ t op e sc ρ
  | .Expr e _,sc,ρ=>qy Φ e sc ρ
  | .If c a b _,sc,ρ=>(az Φ c false sc ρ).bnd fun p=>jz p fun t=>cond t (aD Φ a sc ρ) (aD Φ b sc ρ)
  | .For tg it body els _,sc,ρ=>if els.isEmpty=true then(az Φ it true sc (demote it ρ)).bnd fun p=>(match items p.1 with
      | some ds=>if p.2<=1/\eh it tg=true then dz (bJ sc tg) (aD Φ body sc) ds (demote it ρ)else .st
      | none=>.st)
    else .st
  | .While c body els _,sc,ρ=>if els.isEmpty=true then ol (fun ρ=>(az Φ c false sc ρ).bnd fun p=>jz p fun b=>.ok b []) (aD Φ body sc) bO ρ else .st
  | _,_,_=>.st
def aD(Φ:Fx):List Stmt->Scope->af->Rs Fl
 | [],_,ρ=>.ok (.nx ρ) []
 | s::ss,sc,ρ=>(dX Φ s sc ρ).bnd fun
  | .nx ρ'=>aD Φ ss sc ρ'
  | f=>.ok f []
end
theorem rO{it:Expr}:dX Φ (.For tg it body els q) sc ρ=(if els.isEmpty=true then(az Φ it true sc (demote it ρ)).bnd fun p=>(match items p.1 with
      | some ds=>if p.2<=1/\eh it tg=true then dz (bJ sc tg) (aD Φ body sc) ds (demote it ρ)else .st
      | none=>.st)
    else .st):=rfl
theorem vn{ρ:af}:dX Φ (.While c body els q) sc ρ=(if els.isEmpty=true then ol (fun ρ=>(az Φ c false sc ρ).bnd fun p=>jz p fun b=>.ok b []) (aD Φ body sc) bO ρ else .st):=rfl
def c6:List Str->List D->af
 | p::ps,d::ds=>fun z=>if z=p then some (d,false)else c6 ps ds z
 | _,_=>fun _=>none
def bX(Φ:Fx)(sc:Scope)(ps:List Str)(body:List Stmt)(ds:List D):Rs D :=
 if ds.length=ps.length then(aD Φ body sc (c6 ps ds)).bnd fun
  | .rt d=>.ok d []
  | .nx _=>.ok .non []
  | _=>.st
 else .st
def DB(ds:List D):R1 :=
 match ds with
 | [.sn n]=>.ok (.int n,0) []
 | [x]=>(match fv x with|some l=>.ok (.int l.length,0) []|none=>.st)
 | _=>.st
def nu:List String:=["int", "bool", "str", "tuple", "list", "dict"]
def DD(ds:List D):R1 :=
 match ds with
 | [.obj m _ _,.cls n]=>if m=n then .ok (.bl true,0) []else if m∈KL then .ok (.bl (tY m n),0) []else .st
 | [x,.typ T]=>if T∈nu then(match JS x T with|some b=>.ok (.bl b,0) []|none=>.st)else .st
 | _=>.st
def vK(ds:List D):R1 :=
 match ds with
 | [x]=>(match fv x with|some l=>.ok (.tup l,0) [ar l=true]|none=>.st)
 | _=>.st
def zf(ds:List D):R1 :=
 match ds with
 | [x]=>(match fv x with|some l=>.ok (.lst l,0) [ar l=true]|none=>.st)
 | _=>.st
def DF(ds:List D):R1 :=
 match ds with
 | [.int i]=>.ok (.int (if i<0 then -i else i),0) []
 | _=>.st
def rW(ds:List D):R1 :=
 match ds with
 | [.lst l]=>(match cY l with|some bs=>.ok (.bl (bs.all id),0) []|none=>.st)
 | _=>.st
def Dz(ds:List D):R1 :=
 match ds with
 | [.lst l]=>(match dg l with|some ns=>.ok (.int ns.sum,0) []|none=>.st)
 | _=>.st
def DE(ds:List D):R1 :=
 match ds with
 | [.int i]=>.ok (.int i,0) []
 | [.bl b]=>.ok (.int (cond b 1 0),0) []
 | _=>.st
def ig(ds:List D)(_:Nat):R1 :=
 match ds with
 | [.int j]=>.ok (.lst ((List.range j.toNat).map fun i=>.int (i:Nat)),0) [-4611686018427387904<=j,j<=bO]
 | [.int i,.int j]=>.ok (.lst ((List.range (j-i).toNat).map fun m=>.int (i+(m:Nat))),0) [-4611686018427387904<=i,i<=4611686018427387000,-4611686018427387904<=j,j-i<=800]
 | _=>.st
def fP:Nat->List D->List D
 | _,[]=>[]
 | n,x::xs=>.tup [.int (n:Nat),x]::fP (n+1) xs
theorem nY:∀(l:List D) (n:Nat),fP n l=l.mapIdx fun i x=>.tup [.int ((n+i:Nat):Int),x]
 | [],_=>rfl
 | x::l,n=>by
  rw[fP,nY l (n+1),List.mapIdx_cons]
  simp only[Nat.add_zero]
  congr 1
  congr 1
  funext i y
  rw[show n+1+i=n+(i+1) by omega]
def yR(ds:List D)(k:Nat):R1 :=
 match ds with
 | [.tup a]=>.ok (.lst (fP 0 a),0) [ar a=true]
 | [.lst a]=>.ok (.lst (fP 0 a),k) [ar a=true]
 | _=>.st
def C9(ds:List D)(k:Nat):R1 :=
 match ds with
 | [.tup a,.tup b]=>.ok (.lst (List.zipWith (fun x y=>.tup [x,y]) a b),0) [ar a=true,ar b=true]
 | [x,y]=>(match fv x,fv y with|some a,some b=>.ok (.lst (List.zipWith (fun x y=>.tup [x,y]) a b),k) [ar a=true,ar b=true]|_,_=>.st)
 | _=>.st
def nS(l ds:List D)(k:Nat):Rs (List D) :=
 match ds with
 | [d]=>.ok (l++[d]) [d.lless=true\/k=0,l.length<bO]
 | _=>.st
def Tb(l:List (Str×(List D->Rs D)))(c:List (Str×D))(b:List (Str×(List D->R1)))(i:List (Str×(List D->Nat->R1)))(m:List (Str×(D->List D->R1)))(t:List (Str×(List D->List D->Nat->Rs (List D))))(sf:D->Option Int->Option Int->R1):Fx :=
 { slf:=sf,fn:=fun g=>l.lookup g,con:=fun x=>c.lookup x,blt:=fun x=>b.lookup x,itr:=fun x=>i.lookup x,mth:=fun x=>m.lookup x,mtt:=fun x=>t.lookup x }
variable{fl:Fl}{bodyF:af->Rs Fl}
variable{X:Cx}
theorem nK{k:Int}(h:k.natAbs<2 ^ n):Builtin.Int.intBits k<=n:=by
 unfold Builtin.Int.intBits
 split
 ·exact Vm _
 ·rename_i h0
  have:k.natAbs.log2<n:=by
   rcases We k.natAbs with h1|hp
   ·exact absurd (by simpa using h1) (by simpa using h0)
   ·exact(Nat.log2_lt (VP hp)).mpr h
  omega
theorem dO:∀{l m:List Prop},aM (l++m)↔aM l/\aM m
 | [],m=>by simp[aM]
 | p::l,m=>by
  show p/\aM (l++m)↔(p/\aM l)/\aM m
  rw[dO,and_assoc]
theorem aU{r:Rs α}{f:α->Rs β}{b:β}{l:List Prop}(h:r.bnd f=.ok b l)(hp:aM l):∃a l1 l2,r=.ok a l1/\aM l1/\f a=.ok b l2/\aM l2:=by
 unfold Rs.bnd at h
 split at h
 ·cases h
 ·rename_i a l1
  split at h
  ·cases h
  ·rename_i b' m e
   cases h
   obtain⟨h1,h2⟩:=dO.mp hp
   exact⟨a,l1,m,rfl,h1,e,h2⟩
theorem qu{m:List Prop}(h:aM (gd b m))(hb:b=true):aM m:=by
 cases m with
 | nil=>exact True.intro
 | cons p l=>exact h.1 hb
theorem M2{a b:Int}(h:Builtin.Int.intBits a<=2 ^ 22)(g:Builtin.Int.intBits b<=2 ^ 22):IntMulOk a b:=by
 have h':Builtin.Int.intTooBig (Builtin.Int.intBits a+Builtin.Int.intBits b)=false:=by
  unfold Builtin.Int.intTooBig bitsLine;exact Vh (by omega)
 unfold IntMulOk;rw[h'];simp
theorem uJ{a b:Int}(h:bL a b):IntMulOk a b:=by
 rcases h with h|h|⟨h,g⟩|⟨h,g⟩
 ·exact .of_left (nK h)
 ·exact .of_right (nK h)
 ·exact IntMulOk.of_bits (Vl (nK h) (by decide)) (Vl (nK g) (by decide))
 ·exact M2 h g
theorem F2:du X (binaryOp .Mult) (rI (fun i j=>bL i j) fun i j=>.int (i*j)):=wS fun _ _ _ _ _ _ _ hc q=>mul_int q (uJ hc)
theorem CH:du X (binaryOp .FloorDiv) (rI (fun _ j=>j≠0/\j.natAbs<dn) fun i j=>.int (i.fdiv j)):=wS fun i j _ _ _ _ _ hc q=>floordiv_int hc.1 q (.inl (PyProof.noPylong_of_log2 (by
 rcases We j.natAbs with h1|hp
 ·exact absurd (by simpa using h1) hc.1
 ·exact(Nat.log2_lt (VP hp)).mpr hc.2)))
mutual
theorem dN{pins:List (Addr×Obj)}{σ:L2.St}{H:Hp}{s:Shared}(I:aj X pins σ H s){P:bn}:∀{d:D} {v:V} {u:Value},d.py.canLay0=true->ai X.K H P d v->aX v u->∃as,Reads s.heap u d.py as
 | .non,v,u,_,h,r=>by
  rw[ai]at h;subst h;cases (show u=Value.none from r);rw[D.py];exact⟨_,.none⟩
 | .bl b,v,u,_,h,r=>by rw[ai]at h;subst h;cases (show u=Value.bool b from r);rw[D.py];exact⟨_,.bool b⟩
 | .int i,v,u,_,h,r=>by rw[ai]at h;subst h;obtain⟨t,e⟩:=(show ∃t,u=Value.int i t from r);subst e;rw[D.py];exact⟨_,.int i t⟩
 | .str x,v,u,_,h,r=>by rw[ai]at h;subst h;obtain⟨t,e⟩:=(show ∃t,u=Value.str x t from r);subst e;rw[D.py];exact⟨_,.str x t⟩
 | .dct _ _,v,u,c,h,r=>by rw[D.py]at c;simp[PyData.canLay0]at c
 | .typ _,v,u,c,h,r=>by rw[D.py]at c;simp[PyData.canLay0]at c
 | .sn _,v,u,c,h,r=>by rw[D.py]at c;simp[PyData.canLay0]at c
 | .obj _ _ _,v,u,c,h,r=>by rw[D.py]at c;simp[PyData.canLay0]at c
 | .cls _,v,u,c,h,r=>by rw[D.py]at c;simp[PyData.canLay0]at c
 | .xc _ _,v,u,c,h,r=>by rw[D.py]at c;simp[PyData.canLay0]at c
 | .tup l,v,u,c,h,r=>by
  rw[ai]at h
  obtain⟨a,vs,rfl,h,q⟩:=h
  cases (show u=Value.ref a from r)
  obtain⟨its,rv,ht,_⟩:=I.tuple h
  obtain⟨o,e1,e2,n,e3⟩:=ht
  rw[D.py]at c⊢
  obtain⟨as,ra⟩:=md I (by simpa [PyData.canLay0]using c) q rv
  exact⟨as,.tuple e1 e2 e3 (by simpa using ra)⟩
 | .lst l,v,u,c,h,r=>by
  rw[ai]at h
  obtain⟨a,vs,b,rfl,h,_,q⟩:=h
  cases (show u=Value.ref a from r)
  have hs:cn X.K H a vs:=h.sq
  obtain⟨its,rv,ht,_⟩:=I.list hs
  obtain⟨o,n,e1,e2,_,e3⟩:=ht
  rw[D.py]at c⊢
  obtain⟨as,ra⟩:=md I (by simpa [PyData.canLay0]using c) q rv
  exact⟨_,.list e1 e2 e3 (by simpa using ra)⟩
theorem md{pins:List (Addr×Obj)}{σ:L2.St}{H:Hp}{s:Shared}(I:aj X pins σ H s){P:bn}:∀{l:List D} {vs:List V} {us:List Value},PyData.canLayAll0 (eO l)=true->ah X.K H P l vs->aP vs us->∃as,ReadsAll s.heap us (eO l) as
 | [],vs,us,_,h,r=>by rw[ah]at h;subst h;cases r;rw[eO];exact⟨_,.nil⟩
 | d::l,vs,us,c,h,r=>by
  rw[ah]at h
  obtain⟨v,vr,rfl,h1,h2⟩:=h
  cases r with
  | cons r1 r2 =>
   rw[eO,PyData.canLayAll0,Vk]at c
   obtain⟨as,ra⟩:=dN I c.1 h1 r1
   obtain⟨bs,rb⟩:=md I c.2 h2 r2
   rw[eO]
   exact⟨_,.cons ra rb⟩
end
def EZ(X:Cx)(f:Value->Value->Sem Value)(x y z:D)(k j l:Nat):Prop :=
 ∃r:R2,du X f r/\∀ow H0 H2 v u (Q:VK),fB ow H0->aA H0 H2->ai X.K H2 (Kp ow H0 k) x v->ai X.K H2 (Kp ow H0 j) y u->(∀w H',aA H2 H'->ai X.K H' (Kp ow H0 l) z w->Q w H')->r v u H2 Q
theorem cy{p:Addr}{o:HO}(h:H p=none):aA H (aH H p o):=fun b x e=>by rw[ay (aZ e h)];exact e
theorem fj:bO<=sizeLine:=by rw[WG];decide
theorem ml:bO<sizeLine:=by rw[WG];decide
theorem nJ{f:Value->Value->Sem Value}{a b:Int}{g:Int->Int->Int}{C:Int->Int->Prop}(h:du X f (rI C fun i j=>.int (g i j)))(hc:C a b):EZ X f (.int a) (.int b) (.int (g a b)) k j 0 :=
 ⟨_,h,fun ow H0 H2 v u Q o s rx ry q=>by
  rw[ai]at rx ry;subst rx ry
  exact⟨a,b,rfl,rfl,hc,q _ _ (aA.refl _) (by rw[ai])⟩⟩
theorem uC{f:Value->Value->Sem Value}{a b:Int}{g:Int->Int->Int}(h:du X f (ly fun i j=>.int (g i j))):EZ X f (.int a) (.int b) (.int (g a b)) k j 0 :=
 ⟨_,h,fun ow H0 H2 v u Q o s rx ry q=>by
  rw[ai]at rx ry;subst rx ry
  exact⟨a,b,rfl,rfl,q _ _ (aA.refl _) (by rw[ai])⟩⟩
theorem lz:∀{a b:List D},ar (a++b)=(ar a&&ar b)
 | [],b=>by simp[ar]
 | x::a,b=>by rw[List.cons_append,ar,ar,lz,Bool.and_assoc]
theorem Hg{op:Operator}{a b:Int}{l:Nat}(h:Du op a b=.ok (z,l) o)(hp:aM o):EZ X (binaryOp op) (.int a) (.int b) z k j l:=by
 unfold Du at h
 split at h
 ·cases h;exact uC Jp
 ·cases h;exact uC Jm
 ·cases h;exact nJ F2 hp.1
 ·cases h;exact nJ CH hp.1
 ·cases h;exact nJ F3 hp.1
 ·cases h
  have c:yt a b:=hp.1
  exact nJ Jn ⟨c.1,by have:=c.2.1;omega,c.2.2⟩
 ·cases h
theorem C4{op:Operator}(h:Ez op=true):op=.Add:=by cases op<;>first|rfl|cases h
theorem wR:du X (binaryOp .Add) (fun x y H Q => ∃l b xs zs,x=.ref l/\y=.ref b/\cn X.K H l xs/\cn X.K H b zs/\xs.length+zs.length<=sizeLine/\∀p,H p=none->Q (.ref p) (aH H p (.lst (xs++zs)))):=by
 intro pins s σ H x y v u Q I rx ry h
 obtain⟨l,b,xs,zs,rfl,rfl,hH,hB,hz,q⟩:=h
 cases rx
 cases ry
 obtain⟨its,r,⟨⟨cls,dd,data,sl⟩,n,ho,hc,_,hd⟩,z⟩:=I.list hH
 obtain⟨its2,r2,⟨⟨cls2,dd2,data2,sl2⟩,n2,ho2,hc2,_,hd2⟩,z2⟩:=I.list hB
 simp only at hc hd hc2 hd2
 subst hc hd hc2 hd2
 have l1:=r.length
 have l2:=r2.length
 refine concat_meets ⟨_,ho,rfl⟩ ⟨_,ho2,rfl⟩ noFill_list_add seq_list_add PySem.F.slot_list_add PySem.F.entry_list_add (PySem.F.args_list_add_2 _ _) (list_addW l b its.toArray its2.toArray n n2 dd dd2 sl sl2 (by rw[Vo,Vo];omega)) ⟨ho,ho2,?_⟩
 have ea:its.toArray++its2.toArray=(its++its2).toArray:=by simp
 rw[ea]
 exact⟨.ref _,_,I.lnew (t':=s.toks) (r.append r2) (by rw[Vw];omega),rfl,q _ I.fresh⟩
theorem Lq{op:Operator}{x:D}{l:Nat}(h:rV op x y k j=.ok (z,l) o)(hp:aM o):EZ X (binaryOp op) x y z k j l:=by
 unfold rV at h
 split at h
 ·exact Hg h hp
 ·rename_i a b
  split at h
  ·rename_i c;cases h
   cases C4 c
   refine⟨_,wR,fun ow H0 H2 v u Q o s rx ry q=>?_⟩
   rw[ai]at rx ry
   obtain⟨pa,va,b1,rfl,ha,qa,ra⟩:=rx
   obtain⟨pb,vb,b2,rfl,hb,qb,rb⟩:=ry
   have la:=ra.length
   have lb:=rb.length
   have fl:=hp.1
   rw[lz,Vk]at fl
   refine⟨pa,pb,va,vb,rfl,rfl,ha.sq,hb.sq,by rw[<- la,<- lb];exact Vl hp.2.1 fj,fun p hp'=>?_⟩
   have sm:=cy (o:=HO.lst (va++vb)) hp'
   refine q _ _ sm ?_
   rw[ai]
   exact⟨p,_,true,rfl,aF,⟨rfl,s.free hp'⟩,((ra.flat _ fl.1).same sm).append ((rb.flat _ fl.2).same sm)⟩
  ·cases h
 ·cases h
theorem CS{pins:List (Addr×Obj)}{σ:L2.St}{s:Shared}(h:ai X.K H P (.lst l) v):∃a vs,v=.ref a/\cn X.K H a vs/\ah X.K H P l vs:=by
 rw[ai]at h
 obtain⟨a,vs,b,rfl,h,_,q⟩:=h
 exact⟨a,vs,rfl,h.sq,q⟩
theorem sE:∀{l:List D} {ns:List Int},dg l=some ns->l=ns.map D.int
 | [],ns,h=>by rw[dg]at h;cases h;rfl
 | .int i::l,ns,h=>by
  rw[dg]at h
  cases e:dg l with
  | none=>rw[e]at h;cases h
  | some m=>rw[e]at h;cases h;rw[sE e];rfl
 | .non::l,ns,h=>by rw[dg]at h<;>first|cases h|(intro z;intro e;cases e)
 | .bl _::l,ns,h=>by rw[dg]at h<;>first|cases h|(intro z;intro e;cases e)
 | .str _::l,ns,h=>by rw[dg]at h<;>first|cases h|(intro z;intro e;cases e)
 | .dct _ _::l,ns,h=>by rw[dg]at h<;>first|cases h|(intro z;intro e;cases e)
 | .typ _::l,ns,h=>by cases h
 | .sn _::l,ns,h=>by cases h
 | .obj _ _ _::l,ns,h=>by cases h
 | .cls _::l,ns,h=>by cases h
 | .xc _ _::l,ns,h=>by cases h
 | .tup _::l,ns,h=>by rw[dg]at h<;>first|cases h|(intro z;intro e;cases e)
 | .lst _::l,ns,h=>by rw[dg]at h<;>first|cases h|(intro z;intro e;cases e)
theorem qI:∀{l:List D} {ns:List Bool},cY l=some ns->l=ns.map D.bl
 | [],ns,h=>by rw[cY]at h;cases h;rfl
 | .bl i::l,ns,h=>by
  rw[cY]at h
  cases e:cY l with
  | none=>rw[e]at h;cases h
  | some m=>rw[e]at h;cases h;rw[qI e];rfl
 | .non::l,ns,h=>by rw[cY]at h<;>first|cases h|(intro z;intro e;cases e)
 | .int _::l,ns,h=>by rw[cY]at h<;>first|cases h|(intro z;intro e;cases e)
 | .str _::l,ns,h=>by rw[cY]at h<;>first|cases h|(intro z;intro e;cases e)
 | .dct _ _::l,ns,h=>by rw[cY]at h<;>first|cases h|(intro z;intro e;cases e)
 | .typ _::l,ns,h=>by cases h
 | .sn _::l,ns,h=>by cases h
 | .obj _ _ _::l,ns,h=>by cases h
 | .cls _::l,ns,h=>by cases h
 | .xc _ _::l,ns,h=>by cases h
 | .tup _::l,ns,h=>by rw[cY]at h<;>first|cases h|(intro z;intro e;cases e)
 | .lst _::l,ns,h=>by rw[cY]at h<;>first|cases h|(intro z;intro e;cases e)
def jM(X:Cx)(op:CmpOp)(x y:D)(r:Bool):Prop:=∀(P P':bn),du X (compareOp op) (fun v u H Q=>ai X.K H P x v/\ai X.K H P' y u/\Q (.bl r) H)
theorem mO{x:D}:∀{l:List D},((eO l).any fun y=>PyData.eqv y x.py)=l.any fun y=>cU y x
 | []=>by rw[eO];rfl
 | y::l=>by rw[eO,Xh,Xh,mO];rfl
theorem nZ{a b:Int}{g:Int->Int->Bool}(h:du X (compareOp op) (ly fun i j=>.bl (g i j))):jM X op (.int a) (.int b) (g a b):=fun P P' pins s σ H v u xv yu Q I rx ry ⟨h1,h2,q⟩=>by
 rw[ai]at h1 h2;subst h1 h2
 exact h pins s σ H _ _ xv yu Q I rx ry ⟨a,b,rfl,rfl,q⟩
theorem Gh(h:SeqAt.shaped (D.tup l).py=true):PyData.canLayAll0 (eO l)=true:=by
 have:=Wj h
 rw[D.py]at this
 simpa [PyData.canLay0]using this
theorem xb{x:D}(hu:X.A.units+70<cLine)(h:yG x l=.ok r o)(hp:aM o):jM X .In x (.tup l) r/\jM X .In x (.lst l) r/\jM X .NotIn x (.tup l) (!r)/\jM X .NotIn x (.lst l) (!r):=by
 unfold yG at h
 cases h
 ·have c:=hp.1
  unfold gH at c
  rw[Vk]at c
  have c1:=Gh c.1
  have c2:=Wj c.2
  have dx:=SeqAt.depth_of_shaped c.2
  have hm:min (PyData.depthAll (eO l)) x.py.depth<=64:=Vl (Nat.min_le_right _ _) dx
  have ct:(D.tup l).py.canLay0=true:=Wj c.1
  have cl:(D.lst l).py.canLay0=true:=by rw[D.py];simpa [PyData.canLay0]using c1
  have et:(D.tup l).py=.tuple (eO l):=by rw[D.py]
  have el:(D.lst l).py=.list (eO l):=by rw[D.py]
  refine⟨?_,?_,?_,?_⟩<;>intro P P' pins s σ H v u xv yu Q I rx ry ⟨h1,h2,q⟩<;>obtain⟨as,r1⟩:=dN I c2 h1 rx
  ·obtain⟨bs,r2⟩:=dN I ct h2 ry
   rw[et]at r2
   exact SeqAt.in_tuple_reads r2 r1 c1 c2 (by omega) ⟨.bl _,H,I,rfl,by rw[mO];exact q⟩
  ·obtain⟨bs,r2⟩:=dN I cl h2 ry
   rw[el]at r2
   exact SeqAt.in_list_reads r2 r1 c1 c2 (by omega) ⟨.bl _,H,I,rfl,by rw[mO];exact q⟩
  ·obtain⟨bs,r2⟩:=dN I ct h2 ry
   rw[et]at r2
   exact SeqAt.notIn_tuple_reads r2 r1 c1 c2 (by omega) ⟨.bl _,H,I,rfl,by rw[mO];exact q⟩
  ·obtain⟨bs,r2⟩:=dN I cl h2 ry
   rw[el]at r2
   exact SeqAt.notIn_list_reads r2 r1 c1 c2 (by omega) ⟨.bl _,H,I,rfl,by rw[mO];exact q⟩
theorem Jv{r:Rs Bool}(h:r.nt=.ok b o):r=.ok (!b) o:=by
 cases r with
 | st=>cases h
 | ok c l=>cases h;simp
theorem wX{x:D}(h:ai X.K H P x v):decide (v=.non)=x.isNon:=by
 cases x with
 | non=>rw[ai]at h;subst h;rfl
 | bl _=>rw[ai]at h;subst h;rfl
 | int _=>rw[ai]at h;subst h;rfl
 | str _=>rw[ai]at h;subst h;rfl
 | dct _ _=>rw[ai]at h;obtain⟨_,_,a,_,rfl,_⟩:=h;rfl
 | typ _=>rw[ai]at h;subst h;rfl
 | sn _=>rw[ai]at h;obtain⟨a,_,rfl,_⟩:=h;rfl
 | obj _ _ _=>rw[ai]at h;obtain⟨_,_,a,_,_,_,rfl,_⟩:=h;rfl
 | cls _=>rw[ai]at h;obtain⟨_,_,rfl,_⟩:=h;rfl
 | xc _ _=>rw[ai]at h;obtain⟨_,rfl⟩:=h.ref;rfl
 | tup _=>rw[ai]at h;obtain⟨a,_,rfl,_⟩:=h;rfl
 | lst _=>rw[ai]at h;obtain⟨a,_,_,rfl,_⟩:=h;rfl
theorem fL(h:fv d=some l):d=.tup l\/d=.lst l:=by
 unfold fv at h
 split at h
 ·cases h;exact .inl rfl
 ·cases h;exact .inr rfl
 ·cases h
theorem Ha{a b:Int}(h:gK op a b=some r):jM X op (.int a) (.int b) r:=by
 unfold gK at h
 split at h
 ·cases h;exact nZ MT
 ·cases h;exact nZ MU
 ·cases h;exact nZ MV
 ·cases h;exact nZ MW
 ·cases h
theorem Jl{x:D}(hu:X.A.units+70<cLine)(h:yz op x y=some r):jM X op x y r:=by
 unfold yz at h
 split at h
 ·exact Ha h
 ·cases h
theorem o8{k:ci}(e:o9 d=some k)(h:ai X.K H P d v):v=kV k:=by
 cases d<;>first|(cases e;done)|(rw[ai]at h;subst h;injection e with e;subst e;rfl)
theorem wp{k:ci}:∀{vs:List V},ks.length=vs.length->((ks.zip vs).any fun p=>decide (p.1=k))=fN ks k:=by
 induction ks with
 | nil=>intro vs _;rfl
 | cons j ks ih =>
  intro vs h
  cases vs with
  | nil=>cases h
  | cons v vs =>
   show(decide (j=k) || (ks.zip vs).any _)=(decide (j=k) || fN ks k)
   rw[ih (by simpa using h)]
theorem EA{x:D}(hu:X.A.units+70<cLine)(h:EB x y=.ok r o)(hp:aM o):jM X .In x y r/\jM X .NotIn x y (!r):=by
 unfold EB at h
 split at h
 ·have m:=xb hu h hp;exact⟨m.1,m.2.2.1⟩
 ·have m:=xb hu h hp;exact⟨m.2.1,m.2.2.2⟩
 ·rename_i ks ds
  split at h
  ·rename_i k e
   cases h
   have key:∀{P P':bn} {pins:List (Addr×Obj)} {s:Shared} {σ:L2.St} {H:Hp} {v u:V} {xv yu:Value},aj X pins σ H s->aX v xv->aX u yu->ai X.K H P x v->ai X.K H P' (.dct ks ds) u->∃a vs,yu=.ref a/\(gE X.prog X.w).is k xv=true/\(a==sysModules)=false/\s.heap.DictOf (gE X.prog X.w) a vs/\(valueAt vs k).isSome=fN ks k:=fun {P P' pins s σ H v u xv yu} I rx ry h1 h2=>by
    have hk:=o8 e h1
    subst hk
    rw[ai]at h2
    obtain⟨_,e0,a,vs,rfl,ha,_,rl⟩:=h2
    obtain⟨z,hd,ws,rel,dd⟩:=(show bD X.prog X.w H s.heap a (.dK (ks.zip vs))from I.hok a _ ha)
    refine⟨a,ws,ry,yO rx,hd,dd,?_⟩
    rw[<- (rel.val k).isSome_eq,<- tS,wp (e0.trans rl.length)]
   refine⟨?_,?_⟩<;>intro P P' pins s σ H v u xv yu Q I rx ry ⟨h1,h2,q⟩<;>obtain⟨a,vs,rfl,kk,hd,dd,ev⟩:=key I rx ry h1 h2
   ·refine wpAny_in_of kk hd dd.mapOf ?_
    rw[ev]
    exact⟨.bl _,H,I.tok _,rfl,q⟩
   ·refine wpAny_notIn_of kk hd dd.mapOf ?_
    rw[ev]
    exact⟨.bl _,H,I.tok _,rfl,q⟩
  ·cases h
 ·rename_i b
  split at h
  ·rename_i a
   cases h
   refine⟨?_,?_⟩<;>intro P P' pins s σ H v u xv yu Q I rx ry ⟨h1,h2,q⟩<;>(rw[ai]at h1 h2;subst h1 h2;obtain⟨t,rfl⟩:=rx;obtain⟨t',rfl⟩:=ry)
   ·exact SB.contains ⟨.bl _,H,I,rfl,q⟩
   ·exact SB.notContains ⟨.bl _,H,I,rfl,q⟩
  ·cases h
 ·cases h
theorem j7{x:D}(hu:X.A.units+70<cLine)(h:iu op x y=.ok r o)(hp:aM o):jM X op x y r:=by
 unfold iu at h
 split at h
 ·cases h
  have c:=hp.1
  unfold gH at c
  rw[Vk]at c
  intro P P' pins s σ H v u xv yu Q I rx ry ⟨h1,h2,q⟩
  obtain⟨as,r1⟩:=dN I (Wj c.1) h1 rx
  obtain⟨bs,r2⟩:=dN I (Wj c.2) h2 ry
  exact eq_dataH r1 r2 c.1 c.2 (by omega) ⟨.bl _,H,I,rfl,q⟩
 ·cases h
  have c:=hp.1
  unfold gH at c
  rw[Vk]at c
  intro P P' pins s σ H v u xv yu Q I rx ry ⟨h1,h2,q⟩
  obtain⟨as,r1⟩:=dN I (Wj c.1) h1 rx
  obtain⟨bs,r2⟩:=dN I (Wj c.2) h2 ry
  exact ne_dataH r1 r2 c.1 c.2 (by omega) ⟨.bl _,H,I,rfl,q⟩
 ·exact(EA hu h hp).1
 ·have:=(EA hu (Jv h) hp).2;rw[Bool.not_not]at this;exact this
 ·split at h
  ·cases h
   intro P P' pins s σ H v u xv yu Q I rx ry ⟨h1,h2,q⟩
   rw[ai]at h2
   subst h2
   exact Jo pins s σ H v _ xv yu Q I rx ry ⟨rfl,by rw[wX h1];exact q⟩
  ·cases h
 ·split at h
  ·cases h
   intro P P' pins s σ H v u xv yu Q I rx ry ⟨h1,h2,q⟩
   rw[ai]at h2
   subst h2
   refine F1 pins s σ H v _ xv yu Q I rx ry ⟨rfl,?_⟩
   rw[wX h1]
   exact q
  ·cases h
 ·cases e:yz op x y with
  | none=>rw[e]at h;cases h
  | some b=>rw[e]at h;cases h;exact Jl hu e
variable{X:Cx}
theorem xk(K:W.Frag){t:Value}:W.kitOne K t t=some true:=by unfold W.kitOne;rw[if_pos (beq_self_eq_true t)]
def D.ty:D->String
 | .non => "NoneType"
 | .bl _ => "bool"
 | .int _ => "int"
 | .str _ => "str"
 | .dct _ _ => "dict"
 | .tup _ => "tuple"
 | .lst _ => "list"
 | .typ _ => "type"
 | .sn _ => "set"
 | .obj _ _ _ => "object"
 | .cls _ => "type"
 | .xc _ _ => "type"
def D.plain:D->Bool
 | .typ _=>false
 | .sn _=>false
 | .obj _ _ _=>false
 | .cls _=>false
 | .xc _ _=>false
 | _=>true
theorem JQ{x:D}{c:String}(hpl:x.plain=true)(e:∀K,W.kitOne K (.type x.ty) (.type c)=some b){u:Value}
  (I:aj X pins σ H s) (h:ai X.K H P x v) (r:aX v u) (q:∀tk,Q (.bool b) { s with toks:=tk }):wpAny (model X.prog X.w) X.A (call (.builtin "isinstance") [u,.type c]) Q E s:=by
 have e:=e X.K
 cases x with
 | non=>rw[ai]at h;subst h;cases (show u=Value.none from r);exact V5 W.kitx_none I.kIn True.intro e (fun z=>nomatch z) q
 | bl y=>rw[ai]at h;subst h;cases (show u=Value.bool y from r);exact V5 W.kitx_bool I.kIn True.intro e (fun z=>nomatch z) q
 | int i=>rw[ai]at h;subst h;obtain⟨t,z⟩:=(show ∃t,u=Value.int i t from r);cases z;exact V5 W.kitx_int I.kIn True.intro e (fun z=>nomatch z) q
 | str y=>rw[ai]at h;subst h;obtain⟨t,z⟩:=(show ∃t,u=Value.str y t from r);cases z;exact V5 W.kitx_str I.kIn True.intro e (fun z=>nomatch z) q
 | dct ks ds =>
  rw[ai]at h
  obtain⟨_,_,a,vs,rfl,ea,_⟩:=h
  cases (show u=Value.ref a from r)
  obtain⟨_,_,vs,_,p⟩:=(show bD X.prog X.w H s.heap a (.dK _)from I.hok a _ ea)
  obtain⟨o,es,ep,h1,h2,_⟩:=p
  exact V5 W.kitx_dict I.kIn ⟨o,h1,h2.1⟩ e (fun z=>nomatch z) q
 | typ _=>cases hpl
 | sn _=>cases hpl
 | obj _ _ _=>cases hpl
 | cls _=>cases hpl
 | xc _ _=>cases hpl
 | tup l =>
  rw[ai]at h
  obtain⟨a,vs,rfl,ea,_⟩:=h
  cases (show u=Value.ref a from r)
  obtain⟨_,_,⟨o,h1,h2,_⟩,_⟩:=I.tuple ea
  exact V5 W.kitx_tuple I.kIn ⟨o,h1,h2⟩ e (fun z=>nomatch z) q
 | lst l =>
  obtain⟨a,vs,rfl,ea,_⟩:=CS (pins:=pins) (σ:=σ) (s:=s) h
  cases (show u=Value.ref a from r)
  obtain⟨_,_,⟨o,n,h1,h2,_⟩,_⟩:=I.list ea
  exact V5 W.kitx_list I.kIn ⟨o,h1,h2⟩ e (fun z=>nomatch z) q
theorem kt(K:W.Frag)(a b:String)(r:Bool)(h:(a==b)=false)(h2:W.kitCls K (.type a) (.type b)=some r):W.kitOne K (.type a) (.type b)=some r:=by
 unfold W.kitOne
 rw[if_neg (by
  intro z
  have:a=b:=by simpa using z
  subst this
  simp at h)]
 exact h2
theorem Gk:∀a∈["NoneType", "bool", "int", "str", "dict", "tuple", "list"],∀T∈nu,(a==T)=false->∀K,W.kitCls K (.type a) (.type T)=some (decide (a = "bool" /\ T = "int")):=by
 intro a ha T hT
 simp only[Ve,VF,Ws,nu]at ha hT
 rcases ha with rfl|rfl|rfl|rfl|rfl|rfl|rfl<;>rcases hT with rfl|rfl|rfl|rfl|rfl|rfl<;>intro h K<;>first|(exact absurd h (by decide))|kernel_rfl
theorem JR{x:D}(h:JS x T=some b)(hT:T∈nu):x.plain=true/\∀K,W.kitOne K (.type x.ty) (.type T)=some b:=by
 have key:∀(a:String),a∈["NoneType", "bool", "int", "str", "dict", "tuple", "list"]->∀K,W.kitOne K (.type a) (.type T)=some (decide (a=T) || decide (a = "bool" /\ T = "int")):=fun a ha K=>by
  by_cases e:a=T
  ·subst e;rw[xk];simp
  ·have e':(a==T)=false:=by simpa using e
   rw[kt K a T _ e' (Gk a ha T hT e' K)];simp[e]
 unfold JS at h
 cases hx:x.ty0 with
 | none=>rw[hx]at h;cases h
 | some a =>
  rw[hx]at h
  cases h
  have hp:x.plain=true/\x.ty=a/\a∈["NoneType", "bool", "int", "str", "dict", "tuple", "list"]:=by
   cases x<;>cases hx<;>exact⟨rfl,rfl,by decide⟩
  refine⟨hp.1,fun K=>?_⟩
  rw[hp.2.1]
  exact key a hp.2.2 K
def iK(X:Cx)(f:Value)(ds:List D)(z:D)(l:Nat):Prop :=
 ∃r:List V->Hp->VK->Prop,eL X f r/\∀ow H0 H2 vs (P:bn) (Q:VK),fB ow H0->aA H0 H2->ah X.K H2 P ds vs->(∀w H',aA H2 H'->ai X.K H' (Kp ow H0 l) z w->Q w H')->r vs H2 Q
theorem ah.only(h:ah K H P [d] vs):∃v,vs=[v]/\ai K H P d v:=by
 rw[ah]at h
 obtain⟨v,r,rfl,h1,h2⟩:=h
 rw[ah]at h2;subst h2
 exact⟨v,rfl,h1⟩
theorem iB(h:ai X.K H P (.lst l) v):∃a vs,v=.ref a/\cn X.K H a vs/\ah X.K H P l vs:=by
 rw[ai]at h
 obtain⟨a,vs,b,rfl,h,_,q⟩:=h
 exact⟨a,vs,rfl,h.sq,q⟩
theorem eN(h:ai X.K H P (.tup l) v):∃a vs,v=.ref a/\cD X.K H a vs/\ah X.K H P l vs:=by
 rw[ai]at h;exact h
theorem AV:iK X (.builtin "len") [.tup l] (.int l.length) 0/\iK X (.builtin "len") [.lst l] (.int l.length) 0:=by
 constructor
 ·refine⟨_,mL,fun ow H0 H2 vs P Q o s rx q=>?_⟩
  obtain⟨v,rfl,ry⟩:=rx.only
  obtain⟨a,ws,rfl,hs,rl⟩:=eN ry
  exact⟨a,ws,rfl,.inr hs,by rw[<- rl.length];exact q _ _ (aA.refl _) (by rw[ai])⟩
 ·refine⟨_,mL,fun ow H0 H2 vs P Q o s rx q=>?_⟩
  obtain⟨v,rfl,ry⟩:=rx.only
  obtain⟨a,ws,rfl,hs,rl⟩:=iB ry
  exact⟨a,ws,rfl,.inl hs,by rw[<- rl.length];exact q _ _ (aA.refl _) (by rw[ai])⟩
theorem tU(f:ar l=true):iK X (.type "tuple") [.lst l] (.tup l) 0/\iK X (.type "tuple") [.tup l] (.tup l) 0:=by
 constructor
 ·refine⟨_,lB,fun ow H0 H2 vs P Q o s rx q=>?_⟩
  obtain⟨v,rfl,ry⟩:=rx.only
  obtain⟨a,ws,rfl,hs,rl⟩:=iB ry
  refine⟨a,ws,rfl,.inl ⟨hs,fun p hp=>?_⟩⟩
  have sm:=cy (o:=HO.tup ws) hp
  refine q _ _ sm ?_
  rw[ai]
  exact⟨p,ws,rfl,cD.of aF,(rl.flat _ f).same sm⟩
 ·refine⟨_,lB,fun ow H0 H2 vs P Q o s rx q=>?_⟩
  obtain⟨v,rfl,ry⟩:=rx.only
  obtain⟨a,ws,rfl,hs,rl⟩:=eN ry
  refine⟨a,ws,rfl,.inr ⟨hs,q _ _ (aA.refl _) ?_⟩⟩
  rw[ai]
  exact⟨a,ws,rfl,hs,rl.flat _ f⟩
theorem xj(f:ar l=true):iK X (.type "list") [.lst l] (.lst l) 0/\iK X (.type "list") [.tup l] (.lst l) 0:=by
 constructor
 ·refine⟨_,mK,fun ow H0 H2 vs P Q o s rx q=>?_⟩
  obtain⟨v,rfl,ry⟩:=rx.only
  obtain⟨a,ws,rfl,hs,rl⟩:=iB ry
  refine⟨a,ws,rfl,.inl hs,fun p hp=>?_⟩
  have sm:=cy (o:=HO.lst ws) hp
  refine q _ _ sm ?_
  rw[ai]
  exact⟨p,ws,true,rfl,aF,⟨rfl,s.free hp⟩,(rl.flat _ f).same sm⟩
 ·refine⟨_,mK,fun ow H0 H2 vs P Q o s rx q=>?_⟩
  obtain⟨v,rfl,ry⟩:=rx.only
  obtain⟨a,ws,rfl,hs,rl⟩:=eN ry
  refine⟨a,ws,rfl,.inr hs,fun p hp=>?_⟩
  have sm:=cy (o:=HO.lst ws) hp
  refine q _ _ sm ?_
  rw[ai]
  exact⟨p,ws,true,rfl,aF,⟨rfl,s.free hp⟩,(rl.flat _ f).same sm⟩
theorem Lz{i:Int}:iK X (.builtin "abs") [.int i] (.int (if i<0 then -i else i)) 0:=by
 refine⟨_,Dt,fun ow H0 H2 vs P Q o s rx q=>?_⟩
 obtain⟨v,rfl,ry⟩:=rx.only
 rw[ai]at ry;subst ry
 exact⟨i,rfl,q _ _ (aA.refl _) (by rw[ai])⟩
theorem ah.mapBl{K:W.Frag}{P:bn}{H:Hp}:∀{ns:List Bool} {vs:List V},ah K H P (ns.map D.bl) vs->vs=ns.map V.bl
 | [],vs,h=>by rw[Xp,ah]at h;exact h
 | n::ns,vs,h=>by
  rw[Vx,ah]at h
  obtain⟨v,r,rfl,h1,h2⟩:=h
  rw[ai]at h1
  rw[h1,ah.mapBl h2];rfl
theorem wt:∀{bs:List Bool} {us:List Value},aP (bs.map V.bl) us->us=bs.map Value.bool
 | [],us,h=>by cases h;rfl
 | b::bs,us,h=>by
  cases h with
  | cons h1 h2=>rw[show _=Value.bool b from h1,wt h2];rfl
theorem tR:∀{ns:List Int} {us:List Value},aP (ns.map V.int) us->(∀v,v∈us->∃a t,v=Value.int a t)/\numsOf us=ns
 | [],us,h=>by cases h;exact⟨fun _ h=>(by cases h),rfl⟩
 | n::ns,us,h=>by
  cases h with
  | cons h1 h2 =>
   obtain⟨t,rfl⟩:=(show ∃t,_=Value.int n t from h1)
   obtain⟨i1,i2⟩:=tR h2
   refine⟨fun v hv=>?_,by simp only[numsOf];rw[i2]⟩
   rcases Ve.mp hv with rfl|hv
   ·exact⟨_,_,rfl⟩
   ·exact i1 v hv
theorem Bz(hc:X.calm=true):eL X (.builtin "sum") (fun xs H Q => ∃(p:Addr) (ns:List Int),xs=[.ref p]/\cn X.K H p (ns.map V.int)/\Q (.int ns.sum) H):=by
 intro pins s σ H xs us Q I r h
 obtain⟨p,ns,rfl,hq,q⟩:=h
 obtain⟨u,rfl,rx⟩:=ee r
 cases rx
 obtain⟨its,rv,pl,hz⟩:=I.list hq
 obtain⟨hall,hnum⟩:=tR rv
 obtain⟨xs,e⟩:=AllInts.items (vs:=its.toArray) (fun v hv=>hall v (by simpa using hv))
 have hl:=pl.isList
 rw[e]at hl
 refine sum_intListG (I.ok.hd hc) hl fun h' tk t' hk=>?_
 refine⟨.int ns.sum,H,I.kept hk,⟨t',?_⟩,q⟩
 congr 1
 rw[preSum_eq,WA (by simp),<- nums_intItems,<- e]
 simp[hnum]
theorem BB(hc:X.calm=true):eL X (.builtin "all") (fun xs H Q => ∃(p:Addr) (bs:List Bool),xs=[.ref p]/\cn X.K H p (bs.map V.bl)/\Q (.bl (bs.all id)) H):=by
 intro pins s σ H xs us Q I r h
 obtain⟨p,bs,rfl,hq,q⟩:=h
 obtain⟨u,rfl,rx⟩:=ee r
 cases rx
 obtain⟨its,rv,pl,hz⟩:=I.list hq
 have ei:=wt rv
 subst ei
 have hl:=pl.isList
 have hlt:p<s.heap.objs.size:=by obtain⟨_,e,_⟩:=hl;exact Vd e
 refine call_all_walk (Wn hl ?_)
 refine⟨_,_,_,_,_,_,fun i=>bs.getD i true,rfl,Walks.list (A:=X.A.in1) (by exact I.ok.hd hc) _ p (Vv hlt) (bs.map Value.bool).toArray,⟨⟨_,Vg _ rfl,rfl,rfl⟩,hl.push _⟩,?_,fun h' tk hk=>?_⟩
 ·intro i v s' Q' E' hP hQ
  have hP:((bs.map Value.bool).toArray)[i]?=some v:=hP
  simp only[List.getElem?_toArray,V9]at hP
  cases e:bs[i]? with
  | none=>rw[e]at hP;cases hP
  | some b =>
   rw[e]at hP;cases hP
   refine Wl ?_
   have:bs.getD i true=b:=by rw[List.getD_eq_getElem?_getD,e];rfl
   rw[<- this];exact hQ
 ·have:((List.range (bs.map Value.bool).toArray.size).all fun i=>bs.getD i true)=bs.all id:=by
   simp only[Vo,Vi]
   rw[Bool.eq_iff_iff,WD,WD]
   constructor
   ·intro h x hx
    obtain⟨i,hi,rfl⟩:=List.mem_iff_getElem.mp hx
    have:=h i (Xr.mpr hi)
    rw[List.getD_eq_getElem?_getD,VB hi]at this
    exact this
   ·intro h i hi
    have hi:=Xr.mp hi
    rw[List.getD_eq_getElem?_getD,VB hi]
    exact h _ (List.getElem_mem hi)
  rw[this]
  refine⟨.bl _,H,I.kept (fun b o e=>hk b o (fun hm=>?_) (U9 _ e)),rfl,q⟩
  have hb:b=s.heap.objs.size:=by simpa using hm
  subst hb
  exact absurd (Vd e) (VU _)
theorem BA:eL X (.builtin "len") (fun xs H Q => ∃(p:Addr) (S:Int->Bool) (n:Nat),xs=[.ref p]/\H p=some (.set S n)/\Q (.int n) H):=by
 intro pins s σ H xs us Q I r h
 obtain⟨p,S,n,rfl,hp,q⟩:=h
 obtain⟨u,rfl,rx⟩:=ee r
 cases rx
 obtain⟨o,es,ep,t,h1,h2,h3,_,_,h4,h5,rfl⟩:=(show s.heap.SetOf (intKind X.prog X.w) p S n from I.hok p _ hp)
 exact call_len_set h1 h2 h3 h5 (by unfold scanBound at h4;omega) ⟨.int _,H,I.tok _,⟨_,rfl⟩,q⟩
def fy(f:Str)(B:List D->R1):Prop:=f∈jb/\f ≠ "__name__" /\ (f==("__debug__" : Str))=false/\(B []=.st)/\∀(X:Cx) (ds:List D) (z:D) (l:Nat) (o:List Prop),X.calm=true->B ds=.ok (z,l) o->aM o ->
 ((∃id,bootBuiltins f=some (.builtin id)/\iK X (.builtin id) ds z l)\/∃T,bootBuiltins f=some (.type T)/\iK X (.type T) ds z l)
theorem Hi:fy "len" DB:=by
 refine⟨by decide,by decide,by decide,rfl,fun X ds z l o hc h _=>.inl ⟨"len", by decide,?_⟩⟩
 unfold DB at h
 split at h
 ·cases h
  refine⟨_,BA,fun ow H0 H2 vs P Q o s rx q=>?_⟩
  obtain⟨v,rfl,ry⟩:=rx.only
  rw[ai]at ry
  obtain⟨a,S,rfl,ha⟩:=ry
  exact⟨a,S,_,rfl,ha,q _ _ (aA.refl _) (by rw[ai])⟩
 ·split at h
  ·rename_i m e
   cases h
   rcases fL e with rfl|rfl
   ·exact AV.1
   ·exact AV.2
  ·cases h
 ·cases h
theorem BG:fy "tuple" vK:=by
 refine⟨by decide,by decide,by decide,rfl,fun X ds z l o hc h hp=>.inr ⟨"tuple", by decide,?_⟩⟩
 unfold vK at h
 split at h
 ·split at h
  ·rename_i m e
   cases h
   have c:=hp.1
   rcases fL e with rfl|rfl
   ·exact(tU c).2
   ·exact(tU c).1
  ·cases h
 ·cases h
theorem DA:fy "list" zf:=by
 refine⟨by decide,by decide,by decide,rfl,fun X ds z l o hc h hp=>.inr ⟨"list", by decide,?_⟩⟩
 unfold zf at h
 split at h
 ·split at h
  ·rename_i m e
   cases h
   have c:=hp.1
   rcases fL e with rfl|rfl
   ·exact(xj c).2
   ·exact(xj c).1
  ·cases h
 ·cases h
theorem Hn:fy "abs" DF:=by
 refine⟨by decide,by decide,by decide,rfl,fun X ds z l o hc h _=>.inl ⟨"abs", by decide,?_⟩⟩
 unfold DF at h
 split at h
 ·cases h;exact Lz
 ·cases h
theorem Hm:fy "all" rW:=by
 refine⟨by decide,by decide,by decide,rfl,fun X ds z l o hc h _=>.inl ⟨"all", by decide,?_⟩⟩
 unfold rW at h
 split at h
 ·split at h
  ·rename_i bs e
   cases h
   cases qI e
   refine⟨_,BB hc,fun ow H0 H2 vs P Q o s rx q=>?_⟩
   obtain⟨v,rfl,ry⟩:=rx.only
   obtain⟨a,ws,rfl,hs,rl⟩:=iB ry
   exact⟨a,bs,rfl,by rw[<- rl.mapBl];exact hs,q _ _ (aA.refl _) (by rw[ai])⟩
  ·cases h
 ·cases h
theorem Hh:fy "sum" Dz:=by
 refine⟨by decide,by decide,by decide,rfl,fun X ds z l o hc h _=>.inl ⟨"sum", by decide,?_⟩⟩
 unfold Dz at h
 split at h
 ·split at h
  ·rename_i bs e
   cases h
   cases sE e
   refine⟨_,Bz hc,fun ow H0 H2 vs P Q o s rx q=>?_⟩
   obtain⟨v,rfl,ry⟩:=rx.only
   obtain⟨a,ws,rfl,hs,rl⟩:=iB ry
   exact⟨a,bs,rfl,by rw[<- rl.mapInt];exact hs,q _ _ (aA.refl _) (by rw[ai])⟩
  ·cases h
 ·cases h
theorem Gn(b:Bool):(if b=true then(1:Int)else 0)=cond b 1 0:=by cases b<;>rfl
theorem Hl:fy "int" DE:=by
 refine⟨by decide,by decide,by decide,rfl,fun X ds z l o hc h hp=>.inr ⟨"int", by decide,?_⟩⟩
 unfold DE at h
 split at h
 ·cases h
  refine⟨_,sK,fun ow H0 H2 vs P Q o s rx q=>?_⟩
  obtain⟨v,rfl,ry⟩:=rx.only
  rw[ai]at ry;subst ry
  exact .inl ⟨_,rfl,q _ _ (aA.refl _) (by rw[ai])⟩
 ·cases h
  refine⟨_,sK,fun ow H0 H2 vs P Q o s rx q=>?_⟩
  obtain⟨v,rfl,ry⟩:=rx.only
  rw[ai]at ry;subst ry
  exact .inr ⟨_,rfl,q _ _ (aA.refl _) (by rw[ai,Gn])⟩
 ·cases h
theorem Hk:fy "isinstance" DD:=by
 refine⟨by decide,by decide,by decide,rfl,fun X ds z l o hc h _=>.inl ⟨"isinstance", by decide,?_⟩⟩
 unfold DD at h
 split at h
 ·rename_i m ns es n
  split at h
  ·rename_i hmn
   subst hmn
   cases h
   have cr:eL X (.builtin "isinstance") (fun xs H Q => ∃a C dx fs,xs=[.ref a,.ref C]/\H a=some (.ins C dx fs)/\jk X.K C/\tL X.K C/\Q (.bl true) H):=by
    intro pins s σ H xs us Q I r hh
    obtain⟨a,C,dx,fs,rfl,ea,hc,ho,q⟩:=hh
    obtain⟨u,u2,rfl,ru,ru2⟩:=nl r
    cases (show u2=Value.ref C from ru2)
    exact sA I ru (.ins ea hc ho.ha ho.hn ho.ht ho.hm) (xk _) fun tk=>⟨.bl true,H,I.tok tk,rfl,q⟩
   refine⟨_,cr,fun ow H0 H2 vs P Q o s rx q=>?_⟩
   rw[ah]at rx
   obtain⟨v,r,rfl,r1,r2⟩:=rx
   obtain⟨w,rfl,r3⟩:=r2.only
   rw[ai]at r1
   rw[ai]at r3
   obtain⟨_,_,a,C,dx,vs,rfl,h1,h2,h3,_⟩:=r1
   obtain⟨C',o',rfl,h4,_,_,h5,_⟩:=r3
   rw[h1]at h4;cases h4
   exact⟨a,C,dx,_,rfl,h3,h2,h5,q _ _ (aA.refl _) (by rw[ai])⟩
  ·split at h
   ·rename_i hmn
    cases h
    have cr:eL X (.builtin "isinstance") (fun xs H Q => ∃a C C' dx fs,xs=[.ref a,.ref C']/\H a=some (.ins C dx fs)/\jk X.K C/\tL X.K C/\W.kitOne X.K (.ref C) (.ref C')=some (tY m n)/\Q (.bl (tY m n)) H):=by
     intro pins s σ H xs us Q I r hh
     obtain⟨a,C,C',dx,fs,rfl,ea,hc,ho,hk,q⟩:=hh
     obtain⟨u,u2,rfl,ru,ru2⟩:=nl r
     cases (show u2=Value.ref C' from ru2)
     exact sA I ru (.ins ea hc ho.ha ho.hn ho.ht ho.hm) hk fun tk=>⟨.bl (tY m n),H,I.tok tk,rfl,q⟩
    refine⟨_,cr,fun ow H0 H2 vs P Q o s rx q=>?_⟩
    rw[ah]at rx
    obtain⟨v,r,rfl,r1,r2⟩:=rx
    obtain⟨w,rfl,r3⟩:=r2.only
    rw[ai]at r1
    rw[ai]at r3
    obtain⟨_,_,a,C,dx,vs,rfl,h1,h2,h3,_⟩:=r1
    obtain⟨C',o',rfl,_,_,_,_,h5⟩:=r3
    obtain⟨h6,h7⟩:=h5.all m hmn C h1
    exact⟨a,C,C',dx,_,rfl,h3,h2,h6,h7,q _ _ (aA.refl _) (by rw[ai])⟩
   ·cases h
 ·rename_i x T
  split at h
  ·rename_i hT
   split at h
   ·rename_i b hb
    cases h
    obtain⟨h1,h2⟩:=JR hb hT
    have cr:eL X (.builtin "isinstance") (fun xs H Q => ∃v P,xs=[v,.ty T]/\ai X.K H P x v/\Q (.bl b) H):=by
     intro pins s σ H xs us Q I r hh
     obtain⟨v,P,rfl,rp,q⟩:=hh
     obtain⟨u,u2,rfl,ru,ru2⟩:=nl r
     cases (show u2=Value.type T from ru2)
     exact JQ h1 h2 I rp ru fun tk=>⟨.bl b,H,I.tok tk,rfl,q⟩
    refine⟨_,cr,fun ow H0 H2 vs P Q o s rx q=>?_⟩
    rw[ah]at rx
    obtain⟨v,r,rfl,r1,r2⟩:=rx
    obtain⟨w,rfl,r3⟩:=r2.only
    rw[ai]at r3;subst r3
    exact⟨v,P,rfl,r1,q _ _ (aA.refl _) (by rw[ai])⟩
   ·cases h
  ·cases h
 ·cases h
def lv(K:W.Frag)(F:List D->Rs D):Sp:=fun vs H Q _ => ∃ds r l,ah K H (fun _ _=>True) ds vs/\F ds=.ok r l/\aM l/\∀v H',aA H H'->ai K H' (fun a b=>b=true/\H a=none) r v->Q v H'
def Ff(X:Cx)(g:Str)(F:List D->Rs D):Prop:=∃k f fd ps,bT X.prog X.w X.K X.mg X.base dS k f fd ps (lv X.K F)/\bS k X.A/\X.mg g=some (.ref f)/\W.keepIn X.K (.ref f)=true/\cu X.K fd ps []/\(g==("__debug__" : Str))=false
def NU(K:W.Frag)(n:Str)(F:List D->Rs D):Sp:=fun vs H Q _ => ∃x ws C dx ds r l,vs=.ref x::ws/\H x=some (.ins C dx [])/\W.nsIn K mainGlobals n=some (some (.ref C))/\jk K C/\ah K H (fun _ _=>True) ds ws/\F ds=.ok r l/\aM l/\r.lless=true /\
 ∀H',(∀a o,a≠x->H a=some o->H' a=some o)->ai K H' (fun _ _=>True) r (.ref x)->Q .non H'
def LN(X:Cx)(g:Str)(F:List D->Rs D):Prop:=∃k C f fd ps,(∀ds r l,F ds=.ok r l->r.lless=true)/\Mk X.K C f/\bT X.prog X.w X.K X.mg X.base dS k f fd ps (NU X.K g F)/\bS (k+1) X.A/\X.mg g=some (.ref C)/\W.nsIn X.K mainGlobals g=some (some (.ref C))/\jk X.K C/\cu X.K fd ps []/\(g==("__debug__" : Str))=false
def UG(X:Cx)(g:Str)(F:List D->Rs D):Prop:=Ff X g F\/LN X g F
def LO(X:Cx)(n m:Str)(F:List D->Rs D):Prop:=∃k C f fd ps,W.nsIn X.K mainGlobals n=some (some (.ref C))/\jk X.K C/\LP X.K C m f/\bT X.prog X.w X.K X.mg X.base dS k f fd ps (lv X.K F)/\bS k X.A/\cu X.K fd ps []
def lg(f:Str)(B:List D->Nat->R1):Prop:=f∈jb/\∀(X:Cx) (ρ:af) (p pos:Pos) (args:List Expr) (ds:List D) (k:Nat) (d:D) (j:Nat) (l:List D) (tg:Expr) (o:List Prop),X.calm=true->Gl X f->X.mg f=none->AD X ρ args ds k ->
 (∀e∈args,∀x p,e ≠ .Starred x p)->args.length=ds.length->B ds k=.ok (d,j) o->aM o->items d=some l->eh (.Call (.Name f p) args [] pos) tg=true->IE X ρ tg (.Call (.Name f p) args [] pos) l j
def zA(m:Str)(M:D->List D->R1):Prop:=∀(X:Cx) (ρ:af) (a:Expr) (args:List Expr) (ap cp:Pos) (x:D) (k:Nat) (ds:List D) (j:Nat) (z:D) (l:Nat) (o:List Prop),X.calm=true->X.A.units+70<cLine->ED X ρ a x k->AD X ρ args ds j ->
 (∀e∈args,∀x p,e ≠ .Starred x p)->args.length=ds.length->(ap.endLine==cp.line)=true->mM a=true->M x ds=.ok (z,l) o->aM o->ED X ρ (.Call (.Attribute a m ap) args [] cp) z l
def k7(m:Str)(M:List D->List D->Nat->Rs (List D)):Prop:=∀X:Cx,X.calm=true->∃(id:String) (r:V->List V->Hp->VK->Prop),Slot "list" m id/\typeOf (.builtin id)=pure (.type "method_descriptor")/\LL X id r /\
 ∀(ow:Ow) (H0 H:Hp) (l ds l':List D) (j:Nat) (o:List Prop) (a:Addr) (vs ws:List V),M l ds j=.ok l' o->aM o->ds.length<29/\(∀(P:bn) (Q:VK),(∀b c,Kp ow H0 0 b c->P b c)->fB ow H0->aA H0 H->H a=some (.lst vs)->ah X.K H P l vs->ah X.K H (Kp ow H0 j) ds ws ->
  (∀vs' w,ah X.K H P l' vs'->Q w (aH H a (.lst vs')))->r (.ref a) ws H Q)
def UO(X:Cx)(ow:Ow)(ρ:af)(o:Option Int):TO:=fun σ H Q=>aO X ow H σ ρ/\∀H',aA H H'->Q o H'
def OD(X:Cx)(ρ:af)(e:Option Expr)(o:Option Int):Prop:=∀ow,PO X e (UO X ow ρ o)
def tH(F:D->Option Int->Option Int->R1):Prop:=∀(X:Cx) (ρ:af) (a:Expr) (lo hi:Option Expr) (p2 pos:Pos) (x z:D) (l h:Option Int) (k j:Nat) (o:List Prop),ED X ρ a x k->OD X ρ lo l->OD X ρ hi h->F x l h=.ok (z,j) o->aM o->ED X ρ (.Subscript a (.Slice lo hi none p2) pos) z j
structure aS(Φ:Fx)(X:Cx)(sc:Scope):Prop where
 calm:X.calm=true
 nd:X.N.Nodup
 gl:∀x,sc.names.lookup x=some .globalImplicit->Gl X x
 kc:∀x,(sc.names.lookup x=some .cell\/sc.names.lookup x=some .free)->X.env.kindOf x=some .cell\/X.env.kindOf x=some .free
 lc:∀x,sc.names.lookup x=some .local->X.env.scope.names.lookup x=some .local
 cc:∀x,sc.names.lookup x=some .cell->X.env.scope.names.lookup x=some .cell
 fn:∀g F,Φ.fn g=some F->UG X g F
 con:∀x d,Φ.con x=some d->∃v u,X.mg x=some u/\aX v u/\∀H P,ai X.K H P d v
 blt:∀f B,Φ.blt f=some B->fy f B
 itr:∀f B,Φ.itr f=some B->lg f B
 mth:∀m M,Φ.mth m=some M->zA m M
 mtt:∀m M,Φ.mtt m=some M->k7 m M
 slf:tH Φ.slf
 fld:∀n f,Φ.fld n f=true->∀C,W.nsIn X.K mainGlobals n=some (some (.ref C))->qV X.K C f
 omt:∀n m F,Φ.omt n m=some F->LO X n m F
 bl:∀f∈jb,X.mg f=none
 room:X.A.units+70<cLine
 ns:∀x,cT sc x=true->x∈X.N
 ft:∀x,sc.names.lookup x=some .cell->X.fn x=true
variable{X:Cx}
theorem cS(h:fi x=true):(x==("__debug__" : Str))=false/\(x==("__classdict__" : Str))=false:=by
 unfold fi at h
 rw[Vk]at h
 exact⟨VW h.1,VW h.2⟩
theorem xB{o:Bool}(h:ρ x=some (d,o))(hx:fi x=true):ED X ρ (.Name x pos) d (kn d (cond o 2 1)):=by
 refine ED.kn fun ow pins s σ H Q I ⟨E,q⟩=>?_
 obtain⟨i,v,e1,e2,e3,e4⟩:=E.get x d o h
 refine g9 (i:=i) e1 e2 (cS hx).1 (cS hx).2 pins s σ H Q I ⟨v,e3,q v H (aA.refl _) (e4.imp fun a b p=>?_)⟩
 cases o with
 | true=>exact⟨p.1,.inl (by rw[p.2];exact(fun z=>nomatch z))⟩
 | false=>exact p
theorem KB(G:aS Φ X sc)(h:Φ.con x=some d)(hg:sc.names.lookup x=some .globalImplicit)(hx:fi x=true):ED X ρ (.Name x pos) d 0:=by
 obtain⟨v,u,h1,h2,h3⟩:=G.con x d h
 exact fun ow=>bR (FX (G.gl x hg) h1 h2 (cS hx).1) fun σ H Q ⟨E,q⟩=>q v H (aA.refl _) (h3 H _)
theorem Fm(h:yb x=some T):bootBuiltins x=some (.type T)/\x ≠ "__name__" /\ (x==("__debug__" : Str))=false/\x∈jb:=by
 unfold yb at h
 split at h
 ·rename_i e;subst e;cases h;exact⟨by decide,by decide,by decide,by decide⟩
 split at h
 ·rename_i e;subst e;cases h;exact⟨by decide,by decide,by decide,by decide⟩
 split at h
 ·rename_i e;subst e;cases h;exact⟨by decide,by decide,by decide,by decide⟩
 split at h
 ·rename_i e;subst e;cases h;exact⟨by decide,by decide,by decide,by decide⟩
 split at h
 ·rename_i e;subst e;cases h;exact⟨by decide,by decide,by decide,by decide⟩
 split at h
 ·rename_i e;subst e;cases h;exact⟨by decide,by decide,by decide,by decide⟩
 ·cases h
theorem Kv(G:aS Φ X sc)(h:yb x=some T)(hg:sc.names.lookup x=some .globalImplicit):ED X ρ (.Name x pos) (.typ T) 0:=by
 obtain⟨h1,h2,h3,h4⟩:=Fm h
 exact fun ow=>bR (FY (v:=.ty T) (G.gl x hg) (G.bl x h4) h1 rfl h2 h3) fun σ H Q ⟨E,q⟩=>q _ H (aA.refl _) (by rw[ai])
theorem KA{c:Const}(h:EQ c=some d):ED X ρ (.Constant c n pos) d 0:=by
 intro ow
 unfold EQ at h
 split at h
 ·cases h;exact bR Ja fun σ H Q ⟨E,q⟩=>q _ H (aA.refl _) (by rw[ai])
 ·cases h;exact bR MS fun σ H Q ⟨E,q⟩=>q _ H (aA.refl _) (by rw[ai])
 ·cases h;exact bR Jc fun σ H Q ⟨E,q⟩=>q _ H (aA.refl _) (by rw[ai])
 ·cases h;exact bR IY fun σ H Q ⟨E,q⟩=>q _ H (aA.refl _) (by rw[ai])
 ·cases h
theorem KE{b:Expr}{op:Operator}{x:D}{l:Nat}(ha:ED X ρ a x k)(hb:ED X ρ b y j)(h:rV op x y k j=.ok (z,l) o)(hp:aM o):ED X ρ (.BinOp a op b pos) z l:=by
 obtain⟨r,h1,h2⟩:=Lq (X:=X) h hp
 refine fun ow=>bR (El h1 (ha ow) (hb ow)) fun σ H Q ⟨E,q⟩=>⟨E,fun v H1 s1 r1=>⟨E.same s1,fun u H2 s2 r2=>?_⟩⟩
 exact h2 ow H H2 v u Q E.own (s1.trans s2) (r1.same s2) (r2.imp (Kp.back s1 j)) fun w H' s3 r3=>q w H' ((s1.trans s2).trans s3) r3
theorem Nw{op:UnaryOp}{x:D}(ha:ED X ρ a x k)(h:zV op x=some z):ED X ρ (.UnaryOp op a pos) z 0:=by
 unfold zV at h
 split at h
 ·cases h
  refine fun ow=>bR (MR HE (ha ow)) fun σ H Q ⟨E,q⟩=>⟨E,fun v H1 s1 r1=>?_⟩
  rw[ai]at r1;subst r1
  exact⟨_,rfl,q _ H1 s1 (by rw[ai])⟩
 ·cases h
  refine fun ow=>bR (I0 (ha ow)) fun σ H Q ⟨E,q⟩=>⟨E,fun v H1 s1 r1=>?_⟩
  rw[ai]at r1;subst r1
  exact⟨_,rfl,q _ H1 s1 (by rw[ai])⟩
 ·cases h
theorem KC{b:Expr}{x:D}(hu:X.A.units+70<cLine)(ha:ED X ρ a x k)(hb:ED X ρ b y j)(h:iu op x y=.ok r o)(hp:aM o)(hm:behindInMarks op b=false):ED X ρ (.Compare a [op] [b] pos) (.bl r) 0:=by
 have c:=j7 hu h hp
 intro ow pins s σ H Q I ⟨E,q⟩
 refine wpAny_Compare1 (NW (ha ow) (hb ow) I (R:=fun v u H2=>aA H H2/\ai X.K H2 (fun _ _=>True) x v/\ai X.K H2 (fun _ _=>True) y u) ⟨E,fun v H1 s1 r1=>⟨E.same s1,fun u H2 s2 r2=>⟨s1.trans s2,(r1.imp fun _ _ _=>True.intro).same s2,r2.imp fun _ _ _=>True.intro⟩⟩⟩ fun v u s2 x y H2 I2 rx ry ⟨sm,r1,r2⟩=>?_) hm
 exact c _ _ pins s2 σ H2 x y v u Q I2 rx ry ⟨r1,r2,q _ H2 sm (by rw[ai])⟩
theorem Hd{x:D}{r:D×Nat}{l:List Prop}(h:KP op op2 x y z=.ok r l):∃a b c r1 r2,x=.int a/\y=.int b/\z=.int c/\gK op a b=some r1/\gK op2 b c=some r2/\r=(.bl (r1&&r2),0):=by
 unfold KP at h
 split at h
 ·split at h
  ·rename_i h1 h2;cases h;exact⟨_,_,_,_,_,rfl,rfl,rfl,h1,h2,rfl⟩
  ·cases h
 ·cases h
theorem qF{a b:Int}(h:gK op a b=some r):iu op (.int a) (.int b)=.ok r []:=by
 unfold gK at h
 split at h<;>first|(cases h;rfl)|cases h
theorem Dn{b:Expr}{x y z:Int}(hu:X.A.units+70<cLine)(ha:ED X ρ a (.int x) k)(hb:ED X ρ b (.int y) j)(hc:ED X ρ c (.int z) i)(h:gK op x y=some r)(h2:gK op2 y z=some r2)(hm:behindInMarks op2 c=false):ED X ρ (.Compare a [op,op2] [b,c] pos) (.bl (r&&r2)) 0:=by
 have c1:=j7 (X:=X) hu (qF h) (show aM []from True.intro)
 have c2:=j7 (X:=X) hu (qF h2) (show aM []from True.intro)
 refine fun ow=>bR (CB (c1 (fun _ _=>True) (fun _ _=>True)) (c2 (fun _ _=>True) (fun _ _=>True)) (ha ow) (hb ow) (hc ow) hm) fun σ H Q ⟨E,q⟩=>⟨E,fun v H1 s1 r1=>⟨E.same s1,fun u H2 s2 r2=>?_⟩⟩
 rw[ai]at r1 r2
 subst r1 r2
 refine⟨by rw[ai],by rw[ai],r,rfl,?_⟩
 cases r with
 | false=>exact q _ H2 (s1.trans s2) (by rw[ai];rfl)
 | true =>
  rw[if_pos rfl]
  refine⟨(E.same s1).same s2,fun w H3 s3 r3=>?_⟩
  rw[ai]at r3
  subst r3
  exact⟨by rw[ai],by rw[ai],q _ H3 ((s1.trans s2).trans s3) (by rw[ai];rfl)⟩
theorem Mi(h:ED X ρ e (.bl b) k)(he:∀whole,isTrue e X.env whole=(do let v <- whole;standAt e.pos;holding [v] (truthy v))):TD X ρ e b :=
 fun ow=>zu (IK (h ow) he) fun σ H Q ⟨E,q⟩=>⟨E,fun v H1 s1 r1=>by rw[ai]at r1;exact⟨b,r1,q H1 s1⟩⟩
theorem jc:AD X ρ [] [] 0:=fun ow=>EY Aw fun σ H Q ⟨E,q⟩=>q [] H (aA.refl _) ah.nil
theorem d6(h1:ED X ρ e d k)(h2:AD X ρ es ds j)(hs:starEach (e::es) X.env=(false,eval e X.env)::starEach es X.env):AD X ρ (e::es) (d::ds) (kj k j) :=
 fun ow=>EY (rA (h1 ow) (h2 ow) hs) fun σ H Q ⟨E,q⟩=>⟨E,fun v H1 s1 r1=>⟨E.same s1,fun vs H2 s2 r2=>q _ H2 (s1.trans s2) (ah.cons ((r1.imp (Kp.joinL E.own k j)).same s2) (r2.imp fun a b p=>Kp.joinR E.own k j a b (Kp.back s1 j a b p)))⟩⟩
theorem vy(h:AD X ρ es ds k)(hl:ds.length<=bO):ED X ρ (.Tuple es n pos) (.tup ds) (kn (.tup ds) k):=by
 refine ED.kn fun ow=>bR (IW (h ow)) fun σ H Q ⟨E,q⟩=>⟨E,fun vs H1 s1 r1=>⟨by rw[<- r1.length];exact Vl hl fj,fun p hp=>?_⟩⟩
 have sm:=cy (o:=HO.tup vs) hp
 refine q _ _ (s1.trans sm) ?_
 rw[ai]
 exact⟨p,vs,rfl,cD.of aF,r1.same sm⟩
theorem Kz:ED X ρ (.Dict [] [] pos) (.dct [] []) 0:=by
 intro ow pins s σ H Q I ⟨E,q⟩
 refine wpAny_Dict_empty ⟨.ref s.heap.objs.size,_,I.laid (t':=s.toks) (o:=.dK []) (fun b ob q=>U9 _ q) (Vf _) ?_,rfl,q _ _ (cy (I.hok.fresh (Vf _))) ?_⟩
 ·exact⟨Vm _,WM.mpr (VP (modules_low I.nolimit)),[],.nil,Heap.DictOf.new _⟩
 ·rw[ai];exact⟨rfl,rfl,_,[],rfl,aF,⟨rfl,I.hok.fresh (Vf _)⟩,ah.nil⟩
theorem xD(h:AD X ρ es ds k)(hk:k<=1)(hl:ds.length<=bO):ED X ρ (.List es pos) (.lst ds) k:=by
 refine fun ow=>bR (Jb (h ow)) fun σ H Q ⟨E,q⟩=>⟨E,fun vs H1 s1 r1=>⟨by rw[<- r1.length];exact Vl hl fj,fun p hp=>?_⟩⟩
 have sm:=cy (o:=HO.lst vs) hp
 refine q _ _ (s1.trans sm) ?_
 rw[ai]
 exact⟨p,vs,true,rfl,aF,AY E.own (s1.free hp) hk,r1.same sm⟩
theorem EK{b:Expr}(hc:TD X ρ c t)(h:if t=true then ED X ρ a d k else ED X ρ b d k):ED X ρ (.IfExp c a b pos) d k:=by
 cases t with
 | true =>
  intro ow pins s σ H Q I ⟨E,q⟩
  refine PyProof.Rows.IfExp_ (aQ (hc ow pins s σ H (fun t H1=>t=true/\aA H H1) I ⟨E,fun H1 s1=>⟨rfl,s1⟩⟩) fun t s1 ⟨H1,I1,e1,s1'⟩=>?_)
  subst e1
  exact h ow pins s1 σ H1 Q I1 ⟨E.same s1',fun v H2 s2 r2=>q v H2 (s1'.trans s2) (r2.imp (Kp.back s1' k))⟩
 | false =>
  intro ow pins s σ H Q I ⟨E,q⟩
  refine PyProof.Rows.IfExp_ (aQ (hc ow pins s σ H (fun t H1=>t=false/\aA H H1) I ⟨E,fun H1 s1=>⟨rfl,s1⟩⟩) fun t s1 ⟨H1,I1,e1,s1'⟩=>?_)
  subst e1
  exact h ow pins s1 σ H1 Q I1 ⟨E.same s1',fun v H2 s2 r2=>q v H2 (s1'.trans s2) (r2.imp (Kp.back s1' k))⟩
variable{X:Cx}
theorem ah.atI{i:Int}(h:ah K H P l vs)(e:L2.atI l i=some d):∃v,L2.atI vs i=some v/\ai K H P d v:=by
 unfold L2.atI at e⊢
 rw[<- h.length]
 cases q:ju l.length i with
 | none=>rw[q]at e;cases e
 | some j=>rw[q]at e;exact h.get e
theorem EJ{b:Expr}{x:D}{i:Int}{l:Nat}(ha:ED X ρ a x k)(hb:ED X ρ b (.int i) j)(hs:fV b)(h:uT x i k=.ok (z,l) o):ED X ρ (.Subscript a b pos) z l:=by
 unfold uT at h
 split at h
 ·rename_i m e0
  split at h
  ·rename_i d e
   unfold mk at h
   cases h
   rcases fL e0 with rfl|rfl
   ·refine ED.kn fun ow=>bR (qe A7 (ha ow) (hb ow) hs) fun σ H Q ⟨E,q⟩=>⟨E,fun v H1 s1 r1=>⟨E.same s1,fun u H2 s2 r2=>?_⟩⟩
    obtain⟨p,vs,rfl,hq,rl⟩:=eN (r1.same s2)
    rw[ai]at r2;subst r2
    obtain⟨w,h1,h2⟩:=rl.atI e
    exact⟨p,vs,i,w,rfl,rfl,hq,h1,q w H2 (s1.trans s2) h2⟩
   ·refine ED.kn fun ow=>bR (qe xl (ha ow) (hb ow) hs) fun σ H Q ⟨E,q⟩=>⟨E,fun v H1 s1 r1=>⟨E.same s1,fun u H2 s2 r2=>?_⟩⟩
    obtain⟨p,vs,rfl,hq,rl⟩:=iB (r1.same s2)
    rw[ai]at r2;subst r2
    obtain⟨w,h1,h2⟩:=rl.atI e
    exact⟨p,vs,i,w,rfl,rfl,hq,h1,q w H2 (s1.trans s2) h2⟩
  ·cases h
 ·cases h
def PD:R2:=fun x y H Q => ∃p kvs k v,x=.ref p/\y=kV k/\H p=some (.dK kvs)/\kl kvs k=some v/\Q v H
theorem Gm:Fb X PD:=by
 intro value slice pins s σ H x y v u Q I rx ry h hs
 obtain⟨p,kvs,k,z,rfl,rfl,hq,he,q⟩:=h
 cases rx
 obtain⟨_,hd,vs,rel,dd⟩:=(show bD X.prog X.w H s.heap p (.dK kvs)from I.hok p _ hq)
 obtain⟨w,hw,rw'⟩:=gM.some_of (v:=z) (o:=valueAt vs k) (by rw[<- he];exact rel.val k)
 exact subscriptTail_builtinR (x:=w) dd.typeIs PySem.F.slot_dict_getitem.lookup (wpAny_getItem_of (Q:=fun r s'=>r=w/\EP X pins σ Q r s') (yO ry) dd.mapOf hw ⟨rfl,z,H,I.tok _,rw',q⟩) hs
theorem vz{K:W.Frag}{P:bn}{H:Hp}{k:ci}{d:D}:∀{ks:List ci} {ds:List D} {vs:List V},ah K H P ds vs->mH ks ds k=some d->∃v,kl (ks.zip vs) k=some v/\ai K H P d v/\d∈ds
 | [],ds,vs,_,e=>by cases e
 | j::ks,[],vs,_,e=>by cases e
 | j::ks,x::ds,vs,h,e=>by
  rw[ah]at h
  obtain⟨v,r,rfl,h1,h2⟩:=h
  by_cases hj:j=k
  ·have e':some x=some d:=by rw[<- e];simp[mH,V6,hj]
   cases e'
   exact⟨v,oK hj,h1,Vb⟩
  ·have e':mH ks ds k=some d:=by rw[<- e];simp[mH,V6,hj]
   obtain⟨w,g1,g2,g3⟩:=vz h2 e'
   exact⟨w,(oM hj).trans g1,g2,Vc _ g3⟩
theorem mr:∀{l:List D} {d:D},ar l=true->d∈l->d.lless=true
 | x::l,d,h,m=>by
  rw[ar,Vk]at h
  rcases Ve.mp m with rfl|m
  ·exact h.1
  ·exact mr h.2 m
theorem Kw{b:Expr}{p q r:D×Nat}(ha:ED X ρ a p.1 p.2)(hb:ED X ρ b q.1 q.2)(hs:fV b)(h:kr p q=.ok r o):ED X ρ (.Subscript a b pos) r.1 r.2:=by
 obtain⟨z,k⟩:=p
 unfold kr at h
 split at h
 ·rename_i ks ds e0
  have e0:z=_:=e0
  subst e0
  split at h
  ·rename_i key e
   split at h
   ·rename_i d e2
    cases h
    refine fun ow=>bR (qe Gm (ha ow) (hb ow) hs) fun σ H Q ⟨E,qq⟩=>⟨E,fun v H1 s1 r1=>⟨E.same s1,fun u H2 s2 r2=>?_⟩⟩
    have r1':=r1.same s2
    rw[ai]at r1'
    obtain⟨f,e1,p,vs,rfl,hq,_,rl⟩:=r1'
    have hk:=o8 (X:=X) e r2
    obtain⟨w,g1,g2,g3⟩:=vz rl e2
    exact⟨p,_,key,w,rfl,hk,hq,g1,qq w H2 (s1.trans s2) (g2.flat _ (mr f g3))⟩
   ·cases h
  ·cases h
 ·unfold kF at h
  split at h
  ·rename_i j hj
   rw[hj]at hb
   exact EJ ha hb hs h
  ·cases h
theorem EW{e:Option Expr}{t t':TO}(h:PO X e t)(i:∀σ H Q,t' σ H Q->t σ H Q):PO X e t':=fun pins s σ H Q I q=>h pins s σ H Q I (i σ H Q q)
theorem wU:OD X ρ none none:=fun ow=>EW FU fun σ H Q ⟨E,q⟩=>q H (aA.refl _)
theorem wT{i:Int}(h:ED X ρ e (.int i) k):OD X ρ (some e) (some i):=fun ow=>EW (FT (h ow)) fun σ H Q ⟨E,q⟩=>⟨E,fun v H1 s1 r1=>by rw[ai]at r1;exact⟨i,r1,q H1 s1⟩⟩
theorem ah.cut{lo hi:Option Int}(h:ah K H P l vs):ah K H P (ir l lo hi) (i9 vs lo hi):=by
 unfold ir i9
 rw[<- h.length]
 exact(h.drop _).take _
theorem jF:∀{l:List D} {n:Nat},ar l=true->ar (l.take n)=true
 | [],n,h=>by simp[ar]
 | d::l,0,h=>by simp[ar]
 | d::l,n+1,h=>by
  rw[ar,Vk]at h
  rw[List.take_succ_cons,ar,Vk];exact⟨h.1,jF h.2⟩
theorem jG:∀{l:List D} {n:Nat},ar l=true->ar (l.drop n)=true
 | [],n,h=>by simp[ar]
 | d::l,0,h=>h
 | d::l,n+1,h=>by
  rw[ar,Vk]at h
  exact jG (n:=n) h.2
theorem Dl{x:D}{l h:Option Int}(ha:ED X ρ a x k)(hl:OD X ρ lo l)(hh:OD X ρ hi h)(e:bi x l h=.ok (z,j) o)(hp:aM o):ED X ρ (.Subscript a (.Slice lo hi none p2) pos) z j:=by
 unfold bi at e
 split at e
 ·rename_i m
  ·cases e
   have c:ar m=true /\ ¬ (HT.sIx m.length 0 l=0/\HT.sIx m.length m.length h=m.length):=⟨hp.1,by have hx:=hp.2.1;unfold KH at hx;intro z;rw[Vt z.1,Vt z.2]at hx;cases hx⟩
   refine fun ow=>bR (oV Il (ha ow) (hl ow) (hh ow)) fun σ H Q ⟨E,q⟩=>⟨E,fun v H1 s1 r1=>⟨E.same s1,fun H2 s2=>⟨(E.same s1).same s2,fun H3 s3=>?_⟩⟩⟩
   have s13:=s2.trans s3
   obtain⟨p,vs,rfl,hq,rl⟩:=eN (r1.same s13)
   refine⟨p,vs,rfl,hq,by rw[<- rl.length];exact c.2,fun p' hp'=>?_⟩
   have sm:=cy (o:=HO.tup (i9 vs l h)) hp'
   refine q _ _ ((s1.trans s13).trans sm) ?_
   rw[ai]
   exact⟨p',_,rfl,cD.of aF,ah.flat _ (by unfold ir;exact jF (jG c.1)) (rl.cut.same sm)⟩
 ·rename_i m
  ·cases e
   have c:ar m=true:=hp.1
   refine fun ow=>bR (oV wC (ha ow) (hl ow) (hh ow)) fun σ H Q ⟨E,q⟩=>⟨E,fun v H1 s1 r1=>⟨E.same s1,fun H2 s2=>⟨(E.same s1).same s2,fun H3 s3=>?_⟩⟩⟩
   have s13:=s2.trans s3
   obtain⟨p,vs,rfl,hq,rl⟩:=iB (r1.same s13)
   refine⟨p,vs,rfl,hq,fun p' hp'=>?_⟩
   have sm:=cy (o:=HO.lst (i9 vs l h)) hp'
   refine q _ _ ((s1.trans s13).trans sm) ?_
   rw[ai]
   exact⟨p',_,true,rfl,aF,⟨rfl,(s1.trans s13).free hp'⟩,ah.flat _ (by unfold ir;exact jF (jG c)) (rl.cut.same sm)⟩
 ·cases e
theorem aI:tH bi:=fun X ρ a lo hi p2 pos x z l h k j o ha hl hh e hp=>Dl ha hl hh e hp
theorem bt{env:Env}{pos:Pos}:∀{es:List Expr},(∀e∈es,∀x p,e ≠ .Starred x p)->(backTo pos (starEach es env)).any (·.1)=false
 | [],_=>rfl
 | e::es,h=>by
  have ih:=bt (env:=env) (es:=es) (pos:=pos) fun x hx=>h x (Vc _ hx)
  have he:=h e Vb
  cases e<;>first|exact absurd rfl (he _ _)|exact ih
theorem aG(h:∀x p,e ≠ .Starred x p):starEach (e::es) env=(false,eval e env)::starEach es env:=by
 cases e<;>first|exact absurd rfl (h _ _)|rfl
theorem Do{r:D}(G:aS Φ X sc)(hf:Ff X f F)(hg:sc.names.lookup f=some .globalImplicit)
  (ha:AD X ρ args ds k) (hst:∀e∈args,∀x p,e ≠ .Starred x p) (hnil:args=[]->ds=[]) (h:F ds=.ok r o) (hp:aM o):ED X ρ (.Call (.Name f p) args [] pos) r 0:=by
 obtain⟨n,fa,fd,ps,hF,hr,hm,hk,hb,hd⟩:=hf
 intro ow
 cases args with
 | nil =>
  refine bR (CD hF hr (G.gl f hg) hm hk hb .nil nI hd) fun σ H Q ⟨E,q⟩=>?_
  have hds:=hnil rfl
  subst hds
  exact⟨[],r,o,ah.nil,h,hp,fun v H' s1 r1=>q v H' s1 r1⟩
 | cons e es =>
  refine bR (wP hF hr (G.gl f hg) hm hk hb .nil nI (ha ow) hd (aG (hst e Vb)) (bt fun x hx=>hst x (Vc _ hx))) fun σ H Q ⟨E,q⟩=>⟨E,fun vs H1 s1 r1=>?_⟩
  refine⟨ds,r,o,by rw[VZ];exact r1.imp fun _ _ _=>True.intro,h,hp,fun v H' s2 r2=>q v H' (s1.trans s2) (r2.imp fun a b p=>⟨p.1,s1.free p.2⟩)⟩
theorem g7{x dx C:Addr}(hx:H x=none)(hd:H dx=none):aA H (aH (aH H dx (.own x)) x (.ins C dx [])):=fun a o h=>by
 rw[ay (fun z=>by subst z;rw[hx]at h;cases h),ay (fun z=>by subst z;rw[hd]at h;cases h)]
 exact h
theorem G4{r:D}(G:aS Φ X sc)(hf:LN X f F)(hg:sc.names.lookup f=some .globalImplicit)
  (ha:AD X ρ args ds k) (hst:∀e∈args,∀x p,e ≠ .Starred x p) (hnil:args=[]->ds=[]) (h:F ds=.ok r o) (hp:aM o):ED X ρ (.Call (.Name f p) args [] pos) r 0:=by
 obtain⟨n,C,fa,fd,ps,hfl,hM,hF,hr,hm,hns,hc,hb,hd⟩:=hf
 have hl:=hfl ds r o h
 intro ow
 cases args with
 | nil =>
  refine bR (CA hM hF hr (G.gl f hg) hm hb .nil nI hd) fun σ H Q ⟨E,q⟩=>?_
  have hds:=hnil rfl
  subst hds
  intro x dx hx hdx ne
  refine⟨x,[],C,dx,[],r,o,rfl,aF,hns,hc,ah.nil,h,hp,hl,fun H' kp rr=>⟨rfl,q _ H' (fun a ob ha=>?_) (rr.flat _ hl)⟩⟩
  exact kp a ob (fun z=>by subst z;rw[hx]at ha;cases ha) (g7 hx hdx a ob ha)
 | cons e es =>
  refine bR (FW hM hF hr (G.gl f hg) hm hb .nil nI (ha ow) hd (aG (hst e Vb)) (bt fun x hx=>hst x (Vc _ hx))) fun σ H Q ⟨E,q⟩=>⟨E,fun vs H1 s1 r1=>?_⟩
  intro x dx hx hdx ne
  refine⟨x,vs++[],C,dx,ds,r,o,rfl,aF,hns,hc,by rw[VZ];exact(r1.same (g7 hx hdx)).imp fun _ _ _=>True.intro,h,hp,hl,fun H' kp rr=>⟨rfl,q _ H' (s1.trans fun a ob ha=>?_) (rr.flat _ hl)⟩⟩
  exact kp a ob (fun z=>by subst z;rw[hx]at ha;cases ha) (g7 hx hdx a ob ha)
theorem G8{r:D}(G:aS Φ X sc)(hf:Φ.fn f=some F)(hg:sc.names.lookup f=some .globalImplicit)
  (ha:AD X ρ args ds k) (hst:∀e∈args,∀x p,e ≠ .Starred x p) (hnil:args=[]->ds=[]) (h:F ds=.ok r o) (hp:aM o):ED X ρ (.Call (.Name f p) args [] pos) r 0:=by
 rcases G.fn f F hf with z|z
 ·exact Do G z hg ha hst hnil h hp
 ·exact G4 G z hg ha hst hnil h hp
theorem Nl{o:Expr}{name:Str}{apos:Pos}(hb:attributeBase o name env (eval o env)=eval o env)(hf:methodCallForm (args.length+([]:List Keyword).length) (backTo pos (starEach args env)) (backToKw pos (keywordEach [] env))=true)
  (hl:(apos.endLine==pos.line)=true):eval (.Call (.Attribute o name apos) args [] pos) env=(do
   let ov <- eval o env
   standAt apos.atName
   let (f,first) <- holding [ov] (getMethod ov name (do return (<- importBound o env).getD true))
   callWith pos f first (backTo pos (starEach args env)) (backToKw pos (keywordEach [] env))):=by
 show(do
  let ov <- attributeBase o name env (eval o env)
  standAt apos.atName
  methodCall o name apos pos env ov (args.length+([]:List Keyword).length) (backTo pos (starEach args env)) (backToKw pos (keywordEach [] env)))=_
 rw[hb]
 unfold methodCall calleeOf methodCallPos
 rw[hf,hl]
 rfl
theorem iQ{t:Sem Value}(h:mM a=true):attributeBase a m env t=t:=by
 unfold attributeBase
 split
 ·cases h
 ·rfl
theorem Kc(hst:∀e∈args,∀x p,e ≠ .Starred x p)(hn:args.length<29):methodCallForm (args.length+([]:List Keyword).length) (backTo pos (starEach args env)) (backToKw pos (keywordEach [] env))=true:=by
 unfold methodCallForm
 have e1:(backTo pos (starEach args env)).all (fun x => !x.1)=true:=by
  have:=bt (env:=env) (pos:=pos) hst
  rw[WD]
  intro x hx
  have h2:¬ (backTo pos (starEach args env)).any (·.1)=true:=by rw[this];exact Vp
  cases hb:x.1 with
  | false=>rfl
  | true=>exact absurd (List.any_eq_true.mpr ⟨x,hx,hb⟩) h2
 rw[e1]
 show(true&&true&&decide (args.length+0+0<30))=true
 simp;omega
theorem tN{K:W.Frag}{H:Hp}{P:bn}{f:Str}{d:D}:∀{ns:List Str} {ds:List D} {vs:List V},ah K H P ds vs->(ns.zip ds).lookup f=some d->∃v,(ns.zip vs).lookup f=some v/\ai K H P d v/\(ar ds=true->d.lless=true)
 | [],ds,vs,_,h=>by cases h
 | a::ns,[],vs,_,h=>by cases h
 | a::ns,e::ds,vs,r,h=>by
  rw[ah]at r
  obtain⟨v,ws,rfl,r1,r2⟩:=r
  replace h:List.lookup f ((a,e)::ns.zip ds)=some d:=h
  show ∃u,List.lookup f ((a,v)::ns.zip ws)=some u/\_
  rw[Vn]at h⊢
  cases hb:f==a with
  | true =>
   rw[hb]at h;cases h
   exact⟨v,rfl,r1,fun z=>by rw[ar,Vk]at z;exact z.1⟩
  | false =>
   rw[hb]at h
   obtain⟨u,u1,u2,u3⟩:=tN r2 h
   exact⟨u,u1,u2,fun z=>by rw[ar,Vk]at z;exact u3 z.2⟩
theorem Ky{n:Str}{ns:List Str}(G:aS Φ X sc)(hf:Φ.fld n f=true)(he:ED X ρ a (.obj n ns ds) j)(hb:mM a=true)(h:(ns.zip ds).lookup f=some d):ED X ρ (.Attribute a f pos) d 0:=by
 intro ow
 refine bR (Jg (he ow) (iQ hb)) fun σ H Q ⟨E,q⟩=>⟨E,fun v H1 s1 r1=>?_⟩
 rw[ai]at r1
 obtain⟨fl,e0,x,C,dx,vs,rfl,h1,h2,h3,r2⟩:=r1
 obtain⟨u,u1,u2,u3⟩:=tN r2 h
 exact⟨x,C,dx,_,u,rfl,h3,h2,G.fld n f hf C h1,u1,q u H1 s1 (u2.flat _ (u3 fl))⟩
theorem G3{n p:Str}{i:Int}(he:ED X ρ a (.xc n (some (p,[(f,i)]))) j)(hb:mM a=true):ED X ρ (.Attribute a f pos) (.int i) 0:=by
 intro ow pins s σ H Q I ⟨E,q⟩
 refine xG (iQ hb) (aQ (he ow pins s σ H (fun v H'=>aA H H'/\kW X.K H' n (some (p,[(f,i)])) v) I ⟨E,fun v H' s1 r1=>⟨s1,by rw[ai]at r1;exact r1⟩⟩) fun u s1 ⟨v,H1,I1,rx,sm,x,C,S,od,e,h1,h2,h3,h4,h5,h6⟩=>?_)
 subst e
 obtain rfl:u=Value.ref x:=rx
 obtain⟨dx,rfl,hdx⟩:=h5 f i rfl
 obtain⟨o,vs,e1,e2,e3,e4⟩:=(show bD X.prog X.w H1 s1.heap x (lA x C (some dx))from I1.hok x _ h4).1
 obtain⟨mA,hn,hr⟩:=(show bD X.prog X.w H1 s1.heap dx (.xd [(f,.int i)])from I1.hok dx _ hdx)
 obtain⟨u,hu,ru⟩:=gM.some_of (v:=.int i) (o:=mA f) (by have:=hr f;rw[Vn,beq_self_eq_true]at this;exact this)
 obtain⟨nm,qn,N,bs,hdct,sn,sub,ab,col,dd,k0,k1,k2,k3,k5,mN,g1,g2,g3,g4⟩:=fO h3.ex I1.kIn
 exact j5 h3.ga h3.gt (h6 f i rfl).no (h6 f i rfl).di I1.kIn e1 e2 e4 e3 hn hu (sF ru) g1 g4 ⟨.int i,H1,I1.tok _,ru,q _ _ sm (by rw[ai])⟩
theorem KD{l:Nat}(G:aS Φ X sc)(hB:fy f B)(hg:sc.names.lookup f=some .globalImplicit)
  (ha:AD X ρ (e::es) ds k) (hst:∀x∈e::es,∀y p,x ≠ .Starred y p) (h:B ds=.ok (z,l) o) (hp:aM o):ED X ρ (.Call (.Name f p) (e::es) [] pos) z l:=by
 obtain⟨h3,h1,h2,_,h4⟩:=hB
 have h4:=h4 X ds z l o G.calm h hp
 intro ow
 have n1:=aG (env:=X.env) (es:=es) (hst e Vb)
 have n2:(backTo pos (starEach es X.env)).any (·.1)=false:=bt fun x hx=>hst x (Vc _ hx)
 rcases h4 with⟨id,e1,r,e2,e3⟩|⟨T,e1,r,e2,e3⟩
 ·refine bR (CC e2 (G.gl f hg) (G.bl f h3) e1 (ha ow) h1 h2 n1 n2) fun σ H Q ⟨E,q⟩=>⟨E,fun vs H1 s1 r1=>?_⟩
  exact e3 ow H H1 vs _ Q E.own s1 r1 fun w H' s2 r2=>q w H' (s1.trans s2) r2
 ·refine bR (Au e2 (G.gl f hg) (G.bl f h3) e1 (ha ow) h1 h2 n1 n2) fun σ H Q ⟨E,q⟩=>⟨E,fun vs H1 s1 r1=>?_⟩
  exact e3 ow H H1 vs _ Q E.own s1 r1 fun w H' s2 r2=>q w H' (s1.trans s2) r2
theorem Gs(h:ED X ρ e (.lst l) k):IE X ρ tg e l k:=by
 intro ow pins s σ H R I ⟨E,q⟩
 refine FV (tg:=tg) (h ow) pins s σ H R I ⟨E,fun v H1 s1 r1=>?_⟩
 rw[ai]at r1
 obtain⟨a,vs,b,rfl,hl,hp,rl⟩:=r1
 have rl':ah X.K H1 (Kd ow H k H1) l vs:=rl.impH (fun a o ho p=>⟨p,fun _=>⟨o,ho⟩⟩) fun a p=>⟨p,fun z=>(by cases z)⟩
 have hp':Kd ow H k H1 a b:=⟨hp,fun hb=>by subst hb;exact⟨_,hl⟩⟩
 have sq:∀{H2:Hp},v3 X.K H2 a vs b->cn X.K H2 a vs:=fun {H2} h=>h.sq
 refine⟨a,rfl,⟨vs,sq hl⟩,q _ H1 s1 fun i H2 st=>⟨fun d hd=>?_,fun hle=>?_⟩⟩
 ·have h2:=sq (st.ls hl hp')
  obtain⟨w,hw,rw'⟩:=rl'.get hd
  refine⟨⟨vs,w,h2,hw⟩,fun x H3 ⟨e3,y3⟩=>?_⟩
  subst e3
  have:=y3 vs h2
  rw[hw]at this;cases this
  exact⟨aA.refl _,rw'.mono st⟩
 ·exact⟨vs,sq (st.ls hl hp'),by rw[<- rl.length];exact hle⟩
theorem JV(h:ED X ρ e (.tup l) k):IE X ρ tg e l k:=by
 intro ow pins s σ H R I ⟨E,q⟩
 refine IU (tg:=tg) (h ow) pins s σ H R I ⟨E,fun v H1 s1 r1=>?_⟩
 rw[ai]at r1
 obtain⟨a,vs,rfl,hl,rl⟩:=r1
 have rl':ah X.K H1 (Kd ow H k H1) l vs:=rl.impH (fun a o ho p=>⟨p,fun _=>⟨o,ho⟩⟩) fun a p=>⟨p,fun z=>(by cases z)⟩
 refine⟨a,rfl,⟨vs,hl⟩,q _ H1 s1 fun i H2 st=>⟨fun d hd=>?_,fun hle=>?_⟩⟩
 ·have h2:=st.sq hl
  obtain⟨w,hw,rw'⟩:=rl'.get hd
  refine⟨⟨vs,w,h2,hw⟩,fun x H3 ⟨e3,y3⟩=>?_⟩
  subst e3
  have:=y3 vs h2
  rw[hw]at this;cases this
  exact⟨aA.refl _,rw'.mono st⟩
 ·exact⟨vs,st.sq hl,by rw[<- rl.length];exact hle⟩
def N1(x:Str):It:=⟨fun i _=>i<x.cps.size,fun i H v H'=>H'=H/\∃c,x.cps[i]?=some c/\v=.str ⟨#[c]⟩,fun i _=>x.cps.size<=i⟩
theorem Cb{P:Program}(x:Str)(t:Tok)(it:Addr):Turn P w K tg (N1 x) [it] it (fun i h=>h.IsStrIter it "str_ascii_iterator" x t i) where
 mem:=by simp
 obj:=fun i h st b hb=>by
  have e:b=it:=by simpa using hb
  subst e
  obtain⟨o,e,c,d⟩:=st
  exact⟨o,e,fun v z=>by rw[d]at z;cases z⟩
 keep:=fun i h h' st k=>by
  obtain⟨o,e,c,d⟩:=st
  exact⟨o,k it (by simp) o e,c,d⟩
 item:=by
  intro X hP hw hK hc i pins s σ H E I hf st hg
  subst hP hw hK
  obtain⟨f0,f1,f2,f3,f4,f5⟩:=hf it (by simp)
  have hx:x.cps[i]?=some x.cps[i]:=Array.getElem?_eq_getElem hg
  refine wpAny_pyNext_ascii_item st hx fun h' st' sb=>?_
  have I1:aj X pins σ H { s with heap:=h',toks:=s.toks+1 }:=I.turned (t':=s.toks+1) (fun b o hb e=>(sb.2 b hb).trans e) f0 f1 f3 f4 f5
  obtain⟨o,e,c,d⟩:=id st'
  exact⟨_,rfl,qt (s:={ s with heap:=h',toks:=s.toks+1 }) e c d (by decide) ⟨.str ⟨#[x.cps[i]]⟩,H,I1,⟨_,rfl⟩,⟨rfl,_,hx,rfl⟩,st',fun b hb=>(hf b hb).1⟩⟩
 done:=by
  intro X hP hw hK hc i pins s σ H E I hf st hg
  subst hP hw hK
  obtain⟨f0,f1,f2,f3,f4,f5⟩:=hf it (by simp)
  exact wpAny_pyNext_ascii_end (I.ok.hd hc) st (Wz hg) fun h' eb=>⟨rfl,I.turned (t':=s.toks) (fun b o hb e=>eb b o hb e) f0 f1 f3 f4 f5⟩
 self:=fun _ _ _ _ _ st h=>wpAny_pyIter_striter_ascii st h
theorem JW(h:ED X ρ e (.str x) k)(ha:(x.cps.all fun c=>decide (c<128))=true):IE X ρ tg e (Ef x) k:=by
 intro ow pins s σ H R I ⟨E,q⟩
 refine aQ (h ow pins s σ H _ I ⟨E,fun v H1 s1 r1=>(show(fun v H1=>aA H H1/\ai X.K H1 (Kp ow H k) (.str x) v) v H1 from⟨s1,r1⟩)⟩) fun v s1 ⟨y,H1,I1,rel,sm,rp⟩=>?_
 rw[ai]at rp;subst rp
 obtain⟨t,rfl⟩:=rel
 have ty:strIterType x = "str_ascii_iterator" := if_pos ha
 refine wpAny_pyIter_strU ?_
 rw[ty]
 refine⟨s1.heap.objs.size,[s1.heap.objs.size],_,N1 x,H1,rfl,I1.kept (t':=s1.toks) fun b o e=>U9 _ e,Cb x t _,⟨_,Vg _ rfl,rfl,rfl⟩,fun b hb=>?_,q _ H1 sm fun i H2 st=>⟨fun d hd=>?_,fun hle=>?_⟩⟩
 ·have e:b=s1.heap.objs.size:=by simpa using hb
  subst e
  exact I1.fpOk (Vf _) (I1.hok.fresh (Vf _))
 ·unfold Ef at hd
  rw[V9]at hd
  cases hc:x.cps.toList[i]? with
  | none=>rw[hc]at hd;cases hd
  | some c =>
   rw[hc]at hd;cases hd
   have hi:i<x.cps.size:=by simpa using (Vu.mp hc).1
   refine⟨hi,fun z H3 ⟨e3,c',e4,e5⟩=>?_⟩
   subst e3 e5
   rw[Array.getElem?_toList]at hc
   rw[hc]at e4;cases e4
   exact⟨aA.refl _,by rw[ai]⟩
 ·unfold Ef at hle
  rw[Vi,Array.length_toList]at hle
  exact hle
theorem Nh(h:ED X ρ e d k)(hi:items d=some l):IE X ρ tg e l k:=by
 unfold items at hi
 split at hi
 ·cases hi;exact Gs h
 ·cases hi;exact JV h
 ·split at hi
  ·rename_i ha;cases hi;exact JW h ha
  ·cases hi
 ·cases hi
theorem C7{j:Int}(hg:Gl X "range")(hm0:X.mg "range" = none)(ha:AD X ρ [a] [.int j] k)(hst:∀y p,a ≠ .Starred y p)(h1:-4611686018427387904<=j)(h2:j<=bO) :
  IE X ρ tg (.Call (.Name "range" p) [a] [] pos) ((List.range j.toNat).map fun i=>.int (i:Nat)) 0:=by
 intro ow pins s σ H R I ⟨E,q⟩
 refine At (tg:=tg) hg hm0 (ha ow) (by rw[aG hst];rfl) pins s σ H R I ⟨E,fun vs H1 s1 r1=>?_⟩
 obtain⟨v,rfl,rv⟩:=r1.only
 rw[ai]at rv;subst rv
 have hm:(bO:Int)<2 ^ 62:=by decide
 refine⟨j,rfl,h1,by omega,q _ H1 s1 fun i H2 st=>⟨fun d hd=>?_,fun hle=>?_⟩⟩
 ·rw[V9]at hd
  cases e:(List.range j.toNat)[i]? with
  | none=>rw[e]at hd;cases hd
  | some n =>
   rw[e]at hd;cases hd
   obtain⟨hi,hn⟩:=Vu.mp e
   rw[List.getElem_range]at hn
   subst hn
   rw[Xb]at hi
   refine⟨hi,fun x H3 ⟨e3,y3⟩=>?_⟩
   subst e3 y3
   exact⟨aA.refl _,by rw[ai,Int.zero_add]⟩
 ·rw[Vi,Xb]at hle
  exact hle
theorem Bb{b:Expr}{j0 j:Int}(hg:Gl X "range")(hm0:X.mg "range" = none)(ha:AD X ρ [a,b] [.int j0,.int j] k)(hst:∀y p,a ≠ .Starred y p)(hst2:∀y p,b ≠ .Starred y p)(h1:-4611686018427387904<=j0)(h2:j0<=4611686018427387000)(h3:-4611686018427387904<=j)(h4:j-j0<=800) :
  IE X ρ tg (.Call (.Name "range" p) [a,b] [] pos) ((List.range (j-j0).toNat).map fun i=>.int (j0+(i:Nat))) 0:=by
 intro ow pins s σ H R I ⟨E,q⟩
 refine As (tg:=tg) hg hm0 (ha ow) (by rw[aG hst,aG hst2];rfl) (by rw[aG hst2];rfl) pins s σ H R I ⟨E,fun vs H1 s1 r1=>?_⟩
 rw[ah]at r1
 obtain⟨v1,r,rfl,r2,r3⟩:=r1
 rw[ah]at r3
 obtain⟨v2,r',rfl,r4,r5⟩:=r3
 rw[ah]at r5
 rw[ai]at r2 r4
 subst r2 r4 r5
 refine⟨j0,j,rfl,⟨h1,by omega,h3,by omega⟩,q _ H1 s1 fun i H2 st=>⟨fun d hd=>?_,fun hle=>?_⟩⟩
 ·rw[V9]at hd
  cases e:(List.range (j-j0).toNat)[i]? with
  | none=>rw[e]at hd;cases hd
  | some n =>
   rw[e]at hd;cases hd
   obtain⟨hi,hn⟩:=Vu.mp e
   rw[List.getElem_range]at hn
   subst hn
   rw[Xb]at hi
   refine⟨hi,fun x H3 ⟨e3,y3⟩=>?_⟩
   subst e3 y3
   exact⟨aA.refl _,by rw[ai]⟩
 ·rw[Vi,Xb]at hle
  exact hle
theorem Bc:lg "range" ig:=by
 refine⟨by decide,fun X ρ p pos args ds k d j l tg o hc hg hm ha hst hlen h hp hl ht=>?_⟩
 unfold ig at h
 split at h
 ·rename_i n
  cases h
  cases hl
  match args,hlen,ha,hst with
  | [a],_,ha,hst=>exact C7 hg hm ha (hst a Vb) hp.1 hp.2.1
 ·rename_i m n
  cases h
  cases hl
  match args,hlen,ha,hst with
  | [a,b],_,ha,hst=>exact Bb hg hm ha (hst a Vb) (hst b (Vc _ Vb)) hp.1 hp.2.1 hp.2.2.1 hp.2.2.2.1
 ·cases h
variable{X:Cx}
theorem dl{y:D×Bool}(z:Str):bE ρ x y z=if z=x then some y else ρ z:=rfl
theorem eV{o:Bool}(hN:X.N.Nodup)(hl:σ.length=X.N.length)(E:aO X ow H σ ρ)(hi:X.N[i]?=some x)(hv:jf X.env.scope x)(r:ai X.K H (kB ow x o) d v) :
  aO X ow H (σ.set i (some v)) (bE ρ x (d,o)):=by
 have hil:i<σ.length:=by rw[hl];exact(Vu.mp hi).1
 refine⟨fun y e o' h=>?_,E.own⟩
 rw[dl]at h
 by_cases hy:y=x
 ·subst hy
  rw[if_pos rfl]at h
  cases h
  exact⟨i,v,hi,hv,by rw[Wx hil],r⟩
 ·rw[if_neg hy]at h
  obtain⟨j,w,e1,e2,e3,e4⟩:=E.get y e o' h
  have hij:i≠j:=by intro z;subst z;rw[hi]at e1;cases e1;exact hy rfl
  exact⟨j,w,e1,e2,by rw[Wf hij];exact e3,e4⟩
theorem fE(G:aS Φ X sc)(h:cT sc x=true):v4 X.env.scope x/\jf X.env.scope x/\(X.fn x=true\/X.env.scope.names.lookup x=some .local)/\∃i:Nat,X.N[i]?=some x:=by
 have hx:=G.ns x h
 have hlt:=List.idxOf_lt_length_iff.mpr hx
 have hi:∃i:Nat,X.N[i]?=some x:=⟨X.N.idxOf x,by rw[VB hlt,W5 hlt]⟩
 unfold cT at h
 rw[Bool.or_eq_true]at h
 rcases h with h|h
 ·have h:=G.lc x (by simpa using h)
  exact⟨.inl h,.inl h,.inr h,hi⟩
 ·have h0:sc.names.lookup x=some .cell:=by simpa using h
  have h:=G.cc x h0
  exact⟨.inr h,.inr (.inl h),.inl (G.ft x h0),hi⟩
theorem mh{Φ:Fx}{sc:Scope}(G:aS Φ X sc):∀{es:List Expr} {ds:List D} {ρ ρ':af},bc sc es ds ρ=some ρ'->∃t,xK X es t/\(assignEach es X.env).length=ds.length/\(assignEach es X.env).findIdx? (·.1)=none /\
  ∀(ow:Ow) (vs:List V) (σ:L2.St) (H:Hp) (Q:L2.St->Hp->Prop),σ.length=X.N.length->aO X ow H σ ρ->ah X.K H (fun a b=>b=true->ow a=none) ds vs->(∀σ',σ'.length=X.N.length->aO X ow H σ' ρ'->Q σ' H)->t vs σ H Q
 | [],[],ρ,ρ',h=>by
  rw[bc]at h;cases h
  refine⟨_,wO,rfl,rfl,fun ow vs σ H Q hl E r q=>?_⟩
  rw[ah]at r
  exact⟨r,q σ hl E⟩
 | .Name x p::es,d::ds,ρ,ρ',h=>by
  rw[bc]at h
  split at h
  ·rename_i hx
   obtain⟨t,h1,h2,h3,h4⟩:=mh G h
   obtain⟨g1,g2,g3,i,g4⟩:=fE G hx
   refine⟨_,oS (jT (i:=i) G.nd g4 g1 g3) h1 rfl,?_,?_,fun ow vs σ H Q hl E r q=>?_⟩
   ·show(assignEach es X.env).length+1=ds.length+1
    rw[h2]
   ·show List.findIdx? (·.1) ((false,_)::assignEach es X.env)=none
    rw[List.findIdx?_cons,h3];rfl
   ·rw[ah]at r
    obtain⟨v,vr,rfl,r1,r2⟩:=r
    refine⟨v,vr,rfl,?_⟩
    exact h4 ow vr _ H Q (by rw[VT];exact hl) (eV G.nd hl E g4 g2 r1) r2 q
  ·cases h
 | [],_::_,ρ,ρ',h=>by simp[bc]at h
 | .Name _ _::_,[],ρ,ρ',h=>by simp[bc]at h
 | .BoolOp .. :: _,ds,ρ,ρ',h=>by cases ds<;>simp[bc]at h
 | .NamedExpr .. :: _,ds,ρ,ρ',h=>by cases ds<;>simp[bc]at h
 | .BinOp .. :: _,ds,ρ,ρ',h=>by cases ds<;>simp[bc]at h
 | .UnaryOp .. :: _,ds,ρ,ρ',h=>by cases ds<;>simp[bc]at h
 | .Lambda .. :: _,ds,ρ,ρ',h=>by cases ds<;>simp[bc]at h
 | .IfExp .. :: _,ds,ρ,ρ',h=>by cases ds<;>simp[bc]at h
 | .Dict .. :: _,ds,ρ,ρ',h=>by cases ds<;>simp[bc]at h
 | .Set .. :: _,ds,ρ,ρ',h=>by cases ds<;>simp[bc]at h
 | .ListComp .. :: _,ds,ρ,ρ',h=>by cases ds<;>simp[bc]at h
 | .SetComp .. :: _,ds,ρ,ρ',h=>by cases ds<;>simp[bc]at h
 | .DictComp .. :: _,ds,ρ,ρ',h=>by cases ds<;>simp[bc]at h
 | .GeneratorExp .. :: _,ds,ρ,ρ',h=>by cases ds<;>simp[bc]at h
 | .Await .. :: _,ds,ρ,ρ',h=>by cases ds<;>simp[bc]at h
 | .Yield .. :: _,ds,ρ,ρ',h=>by cases ds<;>simp[bc]at h
 | .YieldFrom .. :: _,ds,ρ,ρ',h=>by cases ds<;>simp[bc]at h
 | .Compare .. :: _,ds,ρ,ρ',h=>by cases ds<;>simp[bc]at h
 | .Call .. :: _,ds,ρ,ρ',h=>by cases ds<;>simp[bc]at h
 | .FormattedValue .. :: _,ds,ρ,ρ',h=>by cases ds<;>simp[bc]at h
 | .JoinedStr .. :: _,ds,ρ,ρ',h=>by cases ds<;>simp[bc]at h
 | .Constant .. :: _,ds,ρ,ρ',h=>by cases ds<;>simp[bc]at h
 | .Attribute .. :: _,ds,ρ,ρ',h=>by cases ds<;>simp[bc]at h
 | .Subscript .. :: _,ds,ρ,ρ',h=>by cases ds<;>simp[bc]at h
 | .Starred .. :: _,ds,ρ,ρ',h=>by cases ds<;>simp[bc]at h
 | .List .. :: _,ds,ρ,ρ',h=>by cases ds<;>simp[bc]at h
 | .Tuple .. :: _,ds,ρ,ρ',h=>by cases ds<;>simp[bc]at h
 | .Slice .. :: _,ds,ρ,ρ',h=>by cases ds<;>simp[bc]at h
theorem nW(G:aS Φ X sc)(h:bJ sc tg d ρ=some ρ'):GD X ρ tg d ρ':=by
 unfold bJ at h
 split at h
 ·split at h
  ·rename_i x p hx
   cases h
   obtain⟨g1,g2,g3,i,g4⟩:=fE G hx
   exact⟨_,jT (i:=i) G.nd g4 g1 g3,fun ow v σ H Q hl E r q=>q _ (by rw[VT];exact hl) (eV G.nd hl E g4 g2 r)⟩
  ·cases h
 ·split at h
  ·obtain⟨t,h1,h2,h3,h4⟩:=mh G h
   refine⟨_,uv (n:=_) G.calm h1 h2 h3,fun ow v σ H Q hl E r q=>?_⟩
   obtain⟨a,vs,rfl,hs,rl⟩:=eN r
   exact⟨a,vs,rfl,hs,rl.length.symm,h4 ow vs σ H Q hl E rl q⟩
  ·cases h
 ·cases h
theorem yf{Q:Bool->Shared->Prop}
  (h:wpAny M A (isTrue c env (eval c env)) (fun b s'=>if b=true then wpAny M A (i5 cs env) Q E s' else Q false s') E s):wpAny M A (i5 (c::cs) env) Q E s:=by
 have no:∀(l:List Expr) (s:Shared),Q false s->wpAny M A (forIn l false fun c r=>if r=true then do let ok <- isTrue c env (eval c env);pure (ForInStep.yield ok)else pure (ForInStep.yield r)) Q E s:=by
  intro l
  induction l with
  | nil=>intro s h;exact Va h
  | cons x l ih =>
   intro s h
   rw[W4]
   simp only[WQ,Xn]
   exact U8 (Va (ih s h))
 unfold i5
 rw[W4]
 simp only[WY]
 refine U8 (U8 (VX h (fun b s' hb=>Va ?_) fun _ _ x=>x))
 cases b with
 | true=>exact hb
 | false=>exact no cs s' hb
theorem Ab:BV X ρ [] true:=fun ow pins s σ H Q I ⟨E,q⟩=>Va ⟨H,I,q H (aA.refl _)⟩
theorem q9{b':Bool}(h:TD X ρ c b)(h':if b=true then BV X ρ cs b' else b'=false):BV X ρ (c::cs) b':=by
 intro ow pins s σ H Q I ⟨E,q⟩
 refine yf (aQ (h ow pins s σ H (fun t H1=>t=b/\aA H H1) I ⟨E,fun H1 s1=>⟨rfl,s1⟩⟩) fun t s1 ⟨H1,I1,e,sm⟩=>?_)
 subst e
 cases t with
 | true =>
  rw[if_pos rfl]at h' ⊢
  exact h' ow pins s1 σ H1 Q I1 ⟨E.same sm,fun H2 s2=>q H2 (sm.trans s2)⟩
 | false =>
  rw[if_neg Vp]at h' ⊢
  subst h'
  exact⟨H1,I1,q H1 sm⟩
variable{X:Cx}
structure fW(X:Cx)(ρ:af)(e:Expr)(it:Bool)(d:D)(k:Nat):Prop where
 ed:it=false->ED X ρ e d k
 td:it=false->∀b,d=.bl b->TD X ρ e b
 ie:it=true->∀tg l,items d=some l->eh e tg=true->IE X ρ tg e l k
theorem fW.of(h:ED X ρ e d k)(t:∀b,d=.bl b->TD X ρ e b):fW X ρ e it d k:=⟨fun _=>h,fun _=>t,fun _ tg l hi _=>Nh h hi⟩
theorem iD{r:D×Nat}{l:List Prop}(h:az Φ e it sc ρ=.ok r l):∀x p,e ≠ .Starred x p:=by
 intro x p z;subst z;cases h
theorem b0{Φ:Fx}{sc:Scope}{ρ:af}:∀{es:List Expr} {r:List D×Nat} {l:List Prop},bG Φ es sc ρ=.ok r l->aM l->(∀e∈es,∀x p,e ≠ .Starred x p)/\es.length=r.1.length
 | [],r,l,h,_=>by cases h;exact⟨fun e he=>(by cases he),rfl⟩
 | e::es,r,l,h,hp=>by
  obtain⟨p,l1,l2,h1,p1,h,p2⟩:=aU h hp
  obtain⟨q,l3,l4,h2,p3,h,p4⟩:=aU h p2
  cases h
  obtain⟨i1,i2⟩:=b0 h2 p3
  refine⟨fun e' he=>?_,by rw[VM,VM,i2]⟩
  rcases Ve.mp he with rfl|he
  ·exact iD h1
  ·exact i1 e' he
theorem M7:kn d k=0\/kn d k=k:=by
 unfold kn;split
 ·exact .inl rfl
 ·exact .inr rfl
theorem BC(h:qH sc scope=true):scope.kind=.function/\(∀y∈scope.names,y.2=.local->scope.names.lookup y.1=some .local) /\
  (∀y∈scope.names,y.2=.free->sc.names.lookup y.1=some .cell\/sc.names.lookup y.1=some .free)/\(scope.names.map (·.1)).Nodup:=by
 unfold qH at h
 simp only[Vk,WD,decide_eq_true_eq,Bool.or_eq_true]at h
 obtain⟨⟨⟨h1,h3⟩,h4⟩,h5⟩:=h
 refine⟨h1,fun y hy e=>(h3 y hy).resolve_left (fun z=>z e),fun y hy e=>?_,h5⟩
 rcases h4 y hy with(q|q)|q
 ·exact absurd e q
 ·exact .inl q.2
 ·exact .inr q
theorem dC{env:Env}:∀{names:List (Str×NameKind)} {x:Str} {k0:NameKind},k0 ≠ .free->names.lookup x=some k0 ->
  (names.map fun(n,k)=>if (k==NameKind.free&&env.scope.kind == .function&&env.kindOf n==some .cell)then(n,NameKind.cell)else(n,k)).lookup x=some k0
 | [],_,_,_,h=>by simp at h
 | (n,k)::r,x,k0,hk,h=>by
  have ih:=@dC env r x k0 hk
  show List.lookup x ((if (k==NameKind.free&&env.scope.kind == .function&&env.kindOf n==some .cell)=true then(n,NameKind.cell)else(n,k))::_)=_
  cases hx:x==n with
  | true =>
   simp only[Vn,hx]at h
   cases h
   have:(k==NameKind.free)=false:=by simpa using hk
   simp[Vn,hx,this]
  | false =>
   simp only[Vn,hx]at h
   by_cases hc:(k==NameKind.free&&env.scope.kind == .function&&env.kindOf n==some .cell)=true
   ·rw[if_pos hc];simp only[Vn,hx];exact ih h
   ·rw[if_neg hc];simp only[Vn,hx];exact ih h
theorem qi{names:List (Str×NameKind)}:∀{x:Str} {k:NameKind},names.lookup x=some k->x∈names.map (·.1):=fun {x k} h=>Wh.mpr ⟨_,Vs h,rfl⟩
theorem Gx{cl:List (Str×Addr)}{C:Addr}(G:aS Φ X sc)(h:qH sc scope=true):aS Φ (mC X scope cl C (scope.names.map (·.1)) s H fp) scope:=by
 obtain⟨h1,h3,h4,h5⟩:=BC h
 refine⟨G.calm,h5,fun x hx=>?_,fun x hx=>?_,fun x hx=>lookup_relabel_local hx,fun x hx=>dC (by decide) hx,fun g F hg=>G.fn g F hg,G.con,G.blt,G.itr,G.mth,G.mtt,G.slf,G.fld,G.omt,G.bl,G.room,fun x hx=>?_,fun x hx=>Vt hx⟩
 ·exact dC (by decide) hx
 ·rcases hx with hx|hx
  ·exact .inl (dC (by decide) hx)
  ·exact dD hx
 ·unfold cT at hx
  rw[Bool.or_eq_true]at hx
  rcases hx with hx|hx<;>exact qi (by simpa using hx)
theorem Bu(G:aS Φ X sc)(h:qH sc scope=true):ip X.env scope (scope.names.map (·.1)):=by
 obtain⟨h1,h3,h4,h5⟩:=BC h
 exact⟨h1,h5,h3,h5,fun n hn=>G.kc n (h4 (n,.free) hn rfl)⟩
theorem M8:∀{a b:Nat},kj a b<=1->a<=kj a b/\b<=kj a b
 | 0,0,_=>by decide
 | 0,1,_=>by decide
 | 0,2,h=>absurd h (by decide)
 | 0,_+3,h=>by rw[kj]at h;omega
 | 1,0,_=>by decide
 | 1,1,_=>by decide
 | 1,2,h=>absurd h (by decide)
 | 1,_+3,h=>absurd h (by rw[kj]<;>simp)
 | 2,0,h=>absurd h (by decide)
 | 2,1,h=>absurd h (by decide)
 | 2,2,h=>absurd h (by decide)
 | 2,_+3,h=>absurd h (by rw[kj]<;>simp)
 | _+3,0,h=>by rw[kj]at h<;>simp_all<;>omega
 | _+3,1,h=>absurd h (by rw[kj]<;>simp)
 | _+3,2,h=>absurd h (by rw[kj]<;>simp)
 | _+3,_+3,h=>absurd h (by rw[kj]<;>simp)
theorem Kp.up(o:fB ow H){a:Addr}:∀{i j:Nat},i<=j->j<=1->Kp ow H i a b->Kp ow H j a b
 | 0,0,_,_,p=>p
 | 0,1,_,_,p=>fun _=>o.free p.2
 | 1,1,_,_,p=>p
 | 1,0,h,_,_=>absurd h (by omega)
 | _+2,_,h,g,_=>absurd h (by omega)
 | 0,_+2,_,g,_=>absurd g (by omega)
 | 1,_+2,_,g,_=>absurd g (by omega)
theorem ED.up(h:ED X ρ e d i)(h1:i<=j)(h2:j<=1):ED X ρ e d j:=fun ow=>bR (h ow) fun σ H Q ⟨E,q⟩=>⟨E,fun v H' s r=>q v H' s (r.imp fun a b p=>Kp.up E.own h1 h2 p)⟩
def tf(step:D->Rs (Option (D×Nat)))(d:D):Option D:=match step d with | .ok (some p) _=>some p.1|_=>none
theorem vC{step:D->Rs (Option (D×Nat))}:∀{ds:List D} {r:List D×Nat} {l:List Prop},iE step ds=.ok r l->aM l ->
  (∀d∈ds,∃r l,step d=.ok r l/\aM l)/\r.1=ds.filterMap (tf step)/\(r.2<=1->∀d∈ds,∀p l,step d=.ok (some p) l->p.2<=r.2)
 | [],r,l,h,_=>by
  cases h
  exact⟨fun d hd=>(by cases hd),rfl,fun _ d hd=>(by cases hd)⟩
 | d::ds,r,l,h,hp=>by
  obtain⟨x,l1,l2,h1,p1,h,p2⟩:=aU h hp
  obtain⟨q,l3,l4,h2,p3,h,p4⟩:=aU h p2
  obtain⟨i1,i2,i3⟩:=vC h2 p3
  have i1':∀y∈d::ds,∃r l,step y=.ok r l/\aM l:=fun y hy=>by
   rcases Ve.mp hy with rfl|hy
   ·exact⟨_,_,h1,p1⟩
   ·exact i1 y hy
  cases x with
  | none =>
   cases h
   refine⟨i1',?_,fun hj x hx y i e=>?_⟩
   ·rw[List.filterMap_cons_none (by unfold tf;rw[h1])];exact i2
   ·rcases Ve.mp hx with rfl|hx
    ·rw[h1]at e;cases e
    ·exact i3 hj x hx y i e
  | some p =>
   cases h
   refine⟨i1',?_,fun hj x hx y i e=>?_⟩
   ·rw[List.filterMap_cons_some (by unfold tf;rw[h1]),i2]
   ·obtain⟨a1,a2⟩:=M8 hj
    rcases Ve.mp hx with rfl|hx
    ·rw[h1]at e;cases e;exact a1
    ·exact Vl (i3 (Vl a2 hj) x hx y i e) a2
theorem cg(h:ED X ρ e d k)(he:∀whole,isTrue e X.env whole=(do let v <- whole;standAt e.pos;holding [v] (truthy v))):fW X ρ e it d k:=.of h fun b hb=>by subst hb;exact Mi h he
theorem HY{b:Expr}{x:D}(hu:X.A.units+70<cLine)(ha:ED X ρ a x k)(hb:ED X ρ b y j)(h:iu op x y=.ok r o)(hp:aM o)(hm:behindInMarks op b=false):TD X ρ (.Compare a [op] [b] pos) r:=by
 have c:=j7 (X:=X) hu h hp
 intro ow pins s σ H Q I ⟨E,q⟩
 refine wpAny_isTrue_Compare1 (NW (ha ow) (hb ow) I (R:=fun v u H2=>aA H H2/\ai X.K H2 (fun _ _=>True) x v/\ai X.K H2 (fun _ _=>True) y u) ⟨E,fun v H1 s1 r1=>⟨E.same s1,fun u H2 s2 r2=>⟨s1.trans s2,(r1.imp fun _ _ _=>True.intro).same s2,r2.imp fun _ _ _=>True.intro⟩⟩⟩ fun v u s2 x y H2 I2 rx ry ⟨sm,r1,r2⟩=>?_) hm
 refine aQ (c _ _ pins s2 σ H2 x y v u (fun w H'=>w=.bl r/\H2=H') I2 rx ry ⟨r1,r2,rfl,rfl⟩) fun u' s3 ⟨w,H3,I3,r3,e1,e2⟩=>?_
 subst e1 e2
 cases (show u'=Value.bool r from r3)
 exact Wl ⟨H2,I3,q H2 sm⟩
theorem Cf{b:Expr}{x y z:Int}(hu:X.A.units+70<cLine)(ha:ED X ρ a (.int x) k)(hb:ED X ρ b (.int y) j)(hc:ED X ρ c (.int z) i)(h:gK op x y=some r)(h2:gK op2 y z=some r2)(hm:behindInMarks op2 c=false):TD X ρ (.Compare a [op,op2] [b,c] pos) (r&&r2):=by
 have c1:=j7 (X:=X) hu (qF h) (show aM []from True.intro)
 have c2:=j7 (X:=X) hu (qF h2) (show aM []from True.intro)
 refine fun ow=>zu (Cv (c1 (fun _ _=>True) (fun _ _=>True)) (c2 (fun _ _=>True) (fun _ _=>True)) (ha ow) (hb ow) (hc ow) hm) fun σ H Q ⟨E,q⟩=>⟨E,fun v H1 s1 r1=>⟨E.same s1,fun u H2 s2 r2=>?_⟩⟩
 rw[ai]at r1 r2
 subst r1 r2
 refine⟨by rw[ai],by rw[ai],r,rfl,?_⟩
 cases r with
 | false=>exact⟨false,rfl,q H2 (s1.trans s2)⟩
 | true =>
  rw[if_pos rfl]
  refine⟨(E.same s1).same s2,fun w H3 s3 r3=>?_⟩
  rw[ai]at r3
  subst r3
  exact⟨by rw[ai],by rw[ai],_,rfl,q H3 ((s1.trans s2).trans s3)⟩
theorem HX(h:TD X ρ a b):TD X ρ (.UnaryOp .Not a pos) (!b):=fun ow=>zu (IM (h ow)) fun σ H Q ⟨E,q⟩=>⟨E,fun H1 s1=>q H1 s1⟩
structure eY(X:Cx)(ρ:af)(op:BoolOp)(es:List Expr)(b:Bool):Prop where
 ed:es≠[]->∀pos,ED X ρ (.BoolOp op es pos) (.bl b) 0
 tw:es≠[]->∀pos ow,PW X (.BoolOp op es pos) (D7 X ow ρ b)
 ts:op=.And->BV X ρ es b
theorem gW{op:BoolOp}(h:ED X ρ e (.bl b) k)(t:TD X ρ e b):eY X ρ op [e] b:=by
 have h0:ED X ρ e (.bl b) 0:=by
  have:=h.kn
  rw[show kn (.bl b) k=0 from rfl]at this
  exact this
 refine⟨fun _ pos ow=>IZ (h0 ow),fun _ pos ow=>?_,fun _=>q9 t (by cases b;rfl;exact Ab)⟩
 cases op with
 | And=>exact FK (t ow)
 | Or=>exact IJ (t ow)
theorem wg(h:ED X ρ e (.bl true) k)(t:TD X ρ e true)(r:eY X ρ .And (e2::es) b):eY X ρ .And (e::e2::es) b:=by
 refine⟨fun _ pos ow=>?_,fun _ pos ow=>?_,fun _=>q9 t (by rw[if_pos rfl];exact r.ts rfl)⟩
 ·refine bR (Av (h ow) (r.ed (by simp) pos ow)) fun σ H Q ⟨E,q⟩=>⟨E,fun v H1 s1 r1=>?_⟩
  rw[ai]at r1
  exact⟨true,r1,by rw[if_pos rfl];exact⟨E.same s1,fun w H2 s2 r2=>q w H2 (s1.trans s2) (r2.imp (Kp.back s1 0))⟩⟩
 ·intro wh pins s σ H Q I hq
  exact Ao (t ow) (r.tw (by simp) pos ow) wh pins s σ H Q I ⟨hq.1,fun H1 s1=>by dsimp only;rw[if_pos rfl];exact⟨hq.1.same s1,fun H2 s2=>hq.2 H2 (s1.trans s2)⟩⟩
theorem vH(h:ED X ρ e (.bl false) k)(t:TD X ρ e false)(ne:∀pos,∃t,PE X (.BoolOp .And (e2::es) pos) t)(nw:∀pos,∃t,PW X (.BoolOp .And (e2::es) pos) t):eY X ρ .And (e::e2::es) false:=by
 refine⟨fun _ pos ow=>?_,fun _ pos ow=>?_,fun _=>q9 t (by rw[if_neg Vp])⟩
 ·obtain⟨t2,h2⟩:=ne pos
  refine bR (Av (h ow) h2) fun σ H Q ⟨E,q⟩=>⟨E,fun v H1 s1 r1=>?_⟩
  rw[ai]at r1
  exact⟨false,r1,by rw[if_neg Vp];exact q _ H1 s1 (by rw[ai])⟩
 ·obtain⟨t2,h2⟩:=nw pos
  intro wh pins s σ H Q I hq
  exact Ao (t ow) h2 wh pins s σ H Q I ⟨hq.1,fun H1 s1=>by dsimp only;rw[if_neg Vp];exact hq.2 H1 s1⟩
theorem zc(h:ED X ρ e (.bl false) k)(t:TD X ρ e false)(r:eY X ρ .Or (e2::es) b):eY X ρ .Or (e::e2::es) b:=by
 refine⟨fun _ pos ow=>?_,fun _ pos ow=>?_,fun z=>by cases z⟩
 ·refine bR (Ek (h ow) (r.ed (by simp) pos ow)) fun σ H Q ⟨E,q⟩=>⟨E,fun v H1 s1 r1=>?_⟩
  rw[ai]at r1
  exact⟨false,r1,by rw[if_neg Vp];exact⟨E.same s1,fun w H2 s2 r2=>q w H2 (s1.trans s2) (r2.imp (Kp.back s1 0))⟩⟩
 ·intro wh pins s σ H Q I hq
  exact Eg (t ow) (r.tw (by simp) pos ow) wh pins s σ H Q I ⟨hq.1,fun H1 s1=>by dsimp only;rw[if_neg Vp];exact⟨hq.1.same s1,fun H2 s2=>hq.2 H2 (s1.trans s2)⟩⟩
theorem wf(h:ED X ρ e (.bl true) k)(t:TD X ρ e true)(ne:∀pos,∃t,PE X (.BoolOp .Or (e2::es) pos) t)(nw:∀pos,∃t,PW X (.BoolOp .Or (e2::es) pos) t):eY X ρ .Or (e::e2::es) true:=by
 refine⟨fun _ pos ow=>?_,fun _ pos ow=>?_,fun z=>by cases z⟩
 ·obtain⟨t2,h2⟩:=ne pos
  refine bR (Ek (h ow) h2) fun σ H Q ⟨E,q⟩=>⟨E,fun v H1 s1 r1=>?_⟩
  rw[ai]at r1
  exact⟨true,r1,by rw[if_pos rfl];exact q _ H1 s1 (by rw[ai])⟩
 ·obtain⟨t2,h2⟩:=nw pos
  intro wh pins s σ H Q I hq
  exact Eg (t ow) h2 wh pins s σ H Q I ⟨hq.1,fun H1 s1=>by dsimp only;rw[if_pos rfl];exact hq.2 H1 s1⟩
theorem ux:PE X e (fun _ _ _=>False):=fun _ _ _ _ _ _ h=>h.elim
theorem um:PW X e (fun _ _ _=>False):=fun _ _ _ _ _ _ _ h=>h.elim
theorem EU{b:Expr}{r:D×Nat}{l:List Prop}(h:az Φ b it sc ρ=.ok r l):behindInMarks op b=false:=by
 cases b<;>first|rfl|cases h
theorem xi{z:Str}(h:cT sc z=true)(hx:sc.names.lookup x=some .free):x≠z:=by
 intro e;subst e
 unfold cT at h
 rw[hx]at h
 revert h;decide
theorem zd:∀{es:List Expr} {ds:List D} {ρ ρ':af},bc sc es ds ρ=some ρ'->∀x y,sc.names.lookup x=some .free->ρ x=some y->ρ' x=some y:=by
 intro es
 induction es with
 | nil =>
  intro ds ρ ρ' h x y hx hl
  cases ds with
  | nil=>rw[bc]at h;cases h;exact hl
  | cons d ds=>cases h
 | cons e es ih =>
  intro ds ρ ρ' h x y hx hl
  cases ds with
  | nil=>cases e<;>cases h
  | cons d ds =>
   cases e with
   | Name z p =>
    rw[bc]at h
    split at h
    ·rename_i hz
     exact ih h x y hx (by rw[dl,if_neg (xi hz hx)];exact hl)
    ·cases h
   | _=>cases h
theorem BE(h:bJ sc tg d ρ=some ρ'):∀x y,sc.names.lookup x=some .free->ρ x=some y->ρ' x=some y:=by
 intro x y hx hl
 unfold bJ at h
 split at h
 ·split at h
  ·rename_i hz
   cases h
   rw[dl,if_neg (xi hz hx)];exact hl
  ·cases h
 ·split at h
  ·exact zd h x y hx hl
  ·cases h
 ·cases h
theorem ii{r:D×Nat}{l:List Prop}(h:az Φ e it sc ρ=.ok r l)(x:Value):foldedSetIterable e env x=pure x:=by
 cases e<;>first|rfl|cases h
mutual
theorem uL:∀x y:D,rF true x y=x
 | .int _,.int _=>rfl
 | .bl _,.bl _=>rfl
 | .tup l,.tup m=>by
  show(if l.length=m.length then D.tup (mj true l m)else cond true (.tup l) (.tup m))=.tup l
  split
  ·rename_i h;rw[AK l m h]
  ·rfl
 | .non,_=>rfl
 | .str _,_=>rfl
 | .dct _ _,_=>rfl
 | .lst _,_=>rfl
 | .typ _,_=>rfl
 | .sn _,_=>rfl
 | .obj _ _ _,_=>rfl
 | .cls _,_=>rfl
 | .xc _ _,_=>rfl
 | .int _,.non=>rfl
 | .int _,.bl _=>rfl
 | .int _,.str _=>rfl
 | .int _,.dct _ _=>rfl
 | .int _,.typ _=>rfl
 | .int _,.sn _=>rfl
 | .int _,.obj _ _ _=>rfl
 | .int _,.cls _=>rfl
 | .int _,.xc _ _=>rfl
 | .int _,.tup _=>rfl
 | .int _,.lst _=>rfl
 | .bl _,.non=>rfl
 | .bl _,.int _=>rfl
 | .bl _,.str _=>rfl
 | .bl _,.dct _ _=>rfl
 | .bl _,.typ _=>rfl
 | .bl _,.sn _=>rfl
 | .bl _,.obj _ _ _=>rfl
 | .bl _,.cls _=>rfl
 | .bl _,.xc _ _=>rfl
 | .bl _,.tup _=>rfl
 | .bl _,.lst _=>rfl
 | .tup _,.non=>rfl
 | .tup _,.int _=>rfl
 | .tup _,.bl _=>rfl
 | .tup _,.str _=>rfl
 | .tup _,.dct _ _=>rfl
 | .tup _,.typ _=>rfl
 | .tup _,.sn _=>rfl
 | .tup _,.obj _ _ _=>rfl
 | .tup _,.cls _=>rfl
 | .tup _,.xc _ _=>rfl
 | .tup _,.lst _=>rfl
theorem AK:∀l m:List D,l.length=m.length->mj true l m=l
 | [],[],_=>rfl
 | x::l,y::m,h=>by
  show rF true x y::mj true l m=x::l
  rw[uL x y,AK l m (by simpa using h)]
 | [],_::_,h=>by cases h
 | _::_,[],h=>by cases h
end
mutual
theorem uM:∀x y:D,rF false x y=y
 | .int _,.int _=>rfl
 | .bl _,.bl _=>rfl
 | .tup l,.tup m=>by
  show(if l.length=m.length then D.tup (mj false l m)else cond false (.tup l) (.tup m))=.tup m
  split
  ·rename_i h;rw[AL l m h]
  ·rfl
 | .non,_=>rfl
 | .str _,_=>rfl
 | .dct _ _,_=>rfl
 | .lst _,_=>rfl
 | .typ _,_=>rfl
 | .sn _,_=>rfl
 | .obj _ _ _,_=>rfl
 | .cls _,_=>rfl
 | .xc _ _,_=>rfl
 | .int _,.non=>rfl
 | .int _,.bl _=>rfl
 | .int _,.str _=>rfl
 | .int _,.dct _ _=>rfl
 | .int _,.typ _=>rfl
 | .int _,.sn _=>rfl
 | .int _,.obj _ _ _=>rfl
 | .int _,.cls _=>rfl
 | .int _,.xc _ _=>rfl
 | .int _,.tup _=>rfl
 | .int _,.lst _=>rfl
 | .bl _,.non=>rfl
 | .bl _,.int _=>rfl
 | .bl _,.str _=>rfl
 | .bl _,.dct _ _=>rfl
 | .bl _,.typ _=>rfl
 | .bl _,.sn _=>rfl
 | .bl _,.obj _ _ _=>rfl
 | .bl _,.cls _=>rfl
 | .bl _,.xc _ _=>rfl
 | .bl _,.tup _=>rfl
 | .bl _,.lst _=>rfl
 | .tup _,.non=>rfl
 | .tup _,.int _=>rfl
 | .tup _,.bl _=>rfl
 | .tup _,.str _=>rfl
 | .tup _,.dct _ _=>rfl
 | .tup _,.typ _=>rfl
 | .tup _,.sn _=>rfl
 | .tup _,.obj _ _ _=>rfl
 | .tup _,.cls _=>rfl
 | .tup _,.xc _ _=>rfl
 | .tup _,.lst _=>rfl
theorem AL:∀l m:List D,l.length=m.length->mj false l m=m
 | [],[],_=>rfl
 | x::l,y::m,h=>by
  show rF false x y::mj false l m=y::m
  rw[uM x y,AL l m (by simpa using h)]
 | [],_::_,h=>by cases h
 | _::_,[],h=>by cases h
end
theorem Ev:A6 true k j=k:=by unfold A6;split<;>rfl
theorem Ew:A6 false k j=j:=by
 unfold A6;split
 ·assumption
 ·rfl
theorem xp{r s:R1}{d:D×Nat}{l:List Prop}(h:EE t r s=.ok d l)(hp:aM l):∃m,(if t=true then r else s)=.ok d m/\aM m:=by
 unfold EE at h
 split at h
 ·cases t with
  | true=>cases h
  | false=>exact⟨l,h,hp⟩
 ·rename_i p m
  split at h
  ·cases t with
   | true=>exact⟨l,h,hp⟩
   | false=>cases h
  ·rename_i q n
   cases h
   obtain⟨p1,p2⟩:=dO.mp hp
   cases t with
   | true=>exact⟨m,by rw[uL,Ev];rfl,qu p1 rfl⟩
   | false=>exact⟨n,by rw[uM,Ew];rfl,qu p2 rfl⟩
theorem n4{p:D×Nat}{f:Bool->Rs α}{a:α}{l:List Prop}(h:jz p f=.ok a l):∃b,p.1=.bl b/\f b=.ok a l:=by
 unfold jz at h
 split at h
 ·rename_i b e;exact⟨b,e,h⟩
 ·cases h
theorem C6{p:D×Nat}{f:Int->R1}{a:D×Nat}{l:List Prop}(h:kF p f=.ok a l):∃b,p.1=.int b/\f b=.ok a l:=by
 unfold kF at h
 split at h
 ·rename_i b e;exact⟨b,e,h⟩
 ·cases h
structure Ih(Φ:Fx)(n:Nat):Prop where
 e:∀(e:Expr) {it:Bool} {sc:Scope} {ρ:af} {p:D×Nat} {l:List Prop} {X:Cx},sizeOf e<n->az Φ e it sc ρ=.ok p l->aM l->aS Φ X sc->fW X ρ e it p.1 p.2
 es:∀(es:List Expr) {sc:Scope} {ρ:af} {p:List D×Nat} {l:List Prop} {X:Cx},sizeOf es<n->bG Φ es sc ρ=.ok p l->aM l->aS Φ X sc->AD X ρ es p.1 p.2
 b:∀(op:BoolOp) (es:List Expr) {sc:Scope} {ρ:af} {b:Bool} {l:List Prop} {X:Cx},sizeOf es<n->dZ Φ op es sc ρ=.ok b l->aM l->aS Φ X sc->eY X ρ op es b
 o:∀(e:Option Expr) {sc:Scope} {ρ:af} {o:Option Int} {l:List Prop} {X:Cx},sizeOf e<n->sH Φ e sc ρ=.ok o l->aM l->aS Φ X sc->OD X ρ e o
theorem bo{a b:Nat}(h:a<b)(hs:b<n+1):a<n:=Vj h (Nat.le_of_lt_succ hs)
section
variable{Φ:Fx}{n:Nat}{it:Bool}{sc:Scope}{ρ:af}{r:D×Nat}{l:List Prop}{X:Cx}
theorem Fs(h:kD Φ x sc ρ=.ok r l)(G:aS Φ X sc):fW X ρ (.Name x pos) it r.1 r.2:=by
 unfold kD at h
 split at h
 ·rename_i hx
  split at h
  ·rename_i hg
   split at h
   ·rename_i d hd;cases h;exact cg (KB G hd hg hx) (fun _=>rfl)
   ·split at h
    ·rename_i T hT;cases h;exact cg (Kv G hT hg) (fun _=>rfl)
    ·cases h
  ·split at h
   ·rename_i p hl
    unfold mk at h;cases h
    exact cg (xB (o:=p.2) hl hx) (fun _=>rfl)
   ·cases h
 ·cases h
theorem Ij(I:Ih Φ n){b:Expr}{op:Operator}(hs:sizeOf (Expr.BinOp a op b pos)<n+1)(h:az Φ (.BinOp a op b pos) it sc ρ=.ok r l)(hp:aM l)(G:aS Φ X sc):fW X ρ (.BinOp a op b pos) it r.1 r.2:=by
 obtain⟨p,l1,l2,h1,p1,h,p2⟩:=aU (show Rs.bnd _ _=_ from h) hp
 obtain⟨q,l3,l4,h2,p3,h,p4⟩:=aU h p2
 exact cg (KE ((I.e a (bo (by simp<;>omega) hs) h1 p1 G).ed rfl) ((I.e b (bo (by simp<;>omega) hs) h2 p3 G).ed rfl) h p4) (fun _=>rfl)
theorem Mu(I:Ih Φ n){op:UnaryOp}(hs:sizeOf (Expr.UnaryOp op a pos)<n+1)(h:az Φ (.UnaryOp op a pos) it sc ρ=.ok r l)(hp:aM l)(G:aS Φ X sc):fW X ρ (.UnaryOp op a pos) it r.1 r.2:=by
 obtain⟨p,l1,l2,h1,p1,h,p2⟩:=aU (show Rs.bnd _ _=_ from h) hp
 split at h
 ·rename_i z hu
  cases h
  have c:=I.e a (bo (by simp<;>omega) hs) h1 p1 G
  refine .of (Nw (c.ed rfl) hu) fun b hb=>?_
  have hb:z=.bl b:=hb
  subst hb
  unfold zV at hu
  split at hu
  ·cases hu
  ·rename_i e;cases hu;exact HX (c.td rfl _ e)
  ·cases hu
 ·cases h
theorem Ii(I:Ih Φ n){b:Expr}(hs:sizeOf (Expr.Compare a [op] [b] pos)<n+1)(h:az Φ (.Compare a [op] [b] pos) it sc ρ=.ok r l)(hp:aM l)(G:aS Φ X sc):fW X ρ (.Compare a [op] [b] pos) it r.1 r.2:=by
 obtain⟨p,l1,l2,h1,p1,h,p2⟩:=aU (show Rs.bnd _ _=_ from h) hp
 obtain⟨q,l3,l4,h2,p3,h,p4⟩:=aU h p2
 obtain⟨z,l5,l6,hc,p5,h,p6⟩:=aU h p4
 cases h
 have ca:=(I.e a (bo (by simp<;>omega) hs) h1 p1 G).ed rfl
 have cb:=(I.e b (bo (by simp<;>omega) hs) h2 p3 G).ed rfl
 exact .of (KC G.room ca cb hc p5 (EU h2)) fun b' hb'=>by cases hb';exact HY G.room ca cb hc p5 (EU h2)
theorem Ci(I:Ih Φ n){b:Expr}(hs:sizeOf (Expr.Compare a [op,op2] [b,c] pos)<n+1)(h:az Φ (.Compare a [op,op2] [b,c] pos) it sc ρ=.ok r l)(hp:aM l)(G:aS Φ X sc):fW X ρ (.Compare a [op,op2] [b,c] pos) it r.1 r.2:=by
 obtain⟨p,l1,l2,h1,p1,h,p2⟩:=aU (show Rs.bnd _ _=_ from h) hp
 obtain⟨q,l3,l4,h2,p3,h,p4⟩:=aU h p2
 obtain⟨t,l5,l6,h3,p5,h,p6⟩:=aU h p4
 obtain⟨x,y,z,r1,r2,e1,e2,e3,k1,k2,rfl⟩:=Hd h
 have ca:=(I.e a (bo (by simp<;>omega) hs) h1 p1 G).ed rfl
 have cb:=(I.e b (bo (by simp<;>omega) hs) h2 p3 G).ed rfl
 have cc:=(I.e c (bo (by simp<;>omega) hs) h3 p5 G).ed rfl
 rw[e1]at ca
 rw[e2]at cb
 rw[e3]at cc
 exact .of (Dn G.room ca cb cc k1 k2 (EU h3)) fun b' hb'=>by cases hb';exact Cf G.room ca cb cc k1 k2 (EU h3)
theorem Mv(I:Ih Φ n){b:Expr}(hs:sizeOf (Expr.IfExp c a b pos)<n+1)(h:az Φ (.IfExp c a b pos) it sc ρ=.ok r l)(hp:aM l)(G:aS Φ X sc):fW X ρ (.IfExp c a b pos) it r.1 r.2:=by
 obtain⟨p,l1,l2,h1,p1,h,p2⟩:=aU (show Rs.bnd _ _=_ from h) hp
 obtain⟨t,ht,h⟩:=n4 h
 obtain⟨m,he,hm⟩:=xp h p2
 have hc:=(I.e c (bo (by simp<;>omega) hs) h1 p1 G).td rfl t ht
 cases t with
 | true =>
  rw[if_pos rfl]at he
  have ha:=I.e a (bo (by simp<;>omega) hs) he hm G
  refine .of (EK hc (by rw[if_pos rfl];exact ha.ed rfl)) fun b' hb'=>?_
  intro ow pins s σ H Q I ⟨E,q⟩
  refine isTrue_IfExp (aQ (hc ow pins s σ H (fun t H1=>t=true/\aA H H1) I ⟨E,fun H1 s1=>⟨rfl,s1⟩⟩) fun t s1 ⟨H1,I1,e1,s1'⟩=>?_)
  subst e1
  exact ha.td rfl b' hb' ow pins s1 σ H1 Q I1 ⟨E.same s1',fun H2 s2=>q H2 (s1'.trans s2)⟩
 | false =>
  rw[if_neg Vp]at he
  have hb:=I.e b (bo (by simp<;>omega) hs) he hm G
  refine .of (EK hc (by rw[if_neg Vp];exact hb.ed rfl)) fun b' hb'=>?_
  intro ow pins s σ H Q I ⟨E,q⟩
  refine isTrue_IfExp (aQ (hc ow pins s σ H (fun t H1=>t=false/\aA H H1) I ⟨E,fun H1 s1=>⟨rfl,s1⟩⟩) fun t s1 ⟨H1,I1,e1,s1'⟩=>?_)
  subst e1
  exact hb.td rfl b' hb' ow pins s1 σ H1 Q I1 ⟨E.same s1',fun H2 s2=>q H2 (s1'.trans s2)⟩
theorem qd{r:D×Nat}{l:List Prop}(h:az Φ e it sc ρ=.ok r l):fV e:=by
 cases e<;>first|(intro _ _;rfl)|cases h
theorem Ed(I:Ih Φ n){i:Expr}(hs:sizeOf (Expr.Subscript a i pos)<n+1)(h:((az Φ a false sc ρ).bnd fun p=>(az Φ i false sc ρ).bnd fun q=>kr p q)=.ok r l)(hp:aM l)(G:aS Φ X sc):fW X ρ (.Subscript a i pos) it r.1 r.2:=by
 obtain⟨p,l1,l2,h1,p1,h,p2⟩:=aU h hp
 obtain⟨q,l3,l4,h2,p3,h,p4⟩:=aU h p2
 exact cg (Kw ((I.e a (bo (by simp<;>omega) hs) h1 p1 G).ed rfl) ((I.e i (bo (by simp<;>omega) hs) h2 p3 G).ed rfl) (qd h2) h) (fun _=>rfl)
theorem Ch(I:Ih Φ n)(hs:sizeOf (Expr.Subscript a (.Slice lo hi none p2) pos)<n+1)(h:az Φ (.Subscript a (.Slice lo hi none p2) pos) it sc ρ=.ok r l)(hp:aM l)(G:aS Φ X sc):fW X ρ (.Subscript a (.Slice lo hi none p2) pos) it r.1 r.2:=by
 obtain⟨p,l1,l2,h1,p1,h,q2⟩:=aU (show Rs.bnd _ _=_ from h) hp
 obtain⟨q,l3,l4,h2,p3,h,p4⟩:=aU h q2
 obtain⟨q',l5,l6,h3,p5,h,p6⟩:=aU h p4
 exact cg (G.slf X ρ a lo hi p2 pos p.1 r.1 q q' p.2 r.2 l6 ((I.e a (bo (by simp<;>omega) hs) h1 p1 G).ed rfl) (I.o lo (bo (by simp<;>omega) hs) h2 p3 G) (I.o hi (bo (by simp<;>omega) hs) h3 p5 G) h p6) (fun _=>rfl)
theorem Ig(I:Ih Φ n){i:Expr}(hs:sizeOf (Expr.Subscript a i pos)<n+1)(h:az Φ (.Subscript a i pos) it sc ρ=.ok r l)(hp:aM l)(G:aS Φ X sc):fW X ρ (.Subscript a i pos) it r.1 r.2:=by
 cases i with
 | Slice lo hi st p2 =>
  cases st with
  | none=>exact Ch I hs h hp G
  | some e=>exact Ed I hs h hp G
 | _=>exact Ed I hs h hp G
theorem Ft(I:Ih Φ n)(hs:sizeOf args<n)(hf:sc.names.lookup f=some .globalImplicit)(h0:((bG Φ args sc ρ).bnd fun p=>kO Φ f it p.1 p.2)=.ok r l)(hp:aM l)(G:aS Φ X sc):fW X ρ (.Call (.Name f p) args [] pos) it r.1 r.2:=by
 obtain⟨q,l1,l2,h1,p1,h,p2⟩:=aU h0 hp
 clear h0
 have ha:=I.es args hs h1 p1 G
 obtain⟨hst,hlen⟩:=b0 h1 p1
 unfold kO at h
 split at h
 ·rename_i F hF
  obtain⟨d,l3,l4,h2,p3,h,p4⟩:=aU h p2
  cases h
  exact cg (G8 G hF hf ha hst (fun z=>by subst z;exact List.length_eq_zero_iff.mp hlen.symm) h2 p3) (fun _=>rfl)
 ·split at h
  ·rename_i B hB
   split at hB
   ·rename_i hit
    have hI:=G.itr f B hB
    refine⟨fun z=>(by rw[hit]at z;cases z),fun z=>(by rw[hit]at z;cases z),fun _ tg l' hl ht=>?_⟩
    exact hI.2 X ρ p pos args q.1 q.2 r.1 r.2 l' tg l2 G.calm (G.gl f hf) (G.bl f hI.1) ha hst hlen h p2 hl ht
   ·cases hB
  ·split at h
   ·rename_i B hB
    have hb:=G.blt f B hB
    cases args with
    | nil =>
     have e0:q.1=[]:=List.length_eq_zero_iff.mp hlen.symm
     rw[e0,hb.2.2.2.1]at h;cases h
    | cons e es=>exact cg (KD G hb hf ha hst h p2) (fun _=>rfl)
   ·cases h
theorem Cj(I:Ih Φ n)(hs:sizeOf (Expr.Call (.Name f p) args [] pos)<n+1)(h:az Φ (.Call (.Name f p) args [] pos) it sc ρ=.ok r l)(hp:aM l)(G:aS Φ X sc):fW X ρ (.Call (.Name f p) args [] pos) it r.1 r.2:=by
 rw[i7]at h
 split at h
 ·rename_i hf
  exact Ft I (bo (by simp<;>omega) hs) hf h hp G
 ·cases h
theorem Ck(I:Ih Φ n)(hs:sizeOf (Expr.Call (.Attribute a m ap) args [] pos)<n+1)(h:az Φ (.Call (.Attribute a m ap) args [] pos) it sc ρ=.ok r l)(hp:aM l)(G:aS Φ X sc):fW X ρ (.Call (.Attribute a m ap) args [] pos) it r.1 r.2:=by
 rw[vt]at h
 split at h
 ·rename_i hln
  obtain⟨p,l1,l2,h1,p1,h,p2⟩:=aU h hp
  obtain⟨q,l3,l4,h2,p3,h,p4⟩:=aU h p2
  obtain⟨hst,hlen⟩:=b0 h2 p3
  have hea:=(I.e a (bo (by simp<;>omega) hs) h1 p1 G).ed rfl
  have hes:=I.es args (bo (by simp<;>omega) hs) h2 p3 G
  obtain⟨x,kx⟩:=p
  unfold CM at h
  dsimp only at h hea
  split at h
  ·rename_i hb
   split at h
   ·rename_i M hM
    exact cg (G.mth m M hM X ρ a args ap pos x kx q.1 q.2 r.1 r.2 l4 G.calm G.room hea hes hst hlen hln hb h p4) (fun _=>rfl)
   ·cases h
  ·cases h
 ·cases h
theorem Fo{q:List D×Nat}{m:List Prop}(hE:∀{ρ:af} {p:D×Nat} {l:List Prop} {X:Cx},az Φ elt false scope ρ=.ok p l->aM l->aS Φ X scope->fW X ρ elt false p.1 p.2)
    (hB:∀{ρ:af} {b:Bool} {l:List Prop} {X:Cx},dZ Φ .And ifs scope ρ=.ok b l->aM l->aS Φ X scope->eY X ρ .And ifs b) (hc:qH sc scope=true) (G:aS Φ X sc)
    (h:iE (fun d=>match bJ scope tg d (flt scope ρ)with
            | none=>.st
            | some ρ'=>(dZ Φ .And ifs scope ρ').bnd fun b=>cond b ((az Φ elt false scope ρ').bnd fun r=>.ok (some r) []) (.ok none [])) ds=.ok q m) (hp:aM m) (hj:q.2<=1) :
    ∃f:D->Option D,q.1=ds.filterMap f/\∀cl C s H fp,∀d∈ds,n6 (mC X scope cl C (scope.names.map (·.1)) s H fp) (flt scope ρ) tg ifs elt q.2 d (f d):=by
  generalize hst:(fun d=>match bJ scope tg d (flt scope ρ)with
            | none=>.st
            | some ρ'=>(dZ Φ .And ifs scope ρ').bnd fun b=>cond b ((az Φ elt false scope ρ').bnd fun r=>.ok (some r) []) (.ok none []):D->Rs (Option (D×Nat)))=step at h
  obtain⟨c1,c2,c3⟩:=vC h hp
  refine⟨_,c2,fun cl C s H fp d hd=>?_⟩
  have G':=Gx (cl:=cl) (C:=C) (s:=s) (H:=H) (fp:=fp) G hc
  obtain⟨x,lx,hx,px⟩:=c1 d hd
  have c3:=c3 hj d hd
  have hs:=congrFun hst d
  unfold tf
  rw[hx]
  split at hs
  . rw[<- hs]at hx;cases hx
  . rename_i ρ' hb
    have gd:=nW G' hb
    have ext:∀x y,flt scope ρ x=some y->ρ' x=some y:=fun x y hxy=>BE hb x y (kJ hxy).2 hxy
    have hx0:=hx
    rw[<- hs]at hx
    obtain⟨b,l3,l4,h2,p3,hx,p4⟩:=aU hx px
    have ts:=(hB h2 p3 G').ts rfl
    cases b with
    | false =>
      cases hx
      exact⟨ρ',false,gd,ext,ts,rfl⟩
    | true =>
      rw[cond_true]at hx
      obtain⟨z,l5,l6,h3,p5,hx,p6⟩:=aU hx p4
      cases hx
      exact⟨ρ',true,gd,ext,ts,rfl,((hE h3 p5 G').ed rfl).up (c3 z lx hx0) hj⟩
theorem wy(I:Ih Φ n)(hs:sizeOf (Expr.ListComp elt [⟨tg,iter,ifs,0⟩] scope pos)<n+1)(h:az Φ (.ListComp elt [⟨tg,iter,ifs,0⟩] scope pos) it sc ρ=.ok r l)(hp:aM l)(G:aS Φ X sc) :
  ∃ds f k,(ar ds=true\/k<=1)/\r.2<=1/\ds.length<sizeLine/\ip X.env scope (scope.names.map (·.1))/\(∀x d o,flt scope ρ x=some (d,o)->x∈scope.names.map (·.1))/\IE X ρ tg iter ds k /\
   (∀cl C s H fp,∀d∈ds,n6 (mC X scope cl C (scope.names.map (·.1)) s H fp) (flt scope ρ) tg ifs elt r.2 d (f d))/\(∀x,foldedSetIterable iter X.env x=pure x)/\r.1=.lst (ds.filterMap f):=by
 rw[rP]at h
 split at h
 ·rename_i hc
  obtain⟨p,l1,l2,h1,p1,h,p2⟩:=aU h hp
  split at h
  ·rename_i ds hd
   split at h
   ·rename_i ht
    obtain⟨u0,l7,l8,h7,p7,h,p8⟩:=aU h p2
    cases h7
    have hl:=And.intro p7.1 p7.2.1
    obtain⟨q,l3,l4,h2,p3,h,p4⟩:=aU h p8
    split at h
    ·rename_i hj
     cases h
     obtain⟨f,e1,t⟩:=Fo (fun a b c=>I.e elt (by first|omega|(simp at *;omega)) a b c) (fun a b c=>I.b .And ifs (by first|omega|(simp at *;omega)) a b c) hc G h2 p3 hj
     refine⟨ds,f,p.2,hl.2,hj,VE hl.1 ml,Bu G hc,fun x d o hx=>qi (kJ hx).2,(I.e iter (by first|omega|(simp at *;omega)) h1 p1 G).ie rfl tg ds hd ht,t,ii h1,by rw[e1]⟩
    ·cases h
   ·cases h
  ·cases h
 ·cases h
theorem rK{gens:List Comprehension}(h:az Φ (.ListComp elt gens scope pos) it sc ρ=.ok r l):∃tg iter ifs,gens=[⟨tg,iter,ifs,0⟩]:=by
 match gens,h with
 | [⟨tg,iter,ifs,0⟩],h=>exact⟨_,_,_,rfl⟩
 | [],h=>cases h
 | ⟨_,_,_,.ofNat (n+1)⟩::r,h=>cases r<;>cases h
 | ⟨_,_,_,.negSucc n⟩::_,h=>cases h
 | ⟨_,_,_,0⟩::_::_,h=>cases h
theorem Np(I:Ih Φ n)(e:Expr)(hs:sizeOf e<n+1)(h:az Φ e it sc ρ=.ok r l)(hp:aM l)(G:aS Φ X sc):fW X ρ e it r.1 r.2:=by
 cases e with
 | Constant c k p =>
  replace h:(match EQ c with|some d=>.ok (d,0) []|none=>.st:R1)=.ok r l:=h
  split at h
  ·rename_i d hc;cases h;exact cg (KA hc) (fun _=>rfl)
  ·cases h
 | Name x p=>exact Fs h G
 | BinOp a op b p=>exact Ij I hs h hp G
 | UnaryOp op a p=>exact Mu I hs h hp G
 | BoolOp op es p =>
  rw[rQ]at h
  split at h
  ·cases h
  ·rename_i hne
   obtain⟨b,l1,l2,h1,p1,h,p2⟩:=aU h hp
   cases h
   have ne:es≠[]:=fun z=>hne (by rw[z];rfl)
   have c:=I.b op es (bo (by simp<;>omega) hs) h1 p1 G
   exact .of (c.ed ne p) fun b' hb'=>by cases hb';exact fun ow=>(c.tw ne p ow).pt
 | Compare a ops bs p =>
  match ops,bs,hs,h with
  | [op],[b],hs,h=>exact Ii I hs h hp G
  | [],bs,_,h=>cases h
  | [op],[],_,h=>cases h
  | [op],_::_::_,_,h=>cases h
  | [op,op2],[b,c],hs,h=>exact Ci I hs h hp G
  | [_,_],[],_,h=>cases h
  | [_,_],[_],_,h=>cases h
  | [_,_],_::_::_::_,_,h=>cases h
  | _::_::_::_,bs,_,h=>cases h
 | IfExp c a b p=>exact Mv I hs h hp G
 | Tuple es k p =>
  obtain⟨q,l1,l2,h1,p1,h,p2⟩:=aU (show Rs.bnd _ _=_ from h) hp
  split at h
  ·rename_i hl
   unfold mk at h;cases h
   exact cg (vy (I.es es (bo (by simp<;>omega) hs) h1 p1 G) hl) (fun _=>rfl)
  ·cases h
 | List es p =>
  obtain⟨q,l1,l2,h1,p1,h,p2⟩:=aU (show Rs.bnd _ _=_ from h) hp
  split at h
  ·rename_i hl
   cases h
   exact cg (xD (I.es es (bo (by simp<;>omega) hs) h1 p1 G) hl.2 hl.1) (fun _=>rfl)
  ·cases h
 | Attribute a f p =>
  cases a with
  | Name x pn =>
   obtain⟨q,l1,l2,h1,p1,h,p2⟩:=aU (show Rs.bnd _ _=_ from h) hp
   have hea:=(I.e (.Name x pn) (bo (by simp<;>omega) hs) (it:=false) h1 p1 G).ed rfl
   obtain⟨d,kd⟩:=q
   unfold Kb at h
   dsimp only at h hea
   split at h
   ·rename_i n ns ds
    split at h
    ·rename_i hf
     split at h
     ·rename_i e hl
      cases h
      exact cg (Ky G hf hea rfl hl) (fun _=>rfl)
     ·cases h
    ·cases h
   ·split at h
    ·rename_i hf
     subst hf
     cases h
     exact cg (G3 hea rfl) (fun _=>rfl)
    ·cases h
   ·cases h
  | _=>cases h
 | Dict ks vs p =>
  match ks,vs,h with
  | [],[],h=>cases h;exact cg Kz (fun _=>rfl)
  | _::_,_,h=>cases h
  | [],_::_,h=>cases h
 | Subscript a i p=>exact Ig I hs h hp G
 | Call f args kws p =>
  cases f with
  | Name f fp =>
   cases kws with
   | nil=>exact Cj I hs h hp G
   | cons _ _=>cases h
  | Attribute a m ap =>
   cases kws with
   | nil=>exact Ck I hs h hp G
   | cons _ _=>cases h
  | _=>cases h
 | ListComp elt gens scope p =>
  obtain⟨tg,iter,ifs,rfl⟩:=rK h
  obtain⟨ds,f,k,a1,a2,a3,a4,a5,a6,a7,a8,a9⟩:=wy I hs h hp G
  rw[a9]
  exact cg (G6 G.calm G.nd a1 a2 a3 a4 a5 a6 a7 a8) (fun _=>rfl)
 | _=>cases h
theorem Kj(I:Ih Φ n)(es:List Expr){r:List D×Nat}(hs:sizeOf es<n+1)(h:bG Φ es sc ρ=.ok r l)(hp:aM l)(G:aS Φ X sc):AD X ρ es r.1 r.2:=by
 cases es with
 | nil=>cases h;exact jc
 | cons e es =>
  obtain⟨p,l1,l2,h1,p1,h,p2⟩:=aU (show Rs.bnd _ _=_ from h) hp
  obtain⟨q,l3,l4,h2,p3,h,p4⟩:=aU h p2
  cases h
  exact d6 ((I.e e (bo (by simp<;>omega) hs) h1 p1 G).ed rfl) (I.es es (bo (by simp<;>omega) hs) h2 p3 G) (aG (iD h1))
theorem vO{c:Bool}{r:Rs Bool}{l:List Prop}(h:zg b r=.ok c l)(hp:aM l):(b=true/\∃m,r=.ok c m/\aM m)\/(b=false/\c=false):=by
 unfold zg at h
 split at h
 ·rename_i c' m
  cases h
  cases b with
  | true=>exact .inl ⟨rfl,m,rfl,qu hp rfl⟩
  | false=>exact .inr ⟨rfl,rfl⟩
 ·cases b with
  | true=>cases h
  | false=>cases h;exact .inr ⟨rfl,rfl⟩
theorem wQ{c:Bool}{r:Rs Bool}{l:List Prop}(h:Ep b r=.ok c l)(hp:aM l):(b=false/\∃m,r=.ok c m/\aM m)\/(b=true/\c=true):=by
 unfold Ep at h
 split at h
 ·rename_i c' m
  cases h
  cases b with
  | false=>exact .inl ⟨rfl,m,rfl,qu hp rfl⟩
  | true=>exact .inr ⟨rfl,rfl⟩
 ·cases b with
  | false=>cases h
  | true=>cases h;exact .inr ⟨rfl,rfl⟩
theorem Kl(I:Ih Φ n)(op:BoolOp)(es:List Expr)(hs:sizeOf es<n+1)(h:dZ Φ op es sc ρ=.ok b l)(hp:aM l)(G:aS Φ X sc):eY X ρ op es b:=by
 cases es with
 | nil =>
  cases op with
  | And=>cases h;exact⟨fun z=>absurd rfl z,fun z=>absurd rfl z,fun _=>Ab⟩
  | Or=>cases h;exact⟨fun z=>absurd rfl z,fun z=>absurd rfl z,fun z=>(by cases z)⟩
 | cons e es =>
  cases op with
  | And =>
   obtain⟨p,l1,l2,h1,p1,h,p2⟩:=aU (show Rs.bnd _ _=_ from h) hp
   obtain⟨b',hb,h⟩:=n4 h
   have c:=I.e e (bo (by simp<;>omega) hs) h1 p1 G
   have ce:=c.ed rfl
   rw[hb]at ce
   have ct:=c.td rfl b' hb
   rcases vO h p2 with⟨rfl,m,h,pm⟩|⟨rfl,rfl⟩
   ·cases es with
    | nil=>cases h;exact gW ce ct
    | cons e2 es=>exact wg ce ct (I.b .And (e2::es) (bo (by simp<;>omega) hs) h pm G)
   ·cases es with
    | nil=>exact gW ce ct
    | cons e2 es=>exact vH ce ct (fun pos=>⟨_,ux⟩) (fun pos=>⟨_,um⟩)
  | Or =>
   obtain⟨p,l1,l2,h1,p1,h,p2⟩:=aU (show Rs.bnd _ _=_ from h) hp
   obtain⟨b',hb,h⟩:=n4 h
   have c:=I.e e (bo (by simp<;>omega) hs) h1 p1 G
   have ce:=c.ed rfl
   rw[hb]at ce
   have ct:=c.td rfl b' hb
   rcases wQ h p2 with⟨rfl,m,h,pm⟩|⟨rfl,rfl⟩
   ·cases es with
    | nil=>cases h;exact gW ce ct
    | cons e2 es=>exact zc ce ct (I.b .Or (e2::es) (bo (by simp<;>omega) hs) h pm G)
   ·cases es with
    | nil=>exact gW ce ct
    | cons e2 es=>exact wf ce ct (fun pos=>⟨_,ux⟩) (fun pos=>⟨_,um⟩)
theorem Kk(I:Ih Φ n)(e:Option Expr){o:Option Int}(hs:sizeOf e<n+1)(h:sH Φ e sc ρ=.ok o l)(hp:aM l)(G:aS Φ X sc):OD X ρ e o:=by
 cases e with
 | none=>cases h;exact wU
 | some e =>
  obtain⟨p,l1,l2,h1,p1,h,p2⟩:=aU (show Rs.bnd _ _=_ from h) hp
  have c:=(I.e e (bo (by simp<;>omega) hs) h1 p1 G).ed rfl
  split at h
  ·rename_i i hi
   cases h
   rw[hi]at c
   exact wT c
  ·cases h
end
theorem iZ(Φ:Fx):∀n,Ih Φ n
 | 0=>⟨fun _ _ _ _ _ _ _ h=>absurd h (V7 _),fun _ _ _ _ _ _ h=>absurd h (V7 _),fun _ _ _ _ _ _ _ h=>absurd h (V7 _),fun _ _ _ _ _ _ h=>absurd h (V7 _)⟩
 | n+1=>⟨fun e _ _ _ _ _ _ hs h hp G=>Np (iZ Φ n) e hs h hp G,fun e _ _ _ _ _ hs h hp G=>Kj (iZ Φ n) e hs h hp G,fun op e _ _ _ _ _ hs h hp G=>Kl (iZ Φ n) op e hs h hp G,fun e _ _ _ _ _ hs h hp G=>Kk (iZ Φ n) e hs h hp G⟩
theorem Nq(e:Expr){p:D×Nat}{l:List Prop}(h:az Φ e it sc ρ=.ok p l)(hp:aM l)(G:aS Φ X sc):fW X ρ e it p.1 p.2:=(iZ Φ _).e e (Vy _) h hp G
theorem fF(es:List Expr){p:List D×Nat}{l:List Prop}(h:bG Φ es sc ρ=.ok p l)(hp:aM l)(G:aS Φ X sc):AD X ρ es p.1 p.2:=(iZ Φ _).es es (Vy _) h hp G
structure bg(ow:Ow)(H:Hp)(ow':Ow)(H':Hp):Prop where
 keep:∀a o,H a=some o->(nm o\/ow a=none)->H' a=some o
 low:∀a o,H a=some o->ow a=none->ow' a=none
theorem bg.refl(ow:Ow)(H:Hp):bg ow H ow H:=⟨fun _ _ h _=>h,fun _ _ _ h=>h⟩
theorem bg.same(s:aA H H'):bg ow H ow H':=⟨fun a o h _=>s a o h,fun _ _ _ h=>h⟩
theorem bg.trans{ow1 ow2:Ow}{H2:Hp}(a:bg ow H ow1 H1)(b:bg ow1 H1 ow2 H2):bg ow H ow2 H2 :=
 ⟨fun x o h c=>b.keep x o (a.keep x o h c) (c.imp id fun z=>a.low x o h z),fun x o h z=>b.low x o (a.keep x o h (.inr z)) (a.low x o h z)⟩
def ck(H0:Hp)(ow:Ow)(H:Hp):Prop:=∀a o,H0 a=some o->H a=some o/\ow a=none
theorem ck.keep(b:ck H0 ow H)(k:bg ow H ow' H'):ck H0 ow' H':=fun a o h=>let ⟨h1,h2⟩:=b a o h;⟨k.keep a o h1 (.inr h2),k.low a o h1 h2⟩
theorem ck.sm(b:ck H0 ow H):aA H0 H:=fun a o h=>(b a o h).1
variable{X:Cx}
def pH(X:Cx)(H0:Hp)(ow:Ow)(H:Hp)(fl:Fl)(D:lh):Prop :=
 match fl with
 | .nx ρ => ∀ow' σ' H',aO X ow' H' σ' ρ->σ'.length=X.N.length->bg ow H ow' H'->D.nx σ' H'
 | .bk ρ => ∀ow' σ' H',aO X ow' H' σ' ρ->σ'.length=X.N.length->bg ow H ow' H'->D.bk σ' H'
 | .ct ρ => ∀ow' σ' H',aO X ow' H' σ' ρ->σ'.length=X.N.length->bg ow H ow' H'->D.ct σ' H'
 | .rt d => ∀v H',aA H0 H'->ai X.K H' (fun a b=>b=true/\H0 a=none) d v->D.rt v H'
theorem pH.keep{D:lh}(p:pH X H0 ow H fl D)(k:bg ow H ow' H'):pH X H0 ow' H' fl D:=by
 cases fl with
 | nx ρ=>exact fun ow2 σ2 H2 a b c=>p ow2 σ2 H2 a b (k.trans c)
 | bk ρ=>exact fun ow2 σ2 H2 a b c=>p ow2 σ2 H2 a b (k.trans c)
 | ct ρ=>exact fun ow2 σ2 H2 a b c=>p ow2 σ2 H2 a b (k.trans c)
 | rt d=>exact p
def Ae(X:Cx)(H0:Hp)(ρ:af)(fl:Fl):TS:=fun D σ H => ∃ow,aO X ow H σ ρ/\σ.length=X.N.length/\ck H0 ow H/\pH X H0 ow H fl D
def SD(X:Cx)(H0:Hp)(ρ:af)(st:Stmt)(fl:Fl):Prop:=PS X st (Ae X H0 ρ fl)
def fo(X:Cx)(H0:Hp)(ρ:af)(st:List Stmt)(fl:Fl):Prop:=fe X st (Ae X H0 ρ fl)
theorem Fu:fo X H0 ρ [] (.nx ρ):=fun pins s σ H D I ⟨ow,E,hl,B,q⟩=>rk pins s σ H D I (q ow σ H E hl (bg.refl _ _))
theorem ff{ρ1:af}(h1:SD X H0 ρ st (.nx ρ1))(h2:fo X H0 ρ1 ss fl):fo X H0 ρ (st::ss) fl:=fun pins s σ H D I ⟨ow,E,hl,B,q⟩ =>
 fh h1 h2 pins s σ H D I ⟨ow,E,hl,B,fun ow' σ' H' E' hl' k=>⟨ow',E',hl',B.keep k,q.keep k⟩⟩
theorem iR(h1:SD X H0 ρ st fl)(hf:∀ρ',fl ≠ .nx ρ'):fo X H0 ρ (st::ss) fl:=fun pins s σ H D I ⟨ow,E,hl,B,q⟩ =>
 fh h1 fR pins s σ H D I ⟨ow,E,hl,B,by
  cases fl with
  | nx ρ'=>exact absurd rfl (hf ρ')
  | bk ρ'=>exact q
  | ct ρ'=>exact q
  | rt d=>exact q⟩
theorem ug(h:ED X ρ e d k)(hk:k=0\/k=2):SD X H0 ρ (.Return (some e) pos) (.rt d):=fun pins s σ H D I ⟨ow,E,hl,B,q⟩ =>
 ur (h ow) pins s σ H D I ⟨E,fun v H1 s1 r1=>q v H1 (B.sm.trans s1) (r1.imp fun a b p=>by
  rcases hk with rfl|rfl
  ·exact⟨p.1,B.sm.free p.2⟩
  ·refine⟨p.1,p.2.elim (fun z=>?_) B.sm.free⟩
   cases e0:H0 a with
   | none=>rfl
   | some o=>exact absurd (B a o e0).2 z)⟩
theorem GX(E:aO X ow H σ ρ):aO X (fun _=>none) H σ (bY ρ):=by
 refine⟨fun x d o h=>?_,fun a z=>absurd rfl z⟩
 unfold bY at h
 cases e:ρ x with
 | none=>rw[e]at h;cases h
 | some y =>
  rw[e]at h
  cases h
  obtain⟨i,v,h1,h2,h3,h4⟩:=E.get x y.1 y.2 e
  exact⟨i,v,h1,h2,h3,h4.imp fun _ _ _ _=>rfl⟩
theorem FB(h:ED X (bY ρ) e d k)(hk:k=0\/k=2):SD X H0 ρ (.Return (some e) pos) (.rt d):=fun pins s σ H D I ⟨ow,E,hl,B,q⟩ =>
 ur (h fun _=>none) pins s σ H D I ⟨GX E,fun v H1 s1 r1=>q v H1 (B.sm.trans s1) (r1.imp fun a b p=>by
  rcases hk with rfl|rfl
  ·exact⟨p.1,B.sm.free p.2⟩
  ·exact⟨p.1,p.2.elim (fun z=>absurd rfl z) B.sm.free⟩)⟩
theorem FG(h:ED X ρ e d k)(hc:∃f p args ks cp,e=.Call (.Name f p) args ks cp):SD X H0 ρ (.Expr e pos) (.nx ρ):=fun pins s σ H D I ⟨ow,E,hl,B,q⟩=>by
 obtain⟨f,p,args,ks,cp,rfl⟩:=hc
 exact jR (h ow) rfl pins s σ H D I ⟨E,fun v H1 s1 r1=>q ow σ H1 (E.same s1) hl (bg.same s1)⟩
theorem FA:SD X H0 ρ (.Return none pos) (.rt .non):=fun pins s σ H D I ⟨ow,E,hl,B,q⟩=>FO pins s σ H D I (q .non H B.sm (by rw[ai]))
theorem FC:SD X H0 ρ (.Pass pos) (.nx ρ):=fun pins s σ H D I ⟨ow,E,hl,B,q⟩=>FP pins s σ H D I (q ow σ H E hl (bg.refl _ _))
theorem Cs:SD X H0 ρ (.Break pos) (.bk ρ):=fun pins s σ H D I ⟨ow,E,hl,B,q⟩=>Cy pins s σ H D I (q ow σ H E hl (bg.refl _ _))
theorem FI:SD X H0 ρ (.Continue pos) (.ct ρ):=fun pins s σ H D I ⟨ow,E,hl,B,q⟩=>v8 pins s σ H D I (q ow σ H E hl (bg.refl _ _))
theorem ym{a b:List Stmt}(hc:TD X ρ c t)(h:if t=true then fo X H0 ρ a fl else fo X H0 ρ b fl):SD X H0 ρ (.If c a b pos) fl:=by
 cases t with
 | true =>
  intro pins s σ H D I ⟨ow,E,hl,B,q⟩
  exact yr (hc ow) h fR pins s σ H D I ⟨E,fun H1 s1=>by
   show if true=true then _ else _
   rw[if_pos rfl]
   exact⟨ow,E.same s1,hl,B.keep (bg.same s1),q.keep (bg.same s1)⟩⟩
 | false =>
  intro pins s σ H D I ⟨ow,E,hl,B,q⟩
  exact yr (hc ow) fR h pins s σ H D I ⟨E,fun H1 s1=>by
   show if false=true then _ else _
   rw[if_neg Vp]
   exact⟨ow,E.same s1,hl,B.keep (bg.same s1),q.keep (bg.same s1)⟩⟩
theorem rR(hN:X.N.Nodup)(hl:σ.length=X.N.length)(E:aO X ow H σ ρ)(sm:aA H H1)(hi:X.N[i]?=some x)(hv:jf X.env.scope x)(r:ai X.K H1 (Kp ow H 0) d v) :
  ∃ow',aO X ow' H1 (σ.set i (some v)) (bE ρ x (d,true))/\bg ow H ow' H1:=by
 classical
 let ow':Ow:=fun a=>if H a=none/\∃o,H1 a=some o then some (some x)else ow a
 have o1:∀a o,H a=some o->ow' a=ow a:=fun a o h=>if_neg (fun z=>by rw[h]at z;cases z.1)
 have E1:aO X ow' H1 σ ρ:=⟨fun y e o h=>by
  obtain⟨j,w,e1,e2,e3,e4⟩:=E.get y e o h
  refine⟨j,w,e1,e2,e3,ai.same sm (e4.impH (fun a ob ha p=>?_) fun a p=>?_)⟩
  ·cases o with
   | true=>exact⟨p.1,(o1 a ob ha).trans p.2⟩
   | false=>exact fun z=>(o1 a ob ha).trans (p z)
  ·cases o with
   | true=>cases p.1
   | false=>exact fun z=>(by cases z),fun a ha=>by
  by_cases hz:H a=none/\∃o,H1 a=some o
  ·exact hz.2
  ·have:ow' a=ow a:=if_neg hz
   rw[this]at ha
   exact(E.own.same sm) a ha⟩
 refine⟨ow',eV hN hl E1 hi hv (r.impH (fun a o ha p=>⟨rfl,if_pos ⟨p.2,o,ha⟩⟩) fun a p=>(by cases p.1)),fun a o h _=>sm a o h,fun a o h z=>(o1 a o h).trans z⟩
theorem fC{t:Option Expr}(h:iY e=false):swapsWith e t n env=pure false:=by
 cases e<;>first|rfl|cases h
theorem pZ{o:Bool}(G:aS Φ X sc)(hx:cT sc x=true)(h:ED X ρ e d k)(ho:(k=0/\o=true)\/(k=1/\o=false))(hs:swapsWith e (some (.Name x p)) pos.line X.env=pure false) :
  SD X H0 ρ (.Assign [.Name x p] e pos) (.nx (bE ρ x (d,o))):=by
 obtain⟨g1,g2,g3,i,g4⟩:=fE G hx
 intro pins s σ H D I ⟨ow,E,hl,B,q⟩
 refine uq (i:=i) G.nd g4 g1 (h ow) hs g3 pins s σ H D I ⟨E,fun v H1 s1 r1=>?_⟩
 show D.nx (σ.set i (some v)) H1
 rcases ho with⟨rfl,rfl⟩|⟨rfl,rfl⟩
 ·obtain⟨ow',E',k'⟩:=rR G.nd hl E s1 g4 g2 r1
  exact q ow' _ H1 E' (by rw[VT];exact hl) k'
 ·exact q ow _ H1 (eV G.nd hl (E.same s1) g4 g2 r1) (by rw[VT];exact hl) (bg.same s1)
theorem gZ:swapsWithSole [.Tuple es n p] e k env=pure false:=by
 cases e<;>rfl
theorem lU{i:Expr}:swapsWithSole [.Subscript a i p] e k env=pure false:=by
 cases e<;>rfl
def Ss(K:W.Frag)(n:Nat)(t:qP):TG:=fun v σ H Q => ∃a xs,v=.ref a/\cn K H a xs/\xs.length=n/\t xs σ H Q
theorem IV{t:qP}(hc:X.calm=true)(h:xK X es t)
  (hn:(assignEach es X.env).length=n) (hst:(assignEach es X.env).findIdx? (·.1)=none):PG X (.Tuple es k pos) (Ss X.K n t):=by
 intro pins s σ H v u Q I r hw
 obtain⟨a,xs,e1,hq,hl,hw⟩:=hw
 subst e1
 cases r
 obtain⟨its,rv,pl,hz⟩:=I.list hq
 have hsz:(assignEach es X.env).length=its.toArray.size:=by simp[hn,<- hl,rv.length]
 rw[assign_Tuple]
 refine U8 (WU ?_)
 unfold unpack
 rw[hst,hsz]
 refine U8 (VO (W.kun_itemsOf (I.ok.hd hc) pl.isList fun h' hx=>?_))
 have I1:aj X pins σ H { s with heap:=h' }:=I.kept (t':=s.toks) fun b o e=>hx b o (Vv (Vd e)) e
 exact h pins _ σ H xs _ Q I1 (by simpa using rv) hw
theorem qc(o:fB ow H)(hf:ar ds=true\/k<=1)(r:ah X.K H1 (Kp ow H k) ds vs):ah X.K H1 (fun a b=>b=true->ow a=none) ds vs:=by
 rcases hf with hf|hf
 ·exact r.flat _ hf
 ·exact r.imp fun a b p hb=>by subst hb;exact fT o hf p
theorem re(G:aS Φ X sc)(ht:tX sc es e=false):swappedStores [.Tuple es n p] e X.env=pure none:=by
 unfold tX at ht
 cases hte:iX e with
 | false=>cases e<;>first|rfl|cases hte
 | true =>
  rw[hte]at ht
  have hc:vG sc es e=true:=by simpa using ht
  unfold vG at hc
  split at hc
  ·rename_i x px y py a b m q
   have k1:X.env.kindOf x=some .cell:=G.cc x (by simpa using hc)
   unfold swappedStores
   dsimp only
   split
   ·rfl
   ·split
    ·rfl
    ·rw[if_pos]
     rw[List.filterMap_cons_none (by simp[k1])]
     have:∀l:List Str,l.length<=1->(l.length != [Expr.Name x px,Expr.Name y py].length || l.eraseDups.length != l.length)=true:=fun l hl=>by
      have:(l.length != [Expr.Name x px,Expr.Name y py].length)=true:=by simp;omega
      rw[this];rfl
     exact this _ (Vl (List.length_filterMap_le _ _) (Vf _))
  ·cases hc
theorem Io(G:aS Φ X sc)(h:ED X ρ e d k)(hd:fv d=some ds)(hf:ar ds=true\/k<=1)(hb:bc sc es ds ρ=some ρ')(ht:tX sc es e=false) :
  SD X H0 ρ (.Assign [.Tuple es n p] e pos) (.nx ρ'):=by
 obtain⟨t,h1,h2,h3,h4⟩:=mh G hb
 intro pins s σ H D I ⟨ow,E,hl,B,q⟩
 have fin:∀H1 vs,aA H H1->ah X.K H1 (Kp ow H k) ds vs->t vs σ H1 D.nx:=fun H1 vs s1 rl=>h4 ow vs σ H1 D.nx hl (E.same s1) (qc E.own hf rl) fun σ' hl' E'=>q ow σ' H1 E' hl' (bg.same s1)
 rcases fL hd with rfl|rfl
 ·refine jS (h ow) (uv (n:=_) G.calm h1 h2 h3) gZ (re G ht) rfl pins s σ H D I ⟨E,fun v H1 s1 r1=>?_⟩
  obtain⟨a,vs,rfl,hs,rl⟩:=eN r1
  exact⟨a,vs,rfl,hs,rl.length.symm,fin H1 vs s1 rl⟩
 ·refine jS (h ow) (IV (n:=_) G.calm h1 h2 h3) gZ (re G ht) rfl pins s σ H D I ⟨E,fun v H1 s1 r1=>?_⟩
  obtain⟨a,vs,rfl,hs,rl⟩:=iB r1
  exact⟨a,vs,rfl,hs,rl.length.symm,fin H1 vs s1 rl⟩
theorem MI{a b:D}(h:ah K H P [a,b] vs):∃x y,vs=[x,y]/\ai K H P a x/\ai K H P b y:=by
 rw[ah]at h
 obtain⟨x,r,rfl,h1,h⟩:=h
 rw[ah]at h
 obtain⟨y,r,rfl,h2,h⟩:=h
 rw[ah]at h
 subst h
 exact⟨x,y,rfl,h1,h2⟩
theorem FD{pt:Pos}{p:D×Nat}(G:aS Φ X sc)(h:ED X ρ e p.1 p.2)(ho:yy sc es p=true)(ht:tX sc es e=false) :
  SD X H0 ρ (.Assign [.Tuple es n pt] e pos) (.nx (Cu es p ρ)):=by
 obtain⟨d,k⟩:=p
 unfold yy at ho
 split at ho
 ·rename_i x px y py d1 d2 e0 e1
  have e0:d=_:=e0
  have e1:k=_:=e1
  subst e0 e1
  simp only[Vk,Bool.not_eq_true',decide_eq_false_iff_not]at ho
  obtain⟨⟨⟨⟨f1,_⟩,hxy⟩,hx⟩,hy⟩:=ho
  obtain⟨g1,g2,g3,i,g4⟩:=fE G hx
  obtain⟨j1,j2,j3,j,j4⟩:=fE G hy
  have hij:i≠j:=fun z=>by subst z;rw[g4]at j4;exact hxy (VA j4)
  intro pins s σ H D I ⟨ow,E,hl,B,q⟩
  refine jS (h ow) (uv (n:=2) G.calm (oS (jT (i:=i) G.nd g4 g1 g3) (oS (jT (i:=j) G.nd j4 j1 j3) wO rfl) rfl) rfl rfl) gZ (re G ht) rfl pins s σ H D I ⟨E,fun v H1 s1 r1=>?_⟩
  obtain⟨a,vs,rfl,hs,rl⟩:=eN r1
  obtain⟨v1,v2,rfl,r2,r3⟩:=MI rl
  refine⟨a,[v1,v2],rfl,hs,rfl,v1,[v2],rfl,v2,[],rfl,rfl,?_⟩
  obtain⟨ow',E',k'⟩:=rR G.nd hl E s1 j4 j2 r3
  have hl':(σ.set j (some v2)).length=X.N.length:=by rw[VT];exact hl
  have E2:=eV (o:=false) G.nd hl' E' g4 g2 (r2.flat _ f1)
  rw[List.set_comm _ _ hij]
  exact q ow' _ H1 E2 (by rw[VT];exact hl') k'
 ·cases ho
theorem yg{y:Str}{b:Expr}(G:aS Φ X sc)(hk:X.env.scope.kind=.function)(h:qf sc x y px py a b=true)(ha:∀x p,a ≠ .Starred x p)(hb:∀x p,b ≠ .Starred x p) :
  swappedStores [.Tuple [.Name x px,.Name y py] n p] (.Tuple [a,b] n2 p2) X.env=pure (some [x,y]):=by
 unfold qf at h
 simp only[Vk,Bool.not_eq_true',beq_iff_eq,decide_eq_false_iff_not]at h
 obtain⟨⟨⟨⟨⟨h1,h2⟩,h3⟩,h4⟩,h5⟩,h6⟩:=h
 have k1:X.env.kindOf x=some .local:=G.lc x h1
 have k2:X.env.kindOf y=some .local:=G.lc y h2
 have bk:X.env.blockKind=.function:=by unfold Env.blockKind;rw[hk];rfl
 have an:∀f:Expr->Bool,(∀e,(∀x p,e ≠ .Starred x p)->f e=false) -> ¬ ([a,b].any f=true):=fun f hf=>by simp[hf a ha,hf b hb]
 have fm:∀f:Expr->Option Str,f (.Name x px)=some x->f (.Name y py)=some y->[Expr.Name x px,Expr.Name y py].filterMap f=[x,y]:=fun f h1 h2=>by simp[h1,h2]
 have ed:[x,y].eraseDups=[x,y]:=by
  have e1:(!(y==x))=true:=by simp;exact fun z=>h4 z.symm
  rw[List.eraseDups_cons,List.filter_cons_of_pos (p:=fun b => !b==x) e1,List.filter_nil]
  rfl
 unfold swappedStores
 dsimp only
 rw[bk]
 refine(if_neg (by simp)).trans ?_
 refine(if_neg (an _ fun e he=>by cases e<;>first|rfl|exact absurd rfl (he _ _))).trans ?_
 rw[fm _ (by show(if (X.env.kindOf x==some NameKind.local&&px.line==px.line)=true then some x else none)=some x;rw[k1];simp) (by show(if (X.env.kindOf y==some NameKind.local&&py.line==px.line)=true then some y else none)=some y;rw[k2,h3];simp)]
 rw[ed]
 refine(if_neg (by simp)).trans ?_
 rw[h5,h6]
 rfl
theorem Ir{b:Expr}{y:Str}{u v:D}(G:aS Φ X sc)(h:AD X ρ [a,b] [u,v] k)(hf:ar [u,v]=true\/k<=1)(hp:qf sc x y px py a b=true)(ha:∀x p,a ≠ .Starred x p)(hb:∀x p,b ≠ .Starred x p) :
  SD X H0 ρ (.Assign [.Tuple [.Name x px,.Name y py] n p] (.Tuple [a,b] n2 p2) pos) (.nx (bE (bE ρ x (u,false)) y (v,false))):=by
 have hp0:=hp
 unfold qf at hp
 simp only[Vk,Bool.not_eq_true',beq_iff_eq,decide_eq_false_iff_not]at hp
 obtain⟨⟨⟨⟨⟨l1,l2⟩,_⟩,hxy⟩,_⟩,_⟩:=hp
 obtain⟨g1,g2,g3,i,g4⟩:=fE (x:=x) G (by unfold cT;rw[l1];rfl)
 obtain⟨j1,j2,j3,j,j4⟩:=fE (x:=y) G (by unfold cT;rw[l2];rfl)
 have hij:i≠j:=by intro z;subst z;rw[g4]at j4;cases j4;exact hxy rfl
 intro pins s σ H D I ⟨ow,E,hl,B,q⟩
 refine IN (i:=i) (j:=j) G.calm G.nd g4 j4 hij (G.lc x l1) (G.lc y l2) (h ow) (yg G I.ok.kind hp0 ha hb) gZ pins s σ H D I ⟨E,fun vs H1 s1 r1=>?_⟩
 have rs:=qc E.own hf r1
 rw[ah]at rs
 obtain⟨v1,r,rfl,rv1,rs⟩:=rs
 obtain⟨v2,rfl,rv2⟩:=rs.only
 refine⟨v1,v2,rfl,?_⟩
 have E1:=eV (o:=false) G.nd hl (E.same s1) g4 g2 rv1
 have hl1:(σ.set i (some v1)).length=X.N.length:=by rw[VT];exact hl
 exact q ow _ H1 (eV (o:=false) G.nd hl1 E1 j4 j2 rv2) (by rw[VT];exact hl1) (bg.same s1)
theorem Bp{a:Addr}(E:aO X ow H1 σ ρ)(hi:X.N[i]?=some x)(hs:σ[i]?=some (some (.ref a)))
  (hv:jf X.env.scope x) (ha:H1 a=some (.lst vs)) (ho:ow a=some (some x)) (f:ar l'=true) (r:ah X.K H1 (fun _ _=>True) l' vs') :
  aO X ow (aH H1 a (.lst vs')) σ (bE ρ x (.lst l',true)):=by
 have st:∀{P:bn},(P a true->False)->dF P P H1 (aH H1 a (.lst vs')):=fun {P} h=>⟨fun b o hb hn=>by rw[ay (fun z=>by subst z;rw[ha]at hb;cases hb;exact hn)];exact hb,fun b ws hb p=>by rw[ay (fun z=>by subst z;exact h p)];exact hb,fun _ _ _ p=>p,fun _ p=>p⟩
 have r':ah X.K (aH H1 a (.lst vs')) (kB ow x true) l' vs':=ah.flat _ f ((r.flat (fun _ _=>False) f).mono (st fun z=>z))
 refine⟨fun y e o h=>?_,fun b hb=>?_⟩
 ·rw[dl]at h
  by_cases hy:y=x
  ·subst hy
   rw[if_pos rfl]at h
   cases h
   exact⟨i,.ref a,hi,hv,hs,by rw[ai];exact⟨a,vs',true,rfl,aF,⟨rfl,ho⟩,r'⟩⟩
  ·rw[if_neg hy]at h
   obtain⟨j,w,e1,e2,e3,e4⟩:=E.get y e o h
   refine⟨j,w,e1,e2,e3,e4.mono (st fun p=>?_)⟩
   cases o with
   | true=>have:=p.2;rw[ho]at this;cases this;exact hy rfl
   | false=>have:=p rfl;rw[ho]at this;cases this
 ·by_cases hz:b=a
  ·subst hz;exact⟨_,aF⟩
  ·rw[ay hz];exact E.own b hb
theorem Jk(E:aO X ow H σ ρ)(h:ρ x=some (.lst l,true)):∃(i:Nat) (a:Addr) (vs:List V),X.N[i]?=some x/\jf X.env.scope x/\σ[i]?=some (some (.ref a))/\H a=some (.lst vs)/\ow a=some (some x)/\ah X.K H (fun _ _=>True) l vs:=by
 obtain⟨i,v,e1,e2,e3,e4⟩:=E.get x _ _ h
 rw[ai]at e4
 obtain⟨a,vs,b,rfl,hl,hp,rl⟩:=e4
 cases hp.1
 exact⟨i,a,vs,e1,e2,e3,hl,hp.2,rl.imp fun _ _ _=>True.intro⟩
theorem kE{a:Addr}(sm:aA H H1)(h0:H a=some (.lst vs))(ho:ow a=some (some x)):bg ow H ow (aH H1 a (.lst vs')) :=
 ⟨fun b o h c=>by
  rw[ay (fun z=>by
   subst z
   rw[h0]at h;cases h
   rcases c with c|c
   ·exact c
   ·rw[ho]at c;cases c)]
  exact sm b o h,fun _ _ _ z=>z⟩
theorem ic(I:aj X pins σ H s){a:Addr}{o:Obj}(h:X.K.lookup a=some o):H a=none:=(I.bs a o (I.ok.mod.kin a o h)).2
mutual
def D.lsz:D->Nat
 | .lst l=>1+jE l
 | .tup l=>jE l
 | _=>0
def jE:List D->Nat
 | []=>0
 | d::l=>d.lsz+jE l
end
theorem CP(I:aj X pins σ H s){a:Addr}(ha:H a=some (.lst vs))(h:ai X.K H P d (.ref a)):∃l,d=.lst l:=by
 cases d with
 | lst l=>exact⟨l,rfl⟩
 | tup l =>
  rw[ai]at h
  obtain⟨a',vs',e,hs,_⟩:=h
  cases e
  rcases hs with(q|⟨o,q⟩)|⟨o,its,n,q,_⟩
  ·rw[ha]at q;cases q
  ·rw[ha]at q;cases q
  ·rw[ic I q]at ha;cases ha
 | dct _ _=>rw[ai]at h;obtain⟨_,_,a',_,e,hl,_⟩:=h;cases e;rw[ha]at hl;cases hl
 | sn m=>rw[ai]at h;obtain⟨a',S,e,hl⟩:=h;cases e;rw[ha]at hl;cases hl
 | obj n ns es=>rw[ai]at h;obtain⟨_,_,a',C,dx,vs',e,_,_,hl,_⟩:=h;cases e;rw[ha]at hl;cases hl
 | cls n=>rw[ai]at h;obtain⟨C,o',e,_,hl,_⟩:=h;cases e;rw[ic I hl]at ha;cases ha
 | xc n p =>
  rw[ai]at h
  rcases h.at with⟨o',hl,_⟩|⟨C,od,hl⟩
  ·rw[ic I hl]at ha;cases ha
  ·rw[ha]at hl;cases hl
 | _=>rw[ai]at h;cases h
theorem Ce(I:aj X pins σ H s)(hP:∀a b,P a b->b=true){a:Addr}(ha:cD X.K H a vs)(h:ai X.K H P d (.ref a)):∃l,d=.tup l/\ah X.K H P l vs:=by
 have no:∀o,H a=some o->(∀xs,o ≠ .tup xs)->(∀p q,o ≠ .frz p q)->False:=fun o e h1 h2=>by
  rcases ha with(q|⟨o',q⟩)|⟨o',its,n,q,_⟩
  ·rw[e]at q;cases q;exact h1 _ rfl
  ·rw[e]at q;cases q;exact h2 _ _ rfl
  ·rw[ic I q]at e;cases e
 cases d with
 | lst l =>
  rw[ai]at h
  obtain⟨a',vs',b,e,hl,p,_⟩:=h
  cases e
  cases hP _ _ p
  exact(no _ hl (fun _ z=>nomatch z) fun _ _ z=>nomatch z).elim
 | tup l =>
  rw[ai]at h
  obtain⟨a',vs',e,hs,rl⟩:=h
  cases e
  have:=I.tuple_inj ha hs
  subst this
  exact⟨l,rfl,rl⟩
 | dct _ _=>rw[ai]at h;obtain⟨_,_,a',_,e,hl,_⟩:=h;cases e;exact(no _ hl (fun _ z=>nomatch z) fun _ _ z=>nomatch z).elim
 | sn m=>rw[ai]at h;obtain⟨a',S,e,hl⟩:=h;cases e;exact(no _ hl (fun _ z=>nomatch z) fun _ _ z=>nomatch z).elim
 | obj n ns es=>rw[ai]at h;obtain⟨_,_,a',C,dx,vs',e,_,_,hl,_⟩:=h;cases e;exact(no _ hl (fun _ z=>nomatch z) fun _ _ z=>nomatch z).elim
 | cls n =>
  rw[ai]at h
  obtain⟨C,o',e,_,hl,ht,_⟩:=h
  cases e
  rcases ha with(q|⟨o,q⟩)|⟨o,its,n,q,hc,_⟩
  ·rw[ic I hl]at q;cases q
  ·rw[ic I hl]at q;cases q
  ·rw[hl]at q;cases q;rw[hc]at ht;injection ht with ht;exact absurd ht (by decide)
 | xc n p =>
  rw[ai]at h
  rcases h.at with⟨o',hl,ht⟩|⟨C,od,hl⟩
  ·rcases ha with(q|⟨o,q⟩)|⟨o,its,n,q,hc,_⟩
   ·rw[ic I hl]at q;cases q
   ·rw[ic I hl]at q;cases q
   ·rw[hl]at q;cases q;rw[hc]at ht;injection ht with ht;exact absurd ht (by decide)
  ·exact(no _ hl (fun _ z=>nomatch z) fun _ _ z=>nomatch z).elim
 | _=>rw[ai]at h;cases h
mutual
theorem uk{pins:List (Addr×Obj)}{σ:L2.St}{H:Hp}{s:Shared}(I:aj X pins σ H s){P:bn}(hP:∀a b,P a b->b=true):∀(d d':D) (v:V),ai X.K H P d v->ai X.K H P d' v->d.lsz<=d'.lsz
 | .tup l,d',v,h,h'=>by
  rw[ai]at h
  obtain⟨a,vs,rfl,hs,rl⟩:=h
  obtain⟨l',rfl,rl'⟩:=Ce I hP hs h'
  rw[D.lsz,D.lsz];exact lZ I hP l l' vs rl rl'
 | .lst l,d',v,h,h'=>by
  rw[ai]at h
  obtain⟨a,vs,b,rfl,hs,p,rl⟩:=h
  cases hP _ _ p
  replace hs:H a=some (.lst vs):=hs
  obtain⟨l',rfl⟩:=CP I hs h'
  rw[ai]at h'
  obtain⟨a',vs',b,e,hl,p',rl'⟩:=h'
  cases e
  cases hP _ _ p'
  replace hl:H a=some (.lst vs'):=hl
  rw[hs]at hl;cases hl
  rw[D.lsz,D.lsz]
  exact Nat.add_le_add_left (lZ I hP l l' vs rl rl') 1
 | .non,_,_,_,_=>Vm _
 | .bl _,_,_,_,_=>Vm _
 | .int _,_,_,_,_=>Vm _
 | .str _,_,_,_,_=>Vm _
 | .dct _ _,_,_,_,_=>Vm _
 | .typ _,_,_,_,_=>Vm _
 | .sn _,_,_,_,_=>Vm _
 | .obj _ _ _,_,_,_,_=>Vm _
 | .cls _,_,_,_,_=>Vm _
 | .xc _ _,_,_,_,_=>Vm _
theorem lZ{pins:List (Addr×Obj)}{σ:L2.St}{H:Hp}{s:Shared}(I:aj X pins σ H s){P:bn}(hP:∀a b,P a b->b=true):∀(l l':List D) (vs:List V),ah X.K H P l vs->ah X.K H P l' vs->jE l<=jE l'
 | [],l',vs,h,h'=>Vm _
 | d::l,l',vs,h,h'=>by
  rw[ah]at h
  obtain⟨v,r,rfl,h1,h2⟩:=h
  cases l' with
  | nil=>rw[ah]at h';cases h'
  | cons d' l' =>
   rw[ah]at h'
   obtain⟨v',r',e,h1',h2'⟩:=h'
   cases e
   rw[jE,jE]
   exact Nat.add_le_add (uk I hP d d' v h1 h1') (lZ I hP l l' r h2 h2')
end
mutual
theorem IH{pins:List (Addr×Obj)}{σ:L2.St}{H:Hp}{s:Shared}(I:aj X pins σ H s){P:bn}(hP:∀a b,P a b->b=true){A:Addr}{l:List D}(hA:ai X.K H P (.lst l) (.ref A)):∀(d:D) (v:V),d.lsz<(D.lst l).lsz->ai X.K H P d v->ai X.K H (fun a b=>P a b/\a≠A) d v
 | .tup m,v,hs,h=>by
  rw[ai]at h⊢
  obtain⟨a,vs,e,h1,h2⟩:=h
  exact⟨a,vs,e,h1,nE I hP hA m vs (by rw[D.lsz]at hs;exact hs) h2⟩
 | .lst m,v,hs,h=>by
  have h0:=h
  rw[ai]at h⊢
  obtain⟨a,vs,b,e,h1,p,h2⟩:=h
  refine⟨a,vs,b,e,h1,⟨p,fun z=>?_⟩,nE I hP hA m vs (by rw[D.lsz]at hs;omega) h2⟩
  subst e z
  have:=uk I hP _ _ _ hA h0
  exact absurd (Vj hs this) (VU _)
 | .non,v,_,h=>by rw[ai]at h⊢;exact h
 | .bl _,v,_,h=>by rw[ai]at h⊢;exact h
 | .int _,v,_,h=>by rw[ai]at h⊢;exact h
 | .str _,v,_,h=>by rw[ai]at h⊢;exact h
 | .dct ks es,v,_,h=>by
  rw[ai]at h⊢
  obtain⟨f,e0,a,vs,e,h1,p,r⟩:=h
  refine⟨f,e0,a,vs,e,h1,⟨p,fun z=>?_⟩,r.flat _ f⟩
  subst z
  rw[ai]at hA
  obtain⟨a2,vs2,b,e2,hl,p2,_⟩:=hA
  cases e2
  cases hP _ _ p2
  replace hl:H a=some (.lst vs2):=hl
  rw[h1]at hl;cases hl
 | .typ _,v,_,h=>by rw[ai]at h⊢;exact h
 | .sn _,v,_,h=>by rw[ai]at h⊢;exact h
 | .obj n ns es,v,_,h=>h.flat _ rfl
 | .cls n,v,_,h=>h.flat _ rfl
 | .xc n p,v,_,h=>h.flat _ rfl
theorem nE{pins:List (Addr×Obj)}{σ:L2.St}{H:Hp}{s:Shared}(I:aj X pins σ H s){P:bn}(hP:∀a b,P a b->b=true){A:Addr}{l:List D}(hA:ai X.K H P (.lst l) (.ref A)):∀(m:List D) (vs:List V),jE m<(D.lst l).lsz->ah X.K H P m vs->ah X.K H (fun a b=>P a b/\a≠A) m vs
 | [],vs,_,h=>by rw[ah]at h⊢;exact h
 | d::m,vs,hs,h=>by
  rw[ah]at h⊢
  obtain⟨v,r,e,h1,h2⟩:=h
  exact⟨v,r,e,IH I hP hA d v (by rw[jE]at hs;omega) h1,nE I hP hA m r (by rw[jE]at hs;omega) h2⟩
end
theorem Ax(I:aj X pins σ H s)(E:aO X ow H σ ρ)(h:ρ x=some (.lst l,true)):∃(i:Nat) (a:Addr) (vs:List V),X.N[i]?=some x/\jf X.env.scope x/\σ[i]?=some (some (.ref a))/\H a=some (.lst vs)/\ow a=some (some x)/\ah X.K H (fun b c=>kB ow x true b c/\b≠a) l vs:=by
 obtain⟨i,v,e1,e2,e3,e4⟩:=E.get x _ _ h
 have e5:=e4
 rw[ai]at e4
 obtain⟨a,vs,b,rfl,hl,hp,rl⟩:=e4
 cases hp.1
 exact⟨i,a,vs,e1,e2,e3,hl,hp.2,nE I (fun _ _ p=>p.1) e5 l vs (by rw[D.lsz];omega) rl⟩
theorem GT{a:Addr}(E:aO X ow H σ ρ)(sm:aA H H1)(hi:X.N[i]?=some x)(hs:σ[i]?=some (some (.ref a)))
  (hv:jf X.env.scope x) (h0:H a=some (.lst vs)) (ho:ow a=some (some x)) (r:ah X.K H1 (fun b c=>(kB ow x true b c/\b≠a)\/Kp ow H 0 b c) l' vs') :
  ∃ow',aO X ow' (aH H1 a (.lst vs')) σ (bE ρ x (.lst l',true))/\bg ow H ow' (aH H1 a (.lst vs')):=by
 classical
 let ow':Ow:=fun a=>if H a=none/\∃o,H1 a=some o then some (some x)else ow a
 have o1:∀a o,H a=some o->ow' a=ow a:=fun a o h=>if_neg (fun z=>by rw[h]at z;cases z.1)
 have ha:H1 a=some (.lst vs):=sm _ _ h0
 have ho':ow' a=some (some x):=(o1 a _ h0).trans ho
 have E1:aO X ow' H1 σ ρ:=⟨fun y e o h=>by
  obtain⟨j,w,e1,e2,e3,e4⟩:=E.get y e o h
  refine⟨j,w,e1,e2,e3,ai.same sm (e4.impH (fun a ob ha p=>?_) fun a p=>?_)⟩
  ·cases o with
   | true=>exact⟨p.1,(o1 a ob ha).trans p.2⟩
   | false=>exact fun z=>(o1 a ob ha).trans (p z)
  ·cases o with
   | true=>cases p.1
   | false=>exact fun z=>(by cases z),fun a ha=>by
  by_cases hz:H a=none/\∃o,H1 a=some o
  ·exact hz.2
  ·have:ow' a=ow a:=if_neg hz
   rw[this]at ha
   exact(E.own.same sm) a ha⟩
 have st:∀{P:bn},(P a true->False)->dF P P H1 (aH H1 a (.lst vs')):=fun {P} h=>⟨fun b o hb hn=>by rw[ay (fun z=>by subst z;rw[ha]at hb;cases hb;exact hn)];exact hb,fun b ws hb p=>by rw[ay (fun z=>by subst z;exact h p)];exact hb,fun _ _ _ p=>p,fun _ p=>p⟩
 have r1:ah X.K H1 (fun b c=>kB ow' x true b c/\b≠a) l' vs':=r.impH (fun b o hb p=>by
  rcases p with⟨p,hne⟩|p
  ·refine⟨⟨rfl,?_⟩,hne⟩
   by_cases hz:H b=none/\∃o,H1 b=some o
   ·exact if_pos hz
   ·exact(if_neg hz).trans p.2
  ·exact⟨⟨rfl,if_pos ⟨p.2,o,hb⟩⟩,fun z=>by subst z;rw[p.2]at h0;cases h0⟩) fun b p=>by
  rcases p with⟨p,_⟩|p
  ·cases p.1
  ·cases p.1
 have r':ah X.K (aH H1 a (.lst vs')) (kB ow' x true) l' vs':=(r1.mono (st fun z=>z.2 rfl)).imp fun _ _ p=>p.1
 refine⟨ow',⟨fun y e o h=>?_,fun b hb=>?_⟩,fun b o h c=>?_,fun b o h z=>(o1 b o h).trans z⟩
 ·rw[dl]at h
  by_cases hy:y=x
  ·subst hy
   rw[if_pos rfl]at h
   cases h
   exact⟨i,.ref a,hi,hv,hs,by rw[ai];exact⟨a,vs',true,rfl,aF,⟨rfl,ho'⟩,r'⟩⟩
  ·rw[if_neg hy]at h
   obtain⟨j,w,e1,e2,e3,e4⟩:=E1.get y e o h
   refine⟨j,w,e1,e2,e3,e4.mono (st fun p=>?_)⟩
   cases o with
   | true=>have:=p.2;rw[ho']at this;cases this;exact hy rfl
   | false=>have:=p rfl;rw[ho']at this;cases this
 ·by_cases hz:b=a
  ·subst hz;exact⟨_,aF⟩
  ·rw[ay hz];exact E1.own b hb
 ·rw[ay (fun z=>by
   subst z
   rw[h0]at h;cases h
   rcases c with c|c
   ·exact c
   ·rw[ho]at c;cases c)]
  exact sm b o h
theorem kC{env:Env}{pos:Pos}:∀{es:List Expr},(∀e∈es,∀x p,e ≠ .Starred x p)->(backTo pos (starEach es env)).all (fun x => !x.1)=true
 | [],_=>rfl
 | e::es,h=>by
  have ih:=kC (env:=env) (es:=es) (pos:=pos) fun x hx=>h x (Vc _ hx)
  have he:=h e Vb
  cases e<;>first|exact absurd rfl (he _ _)|exact ih
theorem Iu{M:List D->List D->Nat->Rs (List D)}{p4:Pos}(hcalm:X.calm=true)(hM:k7 m M)(hx:ρ x=some (.lst l,true))(h:AD X ρ args ds k)(hst:∀e∈args,∀y p,e ≠ .Starred y p)(hlen:args.length=ds.length)
  (hn:fi x=true) (hln:(ap.endLine==cp.line)=true) (hm:M l ds k=.ok l' o) (hp:aM o):SD X H0 ρ (.Expr (.Call (.Attribute (.Name x p1) m ap) args [] cp) p4) (.nx (bE ρ x (.lst l',true))):=by
 obtain⟨id,r,sl,ty,mt,hr⟩:=hM X hcalm
 intro pins s σ H D I ⟨ow,E,hl,B,q⟩
 obtain⟨i,a,vs,g1,g2,g3,g4,g5,g6⟩:=Ax I E hx
 have pn:PE X (.Name x p1) (lT i):=g9 g1 g2 (cS hn).1 (cS hn).2
 have fin:∀(H1:Hp) (ws:List V),aA H H1->ah X.K H1 (Kp ow H k) ds ws->r (.ref a) ws H1 fun _ H2=>D.nx σ H2:=fun H1 ws s1 r1 =>
  (hr ow H H1 l ds l' k o a vs ws hm hp).2 (fun b c=>(kB ow x true b c/\b≠a)\/Kp ow H 0 b c) _ (fun _ _ p=>.inr p) E.own s1 (s1 _ _ g4) ((g6.same s1).imp fun _ _ p=>.inl p) r1 fun vs' _ rv=>by
   obtain⟨ow',E',k'⟩:=GT E s1 g1 g3 g2 g4 g5 rv
   exact q ow' σ _ E' hl k'
 have few:ds.length<29:=(hr ow H H l ds l' k o a vs vs hm hp).1
 cases args with
 | nil =>
  have e0:ds=[]:=List.length_eq_zero_iff.mp hlen.symm
  refine jR (Jh PySem.F.plainAttrs_list sl ty mt pn rfl hln) rfl pins s σ H D I ⟨_,g3,.inl ⟨rfl,_,cn.of g4⟩,?_⟩
  exact fin H [] (aA.refl _) (by rw[e0];exact ah.nil)
 | cons e es =>
  have hfew:((backTo cp (starEach (e::es) X.env)).all (fun x => !x.1)&&(backToKw cp (keywordEach [] X.env)).all (fun x=>x.1.isSome)&&decide ((e::es).length+([]:List Keyword).length+(if ([]:List Keyword).isEmpty then 0 else 1)<30))=true:=by
   rw[kC hst,hlen]
   have:decide (ds.length+0+0<30)=true:=by simp;omega
   exact this
  refine jR (Em PySem.F.plainAttrs_list sl ty mt pn (h ow) rfl hfew hln (aG (hst e Vb)) (bt fun x hx=>hst x (Vc _ hx))) rfl pins s σ H D I ⟨_,g3,.inl ⟨rfl,_,cn.of g4⟩,E,fun ws H1 s1 r1=>?_⟩
  exact fin H1 ws s1 r1
theorem qj:∀{l:List D} {j:Nat} {d:D},ar l=true->d.lless=true->ar (l.set j d)=true
 | [],j,d,h,f=>by simp[ar]
 | x::l,0,d,h,f=>by
  rw[ar,Vk]at h
  rw[List.set_cons_zero,ar,Vk];exact⟨f,h.2⟩
 | x::l,j+1,d,h,f=>by
  rw[ar,Vk]at h
  rw[List.set_cons_succ,ar,Vk];exact⟨h.1,qj h.2 f⟩
theorem ah.set{K:W.Frag}{P:bn}{H:Hp}{d:D}{v:V}(r:ai K H P d v):∀{l:List D} {vs:List V} (j:Nat),ah K H P l vs->ah K H P (l.set j d) (vs.set j v)
 | [],vs,j,h=>by rw[ah]at h;subst h;simp;exact ah.nil
 | x::l,vs,0,h=>by
  rw[ah]at h
  obtain⟨w,u,rfl,h1,h2⟩:=h
  exact ah.cons r h2
 | x::l,vs,j+1,h=>by
  rw[ah]at h
  obtain⟨w,u,rfl,h1,h2⟩:=h
  exact ah.cons h1 (ah.set r j h2)
theorem Cq{i:Expr}{j:Int}(hx:ρ x=some (.lst l,true))(h:ED X ρ e d k)(hi:ED X ρ i (.int j) k2)(f:ar l=true)(fd:d.lless=true)(hn:fi x=true)(hm:yk l j d=some l')(hsl:∀a b c p,i ≠ .Slice a b c p) :
  SD X H0 ρ (.Assign [.Subscript (.Name x p1) i p2] e pos) (.nx (bE ρ x (.lst l',true))):=by
 unfold yk at hm
 cases hj:ju l.length j with
 | none=>rw[hj]at hm;cases hm
 | some n =>
  rw[hj]at hm;cases hm
  intro pins s σ H D I ⟨ow,E,hl,B,q⟩
  obtain⟨ix,a,vs,g1,g2,g3,g4,g5,g6⟩:=Jk E hx
  have pn:PE X (.Name x p1) (lT ix):=g9 g1 g2 (cS hn).1 (cS hn).2
  refine jS (h ow) (uw pn (hi ow) ue (fun v=>by cases i<;>first|rfl|exact absurd rfl (hsl _ _ _ _))) lU (by cases e<;>rfl) rfl pins s σ H D I ⟨E,fun v H1 s1 r1=>?_⟩
  refine⟨_,g3,E.same s1,fun u H2 s2 r2=>?_⟩
  rw[ai]at r2;subst r2
  have s12:=s1.trans s2
  refine⟨a,vs,j,n,rfl,rfl,s12 _ _ g4,by rw[<- g6.length];exact hj,?_⟩
  exact q ow σ _ (Bp (E.same s12) g1 g3 g2 (s12 _ _ g4) g5 (qj f fd) (ah.set ((r1.imp fun _ _ _=>True.intro).same s2) n (g6.same s12))) hl (kE s12 g4 g5)
def MK:zp:=fun o i v H Q => ∃p kvs k,o=.ref p/\i=kV k/\H p=some (.dK kvs)/\kvs.length<sizeLine/\Q (aH H p (.dK (jD kvs k v)))
theorem Co:DT X MK:=by
 intro pins s σ H o i v ov iv u Q I ro ri rv h
 obtain⟨p,kvs,k,rfl,rfl,hp,hz,q⟩:=h
 cases ro
 obtain⟨z,hd,vs,rel,dd⟩:=(show bD X.prog X.w H s.heap p (.dK kvs)from I.hok p _ hp)
 have hz':vs.length<=sizeLine:=by rw[<- rel.length];exact z
 have hl:(jD kvs k v).length<=sizeLine:=by have:=wb kvs k v;omega
 refine wpAny_setItem_pairs (hsz:=hz') (yO ri) dd fun h' dd' hs=>?_
 have he:∃q,h'.get? p=some q:=let ⟨q,_,_,hq,_⟩:=dd';⟨q,hq⟩
 exact⟨_,I.write (x:=p) (e:=p) (by rw[hp];exact True.intro) (.inl rfl) (fun b q hb z=>(hs.2 b hb).trans z) he (show bD X.prog X.w (aH H p (.dK (jD kvs k v))) h' p (.dK (jD kvs k v))from⟨hl,hd,_,rel.put k rv,dd'⟩),q⟩
theorem Fh{k:ci}(h:ks.length=vs.length):(kM ks k).zip (fb ks vs k v)=jD (ks.zip vs) k v:=by
 unfold kM fb jD
 rw[wp h]
 cases fN ks k with
 | true =>
  rw[if_pos rfl]
  show ks.zip (List.zipWith _ ks vs)=_
  induction ks generalizing vs with
  | nil=>rfl
  | cons j ks ih =>
   cases vs with
   | nil=>cases h
   | cons w vs =>
    show(j,if j=k then v else w)::ks.zip (List.zipWith _ ks vs)=(if j=k then(j,v)else(j,w))::(ks.zip vs).map _
    rw[ih (by simpa using h)]
    split<;>rfl
 | false =>
  rw[if_neg Vp]
  show(ks++[k]).zip (vs++[v])=_
  rw[List.zip_append h];rfl
theorem FM{k:ci}{v:α}{vs:List α}(h:ks.length=vs.length):(kM ks k).length=(fb ks vs k v).length:=by
 unfold kM fb
 cases fN ks k with
 | true=>show ks.length=(List.zipWith _ ks vs).length;rw[List.length_zipWith,<- h,Nat.min_self]
 | false=>show(ks++[k]).length=(vs++[v]).length;rw[Vw,Vw,h];rfl
theorem FL{k:ci}(r:ai K H P d v)(rl:ah K H P ds vs)(h:ks.length=ds.length):ah K H P (fb ks ds k d) (fb ks vs k v):=by
 unfold fb
 cases fN ks k with
 | true =>
  show ah K H P (List.zipWith _ ks ds) (List.zipWith _ ks vs)
  induction ks generalizing ds vs with
  | nil=>exact ah.nil
  | cons j ks ih =>
   cases ds with
   | nil=>cases h
   | cons x ds =>
    rw[ah]at rl
    obtain⟨w,u,rfl,h1,h2⟩:=rl
    refine ah.cons ?_ (ih h2 (by simpa using h))
    by_cases hj:j=k
    ·simp only[if_pos hj];exact r
    ·simp only[if_neg hj];exact h1
 | false=>exact rl.append (ah.one r)
theorem uo{k:ci}(f:ar ds=true)(fd:d.lless=true):ar (fb ks ds k d)=true:=by
 unfold fb
 cases fN ks k with
 | true =>
  show ar (List.zipWith _ ks ds)=true
  induction ks generalizing ds with
  | nil=>rfl
  | cons j ks ih =>
   cases ds with
   | nil=>rfl
   | cons x ds =>
    rw[ar,Vk]at f
    show ar ((if j=k then d else x)::List.zipWith _ ks ds)=true
    rw[ar,Vk]
    refine⟨?_,ih f.2⟩
    split
    ·exact fd
    ·exact f.1
 | false =>
  show ar (ds++[d])=true
  induction ds with
  | nil=>show ar [d]=true;rw[ar,fd];rfl
  | cons x ds ih =>
   rw[ar,Vk]at f
   show ar (x::(ds++[d]))=true
   rw[ar,f.1,ih f.2];rfl
theorem FH{i:Expr}{di:D}{key:ci}(hx:ρ x=some (.dct ks ds,true))(h:ED X ρ e d k)(hi:ED X ρ i di k2)(hk:o9 di=some key)(fd:d.lless=true)(hz:ks.length<bO)(hn:fi x=true)(hsl:∀a b c p,i ≠ .Slice a b c p) :
  SD X H0 ρ (.Assign [.Subscript (.Name x p1) i p2] e pos) (.nx (bE ρ x (.dct (kM ks key) (fb ks ds key d),true))):=by
 intro pins s σ H D I ⟨ow,E,hl,B,q⟩
 obtain⟨ix,v0,g1,g2,g3,g4⟩:=E.get x _ _ hx
 rw[ai]at g4
 obtain⟨f,e0,a,vs,rfl,ha,hp,rl⟩:=g4
 have ho:ow a=some (some x):=hp.2
 have pn:PE X (.Name x p1) (lT ix):=g9 g1 g2 (cS hn).1 (cS hn).2
 refine jS (h ow) (uw pn (hi ow) Co (fun v=>by cases i<;>first|rfl|exact absurd rfl (hsl _ _ _ _))) lU (by cases e<;>rfl) rfl pins s σ H D I ⟨E,fun v H1 s1 r1=>?_⟩
 refine⟨_,g3,E.same s1,fun u H2 s2 r2=>?_⟩
 have s12:=s1.trans s2
 have el:ks.length=vs.length:=e0.trans rl.length
 refine⟨a,_,key,rfl,o8 hk r2,s12 _ _ ha,?_,?_⟩
 ·rw[List.length_zip,<- el,Nat.min_self];exact Vj hz fj
 rw[<- Fh el]
 have ha2:=s12 _ _ ha
 have st:∀{P:bn} {o':HO},(P a true->False)->dF P P H2 (aH H2 a o'):=fun {P o'} h=>⟨fun b o hb hn=>by rw[ay (fun z=>by subst z;rw[ha2]at hb;cases hb;exact hn)];exact hb,fun b ws hb p=>by rw[ay (fun z=>by subst z;exact h p)];exact hb,fun _ _ _ p=>p,fun _ p=>p⟩
 have rr:ah X.K H2 (fun _ _=>False) (fb ks ds key d) (fb ks vs key v):=FL ((r1.same s2).flat _ fd) ((rl.same s12).flat _ f) e0
 refine q ow σ _ ⟨fun y e o h=>?_,fun b hb=>?_⟩ hl ⟨fun b o h c=>?_,fun _ _ _ z=>z⟩
 ·rw[dl]at h
  by_cases hy:y=x
  ·subst hy
   rw[if_pos rfl]at h
   cases h
   exact⟨ix,.ref a,g1,g2,g3,by rw[ai];exact⟨uo f fd,FM e0,a,_,rfl,aF,⟨rfl,ho⟩,(rr.mono (st fun z=>z)).flat _ (uo f fd)⟩⟩
  ·rw[if_neg hy]at h
   obtain⟨j,w,e1,e2,e3,e4⟩:=(E.same s12).get y e o h
   refine⟨j,w,e1,e2,e3,e4.mono (st fun p=>?_)⟩
   cases o with
   | true=>have:=p.2;rw[ho]at this;cases this;exact hy rfl
   | false=>have:=p rfl;rw[ho]at this;cases this
 ·by_cases hz:b=a
  ·subst hz;exact⟨_,aF⟩
  ·rw[ay hz];exact(E.same s12).own b hb
 ·rw[ay (fun z=>by
   subst z
   rw[ha]at h;cases h
   rcases c with c|c
   ·exact c
   ·rw[ho]at c;cases c)]
  exact s12 b o h
theorem Nf{op:Operator}{r:R2}(h:du X (inplaceOp op) r):NX X op r:=h
theorem C5:du X (inplaceOp .Mult) (rI (fun i j=>bL i j) fun i j=>.int (i*j)):=wS fun _ _ _ _ _ _ _ hc q=>imul_int q (uJ hc)
theorem A9:du X (inplaceOp .FloorDiv) (rI (fun _ j=>ge j) fun i j=>.int (i.fdiv j)):=wS fun i j _ _ _ _ _ hc q=>ifloordiv_int hc.1 q (.inl (PyProof.noPylong_of_log2 (by
 rcases We j.natAbs with h1|hp
 ·exact absurd (by simpa using h1) hc.1
 ·exact(Nat.log2_lt (VP hp)).mpr hc.2)))
theorem Iw{op:Operator}{a b:Int}{o:Bool}{l:List Prop}(G:aS Φ X sc)(hx:cT sc x=true)(ha:ρ x=some (.int a,o))(h:ED X ρ e (.int b) k)(hr:DG op a b=.ok (d,k2) l)(hp:aM l) :
  SD X H0 ρ (.AugAssign (.Name x p) op e pos) (.nx (bE ρ x (d,true))):=by
 obtain⟨g1,g2,g3,i,g4⟩:=fE G hx
 obtain⟨r,hr1,hr2⟩:∃r:R2,du X (inplaceOp op) r/\d.lless=true/\∀H (Q:VK),(∀v,ai X.K H (fun _ _=>False) d v->Q v H)->r (.int a) (.int b) H Q:=by
  unfold DG at hr
  split at hr
  ·cases hr;exact⟨_,Gp,rfl,fun H Q q=>⟨a,b,rfl,rfl,q _ (by rw[ai])⟩⟩
  ·cases hr;exact⟨_,Go,rfl,fun H Q q=>⟨a,b,rfl,rfl,q _ (by rw[ai])⟩⟩
  ·cases hr;exact⟨_,C5,rfl,fun H Q q=>⟨a,b,rfl,rfl,hp.1,q _ (by rw[ai])⟩⟩
  ·cases hr;exact⟨_,A9,rfl,fun H Q q=>⟨a,b,rfl,rfl,hp.1,q _ (by rw[ai])⟩⟩
  ·cases hr
 intro pins s σ H D I ⟨ow,E,hl,B,q⟩
 obtain⟨i2,v,e1,e2,e3,e4⟩:=E.get x _ _ ha
 rw[ai]at e4;subst e4
 have hi:i2=i:=iV G.nd e1 g4
 subst hi
 refine IO (i:=i2) G.nd g4 g1 (h ow) (Nf hr1) g3 pins s σ H D I ⟨.int a,e3,E,fun v H1 s1 r1=>?_⟩
 rw[ai]at r1;subst r1
 refine hr2.2 H1 _ fun w rw'=>?_
 exact q ow _ H1 (eV G.nd hl (E.same s1) g4 g2 (rw'.flat _ hr2.1)) (by rw[VT];exact hl) (bg.same s1)
theorem yL:k7 "append" nS:=fun X hc=>⟨"list.append", _,PySem.F.slot_list_append,PySem.F.type_list_append,sw,fun ow H0 H l ds l' j o a vs ws h hp=>by
 unfold nS at h
 split at h
 ·rename_i d
  cases h
  have c:=hp.1
  refine⟨by simp,fun P Q hP oi sm ha rl rd q=>?_⟩
  obtain⟨w,rfl,rw'⟩:=rd.only
  refine⟨a,vs,w,rfl,rfl,ha,?_,q _ _ (rl.append (ah.one ?_))⟩
  ·rw[<- rl.length];exact Xq hp.2.1 ml
  ·rcases c with c|c
   ·exact rw'.flat _ c
   ·subst c;exact rw'.imp hP
 ·cases h⟩
theorem ah.rev{K:W.Frag}{P:bn}{H:Hp}:∀{l:List D} {vs:List V},ah K H P l vs->ah K H P l.reverse vs.reverse
 | [],vs,h=>by rw[ah]at h;subst h;exact ah.nil
 | d::l,vs,h=>by
  rw[ah]at h
  obtain⟨v,r,rfl,h1,h2⟩:=h
  rw[Xa,Xa]
  exact(ah.rev h2).append (ah.one h1)
variable{X:Cx}
theorem pq(x:Str)(E:aO X ow H σ ρ):∃ow',aO X ow' H σ (demX x ρ)/\bg ow H ow' H:=by
 classical
 unfold demX
 let ow':Ow:=fun a=>if ow a=some (some x)then none else ow a
 have o1:∀a,ow a=none->ow' a=none:=fun a h=>by show(if _ then _ else _)=_;split;rfl;exact h
 refine⟨ow',⟨fun y e o h=>?_,fun a ha=>?_⟩,fun a o h _=>h,fun a o h z=>o1 a z⟩
 ·by_cases hy:y=x
  ·subst hy
   simp only[WY]at h
   cases hd:ρ y with
   | none=>rw[hd]at h;cases h
   | some q =>
    obtain⟨d,o'⟩:=q
    rw[hd]at h
    cases h
    obtain⟨j,w,e1,e2,e3,e4⟩:=E.get y _ _ hd
    refine⟨j,w,e1,e2,e3,e4.imp fun a b p z=>?_⟩
    cases o' with
    | true=>exact if_pos p.2
    | false=>exact o1 a (p z)
  ·simp only[if_neg hy]at h
   obtain⟨j,w,e1,e2,e3,e4⟩:=E.get y e o h
   refine⟨j,w,e1,e2,e3,e4.imp fun a b p=>?_⟩
   cases o with
   | true=>exact⟨p.1,by show(if _ then _ else _)=_;rw[if_neg (fun z=>by rw[p.2]at z;cases z;exact hy rfl)];exact p.2⟩
   | false=>exact fun z=>o1 a (p z)
 ·refine E.own a fun z=>ha (o1 a z)
theorem G9(x:Str)(ρ:af):demA x ρ=ρ\/demA x ρ=demX x ρ:=by
 cases h:ρ x with
 | none=>exact .inl (funext fun y=>by unfold demA;split;(rename_i e;subst e;rw[h];rfl);rfl)
 | some p =>
  cases hl:p.1.lless with
  | true=>exact .inl (funext fun y=>by unfold demA;split;(rename_i e;subst e;rw[h];show some (p.1,p.2&&p.1.lless)=_;rw[hl,Bool.and_true]);rfl)
  | false=>exact .inr (funext fun y=>by unfold demA demX;split;(rename_i e;subst e;rw[h];show some (p.1,p.2&&p.1.lless)=_;rw[hl,Bool.and_false];rfl);rfl)
theorem kL:∀{es:List Expr} {ow:Ow} {H:Hp} {σ:L2.St} {ρ:af},aO X ow H σ ρ->∃ow',aO X ow' H σ (demL es ρ)/\bg ow H ow' H
 | [],ow,H,σ,ρ,E=>⟨ow,E,bg.refl _ _⟩
 | e::es,ow,H,σ,ρ,E=>by
  have one:∀x,∃ow',aO X ow' H σ (demL es (demA x ρ))/\bg ow H ow' H:=fun x=>by
   rcases G9 x ρ with h|h
   ·rw[h];exact kL E
   ·rw[h]
    obtain⟨ow1,E1,k1⟩:=pq x E
    obtain⟨ow2,E2,k2⟩:=kL (es:=es) E1
    exact⟨ow2,E2,k1.trans k2⟩
  unfold demL
  split
  ·rename_i z;cases z
  ·rename_i z;cases z;exact one _
  ·rename_i z;cases z;exact one _
  ·rename_i z;cases z;exact kL E
theorem qE(E:aO X ow H σ ρ):∃ow',aO X ow' H σ (demote e ρ)/\bg ow H ow' H:=by
 unfold demote
 split
 ·exact pq _ E
 ·exact pq _ E
 ·exact kL E
 ·exact⟨ow,E,bg.refl _ _⟩
def ac{α:Type}(r:Rs α)(a:α):Prop:=∃l,r=.ok a l/\aM l
theorem ax{r:Rs α}{f:α->Rs β}{b:β}(h:ac (r.bnd f) b):∃a,ac r a/\ac (f a) b:=by
 obtain⟨l,h,hp⟩:=h
 obtain⟨a,l1,l2,h1,p1,h2,p2⟩:=aU h hp
 exact⟨a,⟨l1,h1,p1⟩,l2,h2,p2⟩
theorem au{a:α}(h:ac (.st) a):False:=by obtain⟨l,h,_⟩:=h;cases h
theorem aJ{a b:α}{l:List Prop}(h:ac (.ok a l) b):a=b:=by obtain⟨m,h,_⟩:=h;cases h;rfl
theorem Iv{bind:D->af->Option af}(hp:PassesOwn (model X.prog X.w) X.A X.env X.xe)(hcalm:X.calm=true)
  (hi:IE X (demote iter ρ) tg iter ds k) (hk:k<=1) (hg:∀d ρ ρ',bind d ρ=some ρ'->GD X ρ tg d ρ') (hb:∀ρ fl,ac (bodyF ρ) fl->fo X H0 ρ body fl) (h:ac (dz bind bodyF ds (demote iter ρ)) fl)
  (hs:∀x,foldedSetIterable iter X.env x=pure x):SD X H0 ρ (.For tg iter body [] pos) fl:=by
 intro pins s σ H D0 I ⟨ow0,E0,hl,B0,q0⟩
 obtain⟨ow,E,k0⟩:=qE (e:=iter) E0
 have B:=B0.keep k0
 have q:=q0.keep k0
 have pb:fe X body (fun D σ H => ∃ρ fl,ac (bodyF ρ) fl/\Ae X H0 ρ fl D σ H):=fun pins s σ H D I ⟨ρ1,fl1,h1,h2⟩=>hb ρ1 fl1 h1 pins s σ H D I h2
 have pg:PG X tg (fun v σ H Q => ∃g:TG,PG X tg g/\g v σ H Q):=fun pins s σ H v u Q I r ⟨g,h1,h2⟩=>h1 pins s σ H v u Q I r h2
 refine ut hp hcalm (hi ow) pg pb hs pins s σ H D0 I ⟨E,fun J H1 s1 itd=>?_⟩
 refine⟨fun i m σ' H'=>m=ds.length-i/\i<=ds.length/\∃ow' ρ',aO X ow' H' σ' ρ'/\σ'.length=X.N.length/\ck H0 ow' H'/\bg ow H1 ow' H'/\ac (dz bind bodyF (ds.drop i) ρ') fl,
  ⟨ds.length,by simp,Vm _,ow,_,E.same s1,hl,B.keep (bg.same s1),bg.refl _ _,h⟩,?_⟩
 rintro i m σ' H' ⟨rfl,hile,ow',ρ',E',hl',B',k',hf⟩
 have q':pH X H0 ow' H' fl D0:=q.keep ((bg.same s1).trans k')
 have st:dF (Kd ow H k H1) (Kd ow H k H1) H1 H':=⟨fun a o ha hn=>k'.keep a o ha (.inl hn),fun a vs ha p=>k'.keep a _ ha (.inr (fT E.own hk p.1)),fun _ _ _ p=>p,fun _ p=>p⟩
 have it:=itd i H' st
 by_cases hlt:i<ds.length
 ·obtain⟨go,yl⟩:=it.1 ds[i] (VB hlt)
  have hdrop:ds.drop i=ds[i]::ds.drop (i+1):=List.drop_eq_getElem_cons hlt
  rw[hdrop,dz]at hf
  refine .inr ⟨go,fun σ2 H2=>i+1<=ds.length/\∃ow2 ρ2,aO X ow2 H2 σ2 ρ2/\σ2.length=X.N.length/\ck H0 ow2 H2/\bg ow H1 ow2 H2/\ac (dz bind bodyF (ds.drop (i+1)) ρ2) fl,fun σ2 H2 n=>⟨ds.length-(i+1),by omega,rfl,n.1,n.2⟩,fun x H3 y3=>?_⟩
  obtain⟨sm3,rx⟩:=yl x H3 y3
  cases hbd:bind ds[i] ρ' with
  | none=>rw[hbd]at hf;exact(au hf).elim
  | some ρ1 =>
   rw[hbd]at hf
   dsimp only at hf
   obtain⟨g,g1,g2⟩:=hg _ _ _ hbd
   have rx':ai X.K H3 (fun a b=>b=true->ow' a=none) ds[i] x:=rx.impH (fun a o ha p _=>by
    obtain⟨o1,h1⟩:=p.2 rfl
    exact k'.low a o1 h1 (fT E.own hk p.1)) fun a _ z=>(by cases z)
   refine⟨g,g1,g2 ow' x σ' H3 _ hl' (E'.same sm3) rx' fun σ2 hl2 E2=>?_⟩
   have k3:bg ow' H' ow' H3:=bg.same sm3
   obtain⟨f1,hbo,hf⟩:=ax hf
   refine⟨ρ1,f1,hbo,ow',E2,hl2,B'.keep k3,?_⟩
   cases f1 with
   | nx ρ2=>exact fun ow2 σ3 H4 a b c=>⟨hlt,ow2,ρ2,a,b,(B'.keep k3).keep c,k'.trans (k3.trans c),hf⟩
   | ct ρ2=>exact fun ow2 σ3 H4 a b c=>⟨hlt,ow2,ρ2,a,b,(B'.keep k3).keep c,k'.trans (k3.trans c),hf⟩
   | bk ρ2=>cases aJ hf;exact fun ow2 σ3 H4 a b c=>q' ow2 σ3 H4 a b (k3.trans c)
   | rt d=>cases aJ hf;exact q'
 ·have ei:i=ds.length:=by omega
  subst ei
  rw[List.drop_length,dz]at hf
  cases aJ hf
  exact .inl ⟨it.2 (Vf _),q' ow' σ' H' E' hl' (bg.refl _ _)⟩
theorem Cp{test:af->Rs Bool}(hp:PassesOwn (model X.prog X.w) X.A X.env X.xe)
  (hc:∀ρ b,ac (test ρ) b->TD X ρ c b) (hb:∀ρ fl,ac (bodyF ρ) fl->fo X H0 ρ body fl) {n0:Nat} {ρ0:af} (h:ac (ol test bodyF n0 ρ0) fl):SD X H0 ρ0 (.While c body [] pos) fl:=by
 intro pins s σ H D0 I ⟨ow,E,hl,B,q⟩
 have pc:PT X c (fun σ H Q => ∃ow ρ b,ac (test ρ) b/\D7 X ow ρ b σ H Q):=fun pins s σ H Q I ⟨ow,ρ,b,h1,h2⟩=>hc ρ b h1 ow pins s σ H Q I h2
 have pb:fe X body (fun D σ H => ∃ρ fl,ac (bodyF ρ) fl/\Ae X H0 ρ fl D σ H):=fun pins s σ H D I ⟨ρ1,fl1,h1,h2⟩=>hb ρ1 fl1 h1 pins s σ H D I h2
 refine Cw hp pc pb pins s σ H D0 I ?_
 refine⟨fun m σ' H' => ∃ow' ρ',aO X ow' H' σ' ρ'/\σ'.length=X.N.length/\ck H0 ow' H'/\bg ow H ow' H'/\ac (ol test bodyF m ρ') fl,⟨n0,ow,ρ0,E,hl,B,bg.refl _ _,h⟩,?_⟩
 rintro m σ' H' ⟨ow',ρ',E',hl',B',k',hw⟩
 have q':pH X H0 ow' H' fl D0:=q.keep k'
 cases m with
 | zero=>exact(au hw).elim
 | succ m =>
  rw[ol]at hw
  obtain⟨b,ht,hw⟩:=ax hw
  refine⟨ow',ρ',b,ht,E',fun H1 s1=>?_⟩
  have k1:bg ow' H' ow' H1:=bg.same s1
  cases b with
  | false =>
   cases aJ hw
   exact q' ow' σ' H1 (E'.same s1) hl' k1
  | true =>
   rw[cond_true]at hw
   show if true=true then _ else _
   rw[if_pos rfl]
   refine⟨fun σ2 H2 => ∃ow2 ρ2,aO X ow2 H2 σ2 ρ2/\σ2.length=X.N.length/\ck H0 ow2 H2/\bg ow H ow2 H2/\ac (ol test bodyF m ρ2) fl,fun σ2 H2 z=>⟨m,Vy _,z⟩,?_⟩
   obtain⟨f1,hbo,hw⟩:=ax hw
   refine⟨ρ',f1,hbo,ow',E'.same s1,hl',B'.keep k1,?_⟩
   cases f1 with
   | nx ρ2=>exact fun ow2 σ3 H4 a b c=>⟨ow2,ρ2,a,b,(B'.keep k1).keep c,k'.trans (k1.trans c),hw⟩
   | ct ρ2=>exact fun ow2 σ3 H4 a b c=>⟨ow2,ρ2,a,b,(B'.keep k1).keep c,k'.trans (k1.trans c),hw⟩
   | bk ρ2=>cases aJ hw;exact fun ow2 σ3 H4 a b c=>q' ow2 σ3 H4 a b (k1.trans c)
   | rt d=>cases aJ hw;exact q'
theorem bH{p:D×Nat}(h:ac (az Φ e it sc ρ) p)(G:aS Φ X sc):fW X ρ e it p.1 p.2:=let ⟨_,h,hp⟩:=h;Nq e h hp G
theorem A8(h:iY e=true):(∃a b c d,e=.ListComp a b c d)\/∀(Φ:Fx) (sc:Scope) (ρ:af),az Φ e false sc ρ=.st:=by
 cases e<;>first|exact .inl ⟨_,_,_,_,rfl⟩|exact .inr fun _ _ _=>rfl|cases h
theorem sv{r:D×Nat}{o:Bool}(G:aS Φ X sc)(hx:cT sc x=true)(h:ac (az Φ e false sc ρ) r)(ho:(r.2=0/\o=true)\/(r.2=1/\o=false)) :
  SD X H0 ρ (.Assign [.Name x p] e pos) (.nx (bE ρ x (r.1,o))):=by
 by_cases hc:iY e=true
 ·rcases A8 hc with⟨elt,gens,scope,q,rfl⟩|hno
  rotate_left
  ·rw[hno]at h;exact(au h).elim
  ·clear hc
   have hsw:∃b,swapsWith (.ListComp elt gens scope q) (some (.Name x p)) pos.line X.env=pure b:=⟨_,rfl⟩
   obtain⟨b,hsw⟩:=hsw
   cases b with
   | false=>exact pZ G hx ((bH h G).ed rfl) ho hsw
   | true =>
    obtain⟨l,h,hp⟩:=h
    obtain⟨tg,iter,ifs,rfl⟩:=rK h
    obtain⟨ds,f,k1,a1,a2,a3,a4,a5,a6,a7,a8,a9⟩:=wy (iZ Φ _) (Vy _) h hp G
    obtain⟨g1,g2,g3,i,g4⟩:=fE G hx
    rw[a9]
    intro pins s σ H D0 I ⟨ow,E,hl,B,q⟩
    refine FQ (D0:=D0) (i:=i) G.calm G.nd a1 a2 a3 a4 a5 a6 a7 a8 I E hsw g4 g1 g3 fun v H1 s1 r1=>?_
    rcases ho with⟨ho,rfl⟩|⟨ho,rfl⟩<;>rw[ho]at r1
    ·obtain⟨ow',E',k'⟩:=rR G.nd hl E s1 g4 g2 r1
     exact q ow' _ H1 E' (by rw[VT];exact hl) k'
    ·exact q ow _ H1 (eV G.nd hl (E.same s1) g4 g2 r1) (by rw[VT];exact hl) (bg.same s1)
 ·exact pZ G hx ((bH h G).ed rfl) ho (fC (by simpa using hc))
theorem oA{r:D×Nat}(h:ac (az Φ e it sc ρ) r):∀a b c p,e ≠ .Slice a b c p:=by
 intro a b c p z;subst z;exact(au h).elim
theorem uA{f:List D->Rs Fl}(h:ac (rB ρ x f) fl):∃l,ρ x=some (.lst l,true)/\fi x=true/\ac (f l) fl:=by
 unfold rB at h
 split at h
 ·rename_i l e
  split at h
  ·rename_i c
   exact⟨l,e,c,h⟩
  ·exact(au h).elim
 ·exact(au h).elim
theorem cm{a b:α}{l:List Prop}(h:ac (.ok a l) b):a=b/\aM l:=by obtain⟨m,h,hp⟩:=h;cases h;exact⟨rfl,hp⟩
theorem t5{i:D}(h:ac (t6 ρ x i d) fl):(∃l j l',ρ x=some (.lst l,true)/\ar l=true/\fi x=true/\i=.int j/\yk l j d=some l'/\d.lless=true/\fl=.nx (bE ρ x (.lst l',true)))\/∃ks ds k,ρ x=some (.dct ks ds,true)/\o9 i=some k/\fi x=true/\d.lless=true/\ks.length<bO/\fl=.nx (bE ρ x (.dct (kM ks k) (fb ks ds k d),true)):=by
 unfold t6 at h
 split at h
 ·rename_i l e
  split at h
  ·split at h
   ·rename_i hn
    split at h
    ·rename_i l' hs
     obtain⟨h9,h1,h2,_⟩:=cm h
     exact .inl ⟨l,_,l',e,h1,hn,rfl,hs,h2,h9.symm⟩
    ·exact(au h).elim
   ·exact(au h).elim
  ·exact(au h).elim
 ·rename_i ks ds e
  split at h
  ·rename_i k hk
   split at h
   ·rename_i hn
    obtain⟨h9,h1,h2,_⟩:=cm h
    exact .inr ⟨ks,ds,k,e,hk,hn,h1,h2,h9.symm⟩
   ·exact(au h).elim
  ·exact(au h).elim
 ·exact(au h).elim
theorem Jj(h:ac (qx Φ es e sc ρ) fl)(G:aS Φ X sc):SD X H0 ρ (.Assign [.Tuple es n p] e pos) fl:=by
 unfold qx at h
 split at h
 ·split at h
  ·rename_i hp
   obtain⟨q,⟨lq,h1,hq⟩,h⟩:=ax h
   split at h
   ·rename_i u v hd
    split at h
    ·rename_i hf
     cases aJ h
     obtain⟨n1,_⟩:=b0 h1 hq
     have c:=fF _ h1 hq G
     rw[hd]at c
     exact Ir G c hf hp (n1 _ (by simp)) (n1 _ (by simp))
    ·exact(au h).elim
   ·exact(au h).elim
  ·exact(au h).elim
 ·exact(au h).elim
theorem Lw(h:ac (qA Φ tgs e sc ρ) fl)(G:aS Φ X sc):SD X H0 ρ (.Assign tgs e pos) fl:=by
 unfold qA at h
 split at h
 ·obtain⟨p,h1,h⟩:=ax h
  unfold rj at h
  split at h
  ·rename_i hx
   split at h
   ·rename_i ho;cases aJ h;exact sv G hx h1 (.inl ⟨ho,rfl⟩)
   ·rename_i ho;cases aJ h;exact sv G hx h1 (.inr ⟨ho,rfl⟩)
   ·exact(au h).elim
  ·exact(au h).elim
 ·split at h
  ·exact Jj h G
  ·rename_i ht
   have ht:=Bool.eq_false_iff.mpr ht
   obtain⟨p,h1,h⟩:=ax h
   split at h
   ·rename_i ho
    cases aJ h
    exact FD G ((bH h1 G).ed rfl) ho ht
   split at h
   ·rename_i ds hd
    split at h
    ·rename_i hf
     split at h
     ·rename_i ρ' hb
      cases aJ h
      exact Io G ((bH h1 G).ed rfl) hd hf hb ht
     ·exact(au h).elim
    ·exact(au h).elim
   ·exact(au h).elim
 ·split at h
  ·rename_i hc
   obtain⟨p,h1,h⟩:=ax h
   obtain⟨q,h2,h⟩:=ax h
   have c2:=(bH h2 G).ed rfl
   rcases t5 h with⟨l,j,l',a1,a2,a3,hj,hs,hf,rfl⟩|⟨ks,ds,k,a1,hk,a3,hf,hz,rfl⟩
   ·rw[hj]at c2
    exact Cq a1 ((bH h1 G).ed rfl) c2 a2 hf a3 hs (oA h2)
   ·exact FH a1 ((bH h1 G).ed rfl) c2 hk hf hz a3 (oA h2)
  ·exact(au h).elim
 ·exact(au h).elim
theorem rD{p:D×Nat}{f:Int->R1}{a:D×Nat}(h:ac (kF p f) a):∃b,p.1=.int b/\ac (f b) a:=by
 obtain⟨l,h,hp⟩:=h
 obtain⟨b,h1,h2⟩:=C6 h
 exact⟨b,h1,l,h2,hp⟩
theorem Lv{t:Expr}{op:Operator}(h:ac (qz Φ t op e sc ρ) fl)(G:aS Φ X sc):SD X H0 ρ (.AugAssign t op e pos) fl:=by
 unfold qz at h
 split at h
 ·split at h
  ·rename_i hx
   split at h
   ·rename_i p hp
    obtain⟨r,h1,h⟩:=ax h
    cases aJ h
    obtain⟨a,ha,h3⟩:=rD h1
    obtain⟨q,h2,h4⟩:=ax h3
    obtain⟨b,hb,h5⟩:=rD h4
    obtain⟨l,h9,hpl⟩:=h5
    have c:=(bH h2 G).ed rfl
    rw[hb]at c
    obtain⟨p1,p2⟩:=p
    have ha:p1=.int a:=ha
    subst ha
    exact Iw G hx hp c h9 hpl
   ·exact(au h).elim
  ·exact(au h).elim
 ·exact(au h).elim
theorem Kg(h:ac (qy Φ e sc ρ) fl)(G:aS Φ X sc):SD X H0 ρ (.Expr e pos) fl:=by
 unfold qy at h
 split at h
 ·split at h
  ·rename_i hln
   obtain⟨p,⟨lp,h1,hp1⟩,h⟩:=ax h
   split at h
   ·rename_i M hM
    obtain⟨l,a1,a3,h⟩:=uA h
    obtain⟨l',⟨o,h2,hp2⟩,h⟩:=ax h
    cases aJ h
    obtain⟨n1,n2⟩:=b0 h1 hp1
    exact Iu G.calm (G.mtt _ M hM) a1 (fF _ h1 hp1 G) n1 n2 a3 hln h2 hp2
   ·exact(au h).elim
  ·exact(au h).elim
 ·obtain⟨p,h1,h⟩:=ax h
  cases aJ h
  exact FG ((bH h1 G).ed rfl) ⟨_,_,_,_,_,rfl⟩
 ·exact(au h).elim
structure Is(Φ:Fx)(n:Nat):Prop where
 s:∀(st:Stmt) {sc:Scope} {ρ:af} {fl:Fl} {X:Cx} {H0:Hp},sizeOf st<n->ac (dX Φ st sc ρ) fl->aS Φ X sc->PassesOwn (model X.prog X.w) X.A X.env X.xe->SD X H0 ρ st fl
 ss:∀(st:List Stmt) {sc:Scope} {ρ:af} {fl:Fl} {X:Cx} {H0:Hp},sizeOf st<n->ac (aD Φ st sc ρ) fl->aS Φ X sc->PassesOwn (model X.prog X.w) X.A X.env X.xe->fo X H0 ρ st fl
theorem hJ{p:D×Nat}{f:Bool->Rs α}{a:α}(h:ac (jz p f) a):∃b,p.1=.bl b/\ac (f b) a:=by
 obtain⟨l,h,hp⟩:=h
 obtain⟨b,h1,h2⟩:=n4 h
 exact⟨b,h1,l,h2,hp⟩
theorem No(I:Is Φ n)(st:Stmt)(hs:sizeOf st<n+1)(h:ac (dX Φ st sc ρ) fl)(G:aS Φ X sc)(hp:PassesOwn (model X.prog X.w) X.A X.env X.xe):SD X H0 ρ st fl:=by
 cases st with
 | Return e p =>
  cases e with
  | none=>cases aJ h;exact FA
  | some e =>
   obtain⟨p,h1,h⟩:=ax (show ac (Rs.bnd _ _) fl from h)
   unfold yp at h
   split at h
   ·rename_i hk
    cases aJ h
    unfold ui at h1
    cases hn:tq e with
    | true=>rw[hn]at h1;exact FB ((bH h1 G).ed rfl) hk
    | false=>rw[hn]at h1;exact ug ((bH h1 G).ed rfl) hk
   ·exact(au h).elim
 | Pass p=>cases aJ h;exact FC
 | Break p=>cases aJ h;exact Cs
 | Continue p=>cases aJ h;exact FI
 | Assign tgs e p=>exact Lw h G
 | AugAssign t op e p=>exact Lv h G
 | Expr e p=>exact Kg h G
 | If c a b p =>
  obtain⟨p,h1,h⟩:=ax (show ac (Rs.bnd _ _) fl from h)
  obtain⟨t,ht,h⟩:=hJ h
  refine ym ((bH h1 G).td rfl t ht) ?_
  cases t with
  | true=>rw[if_pos rfl];exact I.ss _ (bo (by simp<;>omega) hs) h G hp
  | false=>rw[if_neg Vp];exact I.ss _ (bo (by simp<;>omega) hs) h G hp
 | For tg it body els p =>
  rw[rO]at h
  split at h
  ·rename_i he
   have he:=List.isEmpty_iff.mp he
   subst he
   obtain⟨p,h1,h⟩:=ax h
   split at h
   ·rename_i ds hd
    split at h
    ·rename_i hk
     obtain⟨lq,h1',_⟩:=id h1
     exact Iv hp G.calm ((bH h1 G).ie rfl _ ds hd hk.2) hk.1 (fun d ρ ρ' hb=>nW G hb) (fun ρ1 f1 h2=>I.ss _ (bo (by simp<;>omega) hs) h2 G hp) h (ii h1')
    ·exact(au h).elim
   ·exact(au h).elim
  ·exact(au h).elim
 | While c body els p =>
  rw[vn]at h
  split at h
  ·rename_i he
   have he:=List.isEmpty_iff.mp he
   subst he
   refine Cp hp (fun ρ b hb=>?_) (fun ρ1 f1 h2=>I.ss _ (bo (by simp<;>omega) hs) h2 G hp) h
   obtain⟨p,h1,hb⟩:=ax hb
   obtain⟨t,ht,hb⟩:=hJ hb
   cases aJ hb
   exact(bH h1 G).td rfl _ ht
  ·exact(au h).elim
 | _=>exact(au h).elim
theorem Kf(I:Is Φ n)(ss:List Stmt)(hs:sizeOf ss<n+1)(h:ac (aD Φ ss sc ρ) fl)(G:aS Φ X sc)(hp:PassesOwn (model X.prog X.w) X.A X.env X.xe):fo X H0 ρ ss fl:=by
 cases ss with
 | nil=>cases aJ h;exact Fu
 | cons s ss =>
  obtain⟨f1,h1,h⟩:=ax (show ac (Rs.bnd _ _) fl from h)
  have c:=I.s s (H0:=H0) (bo (by simp<;>omega) hs) h1 G hp
  cases f1 with
  | nx ρ'=>exact ff c (I.ss ss (bo (by simp<;>omega) hs) h G hp)
  | bk ρ'=>cases aJ h;exact iR c (fun _ z=>(by cases z))
  | ct ρ'=>cases aJ h;exact iR c (fun _ z=>(by cases z))
  | rt d=>cases aJ h;exact iR c (fun _ z=>(by cases z))
theorem jX(Φ:Fx):∀n,Is Φ n
 | 0=>⟨fun _ _ _ _ _ _ h=>absurd h (V7 _),fun _ _ _ _ _ _ h=>absurd h (V7 _)⟩
 | n+1=>⟨fun e _ _ _ _ _ hs h G hp=>No (jX Φ n) e hs h G hp,fun e _ _ _ _ _ hs h G hp=>Kf (jX Φ n) e hs h G hp⟩
theorem vk(ss:List Stmt)(h:ac (aD Φ ss sc ρ) fl)(G:aS Φ X sc)(hp:PassesOwn (model X.prog X.w) X.A X.env X.xe):fo X H0 ρ ss fl:=(jX Φ _).ss ss (Vy _) h G hp
def aC(sc:Scope):List Str:=(sc.names.filter fun y=>y.2 == .local || y.2 == .cell).map (·.1)
def cI(P:Program)(w:World)(K:W.Frag)(mg:Str->Option Value)(base:Heap)(k:Nat)(g:Str)(F:List D->Rs D):Prop :=
 ∃f fd ps,bT P w K mg base dS k f fd ps (lv K F)/\mg g=some (.ref f)/\W.keepIn K (.ref f)=true/\cu K fd ps []/\(g==("__debug__" : Str))=false
theorem cI.mono{P:Program}(h:cI P w K mg base j g F)(hjk:j<=k):cI P w K mg base k g F :=
 let ⟨f,fd,ps,h1,h2⟩:=h;⟨f,fd,ps,h1.mono hjk,h2⟩
def Fa(P:Program)(w:World)(K:W.Frag)(mg:Str->Option Value)(base:Heap)(k:Nat)(g:Str)(F:List D->Rs D):Prop :=
 ∃j C f fd ps,j+1<=k/\(∀ds r l,F ds=.ok r l->r.lless=true)/\Mk K C f/\bT P w K mg base dS j f fd ps (NU K g F)/\mg g=some (.ref C)/\W.nsIn K mainGlobals g=some (some (.ref C))/\jk K C/\cu K fd ps []/\(g==("__debug__" : Str))=false
theorem Fa.mono{P:Program}(h:Fa P w K mg base j g F)(hjk:j<=k):Fa P w K mg base k g F :=
 let ⟨i,C,f,fd,ps,h0,h1⟩:=h;⟨i,C,f,fd,ps,Vl h0 hjk,h1⟩
def N3(P:Program)(w:World)(K:W.Frag)(mg:Str->Option Value)(base:Heap)(k:Nat)(g:Str)(F:List D->Rs D):Prop:=cI P w K mg base k g F\/Fa P w K mg base k g F
def tK(P:Program)(w:World)(K:W.Frag)(mg:Str->Option Value)(base:Heap)(k:Nat)(n m:Str)(F:List D->Rs D):Prop :=
 ∃C f fd ps,W.nsIn K mainGlobals n=some (some (.ref C))/\jk K C/\LP K C m f/\bT P w K mg base dS k f fd ps (lv K F)/\cu K fd ps []
theorem tK.mono{P:Program}{n:Str}(h:tK P w K mg base j n m F)(hjk:j<=k):tK P w K mg base k n m F :=
 let ⟨C,f,fd,ps,h1,h2,h3,h4,h5⟩:=h;⟨C,f,fd,ps,h1,h2,h3,h4.mono hjk,h5⟩
theorem vL:∀{ps:List Str} {ds:List D} {x:Str} {d:D} {o:Bool},c6 ps ds x=some (d,o)->o=false/\∃i:Nat,ps[i]?=some x/\ds[i]?=some d
 | [],ds,x,d,o,h=>by cases ds<;>cases h
 | p::ps,[],x,d,o,h=>by cases h
 | p::ps,y::ds,x,d,o,h=>by
  replace h:(if x=p then some (y,false)else c6 ps ds x)=some (d,o):=h
  by_cases e:x=p
  ·rw[if_pos e]at h
   cases h;subst e;exact⟨rfl,0,rfl,rfl⟩
  ·rw[if_neg e]at h
   obtain⟨h1,i,h2,h3⟩:=vL h
   exact⟨h1,i+1,by simpa using h2,by simpa using h3⟩
structure sT(P:Program)(w:World)(K:W.Frag)(mg:Str->Option Value)(base:Heap)(k:Nat)(Φ:Fx):Prop where
 fn:∀g F,Φ.fn g=some F->N3 P w K mg base k g F
 con:∀x d,Φ.con x=some d->∃v u,mg x=some u/\aX v u/\∀H P,ai K H P d v
 blt:∀f B,Φ.blt f=some B->fy f B
 itr:∀f B,Φ.itr f=some B->lg f B
 mth:∀m M,Φ.mth m=some M->zA m M
 mtt:∀m M,Φ.mtt m=some M->k7 m M
 slf:tH Φ.slf
 fld:∀n f,Φ.fld n f=true->∀C,W.nsIn K mainGlobals n=some (some (.ref C))->qV K C f
 omt:∀n m F,Φ.omt n m=some F->tK P w K mg base k n m F
 bl:∀n∈jb,mg n=none
def eJ(Φ:Fx)(sc:Scope)(ps:List Str)(body:List Stmt)(F:List D->Rs D):Prop:=∀ds r,ac (F ds) r->ac (bX Φ sc ps body ds) r
theorem eJ.self:eJ Φ sc ps body (bX Φ sc ps body):=fun _ _ h=>h
theorem jY{P:Program}{f:Addr}{E:XK}
  (S:aN (aC (aa st)) ps (aa st)) (hΦ:sT P w K mg base k Φ) (hr:bS k (A.deeper (envOfC qual (aa st) s.heap.objs.size f cdv))) :
  aS Φ (i8 dS P w K mg base (aC (aa st)) qual (aa st) f cdv A outer s H E).nox (aa st):=by
 have hun:=hr.un
 refine⟨rfl,S.nd,fun x hx=>hx,fun x hx=>hx,fun x hx=>hx,fun x hx=>hx,fun g' F' hg=>?_,hΦ.con,hΦ.blt,hΦ.itr,hΦ.mth,hΦ.mtt,hΦ.slf,hΦ.fld,fun n m F hF=>?_,hΦ.bl,?_,fun x hx=>?_,fun x _=>rfl⟩
 ·rcases hΦ.fn g' F' hg with z|z
  ·obtain⟨f',fd',ps',a1,a2,a3,a4,a5⟩:=z
   exact .inl ⟨k,f',fd',ps',a1,hr,a2,a3,a4,a5⟩
  ·obtain⟨j,C,f',fd',ps',a0,a1,a2,a3,a4⟩:=z
   exact .inr ⟨j,C,f',fd',ps',a1,a2,a3,hr.mono a0,a4⟩
 ·obtain⟨C,f',fd',ps',a1,a2,a3,a4,a5⟩:=hΦ.omt n m F hF
  exact⟨k,C,f',fd',ps',a1,a2,a3,a4,hr,a5⟩
 ·show(A.deeper _).units+70<cLine
  omega
 ·show x∈aC (aa st)
  unfold aC
  unfold cT at hx
  rw[Bool.or_eq_true]at hx
  rcases hx with hx|hx
  ·have hx:(aa st).names.lookup x=some .local:=by simpa using hx
   exact Wh.mpr ⟨(x,.local),Xi.mpr ⟨Vs hx,by simp⟩,rfl⟩
  ·have hx:(aa st).names.lookup x=some .cell:=by simpa using hx
   exact Wh.mpr ⟨(x,.cell),Xi.mpr ⟨Vs hx,by simp⟩,rfl⟩
theorem mF{P:Program}{f:Addr}{E:XK}
  (S:aN (aC (aa st)) ps (aa st)) (h1:ah K H (fun _ _=>True) ds vs) (hl:ds.length=ps.length) :
  aO (i8 dS P w K mg base (aC (aa st)) qual (aa st) f cdv A outer s H E).nox (fun _=>none) H (start (aC (aa st)) vs) (c6 ps ds)/\(start (aC (aa st)) vs).length=(aC (aa st)).length:=by
 have hpl:ps.length<=(aC (aa st)).length:=by have:=V0 List.length S.pre;rw[Wr]at this;omega
 have hvl:vs.length=ps.length:=by rw[<- h1.length];exact hl
 refine⟨⟨fun x d o hx=>?_,fun a ha=>absurd rfl ha⟩,by unfold L2.start;rw[Vw,Vi,List.length_replicate];omega⟩
 obtain⟨rfl,i,i1,i2⟩:=vL hx
 obtain⟨v,i3,i4⟩:=h1.get i2
 have hi:i<ps.length:=(Vu.mp i1).1
 refine⟨i,v,?_,?_,?_,i4.imp fun a b _ _=>rfl⟩
 ·show(aC (aa st))[i]?=some x
  rw[<- S.pre,List.getElem?_take_of_lt hi]at i1
  exact i1
 ·rcases S.par x (WI i1)with z|z
  ·exact .inl z
  ·exact .inr (.inl z)
 ·unfold L2.start
  rw[List.getElem?_append_left (by rw[Vi];omega),V9,i3];rfl
theorem GF{P:Program}{f:Addr}(Fn:ke K g qual st f fd)
  (S:aN (aC (aa st)) ps (aa st)) (hΦ:sT P w K mg base k Φ)
  (hrun:eJ Φ (aa st) ps (ak st) F):bT P w K mg base dS (k+1) f fd ps (lv K F):=by
 refine Fn.ok S (fun vs H Q E h=>?_) (fun cdv A outer s H vs Q E hr h=>?_)
 ·obtain⟨ds,r,l,h1,h2,hp,_⟩:=h
  have:=hrun ds r ⟨l,h2,hp⟩
  unfold bX at this
  split at this
  ·rename_i hl;rw[<- h1.length];exact hl
  ·exact(au this).elim
 ·obtain⟨ds,r,l,h1,h2,hp,q⟩:=h
  have hr1:=hrun ds r ⟨l,h2,hp⟩
  unfold bX at hr1
  split at hr1
  ·rename_i hl
   have G:=jY (outer:=outer) (H:=H) (E:=E) S hΦ hr
   obtain⟨E0,hsl⟩:=mF (P:=P) (w:=w) (mg:=mg) (base:=base) (qual:=qual) (f:=f) (cdv:=cdv) (A:=A) (outer:=outer) (s:=s) (E:=E) S h1 hl
   have B0:ck H (fun _=>none) H:=fun a o h=>⟨h,rfl⟩
   obtain⟨fl,hx,hr1⟩:=ax hr1
   cases fl with
   | rt d =>
    cases aJ hr1
    exact⟨_,vk _ (H0:=H) hx G W6,fun _=>none,E0,hsl,B0,fun v H' sm rp=>q v H' sm rp⟩
   | nx ρ' =>
    cases aJ hr1
    exact⟨_,vk _ (H0:=H) hx G W6,fun _=>none,E0,hsl,B0,fun ow' σ' H' _ _ kp=>q .non H' (fun a o h=>kp.keep a o h (.inr rfl)) (by rw[ai])⟩
   | bk ρ'=>exact(au hr1).elim
   | ct ρ'=>exact(au hr1).elim
  ·exact(au hr1).elim
mutual
def D.noObj:D->Bool
 | .obj _ _ _=>false
 | .tup l=>jV l
 | .lst l=>jV l
 | .dct _ l=>jV l
 | _=>true
def jV:List D->Bool
 | []=>true
 | d::l=>d.noObj&&jV l
end
mutual
theorem ai.off{K:W.Frag}{P:bn}{H H':Hp}{x C dx:Addr}{fs:List (Str×V)}(hx:H x=some (.ins C dx fs))(s:∀a o,a≠x->H a=some o->H' a=some o):∀{d:D} {v:V},d.noObj=true->ai K H P d v->ai K H' P d v
 | .non,v,_,h=>by rw[ai]at h⊢;exact h
 | .bl b,v,_,h=>by rw[ai]at h⊢;exact h
 | .int i,v,_,h=>by rw[ai]at h⊢;exact h
 | .str x,v,_,h=>by rw[ai]at h⊢;exact h
 | .dct ks es,v,f,h=>by
  rw[ai]at h⊢
  obtain⟨f0,e0,a,vs,e,h1,p,r⟩:=h
  exact⟨f0,e0,a,vs,e,s _ _ (js h1 hx (fun z=>nomatch z)) h1,p,ah.off hx s (by rw[D.noObj]at f;exact f) r⟩
 | .typ n,v,_,h=>by rw[ai]at h⊢;exact h
 | .sn n,v,_,h=>by
  rw[ai]at h⊢
  obtain⟨a,S,e,h⟩:=h
  exact⟨a,S,e,s _ _ (js h hx (fun z=>nomatch z)) h⟩
 | .obj n ns ds,v,f,h=>by rw[D.noObj]at f;cases f
 | .cls n,v,_,h=>by rw[ai]at h⊢;exact h
 | .xc n p,v,_,h=>by rw[ai]at h⊢;exact h.mono (fun a C od z=>s _ _ (js z hx (fun z=>nomatch z)) z) (fun a fs z=>s _ _ (js z hx (fun z=>nomatch z)) z)
 | .tup l,v,f,h=>by
  rw[ai]at h⊢
  obtain⟨a,vs,e,h,r⟩:=h
  refine⟨a,vs,e,?_,ah.off hx s (by rw[D.noObj]at f;exact f) r⟩
  rcases h with(h|⟨o,h⟩)|h
  ·exact .inl (.inl (s _ _ (js h hx (fun z=>nomatch z)) h))
  ·exact .inl (.inr ⟨o,s _ _ (js h hx (fun z=>nomatch z)) h⟩)
  ·exact .inr h
 | .lst l,v,f,h=>by
  rw[ai]at h⊢
  obtain⟨a,vs,b,e,h,p,r⟩:=h
  refine⟨a,vs,b,e,?_,p,ah.off hx s (by rw[D.noObj]at f;exact f) r⟩
  cases b with
  | true=>exact s _ _ (js h hx (fun z=>nomatch z)) h
  | false =>
   rcases h with⟨o,h⟩|h
   ·exact .inl ⟨o,s _ _ (js h hx (fun z=>nomatch z)) h⟩
   ·exact .inr h
theorem ah.off{K:W.Frag}{P:bn}{H H':Hp}{x C dx:Addr}{fs:List (Str×V)}(hx:H x=some (.ins C dx fs))(s:∀a o,a≠x->H a=some o->H' a=some o):∀{l:List D} {vs:List V},jV l=true->ah K H P l vs->ah K H' P l vs
 | [],vs,_,h=>by rw[ah]at h⊢;exact h
 | d::l,vs,f,h=>by
  rw[ah]at h⊢
  rw[jV,Vk]at f
  obtain⟨v,r,e,h1,h2⟩:=h
  exact⟨v,r,e,ai.off hx s f.1 h1,ah.off hx s f.2 h2⟩
end
def fH(s:Stmt)(j:Nat):Stmt:=(match s with | .ClassDef _ _ _ b _ _ _ _ _ _ _=>b|_=>[]).getD j (.Pass ⟨0,0,0,0⟩)
theorem bC{P:Program}{f:Addr}(Fn:ke K g qual st f fd)
  (S:aN (aC (aa st)) ps (aa st)) (hm:mg g=some (.ref f)) (hb:cu K fd ps []) (hd:(g==("__debug__" : Str))=false)
  (hΦ:sT P w K mg base k Φ) (hrun:eJ Φ (aa st) ps (ak st) F):cI P w K mg base (k+1) g F :=
 ⟨f,fd,ps,GF Fn S hΦ hrun,hm,Fn.kp,hb,hd⟩
theorem am{Pr:α->Prop}{x:α}{l:List α}(h1:Pr x)(h2:∀y∈l,Pr y):∀y∈x::l,Pr y:=fun y hy=>(Ve.mp hy).elim (fun e=>e ▸ h1) (h2 y)
theorem aw{Pr:α->Prop}:∀y∈([]:List α),Pr y:=fun y hy=>by cases hy
theorem JY{a:Addr}(hO:zw H)(hS:cn K H a (ns.map V.int))(h:ac (F [.lst (ns.map D.int)]) (.bl true)):lv K F [.ref a] H (fun v _=>v=.bl true) fun _ _ _=>False:=by
 obtain⟨l,h,hp⟩:=h
 refine⟨[.lst (ns.map D.int)],.bl true,l,ah.one ?_,h,hp,fun v H' _ r=>by rw[ai]at r;exact r⟩
 rw[ai]
 rcases hS with(hS|hS)|hS
 ·rcases hO a with z|⟨o,xs,z⟩
  ·rw[z]at hS;cases hS
  ·rw[z]at hS;cases hS
 ·exact⟨a,_,false,rfl,.inl hS,True.intro,ah.ofInts⟩
 ·exact⟨a,_,false,rfl,.inr hS,True.intro,ah.ofInts⟩
abbrev Fe(P:Program)(w:World)(K:W.Frag)(mg:Str->Option Value)(base:Heap)(k:Nat):Str×(List D->Rs D)->Prop:=fun p=>N3 P w K mg base k p.1 p.2
abbrev fq(mg:Str->Option Value)(K:W.Frag):Str×D->Prop:=fun p => ∃v u,mg p.1=some u/\aX v u/\∀H P,ai K H P p.2 v
abbrev jN:Str×(List D->R1)->Prop:=fun p=>fy p.1 p.2
abbrev sg:Str×(List D->Nat->R1)->Prop:=fun p=>lg p.1 p.2
abbrev LJ:Str×(D->List D->R1)->Prop:=fun p=>zA p.1 p.2
abbrev zy:Str×(List D->List D->Nat->Rs (List D))->Prop:=fun p=>k7 p.1 p.2
theorem be{P:Program}{l:List (Str×(List D->Rs D))}{c:List (Str×D)}{b:List (Str×(List D->R1))}{i:List (Str×(List D->Nat->R1))}{m:List (Str×(D->List D->R1))}{t:List (Str×(List D->List D->Nat->Rs (List D)))}{sf:D->Option Int->Option Int->R1}
  (hl:∀p∈l,Fe P w K mg base k p) (hc:∀p∈c,fq mg K p) (hb:∀p∈b,jN p) (hi:∀p∈i,sg p) (hm:∀p∈m,LJ p) (ht:∀p∈t,zy p) (hs:tH sf) (hn:∀n∈jb,mg n=none):sT P w K mg base k (Tb l c b i m t sf) :=
 ⟨fun g F h=>hl (g,F) (Vs h),fun x d h=>hc (x,d) (Vs h),fun f B h=>hb (f,B) (Vs h),fun f B h=>hi (f,B) (Vs h),fun f B h=>hm (f,B) (Vs h),fun f B h=>ht (f,B) (Vs h),hs,(fun _ _ h=>by cases h),(fun _ _ _ h=>by cases h),hn⟩
theorem dA{c:Addr}{dd:Option Addr}{ss:Array (Option Value)}{nn:Nat}{its:Array Value}(hm:mg x=some (.ref c))(hl:K.lookup c=some ⟨.type "tuple", dd,.seq its nn,ss⟩)(hz:its.size<=sizeLine)(hv:aP (ns.map V.int) its.toList) :
  fq mg K (x,.tup (ns.map .int)):=⟨.ref c,.ref c,hm,rfl,fun H P=>by rw[ai];exact⟨c,_,rfl,.inr ⟨_,its,nn,hl,rfl,rfl,hz,hv⟩,ah.ofInts⟩⟩
open AutoSeq1 (wpAny_loadPart')
theorem Kt(tu:Addr)(vs:Array Value)(n:Nat)(dc:Option Addr)(so:Array (Option Value)) :
  Meets (Builtin.«enumerate.__new__» ⟨[.type "enumerate", .ref tu],[]⟩) (fun _ R st=>st.heap.get? tu=some { cls:=.type "tuple", dict:=dc,data:=.seq vs n,slots:=so } /\
   R (.ok (.ret (.ref (st.heap.push { cls:=.type "tuple_iterator", data:=.fields #[.ref tu,.int 0 0] }).objs.size)))
    { st with heap:=(st.heap.push { cls:=.type "tuple_iterator", data:=.fields #[.ref tu,.int 0 0] }).push { cls:=.type "enumerate", data:=.fields #[.none,.bool false,.ref st.heap.objs.size,rawInt 0,.none,.none] } }) :=
 .of_wp fun pg wd AA RR st hh=>by
  obtain⟨hp0,gg,dd,tk0,oo⟩:=st;obtain⟨htu,hh⟩:=hh
  have hsub0:=sub_enumerate
  have hTT:Heap.IsTuple (Shared.heap ⟨hp0,gg,dd,tk0,oo⟩) tu vs:=⟨_,htu,rfl,n,rfl⟩
  wp_walk using VS htu
  refine wpAny_stack_any fun stk0=>Va ?_
  split
  ·rename_i c0 _ _ _ _ _
   cases (c0==Value.type "enumerate")
   ·wp_walk using VS htu,V4 hTT
    exact⟨_,rfl,hh⟩
   ·wp_walk using VS htu,V4 hTT
    exact⟨_,rfl,hh⟩
  ·wp_walk using VS htu,V4 hTT
   exact⟨_,rfl,hh⟩
section
variable{prog:Program}{w:World}{A:Around}{E:Value->Shared->Prop}{s:Shared}
theorem G2{vs:Array Value}(hT:s.heap.IsTuple tu vs)
  (go:∀h1,IsEnum h1 (s.heap.objs.size+1) s.heap.objs.size 0 .none->h1.IsTupleIter s.heap.objs.size tu 0->h1.objs.size=s.heap.objs.size+2->(∀b o,s.heap.get? b=some o->h1.get? b=some o)->Q (.ref (s.heap.objs.size+1)) { s with heap:=h1 }) :
  wpAny (model prog w) A (call (.type "enumerate") [.ref tu]) Q E s:=by
 obtain⟨⟨cc,dc,dt,so⟩,htu,hcc,n,hdd⟩:=hT
 replace hcc:cc=.type "tuple" := hcc
 replace hdd:dt=.seq vs n:=hdd
 subst hcc hdd
 refine callType_new F.called_enumerate (by decide) (F.typeCall_enumerate_1 _) (F.newCall_enumerate_1 _) (fun ob=>F.args_object_init_2 ob _) F.entry_enumerate_new (Kt tu vs n dc so) ⟨htu,?_⟩
 have sz:(s.heap.push { cls:=.type "tuple_iterator", data:=.fields #[.ref tu,.int 0 0] }).objs.size=s.heap.objs.size+1:=VH ..
 show _/\_
 rw[sz]
 have isE:IsEnum ((s.heap.push { cls:=.type "tuple_iterator", data:=.fields #[.ref tu,.int 0 0] }).push { cls:=.type "enumerate", data:=.fields #[.none,.bool false,.ref s.heap.objs.size,rawInt 0,.none,.none] }) (s.heap.objs.size+1) s.heap.objs.size 0 .none:=by
  have q:=Vg (s.heap.push { cls:=.type "tuple_iterator", data:=.fields #[.ref tu,.int 0 0] }) (o:={ cls:=.type "enumerate", data:=.fields #[.none,.bool false,.ref s.heap.objs.size,rawInt 0,.none,.none] }) rfl
  rw[sz]at q;exact q
 refine⟨⟨_,isE,rfl⟩,go _ isE ⟨_,U9 _ (Vg _ rfl),rfl,rfl⟩ (by rw[VH,sz]) fun b o z=>U9 _ (U9 _ z)⟩
theorem wv{it:Addr}{vs:Array Value}{x:Value}(hIt:s.heap.IsTupleIter it tu i)(hT:s.heap.IsTuple tu vs)(hx:vs[i]?=some x)
  (go:∀h1,h1.IsTupleIter it tu (i+1)->Heap.SameBut it s.heap h1->Q x { s with heap:=h1 }):wpAny (model prog w) A (Builtin.SmallTypes.nextOf (.ref it)) Q E s:=by
 have key:=wpAny_pyNext_tuple_item (prog:=prog) (w:=w) (A:=A) (E:=E) (Q:=fun r s1 => ∃v,r=some v/\Q v s1) hIt hT hx (fun h1 a b=>⟨x,rfl,go h1 a b⟩)
 obtain⟨o,ho,hc,hd⟩:=id hIt
 obtain⟨ot,hot,_,nt,hdt⟩:=hT
 unfold Builtin.SmallTypes.nextOf
 refine U8 (VV (name:=Str.ofString "__next__") hIt.typeIs F.slot_tuple_iterator_next (Wg F.slot_tuple_iterator_next hIt.typeIs F.entry_tuple_iterator_next ?_ (F.args_tuple_iterator_next_1 _)))
 show wpAny _ _ (field (.ref it) 0 >>= _) _ _ s
 refine U8 (VC ho hd (x:=.ref tu) rfl ?_)
 show wpAny _ _ (if (Value.ref tu==Value.none)=true then _ else _) _ _ s
 rw[if_neg (show ¬ ((Value.ref tu==Value.none)=true)from Vp)]
 show wpAny _ _ (field (.ref it) 1 >>= _) _ _ s
 refine U8 (VC ho hd (x:=Value.int (i:Int) 0) rfl ?_)
 show wpAny _ _ (seqItems? (.ref tu) >>= _) _ _ s
 refine U8 (WE hot hdt ?_)
 simp only[Int.toNat_natCast,hx]
 refine U8 (Xe ho hd (by simp) (Va ⟨x,rfl,Va (go _ ?_ (Heap.SameBut.update ..))⟩))
 refine⟨_,V3 _ ho (Obj.isFreed_of_fields (WP hd _)),(Obj.cls_mapFields ..).trans hc,?_⟩
 rw[WP hd];simp[rawInt]
theorem Ac{it:Addr}{vs:Array Value}(hh:A.handled=none)(hIt:s.heap.IsTupleIter it tu i)(hT:s.heap.IsTuple tu vs)(hx:vs[i]?=none)
  (go:∀h1 x,Heap.ExtBut it s.heap h1->(∃o,h1.get? x=some o/\o.cls=.type "StopIteration")->E (.ref x) { s with heap:=h1 }):wpAny (model prog w) A (Builtin.SmallTypes.nextOf (.ref it)) Q E s:=by
 obtain⟨o,ho,hc,hd⟩:=id hIt
 obtain⟨ot,hot,_,nt,hdt⟩:=hT
 unfold Builtin.SmallTypes.nextOf
 refine U8 (VV (name:=Str.ofString "__next__") hIt.typeIs F.slot_tuple_iterator_next (Wg F.slot_tuple_iterator_next hIt.typeIs F.entry_tuple_iterator_next ?_ (F.args_tuple_iterator_next_1 _)))
 show wpAny _ _ (field (.ref it) 0 >>= _) _ _ s
 refine U8 (VC ho hd (x:=.ref tu) rfl ?_)
 show wpAny _ _ (if (Value.ref tu==Value.none)=true then _ else _) _ _ s
 rw[if_neg (show ¬ ((Value.ref tu==Value.none)=true)from Vp)]
 show wpAny _ _ (field (.ref it) 1 >>= _) _ _ s
 refine U8 (VC ho hd (x:=Value.int (i:Int) 0) rfl ?_)
 show wpAny _ _ (seqItems? (.ref tu) >>= _) _ _ s
 refine U8 (WE hot hdt ?_)
 simp only[Int.toNat_natCast,hx]
 refine U8 (wpAny_rule (U8 (Xe ho hd (by simp) ?_)))
 show wpAny _ _ (newExc (.type "StopIteration") [] >>= _) _ _ _
 refine U8 ?_
 simp only[newExc,newTuple]
 refine U8 (Wm ?_ (by size_fits))
 refine U8 (m:=firstArgMember _ _) (wpAny_of_eq (a:=Value.none) (by first|rfl|(simp only[firstArgMember]<;>rfl)) ?_)
 refine Wm ?_ (by size_fits)
 simp only[raiseNew]
 refine U8 (wpAny_handled ?_)
 first|rw[show A.in1.handled=none from hh]|rw[hh]
 refine U8 (Va (wpAny_throw ?_))
 exact go _ _ (((Heap.SameBut.update ..).extBut.push _).push _) ⟨_,Vg _ rfl,rfl⟩
theorem xA{e it:Addr}{x:Value}{Kn:Heap->Prop}(isE:IsEnum s.heap e it i old)(hne:e≠it)
  (stay:∀h1 h2:Heap,Kn h1->(∀o,h1.get? it=some o->h2.get? it=some o)->Kn h2)
  (inner:∀(Q1:Value->Shared->Prop),(∀h1,Kn h1->Heap.SameBut it s.heap h1->Q1 x { s with heap:=h1 })->wpAny (model prog w) A.in1 (Builtin.SmallTypes.nextOf (.ref it)) Q1 E s)
  (go:∀h1,IsEnumOut h1 e it ((i:Int)+1) x s.heap.objs.size->Kn h1->h1.get? s.heap.objs.size=some { cls:=.type "tuple", data:=.seq #[.int i s.toks,x] }->(∀b o,b≠e->b≠it->s.heap.get? b=some o->h1.get? b=some o)->Q (.ref s.heap.objs.size) { s with heap:=h1,toks:=s.toks+1 }) :
  wpAny (model prog w) A.in1 (Builtin.«enumerate.__next__» ⟨[.ref e],[]⟩) (fun fin s' => ∃v,fin=.done (.ret v)/\Q v s') E s:=by
 obtain⟨h0,gg,dd,t0,oo⟩:=s
 have elt:e<h0.objs.size:=Vd isE
 show wpAny _ _ (field (.ref e) 2 >>= _) _ _ _
 refine U8 (VC isE rfl (x:=Value.ref it) rfl (U8 (inner _ fun h1 k1 b1=>?_)))
 have b1':Heap.SameBut it h0 h1:=b1
 have E1:IsEnum h1 e it i old:=(b1'.2 e hne).trans isE
 show wpAny _ _ (field (.ref e) 3 >>= _) _ _ ⟨h1,gg,dd,t0,oo⟩
 refine U8 (VC E1 rfl (x:=rawInt (i:Int)) rfl ?_)
 show wpAny _ _ (field (.ref e) 4 >>= _) _ _ ⟨h1,gg,dd,t0,oo⟩
 refine U8 (VC E1 rfl (x:=Value.none) rfl ?_)
 show wpAny _ _ (mkInt i >>= _) _ _ ⟨h1,gg,dd,t0,oo⟩
 refine U8 (wpAny_mkInt ?_)
 show wpAny _ _ (setField (.ref e) 3 (rawInt ((i:Int)+1)) >>= _) _ _ ⟨h1,gg,dd,t0+1,oo⟩
 refine U8 (V8 E1 (by simp) fun h2 E2 b2=>?_)
 have b2':Heap.SameBut e h1 h2:=b2
 have E2':IsEnum h2 e it ((i:Int)+1) old:=E2
 show wpAny _ _ (setField (.ref e) 4 .none >>= _) _ _ ⟨h2,gg,dd,t0+1,oo⟩
 refine U8 (V8 E2' (by simp) fun h3 E3 b3=>?_)
 have b3':Heap.SameBut e h2 h3:=b3
 have E3':IsEnum h3 e it ((i:Int)+1) old:=E3
 show wpAny _ _ (newTuple [.int i t0,x] >>= _) _ _ ⟨h3,gg,dd,t0+1,oo⟩
 refine U8 (wpAny_newTuple ?_)
 have z3:h3.objs.size=h0.objs.size:=by rw[b3'.1,b2'.1,b1'.1]
 have E4:IsEnum (h3.push { cls:=.type "tuple", data:=.seq #[.int i t0,x] }) e it ((i:Int)+1) old:=U9 _ E3'
 have T4:(h3.push { cls:=.type "tuple", data:=.seq #[.int i t0,x] }).get? h0.objs.size=some { cls:=.type "tuple", data:=.seq #[.int i t0,x] }:=by rw[<- z3];exact Vg _ rfl
 have K4:∀b o,b≠e->b≠it->h0.get? b=some o->(h3.push { cls:=.type "tuple", data:=.seq #[.int i t0,x] }).get? b=some o:=fun b o n1 n2 q=>U9 _ (b3'.extBut b o n1 (b2'.extBut b o n1 (b1'.extBut b o n2 q)))
 have N4:Kn (h3.push { cls:=.type "tuple", data:=.seq #[.int i t0,x] }):=stay h1 _ k1 fun o q=>U9 _ (b3'.extBut it o (V2 hne) (b2'.extBut it o (V2 hne) q))
 rw[z3]
 generalize h3.push { cls:=.type "tuple", data:=.seq #[.int i t0,x] }=h4 at E4 T4 K4 N4
 show wpAny _ _ (Builtin.SmallTypes.ownedTupleIsFree (.ref e) >>= _) _ _ ⟨h4,gg,dd,t0+1,oo⟩
 refine U8 ?_
 unfold Builtin.SmallTypes.ownedTupleIsFree
 refine U8 (VC E4 rfl (x:=Value.none) rfl (Va ?_))
 simp only[WY]
 refine U8 (wpAny_rule (U8 (VC E4 rfl (x:=old) rfl ?_)))
 refine U8 (V8 E4 (by simp) fun h5 E5 b5=>?_)
 have b5':Heap.SameBut e h4 h5:=b5
 have E5':IsEnum h5 e it ((i:Int)+1) x:=E5
 show wpAny _ _ (Builtin.SmallTypes.ownedTupleHandOut (.ref e) (.ref h0.objs.size) >>= _) _ _ ⟨h5,gg,dd,t0+1,oo⟩
 refine U8 ?_
 unfold Builtin.SmallTypes.ownedTupleHandOut
 refine U8 (V8 E5' (by simp) fun h6 E6 b6=>?_)
 have b6':Heap.SameBut e h5 h6:=b6
 have E6':IsEnumOut h6 e it ((i:Int)+1) x h0.objs.size:=E6
 refine V8 E6' (by simp) fun h7 E7 b7=>?_
 have b7':Heap.SameBut e h6 h7:=b7
 have E7':IsEnumOut h7 e it ((i:Int)+1) x h0.objs.size:=E7
 have far:∀b o,b≠e->h4.get? b=some o->h7.get? b=some o:=fun b o n1 q=>b7'.extBut b o n1 (b6'.extBut b o n1 (b5'.extBut b o n1 q))
 refine U8 (wpAny_letGo (Va ⟨_,rfl,go h7 E7' ?_ (far _ _ (VP elt) T4) fun b o n1 n2 q=>far b o n1 (K4 b o n1 n2 q)⟩))
 exact stay h4 h7 N4 fun o q=>far it o (V2 hne) q
theorem G0{e it:Addr}{vs:Array Value}{x:Value}{Q:Option Value->Shared->Prop}(isE:IsEnum s.heap e it i old)(hIt:s.heap.IsTupleIter it tu i)(hT:s.heap.IsTuple tu vs)(hx:vs[i]?=some x)(hne:e≠it)
  (go:∀h1,IsEnumOut h1 e it ((i:Int)+1) x s.heap.objs.size->h1.IsTupleIter it tu (i+1)->h1.get? s.heap.objs.size=some { cls:=.type "tuple", data:=.seq #[.int i s.toks,x] }->(∀b o,b≠e->b≠it->s.heap.get? b=some o->h1.get? b=some o)->Q (some (.ref s.heap.objs.size)) { s with heap:=h1,toks:=s.toks+1 }) :
  wpAny (model prog w) A (pyNext (.ref e)) Q E s:=by
 have tyE:s.TypeIs (.ref e) "enumerate" := ⟨_,isE,rfl⟩
 unfold pyNext
 refine U8 (WK (VV (name:=Str.ofString "__next__") tyE Wa (Wg Wa tyE F.entry_enumerate_next ?_ (F.args_enumerate_next_1 _))))
 exact xA (Kn:=fun h1=>h1.IsTupleIter it tu (i+1)) isE hne (fun h1 h2 k hk=>k.at hk) (fun Q1 q1=>wv hIt hT hx q1) fun h1 a b c d=>Va (go h1 a b c d)
theorem Ku{e it:Addr}{vs:Array Value}{Q:Option Value->Shared->Prop}(hh:A.handled=none)(isE:IsEnum s.heap e it i old)(hIt:s.heap.IsTupleIter it tu i)(hT:s.heap.IsTuple tu vs)(hx:vs[i]?=none)
  (go:∀h1,Heap.ExtBut it s.heap h1->Q none { s with heap:=h1 }):wpAny (model prog w) A (pyNext (.ref e)) Q E s:=by
 have tyE:s.TypeIs (.ref e) "enumerate" := ⟨_,isE,rfl⟩
 unfold pyNext
 refine U8 (WK (VV (name:=Str.ofString "__next__") tyE Wa (Wg Wa tyE F.entry_enumerate_next ?_ (F.args_enumerate_next_1 _))))
 show wpAny _ _ (field (.ref e) 2 >>= _) _ _ _
 refine U8 (VC isE rfl (x:=Value.ref it) rfl (U8 (Ac hh hIt hT hx fun h1 xx eb hx'=>?_)))
 obtain⟨o,ho,hc⟩:=hx'
 exact U8 (wpAny_isInstance (T := "StopIteration") (b:=true) ⟨o,ho,hc⟩ isSubtype_stop (Va (go _ eb)))
end
variable{X:Cx}
theorem jw{t2:Nat}{p:Addr}{o:HO}(I:aj X pins σ H s)
  (k:∀b u,b∉ch->s.heap.get? b=some u->h2.get? b=some u) (hp:s.heap.objs.size<=p) (hn:∀b∈ch,gn X pins H b) (new:bD X.prog X.w (aH H p o) h2 p o):aj X pins σ (aH H p o) { s with heap:=h2,toks:=t2 }:=by
 have hH:H p=none:=I.hok.fresh hp
 have tr:∀b u,H b=some u->b∉ch:=fun b u e z=>by rw[(hn b z).1]at e;cases e
 have un:Un (cF X.stack) ch H (aH H p o) s.heap h2:=by
  refine⟨fun b ob e n _ c=>k b ob c e,fun b ob e n _ c=>⟨ob.slots,k b ob c e⟩,fun b ob e n c=>?_,fun b ob e c=>⟨ob,k b ob c e⟩,fun b xs e=>?_,fun b ob u e=>?_,fun b ps e=>⟨#[],?_⟩⟩
  ·rw[ay (Vv (Vj (Vd e) hp))];exact n
  ·rw[ay (aZ e hH)];exact e
  ·rw[ay (aZ e hH)];exact e
  ·rw[ay (aZ e hH),e];simp
 refine I.call (g':=s.gens) (d':=s.drawn) un (fun b u e=>?_) I.bare fun b hb=>⟨(hn b hb).2.2.2.1,(hn b hb).2.1,(hn b hb).2.2.2.2.1,(hn b hb).2.2.2.2.2⟩
 by_cases hb:b=p
 ·subst hb;rw[aF]at e;cases e;exact new
 ·rw[ay hb]at e
  refine(I.hok b u e).stay (fun c v hc q=>k c v ?_ q) (fun c q=>by rw[ay (aZ q hH)];exact q) fun c xs q=>by rw[ay (aZ q hH)];exact q
  rcases hc with z|z
  ·rw[z];exact tr b u e
  ·exact tr c _ z
def U6(K:W.Frag)(a:Addr):It :=
 ⟨fun i H => ∃xs x,cD K H a xs/\xs[i]?=some x,fun i H x H' => ∃p v,x=.ref p/\H p=none/\H'=aH H p (.tup [.int (i:Nat),v])/\∀xs,cD K H a xs->xs[i]?=some v,fun i H => ∃xs,cD K H a xs/\xs.length<=i⟩
theorem Aa{P:Program}(a e it:Addr)(hne:e≠it) :
  L2.Turn P w K (.Tuple es n1 pos) (U6 K a) [e,it] e (fun i h=>(∃old,IsEnum h e it ((i:Nat):Int) old)/\h.IsTupleIter it a i) where
 mem:=by simp
 obj:=fun i h st b hb=>by
  obtain⟨⟨old,q⟩,o,q2,c,d⟩:=st
  rcases Ve.mp hb with rfl|hb
  ·exact⟨_,q,fun v z=>by have z':Data.fields _=Data.cell v:=z;cases z'⟩
  ·have eb:b=it:=by simpa using hb
   subst eb
   exact⟨o,q2,fun v z=>by rw[d]at z;cases z⟩
 keep:=fun i h h' st k=>⟨let ⟨old,q⟩:=st.1;⟨old,k e (by simp) _ q⟩,st.2.at fun o q=>k it (by simp) o q⟩
 item:=by
  intro Y hP hw hK hc i pins s σ H E I hf st hg
  subst hP hw hK
  obtain⟨xs,x,hq,hx⟩:=hg
  obtain⟨its,rv,p,hz⟩:=I.tuple hq
  obtain⟨u,hu,ru⟩:=rv.get hx
  obtain⟨⟨old,isE⟩,hIt⟩:=st
  refine G0 isE hIt (show s.heap.IsTuple a its.toArray from p) (x:=u) (by simpa using hu) hne fun h1 eo it1 t1 k1=>?_
  refine⟨_,rfl,wpAny_letOwnedTupleGo_enum eo fun h2 e2 sb2=>?_⟩
  have sb2':Heap.SameBut e h1 h2:=sb2
  have elt:e<s.heap.objs.size:=Vd isE
  have k2:∀b o,b∉[e,it]->s.heap.get? b=some o->h2.get? b=some o:=fun b o nb q=>by
   have n1:b≠e:=fun z=>nb (by simp[z])
   have n2:b≠it:=fun z=>nb (by simp[z])
   exact sb2'.extBut b o n1 (k1 b o n1 n2 q)
  have t2:h2.get? s.heap.objs.size=some { cls:=.type "tuple", data:=.seq #[.int i s.toks,u] }:=sb2'.extBut _ _ (VP elt) t1
  have hn0:H s.heap.objs.size=none:=I.hok.fresh (Vf _)
  refine⟨.ref s.heap.objs.size,aH H s.heap.objs.size (.tup [.int (i:Nat),x]),jw (s:=s) (h2:=h2) (t2:=s.toks+1) I k2 (Vf _) hf ?_,rfl,⟨_,x,rfl,hn0,rfl,fun ys hy=>by rw[I.tuple_inj hy hq];exact hx⟩,⟨⟨u,?_⟩,it1.at fun o q=>sb2'.extBut it o (V2 hne) q⟩,fun b hb=>?_⟩
  ·exact⟨by show 2<=sizeLine;decide,[.int i s.toks,u],.cons ⟨_,rfl⟩ (.cons ru .nil),⟨_,t2,rfl,_,rfl⟩⟩
  ·have q:=e2
   rw[show((i:Nat):Int)+1=((i+1:Nat):Int) by omega]at q
   exact q
  ·have hb':=hf b hb
   have lt:b<s.heap.objs.size:=by
    rcases Ve.mp hb with rfl|hb
    ·exact elt
    ·have eb:b=it:=by simpa using hb
     subst eb
     obtain⟨o,q,_⟩:=hIt
     exact Vd q
   rw[ay (Vv lt)];exact hb'.1
 done:=by
  intro Y hP hw hK hc i pins s σ H E I hf st hg
  subst hP hw hK
  obtain⟨xs,hq,hx⟩:=hg
  obtain⟨its,rv,p,hz⟩:=I.tuple hq
  obtain⟨⟨old,isE⟩,hIt⟩:=st
  obtain⟨f0,f1,f2,f3,f4,f5⟩:=hf it (by simp)
  have hl:=rv.length
  exact Ku (I.ok.hd hc) isE hIt (show s.heap.IsTuple a its.toArray from p) (by simp;omega) fun h1 eb=>⟨rfl,I.turned (t':=s.toks) (fun b o hb q=>eb b o hb q) f0 f1 f3 f4 f5⟩
 self:=fun _ _ _ _ _ st h=>let ⟨old,q⟩:=st.1;wpAny_pyIter_enum q h
theorem Gu(hg:Gl X "enumerate")(hm0:X.mg "enumerate" = none)(ha:AD X ρ [a] [.tup l] k)(hst:∀y p,a ≠ .Starred y p)(hf:ar l=true) :
  IE X ρ (.Tuple es n1 tp) (.Call (.Name "enumerate" p) [a] [] pos) (l.mapIdx fun i x=>.tup [.int (i:Nat),x]) 0:=by
 intro ow pins s σ H R I ⟨E,q⟩
 refine Call_ (dH I hg hm0 (show bootBuiltins "enumerate" = some (.type "enumerate") by decide) (VG (aQ (ha ow pos pins s σ H (fun vs H1=>aA H H1/\ah X.K H1 (Kp ow H k) [.tup l] vs) I ⟨E,fun vs H1 s1 r1=>⟨s1,r1⟩⟩) fun us s1 ⟨vs,H1,I1,rv,sm,rp⟩=>?_) (aG hst) rfl) (by decide) (by decide))
 obtain⟨v,rfl,rv1⟩:=rp.only
 obtain⟨ta,xs,rfl,hq,rl⟩:=eN rv1
 obtain⟨u,rfl,ru⟩:=ee rv
 cases (show u=Value.ref ta from ru)
 obtain⟨its,rvs,pt,hz⟩:=I1.tuple hq
 refine G2 (show s1.heap.IsTuple ta its.toArray from pt) fun h2 isE hIt sz k2=>?_
 refine wpAny_pyIter_enum isE ?_
 have I2:aj X pins σ H1 { s1 with heap:=h2 }:=I1.kept (t':=s1.toks) k2
 have f0:H1 s1.heap.objs.size=none:=I1.hok.fresh (Vf _)
 have f1:H1 (s1.heap.objs.size+1)=none:=I1.hok.fresh (WX _)
 refine⟨s1.heap.objs.size+1,[s1.heap.objs.size+1,s1.heap.objs.size],_,_,H1,rfl,I2,Aa ta _ _ (VP (Vy _)),⟨⟨_,isE⟩,hIt⟩,fun b hb=>?_,q _ H1 sm ?_⟩
 ·rcases Ve.mp hb with rfl|hb
  ·exact I1.fpOk (WX _) f1
  ·have eb:b=s1.heap.objs.size:=by simpa using hb
   subst eb
   exact I1.fpOk (Vf _) f0
 ·intro i H2 st
  have rl':ah X.K H1 (Kd ow H 0 H1) l xs:=rl.flat _ hf
  refine⟨fun d hd=>?_,fun hle=>?_⟩
  ·rw[List.getElem?_mapIdx]at hd
   cases e:l[i]? with
   | none=>rw[e]at hd;cases hd
   | some x =>
    rw[e]at hd;cases hd
    obtain⟨y,hy,ry⟩:=rl'.get e
    refine⟨⟨xs,y,st.sq hq,hy⟩,fun x' H3 ⟨p',v',e1,e2,e3,e4⟩=>?_⟩
    have hv:=e4 xs (st.sq hq)
    rw[hy]at hv;cases hv
    subst e1 e3
    have sm3:=cy (o:=HO.tup [.int (i:Nat),y]) e2
    refine⟨sm3,?_⟩
    rw[ai]
    exact⟨p',_,rfl,cD.of aF,ah.cons (by rw[ai]) (ah.one ((ry.mono st).same sm3))⟩
  ·rw[List.length_mapIdx]at hle
   exact⟨xs,st.sq hq,by rw[<- rl.length];exact hle⟩
theorem sB(h:iX tg=true):∃es n p,tg=.Tuple es n p:=by
 cases tg<;>first|exact⟨_,_,_,rfl⟩|cases h
open AutoSeq1 (wpAny_loadPart')
structure Wk(prog:Program)(w:World)(i l:Addr)(P:Nat->Heap->Prop)(g:Nat->Option Value):Prop where
 stay:∀k (h h':Heap),P k h->(∀c o,c=i\/c=l->h.get? c=some o->h'.get? c=some o)->P k h'
 here:∀k (h:Heap),P k h->∃o,h.get? i=some o/\∀v,o.data≠Data.cell v
 item:∀(A:Around) (E:Value->Shared->Prop) (s:Shared) (k:Nat) (x:Value) (Q:Value->Shared->Prop),P k s.heap->g k=some x->(∀h1,P (k+1) h1->Heap.SameBut i s.heap h1->Q x { s with heap:=h1 })->wpAny (model prog w) A (Builtin.SmallTypes.nextOf (.ref i)) Q E s
 done:∀(A:Around) (E:Value->Shared->Prop) (s:Shared) (k:Nat) (Q:Value->Shared->Prop),A.handled=none->P k s.heap->g k=none->(∀h1 x,Heap.ExtBut i s.heap h1->(∃o,h1.get? x=some o/\o.cls=.type "StopIteration")->E (.ref x) { s with heap:=h1 })->wpAny (model prog w) A (Builtin.SmallTypes.nextOf (.ref i)) Q E s
theorem lM{i l:Addr}(ne:l≠i):Wk prog w i l (fun k h=>h.IsTupleIter i l k/\h.IsTuple l xs) (fun k=>xs[k]?) where
 stay:=fun k h h' p q=>⟨p.1.at fun o e=>q i o (.inl rfl) e,p.2.at fun o e=>q l o (.inr rfl) e⟩
 here:=fun k h p=>let ⟨o,e,_,d⟩:=p.1;⟨o,e,fun v z=>by rw[d]at z;cases z⟩
 item:=fun A E s k x Q p hx q=>wv p.1 p.2 hx fun h1 a b=>q h1 ⟨a,p.2.extBut b.extBut ne⟩ b
 done:=fun A E s k Q hh p hx q=>Ac hh p.1 p.2 hx q
theorem HC{i l:Addr}(ne:l≠i):Wk prog w i l (fun k h=>h.IsListIter i l k/\h.IsList l xs) (fun k=>xs[k]?) where
 stay:=fun k h h' p q=>⟨p.1.at fun o e=>q i o (.inl rfl) e,p.2.at fun o e=>q l o (.inr rfl) e⟩
 here:=fun k h p=>let ⟨o,e,_,d⟩:=p.1;⟨o,e,fun v z=>by rw[d]at z;cases z⟩
 item:=fun A E s k x Q p hx q=>wpAny_nextOf_list_item p.1 p.2 hx fun h1 a b=>q h1 ⟨a,p.2.extBut b.extBut ne⟩ b
 done:=fun A E s k Q hh p hx q=>wpAny_nextOf_list_end hh p.1 p.2 hx q
section
variable{prog:Program}{w:World}{A:Around}{E:Value->Shared->Prop}{s:Shared}
variable{z TI TO i1 i2 l1 l2:Addr}{k1 k2:Nat}{P1 P2:Nat->Heap->Prop}{g1 g2:Nat->Option Value}{x y a b:Value}
structure Zs(z TI TO i1 i2 l1 l2:Addr)(P1 P2:Nat->Heap->Prop)(k:Nat)(h:Heap):Prop where
 ap:ZipApart z TI TO i1 i2 l1 l2
 rd:IsZip h z TI TO .none
 ins:IsPair h TI (.ref i1) (.ref i2)
 out:∃a b,IsPair h TO a b
 fst:P1 k h
 snd:P2 k h
theorem Zs.item(W1:Wk prog w i1 l1 P1 g1)(W2:Wk prog w i2 l2 P2 g2)(S:Zs z TI TO i1 i2 l1 l2 P1 P2 k s.heap)(hx:g1 k=some x)(hy:g2 k=some y)
  (go:∀h1,(∀h2,IsZip h2 z TI TO .none->Heap.SameBut z h1 h2->Zs z TI TO i1 i2 l1 l2 P1 P2 (k+1) h2)->IsZip h1 z TI TO (rawInt s.heap.objs.size)->IsPair h1 s.heap.objs.size x y->(∀c o,c∉[z,TO,i1,i2]->s.heap.get? c=some o->h1.get? c=some o)->Q (.ref s.heap.objs.size) { s with heap:=h1 }) :
  wpAny (model prog w) A (Builtin.«zip.__next__» ⟨[.ref z],[]⟩) (fun fin s' => ∃v,fin=.done (.ret v)/\Q v s') E s:=by
 obtain⟨D,isZ,pI,⟨a,b,pO⟩,p1,p2⟩:=S
 obtain⟨h0,gg,dd,t0,oo⟩:=s
 show wpAny _ _ (field (.ref z) 2 >>= _) _ _ ⟨h0,gg,dd,t0,oo⟩
 refine U8 (VC isZ rfl (x:=Value.bool false) rfl ?_)
 show wpAny _ _ (field (.ref z) 3 >>= _) _ _ ⟨h0,gg,dd,t0,oo⟩
 refine U8 (VC isZ rfl (x:=Value.ref TI) rfl (U8 (WE pI rfl ?_)))
 show wpAny _ _ (Builtin.SmallTypes.ownedTupleIsFree (.ref z) >>= _) _ _ ⟨h0,gg,dd,t0,oo⟩
 unfold Builtin.SmallTypes.ownedTupleIsFree
 refine U8 (U8 (VC isZ rfl (x:=Value.none) rfl (Va ?_)))
 simp only[WY]
 refine U8 (wpAny_rule (U8 (VC isZ rfl (x:=Value.ref TO) rfl (U8 (V8 isZ (by simp) fun q1 Z1 m1=>?_)))))
 have Z1:IsZip q1 z TI TO .ellipsis:=Z1
 have m1:Heap.SameBut z h0 q1:=m1
 simp only[List.zipIdx_cons,List.zipIdx_nil,W4,List.forIn_nil]
 refine U8 (U8 (U8 (wpAny_onRaise ?_)))
 show wpAny _ _ (Builtin.SmallTypes.nextOf (.ref i1) >>= _) _ _ ⟨q1,gg,dd,t0,oo⟩
 have e1:∀c o,c≠z->h0.get? c=some o->q1.get? c=some o:=fun c o n u=>m1.extBut c o n u
 refine U8 (W1.item _ _ _ k x _ (W1.stay k _ _ p1 fun c o hc u=>e1 c o (by rcases hc with rfl|rfl;exact D.i1z;exact D.l1z) u) hx fun q2 p1' m2=>Va ?_)
 have m2:Heap.SameBut i1 q1 q2:=m2
 have e2:∀c o,c≠z->c≠i1->h0.get? c=some o->q2.get? c=some o:=fun c o n n' u=>m2.extBut c o n' (e1 c o n u)
 have O2:IsPair q2 TO a b:=e2 _ _ D.TOz D.TOi1 pO
 refine U8 (WE O2 rfl (U8 (wpAny_updateSeq_pair O2 fun q3 O3 m3=>U8 (wpAny_letGo (Va ?_)))))
 have O3:IsPair q3 TO x b:=O3
 have m3:Heap.SameBut TO q2 q3:=m3
 have e3:∀c o,c≠z->c≠i1->c≠TO->h0.get? c=some o->q3.get? c=some o:=fun c o n n' n'' u=>m3.extBut c o n'' (e2 c o n n' u)
 refine U8 (U8 (wpAny_onRaise ?_))
 show wpAny _ _ (Builtin.SmallTypes.nextOf (.ref i2) >>= _) _ _ ⟨q3,gg,dd,t0,oo⟩
 refine U8 (W2.item _ _ _ k y _ (W2.stay k _ _ p2 fun c o hc u=>by
  rcases hc with rfl|rfl
  ·exact e3 c o D.i2z D.i12.symm D.TOi2.symm u
  ·exact e3 c o D.l2z D.l2i1 D.l2TO u) hy fun q4 p2' m4=>Va ?_)
 have m4:Heap.SameBut i2 q3 q4:=m4
 have O4:IsPair q4 TO x b:=m4.extBut _ _ D.TOi2 O3
 refine U8 (WE O4 rfl (U8 (wpAny_updateSeq_pair O4 fun q5 O5 m5=>U8 (wpAny_letGo (Va (Va ?_))))))
 have O5:IsPair q5 TO x y:=O5
 have m5:Heap.SameBut TO q4 q5:=m5
 refine U8 (WE O5 rfl (U8 (wpAny_newTuple ?_)))
 have sz:q5.objs.size=h0.objs.size:=by rw[m5.1,m4.1,m3.1,m2.1,m1.1]
 have e5:∀c o,c≠z->c≠i1->c≠TO->c≠i2->h0.get? c=some o->q5.get? c=some o:=fun c o n n' n'' n3 u=>m5.extBut c o n'' (m4.extBut c o n3 (e3 c o n n' n'' u))
 have Z5:IsZip q5 z TI TO .ellipsis:=m5.extBut _ _ D.TOz.symm (m4.extBut _ _ D.i2z.symm (m3.extBut _ _ D.TOz.symm (m2.extBut _ _ D.i1z.symm Z1)))
 have r1:P1 (k+1) q5:=W1.stay _ _ _ p1' fun c o hc u=>by
  rcases hc with rfl|rfl
  ·exact m5.extBut c o D.TOi1.symm (m4.extBut c o D.i12 (m3.extBut c o D.TOi1.symm u))
  ·exact m5.extBut c o D.l1TO (m4.extBut c o D.l1i2 (m3.extBut c o D.l1TO u))
 have r2:P2 (k+1) q5:=W2.stay _ _ _ p2' fun c o hc u=>by
  rcases hc with rfl|rfl
  ·exact m5.extBut c o D.TOi2.symm u
  ·exact m5.extBut c o D.l2TO u
 have I5:IsPair q5 TI (.ref i1) (.ref i2):=e5 _ _ D.TIz D.TIi1 D.TITO D.TIi2 pI
 have zl:z<q5.objs.size:=Vd Z5
 show wpAny _ _ (Builtin.SmallTypes.ownedTupleHandOut (.ref z) (.ref q5.objs.size) >>= _) _ _ ⟨q5.push { cls:=.type "tuple", data:=.seq #[x,y] },gg,dd,t0,oo⟩
 unfold Builtin.SmallTypes.ownedTupleHandOut
 have Z6:IsZip (q5.push { cls:=.type "tuple", data:=.seq #[x,y] }) z TI TO .ellipsis:=U9 _ Z5
 refine U8 (U8 (V8 Z6 (by simp) fun q7 Z7 m7=>?_))
 have Z7:IsZip q7 z TI TO (rawInt q5.objs.size):=Z7
 refine V8 Z7 (by simp) fun q8 Z8 m8=>?_
 have Z8:IsZip q8 z TI TO (rawInt q5.objs.size):=Z8
 have far:∀c o,c≠z->q5.get? c=some o->q8.get? c=some o:=fun c o n u=>m8.extBut _ _ n (m7.extBut _ _ n (U9 _ u))
 have T8:IsPair q8 q5.objs.size x y:=m8.extBut _ _ (VP zl) (m7.extBut _ _ (VP zl) (Vg _ rfl))
 refine Va ⟨_,rfl,?_⟩
 show Q (.ref q5.objs.size) _
 rw[sz]at Z8 T8⊢
 refine go q8 (fun h2 Zn mn=>⟨D,Zn,mn.extBut _ _ D.TIz (far _ _ D.TIz I5),⟨x,y,mn.extBut _ _ D.TOz (far _ _ D.TOz O5)⟩,W1.stay _ _ _ r1 fun c o hc u=>?_,W2.stay _ _ _ r2 fun c o hc u=>?_⟩) Z8 T8 fun c o hc u=>?_
 ·have n:c≠z:=by rcases hc with rfl|rfl;exact D.i1z;exact D.l1z
  exact mn.extBut c o n (far c o n u)
 ·have n:c≠z:=by rcases hc with rfl|rfl;exact D.i2z;exact D.l2z
  exact mn.extBut c o n (far c o n u)
 ·have c1:c≠z:=fun q=>hc (by simp[q])
  have c2:c≠TO:=fun q=>hc (by simp[q])
  have c3:c≠i1:=fun q=>hc (by simp[q])
  have c4:c≠i2:=fun q=>hc (by simp[q])
  exact far c o c1 (e5 c o c1 c3 c2 c4 u)
theorem Zs.done{Q:Fin->Shared->Prop}(hh:A.handled=none)(W1:Wk prog w i1 l1 P1 g1)(W2:Wk prog w i2 l2 P2 g2)(S:Zs z TI TO i1 i2 l1 l2 P1 P2 k s.heap)(hxy:g1 k=none\/g2 k=none)
    (go:∀h1 e,(∀c o,c∉[z,TO,i1,i2]->s.heap.get? c=some o->h1.get? c=some o)->(∃o,h1.get? e=some o/\o.cls=.type "StopIteration")->E (.ref e) { s with heap:=h1 }) :
    wpAny (model prog w) A (Builtin.«zip.__next__» ⟨[.ref z],[]⟩) Q E s:=by
  obtain⟨D,isZ,pI,⟨a,b,pO⟩,p1,p2⟩:=S
  obtain⟨h0,gg,dd,t0,oo⟩:=s
  show wpAny _ _ (field (.ref z) 2 >>= _) _ _ ⟨h0,gg,dd,t0,oo⟩
  refine U8 (VC isZ rfl (x:=Value.bool false) rfl ?_)
  show wpAny _ _ (field (.ref z) 3 >>= _) _ _ ⟨h0,gg,dd,t0,oo⟩
  refine U8 (VC isZ rfl (x:=Value.ref TI) rfl (U8 (WE pI rfl ?_)))
  show wpAny _ _ (Builtin.SmallTypes.ownedTupleIsFree (.ref z) >>= _) _ _ ⟨h0,gg,dd,t0,oo⟩
  unfold Builtin.SmallTypes.ownedTupleIsFree
  refine U8 (U8 (VC isZ rfl (x:=Value.none) rfl (Va ?_)))
  simp only[WY]
  refine U8 (wpAny_rule (U8 (VC isZ rfl (x:=Value.ref TO) rfl (U8 (V8 isZ (by simp) fun q1 Z1 m1=>?_)))))
  have Z1:IsZip q1 z TI TO .ellipsis:=Z1
  have m1:Heap.SameBut z h0 q1:=m1
  simp only[List.zipIdx_cons,List.zipIdx_nil,W4,List.forIn_nil]
  refine U8 (U8 (U8 (wpAny_onRaise ?_)))
  show wpAny _ _ (Builtin.SmallTypes.nextOf (.ref i1) >>= _) _ _ ⟨q1,gg,dd,t0,oo⟩
  have e1:∀c o,c≠z->h0.get? c=some o->q1.get? c=some o:=fun c o n u=>m1.extBut c o n u
  have p1:P1 k q1:=W1.stay k _ _ p1 fun c o hc u=>e1 c o (by rcases hc with rfl|rfl;exact D.i1z;exact D.l1z) u
  have nin:∀c,c∉[z,TO,i1,i2]->c≠z/\c≠TO/\c≠i1/\c≠i2:=fun c hc=>⟨fun q=>hc (by simp[q]),fun q=>hc (by simp[q]),fun q=>hc (by simp[q]),fun q=>hc (by simp[q])⟩
  have last:∀(q2:Heap) (ex:Addr) (oe:Obj),IsZip q2 z TI TO .ellipsis->(∀c o,c∉[z,TO,i1,i2]->h0.get? c=some o->q2.get? c=some o)->q2.get? ex=some oe->oe.cls=.type "StopIteration" ->
      wpAny (model prog w) A (setField (.ref z) 0 .none) (fun _ s'=>E (.ref ex) s') E ⟨q2,gg,dd,t0,oo⟩:=fun q2 ex oe Z2 k2 ho hc=>by
    have hez:ex≠z:=fun u=>by subst u;rw[Z2]at ho;cases ho;simp at hc
    refine V8 Z2 (by simp) fun q3 _ m3=>go q3 ex (fun c o hc u=>?_) ⟨oe,m3.extBut _ _ hez ho,hc⟩
    exact m3.extBut c o (nin c hc).1 (k2 c o hc u)
  cases hx:g1 k with
  | none =>
    refine U8 (W1.done _ _ _ k _ hh p1 hx fun q2 ex m2 he=>?_)
    obtain⟨oe,ho,hc⟩:=he
    have m2:Heap.ExtBut i1 q1 q2:=m2
    exact last q2 ex oe (m2 _ _ D.i1z.symm Z1) (fun c o hc u=>m2 c o (nin c hc).2.2.1 (e1 c o (nin c hc).1 u)) ho hc
  | some x =>
    have hy:g2 k=none:=hxy.resolve_left (by rw[hx];exact fun q=>nomatch q)
    refine U8 (W1.item _ _ _ k x _ p1 hx fun q2 p1' m2=>Va ?_)
    have m2:Heap.SameBut i1 q1 q2:=m2
    have e2:∀c o,c≠z->c≠i1->h0.get? c=some o->q2.get? c=some o:=fun c o n n' u=>m2.extBut c o n' (e1 c o n u)
    have O2:IsPair q2 TO a b:=e2 _ _ D.TOz D.TOi1 pO
    refine U8 (WE O2 rfl (U8 (wpAny_updateSeq_pair O2 fun q3 O3 m3=>U8 (wpAny_letGo (Va ?_)))))
    have m3:Heap.SameBut TO q2 q3:=m3
    have e3:∀c o,c≠z->c≠i1->c≠TO->h0.get? c=some o->q3.get? c=some o:=fun c o n n' n'' u=>m3.extBut c o n'' (e2 c o n n' u)
    refine U8 (U8 (wpAny_onRaise ?_))
    show wpAny _ _ (Builtin.SmallTypes.nextOf (.ref i2) >>= _) _ _ ⟨q3,gg,dd,t0,oo⟩
    refine U8 (W2.done _ _ _ k _ hh (W2.stay k _ _ p2 fun c o hc u=>by
      rcases hc with rfl|rfl
      . exact e3 c o D.i2z D.i12.symm D.TOi2.symm u
      . exact e3 c o D.l2z D.l2i1 D.l2TO u) hy fun q4 ex m4 he=>?_)
    obtain⟨oe,ho,hc⟩:=he
    have m4:Heap.ExtBut i2 q3 q4:=m4
    exact last q4 ex oe (m4 _ _ D.i2z.symm (m3.extBut _ _ D.TOz.symm (m2.extBut _ _ D.i1z.symm Z1))) (fun c o hc u=>m4 c o (nin c hc).2.2.2 (e3 c o (nin c hc).1 (nin c hc).2.2.1 (nin c hc).2.1 u)) ho hc
theorem Zs.pyItem{Q:Option Value->Shared->Prop}(W1:Wk prog w i1 l1 P1 g1)(W2:Wk prog w i2 l2 P2 g2)(S:Zs z TI TO i1 i2 l1 l2 P1 P2 k s.heap)(hx:g1 k=some x)(hy:g2 k=some y)
  (go:∀h1,(∀h2,IsZip h2 z TI TO .none->Heap.SameBut z h1 h2->Zs z TI TO i1 i2 l1 l2 P1 P2 (k+1) h2)->IsZip h1 z TI TO (rawInt s.heap.objs.size)->IsPair h1 s.heap.objs.size x y->(∀c o,c∉[z,TO,i1,i2]->s.heap.get? c=some o->h1.get? c=some o)->Q (some (.ref s.heap.objs.size)) { s with heap:=h1 }) :
  wpAny (model prog w) A (pyNext (.ref z)) Q E s:=by
 have ty:s.TypeIs (.ref z) "zip" := ⟨_,S.rd,rfl⟩
 unfold pyNext
 exact U8 (WK (VV (name:=Str.ofString "__next__") ty F.slot_zip_next (Wg F.slot_zip_next ty F.entry_zip_next (S.item W1 W2 hx hy fun h1 a b c d=>Va (go h1 a b c d)) (F.args_zip_next_1 _))))
theorem Zs.pyDone{Q:Option Value->Shared->Prop}(hh:A.handled=none)(W1:Wk prog w i1 l1 P1 g1)(W2:Wk prog w i2 l2 P2 g2)(S:Zs z TI TO i1 i2 l1 l2 P1 P2 k s.heap)(hxy:g1 k=none\/g2 k=none)
  (go:∀h1,(∀c o,c∉[z,TO,i1,i2]->s.heap.get? c=some o->h1.get? c=some o)->Q none { s with heap:=h1 }):wpAny (model prog w) A (pyNext (.ref z)) Q E s:=by
 have ty:s.TypeIs (.ref z) "zip" := ⟨_,S.rd,rfl⟩
 unfold pyNext
 refine U8 (WK (VV (name:=Str.ofString "__next__") ty F.slot_zip_next (Wg F.slot_zip_next ty F.entry_zip_next (S.done hh W1 W2 hxy fun h1 e kk he=>?_) (F.args_zip_next_1 _))))
 obtain⟨oe,ho,hc⟩:=he
 exact U8 (wpAny_isInstance (T := "StopIteration") (b:=true) ⟨oe,ho,hc⟩ isSubtype_stop (Va (go h1 kk)))
end
abbrev DX(h:Heap)(a:Addr):Heap:=h.push { cls:=.type "tuple_iterator", data:=.fields #[.ref a,.int 0 0] }
abbrev DW(h:Heap)(a b:Addr):Heap:=(DX h a).push { cls:=.type "tuple_iterator", data:=.fields #[.ref b,.int 0 0] }
abbrev DV(h:Heap)(a b:Addr):Heap:=(DW h a b).push { cls:=.type "tuple", data:=.seq #[.ref h.objs.size,.ref (DX h a).objs.size] }
abbrev DU(h:Heap)(a b:Addr):Heap:=(DV h a b).push { cls:=.type "tuple", data:=.seq #[.none,.none] }
abbrev tM(h:Heap)(a b:Addr):Heap:=(DU h a b).push { cls:=.type "zip", data:=.fields #[.none,.bool false,.bool false,.ref (DW h a b).objs.size,.ref (DV h a b).objs.size] }
theorem Hu(a b:Addr)(xs ys:Array Value) :
  Meets (Builtin.«zip.__new__» ⟨[.type "zip", .ref a,.ref b],[]⟩) (fun _ R s=>s.heap.IsTuple a xs/\s.heap.IsTuple b ys/\R (.ok (.ret (.ref (DU s.heap a b).objs.size))) { s with heap:=tM s.heap a b }) :=
 .of_wp fun pg wd AA RR st hh=>by
  obtain⟨hp0,gg,dd,tk0,oo⟩:=st;obtain⟨ha,hb,hh⟩:=hh
  have hsub0:=sub_zip
  have T1:Heap.IsTuple (Shared.heap ⟨hp0,gg,dd,tk0,oo⟩) a xs:=ha
  have T2:Heap.IsTuple (Shared.heap ⟨hp0.push { cls:=.type "tuple_iterator", data:=.fields #[.ref a,.int 0 0] },gg,dd,tk0,oo⟩) b ys:=hb.at fun o e=>U9 _ e
  wp_walk using V4 T1,V4 T2
  exact⟨_,rfl,hh⟩
theorem Fg{a b:Addr}(ha:s.heap.IsTuple a xs)(hb:s.heap.IsTuple b ys)
  (go:∀h1,Zs (s.heap.objs.size+4) (s.heap.objs.size+2) (s.heap.objs.size+3) s.heap.objs.size (s.heap.objs.size+1) a b (fun k h=>h.IsTupleIter s.heap.objs.size a k/\h.IsTuple a xs) (fun k h=>h.IsTupleIter (s.heap.objs.size+1) b k/\h.IsTuple b ys) 0 h1->(∀c o,s.heap.get? c=some o->h1.get? c=some o)->Q (.ref (s.heap.objs.size+4)) { s with heap:=h1 }) :
  wpAny (model prog w) A (call (.type "zip") [.ref a,.ref b]) Q E s:=by
 refine callType_new F.called_zip (by decide) (F.typeCall_zip_2 _ _) (F.newCall_zip_2 _ _) (fun ob=>F.args_object_init_3 ob _ _) F.entry_zip_new (Hu a b xs ys) ⟨ha,hb,?_⟩
 have s1:(DX s.heap a).objs.size=s.heap.objs.size+1:=VH ..
 have s2:(DW s.heap a b).objs.size=s.heap.objs.size+2:=by rw[VH,s1]
 have s3:(DV s.heap a b).objs.size=s.heap.objs.size+3:=by rw[VH,s2]
 have s4:(DU s.heap a b).objs.size=s.heap.objs.size+4:=by rw[VH,s3]
 have r5:(tM s.heap a b).get? (DU s.heap a b).objs.size=some _:=Vg _ rfl
 have r4:(tM s.heap a b).get? (DV s.heap a b).objs.size=some _:=U9 _ (Vg _ rfl)
 have r3:(tM s.heap a b).get? (DW s.heap a b).objs.size=some _:=U9 _ (U9 _ (Vg _ rfl))
 have r2:(tM s.heap a b).get? (DX s.heap a).objs.size=some _:=U9 _ (U9 _ (U9 _ (Vg _ rfl)))
 have r1:(tM s.heap a b).get? s.heap.objs.size=some _:=U9 _ (U9 _ (U9 _ (U9 _ (Vg _ rfl))))
 have up:∀c o,s.heap.get? c=some o->(tM s.heap a b).get? c=some o:=fun c o e=>U9 _ (U9 _ (U9 _ (U9 _ (U9 _ e))))
 have la:a<s.heap.objs.size:=by obtain⟨_,e,_⟩:=ha;exact Vd e
 have lb:b<s.heap.objs.size:=by obtain⟨_,e,_⟩:=hb;exact Vd e
 rw[s2,s3,s4]at r5
 rw[s1,s2]at r3
 rw[s3]at r4
 rw[s1]at r2
 show _/\_
 rw[s4]
 have ne:∀{m n:Nat},m<n->m≠n:=fun h=>Vv h
 refine⟨⟨_,r5,rfl⟩,go _ ⟨?_,r5,r3,⟨_,_,r4⟩,⟨⟨_,r1,rfl,rfl⟩,ha.at fun o e=>up _ _ e⟩,⟨⟨_,r2,rfl,rfl⟩,hb.at fun o e=>up _ _ e⟩⟩ up⟩
 generalize s.heap.objs.size=n at la lb
 have la':(a:Nat)<n:=la
 have lb':(b:Nat)<n:=lb
 constructor<;>first|exact ne (by omega)|exact(ne (by omega)).symm|exact ne (Vj la (by omega))|exact ne (Vj lb (by omega))|exact ne la|exact ne lb
variable{X:Cx}
theorem qo{t2:Nat}(I:aj X pins σ H s)
  (k:∀b u,b∉ch->s.heap.get? b=some u->h2.get? b=some u) (hn:∀b∈ch,gn X pins H b):aj X pins σ H { s with heap:=h2,toks:=t2 }:=by
 have tr:∀b u,H b=some u->b∉ch:=fun b u e z=>by rw[(hn b z).1]at e;cases e
 have un:Un (cF X.stack) ch H H s.heap h2:=⟨fun b ob e n _ c=>k b ob c e,fun b ob e n _ c=>⟨ob.slots,k b ob c e⟩,fun b ob e n c=>n,fun b ob e c=>⟨ob,k b ob c e⟩,fun b xs e=>e,fun b ob u e=>e,fun b ps e=>⟨#[],by rw[e];simp⟩⟩
 refine I.call (g':=s.gens) (d':=s.drawn) un (fun b u e=>?_) I.bare fun b hb=>⟨(hn b hb).2.2.2.1,(hn b hb).2.1,(hn b hb).2.2.2.2.1,(hn b hb).2.2.2.2.2⟩
 refine(I.hok b u e).stay (fun c v hc q=>k c v ?_ q) (fun c q=>q) fun c xs q=>q
 rcases hc with z|z
 ·rw[z];exact tr b u e
 ·exact tr c _ z
def U5(K:W.Frag)(a b:Addr):It :=
 ⟨fun i H => ∃xs ys x y,cD K H a xs/\xs[i]?=some x/\cD K H b ys/\ys[i]?=some y,fun i H x H' => ∃p u v,x=.ref p/\H p=none/\H'=aH H p (.tup [u,v])/\(∀xs,cD K H a xs->xs[i]?=some u)/\∀ys,cD K H b ys->ys[i]?=some v,fun i H => ∃xs ys,cD K H a xs/\cD K H b ys/\(xs.length<=i\/ys.length<=i)⟩
theorem Ca{P:Program}(a b z TI TO i1 i2:Addr)(D:ZipApart z TI TO i1 i2 a b) :
  L2.Turn P w K (.Tuple es n1 pos) (U5 K a b) [z,TI,TO,i1,i2] z (fun i h=>IsZip h z TI TO .none/\IsPair h TI (.ref i1) (.ref i2)/\(∃u v,IsPair h TO u v)/\h.IsTupleIter i1 a i/\h.IsTupleIter i2 b i) where
 mem:=by simp
 obj:=fun i h st c hc=>by
  obtain⟨q1,q2,⟨u,v,q3⟩,⟨o4,q4,c4,d4⟩,⟨o5,q5,c5,d5⟩⟩:=st
  simp only[Ve,VF,Ws]at hc
  rcases hc with rfl|rfl|rfl|rfl|rfl
  ·exact⟨_,q1,fun v e=>by have e':Data.fields _=Data.cell v:=e;cases e'⟩
  ·exact⟨_,q2,fun v e=>by have e':Data.seq _ _=Data.cell v:=e;cases e'⟩
  ·exact⟨_,q3,fun v e=>by have e':Data.seq _ _=Data.cell v:=e;cases e'⟩
  ·exact⟨_,q4,fun v e=>by rw[d4]at e;cases e⟩
  ·exact⟨_,q5,fun v e=>by rw[d5]at e;cases e⟩
 keep:=fun i h h' ⟨q1,q2,⟨u,v,q3⟩,q4,q5⟩ k=>⟨k _ (by simp) _ q1,k _ (by simp) _ q2,⟨u,v,k _ (by simp) _ q3⟩,q4.at fun o e=>k _ (by simp) o e,q5.at fun o e=>k _ (by simp) o e⟩
 item:=by
  intro Y hP hw hK hc i pins s σ H E I hf st hg
  subst hP hw hK
  obtain⟨xs,ys,x,y,hq,hx,hr,hy⟩:=hg
  obtain⟨its,rv,p1,hz⟩:=I.tuple hq
  obtain⟨jts,rw',p2,hz'⟩:=I.tuple hr
  obtain⟨u,hu,ru⟩:=rv.get hx
  obtain⟨v,hv,rv'⟩:=rw'.get hy
  obtain⟨q1,q2,q3,q4,q5⟩:=st
  have zlt:z<s.heap.objs.size:=Vd q1
  refine Zs.pyItem (lM (i:=i1) (l:=a) (xs:=its.toArray) D.l1i1) (lM (i:=i2) (l:=b) (xs:=jts.toArray) D.l2i2) ⟨D,q1,q2,q3,⟨q4,p1⟩,⟨q5,p2⟩⟩ (x:=u) (y:=v) (by simpa using hu) (by simpa using hv) fun h1 jq zo t1 k1=>?_
  refine⟨_,rfl,wpAny_letOwnedTupleGo_zip zo fun h2 z2 m2=>?_⟩
  have m2:Heap.SameBut z h1 h2:=m2
  have N:=jq h2 z2 m2
  have k2:∀c o,c∉[z,TI,TO,i1,i2]->s.heap.get? c=some o->h2.get? c=some o:=fun c o nc q=>by
   have n1:c≠z:=fun e=>nc (by simp[e])
   refine m2.extBut c o n1 (k1 c o (fun e=>nc ?_) q)
   simp only[Ve,VF,Ws]at e⊢
   rcases e with e|e|e|e<;>simp[e]
  have t2:h2.get? s.heap.objs.size=some { cls:=.type "tuple", data:=.seq #[u,v] }:=m2.extBut _ _ (VP zlt) t1
  have hn0:H s.heap.objs.size=none:=I.hok.fresh (Vf _)
  refine⟨.ref s.heap.objs.size,aH H s.heap.objs.size (.tup [x,y]),jw (s:=s) (h2:=h2) (t2:=s.toks) I k2 (Vf _) hf ?_,rfl,⟨_,x,y,rfl,hn0,rfl,fun ws hw=>by rw[I.tuple_inj hw hq];exact hx,fun ws hw=>by rw[I.tuple_inj hw hr];exact hy⟩,⟨N.rd,N.ins,N.out,N.fst.1,N.snd.1⟩,fun c hc=>?_⟩
  ·exact⟨by show 2<=sizeLine;decide,[u,v],.cons ru (.cons rv' .nil),⟨_,t2,rfl,_,rfl⟩⟩
  ·have hb':=hf c hc
   have lt:c<s.heap.objs.size:=by
    obtain⟨u',v',q3⟩:=q3
    obtain⟨o4,q4,_⟩:=q4
    obtain⟨o5,q5,_⟩:=q5
    simp only[Ve,VF,Ws]at hc
    rcases hc with rfl|rfl|rfl|rfl|rfl
    ·exact zlt
    ·exact Vd q2
    ·exact Vd q3
    ·exact Vd q4
    ·exact Vd q5
   rw[ay (Vv lt)];exact hb'.1
 done:=by
  intro Y hP hw hK hc i pins s σ H E I hf st hg
  subst hP hw hK
  obtain⟨xs,ys,hq,hr,hl⟩:=hg
  obtain⟨its,rv,p1,hz⟩:=I.tuple hq
  obtain⟨jts,rw',p2,hz'⟩:=I.tuple hr
  obtain⟨q1,q2,q3,q4,q5⟩:=st
  have l1:=rv.length
  have l2:=rw'.length
  refine Zs.pyDone (I.ok.hd hc) (lM (i:=i1) (l:=a) (xs:=its.toArray) D.l1i1) (lM (i:=i2) (l:=b) (xs:=jts.toArray) D.l2i2) ⟨D,q1,q2,q3,⟨q4,p1⟩,⟨q5,p2⟩⟩ ?_ fun h1 k1=>⟨rfl,qo (s:=s) (t2:=s.toks) (ch:=[z,TI,TO,i1,i2]) I (fun c o nc q=>k1 c o (fun e=>nc ?_) q) hf⟩
  ·rcases hl with hl|hl
   ·exact .inl (by simp;omega)
   ·exact .inr (by simp;omega)
  ·simp only[Ve,VF,Ws]at e⊢
   rcases e with e|e|e|e<;>simp[e]
 self:=fun _ _ _ _ _ st h=>wpAny_pyIter_zip st.1 h
theorem JU{b:Expr}{m:List D}(hg:Gl X "zip")(hm0:X.mg "zip" = none)(ha:AD X ρ [a,b] [.tup l,.tup m] k)(hst:∀e∈[a,b],∀y p,e ≠ .Starred y p)(hf:ar l=true)(hm:ar m=true) :
  IE X ρ (.Tuple es n1 tp) (.Call (.Name "zip" p) [a,b] [] pos) (List.zipWith (fun x y=>.tup [x,y]) l m) 0:=by
 intro ow pins s σ H R I ⟨E,q⟩
 have n1':=aG (env:=X.env) (es:=[b]) (hst a (by simp))
 have n2':(backTo pos (starEach [b] X.env)).any (·.1)=false:=bt fun x hx=>hst x (by simp at hx;simp[hx])
 refine Call_ (dH I hg hm0 (show bootBuiltins "zip" = some (.type "zip") by decide) (VG (aQ (ha ow pos pins s σ H (fun vs H1=>aA H H1/\ah X.K H1 (Kp ow H k) [.tup l,.tup m] vs) I ⟨E,fun vs H1 s1 r1=>⟨s1,r1⟩⟩) fun us s1 ⟨vs,H1,I1,rv,sm,rp⟩=>?_) n1' n2') (by decide) (by decide))
 rw[ah]at rp
 obtain⟨v1,vr,rfl,rp1,rp2⟩:=rp
 obtain⟨v2,rfl,rp3⟩:=rp2.only
 obtain⟨ta,xs,rfl,hq,rl⟩:=eN rp1
 obtain⟨tb,ys,rfl,hr,rm⟩:=eN rp3
 obtain⟨u1,u2,rfl,ru1,ru2⟩:=nl rv
 cases (show u1=Value.ref ta from ru1)
 cases (show u2=Value.ref tb from ru2)
 obtain⟨its,rvs,pt,hz⟩:=I1.tuple hq
 obtain⟨jts,rvs',pt',hz'⟩:=I1.tuple hr
 refine Fg (show s1.heap.IsTuple ta its.toArray from pt) (show s1.heap.IsTuple tb jts.toArray from pt') fun h2 Z k2=>?_
 refine wpAny_pyIter_zip Z.rd ?_
 have I2:aj X pins σ H1 { s1 with heap:=h2 }:=I1.kept (t':=s1.toks) k2
 have fr:∀j,gn X pins H1 (s1.heap.objs.size+j):=fun j=>I1.fpOk (Wt _ _) (I1.hok.fresh (Wt _ _))
 refine⟨s1.heap.objs.size+4,[s1.heap.objs.size+4,s1.heap.objs.size+2,s1.heap.objs.size+3,s1.heap.objs.size,s1.heap.objs.size+1],_,_,H1,rfl,I2,Ca ta tb _ _ _ _ _ Z.ap,⟨Z.rd,Z.ins,Z.out,Z.fst.1,Z.snd.1⟩,fun c hc=>?_,q _ H1 sm ?_⟩
 ·simp only[Ve,VF,Ws]at hc
  rcases hc with rfl|rfl|rfl|rfl|rfl
  ·exact fr 4
  ·exact fr 2
  ·exact fr 3
  ·exact fr 0
  ·exact fr 1
 ·intro i H2 st
  have rl':ah X.K H1 (Kd ow H 0 H1) l xs:=rl.flat _ hf
  have rm':ah X.K H1 (Kd ow H 0 H1) m ys:=rm.flat _ hm
  refine⟨fun d hd=>?_,fun hle=>?_⟩
  ·rw[List.getElem?_zipWith]at hd
   cases e:l[i]? with
   | none=>rw[e]at hd;cases hd
   | some x =>
    cases e':m[i]? with
    | none=>rw[e,e']at hd;cases hd
    | some y =>
     rw[e,e']at hd;cases hd
     obtain⟨u,hu,ru⟩:=rl'.get e
     obtain⟨v,hv,rv⟩:=rm'.get e'
     refine⟨⟨xs,ys,u,v,st.sq hq,hu,st.sq hr,hv⟩,fun x' H3 ⟨p',u',v',e1,e2,e3,e4,e5⟩=>?_⟩
     have c1:=e4 xs (st.sq hq)
     have c2:=e5 ys (st.sq hr)
     rw[hu]at c1;cases c1
     rw[hv]at c2;cases c2
     subst e1 e3
     have sm3:=cy (o:=HO.tup [u,v]) e2
     refine⟨sm3,?_⟩
     rw[ai]
     exact⟨p',_,rfl,cD.of aF,ah.cons ((ru.mono st).same sm3) (ah.one ((rv.mono st).same sm3))⟩
  ·rw[List.length_zipWith]at hle
   have l1:=rl.length
   have l2:=rm.length
   exact⟨xs,ys,st.sq hq,st.sq hr,by omega⟩
variable{X:Cx}
def iJ(κ:Bool)(h:Heap)(i a:Addr)(k:Nat):Prop:=match κ with|true=>h.IsTupleIter i a k|false=>h.IsListIter i a k
def gm(κ:Bool)(h:Heap)(a:Addr)(xs:Array Value):Prop:=match κ with|true=>h.IsTuple a xs|false=>h.IsList a xs
def mT(κ:Bool)(K:W.Frag)(H:Hp)(a:Addr)(xs:List V):Prop:=match κ with|true=>cD K H a xs|false=>cn K H a xs
def lY(κ:Bool)(l:List D):D:=match κ with|true=>.tup l|false=>.lst l
def JP(κ:Bool):String:=match κ with|true => "tuple_iterator" | false => "list_iterator"
theorem ya(κ:Bool){i l:Addr}(ne:l≠i):Wk prog w i l (fun k h=>iJ κ h i l k/\gm κ h l xs) (fun k=>xs[k]?):=by
 cases κ
 ·exact HC ne
 ·exact lM ne
theorem jv{i a:Addr}(p:iJ κ h i a k):∃o,h.get? i=some o/\∀v,o.data≠Data.cell v:=by
 cases κ
 ·obtain⟨o,e,_,d⟩:=(show h.IsListIter i a k from p);exact⟨o,e,fun v z=>by rw[d]at z;cases z⟩
 ·obtain⟨o,e,_,d⟩:=(show h.IsTupleIter i a k from p);exact⟨o,e,fun v z=>by rw[d]at z;cases z⟩
theorem uZ{i a:Addr}(p:iJ κ h i a k)(q:∀o,h.get? i=some o->h'.get? i=some o):iJ κ h' i a k:=by
 cases κ
 ·exact(show h.IsListIter i a k from p).at q
 ·exact(show h.IsTupleIter i a k from p).at q
theorem uX{a:Addr}(p:gm κ h a xs)(q:∀o,h.get? a=some o->h'.get? a=some o):gm κ h' a xs:=by
 cases κ
 ·exact(show h.IsList a xs from p).at q
 ·exact(show h.IsTuple a xs from p).at q
theorem uW{a:Addr}(p:gm κ h a xs):a<h.objs.size:=by
 cases κ
 ·obtain⟨_,e,_⟩:=(show h.IsList a xs from p);exact Vd e
 ·obtain⟨_,e,_⟩:=(show h.IsTuple a xs from p);exact Vd e
theorem nV{a:Addr}{xs:List V}(I:aj X pins σ H s)(h:mT κ X.K H a xs):∃its:List Value,aP xs its/\gm κ s.heap a its.toArray/\xs.length<=sizeLine:=by
 cases κ
 ·obtain⟨its,r,p,z⟩:=I.list h;exact⟨its,r,p.isList,z⟩
 ·obtain⟨its,r,p,z⟩:=I.tuple h;exact⟨its,r,p,z⟩
theorem sD{a:Addr}{xs ys:List V}(I:aj X pins σ H s)(h:mT κ X.K H a xs)(h':mT κ X.K H a ys):xs=ys:=by
 cases κ
 ·exact I.list_inj h h'
 ·exact I.tuple_inj h h'
theorem iS(h:ai X.K H1 (Kp ow H k) (lY κ l) v):∃a vs,v=.ref a/\mT κ X.K H1 a vs/\ah X.K H1 (Kp ow H k) l vs/\∀{P':bn} {H2:Hp},dF (Kd ow H k H1) P' H1 H2->mT κ X.K H2 a vs:=by
 cases κ
 ·rw[show lY false l=.lst l from rfl,ai]at h
  obtain⟨a,vs,b,rfl,hl,hp,rl⟩:=h
  have hp':Kd ow H k H1 a b:=⟨hp,fun hb=>by subst hb;exact⟨_,hl⟩⟩
  exact⟨a,vs,rfl,hl.sq,rl,fun st=>(st.ls hl hp').sq⟩
 ·rw[show lY true l=.tup l from rfl,ai]at h
  obtain⟨a,vs,rfl,hl,rl⟩:=h
  exact⟨a,vs,rfl,hl,rl,fun st=>st.sq hl⟩
abbrev D1(κ:Bool)(h:Heap)(a:Addr):Heap:=h.push { cls:=.type (JP κ),data:=.fields #[.ref a,.int 0 0] }
abbrev DZ(κ κ':Bool)(h:Heap)(a b:Addr):Heap:=(D1 κ h a).push { cls:=.type (JP κ'),data:=.fields #[.ref b,.int 0 0] }
abbrev DY(κ κ':Bool)(h:Heap)(a b:Addr):Heap:=(DZ κ κ' h a b).push { cls:=.type "tuple", data:=.seq #[.ref h.objs.size,.ref (D1 κ h a).objs.size] }
abbrev si(κ κ':Bool)(h:Heap)(a b:Addr):Heap:=(DY κ κ' h a b).push { cls:=.type "tuple", data:=.seq #[.none,.none] }
abbrev lK(κ κ':Bool)(h:Heap)(a b:Addr):Heap:=(si κ κ' h a b).push { cls:=.type "zip", data:=.fields #[.none,.bool false,.bool false,.ref (DZ κ κ' h a b).objs.size,.ref (DY κ κ' h a b).objs.size] }
theorem lJ(a b:Addr)(xs ys:Array Value) :
  Meets (Builtin.«zip.__new__» ⟨[.type "zip", .ref a,.ref b],[]⟩) (fun _ R s=>s.heap.IsList a xs/\s.heap.IsList b ys/\R (.ok (.ret (.ref (si false false s.heap a b).objs.size))) { s with heap:=lK false false s.heap a b }) :=
 .of_wp fun pg wd AA RR st hh=>by
  obtain⟨hp0,gg,dd,tk0,oo⟩:=st;obtain⟨ha,hb,hh⟩:=hh
  have hsub0:=sub_zip
  have T1:Heap.IsList (Shared.heap ⟨hp0,gg,dd,tk0,oo⟩) a xs:=ha
  have T2:Heap.IsList (Shared.heap ⟨hp0.push { cls:=.type "list_iterator", data:=.fields #[.ref a,.int 0 0] },gg,dd,tk0,oo⟩) b ys:=hb.at fun o e=>U9 _ e
  wp_walk using Wn T1,Wn T2
  exact⟨_,rfl,hh⟩
theorem oh(a b:Addr)(xs ys:Array Value) :
  Meets (Builtin.«zip.__new__» ⟨[.type "zip", .ref a,.ref b],[]⟩) (fun _ R s=>s.heap.IsList a xs/\s.heap.IsTuple b ys/\R (.ok (.ret (.ref (si false true s.heap a b).objs.size))) { s with heap:=lK false true s.heap a b }) :=
 .of_wp fun pg wd AA RR st hh=>by
  obtain⟨hp0,gg,dd,tk0,oo⟩:=st;obtain⟨ha,hb,hh⟩:=hh
  have hsub0:=sub_zip
  have T1:Heap.IsList (Shared.heap ⟨hp0,gg,dd,tk0,oo⟩) a xs:=ha
  have T2:Heap.IsTuple (Shared.heap ⟨hp0.push { cls:=.type "list_iterator", data:=.fields #[.ref a,.int 0 0] },gg,dd,tk0,oo⟩) b ys:=hb.at fun o e=>U9 _ e
  wp_walk using Wn T1,V4 T2
  exact⟨_,rfl,hh⟩
theorem og(a b:Addr)(xs ys:Array Value) :
  Meets (Builtin.«zip.__new__» ⟨[.type "zip", .ref a,.ref b],[]⟩) (fun _ R s=>s.heap.IsTuple a xs/\s.heap.IsList b ys/\R (.ok (.ret (.ref (si true false s.heap a b).objs.size))) { s with heap:=lK true false s.heap a b }) :=
 .of_wp fun pg wd AA RR st hh=>by
  obtain⟨hp0,gg,dd,tk0,oo⟩:=st;obtain⟨ha,hb,hh⟩:=hh
  have hsub0:=sub_zip
  have T1:Heap.IsTuple (Shared.heap ⟨hp0,gg,dd,tk0,oo⟩) a xs:=ha
  have T2:Heap.IsList (Shared.heap ⟨hp0.push { cls:=.type "tuple_iterator", data:=.fields #[.ref a,.int 0 0] },gg,dd,tk0,oo⟩) b ys:=hb.at fun o e=>U9 _ e
  wp_walk using V4 T1,Wn T2
  exact⟨_,rfl,hh⟩
theorem oH(a b:Addr)(xs ys:Array Value) :
  Meets (Builtin.«zip.__new__» ⟨[.type "zip", .ref a,.ref b],[]⟩) (fun _ R s=>s.heap.IsTuple a xs/\s.heap.IsTuple b ys/\R (.ok (.ret (.ref (si true true s.heap a b).objs.size))) { s with heap:=lK true true s.heap a b }) :=
 .of_wp fun pg wd AA RR st hh=>by
  obtain⟨hp0,gg,dd,tk0,oo⟩:=st;obtain⟨ha,hb,hh⟩:=hh
  have hsub0:=sub_zip
  have T1:Heap.IsTuple (Shared.heap ⟨hp0,gg,dd,tk0,oo⟩) a xs:=ha
  have T2:Heap.IsTuple (Shared.heap ⟨hp0.push { cls:=.type "tuple_iterator", data:=.fields #[.ref a,.int 0 0] },gg,dd,tk0,oo⟩) b ys:=hb.at fun o e=>U9 _ e
  wp_walk using V4 T1,V4 T2
  exact⟨_,rfl,hh⟩
theorem Hv(κ κ':Bool)(a b:Addr)(xs ys:Array Value) :
  Meets (Builtin.«zip.__new__» ⟨[.type "zip", .ref a,.ref b],[]⟩) (fun _ R s=>gm κ s.heap a xs/\gm κ' s.heap b ys/\R (.ok (.ret (.ref (si κ κ' s.heap a b).objs.size))) { s with heap:=lK κ κ' s.heap a b }):=by
 cases κ<;>cases κ'
 ·exact lJ a b xs ys
 ·exact oh a b xs ys
 ·exact og a b xs ys
 ·exact oH a b xs ys
theorem uY{i a:Addr}(e:h.get? i=some { cls:=.type (JP κ),data:=.fields #[.ref a,.int 0 0] }):iJ κ h i a 0:=by
 cases κ
 ·exact⟨_,e,rfl,rfl⟩
 ·exact⟨_,e,rfl,rfl⟩
theorem B7{a b:Addr}(ha:gm κ s.heap a xs)(hb:gm κ' s.heap b ys)
  (go:∀h1,Zs (s.heap.objs.size+4) (s.heap.objs.size+2) (s.heap.objs.size+3) s.heap.objs.size (s.heap.objs.size+1) a b (fun k h=>iJ κ h s.heap.objs.size a k/\gm κ h a xs) (fun k h=>iJ κ' h (s.heap.objs.size+1) b k/\gm κ' h b ys) 0 h1->(∀c o,s.heap.get? c=some o->h1.get? c=some o)->Q (.ref (s.heap.objs.size+4)) { s with heap:=h1 }) :
  wpAny (model prog w) A (call (.type "zip") [.ref a,.ref b]) Q E s:=by
 refine callType_new F.called_zip (by decide) (F.typeCall_zip_2 _ _) (F.newCall_zip_2 _ _) (fun ob=>F.args_object_init_3 ob _ _) F.entry_zip_new (Hv κ κ' a b xs ys) ⟨ha,hb,?_⟩
 have s1:(D1 κ s.heap a).objs.size=s.heap.objs.size+1:=VH ..
 have s2:(DZ κ κ' s.heap a b).objs.size=s.heap.objs.size+2:=by rw[VH,s1]
 have s3:(DY κ κ' s.heap a b).objs.size=s.heap.objs.size+3:=by rw[VH,s2]
 have s4:(si κ κ' s.heap a b).objs.size=s.heap.objs.size+4:=by rw[VH,s3]
 have r5:(lK κ κ' s.heap a b).get? (si κ κ' s.heap a b).objs.size=some _:=Vg _ rfl
 have r4:(lK κ κ' s.heap a b).get? (DY κ κ' s.heap a b).objs.size=some _:=U9 _ (Vg _ rfl)
 have r3:(lK κ κ' s.heap a b).get? (DZ κ κ' s.heap a b).objs.size=some _:=U9 _ (U9 _ (Vg _ rfl))
 have r2:(lK κ κ' s.heap a b).get? (D1 κ s.heap a).objs.size=some _:=U9 _ (U9 _ (U9 _ (Vg _ rfl)))
 have r1:(lK κ κ' s.heap a b).get? s.heap.objs.size=some _:=U9 _ (U9 _ (U9 _ (U9 _ (Vg _ rfl))))
 have up:∀c o,s.heap.get? c=some o->(lK κ κ' s.heap a b).get? c=some o:=fun c o e=>U9 _ (U9 _ (U9 _ (U9 _ (U9 _ e))))
 have la:a<s.heap.objs.size:=uW ha
 have lb:b<s.heap.objs.size:=uW hb
 rw[s2,s3,s4]at r5
 rw[s1,s2]at r3
 rw[s3]at r4
 rw[s1]at r2
 show _/\_
 rw[s4]
 have ne:∀{m n:Nat},m<n->m≠n:=fun h=>Vv h
 refine⟨⟨_,r5,rfl⟩,go _ ⟨?_,r5,r3,⟨_,_,r4⟩,⟨uY r1,uX ha fun o e=>up _ _ e⟩,⟨uY r2,uX hb fun o e=>up _ _ e⟩⟩ up⟩
 generalize s.heap.objs.size=n at la lb
 have la':(a:Nat)<n:=la
 have lb':(b:Nat)<n:=lb
 constructor<;>first|exact ne (by omega)|exact(ne (by omega)).symm|exact ne (Vj la (by omega))|exact ne (Vj lb (by omega))|exact ne la|exact ne lb
def UC(κ κ':Bool)(K:W.Frag)(a b:Addr):It :=
 ⟨fun i H => ∃xs ys x y,mT κ K H a xs/\xs[i]?=some x/\mT κ' K H b ys/\ys[i]?=some y,fun i H x H' => ∃p u v,x=.ref p/\H p=none/\H'=aH H p (.tup [u,v])/\(∀xs,mT κ K H a xs->xs[i]?=some u)/\∀ys,mT κ' K H b ys->ys[i]?=some v,fun i H => ∃xs ys,mT κ K H a xs/\mT κ' K H b ys/\(xs.length<=i\/ys.length<=i)⟩
theorem zX(κ κ':Bool){P:Program}(a b z TI TO i1 i2:Addr)(D:ZipApart z TI TO i1 i2 a b) :
  L2.Turn P w K (.Tuple es n1 pos) (UC κ κ' K a b) [z,TI,TO,i1,i2] z (fun i h=>IsZip h z TI TO .none/\IsPair h TI (.ref i1) (.ref i2)/\(∃u v,IsPair h TO u v)/\iJ κ h i1 a i/\iJ κ' h i2 b i) where
 mem:=by simp
 obj:=fun i h st c hc=>by
  obtain⟨q1,q2,⟨u,v,q3⟩,q4,q5⟩:=st
  obtain⟨o4,q4,d4⟩:=jv q4
  obtain⟨o5,q5,d5⟩:=jv q5
  simp only[Ve,VF,Ws]at hc
  rcases hc with rfl|rfl|rfl|rfl|rfl
  ·exact⟨_,q1,fun v e=>by have e':Data.fields _=Data.cell v:=e;cases e'⟩
  ·exact⟨_,q2,fun v e=>by have e':Data.seq _ _=Data.cell v:=e;cases e'⟩
  ·exact⟨_,q3,fun v e=>by have e':Data.seq _ _=Data.cell v:=e;cases e'⟩
  ·exact⟨_,q4,d4⟩
  ·exact⟨_,q5,d5⟩
 keep:=fun i h h' ⟨q1,q2,⟨u,v,q3⟩,q4,q5⟩ k=>⟨k _ (by simp) _ q1,k _ (by simp) _ q2,⟨u,v,k _ (by simp) _ q3⟩,uZ q4 fun o e=>k _ (by simp) o e,uZ q5 fun o e=>k _ (by simp) o e⟩
 item:=by
  intro Y hP hw hK hc i pins s σ H E I hf st hg
  subst hP hw hK
  obtain⟨xs,ys,x,y,hq,hx,hr,hy⟩:=hg
  obtain⟨its,rv,p1,hz⟩:=nV I hq
  obtain⟨jts,rw',p2,hz'⟩:=nV I hr
  obtain⟨u,hu,ru⟩:=rv.get hx
  obtain⟨v,hv,rv'⟩:=rw'.get hy
  obtain⟨q1,q2,q3,q4,q5⟩:=st
  have zlt:z<s.heap.objs.size:=Vd q1
  refine Zs.pyItem (ya κ (i:=i1) (l:=a) (xs:=its.toArray) D.l1i1) (ya κ' (i:=i2) (l:=b) (xs:=jts.toArray) D.l2i2) ⟨D,q1,q2,q3,⟨q4,p1⟩,⟨q5,p2⟩⟩ (x:=u) (y:=v) (by simpa using hu) (by simpa using hv) fun h1 jq zo t1 k1=>?_
  refine⟨_,rfl,wpAny_letOwnedTupleGo_zip zo fun h2 z2 m2=>?_⟩
  have m2:Heap.SameBut z h1 h2:=m2
  have N:=jq h2 z2 m2
  have k2:∀c o,c∉[z,TI,TO,i1,i2]->s.heap.get? c=some o->h2.get? c=some o:=fun c o nc q=>by
   have n1:c≠z:=fun e=>nc (by simp[e])
   refine m2.extBut c o n1 (k1 c o (fun e=>nc ?_) q)
   simp only[Ve,VF,Ws]at e⊢
   rcases e with e|e|e|e<;>simp[e]
  have t2:h2.get? s.heap.objs.size=some { cls:=.type "tuple", data:=.seq #[u,v] }:=m2.extBut _ _ (VP zlt) t1
  have hn0:H s.heap.objs.size=none:=I.hok.fresh (Vf _)
  refine⟨.ref s.heap.objs.size,aH H s.heap.objs.size (.tup [x,y]),jw (s:=s) (h2:=h2) (t2:=s.toks) I k2 (Vf _) hf ?_,rfl,⟨_,x,y,rfl,hn0,rfl,fun ws hw=>by rw[sD I hw hq];exact hx,fun ws hw=>by rw[sD I hw hr];exact hy⟩,⟨N.rd,N.ins,N.out,N.fst.1,N.snd.1⟩,fun c hc=>?_⟩
  ·exact⟨by show 2<=sizeLine;decide,[u,v],.cons ru (.cons rv' .nil),⟨_,t2,rfl,_,rfl⟩⟩
  ·have hb':=hf c hc
   have lt:c<s.heap.objs.size:=by
    obtain⟨u',v',q3⟩:=q3
    obtain⟨o4,q4,_⟩:=jv q4
    obtain⟨o5,q5,_⟩:=jv q5
    simp only[Ve,VF,Ws]at hc
    rcases hc with rfl|rfl|rfl|rfl|rfl
    ·exact zlt
    ·exact Vd q2
    ·exact Vd q3
    ·exact Vd q4
    ·exact Vd q5
   rw[ay (Vv lt)];exact hb'.1
 done:=by
  intro Y hP hw hK hc i pins s σ H E I hf st hg
  subst hP hw hK
  obtain⟨xs,ys,hq,hr,hl⟩:=hg
  obtain⟨its,rv,p1,hz⟩:=nV I hq
  obtain⟨jts,rw',p2,hz'⟩:=nV I hr
  obtain⟨q1,q2,q3,q4,q5⟩:=st
  have l1:=rv.length
  have l2:=rw'.length
  refine Zs.pyDone (I.ok.hd hc) (ya κ (i:=i1) (l:=a) (xs:=its.toArray) D.l1i1) (ya κ' (i:=i2) (l:=b) (xs:=jts.toArray) D.l2i2) ⟨D,q1,q2,q3,⟨q4,p1⟩,⟨q5,p2⟩⟩ ?_ fun h1 k1=>⟨rfl,qo (s:=s) (t2:=s.toks) (ch:=[z,TI,TO,i1,i2]) I (fun c o nc q=>k1 c o (fun e=>nc ?_) q) hf⟩
  ·rcases hl with hl|hl
   ·exact .inl (by simp;omega)
   ·exact .inr (by simp;omega)
  ·simp only[Ve,VF,Ws]at e⊢
   rcases e with e|e|e|e<;>simp[e]
 self:=fun _ _ _ _ _ st h=>wpAny_pyIter_zip st.1 h
theorem Gq{b:Expr}{m:List D}(hg:Gl X "zip")(hm0:X.mg "zip" = none)(ha:AD X ρ [a,b] [lY κ l,lY κ' m] k)(hst:∀e∈[a,b],∀y p,e ≠ .Starred y p)(hf:ar l=true)(hm:ar m=true) :
  IE X ρ (.Tuple es n1 tp) (.Call (.Name "zip" p) [a,b] [] pos) (List.zipWith (fun x y=>.tup [x,y]) l m) k:=by
 intro ow pins s σ H R I ⟨E,q⟩
 have n1':=aG (env:=X.env) (es:=[b]) (hst a (by simp))
 have n2':(backTo pos (starEach [b] X.env)).any (·.1)=false:=bt fun x hx=>hst x (by simp at hx;simp[hx])
 refine Call_ (dH I hg hm0 (show bootBuiltins "zip" = some (.type "zip") by decide) (VG (aQ (ha ow pos pins s σ H (fun vs H1=>aA H H1/\ah X.K H1 (Kp ow H k) [lY κ l,lY κ' m] vs) I ⟨E,fun vs H1 s1 r1=>⟨s1,r1⟩⟩) fun us s1 ⟨vs,H1,I1,rv,sm,rp⟩=>?_) n1' n2') (by decide) (by decide))
 rw[ah]at rp
 obtain⟨v1,vr,rfl,rp1,rp2⟩:=rp
 obtain⟨v2,rfl,rp3⟩:=rp2.only
 obtain⟨ta,xs,rfl,hq,rl,hk1⟩:=iS rp1
 obtain⟨tb,ys,rfl,hr,rm,hk2⟩:=iS rp3
 obtain⟨u1,u2,rfl,ru1,ru2⟩:=nl rv
 cases (show u1=Value.ref ta from ru1)
 cases (show u2=Value.ref tb from ru2)
 obtain⟨its,rvs,pt,hz⟩:=nV I1 hq
 obtain⟨jts,rvs',pt',hz'⟩:=nV I1 hr
 refine B7 (κ:=κ) (κ':=κ') pt pt' fun h2 Z k2=>?_
 refine wpAny_pyIter_zip Z.rd ?_
 have I2:aj X pins σ H1 { s1 with heap:=h2 }:=I1.kept (t':=s1.toks) k2
 have fr:∀j,gn X pins H1 (s1.heap.objs.size+j):=fun j=>I1.fpOk (Wt _ _) (I1.hok.fresh (Wt _ _))
 refine⟨s1.heap.objs.size+4,[s1.heap.objs.size+4,s1.heap.objs.size+2,s1.heap.objs.size+3,s1.heap.objs.size,s1.heap.objs.size+1],_,_,H1,rfl,I2,zX κ κ' ta tb _ _ _ _ _ Z.ap,⟨Z.rd,Z.ins,Z.out,Z.fst.1,Z.snd.1⟩,fun c hc=>?_,q _ H1 sm ?_⟩
 ·simp only[Ve,VF,Ws]at hc
  rcases hc with rfl|rfl|rfl|rfl|rfl
  ·exact fr 4
  ·exact fr 2
  ·exact fr 3
  ·exact fr 0
  ·exact fr 1
 ·intro i H2 st
  have rl':ah X.K H1 (Kd ow H k H1) l xs:=rl.flat _ hf
  have rm':ah X.K H1 (Kd ow H k H1) m ys:=rm.flat _ hm
  refine⟨fun d hd=>?_,fun hle=>?_⟩
  ·rw[List.getElem?_zipWith]at hd
   cases e:l[i]? with
   | none=>rw[e]at hd;cases hd
   | some x =>
    cases e':m[i]? with
    | none=>rw[e,e']at hd;cases hd
    | some y =>
     rw[e,e']at hd;cases hd
     obtain⟨u,hu,ru⟩:=rl'.get e
     obtain⟨v,hv,rv⟩:=rm'.get e'
     refine⟨⟨xs,ys,u,v,hk1 st,hu,hk2 st,hv⟩,fun x' H3 ⟨p',u',v',e1,e2,e3,e4,e5⟩=>?_⟩
     have c1:=e4 xs (hk1 st)
     have c2:=e5 ys (hk2 st)
     rw[hu]at c1;cases c1
     rw[hv]at c2;cases c2
     subst e1 e3
     have sm3:=cy (o:=HO.tup [u,v]) e2
     refine⟨sm3,?_⟩
     rw[ai]
     exact⟨p',_,rfl,cD.of aF,ah.cons ((ru.mono st).same sm3) (ah.one ((rv.mono st).same sm3))⟩
  ·rw[List.length_zipWith]at hle
   have l1:=rl.length
   have l2:=rm.length
   exact⟨xs,ys,hk1 st,hk2 st,by omega⟩
theorem wD{x:D}(h:fv x=some l):∃κ,x=lY κ l:=by
 rcases fL h with rfl|rfl
 ·exact⟨true,rfl⟩
 ·exact⟨false,rfl⟩
theorem Gv:lg "zip" C9:=by
 refine⟨by decide,fun X ρ p pos args ds k d j l tg o hc hg hm ha hst hlen h hp hl ht=>?_⟩
 have ht2:iX tg=true:=by simpa [eh]using ht
 obtain⟨es,n1,tp,rfl⟩:=sB ht2
 unfold C9 at h
 split at h
 ·cases h
  cases hl
  match args,hlen,ha,hst with
  | [a',b'],_,ha,hst=>exact JU hg hm ha hst hp.1 hp.2.1
 ·split at h
  ·rename_i x y _ a b e1 e2
   cases h
   cases hl
   obtain⟨κ,rfl⟩:=wD e1
   obtain⟨κ',rfl⟩:=wD e2
   match args,hlen,ha,hst with
   | [a',b'],_,ha,hst=>exact Gq hg hm ha hst hp.1 hp.2.1
  ·cases h
 ·cases h
open AutoSeq1 (wpAny_loadPart')
variable{X:Cx}
theorem GZ(tu:Addr)(vs:Array Value)(n:Nat)(dc:Option Addr)(so:Array (Option Value)) :
  Meets (Builtin.«enumerate.__new__» ⟨[.type "enumerate", .ref tu],[]⟩) (fun _ R st=>st.heap.get? tu=some { cls:=.type "list", dict:=dc,data:=.seq vs n,slots:=so } /\
   R (.ok (.ret (.ref (st.heap.push { cls:=.type "list_iterator", data:=.fields #[.ref tu,.int 0 0] }).objs.size)))
    { st with heap:=(st.heap.push { cls:=.type "list_iterator", data:=.fields #[.ref tu,.int 0 0] }).push { cls:=.type "enumerate", data:=.fields #[.none,.bool false,.ref st.heap.objs.size,rawInt 0,.none,.none] } }) :=
 .of_wp fun pg wd AA RR st hh=>by
  obtain⟨hp0,gg,dd,tk0,oo⟩:=st;obtain⟨htu,hh⟩:=hh
  have hsub0:=sub_enumerate
  have hTT:Heap.IsList (Shared.heap ⟨hp0,gg,dd,tk0,oo⟩) tu vs:=⟨_,htu,rfl,n,rfl⟩
  wp_walk using VS htu
  refine wpAny_stack_any fun stk0=>Va ?_
  split
  ·rename_i c0 _ _ _ _ _
   cases (c0==Value.type "enumerate")
   ·wp_walk using VS htu,Wn hTT
    exact⟨_,rfl,hh⟩
   ·wp_walk using VS htu,Wn hTT
    exact⟨_,rfl,hh⟩
  ·wp_walk using VS htu,Wn hTT
   exact⟨_,rfl,hh⟩
section
variable{prog:Program}{w:World}{A:Around}{E:Value->Shared->Prop}{s:Shared}
theorem Dk{vs:Array Value}(hT:s.heap.IsList tu vs)
  (go:∀h1,IsEnum h1 (s.heap.objs.size+1) s.heap.objs.size 0 .none->h1.IsListIter s.heap.objs.size tu 0->h1.objs.size=s.heap.objs.size+2->(∀b o,s.heap.get? b=some o->h1.get? b=some o)->Q (.ref (s.heap.objs.size+1)) { s with heap:=h1 }) :
  wpAny (model prog w) A (call (.type "enumerate") [.ref tu]) Q E s:=by
 obtain⟨⟨cc,dc,dt,so⟩,htu,hcc,n,hdd⟩:=hT
 replace hcc:cc=.type "list" := hcc
 replace hdd:dt=.seq vs n:=hdd
 subst hcc hdd
 refine callType_new F.called_enumerate (by decide) (F.typeCall_enumerate_1 _) (F.newCall_enumerate_1 _) (fun ob=>F.args_object_init_2 ob _) F.entry_enumerate_new (GZ tu vs n dc so) ⟨htu,?_⟩
 have sz:(s.heap.push { cls:=.type "list_iterator", data:=.fields #[.ref tu,.int 0 0] }).objs.size=s.heap.objs.size+1:=VH ..
 show _/\_
 rw[sz]
 have isE:IsEnum ((s.heap.push { cls:=.type "list_iterator", data:=.fields #[.ref tu,.int 0 0] }).push { cls:=.type "enumerate", data:=.fields #[.none,.bool false,.ref s.heap.objs.size,rawInt 0,.none,.none] }) (s.heap.objs.size+1) s.heap.objs.size 0 .none:=by
  have q:=Vg (s.heap.push { cls:=.type "list_iterator", data:=.fields #[.ref tu,.int 0 0] }) (o:={ cls:=.type "enumerate", data:=.fields #[.none,.bool false,.ref s.heap.objs.size,rawInt 0,.none,.none] }) rfl
  rw[sz]at q;exact q
 refine⟨⟨_,isE,rfl⟩,go _ isE ⟨_,U9 _ (Vg _ rfl),rfl,rfl⟩ (by rw[VH,sz]) fun b o z=>U9 _ (U9 _ z)⟩
theorem Dj{e it:Addr}{vs:Array Value}{x:Value}{Q:Option Value->Shared->Prop}(isE:IsEnum s.heap e it i old)(hIt:s.heap.IsListIter it tu i)(hT:s.heap.IsList tu vs)(hx:vs[i]?=some x)(hne:e≠it)
  (go:∀h1,IsEnumOut h1 e it ((i:Int)+1) x s.heap.objs.size->h1.IsListIter it tu (i+1)->h1.get? s.heap.objs.size=some { cls:=.type "tuple", data:=.seq #[.int i s.toks,x] }->(∀b o,b≠e->b≠it->s.heap.get? b=some o->h1.get? b=some o)->Q (some (.ref s.heap.objs.size)) { s with heap:=h1,toks:=s.toks+1 }) :
  wpAny (model prog w) A (pyNext (.ref e)) Q E s:=by
 have tyE:s.TypeIs (.ref e) "enumerate" := ⟨_,isE,rfl⟩
 unfold pyNext
 refine U8 (WK (VV (name:=Str.ofString "__next__") tyE Wa (Wg Wa tyE F.entry_enumerate_next ?_ (F.args_enumerate_next_1 _))))
 exact xA (Kn:=fun h1=>h1.IsListIter it tu (i+1)) isE hne (fun h1 h2 k hk=>k.at hk) (fun Q1 q1=>wpAny_nextOf_list_item hIt hT hx q1) fun h1 a b c d=>Va (go h1 a b c d)
theorem G1{e it:Addr}{vs:Array Value}{Q:Option Value->Shared->Prop}(hh:A.handled=none)(isE:IsEnum s.heap e it i old)(hIt:s.heap.IsListIter it tu i)(hT:s.heap.IsList tu vs)(hx:vs[i]?=none)
  (go:∀h1,Heap.ExtBut it s.heap h1->Q none { s with heap:=h1 }):wpAny (model prog w) A (pyNext (.ref e)) Q E s:=by
 have tyE:s.TypeIs (.ref e) "enumerate" := ⟨_,isE,rfl⟩
 unfold pyNext
 refine U8 (WK (VV (name:=Str.ofString "__next__") tyE Wa (Wg Wa tyE F.entry_enumerate_next ?_ (F.args_enumerate_next_1 _))))
 show wpAny _ _ (field (.ref e) 2 >>= _) _ _ _
 refine U8 (VC isE rfl (x:=Value.ref it) rfl (U8 (wpAny_nextOf_list_end hh hIt hT hx fun h1 xx eb hx'=>?_)))
 obtain⟨o,ho,hc⟩:=hx'
 exact U8 (wpAny_isInstance (T := "StopIteration") (b:=true) ⟨o,ho,hc⟩ isSubtype_stop (Va (go _ eb)))
end
def UD(K:W.Frag)(a:Addr):It :=
 ⟨fun i H => ∃xs x,cn K H a xs/\xs[i]?=some x,fun i H x H' => ∃p v,x=.ref p/\H p=none/\H'=aH H p (.tup [.int (i:Nat),v])/\∀xs,cn K H a xs->xs[i]?=some v,fun i H => ∃xs,cn K H a xs/\xs.length<=i⟩
theorem ye{P:Program}(a e it:Addr)(hne:e≠it) :
  L2.Turn P w K (.Tuple es n1 pos) (UD K a) [e,it] e (fun i h=>(∃old,IsEnum h e it ((i:Nat):Int) old)/\h.IsListIter it a i) where
 mem:=by simp
 obj:=fun i h st b hb=>by
  obtain⟨⟨old,q⟩,o,q2,c,d⟩:=st
  rcases Ve.mp hb with rfl|hb
  ·exact⟨_,q,fun v z=>by have z':Data.fields _=Data.cell v:=z;cases z'⟩
  ·have eb:b=it:=by simpa using hb
   subst eb
   exact⟨o,q2,fun v z=>by rw[d]at z;cases z⟩
 keep:=fun i h h' st k=>⟨let ⟨old,q⟩:=st.1;⟨old,k e (by simp) _ q⟩,st.2.at fun o q=>k it (by simp) o q⟩
 item:=by
  intro Y hP hw hK hc i pins s σ H E I hf st hg
  subst hP hw hK
  obtain⟨xs,x,hq,hx⟩:=hg
  obtain⟨its,rv,p,hz⟩:=I.list hq
  obtain⟨u,hu,ru⟩:=rv.get hx
  obtain⟨⟨old,isE⟩,hIt⟩:=st
  refine Dj isE hIt (show s.heap.IsList a its.toArray from p.isList) (x:=u) (by simpa using hu) hne fun h1 eo it1 t1 k1=>?_
  refine⟨_,rfl,wpAny_letOwnedTupleGo_enum eo fun h2 e2 sb2=>?_⟩
  have sb2':Heap.SameBut e h1 h2:=sb2
  have elt:e<s.heap.objs.size:=Vd isE
  have k2:∀b o,b∉[e,it]->s.heap.get? b=some o->h2.get? b=some o:=fun b o nb q=>by
   have n1:b≠e:=fun z=>nb (by simp[z])
   have n2:b≠it:=fun z=>nb (by simp[z])
   exact sb2'.extBut b o n1 (k1 b o n1 n2 q)
  have t2:h2.get? s.heap.objs.size=some { cls:=.type "tuple", data:=.seq #[.int i s.toks,u] }:=sb2'.extBut _ _ (VP elt) t1
  have hn0:H s.heap.objs.size=none:=I.hok.fresh (Vf _)
  refine⟨.ref s.heap.objs.size,aH H s.heap.objs.size (.tup [.int (i:Nat),x]),jw (s:=s) (h2:=h2) (t2:=s.toks+1) I k2 (Vf _) hf ?_,rfl,⟨_,x,rfl,hn0,rfl,fun ys hy=>by rw[I.list_inj hy hq];exact hx⟩,⟨⟨u,?_⟩,it1.at fun o q=>sb2'.extBut it o (V2 hne) q⟩,fun b hb=>?_⟩
  ·exact⟨by show 2<=sizeLine;decide,[.int i s.toks,u],.cons ⟨_,rfl⟩ (.cons ru .nil),⟨_,t2,rfl,_,rfl⟩⟩
  ·have q:=e2
   rw[show((i:Nat):Int)+1=((i+1:Nat):Int) by omega]at q
   exact q
  ·have hb':=hf b hb
   have lt:b<s.heap.objs.size:=by
    rcases Ve.mp hb with rfl|hb
    ·exact elt
    ·have eb:b=it:=by simpa using hb
     subst eb
     obtain⟨o,q,_⟩:=hIt
     exact Vd q
   rw[ay (Vv lt)];exact hb'.1
 done:=by
  intro Y hP hw hK hc i pins s σ H E I hf st hg
  subst hP hw hK
  obtain⟨xs,hq,hx⟩:=hg
  obtain⟨its,rv,p,hz⟩:=I.list hq
  obtain⟨⟨old,isE⟩,hIt⟩:=st
  obtain⟨f0,f1,f2,f3,f4,f5⟩:=hf it (by simp)
  have hl:=rv.length
  exact G1 (I.ok.hd hc) isE hIt (show s.heap.IsList a its.toArray from p.isList) (by simp;omega) fun h1 eb=>⟨rfl,I.turned (t':=s.toks) (fun b o hb q=>eb b o hb q) f0 f1 f3 f4 f5⟩
 self:=fun _ _ _ _ _ st h=>let ⟨old,q⟩:=st.1;wpAny_pyIter_enum q h
theorem C8(hg:Gl X "enumerate")(hm0:X.mg "enumerate" = none)(ha:AD X ρ [a] [.lst l] k)(hst:∀y p,a ≠ .Starred y p)(hf:ar l=true) :
  IE X ρ (.Tuple es n1 tp) (.Call (.Name "enumerate" p) [a] [] pos) (l.mapIdx fun i x=>.tup [.int (i:Nat),x]) k:=by
 intro ow pins s σ H R I ⟨E,q⟩
 refine Call_ (dH I hg hm0 (show bootBuiltins "enumerate" = some (.type "enumerate") by decide) (VG (aQ (ha ow pos pins s σ H (fun vs H1=>aA H H1/\ah X.K H1 (Kp ow H k) [.lst l] vs) I ⟨E,fun vs H1 s1 r1=>⟨s1,r1⟩⟩) fun us s1 ⟨vs,H1,I1,rv,sm,rp⟩=>?_) (aG hst) rfl) (by decide) (by decide))
 obtain⟨v,rfl,rv1⟩:=rp.only
 obtain⟨ta,xs,rfl,hq,rl,hk1⟩:=iS (κ:=false) rv1
 replace hq:cn X.K H1 ta xs:=hq
 obtain⟨u,rfl,ru⟩:=ee rv
 cases (show u=Value.ref ta from ru)
 obtain⟨its,rvs,pt,hz⟩:=I1.list hq
 refine Dk (show s1.heap.IsList ta its.toArray from pt.isList) fun h2 isE hIt sz k2=>?_
 refine wpAny_pyIter_enum isE ?_
 have I2:aj X pins σ H1 { s1 with heap:=h2 }:=I1.kept (t':=s1.toks) k2
 have f0:H1 s1.heap.objs.size=none:=I1.hok.fresh (Vf _)
 have f1:H1 (s1.heap.objs.size+1)=none:=I1.hok.fresh (WX _)
 refine⟨s1.heap.objs.size+1,[s1.heap.objs.size+1,s1.heap.objs.size],_,_,H1,rfl,I2,ye ta _ _ (VP (Vy _)),⟨⟨_,isE⟩,hIt⟩,fun b hb=>?_,q _ H1 sm ?_⟩
 ·rcases Ve.mp hb with rfl|hb
  ·exact I1.fpOk (WX _) f1
  ·have eb:b=s1.heap.objs.size:=by simpa using hb
   subst eb
   exact I1.fpOk (Vf _) f0
 ·intro i H2 st
  have rl':ah X.K H1 (Kd ow H k H1) l xs:=rl.flat _ hf
  refine⟨fun d hd=>?_,fun hle=>?_⟩
  ·rw[List.getElem?_mapIdx]at hd
   cases e:l[i]? with
   | none=>rw[e]at hd;cases hd
   | some x =>
    rw[e]at hd;cases hd
    obtain⟨y,hy,ry⟩:=rl'.get e
    refine⟨⟨xs,y,hk1 st,hy⟩,fun x' H3 ⟨p',v',e1,e2,e3,e4⟩=>?_⟩
    have hv:=e4 xs (hk1 st)
    rw[hy]at hv;cases hv
    subst e1 e3
    have sm3:=cy (o:=HO.tup [.int (i:Nat),y]) e2
    refine⟨sm3,?_⟩
    rw[ai]
    exact⟨p',_,rfl,cD.of aF,ah.cons (by rw[ai]) (ah.one ((ry.mono st).same sm3))⟩
  ·rw[List.length_mapIdx]at hle
   exact⟨xs,hk1 st,by rw[<- rl.length];exact hle⟩
theorem Db:lg "enumerate" yR:=by
 refine⟨by decide,fun X ρ p pos args ds k d j l tg o hc hg hm ha hst hlen h hp hl ht=>?_⟩
 unfold yR at h
 have ht2:iX tg=true:=by simpa [eh]using ht
 obtain⟨es,n1,tp,rfl⟩:=sB ht2
 split at h
 ·cases h
  cases hl
  match args,hlen,ha,hst with
  | [a'],_,ha,hst=>rw[nY];simp only[Nat.zero_add];exact Gu hg hm ha (hst a' Vb) hp.1
 ·cases h
  cases hl
  match args,hlen,ha,hst with
  | [a'],_,ha,hst=>rw[nY];simp only[Nat.zero_add];exact C8 hg hm ha (hst a' Vb) hp.1
 ·cases h
open PySem.W (KasT kas_sort kas_ask KatLex KatTups kat_sorted kat_kind kat_lt kat_cons kat_nil kat_go kat_yes kat_no kat_one KasFin)
section
variable{prog:Program}{w:World}{A:Around}{E:Value->Shared->Prop}{s:Shared}
end
variable{X:Cx}
theorem cC{r:Rs α}{a:α}{l:List Prop}(h:r=.ok a l)(hp:aM l):ac r a:=⟨l,h,hp⟩
theorem ac.eq{r:Rs α}{a b:α}(h:ac r a)(e:a=b):ac r b:=e ▸ h
theorem ac.bnd{r:Rs α}{f:α->Rs β}{a:α}{b:β}(h1:ac r a)(h2:ac (f a) b):ac (r.bnd f) b:=by
 obtain⟨l,rfl,p1⟩:=h1
 obtain⟨m,h2,p2⟩:=h2
 refine⟨l++m,?_,dO.mpr ⟨p1,p2⟩⟩
 show(match f a with | .st=>(.st:Rs β) | .ok b m=>Rs.ok b (l++m))=_
 rw[h2]
theorem ac.inj{r:Rs α}{a b:α}(h:ac r a)(g:ac r b):a=b:=by
 obtain⟨l,h,_⟩:=h;obtain⟨m,g,_⟩:=g;rw[h]at g;cases g;rfl
section
variable{Φ:Fx}{sc:Scope}{ρ ρ':af}{fl:Fl}{ss:List Stmt}
theorem cK(h:ac (aD Φ body sc (c6 ps ds)) (.rt d))(hl:ds.length=ps.length:=by rfl):ac (bX Φ sc ps body ds) d:=by
 unfold bX;rw[if_pos hl];exact h.bnd ⟨[],rfl,True.intro⟩
theorem cA:ac (aD Φ [] sc ρ) (.nx ρ):=⟨[],rfl,True.intro⟩
theorem aY{s:Stmt}(h:ac (dX Φ s sc ρ) (.nx ρ'))(h2:ac (aD Φ ss sc ρ') fl):ac (aD Φ (s::ss) sc ρ) fl:=ac.bnd h h2
theorem lW{s:Stmt}(h:ac (dX Φ s sc ρ) fl)(hf:∀ρ,fl ≠ .nx ρ):ac (aD Φ (s::ss) sc ρ) fl:=ac.bnd h (by
 cases fl with
 | nx ρ=>exact absurd rfl (hf ρ)
 | rt d=>exact⟨[],rfl,True.intro⟩
 | bk ρ=>exact⟨[],rfl,True.intro⟩
 | ct ρ=>exact⟨[],rfl,True.intro⟩)
theorem cW{s:Stmt}(h:ac (dX Φ s sc ρ) (.rt d)):ac (aD Φ (s::ss) sc ρ) (.rt d):=lW h fun _ z=>by cases z
theorem pU{s:Stmt}(h:ac (aD Φ (s::ss) sc ρ) fl):(∃ρ',ac (dX Φ s sc ρ) (.nx ρ')/\ac (aD Φ ss sc ρ') fl)\/((∀ρ,fl ≠ .nx ρ)/\ac (dX Φ s sc ρ) fl):=by
 obtain⟨f,h1,h2⟩:=ax (show ac (Rs.bnd _ _) fl from h)
 cases f with
 | nx ρ'=>exact .inl ⟨ρ',h1,h2⟩
 | rt d=>cases aJ h2;exact .inr ⟨fun _ z=>(by cases z),h1⟩
 | bk ρ=>cases aJ h2;exact .inr ⟨fun _ z=>(by cases z),h1⟩
 | ct ρ=>cases aJ h2;exact .inr ⟨fun _ z=>(by cases z),h1⟩
theorem BH:∀{a:List Stmt} {ρ:af},ac (aD Φ a sc ρ) (.nx ρ')->ac (aD Φ ss sc ρ') fl->ac (aD Φ (a++ss) sc ρ) fl
 | [],ρ,h,h2=>by cases aJ h;exact h2
 | s::a,ρ,h,h2=>by
  rcases pU h with⟨ρ1,h3,h4⟩|⟨h3,_⟩
  ·exact aY h3 (BH h4 h2)
  ·exact absurd rfl (h3 _)
theorem rX:∀{a:List Stmt} {ρ:af},ac (aD Φ (a++ss) sc ρ) fl->(∃ρ',ac (aD Φ a sc ρ) (.nx ρ')/\ac (aD Φ ss sc ρ') fl)\/((∀ρ,fl ≠ .nx ρ)/\ac (aD Φ a sc ρ) fl)
 | [],ρ,h=>.inl ⟨ρ,cA,h⟩
 | s::a,ρ,h=>by
  rcases pU h with⟨ρ1,h3,h4⟩|⟨h3,h4⟩
  ·rcases rX h4 with⟨ρ2,h5,h6⟩|⟨h5,h6⟩
   ·exact .inl ⟨ρ2,aY h3 h5,h6⟩
   ·exact .inr ⟨h5,aY h3 h6⟩
  ·exact .inr ⟨h3,lW h4 h3⟩
theorem bW(n:Nat)(h:ac (aD Φ (ss.take n) sc ρ) (.nx ρ'))(h2:ac (aD Φ (ss.drop n) sc ρ') fl):ac (aD Φ ss sc ρ) fl:=by
 rw[<- WS n ss];exact BH h h2
theorem sY{a b:List Stmt}(hc:ac (az Φ c false sc ρ) (.bl t,k))(h1:t=true->ac (aD Φ (a++ss) sc ρ) fl)(h2:t=false->ac (aD Φ (b++ss) sc ρ) fl):ac (aD Φ (.If c a b p::ss) sc ρ) fl:=by
 have key:∀x,ac (cond t (aD Φ a sc ρ) (aD Φ b sc ρ)) x->ac (dX Φ (.If c a b p) sc ρ) x:=fun x hx=>ac.bnd hc hx
 cases t with
 | true =>
  rcases rX (h1 rfl)with⟨ρ1,h3,h4⟩|⟨h3,h4⟩
  ·exact aY (key _ h3) h4
  ·exact lW (key _ h4) h3
 | false =>
  rcases rX (h2 rfl)with⟨ρ1,h3,h4⟩|⟨h3,h4⟩
  ·exact aY (key _ h3) h4
  ·exact lW (key _ h4) h3
theorem db{a b:List Stmt}(hc:ac (az Φ c false sc ρ) (.bl t,k))(ht:t=true)(h1:ac (aD Φ (a++ss) sc ρ) fl):ac (aD Φ (.If c a b p::ss) sc ρ) fl:=sY hc (fun _=>h1) fun z=>by rw[ht]at z;cases z
theorem bh{a b:List Stmt}(hc:ac (az Φ c false sc ρ) (.bl t,k))(ht:t=false)(h1:ac (aD Φ (b++ss) sc ρ) fl):ac (aD Φ (.If c a b p::ss) sc ρ) fl:=sY hc (fun z=>by rw[ht]at z;cases z) fun _=>h1
theorem mE{it:Expr}(hi:ac (az Φ it true sc (demote it ρ)) (d,k))(hd:items d=some ds)(hk:k<=1)(ht:eh it tg=true)(h:ac (dz (bJ sc tg) (aD Φ body sc) ds (demote it ρ)) fl):ac (dX Φ (.For tg it body [] p) sc ρ) fl:=by
 rw[rO,if_pos (show List.isEmpty ([]:List Stmt)=true from rfl)]
 refine hi.bnd ?_
 dsimp only
 rw[hd]
 dsimp only
 rw[if_pos ⟨hk,ht⟩]
 exact h
theorem vm(h:ac (ol (fun ρ=>(az Φ c false sc ρ).bnd fun p=>jz p fun b=>.ok b []) (aD Φ body sc) bO ρ) fl):ac (dX Φ (.While c body [] p) sc ρ) fl:=by
 rw[vn,if_pos (show List.isEmpty ([]:List Stmt)=true from rfl)];exact h
theorem bM{v:D}(ha:ac (bG Φ args sc ρ) (ds,k))(hv:ac (F ds) v)(hF:Φ.fn f=some F:=by rfl)(hg:sc.names.lookup f=some .globalImplicit:=by rfl):ac (az Φ (.Call (.Name f p) args [] q) it sc ρ) (v,0):=by
 rw[i7,if_pos hg]
 refine ha.bnd ?_
 unfold kO
 rw[hF]
 exact hv.bnd ⟨[],rfl,True.intro⟩
theorem Kq{v:D×Nat}(ha:ac (bG Φ args sc ρ) (ds,k))(hv:ac (B ds) v)(hF:Φ.fn f=none:=by rfl)(hI:(if it=true then Φ.itr f else none)=none:=by rfl)(hB:Φ.blt f=some B:=by rfl)(hg:sc.names.lookup f=some .globalImplicit:=by rfl):ac (az Φ (.Call (.Name f p) args [] q) it sc ρ) v:=by
 rw[i7,if_pos hg]
 refine ha.bnd ?_
 unfold kO
 rw[hF];dsimp only
 rw[hI];dsimp only
 rw[hB];exact hv
theorem cG:ac (bG Φ [] sc ρ) ([],0):=⟨[],rfl,True.intro⟩
theorem bf(h:ac (az Φ e false sc ρ) (d,k))(h2:ac (bG Φ es sc ρ) (ds,j)):ac (bG Φ (e::es) sc ρ) (d::ds,kj k j):=ac.bnd h (ac.bnd h2 ⟨[],rfl,True.intro⟩)
theorem GP{out:List D}(hi:ac (az Φ iter true sc ρ) (d,k))(hd:items d=some ds)(hl:ds.length<=bO/\(ar ds=true\/k<=1))
    (h:ac (iE (fun d=>match bJ scope tg d (flt scope ρ)with
            | none=>.st
            | some ρ'=>(dZ Φ .And ifs scope ρ').bnd fun b=>cond b ((az Φ elt false scope ρ').bnd fun r=>.ok (some r) []) (.ok none [])) ds) (out,j)) (hj:j<=1) (hc:qH sc scope=true:=by rfl) (ht:eh iter tg=true:=by rfl):ac (az Φ (.ListComp elt [⟨tg,iter,ifs,0⟩] scope p) it sc ρ) (.lst out,j):=by
  rw[rP,if_pos hc]
  refine hi.bnd ?_
  dsimp only
  rw[hd]
  dsimp only
  rw[if_pos ht]
  refine ac.bnd (a:=()) ⟨_,rfl,hl.1,hl.2,True.intro⟩ ?_
  refine h.bnd ?_
  rw[if_pos hj]
  exact⟨[],rfl,True.intro⟩
theorem gc{i:Expr}{x:D}{j:Int}(ha:ac (az Φ a false sc ρ) (x,k))(hi:ac (az Φ i false sc ρ) (.int j,k2))(hx:fv x=some l)(hd:L2.atI l j=some d):ac (az Φ (.Subscript a i p) it sc ρ) (d,kn d k):=by
 have key:ac ((az Φ a false sc ρ).bnd fun p=>(az Φ i false sc ρ).bnd fun q=>kr p q) (d,kn d k):=by
  refine ha.bnd (hi.bnd ?_)
  rcases fL hx with rfl|rfl
  ·show ac (uT (.tup l) j k) _
   unfold uT
   rw[hx];dsimp only
   rw[hd];exact⟨[],rfl,True.intro⟩
  ·show ac (uT (.lst l) j k) _
   unfold uT
   rw[hx];dsimp only
   rw[hd];exact⟨[],rfl,True.intro⟩
 cases i with
 | Slice lo hi st p2=>exact(au hi).elim
 | _=>exact key
theorem aW(h:ac (az Φ e false sc ρ) (d,0))(hx:cT sc x=true:=by rfl):ac (dX Φ (.Assign [.Name x p] e q) sc ρ) (.nx (bE ρ x (d,true))):=by
 refine ac.bnd h ?_
 unfold rj
 rw[if_pos hx]
 exact⟨[],rfl,True.intro⟩
theorem cN(h:ac (az Φ e false sc ρ) (d,k))(hk:k=0\/k=2:=by exact .inl rfl)(hn:tq e=false:=by rfl):ac (dX Φ (.Return (some e) q) sc ρ) (.rt d):=by
 have h:ac (az Φ e false sc (ui e ρ)) (d,k):=by unfold ui;rw[hn];exact h
 refine ac.bnd h ?_
 unfold yp
 rw[if_pos hk]
 exact⟨[],rfl,True.intro⟩
end
theorem pj{bind:D->af->Option af}{body:af->Rs Fl}(aj:List D->af->Prop)(step:∀d l ρ,aj (d::l) ρ->∃ρ1 ρ2,bind d ρ=some ρ1/\(ac (body ρ1) (.nx ρ2)\/ac (body ρ1) (.ct ρ2))/\aj l ρ2):∀{ds:List D} {ρ:af},aj ds ρ->∃ρ',ac (dz bind body ds ρ) (.nx ρ')/\aj [] ρ'
 | [],ρ,h=>⟨ρ,⟨[],rfl,True.intro⟩,h⟩
 | d::l,ρ,h=>by
  obtain⟨ρ1,ρ2,h1,h2,h3⟩:=step d l ρ h
  obtain⟨ρ',h4,h5⟩:=pj aj step h3
  refine⟨ρ',?_,h5⟩
  show ac (match bind d ρ with|none=>(.st:Rs Fl)|some ρ1=>(body ρ1).bnd (jq (dz bind body l))) _
  rw[h1]
  rcases h2 with h2|h2
  ·exact h2.bnd h4
  ·exact h2.bnd h4
theorem xt{bind:D->af->Option af}{body:af->Rs Fl}(aj:List D->af->Prop)(R:D->Prop)(step:∀d l ρ,aj (d::l) ρ->∃ρ1,bind d ρ=some ρ1/\((∃ρ2,(ac (body ρ1) (.nx ρ2)\/ac (body ρ1) (.ct ρ2))/\aj l ρ2)\/∃r,ac (body ρ1) (.rt r)/\R r)):∀{ds:List D} {ρ:af},aj ds ρ->(∃ρ',ac (dz bind body ds ρ) (.nx ρ')/\aj [] ρ')\/∃r,ac (dz bind body ds ρ) (.rt r)/\R r
 | [],ρ,h=>.inl ⟨ρ,⟨[],rfl,True.intro⟩,h⟩
 | d::l,ρ,h=>by
  obtain⟨ρ1,h1,h2⟩:=step d l ρ h
  have key:dz bind body (d::l) ρ=(body ρ1).bnd (jq (dz bind body l)):=by
   show(match bind d ρ with|none=>(.st:Rs Fl)|some ρ1=>(body ρ1).bnd (jq (dz bind body l)))=_
   rw[h1]
  rw[key]
  rcases h2 with⟨ρ2,h2,h3⟩|⟨r,h2,h3⟩
  ·have go:∀x,ac (dz bind body l ρ2) x->ac ((body ρ1).bnd (jq (dz bind body l))) x:=fun x hx=>by
    rcases h2 with h2|h2
    ·exact h2.bnd hx
    ·exact h2.bnd hx
   rcases xt aj R step h3 with⟨ρ',h4,h5⟩|⟨r,h4,h5⟩
   ·exact .inl ⟨ρ',go _ h4,h5⟩
   ·exact .inr ⟨r,go _ h4,h5⟩
  ·exact .inr ⟨r,h2.bnd ⟨[],rfl,True.intro⟩,h3⟩
theorem mI{α:Type}{step:D->Rs (Option (D×Nat))}{g:α->D}{f:α->D}{c:α->Bool}:∀{l:List α},(∀x∈l,ac (step (g x)) (cond (c x) (some (f x,0)) none))->ac (iE step (l.map g)) ((l.filter c).map f,0)
 | [],_=>⟨[],rfl,True.intro⟩
 | x::l,h=>by
  have h1:=h x Vb
  have h2:=mI (c:=c) fun y hy=>h y (Vc _ hy)
  cases e:c x with
  | true =>
   rw[e]at h1
   rw[List.filter_cons_of_pos e]
   exact ac.bnd h1 (ac.bnd h2 ⟨[],rfl,True.intro⟩)
  | false =>
   rw[e]at h1
   rw[List.filter_cons_of_neg (by rw[e];decide)]
   exact ac.bnd h1 (ac.bnd h2 ⟨[],rfl,True.intro⟩)
theorem fS{a b:Int}(h:a.natAbs<18446744073709551616):bL a b:=.inl h
theorem nN{a b:Int}(h:b.natAbs<18446744073709551616):bL a b:=.inr (.inl h)
theorem bZ{a b:Int}(h:a.natAbs<dn)(g:b.natAbs<dn):bL a b:=.inr (.inr (.inl ⟨h,g⟩))
theorem BF(h:n<2 ^ 64):n<dn:=Vj h (VJ (by decide) (by decide))
theorem xE{b:Int}(h0:b≠0)(h:b.natAbs<18446744073709551616):ge b:=⟨h0,BF h⟩
theorem Ho{i:Int}(h0:0<=i)(h1:i<ns.length):L2.atI (ns.map D.int) i=some (.int (ns.getD i.toNat 0)):=by
 obtain⟨j,rfl⟩:=WL h0
 have hj:j<ns.length:=by omega
 have:=xH (xs:=ns.map D.int) (j:=j) (v:=.int (ns.getD j 0)) (by simp[hj])
 simpa using this
theorem yP(ns:List Int):dg (ns.map D.int)=some ns:=by
 induction ns with
 | nil=>rfl
 | cons n ns ih=>rw[Vx,dg,ih];rfl
theorem DI:aM []:=True.intro
theorem zh{l m:List Prop}(h:aM l)(g:aM m):aM (l++m):=dO.mpr ⟨h,g⟩
theorem DH{p:Prop}(h:p):aM [p]:=⟨h,True.intro⟩
theorem wj{p:Prop}{l:List Prop}(h:p)(g:aM l):aM (p::l):=⟨h,g⟩
theorem FS{a b:Int}(h0:0<=b)(h1:b<=1000)(h2:a.natAbs<18446744073709551616):yt a b:=⟨h0,h1,h2⟩
def Sub(C ρ:af):Prop:=∀x y,C x=some y->ρ x=some y
theorem Sub.refl(ρ:af):Sub ρ ρ:=fun _ _ h=>h
theorem Sub.trans{a b c:af}(h:Sub a b)(g:Sub b c):Sub a c:=fun x y e=>g x y (h x y e)
theorem Sub.put(h:Sub C ρ)(x:Str)(y:D×Bool):Sub (bE C x y) (bE ρ x y):=fun z w e=>by
 rw[dl]at e⊢
 by_cases hz:z=x
 ·rw[if_pos hz]at e⊢;exact e
 ·rw[if_neg hz]at e⊢;exact h z w e
theorem Sub.flt(h:Sub C ρ)(scope:Scope):Sub (flt scope C) (flt scope ρ):=fun z w e=>by
 obtain⟨e1,e2⟩:=kJ e
 unfold Sp.flt
 rw[if_pos e2];exact h z w e1
theorem Sub.demX(h:Sub C ρ)(x:Str):Sub (demX x C) (demX x ρ):=by
 unfold Sp.demX
 intro z w hz
 by_cases hx:z=x
 ·simp only[if_pos hx]at hz⊢
  cases hc:C z with
  | none=>rw[hc]at hz;cases hz
  | some q=>rw[hc]at hz;rw[h z q hc];exact hz
 ·simp only[if_neg hx]at hz⊢;exact h z w hz
theorem Sub.demA(h:Sub C ρ)(x:Str):Sub (demA x C) (demA x ρ):=by
 intro z w hz
 unfold Sp.demA at hz⊢
 by_cases hx:z=x
 ·simp only[if_pos hx]at hz⊢
  cases hc:C z with
  | none=>rw[hc]at hz;cases hz
  | some q=>rw[hc]at hz;rw[h z q hc];exact hz
 ·simp only[if_neg hx]at hz⊢;exact h z w hz
theorem Sub.demL:∀{es:List Expr} {C ρ:af},Sub C ρ->Sub (demL es C) (demL es ρ)
 | [],_,_,h=>h
 | e::es,C,ρ,h=>by
  cases e with
  | Name x p=>exact Sub.demL (es:=es) (h.demA x)
  | Subscript a i p =>
   cases a with
   | Name x q=>exact Sub.demL (es:=es) (h.demA x)
   | _=>exact Sub.demL (es:=es) h
  | _=>exact Sub.demL (es:=es) h
theorem Sub.demote(h:Sub C ρ)(e:Expr):Sub (demote e C) (demote e ρ):=by
 unfold Sp.demote
 split
 ·exact h.demX _
 ·exact h.demX _
 ·exact h.demL
 ·exact h
theorem sk:∀{es:List Expr} {ds:List D} {C C' ρ:af},bc sc es ds C=some C'->Sub C ρ->∃ρ',bc sc es ds ρ=some ρ'/\Sub C' ρ':=by
 intro es
 induction es with
 | nil =>
  intro ds C C' ρ h s
  cases ds with
  | nil=>cases h;exact⟨ρ,rfl,s⟩
  | cons d ds=>cases h
 | cons e es ih =>
  intro ds C C' ρ h s
  cases ds with
  | nil=>cases e<;>cases h
  | cons d ds =>
   cases e with
   | Name z p =>
    rw[bc]at h⊢
    split at h
    ·rename_i hz
     rw[if_pos hz]
     exact ih h (s.put _ _)
    ·cases h
   | _=>cases h
theorem tZ(h:bJ sc tg d C=some C')(s:Sub C ρ):∃ρ',bJ sc tg d ρ=some ρ'/\Sub C' ρ':=by
 unfold bJ at h⊢
 split at h
 ·split at h
  ·rename_i hx;cases h;exact⟨_,if_pos hx,s.put _ _⟩
  ·cases h
 ·split at h
  ·exact sk h s
  ·cases h
 ·cases h
theorem fx{m:List Prop}(h:b=true->aM m):aM (gd b m):=by
 cases m with
 | nil=>exact True.intro
 | cons p l=>exact⟨h,True.intro⟩
theorem vP{c:Bool}{r:Rs Bool}(h:b=true->ac r c)(hf:b=false->c=false):ac (zg b r) c:=by
 cases b with
 | true =>
  obtain⟨m,rfl,hm⟩:=h rfl
  exact⟨_,rfl,fx fun _=>hm⟩
 | false =>
  rw[hf rfl]
  cases r with
  | ok c' m=>exact⟨_,rfl,fx fun z=>(by cases z)⟩
  | st=>exact⟨_,rfl,True.intro⟩
theorem yA{c:Bool}{r:Rs Bool}(h:b=false->ac r c)(hf:b=true->c=true):ac (Ep b r) c:=by
 cases b with
 | false =>
  obtain⟨m,rfl,hm⟩:=h rfl
  exact⟨_,rfl,fx fun _=>hm⟩
 | true =>
  rw[hf rfl]
  cases r with
  | ok c' m=>exact⟨_,rfl,fx fun z=>(by cases z)⟩
  | st=>exact⟨_,rfl,True.intro⟩
theorem EC{r s:R1}{d:D×Nat}(h:ac (if t=true then r else s) d):ac (EE t r s) d:=by
 cases t with
 | true =>
  rw[if_pos rfl]at h
  obtain⟨m,rfl,hm⟩:=h
  cases s with
  | ok q n=>exact⟨_,by show Rs.ok _ _=Rs.ok _ _;rw[uL,Ev],dO.mpr ⟨fx fun _=>hm,fx fun z=>(by cases z)⟩⟩
  | st=>exact⟨m,rfl,hm⟩
 | false =>
  rw[if_neg Vp]at h
  obtain⟨m,rfl,hm⟩:=h
  cases r with
  | ok q n=>exact⟨_,by show Rs.ok _ _=Rs.ok _ _;rw[uM,Ew],dO.mpr ⟨fx fun z=>(by cases z),fx fun _=>hm⟩⟩
  | st=>exact⟨m,rfl,hm⟩
theorem jI{p:D×Nat}{f:Bool->Rs α}{a:α}(h:p.1=.bl b)(h2:ac (f b) a):ac (jz p f) a:=by
 unfold jz;rw[h];exact h2
theorem Ng{p:D×Nat}{f:Int->R1}{a:D×Nat}{b:Int}(h:p.1=.int b)(h2:ac (f b) a):ac (kF p f) a:=by
 unfold kF;rw[h];exact h2
structure Mo(Φ:Fx)(n:Nat):Prop where
 e:∀(e:Expr) {it:Bool} {sc:Scope} {C ρ:af} {p:D×Nat},sizeOf e<n->ac (az Φ e it sc C) p->Sub C ρ->ac (az Φ e it sc ρ) p
 es:∀(es:List Expr) {sc:Scope} {C ρ:af} {p:List D×Nat},sizeOf es<n->ac (bG Φ es sc C) p->Sub C ρ->ac (bG Φ es sc ρ) p
 b:∀(op:BoolOp) (es:List Expr) {sc:Scope} {C ρ:af} {b:Bool},sizeOf es<n->ac (dZ Φ op es sc C) b->Sub C ρ->ac (dZ Φ op es sc ρ) b
 o:∀(e:Option Expr) {sc:Scope} {C ρ:af} {o:Option Int},sizeOf e<n->ac (sH Φ e sc C) o->Sub C ρ->ac (sH Φ e sc ρ) o
theorem xa{step step2:D->Rs (Option (D×Nat))}(h:∀d r,ac (step d) r->ac (step2 d) r):∀{ds:List D} {q:List D×Nat},ac (iE step ds) q->ac (iE step2 ds) q
 | [],q,hq=>hq
 | d::ds,q,hq=>by
  obtain⟨r,h1,h2⟩:=ax (show ac (Rs.bnd _ _) q from hq)
  obtain⟨q1,h3,h4⟩:=ax h2
  exact ac.bnd (h _ _ h1) (ac.bnd (xa h h3) h4)
section
variable{Φ:Fx}{n:Nat}{it:Bool}{sc:Scope}{C ρ:af}{p:D×Nat}
theorem Eu(I:Mo Φ n){i:Expr}(hs:sizeOf (Expr.Subscript a i pos)<n+1)(h:ac ((az Φ a false sc C).bnd fun p=>(az Φ i false sc C).bnd fun q=>kr p q) p)(s:Sub C ρ):ac ((az Φ a false sc ρ).bnd fun p=>(az Φ i false sc ρ).bnd fun q=>kr p q) p:=by
 obtain⟨x,h1,h⟩:=ax h
 obtain⟨y,h2,h⟩:=ax h
 exact ac.bnd (I.e a (bo (by simp<;>omega) hs) h1 s) (ac.bnd (I.e i (bo (by simp<;>omega) hs) h2 s) h)
theorem RH(I:Mo Φ n)(e:Expr)(hs:sizeOf e<n+1)(h:ac (az Φ e it sc C) p)(s:Sub C ρ):ac (az Φ e it sc ρ) p:=by
 cases e with
 | Constant c k q=>exact h
 | Name x q =>
  replace h:ac (kD Φ x sc C) p:=h
  show ac (kD Φ x sc ρ) p
  unfold kD at h⊢
  split at h
  ·rename_i hx
   rw[if_pos hx]
   split at h
   ·rename_i hg;rw[if_pos hg];exact h
   ·rename_i hg
    rw[if_neg hg]
    split at h
    ·rename_i y hy;rw[s x y hy];exact h
    ·exact(au h).elim
  ·exact(au h).elim
 | BinOp a op b q =>
  obtain⟨x,h1,h⟩:=ax (show ac (Rs.bnd _ _) p from h)
  obtain⟨y,h2,h⟩:=ax h
  exact ac.bnd (I.e a (bo (by simp<;>omega) hs) h1 s) (ac.bnd (I.e b (bo (by simp<;>omega) hs) h2 s) h)
 | UnaryOp op a q =>
  obtain⟨x,h1,h⟩:=ax (show ac (Rs.bnd _ _) p from h)
  exact ac.bnd (I.e a (bo (by simp<;>omega) hs) h1 s) h
 | BoolOp op es q =>
  rw[rQ]at h⊢
  split at h
  ·exact(au h).elim
  ·rename_i hne
   rw[if_neg hne]
   obtain⟨b,h1,h⟩:=ax h
   exact ac.bnd (I.b op es (bo (by simp<;>omega) hs) h1 s) h
 | Compare a ops bs q =>
  match ops,bs,hs,h with
  | [op],[b],hs,h =>
   obtain⟨x,h1,h⟩:=ax (show ac (Rs.bnd _ _) p from h)
   obtain⟨y,h2,h⟩:=ax h
   exact ac.bnd (I.e a (bo (by simp<;>omega) hs) h1 s) (ac.bnd (I.e b (bo (by simp<;>omega) hs) h2 s) h)
  | [],bs,_,h=>exact(au h).elim
  | [op],[],_,h=>exact(au h).elim
  | [op],_::_::_,_,h=>exact(au h).elim
  | [op,op2],[b,c],hs,h =>
   obtain⟨x,h1,h⟩:=ax (show ac (Rs.bnd _ _) p from h)
   obtain⟨y,h2,h⟩:=ax h
   obtain⟨z,h3,h⟩:=ax h
   exact ac.bnd (I.e a (bo (by simp<;>omega) hs) h1 s) (ac.bnd (I.e b (bo (by simp<;>omega) hs) h2 s) (ac.bnd (I.e c (bo (by simp<;>omega) hs) h3 s) h))
  | [_,_],[],_,h=>exact(au h).elim
  | [_,_],[_],_,h=>exact(au h).elim
  | [_,_],_::_::_::_,_,h=>exact(au h).elim
  | _::_::_::_,bs,_,h=>exact(au h).elim
 | IfExp c a b q =>
  obtain⟨x,h1,h⟩:=ax (show ac (Rs.bnd _ _) p from h)
  obtain⟨t,ht,h⟩:=hJ h
  obtain⟨l,h,hp⟩:=h
  obtain⟨m,h,hm⟩:=xp h hp
  refine ac.bnd (I.e c (bo (by simp<;>omega) hs) h1 s) (jI ht (EC ?_))
  cases t with
  | true=>exact I.e a (bo (by simp<;>omega) hs) ⟨m,h,hm⟩ s
  | false=>exact I.e b (bo (by simp<;>omega) hs) ⟨m,h,hm⟩ s
 | Tuple es k q =>
  obtain⟨x,h1,h⟩:=ax (show ac (Rs.bnd _ _) p from h)
  exact ac.bnd (I.es es (bo (by simp<;>omega) hs) h1 s) h
 | List es q =>
  obtain⟨x,h1,h⟩:=ax (show ac (Rs.bnd _ _) p from h)
  exact ac.bnd (I.es es (bo (by simp<;>omega) hs) h1 s) h
 | Attribute a f q =>
  cases a with
  | Name x pn =>
   obtain⟨y,h1,h⟩:=ax (show ac (Rs.bnd _ _) p from h)
   exact ac.bnd (I.e (.Name x pn) (it:=false) (bo (by simp<;>omega) hs) h1 s) h
  | _=>exact(au h).elim
 | Dict ks vs q =>
  match ks,vs,h with
  | [],[],h=>exact h
  | _::_,_,h=>exact(au h).elim
  | [],_::_,h=>exact(au h).elim
 | Subscript a i q =>
  cases i with
  | Slice lo hi st p2 =>
   cases st with
   | none =>
    obtain⟨x,h1,h⟩:=ax (show ac (Rs.bnd _ _) p from h)
    obtain⟨y,h2,h⟩:=ax h
    obtain⟨z,h3,h⟩:=ax h
    exact ac.bnd (I.e a (bo (by simp<;>omega) hs) h1 s) (ac.bnd (I.o lo (bo (by simp<;>omega) hs) h2 s) (ac.bnd (I.o hi (bo (by simp<;>omega) hs) h3 s) h))
   | some e=>exact Eu I hs h s
  | _=>exact Eu I hs h s
 | Call f args kws q =>
  cases f with
  | Name f fp =>
   cases kws with
   | nil =>
    rw[i7]at h⊢
    split at h
    ·rename_i hf
     rw[if_pos hf]
     obtain⟨x,h1,h⟩:=ax h
     exact ac.bnd (I.es args (bo (by simp<;>omega) hs) h1 s) h
    ·exact(au h).elim
   | cons _ _=>exact(au h).elim
  | Attribute a m ap =>
   cases kws with
   | nil =>
    rw[vt]at h⊢
    split at h
    ·rename_i hf
     rw[if_pos hf]
     obtain⟨x,h1,h⟩:=ax h
     obtain⟨y,h2,h⟩:=ax h
     exact ac.bnd (I.e a (bo (by simp<;>omega) hs) h1 s) (ac.bnd (I.es args (bo (by simp<;>omega) hs) h2 s) h)
    ·exact(au h).elim
   | cons _ _=>exact(au h).elim
  | _=>exact(au h).elim
 | ListComp elt gens scope q =>
  obtain⟨l0,h0,_⟩:=id h
  obtain⟨tg,iter,ifs,rfl⟩:=rK h0
  rw[rP]at h⊢
  split at h
  ·rename_i hc
   rw[if_pos hc]
   obtain⟨x,h1,h⟩:=ax h
   refine ac.bnd (I.e iter (by first|omega|(simp at *;omega)) h1 s) ?_
   split at h
   ·split at h
    ·rename_i hl
     rw[if_pos hl]
     obtain⟨u0,h0',h⟩:=ax h
     obtain⟨y,h2,h⟩:=ax h
     refine ac.bnd h0' (ac.bnd (xa (fun d r hr=>?_) h2) h)
     split at hr
     ·exact(au hr).elim
     ·rename_i C' hb
      obtain⟨ρ',hb',s'⟩:=tZ hb (s.flt scope)
      rw[hb']
      obtain⟨b,h3,hr⟩:=ax hr
      refine ac.bnd (I.b .And ifs (by first|omega|(simp at *;omega)) h3 s') ?_
      cases b with
      | false=>exact hr
      | true =>
       rw[cond_true]at hr⊢
       obtain⟨z,h4,hr⟩:=ax hr
       exact ac.bnd (I.e elt (by first|omega|(simp at *;omega)) h4 s') hr
    ·exact(au h).elim
   ·exact(au h).elim
  ·exact(au h).elim
 | _=>exact(au h).elim
theorem M4(I:Mo Φ n)(es:List Expr){p:List D×Nat}(hs:sizeOf es<n+1)(h:ac (bG Φ es sc C) p)(s:Sub C ρ):ac (bG Φ es sc ρ) p:=by
 cases es with
 | nil=>exact h
 | cons e es =>
  obtain⟨x,h1,h⟩:=ax (show ac (Rs.bnd _ _) p from h)
  obtain⟨y,h2,h⟩:=ax h
  exact ac.bnd (I.e e (bo (by simp<;>omega) hs) h1 s) (ac.bnd (I.es es (bo (by simp<;>omega) hs) h2 s) h)
theorem RI(I:Mo Φ n)(op:BoolOp)(es:List Expr)(hs:sizeOf es<n+1)(h:ac (dZ Φ op es sc C) b)(s:Sub C ρ):ac (dZ Φ op es sc ρ) b:=by
 cases es with
 | nil=>cases op<;>exact h
 | cons e es =>
  cases op with
  | And =>
   obtain⟨x,h1,h⟩:=ax (show ac (Rs.bnd _ _) b from h)
   obtain⟨t,ht,l,h,hp⟩:=hJ h
   refine ac.bnd (I.e e (bo (by simp<;>omega) hs) h1 s) (jI ht ?_)
   rcases vO h hp with⟨rfl,m,h,pm⟩|⟨rfl,rfl⟩
   ·exact vP (fun _=>I.b .And es (bo (by simp<;>omega) hs) ⟨m,h,pm⟩ s) fun z=>(by cases z)
   ·exact vP (fun z=>(by cases z)) fun _=>rfl
  | Or =>
   obtain⟨x,h1,h⟩:=ax (show ac (Rs.bnd _ _) b from h)
   obtain⟨t,ht,l,h,hp⟩:=hJ h
   refine ac.bnd (I.e e (bo (by simp<;>omega) hs) h1 s) (jI ht ?_)
   rcases wQ h hp with⟨rfl,m,h,pm⟩|⟨rfl,rfl⟩
   ·exact yA (fun _=>I.b .Or es (bo (by simp<;>omega) hs) ⟨m,h,pm⟩ s) fun z=>(by cases z)
   ·exact yA (fun z=>(by cases z)) fun _=>rfl
theorem RG(I:Mo Φ n)(e:Option Expr){o:Option Int}(hs:sizeOf e<n+1)(h:ac (sH Φ e sc C) o)(s:Sub C ρ):ac (sH Φ e sc ρ) o:=by
 cases e with
 | none=>exact h
 | some e =>
  obtain⟨x,h1,h⟩:=ax (show ac (Rs.bnd _ _) o from h)
  exact ac.bnd (I.e e (bo (by simp<;>omega) hs) h1 s) h
end
theorem jW(Φ:Fx):∀n,Mo Φ n
 | 0=>⟨fun _ _ _ _ _ _ h=>absurd h (V7 _),fun _ _ _ _ _ h=>absurd h (V7 _),fun _ _ _ _ _ _ h=>absurd h (V7 _),fun _ _ _ _ _ h=>absurd h (V7 _)⟩
 | n+1=>⟨fun e _ _ _ _ _ hs h s=>RH (jW Φ n) e hs h s,fun e _ _ _ _ hs h s=>M4 (jW Φ n) e hs h s,fun op e _ _ _ _ hs h s=>RI (jW Φ n) op e hs h s,fun e _ _ _ _ hs h s=>RG (jW Φ n) e hs h s⟩
theorem de{p:D×Nat}(h:ac (az Φ e it sc C) p)(s:Sub C ρ):ac (az Φ e it sc ρ) p:=(jW Φ _).e e (Vy _) h s
theorem gD{e:List Expr}{p:List D×Nat}(h:ac (bG Φ e sc C) p)(s:Sub C ρ):ac (bG Φ e sc ρ) p:=(jW Φ _).es e (Vy _) h s
def DO:Fl->Fl->Prop
 | .nx a,.nx b=>Sub a b
 | .bk a,.bk b=>Sub a b
 | .ct a,.ct b=>Sub a b
 | .rt a,.rt b=>a=b
 | _,_=>False
theorem cX{a:α}:ac (.ok a []) a:=⟨[],rfl,True.intro⟩
def lE(f:af->Rs Fl):Prop:=∀C ρ fl,ac (f C) fl->Sub C ρ->∃fl',ac (f ρ) fl'/\DO fl fl'
theorem AM{f:af->Rs Fl}(h:lE f){x y z:Fl}(hx:ac (jq f x) z)(s:DO x y):∃z',ac (jq f y) z'/\DO z z':=by
 cases x<;>cases y<;>first|exact s.elim|skip
 ·exact h _ _ _ hx s
 ·cases aJ hx;cases s;exact⟨_,cX,rfl⟩
 ·cases aJ hx;exact⟨_,cX,s⟩
 ·exact h _ _ _ hx s
theorem AN{sc:Scope}{tg:Expr}{body:af->Rs Fl}(hb:lE body):∀ds,lE (dz (bJ sc tg) body ds)
 | []=>fun C ρ fl h s=>by cases aJ h;exact⟨_,cX,s⟩
 | d::ds=>fun C ρ fl h s=>by
  replace h:ac (match bJ sc tg d C with|none=>(.st:Rs Fl)|some ρ1=>(body ρ1).bnd (jq (dz (bJ sc tg) body ds))) fl:=h
  split at h
  ·exact(au h).elim
  ·rename_i C1 hC
   obtain⟨ρ1,hρ,s1⟩:=tZ hC s
   obtain⟨x,h1,h2⟩:=ax h
   obtain⟨y,h3,s2⟩:=hb _ _ _ h1 s1
   obtain⟨z,h4,s3⟩:=AM (AN hb ds) h2 s2
   refine⟨z,?_,s3⟩
   show ac (match bJ sc tg d ρ with|none=>(.st:Rs Fl)|some ρ1=>(body ρ1).bnd (jq (dz (bJ sc tg) body ds))) z
   rw[hρ];exact ac.bnd h3 h4
theorem Et{test:af->Rs Bool}{body:af->Rs Fl}(ht:∀C ρ b,ac (test C) b->Sub C ρ->ac (test ρ) b)(hb:lE body):∀n,lE (ol test body n)
 | 0=>fun C ρ fl h s=>(au h).elim
 | n+1=>fun C ρ fl h s=>by
  obtain⟨b,h1,h2⟩:=ax (show ac (Rs.bnd _ _) fl from h)
  have h1':=ht _ _ _ h1 s
  cases b with
  | false=>cases aJ h2;exact⟨_,ac.bnd h1' cX,s⟩
  | true =>
   obtain⟨x,h3,h4⟩:=ax (show ac (Rs.bnd _ _) fl from h2)
   obtain⟨y,h5,s2⟩:=hb _ _ _ h3 s
   obtain⟨z,h6,s3⟩:=AM (Et ht hb n) h4 s2
   exact⟨z,ac.bnd h1' (ac.bnd h5 h6),s3⟩
theorem JC:lE (qA Φ tgs e sc):=by
 intro C ρ fl h s
 unfold qA at h⊢
 split at h
 ·obtain⟨p,h1,h⟩:=ax h
  unfold rj at h
  split at h
  ·rename_i hx
   split at h
   ·rename_i ho;cases aJ h
    exact⟨.nx _,ac.bnd (de h1 s) (by unfold rj;rw[if_pos hx,ho];exact cX),s.put _ _⟩
   ·rename_i ho;cases aJ h
    exact⟨.nx _,ac.bnd (de h1 s) (by unfold rj;rw[if_pos hx,ho];exact cX),s.put _ _⟩
   ·exact(au h).elim
  ·exact(au h).elim
 ·split at h
  ·rename_i ht
   rw[if_pos ht]
   unfold qx at h⊢
   split at h
   ·split at h
    ·rename_i hp
     rw[if_pos hp]
     obtain⟨q,h1,h⟩:=ax h
     split at h
     ·rename_i u v hd
      split at h
      ·rename_i hf
       cases aJ h
       refine⟨.nx _,ac.bnd (gD h1 s) ?_,(s.put _ _).put _ _⟩
       rw[hd];dsimp only;rw[if_pos hf];exact cX
      ·exact(au h).elim
     ·exact(au h).elim
    ·exact(au h).elim
   ·exact(au h).elim
  ·rename_i ht
   rw[if_neg ht]
   obtain⟨p,h1,h⟩:=ax h
   split at h
   ·rename_i ho
    cases aJ h
    refine⟨.nx _,ac.bnd (de h1 s) (by rw[if_pos ho];exact cX),?_⟩
    show Sub _ _
    unfold Cu
    split
    ·exact(s.put _ _).put _ _
    ·exact s
   rename_i ho
   split at h
   ·rename_i ds hd
    split at h
    ·rename_i hf
     split at h
     ·rename_i C' hb
      cases aJ h
      obtain⟨ρ',hb',s'⟩:=sk hb s
      refine⟨.nx _,ac.bnd (de h1 s) ?_,s'⟩
      rw[if_neg ho,hd];dsimp only;rw[if_pos hf,hb'];exact cX
     ·exact(au h).elim
    ·exact(au h).elim
   ·exact(au h).elim
 ·split at h
  ·rename_i hc
   rw[if_pos hc]
   obtain⟨p,h1,h⟩:=ax h
   obtain⟨q,h2,h⟩:=ax h
   rcases t5 h with⟨l,j,l',a1,a2,a3,hj,hs,hf,rfl⟩|⟨ks,ds,k,a1,hk,a3,hf,hz,rfl⟩
   ·refine⟨.nx _,ac.bnd (de h1 s) (ac.bnd (de h2 s) ?_),s.put _ _⟩
    rw[hj];unfold t6;rw[s _ _ a1];dsimp only;rw[if_pos a3,hs]
    exact⟨_,rfl,a2,hf,True.intro⟩
   ·refine⟨.nx _,ac.bnd (de h1 s) (ac.bnd (de h2 s) ?_),s.put _ _⟩
    unfold t6;rw[s _ _ a1];dsimp only;rw[hk];dsimp only;rw[if_pos a3]
    exact⟨_,rfl,hf,hz,True.intro⟩
  ·exact(au h).elim
 ·exact(au h).elim
theorem JB{t:Expr}{op:Operator}:lE (qz Φ t op e sc):=by
 intro C ρ fl h s
 unfold qz at h⊢
 split at h
 ·split at h
  ·rename_i hx
   rw[if_pos hx]
   split at h
   ·rename_i p hp
    rw[s _ _ hp]
    obtain⟨r,h1,h⟩:=ax h
    cases aJ h
    obtain⟨a,ha,h3⟩:=rD h1
    obtain⟨q,h2,h4⟩:=ax h3
    exact⟨.nx _,ac.bnd (Ng ha (ac.bnd (de h2 s) h4)) cX,s.put _ _⟩
   ·exact(au h).elim
  ·exact(au h).elim
 ·exact(au h).elim
theorem JA:lE (qy Φ e sc):=by
 intro C ρ fl h s
 unfold qy at h⊢
 split at h
 ·split at h
  ·rename_i hln
   rw[if_pos hln]
   obtain⟨p,h1,h⟩:=ax h
   split at h
   ·rename_i M hM
    obtain⟨l,a1,a3,h⟩:=uA h
    obtain⟨l',h2,h⟩:=ax h
    cases aJ h
    refine⟨.nx _,ac.bnd (gD h1 s) ?_,s.put _ _⟩
    unfold rB;rw[s _ _ a1];dsimp only;rw[if_pos a3];exact ac.bnd h2 cX
   ·exact(au h).elim
  ·exact(au h).elim
 ·obtain⟨p,h1,h⟩:=ax h
  cases aJ h
  exact⟨.nx _,ac.bnd (de h1 s) cX,s⟩
 ·exact(au h).elim
structure LM(Φ:Fx)(n:Nat):Prop where
 s:∀(st:Stmt) (sc:Scope),sizeOf st<n->lE (dX Φ st sc)
 ss:∀(st:List Stmt) (sc:Scope),sizeOf st<n->lE (aD Φ st sc)
theorem M3(I:LM Φ n)(st:Stmt)(sc:Scope)(hs:sizeOf st<n+1):lE (dX Φ st sc):=by
 intro C ρ fl h s
 cases st with
 | Return e p =>
  cases e with
  | none=>cases aJ h;exact⟨_,cX,rfl⟩
  | some e =>
   obtain⟨p,h1,h⟩:=ax (show ac (Rs.bnd _ _) fl from h)
   have s':Sub (ui e C) (ui e ρ):=by
    unfold ui
    cases tq e with
    | false=>exact s
    | true =>
     intro x y hx
     have hx:(C x).map (fun p=>(p.1,false))=some y:=hx
     show(ρ x).map (fun p=>(p.1,false))=some y
     cases e:C x with
     | none=>rw[e]at hx;cases hx
     | some z=>rw[e]at hx;rw[s x z e];exact hx
   refine⟨fl,ac.bnd (de h1 s') h,?_⟩
   unfold yp at h
   split at h
   ·cases aJ h;rfl
   ·exact(au h).elim
 | Pass p=>cases aJ h;exact⟨_,cX,s⟩
 | Break p=>cases aJ h;exact⟨_,cX,s⟩
 | Continue p=>cases aJ h;exact⟨_,cX,s⟩
 | Assign tgs e p=>exact JC C ρ fl h s
 | AugAssign t op e p=>exact JB C ρ fl h s
 | Expr e p=>exact JA C ρ fl h s
 | If c a b p =>
  obtain⟨p,h1,h⟩:=ax (show ac (Rs.bnd _ _) fl from h)
  obtain⟨t,ht,h⟩:=hJ h
  cases t with
  | true =>
   obtain⟨z,h2,s2⟩:=I.ss a sc (bo (by simp<;>omega) hs) C ρ fl h s
   exact⟨z,ac.bnd (de h1 s) (jI ht h2),s2⟩
  | false =>
   obtain⟨z,h2,s2⟩:=I.ss b sc (bo (by simp<;>omega) hs) C ρ fl h s
   exact⟨z,ac.bnd (de h1 s) (jI ht h2),s2⟩
 | For tg it body els p =>
  rw[rO]at h⊢
  split at h
  ·rename_i he
   rw[if_pos he]
   obtain⟨p,h1,h⟩:=ax h
   split at h
   ·rename_i ds hd
    split at h
    ·rename_i hk
     obtain⟨z,h2,s2⟩:=AN (I.ss body sc (bo (by simp<;>omega) hs)) ds _ _ fl h (s.demote it)
     refine⟨z,ac.bnd (de h1 (s.demote it)) ?_,s2⟩
     rw[hd];dsimp only;rw[if_pos hk];exact h2
    ·exact(au h).elim
   ·exact(au h).elim
  ·exact(au h).elim
 | While c body els p =>
  rw[vn]at h⊢
  split at h
  ·rename_i he
   rw[if_pos he]
   refine Et (fun C ρ b hb s=>?_) (I.ss body sc (bo (by simp<;>omega) hs)) bO C ρ fl h s
   obtain⟨q,h1,hb⟩:=ax hb
   exact ac.bnd (de h1 s) hb
  ·exact(au h).elim
 | _=>exact(au h).elim
theorem Jz(I:LM Φ n)(ss:List Stmt)(sc:Scope)(hs:sizeOf ss<n+1):lE (aD Φ ss sc):=by
 intro C ρ fl h s
 cases ss with
 | nil=>cases aJ h;exact⟨_,cX,s⟩
 | cons st ss =>
  rcases pU h with⟨C',h1,h2⟩|⟨h1,h2⟩
  ·obtain⟨x,h3,s2⟩:=I.s st sc (bo (by simp<;>omega) hs) C ρ _ h1 s
   cases x with
   | nx ρ' =>
    obtain⟨z,h4,s3⟩:=I.ss ss sc (bo (by simp<;>omega) hs) C' ρ' fl h2 s2
    exact⟨z,aY h3 h4,s3⟩
   | rt _=>exact s2.elim
   | bk _=>exact s2.elim
   | ct _=>exact s2.elim
  ·obtain⟨x,h3,s2⟩:=I.s st sc (bo (by simp<;>omega) hs) C ρ _ h2 s
   refine⟨x,lW h3 fun ρ' z=>?_,s2⟩
   subst z
   cases fl<;>first|exact h1 _ rfl|exact s2
theorem nO(Φ:Fx):∀n,LM Φ n
 | 0=>⟨fun _ _ h=>absurd h (V7 _),fun _ _ h=>absurd h (V7 _)⟩
 | n+1=>⟨fun e sc hs=>M3 (nO Φ n) e sc hs,fun e sc hs=>Jz (nO Φ n) e sc hs⟩
theorem Ga(h:ac (aD Φ ss sc C) (.nx C'))(s:Sub C ρ):∃ρ',ac (aD Φ ss sc ρ) (.nx ρ')/\Sub C' ρ':=by
 obtain⟨z,h1,h2⟩:=(nO Φ _).ss ss sc (Vy _) C ρ _ h s
 cases z with
 | nx ρ'=>exact⟨ρ',h1,h2⟩
 | rt _=>exact h2.elim
 | bk _=>exact h2.elim
 | ct _=>exact h2.elim
theorem F7(h:ac (aD Φ ss sc C) (.rt d))(s:Sub C ρ):ac (aD Φ ss sc ρ) (.rt d):=by
 obtain⟨z,h1,h2⟩:=(nO Φ _).ss ss sc (Vy _) C ρ _ h s
 cases z with
 | rt _=>cases h2;exact h1
 | nx _=>exact h2.elim
 | bk _=>exact h2.elim
 | ct _=>exact h2.elim
def bI:List (Str×D×Bool)->af
 | []=>fun _=>none
 | p::l=>fun z=>if z=p.1 then some p.2 else bI l z
theorem aK:Sub (bI []) ρ:=fun _ _ h=>by cases h
theorem ae{y:D×Bool}{l:List (Str×D×Bool)}(h:ρ x=some y)(g:Sub (bI l) ρ):Sub (bI ((x,y)::l)) ρ:=fun z w e=>by
 replace e:(if z=x then some y else bI l z)=some w:=e
 by_cases hz:z=x
 ·rw[if_pos hz]at e;cases e;rw[hz];exact h
 ·rw[if_neg hz]at e;exact g z w e
theorem Sub.get{y:D×Bool}(s:Sub C ρ)(h:C x=some y:=by rfl):ρ x=some y:=s x y h
section
variable{Φ:Fx}{sc:Scope}{ρ ρ':af}{fl:Fl}{ss:List Stmt}
theorem cE{P:af->Prop}(s:Sub C ρ)(h:ac (aD Φ ss sc C) (.nx C'))(k:∀ρ',Sub C' ρ'->P ρ'):∃ρ',ac (aD Φ ss sc ρ) (.nx ρ')/\P ρ' :=
 let ⟨ρ',h1,h2⟩:=Ga h s;⟨ρ',h1,k ρ' h2⟩
theorem cw(s:Sub C ρ)(h:ac (aD Φ ss sc C) (.rt d)):ac (aD Φ ss sc ρ) (.rt d):=F7 h s
theorem bQ{p:D×Nat}(s:Sub C ρ)(h:ac (az Φ e it sc C) p):ac (az Φ e it sc ρ) p:=de h s
theorem rg{it:Expr}(aj:List D->af->Prop)(hi:ac (az Φ it true sc (demote it ρ)) (d,k))(h0:aj ds (demote it ρ))
  (step:∀d l ρ,aj (d::l) ρ->∃ρ1,bJ sc tg d ρ=some ρ1/\∃ρ2,ac (aD Φ body sc ρ1) (.nx ρ2)/\aj l ρ2) (rest:∀ρ',aj [] ρ'->ac (aD Φ ss sc ρ') fl) (hd:items d=some ds:=by rfl) (hk:k<=1:=by first|exact Vf 1|exact Vm 1) (ht:eh it tg=true:=by rfl):ac (aD Φ (.For tg it body [] p::ss) sc ρ) fl:=by
 obtain⟨ρ',h1,h2⟩:=pj (bind:=bJ sc tg) (body:=aD Φ body sc) aj (fun d l ρ h=>let ⟨ρ1,a,ρ2,b,c⟩:=step d l ρ h;⟨ρ1,ρ2,a,.inl b,c⟩) h0
 exact aY (mE hi hd hk ht h1) (rest ρ' h2)
theorem Fv{it:Expr}(aj:List D->af->Prop)(R:D->Prop)(hi:ac (az Φ it true sc (demote it ρ)) (d,k))(h0:aj ds (demote it ρ))
  (step:∀d l ρ,aj (d::l) ρ->∃ρ1,bJ sc tg d ρ=some ρ1/\((∃ρ2,ac (aD Φ body sc ρ1) (.nx ρ2)/\aj l ρ2)\/∃r,ac (aD Φ body sc ρ1) (.rt r)/\R r)) (rest:∀ρ',aj [] ρ'->∃r,ac (aD Φ ss sc ρ') (.rt r)/\R r) (hd:items d=some ds:=by rfl) (hk:k<=1:=by first|exact Vf 1|exact Vm 1) (ht:eh it tg=true:=by rfl):∃r,ac (aD Φ (.For tg it body [] p::ss) sc ρ) (.rt r)/\R r:=by
 rcases xt (bind:=bJ sc tg) (body:=aD Φ body sc) aj R (fun d l ρ h=>by
  obtain⟨ρ1,a,b⟩:=step d l ρ h
  rcases b with⟨ρ2,b,c⟩|⟨r,b,c⟩
  ·exact⟨ρ1,a,.inl ⟨ρ2,.inl b,c⟩⟩
  ·exact⟨ρ1,a,.inr ⟨r,b,c⟩⟩) h0 with⟨ρ',h1,h2⟩|⟨r,h1,h2⟩
 ·obtain⟨r,h3,h4⟩:=rest ρ' h2
  exact⟨r,aY (mE hi hd hk ht h1) h3,h4⟩
 ·exact⟨r,cW (mE hi hd hk ht h1),h2⟩
theorem dJ{b:Expr}{x:D}(ha:ac (az Φ a false sc ρ) (x,k))(hb:ac (az Φ b false sc ρ) (y,j))(h:ac (iu op x y) r):ac (az Φ (.Compare a [op] [b] p) it sc ρ) (.bl r,0) :=
 ac.bnd ha (ac.bnd hb (ac.bnd h cX))
theorem eQ{op:BoolOp}(h:ac (dZ Φ op (e::es) sc ρ) b):ac (az Φ (.BoolOp op (e::es) p) it sc ρ) (.bl b,0):=by
 rw[rQ,if_neg (show ¬ (List.isEmpty (e::es)=true)from Vp)];exact ac.bnd h cX
theorem iO{c:Bool}(h:ac (az Φ e false sc ρ) (.bl b,k))(h1:b=true->ac (dZ Φ .And es sc ρ) c)(h2:b=false->c=false):ac (dZ Φ .And (e::es) sc ρ) c:=ac.bnd h (jI rfl (vP h1 h2))
theorem Km{c:Bool}(h:ac (az Φ e false sc ρ) (.bl b,k))(h1:b=false->ac (dZ Φ .Or es sc ρ) c)(h2:b=true->c=true):ac (dZ Φ .Or (e::es) sc ρ) c:=ac.bnd h (jI rfl (yA h1 h2))
theorem gb{c:Bool}(h:ac (az Φ e false sc ρ) (.bl true,k))(h1:ac (dZ Φ .And es sc ρ) c):ac (dZ Φ .And (e::es) sc ρ) c:=iO h (fun _=>h1) fun z=>by cases z
theorem gT{c:Bool}(h:ac (az Φ e false sc ρ) (.bl false,k))(h1:ac (dZ Φ .Or es sc ρ) c):ac (dZ Φ .Or (e::es) sc ρ) c:=Km h (fun _=>h1) fun z=>by cases z
theorem i6:ac (dZ Φ .And [] sc ρ) true:=cX
theorem qB:ac (dZ Φ .Or [] sc ρ) false:=cX
theorem ac.bl{r:R1}{c:Bool}(h:ac r (.bl b,k))(e:b=c):ac r (.bl c,k):=e ▸ h
theorem vq(h:ac (bG Φ es sc ρ) (ds,k))(hl:ds.length<=bO):ac (az Φ (.Tuple es n p) it sc ρ) (.tup ds,kn (.tup ds) k):=ac.bnd h (by dsimp only;rw[if_pos hl];exact cX)
theorem qC(h:ac (bG Φ es sc ρ) (ds,k))(hl:ds.length<=bO/\k<=1):ac (az Φ (.List es p) it sc ρ) (.lst ds,k):=ac.bnd h (by dsimp only;rw[if_pos hl];exact cX)
end
theorem RJ(h:us.length=0):us=[]:=List.eq_nil_of_length_eq_zero h
theorem fZ(h:us.length=1):∃a,us=[a]:=List.length_eq_one_iff.mp h
theorem JF(h:us.length=n+1):∃a r,us=a::r/\r.length=n:=by
 cases us with
 | nil=>cases h
 | cons a r=>exact⟨a,r,rfl,by simpa using h⟩
theorem fz(h:us.length=2):∃a b,us=[a,b]:=by
 obtain⟨a,r,e1,h1⟩:=JF h;subst e1;obtain⟨b,rfl⟩:=fZ h1;exact⟨a,b,rfl⟩
theorem oZ(h:us.length=3):∃a b c,us=[a,b,c]:=by
 obtain⟨a,r,e1,h1⟩:=JF h;subst e1;obtain⟨b,c,rfl⟩:=fz h1;exact⟨a,b,c,rfl⟩
end Sp
namespace Qm
def qU(a b c d:Int):Prop:=∃e x y z w:Int,(e=0\/e=1)/\a=2*x+e/\b=2*y+e/\c=2*z+e/\d=2*w+e
theorem uy{P Q R S k1 k2 k3:Int}(h1:Q=P+2*k1)(h2:R=P+2*k2)(h3:S=P+2*k3):qU P Q R S :=
 ⟨P % 2,P / 2,P / 2+k1,P / 2+k2,P / 2+k3,by omega,by omega,by omega,by omega,by omega⟩
theorem par_fmod{a b c d:Int}(h:qU a b c d):b.fmod 2=a.fmod 2/\c.fmod 2=a.fmod 2/\d.fmod 2=a.fmod 2:=by
 obtain⟨e,x,y,z,w,he,rfl,rfl,rfl,rfl⟩:=h
 simp only[Wi _ (show(0:Int)<=2 by decide)]
 omega
theorem Ji{a b c d:Int}(h:qU a b c d):∃t,a*a+(b*b+(c*c+(d*d+0)))=4*t:=by
 obtain⟨e,x,y,z,w,he,rfl,rfl,rfl,rfl⟩:=h
 rcases he with rfl|rfl
 ·exact⟨x*x+y*y+z*z+w*w,by grind⟩
 ·exact⟨x*x+y*y+z*z+w*w+x+y+z+w+1,by grind⟩
theorem fd4(t:Int):(4*t).fdiv 4=t:=by rw[VL _ (by decide)];omega
theorem fd2(t:Int):(2*t).fdiv 2=t:=by rw[VL _ (by decide)];omega
theorem CG{a b c d e f g h:Int}(h1:qU a b c d)(h2:qU e f g h):∃P Q R S,a*e-b*f-c*g-d*h=2*P/\a*f+b*e+c*h-d*g=2*Q/\a*g-b*h+c*e+d*f=2*R/\a*h+b*g-c*f+d*e=2*S/\qU P Q R S:=by
 obtain⟨s,x1,x2,x3,x4,_,rfl,rfl,rfl,rfl⟩:=h1
 obtain⟨u,y1,y2,y3,y4,_,rfl,rfl,rfl,rfl⟩:=h2
 refine⟨2*(x1*y1-x2*y2-x3*y3-x4*y4)+u*(x1-x2-x3-x4)+s*(y1-y2-y3-y4)-s*u,
  2*(x1*y2+x2*y1+x3*y4-x4*y3)+u*(x1+x2+x3-x4)+s*(y2+y1+y4-y3)+s*u,
  2*(x1*y3-x2*y4+x3*y1+x4*y2)+u*(x1-x2+x3+x4)+s*(y3-y4+y1+y2)+s*u,
  2*(x1*y4+x2*y3-x3*y2+x4*y1)+u*(x1+x2-x3+x4)+s*(y4+y3-y2+y1)+s*u,by grind,by grind,by grind,by grind,?_⟩
 refine uy (k1:=(x1*y2+x2*y1+x3*y4-x4*y3)-(x1*y1-x2*y2-x3*y3-x4*y4)+u*(x2+x3)+s*(y2+y4)+s*u)
  (k2:=(x1*y3-x2*y4+x3*y1+x4*y2)-(x1*y1-x2*y2-x3*y3-x4*y4)+u*(x3+x4)+s*(y3+y2)+s*u)
  (k3:=(x1*y4+x2*y3-x3*y2+x4*y1)-(x1*y1-x2*y2-x3*y3-x4*y4)+u*(x2+x4)+s*(y4+y3)+s*u) ?_ ?_ ?_<;>grind
theorem Nr(a b c d e f g h:Int):(a*e-b*f-c*g-d*h)*(a*e-b*f-c*g-d*h)+((a*f+b*e+c*h-d*g)*(a*f+b*e+c*h-d*g)+((a*g-b*h+c*e+d*f)*(a*g-b*h+c*e+d*f)+((a*h+b*g-c*f+d*e)*(a*h+b*g-c*f+d*e)+0))) =
  (a*a+(b*b+(c*c+(d*d+0))))*(e*e+(f*f+(g*g+(h*h+0)))):=by grind
theorem cq{p P:Int}(h:p=2*P):p.fdiv 2=P:=by rw[h,fd2]
end Qm
namespace K
open PySem L2 Sp
variable{α β:Type}{ds:List D}{r:D}
structure Dc(α:Type) where
 dec:D->Option α
 enc:α->D
 ok:∀x a,dec x=some a->x=enc a
noncomputable def dI:Dc Int:=⟨fun | .int i=>some i|_=>none,.int,fun x a h=>by cases x<;>cases h;rfl⟩
noncomputable def dL:Dc (List D):=⟨fun | .lst i=>some i|_=>none,.lst,fun x a h=>by cases x<;>cases h;rfl⟩
noncomputable def wB{α:Type}(A:Dc α)(f:α->Rs D):List D->Rs D
 | [x]=>(match A.dec x with|some a=>f a|none=>.st)
 | _=>.st
noncomputable def pW{α β:Type}(A:Dc α)(B:Dc β)(f:α->β->Rs D):List D->Rs D
 | [x,y]=>(match A.dec x with|some a=>(match B.dec y with|some b=>f a b|none=>.st)|none=>.st)
 | _=>.st
noncomputable def t9{α β γ:Type}(A:Dc α)(B:Dc β)(C:Dc γ)(f:α->β->γ->Rs D):List D->Rs D
 | [x,y,z]=>(match A.dec x with|some a=>(match B.dec y with|some b=>(match C.dec z with|some c=>f a b c|none=>.st)|none=>.st)|none=>.st)
 | _=>.st
theorem j6{A:Dc α}{x:D}{f:α->Rs β}{r:β}(h:ac (match A.dec x with|some a=>f a|none=>.st) r):∃a,x=A.enc a/\ac (f a) r:=by
 split at h
 ·rename_i a e;exact⟨a,A.ok _ _ e,h⟩
 ·exact(au h).elim
theorem nD{A:Dc α}{f:α->Rs D}(h:ac (wB A f ds) r):∃a,ds=[A.enc a]/\ac (f a) r:=by
 unfold wB at h
 split at h
 ·obtain⟨a,e1,h1⟩:=j6 h;exact⟨a,by rw[e1],h1⟩
 ·exact(au h).elim
theorem gz{A:Dc α}{B:Dc β}{f:α->β->Rs D}(h:ac (pW A B f ds) r):∃a b,ds=[A.enc a,B.enc b]/\ac (f a b) r:=by
 unfold pW at h
 split at h
 ·obtain⟨a,e1,h1⟩:=j6 h
  obtain⟨b,e2,h2⟩:=j6 h1
  exact⟨a,b,by rw[e1,e2],h2⟩
 ·exact(au h).elim
theorem jP{γ:Type}{A:Dc α}{B:Dc β}{C:Dc γ}{f:α->β->γ->Rs D}(h:ac (t9 A B C f ds) r):∃a b c,ds=[A.enc a,B.enc b,C.enc c]/\ac (f a b c) r:=by
 unfold t9 at h
 split at h
 ·obtain⟨a,e1,h1⟩:=j6 h
  obtain⟨b,e2,h2⟩:=j6 h1
  obtain⟨c,e3,h3⟩:=j6 h2
  exact⟨a,b,c,by rw[e1,e2,e3],h3⟩
 ·exact(au h).elim
noncomputable def UK:D->Int
 | .int i=>i
 | _=>0
noncomputable def pT(l:List D):List Int:=l.map UK
theorem pS(ns:List Int):pT (ns.map D.int)=ns:=by
 induction ns with
 | nil=>rfl
 | cons n ns ih=>show n::pT (ns.map D.int)=_;rw[ih]
noncomputable def AB(l:List D):Prop:=∃ns:List Int,l=ns.map D.int
noncomputable def mJ(ns:List Int)(k:Int):Int:=if ns=[]then 0 else ns.getD (k.fmod ns.length).toNat 0
noncomputable def ER(ns:List Int)(k:Int):Int :=
 (mJ ns k).fdiv 2147483647*2147483647+((((mJ ns k).fmod 2147483647+7919*k+1)*48271).fmod 2147483647*69621+k).fmod 2147483647
noncomputable def dm(l:List D)(k:Int):Int:=ER (pT l) k
abbrev t4(a b c d:Int):D:=.tup [.int a,.int b,.int c,.int d]
abbrev Qd:=Int×Int×Int×Int
noncomputable def dq(q:Qd):D:=t4 q.1 q.2.1 q.2.2.1 q.2.2.2
noncomputable def q4:D->Option Qd
 | .tup [.int a,.int b,.int c,.int d]=>some (a,b,c,d)
 | _=>none
theorem MM(x:D)(q:Qd)(h:q4 x=some q):x=dq q:=by
 unfold q4 at h
 split at h
 ·cases h;rfl
 ·cases h
noncomputable def dQ:Dc Qd:=⟨q4,dq,MM⟩
abbrev eS(q:Qd):Prop:=q.1.natAbs<dn/\q.2.1.natAbs<dn/\q.2.2.1.natAbs<dn/\q.2.2.2.natAbs<dn
theorem cM{α:Type}{G:α->D}(h:∀x,(G x).lless=true):∀l:List α,ar (l.map G)=true
 | []=>rfl
 | x::l=>by rw[Vx,ar,h x,cM h l];rfl
@[simp] theorem bN(a b:Int):cU (.int a) (.int b)=decide (a=b):=by
 show(a==b)=_
 rw[Bool.eq_iff_iff];simp
@[simp] theorem tx(p q:Qd):cU (dq p) (dq q)=decide (p=q):=by
 show(p.1==q.1&&(p.2.1==q.2.1&&(p.2.2.1==q.2.2.1&&(p.2.2.2==q.2.2.2&&true))))=_
 obtain⟨a,b,c,d⟩:=p;obtain⟨e,f,g,h⟩:=q
 rw[Bool.eq_iff_iff];simp
theorem sy(qs:List Qd):ar (qs.map dq)=true:=by
 induction qs with
 | nil=>rfl
 | cons n ns ih=>rw[Vx,ar,ih];rfl
end K
namespace Sp
open PySem PySem.Spec PyProof.Rows L2
open AutoSeq1 (wpAny_loadPart')
variable{P:Program}{w:World}{H:Hp}{h:Heap}{k m:Nat}{c:Expr}{p:Pos}
section
variable{prog:Program}{A:Around}{E:Value->Shared->Prop}{s:Shared}
variable{n l1 l2 l3:Nat}{xs ys ws:Array Value}{x y u:Value}{f0 f1:Value}
end
open AutoSeq1 (wpAny_loadPart')
section
variable{prog:Program}{A:Around}{E:Value->Shared->Prop}{s:Shared}
end
section
variable{prog:Program}{A:Around}{E:Value->Shared->Prop}{s:Shared}
abbrev uQ(acc:Array Value)(c:Nat):Obj:={ cls:=.type "list", dict:=none,data:=.seq acc c,slots:=#[] }
theorem xh{S I:Addr}{res:Value}{R:Result->Shared->Prop}(h:wpAny (model prog w) A.in1 (pyNext (.ref I)) (fun r s'=>match r with
      | some v => ∃acc c,s'.heap.get? S=some (uQ acc c)/\acc.size+1<=sizeLine/\∀h2 c2,h2.get? S=some (uQ (acc.push v) c2)->Heap.SameBut S s'.heap h2->codeAny (model prog w) A (.builtin "list.extend.loop" ⟨[.ref S,.ref I,res],[]⟩) R { s' with heap:=h2 }
      | none=>R (.ok (.ret res)) s') (fun e s'=>R (.error e) s') s):codeAny (model prog w) A (.builtin "list.extend.loop" ⟨[.ref S,.ref I,res],[]⟩) R s:=by
  refine codeAny_builtin F.entry_extend_loop ?_
  rw[Around.under_plainId F.plain_extend_loop _]
  show wpAny _ A.in1 (pyNext (.ref I) >>= _) _ _ s
  refine U8 (VX h (fun r s' hr=>?_) fun _ _ z=>z)
  cases r with
  | none=>exact Va hr
  | some v =>
    obtain⟨acc,c,hS,hz,k⟩:=hr
    show wpAny _ A.in1 (updateSeq S (·.push v) >>= _) _ _ _
    refine U8 (wpAny_updateSeq hS rfl (Va ⟨plainId_quiet F.plain_extend_loop _,k _ _ (V3 _ hS rfl) (Heap.SameBut.update ..)⟩) ?_ ?_)
    . omega
    . show(acc.push v).size<=sizeLine+1
      rw[Array.size_push];omega
end
variable{X:Cx}
theorem ph{b:Addr}{o:HO}(x:cO P w H h)(hb:H b=none)(new:bD P w (aH H b o) h b o):cO P w (aH H b o) h:=fun c u e=>by
 by_cases hc:c=b
 ·subst hc;rw[aF]at e;cases e;exact new
 ·rw[ay hc]at e
  exact(x c u e).stay (fun d v _ r=>r) (fun d r=>by rw[ay (aZ r hb)];exact r) (fun d xs r=>by rw[ay (aZ r hb)];exact r)
theorem qZ{fs ex:List Addr}{H':Hp}{h':Heap}(k:∀b u,h.get? b=some u->h'.get? b=some u)(hH:∀c,c<h.objs.size->H' c=H c)(hin:∀c o,H c=some o->c<h.objs.size):Un fs ex H H' h h' where
 keep:=fun b u q _ _ _=>k b u q
 slot:=fun b u q _ _ _=>⟨u.slots,k b u q⟩
 free:=fun b u q n _=>(hH b (Vd q)).trans n
 there:=fun b u q _=>⟨u,k b u q⟩
 tups:=fun b xs r=>(hH b (hin b _ r)).trans r
 frzs:=fun b o u r=>(hH b (hin b _ r)).trans r
 tbls:=fun b ps r=>⟨#[],by rw[Array.append_empty];exact(hH b (hin b _ r)).trans r⟩
theorem nB{Φ:Fx}{sc:Scope}{H0:Hp}{fl:Fl}{rest:List Stmt}(G:aS Φ X sc)(hp:PassesOwn (model X.prog X.w) X.A X.env X.xe):∀{pre:List Stmt} {ρ ρ1:af},ac (aD Φ pre sc ρ) (.nx ρ1)->fo X H0 ρ1 rest fl->fo X H0 ρ (pre++rest) fl
 | [],ρ,ρ1,h,k=>by cases aJ h;exact k
 | st::ss,ρ,ρ1,h,k=>by
  obtain⟨f1,h1,h2⟩:=ax (show ac (Rs.bnd _ _) _ from h)
  cases f1 with
  | nx ρ'=>exact ff ((jX Φ _).s st (Vy _) h1 G hp) (nB G hp h2 k)
  | rt d=>cases aJ h2
  | bk ρ'=>cases aJ h2
  | ct ρ'=>cases aJ h2
theorem J9{K:W.Frag}{mg:Str->Option Value}{base:Heap}{g:Str}{f:Addr}{fd:FuncData}{ps:List Str}{F:List D->Rs D}(h:bT P w K mg base dS k f fd ps (lv K F))(hm:mg g=some (.ref f))(hk:W.keepIn K (.ref f)=true)(hb:cu K fd ps [])(hd:(g==("__debug__" : Str))=false):cI P w K mg base k g F :=
 ⟨f,fd,ps,h,hm,hk,hb,hd⟩
def NS(K:W.Frag)(F:List D->Rs D):Sp:=fun vs H Q _ => ∃ds r l,ah K H (fun _ _=>True) ds vs/\F ds=.ok r l/\aM l/\∀v H',aA H H'->ai K H' (fun _ _=>True) r v->Q v H'
theorem wK{Φ:Fx}{sc:Scope}{H0:Hp}{rest:List Stmt}{t:TS}(G:aS Φ X sc)(hp:PassesOwn (model X.prog X.w) X.A X.env X.xe)(hr:fe X rest t):∀{pre:List Stmt} {ρ ρ1:af},ac (aD Φ pre sc ρ) (.nx ρ1) ->
  fe X (pre++rest) (fun D σ H => ∃ow,aO X ow H σ ρ/\σ.length=X.N.length/\ck H0 ow H/\∀ow' σ' H',aO X ow' H' σ' ρ1->σ'.length=X.N.length->ck H0 ow' H'->t D σ' H')
 | [],ρ,ρ1,h=>by
  cases aJ h
  exact fun pins s σ H D I ⟨ow,E,hl,B,q⟩=>hr pins s σ H D I (q ow σ H E hl B)
 | st::ss,ρ,ρ1,h=>by
  obtain⟨f1,h1,h2⟩:=ax (show ac (Rs.bnd _ _) _ from h)
  cases f1 with
  | nx ρ' =>
   have sd:=(jX Φ _).s st (H0:=H0) (Vy _) h1 G hp
   have ih:=wK (H0:=H0) G hp hr h2
   exact fun pins s σ H D I ⟨ow,E,hl,B,q⟩=>fh sd ih pins s σ H D I ⟨ow,E,hl,B,fun ow' σ' H' E' hl' k=>⟨ow',E',hl',B.keep k,q⟩⟩
  | rt d=>cases aJ h2
  | bk ρ'=>cases aJ h2
  | ct ρ'=>cases aJ h2
theorem vw{ow:Ow}{σ:L2.St}{ρ:af}(E:aO X ow H σ ρ):aO X (fun _=>none) H σ (bY ρ):=⟨fun x d o h=>by
 unfold bY at h
 cases e:ρ x with
 | none=>rw[e]at h;cases h
 | some p =>
  rw[e]at h
  obtain⟨i,v,e1,e2,e3,e4⟩:=E.get x p.1 p.2 (by rw[e])
  cases h
  exact⟨i,v,e1,e2,e3,e4.imp fun _ _ _ _=>rfl⟩,fun a ha=>absurd rfl ha⟩
variable{Φ:Fx}{sc:Scope}{ρ ρ':af}{fl:Fl}{ss:List Stmt}
theorem qD{a b:Expr}{it:Bool}{t:Bool}{r:D×Nat}(hc:ac (az Φ c false sc ρ) (.bl t,k))(h1:t=true->ac (az Φ a false sc ρ) r)(h2:t=false->ac (az Φ b false sc ρ) r):ac (az Φ (.IfExp c a b p) it sc ρ) r:=by
 refine ac.bnd hc (jI rfl (EC ?_))
 cases t with
 | true=>exact h1 rfl
 | false=>exact h2 rfl
theorem tQ{test:af->Rs Bool}{body:af->Rs Fl}(aj:Nat->af->Prop)(step:∀m ρ,aj m ρ->∃b,ac (test ρ) b/\(b=true->∃m' ρ2,m' < m/\ac (body ρ) (.nx ρ2)/\aj m' ρ2)):∀{n m:Nat} {ρ:af},aj m ρ->m<n->∃m' ρ',ac (ol test body n ρ) (.nx ρ')/\aj m' ρ'/\ac (test ρ') false:=by
 intro n
 induction n with
 | zero=>intro m ρ _ h;omega
 | succ n ih =>
  intro m ρ hi hm
  obtain⟨b,hb,h⟩:=step m ρ hi
  cases b with
  | false=>exact⟨m,ρ,ac.bnd hb cX,hi,hb⟩
  | true =>
   obtain⟨m',ρ2,h1,h2,h3⟩:=h rfl
   obtain⟨m2,ρ3,h4,h5,h6⟩:=ih h3 (show m' < n by omega)
   exact⟨m2,ρ3,ac.bnd hb (ac.bnd h2 h4),h5,h6⟩
theorem lV{body:List Stmt}(aj:Nat->af->Prop)(h0:aj m ρ)(hm:m<bO)
  (step:∀m ρ,aj m ρ->∃b k,ac (az Φ c false sc ρ) (.bl b,k)/\(b=true->∃m' ρ2,m' < m/\ac (aD Φ body sc ρ) (.nx ρ2)/\aj m' ρ2)) (rest:∀m ρ',aj m ρ'->(∃k,ac (az Φ c false sc ρ') (.bl false,k))->ac (aD Φ ss sc ρ') fl):ac (aD Φ (.While c body [] p::ss) sc ρ) fl:=by
 obtain⟨m',ρ',h1,h2,h3⟩:=tQ (test:=fun ρ=>(az Φ c false sc ρ).bnd fun p=>jz p fun b=>.ok b []) (body:=aD Φ body sc) aj (fun m ρ h=>by
  obtain⟨b,k,a1,a2⟩:=step m ρ h
  exact⟨b,a1.bnd (jI rfl cX),a2⟩) h0 hm
 obtain⟨q,h4,h5⟩:=ax h3
 obtain⟨t,ht,h5⟩:=hJ h5
 cases aJ h5
 obtain⟨q1,q2⟩:=q
 have ht:q1=.bl false:=ht
 subst ht
 exact aY (vm h1) (rest m' ρ' h2 ⟨q2,h4⟩)
theorem nk{m':Nat}{A:af->Prop}{P:Nat->af->Prop}(h:m' < m)(k:∃ρ2,A ρ2/\P m' ρ2):∃m' ρ2,m' < m/\A ρ2/\P m' ρ2:=by
 obtain⟨ρ2,a,b⟩:=k
 exact⟨m',ρ2,h,a,b⟩
end Sp
namespace K
open PySem L2 Sp
noncomputable def Qn(p q:Qd):Qd :=
 (p.1*q.1-p.2.1*q.2.1-p.2.2.1*q.2.2.1-p.2.2.2*q.2.2.2,p.1*q.2.1+p.2.1*q.1+p.2.2.1*q.2.2.2-p.2.2.2*q.2.2.1,
  p.1*q.2.2.1-p.2.1*q.2.2.2+p.2.2.1*q.1+p.2.2.2*q.2.1,p.1*q.2.2.2+p.2.1*q.2.2.1-p.2.2.1*q.2.1+p.2.2.2*q.1)
theorem qK{p q:Qd}(h:eS p)(g:eS q):(bL p.1 q.1/\bL p.2.1 q.2.1/\bL p.2.2.1 q.2.2.1/\bL p.2.2.2 q.2.2.2)/\(bL p.1 q.2.1/\bL p.2.1 q.1/\bL p.2.2.1 q.2.2.2/\bL p.2.2.2 q.2.2.1)/\(bL p.1 q.2.2.1/\bL p.2.1 q.2.2.2/\bL p.2.2.1 q.1/\bL p.2.2.2 q.2.1)/\(bL p.1 q.2.2.2/\bL p.2.1 q.2.2.1/\bL p.2.2.1 q.2.1/\bL p.2.2.2 q.1) :=
 ⟨⟨bZ h.1 g.1,bZ h.2.1 g.2.1,bZ h.2.2.1 g.2.2.1,bZ h.2.2.2 g.2.2.2⟩,⟨bZ h.1 g.2.1,bZ h.2.1 g.1,bZ h.2.2.1 g.2.2.2,bZ h.2.2.2 g.2.2.1⟩,⟨bZ h.1 g.2.2.1,bZ h.2.1 g.2.2.2,bZ h.2.2.1 g.1,bZ h.2.2.2 g.2.1⟩,⟨bZ h.1 g.2.2.2,bZ h.2.1 g.2.2.1,bZ h.2.2.1 g.2.1,bZ h.2.2.2 g.1⟩⟩

end K
namespace K
open PySem L2 Sp Qm
variable{P P3 U a b c e f g n w x y z:Int}{d k p q r:Qd}{E M N m:Nat}{s:Bool}{Φ:Fx}{sc:Scope}{ρ:af}{body:List Stmt}{ns:List Int}
abbrev bd(a b c d:Int):Prop:=a.natAbs<dn/\b.natAbs<dn/\c.natAbs<dn/\d.natAbs<dn
theorem NE{d h Q R S P2 Q2 R2 S2 V W X Q3 R3 S3:Int}
  (hP:a*e-b*f-c*g-d*h=2*P) (hQ:a*f+b*e+c*h-d*g=2*Q) (hR:a*g-b*h+c*e+d*f=2*R) (hS:a*h+b*g-c*f+d*e=2*S)
  (kP:P*x-Q*y-R*z-S*w=2*P2) (kQ:P*y+Q*x+R*w-S*z=2*Q2) (kR:P*z-Q*w+R*x+S*y=2*R2) (kS:P*w+Q*z-R*y+S*x=2*S2)
  (hU:e*x-f*y-g*z-h*w=2*U) (hV:e*y+f*x+g*w-h*z=2*V) (hW:e*z-f*w+g*x+h*y=2*W) (hX:e*w+f*z-g*y+h*x=2*X)
  (lP:a*U-b*V-c*W-d*X=2*P3) (lQ:a*V+b*U+c*X-d*W=2*Q3) (lR:a*W-b*X+c*U+d*V=2*R3) (lS:a*X+b*W-c*V+d*U=2*S3) :
  P2=P3/\Q2=Q3/\R2=R3/\S2=S3:=by
 have e1:4*P2=(2*P)*x-(2*Q)*y-(2*R)*z-(2*S)*w:=by grind
 have e2:4*Q2=(2*P)*y+(2*Q)*x+(2*R)*w-(2*S)*z:=by grind
 have e3:4*R2=(2*P)*z-(2*Q)*w+(2*R)*x+(2*S)*y:=by grind
 have e4:4*S2=(2*P)*w+(2*Q)*z-(2*R)*y+(2*S)*x:=by grind
 have f1:4*P3=a*(2*U)-b*(2*V)-c*(2*W)-d*(2*X):=by grind
 have f2:4*Q3=a*(2*V)+b*(2*U)+c*(2*X)-d*(2*W):=by grind
 have f3:4*R3=a*(2*W)-b*(2*X)+c*(2*U)+d*(2*V):=by grind
 have f4:4*S3=a*(2*X)+b*(2*W)-c*(2*V)+d*(2*U):=by grind
 rw[<- hP,<- hQ,<- hR,<- hS]at e1 e2 e3 e4
 rw[<- hU,<- hV,<- hW,<- hX]at f1 f2 f3 f4
 clear hP hQ hR hS kP kQ kR kS hU hV hW hX lP lQ lR lS
 have m1:4*P2=4*P3:=by rw[e1,f1];clear e1 e2 e3 e4 f1 f2 f3 f4;grind
 have m2:4*Q2=4*Q3:=by rw[e2,f2];clear e1 e2 e3 e4 f1 f2 f3 f4;grind
 have m3:4*R2=4*R3:=by rw[e3,f3];clear e1 e2 e3 e4 f1 f2 f3 f4;grind
 have m4:4*S2=4*S3:=by rw[e4,f4];clear e1 e2 e3 e4 f1 f2 f3 f4;grind
 omega
noncomputable def aT(p q:Qd):Qd :=
 ((p.1*q.1-p.2.1*q.2.1-p.2.2.1*q.2.2.1-p.2.2.2*q.2.2.2).fdiv 2,(p.1*q.2.1+p.2.1*q.1+p.2.2.1*q.2.2.2-p.2.2.2*q.2.2.1).fdiv 2,
  (p.1*q.2.2.1-p.2.1*q.2.2.2+p.2.2.1*q.1+p.2.2.2*q.2.1).fdiv 2,(p.1*q.2.2.2+p.2.1*q.2.2.1-p.2.2.1*q.2.1+p.2.2.2*q.1).fdiv 2)
noncomputable def av(q:Qd):Int:=(q.1*q.1+(q.2.1*q.2.1+(q.2.2.1*q.2.2.1+(q.2.2.2*q.2.2.2+0)))).fdiv 4
noncomputable def aq(q:Qd):Prop:=qU q.1 q.2.1 q.2.2.1 q.2.2.2
noncomputable def df(M:Nat)(q:Qd):Prop:=q.1.natAbs<=M/\q.2.1.natAbs<=M/\q.2.2.1.natAbs<=M/\q.2.2.2.natAbs<=M
noncomputable def cR:Qd:=(2,0,0,0)
theorem cx(h:aq p)(g:aq q):∃P Q R S,p.1*q.1-p.2.1*q.2.1-p.2.2.1*q.2.2.1-p.2.2.2*q.2.2.2=2*P/\p.1*q.2.1+p.2.1*q.1+p.2.2.1*q.2.2.2-p.2.2.2*q.2.2.1=2*Q /\
  p.1*q.2.2.1-p.2.1*q.2.2.2+p.2.2.1*q.1+p.2.2.2*q.2.1=2*R/\p.1*q.2.2.2+p.2.1*q.2.2.1-p.2.2.1*q.2.1+p.2.2.2*q.1=2*S/\qU P Q R S/\aT p q=(P,Q,R,S):=by
 obtain⟨P,Q,R,S,h1,h2,h3,h4,h5⟩:=CG h g
 exact⟨P,Q,R,S,h1,h2,h3,h4,h5,by unfold aT;rw[cq h1,cq h2,cq h3,cq h4]⟩
theorem dy(h:aq p)(g:aq q):aq (aT p q):=by
 obtain⟨P,Q,R,S,h1,h2,h3,h4,h5,e⟩:=cx h g
 rw[e];exact h5
theorem kA:aq cR:=⟨0,1,0,0,0,.inl rfl,rfl,rfl,rfl,rfl⟩
theorem eD(h:aq p)(g:aq q)(k:aq r):aT (aT p q) r=aT p (aT q r):=by
 obtain⟨P,Q,R,S,hP,hQ,hR,hS,p1,e1⟩:=cx h g
 obtain⟨U,V,W,X,hU,hV,hW,hX,p2,e2⟩:=cx g k
 obtain⟨P2,Q2,R2,S2,kP,kQ,kR,kS,p3,e3⟩:=cx (p:=(P,Q,R,S)) p1 k
 obtain⟨P3,Q3,R3,S3,lP,lQ,lR,lS,p4,e4⟩:=cx (q:=(U,V,W,X)) h p2
 rw[e1,e2,e3,e4]
 obtain⟨q1,q2,q3,q4⟩:=NE hP hQ hR hS kP kQ kR kS hU hV hW hX lP lQ lR lS
 rw[q1,q2,q3,q4]
theorem uE(q:Qd):aT cR q=q:=by
 obtain⟨a,b,c,d⟩:=q
 show(_,_,_,_)=_
 rw[cq (P:=a) (by show 2*a-0*b-0*c-0*d=_;omega),cq (P:=b) (by show 2*b+0*a+0*d-0*c=_;omega),cq (P:=c) (by show 2*c-0*d+0*a+0*b=_;omega),cq (P:=d) (by show 2*d+0*c-0*b+0*a=_;omega)]
theorem CL(q:Qd):aT q cR=q:=by
 obtain⟨a,b,c,d⟩:=q
 show(_,_,_,_)=_
 rw[cq (P:=a) (by show a*2-b*0-c*0-d*0=_;omega),cq (P:=b) (by show a*0+b*2+c*0-d*0=_;omega),cq (P:=c) (by show a*0-b*0+c*2+d*0=_;omega),cq (P:=d) (by show a*0+b*0-c*0+d*2=_;omega)]
theorem vg{qs:List Qd}(h:aq p)(g:∀q∈qs,aq q):aq (qs.foldl aT p):=by
 induction qs generalizing p with
 | nil=>exact h
 | cons q qs ih=>exact ih (dy h (g q (by simp))) fun r hr=>g r (by simp[hr])
theorem cJ(h:aq p):∃t,p.1*p.1+(p.2.1*p.2.1+(p.2.2.1*p.2.2.1+(p.2.2.2*p.2.2.2+0)))=4*t/\av p=t:=by
 obtain⟨t,ht⟩:=Ji h
 exact⟨t,ht,by unfold av;rw[ht,fd4]⟩
theorem iL(h:aq p)(g:aq q):av (aT p q)=av p*av q:=by
 obtain⟨t1,h1,e1⟩:=cJ h
 obtain⟨t2,h2,e2⟩:=cJ g
 obtain⟨t3,h3,e3⟩:=cJ (dy h g)
 rw[e1,e2,e3]
 obtain⟨P,Q,R,S,hP,hQ,hR,hS,p1,e⟩:=cx h g
 rw[e]at h3
 have eu:=Nr p.1 p.2.1 p.2.2.1 p.2.2.2 q.1 q.2.1 q.2.2.1 q.2.2.2
 rw[hP,hQ,hR,hS,h1,h2]at eu
 have:4*(4*t3)=4*(4*(t1*t2)):=by rw[<- h3];clear e h3 e1 e2 e3 h1 h2 hP hQ hR hS p1 h g;grind
 omega
theorem bK(h:a.natAbs<=M)(g:e.natAbs<=N):(a*e).natAbs<=M*N:=by
 rw[Int.natAbs_mul];exact Nat.mul_le_mul h g
theorem UY{K:Nat}(h1:x.natAbs<=K)(h2:y.natAbs<=K)(h3:z.natAbs<=K)(h4:w.natAbs<=K)(e:x-y-z-w=2*P):P.natAbs<=2*K:=by omega
theorem UX{K:Nat}(h1:x.natAbs<=K)(h2:y.natAbs<=K)(h3:z.natAbs<=K)(h4:w.natAbs<=K)(e:x+y+z-w=2*P):P.natAbs<=2*K:=by omega
theorem UW{K:Nat}(h1:x.natAbs<=K)(h2:y.natAbs<=K)(h3:z.natAbs<=K)(h4:w.natAbs<=K)(e:x-y+z+w=2*P):P.natAbs<=2*K:=by omega
theorem UV{K:Nat}(h1:x.natAbs<=K)(h2:y.natAbs<=K)(h3:z.natAbs<=K)(h4:w.natAbs<=K)(e:x+y-z+w=2*P):P.natAbs<=2*K:=by omega
theorem rG(h:df M p)(g:df N q)(hp:aq p)(hq:aq q):df (2*(M*N)) (aT p q):=by
 obtain⟨P,Q,R,S,hP,hQ,hR,hS,p1,e⟩:=cx hp hq
 rw[e]
 obtain⟨a1,a2,a3,a4⟩:=h
 obtain⟨b1,b2,b3,b4⟩:=g
 exact⟨UY (bK a1 b1) (bK a2 b2) (bK a3 b3) (bK a4 b4) hP,UX (bK a1 b2) (bK a2 b1) (bK a3 b4) (bK a4 b3) hQ,
  UW (bK a1 b3) (bK a2 b4) (bK a3 b1) (bK a4 b2) hR,UV (bK a1 b4) (bK a2 b3) (bK a3 b2) (bK a4 b1) hS⟩
theorem fk(h:df M q)(hM:M<dn):bd q.1 q.2.1 q.2.2.1 q.2.2.2 :=
 ⟨VE h.1 hM,VE h.2.1 hM,VE h.2.2.1 hM,VE h.2.2.2 hM⟩
noncomputable def cV(q:Qd):Qd:=(q.1,-q.2.1,-q.2.2.1,-q.2.2.2)
noncomputable def bu(p q:Qd):Qd:=(p.1-q.1,p.2.1-q.2.1,p.2.2.1-q.2.2.1,p.2.2.2-q.2.2.2)
noncomputable def cv(p q:Qd):Qd:=(p.1+q.1,p.2.1+q.2.1,p.2.2.1+q.2.2.1,p.2.2.2+q.2.2.2)
noncomputable def aV(q:Qd)(n:Int):Qd:=(q.1*n,q.2.1*n,q.2.2.1*n,q.2.2.2*n)
noncomputable def aL(s:Bool)(p q:Qd):Qd:=if s=true then aT p q else aT q p
noncomputable def aE:Qd:=(0,0,0,0)
theorem cZ(h1:p.1=q.1)(h2:p.2.1=q.2.1)(h3:p.2.2.1=q.2.2.1)(h4:p.2.2.2=q.2.2.2):p=q:=by
 obtain⟨a,b,c,d⟩:=p
 obtain⟨e,f,g,h⟩:=q
 cases h1;cases h2;cases h3;cases h4;rfl
theorem Ej(h:a=2*x+e)(g:b=2*y+f):a-b=2*(x-y)+(e-f):=by omega
theorem wN(h:a=2*x+e)(g:b=2*y+f):a+b=2*(x+y)+(e+f):=by omega
theorem yw{d:Int}(h1:a=2*x+n)(h2:b=2*y+n)(h3:c=2*z+n)(h4:d=2*w+n):qU a b c d:=by
 have k:∀{u v:Int},u=2*v+n->u=2*(v+n / 2)+n % 2:=by omega
 exact⟨n % 2,_,_,_,_,Int.emod_two_eq n,k h1,k h2,k h3,k h4⟩
theorem IT(h:a=2*x+e):-a=2*(-x-e)+e:=by omega
theorem en(h:aq q):aq (cV q):=by
 obtain⟨e,x,y,z,w,he,h1,h2,h3,h4⟩:=h
 exact⟨e,x,_,_,_,he,h1,IT h2,IT h3,IT h4⟩
theorem cf(h:aq p)(g:aq q):aq (bu p q):=by
 obtain⟨e,x,y,z,w,he,h1,h2,h3,h4⟩:=h
 obtain⟨e',x',y',z',w',he',g1,g2,g3,g4⟩:=g
 exact yw (Ej h1 g1) (Ej h2 g2) (Ej h3 g3) (Ej h4 g4)
theorem gC(h:aq p)(g:aq q):aq (cv p q):=by
 obtain⟨e,x,y,z,w,he,h1,h2,h3,h4⟩:=h
 obtain⟨e',x',y',z',w',he',g1,g2,g3,g4⟩:=g
 exact yw (wN h1 g1) (wN h2 g2) (wN h3 g3) (wN h4 g4)
theorem Eh(he:e=0\/e=1)(h:a=2*x+e):a % 2=e:=by omega
theorem jU:aq q↔q.2.1 % 2=q.1 % 2/\q.2.2.1 % 2=q.1 % 2/\q.2.2.2 % 2=q.1 % 2:=by
 constructor
 ·rintro⟨e,x,y,z,w,he,h1,h2,h3,h4⟩
  rw[Eh he h1,Eh he h2,Eh he h3,Eh he h4]
  exact⟨rfl,rfl,rfl⟩
 ·rintro⟨h1,h2,h3⟩
  have k:∀a:Int,a=2*(a / 2)+a % 2:=fun a=>(Int.mul_ediv_add_emod a 2).symm
  exact⟨q.1 % 2,_,_,_,_,Int.emod_two_eq _,k _,by rw[<- h1];exact k _,by rw[<- h2];exact k _,by rw[<- h3];exact k _⟩
theorem Ei(h:a=2*x+e):a*n=2*(x*n)+e*n:=by rw[h,Int.add_mul,WC]
theorem d7(n:Int)(h:aq q):aq (aV q n):=by
 obtain⟨e,x,y,z,w,he,h1,h2,h3,h4⟩:=h
 exact yw (Ei h1) (Ei h2) (Ei h3) (Ei h4)
theorem fM:aq aE:=⟨0,0,0,0,0,.inl rfl,rfl,rfl,rfl,rfl⟩
theorem cj(h:aq p)(g:aq q):aq (aL s p q):=by
 unfold aL;split
 ·exact dy h g
 ·exact dy g h
theorem mw(h:a=2*P)(g:b=2*U)(k:c=2*P3)(e:c=a-b):P3=P-U:=by omega
theorem ou(h:aq p)(k:aq r)(g:aq q):aT (bu p r) q=bu (aT p q) (aT r q):=by
 obtain⟨P,Q,R,S,hP,hQ,hR,hS,_,e1⟩:=cx h g
 obtain⟨U,V,W,X,hU,hV,hW,hX,_,e2⟩:=cx k g
 obtain⟨P3,Q3,R3,S3,lP,lQ,lR,lS,_,e3⟩:=cx (cf h k) g
 rw[e1,e2,e3]
 simp only[bu]at *
 clear e1 e2 e3 h k g
 refine cZ ?_ ?_ ?_ ?_
 ·exact mw hP hU lP (by simp only[W9,WH];omega)
 ·exact mw hQ hV lQ (by simp only[W9,WH];omega)
 ·exact mw hR hW lR (by simp only[W9,WH];omega)
 ·exact mw hS hX lS (by simp only[W9,WH];omega)
theorem oq(h:aq p)(k:aq r)(g:aq q):aT q (bu p r)=bu (aT q p) (aT q r):=by
 obtain⟨P,Q,R,S,hP,hQ,hR,hS,_,e1⟩:=cx g h
 obtain⟨U,V,W,X,hU,hV,hW,hX,_,e2⟩:=cx g k
 obtain⟨P3,Q3,R3,S3,lP,lQ,lR,lS,_,e3⟩:=cx g (cf h k)
 rw[e1,e2,e3]
 simp only[bu]at *
 clear e1 e2 e3 h k g
 refine cZ ?_ ?_ ?_ ?_
 ·exact mw hP hU lP (by simp only[W9,WH];omega)
 ·exact mw hQ hV lQ (by simp only[W9,WH];omega)
 ·exact mw hR hW lR (by simp only[W9,WH];omega)
 ·exact mw hS hX lS (by simp only[W9,WH];omega)
theorem eU(k:Qd)(n:Int):aT k (2*n,0,0,0)=aV k n:=by
 obtain⟨a,b,c,d⟩:=k
 show(_,_,_,_)=(a*n,b*n,c*n,d*n)
 rw[cq (P:=a*n) (by show a*(2*n)-b*0-c*0-d*0=_;grind),cq (P:=b*n) (by show a*0+b*(2*n)+c*0-d*0=_;grind),cq (P:=c*n) (by show a*0-b*0+c*(2*n)+d*0=_;grind),cq (P:=d*n) (by show a*0+b*0-c*0+d*(2*n)=_;grind)]
theorem gR(k:Qd)(n:Int):aT (2*n,0,0,0) k=aV k n:=by
 obtain⟨a,b,c,d⟩:=k
 show(_,_,_,_)=(a*n,b*n,c*n,d*n)
 rw[cq (P:=a*n) (by show 2*n*a-0*b-0*c-0*d=_;grind),cq (P:=b*n) (by show 2*n*b+0*a+0*d-0*c=_;grind),cq (P:=c*n) (by show 2*n*c-0*d+0*a+0*b=_;grind),cq (P:=d*n) (by show 2*n*d+0*c-0*b+0*a=_;grind)]
theorem iW(h:aq q):aT q (cV q)=(2*av q,0,0,0)/\aT (cV q) q=(2*av q,0,0,0):=by
 obtain⟨t,ht,e⟩:=cJ h
 obtain⟨a,b,c,d⟩:=q
 rw[e]
 simp only at ht
 constructor
 ·show(_,_,_,_)=_
  rw[cq (P:=2*t) (by show a*a-b * -b-c * -c-d * -d=_;grind),cq (P:=0) (by show a * -b+b*a+c * -d-d * -c=_;grind),cq (P:=0) (by show a * -c-b * -d+c*a+d * -b=_;grind),cq (P:=0) (by show a * -d+b * -c-c * -b+d*a=_;grind)]
 ·show(_,_,_,_)=_
  rw[cq (P:=2*t) (by show a*a - -b*b - -c*c - -d*d=_;grind),cq (P:=0) (by show a*b + -b*a + -c*d - -d*c=_;grind),cq (P:=0) (by show a*c - -b*d + -c*a + -d*b=_;grind),cq (P:=0) (by show a*d + -b*c - -c*b + -d*a=_;grind)]
theorem wx(q:Qd):av (cV q)=av q:=by unfold av cV;simp only[Int.neg_mul_neg]
theorem fu(x:Int):0<=x*x:=by
 rcases Int.le_total 0 x with h|h
 ·exact Xf h h
 ·have:=Xf (show 0 <= -x by omega) (show 0 <= -x by omega);rwa [Int.neg_mul_neg]at this
theorem eM(h:aq q):0<=av q:=by
 obtain⟨t,ht,e⟩:=cJ h
 have:=fu q.1;have:=fu q.2.1;have:=fu q.2.2.1;have:=fu q.2.2.2
 omega
theorem nC(h:x*x=0):x=0:=by rcases Xl.mp h with h|h<;>exact h
theorem tV(h:aq q)(g:av q=0):q=aE:=by
 obtain⟨t,ht,e⟩:=cJ h
 have:=fu q.1;have:=fu q.2.1;have:=fu q.2.2.1;have:=fu q.2.2.2
 exact cZ (nC (by omega)) (nC (by omega)) (nC (by omega)) (nC (by omega))
theorem gv(h:aq q)(g:q≠aE):0<av q:=by
 have:=eM h
 have:av q≠0:=fun z=>g (tV h z)
 omega
noncomputable def ik(x n:Int):Int:=(x+n).fdiv (2*n)*2
noncomputable def iU(x n:Int):Int:=x.fdiv (2*n)*2+1
noncomputable def iA(q:Qd)(n:Int):Qd:=(ik q.1 n,ik q.2.1 n,ik q.2.2.1 n,ik q.2.2.2 n)
noncomputable def jp(q:Qd)(n:Int):Qd:=(iU q.1 n,iU q.2.1 n,iU q.2.2.1 n,iU q.2.2.2 n)
noncomputable def gx(q t:Qd)(n:Int):Int:=av (bu q (aV t n))
noncomputable def eB(q:Qd)(n:Int):Qd:=if gx q (iA q n) n<=gx q (jp q n) n then iA q n else jp q n
theorem jr(h:0<n):(x-ik x n*n)*(x-ik x n*n)+(x-iU x n*n)*(x-iU x n*n)<=n*n:=by
 unfold ik iU
 rw[VL _ (by omega),VL _ (by omega)]
 have e:=Int.mul_ediv_add_emod x (2*n)
 have r0:=Int.emod_nonneg x (show 2*n≠0 by omega)
 have r1:=Int.emod_lt_of_pos x (show 0<2*n by omega)
 generalize x % (2*n)=r at *
 generalize hk:x / (2*n)=k at *
 have hx:x=2*n*k+r:=by omega
 by_cases hr:r<n
 ·have hd:(x+n) / (2*n)=k:=by
   rw[hx,show 2*n*k+r+n=(r+n)+2*n*k by omega,WT _ _ (by omega),Int.ediv_eq_zero_of_lt (by omega) (by omega)];omega
  rw[hd]
  have h1:x-k*2*n=r:=by rw[hx];grind
  have h2:x-(k*2+1)*n=r-n:=by rw[hx];grind
  rw[h1,h2]
  have:=Xf r0 (show 0<=n-r by omega)
  have e2:r*r+(r-n)*(r-n)=n*n-2*(r*(n-r)):=by grind
  omega
 ·have hd:(x+n) / (2*n)=k+1:=by
   rw[hx,show 2*n*k+r+n=(r-n)+2*n*(k+1) by grind,WT _ _ (by omega),Int.ediv_eq_zero_of_lt (by omega) (by omega)];omega
  rw[hd]
  have h1:x-(k+1)*2*n=r-2*n:=by rw[hx];grind
  have h2:x-(k*2+1)*n=r-n:=by rw[hx];grind
  rw[h1,h2]
  have:=Xf (show 0<=r-n by omega) (show 0<=2*n-r by omega)
  have e2:(r-2*n)*(r-2*n)+(r-n)*(r-n)=n*n-2*((r-n)*(2*n-r)):=by grind
  omega
theorem rz(q:Qd)(n:Int):aq (iA q n):=⟨0,(q.1+n).fdiv (2*n),(q.2.1+n).fdiv (2*n),(q.2.2.1+n).fdiv (2*n),(q.2.2.2+n).fdiv (2*n),.inl rfl,by simp only[iA,ik];omega,by simp only[iA,ik];omega,by simp only[iA,ik];omega,by simp only[iA,ik];omega⟩
theorem rq(q:Qd)(n:Int):aq (jp q n):=⟨1,q.1.fdiv (2*n),q.2.1.fdiv (2*n),q.2.2.1.fdiv (2*n),q.2.2.2.fdiv (2*n),.inr rfl,by simp only[jp,iU];omega,by simp only[jp,iU];omega,by simp only[jp,iU];omega,by simp only[jp,iU];omega⟩
theorem F6(h:aq q)(g:0<n):aq (eB q n)/\2*gx q (eB q n) n<=n*n:=by
 have c1:=jr (x:=q.1) g
 have c2:=jr (x:=q.2.1) g
 have c3:=jr (x:=q.2.2.1) g
 have c4:=jr (x:=q.2.2.2) g
 obtain⟨t1,h1,e1⟩:=cJ (cf h (d7 n (rz q n)))
 obtain⟨t2,h2,e2⟩:=cJ (cf h (d7 n (rq q n)))
 have s1:gx q (iA q n) n=t1:=e1
 have s2:gx q (jp q n) n=t2:=e2
 simp only[bu,aV,iA,jp]at h1 h2
 have:t1+t2<=n*n:=by omega
 unfold eB
 split
 ·exact⟨rz q n,by rw[s1]at *;omega⟩
 ·exact⟨rq q n,by rw[s2]at *;omega⟩
theorem yD(h:aq k)(g:0<n):eB (aV k n) n=k:=by
 have hp:=d7 n h
 obtain⟨e,x,y,z,w,he,h1,h2,h3,h4⟩:=h
 have ev:∀(a b:Int),a=2*b->ik (a*n) n=a:=fun a b hab=>by
  unfold ik
  rw[VL _ (by omega),hab,show 2*b*n+n=n+2*n*b by grind,WT _ _ (by omega),Int.ediv_eq_zero_of_lt (by omega) (by omega)];omega
 have od:∀(a b:Int),a=2*b+1->iU (a*n) n=a:=fun a b hab=>by
  unfold iU
  rw[VL _ (by omega),hab,show(2*b+1)*n=n+2*n*b by grind,WT _ _ (by omega),Int.ediv_eq_zero_of_lt (by omega) (by omega)];omega
 have eo:∀(a b:Int),a=2*b+1->a*n-ik (a*n) n*n = -n:=fun a b hab=>by
  unfold ik
  rw[VL _ (by omega),hab,show(2*b+1)*n+n=0+2*n*(b+1) by grind,WT _ _ (by omega),Int.zero_ediv];grind
 have zz:gx (aV k n) k n=0:=by
  unfold gx bu aV av
  simp only[Int.sub_self];decide
 rcases he with rfl|rfl
 ·have hev:iA (aV k n) n=k:=cZ (ev _ x (by omega)) (ev _ y (by omega)) (ev _ z (by omega)) (ev _ w (by omega))
  unfold eB
  rw[hev,zz,if_pos]
  exact eM (cf hp (d7 n (rq _ n)))
 ·have hod:jp (aV k n) n=k:=cZ (od _ x (by omega)) (od _ y (by omega)) (od _ z (by omega)) (od _ w (by omega))
  obtain⟨t,ht,e⟩:=cJ (cf hp (d7 n (rz (aV k n) n)))
  have s1:gx (aV k n) (iA (aV k n) n) n=t:=e
  simp only[bu,iA]at ht
  simp only[aV]at ht
  rw[eo _ x (by omega),eo _ y (by omega),eo _ z (by omega),eo _ w (by omega),Int.neg_mul_neg]at ht
  have:=Int.mul_pos g g
  unfold eB
  rw[hod,zz,s1,if_neg (by omega)]
noncomputable def dw(s:Bool)(p q:Qd):Qd:=eB (aL s p (cV q)) (av q)
noncomputable def dE(s:Bool)(p q:Qd):Qd:=bu p (aL s (dw s p q) q)
theorem oP(hp:aq p)(hq:aq q)(hk:aq k):aL s (bu p (aL s k q)) (cV q)=bu (aL s p (cV q)) (aV k (av q)):=by
 have hb:=en hq
 unfold aL
 cases s with
 | true =>
  simp only[WY]
  rw[ou hp (dy hk hq) hb,eD hk hq hb,(iW hq).1,eU]
 | false =>
  simp only[WQ,Xn]
  rw[oq hp (dy hq hk) hb,<- eD hb hq hk,(iW hq).2,gR]
theorem nA(hp:aq p)(hq:aq q):av (aL s p q)=av p*av q:=by
 unfold aL
 split
 ·exact iL hp hq
 ·rw[iL hq hp,Wb]
theorem mG(hp:aq p)(hq:aq q)(h0:q≠aE):aq (dw s p q)/\aq (dE s p q)/\2*av (dE s p q)<=av q:=by
 have hn:=gv hq h0
 obtain⟨hk,hs⟩:=F6 (cj (s:=s) hp (en hq)) hn
 have hr:aq (dE s p q):=cf hp (cj hk hq)
 refine⟨hk,hr,?_⟩
 have e:=nA (s:=s) hr (en hq)
 rw[wx]at e
 have e2:av (aL s (dE s p q) (cV q))=gx (aL s p (cV q)) (dw s p q) (av q):=by
  unfold dE gx
  rw[oP (k:=dw s p q) hp hq hk]
 rw[e]at e2
 have hs':2*(av (dE s p q)*av q)<=av q*av q:=by rw[e2];exact hs
 have h3:2*av (dE s p q)*av q<=av q*av q:=by rw[WC];exact hs'
 exact Int.le_of_mul_le_mul_right h3 hn
theorem Br(hp:aq p)(hq:aq q)(h0:q≠aE)(hk:aq k)(h:aL s p (cV q)=aV k (av q)):dw s p q=k/\dE s p q=aE:=by
 have hn:=gv hq h0
 have e1:dw s p q=k:=by unfold dw;rw[h,yD hk hn]
 have hr:aq (dE s p q):=cf hp (cj (by rw[e1];exact hk) hq)
 refine⟨e1,tV hr ?_⟩
 have e:=nA (s:=s) hr (en hq)
 have e2:=oP (s:=s) hp hq hk
 have e3:aL s (dE s p q) (cV q)=aE:=by
  unfold dE
  rw[e1,e2,h]
  unfold bu aE
  simp only[Int.sub_self]
 rw[e3,wx]at e
 have:av aE=0:=by decide
 rw[this]at e
 rcases Xl.mp e.symm with z|z
 ·exact z
 ·omega
abbrev Az(q t:Qd)(n:Int):Prop:=eS t/\n.natAbs<dn/\eS (bu q (aV t n))
abbrev CI(q:Qd)(n:Int):Prop:=0<n/\(2*n).natAbs<dn/\Az q (iA q n) n/\Az q (jp q n) n
abbrev okD(s:Bool)(p q:Qd):Prop:=eS p/\eS q/\eS (cV q)/\CI (aL s p (cV q)) (av q)/\eS (dw s p q)
theorem eF(h:df M q)(g:M<=N):df N q:=⟨Vl h.1 g,Vl h.2.1 g,Vl h.2.2.1 g,Vl h.2.2.2 g⟩
theorem xg(h:df M q):df M (cV q):=⟨h.1,by simp only[cV,Int.natAbs_neg];exact h.2.1,by simp only[cV,Int.natAbs_neg];exact h.2.2.1,by simp only[cV,Int.natAbs_neg];exact h.2.2.2⟩
theorem Gf(h:df M p)(g:df N q)(hp:aq p)(hq:aq q):df (2*(M*N)) (aL s p q):=by
 unfold aL;split
 ·exact rG h g hp hq
 ·rw[Nat.mul_comm M N];exact rG g h hq hp
theorem yF(h:x.natAbs<=M)(g:y.natAbs<=N):(x-y).natAbs<=M+N:=by omega
theorem yE(h:x.natAbs<=M)(g:y.natAbs<=N):(x+y).natAbs<=M+N:=by omega
theorem oY(h:df M p)(g:df N q):df (M+N) (bu p q):=⟨yF h.1 g.1,yF h.2.1 g.2.1,yF h.2.2.1 g.2.2.1,yF h.2.2.2 g.2.2.2⟩
theorem Ge(h:df M p)(g:df N q):df (M+N) (cv p q):=⟨yE h.1 g.1,yE h.2.1 g.2.1,yE h.2.2.1 g.2.2.1,yE h.2.2.2 g.2.2.2⟩
theorem uP(h:df M q)(g:n.natAbs<=N):df (M*N) (aV q n):=⟨bK h.1 g,bK h.2.1 g,bK h.2.2.1 g,bK h.2.2.2 g⟩
theorem xu(x:Int)(h:0<n):(x.fdiv n).natAbs<=x.natAbs:=by
 rw[VL _ (by omega)]
 exact Int.natAbs_ediv_le_natAbs x n
theorem AR(h:df M q)(g:n.natAbs<=N)(hn:0<n):df (2*(M+N)) (iA q n):=by
 have k:∀x:Int,x.natAbs<=M->(ik x n).natAbs<=2*(M+N):=fun x hx=>by
  have:=xu (x+n) (show 0<2*n by omega)
  unfold ik;omega
 exact⟨k _ h.1,k _ h.2.1,k _ h.2.2.1,k _ h.2.2.2⟩
theorem AQ(h:df M q)(hn:0<n):df (2*M+1) (jp q n):=by
 have k:∀x:Int,x.natAbs<=M->(iU x n).natAbs<=2*M+1:=fun x hx=>by
  have:=xu x (show 0<2*n by omega)
  unfold iU;omega
 exact⟨k _ h.1,k _ h.2.1,k _ h.2.2.1,k _ h.2.2.2⟩
theorem CO(h:df M q)(g:n.natAbs<=N)(hn:0<n):df (2*(M+N)+1) (eB q n):=by
 unfold eB;split
 ·exact eF (AR h g hn) (by omega)
 ·exact eF (AQ h hn) (by omega)
theorem Ag(h:df M q):(av q).natAbs<=M*M:=by
 obtain⟨a1,a2,a3,a4⟩:=h
 have c1:=bK a1 a1;have c2:=bK a2 a2;have c3:=bK a3 a3;have c4':=bK a4 a4
 unfold av
 rw[VL _ (by decide)]
 generalize q.1*q.1=x at *
 generalize q.2.1*q.2.1=y at *
 generalize q.2.2.1*q.2.2.1=z at *
 generalize q.2.2.2*q.2.2.2=w at *
 generalize M*M=K at *
 omega
theorem cS(h:df M q)(g:n.natAbs<=M)(hn:0<n)(hM:4*M+1+(4*M+1)*M<dn):CI q n:=by
 have hM0:4*M+1<dn:=VE (Wt _ _) hM
 have e1:df (4*M+1) (iA q n):=eF (AR h g hn) (by omega)
 have e2:df (4*M+1) (jp q n):=eF (AQ h hn) (by omega)
 refine⟨hn,by omega,⟨fk e1 hM0,by omega,?_⟩,fk e2 hM0,by omega,?_⟩
 ·exact fk (eF (oY h (uP e1 g)) (by omega)) hM
 ·exact fk (eF (oY h (uP e2 g)) (by omega)) hM
noncomputable def Dw(L:Nat):Prop:=1<=L/\4*(2*(L*L))+1+(4*(2*(L*L))+1)*(2*(L*L))<dn
theorem AC{L:Nat}(hp:aq p)(hq:aq q)(h0:q≠aE)(h:df L p)(g:df L q)(hL:Dw L):okD s p q:=by
 obtain⟨h1,hL⟩:=hL
 have hn:=gv hq h0
 have hLL:L<=L*L:=Nat.le_mul_of_pos_left L h1
 have hb:4*(2*(L*L))+1<dn:=VE (Wt _ _) hL
 have hLb:L<dn:=by omega
 have w:=Gf (s:=s) h (xg g) hp (en hq)
 have sz:=Ag g
 refine⟨fk h hLb,fk g hLb,fk (xg g) hLb,cS w (by omega) hn hL,?_⟩
 unfold dw
 exact fk (eF (CO w (N:=2*(L*L)) (by omega) hn) (by omega)) hb
theorem vJ{n:Nat}(h:n<=2000):Dw (2 ^ n):=by
 refine⟨W7,?_⟩
 have e:2 ^ n*2 ^ n=2 ^ (n+n):=(WB 2 n n).symm
 rw[e]
 have k:2 ^ (n+n)<=2 ^ 4000:=VJ (by decide) (by omega)
 generalize 2 ^ (n+n)=x at k
 have b1:(4*(2*x)+1)*(2*x)<=9*2 ^ 4000*(2*2 ^ 4000):=Nat.mul_le_mul (by have:1<=2 ^ 4000:=W7;omega) (by omega)
 have b2:9*2 ^ 4000*(2*2 ^ 4000)=18*2 ^ 8000:=by rw[show(8000:Nat)=4000+4000 from rfl,WB];generalize 2 ^ 4000=y;grind
 have b3:2 ^ 4000<=2 ^ 8000:=VJ (by decide) (by decide)
 have b4:32*2 ^ 8000=2 ^ 8005:=by rw[show(8005:Nat)=5+8000 from rfl,WB 2 5 8000]
 have b5:2 ^ 8005<dn:=VY (by decide) (by decide)
 have b6:1<=2 ^ 8000:=W7
 rw[b2]at b1
 generalize 2 ^ 4000=y at *
 generalize 2 ^ 8000=z at *
 generalize (4*(2*x)+1)*(2*x)=w at *
 omega
noncomputable def rS(q:Qd)(n:Int):Qd:=(q.1.fdiv n,q.2.1.fdiv n,q.2.2.1.fdiv n,q.2.2.2.fdiv n)
abbrev Jy(q:Qd)(n:Int):Prop:=q.1.fmod n=0/\q.2.1.fmod n=0/\q.2.2.1.fmod n=0/\q.2.2.2.fmod n=0
abbrev yx(q:Qd):Prop:=q.2.1.fmod 2=q.1.fmod 2/\q.2.2.1.fmod 2=q.1.fmod 2/\q.2.2.2.fmod 2=q.1.fmod 2
noncomputable def Bm(W:Qd)(n:Int):D:=if Jy W n/\yx (rS W n)then dq (rS W n)else .non
noncomputable def uS(s:Bool)(p q:Qd):D:=Bm (aL s p (cV q)) (av q)
theorem oX:yx q↔aq q:=by
 rw[jU];unfold yx;simp only[Wi _ (show(0:Int)<=2 by decide)]
theorem cz(a:Int)(h:0<n):(a*n).fmod n=0/\(a*n).fdiv n=a:=by
 rw[Wi _ (by omega),VL _ (by omega)]
 exact⟨Int.mul_emod_left _ _,Int.mul_ediv_cancel _ (by omega)⟩
theorem GN{W:Qd}(hn:0<n)(hk:aq k)(h:W=aV k n):Bm W n=dq k:=by
 subst h
 have hd:rS (aV k n) n=k:=cZ (cz _ hn).2 (cz _ hn).2 (cz _ hn).2 (cz _ hn).2
 unfold Bm
 rw[hd,if_pos ⟨⟨(cz _ hn).1,(cz _ hn).1,(cz _ hn).1,(cz _ hn).1⟩,oX.mpr hk⟩]
theorem Dh{W:Qd}(hn:0<n):(∃k,aq k/\W=aV k n/\Bm W n=dq k)\/(Bm W n=.non/\∀k,aq k->W≠aV k n):=by
 by_cases h:Jy W n/\yx (rS W n)
 ·refine .inl ⟨rS W n,oX.mp h.2,?_,if_pos h⟩
  have e:∀x:Int,x.fmod n=0->x=x.fdiv n*n:=fun x hx=>by
   have:=Int.mul_fdiv_add_fmod x n
   rw[hx,Int.add_zero,Wb]at this;exact this.symm
  exact cZ (e _ h.1.1) (e _ h.1.2.1) (e _ h.1.2.2.1) (e _ h.1.2.2.2)
 ·refine .inr ⟨if_neg h,fun k hk e=>h ?_⟩
  have hd:rS (aV k n) n=k:=cZ (cz _ hn).2 (cz _ hn).2 (cz _ hn).2 (cz _ hn).2
  subst e
  exact⟨⟨(cz _ hn).1,(cz _ hn).1,(cz _ hn).1,(cz _ hn).1⟩,by rw[hd];exact oX.mpr hk⟩
theorem sZ(x:Int):(x.natAbs:Int)<=x*x:=by
 rw[<- Int.natAbs_mul_self' x]
 have:x.natAbs<=x.natAbs*x.natAbs:=by
  rcases We x.natAbs with h|h
  ·omega
  ·exact Nat.le_mul_of_pos_left _ h
 exact_mod_cast this
theorem mq{K:Nat}(h:aq q)(g:av q<=K):df (4*K) q:=by
 obtain⟨t,ht,e⟩:=cJ h
 rw[e]at g
 have s1:=fu q.1;have s2:=fu q.2.1;have s3:=fu q.2.2.1;have s4:=fu q.2.2.2
 have r1:=sZ q.1;have r2:=sZ q.2.1;have r3:=sZ q.2.2.1;have r4:=sZ q.2.2.2
 refine⟨?_,?_,?_,?_⟩<;>omega
noncomputable def rN(s:Bool)(p q:Qd):D:=if dE s p q=aE then dq (dw s p q)else .non
theorem CW(h:bu p q=aE):p=q:=by
 unfold bu aE at h
 have h1:=V0 (·.1) h
 have h2:=V0 (·.2.1) h
 have h3:=V0 (·.2.2.1) h
 have h4:=V0 (·.2.2.2) h
 simp only at h1 h2 h3 h4
 exact cZ (by omega) (by omega) (by omega) (by omega)
theorem nM(q:Qd):aT aE q=aE/\aT q aE=aE:=by
 unfold aT aE
 simp only[Int.zero_mul,Int.mul_zero,Int.sub_zero,Int.add_zero]
 exact⟨by decide,by decide⟩
theorem j8(s:Bool)(q:Qd):aL s aE q=aE:=by
 unfold aL;split
 ·exact(nM q).1
 ·exact(nM q).2
theorem GL(hp:aq p)(hq:aq q)(h0:q≠aE):rN s p q=uS s p q:=by
 obtain⟨d1,d2,_⟩:=mG (s:=s) hp hq h0
 rcases Dh (W:=aL s p (cV q)) (gv hq h0)with⟨k,k1,k2,k3⟩|⟨k1,k2⟩
 ·obtain⟨e1,e2⟩:=Br hp hq h0 k1 k2
  unfold rN uS
  rw[if_pos e2,e1,k3]
 ·unfold uS
  rw[k1]
  refine if_neg fun e=>k2 _ d1 (CW ?_)
  rw[<- oP hp hq d1]
  show aL s (dE s p q) (cV q)=_
  rw[e,j8]
theorem Dx(hq:aq q):aL s q (cV q)=aV cR (av q):=by
 have e:aV cR (av q)=(2*av q,0,0,0):=by unfold aV cR;simp
 rw[e]
 unfold aL;split
 ·exact(iW hq).1
 ·exact(iW hq).2
theorem qh(h:aq p)(k:aq r)(g:aq q):aT (cv p r) q=cv (aT p q) (aT r q):=by
 obtain⟨P,Q,R,S,hP,hQ,hR,hS,_,e1⟩:=cx h g
 obtain⟨U,V,W,X,hU,hV,hW,hX,_,e2⟩:=cx k g
 obtain⟨P3,Q3,R3,S3,lP,lQ,lR,lS,_,e3⟩:=cx (gC h k) g
 rw[e1,e2,e3]
 simp only[cv]at *
 clear e1 e2 e3 h k g
 refine cZ ?_ ?_ ?_ ?_
 ·show P3=P+U;grind
 ·show Q3=Q+V;grind
 ·show R3=R+W;grind
 ·show S3=S+X;grind
theorem qg(h:aq p)(k:aq r)(g:aq q):aT q (cv p r)=cv (aT q p) (aT q r):=by
 obtain⟨P,Q,R,S,hP,hQ,hR,hS,_,e1⟩:=cx g h
 obtain⟨U,V,W,X,hU,hV,hW,hX,_,e2⟩:=cx g k
 obtain⟨P3,Q3,R3,S3,lP,lQ,lR,lS,_,e3⟩:=cx g (gC h k)
 rw[e1,e2,e3]
 simp only[cv]at *
 clear e1 e2 e3 h k g
 refine cZ ?_ ?_ ?_ ?_
 ·show P3=P+U;grind
 ·show Q3=Q+V;grind
 ·show R3=R+W;grind
 ·show S3=S+X;grind
theorem sQ(h:aq p)(k:aq r)(g:aq q):aL s (cv p r) q=cv (aL s p q) (aL s r q):=by
 unfold aL;cases s
 ·exact qg h k g
 ·exact qh h k g
theorem sP(h:aq p)(k:aq r)(g:aq q):aL s q (cv p r)=cv (aL s q p) (aL s q r):=by
 unfold aL;cases s
 ·exact qh h k g
 ·exact qg h k g
theorem kT(h:aq p)(k:aq r)(g:aq q):aL s (bu p r) q=bu (aL s p q) (aL s r q):=by
 unfold aL;cases s
 ·exact oq h k g
 ·exact ou h k g
theorem il(h:aq p)(g:aq q)(k:aq r):aL s (aL s p q) r=aL s p (aL s q r):=by
 unfold aL;cases s
 ·exact(eD k g h).symm
 ·exact eD h g k
theorem n5(s:Bool)(q:Qd):aL s cR q=q:=by
 unfold aL;cases s
 ·exact CL q
 ·exact uE q
theorem Dy(s:Bool)(q:Qd):aL s q aE=aE:=by
 unfold aL;split
 ·exact(nM q).2
 ·exact(nM q).1
abbrev fG:=Qd×Qd×Qd
structure n8(s:Bool)(p q:Qd)(r:fG):Prop where
 h0:aq r.1
 h1:aq r.2.1
 h2:aq r.2.2
 sum:cv (aL s r.2.1 p) (aL s r.2.2 q)=r.1
noncomputable def tm(s:Bool)(a b:fG):fG:=(bu a.1 (aL s (dw s a.1 b.1) b.1),bu a.2.1 (aL s (dw s a.1 b.1) b.2.1),bu a.2.2 (aL s (dw s a.1 b.1) b.2.2))
theorem F5{a b:fG}(hp:aq p)(hq:aq q)(ha:n8 s p q a)(hb:n8 s p q b)(h0:b.1≠aE):n8 s p q (tm s a b):=by
 obtain⟨d1,d2,_⟩:=mG (s:=s) ha.h0 hb.h0 h0
 refine⟨cf ha.h0 (cj d1 hb.h0),cf ha.h1 (cj d1 hb.h1),cf ha.h2 (cj d1 hb.h2),?_⟩
 show cv (aL s (bu a.2.1 (aL s (dw s a.1 b.1) b.2.1)) p) (aL s (bu a.2.2 (aL s (dw s a.1 b.1) b.2.2)) q)=bu a.1 (aL s (dw s a.1 b.1) b.1)
 generalize dw s a.1 b.1=k at *
 rw[kT ha.h1 (cj d1 hb.h1) hp,kT ha.h2 (cj d1 hb.h2) hq,il d1 hb.h1 hp,il d1 hb.h2 hq]
 rw[<- ha.sum]
 conv=>rhs;rw[<- hb.sum]
 rw[sP (cj hb.h1 hp) (cj hb.h2 hq) d1]
 unfold cv bu
 exact cZ (by simp only;omega) (by simp only;omega) (by simp only;omega) (by simp only;omega)
noncomputable def tG(s:Bool)(p a b:Qd):Prop:=∃u v,aq u/\aq v/\p=cv (aL s u a) (aL s v b)
theorem pV{a b:Qd}(ha:aq a)(hb:aq b)(hk:aq k)(h:tG s p a b):tG s p b (bu a (aL s k b)):=by
 obtain⟨u,v,hu,hv,rfl⟩:=h
 refine⟨cv (aL s u k) v,u,gC (cj hu hk) hv,hu,?_⟩
 rw[sQ (cj hu hk) hv hb,il hu hk hb]
 have e:aL s u a=cv (aL s u (aL s k b)) (aL s u (bu a (aL s k b))):=by
  rw[<- sP (cj hk hb) (cf ha (cj hk hb)) hu]
  congr 1
  unfold cv bu
  exact cZ (by simp only;omega) (by simp only;omega) (by simp only;omega) (by simp only;omega)
 rw[e]
 unfold cv
 exact cZ (by simp only;omega) (by simp only;omega) (by simp only;omega) (by simp only;omega)
theorem ww(hp:aq p)(hq:aq q):av (bu p q)<=2*av p+2*av q:=by
 obtain⟨t1,h1,e1⟩:=cJ hp
 obtain⟨t2,h2,e2⟩:=cJ hq
 obtain⟨t3,h3,e3⟩:=cJ (cf hp hq)
 rw[e1,e2,e3]
 simp only[bu]at h3
 have k:∀x y:Int,(x-y)*(x-y)<=2*(x*x)+2*(y*y):=fun x y=>by
  have:=fu (x+y)
  have e:(x-y)*(x-y)=2*(x*x)+2*(y*y)-(x+y)*(x+y):=by grind
  omega
 have:=k p.1 q.1;have:=k p.2.1 q.2.1;have:=k p.2.2.1 q.2.2.1;have:=k p.2.2.2 q.2.2.2
 omega
theorem II{a b:Qd}(ha:aq a)(hb:aq b)(h0:b≠aE):av (dw s a b)*av b<=2*av a+av b:=by
 obtain⟨d1,d2,d3⟩:=mG (s:=s) ha hb h0
 rw[<- nA (s:=s) d1 hb]
 have e:aL s (dw s a b) b=bu a (dE s a b):=by unfold dE bu;exact cZ (by simp only;omega) (by simp only;omega) (by simp only;omega) (by simp only;omega)
 rw[e]
 have:=ww ha d2
 omega
structure Gr(E A B Na Nb:Int):Prop where
 a:A<=E
 b:B<=E
 ba:B*Na<=E
 ab:A*Nb<=E
 bb:B*Nb<=E
theorem xq{a b x y:Qd}{E:Int}(ha:aq a)(hb:aq b)(hx:aq x)(hy:aq y)(h0:b≠aE)(hE:0<=E)(g:Gr E (av x) (av y) (av a) (av b)) :
  Gr (8*E) (av y) (av (bu x (aL s (dw s a b) y))) (av b) (av (dE s a b)):=by
 obtain⟨d1,d2,d3⟩:=mG (s:=s) ha hb h0
 have nb:=gv hb h0
 have nx:=eM hx;have ny:=eM hy;have nr:=eM d2;have na:=eM ha
 have q1:=II (s:=s) ha hb h0
 have l1:=ww hx (cj (s:=s) d1 hy)
 rw[nA d1 hy]at l1
 have nz:=eM (cf hx (cj (s:=s) d1 hy))
 generalize av (bu x (aL s (dw s a b) y))=z at *
 generalize av (dw s a b)=k at *
 generalize av (dE s a b)=r at *
 generalize av a=Na at *
 generalize av b=Nb at *
 generalize av x=X at *
 generalize av y=Y at *
 obtain⟨g1,g2,g3,g4,g5⟩:=g
 have m1:k*Y*Nb<=2*(Y*Na)+Y*Nb:=by
  have:=Vz q1 ny
  have e1:Y*(k*Nb)=k*Y*Nb:=by grind
  have e2:Y*(2*Na+Nb)=2*(Y*Na)+Y*Nb:=by grind
  omega
 have m2:z*Nb<=8*E:=by
  have:=Int.mul_le_mul_of_nonneg_right l1 (show 0<=Nb by omega)
  have e1:(2*X+2*(k*Y))*Nb=2*(X*Nb)+2*(k*Y*Nb):=by grind
  omega
 have m3:z<=z*Nb:=by
  have:=Vz (show 1<=Nb by omega) nz
  omega
 have m4:Y*r<=Y*Nb:=Vz (by omega) ny
 have m5:z*r<=z*Nb:=Vz (by omega) nz
 exact⟨by omega,by omega,m2,by omega,by omega⟩
noncomputable def KN:Nat:=2 ^ 800
noncomputable def EM:Nat:=2 ^ 3400
theorem Lu:Dw (4*KN):=by
 have:4*KN=2 ^ 802:=by unfold KN;rw[show(802:Nat)=2+800 from rfl,WB]
 rw[this];exact vJ (by decide)
theorem B5:4*EM<dn:=by
 have:4*EM=2 ^ 3402:=by unfold EM;rw[show(3402:Nat)=2+3400 from rfl,WB]
 rw[this];exact VY (by decide) (by decide)
theorem LQ:1<=KN:=W7
theorem NJ:KN*8 ^ 801<=EM:=by
 unfold KN EM
 rw[show(8:Nat)=2 ^ 3 from rfl,<- Nat.pow_mul,<- WB]
 exact VJ (by decide) (by decide)
structure im(s:Bool)(p q:Qd)(m E:Nat)(a b:fG):Prop where
 ra:n8 s p q a
 rb:n8 s p q b
 sp:tG s p a.1 b.1
 sq:tG s q a.1 b.1
 lt:av b.1<((2 ^ m:Nat):Int)
 ka:av a.1<=(KN:Nat)
 kb:av b.1<=(KN:Nat)
 gs:Gr (E:Nat) (av a.2.1) (av b.2.1) (av a.1) (av b.1)
 gt:Gr (E:Nat) (av a.2.2) (av b.2.2) (av a.1) (av b.1)
 em:E*8 ^ m<=EM
theorem im.step{a b:fG}(hp:aq p)(hq:aq q)(h:im s p q m E a b)(h0:b.1≠aE):∃m',m=m'+1/\im s p q m' (8*E) b (tm s a b):=by
 obtain⟨d1,d2,d3⟩:=mG (s:=s) h.ra.h0 h.rb.h0 h0
 have nb:=gv h.rb.h0 h0
 have hm:m≠0:=fun z=>by have:=h.lt;subst z;simp at this;omega
 obtain⟨m',rfl⟩:∃k,m=k+1:=⟨m-1,by omega⟩
 refine⟨m',rfl,h.rb,F5 hp hq h.ra h.rb h0,pV h.ra.h0 h.rb.h0 d1 h.sp,pV h.ra.h0 h.rb.h0 d1 h.sq,?_,h.kb,?_,?_,?_,?_⟩
 ·show av (dE s a.1 b.1)<_
  have:=h.lt
  rw[Nat.pow_succ]at this
  omega
 ·show av (dE s a.1 b.1)<=_
  have:=h.kb
  omega
 ·have:=xq (s:=s) h.ra.h0 h.rb.h0 h.ra.h1 h.rb.h1 h0 (Int.natCast_nonneg E) h.gs
  rw[Int.natCast_mul];exact this
 ·have:=xq (s:=s) h.ra.h0 h.rb.h0 h.ra.h2 h.rb.h2 h0 (Int.natCast_nonneg E) h.gt
  rw[Int.natCast_mul];exact this
 ·have:=h.em
  rw[Nat.pow_succ]at this
  rw[show 8*E*8 ^ m'=E*(8 ^ m'*8) by grind];exact this
theorem im.E_le{a b:fG}(h:im s p q m E a b):E<=EM:=Vl (Nat.le_mul_of_pos_right E (Nat.pow_pos (by decide))) h.em
theorem im.bd{a b:fG}(h:im s p q m E a b)(h0:b.1≠aE):okD s a.1 b.1/\eS b.1/\eS b.2.1/\eS b.2.2:=by
 have la:=mq h.ra.h0 h.ka
 have lb:=mq h.rb.h0 h.kb
 have k:=AC (s:=s) h.ra.h0 h.rb.h0 h0 la lb Lu
 have e:=h.E_le
 have b1:=h.gs.b
 have b2:=h.gt.b
 exact⟨k,k.2.1,fk (mq (K:=EM) h.rb.h1 (by omega)) B5,fk (mq (K:=EM) h.rb.h2 (by omega)) B5⟩
theorem im.start(hp:aq p)(hq:aq q)(kp:av p<=(KN:Nat))(kq:av q<=(KN:Nat)):im s p q 801 KN (p,cR,aE) (q,aE,cR):=by
 have hk:=LQ
 have s1:av cR=1:=by decide
 have s0:av aE=0:=by decide
 have np:=eM hp
 have nq:=eM hq
 refine⟨⟨hp,kA,fM,?_⟩,⟨hq,fM,kA,?_⟩,⟨cR,aE,kA,fM,?_⟩,⟨aE,cR,fM,kA,?_⟩,?_,kp,kq,?_,?_,NJ⟩
 ·show cv (aL s cR p) (aL s aE q)=p
  rw[n5,j8];unfold cv aE;exact cZ (by simp) (by simp) (by simp) (by simp)
 ·show cv (aL s aE p) (aL s cR q)=q
  rw[n5,j8];unfold cv aE;exact cZ (by simp) (by simp) (by simp) (by simp)
 ·show p=cv (aL s cR p) (aL s aE q)
  rw[n5,j8];unfold cv aE;exact cZ (by simp) (by simp) (by simp) (by simp)
 ·show q=cv (aL s aE p) (aL s cR q)
  rw[n5,j8];unfold cv aE;exact cZ (by simp) (by simp) (by simp) (by simp)
 ·show av q<((2 ^ 801:Nat):Int)
  have:KN<2 ^ 801:=VY (by decide) (by decide)
  omega
 ·show Gr _ (av cR) (av aE) (av p) (av q)
  rw[s1,s0]
  exact⟨by omega,by omega,by omega,by omega,by omega⟩
 ·show Gr _ (av aE) (av cR) (av p) (av q)
  rw[s1,s0]
  exact⟨by omega,by omega,by omega,by omega,by omega⟩
structure Fd(s:Bool)(p q:Qd)(a:fG):Prop where
 ra:n8 s p q a
 dp:∃u,aq u/\p=aL s u a.1
 dq':∃u,aq u/\q=aL s u a.1
 k0:av a.1<=(KN:Nat)
 k1:av a.2.1<=(EM:Nat)
 k2:av a.2.2<=(EM:Nat)
theorem im.fin{a b:fG}(h:im s p q m E a b)(h0:b.1=aE):Fd s p q a:=by
 have sp:=h.sp
 have sq:=h.sq
 rw[h0]at sp sq
 have e:=h.E_le
 have b1:=h.gs.a
 have b2:=h.gt.a
 have z:∀u v:Qd,cv (aL s u a.1) (aL s v aE)=aL s u a.1:=fun u v=>by
  rw[Dy];unfold cv aE;exact cZ (by simp) (by simp) (by simp) (by simp)
 obtain⟨u,v,hu,hv,e1⟩:=sp
 obtain⟨u',v',hu',hv',e2⟩:=sq
 exact⟨h.ra,⟨u,hu,by rw[e1,z]⟩,⟨u',hu',by rw[e2,z]⟩,h.ka,by omega,by omega⟩
theorem AO(n:Int):aV cR n=(2*n,0,0,0):=by unfold aV cR;simp
theorem CV{u:Qd}(hu:aq u)(hd:aq d)(h0:d≠aE)(h:p=aL s u d):uS s p d=dq u:=by
 unfold uS
 refine GN (gv hd h0) hu ?_
 rw[h,il hu hd (en hd),Dx hd,AO]
 unfold aL;split
 ·exact eU u _
 ·exact gR u _
noncomputable def UR(s:Bool):Str:=match s with|true => "right" | false => "left"
noncomputable def jQ(x:Str):Option Bool:=if x=Str.ofString "right" then some true else if x=Str.ofString "left" then some false else none
noncomputable def uf(s:Bool):D:=.str (UR s)
noncomputable def Bs:Dc Bool:=⟨fun | .str x=>jQ x|_=>none,uf,fun x a h=>by
 cases x<;>try cases h
 rename_i x
 replace h:jQ x=some a:=h
 unfold jQ at h
 split at h
 ·rename_i e;cases h;rw[e];rfl
 ·split at h
  ·rename_i e;cases h;rw[e];rfl
  ·cases h⟩
theorem vI(c:Int):c.fmod 2=0\/c.fmod 2=1:=by
 have g0:=VI c (show(0:Int)<2 by decide)
 have g1:=VR c (show(0:Int)<2 by decide)
 omega
noncomputable def dR(r:fG):D:=.tup [dq r.1,dq r.2.1,dq r.2.2]
noncomputable def jn(s:Bool):Nat->fG->fG->fG
 | 0,a,_=>a
 | n+1,a,b=>if b.1=aE then a else jn s n b (tm s a b)
noncomputable def kH(s:Bool)(p q:Qd):fG:=jn s 801 (p,cR,aE) (q,aE,cR)
theorem oJ{a b:fG}(h:b.1=aE):jn s m a b=a:=by
 cases m with
 | zero=>rfl
 | succ m=>exact if_pos h
theorem lN{a b:fG}(h:b.1≠aE):jn s (m+1) a b=jn s m b (tm s a b):=if_neg h
theorem Fj(hp:aq p)(hq:aq q):∀{m E:Nat} {a b:fG},im s p q m E a b->Fd s p q (jn s m a b):=by
 intro m
 induction m with
 | zero =>
  intro E a b h
  by_cases h0:b.1=aE
  ·exact h.fin h0
  ·obtain⟨m',z,_⟩:=h.step hp hq h0;cases z
 | succ m ih =>
  intro E a b h
  by_cases h0:b.1=aE
  ·rw[oJ h0];exact h.fin h0
  ·obtain⟨m',z,h1⟩:=h.step hp hq h0
   cases z
   rw[lN h0]
   exact ih h1
noncomputable def okG(p q:Qd):Prop:=aq p/\aq q/\av p<=(KN:Nat)/\av q<=(KN:Nat)
theorem JZ(h:okG p q):Fd s p q (kH s p q):=Fj h.1 h.2.1 (im.start h.1 h.2.1 h.2.2.1 h.2.2.2)
noncomputable def Dv(s:Bool)(d p:Qd):Prop:=∃u,aq u/\p=aL s u d
theorem Dv.sum(hd:aq d)(h:Dv s d p)(g:Dv s d q):Dv s d (cv p q):=by
 obtain⟨u,hu,rfl⟩:=h
 obtain⟨v,hv,rfl⟩:=g
 exact⟨cv u v,gC hu hv,(sQ hu hv hd).symm⟩
theorem Dv.less(hd:aq d)(h:Dv s d p)(g:Dv s d q):Dv s d (bu p q):=by
 obtain⟨u,hu,rfl⟩:=h
 obtain⟨v,hv,rfl⟩:=g
 exact⟨bu u v,cf hu hv,(kT hu hv hd).symm⟩
theorem Dv.mul(hd:aq d)(hk:aq k)(h:Dv s d p):Dv s d (aL s k p):=by
 obtain⟨u,hu,rfl⟩:=h
 exact⟨aL s k u,cj hk hu,(il hk hu hd).symm⟩
theorem Mt{n:Nat}(h:av q<=((2 ^ n:Nat):Int))(hn:n<=800):av q<=(KN:Nat):=by
 have:2 ^ n<=KN:=VJ (by decide) hn
 omega
theorem uH(h:a=b):(!cU (.int a) (.int b))=false:=by rw[h];simp
theorem Nv(h:p=q):cU (dq p) (dq q)=true:=by simp[h]
theorem dY{a b:Expr}{op:Operator}{p:Pos}{it:Bool}{x y:D}{k j:Nat}{r:D×Nat}(ha:ac (az Φ a false sc ρ) (x,k))(hb:ac (az Φ b false sc ρ) (y,j))(h:ac (rV op x y k j) r):ac (az Φ (.BinOp a op b p) it sc ρ) r:=ac.bnd ha (ac.bnd hb h)
theorem kU{α:Type}{f:α->D}{l:List α}{i:Int}(h0:0<=i)(h1:i<l.length):∃x∈l,L2.atI (l.map f) i=some (f x):=by
 obtain⟨j,rfl⟩:=WL h0
 have hj:j<l.length:=by omega
 exact⟨l[j],List.getElem_mem _,xH (by simp[hj])⟩
noncomputable def gQ(n:Nat)(q:Qd):Prop:=aq q/\df (2 ^ n) q
theorem gQ.mono{n:Nat}(h:gQ m q)(g:m<=n):gQ n q:=⟨h.1,eF h.2 (VJ (by decide) g)⟩
theorem gQ.bd{n:Nat}(h:gQ n q)(g:n<9000):eS q:=fk h.2 (VY (by decide) g)
theorem gQ.mul{n:Nat}(h:gQ m p)(g:gQ n q):gQ (m+n+1) (aT p q):=by
 refine⟨dy h.1 g.1,?_⟩
 have:=rG h.2 g.2 h.1 g.1
 rwa [show 2*(2 ^ m*2 ^ n)=2 ^ (m+n+1) by rw[Nat.pow_succ,WB];omega]at this
theorem gQ.sum{n:Nat}(h:gQ n p)(g:gQ n q):gQ (n+1) (cv p q):=⟨gC h.1 g.1,by rw[Nat.pow_succ,Nat.mul_two];exact Ge h.2 g.2⟩
theorem gQ.less{n:Nat}(h:gQ n p)(g:gQ n q):gQ (n+1) (bu p q):=⟨cf h.1 g.1,by rw[Nat.pow_succ,Nat.mul_two];exact oY h.2 g.2⟩
noncomputable def v5(Φ:Fx)(sc:Scope)(tg:Expr)(body ss:List Stmt)(r:D):List D->af->Prop
 | [],ρ=>ac (aD Φ ss sc ρ) (.rt r)
 | d::l,ρ => ∃ρ1,bJ sc tg d ρ=some ρ1/\((∃ρ2,ac (aD Φ body sc ρ1) (.nx ρ2)/\v5 Φ sc tg body ss r l ρ2)\/ac (aD Φ body sc ρ1) (.rt r))
theorem wA{ss:List Stmt}{tg it:Expr}{p:Pos}{d r:D}(ds:List D){k:Nat}(hi:ac (az Φ it true sc (demote it ρ)) (d,k))(h:v5 Φ sc tg body ss r ds (demote it ρ))(hd:items d=some ds:=by rfl)(hk:k<=1:=by first|exact Vf 1|exact Vm 1)(ht:eh it tg=true:=by rfl):ac (aD Φ (.For tg it body [] p::ss) sc ρ) (.rt r):=by
 obtain⟨r',h1,rfl⟩:=Fv (ds:=ds) (fun ds ρ=>v5 Φ sc tg body ss r ds ρ) (fun r'=>r'=r) hi h (fun d l ρ ⟨ρ1,h1,h2⟩=>⟨ρ1,h1,by
  rcases h2 with h2|h2
  ·exact .inl h2
  ·exact .inr ⟨r,h2,rfl⟩⟩) (fun ρ' h=>⟨r,h,rfl⟩) hd hk ht
 exact h1
theorem qJ{n:Nat}(h:n<=2 ^ m)(hm:m<9000):n<dn:=VE h (VY (by decide) hm)
open Builtin.Int (intBits)
noncomputable def dW:Nat->List Int->Nat
 | g,[]=>g
 | g,n::r=>dW (Nat.gcd g n.natAbs) r
@[irreducible] noncomputable def yT(l:List D):Int:=(dW 0 (pT l):Nat)
noncomputable def Ay(l:List D):Prop:=∃ns:List Int,l=ns.map D.int/\ns.length<=100/\∀n∈ns,n.natAbs<2 ^ 1000
theorem Jt{l:List D}(h:Ay l):Ay l:=h
theorem vc(ns:List Int):yT (ns.map D.int)=(dW 0 ns:Nat):=by unfold yT;rw[pS]
theorem kI:∀(ns:List Int) (g:Nat),dW g ns∣g/\∀n∈ns,dW g ns∣n.natAbs
 | [],g=>⟨Nat.dvd_refl _,fun n h=>by cases h⟩
 | n::r,g=>by
  obtain⟨h1,h2⟩:=kI r (Nat.gcd g n.natAbs)
  refine⟨Nat.dvd_trans h1 (Nat.gcd_dvd_left _ _),fun m hm=>?_⟩
  rcases Ve.mp hm with rfl|hm
  ·exact Nat.dvd_trans h1 (Nat.gcd_dvd_right _ _)
  ·exact h2 m hm
theorem Bf(h:n∈ns):((dW 0 ns:Nat):Int)∣n:=Int.ofNat_dvd_left.mpr ((kI ns 0).2 n h)
theorem u8(h:n∈ns)(h0:n≠0):0<dW 0 ns:=by
 rcases We (dW 0 ns)with e|e
 ·have:=(kI ns 0).2 n h
  rw[e]at this
  have:=Nat.eq_zero_of_zero_dvd this
  omega
 ·exact e
theorem S8{m:Int}(h:n∈ns)(h0:n≠0)(hm:m∈ns):m=(dW 0 ns:Nat)*m.fdiv (dW 0 ns:Nat):=by
 obtain⟨u,e⟩:=Bf hm
 have hp:=u8 h h0
 generalize dW 0 ns=g at *
 rw[e,Int.mul_fdiv_cancel_left _ (by omega)]
theorem u9(c:Nat):∀(ns:List Int) (g:Nat),dW (c*g) (ns.map fun m=>(c:Int)*m)=c*dW g ns
 | [],g=>rfl
 | n::r,g=>by
  show dW (Nat.gcd (c*g) ((c:Int)*n).natAbs) _=_
  rw[Int.natAbs_mul,Int.natAbs_natCast,Nat.gcd_mul_left]
  exact u9 c r _
theorem GA(h:n∈ns)(h0:n≠0):dW 0 ns<=n.natAbs:=Nat.le_of_dvd (by omega) ((kI ns 0).2 n h)
theorem U3(d:D):kn d 1<=1:=by rcases M7 (d:=d) (k:=1)with q|q<;>omega
noncomputable def B4(a b m:Nat):Prop:=(b<=a/\a*b<2 ^ m)\/(a<b/\a*b<2 ^ (m-1)/\1<=m)
theorem xz{a b:Nat}(h:B4 a b m)(h0:b≠0):∃m',m' < m/\B4 b (a % b) m':=by
 rcases h with⟨h1,h2⟩|⟨h1,h2,h3⟩
 ·have hm:1<=m:=by
   rcases We m with e|e
   ·subst e
    have:1*1<=a*b:=Nat.mul_le_mul (by omega) (by omega)
    omega
   ·exact e
  refine⟨m-1,by omega,.inl ⟨Xm (Nat.mod_lt _ (by omega)),?_⟩⟩
  have e:2 ^ m=2*2 ^ (m-1):=by rw[<- Nat.pow_succ'];congr 1;omega
  rw[e]at h2
  have hk:b+a % b<=a:=by
   have:=Nat.div_add_mod a b
   have q:1<=a / b:=(Nat.one_le_div_iff (by omega)).mpr h1
   have:=Nat.mul_le_mul_left b q
   omega
  have hlt:=Nat.mod_lt a (show 0<b by omega)
  have:b*(a % b)+b*(a % b)<=a*b:=by
   rw[<- Nat.mul_add,Nat.mul_comm a b]
   exact Nat.mul_le_mul_left b (by omega)
  omega
 ·refine⟨m-1,by omega,.inl ?_⟩
  rw[Nat.mod_eq_of_lt h1,Nat.mul_comm]
  exact⟨Xm h1,h2⟩
theorem Kr{a b:Nat}(ha:a<2 ^ 1000)(hb:b<2 ^ 1000):B4 a b 2002:=by
 have h:a*b<2 ^ 2001:=Vj (Nat.mul_lt_mul'' ha hb) (by rw[<- WB];exact VJ (by decide) (by decide))
 rcases Wy a b with q|q
 ·exact .inr ⟨q,h,by decide⟩
 ·exact .inl ⟨q,Xq h (VY (by decide) (by decide))⟩
theorem Bi(a b:Nat):(a:Int).fmod b=((a % b:Nat):Int):=by
 rw[Wi _ (by omega)];rfl
theorem LW{c:Expr}{p:Pos}{P:af->Prop}(aj:Nat->af->Prop)(h0:aj m ρ)(hm:m<bO)
  (step:∀m ρ,aj m ρ->∃b k,ac (az Φ c false sc ρ) (.bl b,k)/\(b=true->∃m' ρ2,m' < m/\ac (aD Φ body sc ρ) (.nx ρ2)/\aj m' ρ2)) (rest:∀m ρ',aj m ρ'->(∃k,ac (az Φ c false sc ρ') (.bl false,k))->P ρ'):∃ρ',ac (aD Φ [.While c body [] p] sc ρ) (.nx ρ')/\P ρ':=by
 obtain⟨m',ρ',h1,h2,h3⟩:=tQ (test:=fun ρ=>(az Φ c false sc ρ).bnd fun p=>jz p fun b=>.ok b []) (body:=aD Φ body sc) aj (fun m ρ h=>by
  obtain⟨b,k,a1,a2⟩:=step m ρ h
  exact⟨b,a1.bnd (jI rfl cX),a2⟩) h0 hm
 obtain⟨q,h4,h5⟩:=ax h3
 obtain⟨t,ht,h5⟩:=hJ h5
 cases aJ h5
 obtain⟨q1,q2⟩:=q
 have ht:q1=.bl false:=ht
 subst ht
 exact⟨ρ',aY (vm h1) cA,rest m' ρ' h2 ⟨q2,h4⟩⟩
theorem Bl{ρ':af}{es:List Expr}{e:Expr}{n:Nat}{p q:Pos}{d:D}{ds:List D}{k:Nat}(h:ac (az Φ e false sc ρ) (d,k))(hs:fv d=some ds)(hk:ar ds=true\/k<=1)(hb:bc sc es ds ρ=some ρ')(ht:iX e=false:=by rfl)(ho:yy sc es (d,k)=false:=by rfl):ac (dX Φ (.Assign [.Tuple es n p] e q) sc ρ) (.nx ρ'):=by
 show ac (if tX sc es e=true then qx Φ es e sc ρ else _) _
 rw[if_neg (by unfold tX;rw[ht];exact Vp)]
 refine ac.bnd h ?_
 rw[if_neg (by rw[ho];exact Vp)]
 dsimp only
 rw[hs];dsimp only
 rw[if_pos hk,hb]
 exact cX
noncomputable def gI(ns:List Int):Int:=(dW 0 ns:Nat)
theorem GB(ns:List Int):yT (ns.map D.int)=gI ns:=vc ns
theorem vd(h:n∈ns)(h0:n≠0):0<gI ns:=by have:=u8 h h0;unfold gI;omega
theorem qv{m:Int}(h:n∈ns)(h0:n≠0)(hm:m∈ns):m=gI ns*m.fdiv (gI ns):=S8 h h0 hm
theorem J0(hc:0<c)(ns:List Int):gI (ns.map fun m=>c*m)=c*gI ns:=by
 obtain⟨k,rfl⟩:=WL (Int.le_of_lt hc)
 have:=u9 k ns 0
 unfold gI
 rw[Nat.mul_zero]at this
 rw[this];simp
theorem EG(h:n∈ns)(h0:n≠0):(gI ns).natAbs<=n.natAbs:=by
 have:=GA h h0
 unfold gI;omega
theorem yY(hc:0<c)(hg:0<g):(c*x).fdiv (c*g)=x.fdiv g:=Int.mul_fdiv_mul_of_pos x g hc
theorem Js{k:Nat}(hk:k<=999)(hl:ns.length<=100)(h:∀n∈ns,n.natAbs<=2 ^ k):Ay (ns.map D.int) :=
 ⟨ns,rfl,hl,fun n hn=>VE (h n hn) (VY (by decide) (by omega))⟩
noncomputable def tj:List Qd:=[(-2,0,0,0),(-1,-1,-1,-1),(-1,-1,-1,1),(-1,-1,1,-1),(-1,-1,1,1),(-1,1,-1,-1),(-1,1,-1,1),(-1,1,1,-1),(-1,1,1,1),(0,-2,0,0),(0,0,-2,0),(0,0,0,-2),(0,0,0,2),(0,0,2,0),(0,2,0,0),(1,-1,-1,-1),(1,-1,-1,1),(1,-1,1,-1),(1,-1,1,1),(1,1,-1,-1),(1,1,-1,1),(1,1,1,-1),(1,1,1,1),(2,0,0,0)]
theorem uy(h:p.1 % 2=p.2.1 % 2/\p.1 % 2=p.2.2.1 % 2/\p.1 % 2=p.2.2.2 % 2):aq p :=
 ⟨p.1 % 2,p.1 / 2,p.2.1 / 2,p.2.2.1 / 2,p.2.2.2 / 2,by omega,by omega,by omega,by omega,by omega⟩
theorem uD:∀p∈tj,(p.1 % 2=p.2.1 % 2/\p.1 % 2=p.2.2.1 % 2/\p.1 % 2=p.2.2.2 % 2)/\av p=1/\p.1.natAbs<=2/\p.2.1.natAbs<=2/\p.2.2.1.natAbs<=2/\p.2.2.2.natAbs<=2:=by decide
theorem rC(h:p∈tj):aq p/\av p=1/\eS p:=by
 obtain⟨h1,h2,h3,h4,h5,h6⟩:=uD p h
 exact⟨uy h1,h2,qJ (m:=1) h3 (by decide),qJ (m:=1) h4 (by decide),qJ (m:=1) h5 (by decide),qJ (m:=1) h6 (by decide)⟩
theorem Nm(hp:p∈tj):gQ 1 p:=⟨(rC hp).1,(uD p hp).2.2⟩
end K
namespace K
open PySem PySem.Spec PyProof.Rows L2 Sp Qm
theorem Ka(u:Int):u.fmod 2=u % 2:=Wi u (by decide)

end K
namespace K
open PySem L2 Sp Qm
variable{p:Pos}{t:Bool}{k:Nat}{P Q:af->Prop}{s:Stmt}{α:Type}
section
variable{Φ:Fx}{sc:Scope}{ρ ρ1:af}{ss:List Stmt}
theorem yQ{c:Expr}{a b:List Stmt}(hc:ac (az Φ c false sc ρ) (.bl t,k))(h1:t=true->∃ρ',ac (aD Φ a sc ρ) (.nx ρ')/\P ρ')(h2:t=false->∃ρ',ac (aD Φ b sc ρ) (.nx ρ')/\P ρ'):∃ρ',ac (dX Φ (.If c a b p) sc ρ) (.nx ρ')/\P ρ':=by
 have key:∀x,ac (cond t (aD Φ a sc ρ) (aD Φ b sc ρ)) x->ac (dX Φ (.If c a b p) sc ρ) x:=fun x hx=>ac.bnd hc hx
 cases t with
 | true=>obtain⟨ρ',h,q⟩:=h1 rfl;exact⟨ρ',key _ h,q⟩
 | false=>obtain⟨ρ',h,q⟩:=h2 rfl;exact⟨ρ',key _ h,q⟩
theorem fD(h:P ρ):∃ρ',ac (aD Φ [] sc ρ) (.nx ρ')/\P ρ':=⟨ρ,cA,h⟩
theorem fY(h:∃ρ1,ac (dX Φ s sc ρ) (.nx ρ1)/\P ρ1)(k:∀ρ1,P ρ1->∃ρ2,ac (aD Φ ss sc ρ1) (.nx ρ2)/\Q ρ2):∃ρ2,ac (aD Φ (s::ss) sc ρ) (.nx ρ2)/\Q ρ2:=by
 obtain⟨ρ1,h1,h2⟩:=h
 obtain⟨ρ2,h3,h4⟩:=k ρ1 h2
 exact⟨ρ2,aY h1 h3,h4⟩
theorem fw(h:ac (dX Φ s sc ρ) (.nx ρ1))(k:∃ρ2,ac (aD Φ ss sc ρ1) (.nx ρ2)/\Q ρ2):∃ρ2,ac (aD Φ (s::ss) sc ρ) (.nx ρ2)/\Q ρ2:=by
 obtain⟨ρ2,h3,h4⟩:=k
 exact⟨ρ2,aY h h3,h4⟩
theorem AI(n:Nat)(h:ac (aD Φ (ss.take n) sc ρ) (.nx ρ1))(k:∃ρ2,ac (aD Φ (ss.drop n) sc ρ1) (.nx ρ2)/\Q ρ2):∃ρ2,ac (aD Φ ss sc ρ) (.nx ρ2)/\Q ρ2:=by
 obtain⟨ρ2,h3,h4⟩:=k
 exact⟨ρ2,bW n h h3,h4⟩
theorem xy{a b:Expr}{it:Bool}{s:Bool}{j:Nat}(h:ac (az Φ a false sc ρ) (.bl s,k))(g:ac (az Φ b false sc ρ) (.bl t,j)):ac (az Φ (.BoolOp .And [a,b] p) it sc ρ) (.bl (s&&t),0):=by
 refine eQ (iO h (fun e=>?_) (fun e=>?_))
 ·subst e
  refine iO g (fun e=>?_) (fun e=>?_)
  ·subst e;exact i6
  ·subst e;rfl
 ·subst e;rfl
end
theorem NA{f:α->D}(l:List α)(c:Nat):ir (l.map f) none (some (c:Int))=(l.take c).map f:=by
 simp only[ir,HT.sIx_none,HT.sIx_nat,Vi,List.drop_zero,Nat.sub_zero,List.map_take]
 rcases Nat.le_total c l.length with h|h
 ·rw[Nat.min_eq_left h]
 ·rw[Nat.min_eq_right h,WA (by simp),WA (by simpa using h)]
theorem EO{f:α->D}(l:List α)(c:Nat):ir (l.map f) (some (c:Int)) none=(l.drop c).map f:=by
 simp only[ir,HT.sIx_none,HT.sIx_nat,Vi]
 rcases Nat.le_total c l.length with h|h
 ·rw[Nat.min_eq_left h,WA (by simp),List.map_drop]
 ·rw[Nat.min_eq_right h,List.drop_of_length_le (by simp),List.drop_of_length_le h,List.take_nil];rfl
theorem Nt(ms ns:List Int):PyData.eqvAll (eO (ms.map D.int)) (eO (ns.map D.int))=decide (ms=ns):=by
 induction ms generalizing ns with
 | nil =>
  cases ns with
  | nil=>rfl
  | cons n ns=>rfl
 | cons m ms ih =>
  cases ns with
  | nil=>rfl
  | cons n ns =>
   rw[Vx,Vx,eO,eO,PyData.eqvAll,ih]
   show(m==n&&decide (ms=ns))=_
   rw[Bool.eq_iff_iff]
   simp
theorem M6(ns:List Int):PyData.canLayAll0 (eO (ns.map D.int))=true:=by
 induction ns with
 | nil=>rfl
 | cons q qs ih=>rw[Vx,eO,PyData.canLayAll0,ih];rfl
theorem Nx(ns:List Int):PyData.depthAll (eO (ns.map D.int))=0:=by
 induction ns with
 | nil=>simp[eO,PyData.depthAll]
 | cons q qs ih=>rw[Vx,eO,PyData.depthAll,ih];simp[D.py,PyData.depth]
theorem Ee(ns:List Int):SeqAt.shaped (D.lst (ns.map D.int)).py=true:=by
 unfold SeqAt.shaped
 rw[Bool.and_eq_true_iff]
 constructor
 ·rw[D.py,PyData.canLay0];exact M6 ns
 ·rw[D.py,PyData.depth,Nx];rfl
theorem Es(ms ns:List Int):ac (iu .NotEq (.lst (ms.map D.int)) (.lst (ns.map D.int))) (!decide (ms=ns)):=by
 have e:cU (.lst (ms.map D.int)) (.lst (ns.map D.int))=decide (ms=ns):=by
  show PyData.eqv (D.lst (ms.map D.int)).py (D.lst (ns.map D.int)).py=_
  rw[D.py,D.py,PyData.eqv];exact Nt ms ns
 exact ac.eq (cC rfl (by exact⟨by unfold gH;rw[Ee,Ee];rfl,True.intro⟩)) (by rw[e])
end K
namespace Sp
open PySem PySem.Spec PyProof.Rows L2
variable{X:Cx}
end Sp
namespace K
open PySem L2 Sp Qm
variable{b it s:Bool}{m n par:Int}{p:Pos}{q:Qd}{x:Str}{a tg:Expr}{k:Nat}{d:D}{α:Type}{body:List Stmt}{args:List Expr}{ds l:List D}{ks:List ci}
section
variable{Φ:Fx}{sc:Scope}{ρ ρ1:af}{ss:List Stmt}
theorem gQ.okD{n:Nat}{p:Qd}(h:gQ n p)(g:gQ n q)(h0:q≠aE)(hn:n<=2000):okD s p q:=AC h.1 g.1 h0 h.2 g.2 (vJ hn)
theorem gQ.szl{n:Nat}{p:Qd}(h:gQ n p)(hn:n+n<=800):av p<=(KN:Nat):=by
 have:=Ag h.2
 rw[<- WB]at this
 exact Mt (n:=n+n) (by omega) hn
theorem gQ.okG{n:Nat}{p:Qd}(h:gQ n p)(g:gQ n q)(hn:n+n<=800):okG p q:=⟨h.1,g.1,h.szl hn,g.szl hn⟩
theorem GM{p k:Qd}(hk:aq k)(hq:aq q)(h0:q≠aE)(h:p=aL s k q):rN s p q=dq k:=by
 rw[GL (h ▸ cj hk hq) hq h0]
 exact CV hk hq h0 h
theorem Di{y:Str}(h:PyData.strOk x=true)(g:PyData.strOk y=true):gH (.str x) (.str y)=true:=by
 have k:∀x:Str,PyData.strOk x=true->SeqAt.shaped (D.str x).py=true:=fun x h=>by
  rw[D.py];unfold SeqAt.shaped
  simp[PyData.canLay0,PyData.depth,h]
 unfold gH
 rw[k x h,k y g];rfl
end
section
variable{Φ:Fx}{sc:Scope}{ρ ρ1:af}{ss:List Stmt}{P Q:af->Prop}
noncomputable def nX:Stmt->Expr
 | .For t _ _ _ _=>t
 | _=>.Name (Str.ofString "") ⟨0,0,0,0⟩
noncomputable def yX:Stmt->Expr
 | .For _ i _ _ _=>i
 | _=>.Name (Str.ofString "") ⟨0,0,0,0⟩
noncomputable def iN:Stmt->List Stmt
 | .For _ _ b _ _=>b
 | _=>[]
theorem EI{c:Bool}(h:ac (az Φ a false sc ρ) (.bl b,k))(e:(!b)=c):ac (az Φ (.UnaryOp .Not a p) it sc ρ) (.bl c,0):=by
 subst e
 exact(show ac (Rs.bnd (az Φ a false sc ρ) fun p=>(match zV .Not p.1 with|some d=>.ok (d,0) []|none=>.st)) (.bl (!b),0)from ac.bnd h cX)
theorem U0(n:Nat)(h:∃ρ1,ac (aD Φ (ss.take n) sc ρ) (.nx ρ1)/\Q ρ1)(k:∀ρ1,Q ρ1->∃ρ2,ac (aD Φ (ss.drop n) sc ρ1) (.nx ρ2)/\P ρ2):∃ρ2,ac (aD Φ ss sc ρ) (.nx ρ2)/\P ρ2:=by
 obtain⟨ρ1,h1,q⟩:=h
 obtain⟨ρ2,h2,p⟩:=k ρ1 q
 exact⟨ρ2,bW n h1 h2,p⟩
theorem UU(n:Nat)(h:∃ρ1,ac (aD Φ (ss.take n) sc ρ) (.nx ρ1)/\Q ρ1)(k:∀ρ1,Q ρ1->ac (aD Φ (ss.drop n) sc ρ1) (.rt d)):ac (aD Φ ss sc ρ) (.rt d):=by
 obtain⟨ρ1,h1,q⟩:=h
 exact bW n h1 (k ρ1 q)
theorem BI{α β:Type}{h:α->D}{g:α->List β}{T:List β}{bind:D->af->Option af}{body:af->Rs Fl}(Q:List β->af->Prop):∀(xs:List α) (F R:List β) (ρ:af),(∀x∈xs,∀F R ρ,F++(g x++R)=T->Q F ρ->∃ρ1,bind (h x) ρ=some ρ1/\∃ρ2,ac (body ρ1) (.nx ρ2)/\Q (F++g x) ρ2)->F++(xs.flatMap g++R)=T->Q F ρ->∃ρ',ac (dz bind body (xs.map h) ρ) (.nx ρ')/\Q (F++xs.flatMap g) ρ'
 | [],F,R,ρ,_,_,q=>⟨ρ,cX,by simpa using q⟩
 | x::xs,F,R,ρ,st,e,q=>by
  rw[List.flatMap_cons,WV]at e
  obtain⟨ρ1,h1,ρ2,h2,q2⟩:=st x Vb F _ ρ e q
  obtain⟨ρ',h3,q3⟩:=BI Q xs (F++g x) R ρ2 (fun y hy=>st y (Vc _ hy)) (by rw[<- e];simp only[WV]) q2
  refine⟨ρ',?_,by rw[List.flatMap_cons,<- WV];exact q3⟩
  rw[Vx,dz,h1]
  exact ac.bnd h2 h3
theorem gG{β:Type}{h:α->D}{g:α->List β}{T:List β}{it:Expr}(Q:List β->af->Prop)(xs:List α){F R:List β}(hi:ac (az Φ it true sc (demote it ρ)) (d,k))(hd:items d=some (xs.map h))(q:Q F (demote it ρ))(e:F++(xs.flatMap g++R)=T)(st:∀x∈xs,∀F R ρ,F++(g x++R)=T->Q F ρ->∃ρ1,bJ sc tg (h x) ρ=some ρ1/\∃ρ2,ac (aD Φ body sc ρ1) (.nx ρ2)/\Q (F++g x) ρ2)
  (hk:k<=1:=by first|exact Vf 1|exact Vm 1) (ht:eh it tg=true:=by rfl):∃ρ',ac (dX Φ (.For tg it body [] p) sc ρ) (.nx ρ')/\Q (F++xs.flatMap g) ρ':=by
 obtain⟨ρ',h1,h2⟩:=BI (bind:=bJ sc tg) (body:=aD Φ body sc) Q xs F R _ st e q
 exact⟨ρ',mE hi hd hk ht h1,h2⟩
theorem J8{it:Expr}{n:Nat}(aj:Nat->af->Prop)(hi:ac (az Φ it true sc (demote it ρ)) (.lst ((List.range n).map fun i=>.int (i:Nat)),0))(h0:aj 0 (demote it ρ))
  (step:∀i ρ,i<n->aj i ρ->∃ρ1,bJ sc tg (.int (i:Nat)) ρ=some ρ1/\∃ρ2,ac (aD Φ body sc ρ1) (.nx ρ2)/\aj (i+1) ρ2) (rest:∀ρ',aj n ρ'->P ρ') (ht:eh it tg=true:=by rfl):∃ρ',ac (dX Φ (.For tg it body [] p) sc ρ) (.nx ρ')/\P ρ':=by
 obtain⟨ρ',h1,i,hi',e,h2⟩:=pj (bind:=bJ sc tg) (body:=aD Φ body sc) (fun rem ρ => ∃i,i<=n/\rem=(List.range' i (n-i)).map (fun i=>D.int (i:Nat))/\aj i ρ) (fun d l ρ ⟨i,hi,e,h⟩=>by
  have hlt:i<n:=by
   rcases Wy i n with h|h
   ·exact h
   ·rw[show n-i=0 by omega]at e;cases e
  obtain⟨m,hm⟩:∃m,n-i=m+1:=⟨n-i-1,by omega⟩
  rw[hm,List.range'_succ,Vx]at e
  cases e
  obtain⟨ρ1,h1,ρ2,h2,h3⟩:=step i ρ hlt h
  exact⟨ρ1,ρ2,h1,.inl h2,i+1,hlt,by rw[show n-(i+1)=m by omega],h3⟩) (ds:=(List.range n).map fun i=>D.int (i:Nat)) ⟨0,Vm _,by rw[List.range_eq_range'];simp,h0⟩
 refine⟨ρ',mE hi rfl (Vm 1) ht h1,rest ρ' ?_⟩
 have:i=n:=by
  rcases Wy i n with h|h
  ·obtain⟨m,hm⟩:∃m,n-i=m+1:=⟨n-i-1,by omega⟩
   rw[hm,List.range'_succ]at e;cases e
  ·omega
 exact this ▸ h2
theorem yZ{f:Str}{q:Pos}{B:List D->Nat->R1}{v:D×Nat}(ha:ac (bG Φ args sc ρ) (ds,k))(hv:ac (B ds k) v)(hF:Φ.fn f=none:=by rfl)(hI:Φ.itr f=some B:=by rfl)(hg:sc.names.lookup f=some .globalImplicit:=by rfl):ac (az Φ (.Call (.Name f p) args [] q) true sc ρ) v:=by
 rw[i7,if_pos hg]
 refine ac.bnd ha ?_
 unfold kO
 dsimp only
 rw[hF]
 dsimp only
 rw[if_pos rfl,hI]
 exact hv
theorem IF{m:Nat}(h:m<=1000):ac (ig [.int (m:Int)] k) (.lst ((List.range m).map fun i=>.int (i:Nat)),0):=⟨_,rfl,by omega,by show(m:Int)<=((40000:Nat):Int);omega,True.intro⟩
theorem Mw{s:Stmt}{fl:Fl}(h:∃ρ1,ac (dX Φ s sc ρ) (.nx ρ1)/\Q ρ1)(k:∀ρ1,Q ρ1->ac (aD Φ ss sc ρ1) fl):ac (aD Φ (s::ss) sc ρ) fl:=by
 obtain⟨ρ1,h1,h2⟩:=h
 exact aY h1 (k ρ1 h2)
theorem qw{m:Str}{ap cp q:Pos}{M:List D->List D->Nat->Rs (List D)}{l':List D}(ha:ac (bG Φ args sc ρ) (ds,k))(hx:ρ x=some (.lst l,true))(h:ac (M l ds k) l')(hm:Φ.mtt m=some M:=by rfl)(hp:(ap.endLine==cp.line)=true:=by rfl)(hn:fi x=true:=by rfl):ac (dX Φ (.Expr (.Call (.Attribute (.Name x p) m ap) args [] cp) q) sc ρ) (.nx (bE ρ x (.lst l',true))):=by
  show ac (if (ap.endLine==cp.line)=true then(bG Φ args sc ρ).bnd fun p=>(match Φ.mtt m with
      | some M=>rB ρ x fun l=>(M l p.1 p.2).bnd fun l'=>.ok (.nx (bE ρ x (.lst l',true))) []
      | none=>.st)else .st) _
  rw[if_pos hp]
  refine ac.bnd ha ?_
  rw[hm];dsimp only
  unfold rB
  rw[hx];dsimp only
  rw[if_pos hn]
  exact ac.bnd h cX
theorem iP{i:Expr}{di:D}{key:ci}{k2:Nat}(ha:ac (az Φ a false sc ρ) (.dct ks ds,k))(hi:ac (az Φ i false sc ρ) (di,k2))(hk:o9 di=some key)(hd:mH ks ds key=some d):ac (az Φ (.Subscript a i p) it sc ρ) (d,0):=by
 have key:ac ((az Φ a false sc ρ).bnd fun p=>(az Φ i false sc ρ).bnd fun q=>kr p q) (d,0):=by
  refine ha.bnd (hi.bnd ?_)
  unfold kr;dsimp only
  rw[hk];dsimp only
  rw[hd];exact cX
 cases i with
 | Slice lo hi st p2=>exact(au hi).elim
 | _=>exact key
theorem Ko{i:Int}(h:ac (az Φ a false sc ρ) (.int i,k)):ac (az Φ (.UnaryOp .USub a p) it sc ρ) (.int (-i),0):=ac.bnd h cX
theorem qr(h:fN ks (.inl m)=b):ac (iu .In (.int m) (.dct ks ds)) b:=⟨[],V0 (fun b=>Rs.ok b []) h,True.intro⟩
theorem vN(h:l.length<bO)(hd:d.lless=true:=by rfl):ac (nS l [d] k) (l++[d]):=⟨_,rfl,.inl hd,h,True.intro⟩
theorem pp{elt iter c:Expr}{scope:Scope}{g f:α->D}{t:α->Bool}{l:List α}(hi:ac (az Φ iter true sc ρ) (d,k))(hd:items d=some (l.map g))(hl:l.length<=bO)(hk:ar (l.map g)=true\/k<=1)
  (h:∀x∈l,∃ρ' j,bJ scope tg (g x) (flt scope ρ)=some ρ'/\ac (az Φ c false scope ρ') (.bl (t x),j)/\(t x=true->ac (az Φ elt false scope ρ') (f x,0))) (hc:qH sc scope=true:=by rfl) (ht:eh iter tg=true:=by rfl):ac (az Φ (.ListComp elt [⟨tg,iter,[c],0⟩] scope p) it sc ρ) (.lst ((l.filter t).map f),0):=by
 refine GP hi hd ⟨by rw[Vi];exact hl,hk⟩ (mI fun x hx=>?_) (Vm _) hc ht
 obtain⟨ρ',j,h1,h2,h3⟩:=h x hx
 rw[h1]
 refine ac.bnd (a:=t x) (iO h2 (fun e=>by rw[e];exact i6) (fun e=>e)) ?_
 cases e:t x with
 | false=>exact cX
 | true =>
  show ac ((az Φ elt false scope ρ').bnd fun r=>.ok (some r) []) (some (f x,0))
  exact ac.bnd (h3 e) cX
end
noncomputable def hZ:List Int:=[0,1,2,3,4,5,6,7,8,9,10,11,12,13,14,15,16,17,18,19,20]
noncomputable def om(l:List Int):List ci:=l.map fun d=>.inl (d*d)
noncomputable def wG(l:List Int):List D:=l.map D.int
noncomputable def uj(l:List Int)(m:Int):Option Int:=l.find? fun d=>decide (d*d=m)
theorem u7(m:Int):∀l:List Int,fN (om l) (.inl m)=(uj l m).isSome
 | []=>rfl
 | d::l=>by
  show(decide ((Sum.inl (d*d):ci)=.inl m) || fN (om l) (.inl m))=_
  rw[u7 m l]
  unfold uj
  by_cases e:d*d=m
  ·rw[V6,Vt e,Vt (V0 Sum.inl e)];rfl
  ·rw[V6,Vh e,Vh (fun z=>e (Sum.inl.inj z))];rfl
theorem Be(m:Int):∀l:List Int,mH (om l) (wG l) (.inl m)=(uj l m).map D.int
 | []=>rfl
 | d::l=>by
  have ih:=Be m l
  unfold mH uj at ih⊢
  show Option.map _ (List.find? _ ((Sum.inl (d*d),D.int d)::(om l).zip (wG l)))=_
  by_cases e:d*d=m
  ·rw[V6,V6,Vt e,Vt (V0 Sum.inl e)];rfl
  ·rw[V6,V6,Vh e,Vh (fun z=>e (Sum.inl.inj z))];exact ih
theorem wF{d:Int}(h:uj hZ m=some d):d*d=m/\0<=d/\d<=20:=by
 have h1:=List.find?_some h
 have h2:=List.mem_of_find?_eq_some h
 have h3:∀x∈hZ,0<=x/\x<=20:=by decide
 exact⟨VW h1,h3 d h2⟩
noncomputable def fg(n par:Int):List Int:=((List.range 41).map fun i:Nat => -20+(i:Int)).filter fun k=>decide (k.fmod 2=par)&&decide (k*k<=4*n)
noncomputable def oy(n a b c:Int):Int:=4*n-a*a-b*b-c*c
noncomputable def kN(n par a b c:Int):List Qd :=
 match uj hZ (oy n a b c)with
 | some d=>if d.fmod 2=par then(a,b,c,d)::(if 0<oy n a b c then[(a,b,c,-d)]else[])else[]
 | none=>[]
noncomputable def yU(n par a b:Int):List Qd:=(fg n par).flatMap (kN n par a b)
noncomputable def yV(n par a:Int):List Qd:=(fg n par).flatMap (yU n par a)
noncomputable def yW(n par:Int):List Qd:=(fg n par).flatMap (yV n par)
noncomputable def fA(n:Int):List Qd:=([0,1]:List Int).flatMap (yW n)
theorem my{α β:Type}{f:α->List β}{m:Nat}:∀(l:List α),(∀x∈l,(f x).length<=m)->(l.flatMap f).length<=l.length*m
 | [],_=>by simp
 | x::l,h=>by
  rw[List.flatMap_cons,Vw,VM,Nat.add_mul]
  have h1:=h x Vb
  have h2:=my l fun y hy=>h y (Vc _ hy)
  omega
theorem AW{α:Type}{p q:α->Bool}:∀l:List α,(l.filter fun k=>p k&&q k).length<=(l.filter p).length
 | []=>Vf _
 | x::l=>by
  have:=AW (p:=p) (q:=q) l
  rw[List.filter_cons,List.filter_cons]
  cases p x<;>cases q x<;>simp only[Bool.and_true,Bool.and_false,WQ,Xn,WY,VM]<;>omega
theorem uc(h:par=0\/par=1):(fg n par).length<=21:=by
 refine Vl (AW _) ?_
 rcases h with rfl|rfl<;>decide
theorem Dq(n par a b c:Int):(kN n par a b c).length<=2:=by
 unfold kN
 split
 ·split
  ·split<;>simp
  ·simp
 ·simp
theorem Dg(n:Int):(fA n).length<=37044:=by
 have k0:∀par:Int,par=0\/par=1->(yW n par).length<=18522:=fun par h=>by
  have s:=uc (n:=n) h
  have k2:∀a b,(yU n par a b).length<=42:=fun a b=>Vl (my _ fun c _=>Dq n par a b c) (by omega)
  have k1:∀a,(yV n par a).length<=882:=fun a=>Vl (my _ fun b _=>k2 a b) (by omega)
  exact Vl (my _ fun a _=>k1 a) (by omega)
 exact Vl (my (m:=18522) _ fun par h=>k0 par (by simpa using h)) (by decide)
theorem gA{k:Int}(h:k∈fg n par):k.fmod 2=par /\ -20<=k/\k<=20:=by
 unfold fg at h
 rw[Xi,Wh]at h
 obtain⟨⟨i,hi,rfl⟩,h2⟩:=h
 rw[Vk]at h2
 have h3:i<41:=by simpa using hi
 exact⟨VW h2.1,by omega,by omega⟩
theorem uI{k:Int}(h:-20<=k)(g:k<=20):k.natAbs<=32/\k.natAbs<=20:=by omega
theorem U1(x y z n:Int):x+(y+(z+(4*n-x-y-z+0)))=4*n:=by omega
theorem Dp{a b c:Int}(ha:a∈fg n par)(hb:b∈fg n par)(hc:c∈fg n par)(h:q∈kN n par a b c):gQ 5 q/\av q=n:=by
 obtain⟨a1,a2,a3⟩:=gA ha
 obtain⟨b1,b2,b3⟩:=gA hb
 obtain⟨c1,c2,c3⟩:=gA hc
 unfold kN at h
 split at h
 ·rename_i d hd
  obtain⟨d1,d2,d3⟩:=wF hd
  split at h
  ·rename_i hp
   rw[Wi _ (by decide)]at a1 b1 c1 hp
   have key:∀e:Int,e*e=d*d->e % 2=d % 2->e.natAbs<=20->gQ 5 (a,b,c,e)/\av (a,b,c,e)=n:=fun e he hp2 h20=>by
    refine⟨⟨jU.mpr ⟨b1.trans a1.symm,c1.trans a1.symm,hp2.trans (hp.trans a1.symm)⟩,(uI a2 a3).1,(uI b2 b3).1,(uI c2 c3).1,Vl h20 (by decide)⟩,?_⟩
    show(a*a+(b*b+(c*c+(e*e+0)))).fdiv 4=n
    rw[he,d1]
    unfold oy
    rw[U1,Qm.fd4]
   rcases Ve.mp h with rfl|h
   ·exact key d rfl rfl (uI (WJ (by decide) d2) d3).2
   ·split at h
    ·have:=WF.mp h
     subst this
     exact key (-d) (by rw[Int.neg_mul_neg]) (by clear key a1 b1 c1 hp a2 a3 b2 b3 c2 c3 d1 d2 d3;omega) (by rw[Int.natAbs_neg];exact(uI (WJ (by decide) d2) d3).2)
    ·cases h
  ·cases h
 ·cases h
theorem Df(h:q∈fA n):gQ 5 q/\av q=n:=by
 unfold fA at h
 obtain⟨par,_,h⟩:=List.mem_flatMap.mp h
 unfold yW at h
 obtain⟨a,ha,h⟩:=List.mem_flatMap.mp h
 unfold yV at h
 obtain⟨b,hb,h⟩:=List.mem_flatMap.mp h
 unfold yU at h
 obtain⟨c,hc,h⟩:=List.mem_flatMap.mp h
 exact Dp ha hb hc h
noncomputable def cH:List Int:=[2,3,5,7,11,13,17,19,23,29,31,37,41,43,47,53,59,61,67,71,73,79,83,89,97]
theorem Bg:∀n∈cH,(fA n).isEmpty=false:=by decide
theorem vf(h:n∈cH):0<(fA n).length:=by
 have:=Bg n h
 cases e:fA n with
 | nil=>rw[e]at this;cases this
 | cons x l=>simp
noncomputable abbrev Ad(u:Qd)(qs:List Qd):D:=.tup [dq u,.lst (qs.map dq)]
theorem kK{α β:Type}(f:α->β):∀l:List α,(l.flatMap fun x=>[f x])=l.map f
 | []=>rfl
 | x::l=>by rw[List.flatMap_cons,kK f l];rfl
theorem CT(d:α)(ws:List α):ws=(List.range ws.length).map fun i=>ws.getD i d:=by
 apply List.ext_getElem?
 intro i
 by_cases h:i<ws.length
 ·rw[V9,List.getElem?_range h]
  simp[h]
 ·rw[List.getElem?_eq_none (by omega),List.getElem?_eq_none (by simp;omega)]
theorem GY{f:Nat->D}(n:Nat):fP 0 ((List.range n).map f)=(List.range n).map fun i=>.tup [.int (i:Nat),f i]:=by
 rw[nY]
 apply List.ext_getElem?
 intro i
 by_cases h:i<n
 ·simp[h]
 ·rw[List.getElem?_eq_none (by simp;omega),List.getElem?_eq_none (by simp;omega)]
end K
namespace Sp
open PySem PySem.Spec PyProof.Rows L2
variable{P:Program}{w:World}{K:W.Frag}{e1 e2 tg:Expr}{ρ:af}{p q t:Pos}{l:List D}{k:Nat}{g:Str}{ps:List Str}{Φ:Fx}{pre:List Stmt}
variable{X:Cx}
def U7(K:W.Frag)(a:Addr)(n:Nat):It :=
 ⟨fun i H => ∃xs x,cn K H a xs/\xs.length=n/\i<n/\xs[n-1-i]?=some x,fun i H x H'=>H'=H/\∀xs,cn K H a xs->xs[n-1-i]?=some x,fun i H => ∃xs,cn K H a xs/\xs.length=n/\n<=i⟩
theorem Cd(a it:Addr)(n:Nat):L2.Turn P w K tg (U7 K a n) [it] it (fun i h=>i<=n/\h.IsRevIter it a ((n:Int)-1-(i:Int))) where
 mem:=by simp
 obj:=fun i h st b hb=>by
  have e:b=it:=by simpa using hb
  subst e
  obtain⟨_,o,e,c,d⟩:=st
  exact⟨o,e,fun v z=>by rw[d]at z;cases z⟩
 keep:=fun i h h' st k=>⟨st.1,st.2.at fun o e=>k it (by simp) o e⟩
 item:=by
  intro X hP hw hK hc i pins s σ H E I hf st hg
  subst hP hw hK
  obtain⟨xs,x,hq,hn,hi,hx⟩:=hg
  obtain⟨its,rv,p,hz⟩:=I.list hq
  obtain⟨u,hu,ru⟩:=rv.get hx
  obtain⟨f0,f1,f2,f3,f4,f5⟩:=hf it (by simp)
  have e:(n:Int)-1-(i:Int)=((n-1-i:Nat):Int):=by omega
  have st:=st.2
  rw[e]at st
  refine wpAny_pyNext_rev_item st p.isList (x:=u) (by simpa using hu) fun h' st' sb=>?_
  have I1:aj X pins σ H { s with heap:=h' }:=I.turned (t':=s.toks) (fun b o hb e=>(sb.2 b hb).trans e) f0 f1 f3 f4 f5
  have e2:((n-1-i:Nat):Int)-1=(n:Int)-1-((i+1:Nat):Int):=by omega
  rw[e2]at st'
  obtain⟨o,e,c,d⟩:=id st'
  exact⟨u,rfl,qt (s:={ s with heap:=h' }) e c d (by decide) ⟨x,H,I1,ru,⟨rfl,fun ys hy=>by rw[I.list_inj hy hq];exact hx⟩,⟨hi,st'⟩,fun b hb=>(hf b hb).1⟩⟩
 done:=by
  intro X hP hw hK hc i pins s σ H E I hf st hg
  subst hP hw hK
  obtain⟨xs,hq,hn,hx⟩:=hg
  obtain⟨f0,f1,f2,f3,f4,f5⟩:=hf it (by simp)
  have e:(n:Int)-1-(i:Int) = -1:=by have:=st.1;omega
  have st:=st.2
  rw[e]at st
  exact wpAny_pyNext_rev_end (I.ok.hd hc) st fun h' eb=>⟨rfl,I.turned (t':=s.toks) (fun b o hb e=>eb b o hb e) f0 f1 f3 f4 f5⟩
 self:=fun _ _ _ _ _ st h=>wpAny_pyIter_revIter st.2 h
def Da(ds:List D)(k:Nat):R1 :=
 match ds with
 | [.lst a]=>.ok (.lst a.reverse,k) [ar a=true]
 | _=>.st
theorem JX{pos:Pos}{a:Expr}(hg:Gl X "reversed")(hm0:X.mg "reversed" = none)(ha:AD X ρ [a] [.lst l] k)(hst:∀y p,a ≠ .Starred y p)(hf:ar l=true) :
  IE X ρ tg (.Call (.Name "reversed" p) [a] [] pos) l.reverse k:=by
 intro ow pins s σ H R I ⟨E,q⟩
 refine Call_ (dH I hg hm0 (show bootBuiltins "reversed" = some (.type "reversed") by decide) (VG (aQ (ha ow pos pins s σ H (fun vs H1=>aA H H1/\ah X.K H1 (Kp ow H k) [.lst l] vs) I ⟨E,fun vs H1 s1 r1=>⟨s1,r1⟩⟩) fun us s1 ⟨vs,H1,I1,rv,sm,rp⟩=>?_) (aG hst) rfl) (by decide) (by decide))
 obtain⟨v,rfl,rv1⟩:=rp.only
 obtain⟨ta,xs,rfl,hq,rl,hk1⟩:=iS (κ:=false) rv1
 replace hq:cn X.K H1 ta xs:=hq
 obtain⟨u,rfl,ru⟩:=ee rv
 cases (show u=Value.ref ta from ru)
 obtain⟨its,rvs,pt,hz⟩:=I1.list hq
 have hlen:its.length=xs.length:=rvs.length.symm
 refine call_reversed_list (show s1.heap.IsList ta its.toArray from pt.isList) ?_
 have isR:(s1.heap.push (revObj ta ((its.toArray.size:Int)-1))).IsRevIter s1.heap.objs.size ta ((xs.length:Int)-1-((0:Nat):Int)):=⟨_,Vg _ rfl,rfl,by simp[revObj,hlen]⟩
 refine wpAny_pyIter_revIter isR ?_
 have I2:aj X pins σ H1 { s1 with heap:=s1.heap.push (revObj ta ((its.toArray.size:Int)-1)) }:=I1.kept (t':=s1.toks) fun b o z=>U9 _ z
 have f0:H1 s1.heap.objs.size=none:=I1.hok.fresh (Vf _)
 refine⟨s1.heap.objs.size,[s1.heap.objs.size],_,_,H1,rfl,I2,Cd ta _ xs.length,⟨Vm _,isR⟩,fun b hb=>?_,q _ H1 sm ?_⟩
 ·have eb:b=s1.heap.objs.size:=by simpa using hb
  subst eb
  exact I1.fpOk (Vf _) f0
 ·intro i H2 st
  have rl':ah X.K H1 (Kd ow H k H1) l xs:=rl.flat _ hf
  have ll:=rl.length
  refine⟨fun d hd=>?_,fun hle=>?_⟩
  ·have hi:i<l.length:=by
    have:=(Vu.mp hd).1
    rwa [WZ]at this
   rw[List.getElem?_reverse hi]at hd
   obtain⟨y,hy,ry⟩:=rl'.get hd
   rw[ll]at hy
   refine⟨⟨xs,y,hk1 st,rfl,by omega,hy⟩,fun x' H3 ⟨e1,e2⟩=>?_⟩
   have hv:=e2 xs (hk1 st)
   rw[hy]at hv;cases hv
   subst e1
   exact⟨aA.refl _,ry.mono st⟩
  ·rw[WZ]at hle
   exact⟨xs,hk1 st,rfl,by omega⟩
theorem Gw:lg "reversed" Da:=by
 refine⟨by decide,fun X ρ p pos args ds k d j l tg o hc hg hm ha hst hlen h hp hl ht=>?_⟩
 unfold Da at h
 split at h
 ·cases h
  cases hl
  match args,hlen,ha,hst with
  | [a'],_,ha,hst=>exact JX hg hm ha (hst a' Vb) hp.1
 ·cases h
def PF:V->List V->Hp->VK->Prop:=fun x vs H Q => ∃l xs i y,x=.ref l/\vs=[.int i,y]/\H l=some (.lst xs)/\0<=i/\i<=(xs.length:Nat)/\xs.length<sizeLine/\Q .non (aH H l (.lst (xs.take i.toNat++y::xs.drop i.toNat)))
theorem aP.takeD{xs:List V}{us:List Value}(r:aP xs us)(n:Nat){y:V}{u:Value}(ry:aX y u):aP (xs.take n++y::xs.drop n) (us.take n++u::us.drop n):=(r.take n).append (.cons ry (r.drop n))
theorem AJ:LL X "list.insert" PF:=by
 intro pins s σ H x vs v us Q I rx rv h
 obtain⟨l,xs,i,y,rfl,rfl,hH,h0,h1,hz,q⟩:=h
 cases rx
 cases rv with
 | cons r1 rv =>
  cases rv with
  | cons r2 rv =>
   rename_i u _
   cases rv
   obtain⟨t,rfl⟩:=r1
   obtain⟨z,its,n,r,hl,e⟩:=I.lstM hH
   have hn:=mv
   have hf:Builtin.List.listFitsIndex i=true:=fitsIndex_both (by omega) (by omega)
   refine call_meets F.slot_list_insert ⟨_,e,rfl⟩ F.entry_list_insert (F.args_list_insert_3 _ _ _) (AutoSeq1.list_insert_list_int_val_1 l its.toArray n i t u (by rw[hf];decide) (by rw[Vo];omega)) ⟨e,?_⟩
   refine⟨.non,_,I.lset (its':=its.take i.toNat++u::its.drop i.toNat) hH e ?_ (aP.takeD r _ r2) ?_,rfl,q⟩
   ·have hk:(if i<0 then(i+((its.toArray.size:Nat):Int)).toNat else min i.toNat its.toArray.size)=i.toNat:=by
     rw[if_neg (by omega),Vo];omega
    show(have k:=if i<0 then(i+((its.toArray.size:Nat):Int)).toNat else min i.toNat its.toArray.size;(its.toArray.extract 0 k).push u++its.toArray.extract k)=_
    rw[hk]
    simp
    exact WA (by rw[WN];exact Vf _)
   ·simp;omega
def nQ(l ds:List D)(_:Nat):Rs (List D) :=
 match ds with
 | [.int i,d]=>.ok (l.take i.toNat++d::l.drop i.toNat) [0<=i,i<=(l.length:Nat),d.lless=true,l.length<bO]
 | _=>.st
theorem yK:k7 "insert" nQ:=fun X hc=>⟨"list.insert", _,PySem.F.slot_list_insert,PySem.F.type_list_insert,AJ,fun ow H0 H l ds l' j o a vs ws h hp=>by
 unfold nQ at h
 split at h
 ·rename_i i d
  cases h
  obtain⟨c0,c1,c2,c3,_⟩:=hp
  refine⟨by simp,fun P Q hP oi sm ha rl rd q=>?_⟩
  rw[ah]at rd
  obtain⟨v,r,rfl,g1,rd⟩:=rd
  rw[ai]at g1
  subst g1
  obtain⟨w,rfl,rw'⟩:=rd.only
  refine⟨a,vs,i,w,rfl,rfl,ha,c0,?_,?_,q _ _ ((rl.take _).append (ah.cons (rw'.flat _ c2) (rl.drop _)))⟩
  ·rw[<- rl.length];exact c1
  ·rw[<- rl.length];exact Xq c3 ml
 ·cases h⟩
section
variable{prog:Program}{A:Around}{E:Value->Shared->Prop}{s:Shared}
theorem yM:typeLookup (.type "list_reverseiterator") "__len__" = pure none:=by rw[typeLookup_type,builtinLookup_eq_fast];kernel_rfl
theorem CQ:typeLookup (.type "list_reverseiterator") "__length_hint__" = pure (some (.builtin "list_reverseiterator.__length_hint__")):=by rw[typeLookup_type,builtinLookup_eq_fast];kernel_rfl
theorem Gg:isSubtype (.type "list_reverseiterator") (.type "list_reverseiterator")=pure true:=by kernel_rfl
theorem AS:splitId "list_reverseiterator.__length_hint__" = some ("list_reverseiterator", "__length_hint__"):=by decide
theorem AT{S I l:Nat}{items:Array Value}{res:Value}{R:Result->Shared->Prop}(hh:A.in1.handled=none)(n1:S≠I)(n2:S≠l)(n3:l≠I):∀(k:Nat) (s:Shared) (acc:Array Value) (c:Nat),k<=items.size->s.heap.IsRevIter I l ((k:Int)-1)->s.heap.IsList l items->s.heap.get? S=some (uQ acc c)->acc.size+k<=sizeLine ->
  (∀h' acc' c',h'.get? S=some (uQ acc' c')->acc'.toList=acc.toList++(items.toList.take k).reverse->(∀(b:Nat) o,b≠S->b≠I->s.heap.get? b=some o->h'.get? b=some o)->R (.ok (.ret res)) { s with heap:=h' }) ->
  codeAny (model prog w) A (.builtin "list.extend.loop" ⟨[.ref S,.ref I,res],[]⟩) R s
 | 0,s,acc,c,_,st,pl,hS,hz,q=>by
  refine xh (wpAny_pyNext_rev_end hh (by simpa using st) fun h' eb=>?_)
  exact q h' acc c (eb _ _ n1 hS) (by simp) fun b o _ hb e=>eb b o hb e
 | k+1,s,acc,c,hk,st,pl,hS,hz,q=>by
  have e:((k+1:Nat):Int)-1=(k:Int):=by omega
  rw[e]at st
  have hx:items[k]?=some items[k]:=Array.getElem?_eq_getElem (by omega)
  refine xh (wpAny_pyNext_rev_item st pl hx fun h' st' sb=>?_)
  refine⟨acc,c,(sb.2 _ n1).trans hS,by omega,fun h2 c2 hS2 sb2=>?_⟩
  have sb2:Heap.SameBut S h' h2:=sb2
  obtain⟨o,e1,e2,e3⟩:=st'
  obtain⟨o2,f1,f2,f3⟩:=pl
  refine AT hh n1 n2 n3 k { s with heap:=h2 } (acc.push items[k]) c2 (by omega) ⟨o,(sb2.2 _ (V2 n1)).trans e1,e2,e3⟩ ⟨o2,(sb2.2 _ (V2 n2)).trans ((sb.2 _ n3).trans f1),f2,f3⟩ hS2 (by rw[Array.size_push];omega) fun h3 acc' c' g1 g2 g3=>?_
  refine q h3 acc' c' g1 ?_ fun b o hb1 hb2 e=>g3 b o hb1 hb2 ((sb2.2 b hb1).trans ((sb.2 b hb2).trans e))
  rw[g2,Array.toList_push,List.take_add_one,WV]
  congr 1
  have:items.toList[k]?=some items[k]:=by rw[Array.getElem?_toList];exact hx
  rw[this]
  simp
theorem CU{n l:Nat}{items:Array Value}{Q:Value->Shared->Prop}(hh:A.handled=none)(hl:l<n)(st:s.heap.IsRevIter n l ((items.size:Int)-1))(pl:s.heap.IsList l items)(sz:s.heap.objs.size=n+1)(hz:items.size<=sizeLine)
  (go:∀h1 acc m,h1.get? (n+1)=some (uQ acc m)->acc.toList=items.toList.reverse->(∀(d:Nat) o,d<n->s.heap.get? d=some o->h1.get? d=some o)->Q (.ref (n+1)) { s with heap:=h1 }) :
  wpAny (model prog w) A (call (.type "list") [.ref n]) Q E s:=by
 obtain⟨h0,gg,dd,t0,oo⟩:=s
 have sz:h0.objs.size=n+1:=sz
 refine callType_codes (Q₁:=fun ob s₁=>ob=.ref (n+1)/\s₁=⟨h0.push { cls:=.type "list", data:=.seq #[] },gg,dd,t0,oo⟩) F.called_list (F.typeCall_list_1 _) F.entry_list_init (code_list_new _ ⟨by show Value.ref h0.objs.size=_;rw[sz],rfl⟩) fun ob s₁ hq=>?_
 obtain⟨rfl,rfl⟩:=hq
 have hS:(h0.push { cls:=.type "list", data:=.seq #[] }).get? (n+1)=some (uQ #[] 0):=by rw[<- sz];exact Vg _ rfl
 refine⟨⟨_,hS,rfl⟩,F.args_list_init_2 _ _,?_⟩
 show wpAny _ A.in1.in1 (Builtin.List.listItems (.ref (n+1)) >>= fun old=>Builtin.List.listUpdate (.ref (n+1)) (fun _ => #[]) >>= fun _=>letGo old.toList.reverse >>= fun _=>Builtin.List.listExtendWith (.ref (n+1)) (.ref n) .none) _ _ _
 unfold Builtin.List.listItems
 refine U8 (U8 (WE hS rfl (Va ?_)))
 show wpAny _ A.in1.in1 (updateSeq (n+1) (fun _ => #[]) >>= _) _ _ _
 refine U8 (wpAny_updateSeq hS rfl ?_)
 refine U8 (wpAny_letGo ?_)
 have S1:=V3 (Obj.mapSeq (fun _=>(#[]:Array Value))) hS rfl
 generalize hr1:(h0.push { cls:=.type "list", data:=.seq #[] }).update (n+1) (Obj.mapSeq fun _=>(#[]:Array Value))=r1 at S1
 have k1:∀(d:Nat) o,d≠n+1->h0.get? d=some o->r1.get? d=some o:=fun d o g e=>by rw[<- hr1];exact(Vq _ _ (V2 g)).trans (U9 _ e)
 obtain⟨m1,S1⟩:∃m,r1.get? (n+1)=some (uQ #[] m):=⟨_,S1⟩
 obtain⟨o,e1,e2,e3⟩:=st
 obtain⟨o2,f1,f2,f3⟩:=pl
 have z1:r1.IsRevIter n l ((items.size:Int)-1):=⟨o,k1 _ _ (by omega) e1,e2,e3⟩
 have p1:r1.IsList l items:=⟨o2,k1 _ _ (by omega) f1,f2,f3⟩
 have ty:Shared.TypeIs ⟨r1,gg,dd,t0,oo⟩ (.ref n) "list_reverseiterator" := ⟨_,k1 _ _ (by omega) e1,e2⟩
 unfold Builtin.List.listExtendWith
 refine U8 (wpAny_typeOf ty ?_)
 have g1:Builtin.List.listSameRef (.ref (n+1)) (.ref n)=false:=by simp[Builtin.List.listSameRef]
 have g2:(Value.type "list_reverseiterator" == Value.type "list")=false:=by decide
 have g3:(Value.type "list_reverseiterator" == Value.type "tuple")=false:=by decide
 simp only[g1,g2,g3,Bool.or_false,WQ,Xn]
 refine U8 (wpAny_pyIter_revIter z1 (U8 (VO ?_)))
 unfold Builtin.List.listLengthHint
 refine U8 (wpAny_specialOf ty yM ?_)
 show wpAny _ _ (specialOf (Value.ref n) (Str.ofString "__length_hint__") >>= _) _ _ _
 refine U8 (wpAny_specialOf ty CQ ?_)
 dsimp only
 rw[AS]
 refine U8 (wpAny_isInstance ty Gg ?_)
 rw[if_neg (by decide)]
 rw[if_pos (by decide)]
 rw[if_neg (by decide)]
 refine Va ?_
 rw[if_neg (by decide)]
 refine Va ⟨plainId_quiet F.plain_extend_loop _,?_⟩
 refine AT (A:=A.in1) (S:=n+1) (I:=n) (l:=l) hh (by omega) (by omega) (by omega) items.size ⟨r1,gg,dd,t0,oo⟩ #[] m1 (Vf _) z1 p1 S1 (by simpa using hz) fun h' acc' c' q1 q2 q3=>?_
 refine⟨rfl,go h' acc' c' q1 (by rw[q2];simp;exact WA (by simp)) fun d o hd e=>q3 d o (by omega) (by omega) (k1 _ _ (by omega) e)⟩
end
theorem xC{e:Expr}{f:Str}{r:Pos}(hc:X.calm=true)(hf:f = "list")(hg:g = "reversed")(gf:Gl X f)(gg:Gl X g)(mf:X.mg f=none)(mg:X.mg g=none)
  (h:AD X ρ [e] [.lst l] k) (hst:∀y∈[e],∀x p,y ≠ .Starred x p) (fl:ar l=true):ED X ρ (.Call (.Name f p) [.Call (.Name g q) [e] [] r] [] t) (.lst l.reverse) 0:=by
 intro ow pins s σ H Q I ⟨E,qq⟩
 subst hf hg
 refine VQ (dH I gf mf (u:=.type "list") (by decide) ?_ (by decide) (by decide))
 refine VG (Calls.spliced_cons (VQ (dH I gg mg (u:=.type "reversed") (by decide) ?_ (by decide) (by decide)))) rfl rfl
 have n1:=aG (env:=X.env) (es:=[]) (hst e Vb)
 have n2:(backTo r (starEach [] X.env)).any (·.1)=false:=bt fun x hx=>by cases hx
 refine VG (aQ (h ow r pins s σ H _ I ⟨E,fun vs H1 s1 r1=>(show(fun vs H1=>aA H H1/\ah X.K H1 (Kp ow H k) [.lst l] vs) vs H1 from⟨s1,r1⟩)⟩) fun us s1 ⟨vs,H1,I1,rv,sm,rp⟩=>?_) n1 n2
 obtain⟨v,rfl,rv1⟩:=rp.only
 obtain⟨a,xs,rfl,hq,rl,hk1⟩:=iS (κ:=false) rv1
 replace hq:cn X.K H1 a xs:=hq
 obtain⟨u,rfl,ru⟩:=ee rv
 cases (show u=Value.ref a from ru)
 obtain⟨its,rvs,pt,hz⟩:=I1.list hq
 have hh:X.A.handled=none:=I.ok.hd hc
 have pl:=pt.isList
 refine call_reversed_list pl ?_
 refine Calls.spliced_nil ?_
 obtain⟨hp,gs,dr,tk,os⟩:=s1
 have pl:hp.IsList a its.toArray:=pl
 have el:=rvs.length
 have fr:∀j:Nat,H1 (hp.objs.size+j)=none:=fun j=>I1.hok.fresh (Wt _ _)
 have alt:(a:Nat)<hp.objs.size:=let ⟨o,e,_⟩:=pl;Vd e
 have wN:(hp.push (revObj a (((its.toArray.size:Nat):Int)-1))).IsList a its.toArray:=let ⟨o,e,c⟩:=pl;⟨o,U9 _ e,c⟩
 refine CU (n:=hp.objs.size) (l:=a) (items:=its.toArray) hh alt ⟨_,Vg _ rfl,rfl,rfl⟩ wN (VH ..) (by rw[Vo,<- el];exact hz) fun h3 acc m S3 eA kp=>?_
 have kk:∀b o,hp.get? b=some o->h3.get? b=some o:=fun b o e=>kp b o (Vd e) (U9 _ e)
 generalize hn:hp.objs.size=n at *
 have hk0:cO X.prog X.w H1 h3:=I1.hok.kept kk
 have ob:bD X.prog X.w (aH H1 (n+1) (.lst xs.reverse)) h3 (n+1) (.lst xs.reverse):=⟨by rw[WZ];exact hz,acc.toList,m,by rw[eA];exact rvs.reverse,by rw[Array.toArray_toList];exact S3⟩
 have hk1:=ph hk0 (fr 1) ob
 generalize hH:aH H1 (n+1) (.lst xs.reverse)=H4 at hk1
 have g6:H4 (n+1)=some (.lst xs.reverse):=by rw[<- hH];exact aF
 have old:∀c:Nat,c<n->H4 c=H1 c:=fun c hc=>by rw[<- hH,ay (by show(c:Nat)≠n+1;omega)]
 have inn:∀(c:Nat) o,H1 c=some o->c<n:=fun c o e=>by
  rcases Wy c n with z|z
  ·exact z
  ·have:=fr (c-n);rw[Nat.add_sub_cancel' z]at this;rw[this]at e;cases e
 have s4:aA H1 H4:=fun c o e=>(old c (inn c o e)).trans e
 have I4:aj X pins σ H4 ⟨h3,gs,dr,tk,os⟩:=I1.un (t':=tk) (qZ kk (fun c hc=>old c (by rw[<- hn];exact hc)) fun c o e=>by rw[hn];exact inn c o e) hk1
 refine⟨.ref (n+1),H4,I4,rfl,qq _ H4 (sm.trans s4) ?_⟩
 rw[ai]
 exact⟨n+1,_,true,rfl,g6,⟨rfl,sm.free (fr 1)⟩,(ah.flat _ fl (rl.same s4)).rev⟩
def Px:Stmt->Expr
 | .Return (some (.Tuple [e,_] _ _)) _=>e
 | _=>.Name (Str.ofString "") ⟨0,0,0,0⟩
def Pw:Stmt->Expr
 | .Return (some (.Tuple [_,.Call _ [.Call _ [e] _ _] _ _] _ _)) _=>e
 | _=>.Name (Str.ofString "") ⟨0,0,0,0⟩
def kz(Φ:Fx)(sc:Scope)(ps:List Str)(pre:List Stmt)(e1 e2:Expr)(ds:List D):Rs D :=
 if ds.length=ps.length then(aD Φ pre sc (c6 ps ds)).bnd fun
  | .nx ρ1=>(az Φ e1 false sc ρ1).bnd fun p=>(bG Φ [e2] sc ρ1).bnd fun q=>(match p.2,q.1 with
   | 0,[.lst l]=>.ok (.tup [p.1,.lst l.reverse]) [ar l=true]
   | _,_=>.st)
  | _=>.st
 else .st
theorem GE{mg:Str->Option Value}{base:Heap}{qual:Str}{st:Stmt}{f:Addr}{fd:FuncData}{post:List Stmt}{n1 n2:Str}{nn:Nat}{pf pg rr:Pos}(Fn:ke K g qual st f fd)
  (S:aN (aC (aa st)) ps (aa st)) (hΦ:sT P w K mg base k Φ) (hb:ak st=pre ++ .Return (some (.Tuple [e1,.Call (.Name n1 pf) [.Call (.Name n2 pg) [e2] [] rr] [] t] nn p)) q::post) (hn1:n1 = "list") (hn2:n2 = "reversed")
  (gf:(aa st).names.lookup n1=some .globalImplicit) (gg:(aa st).names.lookup n2=some .globalImplicit):bT P w K mg base dS (k+1) f fd ps (lv K (kz Φ (aa st) ps pre e1 e2)):=by
 refine Fn.ok S (fun vs H Q E h=>?_) (fun cdv A outer s H vs Q E hr h=>?_)
 ·obtain⟨ds,r,l,h1,h2,hp,_⟩:=h
  unfold kz at h2
  split at h2
  ·rename_i hl;rw[<- h1.length];exact hl
  ·cases h2
 ·obtain⟨ds,r,l,h1,h2,hp,qq⟩:=h
  have h2:ac (kz Φ (aa st) ps pre e1 e2 ds) r:=⟨l,h2,hp⟩
  unfold kz at h2
  split at h2
  ·rename_i hl
   have G:=jY (outer:=outer) (H:=H) (E:=E) S hΦ hr
   obtain⟨E0,hsl⟩:=mF (P:=P) (w:=w) (mg:=mg) (base:=base) (qual:=qual) (f:=f) (cdv:=cdv) (A:=A) (outer:=outer) (s:=s) (E:=E) S h1 hl
   have B0:ck H (fun _=>none) H:=fun a o h=>⟨h,rfl⟩
   obtain⟨fl,h3,h4⟩:=ax h2
   cases fl with
   | nx ρ1 =>
    obtain⟨⟨d1,k1⟩,h5,h6⟩:=ax h4
    obtain⟨⟨qs,k2⟩,h7,h8⟩:=ax h6
    dsimp only at h8
    split at h8
    ·rename_i l0
     obtain⟨h9,hfl,_⟩:=cm h8
     subst h9
     obtain⟨l7,h7,p7⟩:=h7
     obtain⟨hst,_⟩:=b0 h7 p7
     have ad:=fF [e2] h7 p7 G
     have ed:=xC (p:=pf) (q:=pg) (r:=rr) (t:=t) G.calm hn1 hn2 (G.gl n1 gf) (G.gl n2 gg) (by subst hn1;exact G.bl _ (by decide)) (by subst hn2;exact G.bl _ (by decide)) ad hst hfl
     have ed1:=(bH h5 G).ed rfl
     obtain⟨l5,h5,p5⟩:=h5
     have st1:∀y p,e1 ≠ .Starred y p:=fun y p z=>by subst z;cases h5
     have at2:AD _ ρ1 [e1,.Call (.Name n1 pf) [.Call (.Name n2 pg) [e2] [] rr] [] t] [d1,.lst l0.reverse] (kj 0 (kj 0 0)):=d6 ed1 (d6 ed jc (aG fun _ _ z=>nomatch z)) (aG st1)
     have sd:=ug (pos:=q) (H0:=H) (vy (n:=nn) (pos:=p) at2 (by show 2<=40000;decide)) (.inl (by show kn _ 0=0;unfold kn;split<;>rfl))
     rw[hb]
     exact⟨_,nB G W6 h3 (iR sd fun _ z=>nomatch z),fun _=>none,E0,hsl,B0,fun v H' sm rp=>qq v H' sm rp⟩
    ·exact(au h8).elim
   | rt _=>exact(au h4).elim
   | bk _=>exact(au h4).elim
   | ct _=>exact(au h4).elim
  ·exact(au h2).elim
theorem Jr{sc:Scope}{ds:List D}{ρ1:af}{d1:D}(h1:ac (aD Φ pre sc (c6 ps ds)) (.nx ρ1))(h2:ac (az Φ e1 false sc ρ1) (d1,0))(h3:ac (bG Φ [e2] sc ρ1) ([.lst l],k))(h4:ar l=true)(hl:ds.length=ps.length:=by rfl):ac (kz Φ sc ps pre e1 e2 ds) (.tup [d1,.lst l.reverse]):=by
 unfold kz
 rw[if_pos hl]
 exact ac.bnd h1 (ac.bnd h2 (ac.bnd h3 ⟨_,rfl,h4,True.intro⟩))
end Sp
namespace K
open PySem L2 Sp Qm
variable{d k q:Qd}{c n p:Int}
noncomputable def oF(q:Qd):Prop:=∀(k:Qd) (n:Int),aq k->1<n->q≠aV k n
theorem oW(n:Int):aq (2*n,0,0,0):=⟨0,n,0,0,0,.inl rfl,by simp,rfl,rfl,rfl⟩
theorem Fq(n:Int):av (2*n,0,0,0)=n*n:=by
 show((2*n)*(2*n)+(0*0+(0*0+(0*0+0)))).fdiv 4=n*n
 rw[show(2*n)*(2*n)+(0*0+(0*0+(0*0+0)))=4*(n*n) by grind,Qm.fd4]
theorem CN(n:Int)(hk:aq k)(hd:aq d):aT (aV k n) d=aV (aT k d) n:=by
 rw[<- gR,<- gR,eD (oW n) hk hd]
theorem CK(n:Int)(hk:aq k)(hd:aq d):aT d (aV k n)=aV (aT d k) n:=by
 rw[<- eU,<- eU,eD hd hk (oW n)]
theorem oF.left{u:Qd}(hu:aq u)(hd:aq d)(h:oF (aT u d)):oF u:=fun k n hk hn e=>h (aT k d) n (dy hk hd) hn (by rw[e,CN n hk hd])
theorem oF.ne(h:oF q):q≠aE:=fun e=>h aE 2 fM (by decide) (by rw[e];rfl)
theorem v7{A y:Qd}(p:Int)(hA:aq A)(hy:aq y):∃t,av (cv A (aV y p))=av A+p*t:=by
 obtain⟨t1,h1,e1⟩:=cJ (gC hA (d7 p hy))
 obtain⟨t2,h2,e2⟩:=cJ hA
 obtain⟨t3,h3,e3⟩:=cJ hy
 obtain⟨e,x1,x2,x3,x4,he,a1,a2,a3,a4⟩:=hA
 obtain⟨f,y1,y2,y3,y4,hf,b1,b2,b3,b4⟩:=hy
 rw[e1,e2]
 obtain⟨A1,A2,A3,A4⟩:=A
 obtain⟨Y1,Y2,Y3,Y4⟩:=y
 dsimp only at a1 a2 a3 a4 b1 b2 b3 b4 h1 h2 h3
 have hs:A1*Y1+A2*Y2+A3*Y3+A4*Y4=2*(2*(x1*y1+x2*y2+x3*y3+x4*y4)+f*(x1+x2+x3+x4)+e*(y1+y2+y3+y4)+2*(e*f)):=by
  rw[a1,a2,a3,a4,b1,b2,b3,b4];grind
 generalize 2*(x1*y1+x2*y2+x3*y3+x4*y4)+f*(x1+x2+x3+x4)+e*(y1+y2+y3+y4)+2*(e*f)=t at hs
 refine⟨t+p*t3,?_⟩
 have h1':(A1+Y1*p)*(A1+Y1*p)+((A2+Y2*p)*(A2+Y2*p)+((A3+Y3*p)*(A3+Y3*p)+((A4+Y4*p)*(A4+Y4*p)+0)))=4*t1:=h1
 have h1'':(A1*A1+(A2*A2+(A3*A3+(A4*A4+0))))+2*p*(A1*Y1+A2*Y2+A3*Y3+A4*Y4)+p*p*(Y1*Y1+(Y2*Y2+(Y3*Y3+(Y4*Y4+0))))=4*t1:=by rw[<- h1'];grind
 rw[h2,h3,hs]at h1''
 have:4*t2+4*(p*t)+4*(p*(p*t3))=4*t1:=by rw[<- h1''];grind
 have e4:p*(t+p*t3)=p*t+p*(p*t3):=Int.mul_add _ _ _
 omega
theorem IQ:∀p∈cH,∀c∈(List.range 98).map (fun i:Nat=>(i:Int)),c≠0->p % c=0->c=1\/c=p:=by decide
theorem g8:∀p∈cH,1<p/\p<=97:=by decide
theorem IP(hp:p∈cH)(hc:0<=c)(hn:0<=n)(e:c*n=p):c=1\/n=1:=by
 obtain⟨p1,p2⟩:=g8 p hp
 have c0:c≠0:=fun z=>by rw[z,Int.zero_mul]at e;omega
 have n0:n≠0:=fun z=>by rw[z,Int.mul_zero]at e;omega
 have cp:c<=p:=by
  rw[<- e]
  have:=Vz (show 1<=n by omega) hc
  omega
 have hm:c∈(List.range 98).map (fun i:Nat=>(i:Int)):=Wh.mpr ⟨c.toNat,by simp;omega,by omega⟩
 rcases IQ p hp c hm c0 (by rw[<- e];exact Int.mul_emod_right c n)with h|h
 ·exact .inl h
 ·right
  rw[h]at e
  have:p*(n-1)=0:=by rw[WH,e];omega
  rcases Xl.mp this with z|z<;>omega
theorem De{r:Qd}{a:fG}(hr:aq r)(pl:oF r)(hp:p∈cH)(hd:∃c,av r=p*c)(g:Fd true r (2*p,0,0,0) a):av a.1=p/\aq a.1/\∃u,aq u/\r=aT u a.1:=by
 obtain⟨u,hu,eu⟩:=g.dp
 obtain⟨v,hv,ev⟩:=g.dq'
 obtain⟨d0,hx,hy,hs⟩:=g.ra
 have eu:r=aT u a.1:=eu
 have ev:(2*p,0,0,0)=aT v a.1:=ev
 have hs:cv (aT a.2.1 r) (aT a.2.2 (2*p,0,0,0))=a.1:=hs
 rw[eU]at hs
 obtain⟨p1,p2⟩:=g8 p hp
 refine⟨?_,d0,u,hu,eu⟩
 obtain⟨t,ht⟩:=v7 p (dy hx hr) hy
 obtain⟨c,hc⟩:=hd
 rw[hs,iL hx hr,hc]at ht
 have ht:av a.1=p*(av a.2.1*c+t):=by rw[ht];grind
 have hv2:p*p=av v*av a.1:=by rw[<- iL hv d0,<- ev,Fq]
 have nv:=eM hv
 have na:=eM d0
 generalize av a.2.1*c+t=m at ht
 have m0:0<=m:=by
  rcases Int.le_total 0 m with h|h
  ·exact h
  ·rcases Int.lt_or_eq_of_le h with h|h
   ·have:=Int.mul_neg_of_pos_of_neg (show 0<p by omega) h;omega
   ·omega
 have em:av v*m=p:=by
  have:p*(av v*m-p)=0:=by
   rw[WH,hv2,ht];grind
  rcases Xl.mp this with z|z<;>omega
 rcases IP hp nv m0 em with h|h
 ·exfalso
  have e1:a.1=aV (cV v) p:=by
   rw[<- eU,ev,<- eD (en hv) hv d0,(iW hv).2,h]
   exact(uE a.1).symm
  exact pl (aT u (cV v)) p (dy hu (en hv)) p1 (by rw[<- CK p (en hv) hu,<- e1];exact eu)
 ·rw[ht,h,Xu]
noncomputable def dj(ns:List Int):Int:=ns.foldr (· * ·) 1
theorem ej(n:Int)(ns:List Int):dj (n::ns)=n*dj ns:=rfl
theorem rn:∀ms ns:List Int,dj (ms++ns)=dj ms*dj ns
 | [],ns=>(Xw _).symm
 | m::ms,ns=>by rw[List.cons_append,ej,ej,rn ms ns,WC]
theorem FR(n:Int):dj [n]=n:=Xu n
theorem rc:∀(ws:List Qd) (u:Qd),aq u->(∀w∈ws,aq w)->av (ws.foldl aT u)=av u*dj (ws.map av)
 | [],u,_,_=>(Xu _).symm
 | w::ws,u,hu,h=>by
  rw[List.foldl_cons,rc ws _ (dy hu (h w Vb)) fun x hx=>h x (Vc _ hx),iL hu (h w Vb),Vx,ej,WC]
theorem gS{n:Nat}(h:aq q)(g:av q<=((2 ^ n:Nat):Int)):gQ (n+2) q:=⟨h,eF (mq h g) (by rw[WB];omega)⟩
noncomputable def jH(a b c d:Int):Bool:=decide (b.fmod 2=a.fmod 2)&&(decide (c.fmod 2=a.fmod 2)&&decide (d.fmod 2=a.fmod 2))
noncomputable def dh(q:Qd):Int:=cond (jH (q.1.fdiv (gI [q.1,q.2.1,q.2.2.1,q.2.2.2])) (q.2.1.fdiv (gI [q.1,q.2.1,q.2.2.1,q.2.2.2])) (q.2.2.1.fdiv (gI [q.1,q.2.1,q.2.2.1,q.2.2.2])) (q.2.2.2.fdiv (gI [q.1,q.2.1,q.2.2.1,q.2.2.2]))) (gI [q.1,q.2.1,q.2.2.1,q.2.2.2]) ((gI [q.1,q.2.1,q.2.2.1,q.2.2.2]).fdiv 2)
theorem uV{a b d:Int}:jH a b c d=true↔aq (a,b,c,d):=by
 unfold jH
 simp only[Vk,decide_eq_true_eq]
 rw[jU]
 simp only[Ka]
theorem wZ(h:q≠aE):∃n∈[q.1,q.2.1,q.2.2.1,q.2.2.2],n≠0:=by
 obtain⟨a,b,c,d⟩:=q
 by_cases q1:a=0
 ·by_cases q2:b=0
  ·by_cases q3:c=0
   ·refine⟨d,by simp,fun q4=>h ?_⟩
    rw[q1,q2,q3,q4];rfl
   ·exact⟨c,by simp,q3⟩
  ·exact⟨b,by simp,q2⟩
 ·exact⟨a,by simp,q1⟩
theorem vA(h:q≠aE)(hp:aq q):∃(g:Int) (k:Qd),0<g/\g=gI [q.1,q.2.1,q.2.2.1,q.2.2.2]/\q=aV k g/\k=(q.1.fdiv g,q.2.1.fdiv g,q.2.2.1.fdiv g,q.2.2.2.fdiv g)/\(¬ aq k->∃t,g=2*t):=by
 obtain⟨n,hn,n0⟩:=wZ h
 have hg:=vd hn n0
 have ea:=qv (m:=q.1) hn n0 (by simp)
 have eb:=qv (m:=q.2.1) hn n0 (by simp)
 have ec:=qv (m:=q.2.2.1) hn n0 (by simp)
 have ed:=qv (m:=q.2.2.2) hn n0 (by simp)
 refine⟨_,_,hg,rfl,?_,rfl,fun np=>?_⟩
 ·unfold aV
  exact cZ (ea.trans (Wb _ _)) (eb.trans (Wb _ _)) (ec.trans (Wb _ _)) (ed.trans (Wb _ _))
 ·rcases vI (gI [q.1,q.2.1,q.2.2.1,q.2.2.2])with e|e
  ·exact⟨gI [q.1,q.2.1,q.2.2.1,q.2.2.2] / 2,by rw[Ka]at e;omega⟩
  ·exfalso
   apply np
   have pm:∀m s:Int,m=gI [q.1,q.2.1,q.2.2.1,q.2.2.2]*s->m % 2=s % 2:=fun m s hm=>by
    rw[hm,Int.mul_emod]
    rw[Ka]at e
    rw[e,Xw,Int.emod_emod_of_dvd _ (Int.dvd_refl 2)]
   have p:=jU.mp hp
   rw[jU]
   rw[pm _ _ ea,pm _ _ eb,pm _ _ ec,pm _ _ ed]at p
   exact p
theorem wr(h:q≠aE)(hp:aq q):0<dh q/\∃k,aq k/\q=aV k (dh q):=by
 obtain⟨g,k,g0,eg,ek,dk,ev⟩:=vA h hp
 unfold dh
 rw[<- eg]
 have hk:jH (q.1.fdiv g) (q.2.1.fdiv g) (q.2.2.1.fdiv g) (q.2.2.2.fdiv g)=true↔aq k:=by rw[uV,dk]
 cases hs:jH (q.1.fdiv g) (q.2.1.fdiv g) (q.2.2.1.fdiv g) (q.2.2.2.fdiv g)with
 | true=>exact⟨g0,k,hk.mp hs,ek⟩
 | false =>
  obtain⟨t,ht⟩:=ev fun z=>by rw[hk.mpr z]at hs;cases hs
  have e2:g.fdiv 2=t:=by rw[ht,Qm.fd2]
  show 0<g.fdiv 2/\∃k,aq k/\q=aV k (g.fdiv 2)
  rw[e2]
  refine⟨by omega,aV k 2,⟨0,k.1,k.2.1,k.2.2.1,k.2.2.2,.inl rfl,by unfold aV;simp only;omega,by unfold aV;simp only;omega,by unfold aV;simp only;omega,by unfold aV;simp only;omega⟩,?_⟩
  rw[ek,ht]
  unfold aV
  exact cZ (by simp only[WC]) (by simp only[WC]) (by simp only[WC]) (by simp only[WC])
theorem LX(h:q≠aE)(hk:aq k)(hn:1<n)(e:q=aV k n):1<dh q:=by
 have k0:k≠aE:=fun z=>h (by rw[e,z];unfold aV aE;simp)
 obtain⟨g,k',g0,eg,ek,dk,ev⟩:=vA k0 hk
 have gq:gI [q.1,q.2.1,q.2.2.1,q.2.2.2]=n*g:=by
  rw[eg,e]
  have:=J0 (c:=n) (by omega) [k.1,k.2.1,k.2.2.1,k.2.2.2]
  simp only[Vx,Xp]at this
  rw[<- this]
  unfold aV
  simp only[Wb n]
 have fd:∀x:Int,(x*n).fdiv (n*g)=x.fdiv g:=fun x=>by rw[Wb x n];exact yY (by omega) g0
 have m1:q.1.fdiv (n*g)=k.1.fdiv g:=by rw[e];exact fd _
 have m2:q.2.1.fdiv (n*g)=k.2.1.fdiv g:=by rw[e];exact fd _
 have m3:q.2.2.1.fdiv (n*g)=k.2.2.1.fdiv g:=by rw[e];exact fd _
 have m4:q.2.2.2.fdiv (n*g)=k.2.2.2.fdiv g:=by rw[e];exact fd _
 unfold dh
 rw[gq,m1,m2,m3,m4]
 have hk:jH (k.1.fdiv g) (k.2.1.fdiv g) (k.2.2.1.fdiv g) (k.2.2.2.fdiv g)=true↔aq k':=by rw[uV,dk]
 cases hs:jH (k.1.fdiv g) (k.2.1.fdiv g) (k.2.2.1.fdiv g) (k.2.2.2.fdiv g)with
 | true =>
  show 1<n*g
  have:=Vz (show 1<=g by omega) (show 0<=n by omega)
  omega
 | false =>
  obtain⟨t,ht⟩:=ev fun z=>by rw[hk.mpr z]at hs;cases hs
  show 1<(n*g).fdiv 2
  rw[ht,show n*(2*t)=2*(n*t) by grind,Qm.fd2]
  have:=Vz (show 1<=t by omega) (show 0<=n by omega)
  omega
theorem wM(h:q≠aE)(hp:aq q):oF q↔dh q<=1:=by
 constructor
 ·intro pl
  obtain⟨v0,k,hk,e⟩:=wr h hp
  rcases Int.lt_or_le 1 (dh q)with z|z
  ·exact absurd e (pl k _ hk z)
  ·exact z
 ·intro le k n hk hn e
  have:=LX h hk hn e
  omega
theorem FZ(a b c d:Int):((([D.int (a.fmod 2),.int (b.fmod 2),.int (c.fmod 2),.int (d.fmod 2)].any fun z=>cU z (.int 0)))&&([D.int (a.fmod 2),.int (b.fmod 2),.int (c.fmod 2),.int (d.fmod 2)].any fun z=>cU z (.int 1))) = !jH a b c d:=by
 unfold jH
 simp only[Xh,List.any_nil,bN,Bool.or_false]
 rcases vI a with ha|ha<;>rcases vI b with hb|hb<;>rcases vI c with hc|hc<;>rcases vI d with hd|hd<;>rw[ha,hb,hc,hd]<;>decide
theorem Ap:∀{l:List Int},(∀n∈l,n∈cH)->0<=dj l/\dj l<=((2 ^ (7*l.length):Nat):Int)
 | [],_=>by decide
 | n::l,h=>by
  obtain⟨h0,h1⟩:=Ap fun m hm=>h m (Vc _ hm)
  obtain⟨p1,p2⟩:=g8 n (h n Vb)
  rw[ej]
  refine⟨Xf (by omega) h0,?_⟩
  have:=Int.mul_le_mul (show n<=128 by omega) h1 h0 (by decide)
  refine WJ this ?_
  rw[VM,Nat.mul_add,WB]
  generalize 2 ^ (7*l.length)=x
  show(128:Int)*(x:Int)<=((x*128:Nat):Int)
  omega
noncomputable def NR:List Nat->Nat
 | []=>0
 | x::r=>x*x+NR r
noncomputable def U2(r:List Nat):Nat:=r.getLastD 20
noncomputable def ext(n:Nat)(r:List Nat):List (List Nat):=((List.range (U2 r+1)).filter fun p=>decide (p*p+NR r<=n)).map fun p=>r++[p]


end K
namespace Sp
open PySem PySem.Spec PyProof.Rows L2
variable{H H0 H1:Hp}{ρ:af}{ss:List Stmt}{fl:Fl}{ns:List Int}{a c e i iter tg:Expr}{f x:Str}{p p1 p2 pos t:Pos}{k:Nat}{b:Addr}{us:List Value}{ds l l' m:List D}{Φ:Fx}{sc:Scope}{d:D}{K:W.Frag}{ow:Ow}{σ:L2.St}{us' vs:List V}{j:Int}
variable{X:Cx}
theorem wz(h:fo X H0 (bY ρ) ss fl):fo X H0 ρ ss fl:=fun pins s σ H D I ⟨ow,E,hl,B,q⟩ =>
 h pins s σ H D I ⟨fun _=>none,vw E,hl,fun a o h=>⟨(B a o h).1,rfl⟩,q.keep ⟨fun a o h _=>h,fun _ _ _ _=>rfl⟩⟩

def rH(x:Int):List Int->List Int
 | []=>[x]
 | y::l=>if x<=y then x::y::l else y::rH x l
def ku:List Int->List Int
 | []=>[]
 | x::l=>rH x (ku l)
theorem mB(x:Int):∀l:List Int,(rH x l).Perm (x::l)
 | []=>List.Perm.refl _
 | y::l=>by
  rw[rH]
  split
  ·exact List.Perm.refl _
  ·exact((mB x l).cons y).trans (List.Perm.swap x y l)
theorem lX:∀l:List Int,(ku l).Perm l
 | []=>List.Perm.refl _
 | x::l=>(mB x (ku l)).trans ((lX l).cons x)
theorem u6(x:Int):∀{l:List Int},l.Pairwise (· <= ·)->(rH x l).Pairwise (· <= ·)
 | [],_=>List.pairwise_singleton _ _
 | y::l,h=>by
  rw[rH]
  have hh:=W8.mp h
  split
  ·rename_i hxy
   exact W8.mpr ⟨fun z hz=>by
    rcases Ve.mp hz with rfl|hz
    ·exact hxy
    ·exact WJ hxy (hh.1 z hz),h⟩
  ·rename_i hxy
   refine W8.mpr ⟨fun z hz=>?_,u6 x hh.2⟩
   rcases Ve.mp ((mB x l).mem_iff.mp hz)with rfl|hz
   ·omega
   ·exact hh.1 z hz
theorem t7:∀l:List Int,(ku l).Pairwise (· <= ·)
 | []=>List.Pairwise.nil
 | x::l=>u6 x (t7 l)
theorem uB:∀{a b:List Int},a.Perm b->a.Pairwise (· <= ·)->b.Pairwise (· <= ·)->a=b
 | [],b,p,_,_=>by rw[List.nil_perm.mp p]
 | x::a,[],p,_,_=>by have:=p.length_eq;cases this
 | x::a,y::b,p,ha,hb=>by
  have h1:=W8.mp ha
  have h2:=W8.mp hb
  have e:x=y:=by
   have i1:x∈y::b:=p.mem_iff.mp Vb
   have i2:y∈x::a:=p.mem_iff.mpr Vb
   rcases Ve.mp i1 with e|i1
   ·exact e
   ·rcases Ve.mp i2 with e|i2
    ·exact e.symm
    ·have:=h1.1 y i2;have:=h2.1 x i1;omega
  subst e
  rw[uB ((List.perm_cons x).mp p) h1.2 h2.2]
theorem sr{a:List Int}(p:a.Perm ns)(h:a.Pairwise (· <= ·)):a=ku ns:=uB (p.trans (lX ns).symm) h (t7 ns)
theorem Cl(ns:List Int):(ku ns).length=ns.length:=(lX ns).length_eq
theorem u5:∀{ns:List Int} {us:List Value},aP (ns.map V.int) us->IntsAre us ns
 | [],us,h=>by cases h;exact .nil
 | n::ns,us,h=>by
  cases h with
  | cons r1 r2=>obtain⟨t,rfl⟩:=r1;exact .cons n t (u5 r2)
theorem vM:∀{ns:List Int} {us:List Value},IntsAre us ns->aP (ns.map V.int) us
 | _,_,.nil=>.nil
 | _,_,.cons n t h=>.cons ⟨t,rfl⟩ (vM h)
theorem jo{K:W.Frag}{H:Hp}{P:bn}:∀{ns:List Int} {vs:List V},ah K H P (ns.map D.int) vs->vs=ns.map V.int
 | [],vs,h=>by rw[Xp,ah]at h;exact h
 | n::ns,vs,h=>by
  rw[Vx,ah]at h
  obtain⟨v,r,rfl,h1,h2⟩:=h
  rw[ai]at h1
  rw[jo h2,h1];rfl
theorem jx{K:W.Frag}{H:Hp}{P:bn}:∀ns:List Int,ah K H P (ns.map D.int) (ns.map V.int)
 | []=>ah.nil
 | n::ns=>ah.cons (by rw[ai]) (jx ns)
def JH(b:Bool)(n0:Nat)(p0 kp:Pos):List Keyword:=cond b [⟨some (Str.ofString "reverse"),.Constant (.bool true) n0 p0,kp⟩] []
def ky(b:Bool)(ns:List Int):List Int:=cond b (ku ns).reverse (ku ns)
theorem Kx{p0 kp:Pos}{n0:Nat}(b:Bool)(hf:f = "sorted")(gf:Gl X f)(mf:X.mg f=none)
  (h:AD X ρ [e] [.lst (ns.map D.int)] k) (hst:∀y∈[e],∀x p,y ≠ .Starred x p) (hn:ns.length<64):ED X ρ (.Call (.Name f p) [e] (JH b n0 p0 kp) t) (.lst ((ky b ns).map D.int)) 0:=by
 intro ow pins s σ H Q I ⟨E,qq⟩
 subst hf
 refine VQ (dH I gf mf (u:=.builtin "sorted") (by decide) ?_ (by decide) (by decide))
 have n1:=aG (env:=X.env) (es:=[]) (hst e Vb)
 have n3:starEach [e] X.env=(false,eval e X.env)::starEach [] X.env:=n1
 have key:∀(us:List Value) (s1:Shared),(∃vs H1,aj X pins σ H1 s1/\aP vs us/\aA H H1/\ah X.K H1 (Kp ow H k) [.lst (ns.map D.int)] vs)->wpAny (model X.prog X.w) X.A (call (.builtin "sorted") us (cond b [(Str.ofString "reverse", .bool true)] [])) (fun v s2 => ∃x H2,aj X pins σ H2 s2/\aX x v/\Q x H2) X.xe s1:=by
  rintro us s1 ⟨vs,H1,I1,rv,sm,rp⟩
  obtain⟨v,rfl,rv1⟩:=rp.only
  obtain⟨a,xs,rfl,hq,rl,hk1⟩:=iS (κ:=false) rv1
  replace hq:cn X.K H1 a xs:=hq
  obtain⟨u,rfl,ru⟩:=ee rv
  cases (show u=Value.ref a from ru)
  obtain⟨its,rvs,pt,hz⟩:=I1.list hq
  have pl:=pt.isList
  have ex:=jo rl
  subst ex
  have hI:=u5 rvs
  have el:=rvs.length
  rw[Vi]at el
  obtain⟨hp,gs,dr,tk,os⟩:=s1
  have fin:∀(out:Array Value) (ns':List Int),IntsAre out.toList ns'->ns'=ky b ns->∃x H2,aj X pins σ H2 ⟨sortedAll hp its out,gs,dr,tk,os⟩/\aX x (.ref (hp.objs.size+1))/\Q x H2:=by
   intro out ns' a1 e1
   subst e1
   obtain⟨m,S3⟩:=sortedAll_at hp its out
   have kk:∀b o,hp.get? b=some o->(sortedAll hp its out).get? b=some o:=fun b o e=>sortedAll_old e
   generalize sortedAll hp its out=h3 at *
   have fr:∀j:Nat,H1 (hp.objs.size+j)=none:=fun j=>I1.hok.fresh (Wt _ _)
   generalize hn':hp.objs.size=n at *
   have hk0:cO X.prog X.w H1 h3:=I1.hok.kept kk
   have lb:(ky b ns).length=ns.length:=by cases b<;>simp[ky,Cl]
   have ob:bD X.prog X.w (aH H1 (n+1) (.lst ((ky b ns).map V.int))) h3 (n+1) (.lst ((ky b ns).map V.int)):=⟨by rw[Vi,lb,<- Vi (f:=V.int)];exact hz,out.toList,m,vM a1,by rw[Array.toArray_toList];exact S3⟩
   have hk1:=ph hk0 (fr 1) ob
   generalize hH:aH H1 (n+1) (.lst ((ky b ns).map V.int))=H4 at hk1
   have g6:H4 (n+1)=some (.lst ((ky b ns).map V.int)):=by rw[<- hH];exact aF
   have old:∀c:Nat,c<n->H4 c=H1 c:=fun c hc=>by rw[<- hH,ay (by show(c:Nat)≠n+1;omega)]
   have inn:∀(c:Nat) o,H1 c=some o->c<n:=fun c o e=>by
    rcases Wy c n with z|z
    ·exact z
    ·have:=fr (c-n);rw[Nat.add_sub_cancel' z]at this;rw[this]at e;cases e
   have s4:aA H1 H4:=fun c o e=>(old c (inn c o e)).trans e
   have I4:aj X pins σ H4 ⟨h3,gs,dr,tk,os⟩:=I1.un (t':=tk) (qZ kk (fun c hc=>old c (by rw[<- hn'];exact hc)) fun c o e=>by rw[hn'];exact inn c o e) hk1
   refine⟨.ref (n+1),H4,I4,rfl,qq _ H4 (sm.trans s4) ?_⟩
   rw[ai]
   exact⟨n+1,_,true,rfl,g6,⟨rfl,sm.free (fr 1)⟩,jx _⟩
  cases b with
  | false=>exact sorted_ints pl hI (by omega) fun out ns' a1 a2 a3=>fin out ns' a1 (sr a2 a3)
  | true =>
   refine sorted_ints_rev (b:=true) pl hI (by omega) fun out ns' a1 a2 a3=>fin out ns' a1 ?_
   have a3:ns'.Pairwise (· >= ·):=a3
   have:=sr (a:=ns'.reverse) ((List.reverse_perm ns').trans a2) (List.pairwise_reverse.mpr a3)
   show ns'=(ku ns).reverse
   rw[<- this,List.reverse_reverse]
 cases b with
 | false =>
  refine callWith_kw (kws:=[]) (aQ (h ow t pins s σ H _ I ⟨E,fun vs H1 s1 r1=>(show(fun vs H1=>aA H H1/\ah X.K H1 (Kp ow H k) [.lst (ns.map D.int)] vs) vs H1 from⟨s1,r1⟩)⟩) fun us s1 ⟨vs,H1,I1,rv,sm,rp⟩=>kws_nil (key us s1 ⟨vs,H1,I1,rv,sm,rp⟩)) (by rw[n1];rfl) (bt fun x hx=>hst x hx)
 | true =>
  refine callWith_kw (kws:=[⟨some (Str.ofString "reverse"),.Constant (.bool true) n0 p0,kp⟩]) (aQ (h ow t pins s σ H _ I ⟨E,fun vs H1 s1 r1=>(show(fun vs H1=>aA H H1/\ah X.K H1 (Kp ow H k) [.lst (ns.map D.int)] vs) vs H1 from⟨s1,r1⟩)⟩) fun us s1 ⟨vs,H1,I1,rv,sm,rp⟩=>kws_cons (Va (kws_nil (key us s1 ⟨vs,H1,I1,rv,sm,rp⟩)))) (by rw[n1];rfl) (bt fun x hx=>hst x hx)
theorem zC:∀{us:List Value},us.length<2->(us.toArray.zip us.toArray).map (·.2)=us.toArray
 | [],_=>by simp
 | [_],_=>by simp
 | _::_::_,h=>absurd h (by simp)
section
variable{prog:Program}{w:World}{A:Around}{E:Value->Shared->Prop}{s:Shared}
theorem yh{m:Nat}{R:Fin->Shared->Prop}(hb:s.heap.get? b=some (seqObj "list" us.toArray m))(hu:us.length<2)
  (go:R (.done (.ret .none)) { s with heap:=sortedHeap s.heap b us us.toArray }):wpAny (model prog w) A (Builtin.«list.sort» ⟨[.ref b],[]⟩) R E s:=by
 have lb:b<s.heap.objs.size:=Vd hb
 obtain⟨c1,g1⟩:∃c,(s.heap.update b (Obj.mapSeq fun _ => #[])).get? b=some (seqObj "list" #[] c):=⟨_,get?_update_seq hb (fun _ => #[])⟩
 rw[list_sort_plain]
 refine U8 (listItems_at hb rfl (U8 (listUpdate_at hb rfl (U8 (seqEpoch_at g1 rfl (U8 (wpAny_newTuple (U8 (wpAny_newList (VO ?_))))))))))
 have g6:(((s.heap.update b (Obj.mapSeq fun _ => #[])).push (seqObj "tuple" us.toArray 0)).push (seqObj "list" #[] 0)).get? b=some (seqObj "list" #[] c1):=by
  have l1:b<(s.heap.update b (Obj.mapSeq fun _ => #[])).objs.size:=by rw[Heap.size_update];exact lb
  exact U9 _ (U9 _ g1)
 have l2:us.toArray.size<2:=by rw[Vo];exact hu
 change wpAny (model prog w) A _ R E { s with heap:=((s.heap.update b (Obj.mapSeq fun _ => #[])).push (seqObj "tuple" us.toArray 0)).push (seqObj "list" #[] 0) }
 dsimp only
 rw[if_pos l2,if_pos l2]
 refine U8 (Va ?_)
 rw[StateT.run_pure]
 refine U8 (Va ?_)
 dsimp only
 have ea:Array.map (fun x=>x.snd) (arrOf (SortSt.mk' general' (us.toArray.zip us.toArray) #[] 7 none))=us.toArray:=zC hu
 rw[ea]
 refine U8 (seqEpoch_at g6 rfl (U8 (listUpdate_at g6 rfl ?_ (hsz2:=by rw[WG];omega))))
 simp only[bne_self_eq_false,WQ,Xn]
 exact Va go
theorem ua{R:Value->Shared->Prop}(hb:s.heap.IsList b us.toArray)(hu:us.length<2)
  (go:R (.ref (s.heap.objs.size+1)) { s with heap:=sortedAll s.heap us us.toArray }):wpAny (model prog w) A (call (.builtin "sorted") [.ref b]) R E s:=by
 have z1:((s.heap.push (seqObj "list" #[] 0)).update s.heap.objs.size (Obj.mapSeq (· ++ us.toArray))).objs.size=s.heap.objs.size+1:=(Heap.size_update ..).trans (size_push' ..)
 have z2:(((s.heap.push (seqObj "list" #[] 0)).update s.heap.objs.size (Obj.mapSeq (· ++ us.toArray))).push (seqObj "list" us.toArray 0)).get? (s.heap.objs.size+1)=some (seqObj "list" us.toArray 0):=z1 ▸ Vg _ rfl
 refine Calls.call_function_entry kind_sorted plain_sorted entry_sorted (args_sorted1 _) ?_
 unfold Builtin.«sorted»
 refine U8 (m:=checkCount "sorted" 1 1 _) (Va (U8 (collect_list hb (U8 (wpAny_newList ?_)) (by rw[WG];omega))))
 change wpAny _ _ _ _ _ { s with heap:=((s.heap.push (seqObj "list" #[] 0)).update s.heap.objs.size (Obj.mapSeq (· ++ us.toArray))).push (seqObj "list" us.toArray 0) }
 rw[z1]
 exact U8 (VO (Wg slot_list_sort ⟨_,z2,rfl⟩ entry_list_sort (yh z2 hu ⟨_,rfl,Va ⟨_,rfl,go⟩⟩) (args_list_sort _)))
end
theorem Dm(hf:f = "sorted")(gf:Gl X f)(mf:X.mg f=none)
  (h:AD X ρ [e] [.lst l] k) (hst:∀y∈[e],∀x p,y ≠ .Starred x p) (hn:l.length<2) (fl:ar l=true):ED X ρ (.Call (.Name f p) [e] [] t) (.lst l) 0:=by
 intro ow pins s σ H Q I ⟨E,qq⟩
 subst hf
 refine VQ (dH I gf mf (u:=.builtin "sorted") (by decide) ?_ (by decide) (by decide))
 have n1:=aG (env:=X.env) (es:=[]) (hst e Vb)
 refine callWith_kw (kws:=[]) (aQ (h ow t pins s σ H _ I ⟨E,fun vs H1 s1 r1=>(show(fun vs H1=>aA H H1/\ah X.K H1 (Kp ow H k) [.lst l] vs) vs H1 from⟨s1,r1⟩)⟩) fun us s1 ⟨vs,H1,I1,rv,sm,rp⟩=>kws_nil ?_) (by rw[n1];rfl) (bt fun x hx=>hst x hx)
 obtain⟨v,rfl,rv1⟩:=rp.only
 obtain⟨a,xs,rfl,hq,rl,hk1⟩:=iS (κ:=false) rv1
 replace hq:cn X.K H1 a xs:=hq
 obtain⟨u,rfl,ru⟩:=ee rv
 cases (show u=Value.ref a from ru)
 obtain⟨its,rvs,pt,hz⟩:=I1.list hq
 have el:=rvs.length
 have el2:=rl.length
 obtain⟨hp,gs,dr,tk,os⟩:=s1
 refine ua pt.isList (by omega) ?_
 obtain⟨m,S3⟩:=sortedAll_at hp its its.toArray
 have kk:∀b o,hp.get? b=some o->(sortedAll hp its its.toArray).get? b=some o:=fun b o e=>sortedAll_old e
 show ∃x H2,aj X pins σ H2 ⟨sortedAll hp its its.toArray,gs,dr,tk,os⟩/\aX x (.ref (hp.objs.size+1))/\Q x H2
 generalize sortedAll hp its its.toArray=h3 at *
 have fr:∀j:Nat,H1 (hp.objs.size+j)=none:=fun j=>I1.hok.fresh (Wt _ _)
 generalize hn':hp.objs.size=n at *
 have hk0:cO X.prog X.w H1 h3:=I1.hok.kept kk
 have ob:bD X.prog X.w (aH H1 (n+1) (.lst xs)) h3 (n+1) (.lst xs):=⟨hz,its,m,rvs,S3⟩
 have hk1:=ph hk0 (fr 1) ob
 generalize hH:aH H1 (n+1) (.lst xs)=H4 at hk1
 have g6:H4 (n+1)=some (.lst xs):=by rw[<- hH];exact aF
 have old:∀c:Nat,c<n->H4 c=H1 c:=fun c hc=>by rw[<- hH,ay (by show(c:Nat)≠n+1;omega)]
 have inn:∀(c:Nat) o,H1 c=some o->c<n:=fun c o e=>by
  rcases Wy c n with z|z
  ·exact z
  ·have:=fr (c-n);rw[Nat.add_sub_cancel' z]at this;rw[this]at e;cases e
 have s4:aA H1 H4:=fun c o e=>(old c (inn c o e)).trans e
 have I4:aj X pins σ H4 ⟨h3,gs,dr,tk,os⟩:=I1.un (t':=tk) (qZ kk (fun c hc=>old c (by rw[<- hn'];exact hc)) fun c o e=>by rw[hn'];exact inn c o e) hk1
 refine⟨.ref (n+1),H4,I4,rfl,qq _ H4 (sm.trans s4) ?_⟩
 rw[ai]
 exact⟨n+1,_,true,rfl,g6,⟨rfl,sm.free (fr 1)⟩,ah.flat _ fl (rl.same s4)⟩
inductive Xd(Φ:Fx)(sc:Scope)(ρ:af):Expr->D->Prop where
 | ev {e:Expr} {d:D} (h:ac (az Φ e false sc ρ) (d,0)):Xd Φ sc ρ e d
 | lrev {e:Expr} {l:List D} {k:Nat} {f g:Str} {p q r t:Pos} (h:ac (bG Φ [e] sc ρ) ([.lst l],k)) (fl:ar l=true) (hf:f = "list" := by rfl) (hg:g = "reversed" := by rfl) (gf:sc.names.lookup f=some .globalImplicit:=by rfl) (gg:sc.names.lookup g=some .globalImplicit:=by rfl):Xd Φ sc ρ (.Call (.Name f p) [.Call (.Name g q) [e] [] r] [] t) (.lst l.reverse)
 | srt (b:Bool) {e:Expr} {ns:List Int} {k n0:Nat} {f:Str} {p t p0 kp:Pos} (h:ac (bG Φ [e] sc ρ) ([.lst (ns.map D.int)],k)) (hn:ns.length<64) (hf:f = "sorted" := by rfl) (gf:sc.names.lookup f=some .globalImplicit:=by rfl):Xd Φ sc ρ (.Call (.Name f p) [e] (JH b n0 p0 kp) t) (.lst ((ky b ns).map D.int))
 | short {e:Expr} {l:List D} {k:Nat} {f:Str} {p t:Pos} (h:ac (bG Φ [e] sc ρ) ([.lst l],k)) (hn:l.length<2) (fl:ar l=true) (hf:f = "sorted" := by rfl) (gf:sc.names.lookup f=some .globalImplicit:=by rfl):Xd Φ sc ρ (.Call (.Name f p) [e] [] t) (.lst l)
 | pick4 {e1 e2 e3 e4 i:Expr} {d1 d2 d3 d4 d:D} {j:Int} {k:Nat} {lp p:Pos} (h1:Xd Φ sc ρ e1 d1) (h2:Xd Φ sc ρ e2 d2) (h3:Xd Φ sc ρ e3 d3) (h4:Xd Φ sc ρ e4 d4) (hi:ac (az Φ i false sc ρ) (.int j,k)) (ha:atI [d1,d2,d3,d4] j=some d):Xd Φ sc ρ (.Subscript (.List [e1,e2,e3,e4] lp) i p) d
theorem jl(h:Xd Φ sc ρ e d):∀y p,e ≠ .Starred y p:=by
 cases h with
 | ev h=>intro y p z;subst z;obtain⟨_,h,_⟩:=h;cases h
 | lrev=>intro y p z;cases z
 | srt=>intro y p z;cases z
 | short=>intro y p z;cases z
 | pick4=>intro y p z;cases z
theorem Gb(d:D):mk d 0=.ok (d,0) []:=by unfold mk kn;split<;>rfl
theorem D4(G:aS Φ X sc)(h:Xd Φ sc ρ e d):ED X ρ e d 0:=by
 induction h with
 | ev h=>exact(bH h G).ed rfl
 | lrev h fl hf hg gf gg =>
  obtain⟨l7,h7,p7⟩:=h
  obtain⟨hst,_⟩:=b0 h7 p7
  exact xC G.calm hf hg (G.gl _ gf) (G.gl _ gg) (by subst hf;exact G.bl _ (by decide)) (by subst hg;exact G.bl _ (by decide)) (fF [_] h7 p7 G) hst fl
 | srt b h hn hf gf =>
  obtain⟨l7,h7,p7⟩:=h
  obtain⟨hst,_⟩:=b0 h7 p7
  exact Kx b hf (G.gl _ gf) (by subst hf;exact G.bl _ (by decide)) (fF [_] h7 p7 G) hst hn
 | short h hn fl hf gf =>
  obtain⟨l7,h7,p7⟩:=h
  obtain⟨hst,_⟩:=b0 h7 p7
  exact Dm hf (G.gl _ gf) (by subst hf;exact G.bl _ (by decide)) (fF [_] h7 p7 G) hst hn fl
 | pick4 h1 h2 h3 h4 hi ha i1 i2 i3 i4 =>
  have at4:=d6 i1 (d6 i2 (d6 i3 (d6 i4 jc (aG (jl h4))) (aG (jl h3))) (aG (jl h2))) (aG (jl h1))
  obtain⟨l,hi',pi⟩:=hi
  refine EJ (o:=[]) (xD (k:=0) at4 (Vm _) (by show 4<=40000;decide)) ((bH ⟨l,hi',pi⟩ G).ed rfl) (qd hi') ?_
  show(match atI _ _ with|some d=>mk d 0|none=>.st)=_
  rw[ha]
  exact Gb _
inductive Rn(Φ:Fx)(sc:Scope):List Stmt->af->D->Prop where
 | fin {ss:List Stmt} {ρ:af} {r:D} (h:ac (aD Φ ss sc ρ) (.rt r)):Rn Φ sc ss ρ r
 | cut (n:Nat) {ss:List Stmt} {ρ ρ1:af} {r:D} (h:ac (aD Φ (ss.take n) sc ρ) (.nx ρ1)) (k:Rn Φ sc (ss.drop n) ρ1 r):Rn Φ sc ss ρ r
 | dem {ss:List Stmt} {ρ:af} {r:D} (k:Rn Φ sc ss (bY ρ) r):Rn Φ sc ss ρ r
 | set {x:Str} {e:Expr} {px q:Pos} {ss:List Stmt} {ρ:af} {d r:D} (h:Xd Φ sc ρ e d) (k:Rn Φ sc ss (bE ρ x (d,true)) r) (hx:cT sc x=true:=by rfl) (hc:iY e=false:=by rfl):Rn Φ sc (.Assign [.Name x px] e q::ss) ρ r
theorem G5{lo hi:Option Expr}{l h:Option Int}(ha:ED X ρ a (.lst m) 1)(hl:OD X ρ lo l)(hh:OD X ρ hi h):ED X ρ (.Subscript a (.Slice lo hi none p2) pos) (.lst (ir m l h)) 1:=by
 refine fun ow=>bR (oV wC (ha ow) (hl ow) (hh ow)) fun σ H Q ⟨E,q⟩=>⟨E,fun v H1 s1 r1=>⟨E.same s1,fun H2 s2=>⟨(E.same s1).same s2,fun H3 s3=>?_⟩⟩⟩
 have s13:=s2.trans s3
 obtain⟨p,vs,rfl,hq,rl⟩:=iB (r1.same s13)
 refine⟨p,vs,rfl,hq,fun p' hp'=>?_⟩
 have sm:=cy (o:=HO.lst (i9 vs l h)) hp'
 refine q _ _ ((s1.trans s13).trans sm) ?_
 rw[ai]
 exact⟨p',_,true,rfl,aF,fun _=>E.own.free ((s1.trans s13).free hp'),rl.cut.same sm⟩
theorem G7{b:Expr}(ha:ED X ρ a (.lst l) 1)(hb:ED X ρ b (.lst m) 1)(hn:l.length+m.length<=bO):ED X ρ (.BinOp a .Add b pos) (.lst (l++m)) 1:=by
 refine fun ow=>bR (El wR (ha ow) (hb ow)) fun σ H Q ⟨E,q⟩=>⟨E,fun v H1 s1 r1=>⟨E.same s1,fun u H2 s2 r2=>?_⟩⟩
 have r1':=r1.same s2
 have r2':=r2.imp (Kp.back s1 1)
 rw[ai]at r1' r2'
 obtain⟨pa,va,b1,rfl,ha,qa,ra⟩:=r1'
 obtain⟨pb,vb,b2,rfl,hb,qb,rb⟩:=r2'
 have la:=ra.length
 have lb:=rb.length
 refine⟨pa,pb,va,vb,rfl,rfl,ha.sq,hb.sq,by rw[<- la,<- lb];exact Vl hn fj,fun p hp'=>?_⟩
 have sm:=cy (o:=HO.lst (va++vb)) hp'
 refine q _ _ ((s1.trans s2).trans sm) ?_
 rw[ai]
 exact⟨p,_,true,rfl,aF,fun _=>E.own.free ((s1.trans s2).free hp'),(ra.same sm).append (rb.same sm)⟩
def jt(l:List Int):D:=.lst (l.map D.int)
theorem uN:∀{a b:List Int},a.map V.int=b.map V.int->a=b
 | [],[],_=>rfl
 | [],_::_,h=>by cases h
 | _::_,[],h=>by cases h
 | x::a,y::b,h=>by
  simp only[Vx,List.cons.injEq,V.int.injEq]at h
  rw[h.1,uN h.2]
theorem wI{P:bn}(hP:∀a b,P a b->b=true){l l':List Int}{v:V}(h:ai K H P (jt l) v)(hb:H b=some (.lst (l'.map V.int)))(hne:l≠l'){o:HO}:ai K (aH H b o) P (jt l) v:=by
 unfold jt at h⊢
 rw[ai]at h⊢
 obtain⟨a,vs,c,rfl,h1,h2,h3⟩:=h
 cases hP _ _ h2
 have e:=jo h3
 subst e
 have hab:a≠b:=fun z=>by
  subst z
  have:some (HO.lst (l.map V.int))=some (.lst (l'.map V.int)):=Eq.trans (Eq.symm h1) hb
  exact hne (uN (HO.lst.inj (VA this)))
 exact⟨a,_,true,rfl,(ay hab).trans h1,h2,jx _⟩
theorem wH{K:W.Frag}{H:Hp}{P:bn}(hP:∀a b,P a b->b=true){b:Addr}{l l':List Int}(hb:H b=some (.lst (l.map V.int))):∀{Ls:List (List Int)} {vs:List V} {n:Nat},ah K H P (Ls.map jt) vs->Ls[n]?=some l->vs[n]?=some (.ref b) ->
  (∀a m,Ls[a]?=some m->a≠n->m≠l)->ah K (aH H b (.lst (l'.map V.int))) P ((Ls.set n l').map jt) vs
 | [],vs,n,h,e,_,_=>by simp at e
 | x::Ls,vs,0,h,e,ev,hd=>by
  rw[Vx,ah]at h
  obtain⟨v,r,rfl,h1,h2⟩:=h
  cases (VA e:x=l)
  cases (VA ev:v=.ref b)
  rw[List.set_cons_zero,Vx]
  refine ah.cons ?_ ?_
  ·unfold jt at h1⊢
   rw[ai]at h1⊢
   obtain⟨a,vs,c,e,h1,h3,h4⟩:=h1
   cases e
   exact⟨b,_,true,rfl,aF,by cases hP _ _ h3;exact h3,jx _⟩
  ·have:∀(M:List (List Int)) (ws:List V),(∀m∈M,m≠l)->ah K H P (M.map jt) ws->ah K (aH H b (.lst (l'.map V.int))) P (M.map jt) ws:=by
    intro M
    induction M with
    | nil=>intro ws _ h;rw[Xp,ah]at h;subst h;exact ah.nil
    | cons m M ih =>
     intro ws hm h
     rw[Vx,ah]at h
     obtain⟨v,r,rfl,g1,g2⟩:=h
     exact ah.cons (wI hP g1 hb (hm m Vb)) (ih r (fun y hy=>hm y (Vc _ hy)) g2)
   refine this Ls r (fun m hm=>?_) h2
   obtain⟨k,hk⟩:=List.mem_iff_getElem?.mp hm
   exact hd (k+1) m (by simpa using hk) (Nat.succ_ne_zero k)
 | x::Ls,vs,n+1,h,e,ev,hd=>by
  rw[Vx,ah]at h
  obtain⟨v,r,rfl,h1,h2⟩:=h
  rw[List.set_cons_succ,Vx]
  exact ah.cons (wI hP h1 hb (hd 0 x rfl (fun z=>nomatch z))) (wH hP hb h2 (by simpa using e) (by simpa using ev) fun a m ha hn=>hd (a+1) m (by simpa using ha) (by omega))
theorem GU{a:Addr}{us:List V}{i:Nat}(E:aO X ow H1 σ ρ)(hi:X.N[i]?=some x)(hs:σ[i]?=some (some (.ref a)))
  (hv:jf X.env.scope x) (ha:H1 a=some (.lst vs)) (ho:ow a=some (some x)) (hb:H1 b=some (.lst us)) (hob:ow b=some (some x)) (hab:a≠b) (r':ah X.K (aH H1 b (.lst us')) (kB ow x true) l' vs) :
  aO X ow (aH H1 b (.lst us')) σ (bE ρ x (.lst l',true)):=by
 have st:∀{P:bn},(P b true->False)->dF P P H1 (aH H1 b (.lst us')):=fun {P} h=>⟨fun c o hc hn=>by rw[ay (fun z=>by subst z;rw[hb]at hc;cases hc;exact hn)];exact hc,fun c ws hc p=>by rw[ay (fun z=>by subst z;exact h p)];exact hc,fun _ _ _ p=>p,fun _ p=>p⟩
 refine⟨fun y e o h=>?_,fun c hc=>?_⟩
 ·rw[dl]at h
  by_cases hy:y=x
  ·subst hy
   rw[if_pos rfl]at h
   cases h
   exact⟨i,.ref a,hi,hv,hs,by rw[ai];exact⟨a,vs,true,rfl,(ay hab).trans ha,⟨rfl,ho⟩,r'⟩⟩
  ·rw[if_neg hy]at h
   obtain⟨j,w,e1,e2,e3,e4⟩:=E.get y e o h
   refine⟨j,w,e1,e2,e3,e4.mono (st fun p=>?_)⟩
   cases o with
   | true=>have:=p.2;rw[hob]at this;cases this;exact hy rfl
   | false=>have:=p rfl;rw[hob]at this;cases this
 ·by_cases hz:c=b
  ·subst hz;exact⟨_,aF⟩
  ·rw[ay hz];exact E.own c hc
theorem Fz{m:Expr}{p3:Pos}{Ls:List (List Int)}{l:List Int}{jm v:Int}{n nm k1 k2:Nat}(hx:ρ x=some (.lst (Ls.map jt),true))(h:ED X ρ e (.int v) k)(hi:ED X ρ i (.int j) k1)(hm:ED X ρ m (.int jm) k2)(hn:fi x=true)
  (h1:ju Ls.length j=some n) (h2:Ls[n]?=some l) (h3:ju l.length jm=some nm) (hd:∀a y,Ls[a]?=some y->a≠n->y≠l) (hs:fV i) (hsl:∀a b c p,m ≠ .Slice a b c p) :
  SD X H0 ρ (.Assign [.Subscript (.Subscript (.Name x p1) i p2) m p3] e pos) (.nx (bE ρ x (.lst ((Ls.set n (l.set nm v)).map jt),true))):=by
 intro pins s σ H D I ⟨ow,E,hl,B,q⟩
 obtain⟨ix,a,vs,g1,g2,g3,g4,g5,g6⟩:=Ax I E hx
 have pn:PE X (.Name x p1) (lT ix):=g9 g1 g2 (cS hn).1 (cS hn).2
 obtain⟨w,hw,rw'⟩:=g6.get (i:=n) (d:=jt l) (by rw[V9,h2];rfl)
 unfold jt at rw'
 rw[ai]at rw'
 obtain⟨b,us,bb,rfl,hb,pb,rl⟩:=rw'
 cases pb.1.1
 have eu:=jo rl
 subst eu
 refine jS (h ow) (uw (qe xl pn (hi ow) hs) (hm ow) ue (fun v=>by cases m<;>first|rfl|exact absurd rfl (hsl _ _ _ _))) lU (by cases e<;>rfl) rfl pins s σ H D I ⟨E,fun v' H1 s1 r1=>?_⟩
 rw[ai]at r1;subst r1
 refine⟨_,g3,E.same s1,fun u H2 s2 r2=>?_⟩
 rw[ai]at r2;subst r2
 have s12:=s1.trans s2
 refine⟨a,vs,j,.ref b,rfl,rfl,cn.of (s12 _ _ g4),?_,E.same s12,fun u H3 s3 r3=>?_⟩
 ·unfold L2.atI
  rw[<- g6.length,Vi,h1]
  exact hw
 rw[ai]at r3;subst r3
 have s13:=s12.trans s3
 refine⟨b,l.map V.int,jm,nm,rfl,rfl,s13 _ _ hb,by rw[Vi];exact h3,?_⟩
 have em:(l.map V.int).set nm (.int v)=(l.set nm v).map V.int:=by rw[List.map_set]
 rw[em]
 have hb':H3 b=some (.lst (l.map V.int)):=s13 _ _ hb
 refine q ow σ _ (GU (E.same s13) g1 g3 g2 (s13 _ _ g4) g5 hb' pb.1.2 (V2 pb.2) ?_) hl (kE s13 hb pb.1.2)
 exact(wH (fun _ _ p=>p.1) hb' ((g6.same s13).imp fun _ _ p=>p.1) h2 hw hd)
def tz(ρ:af)(x:Str):af:=fun y=>if y=x then none else ρ y
theorem GS{us:List V}(E:aO X ow H1 σ ρ)(hb:H1 b=some (.lst us))(hob:ow b=some (some x)):aO X ow (aH H1 b (.lst us')) σ (tz ρ x):=by
 have st:∀{P:bn},(P b true->False)->dF P P H1 (aH H1 b (.lst us')):=fun {P} h=>⟨fun c o hc hn=>by rw[ay (fun z=>by subst z;rw[hb]at hc;cases hc;exact hn)];exact hc,fun c ws hc p=>by rw[ay (fun z=>by subst z;exact h p)];exact hc,fun _ _ _ p=>p,fun _ p=>p⟩
 refine⟨fun y e o h=>?_,fun c hc=>?_⟩
 ·unfold tz at h
  by_cases hy:y=x
  ·rw[if_pos hy]at h;cases h
  ·rw[if_neg hy]at h
   obtain⟨j,w,e1,e2,e3,e4⟩:=E.get y e o h
   refine⟨j,w,e1,e2,e3,e4.mono (st fun p=>?_)⟩
   cases o with
   | true=>have:=p.2;rw[hob]at this;cases this;exact hy rfl
   | false=>have:=p rfl;rw[hob]at this;cases this
 ·by_cases hz:c=b
  ·subst hz;exact⟨_,aF⟩
  ·rw[ay hz];exact E.own c hc
theorem Cn{p:Addr}(h:cD K H p vs)(s:aA H H1):cD K H1 p vs:=by
 rcases h with(h|⟨o,h⟩)|h
 ·exact .inl (.inl (s _ _ h))
 ·exact .inl (.inr ⟨o,s _ _ h⟩)
 ·exact .inr h
theorem FE{m:Str}{M:List D->List D->Nat->Rs (List D)}{ap cp p4:Pos}{dt:List D}{ki:Nat}{o:List Prop}(hcalm:X.calm=true)(hM:k7 m M)(hx:ρ x=some (.tup dt,true))(hi:ED X ρ i (.int j) ki)(hs:fV i)(hat:L2.atI dt j=some (.lst l))
  (h:AD X ρ [e] [d] k) (hst:∀y p,e ≠ .Starred y p) (hn:fi x=true) (hln:(ap.endLine==cp.line)=true) (hm:M l [d] k=.ok l' o) (hp:aM o):SD X H0 ρ (.Expr (.Call (.Attribute (.Subscript (.Name x p1) i p2) m ap) [e] [] cp) p4) (.nx (tz ρ x)):=by
 obtain⟨id,r,sl,ty,mt,hr⟩:=hM X hcalm
 intro pins s σ H D I ⟨ow,E,hl,B,q⟩
 obtain⟨ix,v,g1,g2,g3,g4⟩:=E.get x _ _ hx
 have pn:PE X (.Name x p1) (lT ix):=g9 g1 g2 (cS hn).1 (cS hn).2
 obtain⟨p,vs,rfl,hq,rl⟩:=eN g4
 obtain⟨w,hw,rw'⟩:=rl.atI hat
 rw[ai]at rw'
 obtain⟨b,us,bb,rfl,hb,pb,rl2⟩:=rw'
 cases pb.1
 have hfew:((backTo cp (starEach [e] X.env)).all (fun x => !x.1)&&(backToKw cp (keywordEach [] X.env)).all (fun x=>x.1.isSome)&&decide ([e].length+([]:List Keyword).length+(if ([]:List Keyword).isEmpty then 0 else 1)<30))=true:=by
  rw[kC (fun z hz=>by rw[WF.mp hz];exact hst)];rfl
 refine jR (Em PySem.F.plainAttrs_list sl ty mt (qe A7 pn (hi ow) hs) (h ow) rfl hfew hln (aG hst) (bt fun z hz=>by cases hz)) rfl pins s σ H D I ⟨_,g3,E,fun u H1 s1 r1=>?_⟩
 rw[ai]at r1;subst r1
 refine⟨p,vs,j,.ref b,rfl,rfl,Cn hq s1,hw,.inl ⟨rfl,_,cn.of (s1 _ _ hb)⟩,E.same s1,fun ws H2 s2 r2=>?_⟩
 have s12:=s1.trans s2
 refine(hr ow H1 H2 l [d] l' k o b us ws hm hp).2 (fun _ _=>True) _ (fun _ _ _=>True.intro) (E.own.same s1) s2 (s12 _ _ hb) ((rl2.imp fun _ _ _=>True.intro).same s12) r2 fun vs' _ rv=>?_
 exact q ow σ _ (GS (E.same s12) (s12 _ _ hb) pb.2) hl (kE s12 hb pb.2)
def xL(X:Cx)(H0:Hp)(tg:Expr)(body:List Stmt):List D->af->Fl->Prop
 | [],ρ,fl=>fl=.nx ρ
 | d::ds,ρ,fl => ∃ρ1,GD X ρ tg d ρ1/\((∃ρ2,fo X H0 ρ1 body (.nx ρ2)/\xL X H0 tg body ds ρ2 fl)\/∃r,fl=.rt r/\fo X H0 ρ1 body (.rt r))
theorem wE{body:List Stmt}(hp:PassesOwn (model X.prog X.w) X.A X.env X.xe)(hcalm:X.calm=true)
  (hi:IE X (demote iter ρ) tg iter ds k) (hk:k<=1) (h:xL X H0 tg body ds (demote iter ρ) fl)
  (hs:∀x,foldedSetIterable iter X.env x=pure x):SD X H0 ρ (.For tg iter body [] pos) fl:=by
 intro pins s σ H D0 I ⟨ow0,E0,hl,B0,q0⟩
 obtain⟨ow,E,k0⟩:=qE (e:=iter) E0
 have B:=B0.keep k0
 have q:=q0.keep k0
 have pb:fe X body (fun D σ H => ∃ρ fl,fo X H0 ρ body fl/\Ae X H0 ρ fl D σ H):=fun pins s σ H D I ⟨ρ1,fl1,h1,h2⟩=>h1 pins s σ H D I h2
 have pg:PG X tg (fun v σ H Q => ∃g:TG,PG X tg g/\g v σ H Q):=fun pins s σ H v u Q I r ⟨g,h1,h2⟩=>h1 pins s σ H v u Q I r h2
 refine ut hp hcalm (hi ow) pg pb hs pins s σ H D0 I ⟨E,fun J H1 s1 itd=>?_⟩
 refine⟨fun i m σ' H'=>m=ds.length-i/\i<=ds.length/\∃ow' ρ',aO X ow' H' σ' ρ'/\σ'.length=X.N.length/\ck H0 ow' H'/\bg ow H1 ow' H'/\xL X H0 tg body (ds.drop i) ρ' fl,
  ⟨ds.length,by simp,Vm _,ow,_,E.same s1,hl,B.keep (bg.same s1),bg.refl _ _,h⟩,?_⟩
 rintro i m σ' H' ⟨rfl,hile,ow',ρ',E',hl',B',k',hf⟩
 have q':pH X H0 ow' H' fl D0:=q.keep ((bg.same s1).trans k')
 have st:dF (Kd ow H k H1) (Kd ow H k H1) H1 H':=⟨fun a o ha hn=>k'.keep a o ha (.inl hn),fun a vs ha p=>k'.keep a _ ha (.inr (fT E.own hk p.1)),fun _ _ _ p=>p,fun _ p=>p⟩
 have it:=itd i H' st
 by_cases hlt:i<ds.length
 ·obtain⟨go,yl⟩:=it.1 ds[i] (VB hlt)
  have hdrop:ds.drop i=ds[i]::ds.drop (i+1):=List.drop_eq_getElem_cons hlt
  rw[hdrop]at hf
  refine .inr ⟨go,fun σ2 H2=>i+1<=ds.length/\∃ow2 ρ2,aO X ow2 H2 σ2 ρ2/\σ2.length=X.N.length/\ck H0 ow2 H2/\bg ow H1 ow2 H2/\xL X H0 tg body (ds.drop (i+1)) ρ2 fl,fun σ2 H2 n=>⟨ds.length-(i+1),by omega,rfl,n.1,n.2⟩,fun x H3 y3=>?_⟩
  obtain⟨sm3,rx⟩:=yl x H3 y3
  obtain⟨ρ1,⟨g,g1,g2⟩,hf⟩:=hf
  have rx':ai X.K H3 (fun a b=>b=true->ow' a=none) ds[i] x:=rx.impH (fun a o ha p _=>by
   obtain⟨o1,h1⟩:=p.2 rfl
   exact k'.low a o1 h1 (fT E.own hk p.1)) fun a _ z=>(by cases z)
  refine⟨g,g1,g2 ow' x σ' H3 _ hl' (E'.same sm3) rx' fun σ2 hl2 E2=>?_⟩
  have k3:bg ow' H' ow' H3:=bg.same sm3
  rcases hf with⟨ρ2,hb,hf⟩|⟨r,rfl,hb⟩
  ·exact⟨ρ1,.nx ρ2,hb,ow',E2,hl2,B'.keep k3,fun ow2 σ3 H4 a b c=>⟨hlt,ow2,ρ2,a,b,(B'.keep k3).keep c,k'.trans (k3.trans c),hf⟩⟩
  ·exact⟨ρ1,.rt r,hb,ow',E2,hl2,B'.keep k3,q'⟩
 ·have ei:i=ds.length:=by omega
  subst ei
  rw[List.drop_length]at hf
  cases (show fl=.nx ρ' from hf)
  exact .inl ⟨it.2 (Vf _),q' ow' σ' H' E' hl' (bg.refl _ _)⟩
def B6(X:Cx)(tg:Expr)(c:Expr):List D->af->af->Prop
 | [],ρ,ρ'=>ρ'=ρ
 | d::ds,ρ,ρ' => ∃ρ1,GD X ρ tg d ρ1/\TD X ρ1 c false/\B6 X tg c ds ρ1 ρ'
theorem FF{ρf:af}{a:List Stmt}{q0:Pos}(hp:PassesOwn (model X.prog X.w) X.A X.env X.xe)(hcalm:X.calm=true)
  (hi:IE X ρ tg iter ds k) (hll:ar ds=true) (h:B6 X tg c ds ρ ρf)
  (hs:∀x,foldedSetIterable iter X.env x=pure x):SD X H0 ρ (.For tg iter [.If c a [] q0] [] pos) (.nx ρf):=by
 intro pins s σ H D0 I ⟨ow,E,hl,B,q⟩
 have pb:fe X [.If c a [] q0] (fun D σ H => ∃ρ,TD X ρ c false/\aO X ow H σ ρ/\∀H2,aA H H2->D.nx σ H2):=fun pins s σ H D I ⟨ρ1,h1,h2,h3⟩=>fh (yr (h1 ow) fR rk) rk pins s σ H D I ⟨h2,fun H2 s2=>by
  show if false=true then _ else _
  rw[if_neg Vp]
  exact h3 H2 s2⟩
 have pg:PG X tg (fun v σ H Q => ∃g:TG,PG X tg g/\g v σ H Q):=fun pins s σ H v u Q I r ⟨g,h1,h2⟩=>h1 pins s σ H v u Q I r h2
 refine ut hp hcalm (hi ow) pg pb hs pins s σ H D0 I ⟨E,fun J H1 s1 itd=>?_⟩
 refine⟨fun i m σ' H'=>m=ds.length-i/\i<=ds.length/\∃ρ',aO X ow H' σ' ρ'/\σ'.length=X.N.length/\aA H1 H'/\B6 X tg c (ds.drop i) ρ' ρf,
  ⟨ds.length,by simp,Vm _,_,E.same s1,hl,aA.refl _,h⟩,?_⟩
 rintro i m σ' H' ⟨rfl,hile,ρ',E',hl',sm,hf⟩
 have st:dF (Kd ow H k H1) (Kd ow H k H1) H1 H':=⟨fun a o ha _=>sm a o ha,fun a o ha _=>sm a o ha,fun _ _ _ p=>p,fun _ p=>p⟩
 have it:=itd i H' st
 by_cases hlt:i<ds.length
 ·obtain⟨go,yl⟩:=it.1 ds[i] (VB hlt)
  have hdrop:ds.drop i=ds[i]::ds.drop (i+1):=List.drop_eq_getElem_cons hlt
  rw[hdrop]at hf
  refine .inr ⟨go,fun σ2 H2=>i+1<=ds.length/\∃ρ2,aO X ow H2 σ2 ρ2/\σ2.length=X.N.length/\aA H1 H2/\B6 X tg c (ds.drop (i+1)) ρ2 ρf,fun σ2 H2 n=>⟨ds.length-(i+1),by omega,rfl,n.1,n.2⟩,fun x H3 y3=>?_⟩
  obtain⟨sm3,rx⟩:=yl x H3 y3
  obtain⟨ρ1,⟨g,g1,g2⟩,ht,hf⟩:=hf
  have li:ds[i].lless=true:=mr hll (List.getElem_mem hlt)
  refine⟨g,g1,g2 ow x σ' H3 _ hl' (E'.same sm3) (rx.flat _ li) fun σ2 hl2 E2=>?_⟩
  exact⟨ρ1,ht,E2,fun H4 s4=>⟨hlt,ρ1,E2.same s4,hl2,sm.trans (sm3.trans s4),hf⟩⟩
 ·have ei:i=ds.length:=by omega
  subst ei
  rw[List.drop_length]at hf
  cases (show ρf=ρ' from hf)
  exact .inl ⟨it.2 (Vf _),q ow σ' H' E' hl' (bg.same (s1.trans sm))⟩
inductive Rp(Φ:Fx)(sc:Scope)(tg c:Expr):List D->af->af->Prop where
 | nil {ρ:af}:Rp Φ sc tg c [] ρ ρ
 | cons {d:D} {ds:List D} {ρ ρ1 ρ':af} {k:Nat} (hb:bJ sc tg d ρ=some ρ1) (hc:ac (az Φ c false sc ρ1) (.bl false,k)) (h:Rp Φ sc tg c ds ρ1 ρ'):Rp Φ sc tg c (d::ds) ρ ρ'
inductive Xo(Φ:Fx)(sc:Scope)(ρ:af):Option Expr->Option Int->Prop where
 | no:Xo Φ sc ρ none none
 | yes {e:Expr} {i:Int} {k:Nat} (h:ac (az Φ e false sc ρ) (.int i,k)):Xo Φ sc ρ (some e) (some i)
inductive sR(Φ:Fx)(sc:Scope)(ρ:af):Expr->D->Prop where
 | name {x:Str} {p:Pos} {m:List D} (h:ρ x=some (.lst m,false)) (hx:fi x=true):sR Φ sc ρ (.Name x p) (.lst m)
 | cut {e:Expr} {lo hi:Option Expr} {l h:Option Int} {m:List D} {p2 p:Pos} (he:sR Φ sc ρ e (.lst m)) (hl:Xo Φ sc ρ lo l) (hh:Xo Φ sc ρ hi h):sR Φ sc ρ (.Subscript e (.Slice lo hi none p2) p) (.lst (ir m l h))
 | cat {a b:Expr} {l m:List D} {p:Pos} (ha:sR Φ sc ρ a (.lst l)) (hb:sR Φ sc ρ b (.lst m)) (hn:l.length+m.length<=bO):sR Φ sc ρ (.BinOp a .Add b p) (.lst (l++m))
theorem D3{e:Option Expr}{i:Option Int}(G:aS Φ X sc)(h:Xo Φ sc ρ e i):OD X ρ e i:=by
 cases h with
 | no=>exact wU
 | yes h=>exact wT ((bH h G).ed rfl)
theorem JI(m:List D):kn (.lst m) 1=1:=by rfl
theorem D2(G:aS Φ X sc)(h:sR Φ sc ρ e d):ED X ρ e d 1/\iY e=false:=by
 induction h with
 | name h hx=>exact⟨by have:=xB (X:=X) (pos:=‹Pos›) h hx;rw[show cond false 2 1=1 from rfl,JI]at this;exact this,rfl⟩
 | cut he hl hh ih=>exact⟨G5 ih.1 (D3 G hl) (D3 G hh),rfl⟩
 | cat ha hb hn ia ib=>exact⟨G7 ia.1 ib.1 hn,rfl⟩
mutual
inductive Rf(Φ:Fx)(sc:Scope):List Stmt->af->Fl->Prop where
 | base {ss:List Stmt} {ρ:af} {fl:Fl} (h:ac (aD Φ ss sc ρ) fl):Rf Φ sc ss ρ fl
 | cut (n:Nat) {ss:List Stmt} {ρ ρ1:af} {fl:Fl} (h:ac (aD Φ (ss.take n) sc ρ) (.nx ρ1)) (k:Rf Φ sc (ss.drop n) ρ1 fl):Rf Φ sc ss ρ fl
 | seq {s:Stmt} {ss:List Stmt} {ρ ρ1:af} {fl:Fl} (h:oE Φ sc s ρ (.nx ρ1)) (k:Rf Φ sc ss ρ1 fl):Rf Φ sc (s::ss) ρ fl
 | stop {s:Stmt} {ss:List Stmt} {ρ:af} {r:D} (h:oE Φ sc s ρ (.rt r)):Rf Φ sc (s::ss) ρ (.rt r)
 | dem {ss:List Stmt} {ρ:af} {fl:Fl} (k:Rf Φ sc ss (bY ρ) fl):Rf Φ sc ss ρ fl
inductive oE(Φ:Fx)(sc:Scope):Stmt->af->Fl->Prop where
 | set {x:Str} {e:Expr} {px q:Pos} {ρ:af} {d:D} (h:Xd Φ sc ρ e d) (hx:cT sc x=true) (hc:iY e=false):oE Φ sc (.Assign [.Name x px] e q) ρ (.nx (bE ρ x (d,true)))
 | setS {x:Str} {e:Expr} {px q:Pos} {ρ:af} {d:D} (h:sR Φ sc ρ e d) (hx:cT sc x=true):oE Φ sc (.Assign [.Name x px] e q) ρ (.nx (bE ρ x (d,false)))
 | app1 {x m:Str} {M:List D->List D->Nat->Rs (List D)} {i e:Expr} {p1 p2 ap cp p4:Pos} {ρ:af} {dt l l':List D} {d:D} {j:Int} {k ki:Nat} (hM:Φ.mtt m=some M) (hx:ρ x=some (.tup dt,true)) (hi:ac (az Φ i false sc ρ) (.int j,ki)) (hs:fV i) (hat:L2.atI dt j=some (.lst l)) (h:ac (bG Φ [e] sc ρ) ([d],k)) (hn:fi x=true) (hln:(ap.endLine==cp.line)=true) (hm:ac (M l [d] k) l') :
  oE Φ sc (.Expr (.Call (.Attribute (.Subscript (.Name x p1) i p2) m ap) [e] [] cp) p4) ρ (.nx (tz ρ x))
 | sto2 {x:Str} {e i m:Expr} {p1 p2 p3 pos:Pos} {ρ:af} {Ls:List (List Int)} {l:List Int} {j jm v:Int} {n nm k k1 k2:Nat} (hx:ρ x=some (.lst (Ls.map jt),true)) (h:ac (az Φ e false sc ρ) (.int v,k)) (hi:ac (az Φ i false sc ρ) (.int j,k1)) (hm:ac (az Φ m false sc ρ) (.int jm,k2)) (hn:fi x=true)
  (h1:ju Ls.length j=some n) (h2:Ls[n]?=some l) (h3:ju l.length jm=some nm) (hd:∀a y,Ls[a]?=some y->a≠n->y≠l) (hs:fV i) (hsl:∀a b c p,m ≠ .Slice a b c p) :
  oE Φ sc (.Assign [.Subscript (.Subscript (.Name x p1) i p2) m p3] e pos) ρ (.nx (bE ρ x (.lst ((Ls.set n (l.set nm v)).map jt),true)))
 | ret {e:Expr} {q:Pos} {ρ:af} {d:D} (h:Xd Φ sc ρ e d):oE Φ sc (.Return (some e) q) ρ (.rt d)
 | iff {c:Expr} {a b:List Stmt} {pos:Pos} {ρ:af} {t:Bool} {k:Nat} {fl:Fl} (hc:ac (az Φ c false sc ρ) (.bl t,k)) (h:Rf Φ sc (cond t a b) ρ fl):oE Φ sc (.If c a b pos) ρ fl
 | forC {tg it:Expr} {body:List Stmt} {pos:Pos} {ρ:af} {d:D} {ds:List D} {k:Nat} {fl:Fl} (hi:ac (az Φ it true sc (demote it ρ)) (d,k)) (hd:items d=some ds) (hk:k<=1) (ht:eh it tg=true) (h:Rc Φ sc tg body ds (demote it ρ) fl):oE Φ sc (.For tg it body [] pos) ρ fl
 | forP {tg it c:Expr} {a:List Stmt} {pos q:Pos} {ρ ρ':af} {d:D} {ds:List D} {k:Nat} (hi:ac (az Φ it true sc ρ) (d,k)) (hd:items d=some ds) (hl:ar ds=true) (ht:eh it tg=true) (h:Rp Φ sc tg c ds ρ ρ'):oE Φ sc (.For tg it [.If c a [] q] [] pos) ρ (.nx ρ')
inductive Rc(Φ:Fx)(sc:Scope):Expr->List Stmt->List D->af->Fl->Prop where
 | nil {tg:Expr} {body:List Stmt} {ρ:af}:Rc Φ sc tg body [] ρ (.nx ρ)
 | cons {tg:Expr} {body:List Stmt} {d:D} {ds:List D} {ρ ρ1 ρ2:af} {fl:Fl} (hb:bJ sc tg d ρ=some ρ1) (h:Rf Φ sc body ρ1 (.nx ρ2)) (k:Rc Φ sc tg body ds ρ2 fl):Rc Φ sc tg body (d::ds) ρ fl
 | stop {tg:Expr} {body:List Stmt} {d:D} {ds:List D} {ρ ρ1:af} {r:D} (hb:bJ sc tg d ρ=some ρ1) (h:Rf Φ sc body ρ1 (.rt r)):Rc Φ sc tg body (d::ds) ρ (.rt r)
end
theorem MH{ρ':af}(G:aS Φ X sc)(h:Rp Φ sc tg c ds ρ ρ'):B6 X tg c ds ρ ρ':=by
 induction h with
 | nil=>exact rfl
 | cons hb hc h ih=>exact⟨_,nW G hb,(bH hc G).td rfl false rfl,ih⟩
theorem yo(G:aS Φ X sc)(hp:PassesOwn (model X.prog X.w) X.A X.env X.xe)(h:Rf Φ sc ss ρ fl):fo X H0 ρ ss fl:=by
 refine Rf.rec (motive_1:=fun ss ρ fl _=>fo X H0 ρ ss fl) (motive_2:=fun s ρ fl _=>SD X H0 ρ s fl) (motive_3:=fun tg body ds ρ fl _=>xL X H0 tg body ds ρ fl) ?_ ?_ ?_ ?_ ?_ ?_ ?_ ?_ ?_ ?_ ?_ ?_ ?_ ?_ ?_ ?_ h
 ·intro ss ρ fl h;exact vk _ h G hp
 ·intro n ss ρ ρ1 fl h k ih;rw[<- WS n ss];exact nB G hp h ih
 ·intro s ss ρ ρ1 fl h k i1 i2;exact ff i1 i2
 ·intro s ss ρ r h ih;exact iR ih fun _ z=>nomatch z
 ·intro ss ρ fl k ih;exact wz ih
 ·intro x e px q ρ d h hx hc;exact pZ G hx (D4 G h) (.inl ⟨rfl,rfl⟩) (fC hc)
 ·intro x e px q ρ d h hx;exact pZ G hx (D2 G h).1 (.inr ⟨rfl,rfl⟩) (fC (D2 G h).2)
 ·intro x m M i e p1 p2 ap cp p4 ρ dt l l' d j k ki hM hx hi hs hat h hn hln hm
  obtain⟨l7,h7,p7⟩:=h
  obtain⟨hst,_⟩:=b0 h7 p7
  obtain⟨o,hm,hp⟩:=hm
  exact FE G.calm (G.mtt m M hM) hx ((bH hi G).ed rfl) hs hat (fF [_] h7 p7 G) (hst e Vb) hn hln hm hp
 ·intro x e i m p1 p2 p3 pos ρ Ls l j jm v n nm k k1 k2 hx h hi hm hn h1 h2 h3 hd hs hsl;exact Fz hx ((bH h G).ed rfl) ((bH hi G).ed rfl) ((bH hm G).ed rfl) hn h1 h2 h3 hd hs hsl
 ·intro e q ρ d h;exact ug (D4 G h) (.inl rfl)
 ·intro c a b pos ρ t k fl hc h ih
  refine ym ((bH hc G).td rfl t rfl) ?_
  cases t with
  | true=>rw[if_pos rfl];exact ih
  | false=>rw[if_neg Vp];exact ih
 ·intro tg it body pos ρ d ds k fl hi hd hk ht h ih
  obtain⟨l,h1,h2⟩:=hi
  exact wE hp G.calm ((bH ⟨l,h1,h2⟩ G).ie rfl _ ds hd ht) hk ih (ii h1)
 ·intro tg it c a pos q ρ ρ' d ds k hi hd hl ht h
  obtain⟨l,h1,h2⟩:=hi
  exact FF hp G.calm ((bH ⟨l,h1,h2⟩ G).ie rfl _ ds hd ht) hl (MH G h) (ii h1)
 ·intro tg body ρ;exact rfl
 ·intro tg body d ds ρ ρ1 ρ2 fl hb h k i1 i2;exact⟨_,nW G hb,.inl ⟨_,i1,i2⟩⟩
 ·intro tg body d ds ρ ρ1 r hb h ih;exact⟨_,nW G hb,.inr ⟨_,rfl,ih⟩⟩

end Sp
namespace K
open PySem L2 Sp Qm
section
variable{Φ:Fx}{sc:Scope}{ρ ρ1:af}{ss:List Stmt}{P Q:af->Prop}
theorem IG{b k:Nat}(h:b<=700):ac (ig [.int 2,.int (b:Nat)] k) (.lst ((List.range (b-2)).map fun m=>.int ((2+m:Nat):Int)),0):=by
 have e:((b:Int)-2).toNat=b-2:=by omega
 refine⟨[(-4611686018427387904:Int)<=2,(2:Int)<=4611686018427387000,(-4611686018427387904:Int)<=b,(b:Int)-2<=800],?_,by decide,by decide,by omega,by omega,True.intro⟩
 show Rs.ok (D.lst ((List.range ((b:Int)-2).toNat).map fun m=>D.int (2+(m:Nat))),0) _=_
 rw[e];rfl
theorem NI(bs:List Bool):ac (rW [.lst (bs.map D.bl)]) (.bl (bs.all id),0):=by
 have e:cY (bs.map D.bl)=some bs:=by
  induction bs with
  | nil=>rfl
  | cons b bs ih=>rw[Vx,cY,ih];rfl
 unfold rW;dsimp only;rw[e];exact⟨_,rfl,True.intro⟩
end
end K
namespace Sp
open PySem PySem.Spec PyProof.Rows L2
variable{P:Program}{w:World}{H H' H0:Hp}{base h:Heap}{B a b c g n qual x y:Str}{o:Obj}{X Y:Cx}{C S f z:Addr}{mc:Value}{p p0 p1 p2 p3 pos q tpos:Pos}{es:List Expr}{t:TA}{cd:ClassData}{e:Expr}{j k kd:Nat}{K:W.Frag}{mg:Str->Option Value}{st:Stmt}{fd:FuncData}{pins:List (Addr×Obj)}{σ:L2.St}{s:Shared}{ps:List Str}{Q:Flow->Shared->Prop}{sp:L2.Sp}{E:XK}{ρ:af}{ow:Ow}{ss tb:List Stmt}{Φ:Fx}{sc:Scope}{fs:List (Str×Int)}{G:List D->Option Xs}{ds:List D}{Ψ:Str->Option (List D->Option Xs)}{Ex:Str->Option (Str×Option Str)}{d r:D}{F:List D->Rs D}{l:List (Str×Str×Option Str)}
abbrev ij(x:Addr)(o:Obj):HO:=.ext (fun h=>h.get? x=some o)
theorem vo{x:Addr}(e:h.get? x=some o):bD P w H h x (ij x o):=⟨e,⟨o,e⟩,fun h1 h2 a b=>b _ a⟩
theorem vp{x:Addr}(e:bD P w H h x (ij x o)):h.get? x=some o:=e.1
theorem CF{apos:Pos}{e1:Expr}(hg:Gl X b)(hm:X.mg b=some (.ref S))(hga:W.specialIn X.K (.ref S) "__getattribute__" = some (some (.builtin "type.__getattribute__")))
  (hrd:W.readsIn X.K S mc=true) (hfc:W.findCls X.K (.ref S) mc "__init__" = some (.val (.builtin "ValueError.__init__"))) (hex:iq X.K C S=true) (ha:PA X (e1::es) t)
  (hst:starEach (e1::es) X.env=(false,eval e1 X.env)::starEach es X.env) (hpl:(backTo pos (starEach es X.env)).any (·.1)=false) (hdb:(b==("__debug__" : Str))=false)
  (ht:eval (.Call (.Attribute (.Name b p) "__init__" apos) (e1::es) [] pos) X.env=(do
   let ov <- eval (.Name b p) X.env
   standAt apos.atName
   let (f,first) <- holding [ov] (getMethod ov "__init__" (do return (<- importBound (.Name b p) X.env).getD true))
   callWith pos f first (backTo pos (starEach (e1::es) X.env)) (backToKw pos (keywordEach [] X.env)))) :
  PE X (.Call (.Attribute (.Name b p) "__init__" apos) (e1::es) [] pos) (fun σ H Q=>t σ H fun vs H1 => ∃x y o vv t0,vs=[.ref x,y]/\H1 x=some (ij x o)/\o.cls=.ref C/\o.data=.fields vv/\vv[0]?=some (.ref t0)/\∀t1,Q .non (aH H1 x (ij x { o with data:=.fields (vv.setIfInBounds 0 (.ref t1)) }))):=by
 intro pins s σ H Q I h
 obtain⟨nm,qn,N,bs,hdct,sn,sub,ab,col,dd,k0,k1,k2,k3,k5,mN,g1,g2,g3,g4⟩:=fO hex I.ok.mod.kin
 refine W.methodCall_KW (pl:=(do return (<- importBound (.Name b p) X.env).getD true)) (dU I hg hm ?_ hdb) ht
 refine W.method_cls I.kIn hga (W.cls_value I.kIn hrd hfc rfl ?_)
 have I':=I.tok (s.toks+1)
 refine PyProof.Rows.callWith_builtin1 (aQ (ha pos pins _ σ H _ I' h) fun us s2 ⟨vs,H2,I2,r,q2⟩=>?_) hst hpl
 obtain⟨x,y,o,vv,t0,rfl,hx,hc,hd,h0,q⟩:=q2
 have e0:=vp (I2.hok x _ hx)
 cases r with
 | cons r1 r =>
  cases r with
  | cons r2 r =>
   cases r
   cases r1
   refine zb PySem.F.excBase_ValueError ((OwnTailQ.tail g4).keeps I2.bk) (Code.quiet_builtin _ (by decide)) (I2.bk _ _ g1) e0 hc hd h0 (fun h' w1 w2=>?_)
   exact⟨.non,_,I2.write (x:=x) (e:=x) (by rw[hx];exact True.intro) (.inl rfl) w1 ⟨_,w2⟩ (vo w2),rfl,q _⟩
theorem FN{o value:Expr}{ta tv:TE}{f:Str}{pos':Pos}(hcd:W.clsIn X.K C=some cd)(hmro:cd.mro=.ref C :: .ref S::fU)(hdd:cd.hasDict=true)(hsa:W.findIn X.K (.ref C) "__setattr__" = some (some (.builtin "object.__setattr__")))(hff:W.findIn X.K (.ref C) f=some none)
  (ha:PE X o ta) (hv:PE X value tv) (hs:swapsWith value (some (.Attribute o f pos')) pos.line X.env=pure false):PS X (.Assign [.Attribute o f pos'] value pos) (fun D σ H=>tv σ H fun y H1=>ta σ H1 fun x H2 => ∃a ob vv,x=.ref a/\H2 a=some (ij a ob)/\ob.cls=.ref C/\ob.data=.fields vv/\ob.dict=none/\∀dx,H2 dx=none->D.nx σ (aH (aH H2 a (ij a { ob with dict:=some dx })) dx (.xd [(f,y)]))):=by
 intro pins s σ H D I h
 refine plainObj_wpAny_Assign_Attribute (aQ (hv pins s σ H _ I h) fun u s1 ⟨y,H1,I1,ry,q⟩=>aQ (ha pins s1 σ H1 _ I1 q) fun ov s2 ⟨x,H2,I2,rx,a,ob,vv,ex,ea,c1,c2,c3,q2⟩=>?_) hs
 subst ex
 obtain rfl:ov=Value.ref a:=rx
 have e0:=vp (I2.hok a _ ea)
 refine GJ I2.kIn e0 c1 c2 c3 hcd hmro hdd hsa hff (fun h' dx w1 w2 w3 w4=>?_)
 have n1:H2 dx=none:=I2.hok.fresh w1
 have hne:a≠dx:=fun z=>by subst z;rw[n1]at ea;cases ea
 have up:(s2.heap.update a fun _ => { ob with dict:=some dx }).get? a=some { ob with dict:=some dx }:=V3 _ e0 (by show Obj.isFreed _=false;unfold Obj.isFreed;rw[c2])
 have J1:aj X pins σ (aH H2 a (ij a { ob with dict:=some dx })) { s2 with heap:=s2.heap.update a fun _ => { ob with dict:=some dx },toks:=s2.toks }:=I2.write (x:=a) (e:=a) (by rw[ea];exact True.intro) (.inl rfl) (fun b u hb e=>(Vq _ _ hb.symm).trans e) ⟨_,up⟩ (vo up)
 have J2:=J1.laid (a:=dx) (o:=.xd [(f,y)]) (h':=h') (t':=s2.toks+2) (fun b u e=>by
  by_cases hb:b=a
  ·subst hb
   have:some { ob with dict:=some dx }=some u:=up.symm.trans e
   rw[w3,this]
  ·exact w2 b u hb ((Vq _ _ (V2 hb)).symm.trans e)) (by show(s2.heap.update a _).objs.size<=dx;rw[Heap.size_update];exact w1) ⟨_,w4,fun g=>by
   by_cases hg:g=f
   ·subst hg;simp[Vn];exact ry
   ·rw[if_neg hg,Vn,show(g==f)=false from by simpa using hg];exact True.intro⟩
 exact⟨σ,_,J2,q2 dx n1⟩
theorem Jf{te:TE}(he:PE X e te)(ha:a.length<=200):PE X (.JoinedStr [.Constant (.str a) kd p0,.FormattedValue e (-1) none p1] p3) (fun σ H Q=>te σ H fun v H1 => ∃i:Int,v=.int i/\i.natAbs<2 ^ 1900/\∀y,Q (.str y) H1):=by
 intro pins s σ H Q I h
 have hz:(2200:Nat)<=sizeLine:=by rw[WG];decide
 refine wpAny_JoinedStr ?_
 show wpAny _ _ (eval (.Constant (.str a) kd p0) X.env) (fun v s₁ => ∃y t',v=Value.str y t'/\(Str.empty++y).length<=sizeLine/\wpAny _ _ (eval (.FormattedValue e (-1) none p1) X.env) (fun v s₂ => ∃z t'',v=Value.str z t''/\(Str.empty++y++z).length<=sizeLine/\_) _ s₁) _ s
 refine wpAny_Constant_str ⟨_,_,rfl,?_,?_⟩
 ·rw[V1];omega
 refine wpAny_FormattedValue_plain ?_
 refine aQ (he pins _ σ H _ (I.tok _) h) fun u s1 ⟨v,H1,I1,r1,i,e1,hi,q⟩=>?_
 subst e1
 obtain⟨tk,rfl⟩:=r1
 have hl:i.natAbs.log2<1920:=by
  rcases We i.natAbs with z|z
  ·rw[z];decide
  ·exact Vj ((Nat.log2_lt (VP z)).mpr hi) (by decide)
 have tl:=int_text_len_1921 hl
 refine wpAny_formatField_int hl ⟨_,_,rfl,?_,?_⟩
 ·rw[V1,Wo];omega
 ·refine⟨?_,.str _,H1,(I1.tok _).tok _,⟨_,rfl⟩,q _⟩
  rw[V1,Wo];omega
def t8(C:Addr)(f:Str):Sp:=fun vs H Q _ => ∃x i o vv t0,vs=[.ref x,.int i]/\i.natAbs<2 ^ 1900/\H x=some (ij x o)/\o.cls=.ref C/\o.data=.fields vv/\o.dict=none/\vv[0]?=some (.ref t0) /\
 ∀t1 dx,H dx=none->Q .non (aH (aH H x (ij x ⟨o.cls,some dx,.fields (vv.setIfInBounds 0 (.ref t1)),o.slots⟩)) dx (.xd [(f,.int i)]))
theorem B8{S0:Addr}(Fn:ke K g qual st f fd){s0 a1 fl:Str}{p5 p6 p7 p8 p9 uz q1 q2 q3 q4:Pos}
  (hN:aC (aa st)=[s0,a1]) (S:aN (aC (aa st)) [s0,a1] (aa st)) (hv:∀x∈[s0,a1],jf (aa st) x) (hok:∀x∈[s0,a1],fi x=true)
  (hgb:(aa st).names.lookup b=some .globalImplicit) (hm:mg b=some (.ref S0)) (hga:W.specialIn K (.ref S0) "__getattribute__" = some (some (.builtin "type.__getattribute__"))) (hrd:W.readsIn K S0 mc=true) (hfc:W.findCls K (.ref S0) mc "__init__" = some (.val (.builtin "ValueError.__init__"))) (hex:iq K C S0=true)
  (hcd:W.clsIn K C=some cd) (hmro:cd.mro=.ref C :: .ref S0::fU) (hdd:cd.hasDict=true) (hsa:W.findIn K (.ref C) "__setattr__" = some (some (.builtin "object.__setattr__"))) (hff:W.findIn K (.ref C) fl=some none)
  (hb:ak st=[.Expr (.Call (.Attribute (.Name b p1) "__init__" p2) [.Name s0 p3,.JoinedStr [.Constant (.str a) kd p5,.FormattedValue (.Name a1 p6) (-1) none p7] p8] [] p9) uz,.Assign [.Attribute (.Name s0 q1) fl q2] (.Name a1 q3) q4]) (ha:a.length<=200) (hln:(p2.endLine==p9.line)=true) (hdb:(b==("__debug__" : Str))=false) :
  bT P w K mg base dS 1 f fd [s0,a1] (t8 C fl):=by
 refine Fn.ok (k:=0) S (fun vs H Q E h=>?_) (fun cdv A outer s H vs Q E hr h=>?_)
 ·obtain⟨x,i,o,vv,t0,rfl,_⟩:=h
  rfl
 ·obtain⟨x,i,o,vv,t0,rfl,hi,hx,hc,hd,hdi,h0,q⟩:=h
  have nm:∀(i:Nat) (x:Str) (p:Pos),[s0,a1][i]?=some x->PE (i8 dS P w K mg base (aC (aa st)) qual (aa st) f cdv A outer s H E).nox (.Name x p) (lT i):=fun i x p hi =>
   g9 (by show(aC (aa st))[i]?=some x;rw[hN];exact hi) (hv x (WI hi)) (cS (hok x (WI hi))).1 (cS (hok x (WI hi))).2
  have ns:∀e∈[Expr.Name s0 p3,.JoinedStr [.Constant (.str a) kd p5,.FormattedValue (.Name a1 p6) (-1) none p7] p8],∀y p,e≠Expr.Starred y p:=fun e he=>by
   simp only[Ve,VF,Ws]at he
   rcases he with rfl|rfl<;>(intro y p z;cases z)
  rw[hb]
  refine⟨_,fh (jR (CF (C:=C) hgb hm hga hrd hfc hex (rA (nm 0 s0 p3 rfl) (rA (Jf (nm 1 a1 p6 rfl) ha) Aw (aG fun _ _ z=>by cases z)) (aG fun _ _ z=>by cases z)) (aG fun _ _ z=>by cases z) (bt fun e he=>ns e (Vc _ he)) hdb (Nl (iQ rfl) (Kc ns (Wq rfl)) hln)) rfl) (wJ (FN hcd hmro hdd hsa hff (nm 0 s0 q1 rfl) (nm 1 a1 q3 rfl) rfl)),?_⟩
  rw[hN]
  refine⟨.ref x,rfl,.int i,rfl,i,rfl,hi,fun y=>⟨x,.str y,o,vv,t0,rfl,hx,hc,hd,h0,fun t1=>?_⟩⟩
  refine⟨.int i,rfl,.ref x,rfl,x,_,_,rfl,aF,hc,rfl,hdi,fun dx hdx=>?_⟩
  rw[wu]
  have hne:dx≠x:=fun z=>by subst z;rw[aF]at hdx;cases hdx
  exact q t1 dx (by rw[ay hne]at hdx;exact hdx)
def hide(H:Hp)(z:Addr):Hp:=fun a=>if a=z then none else H a
theorem Un.hide{fs ex:List Addr}{h1 h2:Heap}{o:HO}(u:Un fs ex (aH H z o) H' h1 h2)(k:∀b q,h.get? b=some q->h1.get? b=some q)(hz:h.get? z=none)(nz:H z=none):Un fs ex H (Sp.hide H' z) h h2:=by
 have ne:∀b q,h.get? b=some q->b≠z:=fun b q e y=>by subst y;rw[hz]at e;cases e
 have up:∀b q,h.get? b=some q->H b=none->aH H z o b=none:=fun b q e n=>(ay (ne b q e)).trans n
 have nt:∀b q,H b=some q->b≠z:=fun b q e y=>by subst y;rw[nz]at e;cases e
 refine⟨fun b q e n hf hx=>u.keep b q (k b q e) (up b q e n) hf hx,fun b q e n hf hx=>u.slot b q (k b q e) (up b q e n) hf hx,fun b q e n hx=>?_,fun b q e hx=>u.there b q (k b q e) hx,fun b xs e=>?_,fun b q v e=>?_,fun b ps e=>?_⟩
 ·show(if b=z then none else H' b)=none
  rw[if_neg (ne b q e)];exact u.free b q (k b q e) (up b q e n) hx
 ·show(if b=z then none else H' b)=_
  rw[if_neg (nt b _ e)];exact u.tups b xs ((ay (nt b _ e)).trans e)
 ·show(if b=z then none else H' b)=_
  rw[if_neg (nt b _ e)];exact u.frzs b q v ((ay (nt b _ e)).trans e)
 ·show ∃more,(if b=z then none else H' b)=_
  rw[if_neg (nt b _ e)];exact u.tbls b ps ((ay (nt b _ e)).trans e)
theorem cO.hide{φ:Heap->Prop}(ok:cO P w H h)(hz:H z=some (.ext φ)):cO P w (Sp.hide H z) h:=fun b o e=>by
 have hb:b≠z:=fun y=>by subst y;unfold Sp.hide at e;rw[if_pos rfl]at e;cases e
 have e':H b=some o:=by unfold Sp.hide at e;rw[if_neg hb]at e;exact e
 have st:∀a q,H a=some q->(∀φ,q ≠ .ext φ)->Sp.hide H z a=some q:=fun a q ea hq=>by
  unfold Sp.hide
  rw[if_neg (fun y=>by subst y;rw[hz]at ea;cases ea;exact hq _ rfl)];exact ea
 exact(ok b o e').stay (fun c v _ q=>q) (fun x q=>st _ _ q (fun _ y=>by cases y)) (fun a xs q=>st _ _ q (fun _ y=>by cases y))
theorem Am{f:Str}{fI:Addr}{oI:Obj}{np cpos:Pos}(I:aj X pins σ H s)(hc:X.calm=true)(hg:Gl X x)(hm:X.mg x=some (.ref C))(hx:io X.K C S)(hin:eZ X.K C=some (.ref fI))
  (hfo:X.K.lookup fI=some oI) (hfc:oI.cls=.type "function") (hkC:W.keepIn X.K (.ref C)=true) (F:bT X.prog X.w X.K X.mg X.base dS k fI fd ps (t8 C f)) (hr:bS (k+1) X.A) (hb:cu X.K fd ps []) (hdb:(x==("__debug__" : Str))=false)
  (ha:PA X [e] t) (he:starEach [e] X.env=(false,eval e X.env)::starEach [] X.env)
  (h:t σ H fun vs H1 => ∃i:Int,vs=[.int i]/\i.natAbs<2 ^ 1900/\∀s1 z dx o vv a0,aj X pins σ (aH H1 dx (.xd [(f,.int i)])) s1->H1 dx=none->s1.heap.get? z=some o->o.cls=.ref C->o.dict=some dx->o.data=.fields vv->1<vv.size->vv[0]?=some a0->vv[1]?=some .none->(aH H1 dx (.xd [(f,.int i)])) z=none->X.s₀.heap.get? z=none->X.xe (.ref z) s1) :
  wpAny (model X.prog X.w) X.A (exec (.Raise (some (.Call (.Name x np) [e] [] cpos)) none pos) X.env) Q X.xe s:=by
 obtain⟨nm,qn,N,bs,hdct,sn,sub,ab,col,dd,k0,k1,k2,k3,k5,mN,g1,g2,g3,g4⟩:=fO hx.ex I.ok.mod.kin
 rw[arm_exec_Raise]
 refine U8 (WU ?_)
 refine yq (x:=(do let v <- eval (.Call (.Name x np) [e] [] cpos) X.env;standAt pos;pure v)) (C:=C) (nm:=nm) (q:=qn) (N:=N) (bs:=bs) (bm:=.ref S::fU) (hdct:=hdct) (sn:=sn) (sub:=sub) (ab:=ab) (col:=col) (dd:=dd) (k0:=k0) (k1:=k1) (k2:=k2) (k3:=k3) (k5:=k5) (newId := "ValueError.__new__") (BD S) (I.ok.hd hc) ?_
 refine U8 (wpAny_Call_ofName (dU I hg hm ?_ hdb))
 refine W.callWith_K (h₀:=X.base) I.ok.mod.kin hkC (aQ (ha cpos pins s σ H _ I h) fun us s1 ⟨vs,H1,I1,r,i,ev,hi,q⟩=>⟨I1.kIn,?_⟩) he rfl
 subst ev
 cases r with
 | cons r1 r =>
 rename_i u0 us0
 cases r
 obtain⟨tk,rfl⟩:=r1
 obtain⟨hh,gg,d0,tt,oo⟩:=s1
 have gN:hh.Ns N mN:=by obtain⟨o,es,ep,e1,e2⟩:=g2;exact⟨o,es,ep,I1.bk _ _ e1,e2⟩
 refine za PySem.F.excBase_ValueError ((OwnTailQ.tail g4).keeps I1.bk) (I1.bk _ _ g1) gN (g3.trans hin) (I1.kIn _ _ hfo) hfc (fun h' z hz m=>?_) (by rw[WG];exact Wq rfl)
 obtain⟨t0,w1,w2,w3⟩:=m.there
 have n1:H1 z=none:=I1.hok.fresh hz
 have I2:aj X pins σ (aH H1 z (ij z _)) ⟨h',gg,d0,tt,oo⟩:=I1.laid (a:=z) (h':=h') (t':=tt) m.keeps hz (vo w1)
 have hsp:t8 C f [.ref z,.int i] (aH H1 z (ij z { cls:=.ref C,data:=.fields #[.ref t0,.none,.none,.none,.bool false,.none] })) (fun v H'=>v=.non/\∃t1 dx,(aH H1 z (ij z { cls:=.ref C,data:=.fields #[.ref t0,.none,.none,.none,.bool false,.none] })) dx=none/\H'=aH (aH (aH H1 z (ij z { cls:=.ref C,data:=.fields #[.ref t0,.none,.none,.none,.bool false,.none] })) z (ij z ⟨.ref C,some dx,.fields (#[.ref t0,.none,.none,.none,.bool false,.none].setIfInBounds 0 (.ref t1)),#[]⟩)) dx (.xd [(f,.int i)])) (fun _ _ _=>False) :=
  ⟨z,i,_,_,t0,rfl,hi,aF,rfl,rfl,rfl,rfl,fun t1 dx hdx=>⟨rfl,t1,dx,hdx,rfl⟩⟩
 have r2:aP [.ref z,.int i] [.ref z,.int i tk]:=.cons rfl (.cons ⟨tk,rfl⟩ .nil)
 have hl:([Value.ref z,.int i tk]++[]).length=ps.length:=F.len _ _ _ _ hsp
 refine WO (Xc (F.run (X.A.under (.builtin "type.__call__" ⟨.ref C::([]++[.int i tk]),[]⟩)) X.stack ⟨h',gg,d0,tt,oo⟩ _ ⟨[.ref z,.int i tk],[]⟩ [.ref z,.int i tk] [.ref z,.int i] _ _ (hr.make C _ []) (I2.env0.make C _ []) (by have:=hb ⟨h',gg,d0,tt,oo⟩ [.ref z,.int i tk] I2.kIn hl;rw[VZ]at this;exact this) r2 hsp) fun r s' hq=>?_)
 cases r with
 | error e=>exact nI pins σ _ _ e s' I2 hq
 | ok fl =>
  cases fl with
  | next=>exact False.elim hq
  | brk=>exact False.elim hq
  | cont=>exact False.elim hq
  | ret u =>
   obtain⟨v,H',os',bare,un,hok,ru,rfl,t1,dx,hdx,rfl⟩:=hq
   have hne:dx≠z:=fun y=>by subst y;rw[aF]at hdx;cases hdx
   rw[ay hne]at hdx
   rw[wu]at un hok
   have hzn:hh.get? z=none:=WW hz
   have un2:=Un.hide un m.keeps hzn n1
   have ez:(aH (aH H1 z (ij z ⟨.ref C,some dx,.fields (#[.ref t0,.none,.none,.none,.bool false,.none].setIfInBounds 0 (.ref t1)),#[]⟩)) dx (.xd [(f,.int i)])) z=some (ij z ⟨.ref C,some dx,.fields (#[.ref t0,.none,.none,.none,.bool false,.none].setIfInBounds 0 (.ref t1)),#[]⟩):=by rw[ay hne.symm];exact aF
   have hok2:=cO.hide hok ez
   have oz:=vp (hok z _ ez)
   have eH:Sp.hide (aH (aH H1 z (ij z ⟨.ref C,some dx,.fields (#[.ref t0,.none,.none,.none,.bool false,.none].setIfInBounds 0 (.ref t1)),#[]⟩)) dx (.xd [(f,.int i)])) z=aH H1 dx (.xd [(f,.int i)]):=by
    funext a
    unfold Sp.hide
    by_cases ha:a=z
    ·subst ha;rw[if_pos rfl,ay hne.symm,n1]
    ·rw[if_neg ha]
     by_cases hb:a=dx
     ·subst hb;rw[aF,aF]
     ·rw[ay hb,ay hb,ay ha]
   rw[eH]at un2 hok2
   obtain⟨hh',g',d',t',o'⟩:=s'
   obtain rfl:o'=oo:=os'
   have I3:=I1.call (h':=hh') (g':=g') (d':=d') (t':=t') (ch:=[]) un2 hok2 bare (fun b z=>absurd z (by simp))
   have ru:u=Value.none:=ru
   refine⟨ru,U8 (WU (Va ⟨z,_,_,rfl,I3.bk _ _ g1,oz,rfl,rfl,by simp,q _ z dx _ _ _ I3 hdx oz rfl rfl rfl (by simp) (by simp;rfl) (by simp) (by rw[ay hne.symm];exact n1) (WW (Vl I1.sz hz))⟩))⟩
theorem _root_.L2.PA.nox(h:PA X.nox es t):PA X es t:=fun pos pins s σ H Q I hw =>
 VX (h pos pins s σ H Q (I.wish _) hw) (fun _ _ ⟨v,H',I',r,q⟩=>⟨v,H',I'.unwish,r,q⟩) fun _ _ z=>False.elim z
theorem _root_.L2.PS.nox{t:TS}(h:PS X.nox st t):PS X st t:=fun pins s σ H D I hw =>
 VX (h pins s σ H D (I.wish _) hw) (fun _ _ q=>q.unwish) fun _ _ z=>False.elim z
theorem He{Q:Value->Shared->Prop}(F:bT X.prog X.w X.K X.mg X.base (gp X.prog X.w) k f fd ps sp)(hr:bS k X.A)(hg:Gl X x)(hm:X.mg x=some (.ref f))(hk:W.keepIn X.K (.ref f)=true)(hb:cu X.K fd ps [])
  (I:aj X pins σ H s) (hx:∀H1 s1 e s',aj X pins σ H1 s1->gp X.prog X.w X.stack H1 s1 E e s'->X.xe e s')
  (ha:PA X (e::es) t) (hdb:(x==("__debug__" : Str))=false) (he:starEach (e::es) X.env=(false,eval e X.env)::starEach es X.env) (hpl:(backTo pos (starEach es X.env)).any (·.1)=false)
  (h:t σ H fun vs H1=>sp vs H1 (fun _ _=>False) E):wpAny (model X.prog X.w) X.A (eval (.Call (.Name x p) (e::es) [] pos) X.env) Q X.xe s:=by
 refine VQ (dU I hg hm ?_ hdb)
 refine W.callWith_K (h₀:=X.base) I.ok.mod.kin hk (aQ (ha pos pins s σ H _ I h) fun us s1 ⟨vs,H1,I1,r,q⟩=>⟨I1.kIn,?_⟩) he hpl
 have hl:us.length=ps.length:=by rw[<- r.length];exact F.len _ _ _ _ q
 refine WO (Xc (F.run X.A X.stack s1 H1 ⟨us,[]⟩ us vs _ E hr I1.env0 (by have:=hb s1 us I1.kIn (by rw[VZ];exact hl);rw[VZ]at this;exact this) r q) fun r s' hq=>?_)
 cases r with
 | error e=>exact hx H1 s1 e s' I1 hq
 | ok fl =>
  cases fl with
  | ret u=>obtain⟨_,_,_,_,_,_,_,z⟩:=hq;exact z.elim
  | next=>exact False.elim hq
  | brk=>exact False.elim hq
  | cont=>exact False.elim hq
theorem Gc{Q:Value->Shared->Prop}(M:Mk X.K C f)(F:bT X.prog X.w X.K X.mg X.base (gp X.prog X.w) k f fd ps sp)(hr:bS (k+1) X.A)(hg:Gl X x)(hm:X.mg x=some (.ref C))(hb:cu X.K fd ps [])
  (I:aj X pins σ H s) (hx:∀H1 s1 e s',aj X pins σ H1 s1->gp X.prog X.w X.stack H1 s1 E e s'->X.xe e s')
  (ha:PA X (e::es) t) (hdb:(x==("__debug__" : Str))=false) (he:starEach (e::es) X.env=(false,eval e X.env)::starEach es X.env) (hpl:(backTo pos (starEach es X.env)).any (·.1)=false)
  (h:t σ H fun vs H1 => ∀x dx,H1 x=none->H1 dx=none->dx≠x->sp (.ref x::vs) (aH (aH H1 dx (.own x)) x (.ins C dx [])) (fun _ _=>False) E):wpAny (model X.prog X.w) X.A (eval (.Call (.Name x p) (e::es) [] pos) X.env) Q X.xe s:=by
 refine VQ (dU I hg hm ?_ hdb)
 refine W.callWith_K (h₀:=X.base) I.ok.mod.kin M.kp (aQ (ha pos pins s σ H _ I h) fun us s1 ⟨vs,H1,I1,r,q⟩=>⟨I1.kIn,?_⟩) he hpl
 have hq:=q (s1.heap.objs.size+1) s1.heap.objs.size (I1.hok.fresh (WX _)) (I1.hok.fresh (Vf _)) (Vv (Vy _))
 have I2:=aj.made (C:=C) I1
 have r2:aP (V.ref (s1.heap.objs.size+1)::vs) (Value.ref (s1.heap.objs.size+1)::us):=.cons rfl r
 have hl:(Value.ref (s1.heap.objs.size+1)::us++[]).length=ps.length:=by
  have e:=r2.length
  rw[F.len _ _ _ _ hq]at e
  rw[VZ]
  exact e.symm
 refine WO (uO (f:=f) I1.kIn M.makes M.init (beq_iff_eq.mp M.fn) (Xc (F.run _ X.stack _ _ ⟨Value.ref (s1.heap.objs.size+1)::us,[]⟩ (Value.ref (s1.heap.objs.size+1)::us) _ _ E (hr.make C us [])
  (I2.env0.make C us []) (by have:=hb _ (Value.ref (s1.heap.objs.size+1)::us) I2.kIn hl;rw[VZ]at this;exact this) r2 hq) fun r s' hq'=>?_))
 cases r with
 | error e=>exact hx _ _ e s' I2 hq'
 | ok fl =>
  cases fl with
  | ret u=>obtain⟨_,_,_,_,_,_,_,z⟩:=hq';exact z.elim
  | next=>exact False.elim hq'
  | brk=>exact False.elim hq'
  | cont=>exact False.elim hq'
def Ai(K:W.Frag)(G:List D->Option Xs):L2.Sp:=fun vs H _ E => ∃ds n p fs C S,ah K H (fun _ _=>True) ds vs/\G ds=some (n,p,fs)/\W.nsIn K mainGlobals n=some (some (.ref C))/\W.nsIn K mainGlobals p=some (some (.ref S))/\io K C S/\∀od H',aA H H'->vi H' od fs->E (.ref C) od H'
def LU(H0:Hp)(C:Addr)(fs:List (Str×Int)):XK:=fun c od H'=>c=.ref C/\aA H0 H'/\vi H' od fs
def Ik(g:Str)(G:List D->Option Xs):List D->Option Xs:=fun ds=>match ds with
 | .obj n [] []::l=>if n=g then G l else none
 | _=>none
def UF(X:Cx)(g:Str)(G:List D->Option Xs):Prop:=∃k f fd ps,bT X.prog X.w X.K X.mg X.base (gp X.prog X.w) k f fd ps (Ai X.K G)/\bS k X.A/\X.mg g=some (.ref f)/\W.keepIn X.K (.ref f)=true/\cu X.K fd ps []/\(g==("__debug__" : Str))=false
def UA(X:Cx)(g:Str)(G:List D->Option Xs):Prop:=∃k C f fd ps,Mk X.K C f/\bT X.prog X.w X.K X.mg X.base (gp X.prog X.w) k f fd ps (Ai X.K (Ik g G))/\bS (k+1) X.A/\X.mg g=some (.ref C)/\W.nsIn X.K mainGlobals g=some (some (.ref C))/\jk X.K C/\cu X.K fd ps []/\(g==("__debug__" : Str))=false
def sh(X:Cx)(g:Str)(G:List D->Option Xs):Prop:=UF X g G\/UA X g G
theorem Jd{t:Str}(he:ED X ρ e (.str x) k)(hx:(reprText x).length<=1000)(ht:t.length<=64):ED X ρ (.JoinedStr [.FormattedValue e 114 none p1,.Constant (.str t) kd p2] p3) (.str (reprText x++t)) 0:=by
 intro ow pins s σ H Q I ⟨E,q⟩
 have hz:(1064:Nat)<=sizeLine:=by rw[WG];decide
 have hx':(reprText x).length<=sizeLine:=by omega
 refine wpAny_JoinedStr ?_
 show wpAny _ _ (eval (.FormattedValue e 114 none p1) X.env) (fun v s₁ => ∃y t',v=Value.str y t'/\(Str.empty++y).length<=sizeLine/\wpAny _ _ (eval (.Constant (.str t) kd p2) X.env) (fun v s₂ => ∃z t'',v=Value.str z t''/\(Str.empty++y++z).length<=sizeLine/\_) _ s₁) _ s
 rw[arm_eval_FormattedValue]
 refine U8 (aQ (he ow pins s σ H (fun v H'=>v=.str x/\aA H H') I ⟨E,fun v H' s' r=>⟨by rw[ai]at r;exact r,s'⟩⟩) fun u s1 ⟨v,H1,I1,r1,e1,s1'⟩=>?_)
 subst e1
 obtain⟨tk,rfl⟩:=r1
 refine U8 (WU ?_)
 refine U8 (VO ?_)
 show wpAny _ _ (pyReprObj (Value.str x tk)) _ _ _
 refine wpAny_pyReprObj_str ?_ hx'
 show wpAny _ _ (formatField (Value.str (reprText x) s1.toks) Str.empty) _ _ _
 refine PyProof.Rows.formatField_str (fun t' tk'=>⟨_,_,rfl,?_,?_⟩) hx'
 ·rw[V1];exact hx'
 ·refine wpAny_Constant_str ⟨_,_,rfl,?_,?_⟩
  ·rw[V1,Wo];omega
  ·refine⟨?_,.str _,H1,((I1.tok _).tok _).tok _,⟨_,rfl⟩,q _ _ s1' (by rw[ai,V1])⟩
   rw[V1,Wo];omega
theorem Je{i:Int}{t:Str}{kd0:Nat}(he:ED X ρ e (.int i) k)(hi:i.natAbs<2 ^ 1900)(ha:a.length<=200)(ht:t.length<=64):ED X ρ (.JoinedStr [.Constant (.str a) kd0 p0,.FormattedValue e (-1) none p1,.Constant (.str t) kd p2] p3) (.str (a++Str.ofString (toString i)++t)) 0:=by
 intro ow pins s σ H Q I ⟨E,q⟩
 have hl:i.natAbs.log2<1920:=by
  rcases We i.natAbs with z|z
  ·rw[z];decide
  ·exact Vj ((Nat.log2_lt (VP z)).mpr hi) (by decide)
 have tl:=int_text_len_1921 hl
 have hz:(2200:Nat)<=sizeLine:=by rw[WG];decide
 refine wpAny_JoinedStr ?_
 show wpAny _ _ (eval (.Constant (.str a) kd0 p0) X.env) (fun v s₁ => ∃y t',v=Value.str y t'/\(Str.empty++y).length<=sizeLine/\wpAny _ _ (eval (.FormattedValue e (-1) none p1) X.env) (fun v s₂ => ∃z t'',v=Value.str z t''/\(Str.empty++y++z).length<=sizeLine/\wpAny _ _ (eval (.Constant (.str t) kd p2) X.env) (fun v s₂ => ∃z' t'',v=Value.str z' t''/\(Str.empty++y++z++z').length<=sizeLine/\_) _ s₂) _ s₁) _ s
 refine wpAny_Constant_str ⟨_,_,rfl,?_,?_⟩
 ·rw[V1];omega
 refine wpAny_FormattedValue_plain ?_
 refine aQ (he ow pins _ σ H (fun v H'=>v=.int i/\aA H H') (I.tok _) ⟨E,fun v H' s' r=>⟨by rw[ai]at r;exact r,s'⟩⟩) fun u s1 ⟨v,H1,I1,r1,e1,s1'⟩=>?_
 subst e1
 obtain⟨tk,rfl⟩:=r1
 refine wpAny_formatField_int hl ⟨_,_,rfl,?_,?_⟩
 ·rw[V1,Wo];omega
 ·refine wpAny_Constant_str ⟨_,_,rfl,?_,?_⟩
  ·rw[V1,Wo,Wo];omega
  ·refine⟨?_,.str _,H1,(I1.tok _).tok _ |>.tok _,⟨_,rfl⟩,q _ _ s1' (by rw[ai,V1])⟩
   rw[V1,Wo,Wo];omega
inductive Rz(Φ:Fx)(Ψ:Str->Option (List D->Option Xs))(Ex:Str->Option (Str×Option Str))(sc:Scope):List Stmt->af->Xs->Prop where
 | raise {e:Expr} {d:D} {k:Nat} {x p:Str} {np cpos pos:Pos} {ss:List Stmt} {ρ:af} (he:ac (az Φ e false sc ρ) (d,k)) (hx:sc.names.lookup x=some .globalImplicit) (hd:(x==("__debug__" : Str))=false) (hp:Ex x=some (p,none)):Rz Φ Ψ Ex sc (.Raise (some (.Call (.Name x np) [e] [] cpos)) none pos::ss) ρ (x,p,[])
 | raiseR {e:Expr} {y t:Str} {k kd:Nat} {x p:Str} {np cpos pos p1 p2 p3:Pos} {ss:List Stmt} {ρ:af} (he:ac (az Φ e false sc ρ) (.str y,k)) (hy:(reprText y).length<=1000) (ht:t.length<=64) (hx:sc.names.lookup x=some .globalImplicit) (hd:(x==("__debug__" : Str))=false) (hp:Ex x=some (p,none)):Rz Φ Ψ Ex sc (.Raise (some (.Call (.Name x np) [.JoinedStr [.FormattedValue e 114 none p1,.Constant (.str t) kd p2] p3] [] cpos)) none pos::ss) ρ (x,p,[])
 | raiseM {e:Expr} {i:Int} {a t:Str} {k kd0 kd:Nat} {x p:Str} {np cpos pos p0 p1 p2 p3:Pos} {ss:List Stmt} {ρ:af} (he:ac (az Φ e false sc ρ) (.int i,k)) (hi:i.natAbs<2 ^ 1900) (ha:a.length<=200) (ht:t.length<=64) (hx:sc.names.lookup x=some .globalImplicit) (hd:(x==("__debug__" : Str))=false) (hp:Ex x=some (p,none)):Rz Φ Ψ Ex sc (.Raise (some (.Call (.Name x np) [.JoinedStr [.Constant (.str a) kd0 p0,.FormattedValue e (-1) none p1,.Constant (.str t) kd p2] p3] [] cpos)) none pos::ss) ρ (x,p,[])
 | raiseF {e:Expr} {i:Int} {k:Nat} {x p f:Str} {np cpos pos:Pos} {ss:List Stmt} {ρ:af} (he:ac (az Φ e false sc ρ) (.int i,k)) (hi:i.natAbs<2 ^ 1900) (hx:sc.names.lookup x=some .globalImplicit) (hd:(x==("__debug__" : Str))=false) (hp:Ex x=some (p,some f)):Rz Φ Ψ Ex sc (.Raise (some (.Call (.Name x np) [e] [] cpos)) none pos::ss) ρ (x,p,[(f,i)])
 | exp {f:Str} {G:List D->Option Xs} {e:Expr} {es:List Expr} {p q pos:Pos} {ds:List D} {k:Nat} {ss:List Stmt} {ρ:af} {r:Xs} (ha:ac (bG Φ (e::es) sc ρ) (ds,k)) (hf:sc.names.lookup f=some .globalImplicit) (hG:Ψ f=some G) (h:G ds=some r):Rz Φ Ψ Ex sc (.Expr (.Call (.Name f p) (e::es) [] q) pos::ss) ρ r
 | asn {f:Str} {G:List D->Option Xs} {x:Str} {e:Expr} {es:List Expr} {p q pos px:Pos} {ds:List D} {k:Nat} {ss:List Stmt} {ρ:af} {r:Xs} (ha:ac (bG Φ (e::es) sc ρ) (ds,k)) (hf:sc.names.lookup f=some .globalImplicit) (hG:Ψ f=some G) (h:G ds=some r):Rz Φ Ψ Ex sc (.Assign [.Name x px] (.Call (.Name f p) (e::es) [] q) pos::ss) ρ r
 | ast {f:Str} {G:List D->Option Xs} {ts:List Expr} {n:Nat} {e:Expr} {es:List Expr} {p q pos px:Pos} {ds:List D} {k:Nat} {ss:List Stmt} {ρ:af} {r:Xs} (ha:ac (bG Φ (e::es) sc ρ) (ds,k)) (hf:sc.names.lookup f=some .globalImplicit) (hG:Ψ f=some G) (h:G ds=some r):Rz Φ Ψ Ex sc (.Assign [.Tuple ts n px] (.Call (.Name f p) (e::es) [] q) pos::ss) ρ r
 | ret {f:Str} {G:List D->Option Xs} {e:Expr} {es:List Expr} {p q pos:Pos} {ds:List D} {k:Nat} {ss:List Stmt} {ρ:af} {r:Xs} (ha:ac (bG Φ (e::es) sc ρ) (ds,k)) (hf:sc.names.lookup f=some .globalImplicit) (hG:Ψ f=some G) (h:G ds=some r):Rz Φ Ψ Ex sc (.Return (some (.Call (.Name f p) (e::es) [] q)) pos::ss) ρ r
 | iff {c:Expr} {a b ss:List Stmt} {t:Bool} {k:Nat} {pos:Pos} {ρ:af} {r:Xs} (hc:ac (az Φ c false sc ρ) (.bl t,k)) (h:Rz Φ Ψ Ex sc (cond t a b) ρ r):Rz Φ Ψ Ex sc (.If c a b pos::ss) ρ r
 | step {s:Stmt} {ss:List Stmt} {ρ ρ':af} {r:Xs} (hs:ac (dX Φ s sc ρ) (.nx ρ')) (h:Rz Φ Ψ Ex sc ss ρ' r):Rz Φ Ψ Ex sc (s::ss) ρ r
def Ia(X:Cx)(H0:Hp)(ρ:af):TS:=fun _ σ H => ∃ow,aO X.nox ow H σ ρ/\σ.length=X.N.length/\ck H0 ow H
theorem ck.same(b:ck H0 ow H)(s:aA H H'):ck H0 ow H':=b.keep (bg.same s)
theorem fX(h:PS X st (Ia X H0 ρ)):fe X (st::ss) (Ia X H0 ρ):=fun pins s σ H D I q=>fh h fR pins s σ H D I q
theorem iM{p:Str}{f:Str}{fp:Pos}{Q:Value->Shared->Prop}
  (Gd:aS Φ X.nox sc) (GR:sh X f G) (hcn:W.nsIn X.K mainGlobals n=some (some (.ref C))) (hcp:W.nsIn X.K mainGlobals p=some (some (.ref S))) (hex:io X.K C S)
  (ha:ac (bG Φ (e::es) sc ρ) (ds,k)) (hf:sc.names.lookup f=some .globalImplicit) (h:G ds=some (n,p,fs)) (I:aj X pins σ H s) (E:aO X.nox ow H σ ρ) (B:aA H0 H)
  (hx:∀H1 s1 e s',aj X pins σ H1 s1->gp X.prog X.w X.stack H1 s1 (LU H0 C fs) e s'->X.xe e s'):wpAny (model X.prog X.w) X.A (eval (.Call (.Name f fp) (e::es) [] q) X.env) Q X.xe s:=by
 rcases GR with GR|GR
 ·obtain⟨k',fa,fd,ps,F,hr,hm,hk,hb,hdb⟩:=GR
  obtain⟨l,ha,hp⟩:=ha
  obtain⟨hst,_⟩:=b0 ha hp
  have ad:=fF (e::es) ha hp Gd
  refine He F hr (Gd.gl f hf) hm hk hb I hx (ad ow).nox hdb (aG (hst e Vb)) (bt fun x hx=>hst x (Vc _ hx)) ⟨E,fun vs H1 s1 r1=>?_⟩
  exact⟨ds,n,p,fs,C,S,r1.imp fun _ _ _=>True.intro,h,hcn,hcp,hex,fun od H' s' fd=>⟨rfl,(B.trans s1).trans s',fd⟩⟩
 ·obtain⟨k',Cc,fa,fd,ps,hM,F,hr,hm,hns,hc,hb,hdb⟩:=GR
  obtain⟨l,ha,hp⟩:=ha
  obtain⟨hst,_⟩:=b0 ha hp
  have ad:=fF (e::es) ha hp Gd
  refine Gc hM F hr (Gd.gl f hf) hm hb I hx (ad ow).nox hdb (aG (hst e Vb)) (bt fun x hx=>hst x (Vc _ hx)) ⟨E,fun vs H1 s1 r1=>?_⟩
  intro x dx hx0 hd0 ne
  exact⟨.obj f [] []::ds,n,p,fs,C,S,ah.cons (by rw[ai];exact⟨rfl,rfl,x,Cc,dx,[],rfl,hns,hc,aF,ah.nil⟩) ((r1.same (g7 hx0 hd0)).imp fun _ _ _=>True.intro),(if_pos rfl).trans h,hcn,hcp,hex,fun od H' s' fd=>⟨rfl,((B.trans s1).trans (g7 hx0 hd0)).trans s',fd⟩⟩
def NK(X:Cx)(C:Addr)(f:Str):Prop:=∃j fI oI fd ps,eZ X.K C=some (.ref fI)/\X.K.lookup fI=some oI/\oI.cls=.type "function" /\ W.keepIn X.K (.ref C)=true/\bT X.prog X.w X.K X.mg X.base dS j fI fd ps (t8 C f)/\bS (j+1) X.A/\cu X.K fd ps []
theorem MD{p:Str}(Gd:aS Φ X.nox sc)(GR:∀f G,Ψ f=some G->sh X f G)(hcn:W.nsIn X.K mainGlobals n=some (some (.ref C)))(hcp:W.nsIn X.K mainGlobals p=some (some (.ref S)))(hex:io X.K C S)(hmn:X.mg n=some (.ref C))(hin:∀p',Ex n=some (p',none)->eZ X.K C=none)(hif:∀p' f,Ex n=some (p',some f)->NK X C f)
  (hr:fs=[]->∀pins σ H s h' a us,aj X pins σ H s->aA H0 H->s.heap.MadeExcOf h' a (.ref C) us->X.xe (.ref a) { s with heap:=h' })
  (hr2:∀f i,fs=[(f,i)]->∀pins σ H1 s1 z dx o vv a0,aA H0 H1->aj X pins σ (aH H1 dx (.xd [(f,.int i)])) s1->H1 dx=none->s1.heap.get? z=some o->o.cls=.ref C->o.dict=some dx->o.data=.fields vv->1<vv.size->vv[0]?=some a0->vv[1]?=some .none->(aH H1 dx (.xd [(f,.int i)])) z=none->X.s₀.heap.get? z=none->X.xe (.ref z) s1)
  (hx:∀pins σ H1 s1 e s',aj X pins σ H1 s1->gp X.prog X.w X.stack H1 s1 (LU H0 C fs) e s'->X.xe e s'):∀{ss:List Stmt} {ρ:af} {r:Xs},Rz Φ Ψ Ex sc ss ρ r->r=(n,p,fs)->fe X ss (Ia X H0 ρ):=by
 intro ss ρ r h
 induction h with
 | raise he hl hd hp =>
  rename_i e d k x p' np cpos pos ss ρ
  intro er
  cases er
  refine fX fun pins s σ H D I ⟨ow,E,hl',B⟩=>?_
  have ed:=(bH he Gd).ed rfl
  obtain⟨l,he',_⟩:=id he
  have ns:=iD he'
  have ad:AD X.nox ρ [e] [d] (kj k 0):=d6 ed jc (aG ns)
  refine oQ I Gd.calm (Gd.gl _ hl) hmn hex (hin _ hp) hd (ad ow).nox (bt fun y hy=>by rw[WF.mp hy];exact ns) (aG ns) ⟨E,fun vs H1 s1 r1=>⟨?_,fun s2 h' a us I2 m=>hr rfl pins σ H1 s2 h' a us I2 (B.sm.trans s1) m⟩⟩
  rw[<- r1.length]
  exact Vl (show 1<=bO by decide) fj
 | raiseR he hy ht hl hd hp =>
  rename_i e y t k kd x p' np cpos pos p1 p2 p3 ss ρ
  intro er
  cases er
  refine fX fun pins s σ H D I ⟨ow,E,hl',B⟩=>?_
  have ed:=Jd (p1:=p1) (p2:=p2) (p3:=p3) (kd:=kd) ((bH he Gd).ed rfl) hy ht
  have ns:∀(z:Expr) (p:Pos),Expr.JoinedStr [.FormattedValue e 114 none p1,.Constant (.str t) kd p2] p3 ≠ .Starred z p:=fun z p h=>by cases h
  have ad:AD X.nox ρ [Expr.JoinedStr [.FormattedValue e 114 none p1,.Constant (.str t) kd p2] p3] [.str (reprText y++t)] (kj 0 0):=d6 ed jc (aG ns)
  refine oQ I Gd.calm (Gd.gl _ hl) hmn hex (hin _ hp) hd (ad ow).nox (bt fun y hy=>by rw[WF.mp hy];exact ns) (aG ns) ⟨E,fun vs H1 s1 r1=>⟨?_,fun s2 h' a us I2 m=>hr rfl pins σ H1 s2 h' a us I2 (B.sm.trans s1) m⟩⟩
  rw[<- r1.length]
  exact Vl (show 1<=bO by decide) fj
 | raiseM he hi ha ht hl hd hp =>
  rename_i e i a t k kd0 kd x p' np cpos pos p0 p1 p2 p3 ss ρ
  intro er
  cases er
  refine fX fun pins s σ H D I ⟨ow,E,hl',B⟩=>?_
  have ed:=Je (p0:=p0) (p1:=p1) (p2:=p2) (p3:=p3) (kd0:=kd0) (kd:=kd) ((bH he Gd).ed rfl) hi ha ht
  have ns:∀(z:Expr) (p:Pos),Expr.JoinedStr [.Constant (.str a) kd0 p0,.FormattedValue e (-1) none p1,.Constant (.str t) kd p2] p3 ≠ .Starred z p:=fun z p h=>by cases h
  have ad:AD X.nox ρ [Expr.JoinedStr [.Constant (.str a) kd0 p0,.FormattedValue e (-1) none p1,.Constant (.str t) kd p2] p3] [.str (a++Str.ofString (toString i)++t)] (kj 0 0):=d6 ed jc (aG ns)
  refine oQ I Gd.calm (Gd.gl _ hl) hmn hex (hin _ hp) hd (ad ow).nox (bt fun y hy=>by rw[WF.mp hy];exact ns) (aG ns) ⟨E,fun vs H1 s1 r1=>⟨?_,fun s2 h' a us I2 m=>hr rfl pins σ H1 s2 h' a us I2 (B.sm.trans s1) m⟩⟩
  rw[<- r1.length]
  exact Vl (show 1<=bO by decide) fj
 | raiseF he hi hl hd hp =>
  rename_i e i k x p' f np cpos pos ss ρ
  intro er
  cases er
  refine fX fun pins s σ H D I ⟨ow,E,hl',B⟩=>?_
  have ed:=(bH he Gd).ed rfl
  obtain⟨l,he',_⟩:=id he
  have ns:=iD he'
  have ad:AD X.nox ρ [e] [.int i] (kj k 0):=d6 ed jc (aG ns)
  obtain⟨j,fI,oI,fd,ps,q1,q2,q3,q4,q5,q6,q7⟩:=hif _ _ hp
  refine Am I Gd.calm (Gd.gl _ hl) hmn hex q1 q2 q3 q4 q5 q6 q7 hd (ad ow).nox (aG ns) ⟨E,fun vs H1 s1 r1=>?_⟩
  obtain⟨v,rfl,rv⟩:=r1.only
  rw[ai]at rv
  subst rv
  exact⟨i,rfl,hi,fun s2 z dx o vv a0 I2 w1 w2 w3 w4 w5 w6 w7 w8 w9 w10=>hr2 f i rfl pins σ H1 s2 z dx o vv a0 (B.sm.trans s1) I2 w1 w2 w3 w4 w5 w6 w7 w8 w9 w10⟩
 | exp ha hf hG h =>
  intro er
  subst er
  refine fX fun pins s σ H D I ⟨ow,E,hl',B⟩=>?_
  exact wpAny_Expr_any (iM Gd (GR _ _ hG) hcn hcp hex ha hf h I E B.sm (hx pins σ)) I.quiet rfl
 | asn ha hf hG h =>
  intro er
  subst er
  refine fX fun pins s σ H D I ⟨ow,E,hl',B⟩=>?_
  exact wpAny_Assign_Name (iM Gd (GR _ _ hG) hcn hcp hex ha hf h I E B.sm (hx pins σ)) (fC rfl)
 | ast ha hf hG h =>
  intro er
  subst er
  refine fX fun pins s σ H D I ⟨ow,E,hl',B⟩=>?_
  exact wpAny_Assign_stores (iM Gd (GR _ _ hG) hcn hcp hex ha hf h I E B.sm (hx pins σ)) gZ rfl
 | ret ha hf hG h =>
  intro er
  subst er
  refine fX fun pins s σ H D I ⟨ow,E,hl',B⟩=>?_
  exact wpAny_Return_some (iM Gd (GR _ _ hG) hcn hcp hex ha hf h I E B.sm (hx pins σ))
 | iff hc h ih =>
  rename_i c a b ss t k pos ρ r
  intro er
  refine fX fun pins s σ H D I ⟨ow,E,hl',B⟩=>?_
  have td:=((bH hc Gd).td rfl t rfl ow).nox
  refine wpAny_If (aQ (td pins s σ H (fun b H'=>b=t/\aA H H') I ⟨E,fun H' sm=>⟨rfl,sm⟩⟩) fun d s1 ⟨H1,I1,e,sm⟩=>?_)
  subst e
  cases d with
  | true=>exact ih er pins s1 σ H1 _ I1 ⟨ow,E.same sm,hl',B.same sm⟩
  | false=>exact ih er pins s1 σ H1 _ I1 ⟨ow,E.same sm,hl',B.same sm⟩
 | step hs h ih =>
  rename_i st ss ρ ρ' r
  intro er
  have sd:=((jX Φ _).s st (H0:=H0) (Vy _) hs Gd W6)
  intro pins s σ H D I ⟨ow,E,hl',B⟩
  exact fh (L2.PS.nox sd) (ih er) pins s σ H D I ⟨ow,E,hl',B,fun ow' σ' H' E' hl2 k=>⟨ow',E',hl2,B.keep k⟩⟩
def UE(P:Program)(w:World)(K:W.Frag)(mg:Str->Option Value)(base:Heap)(k:Nat)(g:Str)(G:List D->Option Xs):Prop:=∃f fd ps,bT P w K mg base (gp P w) k f fd ps (Ai K G)/\mg g=some (.ref f)/\W.keepIn K (.ref f)=true/\cu K fd ps []/\(g==("__debug__" : Str))=false
def U4(P:Program)(w:World)(K:W.Frag)(mg:Str->Option Value)(base:Heap)(k:Nat)(g:Str)(G:List D->Option Xs):Prop:=∃j C f fd ps,j+1<=k/\Mk K C f/\bT P w K mg base (gp P w) j f fd ps (Ai K (Ik g G))/\mg g=some (.ref C)/\W.nsIn K mainGlobals g=some (some (.ref C))/\jk K C/\cu K fd ps []/\(g==("__debug__" : Str))=false
def jj(P:Program)(w:World)(K:W.Frag)(mg:Str->Option Value)(base:Heap)(k:Nat)(g:Str)(G:List D->Option Xs):Prop:=UE P w K mg base k g G\/U4 P w K mg base k g G
theorem jj.mono(h:jj P w K mg base j g G)(hjk:j<=k):jj P w K mg base k g G:=by
 rcases h with⟨f,fd,ps,h1,h2⟩|⟨i,C,f,fd,ps,h0,h1⟩
 ·exact .inl ⟨f,fd,ps,h1.mono hjk,h2⟩
 ·exact .inr ⟨i,C,f,fd,ps,Vl h0 hjk,h1⟩
theorem jj.at(h:jj X.prog X.w X.K X.mg X.base k g G)(hr:bS k X.A):sh X g G:=by
 rcases h with⟨f',fd',ps',a1,a2,a3,a4,a5⟩|⟨j,C',f',fd',ps',a0,a1,a2,a3,a4,a5,a6,a7⟩
 ·exact .inl ⟨k,f',fd',ps',a1,hr,a2,a3,a4,a5⟩
 ·exact .inr ⟨j,C',f',fd',ps',a1,a2,hr.mono a0,a3,a4,a5,a6,a7⟩
def LT(P:Program)(w:World)(K:W.Frag)(mg:Str->Option Value)(base:Heap)(k:Nat)(Ex:Str->Option (Str×Option Str)):Prop:=∀c C,W.nsIn K mainGlobals c=some (some (.ref C))->(∀p,Ex c=some (p,none)->eZ K C=none) /\
 ∀p f,Ex c=some (p,some f)->∃j fI oI fd ps,j+1<=k/\eZ K C=some (.ref fI)/\K.lookup fI=some oI/\oI.cls=.type "function" /\ W.keepIn K (.ref C)=true/\bT P w K mg base dS j fI fd ps (t8 C f)/\cu K fd ps []
theorem jZ(Fn:ke K g qual st f fd)
  (S:aN (aC (aa st)) ps (aa st)) (hΦ:sT P w K mg base k Φ) (hΨ:∀g G,Ψ g=some G->jj P w K mg base k g G) (hmg:∀n C,W.nsIn K mainGlobals n=some (some (.ref C))->mg n=some (.ref C)) (hEI:LT P w K mg base k Ex)
  (hrun:∀ds r,G ds=some r->ds.length=ps.length/\Rz Φ Ψ Ex (aa st) (ak st) (c6 ps ds) r):bT P w K mg base (gp P w) (k+1) f fd ps (Ai K G):=by
 obtain⟨oc,od,kV,doc,pm,an,cdv,ct,osl,rfl,lk,hcd⟩:=Fn.ex
 refine EH lk hcd S (fun vs H Q E h=>?_) fun A outer s H vs Q E hr hsp=>?_
 ·obtain⟨ds,n,p,fs,C,S',h1,h2,_⟩:=h
  rw[<- h1.length];exact(hrun ds _ h2).1
 ·obtain⟨ds,n,p,fs,C,S',h1,h2,h3,h4,h5,h6⟩:=hsp
  obtain⟨hl,hz⟩:=hrun ds _ h2
  have Gd:=jY (outer:=outer) (H:=H) (E:=E) S hΦ hr
  obtain⟨E0,hsl⟩:=mF (P:=P) (w:=w) (mg:=mg) (base:=base) (qual:=qual) (f:=f) (cdv:=cdv) (A:=A) (outer:=outer) (s:=s) (E:=E) S h1 hl
  have B0:ck H (fun _=>none) H:=fun a o h=>⟨h,rfl⟩
  refine⟨_,MD (X:=i8 (gp P w) P w K mg base (aC (aa st)) qual (aa st) f cdv A outer s H E) (H0:=H) (C:=C) (S:=S') Gd (fun g' G' hG=>?_) h3 h4 h5 (hmg n C h3) (hEI n C h3).1 (fun p' f' hp'=>?_) (fun hfs pins σ H1 s1 h' a us I sm m=>?_) (fun f' i' hfs pins σ H1 s1 z dx o vv a0 sm I w1 w2 w3 w4 w5 w6 w7 w8 w9 w10=>?_) (fun pins σ H1 s1 e s' I c=>?_) hz rfl,fun _=>none,E0,hsl,B0⟩
  ·exact(hΨ g' G' hG).at hr
  ·obtain⟨j,fI,oI,fd',ps',q0,q1,q2,q3,q4,q5,q6⟩:=(hEI n C h3).2 p' f' hp'
   exact⟨j,fI,oI,fd',ps',q1,q2,q3,q4,q5,hr.mono q0,q6⟩
  ·subst hfs
   exact wc I rfl rfl m (h6 none H1 sm vi.nil)
  ·subst hfs
   exact mz I rfl rfl w2 w3 w4 w5 w6 w7 w8 w10 w9 (h6 _ _ (sm.trans (cy w1)) (fun f i z=>by cases z;exact⟨dx,rfl,aF⟩))
  ·refine yN I rfl rfl ?_
   obtain⟨x,C',T,od,H',rfl,z1,z2,z3,z4,z5,z6,z7,z8,z9,⟨e1,e2,e3⟩⟩:=c
   cases e1
   exact⟨x,C,T,od,H',rfl,z1,z2,z3,z4,z5,z6,z7,z8,z9,h6 od H' e2 e3⟩
def mD(ρ:af)(n y c B:Str)(fs:List (Str×Int)):af:=fun z=>if z=n then none else if z=y then some (.xc c (some (B,fs)),true)else ρ z
inductive Rt(Φ:Fx)(Ψ:Str->Option (List D->Option Xs))(sc:Scope):List Stmt->af->Xs->Prop where
 | exp {f:Str} {G:List D->Option Xs} {e:Expr} {es:List Expr} {p q pos:Pos} {ds:List D} {k:Nat} {ρ:af} {r:Xs} (ha:ac (bG Φ (e::es) sc ρ) (ds,k)) (hf:sc.names.lookup f=some .globalImplicit) (hG:Ψ f=some G) (h:G ds=some r):Rt Φ Ψ sc [.Expr (.Call (.Name f p) (e::es) [] q) pos] ρ r
 | asn {f:Str} {G:List D->Option Xs} {x:Str} {e:Expr} {es:List Expr} {p q pos px:Pos} {ds:List D} {k:Nat} {ρ:af} {r:Xs} (ha:ac (bG Φ (e::es) sc ρ) (ds,k)) (hf:sc.names.lookup f=some .globalImplicit) (hG:Ψ f=some G) (h:G ds=some r):Rt Φ Ψ sc [.Assign [.Name x px] (.Call (.Name f p) (e::es) [] q) pos] ρ r
 | iff {c:Expr} {a b:List Stmt} {t:Bool} {k:Nat} {pos:Pos} {ρ:af} {r:Xs} (hc:ac (az Φ c false sc ρ) (.bl t,k)) (h:Rt Φ Ψ sc (cond t a b) ρ r):Rt Φ Ψ sc [.If c a b pos] ρ r
theorem lL{M:Model}{A:Around}{E:Value->Shared->Prop}{env:Env}(h:wpAny M A (exec st env) Q E s):wpAny M A (execs [st] env) Q E s :=
 wpAny_execs_cons (aQ h fun f s1 q=>by
  cases f with
  | next=>exact W0 q
  | ret v=>exact q
  | brk=>exact q
  | cont=>exact q)
theorem MF{p:Str}(Gd:aS Φ X.nox sc)(GR:∀f G,Ψ f=some G->sh X f G)(hcn:W.nsIn X.K mainGlobals n=some (some (.ref C)))(hcp:W.nsIn X.K mainGlobals p=some (some (.ref S)))(hex:io X.K C S)
  (hx:∀H1 s1 e s',aj X pins σ H1 s1->gp X.prog X.w X.stack H1 s1 (LU H0 C fs) e s'->X.xe e s'):∀{ss:List Stmt} {ρ:af} {r:Xs},Rt Φ Ψ sc ss ρ r->r=(n,p,fs)->∀{s:Shared} {H:Hp},aj X pins σ H s->aO X.nox ow H σ ρ->aA H0 H->wpAny (model X.prog X.w) X.A (execs ss X.env) Q X.xe s:=by
 intro ss ρ r h
 induction h with
 | exp ha hf hG h =>
  intro er s H I E B
  subst er
  exact lL (wpAny_Expr_any (iM Gd (GR _ _ hG) hcn hcp hex ha hf h I E B hx) I.quiet rfl)
 | asn ha hf hG h =>
  intro er s H I E B
  subst er
  exact lL (wpAny_Assign_Name (iM Gd (GR _ _ hG) hcn hcp hex ha hf h I E B hx) (fC rfl))
 | iff hc h ih =>
  rename_i c a b t k pos ρ r
  intro er s H I E B
  have td:=((bH hc Gd).td rfl t rfl ow).nox
  refine lL (wpAny_If (aQ (td pins s σ H (fun b H'=>b=t/\aA H H') I ⟨E,fun H' sm=>⟨rfl,sm⟩⟩) fun d s1 ⟨H1,I1,e,sm⟩=>?_))
  subst e
  cases d with
  | true=>exact ih er I1 (E.same sm) (B.trans sm)
  | false=>exact ih er I1 (E.same sm) (B.trans sm)
theorem GV{x:Addr}{od:Option Addr}{ie iy:Nat}(E:aO X ow H σ ρ)(sm:aA H H')(nx:H' x=none)(hie:X.N[ie]?=some n)(hiy:X.N[iy]?=some y)(hv:jf X.env.scope y)(hne:iy≠ie)(hl:iy<σ.length)
  (hcn:W.nsIn X.K mainGlobals c=some (some (.ref C))) (hcp:W.nsIn X.K mainGlobals B=some (some (.ref S))) (hex:io X.K C S) (hfd:vi H' od fs) (hfo:∀f i,fs=[(f,i)]->v6 X.K C f) :
  aO X ow (aH H' x (lA x C od)) (((σ.set ie (some (.ref x))).set iy (some (.ref x))).set ie none) (mD ρ n y c B fs):=by
 have sm':aA H (aH H' x (lA x C od)):=sm.trans fun a o h=>by rw[ay (aZ h nx)];exact h
 refine⟨fun z d o h=>?_,(E.same sm').own⟩
 unfold mD at h
 by_cases hz:z=n
 ·rw[if_pos hz]at h;cases h
 ·rw[if_neg hz]at h
  by_cases hy:z=y
  ·rw[if_pos hy]at h
   cases h
   refine⟨iy,.ref x,by rw[hiy,hy],by rw[hy];exact hv,?_,?_⟩
   ·rw[Wf (V2 hne),Wx (by rw[VT];exact hl)]
   ·rw[ai]
    refine⟨x,C,S,od,rfl,hcn,hcp,hex,aF,fun f i z=>?_,hfo⟩
    obtain⟨dx,e1,e2⟩:=hfd f i z
    exact⟨dx,e1,by rw[ay (aZ e2 nx)];exact e2⟩
  ·rw[if_neg hy]at h
   obtain⟨i,v,e1,e2,e3,e4⟩:=(E.same sm').get z d o h
   have n1:i≠ie:=fun q=>hz (by rw[q,hie]at e1;exact(VA e1).symm)
   have n2:i≠iy:=fun q=>hy (by rw[q,hiy]at e1;exact(VA e1).symm)
   exact⟨i,v,e1,e2,by rw[Wf (V2 n1),Wf (V2 n2),Wf (V2 n1)];exact e3,e4⟩
theorem Iq{bp hpos:Pos}(Gd:aS Φ Y.nox sc)(GR:∀f G,Ψ f=some G->sh Y.nox f G)(hst:Y.stack=Y.env::Y.outer)
  (hcn:W.nsIn Y.K mainGlobals c=some (some (.ref C))) (hcp:W.nsIn Y.K mainGlobals B=some (some (.ref S))) (hex:io Y.K C S) (hexm:W.exmOne Y.K (.ref C) (.ref S)=some true) (hmB:Y.mg B=some (.ref S))
  (hB:sc.names.lookup B=some .globalImplicit) (hdb:(B==("__debug__" : Str))=false) (hn:sc.names.lookup n=some .local) (hy:sc.names.lookup y=some .local) (hny:n≠y) (hd1:(n==("__debug__" : Str))=false) (hd2:(n==("__classdict__" : Str))=false)
  (hfo:∀f i,fs=[(f,i)]->v6 Y.K C f) (h:Rt Φ Ψ sc tb ρ (c,B,fs)):SD Y.nox H0 ρ (.Try tb [.ExceptHandler (some (.Name B bp)) (some n) [.Assign [.Name y p1] (.Name n p2) p3] hpos] [] [] tpos) (.nx (mD ρ n y c B fs)):=by
 intro pins s σ H D I ⟨ow,E,hl,B0,q⟩
 have lk:∀z,sc.names.lookup z=some .local->∃i,Y.N[i]?=some z:=fun z hz=>by
  have:=Gd.ns z (by unfold cT;rw[hz];rfl)
  obtain⟨i,hi,e⟩:=List.getElem_of_mem this
  exact⟨i,by rw[VB hi];exact V0 some e⟩
 obtain⟨ie,hie⟩:=lk n hn
 obtain⟨iy,hiy⟩:=lk y hy
 have hne:iy≠ie:=fun z=>hny (by rw[z,hie]at hiy;exact VA hiy)
 refine wpAny_Try_except ?_
 refine MF (X:=Y.nox.wish fun e s₁=>wpAny (model Y.prog Y.w) Y.A (noteFrame e Y.env) (fun _ s₂=>wpAny (model Y.prog Y.w) Y.A (setFlight e none) (fun _ s₃=>wpAny (model Y.prog Y.w) Y.A (handleBy e Y.env [.ExceptHandler (some (.Name B bp)) (some n) [.Assign [.Name y p1] (.Name n p2) p3] hpos]) (SP Y.nox pins D) Y.nox.xe s₃) Y.nox.xe s₂) Y.nox.xe s₁) (H0:=H) (n:=c) (p:=B) Gd GR hcn hcp hex (fun H1 s1 e s' I1 c1=>?_) h rfl (I.wish _) E (aA.refl _)
 refine Lp (X:=Y.nox) (ie:=ie) (iy:=iy) (C0:=S) I1.unwish hst Gd.nd c1 (Gd.gl B hB) hmB hdb hie (Gd.lc n hn) hiy (Gd.lc y hy) hne hd1 hd2 fun C' od H' ⟨e1,sm,hfd⟩=>?_
 cases e1
 refine⟨hexm,fun x nx=>?_⟩
 have hl2:iy<σ.length:=by rw[hl];exact(Vu.mp hiy).1
 refine q ow _ _ (GV (X:=Y.nox) E sm nx hie hiy (.inl (Gd.lc y hy)) hne hl2 hcn hcp hex hfd hfo) (by simpa using hl) (bg.same (sm.trans fun a o h=>by rw[ay (aZ h nx)];exact h))
def zB(K:W.Frag)(Ex:Str->Option (Str×Option Str)):Prop:=∀c p o,Ex c=some (p,o)->∃C S,W.nsIn K mainGlobals c=some (some (.ref C))/\W.nsIn K mainGlobals p=some (some (.ref S))/\io K C S/\W.exmOne K (.ref C) (.ref S)=some true/\∀f,o=some f->v6 K C f
inductive Rw(Φ:Fx)(sc:Scope):List Stmt->af->D->Prop where
 | fin {ss:List Stmt} {ρ:af} {d:D} (h:Rf Φ sc ss ρ (.rt d)):Rw Φ sc ss ρ d
 | cut (n:Nat) {ss:List Stmt} {ρ ρ1:af} {d:D} (h:ac (aD Φ (ss.take n) sc ρ) (.nx ρ1)) (k:Rw Φ sc (ss.drop n) ρ1 d):Rw Φ sc ss ρ d
 | ret {e:Expr} {q:Pos} {ss:List Stmt} {ρ:af} {d:D} {k:Nat} (h:ac (az Φ e false sc ρ) (d,k)):Rw Φ sc (.Return (some e) q::ss) ρ d
def tW(X:Cx)(H0:Hp)(ρ:af)(d:D):TS:=fun D σ H => ∃ow,aO X ow H σ ρ/\σ.length=X.N.length/\ck H0 ow H/\∀v H',aA H0 H'->ai X.K H' (fun _ _=>True) d v->D.rt v H'
theorem ME(G:aS Φ X sc)(hp:PassesOwn (model X.prog X.w) X.A X.env X.xe)(h:Rw Φ sc ss ρ d):fe X ss (tW X H0 ρ d):=by
 induction h with
 | fin h=>exact fun pins s σ H D I ⟨ow,E,hl,B,q⟩=>yo (H0:=H0) G hp h pins s σ H D I ⟨ow,E,hl,B,fun v H' sm r=>q v H' sm (r.imp fun _ _ _=>True.intro)⟩
 | cut n h k ih =>
  rename_i ss' ρ' ρ1 d'
  rw[<- WS n ss']
  exact fun pins s σ H D I ⟨ow,E,hl,B,q⟩=>wK (H0:=H0) G hp ih h pins s σ H D I ⟨ow,E,hl,B,fun ow' σ' H' E' hl' B'=>⟨ow',E',hl',B',q⟩⟩
 | ret h =>
  have ed:=(bH h G).ed rfl
  exact fun pins s σ H D I ⟨ow,E,hl,B,q⟩=>fh (ur (ed ow)) fR pins s σ H D I ⟨E,fun v H2 s2 r2=>q v H2 (B.sm.trans s2) (r2.imp fun _ _ _=>True.intro)⟩
def tJ(Φ:Fx)(sc:Scope)(ps:List Str)(ss:List Stmt)(ds:List D)(r:D):Prop:=ds.length=ps.length/\Rw Φ sc ss (c6 ps ds) r
theorem GG(Fn:ke K g qual st f fd)
  (S:aN (aC (aa st)) ps (aa st)) (hΦ:sT P w K mg base k Φ) (hrun:∀ds r,ac (F ds) r->tJ Φ (aa st) ps (ak st) ds r):bT P w K mg base dS (k+1) f fd ps (NS K F):=by
 refine Fn.ok S (fun vs H Q E h=>?_) (fun cdv A outer s H vs Q E hr h=>?_)
 ·obtain⟨ds,r,l,h1,h2,hp,_⟩:=h
  rw[<- h1.length]
  exact(hrun ds r ⟨l,h2,hp⟩).1
 ·obtain⟨ds,r,l,h1,h2,hp,qq⟩:=h
  obtain⟨hl,hr'⟩:=hrun ds r ⟨l,h2,hp⟩
  have G:=jY (outer:=outer) (H:=H) (E:=E) S hΦ hr
  obtain⟨E0,hsl⟩:=mF (P:=P) (w:=w) (mg:=mg) (base:=base) (qual:=qual) (f:=f) (cdv:=cdv) (A:=A) (outer:=outer) (s:=s) (E:=E) S h1 hl
  have B0:ck H (fun _=>none) H:=fun a o h=>⟨h,rfl⟩
  exact⟨_,ME (H0:=H) G W6 hr',fun _=>none,E0,hsl,B0,fun v H' sm rp=>qq v H' sm rp⟩
def qW(P:Program)(w:World)(K:W.Frag)(mg:Str->Option Value)(base:Heap)(k:Nat)(g:Str)(F:List D->Rs D):Prop:=∃f fd ps,bT P w K mg base dS k f fd ps (NS K F)/\mg g=some (.ref f)/\W.keepIn K (.ref f)=true/\cu K fd ps []/\(g==("__debug__" : Str))=false
theorem qW.mono(h:qW P w K mg base j g F)(hjk:j<=k):qW P w K mg base k g F:=by
 obtain⟨f,fd,ps,h1,h2⟩:=h
 exact⟨f,fd,ps,h1.mono hjk,h2⟩
abbrev N5(P:Program)(w:World)(K:W.Frag)(mg:Str->Option Value)(base:Heap)(k:Nat):Str×(List D->Rs D)->Prop:=fun q=>qW P w K mg base k q.1 q.2
theorem Jq{l:List (Str×(List D->Rs D))}(h:∀q∈l,N5 P w K mg base k q):∀g G,(fun g:Str=>l.lookup g) g=some G->qW P w K mg base k g G:=fun g G e=>h (g,G) (Vs e)
theorem Cr{f:Str}{t px:Pos}(G:aS Φ X sc)(W:qW X.prog X.w X.K X.mg X.base k f F)(hr:bS k X.A)(gf:sc.names.lookup f=some .globalImplicit)(hx:cT sc x=true)(ha:ac (bG Φ (e::es) sc (bY ρ)) (ds,j))(h:ac (F ds) d) :
  SD X H0 ρ (.Assign [.Name x px] (.Call (.Name f p) (e::es) [] t) q) (.nx (bE (bY ρ) x (d,false))):=by
 obtain⟨fa,fd,ps,hF,hm,hk,hbd,hdb⟩:=W
 obtain⟨l7,h7,p7⟩:=ha
 obtain⟨hst,_⟩:=b0 h7 p7
 have ad:=fF (e::es) h7 p7 G
 obtain⟨l9,h9,p9⟩:=h
 have pcl:=fun ow=>wP (p:=p) hF hr (G.gl f gf) hm hk hbd .nil nI (ad ow) hdb (aG (hst e Vb)) (bt (pos:=t) fun x hx=>hst x (Vc _ hx))
 obtain⟨g1,g2,g3,i,g4⟩:=fE G hx
 intro pins s' σ' H' D I ⟨ow',E',hl',B',q'⟩
 have En:=vw E'
 refine uq (i:=i) G.nd g4 g1 (pcl fun _=>none) rfl g3 pins s' σ' H' D I ⟨En,fun vs H1 s1 r1=>?_⟩
 refine⟨ds,d,l9,by rw[VZ];exact r1.imp fun _ _ _=>True.intro,h9,p9,fun v H2 s2 r2=>?_⟩
 have s12:=s1.trans s2
 exact q' (fun _=>none) _ H2 (eV (o:=false) G.nd hl' (En.same s12) g4 g2 (r2.imp fun _ _ _ _=>rfl)) (by rw[VT];exact hl') ⟨fun a o h _=>s12 a o h,fun _ _ _ _=>rfl⟩
theorem Fy{hd:ExceptHandler}{ρ2:af}(h:fo Y.nox H0 ρ tb (.nx ρ2)):SD Y.nox H0 ρ (.Try tb [hd] [] [] tpos) (.nx ρ2):=by
 intro pins s σ H D I hq
 refine wpAny_Try_except ?_
 refine VX (h pins s σ H D I hq) (fun f s1 q=>?_) (fun _ _ z=>z.elim)
 cases f with
 | next=>exact W0 q
 | ret v=>exact q
 | brk=>exact q
 | cont=>exact q
abbrev r8:=Str->Option (List D->Rs D)
abbrev vQ:=Str->Option (List D->Option Xs)
mutual
inductive Rq(Φ:Fx)(Ψ:vQ)(Ex:Str->Option (Str×Option Str))(Ω:r8)(sc:Scope):List Stmt->af->Fl->Prop where
 | rf {ss:List Stmt} {ρ:af} {fl:Fl} (h:Rf Φ sc ss ρ fl):Rq Φ Ψ Ex Ω sc ss ρ fl
 | cut (n:Nat) {ss:List Stmt} {ρ ρ1:af} {fl:Fl} (h:ac (aD Φ (ss.take n) sc ρ) (.nx ρ1)) (k:Rq Φ Ψ Ex Ω sc (ss.drop n) ρ1 fl):Rq Φ Ψ Ex Ω sc ss ρ fl
 | dem {ss:List Stmt} {ρ:af} {fl:Fl} (k:Rq Φ Ψ Ex Ω sc ss (bY ρ) fl):Rq Φ Ψ Ex Ω sc ss ρ fl
 | callW {x f:Str} {F:List D->Rs D} {e:Expr} {es:List Expr} {p t px q:Pos} {ds:List D} {j:Nat} {d:D} {ss:List Stmt} {ρ:af} {fl:Fl} (hF:Ω f=some F) (ha:ac (bG Φ (e::es) sc (bY ρ)) (ds,j)) (h:ac (F ds) d) (gf:sc.names.lookup f=some .globalImplicit) (hx:cT sc x=true) (k:Rq Φ Ψ Ex Ω sc ss (bE (bY ρ) x (d,false)) fl) :
  Rq Φ Ψ Ex Ω sc (.Assign [.Name x px] (.Call (.Name f p) (e::es) [] t) q::ss) ρ fl
 | forQ {tg it:Expr} {body ss:List Stmt} {pos:Pos} {ρ ρ1:af} {d:D} {ds:List D} {k:Nat} {fl:Fl} (hi:ac (az Φ it true sc (demote it ρ)) (d,k)) (hd:items d=some ds) (hk:k<=1) (ht:eh it tg=true) (h:vY Φ Ψ Ex Ω sc tg body ds (demote it ρ) ρ1) (k:Rq Φ Ψ Ex Ω sc ss ρ1 fl):Rq Φ Ψ Ex Ω sc (.For tg it body [] pos::ss) ρ fl
 | iff {c:Expr} {a b ss:List Stmt} {pos:Pos} {ρ ρ1:af} {t:Bool} {k:Nat} {fl:Fl} (hc:ac (az Φ c false sc ρ) (.bl t,k)) (h:Rq Φ Ψ Ex Ω sc (cond t a b) ρ (.nx ρ1)) (k:Rq Φ Ψ Ex Ω sc ss ρ1 fl):Rq Φ Ψ Ex Ω sc (.If c a b pos::ss) ρ fl
 | tryN {tb ss:List Stmt} {hd:ExceptHandler} {tpos:Pos} {ρ ρ1:af} {fl:Fl} (h:Rf Φ sc tb ρ (.nx ρ1)) (k:Rq Φ Ψ Ex Ω sc ss ρ1 fl):Rq Φ Ψ Ex Ω sc (.Try tb [hd] [] [] tpos::ss) ρ fl
 | tryX {tb ss:List Stmt} {c B n y:Str} {o:Option Str} {fs:List (Str×Int)} {bp hpos p1 p2 p3 tpos:Pos} {ρ:af} {fl:Fl} (hE:Ex c=some (B,o)) (ho:∀f i,fs=[(f,i)]->o=some f) (h:Rt Φ Ψ sc tb ρ (c,B,fs)) (k:Rq Φ Ψ Ex Ω sc ss (mD ρ n y c B fs) fl)
  (hB:sc.names.lookup B=some .globalImplicit:=by rfl) (hdb:(B==("__debug__" : Str))=false:=by decide) (hn:sc.names.lookup n=some .local:=by rfl) (hy:sc.names.lookup y=some .local:=by rfl) (hny:n≠y:=by decide) (hd1:(n==("__debug__" : Str))=false:=by decide) (hd2:(n==("__classdict__" : Str))=false:=by decide) :
  Rq Φ Ψ Ex Ω sc (.Try tb [.ExceptHandler (some (.Name B bp)) (some n) [.Assign [.Name y p1] (.Name n p2) p3] hpos] [] [] tpos::ss) ρ fl
inductive vY(Φ:Fx)(Ψ:vQ)(Ex:Str->Option (Str×Option Str))(Ω:r8)(sc:Scope):Expr->List Stmt->List D->af->af->Prop where
 | nil {tg:Expr} {body:List Stmt} {ρ:af}:vY Φ Ψ Ex Ω sc tg body [] ρ ρ
 | cons {tg:Expr} {body:List Stmt} {d:D} {ds:List D} {ρ ρ1 ρ2 ρ3:af} (hb:bJ sc tg d ρ=some ρ1) (h:Rq Φ Ψ Ex Ω sc body ρ1 (.nx ρ2)) (k:vY Φ Ψ Ex Ω sc tg body ds ρ2 ρ3):vY Φ Ψ Ex Ω sc tg body (d::ds) ρ ρ3
end
theorem MG{Ψ:vQ}{Ω:r8}{k0:Nat}{fl:Fl}(G:aS Φ Y.nox sc)(hp:PassesOwn (model Y.nox.prog Y.nox.w) Y.nox.A Y.nox.env Y.nox.xe)(hst:Y.stack=Y.env::Y.outer)(GR:∀f G,Ψ f=some G->sh Y.nox f G)
  (GW:∀f F,Ω f=some F->qW Y.prog Y.w Y.K Y.mg Y.base k0 f F) (hr:bS k0 Y.A) (hmg:∀n C,W.nsIn Y.K mainGlobals n=some (some (.ref C))->Y.mg n=some (.ref C)) (hEx:zB Y.K Ex) (h:Rq Φ Ψ Ex Ω sc ss ρ fl):fo Y.nox H0 ρ ss fl:=by
 refine Rq.rec (motive_1:=fun ss ρ fl _=>fo Y.nox H0 ρ ss fl) (motive_2:=fun tg body ds ρ ρ' _=>xL Y.nox H0 tg body ds ρ (.nx ρ')) ?_ ?_ ?_ ?_ ?_ ?_ ?_ ?_ ?_ ?_ h
 ·intro ss ρ fl h;exact yo G hp h
 ·intro n ss ρ ρ1 fl h k ih;rw[<- WS n ss];exact nB G hp h ih
 ·intro ss ρ fl k ih;exact wz ih
 ·intro x f F e es p t px q ds j d ss ρ fl hF ha h gf hx k ih;exact ff (Cr (X:=Y.nox) G (GW f F hF) hr gf hx ha h) ih
 ·intro tg it body ss pos ρ ρ1 d ds k fl hi hd hk ht h k' i1 i2
  obtain⟨l,h1,h2⟩:=hi
  exact ff (wE hp G.calm ((bH ⟨l,h1,h2⟩ G).ie rfl _ ds hd ht) hk i1 (ii h1)) i2
 ·intro c a b ss pos ρ ρ1 t k fl hc h k' i1 i2
  refine ff (ym ((bH hc G).td rfl t rfl) ?_) i2
  cases t with
  | true=>rw[if_pos rfl];exact i1
  | false=>rw[if_neg Vp];exact i1
 ·intro tb ss hd tpos ρ ρ1 fl h k ih;exact ff (Fy (yo G hp h)) ih
 ·intro tb ss c B n y o fs bp hpos p1 p2 p3 tpos ρ fl hE ho h k hB hdb hn hy hny hd1 hd2 ih
  obtain⟨C,S',c1,c2,c3,c4,c5⟩:=hEx c B o hE
  exact ff (Iq (Y:=Y) (Ψ:=Ψ) G GR hst c1 c2 c3 c4 (hmg B S' c2) hB hdb hn hy hny hd1 hd2 (fun f i z=>c5 f (ho f i z)) h) ih
 ·intro tg body ρ;exact rfl
 ·intro tg body d ds ρ ρ1 ρ2 ρ3 hb h k i1 i2;exact⟨_,nW G hb,.inl ⟨_,i1,i2⟩⟩
def zr(Φ:Fx)(Ψ:vQ)(Ex:Str->Option (Str×Option Str))(Ω:r8)(sc:Scope)(ps:List Str)(ss:List Stmt)(ds:List D)(r:D):Prop:=ds.length=ps.length/\Rq Φ Ψ Ex Ω sc ss (c6 ps ds) (.rt r)
theorem GH{Ψ:vQ}{Ω:r8}(Fn:ke K g qual st f fd)
  (S:aN (aC (aa st)) ps (aa st)) (hΦ:sT P w K mg base k Φ) (hΨ:∀g G,Ψ g=some G->jj P w K mg base k g G) (hΩ:∀g F,Ω g=some F->qW P w K mg base k g F) (hmg:∀n C,W.nsIn K mainGlobals n=some (some (.ref C))->mg n=some (.ref C)) (hEx:zB K Ex)
  (hrun:∀ds r,ac (F ds) r->zr Φ Ψ Ex Ω (aa st) ps (ak st) ds r):bT P w K mg base dS (k+1) f fd ps (lv K F):=by
 refine Fn.ok S (fun vs H Q E h=>?_) (fun cdv A outer s H vs Q E hr h=>?_)
 ·obtain⟨ds,r,l,h1,h2,hp,_⟩:=h
  rw[<- h1.length]
  exact(hrun ds r ⟨l,h2,hp⟩).1
 ·obtain⟨ds,r,l,h1,h2,hp,qq⟩:=h
  obtain⟨hl,hr'⟩:=hrun ds r ⟨l,h2,hp⟩
  have G:=jY (outer:=outer) (H:=H) (E:=E) S hΦ hr
  obtain⟨E0,hsl⟩:=mF (P:=P) (w:=w) (mg:=mg) (base:=base) (qual:=qual) (f:=f) (cdv:=cdv) (A:=A) (outer:=outer) (s:=s) (E:=E) S h1 hl
  have B0:ck H (fun _=>none) H:=fun a o h=>⟨h,rfl⟩
  exact⟨_,MG (Y:=i8 dS P w K mg base (aC (aa st)) qual (aa st) f cdv A outer s H E) (H0:=H) G W6 rfl (fun g' G' hG=>(hΨ g' G' hG).at hr) hΩ hr hmg hEx hr',fun _=>none,E0,hsl,B0,fun v H' sm rp=>qq v H' sm rp⟩
noncomputable def Bx(P:List D->D->Prop):List D->Rs D:=fun ds => @dite (Rs D) (∃r,P ds r) (Classical.propDecidable _) (fun h=>.ok (Classical.choose h) []) (fun _=>.st)
theorem Hc{P:List D->D->Prop}(h:ac (Bx P ds) r):P ds r:=by
 unfold Bx at h
 split at h
 ·rename_i k;cases aJ h;exact Classical.choose_spec k
 ·exact(au h).elim
theorem KO{P:List D->D->Prop}(h:P ds r):∃r',ac (Bx P ds) r'/\P ds r':=by
 have k:∃r,P ds r:=⟨r,h⟩
 exact⟨Classical.choose k,⟨[],by unfold Bx;rw[dif_pos k],True.intro⟩,Classical.choose_spec k⟩
noncomputable def Bw(f:List D->Option Xs)(P:List D->Xs->Prop):List D->Option Xs:=fun ds => @ite (Option Xs) (∃r,f ds=some r/\P ds r) (Classical.propDecidable _) (f ds) none
theorem Hb{f:List D->Option Xs}{P:List D->Xs->Prop}{r:Xs}(h:Bw f P ds=some r):P ds r:=by
 unfold Bw at h
 split at h
 ·rename_i k;obtain⟨r',e,p⟩:=k;rw[e]at h;cases h;exact p
 ·cases h
theorem KM{f:List D->Option Xs}{P:List D->Xs->Prop}{r:Xs}(e:f ds=some r)(h:P ds r):Bw f P ds=some r:=by
 unfold Bw;rw[if_pos ⟨r,e,h⟩];exact e
variable{X:Cx}
def qY(n p:Str):List D->Option Bool
 | []=>some false
 | .xc m none::l=>(qY n p l).map fun b=>(decide (m=n) || decide (m=p)) || b
 | _=>none
def NO(n p:Str):D->Option Bool
 | .xc m none=>some (decide (m=n) || decide (m=p))
 | .typ T=>if T = "ValueError" then some true else none
 | .tup cs=>qY n p cs
 | _=>none
def DC(ds:List D):R1 :=
 match ds with
 | [.xc n (some (p,_)),c]=>(match NO n p c with|some b=>.ok (.bl b,0) []|none=>.st)
 | ds=>DD ds
theorem Ey{K:W.Frag}{H:Hp}{P:bn}{n p:Str}{C S:Addr}(hn:W.nsIn K mainGlobals n=some (some (.ref C)))(hp:W.nsIn K mainGlobals p=some (some (.ref S)))(e:io K C S):∀{cs:List D} {vs:List V} {us:List Value} {b:Bool},qY n p cs=some b->ah K H P cs vs->aP vs us->W.kitAny K (.ref C) us=some b
 | [],vs,us,b,h,r,q=>by
  rw[qY]at h;cases h
  rw[ah]at r;subst r;cases q;rfl
 | .xc m none::l,vs,us,b,h,r,q=>by
  rw[qY]at h
  cases hl:qY n p l with
  | none=>rw[hl]at h;cases h
  | some b' =>
   rw[hl]at h;cases h
   rw[ah]at r
   obtain⟨v,vr,rfl,r1,r2⟩:=r
   rw[ai]at r1
   obtain⟨Cm,rfl,hm,hx⟩:=r1
   cases q with
   | cons q1 q2 =>
    cases q1
    have k1:=AZ e hn hp hm hx
    have k2:=Ey hn hp e hl r2 q2
    show(match W.kitOne K (.ref C) (.ref Cm)with|some true=>some true|some false=>W.kitAny K (.ref C) _|none=>none)=_
    rw[k1]
    cases hd:(decide (m=n) || decide (m=p))with
    | true=>rfl
    | false=>exact k2
theorem Hj:fy "isinstance" DC:=by
 refine⟨by decide,by decide,by decide,rfl,fun X ds z l o hc h hp=>?_⟩
 unfold DC at h
 split at h
 ·rename_i n p fs c
  split at h
  ·rename_i b hb
   cases h
   refine .inl ⟨"isinstance", by decide,?_⟩
   have cr:eL X (.builtin "isinstance") (fun xs H Q => ∃v w P,xs=[v,w]/\ai X.K H P (.xc n (some (p,fs))) v/\ai X.K H P c w/\Q (.bl b) H):=by
    intro pins s σ H xs us Q I r hh
    obtain⟨v,w,P,rfl,r1,r2,q⟩:=hh
    obtain⟨u,u2,rfl,ru,ru2⟩:=nl r
    rw[ai]at r1
    obtain⟨x,C,S,od,rfl,h1,h2,h3,h4,_,_⟩:=r1
    cases ru
    have xo:LC x C s.heap:=let ⟨o,_,a,b,_⟩:=(show bD X.prog X.w H s.heap x (lA x C od)from I.hok x _ h4).1;⟨o,a,b⟩
    unfold NO at hb
    split at hb
    ·rename_i m
     cases hb
     rw[ai]at r2
     obtain⟨Cm,rfl,hm,hx⟩:=r2
     cases ru2
     exact V5 (o7 h3) I.kIn xo (AZ h3 h1 h2 hm hx) (fun z=>nomatch z) fun tk=>⟨.bl _,H,I.tok tk,rfl,q⟩
    ·rename_i T
     split at hb
     ·rename_i hT
      subst hT
      cases hb
      rw[ai]at r2
      subst r2
      cases ru2
      exact V5 (o7 h3) I.kIn xo (JJ h3) (fun z=>nomatch z) fun tk=>⟨.bl _,H,I.tok tk,rfl,q⟩
     ·cases hb
    ·rename_i cs
     rw[ai]at r2
     obtain⟨a,vs,rfl,sq,rl⟩:=r2
     cases ru2
     obtain⟨its,rv,⟨⟨c0,dd,data,sl⟩,e1,e2,n0,e3⟩,_⟩:=I.tuple sq
     simp only at e2 e3
     subst e2 e3
     exact W.kia_tup (o7 h3) I.kIn xo e1 (Ey h1 h2 h3 hb rl rv) (fun z=>nomatch z) fun tk=>⟨.bl _,H,I.tok tk,rfl,q⟩
    ·cases hb
   refine⟨_,cr,fun ow H0 H2 vs P Q o s rx q=>?_⟩
   rw[ah]at rx
   obtain⟨v,r,rfl,r1,r2⟩:=rx
   obtain⟨w,rfl,r3⟩:=r2.only
   exact⟨v,w,P,rfl,r1,r3,q _ _ (aA.refl _) (by rw[ai])⟩
  ·cases h
 ·exact Hk.2.2.2.2 X _ z l o hc h hp
theorem vB(hm:mg x=some (.ref C))(hn:W.nsIn K mainGlobals x=some (some (.ref C)))(hx:EV K x C):fq mg K (x,.xc x none) :=
 ⟨.ref C,.ref C,hm,rfl,fun H P=>by rw[ai];exact⟨C,rfl,hn,hx⟩⟩
def pX(K:W.Frag)(n:Str)(C:Addr):Bool :=
 match K.lookup mainGlobals with
 | some ⟨_,_,.dict es _,_⟩=>es.toList.all fun e => !(e.val == .ref C) || (match e.key with | .str m _=>decide (m=n)|_=>false)
 | _=>false
def vD(K:W.Frag)(C:Addr):Bool :=
 match K.lookup C with
 | some ⟨.type t,_,.cls _,_⟩=>t == "type"
 | _=>false
theorem tP(h1:pX K n C=true)(h2:vD K C=true):EV K n C:=by
 unfold vD at h2
 split at h2
 ·rename_i t d cd sl e
  have et:t = "type" := by simpa using h2
  subst et
  refine⟨?_,fun m hm=>?_,⟨_,e,rfl⟩⟩
  ·have c1:W.clsIn K C=some cd:=by unfold W.clsIn;rw[e]
   have c2:W.typeIn K (.ref C)=some (.type "type"):=by
    show Option.map (fun x=>x.cls) (List.lookup C K)=_
    rw[e];rfl
   rw[c1,c2];rfl
  ·unfold pX at h1
   unfold W.nsIn at hm
   split at h1
   ·rename_i a1 a2 es a3 a4 e1
    rw[e1]at hm
    dsimp only at hm
    split at hm
    ·rename_i x hf
     have hv:x.val=.ref C:=VA (VA hm)
     have hx:=List.mem_of_find?_eq_some hf
     have hk:x.key.isStr m=true:=List.find?_some (p:=fun x:DictEntry=>x.key.isStr m) hf
     have:=WD.mp h1 x hx
     rw[hv,show((Value.ref C==Value.ref C):Bool)=true by simp,Bool.not_true,Bool.false_or]at this
     cases hkk:x.key with
     | str k t =>
      rw[hkk]at this hk
      have a1:k=n:=VW this
      have a2:k=m:=by simpa [Value.isStr]using hk
      rw[<- a2,a1]
     | _=>rw[hkk]at this;cases this
    ·split at hm<;>cases hm
   ·cases h1
 ·cases h2
abbrev BU(K:W.Frag):Str×Str×Option Str->Prop:=fun q => ∃C S,W.nsIn K mainGlobals q.1=some (some (.ref C))/\W.nsIn K mainGlobals q.2.1=some (some (.ref S))/\io K C S/\W.exmOne K (.ref C) (.ref S)=some true/\∀f,q.2.2=some f->v6 K C f
theorem GO(h:∀q∈l,BU K q):zB K (fun c=>l.lookup c):=fun c p o e=>h (c,p,o) (Vs e)
abbrev BT(P:Program)(w:World)(K:W.Frag)(mg:Str->Option Value)(base:Heap)(k:Nat):Str×Str×Option Str->Prop:=fun q => ∃C,W.nsIn K mainGlobals q.1=some (some (.ref C))/\(q.2.2=none->eZ K C=none) /\
 ∀f,q.2.2=some f->∃j fI oI fd ps,j+1<=k/\eZ K C=some (.ref fI)/\K.lookup fI=some oI/\oI.cls=.type "function" /\ W.keepIn K (.ref C)=true/\bT P w K mg base dS j fI fd ps (t8 C f)/\cu K fd ps []
theorem Kh(h:∀q∈l,BT P w K mg base k q):LT P w K mg base k (fun c=>l.lookup c):=fun c C hc =>
 ⟨fun p e=>by
  obtain⟨C',h1,h2,_⟩:=h (c,p,none) (Vs e)
  rw[hc]at h1;cases h1;exact h2 rfl,fun p f e=>by
  obtain⟨C',h1,_,h3⟩:=h (c,p,some f) (Vs e)
  rw[hc]at h1;cases h1;exact h3 f rfl⟩
abbrev qX(P:Program)(w:World)(K:W.Frag)(mg:Str->Option Value)(base:Heap)(k:Nat):Str×(List D->Option Xs)->Prop:=fun q=>jj P w K mg base k q.1 q.2
theorem iT{l:List (Str×(List D->Option Xs))}(h:∀q∈l,qX P w K mg base k q):∀g G,(fun g:Str=>l.lookup g) g=some G->jj P w K mg base k g G:=fun g G e=>h (g,G) (Vs e)
end Sp
namespace K
open PySem L2 Sp Qm
variable{x y:Str}
section
variable{Φ:Fx}{sc:Scope}{ρ ρ1:af}{ss:List Stmt}
noncomputable def rE(y:Str):Bool:=!decide (y=Str.ofString "left") && !decide (y=Str.ofString "right")&&(decide ((reprText y).length<=1000)&&PyData.strOk y)
theorem CJ(h:rE y=true):y≠Str.ofString "left" /\ y≠Str.ofString "right" /\ (reprText y).length<=1000/\PyData.strOk y=true:=by
 unfold rE at h
 simp only[Vk]at h
 exact⟨by simpa using h.1.1,by simpa using h.1.2,VW h.2.1,h.2.2⟩
theorem GQ(x y:Str):cU (.str x) (.str y)=decide (x=y):=by
 show((x==y):Bool)=_
 by_cases h:x=y
 ·subst h;simp
 ·rw[Vh h];simpa using h
theorem wY(h:x≠y):(!cU (.str x) (.str y))=true:=by rw[GQ,Vh h];rfl
theorem Bn(h:PyData.strOk x=true)(g:PyData.strOk y=true):gH (.str x) (.str y)=true:=Di h g
abbrev zD:Xs:=(Str.ofString "NoSide", Str.ofString "SpaceError", [])
abbrev wq:Xs:=(Str.ofString "Nought", Str.ofString "SpaceError", [])
theorem Fw{s:Bool}(h:jQ y=some s):D.str y=uf s:=by
 unfold jQ at h
 split at h
 ·rename_i e;cases h;rw[e];rfl
 ·split at h
  ·rename_i e;cases h;rw[e];rfl
  ·cases h
noncomputable def ql:D->Bool
 | .tup [.int a,.int b,.int c,.int d]=>decide (a=0/\b=0/\c=0/\d=0)
 | _=>false
theorem sC{d:D}(h:ql d=true):d=dq aE:=by
 unfold ql at h
 split at h
 ·obtain⟨rfl,rfl,rfl,rfl⟩:=VW h;rfl
 ·cases h
end
end K
namespace Sp
open PySem PySem.Spec PyProof.Rows L2
variable{K:W.Frag}{f:Addr}
theorem Bh{o:Obj}(h:W.isFn K (.ref f)=true)(l:K.lookup f=some o):o.cls=.type "function" := by
 have:Option.map (fun x:Obj=>x.cls) (List.lookup f K)=some (.type "function"):=beq_iff_eq.mp h
 rw[show List.lookup f K=some o from l]at this
 exact VA this
theorem tO{P:Program}{w:World}{mg:Str->Option Value}{base:Heap}{g qual:Str}{st:Stmt}{C S0:Addr}{fd:FuncData}{mc:Value}(Fn:ke K g qual st f fd){s0 a1 fl b a:Str}{kd:Nat}{p1 p2 p3 p5 p6 p7 p8 p9 uz q1 q2 q3 q4:Pos}
  (hN:aC (aa st)=[s0,a1]) (S:aN (aC (aa st)) [s0,a1] (aa st)) (hv:(aa st).names.lookup s0=some .local/\(aa st).names.lookup a1=some .local) (hok:fi s0=true/\fi a1=true)
  (hgb:(aa st).names.lookup b=some .globalImplicit) (hm:mg b=some (.ref S0)) (hga:W.specialIn K (.ref S0) "__getattribute__" = some (some (.builtin "type.__getattribute__"))) (hrd:W.readsIn K S0 mc=true) (hfc:W.findCls K (.ref S0) mc "__init__" = some (.val (.builtin "ValueError.__init__"))) (hex:iq K C S0=true)
  (hdi:W.hasDictIn K C=true) (hsa:W.findIn K (.ref C) "__setattr__" = some (some (.builtin "object.__setattr__"))) (hff:W.findIn K (.ref C) fl=some none)
  (hb:ak st=[.Expr (.Call (.Attribute (.Name b p1) "__init__" p2) [.Name s0 p3,.JoinedStr [.Constant (.str a) kd p5,.FormattedValue (.Name a1 p6) (-1) none p7] p8] [] p9) uz,.Assign [.Attribute (.Name s0 q1) fl q2] (.Name a1 q3) q4]) (ha:a.length<=200) (hln:(p2.endLine==p9.line)=true) (hdb:(b==("__debug__" : Str))=false) :
  bT P w K mg base dS 1 f fd [s0,a1] (t8 C fl):=by
 obtain⟨cd,h1,h2⟩:=uK hex
 have h3:cd.hasDict=true:=by
  unfold W.hasDictIn at hdi
  rw[h1]at hdi
  exact hdi
 refine B8 Fn hN S (fun x hx=>?_) (fun x hx=>?_) hgb hm hga hrd hfc hex h1 h2 h3 hsa hff hb ha hln hdb
 ·simp only[Ve,VF,Ws]at hx
  rcases hx with rfl|rfl
  ·exact .inl hv.1
  ·exact .inl hv.2
 ·simp only[Ve,VF,Ws]at hx
  rcases hx with rfl|rfl
  ·exact hok.1
  ·exact hok.2
end Sp
namespace K
open PySem L2 Sp
variable{a b c d n w:Int}{L:List D}{ms ns:List Int}{q u:Qd}{j k:Nat}{B y:Str}{r:Xs}{ρ:af}{fs:List (Str×Int)}{mg:Str->Option Value}{l:W.OpenLaw}{loose:List Str}{XP:(Str->Option Value)->Heap->Prop}
noncomputable def ag(i:Nat):Stmt:=PySem.Challenge.pw_spaceturns_k21_orders_refused.main.body.getD i (.Pass ⟨0,0,0,0⟩)
local macro_rules | `(tactic| walk_at "leaf") => `(tactic| first | ((with_reducible apply nN);decide) | ((with_reducible apply fS);decide) | ((with_reducible apply xE) <;> decide) | ((with_reducible apply bZ) <;> (with_reducible assumption)) | ((with_reducible apply FS) <;> decide) | ((with_reducible refine Eq.trans ?_ rfl);exact rfl) | ((with_reducible apply cel_bits);(with_reducible assumption)) | ((with_reducible apply Jt);assumption) | exact Wq rfl|exact Or.inl rfl|exact Or.inr rfl|exact Or.inr (Vf 1) | exact Or.inr (Vm 1) | decide|decide)
local macro_rules | `(tactic| walk_at "ob") => `(tactic| (repeat' (first|with_reducible exact True.intro|with_reducible exact DI|with_reducible apply zh|with_reducible apply DH|with_reducible apply wj|with_reducible assumption | ((with_reducible apply fx);intro hgd) | walk_at "leaf")))
local macro_rules | `(∅) => `(cC rfl (by walk_at "ob"))
noncomputable def BL:List (Str×(List D->R1)):=[("len", DB),("tuple", vK),("list", zf),("abs", DF),("all", rW),("sum", Dz),("isinstance", DC),("int", DE)]
noncomputable def IL:List (Str×(List D->Nat->R1)):=[("range", ig),("zip", C9),("enumerate", yR),("reversed", Da)]
noncomputable def ML:List (Str×(D->List D->R1)):=[]
noncomputable def TL:List (Str×(List D->List D->Nat->Rs (List D))):=[("append", nS),("insert", nQ)]
noncomputable def EX:Str->Option (Str×Option Str):=fun c=>([("Divided", "SpaceError", some "by"),("NoOrder", "SpaceError", some "at"),("NoSide", "SpaceError", none),("Nought", "SpaceError", none)]:List (Str×Str×Option Str)).lookup c
noncomputable def DM:Fx:=Tb [] [] BL IL ML TL bi
noncomputable def DR:List D->Rs D:=bX DM (aa (ag 36)) ["_law_script", "_law_k"] (ak (ag 36))
noncomputable def kY:List D->Rs D:=pW dL dI fun l k=>.ok (.int (dm l k)) [AB l]
theorem wn:∀ds r,ac (kY ds) r->ac (DR ds) r:=by
 intro ds r h
 obtain⟨l,k,rfl,h⟩:=gz h
 obtain⟨rfl,⟨ns,rfl⟩,_⟩:=cm h
 refine cK (bW 1 (cC rfl True.intro) (sY (cC rfl True.intro) (fun ht=>?_) (fun hf=>?_)))
 ·have hl:(ns.map D.int).length=ns.length:=by simp
  have hp:(0:Int)<((ns.map D.int).length:Nat):=by simpa using ht
  have hi:L2.atI (ns.map D.int) (k.fmod (((ns.map D.int).length:Nat):Int))=some (.int (mJ ns k)):=by
   rw[hl]at hp⊢
   have hne:ns≠[]:=by intro z;subst z;simp at hp
   unfold mJ
   rw[if_neg hne]
   exact Ho (VI _ hp) (VR _ hp)
  refine aY (aW (d:=.int (mJ ns k)) (gc (cC rfl True.intro) (cC rfl ⟨Int.ne_of_gt hp,True.intro⟩) rfl hi)) ?_
  refine ∅.eq ?_
  unfold dm ER;rw[pS]
 ·have hp:ns=[]:=by
   cases ns with
   | nil=>rfl
   | cons n ns=>simp at hf
  subst hp
  refine ∅.eq ?_
  rfl
noncomputable def BP:Fx:=Tb [] [] BL IL ML TL bi
noncomputable def ng:List D->Rs D:=bX BP (aa (ag 42)) [] (ak (ag 42))
noncomputable def jO:List Qd:=[(2,0,0,0),(-2,0,0,0),(0,2,0,0),(0,-2,0,0),(0,0,2,0),(0,0,-2,0),(0,0,0,2),(0,0,0,-2),(1,1,1,1),(-1,1,1,1),(1,-1,1,1),(-1,-1,1,1),(1,1,-1,1),(-1,1,-1,1),(1,-1,-1,1),(-1,-1,-1,1),(1,1,1,-1),(-1,1,1,-1),(1,-1,1,-1),(-1,-1,1,-1),(1,1,-1,-1),(-1,1,-1,-1),(1,-1,-1,-1),(-1,-1,-1,-1)]
theorem Fk:ac (ng []) (.lst (jO.map dq)):=cC rfl (by walk_at "ob")
theorem lO:∀p∈jO,p∈tj:=by decide
noncomputable def BR:Fx:=Tb [] [] BL IL ML TL bi
noncomputable def nh:List D->Rs D:=bX BR (aa (ag 43)) ["_law_n"] (ak (ag 43))
theorem GC(hn:n∈cH):ac (nh [.int n]) (.lst ((fA n).map dq)):=by
 have hb:n.natAbs<=97:=by
  have:∀x∈cH,x.natAbs<=97:=by decide
  exact this n hn
 have m4:bL 4 n:=fS (by decide)
 refine cK (bW 3 ∅ (UU (Q:=Sub (bI [("_law_found", .lst ((fA n).map dq),true)])) 1 ?_ fun ρ1 s=>cw s ∅))
 refine fY (gG (h:=D.int) (g:=yW n) (T:=fA n) (F:=[]) (R:=[]) (fun F ρ=>Sub (bI [("_law_n", .int n,false),("_law_roots", .dct (om hZ) (wG hZ),true),("_law_found", .lst (F.map dq),true)]) ρ) ([0,1]:List Int) ∅ rfl (ae rfl (ae rfl (ae rfl aK))) (by simp only[List.nil_append,VZ];rfl) fun par hpar F R ρ e s=>⟨_,rfl,?_⟩) fun ρ s=>fD (ae s.get aK)
 have hpar:par=0\/par=1:=by simpa using hpar
 have s1:=s.put (Str.ofString "_law_parity") (.int par,false)
 refine fw (aW (d:=.lst ((fg n par).map D.int)) (bQ s1 (pp (l:=(List.range 41).map fun i:Nat => -20+(i:Int)) (g:=D.int) (f:=D.int) (t:=fun k=>decide (k.fmod 2=par)&&decide (k*k<=4*n)) ∅ (by rw[List.map_map];rfl) (by simp;decide) (.inr (Vm _)) fun x hx=>⟨_,0,rfl,?_,fun _=>∅⟩))) ?_
 ·have hx:-20<=x/\x<=20:=by
   obtain⟨i,hi,rfl⟩:=Wh.mp hx
   have:i<41:=by simpa using hi
   omega
  have mx:bL x x:=fS (by omega)
  exact xy (∅.bl (bN _ _)) ∅
 have sl:=uc (n:=n) hpar
 have fl:=Dg n
 have s2:=s1.put (Str.ofString "_law_some") (.lst ((fg n par).map D.int),true)
 refine fY (gG (h:=D.int) (g:=yV n par) (T:=fA n) (F:=F) (R:=R) (fun F ρ=>Sub (bI [("_law_n", .int n,false),("_law_roots", .dct (om hZ) (wG hZ),true),("_law_found", .lst (F.map dq),true),("_law_parity", .int par,false),("_law_some", .lst ((fg n par).map D.int),false)]) ρ) (fg n par) (bQ (s2.demote _) ∅) rfl (ae (s2.demote _).get (ae (s2.demote _).get (ae (s2.demote _).get (ae (s2.demote _).get (ae (s2.demote _).get aK))))) e fun a ha F R ρ e s=>⟨_,rfl,?_⟩) fun ρ s=>fD (ae s.get (ae s.get (ae s.get aK)))
 have s3:=s.put (Str.ofString "_law_a") (.int a,false)
 refine fY (gG (h:=D.int) (g:=yU n par a) (T:=fA n) (F:=F) (R:=R) (fun F ρ=>Sub (bI [("_law_n", .int n,false),("_law_roots", .dct (om hZ) (wG hZ),true),("_law_found", .lst (F.map dq),true),("_law_parity", .int par,false),("_law_some", .lst ((fg n par).map D.int),false),("_law_a", .int a,false)]) ρ) (fg n par) (bQ (s3.demote _) ∅) rfl (ae (s3.demote _).get (ae (s3.demote _).get (ae (s3.demote _).get (ae (s3.demote _).get (ae (s3.demote _).get (ae (s3.demote _).get aK)))))) e fun b hb F R ρ e s=>⟨_,rfl,?_⟩) fun ρ s=>fD (ae s.get (ae s.get (ae s.get (ae s.get (ae s.get aK)))))
 have s4:=s.put (Str.ofString "_law_b") (.int b,false)
 refine fY (gG (h:=D.int) (g:=kN n par a b) (T:=fA n) (F:=F) (R:=R) (fun F ρ=>Sub (bI [("_law_n", .int n,false),("_law_roots", .dct (om hZ) (wG hZ),true),("_law_found", .lst (F.map dq),true),("_law_parity", .int par,false),("_law_some", .lst ((fg n par).map D.int),false),("_law_a", .int a,false),("_law_b", .int b,false)]) ρ) (fg n par) (bQ (s4.demote _) ∅) rfl (ae (s4.demote _).get (ae (s4.demote _).get (ae (s4.demote _).get (ae (s4.demote _).get (ae (s4.demote _).get (ae (s4.demote _).get (ae (s4.demote _).get aK))))))) e fun c hc F R ρ e s=>⟨_,rfl,?_⟩) fun ρ s=>fD (ae s.get (ae s.get (ae s.get (ae s.get (ae s.get (ae s.get aK))))))
 obtain⟨_,a1,a2⟩:=gA ha
 obtain⟨_,b1,b2⟩:=gA hb
 obtain⟨_,c1,c2⟩:=gA hc
 have ma:bL a a:=fS (by omega)
 have mb:bL b b:=fS (by omega)
 have mc:bL c c:=fS (by omega)
 have e0:=e
 have le:F.length+(kN n par a b c).length<=37044:=by
  have:(F++(kN n par a b c++R)).length<=37044:=by rw[e];exact fl
  simp only[Vw]at this
  omega
 have s5:=s.put (Str.ofString "_law_c") (.int c,false)
 have hget:=Be (oy n a b c) hZ
 unfold kN at le⊢
 cases hr:uj hZ (oy n a b c)with
 | none =>
  have hin:fN (om hZ) (.inl (oy n a b c))=false:=by rw[u7,hr];rfl
  refine cE s5 (bW 1 ∅ (bh (t:=false) (k:=0) (eQ (iO (b:=false) (k:=0) (dJ ∅ ∅ (r:=false) (qr hin)) (fun z=>by cases z) (fun _=>rfl))) rfl cA)) fun ρ' s'=>?_
  simp only[VZ]
  exact ae s'.get (ae s'.get (ae s'.get (ae s'.get (ae s'.get (ae s'.get (ae s'.get aK))))))
 | some d =>
  have hin:fN (om hZ) (.inl (oy n a b c))=true:=by rw[u7,hr];rfl
  rw[hr]at hget le
  obtain⟨_,d1,d2⟩:=wF hr
  dsimp only at le⊢
  by_cases hp:d.fmod 2=par
  ·rw[if_pos hp]at le⊢
   by_cases hl:0<oy n a b c
   ·rw[if_pos hl]at le⊢
    simp only[VM,W3]at le
    have l1:(F.map dq).length<bO:=by rw[Vi];show _<40000;omega
    have l2:(F.map dq++[dq (a,b,c,d)]).length<bO:=by rw[Vw,Vi];show _+1<40000;omega
    refine cE s5 (bW 1 ∅ (db (t:=true) (k:=0) (eQ (gb (k:=0) (dJ ∅ ∅ (r:=true) (qr hin)) (gb (k:=0) (dJ (dY (iP ∅ ∅ rfl hget) ∅ ∅) ∅ (r:=true) (∅.eq ((bN _ _).trans (Vt hp)))) i6))) rfl (aY (qw (l:=F.map dq) (l':=F.map dq++[dq (a,b,c,d)]) (bf (vq (bf ∅ (bf ∅ (bf ∅ (bf (iP ∅ ∅ rfl hget) cG)))) (Wq rfl)) cG) rfl (vN l1)) (db (t:=decide (0<oy n a b c)) (k:=0) ∅ (Vt hl) (aY (qw (l:=F.map dq++[dq (a,b,c,d)]) (l':=F.map dq++[dq (a,b,c,d)]++[dq (a,b,c,-d)]) (bf (vq (bf ∅ (bf ∅ (bf ∅ (bf (Ko (iP ∅ ∅ rfl hget)) cG)))) (Wq rfl)) cG) rfl (vN l2)) cA))))) fun ρ' s'=>?_
    rw[Wc]
    exact ae s'.get (ae s'.get (ae (s'.get.trans (by rw[WV];rfl)) (ae s'.get (ae s'.get (ae s'.get (ae s'.get aK))))))
   ·rw[if_neg hl]at le⊢
    simp only[VM,W3]at le
    have l1:(F.map dq).length<bO:=by rw[Vi];show _<40000;omega
    refine cE s5 (bW 1 ∅ (db (t:=true) (k:=0) (eQ (gb (k:=0) (dJ ∅ ∅ (r:=true) (qr hin)) (gb (k:=0) (dJ (dY (iP ∅ ∅ rfl hget) ∅ ∅) ∅ (r:=true) (∅.eq ((bN _ _).trans (Vt hp)))) i6))) rfl (aY (qw (l:=F.map dq) (l':=F.map dq++[dq (a,b,c,d)]) (bf (vq (bf ∅ (bf ∅ (bf ∅ (bf (iP ∅ ∅ rfl hget) cG)))) (Wq rfl)) cG) rfl (vN l1)) (bh (t:=decide (0<oy n a b c)) (k:=0) ∅ (Vh hl) cA)))) fun ρ' s'=>?_
    rw[Wc]
    exact ae s'.get (ae s'.get (ae s'.get (ae s'.get (ae s'.get (ae s'.get (ae s'.get aK))))))
  ·rw[if_neg hp]at le⊢
   refine cE s5 (bW 1 ∅ (bh (t:=false) (k:=0) (eQ (gb (k:=0) (dJ ∅ ∅ (r:=true) (qr hin)) (iO (b:=false) (k:=0) (dJ (dY (iP ∅ ∅ rfl hget) ∅ ∅) ∅ (r:=false) (∅.eq ((bN _ _).trans (Vh hp)))) (fun z=>by cases z) (fun _=>rfl)))) rfl cA)) fun ρ' s'=>?_
   simp only[VZ]
   exact ae s'.get (ae s'.get (ae s'.get (ae s'.get (ae s'.get (ae s'.get (ae s'.get aK))))))
noncomputable def BQ:Fx:=Tb [] [] BL IL ML TL bi
noncomputable def B2:List D->Rs D:=bX BQ (aa (ag 40)) ["_law_one", "_law_other"] (ak (ag 40))
noncomputable def jB:List D->Rs D:=pW dQ dQ fun p q=>.ok (dq (aT p q)) [eS p,eS q]
theorem vW:∀ds r,ac (jB ds) r->ac (B2 ds) r:=by
 intro ds r h
 obtain⟨p,q,rfl,h'⟩:=gz h
 obtain⟨rfl,⟨a1,a2,a3,a4⟩,⟨b1,b2,b3,b4⟩,_⟩:=cm h'
 exact ∅
noncomputable def mR:Fx:=Tb [("_law_units", ng),("_law_cell", kY),("_law_fours", nh),("_law_times", jB)] [] BL IL ML TL bi
noncomputable def ni:List D->Rs D:=bX mR (aa (ag 44)) ["_law_script", "_law_begin", "_law_many"] (ak (ag 44))
noncomputable def Aq(w:Qd):Prop:=gQ 5 w/\av w∈cH
theorem ND{α:Type}{f:α->D}{l:List α}(h:0<l.length):∃x∈l,L2.atI (l.map f) (c.fmod ((l.map f).length:Nat))=some (f x):=by
 rw[Vi]
 exact kU (VI _ (by omega)) (VR _ (by omega))
theorem Hf(hl:AB L)(b:Int){m:Nat}(hm:m<=7):∃(u:Qd) (ws:List Qd),u∈jO/\ws.length=m/\(∀w∈ws,Aq w)/\ac (ni [.lst L,.int b,.int m]) (.tup [dq u,.lst (ws.map dq),.lst ((ws.map av).map D.int),dq (ws.foldl aT u)]):=by
 obtain⟨u,hu,hat⟩:=kU (f:=dq) (l:=jO) (i:=(dm L b).fmod 24) (VI _ (by decide)) (VR _ (by decide))
 have gu:=Nm (lO u hu)
 obtain⟨r,h1,ws,w1,w2,hr⟩:∃r,ac (aD mR (ak (ag 44)) (aa (ag 44)) (c6 ["_law_script", "_law_begin", "_law_many"] [.lst L,.int b,.int m])) (.rt r)/\∃ws:List Qd,ws.length=m/\(∀w∈ws,Aq w)/\r=.tup [dq u,.lst (ws.map dq),.lst ((ws.map av).map D.int),dq (ws.foldl aT u)]:=by
  obtain⟨ρ',g1,ws,w1,w2,s⟩:∃ρ',ac (aD mR ((ak (ag 44)).take 5) (aa (ag 44)) (c6 ["_law_script", "_law_begin", "_law_many"] [.lst L,.int b,.int m])) (.nx ρ')/\∃ws:List Qd,ws.length=m/\(∀w∈ws,Aq w)/\Sub (bI [("_law_primes", .lst ((ws.map av).map D.int),true),("_law_parts", .lst (ws.map dq),true),("_law_whole_here", dq (ws.foldl aT u),true),("_law_unit", dq u,true)]) ρ':=by
   refine AI 2 ∅ (fw (aW (d:=dq u) (gc (bM ∅ Fk) ∅ rfl hat)) (AI 1 ∅ (fY (P:=fun ρ' => ∃ws:List Qd,ws.length=m/\(∀w∈ws,Aq w)/\Sub (bI [("_law_primes", .lst ((ws.map av).map D.int),true),("_law_parts", .lst (ws.map dq),true),("_law_whole_here", dq (ws.foldl aT u),true),("_law_unit", dq u,true)]) ρ') (J8 (n:=m) (fun i ρ => ∃ws:List Qd,ws.length=i/\(∀w∈ws,Aq w)/\gQ (1+6*i) (ws.foldl aT u)/\Sub (bI [("_law_script", .lst L,false),("_law_begin", .int b,false),("_law_primes", .lst ((ws.map av).map D.int),true),("_law_parts", .lst (ws.map dq),true),("_law_whole_here", dq (ws.foldl aT u),true),("_law_unit", dq u,true)]) ρ) (yZ (B:=ig) ∅ (IF (by omega))) ⟨[],rfl,(fun w h=>by cases h),gu,ae rfl (ae rfl (ae rfl (ae rfl (ae rfl (ae rfl (aK))))))⟩ ?_ ?_) fun ρ h=>fD h)))
   ·rintro i ρ hi ⟨ws,w1,w2,w3,s⟩
    refine⟨_,rfl,?_⟩
    have s1:=s.put (Str.ofString "_law_k") (.int (i:Nat),false)
    obtain⟨p0,hp0,at0⟩:=kU (f:=D.int) (l:=[2,3,5,7,11,13,3,5]) (i:=(dm L (b+1+(i:Nat))).fmod 8) (VI _ (by decide)) (VR _ (by decide))
    obtain⟨p1,hp1,at1⟩:=kU (f:=D.int) (l:=[17,19,23,29,31,37,41,43,47,53,59,61,67,71,73,79,83,89,97]) (i:=((dm L (b+1+(i:Nat))).fdiv 192).fmod 19) (VI _ (by decide)) (VR _ (by decide))
    have q0:p0∈cH:=(show ∀x∈([2,3,5,7,11,13,3,5]:List Int),x∈cH by decide) p0 hp0
    have q1:p1∈cH:=(show ∀x∈([17,19,23,29,31,37,41,43,47,53,59,61,67,71,73,79,83,89,97]:List Int),x∈cH by decide) p1 hp1
    refine U0 (Q:=fun ρ => ∃(n:Int),n∈cH/\Sub (bI [("_law_script", .lst L,false),("_law_begin", .int b,false),("_law_primes", .lst ((ws.map av).map D.int),true),("_law_parts", .lst (ws.map dq),true),("_law_whole_here", dq (ws.foldl aT u),true),("_law_unit", dq u,true),("_law_cell_here", .int (dm L (b+1+(i:Nat))),true),("_law_p", .int n,true)]) ρ) 3 ?_ ?_
    ·have s2:=s1.put (Str.ofString "_law_cell_here") (.int (dm L (b+1+(i:Nat))),true)
     have s3:=s2.put (Str.ofString "_law_p") (.int p0,true)
     exact fw (aW (d:=.int (dm L (b+1+(i:Nat)))) (bQ s1 ∅)) (fw (aW (d:=.int p0) (bQ s2 (gc ∅ ∅ rfl at0))) (fY (yQ (k:=0) (bQ s3 ∅) (fun _=>cE s3 (aY (aW (d:=.int p1) (gc ∅ ∅ rfl at1)) cA) fun ρ' s'=>⟨p1,q1,ae s'.get (ae s'.get (ae s'.get (ae s'.get (ae s'.get (ae s'.get (ae s'.get (ae s'.get aK)))))))⟩) (fun _=>fD ⟨p0,q0,ae s3.get (ae s3.get (ae s3.get (ae s3.get (ae s3.get (ae s3.get (ae s3.get (ae s3.get aK)))))))⟩)) fun ρ h=>fD h))
    ·rintro ρ2 ⟨n,hn,s⟩
     obtain⟨w,hw,atw⟩:=ND (f:=dq) (l:=fA n) (c:=(dm L (b+1+(i:Nat))).fdiv 4096) (vf hn)
     obtain⟨gw,ew⟩:=Df hw
     subst ew
     have hne:((((fA (av w)).map dq).length:Nat):Int)≠0:=by have:=vf hn;rw[Vi];omega
     have l1:((ws.map av).map D.int).length<bO:=by rw[Vi,Vi,w1];show i<40000;omega
     have l2:(ws.map dq).length<bO:=by rw[Vi,w1];show i<40000;omega
     have b1:=w3.bd (by omega)
     have b2:=gw.bd (by decide)
     have s4:=s.put (Str.ofString "_law_some") (.lst ((fA (av w)).map dq),true)
     have s5:=s4.put (Str.ofString "_law_part") (dq w,true)
     refine fw (aW (d:=.lst ((fA (av w)).map dq)) (bQ s (bM ∅ (GC hn)))) (fw (aW (d:=dq w) (bQ s4 (gc ∅ ∅ rfl atw))) (cE s5 ∅ fun ρ' s'=>⟨ws++[w],by rw[Vw,w1];rfl,?_,?_,?_⟩))
     ·intro x hx
      rcases Xj.mp hx with hx|hx
      ·exact w2 x hx
      ·rw[WF]at hx;subst hx;exact⟨gw,hn⟩
     ·rw[List.foldl_append]
      have:=w3.mul gw
      exact this.mono (by omega)
     ·rw[Wc,Wc,Wc,List.foldl_append]
      exact ae s'.get (ae s'.get (ae s'.get (ae s'.get (ae s'.get (ae s'.get aK)))))
   ·rintro ρ ⟨ws,w1,w2,w3,s⟩
    exact⟨ws,w1,w2,ae s.get (ae s.get (ae s.get (ae s.get aK)))⟩
  exact⟨_,bW 5 g1 (cw s ∅),ws,w1,w2,rfl⟩
 subst hr
 exact⟨u,ws,hu,w1,w2,cK h1⟩
noncomputable def mQ:Fx:=Tb [] [] BL IL ML TL bi
noncomputable def jh:List D->Rs D:=bX mQ (aa (ag 47)) ["_law_things", "_law_cell_here"] (ak (ag 47))
theorem Im(c:Int)(hl:ns.length<=20):∃ms:List Int,ms.Perm ns/\ac (jh [.lst (ns.map D.int),.int c]) (.lst (ms.map D.int)):=by
 have ll:ar (ns.map D.int)=true:=cM (fun _=>rfl) ns
 have ew:=CT 0 ns
 have he:fP 0 (ns.map D.int)=(List.range ns.length).map fun i=>.tup [.int (i:Nat),.int (ns.getD i 0)]:=by
  conv=>lhs;rw[ew]
  rw[List.map_map]
  exact GY _
 have fa:=gG (Φ:=mQ) (sc:=aa (ag 47)) (ρ:=bE (c6 ["_law_things", "_law_cell_here"] [.lst (ns.map D.int),.int c]) "_law_found" (.lst [],true)) (h:=fun i:Nat=>D.tup [.int (i:Nat),.int (ns.getD i 0)]) (g:=fun i=>[ns.getD i 0]) (T:=(List.range ns.length).flatMap fun i=>[ns.getD i 0]) (F:=[]) (R:=[]) (k:=1) (fun F ρ => ∃ms:List Int,ms.Perm F/\Sub (bI [("_law_cell_here", .int c,false),("_law_found", .lst (ms.map D.int),true)]) ρ) (List.range ns.length) (d:=.lst (fP 0 (ns.map D.int))) (tg:=nX ((ak (ag 47)).getD 1 (.Pass ⟨0,0,0,0⟩))) (it:=yX ((ak (ag 47)).getD 1 (.Pass ⟨0,0,0,0⟩))) (body:=iN ((ak (ag 47)).getD 1 (.Pass ⟨0,0,0,0⟩))) (p:=⟨0,0,0,0⟩) ∅ (by show some (fP 0 _)=_;rw[he]) ⟨[],List.Perm.refl _,ae rfl (ae rfl aK)⟩ (by simp) ?_
 ·rw[List.nil_append,kK,<- ew]at fa
  obtain⟨ρ',f1,ms,pm,s⟩:=fa
  exact⟨ms,pm,cK (bW 1 ∅ (aY f1 (cw s ∅)))⟩
 ·rintro i hi F R ρ e ⟨ms,pm,s⟩
  have hi:i<ns.length:=by simpa using hi
  have lF:F.length<=ns.length:=by
   have:=V0 List.length e
   simp only[Vw,kK,Vi,Xb]at this
   omega
  have lm:ms.length<=20:=by rw[pm.length_eq];omega
  have dv:ge ((i:Int)+3):=xE (by omega) (by omega)
  have mk:bL (i:Int) 7919:=nN (by decide)
  have hne:((((ms.map D.int).length:Nat):Int)+1)≠0:=by omega
  have i0:=VI (c.fdiv ((i:Int)+3)+(i:Int)*7919) (show(0:Int)<(((ms.map D.int).length:Nat):Int)+1 by omega)
  have i1:=VR (c.fdiv ((i:Int)+3)+(i:Int)*7919) (show(0:Int)<(((ms.map D.int).length:Nat):Int)+1 by omega)
  generalize hz:(c.fdiv ((i:Int)+3)+(i:Int)*7919).fmod ((((ms.map D.int).length:Nat):Int)+1)=z at i0 i1
  have l1:(ms.map D.int).length<bO:=by rw[Vi];show _<40000;omega
  refine⟨_,rfl,cE ((s.put _ _).put _ _) (aY (qw (M:=nQ) (ds:=[.int z,.int (ns.getD i 0)]) (l:=ms.map D.int) (l':=(ms.take z.toNat++ns.getD i 0::ms.drop z.toNat).map D.int) (k:=0) (bf (d:=.int z) (k:=0) (by rw[<- hz];exact ∅) (bf (d:=.int (ns.getD i 0)) (k:=0) ∅ cG)) rfl ?_) cA) fun ρ' s'=>⟨ms.take z.toNat++ns.getD i 0::ms.drop z.toNat,?_,ae s'.get (ae s'.get aK)⟩⟩
  ·refine ac.eq (a:=(ms.map D.int).take z.toNat++D.int (ns.getD i 0)::(ms.map D.int).drop z.toNat) ⟨_,rfl,i0,by omega,rfl,l1,True.intro⟩ ?_
   rw[Wc,Vx,List.map_take,List.map_drop]
  ·refine List.perm_middle.trans ?_
   rw[WS]
   exact(List.Perm.cons _ pm).trans (List.perm_append_singleton _ _).symm
noncomputable def oC:Fx:=Tb [] [] BL IL ML TL bi
noncomputable def gY:List D->Rs D:=bX oC (aa (ag 45)) ["_law_four"] (ak (ag 45))
theorem AX(a b c d G:Int)(f:Bool)(hG:ge G):ac (aD oC ((ak (ag 45)).drop 2) (aa (ag 45)) (bI [("_law_four", t4 a b c d,false),("_law_common", .int G,f)])) (.rt (.int (cond (([D.int ((a.fdiv G).fmod 2),.int ((b.fdiv G).fmod 2),.int ((c.fdiv G).fmod 2),.int ((d.fdiv G).fmod 2)].any fun z=>cU z (.int 0))&&([D.int ((a.fdiv G).fmod 2),.int ((b.fdiv G).fmod 2),.int ((c.fdiv G).fmod 2),.int ((d.fdiv G).fmod 2)].any fun z=>cU z (.int 1))) (G.fdiv 2) G))):=by
 refine bW 1 ∅ (sY (xy ∅ ∅) (fun ht=>?_) (fun hf=>?_))
 ·rw[ht];exact ∅
 ·rw[hf];exact ∅
theorem JG(h0:¬ (a=0/\b=0/\c=0/\d=0))(hb:∀n∈[a,b,c,d],n.natAbs<2 ^ 1000)(hB:ge (gI [a,b,c,d])):ac (gY [t4 a b c d]) (.int (cond (([D.int ((a.fdiv (gI [a,b,c,d])).fmod 2),.int ((b.fdiv (gI [a,b,c,d])).fmod 2),.int ((c.fdiv (gI [a,b,c,d])).fmod 2),.int ((d.fdiv (gI [a,b,c,d])).fmod 2)].any fun z=>cU z (.int 0))&&([D.int ((a.fdiv (gI [a,b,c,d])).fmod 2),.int ((b.fdiv (gI [a,b,c,d])).fmod 2),.int ((c.fdiv (gI [a,b,c,d])).fmod 2),.int ((d.fdiv (gI [a,b,c,d])).fmod 2)].any fun z=>cU z (.int 1))) ((gI [a,b,c,d]).fdiv 2) (gI [a,b,c,d]))):=by
 refine cK (bW 1 ∅ (rg (ds:=([a,b,c,d]:List Int).map D.int) (fun rem ρ => ∃(r:List Int) (g:Nat) (f:Bool),rem=r.map D.int/\(∀n∈r,n.natAbs<2 ^ 1000)/\dW g r=dW 0 [a,b,c,d]/\g<2 ^ 1000/\Sub (bI [("_law_four", t4 a b c d,false),("_law_common", .int g,f)]) ρ) ∅ ⟨[a,b,c,d],0,true,rfl,hb,rfl,Nat.pow_pos (by decide),ae rfl (ae rfl aK)⟩ ?_ ?_))
 ·rintro x l ρ ⟨r,g,f,hr,hb',hg,hlt,s⟩
  cases r with
  | nil=>cases hr
  | cons n r =>
   cases hr
   have hn:=hb' n Vb
   have ea:(if n<0 then -n else n)=((n.natAbs:Nat):Int):=by omega
   refine⟨_,rfl,fw (aW (d:=.int (n.natAbs:Nat)) (bQ (s.put _ _) (∅.eq (by rw[ea])))) (LW (m:=2002) (fun m ρ => ∃(x y:Nat) (f1 f2:Bool),B4 x y m/\x<2 ^ 1000/\y<2 ^ 1000/\Nat.gcd x y=Nat.gcd g n.natAbs/\Sub (bI [("_law_four", t4 a b c d,false),("_law_common", .int x,f1),("_law_rest", .int y,f2)]) ρ) ⟨g,n.natAbs,f,true,Kr hlt hn,hlt,hn,rfl,ae ((s.put _ _).put _ _).get (ae ((s.put _ _).put _ _).get (ae ((s.put _ _).put _ _).get aK))⟩ (by decide) ?_ ?_)⟩
   ·rintro m ρ ⟨x,y,f1,f2,hm,hx,hy,hg',s⟩
    refine⟨decide ((0:Int)<y),0,bQ s ∅,fun ht=>?_⟩
    have h0:y≠0:=by
     have:=VW ht
     omega
    have hn:(y:Int)≠0:=by omega
    obtain⟨m',hm',hE⟩:=xz hm h0
    have e:=Bi x y
    exact nk hm' (cE s ∅ fun ρ' s'=>⟨y,x % y,false,false,hE,hy,Xq (Nat.mod_lt _ (by omega)) hy,by rw[<- hg',Nat.gcd_comm x y,Nat.gcd_rec y x,Nat.gcd_comm],ae s'.get (ae s'.get (ae (by rw[<- e];exact s'.get) aK))⟩)
   ·rintro m ρ ⟨x,y,f1,f2,hm,hx,hy,hg',s⟩ ⟨k,hk⟩
    have e:=hk.inj (bQ s ∅)
    have h0:y=0:=by
     have e1:decide ((0:Int)<y)=false:=by injection e with e1 e2;injection e1 with e1;exact e1.symm
     have:=of_decide_eq_false e1
     omega
    subst h0
    rw[Nat.gcd_zero_right]at hg'
    exact⟨r,x,f1,rfl,fun m hm=>hb' m (Vc _ hm),by rw[hg'];exact hg,hx,ae s.get (ae s.get aK)⟩
 ·rintro ρ ⟨r,g,f,hr,hb',hg,hlt,s⟩
  cases r with
  | nil =>
   have e:(g:Int)=gI [a,b,c,d]:=by unfold gI;rw[<- hg];rfl
   rw[<- e]at hB⊢
   exact cw s (AX a b c d _ _ hB)
  | cons n r=>cases hr
noncomputable def DL:Fx:=Tb [] [] BL IL ML TL bi
noncomputable def DQ:List D->Rs D:=bX DL (aa (ag 39)) ["_law_four"] (ak (ag 39))
noncomputable def kX:List D->Rs D:=wB dQ fun p=>.ok (.int (av p)) [eS p]
theorem wm:∀ds r,ac (kX ds) r->ac (DQ ds) r:=by
 intro ds r h
 obtain⟨p,rfl,h'⟩:=nD h
 obtain⟨rfl,hp,_⟩:=cm h'
 obtain⟨⟨a1,a2,a3,a4⟩,_⟩:=qK hp hp
 exact cC rfl (by walk_at "ob")
noncomputable def r6:Fx:=Tb [("_law_divisor", gY),("_law_size", kX)] [] BL IL ML TL bi
noncomputable def se:List D->Rs D:=bX r6 (aa (ag 49)) ["_law_four", "_law_order"] (ak (ag 49))
theorem NF(h:n∈cH):((cH.map D.int).any fun y=>cU y (.int n))=true:=by
 rw[List.any_eq_true]
 exact⟨.int n,Wh.mpr ⟨n,h,rfl⟩,by rw[bN];exact Vt rfl⟩
theorem Lx(h:n∉cH):((cH.map D.int).any fun y=>cU y (.int n))=false:=by
 rw[Bool.eq_false_iff]
 intro z
 obtain⟨y,hy,e⟩:=List.any_eq_true.mp z
 obtain⟨m,hm,rfl⟩:=Wh.mp hy
 rw[bN]at e
 exact h (VW e ▸ hm)
theorem Bo(n:Int):gH (.tup (cH.map D.int)) (.int n)=true:=by
 have k:SeqAt.shaped (D.int n).py=true:=by rw[D.py];rfl
 unfold gH
 rw[k]
 decide
theorem wV(h:n∈cH):ac (iu .NotIn (.int n) (.tup (cH.map D.int))) false:=ac.eq ⟨_,rfl,Bo n,True.intro⟩ (by rw[NF h];rfl)
theorem wW(h:n∉cH):ac (iu .NotIn (.int n) (.tup (cH.map D.int))) true:=ac.eq ⟨_,rfl,Bo n,True.intro⟩ (by rw[Lx h];rfl)
theorem wL:∀l:List Int,dj l.reverse=dj l
 | []=>rfl
 | n::l=>by rw[Xa,rn,wL l,FR,ej,Wb]
noncomputable def d8:List Int->Int->Int->Nat->Option Nat
 | [],acc,w,i=>if acc=w then none else some i
 | n::l,acc,w,i=>if n∈cH then d8 l (acc*n) w (i+1)else some i
theorem uF:∀(l:List Int) (acc w:Int) (i:Nat),d8 l acc w i=none->(∀n∈l,n∈cH)/\acc*dj l=w
 | [],acc,w,i,h=>by
  unfold d8 at h
  split at h
  ·rename_i e;exact⟨fun n z=>(by cases z),by rw[show dj []=1 from rfl,Xu];exact e⟩
  ·cases h
 | n::l,acc,w,i,h=>by
  unfold d8 at h
  split at h
  ·rename_i e
   obtain⟨h1,h2⟩:=uF l _ _ _ h
   exact⟨fun m hm=>by rcases Ve.mp hm with rfl|hm;exact e;exact h1 m hm,by rw[ej,<- WC];exact h2⟩
  ·cases h
theorem AF:∀(l:List Int) (acc w:Int) (i:Nat),(∀n∈l,n∈cH)->acc*dj l=w->d8 l acc w i=none
 | [],acc,w,i,_,h=>by
  rw[show dj []=1 from rfl,Xu]at h
  exact if_pos h
 | n::l,acc,w,i,hm,h=>by
  rw[ej,<- WC]at h
  exact(if_pos (hm n Vb)).trans (AF l _ _ _ (fun m h=>hm m (Vc _ h)) h)
theorem AG:∀(l:List Int) (acc w:Int) (i j:Nat),d8 l acc w i=some j->j<=i+l.length
 | [],acc,w,i,j,h=>by
  unfold d8 at h
  split at h
  ·cases h
  ·cases h;exact Vf _
 | n::l,acc,w,i,j,h=>by
  unfold d8 at h
  split at h
  ·have:=AG l _ _ _ _ h;simp only[VM];omega
  ·cases h;omega
noncomputable def oD:Option Nat->D
 | none=>.non
 | some i=>.int (i:Nat)
theorem M5(h:q≠aE)(g:gQ 400 q):ac (gY [dq q]) (.int (dh q)):=by
 have b:=g.bd (by decide)
 obtain⟨n,hn,n0⟩:=wZ h
 have hg:=vd hn n0
 have hle:∀n∈[q.1,q.2.1,q.2.2.1,q.2.2.2],n.natAbs<=2 ^ 400:=by
  intro n hn
  simp only[Ve,VF,Ws]at hn
  rcases hn with rfl|rfl|rfl|rfl
  ·exact g.2.1
  ·exact g.2.2.1
  ·exact g.2.2.2.1
  ·exact g.2.2.2.2
 have k:=JG (a:=q.1) (b:=q.2.1) (c:=q.2.2.1) (d:=q.2.2.2) (fun z=>h (cZ z.1 z.2.1 z.2.2.1 z.2.2.2)) (fun m hm=>VE (hle m hm) (VY (by decide) (by decide))) ⟨by omega,VE (Vl (EG hn n0) (hle n hn)) (VY (by decide) (by decide))⟩
 rw[FZ]at k
 refine k.eq ?_
 unfold dh
 cases jH _ _ _ _<;>rfl
theorem RF(h:a≠b):(!cU (.int a) (.int b))=true:=by rw[bN,Vh h];rfl
noncomputable def TX:Stmt->Expr
 | .Assign _ e _=>e
 | _=>.Constant .none 0 ⟨0,0,0,0⟩
noncomputable def IR(m:Nat):Bool:=(((List.range 8).filter fun d=>decide (((2+d:Nat):Int)<((2+m:Nat):Int))).map fun d => !decide (((2+m:Nat):Int).fmod ((2+d:Nat):Int)=0)).all id
theorem MO:((List.range 96).filter IR).map (fun m=>((2+m:Nat):Int))=cH:=by decide
noncomputable def pw(q:Qd):Option Nat->D
 | some i=>.tup [.str (Str.ofString "order"),.int (i:Nat)]
 | none=>if 1<dh q then .tup [.str (Str.ofString "divided"),.int (dh q)]else .non
theorem Bq{q:Qd}{ns:List Int}(ne:q≠aE)(g:gQ 400 q):∀(l:List Int) (acc:Int) (i:Nat) (ρ:af),Sub (bI [("_law_four", dq q,false),("_law_order", .lst (ns.map D.int),false),("_law_primes", .lst (cH.map D.int),true),("_law_many", .int acc,true)]) ρ->i+l.length=ns.length->v5 r6 (aa (ag 49)) (nX ((ak (ag 49)).getD 3 (.Pass ⟨0,0,0,0⟩))) (iN ((ak (ag 49)).getD 3 (.Pass ⟨0,0,0,0⟩))) ((ak (ag 49)).drop 4) (pw q (d8 l acc (av q) i)) (fP i (l.map D.int)) ρ
 | [],acc,i,ρ,s,hi=>by
  have hl:((((ns.map D.int).length:Nat):Int))=(i:Int):=by rw[Vi,<- hi];rfl
  have bq:=g.bd (by decide)
  have hv:=M5 ne g
  by_cases h:acc=av q
  ·rw[show d8 [] acc (av q) i=none from if_pos h]
   refine cw s (bh (t:=false) (k:=0) (∅.bl (uH h)) rfl (aY (aW (d:=.int (dh q)) (bM ∅ hv)) ?_))
   by_cases hb:1<dh q
   ·rw[show pw q none=.tup [.str (Str.ofString "divided"),.int (dh q)]from if_pos hb]
    exact db (t:=true) (k:=0) (∅.bl (Vt hb)) rfl (cW (cN ∅))
   ·rw[show pw q none=.non from if_neg hb]
    exact bh (t:=false) (k:=0) (∅.bl (Vh hb)) rfl (cW (cN ∅))
  ·rw[show d8 [] acc (av q) i=some i from if_neg h]
   refine cw s (db (t:=true) (k:=0) (∅.bl (RF h)) rfl (cW (cN ?_)))
   rw[show pw q (some i)=.tup [.str (Str.ofString "order"),.int (i:Int)]from rfl,<- hl]
   exact ∅
 | n::l,acc,i,ρ,s,hi=>by
  simp only[VM]at hi
  show v5 _ _ _ _ _ _ (.tup [.int (i:Nat),.int n]::fP (i+1) (l.map D.int)) ρ
  by_cases hm:n∈cH
  ·obtain⟨p1,p2⟩:=g8 _ hm
   have mm:bL acc n:=nN (by omega)
   rw[show d8 (n::l) acc (av q) i=d8 l (acc*n) (av q) (i+1)from if_pos hm]
   exact⟨_,rfl,.inl (cE ((s.put _ _).put _ _) (bh (t:=false) (k:=0) (dJ ∅ ∅ (wV hm)) rfl ∅) fun ρ' s'=>Bq ne g l (acc*n) (i+1) ρ' (ae s'.get (ae s'.get (ae s'.get (ae s'.get aK)))) (by omega))⟩
  ·rw[show d8 (n::l) acc (av q) i=some i from if_neg hm]
   exact⟨_,rfl,.inr (cw ((s.put _ _).put _ _) (db (t:=true) (k:=0) (dJ ∅ ∅ (wW hm)) rfl (cW (cN ∅))))⟩
theorem KK(ρ:af):ac (az r6 (TX ((ak (ag 49)).getD 0 (.Pass ⟨0,0,0,0⟩))) false (aa (ag 49)) ρ) (.lst (cH.map D.int),0):=by
 rw[<- MO,List.map_map]
 refine pp (l:=List.range 96) (g:=fun m=>D.int ((2+m:Nat):Int)) (f:=fun m=>D.int ((2+m:Nat):Int)) (t:=IR) (yZ (B:=ig) ∅ (IG (b:=98) (by decide))) rfl (by decide) (.inr (Vm 1)) fun m hm=>?_
 have hm:=Xr.mp hm
 refine⟨_,0,rfl,Kq (B:=rW) (bf (pp (l:=List.range 8) (g:=fun d=>D.int ((2+d:Nat):Int)) (f:=fun d=>D.bl (!decide (((2+m:Nat):Int).fmod ((2+d:Nat):Int)=0))) (t:=fun d=>decide (((2+d:Nat):Int)<((2+m:Nat):Int))) (yZ (B:=ig) ∅ (IG (b:=10) (by decide))) rfl (by decide) (.inr (Vm 1)) fun d hd=>?_) cG) ?_,fun _=>∅⟩
 ·have hd:=Xr.mp hd
  have d0:((2+d:Nat):Int)≠0:=by omega
  have dd:ge ((2+d:Nat):Int):=⟨d0,BF (by omega)⟩
  exact⟨_,0,rfl,∅,fun _=>∅.bl (by rw[bN])⟩
 ·unfold IR
  rw[show((((List.range 8).filter fun d=>decide (((2+d:Nat):Int)<((2+m:Nat):Int)))).map fun d=>D.bl (!decide (((2+m:Nat):Int).fmod ((2+d:Nat):Int)=0)))=(((List.range 8).filter fun d=>decide (((2+d:Nat):Int)<((2+m:Nat):Int))).map fun d => !decide (((2+m:Nat):Int).fmod ((2+d:Nat):Int)=0)).map D.bl by rw[List.map_map];rfl]
  exact NI _
noncomputable def gJ(q:Qd)(ns:List Int):D:=if q=aE then .tup [.str (Str.ofString "nought"),.int 0]else pw q (d8 ns 1 (av q) 0)
theorem EL(g:gQ 400 q)(hn:ns.length<=100):ac (se [dq q,.lst (ns.map D.int)]) (gJ q ns):=by
 have ll:ar (ns.map D.int)=true:=cM (fun _=>rfl) ns
 refine cK (aY (aW (d:=.lst (cH.map D.int)) (KK _)) ?_)
 by_cases h:q=aE
 ·rw[show gJ q ns=.tup [.str (Str.ofString "nought"),.int 0]from if_pos h]
  subst h
  exact db (t:=true) (k:=0) ∅ rfl (cW (cN ∅))
 ·rw[show gJ q ns=pw q (d8 ns 1 (av q) 0)from if_neg h]
  refine bh (t:=false) (k:=0) (∅.bl ((tx q aE).trans (Vh h))) rfl (bW 1 ∅ (wA (fP 0 (ns.map D.int)) ∅ (Bq (ns:=ns) h g ns 1 0 _ (ae rfl (ae rfl (ae rfl (ae rfl aK)))) (Nat.zero_add _))))
noncomputable def gi:Fx:=Tb [] [] BL IL ML TL bi
noncomputable def NT(ds:List D)(r:D):Prop:=tJ gi (aa (ag 48)) ["_law_order", "_law_cell_here"] (ak (ag 48)) ds r/\∃ms:List Int,r=.lst (ms.map D.int)/\∀(ns:List Int) (c:Int),ds=[.lst (ns.map D.int),.int c]->ms.length<=ns.length+1
noncomputable def gk:List D->Rs D:=Bx NT
theorem sW:∀ds r,ac (gk ds) r->tJ gi (aa (ag 48)) ["_law_order", "_law_cell_here"] (ak (ag 48)) ds r:=fun ds r h=>(Hc h).1
noncomputable def uz:List Int:=[2,3,5,7,11,13,97,89,31,17]
noncomputable def Ju(r:Int):List Int:=[1,0,-1,-3,4,6,9,15,91,87,93,95,99,101,103,100,49,25,77,r]
theorem gU(ms ns:List Int)(h:ms.length+ns.length<=1000):ac (rV .Add (.lst (ms.map D.int)) (.lst (ns.map D.int)) k j) (.lst ((ms++ns).map D.int),0):=by
 rw[Wc]
 exact⟨_,rfl,by rw[<- Wc];exact cM (fun _=>rfl) _,by rw[Vi,Vi];show _<=40000;omega,True.intro⟩
theorem cl{l m:List D}(e:l=m):((D.lst l,0):D×Nat)=(D.lst m,0):=by rw[e]
theorem UI(l:List Int)(a:Nat):(l.take a++l.drop (a+1)).length<=l.length+1:=by simp only[Vw,Wr,WN];omega
theorem NN(l:List Int)(a:Nat)(x:Int):(l.take a++[x]++l.drop a).length<=l.length+1:=by simp only[Vw,Wr,WN,VM,W3];omega
theorem NM(l:List Int)(a:Nat)(x:Int):(l.take a++[x]++l.drop (a+1)).length<=l.length+1:=by simp only[Vw,Wr,WN,VM,W3];omega
theorem pJ{l:List Int}(h:l.length<=50)(a b:Nat)(x:Int):(l.take a).length+(l.drop b).length<=1000/\(l.take a).length+[x].length<=1000/\(l.take a++[x]).length+(l.drop b).length<=1000:=by simp only[Vw,Wr,WN,VM,W3];omega
theorem Mx(c:Int)(hn:ns.length<=50):∃ms:List Int,ms.length<=ns.length+1/\ac (gk [.lst (ns.map D.int),.int c]) (.lst (ms.map D.int)):=by
 suffices h:∃ms:List Int,ms.length<=ns.length+1/\tJ gi (aa (ag 48)) ["_law_order", "_law_cell_here"] (ak (ag 48)) [.lst (ns.map D.int),.int c] (.lst (ms.map D.int)) by
  obtain⟨ms,h1,h2⟩:=h
  obtain⟨r,h3,_,ms',e,h4⟩:=KO (P:=NT) (ds:=[.lst (ns.map D.int),.int c]) (r:=.lst (ms.map D.int)) ⟨h2,ms,rfl,fun ns' c' e=>by
   have e1:ns.map D.int=ns'.map D.int:=by injection e with e _;injection e
   have:=V0 List.length e1
   rw[Vi,Vi]at this
   omega⟩
  subst e
  exact⟨ms',h4 ns c rfl,h3⟩
 have ll:ar (ns.map D.int)=true:=cM (fun _=>rfl) ns
 have n1:((((ns.map D.int).length:Nat):Int)+1)≠0:=by omega
 have hlen:(((ns.map D.int).length:Nat):Int)=(ns.length:Int):=by rw[Vi]
 have a0:=VI (c.fdiv 8) (show(0:Int)<(((ns.map D.int).length:Nat):Int)+1 by omega)
 have a1:=VR (c.fdiv 8) (show(0:Int)<(((ns.map D.int).length:Nat):Int)+1 by omega)
 obtain⟨a,ha⟩:=WL a0
 have al:a<=ns.length:=by omega
 obtain⟨x,hx,hat⟩:=kU (f:=D.int) (l:=uz) (i:=(c.fdiv 64).fmod 10) (VI _ (by decide)) (VR _ (by decide))
 have e1:=cl (NA (f:=D.int) ns a)
 have e2:=cl (EO (f:=D.int) ns a)
 have e3:=cl (EO (f:=D.int) ns (a+1))
 have pre:∃y0 ρ1,ac (aD gi ((ak (ag 48)).take 5) (aa (ag 48)) (c6 ["_law_order", "_law_cell_here"] [.lst (ns.map D.int),.int c])) (.nx ρ1)/\Sub (bI [("_law_order", .lst (ns.map D.int),false),("_law_at", .int a,true),("_law_rest", .int (c.fdiv 64),true),("_law_primes", .lst (uz.map D.int),true),("_law_odd", .lst ((Ju y0).map D.int),true),("_law_kind", .int (c.fmod 8),true)]) ρ1:=by
  rw[<- ha]
  exact⟨2*10 ^ 30+(c.fdiv 64).fmod (10 ^ 9),_,aY (aW (d:=.int ((c.fdiv 8).fmod ((((ns.map D.int).length:Nat):Int)+1))) ∅) (aY (aW (d:=.int (c.fdiv 64)) ∅) (aY (aW (d:=.lst (uz.map D.int)) ∅) (aY (aW (d:=.lst ((Ju (2*10 ^ 30+(c.fdiv 64).fmod (10 ^ 9))).map D.int)) ∅) (aY (aW (d:=.int (c.fmod 8)) ∅) cA)))),ae rfl (ae rfl (ae rfl (ae rfl (ae rfl (ae rfl aK)))))⟩
 obtain⟨y0,ρ1,hp,sb⟩:=pre
 obtain⟨y,hy,hat2⟩:=kU (f:=D.int) (l:=Ju y0) (i:=(c.fdiv 64).fmod 20) (VI _ (by decide)) (VR _ (by decide))
 generalize c.fdiv 64=r at *
 generalize c.fmod 8=k at *
 by_cases h0:k=0
 ·exact⟨ns.take a++ns.drop (a+1),UI _ _,rfl,Rw.cut 5 hp (Rw.fin (Rf.base (cw sb (db (t:=true) (k:=0) (∅.bl ((bN _ _).trans (Vt h0))) rfl  (cW (cN (dY (∅.eq e1) (∅.eq e3) (gU _ _ (pJ hn _ _ 0).1))))))))⟩
 by_cases h1:k=1
 ·exact⟨ns.take a++[x]++ns.drop a,NN _ _ _,rfl,Rw.cut 5 hp (Rw.fin (Rf.base (cw sb (bh (t:=false) (k:=0) (∅.bl ((bN _ _).trans (Vh h0))) rfl (db (t:=true) (k:=0) (∅.bl ((bN _ _).trans (Vt h1))) rfl (cW (cN (dY (dY (∅.eq e1) (qC (bf (gc ∅ ∅ rfl hat) cG) ⟨show 1<=40000 by decide,Vm 1⟩) (gU (ns.take a) [x] (pJ hn _ 0 _).2.1)) (∅.eq e2) (gU (ns.take a++[x]) _ (pJ hn _ _ _).2.2)))))))))⟩
 by_cases h2:k=2
 ·exact⟨ns.take a++[x]++ns.drop (a+1),NM _ _ _,rfl,Rw.cut 5 hp (Rw.fin (Rf.base (cw sb (bh (t:=false) (k:=0) (∅.bl ((bN _ _).trans (Vh h0))) rfl (bh (t:=false) (k:=0) (∅.bl ((bN _ _).trans (Vh h1))) rfl (db (t:=true) (k:=0) (∅.bl ((bN _ _).trans (Vt h2))) rfl (cW (cN (dY (dY (∅.eq e1) (qC (bf (gc ∅ ∅ rfl hat) cG) ⟨show 1<=40000 by decide,Vm 1⟩) (gU (ns.take a) [x] (pJ hn _ 0 _).2.1)) (∅.eq e3) (gU (ns.take a++[x]) _ (pJ hn _ _ _).2.2))))))))))⟩
 by_cases h3:k<5
 ·exact⟨ns.take a++[y]++ns.drop a,NN _ _ _,rfl,Rw.cut 5 hp (Rw.fin (Rf.base (cw sb (bh (t:=false) (k:=0) (∅.bl ((bN _ _).trans (Vh h0))) rfl (bh (t:=false) (k:=0) (∅.bl ((bN _ _).trans (Vh h1))) rfl (bh (t:=false) (k:=0) (∅.bl ((bN _ _).trans (Vh h2))) rfl (db (t:=true) (k:=0) (∅.bl (Vt h3)) rfl (cW (cN (dY (dY (∅.eq e1) (qC (bf (gc ∅ ∅ rfl hat2) cG) ⟨show 1<=40000 by decide,Vm 1⟩) (gU (ns.take a) [y] (pJ hn _ 0 _).2.1)) (∅.eq e2) (gU (ns.take a++[y]) _ (pJ hn _ _ _).2.2)))))))))))⟩
 by_cases h4:k=5
 ·exact⟨ns.take a++[y]++ns.drop (a+1),NM _ _ _,rfl,Rw.cut 5 hp (Rw.fin (Rf.base (cw sb (bh (t:=false) (k:=0) (∅.bl ((bN _ _).trans (Vh h0))) rfl (bh (t:=false) (k:=0) (∅.bl ((bN _ _).trans (Vh h1))) rfl (bh (t:=false) (k:=0) (∅.bl ((bN _ _).trans (Vh h2))) rfl (bh (t:=false) (k:=0) (∅.bl (Vh h3)) rfl (db (t:=true) (k:=0) (∅.bl ((bN _ _).trans (Vt h4))) rfl (cW (cN (dY (dY (∅.eq e1) (qC (bf (gc ∅ ∅ rfl hat2) cG) ⟨show 1<=40000 by decide,Vm 1⟩) (gU (ns.take a) [y] (pJ hn _ 0 _).2.1)) (∅.eq e3) (gU (ns.take a++[y]) _ (pJ hn _ _ _).2.2))))))))))))⟩
 obtain⟨ρ2,hq,s2⟩:∃ρ2,ac (aD gi (((ak (ag 48)).drop 5).take 5) (aa (ag 48)) ρ1) (.nx ρ2)/\Sub (bI [("_law_order", .lst (ns.map D.int),false)]) ρ2:=cE sb (bh (t:=false) (k:=0) (∅.bl ((bN _ _).trans (Vh h0))) rfl (bh (t:=false) (k:=0) (∅.bl ((bN _ _).trans (Vh h1))) rfl (bh (t:=false) (k:=0) (∅.bl ((bN _ _).trans (Vh h2))) rfl (bh (t:=false) (k:=0) (∅.bl (Vh h3)) rfl (bh (t:=false) (k:=0) (∅.bl ((bN _ _).trans (Vh h4))) rfl cA))))) fun ρ' s'=>ae s'.get aK
 exact⟨ns,WX _,rfl,Rw.cut 5 hp (Rw.cut 5 hq (Rw.ret (bQ s2 ∅)))⟩
noncomputable def wk:Fx:=Tb [] [] BL IL ML TL bi
noncomputable def jJ:List D->Rs D:=bX wk (aa (ag 30)) ["one", "other"] (ak (ag 30))
theorem OY(a b:Nat)(ha:a<2 ^ 1000)(hb:b<2 ^ 1000):ac (jJ [.int a,.int b]) (.int (Nat.gcd a b:Nat)):=by
 refine cK (lV (m:=2002) (fun m ρ => ∃(x y:Nat) (f g:Bool),B4 x y m/\Nat.gcd x y=Nat.gcd a b/\Sub (bI [("one", .int x,f),("other", .int y,g)]) ρ) ⟨a,b,false,false,Kr ha hb,rfl,ae rfl (ae rfl aK)⟩ (by decide) ?_ ?_)
 ·rintro m ρ ⟨x,y,f,g,hm,hg,s⟩
  refine⟨!decide ((y:Int)=0),0,bQ s (∅.bl (by show(!cU (.int y) (.int 0))=_;rw[bN])),fun ht=>?_⟩
  have h0:y≠0:=by
   intro z;subst z;exact absurd ht (by decide)
  have hn:(y:Int)≠0:=by omega
  obtain⟨m',hm',hE⟩:=xz hm h0
  have e:=Bi x y
  exact nk hm' (cE s ∅ fun ρ' s'=>⟨y,x % y,true,true,hE,by rw[<- hg,Nat.gcd_comm x y,Nat.gcd_rec y x,Nat.gcd_comm],ae s'.get (ae (by rw[<- e];exact s'.get) aK)⟩)
 ·rintro m ρ ⟨x,y,f,g,hm,hg,s⟩ ⟨k,hk⟩
  have e:=hk.inj (bQ s ∅)
  have h0:y=0:=by
   have e1:(!cU (.int y) (.int 0))=false:=by injection e with e1 e2;injection e1 with e1;exact e1.symm
   rw[bN]at e1
   have:(y:Int)=0:=by simpa using e1
   omega
  subst h0
  rw[<- hg,Nat.gcd_zero_right]
  exact cw s ∅
noncomputable def pD:Fx:=Tb [("shared_by", jJ)] [] BL IL ML TL bi
noncomputable def pG:List D->Rs D:=bX pD (aa (ag 29)) ["numbers"] (ak (ag 29))
noncomputable def eI:List D->Rs D
 | [.tup l]=>.ok (.int (yT l)) [Ay l]
 | _=>.st
theorem lI:∀ds r,ac (eI ds) r->ac (pG ds) r:=by
 intro ds r h
 unfold eI at h
 split at h
 ·obtain⟨rfl,⟨ns,rfl,hl,hb⟩,_⟩:=cm h
  rw[vc]
  refine cK (bW 1 ∅ (rg (ds:=ns.map D.int) (fun rem ρ => ∃(r:List Int) (g:Nat),rem=r.map D.int/\(∀n∈r,n.natAbs<2 ^ 1000)/\dW g r=dW 0 ns/\g<2 ^ 1000/\Sub (bI [("reached", .int g,true)]) ρ) ∅ ⟨ns,0,rfl,hb,rfl,Nat.pow_pos (by decide),ae rfl aK⟩ ?_ ?_ rfl (U3 (.tup (ns.map D.int)))))
  ·rintro d l ρ ⟨r,g,hr,hb',hg,hlt,s⟩
   cases r with
   | nil=>cases hr
   | cons n r =>
    cases hr
    have hn:=hb' n Vb
    have ea:(if n<0 then -n else n)=((n.natAbs:Nat):Int):=by omega
    have k:=OY g n.natAbs hlt hn
    refine⟨_,rfl,cE (s.put _ _) (aY (aW (bM (v:=.int (Nat.gcd g n.natAbs:Nat)) (∅.eq (by rw[ea])) k)) cA) fun ρ' s'=>⟨r,Nat.gcd g n.natAbs,rfl,fun m hm=>hb' m (Vc _ hm),hg,?_,ae s'.get aK⟩⟩
    rcases We g with z|z
    ·subst z;rw[Nat.gcd_zero_left];exact hn
    ·exact VE (Nat.le_of_dvd z (Nat.gcd_dvd_left _ _)) hlt
  ·rintro ρ ⟨r,g,hr,hb',hg,hlt,s⟩
   cases r with
   | nil =>
    rw[<- hg]
    exact cw s ∅
   | cons n r=>cases hr
 ·exact(au h).elim
noncomputable def zn:Fx:=Tb [] [] BL IL ML TL bi
noncomputable def qT:List D->Rs D:=bX zn (aa (ag 8)) ["thing"] (ak (ag 8))
noncomputable def BS:Fx:=Tb [("is_whole", qT)] [] BL IL ML TL bi
noncomputable def nj:List D->Rs D:=bX BS (aa (ag 9)) ["thing"] (ak (ag 9))
theorem Nd(a b c d:Int):ac (nj [.tup [.int a,.int b,.int c,.int d]]) (.bl (decide (b.fmod 2=a.fmod 2)&&(decide (c.fmod 2=a.fmod 2)&&decide (d.fmod 2=a.fmod 2)))):=by
 refine cK (bh ∅ rfl (bh ∅ rfl (ac.eq ∅ ?_)))
 show Fl.rt (.bl ([cU (.int (a.fmod 2)) (.int (a.fmod 2)),cU (.int (b.fmod 2)) (.int (a.fmod 2)),cU (.int (c.fmod 2)) (.int (a.fmod 2)),cU (.int (d.fmod 2)) (.int (a.fmod 2))].all id))=_
 simp[bN]
noncomputable def gh:Fx:=Tb [("common_divisor", eI),("is_four", nj)] [("NOUGHT", .tup [.int 0,.int 0,.int 0,.int 0])] BL IL ML TL bi
noncomputable def qM:Str->Option (List D->Option Xs):=fun g=>([]:List (Str×(List D->Option Xs))).lookup g
noncomputable def fc:List D->Rs D:=bX gh (aa (ag 32)) ["four"] (ak (ag 32))
noncomputable def uU(a b c d:Int):Bool:=decide (b.fmod 2=a.fmod 2)&&(decide (c.fmod 2=a.fmod 2)&&decide (d.fmod 2=a.fmod 2))
theorem Fi(a b c d G:Int)(hG:ge G):ac (aD gh ((ak (ag 32)).drop 2) (aa (ag 32)) (bI [("four", t4 a b c d,false),("common", .int G,true)])) (.rt (.int (cond (uU (a.fdiv G) (b.fdiv G) (c.fdiv G) (d.fdiv G)) G (G.fdiv 2)))) :=
 cW (cN (qD (r:=(.int (cond (uU (a.fdiv G) (b.fdiv G) (c.fdiv G) (d.fdiv G)) G (G.fdiv 2)),0)) (bM ∅ (Nd (a.fdiv G) (b.fdiv G) (c.fdiv G) (d.fdiv G))) (fun ht=>by rw[show uU (a.fdiv G) (b.fdiv G) (c.fdiv G) (d.fdiv G)=true from ht];exact ∅) (fun hf=>by rw[show uU (a.fdiv G) (b.fdiv G) (c.fdiv G) (d.fdiv G)=false from hf];exact ∅)))
theorem N6(h0:¬ (a=0/\b=0/\c=0/\d=0))(hT:Ay (([a,b,c,d]:List Int).map D.int))(aB:a.natAbs<dn)(bB:b.natAbs<dn)(cB:c.natAbs<dn)(dB:d.natAbs<dn):ac (fc [t4 a b c d]) (.int (cond (uU (a.fdiv (gI [a,b,c,d])) (b.fdiv (gI [a,b,c,d])) (c.fdiv (gI [a,b,c,d])) (d.fdiv (gI [a,b,c,d]))) (gI [a,b,c,d]) ((gI [a,b,c,d]).fdiv 2))):=by
 have hd:ge (gI [a,b,c,d]):=by
  have:∃n∈[a,b,c,d],n≠0/\n.natAbs<dn:=by
   by_cases q1:a=0
   ·by_cases q2:b=0
    ·by_cases q3:c=0
     ·exact⟨d,by simp,fun q4=>h0 ⟨q1,q2,q3,q4⟩,dB⟩
     ·exact⟨c,by simp,q3,cB⟩
    ·exact⟨b,by simp,q2,bB⟩
   ·exact⟨a,by simp,q1,aB⟩
  obtain⟨n,hn,n0,nb⟩:=this
  have:=vd hn n0
  exact⟨by omega,VE (EG hn n0) nb⟩
 have hne:cU (t4 a b c d) (dq aE)=false:=by
  show cU (dq (a,b,c,d)) (dq aE)=false
  rw[tx]
  exact Vh fun e=>h0 (by injection e with e1 e2;injection e2 with e2 e3;injection e3 with e3 e4;exact⟨e1,e2,e3,e4⟩)
 rw[<- GB]at hd⊢
 exact cK (bh (∅.bl hne) rfl (bW 1 ∅ (cw (ae rfl (ae rfl aK)) (Fi a b c d _ hd))))
noncomputable def dM:List D->Option Xs:=fun ds=>match ds with
 | [q]=>if ql q=true then some wq else none
 | _=>none
theorem mP:∀ds r,dM ds=some r->ds.length=1/\Rz gh qM EX (aa (ag 32)) (ak (ag 32)) (c6 ["four"] ds) r:=by
 intro ds r h
 unfold dM at h
 split at h
 ·rename_i q
  split at h
  ·rename_i hq
   cases h
   cases sC hq
   exact⟨rfl,Rz.iff (t:=true) (k:=0) ∅ (Rz.raise ∅ rfl (by decide) rfl)⟩
  ·cases h
 ·cases h
noncomputable def lD:Fx:=Tb [] [("PRIMES", .tup [.int 2,.int 3,.int 5,.int 7,.int 11,.int 13,.int 17,.int 19,.int 23,.int 29,.int 31,.int 37,.int 41,.int 43,.int 47,.int 53,.int 59,.int 61,.int 67,.int 71,.int 73,.int 79,.int 83,.int 89,.int 97])] BL IL ML TL bi
noncomputable def fK:List D->Rs D:=bX lD (aa (ag 34)) ["order", "whole"] (ak (ag 34))
theorem vj{ns:List Int}{w:Int}:∀(l:List Int) (acc:Int) (i:Nat) (ρ:af),Sub (bI [("order", .lst (ns.map D.int),false),("whole", .int w,false),("reached", .int acc,true)]) ρ->i+l.length=ns.length->v5 lD (aa (ag 34)) (nX ((ak (ag 34)).getD 1 (.Pass ⟨0,0,0,0⟩))) (iN ((ak (ag 34)).getD 1 (.Pass ⟨0,0,0,0⟩))) ((ak (ag 34)).drop 2) (oD (d8 l acc w i)) (fP i (l.map D.int)) ρ
 | [],acc,i,ρ,s,hi=>by
  have hl:((((ns.map D.int).length:Nat):Int))=(i:Int):=by rw[Vi,<- hi];rfl
  have he:oD (d8 [] acc w i)=cond (decide (acc=w)) .non (.int (i:Nat)):=by
   unfold d8
   by_cases h:acc=w
   ·rw[if_pos h,Vt h];rfl
   ·rw[if_neg h,Vh h];rfl
  rw[he]
  refine cw s (cW (cN (qD (r:=(cond (decide (acc=w)) D.non (.int (i:Nat)),0)) (t:=decide (acc=w)) (∅.bl (bN _ _)) (fun h=>by rw[h];exact ∅) (fun h=>?_))))
  rw[h,<- hl]
  exact ∅
 | n::l,acc,i,ρ,s,hi=>by
  simp only[VM]at hi
  show v5 _ _ _ _ _ _ (.tup [.int (i:Nat),.int n]::fP (i+1) (l.map D.int)) ρ
  by_cases hm:n∈cH
  ·obtain⟨p1,p2⟩:=g8 _ hm
   have mm:bL acc n:=nN (by omega)
   rw[show d8 (n::l) acc w i=d8 l (acc*n) w (i+1)from if_pos hm]
   exact⟨_,rfl,.inl (cE ((s.put _ _).put _ _) (bh (t:=false) (k:=0) (dJ ∅ ∅ (wV hm)) rfl ∅) fun ρ' s'=>vj l (acc*n) (i+1) ρ' (ae s'.get (ae s'.get (ae s'.get aK))) (by omega))⟩
  ·rw[show d8 (n::l) acc w i=some i from if_neg hm]
   exact⟨_,rfl,.inr (cw ((s.put _ _).put _ _) (db (t:=true) (k:=0) (dJ ∅ ∅ (wW hm)) rfl (cW (cN ∅))))⟩
theorem xw(hn:ns.length<=100):ac (fK [.lst (ns.map D.int),.int w]) (oD (d8 ns 1 w 0)):=by
 have ll:ar (ns.map D.int)=true:=cM (fun _=>rfl) ns
 exact cK (bW 1 ∅ (wA (fP 0 (ns.map D.int)) ∅ (vj (ns:=ns) ns 1 0 _ (ae rfl (ae rfl (ae rfl aK))) (Nat.zero_add _))))
theorem GI(h:∀n∈ns,n∈cH)(hn:ns.length<=100)(hw:dj ns=w):ac (fK [.lst (ns.map D.int),.int w]) .non:=by
 have:=xw (w:=w) hn
 rw[AF ns 1 w 0 h (by rw[Xw];exact hw)]at this
 exact this
noncomputable def LA:Fx:=Tb [] [] BL IL ML TL bi
noncomputable def LH:List D->Rs D:=bX LA (aa (ag 17)) ["four"] (ak (ag 17))
noncomputable def mV:List D->Rs D:=wB dQ fun p=>.ok (.int (av p)) [eS p]
theorem BW:∀ds r,ac (mV ds) r->ac (LH ds) r:=by
 intro ds r h
 obtain⟨p,rfl,h'⟩:=nD h
 obtain⟨rfl,hp,_⟩:=cm h'
 obtain⟨⟨a1,a2,a3,a4⟩,_⟩:=qK hp hp
 exact cC rfl (by walk_at "ob")
noncomputable def jd:Fx:=Tb [] [] BL IL ML TL bi
noncomputable def pB:Str->Option (List D->Option Xs):=fun g=>([]:List (Str×(List D->Option Xs))).lookup g
noncomputable def pE:List D->Rs D:=bX jd (aa (ag 21)) ["side"] (ak (ag 21))
noncomputable def eG:List D->Rs D:=wB Bs fun s=>.ok .non []
theorem lH:∀ds r,ac (eG ds) r->ac (pE ds) r:=by
 intro ds r h
 obtain⟨s,rfl,h'⟩:=nD h
 obtain⟨rfl,_⟩:=cm h'
 cases s
 ·exact cC rfl (by walk_at "ob")
 ·exact cC rfl (by walk_at "ob")
noncomputable def cP:List D->Option Xs:=fun ds=>match ds with
 | [.str y]=>if rE y=true then some zD else none
 | _=>none
theorem lG:∀ds r,cP ds=some r->ds.length=1/\Rz jd pB EX (aa (ag 21)) (ak (ag 21)) (c6 ["side"] ds) r:=by
 intro ds r h
 unfold cP at h
 split at h
 ·rename_i y
  split at h
  ·rename_i hy
   cases h
   obtain⟨h1,h2,h3,h4⟩:=CJ hy
   have o1:=Bn h4 (show PyData.strOk (Str.ofString "left")=true by decide)
   have o2:=Bn h4 (show PyData.strOk (Str.ofString "right")=true by decide)
   exact⟨rfl,Rz.iff (t:=true) (k:=0) (eQ (gb (∅.bl (wY h1)) (gb (∅.bl (wY h2)) i6))) (Rz.raiseR ∅ h3 (by decide) rfl (by decide) rfl)⟩
  ·cases h
 ·cases h
theorem qL(h:rE y=true):cP [.str y]=some zD:=if_pos h
noncomputable def LB:Fx:=Tb [] [] BL IL ML TL bi
noncomputable def LI:List D->Rs D:=bX LB (aa (ag 10)) ["one", "other"] (ak (ag 10))
noncomputable def mZ:List D->Rs D:=pW dQ dQ fun p q=>.ok (dq (bu p q)) []
theorem BX:∀ds r,ac (mZ ds) r->ac (LI ds) r:=by
 intro ds r h
 obtain⟨p,q,rfl,h'⟩:=gz h
 obtain⟨rfl,_⟩:=cm h'
 exact cC rfl (by walk_at "ob")
noncomputable def vS:Fx:=Tb [] [] BL IL ML TL bi
noncomputable def vZ:List D->Rs D:=bX vS (aa (ag 11)) ["one", "number"] (ak (ag 11))
noncomputable def jg:List D->Rs D:=pW dQ dI fun p n=>.ok (dq (aV p n)) [eS p,n.natAbs<dn]
theorem qQ:∀ds r,ac (jg ds) r->ac (vZ ds) r:=by
 intro ds r h
 obtain⟨p,n,rfl,h'⟩:=gz h
 obtain⟨rfl,hp,hn,_⟩:=cm h'
 have m1:=bZ hp.1 hn
 have m2:=bZ hp.2.1 hn
 have m3:=bZ hp.2.2.1 hn
 have m4:=bZ hp.2.2.2 hn
 exact cC rfl (by walk_at "ob")
noncomputable def BK:Fx:=Tb [("size", mV),("less", mZ),("many_times", jg)] [] BL IL ML TL bi
noncomputable def BY:List D->Rs D:=bX BK (aa (ag 24)) ["four", "tried", "number"] (ak (ag 24))
noncomputable def mU:List D->Rs D:=t9 dQ dQ dI fun p q n=>.ok (.int (gx p q n)) [Az p q n]
theorem vT:∀ds r,ac (mU ds) r->ac (BY ds) r:=by
 intro ds r h
 obtain⟨p,q,n,rfl,h'⟩:=jP h
 obtain⟨rfl,⟨h1,h2,h3⟩,_⟩:=cm h'
 exact cC rfl (by walk_at "ob")
noncomputable def BN:Fx:=Tb [("strayed", mU)] [] BL IL ML TL bi
noncomputable def B1:List D->Rs D:=bX BN (aa (ag 23)) ["four", "number"] (ak (ag 23))
noncomputable def mY:List D->Rs D:=pW dQ dI fun p n=>.ok (dq (eB p n)) [CI p n]
theorem vV:∀ds r,ac (mY ds) r->ac (B1 ds) r:=by
 intro ds r h
 obtain⟨p,n,rfl,h'⟩:=gz h
 obtain⟨rfl,⟨h1,h2,h3,h4⟩,_⟩:=cm h'
 have hd:ge (2*n):=⟨by omega,h2⟩
 have h3':Az p ((p.1+n).fdiv (2*n)*2,(p.2.1+n).fdiv (2*n)*2,(p.2.2.1+n).fdiv (2*n)*2,(p.2.2.2+n).fdiv (2*n)*2) n:=h3
 have h4':Az p (p.1.fdiv (2*n)*2+1,p.2.1.fdiv (2*n)*2+1,p.2.2.1.fdiv (2*n)*2+1,p.2.2.2.fdiv (2*n)*2+1) n:=h4
 refine cK (bW 2 ∅ ?_)
 refine cW (cN (qD (t:=decide (gx p (iA p n) n<=gx p (jp p n) n)) ∅ (fun ht=>?_) (fun hf=>?_)))
 ·show ac _ (dq (eB p n),0)
  unfold eB;rw[if_pos (by simpa using ht)]
  exact cC rfl (by walk_at "ob")
 ·show ac _ (dq (eB p n),0)
  unfold eB;rw[if_neg (by simpa using hf)]
  exact cC rfl (by walk_at "ob")
noncomputable def qN:Fx:=Tb [] [] BL IL ML TL bi
noncomputable def qR:List D->Rs D:=bX qN (aa (ag 14)) ["one", "other"] (ak (ag 14))
noncomputable def gj:List D->Rs D:=pW dQ dQ fun p q=>.ok (dq (Qn p q)) [eS p,eS q]
theorem mX:∀ds r,ac (gj ds) r->ac (qR ds) r:=by
 intro ds r h
 obtain⟨p,q,rfl,h⟩:=gz h
 obtain⟨rfl,hp,hq,_⟩:=cm h
 obtain⟨⟨a1,a2,a3,a4⟩,⟨b1,b2,b3,b4⟩,⟨c1,c2,c3,c4⟩,d1,d2,d3,d4⟩:=qK hp hq
 exact cC rfl (by walk_at "ob")
noncomputable def BM:Fx:=Tb [("plain_product", gj)] [] BL IL ML TL bi
noncomputable def BZ:List D->Rs D:=bX BM (aa (ag 15)) ["one", "other"] (ak (ag 15))
noncomputable def mW:List D->Rs D:=pW dQ dQ fun p q=>.ok (dq (aT p q)) [eS p,eS q]
theorem vU:∀ds r,ac (mW ds) r->ac (BZ ds) r:=by
 intro ds r h
 obtain⟨p,q,rfl,h'⟩:=gz h
 obtain⟨rfl,hp,hq,_⟩:=cm h'
 exact cC rfl (by walk_at "ob")
noncomputable def DN:Fx:=Tb [("product", mW)] [] BL IL ML TL bi
noncomputable def DS:List D->Rs D:=bX DN (aa (ag 22)) ["one", "other", "side"] (ak (ag 22))
noncomputable def kZ:List D->Rs D:=t9 dQ dQ Bs fun p q s=>.ok (dq (aL s p q)) [eS p,eS q]
theorem wo:∀ds r,ac (kZ ds) r->ac (DS ds) r:=by
 intro ds r h
 obtain⟨p,q,s,rfl,h'⟩:=jP h
 obtain⟨rfl,hp,hq,_⟩:=cm h'
 cases s
 ·exact cC rfl (by walk_at "ob")
 ·exact cC rfl (by walk_at "ob")
noncomputable def rZ:Fx:=Tb [] [] BL IL ML TL bi
noncomputable def r9:List D->Rs D:=bX rZ (aa (ag 16)) ["four"] (ak (ag 16))
noncomputable def gL:List D->Rs D:=wB dQ fun p=>.ok (dq (cV p)) []
theorem oj:∀ds r,ac (gL ds) r->ac (r9 ds) r:=by
 intro ds r h
 obtain⟨p,rfl,h'⟩:=nD h
 obtain⟨rfl,_⟩:=cm h'
 exact cC rfl (by walk_at "ob")
noncomputable def sS:Fx:=Tb [("refuse_no_side", eG),("nearest", mY),("beside", kZ),("size", mV),("less", mZ),("other_signed", gL)] [("NOUGHT", .tup [.int 0,.int 0,.int 0,.int 0])] BL IL ML TL bi
noncomputable def BJ:Str->Option (List D->Option Xs):=fun g=>([("refuse_no_side", cP)]:List (Str×(List D->Option Xs))).lookup g
noncomputable def B3:List D->Rs D:=bX sS (aa (ag 19)) ["one", "other", "side"] (ak (ag 19))
noncomputable def jC:List D->Rs D:=t9 dQ dQ Bs fun p q s=>.ok (.tup [dq (dw s p q),dq (dE s p q)]) [q≠aE,okD s p q]
theorem vX:∀ds r,ac (jC ds) r->ac (B3 ds) r:=by
 intro ds r h
 obtain⟨p,q,s,rfl,h'⟩:=jP h
 obtain⟨rfl,h0,⟨h1,h2,h3,h4,h5⟩,_⟩:=cm h'
 have hc:cU (dq q) (dq aE)=false:=by simp[h0]
 have h5':eS (eB (aL s p (cV q)) (av q)):=h5
 cases s
 ·exact cK (bW 1 ∅ (bh ∅ hc ∅))
 ·exact cK (bW 1 ∅ (bh ∅ hc ∅))
noncomputable def d9:List D->Option Xs:=fun ds=>match ds with
 | [_,q,.str y]=>if rE y=true then some zD else match jQ y with
  | some _=>if ql q=true then some wq else none
  | none=>none
 | _=>none
theorem vR:∀ds r,d9 ds=some r->ds.length=3/\Rz sS BJ EX (aa (ag 19)) (ak (ag 19)) (c6 ["one", "other", "side"] ds) r:=by
 intro ds r h
 unfold d9 at h
 split at h
 ·rename_i x q y
  split at h
  ·rename_i hy
   cases h
   exact⟨rfl,Rz.exp ∅ rfl rfl (qL hy)⟩
  ·split at h
   ·rename_i s hs
    split at h
    ·rename_i hq
     cases h
     cases sC hq
     have ey:=Fw hs
     cases s
     ·cases ey;exact⟨rfl,Rz.step ∅ (Rz.iff (t:=true) (k:=0) ∅ (Rz.raise ∅ rfl (by decide) rfl))⟩
     ·cases ey;exact⟨rfl,Rz.step ∅ (Rz.iff (t:=true) (k:=0) ∅ (Rz.raise ∅ rfl (by decide) rfl))⟩
    ·cases h
   ·cases h
 ·cases h
noncomputable def xJ:Fx:=Tb [("divided", jC)] [("NOUGHT", .tup [.int 0,.int 0,.int 0,.int 0])] BL IL ML TL bi
noncomputable def Hs:Str->Option (List D->Option Xs):=fun g=>([("divided", d9)]:List (Str×(List D->Option Xs))).lookup g
noncomputable def Ht:List D->Rs D:=bX xJ (aa (ag 20)) ["one", "other", "side"] (ak (ag 20))
noncomputable def j9:List D->Rs D:=t9 dQ dQ Bs fun p q s=>.ok (rN s p q) [q≠aE,okD s p q]
theorem zq:∀ds r,ac (j9 ds) r->ac (Ht ds) r:=by
 intro ds r h
 obtain⟨p,q,s,rfl,h'⟩:=jP h
 obtain⟨rfl,h0,hd,_⟩:=cm h'
 clear h h'
 unfold rN
 cases s
 ·refine cK (bW 1 ∅ (cW (cN (qD (t:=decide (dE false p q=aE)) (k:=0) (∅.bl (tx _ aE)) (fun z=>?_) (fun z=>?_)))))
  ·rw[if_pos (VW z)];exact ∅
  ·rw[if_neg (of_decide_eq_false z)];exact ∅
 ·refine cK (bW 1 ∅ (cW (cN (qD (t:=decide (dE true p q=aE)) (k:=0) (∅.bl (tx _ aE)) (fun z=>?_) (fun z=>?_)))))
  ·rw[if_pos (VW z)];exact ∅
  ·rw[if_neg (of_decide_eq_false z)];exact ∅
noncomputable def rY:List D->Option Xs:=d9
theorem LV{ds:List D}(h:d9 ds=some r):∃x q y,ds=[x,q,.str y]/\(r=zD\/r=wq):=by
 unfold d9 at h
 split at h
 ·rename_i x q y
  refine⟨x,q,y,rfl,?_⟩
  split at h
  ·cases h;exact .inl rfl
  ·split at h
   ·split at h
    ·cases h;exact .inr rfl
    ·cases h
   ·cases h
 ·cases h
theorem zj:∀ds r,rY ds=some r->ds.length=3/\Rz xJ Hs EX (aa (ag 20)) (ak (ag 20)) (c6 ["one", "other", "side"] ds) r:=by
 intro ds r h
 obtain⟨x,q,y,rfl,_⟩:=LV h
 exact⟨rfl,Rz.ast ∅ rfl rfl h⟩
noncomputable def qO:Fx:=Tb [("refuse_no_side", eG),("divided", jC),("less", mZ),("beside", kZ)] [("ONE", .tup [.int 2,.int 0,.int 0,.int 0]),("NOUGHT", .tup [.int 0,.int 0,.int 0,.int 0])] BL IL ML TL bi
noncomputable def zm:Str->Option (List D->Option Xs):=fun g=>([("refuse_no_side", cP),("divided", d9)]:List (Str×(List D->Option Xs))).lookup g
noncomputable def zt:List D->Rs D:=bX qO (aa (ag 26)) ["one", "other", "side"] (ak (ag 26))
noncomputable def iI:List D->Rs D:=t9 dQ dQ Bs fun p q s=>.ok (dR (kH s p q)) [okG p q]
theorem sX:∀ds r,ac (iI ds) r->ac (zt ds) r:=by
 intro ds r h
 obtain⟨p,q,s,rfl,h'⟩:=jP h
 obtain⟨rfl,hg,_⟩:=cm h'
 clear h h'
 cases s
 ·refine cK (bW 3 ∅ (lV (m:=801) (fun m ρ => ∃(E:Nat) (a b:fG),im false p q m E a b/\jn false m a b=kH false p q/\Sub (bI [("one", dq p,false),("other", dq q,false),("side", uf false,false),("older", dR a,true),("newer", dR b,true)]) ρ) ⟨KN,(p,cR,aE),(q,aE,cR),im.start hg.1 hg.2.1 hg.2.2.1 hg.2.2.2,rfl,ae rfl (ae rfl (ae rfl (ae rfl (ae rfl aK))))⟩ (by decide) ?_ ?_))
  ·rintro m ρ ⟨E,a,b,hw,he,s⟩
   refine⟨!decide (b.1=aE),0,bQ s (∅.bl (by show(!cU (dq b.1) (dq aE))=_;simp)),fun ht=>?_⟩
   have h0:b.1≠aE:=by simpa using ht
   obtain⟨m',rfl,hw'⟩:=hw.step hg.1 hg.2.1 h0
   obtain⟨hd,b1,b2,b3⟩:=hw.bd h0
   have b4:=hd.2.2.2.2
   exact nk (Vy _) (cE s ∅ fun ρ' s'=>⟨_,_,_,hw',by rw[<- he,lN h0],ae s'.get (ae s'.get (ae s'.get (ae s'.get (ae s'.get aK))))⟩)
  ·rintro m ρ ⟨E,a,b,hw,he,s⟩ ⟨k,hk⟩
   have e:=hk.inj (bQ s ∅)
   have h0:b.1=aE:=by
    have e1:(!cU (dq b.1) (dq aE))=false:=by injection e with e1 e2;injection e1 with e1;exact e1.symm
    simpa using e1
   rw[<- he,oJ h0]
   exact cw s ∅
 ·refine cK (bW 3 ∅ (lV (m:=801) (fun m ρ => ∃(E:Nat) (a b:fG),im true p q m E a b/\jn true m a b=kH true p q/\Sub (bI [("one", dq p,false),("other", dq q,false),("side", uf true,false),("older", dR a,true),("newer", dR b,true)]) ρ) ⟨KN,(p,cR,aE),(q,aE,cR),im.start hg.1 hg.2.1 hg.2.2.1 hg.2.2.2,rfl,ae rfl (ae rfl (ae rfl (ae rfl (ae rfl aK))))⟩ (by decide) ?_ ?_))
  ·rintro m ρ ⟨E,a,b,hw,he,s⟩
   refine⟨!decide (b.1=aE),0,bQ s (∅.bl (by show(!cU (dq b.1) (dq aE))=_;simp)),fun ht=>?_⟩
   have h0:b.1≠aE:=by simpa using ht
   obtain⟨m',rfl,hw'⟩:=hw.step hg.1 hg.2.1 h0
   obtain⟨hd,b1,b2,b3⟩:=hw.bd h0
   have b4:=hd.2.2.2.2
   exact nk (Vy _) (cE s ∅ fun ρ' s'=>⟨_,_,_,hw',by rw[<- he,lN h0],ae s'.get (ae s'.get (ae s'.get (ae s'.get (ae s'.get aK))))⟩)
  ·rintro m ρ ⟨E,a,b,hw,he,s⟩ ⟨k,hk⟩
   have e:=hk.inj (bQ s ∅)
   have h0:b.1=aE:=by
    have e1:(!cU (dq b.1) (dq aE))=false:=by injection e with e1 e2;injection e1 with e1;exact e1.symm
    simpa using e1
   rw[<- he,oJ h0]
   exact cw s ∅
noncomputable def iH:List D->Option Xs:=fun ds=>match ds with
 | [_,_,.str y]=>if rE y=true then some zD else none
 | _=>none
theorem sV:∀ds r,iH ds=some r->ds.length=3/\Rz qO zm EX (aa (ag 26)) (ak (ag 26)) (c6 ["one", "other", "side"] ds) r:=by
 intro ds r h
 unfold iH at h
 split at h
 ·rename_i x q y
  split at h
  ·rename_i hy
   cases h
   exact⟨rfl,Rz.exp ∅ rfl rfl (qL hy)⟩
  ·cases h
 ·cases h
noncomputable def eT:Fx:=Tb [("whole_divisor", fc),("order_fault", fK),("size", mV),("exact", j9),("greatest", iI)] [] BL IL ML TL bi
noncomputable def lC:Str->Option (List D->Option Xs):=fun g=>([("whole_divisor", dM),("exact", rY),("greatest", iH)]:List (Str×(List D->Option Xs))).lookup g
noncomputable def iz:List D->Rs D:=kz eT (aa (ag 33)) ["four", "order"] ((ak (ag 33)).take 7) (Px ((ak (ag 33)).getD 7 (.Pass ⟨0,0,0,0⟩))) (Pw ((ak (ag 33)).getD 7 (.Pass ⟨0,0,0,0⟩)))
theorem D5(h:q≠aE)(g:gQ 400 q):ac (fc [dq q]) (.int (dh q)):=by
 have b:=g.bd (by decide)
 exact N6 (a:=q.1) (b:=q.2.1) (c:=q.2.2.1) (d:=q.2.2.2) (fun z=>h (cZ z.1 z.2.1 z.2.2.1 z.2.2.2)) (Js (k:=400) (by decide) (by simp) (by
  intro n hn
  simp only[Ve,VF,Ws]at hn
  rcases hn with rfl|rfl|rfl|rfl
  ·exact g.2.1
  ·exact g.2.2.1
  ·exact g.2.2.2.1
  ·exact g.2.2.2.2)) b.1 b.2.1 b.2.2.1 b.2.2.2
theorem Hq(hq:aq q)(pl:oF q)(hb:av q<=((2 ^ 300:Nat):Int))(hns:∀n∈ns,n∈cH)(hl:ns.length<=100)(hs:av q=dj ns) :
  ∃(r:Qd) (ds:List Qd),aq r/\av r=1/\(∀d∈ds,aq d)/\ds.map av=ns/\ds.foldl aT r=q/\ac (iz [dq q,.lst (ns.map D.int)]) (Ad r ds):=by
 have gq:=gS hq hb
 have q0:=pl.ne
 have bq:=gq.bd (by decide)
 have hw:=D5 q0 (gq.mono (by decide))
 have v1:=(wM q0 hq).mp pl
 have ll:ar (ns.map D.int)=true:=cM (fun _=>rfl) ns
 obtain⟨ρ',h1,F,rest,ds,R',e1,hr,e2,e3,hd,e4,e5,s⟩:∃ρ',ac (aD eT ((ak (ag 33)).take 7) (aa (ag 33)) (c6 ["four", "order"] [dq q,.lst (ns.map D.int)])) (.nx ρ')/\∃(F:List Int) (rest:Qd) (ds:List Qd) (R':List Int),F=ns.reverse/\aq rest/\F++R'=ns.reverse/\av rest=dj R'/\(∀d∈ds,aq d)/\ds.map av=F/\ds.reverse.foldl aT rest=q/\Sub (bI [("rest", dq rest,true),("parts", .lst (ds.map dq),true)]) ρ':=by
  refine fw (aW (d:=.int (dh q)) (bM ∅ hw)) (fw (aW (d:=.non) (bM (bf ∅ (bf ∅ cG)) (GI hns hl hs.symm))) (fY (P:=fun ρ=>Sub (bI [("four", dq q,false),("order", .lst (ns.map D.int),false),("by", .int (dh q),true)]) ρ) (yQ (t:=false) (k:=0) ∅ (fun z=>by cases z) (fun _=>fD (ae rfl (ae rfl (ae rfl aK))))) fun ρ1 s1=>fY (P:=fun ρ=>Sub (bI [("four", dq q,false),("order", .lst (ns.map D.int),false)]) ρ) (yQ (t:=false) (k:=0) (bQ s1 (∅.bl (Vh (by omega)))) (fun z=>by cases z) (fun _=>fD (ae s1.get (ae s1.get aK)))) fun ρ2 s2=>fw (aW (d:=dq q) (bQ s2 ∅)) (fw (aW (d:=.lst []) (bQ (s2.put _ _) ∅)) ?_)))
  have s3:=(s2.put (Str.ofString "rest") (dq q,true)).put (Str.ofString "parts") (.lst [],true)
  refine fY (P:=fun ρ' => ∃(F:List Int) (rest:Qd) (ds:List Qd) (R':List Int),F=ns.reverse/\aq rest/\F++R'=ns.reverse/\av rest=dj R'/\(∀d∈ds,aq d)/\ds.map av=F/\ds.reverse.foldl aT rest=q/\Sub (bI [("rest", dq rest,true),("parts", .lst (ds.map dq),true)]) ρ') ?_ fun ρ h=>fD h
  have fa:=gG (Φ:=eT) (sc:=aa (ag 33)) (ρ:=bE (bE ρ2 (Str.ofString "rest") (dq q,true)) (Str.ofString "parts") (.lst [],true)) (h:=D.int) (g:=fun n:Int=>[n]) (T:=ns.reverse) (F:=[]) (R:=[]) (k:=1) (fun F ρ => ∃(rest:Qd) (ds:List Qd) (R':List Int),aq rest/\oF rest/\av rest<=((2 ^ 300:Nat):Int)/\F++R'=ns.reverse/\av rest=dj R'/\(∀d∈ds,aq d)/\ds.map av=F/\ds.reverse.foldl aT rest=q/\Sub (bI [("rest", dq rest,true),("parts", .lst (ds.map dq),true)]) ρ) ns.reverse (d:=.lst (ns.map D.int).reverse) (tg:=nX ((ak (ag 33)).getD 6 (.Pass ⟨0,0,0,0⟩))) (it:=yX ((ak (ag 33)).getD 6 (.Pass ⟨0,0,0,0⟩))) (body:=iN ((ak (ag 33)).getD 6 (.Pass ⟨0,0,0,0⟩))) (p:=⟨0,0,0,0⟩) (bQ (s3.demote _) ∅) (by rw[List.map_reverse];rfl) ⟨q,[],ns.reverse,hq,pl,hb,rfl,by rw[wL];exact hs,(fun d h=>by cases h),rfl,rfl,ae (s3.demote _).get (ae (s3.demote _).get aK)⟩ (by rw[kK];simp) ?_
  ·obtain⟨ρ',f1,rest,ds,R',h1,_,_,h2,h3,h4,h5,h6,h7⟩:=fa
   rw[List.nil_append,kK,List.map_id']at h2 h5
   exact⟨ρ',f1,_,rest,ds,R',rfl,h1,h2,h3,h4,h5,h6,h7⟩
  ·rintro p hp F R ρ e ⟨rest,ds,R',hr,pr,br,e1,e2,hd,e3,e4,s⟩
   have eR:R'=p::R:=List.append_cancel_left (e1.trans e.symm)
   subst eR
   have hpP:=hns p (List.mem_reverse.mp hp)
   obtain⟨p1,p2⟩:=g8 p hpP
   have gr:=gS hr br
   have gP:gQ 302 (2*p,0,0,0):=⟨oW p,by show(2*p).natAbs<=_;exact Vl (show(2*p).natAbs<=2 ^ 8 by omega) (VJ (by decide) (by decide)),Vm _,Vm _,Vm _⟩
   have oG:okG rest (2*p,0,0,0):=gr.okG gP (by decide)
   obtain⟨sd,pd,u,hu,eu⟩:=De hr pr hpP ⟨dj R,e2⟩ (JZ (s:=true) oG)
   generalize hD:(kH true rest (2*p,0,0,0)).1=d at sd pd eu
   have d0:d≠aE:=fun z=>by rw[z]at sd;have:av aE=0:=rfl;omega
   have gd:gQ 302 d:=gS (n:=300) pd (by rw[sd];exact WJ (show p<=((2 ^ 8:Nat):Int) by omega) (Xg.mpr (VJ (by decide) (by decide))))
   have oD:okD true rest d:=gr.okD gd d0 (by decide)
   have su:av u*p=av rest:=by rw[eu,iL hu pd,sd]
   have kx:ac (j9 [dq rest,dq d,uf true]) (dq u):=by
    have k:ac (j9 [dq rest,dq d,uf true]) (rN true rest d):=∅
    rw[GM hu pd d0 (show rest=aL true u d from eu)]at k
    exact k
   have kg:ac (iI [dq rest,.tup [.int (2*p),.int 0,.int 0,.int 0],uf true]) (dR (kH true rest (2*p,0,0,0))):=∅
   have lf:F.length<=100:=by
    have:=V0 List.length e
    simp only[Vw,WZ]at this
    omega
   have l1:(ds.map dq).length<bO:=by
    rw[Vi,<- Vi (f:=av),e3];show _<40000;omega
   have s4:=s.put (Str.ofString "prime") (.int p,false)
   have s5:=s4.put (Str.ofString "part") (dq d,true)
   have ea:L2.atI [dq (kH true rest (2*p,0,0,0)).1,dq (kH true rest (2*p,0,0,0)).2.1,dq (kH true rest (2*p,0,0,0)).2.2] 0=some (dq d):=by rw[<- hD];rfl
   refine⟨_,rfl,fw (aW (d:=dq d) (bQ s4 (gc (bM ∅ kg) ∅ rfl ea))) (fw (aW (d:=dq u) (bQ s5 (bM ∅ kx))) (cE (s5.put (Str.ofString "rest") (dq u,true)) ∅ fun ρ' s'=>⟨u,ds++[d],R,hu,?_,?_,?_,?_,?_,?_,?_,?_⟩))⟩
   ·exact oF.left hu pd (eu ▸ pr)
   ·have n0:=eM hu
    have:=Vz (show 1<=p by omega) n0
    omega
   ·rw[WV];exact e
   ·rw[ej]at e2
    have:p*(av u-dj R)=0:=by rw[WH,<- e2,<- su,Wb];omega
    rcases Xl.mp this with z|z<;>omega
   ·intro x hx
    rcases Xj.mp hx with hx|hx
    ·exact hd x hx
    ·rw[WF]at hx;subst hx;exact pd
   ·rw[Wc,e3];show F++[av d]=_;rw[sd]
   ·rw[List.reverse_append,<- e4,eu];rfl
   ·rw[Wc]
    exact ae s'.get (ae s'.get aK)
 subst e1
 have eR:R'=[]:=by
  have:=V0 List.length e2
  simp only[Vw,WZ]at this
  exact List.length_eq_zero_iff.mp (by omega)
 subst eR
 refine⟨rest,ds.reverse,hr,e3,fun d h=>hd d (List.mem_reverse.mp h),?_,e5,?_⟩
 ·rw[List.map_reverse,e4,List.reverse_reverse]
 ·show ac _ (D.tup [dq rest,.lst (ds.reverse.map dq)])
  rw[List.map_reverse]
  exact Jr h1 (bQ s ∅) (bf (bQ s ∅) cG) (sy ds)
theorem yn{Φ:Fx}{Ψ:Str->Option (List D->Option Xs)}{Ex:Str->Option (Str×Option Str)}{sc:Scope}{r:Xs}:∀(n:Nat) {ss:List Stmt} {ρ ρ':af},ac (aD Φ (ss.take n) sc ρ) (.nx ρ')->Rz Φ Ψ Ex sc (ss.drop n) ρ' r->Rz Φ Ψ Ex sc ss ρ r
 | 0,ss,ρ,ρ',h,k=>by cases aJ h;exact k
 | n+1,[],ρ,ρ',h,k=>by cases aJ h;exact k
 | n+1,s::ss,ρ,ρ',h,k=>by
  rcases pU h with⟨ρ1,h1,h2⟩|⟨h1,_⟩
  ·exact Rz.step h1 (yn n h2 k)
  ·exact absurd rfl (h1 _)
abbrev Hy(i:Int):Xs:=(Str.ofString "Divided", Str.ofString "SpaceError", [(Str.ofString "by", i)])
theorem N7(pa:aq q)(ne:q≠aE)(g:gQ 400 q):(dh q).natAbs<2 ^ 1900:=by
 obtain⟨v0,k,pk,e⟩:=wr ne pa
 have key:∀x y:Int,x=y*dh q->x≠0->x.natAbs<=2 ^ 400->(dh q).natAbs<2 ^ 1900:=fun x y e x0 hx=>by
  have y0:y≠0:=fun z=>x0 (by rw[e,z,Int.zero_mul])
  rw[e,Int.natAbs_mul]at hx
  exact VE (Vl (Nat.le_mul_of_pos_left _ (by omega)) hx) (VY (by decide) (by decide))
 have e1:q.1=k.1*dh q:=V0 (fun t:Qd=>t.1) e
 have e2:q.2.1=k.2.1*dh q:=V0 (fun t:Qd=>t.2.1) e
 have e3:q.2.2.1=k.2.2.1*dh q:=V0 (fun t:Qd=>t.2.2.1) e
 have e4:q.2.2.2=k.2.2.2*dh q:=V0 (fun t:Qd=>t.2.2.2) e
 by_cases h1:q.1=0
 ·by_cases h2:q.2.1=0
  ·by_cases h3:q.2.2.1=0
   ·exact key _ _ e4 (fun h4=>ne (cZ h1 h2 h3 h4)) g.2.2.2.2
   ·exact key _ _ e3 h3 g.2.2.2.1
  ·exact key _ _ e2 h2 g.2.2.1
 ·exact key _ _ e1 h1 g.2.1
abbrev Hx(i:Int):Xs:=(Str.ofString "NoOrder", Str.ofString "SpaceError", [(Str.ofString "at", i)])
noncomputable def zQ(q:Qd)(ns:List Int):Option Xs:=if q=aE then some wq else match d8 ns 1 (av q) 0 with
 | some i=>some (Hx (i:Nat))
 | none=>if 1<dh q then some (Hy (dh q))else none
noncomputable def NV:List D->Option Xs:=fun ds=>match ds with
 | [a,.lst l]=>(match q4 a,dg l with|some q,some ns=>zQ q ns|_,_=>none)
 | _=>none
theorem Ke(q:Qd)(ns:List Int):NV [dq q,.lst (ns.map D.int)]=zQ q ns:=by
 show(match q4 (dq q),dg (ns.map D.int)with|some q,some ns=>zQ q ns|_,_=>none)=_
 rw[yP,show q4 (dq q)=some q from rfl]
noncomputable def fJ:List D->Option Xs:=Bw NV fun ds r=>ds.length=2/\Rz eT lC EX (aa (ag 33)) (ak (ag 33)) (c6 ["four", "order"] ds) r
theorem pA:∀ds r,fJ ds=some r->ds.length=2/\Rz eT lC EX (aa (ag 33)) (ak (ag 33)) (c6 ["four", "order"] ds) r:=fun ds r h=>Hb h
theorem DJ(pa:aq q)(sz:av q<=((2 ^ 300:Nat):Int))(ln:ns.length<=100)(h:zQ q ns=some r):fJ [dq q,.lst (ns.map D.int)]=some r:=by
 refine KM ((Ke q ns).trans h) ⟨rfl,?_⟩
 unfold zQ at h
 split at h
 ·rename_i e
  cases h
  subst e
  exact Rz.asn (G:=dM) (ds:=[dq aE]) ∅ rfl rfl rfl
 ·rename_i ne
  have gq:=gS pa sz
  have g4:=gq.mono (show 302<=400 by decide)
  have bq:=gq.bd (by decide)
  have hw:=D5 ne g4
  have hf:=xw (w:=av q) ln
  split at h
  ·rename_i i e
   cases h
   rw[e]at hf
   have hi:((i:Int)).natAbs<2 ^ 1900:=by
    have:=AG _ _ _ _ _ e
    exact VE (show(i:Int).natAbs<=100 by omega) (Vj (show 100<2 ^ 7 by decide) (VJ (by decide) (by decide)))
   exact yn 2 (aY (aW (d:=.int (dh q)) (bM ∅ hw)) (aY (aW (d:=.int (i:Nat)) (bM (bf ∅ (bf ∅ cG)) hf)) cA)) (Rz.iff (t:=true) (k:=0) ∅ (Rz.raiseF (i:=(i:Nat)) (k:=0) ∅ hi rfl (by decide) rfl))
  ·rename_i e
   rw[e]at hf
   split at h
   ·rename_i gt
    cases h
    exact yn 3 (aY (aW (d:=.int (dh q)) (bM ∅ hw)) (aY (aW (d:=.non) (bM (bf ∅ (bf ∅ cG)) hf)) (bh (t:=false) (k:=0) ∅ rfl cA))) (Rz.iff (t:=true) (k:=0) (∅.bl (Vt gt)) (Rz.raiseF (i:=dh q) (k:=0) ∅ (N7 pa ne g4) rfl (by decide) rfl))
   ·cases h
noncomputable def BO:Fx:=Tb [] [] BL IL ML TL bi
noncomputable def m9:List D->Rs D:=bX BO (aa (ag 37)) ["_law_x"] (ak (ag 37))
noncomputable def wl:Fx:=Tb [("_law_whole", m9)] [] BL IL ML TL bi
noncomputable def gX:List D->Rs D:=bX wl (aa (ag 38)) ["_law_thing"] (ak (ag 38))
theorem JE(hb:b.fmod 2=a.fmod 2)(hc:c.fmod 2=a.fmod 2)(hd:d.fmod 2=a.fmod 2):ac (gX [t4 a b c d]) (.bl true):=by
 refine cK (bh ∅ rfl (rg (ds:=[.int a,.int b,.int c,.int d]) (fun rem ρ=>(∀x∈rem,∃t:Int,x=.int t/\t.fmod 2=a.fmod 2)/\Sub (bI [("_law_thing", t4 a b c d,false)]) ρ) ∅ ⟨?_,ae rfl aK⟩ ?_ ?_))
 ·intro x hx
  simp only[Ve,VF,Ws]at hx
  rcases hx with rfl|rfl|rfl|rfl
  ·exact⟨_,rfl,rfl⟩
  ·exact⟨_,rfl,hb⟩
  ·exact⟨_,rfl,hc⟩
  ·exact⟨_,rfl,hd⟩
 ·rintro x l ρ ⟨hh,s⟩
  obtain⟨t,rfl,ht⟩:=hh x Vb
  exact⟨_,rfl,cE (s.put _ _) (bh (eQ (gT ∅ (gT (∅.bl (uH ht)) qB))) rfl cA) fun ρ' s'=>⟨fun y hy=>hh y (Vc _ hy),ae s'.get aK⟩⟩
 ·rintro ρ ⟨_,s⟩
  exact cw s ∅
noncomputable def je:Fx:=Tb [("_law_times", jB),("_law_is_four", gX),("_law_size", kX)] [] BL IL ML TL bi
noncomputable def fQ:List D->Rs D:=bX je (aa (ag 46)) ["_law_telling", "_law_primes", "_law_four"] (ak (ag 46))
theorem AU(h:aq q):ac (gX [dq q]) (.bl true):=by
 obtain⟨x1,x2,x3⟩:=Qm.par_fmod h
 exact JE (a:=q.1) (b:=q.2.1) (c:=q.2.2.1) (d:=q.2.2.2) x1 x2 x3
theorem nG:∀{l:List Int},(∀n∈l,n∈cH)->1<=dj l
 | [],_=>by decide
 | n::l,h=>by
  have h1:=nG fun m hm=>h m (Vc _ hm)
  obtain⟨p1,_⟩:=g8 n (h n Vb)
  rw[ej]
  have:=Int.mul_le_mul_of_nonneg_right (show 1<=n by omega) (show 0<=dj l by omega)
  omega
theorem HD{r:Qd}{ds:List Qd}(hr:aq r)(h1:av r=1)(hd:∀d∈ds,aq d)(es:ds.map av=ns)(ef:ds.foldl aT r=q)(hns:∀n∈ns,n∈cH)(hl:ns.length<=100)(hb:dj ns<=((2 ^ 300:Nat):Int)):ac (fQ [Ad r ds,.lst (ns.map D.int),dq q]) (.bl true):=by
 subst es ef
 have ll:ar ((ds.map av).map D.int)=true:=cM (fun _=>rfl) _
 have ld:=sy ds
 have br:=(gS (n:=300) hr (by rw[h1];exact Xg.mpr W7)).bd (by decide)
 have hlen:(!cU (.int ((ds.map dq).length:Nat)) (.int (((ds.map av).map D.int).length:Nat)))=false:=uH (by simp)
 have hz:List.zipWith (fun x y=>D.tup [x,y]) (ds.map dq) ((ds.map av).map D.int)=ds.map fun d=>D.tup [dq d,.int (av d)]:=by
  rw[List.map_map,List.zipWith_map,List.zipWith_self];rfl
 have pz:∀d∈ds,av d∈cH:=fun d h=>hns _ (Wh.mpr ⟨d,h,rfl⟩)
 refine cK (bh (t:=false) (k:=0) (eQ (gT ∅ (gT ∅ (gT (EI (bM (bf ∅ cG) (AU hr)) rfl) qB)))) rfl (bh (t:=false) (k:=0) (eQ (gT (∅.bl (uH h1)) (gT ∅ (gT (∅.bl hlen) qB)))) rfl (bW 1 ∅ (Mw (Q:=fun ρ=>Sub (bI [("_law_four", dq (ds.foldl aT r),false),("_law_whole_here", dq (ds.foldl aT r),true)]) ρ) ?_ ?_))))
 ·have fa:=gG (Φ:=je) (sc:=aa (ag 46)) (ρ:=bE (c6 ["_law_telling", "_law_primes", "_law_four"] [Ad r ds,.lst ((ds.map av).map D.int),dq (ds.foldl aT r)]) "_law_whole_here" (dq r,true)) (h:=fun d:Qd=>D.tup [dq d,.int (av d)]) (g:=fun d=>[d]) (T:=ds) (F:=[]) (R:=[]) (k:=1) (fun F ρ=>Sub (bI [("_law_four", dq (ds.foldl aT r),false),("_law_whole_here", dq (F.foldl aT r),true)]) ρ) ds (d:=.lst (ds.map fun d=>D.tup [dq d,.int (av d)])) (tg:=nX ((ak (ag 46)).getD 3 (.Pass ⟨0,0,0,0⟩))) (it:=yX ((ak (ag 46)).getD 3 (.Pass ⟨0,0,0,0⟩))) (body:=iN ((ak (ag 46)).getD 3 (.Pass ⟨0,0,0,0⟩))) (p:=⟨0,0,0,0⟩) (∅.eq (by rw[<- hz];rfl)) rfl (ae rfl (ae rfl aK)) (by rw[kK];simp) ?_
  ·rw[List.nil_append,kK,List.map_id']at fa
   exact fa
  ·intro d hm F R ρ e s
   have pd:=hd d hm
   have hF:∀x∈F,x∈ds:=fun x hx=>by rw[<- e];exact List.mem_append_left _ hx
   have nF:∀n∈F.map av,n∈cH:=fun n hn=>by obtain⟨x,hx,rfl⟩:=Wh.mp hn;exact pz x (hF x hx)
   have nR:∀n∈([d]++R).map av,n∈cH:=fun n hn=>by obtain⟨x,hx,rfl⟩:=Wh.mp hn;exact pz x (by rw[<- e];exact VD _ hx)
   have pF:∀x∈F,aq x:=fun x hx=>hd x (hF x hx)
   have zF:av (F.foldl aT r)<=((2 ^ 300:Nat):Int):=by
    rw[rc F r hr pF,h1,Xw]
    have e2:dj (ds.map av)=dj (F.map av)*dj (([d]++R).map av):=by rw[<- rn,<- Wc,e]
    have a1:=nG nF
    have a2:=nG nR
    have:=Vz a2 (show 0<=dj (F.map av) by omega)
    omega
   have bF:=(gS (vg hr pF) zF).bd (by decide)
   obtain⟨p1,p2⟩:=g8 _ (pz d hm)
   have gd:=gS (n:=8) pd (by omega)
   have bd:=gd.bd (by decide)
   obtain⟨⟨a1,a2,a3,a4⟩,_⟩:=qK bd bd
   obtain⟨t,ht,et⟩:=cJ pd
   have m4:bL 4 (av d):=fS (by decide)
   have hsum:(!cU (.int (d.1*d.1+(d.2.1*d.2.1+(d.2.2.1*d.2.2.1+(d.2.2.2*d.2.2.2+0))))) (.int (4*av d)))=false:=uH (by rw[ht,et])
   refine⟨_,rfl,cE ((s.put _ _).put _ _) (bh (t:=false) (k:=0) (eQ (gT (EI (bM ∅ (AU pd)) rfl) (gT (∅.bl hsum) qB))) rfl ∅) fun ρ' s'=>?_⟩
   rw[List.foldl_append]
   exact ae s'.get (ae s'.get aK)
 ·intro ρ s
  exact cw s (cW (cN (∅.bl (Nv rfl))))
noncomputable def DK:Fx:=Tb [("_law_whole", m9)] [("Nought", .xc "Nought" none),("NoOrder", .xc "NoOrder" none),("Divided", .xc "Divided" none)] BL IL ML TL bi
noncomputable def gO:List D->Rs D:=bX DK (aa (ag 50)) ["_law_error"] (ak (ag 50))
abbrev Hw(x:Xs):D:=.xc x.1 (some (x.2.1,x.2.2))
theorem Hz(i:Int):ac (gO [Hw (Hx i)]) (.tup [.str (Str.ofString "order"),.int i]):=cK ∅
theorem HB(i:Int):ac (gO [Hw (Hy i)]) (.tup [.str (Str.ofString "divided"),.int i]):=cK ∅
theorem HA:ac (gO [Hw wq]) (.tup [.str (Str.ofString "nought"),.int 0]):=cK ∅
noncomputable def jA:Fx:=Tb [("_law_cell", kY),("_law_built", ni),("_law_shuffled", jh),("_law_due", se),("taken_apart", iz),("_law_telling_well", fQ),("_law_word", gO)] [] BL IL ML TL bi
noncomputable def tE:Str->Option (List D->Option Xs):=fun g=>([("taken_apart", fJ)]:List (Str×(List D->Option Xs))).lookup g
noncomputable def tF:r8:=fun g=>([("_law_spoilt", gk)]:List (Str×(List D->Rs D))).lookup g
noncomputable def qS:List D->Rs D:=fun ds=>.ok (.bl true) [zr jA tE EX tF (aa (ag 51)) ["_law_script"] (ak (ag 51)) ds (.bl true)]
theorem DP:∀ds r,ac (qS ds) r->zr jA tE EX tF (aa (ag 51)) ["_law_script"] (ak (ag 51)) ds r:=by
 rintro ds r ⟨l,h,hp⟩
 cases h
 exact hp.1
theorem Eo(h:u∈jO):aq u:=(rC (lO u h)).1
theorem Om(h:u∈jO):av u=1:=(rC (lO u h)).2.1
theorem gB{C:af}(s:Sub C ρ):Sub (bY C) (bY ρ):=fun x y h=>by
 unfold bY at h⊢
 cases e:C x with
 | none=>rw[e]at h;cases h
 | some z=>rw[e]at h;rw[s x z e];exact h
theorem Fr(h:aq q)(m:Int):av (aV q m)=m*m*av q:=by
 obtain⟨t,h1,h2⟩:=cJ h
 obtain⟨u,h3,h4⟩:=cJ (d7 m h)
 rw[h2,h4]
 have e:4*u=4*(m*m*t):=by
  rw[<- h3,show 4*(m*m*t)=m*m*(4*t) by grind,<- h1]
  show q.1*m*(q.1*m)+(q.2.1*m*(q.2.1*m)+(q.2.2.1*m*(q.2.2.1*m)+(q.2.2.2*m*(q.2.2.2*m)+0)))=_
  grind
 omega
theorem JD(q:Qd)(m:Int):D.tup [.int (m*q.1),.int (m*q.2.1),.int (m*q.2.2.1),.int (m*q.2.2.2)]=dq (aV q m):=by
 rw[Wb m,Wb m,Wb m,Wb m];rfl
noncomputable def B9:List (List Int):=[[],[2,2],[3,3],[2,2,2,2]]
theorem MN(hl:AB L):∃(q:Qd) (ms:List Int) (ρ1:af),aq q/\av q<=((2 ^ 300:Nat):Int)/\ms.length<=9/\ac (aD jA ((ak (ag 51)).take 4) (aa (ag 51)) (c6 ["_law_script"] [.lst L])) (.nx ρ1)/\Sub (bI [("_law_script", .lst L,false),("_law_cell_here", .int (dm L 0),false),("_law_four", dq q,false),("_law_order", .lst (ms.map D.int),false)]) (bY ρ1):=by
 have c0:=VI (dm L 0) (show(0:Int)<6 by decide)
 have c1:=VR (dm L 0) (show(0:Int)<6 by decide)
 obtain⟨m,hm⟩:=WL c0
 obtain⟨u,ws,hu,w1,w2,hB⟩:=Hf hl 4 (m:=m) (by omega)
 rw[<- hm]at hB
 have pks:∀w∈ws,aq w:=fun w h=>(w2 w h).1.1
 have pk:aq (ws.foldl aT u):=vg (Eo hu) pks
 have zk:av (ws.foldl aT u)=dj (ws.map av):=by rw[rc ws u (Eo hu) pks,Om hu,Xw]
 have nP:∀n∈ws.map av,n∈cH:=fun n hn=>by obtain⟨x,hx,rfl⟩:=Wh.mp hn;exact(w2 x hx).2
 have bP:dj (ws.map av)<=((2 ^ 200:Nat):Int):=WJ (Ap nP).2 (Xg.mpr (VJ (by decide) (by rw[Vi];omega)))
 have p0:1<=dj (ws.map av):=nG nP
 have bk:=(gS (n:=200) pk (by rw[zk];exact bP)).bd (by decide)
 have lw:(ws.map av).length<=5:=by rw[Vi];omega
 generalize ws.foldl aT u=q at *
 generalize ws.map av=ks at *
 have ll:ar (ks.map D.int)=true:=cM (fun _=>rfl) _
 obtain⟨ms,pm,hS⟩:=Im (ns:=ks) (dm L 1) (by omega)
 have lm:ms.length<=5:=by rw[pm.length_eq];exact lw
 have l2:ar (ms.map D.int)=true:=cM (fun _=>rfl) _
 have b2:((2 ^ 200:Nat):Int)<=((2 ^ 300:Nat):Int):=Xg.mpr (VJ (by decide) (by decide))
 by_cases hc:((dm L 0).fdiv 6).fmod 3=1
 ·have d0:=VI ((dm L 0).fdiv 18) (show(0:Int)<4 by decide)
  have d1:=VR ((dm L 0).fdiv 18) (show(0:Int)<4 by decide)
  obtain⟨x,hx,hat⟩:=kU (f:=fun l:List Int=>D.lst (l.map D.int)) (l:=B9) (i:=1+((dm L 0).fdiv 18).fmod 4-1) (by omega) (show _<(4:Int) by omega)
  have lx:x.length<=4:=by
   simp only[B9,Ve,VF,Ws]at hx
   rcases hx with rfl|rfl|rfl|rfl<;>decide
  have mo:∀t:Int,bL (1+((dm L 0).fdiv 18).fmod 4) t:=fun t=>fS (by omega)
  have o1:=mo q.1;have o2:=mo q.2.1;have o3:=mo q.2.2.1;have o4:=mo q.2.2.2
  refine⟨aV q (1+((dm L 0).fdiv 18).fmod 4),ms++x,_,d7 _ pk,?_,by rw[Vw];omega,aY (aW (d:=.int (dm L 0)) ∅) (aY (Bl (bM ∅ hB) rfl (.inr (Vm 1)) rfl) (aY (aW (d:=.lst (ms.map D.int)) (bM ∅ hS)) (db (t:=true) (k:=0) (∅.bl ((bN _ _).trans (Vt hc))) rfl (aY (aW (d:=.int (1+((dm L 0).fdiv 18).fmod 4)) ∅) (aY (aW (d:=dq (aV q (1+((dm L 0).fdiv 18).fmod 4))) (∅.eq (by rw[<- JD]))) (aY (aW (d:=.lst ((ms++x).map D.int)) (dY ∅ (gc (x:=.lst (B9.map fun l:List Int=>D.lst (l.map D.int))) ∅ ∅ rfl hat) (gU ms x (by omega)))) cA)))))),ae rfl (ae rfl (ae rfl (ae rfl aK)))⟩
  rw[Fr pk,zk]
  have t1:0<=1+((dm L 0).fdiv 18).fmod 4/\1+((dm L 0).fdiv 18).fmod 4<=4:=by omega
  clear hat o1 o2 o3 o4 mo
  generalize 1+((dm L 0).fdiv 18).fmod 4=t at *
  have t4:t*t<=16:=WJ (Vz t1.2 t1.1) (by omega)
  have t0:0<=t*t:=Xf t1.1 t1.1
  refine WJ (Int.mul_le_mul_of_nonneg_right t4 (by omega)) (WJ (Vz bP (by decide)) ?_)
  rw[show(16:Int)=((2 ^ 4:Nat):Int)from rfl,<- Int.natCast_mul,<- WB]
  exact Xg.mpr (VJ (by decide) (by decide))
 ·exact⟨q,ms,_,pk,by rw[zk];exact WJ bP b2,by omega,aY (aW (d:=.int (dm L 0)) ∅) (aY (Bl (bM ∅ hB) rfl (.inr (Vm 1)) rfl) (aY (aW (d:=.lst (ms.map D.int)) (bM ∅ hS)) (bh (t:=false) (k:=0) (∅.bl ((bN _ _).trans (Vh hc))) rfl cA))),ae rfl (ae rfl (ae rfl (ae rfl aK)))⟩
theorem zY(hl:AB L)(hm:ms.length<=50)(k:Int)(ρ:af)(s:Sub (bI [("_law_script", .lst L,false),("_law_cell_here", .int (dm L 0),false),("_law_four", dq q,false),("_law_order", .lst (ms.map D.int),false)]) ρ):∃(m':List Int) (ρ1 ρ2:af),m'.length<=ms.length+1/\bJ (aa (ag 51)) (nX ((ak (ag 51)).getD 4 (.Pass ⟨0,0,0,0⟩))) (.int k) ρ=some ρ1/\Rq jA tE EX tF (aa (ag 51)) (iN ((ak (ag 51)).getD 4 (.Pass ⟨0,0,0,0⟩))) ρ1 (.nx ρ2)/\Sub (bI [("_law_script", .lst L,false),("_law_cell_here", .int (dm L 0),false),("_law_four", dq q,false),("_law_order", .lst (m'.map D.int),false)]) ρ2:=by
 obtain⟨m',h1,h2⟩:=Mx (ns:=ms) (dm L k) hm
 have s2:∀b,Sub _ (bY (bE ρ "_law_k" (.int k,b))):=fun b=>gB (s.put "_law_k" (.int k,b))
 refine⟨m',_,_,h1,rfl,Rq.callW (F:=gk) (ds:=[.lst (ms.map D.int),.int (dm L k)]) rfl (gD (C:=bY (bE (bI [("_law_script", .lst L,false),("_law_cell_here", .int (dm L 0),false),("_law_four", dq q,false),("_law_order", .lst (ms.map D.int),false)]) "_law_k" (.int k,_))) ∅ (s2 _)) h2 rfl rfl (Rq.rf (Rf.base cA)),?_⟩
 have s3:=(s2 false).put "_law_order" (.lst (m'.map D.int),false)
 exact ae s3.get (ae s3.get (ae s3.get (ae s3.get aK)))
theorem Nu(w:Str)(i:Int)(hw:PyData.strOk w=true):ac (iu .Eq (.tup [.str w,.int i]) (.tup [.str w,.int i])) true:=by
 have k:SeqAt.shaped (D.tup [.str w,.int i]).py=true:=by
  simp only[D.py,eO]
  unfold SeqAt.shaped
  simp[PyData.canLay0,PyData.canLayAll0,PyData.depth,PyData.depthAll,hw]
 refine ac.eq ⟨_,rfl,?_,True.intro⟩ ?_
 ·unfold gH;rw[k];rfl
 ·show((_==_)&&((_==_)&&true))=true
  simp
theorem j5{n c x:Str}{d:D×Bool}(h:ρ x=some d)(h1:x≠n:=by decide)(h2:x≠y:=by decide):mD ρ n y c B fs x=some d:=(if_neg h1).trans ((if_neg h2).trans h)
theorem GK{n c:Str}(h1:y≠n:=by decide):mD ρ n y c B fs y=some (.xc c (some (B,fs)),true):=(if_neg h1).trans (if_pos rfl)
theorem uu{c:Str}{w:Str}{i:Int}(s:Sub (bI [("_law_four", dq q,false),("_law_order", .lst (ms.map D.int),false),("_law_due_here", .tup [.str w,.int i],false),("_law_handed", .lst (ms.map D.int),false),("_law_error", .non,false),("_law_told", .non,false)]) ρ)(hw:ac (gO [.xc c (some ("SpaceError", fs))]) (.tup [.str w,.int i]))(ho:PyData.strOk w=true:=by decide):ac (aD jA ((ak (ag 51)).drop 11) (aa (ag 51)) (mD ρ "_law_e" "_law_error" c "SpaceError" fs)) (.rt (.bl true)):=by
 have hN:=Es ms ms
 rw[Vt rfl]at hN
 have s2:Sub (bI [("_law_order", .lst (ms.map D.int),false),("_law_due_here", .tup [.str w,.int i],false),("_law_handed", .lst (ms.map D.int),false),("_law_error", .xc c (some ("SpaceError", fs)),true)]) (mD ρ "_law_e" "_law_error" c "SpaceError" fs):=ae (j5 s.get) (ae (j5 s.get) (ae (j5 s.get) (ae GK aK)))
 exact cw s2 (bh (t:=false) (k:=0) (dJ ∅ ∅ hN) rfl (bh (t:=false) (k:=0) ∅ rfl (cW (cN (eQ (gb ∅ (gb (dJ (bM ∅ hw) ∅ (Nu w i ho)) i6)))))))
theorem CY(ns:List Int)(_:ns.length<=63):ac (qS [.lst (ns.map D.int)]) (.bl true):=by
 have hl:AB (ns.map D.int):=⟨ns,rfl⟩
 generalize ns.map D.int=L at *
 obtain⟨q0,m1,ρ1,pa0,sz0,ln1,h1,s1⟩:=MN hl
 obtain⟨m2,ρa,ρb,l2,b2,t2,s2⟩:=zY hl (by omega) 2 (bY ρ1) s1
 obtain⟨ms,ρc,ρd,l3,b3,t3,s3⟩:=zY hl (by omega) 3 ρb s2
 have lm:ms.length<=100:=by omega
 refine⟨_,rfl,⟨rfl,Rq.cut 4 h1 (Rq.dem (Rq.forQ (d:=.tup [.int 2,.int 3]) (ds:=[.int 2,.int 3]) (k:=0) ∅ rfl (Vm 1) rfl (vY.cons b2 t2 (vY.cons b3 t3 vY.nil)) ?_))⟩,True.intro⟩
 have ll:ar (ms.map D.int)=true:=cM (fun _=>rfl) _
 have m4:(ms.map D.int).length<=bO:=by rw[Vi];show _<=40000;omega
 obtain⟨q,ρ2,pa,sz,h5,s5⟩:∃(q:Qd) (ρ2:af),aq q/\av q<=((2 ^ 300:Nat):Int)/\ac (aD jA (((ak (ag 51)).drop 5).take 5) (aa (ag 51)) ρd) (.nx ρ2)/\Sub (bI [("_law_four", dq q,false),("_law_order", .lst (ms.map D.int),false),("_law_due_here", gJ q ms,false),("_law_handed", .lst (ms.map D.int),false),("_law_error", .non,false),("_law_told", .non,false)]) (bY ρ2):=by
  by_cases hc:((dm L 0).fdiv 1024).fmod 16=1
  ·have g:gQ 400 aE:=(gS (n:=300) fM (by rw[show av aE=0 from rfl];exact Xg.mpr (Vm _))).mono (by decide)
   have hd:=EL g lm
   obtain⟨ρ2,h,k⟩:∃ρ2,ac (aD jA (((ak (ag 51)).drop 5).take 5) (aa (ag 51)) ρd) (.nx ρ2)/\Sub (bI [("_law_four", dq aE,false),("_law_order", .lst (ms.map D.int),false),("_law_due_here", gJ aE ms,false),("_law_handed", .lst (ms.map D.int),false),("_law_error", .non,false),("_law_told", .non,false)]) (bY ρ2):=cE s3 (db (t:=true) (k:=0) (∅.bl ((bN _ _).trans (Vt hc))) rfl (aY (aW (d:=dq aE) ∅) (aY (aW (d:=gJ aE ms) (bM ∅ hd)) (aY (aW (d:=.lst (ms.map D.int)) ∅) (aY (aW (d:=.non) ∅) (aY (aW (d:=.non) ∅) cA)))))) fun ρ' s'=>ae (gB s').get (ae (gB s').get (ae (gB s').get (ae (gB s').get (ae (gB s').get (ae (gB s').get aK)))))
   exact⟨aE,ρ2,fM,by rw[show av aE=0 from rfl];exact Xg.mpr (Vm _),h,k⟩
  ·have g:gQ 400 q0:=(gS pa0 sz0).mono (by decide)
   have hd:=EL g lm
   obtain⟨ρ2,h,k⟩:∃ρ2,ac (aD jA (((ak (ag 51)).drop 5).take 5) (aa (ag 51)) ρd) (.nx ρ2)/\Sub (bI [("_law_four", dq q0,false),("_law_order", .lst (ms.map D.int),false),("_law_due_here", gJ q0 ms,false),("_law_handed", .lst (ms.map D.int),false),("_law_error", .non,false),("_law_told", .non,false)]) (bY ρ2):=cE s3 (bh (t:=false) (k:=0) (∅.bl ((bN _ _).trans (Vh hc))) rfl (aY (aW (d:=gJ q0 ms) (bM ∅ hd)) (aY (aW (d:=.lst (ms.map D.int)) ∅) (aY (aW (d:=.non) ∅) (aY (aW (d:=.non) ∅) cA))))) fun ρ' s'=>ae (gB s').get (ae (gB s').get (ae (gB s').get (ae (gB s').get (ae (gB s').get (ae (gB s').get aK)))))
   exact⟨q0,ρ2,pa0,sz0,h,k⟩
 refine Rq.cut 5 h5 (Rq.dem ?_)
 generalize bY ρ2=ρ at *
 by_cases h0:q=aE
 ·have ez:zQ q ms=some wq:=if_pos h0
  have ed:gJ q ms=.tup [.str (Str.ofString "nought"),.int 0]:=if_pos h0
  rw[ed]at s5
  exact Rq.tryX (o:=none) rfl (fun _ _ z=>by cases z) (Rt.asn (ds:=[dq q,.lst (ms.map D.int)]) (gD ∅ s5) rfl rfl (DJ pa sz lm ez)) (Rq.rf (Rf.base (uu s5 HA)))
 ·have e1:gJ q ms=pw q (d8 ms 1 (av q) 0):=if_neg h0
  cases eo:d8 ms 1 (av q) 0 with
  | some i =>
   have ez:zQ q ms=some (Hx (i:Nat)):=(if_neg h0).trans (by rw[eo])
   have ed:gJ q ms=.tup [.str (Str.ofString "order"),.int (i:Nat)]:=by rw[e1,eo];rfl
   rw[ed]at s5
   exact Rq.tryX (o:=some "at") rfl (fun _ _ z=>by cases z;rfl) (Rt.asn (ds:=[dq q,.lst (ms.map D.int)]) (gD ∅ s5) rfl rfl (DJ pa sz lm ez)) (Rq.rf (Rf.base (uu s5 (Hz _))))
  | none =>
   by_cases hv:1<dh q
   ·have ez:zQ q ms=some (Hy (dh q)):=(if_neg h0).trans (by rw[eo];exact if_pos hv)
    have ed:gJ q ms=.tup [.str (Str.ofString "divided"),.int (dh q)]:=by rw[e1,eo];exact if_pos hv
    rw[ed]at s5
    exact Rq.tryX (o:=some "by") rfl (fun _ _ z=>by cases z;rfl) (Rt.asn (ds:=[dq q,.lst (ms.map D.int)]) (gD ∅ s5) rfl rfl (DJ pa sz lm ez)) (Rq.rf (Rf.base (uu s5 (HB _))))
   ·have ed:gJ q ms=.non:=by rw[e1,eo];exact if_neg hv
    rw[ed]at s5
    obtain⟨pr,pe⟩:=uF _ _ _ _ eo
    rw[Xw]at pe
    obtain⟨r,ds,g1,g2,g3,g4,g5,hA⟩:=Hq pa ((wM h0 pa).mpr (by omega)) sz pr lm pe.symm
    have hW:=HD g1 g2 g3 g4 g5 pr lm (by rw[pe];exact sz)
    have hN:=Es ms ms
    rw[Vt rfl]at hN
    have s6:=s5.put (Str.ofString "_law_told") (Ad r ds,true)
    exact Rq.tryN (Rf.base (aY (aW (d:=Ad r ds) (bM (gD ∅ s5) hA)) cA)) (Rq.rf (Rf.base (cw s6 (bh (t:=false) (k:=0) (dJ ∅ ∅ hN) rfl (db (t:=true) (k:=0) ∅ rfl (cW (cN (eQ (gb ∅ (gb (bM ∅ hW) i6))))))))))
theorem Pi:aN (aC (aa (ag 36))) ["_law_script", "_law_k"] (aa (ag 36)):=⟨rfl,rfl,rfl,by decide,by decide,by decide,by decide⟩
theorem Pc:aN (aC (aa (ag 42))) [] (aa (ag 42)):=⟨rfl,rfl,rfl,by decide,by decide,by decide,by decide⟩
theorem Pb:aN (aC (aa (ag 43))) ["_law_n"] (aa (ag 43)):=⟨rfl,rfl,rfl,by decide,by decide,by decide,by decide⟩
theorem Pd:aN (aC (aa (ag 40))) ["_law_one", "_law_other"] (aa (ag 40)):=⟨rfl,rfl,rfl,by decide,by decide,by decide,by decide⟩
theorem Pa:aN (aC (aa (ag 44))) ["_law_script", "_law_begin", "_law_many"] (aa (ag 44)):=⟨rfl,rfl,rfl,by decide,by decide,by decide,by decide⟩
theorem O7:aN (aC (aa (ag 47))) ["_law_things", "_law_cell_here"] (aa (ag 47)):=⟨rfl,rfl,rfl,by decide,by decide,by decide,by decide⟩
theorem O9:aN (aC (aa (ag 45))) ["_law_four"] (aa (ag 45)):=⟨rfl,rfl,rfl,by decide,by decide,by decide,by decide⟩
theorem Pf:aN (aC (aa (ag 39))) ["_law_four"] (aa (ag 39)):=⟨rfl,rfl,rfl,by decide,by decide,by decide,by decide⟩
theorem O1:aN (aC (aa (ag 49))) ["_law_four", "_law_order"] (aa (ag 49)):=⟨rfl,rfl,rfl,by decide,by decide,by decide,by decide⟩
theorem O6:aN (aC (aa (ag 48))) ["_law_order", "_law_cell_here"] (aa (ag 48)):=⟨rfl,rfl,rfl,by decide,by decide,by decide,by decide⟩
theorem Pk:aN (aC (aa (ag 30))) ["one", "other"] (aa (ag 30)):=⟨rfl,rfl,rfl,by decide,by decide,by decide,by decide⟩
theorem Pl:aN (aC (aa (ag 29))) ["numbers"] (aa (ag 29)):=⟨rfl,rfl,rfl,by decide,by decide,by decide,by decide⟩
theorem UT:aN (aC (aa (ag 8))) ["thing"] (aa (ag 8)):=⟨rfl,rfl,rfl,by decide,by decide,by decide,by decide⟩
theorem US:aN (aC (aa (ag 9))) ["thing"] (aa (ag 9)):=⟨rfl,rfl,rfl,by decide,by decide,by decide,by decide⟩
theorem Iy:aN (aC (aa (ag 32))) ["four"] (aa (ag 32)):=⟨rfl,rfl,rfl,by decide,by decide,by decide,by decide⟩
theorem Pj:aN (aC (aa (ag 34))) ["order", "whole"] (aa (ag 34)):=⟨rfl,rfl,rfl,by decide,by decide,by decide,by decide⟩
theorem Pp:aN (aC (aa (ag 17))) ["four"] (aa (ag 17)):=⟨rfl,rfl,rfl,by decide,by decide,by decide,by decide⟩
theorem IA:aN (aC (aa (ag 21))) ["side"] (aa (ag 21)):=⟨rfl,rfl,rfl,by decide,by decide,by decide,by decide⟩
theorem Pv:aN (aC (aa (ag 10))) ["one", "other"] (aa (ag 10)):=⟨rfl,rfl,rfl,by decide,by decide,by decide,by decide⟩
theorem Pu:aN (aC (aa (ag 11))) ["one", "number"] (aa (ag 11)):=⟨rfl,rfl,rfl,by decide,by decide,by decide,by decide⟩
theorem Pm:aN (aC (aa (ag 24))) ["four", "tried", "number"] (aa (ag 24)):=⟨rfl,rfl,rfl,by decide,by decide,by decide,by decide⟩
theorem Pn:aN (aC (aa (ag 23))) ["four", "number"] (aa (ag 23)):=⟨rfl,rfl,rfl,by decide,by decide,by decide,by decide⟩
theorem Pt:aN (aC (aa (ag 14))) ["one", "other"] (aa (ag 14)):=⟨rfl,rfl,rfl,by decide,by decide,by decide,by decide⟩
theorem Ps:aN (aC (aa (ag 15))) ["one", "other"] (aa (ag 15)):=⟨rfl,rfl,rfl,by decide,by decide,by decide,by decide⟩
theorem Po:aN (aC (aa (ag 22))) ["one", "other", "side"] (aa (ag 22)):=⟨rfl,rfl,rfl,by decide,by decide,by decide,by decide⟩
theorem Pq:aN (aC (aa (ag 16))) ["four"] (aa (ag 16)):=⟨rfl,rfl,rfl,by decide,by decide,by decide,by decide⟩
theorem IC:aN (aC (aa (ag 19))) ["one", "other", "side"] (aa (ag 19)):=⟨rfl,rfl,rfl,by decide,by decide,by decide,by decide⟩
theorem IB:aN (aC (aa (ag 20))) ["one", "other", "side"] (aa (ag 20)):=⟨rfl,rfl,rfl,by decide,by decide,by decide,by decide⟩
theorem Iz:aN (aC (aa (ag 26))) ["one", "other", "side"] (aa (ag 26)):=⟨rfl,rfl,rfl,by decide,by decide,by decide,by decide⟩
theorem Ix:aN (aC (aa (ag 33))) ["four", "order"] (aa (ag 33)):=⟨rfl,rfl,rfl,by decide,by decide,by decide,by decide⟩
theorem Ph:aN (aC (aa (ag 37))) ["_law_x"] (aa (ag 37)):=⟨rfl,rfl,rfl,by decide,by decide,by decide,by decide⟩
theorem Pg:aN (aC (aa (ag 38))) ["_law_thing"] (aa (ag 38)):=⟨rfl,rfl,rfl,by decide,by decide,by decide,by decide⟩
theorem O8:aN (aC (aa (ag 46))) ["_law_telling", "_law_primes", "_law_four"] (aa (ag 46)):=⟨rfl,rfl,rfl,by decide,by decide,by decide,by decide⟩
theorem O0:aN (aC (aa (ag 50))) ["_law_error"] (aa (ag 50)):=⟨rfl,rfl,rfl,by decide,by decide,by decide,by decide⟩
theorem OZ:aN (aC (aa (ag 51))) ["_law_script"] (aa (ag 51)):=⟨rfl,rfl,rfl,by decide,by decide,by decide,by decide⟩
theorem MB:aN (aC (aa (fH (ag 5) 0))) ["self", "by"] (aa (fH (ag 5) 0)):=⟨rfl,rfl,rfl,by decide,by decide,by decide,by decide⟩
theorem MC:aN (aC (aa (fH (ag 4) 0))) ["self", "at"] (aa (fH (ag 4) 0)):=⟨rfl,rfl,rfl,by decide,by decide,by decide,by decide⟩
theorem bz:∀p∈BL,jN p:=am (Pr:=jN) (Hi) (am (Pr:=jN) (BG) (am (Pr:=jN) (DA) (am (Pr:=jN) (Hn) (am (Pr:=jN) (Hm) (am (Pr:=jN) (Hh) (am (Pr:=jN) (Hj) (am (Pr:=jN) (Hl) (aw))))))))
theorem bx:∀p∈IL,sg p:=am (Pr:=sg) (Bc) (am (Pr:=sg) (Gv) (am (Pr:=sg) (Db) (am (Pr:=sg) (Gw) (aw))))
theorem bw:∀p∈ML,LJ p:=aw
theorem bv:∀p∈TL,zy p:=am (Pr:=zy) (yL) (am (Pr:=zy) (yK) (aw))
theorem cL{P:Program}{w:World}{k0:W.Frag}{base:Heap}{g:Str}{F:List D->Rs D}{l:List (Str×(List D->Rs D))}(h:cI P w k0 mg base j g F)(t:∀p∈l,Fe P w k0 mg base k p)(hj:j<=k:=by decide):∀p∈(g,F)::l,Fe P w k0 mg base k p:=am (Pr:=Fe P w k0 mg base k) (Or.inl (h.mono hj)) t
theorem all_mk{w:World}{K:W.Frag}{h:Heap}{fa f36 f42 f43 f40 f44 f47 f45 f39 f49 f48 f30 f29 f8 f9 f32 f34 f17 f21 f10 f11 f24 f23 f14 f15 f22 f16 f19 f20 f26 f33 f37 f38 f46 f50 f51 rL rM:Addr}(X:K.In h)(G:h.Ns mainGlobals mg)(hfa:mg "law" = some (.ref fa))
  {QC Uf Qx Ua Qw T9 Qy Ub Qv T7 Qs T3 Qu T6 Qz Uc Qq TZ Qr T0 QG Uj QH Uk od8 an8 od9 an9 QF Ui QD Ug QP Ut QM Uq QU Uy QT Ux QJ Um QK Uo QS Uw QR Uv QL Up QQ Uu QO Us QN Ur QI Ul QE Uh QB Ue QA Ud Qt T5 Qp TY Qo Ly MY NG MZ NH:Option Addr} {OF Oz Oy OA Ox Ot Ov OB Oq Os OJ OK sl8 sl9 OI OG OS OP OX OW OM ON OV OU OO OT OR OQ OL OH OE OC Ou Op Oo Mz MA:Array (Option Value)} {Re RZ SK PZ K6 Tq Q7 RU SE PR K0 Tl Q6 RT SC PQ KZ Tk Q8 RV SG PU K1 Tm Q5 RS SA PP KY Tj QZ RO Sx PL KT Te Q4 RQ Sz PN KW Th Q9 RW SH PV K2 Tn QX RM Sv PJ KR Ta QY RN Sw PK KS Tc Rj R6 SO P6 La Tu Rk R7 SQ P7 Lb Tv oc8 kV8 dc8 pm8 cd8 ct8 oc9 kV9 dc9 pm9 cd9 ct9 Ri R5 SN P5 K9 Tt Rg R0 SL P0 K7 Tr Ry Sf SY Qg Lj TH Ru Sc SV Qc Lg TB RE Sk S7 Ql Lo TQ RD Sj S6 Qk Ln TN Rm R9 SS P9 Ld Tx Ro Sa ST Qa Le Ty RC Si S5 Qj Lm TM RB Sh S4 Qi Ll TK Rr Sb SU Qb Lf Tz RA Sg SZ Qh Lk TJ Rx Se SX Qf Li TF Rv Sd SW Qe Lh TC Rl R8 SR P8 Lc Tw Rh R4 SM P4 K8 Ts Rb RY SJ PY K5 Tp Ra RX SI PX K3 To Q0 RP Sy PM KU Tg QW RL Su PH KQ S9 QV JO KG IS Ds KJ M0 M9 Ny MP ES NB M1 Nc Nz MQ ET NC:Value}
  {bV:Addr} (iG:W.nsIn K mainGlobals "Divided" = some (some (.ref bV))) (xi_Divided:W.findIn K (.ref bV) "__init__" = some (some (.ref rL)))
  {bU:Addr} (iF:W.nsIn K mainGlobals "NoOrder" = some (some (.ref bU))) (xi_NoOrder:W.findIn K (.ref bU) "__init__" = some (some (.ref rM)))
  (a36:W.nsIn K mainGlobals "_law_cell" = some (some (.ref f36)))    (l36:K.lookup f36=some ⟨Re,QC,.func (W.fnOf "_law_cell" "_law_cell" (aR (ag 36)) (ak (ag 36)) (aa (ag 36)) .none RZ SK PZ Uf K6 Tq),OF⟩) (c36:W.codeIn K K6 "_law_cell" = true) (k36:W.keepIn K (.ref f36)=true)
  (a42:W.nsIn K mainGlobals "_law_units" = some (some (.ref f42)))    (l42:K.lookup f42=some ⟨Q7,Qx,.func (W.fnOf "_law_units" "_law_units" (aR (ag 42)) (ak (ag 42)) (aa (ag 42)) .none RU SE PR Ua K0 Tl),Oz⟩) (c42:W.codeIn K K0 "_law_units" = true) (k42:W.keepIn K (.ref f42)=true)
  (a43:W.nsIn K mainGlobals "_law_fours" = some (some (.ref f43)))    (l43:K.lookup f43=some ⟨Q6,Qw,.func (W.fnOf "_law_fours" "_law_fours" (aR (ag 43)) (ak (ag 43)) (aa (ag 43)) .none RT SC PQ T9 KZ Tk),Oy⟩) (c43:W.codeIn K KZ "_law_fours" = true) (k43:W.keepIn K (.ref f43)=true)
  (a40:W.nsIn K mainGlobals "_law_times" = some (some (.ref f40)))    (l40:K.lookup f40=some ⟨Q8,Qy,.func (W.fnOf "_law_times" "_law_times" (aR (ag 40)) (ak (ag 40)) (aa (ag 40)) .none RV SG PU Ub K1 Tm),OA⟩) (c40:W.codeIn K K1 "_law_times" = true) (k40:W.keepIn K (.ref f40)=true)
  (a44:W.nsIn K mainGlobals "_law_built" = some (some (.ref f44)))    (l44:K.lookup f44=some ⟨Q5,Qv,.func (W.fnOf "_law_built" "_law_built" (aR (ag 44)) (ak (ag 44)) (aa (ag 44)) .none RS SA PP T7 KY Tj),Ox⟩) (c44:W.codeIn K KY "_law_built" = true) (k44:W.keepIn K (.ref f44)=true)
  (a47:W.nsIn K mainGlobals "_law_shuffled" = some (some (.ref f47)))    (l47:K.lookup f47=some ⟨QZ,Qs,.func (W.fnOf "_law_shuffled" "_law_shuffled" (aR (ag 47)) (ak (ag 47)) (aa (ag 47)) .none RO Sx PL T3 KT Te),Ot⟩) (c47:W.codeIn K KT "_law_shuffled" = true) (k47:W.keepIn K (.ref f47)=true)
  (a45:W.nsIn K mainGlobals "_law_divisor" = some (some (.ref f45)))    (l45:K.lookup f45=some ⟨Q4,Qu,.func (W.fnOf "_law_divisor" "_law_divisor" (aR (ag 45)) (ak (ag 45)) (aa (ag 45)) .none RQ Sz PN T6 KW Th),Ov⟩) (c45:W.codeIn K KW "_law_divisor" = true) (k45:W.keepIn K (.ref f45)=true)
  (a39:W.nsIn K mainGlobals "_law_size" = some (some (.ref f39)))    (l39:K.lookup f39=some ⟨Q9,Qz,.func (W.fnOf "_law_size" "_law_size" (aR (ag 39)) (ak (ag 39)) (aa (ag 39)) .none RW SH PV Uc K2 Tn),OB⟩) (c39:W.codeIn K K2 "_law_size" = true) (k39:W.keepIn K (.ref f39)=true)
  (a49:W.nsIn K mainGlobals "_law_due" = some (some (.ref f49)))    (l49:K.lookup f49=some ⟨QX,Qq,.func (W.fnOf "_law_due" "_law_due" (aR (ag 49)) (ak (ag 49)) (aa (ag 49)) .none RM Sv PJ TZ KR Ta),Oq⟩) (c49:W.codeIn K KR "_law_due" = true) (k49:W.keepIn K (.ref f49)=true)
  (a48:W.nsIn K mainGlobals "_law_spoilt" = some (some (.ref f48)))    (l48:K.lookup f48=some ⟨QY,Qr,.func (W.fnOf "_law_spoilt" "_law_spoilt" (aR (ag 48)) (ak (ag 48)) (aa (ag 48)) .none RN Sw PK T0 KS Tc),Os⟩) (c48:W.codeIn K KS "_law_spoilt" = true) (k48:W.keepIn K (.ref f48)=true)
  (a30:W.nsIn K mainGlobals "shared_by" = some (some (.ref f30)))    (l30:K.lookup f30=some ⟨Rj,QG,.func (W.fnOf "shared_by" "shared_by" (aR (ag 30)) (ak (ag 30)) (aa (ag 30)) .none R6 SO P6 Uj La Tu),OJ⟩) (c30:W.codeIn K La "shared_by" = true) (k30:W.keepIn K (.ref f30)=true)
  (a29:W.nsIn K mainGlobals "common_divisor" = some (some (.ref f29)))    (l29:K.lookup f29=some ⟨Rk,QH,.func (W.fnOf "common_divisor" "common_divisor" (aR (ag 29)) (ak (ag 29)) (aa (ag 29)) .none R7 SQ P7 Uk Lb Tv),OK⟩) (c29:W.codeIn K Lb "common_divisor" = true) (k29:W.keepIn K (.ref f29)=true)
  (a8:W.nsIn K mainGlobals "is_whole" = some (some (.ref f8)))    (l8:K.lookup f8=some ⟨oc8,od8,.func (W.fnOf "is_whole" "is_whole" (aR (ag 8)) (ak (ag 8)) (aa (ag 8)) .none kV8 dc8 pm8 an8 cd8 ct8),sl8⟩) (c8:W.codeIn K cd8 "is_whole" = true) (k8:W.keepIn K (.ref f8)=true)
  (a9:W.nsIn K mainGlobals "is_four" = some (some (.ref f9)))    (l9:K.lookup f9=some ⟨oc9,od9,.func (W.fnOf "is_four" "is_four" (aR (ag 9)) (ak (ag 9)) (aa (ag 9)) .none kV9 dc9 pm9 an9 cd9 ct9),sl9⟩) (c9:W.codeIn K cd9 "is_four" = true) (k9:W.keepIn K (.ref f9)=true)
  (a32:W.nsIn K mainGlobals "whole_divisor" = some (some (.ref f32)))    (l32:K.lookup f32=some ⟨Ri,QF,.func (W.fnOf "whole_divisor" "whole_divisor" (aR (ag 32)) (ak (ag 32)) (aa (ag 32)) .none R5 SN P5 Ui K9 Tt),OI⟩) (c32:W.codeIn K K9 "whole_divisor" = true) (k32:W.keepIn K (.ref f32)=true)
  (a34:W.nsIn K mainGlobals "order_fault" = some (some (.ref f34)))    (l34:K.lookup f34=some ⟨Rg,QD,.func (W.fnOf "order_fault" "order_fault" (aR (ag 34)) (ak (ag 34)) (aa (ag 34)) .none R0 SL P0 Ug K7 Tr),OG⟩) (c34:W.codeIn K K7 "order_fault" = true) (k34:W.keepIn K (.ref f34)=true)
  (a17:W.nsIn K mainGlobals "size" = some (some (.ref f17)))    (l17:K.lookup f17=some ⟨Ry,QP,.func (W.fnOf "size" "size" (aR (ag 17)) (ak (ag 17)) (aa (ag 17)) .none Sf SY Qg Ut Lj TH),OS⟩) (c17:W.codeIn K Lj "size" = true) (k17:W.keepIn K (.ref f17)=true)
  (a21:W.nsIn K mainGlobals "refuse_no_side" = some (some (.ref f21)))    (hZ:K.lookup f21=some ⟨Ru,QM,.func (W.fnOf "refuse_no_side" "refuse_no_side" (aR (ag 21)) (ak (ag 21)) (aa (ag 21)) .none Sc SV Qc Uq Lg TB),OP⟩) (c21:W.codeIn K Lg "refuse_no_side" = true) (k21:W.keepIn K (.ref f21)=true)
  (a10:W.nsIn K mainGlobals "less" = some (some (.ref f10)))    (l10:K.lookup f10=some ⟨RE,QU,.func (W.fnOf "less" "less" (aR (ag 10)) (ak (ag 10)) (aa (ag 10)) .none Sk S7 Ql Uy Lo TQ),OX⟩) (c10:W.codeIn K Lo "less" = true) (k10:W.keepIn K (.ref f10)=true)
  (a11:W.nsIn K mainGlobals "many_times" = some (some (.ref f11)))    (l11:K.lookup f11=some ⟨RD,QT,.func (W.fnOf "many_times" "many_times" (aR (ag 11)) (ak (ag 11)) (aa (ag 11)) .none Sj S6 Qk Ux Ln TN),OW⟩) (c11:W.codeIn K Ln "many_times" = true) (k11:W.keepIn K (.ref f11)=true)
  (a24:W.nsIn K mainGlobals "strayed" = some (some (.ref f24)))    (l24:K.lookup f24=some ⟨Rm,QJ,.func (W.fnOf "strayed" "strayed" (aR (ag 24)) (ak (ag 24)) (aa (ag 24)) .none R9 SS P9 Um Ld Tx),OM⟩) (c24:W.codeIn K Ld "strayed" = true) (k24:W.keepIn K (.ref f24)=true)
  (a23:W.nsIn K mainGlobals "nearest" = some (some (.ref f23)))    (l23:K.lookup f23=some ⟨Ro,QK,.func (W.fnOf "nearest" "nearest" (aR (ag 23)) (ak (ag 23)) (aa (ag 23)) .none Sa ST Qa Uo Le Ty),ON⟩) (c23:W.codeIn K Le "nearest" = true) (k23:W.keepIn K (.ref f23)=true)
  (a14:W.nsIn K mainGlobals "plain_product" = some (some (.ref f14)))    (l14:K.lookup f14=some ⟨RC,QS,.func (W.fnOf "plain_product" "plain_product" (aR (ag 14)) (ak (ag 14)) (aa (ag 14)) .none Si S5 Qj Uw Lm TM),OV⟩) (c14:W.codeIn K Lm "plain_product" = true) (k14:W.keepIn K (.ref f14)=true)
  (a15:W.nsIn K mainGlobals "product" = some (some (.ref f15)))    (l15:K.lookup f15=some ⟨RB,QR,.func (W.fnOf "product" "product" (aR (ag 15)) (ak (ag 15)) (aa (ag 15)) .none Sh S4 Qi Uv Ll TK),OU⟩) (c15:W.codeIn K Ll "product" = true) (k15:W.keepIn K (.ref f15)=true)
  (a22:W.nsIn K mainGlobals "beside" = some (some (.ref f22)))    (l22:K.lookup f22=some ⟨Rr,QL,.func (W.fnOf "beside" "beside" (aR (ag 22)) (ak (ag 22)) (aa (ag 22)) .none Sb SU Qb Up Lf Tz),OO⟩) (c22:W.codeIn K Lf "beside" = true) (k22:W.keepIn K (.ref f22)=true)
  (a16:W.nsIn K mainGlobals "other_signed" = some (some (.ref f16)))    (l16:K.lookup f16=some ⟨RA,QQ,.func (W.fnOf "other_signed" "other_signed" (aR (ag 16)) (ak (ag 16)) (aa (ag 16)) .none Sg SZ Qh Uu Lk TJ),OT⟩) (c16:W.codeIn K Lk "other_signed" = true) (k16:W.keepIn K (.ref f16)=true)
  (a19:W.nsIn K mainGlobals "divided" = some (some (.ref f19)))    (l19:K.lookup f19=some ⟨Rx,QO,.func (W.fnOf "divided" "divided" (aR (ag 19)) (ak (ag 19)) (aa (ag 19)) .none Se SX Qf Us Li TF),OR⟩) (c19:W.codeIn K Li "divided" = true) (k19:W.keepIn K (.ref f19)=true)
  (a20:W.nsIn K mainGlobals "exact" = some (some (.ref f20)))    (l20:K.lookup f20=some ⟨Rv,QN,.func (W.fnOf "exact" "exact" (aR (ag 20)) (ak (ag 20)) (aa (ag 20)) .none Sd SW Qe Ur Lh TC),OQ⟩) (c20:W.codeIn K Lh "exact" = true) (k20:W.keepIn K (.ref f20)=true)
  (a26:W.nsIn K mainGlobals "greatest" = some (some (.ref f26)))    (l26:K.lookup f26=some ⟨Rl,QI,.func (W.fnOf "greatest" "greatest" (aR (ag 26)) (ak (ag 26)) (aa (ag 26)) .none R8 SR P8 Ul Lc Tw),OL⟩) (c26:W.codeIn K Lc "greatest" = true) (k26:W.keepIn K (.ref f26)=true)
  (a33:W.nsIn K mainGlobals "taken_apart" = some (some (.ref f33)))    (l33:K.lookup f33=some ⟨Rh,QE,.func (W.fnOf "taken_apart" "taken_apart" (aR (ag 33)) (ak (ag 33)) (aa (ag 33)) .none R4 SM P4 Uh K8 Ts),OH⟩) (c33:W.codeIn K K8 "taken_apart" = true) (k33:W.keepIn K (.ref f33)=true)
  (a37:W.nsIn K mainGlobals "_law_whole" = some (some (.ref f37)))    (l37:K.lookup f37=some ⟨Rb,QB,.func (W.fnOf "_law_whole" "_law_whole" (aR (ag 37)) (ak (ag 37)) (aa (ag 37)) .none RY SJ PY Ue K5 Tp),OE⟩) (c37:W.codeIn K K5 "_law_whole" = true) (k37:W.keepIn K (.ref f37)=true)
  (a38:W.nsIn K mainGlobals "_law_is_four" = some (some (.ref f38)))    (l38:K.lookup f38=some ⟨Ra,QA,.func (W.fnOf "_law_is_four" "_law_is_four" (aR (ag 38)) (ak (ag 38)) (aa (ag 38)) .none RX SI PX Ud K3 To),OC⟩) (c38:W.codeIn K K3 "_law_is_four" = true) (k38:W.keepIn K (.ref f38)=true)
  (a46:W.nsIn K mainGlobals "_law_telling_well" = some (some (.ref f46)))    (l46:K.lookup f46=some ⟨Q0,Qt,.func (W.fnOf "_law_telling_well" "_law_telling_well" (aR (ag 46)) (ak (ag 46)) (aa (ag 46)) .none RP Sy PM T5 KU Tg),Ou⟩) (c46:W.codeIn K KU "_law_telling_well" = true) (k46:W.keepIn K (.ref f46)=true)
  (a50:W.nsIn K mainGlobals "_law_word" = some (some (.ref f50)))    (l50:K.lookup f50=some ⟨QW,Qp,.func (W.fnOf "_law_word" "_law_word" (aR (ag 50)) (ak (ag 50)) (aa (ag 50)) .none RL Su PH TY KQ S9),Op⟩) (c50:W.codeIn K KQ "_law_word" = true) (k50:W.keepIn K (.ref f50)=true)
  (a51:W.nsIn K mainGlobals "law" = some (some (.ref f51)))    (l51:K.lookup f51=some ⟨QV,Qo,.func (W.fnOf "law" "law" (aR (ag 51)) (ak (ag 51)) (aa (ag 51)) .none JO KG IS Ly Ds KJ),Oo⟩) (c51:W.codeIn K Ds "law" = true) (k51:W.keepIn K (.ref f51)=true)
  (C2:K.lookup rL=some ⟨M0,MY,.func (W.fnOf "__init__" "Divided.__init__" (aR (fH (ag 5) 0)) (ak (fH (ag 5) 0)) (aa (fH (ag 5) 0)) .none M9 Ny MP NG ES NB),Mz⟩) (TR:W.codeIn K ES "Divided.__init__" = true) (Sl:W.keepIn K (.ref rL)=true)
  (C3:K.lookup rM=some ⟨M1,MZ,.func (W.fnOf "__init__" "NoOrder.__init__" (aR (fH (ag 4) 0)) (ak (fH (ag 4) 0)) (aa (fH (ag 4) 0)) .none Nc Nz MQ NH ET NC),MA⟩) (TU:W.codeIn K ET "NoOrder.__init__" = true) (Sm:W.keepIn K (.ref rM)=true)
  {dP:Addr} (sJ:W.nsIn K mainGlobals "NoSide" = some (some (.ref dP)))
  {c7:Addr} (jy:W.nsIn K mainGlobals "Nought" = some (some (.ref c7)))
  {bA:Addr} (dG:W.nsIn K mainGlobals "SpaceError" = some (some (.ref bA)))
  (yj:pX K "Divided" bV=true) (y9:vD K bV=true)
  (yi:pX K "NoOrder" bU=true) (y8:vD K bU=true)
  (Aj:pX K "Nought" c7=true) (By:vD K c7=true)
  (xs0:W.specialIn K (.builtin "object.__class__") "__get__" = some (some (.builtin "getset_descriptor.__get__"))) (xt0:W.takesIn K (.builtin "object.__class__")=some true)
  (pQ:iq K bV bA=true) (x9:W.findIn K (.ref bV) "__getattribute__" = some (some (.builtin "BaseException.__getattribute__"))) (x6:W.findIn K (.ref bV) "__getattr__" = some none) (xZ:W.findIn K (.ref bV) "__class__" = some (some (.builtin "object.__class__"))) (xX:W.mroIn K bV (.type "object")=some true) (xV:W.exmOne K (.ref bV) (.ref bA)=some true) (xT:eZ K bV=some (.ref rL))
  (xR:W.keepIn K (.ref bV)=true) (pN:W.hasDictIn K bV=true) (xP:W.findIn K (.ref bV) "__setattr__" = some (some (.builtin "object.__setattr__"))) (pL:W.findIn K (.ref bV) "by" = some none) (xN:W.isFn K (.ref rL)=true)
  (pP:iq K bU bA=true) (x8:W.findIn K (.ref bU) "__getattribute__" = some (some (.builtin "BaseException.__getattribute__"))) (x5:W.findIn K (.ref bU) "__getattr__" = some none) (xY:W.findIn K (.ref bU) "__class__" = some (some (.builtin "object.__class__"))) (xW:W.mroIn K bU (.type "object")=some true) (xU:W.exmOne K (.ref bU) (.ref bA)=some true) (xS:eZ K bU=some (.ref rM))
  (xQ:W.keepIn K (.ref bU)=true) (pM:W.hasDictIn K bU=true) (xO:W.findIn K (.ref bU) "__setattr__" = some (some (.builtin "object.__setattr__"))) (pK:W.findIn K (.ref bU) "at" = some none) (xM:W.isFn K (.ref rM)=true)
  (zT:iq K dP bA=true) (zR:W.findIn K (.ref dP) "__getattribute__" = some (some (.builtin "BaseException.__getattribute__"))) (zO:W.findIn K (.ref dP) "__getattr__" = some none) (zM:W.findIn K (.ref dP) "__class__" = some (some (.builtin "object.__class__"))) (zK:W.mroIn K dP (.type "object")=some true) (zI:W.exmOne K (.ref dP) (.ref bA)=some true) (zG:eZ K dP=none)
  (zS:iq K c7 bA=true) (zP:W.findIn K (.ref c7) "__getattribute__" = some (some (.builtin "BaseException.__getattribute__"))) (zN:W.findIn K (.ref c7) "__getattr__" = some none) (zL:W.findIn K (.ref c7) "__class__" = some (some (.builtin "object.__class__"))) (zJ:W.mroIn K c7 (.type "object")=some true) (zH:W.exmOne K (.ref c7) (.ref bA)=some true) (zE:eZ K c7=none)
  (lr:W.specialIn K (.ref bA) "__getattribute__" = some (some (.builtin "type.__getattribute__"))) (lj:W.readsIn K bA (.type "type")=true) (lu:W.findCls K (.ref bA) (.type "type") "__init__" = some (.val (.builtin "ValueError.__init__")))
  {ca1:Addr} {dd1:Option Addr} {ss1:Array (Option Value)} {nn1:Nat} {Mh Mg Mf Me:Tok} (g1:W.nsIn K mainGlobals "NOUGHT" = some (some (.ref ca1))) (m1:K.lookup ca1=some ⟨.type "tuple", dd1,.seq #[.int (0) Mh,.int (0) Mg,.int (0) Mf,.int (0) Me] nn1,ss1⟩)
  {ca4:Addr} {dd4:Option Addr} {ss4:Array (Option Value)} {nn4:Nat} {Md Mc Mb Ma:Tok} (g4:W.nsIn K mainGlobals "ONE" = some (some (.ref ca4))) (m4:K.lookup ca4=some ⟨.type "tuple", dd4,.seq #[.int (2) Md,.int (0) Mc,.int (0) Mb,.int (0) Ma] nn4,ss4⟩)
  {ca5:Addr} {dd5:Option Addr} {ss5:Array (Option Value)} {nn5:Nat} {L9 L8 L7 L6 L5 L4 L3 L1 L0 LZ HW HV HU HS HR HQ HP HN HM HL HK HJ HI HH HG:Tok} (g5:W.nsIn K mainGlobals "PRIMES" = some (some (.ref ca5))) (m5:K.lookup ca5=some ⟨.type "tuple", dd5,.seq #[.int (2) L9,.int (3) L8,.int (5) L7,.int (7) L6,.int (11) L5,.int (13) L4,.int (17) L3,.int (19) L1,.int (23) L0,.int (29) LZ,.int (31) HW,.int (37) HV,.int (41) HU,.int (43) HS,.int (47) HR,.int (53) HQ,.int (59) HP,.int (61) HN,.int (67) HM,.int (71) HL,.int (73) HK,.int (79) HJ,.int (83) HI,.int (89) HH,.int (97) HG] nn5,ss5⟩)
  (z0:W.nsIn K mainGlobals "len" = some none)    (z1:W.nsIn K mainGlobals "tuple" = some none)    (z2:W.nsIn K mainGlobals "list" = some none)    (z3:W.nsIn K mainGlobals "abs" = some none)    (z4:W.nsIn K mainGlobals "all" = some none)    (z5:W.nsIn K mainGlobals "sum" = some none)    (z6:W.nsIn K mainGlobals "isinstance" = some none)    (z7:W.nsIn K mainGlobals "set" = some none)    (z8:W.nsIn K mainGlobals "int" = some none)    (z9:W.nsIn K mainGlobals "bool" = some none)    (z10:W.nsIn K mainGlobals "str" = some none)    (z11:W.nsIn K mainGlobals "range" = some none)    (z12:W.nsIn K mainGlobals "zip" = some none)    (z13:W.nsIn K mainGlobals "enumerate" = some none)    (z14:W.nsIn K mainGlobals "any" = some none)    (z15:W.nsIn K mainGlobals "sorted" = some none)    (z16:W.nsIn K mainGlobals "min" = some none)    (z17:W.nsIn K mainGlobals "max" = some none)    (z18:W.nsIn K mainGlobals "reversed" = some none)    (z19:W.nsIn K mainGlobals "ValueError" = some none) :
  ∃fd:FuncData,(∀(s:Shared) (v:Value),BindsTo s fd ⟨[v],[]⟩ [("_law_script", v)])/\∀base:Heap,K.In base->base.Ns mainGlobals mg->bT l.prog w K mg base dS 9 fa fd ["_law_script"] (lv K qS):=by
 have e:=hfa.symm.trans (Vr X G a51)
 cases e
 have hbl:∀n∈jb,mg n=none:=am (Pr:=fun n=>mg n=none) (VN X G z0) (am (Pr:=fun n=>mg n=none) (VN X G z1) (am (Pr:=fun n=>mg n=none) (VN X G z2) (am (Pr:=fun n=>mg n=none) (VN X G z3) (am (Pr:=fun n=>mg n=none) (VN X G z4) (am (Pr:=fun n=>mg n=none) (VN X G z5) (am (Pr:=fun n=>mg n=none) (VN X G z6) (am (Pr:=fun n=>mg n=none) (VN X G z7) (am (Pr:=fun n=>mg n=none) (VN X G z8) (am (Pr:=fun n=>mg n=none) (VN X G z9) (am (Pr:=fun n=>mg n=none) (VN X G z10) (am (Pr:=fun n=>mg n=none) (VN X G z11) (am (Pr:=fun n=>mg n=none) (VN X G z12) (am (Pr:=fun n=>mg n=none) (VN X G z13) (am (Pr:=fun n=>mg n=none) (VN X G z14) (am (Pr:=fun n=>mg n=none) (VN X G z15) (am (Pr:=fun n=>mg n=none) (VN X G z16) (am (Pr:=fun n=>mg n=none) (VN X G z17) (am (Pr:=fun n=>mg n=none) (VN X G z18) (am (Pr:=fun n=>mg n=none) (VN X G z19) (aw))))))))))))))))))))
 have hmg:∀n C,W.nsIn K mainGlobals n=some (some (.ref C))->mg n=some (.ref C):=fun n C h=>Vr X G h
 have hEx:zB K EX:=GO (am (Pr:=BU K) (⟨bV,bA,iG,dG,⟨pQ,x9,x6,xZ,xs0,xt0,xX⟩,xV,fun _ z=>by cases z;exact⟨pL,pN⟩⟩) (am (Pr:=BU K) (⟨bU,bA,iF,dG,⟨pP,x8,x5,xY,xs0,xt0,xW⟩,xU,fun _ z=>by cases z;exact⟨pK,pM⟩⟩) (am (Pr:=BU K) (⟨dP,bA,sJ,dG,⟨zT,zR,zO,zM,xs0,xt0,zK⟩,zI,fun _ z=>by cases z⟩) (am (Pr:=BU K) (⟨c7,bA,jy,dG,⟨zS,zP,zN,zL,xs0,xt0,zJ⟩,zH,fun _ z=>by cases z⟩) (aw)))))
 have F36:=bj (st:=(ag 36)) l36 c36 k36
 have b36:=F36.binds (ps:=["_law_script", "_law_k"]) fun _ _ _ _ _ _ us hl=>by obtain⟨x0,x1,rfl⟩:=fz hl;rfl
 have F42:=bj (st:=(ag 42)) l42 c42 k42
 have b42:=F42.binds (ps:=[]) fun _ _ _ _ _ _ us hl=>by cases RJ hl;rfl
 have F43:=bj (st:=(ag 43)) l43 c43 k43
 have b43:=F43.binds (ps:=["_law_n"]) fun _ _ _ _ _ _ us hl=>by obtain⟨x0,rfl⟩:=fZ hl;rfl
 have F40:=bj (st:=(ag 40)) l40 c40 k40
 have b40:=F40.binds (ps:=["_law_one", "_law_other"]) fun _ _ _ _ _ _ us hl=>by obtain⟨x0,x1,rfl⟩:=fz hl;rfl
 have F44:=bj (st:=(ag 44)) l44 c44 k44
 have b44:=F44.binds (ps:=["_law_script", "_law_begin", "_law_many"]) fun _ _ _ _ _ _ us hl=>by obtain⟨x0,x1,x2,rfl⟩:=oZ hl;rfl
 have F47:=bj (st:=(ag 47)) l47 c47 k47
 have b47:=F47.binds (ps:=["_law_things", "_law_cell_here"]) fun _ _ _ _ _ _ us hl=>by obtain⟨x0,x1,rfl⟩:=fz hl;rfl
 have F45:=bj (st:=(ag 45)) l45 c45 k45
 have b45:=F45.binds (ps:=["_law_four"]) fun _ _ _ _ _ _ us hl=>by obtain⟨x0,rfl⟩:=fZ hl;rfl
 have F39:=bj (st:=(ag 39)) l39 c39 k39
 have b39:=F39.binds (ps:=["_law_four"]) fun _ _ _ _ _ _ us hl=>by obtain⟨x0,rfl⟩:=fZ hl;rfl
 have F49:=bj (st:=(ag 49)) l49 c49 k49
 have b49:=F49.binds (ps:=["_law_four", "_law_order"]) fun _ _ _ _ _ _ us hl=>by obtain⟨x0,x1,rfl⟩:=fz hl;rfl
 have F48:=bj (st:=(ag 48)) l48 c48 k48
 have b48:=F48.binds (ps:=["_law_order", "_law_cell_here"]) fun _ _ _ _ _ _ us hl=>by obtain⟨x0,x1,rfl⟩:=fz hl;rfl
 have F30:=bj (st:=(ag 30)) l30 c30 k30
 have b30:=F30.binds (ps:=["one", "other"]) fun _ _ _ _ _ _ us hl=>by obtain⟨x0,x1,rfl⟩:=fz hl;rfl
 have F29:=bj (st:=(ag 29)) l29 c29 k29
 have b29:=F29.binds (ps:=["numbers"]) fun _ _ _ _ _ _ us hl=>by obtain⟨x0,rfl⟩:=fZ hl;rfl
 have F8:=bj (st:=(ag 8)) l8 c8 k8
 have b8:=F8.binds (ps:=["thing"]) fun _ _ _ _ _ _ us hl=>by obtain⟨x0,rfl⟩:=fZ hl;rfl
 have F9:=bj (st:=(ag 9)) l9 c9 k9
 have b9:=F9.binds (ps:=["thing"]) fun _ _ _ _ _ _ us hl=>by obtain⟨x0,rfl⟩:=fZ hl;rfl
 have F32:=bj (st:=(ag 32)) l32 c32 k32
 have b32:=F32.binds (ps:=["four"]) fun _ _ _ _ _ _ us hl=>by obtain⟨x0,rfl⟩:=fZ hl;rfl
 have F34:=bj (st:=(ag 34)) l34 c34 k34
 have b34:=F34.binds (ps:=["order", "whole"]) fun _ _ _ _ _ _ us hl=>by obtain⟨x0,x1,rfl⟩:=fz hl;rfl
 have F17:=bj (st:=(ag 17)) l17 c17 k17
 have b17:=F17.binds (ps:=["four"]) fun _ _ _ _ _ _ us hl=>by obtain⟨x0,rfl⟩:=fZ hl;rfl
 have F21:=bj (st:=(ag 21)) hZ c21 k21
 have b21:=F21.binds (ps:=["side"]) fun _ _ _ _ _ _ us hl=>by obtain⟨x0,rfl⟩:=fZ hl;rfl
 have F10:=bj (st:=(ag 10)) l10 c10 k10
 have b10:=F10.binds (ps:=["one", "other"]) fun _ _ _ _ _ _ us hl=>by obtain⟨x0,x1,rfl⟩:=fz hl;rfl
 have F11:=bj (st:=(ag 11)) l11 c11 k11
 have b11:=F11.binds (ps:=["one", "number"]) fun _ _ _ _ _ _ us hl=>by obtain⟨x0,x1,rfl⟩:=fz hl;rfl
 have F24:=bj (st:=(ag 24)) l24 c24 k24
 have b24:=F24.binds (ps:=["four", "tried", "number"]) fun _ _ _ _ _ _ us hl=>by obtain⟨x0,x1,x2,rfl⟩:=oZ hl;rfl
 have F23:=bj (st:=(ag 23)) l23 c23 k23
 have b23:=F23.binds (ps:=["four", "number"]) fun _ _ _ _ _ _ us hl=>by obtain⟨x0,x1,rfl⟩:=fz hl;rfl
 have F14:=bj (st:=(ag 14)) l14 c14 k14
 have b14:=F14.binds (ps:=["one", "other"]) fun _ _ _ _ _ _ us hl=>by obtain⟨x0,x1,rfl⟩:=fz hl;rfl
 have F15:=bj (st:=(ag 15)) l15 c15 k15
 have b15:=F15.binds (ps:=["one", "other"]) fun _ _ _ _ _ _ us hl=>by obtain⟨x0,x1,rfl⟩:=fz hl;rfl
 have F22:=bj (st:=(ag 22)) l22 c22 k22
 have b22:=F22.binds (ps:=["one", "other", "side"]) fun _ _ _ _ _ _ us hl=>by obtain⟨x0,x1,x2,rfl⟩:=oZ hl;rfl
 have F16:=bj (st:=(ag 16)) l16 c16 k16
 have b16:=F16.binds (ps:=["four"]) fun _ _ _ _ _ _ us hl=>by obtain⟨x0,rfl⟩:=fZ hl;rfl
 have F19:=bj (st:=(ag 19)) l19 c19 k19
 have b19:=F19.binds (ps:=["one", "other", "side"]) fun _ _ _ _ _ _ us hl=>by obtain⟨x0,x1,x2,rfl⟩:=oZ hl;rfl
 have F20:=bj (st:=(ag 20)) l20 c20 k20
 have b20:=F20.binds (ps:=["one", "other", "side"]) fun _ _ _ _ _ _ us hl=>by obtain⟨x0,x1,x2,rfl⟩:=oZ hl;rfl
 have F26:=bj (st:=(ag 26)) l26 c26 k26
 have b26:=F26.binds (ps:=["one", "other", "side"]) fun _ _ _ _ _ _ us hl=>by obtain⟨x0,x1,x2,rfl⟩:=oZ hl;rfl
 have F33:=bj (st:=(ag 33)) l33 c33 k33
 have b33:=F33.binds (ps:=["four", "order"]) fun _ _ _ _ _ _ us hl=>by obtain⟨x0,x1,rfl⟩:=fz hl;rfl
 have F37:=bj (st:=(ag 37)) l37 c37 k37
 have b37:=F37.binds (ps:=["_law_x"]) fun _ _ _ _ _ _ us hl=>by obtain⟨x0,rfl⟩:=fZ hl;rfl
 have F38:=bj (st:=(ag 38)) l38 c38 k38
 have b38:=F38.binds (ps:=["_law_thing"]) fun _ _ _ _ _ _ us hl=>by obtain⟨x0,rfl⟩:=fZ hl;rfl
 have F46:=bj (st:=(ag 46)) l46 c46 k46
 have b46:=F46.binds (ps:=["_law_telling", "_law_primes", "_law_four"]) fun _ _ _ _ _ _ us hl=>by obtain⟨x0,x1,x2,rfl⟩:=oZ hl;rfl
 have F50:=bj (st:=(ag 50)) l50 c50 k50
 have b50:=F50.binds (ps:=["_law_error"]) fun _ _ _ _ _ _ us hl=>by obtain⟨x0,rfl⟩:=fZ hl;rfl
 have F51:=bj (st:=(ag 51)) l51 c51 k51
 have LR:=bj (st:=(fH (ag 5) 0)) C2 TR Sl
 have TV:=LR.binds (ps:=["self", "by"]) fun _ _ _ _ _ _ us hl=>by obtain⟨x0,x1,rfl⟩:=fz hl;rfl
 have LS:=bj (st:=(fH (ag 4) 0)) C3 TU Sm
 have TW:=LS.binds (ps:=["self", "at"]) fun _ _ _ _ _ _ us hl=>by obtain⟨x0,x1,rfl⟩:=fz hl;rfl
 have hEI:∀base k,2<=k->LT l.prog w K mg base k EX:=fun base k hk=>Kh (am (Pr:=BT l.prog w K mg base k) (⟨bV,iG,(fun z=>by cases z),fun _ z=>by cases z;exact⟨1,rL,_,_,["self", "by"],hk,xT,C2,Bh xN C2,xR,tO LR rfl MB ⟨rfl,rfl⟩ ⟨by decide,by decide⟩ rfl (Vr X G dG) lr lj lu pQ pN xP pL rfl (by decide) rfl (by decide),TV⟩⟩) (am (Pr:=BT l.prog w K mg base k) (⟨bU,iF,(fun z=>by cases z),fun _ z=>by cases z;exact⟨1,rM,_,_,["self", "at"],hk,xS,C3,Bh xM C3,xQ,tO LS rfl MC ⟨rfl,rfl⟩ ⟨by decide,by decide⟩ rfl (Vr X G dG) lr lj lu pP pM xO pK rfl (by decide) rfl (by decide),TW⟩⟩) (am (Pr:=BT l.prog w K mg base k) (⟨dP,sJ,fun _=>zG,fun _ z=>by cases z⟩) (am (Pr:=BT l.prog w K mg base k) (⟨c7,jy,fun _=>zE,fun _ z=>by cases z⟩) (aw)))))
 refine⟨W.fnOf "law" "law" (aR (ag 51)) (ak (ag 51)) (aa (ag 51)) .none JO KG IS Ly Ds KJ,fun s v=>.of_eq rfl,fun base _ _=>?_⟩
 have D36:cI l.prog w K mg base 3 "_law_cell" kY:=bC F36 Pi (Vr X G a36) b36 (by decide) (be (aw) (aw) bz bx bw bv aI hbl) wn
 have D42:cI l.prog w K mg base 3 "_law_units" ng:=bC F42 Pc (Vr X G a42) b42 (by decide) (be (aw) (aw) bz bx bw bv aI hbl) eJ.self
 have D43:cI l.prog w K mg base 3 "_law_fours" nh:=bC F43 Pb (Vr X G a43) b43 (by decide) (be (aw) (aw) bz bx bw bv aI hbl) eJ.self
 have D40:cI l.prog w K mg base 3 "_law_times" jB:=bC F40 Pd (Vr X G a40) b40 (by decide) (be (aw) (aw) bz bx bw bv aI hbl) vW
 have D44:cI l.prog w K mg base 4 "_law_built" ni:=bC F44 Pa (Vr X G a44) b44 (by decide) (be (cL D42 (cL D36 (cL D43 (cL D40 (aw))))) (aw) bz bx bw bv aI hbl) eJ.self
 have D47:cI l.prog w K mg base 3 "_law_shuffled" jh:=bC F47 O7 (Vr X G a47) b47 (by decide) (be (aw) (aw) bz bx bw bv aI hbl) eJ.self
 have D45:cI l.prog w K mg base 3 "_law_divisor" gY:=bC F45 O9 (Vr X G a45) b45 (by decide) (be (aw) (aw) bz bx bw bv aI hbl) eJ.self
 have D39:cI l.prog w K mg base 3 "_law_size" kX:=bC F39 Pf (Vr X G a39) b39 (by decide) (be (aw) (aw) bz bx bw bv aI hbl) wm
 have D49:cI l.prog w K mg base 4 "_law_due" se:=bC F49 O1 (Vr X G a49) b49 (by decide) (be (cL D45 (cL D39 (aw))) (aw) bz bx bw bv aI hbl) eJ.self
 have W48:qW l.prog w K mg base 3 "_law_spoilt" gk:=⟨_,_,["_law_order", "_law_cell_here"],GG F48 O6 (be (aw) (aw) bz bx bw bv aI hbl) sW,Vr X G a48,k48,b48,by decide⟩
 have D30:cI l.prog w K mg base 3 "shared_by" jJ:=bC F30 Pk (Vr X G a30) b30 (by decide) (be (aw) (aw) bz bx bw bv aI hbl) eJ.self
 have D29:cI l.prog w K mg base 4 "common_divisor" eI:=bC F29 Pl (Vr X G a29) b29 (by decide) (be (cL D30 (aw)) (aw) bz bx bw bv aI hbl) lI
 have D8:cI l.prog w K mg base 3 "is_whole" qT:=bC F8 UT (Vr X G a8) b8 (by decide) (be (aw) (aw) bz bx bw bv aI hbl) eJ.self
 have D9:cI l.prog w K mg base 4 "is_four" nj:=bC F9 US (Vr X G a9) b9 (by decide) (be (cL D8 (aw)) (aw) bz bx bw bv aI hbl) eJ.self
 have Q32:jj l.prog w K mg base 5 "whole_divisor" dM:=.inl ⟨_,_,["four"],jZ (Ex:=EX) F32 Iy (be (cL D29 (cL D9 (aw))) (am (Pr:=fq mg K) (dA (ns:=[0,0,0,0]) (Vr X G g1) m1 (show 4<=sizeLine by decide) (.cons ⟨_,rfl⟩ (.cons ⟨_,rfl⟩ (.cons ⟨_,rfl⟩ (.cons ⟨_,rfl⟩ (.nil)))))) (aw)) bz bx bw bv aI hbl) (iT (aw)) hmg (hEI _ _ (by decide)) mP,Vr X G a32,k32,b32,by decide⟩
 have D32:cI l.prog w K mg base 5 "whole_divisor" fc:=bC F32 Iy (Vr X G a32) b32 (by decide) (be (cL D29 (cL D9 (aw))) (am (Pr:=fq mg K) (dA (ns:=[0,0,0,0]) (Vr X G g1) m1 (show 4<=sizeLine by decide) (.cons ⟨_,rfl⟩ (.cons ⟨_,rfl⟩ (.cons ⟨_,rfl⟩ (.cons ⟨_,rfl⟩ (.nil)))))) (aw)) bz bx bw bv aI hbl) eJ.self
 have D34:cI l.prog w K mg base 3 "order_fault" fK:=bC F34 Pj (Vr X G a34) b34 (by decide) (be (aw) (am (Pr:=fq mg K) (dA (ns:=[2,3,5,7,11,13,17,19,23,29,31,37,41,43,47,53,59,61,67,71,73,79,83,89,97]) (Vr X G g5) m5 (show 25<=sizeLine by decide) (.cons ⟨_,rfl⟩ (.cons ⟨_,rfl⟩ (.cons ⟨_,rfl⟩ (.cons ⟨_,rfl⟩ (.cons ⟨_,rfl⟩ (.cons ⟨_,rfl⟩ (.cons ⟨_,rfl⟩ (.cons ⟨_,rfl⟩ (.cons ⟨_,rfl⟩ (.cons ⟨_,rfl⟩ (.cons ⟨_,rfl⟩ (.cons ⟨_,rfl⟩ (.cons ⟨_,rfl⟩ (.cons ⟨_,rfl⟩ (.cons ⟨_,rfl⟩ (.cons ⟨_,rfl⟩ (.cons ⟨_,rfl⟩ (.cons ⟨_,rfl⟩ (.cons ⟨_,rfl⟩ (.cons ⟨_,rfl⟩ (.cons ⟨_,rfl⟩ (.cons ⟨_,rfl⟩ (.cons ⟨_,rfl⟩ (.cons ⟨_,rfl⟩ (.cons ⟨_,rfl⟩ (.nil))))))))))))))))))))))))))) (aw)) bz bx bw bv aI hbl) eJ.self
 have D17:cI l.prog w K mg base 3 "size" mV:=bC F17 Pp (Vr X G a17) b17 (by decide) (be (aw) (aw) bz bx bw bv aI hbl) BW
 have Q21:jj l.prog w K mg base 3 "refuse_no_side" cP:=.inl ⟨_,_,["side"],jZ (Ex:=EX) F21 IA (be (aw) (aw) bz bx bw bv aI hbl) (iT (aw)) hmg (hEI _ _ (by decide)) lG,Vr X G a21,k21,b21,by decide⟩
 have D21:cI l.prog w K mg base 3 "refuse_no_side" eG:=bC F21 IA (Vr X G a21) b21 (by decide) (be (aw) (aw) bz bx bw bv aI hbl) lH
 have D10:cI l.prog w K mg base 3 "less" mZ:=bC F10 Pv (Vr X G a10) b10 (by decide) (be (aw) (aw) bz bx bw bv aI hbl) BX
 have D11:cI l.prog w K mg base 3 "many_times" jg:=bC F11 Pu (Vr X G a11) b11 (by decide) (be (aw) (aw) bz bx bw bv aI hbl) qQ
 have D24:cI l.prog w K mg base 4 "strayed" mU:=bC F24 Pm (Vr X G a24) b24 (by decide) (be (cL D17 (cL D10 (cL D11 (aw)))) (aw) bz bx bw bv aI hbl) vT
 have D23:cI l.prog w K mg base 5 "nearest" mY:=bC F23 Pn (Vr X G a23) b23 (by decide) (be (cL D24 (aw)) (aw) bz bx bw bv aI hbl) vV
 have D14:cI l.prog w K mg base 3 "plain_product" gj:=bC F14 Pt (Vr X G a14) b14 (by decide) (be (aw) (aw) bz bx bw bv aI hbl) mX
 have D15:cI l.prog w K mg base 4 "product" mW:=bC F15 Ps (Vr X G a15) b15 (by decide) (be (cL D14 (aw)) (aw) bz bx bw bv aI hbl) vU
 have D22:cI l.prog w K mg base 5 "beside" kZ:=bC F22 Po (Vr X G a22) b22 (by decide) (be (cL D15 (aw)) (aw) bz bx bw bv aI hbl) wo
 have D16:cI l.prog w K mg base 3 "other_signed" gL:=bC F16 Pq (Vr X G a16) b16 (by decide) (be (aw) (aw) bz bx bw bv aI hbl) oj
 have Q19:jj l.prog w K mg base 6 "divided" d9:=.inl ⟨_,_,["one", "other", "side"],jZ (Ex:=EX) F19 IC (be (cL D21 (cL D23 (cL D22 (cL D17 (cL D10 (cL D16 (aw))))))) (am (Pr:=fq mg K) (dA (ns:=[0,0,0,0]) (Vr X G g1) m1 (show 4<=sizeLine by decide) (.cons ⟨_,rfl⟩ (.cons ⟨_,rfl⟩ (.cons ⟨_,rfl⟩ (.cons ⟨_,rfl⟩ (.nil)))))) (aw)) bz bx bw bv aI hbl) (iT (am (Pr:=qX l.prog w K mg base 5) (Q21.mono (by decide)) (aw))) hmg (hEI _ _ (by decide)) vR,Vr X G a19,k19,b19,by decide⟩
 have D19:cI l.prog w K mg base 6 "divided" jC:=bC F19 IC (Vr X G a19) b19 (by decide) (be (cL D21 (cL D23 (cL D22 (cL D17 (cL D10 (cL D16 (aw))))))) (am (Pr:=fq mg K) (dA (ns:=[0,0,0,0]) (Vr X G g1) m1 (show 4<=sizeLine by decide) (.cons ⟨_,rfl⟩ (.cons ⟨_,rfl⟩ (.cons ⟨_,rfl⟩ (.cons ⟨_,rfl⟩ (.nil)))))) (aw)) bz bx bw bv aI hbl) vX
 have Q20:jj l.prog w K mg base 7 "exact" rY:=.inl ⟨_,_,["one", "other", "side"],jZ (Ex:=EX) F20 IB (be (cL D19 (aw)) (am (Pr:=fq mg K) (dA (ns:=[0,0,0,0]) (Vr X G g1) m1 (show 4<=sizeLine by decide) (.cons ⟨_,rfl⟩ (.cons ⟨_,rfl⟩ (.cons ⟨_,rfl⟩ (.cons ⟨_,rfl⟩ (.nil)))))) (aw)) bz bx bw bv aI hbl) (iT (am (Pr:=qX l.prog w K mg base 6) (Q19.mono (by decide)) (aw))) hmg (hEI _ _ (by decide)) zj,Vr X G a20,k20,b20,by decide⟩
 have D20:cI l.prog w K mg base 7 "exact" j9:=bC F20 IB (Vr X G a20) b20 (by decide) (be (cL D19 (aw)) (am (Pr:=fq mg K) (dA (ns:=[0,0,0,0]) (Vr X G g1) m1 (show 4<=sizeLine by decide) (.cons ⟨_,rfl⟩ (.cons ⟨_,rfl⟩ (.cons ⟨_,rfl⟩ (.cons ⟨_,rfl⟩ (.nil)))))) (aw)) bz bx bw bv aI hbl) zq
 have Q26:jj l.prog w K mg base 7 "greatest" iH:=.inl ⟨_,_,["one", "other", "side"],jZ (Ex:=EX) F26 Iz (be (cL D21 (cL D19 (cL D10 (cL D22 (aw))))) (am (Pr:=fq mg K) (dA (ns:=[2,0,0,0]) (Vr X G g4) m4 (show 4<=sizeLine by decide) (.cons ⟨_,rfl⟩ (.cons ⟨_,rfl⟩ (.cons ⟨_,rfl⟩ (.cons ⟨_,rfl⟩ (.nil)))))) (am (Pr:=fq mg K) (dA (ns:=[0,0,0,0]) (Vr X G g1) m1 (show 4<=sizeLine by decide) (.cons ⟨_,rfl⟩ (.cons ⟨_,rfl⟩ (.cons ⟨_,rfl⟩ (.cons ⟨_,rfl⟩ (.nil)))))) (aw))) bz bx bw bv aI hbl) (iT (am (Pr:=qX l.prog w K mg base 6) (Q21.mono (by decide)) (am (Pr:=qX l.prog w K mg base 6) (Q19.mono (by decide)) (aw)))) hmg (hEI _ _ (by decide)) sV,Vr X G a26,k26,b26,by decide⟩
 have D26:cI l.prog w K mg base 7 "greatest" iI:=bC F26 Iz (Vr X G a26) b26 (by decide) (be (cL D21 (cL D19 (cL D10 (cL D22 (aw))))) (am (Pr:=fq mg K) (dA (ns:=[2,0,0,0]) (Vr X G g4) m4 (show 4<=sizeLine by decide) (.cons ⟨_,rfl⟩ (.cons ⟨_,rfl⟩ (.cons ⟨_,rfl⟩ (.cons ⟨_,rfl⟩ (.nil)))))) (am (Pr:=fq mg K) (dA (ns:=[0,0,0,0]) (Vr X G g1) m1 (show 4<=sizeLine by decide) (.cons ⟨_,rfl⟩ (.cons ⟨_,rfl⟩ (.cons ⟨_,rfl⟩ (.cons ⟨_,rfl⟩ (.nil)))))) (aw))) bz bx bw bv aI hbl) sX
 have Q33:jj l.prog w K mg base 8 "taken_apart" fJ:=.inl ⟨_,_,["four", "order"],jZ (Ex:=EX) F33 Ix (be (cL D32 (cL D34 (cL D17 (cL D20 (cL D26 (aw)))))) (aw) bz bx bw bv aI hbl) (iT (am (Pr:=qX l.prog w K mg base 7) (Q32.mono (by decide)) (am (Pr:=qX l.prog w K mg base 7) (Q20.mono (by decide)) (am (Pr:=qX l.prog w K mg base 7) (Q26.mono (by decide)) (aw))))) hmg (hEI _ _ (by decide)) pA,Vr X G a33,k33,b33,by decide⟩
 have D33:cI l.prog w K mg base 8 "taken_apart" iz:=J9 (GE (pre:=(ak (ag 33)).take 7) (post:=(ak (ag 33)).drop 8) F33 Ix (be (cL D32 (cL D34 (cL D17 (cL D20 (cL D26 (aw)))))) (aw) bz bx bw bv aI hbl) rfl rfl rfl rfl rfl) (Vr X G a33) k33 b33 (by decide)
 have D37:cI l.prog w K mg base 3 "_law_whole" m9:=bC F37 Ph (Vr X G a37) b37 (by decide) (be (aw) (aw) bz bx bw bv aI hbl) eJ.self
 have D38:cI l.prog w K mg base 4 "_law_is_four" gX:=bC F38 Pg (Vr X G a38) b38 (by decide) (be (cL D37 (aw)) (aw) bz bx bw bv aI hbl) eJ.self
 have D46:cI l.prog w K mg base 5 "_law_telling_well" fQ:=bC F46 O8 (Vr X G a46) b46 (by decide) (be (cL D40 (cL D38 (cL D39 (aw)))) (aw) bz bx bw bv aI hbl) eJ.self
 have D50:cI l.prog w K mg base 4 "_law_word" gO:=bC F50 O0 (Vr X G a50) b50 (by decide) (be (cL D37 (aw)) (am (Pr:=fq mg K) (vB (Vr X G jy) jy (tP Aj By)) (am (Pr:=fq mg K) (vB (Vr X G iF) iF (tP yi y8)) (am (Pr:=fq mg K) (vB (Vr X G iG) iG (tP yj y9)) (aw)))) bz bx bw bv aI hbl) eJ.self
 exact GH (Ψ:=tE) (Ex:=EX) (Ω:=tF) F51 OZ (be (cL D36 (cL D44 (cL D47 (cL D49 (cL D33 (cL D46 (cL D50 (aw)))))))) (aw) bz bx bw bv aI hbl) (iT (am (Pr:=qX l.prog w K mg base 8) (Q33.mono (by decide)) (aw))) (Jq (am (Pr:=N5 l.prog w K mg base 8) (W48.mono (by decide)) (aw))) hmg hEx DP
theorem walkX{q:Program}{r:W.RowW}{d:DefRec}{kwd:List (Str×Expr)}{run:Value->List Value->Sem Value}{K:Params->W.Frag}{as:List Addr}{n t:Nat}
  (e:∀P,as=(K P).map (·.1)) (h:W.WalkO q loose XP (W.InK K) r d kwd run):W.WalkX q loose XP (W.X.obsZ as) (W.X.valZ K n t) r d kwd run :=
 fun w _ _ mg mb G y a o pm cd doc dV kV h1 h2 h3 h4 h5 h6 args vals as' L =>
  h w _ _ mg mb G (W.InK.keeps w _ _ (W.X.z_facts e y).2.1 L.keeps) a o pm cd doc dV kV h1 h2 h3 h4 h5 h6 args vals as'
theorem walk{q:Program}{YP:World->Heap->Prop}{d:DefRec}{K:Params->W.Frag}(hn:l.most=some 63)(hdf:d.params.defaults=[])
  (hY:∀(w:World) (h:Heap),YP w h->(K w.params).In h)
  (F:∀(w:World) (mg:Str->Option Value) (fa:Addr) (h:Heap),(K w.params).In h->h.Ns mainGlobals mg->mg d.name=some (.ref fa) ->
   ∃fd:FuncData,(∀(s:Shared) (u:Value),BindsTo s fd ⟨[u],[]⟩ [("_law_script", u)])/\∀base:Heap,(K w.params).In base->base.Ns mainGlobals mg->bT l.prog w (K w.params) mg base dS 9 fa fd ["_law_script"] (lv (K w.params) qS)) :
  W.WalkO q loose XP YP l.row.toRowW d [] (fun f vs=>PySem.call f vs) :=
 L2.walk_of (n:=63) (k:=9) (x := "_law_script") (CX:=fun _=>dS) (sp:=fun w=>lv (K w.params) qS) hn (by decide) hdf ⟨rfl,by decide,by decide⟩ hY F (fun _ _ a ns hl hO hS=>JY hO hS (CY ns hl)) fun _ _ _ _ _ z=>z
end K
namespace PySem.W.Fast
theorem tw12768520817609485506:True:=.intro
theorem tw3108550134240208874:True:=.intro
theorem tw16613085700996490958:True:=.intro
theorem tw9458428268617570102:True:=.intro
theorem tw1014670720613790664:True:=.intro
theorem tw6379815731878980458:True:=.intro
theorem tw12762951946829667286:True:=.intro
theorem tw8929011078948209268:True:=.intro
theorem tw2846200029601913275:True:=.intro
theorem tw17254138235998261063:True:=.intro
theorem tw13164782380584018924:True:=.intro
theorem tw18298612012215137416:True:=.intro
theorem tw4729685387244372450:True:=.intro
theorem tw4518718766866472025:True:=.intro
theorem tw16645932066624883483:True:=.intro
theorem tw8940425185543802013:True:=.intro
theorem tw1418009014737245239:True:=.intro
theorem tw14375314597165145922:True:=.intro
theorem tw17069999767721732731:True:=.intro
theorem tw12519433966826003115:True:=.intro
theorem tw8379373694203452795:True:=.intro
theorem tw16535094294816288589:True:=.intro
theorem tw10391007991163818475:True:=.intro
theorem tw3528776163420637404:True:=.intro
theorem tw7538088667615999230:True:=.intro
theorem tw14847491700062327376:True:=.intro
theorem tw12524542100281769343:True:=.intro
theorem tw12387844055709139202:True:=.intro
theorem tw14421083120630427918:True:=.intro
theorem tw8290000863098532663:True:=.intro
theorem tw18385328673683978255:True:=.intro
theorem tw4204599733685565617:True:=.intro
theorem tw11189070189350186319:True:=.intro
theorem tw8408668735149127972:True:=.intro
theorem tw1025048171550702222:True:=.intro
theorem tw1140952520399108883:True:=.intro
theorem tw1560392623569105009:True:=.intro
theorem tw520574822053111495:True:=.intro
theorem tw2206231914804629539:True:=.intro
theorem tw6827363240774447355:True:=.intro
theorem tw6573201715406708414:True:=.intro
theorem tw15189442444857237832:True:=.intro
theorem tw5244772321945345290:True:=.intro
theorem tw12490317257051576856:True:=.intro
theorem tw10612837139778400480:True:=.intro
theorem tw3780659030572217445:True:=.intro
theorem tw17817817615390959175:True:=.intro
theorem tw8808761855821948189:True:=.intro
theorem tw13471142587112126045:True:=.intro
theorem tw11796371024276936942:True:=.intro
theorem tw15801805814351904148:True:=.intro
theorem tw15539099159886259837:True:=.intro
theorem tw15743052452025278601:True:=.intro
theorem tw17623278046160779971:True:=.intro
theorem tw9830140354010341315:True:=.intro
theorem tw16848115791529629364:True:=.intro
theorem tw14939241107553614480:True:=.intro
theorem tw12999054000122576996:True:=.intro
theorem tw11319565329714343963:True:=.intro
theorem tw15567111662864448939:True:=.intro
theorem tw5551619342834001823:True:=.intro
theorem tw3578605037688495352:True:=.intro
theorem tw15888065526735500002:True:=.intro
theorem tw15335979141079698358:True:=.intro
theorem tw15555754508210101661:True:=.intro
theorem tw17909889709664969427:True:=.intro
theorem tw18116208495830155836:True:=.intro
theorem tw409716114462567876:True:=.intro
theorem tw9429696971217663142:True:=.intro
theorem tw10909473839505853110:True:=.intro
theorem tw12121910474835689818:True:=.intro
theorem tw11635835218734357383:True:=.intro
theorem tw11744498201561905877:True:=.intro
theorem tw13263710106746040301:True:=.intro
theorem tw1231562530462917753:True:=.intro
theorem tw13487574642468108871:True:=.intro
theorem tw1438045352471334797:True:=.intro
theorem tw1932909697162528824:True:=.intro
theorem tw1109005689747016141:True:=.intro
theorem tw3001882903932661562:True:=.intro
theorem tw3340862224505275312:True:=.intro
theorem tw16863161287800029847:True:=.intro
theorem tw15654274713100947996:True:=.intro
theorem tw4980115758049240733:True:=.intro
theorem tw14494680895958177302:True:=.intro
theorem tw10077279982714402432:True:=.intro
theorem tw4388390963056853693:True:=.intro
theorem tw10945444656935322408:True:=.intro
theorem tw10369627070960320168:True:=.intro
theorem tw3108103040949757700:True:=.intro
theorem tw17094304862860469766:True:=.intro
theorem tw10082995070856588794:True:=.intro
theorem tw1807344515732535622:True:=.intro
theorem tw14611810964214640022:True:=.intro
theorem tw7406267734932295875:True:=.intro
theorem tw14207470838500596097:True:=.intro
theorem tw14762708533566615071:True:=.intro
theorem tw155498796740815531:True:=.intro
theorem tw18308032244939843747:True:=.intro
theorem tw10055485834201329150:True:=.intro
theorem tw12176528747984464712:True:=.intro
theorem tw13591010984881164311:True:=.intro
theorem tw1886682341885320270:True:=.intro
theorem tw8712164965497133030:True:=.intro
theorem tw6885054061974054594:True:=.intro
theorem tw6297269779563423248:True:=.intro
theorem tw860477814734445593:True:=.intro
theorem tw16993651609109863887:True:=.intro
theorem tw707223857326388607:True:=.intro
theorem tw17752566641740860786:True:=.intro
theorem tw1190213433068998943:True:=.intro
theorem tw3492752403435795828:True:=.intro
theorem tw2808068256418308909:True:=.intro
theorem tw4713318634796098888:True:=.intro
theorem tw13132959973504790947:True:=.intro
theorem tw9577173716213607453:True:=.intro
theorem tw17210370057854442609:True:=.intro
theorem tw3968908859859047864:True:=.intro
theorem tw13458579234739203157:True:=.intro
theorem tw11940514351135244061:True:=.intro
theorem tw16340392714692394981:True:=.intro
theorem tw7479149478173523307:True:=.intro
theorem tw6929665404448657415:True:=.intro
theorem tw12333444070083320722:True:=.intro
theorem tw3092887289178391772:True:=.intro
theorem tw14416798075985929005:True:=.intro
theorem tw8224825682667283275:True:=.intro
theorem tw5102289348945656242:True:=.intro
theorem tw10232532825846486169:True:=.intro
theorem tw15824691961713910377:True:=.intro
theorem tw5537998476115293331:True:=.intro
theorem tw14147895876373378207:True:=.intro
theorem tw1507376751897898863:True:=.intro
theorem tw15067631542361236351:True:=.intro
theorem tw12205383881257540340:True:=.intro
theorem tw7281979445280731069:True:=.intro
theorem tw3067231526027868074:True:=.intro
theorem tw11670758372826055206:True:=.intro
theorem tw6573367173136261013:True:=.intro
theorem tw11997131267188049918:True:=.intro
theorem tw4892707500627648423:True:=.intro
theorem tw1539080349776005068:True:=.intro
theorem tw12606227999072061159:True:=.intro
theorem tw2102678406895884019:True:=.intro
theorem tw16981581298603598196:True:=.intro
theorem tw8809669279562483901:True:=.intro
theorem tw17284047053784657332:True:=.intro
theorem tw14986700869776562821:True:=.intro
theorem tw16486583817729725091:True:=.intro
theorem tw4741439829010504765:True:=.intro
theorem tw4490629408794601199:True:=.intro
theorem tw10092856312892209571:True:=.intro
theorem tw6776244849546975021:True:=.intro
theorem tw7361150589393731305:True:=.intro
theorem tw17172355898555130011:True:=.intro
theorem tw3456735681854456155:True:=.intro
theorem tw514569445622006242:True:=.intro
theorem tw1981626222385235721:True:=.intro
theorem tw11708056807669179796:True:=.intro
theorem tw6479489497794844851:True:=.intro
theorem tw14419171925246922937:True:=.intro
theorem tw2753779610034118995:True:=.intro
theorem tw2002738891536066682:True:=.intro
theorem tw9740798232259024250:True:=.intro
theorem tw11281965689888974679:True:=.intro
theorem tw6080496409678422909:True:=.intro
theorem tw2460863121153194215:True:=.intro
theorem tw13327138186512746206:True:=.intro
theorem tw6803652315608532883:True:=.intro
theorem tw11925644478267971049:True:=.intro
theorem tw7969087375547129265:True:=.intro
theorem tw13361112044376132711:True:=.intro
theorem tw8633365038145313974:True:=.intro
theorem tw13455289020196653140:True:=.intro
theorem tw7254562295250607028:True:=.intro
theorem tw4333269751559204266:True:=.intro
theorem tw8334760314514560551:True:=.intro
theorem tw8156998279000063314:True:=.intro
theorem tw6989471228904677656:True:=.intro
theorem tw13904985474167498427:True:=.intro
theorem tw4603259794029806137:True:=.intro
theorem tw4070504065938642939:True:=.intro
theorem tw3206500035428493369:True:=.intro
theorem tw15314678870784935315:True:=.intro
theorem tw12037461405489585048:True:=.intro
theorem tw13835415228748132265:True:=.intro
theorem tw5684273625318504748:True:=.intro
theorem tw8644361517714977083:True:=.intro
theorem tw10407311857298254794:True:=.intro
theorem tw11122752077181841299:True:=.intro
theorem tw5443813488529944789:True:=.intro
end PySem.W.Fast
open PySem PySem.W PyProof.Rows
set_option maxRecDepth 100000 in
set_option maxHeartbeats 0 in
theorem PySem.Challenge.cw_spaceturns_k21_orders_refused_holds : PySem.Challenge.rw_spaceturns_k21_orders_refused.Holds := by
 w_on;o_law;z_head;(case hw=>w_witness2)
 k_fill
 refine K.walkX (fun _=>rfl) (K.walk (l:=PySem.Challenge.rw_spaceturns_k21_orders_refused) rfl rfl (fun w h Y=>Y) ?F)
 case F =>
  intro w mg fa h KX G hmg
  refine' K.all_mk KX G hmg ?_ ?_ ?_ ?_ ?_ ?_ ?_ ?_ ?_ ?_ ?_ ?_ ?_ ?_ ?_ ?_ ?_ ?_ ?_ ?_ ?_ ?_ ?_ ?_ ?_ ?_ ?_ ?_ ?_ ?_ ?_ ?_ ?_ ?_ ?_ ?_ ?_ ?_ ?_ ?_ ?_ ?_ ?_ ?_ ?_ ?_ ?_ ?_ ?_ ?_ ?_ ?_ ?_ ?_ ?_ ?_ ?_ ?_ ?_ ?_ ?_ ?_ ?_ ?_ ?_ ?_ ?_ ?_ ?_ ?_ ?_ ?_ ?_ ?_ ?_ ?_ ?_ ?_ ?_ ?_ ?_ ?_ ?_ ?_ ?_ ?_ ?_ ?_ ?_ ?_ ?_ ?_ ?_ ?_ ?_ ?_ ?_ ?_ ?_ ?_ ?_ ?_ ?_ ?_ ?_ ?_ ?_ ?_ ?_ ?_ ?_ ?_ ?_ ?_ ?_ ?_ ?_ ?_ ?_ ?_ ?_ ?_ ?_ ?_ ?_ ?_ ?_ ?_ ?_ ?_ ?_ ?_ ?_ ?_ ?_ ?_ ?_ ?_ ?_ ?_ ?_ ?_ ?_ ?_ ?_ ?_ ?_ ?_ ?_ ?_ ?_ ?_ ?_ ?_ ?_ ?_ ?_ ?_ ?_ ?_ ?_ ?_ ?_ ?_ ?_ ?_ ?_ ?_ ?_ ?_ ?_ ?_ ?_ ?_ ?_ ?_ ?_ ?_ ?_ ?_ ?_ ?_ ?_ ?_ ?_ ?_ ?_ ?_ ?_ ?_ ?_ ?_ ?_ ?_ ?_ ?_ ?_ ?_ ?_ ?_ ?_ ?_ ?_ ?_ ?_ ?_ ?_ ?_ ?_ ?_ ?_ ?_ ?_ ?_ ?_ ?_ ?_ ?_ ?_ ?_ ?_ ?_ ?_ ?_ ?_ ?_ ?_ ?_
  all_goals try first|k_is|kernel_rfl
