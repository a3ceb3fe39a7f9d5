import PyProof.Rows.All
import Wide.All
import OpenK.AllK
import Wide.FinOn
import Lean
import PyProof.EqAt
import PyProof.EqKinds
import PyProof.TupleCall
import PySem.Challenge.RW_spaceturns_k16_chosen_ones
set_option Elab.async false
set_option linter.all false
set_option maxRecDepth 100000
theorem Qh:type_of%@PySem.wpAny_bind:=@PySem.wpAny_bind
theorem Qi:type_of%@List.mem_cons_of_mem:=@List.mem_cons_of_mem
theorem Qj:type_of%@List.mem_cons_self:=@List.mem_cons_self
theorem Qk:type_of%@PySem.Heap.get?_push_of_some:=@PySem.Heap.get?_push_of_some
theorem Ql:type_of%@Nat.le_refl:=@Nat.le_refl
theorem Qn:type_of%@PyProof.Rows.wpS_bind:=@PyProof.Rows.wpS_bind
theorem Qo:type_of%@List.mem_cons:=@List.mem_cons
theorem Qp:type_of%@List.length_map:=@List.length_map
theorem Qq:type_of%@PySem.wpAny_pure:=@PySem.wpAny_pure
theorem Qr:type_of%@List.length_append:=@List.length_append
theorem Qs:type_of%@Array.length_toList:=@Array.length_toList
theorem Qt:type_of%@PyProof.Rows.wpS_pure:=@PyProof.Rows.wpS_pure
theorem Qu:type_of%@List.mem_singleton:=@List.mem_singleton
theorem Qv:type_of%@Nat.lt_of_lt_of_le:=@Nat.lt_of_lt_of_le
theorem Qw:type_of%@List.length_cons:=@List.length_cons
theorem Qx:type_of%@Bool.and_eq_true:=@Bool.and_eq_true
theorem Qy:type_of%@PySem.Heap.lt_size:=@PySem.Heap.lt_size
theorem Qz:type_of%@List.getElem?_eq_some_iff:=@List.getElem?_eq_some_iff
theorem QA:type_of%@Nat.le_trans:=@Nat.le_trans
theorem QB:type_of%@List.mem_map:=@List.mem_map
theorem QC:type_of%@Nat.zero_le:=@Nat.zero_le
theorem QD:type_of%@decide_eq_false:=@decide_eq_false
theorem QE:type_of%@List.getElem?_eq_getElem:=@List.getElem?_eq_getElem
theorem QF:type_of%@List.lookup_cons:=@List.lookup_cons
theorem QG:type_of%@PySem.Heap.get?_push_size:=@PySem.Heap.get?_push_size
theorem QH:type_of%@PySem.mem_of_lookup:=@PySem.mem_of_lookup
theorem QI:type_of%@List.size_toArray:=@List.size_toArray
theorem QJ:type_of%@List.map_cons:=@List.map_cons
theorem QK:type_of%@PySem.Heap.get?_update_other:=@PySem.Heap.get?_update_other
theorem QL:type_of%@Bool.false_ne_true:=@Bool.false_ne_true
theorem QM:type_of%@decide_eq_true:=@decide_eq_true
theorem QN:type_of%@List.mem_append:=@List.mem_append
theorem QO:type_of%@List.mem_append_right:=@List.mem_append_right
theorem QP:type_of%@List.append_nil:=@List.append_nil
theorem QQ:type_of%@List.append_assoc:=@List.append_assoc
theorem QR:type_of%@List.length_take:=@List.length_take
theorem QS:type_of%@Nat.ne_of_lt:=@Nat.ne_of_lt
theorem QT:type_of%@List.all_eq_true:=@List.all_eq_true
theorem QU:type_of%@PySem.W.mg_of:=@PySem.W.mg_of
theorem QV:type_of%@Nat.lt_succ_self:=@Nat.lt_succ_self
theorem QW:type_of%@List.mem_reverse:=@List.mem_reverse
theorem QX:type_of%@Option.some.inj:=@Option.some.inj
theorem QY:type_of%@List.getElem?_map:=@List.getElem?_map
theorem QZ:type_of%@PySem.W.mg_none_of:=@PySem.W.mg_none_of
theorem Q0:type_of%@List.take_append_drop:=@List.take_append_drop
theorem Q1:type_of%@PyProof.Rows.KeyOrd.kle_trans:=@PyProof.Rows.KeyOrd.kle_trans
theorem Q4:type_of%@decide_eq_true_eq:=@decide_eq_true_eq
theorem Q5:type_of%@List.getElem?_set_ne:=@List.getElem?_set_ne
theorem Q6:type_of%@List.pairwise_cons:=@List.pairwise_cons
theorem Q7:type_of%@PySem.wpAny_holding:=@PySem.wpAny_holding
theorem Q8:type_of%@Int.fmod_eq_emod_of_nonneg:=@Int.fmod_eq_emod_of_nonneg
theorem Q9:type_of%@of_decide_eq_true:=@of_decide_eq_true
theorem Ra:type_of%@PyProof.Rows.wpS_forRange:=@PyProof.Rows.wpS_forRange
theorem Rb:type_of%@PySem.wpAny_mono:=@PySem.wpAny_mono
theorem Re:type_of%@List.mem_of_getElem?:=@List.mem_of_getElem?
theorem Rg:type_of%@Nat.lt_of_le_of_lt:=@Nat.lt_of_le_of_lt
theorem Rh:type_of%@Nat.lt_irrefl:=@Nat.lt_irrefl
theorem Ri:type_of%@List.length_set:=@List.length_set
theorem Rj:type_of%@Array.toList_append:=@Array.toList_append
theorem Rk:type_of%@PySem.W.kia_one:=@PySem.W.kia_one
theorem Rl:type_of%@List.length_nil:=@List.length_nil
theorem Rm:type_of%@List.find?_cons:=@List.find?_cons
theorem Ro:type_of%@Nat.not_lt_zero:=@Nat.not_lt_zero
theorem Rq:type_of%@congrArg:=@congrArg
theorem Rr:type_of%@Int.fmod_nonneg_of_pos:=@Int.fmod_nonneg_of_pos
theorem Ru:type_of%@PySem.wpAny_truthy_bool:=@PySem.wpAny_truthy_bool
theorem Rv:type_of%@Ne.symm:=@Ne.symm
theorem Rw:type_of%@Array.getElem_mem_toList:=@Array.getElem_mem_toList
theorem Rx:type_of%@PySem.wpAny_loadPart':=@PySem.wpAny_loadPart'
theorem Ry:type_of%@Bool.false_eq_true:=@Bool.false_eq_true
theorem RA:type_of%@List.length_drop:=@List.length_drop
theorem RB:type_of%@List.mem_flatMap:=@List.mem_flatMap
theorem RC:type_of%@PySem.SeqAt.canLay_of_shaped:=@PySem.SeqAt.canLay_of_shaped
theorem RD:type_of%@PySem.F.plain_max_loop:=@PySem.F.plain_max_loop
theorem RE:type_of%@PyProof.Rows.KeyOrd.kle_of_klt:=@PyProof.Rows.KeyOrd.kle_of_klt
theorem RF:type_of%@List.flatMap_cons:=@List.flatMap_cons
theorem RG:type_of%@List.mem_filter:=@List.mem_filter
theorem RH:type_of%@PyProof.Rows.KeyOrd.kle_refl:=@PyProof.Rows.KeyOrd.kle_refl
theorem RI:type_of%@PySem.wpAny_Call_Name_kw:=@PySem.wpAny_Call_Name_kw
theorem RJ:type_of%@List.zip_cons_cons:=@List.zip_cons_cons
theorem RK:type_of%@Nat.lt_or_ge:=@Nat.lt_or_ge
theorem RL:type_of%@PySem.Str.empty_append:=@PySem.Str.empty_append
theorem RM:type_of%@List.mem_range:=@List.mem_range
theorem RN:type_of%@List.length_eq_zero_iff:=@List.length_eq_zero_iff
theorem RO:type_of%@PyProof.Rows.callWith_type1:=@PyProof.Rows.callWith_type1
theorem RP:type_of%@List.filterMap_cons:=@List.filterMap_cons
theorem RQ:type_of%@List.getElem?_set_self:=@List.getElem?_set_self
theorem RR:type_of%@Array.getElem?_eq_none:=@Array.getElem?_eq_none
theorem RS:type_of%@List.take_of_length_le:=@List.take_of_length_le
theorem RT:type_of%@List.map_map:=@List.map_map
theorem RU:type_of%@Int.fmod_lt_of_pos:=@Int.fmod_lt_of_pos
theorem RV:type_of%@List.drop_eq_getElem_cons:=@List.drop_eq_getElem_cons
theorem RW:type_of%@Nat.le_of_lt:=@Nat.le_of_lt
theorem RX:type_of%@PySem.PassesOwn.never:=@PySem.PassesOwn.never
theorem RY:type_of%@PyProof.Rows.wpS_mono:=@PyProof.Rows.wpS_mono
theorem RZ:type_of%@List.mem_of_mem_take:=@List.mem_of_mem_take
theorem R0:type_of%@Array.getElem_toList:=@Array.getElem_toList
theorem R4:type_of%@List.map_append:=@List.map_append
theorem R5:type_of%@PySem.wpAny_loadPart_at:=@PySem.wpAny_loadPart_at
theorem R6:type_of%@List.length_range:=@List.length_range
theorem R7:type_of%@PySem.Str.length_append:=@PySem.Str.length_append
theorem R8:type_of%@decide_eq_false_iff_not:=@decide_eq_false_iff_not
theorem R9:type_of%@beq_eq_false_iff_ne:=@beq_eq_false_iff_ne
theorem Sa:type_of%@List.not_mem_nil:=@List.not_mem_nil
theorem Sb:type_of%@List.drop_drop:=@List.drop_drop
theorem Sc:type_of%@Option.map_eq_some_iff:=@Option.map_eq_some_iff
theorem Sd:type_of%@PySem.wpAny_passesOwn:=@PySem.wpAny_passesOwn
theorem Se:type_of%@List.nodup_cons:=@List.nodup_cons
theorem Sf:type_of%@PySem.Heap.get?_update_self:=@PySem.Heap.get?_update_self
theorem Sg:type_of%@PySem.wpAny_ite_false:=@PySem.wpAny_ite_false
theorem Si:type_of%@Nat.le_of_ble_eq_true:=@Nat.le_of_ble_eq_true
theorem Sj:type_of%@PySem.wpAny_standAt:=@PySem.wpAny_standAt
theorem Sk:type_of%@PySem.Heap.get?_none_of_le:=@PySem.Heap.get?_none_of_le
theorem Sl:type_of%@List.mem_of_mem_drop:=@List.mem_of_mem_drop
theorem Sm:type_of%@Array.toList_reverse:=@Array.toList_reverse
theorem Sn:type_of%@PySem.Heap.size_push:=@PySem.Heap.size_push
theorem So:type_of%@PySem.wpAny_execs_nil:=@PySem.wpAny_execs_nil
theorem Sq:type_of%@PySem.wpAny_call:=@PySem.wpAny_call
theorem Sr:type_of%@PySem.W.Looks.at:=@PySem.W.Looks.at
theorem Ss:type_of%@List.getElem_idxOf:=@List.getElem_idxOf
theorem Su:type_of%@Nat.min_eq_left:=@Nat.min_eq_left
theorem Sv:type_of%@PySem.sizeLine_eq:=@PySem.sizeLine_eq
theorem Sw:type_of%@Bool.not_eq_true':=@Bool.not_eq_true'
theorem Sx:type_of%@Bool.eq_false_iff:=@Bool.eq_false_iff
theorem Sy:type_of%@Array.toList_push:=@Array.toList_push
theorem Sz:type_of%@List.reverse_perm:=@List.reverse_perm
theorem SA:type_of%@List.pairwise_map:=@List.pairwise_map
theorem SC:type_of%@Nat.ne_of_gt:=@Nat.ne_of_gt
theorem SE:type_of%@PySem.codeAny_mono:=@PySem.codeAny_mono
theorem SF:type_of%@List.map_nil:=@List.map_nil
theorem SG:type_of%@List.take_succ:=@List.take_succ
theorem SH:type_of%@ite_congr:=@ite_congr
theorem SI:type_of%@List.take_length:=@List.take_length
theorem SJ:type_of%@List.cons_ne_nil:=@List.cons_ne_nil
theorem SK:type_of%@if_false:=@if_false
theorem SO:type_of%@Nat.le_succ:=@Nat.le_succ
theorem SQ:type_of%@List.any_cons:=@List.any_cons
theorem SR:type_of%@Nat.add_assoc:=@Nat.add_assoc
namespace L2
open PySem PySem.Spec PyProof.Rows
variable{us:List Value}{C a b dx it:Addr}{P:Program}{w:World}{base h:Heap}{o:Obj}{g':Array GenState}{ch fp:List Addr}{qual x:Str}{N ps:List Str}{i j k n:Nat}{M:Model}{A:Around}{E:Value->Shared->Prop}{u:Value}{s s':Shared}{c e l tg:Expr}{α:Type}{pins:List (Addr×Obj)}{p pos:Pos}{K:W.Frag}{es:List Expr}{body:List Stmt}{f:Value->Value->Sem Value}{g:Int->Int->Int}{op op':CmpOp}{mA mg:Str->Option Value}{kw:List (Str×Value)}{fd:FuncData}{outer:List Env}{scope:Scope}
noncomputable abbrev aR:=Sum Int Str
noncomputable def mO:aR->Value->Bool
 | .inl k,v=>Value.isInt k v
 | .inr x,v=>Value.isStrOf x v
noncomputable def Oi(w:World):aR->Int
 | .inl k=>hashInt k
 | .inr x=>hashStr w x
theorem bV:∀{k:aR} {v:Value},mO k v=true->(∃i t,k=Sum.inl i/\v=Value.int i t)\/(∃x t,k=Sum.inr x/\v=Value.str x t)
 | .inl i,v,h=>by
  obtain⟨t,e⟩:=Value.isInt_shape (k:=i) (v:=v) h
  exact .inl ⟨i,t,rfl,e⟩
 | .inr x,v,h=>by
  obtain⟨t,e⟩:=Value.isStrOf_shape (x:=x) (v:=v) h
  exact .inr ⟨x,t,rfl,e⟩
theorem zx(i:Int)(t:Tok):mO (.inl i) (.int i t)=true:=by simp[mO,Value.isInt]
theorem zw(x:Str)(t:Tok):mO (.inr x) (.str x t)=true:=by simp[mO,Value.isStrOf]
theorem Iv(a b:Int):decide ((Sum.inl a:aR)=Sum.inl b)=(a==b):=by
 by_cases e:a=b
 ·subst e;simp
 ·have h:¬ (Sum.inl a:aR)=Sum.inl b:=fun q=>e (Sum.inl.inj q)
  rw[QD h]
  exact(R9.mpr e).symm
theorem Iq(a b:Str):decide ((Sum.inr a:aR)=Sum.inr b)=decide (a=b):=by
 by_cases e:a=b
 ·subst e;simp
 ·have h:¬ (Sum.inr a:aR)=Sum.inr b:=fun q=>e (Sum.inr.inj q)
  rw[QD h,QD e]
theorem Iu(a:Int)(b:Str):decide ((Sum.inl a:aR)=Sum.inr b)=false:=QD (fun q=>nomatch q)
theorem Ir(a:Str)(b:Int):decide ((Sum.inr a:aR)=Sum.inl b)=false:=QD (fun q=>nomatch q)
noncomputable def b7(prog:Program)(w:World):PySem.KeyKind prog w aR where
 is:=mO
 hash:=Oi w
 inj:=fun v a b ha hb=>by
  rcases bV ha with⟨i,t,rfl,rfl⟩|⟨x,t,rfl,rfl⟩
  ·rcases bV hb with⟨j,u,rfl,e⟩|⟨y,u,rfl,e⟩
   ·injection e with e1 _;rw[e1]
   ·exact nomatch e
  ·rcases bV hb with⟨j,u,rfl,e⟩|⟨y,u,rfl,e⟩
   ·exact nomatch e
   ·injection e with e1 _;rw[e1]
 byValue:=fun k v h=>by
  rcases bV h with⟨i,t,rfl,rfl⟩|⟨x,t,rfl,rfl⟩<;>rfl
 pyHash:=fun hv h=>by
  rcases bV hv with⟨i,t,rfl,rfl⟩|⟨x,t,rfl,rfl⟩
  ·exact wpAny_pyHash_int h
  ·exact wpAny_pyHash_str h
 eqBool:=fun hu hv h=>by
  rcases bV hu with⟨i,t,rfl,rfl⟩|⟨x,t,rfl,rfl⟩
  ·rcases bV hv with⟨j,u,rfl,rfl⟩|⟨y,u,rfl,rfl⟩
   ·rw[Iv]at h;exact wpAny_eqBool_int h
   ·rw[Iu]at h;exact SeqAt.EqAt.int_str i t y u _ _ _ _ h
  ·rcases bV hv with⟨j,u,rfl,rfl⟩|⟨y,u,rfl,rfl⟩
   ·rw[Ir]at h;exact SeqAt.EqAt.str_int x t j u _ _ _ _ h
   ·rw[Iq]at h;exact wpAny_eqBool_str h
 «strs» := fun k x t v h=>by
  rcases bV h with⟨i,u,rfl,e⟩|⟨y,u,rfl,e⟩
  ·exact nomatch e
  ·injection e with e1 _
   subst e1
   cases v<;>rfl
theorem uR(prog:Program)(w:World)(i:Int)(t:Tok):(b7 prog w).is (.inl i) (.int i t)=true:=zx i t
theorem uQ(prog:Program)(w:World)(x:Str)(t:Tok):(b7 prog w).is (.inr x) (.str x t)=true:=zw x t
inductive V where
 | non|bl (b:Bool)|int (i:Int)|str (x:Str)|byt (b:Array UInt8)|flt (b:UInt64)|ref (a:Addr)|ty (n:String)
 deriving DecidableEq
noncomputable def aP:V->Value->Prop
 | .non,u=>u=Value.none
 | .bl b,u=>u=Value.bool b
 | .int i,u => ∃t,u=Value.int i t
 | .str x,u => ∃t,u=Value.str x t
 | .byt b,u => ∃t,u=Value.bytes b t
 | .flt b,u => ∃t,u=Value.float b t
 | .ref a,u=>u=Value.ref a
 | .ty n,u=>u=Value.type n
noncomputable abbrev aD:List V->List Value->Prop:=Paired aP
theorem aD.length{xs:List V}(r:aD xs us):xs.length=us.length:=Paired.length r
theorem aD.get:∀{xs:List V} {us:List Value} {i:Nat} {x:V},aD xs us->xs[i]?=some x->∃u,us[i]?=some u/\aP x u
 | _,_,_,_,.nil,e=>by simp at e
 | _,_,0,_,.cons r _,e=>by simp at e;subst e;exact⟨_,rfl,r⟩
 | _,_,i+1,x,.cons _ t,e=>by
  obtain⟨u,h1,h2⟩:=aD.get (i:=i) (x:=x) t (by simpa using e)
  exact⟨u,by simpa using h1,h2⟩
theorem aD.set{x:V}{u:Value}(r:aP x u):∀{xs:List V} {us:List Value} (i:Nat),aD xs us->aD (xs.set i x) (us.set i u)
 | _,_,_,.nil=>.nil
 | _,_,0,.cons _ t=>.cons r t
 | _,_,i+1,.cons q t=>.cons q (aD.set r i t)
theorem aD.append:∀{xs ys:List V} {us ws:List Value},aD xs us->aD ys ws->aD (xs++ys) (us++ws)
 | _,_,_,_,.nil,s=>s
 | _,_,_,_,.cons r t,s=>.cons r (aD.append t s)
theorem aD.take:∀{xs:List V} {us:List Value} (n:Nat),aD xs us->aD (xs.take n) (us.take n)
 | _,_,0,_=>.nil
 | _,_,_+1,.nil=>.nil
 | _,_,n+1,.cons r t=>.cons r (aD.take n t)
theorem aD.drop:∀{xs:List V} {us:List Value} (n:Nat),aD xs us->aD (xs.drop n) (us.drop n)
 | _,_,0,r=>r
 | _,_,_+1,.nil=>.nil
 | _,_,n+1,.cons _ t=>aD.drop n t
noncomputable def gM:Option V->Option Value->Prop
 | some v,some u=>aP v u
 | none,none=>True
 | _,_=>False
noncomputable def KV{κ:Type}:List (κ×V)->List (κ×Value)->Prop:=Paired fun(p:κ×V) (q:κ×Value)=>p.1=q.1/\aP p.2 q.2
noncomputable def kV:aR->V
 | .inl i=>.int i
 | .inr x=>.str x
inductive HO where
  | lst (xs:List V)
  | tup (xs:List V)
  | dK (kvs:List (aR×V))|dT (kvs:List (List aR×V))
  | set (S:Int->Bool) (n:Nat)
  | ins (C dx:Addr) (fs:List (Str×V))
  | own (x:Addr)
  | xd (fs:List (Str×V))
  | met (f x:Addr)
  | rng (lo hi:Int)
  | frz (o:Obj) (u:HO)
  | tbl (ps:Array Value)
  | ext (φ:Heap->Prop)
noncomputable abbrev Hp:=Addr->Option HO
noncomputable def az(H:Hp)(a:Addr)(o:HO):Hp:=fun b=>if b=a then some o else H b
theorem aB{H:Hp}{o:HO}:az H a o a=some o:=by unfold az;rw[if_pos rfl]
theorem aq{H:Hp}{o:HO}(h:b≠a):az H a o b=H b:=by unfold az;rw[if_neg h]
theorem DI{H:Hp}{o u:HO}:az (az H a o) a u=az H a u:=by
 funext b;unfold az;split<;>rfl
theorem fy{H:Hp}{o u:HO}(h:H a=some o)(h':H b=some u)(d:o≠u):a≠b:=by
 intro e;subst e;rw[h]at h';exact d (QX h')
theorem aU{H:Hp}{o:HO}(h:H a=some o)(h':H b=none):a≠b:=by
 intro e;subst e;rw[h]at h';cases h'
section
variable(P:Program)(w:World)
noncomputable def me(h:Heap)(a:Addr)(items:Array Value):Prop:=IsTup h a items/\∃o,h.get? a=some o/\o.dict=none
theorem me.new(h:Heap)(items:Array Value):me (h.push { cls:=.type "tuple", data:=.seq items }) h.objs.size items:=⟨IsTup.new h items,_,QG _ rfl,rfl⟩
noncomputable def aT(H:Hp)(h:Heap)(a:Addr):HO->Prop
  | .lst xs=>xs.length<=sizeLine/\∃(its:List Value) (n:Nat),aD xs its/\h.get? a=some { cls:=.type "list", data:=.seq its.toArray n }
  | .tup xs=>xs.length<=sizeLine/\∃its:List Value,aD xs its/\me h a its.toArray
  | .dK kvs=>kvs.length<=sizeLine/\(a==sysModules)=false/\∃vs,KV kvs vs/\h.DictOf (b7 P w) a vs
  | .dT kvs=>kvs.length<=sizeLine/\(a==sysModules)=false/\∃xs:List (List aR×Addr×Value),
      Paired (fun(p:List aR×V) (q:List aR×Addr×Value)=>p.1=q.1/\H q.2.1=some (.tup (p.1.map kV))/\aP p.2 q.2.2) kvs xs /\
      ∃o es ep,h.get? a=some o/\o.ExactDict/\o.data=.dict es ep/\es.toList=xs.map (entryOfKey (tupleKind (b7 P w)))/\(xs.map (·.1)).Nodup
  | .set S n=>h.SetOf (intKind P w) a S n
  | .ins C dx fs=>H dx=some (.own a)/\fs.length<=1000/\dx≠a/\h.get? a=some (W.instObj C dx) /\
      ∃mA,h.Ns1 dx mA/\(∀f,gM (fs.lookup f) (mA f))/\PySem.Within mA (fs.map (·.1))
  | .own _ => ∃o,h.get? a=some o
  | .xd fs => ∃mA,h.Ns1 a mA/\∀f,gM (fs.lookup f) (mA f)
  | .rng lo hi => ∃t u v,h.get? a=some { cls:=.type "range", data:=.fields #[.int lo t,.int hi u,.int 1 v] }
  | .frz o u=>h.get? a=some o/\aT H h a u
  | .tbl ps=>h.get? a=some { cls:=.none,data:=.fields ps }
  | .met f x=>h.get? a=some (W.methodObj (.ref f) (.ref x))
  | .ext φ=>φ h/\(∃o,h.get? a=some o)/\∀h1 h2:Heap,φ h1->(∀o,h1.get? a=some o->h2.get? a=some o)->φ h2
noncomputable def cx(H:Hp)(h:Heap):Prop:=∀a o,H a=some o->aT P w H h a o
end
section
variable{H H':Hp}{h':Heap}{o:HO}
theorem aT.lt(x:aT P w H h a o):a<h.objs.size:=by
 cases o with
 | lst xs=>obtain⟨_,_,_,_,e⟩:=x;exact Qy e
 | tup xs=>obtain⟨_,_,_,p⟩:=x;exact p.1.lt
 | dK kvs=>obtain⟨_,_,_,_,o,_,_,e,_⟩:=x;exact Qy e
 | dT kvs=>obtain⟨_,_,_,_,o,_,_,e,_⟩:=x;exact Qy e
 | set S n=>obtain⟨o,_,_,_,e,_⟩:=x;exact Qy e
 | ins C dx fs=>obtain⟨_,_,_,e,_⟩:=x;exact Qy e
 | own y=>obtain⟨_,e⟩:=x;exact Qy e
 | xd fs=>obtain⟨_,⟨_,_,_,e,_⟩,_⟩:=x;exact Qy e
 | rng lo hi=>obtain⟨_,_,_,e⟩:=x;exact Qy e
 | frz ob u=>obtain⟨e,_⟩:=x;exact Qy e
 | tbl ps=>exact Qy (show h.get? a=some _ from x)
 | met f y=>exact Qy (show h.get? a=some _ from x)
 | ext φ=>obtain⟨_,⟨_,e⟩,_⟩:=x;exact Qy e
theorem Paired.mapP{α β:Type}{F G:α->β->Prop}:∀{l₁:List α} {l₂:List β},Paired F l₁ l₂->(∀a b,F a b->G a b)->Paired G l₁ l₂
 | _,_,.nil,_=>.nil
 | _,_,.cons r t,f=>.cons (f _ _ r) (Paired.mapP t f)
theorem aT.stay(x:aT P w H h a o)(k:∀b u,(b=a\/H b=some (.own a))->h.get? b=some u->h'.get? b=some u)
  (ho:∀b,H b=some (.own a)->H' b=some (.own a)) (ht:∀b xs,H b=some (.tup xs)->H' b=some (.tup xs)):aT P w H' h' a o:=by
 induction o with
 | lst xs=>obtain⟨z,its,n,r,e⟩:=x;exact⟨z,its,n,r,k _ _ (.inl rfl) e⟩
 | tup xs=>obtain⟨z,its,r,⟨ob,e,c⟩,o2,e2,d2⟩:=x;exact⟨z,its,r,⟨ob,k _ _ (.inl rfl) e,c⟩,o2,k _ _ (.inl rfl) e2,d2⟩
 | dK kvs=>obtain⟨z,y,vs,r,ob,es,ep,e,c⟩:=x;exact⟨z,y,vs,r,ob,es,ep,k _ _ (.inl rfl) e,c⟩
 | dT kvs =>
  obtain⟨z,y,xs,r,ob,es,ep,e,c⟩:=x
  exact⟨z,y,xs,Paired.mapP r fun p q z=>⟨z.1,ht _ _ z.2.1,z.2.2⟩,ob,es,ep,k _ _ (.inl rfl) e,c⟩
 | set S n=>obtain⟨ob,es,ep,t,e,c⟩:=x;exact⟨ob,es,ep,t,k _ _ (.inl rfl) e,c⟩
 | ins C dx fs =>
  obtain⟨d,z,ne,e,mA,⟨od,es,ep,e2,c⟩,r⟩:=x
  exact⟨ho _ d,z,ne,k _ _ (.inl rfl) e,mA,⟨od,es,ep,k _ _ (.inr d) e2,c⟩,r⟩
 | own y=>obtain⟨ob,e⟩:=x;exact⟨ob,k _ _ (.inl rfl) e⟩
 | xd fs=>obtain⟨mA,⟨od,es,ep,e,c⟩,r⟩:=x;exact⟨mA,⟨od,es,ep,k _ _ (.inl rfl) e,c⟩,r⟩
 | rng lo hi=>obtain⟨t,u,v,e⟩:=x;exact⟨t,u,v,k _ _ (.inl rfl) e⟩
 | frz ob u ih=>obtain⟨e,q⟩:=x;exact⟨k _ _ (.inl rfl) e,ih q⟩
 | tbl ps =>
  have e:h.get? a=some { cls:=.none,data:=.fields ps }:=x
  show h'.get? a=some { cls:=.none,data:=.fields ps }
  exact k a _ (.inl rfl) e
 | met f y =>
  have e:h.get? a=some (W.methodObj (.ref f) (.ref y)):=x
  show h'.get? a=some (W.methodObj (.ref f) (.ref y))
  exact k a _ (.inl rfl) e
 | ext φ=>obtain⟨p,⟨o,e⟩,st⟩:=x;exact⟨st _ _ p fun o q=>k _ _ (.inl rfl) q,⟨o,k _ _ (.inl rfl) e⟩,st⟩
theorem cx.lt(x:cx P w H h)(e:H a=some o):a<h.objs.size:=(x a o e).lt
theorem cx.fresh(x:cx P w H h)(e:h.objs.size<=a):H a=none:=by
 cases q:H a with
 | none=>rfl
 | some u=>exact absurd (Qv (x.lt q) e) (Rh _)
theorem cx.kept(x:cx P w H h)(k:∀b u,h.get? b=some u->h'.get? b=some u):cx P w H h':=fun a o e =>
 (x a o e).stay (fun b u _ q=>k b u q) (fun _ q=>q) fun _ _ q=>q
theorem cx.laid(x:cx P w H h)(k:∀b u,h.get? b=some u->h'.get? b=some u)(hp:h.objs.size<=a)(new:aT P w (az H a o) h' a o):cx P w (az H a o) h':=fun b u e=>by
 have hn:=x.fresh hp
 by_cases hb:b=a
 ·subst hb;rw[aB]at e;cases e;exact new
 ·rw[aq hb]at e
  exact(x b u e).stay (fun c v _ q=>k c v q) (fun c q=>by rw[aq (aU q hn)];exact q) fun c xs q=>by rw[aq (aU q hn)];exact q
end
noncomputable def Rd(H:Hp)(a:Addr)(u:HO):Prop:=H a=some u\/∃o,H a=some (.frz o u)
theorem Rd.ok{H:Hp}{u:HO}(r:Rd H a u)(x:cx P w H h):aT P w H h a u:=by
 rcases r with r|⟨o,r⟩
 ·exact x a u r
 ·obtain⟨_,q⟩:=x a _ r
  exact q
noncomputable def DA:Option HO->Prop
 | some (.lst _)=>True
 | some (.dK _)=>True
 | some (.dT _)=>True
 | some (.set _ _)=>True
 | some (.ins _ _ _)=>True
 | some (.ext _)=>True
 | _=>False
section
variable{H:Hp}{h':Heap}{x e:Addr}{o':HO}
theorem cx.write(ok:cx P w H h)(mu:DA (H x))(he:e=x\/H e=some (.own x))(k:∀b u,b≠e->h.get? b=some u->h'.get? b=some u)(heo:∃u,h'.get? e=some u)
  (new:aT P w (az H x o') h' x o'):cx P w (az H x o') h':=fun b u q=>by
 have nown:∀c y,H c=some (.own y)->c≠x:=fun c y r z=>by subst z;rw[r]at mu;exact mu
 have ntup:∀c xs,H c=some (.tup xs)->c≠x:=fun c xs r z=>by subst z;rw[r]at mu;exact mu
 by_cases hb:b=x
 ·subst hb;rw[aB]at q;cases q;exact new
 ·rw[aq hb]at q
  by_cases hbe:b=e
  ·have q':H b=some (.own x):=by
    rcases he with z|z
    ·exact absurd (hbe.trans z) hb
    ·rw[hbe];exact z
   rw[q]at q';cases q'
   obtain⟨v,hv⟩:=heo
   exact⟨v,by rw[hbe];exact hv⟩
  ·refine(ok b u q).stay (fun c v hc r=>k c v ?_ r) (fun c r=>by rw[aq (nown c b r)];exact r) fun c xs r=>by rw[aq (ntup c xs r)];exact r
   rcases hc with rfl|hc
   ·exact hbe
   ·rintro rfl
    rcases he with z|z
    ·exact nown c b hc z
    ·rw[hc]at z;cases z;exact hb rfl
end
structure Un(fs ex:List Addr)(H H':Hp)(h h':Heap):Prop where
 keep:∀b o,h.get? b=some o->H b=none->b∉fs->b∉ex->h'.get? b=some o
 slot:∀b o,h.get? b=some o->H b=none->b∈fs->b∉ex->∃sl,h'.get? b=some { o with slots:=sl }
 free:∀b o,h.get? b=some o->H b=none->b∉ex->H' b=none
 there:∀b o,h.get? b=some o->b∉ex->∃o',h'.get? b=some o'
 tups:∀b xs,H b=some (.tup xs)->H' b=some (.tup xs)
 frzs:∀b o u,H b=some (.frz o u)->H' b=some (.frz o u)
 tbls:∀b ps,H b=some (.tbl ps)->∃more,H' b=some (.tbl (ps++more))
section
variable{fs fs' ex ex':List Addr}{H H1 H2:Hp}{h1 h2 h':Heap}{x e:Addr}{o:HO}
theorem Un.any(u:Un fs ex H H1 h h1){ob:Obj}(q:h.get? b=some ob)(n:H b=none)(hx:b∉ex):∃sl,h1.get? b=some { ob with slots:=sl }:=by
 by_cases hb:b∈fs
 ·exact u.slot b ob q n hb hx
 ·exact⟨ob.slots,u.keep b ob q n hb hx⟩
theorem Un.kept(k:∀b u,h.get? b=some u->h'.get? b=some u):Un fs ex H H h h' :=
 ⟨fun b ob q _ _ _=>k b ob q,fun b ob q _ _ _=>⟨ob.slots,k b ob q⟩,fun _ _ _ n _=>n,fun b ob q _=>⟨ob,k b ob q⟩,fun _ _ q=>q,fun _ _ _ q=>q,fun _ ps q=>⟨#[],by rw[q];simp⟩⟩
theorem Un.refl:Un fs ex H H h h:=Un.kept fun _ _ q=>q
theorem Un.laid(k:∀b u,h.get? b=some u->h'.get? b=some u)(hp:h.objs.size<=a)(hn:H a=none):Un fs ex H (az H a o) h h' where
 keep:=fun b u q _ _ _=>k b u q
 slot:=fun b u q _ _ _=>⟨u.slots,k b u q⟩
 free:=fun b u q n _=>by rw[aq (QS (Qv (Qy q) hp))];exact n
 there:=fun b u q _=>⟨u,k b u q⟩
 tups:=fun b xs q=>by rw[aq (aU q hn)];exact q
 frzs:=fun b u xs q=>by rw[aq (aU q hn)];exact q
 tbls:=fun b ps q=>⟨#[],by rw[aq (aU q hn),q];simp⟩
theorem Un.write(mu:DA (H x))(he:e=x\/H e=some (.own x))(k:∀b u,b≠e->h.get? b=some u->h'.get? b=some u)(heo:∃u,h'.get? e=some u):Un fs ex H (az H x o) h h':=by
 have hx:∀b,H b=none->b≠x:=fun b n z=>by subst z;rw[n]at mu;exact mu
 have hb:∀b,H b=none->b≠e:=fun b n z=>by
  subst z
  rcases he with r|r
  ·exact hx b n r
  ·rw[n]at r;cases r
 have hm:∀b u,H b=some u -> ¬ DA (some u)->b≠x:=fun b u q nm z=>by subst z;rw[q]at mu;exact nm mu
 refine⟨fun b u q n _ _=>k b u (hb b n) q,fun b u q n _ _=>⟨u.slots,k b u (hb b n) q⟩,fun b u q n _=>by rw[aq (hx b n)];exact n,fun b u q _=>?_,
  fun b xs q=>by rw[aq (hm b _ q fun z=>z)];exact q,fun b u xs q=>by rw[aq (hm b _ q fun z=>z)];exact q,fun b ps q=>⟨#[],by rw[aq (hm b _ q fun z=>z),q];simp⟩⟩
 by_cases hbe:b=e
 ·subst hbe;exact heo
 ·exact⟨u,k b u hbe q⟩
end
noncomputable def Cs(h:Heap)(H:Hp):List Addr:=(List.range h.objs.size).filter fun a=>(H a).isSome
noncomputable def jV(h:Heap)(H:Hp):Heap:=W.hideAll h (Cs h H)
theorem zI(h:Heap)(H:Hp):(jV h H).objs.size=h.objs.size:=W.hideAll_size _ _
theorem BS{H:Hp}(e:h.get? b=some o)(n:H b=none):(jV h H).get? b=some o :=
 W.hideAll_get _ e fun hm=>by
  have q:(H b).isSome=true:=(RG.mp hm).2
  rw[n]at q;simp at q
theorem E6{H:Hp}(e:(jV h H).get? b=some o):h.get? b=some o/\H b=none:=by
 have e':h.get? b=some o:=W.of_hideAll (Cs h H) e
 refine⟨e',?_⟩
 cases q:H b with
 | none=>rfl
 | some x =>
  have hm:b∈Cs h H:=RG.mpr ⟨RM.mpr (Qy e'),by simp[q]⟩
  have z:(jV h H).get? b=none:=W.hideAll_none (Cs h H) hm
  rw[z]at e;cases e
noncomputable def Gg(g h:Heap)(L:Addr):List (Addr×Obj):=(List.range h.objs.size).filterMap fun a=>if a=L\/(g.get? a).isSome=true then none else(h.get? a).map fun o=>(a,o)
noncomputable def be(g h:Heap)(L d:Addr):List (Addr×Obj):=(Gg g h L).filter fun p=>decide (p.1≠d)
variable{v y:V}{H:Hp}{R:V->V->Hp->Prop}{vs:List V}
structure Mod(K:W.Frag)(mg:Str->Option Value)(base:Heap):Prop where
 kin:K.In base
 glob:base.Ns mainGlobals mg
 blt:∃mb,base.Ns builtinsNs mb/\∀x:Str,x ≠ "__name__" -> mb x=bootBuiltins x
 nolimit:base.NoLimit
structure Cx where
 prog:Program
 w:World
 K:W.Frag
 mg:Str->Option Value
 base:Heap
 A:Around
 N:List Str
 s₀:Shared
 H₀:Hp
 env:Env
 outer:List Env
 stack:List Env
 ex:List Addr
 fn:Str->Bool
 calm:Bool
 pn:List (Addr×Obj)
 xe:Value->Shared->Prop
noncomputable def bZ(l:List Env):List Addr:=l.filterMap (·.frame)
noncomputable abbrev Cx.fs(X:Cx):List Addr:=bZ X.outer
noncomputable def eZ(sc:Scope)(x:Str):Prop:=sc.names.lookup x=some .local\/sc.names.lookup x=some .cell\/sc.names.lookup x=some .free
noncomputable def wo(sc:Scope)(x:Str):Prop:=sc.names.lookup x=some .local\/sc.names.lookup x=some .cell
noncomputable def PQ(env:Env)(h:Heap)(m:Str->Option Value)(x:Str)(u:Value):Prop :=
 (env.kindOf x=some .local/\m x=some u)\/((env.kindOf x=some .cell\/env.kindOf x=some .free)/\∃c,env.cells.lookup x=some c/\h.IsCell c (some u))
structure Cx.Ok(X:Cx):Prop where
 mod:Mod X.K X.mg X.base
 kind:X.env.scope.kind=.function
 glob:X.env.globals=mainGlobals
 blt:X.env.builtins=builtinsNs
 above:X.s₀.heap.objs.size<=X.env.locals
 inj:∀x y c,X.env.cells.lookup x=some c->X.env.cells.lookup y=some c->x=y
 has:∀x,(X.env.kindOf x=some .cell\/X.env.kindOf x=some .free)->∃c,X.env.cells.lookup x=some c
 cab:∀x c,X.fn x=true->X.env.cells.lookup x=some c->X.s₀.heap.objs.size<=c
 hd:X.calm=true->X.A.handled=none
 frames:X.A.frames=some X.stack
 stk:X.stack=X.outer\/(X.stack=X.env::X.outer/\X.env.frame=some X.env.locals)
 exf:∀b∈X.ex,b≠X.env.locals/\∀x c,X.env.cells.lookup x=some c->c≠b
 bs:∀b o,X.base.get? b=some o->X.s₀.heap.get? b=some o/\X.H₀ b=none
 bsz:X.base.objs.size<=X.s₀.heap.objs.size
 noex:∀b o,X.base.get? b=some o->b∉X.ex
 exfs:∀b∈X.ex,b∉X.fs
 funs:X.s₀.heap.FunFrames X.base X.outer
 frf:∀b∈X.fs,X.H₀ b=none
structure ak(X:Cx)(pins:List (Addr×Obj))(σ:List (Option V))(H:Hp)(s:Shared):Prop where
 ok:X.Ok
 os:s.os=X.s₀.os
 bare:AllBare s.gens
 base:Un X.fs X.ex X.H₀ H X.s₀.heap s.heap
 loc:∃m,s.heap.Ns X.env.locals m/\∀(i:Nat) (x:Str) (v:V),X.N[i]?=some x->σ[i]?=some (some v)->eZ X.env.scope x->∃u,aP v u/\PQ X.env s.heap m x u
 cell:∀x c,X.env.cells.lookup x=some c->∃v,s.heap.IsCell c v
 free:H X.env.locals=none
 freeC:∀x c,X.env.cells.lookup x=some c->H c=none
 pin:∀p∈X.pn++pins,s.heap.get? p.1=some p.2/\H p.1=none/\p.1≠X.env.locals/\p.1∉X.fs/\∀v,p.2.data ≠ .cell v
 hok:cx X.prog X.w H s.heap
 len:σ.length=X.N.length
section
variable{X:Cx}{σ:List (Option V)}{H':Hp}{h':Heap}
theorem Cx.Ok.nofr(ok:X.Ok)(e:X.base.get? b=some o):b∉X.fs:=fun hb=>by
 have:=(ok.funs.mem hb).1
 rw[e]at this;cases this
theorem ak.bs(I:ak X pins σ H s):∀b o,X.base.get? b=some o->s.heap.get? b=some o/\H b=none:=fun b o e =>
 ⟨I.base.keep b o (I.ok.bs b o e).1 (I.ok.bs b o e).2 (I.ok.nofr e) (I.ok.noex b o e),I.base.free b o (I.ok.bs b o e).1 (I.ok.bs b o e).2 (I.ok.noex b o e)⟩
theorem ak.bk(I:ak X pins σ H s):∀b o,X.base.get? b=some o->s.heap.get? b=some o:=fun b o e=>(I.bs b o e).1
theorem ak.mod(I:ak X pins σ H s):Mod X.K X.mg X.base:=I.ok.mod
theorem ak.kIn(I:ak X pins σ H s):X.K.In s.heap:=I.ok.mod.kin.keeps I.bk
theorem ak.nolimit(I:ak X pins σ H s):s.heap.NoLimit:=I.ok.mod.nolimit.keeps I.bk
theorem ak.lt(I:ak X pins σ H s):X.env.locals<s.heap.objs.size:=let ⟨_,hn,_⟩:=I.loc;hn.lt
theorem ak.sz(I:ak X pins σ H s):X.s₀.heap.objs.size<=s.heap.objs.size:=QA I.ok.above (RW I.lt)
theorem ak.nofs(I:ak X pins σ H s)(h:s.heap.objs.size<=a):a∉X.fs:=fun hb=>by
 obtain⟨_,o,ho,_⟩:=I.ok.funs.mem hb
 exact absurd (Qv (Qy ho) (QA I.sz h)) (Rh _)
theorem ak.cne(I:ak X pins σ H s):∀x c,X.env.cells.lookup x=some c->c≠X.env.locals:=fun x c e z=>by
 obtain⟨v,o,ho,hd⟩:=I.cell x c e
 obtain⟨m,⟨o',es,ep,ho',hd',_⟩,_⟩:=I.loc
 rw[z,ho']at ho;cases ho;rw[hd']at hd;cases hd
theorem ak.funs(I:ak X pins σ H s):s.heap.FunFrames X.base X.outer:=by
 have all:∀(l:List Env),(∀b∈bZ l,b∈X.fs)->X.s₀.heap.FunFrames X.base l->s.heap.FunFrames X.base l:=by
  intro l
  induction l with
  | nil=>intro _ _;trivial
  | cons env r ih =>
   intro hs hl
   obtain⟨hk,⟨L,o,hf,hn,ho,hd⟩,hr⟩:=hl
   have hL:L∈X.fs:=hs L (by unfold bZ;rw[RP,hf];exact Qj)
   obtain⟨sl,e⟩:=I.base.slot L o ho (I.ok.frf L hL) hL fun z=>I.ok.exfs L z hL
   exact⟨hk,⟨L,_,hf,hn,e,hd⟩,ih (fun b hb=>hs b (by unfold bZ;rw[RP,hf];exact Qi _ hb)) hr⟩
 exact all X.outer (fun _ hb=>hb) I.ok.funs
theorem ak.stack(I:ak X pins σ H s):s.heap.FunFrames X.base X.stack:=by
 rcases I.ok.stk with e|⟨e,hf⟩
 ·rw[e];exact I.funs
 ·rw[e]
  obtain⟨m,hn,_⟩:=I.loc
  refine .cons (by rw[I.ok.kind];decide) hf hn ?_ I.funs
  exact Sk (QA I.ok.bsz I.ok.above)
theorem ak.stkSub(I:ak X pins σ H s):∀b∈bZ X.stack,b∈X.env.locals::X.fs:=fun b hb=>by
 rcases I.ok.stk with e|⟨e,hf⟩
 ·rw[e]at hb;exact Qi _ hb
 ·rw[e]at hb
  unfold bZ at hb
  rw[RP,hf]at hb
  exact hb
theorem ak.stkFree(I:ak X pins σ H s):∀b∈bZ X.stack,H b=none:=fun b hb=>by
 rcases Qo.mp (I.stkSub b hb)with e|hb
 ·rw[e];exact I.free
 ·obtain⟨_,o,ho,_⟩:=I.ok.funs.mem hb
  exact I.base.free b o ho (I.ok.frf b hb) fun z=>I.ok.exfs b z hb
theorem ak.step{t':Nat}{d':Drawn}(I:ak X pins σ H s)
  (hch:∀b∈ch,(b∈X.ex\/X.s₀.heap.objs.size<=b)/\b≠X.env.locals/\(∀x c,X.env.cells.lookup x=some c->c≠b)/\∀p∈X.pn++pins,p.1≠b)
  (keep:∀b o,b≠X.env.locals->b∉X.fs->b∉ch->s.heap.get? b=some o->H b=none->h'.get? b=some o)
  (slot:∀b o,b≠X.env.locals->b∈X.fs->b∉ch->s.heap.get? b=some o->H b=none->∃sl,h'.get? b=some { o with slots:=sl }) (free:∀b o,b∉ch->s.heap.get? b=some o->H b=none->H' b=none)
  (there:∀b o,b∉ch->s.heap.get? b=some o->∃o',h'.get? b=some o')
  (tups:∀b xs,H b=some (.tup xs)->H' b=some (.tup xs)) (frzs:∀b o u,H b=some (.frz o u)->H' b=some (.frz o u)) (tbls:∀b ps,H b=some (.tbl ps)->∃more,H' b=some (.tbl (ps++more)))
  (ns:∀m,s.heap.Ns X.env.locals m->h'.Ns X.env.locals m) (hok:cx X.prog X.w H' h') (hg:AllBare g') :
  ak X pins σ H' { s with heap:=h',gens:=g',drawn:=d',toks:=t' }:=by
 have neL:∀b o,X.s₀.heap.get? b=some o->b≠X.env.locals:=fun b o e=>QS (Qv (Qy e) I.ok.above)
 have neC:∀b o,X.s₀.heap.get? b=some o->b∉X.ex->b∉ch:=fun b o e hx hb=>by
  rcases(hch b hb).1 with z|z
  ·exact hx z
  ·exact absurd (Qv (Qy e) z) (Rh _)
 have cellK:∀x c,X.env.cells.lookup x=some c->∀v,s.heap.IsCell c v->h'.IsCell c v:=fun x c e v ⟨o,ho,hd⟩=>by
  have nch:c∉ch:=fun z=>(hch c z).2.2.1 x c e rfl
  by_cases hc:c∈X.fs
  ·obtain⟨sl,q⟩:=slot c o (I.cne x c e) hc nch ho (I.freeC x c e)
   exact⟨_,q,hd⟩
  ·exact⟨o,keep c o (I.cne x c e) hc nch ho (I.freeC x c e),hd⟩
 refine⟨I.ok,I.os,hg,⟨fun b o e n hb hx=>?_,fun b o e n hb hx=>?_,fun b o e n hx=>?_,fun b o e hx=>?_,fun b xs e=>tups b xs (I.base.tups b xs e),fun b o xs e=>frzs b o xs (I.base.frzs b o xs e),fun b ps e=>?_⟩,?_,fun x c e=>?_,?_,fun x c e=>?_,fun p hp=>?_,hok,I.len⟩
 ·exact keep b o (neL b o e) hb (neC b o e hx) (I.base.keep b o e n hb hx) (I.base.free b o e n hx)
 ·obtain⟨sl,e1⟩:=I.base.slot b o e n hb hx
  obtain⟨sl',e2⟩:=slot b _ (neL b o e) hb (neC b o e hx) e1 (I.base.free b o e n hx)
  exact⟨sl',e2⟩
 ·obtain⟨o',e1⟩:=I.base.there b o e hx
  exact free b o' (neC b o e hx) e1 (I.base.free b o e n hx)
 ·obtain⟨o',e1⟩:=I.base.there b o e hx
  exact there b o' (neC b o e hx) e1
 ·obtain⟨m1,e1⟩:=I.base.tbls b ps e
  obtain⟨m2,e2⟩:=tbls b _ e1
  exact⟨m1++m2,by rw[e2,Array.append_assoc]⟩
 ·obtain⟨m,hn,hl⟩:=I.loc
  refine⟨m,ns m hn,fun i x v e1 e2 e3=>?_⟩
  obtain⟨u,r,l⟩:=hl i x v e1 e2 e3
  refine⟨u,r,?_⟩
  rcases l with l|⟨k,c,e,z⟩
  ·exact .inl l
  ·exact .inr ⟨k,c,e,cellK x c e _ z⟩
 ·obtain⟨v,z⟩:=I.cell x c e
  exact⟨v,cellK x c e v z⟩
 ·obtain⟨m,⟨o,_,_,ho,_⟩,_⟩:=I.loc
  exact free _ o (fun z=>(hch _ z).2.1 rfl) ho I.free
 ·obtain⟨v,o,ho,hd⟩:=I.cell x c e
  exact free c o (fun z=>(hch c z).2.2.1 x c e rfl) ho (I.freeC x c e)
 ·obtain⟨e,n,ne,nf,d⟩:=I.pin p hp
  have nch:p.1∉ch:=fun z=>(hch p.1 z).2.2.2 p hp rfl
  exact⟨keep p.1 p.2 ne nf nch e n,free p.1 p.2 nch e n,ne,nf,d⟩
theorem ak.un{t':Nat}(I:ak X pins σ H s)(u:Un X.fs [] H H' s.heap h')(hok:cx X.prog X.w H' h'):ak X pins σ H' { s with heap:=h',toks:=t' }:=by
 obtain⟨m,⟨o,es,ep,ho,r⟩,_⟩:=id I.loc
 obtain⟨sl,hL⟩:=u.any ho I.free (by simp)
 exact I.step (g':=s.gens) (d':=s.drawn) (ch:=[]) (fun _ z=>nomatch z) (fun b o _ hb _ e n=>u.keep b o e n hb (by simp)) (fun b o _ hb _ e n=>u.slot b o e n hb (by simp)) (fun b o _ e n=>u.free b o e n (by simp)) (fun b o _ e=>u.there b o e (by simp)) u.tups u.frzs u.tbls (fun m' hm=>by
  obtain⟨o',es',ep',ho',r'⟩:=hm
  rw[ho]at ho';cases ho'
  exact⟨_,es',ep',hL,r'⟩) hok I.bare
theorem ak.call{t':Nat}{d':Drawn}(I:ak X pins σ H s)(u:Un (bZ X.stack) ch H H' s.heap h')(hok:cx X.prog X.w H' h')(hg:AllBare g')
  (hch:∀b∈ch,(b∈X.ex\/X.s₀.heap.objs.size<=b)/\b≠X.env.locals/\(∀x c,X.env.cells.lookup x=some c->c≠b)/\∀p∈X.pn++pins,p.1≠b) :
  ak X pins σ H' { s with heap:=h',gens:=g',drawn:=d',toks:=t' }:=by
 obtain⟨m,⟨o,es,ep,ho,r⟩,_⟩:=id I.loc
 obtain⟨sl,hL⟩:=u.any ho I.free fun z=>(hch _ z).2.1 rfl
 exact I.step (ch:=ch) hch (fun b o hL hb hc e n=>u.keep b o e n (fun z=>(Qo.mp (I.stkSub b z)).elim hL hb) hc) (fun b o _ _ hc e n=>u.any e n hc) (fun b o hc e n=>u.free b o e n hc) (fun b o hc e=>u.there b o e hc) u.tups u.frzs u.tbls (fun m' hm=>by
  obtain⟨o',es',ep',ho',r'⟩:=hm
  rw[ho]at ho';cases ho'
  exact⟨_,es',ep',hL,r'⟩) hok hg
theorem ak.turned{t':Nat}(I:ak X pins σ H s)(k:∀b o,b≠it->s.heap.get? b=some o->h'.get? b=some o)(hn:H it=none)(hL:it≠X.env.locals)
  (h1:it∈X.ex\/X.s₀.heap.objs.size<=it) (h2:∀x c,X.env.cells.lookup x=some c->c≠it) (h3:∀p∈X.pn++pins,p.1≠it):ak X pins σ H { s with heap:=h',toks:=t' }:=by
 have nit:∀b u,H b=some u->b≠it:=fun b u e z=>by rw[z,hn]at e;cases e
 refine I.step (g':=s.gens) (d':=s.drawn) (ch:=[it]) (fun b hb=>?_) (fun b o _ _ hc e _=>k b o (fun z=>hc (by simp[z])) e) (fun b o _ _ hc e _=>⟨o.slots,k b o (fun z=>hc (by simp[z])) e⟩) (fun _ _ _ _ n=>n)
  (fun b o hc e=>⟨o,k b o (fun z=>hc (by simp[z])) e⟩) (fun _ _ e=>e) (fun _ _ _ e=>e) (fun b ps e=>⟨#[],by rw[e];simp⟩) (fun m hm=>?_) (fun b u e=>?_) I.bare
 ·have e:b=it:=by simpa using hb
  subst e
  exact⟨h1,hL,h2,h3⟩
 ·obtain⟨o,es,ep,ho,r⟩:=hm
  exact⟨o,es,ep,k _ o (Rv hL) ho,r⟩
 ·refine(I.hok b u e).stay (fun c v hc q=>k c v ?_ q) (fun _ q=>q) fun _ _ q=>q
  rcases hc with z|z
  ·rw[z];exact nit b u e
  ·exact nit c _ z
theorem ak.tok(I:ak X pins σ H s)(t:Nat):ak X pins σ H { s with toks:=t }:=I.un (h':=s.heap) (t':=t) Un.refl I.hok
theorem ak.kept{t':Nat}(I:ak X pins σ H s)(k:∀b u,s.heap.get? b=some u->h'.get? b=some u):ak X pins σ H { s with heap:=h',toks:=t' }:=I.un (Un.kept k) (I.hok.kept k)
theorem ak.laid{o:HO}{t':Nat}(I:ak X pins σ H s)(k:∀b u,s.heap.get? b=some u->h'.get? b=some u)(hp:s.heap.objs.size<=a)(new:aT X.prog X.w (az H a o) h' a o) :
  ak X pins σ (az H a o) { s with heap:=h',toks:=t' }:=I.un (Un.laid k hp (I.hok.fresh hp)) (I.hok.laid k hp new)
theorem ak.write{x e:Addr}{o:HO}{t':Nat}(I:ak X pins σ H s)(mu:DA (H x))(he:e=x\/H e=some (.own x))(k:∀b u,b≠e->s.heap.get? b=some u->h'.get? b=some u)(heo:∃u,h'.get? e=some u)
  (new:aT X.prog X.w (az H x o) h' x o):ak X pins σ (az H x o) { s with heap:=h',toks:=t' }:=I.un (Un.write mu he k heo) (I.hok.write mu he k heo new)
theorem ak.pins_of{pins':List (Addr×Obj)}(I:ak X pins σ H s)(h:∀p∈pins',s.heap.get? p.1=some p.2/\H p.1=none/\p.1≠X.env.locals/\p.1∉X.fs/\∀v,p.2.data ≠ .cell v):ak X pins' σ H s :=
 ⟨I.ok,I.os,I.bare,I.base,I.loc,I.cell,I.free,I.freeC,fun p hp=>(QN.mp hp).elim (fun z=>I.pin p (List.mem_append_left _ z)) (h p),I.hok,I.len⟩
theorem jQ(hN:N.Nodup)(a:N[i]?=some x)(b:N[j]?=some x):i=j:=by
 obtain⟨h1,e1⟩:=Qz.mp a
 obtain⟨h2,e2⟩:=Qz.mp b
 exact(List.getElem_inj hN).mp (e1.trans e2.symm)
theorem yt{Q:Unit->Shared->Prop}(I:ak X pins σ H s)(hN:X.N.Nodup)(hi:X.N[i]?=some x)(hx:wo X.env.scope x)(r:aP v u)
  (h:∀s',ak X pins (σ.set i (some v)) H s'->(∃a,Heap.SameBut a s.heap s'.heap/\(a=X.env.locals\/X.env.cells.lookup x=some a))->Q () s') (hf:X.fn x=true\/X.env.scope.names.lookup x=some .local:=by first|exact .inl rfl|exact .inr rfl|assumption):wpAny M A (storeName X.env x u) Q E s:=by
 obtain⟨m,hn,hl⟩:=id I.loc
 have hcls:(X.env.scope.kind == .class || (X.env.scope.kind == .module&&X.env.locals != X.env.globals))=false:=by rw[I.ok.kind];rfl
 have hiσ:i<σ.length:=by rw[I.len];exact(Qz.mp hi).1
 have cne:=I.cne
 have tracked:∀{a:Addr} {h':Heap},(∃o,s.heap.get? a=some o/\H a=none)->Heap.SameBut a s.heap h'->cx X.prog X.w H h':=fun {a h'} ha hs b ob e=>by
  obtain⟨_,_,hfree⟩:=ha
  refine(I.hok b ob e).stay (fun c w' hc q=>(hs.2 c ?_).trans q) (fun _ q=>q) fun _ _ q=>q
  rintro rfl
  rcases hc with rfl|hc
  ·rw[hfree]at e;cases e
  ·rw[hfree]at hc;cases hc
 rcases hx with hk|hk
 ·refine wpAny_storeName_local hk hn (fun h' hn' hs=>?_) hcls
  obtain⟨oL,_,_,hoL,_⟩:=id hn
  refine h _ ⟨I.ok,I.os,I.bare,⟨fun b o e n hb hx=>?_,fun b o e n hb hx=>?_,I.base.free,fun b o e hx=>?_,I.base.tups,I.base.frzs,I.base.tbls⟩,⟨_,hn',fun j y v' e1 e2 e3=>?_⟩,fun y c e=>?_,I.free,I.freeC,fun p hp=>?_,tracked ⟨oL,hoL,I.free⟩ hs,by simpa using I.len⟩ ⟨_,hs,.inl rfl⟩
  ·exact(hs.2 b (QS (Qv (Qy e) I.ok.above))).trans (I.base.keep b o e n hb hx)
  ·obtain⟨sl,e1⟩:=I.base.slot b o e n hb hx
   exact⟨sl,(hs.2 b (QS (Qv (Qy e) I.ok.above))).trans e1⟩
  ·obtain⟨o',e1⟩:=I.base.there b o e hx
   exact⟨o',(hs.2 b (QS (Qv (Qy e) I.ok.above))).trans e1⟩
  ·by_cases hj:j=i
   ·subst hj
    rw[hi]at e1;cases e1
    rw[RQ hiσ]at e2
    cases e2
    exact⟨u,r,.inl ⟨hk,by simp⟩⟩
   ·rw[Q5 (Rv hj)]at e2
    obtain⟨u',r',q⟩:=hl j y v' e1 e2 e3
    refine⟨u',r',?_⟩
    rcases q with⟨k,e⟩|⟨k,c,e,z⟩
    ·refine .inl ⟨k,?_⟩
     have:y≠x:=fun e=>hj (jQ hN e1 (e ▸ hi))
     simp[this,e]
    ·exact .inr ⟨k,c,e,z.sameBut hs (cne y c e)⟩
  ·obtain⟨w',z⟩:=I.cell y c e
   exact⟨w',z.sameBut hs (cne y c e)⟩
  ·obtain⟨e,n,ne,nf,d⟩:=I.pin p hp
   exact⟨(hs.2 p.1 ne).trans e,n,ne,nf,d⟩
 ·have hfn:X.fn x=true:=by
   rcases hf with z|z
   ·exact z
   ·rw[z]at hk;cases hk
  obtain⟨c,hc⟩:=I.ok.has x (.inl hk)
  obtain⟨w',z⟩:=I.cell x c hc
  refine wpAny_storeName_cell I.ok.kind hk hc z (fun h' hc' hs=>?_)
  obtain⟨oc,hoc,hocd⟩:=id z
  refine h { s with heap:=h' } ⟨I.ok,I.os,I.bare,⟨fun b o e n hb hx=>?_,fun b o e n hb hx=>?_,I.base.free,fun b o e hx=>?_,I.base.tups,I.base.frzs,I.base.tbls⟩,⟨m,hn.sameBut hs (Rv (cne x c hc)),fun j y v' e1 e2 e3=>?_⟩,fun y c' e=>?_,I.free,I.freeC,fun p hp=>?_,tracked ⟨oc,hoc,I.freeC x c hc⟩ hs,by simpa using I.len⟩ ⟨c,hs,.inr hc⟩
  ·exact(hs.2 b (QS (Qv (Qy e) (I.ok.cab x c hfn hc)))).trans (I.base.keep b o e n hb hx)
  ·obtain⟨sl,e1⟩:=I.base.slot b o e n hb hx
   exact⟨sl,(hs.2 b (QS (Qv (Qy e) (I.ok.cab x c hfn hc)))).trans e1⟩
  ·obtain⟨o',e1⟩:=I.base.there b o e hx
   exact⟨o',(hs.2 b (QS (Qv (Qy e) (I.ok.cab x c hfn hc)))).trans e1⟩
  ·by_cases hj:j=i
   ·subst hj
    rw[hi]at e1;cases e1
    rw[RQ hiσ]at e2
    cases e2
    exact⟨u,r,.inr ⟨.inl hk,c,hc,hc'⟩⟩
   ·rw[Q5 (Rv hj)]at e2
    obtain⟨u',r',q⟩:=hl j y v' e1 e2 e3
    refine⟨u',r',?_⟩
    rcases q with q|⟨k,c',e,z'⟩
    ·exact .inl q
    ·refine .inr ⟨k,c',e,z'.sameBut hs ?_⟩
     rintro rfl
     exact hj (jQ hN e1 (I.ok.inj _ _ _ e hc ▸ hi))
  ·by_cases hcc:c'=c
   ·subst hcc;exact⟨_,hc'⟩
   ·obtain⟨w2,z2⟩:=I.cell y c' e
    exact⟨w2,z2.sameBut hs hcc⟩
  ·obtain⟨e,n,ne,nf,d⟩:=I.pin p hp
   refine⟨(hs.2 p.1 ?_).trans e,n,ne,nf,d⟩
   intro q
   rw[q,hoc]at e
   have q':oc=p.2:=QX e
   exact d w' (by rw[<- q'];exact hocd)
theorem ii{Q:Unit->Shared->Prop}(I:ak X pins σ H s)(hN:X.N.Nodup)(hi:X.N[i]?=some x)(hx:wo X.env.scope x)(r:aP v u)
  (h:∀s',ak X pins (σ.set i (some v)) H s'->Q () s') (hf:X.fn x=true\/X.env.scope.names.lookup x=some .local:=by first|exact .inl rfl|exact .inr rfl|assumption):wpAny M A (storeName X.env x u) Q E s :=
 yt I hN hi hx r (fun s' I' _=>h s' I') hf
theorem ak.call'(I:ak X pins σ H s)(ho:s'.os=s.os)(u:Un (bZ X.stack) ch H H' s.heap s'.heap)(hok:cx X.prog X.w H' s'.heap)(hg:AllBare s'.gens)
  (hch:∀b∈ch,(b∈X.ex\/X.s₀.heap.objs.size<=b)/\b≠X.env.locals/\(∀x c,X.env.cells.lookup x=some c->c≠b)/\∀p∈X.pn++pins,p.1≠b):ak X pins σ H' s':=by
 obtain⟨h',g',d',t',o'⟩:=s'
 have e:o'=s.os:=ho
 subst e
 exact I.call (g':=g') (t':=t') (d':=d') u hok hg hch
end
noncomputable abbrev XK:=Value->Option Addr->Hp->Prop
noncomputable abbrev St:=List (Option V)
noncomputable abbrev VK:=V->Hp->Prop
noncomputable abbrev TE:=St->Hp->VK->Prop
noncomputable abbrev TT:=St->Hp->(Bool->Hp->Prop)->Prop
noncomputable abbrev TA:=St->Hp->(List V->Hp->Prop)->Prop
structure kh where
 nx:St->Hp->Prop
 rt:VK
 bk:St->Hp->Prop:=fun _ _=>False
 ct:St->Hp->Prop:=fun _ _=>False
noncomputable abbrev TS:=kh->St->Hp->Prop
noncomputable def EP(X:Cx)(pins:List (Addr×Obj))(σ:St)(Q:VK)(u:Value)(s':Shared):Prop:=∃v H',ak X pins σ H' s'/\aP v u/\Q v H'
noncomputable def TP(X:Cx)(pins:List (Addr×Obj))(σ:St)(Q:Bool->Hp->Prop)(b:Bool)(s':Shared):Prop:=∃H',ak X pins σ H' s'/\Q b H'
noncomputable def AP(X:Cx)(pins:List (Addr×Obj))(σ:St)(Q:List V->Hp->Prop)(us:List Value)(s':Shared):Prop:=∃vs H',ak X pins σ H' s'/\aD vs us/\Q vs H'
noncomputable def SP(X:Cx)(pins:List (Addr×Obj))(D:kh)(f:Flow)(s':Shared):Prop :=
 match f with
 | .next => ∃σ' H',ak X pins σ' H' s'/\D.nx σ' H'
 | .brk => ∃σ' H',ak X pins σ' H' s'/\D.bk σ' H'
 | .cont => ∃σ' H',ak X pins σ' H' s'/\D.ct σ' H'
 | .ret u => ∃v σ' H',ak X pins σ' H' s'/\aP v u/\D.rt v H'
noncomputable def PE(X:Cx)(e:Expr)(t:TE):Prop :=
 ∀(pins:List (Addr×Obj)) (s:Shared) (σ:St) (H:Hp) (Q:VK),ak X pins σ H s->t σ H Q->wpAny (model X.prog X.w) X.A (eval e X.env) (EP X pins σ Q) X.xe s
noncomputable def PT(X:Cx)(e:Expr)(t:TT):Prop :=
 ∀(pins:List (Addr×Obj)) (s:Shared) (σ:St) (H:Hp) (Q:Bool->Hp->Prop),ak X pins σ H s->t σ H Q->wpAny (model X.prog X.w) X.A (isTrue e X.env (eval e X.env)) (TP X pins σ Q) X.xe s
noncomputable def PW(X:Cx)(e:Expr)(t:TT):Prop :=
 ∀(whole:Sem Value) (pins:List (Addr×Obj)) (s:Shared) (σ:St) (H:Hp) (Q:Bool->Hp->Prop),ak X pins σ H s->t σ H Q->wpAny (model X.prog X.w) X.A (isTrue e X.env whole) (TP X pins σ Q) X.xe s
theorem PW.pt{X:Cx}{t:TT}(h:PW X e t):PT X e t:=h _
noncomputable def PA(X:Cx)(es:List Expr)(t:TA):Prop :=
 ∀(pos:Pos) (pins:List (Addr×Obj)) (s:Shared) (σ:St) (H:Hp) (Q:List V->Hp->Prop),ak X pins σ H s->t σ H Q->wpAny (model X.prog X.w) X.A (spliced (backTo pos (starEach es X.env))) (AP X pins σ Q) X.xe s
noncomputable def PS(X:Cx)(st:Stmt)(t:TS):Prop :=
 ∀(pins:List (Addr×Obj)) (s:Shared) (σ:St) (H:Hp) (D:kh),ak X pins σ H s->t D σ H->wpAny (model X.prog X.w) X.A (exec st X.env) (SP X pins D) X.xe s
noncomputable def cZ(X:Cx)(st:List Stmt)(t:TS):Prop :=
 ∀(pins:List (Addr×Obj)) (s:Shared) (σ:St) (H:Hp) (D:kh),ak X pins σ H s->t D σ H->wpAny (model X.prog X.w) X.A (execs st X.env) (SP X pins D) X.xe s
theorem aN{t:Sem α}{Q Q':α->Shared->Prop}(h:wpAny M A t Q E s)(hQ:∀a s,Q a s->Q' a s):wpAny M A t Q' E s:=Rb h hQ fun _ _ x=>x
variable{Q:VK}{σ:St}{t te tl:TE}{X:Cx}{tc:TT}{ta:TA}{tb:TS}
section
theorem L8{a b:Expr}{ta tb:TE}(ha:PE X a ta)(hb:PE X b tb)(I:ak X pins σ H s)(h:ta σ H fun x H1=>tb σ H1 fun y H2=>R x y H2)
  {Q:α->Shared->Prop} {f:Value->Value->Sem α}
  (hf:∀v u s2 x y H2,ak X pins σ H2 s2->aP x v->aP y u->R x y H2->wpAny (model X.prog X.w) X.A (f v u) Q X.xe s2) :
  wpAny (model X.prog X.w) X.A (eval a X.env) (fun v s₁=>wpAny (model X.prog X.w) X.A (eval b X.env) (fun u s₂=>wpAny (model X.prog X.w) X.A (f v u) Q X.xe s₂) X.xe s₁) X.xe s:=by
 refine aN (ha pins s σ H _ I h) fun v s1 ⟨x,H1,I1,r1,q1⟩=>?_
 refine aN (hb pins s1 σ H1 _ I1 q1) fun u s2 ⟨y,H2,I2,r2,q2⟩=>?_
 exact hf v u s2 x y H2 I2 r1 r2 q2
noncomputable def iY(i:Nat):TE:=fun σ H Q => ∃v,σ[i]?=some (some v)/\Q v H
noncomputable def tC(v:V):TE:=fun _ H Q=>Q v H
theorem fh(hN:X.N[i]?=some x)(hv:eZ X.env.scope x)(hd:(x==("__debug__" : Str))=false:=by decide)(hcd:(x==("__classdict__" : Str))=false:=by decide):PE X (.Name x pos) (iY i):=by
 intro pins s σ H Q I h
 obtain⟨v,e,h⟩:=h
 obtain⟨m,hn,hl⟩:=I.loc
 obtain⟨u,r,l⟩:=hl i x v hN e hv
 have fin:EP X pins σ Q u s:=⟨v,H,I,r,h⟩
 rcases l with⟨hk,hm⟩|⟨hk,c,hc,hcell⟩
 ·exact wpAny_Name (wpAny_loadName_local I.ok.kind hk hn hm fin) hd
 ·rcases hk with hk|hk
  ·exact wpAny_Name (wpAny_loadName_cell I.ok.kind hk hc hcell fin) hd
  ·exact wpAny_Name (wpAny_loadName_free I.ok.kind hk hc hcell fin hcd) hd
theorem Ht{i j pos}:PE X (.Constant (.int i) j pos) (tC (.int i)):=fun _ _ _ H _ I h=>wpAny_Constant_int ⟨.int i,H,I.tok _,⟨_,rfl⟩,h⟩
theorem K8{b j pos}:PE X (.Constant (.bool b) j pos) (tC (.bl b)):=fun _ _ _ H _ I h=>Constant_bool ⟨.bl b,H,I,rfl,h⟩
theorem Hr{j pos}:PE X (.Constant .none j pos) (tC .non):=fun _ _ _ H _ I h=>Constant_none ⟨.non,H,I,rfl,h⟩
theorem Hn{x j pos}:PE X (.Constant (.str x) j pos) (tC (.str x)):=fun _ _ _ H _ I h=>Calls.Constant_str ⟨.str x,H,I.tok _,⟨_,rfl⟩,h⟩
noncomputable def Gl(X:Cx)(x:Str):Prop:=X.env.kindOf x=some .globalImplicit
theorem dW{Q:Value->Shared->Prop}(I:ak X pins σ H s)(hg:Gl X x)(hm:X.mg x=some u)(h:Q u s)
  (hd:(x==("__debug__" : Str))=false:=by decide):wpAny (model X.prog X.w) X.A (eval (.Name x pos) X.env) Q E s :=
 Calls.Name_function_global I.ok.kind hg (Calls.loadGlobal_global (by rw[I.ok.glob];exact I.mod.glob.keeps I.bk) hm h) hd
theorem io{Q:Value->Shared->Prop}(I:ak X pins σ H s)(hg:Gl X x)(hm:X.mg x=none)(hv:bootBuiltins x=some u)(h:Q u s)
  (hn:x ≠ "__name__" := by decide) (hd:(x==("__debug__" : Str))=false:=by decide):wpAny (model X.prog X.w) X.A (eval (.Name x pos) X.env) Q E s:=by
 obtain⟨mb,h1,h2⟩:=I.mod.blt
 exact Calls.Name_function_global I.ok.kind hg (Calls.loadGlobal_builtin (by rw[I.ok.glob];exact I.mod.glob.keeps I.bk) hm (by rw[I.ok.blt];exact h1.keeps I.bk) ((h2 x hn).trans hv) h) hd
theorem EL(hg:Gl X x)(hm:X.mg x=some u)(r:aP v u)(hd:(x==("__debug__" : Str))=false:=by decide):PE X (.Name x pos) (tC v) :=
 fun _ _ _ H _ I h=>dW I hg hm ⟨v,H,I,r,h⟩ hd
theorem EN(hg:Gl X x)(hm:X.mg x=none)(hv:bootBuiltins x=some u)(r:aP v u)(hn:x ≠ "__name__" := by decide)(hd:(x==("__debug__" : Str))=false:=by decide):PE X (.Name x pos) (tC v) :=
 fun _ _ _ H _ I h=>io I hg hm hv ⟨v,H,I,r,h⟩ hn hd
variable{a b:Expr}{ta tb:TE}
noncomputable def tB(t:TE):TT:=fun σ H Q=>t σ H fun x H1 => ∃c,x=.bl c/\Q c H1
theorem Hc(h:PE X e t)(he:∀whole,isTrue e X.env whole=(do let v <- whole;standAt e.pos;holding [v] (truthy v)):=by intro _;rfl):PT X e (tB t):=by
 intro pins s σ H Q I hw
 refine isTrue_plain (aN (h pins s σ H _ I hw) fun v s1 ⟨x,H1,I1,r1,q1⟩=>?_) (he _)
 obtain⟨d,rfl,q⟩:=q1
 cases r1
 exact Ru ⟨H1,I1,q⟩
variable{tA tB':TT}{be:List Expr}
noncomputable def Mt(t u:TT):TT:=fun σ H Q=>t σ H fun c H1=>if c=true then u σ H1 Q else Q false H1
noncomputable def P4(t u:TT):TT:=fun σ H Q=>t σ H fun c H1=>if c=true then Q true H1 else u σ H1 Q
noncomputable def Mn(t:TT):TT:=fun σ H Q=>t σ H fun c H1=>Q (!c) H1
theorem Es(ha:PT X a tA):PW X (.BoolOp .And [a] pos) tA:=by
 intro wh pins s σ H Q I h
 refine isTrue_and (aN (ha pins s σ H Q I h) fun c s1 e=>?_)
 cases c with
 | true=>exact isTrue_and_nil e
 | false=>exact e
theorem Hb(ha:PT X a tA):PW X (.BoolOp .Or [a] pos) tA:=by
 intro wh pins s σ H Q I h
 refine isTrue_or (aN (ha pins s σ H Q I h) fun c s1 e=>?_)
 cases c with
 | false=>exact isTrue_or_nil e
 | true=>exact e
theorem yO(ha:PT X a tA)(hb:PW X (.BoolOp .And (b::be) pos) tB'):PW X (.BoolOp .And (a::b::be) pos) (Mt tA tB'):=by
 intro wh pins s σ H Q I h
 refine isTrue_and (aN (ha pins s σ H _ I h) fun c s1 ⟨H1,I1,q1⟩=>?_)
 cases c with
 | true=>exact hb wh pins s1 σ H1 Q I1 q1
 | false=>exact⟨H1,I1,q1⟩
theorem CI(ha:PT X a tA)(hb:PW X (.BoolOp .Or (b::be) pos) tB'):PW X (.BoolOp .Or (a::b::be) pos) (P4 tA tB'):=by
 intro wh pins s σ H Q I h
 refine isTrue_or (aN (ha pins s σ H _ I h) fun c s1 ⟨H1,I1,q1⟩=>?_)
 cases c with
 | true=>exact⟨H1,I1,q1⟩
 | false=>exact hb wh pins s1 σ H1 Q I1 q1
theorem Hd(ha:PT X a tA):PT X (.UnaryOp .Not a pos) (Mn tA):=by
 intro pins s σ H Q I h
 exact isTrue_not (ha pins s σ H (fun c H1=>Q (!c) H1) I h)
noncomputable def KQ(ta tb:TE):TE:=fun σ H Q=>ta σ H fun x H1 => ∃c,x=.bl c/\if c=true then tb σ H1 Q else Q (.bl false) H1
noncomputable def Mm(ta tb:TE):TE:=fun σ H Q=>ta σ H fun x H1 => ∃c,x=.bl c/\if c=true then Q (.bl true) H1 else tb σ H1 Q
noncomputable def KM(ta:TE):TE:=fun σ H Q=>ta σ H fun x H1 => ∃c,x=.bl c/\Q (.bl (!c)) H1
theorem Ho{op}(h:PE X a t):PE X (.BoolOp op [a] pos) t:=fun pins s σ H Q I hw=>BoolOp_one (h pins s σ H Q I hw)
theorem yY(ha:PE X a ta)(hb:PE X (.BoolOp .And (b::be) pos) tb):PE X (.BoolOp .And (a::b::be) pos) (KQ ta tb):=by
 intro pins s σ H Q I h
 refine BoolOp_and (aN (ha pins s σ H _ I h) fun v s1 ⟨x,H1,I1,r1,q1⟩=>?_)
 obtain⟨c,rfl,q1⟩:=q1
 cases r1
 refine Ru ?_
 cases c with
 | true=>exact hb pins s1 σ H1 Q I1 q1
 | false=>exact⟨.bl false,H1,I1,rfl,q1⟩
theorem CM(ha:PE X a ta)(hb:PE X (.BoolOp .Or (b::be) pos) tb):PE X (.BoolOp .Or (a::b::be) pos) (Mm ta tb):=by
 intro pins s σ H Q I h
 refine BoolOp_or (aN (ha pins s σ H _ I h) fun v s1 ⟨x,H1,I1,r1,q1⟩=>?_)
 obtain⟨c,rfl,q1⟩:=q1
 cases r1
 refine Ru ?_
 cases c with
 | false=>exact hb pins s1 σ H1 Q I1 q1
 | true=>exact⟨.bl true,H1,I1,rfl,q1⟩
theorem Hq(ha:PE X a ta):PE X (.UnaryOp .Not a pos) (KM ta):=by
 intro pins s σ H Q I h
 refine UnaryOp_ (aN (ha pins s σ H _ I h) fun v s1 ⟨x,H1,I1,r1,q1⟩=>?_)
 obtain⟨c,rfl,q1⟩:=q1
 cases r1
 exact not_of (Ru ⟨.bl (!c),H1,I1,rfl,q1⟩)
end
noncomputable def bT(K:W.Frag)(H:Hp)(a:Addr)(xs:List V):Prop :=
 Rd H a (.lst xs) \/
  ∃(o:Obj) (its:Array Value) (n:Nat),K.lookup a=some o/\o.cls=.type "list" /\ o.dict=none/\o.data=.seq its n/\its.size<=sizeLine/\aD xs its.toList
noncomputable def ba(K:W.Frag)(H:Hp)(a:Addr)(xs:List V):Prop :=
 Rd H a (.tup xs) \/
  ∃(o:Obj) (its:Array Value) (n:Nat),K.lookup a=some o/\o.cls=.type "tuple" /\ o.dict=none/\o.data=.seq its n/\its.size<=sizeLine/\aD xs its.toList
noncomputable def PN:Value->Option V
 | .none=>some .non
 | .bool b=>some (.bl b)
 | .int i _=>some (.int i)
 | .str x _=>some (.str x)
 | .bytes b _=>some (.byt b)
 | .float b _=>some (.flt b)
 | .ref a=>some (.ref a)
 | .type n=>some (.ty n)
 | _=>none
theorem aP.abs{x:V}(r:aP x u):PN u=some x:=by
 cases x with
 | non=>cases r;rfl
 | bl _=>cases r;rfl
 | int _=>obtain⟨t,rfl⟩:=r;rfl
 | str _=>obtain⟨t,rfl⟩:=r;rfl
 | byt _=>obtain⟨t,rfl⟩:=r;rfl
 | flt _=>obtain⟨t,rfl⟩:=r;rfl
 | ref _=>cases r;rfl
 | ty _=>cases r;rfl
theorem aP.inj{x:V}(r:aP x u)(q:aP y u):x=y:=QX (r.abs.symm.trans q.abs)
theorem aD.inj:∀{xs ys:List V} {us:List Value},aD xs us->aD ys us->xs=ys
 | _,_,_,.nil,.nil=>rfl
 | _,_,_,.cons r t,.cons r' t'=>by rw[r.inj r',aD.inj t t']
section
variable{xs ys:List V}
theorem bT.of(h:H a=some (.lst xs)):bT K H a xs:=.inl (.inl h)
theorem ba.of(h:H a=some (.tup xs)):ba K H a xs:=.inl (.inl h)
theorem ak.list(I:ak X pins σ H s)(h:bT X.K H a xs):∃its:List Value,aD xs its/\PlainL s.heap a its.toArray/\xs.length<=sizeLine:=by
 rcases h with h|⟨o,its,n,hk,hc,hd,hs,hz,r⟩
 ·obtain⟨z,its,n,r,e⟩:=h.ok I.hok
  exact⟨its,r,⟨_,n,e,rfl,rfl,rfl⟩,z⟩
 ·refine⟨its.toList,r,⟨o,n,I.kIn a o hk,hc,hd,by simpa using hs⟩,?_⟩
  have e:=r.length
  simp only[Qs]at e
  omega
theorem ak.tuple(I:ak X pins σ H s)(h:ba X.K H a xs):∃its:List Value,aD xs its/\IsTup s.heap a its.toArray/\xs.length<=sizeLine:=by
 rcases h with h|⟨o,its,n,hk,hc,hd,hs,hz,r⟩
 ·obtain⟨z,its,r,p⟩:=h.ok I.hok
  exact⟨its,r,p.1,z⟩
 ·refine⟨its.toList,r,⟨o,I.kIn a o hk,hc,n,by simpa using hs⟩,?_⟩
  have e:=r.length
  simp only[Qs]at e
  omega
theorem ak.tupN(I:ak X pins σ H s)(h:ba X.K H a xs):∃o,s.heap.get? a=some o/\o.cls=.type "tuple" /\ o.dict=none:=by
 obtain h|⟨o,_,_,hk,hc,hd,_⟩:=h
 ·obtain⟨z,its,r,⟨o,e,c,_⟩,o2,e2,d⟩:=h.ok I.hok
  rw[e]at e2;cases e2
  exact⟨o,e,c,d⟩
 ·exact⟨o,I.kIn a o hk,hc,hd⟩
theorem ak.list_inj(I:ak X pins σ H s)(h:bT X.K H a xs)(h':bT X.K H a ys):xs=ys:=by
 obtain⟨its,r,⟨o,n,e,_,_,d⟩,_⟩:=I.list h
 obtain⟨its',r',⟨o',n',e',_,_,d'⟩,_⟩:=I.list h'
 rw[e]at e';cases e'
 rw[d]at d'
 injection d' with d1 _
 have:its=its':=by simpa using Rq Array.toList d1
 subst this
 exact r.inj r'
theorem ak.tuple_inj(I:ak X pins σ H s)(h:ba X.K H a xs)(h':ba X.K H a ys):xs=ys:=by
 obtain⟨its,r,⟨o,e,_,n,d⟩,_⟩:=I.tuple h
 obtain⟨its',r',⟨o',e',_,n',d'⟩,_⟩:=I.tuple h'
 rw[e]at e';cases e'
 rw[d]at d'
 injection d' with d1 _
 have:its=its':=by simpa using Rq Array.toList d1
 subst this
 exact r.inj r'
end
noncomputable abbrev Cx.wish(X:Cx)(E:Value->Shared->Prop):Cx:={ X with xe:=E }
noncomputable abbrev Cx.nox(X:Cx):Cx:=X.wish fun _ _=>False
theorem Cx.Ok.wish(ok:X.Ok)(E:Value->Shared->Prop):(X.wish E).Ok :=
 ⟨ok.mod,ok.kind,ok.glob,ok.blt,ok.above,ok.inj,ok.has,ok.cab,ok.hd,ok.frames,ok.stk,ok.exf,ok.bs,ok.bsz,ok.noex,ok.exfs,ok.funs,ok.frf⟩
theorem Cx.Ok.unwish(ok:(X.wish E).Ok):X.Ok :=
 ⟨ok.mod,ok.kind,ok.glob,ok.blt,ok.above,ok.inj,ok.has,ok.cab,ok.hd,ok.frames,ok.stk,ok.exf,ok.bs,ok.bsz,ok.noex,ok.exfs,ok.funs,ok.frf⟩
section
theorem ak.wish(I:ak X pins σ H s)(E:Value->Shared->Prop):ak (X.wish E) pins σ H s:=⟨I.ok.wish E,I.os,I.bare,I.base,I.loc,I.cell,I.free,I.freeC,I.pin,I.hok,I.len⟩
theorem ak.unwish(I:ak (X.wish E) pins σ H s):ak X pins σ H s:=⟨I.ok.unwish,I.os,I.bare,I.base,I.loc,I.cell,I.free,I.freeC,I.pin,I.hok,I.len⟩
theorem SP.unwish{D:kh}{f:Flow}(h:SP (X.wish E) pins D f s'):SP X pins D f s':=by
 cases f with
 | next=>obtain⟨σ',H',I,q⟩:=h;exact⟨σ',H',I.unwish,q⟩
 | brk=>obtain⟨σ',H',I,q⟩:=h;exact⟨σ',H',I.unwish,q⟩
 | cont=>obtain⟨σ',H',I,q⟩:=h;exact⟨σ',H',I.unwish,q⟩
 | ret u=>obtain⟨v,σ',H',I,r,q⟩:=h;exact⟨v,σ',H',I.unwish,r,q⟩
theorem PE.nox(h:PE X.nox e t):PE X e t:=fun pins s σ H Q I hw =>
 Rb (h pins s σ H Q (I.wish _) hw) (fun _ _ ⟨v,H',I',r,q⟩=>⟨v,H',I'.unwish,r,q⟩) fun _ _ z=>False.elim z
theorem PT.nox{t:TT}(h:PT X.nox e t):PT X e t:=fun pins s σ H Q I hw =>
 Rb (h pins s σ H Q (I.wish _) hw) (fun _ _ ⟨H',I',q⟩=>⟨H',I'.unwish,q⟩) fun _ _ z=>False.elim z
theorem cZ.nox{st:List Stmt}{t:TS}(h:cZ X.nox st t):cZ X st t:=fun pins s σ H D I hw =>
 Rb (h pins s σ H D (I.wish _) hw) (fun _ _ q=>q.unwish) fun _ _ z=>False.elim z
end
section
variable{st:Stmt}{be:List Stmt}{t u:TS}
noncomputable def CA:TS:=fun D σ H=>D.nx σ H
noncomputable def Mi(t u:TS):TS:=fun D σ H=>t { D with nx:=u D } σ H
theorem qe:cZ X [] CA:=fun _ _ σ H _ I h=>So ⟨σ,H,I,h⟩
theorem df(h1:PS X st t)(h2:cZ X be u):cZ X (st::be) (Mi t u):=by
 intro pins s σ H D I h
 refine wpAny_execs_cons (aN (h1 pins s σ H { D with nx:=u D } I h) fun f s1 q=>?_)
 cases f with
 | next =>
  obtain⟨σ',H',I',q⟩:=q
  exact h2 pins s1 σ' H' D I' q
 | ret v=>exact q
 | brk=>exact q
 | cont=>exact q
theorem Ey(h1:PS X st t):cZ X [st] t:=by
 intro pins s σ H D I h
 refine wpAny_execs_cons (aN (h1 pins s σ H D I h) fun f s1 q=>?_)
 cases f with
 | next=>exact So q
 | ret v=>exact q
 | brk=>exact q
 | cont=>exact q
noncomputable def GC:TS:=fun D σ H=>D.bk σ H
noncomputable def KO:TS:=fun D σ H=>D.ct σ H
theorem EB:PS X (.Pass pos) CA:=fun _ _ σ H _ I h=>wpAny_Pass ⟨σ,H,I,h⟩
theorem Bp:PS X (.Break pos) GC:=fun _ _ σ H _ I h=>wpAny_Break ⟨σ,H,I,h⟩
theorem uP:PS X (.Continue pos) KO:=fun _ _ σ H _ I h=>wpAny_Continue ⟨σ,H,I,h⟩
theorem ak.quiet(I:ak X pins σ H s):interactive X.env=false:=by simp[interactive,I.ok.kind]
noncomputable def KN(te:TE):TS:=fun D σ H=>te σ H fun _ H1=>D.nx σ H1
theorem jl(he:PE X e te)(hs:swapsWith e none pos.line X.env=pure false:=by rfl):PS X (.Expr e pos) (KN te):=by
 intro pins s σ H D I h
 exact wpAny_Expr_any (aN (he pins s σ H _ I h) fun v s1 ⟨x,H1,I1,r1,q1⟩=>⟨σ,H1,I1,q1⟩) I.quiet hs
noncomputable def Mj(te:TE):TS:=fun D σ H=>te σ H D.rt
theorem sE(he:PE X e te):PS X (.Return (some e) pos) (Mj te):=by
 intro pins s σ H D I h
 exact wpAny_Return_some (aN (he pins s σ H _ I h) fun v s1 ⟨x,H1,I1,r1,q1⟩=>⟨x,σ,H1,I1,r1,q1⟩)
noncomputable def KK:TS:=fun D _ H=>D.rt .non H
theorem EA:PS X (.Return none pos) KK:=fun _ _ σ H _ I h=>wpAny_Return_none ⟨.non,σ,H,I,rfl,h⟩
noncomputable def Mq(c:TT)(t u:TS):TS:=fun D σ H=>c σ H fun b H1=>if b=true then t D σ H1 else u D σ H1
theorem wR{a b:List Stmt}(hc:PT X c tc)(ha:cZ X a t)(hb:cZ X b u):PS X (.If c a b pos) (Mq tc t u):=by
 intro pins s σ H D I h
 refine wpAny_If (aN (hc pins s σ H _ I h) fun d s1 ⟨H1,I1,q1⟩=>?_)
 cases d with
 | true=>exact ha pins s1 σ H1 D I1 q1
 | false=>exact hb pins s1 σ H1 D I1 q1
noncomputable def GB:TS:=fun _ _ _=>False
theorem gB{sts:List Stmt}:cZ X sts GB:=fun _ _ _ _ _ _ h=>h.elim
end
noncomputable abbrev TG:=V->St->Hp->(St->Hp->Prop)->Prop
noncomputable abbrev pQ:=List V->St->Hp->(St->Hp->Prop)->Prop
noncomputable def PG(X:Cx)(target:Expr)(t:TG):Prop :=
 ∀(pins:List (Addr×Obj)) (s:Shared) (σ:St) (H:Hp) (v:V) (u:Value) (Q:St->Hp->Prop),ak X pins σ H s->aP v u->t v σ H Q ->
  wpAny (model X.prog X.w) X.A (assign target X.env u) (fun _ s' => ∃σ' H',ak X pins σ' H' s'/\Q σ' H') X.xe s
noncomputable def wm(X:Cx)(ts:List Expr)(t:pQ):Prop :=
 ∀(pins:List (Addr×Obj)) (s:Shared) (σ:St) (H:Hp) (vs:List V) (us:List Value) (Q:St->Hp->Prop),ak X pins σ H s->aD vs us->t vs σ H Q ->
  wpAny (model X.prog X.w) X.A (assignInOrder ((assignEach ts X.env).map (·.2)) us) (fun _ s' => ∃σ' H',ak X pins σ' H' s'/\Q σ' H') X.xe s
noncomputable abbrev xS:=V->V->V->Hp->(Hp->Prop)->Prop
noncomputable def xV(X:Cx)(t:xS):Prop :=
 ∀(pins:List (Addr×Obj)) (s:Shared) (σ:St) (H:Hp) (o i v:V) (ov iv u:Value) (Q:Hp->Prop),ak X pins σ H s->aP o ov->aP i iv->aP v u->t o i v H Q ->
  wpAny (model X.prog X.w) X.A (setItem ov iv u) (fun _ s' => ∃H',ak X pins σ H' s'/\Q H') X.xe s
noncomputable abbrev L9:=V->V->Hp->VK->Prop
noncomputable def PIp(X:Cx)(op:Operator)(t:L9):Prop :=
 ∀(pins:List (Addr×Obj)) (s:Shared) (σ:St) (H:Hp) (x y:V) (v u:Value) (Q:VK),ak X pins σ H s->aP x v->aP y u->t x y H Q ->
  wpAny (model X.prog X.w) X.A (inplaceOp op v u) (EP X pins σ Q) X.xe s
section
noncomputable def Dh(i:Nat):TG:=fun v σ H Q=>Q (σ.set i (some v)) H
theorem g7(hN:X.N.Nodup)(hi:X.N[i]?=some x)(hx:wo X.env.scope x)(hf:X.fn x=true\/X.env.scope.names.lookup x=some .local:=by first|exact .inl rfl|exact .inr rfl|assumption):PG X (.Name x pos) (Dh i):=by
 intro pins s σ H v u Q I r h
 exact wpAny_assign_Name (ii I hN hi hx r (fun s' I'=>⟨_,H,I',h⟩) hf)
noncomputable def OI:pQ:=fun vs σ H Q=>vs=[]/\Q σ H
noncomputable def Lz(t:TG)(u:pQ):pQ:=fun vs σ H Q => ∃v r,vs=v::r/\t v σ H fun σ' H'=>u r σ' H' Q
theorem vG:wm X [] OI:=by
 intro pins s σ H vs us Q I r h
 obtain⟨e,h⟩:=h
 subst e
 cases r
 exact assignInOrder_nil ⟨σ,H,I,h⟩
theorem n8{t:TG}{u:pQ}(h1:PG X e t)(h2:wm X es u)
  (hs:(assignEach (e::es) X.env).map (·.2)=assign e X.env::(assignEach es X.env).map (·.2):=by rfl):wm X (e::es) (Lz t u):=by
 intro pins s σ H vs us Q I r h
 obtain⟨v,vr,e1,h⟩:=h
 subst e1
 cases r with
 | cons r rr =>
  rw[hs]
  refine assignInOrder_cons (aN (h1 pins s σ H _ _ _ I r h) fun _ s1 ⟨σ1,H1,I1,q1⟩=>?_)
  exact h2 pins s1 σ1 H1 _ _ Q I1 rr q1
noncomputable def OG(K:W.Frag)(n:Nat)(t:pQ):TG:=fun v σ H Q => ∃a xs,v=.ref a/\ba K H a xs/\xs.length=n/\t xs σ H Q
theorem sG{t:pQ}(hc:X.calm=true)(h:wm X es t)
  (hn:(assignEach es X.env).length=n:=by rfl) (hst:(assignEach es X.env).findIdx? (·.1)=none:=by rfl):PG X (.Tuple es k pos) (OG X.K n t):=by
 intro pins s σ H v u Q I r hw
 obtain⟨a,xs,e1,hq,hl,hw⟩:=hw
 subst e1
 cases r
 obtain⟨its,rv,ht,hz⟩:=I.tuple hq
 refine assign_Tuple_tuple (I.ok.hd hc) ht (by simp[hn,<- hl,rv.length]) hst fun h' hx=>?_
 have I1:ak X pins σ H { s with heap:=h' }:=I.kept (t':=s.toks) fun b o e=>hx b o (QS (Qy e)) e
 exact h pins _ σ H xs _ Q I1 (by simpa using rv) hw
noncomputable def OH(to ti:TE)(t:xS):TG:=fun v σ H Q=>to σ H fun o H1=>ti σ H1 fun i H2=>t o i v H2 fun H3=>Q σ H3
theorem sH{o i:Expr}{to ti:TE}{t:xS}(ho:PE X o to)(hi:PE X i ti)(hs:xV X t)
  (ha:∀v,assign (.Subscript o i pos) X.env v=(do
   let ov <- holding [v] (eval o X.env)
   let iv <- holding [v,ov] (eval i X.env)
   standAt pos
   holding [v,ov,iv] (setItem ov iv v)
   release [v,ov,iv] []):=by intro _;rfl):PG X (.Subscript o i pos) (OH to ti t):=by
 intro pins s σ H v u Q I r h
 rw[ha]
 refine Qh (Q7 (aN (ho pins s σ H _ I h) fun ov s1 ⟨x,H1,I1,r1,q1⟩=>?_))
 refine Qh (Q7 (aN (hi pins s1 σ H1 _ I1 q1) fun iv s2 ⟨y,H2,I2,r2,q2⟩=>?_))
 refine Qh (Sj (Qh (Q7 (aN (hs pins s2 σ H2 x y v ov iv u _ I2 r1 r2 r q2) fun _ s3 ⟨H3,I3,q3⟩=>?_))))
 exact wpAny_release ⟨σ,H3,I3,q3⟩
noncomputable def GE(te:TE)(g:TG):TS:=fun D σ H=>te σ H fun x H1=>g x σ H1 D.nx
theorem jn{g:TG}(he:PE X e te)(hg:PG X tg g)(hs:swapsWithSole [tg] e pos.line X.env=pure false:=by rfl)(hw:swappedStores [tg] e X.env=pure none:=by rfl)
  (h1:(assignEach [tg] X.env).map (·.2)=[assign tg X.env]:=by rfl):PS X (.Assign [tg] e pos) (GE te g):=by
 intro pins s σ H D I h
 refine wpAny_Assign_stores (aN (he pins s σ H _ I h) fun v s1 ⟨x,H1,I1,r1,q1⟩=>?_) hs hw
 rw[h1]
 exact aN (hg pins s1 σ H1 x v _ I1 r1 q1) fun _ s2 q=>q
theorem yR{pos':Pos}(hN:X.N.Nodup)(hi:X.N[i]?=some x)(hx:wo X.env.scope x)(he:PE X e te)(hs:swapsWith e (some (.Name x pos')) pos.line X.env=pure false:=by rfl)(hf:X.fn x=true\/X.env.scope.names.lookup x=some .local:=by first|exact .inl rfl|exact .inr rfl|assumption) :
  PS X (.Assign [.Name x pos'] e pos) (GE te (Dh i)):=by
 intro pins s σ H D I h
 refine wpAny_Assign_Name (aN (he pins s σ H _ I h) fun v s1 ⟨y,H1,I1,r1,q1⟩=>?_) hs
 exact ii I1 hN hi hx r1 (fun s2 I2=>⟨_,H1,I2,q1⟩) hf
noncomputable def Ml(i j:Nat)(ta:TA):TS:=fun D σ H=>ta σ H fun vs H1 => ∃v w,vs=[v,w]/\D.nx ((σ.set i (some v)).set j (some w)) H1
theorem He{y:Str}{a b:Expr}{px py pt:Pos}{kt k2 pt2}(hc:X.calm=true)(hN:X.N.Nodup)(hi:X.N[i]?=some x)(hj:X.N[j]?=some y)(hij:i≠j)
  (hx:X.env.scope.names.lookup x=some .local) (hy:X.env.scope.names.lookup y=some .local) (ha:PA X [a,b] ta)
  (hw:swappedStores [.Tuple [.Name x px,.Name y py] kt pt] (.Tuple [a,b] k2 pt2) X.env=pure (some [x,y]))
  (hs:swapsWithSole [.Tuple [.Name x px,.Name y py] kt pt] (.Tuple [a,b] k2 pt2) pos.line X.env=pure false:=by rfl) :
  PS X (.Assign [.Tuple [.Name x px,.Name y py] kt pt] (.Tuple [a,b] k2 pt2) pos) (Ml i j ta):=by
 intro pins s σ H D I h
 rw[exec_Assign_arm]
 refine Qh (Sj ?_)
 rw[hs]
 refine Qh (Qq ?_)
 rw[if_neg (by decide)]
 refine Qh (Tuple_ (aN (ha _ pins s σ H _ I h) fun us s1 ⟨vs,H1,I1,r1,q1⟩=>?_))
 obtain⟨v,w,e1,q1⟩:=q1
 subst e1
 obtain⟨u1,u2,rfl,rv,rw'⟩:∃u1 u2,us=[u1,u2]/\aP v u1/\aP w u2:=by
  cases r1 with
  | cons p q =>
   cases q with
   | cons p' q' =>
    cases q'
    exact⟨_,_,rfl,p,p'⟩
 refine wpAny_newObj_type ?_ (by show 2<=sizeLine;decide)
 have I2:ak X pins σ H1 { s1 with heap:=s1.heap.push { cls:=.type "tuple", data:=.seq [u1,u2].toArray } }:=I1.kept (t':=s1.toks) fun b o e=>Qk _ e
 rw[hw]
 refine Qh (Qq ?_)
 show wpAny (model X.prog X.w) X.A (do rule "assign.swapped-stores"; let items <- unpackItems (.ref s1.heap.objs.size) 2 none;assignInOrder [fun v=>bindName X.env y v,fun v=>bindName X.env x v] items.reverse;pure Flow.next) _ _ _
 refine Qh (wpAny_rule (Qh (unpackItems_tuple (items:=#[u1,u2]) (I.ok.hd hc) (IsTup.new s1.heap _) fun h' hx'=>?_)))
 have I3:=I2.kept (h':=h') (t':=s1.toks) fun b o e=>hx' b o (QS (Qy e)) e
 show wpAny _ _ (assignInOrder [fun v=>bindName X.env y v,fun v=>bindName X.env x v] [u2,u1] >>= fun _=>pure Flow.next) _ _ _
 refine Qh (assignInOrder_cons (wpAny_bindName (ii I3 hN hj (.inl hy) rw' (fun s2 I4=>?_) (.inr hy))))
 refine assignInOrder_cons (wpAny_bindName (ii I4 hN hi (.inl hx) rv (fun s3 I5=>assignInOrder_nil (Qq ?_)) (.inr hx)))
 rw[List.set_comm _ _ (Rv hij)]at I5
 exact⟨_,H1,I5,q1⟩
noncomputable def tAug(i:Nat)(te:TE)(ti:L9):TS:=fun D σ H => ∃x,σ[i]?=some (some x)/\te σ H fun y H1=>ti x y H1 fun z H2=>D.nx (σ.set i (some z)) H2
end
section
noncomputable def Gy(c:TT)(tb:TS):TS:=fun D σ H => ∃W:Nat->St->Hp->Prop,(∃m,W m σ H)/\∀m σ H,W m σ H ->
 c σ H fun b H1=>if b=true then ∃N:St->Hp->Prop,(∀σ' H',N σ' H'->∃m',m' < m/\W m' σ' H')/\tb { D with nx:=N,ct:=N,bk:=D.nx } σ H1 else D.nx σ H1
theorem Bo(hp:PassesOwn (model X.prog X.w) X.A X.env X.xe)(hc:PT X c tc)(hb:cZ X body tb):PS X (.While c body [] pos) (Gy tc tb):=by
 intro pins s σ H D I h
 obtain⟨W,⟨m0,w0⟩,turn⟩:=h
 refine wpAny_While (codeAny_whileLoop (fun n s' => ∃σ' H',ak X pins σ' H' s'/\W n σ' H') ?_ m0 ⟨σ,H,I,w0⟩)
 rintro n s1 ⟨σ1,H1,I1,w1⟩
 refine Sd hp (aN (hc pins s1 σ1 H1 _ I1 (turn n σ1 H1 w1)) fun b s2 ⟨H2,I2,q2⟩=>?_)
 cases b with
 | true =>
  obtain⟨N,hN,q2⟩:=q2
  rw[if_pos rfl]
  refine Sd hp (aN (hb pins s2 σ1 H2 _ I2 q2) fun f s3 q3=>?_)
  cases f with
  | next =>
   obtain⟨σ3,H3,I3,n3⟩:=q3
   obtain⟨m',hm,w3⟩:=hN σ3 H3 n3
   exact⟨m',hm,σ3,H3,I3,w3⟩
  | cont =>
   obtain⟨σ3,H3,I3,n3⟩:=q3
   obtain⟨m',hm,w3⟩:=hN σ3 H3 n3
   exact⟨m',hm,σ3,H3,I3,w3⟩
  | brk=>exact q3
  | ret v=>exact q3
 | false =>
  rw[if_neg QL]
  exact So ⟨σ1,H2,I2,q2⟩
end
structure It where
 go:Nat->Hp->Prop
 yld:Nat->Hp->V->Hp->Prop
 stop:Nat->Hp->Prop
noncomputable def jb(X:Cx)(pins:List (Addr×Obj))(H:Hp)(b:Addr):Prop :=
 H b=none/\b≠X.env.locals/\b∉X.fs/\(b∈X.ex\/X.s₀.heap.objs.size<=b)/\(∀x c,X.env.cells.lookup x=some c->c≠b)/\∀p∈X.pn++pins,p.1≠b
theorem ak.fpOk{H':Hp}(I:ak X pins σ H s)(hb:s.heap.objs.size<=b)(hn:H' b=none):jb X pins H' b:=by
 refine⟨hn,SC (Qv I.lt hb),I.nofs hb,.inr (QA I.sz hb),fun x c e z=>?_,fun p hp z=>?_⟩
 ·obtain⟨v,q⟩:=I.cell x c e
  exact absurd (Qv q.lt (by rw[z];exact hb)) (Rh _)
 ·exact absurd (Qv (Qy (I.pin p hp).1) (by rw[z];exact hb)) (Rh _)
structure Turn(P:Program)(w:World)(K:W.Frag)(tg:Expr)(J:It)(fp:List Addr)(it:Addr)(tn:Nat->Heap->Prop):Prop where
 mem:it∈fp
 obj:∀i h,tn i h->∀b∈fp,∃o,h.get? b=some o/\∀v,o.data ≠ .cell v
 keep:∀i h h',tn i h->(∀b∈fp,∀o,h.get? b=some o->h'.get? b=some o)->tn i h'
 item:∀(X:Cx),X.prog=P->X.w=w->X.K=K->X.calm=true->∀(i:Nat) (pins:List (Addr×Obj)) (s:Shared) (σ:St) (H:Hp) (E:Value->Shared->Prop),ak X pins σ H s->(∀b∈fp,jb X pins H b)->tn i s.heap->J.go i H ->
  wpAny (model P w) X.A (pyNext (.ref it)) (fun r s1 => ∃u,r=some u /\
   wpAny (model P w) X.A (letOwnedTupleGo tg (.ref it) u) (fun _ s2 => ∃x H',ak X pins σ H' s2/\aP x u/\J.yld i H x H'/\tn (i+1) s2.heap/\∀b∈fp,H' b=none) E s1) E s
 done:∀(X:Cx),X.prog=P->X.w=w->X.K=K->X.calm=true->∀(i:Nat) (pins:List (Addr×Obj)) (s:Shared) (σ:St) (H:Hp) (E:Value->Shared->Prop),ak X pins σ H s->(∀b∈fp,jb X pins H b)->tn i s.heap->J.stop i H ->
  wpAny (model P w) X.A (pyNext (.ref it)) (fun r s1=>r=none/\ak X pins σ H s1) E s
 self:∀(A:Around) (i:Nat) (s:Shared) (Q:Value->Shared->Prop) (E:Value->Shared->Prop),tn i s.heap->Q (.ref it) s->wpAny (model P w) A (pyIter (.ref it)) Q E s
noncomputable abbrev TI:=St->Hp->(It->Hp->Prop)->Prop
noncomputable def Ku(X:Cx)(pins:List (Addr×Obj))(σ:St)(tg:Expr)(R:It->Hp->Prop)(itv:Value)(s2:Shared):Prop :=
 ∃(it:Addr) (fp:List Addr) (tn:Nat->Heap->Prop) (J:It) (H':Hp),itv=.ref it/\ak X pins σ H' s2/\Turn X.prog X.w X.K tg J fp it tn/\tn 0 s2.heap/\(∀b∈fp,jb X pins H' b)/\R J H'
noncomputable def PI(X:Cx)(tg iter:Expr)(wi:TI):Prop :=
 ∀(pins:List (Addr×Obj)) (s:Shared) (σ:St) (H:Hp) (R:It->Hp->Prop),ak X pins σ H s->wi σ H R ->
  wpAny (model X.prog X.w) X.A (eval iter X.env) (fun v s1=>wpAny (model X.prog X.w) X.A (pyIter v) (Ku X pins σ tg R) X.xe s1) X.xe s
theorem jW{n:String}{vs:Array Value}{Q:Unit->Shared->Prop}(ho:s.heap.get? it=some o)(hc:o.cls=.type n)(hd:o.data=.fields vs)
    (hn:["enumerate", "zip", "dict_itemiterator", "dict_reverseitemiterator", "odict_iterator", "itertools.zip_longest", "itertools.pairwise"].contains n=false) (hQ:Q () s):wpAny M A (letOwnedTupleGo tg (.ref it) u) Q E s:=by
  unfold letOwnedTupleGo
  cases tg<;>first
    | exact Qq hQ
    | (cases u<;>first
        | exact Qq hQ
        | (refine Qh (wpAny_load ho ?_)
           rw[hc,hd]
           show wpAny M A (if (["enumerate", "zip", "dict_itemiterator", "dict_reverseitemiterator", "odict_iterator", "itertools.zip_longest", "itertools.pairwise"].contains n&&vs[0]? == some (rawInt _))=true then _ else _) Q E s
           rw[if_neg (by intro h;rw[hn,Bool.false_and]at h;cases h)]
           exact Qq hQ))
noncomputable def Mc(K:W.Frag)(a:Addr):It :=
 ⟨fun i H => ∃xs x,bT K H a xs/\xs[i]?=some x,fun i H x H'=>H'=H/\∀xs,bT K H a xs->xs[i]?=some x,fun i H => ∃xs,bT K H a xs/\xs.length<=i⟩
noncomputable def Mb(K:W.Frag)(a:Addr):It :=
 ⟨fun i H => ∃xs x,ba K H a xs/\xs[i]?=some x,fun i H x H'=>H'=H/\∀xs,ba K H a xs->xs[i]?=some x,fun i H => ∃xs,ba K H a xs/\xs.length<=i⟩
noncomputable def DC(lo:Int)(n:Nat):It:=⟨fun i _=>i<n,fun i H x H'=>H'=H/\x=.int (lo+i),fun i _=>n<=i⟩
theorem yh(a it:Addr):Turn P w K tg (Mc K a) [it] it (fun i h=>h.IsListIter it a i) where
 mem:=by simp
 obj:=fun i h st b hb=>by
  have e:b=it:=by simpa using hb
  subst e
  obtain⟨o,e,c,d⟩:=st
  exact⟨o,e,fun v z=>by rw[d]at z;cases z⟩
 keep:=fun i h h' st k=>st.at fun o e=>k it (by simp) o e
 item:=by
  intro X hP hw hK hc i pins s σ H E I hf st hg
  subst hP hw hK
  obtain⟨xs,x,hq,hx⟩:=hg
  obtain⟨its,rv,p,hz⟩:=I.list hq
  obtain⟨u,hu,ru⟩:=rv.get hx
  obtain⟨f0,f1,f2,f3,f4,f5⟩:=hf it (by simp)
  refine wpAny_pyNext_list_item st p.isList (x:=u) (by simpa using hu) fun h' st' sb=>?_
  have I1:ak X pins σ H { s with heap:=h' }:=I.turned (t':=s.toks) (fun b o hb e=>(sb.2 b hb).trans e) f0 f1 f3 f4 f5
  obtain⟨o,e,c,d⟩:=id st'
  exact⟨u,rfl,jW (s:={ s with heap:=h' }) e c d (by decide) ⟨x,H,I1,ru,⟨rfl,fun ys hy=>by rw[I.list_inj hy hq];exact hx⟩,st',fun b hb=>(hf b hb).1⟩⟩
 done:=by
  intro X hP hw hK hc i pins s σ H E I hf st hg
  subst hP hw hK
  obtain⟨xs,hq,hx⟩:=hg
  obtain⟨its,rv,p,hz⟩:=I.list hq
  obtain⟨f0,f1,f2,f3,f4,f5⟩:=hf it (by simp)
  have hl:=rv.length
  exact wpAny_pyNext_list_end (I.ok.hd hc) st p.isList (by simp;omega) fun h' eb=>⟨rfl,I.turned (t':=s.toks) (fun b o hb e=>eb b o hb e) f0 f1 f3 f4 f5⟩
 self:=fun _ _ _ _ _ st h=>wpAny_pyIter_listiter st h
theorem wA(a it:Addr):Turn P w K tg (Mb K a) [it] it (fun i h=>h.IsTupleIter it a i) where
 mem:=by simp
 obj:=fun i h st b hb=>by
  have e:b=it:=by simpa using hb
  subst e
  obtain⟨o,e,c,d⟩:=st
  exact⟨o,e,fun v z=>by rw[d]at z;cases z⟩
 keep:=fun i h h' st k=>st.at fun o e=>k it (by simp) o e
 item:=by
  intro X hP hw hK hc i pins s σ H E I hf st hg
  subst hP hw hK
  obtain⟨xs,x,hq,hx⟩:=hg
  obtain⟨its,rv,p,hz⟩:=I.tuple hq
  obtain⟨u,hu,ru⟩:=rv.get hx
  obtain⟨f0,f1,f2,f3,f4,f5⟩:=hf it (by simp)
  refine wpAny_pyNext_tuple_item st (show s.heap.IsTuple a its.toArray from p) (x:=u) (by simpa using hu) fun h' st' sb=>?_
  have I1:ak X pins σ H { s with heap:=h' }:=I.turned (t':=s.toks) (fun b o hb e=>(sb.2 b hb).trans e) f0 f1 f3 f4 f5
  obtain⟨o,e,c,d⟩:=id st'
  exact⟨u,rfl,jW (s:={ s with heap:=h' }) e c d (by decide) ⟨x,H,I1,ru,⟨rfl,fun ys hy=>by rw[I.tuple_inj hy hq];exact hx⟩,st',fun b hb=>(hf b hb).1⟩⟩
 done:=by
  intro X hP hw hK hc i pins s σ H E I hf st hg
  subst hP hw hK
  obtain⟨xs,hq,hx⟩:=hg
  obtain⟨its,rv,p,hz⟩:=I.tuple hq
  obtain⟨f0,f1,f2,f3,f4,f5⟩:=hf it (by simp)
  have hl:=rv.length
  exact wpAny_pyNext_tuple_end (I.ok.hd hc) st (show s.heap.IsTuple a its.toArray from p) (by simp;omega) fun h' eb=>⟨rfl,I.turned (t':=s.toks) (fun b o hb e=>eb b o hb e) f0 f1 f3 f4 f5⟩
 self:=fun _ _ _ _ _ st h=>wpAny_pyIter_tupleiter st h
theorem wB(it:Addr)(lo:Int)(n:Nat):Turn P w K tg (DC lo n) [it] it (fun i h=>IsRangeIter h it (lo+(i:Nat)*1) ((n:Int)-(i:Nat)) 1) where
 mem:=by simp
 obj:=fun i h st b hb=>by
  have e:b=it:=by simpa using hb
  subst e
  exact⟨_,st,fun v z=>by
   have z':Data.fields _=Data.cell v:=z
   cases z'⟩
 keep:=fun i h h' st k=>k it (by simp) _ st
 item:=by
  intro X hP hw hK hc i pins s σ H E I hf st hg
  subst hP hw hK
  obtain⟨f0,f1,f2,f3,f4,f5⟩:=hf it (by simp)
  have W:=Walks.range (prog:=X.prog) (w:=X.w) (I.ok.hd hc) it lo 1 n
  refine W.item i s _ _ hg st fun v h' tk hv st' kk=>?_
  obtain⟨t,rfl⟩:=hv
  have I1:ak X pins σ H { s with heap:=h',toks:=tk }:=I.turned (fun b o hb e=>kk b o (by simpa using hb) e) f0 f1 f3 f4 f5
  refine⟨_,rfl,jW (s:={ s with heap:=h',toks:=tk }) (n := "range_iterator") st' rfl rfl (by decide) ⟨.int (lo+i),H,I1,⟨t,?_⟩,⟨rfl,rfl⟩,st',fun b hb=>(hf b hb).1⟩⟩
  rw[Int.mul_one]
 done:=by
  intro X hP hw hK hc i pins s σ H E I hf st hg
  subst hP hw hK
  obtain⟨f0,f1,f2,f3,f4,f5⟩:=hf it (by simp)
  exact wpAny_pyNext_range_end (I.ok.hd hc) st (by have:n<=i:=hg;omega) fun h' eb=>⟨rfl,I.turned (t':=s.toks) (fun b o hb e=>eb b o hb e) f0 f1 f3 f4 f5⟩
 self:=fun _ _ _ _ _ st h=>wpAny_pyIter_rangeiter st h
section
noncomputable def Lw(K:W.Frag)(tl:TE):TI:=fun σ H R=>tl σ H fun x H1 => ∃a,x=.ref a/\(∃xs,bT K H1 a xs)/\R (Mc K a) H1
noncomputable def OF(K:W.Frag)(tl:TE):TI:=fun σ H R=>tl σ H fun x H1 => ∃a,x=.ref a/\(∃xs,ba K H1 a xs)/\R (Mb K a) H1
theorem EJ(hl:PE X l tl):PI X tg l (Lw X.K tl):=by
 intro pins s σ H R I h
 refine aN (hl pins s σ H _ I h) fun v s1 ⟨x,H1,I1,r1,q1⟩=>?_
 obtain⟨a,e,⟨xs,hq⟩,q⟩:=q1
 subst e
 cases r1
 obtain⟨its,rv,p,hz⟩:=I1.list hq
 refine wpAny_pyIter_list p.isList ?_
 refine⟨s1.heap.objs.size,[s1.heap.objs.size],_,_,H1,rfl,I1.kept (t':=s1.toks) fun b o e=>Qk _ e,yh a _,⟨_,QG _ rfl,rfl,rfl⟩,fun b hb=>?_,q⟩
 have e:b=s1.heap.objs.size:=by simpa using hb
 subst e
 exact I1.fpOk (Ql _) (I1.hok.fresh (Ql _))
theorem Hj(hl:PE X l tl):PI X tg l (OF X.K tl):=by
 intro pins s σ H R I h
 refine aN (hl pins s σ H _ I h) fun v s1 ⟨x,H1,I1,r1,q1⟩=>?_
 obtain⟨a,e,⟨xs,hq⟩,q⟩:=q1
 subst e
 cases r1
 obtain⟨its,rv,p,hz⟩:=I1.tuple hq
 refine wpAny_pyIter_tuple (show s1.heap.IsTuple a its.toArray from p) ?_
 refine⟨s1.heap.objs.size,[s1.heap.objs.size],_,_,H1,rfl,I1.kept (t':=s1.toks) fun b o e=>Qk _ e,wA a _,⟨_,QG _ rfl,rfl,rfl⟩,fun b hb=>?_,q⟩
 have e:b=s1.heap.objs.size:=by simpa using hb
 subst e
 exact I1.fpOk (Ql _) (I1.hok.fresh (Ql _))
theorem sy{R:It->Hp->Prop}{lo hi:Int}{t u v:Tok}{tk:Nat}(I:ak X pins σ H s)(h1:-(2 ^ 62)<=lo)(h2:lo<2 ^ 62)(h3:-(2 ^ 62)<=hi)(h4:hi<2 ^ 62)
  (q:R (DC lo (hi-lo).toNat) H):wpAny (model X.prog X.w) X.A (pyIter (.ref s.heap.objs.size)) (Ku X pins σ tg R) E { s with heap:=s.heap.push { cls:=.type "range", data:=.fields #[.int lo t,.int hi u,.int 1 v] },toks:=tk }:=by
 refine wpAny_pyIter_range (IsRange.new ..) (small_one h1 h2 h3 h4) ?_
 have I1:ak X pins σ H { s with heap:=s.heap.push { cls:=.type "range", data:=.fields #[.int lo t,.int hi u,.int 1 v] },toks:=tk }:=I.kept fun b o e=>Qk _ e
 refine⟨(s.heap.push { cls:=.type "range", data:=.fields #[.int lo t,.int hi u,.int 1 v] }).objs.size,[(s.heap.push { cls:=.type "range", data:=.fields #[.int lo t,.int hi u,.int 1 v] }).objs.size],_,_,H,rfl,
  I1.kept (t':=tk) fun b o e=>Qk _ e,wB _ lo (hi-lo).toNat,?_,fun b hb=>?_,q⟩
 ·have e1:lo+((0:Nat):Int)*1=lo:=by simp
  have e2:(((hi-lo).toNat:Nat):Int)-((0:Nat):Int)=Builtin.Range.rangeSize lo hi 1:=by rw[rangeSize_one];split<;>omega
  show IsRangeIter _ _ (lo+((0:Nat):Int)*1) ((((hi-lo).toNat:Nat):Int)-((0:Nat):Int)) 1
  rw[e1,e2]
  exact QG _ rfl
 ·have e:b=(s.heap.push { cls:=.type "range", data:=.fields #[.int lo t,.int hi u,.int 1 v] }).objs.size:=by simpa using hb
  subst e
  exact I1.fpOk (Ql _) (I1.hok.fresh (Ql _))
noncomputable def Lv(ta:TA):TI:=fun σ H R=>ta σ H fun vs H1 => ∃j:Int,vs=[.int j] /\ -(2 ^ 62)<=j/\j<2 ^ 62/\R (DC 0 j.toNat) H1
noncomputable def Lu(ta:TA):TI:=fun σ H R=>ta σ H fun vs H1 => ∃i j:Int,vs=[.int i,.int j]/\(-(2 ^ 62)<=i/\i<2 ^ 62 /\ -(2 ^ 62)<=j/\j<2 ^ 62)/\R (DC i (j-i).toNat) H1
theorem yW{a:Expr}(hg:Gl X "range")(hm:X.mg "range" = none)(ha:PA X [a] ta)(hs:starEach [a] X.env=[(false,eval a X.env)]:=by rfl):PI X tg (.Call (.Name "range" p) [a] [] pos) (Lv ta):=by
 intro pins s σ H R I h
 refine Call_ (io I hg hm boot_range (RO (aN (ha pos pins s σ H _ I h) fun us s1 ⟨vs,H1,I1,r1,q1⟩=>?_) hs rfl))
 obtain⟨j,e,q1,q2,q⟩:=q1
 subst e
 cases r1 with
 | cons r rr =>
  cases rr
  obtain⟨t,rfl⟩:=r
  exact call_range_1 (sy I1 (by omega) (by omega) q1 q2 (by simpa using q))
theorem yV{a b:Expr}(hg:Gl X "range")(hm:X.mg "range" = none)(ha:PA X [a,b] ta)(hs:starEach [a,b] X.env=[(false,eval a X.env),(false,eval b X.env)]:=by rfl)(hs2:starEach [b] X.env=[(false,eval b X.env)]:=by rfl) :
  PI X tg (.Call (.Name "range" p) [a,b] [] pos) (Lu ta):=by
 intro pins s σ H R I h
 refine Call_ (io I hg hm boot_range (RO (aN (ha pos pins s σ H _ I h) fun us s1 ⟨vs,H1,I1,r1,q1⟩=>?_) (by rw[hs,hs2]) (by rw[hs2];rfl)))
 obtain⟨i,j,e,⟨q1,q2,q3,q4⟩,q⟩:=q1
 subst e
 cases r1 with
 | cons r rr =>
  cases rr with
  | cons r' rr =>
   cases rr
   obtain⟨t,rfl⟩:=r
   obtain⟨t',rfl⟩:=r'
   exact call_range_2 (sy I1 q1 q2 q3 q4 q)
noncomputable def Mr(wi:TI)(g:TG)(tb:TS):TS:=fun D σ H=>wi σ H fun J H1 => ∃W:Nat->Nat->St->Hp->Prop,(∃m,W 0 m σ H1)/\∀i m σ H,W i m σ H ->
 (J.stop i H/\D.nx σ H)\/(J.go i H/\∃N:St->Hp->Prop,(∀σ' H',N σ' H'->∃m',m' < m/\W (i+1) m' σ' H')/\∀x H',J.yld i H x H'->g x σ H' fun σ2 H2=>tb { D with nx:=N,ct:=N,bk:=D.nx } σ2 H2)
noncomputable def kY(fp:List Addr)(h:Heap):List (Addr×Obj):=fp.filterMap fun b=>(h.get? b).map fun o=>(b,o)
theorem gR(hb:b∈fp)(e:h.get? b=some o):(b,o)∈kY fp h:=List.mem_filterMap.mpr ⟨b,hb,by rw[e];rfl⟩
theorem y6{p:Addr×Obj}(hp:p∈kY fp h):p.1∈fp/\h.get? p.1=some p.2:=by
 obtain⟨b,hb,e⟩:=List.mem_filterMap.mp hp
 cases q:h.get? b with
 | none=>rw[q]at e;cases e
 | some o =>
  rw[q]at e
  have e':(b,o)=p:=QX e
  subst e'
  exact⟨hb,q⟩
theorem ak.pinned(I:ak X pins σ H s)(hf:∀b∈fp,jb X pins H b)(ho:∀b∈fp,∃o,s.heap.get? b=some o/\∀v,o.data ≠ .cell v):ak X (pins++kY fp s.heap) σ H s :=
 I.pins_of fun p hp=>(QN.mp hp).elim (fun z=>I.pin p (QO _ z)) fun z=>by
  obtain⟨hb,e⟩:=y6 z
  obtain⟨f0,f1,f2,_⟩:=hf p.1 hb
  obtain⟨o,e',d⟩:=ho p.1 hb
  rw[e]at e';cases e'
  exact⟨e,f0,f1,f2,d⟩
theorem ak.unpinned{pl:List (Addr×Obj)}(I:ak X (pins++pl) σ H s):ak X pins σ H s:=I.pins_of fun p hp=>I.pin p (QO _ (List.mem_append_left _ hp))
theorem sF{iter:Expr}{wi:TI}{g:TG}(hp:PassesOwn (model X.prog X.w) X.A X.env X.xe)(hc:X.calm=true)(hi:PI X tg iter wi)(hg:PG X tg g)(hb:cZ X body tb)
  (hs:∀x,foldedSetIterable iter X.env x=pure x:=by intro _;rfl):PS X (.For tg iter body [] pos) (Mr wi g tb):=by
 intro pins s σ H D I h
 refine wpAny_For (aN (hi pins s σ H _ I h) fun v s1 h1=>aN h1 fun itv s2 h2=>?_) hs
 obtain⟨it,fp,tn,J,H2,e,I2,T,st2,f2,W,⟨m0,w0⟩,turn⟩:=h2
 subst e
 have stat:∀{H':Hp},(∀b∈fp,H' b=none)->∀b∈fp,jb X pins H' b:=fun hn b hb=>⟨hn b hb,(f2 b hb).2⟩
 refine codeAny_forLoop_any (fun n s' => ∃i σ' H',ak X pins σ' H' s'/\tn i s'.heap/\(∀b∈fp,H' b=none)/\W i n σ' H') ?_ m0 ⟨0,σ,H2,I2,st2,fun b hb=>(f2 b hb).1,w0⟩
 rintro n s3 ⟨i,σ3,H3,I3,st3,fr3,w3⟩
 rcases turn i n σ3 H3 w3 with⟨stop,qn⟩|⟨go,N,hN,step⟩
 ·refine Sd hp (aN (T.done X rfl rfl rfl hc i pins s3 σ3 H3 X.xe I3 (stat fr3) st3 stop) fun r s4 ⟨hr,I4⟩=>?_)
  subst hr
  exact So ⟨σ3,H3,I4,qn⟩
 ·refine Sd hp (aN (T.item X rfl rfl rfl hc i pins s3 σ3 H3 X.xe I3 (stat fr3) st3 go) fun r s4 ⟨u,hr,h4⟩=>?_)
  subst hr
  refine Sd hp (aN h4 fun _ s5 ⟨x,H5,I5,r5,y5,st5,fr5⟩=>?_)
  have I5':=I5.pinned (stat fr5) (T.obj _ _ st5)
  refine Sd hp (aN (hg _ s5 σ3 H5 x u _ I5' r5 (step x H5 y5)) fun _ s6 ⟨σ6,H6,I6,q6⟩=>?_)
  refine Sd hp (aN (hb _ s6 σ6 H6 _ I6 q6) fun f s7 q7=>?_)
  have again:∀{σ7:St} {H7:Hp},ak X (pins++kY fp s5.heap) σ7 H7 s7->N σ7 H7->∃m,m<n/\∃i σ' H',ak X pins σ' H' s7/\tn i s7.heap/\(∀b∈fp,H' b=none)/\W i m σ' H':=fun {σ7 H7} I7 n7=>by
   obtain⟨m',hm,w7⟩:=hN σ7 H7 n7
   refine⟨m',hm,i+1,σ7,H7,I7.unpinned,T.keep _ _ _ st5 fun b hb o e=>(I7.pin (b,o) (QO _ (QO _ (gR hb e)))).1,fun b hb=>?_,w7⟩
   obtain⟨o,e,d⟩:=T.obj _ _ st5 b hb
   exact(I7.pin (b,o) (QO _ (QO _ (gR hb e)))).2.1
  cases f with
  | next=>obtain⟨σ7,H7,I7,n7⟩:=q7;exact again I7 n7
  | cont=>obtain⟨σ7,H7,I7,n7⟩:=q7;exact again I7 n7
  | brk=>obtain⟨σ7,H7,I7,q7⟩:=q7;exact⟨σ7,H7,I7.unpinned,q7⟩
  | ret v=>obtain⟨x7,σ7,H7,I7,r7,q7⟩:=q7;exact⟨x7,σ7,H7,I7.unpinned,r7,q7⟩
end
noncomputable abbrev R2:=V->V->Hp->VK->Prop
noncomputable def cQ(X:Cx)(f:Value->Value->Sem Value)(r:R2):Prop :=
 ∀(pins:List (Addr×Obj)) (s:Shared) (σ:St) (H:Hp) (x y:V) (v u:Value) (Q:VK),ak X pins σ H s->aP x v->aP y u->r x y H Q ->
  wpAny (model X.prog X.w) X.A (f v u) (EP X pins σ Q) X.xe s
noncomputable def Kr(X:Cx)(f:Value->Sem Value)(r:V->Hp->VK->Prop):Prop :=
 ∀(pins:List (Addr×Obj)) (s:Shared) (σ:St) (H:Hp) (x:V) (v:Value) (Q:VK),ak X pins σ H s->aP x v->r x H Q ->
  wpAny (model X.prog X.w) X.A (f v) (EP X pins σ Q) X.xe s
noncomputable def eg(X:Cx)(f:Value)(r:List V->Hp->VK->Prop):Prop :=
 ∀(pins:List (Addr×Obj)) (s:Shared) (σ:St) (H:Hp) (xs:List V) (us:List Value) (Q:VK),ak X pins σ H s->aD xs us->r xs H Q ->
  wpAny (model X.prog X.w) X.A (call f us) (EP X pins σ Q) X.xe s
noncomputable def GA(r:R2)(ta tb:TE):TE:=fun σ H Q=>ta σ H fun x H1=>tb σ H1 fun y H2=>r x y H2 Q
noncomputable def P0(r:V->Hp->VK->Prop)(ta:TE):TE:=fun σ H Q=>ta σ H fun x H1=>r x H1 Q
noncomputable def rI(C:Int->Int->Prop)(g:Int->Int->V):R2:=fun x y H Q => ∃i j,x=.int i/\y=.int j/\C i j/\Q (g i j) H
noncomputable def nB(g:Int->Int->V):R2:=fun x y H Q => ∃i j,x=.int i/\y=.int j/\Q (g i j) H
noncomputable def rU(g:Int->V):V->Hp->VK->Prop:=fun x H Q => ∃i,x=.int i/\Q (g i) H
section
variable{a b:Expr}{ta tb tc:TE}
theorem Ke(ha:PE X a ta)(hb:PE X b tb)(I:ak X pins σ H s)
  (h:ta σ H fun x H1=>tb σ H1 fun y H2=>R x y H2) {Q:Value->Shared->Prop}
  (hf:∀v u s2 x y H2,ak X pins σ H2 s2->aP x v->aP y u->R x y H2->wpAny (model X.prog X.w) X.A (f v u) Q X.xe s2) :
  wpAny (model X.prog X.w) X.A (eval a X.env) (fun v s₁=>wpAny (model X.prog X.w) X.A (eval b X.env) (fun u s₂=>wpAny (model X.prog X.w) X.A (f v u) Q X.xe s₂) X.xe s₁) X.xe s:=by
 refine aN (ha pins s σ H _ I h) fun v s1 ⟨x,H1,I1,r1,q1⟩=>?_
 refine aN (hb pins s1 σ H1 _ I1 q1) fun u s2 ⟨y,H2,I2,r2,q2⟩=>?_
 exact hf v u s2 x y H2 I2 r1 r2 q2
theorem K7{op:Operator}{r:R2}(ho:cQ X (binaryOp op) r)(ha:PE X a ta)(hb:PE X b tb):PE X (.BinOp a op b pos) (GA r ta tb):=by
 intro pins s σ H Q I h
 exact wpAny_BinOp (Ke ha hb I h fun v u s2 x y H2 I2 rx ry q=>ho pins s2 σ H2 x y v u Q I2 rx ry q)
theorem K6{op:UnaryOp}{r:V->Hp->VK->Prop}(ho:Kr X (unaryOp op) r)(ha:PE X a ta):PE X (.UnaryOp op a pos) (P0 r ta):=by
 intro pins s σ H Q I h
 exact UnaryOp_ (aN (ha pins s σ H _ I h) fun v s1 ⟨x,H1,I1,r1,q1⟩=>ho pins s1 σ H1 x v Q I1 r1 q1)
theorem CP{C:Int->Int->Prop}
  (rule:∀(i j:Int) (t u:Tok) (s:Shared) (Q:Value->Shared->Prop) (E:Value->Shared->Prop),C i j->Q (.int (g i j) s.toks) { s with toks:=s.toks+1 }->wpAny (model X.prog X.w) X.A (f (.int i t) (.int j u)) Q E s) :
  cQ X f (rI C fun i j=>.int (g i j)):=by
 intro pins s σ H x y v u Q I rx ry h
 obtain⟨i,j,rfl,rfl,hc,q⟩:=h
 obtain⟨t,rfl⟩:=rx
 obtain⟨t',rfl⟩:=ry
 exact rule i j t t' s _ _ hc ⟨.int (g i j),H,I.tok _,⟨_,rfl⟩,q⟩
theorem HK
  (rule:∀(i j:Int) (t u:Tok) (s:Shared) (Q:Value->Shared->Prop) (E:Value->Shared->Prop),Q (.int (g i j) s.toks) { s with toks:=s.toks+1 }->wpAny (model X.prog X.w) X.A (f (.int i t) (.int j u)) Q E s) :
  cQ X f (nB fun i j=>.int (g i j)):=by
 intro pins s σ H x y v u Q I rx ry h
 obtain⟨i,j,rfl,rfl,q⟩:=h
 obtain⟨t,rfl⟩:=rx
 obtain⟨t',rfl⟩:=ry
 exact rule i j t t' s _ _ ⟨.int (g i j),H,I.tok _,⟨_,rfl⟩,q⟩
theorem wX{g:Int->Int->Bool}
  (rule:∀(i j:Int) (t u:Tok) (s:Shared) (Q:Value->Shared->Prop) (E:Value->Shared->Prop),Q (.bool (g i j)) s->wpAny (model X.prog X.w) X.A (f (.int i t) (.int j u)) Q E s) :
  cQ X f (nB fun i j=>.bl (g i j)):=by
 intro pins s σ H x y v u Q I rx ry h
 obtain⟨i,j,rfl,rfl,q⟩:=h
 obtain⟨t,rfl⟩:=rx
 obtain⟨t',rfl⟩:=ry
 exact rule i j t t' s _ _ ⟨.bl (g i j),H,I,rfl,q⟩
noncomputable def PX(i j:Int):Prop:=0<=j/\j<=1000000/\i.natAbs<2 ^ 64
theorem HJ:cQ X (binaryOp .Add) (nB fun i j=>.int (i+j)):=HK fun _ _ _ _ _ _ _ q=>add_int q
theorem HF:cQ X (binaryOp .Sub) (nB fun i j=>.int (i-j)):=HK fun _ _ _ _ _ _ _ q=>sub_int q
theorem EV:cQ X (binaryOp .Mod) (rI (fun _ j=>j≠0) fun i j=>.int (i.fmod j)):=CP fun _ _ _ _ _ _ _ hc q=>mod_int' hc q
theorem HG:cQ X (binaryOp .Pow) (rI PX fun i j=>.int (i ^ j.toNat)):=CP fun _ _ _ _ _ _ _ hc q=>pow_int_small hc.1 hc.2.1 hc.2.2 q
theorem PY{f:Value->Sem Value}{g:Int->Int}
  (rule:∀(i:Int) (t:Tok) (s:Shared) (Q:Value->Shared->Prop) (E:Value->Shared->Prop),Q (.int (g i) s.toks) { s with toks:=s.toks+1 }->wpAny (model X.prog X.w) X.A (f (.int i t)) Q E s) :
  Kr X f (rU fun i=>.int (g i)):=by
 intro pins s σ H x v Q I rx h
 obtain⟨i,rfl,q⟩:=h
 obtain⟨t,rfl⟩:=rx
 exact rule i t s _ _ ⟨.int (g i),H,I.tok _,⟨_,rfl⟩,q⟩
theorem Gi:Kr X (unaryOp .USub) (rU fun i=>.int (-i)):=PY fun _ _ _ _ _ q=>neg_int q
end
section
variable{a b:Expr}{ta tb tc:TE}
theorem zP{k k':Bool}(I:ak X pins σ H s)(q:Q (.bl k) H)(e:k=k'):EP X pins σ Q (.bool k') s:=by
 subst e
 exact⟨.bl k,H,I,rfl,q⟩
theorem La:cQ X (compareOp .Lt) (nB fun i j=>.bl (decide (i<j))):=wX fun _ _ _ _ _ _ _ q=>lt_int q
theorem Lb:cQ X (compareOp .LtE) (nB fun i j=>.bl (decide (i<=j))):=wX fun _ _ _ _ _ _ _ q=>le_int q
theorem Lc:cQ X (compareOp .Gt) (nB fun i j=>.bl (decide (j<i))):=wX fun _ _ _ _ _ _ _ q=>gt_int q
theorem Ld:cQ X (compareOp .GtE) (nB fun i j=>.bl (decide (j<=i))):=wX fun _ _ _ _ _ _ _ q=>ge_int q
theorem HI:cQ X (compareOp .Is) (fun x y H Q=>y=.non/\Q (.bl (decide (x=.non))) H):=by
 intro pins s σ H x y v u Q I rx ry h
 obtain⟨rfl,q⟩:=h
 cases ry
 refine is_none_gen (zP I q ?_)
 cases x<;>first
  | (cases rx;rfl)
  | (obtain⟨t,rfl⟩:=rx;rfl)
theorem ET:cQ X (compareOp .IsNot) (fun x y H Q=>y=.non/\Q (.bl (!decide (x=.non))) H):=by
 intro pins s σ H x y v u Q I rx ry h
 obtain⟨rfl,q⟩:=h
 cases ry
 refine isnot_none_gen (zP I q ?_)
 cases x<;>first
  | (cases rx;rfl)
  | (obtain⟨t,rfl⟩:=rx;rfl)
noncomputable def Cy(t:TE):TT:=fun σ H Q=>t σ H fun x H' => ∃k,x=.bl k/\Q k H'
theorem Ew{r:R2}(ho:cQ X (compareOp op) r)(ha:PE X a ta)(hb:PE X b tb)(hm:behindInMarks op b=false):PT X (.Compare a [op] [b] pos) (Cy (GA r ta tb)):=by
 intro pins s σ H Q I h
 refine wpAny_isTrue_Compare1 (aN (ha pins s σ H _ I h) fun v s1 ⟨x,H1,I1,r1,q1⟩=>aN (hb pins s1 σ H1 _ I1 q1) fun u s2 ⟨y,H2,I2,r2,q2⟩ =>
  aN (ho pins s2 σ H2 x y v u _ I2 r1 r2 q2) fun c s3 ⟨z,H3,I3,r3,k,e,q3⟩=>?_) hm
 subst e
 cases r3
 exact Ru ⟨H3,I3,q3⟩
noncomputable def yo(r r':R2)(ta tb tc:TE):TE:=fun σ H Q=>ta σ H fun x H1=>tb σ H1 fun y H2=>r x y H2 fun z H3 => ∃k,z=.bl k /\
 (if k=true then tc σ H3 fun w' H4=>r' y w' H4 Q else Q (.bl false) H3)
theorem Br{r r':R2}(ho:cQ X (compareOp op) r)(ho':cQ X (compareOp op') r')(ha:PE X a ta)(hb:PE X b tb)(hc:PE X c tc)
  (hm:lastMarks [op,op'] [b,c]=false:=by with_unfolding_all rfl):PE X (.Compare a [op,op'] [b,c] pos) (yo r r' ta tb tc):=by
 intro pins s σ H Q I h
 refine Compare_chain (aN (ha pins s σ H _ I h) fun v s1 ⟨x,H1,I1,r1,q1⟩=>chain_link (aN (hb pins s1 σ H1 _ I1 q1) fun u s2 ⟨y,H2,I2,r2,q2⟩ =>
  aN (ho pins s2 σ H2 x y v u _ I2 r1 r2 q2) fun d s3 ⟨z,H3,I3,r3,k,e,q3⟩=>?_)) hm
 subst e
 cases r3
 refine Ru ?_
 cases k with
 | false=>exact ite_ff ⟨.bl false,H3,I3,rfl,q3⟩
 | true=>exact ite_tt (chain_last (aN (hc pins s3 σ H3 _ I3 q3) fun w' s4 ⟨z',H4,I4,r4,q4⟩=>ho' pins s4 σ H4 y z' u w' Q I4 r2 r4 q4))
theorem Bn{r r':R2}(ho:cQ X (compareOp op) r)(ho':cQ X (compareOp op') r')(ha:PE X a ta)(hb:PE X b tb)(hc:PE X c tc)
  (hm:lastMarks [op,op'] [b,c]=false:=by with_unfolding_all rfl):PT X (.Compare a [op,op'] [b,c] pos) (Cy (yo r r' ta tb tc)):=by
 intro pins s σ H Q I h
 refine isTrue_chain (aN (ha pins s σ H _ I h) fun v s1 ⟨x,H1,I1,r1,q1⟩=>test_link (aN (hb pins s1 σ H1 _ I1 q1) fun u s2 ⟨y,H2,I2,r2,q2⟩ =>
  aN (ho pins s2 σ H2 x y v u _ I2 r1 r2 q2) fun d s3 ⟨z,H3,I3,r3,k,e,q3⟩=>?_)) hm
 subst e
 cases r3
 refine Ru ?_
 cases k with
 | false =>
  obtain⟨k',e',q'⟩:=q3
  cases e'
  exact ite_ff ⟨H3,I3,q'⟩
 | true =>
  refine ite_tt (test_last (aN (hc pins s3 σ H3 _ I3 q3) fun w' s4 ⟨z',H4,I4,r4,q4⟩=>aN (ho' pins s4 σ H4 y z' u w' _ I4 r2 r4 q4) fun d' s5 ⟨z2,H5,I5,r5,k2,e2,q5⟩=>?_))
  subst e2
  cases r5
  exact Ru ⟨H5,I5,q5⟩
theorem pj:(sizeLine:Nat)<2 ^ 63:=by rw[Sv];decide
theorem wW:cQ X (binaryOp .Add) (fun x y H Q => ∃i j,x=.str i/\y=.str j/\i.length+j.length<=sizeLine/\Q (.str (i++j)) H):=by
 intro pins s σ H x y v u Q I rx ry h
 obtain⟨i,j,rfl,rfl,hz,q⟩:=h
 obtain⟨t,rfl⟩:=rx
 obtain⟨t',rfl⟩:=ry
 exact add_str (fun t' tk=>⟨.str (i++j),H,I.tok _,⟨_,rfl⟩,q⟩) hz
theorem gP{x:V}(r:aD [x] us):∃u,us=[u]/\aP x u:=by
 cases r with
 | cons r1 r2=>cases r2;exact⟨_,rfl,r1⟩
theorem rm{x:V}(r:aD [x,y] us):∃u w',us=[u,w']/\aP x u/\aP y w':=by
 cases r with
 | cons r1 r2 =>
  cases r2 with
  | cons r3 r4=>cases r4;exact⟨_,_,rfl,r1,r3⟩
theorem qZ:eg X (.type "int") (fun xs H Q=>(∃i,xs=[.int i]/\Q (.int i) H)\/∃k,xs=[.bl k]/\Q (.int (if k then 1 else 0)) H):=by
 intro pins s σ H xs us Q I r h
 rcases h with⟨i,rfl,q⟩|⟨k,rfl,q⟩
 ·obtain⟨u,rfl,t,rfl⟩:=gP r
  exact call_int_int ⟨.int i,H,I,⟨_,rfl⟩,q⟩
 ·obtain⟨u,rfl,r1⟩:=gP r
  cases r1
  exact call_int_bool ⟨.int (if k then 1 else 0),H,I.tok _,⟨_,rfl⟩,q⟩
end
structure Co(h:Heap)(x dx C:Addr)(mA:Str->Option Value):Prop where
 obj:h.get? x=some (W.instObj C dx)
 ns:h.Ns1 dx mA
 ne:dx≠x
theorem zi(n:h.Ns1 dx mA):∃od,h.get? dx=some od/\∀name,W.lookIn name od=some (mA name):=by
 obtain⟨o,es,ep,ho,hd,hk,_,hm⟩:=n
 refine⟨o,ho,fun name=>?_⟩
 have e:=hm name
 unfold nsFind findBy at e
 rw[<- Array.find?_toList]at e
 unfold W.lookIn
 rw[hd]
 dsimp only
 split
 ·rename_i y q
  rw[q]at e
  exact Rq some e
 ·rename_i q
  rw[q]at e
  have a:es.toList.any (·.refKey)=false:=by
   rw[List.any_eq_false]
   intro y hy
   obtain⟨z,t,hkey⟩:=hk y (Array.mem_toList_iff.mp hy)
   simp[DictEntry.refKey,hkey]
  have a':¬ es.toList.any (·.refKey)=true:=by rw[a];exact QL
  rw[if_neg a']
  exact Rq some e
theorem Co.look{x:Addr}(I:Co h x dx C mA):∃od,W.InstAt h x (W.instObj C dx) C (some od)/\∀name,W.lookIn name od=some (mA name) :=
 let ⟨od,ho,hl⟩:=zi I.ns
 ⟨od,⟨I.obj,rfl,rfl,ho⟩,hl⟩
section
variable{prog:Program}{x f:Addr}{name:Str}{v:Value}
theorem sV{R:Result->Shared->Prop}{vs:List Value}(X:K.In s.heap)(hm:W.makesIn K C=true)
  (hi:W.findIn K (.ref C) "__init__" = some (some (.ref f))) (hf:W.typeIn K (.ref f)=some (.type "function"))
  (h:codeAny (model prog w) (A.under (.builtin "type.__call__" ⟨.ref C::vs,kw⟩)) (.call (.ref f) ⟨.ref (s.heap.objs.size+1)::vs,kw⟩) (W.InitBack (s.heap.objs.size+1) R)
   { s with heap:=(s.heap.push W.emptyDict).push (W.instObj C s.heap.objs.size) }) :
  codeAny (model prog w) A (.call (.ref C) ⟨vs,kw⟩) R s:=by
 obtain⟨hh,g,d,t,os⟩:=s
 exact W.make_core (W.makes_of X hm) (W.looks_findIn X hi) (fun self=>W.bind_fn X self hf) (.inl rfl) h
end
theorem gM.some_of{o:Option Value}(r:gM (some v) o):∃u,o=some u/\aP v u:=by
 cases o with
 | none=>exact(show False from r).elim
 | some u=>exact⟨u,rfl,r⟩
section
variable{H':Hp}{h':Heap}{fs fs':List (Str×V)}
theorem FA(hok:cx P w H h)(e:H a=some (.ins C dx fs)):∃mA,Co h a dx C mA/\(∀f,gM (fs.lookup f) (mA f))/\PySem.Within mA (fs.map (·.1))/\fs.length<=1000/\H dx=some (.own a):=by
 obtain⟨d,z,ne,ob,mA,n,r,q⟩:=(show aT P w H h a (.ins C dx fs)from hok a _ e)
 exact⟨mA,⟨ob,n,ne⟩,r,q,z,d⟩
end
structure fv(K:W.Frag)(C:Addr):Prop where
 pg:W.plainGet K C Str.empty=true
 hd:W.hasDictIn K C=true
 po:W.plainOver K C=true
 sa:W.findIn K (.ref C) "__setattr__" = some (some (.builtin "object.__setattr__"))
theorem fv.get(c:fv K C)(f:Str):W.plainGet K C f=true:=c.pg
noncomputable def uA(K:W.Frag)(C:Addr)(f:Str):Prop:=W.findIn K (.ref C) f=some none
structure KA(K:W.Frag)(C:Addr)(m:Str)(f:Addr):Prop where
 at_:W.findIn K (.ref C) m=some (some (.ref f))
 fn:W.isFn K (.ref f)=true
 kp:W.keepIn K (.ref f)=true
section
variable{fs:List (Str×V)}{f:Str}
theorem ak.made(I:ak X pins σ H s):ak X pins σ (az (az H s.heap.objs.size (.own (s.heap.objs.size+1))) (s.heap.objs.size+1) (.ins C s.heap.objs.size []))
  { s with heap:=(s.heap.push W.emptyDict).push (W.instObj C s.heap.objs.size) }:=by
 have e1:(s.heap.push W.emptyDict).get? s.heap.objs.size=some W.emptyDict:=QG s.heap rfl
 have e2:((s.heap.push W.emptyDict).push (W.instObj C s.heap.objs.size)).get? (s.heap.objs.size+1)=some (W.instObj C s.heap.objs.size):=by
  have:=QG (s.heap.push W.emptyDict) (o:=W.instObj C s.heap.objs.size) rfl
  rwa [Sn]at this
 have e3:(s.heap.push W.emptyDict).Ns s.heap.objs.size (fun _=>none):=⟨W.emptyDict,#[],_,e1,rfl,(fun e he=>absurd he (by simp)),fun _=>rfl⟩
 have I1:=I.laid (a:=s.heap.objs.size) (o:=.own (s.heap.objs.size+1)) (h':=s.heap.push W.emptyDict) (t':=s.toks) (fun b u q=>Qk _ q) (Ql _) ⟨_,e1⟩
 refine I1.laid (a:=s.heap.objs.size+1) (o:=.ins C s.heap.objs.size []) (t':=s.toks) (fun b u q=>Qk _ q) (Nat.le_of_eq (Sn _ _)) ?_
 have ne:s.heap.objs.size≠s.heap.objs.size+1:=QS (QV _)
 refine⟨by rw[aq ne,aB],QC _,ne,e2,fun _=>none,(Heap.Ns1.of_empty e3).at fun o q=>Qk _ q,fun _=>True.intro,fun y hy=>absurd rfl hy⟩
end
noncomputable def tFld(K:W.Frag)(ta:TE)(f:Str):TE:=fun σ H Q=>ta σ H fun x H1 => ∃a C dx fs v,x=.ref a/\H1 a=some (.ins C dx fs)/\fv K C/\uA K C f/\fs.lookup f=some v/\Q v H1
section
variable{o value:Expr}{f:Str}{pos' tpos:Pos}{ta tv:TE}
end
section
variable{Q:Value->Shared->Prop}{c:Value}{b:Bool}
inductive gL(K:W.Frag)(H:Hp):V->Value->Prop where
  | non:gL K H .non (.type "NoneType")
  | bl (x:Bool):gL K H (.bl x) (.type "bool")
  | int (i:Int):gL K H (.int i) (.type "int")
  | str (x:Str):gL K H (.str x) (.type "str")
  | flt (x:UInt64):gL K H (.flt x) (.type "float")
  | lst {a:Addr} {xs:List V} (e:H a=some (.lst xs)):gL K H (.ref a) (.type "list")
  | frz {a:Addr} {o:Obj} {xs:List V} (e:H a=some (.frz o (.lst xs))):gL K H (.ref a) (.type "list")
  | tup {a:Addr} {xs:List V} (e:H a=some (.tup xs)):gL K H (.ref a) (.type "tuple")
  | dK {a:Addr} {kvs:List (aR×V)} (e:H a=some (.dK kvs)):gL K H (.ref a) (.type "dict")
  | dT {a:Addr} {kvs:List (List aR×V)} (e:H a=some (.dT kvs)):gL K H (.ref a) (.type "dict")
  | ins {a C dx:Addr} {fs:List (Str×V)} (e:H a=some (.ins C dx fs)) (cl:fv K C) (ha:W.findIn K (.ref C) "__class__" = some (some (.builtin "object.__class__")))
      (hn:W.specialIn K (.builtin "object.__class__") "__get__" = some (some (.builtin "getset_descriptor.__get__"))) (htk:W.takesIn K (.builtin "object.__class__")=some true)
      (hm:W.mroIn K C (.type "object")=some true):gL K H (.ref a) (.ref C)
theorem qP{x:V}{t:Value}(I:ak X pins σ H s)(rx:aP x u)(ty:gL X.K H x t)(e:W.kitOne X.K t c=some b)(h:∀tk,Q (.bool b) { s with toks:=tk }) :
  wpAny (model X.prog X.w) A (call (.builtin "isinstance") [u,c]) Q E s:=by
 cases ty with
 | non=>cases (show u=Value.none from rx);exact Rk W.kitx_none I.kIn True.intro e (fun z=>nomatch z) h
 | bl y=>cases (show u=Value.bool y from rx);exact Rk W.kitx_bool I.kIn True.intro e (fun z=>nomatch z) h
 | int i=>obtain⟨t,q⟩:=(show ∃t,u=Value.int i t from rx);cases q;exact Rk W.kitx_int I.kIn True.intro e (fun z=>nomatch z) h
 | str y=>obtain⟨t,q⟩:=(show ∃t,u=Value.str y t from rx);cases q;exact Rk W.kitx_str I.kIn True.intro e (fun z=>nomatch z) h
 | flt y=>obtain⟨t,q⟩:=(show ∃t,u=Value.float y t from rx);cases q;exact Rk W.kitx_float I.kIn True.intro e (fun z=>nomatch z) h
 | @lst a xs ea =>
  cases (show u=Value.ref a from rx)
  obtain⟨_,_,n,_,h1⟩:=(show aT X.prog X.w H s.heap a (.lst xs)from I.hok a _ ea)
  exact Rk W.kitx_list I.kIn ⟨_,h1,rfl⟩ e (fun z=>nomatch z) h
 | @frz a ob xs ea =>
  cases (show u=Value.ref a from rx)
  obtain⟨_,_,_,n,_,h1⟩:=(show aT X.prog X.w H s.heap a (.frz ob (.lst xs))from I.hok a _ ea)
  exact Rk W.kitx_list I.kIn ⟨_,h1,rfl⟩ e (fun z=>nomatch z) h
 | @tup a xs ea =>
  cases (show u=Value.ref a from rx)
  obtain⟨_,_,_,p⟩:=(show aT X.prog X.w H s.heap a (.tup xs)from I.hok a _ ea)
  obtain⟨o,h1,h2,_⟩:=p.1
  exact Rk W.kitx_tuple I.kIn ⟨o,h1,h2⟩ e (fun z=>nomatch z) h
 | @dK a kvs ea =>
  cases (show u=Value.ref a from rx)
  obtain⟨_,_,vs,_,p⟩:=(show aT X.prog X.w H s.heap a (.dK kvs)from I.hok a _ ea)
  obtain⟨o,es,ep,h1,h2,_⟩:=p
  exact Rk W.kitx_dict I.kIn ⟨o,h1,h2.1⟩ e (fun z=>nomatch z) h
 | @dT a kvs ea =>
  cases (show u=Value.ref a from rx)
  obtain⟨_,_,xs,_,o,es,ep,h1,h2,_⟩:=(show aT X.prog X.w H s.heap a (.dT kvs)from I.hok a _ ea)
  exact Rk W.kitx_dict I.kIn ⟨o,h1,h2.1⟩ e (fun z=>nomatch z) h
 | @ins a C dx fs ea cl ha hn htk hm =>
  cases (show u=Value.ref a from rx)
  obtain⟨mA,O,_⟩:=FA I.hok ea
  obtain⟨od,J,_⟩:=O.look
  exact Rk (W.kitx_own (cl.get _) cl.hd ha hn htk hm) I.kIn J e (fun z=>nomatch z) h
end
structure bz(k:Nat)(A:Around):Prop where
 hd:A.handled=none
 dp:A.depth+3*k+5<recursionLimit
 un:A.units+16*k+200<cLine
theorem bz.mono(r:bz k A)(h:j<=k):bz j A:=⟨r.hd,by have:=r.dp;omega,by have:=r.un;omega⟩
theorem bz.deeper(r:bz (k+1) A)(env:Env):bz k (A.deeper env) :=
 ⟨r.hd,by have:=r.dp;show A.depth+1+3*k+5<_;omega,by have:=r.un;show A.units+3+16*k+200<_;omega⟩
theorem bz.in1(r:bz (k+1) A):bz k A.in1 :=
 ⟨r.hd,by have:=r.dp;show A.depth+3*k+5<_;omega,by have:=r.un;show A.units+1+16*k+200<_;omega⟩
theorem xk:(A.under (.builtin "type.__call__" ⟨.ref C::us,kw⟩)).depth=A.depth+1:=by
 first|rfl|simp[Around.under,Code.weight,Code.isCreation,Code.isGuard,Code.isCaller,Code.frames,Code.isFrame,guardIds]
theorem xj:(A.under (.builtin "type.__call__" ⟨.ref C::us,kw⟩)).units=A.units+1:=by
 first|rfl|simp[Around.under,Code.cUnits,Code.frames,Code.isFrame]
theorem bz.make(r:bz (k+1) A)(C:Addr)(us:List Value)(kw:List (Str×Value)):bz k (A.under (.builtin "type.__call__" ⟨.ref C::us,kw⟩)) :=
 ⟨r.hd,by have:=r.dp;rw[xk];omega,by have:=r.un;rw[xj];omega⟩
theorem bz.depth(r:bz k A):A.depth<recursionLimit:=by have:=r.dp;omega
theorem bz.units(r:bz k A):A.units+64<cLine:=by have:=r.un;omega
noncomputable def A2:TA:=fun _ H Q=>Q [] H
noncomputable def KP(ta:TE)(tr:TA):TA:=fun σ H Q=>ta σ H fun x H1=>tr σ H1 fun xs H2=>Q (x::xs) H2
section
variable{t:TA}
theorem HA:PA X [] A2:=fun _ _ _ _ H Q I h=>Calls.spliced_nil ⟨[],H,I,.nil,h⟩
theorem ES(ha:PE X e te)(hr:PA X es t)(hs:starEach (e::es) X.env=(false,eval e X.env)::starEach es X.env:=by rfl):PA X (e::es) (KP te t):=by
 intro pos pins s σ H Q I h
 rw[hs]
 show wpAny _ _ (spliced ((false,eval e X.env)::backTo pos (starEach es X.env))) _ _ s
 refine Calls.spliced_cons (aN (ha pins s σ H _ I h) fun u s1 ⟨x,H1,I1,r1,q1⟩=>?_)
 exact aN (hr pos pins s1 σ H1 _ I1 q1) fun us s2 ⟨xs,H2,I2,r2,q2⟩=>⟨x::xs,H2,I2,.cons r1 r2,q2⟩
noncomputable def Mh(t:TA):TE:=fun σ H Q=>t σ H fun xs H1=>xs.length<=sizeLine/\∀p,H1 p=none->Q (.ref p) (az H1 p (.tup xs))
noncomputable def Mp(t:TA):TE:=fun σ H Q=>t σ H fun xs H1=>xs.length<=sizeLine/\∀p,H1 p=none->Q (.ref p) (az H1 p (.lst xs))
theorem Hm{x1}(h:PA X es t):PE X (.Tuple es x1 pos) (Mh t):=by
 intro pins s σ H Q I hq
 refine wpAny_Tuple_spliced (aN (h pos pins s σ H _ I hq) fun us s1 ⟨xs,H1,I1,r,z,q⟩=>⟨by rw[<- r.length];exact z,?_⟩)
 have hf:H1 s1.heap.objs.size=none:=I1.hok.fresh (Ql _)
 refine⟨.ref s1.heap.objs.size,az H1 s1.heap.objs.size (.tup xs),I1.laid (t':=s1.toks) (fun b u e=>Qk _ e) (Ql _) ?_,rfl,q _ hf⟩
 exact⟨z,us,r,⟨_,QG _ rfl,rfl,_,rfl⟩,_,QG _ rfl,rfl⟩
theorem Hs(h:PA X es t):PE X (.List es pos) (Mp t):=by
 intro pins s σ H Q I hq
 refine wpAny_List_spliced (aN (h pos pins s σ H _ I hq) fun us s1 ⟨xs,H1,I1,r,z,q⟩=>⟨by rw[<- r.length];exact z,?_⟩)
 have hf:H1 s1.heap.objs.size=none:=I1.hok.fresh (Ql _)
 refine⟨.ref s1.heap.objs.size,az H1 s1.heap.objs.size (.lst xs),I1.laid (t':=s1.toks) (fun b u e=>Qk _ e) (Ql _) ?_,rfl,q _ hf⟩
 exact⟨z,us,0,r,QG _ rfl⟩
end
noncomputable abbrev Sp:=List V->Hp->VK->XK->Prop
noncomputable abbrev jL:=List Env->Hp->Shared->XK->Value->Shared->Prop
structure jc(P:Program)(w:World)(K:W.Frag)(mg:Str->Option Value)(base:Heap)(A:Around)(outer:List Env)(s:Shared)(H:Hp):Prop where
 frames:A.frames=some outer
 mod:Mod K mg base
 bs:∀b o,base.get? b=some o->s.heap.get? b=some o/\H b=none
 bsz:base.objs.size<=s.heap.objs.size
 funs:s.heap.FunFrames base outer
 frf:∀b∈bZ outer,H b=none
 hok:cx P w H s.heap
 bare:AllBare s.gens
noncomputable def CE(outer:List Env)(P:Program)(w:World)(H:Hp)(s:Shared)(Q:VK)(u:Value)(s':Shared):Prop :=
 ∃v H',s'.os=s.os/\AllBare s'.gens/\Un (bZ outer) [] H H' s.heap s'.heap/\cx P w H' s'.heap/\aP v u/\Q v H'
noncomputable def CR(CX:jL)(outer:List Env)(P:Program)(w:World)(H:Hp)(s:Shared)(Q:VK)(E:XK)(r:Result)(s':Shared):Prop :=
 match r with
 | .ok (.ret u)=>CE outer P w H s Q u s'
 | .ok _=>False
 | .error e=>CX outer H s E e s'
structure bG(P:Program)(w:World)(K:W.Frag)(mg:Str->Option Value)(base:Heap)(CX:jL)(k:Nat)(f:Addr)(fd:FuncData)(ps:List Str)(sp:Sp):Prop where
 len:∀vs H Q E,sp vs H Q E->vs.length=ps.length
 run:∀(A:Around) (outer:List Env) (s:Shared) (H:Hp) (args:Args) (us:List Value) (vs:List V) (Q:VK) (E:XK),bz k A->jc P w K mg base A outer s H->BindsTo s fd args (ps.zip us)->aD vs us->sp vs H Q E ->
  codeAny (model P w) A (.call (.ref f) args) (CR CX outer P w H s Q E) s
theorem bG.mono{CX:jL}{f:Addr}{sp:Sp}(F:bG P w K mg base CX j f fd ps sp)(h:j<=k) :
  bG P w K mg base CX k f fd ps sp:=⟨F.len,fun A outer s H args us vs Q E hr=>F.run A outer s H args us vs Q E (hr.mono h)⟩
theorem jc.make(e:jc P w K mg base A outer s H)(C:Addr)(us:List Value)(kw:List (Str×Value)) :
  jc P w K mg base (A.under (.builtin "type.__call__" ⟨.ref C::us,kw⟩)) outer s H:=⟨by first|exact e.frames|(simpa [Around.under,Code.envs,Code.isFrame,pushEnvs]using e.frames),e.mod,e.bs,e.bsz,e.funs,e.frf,e.hok,e.bare⟩
theorem jc.in1(e:jc P w K mg base A outer s H) :
  jc P w K mg base A.in1 outer s H:=⟨e.frames,e.mod,e.bs,e.bsz,e.funs,e.frf,e.hok,e.bare⟩
section
theorem ak.env0(I:ak X pins σ H s):jc X.prog X.w X.K X.mg X.base X.A X.stack s H :=
 ⟨I.ok.frames,I.ok.mod,I.bs,QA I.ok.bsz I.sz,I.stack,I.stkFree,I.hok,I.bare⟩
theorem ak.after(I:ak X pins σ H s)(h:CE X.stack X.prog X.w H s Q u s'):EP X pins σ Q u s':=by
 obtain⟨v,H',os,bare,un,hok,r,q⟩:=h
 obtain⟨hh,g,d,t,os'⟩:=s'
 obtain rfl:os'=s.os:=os
 exact⟨v,H',I.call (h':=hh) (g':=g) (d':=d) (t':=t) (ch:=[]) un hok bare (fun b z=>absurd z (by simp)),r,q⟩
end
noncomputable def CC(sp:Sp)(dvs:List V)(E:XK)(t:TA):TE:=fun σ H Q=>t σ H fun vs H1=>sp (vs++dvs) H1 Q E
noncomputable def tMeth(C:Addr)(m:Str)(sp:Sp)(dvs:List V)(E:XK)(ta:TE)(t:TA):TE:=fun σ H Q=>ta σ H fun x H1 => ∃a dx fs,x=.ref a/\H1 a=some (.ins C dx fs)/\fs.lookup m=none /\
 t σ H1 fun vs H2=>sp (x::(vs++dvs)) H2 Q E
noncomputable def CB(C:Addr)(sp:Sp)(dvs:List V)(E:XK)(t:TA):TE:=fun σ H Q=>t σ H fun vs H1 => ∀x dx,H1 x=none->H1 dx=none->dx≠x ->
 sp (.ref x::(vs++dvs)) (az (az H1 dx (.own x)) x (.ins C dx [])) (fun v H2=>v=.non/\Q (.ref x) H2) E
noncomputable def bK(K:W.Frag)(fd:FuncData)(ps:List Str)(ds:List Value):Prop :=
 ∀(s:Shared) (us:List Value),K.In s.heap->(us++ds).length=ps.length->BindsTo s fd ⟨us,[]⟩ (ps.zip (us++ds))
theorem bK.all(h:∀us:List Value,us.length=ps.length->bindArgs fd ⟨us,[]⟩=pure (ps.zip us)):bK K fd ps []:=fun s us _ hl=>by
 rw[QP]at hl⊢
 exact .of_eq (h us hl)
noncomputable def iL(CX:jL)(X:Cx)(E:XK):Prop:=∀(pins:List (Addr×Obj)) (σ:St) (H:Hp) (s:Shared) (e:Value) (s':Shared),ak X pins σ H s->CX X.stack H s E e s'->X.xe e s'
section
variable{CX:jL}{f:Addr}{sp:Sp}{dvs:List V}{ds:List Value}{E:XK}{m:Str}{apos:Pos}{o:Expr}{ta:TE}{t:TA}
theorem yI(F:bG X.prog X.w X.K X.mg X.base CX k f fd ps sp)(hr:bz k X.A)(hb:bK X.K fd ps ds)(hd:aD dvs ds)(hx:iL CX X E)
  (I:ak X pins σ H s) (r:aD vs us) (h:sp (vs++dvs) H Q E):wpAny (model X.prog X.w) X.A (call (.ref f) us) (EP X pins σ Q) X.xe s:=by
 have r2:aD (vs++dvs) (us++ds):=r.append hd
 have hl:(us++ds).length=ps.length:=by rw[<- r2.length];exact F.len _ _ _ _ h
 refine Sq (SE (F.run X.A X.stack s H ⟨us,[]⟩ (us++ds) (vs++dvs) Q E hr I.env0 (hb s us I.kIn hl) r2 h) fun r s' hq=>?_)
 cases r with
 | error e=>exact hx pins σ H s e s' I hq
 | ok fl =>
  cases fl with
  | ret u=>exact I.after hq
  | next=>exact False.elim hq
  | brk=>exact False.elim hq
  | cont=>exact False.elim hq
theorem EM(F:bG X.prog X.w X.K X.mg X.base CX k f fd ps sp)(hr:bz k X.A)(hg:Gl X x)(hm:X.mg x=some (.ref f))(hk:W.keepIn X.K (.ref f)=true)(hb:bK X.K fd ps ds)(hd:aD dvs ds)(hx:iL CX X E)
  (ha:PA X (e::es) t) (hdb:(x==("__debug__" : Str))=false:=by decide) (he:starEach (e::es) X.env=(false,eval e X.env)::starEach es X.env:=by rfl) (hpl:(backTo pos (starEach es X.env)).any (·.1)=false:=by rfl) :
  PE X (.Call (.Name x p) (e::es) [] pos) (CC sp dvs E t):=by
 intro pins s σ H Q I h
 refine RI (dW I hg hm ?_ hdb)
 refine W.callWith_K (h₀:=X.base) I.ok.mod.kin hk (aN (ha pos pins s σ H _ I h) fun us s1 ⟨vs,H1,I1,r,q⟩=>⟨I1.kIn,?_⟩) he hpl
 exact yI F hr hb hd hx I1 r q
theorem Bs(F:bG X.prog X.w X.K X.mg X.base CX k f fd ps sp)(hr:bz k X.A)(hg:Gl X x)(hm:X.mg x=some (.ref f))(hk:W.keepIn X.K (.ref f)=true)(hb:bK X.K fd ps ds)(hd:aD dvs ds)(hx:iL CX X E)
  (hdb:(x==("__debug__" : Str))=false:=by decide):PE X (.Call (.Name x p) [] [] pos) (CC sp dvs E A2):=by
 intro pins s σ H Q I h
 refine RI (dW I hg hm ?_ hdb)
 exact W.callWith_K0 I.kIn hk (yI (us:=[]) F hr hb hd hx I .nil h)
structure Mk(K:W.Frag)(C f:Addr):Prop where
 makes:W.makesIn K C=true
 init:W.findIn K (.ref C) "__init__" = some (some (.ref f))
 fn:W.isFn K (.ref f)=true
 kp:W.keepIn K (.ref C)=true
theorem su(M:Mk X.K C f)(F:bG X.prog X.w X.K X.mg X.base CX k f fd ps sp)(hr:bz (k+1) X.A)(hb:bK X.K fd ps ds)(hd:aD dvs ds)
  (hx:iL CX X E) (I:ak X pins σ H s) (r:aD vs us)
  (h:∀x dx,H x=none->H dx=none->dx≠x->sp (.ref x::(vs++dvs)) (az (az H dx (.own x)) x (.ins C dx [])) (fun v H2=>v=.non/\Q (.ref x) H2) E) :
  wpAny (model X.prog X.w) X.A (call (.ref C) us) (EP X pins σ Q) X.xe s:=by
 have hq:=h (s.heap.objs.size+1) s.heap.objs.size (I.hok.fresh (SO _)) (I.hok.fresh (Ql _)) (QS (QV _))
 have I2:=ak.made (C:=C) I
 have r2:aD (V.ref (s.heap.objs.size+1)::(vs++dvs)) (Value.ref (s.heap.objs.size+1)::(us++ds)):=.cons rfl (r.append hd)
 have hl:(Value.ref (s.heap.objs.size+1)::us++ds).length=ps.length:=by
  have e:=r2.length
  rw[F.len _ _ _ _ hq]at e
  exact e.symm
 refine Sq (sV (f:=f) I.kIn M.makes M.init (beq_iff_eq.mp M.fn) (SE (F.run _ X.stack _ _ ⟨Value.ref (s.heap.objs.size+1)::us,[]⟩ (Value.ref (s.heap.objs.size+1)::(us++ds)) _ _ E (hr.make C us [])
  (I2.env0.make C us []) (hb _ (Value.ref (s.heap.objs.size+1)::us) I2.kIn hl) r2 hq) fun r s' hq'=>?_))
 cases r with
 | error e=>exact hx pins σ _ _ e s' I2 hq'
 | ok fl =>
  cases fl with
  | ret u =>
   obtain⟨v,H',I3,rv,ev,q3⟩:=I2.after hq'
   subst ev
   exact⟨rv,⟨V.ref (s.heap.objs.size+1),H',I3,rfl,q3⟩⟩
  | next=>exact False.elim hq'
  | brk=>exact False.elim hq'
  | cont=>exact False.elim hq'
theorem EK(M:Mk X.K C f)(F:bG X.prog X.w X.K X.mg X.base CX k f fd ps sp)(hr:bz (k+1) X.A)(hg:Gl X x)(hm:X.mg x=some (.ref C))(hb:bK X.K fd ps ds)(hd:aD dvs ds)(hx:iL CX X E)
  (ha:PA X (e::es) t) (hdb:(x==("__debug__" : Str))=false:=by decide) (he:starEach (e::es) X.env=(false,eval e X.env)::starEach es X.env:=by rfl) (hpl:(backTo pos (starEach es X.env)).any (·.1)=false:=by rfl) :
  PE X (.Call (.Name x p) (e::es) [] pos) (CB C sp dvs E t):=by
 intro pins s σ H Q I h
 refine RI (dW I hg hm ?_ hdb)
 refine W.callWith_K (h₀:=X.base) I.ok.mod.kin M.kp (aN (ha pos pins s σ H _ I h) fun us s1 ⟨vs,H1,I1,r,q⟩=>⟨I1.kIn,?_⟩) he hpl
 exact su M F hr hb hd hx I1 r q
theorem Bq(M:Mk X.K C f)(F:bG X.prog X.w X.K X.mg X.base CX k f fd ps sp)(hr:bz (k+1) X.A)(hg:Gl X x)(hm:X.mg x=some (.ref C))(hb:bK X.K fd ps ds)(hd:aD dvs ds)(hx:iL CX X E)
  (hdb:(x==("__debug__" : Str))=false:=by decide):PE X (.Call (.Name x p) [] [] pos) (CB C sp dvs E A2):=by
 intro pins s σ H Q I h
 refine RI (dW I hg hm ?_ hdb)
 exact W.callWith_K0 I.kIn M.kp (su (us:=[]) M F hr hb hd hx I .nil h)
end
section
variable{CX:jL}{f:Addr}{ks:List Str}{sp:Sp}{E:XK}{m:Str}{apos kpos:Pos}{o:Expr}{kws:List Keyword}{ta:TE}{t tk:TA}{nm:Option Str}
variable{g:List Value->List Value->List Value}{gV:List V->List V->List V}
end
structure aV(N P:List Str)(sc:Scope):Prop where
 kind:sc.kind=.function
 co:sc.isCoroutine=false
 gen:sc.isGenerator=false
 nd:N.Nodup
 pre:N.take P.length=P
 par:∀x∈P,sc.names.lookup x=some .local\/sc.names.lookup x=some .cell
 nofree:∀y∈sc.names,y.2 ≠ .free
theorem q8{kindOf:Str->Option NameKind}{x:Str}:∀{binds:List (Str×Value)} {m:Str->Option Value},(∀v,(x,v)∉binds)->bindL kindOf binds m x=m x
 | [],_,_=>rfl
 | (n,v)::r,m,h=>by
  unfold bindL
  rw[q8 fun w hw=>h w (Qi _ hw)]
  split
  ·have:x≠n:=by rintro rfl;exact h v Qj
   simp[this]
  ·rfl
theorem rc{kindOf:Str->Option NameKind}{x:Str}:∀{binds:List (Str×Value)} {m:Str->Option Value},(∀v,(x,v)∉binds)->bindC kindOf binds m x=m x
 | [],_,_=>rfl
 | (n,v)::r,m,h=>by
  unfold bindC
  rw[rc fun w hw=>h w (Qi _ hw)]
  split
  ·rfl
  ·have:x≠n:=by rintro rfl;exact h v Qj
   simp[this]
theorem q9{kindOf:Str->Option NameKind}{x:Str}{v:Value}:∀{P:List Str} {vs:List Value} {i:Nat} {m:Str->Option Value},P.Nodup->P[i]?=some x->vs[i]?=some v->kindOf x=some .local ->
  bindL kindOf (P.zip vs) m x=some v
 | [],_,_,_,_,h,_,_=>by simp at h
 | _::_,[],_,_,_,_,h,_=>by simp at h
 | p::P,w::vs,0,m,nd,h1,h2,hk=>by
  simp at h1 h2;subst h1;subst h2
  show bindL kindOf ((p,w)::P.zip vs) m p=_
  unfold bindL
  rw[q8 fun v hv=>(Se.mp nd).1 (List.of_mem_zip hv).1,if_pos hk]
  simp
 | p::P,w::vs,i+1,m,nd,h1,h2,hk=>by
  show bindL kindOf ((p,w)::P.zip vs) m x=_
  unfold bindL
  exact q9 (i:=i) (Se.mp nd).2 (by simpa using h1) (by simpa using h2) hk
theorem re{kindOf:Str->Option NameKind}{x:Str}{v:Value}:∀{P:List Str} {vs:List Value} {i:Nat} {m:Str->Option Value},P.Nodup->P[i]?=some x->vs[i]?=some v->kindOf x≠some .local ->
  bindC kindOf (P.zip vs) m x=some v
 | [],_,_,_,_,h,_,_=>by simp at h
 | _::_,[],_,_,_,_,h,_=>by simp at h
 | p::P,w::vs,0,m,nd,h1,h2,hk=>by
  simp at h1 h2;subst h1;subst h2
  show bindC kindOf ((p,w)::P.zip vs) m p=_
  unfold bindC
  rw[rc fun v hv=>(Se.mp nd).1 (List.of_mem_zip hv).1,if_neg hk]
  simp
 | p::P,w::vs,i+1,m,nd,h1,h2,hk=>by
  show bindC kindOf ((p,w)::P.zip vs) m x=_
  unfold bindC
  exact re (i:=i) (Se.mp nd).2 (by simpa using h1) (by simpa using h2) hk
noncomputable def start(N:List Str)(vs:List V):St:=vs.map some++List.replicate (N.length-vs.length) none
noncomputable def iE(CX:jL)(P:Program)(w:World)(K:W.Frag)(mg:Str->Option Value)(base:Heap)(N:List Str)(qual:Str)(scope:Scope)(f:Addr)(cd:Value)(A:Around)(outer:List Env)(s:Shared)(H:Hp)(E:XK):Cx where
 prog:=P
 w:=w
 K:=K
 mg:=mg
 base:=base
 A:=A.deeper (envOfC qual scope s.heap.objs.size f cd)
 N:=N
 s₀:=s
 H₀:=H
 env:=envOfC qual scope s.heap.objs.size f cd
 outer:=outer
 stack:=envOfC qual scope s.heap.objs.size f cd::outer
 ex:=[]
 calm:=true
 fn:=fun _=>true
 pn:=[]
 xe:=fun e s'=>wpAny (model P w) (A.deeper (envOfC qual scope s.heap.objs.size f cd)) (leaving (envOfC qual scope s.heap.objs.size f cd) e) (fun _ s''=>CX outer H s E e s'') (fun e' s''=>CX outer H s E e' s'') s'
theorem uc{sc:Scope}(h:sc.names.lookup x=some .cell):∃c,(cellsFrom n sc.names []).lookup x=some c:=by
 have q:=W.cellsFrom_some sc.names n [] (.inl h)
 exact Option.isSome_iff_exists.mp q
theorem zC{CX:jL}{f:Addr}{cd:Value}{s1:Shared}{E:XK}
  (S:aV N ps scope) (hd:A.handled=none) (e0:jc P w K mg base A outer s H) (hl:vs.length=ps.length) (r:aD vs us)
  (x:InCallC s s.heap.objs.size (bindL (envOfC qual scope s.heap.objs.size f cd).kindOf (ps.zip us) fun _=>none) (cellsFrom (s.heap.objs.size+1) scope.names []) (bindC (envOfC qual scope s.heap.objs.size f cd).kindOf (ps.zip us) fun _=>none) s1) :
  ak (iE CX P w K mg base N qual scope f cd A outer s H E) [] (start N vs) H s1:=by
 have hpl:ps.length<=N.length:=by have:=Rq List.length S.pre;rw[QR]at this;omega
 obtain⟨h1,tk,rfl,hk⟩:=x.done
 have noA:∀b:Addr,b∉(iE CX P w K mg base N qual scope f cd A outer s H E).ex:=fun b z=>absurd (show b∈([]:List Addr)from z) (by simp)
 refine⟨⟨e0.mod,S.kind,rfl,rfl,Ql _,fun y z c h1 h2=>?_,fun y hy=>?_,fun y c _ h=>?_,fun _=>hd,Around.frames_deeper e0.frames,.inr ⟨rfl,rfl⟩,fun b z=>absurd z (noA b),e0.bs,e0.bsz,fun b _ _=>noA b,fun b z=>absurd z (noA b),e0.funs,e0.frf⟩,
  rfl,e0.bare,Un.kept hk,⟨_,x.toInCall.ns,fun i y v h1 h2 h3=>?_⟩,fun y c h=>⟨_,x.cell y c h⟩,e0.hok.fresh (Ql _),fun y c h=>?_,fun p hp=>absurd (show p∈([]:List (Addr×Obj))from hp) (by simp),e0.hok.kept hk,?_⟩
 ·exact name_of_addr x.apart (QH h1) (QH h2)
 ·have hy:scope.names.lookup y=some .cell\/scope.names.lookup y=some .free:=hy
  rcases hy with hy|hy
  ·exact uc hy
  ·exact absurd rfl (S.nofree _ (QH hy))
 ·exact RW (x.above y c (QH h))
 ·have hi:i<vs.length:=by
   unfold start at h2
   by_cases hi:i<vs.length
   ·exact hi
   ·rw[List.getElem?_append_right (by simpa using hi)]at h2
    rw[List.getElem?_replicate]at h2
    split at h2<;>cases h2
  have ha:vs[i]?=some v:=by
   unfold start at h2
   rw[List.getElem?_append_left (by simpa using hi),QY]at h2
   cases e:vs[i]? with
   | none=>rw[e]at h2;cases h2
   | some a=>rw[e]at h2;cases h2;rfl
  obtain⟨u,hu,rv⟩:=r.get ha
  have hp:ps[i]?=some y:=by
   rw[<- S.pre,List.getElem?_take_of_lt (by omega)];exact h1
  have ndP:ps.Nodup:=by rw[<- S.pre];exact S.nd.sublist (List.take_sublist _ _)
  refine⟨u,rv,?_⟩
  rcases S.par y (Re hp)with k|k
  ·exact .inl ⟨k,q9 ndP hp hu k⟩
  ·obtain⟨c,e⟩:=uc (n:=s.heap.objs.size+1) k
   refine .inr ⟨.inl k,c,e,?_⟩
   have q:=x.cell y c e
   rw[re ndP hp hu (by show scope.names.lookup y≠_;rw[k];decide)]at q
   exact q
 ·exact e0.hok.fresh (RW (x.above y c (QH h)))
 ·unfold start
  show _=N.length
  rw[Qr,Qp,List.length_replicate]
  omega
theorem Di{CX:jL}{f:Addr}{name:Str}{params:Arguments}{dV kV doc pm cdv ct oc:Value}{an od:Option Addr}
  {osl:Array (Option Value)} {sp:Sp} (lk:K.lookup f=some ⟨oc,od,.func (W.fnOf name qual params body scope dV kV doc pm an cdv ct),osl⟩) (hcd:W.codeIn K cdv qual=true) (S:aV N ps scope)
  (len:∀vs H Q E,sp vs H Q E->vs.length=ps.length)
  (hbody:∀(A:Around) (outer:List Env) (s:Shared) (H:Hp) (vs:List V) (Q:VK) (E:XK),bz k (A.deeper (envOfC qual scope s.heap.objs.size f cdv))->sp vs H Q E ->
   ∃t,cZ (iE CX P w K mg base N qual scope f cdv A outer s H E) body t/\t { nx:=fun _ H'=>Q .non H',rt:=Q } (start N vs) H) :
  bG P w K mg base CX (k+1) f (W.fnOf name qual params body scope dV kV doc pm an cdv ct) ps sp:=by
 refine⟨len,fun A outer s H args us vs Q E hr e0 hb r hsp=>?_⟩
 have hl:=len _ _ _ _ hsp
 have KX:K.In s.heap:=e0.mod.kin.keeps fun b o e=>(e0.bs b o e).1
 have lim:s.heap.NoLimit:=e0.mod.nolimit.keeps fun b o e=>(e0.bs b o e).1
 have hkind:∀y∈ps.zip us,scope.names.lookup y.1=some .local\/(scope.names.lookup y.1=some .cell/\((cellsFrom (s.heap.objs.size+1) scope.names []).lookup y.1).isSome=true):=fun⟨n,v⟩ hy=>by
  rcases S.par n (List.of_mem_zip hy).1 with q|q
  ·exact .inl q
  ·exact .inr ⟨q,W.cellsFrom_some _ _ _ (.inl q)⟩
 refine codeAny_call_function hr.depth (KX _ _ lk) rfl S.co S.gen rfl (W.codeRec_of KX hcd) (hb _ _ _ _ ?_)
 refine wpAny_newFunctionEnv_cells S.kind hkind fun env he s1 x=>?_
 subst he
 refine⟨lim.keeps x.toInCall.keep,codeAny_func ?_⟩
 obtain⟨t,ht,hq⟩:=hbody A outer s H vs Q E (hr.deeper _) hsp
 have I:ak (iE CX P w K mg base N qual scope f cdv A outer s H E) [] (start N vs) H s1:=zC S hr.hd e0 hl r x
 refine Rb (ht [] s1 (start N vs) H _ I hq) (fun fl s' hs=>?_) fun e s' hs=>hs
 have fin:∀{σ':St} {H':Hp} {v:V} {u:Value},ak (iE CX P w K mg base N qual scope f cdv A outer s H E) [] σ' H' s'->aP v u->Q v H'->CE outer P w H s Q u s' :=
  fun {σ' H' v u} J rv q=>⟨v,H',J.os,J.bare,J.base,J.hok,rv,q⟩
 cases fl with
 | ret u =>
  obtain⟨v,σ',H',J,rv,q⟩:=hs
  exact fin J rv q
 | next =>
  obtain⟨σ',H',J,q⟩:=hs
  exact fin (v:=V.non) (u:=Value.none) J rfl q
 | brk =>
  obtain⟨_,_,_,q⟩:=hs
  exact False.elim q
 | cont =>
  obtain⟨_,_,_,q⟩:=hs
  exact False.elim q
section
variable{t:TA}{id T:String}{r:List V->Hp->VK->Prop}
noncomputable def LY(r:List V->Hp->VK->Prop)(t:TA):TE:=fun σ H Q=>t σ H fun vs H1=>r vs H1 Q
theorem sJ(hc:eg X (.builtin id) r)(hg:Gl X x)(hm:X.mg x=none)(hv:bootBuiltins x=some (.builtin id))(ha:PA X (e::es) t)(hn:x ≠ "__name__" := by decide)(hdb:(x==("__debug__" : Str))=false:=by decide)
  (he:starEach (e::es) X.env=(false,eval e X.env)::starEach es X.env:=by rfl) (hpl:(backTo pos (starEach es X.env)).any (·.1)=false:=by rfl):PE X (.Call (.Name x p) (e::es) [] pos) (LY r t):=by
 intro pins s σ H Q I h
 refine RI (io I hg hm hv ?_ hn hdb)
 exact PyProof.Rows.callWith_builtin1 (aN (ha pos pins s σ H _ I h) fun us s1 ⟨vs,H1,I1,r1,q1⟩=>hc pins s1 σ H1 vs us Q I1 r1 q1) he hpl
theorem yX(hc:eg X (.type T) r)(hg:Gl X x)(hm:X.mg x=none)(hv:bootBuiltins x=some (.type T))(ha:PA X (e::es) t)(hn:x ≠ "__name__" := by decide)(hdb:(x==("__debug__" : Str))=false:=by decide)
  (he:starEach (e::es) X.env=(false,eval e X.env)::starEach es X.env:=by rfl) (hpl:(backTo pos (starEach es X.env)).any (·.1)=false:=by rfl):PE X (.Call (.Name x p) (e::es) [] pos) (LY r t):=by
 intro pins s σ H Q I h
 refine RI (io I hg hm hv ?_ hn hdb)
 exact RO (aN (ha pos pins s σ H _ I h) fun us s1 ⟨vs,H1,I1,r1,q1⟩=>hc pins s1 σ H1 vs us Q I1 r1 q1) he hpl
end
end L2
namespace HT
open PySem PyProof.Rows
variable{b:Addr}{Q:Value->Shared->Prop}
noncomputable def lexLt:List Int->List Int->Bool
 | [],[]=>false
 | [],_::_=>true
 | _::_,[]=>false
 | x::xs,y::ys=>if x=y then lexLt xs ys else decide (x<y)
theorem lexLt_cons(x y:Int)(xs ys:List Int):lexLt (x::xs) (y::ys)=if x=y then lexLt xs ys else decide (x<y):=rfl
theorem kr:lexLt [] []=false:=rfl
theorem ju(y:Int)(ys:List Int):lexLt [] (y::ys)=true:=rfl
theorem jv(x:Int)(xs:List Int):lexLt (x::xs) []=false:=rfl
theorem tW(A:Around)(s:Shared)(a:Int)(t:Tok)(c:Int)(u:Tok):∃e,SeqAt.EqAt A s (.int a t) (.int c u) e/\(e=true↔a=c) :=
 ⟨(a==c),SeqAt.EqAt.int_int a t c u,by simp⟩
theorem Bk(A:Around)(s:Shared)(a:Int)(t:Tok)(c:Int)(u:Tok)(prog:Program)(w:World)(E:Value->Shared->Prop)(Q:Value->Shared->Prop)(h:Q (.bool (decide (a<c))) s) :
  wpAny (model prog w) A (richCompare .Lt (.int a t) (.int c u)) Q E s :=
 (PyProof.Rows.lt_int h:wpAny (model prog w) A (compareOp .Lt (.int a t) (.int c u)) Q E s)
section
open PySem.SeqAt
open PySem.AutoSeq1 (wpAny_loadPart')
open PySem.MeetsSeq PySem.MeetsSeq2 PySem.MeetsSeq3
theorem rk(l b:Addr)(items items2:Array Value)(n n2:Nat)(dd dd2:Option Addr)(sl sl2:Array (Option Value))(ns ms:List Int)(hi:IntsAre items.toList ns)(hj:IntsAre items2.toList ms) :
  Meets (Builtin.«tuple.__lt__» ⟨[.ref l,.ref b],[]⟩)
   (fun _ R s=>s.heap.get? l=some { cls:=.type "tuple", dict:=dd,data:=.seq items n,slots:=sl }/\s.heap.get? b=some { cls:=.type "tuple", dict:=dd2,data:=.seq items2 n2,slots:=sl2 } /\
    R (.ok (.ret (.bool (lexLt ns ms)))) s) :=
 .of_wp fun prog w A R s h=>by
  obtain⟨hp,g,d,tk,os⟩:=s;obtain⟨hl,hb,h⟩:=h
  have f2:=AutoSeq1.sub_tuple_tuple
  have z1:items.size=ns.length:=by rw[<- hi.length];simp
  have z2:items2.size=ms.length:=by rw[<- hj.length];simp
  wp_walk using Rx hl,Rx hb,wpAny_forIn_list _ (fun be b s'=>b.1=none/\s'=⟨hp,g,d,tk,os⟩/\∃(vs ws:List Value) (ns' ms':List Int),be=vs.zip ws /\
   IntsAre vs ns'/\IntsAre ws ms'/\ns'.length+items2.size=ms'.length+items.size/\R (.ok (.ret (.bool (lexLt ns' ms')))) ⟨hp,g,d,tk,os⟩) _
  case turn =>
   rintro⟨y,x⟩ be b s' ⟨hb',rfl,vs,ws,ns',ms',hz,hvi,hwi,hlen,hR⟩
   cases hvi with
   | nil=>rw[List.zip_nil_left]at hz;cases hz
   | cons a t hvi' =>
    cases hwi with
    | nil=>rw[List.zip_nil_right]at hz;cases hz
    | cons c u hwi' =>
     rw[RJ]at hz
     injection hz with hyx hrest
     injection hyx with hy hx
     subst hy hx
     rw[lexLt_cons]at hR
     simp only[Qw]at hlen
     obtain⟨e,he,hiff⟩:=tW A.in1 ⟨hp,g,d,tk,os⟩ a t c u
     refine Qh (he prog w _ _ ?_)
     cases e with
     | true =>
      rw[if_pos (hiff.mp rfl)]at hR
      wp_walk
      exact⟨rfl,rfl,_,_,_,_,hrest,hvi',hwi',by omega,hR⟩
     | false =>
      rw[if_neg (fun q=>absurd (hiff.mpr q) QL)]at hR
      have hri:=Bk A.in1 ⟨hp,g,d,tk,os⟩ a t c u prog w
      wp_walk using hri
      exact⟨_,rfl,by simpa using hR⟩
  case fin =>
   rintro⟨b1,b2⟩ s' ⟨hb',rfl,vs,ws,ns',ms',hz,hvi,hwi,hlen,hR⟩
   simp only at hb'
   subst hb'
   have hv:lexLt ns' ms'=decide (items.size<items2.size):=by
    cases hvi with
    | nil =>
     cases hwi with
     | nil =>
      simp only[Rl]at hlen
      rw[kr]
      exact(QD (by omega)).symm
     | cons c u hw =>
      simp only[Rl,Qw]at hlen
      rw[ju]
      exact(QM (by omega)).symm
    | cons a t hv =>
     cases hwi with
     | nil =>
      simp only[Rl,Qw]at hlen
      rw[jv]
      exact(QD (by omega)).symm
     | cons c u hw =>
      rw[RJ]at hz
      cases hz
   rw[hv]at hR
   wp_walk
   exact⟨_,rfl,by simpa [Builtin.Tuple.tupleCompareSizes]using hR⟩
  case h =>
   exact⟨rfl,rfl,items.toList,items2.toList,ns,ms,rfl,hi,hj,by omega,h⟩
end
section
variable{prog:Program}{w:World}{A:Around}{E:Value->Shared->Prop}{s:Shared}
theorem lt_tupInts{l:Addr}{items items2:Array Value}{ns ms:List Int}(hl:IsTup s.heap l items)(hb:IsTup s.heap b items2)(hi:IntsAre items.toList ns)(hj:IntsAre items2.toList ms)
  (hu:A.units<cLine) (h:Q (.bool (lexLt ns ms)) s):wpAny (model prog w) A (compareOp .Lt (.ref l) (.ref b)) Q E s:=by
 obtain⟨⟨cls,dd,data,sl⟩,ho,hc,n,hd⟩:=id hl
 obtain⟨⟨cls2,dd2,data2,sl2⟩,ho2,hc2,n2,hd2⟩:=id hb
 simp only at hc hd hc2 hd2
 subst hc hd hc2 hd2
 exact richCompare_meets_room (op:=.Lt) ⟨_,ho,rfl⟩ ⟨_,ho2,rfl⟩ PySem.F.slot_tuple_lt PySem.F.entry_tuple_lt (PySem.F.args_tuple_lt_2 _ _) (rk l b items items2 n n2 dd dd2 sl sl2 ns ms hi hj)
  ⟨ho,ho2,show Value.bool (lexLt ns ms)≠Value.notImplemented/\Q (.bool (lexLt ns ms)) s from⟨(fun x=>nomatch x),h⟩⟩ hu
theorem cat_tup{t:Addr}{vs ws:List Value}(ht:IsTup s.heap t vs.toArray)(hb:IsTup s.heap b ws.toArray)(hv:vs≠[])
  (h1:ws=[]->Q (.ref t) s) (h2:ws≠[]->Q (.ref s.heap.objs.size) { s with heap:=s.heap.push { cls:=.type "tuple", data:=.seq (vs++ws).toArray } })
  (hsz:vs.length+ws.length<=sizeLine):wpAny (model prog w) A (binaryOp .Add (.ref t) (.ref b)) Q E s:=by
 obtain⟨⟨cls,dd,data,sl⟩,ho,hc,n,hd⟩:=id ht
 obtain⟨⟨cls2,dd2,data2,sl2⟩,ho2,hc2,n2,hd2⟩:=id hb
 simp only at hc hd hc2 hd2
 subst hc hd hc2 hd2
 have e:vs.toArray++ws.toArray=(vs++ws).toArray:=by simp
 by_cases hw:ws=[]
 ·exact concat_meets ⟨_,ho,rfl⟩ ⟨_,ho2,rfl⟩ noFill_tuple_add seq_tuple_add PySem.F.slot_tuple_add PySem.F.entry_tuple_add (PySem.F.args_tuple_add_2 _ _)
   (tuple_addW1 t b vs.toArray ws.toArray n n2 dd dd2 sl sl2 (by simpa using hv) (by simp[hw])) ⟨ho,ho2,h1 hw⟩
 ·refine concat_meets ⟨_,ho,rfl⟩ ⟨_,ho2,rfl⟩ noFill_tuple_add seq_tuple_add PySem.F.slot_tuple_add PySem.F.entry_tuple_add (PySem.F.args_tuple_add_2 _ _)
   (tuple_addW2 t b vs.toArray ws.toArray n n2 dd dd2 sl sl2 (by simpa using hv) (by simpa using hw) (by rw[QI,QI];exact hsz)) ⟨ho,ho2,?_⟩
  rw[e]
  exact h2 hw
noncomputable def sIx(n d:Nat):Option Int->Nat
 | none=>d
 | some v=>if v<0 then(v+(n:Int)).toNat else min v.toNat n
end
end HT
namespace L2
open PySem PySem.Spec PyProof.Rows
variable{xs:List V}{its its' us:List Value}{j n:Nat}{i:Int}{α:Type}{pins:List (Addr×Obj)}{σ:St}{H:Hp}{s:Shared}{p:Addr}
noncomputable abbrev TO:=St->Hp->(Option Int->Hp->Prop)->Prop
noncomputable def PO(X:Cx)(e:Option Expr)(t:TO):Prop :=
 ∀(pins:List (Addr×Obj)) (s:Shared) (σ:St) (H:Hp) (Q:Option Int->Hp->Prop),ak X pins σ H s->t σ H Q ->
  wpAny (model X.prog X.w) X.A (evalPart e X.env) (fun u s' => ∃o H',ak X pins σ H' s'/\IsPart u o/\Q o H') X.xe s
noncomputable def D3:TO:=fun _ H Q=>Q none H
noncomputable def KL(t:TE):TO:=fun σ H Q=>t σ H fun x H1 => ∃i,x=.int i/\Q (some i) H1
theorem gT{ns:List Int}:∀{us:List Value},aD (ns.map V.int) us->IntsAre us ns:=by
 induction ns with
 | nil=>intro us r;rw[SF]at r;cases r;exact .nil
 | cons n ns ih =>
  intro us r
  rw[QJ]at r
  cases r with
  | cons r1 r2 =>
   obtain⟨t,e⟩:=r1
   subst e
   exact .cons n t (ih r2)
section
variable{X:Cx}{e:Expr}{te:TE}{lo hi:Option Expr}{tl th:TO}{pos p2:Pos}
theorem EI:PO X none D3:=by
 intro pins s σ H Q I h
 rw[evalPart_none]
 exact Qq ⟨none,H,I,.none,h⟩
theorem EH(h:PE X e te):PO X (some e) (KL te):=by
 intro pins s σ H Q I hw
 rw[evalPart_some]
 refine aN (h pins s σ H _ I hw) fun u s1 ⟨x,H1,I1,r1,q1⟩=>?_
 obtain⟨i,rfl,q⟩:=q1
 obtain⟨t,rfl⟩:=r1
 exact⟨some i,H1,I1,.int i t,q⟩
noncomputable def Jt(xs:List V)(lo hi:Option Int):List V:=(xs.drop (HT.sIx xs.length 0 lo)).take (HT.sIx xs.length xs.length hi-HT.sIx xs.length 0 lo)
noncomputable def M9(K:W.Frag):R2:=fun x y H Q => ∃a b ns ms,x=.ref a/\y=.ref b/\ba K H a (ns.map V.int)/\ba K H b (ms.map V.int)/\Q (.bl (HT.lexLt ns ms)) H
theorem HH(hu:X.A.units<cLine):cQ X (compareOp .Lt) (M9 X.K):=by
 intro pins s σ H x y v u Q I rx ry h
 obtain⟨a,b,ns,ms,rfl,rfl,ha,hb,q⟩:=h
 cases rx
 cases ry
 obtain⟨its,r1,p1,_⟩:=I.tuple ha
 obtain⟨its2,r2,p2,_⟩:=I.tuple hb
 have i1:IntsAre its.toArray.toList ns:=gT r1
 have i2:IntsAre its2.toArray.toList ms:=gT r2
 exact HT.lt_tupInts p1 p2 i1 i2 hu ⟨.bl (HT.lexLt ns ms),H,I,rfl,q⟩
noncomputable def K4(K:W.Frag):R2:=fun x y H Q => ∃a b xs ys,x=.ref a/\y=.ref b/\ba K H a xs/\ba K H b ys/\xs≠[]/\xs.length+ys.length<=sizeLine /\
 (ys=[]->Q (.ref a) H)/\(ys≠[]->∀p,H p=none->Q (.ref p) (az H p (.tup (xs++ys))))
theorem aD.nil_iff(r:aD xs us):us=[]↔xs=[]:=by
 cases r with
 | nil=>simp
 | cons _ _=>simp
theorem EW:cQ X (binaryOp .Add) (K4 X.K):=by
 intro pins s σ H x y v u Q I rx ry h
 obtain⟨a,b,xs,ys,rfl,rfl,ha,hb,hx,hz,q1,q2⟩:=h
 cases rx
 cases ry
 obtain⟨its,r1,p1,_⟩:=I.tuple ha
 obtain⟨its2,r2,p2,_⟩:=I.tuple hb
 refine HT.cat_tup p1 p2 (fun z=>hx (r1.nil_iff.mp z)) (fun z=>⟨.ref a,H,I,rfl,q1 (r2.nil_iff.mp z)⟩) (fun z=>?_) (by rw[<- r1.length,<- r2.length];exact hz)
 refine⟨.ref s.heap.objs.size,_,I.laid (t':=s.toks) (o:=.tup (xs++ys)) (fun b ob q=>Qk _ q) (Ql _) ?_,rfl,q2 (fun w=>z (r2.nil_iff.mpr w)) _ (I.hok.fresh (Ql _))⟩
 exact⟨by rw[Qr];exact hz,_,r1.append r2,me.new _ _⟩
end
noncomputable def ku(n:Nat)(i:Int):Option Nat:=if 0<=i then(if i<n then some i.toNat else none)else if -(n:Int)<=i then some (i+n).toNat else none
noncomputable def atI{α:Type}(xs:List α)(i:Int):Option α:=(ku xs.length i).bind fun j=>xs[j]?
theorem vW(h:ku n i=some j):seqIndex? i n=some j/\j<n /\ -(n:Int)<=i/\i<n:=by
 unfold ku at h
 by_cases h0:0<=i
 ·rw[if_pos h0]at h
  by_cases h1:i<n
  ·rw[if_pos h1]at h
   have e:i.toNat=j:=QX h
   exact⟨by rw[seqIndex_of h0 h1,e],by omega,by omega,h1⟩
  ·rw[if_neg h1]at h;cases h
 ·rw[if_neg h0]at h
  by_cases h1:-(n:Int)<=i
  ·rw[if_pos h1]at h
   have e:(i+n).toNat=j:=QX h
   exact⟨by rw[seqIndex_neg (by omega) h1,e],by omega,h1,by omega⟩
  ·rw[if_neg h1]at h;cases h
theorem wg{xs:List α}{v:α}(h:atI xs i=some v):∃j,seqIndex? i xs.length=some j/\xs[j]?=some v/\j<xs.length /\ -(xs.length:Int)<=i/\i<xs.length:=by
 unfold atI at h
 cases e:ku xs.length i with
 | none=>rw[e]at h;cases h
 | some j =>
  rw[e]at h
  obtain⟨h1,h2,h3,h4⟩:=vW e
  exact⟨j,h1,h,h2,h3,h4⟩
theorem wf{xs:List α}{v:α}(h:xs[j]?=some v):atI xs (j:Int)=some v:=by
 have hj:j<xs.length:=(Qz.mp h).1
 have e:ku xs.length (j:Int)=some j:=by
  unfold ku
  rw[if_pos (by omega),if_pos (by omega)];simp
 unfold atI;rw[e];exact h
noncomputable def gn(b:Expr):Prop:=∀o i,subscripted b false o i=operate [o,i] (getItem o i)
noncomputable def AS(X:Cx)(r:R2):Prop :=
 ∀(value slice:Expr) (pins:List (Addr×Obj)) (s:Shared) (σ:St) (H:Hp) (x y:V) (v u:Value) (Q:VK),ak X pins σ H s->aP x v->aP y u->r x y H Q ->
  subscripted slice false v u=operate [v,u] (getItem v u)->wpAny (model X.prog X.w) X.A (subscriptTail value slice v u) (EP X pins σ Q) X.xe s
noncomputable def wn(X:Cx)(id:String)(r:V->List V->Hp->VK->Prop):Prop :=
 ∀(pins:List (Addr×Obj)) (s:Shared) (σ:St) (H:Hp) (x:V) (xs:List V) (v:Value) (us:List Value) (Q:VK),ak X pins σ H s->aP x v->aD xs us->r x xs H Q ->
  wpAny (model X.prog X.w) X.A (call (.builtin id) (v::us)) (EP X pins σ Q) X.xe s
section
variable{X:Cx}{a b:Expr}{ta tb:TE}{pos:Pos}
theorem rn{r:R2}(hr:AS X r)(ha:PE X a ta)(hb:PE X b tb)(hs:gn b):PE X (.Subscript a b pos) (GA r ta tb):=by
 intro pins s σ H Q I h
 exact Subscript_ (Ke ha hb I h fun v u s2 x y H2 I2 rx ry q=>hr a b pins s2 σ H2 x y v u Q I2 rx ry q (hs _ _))
noncomputable def Nb(K:W.Frag):R2:=fun x y H Q => ∃p xs i v,x=.ref p/\y=.int i/\bT K H p xs/\atI xs i=some v/\Q v H
noncomputable def Na(K:W.Frag):R2:=fun x y H Q => ∃p xs i v,x=.ref p/\y=.int i/\ba K H p xs/\atI xs i=some v/\Q v H
theorem Fw:AS X (Nb X.K):=by
 intro value slice pins s σ H x y v u Q I rx ry h hs
 obtain⟨p,xs,i,z,rfl,rfl,hq,he,q⟩:=h
 cases rx
 obtain⟨t,rfl⟩:=ry
 obtain⟨its,r,pl,hz⟩:=I.list hq
 obtain⟨j,h1,h2,h3,h4,h5⟩:=wg he
 obtain⟨w,ew,rw'⟩:=r.get h2
 have hl:=r.length
 have hn:=pj
 have fin:EP X pins σ Q w s:=⟨z,H,I,rw',q⟩
 by_cases h0:0<=i
 ·have hj:i.toNat=j:=by
   rw[seqIndex_of h0 h5]at h1
   exact QX h1
  exact item_listR pl.isList h0 (by omega) (by rw[hj];simpa using ew) fin hs
 ·have hj:(i+(its.toArray.size:Int)).toNat=j:=by
   rw[seqIndex_neg (by omega) h4]at h1
   rw[QI,<- hl]
   exact QX h1
  exact subscriptTail_builtinR (x:=w) pl.isList.typeIs slot_list_getitem.lookup
   (wpAny_getItem_list_neg (Q:=fun r s'=>r=w/\EP X pins σ Q r s') pl.isList (by omega) (by rw[QI]<;>omega) (by omega) (by rw[hj];simpa using ew) ⟨rfl,fin⟩) hs
theorem Ix:AS X (Na X.K):=by
 intro value slice pins s σ H x y v u Q I rx ry h hs
 obtain⟨p,xs,i,z,rfl,rfl,hq,he,q⟩:=h
 cases rx
 obtain⟨t,rfl⟩:=ry
 obtain⟨its,r,pl,hz⟩:=I.tuple hq
 obtain⟨j,h1,h2,h3,h4,h5⟩:=wg he
 obtain⟨w,ew,rw'⟩:=r.get h2
 have hl:=r.length
 have hn:=pj
 have fin:EP X pins σ Q w s:=⟨z,H,I,rw',q⟩
 exact subscriptTail_builtinR (x:=w) pl.typeIs slot_tuple_getitem.lookup
  (getItem_tuple (j:=j) (Q:=fun r s'=>r=w/\EP X pins σ Q r s') pl (by omega) (by omega) (by rw[QI,<- hl];exact h1) (by simpa using ew) ⟨rfl,fin⟩) hs
theorem xi(its:List Value)(n j:Nat)(u:Value):Obj.mapSeq (·.setIfInBounds j u) { cls:=.type "list", data:=.seq its.toArray n } = { cls:=.type "list", data:=.seq (its.set j u).toArray n }:=by
 simp[Obj.mapSeq]
theorem ak.lst(I:ak X pins σ H s)(h:H p=some (.lst xs)) :
  ∃(its:List Value) (n:Nat),aD xs its/\s.heap.get? p=some { cls:=.type "list", data:=.seq its.toArray n }/\xs.length<=sizeLine:=by
 obtain⟨z,its,n,r,e⟩:=I.hok p _ h
 exact⟨its,n,r,e,z⟩
theorem ak.lstUpd{ys:List V}{n':Nat}{f:Obj->Obj}(I:ak X pins σ H s)(h:H p=some (.lst xs))
  (ho:s.heap.get? p=some { cls:=.type "list", data:=.seq its.toArray n }) (hf:f { cls:=.type "list", data:=.seq its.toArray n } = { cls:=.type "list", data:=.seq its'.toArray n' }) (r:aD ys its') (hz:ys.length<=sizeLine) (t:Nat) :
  ak X pins σ (az H p (.lst ys)) { s with heap:=s.heap.update p f,toks:=t }:=by
 have e:(s.heap.update p f).get? p=some { cls:=.type "list", data:=.seq its'.toArray n' }:=by
  rw[Sf f ho (by rw[hf]<;>rfl),hf]
 refine I.write (x:=p) (e:=p) (by rw[h];trivial) (.inl rfl) (fun b u hb q=>(QK _ _ (Rv hb)).trans q) ⟨_,e⟩ ?_
 exact⟨hz,its',n',r,e⟩
noncomputable def K0:V->V->V->Hp->(Hp->Prop)->Prop:=fun o i v H Q => ∃p xs k j,o=.ref p/\i=.int k/\H p=some (.lst xs)/\ku xs.length k=some j/\Q (az H p (.lst (xs.set j v)))
theorem Ba:xV X K0:=by
 intro pins s σ H o i v ov iv u Q I ro ri rv h
 obtain⟨p,xs,k,j,rfl,rfl,hp,hj,q⟩:=h
 cases ro
 obtain⟨t,rfl⟩:=ri
 obtain⟨its,n,r,ho,hz⟩:=I.lst hp
 obtain⟨h1,h2,h3,h4⟩:=vW hj
 have hl:=r.length
 have hn:=pj
 have I':ak X pins σ (az H p (.lst (xs.set j v))) { s with heap:=s.heap.update p (Obj.mapSeq (·.setIfInBounds j u)) } :=
  I.lstUpd hp ho (xi its n j u) (r.set rv j) (by rw[Ri];exact hz) s.toks
 by_cases h0:0<=k
 ·have hk:k.toNat=j:=by
   rw[seqIndex_of h0 h4]at h1
   exact QX h1
  exact W.ki_setAt ho h0 (by omega) (by rw[QI,<- hl];exact h4) (by rw[hk];exact⟨_,I',q⟩)
 ·have hk:(k+(its.toArray.size:Int)).toNat=j:=by
   rw[seqIndex_neg (by omega) h3]at h1
   rw[QI,<- hl]
   exact QX h1
  exact W.ki_setBack ho (by omega) (by rw[QI,<- hl];exact h3) (by omega) (by rw[hk];exact⟨_,I',q⟩)
theorem lG:eg X (.builtin "len") (fun xs H Q => ∃p ys,xs=[.ref p]/\(bT X.K H p ys\/ba X.K H p ys)/\Q (.int ys.length) H):=by
 intro pins s σ H xs us Q I r h
 obtain⟨p,ys,rfl,hq,q⟩:=h
 obtain⟨u,rfl,rx⟩:=gP r
 cases rx
 have hn:=pj
 rcases hq with hq|hq
 ·obtain⟨its,r',pl,hz⟩:=I.list hq
  have hlen:=r'.length
  exact Calls.call_len_list pl.isList (by simp only[QI]<;>omega) ⟨.int ys.length,H,I.tok _,⟨s.toks+1,by rw[QI,hlen]⟩,q⟩
 ·obtain⟨its,r',pl,hz⟩:=I.tuple hq
  have hlen:=r'.length
  exact len_tuple pl (by simp only[QI]<;>omega) ⟨.int ys.length,H,I.tok _,⟨s.toks+1,by rw[QI,hlen]⟩,q⟩
theorem kD:eg X (.type "tuple") (fun xs H Q => ∃p ys,xs=[.ref p]/\((bT X.K H p ys/\∀l,H l=none->Q (.ref l) (az H l (.tup ys)))\/(ba X.K H p ys/\Q (.ref p) H))):=by
 intro pins s σ H xs us Q I r h
 obtain⟨p,ys,rfl,h⟩:=h
 obtain⟨u,rfl,rx⟩:=gP r
 cases rx
 rcases h with⟨hq,q⟩|⟨hq,q⟩
 ·obtain⟨its,r',pl,hz⟩:=I.list hq
  have hlen:=r'.length
  refine call_tuple_list pl.isList (fun h' kp=>?_) (by simp only[QI]<;>omega)
  have I1:ak X pins σ H { s with heap:=h' }:=I.kept (t':=s.toks) kp
  have I2:ak X pins σ (az H h'.objs.size (.tup ys)) { s with heap:=h'.push { cls:=.type "tuple", data:=.seq its.toArray } } :=
   I1.laid (t':=s.toks) (fun b o e=>Qk _ e) (Ql _) (show aT X.prog X.w _ _ _ (.tup ys)from⟨hz,its,r',me.new _ _⟩)
  exact⟨.ref h'.objs.size,_,I2,rfl,q _ (I1.hok.fresh (Ql _))⟩
 ·obtain⟨its,r',pl,hz⟩:=I.tuple hq
  exact call_tuple_same pl ⟨.ref p,H,I,rfl,q⟩
noncomputable def Gj(K:W.Frag)(T:String)(x:V)(H:Hp):Prop:=match x with
  | .str _=>T = "str"
  | .int _=>T = "int"
  | .ref p=>(T = "list" /\ ∃xs,bT K H p xs)\/(T = "tuple" /\ ∃xs,ba K H p xs) \/
      (T = "dict" /\ ((∃kvs,H p=some (.dK kvs))\/∃kvs,H p=some (.dT kvs)))\/(T = "set" /\ ∃S n,H p=some (.set S n))
  | _=>False
theorem yg{T:String}{x:V}{v:Value}(I:ak X pins σ H s)(r:aP x v)(ty:Gj X.K T x H) :
  s.TypeIs v T/\∀a,v=.ref a->∃ob,s.heap.get? a=some ob/\ob.dict=none:=by
 cases x with
 | str z =>
  obtain⟨t,rfl⟩:=r
  cases (show T = "str" from ty)
  exact⟨typeIs_str s z t,fun _ e=>nomatch e⟩
 | int i =>
  obtain⟨t,rfl⟩:=r
  cases (show T = "int" from ty)
  exact⟨typeIs_int s i t,fun _ e=>nomatch e⟩
 | ref p =>
  cases r
  rcases ty with⟨rfl,xs,hq⟩|⟨rfl,xs,hk⟩|⟨rfl,hk⟩|⟨rfl,S,n,hk⟩
  ·obtain⟨its,_,pl,_⟩:=I.list hq
   refine⟨pl.isList.typeIs,fun a e=>?_⟩
   cases e
   obtain⟨o,n,e,c,hd,_⟩:=pl
   exact⟨o,e,hd⟩
  ·obtain⟨o,e0,hc,hd⟩:=I.tupN hk
   refine⟨⟨o,e0,hc⟩,fun a e=>?_⟩
   cases e
   exact⟨o,e0,hd⟩
  ·have z:∃o,s.heap.get? p=some o/\o.ExactDict:=by
    rcases hk with⟨kvs,hk⟩|⟨kvs,hk⟩
    ·obtain⟨_,_,_,_,o,_,_,e,ex,_⟩:=I.hok p _ hk
     exact⟨o,e,ex⟩
    ·obtain⟨_,_,_,_,o,_,_,e,ex,_⟩:=I.hok p _ hk
     exact⟨o,e,ex⟩
   obtain⟨o,e,ex⟩:=z
   refine⟨⟨o,e,ex.1⟩,fun a e2=>?_⟩
   cases e2
   exact⟨o,e,ex.2.1⟩
  ·obtain⟨o,_,_,_,e,ex,_⟩:=I.hok p _ hk
   refine⟨⟨o,e,ex.1⟩,fun a e2=>?_⟩
   cases e2
   exact⟨o,e,ex.2.1⟩
 | _=>exact False.elim ty
noncomputable def Ms(K:W.Frag)(T:String)(r:V->List V->Hp->VK->Prop)(to:TE):TE:=fun σ H Q=>to σ H fun x H1=>Gj K T x H1/\r x [] H1 Q
noncomputable def P6(K:W.Frag)(T:String)(r:V->List V->Hp->VK->Prop)(to:TE)(t:TA):TE:=fun σ H Q=>to σ H fun x H1=>Gj K T x H1/\t σ H1 fun xs H2=>r x xs H2 Q
variable{o e:Expr}{es:List Expr}{to:TE}{t:TA}{name:Str}{apos cpos:Pos}{T id:String}{r:V->List V->Hp->VK->Prop}
theorem Hx(pa:PlainAttrs T)(slot:Slot T name id)(hty:typeOf (.builtin id)=pure (.type "method_descriptor"))(hm:wn X id r)(ho:PE X o to)
  (hbase:attributeBase o name X.env (eval o X.env)=eval o X.env:=by rfl) (hline:(apos.endLine==cpos.line)=true:=by rfl):PE X (.Call (.Attribute o name apos) [] [] cpos) (Ms X.K T r to):=by
 intro pins s σ H Q I h
 refine wpAny_Call_method0_late hbase hline (aN (ho pins s σ H _ I h) fun v s1 ⟨x,H1,I1,r1,ty,q1⟩=>?_)
 obtain⟨h1,h2⟩:=yg I1 r1 ty
 exact⟨T,id,pa,slot,hty,h1,h2,Calls.callWith_builtin rfl (PySem.evalArgs_none (hm pins s1 σ H1 x [] v [] Q I1 r1 .nil q1))⟩
theorem rq(pa:PlainAttrs T)(slot:Slot T name id)(hty:typeOf (.builtin id)=pure (.type "method_descriptor"))(hm:wn X id r)(ho:PE X o to)(ha:PA X (e::es) t)
  (hbase:attributeBase o name X.env (eval o X.env)=eval o X.env:=by rfl)
  (hfew:((backTo cpos (starEach (e::es) X.env)).all (fun x => !x.1)&&(backToKw cpos (keywordEach [] X.env)).all (fun x=>x.1.isSome)
   && decide ((e::es).length+([]:List Keyword).length+(if ([]:List Keyword).isEmpty then 0 else 1)<30))=true:=by rfl)
  (hline:(apos.endLine==cpos.line)=true:=by rfl) (hs:starEach (e::es) X.env=(false,eval e X.env)::starEach es X.env:=by rfl) (hplain:(backTo cpos (starEach es X.env)).any (·.1)=false:=by rfl) :
  PE X (.Call (.Attribute o name apos) (e::es) [] cpos) (P6 X.K T r to t):=by
 intro pins s σ H Q I h
 refine wpAny_Call_method_late hbase hfew hline rfl (aN (ho pins s σ H _ I h) fun v s1 ⟨x,H1,I1,r1,ty,q1⟩=>?_)
 obtain⟨h1,h2⟩:=yg I1 r1 ty
 refine⟨T,id,pa,slot,hty,h1,h2,?_⟩
 have hA:=ha cpos pins s1 σ H1 _ I1 q1
 rw[hs]at hA⊢
 refine Calls.callWith_builtin (by show(false || (backTo cpos (starEach es X.env)).any (·.1))=false;rw[hplain]<;>rfl) (Calls.evalArgs_plain ?_)
 exact aN hA fun us s2 ⟨vs,H2,I2,r2,q2⟩=>hm pins s2 σ H2 x vs v us Q I2 r1 r2 q2
/- xs.append(e),list.index on a module's tuple .. are wn facts of 06m -/
end
noncomputable def Kw(X:Cx)(id:String)(r:V->List V->Hp->VK->Prop):Prop :=
 ∀(pins:List (Addr×Obj)) (s:Shared) (σ:St) (H:Hp) (x:V) (xs:List V) (v:Value) (us:List Value) (Q:VK),ak X pins σ H s->aP x v->aD xs us->r x xs H Q ->
  wpAny (model X.prog X.w) X.A (call (.builtin id) (v::us)) (EP X pins σ Q) X.xe s
theorem aD.one:∀{x:V} {us:List Value},aD [x] us->∃u,us=[u]/\aP x u
 | _,_,.cons r .nil=>⟨_,rfl,r⟩
theorem aD.two:∀{x y:V} {us:List Value},aD [x,y] us->∃u v,us=[u,v]/\aP x u/\aP y v
 | _,_,_,.cons r (.cons q .nil)=>⟨_,_,rfl,r,q⟩
theorem aD.zero:∀{us:List Value},aD [] us->us=[]
 | _,.nil=>rfl
theorem aD.reverse(h:aD xs us):aD xs.reverse us.reverse:=by
 induction h with
 | nil=>exact .nil
 | cons r t ih=>rw[List.reverse_cons,List.reverse_cons];exact aD.append ih (.cons r .nil)
section
variable{X:Cx}{l b:Addr}{ys zs:List V}
theorem ak.lset{f:Array Value->Array Value}{t':Nat}(I:ak X pins σ H s)(hH:H l=some (.lst xs))
  (e:s.heap.get? l=some { cls:=.type "list", data:=.seq its.toArray n }) (hf:f its.toArray=its'.toArray) (hv:aD ys its') (hz:ys.length<=sizeLine) :
  ak X pins σ (az H l (.lst ys)) { s with heap:=s.heap.update l (Obj.mapSeq f),toks:=t' }:=by
 have q:=PySem.IsL.update e f
 rw[hf]at q
 refine I.write (x:=l) (e:=l) (by rw[hH];exact trivial) (.inl rfl) (fun b' u hb hu=>(QK s.heap (Obj.mapSeq f) (Rv hb)).trans hu) ⟨_,q⟩ ?_
 exact⟨hz,its',_,hv,q⟩
theorem ak.lnew{t':Nat}(I:ak X pins σ H s)(hv:aD ys its)(hz:ys.length<=sizeLine) :
  ak X pins σ (az H s.heap.objs.size (.lst ys)) { s with heap:=s.heap.push { cls:=.type "list", data:=.seq its.toArray },toks:=t' } :=
 I.laid (fun _ _ q=>Qk _ q) (Ql _) ⟨hz,its,0,hv,QG _ rfl⟩
theorem ak.fresh(I:ak X pins σ H s):H s.heap.objs.size=none:=I.hok.fresh (Ql _)
theorem ak.lstM(I:ak X pins σ H s)(hH:H l=some (.lst xs)):xs.length<=sizeLine/\∃(its:List Value) (n:Nat),aD xs its/\xs.length=its.length/\s.heap.get? l=some { cls:=.type "list", data:=.seq its.toArray n }:=by
 obtain⟨z,its,n,r,e⟩:=I.hok l _ hH
 exact⟨z,its,n,r,r.length,e⟩
theorem BC(h:n<=sizeLine):Builtin.List.listTooLong n=false:=by
 unfold Builtin.List.listTooLong
 exact QD (by omega)
end
section
variable{X:Cx}
noncomputable def Er:V->List V->Hp->VK->Prop:=fun x vs H Q => ∃l xs y,x=.ref l/\vs=[y]/\H l=some (.lst xs)/\xs.length<sizeLine/\Q .non (az H l (.lst (xs++[y])))
theorem iP:Kw X "list.append" Er:=by
 intro pins s σ H x vs v us Q I rx rv h
 obtain⟨l,xs,y,rfl,rfl,hH,hz,q⟩:=h
 cases rx
 obtain⟨u,rfl,ru⟩:=rv.one
 obtain⟨z,its,n,r,hl,e⟩:=I.lstM hH
 refine call_meets F.slot_list_append ⟨_,e,rfl⟩ F.entry_list_append (F.args_list_append_2 _ _) (PySem.list_append l its.toArray n u (by rw[QI];omega)) ⟨e,?_⟩
 refine⟨.non,_,I.lset (its':=its++[u]) hH e (by simp) (r.append (.cons ru .nil)) ?_,rfl,q⟩
 rw[Qr,List.length_singleton]
 omega
noncomputable def Eo:V->List V->Hp->VK->Prop:=fun x vs H Q => ∃l b xs zs,x=.ref l/\vs=[.ref b]/\H l=some (.lst xs)/\H b=some (.lst zs)/\xs.length+zs.length<=sizeLine/\Q .non (az H l (.lst (xs++zs)))
theorem za:Kw X "list.extend" Eo:=by
 intro pins s σ H x vs v us Q I rx rv h
 obtain⟨l,b,xs,zs,rfl,rfl,hH,hB,hz,q⟩:=h
 cases rx
 obtain⟨u,rfl,ru⟩:=rv.one
 cases ru
 obtain⟨z,its,n,r,hl,e⟩:=I.lstM hH
 obtain⟨z2,its2,n2,r2,hl2,e2⟩:=I.lstM hB
 have hsz:its.toArray.size+its2.toArray.size<=sizeLine:=by rw[QI,QI];omega
 have hlong:¬ (!its.toArray.isEmpty&&Builtin.List.listTooLong (its.toArray.size+its2.toArray.size))=true:=by
  rw[BC hsz,Bool.and_false]
  exact QL
 refine call_meets F.slot_list_extend ⟨_,e,rfl⟩ F.entry_list_extend (F.args_list_extend_2 _ _)
  (AutoSeq1.list_extend_list_list_0 l its.toArray n b its2.toArray n2 hlong (by rw[QI];omega) (by omega)) ⟨e,e2,?_⟩
 refine⟨.non,_,I.lset (its':=its++its2) hH e (by simp) (r.append r2) ?_,rfl,q⟩
 rw[Qr]
 omega
end
section
variable{prog:Program}{w:World}{A:Around}{E:Value->Shared->Prop}
set_option maxRecDepth 100000 in
end
section
variable{X:Cx}
end
end L2
namespace Att
open PySem PySem.W PySem.Calls PyProof.Rows
variable{P:Params}{h:Heap}{l:OpenLaw}{n:Nat}
theorem pk:∀(ns:List Int) (vs:List Value),WellAll P h vs (ns.map WData.int)->IntsAre vs ns:=by
 intro ns
 induction ns with
 | nil =>
  intro vs w
  rw[SF]at w
  cases w
  exact .nil
 | cons n ns ih =>
  intro vs w
  rw[QJ]at w
  cases w with
  | cons a b =>
   cases a
   exact .cons _ _ (ih _ b)
theorem yH(hn:l.most=some n){args:List WData}{vals:List Value}
  (hpre:l.row.toRowW.claim.pre args=true) (hwl:WellAll P h vals args) :
  ∃a vs ns,vals=[Value.ref a]/\args=[WData.list (ns.map WData.int)]/\h.get? a=some { cls:=.type "list", data:=.seq vs.toArray }/\IntsAre vs ns/\ns.length<=n:=by
 have hsh:WShape.hasAll [] args [.list .int]=true:=(pre_splitW hpre).1
 have hc:l.pre.holds [] { args:=args }=true:=(pre_splitW hpre).2
 obtain⟨d,r,rfl,h1,h2⟩:=hasAllW_cons hsh
 obtain rfl:=hasAllW_nil h2
 obtain⟨xs,rfl,h3⟩:=hasW_list h1
 obtain⟨ns,rfl⟩:=items_int h3
 have hlen:ns.length<=n:=by
  unfold OpenLaw.pre at hc
  have h4:(WTm.not (.lt (.lit (.int (n:Int))) (.len (.arg 0)))).holds [] { args:=[.list (ns.map .int)] }=true:=by
   have h4:=(holds_andW hc).1
   rw[hn]at h4
   exact h4
  have h5:=condW_of h4 (w_not (w_lt w_lit (w_len_list (w_arg rfl))))
  rw[Qp]at h5
  refine Nat.le_of_not_lt fun q=>?_
  have q':(n:Int)<((ns.length:Nat):Int):=by omega
  first
   | (rw[QM q']at h5;exact absurd h5 (by decide))
   | (simp at h5;omega)
 cases hwl with
 | cons w1 w2 =>
  cases w2
  cases w1 with
  | list ho hall=>exact⟨_,_,ns,rfl,rfl,ho,pk ns _ hall,hlen⟩
theorem yT(l:OpenLaw)(args:List WData):l.row.toRowW.claim.post args (.bool true) args=true :=
 postW_of (r:=l.row.toRowW) (X:=(true==true))
  (show WShape.has [] (.bool true) .bool=true by first|rfl|decide|simp[WShape.has,WShape.arms,WShape.armsAll])
  (show(WTm.eq .res (.lit (.bool true))).value [] { args:=args,res:=some (.bool true),after:=args }=some (.bool (true==true))from w_eq_bool (w_res rfl) w_lit) rfl
theorem attach_call{q:Program}{loose:List Str}{XP:(Str->Option Value)->Heap->Prop}{YP:World->Heap->Prop}{d:DefRec}
  (hn:l.most=some n) (hdf:d.params.defaults=[])
  (call:∀(w:World) (s₀ s₁:Shared) (mg mb:Str->Option Value) (fa:Addr) (o:Obj) (pm cd doc:Value) (a:Addr) (vs:List Value) (ns:List Int),
   Ground q loose [] XP w s₀ mg mb s₁.heap->YP w s₁.heap ->
   s₁.heap.get? fa=some o->o.data=.func (docDef d.name d.params d.body d.scope pm cd doc)->s₁.heap.CodeRec cd d.name->mg d.name=some (.ref fa) ->
   s₁.heap.get? a=some { cls:=.type "list", data:=.seq vs.toArray }->IntsAre vs ns->ns.length<=n->s₁.gens = #[] ->
   codeAny (model l.prog w) callerA (.call (.ref fa) ⟨[.ref a],[]⟩) (fun r s'=>r=.ok (.ret (.bool true))/\OldK s₁.heap s'.heap/\s'.os=s₁.os/\AllBare s'.gens) s₁) :
  WalkO q loose XP YP l.row.toRowW d [] (fun f vs=>PySem.call f vs):=by
 intro w s₀ s₁ mg mb G Y fa o pm cd doc dV kV ho hd hcd hD hmg hg args vals as hpre hlay hrd hwl hlo
 obtain rfl:dV=.none:=Dflts.none hD hdf
 obtain rfl:kV=.none:=Dflts.noKw hD
 obtain⟨a,vs,ns,rfl,rfl,hobj,hints,hlen⟩:=yH hn hpre hwl
 refine enter_call (SE (call w s₀ s₁ mg mb fa o pm cd doc a vs ns G Y ho (fd_plain hd) hcd hmg hobj hints hlen hg) fun r s' hq=>?_)
 obtain⟨rfl,h2,h3,h4⟩:=hq
 exact⟨.inl ⟨.bool true,.bool true,[],rfl,fun _=>rfl,.bool true,yT l _,fun _=>⟨List.Pairwise.nil,fun _ hm=>(nomatch hm)⟩⟩,h2,h3,h4⟩
section
variable{prog:Program}{w:World}{A:Around}{E:Value->Shared->Prop}{s:Shared}{K:Frag}
end
end Att
namespace L2
open PySem PySem.Spec PyProof.Rows
variable{k:Nat}{x:Str}
theorem qG:∀{vs:List Value} {ns:List Int},IntsAre vs ns->aD (ns.map V.int) vs
 | _,_,.nil=>.nil
 | _,_,.cons n t h=>.cons ⟨t,rfl⟩ (qG h)
noncomputable def xW(H:Hp):Prop:=∀b,H b=none\/∃o xs,H b=some (.frz o (.lst xs))
theorem BP{P:Program}{w:World}{K:W.Frag}{mg mb:Str->Option Value}{CX:jL}{fa a:Addr}{fd:FuncData}{sp:Sp}{s₁:Shared}{vs:List Value}{ns:List Int}
    (KX:K.In s₁.heap) (hns:s₁.heap.Ns mainGlobals mg) (hb:s₁.heap.Ns builtinsNs mb) (hbb:∀x:Str,x ≠ "__name__" -> mb x=bootBuiltins x) (hlim:s₁.heap.NoLimit) (hg:s₁.gens = #[])
    (ha:s₁.heap.get? a=some { cls:=.type "list", data:=.seq vs.toArray }) (hi:IntsAre vs ns) (hl:ns.length<=sizeLine) (hr:bz k callerA)
    (F:∀base:Heap,K.In base->base.Ns mainGlobals mg->bG P w K mg base CX k fa fd [x] sp) (hbind:∀(s:Shared) (u:Value),BindsTo s fd ⟨[u],[]⟩ [(x,u)])
    (hsp:∀H:Hp,xW H->bT K H a (ns.map V.int)->sp [.ref a] H (fun v _=>v=.bl true) fun _ _ _=>False)
    (hCX:∀H e s',CX [] H s₁ (fun _ _ _=>False) e s'->False) :
    codeAny (model P w) callerA (.call (.ref fa) ⟨[.ref a],[]⟩) (fun r s'=>r=.ok (.ret (.bool true))/\OldK s₁.heap s'.heap/\s'.os=s₁.os/\AllBare s'.gens) s₁:=by
  have rv:=qG hi
  have lenV:=hi.length
  have core:∀H:Hp,xW H->bT K H a (ns.map V.int)->cx P w H s₁.heap->(∀b,H b≠none->b=a)->(H a≠none->K.lookup a=none) ->
      codeAny (model P w) callerA (.call (.ref fa) ⟨[.ref a],[]⟩) (fun r s'=>r=.ok (.ret (.bool true))/\OldK s₁.heap s'.heap/\s'.os=s₁.os/\AllBare s'.gens) s₁:=by
    intro H hO hS hok hA hK
    have qz:∀{b:Addr} {o:Obj},s₁.heap.get? b=some o->H b=none->(jV s₁.heap H).get? b=some o:=fun e n=>BS e n
    have noA:∀{b:Addr} {o:Obj} {es:Array DictEntry} {ep:Nat},s₁.heap.get? b=some o->o.data=.dict es ep->H b=none:=fun {b o es ep} e d=>by
      cases q:H b with
      | none=>rfl
      | some u =>
        have e':b=a:=hA b (by rw[q];simp)
        subst e'
        rw[ha]at e;cases e
        have d':Data.seq vs.toArray _=Data.dict es ep:=d
        cases d'
    have nsK:∀{b:Addr} {m:Str->Option Value},s₁.heap.Ns b m->(jV s₁.heap H).Ns b m:=fun {b m} ⟨o,es,ep,e,d,r⟩=>⟨o,es,ep,qz e (noA e d),d,r⟩
    have hKb:K.In (jV s₁.heap H):=fun b o e=>qz (KX b o e) (by
      cases q:H b with
      | none=>rfl
      | some u =>
        have e':b=a:=hA b (by rw[q];simp)
        subst e'
        rw[hK (by rw[q];simp)]at e;cases e)
    have hM:Mod K mg (jV s₁.heap H):=⟨hKb,nsK hns,⟨mb,nsK hb,hbb⟩,let ⟨mc,h1,h2⟩:=hlim;⟨mc,nsK h1,h2⟩⟩
    have e0:jc P w K mg (jV s₁.heap H) callerA [] s₁ H:=⟨rfl,hM,fun b o e=>E6 e,Nat.le_of_eq (zI _ _),trivial,fun b hb=>absurd (show b∈([]:List Addr)from hb) (by simp),hok,.of_eq hg⟩
    refine SE ((F _ hKb (nsK hns)).run callerA [] s₁ H ⟨[.ref a],[]⟩ [.ref a] [.ref a] _ _ hr e0 (hbind s₁ (.ref a)) (.cons rfl .nil) (hsp H hO hS)) fun r s' h=>?_
    cases r with
    | error e=>exact(hCX H e s' h).elim
    | ok fl =>
      cases fl with
      | next=>exact False.elim h
      | brk=>exact False.elim h
      | cont=>exact False.elim h
      | ret u =>
        obtain⟨v,H',os,bare,un,hok',r',q⟩:=h
        have q':v=.bl true:=q
        subst q'
        obtain rfl:u=Value.bool true:=r'
        refine⟨rfl,OldK.of_keep fun b o e=>?_,os,bare⟩
        cases q:H b with
        | none=>exact un.keep b o e q (by intro z;exact absurd (show b∈([]:List Addr)from z) (by simp)) (by simp)
        | some u =>
          rcases hO b with z|⟨ob,xs,z⟩
          . rw[q]at z;cases z
          . have z2:=un.frzs b ob _ z
            obtain⟨e1,_⟩:=hok b _ z
            obtain⟨e2,_⟩:=hok' b _ z2
            rw[e]at e1;cases e1
            exact e2
  cases hk:K.lookup a with
  | some o =>
    have e:=KX a o hk
    rw[ha]at e
    cases e
    refine core (fun _=>none) (fun _=>.inl rfl) (.inr ⟨_,vs.toArray,_,hk,rfl,rfl,rfl,by rw[QI,lenV];exact hl,by simpa using rv⟩) (fun b u z=>by have z':(none:Option HO)=some u:=z;cases z') (fun b z=>absurd rfl z) fun z=>absurd rfl z
  | none =>
    refine core (fun b=>if b=a then some (.frz { cls:=.type "list", data:=.seq vs.toArray } (.lst (ns.map V.int)))else none) (fun b=>?_) (.inl (.inr ⟨{ cls:=.type "list", data:=.seq vs.toArray },if_pos rfl⟩)) (fun b u z=>?_) (fun b z=>?_) fun _=>hk
    . by_cases hb:b=a
      . exact .inr ⟨_,_,if_pos hb⟩
      . exact .inl (if_neg hb)
    . by_cases hb:b=a
      . have z':=(if_pos hb).symm.trans z
        cases z'
        subst hb
        exact⟨ha,by rw[Qp];exact hl,vs,_,rv,ha⟩
      . have z':=(if_neg hb).symm.trans z
        cases z'
    . by_cases hb:b=a
      . exact hb
      . exact absurd (if_neg hb) z
noncomputable abbrev KOf{K:W.Frag}{h:Heap}(_:K.In h):W.Frag:=K
theorem walk_of{l:W.OpenLaw}{n:Nat}{q:Program}{loose:List Str}{XP:(Str->Option Value)->Heap->Prop}{YP:World->Heap->Prop}{d:DefRec}{K:Params->W.Frag}{CX:World->jL}{sp:World->Sp}
  (hn:l.most=some n) (hn2:n<=sizeLine) (hdf:d.params.defaults=[]) (hr:bz k callerA)
  (hY:∀(w:World) (h:Heap),YP w h->(K w.params).In h)
  (F:∀(w:World) (mg:Str->Option Value) (fa:Addr) (h:Heap),(K w.params).In h->h.Ns mainGlobals mg->mg d.name=some (.ref fa) ->
   ∃fd:FuncData,(∀(s:Shared) (u:Value),BindsTo s fd ⟨[u],[]⟩ [(x,u)]) /\
    ∀base:Heap,(K w.params).In base->base.Ns mainGlobals mg->bG l.prog w (K w.params) mg base (CX w) k fa fd [x] (sp w))
  (hsp:∀(w:World) (H:Hp) (a:Addr) (ns:List Int),ns.length<=n->xW H->bT (K w.params) H a (ns.map V.int)->sp w [.ref a] H (fun v _=>v=.bl true) fun _ _ _=>False)
  (hCX:∀(w:World) (H:Hp) (s:Shared) (e:Value) (s':Shared),CX w [] H s (fun _ _ _=>False) e s'->False) :
  W.WalkO q loose XP YP l.row.toRowW d [] (fun f vs=>PySem.call f vs):=by
 refine Att.attach_call hn hdf fun w s₀ s₁ mg mb fa o pm cd doc a vs ns G Y ho hd hcd hmg hobj hints hlen hg=>?_
 have KX:=hY w _ Y
 obtain⟨fd,hb,hF⟩:=F w mg fa _ KX G.T.g hmg
 exact BP KX G.T.g G.T.b G.T.builtins G.T.nolimit hg hobj hints (QA hlen hn2) hr hF hb (fun H hO hS=>hsp w H a ns hlen hO hS) fun H e s'=>hCX w H s₁ e s'
end L2
/- THE LAST THEOREM (shape;LID,My.* are yours):
   My.Adr: a structure of the addresses that your layer names (classes,functions);My.Txt K t: a structure (Prop) of the equations over K;
   My.txt_mk:{K} {implicit addresses ..} (e1:nsIn K mainGlobals "law" = some (some (.ref f))) (e2:K.lookup f=some ⟨oc,od,.func (fnOf "law" "law" params body scope dV kV doc pm an cdv ct),sl⟩) (e3:codeIn K cdv "law" = true) ..:∃t,My.Txt K t
set_option maxRecDepth 100000 in
set_option maxHeartbeats 0 in
theorem PySem.Challenge.cw_LID_holds : PySem.Challenge.rw_LID.Holds := by
 w_on;o_law;k_head;(case hw=>w_witness2)
 k_fill
 refine L2.walk_of (l:=PySem.Challenge.rw_LID) (n:=63) (k:=40) (x := "script") (CX:=fun w=>..) (sp:=fun _=>My.sp_law) rfl (by decide) rfl ⟨rfl,by decide,by decide⟩ (fun w h Y=>PySem.W.kIn_of Y) ?F ?S ?C
 case F =>
  intro w mg fa h KX G hmg
  have T:∃t,My.Txt (L2.KOf KX) t:=by
   dsimp only[L2.KOf]                          -- K must stand as «<heap const> w.params» for k_is
   refine' My.txt_mk ?e1 ?e2 ?e3 ..
   (case e1=>PySem.W.k_is)                    -- in the order: a name->its address->its object->its parts
   (case e2=>PySem.W.k_is)
   ..
  obtain⟨t,T⟩:=T
  have e0:=hmg.symm.trans (PySem.W.mg_of KX G T.law)
  cases e0                                       -- fa is the law's own address
  exact⟨_,fun s u=>.of_eq rfl,fun base kb nb=>My.law_fn T kb nb⟩     -- if «.of_eq rfl» comes too early: refine' ⟨_,?b,fun base kb nb=>My.law_fn T kb nb⟩;exact fun s u=>.of_eq rfl
 case S=>exact fun w H a ns hl hO hS=>..
 case C=>exact ..
(the tactic k_is has no namespace: write k_is) -/
namespace L2
open PySem PySem.Spec PyProof.Rows
variable{qual x:Str}{st:Stmt}{f:Addr}{fd:FuncData}{ps:List Str}{H H':Hp}
noncomputable def bh(s:Stmt):Arguments:=match s with
 | .FunctionDef _ a _ _ _ _ _ _ _ _=>a
 | _ => { posonlyargs:=[],args:=[],vararg:=none,kwonlyargs:=[],kw_defaults:=[],kwarg:=none,defaults:=[] }
noncomputable def am(s:Stmt):List Stmt:=match s with
 | .FunctionDef _ _ b _ _ _ _ _ _ _=>b
 | _=>[]
noncomputable def ac(s:Stmt):Scope:=match s with
 | .FunctionDef _ _ _ _ _ _ sc _ _ _=>sc
 | _ => { kind:=.function,names:=[],isGenerator:=false,isCoroutine:=false }
noncomputable abbrev eh:jL:=fun _ _ _ _ _ _=>False
noncomputable abbrev E0:XK:=fun _ _ _=>False
theorem oZ{X:Cx}:iL eh X E0:=fun _ _ _ _ _ _ _ h=>h.elim
structure nQ(K:W.Frag)(x qual:Str)(st:Stmt)(f:Addr)(fd:FuncData):Prop where
 ex:∃(oc:Value) (od:Option Addr) (kV doc pm:Value) (an:Option Addr) (cdv ct:Value) (osl:Array (Option Value)),
  fd=W.fnOf x qual (bh st) (am st) (ac st) .none kV doc pm an cdv ct/\K.lookup f=some ⟨oc,od,.func fd,osl⟩/\W.codeIn K cdv qual=true
 kp:W.keepIn K (.ref f)=true
section
variable{P:Program}{w:World}{K:W.Frag}{mg:Str->Option Value}{base:Heap}
theorem nQ.ok{N:List Str}{k:Nat}{sp:Sp}(F:nQ K x qual st f fd)(S:aV N ps (ac st))(len:∀vs H Q E,sp vs H Q E->vs.length=ps.length)
  (hbody:∀(cdv:Value) (A:Around) (outer:List Env) (s:Shared) (H:Hp) (vs:List V) (Q:VK) (E:XK),bz k (A.deeper (envOfC qual (ac st) s.heap.objs.size f cdv))->sp vs H Q E ->
   ∃t,cZ (iE eh P w K mg base N qual (ac st) f cdv A outer s H E).nox (am st) t/\t { nx:=fun _ H'=>Q .non H',rt:=Q } (start N vs) H):bG P w K mg base eh (k+1) f fd ps sp:=by
 obtain⟨oc,od,kV,doc,pm,an,cdv,ct,osl,rfl,lk,hcd⟩:=F.ex
 refine Di lk hcd S len fun A outer s H vs Q E hr hsp=>?_
 obtain⟨t,h,q⟩:=hbody cdv A outer s H vs Q E hr hsp
 exact⟨t,h.nox,q⟩
theorem nQ.binds(F:nQ K x qual st f fd)
  (h:∀(kV doc pm:Value) (an:Option Addr) (cdv ct:Value) (us:List Value),us.length=ps.length->bindArgs (W.fnOf x qual (bh st) (am st) (ac st) .none kV doc pm an cdv ct) ⟨us,[]⟩=pure (ps.zip us)):bK K fd ps []:=by
 obtain⟨oc,od,kV,doc,pm,an,cdv,ct,osl,rfl,lk,hcd⟩:=F.ex
 exact .all (h kV doc pm an cdv ct)
theorem bY{oc:Value}{od an:Option Addr}{osl:Array (Option Value)}{kV doc pm cdv ct:Value}(l:K.lookup f=some ⟨oc,od,.func (W.fnOf x qual (bh st) (am st) (ac st) .none kV doc pm an cdv ct),osl⟩)
  (c:W.codeIn K cdv qual=true) (k:W.keepIn K (.ref f)=true):nQ K x qual st f (W.fnOf x qual (bh st) (am st) (ac st) .none kV doc pm an cdv ct):=⟨⟨oc,od,kV,doc,pm,an,cdv,ct,osl,rfl,l,c⟩,k⟩
end
section
variable{X:Cx}
end
noncomputable def ar(H H':Hp):Prop:=∀b o,H b=some o->H' b=some o
theorem ar.refl(H:Hp):ar H H:=fun _ _ h=>h
theorem ar.trans{H1 H2:Hp}(a:ar H H1)(b:ar H1 H2):ar H H2:=fun c o h=>b c o (a c o h)
theorem ar.free(e:ar H H'){l:Addr}(h:H' l=Option.none):H l=Option.none:=by
 cases q:H l with
 | none=>rfl
 | some o =>
  rw[e l o q]at h
  cases h
theorem ar.seq{K:W.Frag}{a:Addr}{xs:List V}(e:ar H H')(h:bT K H a xs):bT K H' a xs:=by
 rcases h with(h|⟨o,h⟩)|h
 ·exact .inl (.inl (e _ _ h))
 ·exact .inl (.inr ⟨o,e _ _ h⟩)
 ·exact .inr h
end L2
set_option maxHeartbeats 4000000
namespace L2
open PySem PySem.Spec PyProof.Rows
variable{hid:List Addr}{H:Hp}{base h h1 h2:Heap}{P prog:Program}{w:World}{M:Model}{A:Around}{E R:Value->Shared->Prop}{s s':Shared}{C L N S T fI x:Addr}{oI oe ox:Obj}{vs:Array Value}{Q:Unit->Shared->Prop}{env:Env}{outer:List Env}{dd od:Option Addr}{a0 e:Value}{K:W.Frag}{g:Array GenState}{d:Drawn}{os:OsState}{n q:Str}{bm bmB bs sub:List Value}{ab hdct:Bool}{sn:List Str}{col:Option Bool}{k0 k1 k2 k3 k5:Option Value}{B initId newId:String}{pos:Pos}{t:Nat}{mN:Str->Option Value}
theorem rP{fs:List Addr}{H':Hp}(u:Un fs [] H H' h h1)(hh:∀b o,h.get? b=some o->b∈hid->b∈fs)(k:∀b o,h1.get? b=some o->b∉hid->h2.get? b=some o)
  (kf:∀b∈fs,∀o,h1.get? b=some o->∃sl,h2.get? b=some { o with slots:=sl }):Un fs [] H H' h h2:=by
 refine⟨fun b o e n hb hx=>?_,fun b o e n hb hx=>?_,u.free,fun b o e hx=>?_,u.tups,u.frzs,u.tbls⟩
 ·exact k b o (u.keep b o e n hb hx) fun z=>hb (hh b o e z)
 ·obtain⟨sl,e1⟩:=u.slot b o e n hb hx
  obtain⟨sl',e2⟩:=kf b hb _ e1
  exact⟨sl',e2⟩
 ·obtain⟨o',e1⟩:=u.there b o e hx
  by_cases z:b∈hid
  ·obtain⟨sl,e2⟩:=kf b (hh b o e z) _ e1
   exact⟨_,e2⟩
  ·exact⟨o',k b o' e1 z⟩
theorem qo(hk:cx P w H h1)(hn:∀b∈hid,H b=none)(k:∀b o,h1.get? b=some o->b∉hid->h2.get? b=some o):cx P w H h2:=fun a o e=>by
 have ne:∀b u,H b=some u->b∉hid:=fun b u e z=>by rw[hn b z]at e;cases e
 refine(hk a o e).stay (fun c v hc q=>k c v q ?_) (fun _ q=>q) fun _ _ q=>q
 rcases hc with z|z
 ·rw[z];exact ne a o e
 ·exact ne c _ z
theorem vZ{h base:Heap}:∀{l:List Env},h.FunFrames base l->∀b∈bZ l,∃o,h.get? b=some o/\∀vs,o.data ≠ .fields vs
 | [],_,b,hb=>by cases hb
 | env::l,hf,b,hb=>by
  obtain⟨h1,⟨L,o,e1,e2,e3,e4⟩,h2⟩:=hf
  unfold bZ at hb;rw[RP,e1]at hb
  rcases Qo.mp hb with rfl|hb
  ·exact⟨o,e3,e4⟩
  ·exact vZ h2 b hb
noncomputable def Ks(x C T:Addr)(od:Option Addr)(h:Heap):Prop:=∃oe vs oT ts a0,h.get? x=some oe/\oe.cls=.ref C/\oe.dict=od/\oe.data=.fields vs/\vs[0]?=some a0/\vs[1]?=some (.ref T)/\T≠x/\h.get? T=some oT/\oT.data=.fields ts/\ts[3]?=some .none
noncomputable def fU(P:Program)(w:World):jL:=fun outer H s E e s' => ∃x C T od H',e=.ref x/\s.heap.get? x=none/\s.heap.get? T=none/\Ks x C T od s'.heap/\s'.os=s.os/\AllBare s'.gens /\
 Un (bZ outer) [] H H' s.heap s'.heap/\cx P w H' s'.heap/\H' x=none/\H' T=none/\E (.ref C) od H'
theorem y8{a:Addr}:∀{o:HO},aT P w H h a o->∃u,h.get? a=some u
 | .lst xs,x=>let ⟨_,_,_,_,e⟩:=x;⟨_,e⟩
 | .tup xs,x=>let ⟨_,_,_,⟨o,e,_⟩,_⟩:=x;⟨o,e⟩
 | .dK kvs,x=>let ⟨_,_,_,_,o,_,_,e,_⟩:=x;⟨_,e⟩
 | .dT kvs,x=>let ⟨_,_,_,_,o,_,_,e,_⟩:=x;⟨_,e⟩
 | .set S n,x=>let ⟨o,_,_,_,e,_⟩:=x;⟨_,e⟩
 | .ins C dx fs,x=>let ⟨_,_,_,e,_⟩:=x;⟨_,e⟩
 | .own y,x=>x
 | .xd fs,x=>let ⟨_,⟨_,_,_,e,_⟩,_⟩:=x;⟨_,e⟩
 | .rng lo hi,x=>let ⟨_,_,_,e⟩:=x;⟨_,e⟩
 | .frz ob u,x=>⟨_,x.1⟩
 | .tbl ps,x=>⟨_,(show h.get? a=some _ from x)⟩
 | .met f y,x=>⟨_,(show h.get? a=some _ from x)⟩
 | .ext φ,x=>x.2.1
theorem tJ{h h' base:Heap}:∀{l:List Env},h.FunFrames base l->(∀b∈bZ l,∀o,h.get? b=some o->∃sl,h'.get? b=some { o with slots:=sl })->h'.FunFrames base l
 | [],_,_=>True.intro
 | env::l,hf,hb=>by
  obtain⟨h1,⟨L,o,e1,e2,e3,e4⟩,h2⟩:=hf
  have hm:L∈bZ (env::l):=by unfold bZ;rw[RP,e1];exact Qj
  obtain⟨sl,e5⟩:=hb L hm o e3
  refine⟨h1,⟨L,_,e1,e2,e5,e4⟩,tJ h2 fun b z=>hb b ?_⟩
  unfold bZ;rw[RP,e1];exact Qi _ z
theorem tQ{oT:Obj}{ts:Array Value}(e1:s.heap.get? x=some oe)(e3:oe.data=.fields vs)(e5:vs[1]?=some (.ref T))(f1:s.heap.get? T=some oT)(f2:oT.data=.fields ts)(f3:3<ts.size)
  (h:Q () { s with heap:=s.heap.update T (Obj.mapFields fun v=>v.setIfInBounds 3 .none) }):wpAny M A (setFlight (.ref x) none) Q E s:=by
 unfold setFlight
 refine Qh (wpAny_field e1 e3 e5 ?_)
 rw[if_pos (by simp)]
 exact wpAny_setField f1 f2 f3 h
theorem HP(fs:A.frames=some (env::outer))(hf:s.heap.FunFrames base (env::outer))(hfr:env.frame=some L)
    (e1:s.heap.get? x=some oe) (e3:oe.data=.fields vs) (hsz:1<vs.size) (e5:vs[1]?=some .none\/∃T oT ts,vs[1]?=some (.ref T)/\T≠x/\s.heap.get? T=some oT/\oT.data=.fields ts/\ts[3]?=some .none)
    (h:∀h2 T',(∀b o,s.heap.get? b=some o->b≠x->vs[1]? ≠ some (.ref b)->b∉bZ (env::outer)->h2.get? b=some o)->(∀b∈bZ (env::outer),∀o,s.heap.get? b=some o->∃sl,h2.get? b=some { o with slots:=sl }) ->
      s.heap.get? T'=none->T'≠x->h2.get? x=some (Obj.mapFields (fun v=>v.setIfInBounds 1 (.ref T')) oe)->(∃oT ts,h2.get? T'=some oT/\oT.data=.fields ts/\ts[3]?=some (rawInt L))->Q () { s with heap:=h2 }):wpAny M A (noteFrame (.ref x) env) Q E s:=by
  have xf:x∉bZ (env::outer):=fun hm=>by
    obtain⟨_,o,ho,hn⟩:=Heap.FunFrames.mem hf hm
    rw[e1]at ho;cases ho
    exact hn vs e3
  have core:∀(s1:Shared) (head:Value) (hn:Bool),s1.gens=s.gens->s1.drawn=s.drawn->s1.toks=s.toks->s1.os=s.os->s1.heap.objs.size=s.heap.objs.size->s1.heap.get? x=some oe->s1.heap.FunFrames base (env::outer)->(∀b o,s.heap.get? b=some o->b≠x->vs[1]? ≠ some (.ref b)->s1.heap.get? b=some o)->(∀b∈bZ (env::outer),∀o,s.heap.get? b=some o->s1.heap.get? b=some o) ->
      wpAny M A (do
        let a <- PySem.frameOf env
        let pl <- entryPlaceOf L hn
        let b <- EntryCells.newEntry head a Value.none (rawInt L) Value.none pl
        setField (.ref x) 1 b) Q E s1:=fun s1 head hn g1 g2 g3 g4 g5 k1 k2 k3 k4=>by
    refine Qh (wpAny_frameOf_fun fs k2 hfr fun h1 so=>Qh (wpAny_entryPlaceOf fun pl hpl=>?_))
    unfold EntryCells.newEntry newFields
    refine Qh (wpAny_newObj_type ?_ (hd:=?_))
    rotate_left
    . show Array.size _<=sizeLine+2
      rw[Sv]
      rcases hpl with rfl|⟨a,b,c,d,c9,b10,_,rfl⟩<;>simp
    have he1:h1.get? x=some oe:=(so.2.1 x xf).trans k1
    have he2:=Qk { cls:=.type "traceback", data:=.fields ([head,.ref L,.none,rawInt L,.none]++(if pl.isEmpty then List.replicate 6 .none else pl)).toArray } he1
    have szT:h1.objs.size=s.heap.objs.size:=so.1.trans g5
    have nT:h1.objs.size≠x:=SC (Qy he1)
    refine wpAny_setField he2 e3 hsz ?_
    have st:(⟨s.heap,s.gens,s.drawn,s.toks,s.os⟩:Shared)=s:=rfl
    have key:=h ((h1.push { cls:=.type "traceback", data:=.fields ([head,.ref L,.none,rawInt L,.none]++(if pl.isEmpty then List.replicate 6 .none else pl)).toArray }).update x (Obj.mapFields fun v=>v.setIfInBounds 1 (.ref h1.objs.size))) h1.objs.size ?_ ?_ ?_ nT ?_ ?_
    . rw[<- g1,<- g2,<- g3,<- g4]at key;exact key
    . intro b o eb b1 b2 b3
      rw[QK _ _ (Rv b1)]
      exact Qk _ ((so.2.1 b b3).trans (k3 b o eb b1 b2))
    . intro b hb o eb
      obtain⟨sl,z⟩:=so.2.2 b o (k4 b hb o eb)
      refine⟨sl,?_⟩
      rw[QK _ _ (show x≠b from fun z=>xf (by rw[z];exact hb))]
      exact Qk _ z
    . rw[szT]
      cases z:s.heap.get? s.heap.objs.size with
      | none=>rfl
      | some o=>exact absurd (Qy z) (Rh _)
    . exact Sf _ he2 (Obj.isFreed_of_fields (Obj.data_mapFields e3 _))
    . refine⟨{ cls:=.type "traceback", data:=.fields ([head,.ref L,.none,rawInt L,.none]++(if pl.isEmpty then List.replicate 6 .none else pl)).toArray },_,?_,rfl,by simp⟩
      rw[QK _ _ (Rv nT)]
      exact QG _ rfl
  unfold noteFrame
  rw[hfr]
  dsimp only
  rcases e5 with e5|⟨T,oT,ts,e5,f0,f1,f2,f3⟩
  . refine Qh (wpAny_field e1 e3 e5 ?_)
    rw[if_neg (by simp)]
    exact core s _ _ rfl rfl rfl rfl rfl e1 hf (fun b o eb _ _=>eb) fun b _ o eb=>eb
  . refine Qh (wpAny_field e1 e3 e5 ?_)
    rw[if_pos (by simp)]
    refine Qh (wpAny_field f1 f2 f3 ?_)
    rw[if_neg (by simp[rawInt])]
    have f4:3<ts.size:=by
      rcases RK 3 ts.size with z|z
      . exact z
      . rw[RR z]at f3;cases f3
    have Tf:T∉bZ (env::outer):=fun hm=>by
      obtain⟨_,o,ho,hn⟩:=Heap.FunFrames.mem hf hm
      rw[f1]at ho;cases ho
      exact hn ts f2
    refine Qh (wpAny_setField f1 f2 f4 ?_)
    refine core _ _ _ rfl rfl rfl rfl (Heap.size_update ..) ((QK _ _ f0).trans e1) ?_ ?_ ?_
    . exact tJ hf fun b hb o eb=>⟨o.slots,(QK _ _ (show T≠b from fun z=>Tf (by rw[z];exact hb))).trans eb⟩
    . intro b o eb b1 b2
      exact(QK _ _ (fun z=>b2 (by rw[e5,z]))).trans eb
    . intro b hb o eb
      exact(QK _ _ (show T≠b from fun z=>Tf (by rw[z];exact hb))).trans eb
section
variable{X:Cx}{pins:List (Addr×Obj)}{σ:St}{H':Hp}
theorem ak.frame(I:ak X pins σ H s)(hs:X.stack=X.env::X.outer):X.env.frame=some X.env.locals:=by
 rcases I.ok.stk with z|z
 ·have:=Rq List.length (hs.symm.trans z)
  simp at this
 ·exact z.2
structure ja(X:Cx)(hid:List Addr)(h1 h2:Heap):Prop where
 keep:∀b o,h1.get? b=some o->b∉hid->h2.get? b=some o
 up:∀b∈bZ X.stack,∀o,h1.get? b=some o->∃sl,h2.get? b=some { o with slots:=sl }
theorem ja.trans{h3:Heap}(a:ja X hid h1 h2)(b:ja X hid h2 h3):ja X hid h1 h3 :=
 ⟨fun c o e n=>b.keep c o (a.keep c o e n) n,fun c hc o e=>by
  obtain⟨sl,e1⟩:=a.up c hc o e
  obtain⟨sl',e2⟩:=b.up c hc _ e1
  exact⟨sl',e2⟩⟩
theorem qQ{l:List Env}(h:env.frame=some L):bZ (env::l)=L::bZ l:=by unfold bZ;rw[RP,h]
theorem Aa{E:XK}(I:ak X pins σ H s)(hs:X.stack=X.env::X.outer)(hex:X.ex=[])(h1:∀b∈hid,b∈bZ X.stack\/X.s₀.heap.get? b=none)(h2n:∀b∈hid,H b=none)
  (ov:ja X hid s.heap h2) (t:Ks x C T od h2) (hT:s.heap.get? T=none\/T∈hid) (hx:X.s₀.heap.get? x=none) (hxn:H x=none) (q:E (.ref C) od H):fU X.prog X.w X.outer X.H₀ X.s₀ E (.ref x) { s with heap:=h2 }:=by
 have hfr:=I.frame hs
 have nL:∀b o,X.s₀.heap.get? b=some o->b≠X.env.locals:=fun b o e=>QS (Qv (Qy e) I.ok.above)
 have ub:Un X.fs [] X.H₀ H X.s₀.heap s.heap:=by have:=I.base;rw[hex]at this;exact this
 have hf:=I.stack
 have dat:∀b∈bZ X.stack,b≠T:=fun b hb z=>by
  obtain⟨o,e,d⟩:=vZ hf b hb
  obtain⟨sl,e2⟩:=ov.up b hb o e
  obtain⟨oe,vs,oT,ts,a0,_,_,_,_,_,_,_,e7,e8,_⟩:=t
  rw[z,e7]at e2
  cases e2
  exact d ts e8
 have old:X.s₀.heap.get? T=none:=by
  cases z:X.s₀.heap.get? T with
  | none=>rfl
  | some o =>
   obtain⟨o',e⟩:=ub.there T o z (by simp)
   rcases hT with hT|hT
   ·rw[hT]at e;cases e
   ·rcases h1 T hT with h|h
    ·exact absurd rfl (dat T h)
    ·rw[h]at z;cases z
 refine⟨x,C,T,od,H,rfl,hx,old,t,I.os,I.bare,rP (hid:=hid) ub (fun b o e hb=>?_) ov.keep (fun b hb o e=>ov.up b (by rw[hs,qQ hfr];exact Qi _ hb) o e),qo I.hok h2n ov.keep,hxn,?_,q⟩
 ·rcases h1 b hb with h|h
  ·rw[hs,qQ hfr]at h
   rcases Qo.mp h with h|h
   ·exact absurd h (nL b o e)
   ·exact h
  ·rw[h]at e;cases e
 ·cases z:H T with
  | none=>rfl
  | some o =>
   obtain⟨u,e⟩:=y8 (I.hok T o z)
   rcases hT with hT|hT
   ·rw[hT]at e;cases e
   ·rw[h2n T hT]at z;cases z
theorem og(fs:A.frames=some (env::outer))(hf:s.heap.FunFrames base (env::outer))(hfr:env.frame=some L)
  (e1:s.heap.get? x=some oe) (e2:oe.cls=.ref C) (e6:oe.dict=od) (e3:oe.data=.fields vs) (hsz:1<vs.size) (e4:vs[0]?=some a0) (e5:vs[1]?=some .none\/∃T oT ts,vs[1]?=some (.ref T)/\T≠x/\s.heap.get? T=some oT/\oT.data=.fields ts/\ts[3]?=some .none)
  (h:∀h2 T',(∀b o,s.heap.get? b=some o->b≠x->vs[1]? ≠ some (.ref b)->b∉bZ (env::outer)->h2.get? b=some o)->(∀b∈bZ (env::outer),∀o,s.heap.get? b=some o->∃sl,h2.get? b=some { o with slots:=sl }) ->
   s.heap.get? T'=none->Ks x C T' od h2->Q () { s with heap:=h2 }):wpAny M A (noteFrame (.ref x) env) (fun _ s2=>wpAny M A (setFlight (.ref x) none) Q E s2) E s:=by
 refine HP fs hf hfr e1 e3 hsz e5 fun h2 T' k1 k2 nT nTx ex ⟨oT,ts,f1,f2,f3⟩=>?_
 have d1:(Obj.mapFields (fun v=>v.setIfInBounds 1 (.ref T')) oe).data=.fields (vs.setIfInBounds 1 (.ref T')):=Obj.data_mapFields e3 _
 have v1:(vs.setIfInBounds 1 (.ref T'))[1]?=some (.ref T'):=by simp[hsz]
 have f4:3<ts.size:=by
  rcases RK 3 ts.size with z|z
  ·exact z
  ·rw[RR z]at f3;cases f3
 refine tQ (s:={ s with heap:=h2 }) ex d1 v1 f1 f2 f4 ?_
 have nT2:∀b o,s.heap.get? b=some o->T'≠b:=fun b o eb z=>by rw[<- z,nT]at eb;cases eb
 have ce:(Obj.mapFields (fun v=>v.setIfInBounds 1 (.ref T')) oe).cls=.ref C/\(Obj.mapFields (fun v=>v.setIfInBounds 1 (.ref T')) oe).dict=od:=by
  obtain⟨c,d,da,sl⟩:=oe
  simp only at e3 e2 e6
  subst e3
  exact⟨e2,e6⟩
 refine h (h2.update T' _) T' (fun b o eb b1 b2 b3=>(QK _ _ (nT2 b o eb)).trans (k1 b o eb b1 b2 b3)) (fun b hb o eb=>?_) nT ⟨_,_,_,_,a0,(QK _ _ nTx).trans ex,ce.1,ce.2,d1,?_,v1,nTx,Sf _ f1 (Obj.isFreed_of_fields (Obj.data_mapFields f2 _)),Obj.data_mapFields f2 _,by simp[f4]⟩
 ·obtain⟨sl,z⟩:=k2 b hb o eb
  exact⟨sl,(QK _ _ (nT2 b o eb)).trans z⟩
 ·rw[Array.getElem?_setIfInBounds_ne (by decide)];exact e4
theorem lj{e:Addr}{E:XK}(I:ak X pins σ H s)(hs:X.stack=X.env::X.outer)(hex:X.ex=[])(e1:s.heap.get? e=some oe)(e2:oe.cls=.ref C)(e6:oe.dict=od)(e3:oe.data=.fields vs)(hsz:1<vs.size)(e4:vs[0]?=some a0)(e5:vs[1]?=some .none)
  (n0:X.s₀.heap.get? e=none) (nH:H e=none) (q:E (.ref C) od H) :
  wpAny (model X.prog X.w) X.A (leaving X.env (.ref e)) (fun _ s''=>fU X.prog X.w X.outer X.H₀ X.s₀ E (.ref e) s'') R s:=by
 have hfr:=I.frame hs
 have fs:X.A.frames=some (X.env::X.outer):=by rw[<- hs];exact I.ok.frames
 have hf:=I.stack
 rw[hs]at hf
 refine Qh (og (C:=C) (od:=od) fs hf hfr e1 e2 e6 e3 hsz e4 (.inl e5) fun h2 T' k1 k2 nT tr=>?_)
 have ov:ja X (e::bZ X.stack) s.heap h2:=⟨fun b o eb nb=>k1 b o eb (fun z=>nb (by rw[z];exact Qj)) (by rw[e5];intro z;cases z) (fun z=>nb (Qi _ (by rw[hs];exact z))),fun b hb o eb=>k2 b (by rw[<- hs];exact hb) o eb⟩
 refine Aa (s:=s) I hs hex (fun b hb=>?_) (fun b hb=>?_) ov tr (.inl nT) n0 nH q
 ·rcases Qo.mp hb with rfl|hb
  ·exact .inr n0
  ·exact .inl hb
 ·rcases Qo.mp hb with rfl|hb
  ·exact nH
  ·exact I.stkFree b hb
theorem uS{h':Heap}{e:Addr}{vs:List Value}{E:XK}(I:ak X pins σ H s)(hs:X.stack=X.env::X.outer)(hex:X.ex=[])(m:s.heap.MadeExcOf h' e (.ref C) vs)(q:E (.ref C) none H) :
  wpAny (model X.prog X.w) X.A (leaving X.env (.ref e)) (fun _ s''=>fU X.prog X.w X.outer X.H₀ X.s₀ E (.ref e) s'') R { s with heap:=h' }:=by
 have ub:Un X.fs [] X.H₀ H X.s₀.heap s.heap:=by have:=I.base;rw[hex]at this;exact this
 obtain⟨t,m1,m2,m3⟩:=m.there
 refine lj (s:={ s with heap:=h' }) (I.kept (t':=s.toks) m.keeps) hs hex m1 rfl rfl rfl (by simp) rfl rfl ?_ ?_ q
 ·cases z:X.s₀.heap.get? e with
  | none=>rfl
  | some o=>obtain⟨o',e'⟩:=ub.there e o z (by simp);rw[m.new]at e';cases e'
 ·cases z:H e with
  | none=>rfl
  | some o=>obtain⟨u,e'⟩:=y8 (I.hok e o z);rw[m.new]at e';cases e'
theorem xq{E:XK}(I:ak X pins σ H s)(hs:X.stack=X.env::X.outer)(hex:X.ex=[])(c:fU X.prog X.w X.stack H s E e s') :
  wpAny (model X.prog X.w) X.A (leaving X.env e) (fun _ s''=>fU X.prog X.w X.outer X.H₀ X.s₀ E e s'') R s':=by
 obtain⟨x,C,T,od,H',rfl,hx,hT,t,ho,hg,u,hk,nx,nT,q⟩:=c
 have J:ak X pins σ H' s':=I.call' (ch:=[]) ho u hk hg (fun b z=>absurd z (by simp))
 have hfr:=I.frame hs
 have ub:Un X.fs [] X.H₀ H X.s₀.heap s.heap:=by have:=I.base;rw[hex]at this;exact this
 have fs:X.A.frames=some (X.env::X.outer):=by rw[<- hs];exact I.ok.frames
 have hf:=J.stack
 rw[hs]at hf
 have old:∀b,s.heap.get? b=none->X.s₀.heap.get? b=none:=fun b hb=>by
  cases z:X.s₀.heap.get? b with
  | none=>rfl
  | some o=>obtain⟨o',e'⟩:=ub.there b o z (by simp);rw[hb]at e';cases e'
 obtain⟨oe,vs,oT,ts,a0,e1,e2,e6,e3,e4,e5,f0,f1,f2,f3⟩:=id t
 have hsz:1<vs.size:=by
  rcases RK 1 vs.size with z|z
  ·exact z
  ·rw[RR z]at e5;cases e5
 refine Qh (og (C:=C) (od:=od) fs hf hfr e1 e2 e6 e3 hsz e4 (.inr ⟨T,oT,ts,e5,f0,f1,f2,f3⟩) fun h2 T2 k1 k2 nT2 tr=>?_)
 have ov:ja X (x::T::bZ X.stack) s'.heap h2:=⟨fun b o eb nb=>k1 b o eb (fun z=>nb (by rw[z];exact Qj)) (by rw[e5];intro z;injection z with z;injection z with z;exact nb (by rw[<- z];exact Qi _ Qj)) (fun z=>nb (Qi _ (Qi _ (by rw[hs];exact z)))),fun b hb o eb=>k2 b (by rw[<- hs];exact hb) o eb⟩
 refine Aa J hs hex (fun b hb=>?_) (fun b hb=>?_) ov tr (.inl nT2) (old x hx) nx q
 ·rcases Qo.mp hb with rfl|hb
  ·exact .inr (old _ hx)
  ·rcases Qo.mp hb with rfl|hb
   ·exact .inr (old _ hT)
   ·exact .inl hb
 ·rcases Qo.mp hb with rfl|hb
  ·exact nx
  ·rcases Qo.mp hb with rfl|hb
   ·exact nT
   ·exact J.stkFree b hb
end
noncomputable abbrev iT:List Value:=[Value.type "ValueError", Value.type "Exception", Value.type "BaseException", Value.type "object"]
theorem nS{D:Addr}(e1:h.get? x=some ox)(e2:ox.cls=.ref D):∀M,W.Looks M h (typeOf (.ref x)) (.ref D):=by
 intro M A Q E s hk hq
 unfold typeOf
 refine Qh (wpAny_loadPart (hk _ _ e1) ?_)
 rw[e2]
 exact Qq hq
theorem xG{D:Addr}{R:Result->Shared->Prop}{tp:Value}{tk:Nat}(KI:K.In h)(ty:∀M,W.Looks M h (typeOf (.ref x)) (.ref D))(hm:W.mroIn K D (.type "object")=some true)
  (hR:R (.ok (.ret (.ref D))) ⟨h,g,d,tk,os⟩):codeAny (model prog w) A (.call (.builtin "getset_descriptor.__get__") ⟨[.builtin "object.__class__", .ref x,tp],[]⟩) R ⟨h,g,d,tk,os⟩:=by
 refine codeAny_call_builtin W.KF.slot_gs.plain W.KF.entry_gs ?_
 refine W.KF.slot_gs.check _ _ _ _ _ _ _ _ ?_ (W.KF.args_gs _ _ _) ?_
 ·exact W.KF.type_class
 show wpAny _ _ (Builtin.Getset_descriptor.descrGet ⟨[.builtin "object.__class__", .ref x,tp],[]⟩) _ _ _
 unfold Builtin.Getset_descriptor.descrGet
 rw[W.dga_obj]
 refine Qh (Qq ?_)
 dsimp only
 unfold Builtin.Getset_descriptor.descrGetter
 dsimp only
 refine Qh ?_
 unfold Builtin.Getset_descriptor.descrCheckInstance
 refine Qh ?_
 unfold Builtin.Getset_descriptor.descrNameAndClass
 dsimp only
 rw[W.KF.owner_class]
 refine Qq ?_
 dsimp only
 refine Qh ?_
 unfold isInstance
 refine Qh (Sr (ty _) (Sr (W.looks_mroIn KI hm) ?_))
 rw[if_neg (by simp)]
 refine Qq ?_
 refine Qq ?_
 refine⟨Code.quiet_builtin _ (by decide +kernel),codeAny_builtin W.KF.entry_class ?_⟩
 show wpAny _ _ (Builtin.«object.__class__» ⟨[.ref x],[]⟩) _ _ _
 unfold Builtin.«object.__class__»
 dsimp only
 refine Qh ?_
 unfold shownTypeOf
 refine Qh (Sr (ty _) ?_)
 rw[if_neg (by simp)]
 refine Qq ?_
 exact Qq hR
theorem zQ{D:Addr}{Q:Option Value->Shared->Prop}{nm:Str}
  (hga:W.findIn K (.ref D) "__getattribute__" = some (some (.builtin "BaseException.__getattribute__"))) (hgt:W.findIn K (.ref D) "__getattr__" = some none)
  (hf:W.findIn K (.ref D) "__class__" = some (some (.builtin "object.__class__"))) (hs:W.specialIn K (.builtin "object.__class__") "__get__" = some (some (.builtin "getset_descriptor.__get__"))) (ht:W.takesIn K (.builtin "object.__class__")=some true) (hm:W.mroIn K D (.type "object")=some true)
  (KI:K.In s.heap) (e1:s.heap.get? x=some ox) (e2:ox.cls=.ref D) (hD:s.heap.get? D=some (excClassObj nm q D N bs bm hdct sn sub ab col dd k0 k1 k2 k3 k5 newId)) (hT:OwnTailQ s.heap iT bm)
  (hq:Q (some (.ref D)) { s with toks:=s.toks+1 }):wpAny (model prog w) A (getAttr? (.ref x) "__class__") Q E s:=by
 obtain⟨h,g,d,tk,os⟩:=s
 have ty:=nS e1 e2
 have lf:∀M,W.Looks M h (Builtin.ObjectAttr.find (.ref x) (.ref D) "__class__") (.bind (.builtin "getset_descriptor.__get__") (.builtin "object.__class__")):=by
  intro M A Q E s hk hq
  unfold Builtin.ObjectAttr.find
  refine Qh (W.looks_findIn KI hf A _ E s hk ?_)
  refine Qh ?_
  unfold Builtin.ObjectAttr.getOf
  refine W.looks_specialIn KI hs A _ E s hk ?_
  refine Qh ?_
  unfold Builtin.ObjectAttr.dataDescriptor?
  refine Qh (W.looks_takesIn KI ht A _ E s hk ?_)
  rw[if_pos rfl]
  refine Qq ?_
  exact W.Looks.tag (W.Looks.now) A _ E s hk hq
 unfold getAttr?
 refine Qh (wpAny_mkText ?_)
 unfold getAttrBy?
 refine Qh (wpAny_attempt ?_)
 unfold getAttrBy
 refine Q7 (Qh (Sr (ty _) ?_))
 refine Qh (Sr (W.looks_findIn KI hga) ?_)
 dsimp only
 have e9:(onTheHeap (Value.ref D)&&Value.builtin "BaseException.__getattribute__" == Value.builtin "object.__getattribute__")=false:=by
  have e0:(Value.builtin "BaseException.__getattribute__" == Value.builtin "object.__getattribute__")=false:=by decide +kernel
  rw[e0,Bool.and_false]
 rw[e9]
 rw[if_neg (by simp)]
 unfold getAttrByItsOwn
 refine Qh (Sr (W.looks_hook KI (r:=none) (by show(if true=true then W.findIn K (.ref D) "__getattr__" else some none)=some none;rw[if_pos rfl];exact hgt)) ?_)
 refine Qh (wpAny_attempt (Q7 ?_))
 unfold callGetattribute
 rw[if_neg (by simp)]
 unfold boundAndCalled
 rw[(PySem.F.attrBase_ValueError.toExcAttrFacts.ga).bind]
 refine Qh (Qq ?_)
 refine Sq (codeAny_call_builtin (PySem.F.attrBase_ValueError.toExcAttrFacts.ga).plain PySem.F.entry_bexc_ga ?_)
 refine wpAny_check_ga_own PySem.F.attrBase_ValueError hD hT e1 e2 ?_
 show wpAny _ _ (Builtin.«object.__getattribute__» ⟨[Value.ref x,Value.str "__class__" tk],[]⟩) _ _ _
 unfold Builtin.«object.__getattribute__»
 refine Qh ?_
 unfold slotArgs
 dsimp only
 rw[if_neg (by simp),if_neg (by simp)]
 refine Qq ?_
 dsimp only
 refine Qh ?_
 unfold Builtin.ObjectAttr.attrName
 refine Qq ?_
 refine Qh (Sr (ty _) ?_)
 refine Qh (Sr (lf _) ?_)
 dsimp only
 unfold Builtin.ObjectAttr.bindTo
 dsimp only
 refine Qh (Q7 (Sq (xG KI ty hm ?_)))
 refine Qq ?_
 refine W.handed_on rfl ?_
 exact Qq hq
noncomputable def GH:Value->Bool
 | .str _ _=>true
 | _=>false
noncomputable def pZ(K:W.Frag)(N:Addr):Bool :=
 match K.lookup N with
 | some ⟨_,_,.dict es _,_⟩=>es.toList.all (fun e=>GH e.key)&&quietNames.all fun n=>(nsFind es n).isNone
 | _=>false
noncomputable def n5(K:W.Frag)(N:Addr):Bool :=
 match K.lookup N with
 | some ⟨_,_,.dict es _,_⟩=>es.toList.all (fun e=>GH e.key)
 | _=>false
noncomputable def sP(K:W.Frag)(N:Addr):Option Value :=
 match K.lookup N with
 | some ⟨_,_,.dict es _,_⟩=>nsFind es "__init__"
 | _=>none
noncomputable def eR(K:W.Frag)(C:Addr):Option Value :=
 match K.lookup C with
 | some ⟨_,_,.cls cd,_⟩=>sP K cd.ns
 | _=>none
noncomputable def HR(sl:Array (Option Value)):Bool :=
 match sl.toList with
 | [_,_,_,_,some (.builtin id),_]=>id == "ValueError.__new__"
 | _=>false
noncomputable def lB(K:W.Frag)(C S:Addr):Bool :=
 match K.lookup C,K.lookup S with
 | some ⟨.type t,_,.cls cd,sl⟩,some ⟨_,_,.cls ce,_⟩=>t == "type" && HR sl&&(cd.mro == .ref C :: .ref S::iT) && !cd.hasDel&&n5 K cd.ns&&pZ K ce.ns
 | _,_=>false
theorem Bl(q:pZ K N=true)(KI:K.In h):∃mN,h.Ns N mN/\∀n∈quietNames,mN n=none:=by
 unfold pZ at q
 split at q
 ·rename_i c d es ep sl e
  rw[Qx]at q
  refine⟨nsFind es,⟨_,es,ep,KI _ _ e,rfl,fun x hx=>?_,fun _=>rfl⟩,fun n hn=>?_⟩
  ·have:=QT.mp q.1 x (by simpa using hx)
   cases hk:x.key with
   | str n t=>exact⟨n,t,rfl⟩
   | _=>rw[hk]at this;cases this
  ·have:=QT.mp q.2 n hn
   simpa using this
 ·cases q
theorem yN(q:n5 K N=true)(KI:K.In h):∃mN,h.Ns N mN/\mN "__init__" = sP K N:=by
 unfold n5 at q
 unfold sP
 split at q
 ·rename_i c d es ep sl e
  refine⟨nsFind es,⟨_,es,ep,KI _ _ e,rfl,fun x hx=>?_,fun _=>rfl⟩,rfl⟩
  have:=QT.mp q x (by simpa using hx)
  cases hk:x.key with
  | str n t=>exact⟨n,t,rfl⟩
  | _=>rw[hk]at this;cases this
 ·cases q
theorem iw(q:lB K C S=true)(KI:K.In h) :
  ∃nm qn N bs hdct sn sub ab col dd k0 k1 k2 k3 k5 mN,h.get? C=some (excClassObj nm qn C N bs (.ref S::iT) hdct sn sub ab col dd k0 k1 k2 k3 k5 "ValueError.__new__")/\h.Ns N mN/\mN "__init__" = eR K C/\OwnTailQ h iT (.ref S::iT):=by
 unfold lB at q
 split at q
 ·rename_i t d1 cd sl c2 d2 ce sl2 e1 e2
  simp only[Qx]at q
  obtain⟨⟨⟨⟨⟨q1,q2⟩,q3⟩,q4⟩,q5⟩,q6⟩:=q
  have q1:t = "type" := by simpa using q1
  subst q1
  replace q3:cd.mro=.ref C :: .ref S::iT:=by simpa using q3
  replace q4:cd.hasDel=false:=by simpa using q4
  obtain⟨mN,n1,n2⟩:=yN q5 KI
  obtain⟨mS,m1,m2⟩:=Bl q6 KI
  unfold HR at q2
  split at q2
  ·rename_i k0 k1 k2 k3 id k5 es
   have q2:id = "ValueError.__new__" := by simpa using q2
   subst q2
   have es:sl = #[k0,k1,k2,k3,some (.builtin "ValueError.__new__"),k5]:=by
    have:=Rq List.toArray es
    simpa using this
   subst es
   have g1:=KI _ _ e1
   have g2:=KI _ _ e2
   obtain⟨f1,f2,f3,f4,f5,f6,f7,f8,f9,f10,f11⟩:=cd
   simp only at q3 q4 n1
   subst q3 q4
   exact⟨_,_,_,_,_,_,_,_,_,_,_,_,_,_,_,mN,g1,n1,by rw[n2];unfold eR;rw[e1],.own g2 m1 m2 .base⟩
  ·cases q2
 ·cases q
structure gH(K:W.Frag)(C S:Addr):Prop where
 ex:lB K C S=true
 ga:W.findIn K (.ref C) "__getattribute__" = some (some (.builtin "BaseException.__getattribute__"))
 gt:W.findIn K (.ref C) "__getattr__" = some none
 cl:W.findIn K (.ref C) "__class__" = some (some (.builtin "object.__class__"))
 sp:W.specialIn K (.builtin "object.__class__") "__get__" = some (some (.builtin "getset_descriptor.__get__"))
 tk:W.takesIn K (.builtin "object.__class__")=some true
 mo:W.mroIn K C (.type "object")=some true
theorem gH.is(e:gH K C S):∃cd,W.clsIn K C=some cd:=by
 have:=e.mo
 unfold W.mroIn at this
 cases h:W.clsIn K C with
 | none=>rw[h]at this;cases this
 | some cd=>exact⟨cd,rfl⟩
noncomputable def Kq(x C:Addr)(h:Heap):Prop:=∃o,h.get? x=some o/\o.cls=.ref C
theorem oh(e:gH K C S):W.KitX K (.ref x) (.ref C) (Kq x C):=by
 obtain⟨cd,hcd⟩:=e.is
 refine⟨fun M h KI ⟨o,e1,e2⟩=>?_,fun M h KI _=>?_,fun h tp dd its n sl KI ht=>?_,fun {prog w A E Q s} KI ⟨o,e1,e2⟩ hq=>?_⟩
 ·exact nS e1 e2 M
 ·obtain⟨nm,qn,N,bs,hdct,sn,sub,ab,col,dd,k0,k1,k2,k3,k5,mN,g1,g2,g3,g4⟩:=iw e.ex KI
  intro A Q E s hk hq
  unfold isType
  refine Qh (wpAny_loadPart (hk _ _ g1) ?_)
  exact Qq hq
 ·obtain⟨nm,qn,N,bs,hdct,sn,sub,ab,col,dd,k0,k1,k2,k3,k5,mN,g1,g2,g3,g4⟩:=iw e.ex KI
  rw[R9]
  intro z
  injection z with z
  rw[<- z,g1]at ht
  injection ht with ht
  injection ht with h1
  injection h1 with h1
  exact absurd h1 (by decide)
 ·obtain⟨nm,qn,N,bs,hdct,sn,sub,ab,col,dd,k0,k1,k2,k3,k5,mN,g1,g2,g3,g4⟩:=iw e.ex KI
  exact zQ e.ga e.gt e.cl e.sp e.tk e.mo KI e1 e2 g1 g4 hq
theorem Ap(S:Addr):(Value.ref S::iT).contains (.type "BaseException")=true:=by
 rw[List.contains_cons,show iT.contains (Value.type "BaseException")=true by decide +kernel,Bool.or_true]
section
variable{X:Cx}{pins:List (Addr×Obj)}{σ:St}
theorem n4{x:Str}{np cpos:Pos}{e:Expr}{t:TA}{Q:Flow->Shared->Prop}(I:ak X pins σ H s)(hc:X.calm=true)(hg:Gl X x)(hm:X.mg x=some (.ref C))(hx:gH X.K C S)(hin:eR X.K C=none)(hdb:(x==("__debug__" : Str))=false)
  (ha:PA X [e] t) (hn:(backTo cpos (starEach [e] X.env)).any (·.1)=false) (he:starEach [e] X.env=[(false,eval e X.env)])
  (h:t σ H fun vs H1=>vs.length<=sizeLine/\∀s1 h' a us,ak X pins σ H1 s1->s1.heap.MadeExcOf h' a (.ref C) us->X.xe (.ref a) { s1 with heap:=h' }) :
  wpAny (model X.prog X.w) X.A (exec (.Raise (some (.Call (.Name x np) [e] [] cpos)) none pos) X.env) Q X.xe s:=by
 obtain⟨nm,qn,N,bs,hdct,sn,sub,ab,col,dd,k0,k1,k2,k3,k5,mN,g1,g2,g3,g4⟩:=iw hx.ex I.ok.mod.kin
 refine wpAny_Raise_call_subT (nm:=nm) (q:=qn) (N:=N) (bs:=bs) (bm:=.ref S::iT) (hdct:=hdct) (sn:=sn) (sub:=sub) (ab:=ab) (col:=col) (dd:=dd) (k0:=k0) (k1:=k1) (k2:=k2) (k3:=k3) (k5:=k5) PySem.F.excBase_ValueError (Ap S) (I.ok.hd hc) hn (g3.trans hin) (dW I hg hm ⟨rfl,?_⟩ hdb)
 have key:=ha cpos pins s σ H _ I h
 rw[he]at key⊢
 obtain⟨y,ey⟩:∃y,backTo cpos [(false,eval e X.env)]=[(false,y)]:=⟨_,rfl⟩
 rw[ey]at key⊢
 refine PySem.Calls.evalArgs_plain (aN key fun us s1 ⟨vs,H1,I1,r,hl,q⟩=>?_)
 obtain⟨o,es,ep,e1,e2,e3,e4⟩:=g2
 exact⟨rfl,by rw[<- r.length];exact hl,I1.bk _ _ g1,⟨o,es,ep,I1.bk _ _ e1,e2,e3,e4⟩,(OwnTailQ.tail g4).keeps I1.bk,fun h' a m=>q s1 h' a us I1 m⟩
end
section
variable{X:Cx}{pins:List (Addr×Obj)}{σ:St}{H':Hp}
theorem FF{i:Nat}(I:ak X pins σ H s)(hN:X.N.Nodup)(hi:X.N[i]?=some n)(hk:X.env.scope.names.lookup n=some .local)
  (h:∀s',ak X pins (σ.set i none) H s'->Q () s'):wpAny M A (do bindName X.env n .none;unbindBehindTheSuite X.env n pos) Q E s:=by
 obtain⟨m,hn,hl⟩:=id I.loc
 have hcls:(X.env.scope.kind == .class || (X.env.scope.kind == .module&&X.env.locals != X.env.globals))=false:=by rw[I.ok.kind];rfl
 have hiσ:i<σ.length:=by rw[I.len];exact(Qz.mp hi).1
 have cne:=I.cne
 refine wpAny_nameGoes_keeps hk hn hcls fun h' v hn' hs=>?_
 obtain⟨oL,_,_,hoL,_⟩:=id hn
 refine h _ ⟨I.ok,I.os,I.bare,⟨fun b o e n hb hx=>?_,fun b o e n hb hx=>?_,I.base.free,fun b o e hx=>?_,I.base.tups,I.base.frzs,I.base.tbls⟩,⟨_,hn',fun j y v' e1 e2 e3=>?_⟩,fun y c e=>?_,I.free,I.freeC,fun p hp=>?_,fun b ob e=>?_,by simpa using I.len⟩
 ·exact(hs.2 b (QS (Qv (Qy e) I.ok.above))).trans (I.base.keep b o e n hb hx)
 ·obtain⟨sl,e1⟩:=I.base.slot b o e n hb hx
  exact⟨sl,(hs.2 b (QS (Qv (Qy e) I.ok.above))).trans e1⟩
 ·obtain⟨o',e1⟩:=I.base.there b o e hx
  exact⟨o',(hs.2 b (QS (Qv (Qy e) I.ok.above))).trans e1⟩
 ·by_cases hj:j=i
  ·subst hj
   rw[RQ hiσ]at e2
   cases e2
  ·rw[Q5 (Rv hj)]at e2
   obtain⟨u',r',q⟩:=hl j y v' e1 e2 e3
   refine⟨u',r',?_⟩
   rcases q with⟨k,e⟩|⟨k,c,e,z⟩
   ·refine .inl ⟨k,?_⟩
    have:y≠n:=fun e=>hj (jQ hN e1 (e ▸ hi))
    simp[this,e]
   ·exact .inr ⟨k,c,e,z.sameBut hs (cne y c e)⟩
 ·obtain⟨w',z⟩:=I.cell y c e
  exact⟨w',z.sameBut hs (cne y c e)⟩
 ·obtain⟨e,n,ne,nf,d⟩:=I.pin p hp
  exact⟨(hs.2 p.1 ne).trans e,n,ne,nf,d⟩
 ·refine(I.hok b ob e).stay (fun c w' hc q=>(hs.2 c ?_).trans q) (fun _ q=>q) fun _ _ q=>q
  rintro rfl
  rcases hc with rfl|hc
  ·rw[I.free]at e;cases e
  ·rw[I.free]at hc;cases hc
noncomputable abbrev Cx.mark(X:Cx)(e:Value):Cx:={ X with A:=X.A.mark (some e),calm:=false,xe:=fun _ _=>False }
theorem Cx.Ok.mark(ok:X.Ok)(e:Value):(X.mark e).Ok:=⟨ok.mod,ok.kind,ok.glob,ok.blt,ok.above,ok.inj,ok.has,ok.cab,(fun z=>by cases z),ok.frames,ok.stk,ok.exf,ok.bs,ok.bsz,ok.noex,ok.exfs,ok.funs,ok.frf⟩
theorem ak.mark(I:ak X pins σ H s)(e:Value):ak (X.mark e) pins σ H s:=⟨I.ok.mark e,I.os,I.bare,I.base,I.loc,I.cell,I.free,I.freeC,I.pin,I.hok,I.len⟩
theorem ak.unmark(ok:X.Ok)(I:ak (X.mark e) pins σ H s):ak X pins σ H s:=⟨ok,I.os,I.bare,I.base,I.loc,I.cell,I.free,I.freeC,I.pin,I.hok,I.len⟩
noncomputable abbrev kC(x C:Addr)(od:Option Addr):HO:=.ext (fun h => ∃o vs,h.get? x=some o/\o.cls=.ref C/\o.dict=od/\o.data=.fields vs)
theorem I0{o:Obj}(e1:h.get? x=some o)(e2:o.cls=.ref C)(e3:o.dict=od)(e4:o.data=.fields vs):aT P w H h x (kC x C od) :=
 ⟨⟨o,vs,e1,e2,e3,e4⟩,⟨o,e1⟩,fun h1 h2 ⟨o',vs',a,b,c,d⟩ k=>⟨o',vs',k o' a,b,c,d⟩⟩
theorem KG{o:HO}(hk:cx P w H h)(hn:H x=none)(ho:aT P w (az H x o) h x o):cx P w (az H x o) h:=fun a u e=>by
 by_cases z:a=x
 ·subst z
  rw[aB]at e;cases e
  exact ho
 ·rw[aq z]at e
  exact(hk a u e).stay (fun _ _ _ q=>q) (fun b q=>by rw[aq (aU q hn)];exact q) fun b xs q=>by rw[aq (aU q hn)];exact q
theorem JX{E:XK}{D:kh}{B y:Str}{ie iy:Nat}{C0:Addr}{bp hpos p1 p2 p3:Pos}(I:ak X pins σ H s)(hs:X.stack=X.env::X.outer)(hN:X.N.Nodup)(c:fU X.prog X.w X.stack H s E e s')
  (hB:Gl X B) (hmB:X.mg B=some (.ref C0)) (hdb:(B==("__debug__" : Str))=false) (hie:X.N[ie]?=some n) (hen:X.env.scope.names.lookup n=some .local) (hiy:X.N[iy]?=some y) (hyn:X.env.scope.names.lookup y=some .local) (hne:iy≠ie)
  (hd1:(n==("__debug__" : Str))=false) (hd2:(n==("__classdict__" : Str))=false)
  (hE:∀C od H',E (.ref C) od H'->W.exmOne X.K (.ref C) (.ref C0)=some true/\∀x,H' x=none->D.nx (((σ.set ie (some (.ref x))).set iy (some (.ref x))).set ie none) (az H' x (kC x C od))) :
  wpAny (model X.prog X.w) X.A (noteFrame e X.env) (fun _ s₂=>wpAny (model X.prog X.w) X.A (setFlight e none) (fun _ s₃=>wpAny (model X.prog X.w) X.A (handleBy e X.env [.ExceptHandler (some (.Name B bp)) (some n) [.Assign [.Name y p1] (.Name n p2) p3] hpos]) (SP X pins D) X.xe s₃) X.xe s₂) X.xe s':=by
 obtain⟨x,C,T,od,H',rfl,hx,hT,t,ho,hg,u,hk,nx,nT,q⟩:=c
 have J:ak X pins σ H' s':=I.call' (ch:=[]) ho u hk hg (fun b z=>absurd z (by simp))
 have hfr:=I.frame hs
 have fs:X.A.frames=some (X.env::X.outer):=by rw[<- hs];exact I.ok.frames
 have hf:=J.stack
 rw[hs]at hf
 obtain⟨oe,vs,oT,ts,a0,e1,e2,e6,e3,e4,e5,f0,f1,f2,f3⟩:=id t
 have hsz:1<vs.size:=by
  rcases RK 1 vs.size with z|z
  ·exact z
  ·rw[RR z]at e5;cases e5
 obtain⟨qm,qn⟩:=hE C od H' q
 refine og (C:=C) (od:=od) fs hf hfr e1 e2 e6 e3 hsz e4 (.inr ⟨T,oT,ts,e5,f0,f1,f2,f3⟩) fun h2 T2 k1 k2 nT2 tr=>?_
 have hidn:∀b∈x::T::bZ X.stack,H' b=none:=fun b hb=>by
  rcases Qo.mp hb with rfl|hb
  ·exact nx
  ·rcases Qo.mp hb with rfl|hb
   ·exact nT
   ·exact J.stkFree b hb
 have hidf:∀b o,s.heap.get? b=some o->b∈x::T::bZ X.stack->b∈bZ X.stack:=fun b o eb hb=>by
  rcases Qo.mp hb with rfl|hb
  ·rw[hx]at eb;cases eb
  ·rcases Qo.mp hb with rfl|hb
   ·rw[hT]at eb;cases eb
   ·exact hb
 have mkI:∀h3:Heap,ja X (x::T::bZ X.stack) s'.heap h3->ak X pins σ H' { s' with heap:=h3 }:=fun h3 ov =>
  I.call' (s':={ s' with heap:=h3 }) (ch:=[]) ho (rP u hidf ov.keep ov.up) (qo hk hidn ov.keep) hg (fun b z=>absurd z (by simp))
 have ov2:ja X (x::T::bZ X.stack) s'.heap h2:=⟨fun b o eb nb=>k1 b o eb (fun z=>nb (by rw[z];exact Qj)) (by rw[e5];intro z;injection z with z;injection z with z;exact nb (by rw[<- z];exact Qi _ Qj)) (fun z=>nb (Qi _ (Qi _ (by rw[hs];exact z)))),fun b hb o eb=>k2 b (by rw[<- hs];exact hb) o eb⟩
 have J2:=mkI h2 ov2
 obtain⟨ox,vx,oU,us,a1,ex1,ex2,ex6,ex3,ex4,ex5,u0,u1,u2,u3⟩:=tr
 refine wpAny_handleBy_cons ?_ (by intro z;cases z)
 refine codeAny_handlers_test ?_
 refine dW (X:=X.mark (.ref x)) (J2.mark (.ref x)) hB hmB ?_ hdb
 refine Sr (W.exm_one J2.kIn (nS ex1 ex2 _) qm) ?_
 show codeAny _ _ _ _ _
 refine codeAny_handlers_suite_as ?_
 have u4:3<us.size:=by
  rcases RK 3 us.size with z|z
  ·exact z
  ·rw[RR z]at u3;cases u3
 have nT3:∀b o,s'.heap.get? b=some o->T2≠b:=fun b o eb z=>by rw[<- z,nT2]at eb;cases eb
 refine tQ (s:={ s' with heap:=h2 }) ex1 ex3 ex5 u1 u2 u4 ?_
 obtain⟨h3,eh3⟩:∃h3,h2.update T2 (Obj.mapFields fun v=>v.setIfInBounds 3 .none)=h3:=⟨_,rfl⟩
 have oth:∀b,T2≠b->h3.get? b=h2.get? b:=fun b hb=>by rw[<- eh3];exact QK _ _ hb
 show wpAny _ _ _ _ _ { s' with heap:=h2.update T2 (Obj.mapFields fun v=>v.setIfInBounds 3 .none) }
 rw[eh3]
 have ov3:ja X (x::T::bZ X.stack) s'.heap h3:=⟨fun b o eb nb=>(oth b (nT3 b o eb)).trans (ov2.keep b o eb nb),fun b hb o eb=>by
  obtain⟨sl,z⟩:=ov2.up b hb o eb
  exact⟨sl,(oth b (nT3 b o eb)).trans z⟩⟩
 have ey1:h3.get? x=some ox:=(oth x u0).trans ex1
 have J3:ak X pins σ (az H' x (kC x C od)) { s' with heap:=h3 }:=by
  have u3:=rP u hidf ov3.keep ov3.up
  refine I.call' (s':={ s' with heap:=h3 }) (ch:=[]) ho ⟨u3.keep,u3.slot,fun b o eb n hb=>?_,u3.there,fun b xs eb=>?_,fun b o w eb=>?_,fun b ps eb=>?_⟩ (KG (qo hk hidn ov3.keep) nx (I0 ey1 ex2 ex6 ex3)) hg (fun b z=>absurd z (by simp))
  ·have:b≠x:=fun z=>by rw[z,hx]at eb;cases eb
   rw[aq this];exact u3.free b o eb n hb
  ·have z:=u3.tups b xs eb
   rw[aq (aU z nx)];exact z
  ·have z:=u3.frzs b o w eb
   rw[aq (aU z nx)];exact z
  ·obtain⟨more,z⟩:=u3.tbls b ps eb
   exact⟨more,by rw[aq (aU z nx)];exact z⟩
 refine ii (X:=X) J3 hN hie (.inl hen) (v:=.ref x) rfl (fun s4 J4=>?_) (.inr hen)
 have hl:ie<σ.length:=by rw[I.len];exact(Qz.mp hie).1
 have pv:PE (X.mark (.ref x)) (.Name n p2) (iY ie):=fh (X:=X.mark (.ref x)) hie (.inl hen) hd1 hd2
 have ps:=yR (X:=X.mark (.ref x)) (pos:=p3) (pos':=p1) hN hiy (.inl hyn) pv rfl (.inr hyn)
 refine Rb (Ey ps pins s4 _ _ ⟨fun σ' H''=>σ'=(σ.set ie (some (.ref x))).set iy (some (.ref x))/\H''=az H' x (kC x C od),fun _ _=>False,fun _ _=>False,fun _ _=>False⟩ (J4.mark (.ref x)) ⟨_,RQ hl,rfl,rfl⟩) (fun f s5 hf=>?_) (fun _ _ z=>z.elim)
 cases f with
 | next =>
  obtain⟨σ',H'',J5,rfl,rfl⟩:=hf
  refine FF (X:=X) (J5.unmark I.ok) hN hie hen fun s6 J6=>?_
  exact⟨_,_,J6,qn x nx⟩
 | brk=>obtain⟨_,_,_,z⟩:=hf;exact z.elim
 | cont=>obtain⟨_,_,_,z⟩:=hf;exact z.elim
 | ret v=>obtain⟨_,_,_,_,_,z⟩:=hf;exact z.elim
end
theorem oO{nm:Str}
  (F:ExcBaseFacts B newId initId bmB) (ht:OwnTail h bmB bm) {be:List Value} {Q:PySem.Fin->Shared->Prop} (hC:h.get? C=some (excClassObj nm q C N bs bm hdct sn sub ab col dd k0 k1 k2 k3 k5 newId)) (hn:h.Ns N mN) (hi:mN "__init__" = some (.ref fI)) (hfI:h.get? fI=some oI) (hfc:oI.cls=.type "function")
  (hq:∀h' e,h.objs.size<=e->h.MadeExcOf h' e (.ref C) be->wpAny (model prog w) A (call (.ref fI) (.ref e::be)) (fun r s'=>r=.none/\Q (.done (.ret (.ref e))) s') E ⟨h',g,d,t,os⟩) (hrest:be.length<=sizeLine) :
  wpAny (model prog w) A (Builtin.«type.__call__» ⟨.ref C::be,[]⟩) Q E ⟨h,g,d,t,os⟩:=by
 unfold Builtin.«type.__call__»
 dsimp only
 refine Sg rfl ?_
 refine Qh ?_
 unfold mroOf
 refine Qh ?_
 unfold classData
 refine Qh (wpAny_load' hC (Qq (Qq ?_)))
 refine Sg rfl ?_
 refine Qh (wpAny_madeBy_exc hC ?_)
 refine Qh (Qq ?_)
 refine Qh (Q7 (Sq (codeAny_call_builtin_code (Code.quiet_builtin ⟨.ref C::be,[]⟩ F.quiet) (wpAny_check_new_subT F ht hC (codeAny_exc_new_subT F ht hC ?_ hrest)))))
 have kp:∀b o,h.get? b=some o->((h.push { cls:=.type "tuple", data:=.seq be.toArray }).push { cls:=.ref C,data:=.fields #[.ref h.objs.size,.none,.none,.none,.bool false,.none] }).get? b=some o:=fun b o e=>Qk _ (Qk _ e)
 have hget:((h.push { cls:=.type "tuple", data:=.seq be.toArray }).push { cls:=.ref C,data:=.fields #[.ref h.objs.size,.none,.none,.none,.bool false,.none] }).get? (h.objs.size+1)=some { cls:=.ref C,data:=.fields #[.ref h.objs.size,.none,.none,.none,.bool false,.none] }:=Heap.get?_push_at (by simp) rfl
 have m:h.MadeExcOf ((h.push { cls:=.type "tuple", data:=.seq be.toArray }).push { cls:=.ref C,data:=.fields #[.ref h.objs.size,.none,.none,.none,.bool false,.none] }) (h.objs.size+1) (.ref C) be:=⟨kp,Sk (SO _),h.objs.size,hget,Sk (Ql _),Qk _ (Heap.get?_push_at rfl rfl)⟩
 have hcC:(Value.ref C::bm).contains (.ref C)=true:=by simp
 generalize hh:(h.push { cls:=.type "tuple", data:=.seq be.toArray }).push { cls:=.ref C,data:=.fields #[.ref h.objs.size,.none,.none,.none,.bool false,.none] }=h1 at *
 refine Qh (E:=E) ?_
 unfold isInstance
 refine Qh ?_
 unfold typeOf
 refine Qh (R5 hget ?_)
 refine Qq ?_
 refine wpAny_isSubtype_exc (kp _ _ hC) ?_
 rw[hcC]
 refine Sg rfl ?_
 refine Qh (Q7 ?_)
 unfold callSpecial?
 refine Qh ?_
 unfold specialOf
 refine Qh ?_
 unfold typeOf
 refine Qh (R5 hget ?_)
 refine Qq ?_
 have ht1:OwnTail h1 bmB bm:=ht.keeps kp
 have hn1:h1.Ns N mN:=by obtain⟨o,es,ep,a,b⟩:=hn;exact⟨o,es,ep,kp _ _ a,b⟩
 refine wpAny_typeLookup_tail (kp _ _ hC) hn1 ht1 F.mroIs F.init.lookup ?_
 rw[hi]
 dsimp only
 refine Q7 (Qh ?_)
 unfold bindSpecial
 refine Qh (wpAny_typeOf ⟨oI,kp _ _ hfI,hfc⟩ ?_)
 rw[if_pos (by decide)]
 refine Qq (Qh (Rb (hq h1 _ (SO _) m) (fun r s' hr=>?_) (fun _ _ z=>z)))
 obtain⟨rfl,hQ⟩:=hr
 refine Qq ?_
 dsimp only
 rw[if_neg (by simp)]
 exact Qq hQ
theorem xK{nm:Str}
  (F:ExcBaseFacts B newId initId bmB) (ht:OwnTail h bmB bm) {be:List Value} {Q:Value->Shared->Prop} (hC:h.get? C=some (excClassObj nm q C N bs bm hdct sn sub ab col dd k0 k1 k2 k3 k5 newId)) (hn:h.Ns N mN) (hi:mN "__init__" = some (.ref fI)) (hfI:h.get? fI=some oI) (hfc:oI.cls=.type "function")
  (hq:∀h' e,h.objs.size<=e->h.MadeExcOf h' e (.ref C) be->wpAny (model prog w) (A.under (.builtin "type.__call__" ⟨.ref C::be,[]⟩)) (call (.ref fI) (.ref e::be)) (fun r s'=>r=.none/\Q (.ref e) s') E ⟨h',g,d,t,os⟩) (hrest:be.length<=sizeLine) :
  wpAny (model prog w) A (call (.ref C) be) Q E ⟨h,g,d,t,os⟩:=by
 have f1:=tc_lookup
 have f2:=tc_bind (.ref C)
 have hT:Shared.TypeIs ⟨h,g,d,t,os⟩ (.ref C) "type" := ⟨_,hC,rfl⟩
 refine Sq (codeAny_of_tree ?_)
 refine Qh (wpAny_load' hC ?_)
 refine Qh (wpAny_specialOf hT f1 ?_)
 refine Qh (wpAny_of_eq f2 ?_)
 refine Qh ?_
 refine Qq (wpAny_ite_true rfl ?_)
 refine Qq ⟨rfl,codeAny_call_builtin_at (Code.quiet_builtin ⟨.ref C::be,[]⟩ (by decide +kernel)) entry_typeCall (wpAny_check_type_call_sub hC (oO F ht hC hn hi hfI hfc (fun h' e hl hm=>hq h' e hl hm) hrest))⟩
theorem wP{nm:Str}{x:Sem Value}{Q:Flow->Shared->Prop}
  (hbase:bm.contains (.type "BaseException")=true) (hh:A.handled=none)
  (h:wpAny M A x (fun v s₁ => ∃e oe vs,v=.ref e/\s₁.heap.get? C=some (excClassObj nm q C N bs bm hdct sn sub ab col dd k0 k1 k2 k3 k5 newId)/\s₁.heap.get? e=some oe/\oe.cls=.ref C/\oe.data=.fields vs/\vs[1]?=some .none/\E (.ref e) s₁) E s):wpAny M A (raiseStmt env (some x) none) Q E s:=by
 have hcB:(Value.ref C::bm).contains (.type "BaseException")=true:=by rw[List.contains_cons,hbase,Bool.or_true]
 unfold raiseStmt
 dsimp only
 refine Qh (Rb h (fun v s1 h1=>?_) (fun _ _ z=>z))
 obtain⟨e,oe,vs,rfl,hC,he,e2,e3,e5,hE⟩:=h1
 obtain⟨hp,g,d,tk,os⟩:=s1
 obtain⟨oc,od,oda,osl⟩:=oe
 simp only at e2 e3
 subst e2 e3
 refine Qh (Qq ?_)
 refine Qh (Q7 ?_)
 unfold excFromValue
 refine Qh ?_
 unfold isExcClass
 refine Qh ?_
 unfold isType
 refine Qh (R5 he (Qq ?_))
 refine Sg rfl (Qq ?_)
 refine Sg rfl ?_
 refine Qh ?_
 unfold isInstance
 refine Qh ?_
 unfold typeOf
 refine Qh (R5 he (Qq ?_))
 refine wpAny_isSubtype_exc hC ?_
 rw[hcB]
 refine wpAny_ite_true rfl (Qq ?_)
 dsimp only
 refine Qh ?_
 refine Qh (R5 he (Qq ?_))
 refine Sg rfl ?_
 refine Qh ?_
 unfold raisedInstance
 refine Qh ?_
 unfold typeOf
 refine Qh (R5 he (Qq ?_))
 refine Qh ?_
 refine Qh (R5 hC (Qq ?_))
 refine wpAny_ite_true rfl (Qq ?_)
 refine Qh ?_
 unfold setFlight
 refine Qh (wpAny_field he rfl e5 ?_)
 refine Sg rfl (Qq ?_)
 exact wpAny_raiseNew_none hh hE



end L2
namespace Sp
open PySem PySem.Spec PyProof.Rows L2
variable{H:Hp}{K:W.Frag}{n:Str}{C S:Addr}
structure Dw(K:W.Frag)(n:Str)(C:Addr):Prop where
 cl:((W.clsIn K C).isSome&&W.typeIn K (.ref C)==some (.type "type"))=true
 sole:∀m,W.nsIn K mainGlobals m=some (some (.ref C))->m=n
 obj:∃o,K.lookup C=some o/\o.cls=.type "type"
noncomputable abbrev Xs:=Str×Str×List (Str×Int)
noncomputable def tS(H:Hp)(od:Option Addr)(fs:List (Str×Int)):Prop:=∀f i,fs=[(f,i)]->∃dx,od=some dx/\H dx=some (.xd [(f,.int i)])
theorem tS.nil{od:Option Addr}:tS H od []:=fun _ _ z=>by cases z
structure uE(K:W.Frag)(C:Addr)(f:Str):Prop where
 no:W.findIn K (.ref C) f=some none
 di:W.hasDictIn K C=true
noncomputable def lL(K:W.Frag)(H:Hp)(n:Str):Option (Str×List (Str×Int))->V->Prop
 | none,v => ∃C,v=.ref C/\W.nsIn K mainGlobals n=some (some (.ref C))/\Dw K n C
 | some (p,fs),v => ∃x C S od,v=.ref x/\W.nsIn K mainGlobals n=some (some (.ref C))/\W.nsIn K mainGlobals p=some (some (.ref S))/\gH K C S/\H x=some (kC x C od)/\tS H od fs/\∀f i,fs=[(f,i)]->uE K C f
theorem lL.mono{H':Hp}(k:∀a C od,H a=some (kC a C od)->H' a=some (kC a C od))(kd:∀a fs,H a=some (.xd fs)->H' a=some (.xd fs)):∀{p:Option (Str×List (Str×Int))} {v:V},lL K H n p v->lL K H' n p v
 | none,_,h=>h
 | some (p,fs),_,⟨x,C,S,od,e,h1,h2,h3,h4,h5,h6⟩=>⟨x,C,S,od,e,h1,h2,h3,k _ _ _ h4,fun f i z=>let ⟨dx,a,b⟩:=h5 f i z;⟨dx,a,kd _ _ b⟩,h6⟩
theorem lL.ref:∀{p:Option (Str×List (Str×Int))} {v:V},lL K H n p v->∃a,v=.ref a
 | none,_,⟨C,e,_⟩=>⟨C,e⟩
 | some (p,fs),_,⟨x,_,_,_,e,_⟩=>⟨x,e⟩
theorem lL.at:∀{p:Option (Str×List (Str×Int))} {a:Addr},lL K H n p (.ref a)->(∃o,K.lookup a=some o/\o.cls=.type "type")\/∃C od,H a=some (kC a C od)
 | none,_,⟨C,e,_,h⟩=>by cases e;exact .inl h.obj
 | some (p,fs),_,⟨x,C,_,od,e,_,_,_,h,_⟩=>by cases e;exact .inr ⟨C,od,h⟩
theorem zb(e:lB K C S=true):∃cd,W.clsIn K C=some cd/\cd.mro=.ref C :: .ref S::iT:=by
 unfold lB at e
 split at e
 ·rename_i t d1 cd sl c2 d2 ce sl2 e1 e2
  simp only[Qx]at e
  obtain⟨⟨⟨⟨⟨q1,q2⟩,q3⟩,q4⟩,q5⟩,q6⟩:=e
  exact⟨cd,by unfold W.clsIn;rw[e1],by simpa using q3⟩
 ·cases e
theorem zu{Cm:Addr}{p m:Str}(e:gH K C S)(hn:W.nsIn K mainGlobals n=some (some (.ref C)))(hp:W.nsIn K mainGlobals p=some (some (.ref S)))(hm:W.nsIn K mainGlobals m=some (some (.ref Cm)))(x:Dw K m Cm) :
  W.kitOne K (.ref C) (.ref Cm)=some (decide (m=n) || decide (m=p)):=by
 obtain⟨cd,h1,h2⟩:=zb e.ex
 have a1:(Value.ref Cm==Value.ref C)=decide (m=n):=by
  by_cases z:m=n
  ·subst z;rw[hm]at hn;cases hn;simp
  ·rw[QD z]
   refine R9.mpr fun y=>z ?_
   injection y with y
   subst y
   exact(x.sole n hn).symm
 have a2:(Value.ref Cm==Value.ref S)=decide (m=p):=by
  by_cases z:m=p
  ·subst z;rw[hm]at hp;cases hp;simp
  ·rw[QD z]
   refine R9.mpr fun y=>z ?_
   injection y with y
   subst y
   exact(x.sole p hp).symm
 unfold W.kitOne
 have a3:(Value.ref C==Value.ref Cm)=decide (m=n):=by
  by_cases z:m=n
  ·subst z;rw[hm]at hn;cases hn;simp
  ·rw[QD z]
   refine R9.mpr fun y=>z ?_
   injection y with y
   subst y
   exact(x.sole n hn).symm
 rw[a3]
 by_cases z:m=n
 ·rw[if_pos (QM z),QM z];rfl
 ·rw[QD z,if_neg (by simp),Bool.false_or]
  unfold W.kitCls
  dsimp only
  rw[if_pos x.cl]
  unfold W.subIn W.mroIn
  dsimp only
  rw[h1,Option.bind_some,h2,if_neg (by simp)]
  rw[List.contains_cons,List.contains_cons,a1,a2,QD z,Bool.false_or,show iT.contains (Value.ref Cm)=false by simp[iT],Bool.or_false]
theorem Io(e:gH K C S):W.kitOne K (.ref C) (.type "ValueError")=some true:=by
 obtain⟨cd,h1,h2⟩:=zb e.ex
 unfold W.kitOne
 rw[if_neg (by simp)]
 unfold W.kitCls
 dsimp only
 rw[if_pos (by decide +kernel)]
 unfold W.subIn W.mroIn
 dsimp only
 rw[h1,Option.bind_some,h2,if_neg (by simp)]
 simp[iT]
end Sp
namespace L2
open PySem PySem.Spec PyProof.Rows
variable{o:Option V}{u:Value}{y:V}
section
variable{κ:Type}[DecidableEq κ]
noncomputable def c8(kvs:List (κ×V))(k:κ):Option V:=(kvs.find? fun kv=>decide (kv.1=k)).map (·.2)
noncomputable def fb(kvs:List (κ×V))(k:κ)(v:V):List (κ×V) :=
 if (kvs.any fun kv=>decide (kv.1=k))=true then kvs.map (fun kv=>if kv.1=k then(kv.1,v)else kv)else kvs++[(k,v)]
noncomputable def Dm(kvs:List (κ×V))(k:κ):List (κ×V):=kvs.filter fun kv=>decide (kv.1≠k)
theorem fA{p:κ×V}{r:List (κ×V)}{k:κ}(e:p.1=k):c8 (p::r) k=some p.2:=by simp[c8,Rm,e]
theorem fB{p:κ×V}{r:List (κ×V)}{k:κ}(e:¬ p.1=k):c8 (p::r) k=c8 r k:=by simp[c8,Rm,e]
theorem nR(k:κ):∀kvs:List (κ×V),(kvs.any fun kv=>decide (kv.1=k))=(c8 kvs k).isSome
 | []=>rfl
 | p::r=>by
  rw[SQ]
  by_cases e:p.1=k
  ·simp only[fA e,QM e,Bool.true_or,Option.isSome_some]
  ·rw[fB e,QD e,Bool.false_or];exact nR k r
theorem nE(kvs:List (κ×V))(k:κ)(v:V):(fb kvs k v).length<=kvs.length+1:=by
 unfold fb
 split
 ·rw[Qp];omega
 ·rw[Qr,Qw,Rl];omega
theorem gM.isSome_eq{u:Option Value}(r:gM o u):o.isSome=u.isSome:=by
 cases o with
 | none=>cases u with
  | none=>rfl
  | some _=>exact(show False from r).elim
 | some _=>cases u with
  | none=>exact(show False from r).elim
  | some _=>rfl
theorem gM.getD{u:Option Value}{d:V}{d':Value}(r:gM o u)(rd:aP d d'):aP (o.getD d) (u.getD d'):=by
 cases o with
 | none=>cases u with
  | none=>exact rd
  | some _=>exact(show False from r).elim
 | some _=>cases u with
  | none=>exact(show False from r).elim
  | some _=>exact r
theorem KV.val{kvs:List (κ×V)}{vs:List (κ×Value)}(r:KV kvs vs)(k:κ):gM (c8 kvs k) (valueAt vs k):=by
 unfold KV at r
 induction r with
 | nil=>exact True.intro
 | @cons p q ps qs h t ih =>
  obtain⟨h1,h2⟩:=h
  by_cases e:p.1=k
  ·have e':q.1=k:=h1.symm.trans e
   have b:valueAt (q::qs) k=some q.2:=by simp[valueAt,Rm,e']
   rw[fA e,b];exact h2
  ·have e':¬ q.1=k:=fun z=>e (h1.trans z)
   have b:valueAt (q::qs) k=valueAt qs k:=by simp[valueAt,Rm,e']
   rw[fB e,b];exact ih
theorem KV.any{kvs:List (κ×V)}{vs:List (κ×Value)}(r:KV kvs vs)(k:κ):(kvs.any fun kv=>decide (kv.1=k))=vs.any fun kv=>decide (kv.1=k):=by
 unfold KV at r
 induction r with
 | nil=>rfl
 | cons h t ih=>rw[SQ,SQ,ih,h.1]
theorem KV.repl{kvs:List (κ×V)}{vs:List (κ×Value)}(r:KV kvs vs)(k:κ)(ry:aP y u) :
  KV (kvs.map fun kv=>if kv.1=k then(kv.1,y)else kv) (vs.map fun kv=>if kv.1=k then(kv.1,u)else kv):=by
 unfold KV at r⊢
 induction r with
 | nil=>exact .nil
 | @cons p q ps qs h t ih =>
  rw[QJ,QJ]
  refine .cons ?_ ih
  obtain⟨h1,h2⟩:=h
  by_cases e:p.1=k
  ·rw[if_pos e,if_pos (h1.symm.trans e)];exact⟨h1,ry⟩
  ·rw[if_neg e,if_neg (fun z=>e (h1.trans z))];exact⟨h1,h2⟩
theorem KV.put{kvs:List (κ×V)}{vs:List (κ×Value)}(r:KV kvs vs)(k:κ)(ry:aP y u):KV (fb kvs k y) (stored vs k u):=by
 unfold fb stored
 rw[r.any k]
 by_cases e:(vs.any fun kv=>decide (kv.1=k))=true
 ·rw[if_pos e,if_pos e];exact r.repl k ry
 ·rw[if_neg e,if_neg e];exact Paired.snoc r ⟨rfl,ry⟩
theorem KV.drop{kvs:List (κ×V)}{vs:List (κ×Value)}(r:KV kvs vs)(k:κ):KV (Dm kvs k) (without vs k):=by
 unfold KV at r⊢
 unfold Dm without
 induction r with
 | nil=>exact .nil
 | @cons p q ps qs h t ih =>
  obtain⟨h1,h2⟩:=h
  rw[List.filter_cons,List.filter_cons]
  by_cases e:p.1=k
  ·have a:¬ decide (p.1≠k)=true:=by simp[e]
   have b:¬ decide (q.1≠k)=true:=by simp[h1.symm.trans e]
   rw[if_neg a,if_neg b];exact ih
  ·have e':¬ q.1=k:=fun z=>e (h1.trans z)
   have a:decide (p.1≠k)=true:=by simp[e]
   have b:decide (q.1≠k)=true:=by simp[e']
   rw[if_pos a,if_pos b];exact .cons ⟨h1,h2⟩ ih
theorem KV.keys{kvs:List (κ×V)}{vs:List (κ×Value)}(r:KV kvs vs):kvs.map (·.1)=vs.map (·.1):=by
 unfold KV at r
 induction r with
 | nil=>rfl
 | cons h t ih=>rw[QJ,QJ,ih,h.1]
theorem KV.length{kvs:List (κ×V)}{vs:List (κ×Value)}(r:KV kvs vs):kvs.length=vs.length:=Paired.length r
end
theorem jT{P:Program}{w:World}{k:aR}(r:aP (kV k) u):(b7 P w).is k u=true:=by
 cases k with
 | inl i=>obtain⟨t,e⟩:=(show ∃t,u=Value.int i t from r);subst e;exact uR P w i t
 | inr x=>obtain⟨t,e⟩:=(show ∃t,u=Value.str x t from r);subst e;exact uQ P w x t
end L2
namespace Sp
open PySem PySem.Spec PyProof.Rows L2
variable{K:W.Frag}{H H':Hp}{a c e e2 elt iter tg:Expr}{vs vs':List V}{v:V}{X:Cx}{σ:L2.St}{i j k k2 ko n n2:Nat}{env:Env}{sc scope:Scope}{M:Model}{A:Around}{E:Value->Shared->Prop}{s:Shared}{cl:List (Str×Addr)}{f g m qual x:Str}{pins:List (Addr×Obj)}{N' ps:List Str}{fp:List Addr}{w:World}{args cs es ifs tgs:List Expr}{ap cp p p1 p2 pos px py q:Pos}{b it r r2 t:Bool}{op op2:CmpOp}{body els ss:List Stmt}{α β:Type}{o:List Prop}{ks:List aR}{T:String}{Q:Bool->Shared->Prop}{st:Stmt}{mg:Str->Option Value}{base:Heap}{cdv:Value}{outer:List Env}{fd:FuncData}{ns:List Int}{us:List Value}
inductive D where
 | non|bl (b:Bool)|int (i:Int)|str (x:Str)|dct (ks:List aR) (ds:List D)|tup (l:List D)|lst (l:List D)|typ (n:String)|sn (n:Nat)|obj (n:Str) (ns:List Str) (ds:List D)|cls (n:Str)|xc (n:Str) (p:Option (Str×List (Str×Int)))|dcf (ks:List Int) (ls:List (List (List Int)))
mutual
noncomputable def D.lless:D->Bool
 | .lst _=>false
 | .dct _ _=>false
 | .tup l=>au l
 | _=>true
noncomputable def au:List D->Bool
 | []=>true
 | d::l=>d.lless&&au l
end
noncomputable def uB(K:W.Frag)(H:Hp)(a:Addr)(vs:List V):Bool->Prop
 | true=>H a=some (.lst vs)
 | false=>(∃o,H a=some (.frz o (.lst vs)))\/∃(o:Obj) (its:Array Value) (n:Nat),K.lookup a=some o/\o.cls=.type "list" /\ o.dict=none/\o.data=.seq its n/\its.size<=sizeLine/\aD vs its.toList
theorem uB.sq{a:Addr}:∀{b:Bool},uB K H a vs b->bT K H a vs
 | true,h=>bT.of h
 | false,.inl ⟨o,h⟩=>.inl (.inr ⟨o,h⟩)
 | false,.inr h=>.inr h
structure rM(K:W.Frag)(C:Addr):Prop where
 ha:W.findIn K (.ref C) "__class__" = some (some (.builtin "object.__class__"))
 hn:W.specialIn K (.builtin "object.__class__") "__get__" = some (some (.builtin "getset_descriptor.__get__"))
 ht:W.takesIn K (.builtin "object.__class__")=some true
 hm:W.mroIn K C (.type "object")=some true
noncomputable def Jx:List Str:=["Deed", "Turn", "HalfTurn", "Mirror"]
noncomputable def rV(m n:Str):Bool:=decide (m=n) || (decide (n = "Deed")&&(decide (m = "Turn") || decide (m = "HalfTurn") || decide (m = "Mirror")))
structure LW(K:W.Frag)(C:Addr)(n:Str):Prop where
 all:∀m∈Jx,∀Cm,W.nsIn K mainGlobals m=some (some (.ref Cm))->rM K Cm/\W.kitOne K (.ref Cm) (.ref C)=some (rV m n)
noncomputable abbrev aW:=Addr->Bool->Prop
noncomputable def bF(K:W.Frag)(H:Hp):List V->List (List Int)->Prop
 | [],[]=>True
 | v::vs,ns::r=>(∃a,v=.ref a/\ba K H a (ns.map V.int)/\ns≠[])/\bF K H vs r
 | _,_=>False
noncomputable def mf(K:W.Frag)(H:Hp):List (List (List Int))->List V->Prop
 | [],[]=>True
 | l::ls,v::r=>(∃a o ts,v=.ref a/\H a=some (.frz o (.lst ts))/\bF K H ts l)/\mf K H ls r
 | _,_=>False
theorem bF.keep{K:W.Frag}{H H':Hp}(k:∀a vs,ba K H a vs->ba K H' a vs):∀{bs:List V} {nss:List (List Int)},bF K H bs nss->bF K H' bs nss
 | [],[],_=>trivial
 | v::bs,ns::nss,h=>let ⟨a,e,hq,hn⟩:=h.1;⟨⟨a,e,k _ _ hq,hn⟩,bF.keep k h.2⟩
 | [],_::_,h=>h.elim
 | _::_,[],h=>h.elim
theorem mf.keep{K:W.Frag}{H H':Hp}(k:∀a vs,ba K H a vs->ba K H' a vs)(f:∀a o u,H a=some (.frz o u)->H' a=some (.frz o u)):∀{ls:List (List (List Int))} {vs:List V},mf K H ls vs->mf K H' ls vs
 | [],[],_=>trivial
 | l::ls,v::vs,h=>let ⟨a,o,ts,e,h1,h2⟩:=h.1;⟨⟨a,o,ts,e,f _ _ _ h1,h2.keep k⟩,mf.keep k f h.2⟩
 | [],_::_,h=>h.elim
 | _::_,[],h=>h.elim
mutual
noncomputable def ai(K:W.Frag)(H:Hp)(P:aW):D->V->Prop
 | .non,v=>v=.non
 | .bl b,v=>v=.bl b
 | .int i,v=>v=.int i
 | .str x,v=>v=.str x
 | .dct ks ds,v=>au ds=true/\ks.length=ds.length/\∃a vs,v=.ref a/\H a=some (.dK (ks.zip vs))/\P a true/\aj K H P ds vs
 | .typ n,v=>v=.ty n
 | .dcf ks ls,v=>ks.length=ls.length/\∃a o vs,v=.ref a/\H a=some (.frz o (.dK ((ks.map Sum.inl).zip vs)))/\mf K H ls vs
 | .sn n,v => ∃a S,v=.ref a/\H a=some (.set S n)
 | .xc n p,v=>lL K H n p v
 | .cls n,v => ∃C o,v=.ref C/\W.nsIn K mainGlobals n=some (some (.ref C))/\K.lookup C=some o/\o.cls=.type "type" /\ rM K C/\LW K C n
 | .obj n ns ds,v=>au ds=true/\ns.length=ds.length/\∃a C dx vs,v=.ref a/\W.nsIn K mainGlobals n=some (some (.ref C))/\fv K C/\H a=some (.ins C dx (ns.zip vs))/\aj K H P ds vs
 | .tup l,v => ∃a vs,v=.ref a/\ba K H a vs/\aj K H P l vs
 | .lst l,v => ∃a vs b,v=.ref a/\uB K H a vs b/\P a b/\aj K H P l vs
noncomputable def aj(K:W.Frag)(H:Hp)(P:aW):List D->List V->Prop
 | [],vs=>vs=[]
 | d::l,vs => ∃v r,vs=v::r/\ai K H P d v/\aj K H P l r
end
noncomputable def nm:HO->Prop
 | .lst _=>False
 | .dK _=>False
 | .ext p => ∃x C od,HO.ext p=kC x C od
 | _=>True
structure dE(P P':aW)(H H':Hp):Prop where
 oth:∀a o,H a=some o->nm o->H' a=some o
 lst:∀a o,H a=some o->P a true->H' a=some o
 impT:∀a o,H a=some o->P a true->P' a true
 impF:∀a,P a false->P' a false
theorem dE.sq{P P':aW}(s:dE P P' H H'){a:Addr}(h:ba K H a vs):ba K H' a vs:=by
 rcases h with(h|⟨o,h⟩)|h
 ·exact .inl (.inl (s.oth _ _ h True.intro))
 ·exact .inl (.inr ⟨o,s.oth _ _ h True.intro⟩)
 ·exact .inr h
theorem dE.ls{P P':aW}(s:dE P P' H H'){a:Addr}:∀{b:Bool},uB K H a vs b->P a b->uB K H' a vs b
 | true,h,p=>s.lst a _ h p
 | false,.inl ⟨o,h⟩,_=>.inl ⟨o,s.oth _ _ h True.intro⟩
 | false,.inr h,_=>.inr h
theorem dE.imp{P P':aW}(s:dE P P' H H'){a:Addr}:∀{b:Bool},uB K H a vs b->P a b->P' a b
 | true,h,p=>s.impT a _ h p
 | false,_,p=>s.impF a p
mutual
theorem ai.mono{K:W.Frag}{P P':aW}{H H':Hp}(s:dE P P' H H'):∀{d:D} {v:V},ai K H P d v->ai K H' P' d v
 | .non,v,h=>by rw[ai]at h⊢;exact h
 | .bl b,v,h=>by rw[ai]at h⊢;exact h
 | .int i,v,h=>by rw[ai]at h⊢;exact h
 | .str x,v,h=>by rw[ai]at h⊢;exact h
 | .dct ks ds,v,h=>by
  rw[ai]at h⊢
  obtain⟨f,e0,a,vs,e,h1,p,r⟩:=h
  exact⟨f,e0,a,vs,e,s.lst _ _ h1 p,s.impT _ _ h1 p,aj.mono s r⟩
 | .typ n,v,h=>by rw[ai]at h⊢;exact h
 | .dcf ks ls,v,h=>by
  rw[ai]at h⊢
  obtain⟨e0,a,o,vs,e,h1,r⟩:=h
  exact⟨e0,a,o,vs,e,s.oth _ _ h1 True.intro,r.keep (fun _ _ z=>s.sq z) fun _ _ _ z=>s.oth _ _ z True.intro⟩
 | .sn n,v,h=>by
  rw[ai]at h⊢
  obtain⟨a,S,e,h⟩:=h
  exact⟨a,S,e,s.oth _ _ h True.intro⟩
 | .cls n,v,h=>by rw[ai]at h⊢;exact h
 | .xc n p,v,h=>by rw[ai]at h⊢;exact h.mono (fun a C od z=>s.oth _ _ z ⟨a,C,od,rfl⟩) (fun a fs z=>s.oth _ _ z True.intro)
 | .obj n ns ds,v,h=>by
  rw[ai]at h⊢
  obtain⟨f,e0,a,C,dx,vs,e,h1,h2,h3,r⟩:=h
  exact⟨f,e0,a,C,dx,vs,e,h1,h2,s.oth _ _ h3 True.intro,aj.mono s r⟩
 | .tup l,v,h=>by
  rw[ai]at h⊢
  obtain⟨a,vs,e,h,r⟩:=h
  exact⟨a,vs,e,s.sq h,aj.mono s r⟩
 | .lst l,v,h=>by
  rw[ai]at h⊢
  obtain⟨a,vs,b,e,h,p,r⟩:=h
  exact⟨a,vs,b,e,s.ls h p,s.imp h p,aj.mono s r⟩
theorem aj.mono{K:W.Frag}{P P':aW}{H H':Hp}(s:dE P P' H H'):∀{l:List D} {vs:List V},aj K H P l vs->aj K H' P' l vs
 | [],vs,h=>by rw[aj]at h⊢;exact h
 | d::l,vs,h=>by
  rw[aj]at h⊢
  obtain⟨v,r,e,h1,h2⟩:=h
  exact⟨v,r,e,ai.mono s h1,aj.mono s h2⟩
end
theorem dE.same{P P':aW}(s:ar H H')(i:∀a b,P a b->P' a b):dE P P' H H':=⟨fun a o h _=>s a o h,fun a vs h _=>s a _ h,fun a _ _ p=>i a true p,fun a p=>i a false p⟩
theorem ai.same{P:aW}(s:ar H H'){d:D}(h:ai K H P d v):ai K H' P d v:=h.mono (.same s fun _ _ p=>p)
theorem aj.same{P:aW}(s:ar H H'){d:List D}{v:List V}(h:aj K H P d v):aj K H' P d v:=h.mono (.same s fun _ _ p=>p)
theorem ai.imp{P P':aW}(i:∀a b,P a b->P' a b){d:D}(h:ai K H P d v):ai K H P' d v:=h.mono (.same (ar.refl _) i)
theorem aj.imp{P P':aW}(i:∀a b,P a b->P' a b){d:List D}{v:List V}(h:aj K H P d v):aj K H P' d v:=h.mono (.same (ar.refl _) i)
theorem ai.impH{P P':aW}(i:∀a o,H a=some o->P a true->P' a true)(j:∀a,P a false->P' a false){d:D}(h:ai K H P d v):ai K H P' d v:=h.mono ⟨fun _ _ h _=>h,fun _ _ h _=>h,i,j⟩
theorem aj.impH{P P':aW}(i:∀a o,H a=some o->P a true->P' a true)(j:∀a,P a false->P' a false){d:List D}{v:List V}(h:aj K H P d v):aj K H P' d v:=h.mono ⟨fun _ _ h _=>h,fun _ _ h _=>h,i,j⟩
mutual
theorem ai.flat{K:W.Frag}{P:aW}(P':aW){H:Hp}:∀{d:D} {v:V},d.lless=true->ai K H P d v->ai K H P' d v
 | .non,v,_,h=>by rw[ai]at h⊢;exact h
 | .bl b,v,_,h=>by rw[ai]at h⊢;exact h
 | .int i,v,_,h=>by rw[ai]at h⊢;exact h
 | .str x,v,_,h=>by rw[ai]at h⊢;exact h
 | .dct _ _,v,f,h=>by rw[D.lless]at f;cases f
 | .typ n,v,_,h=>by rw[ai]at h⊢;exact h
 | .dcf _ _,v,_,h=>by rw[ai]at h⊢;exact h
 | .sn n,v,_,h=>by rw[ai]at h⊢;exact h
 | .cls n,v,_,h=>by rw[ai]at h⊢;exact h
 | .xc n p,v,_,h=>by rw[ai]at h⊢;exact h
 | .obj n ns ds,v,_,h=>by
  rw[ai]at h⊢
  obtain⟨f,e0,a,C,dx,vs,e,h1,h2,h3,r⟩:=h
  exact⟨f,e0,a,C,dx,vs,e,h1,h2,h3,aj.flat P' f r⟩
 | .tup l,v,f,h=>by
  rw[ai]at h⊢
  obtain⟨a,vs,e,h,r⟩:=h
  exact⟨a,vs,e,h,aj.flat P' (by rw[D.lless]at f;exact f) r⟩
 | .lst l,v,f,h=>by rw[D.lless]at f;cases f
theorem aj.flat{K:W.Frag}{P:aW}(P':aW){H:Hp}:∀{l:List D} {vs:List V},au l=true->aj K H P l vs->aj K H P' l vs
 | [],vs,_,h=>by rw[aj]at h⊢;exact h
 | d::l,vs,f,h=>by
  rw[aj]at h⊢
  rw[au,Qx]at f
  obtain⟨v,r,e,h1,h2⟩:=h
  exact⟨v,r,e,ai.flat P' f.1 h1,aj.flat P' f.2 h2⟩
end
theorem aj.length{P:aW}:∀{l:List D} {vs:List V},aj K H P l vs->l.length=vs.length
 | [],vs,h=>by rw[aj]at h;subst h;rfl
 | d::l,vs,h=>by
  rw[aj]at h
  obtain⟨v,r,e,h1,h2⟩:=h
  subst e
  rw[Qw,Qw,h2.length]
theorem aj.get{K:W.Frag}{P:aW}{H:Hp}:∀{l:List D} {vs:List V} {i:Nat} {d:D},aj K H P l vs->l[i]?=some d->∃v,vs[i]?=some v/\ai K H P d v
 | [],vs,i,d,h,e=>by simp at e
 | x::l,vs,0,d,h,e=>by
  rw[aj]at h
  obtain⟨v,r,rfl,h1,h2⟩:=h
  simp at e;subst e
  exact⟨v,by simp,h1⟩
 | x::l,vs,i+1,d,h,e=>by
  rw[aj]at h
  obtain⟨v,r,rfl,h1,h2⟩:=h
  obtain⟨u,h3,h4⟩:=aj.get (i:=i) h2 (by simpa using e)
  exact⟨u,by simpa using h3,h4⟩
theorem aj.append{K:W.Frag}{P:aW}{H:Hp}:∀{l m:List D} {vs ws:List V},aj K H P l vs->aj K H P m ws->aj K H P (l++m) (vs++ws)
 | [],m,vs,ws,h,g=>by rw[aj]at h;subst h;exact g
 | d::l,m,vs,ws,h,g=>by
  rw[aj]at h
  obtain⟨v,r,rfl,h1,h2⟩:=h
  show aj K H P (d::(l++m)) (v::(r++ws))
  rw[aj]
  exact⟨v,_,rfl,h1,aj.append h2 g⟩
theorem aj.one{P:aW}{d:D}(h:ai K H P d v):aj K H P [d] [v]:=by
 rw[aj];exact⟨v,[],rfl,h,by rw[aj]⟩
theorem aj.nil{P:aW}:aj K H P [] []:=by rw[aj]
theorem aj.cons{P:aW}{d:D}{l:List D}(h:ai K H P d v)(g:aj K H P l vs):aj K H P (d::l) (v::vs):=by
 rw[aj];exact⟨v,vs,rfl,h,g⟩
theorem aj.take{K:W.Frag}{P:aW}{H:Hp}:∀{l:List D} {vs:List V} (n:Nat),aj K H P l vs->aj K H P (l.take n) (vs.take n)
 | [],vs,n,h=>by rw[aj]at h;subst h;simp;exact aj.nil
 | d::l,vs,0,h=>by simp;exact aj.nil
 | d::l,vs,n+1,h=>by
  rw[aj]at h
  obtain⟨v,r,rfl,h1,h2⟩:=h
  exact aj.cons h1 (aj.take n h2)
theorem aj.drop{K:W.Frag}{P:aW}{H:Hp}:∀{l:List D} {vs:List V} (n:Nat),aj K H P l vs->aj K H P (l.drop n) (vs.drop n)
 | [],vs,n,h=>by rw[aj]at h;subst h;simp;exact aj.nil
 | d::l,vs,0,h=>h
 | d::l,vs,n+1,h=>by
  rw[aj]at h
  obtain⟨v,r,rfl,h1,h2⟩:=h
  exact aj.drop n h2
theorem aj.mapInt{K:W.Frag}{P:aW}{H:Hp}:∀{ns:List Int} {vs:List V},aj K H P (ns.map D.int) vs->vs=ns.map V.int
 | [],vs,h=>by rw[SF,aj]at h;exact h
 | n::ns,vs,h=>by
  rw[QJ,aj]at h
  obtain⟨v,r,rfl,h1,h2⟩:=h
  rw[ai]at h1
  rw[h1,aj.mapInt h2];rfl
theorem aj.ofInts{K:W.Frag}{P:aW}{H:Hp}:∀{ns:List Int},aj K H P (ns.map D.int) (ns.map V.int)
 | []=>aj.nil
 | n::ns=>aj.cons (by rw[ai]) aj.ofInts
noncomputable abbrev Ow:=Addr->Option (Option Str)
noncomputable def Kp(ow:Ow)(H:Hp):Nat->aW
 | 0=>fun a b=>b=true/\H a=none
 | 1=>fun a b=>b=true->ow a=none
 | 2=>fun a b=>b=true/\(ow a≠none\/H a=none)
 | _=>fun _ _=>True
noncomputable def kj:Nat->Nat->Nat
 | 0,k=>k
 | k,0=>k
 | 1,1=>1
 | 2,2=>2
 | _,_=>3
noncomputable def k7(ow:Ow)(x:Str):Bool->aW
 | true=>fun a b=>b=true/\ow a=some (some x)
 | false=>fun a b=>b=true->ow a=none
noncomputable def cM(ow:Ow)(H:Hp):Prop:=∀a,ow a≠none->∃o,H a=some o
theorem cM.same{ow:Ow}(o:cM ow H)(s:ar H H'):cM ow H':=fun a h=>let ⟨x,e⟩:=o a h;⟨x,s a x e⟩
theorem cM.free{ow:Ow}(o:cM ow H){a:Addr}(h:H a=none):ow a=none:=by
 cases e:ow a with
 | none=>rfl
 | some x=>obtain⟨y,q⟩:=o a (by rw[e];exact(fun z=>nomatch z));rw[h]at q;cases q
theorem Kp.back{ow:Ow}(s:ar H H'):∀(k:Nat) (a:Addr) (b:Bool),Kp ow H' k a b->Kp ow H k a b
 | 0,a,b,h=>⟨h.1,s.free h.2⟩
 | 1,a,b,h=>h
 | 2,a,b,h=>⟨h.1,h.2.imp id fun z=>s.free z⟩
 | _+3,a,b,h=>True.intro
theorem Kp.joinL{ow:Ow}(o:cM ow H):∀(k j:Nat) (a:Addr) (b:Bool),Kp ow H k a b->Kp ow H (kj k j) a b
 | 0,0,a,b,h=>h
 | 0,1,a,b,h=>fun _=>o.free h.2
 | 0,2,a,b,h=>⟨h.1,.inr h.2⟩
 | 0,_+3,a,b,h=>True.intro
 | 1,0,a,b,h=>h
 | 1,1,a,b,h=>h
 | 1,2,a,b,h=>True.intro
 | 1,_+3,a,b,h=>True.intro
 | 2,0,a,b,h=>h
 | 2,1,a,b,h=>True.intro
 | 2,2,a,b,h=>h
 | 2,_+3,a,b,h=>True.intro
 | _+3,0,a,b,h=>True.intro
 | _+3,1,a,b,h=>True.intro
 | _+3,2,a,b,h=>True.intro
 | _+3,_+3,a,b,h=>True.intro
theorem Ft:∀k j,kj k j=kj j k
 | 0,0|0,1|0,2|0,_+3|1,0|1,1|1,2|1,_+3|2,0|2,1|2,2|2,_+3|_+3,0|_+3,1|_+3,2|_+3,_+3=>rfl
theorem Kp.joinR{ow:Ow}(o:cM ow H)(k j:Nat)(a:Addr)(b:Bool)(h:Kp ow H j a b):Kp ow H (kj k j) a b:=by
 rw[Ft];exact Kp.joinL o j k a b h
noncomputable abbrev ah:=Str->Option (D×Bool)
structure aC(X:Cx)(ow:Ow)(H:Hp)(σ:L2.St)(ρ:ah):Prop where
 get:∀x d o,ρ x=some (d,o)->∃(i:Nat) (v:V),X.N[i]?=some x/\eZ X.env.scope x/\σ[i]?=some (some v)/\ai X.K H (k7 ow x o) d v
 own:cM ow H
theorem aC.same{ow:Ow}{ρ:ah}(e:aC X ow H σ ρ)(s:ar H H'):aC X ow H' σ ρ :=
 ⟨fun x d o h=>let ⟨i,v,h1,h2,h3,h4⟩:=e.get x d o h;⟨i,v,h1,h2,h3,h4.same s⟩,e.own.same s⟩
noncomputable def tD(X:Cx)(ow:Ow)(ρ:ah)(d:D)(k:Nat):TE:=fun σ H Q=>aC X ow H σ ρ/\∀v H',ar H H'->ai X.K H' (Kp ow H k) d v->Q v H'
noncomputable def ED(X:Cx)(ρ:ah)(e:Expr)(d:D)(k:Nat):Prop:=∀ow,PE X e (tD X ow ρ d k)
noncomputable def Cz(X:Cx)(ow:Ow)(ρ:ah)(b:Bool):TT:=fun σ H Q=>aC X ow H σ ρ/\∀H',ar H H'->Q b H'
noncomputable def TD(X:Cx)(ρ:ah)(e:Expr)(b:Bool):Prop:=∀ow,PT X e (Cz X ow ρ b)
noncomputable def P7(X:Cx)(ow:Ow)(ρ:ah)(ds:List D)(k:Nat):TA:=fun σ H Q=>aC X ow H σ ρ/\∀vs H',ar H H'->aj X.K H' (Kp ow H k) ds vs->Q vs H'
noncomputable def AD(X:Cx)(ρ:ah)(es:List Expr)(ds:List D)(k:Nat):Prop:=∀ow,PA X es (P7 X ow ρ ds k)
theorem bB{t t':TE}(h:PE X e t)(i:∀σ H Q,t' σ H Q->t σ H Q):PE X e t':=fun pins s σ H Q I q=>h pins s σ H Q I (i σ H Q q)
theorem xU{t t':TT}(h:PT X e t)(i:∀σ H Q,t' σ H Q->t σ H Q):PT X e t':=fun pins s σ H Q I q=>h pins s σ H Q I (i σ H Q q)
theorem Dy{e:List Expr}{t t':TA}(h:PA X e t)(i:∀σ H Q,t' σ H Q->t σ H Q):PA X e t':=fun pos pins s σ H Q I q=>h pos pins s σ H Q I (i σ H Q q)
noncomputable def kn(d:D)(k:Nat):Nat:=if d.lless=true then 0 else k
theorem ED.kn{ρ:ah}{d:D}(h:ED X ρ e d k):ED X ρ e d (Sp.kn d k):=by
 unfold Sp.kn
 by_cases f:d.lless=true
 ·rw[if_pos f]
  exact fun ow=>bB (h ow) fun σ H Q ⟨E,q⟩=>⟨E,fun v H' s r=>q v H' s (r.flat _ f)⟩
 ·rw[if_neg f];exact h
variable{C C' ρ ρ':ah}{d y z:D}{ow ow':Ow}{ds l l':List D}{P:aW}
noncomputable def Mf(K:W.Frag)(J:It)(ds:List D)(P:aW)(H1:Hp):Prop :=
 ∀(i:Nat) (H2:Hp),dE P P H1 H2->(∀d,ds[i]?=some d->J.go i H2/\∀x H3,J.yld i H2 x H3->ar H2 H3/\ai K H3 P d x)/\(ds.length<=i->J.stop i H2)
noncomputable def Kd(ow:Ow)(H:Hp)(k:Nat)(H1:Hp):aW:=fun a b=>Kp ow H k a b/\(b=true->∃o,H1 a=some o)
noncomputable def tI(X:Cx)(ow:Ow)(ρ:ah)(ds:List D)(k:Nat):TI:=fun σ H R=>aC X ow H σ ρ/\∀J H1,ar H H1->Mf X.K J ds (Kd ow H k H1) H1->R J H1
noncomputable def IE(X:Cx)(ρ:ah)(tg iter:Expr)(ds:List D)(k:Nat):Prop:=∀ow,PI X tg iter (tI X ow ρ ds k)
noncomputable def iu(ifs:List Expr)(env:Env):Sem Bool:=forIn ifs true fun c r=>if r=true then do let ok <- isTrue c env (eval c env);pure (ForInStep.yield ok)else pure (ForInStep.yield r)
noncomputable def AM(X:Cx)(ρ:ah)(ifs:List Expr)(b:Bool):Prop:=∀ow (pins:List (Addr×Obj)) (s:Shared) (σ:L2.St) (H:Hp) (Q:Bool->Hp->Prop),ak X pins σ H s->Cz X ow ρ b σ H Q->wpAny (model X.prog X.w) X.A (iu ifs X.env) (TP X pins σ Q) X.xe s
noncomputable def GD(X:Cx)(ρ:ah)(tg:Expr)(d:D)(ρ':ah):Prop:=∃g:TG,PG X tg g/\∀(ow:Ow) (v:V) (σ:L2.St) (H:Hp) (Q:L2.St->Hp->Prop),σ.length=X.N.length->aC X ow H σ ρ->ai X.K H (fun a b=>b=true->ow a=none) d v->(∀σ',σ'.length=X.N.length->aC X ow H σ' ρ'->Q σ' H)->g v σ H Q
noncomputable abbrev lu(X:Cx)(scope:Scope)(cl:List (Str×Addr))(C:Addr)(N':List Str)(s:Shared)(H:Hp)(fp:List Addr):Cx :=
 { X with N:=N',s₀:=s,H₀:=H,env:=compEnvC scope cl C X.env,outer:=X.stack,stack:=X.stack,ex:=fp,fn:=fun x=>decide (scope.names.lookup x=some .cell),pn:=[],xe:=fun _ _=>False }
theorem iG{env:Env}:∀(names:List (Str×NameKind)) (cs:List (Str×Addr)),(∀n,(n,NameKind.free)∈names->∃c,env.cells.lookup n=some c) ->
  ∃cl,(forIn names cs (fun(x:Str×NameKind) (r:List (Str×Addr))=>(if (x.2==NameKind.free)=true then do let a <- cellOf env x.1;pure (ForInStep.yield ((x.1,a)::r))else pure (ForInStep.yield r):Sem (ForInStep (List (Str×Addr))))))=(pure cl:Sem (List (Str×Addr))) /\
   (∀x c,cl.lookup x=some c->(env.cells.lookup x=some c/\(x,NameKind.free)∈names)\/cs.lookup x=some c)/\(∀x,(x,NameKind.free)∈names->∃c,cl.lookup x=some c)/\(∀x c,cs.lookup x=some c->∃c',cl.lookup x=some c')
 | [],cs,_=>⟨cs,rfl,fun x c h=>.inr h,fun x h=>(by cases h),fun x c h=>⟨c,h⟩⟩
 | (n,k)::r,cs,h=>by
  have hr:∀n,(n,NameKind.free)∈r->∃c,env.cells.lookup n=some c:=fun m hm=>h m (Qi _ hm)
  by_cases hk:k=.free
  ·subst hk
   obtain⟨c,hc⟩:=h n Qj
   obtain⟨cl,e,h1,h2,h3⟩:=iG r ((n,c)::cs) hr
   refine⟨cl,?_,fun x c' hx=>?_,fun x hx=>?_,fun x c' hx=>?_⟩
   ·rw[List.forIn_cons]
    simp only[beq_self_eq_true,if_true,cellOf,hc]
    rw[pure_bind,pure_bind]
    exact e
   ·rcases h1 x c' hx with q|q
    ·exact .inl ⟨q.1,Qi _ q.2⟩
    ·rw[QF]at q
     split at q
     ·rename_i hb
      have:x=n:=by simpa using hb
      subst this;cases q;exact .inl ⟨hc,Qj⟩
     ·exact .inr q
   ·rcases Qo.mp hx with q|q
    ·cases q
     exact h3 n c (by simp)
    ·exact h2 x q
   ·by_cases hb:x==n
    ·exact h3 x c (by rw[QF,hb])
    ·exact h3 x c' (by rw[QF];simp only[hb];exact hx)
  ·obtain⟨cl,e,h1,h2,h3⟩:=iG r cs hr
   refine⟨cl,?_,fun x c hx=>(h1 x c hx).imp (fun q=>⟨q.1,Qi _ q.2⟩) id,fun x hx=>?_,h3⟩
   ·rw[List.forIn_cons]
    have:(k==NameKind.free)=false:=by simpa using hk
    simp only[this,Ry,SK]
    rw[pure_bind]
    exact e
   ·rcases Qo.mp hx with q|q
    ·cases q;exact absurd rfl hk
    ·exact h2 x q
theorem uT(h:∀n,(n,NameKind.free)∈scope.names->∃c,env.cells.lookup n=some c) :
  ∃cl,closureFor scope env=pure cl/\(∀x c,cl.lookup x=some c->env.cells.lookup x=some c/\(x,NameKind.free)∈scope.names)/\(∀x,(x,NameKind.free)∈scope.names->∃c,cl.lookup x=some c):=by
 obtain⟨cl,e,h1,h2,_⟩:=iG scope.names [] h
 refine⟨cl,?_,fun x c hx=>(h1 x c hx).resolve_right (by simp),h2⟩
 unfold closureFor
 rw[<- e,<- bind_pure (forIn scope.names _ _)]
theorem cW{env:Env}:∀{names:List (Str×NameKind)} {x:Str},names.lookup x=some .free ->
  (names.map fun(n,k)=>if (k==NameKind.free&&env.scope.kind == .function&&env.kindOf n==some .cell)then(n,NameKind.cell)else(n,k)).lookup x=some .cell \/
  (names.map fun(n,k)=>if (k==NameKind.free&&env.scope.kind == .function&&env.kindOf n==some .cell)then(n,NameKind.cell)else(n,k)).lookup x=some .free
 | [],_,h=>by simp at h
 | (n,k)::r,x,h=>by
  have ih:=@cW env r x
  show List.lookup x ((if (k==NameKind.free&&env.scope.kind == .function&&env.kindOf n==some .cell)=true then(n,NameKind.cell)else(n,k))::_)=_\/List.lookup x ((if (k==NameKind.free&&env.scope.kind == .function&&env.kindOf n==some .cell)=true then(n,NameKind.cell)else(n,k))::_)=_
  cases hx:x==n with
  | true =>
   simp only[QF,hx]at h
   cases h
   by_cases hc:(NameKind.free==NameKind.free&&env.scope.kind == .function&&env.kindOf n==some .cell)=true
   ·rw[if_pos hc];simp[QF,hx]
   ·rw[if_neg hc];simp[QF,hx]
  | false =>
   simp only[QF,hx]at h
   by_cases hc:(k==NameKind.free&&env.scope.kind == .function&&env.kindOf n==some .cell)=true
   ·rw[if_pos hc];simp only[QF,hx];exact ih h
   ·rw[if_neg hc];simp only[QF,hx];exact ih h
theorem gb{env:Env}:∀{names:List (Str×NameKind)} {x:Str} {k:NameKind},(names.map fun(n,k)=>if (k==NameKind.free&&env.scope.kind == .function&&env.kindOf n==some .cell)then(n,NameKind.cell)else(n,k)).lookup x=some k ->
  names.lookup x=some k\/(k=.cell/\names.lookup x=some .free)
 | [],_,_,h=>by simp at h
 | (n,j)::r,x,k,h=>by
  have ih:=@gb env r x k
  replace h:List.lookup x ((if (j==NameKind.free&&env.scope.kind == .function&&env.kindOf n==some .cell)=true then(n,NameKind.cell)else(n,j))::_)=some k:=h
  cases hx:x==n with
  | true =>
   simp only[QF,hx]
   by_cases hc:(j==NameKind.free&&env.scope.kind == .function&&env.kindOf n==some .cell)=true
   ·rw[if_pos hc]at h
    simp only[QF,hx]at h
    cases h
    have:j=.free:=by
     have:=(Qx _ _).mp ((Qx _ _).mp hc).1
     simpa using this.1
    exact .inr ⟨rfl,by rw[this]⟩
   ·rw[if_neg hc]at h
    simp only[QF,hx]at h
    exact .inl h
  | false =>
   simp only[QF,hx]
   by_cases hc:(j==NameKind.free&&env.scope.kind == .function&&env.kindOf n==some .cell)=true
   ·rw[if_pos hc]at h;simp only[QF,hx]at h;exact ih h
   ·rw[if_neg hc]at h;simp only[QF,hx]at h;exact ih h
structure gI(env:Env)(scope:Scope)(N':List Str):Prop where
 kind:scope.kind=.function
 nn:(scope.names.map (·.1)).Nodup
 names:∀y∈scope.names,y.2=.local->scope.names.lookup y.1=some .local
 nd:N'.Nodup
 fr:∀n,(n,NameKind.free)∈scope.names->env.kindOf n=some .cell\/env.kindOf n=some .free
theorem tf:∀{names:List (Str×NameKind)} {x:Str} {k:NameKind},(names.map (·.1)).Nodup->(x,k)∈names->names.lookup x=some k
 | [],_,_,_,h=>by cases h
 | (n,j)::r,x,k,nd,h=>by
  rw[QJ,Se]at nd
  rcases Qo.mp h with e|h'
  ·cases e;simp
  ·have hx:(x==n)=false:=by
    cases q:x==n with
    | false=>rfl
    | true =>
     have:x=n:=by simpa using q
     subst this
     have hm:x∈r.map (·.1):=QB.mpr ⟨(x,k),h',rfl⟩
     exact absurd hm nd.1
   rw[QF,hx]
   exact tf nd.2 h'
theorem pM:∀(names:List (Str×NameKind)) (n:Nat) (acc:List (Str×Addr)) {x:Str} {c:Addr},(cellsFrom n names acc).lookup x=some c->acc.lookup x=some c\/(n<=c/\(x,NameKind.cell)∈names)
 | [],_,_,_,_,h=>.inl h
 | (y,k)::r,n,acc,x,c,h=>by
  unfold cellsFrom at h
  split at h
  ·rename_i hk
   have hk:k=.cell:=by simpa using hk
   subst hk
   rcases pM r (n+1) ((y,n)::acc) h with q|⟨q1,q2⟩
   ·rw[QF]at q
    split at q
    ·rename_i hb
     have:x=y:=by simpa using hb
     subst this
     cases q
     exact .inr ⟨Ql _,Qj⟩
    ·exact .inl q
   ·exact .inr ⟨by omega,Qi _ q2⟩
  ·rcases pM r n acc h with q|⟨q1,q2⟩
   ·exact .inl q
   ·exact .inr ⟨q1,Qi _ q2⟩
theorem t9:∀(names:List (Str×NameKind)) (n:Nat) (acc:List (Str×Addr)),(∀x y c,acc.lookup x=some c->acc.lookup y=some c->x=y)->(∀x c,acc.lookup x=some c->c<n) ->
  ∀x y c,(cellsFrom n names acc).lookup x=some c->(cellsFrom n names acc).lookup y=some c->x=y
 | [],_,_,h,_,x,y,c,a,b=>h x y c a b
 | (z,k)::r,n,acc,h,hb,x,y,c,a,b=>by
  unfold cellsFrom at a b
  split at a
  ·rename_i hk
   rw[if_pos hk]at b
   refine t9 r (n+1) ((z,n)::acc) (fun u v d p q=>?_) (fun u d p=>?_) x y c a b
   ·rw[QF]at p q
    split at p
    ·rename_i e1
     split at q
     ·rename_i e2
      rw[show u=z by simpa using e1,show v=z by simpa using e2]
     ·cases p;exact absurd (hb v _ q) (Rh _)
    ·split at q
     ·cases q;exact absurd (hb u _ p) (Rh _)
     ·exact h u v d p q
   ·rw[QF]at p
    split at p
    ·cases p;exact QV _
    ·exact Nat.lt_succ_of_lt (hb u d p)
  ·rename_i hk
   rw[if_neg hk]at b
   exact t9 r n acc h hb x y c a b
theorem qy:∀(names:List (Str×NameKind)) (h:Heap) (acc:List (Str×Addr)),(∀x c,acc.lookup x=some c->∃v,h.IsCell c v)->∀x c,(cellsFrom h.objs.size names acc).lookup x=some c->∃v,(pushCells h names).IsCell c v
 | [],_,_,h,x,c,a=>h x c a
 | (z,k)::r,h,acc,hc,x,c,a=>by
  unfold cellsFrom at a
  unfold pushCells
  split at a
  ·rename_i hk
   rw[if_pos hk]
   have:=qy r (h.push { cls:=.type "cell", data:=.cell none }) ((z,h.objs.size)::acc) (fun u d p=>?_) x c
   ·rw[Sn]at this
    exact this a
   ·rw[QF]at p
    split at p
    ·cases p;exact⟨none,_,QG _ rfl,rfl⟩
    ·obtain⟨v,q⟩:=hc u d p
     exact⟨v,q.keeps fun b o e=>Qk _ e⟩
  ·rename_i hk
   rw[if_neg hk]
   exact qy r h acc hc x c a
theorem yd{globals:Addr}{Q:Env->Shared->Prop}(hcl:∀x c,cl.lookup x=some c->∃v,s.heap.IsCell c v)
  (h:∀h',h'.Ns s.heap.objs.size (fun _=>none)->(∀b o,s.heap.get? b=some o->h'.get? b=some o)->(∀x c,(cellsFrom (s.heap.objs.size+1) scope.names cl).lookup x=some c->∃v,h'.IsCell c v) ->
   Q (newEnv scope s.heap.objs.size globals (cellsFrom (s.heap.objs.size+1) scope.names cl) qual none .none (some env) builtinsNs) { s with heap:=h',toks:=s.toks+0 }) :
  wpAny M A (newFunctionEnv scope globals cl [] qual none .none (some env)) Q E s:=by
 simp only[newFunctionEnv,Option.isSome_some,if_true]
 refine Qh (wpAny_alloc ?_)
 refine Qh (wpAny_layCells _ (fun name kind cells=>by cases hkc:kind==NameKind.cell<;>simp[hkc]) _ _ _ _ ?_)
 rw[show({ s with heap:=s.heap.push { cls:=.type "dict", data:=.dict #[] } }:Shared).heap.objs.size=s.heap.objs.size+1 from Sn ..]
 rw[List.forIn_nil]
 refine Qh (Qq (Qq ?_))
 refine h _ ((Heap.Ns.new s.heap (.type "dict")).keeps (pushCells_keeps _ _)) (fun b o e=>pushCells_keeps _ _ b o (Qk _ e)) fun x c hc=>?_
 have:=qy scope.names (s.heap.push { cls:=.type "dict", data:=.dict #[] }) cl (fun u d p=>by
  obtain⟨v,q⟩:=hcl u d p
  exact⟨v,q.keeps fun b o e=>Qk _ e⟩) x c
 rw[Sn]at this
 exact this hc
structure nq(X:Cx)(scope:Scope)(cl:List (Str×Addr))(n:Nat):Prop where
 k1:∀x c,cl.lookup x=some c->X.env.cells.lookup x=some c\/(n<c/\scope.names.lookup x=some .cell)
 k2:∀x,scope.names.lookup x=some .free\/scope.names.lookup x=some .cell->∃c,cl.lookup x=some c
 k4:∀x y c,cl.lookup x=some c->cl.lookup y=some c->x=y
 k5:∀x c,scope.names.lookup x=some .cell->cl.lookup x=some c->n<=c
variable{X:Cx}
theorem B6(I:ak X pins σ H s)(S:gI X.env scope N')
  (h1:∀x c,cl.lookup x=some c->X.env.cells.lookup x=some c/\(x,NameKind.free)∈scope.names) (h2:∀x,(x,NameKind.free)∈scope.names->∃c,cl.lookup x=some c) :
  nq X scope (cellsFrom (s.heap.objs.size+1) scope.names cl) s.heap.objs.size where
 k1:=fun x c h=>by
  rcases pM _ _ _ h with q|⟨q1,q2⟩
  ·exact .inl (h1 x c q).1
  ·exact .inr ⟨q1,tf S.nn q2⟩
 k2:=fun x h=>by
  refine Option.isSome_iff_exists.mp (W.cellsFrom_some scope.names _ cl ?_)
  rcases h with h|h
  ·obtain⟨c,hc⟩:=h2 x (QH h)
   exact .inr (by rw[hc];rfl)
  ·exact .inl h
 k4:=t9 scope.names _ cl (fun x y c a b=>I.ok.inj x y c (h1 x c a).1 (h1 y c b).1) fun x c a=>by
  obtain⟨v,hv⟩:=I.cell x c (h1 x c a).1
  exact Nat.lt_succ_of_lt hv.lt
 k5:=fun x c hx h=>by
  rcases pM _ _ _ h with q|⟨q1,q2⟩
  ·rw[tf S.nn (h1 x c q).2]at hx;cases hx
  ·omega
theorem Le{C:Addr}(I:ak X pins σ H s)(S:gI X.env scope N')
  (hC:s.heap.objs.size<=C) (k:nq X scope cl s.heap.objs.size)
  (hf:∀b∈fp,jb X pins H b) (hfC:∀b∈fp,b<s.heap.objs.size):(lu X scope cl C N' s H fp).Ok where
 mod:=I.ok.mod
 kind:=by show(relabel scope X.env).kind=_;exact S.kind
 glob:=I.ok.glob
 blt:=I.ok.blt
 above:=hC
 inj:=k.k4
 has:=fun x hx=>by
  have hx:(relabel scope X.env).names.lookup x=some .cell\/(relabel scope X.env).names.lookup x=some .free:=hx
  rcases hx with hx|hx
  ·rcases gb hx with q|⟨_,q⟩
   ·exact k.k2 x (.inr q)
   ·exact k.k2 x (.inl q)
  ·rcases gb hx with q|⟨q,_⟩
   ·exact k.k2 x (.inl q)
   ·cases q
 cab:=fun x c h hc=>k.k5 x c (Q9 h) hc
 hd:=I.ok.hd
 frames:=I.ok.frames
 stk:=.inl rfl
 exf:=fun b hb=>⟨by have:=hfC b hb;intro z;subst z;show False;exact absurd (Qv this hC) (Rh _),fun x c h=>by
  rcases k.k1 x c h with q|⟨q,_⟩
  ·exact(hf b hb).2.2.2.2.1 x c q
  ·have:=hfC b hb
   intro z;subst z;exact absurd (Nat.lt_trans q this) (Rh _)⟩
 bs:=I.bs
 bsz:=QA I.ok.bsz I.sz
 noex:=fun b o e hb=>by
  rcases(hf b hb).2.2.2.1 with q|q
  ·exact I.ok.noex b o e q
  ·exact absurd (Qv (Qy e) (QA I.ok.bsz q)) (Rh _)
 exfs:=fun b hb z=>by
  rcases Qo.mp (I.stkSub b z)with q|q
  ·exact(hf b hb).2.1 q
  ·exact(hf b hb).2.2.1 q
 funs:=I.stack
 frf:=I.stkFree
noncomputable def nY(X:Cx)(scope:Scope)(N':List Str)(σ:L2.St):L2.St:=N'.map fun x=>if scope.names.lookup x=some .free then(σ[X.N.idxOf x]?).join else none
theorem IC{s1:Shared}{m:Str->Option Value}(I:ak X pins σ H s)(S:gI X.env scope N')
  (k:nq X scope cl s.heap.objs.size) (k6:∀x c,cl.lookup x=some c->∃v,s1.heap.IsCell c v)
  (hf:∀b∈fp,jb X pins H b) (hfC:∀b∈fp,b<s.heap.objs.size)
  (es:∃h t,s1 = { s with heap:=h,toks:=t }) (hns:s1.heap.Ns s.heap.objs.size m) (hk:∀b o,s.heap.get? b=some o->s1.heap.get? b=some o) :
  ak (lu X scope cl s.heap.objs.size N' s H fp) [] (nY X scope N' σ) H s1:=by
 obtain⟨h',t,rfl⟩:=es
 have I1:ak X pins σ H { s with heap:=h',toks:=t }:=I.kept hk
 refine⟨Le I S (Ql _) k hf hfC,rfl,I.bare,Un.kept hk,⟨m,hns,fun i x v e1 e2 e3=>?_⟩,k6,I.hok.fresh (Ql _),fun x c h=>(k.k1 x c h).elim (fun q=>I.freeC x c q) fun q=>I.hok.fresh (RW q.1),fun p hp=>absurd (show p∈([]:List (Addr×Obj))from hp) (by simp),I1.hok,?_⟩
 ·have hN:N'[i]?=some x:=e1
  unfold nY at e2
  rw[QY,hN]at e2
  simp only[Option.map_some,Option.some.injEq]at e2
  split at e2
  ·rename_i hfr
   have hj:σ[X.N.idxOf x]?=some (some v):=by
    cases q:σ[X.N.idxOf x]? with
    | none=>rw[q]at e2;cases e2
    | some y=>rw[q]at e2;rw[show y=some v from e2]
   have hlt:X.N.idxOf x<X.N.length:=by rw[<- I.len];exact(Qz.mp hj).1
   have hx:X.N[X.N.idxOf x]?=some x:=by
    rw[QE hlt,Ss hlt]
   have kf:=S.fr x (QH hfr)
   have vis:eZ X.env.scope x:=.inr (kf.imp id id)
   obtain⟨m1,hn1,hl1⟩:=I1.loc
   obtain⟨u,r,l⟩:=hl1 _ x v hx hj vis
   refine⟨u,r,.inr ⟨?_,?_⟩⟩
   ·exact cW hfr
   ·rcases l with⟨hk',_⟩|⟨_,c,hc,hcell⟩
    ·rcases kf with q|q<;>rw[q]at hk'<;>cases hk'
    ·obtain⟨c',hc'⟩:=k.k2 x (.inl hfr)
     have:c'=c:=by
      rcases k.k1 x c' hc' with this|⟨_,this⟩
      ·rw[hc]at this;exact(QX this).symm
      ·rw[hfr]at this;cases this
     subst this
     exact⟨c',hc',hcell⟩
  ·cases e2
 ·unfold nY;simp
noncomputable def flt(scope:Scope)(ρ:ah):ah:=fun x=>if scope.names.lookup x=some .free then ρ x else none
theorem jX{y:D×Bool}(h:flt scope ρ x=some y):ρ x=some y/\scope.names.lookup x=some .free:=by
 unfold flt at h
 split at h
 ·rename_i e;exact⟨h,e⟩
 ·cases h
theorem Je{C:Addr}{H0:Hp}(E:aC X ow H σ ρ)(hN:X.N.Nodup)
  (hsub:∀x d o,flt scope ρ x=some (d,o)->x∈N') :
  aC (lu X scope cl C N' s H0 fp) ow H (nY X scope N' σ) (flt scope ρ):=by
 refine⟨fun x d o h=>?_,E.own⟩
 obtain⟨h1,h2⟩:=jX h
 obtain⟨i,v,e1,e2,e3,e4⟩:=E.get x d o h1
 have hx:x∈N':=hsub x d o h
 have hi:X.N.idxOf x=i:=by
  have hm:x∈X.N:=Re e1
  have hlt:=List.idxOf_lt_length_iff.mpr hm
  exact jQ hN (by rw[QE hlt,Ss hlt]) e1
 refine⟨N'.idxOf x,v,?_,?_,?_,e4⟩
 ·have hlt:=List.idxOf_lt_length_iff.mpr hx
  show N'[N'.idxOf x]?=some x
  rw[QE hlt,Ss hlt]
 ·exact .inr (cW h2)
 ·have hlt:=List.idxOf_lt_length_iff.mpr hx
  unfold nY
  rw[QY,QE hlt,Ss hlt]
  simp only[Option.map_some]
  rw[if_pos h2,hi,e3];rfl
variable{X:Cx}
theorem Ac{prog:Program}{R:Result->Shared->Prop}{target:Expr}{it acc:Value}(J:Nat->Shared->Prop)
    (turn:∀n s,J n s->wpAny (model prog w) A (pyNext it) (fun r s₁=>match r with
      | none=>R (.ok .next) s₁
      | some v=>wpAny (model prog w) A (letOwnedTupleGo target it v) (fun _ s₁=>wpAny (model prog w) A (assign target env v) (fun _ s₂ =>
          wpAny (model prog w) A (iu ifs env) (fun ok s₃ =>
            if ok=true then wpAny (model prog w) A (eval elt env) (fun x s₄ =>
              wpAny (model prog w) A (call (.builtin "list.append") [acc,x]) (fun _ s₅ => ∃m,m<n/\J m s₅) (fun _ _=>False) s₄) (fun _ _=>False) s₃
            else ∃m,m<n/\J m s₃) (fun _ _=>False) s₂) (fun _ _=>False) s₁) (fun _ _=>False) s₁) (fun _ _=>False) s)
    (n:Nat) (h:J n s):codeAny (model prog w) A (.compLoop (.ListComp elt [⟨target,iter,ifs,0⟩] scope pos) 0 it acc env) R s:=by
  refine codeAny_loop rfl J (fun n s hI=>?_) n h
  show wpAny _ A ((compTurn (.ListComp elt [⟨target,iter,ifs,0⟩] scope pos) 0 it acc env).onRaise (fun x=>do noteFrame x env;theTreesLotGoes x)) _ _ s
  refine wpAny_noted ?_
  rw[compTurn_list]
  refine Qh (Sj (Qh (Rb (turn n s hI) (fun r s₁ h₁=>?_) fun _ _ h'=>h'.elim)))
  cases r with
  | none=>exact Qq h₁
  | some v =>
    refine Qh (Rb h₁ (fun _ s₁' h₁'=>?_) fun _ _ h'=>h'.elim)
    refine Qh (Rb h₁' (fun _ s₂ h₂=>Qh (Rb h₂ (fun ok s₃ h₃=>?_) fun _ _ h'=>h'.elim)) fun _ _ h'=>h'.elim)
    cases ok with
    | false=>exact Qq ⟨rfl,h₃⟩
    | true =>
      exact Qh (Qh (Rb h₃ (fun x s₄ h₄=>Qh (Rb h₄ (fun _ s₅ h₅=>Qq (Qq ⟨rfl,h₅⟩)) fun _ _ h'=>h'.elim)) fun _ _ h'=>h'.elim))
noncomputable def nh(X:Cx)(ρ:ah)(tg:Expr)(ifs:List Expr)(elt:Expr)(k:Nat)(d:D)(r:Option D):Prop :=
 ∃ρ' b,GD X ρ tg d ρ'/\(∀x y,ρ x=some y->ρ' x=some y)/\AM X ρ' ifs b/\match r with|some d'=>b=true/\ED X ρ' elt d' k|none=>b=false
theorem eB(o:cM ow H){a:Addr}:∀{k:Nat},k<=1->Kp ow H k a true->ow a=none
 | 0,_,p=>o.free p.2
 | 1,_,p=>p rfl
 | _+2,h,_=>absurd h (by omega)
theorem Fs{H9:Hp}{D:Addr}{x:HO}(sm:ar H H9)(hD:H9 D=some x){a:Addr}:∀{k:Nat},k<=1->Kp (fun a=>if a=D then some none else ow a) H9 k a b->Kp ow H k a b/\(b=true->a≠D)
 | 0,_,p=>⟨⟨p.1,sm.free p.2⟩,fun _ z=>by subst z;have:=p.2;rw[hD]at this;cases this⟩
 | 1,_,p=>by
  have p:b=true->(if a=D then some none else ow a)=none:=p
  refine⟨fun hb=>?_,fun hb hz=>?_⟩
  ·have p:=p hb
   by_cases hz:a=D
   ·rw[if_pos hz]at p;cases p
   ·rw[if_neg hz]at p;exact p
  ·have p:=p hb
   rw[if_pos hz]at p;cases p
 | _+2,h,_=>absurd h (by omega)
theorem zt{D:Addr}(o:cM ow H)(hD:H D=none):∀{k:Nat},k<=1->Kp ow H k D true
 | 0,_=>⟨rfl,hD⟩
 | 1,_=>fun _=>o.free hD
 | _+2,h=>absurd h (by omega)
theorem o9:∀{l:List D} {i:Nat} {d:D},au l=true->l[i]?=some d->d.lless=true
 | [],_,_,_,h=>by simp at h
 | x::l,0,d,f,h=>by
  rw[au,Qx]at f
  simp at h;subst h;exact f.1
 | x::l,i+1,d,f,h=>by
  rw[au,Qx]at f
  exact o9 (i:=i) f.2 (by simpa using h)
structure nk(X:Cx)(pins:List (Addr×Obj))(σ:L2.St)(H5:Hp)(s6:Shared)(C:Addr)(m6:Str->Option Value):Prop where
 inv:ak X pins σ H5 s6
 ns:s6.heap.Ns C m6
 free:H5 C=none
 loc:C≠X.env.locals
 old:X.s₀.heap.objs.size<=C
 cell:∀x c,X.env.cells.lookup x=some c->c≠C
 pin:∀p∈X.pn++pins,p.1≠C
 fs:C∉X.fs
theorem qS{use:Option (Value->Sem Unit)}{Q':Value->Shared->Prop}{pos2:Pos}{f:D->Option D}
  (hcalm:X.calm=true) (hN:X.N.Nodup) (hk:au ds=true\/k<=1) (hko:ko<=1) (hlen:ds.length<sizeLine) (S:gI X.env scope N') (hsub:∀x d o,flt scope ρ x=some (d,o)->x∈N')
  (hi:IE X ρ tg iter ds k)
  (turn:∀cl C s H fp,∀d∈ds,nh (lu X scope cl C N' s H fp) (flt scope ρ) tg ifs elt ko d (f d))
  (hs:∀x,foldedSetIterable iter X.env x=pure x) (I:ak X pins σ H s) (E:aC X ow H σ ρ)
  (fin:∀D C s6 H5 m6,nk X pins σ H5 s6 C m6->ar H H5->ai X.K H5 (Kp ow H ko) (.lst (ds.filterMap f)) (.ref D)->compPost (model X.prog X.w) X.A X.xe use Q' (.ref D) C (.ok .next) s6) :
  wpAny (model X.prog X.w) X.A (comprehension (.ListComp elt [⟨tg,iter,ifs,0⟩] scope pos) scope X.env pos2 (newList []) false (eval iter X.env) use) Q' X.xe s:=by
 obtain⟨cl,hclos,h1,h2⟩:=uT (env:=X.env) (scope:=scope) fun n hn=>I.ok.has n (S.fr n hn)
 refine wpAny_comprehension_free rfl hs hclos S.kind S.names ?_
 refine aN (hi ow pins s σ H (fun J H1=>ar H H1/\Mf X.K J ds (Kd ow H k H1) H1) I ⟨E,fun J H1 a b=>⟨a,b⟩⟩) fun v s1 h1'=>aN h1' fun itv s2 h2'=>?_
 obtain⟨it,fp,tn,J,H2,rfl,I2,T,st2,f2,s12,itd⟩:=h2'
 have hD2:H2 s2.heap.objs.size=none:=I2.hok.fresh (Ql _)
 refine wpAny_newObj_type (yd (fun x c hc=>(I2.cell x c (h1 x c hc).1).imp fun v q=>q.keeps fun b o e=>Qk _ e) fun h₁ hns₁ kp0 k60=>?_)
 have I3:ak X pins σ (az H2 s2.heap.objs.size (.lst [])) { s2 with heap:=s2.heap.push { cls:=.type "list", dict:=none,data:=.seq ([]:List Value).toArray } } :=
  I2.laid (t':=s2.toks) (fun b u e=>Qk _ e) (Ql _) ⟨QC _,[],0,.nil,QG _ rfl⟩
 generalize hD:s2.heap.objs.size=D at *
 generalize hs3:({ s2 with heap:=s2.heap.push { cls:=.type "list", dict:=none,data:=.seq ([]:List Value).toArray } }:Shared)=s3 at *
 have hsz3:s3.heap.objs.size=D+1:=by rw[<- hs3];show(s2.heap.push _).objs.size=_;rw[Sn,hD]
 have f3:∀b∈fp,jb X pins (az H2 D (.lst [])) b:=fun b hb=>by
  obtain⟨g0,g⟩:=f2 b hb
  obtain⟨o,e,_⟩:=T.obj _ _ st2 b hb
  have hlt:=Qy e
  rw[hD]at hlt
  exact⟨by rw[aq (QS hlt)];exact g0,g⟩
 have fl3:∀b∈fp,b<s3.heap.objs.size:=fun b hb=>by
  obtain⟨o,e,_⟩:=T.obj _ _ st2 b hb
  have hlt:=Qy e
  rw[hD]at hlt
  rw[hsz3];exact Nat.lt_succ_of_lt hlt
 have kp:∀b o,s3.heap.get? b=some o->h₁.get? b=some o:=kp0
 have kc:nq X scope (cellsFrom (s3.heap.objs.size+1) scope.names cl) s3.heap.objs.size:=B6 I3 S h1 h2
 generalize hcl':cellsFrom (s3.heap.objs.size+1) scope.names cl=cl' at *
 have I4:=IC (s1:={ s3 with heap:=h₁,toks:=s3.toks+0 }) (N':=N') I3 S kc k60 f3 fl3 ⟨_,_,rfl⟩ hns₁ kp
 have sH2:∀vs,ar H2 (az H2 D (.lst vs)):=fun vs b o e=>by rw[aq (aU e hD2)];exact e
 let ow':Ow:=fun a=>if a=D then some none else ow a
 have ow'D:ow' D=some none:=if_pos rfl
 have ow'n:∀a,a≠D->ow' a=ow a:=fun a h=>if_neg h
 have own':∀{H':Hp} (vs:List V),H' D=some (.lst vs)->ar H2 H'->cM ow' H':=fun {H'} vs hd sm a ha=>by
  by_cases hz:a=D
  ·subst hz;exact⟨_,hd⟩
  ·rw[ow'n a hz]at ha
   obtain⟨o,e⟩:=(E.same s12).own a ha
   exact⟨o,sm a o e⟩
 have E4:aC (lu X scope cl' s3.heap.objs.size N' s3 (az H2 D (.lst [])) fp) ow' (az H2 D (.lst [])) (nY X scope N' σ) (flt scope ρ):=by
  have E3:=Je (scope:=scope) (cl:=cl') (C:=s3.heap.objs.size) (N':=N') (s:=s3) (fp:=fp) (H0:=az H2 D (.lst [])) (E.same s12) hN hsub
  refine⟨fun x d o h=>?_,own' [] aB (sH2 [])⟩
  obtain⟨i,v,e1,e2,e3,e4⟩:=E3.get x d o h
  refine⟨i,v,e1,e2,e3,ai.same (sH2 []) (e4.impH (fun a ob ha p=>?_) fun a p=>?_)⟩
  ·have hz:a≠D:=aU ha hD2
   cases o with
   | true=>exact⟨p.1,(ow'n a hz).trans p.2⟩
   | false=>exact fun _=>(ow'n a hz).trans (p rfl)
  ·cases o with
   | true=>cases p.1
   | false=>exact fun z=>(by cases z)
 generalize hX':lu X scope cl' s3.heap.objs.size N' s3 (az H2 D (.lst [])) fp=X' at *
 have turn':∀d∈ds,nh X' (flt scope ρ) tg ifs elt ko d (f d):=fun d hd=>by rw[<- hX'];exact turn _ _ _ _ _ d hd
 have eK:X'.K=X.K:=by rw[<- hX']
 have eP:X'.prog=X.prog:=by rw[<- hX']
 have eW:X'.w=X.w:=by rw[<- hX']
 have eA:X'.A=X.A:=by rw[<- hX']
 have eE:X'.env=compEnvC scope cl' s3.heap.objs.size X.env:=by rw[<- hX']
 have eX:X'.xe=fun _ _=>False:=by rw[<- hX']
 have eC:X'.calm=true:=by rw[<- hX'];exact hcalm
 have stat:∀{H':Hp},(∀b∈fp,H' b=none)->∀b∈fp,jb X' [] H' b:=fun hn b hb=>by
  rw[<- hX']
  refine⟨hn b hb,?_,?_,.inl hb,fun x c h=>(kc.k1 x c h).elim (fun q=>(f3 b hb).2.2.2.2.1 x c q) (fun q z=>by subst z;exact absurd (Nat.lt_trans q.1 (fl3 _ hb)) (Rh _)),fun p hp=>absurd (show p∈([]:List (Addr×Obj))from hp) (by simp)⟩
  ·show b≠s3.heap.objs.size
   exact QS (fl3 b hb)
  ·intro z
   rcases Qo.mp (I3.stkSub b z)with q|q
   ·exact(f3 b hb).2.1 q
   ·exact(f3 b hb).2.2.1 q
 let Pe:aW:=fun a b=>Kp ow H ko a b/\(b=true->a≠D)
 have loop:codeAny (model X.prog X.w) X.A (.compLoop (.ListComp elt [⟨tg,iter,ifs,0⟩] scope pos) 0 (.ref it) (.ref D) (compEnvC scope cl' s3.heap.objs.size X.env)) (compPost (model X.prog X.w) X.A X.xe use Q' (.ref D) s3.heap.objs.size) { s3 with heap:=h₁,toks:=s3.toks+0 }:=by
  refine Ac (fun n s' => ∃(i:Nat) (σ':L2.St) (H':Hp) (vs:List V),ak X' [] σ' H' s'/\tn i s'.heap/\(∀b∈fp,H' b=none)/\aC X' ow' H' σ' (flt scope ρ)/\H' D=some (.lst vs)/\ar H2 H' /\
   aj X.K H' Pe ((ds.take i).filterMap f) vs/\i<=ds.length/\n=ds.length-i) ?_ ds.length
   ⟨0,nY X scope N' σ,az H2 D (.lst []),[],I4,?_,fun b hb=>(f3 b hb).1,E4,aB,sH2 [],?_,QC _,rfl⟩
  ·rintro n s5 ⟨i,σ5,H5,vs,I5,st5,fr5,E5,hD5,sm5,rp5,hi5,rfl⟩
   have stay:dE (Kd ow H k H2) (Kd ow H k H2) H2 H5:=.same sm5 fun _ _ p=>p
   have itd5:=itd i H5 stay
   by_cases hlt:i<ds.length
   ·obtain⟨go,yl⟩:=itd5.1 ds[i] (by simp[hlt])
    have Ti:=T.item X' eP eW eK eC i [] s5 σ5 H5 (fun _ _=>False) I5 (stat fr5) st5 go
    rw[eA]at Ti
    refine aN Ti fun r s6 ⟨u,hr,h6⟩=>?_
    subst hr
    refine aN h6 fun _ s7 ⟨x,H7,I7,r7,y7,st7,fr7⟩=>?_
    obtain⟨sm7,rx7⟩:=yl x H7 y7
    obtain⟨ρ',b,⟨g,hg,hgd⟩,hext,hts,hel⟩:=turn' ds[i] (List.getElem_mem hlt)
    have rx7':ai X'.K H7 (fun a b=>b=true->ow' a=none) ds[i] x:=by
     rw[eK]
     rcases hk with hk|hk
     ·exact rx7.flat _ (o9 hk (QE hlt))
     refine rx7.impH (fun a o ha p _=>?_) fun a _ z=>(by cases z)
     obtain⟨p,p2⟩:=p
     obtain⟨o2,ho2⟩:=p2 rfl
     show ow' a=none
     rw[ow'n a (aU ho2 hD2)]
     exact eB E.own hk p
    have E7:=E5.same sm7
    have I7':=I7.pinned (stat fr7) (T.obj _ _ st7)
    have hg':=hg _ s7 σ5 H7 x u (fun σ' H'=>aC X' ow' H' σ' ρ'/\H7=H') I7' r7 (hgd ow' x σ5 H7 _ I7.len E7 rx7' fun σ' _ e=>⟨e,rfl⟩)
    rw[eP,eW,eA,eE,eX]at hg'
    refine aN hg' fun _ s8 ⟨σ8,H8,I8,E8,eH8⟩=>?_
    subst eH8
    have ht':=hts ow' _ s8 σ8 H7 (fun c H'=>c=b/\ar H7 H') I8 ⟨E8,fun H' sm=>⟨rfl,sm⟩⟩
    rw[eP,eW,eA,eE,eX]at ht'
    refine aN ht' fun c s9 ⟨H9,I9,ec,sm9⟩=>?_
    subst ec
    have back:∀{H':Hp} {σ':L2.St} {s':Shared},ak X' ([]++kY fp s7.heap) σ' H' s'->ak X' [] σ' H' s'/\tn (i+1) s'.heap/\∀b∈fp,H' b=none:=fun {H' σ' s'} J7=>by
     refine⟨J7.unpinned,T.keep _ _ _ st7 fun b hb o e=>(J7.pin (b,o) (QO _ (QO _ (gR hb e)))).1,fun b hb=>?_⟩
     obtain⟨o,e,d⟩:=T.obj _ _ st7 b hb
     exact(J7.pin (b,o) (QO _ (QO _ (gR hb e)))).2.1
    have envf:∀{H':Hp} {σ':L2.St},aC X' ow' H' σ' ρ'->aC X' ow' H' σ' (flt scope ρ):=fun {H' σ'} e=>⟨fun x d o h=>e.get x d o (hext x _ h),e.own⟩
    have tk:(ds.take (i+1)).filterMap f=(ds.take i).filterMap f++(f ds[i]).toList:=by
     rw[List.take_add_one]
     simp only[QE hlt,Option.toList_some,List.filterMap_append]
     congr 1
    have sm59:ar H5 H9:=sm7.trans sm9
    cases hc:c with
    | false =>
     rw[if_neg QL]
     subst hc
     obtain⟨I9',st9,fr9⟩:=back I9
     have fn:f ds[i]=none:=by
      cases hf:f ds[i]with
      | none=>rfl
      | some d'=>rw[hf]at hel;cases hel.1
     refine⟨ds.length-(i+1),by omega,i+1,σ8,H9,vs,I9',st9,fr9,envf (E8.same sm9),sm59 _ _ hD5,sm5.trans sm59,?_,hlt,rfl⟩
     rw[tk,fn,Option.toList_none,QP]
     exact rp5.same sm59
    | true =>
     rw[if_pos rfl]
     subst hc
     obtain⟨d',fs,hed⟩:∃d',f ds[i]=some d'/\ED X' ρ' elt d' ko:=by
      cases hf:f ds[i]with
      | none=>rw[hf]at hel;cases hel
      | some d'=>rw[hf]at hel;exact⟨d',rfl,hel.2⟩
     have he':=hed ow' _ s9 σ8 H9 (fun v H'=>ar H9 H'/\ai X'.K H' (Kp ow' H9 ko) d' v) I9 ⟨E8.same sm9,fun v H' a r=>⟨a,r⟩⟩
     rw[eP,eW,eA,eE,eX]at he'
     refine aN he' fun y s10 ⟨v10,H10,I10,r10,sm10,rp10⟩=>?_
     have sm510:=sm59.trans sm10
     have hD10:=sm510 _ _ hD5
     have hlv:vs.length<sizeLine:=by
      rw[<- rp5.length]
      refine Rg (List.length_filterMap_le _ _) ?_
      rw[QR];omega
     have ha':=iP (X:=X') _ s10 σ8 H10 (.ref D) [v10] (.ref D) [y] (fun w H'=>az H10 D (.lst (vs++[v10]))=H') I10 rfl (.cons r10 .nil) ⟨D,vs,v10,rfl,rfl,hD10,hlv,rfl⟩
     rw[eP,eW,eA,eX]at ha'
     refine aN ha' fun _ s11 ⟨w11,H11,I11,_,eH11⟩=>?_
     subst eH11
     obtain⟨I11',st11,fr11⟩:=back I11
     have s2D:∀a o,H2 a=some o->a≠D:=fun a o e=>aU e hD2
     have stD:dE Pe Pe H10 (az H10 D (.lst (vs++[v10]))):=⟨fun a o h hn=>by rw[aq (fun z=>by subst z;rw[hD10]at h;cases h;exact hn)];exact h,fun a ws h p=>by rw[aq (p.2 rfl)];exact h,fun _ _ _ p=>p,fun _ p=>p⟩
     refine⟨ds.length-(i+1),by omega,i+1,σ8,_,vs++[v10],I11',st11,fr11,?_,aB,?_,?_,hlt,rfl⟩
     ·have E10:=envf ((E8.same sm9).same sm10)
      refine⟨fun x d o h=>?_,own' _ aB (fun a o e=>by rw[aq (s2D a o e)];exact(sm5.trans sm510) a o e)⟩
      obtain⟨i',v',e1,e2,e3,e4⟩:=E10.get x d o h
      refine⟨i',v',e1,e2,e3,e4.mono ⟨fun a o h hn=>by rw[aq (fun z=>by subst z;rw[hD10]at h;cases h;exact hn)];exact h,fun a ws h p=>?_,fun _ _ _ p=>p,fun _ p=>p⟩⟩
      have hz:a≠D:=by
       intro z;subst z
       cases o with
       | true=>have:=p.2;rw[ow'D]at this;cases this
       | false=>have:ow' a=none:=p rfl;rw[ow'D]at this;cases this
      rw[aq hz];exact h
     ·intro a o e
      rw[aq (s2D a o e)]
      exact(sm5.trans sm510) a o e
     ·rw[tk,fs,Option.toList_some]
      refine((rp5.same sm510).mono stD).append (aj.one (ai.mono stD ?_))
      rw[eK]at rp10
      have sH9:ar H H9:=s12.trans (sm5.trans sm59)
      exact rp10.imp fun a b p=>Fs sH9 (sm59 _ _ hD5) hko p
   ·have hstop:=itd5.2 (by omega)
    have Td:=T.done X' eP eW eK eC i [] s5 σ5 H5 (fun _ _=>False) I5 (stat fr5) st5 hstop
    rw[eA]at Td
    refine aN Td fun r s6 ⟨hr,I6⟩=>?_
    subst hr
    have ei:i=ds.length:=by omega
    subst ei
    rw[SI]at rp5
    have hC:X'.env.locals=s3.heap.objs.size:=by rw[eE];rfl
    obtain⟨m6,hn6,_⟩:=I6.loc
    rw[hC]at hn6
    have hfree:H5 s3.heap.objs.size=none:=by have:=I6.free;rw[hC]at this;exact this
    have IX:ak X pins σ H5 s6:=by
     have b6:=I6.base
     have o6:=I6.os
     have k6:=I6.hok
     have g6:=I6.bare
     rw[<- hX']at b6 o6 k6
     exact I3.call' o6 b6 k6 g6 fun b hb=>⟨(f3 b hb).2.2.2.1,(f3 b hb).2.1,(f3 b hb).2.2.2.2.1,(f3 b hb).2.2.2.2.2⟩
    have hHD:H D=none:=s12.free hD2
    refine fin D _ s6 H5 m6 ⟨IX,hn6,hfree,SC I3.lt,I3.sz,fun x c hc z=>?_,fun p hp z=>?_,I3.nofs (Ql _)⟩ (s12.trans sm5) ?_
    ·obtain⟨v,hv⟩:=I3.cell x c hc
     have:=hv.lt
     rw[z]at this;exact absurd this (Rh _)
    ·have:=Qy (I3.pin p hp).1
     rw[z]at this;exact absurd this (Rh _)
    ·rw[ai]
     exact⟨D,vs,true,rfl,hD5,zt E.own hHD hko,rp5.imp fun _ _ p=>p.1⟩
  ·exact T.keep 0 s2.heap h₁ st2 fun b hb o e=>kp b o (by rw[<- hs3];exact Qk _ e)
  ·exact aj.nil
 exact codeAny_compStart_list loop (T.self _ 0 _ _ _ (T.keep 0 s2.heap h₁ st2 fun b hb o e=>kp b o (by rw[<- hs3];exact Qk _ e)) loop)
theorem nk.done{H5:Hp}{s6:Shared}{C:Addr}{m6:Str->Option Value}(e:nk X pins σ H5 s6 C m6){h':Heap}(sb:Heap.SameBut C s6.heap h'):ak X pins σ H5 { s6 with heap:=h' } :=
 e.inv.turned (t':=s6.toks) (it:=C) (fun b o hb e=>sb.extBut b o hb e) e.free e.loc (.inr e.old) e.cell e.pin
theorem FP{f:D->Option D}
  (hcalm:X.calm=true) (hN:X.N.Nodup) (hk:au ds=true\/k<=1) (hko:ko<=1) (hlen:ds.length<sizeLine) (S:gI X.env scope N') (hsub:∀x d o,flt scope ρ x=some (d,o)->x∈N')
  (hi:IE X ρ tg iter ds k)
  (turn:∀cl C s H fp,∀d∈ds,nh (lu X scope cl C N' s H fp) (flt scope ρ) tg ifs elt ko d (f d))
  (hs:∀x,foldedSetIterable iter X.env x=pure x:=by intro _;rfl) :
  ED X ρ (.ListComp elt [⟨tg,iter,ifs,0⟩] scope pos) (.lst (ds.filterMap f)) ko:=by
 intro ow pins s σ H Q I ⟨E,q⟩
 rw[eval_ListComp]
 refine qS hcalm hN hk hko hlen S hsub hi turn hs I E fun D C s6 H5 m6 ce sm rp=>?_
 exact⟨m6,ce.ns,fun h' sb=>⟨.ref D,H5,ce.done sb,rfl,q (.ref D) H5 sm rp⟩⟩
theorem EC{D0:kh}{spos:Pos}{f:D->Option D}
  (hcalm:X.calm=true) (hN:X.N.Nodup) (hk:au ds=true\/k<=1) (hko:ko<=1) (hlen:ds.length<sizeLine) (S:gI X.env scope N') (hsub:∀x d o,flt scope ρ x=some (d,o)->x∈N')
  (hi:IE X ρ tg iter ds k)
  (turn:∀cl C s H fp,∀d∈ds,nh (lu X scope cl C N' s H fp) (flt scope ρ) tg ifs elt ko d (f d))
  (hs:∀x,foldedSetIterable iter X.env x=pure x) (I:ak X pins σ H s) (E:aC X ow H σ ρ)
  (hsw:swapsWith (.ListComp elt [⟨tg,iter,ifs,0⟩] scope pos) (some (.Name x px)) spos.line X.env=pure true)
  (hx:X.N[i]?=some x) (hl:wo X.env.scope x) (hf:X.fn x=true\/X.env.scope.names.lookup x=some .local)
  (q:∀v H',ar H H'->ai X.K H' (Kp ow H ko) (.lst (ds.filterMap f)) v->D0.nx (σ.set i (some v)) H') :
  wpAny (model X.prog X.w) X.A (exec (.Assign [.Name x px] (.ListComp elt [⟨tg,iter,ifs,0⟩] scope pos) spos) X.env) (SP X pins D0) X.xe s:=by
 rw[exec_Assign_Name_used _ _ _ _ hsw]
 refine Qh (Sj (Qh ?_))
 show wpAny _ X.A (do let _ <- comprehension (.ListComp elt [⟨tg,iter,ifs,0⟩] scope pos) scope X.env _ (newList []) false (eval iter X.env) (some (assign (.Name x px) X.env))) _ _ s
 refine Qh (Rb (qS (use:=some (assign (.Name x px) X.env)) (Q':=fun _ s'=>SP X pins D0 .next s') hcalm hN hk hko hlen S hsub hi turn hs I E fun D C s6 H5 m6 ce sm rp=>?_) (fun _ s' hq=>Qq (Qq hq)) fun _ _ e=>e)
 obtain⟨o,es,ep,ho,hd,hrest⟩:=id ce.ns
 have Ip:ak X (pins++[(C,o)]) σ H5 s6:=ce.inv.pins_of fun p hp=>by
  rcases QN.mp hp with z|z
  ·exact ce.inv.pin p (QO _ z)
  ·have e:p=(C,o):=by simpa using z
   subst e
   exact⟨ho,ce.free,ce.loc,ce.fs,fun v z=>by rw[hd]at z;cases z⟩
 show wpAny _ X.A (assign (.Name x px) X.env (.ref D)) _ _ _
 refine aN (g7 (i:=i) hN hx hl hf (pins++[(C,o)]) s6 σ H5 (.ref D) (.ref D) (fun σ' H'=>σ.set i (some (.ref D))=σ'/\H5=H') Ip rfl ⟨rfl,rfl⟩) fun _ s7 ⟨σ7,H7,I7,e1,e2⟩=>?_
 subst e1 e2
 have pC:=(I7.pin (C,o) (QO _ (QO _ (by simp)))).1
 refine⟨m6,⟨o,es,ep,pC,hd,hrest⟩,fun h' sb=>?_⟩
 have ce':nk X pins (σ.set i (some (.ref D))) H5 s7 C m6:=⟨I7.unpinned,⟨o,es,ep,pC,hd,hrest⟩,ce.free,ce.loc,ce.old,ce.cell,ce.pin,ce.fs⟩
 exact⟨_,H5,ce'.done sb,q (.ref D) H5 sm rp⟩
mutual
noncomputable def D.py:D->PyData
 | .non=>.none
 | .bl b=>.bool b
 | .int i=>.int i
 | .str x=>.str x
 | .dct _ _=>.dict []
 | .typ _=>.dict []
 | .dcf _ _=>.dict []
 | .sn _=>.dict []
 | .obj _ _ _=>.dict []
 | .cls _=>.dict []
 | .xc _ _=>.dict []
 | .tup l=>.tuple (fg l)
 | .lst l=>.list (fg l)
noncomputable def fg:List D->List PyData
 | []=>[]
 | d::l=>d.py::fg l
end
inductive Rs(α:Type) where
 | ok (a:α) (l:List Prop)
 | st
noncomputable def aG:List Prop->Prop
 | []=>True
 | p::l=>p/\aG l
noncomputable def Rs.bnd{α β:Type}(r:Rs α)(f:α->Rs β):Rs β :=
 match r with
 | .st=>.st
 | .ok a l=>match f a with
  | .st=>.st
  | .ok b m=>.ok b (l++m)
noncomputable def Qa{α:Type}:Option α->Rs α
 | some a=>.ok a []
 | none=>.st
noncomputable def gd(b:Bool):List Prop->List Prop
 | []=>[]
 | m=>[b=true->aG m]
noncomputable abbrev R1:=Rs (D×Nat)
noncomputable def mk(d:D)(k:Nat):R1:=.ok (d,kn d k) []
structure Fx where
 fn:Str->Option (List D->Rs D)
 con:Str->Option D
 blt:Str->Option (List D->R1)
 itr:Str->Option (List D->Nat->R1)
 mth:Str->Option (D->List D->R1)
 mtt:Str->Option (List D->List D->Nat->Rs (List D))
 slf:D->Option Int->Option Int->R1:=fun _ _ _=>.st
 fld:Str->Str->Bool:=fun _ _=>false
 omt:Str->Str->Option (List D->Rs D):=fun _ _=>none
noncomputable def Do:Const->Option D
 | .none=>some .non
 | .bool b=>some (.bl b)
 | .int i=>some (.int i)
 | .str x=>some (.str x)
 | _=>none
noncomputable def gF:Nat:=2 ^ 9000
noncomputable def bf(a b:Int):Prop:=a.natAbs<2 ^ 64\/b.natAbs<2 ^ 64\/(a.natAbs<gF/\b.natAbs<gF)\/(Builtin.Int.intBits a<=2 ^ 22/\Builtin.Int.intBits b<=2 ^ 22)
noncomputable def rG(b:Int):Prop:=b≠0/\b.natAbs<gF
noncomputable def wS(a b:Int):Prop:=0<=b/\b<=1000/\a.natAbs<2 ^ 64
noncomputable def bc:Nat:=40000
noncomputable def B8(op:Operator)(a b:Int):R1 :=
 match op with
 | .Add=>.ok (.int (a+b),0) []
 | .Sub=>.ok (.int (a-b),0) []
 | .Mult=>.ok (.int (a*b),0) [bf a b]
 | .FloorDiv=>.ok (.int (a.fdiv b),0) [rG b]
 | .Mod=>.ok (.int (a.fmod b),0) [b≠0]
 | .Pow=>.ok (.int (a ^ b.toNat),0) [wS a b]
 | _=>.st
noncomputable def rD:Operator->Bool
 | .Add=>true
 | _=>false
noncomputable def uh(op:Operator)(x y:D)(k j:Nat):R1 :=
 match x,y with
 | .int a,.int b=>B8 op a b
 | .str a,.str b=>if rD op=true then .ok (.str (a++b),0) [a.length+b.length<=bc]else .st
 | .tup a,.tup b=>if rD op=true then .ok (.tup (a++b),kn (.tup (a++b)) (kj k j)) [a.length+b.length<=bc]else .st
 | .lst a,.lst b=>if rD op=true then .ok (.lst (a++b),0) [au (a++b)=true,a.length+b.length<=bc]else .st
 | _,_=>.st
noncomputable def yf(op:UnaryOp)(x:D):Option D :=
 match op,x with
 | .USub,.int a=>some (.int (-a))
 | .Not,.bl b=>some (.bl (!b))
 | _,_=>none
noncomputable def iD(x y:D):Bool:=SeqAt.shaped x.py&&SeqAt.shaped y.py
noncomputable def fj(x y:D):Bool:=PyData.eqv x.py y.py
noncomputable def cz:List D->Option (List Int)
 | []=>some []
 | .int i::l=>(cz l).map (i :: ·)
 | _::_=>none
noncomputable def xh(x:D)(l:List D):Rs Bool:=.ok (l.any fun y=>fj y x) [iD (.tup l) x=true]
noncomputable def D.isNon:D->Bool
 | .non=>true
 | _=>false
noncomputable def iM:D->Option (List D)
 | .tup l=>some l
 | .lst l=>some l
 | _=>none
noncomputable def ge(op:CmpOp)(a b:Int):Option Bool :=
 match op with
 | .Lt=>some (decide (a<b))
 | .LtE=>some (decide (a<=b))
 | .Gt=>some (decide (b<a))
 | .GtE=>some (decide (b<=a))
 | _=>none
noncomputable def wU(op:CmpOp)(x y:D):Option Bool :=
 match x,y with
 | .int a,.int b=>ge op a b
 | .tup a,.tup b=>(match op,cz a,cz b with | .Lt,some m,some n=>some (HT.lexLt m n)|_,_,_=>none)
 | _,_=>none
noncomputable def Rs.nt:Rs Bool->Rs Bool
 | .ok b l=>.ok (!b) l
 | .st=>.st
noncomputable def ol:D->Option aR
 | .int i=>some (.inl i)
 | .str x=>some (.inr x)
 | _=>none
noncomputable def lD(ks:List aR)(ds:List D)(k:aR):Option D:=((ks.zip ds).find? fun p=>decide (p.1=k)).map (·.2)
noncomputable def fC(ks:List aR)(k:aR):Bool:=ks.any fun j=>decide (j=k)
noncomputable def jZ(ks:List aR)(k:aR):List aR:=cond (fC ks k) ks (ks++[k])
noncomputable def d8{α:Type}(ks:List aR)(ds:List α)(k:aR)(d:α):List α:=cond (fC ks k) (List.zipWith (fun j e=>if j=k then d else e) ks ds) (ds++[d])
noncomputable def C9(x y:D):Rs Bool :=
 match y with
 | .tup l=>xh x l
 | .lst l=>xh x l
 | .dct ks _=>(match ol x with|some k=>.ok (fC ks k) []|none=>.st)
 | .str b=>(match x with | .str a=>.ok (Txt.contains b a) []|_=>.st)
 | _=>.st
noncomputable def iF(op:CmpOp)(x y:D):Rs Bool :=
 match op with
 | .Eq=>.ok (fj x y) [iD x y=true]
 | .NotEq=>.ok (!fj x y) [iD x y=true]
 | .In=>C9 x y
 | .NotIn=>(C9 x y).nt
 | .Is=>(match y with | .non=>.ok x.isNon []|_=>.st)
 | .IsNot=>(match y with | .non=>.ok (!x.isNon) []|_=>.st)
 | op=>Qa (wU op x y)
noncomputable def D.ty0:D->Option String
 | .non=>some "NoneType"
 | .bl _=>some "bool"
 | .int _=>some "int"
 | .str _=>some "str"
 | .dct _ _=>some "dict"
 | .tup _=>some "tuple"
 | .lst _=>some "list"
 | _=>none
noncomputable def IB(x:D)(T:String):Option Bool:=x.ty0.map fun a=>decide (a=T) || decide (a = "bool" /\ T = "int")
noncomputable def wz(x:Str):Option String :=
 if x = "int" then some "int" else if x = "bool" then some "bool" else if x = "str" then some "str" else if x = "tuple" then some "tuple" else if x = "list" then some "list" else if x = "ValueError" then some "ValueError" else none
noncomputable def iH:List Str:=["len", "tuple", "list", "abs", "all", "sum", "isinstance", "set", "int", "bool", "str", "range", "zip", "enumerate", "any", "sorted", "min", "max", "reversed", "ValueError"]
noncomputable def tz:Expr->Bool
 | .Tuple .. => true
 | _=>false
noncomputable def fF(e tg:Expr):Bool :=
 match e with
 | .Call (.Name f _) _ _ _=>if f = "enumerate" \/ f = "zip" then tz tg else true
 | _=>true
noncomputable def CF(x:Str):List D:=x.cps.toList.map fun c=>.str ⟨#[c]⟩
noncomputable def items:D->Option (List D)
 | .lst l=>some l
 | .tup l=>some l
 | .str x=>if (x.cps.all fun c=>decide (c<128))=true then some (CF x)else none
 | _=>none
noncomputable def aM(ρ:ah)(x:Str)(y:D×Bool):ah:=fun z=>if z=x then some y else ρ z
noncomputable def bX(sc:Scope)(x:Str):Bool:=sc.names.lookup x==some .local || sc.names.lookup x==some .cell
noncomputable def aQ(sc:Scope):List Expr->List D->ah->Option ah
 | [],[],ρ=>some ρ
 | .Name x _::es,d::ds,ρ=>if bX sc x=true then aQ sc es ds (aM ρ x (d,false))else none
 | _,_,_=>none
noncomputable def bE(sc:Scope)(tg:Expr)(d:D)(ρ:ah):Option ah :=
 match tg with
 | .Name x _=>if bX sc x=true then some (aM ρ x (d,false))else none
 | .Tuple es _ _=>(match d with | .tup ds=>aQ sc es ds ρ|_=>none)
 | _=>none
noncomputable def nM(sc scope:Scope):Bool :=
 decide (scope.kind=.function)&&scope.names.all (fun y=>decide (y.2 ≠ .local) || decide (scope.names.lookup y.1=some .local)) &&
 scope.names.all (fun y=>decide (y.2 ≠ .free) || bX sc y.1&&decide (sc.names.lookup y.1=some .cell) || decide (sc.names.lookup y.1=some .free))&&decide ((scope.names.map (·.1)).Nodup)
noncomputable def gr(step:D->Rs (Option (D×Nat))):List D->Rs (List D×Nat)
 | []=>.ok ([],0) []
 | d::l=>(step d).bnd fun r=>(gr step l).bnd fun q=>match r with
  | none=>.ok q []
  | some p=>.ok (p.1::q.1,kj p.2 q.2) []
noncomputable def tu(x:D)(i:Int)(k:Nat):R1 :=
 match iM x with
 | some l=>(match atI l i with|some d=>mk d k|none=>.st)
 | none=>.st
noncomputable def xw(p:D×Nat)(f:Int->R1):R1 :=
 match p.1 with
 | .int j=>f j
 | _=>.st
noncomputable def jM(p q:D×Nat):R1 :=
 match p.1 with
 | .dct ks ds=>(match ol q.1 with|some k=>(match lD ks ds k with|some d=>.ok (d,0) []|none=>.st)|none=>.st)
 | x=>xw q fun j=>tu x j p.2
noncomputable def B2(l:List D)(lo hi:Option Int):List D:=(l.drop (HT.sIx l.length 0 lo)).take (HT.sIx l.length l.length hi-HT.sIx l.length 0 lo)
noncomputable def dm(x:Str):Bool:=decide ((x==("__debug__" : Str))=false)&&decide ((x==("__classdict__" : Str))=false)
noncomputable def xP(b:Bool)(r:Rs Bool):Rs Bool :=
 match r with
 | .ok c m=>.ok (b&&c) (gd b m)
 | .st=>match b with|false=>.ok false []|true=>.st
noncomputable def CO(b:Bool)(r:Rs Bool):Rs Bool :=
 match r with
 | .ok c m=>.ok (b || c) (gd (!b) m)
 | .st=>match b with|true=>.ok true []|false=>.st
mutual
noncomputable def qh(b:Bool):D->D->D
 | .int x,.int y=>.int (cond b x y)
 | .bl x,.bl y=>.bl (cond b x y)
 | .tup x,.tup y=>if x.length=y.length then .tup (k9 b x y)else cond b (.tup x) (.tup y)
 | x,y=>cond b x y
noncomputable def k9(b:Bool):List D->List D->List D
 | x::l,y::m=>qh b x y::k9 b l m
 | l,m=>cond b l m
end
noncomputable def zy(t:Bool)(k j:Nat):Nat:=if k=j then k else cond t k j
noncomputable def Da(b:Bool)(r s:R1):R1 :=
 match r with
 | .st=>(match b with|true=>.st|false=>s)
 | .ok p m=>match s with
  | .st=>(match b with|true=>.ok p m|false=>.st)
  | .ok q n=>.ok (qh b p.1 q.1,zy b p.2 q.2) (gd b m++gd (!b) n)
noncomputable def mI(Φ:Fx)(x:Str)(sc:Scope)(ρ:ah):R1 :=
 if dm x=true then
  (if sc.names.lookup x=some .globalImplicit then(match Φ.con x with|some d=>.ok (d,0) []|none=>match wz x with|some T=>.ok (.typ T,0) []|none=>.st)
  else match ρ x with
   | some p=>mk p.1 (cond p.2 2 1)
   | none=>.st)
 else .st
noncomputable def j8(Φ:Fx)(f:Str)(it:Bool)(ds:List D)(k:Nat):R1 :=
 match Φ.fn f with
 | some F=>(F ds).bnd fun d=>.ok (d,0) []
 | none=>match (if it=true then Φ.itr f else none)with
  | some B=>B ds k
  | none=>match Φ.blt f with
   | some B=>B ds
   | none=>.st
noncomputable def lI{α:Type}(p:D×Nat)(f:Bool->Rs α):Rs α :=
 match p.1 with
 | .bl j=>f j
 | _=>.st
noncomputable def fldD(Φ:Fx)(x:D)(f:Str):R1 :=
 match x with
 | .obj n ns ds=>if Φ.fld n f=true then(match (ns.zip ds).lookup f with|some d=>.ok (d,0) []|none=>.st)else .st
 | .xc _ (some (_,[(g,i)]))=>if f=g then .ok (.int i,0) []else .st
 | _=>.st
noncomputable def uj:Expr->Bool
 | .Call (.Name _ _) [] [] _=>false
 | _=>true
noncomputable def BH(Φ:Fx)(a:Expr)(m:Str)(x:D)(ds:List D):R1 :=
 if uj a=true then(match Φ.mth m with|some M=>M x ds|none=>.st)else .st
noncomputable def JE(op op2:CmpOp)(x y z:D):R1 :=
 match x,y,z with
 | .int a,.int b,.int c=>(match ge op a b,ge op2 b c with|some r,some r2=>.ok (.bl (r&&r2),0) []|_,_=>.st)
 | _,_,_=>.st
mutual
noncomputable def ax(Φ:Fx):Expr->Bool->Scope->ah->R1
  | .Constant c _ _,_,_,_=>(match Do c with|some d=>.ok (d,0) []|none=>.st)
  | .Name x _,_,sc,ρ=>mI Φ x sc ρ
  | .BinOp a op b _,_,sc,ρ=>(ax Φ a false sc ρ).bnd fun p=>(ax Φ b false sc ρ).bnd fun q=>uh op p.1 q.1 p.2 q.2
  | .UnaryOp op a _,_,sc,ρ=>(ax Φ a false sc ρ).bnd fun p=>(match yf op p.1 with|some d=>.ok (d,0) []|none=>.st)
  | .BoolOp op es _,_,sc,ρ=>if es.isEmpty=true then .st else(dC Φ op es sc ρ).bnd fun b=>.ok (.bl b,0) []
  | .Compare a [op] [b] _,_,sc,ρ=>(ax Φ a false sc ρ).bnd fun p=>(ax Φ b false sc ρ).bnd fun q=>(iF op p.1 q.1).bnd fun r=>.ok (.bl r,0) []
  | .Compare a [op,op2] [b,c] _,_,sc,ρ=>(ax Φ a false sc ρ).bnd fun p=>(ax Φ b false sc ρ).bnd fun q=>(ax Φ c false sc ρ).bnd fun t=>JE op op2 p.1 q.1 t.1
  | .IfExp c a b _,_,sc,ρ=>(ax Φ c false sc ρ).bnd fun p=>lI p fun t=>Da t (ax Φ a false sc ρ) (ax Φ b false sc ρ)
  | .Tuple es _ _,_,sc,ρ=>(bj Φ es sc ρ).bnd fun p=>if p.1.length<=bc then mk (.tup p.1) p.2 else .st
  | .Dict [] [] _,_,_,_=>.ok (.dct [] [],0) []
  | .List es _,_,sc,ρ=>(bj Φ es sc ρ).bnd fun p=>if p.1.length<=bc/\p.2<=1 then .ok (.lst p.1,p.2) []else .st
  | .Subscript a i _,_,sc,ρ=>(ax Φ a false sc ρ).bnd fun p=>(ax Φ i false sc ρ).bnd fun q=>jM p q
  | .Call (.Name f _) args [] _,it,sc,ρ =>
    if sc.names.lookup f=some .globalImplicit then(bj Φ args sc ρ).bnd fun p=>j8 Φ f it p.1 p.2
    else .st
  | .Call (.Attribute a m ap) args [] cp,_,sc,ρ=>if (ap.endLine==cp.line)=true then(ax Φ a false sc ρ).bnd fun p=>(bj Φ args sc ρ).bnd fun q=>BH Φ a m p.1 q.1 else .st
  | .ListComp elt [⟨tg,iter,ifs,0⟩] scope _,_,sc,ρ =>
    if nM sc scope=true then(ax Φ iter true sc ρ).bnd fun p=>(match items p.1 with
      | some ds=>if fF iter tg=true then
          (Rs.ok () [ds.length<=bc,au ds=true\/p.2<=1]).bnd fun _=>(gr (fun d=>match bE scope tg d (flt scope ρ)with
            | none=>.st
            | some ρ'=>(dC Φ .And ifs scope ρ').bnd fun b=>cond b ((ax Φ elt false scope ρ').bnd fun r=>.ok (some r) []) (.ok none [])) ds).bnd fun q=>if q.2<=1 then .ok (.lst q.1,q.2) []else .st
        else .st
      | none=>.st)
    else .st
  | _,_,_,_=>.st
noncomputable def bj(Φ:Fx):List Expr->Scope->ah->Rs (List D×Nat)
 | [],_,_=>.ok ([],0) []
 | e::es,sc,ρ=>(ax Φ e false sc ρ).bnd fun p=>(bj Φ es sc ρ).bnd fun q=>.ok (p.1::q.1,kj p.2 q.2) []
noncomputable def dC(Φ:Fx):BoolOp->List Expr->Scope->ah->Rs Bool
 | .And,[],_,_=>.ok true []
 | .Or,[],_,_=>.ok false []
 | .And,e::es,sc,ρ=>(ax Φ e false sc ρ).bnd fun p=>lI p fun b=>xP b (dC Φ .And es sc ρ)
 | .Or,e::es,sc,ρ=>(ax Φ e false sc ρ).bnd fun p=>lI p fun b=>CO b (dC Φ .Or es sc ρ)
noncomputable def v9(Φ:Fx):Option Expr->Scope->ah->Rs (Option Int)
 | none,_,_=>.ok none []
 | some e,sc,ρ=>(ax Φ e false sc ρ).bnd fun p=>(match p.1 with | .int i=>.ok (some i) []|_=>.st)
end
theorem qu{Φ:Fx}{op:BoolOp}:ax Φ (.BoolOp op es p) it sc ρ=(if es.isEmpty=true then .st else(dC Φ op es sc ρ).bnd fun b=>.ok (.bl b,0) []):=rfl
theorem iC{Φ:Fx}{p:Pos}:ax Φ (.Call (.Name f p) args [] q) it sc ρ=(if sc.names.lookup f=some .globalImplicit then(bj Φ args sc ρ).bnd fun p=>j8 Φ f it p.1 p.2 else .st):=rfl
theorem tV{Φ:Fx}:ax Φ (.Call (.Attribute a m ap) args [] cp) it sc ρ=(if (ap.endLine==cp.line)=true then(ax Φ a false sc ρ).bnd fun p=>(bj Φ args sc ρ).bnd fun q=>BH Φ a m p.1 q.1 else .st):=rfl
theorem qt{Φ:Fx}{q:Pos}:ax Φ (.ListComp elt [⟨tg,iter,ifs,0⟩] scope q) it sc ρ=(if nM sc scope=true then(ax Φ iter true sc ρ).bnd fun p=>(match items p.1 with
      | some ds=>if fF iter tg=true then
          (Rs.ok () [ds.length<=bc,au ds=true\/p.2<=1]).bnd fun _=>(gr (fun d=>match bE scope tg d (flt scope ρ)with
            | none=>.st
            | some ρ'=>(dC Φ .And ifs scope ρ').bnd fun b=>cond b ((ax Φ elt false scope ρ').bnd fun r=>.ok (some r) []) (.ok none [])) ds).bnd fun q=>if q.2<=1 then .ok (.lst q.1,q.2) []else .st
        else .st
      | none=>.st)
    else .st):=rfl
variable{Φ:Fx}{F:List D->Rs D}{B:List D->R1}
inductive Fl where
 | nx (ρ:ah)|rt (d:D)|bk (ρ:ah)|ct (ρ:ah)
noncomputable def jx:Expr->Bool
 | .ListComp .. => true
 | .SetComp .. => true
 | .DictComp .. => true
 | _=>false
noncomputable def wM(l:List D)(i:Int)(d:D):Option (List D):=(ku l.length i).map fun j=>l.set j d
noncomputable def sO(f:ah->Rs Fl):Fl->Rs Fl
 | .nx ρ=>f ρ
 | .ct ρ=>f ρ
 | .bk ρ=>.ok (.nx ρ) []
 | .rt d=>.ok (.rt d) []
noncomputable def fe(bind:D->ah->Option ah)(body:ah->Rs Fl):List D->ah->Rs Fl
 | [],ρ=>.ok (.nx ρ) []
 | d::l,ρ=>match bind d ρ with
  | none=>.st
  | some ρ1=>(body ρ1).bnd (sO (fe bind body l))
noncomputable def qE(test:ah->Rs Bool)(body:ah->Rs Fl):Nat->ah->Rs Fl
 | 0,_=>.st
 | n+1,ρ=>(test ρ).bnd fun b=>cond b ((body ρ).bnd (sO (qE test body n))) (.ok (.nx ρ) [])
noncomputable def demX(x:Str)(ρ:ah):ah:=fun y=>if y=x then(ρ y).map fun p=>(p.1,false)else ρ y
noncomputable def demA(x:Str)(ρ:ah):ah:=fun y=>if y=x then(ρ y).map fun p=>(p.1,p.2&&p.1.lless)else ρ y
noncomputable def demL:List Expr->ah->ah
 | [],ρ=>ρ
 | .Name x _::es,ρ=>demL es (demA x ρ)
 | .Subscript (.Name x _) _ _::es,ρ=>demL es (demA x ρ)
 | _::es,ρ=>demL es ρ
noncomputable def demote(e:Expr)(ρ:ah):ah :=
 match e with
 | .Name x _=>demX x ρ
 | .Subscript (.Name x _) _ _=>demX x ρ
 | .Call _ args _ _=>demL args ρ
 | _=>ρ
noncomputable def p9(sc:Scope)(x:Str)(p:D×Nat)(ρ:ah):Rs Fl :=
 if bX sc x=true then
  match p.2 with
  | 0=>.ok (.nx (aM ρ x (p.1,true))) []
  | 1=>.ok (.nx (aM ρ x (p.1,false))) []
  | _=>.st
 else .st
noncomputable def qf(ρ:ah)(x:Str)(f:List D->Rs Fl):Rs Fl :=
 match ρ x with
 | some (.lst l,true)=>if dm x=true then f l else .st
 | _=>.st
noncomputable def o0(sc:Scope)(x y:Str)(px py:Pos)(a b:Expr):Bool :=
 sc.names.lookup x==some .local&&sc.names.lookup y==some .local&&(px.line==py.line) && !decide (x=y) && !([a,b].all (foldedForSure 8)) && !([a,b].all (constantsAlone 8))
noncomputable def rF(Φ:Fx)(es:List Expr)(e:Expr)(sc:Scope)(ρ:ah):Rs Fl :=
  match es,e with
  | [.Name x px,.Name y py],.Tuple [a,b] _ _=>if o0 sc x y px py a b=true then(bj Φ [a,b] sc ρ).bnd fun p=>(match p.1 with
      | [u,v]=>if au [u,v]=true\/p.2<=1 then .ok (.nx (aM (aM ρ x (u,false)) y (v,false))) []else .st
      | _=>.st)else .st
  | _,_=>.st
noncomputable def ud(sc:Scope)(es:List Expr)(e:Expr):Bool :=
 match es,e with
 | [.Name x _,.Name _ _],.Tuple [_,_] _ _=>sc.names.lookup x==some .cell
 | _,_=>false
noncomputable def yr(sc:Scope)(es:List Expr)(e:Expr):Bool:=tz e && !ud sc es e
noncomputable def Bv(sc:Scope)(es:List Expr)(p:D×Nat):Bool :=
 match es,p.1,p.2 with
 | [.Name x _,.Name y _],.tup [d1,d2],0=>d1.lless && !d2.lless && !decide (x=y)&&bX sc x&&bX sc y
 | _,_,_=>false
noncomputable def Bm(es:List Expr)(p:D×Nat)(ρ:ah):ah :=
 match es,p.1 with
 | [.Name x _,.Name y _],.tup [d1,d2]=>aM (aM ρ y (d2,true)) x (d1,false)
 | _,_=>ρ
noncomputable def Mu(_:Expr):Bool:=true
noncomputable def rY(ρ:ah)(x:Str)(i d:D):Rs Fl :=
 match ρ x with
 | some (.lst l,true)=>(match i with | .int j=>if dm x=true then(match wM l j d with|some l'=>.ok (.nx (aM ρ x (.lst l',true))) [au l=true,d.lless=true]|none=>.st)else .st|_=>.st)
 | some (.dct ks ds,true)=>(match ol i with|some k=>if dm x=true then .ok (.nx (aM ρ x (.dct (jZ ks k) (d8 ks ds k d),true))) [d.lless=true,ks.length<bc]else .st|none=>.st)
 | _=>.st
noncomputable def pB(Φ:Fx)(tgs:List Expr)(e:Expr)(sc:Scope)(ρ:ah):Rs Fl :=
  match tgs with
  | [.Name x _]=>(ax Φ e false sc ρ).bnd fun p=>p9 sc x p ρ
  | [.Tuple es _ _]=>if yr sc es e=true then rF Φ es e sc ρ else(ax Φ e false sc ρ).bnd fun p=>if Bv sc es p=true then .ok (.nx (Bm es p ρ)) []else(match iM p.1 with
      | some ds=>if au ds=true\/p.2<=1 then(match aQ sc es ds ρ with|some ρ'=>.ok (.nx ρ') []|none=>.st)else .st
      | none=>.st)
  | [.Subscript (.Name x _) i _]=>if Mu e=true then(ax Φ e false sc ρ).bnd fun p=>(ax Φ i false sc ρ).bnd fun q=>rY ρ x q.1 p.1
    else .st
  | _=>.st
noncomputable def Pn(op:Operator)(a b:Int):R1 :=
 match op with
 | .Add=>.ok (.int (a+b),0) []
 | .Sub=>.ok (.int (a-b),0) []
 | .Mult=>.ok (.int (a*b),0) [bf a b]
 | .FloorDiv=>.ok (.int (a.fdiv b),0) [rG b]
 | _=>.st
noncomputable def exAug(Φ:Fx)(t:Expr)(op:Operator)(e:Expr)(sc:Scope)(ρ:ah):Rs Fl :=
  match t with
  | .Name x _=>if bX sc x=true then(match ρ x with
      | some p=>xw (p.1,0) (fun a=>(ax Φ e false sc ρ).bnd fun q=>xw q fun b=>Pn op a b) |>.bnd fun r=>.ok (.nx (aM ρ x (r.1,true))) []
      | none=>.st)else .st
  | _=>.st
noncomputable def pA(Φ:Fx)(e:Expr)(sc:Scope)(ρ:ah):Rs Fl :=
  match e with
  | .Call (.Attribute (.Name x _) m ap) args [] cp=>if (ap.endLine==cp.line)=true then(bj Φ args sc ρ).bnd fun p=>(match Φ.mtt m with
      | some M=>qf ρ x fun l=>(M l p.1 p.2).bnd fun l'=>.ok (.nx (aM ρ x (.lst l',true))) []
      | none=>.st)else .st
  | .Call (.Name f p) args ks cp=>(ax Φ (.Call (.Name f p) args ks cp) false sc ρ).bnd fun _=>.ok (.nx ρ) []
  | _=>.st
noncomputable def jF(ρ:ah):ah:=fun y=>(ρ y).map fun p=>(p.1,false)
noncomputable def CU:Expr->Bool
 | .ListComp elt _ _ _=>jx elt
 | _=>false
noncomputable def rB:Expr->Bool
 | .Tuple es _ _=>es.any CU
 | e=>CU e
noncomputable def sv(e:Expr)(ρ:ah):ah:=cond (rB e) (jF ρ) ρ
noncomputable def wN(p:D×Nat):Rs Fl:=if p.2=0\/p.2=2 then .ok (.rt p.1) []else .st
mutual
noncomputable def fi(Φ:Fx):Stmt->Scope->ah->Rs Fl
  | .Return (some e) _,sc,ρ=>(ax Φ e false sc (sv e ρ)).bnd wN
  | .Return none _,_,_=>.ok (.rt .non) []
  | .Pass _,_,ρ=>.ok (.nx ρ) []
  | .Break _,_,ρ=>.ok (.bk ρ) []
  | .Continue _,_,ρ=>.ok (.ct ρ) []
  | .Assign tgs e _,sc,ρ=>pB Φ tgs e sc ρ
  | .Expr e _,sc,ρ=>pA Φ e sc ρ
  | .If c a b _,sc,ρ=>(ax Φ c false sc ρ).bnd fun p=>lI p fun t=>cond t (aA Φ a sc ρ) (aA Φ b sc ρ)
  | .For tg it body els _,sc,ρ=>if els.isEmpty=true then(ax Φ it true sc (demote it ρ)).bnd fun p=>(match items p.1 with
      | some ds=>if p.2<=1/\fF it tg=true then fe (bE sc tg) (aA Φ body sc) ds (demote it ρ)else .st
      | none=>.st)
    else .st
  | .While c body els _,sc,ρ=>if els.isEmpty=true then qE (fun ρ=>(ax Φ c false sc ρ).bnd fun p=>lI p fun b=>.ok b []) (aA Φ body sc) bc ρ else .st
  | _,_,_=>.st
noncomputable def aA(Φ:Fx):List Stmt->Scope->ah->Rs Fl
 | [],_,ρ=>.ok (.nx ρ) []
 | s::ss,sc,ρ=>(fi Φ s sc ρ).bnd fun
  | .nx ρ'=>aA Φ ss sc ρ'
  | f=>.ok f []
end
theorem qr{it:Expr}:fi Φ (.For tg it body els q) sc ρ=(if els.isEmpty=true then(ax Φ it true sc (demote it ρ)).bnd fun p=>(match items p.1 with
      | some ds=>if p.2<=1/\fF it tg=true then fe (bE sc tg) (aA Φ body sc) ds (demote it ρ)else .st
      | none=>.st)
    else .st):=rfl
theorem zS{ρ:ah}:fi Φ (.While c body els q) sc ρ=(if els.isEmpty=true then qE (fun ρ=>(ax Φ c false sc ρ).bnd fun p=>lI p fun b=>.ok b []) (aA Φ body sc) bc ρ else .st):=rfl
noncomputable def d5:List Str->List D->ah
 | p::ps,d::ds=>fun z=>if z=p then some (d,false)else d5 ps ds z
 | _,_=>fun _=>none
noncomputable def du(Φ:Fx)(sc:Scope)(ps:List Str)(body:List Stmt)(ds:List D):Rs D :=
 if ds.length=ps.length then(aA Φ body sc (d5 ps ds)).bnd fun
  | .rt d=>.ok d []
  | .nx _=>.ok .non []
  | _=>.st
 else .st
noncomputable def xO(ds:List D):R1 :=
 match ds with
 | [.sn n]=>.ok (.int n,0) []
 | [x]=>(match iM x with|some l=>.ok (.int l.length,0) []|none=>.st)
 | _=>.st
noncomputable def mm:List String:=["int", "bool", "str", "tuple", "list", "dict"]
noncomputable def Cb(ds:List D):R1 :=
 match ds with
 | [.obj m _ _,.cls n]=>if m=n then .ok (.bl true,0) []else if m∈Jx then .ok (.bl (rV m n),0) []else .st
 | [x,.typ T]=>if T∈mm then(match IB x T with|some b=>.ok (.bl b,0) []|none=>.st)else .st
 | _=>.st
noncomputable def uk(ds:List D):R1 :=
 match ds with
 | [x]=>(match iM x with|some l=>.ok (.tup l,0) [au l=true]|none=>.st)
 | _=>.st
noncomputable def B9(ds:List D):R1 :=
 match ds with
 | [.lst l]=>(match cz l with|some ns=>.ok (.int ns.sum,0) []|none=>.st)
 | _=>.st
noncomputable def Cd(ds:List D):R1 :=
 match ds with
 | [.int i]=>.ok (.int i,0) []
 | [.bl b]=>.ok (.int (cond b 1 0),0) []
 | _=>.st
noncomputable def tF(ds:List D)(_:Nat):R1 :=
 match ds with
 | [.int j]=>.ok (.lst ((List.range j.toNat).map fun i=>.int (i:Nat)),0) [-4611686018427387904<=j,j<=bc]
 | [.int i,.int j]=>.ok (.lst ((List.range (j-i).toNat).map fun m=>.int (i+(m:Nat))),0) [-4611686018427387904<=i,i<=4611686018427387000,-4611686018427387904<=j,j-i<=800]
 | _=>.st
noncomputable def dy(_:D)(_ _:Option Int):R1:=.st
noncomputable def mK(l ds:List D)(k:Nat):Rs (List D) :=
 match ds with
 | [d]=>.ok (l++[d]) [d.lless=true\/k=0,l.length<bc]
 | _=>.st
noncomputable def qj(l ds:List D)(k:Nat):Rs (List D) :=
 match ds,k with
 | [.lst d],0=>.ok (l++d) [l.length+d.length<=bc]
 | _,_=>.st
noncomputable def Tb(l:List (Str×(List D->Rs D)))(c:List (Str×D))(b:List (Str×(List D->R1)))(i:List (Str×(List D->Nat->R1)))(m:List (Str×(D->List D->R1)))(t:List (Str×(List D->List D->Nat->Rs (List D))))(sf:D->Option Int->Option Int->R1):Fx :=
 { slf:=sf,fn:=fun g=>l.lookup g,con:=fun x=>c.lookup x,blt:=fun x=>b.lookup x,itr:=fun x=>i.lookup x,mth:=fun x=>m.lookup x,mtt:=fun x=>t.lookup x }
variable{fl:Fl}{bodyF:ah->Rs Fl}
variable{X:Cx}
theorem mH{k:Int}(h:k.natAbs<2 ^ n):Builtin.Int.intBits k<=n:=by
 unfold Builtin.Int.intBits
 split
 ·exact QC _
 ·rename_i h0
  have:k.natAbs.log2<n:=by
   rcases Nat.eq_zero_or_pos k.natAbs with h1|hp
   ·exact absurd (by simpa using h1) (by simpa using h0)
   ·exact(Nat.log2_lt (SC hp)).mpr h
  omega
theorem dj:∀{l m:List Prop},aG (l++m)↔aG l/\aG m
 | [],m=>by simp[aG]
 | p::l,m=>by
  show p/\aG (l++m)↔(p/\aG l)/\aG m
  rw[dj,and_assoc]
theorem aS{r:Rs α}{f:α->Rs β}{b:β}{l:List Prop}(h:r.bnd f=.ok b l)(hp:aG l):∃a l1 l2,r=.ok a l1/\aG l1/\f a=.ok b l2/\aG l2:=by
 unfold Rs.bnd at h
 split at h
 ·cases h
 ·rename_i a l1
  split at h
  ·cases h
  ·rename_i b' m e
   cases h
   obtain⟨h1,h2⟩:=dj.mp hp
   exact⟨a,l1,m,rfl,h1,e,h2⟩
theorem pz{m:List Prop}(h:aG (gd b m))(hb:b=true):aG m:=by
 cases m with
 | nil=>exact True.intro
 | cons p l=>exact h.1 hb
theorem Lh{a b:Int}(h:Builtin.Int.intBits a<=2 ^ 22)(g:Builtin.Int.intBits b<=2 ^ 22):IntMulOk a b:=by
 have h':Builtin.Int.intTooBig (Builtin.Int.intBits a+Builtin.Int.intBits b)=false:=by
  unfold Builtin.Int.intTooBig bitsLine;exact QD (by omega)
 unfold IntMulOk;rw[h'];simp
theorem BG{a b:Int}(h:bf a b):IntMulOk a b:=by
 rcases h with h|h|⟨h,g⟩|⟨h,g⟩
 ·exact .of_left (mH h)
 ·exact .of_right (mH h)
 ·exact IntMulOk.of_bits (QA (mH h) (by decide)) (QA (mH g) (by decide))
 ·exact Lh h g
theorem EU:cQ X (binaryOp .Mult) (rI (fun i j=>bf i j) fun i j=>.int (i*j)):=CP fun _ _ _ _ _ _ _ hc q=>mul_int q (BG hc)
theorem Bw:cQ X (binaryOp .FloorDiv) (rI (fun _ j=>j≠0/\j.natAbs<gF) fun i j=>.int (i.fdiv j)):=CP fun i j _ _ _ _ _ hc q=>floordiv_int hc.1 q (.inl (PyProof.noPylong_of_log2 (by
 rcases Nat.eq_zero_or_pos j.natAbs with h1|hp
 ·exact absurd (by simpa using h1) hc.1
 ·exact(Nat.log2_lt (SC hp)).mpr hc.2)))
mutual
theorem de{pins:List (Addr×Obj)}{σ:L2.St}{H:Hp}{s:Shared}(I:ak X pins σ H s){P:aW}:∀{d:D} {v:V} {u:Value},d.py.canLay0=true->ai X.K H P d v->aP v u->∃as,Reads s.heap u d.py as
 | .non,v,u,_,h,r=>by
  rw[ai]at h;subst h;cases (show u=Value.none from r);rw[D.py];exact⟨_,.none⟩
 | .bl b,v,u,_,h,r=>by rw[ai]at h;subst h;cases (show u=Value.bool b from r);rw[D.py];exact⟨_,.bool b⟩
 | .int i,v,u,_,h,r=>by rw[ai]at h;subst h;obtain⟨t,e⟩:=(show ∃t,u=Value.int i t from r);subst e;rw[D.py];exact⟨_,.int i t⟩
 | .str x,v,u,_,h,r=>by rw[ai]at h;subst h;obtain⟨t,e⟩:=(show ∃t,u=Value.str x t from r);subst e;rw[D.py];exact⟨_,.str x t⟩
 | .dct _ _,v,u,c,h,r=>by rw[D.py]at c;simp[PyData.canLay0]at c
 | .typ _,v,u,c,h,r=>by rw[D.py]at c;simp[PyData.canLay0]at c
 | .dcf _ _,v,u,c,h,r=>by rw[D.py]at c;simp[PyData.canLay0]at c
 | .sn _,v,u,c,h,r=>by rw[D.py]at c;simp[PyData.canLay0]at c
 | .obj _ _ _,v,u,c,h,r=>by rw[D.py]at c;simp[PyData.canLay0]at c
 | .cls _,v,u,c,h,r=>by rw[D.py]at c;simp[PyData.canLay0]at c
 | .xc _ _,v,u,c,h,r=>by rw[D.py]at c;simp[PyData.canLay0]at c
 | .tup l,v,u,c,h,r=>by
  rw[ai]at h
  obtain⟨a,vs,rfl,h,q⟩:=h
  cases (show u=Value.ref a from r)
  obtain⟨its,rv,ht,_⟩:=I.tuple h
  obtain⟨o,e1,e2,n,e3⟩:=ht
  rw[D.py]at c⊢
  obtain⟨as,ra⟩:=kX I (by simpa [PyData.canLay0]using c) q rv
  exact⟨as,.tuple e1 e2 e3 (by simpa using ra)⟩
 | .lst l,v,u,c,h,r=>by
  rw[ai]at h
  obtain⟨a,vs,b,rfl,h,_,q⟩:=h
  cases (show u=Value.ref a from r)
  have hs:bT X.K H a vs:=h.sq
  obtain⟨its,rv,ht,_⟩:=I.list hs
  obtain⟨o,n,e1,e2,_,e3⟩:=ht
  rw[D.py]at c⊢
  obtain⟨as,ra⟩:=kX I (by simpa [PyData.canLay0]using c) q rv
  exact⟨_,.list e1 e2 e3 (by simpa using ra)⟩
theorem kX{pins:List (Addr×Obj)}{σ:L2.St}{H:Hp}{s:Shared}(I:ak X pins σ H s){P:aW}:∀{l:List D} {vs:List V} {us:List Value},PyData.canLayAll0 (fg l)=true->aj X.K H P l vs->aD vs us->∃as,ReadsAll s.heap us (fg l) as
 | [],vs,us,_,h,r=>by rw[aj]at h;subst h;cases r;rw[fg];exact⟨_,.nil⟩
 | d::l,vs,us,c,h,r=>by
  rw[aj]at h
  obtain⟨v,vr,rfl,h1,h2⟩:=h
  cases r with
  | cons r1 r2 =>
   rw[fg,PyData.canLayAll0,Qx]at c
   obtain⟨as,ra⟩:=de I c.1 h1 r1
   obtain⟨bs,rb⟩:=kX I c.2 h2 r2
   rw[fg]
   exact⟨_,.cons ra rb⟩
end
noncomputable def Dz(X:Cx)(f:Value->Value->Sem Value)(x y z:D)(k j l:Nat):Prop :=
 ∃r:R2,cQ X f r/\∀ow H0 H2 v u (Q:VK),cM ow H0->ar H0 H2->ai X.K H2 (Kp ow H0 k) x v->ai X.K H2 (Kp ow H0 j) y u->(∀w H',ar H2 H'->ai X.K H' (Kp ow H0 l) z w->Q w H')->r v u H2 Q
theorem dH{p:Addr}{o:HO}(h:H p=none):ar H (az H p o):=fun b x e=>by rw[aq (aU e h)];exact e
theorem ai.kn{H0:Hp}(h:ai K H (Kp ow H0 k) d v):ai K H (Kp ow H0 (Sp.kn d k)) d v:=by
 unfold Sp.kn
 by_cases f:d.lless=true
 ·rw[if_pos f];exact h.flat _ f
 ·rw[if_neg f];exact h
theorem cq:bc<=sizeLine:=by rw[Sv];decide
theorem ld:bc<sizeLine:=by rw[Sv];decide
theorem mG{f:Value->Value->Sem Value}{a b:Int}{g:Int->Int->Int}{C:Int->Int->Prop}(h:cQ X f (rI C fun i j=>.int (g i j)))(hc:C a b):Dz X f (.int a) (.int b) (.int (g a b)) k j 0 :=
 ⟨_,h,fun ow H0 H2 v u Q o s rx ry q=>by
  rw[ai]at rx ry;subst rx ry
  exact⟨a,b,rfl,rfl,hc,q _ _ (ar.refl _) (by rw[ai])⟩⟩
theorem sL{f:Value->Value->Sem Value}{a b:Int}{g:Int->Int->Int}(h:cQ X f (nB fun i j=>.int (g i j))):Dz X f (.int a) (.int b) (.int (g a b)) k j 0 :=
 ⟨_,h,fun ow H0 H2 v u Q o s rx ry q=>by
  rw[ai]at rx ry;subst rx ry
  exact⟨a,b,rfl,rfl,q _ _ (ar.refl _) (by rw[ai])⟩⟩
theorem kq:∀{a b:List D},au (a++b)=(au a&&au b)
 | [],b=>by simp[au]
 | x::a,b=>by rw[List.cons_append,au,au,kq,Bool.and_assoc]
theorem F3{op:Operator}{a b:Int}{l:Nat}(h:B8 op a b=.ok (z,l) o)(hp:aG o):Dz X (binaryOp op) (.int a) (.int b) z k j l:=by
 unfold B8 at h
 split at h
 ·cases h;exact sL HJ
 ·cases h;exact sL HF
 ·cases h;exact mG EU hp.1
 ·cases h;exact mG Bw hp.1
 ·cases h;exact mG EV hp.1
 ·cases h
  have c:wS a b:=hp.1
  exact mG HG ⟨c.1,by have:=c.2.1;omega,c.2.2⟩
 ·cases h
theorem om{op:Operator}(h:rD op=true):op=.Add:=by cases op<;>first|rfl|cases h
theorem Bx:cQ X (binaryOp .Add) (fun x y H Q => ∃a b ys,x=.ref a/\y=.ref b/\ba X.K H a []/\ba X.K H b ys/\Q (.ref b) H):=by
 intro pins s σ H x y v u Q I rx ry h
 obtain⟨a,b,ys,rfl,rfl,ha,hb,q⟩:=h
 cases rx
 cases ry
 obtain⟨its,r1,p1,_⟩:=I.tuple ha
 obtain⟨its2,r2,p2,_⟩:=I.tuple hb
 cases r1
 obtain⟨⟨cls,dd,data,sl⟩,ho,hc,n,hd⟩:=id p1
 obtain⟨⟨cls2,dd2,data2,sl2⟩,ho2,hc2,n2,hd2⟩:=id p2
 simp only at hc hd hc2 hd2
 subst hc hd hc2 hd2
 exact concat_meets ⟨_,ho,rfl⟩ ⟨_,ho2,rfl⟩ noFill_tuple_add seq_tuple_add PySem.F.slot_tuple_add PySem.F.entry_tuple_add (PySem.F.args_tuple_add_2 _ _)
  (tuple_addW0 a b _ its2.toArray n n2 dd dd2 sl sl2 (by rfl)) ⟨ho,ho2,⟨.ref b,H,I,rfl,q⟩⟩
theorem EY:cQ X (binaryOp .Add) (fun x y H Q => ∃l b xs zs,x=.ref l/\y=.ref b/\bT X.K H l xs/\bT X.K H b zs/\xs.length+zs.length<=sizeLine/\∀p,H p=none->Q (.ref p) (az H p (.lst (xs++zs)))):=by
 intro pins s σ H x y v u Q I rx ry h
 obtain⟨l,b,xs,zs,rfl,rfl,hH,hB,hz,q⟩:=h
 cases rx
 cases ry
 obtain⟨its,r,⟨⟨cls,dd,data,sl⟩,n,ho,hc,_,hd⟩,z⟩:=I.list hH
 obtain⟨its2,r2,⟨⟨cls2,dd2,data2,sl2⟩,n2,ho2,hc2,_,hd2⟩,z2⟩:=I.list hB
 simp only at hc hd hc2 hd2
 subst hc hd hc2 hd2
 have l1:=r.length
 have l2:=r2.length
 refine concat_meets ⟨_,ho,rfl⟩ ⟨_,ho2,rfl⟩ noFill_list_add seq_list_add PySem.F.slot_list_add PySem.F.entry_list_add (PySem.F.args_list_add_2 _ _) (list_addW l b its.toArray its2.toArray n n2 dd dd2 sl sl2 (by rw[QI,QI];omega)) ⟨ho,ho2,?_⟩
 have ea:its.toArray++its2.toArray=(its++its2).toArray:=by simp
 rw[ea]
 exact⟨.ref _,_,I.lnew (t':=s.toks) (r.append r2) (by rw[Qr];omega),rfl,q _ I.fresh⟩
theorem Kc{op:Operator}{x:D}{l:Nat}(h:uh op x y k j=.ok (z,l) o)(hp:aG o):Dz X (binaryOp op) x y z k j l:=by
 unfold uh at h
 split at h
 ·exact F3 h hp
 ·rename_i a b
  split at h
  ·rename_i c;cases h
   cases om c
   refine⟨_,wW,fun ow H0 H2 v u Q o s rx ry q=>?_⟩
   rw[ai]at rx ry;subst rx ry
   exact⟨a,b,rfl,rfl,QA hp.1 cq,q _ _ (ar.refl _) (by rw[ai])⟩
  ·cases h
 ·rename_i a b
  split at h
  ·rename_i c
   cases om c
   cases h
   cases a with
   | nil =>
    refine⟨_,Bx,fun ow H0 H2 v u Q o s rx ry q=>?_⟩
    rw[ai]at rx ry
    obtain⟨pa,va,rfl,ha,ra⟩:=rx
    obtain⟨pb,vb,rfl,hb,rb⟩:=ry
    have rb':=rb.imp (Kp.joinR o k j)
    cases ra
    refine⟨pa,pb,vb,rfl,rfl,ha,hb,q _ _ (ar.refl _) (ai.kn ?_)⟩
    rw[ai]
    exact⟨pb,vb,rfl,hb,rb'⟩
   | cons a0 a =>
    refine⟨_,EW,fun ow H0 H2 v u Q o s rx ry q=>?_⟩
    rw[ai]at rx ry
    obtain⟨pa,va,rfl,ha,ra⟩:=rx
    obtain⟨pb,vb,rfl,hb,rb⟩:=ry
    have ra':=ra.imp (Kp.joinL o k j)
    have rb':=rb.imp (Kp.joinR o k j)
    have la:=ra.length
    have lb:=rb.length
    refine⟨pa,pb,va,vb,rfl,rfl,ha,hb,?_,?_,fun e=>?_,fun e p hp'=>?_⟩
    ·intro e;subst e;cases la
    ·rw[<- la,<- lb];exact QA hp.1 cq
    ·subst e
     have:b=[]:=RN.mp lb
     subst this
     refine q _ _ (ar.refl _) (ai.kn ?_)
     rw[ai]
     exact⟨pa,va,rfl,ha,by rw[QP];exact ra'⟩
    ·have sm:=dH (o:=HO.tup (va++vb)) hp'
     refine q _ _ sm (ai.kn ?_)
     rw[ai]
     exact⟨p,_,rfl,ba.of aB,(ra'.same sm).append (rb'.same sm)⟩
  ·cases h
 ·rename_i a b
  split at h
  ·rename_i c;cases h
   cases om c
   refine⟨_,EY,fun ow H0 H2 v u Q o s rx ry q=>?_⟩
   rw[ai]at rx ry
   obtain⟨pa,va,b1,rfl,ha,qa,ra⟩:=rx
   obtain⟨pb,vb,b2,rfl,hb,qb,rb⟩:=ry
   have la:=ra.length
   have lb:=rb.length
   have fl:=hp.1
   rw[kq,Qx]at fl
   refine⟨pa,pb,va,vb,rfl,rfl,ha.sq,hb.sq,by rw[<- la,<- lb];exact QA hp.2.1 cq,fun p hp'=>?_⟩
   have sm:=dH (o:=HO.lst (va++vb)) hp'
   refine q _ _ sm ?_
   rw[ai]
   exact⟨p,_,true,rfl,aB,⟨rfl,s.free hp'⟩,((ra.flat _ fl.1).same sm).append ((rb.flat _ fl.2).same sm)⟩
  ·cases h
 ·cases h
theorem BN{pins:List (Addr×Obj)}{σ:L2.St}{s:Shared}(h:ai X.K H P (.lst l) v):∃a vs,v=.ref a/\bT X.K H a vs/\aj X.K H P l vs:=by
 rw[ai]at h
 obtain⟨a,vs,b,rfl,h,_,q⟩:=h
 exact⟨a,vs,rfl,h.sq,q⟩
theorem gE:∀{l:List D} {ns:List Int},cz l=some ns->l=ns.map D.int
 | [],ns,h=>by rw[cz]at h;cases h;rfl
 | .int i::l,ns,h=>by
  rw[cz]at h
  cases e:cz l with
  | none=>rw[e]at h;cases h
  | some m=>rw[e]at h;cases h;rw[gE e];rfl
 | .non::l,ns,h=>by rw[cz]at h<;>first|cases h|(intro z;intro e;cases e)
 | .bl _::l,ns,h=>by rw[cz]at h<;>first|cases h|(intro z;intro e;cases e)
 | .str _::l,ns,h=>by rw[cz]at h<;>first|cases h|(intro z;intro e;cases e)
 | .dct _ _::l,ns,h=>by rw[cz]at h<;>first|cases h|(intro z;intro e;cases e)
 | .typ _::l,ns,h=>by cases h
 | .dcf _ _::l,ns,h=>by cases h
 | .sn _::l,ns,h=>by cases h
 | .obj _ _ _::l,ns,h=>by cases h
 | .cls _::l,ns,h=>by cases h
 | .xc _ _::l,ns,h=>by cases h
 | .tup _::l,ns,h=>by rw[cz]at h<;>first|cases h|(intro z;intro e;cases e)
 | .lst _::l,ns,h=>by rw[cz]at h<;>first|cases h|(intro z;intro e;cases e)
noncomputable def jd(X:Cx)(op:CmpOp)(x y:D)(r:Bool):Prop:=∀(P P':aW),cQ X (compareOp op) (fun v u H Q=>ai X.K H P x v/\ai X.K H P' y u/\Q (.bl r) H)
theorem lK{x:D}:∀{l:List D},((fg l).any fun y=>PyData.eqv y x.py)=l.any fun y=>fj y x
 | []=>by rw[fg];rfl
 | y::l=>by rw[fg,SQ,SQ,lK];rfl
theorem m7{a b:Int}{g:Int->Int->Bool}(h:cQ X (compareOp op) (nB fun i j=>.bl (g i j))):jd X op (.int a) (.int b) (g a b):=fun P P' pins s σ H v u xv yu Q I rx ry ⟨h1,h2,q⟩=>by
 rw[ai]at h1 h2;subst h1 h2
 exact h pins s σ H _ _ xv yu Q I rx ry ⟨a,b,rfl,rfl,q⟩
theorem Fo(h:SeqAt.shaped (D.tup l).py=true):PyData.canLayAll0 (fg l)=true:=by
 have:=RC h
 rw[D.py]at this
 simpa [PyData.canLay0]using this
theorem vL{x:D}(hu:X.A.units+70<cLine)(h:xh x l=.ok r o)(hp:aG o):jd X .In x (.tup l) r/\jd X .In x (.lst l) r/\jd X .NotIn x (.tup l) (!r)/\jd X .NotIn x (.lst l) (!r):=by
 unfold xh at h
 cases h
 ·have c:=hp.1
  unfold iD at c
  rw[Qx]at c
  have c1:=Fo c.1
  have c2:=RC c.2
  have dx:=SeqAt.depth_of_shaped c.2
  have hm:min (PyData.depthAll (fg l)) x.py.depth<=64:=QA (Nat.min_le_right _ _) dx
  have ct:(D.tup l).py.canLay0=true:=RC c.1
  have cl:(D.lst l).py.canLay0=true:=by rw[D.py];simpa [PyData.canLay0]using c1
  have et:(D.tup l).py=.tuple (fg l):=by rw[D.py]
  have el:(D.lst l).py=.list (fg l):=by rw[D.py]
  refine⟨?_,?_,?_,?_⟩<;>intro P P' pins s σ H v u xv yu Q I rx ry ⟨h1,h2,q⟩<;>obtain⟨as,r1⟩:=de I c2 h1 rx
  ·obtain⟨bs,r2⟩:=de I ct h2 ry
   rw[et]at r2
   exact SeqAt.in_tuple_reads r2 r1 c1 c2 (by omega) ⟨.bl _,H,I,rfl,by rw[lK];exact q⟩
  ·obtain⟨bs,r2⟩:=de I cl h2 ry
   rw[el]at r2
   exact SeqAt.in_list_reads r2 r1 c1 c2 (by omega) ⟨.bl _,H,I,rfl,by rw[lK];exact q⟩
  ·obtain⟨bs,r2⟩:=de I ct h2 ry
   rw[et]at r2
   exact SeqAt.notIn_tuple_reads r2 r1 c1 c2 (by omega) ⟨.bl _,H,I,rfl,by rw[lK];exact q⟩
  ·obtain⟨bs,r2⟩:=de I cl h2 ry
   rw[el]at r2
   exact SeqAt.notIn_list_reads r2 r1 c1 c2 (by omega) ⟨.bl _,H,I,rfl,by rw[lK];exact q⟩
theorem HN{r:Rs Bool}(h:r.nt=.ok b o):r=.ok (!b) o:=by
 cases r with
 | st=>cases h
 | ok c l=>cases h;simp
theorem vI{x:D}(h:ai X.K H P x v):decide (v=.non)=x.isNon:=by
 cases x with
 | non=>rw[ai]at h;subst h;rfl
 | bl _=>rw[ai]at h;subst h;rfl
 | int _=>rw[ai]at h;subst h;rfl
 | str _=>rw[ai]at h;subst h;rfl
 | dct _ _=>rw[ai]at h;obtain⟨_,_,a,_,rfl,_⟩:=h;rfl
 | typ _=>rw[ai]at h;subst h;rfl
 | dcf _ _=>rw[ai]at h;obtain⟨_,a,_,_,rfl,_⟩:=h;rfl
 | sn _=>rw[ai]at h;obtain⟨a,_,rfl,_⟩:=h;rfl
 | obj _ _ _=>rw[ai]at h;obtain⟨_,_,a,_,_,_,rfl,_⟩:=h;rfl
 | cls _=>rw[ai]at h;obtain⟨_,_,rfl,_⟩:=h;rfl
 | xc _ _=>rw[ai]at h;obtain⟨_,rfl⟩:=h.ref;rfl
 | tup _=>rw[ai]at h;obtain⟨a,_,rfl,_⟩:=h;rfl
 | lst _=>rw[ai]at h;obtain⟨a,_,_,rfl,_⟩:=h;rfl
theorem ij(h:iM d=some l):d=.tup l\/d=.lst l:=by
 unfold iM at h
 split at h
 ·cases h;exact .inl rfl
 ·cases h;exact .inr rfl
 ·cases h
theorem FS{a b:Int}(h:ge op a b=some r):jd X op (.int a) (.int b) r:=by
 unfold ge at h
 split at h
 ·cases h;exact m7 La
 ·cases h;exact m7 Lb
 ·cases h;exact m7 Lc
 ·cases h;exact m7 Ld
 ·cases h
theorem HE{x:D}(hu:X.A.units+70<cLine)(h:wU op x y=some r):jd X op x y r:=by
 unfold wU at h
 split at h
 ·exact FS h
 ·rename_i a b
  split at h
  ·rename_i m n e1 e2
   cases h
   have f1:=gE e1
   have f2:=gE e2
   subst f1 f2
   intro P P' pins s σ H v u xv yu Q I rx ry ⟨h1,h2,q⟩
   rw[ai]at h1 h2
   obtain⟨pa,va,rfl,ha,ra⟩:=h1
   obtain⟨pb,vb,rfl,hb,rb⟩:=h2
   exact HH (by omega) pins s σ H _ _ xv yu Q I rx ry ⟨pa,pb,m,n,rfl,rfl,by rw[<- ra.mapInt];exact ha,by rw[<- rb.mapInt];exact hb,q⟩
  ·cases h
 ·cases h
theorem oj{k:aR}(e:ol d=some k)(h:ai X.K H P d v):v=kV k:=by
 cases d<;>first|(cases e;done)|(rw[ai]at h;subst h;injection e with e;subst e;rfl)
theorem vd{k:aR}:∀{vs:List V},ks.length=vs.length->((ks.zip vs).any fun p=>decide (p.1=k))=fC ks k:=by
 induction ks with
 | nil=>intro vs _;rfl
 | cons j ks ih =>
  intro vs h
  cases vs with
  | nil=>cases h
  | cons v vs =>
   show(decide (j=k) || (ks.zip vs).any _)=(decide (j=k) || fC ks k)
   rw[ih (by simpa using h)]
theorem C8{x:D}(hu:X.A.units+70<cLine)(h:C9 x y=.ok r o)(hp:aG o):jd X .In x y r/\jd X .NotIn x y (!r):=by
 unfold C9 at h
 split at h
 ·have m:=vL hu h hp;exact⟨m.1,m.2.2.1⟩
 ·have m:=vL hu h hp;exact⟨m.2.1,m.2.2.2⟩
 ·rename_i ks ds
  split at h
  ·rename_i k e
   cases h
   have key:∀{P P':aW} {pins:List (Addr×Obj)} {s:Shared} {σ:L2.St} {H:Hp} {v u:V} {xv yu:Value},ak X pins σ H s->aP v xv->aP u yu->ai X.K H P x v->ai X.K H P' (.dct ks ds) u->∃a vs,yu=.ref a/\(b7 X.prog X.w).is k xv=true/\(a==sysModules)=false/\s.heap.DictOf (b7 X.prog X.w) a vs/\(valueAt vs k).isSome=fC ks k:=fun {P P' pins s σ H v u xv yu} I rx ry h1 h2=>by
    have hk:=oj e h1
    subst hk
    rw[ai]at h2
    obtain⟨_,e0,a,vs,rfl,ha,_,rl⟩:=h2
    obtain⟨z,hd,ws,bM,dd⟩:=(show aT X.prog X.w H s.heap a (.dK (ks.zip vs))from I.hok a _ ha)
    refine⟨a,ws,ry,jT rx,hd,dd,?_⟩
    rw[<- (bM.val k).isSome_eq,<- nR,vd (e0.trans rl.length)]
   refine⟨?_,?_⟩<;>intro P P' pins s σ H v u xv yu Q I rx ry ⟨h1,h2,q⟩<;>obtain⟨a,vs,rfl,kk,hd,dd,ev⟩:=key I rx ry h1 h2
   ·refine wpAny_in_of kk hd dd.mapOf ?_
    rw[ev]
    exact⟨.bl _,H,I.tok _,rfl,q⟩
   ·refine wpAny_notIn_of kk hd dd.mapOf ?_
    rw[ev]
    exact⟨.bl _,H,I.tok _,rfl,q⟩
  ·cases h
 ·rename_i b
  split at h
  ·rename_i a
   cases h
   refine⟨?_,?_⟩<;>intro P P' pins s σ H v u xv yu Q I rx ry ⟨h1,h2,q⟩<;>(rw[ai]at h1 h2;subst h1 h2;obtain⟨t,rfl⟩:=rx;obtain⟨t',rfl⟩:=ry)
   ·exact SB.contains ⟨.bl _,H,I,rfl,q⟩
   ·exact SB.notContains ⟨.bl _,H,I,rfl,q⟩
  ·cases h
 ·cases h
theorem jI{x:D}(hu:X.A.units+70<cLine)(h:iF op x y=.ok r o)(hp:aG o):jd X op x y r:=by
 unfold iF at h
 split at h
 ·cases h
  have c:=hp.1
  unfold iD at c
  rw[Qx]at c
  intro P P' pins s σ H v u xv yu Q I rx ry ⟨h1,h2,q⟩
  obtain⟨as,r1⟩:=de I (RC c.1) h1 rx
  obtain⟨bs,r2⟩:=de I (RC c.2) h2 ry
  exact eq_dataH r1 r2 c.1 c.2 (by omega) ⟨.bl _,H,I,rfl,q⟩
 ·cases h
  have c:=hp.1
  unfold iD at c
  rw[Qx]at c
  intro P P' pins s σ H v u xv yu Q I rx ry ⟨h1,h2,q⟩
  obtain⟨as,r1⟩:=de I (RC c.1) h1 rx
  obtain⟨bs,r2⟩:=de I (RC c.2) h2 ry
  exact ne_dataH r1 r2 c.1 c.2 (by omega) ⟨.bl _,H,I,rfl,q⟩
 ·exact(C8 hu h hp).1
 ·have:=(C8 hu (HN h) hp).2;rw[Bool.not_not]at this;exact this
 ·split at h
  ·cases h
   intro P P' pins s σ H v u xv yu Q I rx ry ⟨h1,h2,q⟩
   rw[ai]at h2
   subst h2
   exact HI pins s σ H v _ xv yu Q I rx ry ⟨rfl,by rw[vI h1];exact q⟩
  ·cases h
 ·split at h
  ·cases h
   intro P P' pins s σ H v u xv yu Q I rx ry ⟨h1,h2,q⟩
   rw[ai]at h2
   subst h2
   refine ET pins s σ H v _ xv yu Q I rx ry ⟨rfl,?_⟩
   rw[vI h1]
   exact q
  ·cases h
 ·cases e:wU op x y with
  | none=>rw[e]at h;cases h
  | some b=>rw[e]at h;cases h;exact HE hu e
variable{X:Cx}
theorem vT(K:W.Frag){t:Value}:W.kitOne K t t=some true:=by unfold W.kitOne;rw[if_pos (beq_self_eq_true t)]
noncomputable def D.ty:D->String
 | .non => "NoneType"
 | .bl _ => "bool"
 | .int _ => "int"
 | .str _ => "str"
 | .dct _ _ => "dict"
 | .tup _ => "tuple"
 | .lst _ => "list"
 | .typ _ => "type"
 | .dcf _ _ => "dict"
 | .sn _ => "set"
 | .obj _ _ _ => "object"
 | .cls _ => "type"
 | .xc _ _ => "type"
noncomputable def D.plain:D->Bool
 | .typ _=>false
 | .dcf _ _=>false
 | .sn _=>false
 | .obj _ _ _=>false
 | .cls _=>false
 | .xc _ _=>false
 | _=>true
theorem Iz{x:D}{c:String}(hpl:x.plain=true)(e:∀K,W.kitOne K (.type x.ty) (.type c)=some b){u:Value}{Q:Value->Shared->Prop}
  (I:ak X pins σ H s) (h:ai X.K H P x v) (r:aP v u) (q:∀tk,Q (.bool b) { s with toks:=tk }):wpAny (model X.prog X.w) X.A (call (.builtin "isinstance") [u,.type c]) Q E s:=by
 have e:=e X.K
 cases x with
 | non=>rw[ai]at h;subst h;cases (show u=Value.none from r);exact Rk W.kitx_none I.kIn True.intro e (fun z=>nomatch z) q
 | bl y=>rw[ai]at h;subst h;cases (show u=Value.bool y from r);exact Rk W.kitx_bool I.kIn True.intro e (fun z=>nomatch z) q
 | int i=>rw[ai]at h;subst h;obtain⟨t,z⟩:=(show ∃t,u=Value.int i t from r);cases z;exact Rk W.kitx_int I.kIn True.intro e (fun z=>nomatch z) q
 | str y=>rw[ai]at h;subst h;obtain⟨t,z⟩:=(show ∃t,u=Value.str y t from r);cases z;exact Rk W.kitx_str I.kIn True.intro e (fun z=>nomatch z) q
 | dct ks ds =>
  rw[ai]at h
  obtain⟨_,_,a,vs,rfl,ea,_⟩:=h
  cases (show u=Value.ref a from r)
  obtain⟨_,_,vs,_,p⟩:=(show aT X.prog X.w H s.heap a (.dK _)from I.hok a _ ea)
  obtain⟨o,es,ep,h1,h2,_⟩:=p
  exact Rk W.kitx_dict I.kIn ⟨o,h1,h2.1⟩ e (fun z=>nomatch z) q
 | typ _=>cases hpl
 | dcf _ _=>cases hpl
 | sn _=>cases hpl
 | obj _ _ _=>cases hpl
 | cls _=>cases hpl
 | xc _ _=>cases hpl
 | tup l =>
  rw[ai]at h
  obtain⟨a,vs,rfl,ea,_⟩:=h
  cases (show u=Value.ref a from r)
  obtain⟨_,_,⟨o,h1,h2,_⟩,_⟩:=I.tuple ea
  exact Rk W.kitx_tuple I.kIn ⟨o,h1,h2⟩ e (fun z=>nomatch z) q
 | lst l =>
  obtain⟨a,vs,rfl,ea,_⟩:=BN (pins:=pins) (σ:=σ) (s:=s) h
  cases (show u=Value.ref a from r)
  obtain⟨_,_,⟨o,n,h1,h2,_⟩,_⟩:=I.list ea
  exact Rk W.kitx_list I.kIn ⟨o,h1,h2⟩ e (fun z=>nomatch z) q
theorem kt(K:W.Frag)(a b:String)(r:Bool)(h:(a==b)=false)(h2:W.kitCls K (.type a) (.type b)=some r):W.kitOne K (.type a) (.type b)=some r:=by
 unfold W.kitOne
 rw[if_neg (by
  intro z
  have:a=b:=by simpa using z
  subst this
  simp at h)]
 exact h2
theorem Fu:∀a∈["NoneType", "bool", "int", "str", "dict", "tuple", "list"],∀T∈mm,(a==T)=false->∀K,W.kitCls K (.type a) (.type T)=some (decide (a = "bool" /\ T = "int")):=by
 intro a ha T hT
 simp only[Qo,Sa,or_false,mm]at ha hT
 rcases ha with rfl|rfl|rfl|rfl|rfl|rfl|rfl<;>rcases hT with rfl|rfl|rfl|rfl|rfl|rfl<;>intro h K<;>first|(exact absurd h (by decide))|kernel_rfl
theorem IA{x:D}(h:IB x T=some b)(hT:T∈mm):x.plain=true/\∀K,W.kitOne K (.type x.ty) (.type T)=some b:=by
 have key:∀(a:String),a∈["NoneType", "bool", "int", "str", "dict", "tuple", "list"]->∀K,W.kitOne K (.type a) (.type T)=some (decide (a=T) || decide (a = "bool" /\ T = "int")):=fun a ha K=>by
  by_cases e:a=T
  ·subst e;rw[vT];simp
  ·have e':(a==T)=false:=by simpa using e
   rw[kt K a T _ e' (Fu a ha T hT e' K)];simp[e]
 unfold IB at h
 cases hx:x.ty0 with
 | none=>rw[hx]at h;cases h
 | some a =>
  rw[hx]at h
  cases h
  have hp:x.plain=true/\x.ty=a/\a∈["NoneType", "bool", "int", "str", "dict", "tuple", "list"]:=by
   cases x<;>cases hx<;>exact⟨rfl,rfl,by decide⟩
  refine⟨hp.1,fun K=>?_⟩
  rw[hp.2.1]
  exact key a hp.2.2 K
noncomputable def nr(X:Cx)(f:Value)(ds:List D)(z:D)(l:Nat):Prop :=
 ∃r:List V->Hp->VK->Prop,eg X f r/\∀ow H0 H2 vs (P:aW) (Q:VK),cM ow H0->ar H0 H2->aj X.K H2 P ds vs->(∀w H',ar H2 H'->ai X.K H' (Kp ow H0 l) z w->Q w H')->r vs H2 Q
theorem aj.only(h:aj K H P [d] vs):∃v,vs=[v]/\ai K H P d v:=by
 rw[aj]at h
 obtain⟨v,r,rfl,h1,h2⟩:=h
 rw[aj]at h2;subst h2
 exact⟨v,rfl,h1⟩
theorem jO(h:ai X.K H P (.lst l) v):∃a vs,v=.ref a/\bT X.K H a vs/\aj X.K H P l vs:=by
 rw[ai]at h
 obtain⟨a,vs,b,rfl,h,_,q⟩:=h
 exact⟨a,vs,rfl,h.sq,q⟩
theorem jh(h:ai X.K H P (.tup l) v):∃a vs,v=.ref a/\ba X.K H a vs/\aj X.K H P l vs:=by
 rw[ai]at h;exact h
theorem zn:nr X (.builtin "len") [.tup l] (.int l.length) 0/\nr X (.builtin "len") [.lst l] (.int l.length) 0:=by
 constructor
 ·refine⟨_,lG,fun ow H0 H2 vs P Q o s rx q=>?_⟩
  obtain⟨v,rfl,ry⟩:=rx.only
  obtain⟨a,ws,rfl,hs,rl⟩:=jh ry
  exact⟨a,ws,rfl,.inr hs,by rw[<- rl.length];exact q _ _ (ar.refl _) (by rw[ai])⟩
 ·refine⟨_,lG,fun ow H0 H2 vs P Q o s rx q=>?_⟩
  obtain⟨v,rfl,ry⟩:=rx.only
  obtain⟨a,ws,rfl,hs,rl⟩:=jO ry
  exact⟨a,ws,rfl,.inl hs,by rw[<- rl.length];exact q _ _ (ar.refl _) (by rw[ai])⟩
theorem rR(f:au l=true):nr X (.type "tuple") [.lst l] (.tup l) 0/\nr X (.type "tuple") [.tup l] (.tup l) 0:=by
 constructor
 ·refine⟨_,kD,fun ow H0 H2 vs P Q o s rx q=>?_⟩
  obtain⟨v,rfl,ry⟩:=rx.only
  obtain⟨a,ws,rfl,hs,rl⟩:=jO ry
  refine⟨a,ws,rfl,.inl ⟨hs,fun p hp=>?_⟩⟩
  have sm:=dH (o:=HO.tup ws) hp
  refine q _ _ sm ?_
  rw[ai]
  exact⟨p,ws,rfl,ba.of aB,(rl.flat _ f).same sm⟩
 ·refine⟨_,kD,fun ow H0 H2 vs P Q o s rx q=>?_⟩
  obtain⟨v,rfl,ry⟩:=rx.only
  obtain⟨a,ws,rfl,hs,rl⟩:=jh ry
  refine⟨a,ws,rfl,.inr ⟨hs,q _ _ (ar.refl _) ?_⟩⟩
  rw[ai]
  exact⟨a,ws,rfl,hs,rl.flat _ f⟩
theorem rN:∀{ns:List Int} {us:List Value},aD (ns.map V.int) us->(∀v,v∈us->∃a t,v=Value.int a t)/\numsOf us=ns
 | [],us,h=>by cases h;exact⟨fun _ h=>(by cases h),rfl⟩
 | n::ns,us,h=>by
  cases h with
  | cons h1 h2 =>
   obtain⟨t,rfl⟩:=(show ∃t,_=Value.int n t from h1)
   obtain⟨i1,i2⟩:=rN h2
   refine⟨fun v hv=>?_,by simp only[numsOf];rw[i2]⟩
   rcases Qo.mp hv with rfl|hv
   ·exact⟨_,_,rfl⟩
   ·exact i1 v hv
theorem Al(hc:X.calm=true):eg X (.builtin "sum") (fun xs H Q => ∃(p:Addr) (ns:List Int),xs=[.ref p]/\bT X.K H p (ns.map V.int)/\Q (.int ns.sum) H):=by
 intro pins s σ H xs us Q I r h
 obtain⟨p,ns,rfl,hq,q⟩:=h
 obtain⟨u,rfl,rx⟩:=gP r
 cases rx
 obtain⟨its,rv,pl,hz⟩:=I.list hq
 obtain⟨hall,hnum⟩:=rN rv
 obtain⟨xs,e⟩:=AllInts.items (vs:=its.toArray) (fun v hv=>hall v (by simpa using hv))
 have hl:=pl.isList
 rw[e]at hl
 refine sum_intListG (I.ok.hd hc) hl fun h' tk t' hk=>?_
 refine⟨.int ns.sum,H,I.kept hk,⟨t',?_⟩,q⟩
 congr 1
 rw[preSum_eq,RS (by simp),<- nums_intItems,<- e]
 simp[hnum]
theorem An:eg X (.builtin "len") (fun xs H Q => ∃(p:Addr) (S:Int->Bool) (n:Nat),xs=[.ref p]/\H p=some (.set S n)/\Q (.int n) H):=by
 intro pins s σ H xs us Q I r h
 obtain⟨p,S,n,rfl,hp,q⟩:=h
 obtain⟨u,rfl,rx⟩:=gP r
 cases rx
 obtain⟨o,es,ep,t,h1,h2,h3,_,_,h4,h5,rfl⟩:=(show s.heap.SetOf (intKind X.prog X.w) p S n from I.hok p _ hp)
 exact call_len_set h1 h2 h3 h5 (by unfold scanBound at h4;omega) ⟨.int _,H,I.tok _,⟨_,rfl⟩,q⟩
noncomputable def fV(f:Str)(B:List D->R1):Prop:=f∈iH/\f ≠ "__name__" /\ (f==("__debug__" : Str))=false/\(B []=.st)/\∀(X:Cx) (ds:List D) (z:D) (l:Nat) (o:List Prop),X.calm=true->B ds=.ok (z,l) o->aG o ->
 ((∃id,bootBuiltins f=some (.builtin id)/\nr X (.builtin id) ds z l)\/∃T,bootBuiltins f=some (.type T)/\nr X (.type T) ds z l)
theorem F9:fV "len" xO:=by
 refine⟨by decide +kernel,by decide +kernel,by decide +kernel,rfl,fun X ds z l o hc h _=>.inl ⟨"len", by decide +kernel,?_⟩⟩
 unfold xO at h
 split at h
 ·cases h
  refine⟨_,An,fun ow H0 H2 vs P Q o s rx q=>?_⟩
  obtain⟨v,rfl,ry⟩:=rx.only
  rw[ai]at ry
  obtain⟨a,S,rfl,ha⟩:=ry
  exact⟨a,S,_,rfl,ha,q _ _ (ar.refl _) (by rw[ai])⟩
 ·split at h
  ·rename_i m e
   cases h
   rcases ij e with rfl|rfl
   ·exact zn.1
   ·exact zn.2
  ·cases h
 ·cases h
theorem Aw:fV "tuple" uk:=by
 refine⟨by decide +kernel,by decide +kernel,by decide +kernel,rfl,fun X ds z l o hc h hp=>.inr ⟨"tuple", by decide +kernel,?_⟩⟩
 unfold uk at h
 split at h
 ·split at h
  ·rename_i m e
   cases h
   have c:=hp.1
   rcases ij e with rfl|rfl
   ·exact(rR c).2
   ·exact(rR c).1
  ·cases h
 ·cases h
theorem F8:fV "sum" B9:=by
 refine⟨by decide +kernel,by decide +kernel,by decide +kernel,rfl,fun X ds z l o hc h _=>.inl ⟨"sum", by decide +kernel,?_⟩⟩
 unfold B9 at h
 split at h
 ·split at h
  ·rename_i bs e
   cases h
   cases gE e
   refine⟨_,Al hc,fun ow H0 H2 vs P Q o s rx q=>?_⟩
   obtain⟨v,rfl,ry⟩:=rx.only
   obtain⟨a,ws,rfl,hs,rl⟩:=jO ry
   exact⟨a,bs,rfl,by rw[<- rl.mapInt];exact hs,q _ _ (ar.refl _) (by rw[ai])⟩
  ·cases h
 ·cases h
theorem Fz(b:Bool):(if b=true then(1:Int)else 0)=cond b 1 0:=by cases b<;>rfl
theorem Gc:fV "int" Cd:=by
 refine⟨by decide +kernel,by decide +kernel,by decide +kernel,rfl,fun X ds z l o hc h hp=>.inr ⟨"int", by decide +kernel,?_⟩⟩
 unfold Cd at h
 split at h
 ·cases h
  refine⟨_,qZ,fun ow H0 H2 vs P Q o s rx q=>?_⟩
  obtain⟨v,rfl,ry⟩:=rx.only
  rw[ai]at ry;subst ry
  exact .inl ⟨_,rfl,q _ _ (ar.refl _) (by rw[ai])⟩
 ·cases h
  refine⟨_,qZ,fun ow H0 H2 vs P Q o s rx q=>?_⟩
  obtain⟨v,rfl,ry⟩:=rx.only
  rw[ai]at ry;subst ry
  exact .inr ⟨_,rfl,q _ _ (ar.refl _) (by rw[ai,Fz])⟩
 ·cases h
theorem Gb:fV "isinstance" Cb:=by
 refine⟨by decide +kernel,by decide +kernel,by decide +kernel,rfl,fun X ds z l o hc h _=>.inl ⟨"isinstance", by decide +kernel,?_⟩⟩
 unfold Cb at h
 split at h
 ·rename_i m ns es n
  split at h
  ·rename_i hmn
   subst hmn
   cases h
   have cr:eg X (.builtin "isinstance") (fun xs H Q => ∃a C dx fs,xs=[.ref a,.ref C]/\H a=some (.ins C dx fs)/\fv X.K C/\rM X.K C/\Q (.bl true) H):=by
    intro pins s σ H xs us Q I r hh
    obtain⟨a,C,dx,fs,rfl,ea,hc,ho,q⟩:=hh
    obtain⟨u,u2,rfl,ru,ru2⟩:=rm r
    cases (show u2=Value.ref C from ru2)
    exact qP I ru (.ins ea hc ho.ha ho.hn ho.ht ho.hm) (vT _) fun tk=>⟨.bl true,H,I.tok tk,rfl,q⟩
   refine⟨_,cr,fun ow H0 H2 vs P Q o s rx q=>?_⟩
   rw[aj]at rx
   obtain⟨v,r,rfl,r1,r2⟩:=rx
   obtain⟨w,rfl,r3⟩:=r2.only
   rw[ai]at r1
   rw[ai]at r3
   obtain⟨_,_,a,C,dx,vs,rfl,h1,h2,h3,_⟩:=r1
   obtain⟨C',o',rfl,h4,_,_,h5,_⟩:=r3
   rw[h1]at h4;cases h4
   exact⟨a,C,dx,_,rfl,h3,h2,h5,q _ _ (ar.refl _) (by rw[ai])⟩
  ·split at h
   ·rename_i hmn
    cases h
    have cr:eg X (.builtin "isinstance") (fun xs H Q => ∃a C C' dx fs,xs=[.ref a,.ref C']/\H a=some (.ins C dx fs)/\fv X.K C/\rM X.K C/\W.kitOne X.K (.ref C) (.ref C')=some (rV m n)/\Q (.bl (rV m n)) H):=by
     intro pins s σ H xs us Q I r hh
     obtain⟨a,C,C',dx,fs,rfl,ea,hc,ho,hk,q⟩:=hh
     obtain⟨u,u2,rfl,ru,ru2⟩:=rm r
     cases (show u2=Value.ref C' from ru2)
     exact qP I ru (.ins ea hc ho.ha ho.hn ho.ht ho.hm) hk fun tk=>⟨.bl (rV m n),H,I.tok tk,rfl,q⟩
    refine⟨_,cr,fun ow H0 H2 vs P Q o s rx q=>?_⟩
    rw[aj]at rx
    obtain⟨v,r,rfl,r1,r2⟩:=rx
    obtain⟨w,rfl,r3⟩:=r2.only
    rw[ai]at r1
    rw[ai]at r3
    obtain⟨_,_,a,C,dx,vs,rfl,h1,h2,h3,_⟩:=r1
    obtain⟨C',o',rfl,_,_,_,_,h5⟩:=r3
    obtain⟨h6,h7⟩:=h5.all m hmn C h1
    exact⟨a,C,C',dx,_,rfl,h3,h2,h6,h7,q _ _ (ar.refl _) (by rw[ai])⟩
   ·cases h
 ·rename_i x T
  split at h
  ·rename_i hT
   split at h
   ·rename_i b hb
    cases h
    obtain⟨h1,h2⟩:=IA hb hT
    have cr:eg X (.builtin "isinstance") (fun xs H Q => ∃v P,xs=[v,.ty T]/\ai X.K H P x v/\Q (.bl b) H):=by
     intro pins s σ H xs us Q I r hh
     obtain⟨v,P,rfl,rp,q⟩:=hh
     obtain⟨u,u2,rfl,ru,ru2⟩:=rm r
     cases (show u2=Value.type T from ru2)
     exact Iz h1 h2 I rp ru fun tk=>⟨.bl b,H,I.tok tk,rfl,q⟩
    refine⟨_,cr,fun ow H0 H2 vs P Q o s rx q=>?_⟩
    rw[aj]at rx
    obtain⟨v,r,rfl,r1,r2⟩:=rx
    obtain⟨w,rfl,r3⟩:=r2.only
    rw[ai]at r3;subst r3
    exact⟨v,P,rfl,r1,q _ _ (ar.refl _) (by rw[ai])⟩
   ·cases h
  ·cases h
 ·cases h
noncomputable def km(K:W.Frag)(F:List D->Rs D):Sp:=fun vs H Q _ => ∃ds r l,aj K H (fun _ _=>True) ds vs/\F ds=.ok r l/\aG l/\∀v H',ar H H'->ai K H' (fun a b=>b=true/\H a=none) r v->Q v H'
noncomputable def DE(X:Cx)(g:Str)(F:List D->Rs D):Prop:=∃k f fd ps,bG X.prog X.w X.K X.mg X.base eh k f fd ps (km X.K F)/\bz k X.A/\X.mg g=some (.ref f)/\W.keepIn X.K (.ref f)=true/\bK X.K fd ps []/\(g==("__debug__" : Str))=false
noncomputable def L3(K:W.Frag)(n:Str)(F:List D->Rs D):Sp:=fun vs H Q _ => ∃x ws C dx ds r l,vs=.ref x::ws/\H x=some (.ins C dx [])/\W.nsIn K mainGlobals n=some (some (.ref C))/\fv K C/\aj K H (fun _ _=>True) ds ws/\F ds=.ok r l/\aG l/\r.lless=true /\
 ∀H',(∀a o,a≠x->H a=some o->H' a=some o)->ai K H' (fun _ _=>True) r (.ref x)->Q .non H'
noncomputable def Ky(X:Cx)(g:Str)(F:List D->Rs D):Prop:=∃k C f fd ps,(∀ds r l,F ds=.ok r l->r.lless=true)/\Mk X.K C f/\bG X.prog X.w X.K X.mg X.base eh k f fd ps (L3 X.K g F)/\bz (k+1) X.A/\X.mg g=some (.ref C)/\W.nsIn X.K mainGlobals g=some (some (.ref C))/\fv X.K C/\bK X.K fd ps []/\(g==("__debug__" : Str))=false
noncomputable def PV(X:Cx)(g:Str)(F:List D->Rs D):Prop:=DE X g F\/Ky X g F
noncomputable def Kz(X:Cx)(n m:Str)(F:List D->Rs D):Prop:=∃k C f fd ps,W.nsIn X.K mainGlobals n=some (some (.ref C))/\fv X.K C/\KA X.K C m f/\bG X.prog X.w X.K X.mg X.base eh k f fd ps (km X.K F)/\bz k X.A/\bK X.K fd ps []
noncomputable def nj(f:Str)(B:List D->Nat->R1):Prop:=f∈iH/\∀(X:Cx) (ρ:ah) (p pos:Pos) (args:List Expr) (ds:List D) (k:Nat) (d:D) (j:Nat) (l:List D) (tg:Expr) (o:List Prop),X.calm=true->Gl X f->X.mg f=none->AD X ρ args ds k ->
 (∀e∈args,∀x p,e ≠ .Starred x p)->args.length=ds.length->B ds k=.ok (d,j) o->aG o->items d=some l->fF (.Call (.Name f p) args [] pos) tg=true->IE X ρ tg (.Call (.Name f p) args [] pos) l j
noncomputable def xY(m:Str)(M:D->List D->R1):Prop:=∀(X:Cx) (ρ:ah) (a:Expr) (args:List Expr) (ap cp:Pos) (x:D) (k:Nat) (ds:List D) (j:Nat) (z:D) (l:Nat) (o:List Prop),X.calm=true->X.A.units+70<cLine->ED X ρ a x k->AD X ρ args ds j ->
 (∀e∈args,∀x p,e ≠ .Starred x p)->args.length=ds.length->(ap.endLine==cp.line)=true->uj a=true->M x ds=.ok (z,l) o->aG o->ED X ρ (.Call (.Attribute a m ap) args [] cp) z l
noncomputable def ni(m:Str)(M:List D->List D->Nat->Rs (List D)):Prop:=∀X:Cx,X.calm=true->∃(id:String) (r:V->List V->Hp->VK->Prop),Slot "list" m id/\typeOf (.builtin id)=pure (.type "method_descriptor")/\Kw X id r /\
 ∀(ow:Ow) (H0 H:Hp) (l ds l':List D) (j:Nat) (o:List Prop) (a:Addr) (vs ws:List V),M l ds j=.ok l' o->aG o->ds.length<29/\(∀(P:aW) (Q:VK),(∀b c,Kp ow H0 0 b c->P b c)->cM ow H0->ar H0 H->H a=some (.lst vs)->aj X.K H P l vs->aj X.K H (Kp ow H0 j) ds ws ->
  (∀vs' w,aj X.K H P l' vs'->Q w (az H a (.lst vs')))->r (.ref a) ws H Q)
noncomputable def P5(X:Cx)(ow:Ow)(ρ:ah)(o:Option Int):TO:=fun σ H Q=>aC X ow H σ ρ/\∀H',ar H H'->Q o H'
noncomputable def OD(X:Cx)(ρ:ah)(e:Option Expr)(o:Option Int):Prop:=∀ow,PO X e (P5 X ow ρ o)
noncomputable def rJ(F:D->Option Int->Option Int->R1):Prop:=∀(X:Cx) (ρ:ah) (a:Expr) (lo hi:Option Expr) (p2 pos:Pos) (x z:D) (l h:Option Int) (k j:Nat) (o:List Prop),ED X ρ a x k->OD X ρ lo l->OD X ρ hi h->F x l h=.ok (z,j) o->aG o->ED X ρ (.Subscript a (.Slice lo hi none p2) pos) z j
structure aL(Φ:Fx)(X:Cx)(sc:Scope):Prop where
 calm:X.calm=true
 nd:X.N.Nodup
 gl:∀x,sc.names.lookup x=some .globalImplicit->Gl X x
 kc:∀x,(sc.names.lookup x=some .cell\/sc.names.lookup x=some .free)->X.env.kindOf x=some .cell\/X.env.kindOf x=some .free
 lc:∀x,sc.names.lookup x=some .local->X.env.scope.names.lookup x=some .local
 cc:∀x,sc.names.lookup x=some .cell->X.env.scope.names.lookup x=some .cell
 fn:∀g F,Φ.fn g=some F->PV X g F
 con:∀x d,Φ.con x=some d->∃v u,X.mg x=some u/\aP v u/\∀H P,ai X.K H P d v
 blt:∀f B,Φ.blt f=some B->fV f B
 itr:∀f B,Φ.itr f=some B->nj f B
 mth:∀m M,Φ.mth m=some M->xY m M
 mtt:∀m M,Φ.mtt m=some M->ni m M
 slf:rJ Φ.slf
 fld:∀n f,Φ.fld n f=true->∀C,W.nsIn X.K mainGlobals n=some (some (.ref C))->uA X.K C f
 omt:∀n m F,Φ.omt n m=some F->Kz X n m F
 bl:∀f∈iH,X.mg f=none
 room:X.A.units+70<cLine
 ns:∀x,bX sc x=true->x∈X.N
 ft:∀x,sc.names.lookup x=some .cell->X.fn x=true
variable{X:Cx}
theorem bW(h:dm x=true):(x==("__debug__" : Str))=false/\(x==("__classdict__" : Str))=false:=by
 unfold dm at h
 rw[Qx]at h
 exact⟨Q9 h.1,Q9 h.2⟩
theorem dX{o:Bool}(h:ρ x=some (d,o))(hx:dm x=true):ED X ρ (.Name x pos) d (kn d (cond o 2 1)):=by
 refine ED.kn fun ow pins s σ H Q I ⟨E,q⟩=>?_
 obtain⟨i,v,e1,e2,e3,e4⟩:=E.get x d o h
 refine fh (i:=i) e1 e2 (bW hx).1 (bW hx).2 pins s σ H Q I ⟨v,e3,q v H (ar.refl _) (e4.imp fun a b p=>?_)⟩
 cases o with
 | true=>exact⟨p.1,.inl (by rw[p.2];exact(fun z=>nomatch z))⟩
 | false=>exact p
theorem Jl(G:aL Φ X sc)(h:Φ.con x=some d)(hg:sc.names.lookup x=some .globalImplicit)(hx:dm x=true):ED X ρ (.Name x pos) d 0:=by
 obtain⟨v,u,h1,h2,h3⟩:=G.con x d h
 exact fun ow=>bB (EL (G.gl x hg) h1 h2 (bW hx).1) fun σ H Q ⟨E,q⟩=>q v H (ar.refl _) (h3 H _)
theorem DK(h:wz x=some T):bootBuiltins x=some (.type T)/\x ≠ "__name__" /\ (x==("__debug__" : Str))=false/\x∈iH:=by
 unfold wz at h
 split at h
 ·rename_i e;subst e;cases h;exact⟨by decide +kernel,by decide +kernel,by decide +kernel,by decide +kernel⟩
 split at h
 ·rename_i e;subst e;cases h;exact⟨by decide +kernel,by decide +kernel,by decide +kernel,by decide +kernel⟩
 split at h
 ·rename_i e;subst e;cases h;exact⟨by decide +kernel,by decide +kernel,by decide +kernel,by decide +kernel⟩
 split at h
 ·rename_i e;subst e;cases h;exact⟨by decide +kernel,by decide +kernel,by decide +kernel,by decide +kernel⟩
 split at h
 ·rename_i e;subst e;cases h;exact⟨by decide +kernel,by decide +kernel,by decide +kernel,by decide +kernel⟩
 split at h
 ·rename_i e;subst e;cases h;exact⟨by decide +kernel,by decide +kernel,by decide +kernel,by decide +kernel⟩
 ·cases h
theorem Jf(G:aL Φ X sc)(h:wz x=some T)(hg:sc.names.lookup x=some .globalImplicit):ED X ρ (.Name x pos) (.typ T) 0:=by
 obtain⟨h1,h2,h3,h4⟩:=DK h
 exact fun ow=>bB (EN (v:=.ty T) (G.gl x hg) (G.bl x h4) h1 rfl h2 h3) fun σ H Q ⟨E,q⟩=>q _ H (ar.refl _) (by rw[ai])
theorem Jk{c:Const}(h:Do c=some d):ED X ρ (.Constant c n pos) d 0:=by
 intro ow
 unfold Do at h
 split at h
 ·cases h;exact bB Hr fun σ H Q ⟨E,q⟩=>q _ H (ar.refl _) (by rw[ai])
 ·cases h;exact bB K8 fun σ H Q ⟨E,q⟩=>q _ H (ar.refl _) (by rw[ai])
 ·cases h;exact bB Ht fun σ H Q ⟨E,q⟩=>q _ H (ar.refl _) (by rw[ai])
 ·cases h;exact bB Hn fun σ H Q ⟨E,q⟩=>q _ H (ar.refl _) (by rw[ai])
 ·cases h
theorem Jp{b:Expr}{op:Operator}{x:D}{l:Nat}(ha:ED X ρ a x k)(hb:ED X ρ b y j)(h:uh op x y k j=.ok (z,l) o)(hp:aG o):ED X ρ (.BinOp a op b pos) z l:=by
 obtain⟨r,h1,h2⟩:=Kc (X:=X) h hp
 refine fun ow=>bB (K7 h1 (ha ow) (hb ow)) fun σ H Q ⟨E,q⟩=>⟨E,fun v H1 s1 r1=>⟨E.same s1,fun u H2 s2 r2=>?_⟩⟩
 exact h2 ow H H2 v u Q E.own (s1.trans s2) (r1.same s2) (r2.imp (Kp.back s1 j)) fun w H' s3 r3=>q w H' ((s1.trans s2).trans s3) r3
theorem LE{op:UnaryOp}{x:D}(ha:ED X ρ a x k)(h:yf op x=some z):ED X ρ (.UnaryOp op a pos) z 0:=by
 unfold yf at h
 split at h
 ·cases h
  refine fun ow=>bB (K6 Gi (ha ow)) fun σ H Q ⟨E,q⟩=>⟨E,fun v H1 s1 r1=>?_⟩
  rw[ai]at r1;subst r1
  exact⟨_,rfl,q _ H1 s1 (by rw[ai])⟩
 ·cases h
  refine fun ow=>bB (Hq (ha ow)) fun σ H Q ⟨E,q⟩=>⟨E,fun v H1 s1 r1=>?_⟩
  rw[ai]at r1;subst r1
  exact⟨_,rfl,q _ H1 s1 (by rw[ai])⟩
 ·cases h
theorem Jm{b:Expr}{x:D}(hu:X.A.units+70<cLine)(ha:ED X ρ a x k)(hb:ED X ρ b y j)(h:iF op x y=.ok r o)(hp:aG o)(hm:behindInMarks op b=false):ED X ρ (.Compare a [op] [b] pos) (.bl r) 0:=by
 have c:=jI hu h hp
 intro ow pins s σ H Q I ⟨E,q⟩
 refine wpAny_Compare1 (L8 (ha ow) (hb ow) I (R:=fun v u H2=>ar H H2/\ai X.K H2 (fun _ _=>True) x v/\ai X.K H2 (fun _ _=>True) y u) ⟨E,fun v H1 s1 r1=>⟨E.same s1,fun u H2 s2 r2=>⟨s1.trans s2,(r1.imp fun _ _ _=>True.intro).same s2,r2.imp fun _ _ _=>True.intro⟩⟩⟩ fun v u s2 x y H2 I2 rx ry ⟨sm,r1,r2⟩=>?_) hm
 exact c _ _ pins s2 σ H2 x y v u Q I2 rx ry ⟨r1,r2,q _ H2 sm (by rw[ai])⟩
theorem F0{x:D}{r:D×Nat}{l:List Prop}(h:JE op op2 x y z=.ok r l):∃a b c r1 r2,x=.int a/\y=.int b/\z=.int c/\ge op a b=some r1/\ge op2 b c=some r2/\r=(.bl (r1&&r2),0):=by
 unfold JE at h
 split at h
 ·split at h
  ·rename_i h1 h2;cases h;exact⟨_,_,_,_,_,rfl,rfl,rfl,h1,h2,rfl⟩
  ·cases h
 ·cases h
theorem pL{a b:Int}(h:ge op a b=some r):iF op (.int a) (.int b)=.ok r []:=by
 unfold ge at h
 split at h<;>first|(cases h;rfl)|cases h
theorem BY{b:Expr}{x y z:Int}(hu:X.A.units+70<cLine)(ha:ED X ρ a (.int x) k)(hb:ED X ρ b (.int y) j)(hc:ED X ρ c (.int z) i)(h:ge op x y=some r)(h2:ge op2 y z=some r2)(hm:behindInMarks op2 c=false):ED X ρ (.Compare a [op,op2] [b,c] pos) (.bl (r&&r2)) 0:=by
 have c1:=jI (X:=X) hu (pL h) (show aG []from True.intro)
 have c2:=jI (X:=X) hu (pL h2) (show aG []from True.intro)
 refine fun ow=>bB (Br (c1 (fun _ _=>True) (fun _ _=>True)) (c2 (fun _ _=>True) (fun _ _=>True)) (ha ow) (hb ow) (hc ow) hm) fun σ H Q ⟨E,q⟩=>⟨E,fun v H1 s1 r1=>⟨E.same s1,fun u H2 s2 r2=>?_⟩⟩
 rw[ai]at r1 r2
 subst r1 r2
 refine⟨by rw[ai],by rw[ai],r,rfl,?_⟩
 cases r with
 | false=>exact q _ H2 (s1.trans s2) (by rw[ai];rfl)
 | true =>
  rw[if_pos rfl]
  refine⟨(E.same s1).same s2,fun w H3 s3 r3=>?_⟩
  rw[ai]at r3
  subst r3
  exact⟨by rw[ai],by rw[ai],q _ H3 ((s1.trans s2).trans s3) (by rw[ai];rfl)⟩
theorem KJ(h:ED X ρ e (.bl b) k)(he:∀whole,isTrue e X.env whole=(do let v <- whole;standAt e.pos;holding [v] (truthy v))):TD X ρ e b :=
 fun ow=>xU (Hc (h ow) he) fun σ H Q ⟨E,q⟩=>⟨E,fun v H1 s1 r1=>by rw[ai]at r1;exact⟨b,r1,q H1 s1⟩⟩
theorem fo:AD X ρ [] [] 0:=fun ow=>Dy HA fun σ H Q ⟨E,q⟩=>q [] H (ar.refl _) aj.nil
theorem dY(h1:ED X ρ e d k)(h2:AD X ρ es ds j)(hs:starEach (e::es) X.env=(false,eval e X.env)::starEach es X.env):AD X ρ (e::es) (d::ds) (kj k j) :=
 fun ow=>Dy (ES (h1 ow) (h2 ow) hs) fun σ H Q ⟨E,q⟩=>⟨E,fun v H1 s1 r1=>⟨E.same s1,fun vs H2 s2 r2=>q _ H2 (s1.trans s2) (aj.cons ((r1.imp (Kp.joinL E.own k j)).same s2) (r2.imp fun a b p=>Kp.joinR E.own k j a b (Kp.back s1 j a b p)))⟩⟩
theorem BX(h:AD X ρ es ds k)(hl:ds.length<=bc):ED X ρ (.Tuple es n pos) (.tup ds) (kn (.tup ds) k):=by
 refine ED.kn fun ow=>bB (Hm (h ow)) fun σ H Q ⟨E,q⟩=>⟨E,fun vs H1 s1 r1=>⟨by rw[<- r1.length];exact QA hl cq,fun p hp=>?_⟩⟩
 have sm:=dH (o:=HO.tup vs) hp
 refine q _ _ (s1.trans sm) ?_
 rw[ai]
 exact⟨p,vs,rfl,ba.of aB,r1.same sm⟩
theorem Ji:ED X ρ (.Dict [] [] pos) (.dct [] []) 0:=by
 intro ow pins s σ H Q I ⟨E,q⟩
 refine wpAny_Dict_empty ⟨.ref s.heap.objs.size,_,I.laid (t':=s.toks) (o:=.dK []) (fun b ob q=>Qk _ q) (Ql _) ?_,rfl,q _ _ (dH (I.hok.fresh (Ql _))) ?_⟩
 ·exact⟨QC _,R9.mpr (SC (modules_low I.nolimit)),[],.nil,Heap.DictOf.new _⟩
 ·rw[ai];exact⟨rfl,rfl,_,[],rfl,aB,⟨rfl,I.hok.fresh (Ql _)⟩,aj.nil⟩
theorem qw(h:AD X ρ es ds k)(hk:k<=1)(hl:ds.length<=bc):ED X ρ (.List es pos) (.lst ds) k:=by
 refine fun ow=>bB (Hs (h ow)) fun σ H Q ⟨E,q⟩=>⟨E,fun vs H1 s1 r1=>⟨by rw[<- r1.length];exact QA hl cq,fun p hp=>?_⟩⟩
 have sm:=dH (o:=HO.lst vs) hp
 refine q _ _ (s1.trans sm) ?_
 rw[ai]
 exact⟨p,vs,true,rfl,aB,zt E.own (s1.free hp) hk,r1.same sm⟩
theorem Dl{b:Expr}(hc:TD X ρ c t)(h:if t=true then ED X ρ a d k else ED X ρ b d k):ED X ρ (.IfExp c a b pos) d k:=by
 cases t with
 | true =>
  intro ow pins s σ H Q I ⟨E,q⟩
  refine PyProof.Rows.IfExp_ (aN (hc ow pins s σ H (fun t H1=>t=true/\ar H H1) I ⟨E,fun H1 s1=>⟨rfl,s1⟩⟩) fun t s1 ⟨H1,I1,e1,s1'⟩=>?_)
  subst e1
  exact h ow pins s1 σ H1 Q I1 ⟨E.same s1',fun v H2 s2 r2=>q v H2 (s1'.trans s2) (r2.imp (Kp.back s1' k))⟩
 | false =>
  intro ow pins s σ H Q I ⟨E,q⟩
  refine PyProof.Rows.IfExp_ (aN (hc ow pins s σ H (fun t H1=>t=false/\ar H H1) I ⟨E,fun H1 s1=>⟨rfl,s1⟩⟩) fun t s1 ⟨H1,I1,e1,s1'⟩=>?_)
  subst e1
  exact h ow pins s1 σ H1 Q I1 ⟨E.same s1',fun v H2 s2 r2=>q v H2 (s1'.trans s2) (r2.imp (Kp.back s1' k))⟩
variable{X:Cx}
theorem aj.atI{i:Int}(h:aj K H P l vs)(e:L2.atI l i=some d):∃v,L2.atI vs i=some v/\ai K H P d v:=by
 unfold L2.atI at e⊢
 rw[<- h.length]
 cases q:ku l.length i with
 | none=>rw[q]at e;cases e
 | some j=>rw[q]at e;exact h.get e
theorem LF{b:Expr}{x:D}{i:Int}{l:Nat}(ha:ED X ρ a x k)(hb:ED X ρ b (.int i) j)(hs:gn b)(h:tu x i k=.ok (z,l) o):ED X ρ (.Subscript a b pos) z l:=by
 unfold tu at h
 split at h
 ·rename_i m e0
  split at h
  ·rename_i d e
   unfold mk at h
   cases h
   rcases ij e0 with rfl|rfl
   ·refine ED.kn fun ow=>bB (rn Ix (ha ow) (hb ow) hs) fun σ H Q ⟨E,q⟩=>⟨E,fun v H1 s1 r1=>⟨E.same s1,fun u H2 s2 r2=>?_⟩⟩
    obtain⟨p,vs,rfl,hq,rl⟩:=jh (r1.same s2)
    rw[ai]at r2;subst r2
    obtain⟨w,h1,h2⟩:=rl.atI e
    exact⟨p,vs,i,w,rfl,rfl,hq,h1,q w H2 (s1.trans s2) h2⟩
   ·refine ED.kn fun ow=>bB (rn Fw (ha ow) (hb ow) hs) fun σ H Q ⟨E,q⟩=>⟨E,fun v H1 s1 r1=>⟨E.same s1,fun u H2 s2 r2=>?_⟩⟩
    obtain⟨p,vs,rfl,hq,rl⟩:=jO (r1.same s2)
    rw[ai]at r2;subst r2
    obtain⟨w,h1,h2⟩:=rl.atI e
    exact⟨p,vs,i,w,rfl,rfl,hq,h1,q w H2 (s1.trans s2) h2⟩
  ·cases h
 ·cases h
noncomputable def Nc:R2:=fun x y H Q => ∃p kvs k v,x=.ref p/\y=kV k/\H p=some (.dK kvs)/\c8 kvs k=some v/\Q v H
theorem Fy:AS X Nc:=by
 intro value slice pins s σ H x y v u Q I rx ry h hs
 obtain⟨p,kvs,k,z,rfl,rfl,hq,he,q⟩:=h
 cases rx
 obtain⟨_,hd,vs,bM,dd⟩:=(show aT X.prog X.w H s.heap p (.dK kvs)from I.hok p _ hq)
 obtain⟨w,hw,rw'⟩:=gM.some_of (v:=z) (o:=valueAt vs k) (by rw[<- he];exact bM.val k)
 exact subscriptTail_builtinR (x:=w) dd.typeIs PySem.F.slot_dict_getitem.lookup (wpAny_getItem_of (Q:=fun r s'=>r=w/\EP X pins σ Q r s') (jT ry) dd.mapOf hw ⟨rfl,z,H,I.tok _,rw',q⟩) hs
theorem tZ{K:W.Frag}{P:aW}{H:Hp}{k:aR}{d:D}:∀{ks:List aR} {ds:List D} {vs:List V},aj K H P ds vs->lD ks ds k=some d->∃v,c8 (ks.zip vs) k=some v/\ai K H P d v/\d∈ds
 | [],ds,vs,_,e=>by cases e
 | j::ks,[],vs,_,e=>by cases e
 | j::ks,x::ds,vs,h,e=>by
  rw[aj]at h
  obtain⟨v,r,rfl,h1,h2⟩:=h
  by_cases hj:j=k
  ·have e':some x=some d:=by rw[<- e];simp[lD,Rm,hj]
   cases e'
   exact⟨v,fA hj,h1,Qj⟩
  ·have e':lD ks ds k=some d:=by rw[<- e];simp[lD,Rm,hj]
   obtain⟨w,g1,g2,g3⟩:=tZ h2 e'
   exact⟨w,(fB hj).trans g1,g2,Qi _ g3⟩
theorem lh:∀{l:List D} {d:D},au l=true->d∈l->d.lless=true
 | x::l,d,h,m=>by
  rw[au,Qx]at h
  rcases Qo.mp m with rfl|m
  ·exact h.1
  ·exact lh h.2 m
theorem Jg{b:Expr}{p q r:D×Nat}(ha:ED X ρ a p.1 p.2)(hb:ED X ρ b q.1 q.2)(hs:gn b)(h:jM p q=.ok r o):ED X ρ (.Subscript a b pos) r.1 r.2:=by
 obtain⟨z,k⟩:=p
 unfold jM at h
 split at h
 ·rename_i ks ds e0
  have e0:z=_:=e0
  subst e0
  split at h
  ·rename_i key e
   split at h
   ·rename_i d e2
    cases h
    refine fun ow=>bB (rn Fy (ha ow) (hb ow) hs) fun σ H Q ⟨E,qq⟩=>⟨E,fun v H1 s1 r1=>⟨E.same s1,fun u H2 s2 r2=>?_⟩⟩
    have r1':=r1.same s2
    rw[ai]at r1'
    obtain⟨f,e1,p,vs,rfl,hq,_,rl⟩:=r1'
    have hk:=oj (X:=X) e r2
    obtain⟨w,g1,g2,g3⟩:=tZ rl e2
    exact⟨p,_,key,w,rfl,hk,hq,g1,qq w H2 (s1.trans s2) (g2.flat _ (lh f g3))⟩
   ·cases h
  ·cases h
 ·unfold xw at h
  split at h
  ·rename_i j hj
   rw[hj]at hb
   exact LF ha hb hs h
  ·cases h
theorem Dx{e:Option Expr}{t t':TO}(h:PO X e t)(i:∀σ H Q,t' σ H Q->t σ H Q):PO X e t':=fun pins s σ H Q I q=>h pins s σ H Q I (i σ H Q q)
theorem Fb:OD X ρ none none:=fun ow=>Dx EI fun σ H Q ⟨E,q⟩=>q H (ar.refl _)
theorem Fa{i:Int}(h:ED X ρ e (.int i) k):OD X ρ (some e) (some i):=fun ow=>Dx (EH (h ow)) fun σ H Q ⟨E,q⟩=>⟨E,fun v H1 s1 r1=>by rw[ai]at r1;exact⟨i,r1,q H1 s1⟩⟩
theorem aj.cut{lo hi:Option Int}(h:aj K H P l vs):aj K H P (B2 l lo hi) (Jt vs lo hi):=by
 unfold B2 Jt
 rw[<- h.length]
 exact(h.drop _).take _
theorem bo:rJ dy:=fun X ρ a lo hi p2 pos x z l h k j o ha hl hh e hp=>by cases e
theorem bD{env:Env}{pos:Pos}:∀{es:List Expr},(∀e∈es,∀x p,e ≠ .Starred x p)->(backTo pos (starEach es env)).any (·.1)=false
 | [],_=>rfl
 | e::es,h=>by
  have ih:=bD (env:=env) (es:=es) (pos:=pos) fun x hx=>h x (Qi _ hx)
  have he:=h e Qj
  cases e<;>first|exact absurd rfl (he _ _)|exact ih
theorem aF(h:∀x p,e ≠ .Starred x p):starEach (e::es) env=(false,eval e env)::starEach es env:=by
 cases e<;>first|exact absurd rfl (h _ _)|rfl
theorem BZ{r:D}(G:aL Φ X sc)(hf:DE X f F)(hg:sc.names.lookup f=some .globalImplicit)
  (ha:AD X ρ args ds k) (hst:∀e∈args,∀x p,e ≠ .Starred x p) (hnil:args=[]->ds=[]) (h:F ds=.ok r o) (hp:aG o):ED X ρ (.Call (.Name f p) args [] pos) r 0:=by
 obtain⟨n,fa,fd,ps,hF,hr,hm,hk,hb,hd⟩:=hf
 intro ow
 cases args with
 | nil =>
  refine bB (Bs hF hr (G.gl f hg) hm hk hb .nil oZ hd) fun σ H Q ⟨E,q⟩=>?_
  have hds:=hnil rfl
  subst hds
  exact⟨[],r,o,aj.nil,h,hp,fun v H' s1 r1=>q v H' s1 r1⟩
 | cons e es =>
  refine bB (EM hF hr (G.gl f hg) hm hk hb .nil oZ (ha ow) hd (aF (hst e Qj)) (bD fun x hx=>hst x (Qi _ hx))) fun σ H Q ⟨E,q⟩=>⟨E,fun vs H1 s1 r1=>?_⟩
  refine⟨ds,r,o,by rw[QP];exact r1.imp fun _ _ _=>True.intro,h,hp,fun v H' s2 r2=>q v H' (s1.trans s2) (r2.imp fun a b p=>⟨p.1,s1.free p.2⟩)⟩
theorem gy{x dx C:Addr}(hx:H x=none)(hd:H dx=none):ar H (az (az H dx (.own x)) x (.ins C dx [])):=fun a o h=>by
 rw[aq (fun z=>by subst z;rw[hx]at h;cases h),aq (fun z=>by subst z;rw[hd]at h;cases h)]
 exact h
theorem FO{r:D}(G:aL Φ X sc)(hf:Ky X f F)(hg:sc.names.lookup f=some .globalImplicit)
  (ha:AD X ρ args ds k) (hst:∀e∈args,∀x p,e ≠ .Starred x p) (hnil:args=[]->ds=[]) (h:F ds=.ok r o) (hp:aG o):ED X ρ (.Call (.Name f p) args [] pos) r 0:=by
 obtain⟨n,C,fa,fd,ps,hfl,hM,hF,hr,hm,hns,hc,hb,hd⟩:=hf
 have hl:=hfl ds r o h
 intro ow
 cases args with
 | nil =>
  refine bB (Bq hM hF hr (G.gl f hg) hm hb .nil oZ hd) fun σ H Q ⟨E,q⟩=>?_
  have hds:=hnil rfl
  subst hds
  intro x dx hx hdx ne
  refine⟨x,[],C,dx,[],r,o,rfl,aB,hns,hc,aj.nil,h,hp,hl,fun H' kp rr=>⟨rfl,q _ H' (fun a ob ha=>?_) (rr.flat _ hl)⟩⟩
  exact kp a ob (fun z=>by subst z;rw[hx]at ha;cases ha) (gy hx hdx a ob ha)
 | cons e es =>
  refine bB (EK hM hF hr (G.gl f hg) hm hb .nil oZ (ha ow) hd (aF (hst e Qj)) (bD fun x hx=>hst x (Qi _ hx))) fun σ H Q ⟨E,q⟩=>⟨E,fun vs H1 s1 r1=>?_⟩
  intro x dx hx hdx ne
  refine⟨x,vs++[],C,dx,ds,r,o,rfl,aB,hns,hc,by rw[QP];exact(r1.same (gy hx hdx)).imp fun _ _ _=>True.intro,h,hp,hl,fun H' kp rr=>⟨rfl,q _ H' (s1.trans fun a ob ha=>?_) (rr.flat _ hl)⟩⟩
  exact kp a ob (fun z=>by subst z;rw[hx]at ha;cases ha) (gy hx hdx a ob ha)
theorem FQ{r:D}(G:aL Φ X sc)(hf:Φ.fn f=some F)(hg:sc.names.lookup f=some .globalImplicit)
  (ha:AD X ρ args ds k) (hst:∀e∈args,∀x p,e ≠ .Starred x p) (hnil:args=[]->ds=[]) (h:F ds=.ok r o) (hp:aG o):ED X ρ (.Call (.Name f p) args [] pos) r 0:=by
 rcases G.fn f F hf with z|z
 ·exact BZ G z hg ha hst hnil h hp
 ·exact FO G z hg ha hst hnil h hp
theorem qz{t:Sem Value}(h:uj a=true):attributeBase a m env t=t:=by
 unfold attributeBase
 split
 ·cases h
 ·rfl
theorem Jo{l:Nat}(G:aL Φ X sc)(hB:fV f B)(hg:sc.names.lookup f=some .globalImplicit)
  (ha:AD X ρ (e::es) ds k) (hst:∀x∈e::es,∀y p,x ≠ .Starred y p) (h:B ds=.ok (z,l) o) (hp:aG o):ED X ρ (.Call (.Name f p) (e::es) [] pos) z l:=by
 obtain⟨h3,h1,h2,_,h4⟩:=hB
 have h4:=h4 X ds z l o G.calm h hp
 intro ow
 have n1:=aF (env:=X.env) (es:=es) (hst e Qj)
 have n2:(backTo pos (starEach es X.env)).any (·.1)=false:=bD fun x hx=>hst x (Qi _ hx)
 rcases h4 with⟨id,e1,r,e2,e3⟩|⟨T,e1,r,e2,e3⟩
 ·refine bB (sJ e2 (G.gl f hg) (G.bl f h3) e1 (ha ow) h1 h2 n1 n2) fun σ H Q ⟨E,q⟩=>⟨E,fun vs H1 s1 r1=>?_⟩
  exact e3 ow H H1 vs _ Q E.own s1 r1 fun w H' s2 r2=>q w H' (s1.trans s2) r2
 ·refine bB (yX e2 (G.gl f hg) (G.bl f h3) e1 (ha ow) h1 h2 n1 n2) fun σ H Q ⟨E,q⟩=>⟨E,fun vs H1 s1 r1=>?_⟩
  exact e3 ow H H1 vs _ Q E.own s1 r1 fun w H' s2 r2=>q w H' (s1.trans s2) r2
theorem jz(h:ED X ρ e (.lst l) k):IE X ρ tg e l k:=by
 intro ow pins s σ H R I ⟨E,q⟩
 refine EJ (tg:=tg) (h ow) pins s σ H R I ⟨E,fun v H1 s1 r1=>?_⟩
 rw[ai]at r1
 obtain⟨a,vs,b,rfl,hl,hp,rl⟩:=r1
 have rl':aj X.K H1 (Kd ow H k H1) l vs:=rl.impH (fun a o ho p=>⟨p,fun _=>⟨o,ho⟩⟩) fun a p=>⟨p,fun z=>(by cases z)⟩
 have hp':Kd ow H k H1 a b:=⟨hp,fun hb=>by subst hb;exact⟨_,hl⟩⟩
 have sq:∀{H2:Hp},uB X.K H2 a vs b->bT X.K H2 a vs:=fun {H2} h=>h.sq
 refine⟨a,rfl,⟨vs,sq hl⟩,q _ H1 s1 fun i H2 st=>⟨fun d hd=>?_,fun hle=>?_⟩⟩
 ·have h2:=sq (st.ls hl hp')
  obtain⟨w,hw,rw'⟩:=rl'.get hd
  refine⟨⟨vs,w,h2,hw⟩,fun x H3 ⟨e3,y3⟩=>?_⟩
  subst e3
  have:=y3 vs h2
  rw[hw]at this;cases this
  exact⟨ar.refl _,rw'.mono st⟩
 ·exact⟨vs,sq (st.ls hl hp'),by rw[<- rl.length];exact hle⟩
theorem IG(h:ED X ρ e (.tup l) k):IE X ρ tg e l k:=by
 intro ow pins s σ H R I ⟨E,q⟩
 refine Hj (tg:=tg) (h ow) pins s σ H R I ⟨E,fun v H1 s1 r1=>?_⟩
 rw[ai]at r1
 obtain⟨a,vs,rfl,hl,rl⟩:=r1
 have rl':aj X.K H1 (Kd ow H k H1) l vs:=rl.impH (fun a o ho p=>⟨p,fun _=>⟨o,ho⟩⟩) fun a p=>⟨p,fun z=>(by cases z)⟩
 refine⟨a,rfl,⟨vs,hl⟩,q _ H1 s1 fun i H2 st=>⟨fun d hd=>?_,fun hle=>?_⟩⟩
 ·have h2:=st.sq hl
  obtain⟨w,hw,rw'⟩:=rl'.get hd
  refine⟨⟨vs,w,h2,hw⟩,fun x H3 ⟨e3,y3⟩=>?_⟩
  subst e3
  have:=y3 vs h2
  rw[hw]at this;cases this
  exact⟨ar.refl _,rw'.mono st⟩
 ·exact⟨vs,st.sq hl,by rw[<- rl.length];exact hle⟩
noncomputable def Me(x:Str):It:=⟨fun i _=>i<x.cps.size,fun i H v H'=>H'=H/\∃c,x.cps[i]?=some c/\v=.str ⟨#[c]⟩,fun i _=>x.cps.size<=i⟩
theorem AV{P:Program}(x:Str)(t:Tok)(it:Addr):Turn P w K tg (Me x) [it] it (fun i h=>h.IsStrIter it "str_ascii_iterator" x t i) where
 mem:=by simp
 obj:=fun i h st b hb=>by
  have e:b=it:=by simpa using hb
  subst e
  obtain⟨o,e,c,d⟩:=st
  exact⟨o,e,fun v z=>by rw[d]at z;cases z⟩
 keep:=fun i h h' st k=>by
  obtain⟨o,e,c,d⟩:=st
  exact⟨o,k it (by simp) o e,c,d⟩
 item:=by
  intro X hP hw hK hc i pins s σ H E I hf st hg
  subst hP hw hK
  obtain⟨f0,f1,f2,f3,f4,f5⟩:=hf it (by simp)
  have hx:x.cps[i]?=some x.cps[i]:=Array.getElem?_eq_getElem hg
  refine wpAny_pyNext_ascii_item st hx fun h' st' sb=>?_
  have I1:ak X pins σ H { s with heap:=h',toks:=s.toks+1 }:=I.turned (t':=s.toks+1) (fun b o hb e=>(sb.2 b hb).trans e) f0 f1 f3 f4 f5
  obtain⟨o,e,c,d⟩:=id st'
  exact⟨_,rfl,jW (s:={ s with heap:=h',toks:=s.toks+1 }) e c d (by decide) ⟨.str ⟨#[x.cps[i]]⟩,H,I1,⟨_,rfl⟩,⟨rfl,_,hx,rfl⟩,st',fun b hb=>(hf b hb).1⟩⟩
 done:=by
  intro X hP hw hK hc i pins s σ H E I hf st hg
  subst hP hw hK
  obtain⟨f0,f1,f2,f3,f4,f5⟩:=hf it (by simp)
  exact wpAny_pyNext_ascii_end (I.ok.hd hc) st (RR hg) fun h' eb=>⟨rfl,I.turned (t':=s.toks) (fun b o hb e=>eb b o hb e) f0 f1 f3 f4 f5⟩
 self:=fun _ _ _ _ _ st h=>wpAny_pyIter_striter_ascii st h
theorem IH(h:ED X ρ e (.str x) k)(ha:(x.cps.all fun c=>decide (c<128))=true):IE X ρ tg e (CF x) k:=by
 intro ow pins s σ H R I ⟨E,q⟩
 refine aN (h ow pins s σ H _ I ⟨E,fun v H1 s1 r1=>(show(fun v H1=>ar H H1/\ai X.K H1 (Kp ow H k) (.str x) v) v H1 from⟨s1,r1⟩)⟩) fun v s1 ⟨y,H1,I1,bM,sm,rp⟩=>?_
 rw[ai]at rp;subst rp
 obtain⟨t,rfl⟩:=bM
 have ty:strIterType x = "str_ascii_iterator" := if_pos ha
 refine wpAny_pyIter_strU ?_
 rw[ty]
 refine⟨s1.heap.objs.size,[s1.heap.objs.size],_,Me x,H1,rfl,I1.kept (t':=s1.toks) fun b o e=>Qk _ e,AV x t _,⟨_,QG _ rfl,rfl,rfl⟩,fun b hb=>?_,q _ H1 sm fun i H2 st=>⟨fun d hd=>?_,fun hle=>?_⟩⟩
 ·have e:b=s1.heap.objs.size:=by simpa using hb
  subst e
  exact I1.fpOk (Ql _) (I1.hok.fresh (Ql _))
 ·unfold CF at hd
  rw[QY]at hd
  cases hc:x.cps.toList[i]? with
  | none=>rw[hc]at hd;cases hd
  | some c =>
   rw[hc]at hd;cases hd
   have hi:i<x.cps.size:=by simpa using (Qz.mp hc).1
   refine⟨hi,fun z H3 ⟨e3,c',e4,e5⟩=>?_⟩
   subst e3 e5
   rw[Array.getElem?_toList]at hc
   rw[hc]at e4;cases e4
   exact⟨ar.refl _,by rw[ai]⟩
 ·unfold CF at hle
  rw[Qp,Qs]at hle
  exact hle
theorem Lq(h:ED X ρ e d k)(hi:items d=some l):IE X ρ tg e l k:=by
 unfold items at hi
 split at hi
 ·cases hi;exact jz h
 ·cases hi;exact IG h
 ·split at hi
  ·rename_i ha;cases hi;exact IH h ha
  ·cases hi
 ·cases hi
theorem BQ{j:Int}(hg:Gl X "range")(hm0:X.mg "range" = none)(ha:AD X ρ [a] [.int j] k)(hst:∀y p,a ≠ .Starred y p)(h1:-4611686018427387904<=j)(h2:j<=bc) :
  IE X ρ tg (.Call (.Name "range" p) [a] [] pos) ((List.range j.toNat).map fun i=>.int (i:Nat)) 0:=by
 intro ow pins s σ H R I ⟨E,q⟩
 refine yW (tg:=tg) hg hm0 (ha ow) (by rw[aF hst];rfl) pins s σ H R I ⟨E,fun vs H1 s1 r1=>?_⟩
 obtain⟨v,rfl,rv⟩:=r1.only
 rw[ai]at rv;subst rv
 have hm:(bc:Int)<2 ^ 62:=by decide
 refine⟨j,rfl,h1,by omega,q _ H1 s1 fun i H2 st=>⟨fun d hd=>?_,fun hle=>?_⟩⟩
 ·rw[QY]at hd
  cases e:(List.range j.toNat)[i]? with
  | none=>rw[e]at hd;cases hd
  | some n =>
   rw[e]at hd;cases hd
   obtain⟨hi,hn⟩:=Qz.mp e
   rw[List.getElem_range]at hn
   subst hn
   rw[R6]at hi
   refine⟨hi,fun x H3 ⟨e3,y3⟩=>?_⟩
   subst e3 y3
   exact⟨ar.refl _,by rw[ai,Int.zero_add]⟩
 ·rw[Qp,R6]at hle
  exact hle
theorem zE{b:Expr}{j0 j:Int}(hg:Gl X "range")(hm0:X.mg "range" = none)(ha:AD X ρ [a,b] [.int j0,.int j] k)(hst:∀y p,a ≠ .Starred y p)(hst2:∀y p,b ≠ .Starred y p)(h1:-4611686018427387904<=j0)(h2:j0<=4611686018427387000)(h3:-4611686018427387904<=j)(h4:j-j0<=800) :
  IE X ρ tg (.Call (.Name "range" p) [a,b] [] pos) ((List.range (j-j0).toNat).map fun i=>.int (j0+(i:Nat))) 0:=by
 intro ow pins s σ H R I ⟨E,q⟩
 refine yV (tg:=tg) hg hm0 (ha ow) (by rw[aF hst,aF hst2];rfl) (by rw[aF hst2];rfl) pins s σ H R I ⟨E,fun vs H1 s1 r1=>?_⟩
 rw[aj]at r1
 obtain⟨v1,r,rfl,r2,r3⟩:=r1
 rw[aj]at r3
 obtain⟨v2,r',rfl,r4,r5⟩:=r3
 rw[aj]at r5
 rw[ai]at r2 r4
 subst r2 r4 r5
 refine⟨j0,j,rfl,⟨h1,by omega,h3,by omega⟩,q _ H1 s1 fun i H2 st=>⟨fun d hd=>?_,fun hle=>?_⟩⟩
 ·rw[QY]at hd
  cases e:(List.range (j-j0).toNat)[i]? with
  | none=>rw[e]at hd;cases hd
  | some n =>
   rw[e]at hd;cases hd
   obtain⟨hi,hn⟩:=Qz.mp e
   rw[List.getElem_range]at hn
   subst hn
   rw[R6]at hi
   refine⟨hi,fun x H3 ⟨e3,y3⟩=>?_⟩
   subst e3 y3
   exact⟨ar.refl _,by rw[ai]⟩
 ·rw[Qp,R6]at hle
  exact hle
theorem zF:nj "range" tF:=by
 refine⟨by decide +kernel,fun X ρ p pos args ds k d j l tg o hc hg hm ha hst hlen h hp hl ht=>?_⟩
 unfold tF at h
 split at h
 ·rename_i n
  cases h
  cases hl
  match args,hlen,ha,hst with
  | [a],_,ha,hst=>exact BQ hg hm ha (hst a Qj) hp.1 hp.2.1
 ·rename_i m n
  cases h
  cases hl
  match args,hlen,ha,hst with
  | [a,b],_,ha,hst=>exact zE hg hm ha (hst a Qj) (hst b (Qi _ Qj)) hp.1 hp.2.1 hp.2.2.1 hp.2.2.2.1
 ·cases h
variable{X:Cx}
theorem bg{y:D×Bool}(z:Str):aM ρ x y z=if z=x then some y else ρ z:=rfl
theorem eS{o:Bool}(hN:X.N.Nodup)(hl:σ.length=X.N.length)(E:aC X ow H σ ρ)(hi:X.N[i]?=some x)(hv:eZ X.env.scope x)(r:ai X.K H (k7 ow x o) d v) :
  aC X ow H (σ.set i (some v)) (aM ρ x (d,o)):=by
 have hil:i<σ.length:=by rw[hl];exact(Qz.mp hi).1
 refine⟨fun y e o' h=>?_,E.own⟩
 rw[bg]at h
 by_cases hy:y=x
 ·subst hy
  rw[if_pos rfl]at h
  cases h
  exact⟨i,v,hi,hv,by rw[RQ hil],r⟩
 ·rw[if_neg hy]at h
  obtain⟨j,w,e1,e2,e3,e4⟩:=E.get y e o' h
  have hij:i≠j:=by intro z;subst z;rw[hi]at e1;cases e1;exact hy rfl
  exact⟨j,w,e1,e2,by rw[Q5 hij];exact e3,e4⟩
theorem fL(G:aL Φ X sc)(h:bX sc x=true):wo X.env.scope x/\eZ X.env.scope x/\(X.fn x=true\/X.env.scope.names.lookup x=some .local)/\∃i:Nat,X.N[i]?=some x:=by
 have hx:=G.ns x h
 have hlt:=List.idxOf_lt_length_iff.mpr hx
 have hi:∃i:Nat,X.N[i]?=some x:=⟨X.N.idxOf x,by rw[QE hlt,Ss hlt]⟩
 unfold bX at h
 rw[Bool.or_eq_true]at h
 rcases h with h|h
 ·have h:=G.lc x (by simpa using h)
  exact⟨.inl h,.inl h,.inr h,hi⟩
 ·have h0:sc.names.lookup x=some .cell:=by simpa using h
  have h:=G.cc x h0
  exact⟨.inr h,.inr (.inl h),.inl (G.ft x h0),hi⟩
theorem kZ{Φ:Fx}{sc:Scope}(G:aL Φ X sc):∀{es:List Expr} {ds:List D} {ρ ρ':ah},aQ sc es ds ρ=some ρ'->∃t,wm X es t/\(assignEach es X.env).length=ds.length/\(assignEach es X.env).findIdx? (·.1)=none /\
  ∀(ow:Ow) (vs:List V) (σ:L2.St) (H:Hp) (Q:L2.St->Hp->Prop),σ.length=X.N.length->aC X ow H σ ρ->aj X.K H (fun a b=>b=true->ow a=none) ds vs->(∀σ',σ'.length=X.N.length->aC X ow H σ' ρ'->Q σ' H)->t vs σ H Q
 | [],[],ρ,ρ',h=>by
  rw[aQ]at h;cases h
  refine⟨_,vG,rfl,rfl,fun ow vs σ H Q hl E r q=>?_⟩
  rw[aj]at r
  exact⟨r,q σ hl E⟩
 | .Name x p::es,d::ds,ρ,ρ',h=>by
  rw[aQ]at h
  split at h
  ·rename_i hx
   obtain⟨t,h1,h2,h3,h4⟩:=kZ G h
   obtain⟨g1,g2,g3,i,g4⟩:=fL G hx
   refine⟨_,n8 (g7 (i:=i) G.nd g4 g1 g3) h1 rfl,?_,?_,fun ow vs σ H Q hl E r q=>?_⟩
   ·show(assignEach es X.env).length+1=ds.length+1
    rw[h2]
   ·show List.findIdx? (·.1) ((false,_)::assignEach es X.env)=none
    rw[List.findIdx?_cons,h3];rfl
   ·rw[aj]at r
    obtain⟨v,vr,rfl,r1,r2⟩:=r
    refine⟨v,vr,rfl,?_⟩
    exact h4 ow vr _ H Q (by rw[Ri];exact hl) (eS G.nd hl E g4 g2 r1) r2 q
  ·cases h
 | [],_::_,ρ,ρ',h=>by simp[aQ]at h
 | .Name _ _::_,[],ρ,ρ',h=>by simp[aQ]at h
 | .BoolOp .. :: _,ds,ρ,ρ',h=>by cases ds<;>simp[aQ]at h
 | .NamedExpr .. :: _,ds,ρ,ρ',h=>by cases ds<;>simp[aQ]at h
 | .BinOp .. :: _,ds,ρ,ρ',h=>by cases ds<;>simp[aQ]at h
 | .UnaryOp .. :: _,ds,ρ,ρ',h=>by cases ds<;>simp[aQ]at h
 | .Lambda .. :: _,ds,ρ,ρ',h=>by cases ds<;>simp[aQ]at h
 | .IfExp .. :: _,ds,ρ,ρ',h=>by cases ds<;>simp[aQ]at h
 | .Dict .. :: _,ds,ρ,ρ',h=>by cases ds<;>simp[aQ]at h
 | .Set .. :: _,ds,ρ,ρ',h=>by cases ds<;>simp[aQ]at h
 | .ListComp .. :: _,ds,ρ,ρ',h=>by cases ds<;>simp[aQ]at h
 | .SetComp .. :: _,ds,ρ,ρ',h=>by cases ds<;>simp[aQ]at h
 | .DictComp .. :: _,ds,ρ,ρ',h=>by cases ds<;>simp[aQ]at h
 | .GeneratorExp .. :: _,ds,ρ,ρ',h=>by cases ds<;>simp[aQ]at h
 | .Await .. :: _,ds,ρ,ρ',h=>by cases ds<;>simp[aQ]at h
 | .Yield .. :: _,ds,ρ,ρ',h=>by cases ds<;>simp[aQ]at h
 | .YieldFrom .. :: _,ds,ρ,ρ',h=>by cases ds<;>simp[aQ]at h
 | .Compare .. :: _,ds,ρ,ρ',h=>by cases ds<;>simp[aQ]at h
 | .Call .. :: _,ds,ρ,ρ',h=>by cases ds<;>simp[aQ]at h
 | .FormattedValue .. :: _,ds,ρ,ρ',h=>by cases ds<;>simp[aQ]at h
 | .JoinedStr .. :: _,ds,ρ,ρ',h=>by cases ds<;>simp[aQ]at h
 | .Constant .. :: _,ds,ρ,ρ',h=>by cases ds<;>simp[aQ]at h
 | .Attribute .. :: _,ds,ρ,ρ',h=>by cases ds<;>simp[aQ]at h
 | .Subscript .. :: _,ds,ρ,ρ',h=>by cases ds<;>simp[aQ]at h
 | .Starred .. :: _,ds,ρ,ρ',h=>by cases ds<;>simp[aQ]at h
 | .List .. :: _,ds,ρ,ρ',h=>by cases ds<;>simp[aQ]at h
 | .Tuple .. :: _,ds,ρ,ρ',h=>by cases ds<;>simp[aQ]at h
 | .Slice .. :: _,ds,ρ,ρ',h=>by cases ds<;>simp[aQ]at h
theorem pu(G:aL Φ X sc)(h:bE sc tg d ρ=some ρ'):GD X ρ tg d ρ':=by
 unfold bE at h
 split at h
 ·split at h
  ·rename_i x p hx
   cases h
   obtain⟨g1,g2,g3,i,g4⟩:=fL G hx
   exact⟨_,g7 (i:=i) G.nd g4 g1 g3,fun ow v σ H Q hl E r q=>q _ (by rw[Ri];exact hl) (eS G.nd hl E g4 g2 r)⟩
  ·cases h
 ·split at h
  ·obtain⟨t,h1,h2,h3,h4⟩:=kZ G h
   refine⟨_,sG (n:=_) G.calm h1 h2 h3,fun ow v σ H Q hl E r q=>?_⟩
   obtain⟨a,vs,rfl,hs,rl⟩:=jh r
   exact⟨a,vs,rfl,hs,rl.length.symm,h4 ow vs σ H Q hl E rl q⟩
  ·cases h
 ·cases h
theorem wE
  (h:wpAny M A (isTrue c env (eval c env)) (fun b s'=>if b=true then wpAny M A (iu cs env) Q E s' else Q false s') E s):wpAny M A (iu (c::cs) env) Q E s:=by
 have no:∀(l:List Expr) (s:Shared),Q false s->wpAny M A (forIn l false fun c r=>if r=true then do let ok <- isTrue c env (eval c env);pure (ForInStep.yield ok)else pure (ForInStep.yield r)) Q E s:=by
  intro l
  induction l with
  | nil=>intro s h;exact Qq h
  | cons x l ih =>
   intro s h
   rw[List.forIn_cons]
   simp only[Ry,SK]
   exact Qh (Qq (ih s h))
 unfold iu
 rw[List.forIn_cons]
 simp only[if_true]
 refine Qh (Qh (Rb h (fun b s' hb=>Qq ?_) fun _ _ x=>x))
 cases b with
 | true=>exact hb
 | false=>exact no cs s' hb
theorem yi:AM X ρ [] true:=fun ow pins s σ H Q I ⟨E,q⟩=>Qq ⟨H,I,q H (ar.refl _)⟩
theorem pU{b':Bool}(h:TD X ρ c b)(h':if b=true then AM X ρ cs b' else b'=false):AM X ρ (c::cs) b':=by
 intro ow pins s σ H Q I ⟨E,q⟩
 refine wE (aN (h ow pins s σ H (fun t H1=>t=b/\ar H H1) I ⟨E,fun H1 s1=>⟨rfl,s1⟩⟩) fun t s1 ⟨H1,I1,e,sm⟩=>?_)
 subst e
 cases t with
 | true =>
  rw[if_pos rfl]at h' ⊢
  exact h' ow pins s1 σ H1 Q I1 ⟨E.same sm,fun H2 s2=>q H2 (sm.trans s2)⟩
 | false =>
  rw[if_neg QL]at h' ⊢
  subst h'
  exact⟨H1,I1,q H1 sm⟩
variable{X:Cx}
structure fT(X:Cx)(ρ:ah)(e:Expr)(it:Bool)(d:D)(k:Nat):Prop where
 ed:it=false->ED X ρ e d k
 td:it=false->∀b,d=.bl b->TD X ρ e b
 ie:it=true->∀tg l,items d=some l->fF e tg=true->IE X ρ tg e l k
theorem fT.of(h:ED X ρ e d k)(t:∀b,d=.bl b->TD X ρ e b):fT X ρ e it d k:=⟨fun _=>h,fun _=>t,fun _ tg l hi _=>Lq h hi⟩
theorem gW{r:D×Nat}{l:List Prop}(h:ax Φ e it sc ρ=.ok r l):∀x p,e ≠ .Starred x p:=by
 intro x p z;subst z;cases h
theorem dh{Φ:Fx}{sc:Scope}{ρ:ah}:∀{es:List Expr} {r:List D×Nat} {l:List Prop},bj Φ es sc ρ=.ok r l->aG l->(∀e∈es,∀x p,e ≠ .Starred x p)/\es.length=r.1.length
 | [],r,l,h,_=>by cases h;exact⟨fun e he=>(by cases he),rfl⟩
 | e::es,r,l,h,hp=>by
  obtain⟨p,l1,l2,h1,p1,h,p2⟩:=aS h hp
  obtain⟨q,l3,l4,h2,p3,h,p4⟩:=aS h p2
  cases h
  obtain⟨i1,i2⟩:=dh h2 p3
  refine⟨fun e' he=>?_,by rw[Qw,Qw,i2]⟩
  rcases Qo.mp he with rfl|he
  ·exact gW h1
  ·exact i1 e' he
theorem Ao(h:nM sc scope=true):scope.kind=.function/\(∀y∈scope.names,y.2=.local->scope.names.lookup y.1=some .local) /\
  (∀y∈scope.names,y.2=.free->sc.names.lookup y.1=some .cell\/sc.names.lookup y.1=some .free)/\(scope.names.map (·.1)).Nodup:=by
 unfold nM at h
 simp only[Qx,QT,Q4,Bool.or_eq_true]at h
 obtain⟨⟨⟨h1,h3⟩,h4⟩,h5⟩:=h
 refine⟨h1,fun y hy e=>(h3 y hy).resolve_left (fun z=>z e),fun y hy e=>?_,h5⟩
 rcases h4 y hy with(q|q)|q
 ·exact absurd e q
 ·exact .inl q.2
 ·exact .inr q
theorem cV{env:Env}:∀{names:List (Str×NameKind)} {x:Str} {k0:NameKind},k0 ≠ .free->names.lookup x=some k0 ->
  (names.map fun(n,k)=>if (k==NameKind.free&&env.scope.kind == .function&&env.kindOf n==some .cell)then(n,NameKind.cell)else(n,k)).lookup x=some k0
 | [],_,_,_,h=>by simp at h
 | (n,k)::r,x,k0,hk,h=>by
  have ih:=@cV env r x k0 hk
  show List.lookup x ((if (k==NameKind.free&&env.scope.kind == .function&&env.kindOf n==some .cell)=true then(n,NameKind.cell)else(n,k))::_)=_
  cases hx:x==n with
  | true =>
   simp only[QF,hx]at h
   cases h
   have:(k==NameKind.free)=false:=by simpa using hk
   simp[QF,hx,this]
  | false =>
   simp only[QF,hx]at h
   by_cases hc:(k==NameKind.free&&env.scope.kind == .function&&env.kindOf n==some .cell)=true
   ·rw[if_pos hc];simp only[QF,hx];exact ih h
   ·rw[if_neg hc];simp only[QF,hx];exact ih h
theorem o7{names:List (Str×NameKind)}:∀{x:Str} {k:NameKind},names.lookup x=some k->x∈names.map (·.1):=fun {x k} h=>QB.mpr ⟨_,QH h,rfl⟩
theorem FE{C:Addr}(G:aL Φ X sc)(h:nM sc scope=true):aL Φ (lu X scope cl C (scope.names.map (·.1)) s H fp) scope:=by
 obtain⟨h1,h3,h4,h5⟩:=Ao h
 refine⟨G.calm,h5,fun x hx=>?_,fun x hx=>?_,fun x hx=>lookup_relabel_local hx,fun x hx=>cV (by decide) hx,fun g F hg=>G.fn g F hg,G.con,G.blt,G.itr,G.mth,G.mtt,G.slf,G.fld,G.omt,G.bl,G.room,fun x hx=>?_,fun x hx=>QM hx⟩
 ·exact cV (by decide) hx
 ·rcases hx with hx|hx
  ·exact .inl (cV (by decide) hx)
  ·exact cW hx
 ·unfold bX at hx
  rw[Bool.or_eq_true]at hx
  rcases hx with hx|hx<;>exact o7 (by simpa using hx)
theorem Ab(G:aL Φ X sc)(h:nM sc scope=true):gI X.env scope (scope.names.map (·.1)):=by
 obtain⟨h1,h3,h4,h5⟩:=Ao h
 exact⟨h1,h5,h3,h5,fun n hn=>G.kc n (h4 (n,.free) hn rfl)⟩
theorem Ln:∀{a b:Nat},kj a b<=1->a<=kj a b/\b<=kj a b
 | 0,0,_=>by decide
 | 0,1,_=>by decide
 | 0,2,h=>absurd h (by decide)
 | 0,_+3,h=>by rw[kj]at h;omega
 | 1,0,_=>by decide
 | 1,1,_=>by decide
 | 1,2,h=>absurd h (by decide)
 | 1,_+3,h=>absurd h (by rw[kj]<;>simp)
 | 2,0,h=>absurd h (by decide)
 | 2,1,h=>absurd h (by decide)
 | 2,2,h=>absurd h (by decide)
 | 2,_+3,h=>absurd h (by rw[kj]<;>simp)
 | _+3,0,h=>by rw[kj]at h<;>simp_all<;>omega
 | _+3,1,h=>absurd h (by rw[kj]<;>simp)
 | _+3,2,h=>absurd h (by rw[kj]<;>simp)
 | _+3,_+3,h=>absurd h (by rw[kj]<;>simp)
theorem Kp.up(o:cM ow H){a:Addr}:∀{i j:Nat},i<=j->j<=1->Kp ow H i a b->Kp ow H j a b
 | 0,0,_,_,p=>p
 | 0,1,_,_,p=>fun _=>o.free p.2
 | 1,1,_,_,p=>p
 | 1,0,h,_,_=>absurd h (by omega)
 | _+2,_,h,g,_=>absurd h (by omega)
 | 0,_+2,_,g,_=>absurd g (by omega)
 | 1,_+2,_,g,_=>absurd g (by omega)
theorem ED.up(h:ED X ρ e d i)(h1:i<=j)(h2:j<=1):ED X ρ e d j:=fun ow=>bB (h ow) fun σ H Q ⟨E,q⟩=>⟨E,fun v H' s r=>q v H' s (r.imp fun a b p=>Kp.up E.own h1 h2 p)⟩
noncomputable def rA(step:D->Rs (Option (D×Nat)))(d:D):Option D:=match step d with | .ok (some p) _=>some p.1|_=>none
theorem t8{step:D->Rs (Option (D×Nat))}:∀{ds:List D} {r:List D×Nat} {l:List Prop},gr step ds=.ok r l->aG l ->
  (∀d∈ds,∃r l,step d=.ok r l/\aG l)/\r.1=ds.filterMap (rA step)/\(r.2<=1->∀d∈ds,∀p l,step d=.ok (some p) l->p.2<=r.2)
 | [],r,l,h,_=>by
  cases h
  exact⟨fun d hd=>(by cases hd),rfl,fun _ d hd=>(by cases hd)⟩
 | d::ds,r,l,h,hp=>by
  obtain⟨x,l1,l2,h1,p1,h,p2⟩:=aS h hp
  obtain⟨q,l3,l4,h2,p3,h,p4⟩:=aS h p2
  obtain⟨i1,i2,i3⟩:=t8 h2 p3
  have i1':∀y∈d::ds,∃r l,step y=.ok r l/\aG l:=fun y hy=>by
   rcases Qo.mp hy with rfl|hy
   ·exact⟨_,_,h1,p1⟩
   ·exact i1 y hy
  cases x with
  | none =>
   cases h
   refine⟨i1',?_,fun hj x hx y i e=>?_⟩
   ·rw[List.filterMap_cons_none (by unfold rA;rw[h1])];exact i2
   ·rcases Qo.mp hx with rfl|hx
    ·rw[h1]at e;cases e
    ·exact i3 hj x hx y i e
  | some p =>
   cases h
   refine⟨i1',?_,fun hj x hx y i e=>?_⟩
   ·rw[List.filterMap_cons_some (by unfold rA;rw[h1]),i2]
   ·obtain⟨a1,a2⟩:=Ln hj
    rcases Qo.mp hx with rfl|hx
    ·rw[h1]at e;cases e;exact a1
    ·exact QA (i3 (QA a2 hj) x hx y i e) a2
theorem bS(h:ED X ρ e d k)(he:∀whole,isTrue e X.env whole=(do let v <- whole;standAt e.pos;holding [v] (truthy v))):fT X ρ e it d k:=.of h fun b hb=>by subst hb;exact KJ h he
theorem ym{b:Expr}{x:D}(hu:X.A.units+70<cLine)(ha:ED X ρ a x k)(hb:ED X ρ b y j)(h:iF op x y=.ok r o)(hp:aG o)(hm:behindInMarks op b=false):TD X ρ (.Compare a [op] [b] pos) r:=by
 have c:=jI (X:=X) hu h hp
 intro ow pins s σ H Q I ⟨E,q⟩
 refine wpAny_isTrue_Compare1 (L8 (ha ow) (hb ow) I (R:=fun v u H2=>ar H H2/\ai X.K H2 (fun _ _=>True) x v/\ai X.K H2 (fun _ _=>True) y u) ⟨E,fun v H1 s1 r1=>⟨E.same s1,fun u H2 s2 r2=>⟨s1.trans s2,(r1.imp fun _ _ _=>True.intro).same s2,r2.imp fun _ _ _=>True.intro⟩⟩⟩ fun v u s2 x y H2 I2 rx ry ⟨sm,r1,r2⟩=>?_) hm
 refine aN (c _ _ pins s2 σ H2 x y v u (fun w H'=>w=.bl r/\H2=H') I2 rx ry ⟨r1,r2,rfl,rfl⟩) fun u' s3 ⟨w,H3,I3,r3,e1,e2⟩=>?_
 subst e1 e2
 cases (show u'=Value.bool r from r3)
 exact Ru ⟨H2,I3,q H2 sm⟩
theorem A1{b:Expr}{x y z:Int}(hu:X.A.units+70<cLine)(ha:ED X ρ a (.int x) k)(hb:ED X ρ b (.int y) j)(hc:ED X ρ c (.int z) i)(h:ge op x y=some r)(h2:ge op2 y z=some r2)(hm:behindInMarks op2 c=false):TD X ρ (.Compare a [op,op2] [b,c] pos) (r&&r2):=by
 have c1:=jI (X:=X) hu (pL h) (show aG []from True.intro)
 have c2:=jI (X:=X) hu (pL h2) (show aG []from True.intro)
 refine fun ow=>xU (Bn (c1 (fun _ _=>True) (fun _ _=>True)) (c2 (fun _ _=>True) (fun _ _=>True)) (ha ow) (hb ow) (hc ow) hm) fun σ H Q ⟨E,q⟩=>⟨E,fun v H1 s1 r1=>⟨E.same s1,fun u H2 s2 r2=>?_⟩⟩
 rw[ai]at r1 r2
 subst r1 r2
 refine⟨by rw[ai],by rw[ai],r,rfl,?_⟩
 cases r with
 | false=>exact⟨false,rfl,q H2 (s1.trans s2)⟩
 | true =>
  rw[if_pos rfl]
  refine⟨(E.same s1).same s2,fun w H3 s3 r3=>?_⟩
  rw[ai]at r3
  subst r3
  exact⟨by rw[ai],by rw[ai],_,rfl,q H3 ((s1.trans s2).trans s3)⟩
theorem Gx(h:TD X ρ a b):TD X ρ (.UnaryOp .Not a pos) (!b):=fun ow=>xU (Hd (h ow)) fun σ H Q ⟨E,q⟩=>⟨E,fun H1 s1=>q H1 s1⟩
structure dZ(X:Cx)(ρ:ah)(op:BoolOp)(es:List Expr)(b:Bool):Prop where
 ed:es≠[]->∀pos,ED X ρ (.BoolOp op es pos) (.bl b) 0
 tw:es≠[]->∀pos ow,PW X (.BoolOp op es pos) (Cz X ow ρ b)
 ts:op=.And->AM X ρ es b
theorem gv{op:BoolOp}(h:ED X ρ e (.bl b) k)(t:TD X ρ e b):dZ X ρ op [e] b:=by
 have h0:ED X ρ e (.bl b) 0:=by
  have:=h.kn
  rw[show kn (.bl b) k=0 from rfl]at this
  exact this
 refine⟨fun _ pos ow=>Ho (h0 ow),fun _ pos ow=>?_,fun _=>pU t (by cases b;rfl;exact yi)⟩
 cases op with
 | And=>exact Es (t ow)
 | Or=>exact Hb (t ow)
theorem uW(h:ED X ρ e (.bl true) k)(t:TD X ρ e true)(r:dZ X ρ .And (e2::es) b):dZ X ρ .And (e::e2::es) b:=by
 refine⟨fun _ pos ow=>?_,fun _ pos ow=>?_,fun _=>pU t (by rw[if_pos rfl];exact r.ts rfl)⟩
 ·refine bB (yY (h ow) (r.ed (by simp) pos ow)) fun σ H Q ⟨E,q⟩=>⟨E,fun v H1 s1 r1=>?_⟩
  rw[ai]at r1
  exact⟨true,r1,by rw[if_pos rfl];exact⟨E.same s1,fun w H2 s2 r2=>q w H2 (s1.trans s2) (r2.imp (Kp.back s1 0))⟩⟩
 ·intro wh pins s σ H Q I hq
  exact yO (t ow) (r.tw (by simp) pos ow) wh pins s σ H Q I ⟨hq.1,fun H1 s1=>by dsimp only;rw[if_pos rfl];exact⟨hq.1.same s1,fun H2 s2=>hq.2 H2 (s1.trans s2)⟩⟩
theorem uf(h:ED X ρ e (.bl false) k)(t:TD X ρ e false)(ne:∀pos,∃t,PE X (.BoolOp .And (e2::es) pos) t)(nw:∀pos,∃t,PW X (.BoolOp .And (e2::es) pos) t):dZ X ρ .And (e::e2::es) false:=by
 refine⟨fun _ pos ow=>?_,fun _ pos ow=>?_,fun _=>pU t (by rw[if_neg QL])⟩
 ·obtain⟨t2,h2⟩:=ne pos
  refine bB (yY (h ow) h2) fun σ H Q ⟨E,q⟩=>⟨E,fun v H1 s1 r1=>?_⟩
  rw[ai]at r1
  exact⟨false,r1,by rw[if_neg QL];exact q _ H1 s1 (by rw[ai])⟩
 ·obtain⟨t2,h2⟩:=nw pos
  intro wh pins s σ H Q I hq
  exact yO (t ow) h2 wh pins s σ H Q I ⟨hq.1,fun H1 s1=>by dsimp only;rw[if_neg QL];exact hq.2 H1 s1⟩
theorem xL(h:ED X ρ e (.bl false) k)(t:TD X ρ e false)(r:dZ X ρ .Or (e2::es) b):dZ X ρ .Or (e::e2::es) b:=by
 refine⟨fun _ pos ow=>?_,fun _ pos ow=>?_,fun z=>by cases z⟩
 ·refine bB (CM (h ow) (r.ed (by simp) pos ow)) fun σ H Q ⟨E,q⟩=>⟨E,fun v H1 s1 r1=>?_⟩
  rw[ai]at r1
  exact⟨false,r1,by rw[if_neg QL];exact⟨E.same s1,fun w H2 s2 r2=>q w H2 (s1.trans s2) (r2.imp (Kp.back s1 0))⟩⟩
 ·intro wh pins s σ H Q I hq
  exact CI (t ow) (r.tw (by simp) pos ow) wh pins s σ H Q I ⟨hq.1,fun H1 s1=>by dsimp only;rw[if_neg QL];exact⟨hq.1.same s1,fun H2 s2=>hq.2 H2 (s1.trans s2)⟩⟩
theorem uV(h:ED X ρ e (.bl true) k)(t:TD X ρ e true)(ne:∀pos,∃t,PE X (.BoolOp .Or (e2::es) pos) t)(nw:∀pos,∃t,PW X (.BoolOp .Or (e2::es) pos) t):dZ X ρ .Or (e::e2::es) true:=by
 refine⟨fun _ pos ow=>?_,fun _ pos ow=>?_,fun z=>by cases z⟩
 ·obtain⟨t2,h2⟩:=ne pos
  refine bB (CM (h ow) h2) fun σ H Q ⟨E,q⟩=>⟨E,fun v H1 s1 r1=>?_⟩
  rw[ai]at r1
  exact⟨true,r1,by rw[if_pos rfl];exact q _ H1 s1 (by rw[ai])⟩
 ·obtain⟨t2,h2⟩:=nw pos
  intro wh pins s σ H Q I hq
  exact CI (t ow) h2 wh pins s σ H Q I ⟨hq.1,fun H1 s1=>by dsimp only;rw[if_pos rfl];exact hq.2 H1 s1⟩
theorem sI:PE X e (fun _ _ _=>False):=fun _ _ _ _ _ _ h=>h.elim
theorem sB:PW X e (fun _ _ _=>False):=fun _ _ _ _ _ _ _ h=>h.elim
theorem Dr{b:Expr}{r:D×Nat}{l:List Prop}(h:ax Φ b it sc ρ=.ok r l):behindInMarks op b=false:=by
 cases b<;>first|rfl|cases h
theorem vO{z:Str}(h:bX sc z=true)(hx:sc.names.lookup x=some .free):x≠z:=by
 intro e;subst e
 unfold bX at h
 rw[hx]at h
 revert h;decide
theorem xM:∀{es:List Expr} {ds:List D} {ρ ρ':ah},aQ sc es ds ρ=some ρ'->∀x y,sc.names.lookup x=some .free->ρ x=some y->ρ' x=some y:=by
 intro es
 induction es with
 | nil =>
  intro ds ρ ρ' h x y hx hl
  cases ds with
  | nil=>rw[aQ]at h;cases h;exact hl
  | cons d ds=>cases h
 | cons e es ih =>
  intro ds ρ ρ' h x y hx hl
  cases ds with
  | nil=>cases e<;>cases h
  | cons d ds =>
   cases e with
   | Name z p =>
    rw[aQ]at h
    split at h
    ·rename_i hz
     exact ih h x y hx (by rw[bg,if_neg (vO hz hx)];exact hl)
    ·cases h
   | _=>cases h
theorem Aq(h:bE sc tg d ρ=some ρ'):∀x y,sc.names.lookup x=some .free->ρ x=some y->ρ' x=some y:=by
 intro x y hx hl
 unfold bE at h
 split at h
 ·split at h
  ·rename_i hz
   cases h
   rw[bg,if_neg (vO hz hx)];exact hl
  ·cases h
 ·split at h
  ·exact xM h x y hx hl
  ·cases h
 ·cases h
theorem qR{r:D×Nat}{l:List Prop}(h:ax Φ e it sc ρ=.ok r l)(x:Value):foldedSetIterable e env x=pure x:=by
 cases e<;>first|rfl|cases h
mutual
theorem sS:∀x y:D,qh true x y=x
 | .int _,.int _=>rfl
 | .bl _,.bl _=>rfl
 | .tup l,.tup m=>by
  show(if l.length=m.length then D.tup (k9 true l m)else cond true (.tup l) (.tup m))=.tup l
  split
  ·rename_i h;rw[zc l m h]
  ·rfl
 | .non,_=>rfl
 | .str _,_=>rfl
 | .dct _ _,_=>rfl
 | .lst _,_=>rfl
 | .typ _,_=>rfl
 | .dcf _ _,_=>rfl
 | .sn _,_=>rfl
 | .obj _ _ _,_=>rfl
 | .cls _,_=>rfl
 | .xc _ _,_=>rfl
 | .int _,.non=>rfl
 | .int _,.bl _=>rfl
 | .int _,.str _=>rfl
 | .int _,.dct _ _=>rfl
 | .int _,.typ _=>rfl
 | .int _,.dcf _ _=>rfl
 | .int _,.sn _=>rfl
 | .int _,.obj _ _ _=>rfl
 | .int _,.cls _=>rfl
 | .int _,.xc _ _=>rfl
 | .int _,.tup _=>rfl
 | .int _,.lst _=>rfl
 | .bl _,.non=>rfl
 | .bl _,.int _=>rfl
 | .bl _,.str _=>rfl
 | .bl _,.dct _ _=>rfl
 | .bl _,.typ _=>rfl
 | .bl _,.dcf _ _=>rfl
 | .bl _,.sn _=>rfl
 | .bl _,.obj _ _ _=>rfl
 | .bl _,.cls _=>rfl
 | .bl _,.xc _ _=>rfl
 | .bl _,.tup _=>rfl
 | .bl _,.lst _=>rfl
 | .tup _,.non=>rfl
 | .tup _,.int _=>rfl
 | .tup _,.bl _=>rfl
 | .tup _,.str _=>rfl
 | .tup _,.dct _ _=>rfl
 | .tup _,.typ _=>rfl
 | .tup _,.dcf _ _=>rfl
 | .tup _,.sn _=>rfl
 | .tup _,.obj _ _ _=>rfl
 | .tup _,.cls _=>rfl
 | .tup _,.xc _ _=>rfl
 | .tup _,.lst _=>rfl
theorem zc:∀l m:List D,l.length=m.length->k9 true l m=l
 | [],[],_=>rfl
 | x::l,y::m,h=>by
  show qh true x y::k9 true l m=x::l
  rw[sS x y,zc l m (by simpa using h)]
 | [],_::_,h=>by cases h
 | _::_,[],h=>by cases h
end
mutual
theorem sT:∀x y:D,qh false x y=y
 | .int _,.int _=>rfl
 | .bl _,.bl _=>rfl
 | .tup l,.tup m=>by
  show(if l.length=m.length then D.tup (k9 false l m)else cond false (.tup l) (.tup m))=.tup m
  split
  ·rename_i h;rw[zd l m h]
  ·rfl
 | .non,_=>rfl
 | .str _,_=>rfl
 | .dct _ _,_=>rfl
 | .lst _,_=>rfl
 | .typ _,_=>rfl
 | .dcf _ _,_=>rfl
 | .sn _,_=>rfl
 | .obj _ _ _,_=>rfl
 | .cls _,_=>rfl
 | .xc _ _,_=>rfl
 | .int _,.non=>rfl
 | .int _,.bl _=>rfl
 | .int _,.str _=>rfl
 | .int _,.dct _ _=>rfl
 | .int _,.typ _=>rfl
 | .int _,.dcf _ _=>rfl
 | .int _,.sn _=>rfl
 | .int _,.obj _ _ _=>rfl
 | .int _,.cls _=>rfl
 | .int _,.xc _ _=>rfl
 | .int _,.tup _=>rfl
 | .int _,.lst _=>rfl
 | .bl _,.non=>rfl
 | .bl _,.int _=>rfl
 | .bl _,.str _=>rfl
 | .bl _,.dct _ _=>rfl
 | .bl _,.typ _=>rfl
 | .bl _,.dcf _ _=>rfl
 | .bl _,.sn _=>rfl
 | .bl _,.obj _ _ _=>rfl
 | .bl _,.cls _=>rfl
 | .bl _,.xc _ _=>rfl
 | .bl _,.tup _=>rfl
 | .bl _,.lst _=>rfl
 | .tup _,.non=>rfl
 | .tup _,.int _=>rfl
 | .tup _,.bl _=>rfl
 | .tup _,.str _=>rfl
 | .tup _,.dct _ _=>rfl
 | .tup _,.typ _=>rfl
 | .tup _,.dcf _ _=>rfl
 | .tup _,.sn _=>rfl
 | .tup _,.obj _ _ _=>rfl
 | .tup _,.cls _=>rfl
 | .tup _,.xc _ _=>rfl
 | .tup _,.lst _=>rfl
theorem zd:∀l m:List D,l.length=m.length->k9 false l m=m
 | [],[],_=>rfl
 | x::l,y::m,h=>by
  show qh false x y::k9 false l m=y::m
  rw[sT x y,zd l m (by simpa using h)]
 | [],_::_,h=>by cases h
 | _::_,[],h=>by cases h
end
theorem C4:zy true k j=k:=by unfold zy;split<;>rfl
theorem C5:zy false k j=j:=by
 unfold zy;split
 ·assumption
 ·rfl
theorem vX{r s:R1}{d:D×Nat}{l:List Prop}(h:Da t r s=.ok d l)(hp:aG l):∃m,(if t=true then r else s)=.ok d m/\aG m:=by
 unfold Da at h
 split at h
 ·cases t with
  | true=>cases h
  | false=>exact⟨l,h,hp⟩
 ·rename_i p m
  split at h
  ·cases t with
   | true=>exact⟨l,h,hp⟩
   | false=>cases h
  ·rename_i q n
   cases h
   obtain⟨p1,p2⟩:=dj.mp hp
   cases t with
   | true=>exact⟨m,by rw[sS,C4];rfl,pz p1 rfl⟩
   | false=>exact⟨n,by rw[sT,C5];rfl,pz p2 rfl⟩
theorem m9{p:D×Nat}{f:Bool->Rs α}{a:α}{l:List Prop}(h:lI p f=.ok a l):∃b,p.1=.bl b/\f b=.ok a l:=by
 unfold lI at h
 split at h
 ·rename_i b e;exact⟨b,e,h⟩
 ·cases h
structure Ih(Φ:Fx)(n:Nat):Prop where
 e:∀(e:Expr) {it:Bool} {sc:Scope} {ρ:ah} {p:D×Nat} {l:List Prop} {X:Cx},sizeOf e<n->ax Φ e it sc ρ=.ok p l->aG l->aL Φ X sc->fT X ρ e it p.1 p.2
 es:∀(es:List Expr) {sc:Scope} {ρ:ah} {p:List D×Nat} {l:List Prop} {X:Cx},sizeOf es<n->bj Φ es sc ρ=.ok p l->aG l->aL Φ X sc->AD X ρ es p.1 p.2
 b:∀(op:BoolOp) (es:List Expr) {sc:Scope} {ρ:ah} {b:Bool} {l:List Prop} {X:Cx},sizeOf es<n->dC Φ op es sc ρ=.ok b l->aG l->aL Φ X sc->dZ X ρ op es b
 o:∀(e:Option Expr) {sc:Scope} {ρ:ah} {o:Option Int} {l:List Prop} {X:Cx},sizeOf e<n->v9 Φ e sc ρ=.ok o l->aG l->aL Φ X sc->OD X ρ e o
theorem aY{a b:Nat}(h:a<b)(hs:b<n+1):a<n:=Qv h (Nat.le_of_lt_succ hs)
section
variable{Φ:Fx}{n:Nat}{it:Bool}{sc:Scope}{ρ:ah}{r:D×Nat}{l:List Prop}{X:Cx}
theorem D6(h:mI Φ x sc ρ=.ok r l)(G:aL Φ X sc):fT X ρ (.Name x pos) it r.1 r.2:=by
 unfold mI at h
 split at h
 ·rename_i hx
  split at h
  ·rename_i hg
   split at h
   ·rename_i d hd;cases h;exact bS (Jl G hd hg hx) (fun _=>rfl)
   ·split at h
    ·rename_i T hT;cases h;exact bS (Jf G hT hg) (fun _=>rfl)
    ·cases h
  ·split at h
   ·rename_i p hl
    unfold mk at h;cases h
    exact bS (dX (o:=p.2) hl hx) (fun _=>rfl)
   ·cases h
 ·cases h
theorem GL(I:Ih Φ n){b:Expr}{op:Operator}(hs:sizeOf (Expr.BinOp a op b pos)<n+1)(h:ax Φ (.BinOp a op b pos) it sc ρ=.ok r l)(hp:aG l)(G:aL Φ X sc):fT X ρ (.BinOp a op b pos) it r.1 r.2:=by
 obtain⟨p,l1,l2,h1,p1,h,p2⟩:=aS (show Rs.bnd _ _=_ from h) hp
 obtain⟨q,l3,l4,h2,p3,h,p4⟩:=aS h p2
 exact bS (Jp ((I.e a (aY (by simp<;>omega) hs) h1 p1 G).ed rfl) ((I.e b (aY (by simp<;>omega) hs) h2 p3 G).ed rfl) h p4) (fun _=>rfl)
theorem KR(I:Ih Φ n){op:UnaryOp}(hs:sizeOf (Expr.UnaryOp op a pos)<n+1)(h:ax Φ (.UnaryOp op a pos) it sc ρ=.ok r l)(hp:aG l)(G:aL Φ X sc):fT X ρ (.UnaryOp op a pos) it r.1 r.2:=by
 obtain⟨p,l1,l2,h1,p1,h,p2⟩:=aS (show Rs.bnd _ _=_ from h) hp
 split at h
 ·rename_i z hu
  cases h
  have c:=I.e a (aY (by simp<;>omega) hs) h1 p1 G
  refine .of (LE (c.ed rfl) hu) fun b hb=>?_
  have hb:z=.bl b:=hb
  subst hb
  unfold yf at hu
  split at hu
  ·cases hu
  ·rename_i e;cases hu;exact Gx (c.td rfl _ e)
  ·cases hu
 ·cases h
theorem GK(I:Ih Φ n){b:Expr}(hs:sizeOf (Expr.Compare a [op] [b] pos)<n+1)(h:ax Φ (.Compare a [op] [b] pos) it sc ρ=.ok r l)(hp:aG l)(G:aL Φ X sc):fT X ρ (.Compare a [op] [b] pos) it r.1 r.2:=by
 obtain⟨p,l1,l2,h1,p1,h,p2⟩:=aS (show Rs.bnd _ _=_ from h) hp
 obtain⟨q,l3,l4,h2,p3,h,p4⟩:=aS h p2
 obtain⟨z,l5,l6,hc,p5,h,p6⟩:=aS h p4
 cases h
 have ca:=(I.e a (aY (by simp<;>omega) hs) h1 p1 G).ed rfl
 have cb:=(I.e b (aY (by simp<;>omega) hs) h2 p3 G).ed rfl
 exact .of (Jm G.room ca cb hc p5 (Dr h2)) fun b' hb'=>by cases hb';exact ym G.room ca cb hc p5 (Dr h2)
theorem A4(I:Ih Φ n){b:Expr}(hs:sizeOf (Expr.Compare a [op,op2] [b,c] pos)<n+1)(h:ax Φ (.Compare a [op,op2] [b,c] pos) it sc ρ=.ok r l)(hp:aG l)(G:aL Φ X sc):fT X ρ (.Compare a [op,op2] [b,c] pos) it r.1 r.2:=by
 obtain⟨p,l1,l2,h1,p1,h,p2⟩:=aS (show Rs.bnd _ _=_ from h) hp
 obtain⟨q,l3,l4,h2,p3,h,p4⟩:=aS h p2
 obtain⟨t,l5,l6,h3,p5,h,p6⟩:=aS h p4
 obtain⟨x,y,z,r1,r2,e1,e2,e3,k1,k2,rfl⟩:=F0 h
 have ca:=(I.e a (aY (by simp<;>omega) hs) h1 p1 G).ed rfl
 have cb:=(I.e b (aY (by simp<;>omega) hs) h2 p3 G).ed rfl
 have cc:=(I.e c (aY (by simp<;>omega) hs) h3 p5 G).ed rfl
 rw[e1]at ca
 rw[e2]at cb
 rw[e3]at cc
 exact .of (BY G.room ca cb cc k1 k2 (Dr h3)) fun b' hb'=>by cases hb';exact A1 G.room ca cb cc k1 k2 (Dr h3)
theorem KT(I:Ih Φ n){b:Expr}(hs:sizeOf (Expr.IfExp c a b pos)<n+1)(h:ax Φ (.IfExp c a b pos) it sc ρ=.ok r l)(hp:aG l)(G:aL Φ X sc):fT X ρ (.IfExp c a b pos) it r.1 r.2:=by
 obtain⟨p,l1,l2,h1,p1,h,p2⟩:=aS (show Rs.bnd _ _=_ from h) hp
 obtain⟨t,ht,h⟩:=m9 h
 obtain⟨m,he,hm⟩:=vX h p2
 have hc:=(I.e c (aY (by simp<;>omega) hs) h1 p1 G).td rfl t ht
 cases t with
 | true =>
  rw[if_pos rfl]at he
  have ha:=I.e a (aY (by simp<;>omega) hs) he hm G
  refine .of (Dl hc (by rw[if_pos rfl];exact ha.ed rfl)) fun b' hb'=>?_
  intro ow pins s σ H Q I ⟨E,q⟩
  refine isTrue_IfExp (aN (hc ow pins s σ H (fun t H1=>t=true/\ar H H1) I ⟨E,fun H1 s1=>⟨rfl,s1⟩⟩) fun t s1 ⟨H1,I1,e1,s1'⟩=>?_)
  subst e1
  exact ha.td rfl b' hb' ow pins s1 σ H1 Q I1 ⟨E.same s1',fun H2 s2=>q H2 (s1'.trans s2)⟩
 | false =>
  rw[if_neg QL]at he
  have hb:=I.e b (aY (by simp<;>omega) hs) he hm G
  refine .of (Dl hc (by rw[if_neg QL];exact hb.ed rfl)) fun b' hb'=>?_
  intro ow pins s σ H Q I ⟨E,q⟩
  refine isTrue_IfExp (aN (hc ow pins s σ H (fun t H1=>t=false/\ar H H1) I ⟨E,fun H1 s1=>⟨rfl,s1⟩⟩) fun t s1 ⟨H1,I1,e1,s1'⟩=>?_)
  subst e1
  exact hb.td rfl b' hb' ow pins s1 σ H1 Q I1 ⟨E.same s1',fun H2 s2=>q H2 (s1'.trans s2)⟩
theorem wT{r:D×Nat}{l:List Prop}(h:ax Φ e it sc ρ=.ok r l):gn e:=by
 cases e<;>first|(intro _ _;rfl)|cases h
theorem KS(I:Ih Φ n){i:Expr}(hs:sizeOf (Expr.Subscript a i pos)<n+1)(h:((ax Φ a false sc ρ).bnd fun p=>(ax Φ i false sc ρ).bnd fun q=>jM p q)=.ok r l)(hp:aG l)(G:aL Φ X sc):fT X ρ (.Subscript a i pos) it r.1 r.2:=by
 obtain⟨p,l1,l2,h1,p1,h,p2⟩:=aS h hp
 obtain⟨q,l3,l4,h2,p3,h,p4⟩:=aS h p2
 exact bS (Jg ((I.e a (aY (by simp<;>omega) hs) h1 p1 G).ed rfl) ((I.e i (aY (by simp<;>omega) hs) h2 p3 G).ed rfl) (wT h2) h) (fun _=>rfl)
theorem GI(I:Ih Φ n){i:Expr}(hs:sizeOf (Expr.Subscript a i pos)<n+1)(h:ax Φ (.Subscript a i pos) it sc ρ=.ok r l)(hp:aG l)(G:aL Φ X sc):fT X ρ (.Subscript a i pos) it r.1 r.2:=by
 exact KS I hs h hp G
theorem D7(I:Ih Φ n)(hs:sizeOf args<n)(hf:sc.names.lookup f=some .globalImplicit)(h0:((bj Φ args sc ρ).bnd fun p=>j8 Φ f it p.1 p.2)=.ok r l)(hp:aG l)(G:aL Φ X sc):fT X ρ (.Call (.Name f p) args [] pos) it r.1 r.2:=by
 obtain⟨q,l1,l2,h1,p1,h,p2⟩:=aS h0 hp
 clear h0
 have ha:=I.es args hs h1 p1 G
 obtain⟨hst,hlen⟩:=dh h1 p1
 unfold j8 at h
 split at h
 ·rename_i F hF
  obtain⟨d,l3,l4,h2,p3,h,p4⟩:=aS h p2
  cases h
  exact bS (FQ G hF hf ha hst (fun z=>by subst z;exact RN.mp hlen.symm) h2 p3) (fun _=>rfl)
 ·split at h
  ·rename_i B hB
   split at hB
   ·rename_i hit
    have hI:=G.itr f B hB
    refine⟨fun z=>(by rw[hit]at z;cases z),fun z=>(by rw[hit]at z;cases z),fun _ tg l' hl ht=>?_⟩
    exact hI.2 X ρ p pos args q.1 q.2 r.1 r.2 l' tg l2 G.calm (G.gl f hf) (G.bl f hI.1) ha hst hlen h p2 hl ht
   ·cases hB
  ·split at h
   ·rename_i B hB
    have hb:=G.blt f B hB
    cases args with
    | nil =>
     have e0:q.1=[]:=RN.mp hlen.symm
     rw[e0,hb.2.2.2.1]at h;cases h
    | cons e es=>exact bS (Jo G hb hf ha hst h p2) (fun _=>rfl)
   ·cases h
theorem A5(I:Ih Φ n)(hs:sizeOf (Expr.Call (.Name f p) args [] pos)<n+1)(h:ax Φ (.Call (.Name f p) args [] pos) it sc ρ=.ok r l)(hp:aG l)(G:aL Φ X sc):fT X ρ (.Call (.Name f p) args [] pos) it r.1 r.2:=by
 rw[iC]at h
 split at h
 ·rename_i hf
  exact D7 I (aY (by simp<;>omega) hs) hf h hp G
 ·cases h
theorem A6(I:Ih Φ n)(hs:sizeOf (Expr.Call (.Attribute a m ap) args [] pos)<n+1)(h:ax Φ (.Call (.Attribute a m ap) args [] pos) it sc ρ=.ok r l)(hp:aG l)(G:aL Φ X sc):fT X ρ (.Call (.Attribute a m ap) args [] pos) it r.1 r.2:=by
 rw[tV]at h
 split at h
 ·rename_i hln
  obtain⟨p,l1,l2,h1,p1,h,p2⟩:=aS h hp
  obtain⟨q,l3,l4,h2,p3,h,p4⟩:=aS h p2
  obtain⟨hst,hlen⟩:=dh h2 p3
  have hea:=(I.e a (aY (by simp<;>omega) hs) h1 p1 G).ed rfl
  have hes:=I.es args (aY (by simp<;>omega) hs) h2 p3 G
  obtain⟨x,kx⟩:=p
  unfold BH at h
  dsimp only at h hea
  split at h
  ·rename_i hb
   split at h
   ·rename_i M hM
    exact bS (G.mth m M hM X ρ a args ap pos x kx q.1 q.2 r.1 r.2 l4 G.calm G.room hea hes hst hlen hln hb h p4) (fun _=>rfl)
   ·cases h
  ·cases h
 ·cases h
theorem DM{q:List D×Nat}{m:List Prop}(hE:∀{ρ:ah} {p:D×Nat} {l:List Prop} {X:Cx},ax Φ elt false scope ρ=.ok p l->aG l->aL Φ X scope->fT X ρ elt false p.1 p.2)
    (hB:∀{ρ:ah} {b:Bool} {l:List Prop} {X:Cx},dC Φ .And ifs scope ρ=.ok b l->aG l->aL Φ X scope->dZ X ρ .And ifs b) (hc:nM sc scope=true) (G:aL Φ X sc)
    (h:gr (fun d=>match bE scope tg d (flt scope ρ)with
            | none=>.st
            | some ρ'=>(dC Φ .And ifs scope ρ').bnd fun b=>cond b ((ax Φ elt false scope ρ').bnd fun r=>.ok (some r) []) (.ok none [])) ds=.ok q m) (hp:aG m) (hj:q.2<=1) :
    ∃f:D->Option D,q.1=ds.filterMap f/\∀cl C s H fp,∀d∈ds,nh (lu X scope cl C (scope.names.map (·.1)) s H fp) (flt scope ρ) tg ifs elt q.2 d (f d):=by
  generalize hst:(fun d=>match bE scope tg d (flt scope ρ)with
            | none=>.st
            | some ρ'=>(dC Φ .And ifs scope ρ').bnd fun b=>cond b ((ax Φ elt false scope ρ').bnd fun r=>.ok (some r) []) (.ok none []):D->Rs (Option (D×Nat)))=step at h
  obtain⟨c1,c2,c3⟩:=t8 h hp
  refine⟨_,c2,fun cl C s H fp d hd=>?_⟩
  have G':=FE (cl:=cl) (C:=C) (s:=s) (H:=H) (fp:=fp) G hc
  obtain⟨x,lx,hx,px⟩:=c1 d hd
  have c3:=c3 hj d hd
  have hs:=congrFun hst d
  unfold rA
  rw[hx]
  split at hs
  . rw[<- hs]at hx;cases hx
  . rename_i ρ' hb
    have gd:=pu G' hb
    have ext:∀x y,flt scope ρ x=some y->ρ' x=some y:=fun x y hxy=>Aq hb x y (jX hxy).2 hxy
    have hx0:=hx
    rw[<- hs]at hx
    obtain⟨b,l3,l4,h2,p3,hx,p4⟩:=aS hx px
    have ts:=(hB h2 p3 G').ts rfl
    cases b with
    | false =>
      cases hx
      exact⟨ρ',false,gd,ext,ts,rfl⟩
    | true =>
      rw[cond_true]at hx
      obtain⟨z,l5,l6,h3,p5,hx,p6⟩:=aS hx p4
      cases hx
      exact⟨ρ',true,gd,ext,ts,rfl,((hE h3 p5 G').ed rfl).up (c3 z lx hx0) hj⟩
theorem vn(I:Ih Φ n)(hs:sizeOf (Expr.ListComp elt [⟨tg,iter,ifs,0⟩] scope pos)<n+1)(h:ax Φ (.ListComp elt [⟨tg,iter,ifs,0⟩] scope pos) it sc ρ=.ok r l)(hp:aG l)(G:aL Φ X sc) :
  ∃ds f k,(au ds=true\/k<=1)/\r.2<=1/\ds.length<sizeLine/\gI X.env scope (scope.names.map (·.1))/\(∀x d o,flt scope ρ x=some (d,o)->x∈scope.names.map (·.1))/\IE X ρ tg iter ds k /\
   (∀cl C s H fp,∀d∈ds,nh (lu X scope cl C (scope.names.map (·.1)) s H fp) (flt scope ρ) tg ifs elt r.2 d (f d))/\(∀x,foldedSetIterable iter X.env x=pure x)/\r.1=.lst (ds.filterMap f):=by
 rw[qt]at h
 split at h
 ·rename_i hc
  obtain⟨p,l1,l2,h1,p1,h,p2⟩:=aS h hp
  split at h
  ·rename_i ds hd
   split at h
   ·rename_i ht
    obtain⟨u0,l7,l8,h7,p7,h,p8⟩:=aS h p2
    cases h7
    have hl:=And.intro p7.1 p7.2.1
    obtain⟨q,l3,l4,h2,p3,h,p4⟩:=aS h p8
    split at h
    ·rename_i hj
     cases h
     obtain⟨f,e1,t⟩:=DM (fun a b c=>I.e elt (by first|omega|(simp at *;omega)) a b c) (fun a b c=>I.b .And ifs (by first|omega|(simp at *;omega)) a b c) hc G h2 p3 hj
     refine⟨ds,f,p.2,hl.2,hj,Rg hl.1 ld,Ab G hc,fun x d o hx=>o7 (jX hx).2,(I.e iter (by first|omega|(simp at *;omega)) h1 p1 G).ie rfl tg ds hd ht,t,qR h1,by rw[e1]⟩
    ·cases h
   ·cases h
  ·cases h
 ·cases h
theorem qp{gens:List Comprehension}(h:ax Φ (.ListComp elt gens scope pos) it sc ρ=.ok r l):∃tg iter ifs,gens=[⟨tg,iter,ifs,0⟩]:=by
 match gens,h with
 | [⟨tg,iter,ifs,0⟩],h=>exact⟨_,_,_,rfl⟩
 | [],h=>cases h
 | ⟨_,_,_,.ofNat (n+1)⟩::r,h=>cases r<;>cases h
 | ⟨_,_,_,.negSucc n⟩::_,h=>cases h
 | ⟨_,_,_,0⟩::_::_,h=>cases h
theorem LB(I:Ih Φ n)(e:Expr)(hs:sizeOf e<n+1)(h:ax Φ e it sc ρ=.ok r l)(hp:aG l)(G:aL Φ X sc):fT X ρ e it r.1 r.2:=by
 cases e with
 | Constant c k p =>
  replace h:(match Do c with|some d=>.ok (d,0) []|none=>.st:R1)=.ok r l:=h
  split at h
  ·rename_i d hc;cases h;exact bS (Jk hc) (fun _=>rfl)
  ·cases h
 | Name x p=>exact D6 h G
 | BinOp a op b p=>exact GL I hs h hp G
 | UnaryOp op a p=>exact KR I hs h hp G
 | BoolOp op es p =>
  rw[qu]at h
  split at h
  ·cases h
  ·rename_i hne
   obtain⟨b,l1,l2,h1,p1,h,p2⟩:=aS h hp
   cases h
   have ne:es≠[]:=fun z=>hne (by rw[z];rfl)
   have c:=I.b op es (aY (by simp<;>omega) hs) h1 p1 G
   exact .of (c.ed ne p) fun b' hb'=>by cases hb';exact fun ow=>(c.tw ne p ow).pt
 | Compare a ops bs p =>
  match ops,bs,hs,h with
  | [op],[b],hs,h=>exact GK I hs h hp G
  | [],bs,_,h=>cases h
  | [op],[],_,h=>cases h
  | [op],_::_::_,_,h=>cases h
  | [op,op2],[b,c],hs,h=>exact A4 I hs h hp G
  | [_,_],[],_,h=>cases h
  | [_,_],[_],_,h=>cases h
  | [_,_],_::_::_::_,_,h=>cases h
  | _::_::_::_,bs,_,h=>cases h
 | IfExp c a b p=>exact KT I hs h hp G
 | Tuple es k p =>
  obtain⟨q,l1,l2,h1,p1,h,p2⟩:=aS (show Rs.bnd _ _=_ from h) hp
  split at h
  ·rename_i hl
   unfold mk at h;cases h
   exact bS (BX (I.es es (aY (by simp<;>omega) hs) h1 p1 G) hl) (fun _=>rfl)
  ·cases h
 | List es p =>
  obtain⟨q,l1,l2,h1,p1,h,p2⟩:=aS (show Rs.bnd _ _=_ from h) hp
  split at h
  ·rename_i hl
   cases h
   exact bS (qw (I.es es (aY (by simp<;>omega) hs) h1 p1 G) hl.2 hl.1) (fun _=>rfl)
  ·cases h
 | Attribute a f p=>cases h
 | Dict ks vs p =>
  match ks,vs,h with
  | [],[],h=>cases h;exact bS Ji (fun _=>rfl)
  | _::_,_,h=>cases h
  | [],_::_,h=>cases h
 | Subscript a i p=>exact GI I hs h hp G
 | Call f args kws p =>
  cases f with
  | Name f fp =>
   cases kws with
   | nil=>exact A5 I hs h hp G
   | cons _ _=>cases h
  | Attribute a m ap =>
   cases kws with
   | nil=>exact A6 I hs h hp G
   | cons _ _=>cases h
  | _=>cases h
 | ListComp elt gens scope p =>
  obtain⟨tg,iter,ifs,rfl⟩:=qp h
  obtain⟨ds,f,k,a1,a2,a3,a4,a5,a6,a7,a8,a9⟩:=vn I hs h hp G
  rw[a9]
  exact bS (FP G.calm G.nd a1 a2 a3 a4 a5 a6 a7 a8) (fun _=>rfl)
 | _=>cases h
theorem Ja(I:Ih Φ n)(es:List Expr){r:List D×Nat}(hs:sizeOf es<n+1)(h:bj Φ es sc ρ=.ok r l)(hp:aG l)(G:aL Φ X sc):AD X ρ es r.1 r.2:=by
 cases es with
 | nil=>cases h;exact fo
 | cons e es =>
  obtain⟨p,l1,l2,h1,p1,h,p2⟩:=aS (show Rs.bnd _ _=_ from h) hp
  obtain⟨q,l3,l4,h2,p3,h,p4⟩:=aS h p2
  cases h
  exact dY ((I.e e (aY (by simp<;>omega) hs) h1 p1 G).ed rfl) (I.es es (aY (by simp<;>omega) hs) h2 p3 G) (aF (gW h1))
theorem uo{c:Bool}{r:Rs Bool}{l:List Prop}(h:xP b r=.ok c l)(hp:aG l):(b=true/\∃m,r=.ok c m/\aG m)\/(b=false/\c=false):=by
 unfold xP at h
 split at h
 ·rename_i c' m
  cases h
  cases b with
  | true=>exact .inl ⟨rfl,m,rfl,pz hp rfl⟩
  | false=>exact .inr ⟨rfl,rfl⟩
 ·cases b with
  | true=>cases h
  | false=>cases h;exact .inr ⟨rfl,rfl⟩
theorem vH{c:Bool}{r:Rs Bool}{l:List Prop}(h:CO b r=.ok c l)(hp:aG l):(b=false/\∃m,r=.ok c m/\aG m)\/(b=true/\c=true):=by
 unfold CO at h
 split at h
 ·rename_i c' m
  cases h
  cases b with
  | false=>exact .inl ⟨rfl,m,rfl,pz hp rfl⟩
  | true=>exact .inr ⟨rfl,rfl⟩
 ·cases b with
  | false=>cases h
  | true=>cases h;exact .inr ⟨rfl,rfl⟩
theorem Jc(I:Ih Φ n)(op:BoolOp)(es:List Expr)(hs:sizeOf es<n+1)(h:dC Φ op es sc ρ=.ok b l)(hp:aG l)(G:aL Φ X sc):dZ X ρ op es b:=by
 cases es with
 | nil =>
  cases op with
  | And=>cases h;exact⟨fun z=>absurd rfl z,fun z=>absurd rfl z,fun _=>yi⟩
  | Or=>cases h;exact⟨fun z=>absurd rfl z,fun z=>absurd rfl z,fun z=>(by cases z)⟩
 | cons e es =>
  cases op with
  | And =>
   obtain⟨p,l1,l2,h1,p1,h,p2⟩:=aS (show Rs.bnd _ _=_ from h) hp
   obtain⟨b',hb,h⟩:=m9 h
   have c:=I.e e (aY (by simp<;>omega) hs) h1 p1 G
   have ce:=c.ed rfl
   rw[hb]at ce
   have ct:=c.td rfl b' hb
   rcases uo h p2 with⟨rfl,m,h,pm⟩|⟨rfl,rfl⟩
   ·cases es with
    | nil=>cases h;exact gv ce ct
    | cons e2 es=>exact uW ce ct (I.b .And (e2::es) (aY (by simp<;>omega) hs) h pm G)
   ·cases es with
    | nil=>exact gv ce ct
    | cons e2 es=>exact uf ce ct (fun pos=>⟨_,sI⟩) (fun pos=>⟨_,sB⟩)
  | Or =>
   obtain⟨p,l1,l2,h1,p1,h,p2⟩:=aS (show Rs.bnd _ _=_ from h) hp
   obtain⟨b',hb,h⟩:=m9 h
   have c:=I.e e (aY (by simp<;>omega) hs) h1 p1 G
   have ce:=c.ed rfl
   rw[hb]at ce
   have ct:=c.td rfl b' hb
   rcases vH h p2 with⟨rfl,m,h,pm⟩|⟨rfl,rfl⟩
   ·cases es with
    | nil=>cases h;exact gv ce ct
    | cons e2 es=>exact xL ce ct (I.b .Or (e2::es) (aY (by simp<;>omega) hs) h pm G)
   ·cases es with
    | nil=>exact gv ce ct
    | cons e2 es=>exact uV ce ct (fun pos=>⟨_,sI⟩) (fun pos=>⟨_,sB⟩)
theorem Jb(I:Ih Φ n)(e:Option Expr){o:Option Int}(hs:sizeOf e<n+1)(h:v9 Φ e sc ρ=.ok o l)(hp:aG l)(G:aL Φ X sc):OD X ρ e o:=by
 cases e with
 | none=>cases h;exact Fb
 | some e =>
  obtain⟨p,l1,l2,h1,p1,h,p2⟩:=aS (show Rs.bnd _ _=_ from h) hp
  have c:=(I.e e (aY (by simp<;>omega) hs) h1 p1 G).ed rfl
  split at h
  ·rename_i i hi
   cases h
   rw[hi]at c
   exact Fa c
  ·cases h
end
theorem ir(Φ:Fx):∀n,Ih Φ n
 | 0=>⟨fun _ _ _ _ _ _ _ h=>absurd h (Ro _),fun _ _ _ _ _ _ h=>absurd h (Ro _),fun _ _ _ _ _ _ _ h=>absurd h (Ro _),fun _ _ _ _ _ _ h=>absurd h (Ro _)⟩
 | n+1=>⟨fun e _ _ _ _ _ _ hs h hp G=>LB (ir Φ n) e hs h hp G,fun e _ _ _ _ _ hs h hp G=>Ja (ir Φ n) e hs h hp G,fun op e _ _ _ _ _ hs h hp G=>Jc (ir Φ n) op e hs h hp G,fun e _ _ _ _ _ hs h hp G=>Jb (ir Φ n) e hs h hp G⟩
theorem LC(e:Expr){p:D×Nat}{l:List Prop}(h:ax Φ e it sc ρ=.ok p l)(hp:aG l)(G:aL Φ X sc):fT X ρ e it p.1 p.2:=(ir Φ _).e e (QV _) h hp G
theorem lC(es:List Expr){p:List D×Nat}{l:List Prop}(h:bj Φ es sc ρ=.ok p l)(hp:aG l)(G:aL Φ X sc):AD X ρ es p.1 p.2:=(ir Φ _).es es (QV _) h hp G
structure aI(ow:Ow)(H:Hp)(ow':Ow)(H':Hp):Prop where
 keep:∀a o,H a=some o->(nm o\/ow a=none)->H' a=some o
 low:∀a o,H a=some o->ow a=none->ow' a=none
theorem aI.refl(ow:Ow)(H:Hp):aI ow H ow H:=⟨fun _ _ h _=>h,fun _ _ _ h=>h⟩
theorem aI.same(s:ar H H'):aI ow H ow H':=⟨fun a o h _=>s a o h,fun _ _ _ h=>h⟩
theorem aI.trans{ow1 ow2:Ow}{H1 H2:Hp}(a:aI ow H ow1 H1)(b:aI ow1 H1 ow2 H2):aI ow H ow2 H2 :=
 ⟨fun x o h c=>b.keep x o (a.keep x o h c) (c.imp id fun z=>a.low x o h z),fun x o h z=>b.low x o (a.keep x o h (.inr z)) (a.low x o h z)⟩
noncomputable def bi(H0:Hp)(ow:Ow)(H:Hp):Prop:=∀a o,H0 a=some o->H a=some o/\ow a=none
theorem bi.keep{H0:Hp}(b:bi H0 ow H)(k:aI ow H ow' H'):bi H0 ow' H':=fun a o h=>let ⟨h1,h2⟩:=b a o h;⟨k.keep a o h1 (.inr h2),k.low a o h1 h2⟩
theorem bi.sm{H0:Hp}(b:bi H0 ow H):ar H0 H:=fun a o h=>(b a o h).1
variable{X:Cx}
noncomputable def kg(X:Cx)(H0:Hp)(ow:Ow)(H:Hp)(fl:Fl)(D:kh):Prop :=
 match fl with
 | .nx ρ => ∀ow' σ' H',aC X ow' H' σ' ρ->σ'.length=X.N.length->aI ow H ow' H'->D.nx σ' H'
 | .bk ρ => ∀ow' σ' H',aC X ow' H' σ' ρ->σ'.length=X.N.length->aI ow H ow' H'->D.bk σ' H'
 | .ct ρ => ∀ow' σ' H',aC X ow' H' σ' ρ->σ'.length=X.N.length->aI ow H ow' H'->D.ct σ' H'
 | .rt d => ∀v H',ar H0 H'->ai X.K H' (fun a b=>b=true/\H0 a=none) d v->D.rt v H'
theorem kg.keep{H0:Hp}{D:kh}(p:kg X H0 ow H fl D)(k:aI ow H ow' H'):kg X H0 ow' H' fl D:=by
 cases fl with
 | nx ρ=>exact fun ow2 σ2 H2 a b c=>p ow2 σ2 H2 a b (k.trans c)
 | bk ρ=>exact fun ow2 σ2 H2 a b c=>p ow2 σ2 H2 a b (k.trans c)
 | ct ρ=>exact fun ow2 σ2 H2 a b c=>p ow2 σ2 H2 a b (k.trans c)
 | rt d=>exact p
noncomputable def yn(X:Cx)(H0:Hp)(ρ:ah)(fl:Fl):TS:=fun D σ H => ∃ow,aC X ow H σ ρ/\σ.length=X.N.length/\bi H0 ow H/\kg X H0 ow H fl D
noncomputable def SD(X:Cx)(H0:Hp)(ρ:ah)(st:Stmt)(fl:Fl):Prop:=PS X st (yn X H0 ρ fl)
noncomputable def cX(X:Cx)(H0:Hp)(ρ:ah)(st:List Stmt)(fl:Fl):Prop:=cZ X st (yn X H0 ρ fl)
theorem vu{H0:Hp}:cX X H0 ρ [] (.nx ρ):=fun pins s σ H D I ⟨ow,E,hl,B,q⟩=>qe pins s σ H D I (q ow σ H E hl (aI.refl _ _))
theorem dG{H0:Hp}{ρ1:ah}(h1:SD X H0 ρ st (.nx ρ1))(h2:cX X H0 ρ1 ss fl):cX X H0 ρ (st::ss) fl:=fun pins s σ H D I ⟨ow,E,hl,B,q⟩ =>
 df h1 h2 pins s σ H D I ⟨ow,E,hl,B,fun ow' σ' H' E' hl' k=>⟨ow',E',hl',B.keep k,q.keep k⟩⟩
theorem nW{H0:Hp}(h1:SD X H0 ρ st fl)(hf:∀ρ',fl ≠ .nx ρ'):cX X H0 ρ (st::ss) fl:=fun pins s σ H D I ⟨ow,E,hl,B,q⟩ =>
 df h1 gB pins s σ H D I ⟨ow,E,hl,B,by
  cases fl with
  | nx ρ'=>exact absurd rfl (hf ρ')
  | bk ρ'=>exact q
  | ct ρ'=>exact q
  | rt d=>exact q⟩
theorem GZ{H0:Hp}(h:ED X ρ e d k)(hk:k=0\/k=2):SD X H0 ρ (.Return (some e) pos) (.rt d):=fun pins s σ H D I ⟨ow,E,hl,B,q⟩ =>
 sE (h ow) pins s σ H D I ⟨E,fun v H1 s1 r1=>q v H1 (B.sm.trans s1) (r1.imp fun a b p=>by
  rcases hk with rfl|rfl
  ·exact⟨p.1,B.sm.free p.2⟩
  ·refine⟨p.1,p.2.elim (fun z=>?_) B.sm.free⟩
   cases e0:H0 a with
   | none=>rfl
   | some o=>exact absurd (B a o e0).2 z)⟩
theorem FM(E:aC X ow H σ ρ):aC X (fun _=>none) H σ (jF ρ):=by
 refine⟨fun x d o h=>?_,fun a z=>absurd rfl z⟩
 unfold jF at h
 cases e:ρ x with
 | none=>rw[e]at h;cases h
 | some y =>
  rw[e]at h
  cases h
  obtain⟨i,v,h1,h2,h3,h4⟩:=E.get x y.1 y.2 e
  exact⟨i,v,h1,h2,h3,h4.imp fun _ _ _ _=>rfl⟩
theorem Eg{H0:Hp}(h:ED X (jF ρ) e d k)(hk:k=0\/k=2):SD X H0 ρ (.Return (some e) pos) (.rt d):=fun pins s σ H D I ⟨ow,E,hl,B,q⟩ =>
 sE (h fun _=>none) pins s σ H D I ⟨FM E,fun v H1 s1 r1=>q v H1 (B.sm.trans s1) (r1.imp fun a b p=>by
  rcases hk with rfl|rfl
  ·exact⟨p.1,B.sm.free p.2⟩
  ·exact⟨p.1,p.2.elim (fun z=>absurd rfl z) B.sm.free⟩)⟩
theorem Ej{H0:Hp}(h:ED X ρ e d k)(hc:∃f p args ks cp,e=.Call (.Name f p) args ks cp):SD X H0 ρ (.Expr e pos) (.nx ρ):=fun pins s σ H D I ⟨ow,E,hl,B,q⟩=>by
 obtain⟨f,p,args,ks,cp,rfl⟩:=hc
 exact jl (h ow) rfl pins s σ H D I ⟨E,fun v H1 s1 r1=>q ow σ H1 (E.same s1) hl (aI.same s1)⟩
theorem Ef{H0:Hp}:SD X H0 ρ (.Return none pos) (.rt .non):=fun pins s σ H D I ⟨ow,E,hl,B,q⟩=>EA pins s σ H D I (q .non H B.sm (by rw[ai]))
theorem Eh{H0:Hp}:SD X H0 ρ (.Pass pos) (.nx ρ):=fun pins s σ H D I ⟨ow,E,hl,B,q⟩=>EB pins s σ H D I (q ow σ H E hl (aI.refl _ _))
theorem Bh{H0:Hp}:SD X H0 ρ (.Break pos) (.bk ρ):=fun pins s σ H D I ⟨ow,E,hl,B,q⟩=>Bp pins s σ H D I (q ow σ H E hl (aI.refl _ _))
theorem El{H0:Hp}:SD X H0 ρ (.Continue pos) (.ct ρ):=fun pins s σ H D I ⟨ow,E,hl,B,q⟩=>uP pins s σ H D I (q ow σ H E hl (aI.refl _ _))
theorem CG{H0:Hp}{a b:List Stmt}(hc:TD X ρ c t)(h:if t=true then cX X H0 ρ a fl else cX X H0 ρ b fl):SD X H0 ρ (.If c a b pos) fl:=by
 cases t with
 | true =>
  intro pins s σ H D I ⟨ow,E,hl,B,q⟩
  exact wR (hc ow) h gB pins s σ H D I ⟨E,fun H1 s1=>by
   show if true=true then _ else _
   rw[if_pos rfl]
   exact⟨ow,E.same s1,hl,B.keep (aI.same s1),q.keep (aI.same s1)⟩⟩
 | false =>
  intro pins s σ H D I ⟨ow,E,hl,B,q⟩
  exact wR (hc ow) gB h pins s σ H D I ⟨E,fun H1 s1=>by
   show if false=true then _ else _
   rw[if_neg QL]
   exact⟨ow,E.same s1,hl,B.keep (aI.same s1),q.keep (aI.same s1)⟩⟩
theorem qv{H1:Hp}(hN:X.N.Nodup)(hl:σ.length=X.N.length)(E:aC X ow H σ ρ)(sm:ar H H1)(hi:X.N[i]?=some x)(hv:eZ X.env.scope x)(r:ai X.K H1 (Kp ow H 0) d v) :
  ∃ow',aC X ow' H1 (σ.set i (some v)) (aM ρ x (d,true))/\aI ow H ow' H1:=by
 classical
 let ow':Ow:=fun a=>if H a=none/\∃o,H1 a=some o then some (some x)else ow a
 have o1:∀a o,H a=some o->ow' a=ow a:=fun a o h=>if_neg (fun z=>by rw[h]at z;cases z.1)
 have E1:aC X ow' H1 σ ρ:=⟨fun y e o h=>by
  obtain⟨j,w,e1,e2,e3,e4⟩:=E.get y e o h
  refine⟨j,w,e1,e2,e3,ai.same sm (e4.impH (fun a ob ha p=>?_) fun a p=>?_)⟩
  ·cases o with
   | true=>exact⟨p.1,(o1 a ob ha).trans p.2⟩
   | false=>exact fun z=>(o1 a ob ha).trans (p z)
  ·cases o with
   | true=>cases p.1
   | false=>exact fun z=>(by cases z),fun a ha=>by
  by_cases hz:H a=none/\∃o,H1 a=some o
  ·exact hz.2
  ·have:ow' a=ow a:=if_neg hz
   rw[this]at ha
   exact(E.own.same sm) a ha⟩
 refine⟨ow',eS hN hl E1 hi hv (r.impH (fun a o ha p=>⟨rfl,if_pos ⟨p.2,o,ha⟩⟩) fun a p=>(by cases p.1)),fun a o h _=>sm a o h,fun a o h z=>(o1 a o h).trans z⟩
theorem gp{t:Option Expr}(h:jx e=false):swapsWith e t n env=pure false:=by
 cases e<;>first|rfl|cases h
theorem sj{H0:Hp}{o:Bool}(G:aL Φ X sc)(hx:bX sc x=true)(h:ED X ρ e d k)(ho:(k=0/\o=true)\/(k=1/\o=false))(hs:swapsWith e (some (.Name x p)) pos.line X.env=pure false) :
  SD X H0 ρ (.Assign [.Name x p] e pos) (.nx (aM ρ x (d,o))):=by
 obtain⟨g1,g2,g3,i,g4⟩:=fL G hx
 intro pins s σ H D I ⟨ow,E,hl,B,q⟩
 refine yR (i:=i) G.nd g4 g1 (h ow) hs g3 pins s σ H D I ⟨E,fun v H1 s1 r1=>?_⟩
 show D.nx (σ.set i (some v)) H1
 rcases ho with⟨rfl,rfl⟩|⟨rfl,rfl⟩
 ·obtain⟨ow',E',k'⟩:=qv G.nd hl E s1 g4 g2 r1
  exact q ow' _ H1 E' (by rw[Ri];exact hl) k'
 ·exact q ow _ H1 (eS G.nd hl (E.same s1) g4 g2 r1) (by rw[Ri];exact hl) (aI.same s1)
theorem gx:swapsWithSole [.Tuple es n p] e k env=pure false:=by
 cases e<;>rfl
theorem kL{i:Expr}:swapsWithSole [.Subscript a i p] e k env=pure false:=by
 cases e<;>rfl
noncomputable def OJ(K:W.Frag)(n:Nat)(t:pQ):TG:=fun v σ H Q => ∃a xs,v=.ref a/\bT K H a xs/\xs.length=n/\t xs σ H Q
theorem Hl{t:pQ}(hc:X.calm=true)(h:wm X es t)
  (hn:(assignEach es X.env).length=n) (hst:(assignEach es X.env).findIdx? (·.1)=none):PG X (.Tuple es k pos) (OJ X.K n t):=by
 intro pins s σ H v u Q I r hw
 obtain⟨a,xs,e1,hq,hl,hw⟩:=hw
 subst e1
 cases r
 obtain⟨its,rv,pl,hz⟩:=I.list hq
 have hsz:(assignEach es X.env).length=its.toArray.size:=by simp[hn,<- hl,rv.length]
 rw[assign_Tuple]
 refine Qh (Sj ?_)
 unfold unpack
 rw[hst,hsz]
 refine Qh (Q7 (W.kun_itemsOf (I.ok.hd hc) pl.isList fun h' hx=>?_))
 have I1:ak X pins σ H { s with heap:=h' }:=I.kept (t':=s.toks) fun b o e=>hx b o (QS (Qy e)) e
 exact h pins _ σ H xs _ Q I1 (by simpa using rv) hw
theorem oV{H1:Hp}(o:cM ow H)(hf:au ds=true\/k<=1)(r:aj X.K H1 (Kp ow H k) ds vs):aj X.K H1 (fun a b=>b=true->ow a=none) ds vs:=by
 rcases hf with hf|hf
 ·exact r.flat _ hf
 ·exact r.imp fun a b p hb=>by subst hb;exact eB o hf p
theorem pV(G:aL Φ X sc)(ht:yr sc es e=false):swappedStores [.Tuple es n p] e X.env=pure none:=by
 unfold yr at ht
 cases hte:tz e with
 | false=>cases e<;>first|rfl|cases hte
 | true =>
  rw[hte]at ht
  have hc:ud sc es e=true:=by simpa using ht
  unfold ud at hc
  split at hc
  ·rename_i x px y py a b m q
   have k1:X.env.kindOf x=some .cell:=G.cc x (by simpa using hc)
   unfold swappedStores
   dsimp only
   split
   ·rfl
   ·split
    ·rfl
    ·rw[if_pos]
     rw[List.filterMap_cons_none (by simp[k1])]
     have:∀l:List Str,l.length<=1->(l.length != [Expr.Name x px,Expr.Name y py].length || l.eraseDups.length != l.length)=true:=fun l hl=>by
      have:(l.length != [Expr.Name x px,Expr.Name y py].length)=true:=by simp;omega
      rw[this];rfl
     exact this _ (QA (List.length_filterMap_le _ _) (Ql _))
  ·cases hc
theorem GX{H0:Hp}(G:aL Φ X sc)(h:ED X ρ e d k)(hd:iM d=some ds)(hf:au ds=true\/k<=1)(hb:aQ sc es ds ρ=some ρ')(ht:yr sc es e=false) :
  SD X H0 ρ (.Assign [.Tuple es n p] e pos) (.nx ρ'):=by
 obtain⟨t,h1,h2,h3,h4⟩:=kZ G hb
 intro pins s σ H D I ⟨ow,E,hl,B,q⟩
 have fin:∀H1 vs,ar H H1->aj X.K H1 (Kp ow H k) ds vs->t vs σ H1 D.nx:=fun H1 vs s1 rl=>h4 ow vs σ H1 D.nx hl (E.same s1) (oV E.own hf rl) fun σ' hl' E'=>q ow σ' H1 E' hl' (aI.same s1)
 rcases ij hd with rfl|rfl
 ·refine jn (h ow) (sG (n:=_) G.calm h1 h2 h3) gx (pV G ht) rfl pins s σ H D I ⟨E,fun v H1 s1 r1=>?_⟩
  obtain⟨a,vs,rfl,hs,rl⟩:=jh r1
  exact⟨a,vs,rfl,hs,rl.length.symm,fin H1 vs s1 rl⟩
 ·refine jn (h ow) (Hl (n:=_) G.calm h1 h2 h3) gx (pV G ht) rfl pins s σ H D I ⟨E,fun v H1 s1 r1=>?_⟩
  obtain⟨a,vs,rfl,hs,rl⟩:=jO r1
  exact⟨a,vs,rfl,hs,rl.length.symm,fin H1 vs s1 rl⟩
theorem KZ{a b:D}(h:aj K H P [a,b] vs):∃x y,vs=[x,y]/\ai K H P a x/\ai K H P b y:=by
 rw[aj]at h
 obtain⟨x,r,rfl,h1,h⟩:=h
 rw[aj]at h
 obtain⟨y,r,rfl,h2,h⟩:=h
 rw[aj]at h
 subst h
 exact⟨x,y,rfl,h1,h2⟩
theorem Ei{H0:Hp}{pt:Pos}{p:D×Nat}(G:aL Φ X sc)(h:ED X ρ e p.1 p.2)(ho:Bv sc es p=true)(ht:yr sc es e=false) :
  SD X H0 ρ (.Assign [.Tuple es n pt] e pos) (.nx (Bm es p ρ)):=by
 obtain⟨d,k⟩:=p
 unfold Bv at ho
 split at ho
 ·rename_i x px y py d1 d2 e0 e1
  have e0:d=_:=e0
  have e1:k=_:=e1
  subst e0 e1
  simp only[Qx,Sw,R8]at ho
  obtain⟨⟨⟨⟨f1,_⟩,hxy⟩,hx⟩,hy⟩:=ho
  obtain⟨g1,g2,g3,i,g4⟩:=fL G hx
  obtain⟨j1,j2,j3,j,j4⟩:=fL G hy
  have hij:i≠j:=fun z=>by subst z;rw[g4]at j4;exact hxy (QX j4)
  intro pins s σ H D I ⟨ow,E,hl,B,q⟩
  refine jn (h ow) (sG (n:=2) G.calm (n8 (g7 (i:=i) G.nd g4 g1 g3) (n8 (g7 (i:=j) G.nd j4 j1 j3) vG rfl) rfl) rfl rfl) gx (pV G ht) rfl pins s σ H D I ⟨E,fun v H1 s1 r1=>?_⟩
  obtain⟨a,vs,rfl,hs,rl⟩:=jh r1
  obtain⟨v1,v2,rfl,r2,r3⟩:=KZ rl
  refine⟨a,[v1,v2],rfl,hs,rfl,v1,[v2],rfl,v2,[],rfl,rfl,?_⟩
  obtain⟨ow',E',k'⟩:=qv G.nd hl E s1 j4 j2 r3
  have hl':(σ.set j (some v2)).length=X.N.length:=by rw[Ri];exact hl
  have E2:=eS (o:=false) G.nd hl' E' g4 g2 (r2.flat _ f1)
  rw[List.set_comm _ _ hij]
  exact q ow' _ H1 E2 (by rw[Ri];exact hl') k'
 ·cases ho
theorem wF{y:Str}{b:Expr}(G:aL Φ X sc)(hk:X.env.scope.kind=.function)(h:o0 sc x y px py a b=true)(ha:∀x p,a ≠ .Starred x p)(hb:∀x p,b ≠ .Starred x p) :
  swappedStores [.Tuple [.Name x px,.Name y py] n p] (.Tuple [a,b] n2 p2) X.env=pure (some [x,y]):=by
 unfold o0 at h
 simp only[Qx,Sw,beq_iff_eq,R8]at h
 obtain⟨⟨⟨⟨⟨h1,h2⟩,h3⟩,h4⟩,h5⟩,h6⟩:=h
 have k1:X.env.kindOf x=some .local:=G.lc x h1
 have k2:X.env.kindOf y=some .local:=G.lc y h2
 have bk:X.env.blockKind=.function:=by unfold Env.blockKind;rw[hk];rfl
 have an:∀f:Expr->Bool,(∀e,(∀x p,e ≠ .Starred x p)->f e=false) -> ¬ ([a,b].any f=true):=fun f hf=>by simp[hf a ha,hf b hb]
 have fm:∀f:Expr->Option Str,f (.Name x px)=some x->f (.Name y py)=some y->[Expr.Name x px,Expr.Name y py].filterMap f=[x,y]:=fun f h1 h2=>by simp[h1,h2]
 have ed:[x,y].eraseDups=[x,y]:=by
  have e1:(!(y==x))=true:=by simp;exact fun z=>h4 z.symm
  rw[List.eraseDups_cons,List.filter_cons_of_pos (p:=fun b => !b==x) e1,List.filter_nil]
  rfl
 unfold swappedStores
 dsimp only
 rw[bk]
 refine(if_neg (by simp)).trans ?_
 refine(if_neg (an _ fun e he=>by cases e<;>first|rfl|exact absurd rfl (he _ _))).trans ?_
 rw[fm _ (by show(if (X.env.kindOf x==some NameKind.local&&px.line==px.line)=true then some x else none)=some x;rw[k1];simp) (by show(if (X.env.kindOf y==some NameKind.local&&py.line==px.line)=true then some y else none)=some y;rw[k2,h3];simp)]
 rw[ed]
 refine(if_neg (by simp)).trans ?_
 rw[h5,h6]
 rfl
theorem G0{H0:Hp}{b:Expr}{y:Str}{u v:D}(G:aL Φ X sc)(h:AD X ρ [a,b] [u,v] k)(hf:au [u,v]=true\/k<=1)(hp:o0 sc x y px py a b=true)(ha:∀x p,a ≠ .Starred x p)(hb:∀x p,b ≠ .Starred x p) :
  SD X H0 ρ (.Assign [.Tuple [.Name x px,.Name y py] n p] (.Tuple [a,b] n2 p2) pos) (.nx (aM (aM ρ x (u,false)) y (v,false))):=by
 have hp0:=hp
 unfold o0 at hp
 simp only[Qx,Sw,beq_iff_eq,R8]at hp
 obtain⟨⟨⟨⟨⟨l1,l2⟩,_⟩,hxy⟩,_⟩,_⟩:=hp
 obtain⟨g1,g2,g3,i,g4⟩:=fL (x:=x) G (by unfold bX;rw[l1];rfl)
 obtain⟨j1,j2,j3,j,j4⟩:=fL (x:=y) G (by unfold bX;rw[l2];rfl)
 have hij:i≠j:=by intro z;subst z;rw[g4]at j4;cases j4;exact hxy rfl
 intro pins s σ H D I ⟨ow,E,hl,B,q⟩
 refine He (i:=i) (j:=j) G.calm G.nd g4 j4 hij (G.lc x l1) (G.lc y l2) (h ow) (wF G I.ok.kind hp0 ha hb) gx pins s σ H D I ⟨E,fun vs H1 s1 r1=>?_⟩
 have rs:=oV E.own hf r1
 rw[aj]at rs
 obtain⟨v1,r,rfl,rv1,rs⟩:=rs
 obtain⟨v2,rfl,rv2⟩:=rs.only
 refine⟨v1,v2,rfl,?_⟩
 have E1:=eS (o:=false) G.nd hl (E.same s1) g4 g2 rv1
 have hl1:(σ.set i (some v1)).length=X.N.length:=by rw[Ri];exact hl
 exact q ow _ H1 (eS (o:=false) G.nd hl1 E1 j4 j2 rv2) (by rw[Ri];exact hl1) (aI.same s1)
theorem zU{H1:Hp}{a:Addr}(E:aC X ow H1 σ ρ)(hi:X.N[i]?=some x)(hs:σ[i]?=some (some (.ref a)))
  (hv:eZ X.env.scope x) (ha:H1 a=some (.lst vs)) (ho:ow a=some (some x)) (f:au l'=true) (r:aj X.K H1 (fun _ _=>True) l' vs') :
  aC X ow (az H1 a (.lst vs')) σ (aM ρ x (.lst l',true)):=by
 have st:∀{P:aW},(P a true->False)->dE P P H1 (az H1 a (.lst vs')):=fun {P} h=>⟨fun b o hb hn=>by rw[aq (fun z=>by subst z;rw[ha]at hb;cases hb;exact hn)];exact hb,fun b ws hb p=>by rw[aq (fun z=>by subst z;exact h p)];exact hb,fun _ _ _ p=>p,fun _ p=>p⟩
 have r':aj X.K (az H1 a (.lst vs')) (k7 ow x true) l' vs':=aj.flat _ f ((r.flat (fun _ _=>False) f).mono (st fun z=>z))
 refine⟨fun y e o h=>?_,fun b hb=>?_⟩
 ·rw[bg]at h
  by_cases hy:y=x
  ·subst hy
   rw[if_pos rfl]at h
   cases h
   exact⟨i,.ref a,hi,hv,hs,by rw[ai];exact⟨a,vs',true,rfl,aB,⟨rfl,ho⟩,r'⟩⟩
  ·rw[if_neg hy]at h
   obtain⟨j,w,e1,e2,e3,e4⟩:=E.get y e o h
   refine⟨j,w,e1,e2,e3,e4.mono (st fun p=>?_)⟩
   cases o with
   | true=>have:=p.2;rw[ho]at this;cases this;exact hy rfl
   | false=>have:=p rfl;rw[ho]at this;cases this
 ·by_cases hz:b=a
  ·subst hz;exact⟨_,aB⟩
  ·rw[aq hz];exact E.own b hb
theorem HB(E:aC X ow H σ ρ)(h:ρ x=some (.lst l,true)):∃(i:Nat) (a:Addr) (vs:List V),X.N[i]?=some x/\eZ X.env.scope x/\σ[i]?=some (some (.ref a))/\H a=some (.lst vs)/\ow a=some (some x)/\aj X.K H (fun _ _=>True) l vs:=by
 obtain⟨i,v,e1,e2,e3,e4⟩:=E.get x _ _ h
 rw[ai]at e4
 obtain⟨a,vs,b,rfl,hl,hp,rl⟩:=e4
 cases hp.1
 exact⟨i,a,vs,e1,e2,e3,hl,hp.2,rl.imp fun _ _ _=>True.intro⟩
theorem xu{H1:Hp}{a:Addr}(sm:ar H H1)(h0:H a=some (.lst vs))(ho:ow a=some (some x)):aI ow H ow (az H1 a (.lst vs')) :=
 ⟨fun b o h c=>by
  rw[aq (fun z=>by
   subst z
   rw[h0]at h;cases h
   rcases c with c|c
   ·exact c
   ·rw[ho]at c;cases c)]
  exact sm b o h,fun _ _ _ z=>z⟩
theorem fM(I:ak X pins σ H s){a:Addr}{o:Obj}(h:X.K.lookup a=some o):H a=none:=(I.bs a o (I.ok.mod.kin a o h)).2
mutual
noncomputable def D.lsz:D->Nat
 | .lst l=>1+i5 l
 | .tup l=>i5 l
 | _=>0
noncomputable def i5:List D->Nat
 | []=>0
 | d::l=>d.lsz+i5 l
end
theorem BK(I:ak X pins σ H s){a:Addr}(ha:H a=some (.lst vs))(h:ai X.K H P d (.ref a)):∃l,d=.lst l:=by
 cases d with
 | lst l=>exact⟨l,rfl⟩
 | tup l =>
  rw[ai]at h
  obtain⟨a',vs',e,hs,_⟩:=h
  cases e
  rcases hs with(q|⟨o,q⟩)|⟨o,its,n,q,_⟩
  ·rw[ha]at q;cases q
  ·rw[ha]at q;cases q
  ·rw[fM I q]at ha;cases ha
 | dct _ _=>rw[ai]at h;obtain⟨_,_,a',_,e,hl,_⟩:=h;cases e;rw[ha]at hl;cases hl
 | dcf _ _=>rw[ai]at h;obtain⟨_,a',_,_,e,hl,_⟩:=h;cases e;rw[ha]at hl;cases hl
 | sn m=>rw[ai]at h;obtain⟨a',S,e,hl⟩:=h;cases e;rw[ha]at hl;cases hl
 | obj n ns es=>rw[ai]at h;obtain⟨_,_,a',C,dx,vs',e,_,_,hl,_⟩:=h;cases e;rw[ha]at hl;cases hl
 | cls n=>rw[ai]at h;obtain⟨C,o',e,_,hl,_⟩:=h;cases e;rw[fM I hl]at ha;cases ha
 | xc n p =>
  rw[ai]at h
  rcases h.at with⟨o',hl,_⟩|⟨C,od,hl⟩
  ·rw[fM I hl]at ha;cases ha
  ·rw[ha]at hl;cases hl
 | _=>rw[ai]at h;cases h
theorem AY(I:ak X pins σ H s)(hP:∀a b,P a b->b=true){a:Addr}(ha:ba X.K H a vs)(h:ai X.K H P d (.ref a)):∃l,d=.tup l/\aj X.K H P l vs:=by
 have no:∀o,H a=some o->(∀xs,o ≠ .tup xs)->(∀p q,o ≠ .frz p q)->False:=fun o e h1 h2=>by
  rcases ha with(q|⟨o',q⟩)|⟨o',its,n,q,_⟩
  ·rw[e]at q;cases q;exact h1 _ rfl
  ·rw[e]at q;cases q;exact h2 _ _ rfl
  ·rw[fM I q]at e;cases e
 cases d with
 | lst l =>
  rw[ai]at h
  obtain⟨a',vs',b,e,hl,p,_⟩:=h
  cases e
  cases hP _ _ p
  exact(no _ hl (fun _ z=>nomatch z) fun _ _ z=>nomatch z).elim
 | tup l =>
  rw[ai]at h
  obtain⟨a',vs',e,hs,rl⟩:=h
  cases e
  have:=I.tuple_inj ha hs
  subst this
  exact⟨l,rfl,rl⟩
 | dct _ _=>rw[ai]at h;obtain⟨_,_,a',_,e,hl,_⟩:=h;cases e;exact(no _ hl (fun _ z=>nomatch z) fun _ _ z=>nomatch z).elim
 | dcf _ _ =>
  rw[ai]at h
  obtain⟨_,a',o2,_,e,hl,_⟩:=h
  cases e
  rcases ha with(q|⟨o',q⟩)|⟨o',its,n,q,_⟩
  ·rw[q]at hl;cases hl
  ·rw[q]at hl;cases hl
  ·rw[fM I q]at hl;cases hl
 | sn m=>rw[ai]at h;obtain⟨a',S,e,hl⟩:=h;cases e;exact(no _ hl (fun _ z=>nomatch z) fun _ _ z=>nomatch z).elim
 | obj n ns es=>rw[ai]at h;obtain⟨_,_,a',C,dx,vs',e,_,_,hl,_⟩:=h;cases e;exact(no _ hl (fun _ z=>nomatch z) fun _ _ z=>nomatch z).elim
 | cls n =>
  rw[ai]at h
  obtain⟨C,o',e,_,hl,ht,_⟩:=h
  cases e
  rcases ha with(q|⟨o,q⟩)|⟨o,its,n,q,hc,_⟩
  ·rw[fM I hl]at q;cases q
  ·rw[fM I hl]at q;cases q
  ·rw[hl]at q;cases q;rw[hc]at ht;injection ht with ht;exact absurd ht (by decide)
 | xc n p =>
  rw[ai]at h
  rcases h.at with⟨o',hl,ht⟩|⟨C,od,hl⟩
  ·rcases ha with(q|⟨o,q⟩)|⟨o,its,n,q,hc,_⟩
   ·rw[fM I hl]at q;cases q
   ·rw[fM I hl]at q;cases q
   ·rw[hl]at q;cases q;rw[hc]at ht;injection ht with ht;exact absurd ht (by decide)
  ·exact(no _ hl (fun _ z=>nomatch z) fun _ _ z=>nomatch z).elim
 | _=>rw[ai]at h;cases h
mutual
theorem sx{pins:List (Addr×Obj)}{σ:L2.St}{H:Hp}{s:Shared}(I:ak X pins σ H s){P:aW}(hP:∀a b,P a b->b=true):∀(d d':D) (v:V),ai X.K H P d v->ai X.K H P d' v->d.lsz<=d'.lsz
 | .tup l,d',v,h,h'=>by
  rw[ai]at h
  obtain⟨a,vs,rfl,hs,rl⟩:=h
  obtain⟨l',rfl,rl'⟩:=AY I hP hs h'
  rw[D.lsz,D.lsz];exact kU I hP l l' vs rl rl'
 | .lst l,d',v,h,h'=>by
  rw[ai]at h
  obtain⟨a,vs,b,rfl,hs,p,rl⟩:=h
  cases hP _ _ p
  replace hs:H a=some (.lst vs):=hs
  obtain⟨l',rfl⟩:=BK I hs h'
  rw[ai]at h'
  obtain⟨a',vs',b,e,hl,p',rl'⟩:=h'
  cases e
  cases hP _ _ p'
  replace hl:H a=some (.lst vs'):=hl
  rw[hs]at hl;cases hl
  rw[D.lsz,D.lsz]
  exact Nat.add_le_add_left (kU I hP l l' vs rl rl') 1
 | .non,_,_,_,_=>QC _
 | .bl _,_,_,_,_=>QC _
 | .int _,_,_,_,_=>QC _
 | .str _,_,_,_,_=>QC _
 | .dct _ _,_,_,_,_=>QC _
 | .typ _,_,_,_,_=>QC _
 | .dcf _ _,_,_,_,_=>QC _
 | .sn _,_,_,_,_=>QC _
 | .obj _ _ _,_,_,_,_=>QC _
 | .cls _,_,_,_,_=>QC _
 | .xc _ _,_,_,_,_=>QC _
theorem kU{pins:List (Addr×Obj)}{σ:L2.St}{H:Hp}{s:Shared}(I:ak X pins σ H s){P:aW}(hP:∀a b,P a b->b=true):∀(l l':List D) (vs:List V),aj X.K H P l vs->aj X.K H P l' vs->i5 l<=i5 l'
 | [],l',vs,h,h'=>QC _
 | d::l,l',vs,h,h'=>by
  rw[aj]at h
  obtain⟨v,r,rfl,h1,h2⟩:=h
  cases l' with
  | nil=>rw[aj]at h';cases h'
  | cons d' l' =>
   rw[aj]at h'
   obtain⟨v',r',e,h1',h2'⟩:=h'
   cases e
   rw[i5,i5]
   exact Nat.add_le_add (sx I hP d d' v h1 h1') (kU I hP l l' r h2 h2')
end
mutual
theorem G7{pins:List (Addr×Obj)}{σ:L2.St}{H:Hp}{s:Shared}(I:ak X pins σ H s){P:aW}(hP:∀a b,P a b->b=true){A:Addr}{l:List D}(hA:ai X.K H P (.lst l) (.ref A)):∀(d:D) (v:V),d.lsz<(D.lst l).lsz->ai X.K H P d v->ai X.K H (fun a b=>P a b/\a≠A) d v
 | .tup m,v,hs,h=>by
  rw[ai]at h⊢
  obtain⟨a,vs,e,h1,h2⟩:=h
  exact⟨a,vs,e,h1,mD I hP hA m vs (by rw[D.lsz]at hs;exact hs) h2⟩
 | .lst m,v,hs,h=>by
  have h0:=h
  rw[ai]at h⊢
  obtain⟨a,vs,b,e,h1,p,h2⟩:=h
  refine⟨a,vs,b,e,h1,⟨p,fun z=>?_⟩,mD I hP hA m vs (by rw[D.lsz]at hs;omega) h2⟩
  subst e z
  have:=sx I hP _ _ _ hA h0
  exact absurd (Qv hs this) (Rh _)
 | .non,v,_,h=>by rw[ai]at h⊢;exact h
 | .bl _,v,_,h=>by rw[ai]at h⊢;exact h
 | .int _,v,_,h=>by rw[ai]at h⊢;exact h
 | .str _,v,_,h=>by rw[ai]at h⊢;exact h
 | .dct ks es,v,_,h=>by
  rw[ai]at h⊢
  obtain⟨f,e0,a,vs,e,h1,p,r⟩:=h
  refine⟨f,e0,a,vs,e,h1,⟨p,fun z=>?_⟩,r.flat _ f⟩
  subst z
  rw[ai]at hA
  obtain⟨a2,vs2,b,e2,hl,p2,_⟩:=hA
  cases e2
  cases hP _ _ p2
  replace hl:H a=some (.lst vs2):=hl
  rw[h1]at hl;cases hl
 | .typ _,v,_,h=>by rw[ai]at h⊢;exact h
 | .dcf _ _,v,_,h=>by rw[ai]at h⊢;exact h
 | .sn _,v,_,h=>by rw[ai]at h⊢;exact h
 | .obj n ns es,v,_,h=>h.flat _ rfl
 | .cls n,v,_,h=>h.flat _ rfl
 | .xc n p,v,_,h=>h.flat _ rfl
theorem mD{pins:List (Addr×Obj)}{σ:L2.St}{H:Hp}{s:Shared}(I:ak X pins σ H s){P:aW}(hP:∀a b,P a b->b=true){A:Addr}{l:List D}(hA:ai X.K H P (.lst l) (.ref A)):∀(m:List D) (vs:List V),i5 m<(D.lst l).lsz->aj X.K H P m vs->aj X.K H (fun a b=>P a b/\a≠A) m vs
 | [],vs,_,h=>by rw[aj]at h⊢;exact h
 | d::m,vs,hs,h=>by
  rw[aj]at h⊢
  obtain⟨v,r,e,h1,h2⟩:=h
  exact⟨v,r,e,G7 I hP hA d v (by rw[i5]at hs;omega) h1,mD I hP hA m r (by rw[i5]at hs;omega) h2⟩
end
theorem HC(I:ak X pins σ H s)(E:aC X ow H σ ρ)(h:ρ x=some (.lst l,true)):∃(i:Nat) (a:Addr) (vs:List V),X.N[i]?=some x/\eZ X.env.scope x/\σ[i]?=some (some (.ref a))/\H a=some (.lst vs)/\ow a=some (some x)/\aj X.K H (fun b c=>k7 ow x true b c/\b≠a) l vs:=by
 obtain⟨i,v,e1,e2,e3,e4⟩:=E.get x _ _ h
 have e5:=e4
 rw[ai]at e4
 obtain⟨a,vs,b,rfl,hl,hp,rl⟩:=e4
 cases hp.1
 exact⟨i,a,vs,e1,e2,e3,hl,hp.2,mD I (fun _ _ p=>p.1) e5 l vs (by rw[D.lsz];omega) rl⟩
theorem FK{H1:Hp}{a:Addr}(E:aC X ow H σ ρ)(sm:ar H H1)(hi:X.N[i]?=some x)(hs:σ[i]?=some (some (.ref a)))
  (hv:eZ X.env.scope x) (h0:H a=some (.lst vs)) (ho:ow a=some (some x)) (r:aj X.K H1 (fun b c=>(k7 ow x true b c/\b≠a)\/Kp ow H 0 b c) l' vs') :
  ∃ow',aC X ow' (az H1 a (.lst vs')) σ (aM ρ x (.lst l',true))/\aI ow H ow' (az H1 a (.lst vs')):=by
 classical
 let ow':Ow:=fun a=>if H a=none/\∃o,H1 a=some o then some (some x)else ow a
 have o1:∀a o,H a=some o->ow' a=ow a:=fun a o h=>if_neg (fun z=>by rw[h]at z;cases z.1)
 have ha:H1 a=some (.lst vs):=sm _ _ h0
 have ho':ow' a=some (some x):=(o1 a _ h0).trans ho
 have E1:aC X ow' H1 σ ρ:=⟨fun y e o h=>by
  obtain⟨j,w,e1,e2,e3,e4⟩:=E.get y e o h
  refine⟨j,w,e1,e2,e3,ai.same sm (e4.impH (fun a ob ha p=>?_) fun a p=>?_)⟩
  ·cases o with
   | true=>exact⟨p.1,(o1 a ob ha).trans p.2⟩
   | false=>exact fun z=>(o1 a ob ha).trans (p z)
  ·cases o with
   | true=>cases p.1
   | false=>exact fun z=>(by cases z),fun a ha=>by
  by_cases hz:H a=none/\∃o,H1 a=some o
  ·exact hz.2
  ·have:ow' a=ow a:=if_neg hz
   rw[this]at ha
   exact(E.own.same sm) a ha⟩
 have st:∀{P:aW},(P a true->False)->dE P P H1 (az H1 a (.lst vs')):=fun {P} h=>⟨fun b o hb hn=>by rw[aq (fun z=>by subst z;rw[ha]at hb;cases hb;exact hn)];exact hb,fun b ws hb p=>by rw[aq (fun z=>by subst z;exact h p)];exact hb,fun _ _ _ p=>p,fun _ p=>p⟩
 have r1:aj X.K H1 (fun b c=>k7 ow' x true b c/\b≠a) l' vs':=r.impH (fun b o hb p=>by
  rcases p with⟨p,hne⟩|p
  ·refine⟨⟨rfl,?_⟩,hne⟩
   by_cases hz:H b=none/\∃o,H1 b=some o
   ·exact if_pos hz
   ·exact(if_neg hz).trans p.2
  ·exact⟨⟨rfl,if_pos ⟨p.2,o,hb⟩⟩,fun z=>by subst z;rw[p.2]at h0;cases h0⟩) fun b p=>by
  rcases p with⟨p,_⟩|p
  ·cases p.1
  ·cases p.1
 have r':aj X.K (az H1 a (.lst vs')) (k7 ow' x true) l' vs':=(r1.mono (st fun z=>z.2 rfl)).imp fun _ _ p=>p.1
 refine⟨ow',⟨fun y e o h=>?_,fun b hb=>?_⟩,fun b o h c=>?_,fun b o h z=>(o1 b o h).trans z⟩
 ·rw[bg]at h
  by_cases hy:y=x
  ·subst hy
   rw[if_pos rfl]at h
   cases h
   exact⟨i,.ref a,hi,hv,hs,by rw[ai];exact⟨a,vs',true,rfl,aB,⟨rfl,ho'⟩,r'⟩⟩
  ·rw[if_neg hy]at h
   obtain⟨j,w,e1,e2,e3,e4⟩:=E1.get y e o h
   refine⟨j,w,e1,e2,e3,e4.mono (st fun p=>?_)⟩
   cases o with
   | true=>have:=p.2;rw[ho']at this;cases this;exact hy rfl
   | false=>have:=p rfl;rw[ho']at this;cases this
 ·by_cases hz:b=a
  ·subst hz;exact⟨_,aB⟩
  ·rw[aq hz];exact E1.own b hb
 ·rw[aq (fun z=>by
   subst z
   rw[h0]at h;cases h
   rcases c with c|c
   ·exact c
   ·rw[ho]at c;cases c)]
  exact sm b o h
theorem eM{env:Env}{pos:Pos}:∀{es:List Expr},(∀e∈es,∀x p,e ≠ .Starred x p)->(backTo pos (starEach es env)).all (fun x => !x.1)=true
 | [],_=>rfl
 | e::es,h=>by
  have ih:=eM (env:=env) (es:=es) (pos:=pos) fun x hx=>h x (Qi _ hx)
  have he:=h e Qj
  cases e<;>first|exact absurd rfl (he _ _)|exact ih
theorem G1{H0:Hp}{M:List D->List D->Nat->Rs (List D)}{p4:Pos}(hcalm:X.calm=true)(hM:ni m M)(hx:ρ x=some (.lst l,true))(h:AD X ρ args ds k)(hst:∀e∈args,∀y p,e ≠ .Starred y p)(hlen:args.length=ds.length)
  (hn:dm x=true) (hln:(ap.endLine==cp.line)=true) (hm:M l ds k=.ok l' o) (hp:aG o):SD X H0 ρ (.Expr (.Call (.Attribute (.Name x p1) m ap) args [] cp) p4) (.nx (aM ρ x (.lst l',true))):=by
 obtain⟨id,r,sl,ty,mt,hr⟩:=hM X hcalm
 intro pins s σ H D I ⟨ow,E,hl,B,q⟩
 obtain⟨i,a,vs,g1,g2,g3,g4,g5,g6⟩:=HC I E hx
 have pn:PE X (.Name x p1) (iY i):=fh g1 g2 (bW hn).1 (bW hn).2
 have fin:∀(H1:Hp) (ws:List V),ar H H1->aj X.K H1 (Kp ow H k) ds ws->r (.ref a) ws H1 fun _ H2=>D.nx σ H2:=fun H1 ws s1 r1 =>
  (hr ow H H1 l ds l' k o a vs ws hm hp).2 (fun b c=>(k7 ow x true b c/\b≠a)\/Kp ow H 0 b c) _ (fun _ _ p=>.inr p) E.own s1 (s1 _ _ g4) ((g6.same s1).imp fun _ _ p=>.inl p) r1 fun vs' _ rv=>by
   obtain⟨ow',E',k'⟩:=FK E s1 g1 g3 g2 g4 g5 rv
   exact q ow' σ _ E' hl k'
 have few:ds.length<29:=(hr ow H H l ds l' k o a vs vs hm hp).1
 cases args with
 | nil =>
  have e0:ds=[]:=RN.mp hlen.symm
  refine jl (Hx PySem.F.plainAttrs_list sl ty mt pn rfl hln) rfl pins s σ H D I ⟨_,g3,.inl ⟨rfl,_,bT.of g4⟩,?_⟩
  exact fin H [] (ar.refl _) (by rw[e0];exact aj.nil)
 | cons e es =>
  have hfew:((backTo cp (starEach (e::es) X.env)).all (fun x => !x.1)&&(backToKw cp (keywordEach [] X.env)).all (fun x=>x.1.isSome)&&decide ((e::es).length+([]:List Keyword).length+(if ([]:List Keyword).isEmpty then 0 else 1)<30))=true:=by
   rw[eM hst,hlen]
   have:decide (ds.length+0+0<30)=true:=by simp;omega
   exact this
  refine jl (rq PySem.F.plainAttrs_list sl ty mt pn (h ow) rfl hfew hln (aF (hst e Qj)) (bD fun x hx=>hst x (Qi _ hx))) rfl pins s σ H D I ⟨_,g3,.inl ⟨rfl,_,bT.of g4⟩,E,fun ws H1 s1 r1=>?_⟩
  exact fin H1 ws s1 r1
theorem o8:∀{l:List D} {j:Nat} {d:D},au l=true->d.lless=true->au (l.set j d)=true
 | [],j,d,h,f=>by simp[au]
 | x::l,0,d,h,f=>by
  rw[au,Qx]at h
  rw[List.set_cons_zero,au,Qx];exact⟨f,h.2⟩
 | x::l,j+1,d,h,f=>by
  rw[au,Qx]at h
  rw[List.set_cons_succ,au,Qx];exact⟨h.1,o8 h.2 f⟩
theorem aj.set{K:W.Frag}{P:aW}{H:Hp}{d:D}{v:V}(r:ai K H P d v):∀{l:List D} {vs:List V} (j:Nat),aj K H P l vs->aj K H P (l.set j d) (vs.set j v)
 | [],vs,j,h=>by rw[aj]at h;subst h;simp;exact aj.nil
 | x::l,vs,0,h=>by
  rw[aj]at h
  obtain⟨w,u,rfl,h1,h2⟩:=h
  exact aj.cons r h2
 | x::l,vs,j+1,h=>by
  rw[aj]at h
  obtain⟨w,u,rfl,h1,h2⟩:=h
  exact aj.cons h1 (aj.set r j h2)
theorem Bg{H0:Hp}{i:Expr}{j:Int}(hx:ρ x=some (.lst l,true))(h:ED X ρ e d k)(hi:ED X ρ i (.int j) k2)(f:au l=true)(fd:d.lless=true)(hn:dm x=true)(hm:wM l j d=some l')(hsl:∀a b c p,i ≠ .Slice a b c p) :
  SD X H0 ρ (.Assign [.Subscript (.Name x p1) i p2] e pos) (.nx (aM ρ x (.lst l',true))):=by
 unfold wM at hm
 cases hj:ku l.length j with
 | none=>rw[hj]at hm;cases hm
 | some n =>
  rw[hj]at hm;cases hm
  intro pins s σ H D I ⟨ow,E,hl,B,q⟩
  obtain⟨ix,a,vs,g1,g2,g3,g4,g5,g6⟩:=HB E hx
  have pn:PE X (.Name x p1) (iY ix):=fh g1 g2 (bW hn).1 (bW hn).2
  refine jn (h ow) (sH pn (hi ow) Ba (fun v=>by cases i<;>first|rfl|exact absurd rfl (hsl _ _ _ _))) kL (by cases e<;>rfl) rfl pins s σ H D I ⟨E,fun v H1 s1 r1=>?_⟩
  refine⟨_,g3,E.same s1,fun u H2 s2 r2=>?_⟩
  rw[ai]at r2;subst r2
  have s12:=s1.trans s2
  refine⟨a,vs,j,n,rfl,rfl,s12 _ _ g4,by rw[<- g6.length];exact hj,?_⟩
  exact q ow σ _ (zU (E.same s12) g1 g3 g2 (s12 _ _ g4) g5 (o8 f fd) (aj.set ((r1.imp fun _ _ _=>True.intro).same s2) n (g6.same s12))) hl (xu s12 g4 g5)
noncomputable def K3:xS:=fun o i v H Q => ∃p kvs k,o=.ref p/\i=kV k/\H p=some (.dK kvs)/\kvs.length<sizeLine/\Q (az H p (.dK (fb kvs k v)))
theorem Bb:xV X K3:=by
 intro pins s σ H o i v ov iv u Q I ro ri rv h
 obtain⟨p,kvs,k,rfl,rfl,hp,hz,q⟩:=h
 cases ro
 obtain⟨z,hd,vs,bM,dd⟩:=(show aT X.prog X.w H s.heap p (.dK kvs)from I.hok p _ hp)
 have hz':vs.length<=sizeLine:=by rw[<- bM.length];exact z
 have hl:(fb kvs k v).length<=sizeLine:=by have:=nE kvs k v;omega
 refine wpAny_setItem_pairs (hsz:=hz') (jT ri) dd fun h' dd' hs=>?_
 have he:∃q,h'.get? p=some q:=let ⟨q,_,_,hq,_⟩:=dd';⟨q,hq⟩
 exact⟨_,I.write (x:=p) (e:=p) (by rw[hp];exact True.intro) (.inl rfl) (fun b q hb z=>(hs.2 b hb).trans z) he (show aT X.prog X.w (az H p (.dK (fb kvs k v))) h' p (.dK (fb kvs k v))from⟨hl,hd,_,bM.put k rv,dd'⟩),q⟩
theorem DG{k:aR}(h:ks.length=vs.length):(jZ ks k).zip (d8 ks vs k v)=fb (ks.zip vs) k v:=by
 unfold jZ d8 fb
 rw[vd h]
 cases fC ks k with
 | true =>
  rw[if_pos rfl]
  show ks.zip (List.zipWith _ ks vs)=_
  induction ks generalizing vs with
  | nil=>rfl
  | cons j ks ih =>
   cases vs with
   | nil=>cases h
   | cons w vs =>
    show(j,if j=k then v else w)::ks.zip (List.zipWith _ ks vs)=(if j=k then(j,v)else(j,w))::(ks.zip vs).map _
    rw[ih (by simpa using h)]
    split<;>rfl
 | false =>
  rw[if_neg QL]
  show(ks++[k]).zip (vs++[v])=_
  rw[List.zip_append h];rfl
theorem Ev{k:aR}{v:α}{vs:List α}(h:ks.length=vs.length):(jZ ks k).length=(d8 ks vs k v).length:=by
 unfold jZ d8
 cases fC ks k with
 | true=>show ks.length=(List.zipWith _ ks vs).length;rw[List.length_zipWith,<- h,Nat.min_self]
 | false=>show(ks++[k]).length=(vs++[v]).length;rw[Qr,Qr,h];rfl
theorem Et{k:aR}(r:ai K H P d v)(rl:aj K H P ds vs)(h:ks.length=ds.length):aj K H P (d8 ks ds k d) (d8 ks vs k v):=by
 unfold d8
 cases fC ks k with
 | true =>
  show aj K H P (List.zipWith _ ks ds) (List.zipWith _ ks vs)
  induction ks generalizing ds vs with
  | nil=>exact aj.nil
  | cons j ks ih =>
   cases ds with
   | nil=>cases h
   | cons x ds =>
    rw[aj]at rl
    obtain⟨w,u,rfl,h1,h2⟩:=rl
    refine aj.cons ?_ (ih h2 (by simpa using h))
    by_cases hj:j=k
    ·simp only[if_pos hj];exact r
    ·simp only[if_neg hj];exact h1
 | false=>exact rl.append (aj.one r)
theorem sC{k:aR}(f:au ds=true)(fd:d.lless=true):au (d8 ks ds k d)=true:=by
 unfold d8
 cases fC ks k with
 | true =>
  show au (List.zipWith _ ks ds)=true
  induction ks generalizing ds with
  | nil=>rfl
  | cons j ks ih =>
   cases ds with
   | nil=>rfl
   | cons x ds =>
    rw[au,Qx]at f
    show au ((if j=k then d else x)::List.zipWith _ ks ds)=true
    rw[au,Qx]
    refine⟨?_,ih f.2⟩
    split
    ·exact fd
    ·exact f.1
 | false =>
  show au (ds++[d])=true
  induction ds with
  | nil=>show au [d]=true;rw[au,fd];rfl
  | cons x ds ih =>
   rw[au,Qx]at f
   show au (x::(ds++[d]))=true
   rw[au,f.1,ih f.2];rfl
theorem Ek{H0:Hp}{i:Expr}{di:D}{key:aR}(hx:ρ x=some (.dct ks ds,true))(h:ED X ρ e d k)(hi:ED X ρ i di k2)(hk:ol di=some key)(fd:d.lless=true)(hz:ks.length<bc)(hn:dm x=true)(hsl:∀a b c p,i ≠ .Slice a b c p) :
  SD X H0 ρ (.Assign [.Subscript (.Name x p1) i p2] e pos) (.nx (aM ρ x (.dct (jZ ks key) (d8 ks ds key d),true))):=by
 intro pins s σ H D I ⟨ow,E,hl,B,q⟩
 obtain⟨ix,v0,g1,g2,g3,g4⟩:=E.get x _ _ hx
 rw[ai]at g4
 obtain⟨f,e0,a,vs,rfl,ha,hp,rl⟩:=g4
 have ho:ow a=some (some x):=hp.2
 have pn:PE X (.Name x p1) (iY ix):=fh g1 g2 (bW hn).1 (bW hn).2
 refine jn (h ow) (sH pn (hi ow) Bb (fun v=>by cases i<;>first|rfl|exact absurd rfl (hsl _ _ _ _))) kL (by cases e<;>rfl) rfl pins s σ H D I ⟨E,fun v H1 s1 r1=>?_⟩
 refine⟨_,g3,E.same s1,fun u H2 s2 r2=>?_⟩
 have s12:=s1.trans s2
 have el:ks.length=vs.length:=e0.trans rl.length
 refine⟨a,_,key,rfl,oj hk r2,s12 _ _ ha,?_,?_⟩
 ·rw[List.length_zip,<- el,Nat.min_self];exact Qv hz cq
 rw[<- DG el]
 have ha2:=s12 _ _ ha
 have st:∀{P:aW} {o':HO},(P a true->False)->dE P P H2 (az H2 a o'):=fun {P o'} h=>⟨fun b o hb hn=>by rw[aq (fun z=>by subst z;rw[ha2]at hb;cases hb;exact hn)];exact hb,fun b ws hb p=>by rw[aq (fun z=>by subst z;exact h p)];exact hb,fun _ _ _ p=>p,fun _ p=>p⟩
 have rr:aj X.K H2 (fun _ _=>False) (d8 ks ds key d) (d8 ks vs key v):=Et ((r1.same s2).flat _ fd) ((rl.same s12).flat _ f) e0
 refine q ow σ _ ⟨fun y e o h=>?_,fun b hb=>?_⟩ hl ⟨fun b o h c=>?_,fun _ _ _ z=>z⟩
 ·rw[bg]at h
  by_cases hy:y=x
  ·subst hy
   rw[if_pos rfl]at h
   cases h
   exact⟨ix,.ref a,g1,g2,g3,by rw[ai];exact⟨sC f fd,Ev e0,a,_,rfl,aB,⟨rfl,ho⟩,(rr.mono (st fun z=>z)).flat _ (sC f fd)⟩⟩
  ·rw[if_neg hy]at h
   obtain⟨j,w,e1,e2,e3,e4⟩:=(E.same s12).get y e o h
   refine⟨j,w,e1,e2,e3,e4.mono (st fun p=>?_)⟩
   cases o with
   | true=>have:=p.2;rw[ho]at this;cases this;exact hy rfl
   | false=>have:=p rfl;rw[ho]at this;cases this
 ·by_cases hz:b=a
  ·subst hz;exact⟨_,aB⟩
  ·rw[aq hz];exact(E.same s12).own b hb
 ·rw[aq (fun z=>by
   subst z
   rw[ha]at h;cases h
   rcases c with c|c
   ·exact c
   ·rw[ho]at c;cases c)]
  exact s12 b o h
theorem xn:ni "append" mK:=fun X hc=>⟨"list.append", _,PySem.F.slot_list_append,PySem.F.type_list_append,iP,fun ow H0 H l ds l' j o a vs ws h hp=>by
 unfold mK at h
 split at h
 ·rename_i d
  cases h
  have c:=hp.1
  refine⟨by simp,fun P Q hP oi sm ha rl rd q=>?_⟩
  obtain⟨w,rfl,rw'⟩:=rd.only
  refine⟨a,vs,w,rfl,rfl,ha,?_,q _ _ (rl.append (aj.one ?_))⟩
  ·rw[<- rl.length];exact Nat.lt_trans hp.2.1 ld
  ·rcases c with c|c
   ·exact rw'.flat _ c
   ·subst c;exact rw'.imp hP
 ·cases h⟩
theorem xl:ni "extend" qj:=fun X hc=>⟨"list.extend", _,PySem.F.slot_list_extend,PySem.F.type_list_extend,za,fun ow H0 H l ds l' j o a vs ws h hp=>by
 unfold qj at h
 split at h
 ·rename_i d
  cases h
  refine⟨by simp,fun P Q hP oi sm ha rl rd q=>?_⟩
  obtain⟨w,rfl,rw'⟩:=rd.only
  rw[ai]at rw'
  obtain⟨b,zs,bb,rfl,hb,pb,rz⟩:=rw'
  have hbb:bb=true:=pb.1
  subst hbb
  refine⟨a,b,vs,zs,rfl,rfl,ha,hb,?_,q _ _ (rl.append (rz.imp hP))⟩
  rw[<- rl.length,<- rz.length];exact QA hp.1 (RW ld)
 ·cases h⟩
variable{X:Cx}
theorem ou(x:Str)(E:aC X ow H σ ρ):∃ow',aC X ow' H σ (demX x ρ)/\aI ow H ow' H:=by
 classical
 unfold demX
 let ow':Ow:=fun a=>if ow a=some (some x)then none else ow a
 have o1:∀a,ow a=none->ow' a=none:=fun a h=>by show(if _ then _ else _)=_;split;rfl;exact h
 refine⟨ow',⟨fun y e o h=>?_,fun a ha=>?_⟩,fun a o h _=>h,fun a o h z=>o1 a z⟩
 ·by_cases hy:y=x
  ·subst hy
   simp only[if_true]at h
   cases hd:ρ y with
   | none=>rw[hd]at h;cases h
   | some q =>
    obtain⟨d,o'⟩:=q
    rw[hd]at h
    cases h
    obtain⟨j,w,e1,e2,e3,e4⟩:=E.get y _ _ hd
    refine⟨j,w,e1,e2,e3,e4.imp fun a b p z=>?_⟩
    cases o' with
    | true=>exact if_pos p.2
    | false=>exact o1 a (p z)
  ·simp only[if_neg hy]at h
   obtain⟨j,w,e1,e2,e3,e4⟩:=E.get y e o h
   refine⟨j,w,e1,e2,e3,e4.imp fun a b p=>?_⟩
   cases o with
   | true=>exact⟨p.1,by show(if _ then _ else _)=_;rw[if_neg (fun z=>by rw[p.2]at z;cases z;exact hy rfl)];exact p.2⟩
   | false=>exact fun z=>o1 a (p z)
 ·refine E.own a fun z=>ha (o1 a z)
theorem FR(x:Str)(ρ:ah):demA x ρ=ρ\/demA x ρ=demX x ρ:=by
 cases h:ρ x with
 | none=>exact .inl (funext fun y=>by unfold demA;split;(rename_i e;subst e;rw[h];rfl);rfl)
 | some p =>
  cases hl:p.1.lless with
  | true=>exact .inl (funext fun y=>by unfold demA;split;(rename_i e;subst e;rw[h];show some (p.1,p.2&&p.1.lless)=_;rw[hl,Bool.and_true]);rfl)
  | false=>exact .inr (funext fun y=>by unfold demA demX;split;(rename_i e;subst e;rw[h];show some (p.1,p.2&&p.1.lless)=_;rw[hl,Bool.and_false];rfl);rfl)
theorem jY:∀{es:List Expr} {ow:Ow} {H:Hp} {σ:L2.St} {ρ:ah},aC X ow H σ ρ->∃ow',aC X ow' H σ (demL es ρ)/\aI ow H ow' H
 | [],ow,H,σ,ρ,E=>⟨ow,E,aI.refl _ _⟩
 | e::es,ow,H,σ,ρ,E=>by
  have one:∀x,∃ow',aC X ow' H σ (demL es (demA x ρ))/\aI ow H ow' H:=fun x=>by
   rcases FR x ρ with h|h
   ·rw[h];exact jY E
   ·rw[h]
    obtain⟨ow1,E1,k1⟩:=ou x E
    obtain⟨ow2,E2,k2⟩:=jY (es:=es) E1
    exact⟨ow2,E2,k1.trans k2⟩
  unfold demL
  split
  ·rename_i z;cases z
  ·rename_i z;cases z;exact one _
  ·rename_i z;cases z;exact one _
  ·rename_i z;cases z;exact jY E
theorem pG(E:aC X ow H σ ρ):∃ow',aC X ow' H σ (demote e ρ)/\aI ow H ow' H:=by
 unfold demote
 split
 ·exact ou _ E
 ·exact ou _ E
 ·exact jY E
 ·exact⟨ow,E,aI.refl _ _⟩
noncomputable def aa{α:Type}(r:Rs α)(a:α):Prop:=∃l,r=.ok a l/\aG l
theorem av{r:Rs α}{f:α->Rs β}{b:β}(h:aa (r.bnd f) b):∃a,aa r a/\aa (f a) b:=by
 obtain⟨l,h,hp⟩:=h
 obtain⟨a,l1,l2,h1,p1,h2,p2⟩:=aS h hp
 exact⟨a,⟨l1,h1,p1⟩,l2,h2,p2⟩
theorem ao{a:α}(h:aa (.st) a):False:=by obtain⟨l,h,_⟩:=h;cases h
theorem aE{a b:α}{l:List Prop}(h:aa (.ok a l) b):a=b:=by obtain⟨m,h,_⟩:=h;cases h;rfl
theorem G2{H0:Hp}{bind:D->ah->Option ah}(hp:PassesOwn (model X.prog X.w) X.A X.env X.xe)(hcalm:X.calm=true)
  (hi:IE X (demote iter ρ) tg iter ds k) (hk:k<=1) (hg:∀d ρ ρ',bind d ρ=some ρ'->GD X ρ tg d ρ') (hb:∀ρ fl,aa (bodyF ρ) fl->cX X H0 ρ body fl) (h:aa (fe bind bodyF ds (demote iter ρ)) fl)
  (hs:∀x,foldedSetIterable iter X.env x=pure x):SD X H0 ρ (.For tg iter body [] pos) fl:=by
 intro pins s σ H D0 I ⟨ow0,E0,hl,B0,q0⟩
 obtain⟨ow,E,k0⟩:=pG (e:=iter) E0
 have B:=B0.keep k0
 have q:=q0.keep k0
 have pb:cZ X body (fun D σ H => ∃ρ fl,aa (bodyF ρ) fl/\yn X H0 ρ fl D σ H):=fun pins s σ H D I ⟨ρ1,fl1,h1,h2⟩=>hb ρ1 fl1 h1 pins s σ H D I h2
 have pg:PG X tg (fun v σ H Q => ∃g:TG,PG X tg g/\g v σ H Q):=fun pins s σ H v u Q I r ⟨g,h1,h2⟩=>h1 pins s σ H v u Q I r h2
 refine sF hp hcalm (hi ow) pg pb hs pins s σ H D0 I ⟨E,fun J H1 s1 itd=>?_⟩
 refine⟨fun i m σ' H'=>m=ds.length-i/\i<=ds.length/\∃ow' ρ',aC X ow' H' σ' ρ'/\σ'.length=X.N.length/\bi H0 ow' H'/\aI ow H1 ow' H'/\aa (fe bind bodyF (ds.drop i) ρ') fl,
  ⟨ds.length,by simp,QC _,ow,_,E.same s1,hl,B.keep (aI.same s1),aI.refl _ _,h⟩,?_⟩
 rintro i m σ' H' ⟨rfl,hile,ow',ρ',E',hl',B',k',hf⟩
 have q':kg X H0 ow' H' fl D0:=q.keep ((aI.same s1).trans k')
 have st:dE (Kd ow H k H1) (Kd ow H k H1) H1 H':=⟨fun a o ha hn=>k'.keep a o ha (.inl hn),fun a vs ha p=>k'.keep a _ ha (.inr (eB E.own hk p.1)),fun _ _ _ p=>p,fun _ p=>p⟩
 have it:=itd i H' st
 by_cases hlt:i<ds.length
 ·obtain⟨go,yl⟩:=it.1 ds[i] (QE hlt)
  have hdrop:ds.drop i=ds[i]::ds.drop (i+1):=RV hlt
  rw[hdrop,fe]at hf
  refine .inr ⟨go,fun σ2 H2=>i+1<=ds.length/\∃ow2 ρ2,aC X ow2 H2 σ2 ρ2/\σ2.length=X.N.length/\bi H0 ow2 H2/\aI ow H1 ow2 H2/\aa (fe bind bodyF (ds.drop (i+1)) ρ2) fl,fun σ2 H2 n=>⟨ds.length-(i+1),by omega,rfl,n.1,n.2⟩,fun x H3 y3=>?_⟩
  obtain⟨sm3,rx⟩:=yl x H3 y3
  cases hbd:bind ds[i] ρ' with
  | none=>rw[hbd]at hf;exact(ao hf).elim
  | some ρ1 =>
   rw[hbd]at hf
   dsimp only at hf
   obtain⟨g,g1,g2⟩:=hg _ _ _ hbd
   have rx':ai X.K H3 (fun a b=>b=true->ow' a=none) ds[i] x:=rx.impH (fun a o ha p _=>by
    obtain⟨o1,h1⟩:=p.2 rfl
    exact k'.low a o1 h1 (eB E.own hk p.1)) fun a _ z=>(by cases z)
   refine⟨g,g1,g2 ow' x σ' H3 _ hl' (E'.same sm3) rx' fun σ2 hl2 E2=>?_⟩
   have k3:aI ow' H' ow' H3:=aI.same sm3
   obtain⟨f1,hbo,hf⟩:=av hf
   refine⟨ρ1,f1,hbo,ow',E2,hl2,B'.keep k3,?_⟩
   cases f1 with
   | nx ρ2=>exact fun ow2 σ3 H4 a b c=>⟨hlt,ow2,ρ2,a,b,(B'.keep k3).keep c,k'.trans (k3.trans c),hf⟩
   | ct ρ2=>exact fun ow2 σ3 H4 a b c=>⟨hlt,ow2,ρ2,a,b,(B'.keep k3).keep c,k'.trans (k3.trans c),hf⟩
   | bk ρ2=>cases aE hf;exact fun ow2 σ3 H4 a b c=>q' ow2 σ3 H4 a b (k3.trans c)
   | rt d=>cases aE hf;exact q'
 ·have ei:i=ds.length:=by omega
  subst ei
  rw[List.drop_length,fe]at hf
  cases aE hf
  exact .inl ⟨it.2 (Ql _),q' ow' σ' H' E' hl' (aI.refl _ _)⟩
theorem Bf{H0:Hp}{test:ah->Rs Bool}(hp:PassesOwn (model X.prog X.w) X.A X.env X.xe)
  (hc:∀ρ b,aa (test ρ) b->TD X ρ c b) (hb:∀ρ fl,aa (bodyF ρ) fl->cX X H0 ρ body fl) {n0:Nat} {ρ0:ah} (h:aa (qE test bodyF n0 ρ0) fl):SD X H0 ρ0 (.While c body [] pos) fl:=by
 intro pins s σ H D0 I ⟨ow,E,hl,B,q⟩
 have pc:PT X c (fun σ H Q => ∃ow ρ b,aa (test ρ) b/\Cz X ow ρ b σ H Q):=fun pins s σ H Q I ⟨ow,ρ,b,h1,h2⟩=>hc ρ b h1 ow pins s σ H Q I h2
 have pb:cZ X body (fun D σ H => ∃ρ fl,aa (bodyF ρ) fl/\yn X H0 ρ fl D σ H):=fun pins s σ H D I ⟨ρ1,fl1,h1,h2⟩=>hb ρ1 fl1 h1 pins s σ H D I h2
 refine Bo hp pc pb pins s σ H D0 I ?_
 refine⟨fun m σ' H' => ∃ow' ρ',aC X ow' H' σ' ρ'/\σ'.length=X.N.length/\bi H0 ow' H'/\aI ow H ow' H'/\aa (qE test bodyF m ρ') fl,⟨n0,ow,ρ0,E,hl,B,aI.refl _ _,h⟩,?_⟩
 rintro m σ' H' ⟨ow',ρ',E',hl',B',k',hw⟩
 have q':kg X H0 ow' H' fl D0:=q.keep k'
 cases m with
 | zero=>exact(ao hw).elim
 | succ m =>
  rw[qE]at hw
  obtain⟨b,ht,hw⟩:=av hw
  refine⟨ow',ρ',b,ht,E',fun H1 s1=>?_⟩
  have k1:aI ow' H' ow' H1:=aI.same s1
  cases b with
  | false =>
   cases aE hw
   exact q' ow' σ' H1 (E'.same s1) hl' k1
  | true =>
   rw[cond_true]at hw
   show if true=true then _ else _
   rw[if_pos rfl]
   refine⟨fun σ2 H2 => ∃ow2 ρ2,aC X ow2 H2 σ2 ρ2/\σ2.length=X.N.length/\bi H0 ow2 H2/\aI ow H ow2 H2/\aa (qE test bodyF m ρ2) fl,fun σ2 H2 z=>⟨m,QV _,z⟩,?_⟩
   obtain⟨f1,hbo,hw⟩:=av hw
   refine⟨ρ',f1,hbo,ow',E'.same s1,hl',B'.keep k1,?_⟩
   cases f1 with
   | nx ρ2=>exact fun ow2 σ3 H4 a b c=>⟨ow2,ρ2,a,b,(B'.keep k1).keep c,k'.trans (k1.trans c),hw⟩
   | ct ρ2=>exact fun ow2 σ3 H4 a b c=>⟨ow2,ρ2,a,b,(B'.keep k1).keep c,k'.trans (k1.trans c),hw⟩
   | bk ρ2=>cases aE hw;exact fun ow2 σ3 H4 a b c=>q' ow2 σ3 H4 a b (k1.trans c)
   | rt d=>cases aE hw;exact q'
theorem cy{p:D×Nat}(h:aa (ax Φ e it sc ρ) p)(G:aL Φ X sc):fT X ρ e it p.1 p.2:=let ⟨_,h,hp⟩:=h;LC e h hp G
theorem zB(h:jx e=true):(∃a b c d,e=.ListComp a b c d)\/∀(Φ:Fx) (sc:Scope) (ρ:ah),ax Φ e false sc ρ=.st:=by
 cases e<;>first|exact .inl ⟨_,_,_,_,rfl⟩|exact .inr fun _ _ _=>rfl|cases h
theorem qM{H0:Hp}{r:D×Nat}{o:Bool}(G:aL Φ X sc)(hx:bX sc x=true)(h:aa (ax Φ e false sc ρ) r)(ho:(r.2=0/\o=true)\/(r.2=1/\o=false)) :
  SD X H0 ρ (.Assign [.Name x p] e pos) (.nx (aM ρ x (r.1,o))):=by
 by_cases hc:jx e=true
 ·rcases zB hc with⟨elt,gens,scope,q,rfl⟩|hno
  rotate_left
  ·rw[hno]at h;exact(ao h).elim
  ·clear hc
   have hsw:∃b,swapsWith (.ListComp elt gens scope q) (some (.Name x p)) pos.line X.env=pure b:=⟨_,rfl⟩
   obtain⟨b,hsw⟩:=hsw
   cases b with
   | false=>exact sj G hx ((cy h G).ed rfl) ho hsw
   | true =>
    obtain⟨l,h,hp⟩:=h
    obtain⟨tg,iter,ifs,rfl⟩:=qp h
    obtain⟨ds,f,k1,a1,a2,a3,a4,a5,a6,a7,a8,a9⟩:=vn (ir Φ _) (QV _) h hp G
    obtain⟨g1,g2,g3,i,g4⟩:=fL G hx
    rw[a9]
    intro pins s σ H D0 I ⟨ow,E,hl,B,q⟩
    refine EC (D0:=D0) (i:=i) G.calm G.nd a1 a2 a3 a4 a5 a6 a7 a8 I E hsw g4 g1 g3 fun v H1 s1 r1=>?_
    rcases ho with⟨ho,rfl⟩|⟨ho,rfl⟩<;>rw[ho]at r1
    ·obtain⟨ow',E',k'⟩:=qv G.nd hl E s1 g4 g2 r1
     exact q ow' _ H1 E' (by rw[Ri];exact hl) k'
    ·exact q ow _ H1 (eS G.nd hl (E.same s1) g4 g2 r1) (by rw[Ri];exact hl) (aI.same s1)
 ·exact sj G hx ((cy h G).ed rfl) ho (gp (by simpa using hc))
theorem nG{r:D×Nat}(h:aa (ax Φ e it sc ρ) r):∀a b c p,e ≠ .Slice a b c p:=by
 intro a b c p z;subst z;exact(ao h).elim
theorem sK{f:List D->Rs Fl}(h:aa (qf ρ x f) fl):∃l,ρ x=some (.lst l,true)/\dm x=true/\aa (f l) fl:=by
 unfold qf at h
 split at h
 ·rename_i l e
  split at h
  ·rename_i c
   exact⟨l,e,c,h⟩
  ·exact(ao h).elim
 ·exact(ao h).elim
theorem eL{a b:α}{l:List Prop}(h:aa (.ok a l) b):a=b/\aG l:=by obtain⟨m,h,hp⟩:=h;cases h;exact⟨rfl,hp⟩
theorem rX{i:D}(h:aa (rY ρ x i d) fl):(∃l j l',ρ x=some (.lst l,true)/\au l=true/\dm x=true/\i=.int j/\wM l j d=some l'/\d.lless=true/\fl=.nx (aM ρ x (.lst l',true)))\/∃ks ds k,ρ x=some (.dct ks ds,true)/\ol i=some k/\dm x=true/\d.lless=true/\ks.length<bc/\fl=.nx (aM ρ x (.dct (jZ ks k) (d8 ks ds k d),true)):=by
 unfold rY at h
 split at h
 ·rename_i l e
  split at h
  ·split at h
   ·rename_i hn
    split at h
    ·rename_i l' hs
     obtain⟨h9,h1,h2,_⟩:=eL h
     exact .inl ⟨l,_,l',e,h1,hn,rfl,hs,h2,h9.symm⟩
    ·exact(ao h).elim
   ·exact(ao h).elim
  ·exact(ao h).elim
 ·rename_i ks ds e
  split at h
  ·rename_i k hk
   split at h
   ·rename_i hn
    obtain⟨h9,h1,h2,_⟩:=eL h
    exact .inr ⟨ks,ds,k,e,hk,hn,h1,h2,h9.symm⟩
   ·exact(ao h).elim
  ·exact(ao h).elim
 ·exact(ao h).elim
theorem Hz{H0:Hp}(h:aa (rF Φ es e sc ρ) fl)(G:aL Φ X sc):SD X H0 ρ (.Assign [.Tuple es n p] e pos) fl:=by
 unfold rF at h
 split at h
 ·split at h
  ·rename_i hp
   obtain⟨q,⟨lq,h1,hq⟩,h⟩:=av h
   split at h
   ·rename_i u v hd
    split at h
    ·rename_i hf
     cases aE h
     obtain⟨n1,_⟩:=dh h1 hq
     have c:=lC _ h1 hq G
     rw[hd]at c
     exact G0 G c hf hp (n1 _ (by simp)) (n1 _ (by simp))
    ·exact(ao h).elim
   ·exact(ao h).elim
  ·exact(ao h).elim
 ·exact(ao h).elim
theorem Kj{H0:Hp}(h:aa (pB Φ tgs e sc ρ) fl)(G:aL Φ X sc):SD X H0 ρ (.Assign tgs e pos) fl:=by
 unfold pB at h
 split at h
 ·obtain⟨p,h1,h⟩:=av h
  unfold p9 at h
  split at h
  ·rename_i hx
   split at h
   ·rename_i ho;cases aE h;exact qM G hx h1 (.inl ⟨ho,rfl⟩)
   ·rename_i ho;cases aE h;exact qM G hx h1 (.inr ⟨ho,rfl⟩)
   ·exact(ao h).elim
  ·exact(ao h).elim
 ·split at h
  ·exact Hz h G
  ·rename_i ht
   have ht:=Sx.mpr ht
   obtain⟨p,h1,h⟩:=av h
   split at h
   ·rename_i ho
    cases aE h
    exact Ei G ((cy h1 G).ed rfl) ho ht
   split at h
   ·rename_i ds hd
    split at h
    ·rename_i hf
     split at h
     ·rename_i ρ' hb
      cases aE h
      exact GX G ((cy h1 G).ed rfl) hd hf hb ht
     ·exact(ao h).elim
    ·exact(ao h).elim
   ·exact(ao h).elim
 ·split at h
  ·rename_i hc
   obtain⟨p,h1,h⟩:=av h
   obtain⟨q,h2,h⟩:=av h
   have c2:=(cy h2 G).ed rfl
   rcases rX h with⟨l,j,l',a1,a2,a3,hj,hs,hf,rfl⟩|⟨ks,ds,k,a1,hk,a3,hf,hz,rfl⟩
   ·rw[hj]at c2
    exact Bg a1 ((cy h1 G).ed rfl) c2 a2 hf a3 hs (nG h2)
   ·exact Ek a1 ((cy h1 G).ed rfl) c2 hk hf hz a3 (nG h2)
  ·exact(ao h).elim
 ·exact(ao h).elim
theorem IV{H0:Hp}(h:aa (pA Φ e sc ρ) fl)(G:aL Φ X sc):SD X H0 ρ (.Expr e pos) fl:=by
 unfold pA at h
 split at h
 ·split at h
  ·rename_i hln
   obtain⟨p,⟨lp,h1,hp1⟩,h⟩:=av h
   split at h
   ·rename_i M hM
    obtain⟨l,a1,a3,h⟩:=sK h
    obtain⟨l',⟨o,h2,hp2⟩,h⟩:=av h
    cases aE h
    obtain⟨n1,n2⟩:=dh h1 hp1
    exact G1 G.calm (G.mtt _ M hM) a1 (lC _ h1 hp1 G) n1 n2 a3 hln h2 hp2
   ·exact(ao h).elim
  ·exact(ao h).elim
 ·obtain⟨p,h1,h⟩:=av h
  cases aE h
  exact Ej ((cy h1 G).ed rfl) ⟨_,_,_,_,_,rfl⟩
 ·exact(ao h).elim
structure Is(Φ:Fx)(n:Nat):Prop where
 s:∀(st:Stmt) {sc:Scope} {ρ:ah} {fl:Fl} {X:Cx} {H0:Hp},sizeOf st<n->aa (fi Φ st sc ρ) fl->aL Φ X sc->PassesOwn (model X.prog X.w) X.A X.env X.xe->SD X H0 ρ st fl
 ss:∀(st:List Stmt) {sc:Scope} {ρ:ah} {fl:Fl} {X:Cx} {H0:Hp},sizeOf st<n->aa (aA Φ st sc ρ) fl->aL Φ X sc->PassesOwn (model X.prog X.w) X.A X.env X.xe->cX X H0 ρ st fl
theorem jp{p:D×Nat}{f:Bool->Rs α}{a:α}(h:aa (lI p f) a):∃b,p.1=.bl b/\aa (f b) a:=by
 obtain⟨l,h,hp⟩:=h
 obtain⟨b,h1,h2⟩:=m9 h
 exact⟨b,h1,l,h2,hp⟩
theorem LA(I:Is Φ n)(st:Stmt){H0:Hp}(hs:sizeOf st<n+1)(h:aa (fi Φ st sc ρ) fl)(G:aL Φ X sc)(hp:PassesOwn (model X.prog X.w) X.A X.env X.xe):SD X H0 ρ st fl:=by
 cases st with
 | Return e p =>
  cases e with
  | none=>cases aE h;exact Ef
  | some e =>
   obtain⟨p,h1,h⟩:=av (show aa (Rs.bnd _ _) fl from h)
   unfold wN at h
   split at h
   ·rename_i hk
    cases aE h
    unfold sv at h1
    cases hn:rB e with
    | true=>rw[hn]at h1;exact Eg ((cy h1 G).ed rfl) hk
    | false=>rw[hn]at h1;exact GZ ((cy h1 G).ed rfl) hk
   ·exact(ao h).elim
 | Pass p=>cases aE h;exact Eh
 | Break p=>cases aE h;exact Bh
 | Continue p=>cases aE h;exact El
 | Assign tgs e p=>exact Kj h G
 | AugAssign t op e p=>exact(ao h).elim
 | Expr e p=>exact IV h G
 | If c a b p =>
  obtain⟨p,h1,h⟩:=av (show aa (Rs.bnd _ _) fl from h)
  obtain⟨t,ht,h⟩:=jp h
  refine CG ((cy h1 G).td rfl t ht) ?_
  cases t with
  | true=>rw[if_pos rfl];exact I.ss _ (aY (by simp<;>omega) hs) h G hp
  | false=>rw[if_neg QL];exact I.ss _ (aY (by simp<;>omega) hs) h G hp
 | For tg it body els p =>
  rw[qr]at h
  split at h
  ·rename_i he
   have he:=List.isEmpty_iff.mp he
   subst he
   obtain⟨p,h1,h⟩:=av h
   split at h
   ·rename_i ds hd
    split at h
    ·rename_i hk
     obtain⟨lq,h1',_⟩:=id h1
     exact G2 hp G.calm ((cy h1 G).ie rfl _ ds hd hk.2) hk.1 (fun d ρ ρ' hb=>pu G hb) (fun ρ1 f1 h2=>I.ss _ (aY (by simp<;>omega) hs) h2 G hp) h (qR h1')
    ·exact(ao h).elim
   ·exact(ao h).elim
  ·exact(ao h).elim
 | While c body els p =>
  rw[zS]at h
  split at h
  ·rename_i he
   have he:=List.isEmpty_iff.mp he
   subst he
   refine Bf hp (fun ρ b hb=>?_) (fun ρ1 f1 h2=>I.ss _ (aY (by simp<;>omega) hs) h2 G hp) h
   obtain⟨p,h1,hb⟩:=av hb
   obtain⟨t,ht,hb⟩:=jp hb
   cases aE hb
   exact(cy h1 G).td rfl _ ht
  ·exact(ao h).elim
 | _=>exact(ao h).elim
theorem IU(I:Is Φ n)(ss:List Stmt){H0:Hp}(hs:sizeOf ss<n+1)(h:aa (aA Φ ss sc ρ) fl)(G:aL Φ X sc)(hp:PassesOwn (model X.prog X.w) X.A X.env X.xe):cX X H0 ρ ss fl:=by
 cases ss with
 | nil=>cases aE h;exact vu
 | cons s ss =>
  obtain⟨f1,h1,h⟩:=av (show aa (Rs.bnd _ _) fl from h)
  have c:=I.s s (H0:=H0) (aY (by simp<;>omega) hs) h1 G hp
  cases f1 with
  | nx ρ'=>exact dG c (I.ss ss (aY (by simp<;>omega) hs) h G hp)
  | bk ρ'=>cases aE h;exact nW c (fun _ z=>(by cases z))
  | ct ρ'=>cases aE h;exact nW c (fun _ z=>(by cases z))
  | rt d=>cases aE h;exact nW c (fun _ z=>(by cases z))
theorem jw(Φ:Fx):∀n,Is Φ n
 | 0=>⟨fun _ _ _ _ _ _ h=>absurd h (Ro _),fun _ _ _ _ _ _ h=>absurd h (Ro _)⟩
 | n+1=>⟨fun e _ _ _ _ _ hs h G hp=>LA (jw Φ n) e hs h G hp,fun e _ _ _ _ _ hs h G hp=>IU (jw Φ n) e hs h G hp⟩
theorem eF(ss:List Stmt){H0:Hp}(h:aa (aA Φ ss sc ρ) fl)(G:aL Φ X sc)(hp:PassesOwn (model X.prog X.w) X.A X.env X.xe):cX X H0 ρ ss fl:=(jw Φ _).ss ss (QV _) h G hp
noncomputable def aJ(sc:Scope):List Str:=(sc.names.filter fun y=>y.2 == .local || y.2 == .cell).map (·.1)
noncomputable def dU(P:Program)(w:World)(K:W.Frag)(mg:Str->Option Value)(base:Heap)(k:Nat)(g:Str)(F:List D->Rs D):Prop :=
 ∃f fd ps,bG P w K mg base eh k f fd ps (km K F)/\mg g=some (.ref f)/\W.keepIn K (.ref f)=true/\bK K fd ps []/\(g==("__debug__" : Str))=false
theorem dU.mono{P:Program}(h:dU P w K mg base j g F)(hjk:j<=k):dU P w K mg base k g F :=
 let ⟨f,fd,ps,h1,h2⟩:=h;⟨f,fd,ps,h1.mono hjk,h2⟩
noncomputable def DB(P:Program)(w:World)(K:W.Frag)(mg:Str->Option Value)(base:Heap)(k:Nat)(g:Str)(F:List D->Rs D):Prop :=
 ∃j C f fd ps,j+1<=k/\(∀ds r l,F ds=.ok r l->r.lless=true)/\Mk K C f/\bG P w K mg base eh j f fd ps (L3 K g F)/\mg g=some (.ref C)/\W.nsIn K mainGlobals g=some (some (.ref C))/\fv K C/\bK K fd ps []/\(g==("__debug__" : Str))=false
theorem DB.mono{P:Program}(h:DB P w K mg base j g F)(hjk:j<=k):DB P w K mg base k g F :=
 let ⟨i,C,f,fd,ps,h0,h1⟩:=h;⟨i,C,f,fd,ps,QA h0 hjk,h1⟩
noncomputable def Mg(P:Program)(w:World)(K:W.Frag)(mg:Str->Option Value)(base:Heap)(k:Nat)(g:Str)(F:List D->Rs D):Prop:=dU P w K mg base k g F\/DB P w K mg base k g F
noncomputable def rL(P:Program)(w:World)(K:W.Frag)(mg:Str->Option Value)(base:Heap)(k:Nat)(n m:Str)(F:List D->Rs D):Prop :=
 ∃C f fd ps,W.nsIn K mainGlobals n=some (some (.ref C))/\fv K C/\KA K C m f/\bG P w K mg base eh k f fd ps (km K F)/\bK K fd ps []
theorem rL.mono{P:Program}{n:Str}(h:rL P w K mg base j n m F)(hjk:j<=k):rL P w K mg base k n m F :=
 let ⟨C,f,fd,ps,h1,h2,h3,h4,h5⟩:=h;⟨C,f,fd,ps,h1,h2,h3,h4.mono hjk,h5⟩
theorem um:∀{ps:List Str} {ds:List D} {x:Str} {d:D} {o:Bool},d5 ps ds x=some (d,o)->o=false/\∃i:Nat,ps[i]?=some x/\ds[i]?=some d
 | [],ds,x,d,o,h=>by cases ds<;>cases h
 | p::ps,[],x,d,o,h=>by cases h
 | p::ps,y::ds,x,d,o,h=>by
  replace h:(if x=p then some (y,false)else d5 ps ds x)=some (d,o):=h
  by_cases e:x=p
  ·rw[if_pos e]at h
   cases h;subst e;exact⟨rfl,0,rfl,rfl⟩
  ·rw[if_neg e]at h
   obtain⟨h1,i,h2,h3⟩:=um h
   exact⟨h1,i+1,by simpa using h2,by simpa using h3⟩
structure uC(P:Program)(w:World)(K:W.Frag)(mg:Str->Option Value)(base:Heap)(k:Nat)(Φ:Fx):Prop where
 fn:∀g F,Φ.fn g=some F->Mg P w K mg base k g F
 con:∀x d,Φ.con x=some d->∃v u,mg x=some u/\aP v u/\∀H P,ai K H P d v
 blt:∀f B,Φ.blt f=some B->fV f B
 itr:∀f B,Φ.itr f=some B->nj f B
 mth:∀m M,Φ.mth m=some M->xY m M
 mtt:∀m M,Φ.mtt m=some M->ni m M
 slf:rJ Φ.slf
 fld:∀n f,Φ.fld n f=true->∀C,W.nsIn K mainGlobals n=some (some (.ref C))->uA K C f
 omt:∀n m F,Φ.omt n m=some F->rL P w K mg base k n m F
 bl:∀n∈iH,mg n=none
noncomputable def i9(Φ:Fx)(sc:Scope)(ps:List Str)(body:List Stmt)(F:List D->Rs D):Prop:=∀ds r,aa (F ds) r->aa (du Φ sc ps body ds) r
theorem i9.self:i9 Φ sc ps body (du Φ sc ps body):=fun _ _ h=>h
theorem mU{P:Program}{f:Addr}{E:XK}
  (S:aV (aJ (ac st)) ps (ac st)) (hΦ:uC P w K mg base k Φ) (hr:bz k (A.deeper (envOfC qual (ac st) s.heap.objs.size f cdv))) :
  aL Φ (iE eh P w K mg base (aJ (ac st)) qual (ac st) f cdv A outer s H E).nox (ac st):=by
 have hun:=hr.un
 refine⟨rfl,S.nd,fun x hx=>hx,fun x hx=>hx,fun x hx=>hx,fun x hx=>hx,fun g' F' hg=>?_,hΦ.con,hΦ.blt,hΦ.itr,hΦ.mth,hΦ.mtt,hΦ.slf,hΦ.fld,fun n m F hF=>?_,hΦ.bl,?_,fun x hx=>?_,fun x _=>rfl⟩
 ·rcases hΦ.fn g' F' hg with z|z
  ·obtain⟨f',fd',ps',a1,a2,a3,a4,a5⟩:=z
   exact .inl ⟨k,f',fd',ps',a1,hr,a2,a3,a4,a5⟩
  ·obtain⟨j,C,f',fd',ps',a0,a1,a2,a3,a4⟩:=z
   exact .inr ⟨j,C,f',fd',ps',a1,a2,a3,hr.mono a0,a4⟩
 ·obtain⟨C,f',fd',ps',a1,a2,a3,a4,a5⟩:=hΦ.omt n m F hF
  exact⟨k,C,f',fd',ps',a1,a2,a3,a4,hr,a5⟩
 ·show(A.deeper _).units+70<cLine
  omega
 ·show x∈aJ (ac st)
  unfold aJ
  unfold bX at hx
  rw[Bool.or_eq_true]at hx
  rcases hx with hx|hx
  ·have hx:(ac st).names.lookup x=some .local:=by simpa using hx
   exact QB.mpr ⟨(x,.local),RG.mpr ⟨QH hx,by simp⟩,rfl⟩
  ·have hx:(ac st).names.lookup x=some .cell:=by simpa using hx
   exact QB.mpr ⟨(x,.cell),RG.mpr ⟨QH hx,by simp⟩,rfl⟩
theorem pF{P:Program}{f:Addr}{E:XK}
  (S:aV (aJ (ac st)) ps (ac st)) (h1:aj K H (fun _ _=>True) ds vs) (hl:ds.length=ps.length) :
  aC (iE eh P w K mg base (aJ (ac st)) qual (ac st) f cdv A outer s H E).nox (fun _=>none) H (start (aJ (ac st)) vs) (d5 ps ds)/\(start (aJ (ac st)) vs).length=(aJ (ac st)).length:=by
 have hpl:ps.length<=(aJ (ac st)).length:=by have:=Rq List.length S.pre;rw[QR]at this;omega
 have hvl:vs.length=ps.length:=by rw[<- h1.length];exact hl
 refine⟨⟨fun x d o hx=>?_,fun a ha=>absurd rfl ha⟩,by unfold L2.start;rw[Qr,Qp,List.length_replicate];omega⟩
 obtain⟨rfl,i,i1,i2⟩:=um hx
 obtain⟨v,i3,i4⟩:=h1.get i2
 have hi:i<ps.length:=(Qz.mp i1).1
 refine⟨i,v,?_,?_,?_,i4.imp fun a b _ _=>rfl⟩
 ·show(aJ (ac st))[i]?=some x
  rw[<- S.pre,List.getElem?_take_of_lt hi]at i1
  exact i1
 ·rcases S.par x (Re i1)with z|z
  ·exact .inl z
  ·exact .inr (.inl z)
 ·unfold L2.start
  rw[List.getElem?_append_left (by rw[Qp];omega),QY,i3];rfl
theorem v6{P:Program}{f:Addr}(Fn:nQ K g qual st f fd)
  (S:aV (aJ (ac st)) ps (ac st)) (hΦ:uC P w K mg base k Φ)
  (hrun:i9 Φ (ac st) ps (am st) F):bG P w K mg base eh (k+1) f fd ps (km K F):=by
 refine Fn.ok S (fun vs H Q E h=>?_) (fun cdv A outer s H vs Q E hr h=>?_)
 ·obtain⟨ds,r,l,h1,h2,hp,_⟩:=h
  have:=hrun ds r ⟨l,h2,hp⟩
  unfold du at this
  split at this
  ·rename_i hl;rw[<- h1.length];exact hl
  ·exact(ao this).elim
 ·obtain⟨ds,r,l,h1,h2,hp,q⟩:=h
  have hr1:=hrun ds r ⟨l,h2,hp⟩
  unfold du at hr1
  split at hr1
  ·rename_i hl
   have G:=mU (outer:=outer) (H:=H) (E:=E) S hΦ hr
   obtain⟨E0,hsl⟩:=pF (P:=P) (w:=w) (mg:=mg) (base:=base) (qual:=qual) (f:=f) (cdv:=cdv) (A:=A) (outer:=outer) (s:=s) (E:=E) S h1 hl
   have B0:bi H (fun _=>none) H:=fun a o h=>⟨h,rfl⟩
   obtain⟨fl,hx,hr1⟩:=av hr1
   cases fl with
   | rt d =>
    cases aE hr1
    exact⟨_,eF _ (H0:=H) hx G RX,fun _=>none,E0,hsl,B0,fun v H' sm rp=>q v H' sm rp⟩
   | nx ρ' =>
    cases aE hr1
    exact⟨_,eF _ (H0:=H) hx G RX,fun _=>none,E0,hsl,B0,fun ow' σ' H' _ _ kp=>q .non H' (fun a o h=>kp.keep a o h (.inr rfl)) (by rw[ai])⟩
   | bk ρ'=>exact(ao hr1).elim
   | ct ρ'=>exact(ao hr1).elim
  ·exact(ao hr1).elim
mutual
noncomputable def D.noObj:D->Bool
 | .obj _ _ _=>false
 | .tup l=>jq l
 | .lst l=>jq l
 | .dct _ l=>jq l
 | _=>true
noncomputable def jq:List D->Bool
 | []=>true
 | d::l=>d.noObj&&jq l
end
mutual
theorem ai.off{K:W.Frag}{P:aW}{H H':Hp}{x C dx:Addr}{fs:List (Str×V)}(hx:H x=some (.ins C dx fs))(s:∀a o,a≠x->H a=some o->H' a=some o):∀{d:D} {v:V},d.noObj=true->ai K H P d v->ai K H' P d v
 | .non,v,_,h=>by rw[ai]at h⊢;exact h
 | .bl b,v,_,h=>by rw[ai]at h⊢;exact h
 | .int i,v,_,h=>by rw[ai]at h⊢;exact h
 | .str x,v,_,h=>by rw[ai]at h⊢;exact h
 | .dct ks es,v,f,h=>by
  rw[ai]at h⊢
  obtain⟨f0,e0,a,vs,e,h1,p,r⟩:=h
  exact⟨f0,e0,a,vs,e,s _ _ (fy h1 hx (fun z=>nomatch z)) h1,p,aj.off hx s (by rw[D.noObj]at f;exact f) r⟩
 | .typ n,v,_,h=>by rw[ai]at h⊢;exact h
 | .dcf ks es,v,f,h=>by
  rw[ai]at h⊢
  obtain⟨e0,a,o,vs,e,h1,r⟩:=h
  refine⟨e0,a,o,vs,e,s _ _ (fy h1 hx (fun z=>nomatch z)) h1,r.keep (fun a vs h=>?_) fun a o u z=>s _ _ (fy z hx (fun z=>nomatch z)) z⟩
  rcases h with(h|⟨o,h⟩)|h
  ·exact .inl (.inl (s _ _ (fy h hx (fun z=>nomatch z)) h))
  ·exact .inl (.inr ⟨o,s _ _ (fy h hx (fun z=>nomatch z)) h⟩)
  ·exact .inr h
 | .sn n,v,_,h=>by
  rw[ai]at h⊢
  obtain⟨a,S,e,h⟩:=h
  exact⟨a,S,e,s _ _ (fy h hx (fun z=>nomatch z)) h⟩
 | .obj n ns ds,v,f,h=>by rw[D.noObj]at f;cases f
 | .cls n,v,_,h=>by rw[ai]at h⊢;exact h
 | .xc n p,v,_,h=>by rw[ai]at h⊢;exact h.mono (fun a C od z=>s _ _ (fy z hx (fun z=>nomatch z)) z) (fun a fs z=>s _ _ (fy z hx (fun z=>nomatch z)) z)
 | .tup l,v,f,h=>by
  rw[ai]at h⊢
  obtain⟨a,vs,e,h,r⟩:=h
  refine⟨a,vs,e,?_,aj.off hx s (by rw[D.noObj]at f;exact f) r⟩
  rcases h with(h|⟨o,h⟩)|h
  ·exact .inl (.inl (s _ _ (fy h hx (fun z=>nomatch z)) h))
  ·exact .inl (.inr ⟨o,s _ _ (fy h hx (fun z=>nomatch z)) h⟩)
  ·exact .inr h
 | .lst l,v,f,h=>by
  rw[ai]at h⊢
  obtain⟨a,vs,b,e,h,p,r⟩:=h
  refine⟨a,vs,b,e,?_,p,aj.off hx s (by rw[D.noObj]at f;exact f) r⟩
  cases b with
  | true=>exact s _ _ (fy h hx (fun z=>nomatch z)) h
  | false =>
   rcases h with⟨o,h⟩|h
   ·exact .inl ⟨o,s _ _ (fy h hx (fun z=>nomatch z)) h⟩
   ·exact .inr h
theorem aj.off{K:W.Frag}{P:aW}{H H':Hp}{x C dx:Addr}{fs:List (Str×V)}(hx:H x=some (.ins C dx fs))(s:∀a o,a≠x->H a=some o->H' a=some o):∀{l:List D} {vs:List V},jq l=true->aj K H P l vs->aj K H' P l vs
 | [],vs,_,h=>by rw[aj]at h⊢;exact h
 | d::l,vs,f,h=>by
  rw[aj]at h⊢
  rw[jq,Qx]at f
  obtain⟨v,r,e,h1,h2⟩:=h
  exact⟨v,r,e,ai.off hx s f.1 h1,aj.off hx s f.2 h2⟩
end
theorem dz{P:Program}{f:Addr}(Fn:nQ K g qual st f fd)
  (S:aV (aJ (ac st)) ps (ac st)) (hm:mg g=some (.ref f)) (hb:bK K fd ps []) (hd:(g==("__debug__" : Str))=false)
  (hΦ:uC P w K mg base k Φ) (hrun:i9 Φ (ac st) ps (am st) F):dU P w K mg base (k+1) g F :=
 ⟨f,fd,ps,v6 Fn S hΦ hrun,hm,Fn.kp,hb,hd⟩
theorem ay{Pr:α->Prop}{x:α}{l:List α}(h1:Pr x)(h2:∀y∈l,Pr y):∀y∈x::l,Pr y:=fun y hy=>(Qo.mp hy).elim (fun e=>e ▸ h1) (h2 y)
theorem aH{Pr:α->Prop}:∀y∈([]:List α),Pr y:=fun y hy=>by cases hy
theorem IK{a:Addr}(hO:xW H)(hS:bT K H a (ns.map V.int))(h:aa (F [.lst (ns.map D.int)]) (.bl true)):km K F [.ref a] H (fun v _=>v=.bl true) fun _ _ _=>False:=by
 obtain⟨l,h,hp⟩:=h
 refine⟨[.lst (ns.map D.int)],.bl true,l,aj.one ?_,h,hp,fun v H' _ r=>by rw[ai]at r;exact r⟩
 rw[ai]
 rcases hS with(hS|hS)|hS
 ·rcases hO a with z|⟨o,xs,z⟩
  ·rw[z]at hS;cases hS
  ·rw[z]at hS;cases hS
 ·exact⟨a,_,false,rfl,.inl hS,True.intro,aj.ofInts⟩
 ·exact⟨a,_,false,rfl,.inr hS,True.intro,aj.ofInts⟩
noncomputable abbrev DD(P:Program)(w:World)(K:W.Frag)(mg:Str->Option Value)(base:Heap)(k:Nat):Str×(List D->Rs D)->Prop:=fun p=>Mg P w K mg base k p.1 p.2
noncomputable abbrev dk(mg:Str->Option Value)(K:W.Frag):Str×D->Prop:=fun p => ∃v u,mg p.1=some u/\aP v u/\∀H P,ai K H P p.2 v
noncomputable abbrev mj:Str×(List D->R1)->Prop:=fun p=>fV p.1 p.2
noncomputable abbrev xZ:Str×(List D->Nat->R1)->Prop:=fun p=>nj p.1 p.2
noncomputable abbrev Kv:Str×(D->List D->R1)->Prop:=fun p=>xY p.1 p.2
noncomputable abbrev xX:Str×(List D->List D->Nat->Rs (List D))->Prop:=fun p=>ni p.1 p.2
theorem bL{P:Program}{l:List (Str×(List D->Rs D))}{c:List (Str×D)}{b:List (Str×(List D->R1))}{i:List (Str×(List D->Nat->R1))}{m:List (Str×(D->List D->R1))}{t:List (Str×(List D->List D->Nat->Rs (List D)))}{sf:D->Option Int->Option Int->R1}
  (hl:∀p∈l,DD P w K mg base k p) (hc:∀p∈c,dk mg K p) (hb:∀p∈b,mj p) (hi:∀p∈i,xZ p) (hm:∀p∈m,Kv p) (ht:∀p∈t,xX p) (hs:rJ sf) (hn:∀n∈iH,mg n=none):uC P w K mg base k (Tb l c b i m t sf) :=
 ⟨fun g F h=>hl (g,F) (QH h),fun x d h=>hc (x,d) (QH h),fun f B h=>hb (f,B) (QH h),fun f B h=>hi (f,B) (QH h),fun f B h=>hm (f,B) (QH h),fun f B h=>ht (f,B) (QH h),hs,(fun _ _ h=>by cases h),(fun _ _ _ h=>by cases h),hn⟩
theorem t7{c:Addr}{ss:Array (Option Value)}{nn:Nat}{its:Array Value}(hm:mg x=some (.ref c))(hl:K.lookup c=some ⟨.type "tuple", none,.seq its nn,ss⟩)(hz:its.size<=sizeLine)(hv:aD (ns.map V.int) its.toList) :
  dk mg K (x,.tup (ns.map .int)):=⟨.ref c,.ref c,hm,rfl,fun H P=>by rw[ai];exact⟨c,_,rfl,.inr ⟨_,its,nn,hl,rfl,rfl,rfl,hz,hv⟩,aj.ofInts⟩⟩
theorem jH{y:Int}{t:Tok}(hm:mg x=some (.int y t)):dk mg K (x,.int y):=⟨.int y,.int y t,hm,⟨t,rfl⟩,fun H P=>by rw[ai]⟩
open AutoSeq1 (wpAny_loadPart')
section
variable{prog:Program}{w:World}{A:Around}{E:Value->Shared->Prop}{s:Shared}
end
variable{X:Cx}
open AutoSeq1 (wpAny_loadPart')
section
variable{prog:Program}{w:World}{A:Around}{E:Value->Shared->Prop}{s:Shared}
variable{z TI TO i1 i2 l1 l2:Addr}{k1 k2:Nat}{P1 P2:Nat->Heap->Prop}{g1 g2:Nat->Option Value}{x y a b:Value}
end
variable{X:Cx}
variable{X:Cx}
noncomputable def Ma(κ:Bool)(K:W.Frag)(H:Hp)(a:Addr)(xs:List V):Prop:=match κ with|true=>ba K H a xs|false=>bT K H a xs
noncomputable def Bc(κ:Bool)(l:List D):D:=match κ with|true=>.tup l|false=>.lst l
theorem GQ{κ:Bool}{H1:Hp}(h:ai X.K H1 (Kp ow H k) (Bc κ l) v):∃a vs,v=.ref a/\Ma κ X.K H1 a vs/\aj X.K H1 (Kp ow H k) l vs/\∀{P':aW} {H2:Hp},dE (Kd ow H k H1) P' H1 H2->Ma κ X.K H2 a vs:=by
 cases κ
 ·rw[show Bc false l=.lst l from rfl,ai]at h
  obtain⟨a,vs,b,rfl,hl,hp,rl⟩:=h
  have hp':Kd ow H k H1 a b:=⟨hp,fun hb=>by subst hb;exact⟨_,hl⟩⟩
  exact⟨a,vs,rfl,hl.sq,rl,fun st=>(st.ls hl hp').sq⟩
 ·rw[show Bc true l=.tup l from rfl,ai]at h
  obtain⟨a,vs,rfl,hl,rl⟩:=h
  exact⟨a,vs,rfl,hl,rl,fun st=>st.sq hl⟩
open AutoSeq1 (wpAny_loadPart')
variable{X:Cx}
section
variable{prog:Program}{w:World}{A:Around}{E:Value->Shared->Prop}{s:Shared}
end
open PySem.W (KasT kas_sort kas_ask KatLex KatTups kat_sorted kat_kind kat_lt kat_cons kat_nil kat_go kat_yes kat_no kat_one KasFin)
noncomputable def lx(fin:Bool):List Int->List Int->Bool
 | x::xs,y::ys=>if x=y then lx fin xs ys else decide (x<y)
 | _,_=>fin
theorem zh:∀xs ys:List Int,lx (decide (xs.length<ys.length)) xs ys=HT.lexLt xs ys
 | [],[]=>rfl
 | [],_::_=>rfl
 | _::_,[]=>rfl
 | x::xs,y::ys=>by
  rw[HT.lexLt_cons,lx]
  have:decide ((x::xs).length<(y::ys).length)=decide (xs.length<ys.length):=by simp
  rw[this,zh xs ys]
section
variable{prog:Program}{w:World}{A:Around}{E:Value->Shared->Prop}{s:Shared}
theorem wY{x y:Int}{t u:Tok}(h:Q (decide (x<y)) s):wpAny (model prog w) A (oneLt' b (.int x t) (.int y u)) Q E s:=by
 cases b with
 | true=>exact oneLt_int h
 | false=>exact kat_one _ _ (lt_int h)
theorem tm{b fin:Bool}{Q:Bool->Shared->Prop}:∀(xs ys:List Int) (us vs:List Value) (i:Nat),aD (xs.map V.int) us->aD (ys.map V.int) vs->Q (lx fin xs ys) s->KatLex prog w A b fin Q (us.zip vs) i s
 | [],ys,us,vs,i,r1,r2,q=>by
  cases r1
  exact kat_nil (by cases ys<;>exact q)
 | x::xs,[],us,vs,i,r1,r2,q=>by
  cases r2
  rw[List.zip_nil_right]
  exact kat_nil q
 | x::xs,y::ys,us,vs,i,r1,r2,q=>by
  cases r1 with
  | cons a1 b1 =>
   cases r2 with
   | cons a2 b2 =>
    obtain⟨t,rfl⟩:=a1
    obtain⟨u,rfl⟩:=a2
    refine kat_cons (wpAny_eqBool_int ?_)
    refine kat_go (fun e=>kat_yes ?_) fun e=>kat_no ?_
    ·have e:x=y:=by simpa using e
     refine tm xs ys _ _ (i+1) b1 b2 ?_
     rw[lx,if_pos e]at q;exact q
    ·have e:x≠y:=by simpa using e
     rw[lx,if_neg e]at q
     exact wY q
end
theorem bF.length:∀{vs:List V} {r:List (List Int)},bF K H vs r->vs.length=r.length
 | [],[],_=>rfl
 | v::vs,ns::r,h=>by rw[Qw,Qw,h.2.length]
 | [],_::_,h=>h.elim
 | _::_,[],h=>h.elim
theorem bF.get{K:W.Frag}{H:Hp}:∀{vs:List V} {r:List (List Int)} {i:Nat},bF K H vs r->i<vs.length->∃a,vs[i]?=some (.ref a)/\ba K H a ((r.getD i []).map V.int)/\r.getD i []≠[]
 | [],_,_,_,h=>by cases h
 | v::vs,[],_,h,_=>h.elim
 | v::vs,ns::r,0,h,_=>by
  obtain⟨a,e,h1,h2⟩:=h.1
  exact⟨a,by rw[e];rfl,h1,h2⟩
 | v::vs,ns::r,i+1,h,hi=>by
  obtain⟨a,h1,h2,h3⟩:=bF.get (i:=i) h.2 (by simpa using hi)
  exact⟨a,by simpa using h1,by simpa using h2,by simpa using h3⟩
variable{X:Cx}
noncomputable def fw:List D->Option (List (List Int))
 | []=>some []
 | .tup l::r=>(match cz l,fw r with
  | some (n::ns),some q=>some ((n::ns)::q)
  | _,_=>none)
 | _=>none
theorem nU{K:W.Frag}{P:aW}{H:Hp}:∀{l:List D} {nss:List (List Int)} {ts:List V},fw l=some nss->aj K H P l ts->bF K H ts nss/\au l=true
 | [],nss,ts,h,r=>by
  rw[fw]at h;cases h
  rw[aj]at r;subst r
  exact⟨trivial,rfl⟩
 | d::l,nss,ts,h,r=>by
  rw[aj]at r
  obtain⟨v,vs,rfl,r1,r2⟩:=r
  cases d with
  | tup m =>
   rw[fw]at h
   split at h
   ·rename_i n ns q e1 e2
    cases h
    obtain⟨h1,h2⟩:=nU e2 r2
    cases gE e1
    rw[ai]at r1
    obtain⟨a,ws,rfl,hs,rl⟩:=r1
    refine⟨⟨⟨a,rfl,by rw[<- rl.mapInt];exact hs,by simp⟩,h1⟩,?_⟩
    rw[au,h2,D.lless]
    have:∀ns:List Int,au (ns.map D.int)=true:=by
     intro ns
     induction ns with
     | nil=>rfl
     | cons n ns ih=>rw[QJ,au,ih];rfl
    rw[this];rfl
   ·cases h
  | _=>cases h
theorem bO{r:Rs α}{a:α}{l:List Prop}(h:r=.ok a l)(hp:aG l):aa r a:=⟨l,h,hp⟩
theorem aa.eq{r:Rs α}{a b:α}(h:aa r a)(e:a=b):aa r b:=e ▸ h
theorem aa.bnd{r:Rs α}{f:α->Rs β}{a:α}{b:β}(h1:aa r a)(h2:aa (f a) b):aa (r.bnd f) b:=by
 obtain⟨l,rfl,p1⟩:=h1
 obtain⟨m,h2,p2⟩:=h2
 refine⟨l++m,?_,dj.mpr ⟨p1,p2⟩⟩
 show(match f a with | .st=>(.st:Rs β) | .ok b m=>Rs.ok b (l++m))=_
 rw[h2]
theorem aa.inj{r:Rs α}{a b:α}(h:aa r a)(g:aa r b):a=b:=by
 obtain⟨l,h,_⟩:=h;obtain⟨m,g,_⟩:=g;rw[h]at g;cases g;rfl
section
variable{Φ:Fx}{sc:Scope}{ρ ρ':ah}{fl:Fl}{ss:List Stmt}
theorem iN(h:aa (aA Φ body sc (d5 ps ds)) (.rt d))(hl:ds.length=ps.length:=by rfl):aa (du Φ sc ps body ds) d:=by
 unfold du;rw[if_pos hl];exact h.bnd ⟨[],rfl,True.intro⟩
theorem db:aa (aA Φ [] sc ρ) (.nx ρ):=⟨[],rfl,True.intro⟩
theorem bA{s:Stmt}(h:aa (fi Φ s sc ρ) (.nx ρ'))(h2:aa (aA Φ ss sc ρ') fl):aa (aA Φ (s::ss) sc ρ) fl:=aa.bnd h h2
theorem kM{s:Stmt}(h:aa (fi Φ s sc ρ) fl)(hf:∀ρ,fl ≠ .nx ρ):aa (aA Φ (s::ss) sc ρ) fl:=aa.bnd h (by
 cases fl with
 | nx ρ=>exact absurd rfl (hf ρ)
 | rt d=>exact⟨[],rfl,True.intro⟩
 | bk ρ=>exact⟨[],rfl,True.intro⟩
 | ct ρ=>exact⟨[],rfl,True.intro⟩)
theorem mq{s:Stmt}(h:aa (fi Φ s sc ρ) (.rt d)):aa (aA Φ (s::ss) sc ρ) (.rt d):=kM h fun _ z=>by cases z
theorem rZ{s:Stmt}(h:aa (aA Φ (s::ss) sc ρ) fl):(∃ρ',aa (fi Φ s sc ρ) (.nx ρ')/\aa (aA Φ ss sc ρ') fl)\/((∀ρ,fl ≠ .nx ρ)/\aa (fi Φ s sc ρ) fl):=by
 obtain⟨f,h1,h2⟩:=av (show aa (Rs.bnd _ _) fl from h)
 cases f with
 | nx ρ'=>exact .inl ⟨ρ',h1,h2⟩
 | rt d=>cases aE h2;exact .inr ⟨fun _ z=>(by cases z),h1⟩
 | bk ρ=>cases aE h2;exact .inr ⟨fun _ z=>(by cases z),h1⟩
 | ct ρ=>cases aE h2;exact .inr ⟨fun _ z=>(by cases z),h1⟩
theorem Az:∀{a:List Stmt} {ρ:ah},aa (aA Φ a sc ρ) (.nx ρ')->aa (aA Φ ss sc ρ') fl->aa (aA Φ (a++ss) sc ρ) fl
 | [],ρ,h,h2=>by cases aE h;exact h2
 | s::a,ρ,h,h2=>by
  rcases rZ h with⟨ρ1,h3,h4⟩|⟨h3,_⟩
  ·exact bA h3 (Az h4 h2)
  ·exact absurd rfl (h3 _)
theorem qA:∀{a:List Stmt} {ρ:ah},aa (aA Φ (a++ss) sc ρ) fl->(∃ρ',aa (aA Φ a sc ρ) (.nx ρ')/\aa (aA Φ ss sc ρ') fl)\/((∀ρ,fl ≠ .nx ρ)/\aa (aA Φ a sc ρ) fl)
 | [],ρ,h=>.inl ⟨ρ,db,h⟩
 | s::a,ρ,h=>by
  rcases rZ h with⟨ρ1,h3,h4⟩|⟨h3,h4⟩
  ·rcases qA h4 with⟨ρ2,h5,h6⟩|⟨h5,h6⟩
   ·exact .inl ⟨ρ2,bA h3 h5,h6⟩
   ·exact .inr ⟨h5,bA h3 h6⟩
  ·exact .inr ⟨h3,kM h4 h3⟩
theorem ej(n:Nat)(h:aa (aA Φ (ss.take n) sc ρ) (.nx ρ'))(h2:aa (aA Φ (ss.drop n) sc ρ') fl):aa (aA Φ ss sc ρ) fl:=by
 rw[<- Q0 n ss];exact Az h h2
theorem mv{a b:List Stmt}(hc:aa (ax Φ c false sc ρ) (.bl t,k))(h1:t=true->aa (aA Φ (a++ss) sc ρ) fl)(h2:t=false->aa (aA Φ (b++ss) sc ρ) fl):aa (aA Φ (.If c a b p::ss) sc ρ) fl:=by
 have key:∀x,aa (cond t (aA Φ a sc ρ) (aA Φ b sc ρ)) x->aa (fi Φ (.If c a b p) sc ρ) x:=fun x hx=>aa.bnd hc hx
 cases t with
 | true =>
  rcases qA (h1 rfl)with⟨ρ1,h3,h4⟩|⟨h3,h4⟩
  ·exact bA (key _ h3) h4
  ·exact kM (key _ h4) h3
 | false =>
  rcases qA (h2 rfl)with⟨ρ1,h3,h4⟩|⟨h3,h4⟩
  ·exact bA (key _ h3) h4
  ·exact kM (key _ h4) h3
theorem oS{a b:List Stmt}(hc:aa (ax Φ c false sc ρ) (.bl t,k))(ht:t=true)(h1:aa (aA Φ (a++ss) sc ρ) fl):aa (aA Φ (.If c a b p::ss) sc ρ) fl:=mv hc (fun _=>h1) fun z=>by rw[ht]at z;cases z
theorem cH{a b:List Stmt}(hc:aa (ax Φ c false sc ρ) (.bl t,k))(ht:t=false)(h1:aa (aA Φ (b++ss) sc ρ) fl):aa (aA Φ (.If c a b p::ss) sc ρ) fl:=mv hc (fun z=>by rw[ht]at z;cases z) fun _=>h1
theorem zR{it:Expr}(hi:aa (ax Φ it true sc (demote it ρ)) (d,k))(hd:items d=some ds)(hk:k<=1)(ht:fF it tg=true)(h:aa (fe (bE sc tg) (aA Φ body sc) ds (demote it ρ)) fl):aa (fi Φ (.For tg it body [] p) sc ρ) fl:=by
 rw[qr,if_pos (show List.isEmpty ([]:List Stmt)=true from rfl)]
 refine hi.bnd ?_
 dsimp only
 rw[hd]
 dsimp only
 rw[if_pos ⟨hk,ht⟩]
 exact h
theorem bH{v:D}(ha:aa (bj Φ args sc ρ) (ds,k))(hv:aa (F ds) v)(hF:Φ.fn f=some F:=by rfl)(hg:sc.names.lookup f=some .globalImplicit:=by rfl):aa (ax Φ (.Call (.Name f p) args [] q) it sc ρ) (v,0):=by
 rw[iC,if_pos hg]
 refine ha.bnd ?_
 unfold j8
 rw[hF]
 exact hv.bnd ⟨[],rfl,True.intro⟩
theorem pD{v:D×Nat}(ha:aa (bj Φ args sc ρ) (ds,k))(hv:aa (B ds) v)(hF:Φ.fn f=none:=by rfl)(hI:(if it=true then Φ.itr f else none)=none:=by rfl)(hB:Φ.blt f=some B:=by rfl)(hg:sc.names.lookup f=some .globalImplicit:=by rfl):aa (ax Φ (.Call (.Name f p) args [] q) it sc ρ) v:=by
 rw[iC,if_pos hg]
 refine ha.bnd ?_
 unfold j8
 rw[hF];dsimp only
 rw[hI];dsimp only
 rw[hB];exact hv
theorem b8:aa (bj Φ [] sc ρ) ([],0):=⟨[],rfl,True.intro⟩
theorem aX(h:aa (ax Φ e false sc ρ) (d,k))(h2:aa (bj Φ es sc ρ) (ds,j)):aa (bj Φ (e::es) sc ρ) (d::ds,kj k j):=aa.bnd h (aa.bnd h2 ⟨[],rfl,True.intro⟩)
theorem v7{out:List D}(hi:aa (ax Φ iter true sc ρ) (d,k))(hd:items d=some ds)(hl:ds.length<=bc/\(au ds=true\/k<=1))
    (h:aa (gr (fun d=>match bE scope tg d (flt scope ρ)with
            | none=>.st
            | some ρ'=>(dC Φ .And ifs scope ρ').bnd fun b=>cond b ((ax Φ elt false scope ρ').bnd fun r=>.ok (some r) []) (.ok none [])) ds) (out,j)) (hj:j<=1) (hc:nM sc scope=true:=by rfl) (ht:fF iter tg=true:=by rfl):aa (ax Φ (.ListComp elt [⟨tg,iter,ifs,0⟩] scope p) it sc ρ) (.lst out,j):=by
  rw[qt,if_pos hc]
  refine hi.bnd ?_
  dsimp only
  rw[hd]
  dsimp only
  rw[if_pos ht]
  refine aa.bnd (a:=()) ⟨_,rfl,hl.1,hl.2,True.intro⟩ ?_
  refine h.bnd ?_
  rw[if_pos hj]
  exact⟨[],rfl,True.intro⟩
theorem iR{i:Expr}{x:D}{j:Int}(ha:aa (ax Φ a false sc ρ) (x,k))(hi:aa (ax Φ i false sc ρ) (.int j,k2))(hx:iM x=some l)(hd:L2.atI l j=some d):aa (ax Φ (.Subscript a i p) it sc ρ) (d,kn d k):=by
 have key:aa ((ax Φ a false sc ρ).bnd fun p=>(ax Φ i false sc ρ).bnd fun q=>jM p q) (d,kn d k):=by
  refine ha.bnd (hi.bnd ?_)
  rcases ij hx with rfl|rfl
  ·show aa (tu (.tup l) j k) _
   unfold tu
   rw[hx];dsimp only
   rw[hd];exact⟨[],rfl,True.intro⟩
  ·show aa (tu (.lst l) j k) _
   unfold tu
   rw[hx];dsimp only
   rw[hd];exact⟨[],rfl,True.intro⟩
 cases i with
 | Slice lo hi st p2=>exact(ao hi).elim
 | _=>exact key
theorem dc(h:aa (ax Φ e false sc ρ) (d,0))(hx:bX sc x=true:=by rfl):aa (fi Φ (.Assign [.Name x p] e q) sc ρ) (.nx (aM ρ x (d,true))):=by
 refine aa.bnd h ?_
 unfold p9
 rw[if_pos hx]
 exact⟨[],rfl,True.intro⟩
theorem jB(h:aa (ax Φ e false sc ρ) (d,k))(hk:k=0\/k=2:=by exact .inl rfl)(hn:rB e=false:=by rfl):aa (fi Φ (.Return (some e) q) sc ρ) (.rt d):=by
 have h:aa (ax Φ e false sc (sv e ρ)) (d,k):=by unfold sv;rw[hn];exact h
 refine aa.bnd h ?_
 unfold wN
 rw[if_pos hk]
 exact⟨[],rfl,True.intro⟩
end
theorem tN{bind:D->ah->Option ah}{body:ah->Rs Fl}(ak:List D->ah->Prop)(step:∀d l ρ,ak (d::l) ρ->∃ρ1 ρ2,bind d ρ=some ρ1/\(aa (body ρ1) (.nx ρ2)\/aa (body ρ1) (.ct ρ2))/\ak l ρ2):∀{ds:List D} {ρ:ah},ak ds ρ->∃ρ',aa (fe bind body ds ρ) (.nx ρ')/\ak [] ρ'
 | [],ρ,h=>⟨ρ,⟨[],rfl,True.intro⟩,h⟩
 | d::l,ρ,h=>by
  obtain⟨ρ1,ρ2,h1,h2,h3⟩:=step d l ρ h
  obtain⟨ρ',h4,h5⟩:=tN ak step h3
  refine⟨ρ',?_,h5⟩
  show aa (match bind d ρ with|none=>(.st:Rs Fl)|some ρ1=>(body ρ1).bnd (sO (fe bind body l))) _
  rw[h1]
  rcases h2 with h2|h2
  ·exact h2.bnd h4
  ·exact h2.bnd h4
theorem qT{α:Type}{step:D->Rs (Option (D×Nat))}{g:α->D}{f:α->D}:∀{l:List α},(∀x∈l,aa (step (g x)) (some (f x,0)))->aa (gr step (l.map g)) (l.map f,0)
 | [],_=>⟨[],rfl,True.intro⟩
 | x::l,h=>aa.bnd (h x Qj) (aa.bnd (qT fun y hy=>h y (Qi _ hy)) ⟨[],rfl,True.intro⟩)
theorem lE{α:Type}{step:D->Rs (Option (D×Nat))}{g:α->D}{f:α->D}{c:α->Bool}:∀{l:List α},(∀x∈l,aa (step (g x)) (cond (c x) (some (f x,0)) none))->aa (gr step (l.map g)) ((l.filter c).map f,0)
 | [],_=>⟨[],rfl,True.intro⟩
 | x::l,h=>by
  have h1:=h x Qj
  have h2:=lE (c:=c) fun y hy=>h y (Qi _ hy)
  cases e:c x with
  | true =>
   rw[e]at h1
   rw[List.filter_cons_of_pos e]
   exact aa.bnd h1 (aa.bnd h2 ⟨[],rfl,True.intro⟩)
  | false =>
   rw[e]at h1
   rw[List.filter_cons_of_neg (by rw[e];decide)]
   exact aa.bnd h1 (aa.bnd h2 ⟨[],rfl,True.intro⟩)
theorem cR{a b:Int}(h:a.natAbs<18446744073709551616):bf a b:=.inl h
theorem Fd{a b:Int}(h:b.natAbs<18446744073709551616):bf a b:=.inr (.inl h)
theorem bR{a b:Int}(h:a.natAbs<gF)(g:b.natAbs<gF):bf a b:=.inr (.inr (.inl ⟨h,g⟩))
theorem Kf(h:n<2 ^ 64):n<gF:=Qv h (Nat.pow_le_pow_right (by decide) (by decide))
theorem wb{b:Int}(h0:b≠0)(h:b.natAbs<18446744073709551616):rG b:=⟨h0,Kf h⟩
theorem Ge{i:Int}(h0:0<=i)(h1:i<ns.length):L2.atI (ns.map D.int) i=some (.int (ns.getD i.toNat 0)):=by
 obtain⟨j,rfl⟩:=Int.eq_ofNat_of_zero_le h0
 have hj:j<ns.length:=by omega
 have:=wf (xs:=ns.map D.int) (j:=j) (v:=.int (ns.getD j 0)) (by simp[hj])
 simpa using this
theorem pq(ns:List Int):cz (ns.map D.int)=some ns:=by
 induction ns with
 | nil=>rfl
 | cons n ns ih=>rw[QJ,cz,ih];rfl
theorem Cf:aG []:=True.intro
theorem xQ{l m:List Prop}(h:aG l)(g:aG m):aG (l++m):=dj.mpr ⟨h,g⟩
theorem Ce{p:Prop}(h:p):aG [p]:=⟨h,True.intro⟩
theorem uZ{p:Prop}{l:List Prop}(h:p)(g:aG l):aG (p::l):=⟨h,g⟩
theorem EG{a b:Int}(h0:0<=b)(h1:b<=1000)(h2:a.natAbs<18446744073709551616):wS a b:=⟨h0,h1,h2⟩
noncomputable def Sub(C ρ:ah):Prop:=∀x y,C x=some y->ρ x=some y
theorem Sub.refl(ρ:ah):Sub ρ ρ:=fun _ _ h=>h
theorem Sub.trans{a b c:ah}(h:Sub a b)(g:Sub b c):Sub a c:=fun x y e=>g x y (h x y e)
theorem Sub.put(h:Sub C ρ)(x:Str)(y:D×Bool):Sub (aM C x y) (aM ρ x y):=fun z w e=>by
 rw[bg]at e⊢
 by_cases hz:z=x
 ·rw[if_pos hz]at e⊢;exact e
 ·rw[if_neg hz]at e⊢;exact h z w e
theorem Sub.flt(h:Sub C ρ)(scope:Scope):Sub (flt scope C) (flt scope ρ):=fun z w e=>by
 obtain⟨e1,e2⟩:=jX e
 unfold Sp.flt
 rw[if_pos e2];exact h z w e1
theorem Sub.demX(h:Sub C ρ)(x:Str):Sub (demX x C) (demX x ρ):=by
 unfold Sp.demX
 intro z w hz
 by_cases hx:z=x
 ·simp only[if_pos hx]at hz⊢
  cases hc:C z with
  | none=>rw[hc]at hz;cases hz
  | some q=>rw[hc]at hz;rw[h z q hc];exact hz
 ·simp only[if_neg hx]at hz⊢;exact h z w hz
theorem Sub.demA(h:Sub C ρ)(x:Str):Sub (demA x C) (demA x ρ):=by
 intro z w hz
 unfold Sp.demA at hz⊢
 by_cases hx:z=x
 ·simp only[if_pos hx]at hz⊢
  cases hc:C z with
  | none=>rw[hc]at hz;cases hz
  | some q=>rw[hc]at hz;rw[h z q hc];exact hz
 ·simp only[if_neg hx]at hz⊢;exact h z w hz
theorem Sub.demL:∀{es:List Expr} {C ρ:ah},Sub C ρ->Sub (demL es C) (demL es ρ)
 | [],_,_,h=>h
 | e::es,C,ρ,h=>by
  cases e with
  | Name x p=>exact Sub.demL (es:=es) (h.demA x)
  | Subscript a i p =>
   cases a with
   | Name x q=>exact Sub.demL (es:=es) (h.demA x)
   | _=>exact Sub.demL (es:=es) h
  | _=>exact Sub.demL (es:=es) h
theorem Sub.demote(h:Sub C ρ)(e:Expr):Sub (demote e C) (demote e ρ):=by
 unfold Sp.demote
 split
 ·exact h.demX _
 ·exact h.demX _
 ·exact h.demL
 ·exact h
theorem qJ:∀{es:List Expr} {ds:List D} {C C' ρ:ah},aQ sc es ds C=some C'->Sub C ρ->∃ρ',aQ sc es ds ρ=some ρ'/\Sub C' ρ':=by
 intro es
 induction es with
 | nil =>
  intro ds C C' ρ h s
  cases ds with
  | nil=>cases h;exact⟨ρ,rfl,s⟩
  | cons d ds=>cases h
 | cons e es ih =>
  intro ds C C' ρ h s
  cases ds with
  | nil=>cases e<;>cases h
  | cons d ds =>
   cases e with
   | Name z p =>
    rw[aQ]at h⊢
    split at h
    ·rename_i hz
     rw[if_pos hz]
     exact ih h (s.put _ _)
    ·cases h
   | _=>cases h
theorem rW(h:bE sc tg d C=some C')(s:Sub C ρ):∃ρ',bE sc tg d ρ=some ρ'/\Sub C' ρ':=by
 unfold bE at h⊢
 split at h
 ·split at h
  ·rename_i hx;cases h;exact⟨_,if_pos hx,s.put _ _⟩
  ·cases h
 ·split at h
  ·exact qJ h s
  ·cases h
 ·cases h
theorem eU{m:List Prop}(h:b=true->aG m):aG (gd b m):=by
 cases m with
 | nil=>exact True.intro
 | cons p l=>exact⟨h,True.intro⟩
theorem uq{c:Bool}{r:Rs Bool}(h:b=true->aa r c)(hf:b=false->c=false):aa (xP b r) c:=by
 cases b with
 | true =>
  obtain⟨m,rfl,hm⟩:=h rfl
  exact⟨_,rfl,eU fun _=>hm⟩
 | false =>
  rw[hf rfl]
  cases r with
  | ok c' m=>exact⟨_,rfl,eU fun z=>(by cases z)⟩
  | st=>exact⟨_,rfl,True.intro⟩
theorem wV{c:Bool}{r:Rs Bool}(h:b=false->aa r c)(hf:b=true->c=true):aa (CO b r) c:=by
 cases b with
 | false =>
  obtain⟨m,rfl,hm⟩:=h rfl
  exact⟨_,rfl,eU fun _=>hm⟩
 | true =>
  rw[hf rfl]
  cases r with
  | ok c' m=>exact⟨_,rfl,eU fun z=>(by cases z)⟩
  | st=>exact⟨_,rfl,True.intro⟩
theorem Lp{r s:R1}{d:D×Nat}(h:aa (if t=true then r else s) d):aa (Da t r s) d:=by
 cases t with
 | true =>
  rw[if_pos rfl]at h
  obtain⟨m,rfl,hm⟩:=h
  cases s with
  | ok q n=>exact⟨_,by show Rs.ok _ _=Rs.ok _ _;rw[sS,C4],dj.mpr ⟨eU fun _=>hm,eU fun z=>(by cases z)⟩⟩
  | st=>exact⟨m,rfl,hm⟩
 | false =>
  rw[if_neg QL]at h
  obtain⟨m,rfl,hm⟩:=h
  cases r with
  | ok q n=>exact⟨_,by show Rs.ok _ _=Rs.ok _ _;rw[sT,C5],dj.mpr ⟨eU fun z=>(by cases z),eU fun _=>hm⟩⟩
  | st=>exact⟨m,rfl,hm⟩
theorem oB{p:D×Nat}{f:Bool->Rs α}{a:α}(h:p.1=.bl b)(h2:aa (f b) a):aa (lI p f) a:=by
 unfold lI;rw[h];exact h2
structure Mo(Φ:Fx)(n:Nat):Prop where
 e:∀(e:Expr) {it:Bool} {sc:Scope} {C ρ:ah} {p:D×Nat},sizeOf e<n->aa (ax Φ e it sc C) p->Sub C ρ->aa (ax Φ e it sc ρ) p
 es:∀(es:List Expr) {sc:Scope} {C ρ:ah} {p:List D×Nat},sizeOf es<n->aa (bj Φ es sc C) p->Sub C ρ->aa (bj Φ es sc ρ) p
 b:∀(op:BoolOp) (es:List Expr) {sc:Scope} {C ρ:ah} {b:Bool},sizeOf es<n->aa (dC Φ op es sc C) b->Sub C ρ->aa (dC Φ op es sc ρ) b
 o:∀(e:Option Expr) {sc:Scope} {C ρ:ah} {o:Option Int},sizeOf e<n->aa (v9 Φ e sc C) o->Sub C ρ->aa (v9 Φ e sc ρ) o
theorem vK{step step2:D->Rs (Option (D×Nat))}(h:∀d r,aa (step d) r->aa (step2 d) r):∀{ds:List D} {q:List D×Nat},aa (gr step ds) q->aa (gr step2 ds) q
 | [],q,hq=>hq
 | d::ds,q,hq=>by
  obtain⟨r,h1,h2⟩:=av (show aa (Rs.bnd _ _) q from hq)
  obtain⟨q1,h3,h4⟩:=av h2
  exact aa.bnd (h _ _ h1) (aa.bnd (vK h h3) h4)
section
variable{Φ:Fx}{n:Nat}{it:Bool}{sc:Scope}{C ρ:ah}{p:D×Nat}
theorem Lk(I:Mo Φ n){i:Expr}(hs:sizeOf (Expr.Subscript a i pos)<n+1)(h:aa ((ax Φ a false sc C).bnd fun p=>(ax Φ i false sc C).bnd fun q=>jM p q) p)(s:Sub C ρ):aa ((ax Φ a false sc ρ).bnd fun p=>(ax Φ i false sc ρ).bnd fun q=>jM p q) p:=by
 obtain⟨x,h1,h⟩:=av h
 obtain⟨y,h2,h⟩:=av h
 exact aa.bnd (I.e a (aY (by simp<;>omega) hs) h1 s) (aa.bnd (I.e i (aY (by simp<;>omega) hs) h2 s) h)
theorem Od(I:Mo Φ n)(e:Expr)(hs:sizeOf e<n+1)(h:aa (ax Φ e it sc C) p)(s:Sub C ρ):aa (ax Φ e it sc ρ) p:=by
 cases e with
 | Constant c k q=>exact h
 | Name x q =>
  replace h:aa (mI Φ x sc C) p:=h
  show aa (mI Φ x sc ρ) p
  unfold mI at h⊢
  split at h
  ·rename_i hx
   rw[if_pos hx]
   split at h
   ·rename_i hg;rw[if_pos hg];exact h
   ·rename_i hg
    rw[if_neg hg]
    split at h
    ·rename_i y hy;rw[s x y hy];exact h
    ·exact(ao h).elim
  ·exact(ao h).elim
 | BinOp a op b q =>
  obtain⟨x,h1,h⟩:=av (show aa (Rs.bnd _ _) p from h)
  obtain⟨y,h2,h⟩:=av h
  exact aa.bnd (I.e a (aY (by simp<;>omega) hs) h1 s) (aa.bnd (I.e b (aY (by simp<;>omega) hs) h2 s) h)
 | UnaryOp op a q =>
  obtain⟨x,h1,h⟩:=av (show aa (Rs.bnd _ _) p from h)
  exact aa.bnd (I.e a (aY (by simp<;>omega) hs) h1 s) h
 | BoolOp op es q =>
  rw[qu]at h⊢
  split at h
  ·exact(ao h).elim
  ·rename_i hne
   rw[if_neg hne]
   obtain⟨b,h1,h⟩:=av h
   exact aa.bnd (I.b op es (aY (by simp<;>omega) hs) h1 s) h
 | Compare a ops bs q =>
  match ops,bs,hs,h with
  | [op],[b],hs,h =>
   obtain⟨x,h1,h⟩:=av (show aa (Rs.bnd _ _) p from h)
   obtain⟨y,h2,h⟩:=av h
   exact aa.bnd (I.e a (aY (by simp<;>omega) hs) h1 s) (aa.bnd (I.e b (aY (by simp<;>omega) hs) h2 s) h)
  | [],bs,_,h=>exact(ao h).elim
  | [op],[],_,h=>exact(ao h).elim
  | [op],_::_::_,_,h=>exact(ao h).elim
  | [op,op2],[b,c],hs,h =>
   obtain⟨x,h1,h⟩:=av (show aa (Rs.bnd _ _) p from h)
   obtain⟨y,h2,h⟩:=av h
   obtain⟨z,h3,h⟩:=av h
   exact aa.bnd (I.e a (aY (by simp<;>omega) hs) h1 s) (aa.bnd (I.e b (aY (by simp<;>omega) hs) h2 s) (aa.bnd (I.e c (aY (by simp<;>omega) hs) h3 s) h))
  | [_,_],[],_,h=>exact(ao h).elim
  | [_,_],[_],_,h=>exact(ao h).elim
  | [_,_],_::_::_::_,_,h=>exact(ao h).elim
  | _::_::_::_,bs,_,h=>exact(ao h).elim
 | IfExp c a b q =>
  obtain⟨x,h1,h⟩:=av (show aa (Rs.bnd _ _) p from h)
  obtain⟨t,ht,h⟩:=jp h
  obtain⟨l,h,hp⟩:=h
  obtain⟨m,h,hm⟩:=vX h hp
  refine aa.bnd (I.e c (aY (by simp<;>omega) hs) h1 s) (oB ht (Lp ?_))
  cases t with
  | true=>exact I.e a (aY (by simp<;>omega) hs) ⟨m,h,hm⟩ s
  | false=>exact I.e b (aY (by simp<;>omega) hs) ⟨m,h,hm⟩ s
 | Tuple es k q =>
  obtain⟨x,h1,h⟩:=av (show aa (Rs.bnd _ _) p from h)
  exact aa.bnd (I.es es (aY (by simp<;>omega) hs) h1 s) h
 | List es q =>
  obtain⟨x,h1,h⟩:=av (show aa (Rs.bnd _ _) p from h)
  exact aa.bnd (I.es es (aY (by simp<;>omega) hs) h1 s) h
 | Attribute a f q=>exact(ao h).elim
 | Dict ks vs q =>
  match ks,vs,h with
  | [],[],h=>exact h
  | _::_,_,h=>exact(ao h).elim
  | [],_::_,h=>exact(ao h).elim
 | Subscript a i q=>exact Lk I hs h s
 | Call f args kws q =>
  cases f with
  | Name f fp =>
   cases kws with
   | nil =>
    rw[iC]at h⊢
    split at h
    ·rename_i hf
     rw[if_pos hf]
     obtain⟨x,h1,h⟩:=av h
     exact aa.bnd (I.es args (aY (by simp<;>omega) hs) h1 s) h
    ·exact(ao h).elim
   | cons _ _=>exact(ao h).elim
  | Attribute a m ap =>
   cases kws with
   | nil =>
    rw[tV]at h⊢
    split at h
    ·rename_i hf
     rw[if_pos hf]
     obtain⟨x,h1,h⟩:=av h
     obtain⟨y,h2,h⟩:=av h
     exact aa.bnd (I.e a (aY (by simp<;>omega) hs) h1 s) (aa.bnd (I.es args (aY (by simp<;>omega) hs) h2 s) h)
    ·exact(ao h).elim
   | cons _ _=>exact(ao h).elim
  | _=>exact(ao h).elim
 | ListComp elt gens scope q =>
  obtain⟨l0,h0,_⟩:=id h
  obtain⟨tg,iter,ifs,rfl⟩:=qp h0
  rw[qt]at h⊢
  split at h
  ·rename_i hc
   rw[if_pos hc]
   obtain⟨x,h1,h⟩:=av h
   refine aa.bnd (I.e iter (by first|omega|(simp at *;omega)) h1 s) ?_
   split at h
   ·split at h
    ·rename_i hl
     rw[if_pos hl]
     obtain⟨u0,h0',h⟩:=av h
     obtain⟨y,h2,h⟩:=av h
     refine aa.bnd h0' (aa.bnd (vK (fun d r hr=>?_) h2) h)
     split at hr
     ·exact(ao hr).elim
     ·rename_i C' hb
      obtain⟨ρ',hb',s'⟩:=rW hb (s.flt scope)
      rw[hb']
      obtain⟨b,h3,hr⟩:=av hr
      refine aa.bnd (I.b .And ifs (by first|omega|(simp at *;omega)) h3 s') ?_
      cases b with
      | false=>exact hr
      | true =>
       rw[cond_true]at hr⊢
       obtain⟨z,h4,hr⟩:=av hr
       exact aa.bnd (I.e elt (by first|omega|(simp at *;omega)) h4 s') hr
    ·exact(ao h).elim
   ·exact(ao h).elim
  ·exact(ao h).elim
 | _=>exact(ao h).elim
theorem Ll(I:Mo Φ n)(es:List Expr){p:List D×Nat}(hs:sizeOf es<n+1)(h:aa (bj Φ es sc C) p)(s:Sub C ρ):aa (bj Φ es sc ρ) p:=by
 cases es with
 | nil=>exact h
 | cons e es =>
  obtain⟨x,h1,h⟩:=av (show aa (Rs.bnd _ _) p from h)
  obtain⟨y,h2,h⟩:=av h
  exact aa.bnd (I.e e (aY (by simp<;>omega) hs) h1 s) (aa.bnd (I.es es (aY (by simp<;>omega) hs) h2 s) h)
theorem Oe(I:Mo Φ n)(op:BoolOp)(es:List Expr)(hs:sizeOf es<n+1)(h:aa (dC Φ op es sc C) b)(s:Sub C ρ):aa (dC Φ op es sc ρ) b:=by
 cases es with
 | nil=>cases op<;>exact h
 | cons e es =>
  cases op with
  | And =>
   obtain⟨x,h1,h⟩:=av (show aa (Rs.bnd _ _) b from h)
   obtain⟨t,ht,l,h,hp⟩:=jp h
   refine aa.bnd (I.e e (aY (by simp<;>omega) hs) h1 s) (oB ht ?_)
   rcases uo h hp with⟨rfl,m,h,pm⟩|⟨rfl,rfl⟩
   ·exact uq (fun _=>I.b .And es (aY (by simp<;>omega) hs) ⟨m,h,pm⟩ s) fun z=>(by cases z)
   ·exact uq (fun z=>(by cases z)) fun _=>rfl
  | Or =>
   obtain⟨x,h1,h⟩:=av (show aa (Rs.bnd _ _) b from h)
   obtain⟨t,ht,l,h,hp⟩:=jp h
   refine aa.bnd (I.e e (aY (by simp<;>omega) hs) h1 s) (oB ht ?_)
   rcases vH h hp with⟨rfl,m,h,pm⟩|⟨rfl,rfl⟩
   ·exact wV (fun _=>I.b .Or es (aY (by simp<;>omega) hs) ⟨m,h,pm⟩ s) fun z=>(by cases z)
   ·exact wV (fun z=>(by cases z)) fun _=>rfl
theorem Oc(I:Mo Φ n)(e:Option Expr){o:Option Int}(hs:sizeOf e<n+1)(h:aa (v9 Φ e sc C) o)(s:Sub C ρ):aa (v9 Φ e sc ρ) o:=by
 cases e with
 | none=>exact h
 | some e =>
  obtain⟨x,h1,h⟩:=av (show aa (Rs.bnd _ _) o from h)
  exact aa.bnd (I.e e (aY (by simp<;>omega) hs) h1 s) h
end
theorem jr(Φ:Fx):∀n,Mo Φ n
 | 0=>⟨fun _ _ _ _ _ _ h=>absurd h (Ro _),fun _ _ _ _ _ h=>absurd h (Ro _),fun _ _ _ _ _ _ h=>absurd h (Ro _),fun _ _ _ _ _ h=>absurd h (Ro _)⟩
 | n+1=>⟨fun e _ _ _ _ _ hs h s=>Od (jr Φ n) e hs h s,fun e _ _ _ _ hs h s=>Ll (jr Φ n) e hs h s,fun op e _ _ _ _ hs h s=>Oe (jr Φ n) op e hs h s,fun e _ _ _ _ hs h s=>Oc (jr Φ n) e hs h s⟩
theorem cT{p:D×Nat}(h:aa (ax Φ e it sc C) p)(s:Sub C ρ):aa (ax Φ e it sc ρ) p:=(jr Φ _).e e (QV _) h s
theorem qi{e:List Expr}{p:List D×Nat}(h:aa (bj Φ e sc C) p)(s:Sub C ρ):aa (bj Φ e sc ρ) p:=(jr Φ _).es e (QV _) h s
noncomputable def Ck:Fl->Fl->Prop
 | .nx a,.nx b=>Sub a b
 | .bk a,.bk b=>Sub a b
 | .ct a,.ct b=>Sub a b
 | .rt a,.rt b=>a=b
 | _,_=>False
theorem cO{a:α}:aa (.ok a []) a:=⟨[],rfl,True.intro⟩
noncomputable def lY(f:ah->Rs Fl):Prop:=∀C ρ fl,aa (f C) fl->Sub C ρ->∃fl',aa (f ρ) fl'/\Ck fl fl'
theorem ze{f:ah->Rs Fl}(h:lY f){x y z:Fl}(hx:aa (sO f x) z)(s:Ck x y):∃z',aa (sO f y) z'/\Ck z z':=by
 cases x<;>cases y<;>first|exact s.elim|skip
 ·exact h _ _ _ hx s
 ·cases aE hx;cases s;exact⟨_,cO,rfl⟩
 ·cases aE hx;exact⟨_,cO,s⟩
 ·exact h _ _ _ hx s
theorem zf{sc:Scope}{tg:Expr}{body:ah->Rs Fl}(hb:lY body):∀ds,lY (fe (bE sc tg) body ds)
 | []=>fun C ρ fl h s=>by cases aE h;exact⟨_,cO,s⟩
 | d::ds=>fun C ρ fl h s=>by
  replace h:aa (match bE sc tg d C with|none=>(.st:Rs Fl)|some ρ1=>(body ρ1).bnd (sO (fe (bE sc tg) body ds))) fl:=h
  split at h
  ·exact(ao h).elim
  ·rename_i C1 hC
   obtain⟨ρ1,hρ,s1⟩:=rW hC s
   obtain⟨x,h1,h2⟩:=av h
   obtain⟨y,h3,s2⟩:=hb _ _ _ h1 s1
   obtain⟨z,h4,s3⟩:=ze (zf hb ds) h2 s2
   refine⟨z,?_,s3⟩
   show aa (match bE sc tg d ρ with|none=>(.st:Rs Fl)|some ρ1=>(body ρ1).bnd (sO (fe (bE sc tg) body ds))) z
   rw[hρ];exact aa.bnd h3 h4
theorem CV{test:ah->Rs Bool}{body:ah->Rs Fl}(ht:∀C ρ b,aa (test C) b->Sub C ρ->aa (test ρ) b)(hb:lY body):∀n,lY (qE test body n)
 | 0=>fun C ρ fl h s=>(ao h).elim
 | n+1=>fun C ρ fl h s=>by
  obtain⟨b,h1,h2⟩:=av (show aa (Rs.bnd _ _) fl from h)
  have h1':=ht _ _ _ h1 s
  cases b with
  | false=>cases aE h2;exact⟨_,aa.bnd h1' cO,s⟩
  | true =>
   obtain⟨x,h3,h4⟩:=av (show aa (Rs.bnd _ _) fl from h2)
   obtain⟨y,h5,s2⟩:=hb _ _ _ h3 s
   obtain⟨z,h6,s3⟩:=ze (CV ht hb n) h4 s2
   exact⟨z,aa.bnd h1' (aa.bnd h5 h6),s3⟩
theorem HX:lY (pB Φ tgs e sc):=by
 intro C ρ fl h s
 unfold pB at h⊢
 split at h
 ·obtain⟨p,h1,h⟩:=av h
  unfold p9 at h
  split at h
  ·rename_i hx
   split at h
   ·rename_i ho;cases aE h
    exact⟨.nx _,aa.bnd (cT h1 s) (by unfold p9;rw[if_pos hx,ho];exact cO),s.put _ _⟩
   ·rename_i ho;cases aE h
    exact⟨.nx _,aa.bnd (cT h1 s) (by unfold p9;rw[if_pos hx,ho];exact cO),s.put _ _⟩
   ·exact(ao h).elim
  ·exact(ao h).elim
 ·split at h
  ·rename_i ht
   rw[if_pos ht]
   unfold rF at h⊢
   split at h
   ·split at h
    ·rename_i hp
     rw[if_pos hp]
     obtain⟨q,h1,h⟩:=av h
     split at h
     ·rename_i u v hd
      split at h
      ·rename_i hf
       cases aE h
       refine⟨.nx _,aa.bnd (qi h1 s) ?_,(s.put _ _).put _ _⟩
       rw[hd];dsimp only;rw[if_pos hf];exact cO
      ·exact(ao h).elim
     ·exact(ao h).elim
    ·exact(ao h).elim
   ·exact(ao h).elim
  ·rename_i ht
   rw[if_neg ht]
   obtain⟨p,h1,h⟩:=av h
   split at h
   ·rename_i ho
    cases aE h
    refine⟨.nx _,aa.bnd (cT h1 s) (by rw[if_pos ho];exact cO),?_⟩
    show Sub _ _
    unfold Bm
    split
    ·exact(s.put _ _).put _ _
    ·exact s
   rename_i ho
   split at h
   ·rename_i ds hd
    split at h
    ·rename_i hf
     split at h
     ·rename_i C' hb
      cases aE h
      obtain⟨ρ',hb',s'⟩:=qJ hb s
      refine⟨.nx _,aa.bnd (cT h1 s) ?_,s'⟩
      rw[if_neg ho,hd];dsimp only;rw[if_pos hf,hb'];exact cO
     ·exact(ao h).elim
    ·exact(ao h).elim
   ·exact(ao h).elim
 ·split at h
  ·rename_i hc
   rw[if_pos hc]
   obtain⟨p,h1,h⟩:=av h
   obtain⟨q,h2,h⟩:=av h
   rcases rX h with⟨l,j,l',a1,a2,a3,hj,hs,hf,rfl⟩|⟨ks,ds,k,a1,hk,a3,hf,hz,rfl⟩
   ·refine⟨.nx _,aa.bnd (cT h1 s) (aa.bnd (cT h2 s) ?_),s.put _ _⟩
    rw[hj];unfold rY;rw[s _ _ a1];dsimp only;rw[if_pos a3,hs]
    exact⟨_,rfl,a2,hf,True.intro⟩
   ·refine⟨.nx _,aa.bnd (cT h1 s) (aa.bnd (cT h2 s) ?_),s.put _ _⟩
    unfold rY;rw[s _ _ a1];dsimp only;rw[hk];dsimp only;rw[if_pos a3]
    exact⟨_,rfl,hf,hz,True.intro⟩
  ·exact(ao h).elim
 ·exact(ao h).elim
theorem HW:lY (pA Φ e sc):=by
 intro C ρ fl h s
 unfold pA at h⊢
 split at h
 ·split at h
  ·rename_i hln
   rw[if_pos hln]
   obtain⟨p,h1,h⟩:=av h
   split at h
   ·rename_i M hM
    obtain⟨l,a1,a3,h⟩:=sK h
    obtain⟨l',h2,h⟩:=av h
    cases aE h
    refine⟨.nx _,aa.bnd (qi h1 s) ?_,s.put _ _⟩
    unfold qf;rw[s _ _ a1];dsimp only;rw[if_pos a3];exact aa.bnd h2 cO
   ·exact(ao h).elim
  ·exact(ao h).elim
 ·obtain⟨p,h1,h⟩:=av h
  cases aE h
  exact⟨.nx _,aa.bnd (cT h1 s) cO,s⟩
 ·exact(ao h).elim
structure Kx(Φ:Fx)(n:Nat):Prop where
 s:∀(st:Stmt) (sc:Scope),sizeOf st<n->lY (fi Φ st sc)
 ss:∀(st:List Stmt) (sc:Scope),sizeOf st<n->lY (aA Φ st sc)
theorem Lj(I:Kx Φ n)(st:Stmt)(sc:Scope)(hs:sizeOf st<n+1):lY (fi Φ st sc):=by
 intro C ρ fl h s
 cases st with
 | Return e p =>
  cases e with
  | none=>cases aE h;exact⟨_,cO,rfl⟩
  | some e =>
   obtain⟨p,h1,h⟩:=av (show aa (Rs.bnd _ _) fl from h)
   have s':Sub (sv e C) (sv e ρ):=by
    unfold sv
    cases rB e with
    | false=>exact s
    | true =>
     intro x y hx
     have hx:(C x).map (fun p=>(p.1,false))=some y:=hx
     show(ρ x).map (fun p=>(p.1,false))=some y
     cases e:C x with
     | none=>rw[e]at hx;cases hx
     | some z=>rw[e]at hx;rw[s x z e];exact hx
   refine⟨fl,aa.bnd (cT h1 s') h,?_⟩
   unfold wN at h
   split at h
   ·cases aE h;rfl
   ·exact(ao h).elim
 | Pass p=>cases aE h;exact⟨_,cO,s⟩
 | Break p=>cases aE h;exact⟨_,cO,s⟩
 | Continue p=>cases aE h;exact⟨_,cO,s⟩
 | Assign tgs e p=>exact HX C ρ fl h s
 | AugAssign t op e p=>exact(ao h).elim
 | Expr e p=>exact HW C ρ fl h s
 | If c a b p =>
  obtain⟨p,h1,h⟩:=av (show aa (Rs.bnd _ _) fl from h)
  obtain⟨t,ht,h⟩:=jp h
  cases t with
  | true =>
   obtain⟨z,h2,s2⟩:=I.ss a sc (aY (by simp<;>omega) hs) C ρ fl h s
   exact⟨z,aa.bnd (cT h1 s) (oB ht h2),s2⟩
  | false =>
   obtain⟨z,h2,s2⟩:=I.ss b sc (aY (by simp<;>omega) hs) C ρ fl h s
   exact⟨z,aa.bnd (cT h1 s) (oB ht h2),s2⟩
 | For tg it body els p =>
  rw[qr]at h⊢
  split at h
  ·rename_i he
   rw[if_pos he]
   obtain⟨p,h1,h⟩:=av h
   split at h
   ·rename_i ds hd
    split at h
    ·rename_i hk
     obtain⟨z,h2,s2⟩:=zf (I.ss body sc (aY (by simp<;>omega) hs)) ds _ _ fl h (s.demote it)
     refine⟨z,aa.bnd (cT h1 (s.demote it)) ?_,s2⟩
     rw[hd];dsimp only;rw[if_pos hk];exact h2
    ·exact(ao h).elim
   ·exact(ao h).elim
  ·exact(ao h).elim
 | While c body els p =>
  rw[zS]at h⊢
  split at h
  ·rename_i he
   rw[if_pos he]
   refine CV (fun C ρ b hb s=>?_) (I.ss body sc (aY (by simp<;>omega) hs)) bc C ρ fl h s
   obtain⟨q,h1,hb⟩:=av hb
   exact aa.bnd (cT h1 s) hb
  ·exact(ao h).elim
 | _=>exact(ao h).elim
theorem HV(I:Kx Φ n)(ss:List Stmt)(sc:Scope)(hs:sizeOf ss<n+1):lY (aA Φ ss sc):=by
 intro C ρ fl h s
 cases ss with
 | nil=>cases aE h;exact⟨_,cO,s⟩
 | cons st ss =>
  rcases rZ h with⟨C',h1,h2⟩|⟨h1,h2⟩
  ·obtain⟨x,h3,s2⟩:=I.s st sc (aY (by simp<;>omega) hs) C ρ _ h1 s
   cases x with
   | nx ρ' =>
    obtain⟨z,h4,s3⟩:=I.ss ss sc (aY (by simp<;>omega) hs) C' ρ' fl h2 s2
    exact⟨z,bA h3 h4,s3⟩
   | rt _=>exact s2.elim
   | bk _=>exact s2.elim
   | ct _=>exact s2.elim
  ·obtain⟨x,h3,s2⟩:=I.s st sc (aY (by simp<;>omega) hs) C ρ _ h2 s
   refine⟨x,kM h3 fun ρ' z=>?_,s2⟩
   subst z
   cases fl<;>first|exact h1 _ rfl|exact s2
theorem mJ(Φ:Fx):∀n,Kx Φ n
 | 0=>⟨fun _ _ h=>absurd h (Ro _),fun _ _ h=>absurd h (Ro _)⟩
 | n+1=>⟨fun e sc hs=>Lj (mJ Φ n) e sc hs,fun e sc hs=>HV (mJ Φ n) e sc hs⟩
theorem Fh(h:aa (aA Φ ss sc C) (.nx C'))(s:Sub C ρ):∃ρ',aa (aA Φ ss sc ρ) (.nx ρ')/\Sub C' ρ':=by
 obtain⟨z,h1,h2⟩:=(mJ Φ _).ss ss sc (QV _) C ρ _ h s
 cases z with
 | nx ρ'=>exact⟨ρ',h1,h2⟩
 | rt _=>exact h2.elim
 | bk _=>exact h2.elim
 | ct _=>exact h2.elim
theorem Fg(h:aa (aA Φ ss sc C) (.rt d))(s:Sub C ρ):aa (aA Φ ss sc ρ) (.rt d):=by
 obtain⟨z,h1,h2⟩:=(mJ Φ _).ss ss sc (QV _) C ρ _ h s
 cases z with
 | rt _=>cases h2;exact h1
 | nx _=>exact h2.elim
 | bk _=>exact h2.elim
 | ct _=>exact h2.elim
noncomputable def br:List (Str×D×Bool)->ah
 | []=>fun _=>none
 | p::l=>fun z=>if z=p.1 then some p.2 else br l z
theorem aO:Sub (br []) ρ:=fun _ _ h=>by cases h
theorem ae{y:D×Bool}{l:List (Str×D×Bool)}(h:ρ x=some y)(g:Sub (br l) ρ):Sub (br ((x,y)::l)) ρ:=fun z w e=>by
 replace e:(if z=x then some y else br l z)=some w:=e
 by_cases hz:z=x
 ·rw[if_pos hz]at e;cases e;rw[hz];exact h
 ·rw[if_neg hz]at e;exact g z w e
theorem Sub.get{y:D×Bool}(s:Sub C ρ)(h:C x=some y:=by rfl):ρ x=some y:=s x y h
section
variable{Φ:Fx}{sc:Scope}{ρ ρ':ah}{fl:Fl}{ss:List Stmt}
theorem fK{P:ah->Prop}(s:Sub C ρ)(h:aa (aA Φ ss sc C) (.nx C'))(k:∀ρ',Sub C' ρ'->P ρ'):∃ρ',aa (aA Φ ss sc ρ) (.nx ρ')/\P ρ' :=
 let ⟨ρ',h1,h2⟩:=Fh h s;⟨ρ',h1,k ρ' h2⟩
theorem fH(s:Sub C ρ)(h:aa (aA Φ ss sc C) (.rt d)):aa (aA Φ ss sc ρ) (.rt d):=Fg h s
theorem iB{p:D×Nat}(s:Sub C ρ)(h:aa (ax Φ e it sc C) p):aa (ax Φ e it sc ρ) p:=cT h s
theorem D8{it:Expr}(ak:List D->ah->Prop)(hi:aa (ax Φ it true sc (demote it ρ)) (d,k))(h0:ak ds (demote it ρ))
  (step:∀d l ρ,ak (d::l) ρ->∃ρ1,bE sc tg d ρ=some ρ1/\∃ρ2,aa (aA Φ body sc ρ1) (.nx ρ2)/\ak l ρ2) (be:∀ρ',ak [] ρ'->aa (aA Φ ss sc ρ') fl) (hd:items d=some ds:=by rfl) (hk:k<=1:=by first|exact Ql 1|exact QC 1) (ht:fF it tg=true:=by rfl):aa (aA Φ (.For tg it body [] p::ss) sc ρ) fl:=by
 obtain⟨ρ',h1,h2⟩:=tN (bind:=bE sc tg) (body:=aA Φ body sc) ak (fun d l ρ h=>let ⟨ρ1,a,ρ2,b,c⟩:=step d l ρ h;⟨ρ1,ρ2,a,.inl b,c⟩) h0
 exact bA (zR hi hd hk ht h1) (be ρ' h2)
theorem dB{b:Expr}{x:D}(ha:aa (ax Φ a false sc ρ) (x,k))(hb:aa (ax Φ b false sc ρ) (y,j))(h:aa (iF op x y) r):aa (ax Φ (.Compare a [op] [b] p) it sc ρ) (.bl r,0) :=
 aa.bnd ha (aa.bnd hb (aa.bnd h cO))
theorem cI{op:BoolOp}(h:aa (dC Φ op (e::es) sc ρ) b):aa (ax Φ (.BoolOp op (e::es) p) it sc ρ) (.bl b,0):=by
 rw[qu,if_neg (show ¬ (List.isEmpty (e::es)=true)from QL)];exact aa.bnd h cO
theorem hZ{c:Bool}(h:aa (ax Φ e false sc ρ) (.bl b,k))(h1:b=true->aa (dC Φ .And es sc ρ) c)(h2:b=false->c=false):aa (dC Φ .And (e::es) sc ρ) c:=aa.bnd h (oB rfl (uq h1 h2))
theorem iz{c:Bool}(h:aa (ax Φ e false sc ρ) (.bl b,k))(h1:b=false->aa (dC Φ .Or es sc ρ) c)(h2:b=true->c=true):aa (dC Φ .Or (e::es) sc ρ) c:=aa.bnd h (oB rfl (wV h1 h2))
theorem gU{c:Bool}(h:aa (ax Φ e false sc ρ) (.bl true,k))(h1:aa (dC Φ .And es sc ρ) c):aa (dC Φ .And (e::es) sc ρ) c:=hZ h (fun _=>h1) fun z=>by cases z
theorem d7{c:Bool}(h:aa (ax Φ e false sc ρ) (.bl false,k))(h1:aa (dC Φ .Or es sc ρ) c):aa (dC Φ .Or (e::es) sc ρ) c:=iz h (fun _=>h1) fun z=>by cases z
theorem jC:aa (dC Φ .And [] sc ρ) true:=cO
theorem iA:aa (dC Φ .Or [] sc ρ) false:=cO
theorem aa.bl{r:R1}{c:Bool}(h:aa r (.bl b,k))(e:b=c):aa r (.bl c,k):=e ▸ h
theorem tU(h:aa (bj Φ es sc ρ) (ds,k))(hl:ds.length<=bc):aa (ax Φ (.Tuple es n p) it sc ρ) (.tup ds,kn (.tup ds) k):=aa.bnd h (by dsimp only;rw[if_pos hl];exact cO)
theorem oq{g f:α->D}{l:List α}(hi:aa (ax Φ iter true sc ρ) (d,k))(hd:items d=some (l.map g))(hl:l.length<=bc)(hk:au (l.map g)=true\/k<=1)
  (h:∀x∈l,∃ρ',bE scope tg (g x) (flt scope ρ)=some ρ'/\aa (ax Φ elt false scope ρ') (f x,0)) (hc:nM sc scope=true:=by rfl) (ht:fF iter tg=true:=by rfl):aa (ax Φ (.ListComp elt [⟨tg,iter,[],0⟩] scope p) it sc ρ) (.lst (l.map f),0):=by
 refine v7 hi hd ⟨by rw[Qp];exact hl,hk⟩ (qT fun x hx=>?_) (QC _) hc ht
 obtain⟨ρ',h1,h2⟩:=h x hx
 rw[h1]
 refine aa.bnd (a:=true) cO ?_
 rw[cond_true]
 exact aa.bnd h2 cO
end
theorem Og(h:us.length=0):us=[]:=List.eq_nil_of_length_eq_zero h
theorem Ij(h:us.length=1):∃a,us=[a]:=List.length_eq_one_iff.mp h
theorem Ig(h:us.length=n+1):∃a r,us=a::r/\r.length=n:=by
 cases us with
 | nil=>cases h
 | cons a r=>exact⟨a,r,rfl,by simpa using h⟩
theorem Ii(h:us.length=2):∃a b,us=[a,b]:=by
 obtain⟨a,r,e1,h1⟩:=Ig h;subst e1;obtain⟨b,rfl⟩:=Ij h1;exact⟨a,b,rfl⟩
theorem Of(h:us.length=3):∃a b c,us=[a,b,c]:=by
 obtain⟨a,r,e1,h1⟩:=Ig h;subst e1;obtain⟨b,c,rfl⟩:=Ii h1;exact⟨a,b,c,rfl⟩
end Sp
namespace Qm
noncomputable def rj(a b c d:Int):Prop:=∃e x y z w:Int,(e=0\/e=1)/\a=2*x+e/\b=2*y+e/\c=2*z+e/\d=2*w+e
theorem par_of{P Q R S k1 k2 k3:Int}(h1:Q=P+2*k1)(h2:R=P+2*k2)(h3:S=P+2*k3):rj P Q R S :=
 ⟨P % 2,P / 2,P / 2+k1,P / 2+k2,P / 2+k3,by omega,by omega,by omega,by omega,by omega⟩
theorem Hy{a b c d:Int}(h:rj a b c d):∃t,a*a+(b*b+(c*c+(d*d+0)))=4*t:=by
 obtain⟨e,x,y,z,w,he,rfl,rfl,rfl,rfl⟩:=h
 rcases he with rfl|rfl
 ·exact⟨x*x+y*y+z*z+w*w,by grind⟩
 ·exact⟨x*x+y*y+z*z+w*w+x+y+z+w+1,by grind⟩
theorem fd4(t:Int):(4*t).fdiv 4=t:=by rw[Int.fdiv_eq_ediv_of_nonneg _ (by decide)];omega
theorem Qc(t:Int):(2*t).fdiv 2=t:=by rw[Int.fdiv_eq_ediv_of_nonneg _ (by decide)];omega
theorem Bt{a b c d e f g h:Int}(h1:rj a b c d)(h2:rj e f g h):∃P Q R S,a*e-b*f-c*g-d*h=2*P/\a*f+b*e+c*h-d*g=2*Q/\a*g-b*h+c*e+d*f=2*R/\a*h+b*g-c*f+d*e=2*S/\rj P Q R S:=by
 obtain⟨s,x1,x2,x3,x4,_,rfl,rfl,rfl,rfl⟩:=h1
 obtain⟨u,y1,y2,y3,y4,_,rfl,rfl,rfl,rfl⟩:=h2
 refine⟨2*(x1*y1-x2*y2-x3*y3-x4*y4)+u*(x1-x2-x3-x4)+s*(y1-y2-y3-y4)-s*u,
  2*(x1*y2+x2*y1+x3*y4-x4*y3)+u*(x1+x2+x3-x4)+s*(y2+y1+y4-y3)+s*u,
  2*(x1*y3-x2*y4+x3*y1+x4*y2)+u*(x1-x2+x3+x4)+s*(y3-y4+y1+y2)+s*u,
  2*(x1*y4+x2*y3-x3*y2+x4*y1)+u*(x1+x2-x3+x4)+s*(y4+y3-y2+y1)+s*u,by grind,by grind,by grind,by grind,?_⟩
 refine par_of (k1:=(x1*y2+x2*y1+x3*y4-x4*y3)-(x1*y1-x2*y2-x3*y3-x4*y4)+u*(x2+x3)+s*(y2+y4)+s*u)
  (k2:=(x1*y3-x2*y4+x3*y1+x4*y2)-(x1*y1-x2*y2-x3*y3-x4*y4)+u*(x3+x4)+s*(y3+y2)+s*u)
  (k3:=(x1*y4+x2*y3-x3*y2+x4*y1)-(x1*y1-x2*y2-x3*y3-x4*y4)+u*(x2+x4)+s*(y4+y3)+s*u) ?_ ?_ ?_<;>grind
theorem LD(a b c d e f g h:Int):(a*e-b*f-c*g-d*h)*(a*e-b*f-c*g-d*h)+((a*f+b*e+c*h-d*g)*(a*f+b*e+c*h-d*g)+((a*g-b*h+c*e+d*f)*(a*g-b*h+c*e+d*f)+((a*h+b*g-c*f+d*e)*(a*h+b*g-c*f+d*e)+0))) =
  (a*a+(b*b+(c*c+(d*d+0))))*(e*e+(f*f+(g*g+(h*h+0)))):=by grind
theorem bI{p P:Int}(h:p=2*P):p.fdiv 2=P:=by rw[h,Qc]
end Qm
namespace K
open PySem L2 Sp
variable{α β:Type}{ds:List D}{r:D}
structure Dc(α:Type) where
 dec:D->Option α
 enc:α->D
 ok:∀x a,dec x=some a->x=enc a
noncomputable def dI:Dc Int:=⟨fun | .int i=>some i|_=>none,.int,fun x a h=>by cases x<;>cases h;rfl⟩
noncomputable def dL:Dc (List D):=⟨fun | .lst i=>some i|_=>none,.lst,fun x a h=>by cases x<;>cases h;rfl⟩
noncomputable def GT{α:Type}(A:Dc α)(f:α->Rs D):List D->Rs D
 | [x]=>(match A.dec x with|some a=>f a|none=>.st)
 | _=>.st
noncomputable def vy{α β:Type}(A:Dc α)(B:Dc β)(f:α->β->Rs D):List D->Rs D
 | [x,y]=>(match A.dec x with|some a=>(match B.dec y with|some b=>f a b|none=>.st)|none=>.st)
 | _=>.st
noncomputable def GS{α β γ:Type}(A:Dc α)(B:Dc β)(C:Dc γ)(f:α->β->γ->Rs D):List D->Rs D
 | [x,y,z]=>(match A.dec x with|some a=>(match B.dec y with|some b=>(match C.dec z with|some c=>f a b c|none=>.st)|none=>.st)|none=>.st)
 | _=>.st
theorem jG{A:Dc α}{x:D}{f:α->Rs β}{r:β}(h:aa (match A.dec x with|some a=>f a|none=>.st) r):∃a,x=A.enc a/\aa (f a) r:=by
 split at h
 ·rename_i a e;exact⟨a,A.ok _ _ e,h⟩
 ·exact(ao h).elim
theorem Ec{A:Dc α}{f:α->Rs D}(h:aa (GT A f ds) r):∃a,ds=[A.enc a]/\aa (f a) r:=by
 unfold GT at h
 split at h
 ·obtain⟨a,e1,h1⟩:=jG h;exact⟨a,by rw[e1],h1⟩
 ·exact(ao h).elim
theorem mw{A:Dc α}{B:Dc β}{f:α->β->Rs D}(h:aa (vy A B f ds) r):∃a b,ds=[A.enc a,B.enc b]/\aa (f a b) r:=by
 unfold vy at h
 split at h
 ·obtain⟨a,e1,h1⟩:=jG h
  obtain⟨b,e2,h2⟩:=jG h1
  exact⟨a,b,by rw[e1,e2],h2⟩
 ·exact(ao h).elim
theorem Eb{γ:Type}{A:Dc α}{B:Dc β}{C:Dc γ}{f:α->β->γ->Rs D}(h:aa (GS A B C f ds) r):∃a b c,ds=[A.enc a,B.enc b,C.enc c]/\aa (f a b c) r:=by
 unfold GS at h
 split at h
 ·obtain⟨a,e1,h1⟩:=jG h
  obtain⟨b,e2,h2⟩:=jG h1
  obtain⟨c,e3,h3⟩:=jG h2
  exact⟨a,b,c,by rw[e1,e2,e3],h3⟩
 ·exact(ao h).elim
noncomputable def PZ:D->Int
 | .int i=>i
 | _=>0
noncomputable def rS(l:List D):List Int:=l.map PZ
theorem wD(ns:List Int):rS (ns.map D.int)=ns:=by
 induction ns with
 | nil=>rfl
 | cons n ns ih=>show n::rS (ns.map D.int)=_;rw[ih]
noncomputable def CQ(l:List D):Prop:=∃ns:List Int,l=ns.map D.int
noncomputable def lF(ns:List Int)(k:Int):Int:=if ns=[]then 0 else ns.getD (k.fmod ns.length).toNat 0
noncomputable def Dq(ns:List Int)(k:Int):Int :=
 (lF ns k).fdiv 2147483647*2147483647+((((lF ns k).fmod 2147483647+7919*k+1)*48271).fmod 2147483647*69621+k).fmod 2147483647
noncomputable def wd(l:List D)(k:Int):Int:=Dq (rS l) k
noncomputable abbrev t4(a b c d:Int):D:=.tup [.int a,.int b,.int c,.int d]
noncomputable abbrev Qd:=Int×Int×Int×Int
noncomputable def dq(q:Qd):D:=t4 q.1 q.2.1 q.2.2.1 q.2.2.2
noncomputable def q4:D->Option Qd
 | .tup [.int a,.int b,.int c,.int d]=>some (a,b,c,d)
 | _=>none
theorem K5(x:D)(q:Qd)(h:q4 x=some q):x=dq q:=by
 unfold q4 at h
 split at h
 ·cases h;rfl
 ·cases h
noncomputable def dQ:Dc Qd:=⟨q4,dq,K5⟩
noncomputable abbrev iJ(q:Qd):Prop:=q.1.natAbs<gF/\q.2.1.natAbs<gF/\q.2.2.1.natAbs<gF/\q.2.2.2.natAbs<gF
@[simp] theorem gq(a b:Int):fj (.int a) (.int b)=decide (a=b):=by
 show(a==b)=_
 rw[Bool.eq_iff_iff];simp
@[simp] theorem xE(p q:Qd):fj (dq p) (dq q)=decide (p=q):=by
 show(p.1==q.1&&(p.2.1==q.2.1&&(p.2.2.1==q.2.2.1&&(p.2.2.2==q.2.2.2&&true))))=_
 obtain⟨a,b,c,d⟩:=p;obtain⟨e,f,g,h⟩:=q
 rw[Bool.eq_iff_iff];simp
end K
namespace Sp
open PySem PySem.Spec PyProof.Rows L2
variable{Φ:Fx}{sc:Scope}{ρ ρ':ah}{fl:Fl}{ss:List Stmt}
end Sp
namespace K
open PySem L2 Sp
noncomputable def Nx(p q:Qd):Qd :=
 (p.1*q.1-p.2.1*q.2.1-p.2.2.1*q.2.2.1-p.2.2.2*q.2.2.2,p.1*q.2.1+p.2.1*q.1+p.2.2.1*q.2.2.2-p.2.2.2*q.2.2.1,
  p.1*q.2.2.1-p.2.1*q.2.2.2+p.2.2.1*q.1+p.2.2.2*q.2.1,p.1*q.2.2.2+p.2.1*q.2.2.1-p.2.2.1*q.2.1+p.2.2.2*q.1)
theorem Ki{p q:Qd}(h:iJ p)(g:iJ q):(bf p.1 q.1/\bf p.2.1 q.2.1/\bf p.2.2.1 q.2.2.1/\bf p.2.2.2 q.2.2.2)/\(bf p.1 q.2.1/\bf p.2.1 q.1/\bf p.2.2.1 q.2.2.2/\bf p.2.2.2 q.2.2.1)/\(bf p.1 q.2.2.1/\bf p.2.1 q.2.2.2/\bf p.2.2.1 q.1/\bf p.2.2.2 q.2.1)/\(bf p.1 q.2.2.2/\bf p.2.1 q.2.2.1/\bf p.2.2.1 q.2.1/\bf p.2.2.2 q.1) :=
 ⟨⟨bR h.1 g.1,bR h.2.1 g.2.1,bR h.2.2.1 g.2.2.1,bR h.2.2.2 g.2.2.2⟩,⟨bR h.1 g.2.1,bR h.2.1 g.1,bR h.2.2.1 g.2.2.2,bR h.2.2.2 g.2.2.1⟩,⟨bR h.1 g.2.2.1,bR h.2.1 g.2.2.2,bR h.2.2.1 g.1,bR h.2.2.2 g.2.1⟩,⟨bR h.1 g.2.2.2,bR h.2.1 g.2.2.1,bR h.2.2.1 g.2.1,bR h.2.2.2 g.1⟩⟩
theorem Lm(qs:List Qd):PyData.canLayAll0 (fg (qs.map dq))=true:=by
 induction qs with
 | nil=>rfl
 | cons q qs ih=>rw[QJ,fg,PyData.canLayAll0,ih];rfl
theorem LI(q:Qd):PyData.depth (dq q).py=1:=by
 simp[dq,D.py,fg,PyData.depth,PyData.depthAll]
theorem LJ(qs:List Qd):PyData.depthAll (fg (qs.map dq))<=1:=by
 induction qs with
 | nil=>simp[fg,PyData.depthAll]
 | cons q qs ih=>rw[QJ,fg,PyData.depthAll,LI];omega
end K
namespace K
open PySem L2 Sp Qm
variable{a b c d e f w x y z:Int}{p q:Qd}{M N:Nat}
noncomputable abbrev bd(a b c d:Int):Prop:=a.natAbs<gF/\b.natAbs<gF/\c.natAbs<gF/\d.natAbs<gF
theorem LR{g h P Q R S P2 Q2 R2 S2 U V W X P3 Q3 R3 S3:Int}
  (hP:a*e-b*f-c*g-d*h=2*P) (hQ:a*f+b*e+c*h-d*g=2*Q) (hR:a*g-b*h+c*e+d*f=2*R) (hS:a*h+b*g-c*f+d*e=2*S)
  (kP:P*x-Q*y-R*z-S*w=2*P2) (kQ:P*y+Q*x+R*w-S*z=2*Q2) (kR:P*z-Q*w+R*x+S*y=2*R2) (kS:P*w+Q*z-R*y+S*x=2*S2)
  (hU:e*x-f*y-g*z-h*w=2*U) (hV:e*y+f*x+g*w-h*z=2*V) (hW:e*z-f*w+g*x+h*y=2*W) (hX:e*w+f*z-g*y+h*x=2*X)
  (lP:a*U-b*V-c*W-d*X=2*P3) (lQ:a*V+b*U+c*X-d*W=2*Q3) (lR:a*W-b*X+c*U+d*V=2*R3) (lS:a*X+b*W-c*V+d*U=2*S3) :
  P2=P3/\Q2=Q3/\R2=R3/\S2=S3:=by
 have e1:4*P2=(2*P)*x-(2*Q)*y-(2*R)*z-(2*S)*w:=by grind
 have e2:4*Q2=(2*P)*y+(2*Q)*x+(2*R)*w-(2*S)*z:=by grind
 have e3:4*R2=(2*P)*z-(2*Q)*w+(2*R)*x+(2*S)*y:=by grind
 have e4:4*S2=(2*P)*w+(2*Q)*z-(2*R)*y+(2*S)*x:=by grind
 have f1:4*P3=a*(2*U)-b*(2*V)-c*(2*W)-d*(2*X):=by grind
 have f2:4*Q3=a*(2*V)+b*(2*U)+c*(2*X)-d*(2*W):=by grind
 have f3:4*R3=a*(2*W)-b*(2*X)+c*(2*U)+d*(2*V):=by grind
 have f4:4*S3=a*(2*X)+b*(2*W)-c*(2*V)+d*(2*U):=by grind
 rw[<- hP,<- hQ,<- hR,<- hS]at e1 e2 e3 e4
 rw[<- hU,<- hV,<- hW,<- hX]at f1 f2 f3 f4
 clear hP hQ hR hS kP kQ kR kS hU hV hW hX lP lQ lR lS
 have m1:4*P2=4*P3:=by rw[e1,f1];clear e1 e2 e3 e4 f1 f2 f3 f4;grind
 have m2:4*Q2=4*Q3:=by rw[e2,f2];clear e1 e2 e3 e4 f1 f2 f3 f4;grind
 have m3:4*R2=4*R3:=by rw[e3,f3];clear e1 e2 e3 e4 f1 f2 f3 f4;grind
 have m4:4*S2=4*S3:=by rw[e4,f4];clear e1 e2 e3 e4 f1 f2 f3 f4;grind
 omega
noncomputable def dg(p q:Qd):Qd :=
 ((p.1*q.1-p.2.1*q.2.1-p.2.2.1*q.2.2.1-p.2.2.2*q.2.2.2).fdiv 2,(p.1*q.2.1+p.2.1*q.1+p.2.2.1*q.2.2.2-p.2.2.2*q.2.2.1).fdiv 2,
  (p.1*q.2.2.1-p.2.1*q.2.2.2+p.2.2.1*q.1+p.2.2.2*q.2.1).fdiv 2,(p.1*q.2.2.2+p.2.1*q.2.2.1-p.2.2.1*q.2.1+p.2.2.2*q.1).fdiv 2)
noncomputable def fW(q:Qd):Int:=(q.1*q.1+(q.2.1*q.2.1+(q.2.2.1*q.2.2.1+(q.2.2.2*q.2.2.2+0)))).fdiv 4
noncomputable def bJ(q:Qd):Prop:=rj q.1 q.2.1 q.2.2.1 q.2.2.2
noncomputable def sW(M:Nat)(q:Qd):Prop:=q.1.natAbs<=M/\q.2.1.natAbs<=M/\q.2.2.1.natAbs<=M/\q.2.2.2.natAbs<=M
noncomputable def qg:Qd:=(2,0,0,0)
theorem g8(h:bJ p)(g:bJ q):∃P Q R S,p.1*q.1-p.2.1*q.2.1-p.2.2.1*q.2.2.1-p.2.2.2*q.2.2.2=2*P/\p.1*q.2.1+p.2.1*q.1+p.2.2.1*q.2.2.2-p.2.2.2*q.2.2.1=2*Q /\
  p.1*q.2.2.1-p.2.1*q.2.2.2+p.2.2.1*q.1+p.2.2.2*q.2.1=2*R/\p.1*q.2.2.2+p.2.1*q.2.2.1-p.2.2.1*q.2.1+p.2.2.2*q.1=2*S/\rj P Q R S/\dg p q=(P,Q,R,S):=by
 obtain⟨P,Q,R,S,h1,h2,h3,h4,h5⟩:=Bt h g
 exact⟨P,Q,R,S,h1,h2,h3,h4,h5,by unfold dg;rw[bI h1,bI h2,bI h3,bI h4]⟩
theorem n9(h:bJ p)(g:bJ q):bJ (dg p q):=by
 obtain⟨P,Q,R,S,h1,h2,h3,h4,h5,e⟩:=g8 h g
 rw[e];exact h5
theorem eQ{r:Qd}(h:bJ p)(g:bJ q)(k:bJ r):dg (dg p q) r=dg p (dg q r):=by
 obtain⟨P,Q,R,S,hP,hQ,hR,hS,p1,e1⟩:=g8 h g
 obtain⟨U,V,W,X,hU,hV,hW,hX,p2,e2⟩:=g8 g k
 obtain⟨P2,Q2,R2,S2,kP,kQ,kR,kS,p3,e3⟩:=g8 (p:=(P,Q,R,S)) p1 k
 obtain⟨P3,Q3,R3,S3,lP,lQ,lR,lS,p4,e4⟩:=g8 (q:=(U,V,W,X)) h p2
 rw[e1,e2,e3,e4]
 obtain⟨q1,q2,q3,q4⟩:=LR hP hQ hR hS kP kQ kR kS hU hV hW hX lP lQ lR lS
 rw[q1,q2,q3,q4]
theorem Bz(q:Qd):dg qg q=q:=by
 obtain⟨a,b,c,d⟩:=q
 show(_,_,_,_)=_
 rw[bI (P:=a) (by show 2*a-0*b-0*c-0*d=_;omega),bI (P:=b) (by show 2*b+0*a+0*d-0*c=_;omega),bI (P:=c) (by show 2*c-0*d+0*a+0*b=_;omega),bI (P:=d) (by show 2*d+0*c-0*b+0*a=_;omega)]
theorem BF(q:Qd):dg q qg=q:=by
 obtain⟨a,b,c,d⟩:=q
 show(_,_,_,_)=_
 rw[bI (P:=a) (by show a*2-b*0-c*0-d*0=_;omega),bI (P:=b) (by show a*0+b*2+c*0-d*0=_;omega),bI (P:=c) (by show a*0-b*0+c*2+d*0=_;omega),bI (P:=d) (by show a*0+b*0-c*0+d*2=_;omega)]
theorem oQ(h:bJ p):∃t,p.1*p.1+(p.2.1*p.2.1+(p.2.2.1*p.2.2.1+(p.2.2.2*p.2.2.2+0)))=4*t/\fW p=t:=by
 obtain⟨t,ht⟩:=Hy h
 exact⟨t,ht,by unfold fW;rw[ht,fd4]⟩
theorem vl(h:bJ p)(g:bJ q):fW (dg p q)=fW p*fW q:=by
 obtain⟨t1,h1,e1⟩:=oQ h
 obtain⟨t2,h2,e2⟩:=oQ g
 obtain⟨t3,h3,e3⟩:=oQ (n9 h g)
 rw[e1,e2,e3]
 obtain⟨P,Q,R,S,hP,hQ,hR,hS,p1,e⟩:=g8 h g
 rw[e]at h3
 have eu:=LD p.1 p.2.1 p.2.2.1 p.2.2.2 q.1 q.2.1 q.2.2.1 q.2.2.2
 rw[hP,hQ,hR,hS,h1,h2]at eu
 have:4*(4*t3)=4*(4*(t1*t2)):=by rw[<- h3];clear e h3 e1 e2 e3 h1 h2 hP hQ hR hS p1 h g;grind
 omega
theorem Au(h:sW M q)(hM:M<gF):bd q.1 q.2.1 q.2.2.1 q.2.2.2 :=
 ⟨Rg h.1 hM,Rg h.2.1 hM,Rg h.2.2.1 hM,Rg h.2.2.2 hM⟩
noncomputable def lJ(q:Qd):Qd:=(q.1,-q.2.1,-q.2.2.1,-q.2.2.2)
noncomputable def A3(p q:Qd):Qd:=(p.1+q.1,p.2.1+q.2.1,p.2.2.1+q.2.2.1,p.2.2.2+q.2.2.2)
noncomputable def rC(q:Qd)(n:Int):Qd:=(q.1*n,q.2.1*n,q.2.2.1*n,q.2.2.2*n)
noncomputable def cF(s:Bool)(p q:Qd):Qd:=if s=true then dg p q else dg q p
noncomputable def Oa:Qd:=(0,0,0,0)
theorem CL(h:a=2*x+e)(g:b=2*y+f):a+b=2*(x+y)+(e+f):=by omega
theorem K9{n:Int}(h1:a=2*x+n)(h2:b=2*y+n)(h3:c=2*z+n)(h4:d=2*w+n):rj a b c d:=by
 have k:∀{u v:Int},u=2*v+n->u=2*(v+n / 2)+n % 2:=by omega
 exact⟨n % 2,_,_,_,_,Int.emod_two_eq n,k h1,k h2,k h3,k h4⟩
theorem Hi(h:a=2*x+e):-a=2*(-x-e)+e:=by omega
theorem jP(h:bJ q):bJ (lJ q):=by
 obtain⟨e,x,y,z,w,he,h1,h2,h3,h4⟩:=h
 exact⟨e,x,_,_,_,he,h1,Hi h2,Hi h3,Hi h4⟩
theorem Bu(h:bJ p)(g:bJ q):bJ (A3 p q):=by
 obtain⟨e,x,y,z,w,he,h1,h2,h3,h4⟩:=h
 obtain⟨e',x',y',z',w',he',g1,g2,g3,g4⟩:=g
 exact K9 (CL h1 g1) (CL h2 g2) (CL h3 g3) (CL h4 g4)
theorem CK(he:e=0\/e=1)(h:a=2*x+e):a % 2=e:=by omega
theorem ER:bJ q↔q.2.1 % 2=q.1 % 2/\q.2.2.1 % 2=q.1 % 2/\q.2.2.2 % 2=q.1 % 2:=by
 constructor
 ·rintro⟨e,x,y,z,w,he,h1,h2,h3,h4⟩
  rw[CK he h1,CK he h2,CK he h3,CK he h4]
  exact⟨rfl,rfl,rfl⟩
 ·rintro⟨h1,h2,h3⟩
  have k:∀a:Int,a=2*(a / 2)+a % 2:=fun a=>(Int.mul_ediv_add_emod a 2).symm
  exact⟨q.1 % 2,_,_,_,_,Int.emod_two_eq _,k _,by rw[<- h1];exact k _,by rw[<- h2];exact k _,by rw[<- h3];exact k _⟩
theorem nC(k:Qd)(n:Int):dg k (2*n,0,0,0)=rC k n:=by
 obtain⟨a,b,c,d⟩:=k
 show(_,_,_,_)=(a*n,b*n,c*n,d*n)
 rw[bI (P:=a*n) (by show a*(2*n)-b*0-c*0-d*0=_;grind),bI (P:=b*n) (by show a*0+b*(2*n)+c*0-d*0=_;grind),bI (P:=c*n) (by show a*0-b*0+c*(2*n)+d*0=_;grind),bI (P:=d*n) (by show a*0+b*0-c*0+d*(2*n)=_;grind)]
theorem nD(k:Qd)(n:Int):dg (2*n,0,0,0) k=rC k n:=by
 obtain⟨a,b,c,d⟩:=k
 show(_,_,_,_)=(a*n,b*n,c*n,d*n)
 rw[bI (P:=a*n) (by show 2*n*a-0*b-0*c-0*d=_;grind),bI (P:=b*n) (by show 2*n*b+0*a+0*d-0*c=_;grind),bI (P:=c*n) (by show 2*n*c-0*d+0*a+0*b=_;grind),bI (P:=d*n) (by show 2*n*d+0*c-0*b+0*a=_;grind)]
theorem jR(h:bJ q):dg q (lJ q)=(2*fW q,0,0,0)/\dg (lJ q) q=(2*fW q,0,0,0):=by
 obtain⟨t,ht,e⟩:=oQ h
 obtain⟨a,b,c,d⟩:=q
 rw[e]
 simp only at ht
 constructor
 ·show(_,_,_,_)=_
  rw[bI (P:=2*t) (by show a*a-b * -b-c * -c-d * -d=_;grind),bI (P:=0) (by show a * -b+b*a+c * -d-d * -c=_;grind),bI (P:=0) (by show a * -c-b * -d+c*a+d * -b=_;grind),bI (P:=0) (by show a * -d+b * -c-c * -b+d*a=_;grind)]
 ·show(_,_,_,_)=_
  rw[bI (P:=2*t) (by show a*a - -b*b - -c*c - -d*d=_;grind),bI (P:=0) (by show a*b + -b*a + -c*d - -d*c=_;grind),bI (P:=0) (by show a*c - -b*d + -c*a + -d*b=_;grind),bI (P:=0) (by show a*d + -b*c - -c*b + -d*a=_;grind)]
theorem BJ(h:sW M q)(g:M<=N):sW N q:=⟨QA h.1 g,QA h.2.1 g,QA h.2.2.1 g,QA h.2.2.2 g⟩
theorem xg(h:x.natAbs<=M)(g:y.natAbs<=N):(x+y).natAbs<=M+N:=by omega
theorem Fm(h:sW M p)(g:sW N q):sW (M+N) (A3 p q):=⟨xg h.1 g.1,xg h.2.1 g.2.1,xg h.2.2.1 g.2.2.1,xg h.2.2.2 g.2.2.2⟩
noncomputable def sk(s:Bool):Str:=match s with|true => "right" | false => "left"
noncomputable def dO(x:Str):Option Bool:=if x=Str.ofString "right" then some true else if x=Str.ofString "left" then some false else none
noncomputable def cS(s:Bool):D:=.str (sk s)
noncomputable def L5:Dc Bool:=⟨fun | .str x=>dO x|_=>none,cS,fun x a h=>by
 cases x<;>try cases h
 rename_i x
 replace h:dO x=some a:=h
 unfold dO at h
 split at h
 ·rename_i e;cases h;rw[e];rfl
 ·split at h
  ·rename_i e;cases h;rw[e];rfl
  ·cases h⟩
theorem Kb(c:Int):c.fmod 2=0\/c.fmod 2=1:=by
 have g0:=Rr c (show(0:Int)<2 by decide)
 have g1:=RU c (show(0:Int)<2 by decide)
 omega
end K
namespace Sp
open PySem PySem.Spec PyProof.Rows L2
open AutoSeq1 (wpAny_loadPart')
variable{P:Program}{w:World}{H:Hp}{h:Heap}{K:W.Frag}{k:Nat}{tg:Expr}{ρ:ah}{pos:Pos}
section
variable{prog:Program}{A:Around}{E:Value->Shared->Prop}{s:Shared}
variable{n l1 l2 l3:Nat}{xs ys ws:Array Value}{x y u:Value}{f0 f1:Value}
end
open AutoSeq1 (wpAny_loadPart')
section
variable{prog:Program}{A:Around}{E:Value->Shared->Prop}{s:Shared}
end
section
variable{prog:Program}{A:Around}{E:Value->Shared->Prop}{s:Shared}
end
variable{X:Cx}
theorem BR{b:Addr}{o:HO}(x:cx P w H h)(hb:H b=none)(new:aT P w (az H b o) h b o):cx P w (az H b o) h:=fun c u e=>by
 by_cases hc:c=b
 ·subst hc;rw[aB]at e;cases e;exact new
 ·rw[aq hc]at e
  exact(x c u e).stay (fun d v _ r=>r) (fun d r=>by rw[aq (aU r hb)];exact r) (fun d xs r=>by rw[aq (aU r hb)];exact r)
theorem DJ{fs ex:List Addr}{H':Hp}{h':Heap}(k:∀b u,h.get? b=some u->h'.get? b=some u)(hH:∀c,c<h.objs.size->H' c=H c)(hin:∀c o,H c=some o->c<h.objs.size):Un fs ex H H' h h' where
 keep:=fun b u q _ _ _=>k b u q
 slot:=fun b u q _ _ _=>⟨u.slots,k b u q⟩
 free:=fun b u q n _=>(hH b (Qy q)).trans n
 there:=fun b u q _=>⟨u,k b u q⟩
 tups:=fun b xs r=>(hH b (hin b _ r)).trans r
 frzs:=fun b o u r=>(hH b (hin b _ r)).trans r
 tbls:=fun b ps r=>⟨#[],by rw[Array.append_empty];exact(hH b (hin b _ r)).trans r⟩
theorem vw{Φ:Fx}{sc:Scope}{H0:Hp}{fl:Fl}{be:List Stmt}(G:aL Φ X sc)(hp:PassesOwn (model X.prog X.w) X.A X.env X.xe):∀{pre:List Stmt} {ρ ρ1:ah},aa (aA Φ pre sc ρ) (.nx ρ1)->cX X H0 ρ1 be fl->cX X H0 ρ (pre++be) fl
 | [],ρ,ρ1,h,k=>by cases aE h;exact k
 | st::ss,ρ,ρ1,h,k=>by
  obtain⟨f1,h1,h2⟩:=av (show aa (Rs.bnd _ _) _ from h)
  cases f1 with
  | nx ρ'=>exact dG ((jw Φ _).s st (QV _) h1 G hp) (vw G hp h2 k)
  | rt d=>cases aE h2
  | bk ρ'=>cases aE h2
  | ct ρ'=>cases aE h2
theorem lw{mg:Str->Option Value}{base:Heap}{g:Str}{f:Addr}{fd:FuncData}{ps:List Str}{F:List D->Rs D}(h:bG P w K mg base eh k f fd ps (km K F))(hm:mg g=some (.ref f))(hk:W.keepIn K (.ref f)=true)(hb:bK K fd ps [])(hd:(g==("__debug__" : Str))=false):dU P w K mg base k g F :=
 ⟨f,fd,ps,h,hm,hk,hb,hd⟩
noncomputable def Qg(K:W.Frag)(a:Addr)(n:Nat):It :=
 ⟨fun i H => ∃xs x,bT K H a xs/\xs.length=n/\i<n/\xs[n-1-i]?=some x,fun i H x H'=>H'=H/\∀xs,bT K H a xs->xs[n-1-i]?=some x,fun i H => ∃xs,bT K H a xs/\xs.length=n/\n<=i⟩
theorem AW(a it:Addr)(n:Nat):L2.Turn P w K tg (Qg K a n) [it] it (fun i h=>i<=n/\h.IsRevIter it a ((n:Int)-1-(i:Int))) where
 mem:=by simp
 obj:=fun i h st b hb=>by
  have e:b=it:=by simpa using hb
  subst e
  obtain⟨_,o,e,c,d⟩:=st
  exact⟨o,e,fun v z=>by rw[d]at z;cases z⟩
 keep:=fun i h h' st k=>⟨st.1,st.2.at fun o e=>k it (by simp) o e⟩
 item:=by
  intro X hP hw hK hc i pins s σ H E I hf st hg
  subst hP hw hK
  obtain⟨xs,x,hq,hn,hi,hx⟩:=hg
  obtain⟨its,rv,p,hz⟩:=I.list hq
  obtain⟨u,hu,ru⟩:=rv.get hx
  obtain⟨f0,f1,f2,f3,f4,f5⟩:=hf it (by simp)
  have e:(n:Int)-1-(i:Int)=((n-1-i:Nat):Int):=by omega
  have st:=st.2
  rw[e]at st
  refine wpAny_pyNext_rev_item st p.isList (x:=u) (by simpa using hu) fun h' st' sb=>?_
  have I1:ak X pins σ H { s with heap:=h' }:=I.turned (t':=s.toks) (fun b o hb e=>(sb.2 b hb).trans e) f0 f1 f3 f4 f5
  have e2:((n-1-i:Nat):Int)-1=(n:Int)-1-((i+1:Nat):Int):=by omega
  rw[e2]at st'
  obtain⟨o,e,c,d⟩:=id st'
  exact⟨u,rfl,jW (s:={ s with heap:=h' }) e c d (by decide) ⟨x,H,I1,ru,⟨rfl,fun ys hy=>by rw[I.list_inj hy hq];exact hx⟩,⟨hi,st'⟩,fun b hb=>(hf b hb).1⟩⟩
 done:=by
  intro X hP hw hK hc i pins s σ H E I hf st hg
  subst hP hw hK
  obtain⟨xs,hq,hn,hx⟩:=hg
  obtain⟨f0,f1,f2,f3,f4,f5⟩:=hf it (by simp)
  have e:(n:Int)-1-(i:Int) = -1:=by have:=st.1;omega
  have st:=st.2
  rw[e]at st
  exact wpAny_pyNext_rev_end (I.ok.hd hc) st fun h' eb=>⟨rfl,I.turned (t':=s.toks) (fun b o hb e=>eb b o hb e) f0 f1 f3 f4 f5⟩
 self:=fun _ _ _ _ _ st h=>wpAny_pyIter_revIter st.2 h
noncomputable def xx(ds:List D)(k:Nat):R1 :=
 match ds with
 | [.lst a]=>.ok (.lst a.reverse,k) [au a=true]
 | _=>.st
theorem II{p:Pos}{a:Expr}{l:List D}(hg:Gl X "reversed")(hm0:X.mg "reversed" = none)(ha:AD X ρ [a] [.lst l] k)(hst:∀y p,a ≠ .Starred y p)(hf:au l=true) :
  IE X ρ tg (.Call (.Name "reversed" p) [a] [] pos) l.reverse k:=by
 intro ow pins s σ H R I ⟨E,q⟩
 refine Call_ (io I hg hm0 (show bootBuiltins "reversed" = some (.type "reversed") by decide +kernel) (RO (aN (ha ow pos pins s σ H (fun vs H1=>ar H H1/\aj X.K H1 (Kp ow H k) [.lst l] vs) I ⟨E,fun vs H1 s1 r1=>⟨s1,r1⟩⟩) fun us s1 ⟨vs,H1,I1,rv,sm,rp⟩=>?_) (aF hst) rfl) (by decide +kernel) (by decide +kernel))
 obtain⟨v,rfl,rv1⟩:=rp.only
 obtain⟨ta,xs,rfl,hq,rl,hk1⟩:=GQ (κ:=false) rv1
 replace hq:bT X.K H1 ta xs:=hq
 obtain⟨u,rfl,ru⟩:=gP rv
 cases (show u=Value.ref ta from ru)
 obtain⟨its,rvs,pt,hz⟩:=I1.list hq
 have hlen:its.length=xs.length:=rvs.length.symm
 refine call_reversed_list (show s1.heap.IsList ta its.toArray from pt.isList) ?_
 have isR:(s1.heap.push (revObj ta ((its.toArray.size:Int)-1))).IsRevIter s1.heap.objs.size ta ((xs.length:Int)-1-((0:Nat):Int)):=⟨_,QG _ rfl,rfl,by simp[revObj,hlen]⟩
 refine wpAny_pyIter_revIter isR ?_
 have I2:ak X pins σ H1 { s1 with heap:=s1.heap.push (revObj ta ((its.toArray.size:Int)-1)) }:=I1.kept (t':=s1.toks) fun b o z=>Qk _ z
 have f0:H1 s1.heap.objs.size=none:=I1.hok.fresh (Ql _)
 refine⟨s1.heap.objs.size,[s1.heap.objs.size],_,_,H1,rfl,I2,AW ta _ xs.length,⟨QC _,isR⟩,fun b hb=>?_,q _ H1 sm ?_⟩
 ·have eb:b=s1.heap.objs.size:=by simpa using hb
  subst eb
  exact I1.fpOk (Ql _) f0
 ·intro i H2 st
  have rl':aj X.K H1 (Kd ow H k H1) l xs:=rl.flat _ hf
  have ll:=rl.length
  refine⟨fun d hd=>?_,fun hle=>?_⟩
  ·have hi:i<l.length:=by
    have:=(Qz.mp hd).1
    rwa [List.length_reverse]at this
   rw[List.getElem?_reverse hi]at hd
   obtain⟨y,hy,ry⟩:=rl'.get hd
   rw[ll]at hy
   refine⟨⟨xs,y,hk1 st,rfl,by omega,hy⟩,fun x' H3 ⟨e1,e2⟩=>?_⟩
   have hv:=e2 xs (hk1 st)
   rw[hy]at hv;cases hv
   subst e1
   exact⟨ar.refl _,ry.mono st⟩
  ·rw[List.length_reverse]at hle
   exact⟨xs,hk1 st,rfl,by omega⟩
theorem FB:nj "reversed" xx:=by
 refine⟨by decide +kernel,fun X ρ p pos args ds k d j l tg o hc hg hm ha hst hlen h hp hl ht=>?_⟩
 unfold xx at h
 split at h
 ·cases h
  cases hl
  match args,hlen,ha,hst with
  | [a'],_,ha,hst=>exact II hg hm ha (hst a' Qj) hp.1
 ·cases h
section
variable{prog:Program}{A:Around}{E:Value->Shared->Prop}{s:Shared}
end
theorem vE{Φ:Fx}{sc:Scope}{H0:Hp}{be:List Stmt}{t:TS}(G:aL Φ X sc)(hp:PassesOwn (model X.prog X.w) X.A X.env X.xe)(hr:cZ X be t):∀{pre:List Stmt} {ρ ρ1:ah},aa (aA Φ pre sc ρ) (.nx ρ1) ->
  cZ X (pre++be) (fun D σ H => ∃ow,aC X ow H σ ρ/\σ.length=X.N.length/\bi H0 ow H/\∀ow' σ' H',aC X ow' H' σ' ρ1->σ'.length=X.N.length->bi H0 ow' H'->t D σ' H')
 | [],ρ,ρ1,h=>by
  cases aE h
  exact fun pins s σ H D I ⟨ow,E,hl,B,q⟩=>hr pins s σ H D I (q ow σ H E hl B)
 | st::ss,ρ,ρ1,h=>by
  obtain⟨f1,h1,h2⟩:=av (show aa (Rs.bnd _ _) _ from h)
  cases f1 with
  | nx ρ' =>
   have sd:=(jw Φ _).s st (H0:=H0) (QV _) h1 G hp
   have ih:=vE (H0:=H0) G hp hr h2
   exact fun pins s σ H D I ⟨ow,E,hl,B,q⟩=>df sd ih pins s σ H D I ⟨ow,E,hl,B,fun ow' σ' H' E' hl' k=>⟨ow',E',hl',B.keep k,q⟩⟩
  | rt d=>cases aE h2
  | bk ρ'=>cases aE h2
  | ct ρ'=>cases aE h2

noncomputable def ID(x:Int):List Int->List Int
 | []=>[x]
 | y::l=>if x<=y then x::y::l else y::ID x l
noncomputable def A8:List Int->List Int
 | []=>[]
 | x::l=>ID x (A8 l)
theorem fD{K:W.Frag}{H:Hp}{P:aW}:∀{ns:List Int} {vs:List V},aj K H P (ns.map D.int) vs->vs=ns.map V.int
 | [],vs,h=>by rw[SF,aj]at h;exact h
 | n::ns,vs,h=>by
  rw[QJ,aj]at h
  obtain⟨v,r,rfl,h1,h2⟩:=h
  rw[ai]at h1
  rw[fD h2,h1];rfl
noncomputable def Oh(b:Bool)(n0:Nat)(p0 kp:Pos):List Keyword:=cond b [⟨some (Str.ofString "reverse"),.Constant (.bool true) n0 p0,kp⟩] []
noncomputable def Mw(b:Bool)(ns:List Int):List Int:=cond b (A8 ns).reverse (A8 ns)
section
variable{prog:Program}{A:Around}{E:Value->Shared->Prop}{s:Shared}
end
inductive Xd(Φ:Fx)(sc:Scope)(ρ:ah):Expr->D->Prop where
 | ev {e:Expr} {d:D} (h:aa (ax Φ e false sc ρ) (d,0)):Xd Φ sc ρ e d
 | lrev {e:Expr} {l:List D} {k:Nat} {f g:Str} {p q r t:Pos} (h:aa (bj Φ [e] sc ρ) ([.lst l],k)) (fl:au l=true) (hf:f = "list" := by rfl) (hg:g = "reversed" := by rfl) (gf:sc.names.lookup f=some .globalImplicit:=by rfl) (gg:sc.names.lookup g=some .globalImplicit:=by rfl):Xd Φ sc ρ (.Call (.Name f p) [.Call (.Name g q) [e] [] r] [] t) (.lst l.reverse)
 | srt (b:Bool) {e:Expr} {ns:List Int} {k n0:Nat} {f:Str} {p t p0 kp:Pos} (h:aa (bj Φ [e] sc ρ) ([.lst (ns.map D.int)],k)) (hn:ns.length<64) (hf:f = "sorted" := by rfl) (gf:sc.names.lookup f=some .globalImplicit:=by rfl):Xd Φ sc ρ (.Call (.Name f p) [e] (Oh b n0 p0 kp) t) (.lst ((Mw b ns).map D.int))
 | short {e:Expr} {l:List D} {k:Nat} {f:Str} {p t:Pos} (h:aa (bj Φ [e] sc ρ) ([.lst l],k)) (hn:l.length<2) (fl:au l=true) (hf:f = "sorted" := by rfl) (gf:sc.names.lookup f=some .globalImplicit:=by rfl):Xd Φ sc ρ (.Call (.Name f p) [e] [] t) (.lst l)
 | pick4 {e1 e2 e3 e4 i:Expr} {d1 d2 d3 d4 d:D} {j:Int} {k:Nat} {lp p:Pos} (h1:Xd Φ sc ρ e1 d1) (h2:Xd Φ sc ρ e2 d2) (h3:Xd Φ sc ρ e3 d3) (h4:Xd Φ sc ρ e4 d4) (hi:aa (ax Φ i false sc ρ) (.int j,k)) (ha:atI [d1,d2,d3,d4] j=some d):Xd Φ sc ρ (.Subscript (.List [e1,e2,e3,e4] lp) i p) d
inductive Rn(Φ:Fx)(sc:Scope):List Stmt->ah->D->Prop where
 | fin {ss:List Stmt} {ρ:ah} {r:D} (h:aa (aA Φ ss sc ρ) (.rt r)):Rn Φ sc ss ρ r
 | cut (n:Nat) {ss:List Stmt} {ρ ρ1:ah} {r:D} (h:aa (aA Φ (ss.take n) sc ρ) (.nx ρ1)) (k:Rn Φ sc (ss.drop n) ρ1 r):Rn Φ sc ss ρ r
 | dem {ss:List Stmt} {ρ:ah} {r:D} (k:Rn Φ sc ss (jF ρ) r):Rn Φ sc ss ρ r
 | set {x:Str} {e:Expr} {px q:Pos} {ss:List Stmt} {ρ:ah} {d r:D} (h:Xd Φ sc ρ e d) (k:Rn Φ sc ss (aM ρ x (d,true)) r) (hx:bX sc x=true:=by rfl) (hc:jx e=false:=by rfl):Rn Φ sc (.Assign [.Name x px] e q::ss) ρ r
noncomputable def L4(l:List Int):D:=.lst (l.map D.int)
noncomputable def LG(ρ:ah)(x:Str):ah:=fun y=>if y=x then none else ρ y
noncomputable def AT(X:Cx)(H0:Hp)(tg:Expr)(body:List Stmt):List D->ah->Fl->Prop
 | [],ρ,fl=>fl=.nx ρ
 | d::ds,ρ,fl => ∃ρ1,GD X ρ tg d ρ1/\((∃ρ2,cX X H0 ρ1 body (.nx ρ2)/\AT X H0 tg body ds ρ2 fl)\/∃r,fl=.rt r/\cX X H0 ρ1 body (.rt r))
theorem pX{H0:Hp}{iter:Expr}{body:List Stmt}{ds:List D}{fl:Fl}(hp:PassesOwn (model X.prog X.w) X.A X.env X.xe)(hcalm:X.calm=true)
  (hi:IE X (demote iter ρ) tg iter ds k) (hk:k<=1) (h:AT X H0 tg body ds (demote iter ρ) fl)
  (hs:∀x,foldedSetIterable iter X.env x=pure x):SD X H0 ρ (.For tg iter body [] pos) fl:=by
 intro pins s σ H D0 I ⟨ow0,E0,hl,B0,q0⟩
 obtain⟨ow,E,k0⟩:=pG (e:=iter) E0
 have B:=B0.keep k0
 have q:=q0.keep k0
 have pb:cZ X body (fun D σ H => ∃ρ fl,cX X H0 ρ body fl/\yn X H0 ρ fl D σ H):=fun pins s σ H D I ⟨ρ1,fl1,h1,h2⟩=>h1 pins s σ H D I h2
 have pg:PG X tg (fun v σ H Q => ∃g:TG,PG X tg g/\g v σ H Q):=fun pins s σ H v u Q I r ⟨g,h1,h2⟩=>h1 pins s σ H v u Q I r h2
 refine sF hp hcalm (hi ow) pg pb hs pins s σ H D0 I ⟨E,fun J H1 s1 itd=>?_⟩
 refine⟨fun i m σ' H'=>m=ds.length-i/\i<=ds.length/\∃ow' ρ',aC X ow' H' σ' ρ'/\σ'.length=X.N.length/\bi H0 ow' H'/\aI ow H1 ow' H'/\AT X H0 tg body (ds.drop i) ρ' fl,
  ⟨ds.length,by simp,QC _,ow,_,E.same s1,hl,B.keep (aI.same s1),aI.refl _ _,h⟩,?_⟩
 rintro i m σ' H' ⟨rfl,hile,ow',ρ',E',hl',B',k',hf⟩
 have q':kg X H0 ow' H' fl D0:=q.keep ((aI.same s1).trans k')
 have st:dE (Kd ow H k H1) (Kd ow H k H1) H1 H':=⟨fun a o ha hn=>k'.keep a o ha (.inl hn),fun a vs ha p=>k'.keep a _ ha (.inr (eB E.own hk p.1)),fun _ _ _ p=>p,fun _ p=>p⟩
 have it:=itd i H' st
 by_cases hlt:i<ds.length
 ·obtain⟨go,yl⟩:=it.1 ds[i] (QE hlt)
  have hdrop:ds.drop i=ds[i]::ds.drop (i+1):=RV hlt
  rw[hdrop]at hf
  refine .inr ⟨go,fun σ2 H2=>i+1<=ds.length/\∃ow2 ρ2,aC X ow2 H2 σ2 ρ2/\σ2.length=X.N.length/\bi H0 ow2 H2/\aI ow H1 ow2 H2/\AT X H0 tg body (ds.drop (i+1)) ρ2 fl,fun σ2 H2 n=>⟨ds.length-(i+1),by omega,rfl,n.1,n.2⟩,fun x H3 y3=>?_⟩
  obtain⟨sm3,rx⟩:=yl x H3 y3
  obtain⟨ρ1,⟨g,g1,g2⟩,hf⟩:=hf
  have rx':ai X.K H3 (fun a b=>b=true->ow' a=none) ds[i] x:=rx.impH (fun a o ha p _=>by
   obtain⟨o1,h1⟩:=p.2 rfl
   exact k'.low a o1 h1 (eB E.own hk p.1)) fun a _ z=>(by cases z)
  refine⟨g,g1,g2 ow' x σ' H3 _ hl' (E'.same sm3) rx' fun σ2 hl2 E2=>?_⟩
  have k3:aI ow' H' ow' H3:=aI.same sm3
  rcases hf with⟨ρ2,hb,hf⟩|⟨r,rfl,hb⟩
  ·exact⟨ρ1,.nx ρ2,hb,ow',E2,hl2,B'.keep k3,fun ow2 σ3 H4 a b c=>⟨hlt,ow2,ρ2,a,b,(B'.keep k3).keep c,k'.trans (k3.trans c),hf⟩⟩
  ·exact⟨ρ1,.rt r,hb,ow',E2,hl2,B'.keep k3,q'⟩
 ·have ei:i=ds.length:=by omega
  subst ei
  rw[List.drop_length]at hf
  cases (show fl=.nx ρ' from hf)
  exact .inl ⟨it.2 (Ql _),q' ow' σ' H' E' hl' (aI.refl _ _)⟩
inductive Rp(Φ:Fx)(sc:Scope)(tg c:Expr):List D->ah->ah->Prop where
 | nil {ρ:ah}:Rp Φ sc tg c [] ρ ρ
 | cons {d:D} {ds:List D} {ρ ρ1 ρ':ah} {k:Nat} (hb:bE sc tg d ρ=some ρ1) (hc:aa (ax Φ c false sc ρ1) (.bl false,k)) (h:Rp Φ sc tg c ds ρ1 ρ'):Rp Φ sc tg c (d::ds) ρ ρ'
inductive Xo(Φ:Fx)(sc:Scope)(ρ:ah):Option Expr->Option Int->Prop where
 | no:Xo Φ sc ρ none none
 | yes {e:Expr} {i:Int} {k:Nat} (h:aa (ax Φ e false sc ρ) (.int i,k)):Xo Φ sc ρ (some e) (some i)
inductive uv(Φ:Fx)(sc:Scope)(ρ:ah):Expr->D->Prop where
 | name {x:Str} {p:Pos} {m:List D} (h:ρ x=some (.lst m,false)) (hx:dm x=true):uv Φ sc ρ (.Name x p) (.lst m)
 | cut {e:Expr} {lo hi:Option Expr} {l h:Option Int} {m:List D} {p2 p:Pos} (he:uv Φ sc ρ e (.lst m)) (hl:Xo Φ sc ρ lo l) (hh:Xo Φ sc ρ hi h):uv Φ sc ρ (.Subscript e (.Slice lo hi none p2) p) (.lst (B2 m l h))
 | cat {a b:Expr} {l m:List D} {p:Pos} (ha:uv Φ sc ρ a (.lst l)) (hb:uv Φ sc ρ b (.lst m)) (hn:l.length+m.length<=bc):uv Φ sc ρ (.BinOp a .Add b p) (.lst (l++m))
mutual
inductive Rf(Φ:Fx)(sc:Scope):List Stmt->ah->Fl->Prop where
 | base {ss:List Stmt} {ρ:ah} {fl:Fl} (h:aa (aA Φ ss sc ρ) fl):Rf Φ sc ss ρ fl
 | cut (n:Nat) {ss:List Stmt} {ρ ρ1:ah} {fl:Fl} (h:aa (aA Φ (ss.take n) sc ρ) (.nx ρ1)) (k:Rf Φ sc (ss.drop n) ρ1 fl):Rf Φ sc ss ρ fl
 | seq {s:Stmt} {ss:List Stmt} {ρ ρ1:ah} {fl:Fl} (h:nP Φ sc s ρ (.nx ρ1)) (k:Rf Φ sc ss ρ1 fl):Rf Φ sc (s::ss) ρ fl
 | stop {s:Stmt} {ss:List Stmt} {ρ:ah} {r:D} (h:nP Φ sc s ρ (.rt r)):Rf Φ sc (s::ss) ρ (.rt r)
 | dem {ss:List Stmt} {ρ:ah} {fl:Fl} (k:Rf Φ sc ss (jF ρ) fl):Rf Φ sc ss ρ fl
inductive nP(Φ:Fx)(sc:Scope):Stmt->ah->Fl->Prop where
 | set {x:Str} {e:Expr} {px q:Pos} {ρ:ah} {d:D} (h:Xd Φ sc ρ e d) (hx:bX sc x=true) (hc:jx e=false):nP Φ sc (.Assign [.Name x px] e q) ρ (.nx (aM ρ x (d,true)))
 | setS {x:Str} {e:Expr} {px q:Pos} {ρ:ah} {d:D} (h:uv Φ sc ρ e d) (hx:bX sc x=true):nP Φ sc (.Assign [.Name x px] e q) ρ (.nx (aM ρ x (d,false)))
 | app1 {x m:Str} {M:List D->List D->Nat->Rs (List D)} {i e:Expr} {p1 p2 ap cp p4:Pos} {ρ:ah} {dt l l':List D} {d:D} {j:Int} {k ki:Nat} (hM:Φ.mtt m=some M) (hx:ρ x=some (.tup dt,true)) (hi:aa (ax Φ i false sc ρ) (.int j,ki)) (hs:gn i) (hat:L2.atI dt j=some (.lst l)) (h:aa (bj Φ [e] sc ρ) ([d],k)) (hn:dm x=true) (hln:(ap.endLine==cp.line)=true) (hm:aa (M l [d] k) l') :
  nP Φ sc (.Expr (.Call (.Attribute (.Subscript (.Name x p1) i p2) m ap) [e] [] cp) p4) ρ (.nx (LG ρ x))
 | sto2 {x:Str} {e i m:Expr} {p1 p2 p3 pos:Pos} {ρ:ah} {Ls:List (List Int)} {l:List Int} {j jm v:Int} {n nm k k1 k2:Nat} (hx:ρ x=some (.lst (Ls.map L4),true)) (h:aa (ax Φ e false sc ρ) (.int v,k)) (hi:aa (ax Φ i false sc ρ) (.int j,k1)) (hm:aa (ax Φ m false sc ρ) (.int jm,k2)) (hn:dm x=true)
  (h1:ku Ls.length j=some n) (h2:Ls[n]?=some l) (h3:ku l.length jm=some nm) (hd:∀a y,Ls[a]?=some y->a≠n->y≠l) (hs:gn i) (hsl:∀a b c p,m ≠ .Slice a b c p) :
  nP Φ sc (.Assign [.Subscript (.Subscript (.Name x p1) i p2) m p3] e pos) ρ (.nx (aM ρ x (.lst ((Ls.set n (l.set nm v)).map L4),true)))
 | ret {e:Expr} {q:Pos} {ρ:ah} {d:D} (h:Xd Φ sc ρ e d):nP Φ sc (.Return (some e) q) ρ (.rt d)
 | iff {c:Expr} {a b:List Stmt} {pos:Pos} {ρ:ah} {t:Bool} {k:Nat} {fl:Fl} (hc:aa (ax Φ c false sc ρ) (.bl t,k)) (h:Rf Φ sc (cond t a b) ρ fl):nP Φ sc (.If c a b pos) ρ fl
 | forC {tg it:Expr} {body:List Stmt} {pos:Pos} {ρ:ah} {d:D} {ds:List D} {k:Nat} {fl:Fl} (hi:aa (ax Φ it true sc (demote it ρ)) (d,k)) (hd:items d=some ds) (hk:k<=1) (ht:fF it tg=true) (h:Rc Φ sc tg body ds (demote it ρ) fl):nP Φ sc (.For tg it body [] pos) ρ fl
 | forP {tg it c:Expr} {a:List Stmt} {pos q:Pos} {ρ ρ':ah} {d:D} {ds:List D} {k:Nat} (hi:aa (ax Φ it true sc ρ) (d,k)) (hd:items d=some ds) (hl:au ds=true) (ht:fF it tg=true) (h:Rp Φ sc tg c ds ρ ρ'):nP Φ sc (.For tg it [.If c a [] q] [] pos) ρ (.nx ρ')
inductive Rc(Φ:Fx)(sc:Scope):Expr->List Stmt->List D->ah->Fl->Prop where
 | nil {tg:Expr} {body:List Stmt} {ρ:ah}:Rc Φ sc tg body [] ρ (.nx ρ)
 | cons {tg:Expr} {body:List Stmt} {d:D} {ds:List D} {ρ ρ1 ρ2:ah} {fl:Fl} (hb:bE sc tg d ρ=some ρ1) (h:Rf Φ sc body ρ1 (.nx ρ2)) (k:Rc Φ sc tg body ds ρ2 fl):Rc Φ sc tg body (d::ds) ρ fl
 | stop {tg:Expr} {body:List Stmt} {d:D} {ds:List D} {ρ ρ1:ah} {r:D} (hb:bE sc tg d ρ=some ρ1) (h:Rf Φ sc body ρ1 (.rt r)):Rc Φ sc tg body (d::ds) ρ (.rt r)
end
end Sp
namespace TS
open PySem PyProof.Rows
noncomputable abbrev SM:=StateT SortSt Sem
noncomputable def gO:Bool->Keyed->Array Keyed->Nat->Nat->Nat->SM (Option Nat):=sortPriv% PySem.Builtin.gallop
noncomputable def ui(lf:Bool)(ke:Keyed)(xs:Array Keyed)(b i:Nat):SM (Option Bool):=do
 let x <- elem' xs (b+i)
 if lf then lt' x ke else return (<- lt' ke x).map (!·)
theorem IR(lf:Bool)(ke:Keyed)(xs:Array Keyed)(b n hh:Nat):gO lf ke xs b n hh=(do
 let mut lo1:=0
 let mut of1:=1
 let mut l:=0
 let mut h:=0
 let some rg <- ui lf ke xs b hh|return none
 if rg then
  let mx:=n-hh
  for _ in [0:n] do
   if of1 >= mx then break
   let some mo <- ui lf ke xs b (hh+of1)|return none
   if !mo then break
   lo1:=of1
   of1:=2*of1+1
  l:=hh+lo1+1
  h:=hh+min of1 mx
 else
  let mx:=hh+1
  for _ in [0:n] do
   if of1 >= mx then break
   let some fd <- ui lf ke xs b (hh-of1)|return none
   if fd then break
   lo1:=of1
   of1:=2*of1+1
  l:=hh+1-min of1 mx
  h:=hh-lo1
 for _ in [0:n] do
  if l >= h then break
  let m:=l+(h-l) / 2
  let some mo <- ui lf ke xs b m|return none
  if mo then l:=m+1 else h:=m
 return some h):=rfl
section
variable{M:Model}{A:Around}{E:Value->Shared->Prop}{s:Shared}
theorem IQ{lf:Bool}{ke:Keyed}{xs:Array Keyed}{b n hh:Nat}{st:SortSt}{Q:Option Nat->SortSt->Prop}(B:Nat->Bool)(hb:∀i,i<n->∀Q:Option Bool->SortSt->Prop,Q (some (B i)) st->wpS M A E s (ui lf ke xs b i) Q st)
  (hm:∀i j,i<=j->j<n->B j=true->B i=true) (hn:hh<n) (h:∀k,k<=n->(∀i,i<k->B i=true)->(∀i,k<=i->i<n->B i=false)->Q (some k) st):wpS M A E s (gO lf ke xs b n hh) Q st:=by
 have hf:∀i j,i<=j->j<n->B i=false->B j=false:=fun i j h1 h2 h3=>by
  cases e:B j with
  | false=>rfl
  | true=>rw[hm i j h1 h2 e]at h3;cases h3
 rw[IR]
 refine Qn (hb hh hn _ ?_)
 cases e:B hh with
 | true =>
  dsimp only
  rw[if_pos rfl]
  refine Qn (RY (Ra (I:=fun x c st'=>st'=st/\∃l o,c=(none,l,o)/\l<o/\x<o/\hh+l<n/\B (hh+l)=true)
   (Q:=fun c st'=>st'=st/\∃l o,c=(none,l,o)/\l<o/\hh+l<n/\B (hh+l)=true/\(n-hh<=o\/(hh+o<n/\B (hh+o)=false))) ?_ ?_ ⟨rfl,0,1,rfl,by omega,by omega,by omega,e⟩) ?_)
  ·rintro x c st' _ hx ⟨rfl,l,o,rfl,h1,h2,h3,h4⟩
   dsimp only
   by_cases hge:o >= n-hh
   ·rw[if_pos hge]
    exact Qt ⟨rfl,l,o,rfl,h1,h3,h4,.inl hge⟩
   ·rw[if_neg hge]
    refine Qn (hb _ (by omega) _ ?_)
    cases e2:B (hh+o)with
    | true =>
     dsimp only
     rw[if_neg (by simp)]
     exact Qt ⟨rfl,o,2*o+1,rfl,by omega,by omega,by omega,e2⟩
    | false =>
     dsimp only
     rw[if_pos (by simp)]
     exact Qt ⟨rfl,l,o,rfl,h1,h3,h4,.inr ⟨by omega,e2⟩⟩
  ·rintro c st' ⟨rfl,l,o,rfl,h1,h2,h3,h4⟩
   exact⟨rfl,l,o,rfl,h1,h3,h4,.inl (by omega)⟩
  ·rintro c st'' ⟨rfl,l,o,rfl,h1,h3,h4,h5⟩
   dsimp only
   have p3:∀i,i<hh+l+1->B i=true:=fun i hi=>hm i _ (by omega) h3 h4
   have p4:∀i,hh+min o (n-hh)<=i->i<n->B i=false:=fun i hi hi2=>by
    rcases h5 with h5|⟨h5,h6⟩
    ·omega
    ·exact hf _ i (by omega) hi2 h6
   refine Qn (RY (Ra (I:=fun x c st'=>st'=st''/\∃l r,c=(none,l,r)/\l<=r/\r<=n/\r-l<=n-x/\(∀i,i<l->B i=true)/\(∀i,r<=i->i<n->B i=false))
    (Q:=fun c st'=>st'=st''/\∃l,c=(none,l,l)/\l<=n/\(∀i,i<l->B i=true)/\(∀i,l<=i->i<n->B i=false)) ?_ ?_ ⟨rfl,hh+l+1,hh+min o (n-hh),rfl,by omega,by omega,by omega,p3,p4⟩) ?_)
   ·rintro x c st' _ hx ⟨rfl,l,r,rfl,h1,h2,h5,h3,h4⟩
    dsimp only
    by_cases hge:l >= r
    ·rw[if_pos hge]
     have:l=r:=by omega
     subst this
     exact Qt ⟨rfl,l,rfl,h2,h3,h4⟩
    ·rw[if_neg hge]
     refine Qn (hb _ (by omega) _ ?_)
     cases e:B (l+(r-l) / 2)with
     | true =>
      dsimp only
      rw[if_pos rfl]
      exact Qt ⟨rfl,_,r,rfl,by omega,h2,by omega,fun i hi=>hm i _ (by omega) (by omega) e,h4⟩
     | false =>
      dsimp only
      rw[if_neg (by simp)]
      exact Qt ⟨rfl,l,_,rfl,by omega,by omega,by omega,h3,fun i hi hi2=>hf _ i hi hi2 e⟩
   ·rintro c st' ⟨rfl,l,r,rfl,h1,h2,h5,h3,h4⟩
    have:l=r:=by omega
    subst this
    exact⟨rfl,l,rfl,h2,h3,h4⟩
   ·rintro c st' ⟨rfl,l,rfl,h2,h3,h4⟩
    exact Qt (h l h2 h3 h4)
 | false =>
  dsimp only
  rw[if_neg (by simp)]
  refine Qn (RY (Ra (I:=fun x c st'=>st'=st/\∃l o,c=(none,l,o)/\l<o/\x<o/\l<=hh/\B (hh-l)=false)
   (Q:=fun c st'=>st'=st/\∃l o,c=(none,l,o)/\l<o/\l<=hh/\B (hh-l)=false/\(hh+1<=o\/(o<=hh/\B (hh-o)=true))) ?_ ?_ ⟨rfl,0,1,rfl,by omega,by omega,by omega,e⟩) ?_)
  ·rintro x c st' _ hx ⟨rfl,l,o,rfl,h1,h2,h3,h4⟩
   dsimp only
   by_cases hge:o >= hh+1
   ·rw[if_pos hge]
    exact Qt ⟨rfl,l,o,rfl,h1,h3,h4,.inl hge⟩
   ·rw[if_neg hge]
    refine Qn (hb _ (by omega) _ ?_)
    cases e2:B (hh-o)with
    | true =>
     dsimp only
     rw[if_pos rfl]
     exact Qt ⟨rfl,l,o,rfl,h1,h3,h4,.inr ⟨by omega,e2⟩⟩
    | false =>
     dsimp only
     rw[if_neg (by simp)]
     exact Qt ⟨rfl,o,2*o+1,rfl,by omega,by omega,by omega,e2⟩
  ·rintro c st' ⟨rfl,l,o,rfl,h1,h2,h3,h4⟩
   exact⟨rfl,l,o,rfl,h1,h3,h4,.inl (by omega)⟩
  ·rintro c st'' ⟨rfl,l,o,rfl,h1,h3,h4,h5⟩
   dsimp only
   have p3:∀i,i<hh+1-min o (hh+1)->B i=true:=fun i hi=>by
    rcases h5 with h5|⟨h5,h6⟩
    ·omega
    ·exact hm i _ (by omega) (by omega) h6
   have p4:∀i,hh-l<=i->i<n->B i=false:=fun i hi hi2=>hf _ i hi hi2 h4
   refine Qn (RY (Ra (I:=fun x c st'=>st'=st''/\∃l r,c=(none,l,r)/\l<=r/\r<=n/\r-l<=n-x/\(∀i,i<l->B i=true)/\(∀i,r<=i->i<n->B i=false))
    (Q:=fun c st'=>st'=st''/\∃l,c=(none,l,l)/\l<=n/\(∀i,i<l->B i=true)/\(∀i,l<=i->i<n->B i=false)) ?_ ?_ ⟨rfl,hh+1-min o (hh+1),hh-l,rfl,by omega,by omega,by omega,p3,p4⟩) ?_)
   ·rintro x c st' _ hx ⟨rfl,l,r,rfl,h1,h2,h5,h3,h4⟩
    dsimp only
    by_cases hge:l >= r
    ·rw[if_pos hge]
     have:l=r:=by omega
     subst this
     exact Qt ⟨rfl,l,rfl,h2,h3,h4⟩
    ·rw[if_neg hge]
     refine Qn (hb _ (by omega) _ ?_)
     cases e:B (l+(r-l) / 2)with
     | true =>
      dsimp only
      rw[if_pos rfl]
      exact Qt ⟨rfl,_,r,rfl,by omega,h2,by omega,fun i hi=>hm i _ (by omega) (by omega) e,h4⟩
     | false =>
      dsimp only
      rw[if_neg (by simp)]
      exact Qt ⟨rfl,l,_,rfl,by omega,by omega,by omega,h3,fun i hi hi2=>hf _ i hi hi2 e⟩
   ·rintro c st' ⟨rfl,l,r,rfl,h1,h2,h5,h3,h4⟩
    have:l=r:=by omega
    subst this
    exact⟨rfl,l,rfl,h2,h3,h4⟩
   ·rintro c st' ⟨rfl,l,rfl,h2,h3,h4⟩
    exact Qt (h l h2 h3 h4)
end
end TS
namespace TS
open PySem PyProof.Rows
section
variable{O:KeyOrd}(ky:Keyed->O.α)
noncomputable def cY(l:List Keyed):Prop:=l.Pairwise fun x y=>O.kle (ky x) (ky y)
noncomputable def cD(l m:List Keyed):Prop:=∀x∈l,∀y∈m,O.kle (ky x) (ky y)
structure bU(T out A B:List Keyed):Prop where
 pm:(out++A++B).Perm T
 so:cY ky out
 sa:cY ky A
 sb:cY ky B
 oa:cD ky out A
 ob:cD ky out B
end
section
variable{O:KeyOrd}{ky:Keyed->O.α}{T out A B X:List Keyed}
theorem dn:cY ky (A++B)↔cY ky A/\cY ky B/\cD ky A B:=List.pairwise_append
theorem bU.goA(h:bU ky T out (X++A) B)(hx:cD ky X B):bU ky T (out++X) A B:=by
 obtain⟨pm,so,sa,sb,oa,ob⟩:=h
 obtain⟨s1,s2,s3⟩:=dn.mp sa
 refine⟨by simpa [QQ]using pm,dn.mpr ⟨so,s1,fun x hx y hy=>oa x hx y (List.mem_append_left _ hy)⟩,s2,sb,fun x hx' y hy=>?_,fun x hx' y hy=>?_⟩
 ·rcases QN.mp hx' with z|z
  ·exact oa x z y (QO _ hy)
  ·exact s3 x z y hy
 ·rcases QN.mp hx' with z|z
  ·exact ob x z y hy
  ·exact hx x z y hy
theorem bU.goB(h:bU ky T out A (X++B))(hx:cD ky X A):bU ky T (out++X) A B:=by
 obtain⟨pm,so,sa,sb,oa,ob⟩:=h
 obtain⟨s1,s2,s3⟩:=dn.mp sb
 refine⟨?_,dn.mpr ⟨so,s1,fun x hx y hy=>ob x hx y (List.mem_append_left _ hy)⟩,sa,s2,fun x hx' y hy=>?_,fun x hx' y hy=>?_⟩
 ·refine List.Perm.trans ?_ pm
  have:(X++A).Perm (A++X):=List.perm_append_comm
  have:=(this.append_right B).append_left out
  simpa [QQ]using this
 ·rcases QN.mp hx' with z|z
  ·exact oa x z y hy
  ·exact hx x z y hy
 ·rcases QN.mp hx' with z|z
  ·exact ob x z y (QO _ hy)
  ·exact s3 x z y hy
noncomputable abbrev d6(ky:Keyed->O.α)(T l:List Keyed):Prop:=l.Perm T/\cY ky l
theorem bU.endA(h:bU ky T out A []):d6 ky T (out++A):=⟨by simpa using h.pm,dn.mpr ⟨h.so,h.sa,h.oa⟩⟩
theorem bU.endB(h:bU ky T out [] B):d6 ky T (out++B):=⟨by simpa using h.pm,dn.mpr ⟨h.so,h.sb,h.ob⟩⟩
theorem bU.last(h:bU ky T out A B)(hz:cD ky B A):d6 ky T (out++B++A):=(bU.goB (X:=B) (B:=[]) (by rw[QP];exact h) hz).endA
theorem yw{x:Keyed}{l:List Keyed}(h:cY ky (x::l)):cD ky [x] (x::l):=fun a ha y hy=>by
 rw[Qu]at ha;subst ha
 rcases Qo.mp hy with rfl|hy
 ·exact RH _
 ·exact(Q6.mp h).1 y hy
end
noncomputable def CW:Array Keyed->Array Keyed->SM (Array Keyed):=sortPriv% PySem.Builtin.mergeLo
noncomputable def ny:Nat->SM Unit:=sortPriv% PySem.Builtin.setMinGallop
noncomputable abbrev fY(a b out:Array Keyed)(i j:Nat):Array Keyed:=out++a.extract i a.size++b.extract j b.size
noncomputable abbrev nI(a b out:Array Keyed)(i j:Nat):Array Keyed:=out++b.extract j b.size++a.extract i a.size
noncomputable abbrev L1:=Option (Array Keyed)×Array Keyed×Nat×Nat×Nat×Nat
noncomputable abbrev L2:=Option (Array Keyed)×Array Keyed×Nat×Nat×Nat×Nat×Nat
noncomputable abbrev L0:=Option (Array Keyed)×Array Keyed×Nat×Nat×Nat
noncomputable def GO(a b:Array Keyed)(g:Nat)(t:L1):SM (ForInStep L1):=do
 let y <- elem' b t.2.2.2.1
 let z <- elem' a t.2.2.1
 let x <- lt' y z
 match x with
 | some bw =>
  if bw=true then do
   let y <- elem' b t.2.2.2.1
   if (t.2.2.2.1+1==b.size)=true then pure (.done (some (fY a b (t.2.1.push y) t.2.2.1 (t.2.2.2.1+1)),t.2.1.push y,t.2.2.1,t.2.2.2.1+1,0,t.2.2.2.2.2+1))
   else if t.2.2.2.2.2+1 >= g then pure (.done (none,t.2.1.push y,t.2.2.1,t.2.2.2.1+1,0,t.2.2.2.2.2+1))
   else pure (.yield (none,t.2.1.push y,t.2.2.1,t.2.2.2.1+1,0,t.2.2.2.2.2+1))
  else do
   let y <- elem' a t.2.2.1
   if (t.2.2.1+1+1==a.size)=true then pure (.done (some (nI a b (t.2.1.push y) (t.2.2.1+1) t.2.2.2.1),t.2.1.push y,t.2.2.1+1,t.2.2.2.1,t.2.2.2.2.1+1,0))
   else if t.2.2.2.2.1+1 >= g then pure (.done (none,t.2.1.push y,t.2.2.1+1,t.2.2.2.1,t.2.2.2.2.1+1,0))
   else pure (.yield (none,t.2.1.push y,t.2.2.1+1,t.2.2.2.1,t.2.2.2.2.1+1,0))
 | _=>pure (.done (some (fY a b t.2.1 t.2.2.1 t.2.2.2.1),t.2.1,t.2.2.1,t.2.2.2.1,t.2.2.2.2.1,t.2.2.2.2.2))
noncomputable def Dk(a b o:Array Keyed)(i j g c d:Nat):SM (ForInStep L2):=do
 let y <- elem' a i
 if (i+1+1==a.size)=true then pure (.done (some (nI a b (o.push y) (i+1) j),o.push y,i+1,j,g,c,d))
 else if (decide (c<7)&&decide (d<7))=true then pure (.done (none,o.push y,i+1,j,g,c,d))
 else pure (.yield (none,o.push y,i+1,j,g,c,d))
noncomputable def CY(a b o:Array Keyed)(i j g c d:Nat):SM (ForInStep L2):=do
 let y <- elem' b j
 if (j+1==b.size)=true then pure (.done (some (fY a b (o.push y) i (j+1)),o.push y,i,j+1,g,c,d))
 else do
  let z <- elem' a i
  let x <- gO true z b (j+1) (b.size-(j+1)) 0
  match x with
  | some k =>
   if k>0 then
    if (j+1+k==b.size)=true then pure (.done (some (fY a b (o.push y++b.extract (j+1) (j+1+k)) i (j+1+k)),o.push y++b.extract (j+1) (j+1+k),i,j+1+k,g,c,k))
    else Dk a b (o.push y++b.extract (j+1) (j+1+k)) i (j+1+k) g c k
   else Dk a b (o.push y) i (j+1) g c k
  | _=>pure (.done (some (fY a b (o.push y) i (j+1)),o.push y,i,j+1,g,c,d))
noncomputable def Cv(a b o:Array Keyed)(i j g c d:Nat):SM (ForInStep L2):=do
 ny g
 let y <- elem' b j
 let x <- gO false y a i (a.size-i) 0
 match x with
 | some k =>
  if k>0 then
   if (i+k+1==a.size)=true then pure (.done (some (nI a b (o++a.extract i (i+k)) (i+k) j),o++a.extract i (i+k),i+k,j,g,k,d))
   else if (i+k==a.size)=true then pure (.done (some (fY a b (o++a.extract i (i+k)) (i+k) j),o++a.extract i (i+k),i+k,j,g,k,d))
   else CY a b (o++a.extract i (i+k)) (i+k) j g k d
  else CY a b o i j g k d
 | _=>pure (.done (some (fY a b o i j),o,i,j,g,c,d))
noncomputable def dl(a b:Array Keyed)(t:L2):SM (ForInStep L2) :=
 if t.2.2.2.2.1>1 then Cv a b t.2.1 t.2.2.1 t.2.2.2.1 (t.2.2.2.2.1-1) t.2.2.2.2.2.1 t.2.2.2.2.2.2
 else Cv a b t.2.1 t.2.2.1 t.2.2.2.1 t.2.2.2.2.1 t.2.2.2.2.2.1 t.2.2.2.2.2.2
noncomputable def CN(a b:Array Keyed)(c:L0):SM (ForInStep L0):=do
 let t <- forIn [0:a.size+b.size] ((none,c.2.1,c.2.2.1,c.2.2.2.1,0,0):L1) fun _ t=>GO a b c.2.2.2.2 t
 match t.1 with
 | some r=>pure (.done (some r,t.2.1,t.2.2.1,t.2.2.2.1,c.2.2.2.2))
 | none=>do
  liftM (rule "list.sort.gallop")
  let u <- forIn [0:a.size+b.size] ((none,t.2.1,t.2.2.1,t.2.2.2.1,c.2.2.2.2+1,t.2.2.2.2.1,t.2.2.2.2.2):L2) fun _ u=>dl a b u
  match u.1 with
  | some r=>pure (.done (some r,u.2.1,u.2.2.1,u.2.2.2.1,u.2.2.2.2.1))
  | none=>do
   ny (u.2.2.2.2.1+1)
   pure (.yield (none,u.2.1,u.2.2.1,u.2.2.2.1,u.2.2.2.2.1+1))
theorem Fi(a b:Array Keyed):CW a b=(do
 rule "list.sort.merge-lo"
 let mut o:Array Keyed:=#[<- elem' b 0]
 let mut i:=0
 let mut j:=1
 if j==b.size then return fY a b o i j
 if i+1==a.size then return nI a b o i j
 let mut g:=gallopOf (<- get)
 for _ in [0:a.size+b.size] do
  let mut c:=0
  let mut d:=0
  for _ in [0:a.size+b.size] do
   let some bw <- lt' (<- elem' b j) (<- elem' a i)|return fY a b o i j
   if bw then
    o:=o.push (<- elem' b j);j:=j+1;d:=d+1;c:=0
    if j==b.size then return fY a b o i j
    if d >= g then break
   else
    o:=o.push (<- elem' a i);i:=i+1;c:=c+1;d:=0
    if i+1==a.size then return nI a b o i j
    if c >= g then break
  rule "list.sort.gallop"
  g:=g+1
  for _ in [0:a.size+b.size] do
   if g>1 then g:=g-1
   ny g
   let some k <- gO false (<- elem' b j) a i (a.size-i) 0|return fY a b o i j
   c:=k
   if k>0 then
    o:=o++a.extract i (i+k);i:=i+k
    if i+1==a.size then return nI a b o i j
    if i==a.size then return fY a b o i j
   o:=o.push (<- elem' b j);j:=j+1
   if j==b.size then return fY a b o i j
   let some k <- gO true (<- elem' a i) b j (b.size-j) 0|return fY a b o i j
   d:=k
   if k>0 then
    o:=o++b.extract j (j+k);j:=j+k
    if j==b.size then return fY a b o i j
   o:=o.push (<- elem' a i);i:=i+1
   if i+1==a.size then return nI a b o i j
   if c<7&&d<7 then break
  g:=g+1
  ny g
 unsupported "internal:list.sort.merge-bound"):=rfl
theorem HZ(a b:Array Keyed):CW a b=(do
  liftM (rule "list.sort.merge-lo")
  let y <- elem' b 0
  if (1==b.size)=true then pure (fY a b #[y] 0 1)
  else if (0+1==a.size)=true then pure (nI a b #[y] 0 1)
  else do
   let st <- get
   let c <- forIn [0:a.size+b.size] ((none,#[y],0,1,gallopOf st):L0) fun _ c=>CN a b c
   match c.1 with
   | some r=>pure r
   | none=>liftM (unsupported "internal:list.sort.merge-bound" : Sem (Array Keyed))):=by
 rw[Fi]
 unfold CN dl
 dsimp only
 congr 1;funext _;congr 1;funext y
 refine SH rfl (fun _=>rfl) fun _=>SH rfl (fun _=>rfl) fun _=>?_
 congr 1;funext st
 congr 1
 ·congr 1
  funext _ c
  congr 1
  funext t
  obtain⟨t1,t2⟩:=t
  cases t1 with
  | some r=>rfl
  | none =>
   dsimp only
   congr 1;funext _
   congr 1
   funext u
   obtain⟨u1,u2⟩:=u
   cases u1<;>rfl
 ·funext c
  obtain⟨c1,c2⟩:=c
  cases c1<;>rfl
theorem GU(g:Nat):ny g=modify fun st=>SortSt.mk' (kindOf st) (arrOf st) (pendingOf st) g (failedOf st):=rfl
end TS
namespace TS
open PySem PyProof.Rows
section
variable{O:KeyOrd}{ky:Keyed->O.α}{M:Model}{A:Around}{E:Value->Shared->Prop}{s:Shared}{U:List Keyed}{kd:SortKind}
noncomputable def Lts(ky:Keyed->O.α)(M:Model)(A:Around)(E:Value->Shared->Prop)(s:Shared)(kd:SortKind)(U:List Keyed):Prop :=
 ∀x∈U,∀y∈U,∀(st:SortSt) (Q:Option Bool->SortSt->Prop),kindOf st=kd->Q (some (O.blt (ky x) (ky y))) st->wpS M A E s (lt' x y) Q st
noncomputable def cJ(st:SortSt)(g:Nat):SortSt:=SortSt.mk' (kindOf st) (arrOf st) (pendingOf st) g (failedOf st)
theorem aZ{xs:Array Keyed}{i:Nat}{st:SortSt}{Q:Keyed->SortSt->Prop}(hi:i<xs.size)(h:Q xs[i] st):wpS M A E s (elem' xs i) Q st:=by
 rw[elem'_eq,getElem?_pos xs i hi];exact Qt h
noncomputable def bM(ky:Keyed->O.α)(lf:Bool)(ke x:Keyed):Bool:=if lf then O.blt (ky x) (ky ke)else !O.blt (ky ke) (ky x)
theorem Bj{lf:Bool}{ke x y:Keyed}(h:O.kle (ky x) (ky y))(hy:bM ky lf ke y=true):bM ky lf ke x=true:=by
 cases lf with
 | true=>exact KeyOrd.klt_of_kle_of_klt h hy
 | false =>
  unfold bM at *
  simp only[Ry,SK,Sw]at *
  exact Q1 h hy
theorem Kg(hL:Lts ky M A E s kd U){lf:Bool}{ke:Keyed}{xs:Array Keyed}{b i:Nat}{st:SortSt}{Q:Option Bool->SortSt->Prop}(hk:kindOf st=kd)(hU:∀x∈xs.toList,x∈U)(hke:ke∈U)(hi:b+i<xs.size)
  (h:Q (some (bM ky lf ke xs[b+i])) st):wpS M A E s (ui lf ke xs b i) Q st:=by
 unfold ui
 refine Qn (aZ hi ?_)
 have hx:xs[b+i]∈U:=hU _ (Rw hi)
 unfold bM at h
 cases lf with
 | true =>
  rw[if_pos rfl]at h⊢
  exact hL _ hx _ hke st Q hk h
 | false =>
  rw[if_neg (by simp)]at h⊢
  exact Qn (hL _ hke _ hx st _ hk (Qt h))
theorem jA(hL:Lts ky M A E s kd U){lf:Bool}{ke:Keyed}{xs:Array Keyed}{b n hh:Nat}{st:SortSt}{Q:Option Nat->SortSt->Prop}(hk:kindOf st=kd)(hU:∀x∈xs.toList,x∈U)(hke:ke∈U)(hs:cY ky ((xs.toList.drop b).take n))(hz:b+n<=xs.size)(hn:hh<n)
  (h:∀k,k<=n->(∀x∈((xs.toList.drop b).take n).take k,bM ky lf ke x=true)->(∀x∈((xs.toList.drop b).take n).drop k,bM ky lf ke x=false)->Q (some k) st):wpS M A E s (gO lf ke xs b n hh) Q st:=by
 have ln:((xs.toList.drop b).take n).length=n:=by rw[QR,RA,Qs];omega
 have gt:∀i (hi:i<n),((xs.toList.drop b).take n)[i]'(by rw[ln];exact hi)=xs[b+i]'(by omega):=fun i hi=>by simp
 have hB:∀i (hi:i<n),bM ky lf ke (xs.getD (b+i) (.none,.none))=bM ky lf ke (xs[b+i]'(by omega)):=fun i hi=>by
  congr 1;exact Array.getElem_eq_getD _ |>.symm
 refine IQ (fun i=>bM ky lf ke (xs.getD (b+i) (.none,.none))) (fun i hi Q hQ=>Kg hL hk hU hke (by omega) (by rw[<- hB i hi];exact hQ)) (fun i j hij hj e=>?_) hn fun k hk2 h1 h2=>h k hk2 (fun x hx=>?_) fun x hx=>?_
 ·rw[hB j hj]at e
  rw[hB i (by omega)]
  rcases RK i j with z|z
  ·have:=List.pairwise_iff_getElem.mp hs i j (by rw[ln];omega) (by rw[ln];exact hj) z
   rw[gt i (by omega),gt j hj]at this
   exact Bj this e
  ·have:i=j:=by omega
   subst this;exact e
 ·obtain⟨i,hi,rfl⟩:=List.mem_iff_getElem.mp hx
  rw[QR,ln]at hi
  rw[List.getElem_take,gt i (by omega),<- hB i (by omega)]
  exact h1 i (by omega)
 ·obtain⟨i,hi,rfl⟩:=List.mem_iff_getElem.mp hx
  rw[RA,ln]at hi
  rw[List.getElem_drop,gt (k+i) (by omega),<- hB (k+i) (by omega)]
  exact h2 (k+i) (by omega) (by omega)
theorem oX{ke x:Keyed}(h:bM ky false ke x=true):O.kle (ky x) (ky ke):=by
 unfold bM at h
 simp only[Ry,SK,Sw]at h
 exact h
theorem oW{ke x:Keyed}(h:bM ky false ke x=false):O.kle (ky ke) (ky x):=by
 unfold bM at h
 simp only[Ry,SK,Bool.not_eq_false']at h
 exact RE h
theorem wO{ke x:Keyed}(h:bM ky true ke x=true):O.kle (ky x) (ky ke):=RE h
theorem kW{ke x:Keyed}(h:bM ky true ke x=false):O.kle (ky ke) (ky x):=h
theorem gY(a:Array Keyed)(i k:Nat):(a.extract i (i+k)).toList=(a.toList.drop i).take k:=by
 rw[Array.toList_extract];simp[List.extract_eq_take_drop]
theorem mn(a:Array Keyed)(i:Nat):(a.extract i a.size).toList=a.toList.drop i:=by
 rw[Array.toList_extract];simp[List.extract_eq_take_drop,RS]
theorem ia{a:Array Keyed}{i:Nat}(h:i<a.size):a.toList.drop i=a[i]::a.toList.drop (i+1):=by
 rw[RV (by simpa using h)];simp
theorem tY(a:Array Keyed)(i k:Nat):a.toList.drop i=(a.toList.drop i).take k++a.toList.drop (i+k):=by
 rw[<- Sb,Q0]
variable{T:List Keyed}{a b o:Array Keyed}{i j:Nat}
theorem jE(h:bU ky T o.toList (a.toList.drop i) (b.toList.drop j))(e:j=b.size\/i=a.size):d6 ky T (fY a b o i j).toList:=by
 have e1:(fY a b o i j).toList=o.toList++a.toList.drop i++b.toList.drop j:=by
  rw[Rj,Rj,mn,mn]
 rw[e1]
 rcases e with rfl|rfl
 ·have e2:b.toList.drop b.size=[]:=List.drop_eq_nil_of_le (by simp)
  rw[e2]at h⊢
  rw[QP]
  exact h.endA
 ·have e2:a.toList.drop a.size=[]:=List.drop_eq_nil_of_le (by simp)
  rw[e2]at h⊢
  rw[QP]
  exact h.endB
theorem mY(h:bU ky T o.toList (a.toList.drop i) (b.toList.drop j))(e:i+1=a.size)(hz:cD ky b.toList (a.toList.drop (a.size-1))):d6 ky T (nI a b o i j).toList:=by
 have e1:(nI a b o i j).toList=o.toList++b.toList.drop j++a.toList.drop i:=by
  rw[Rj,Rj,mn,mn]
 rw[e1]
 rw[show a.size-1=i by omega]at hz
 exact h.last fun x hx y hy=>hz x (Sl hx) y hy
theorem CJ(h:bU ky T o.toList (a.toList.drop i) (b.toList.drop j))(hi:i<a.size)(hx:cD ky [a[i]] (b.toList.drop j)):bU ky T (o.push a[i]).toList (a.toList.drop (i+1)) (b.toList.drop j):=by
 rw[Sy]
 rw[ia hi]at h
 exact bU.goA (X:=[a[i]]) h hx
theorem wQ(h:bU ky T o.toList (a.toList.drop i) (b.toList.drop j))(hj:j<b.size)(hx:cD ky [b[j]] (a.toList.drop i)):bU ky T (o.push b[j]).toList (a.toList.drop i) (b.toList.drop (j+1)):=by
 rw[Sy]
 rw[ia hj]at h
 exact bU.goB (X:=[b[j]]) h hx
theorem Pp(k:Nat)(h:bU ky T o.toList (a.toList.drop i) (b.toList.drop j))(hx:cD ky ((a.toList.drop i).take k) (b.toList.drop j)):bU ky T (o++a.extract i (i+k)).toList (a.toList.drop (i+k)) (b.toList.drop j):=by
 rw[Rj,gY]
 rw[tY a i k]at h
 exact bU.goA h hx
theorem Po(k:Nat)(h:bU ky T o.toList (a.toList.drop i) (b.toList.drop j))(hx:cD ky ((b.toList.drop j).take k) (a.toList.drop i)):bU ky T (o++b.extract j (j+k)).toList (a.toList.drop i) (b.toList.drop (j+k)):=by
 rw[Rj,gY]
 rw[tY b j k]at h
 exact bU.goB h hx
theorem rE{x y:Keyed}(hi:i<a.size)(hs:cY ky (a.toList.drop i))(hx:O.kle (ky x) (ky a[i]))(hy:y∈a.toList.drop i):O.kle (ky x) (ky y):=by
 rw[ia hi]at hs hy
 exact Q1 hx (yw hs _ (Qu.mpr rfl) y hy)
theorem mC(a:Array Keyed)(i:Nat):(a.toList.drop i).take (a.size-i)=a.toList.drop i:=RS (by rw[RA,Qs];exact Ql _)
theorem gC(h:i<a.size):a[i]∈a.toList:=Rw h
theorem Lx(hL:Lts ky M A E s kd U){ke:Keyed}{st:SortSt}{Q:Option Nat->SortSt->Prop}(hk:kindOf st=kd)(hU:∀x∈a.toList,x∈U)(hke:ke∈U)(hs:cY ky (a.toList.drop i))(hi:i<a.size)
  (h:∀k,i+k<=a.size->cD ky ((a.toList.drop i).take k) [ke]->cD ky [ke] (a.toList.drop (i+k))->Q (some k) st):wpS M A E s (gO false ke a i (a.size-i) 0) Q st:=by
 refine jA hL hk hU hke (by rw[mC];exact hs) (by omega) (by omega) fun k hk2 h1 h2=>?_
 rw[mC]at h1 h2
 rw[Sb]at h2
 exact h k (by omega) (fun x hx y hy=>by rw[Qu]at hy;subst hy;exact oX (h1 x hx)) fun x hx y hy=>by rw[Qu]at hx;subst hx;exact oW (h2 y hy)
theorem Ly(hL:Lts ky M A E s kd U){ke:Keyed}{st:SortSt}{Q:Option Nat->SortSt->Prop}(hk:kindOf st=kd)(hU:∀x∈a.toList,x∈U)(hke:ke∈U)(hs:cY ky (a.toList.drop i))(hi:i<a.size)
  (h:∀k,i+k<=a.size->cD ky ((a.toList.drop i).take k) [ke]->cD ky [ke] (a.toList.drop (i+k))->Q (some k) st):wpS M A E s (gO true ke a i (a.size-i) 0) Q st:=by
 refine jA hL hk hU hke (by rw[mC];exact hs) (by omega) (by omega) fun k hk2 h1 h2=>?_
 rw[mC]at h1 h2
 rw[Sb]at h2
 exact h k (by omega) (fun x hx y hy=>by rw[Qu]at hy;subst hy;exact wO (h1 x hx)) fun x hx y hy=>by rw[Qu]at hx;subst hx;exact kW (h2 y hy)
structure At(ky:Keyed->O.α)(T:List Keyed)(a b o:Array Keyed)(i j:Nat):Prop where
 m:bU ky T o.toList (a.toList.drop i) (b.toList.drop j)
 hi:i+1<a.size
 hj:j<b.size
structure nO(ky:Keyed->O.α)(M:Model)(A:Around)(E:Value->Shared->Prop)(s:Shared)(kd:SortKind)(U:List Keyed)(a b:Array Keyed)(st:SortSt):Prop where
 lt:Lts ky M A E s kd U
 ua:∀x∈a.toList,x∈U
 ub:∀x∈b.toList,x∈U
 hz:cD ky b.toList (a.toList.drop (a.size-1))
 kd:kindOf st=kd
noncomputable abbrev qD(ky:Keyed->O.α)(T:List Keyed)(a b:Array Keyed)(n0:Nat)(r:Option (Array Keyed))(o:Array Keyed)(i j:Nat):Prop :=
 match r with
 | some r=>d6 ky T r.toList
 | none=>At ky T a b o i j/\n0<i+j
theorem zV{st:SortSt}(W:nO ky M A E s kd U a b st){g c d n0:Nat}{Q:ForInStep L2->SortSt->Prop}(h:At ky T a b o i j)(hn:n0<i+j)(hx:cD ky [a[i]'(by have:=h.hi;omega)] (b.toList.drop j))
  (q1:∀r o i j,qD ky T a b n0 r o i j->Q (.done (r,o,i,j,g,c,d)) st) (q2:∀o i j,At ky T a b o i j->n0<i+j->Q (.yield (none,o,i,j,g,c,d)) st):wpS M A E s (Dk a b o i j g c d) Q st:=by
 obtain⟨m,hi,hj⟩:=h
 unfold Dk
 refine Qn (aZ (by omega) ?_)
 have m2:=CJ m (by omega) hx
 by_cases e:i+1+1=a.size
 ·rw[if_pos (by simpa using e)]
  exact Qt (q1 _ _ _ _ (mY m2 e W.hz))
 ·rw[if_neg (by simpa using e)]
  split
  ·exact Qt (q1 _ _ _ _ ⟨⟨m2,by omega,hj⟩,by omega⟩)
  ·exact Qt (q2 _ _ _ ⟨m2,by omega,hj⟩ (by omega))
theorem zg{st:SortSt}(W:nO ky M A E s kd U a b st){g c d n0:Nat}{Q:ForInStep L2->SortSt->Prop}(h:At ky T a b o i j)(hn:n0<i+j)(hx:cD ky [b[j]'h.hj] (a.toList.drop i))
  (q1:∀r o i j c d,qD ky T a b n0 r o i j->Q (.done (r,o,i,j,g,c,d)) st) (q2:∀o i j c d,At ky T a b o i j->n0<i+j->Q (.yield (none,o,i,j,g,c,d)) st):wpS M A E s (CY a b o i j g c d) Q st:=by
 obtain⟨m,hi,hj⟩:=h
 unfold CY
 refine Qn (aZ hj ?_)
 have m2:=wQ m hj hx
 by_cases e:j+1=b.size
 ·rw[if_pos (by simpa using e)]
  exact Qt (q1 _ _ _ _ _ _ (jE m2 (.inl e)))
 ·rw[if_neg (by simpa using e)]
  refine Qn (aZ (by omega) ?_)
  refine Qn (Ly W.lt W.kd W.ub (W.ua _ (gC (by omega))) m2.sb (by omega) fun k hk h1 h2=>?_)
  dsimp only
  by_cases k0:k>0
  ·rw[if_pos k0]
   have m3:=Po k m2 fun x hx y hy=>rE (by omega) m2.sa (h1 x hx _ (Qu.mpr rfl)) hy
   by_cases e2:j+1+k=b.size
   ·rw[if_pos (by simpa using e2)]
    exact Qt (q1 _ _ _ _ _ _ (jE m3 (.inl e2)))
   ·rw[if_neg (by simpa using e2)]
    exact zV W ⟨m3,hi,by omega⟩ (by omega) h2 (fun _ _ _ _ z=>q1 _ _ _ _ _ _ z) fun _ _ _ z z2=>q2 _ _ _ _ _ z z2
  ·rw[if_neg k0]
   have:k=0:=by omega
   subst this
   exact zV W ⟨m2,hi,by omega⟩ (by omega) h2 (fun _ _ _ _ z=>q1 _ _ _ _ _ _ z) fun _ _ _ z z2=>q2 _ _ _ _ _ z z2
theorem ml{st:SortSt}{g:Nat}{Q:Unit->SortSt->Prop}(h:Q () (cJ st g)):wpS M A E s (ny g) Q st:=by
 rw[GU];exact wpS_modify h
theorem nO.set{st:SortSt}(W:nO ky M A E s kd U a b st)(g:Nat):nO ky M A E s kd U a b (cJ st g):=⟨W.lt,W.ua,W.ub,W.hz,W.kd⟩
theorem yk{st:SortSt}(W:nO ky M A E s kd U a b st){g c d n0:Nat}{Q:ForInStep L2->SortSt->Prop}(h:At ky T a b o i j)(hn:n0<i+j)
  (q1:∀r o i j c d,qD ky T a b n0 r o i j->Q (.done (r,o,i,j,g,c,d)) (cJ st g)) (q2:∀o i j c d,At ky T a b o i j->n0<i+j->Q (.yield (none,o,i,j,g,c,d)) (cJ st g)):wpS M A E s (Cv a b o i j g c d) Q st:=by
 obtain⟨m,hi,hj⟩:=h
 unfold Cv
 refine Qn (ml ?_)
 have W:=W.set g
 refine Qn (aZ hj ?_)
 refine Qn (Lx W.lt W.kd W.ua (W.ub _ (gC (by omega))) m.sa (by omega) fun k hk h1 h2=>?_)
 dsimp only
 by_cases k0:k>0
 ·rw[if_pos k0]
  have m2:=Pp k m fun x hx y hy=>rE hj m.sb (h1 x hx _ (Qu.mpr rfl)) hy
  by_cases e:i+k+1=a.size
  ·rw[if_pos (by simpa using e)]
   exact Qt (q1 _ _ _ _ _ _ (mY m2 e W.hz))
  ·rw[if_neg (by simpa using e)]
   by_cases e2:i+k=a.size
   ·rw[if_pos (by simpa using e2)]
    exact Qt (q1 _ _ _ _ _ _ (jE m2 (.inr e2)))
   ·rw[if_neg (by simpa using e2)]
    exact zg W ⟨m2,by omega,hj⟩ (by omega) h2 q1 q2
 ·rw[if_neg k0]
  have:k=0:=by omega
  subst this
  exact zg W ⟨m,hi,hj⟩ hn h2 q1 q2
theorem GN{st:SortSt}(W:nO ky M A E s kd U a b st){g c d n0:Nat}{Q:ForInStep L1->SortSt->Prop}(h:At ky T a b o i j)(hn:n0<=i+j)
  (q1:∀r o i j c d,qD ky T a b n0 r o i j->Q (.done (r,o,i,j,c,d)) st) (q2:∀o i j c d,At ky T a b o i j->n0<i+j->Q (.yield (none,o,i,j,c,d)) st):wpS M A E s (GO a b g (none,o,i,j,c,d)) Q st:=by
 obtain⟨m,hi,hj⟩:=h
 unfold GO
 dsimp only
 refine Qn (aZ hj (Qn (aZ (by omega) ?_)))
 refine Qn (W.lt _ (W.ub _ (gC hj)) _ (W.ua _ (gC (by omega))) st _ W.kd ?_)
 cases e:O.blt (ky b[j]) (ky a[i])with
 | true =>
  dsimp only
  rw[if_pos rfl]
  refine Qn (aZ hj ?_)
  have m2:=wQ m hj fun x hx y hy=>by
   rw[Qu]at hx;subst hx
   exact rE (by omega) m.sa (RE e) hy
  by_cases e2:j+1=b.size
  ·rw[if_pos (by simpa using e2)]
   exact Qt (q1 _ _ _ _ _ _ (jE m2 (.inl e2)))
  ·rw[if_neg (by simpa using e2)]
   split
   ·exact Qt (q1 _ _ _ _ _ _ ⟨⟨m2,hi,by omega⟩,by omega⟩)
   ·exact Qt (q2 _ _ _ _ _ ⟨m2,hi,by omega⟩ (by omega))
 | false =>
  dsimp only
  rw[if_neg (by simp)]
  refine Qn (aZ (by omega) ?_)
  have m2:=CJ m (by omega) fun x hx y hy=>by
   rw[Qu]at hx;subst hx
   exact rE hj m.sb e hy
  by_cases e2:i+1+1=a.size
  ·rw[if_pos (by simpa using e2)]
   exact Qt (q1 _ _ _ _ _ _ (mY m2 e2 W.hz))
  ·rw[if_neg (by simpa using e2)]
   split
   ·exact Qt (q1 _ _ _ _ _ _ ⟨⟨m2,by omega,hj⟩,by omega⟩)
   ·exact Qt (q2 _ _ _ _ _ ⟨m2,by omega,hj⟩ (by omega))
theorem HD{st:SortSt}(W:nO ky M A E s kd U a b st){g:Nat}{Q:ForInStep L0->SortSt->Prop}(h:At ky T a b o i j)
  (q1:∀r o' i' j' g' g2,d6 ky T r.toList->Q (.done (some r,o',i',j',g')) (cJ st g2)) (q2:∀o' i' j' g',At ky T a b o' i' j'->i+j<i'+j'->Q (.yield (none,o',i',j',g')) (cJ st g')):wpS M A E s (CN a b (none,o,i,j,g)) Q st:=by
 unfold CN
 dsimp only
 have tot:0<a.size+b.size:=by have:=h.hi;omega
 refine Qn (RY (Ra (I:=fun x c st'=>st'=st/\∃o' i' j' p q,c=((none,o',i',j',p,q):L1)/\At ky T a b o' i' j'/\i+j+x<=i'+j')
  (Q:=fun c st'=>st'=st/\qD ky T a b (i+j) c.1 c.2.1 c.2.2.1 c.2.2.2.1) ?_ ?_ ⟨rfl,o,i,j,0,0,rfl,h,by omega⟩) ?_)
 ·rintro x c st' _ hx ⟨rfl,o',i',j',p,q,rfl,h',hn⟩
  exact GN W (n0:=i+j+x) h' hn (fun r o i j c d z=>⟨rfl,by
   cases r with
   | some r=>exact z
   | none=>exact⟨z.1,Rg (Nat.le_add_right _ _) z.2⟩⟩) fun o i j c d z z2=>⟨rfl,_,_,_,_,_,rfl,z,by omega⟩
 ·rintro c st' ⟨rfl,o',i',j',p,q,rfl,h',hn⟩
  exact⟨rfl,h',show i+j<i'+j' by omega⟩
 ·rintro⟨r,o',i',j',p,q⟩ st' ⟨rfl,h'⟩
  cases r with
  | some r=>exact Qt (q1 r _ _ _ _ (gallopOf st') h')
  | none =>
   dsimp only
   refine Qn (wpS_lift (wpAny_rule ⟨rfl,?_⟩))
   refine Qn (RY (Ra (I:=fun x c st2=>(∃g2,st2=cJ st' g2)/\∃o' i' j' g' p q,c=((none,o',i',j',g',p,q):L2)/\At ky T a b o' i' j'/\i+j<i'+j')
    (Q:=fun c st2=>(∃g2,st2=cJ st' g2)/\qD ky T a b (i+j) c.1 c.2.1 c.2.2.1 c.2.2.2.1) ?_ ?_ ⟨⟨gallopOf st',rfl⟩,o',i',j',_,p,q,rfl,h'.1,h'.2⟩) ?_)
   ·rintro x c st2 _ hx ⟨⟨g2,rfl⟩,o',i',j',g',p,q,rfl,h',hn⟩
    unfold dl
    dsimp only
    split
    ·exact yk (W.set g2) h' hn (fun r o i j c d z=>⟨⟨_,rfl⟩,z⟩) fun o i j c d z z2=>⟨⟨_,rfl⟩,_,_,_,_,_,_,rfl,z,z2⟩
    ·exact yk (W.set g2) h' hn (fun r o i j c d z=>⟨⟨_,rfl⟩,z⟩) fun o i j c d z z2=>⟨⟨_,rfl⟩,_,_,_,_,_,_,rfl,z,z2⟩
   ·rintro c st2 ⟨hg,o',i',j',g',p,q,rfl,h',hn⟩
    exact⟨hg,h',hn⟩
   ·rintro⟨r,o',i',j',g',p,q⟩ st2 ⟨⟨g2,rfl⟩,h'⟩
    cases r with
    | some r=>exact Qt (q1 r _ _ _ _ g2 h')
    | none=>exact Qn (ml (Qt (q2 _ _ _ _ h'.1 h'.2)))
theorem HY{st:SortSt}(W:nO ky M A E s kd U a b st){Q:Array Keyed->SortSt->Prop}(sa:cY ky a.toList)(sb:cY ky b.toList)(na:1<=a.size)(nb:1<=b.size)(h1:cD ky [b[0]] a.toList)
  (h:∀r g,d6 ky (a.toList++b.toList) r.toList->Q r (cJ st g)):wpS M A E s (CW a b) Q st:=by
 rw[HZ]
 refine Qn (wpS_lift (wpAny_rule ⟨rfl,?_⟩))
 refine Qn (aZ (by omega) ?_)
 have m0:bU ky (a.toList++b.toList) (#[]:Array Keyed).toList (a.toList.drop 0) (b.toList.drop 0):=⟨by simp,List.Pairwise.nil,sa,sb,fun x hx=>(by cases hx),fun x hx=>(by cases hx)⟩
 have m1:=wQ m0 (by omega) h1
 rw[show(#[]:Array Keyed).push b[0] = #[b[0]]from rfl]at m1
 by_cases e:1=b.size
 ·rw[if_pos (by simpa using e)]
  exact Qt (h _ (gallopOf st) (jE m1 (.inl e)))
 ·rw[if_neg (by simpa using e)]
  by_cases e2:0+1=a.size
  ·rw[if_pos (by simpa using e2)]
   exact Qt (h _ (gallopOf st) (mY m1 e2 W.hz))
  ·rw[if_neg (by simpa using e2)]
   refine Qn (wpS_get ?_)
   refine Qn (RY (Ra (I:=fun x c st'=>(∃g2,st'=cJ st g2)/\∃o' i' j' g',c=((none,o',i',j',g'):L0)/\At ky (a.toList++b.toList) a b o' i' j'/\x<i'+j')
    (Q:=fun c st'=>(∃g2,st'=cJ st g2)/\∃r,c.1=some r/\d6 ky (a.toList++b.toList) r.toList) ?_ ?_ ⟨⟨gallopOf st,rfl⟩,_,_,_,_,rfl,⟨m1,by omega,by omega⟩,by omega⟩) ?_)
   ·rintro x c st' _ hx ⟨⟨g2,rfl⟩,o',i',j',g',rfl,h',hn⟩
    exact HD (W.set g2) h' (fun r _ _ _ _ _ z=>⟨⟨_,rfl⟩,r,rfl,z⟩) fun _ _ _ _ z z2=>⟨⟨_,rfl⟩,_,_,_,_,rfl,z,by omega⟩
   ·rintro c st' ⟨hg,o',i',j',g',rfl,h',hn⟩
    have:=h'.hi
    have:=h'.hj
    omega
   ·rintro⟨r,c2⟩ st' ⟨⟨g2,rfl⟩,r',e3,hr⟩
    cases (show r=some r' from e3)
    exact Qt (h r' g2 hr)
end
end TS
namespace TS
open PySem PyProof.Rows
noncomputable def CZ:Array Keyed->Array Keyed->SM (Array Keyed):=sortPriv% PySem.Builtin.mergeHi
noncomputable abbrev fX(a b o:Array Keyed)(m n:Nat):Array Keyed:=a.extract 0 m++b.extract 0 n++o.reverse
noncomputable abbrev nJ(a b o:Array Keyed)(m n:Nat):Array Keyed:=b.extract 0 n++a.extract 0 m++o.reverse
theorem Fj(a b:Array Keyed):CZ a b=(do
 rule "list.sort.merge-hi"
 let mut m:=a.size-1
 let mut n:=b.size
 let mut o:Array Keyed:=#[<- elem' a m]
 if m==0 then return fX a b o m n
 if n==1 then return nJ a b o m n
 let mut g:=gallopOf (<- get)
 for _ in [0:a.size+b.size] do
  let mut c:=0
  let mut d:=0
  for _ in [0:a.size+b.size] do
   let some aw <- lt' (<- elem' b (n-1)) (<- elem' a (m-1))|return fX a b o m n
   if aw then
    m:=m-1;o:=o.push (<- elem' a m);c:=c+1;d:=0
    if m==0 then return fX a b o m n
    if c >= g then break
   else
    n:=n-1;o:=o.push (<- elem' b n);d:=d+1;c:=0
    if n==1 then return nJ a b o m n
    if d >= g then break
  rule "list.sort.gallop"
  g:=g+1
  for _ in [0:a.size+b.size] do
   if g>1 then g:=g-1
   ny g
   let some p <- gO false (<- elem' b (n-1)) a 0 m (m-1)|return fX a b o m n
   let k:=m-p
   c:=k
   if k>0 then
    o:=o++(a.extract p m).reverse;m:=p
    if m==0 then return fX a b o m n
   n:=n-1;o:=o.push (<- elem' b n)
   if n==1 then return nJ a b o m n
   let some p <- gO true (<- elem' a (m-1)) b 0 n (n-1)|return fX a b o m n
   let k:=n-p
   d:=k
   if k>0 then
    o:=o++(b.extract p n).reverse;n:=p
    if n==1 then return nJ a b o m n
    if n==0 then return fX a b o m n
   m:=m-1;o:=o.push (<- elem' a m)
   if m==0 then return fX a b o m n
   if c<7&&d<7 then break
  g:=g+1
  ny g
 unsupported "internal:list.sort.merge-bound"):=rfl
noncomputable abbrev H1:=Option (Array Keyed)×Nat×Nat×Array Keyed×Nat×Nat
noncomputable abbrev H2:=Option (Array Keyed)×Nat×Nat×Array Keyed×Nat×Nat×Nat
noncomputable abbrev H0:=Option (Array Keyed)×Nat×Nat×Array Keyed×Nat
noncomputable def IP(a b:Array Keyed)(g:Nat)(t:H1):SM (ForInStep H1):=do
 let y <- elem' b (t.2.2.1-1)
 let z <- elem' a (t.2.1-1)
 let x <- lt' y z
 match x with
 | some aw =>
  if aw=true then do
   let y <- elem' a (t.2.1-1)
   if (t.2.1-1==0)=true then pure (.done (some (fX a b (t.2.2.2.1.push y) (t.2.1-1) t.2.2.1),t.2.1-1,t.2.2.1,t.2.2.2.1.push y,t.2.2.2.2.1+1,0))
   else if t.2.2.2.2.1+1 >= g then pure (.done (none,t.2.1-1,t.2.2.1,t.2.2.2.1.push y,t.2.2.2.2.1+1,0))
   else pure (.yield (none,t.2.1-1,t.2.2.1,t.2.2.2.1.push y,t.2.2.2.2.1+1,0))
  else do
   let y <- elem' b (t.2.2.1-1)
   if (t.2.2.1-1==1)=true then pure (.done (some (nJ a b (t.2.2.2.1.push y) t.2.1 (t.2.2.1-1)),t.2.1,t.2.2.1-1,t.2.2.2.1.push y,0,t.2.2.2.2.2+1))
   else if t.2.2.2.2.2+1 >= g then pure (.done (none,t.2.1,t.2.2.1-1,t.2.2.2.1.push y,0,t.2.2.2.2.2+1))
   else pure (.yield (none,t.2.1,t.2.2.1-1,t.2.2.2.1.push y,0,t.2.2.2.2.2+1))
 | _=>pure (.done (some (fX a b t.2.2.2.1 t.2.1 t.2.2.1),t.2.1,t.2.2.1,t.2.2.2.1,t.2.2.2.2.1,t.2.2.2.2.2))
noncomputable def Df(a b:Array Keyed)(m n:Nat)(o:Array Keyed)(g c d:Nat):SM (ForInStep H2):=do
 let y <- elem' a (m-1)
 if (m-1==0)=true then pure (.done (some (fX a b (o.push y) (m-1) n),m-1,n,o.push y,g,c,d))
 else if (decide (c<7)&&decide (d<7))=true then pure (.done (none,m-1,n,o.push y,g,c,d))
 else pure (.yield (none,m-1,n,o.push y,g,c,d))
noncomputable def De(a b:Array Keyed)(m n:Nat)(o:Array Keyed)(g c d:Nat):SM (ForInStep H2):=do
 let y <- elem' b (n-1)
 if (n-1==1)=true then pure (.done (some (nJ a b (o.push y) m (n-1)),m,n-1,o.push y,g,c,d))
 else do
  let z <- elem' a (m-1)
  let x <- gO true z b 0 (n-1) (n-1-1)
  match x with
  | some p =>
   if n-1-p>0 then
    if (p==1)=true then pure (.done (some (nJ a b (o.push y++(b.extract p (n-1)).reverse) m p),m,p,o.push y++(b.extract p (n-1)).reverse,g,c,n-1-p))
    else if (p==0)=true then pure (.done (some (fX a b (o.push y++(b.extract p (n-1)).reverse) m p),m,p,o.push y++(b.extract p (n-1)).reverse,g,c,n-1-p))
    else Df a b m p (o.push y++(b.extract p (n-1)).reverse) g c (n-1-p)
   else Df a b m (n-1) (o.push y) g c (n-1-p)
  | _=>pure (.done (some (fX a b (o.push y) m (n-1)),m,n-1,o.push y,g,c,d))
noncomputable def Db(a b:Array Keyed)(m n:Nat)(o:Array Keyed)(g c d:Nat):SM (ForInStep H2):=do
 ny g
 let y <- elem' b (n-1)
 let x <- gO false y a 0 m (m-1)
 match x with
 | some p =>
  if m-p>0 then
   if (p==0)=true then pure (.done (some (fX a b (o++(a.extract p m).reverse) p n),p,n,o++(a.extract p m).reverse,g,m-p,d))
   else De a b p n (o++(a.extract p m).reverse) g (m-p) d
  else De a b m n o g (m-p) d
 | _=>pure (.done (some (fX a b o m n),m,n,o,g,c,d))
noncomputable def IM(a b:Array Keyed)(t:H2):SM (ForInStep H2) :=
 if t.2.2.2.2.1>1 then Db a b t.2.1 t.2.2.1 t.2.2.2.1 (t.2.2.2.2.1-1) t.2.2.2.2.2.1 t.2.2.2.2.2.2
 else Db a b t.2.1 t.2.2.1 t.2.2.2.1 t.2.2.2.2.1 t.2.2.2.2.2.1 t.2.2.2.2.2.2
noncomputable def Dd(a b:Array Keyed)(c:H0):SM (ForInStep H0):=do
 let t <- forIn [0:a.size+b.size] ((none,c.2.1,c.2.2.1,c.2.2.2.1,0,0):H1) fun _ t=>IP a b c.2.2.2.2 t
 match t.1 with
 | some r=>pure (.done (some r,t.2.1,t.2.2.1,t.2.2.2.1,c.2.2.2.2))
 | none=>do
  liftM (rule "list.sort.gallop")
  let u <- forIn [0:a.size+b.size] ((none,t.2.1,t.2.2.1,t.2.2.2.1,c.2.2.2.2+1,t.2.2.2.2.1,t.2.2.2.2.2):H2) fun _ u=>IM a b u
  match u.1 with
  | some r=>pure (.done (some r,u.2.1,u.2.2.1,u.2.2.2.1,u.2.2.2.2.1))
  | none=>do
   ny (u.2.2.2.2.1+1)
   pure (.yield (none,u.2.1,u.2.2.1,u.2.2.2.1,u.2.2.2.2.1+1))
theorem Ib(a b:Array Keyed):CZ a b=(do
  liftM (rule "list.sort.merge-hi")
  let y <- elem' a (a.size-1)
  if (a.size-1==0)=true then pure (fX a b #[y] (a.size-1) b.size)
  else if (b.size==1)=true then pure (nJ a b #[y] (a.size-1) b.size)
  else do
   let st <- get
   let c <- forIn [0:a.size+b.size] ((none,a.size-1,b.size,#[y],gallopOf st):H0) fun _ c=>Dd a b c
   match c.1 with
   | some r=>pure r
   | none=>liftM (unsupported "internal:list.sort.merge-bound" : Sem (Array Keyed))):=by
 rw[Fj]
 unfold Dd IM
 dsimp only
 congr 1;funext _;congr 1;funext y
 refine SH rfl (fun _=>rfl) fun _=>SH rfl (fun _=>rfl) fun _=>?_
 congr 1;funext st
 congr 1
 ·congr 1
  funext _ c
  congr 1
  funext t
  obtain⟨t1,t2⟩:=t
  cases t1 with
  | some r=>rfl
  | none =>
   dsimp only
   congr 1;funext _
   congr 1
   funext u
   obtain⟨u1,u2⟩:=u
   cases u1<;>rfl
 ·funext c
  obtain⟨c1,c2⟩:=c
  cases c1<;>rfl
noncomputable def oA(O:KeyOrd):KeyOrd:=⟨O.α,fun x y=>O.blt y x,O.irrefl,fun a b c h1 h2=>O.trans c b a h2 h1,fun a b c h=>(O.negTrans c b a h).symm,fun a b h1 h2=>(O.total b a h1 h2).symm⟩
section
variable{O:KeyOrd}{ky:Keyed->O.α}{M:Model}{A:Around}{E:Value->Shared->Prop}{s:Shared}{U:List Keyed}{kd:SortKind}
noncomputable abbrev vU(ky:Keyed->O.α):Keyed->(oA O).α:=ky
theorem nX{l:List Keyed}:cY (O:=oA O) (vU ky) l↔cY ky l.reverse:=by
 unfold cY
 rw[List.pairwise_reverse];rfl
theorem iI{l m:List Keyed}:cD (O:=oA O) (vU ky) l m↔cD ky m l:=⟨fun h x hx y hy=>h y hy x hx,fun h x hx y hy=>h y hy x hx⟩
noncomputable abbrev fu(ky:Keyed->O.α)(T:List Keyed)(a b o:Array Keyed)(m n:Nat):Prop:=bU (O:=oA O) (vU ky) T o.toList (a.toList.take m).reverse (b.toList.take n).reverse
variable{T:List Keyed}{a b o:Array Keyed}{m n:Nat}
theorem tR{l:List Keyed}(h:d6 (O:=oA O) (vU ky) T l):d6 ky T l.reverse:=⟨(Sz l).trans h.1,nX.mp h.2⟩
theorem vg(a:Array Keyed)(m:Nat):(a.extract 0 m).toList=a.toList.take m:=by
 rw[Array.toList_extract];simp[List.extract_eq_take_drop]
theorem jD(h:fu ky T a b o m n)(e:m=0\/n=0):d6 ky T (fX a b o m n).toList:=by
 have e1:(fX a b o m n).toList=(o.toList++(b.toList.take n).reverse++(a.toList.take m).reverse).reverse:=by
  simp only[Rj,vg,Sm,List.reverse_append,List.reverse_reverse,QQ]
 rw[e1]
 refine tR ?_
 rcases e with rfl|rfl
 ·rw[List.take_zero,List.reverse_nil,QP]
  exact bU.endB (show bU (O:=oA O) (vU ky) T o.toList [] _ from h)
 ·rw[List.take_zero,List.reverse_nil,QP]
  exact bU.endA (show bU (O:=oA O) (vU ky) T o.toList _ []from h)
theorem mZ(h:fu ky T a b o m n)(e:n=1)(hb:1<=b.size)(hz:cD ky [b[0]] a.toList):d6 ky T (nJ a b o m n).toList:=by
 have e1:(nJ a b o m n).toList=(o.toList++(a.toList.take m).reverse++(b.toList.take n).reverse).reverse:=by
  simp only[Rj,vg,Sm,List.reverse_append,List.reverse_reverse,QQ]
 rw[e1]
 refine tR ?_
 subst e
 refine bU.endB (bU.goA (A:=[]) (by rw[QP];exact h) (iI.mpr fun x hx y hy=>?_))
 have:b.toList.take 1=[b[0]]:=by
  rw[List.take_one,List.head?_eq_getElem?];simp[hb]
 rw[this]at hx
 exact hz x (by simpa using hx) y (RZ (QW.mp hy))
theorem vk(h1:1<=m)(h2:m<=a.size):(a.toList.take m).reverse=a[m-1]::(a.toList.take (m-1)).reverse:=by
 obtain⟨k,rfl⟩:∃k,m=k+1:=⟨m-1,by omega⟩
 rw[SG,QE (by rw[Qs];omega)]
 simp
theorem rT{p:Nat}(hp:p<=m):(a.toList.take m).reverse=(a.extract p m).reverse.toList++(a.toList.take p).reverse:=by
 rw[Sm,<- List.reverse_append]
 congr 1
 obtain⟨k,rfl⟩:∃k,m=p+k:=⟨m-p,by omega⟩
 rw[gY,List.take_add]
theorem sD(h:fu ky T a b o m n)(h1:1<=m)(h2:m<=a.size)(hx:cD ky (b.toList.take n) [a[m-1]]):fu ky T a b (o.push a[m-1]) (m-1) n:=by
 unfold fu
 rw[Sy]
 unfold fu at h
 rw[vk h1 h2]at h
 exact bU.goA (X:=[a[m-1]]) h (iI.mpr fun x hx' y hy=>hx x (QW.mp hx') y hy)
theorem yQ(h:fu ky T a b o m n)(h1:1<=n)(h2:n<=b.size)(hx:cD ky (a.toList.take m) [b[n-1]]):fu ky T a b (o.push b[n-1]) m (n-1):=by
 unfold fu
 rw[Sy]
 unfold fu at h
 rw[vk h1 h2]at h
 exact bU.goB (X:=[b[n-1]]) h (iI.mpr fun x hx' y hy=>hx x (QW.mp hx') y hy)
theorem LT{p:Nat}(h:fu ky T a b o m n)(hp:p<=m)(hx:cD ky (b.toList.take n) (a.extract p m).toList):fu ky T a b (o++(a.extract p m).reverse) p n:=by
 unfold fu
 rw[Rj]
 unfold fu at h
 rw[rT hp]at h
 exact bU.goA h (iI.mpr fun x hx' y hy=>hx x (QW.mp hx') y (by rw[Sm]at hy;exact QW.mp hy))
theorem LS{p:Nat}(h:fu ky T a b o m n)(hp:p<=n)(hx:cD ky (a.toList.take m) (b.extract p n).toList):fu ky T a b (o++(b.extract p n).reverse) m p:=by
 unfold fu
 rw[Rj]
 unfold fu at h
 rw[rT hp]at h
 exact bU.goB h (iI.mpr fun x hx' y hy=>hx x (QW.mp hx') y (by rw[Sm]at hy;exact QW.mp hy))
theorem A7(h:cY ky a.toList):cY ky (a.toList.take m):=List.Pairwise.sublist (List.take_sublist _ _) h
theorem mM{x y:Keyed}(hs:cY ky a.toList)(h1:1<=m)(h2:m<=a.size)(hx:x∈a.toList.take m)(hy:O.kle (ky a[m-1]) (ky y)):O.kle (ky x) (ky y):=by
 refine Q1 ?_ hy
 obtain⟨i,hi,rfl⟩:=List.mem_iff_getElem.mp hx
 rw[QR,Qs]at hi
 rw[List.getElem_take]
 rcases RK i (m-1)with z|z
 ·have:=List.pairwise_iff_getElem.mp hs i (m-1) (by rw[Qs];omega) (by rw[Qs];omega) z
  simpa using this
 ·have:i=m-1:=by omega
  subst this
  rw[R0];exact RH _
theorem Dg(hL:Lts ky M A E s kd U){lf:Bool}{ke:Keyed}{st:SortSt}{Q:Option Nat->SortSt->Prop}(hk:kindOf st=kd)(hU:∀x∈a.toList,x∈U)(hke:ke∈U)(hs:cY ky a.toList)(h1:1<=m)(h2:m<=a.size)
  (h:∀p,p<=m->cD ky (a.toList.take p) [ke]->cD ky [ke] (a.extract p m).toList->Q (some p) st):wpS M A E s (gO lf ke a 0 m (m-1)) Q st:=by
 refine jA hL hk hU hke (by rw[List.drop_zero];exact A7 hs) (by omega) (by omega) fun k hk2 g1 g2=>?_
 rw[List.drop_zero]at g1 g2
 refine h k hk2 (fun x hx y hy=>?_) fun x hx y hy=>?_
 ·rw[Qu]at hy;subst hy
  have:=g1 x (by rw[List.take_take,Su hk2];exact hx)
  cases lf with
  | true=>exact wO this
  | false=>exact oX this
 ·rw[Qu]at hx;subst hx
  have e:(a.extract k m).toList=(a.toList.take m).drop k:=by
   obtain⟨q,rfl⟩:∃q,m=k+q:=⟨m-k,by omega⟩
   rw[gY,List.drop_take]
   congr 1;omega
  rw[e]at hy
  have:=g2 y hy
  cases lf with
  | true=>exact kW this
  | false=>exact oW this
structure iX(ky:Keyed->O.α)(T:List Keyed)(a b o:Array Keyed)(m n:Nat):Prop where
 r:fu ky T a b o m n
 m1:1<=m
 m2:m<=a.size
 n1:2<=n
 n2:n<=b.size
structure i8(ky:Keyed->O.α)(M:Model)(A:Around)(E:Value->Shared->Prop)(s:Shared)(kd:SortKind)(U:List Keyed)(a b:Array Keyed)(st:SortSt):Prop where
 lt:Lts ky M A E s kd U
 ua:∀x∈a.toList,x∈U
 ub:∀x∈b.toList,x∈U
 nb:1<=b.size
 hz:cD ky [b[0]] a.toList
 sa:cY ky a.toList
 sb:cY ky b.toList
 kd:kindOf st=kd
theorem i8.set{st:SortSt}(W:i8 ky M A E s kd U a b st)(g:Nat):i8 ky M A E s kd U a b (cJ st g):=⟨W.lt,W.ua,W.ub,W.nb,W.hz,W.sa,W.sb,W.kd⟩
noncomputable abbrev qC(ky:Keyed->O.α)(T:List Keyed)(a b:Array Keyed)(n0:Nat)(r:Option (Array Keyed))(o:Array Keyed)(m n:Nat):Prop :=
 match r with
 | some r=>d6 ky T r.toList
 | none=>iX ky T a b o m n/\m+n<n0
theorem zJ{st:SortSt}(W:i8 ky M A E s kd U a b st){g c d n0:Nat}{Q:ForInStep H2->SortSt->Prop}(h:iX ky T a b o m n)(hn:m+n<n0)(hx:cD ky (b.toList.take n) [a[m-1]'(by have:=h.m1;have:=h.m2;omega)])
  (q1:∀r o m n,qC ky T a b n0 r o m n->Q (.done (r,m,n,o,g,c,d)) st) (q2:∀o m n,iX ky T a b o m n->m+n<n0->Q (.yield (none,m,n,o,g,c,d)) st):wpS M A E s (Df a b m n o g c d) Q st:=by
 obtain⟨r,m1,m2,n1,n2⟩:=h
 unfold Df
 refine Qn (aZ (by omega) ?_)
 have r2:=sD r m1 m2 hx
 by_cases e:m-1=0
 ·rw[if_pos (by simpa using e)]
  exact Qt (q1 _ _ _ _ (jD r2 (.inl e)))
 ·rw[if_neg (by simpa using e)]
  split
  ·exact Qt (q1 _ _ _ _ ⟨⟨r2,by omega,by omega,n1,n2⟩,by omega⟩)
  ·exact Qt (q2 _ _ _ ⟨r2,by omega,by omega,n1,n2⟩ (by omega))
theorem zH{st:SortSt}(W:i8 ky M A E s kd U a b st){g c d n0:Nat}{Q:ForInStep H2->SortSt->Prop}(h:iX ky T a b o m n)(hn:m+n<=n0)(hx:cD ky (a.toList.take m) [b[n-1]'(by have:=h.n1;have:=h.n2;omega)])
  (q1:∀r o m n c d,qC ky T a b n0 r o m n->Q (.done (r,m,n,o,g,c,d)) st) (q2:∀o m n c d,iX ky T a b o m n->m+n<n0->Q (.yield (none,m,n,o,g,c,d)) st):wpS M A E s (De a b m n o g c d) Q st:=by
 obtain⟨r,m1,m2,n1,n2⟩:=h
 unfold De
 refine Qn (aZ (by omega) ?_)
 have r2:=yQ r (by omega) n2 hx
 by_cases e:n-1=1
 ·rw[if_pos (by simpa using e)]
  exact Qt (q1 _ _ _ _ _ _ (mZ r2 e W.nb W.hz))
 ·rw[if_neg (by simpa using e)]
  refine Qn (aZ (by omega) ?_)
  refine Qn (Dg W.lt W.kd W.ub (W.ua _ (gC (by omega))) W.sb (by omega) (by omega) fun p hp h1 h2=>?_)
  dsimp only
  by_cases k0:n-1-p>0
  ·rw[if_pos k0]
   have r3:=LS r2 hp fun x hx y hy=>mM W.sa m1 m2 hx (h2 _ (Qu.mpr rfl) y hy)
   by_cases e2:p=1
   ·rw[if_pos (by simpa using e2)]
    exact Qt (q1 _ _ _ _ _ _ (mZ r3 e2 W.nb W.hz))
   ·rw[if_neg (by simpa using e2)]
    by_cases e3:p=0
    ·rw[if_pos (by simpa using e3)]
     exact Qt (q1 _ _ _ _ _ _ (jD r3 (.inr e3)))
    ·rw[if_neg (by simpa using e3)]
     exact zJ W ⟨r3,m1,m2,by omega,by omega⟩ (by omega) h1 (fun _ _ _ _ z=>q1 _ _ _ _ _ _ z) fun _ _ _ z z2=>q2 _ _ _ _ _ z z2
  ·rw[if_neg k0]
   have:p=n-1:=by omega
   subst this
   exact zJ W ⟨r2,m1,m2,by omega,by omega⟩ (by omega) h1 (fun _ _ _ _ z=>q1 _ _ _ _ _ _ z) fun _ _ _ z z2=>q2 _ _ _ _ _ z z2
theorem zG{st:SortSt}(W:i8 ky M A E s kd U a b st){g c d n0:Nat}{Q:ForInStep H2->SortSt->Prop}(h:iX ky T a b o m n)(hn:m+n<=n0)
  (q1:∀r o m n c d,qC ky T a b n0 r o m n->Q (.done (r,m,n,o,g,c,d)) (cJ st g)) (q2:∀o m n c d,iX ky T a b o m n->m+n<n0->Q (.yield (none,m,n,o,g,c,d)) (cJ st g)):wpS M A E s (Db a b m n o g c d) Q st:=by
 obtain⟨r,m1,m2,n1,n2⟩:=h
 unfold Db
 refine Qn (ml ?_)
 have W:=W.set g
 refine Qn (aZ (by omega) ?_)
 refine Qn (Dg W.lt W.kd W.ua (W.ub _ (gC (by omega))) W.sa m1 m2 fun p hp h1 h2=>?_)
 dsimp only
 by_cases k0:m-p>0
 ·rw[if_pos k0]
  have r2:=LT r hp fun x hx y hy=>mM W.sb (by omega) n2 hx (h2 _ (Qu.mpr rfl) y hy)
  by_cases e:p=0
  ·rw[if_pos (by simpa using e)]
   exact Qt (q1 _ _ _ _ _ _ (jD r2 (.inl e)))
  ·rw[if_neg (by simpa using e)]
   exact zH W ⟨r2,by omega,by omega,n1,n2⟩ (by omega) h1 q1 q2
 ·rw[if_neg k0]
  have:p=m:=by omega
  subst this
  exact zH W ⟨r,m1,m2,n1,n2⟩ hn h1 q1 q2
theorem IO{st:SortSt}(W:i8 ky M A E s kd U a b st){g c d n0:Nat}{Q:ForInStep H1->SortSt->Prop}(h:iX ky T a b o m n)(hn:m+n<=n0)
  (q1:∀r o m n c d,qC ky T a b n0 r o m n->Q (.done (r,m,n,o,c,d)) st) (q2:∀o m n c d,iX ky T a b o m n->m+n<n0->Q (.yield (none,m,n,o,c,d)) st):wpS M A E s (IP a b g (none,m,n,o,c,d)) Q st:=by
 obtain⟨r,m1,m2,n1,n2⟩:=h
 unfold IP
 dsimp only
 refine Qn (aZ (by omega) (Qn (aZ (by omega) ?_)))
 refine Qn (W.lt _ (W.ub _ (gC (by omega))) _ (W.ua _ (gC (by omega))) st _ W.kd ?_)
 cases e:O.blt (ky b[n-1]) (ky a[m-1])with
 | true =>
  dsimp only
  rw[if_pos rfl]
  refine Qn (aZ (by omega) ?_)
  have r2:=sD r m1 m2 fun x hx y hy=>by
   rw[Qu]at hy;subst hy
   exact mM W.sb (by omega) n2 hx (RE e)
  by_cases e2:m-1=0
  ·rw[if_pos (by simpa using e2)]
   exact Qt (q1 _ _ _ _ _ _ (jD r2 (.inl e2)))
  ·rw[if_neg (by simpa using e2)]
   split
   ·exact Qt (q1 _ _ _ _ _ _ ⟨⟨r2,by omega,by omega,n1,n2⟩,by omega⟩)
   ·exact Qt (q2 _ _ _ _ _ ⟨r2,by omega,by omega,n1,n2⟩ (by omega))
 | false =>
  dsimp only
  rw[if_neg (by simp)]
  refine Qn (aZ (by omega) ?_)
  have r2:=yQ r (by omega) n2 fun x hx y hy=>by
   rw[Qu]at hy;subst hy
   exact mM W.sa m1 m2 hx e
  by_cases e2:n-1=1
  ·rw[if_pos (by simpa using e2)]
   exact Qt (q1 _ _ _ _ _ _ (mZ r2 e2 W.nb W.hz))
  ·rw[if_neg (by simpa using e2)]
   split
   ·exact Qt (q1 _ _ _ _ _ _ ⟨⟨r2,m1,m2,by omega,by omega⟩,by omega⟩)
   ·exact Qt (q2 _ _ _ _ _ ⟨r2,m1,m2,by omega,by omega⟩ (by omega))
theorem IN{st:SortSt}(W:i8 ky M A E s kd U a b st){g:Nat}{Q:ForInStep H0->SortSt->Prop}(h:iX ky T a b o m n)
  (q1:∀r o' i' j' g' g2,d6 ky T r.toList->Q (.done (some r,i',j',o',g')) (cJ st g2)) (q2:∀o' i' j' g',iX ky T a b o' i' j'->i'+j' < m+n->Q (.yield (none,i',j',o',g')) (cJ st g')):wpS M A E s (Dd a b (none,m,n,o,g)) Q st:=by
 unfold Dd
 dsimp only
 have tot:0<a.size+b.size:=by have:=h.m1;have:=h.m2;omega
 refine Qn (RY (Ra (I:=fun x c st'=>st'=st/\∃o' i' j' p q,c=((none,i',j',o',p,q):H1)/\iX ky T a b o' i' j'/\i'+j'+x<=m+n)
  (Q:=fun c st'=>st'=st/\qC ky T a b (m+n) c.1 c.2.2.2.1 c.2.1 c.2.2.1) ?_ ?_ ⟨rfl,o,m,n,0,0,rfl,h,by omega⟩) ?_)
 ·rintro x c st' _ hx ⟨rfl,o',i',j',p,q,rfl,h',hn⟩
  exact IO W (n0:=m+n-x) h' (by omega) (fun r o i j c d z=>⟨rfl,by
   cases r with
   | some r=>exact z
   | none=>exact⟨z.1,Qv z.2 (Nat.sub_le _ _)⟩⟩) fun o i j c d z z2=>⟨rfl,_,_,_,_,_,rfl,z,by omega⟩
 ·rintro c st' ⟨rfl,o',i',j',p,q,rfl,h',hn⟩
  exact⟨rfl,h',show i'+j' < m+n by omega⟩
 ·rintro⟨r,i',j',o',p,q⟩ st' ⟨rfl,h'⟩
  cases r with
  | some r=>exact Qt (q1 r _ _ _ _ (gallopOf st') h')
  | none =>
   dsimp only
   refine Qn (wpS_lift (wpAny_rule ⟨rfl,?_⟩))
   refine Qn (RY (Ra (I:=fun x c st2=>(∃g2,st2=cJ st' g2)/\∃o' i' j' g' p q,c=((none,i',j',o',g',p,q):H2)/\iX ky T a b o' i' j'/\i'+j' < m+n)
    (Q:=fun c st2=>(∃g2,st2=cJ st' g2)/\qC ky T a b (m+n) c.1 c.2.2.2.1 c.2.1 c.2.2.1) ?_ ?_ ⟨⟨gallopOf st',rfl⟩,o',i',j',_,p,q,rfl,h'.1,h'.2⟩) ?_)
   ·rintro x c st2 _ hx ⟨⟨g2,rfl⟩,o',i',j',g',p,q,rfl,h',hn⟩
    unfold IM
    dsimp only
    split
    ·exact zG (W.set g2) h' (RW hn) (fun r o i j c d z=>⟨⟨_,rfl⟩,z⟩) fun o i j c d z z2=>⟨⟨_,rfl⟩,_,_,_,_,_,_,rfl,z,z2⟩
    ·exact zG (W.set g2) h' (RW hn) (fun r o i j c d z=>⟨⟨_,rfl⟩,z⟩) fun o i j c d z z2=>⟨⟨_,rfl⟩,_,_,_,_,_,_,rfl,z,z2⟩
   ·rintro c st2 ⟨hg,o',i',j',g',p,q,rfl,h',hn⟩
    exact⟨hg,h',hn⟩
   ·rintro⟨r,i',j',o',g',p,q⟩ st2 ⟨⟨g2,rfl⟩,h'⟩
    cases r with
    | some r=>exact Qt (q1 r _ _ _ _ g2 h')
    | none=>exact Qn (ml (Qt (q2 _ _ _ _ h'.1 h'.2)))
theorem Ia{st:SortSt}(W:i8 ky M A E s kd U a b st){Q:Array Keyed->SortSt->Prop}(na:1<=a.size)(h1:cD ky b.toList [a[a.size-1]])
  (h:∀r g,d6 ky (a.toList++b.toList) r.toList->Q r (cJ st g)):wpS M A E s (CZ a b) Q st:=by
 rw[Ib]
 refine Qn (wpS_lift (wpAny_rule ⟨rfl,?_⟩))
 refine Qn (aZ (by omega) ?_)
 have nb:=W.nb
 have ea:a.toList.take a.size=a.toList:=RS (by rw[Qs];exact Ql _)
 have eb:b.toList.take b.size=b.toList:=RS (by rw[Qs];exact Ql _)
 have r0:fu ky (a.toList++b.toList) a b #[] a.size b.size:=by
  unfold fu
  rw[ea,eb]
  exact⟨by simpa using (Sz a.toList).append (Sz b.toList),List.Pairwise.nil,nX.mpr (by rw[List.reverse_reverse];exact W.sa),nX.mpr (by rw[List.reverse_reverse];exact W.sb),fun x hx=>(by cases hx),fun x hx=>(by cases hx)⟩
 have r1:=sD r0 na (Ql _) (by rw[eb];exact h1)
 rw[show(#[]:Array Keyed).push a[a.size-1] = #[a[a.size-1]]from rfl]at r1
 by_cases e:a.size-1=0
 ·rw[if_pos (by simpa using e)]
  exact Qt (h _ (gallopOf st) (jD r1 (.inl e)))
 ·rw[if_neg (by simpa using e)]
  by_cases e2:b.size=1
  ·rw[if_pos (by simpa using e2)]
   exact Qt (h _ (gallopOf st) (mZ r1 e2 W.nb W.hz))
  ·rw[if_neg (by simpa using e2)]
   refine Qn (wpS_get ?_)
   refine Qn (RY (Ra (I:=fun x c st'=>(∃g2,st'=cJ st g2)/\∃o' i' j' g',c=((none,i',j',o',g'):H0)/\iX ky (a.toList++b.toList) a b o' i' j'/\i'+j'+x<a.size+b.size)
    (Q:=fun c st'=>(∃g2,st'=cJ st g2)/\∃r,c.1=some r/\d6 ky (a.toList++b.toList) r.toList) ?_ ?_ ⟨⟨gallopOf st,rfl⟩,_,_,_,_,rfl,⟨r1,by omega,by omega,by omega,Ql _⟩,by omega⟩) ?_)
   ·rintro x c st' _ hx ⟨⟨g2,rfl⟩,o',i',j',g',rfl,h',hn⟩
    exact IN (W.set g2) h' (fun r _ _ _ _ _ z=>⟨⟨_,rfl⟩,r,rfl,z⟩) fun _ _ _ _ z z2=>⟨⟨_,rfl⟩,_,_,_,_,rfl,z,by omega⟩
   ·rintro c st' ⟨hg,o',i',j',g',rfl,h',hn⟩
    omega
   ·rintro⟨r,c2⟩ st' ⟨⟨g2,rfl⟩,r',e3,hr⟩
    cases (show r=some r' from e3)
    exact Qt (h r' g2 hr)
end
end TS
namespace TS
open PySem PyProof.Rows
noncomputable abbrev C1:=Option (Option Nat)×Nat
noncomputable abbrev C2:=Option (Option Nat)×Nat×Nat
noncomputable def nv(lo a w:Nat):SM C1 :=
 forIn [a:w] ((none,a):C1) fun _ c=>do
  let x <- ltAt' (lo+c.2) (lo+c.2-1)
  match x with
  | some sm=>if sm=true then pure (.done (none,c.2))else pure (.yield (none,c.2+1))
  | _=>pure (.done (some none,c.2))
noncomputable def vh(lo n w:Nat):SM (Option Nat):=do
 reverseSlice' lo (lo+n)
 let c <- nv lo n w
 match c.1 with
 | some r=>pure r
 | none=>pure (some c.2)
noncomputable def xF(lo n w:Nat):SM C2 :=
 forIn [n:w] ((none,n,0):C2) fun _ c=>do
  let x <- ltAt' (lo+c.2.1) (lo+c.2.1-1)
  match x with
  | some sm =>
   if sm=true then
    if c.2.2>0 then do
     reverseSlice' (lo+c.2.1-(c.2.2+1)) (lo+c.2.1)
     pure (.yield (none,c.2.1+1,0))
    else pure (.yield (none,c.2.1+1,0))
   else do
    let y <- ltAt' (lo+c.2.1-1) (lo+c.2.1)
    match y with
    | some lg=>if lg=true then pure (.done (none,c.2.1,c.2.2))else pure (.yield (none,c.2.1+1,c.2.2+1))
    | _=>pure (.done (some none,c.2.1,c.2.2))
  | _=>pure (.done (some none,c.2.1,c.2.2))
noncomputable def zW(lo n w:Nat):SM (Option Nat):=do
 liftM (rule "list.sort.descending-run")
 let c <- xF lo (n+1) w
 match c.1 with
 | some r=>pure r
 | none =>
  if c.2.2>0 then do
   reverseSlice' (lo+c.2.1-(c.2.2+1)) (lo+c.2.1)
   vh lo c.2.1 w
  else vh lo c.2.1 w
theorem KH{lo n w:Nat}{f:C1->SM (Option Nat)}(h:∀n,f (none,n)=pure (some n))(g:∀r n,f (some r,n)=pure r):(do
  reverseSlice' lo (lo+n)
  let c <- nv lo n w
  f c)=vh lo n w:=by
 unfold vh
 congr 1;funext _;congr 1;funext c
 obtain⟨c1,c2⟩:=c
 cases c1 with
 | some r=>exact g r c2
 | none=>exact h c2
theorem LO(lo w:Nat):countRun' lo w=(do
    let c <- nv lo 1 w
    match c.1 with
    | some r=>pure r
    | none =>
      if (c.2==w)=true then pure (some c.2)
      else if c.2>1 then do
        let x <- ltAt' lo (lo+c.2-1)
        match x with
        | some ro=>if ro=true then pure (some c.2)else do
            reverseSlice' lo (lo+c.2)
            zW lo c.2 w
        | _=>pure none
      else zW lo c.2 w):=by
  rw[countRun'_eq]
  unfold zW xF nv
  dsimp only
  congr 1
  funext c
  obtain⟨c1,c2⟩:=c
  cases c1 with
  | some r=>rfl
  | none =>
    have dp:∀k:Nat,_:=fun(k:Nat)=>KH (lo:=lo) (n:=k) (w:=w) (f:=fun c=>match c.1 with|some r=>pure r|none=>pure (some c.2)) (fun _=>rfl) fun _ _=>rfl
    dsimp only
    refine SH rfl (fun _=>rfl) fun _=>SH rfl (fun _=>?_) fun _=>?_
    . congr 1
      funext x
      cases x with
      | none=>rfl
      | some ro =>
        dsimp only
        refine SH rfl (fun _=>rfl) fun _=>?_
        congr 1;funext _;congr 1;funext _;congr 1;funext d
        obtain⟨d1,d2,d3⟩:=d
        cases d1 with
        | some r=>rfl
        | none =>
          dsimp only
          refine SH rfl (fun _=>?_) fun _=>?_
          . congr 1;funext _
            rw[<- dp];unfold nv
            congr 1;funext _;congr 1;funext e
            obtain⟨e1,e2⟩:=e
            cases e1<;>rfl
          . rw[<- dp];unfold nv
            congr 1;funext _;congr 1;funext e
            obtain⟨e1,e2⟩:=e
            cases e1<;>rfl
    . congr 1;funext _;congr 1;funext d
      obtain⟨d1,d2,d3⟩:=d
      cases d1 with
      | some r=>rfl
      | none =>
        dsimp only
        refine SH rfl (fun _=>?_) fun _=>?_
        . congr 1;funext _
          rw[<- dp];unfold nv
          congr 1;funext _;congr 1;funext e
          obtain⟨e1,e2⟩:=e
          cases e1<;>rfl
        . rw[<- dp];unfold nv
          congr 1;funext _;congr 1;funext e
          obtain⟨e1,e2⟩:=e
          cases e1<;>rfl
end TS
namespace TS
open PySem PyProof.Rows
section
variable{O:KeyOrd}{ky:Keyed->O.α}{prog:Program}{w:World}{A:Around}{E:Value->Shared->Prop}{s:Shared}{kd:SortKind}{a₀:Array Keyed}{p:Array (Nat×Nat×Nat)}
noncomputable def kA(ky:Keyed->O.α)(xs:Array Keyed)(i:Nat):O.α:=ky (xs[i]?.getD (.none,.none))
theorem jU{xs ys:Array Keyed}{i j:Nat}(h:xs[i]?=ys[j]?):kA ky xs i=kA ky ys j:=by unfold kA;rw[h]
theorem kA_at{xs:Array Keyed}{i:Nat}(h:i<xs.size):kA ky xs i=ky xs[i]:=by unfold kA;rw[getElem?_pos xs i h];rfl
noncomputable def Seg(ky:Keyed->O.α)(xs:Array Keyed)(lo hi:Nat):Prop:=∀i j,lo<=i->i<=j->j<hi->O.kle (kA ky xs i) (kA ky xs j)
noncomputable def oG(ky:Keyed->O.α)(xs:Array Keyed)(lo hi:Nat):Prop:=∀i j,lo<=i->i<=j->j<hi->O.kle (kA ky xs j) (kA ky xs i)
noncomputable def iW(lo:Nat)(xs ys:Array Keyed):Prop:=∀i,i<lo->xs[i]?=ys[i]?
structure SB(a₀:Array Keyed)(kd:SortKind)(p:Array (Nat×Nat×Nat))(st:SortSt):Prop where
 perm:(arrOf st).Perm a₀
 kind:kindOf st=kd
 failed:failedOf st=none
 pend:pendingOf st=p
theorem SB.size{st:SortSt}(h:SB a₀ kd p st):(arrOf st).size=a₀.size:=h.perm.size_eq
theorem SB.set{st:SortSt}(h:SB a₀ kd p st){xs:Array Keyed}(hp:xs.Perm (arrOf st)):SB a₀ kd p (setArr st xs):=⟨hp.trans h.perm,h.kind,h.failed,h.pend⟩
theorem SB.mem{st:SortSt}(h:SB a₀ kd p st){i:Nat}(hi:i<(arrOf st).size):(arrOf st)[i]∈a₀.toList:=(Array.perm_iff_toList_perm.mp h.perm).mem_iff.mp (Rw hi)
noncomputable abbrev lZ(ky:Keyed->O.α)(prog:Program)(w:World)(A:Around)(E:Value->Shared->Prop)(s:Shared)(kd:SortKind)(a₀:Array Keyed):Prop:=Lts ky (model prog w) A E s kd a₀.toList
theorem o5(hL:lZ ky prog w A E s kd a₀){st:SortSt}(hB:SB a₀ kd p st){i j:Nat}{Q:Option Bool->SortSt->Prop}(hi:i<a₀.size)(hj:j<a₀.size)(h:Q (some (O.blt (kA ky (arrOf st) i) (kA ky (arrOf st) j))) st):wpS (model prog w) A E s (ltAt' i j) Q st:=by
 have z:=hB.size
 rw[ltAt'_eq]
 refine Qn (wpS_get (Qn (aZ (by omega) (Qn (aZ (by omega) ?_)))))
 rw[kA_at (by omega),kA_at (by omega)]at h
 exact hL _ (hB.mem (by omega)) _ (hB.mem (by omega)) st Q hB.kind h
theorem zA{xs:Array Keyed}{src d:Nat}(hs:src<xs.size)(hd:d<=src)(k:Nat):kA ky (bubble xs src d) k=if k=src-d then kA ky xs src else if src-d<k/\k<=src then kA ky xs (k-1)else kA ky xs k:=by
 have e:=getElem?_bubble hs d hd k
 by_cases h1:k=src-d
 ·rw[if_pos h1]at e⊢;exact jU e
 ·rw[if_neg h1]at e⊢
  by_cases h2:src-d<k/\k<=src
  ·rw[if_pos h2]at e⊢;exact jU e
  ·rw[if_neg h2]at e⊢;exact jU e
theorem tq{xs:Array Keyed}{i j:Nat}(hj:j<=xs.size)(k:Nat):kA ky (mirror xs i j ((j-i) / 2)) k=if i<=k/\k<j then kA ky xs (i+j-1-k)else kA ky xs k:=by
 have e:=getElem?_mirror_all (i:=i) hj k
 by_cases h1:i<=k/\k<j
 ·rw[if_pos h1]at e⊢;exact jU e
 ·rw[if_neg h1]at e⊢;exact jU e
theorem dF{xs:Array Keyed}{i j:Nat}(hj:j<=xs.size)(he:∀k,i<=k->k<j->kA ky xs k=kA ky xs (j-1))(k:Nat):kA ky (mirror xs i j ((j-i) / 2)) k=kA ky xs k:=by
 rw[tq hj]
 split
 ·rw[he _ (by omega) (by omega),he k (by omega) (by omega)]
 ·rfl
theorem mF{xs:Array Keyed}{lo i j:Nat}(hj:j<=xs.size)(hi:lo<=i):iW lo xs (mirror xs i j ((j-i) / 2)):=fun k hk=>by
 rw[getElem?_mirror_all hj,if_neg (by omega)]
theorem EF{xs:Array Keyed}{lo src d:Nat}(hs:src<xs.size)(hd:lo+d<=src):iW lo xs (bubble xs src d):=fun k hk=>by
 rw[getElem?_bubble hs d (by omega),if_neg (by omega),if_neg (by omega)]
theorem iW.trans{lo:Nat}{xs ys zs:Array Keyed}(h1:iW lo xs ys)(h2:iW lo ys zs):iW lo xs zs:=fun i hi=>(h1 i hi).trans (h2 i hi)
theorem Be{xs:Array Keyed}{lo x:Nat}(h:Seg ky xs lo x)(hx:lo<x)(hl:O.kle (kA ky xs (x-1)) (kA ky xs x)):Seg ky xs lo (x+1):=fun i j hi hij hj=>by
 by_cases hjx:j<x
 ·exact h i j hi hij hjx
 ·have:j=x:=by omega
  subst this
  by_cases e:i=j
  ·subst e;exact RH _
  ·exact Q1 (h i (j-1) hi (by omega) (by omega)) hl
theorem iO{xs:Array Keyed}{lo x:Nat}(h:oG ky xs lo x)(hx:lo<x)(hl:O.kle (kA ky xs x) (kA ky xs (x-1))):oG ky xs lo (x+1):=fun i j hi hij hj=>by
 by_cases hjx:j<x
 ·exact h i j hi hij hjx
 ·have:j=x:=by omega
  subst this
  by_cases e:i=j
  ·subst e;exact RH _
  ·exact Q1 hl (h i (j-1) hi (by omega) (by omega))
theorem Ed{xs:Array Keyed}{lo:Nat}:Seg ky xs lo (lo+1):=fun i j hi hij hj=>by
 have:i=j:=by omega
 subst this;exact RH _
theorem Cr(hL:lZ ky prog w A E s kd a₀){st:SortSt}{lo a n:Nat}{Q:C1->SortSt->Prop}(hn:lo+n<=a₀.size)(ha:1<=a)(han:a<=n)(hB:SB a₀ kd p st)(hs:Seg ky (arrOf st) lo (lo+a))
  (h:∀m,a<=m->m<=n->Seg ky (arrOf st) lo (lo+m)->(m=n\/O.klt (kA ky (arrOf st) (lo+m)) (kA ky (arrOf st) (lo+m-1)))->Q (none,m) st):wpS (model prog w) A E s (nv lo a n) Q st:=by
 unfold nv
 refine Ra (I:=fun x c st'=>st'=st/\c=(none,x)/\Seg ky (arrOf st) lo (lo+x)) ?_ ?_ ⟨rfl,rfl,hs⟩
 ·rintro x c st' hx hxn ⟨rfl,rfl,hs'⟩
  dsimp only
  refine Qn (o5 hL hB (by omega) (by omega) ?_)
  cases e:O.blt (kA ky (arrOf st') (lo+x)) (kA ky (arrOf st') (lo+x-1))with
  | true =>
   dsimp only
   rw[if_pos rfl]
   exact Qt (h x hx (by omega) hs' (.inr e))
  | false =>
   dsimp only
   rw[if_neg (by simp)]
   exact Qt ⟨rfl,rfl,Be (x:=lo+x) hs' (by omega) e⟩
 ·rintro c st' ⟨rfl,rfl,hs'⟩
  rw[show max a n=n by omega]at hs' ⊢
  exact h n han (Ql _) hs' (.inl rfl)
theorem Cw(hL:lZ ky prog w A E s kd a₀){st:SortSt}{lo m n:Nat}{Q:Option Nat->SortSt->Prop}(hn:lo+n<=a₀.size)(h1:1<=m)(hm:m<=n)(hB:SB a₀ kd p st)(hs:oG ky (arrOf st) lo (lo+m))
  (h:∀k st',SB a₀ kd p st'->iW lo (arrOf st) (arrOf st')->1<=k->k<=n->Seg ky (arrOf st') lo (lo+k)->Q (some k) st'):wpS (model prog w) A E s (vh lo m n) Q st:=by
 unfold vh
 have hz:lo+m<=(arrOf st).size:=by rw[hB.size];omega
 refine Qn (wpS_reverse ?_)
 have hB':=hB.set (mirror_perm (arrOf st) lo (lo+m) ((lo+m-lo) / 2))
 refine Qn (Cr hL hn h1 hm hB' (fun i j hi hij hj=>?_) fun k hk1 hk2 hsk _=>Qt (h k _ hB' (mF hz (Ql _)) (by omega) hk2 hsk))
 show O.kle (kA ky (mirror (arrOf st) lo (lo+m) ((lo+m-lo) / 2)) i) (kA ky (mirror (arrOf st) lo (lo+m) ((lo+m-lo) / 2)) j)
 rw[tq hz,tq hz,if_pos (by omega),if_pos (by omega)]
 exact hs _ _ (by omega) (by omega) (by omega)
theorem LH(hL:lZ ky prog w A E s kd a₀){st:SortSt}{lo m n:Nat}{Q:C2->SortSt->Prop}(hn:lo+n<=a₀.size)(h1:1<=m)(hm:m<=n)(hB:SB a₀ kd p st)(hs:oG ky (arrOf st) lo (lo+m))
  (h:∀k e st',SB a₀ kd p st'->iW lo (arrOf st) (arrOf st')->m<=k->k<=n->oG ky (arrOf st') lo (lo+k)->e+1<=k->(∀i,lo+k-(e+1)<=i->i<lo+k->kA ky (arrOf st') i=kA ky (arrOf st') (lo+k-1))->Q (none,k,e) st'):wpS (model prog w) A E s (xF lo m n) Q st:=by
 unfold xF
 refine Ra (I:=fun x c st' => ∃e,c=(none,x,e)/\SB a₀ kd p st'/\iW lo (arrOf st) (arrOf st')/\oG ky (arrOf st') lo (lo+x)/\e+1<=x/\(∀i,lo+x-(e+1)<=i->i<lo+x->kA ky (arrOf st') i=kA ky (arrOf st') (lo+x-1))) ?_ ?_
  ⟨0,rfl,hB,fun _ _=>rfl,hs,by omega,fun i h1 h2=>by congr 1;omega⟩
 ·rintro x c st' hx hxn ⟨e,rfl,hB',hp,hs',hq,he⟩
  dsimp only
  have hz:lo+x<=(arrOf st').size:=by rw[hB'.size];omega
  refine Qn (o5 hL hB' (by omega) (by omega) ?_)
  cases hl:O.blt (kA ky (arrOf st') (lo+x)) (kA ky (arrOf st') (lo+x-1))with
  | true =>
   dsimp only
   rw[if_pos rfl]
   have s1:=iO hs' (by omega) (RE hl)
   by_cases e0:e>0
   ·rw[if_pos e0]
    refine Qn (wpS_reverse (Qt ⟨0,rfl,hB'.set (mirror_perm _ _ _ _),hp.trans (mF hz (by omega)),fun i j hi hij hj=>?_,by omega,fun i h1 h2=>by congr 1;omega⟩))
    show O.kle (kA ky (mirror (arrOf st') _ _ _) j) (kA ky (mirror (arrOf st') _ _ _) i)
    rw[dF hz he,dF hz he]
    exact s1 i j hi hij hj
   ·rw[if_neg e0]
    exact Qt ⟨0,rfl,hB',hp,s1,by omega,fun i h1 h2=>by congr 1;omega⟩
  | false =>
   dsimp only
   rw[if_neg (by simp)]
   refine Qn (o5 hL hB' (by omega) (by omega) ?_)
   cases hg:O.blt (kA ky (arrOf st') (lo+x-1)) (kA ky (arrOf st') (lo+x))with
   | true =>
    dsimp only
    rw[if_pos rfl]
    exact Qt (h x e st' hB' hp hx (by omega) hs' hq he)
   | false =>
    dsimp only
    rw[if_neg (by simp)]
    have hx':kA ky (arrOf st') (lo+x)=kA ky (arrOf st') (lo+x-1):=KeyOrd.kle_antisymm hg hl
    refine Qt ⟨e+1,rfl,hB',hp,iO (x:=lo+x) hs' (by omega) hg,by omega,fun i h1 h2=>?_⟩
    rw[show lo+(x+1)-1=lo+x by omega]
    by_cases hix:i=lo+x
    ·subst hix;rfl
    ·rw[hx'];exact he i (by omega) (by omega)
 ·rintro c st' ⟨e,rfl,hB',hp,hs',hq,he⟩
  rw[show max m n=n by omega]at hs' hq he⊢
  exact h n e st' hB' hp hm (Ql _) hs' hq he
theorem Dn(hL:lZ ky prog w A E s kd a₀){st:SortSt}{lo m n:Nat}{Q:Option Nat->SortSt->Prop}(hn:lo+n<=a₀.size)(hm:m+1<=n)(hB:SB a₀ kd p st)(hs:oG ky (arrOf st) lo (lo+(m+1)))
  (h:∀k st',SB a₀ kd p st'->iW lo (arrOf st) (arrOf st')->1<=k->k<=n->Seg ky (arrOf st') lo (lo+k)->Q (some k) st'):wpS (model prog w) A E s (zW lo m n) Q st:=by
 unfold zW
 refine Qn (wpS_lift (wpAny_rule ⟨rfl,?_⟩))
 refine Qn (LH hL hn (by omega) hm hB hs fun k e st' hB' hp hk1 hk2 hs' hq he=>?_)
 dsimp only
 have hz:lo+k<=(arrOf st').size:=by rw[hB'.size];omega
 by_cases e0:e>0
 ·rw[if_pos e0]
  refine Qn (wpS_reverse (Cw hL hn (by omega) hk2 (hB'.set (mirror_perm _ _ _ _)) (fun i j hi hij hj=>?_) fun k st2 b1 b2 b3 b4 b5=>h k st2 b1 ((hp.trans (mF hz (by omega))).trans b2) b3 b4 b5))
  show O.kle (kA ky (mirror (arrOf st') _ _ _) j) (kA ky (mirror (arrOf st') _ _ _) i)
  rw[dF hz he,dF hz he]
  exact hs' i j hi hij hj
 ·rw[if_neg e0]
  exact Cw hL hn (by omega) hk2 hB' hs' fun k st2 b1 b2 b3 b4 b5=>h k st2 b1 (hp.trans b2) b3 b4 b5
theorem LN(hL:lZ ky prog w A E s kd a₀){st:SortSt}{lo n:Nat}{Q:Option Nat->SortSt->Prop}(hn:lo+n<=a₀.size)(h1:1<=n)(hB:SB a₀ kd p st)
  (h:∀k st',SB a₀ kd p st'->iW lo (arrOf st) (arrOf st')->1<=k->k<=n->Seg ky (arrOf st') lo (lo+k)->Q (some k) st'):wpS (model prog w) A E s (countRun' lo n) Q st:=by
 rw[LO]
 refine Qn (Cr hL hn (Ql 1) h1 hB Ed fun m hm1 hm2 hsm hor=>?_)
 dsimp only
 by_cases hmn:m=n
 ·rw[if_pos (by simpa using hmn)]
  exact Qt (h m st hB (fun _ _=>rfl) hm1 hm2 hsm)
 ·rw[if_neg (by simpa using hmn)]
  have hlt:O.klt (kA ky (arrOf st) (lo+m)) (kA ky (arrOf st) (lo+m-1)):=hor.resolve_left hmn
  by_cases hgt:m>1
  ·rw[if_pos hgt]
   refine Qn (o5 hL hB (by omega) (by omega) ?_)
   cases hr:O.blt (kA ky (arrOf st) lo) (kA ky (arrOf st) (lo+m-1))with
   | true =>
    dsimp only
    rw[if_pos rfl]
    exact Qt (h m st hB (fun _ _=>rfl) hm1 hm2 hsm)
   | false =>
    dsimp only
    rw[if_neg (by simp)]
    have hz:lo+m<=(arrOf st).size:=by rw[hB.size];omega
    have hall:∀k,lo<=k->k<lo+m->kA ky (arrOf st) k=kA ky (arrOf st) (lo+m-1):=fun k hk0 hk=>by
     have a1:=hsm lo k (Ql _) hk0 hk
     have a2:=hsm k (lo+m-1) hk0 (by omega) (by omega)
     exact KeyOrd.kle_antisymm a2 (Q1 hr a1)
    refine Qn (wpS_reverse (Dn hL hn (by omega) (hB.set (mirror_perm _ _ _ _)) (iO (x:=lo+m) (fun i j hi hij hj=>?_) (by omega) ?_) fun k st2 b1 b2 b3 b4 b5=>h k st2 b1 ((mF hz (Ql _)).trans b2) b3 b4 b5))
    ·show O.kle (kA ky (mirror (arrOf st) _ _ _) j) (kA ky (mirror (arrOf st) _ _ _) i)
     rw[dF hz hall,dF hz hall,hall i hi (by omega),hall j (by omega) hj]
     exact RH _
    ·show O.kle (kA ky (mirror (arrOf st) _ _ _) _) (kA ky (mirror (arrOf st) _ _ _) _)
     rw[dF hz hall,dF hz hall]
     exact RE hlt
  ·rw[if_neg hgt]
   have:m=1:=by omega
   subst this
   exact Dn hL hn (by omega) hB (iO (x:=lo+1) (fun i j hi hij hj=>by
    have:i=j:=by omega
    subst this;exact RH _) (by omega) (RE hlt)) h
theorem LQ(hL:lZ ky prog w A E s kd a₀){st:SortSt}{lo n ok:Nat}{Q:Bool->SortSt->Prop}(hn:lo+n<=a₀.size)(hok:ok<=n)(hB:SB a₀ kd p st)(hs:Seg ky (arrOf st) lo (lo+ok))
  (h:∀st',SB a₀ kd p st'->iW lo (arrOf st) (arrOf st')->Seg ky (arrOf st') lo (lo+n)->Q true st'):wpS (model prog w) A E s (binarySort' lo n ok) Q st:=by
 rw[binarySort'_eq]
 refine Qn (RY (Ra (I:=fun k c st'=>c=(none,())/\SB a₀ kd p st'/\iW lo (arrOf st) (arrOf st')/\Seg ky (arrOf st') lo (lo+min k n))
  (Q:=fun c st'=>c=(none,())/\SB a₀ kd p st'/\iW lo (arrOf st) (arrOf st')/\Seg ky (arrOf st') lo (lo+n)) ?_ ?_ ⟨rfl,hB,fun _ _=>rfl,fun i j hi hij hj=>?_⟩) ?_)
 ·rintro k c st' hak hkn ⟨rfl,hB',hp,hs'⟩
  rw[show min k n=k by omega]at hs'
  have hk:lo+k<a₀.size:=by omega
  refine Qn (RY (Ra (I:=fun x c st2=>st2=st'/\∃l r,c=(none,l,r)/\l<=r/\r<=k/\r-l<=k-x/\(∀i,i<l->O.kle (kA ky (arrOf st') (lo+i)) (kA ky (arrOf st') (lo+k)))/\(∀i,r<=i->i<k->O.klt (kA ky (arrOf st') (lo+k)) (kA ky (arrOf st') (lo+i))))
   (Q:=fun c st2=>st2=st'/\∃l r,c=(none,l,r)/\l<=k/\(∀i,i<l->O.kle (kA ky (arrOf st') (lo+i)) (kA ky (arrOf st') (lo+k)))/\(∀i,l<=i->i<k->O.klt (kA ky (arrOf st') (lo+k)) (kA ky (arrOf st') (lo+i)))) ?_ ?_ ?_) ?_)
  ·rintro x c st2 _ hxk ⟨rfl,l,r,rfl,hlr,hrk,hm,hlo,hhi⟩
   dsimp only
   by_cases hge:l >= r
   ·rw[if_pos hge]
    have:l=r:=by omega
    subst this
    exact Qt ⟨rfl,l,l,rfl,hrk,hlo,hhi⟩
   ·rw[if_neg hge]
    refine Qn (o5 hL hB' hk (by omega) ?_)
    cases hl:O.blt (kA ky (arrOf st2) (lo+k)) (kA ky (arrOf st2) (lo+(l+r) / 2))with
    | true =>
     dsimp only
     rw[if_pos rfl]
     exact Qt ⟨rfl,l,(l+r) / 2,rfl,by omega,by omega,by omega,hlo,fun i g1 g2=>KeyOrd.klt_of_klt_of_kle hl (hs' _ _ (by omega) (by omega) (by omega))⟩
    | false =>
     dsimp only
     rw[if_neg (by simp)]
     exact Qt ⟨rfl,(l+r) / 2+1,r,rfl,by omega,by omega,by omega,fun i g1=>Q1 (hs' (lo+i) (lo+(l+r) / 2) (by omega) (by omega) (by omega)) hl,hhi⟩
  ·rintro c st2 ⟨rfl,l,r,rfl,hlr,hrk,hm,hlo,hhi⟩
   have:l=r:=by omega
   subst this
   exact⟨rfl,l,l,rfl,hrk,hlo,hhi⟩
  ·exact⟨rfl,0,k,rfl,by omega,by omega,by omega,fun i hi=>by omega,fun i g1 g2=>by omega⟩
  ·rintro c st2 ⟨rfl,l,r,rfl,hlk,hlo,hhi⟩
   have hks:lo+k<(arrOf st2).size:=by rw[hB'.size];exact hk
   dsimp only
   rw[moveDown'_eq]
   refine Qn (wpS_modify (Qt ⟨rfl,hB'.set (bubble_perm _ _ _),hp.trans (EF hks (by omega)),?_⟩))
   rw[show min (k+1) n=k+1 by omega]
   intro i j hi hij hj
   show O.kle (kA ky (bubble (arrOf st2) (lo+k) (lo+k-(lo+l))) i) (kA ky (bubble (arrOf st2) (lo+k) (lo+k-(lo+l))) j)
   rw[zA hks (by omega),zA hks (by omega),show lo+k-(lo+k-(lo+l))=lo+l by omega]
   have q1:∀i,lo<=i->i<lo+l->O.kle (kA ky (arrOf st2) i) (kA ky (arrOf st2) (lo+k)):=fun i g1 g2=>by
    have:=hlo (i-lo) (by omega)
    rwa [show lo+(i-lo)=i by omega]at this
   have q2:∀i,lo+l<=i->i<lo+k->O.klt (kA ky (arrOf st2) (lo+k)) (kA ky (arrOf st2) i):=fun i g1 g2=>by
    have:=hhi (i-lo) (by omega) (by omega)
    rwa [show lo+(i-lo)=i by omega]at this
   repeat' split
   all_goals first
    | (exfalso;omega)
    | exact RH _
    | exact q1 _ (by omega) (by omega)
    | exact RE (q2 _ (by omega) (by omega))
    | exact hs' _ _ (by omega) (by omega) (by omega)
 ·rintro c st' ⟨hc,hB',hp,hs'⟩
  rw[show min (max (max ok 1) n) n=n by omega]at hs'
  exact⟨hc,hB',hp,hs'⟩
 ·by_cases h1:ok=0
  ·have:i=j:=by omega
   subst this;exact RH _
  ·exact hs i j hi hij (by omega)
 ·rintro c st' ⟨rfl,hB',hp,hs'⟩
  exact Qt (h st' hB' hp hs')
end
end TS
namespace TS
open PySem PyProof.Rows
noncomputable def n6(xs:Array Keyed)(c:Nat)(r:Array Keyed):Array Keyed:=r.toList.zipIdx.foldl (fun a (q,j)=>a.setIfInBounds (c+j) q) xs
noncomputable abbrev nZ(st:SortSt)(p:Array (Nat×Nat×Nat)):SortSt:=SortSt.mk' (kindOf st) (arrOf st) p (gallopOf st) (failedOf st)
theorem Id(i:Nat):mergeAt' i=(do
 let st <- get
 let (some (sa,na,pw),some (sb,nb,_)):=((pendingOf st)[i]?,(pendingOf st)[i+1]?)|unsupported "internal:list.sort.pending"
 set (nZ st (((pendingOf st).setIfInBounds i (sa,na+nb,pw)).eraseIdxIfInBounds (i+1)))
 let some k <- gO false (<- elem' (arrOf st) sb) (arrOf st) sa na 0|return false
 let (sa,na):=(sa+k,na-k)
 if na==0 then return true
 let some nb <- gO true (<- elem' (arrOf st) (sa+na-1)) (arrOf st) sb nb (nb-1)|return false
 if nb==0 then return true
 let r <- if na<=nb then CW ((arrOf st).extract sa sb) ((arrOf st).extract sb (sb+nb))else CZ ((arrOf st).extract sa sb) ((arrOf st).extract sb (sb+nb))
 modify fun st=>setArr st (n6 (arrOf st) sa r)
 return (failedOf (<- get)).isNone):=rfl
theorem tO(c:Nat):∀(l:List Keyed) (n:Nat) (xs:Array Keyed),c+n+l.length<=xs.size->((l.zipIdx n).foldl (fun a (q,j)=>a.setIfInBounds (c+j) q) xs).toList=xs.toList.take (c+n)++l++xs.toList.drop (c+n+l.length)
 | [],n,xs,h=>by simp
 | x::l,n,xs,h=>by
  rw[Qw]at h
  rw[List.zipIdx_cons,List.foldl_cons,tO c l (n+1) _ (by rw[Array.size_setIfInBounds];omega),Array.toList_setIfInBounds,Qw]
  have h1:c+n<xs.toList.length:=by rw[Qs];omega
  rw[show c+(n+1)=c+n+1 by omega,show c+n+(l.length+1)=c+n+1+l.length by omega]
  rw[List.drop_set_of_lt (by omega),List.take_set,SG,QE h1]
  have e:(xs.toList.take (c+n)++(some xs.toList[c+n]).toList).set (c+n) x=xs.toList.take (c+n)++[x]:=by
   rw[List.set_append_right _ _ (by rw[QR];omega),QR,Su (by omega),Nat.sub_self];rfl
  rw[e]
  simp
theorem yP{xs r:Array Keyed}{c:Nat}(h:c+r.size<=xs.size):(n6 xs c r).toList=xs.toList.take c++r.toList++xs.toList.drop (c+r.size):=by
 have:=tO c r.toList 0 xs (by rw[Qs];omega)
 rw[Qs]at this
 exact this
section
variable{O:KeyOrd}{ky:Keyed->O.α}
theorem mB{xs:Array Keyed}{lo n:Nat}(h:lo+n<=xs.size):Seg ky xs lo (lo+n)↔cY ky ((xs.toList.drop lo).take n):=by
 have ln:((xs.toList.drop lo).take n).length=n:=by rw[QR,RA,Qs];omega
 unfold cY
 rw[List.pairwise_iff_getElem]
 constructor
 ·intro hs i j hi hj hij
  rw[ln]at hi hj
  have:=hs (lo+i) (lo+j) (by omega) (by omega) (by omega)
  rw[kA_at (by omega),kA_at (by omega)]at this
  simpa using this
 ·intro hs i j hi hij hj
  rw[kA_at (by omega),kA_at (by omega)]
  rcases RK i j with z|z
  ·have:=hs (i-lo) (j-lo) (by rw[ln];omega) (by rw[ln];omega) (by omega)
   simp only[List.getElem_take,List.getElem_drop,R0]at this
   have e1:lo+(i-lo)=i:=by omega
   have e2:lo+(j-lo)=j:=by omega
   simpa only[e1,e2]using this
  ·have:i=j:=by omega
   subst this;exact RH _
variable{prog:Program}{w:World}{A:Around}{E:Value->Shared->Prop}{s:Shared}{kd:SortKind}{a₀:Array Keyed}{p:Array (Nat×Nat×Nat)}
theorem DH{M:Model}{σ:Type}{x:σ}{Q:PUnit->σ->Prop}{st:σ}(h:Q ⟨⟩ x):wpS M A E s (set x:StateT σ Sem PUnit) Q st:=by
 unfold wpS;exact Qq ⟨rfl,h⟩
theorem qI{α:Type}(l:List α)(a m n:Nat):(l.drop a).take (m+n)=(l.drop a).take m++(l.drop (a+m)).take n:=by
 rw[List.take_add,Sb]
theorem Ic(hL:lZ ky prog w A E s kd a₀){st:SortSt}(hB:SB a₀ kd p st){i sa na nb pw pw2:Nat}{Q:Bool->SortSt->Prop}(e1:p[i]?=some (sa,na,pw))(e2:p[i+1]?=some (sa+na,nb,pw2))(n1:1<=na)(n2:1<=nb)(hz:sa+na+nb<=a₀.size)
    (s1:Seg ky (arrOf st) sa (sa+na)) (s2:Seg ky (arrOf st) (sa+na) (sa+na+nb))
    (h:∀st',SB a₀ kd ((p.setIfInBounds i (sa,na+nb,pw)).eraseIdxIfInBounds (i+1)) st'->(∀t,t<sa\/sa+na+nb<=t->(arrOf st')[t]?=(arrOf st)[t]?)->Seg ky (arrOf st') sa (sa+na+nb)->Q true st'):wpS (model prog w) A E s (mergeAt' i) Q st:=by
  have sz:=hB.size
  have hU:∀x∈(arrOf st).toList,x∈a₀.toList:=fun x hx=>(Array.perm_iff_toList_perm.mp hB.perm).mem_iff.mp hx
  have hf:=hB.failed
  rw[Id]
  refine Qn (wpS_get ?_)
  rw[hB.pend,e1,e2]
  dsimp only
  refine Qn (DH ?_)
  have hB2:SB a₀ kd ((p.setIfInBounds i (sa,na+nb,pw)).eraseIdxIfInBounds (i+1)) (nZ st ((p.setIfInBounds i (sa,na+nb,pw)).eraseIdxIfInBounds (i+1))):=⟨hB.perm,hB.kind,hf,rfl⟩
  generalize (p.setIfInBounds i (sa,na+nb,pw)).eraseIdxIfInBounds (i+1)=p' at *
  obtain⟨X0,hX⟩:∃X0,arrOf st=X0:=⟨_,rfl⟩
  have kk:kindOf (nZ st p')=kd:=hB.kind
  rw[hX]at s1 s2 sz hU
  have S1:=(mB (ky:=ky) (xs:=X0) (lo:=sa) (n:=na) (by omega)).mp s1
  have S2:=(mB (ky:=ky) (xs:=X0) (lo:=sa+na) (n:=nb) (by omega)).mp s2
  have hy0:X0[sa+na]'(by omega)∈(X0.toList.drop (sa+na)).take nb:=by
    rw[ia (by omega)]
    obtain⟨k,rfl⟩:∃k,nb=k+1:=⟨nb-1,by omega⟩
    rw[List.take_succ_cons];exact Qj
  have y0S2:∀y∈(X0.toList.drop (sa+na)).take nb,O.kle (ky (X0[sa+na]'(by omega))) (ky y):=fun y hy=>by
    rw[ia (by omega)]at S2 hy
    obtain⟨k,rfl⟩:∃k,nb=k+1:=⟨nb-1,by omega⟩
    rw[List.take_succ_cons]at S2 hy
    exact yw S2 _ (Qu.mpr rfl) y hy
  have S1z:∀x∈(X0.toList.drop sa).take na,O.kle (ky x) (ky (X0[sa+na-1]'(by omega))):=fun x hx=>by
    obtain⟨j,hj,rfl⟩:=List.mem_iff_getElem.mp hx
    rw[QR,RA,Qs]at hj
    have:=s1 (sa+j) (sa+na-1) (by omega) (by omega) (by omega)
    rw[kA_at (by omega),kA_at (by omega)]at this
    simpa using this
  rw[hX]
  have plain:cY ky ((X0.toList.drop sa).take na++(X0.toList.drop (sa+na)).take nb)->wpS (model prog w) A E s (pure true:SM Bool) Q (nZ st p'):=fun hs=>Qt (h _ hB2 (fun t _=>rfl) (by
    show Seg ky (arrOf st) sa (sa+na+nb)
    rw[hX,SR]
    exact(mB (by omega)).mpr (by rw[qI];exact hs)))
  refine Qn (aZ (by omega) ?_)
  refine Qn (jA hL kk hU (hU _ (Rw _)) S1 (by omega) (by omega) fun k hk g1 g2=>?_)
  dsimp only
  by_cases k0:na-k=0
  . rw[if_pos (by simpa using k0)]
    have:k=na:=by omega
    subst this
    refine plain (dn.mpr ⟨S1,S2,fun x hx y hy=>Q1 (oX (g1 x ?_)) (y0S2 y hy)⟩)
    rw[List.take_take,Nat.min_self];exact hx
  . rw[if_neg (by simpa using k0)]
    refine Qn (aZ (by omega) ?_)
    have ez:sa+k+(na-k)-1=sa+na-1:=by omega
    refine Qn (jA hL kk hU (hU _ (Rw _)) S2 (by omega) (by omega) fun q hq f1 f2=>?_)
    simp only[ez]at f1 f2
    dsimp only
    by_cases q0:q=0
    . rw[if_pos (by simpa using q0)]
      subst q0
      exact plain (dn.mpr ⟨S1,S2,fun x hx y hy=>Q1 (S1z x hx) (kW (f2 y hy))⟩)
    . rw[if_neg (by simpa using q0)]
      have eX:(X0.extract (sa+k) (sa+na)).toList=((X0.toList.drop sa).take na).drop k:=by
        have:=gY X0 (sa+k) (na-k)
        rw[show sa+k+(na-k)=sa+na by omega]at this
        rw[this,List.drop_take,Sb]
      have eY:(X0.extract (sa+na) (sa+na+q)).toList=((X0.toList.drop (sa+na)).take nb).take q:=by
        rw[gY,List.take_take,Su hq]
      have zX:(X0.extract (sa+k) (sa+na)).size=na-k:=by rw[Array.size_extract];omega
      have zY:(X0.extract (sa+na) (sa+na+q)).size=q:=by rw[Array.size_extract];omega
      have sX:cY ky (X0.extract (sa+k) (sa+na)).toList:=by rw[eX];exact List.Pairwise.sublist (List.drop_sublist _ _) S1
      have sY:cY ky (X0.extract (sa+na) (sa+na+q)).toList:=by rw[eY];exact List.Pairwise.sublist (List.take_sublist _ _) S2
      have uX:∀x∈(X0.extract (sa+k) (sa+na)).toList,x∈a₀.toList:=fun x hx=>hU x (by rw[eX]at hx;exact Sl (RZ (Sl hx)))
      have uY:∀x∈(X0.extract (sa+na) (sa+na+q)).toList,x∈a₀.toList:=fun x hx=>hU x (by rw[eY]at hx;exact Sl (RZ (RZ hx)))
      have hy:(X0.extract (sa+na) (sa+na+q))[0]'(by omega)=X0[sa+na]'(by omega):=by simp
      have b1:cD ky [(X0.extract (sa+na) (sa+na+q))[0]'(by omega)] (X0.extract (sa+k) (sa+na)).toList:=fun x hx y hy'=>by
        rw[Qu]at hx
        subst hx
        rw[hy]
        rw[eX]at hy'
        exact oW (g2 y hy')
      have hx:(X0.extract (sa+k) (sa+na))[(X0.extract (sa+k) (sa+na)).size-1]'(by omega)=X0[sa+na-1]'(by omega):=by
        simp only[Array.getElem_extract]
        congr 1
        rw[zX];omega
      have b2:cD ky (X0.extract (sa+na) (sa+na+q)).toList [(X0.extract (sa+k) (sa+na))[(X0.extract (sa+k) (sa+na)).size-1]'(by omega)]:=fun x hx' y hy'=>by
        rw[Qu]at hy'
        subst hy'
        rw[hx]
        rw[eY]at hx'
        exact wO (f1 x hx')
      have fin:∀r g,d6 ky ((X0.extract (sa+k) (sa+na)).toList++(X0.extract (sa+na) (sa+na+q)).toList) r.toList->wpS (model prog w) A E s (do
          modify fun st=>setArr st (n6 (arrOf st) (sa+k) r)
          let st <- get
          pure (failedOf st).isNone) Q (cJ (nZ st p') g):=by
        rintro r g ⟨rp,rs⟩
        have zr:r.size=na-k+q:=by
          have:=rp.length_eq
          rw[Qr,Qs,Qs,Qs,zX,zY]at this
          exact this
        refine Qn (wpS_modify (Qn (wpS_get (Qt ?_))))
        show Q (failedOf st).isNone _
        rw[hf]
        have eT:X0.toList.take (sa+k)=X0.toList.take sa++((X0.toList.drop sa).take na).take k:=by
          rw[List.take_add,List.take_take,Su hk]
        have eD:X0.toList.drop (sa+k+r.size)=((X0.toList.drop (sa+na)).take nb).drop q++X0.toList.drop (sa+na+nb):=by
          rw[zr,show sa+k+(na-k+q)=sa+na+q by omega,List.drop_take]
          obtain⟨u,rfl⟩:∃u,nb=q+u:=⟨nb-q,by omega⟩
          rw[show q+u-q=u by omega,Sb,show sa+na+(q+u)=sa+na+q+u by omega,<- Sb (i:=u),Q0]
        have eN:(n6 X0 (sa+k) r).toList=X0.toList.take sa++(((X0.toList.drop sa).take na).take k++r.toList++((X0.toList.drop (sa+na)).take nb).drop q)++X0.toList.drop (sa+na+nb):=by
          rw[yP (by omega),eT,eD]
          simp only[QQ]
        have eO:X0.toList=X0.toList.take sa++((X0.toList.drop sa).take na++(X0.toList.drop (sa+na)).take nb)++X0.toList.drop (sa+na+nb):=by
          rw[<- qI,SR,<- Sb (i:=na+nb),QQ,Q0,Q0]
        have lP:(X0.toList.take sa).length=sa:=by rw[QR,Qs];omega
        have l1:((X0.toList.drop sa).take na).length=na:=by rw[QR,RA,Qs];omega
        have l2:((X0.toList.drop (sa+na)).take nb).length=nb:=by rw[QR,RA,Qs];omega
        have lM:(((X0.toList.drop sa).take na).take k++r.toList++((X0.toList.drop (sa+na)).take nb).drop q).length=na+nb:=by
          rw[Qr,Qr,QR,RA,l1,l2,Qs,zr];omega
        have mid:(((X0.toList.drop sa).take na).take k++r.toList++((X0.toList.drop (sa+na)).take nb).drop q).Perm ((X0.toList.drop sa).take na++(X0.toList.drop (sa+na)).take nb):=by
          have h3:(((X0.toList.drop sa).take na).take k++(((X0.toList.drop sa).take na).drop k++((X0.toList.drop (sa+na)).take nb).take q)++((X0.toList.drop (sa+na)).take nb).drop q)=(X0.toList.drop sa).take na++(X0.toList.drop (sa+na)).take nb:=by
            rw[<- QQ,Q0,QQ,Q0]
          rw[<- h3]
          rw[eX,eY]at rp
          exact(rp.append_left _).append_right _
        have srtM:cY ky (((X0.toList.drop sa).take na).take k++r.toList++((X0.toList.drop (sa+na)).take nb).drop q):=by
          have memr:∀x∈r.toList,x∈((X0.toList.drop sa).take na).drop k\/x∈((X0.toList.drop (sa+na)).take nb).take q:=fun x hx=>by
            have:=rp.mem_iff.mp hx
            rw[eX,eY]at this
            exact QN.mp this
          have S2':=dn.mp (show cY ky (((X0.toList.drop (sa+na)).take nb).take q++((X0.toList.drop (sa+na)).take nb).drop q) by rw[Q0];exact S2)
          refine dn.mpr ⟨dn.mpr ⟨List.Pairwise.sublist (List.take_sublist _ _) S1,rs,fun x hx y hy=>?_⟩,S2'.2.1,fun x hx y hy=>?_⟩
          . rcases memr y hy with z|z
            . exact Q1 (oX (g1 x hx)) (oW (g2 y z))
            . exact Q1 (oX (g1 x hx)) (y0S2 y (RZ z))
          . rcases QN.mp hx with z|z
            . exact Q1 (S1z x (RZ z)) (kW (f2 y hy))
            . rcases memr x z with z|z
              . exact Q1 (S1z x (Sl z)) (kW (f2 y hy))
              . exact S2'.2.2 x z y hy
        have arr:arrOf (setArr (cJ (nZ st p') g) (n6 (arrOf (cJ (nZ st p') g)) (sa+k) r))=n6 X0 (sa+k) r:=by rw[<- hX];rfl
        have zN:(n6 X0 (sa+k) r).size=X0.size:=by
          rw[<- Qs,eN,Qr,Qr,lM,lP,RA,Qs];omega
        refine h _ ⟨?_,hB.kind,hf,rfl⟩ (fun t ht=>?_) ?_
        . rw[arr]
          refine Array.Perm.trans ?_ hB.perm
          rw[hX]
          refine Array.perm_iff_toList_perm.mpr ?_
          rw[eN]
          exact((mid.append_left _).append_right _).trans (List.Perm.of_eq eO.symm)
        . rw[arr,hX,<- Array.getElem?_toList,<- Array.getElem?_toList,eN]
          conv=>rhs;rw[eO]
          rcases ht with ht|ht
          . have hl:∀m r:List Keyed,(X0.toList.take sa++m++r)[t]?=(X0.toList.take sa)[t]?:=fun m r=>by
              rw[QQ,List.getElem?_append_left (by omega)]
            rw[hl,hl]
          . have hr:∀m r:List Keyed,m.length=na+nb->(X0.toList.take sa++m++r)[t]?=r[t-(sa+(na+nb))]?:=fun m r hm=>by
              rw[List.getElem?_append_right (by rw[Qr,lP,hm];omega),Qr,lP,hm]
            rw[hr _ _ lM,hr _ _ (by rw[Qr,l1,l2])]
        . rw[arr,SR]
          refine(mB (by omega)).mpr ?_
          rw[eN,QQ,List.drop_append_of_le_length (by omega),List.drop_of_length_le (by omega),List.nil_append,List.take_append_of_le_length (by omega),RS (by omega)]
          exact srtM
      by_cases hle:na-k<=q
      . rw[if_pos hle]
        exact Qn (HY (nO.mk hL uX uY (fun x hx' y hy'=>by
          rw[ia (i:=(X0.extract (sa+k) (sa+na)).size-1) (by omega),List.drop_of_length_le (by rw[Qs];omega)]at hy'
          exact b2 x hx' y hy') kk) sX sY (by omega) (by omega) b1 fin)
      . rw[if_neg hle]
        exact Qn (Ia (i8.mk hL uX uY (by omega) b1 sX sY kk) (by omega) b2 fin)
end
end TS
namespace TS
open PySem PyProof.Rows
section
variable{O:KeyOrd}{ky:Keyed->O.α}{prog:Program}{w:World}{A:Around}{E:Value->Shared->Prop}{s:Shared}{kd:SortKind}{a₀:Array Keyed}{p:Array (Nat×Nat×Nat)}
noncomputable def d9(ky:Keyed->O.α)(xs:Array Keyed):List (Nat×Nat×Nat)->Nat->Nat->Prop
 | [],a,b=>a=b
 | r::l,a,b=>r.1=a/\1<=r.2.1/\Seg ky xs a (a+r.2.1)/\d9 ky xs l (a+r.2.1) b
theorem kT{xs:Array Keyed}:∀{l:List (Nat×Nat×Nat)} {a b:Nat},d9 ky xs l a b->a+l.length<=b
 | [],a,b,h=>by cases (show a=b from h);exact Ql _
 | r::l,a,b,⟨_,h1,_,h2⟩=>by have:=kT h2;rw[Qw];omega
theorem jk{xs:Array Keyed}{m:List (Nat×Nat×Nat)}:∀{l:List (Nat×Nat×Nat)} {a b:Nat},d9 ky xs (l++m) a b↔∃c,d9 ky xs l a c/\d9 ky xs m c b
 | [],a,b=>⟨fun h=>⟨a,rfl,h⟩,fun⟨c,h1,h2⟩=>by cases (show a=c from h1);exact h2⟩
 | r::l,a,b=>by
  rw[List.cons_append]
  constructor
  ·rintro⟨h1,h2,h3,h4⟩
   obtain⟨c,h5,h6⟩:=jk.mp h4
   exact⟨c,⟨h1,h2,h3,h5⟩,h6⟩
  ·rintro⟨c,⟨h1,h2,h3,h5⟩,h6⟩
   exact⟨h1,h2,h3,jk.mpr ⟨c,h5,h6⟩⟩
theorem qL{xs ys:Array Keyed}{a b:Nat}(h:∀t,a<=t->t<b->xs[t]?=ys[t]?)(hs:Seg ky xs a b):Seg ky ys a b:=fun i j hi hij hj=>by
 rw[<- jU (h i hi (by omega)),<- jU (h j (by omega) hj)]
 exact hs i j hi hij hj
theorem gz{xs ys:Array Keyed}:∀{l:List (Nat×Nat×Nat)} {a b:Nat},(∀t,a<=t->t<b->xs[t]?=ys[t]?)->d9 ky xs l a b->d9 ky ys l a b
 | [],a,b,_,h=>h
 | r::l,a,b,e,⟨h1,h2,h3,h4⟩=>by
  have:=kT h4
  exact⟨h1,h2,qL (fun t z1 z2=>e t z1 (by omega)) h3,gz (fun t z1 z2=>e t (by omega) z2) h4⟩
theorem vN(hL:lZ ky prog w A E s kd a₀){st:SortSt}(hB:SB a₀ kd p st){i lo:Nat}{Q:Bool->SortSt->Prop}(hi:i+1<p.size)(hR:d9 ky (arrOf st) p.toList 0 lo)(hl:lo<=a₀.size)
  (h:∀p' st',SB a₀ kd p' st'->p'.size+1=p.size->d9 ky (arrOf st') p'.toList 0 lo->(∀t,lo<=t->(arrOf st')[t]?=(arrOf st)[t]?)->Q true st'):wpS (model prog w) A E s (mergeAt' i) Q st:=by
 obtain⟨⟨sa,na,pw⟩,e1⟩:∃r,p[i]=r:=⟨_,rfl⟩
 obtain⟨⟨sb,nb,pw2⟩,e2⟩:∃r,p[i+1]=r:=⟨_,rfl⟩
 have d1:p.toList=p.toList.take i++((sa,na,pw)::(sb,nb,pw2)::p.toList.drop (i+2)):=by
  rw[<- e1,<- e2]
  have z1:i<p.toList.length:=by rw[Qs];omega
  have z2:i+1<p.toList.length:=by rw[Qs];omega
  have:=RV z1
  rw[RV z2]at this
  rw[<- R0,<- R0,<- this,Q0]
 have hR':=hR
 rw[d1]at hR'
 obtain⟨c,r1,r2,n1,g1,r3,n2,g2,r4⟩:=jk.mp hR'
 simp only at r2 n1 g1 r3 n2 g2 r4
 subst r2 r3
 have le4:=kT r4
 have le1:=kT r1
 have el:((p.setIfInBounds i (sa,na+nb,pw)).eraseIdxIfInBounds (i+1)).toList=p.toList.take i++((sa,na+nb,pw)::p.toList.drop (i+2)):=by
  rw[Array.toList_eraseIdxIfInBounds,Array.toList_setIfInBounds]
  conv=>lhs;rw[d1]
  have lt:(p.toList.take i).length=i:=by rw[QR,Qs];omega
  rw[List.set_append_right _ _ (by omega),lt,Nat.sub_self,List.set_cons_zero,List.eraseIdx_append_of_length_le (by omega),lt,show i+1-i=1 by omega]
  rfl
 refine Ic hL hB (by rw[getElem?_pos p i (by omega),e1]) (by rw[getElem?_pos p (i+1) hi,e2]) n1 n2 (by omega) g1 g2 fun st' hB' ag sg=>h _ st' hB' ?_ ?_ fun t ht=>ag t (.inr (by omega))
 ·have:=Rq List.length el
  rw[Qs,Qr,Qw,QR,RA,Qs]at this
  omega
 ·rw[el]
  refine jk.mpr ⟨sa,gz (fun t _ z=>(ag t (.inl z)).symm) r1,rfl,by show 1<=na+nb;omega,by show Seg ky _ sa (sa+(na+nb));rw[<- SR];exact sg,?_⟩
  show d9 ky _ _ (sa+(na+nb)) lo
  rw[<- SR]
  exact gz (fun t z _=>(ag t (.inr z)).symm) r4
noncomputable def vC(size lo n:Nat):SM (ForInStep (Option Unit×Nat)):=do
 let st <- get
 match (pendingOf st).back? with
 | some (s1,n1,_)=>do
  let c <- forIn [0:size] ((none,()):Option Unit×Unit) fun _ _=>do
   let st <- get
   match (if (pendingOf st).size>1 then(pendingOf st)[(pendingOf st).size-2]? else none)with
   | some (_,_,od) =>
    if od<=power' size (2*s1+n1) (2*s1+n1+n1+n) size then pure (.done (none,()))
    else do
     let b <- mergeAt' ((pendingOf st).size-2)
     if (!b)=true then pure (.done (some (),()))else pure (.yield (none,()))
   | _=>pure (.done (none,()))
  match c.1 with
  | some r=>pure (.done (some r,lo))
  | none=>do
   modify fun s=>setPending s ((pendingOf s).modify ((pendingOf s).size-1) fun x=>(x.1,x.2.1,power' size (2*s1+n1) (2*s1+n1+n1+n) size))
   modify fun s=>setPending s ((pendingOf s).push (lo,n,0))
   pure (.yield (none,lo+n))
 | _=>do
  modify fun s=>setPending s ((pendingOf s).push (lo,n,0))
  pure (.yield (none,lo+n))
theorem Em{xs:Array Keyed}(v:Nat){a b:Nat}(h:d9 ky xs p.toList a b):d9 ky xs (p.modify (p.size-1) fun x=>(x.1,x.2.1,v)).toList a b:=by
 have key:∀(l:List (Nat×Nat×Nat)) (k:Nat) (a b:Nat),d9 ky xs l a b->d9 ky xs (l.modify k fun x=>(x.1,x.2.1,v)) a b:=by
  intro l
  induction l with
  | nil=>intro k a b h;cases k<;>exact h
  | cons r l ih =>
   intro k a b ⟨h1,h2,h3,h4⟩
   cases k with
   | zero=>exact⟨h1,h2,h3,h4⟩
   | succ k=>exact⟨h1,h2,h3,ih k _ _ h4⟩
 rw[Array.toList_modify]
 exact key _ _ _ _ h
theorem yJ(hL:lZ ky prog w A E s kd a₀){st:SortSt}{lo n:Nat}{Q:ForInStep (Option Unit×Nat)->SortSt->Prop}(hB:SB a₀ kd p st)(hR:d9 ky (arrOf st) p.toList 0 lo)(hn:1<=n)(hz:lo+n<=a₀.size)(hs:Seg ky (arrOf st) lo (lo+n))
  (h:∀p' st',SB a₀ kd p' st'->d9 ky (arrOf st') p'.toList 0 (lo+n)->Q (.yield (none,lo+n)) st'):wpS (model prog w) A E s (vC a₀.size lo n) Q st:=by
 have push:∀p' st',SB a₀ kd p' st'->d9 ky (arrOf st') p'.toList 0 lo->Seg ky (arrOf st') lo (lo+n)->Q (.yield (none,lo+n)) (setPending st' (p'.push (lo,n,0))):=fun p' st' b r g=>h (p'.push (lo,n,0)) _ ⟨b.perm,b.kind,b.failed,rfl⟩ (by
  rw[Sy]
  exact jk.mpr ⟨lo,r,rfl,hn,g,rfl⟩)
 unfold vC
 refine Qn (wpS_get ?_)
 rw[hB.pend]
 cases eb:p.back? with
 | none =>
  dsimp only
  refine Qn (wpS_modify (Qt ?_))
  rw[hB.pend]
  exact push p st hB hR hs
 | some r =>
  obtain⟨s1,n1,_⟩:=r
  dsimp only
  refine Qn (RY (Ra (I:=fun x c st'=>c=(none,())/\∃p',SB a₀ kd p' st'/\d9 ky (arrOf st') p'.toList 0 lo/\Seg ky (arrOf st') lo (lo+n)) (Q:=fun c st'=>c=(none,())/\∃p',SB a₀ kd p' st'/\d9 ky (arrOf st') p'.toList 0 lo/\Seg ky (arrOf st') lo (lo+n)) ?_ (fun _ _ z=>z) ⟨rfl,p,hB,hR,hs⟩) ?_)
  ·rintro x c st' _ hx ⟨rfl,p',hB',hR',hs'⟩
   refine Qn (wpS_get ?_)
   rw[hB'.pend]
   by_cases h1:p'.size>1
   ·rw[if_pos h1,getElem?_pos p' (p'.size-2) (by omega)]
    obtain⟨⟨q1,q2,od⟩,eq⟩:∃r,p'[p'.size-2]=r:=⟨_,rfl⟩
    rw[eq]
    dsimp only
    split
    ·exact Qt ⟨rfl,p',hB',hR',hs'⟩
    ·refine Qn (vN hL hB' (by omega) hR' (by omega) fun p2 st2 b1 b2 b3 b4=>?_)
     exact Qt ⟨rfl,p2,b1,b3,qL (fun t z _=>(b4 t z).symm) hs'⟩
   ·rw[if_neg h1]
    exact Qt ⟨rfl,p',hB',hR',hs'⟩
  ·rintro c st' ⟨rfl,p',hB',hR',hs'⟩
   dsimp only
   refine Qn (wpS_modify (Qn (wpS_modify (Qt ?_))))
   rw[hB'.pend]
   exact push _ (setPending st' _) ⟨hB'.perm,hB'.kind,hB'.failed,rfl⟩ (Em _ hR') hs'
theorem ye{M:Model}{α σ:Type}{m m':StateT σ Sem α}{Q:α->σ->Prop}{st:σ}(e:m=m')(h:wpS M A E s m' Q st):wpS M A E s m Q st:=e ▸ h
theorem runs_ok(hL:lZ ky prog w A E s kd a₀){st:SortSt}{Q:Unit->SortSt->Prop}(hB:SB a₀ kd #[] st)(h2:1<=a₀.size)
    (h:∀st',(arrOf st').Perm a₀->failedOf st'=none->Seg ky (arrOf st') 0 a₀.size->Q () st'):wpS (model prog w) A E s sortRuns' Q st:=by
  rw[sortRuns'_eq]
  refine Qn (wpS_get ?_)
  dsimp only
  simp only[hB.size]
  generalize minRun' a₀.size a₀.size 0=mr
  refine Qn (RY (Ra (I:=fun x c st' => ∃lo p,c=(none,lo)/\SB a₀ kd p st'/\d9 ky (arrOf st') p.toList 0 lo/\lo<=a₀.size/\x<=lo)
    (Q:=fun c st' => ∃p,c=(none,a₀.size)/\SB a₀ kd p st'/\d9 ky (arrOf st') p.toList 0 a₀.size) ?_ ?_ ⟨0,#[],rfl,hB,rfl,QC _,Ql _⟩) ?_)
  . rintro x c st' _ hx ⟨lo,p,rfl,hB',hR,hlo,hxl⟩
    dsimp only
    by_cases hge:lo >= a₀.size
    . rw[if_pos hge]
      have:lo=a₀.size:=by omega
      subst this
      exact Qt ⟨p,rfl,hB',hR⟩
    . rw[if_neg hge]
      refine Qn (LN hL (n:=a₀.size-lo) (by omega) (by omega) hB' fun m st2 hB2 hP2 hm1 hm2 hs2=>?_)
      dsimp only
      by_cases hlt:m<mr
      . rw[if_pos hlt]
        refine Qn (wpS_lift (wpAny_rule ⟨rfl,?_⟩))
        refine Qn (LQ hL (n:=min (a₀.size-lo) mr) (by omega) (by omega) hB2 hs2 fun st3 hB3 hP3 hs3=>?_)
        rw[if_neg (by simp)]
        refine ye (m':=vC a₀.size lo (min (a₀.size-lo) mr)) ?_ ?_
        . unfold vC
          congr 1;funext st5
          generalize (pendingOf st5).back?=ob
          cases ob with
          | none=>rfl
          | some r5 =>
            obtain⟨u1,u2,u3⟩:=r5
            dsimp only
            congr 1
            funext c5
            obtain⟨c6,c7⟩:=c5
            cases c6<;>rfl
        . exact yJ hL hB3 (gz (fun t _ z=>(hP2.trans hP3) t z) hR) (by omega) (by omega) hs3 fun p' st' b1 b2=>⟨_,p',rfl,b1,b2,by omega,by omega⟩
      . rw[if_neg hlt]
        refine ye (m':=vC a₀.size lo (m)) ?_ ?_
        . unfold vC
          congr 1;funext st5
          generalize (pendingOf st5).back?=ob
          cases ob with
          | none=>rfl
          | some r5 =>
            obtain⟨u1,u2,u3⟩:=r5
            dsimp only
            congr 1
            funext c5
            obtain⟨c6,c7⟩:=c5
            cases c6<;>rfl
        . exact yJ hL hB2 (gz (fun t _ z=>hP2 t z) hR) hm1 (by omega) hs2 fun p' st' b1 b2=>⟨_,p',rfl,b1,b2,by omega,by omega⟩
  . rintro c st' ⟨lo,p,rfl,hB',hR,hlo,hxl⟩
    have:lo=a₀.size:=by omega
    subst this
    exact⟨p,rfl,hB',hR⟩
  . rintro c st' ⟨p,rfl,hB',hR⟩
    dsimp only
    have p0:1<=p.size:=by
      rcases RK 0 p.size with z|z
      . exact z
      . have:p.toList=[]:=List.eq_nil_of_length_eq_zero (by rw[Qs];omega)
        rw[this]at hR
        have:0=a₀.size:=hR
        omega
    have ple:=kT hR
    rw[Qs]at ple
    refine Qn (RY (Ra (I:=fun x c st2=>c=(none,())/\∃p',SB a₀ kd p' st2/\d9 ky (arrOf st2) p'.toList 0 a₀.size/\1<=p'.size/\(p'.size<=1\/p'.size+x<=a₀.size))
      (Q:=fun c st2=>c=(none,())/\∃p',SB a₀ kd p' st2/\d9 ky (arrOf st2) p'.toList 0 a₀.size/\p'.size=1) ?_ ?_ ⟨rfl,p,hB',hR,p0,.inr (by omega)⟩) ?_)
    . rintro x c st2 _ hx ⟨rfl,p',hB2,hR2,g1,g2⟩
      refine Qn (wpS_get ?_)
      simp only[hB2.pend]
      by_cases h1:p'.size<=1
      . rw[if_pos h1]
        exact Qt ⟨rfl,p',hB2,hR2,by omega⟩
      . rw[if_neg h1]
        have go:∀(i:Nat) (R:ForInStep (Option Unit×Unit)->SortSt->Prop),i+1<p'.size->(∀p3 st3,SB a₀ kd p3 st3->p3.size+1=p'.size->d9 ky (arrOf st3) p3.toList 0 a₀.size->R (.yield (none,())) st3)->wpS (model prog w) A E s (do
            let b <- mergeAt' i
            if (!b)=true then pure (ForInStep.done (some (),()))else pure (ForInStep.yield (none,()))) R st2:=fun i R hi q =>
          Qn (vN hL hB2 hi hR2 (Ql _) fun p3 st3 b1 b2 b3 _=>Qt (q p3 st3 b1 b2 b3))
        refine go _ _ ?_ fun p3 st3 b1 b2 b3=>⟨rfl,p3,b1,b3,by omega,by omega⟩
        have sm:∀b:Bool,(if b=true then p'.size-2-1 else p'.size-2)+1<p'.size:=fun b=>by
          cases b with
          | true=>rw[if_pos rfl];omega
          | false=>rw[if_neg (by simp)];omega
        exact sm _
    . rintro c st2 ⟨rfl,p',hB2,hR2,g1,g2⟩
      exact⟨rfl,p',hB2,hR2,by omega⟩
    . rintro c st2 ⟨rfl,p',hB2,hR2,e⟩
      refine Qt (h st2 hB2.perm hB2.failed ?_)
      obtain⟨r,er⟩:∃r,p'.toList=[r]:=List.length_eq_one_iff.mp (by rw[Qs];exact e)
      rw[er]at hR2
      obtain⟨r1,r2,r3,r4⟩:=hR2
      have r4:0+r.2.1=a₀.size:=r4
      rw[r4]at r3
      exact r3
end
end TS
namespace Sp
open PySem PySem.Spec PyProof.Rows L2
open PySem.W (KatLex KatTups kat_kind kat_lt)
variable{b ks ns t:List Int}{h:Heap}{v:V}{a:Addr}{vs:List V}{ix k n:Nat}{ow ow':Ow}{H H':Hp}{σ:L2.St}{ρ ρ1:ah}{x:Str}{d:D}{Φ:Fx}{sc:Scope}{ap ap1 ap2 cp cp1 cp2 lp p p1 p4 pos r1 r2:Pos}{ds:List D}{K:W.Frag}{l:List (List Int)}{N j key o:Int}{o':HO}{ls:List (List (List Int))}{kvs:List (aR×V)}{c e e1 e2 tg:Expr}{f:Int->Int->Int}{ss:List Stmt}{st:Stmt}{pins:List (Addr×Obj)}{s:Shared}{P:Program}{w:World}{es:List Expr}{X:Cx}
theorem g9:∀a:List Int,HT.lexLt a a=false
 | []=>rfl
 | x::xs=>by rw[HT.lexLt_cons,if_pos rfl,g9 xs]
theorem iQ:∀a b c:List Int,HT.lexLt a b=true->HT.lexLt b c=true->HT.lexLt a c=true
 | [],[],c,h,_=>by cases h
 | [],y::ys,[],_,h=>by cases h
 | [],y::ys,z::zs,_,_=>rfl
 | x::xs,[],c,h,_=>by cases h
 | x::xs,y::ys,[],_,h=>by cases h
 | x::xs,y::ys,z::zs,h1,h2=>by
  rw[HT.lexLt_cons]at h1 h2⊢
  by_cases e1:x=y
  ·rw[if_pos e1]at h1
   by_cases e2:y=z
   ·rw[if_pos e2]at h2
    rw[if_pos (e1.trans e2)]
    exact iQ xs ys zs h1 h2
   ·rw[if_neg e2]at h2
    rw[if_neg (e1 ▸ e2),e1];exact h2
  ·rw[if_neg e1,Q4]at h1
   by_cases e2:y=z
   ·rw[if_neg (fun e=>e1 (e.trans e2.symm)),Q4];omega
   ·rw[if_neg e2,Q4]at h2
    rw[if_neg (by omega),Q4];omega
theorem vR:∀a b c:List Int,HT.lexLt a c=true->HT.lexLt a b=true\/HT.lexLt b c=true
 | [],b,[],h=>by cases h
 | x::xs,b,[],h=>by cases h
 | [],[],z::zs,_=>.inr rfl
 | [],y::ys,z::zs,_=>.inl rfl
 | x::xs,[],z::zs,_=>.inr rfl
 | x::xs,y::ys,z::zs,h=>by
  rw[HT.lexLt_cons]at h⊢
  rw[HT.lexLt_cons y z]
  by_cases e:x=z
  ·rw[if_pos e]at h
   by_cases e1:x=y
   ·rw[if_pos e1,if_pos (e1 ▸ e)];exact vR xs ys zs h
   ·rw[if_neg e1,if_neg (fun q=>e1 (e.trans q.symm)),Q4,Q4];omega
  ·rw[if_neg e,Q4]at h
   by_cases e1:x=y
   ·right;rw[if_neg (by omega),Q4];omega
   ·rw[if_neg e1]
    by_cases e2:y=z
    ·left;rw[Q4];omega
    ·rw[if_neg e2,Q4,Q4];omega
theorem jt:∀a b:List Int,HT.lexLt a b=false->HT.lexLt b a=false->a=b
 | [],[],_,_=>rfl
 | [],y::ys,h,_=>by cases h
 | x::xs,[],_,h=>by cases h
 | x::xs,y::ys,h1,h2=>by
  rw[HT.lexLt_cons]at h1 h2
  by_cases e:x=y
  ·rw[if_pos e]at h1
   rw[if_pos e.symm]at h2
   rw[e,jt xs ys h1 h2]
  ·rw[if_neg e,R8]at h1
   rw[if_neg (Rv e),R8]at h2
   omega
noncomputable def jS:KeyOrd:=⟨List Int,HT.lexLt,g9,iQ,vR,jt⟩
noncomputable def ql(x:List Int):List (List Int)->List (List Int)
 | []=>[x]
 | y::l=>if HT.lexLt y x=true then y::ql x l else x::y::l
noncomputable def bN:List (List Int)->List (List Int)
 | []=>[]
 | x::l=>ql x (bN l)
theorem lr(x:List Int):∀l,(ql x l).Perm (x::l)
 | []=>List.Perm.refl _
 | y::l=>by
  rw[ql]
  split
  ·exact((lr x l).cons y).trans (List.Perm.swap x y l)
  ·exact List.Perm.refl _
theorem b9:∀l,(bN l).Perm l
 | []=>List.Perm.refl _
 | x::l=>(lr x _).trans ((b9 l).cons x)
noncomputable abbrev lm(a b:List Int):Prop:=HT.lexLt b a=false
theorem zp{a c:List Int}(h1:lm a b)(h2:lm b c):lm a c:=Q1 (O:=jS) h1 h2
theorem tE(x:List Int):∀{l},l.Pairwise lm->(ql x l).Pairwise lm
 | [],_=>List.pairwise_singleton _ _
 | y::l,h=>by
  rw[ql]
  obtain⟨h1,h2⟩:=Q6.mp h
  split
  ·rename_i e
   refine Q6.mpr ⟨fun z hz=>?_,tE x h2⟩
   rcases Qo.mp ((lr x l).mem_iff.mp hz)with rfl|hz
   ·exact RE (O:=jS) e
   ·exact h1 z hz
  ·rename_i e
   have e:lm x y:=by simpa using e
   exact Q6.mpr ⟨fun z hz=>by
    rcases Qo.mp hz with rfl|hz
    ·exact e
    ·exact zp e (h1 z hz),h⟩
theorem jN:∀l,(bN l).Pairwise lm
 | []=>List.Pairwise.nil
 | x::l=>tE x (jN l)
theorem qK:∀{a b:List (List Int)},a.Perm b->a.Pairwise lm->b.Pairwise lm->a=b
 | [],b,p,_,_=>by rw[List.nil_perm.mp p]
 | x::a,[],p,_,_=>by have:=p.length_eq;cases this
 | x::a,y::b,p,ha,hb=>by
  obtain⟨a1,a2⟩:=Q6.mp ha
  obtain⟨b1,b2⟩:=Q6.mp hb
  have e:x=y:=by
   rcases Qo.mp (p.mem_iff.mp Qj)with z|z
   ·exact z
   ·rcases Qo.mp (p.symm.mem_iff.mp Qj)with w|w
    ·exact w.symm
    ·exact KeyOrd.kle_antisymm (O:=jS) (a1 y w) (b1 x z)
  subst e
  rw[qK p.cons_inv a2 b2]
noncomputable def dR(h:Heap)(v:Value):List Int:=match v with
 | .ref b=>(match h.get? b with
  | some o=>(match o.data with | .seq its _=>its.toList.map numOf|_=>[])
  | none=>[])
 | _=>[]
noncomputable def fQ(h:Heap)(v:Value)(ns:List Int):Prop:=∃b o its m,v=.ref b/\h.get? b=some o/\o.cls=.type "tuple" /\ o.data=.seq its m/\aD (ns.map V.int) its.toList/\ns≠[]
theorem qF:∀{ns:List Int} {us:List Value},aD (ns.map V.int) us->us.map numOf=ns
 | [],_,.nil=>rfl
 | n::ns,_,.cons r t=>by
  obtain⟨k,rfl⟩:=r
  rw[QJ,qF t];rfl
theorem fQ.kv{v:Value}(t:fQ h v ns):dR h v=ns:=by
 obtain⟨b,o,its,m,rfl,ho,_,hd,hv,_⟩:=t
 unfold dR
 dsimp only
 rw[ho]
 dsimp only
 rw[hd]
 exact qF hv
theorem fQ.mono{h':Heap}{v:Value}(k:∀b o,o.cls=.type "tuple" -> h.get? b=some o->h'.get? b=some o)(t:fQ h v ns):fQ h' v ns:=by
 obtain⟨b,o,its,m,e,ho,hc,r⟩:=t
 exact⟨b,o,its,m,e,k b o hc ho,hc,r⟩
theorem vV{h:Heap}:∀{vs:List Value},(∀v∈vs,∃ns,fQ h v ns)->∃fs,KatTups h vs fs/\fs.length=vs.length/\∀v∈fs,∃n t,v=Value.int n t
 | [],_=>⟨[],trivial,rfl,fun v hv=>by cases hv⟩
 | v::vs,ht=>by
  obtain⟨fs,h1,h2,h3⟩:=vV fun v hv=>ht v (Qi _ hv)
  obtain⟨ns,b,o,its,m,rfl,ho,hc,hd,hv,hn⟩:=ht v Qj
  cases ns with
  | nil=>exact absurd rfl hn
  | cons n ns =>
   obtain⟨i0⟩:=its
   cases hv with
   | cons q1 q2 =>
    obtain⟨t,rfl⟩:=q1
    exact⟨.int n t::fs,W.KatTups.cons ho hc hd rfl h1,by rw[Qw,Qw,h2],fun v hv=>by
     rcases Qo.mp hv with rfl|hv
     ·exact⟨n,t,rfl⟩
     ·exact h3 v hv⟩
section
variable{prog:Program}{A:Around}{E:Value->Shared->Prop}
theorem BI{b:Bool}{U:List Keyed}(hU:∀x∈U,∃ns,fQ s.heap x.1 ns):TS.Lts (O:=jS) (fun x=>dR s.heap x.1) (model prog w) A E s (tuples' b) U:=by
 intro x hx y hy st Q hk h
 obtain⟨ns,tx⟩:=hU x hx
 obtain⟨ms,ty⟩:=hU y hy
 have e1:=tx.kv
 have e2:=ty.kv
 obtain⟨bx,ox,ix,mx,ex,hox,hcx,hdx,hvx,_⟩:=tx
 obtain⟨by',oy,iy,my,ey,hoy,hcy,hdy,hvy,_⟩:=ty
 rw[lt'_eq]
 refine Qn (wpS_get ?_)
 rw[hk,ex,ey]
 refine Qn (wpS_lift (wpAny_attempt (kat_lt hox hdx hoy hdy (tm ns ms _ _ 0 hvx hvy ⟨rfl,?_⟩))))
 have l1:ns.length=ix.size:=by simpa using hvx.length
 have l2:ms.length=iy.size:=by simpa using hvy.length
 rw[<- l1,<- l2,zh]
 replace h:Q (some (HT.lexLt (dR s.heap x.1) (dR s.heap y.1))) st:=h
 rw[e1,e2]at h
 exact Qt h
theorem qk{vs:List Value}{P:PySem.Fin->Shared->Prop}(ho:s.heap.get? a=some (seqObj "list" vs.toArray n))(h2:2<=vs.length)(hz:vs.length<=sizeLine)(ht:∀v∈vs,∃ns,fQ s.heap v ns)
  (h:∀out:Array Value,out.toList.Perm vs->out.toList.Pairwise (fun u v=>lm (dR s.heap u) (dR s.heap v))->P (.done (.ret .none)) { s with heap:=sortedHeap s.heap a vs out }):wpAny (model prog w) A (Builtin.«list.sort» ⟨[.ref a],[]⟩) P E s:=by
 rw[list_sort_plain]
 have ha:a<s.heap.objs.size:=Qy ho
 refine Qh (listItems_at ho rfl ?_)
 refine Qh (listUpdate_at ho rfl ?_ (by rw[QI];exact hz) (QC _))
 obtain⟨e1,ho1⟩:∃e1,(s.heap.update a (Obj.mapSeq fun _ => #[])).get? a=some (seqObj "list" #[] e1):=⟨_,get?_update_seq ho fun _ => #[]⟩
 refine Qh (seqEpoch_at ho1 rfl ?_)
 refine Qh (wpAny_newTuple ?_ (by show vs.length<=_;exact hz))
 refine Qh (wpAny_newList ?_ (QC _))
 refine Q7 ?_
 have sz1:(s.heap.update a (Obj.mapSeq fun _=>(#[]:Array Value))).objs.size=s.heap.objs.size:=Heap.size_update _ _ _
 have ke:∀b o,b≠a->s.heap.get? b=some o->(((s.heap.update a (Obj.mapSeq fun _ => #[])).push (seqObj "tuple" vs.toArray 0)).push (seqObj "list" #[] 0)).get? b=some o:=fun b o hb e=>by
  refine Qk _ (Qk _ ?_)
  rw[Heap.get?_update_ne _ _ _ _ hb];exact e
 have ho6:(((s.heap.update a (Obj.mapSeq fun _ => #[])).push (seqObj "tuple" vs.toArray 0)).push (seqObj "list" #[] 0)).get? a=some (seqObj "list" #[] e1):=Qk _ (Qk _ ho1)
 have kt:∀b o,o.cls=.type "tuple" -> s.heap.get? b=some o->(((s.heap.update a (Obj.mapSeq fun _ => #[])).push (seqObj "tuple" vs.toArray 0)).push (seqObj "list" #[] 0)).get? b=some o:=fun b o hc e=>ke b o (fun z=>by
  subst z;rw[ho]at e;cases e;injection hc with hc;exact absurd hc (by decide)) e
 show wpAny (model prog w) A _ P E { s with heap:=((s.heap.update a (Obj.mapSeq fun _ => #[])).push (seqObj "tuple" vs.toArray 0)).push (seqObj "list" #[] 0) }
 dsimp only
 have hf:∀out,sortedHeap s.heap a vs out=(((s.heap.update a (Obj.mapSeq fun _ => #[])).push (seqObj "tuple" vs.toArray 0)).push (seqObj "list" #[] 0)).update a (Obj.mapSeq fun _=>out):=fun out=>rfl
 generalize ((s.heap.update a (Obj.mapSeq fun _ => #[])).push (seqObj "tuple" vs.toArray 0)).push (seqObj "list" #[] 0)=h6 at *
 have ht6:∀v∈vs,fQ h6 v (dR s.heap v):=fun v hv=>by
  obtain⟨ns,t⟩:=ht v hv
  rw[t.kv];exact t.mono kt
 have kv6:∀v∈vs,dR h6 v=dR s.heap v:=fun v hv=>(ht6 v hv).kv
 have hn2:¬ vs.toArray.size<2:=by rw[QI];omega
 rw[if_neg hn2,if_neg hn2]
 obtain⟨fs,k1,k2,k3⟩:=vV (h:=h6) (vs:=vs) fun v hv=>⟨_,ht6 v hv⟩
 refine Qh (kat_kind (T:=.type "int") (s:={ s with heap:=h6 }) k1 (by omega) (fun v hv=>?_) rfl ?_)
 ·obtain⟨n,t,rfl⟩:=k3 v hv
  exact W.Looks.of_pure rfl
 have mz:∀x∈(pairsOf vs).toList,x.1=x.2/\x.1∈vs:=fun x hx=>mem_zip_self (by rw[<- pairsOf_toList];exact hx)
 refine Qh (Rb (TS.runs_ok (O:=jS) (ky:=fun x=>dR h6 x.1) (s:={ s with heap:=h6 }) (a₀:=pairsOf vs) (kd:=tuples' (Value.type "int" != Value.type "tuple")) (st:=SortSt.mk' (tuples' (Value.type "int" != Value.type "tuple")) (vs.toArray.zip vs.toArray) #[] 7 none)
  (Q:=fun _ st'=>(arrOf st').Perm (pairsOf vs)/\failedOf st'=none/\TS.Seg (O:=jS) (fun x=>dR h6 x.1) (arrOf st') 0 (pairsOf vs).size)
  (BI (s:={ s with heap:=h6 }) fun x hx=>⟨_,ht6 _ (mz x hx).2⟩) ⟨Array.Perm.refl _,rfl,rfl,rfl⟩ (by rw[pairsOf_size];omega) fun st' a1 a2 a3=>⟨a1,a2,a3⟩) ?_ fun _ _ e=>e)
 rintro⟨⟨⟩,st'⟩ s' ⟨rfl,hp,hfl,hs⟩
 dsimp only
 have hl:(arrOf st').toList.Perm (vs.zip vs):=by rw[<- pairsOf_toList];exact Array.perm_iff_toList_perm.mp hp
 have hm:∀x∈(arrOf st').toList,x.1=x.2/\x.1∈vs:=fun x hx=>mem_zip_self (hl.mem_iff.mp hx)
 refine Qh (seqEpoch_at ho6 rfl ?_)
 refine Qh (listUpdate_at ho6 rfl ?_ (QC _) (by refine QA (Nat.le_of_eq ((Array.size_map ..).trans (hp.size_eq.trans (pairsOf_size _)))) (Nat.le_succ_of_le hz)))
 rw[hfl]
 simp only[bne_self_eq_false,Ry,SK]
 refine Qq ?_
 have:=h ((arrOf st').map (·.2)) ?_ ?_
 ·rw[hf]at this;exact this
 ·rw[Array.toList_map]
  have:=hl.map Prod.snd
  rw[List.map_snd_zip (Ql _)]at this
  exact this
 ·rw[Array.toList_map,SA,List.pairwise_iff_getElem]
  intro i j hi hj hij
  have hi':i<(arrOf st').size:=by simpa using hi
  have hj':j<(arrOf st').size:=by simpa using hj
  replace hs:TS.Seg (O:=jS) (fun x=>dR h6 x.1) (arrOf st') 0 (pairsOf vs).size:=hs
  have q:=hs i j (QC _) (RW hij) (by rw[<- hp.size_eq];exact hj')
  rw[TS.kA_at (O:=jS) (ky:=fun x=>dR h6 x.1) hi',TS.kA_at (O:=jS) (ky:=fun x=>dR h6 x.1) hj']at q
  obtain⟨m1,m2⟩:=hm _ (Rw hi')
  obtain⟨m3,m4⟩:=hm _ (Rw hj')
  rw[R0,R0,<- m1,<- m3,<- kv6 _ m2,<- kv6 _ m4]
  exact q
theorem uN{l:Addr}{vs:List Value}{Q:Value->Shared->Prop}(hl:s.heap.IsList l vs.toArray)(h2:2<=vs.length)(hz:vs.length<=sizeLine)(ht:∀v∈vs,∃ns,fQ s.heap v ns)
  (h:∀out:Array Value,out.toList.Perm vs->out.toList.Pairwise (fun u v=>lm (dR s.heap u) (dR s.heap v))->Q (.ref (s.heap.objs.size+1)) { s with heap:=sortedAll s.heap vs out }):wpAny (model prog w) A (call (.builtin "sorted") [.ref l]) Q E s:=by
 refine Calls.call_function_entry kind_sorted plain_sorted entry_sorted (args_sorted1 _) ?_
 unfold Builtin.«sorted»
 refine Qh (m:=checkCount "sorted" 1 1 _) (Qq ?_)
 refine Qh (collect_list hl ?_ hz)
 refine Qh (wpAny_newList ?_ hz)
 have hsz:((s.heap.push (seqObj "list" #[] 0)).update s.heap.objs.size (Obj.mapSeq (· ++ vs.toArray))).objs.size=s.heap.objs.size+1:=by
  rw[Heap.size_update,size_push']
 have hoL:(((s.heap.push (seqObj "list" #[] 0)).update s.heap.objs.size (Obj.mapSeq (· ++ vs.toArray))).push (seqObj "list" vs.toArray 0)).get? (s.heap.objs.size+1)=some (seqObj "list" vs.toArray 0):=by
  rw[<- hsz];exact QG _ rfl
 have ke:∀b o,s.heap.get? b=some o->(((s.heap.push (seqObj "list" #[] 0)).update s.heap.objs.size (Obj.mapSeq (· ++ vs.toArray))).push (seqObj "list" vs.toArray 0)).get? b=some o:=fun b o e=>by
  have hlt:b<s.heap.objs.size:=Qy e
  refine Qk _ ?_
  rw[Heap.get?_update_ne _ _ _ _ (QS hlt)]
  exact Qk _ e
 have sA:∀out,sortedAll s.heap vs out=sortedHeap (((s.heap.push (seqObj "list" #[] 0)).update s.heap.objs.size (Obj.mapSeq (· ++ vs.toArray))).push (seqObj "list" vs.toArray 0)) (s.heap.objs.size+1) vs out:=fun _=>rfl
 show wpAny _ _ _ _ _ { s with heap:=((s.heap.push (seqObj "list" #[] 0)).update s.heap.objs.size (Obj.mapSeq (· ++ vs.toArray))).push (seqObj "list" vs.toArray 0) }
 rw[hsz]
 generalize ((s.heap.push (seqObj "list" #[] 0)).update s.heap.objs.size (Obj.mapSeq (· ++ vs.toArray))).push (seqObj "list" vs.toArray 0)=h5 at *
 have t5:∀v∈vs,fQ h5 v (dR s.heap v):=fun v hv=>by
  obtain⟨ns,t⟩:=ht v hv
  rw[t.kv];exact t.mono fun b o _ e=>ke b o e
 refine Qh (Q7 (wpAny_call_entry slot_list_sort ⟨_,hoL,rfl⟩ entry_list_sort (qk (s:={ s with heap:=h5 }) hoL h2 hz (fun v hv=>⟨_,t5 v hv⟩) fun out p1 p2=>⟨_,rfl,?_⟩) (args_list_sort _)))
 refine Qq ⟨_,rfl,?_⟩
 have:=h out p1 (p2.imp_of_mem fun {u v} hu hv q=>by
  rw[<- (t5 u (p1.mem_iff.mp hu)).kv,<- (t5 v (p1.mem_iff.mp hv)).kv];exact q)
 rw[sA]at this
 exact this
end
noncomputable abbrev aK(ns:List Int):D:=.tup (ns.map D.int)
noncomputable def vf:Value->V
 | .ref b=>.ref b
 | _=>.non
theorem nV{pins:List (Addr×Obj)}{σ:L2.St}{H:Hp}{s:Shared}(I:ak X pins σ H s):∀{ts:List V} {nss:List (List Int)} {its:List Value},bF X.K H ts nss->aD ts its->its.map (dR s.heap)=nss/\∀v∈its,∃b ns,v=.ref b/\fQ s.heap v ns/\ba X.K H b (ns.map V.int)
 | [],[],its,h,r=>by cases r;exact⟨rfl,fun v hv=>by cases hv⟩
 | v::ts,ns::nss,its,h,r=>by
  cases r with
  | cons r1 r2 =>
   obtain⟨h1,h2⟩:=nV I h.2 r2
   obtain⟨a,rfl,hq,hn⟩:=h.1
   cases r1
   obtain⟨jts,rv,⟨o,ho,hc,m,hd⟩,hz⟩:=I.tuple hq
   have t:fQ s.heap (.ref a) ns:=⟨a,o,jts.toArray,m,rfl,ho,hc,hd,rv,hn⟩
   refine⟨by rw[QJ,h1,t.kv],fun v hv=>?_⟩
   rcases Qo.mp hv with rfl|hv
   ·exact⟨a,ns,rfl,t,hq⟩
   ·exact h2 v hv
 | [],_::_,_,h,_=>h.elim
 | _::_,[],_,h,_=>h.elim
theorem qH{K:W.Frag}{H:Hp}{h:Heap}:∀{us:List Value},(∀v∈us,∃b ns,v=.ref b/\fQ h v ns/\ba K H b (ns.map V.int))->bF K H (us.map vf) (us.map (dR h))/\aD (us.map vf) us
 | [],_=>⟨trivial,.nil⟩
 | v::us,hu=>by
  obtain⟨h1,h2⟩:=qH (us:=us) fun v hv=>hu v (Qi _ hv)
  obtain⟨b,ns,rfl,t,hq⟩:=hu v Qj
  have e:=t.kv
  obtain⟨_,_,_,_,_,_,_,_,_,hn⟩:=t
  exact⟨⟨⟨b,rfl,by rw[e];exact hq,by rw[e];exact hn⟩,h1⟩,.cons rfl h2⟩
theorem ue:eg X (.builtin "sorted") (fun xs H Q => ∃(p:Addr) (ts:List V) (nss:List (List Int)),xs=[.ref p]/\bT X.K H p ts/\bF X.K H ts nss/\2<=ts.length/\∀D bs,H D=none->bF X.K H bs (bN nss)->Q (.ref D) (az H D (.lst bs))):=by
 intro pins s σ H xs us Q I r h
 obtain⟨p,ts,nss,rfl,hq,ht,h2,q⟩:=h
 obtain⟨u,rfl,rx⟩:=gP r
 cases rx
 obtain⟨its,rv,pl,hz⟩:=I.list hq
 have el:its.length=ts.length:=rv.length.symm
 obtain⟨t1,t2⟩:=nV I ht rv
 refine uN pl.isList (by omega) (by omega) (fun v hv=>by obtain⟨b,ns,_,t,_⟩:=t2 v hv;exact⟨ns,t⟩) fun out p1 p2=>?_
 obtain⟨b1,b2⟩:=qH (K:=X.K) (H:=H) (h:=s.heap) (us:=out.toList) fun v hv=>t2 v (p1.mem_iff.mp hv)
 have ek:out.toList.map (dR s.heap)=bN nss:=qK ((by rw[<- t1];exact p1.map _:(out.toList.map (dR s.heap)).Perm nss).trans (b9 nss).symm) (SA.mpr p2) (jN nss)
 rw[ek]at b1
 have ob0:out.toList.length=ts.length:=p1.length_eq.trans el
 obtain⟨hp,gs,dr,tk,os⟩:=s
 obtain⟨m,S3⟩:=sortedAll_at hp its out
 have kk:∀b o,hp.get? b=some o->(sortedAll hp its out).get? b=some o:=fun b o e=>sortedAll_old e
 dsimp only
 generalize sortedAll hp its out=h3 at *
 have fr:∀j:Nat,H (hp.objs.size+j)=none:=fun j=>I.hok.fresh (Nat.le_add_right _ _)
 generalize hn':hp.objs.size=n at *
 have hk0:cx X.prog X.w H h3:=I.hok.kept kk
 have ob:aT X.prog X.w (az H (n+1) (.lst (out.toList.map vf))) h3 (n+1) (.lst (out.toList.map vf)):=⟨by rw[Qp,ob0];exact hz,out.toList,m,b2,by rw[Array.toArray_toList];exact S3⟩
 have hk1:=BR hk0 (fr 1) ob
 have old:∀c:Nat,c<n->az H (n+1) (.lst (out.toList.map vf)) c=H c:=fun c hc=>by rw[aq (by show(c:Nat)≠n+1;omega)]
 have inn:∀(c:Nat) o,H c=some o->c<n:=fun c o e=>by
  rcases RK c n with z|z
  ·exact z
  ·have:=fr (c-n);rw[Nat.add_sub_cancel' z]at this;rw[this]at e;cases e
 have I4:ak X pins σ (az H (n+1) (.lst (out.toList.map vf))) ⟨h3,gs,dr,tk,os⟩:=I.un (t':=tk) (DJ kk (fun c hc=>old c (by rw[<- hn'];exact hc)) fun c o e=>by rw[hn'];exact inn c o e) hk1
 exact⟨.ref (n+1),_,I4,rfl,q (n+1) _ (fr 1) b1⟩
noncomputable def dS(ds:List D):R1 :=
 match ds with
 | [.lst l]=>(match fw l with
  | some nss=>.ok (.lst ((bN nss).map aK),0) [2<=l.length]
  | none=>.st)
 | _=>.st
theorem gA{K:W.Frag}{P:aW}{H:Hp}:∀{bs:List V} {nss:List (List Int)},bF K H bs nss->aj K H P (nss.map aK) bs
 | [],[],_=>aj.nil
 | v::bs,ns::nss,h=>by
  obtain⟨a,rfl,hq,_⟩:=h.1
  exact aj.cons (by rw[ai];exact⟨a,_,rfl,hq,aj.ofInts⟩) (gA h.2)
 | [],_::_,h=>h.elim
 | _::_,[],h=>h.elim
theorem bF.same{K:W.Frag}{H H':Hp}(s:ar H H'):∀{bs:List V} {nss:List (List Int)},bF K H bs nss->bF K H' bs nss
 | [],[],_=>trivial
 | v::bs,ns::nss,h=>by
  obtain⟨a,e,hq,hn⟩:=h.1
  refine⟨⟨a,e,?_,hn⟩,bF.same s h.2⟩
  rcases hq with(h|⟨o,h⟩)|h
  ·exact .inl (.inl (s _ _ h))
  ·exact .inl (.inr ⟨o,s _ _ h⟩)
  ·exact .inr h
 | [],_::_,h=>h.elim
 | _::_,[],h=>h.elim
theorem Ax:fV "sorted" dS:=by
 refine⟨by decide +kernel,by decide +kernel,by decide +kernel,rfl,fun X ds z l o hc h hp=>.inl ⟨"sorted", by decide +kernel,?_⟩⟩
 unfold dS at h
 split at h
 ·split at h
  ·rename_i m _ nss e
   cases h
   obtain⟨p1,_⟩:=hp
   refine⟨_,ue,fun ow H0 H2 vs P Q o s rx q=>?_⟩
   obtain⟨v,rfl,ry⟩:=rx.only
   obtain⟨a,ws,rfl,hs,rl⟩:=jO ry
   obtain⟨t1,t2⟩:=nU e rl
   have hl:=rl.length
   refine⟨a,ws,nss,rfl,hs,t1,by omega,fun D bs hD hT=>q _ _ (dH hD) ?_⟩
   rw[ai]
   exact⟨D,bs,true,rfl,aB,⟨rfl,s.free hD⟩,gA (hT.same (dH hD))⟩
  ·cases h
 ·cases h
theorem y9:wn X "dict.setdefault" (fun x xs H Q => ∃p kvs k v,x=.ref p/\xs=[kV k,v]/\H p=some (.dK kvs)/\kvs.length<sizeLine/\(∀u,c8 kvs k=some u->Q u H)/\(c8 kvs k=none->Q v (az H p (.dK (fb kvs k v))))):=by
 intro pins s σ H x xs v us Q I rx rxs h
 obtain⟨p,kvs,k,dv,rfl,rfl,hp,hz,q1,q2⟩:=h
 cases rx
 obtain⟨u1,u2,rfl,r1,r2⟩:=aD.two rxs
 obtain⟨z,hd,vs,bM,dd⟩:=(show aT X.prog X.w H s.heap p (.dK kvs)from I.hok p _ hp)
 have hz':vs.length<=sizeLine:=by rw[<- bM.length];exact z
 have hl:(fb kvs k dv).length<=sizeLine:=by have:=nE kvs k dv;omega
 have rv:=bM.val k
 refine call_meetsIn PySem.F.slot_dict_setdefault dd.typeIs PySem.F.entry_dict_setdefault (PySem.F.args_dict_setdefault_3 _ _ _) (kt_meets_setdefault _ p (jT r1) hd u2) ⟨vs,dd,hz',fun w hw=>?_,fun hn h' dd' hs=>?_⟩
 ·rw[hw]at rv
  cases e:c8 kvs k with
  | none=>rw[e]at rv;exact rv.elim
  | some u=>rw[e]at rv;exact⟨u,H,I.tok _,rv,q1 u e⟩
 ·rw[hn]at rv
  cases e:c8 kvs k with
  | some u=>rw[e]at rv;exact rv.elim
  | none =>
   have he:∃q,h'.get? p=some q:=let ⟨q,_,_,hq,_⟩:=dd';⟨q,hq⟩
   exact⟨dv,_,I.write (x:=p) (e:=p) (by rw[hp];exact True.intro) (.inl rfl) (fun b q hb z=>(hs.2 b hb).trans z) he (show aT X.prog X.w (az H p (.dK (fb kvs k dv))) h' p (.dK (fb kvs k dv))from⟨hl,hd,_,bM.put k r2,dd'⟩),r2,q2 e⟩
noncomputable def Sh(ρ:ah):Prop:=∀x d o,ρ x=some (d,o)->o=false
theorem gc(hs:Sh ρ)(E:aC X ow H σ ρ)(k:aI ow H ow' H')(o:cM ow' H'):aC X ow' H' σ ρ :=
 ⟨fun x d o h=>by
  cases hs x d o h
  obtain⟨i,v,e1,e2,e3,e4⟩:=E.get x d false h
  exact⟨i,v,e1,e2,e3,e4.mono ⟨fun a o ha hn=>k.keep a o ha (.inl hn),fun a o ha p=>k.keep a o ha (.inr (p rfl)),fun a o ha p _=>k.low a o ha (p rfl),fun a p z=>by cases z⟩⟩,o⟩
noncomputable abbrev GJ:=Ow->L2.St->Hp->Prop
noncomputable def tX(X:Cx)(H0:Hp)(ρ:ah)(J:GJ)(ρ':ah)(J':GJ):TS:=fun D σ H => ∃ow,aC X ow H σ ρ/\σ.length=X.N.length/\bi H0 ow H/\J ow σ H/\∀ow' σ' H',aC X ow' H' σ' ρ'->σ'.length=X.N.length->aI ow H ow' H'->J' ow' σ' H'->D.nx σ' H'
theorem kO(h:Sh ρ):Sh (aM ρ x (d,false)):=fun y e o hy=>by
 rw[bg]at hy
 by_cases z:y=x
 ·rw[if_pos z]at hy;cases hy;rfl
 ·rw[if_neg z]at hy;exact h y e o hy
theorem oR{H0:Hp}{px:Pos}{iter:Expr}{body:List Stmt}{Jn:Nat->GJ}(G:aL Φ X sc)(hp:PassesOwn (model X.prog X.w) X.A X.env X.xe)(hx:bX sc x=true)
  (hi:IE X ρ (.Name x px) iter ds k) (hk:k<=1) (hll:au ds=true) (hstep:∀i d,ds[i]?=some d->cZ X body (tX X H0 (aM ρ x (d,false)) (Jn i) ρ (Jn (i+1))))
  (hJs:∀i ow σ H H',ar H H'->Jn i ow σ H->Jn i ow σ H') (hJx:∀i ow σ H v j,X.N[j]?=some x->Jn i ow σ H->Jn i ow (σ.set j (some v)) H) (hs:∀x,foldedSetIterable iter X.env x=pure x):PS X (.For (.Name x px) iter body [] pos) (tX X H0 ρ (Jn 0) ρ (Jn ds.length)):=by
 intro pins s σ H D0 I ⟨ow,E,hl,B,j0,q⟩
 obtain⟨g1,g2,g3,ix,g4⟩:=fL G hx
 have pb:cZ X body (fun D σ H => ∃i d,ds[i]?=some d/\tX X H0 (aM ρ x (d,false)) (Jn i) ρ (Jn (i+1)) D σ H):=fun pins s σ H D I ⟨i,d,h1,h2⟩=>hstep i d h1 pins s σ H D I h2
 refine sF hp G.calm (hi ow) (g7 (i:=ix) G.nd g4 g1 g3) pb hs pins s σ H D0 I ⟨E,fun J H1 s1 itd=>?_⟩
 refine⟨fun i m σ' H'=>m=ds.length-i/\i<=ds.length/\∃ow',aC X ow' H' σ' ρ/\σ'.length=X.N.length/\bi H0 ow' H'/\aI ow H1 ow' H'/\Jn i ow' σ' H',
  ⟨ds.length,by simp,QC _,ow,E.same s1,hl,B.keep (aI.same s1),aI.refl _ _,hJs _ _ _ _ _ s1 j0⟩,?_⟩
 rintro i m σ' H' ⟨rfl,hile,ow',E',hl',B',k',jf⟩
 have st:dE (Kd ow H k H1) (Kd ow H k H1) H1 H':=⟨fun a o ha hn=>k'.keep a o ha (.inl hn),fun a vs ha p=>k'.keep a _ ha (.inr (eB E.own hk p.1)),fun _ _ _ p=>p,fun _ p=>p⟩
 have it:=itd i H' st
 by_cases hlt:i<ds.length
 ·obtain⟨go,yl⟩:=it.1 ds[i] (QE hlt)
  refine .inr ⟨go,fun σ2 H2=>i+1<=ds.length/\∃ow2,aC X ow2 H2 σ2 ρ/\σ2.length=X.N.length/\bi H0 ow2 H2/\aI ow H1 ow2 H2/\Jn (i+1) ow2 σ2 H2,fun σ2 H2 n=>⟨ds.length-(i+1),by omega,rfl,n.1,n.2⟩,fun y H3 y3=>?_⟩
  obtain⟨sm3,rx⟩:=yl y H3 y3
  have li:ds[i].lless=true:=lh hll (List.getElem_mem hlt)
  have k3:aI ow' H' ow' H3:=aI.same sm3
  exact⟨i,ds[i],QE hlt,ow',eS G.nd hl' (E'.same sm3) g4 g2 (rx.flat _ li),by rw[Ri];exact hl',B'.keep k3,hJx i ow' σ' H3 y ix g4 (hJs _ _ _ _ _ sm3 jf),fun ow2 σ3 H4 a b c d=>⟨hlt,ow2,a,b,(B'.keep k3).keep c,k'.trans (k3.trans c),d⟩⟩
 ·have ei:i=ds.length:=by omega
  subst ei
  exact .inl ⟨it.2 (Ql _),q ow' σ' H' E' hl' ((aI.same s1).trans k') jf⟩
noncomputable def qN(ks:List Int)(k:Int):List Int:=if k∈ks then ks else ks++[k]
noncomputable def ji:List Int->List (List (List Int))->Int->List Int->List (List (List Int))
 | j::ks,l::ls,k,t=>if j=k then(l++[t])::ls else l::ji ks ls k t
 | _,_,_,t=>[[t]]
noncomputable def fS(K:W.Frag)(ow:Ow)(H:Hp):List (List (List Int))->List V->Prop
 | [],[]=>True
 | l::ls,v::r=>(∃a ts,v=.ref a/\H a=some (.lst ts)/\ow a=some none/\bF K H ts l)/\fS K ow H ls r
 | _,_=>False
theorem fS.length:∀{ls:List (List (List Int))} {vs:List V},fS K ow H ls vs->ls.length=vs.length
 | [],[],_=>rfl
 | l::ls,v::vs,h=>by rw[Qw,Qw,h.2.length]
 | [],_::_,h=>h.elim
 | _::_,[],h=>h.elim
theorem fS.mem:∀{ls:List (List (List Int))} {vs:List V} {v:V},fS K ow H ls vs->v∈vs->∃a ts,v=.ref a/\H a=some (.lst ts)/\ow a=some none
 | [],[],_,_,m=>by cases m
 | l::ls,u::vs,v,h,m=>by
  rcases Qo.mp m with rfl|m
  ·obtain⟨a,ts,e,h1,h2,_⟩:=h.1
   exact⟨a,ts,e,h1,h2⟩
  ·exact h.2.mem m
 | [],_::_,_,h,_=>h.elim
 | _::_,[],_,h,_=>h.elim
theorem fS.keep(kt:∀a vs,ba K H a vs->ba K H' a vs):∀{ls:List (List (List Int))} {vs:List V},fS K ow H ls vs->(∀a ts,.ref a∈vs->H a=some (.lst ts)->ow a=some none->H' a=some (.lst ts)/\ow' a=some none)->fS K ow' H' ls vs
 | [],[],_,_=>trivial
 | l::ls,v::vs,h,k=>by
  obtain⟨a,ts,rfl,h1,h2,h3⟩:=h.1
  obtain⟨k1,k2⟩:=k a ts Qj h1 h2
  exact⟨⟨a,ts,rfl,k1,k2,h3.keep kt⟩,h.2.keep kt fun a ts m=>k a ts (Qi _ m)⟩
 | [],_::_,h,_=>h.elim
 | _::_,[],h,_=>h.elim
theorem fS.app:∀{ls:List (List (List Int))} {vs:List V},fS K ow H ls vs->fS K ow H [l] [v]->fS K ow H (ls++[l]) (vs++[v])
 | [],[],_,h=>h
 | m::ls,u::vs,h,g=>⟨h.1,h.2.app g⟩
 | [],_::_,h,_=>h.elim
 | _::_,[],h,_=>h.elim
theorem kK{K:W.Frag}{H:Hp}{ns:List Int}{v:V}:∀{ts:List V} {l:List (List Int)},bF K H ts l->bF K H [v] [ns]->bF K H (ts++[v]) (l++[ns])
 | [],[],_,h=>h
 | u::ts,m::l,h,g=>⟨h.1,kK h.2 g⟩
 | [],_::_,h,_=>h.elim
 | _::_,[],h,_=>h.elim
theorem eJ{o:HO}(ha:H a=some o)(ho:¬ nm o){b:Addr}(h:ba K H b vs):ba K (az H a o') b vs:=by
 have ne:∀{u:HO},H b=some u->nm u->b≠a:=fun hb hn z=>by subst z;rw[ha]at hb;cases hb;exact ho hn
 rcases h with(h|⟨p,h⟩)|h
 ·exact .inl (.inl (by rw[aq (ne h True.intro)];exact h))
 ·exact .inl (.inr ⟨p,by rw[aq (ne h True.intro)];exact h⟩)
 ·exact .inr h
theorem rO{k:Int}:∀{ks:List Int},ks.length=vs.length->(c8 ((ks.map (Sum.inl:Int->aR)).zip vs) (.inl k)=none↔k∉ks):=by
 intro ks
 induction ks generalizing vs with
 | nil=>intro _;exact⟨fun _=>Sa,fun _=>rfl⟩
 | cons j ks ih =>
  intro h
  cases vs with
  | nil=>cases h
  | cons v vs =>
   rw[QJ,RJ]
   by_cases e:j=k
   ·subst e
    rw[fA (by rfl)]
    exact⟨fun z=>(by cases z),fun z=>absurd Qj z⟩
   ·rw[fB (by intro z;injection z with z;exact e z),ih (by simpa using h),Qo,not_or]
    exact⟨fun z=>⟨fun y=>e y.symm,z⟩,fun z=>z.2⟩
theorem pY{k:Int}{t:List Int}:∀{ks:List Int} {ls:List (List (List Int))},ks.length=ls.length->k∉ks->ji ks ls k t=ls++[[t]]
 | [],[],_,_=>rfl
 | j::ks,l::ls,h,n=>by
  rw[Qo,not_or]at n
  rw[ji,if_neg (fun e=>n.1 e.symm),pY (by simpa using h) n.2];rfl
 | [],_::_,h,_=>by cases h
 | _::_,[],h,_=>by cases h
theorem vz{K:W.Frag}{ow:Ow}{H:Hp}{k:Int}{ns:List Int}{u w:V}:∀{ks:List Int} {ls:List (List (List Int))} {vs:List V},ks.length=ls.length->fS K ow H ls vs->vs.Nodup->c8 ((ks.map (Sum.inl:Int->aR)).zip vs) (.inl k)=some u->bF K H [w] [ns] ->
  ∃a ts,u=.ref a /\ .ref a∈vs/\H a=some (.lst ts)/\ow a=some none/\fS K ow (az H a (.lst (ts++[w]))) (ji ks ls k ns) vs/\(ji ks ls k ns).length=ls.length/\∃l∈ls,ts.length=l.length
 | [],ls,vs,_,_,_,h,_=>by cases h
 | j::ks,[],vs,h,_,_,_,_=>by cases h
 | j::ks,l::ls,[],_,h,_,_,_=>h.elim
 | j::ks,l::ls,v::vs,hl,h,nd,e,hw=>by
  obtain⟨n1,n2⟩:=Se.mp nd
  rw[QJ,RJ]at e
  by_cases hj:j=k
  ·subst hj
   rw[fA (by rfl)]at e
   cases e
   obtain⟨a,ts,rfl,h1,h2,h3⟩:=h.1
   have kt:∀b vs,ba K H b vs->ba K (az H a (.lst (ts++[w]))) b vs:=fun b vs hb=>eJ h1 (fun z=>z) hb
   refine⟨a,ts,rfl,Qj,h1,h2,?_,by rw[ji,if_pos rfl];rfl,l,Qj,h3.length⟩
   rw[ji,if_pos rfl]
   exact⟨⟨a,_,rfl,aB,h2,(kK h3 hw).keep kt⟩,h.2.keep kt fun b us m hb ho=>⟨by rw[aq (fun z=>by subst z;exact n1 m)];exact hb,ho⟩⟩
  ·rw[fB (by intro z;injection z with z;exact hj z)]at e
   obtain⟨a,ts,r1,r2,r3,r4,r5,r6,l',r7,r8⟩:=vz (by simpa using hl) h.2 n2 e hw
   refine⟨a,ts,r1,Qi _ r2,r3,r4,?_,by rw[ji,if_neg hj,Qw,r6];rfl,l',Qi _ r7,r8⟩
   rw[ji,if_neg hj]
   obtain⟨b,us,rfl,h1,h2,h3⟩:=h.1
   exact⟨⟨b,us,rfl,by rw[aq (fun z=>by subst z;exact n1 r2)];exact h1,h2,h3.keep fun c vs hb=>eJ r3 (fun z=>z) hb⟩,r5⟩
theorem sr{K:W.Frag}{ow:Ow}{H:Hp}{k:Int}{u:V}:∀{ks:List Int} {ls:List (List (List Int))} {vs:List V},ks.length=ls.length->fS K ow H ls vs->c8 ((ks.map (Sum.inl:Int->aR)).zip vs) (.inl k)=some u ->
  ∃a ts,u=.ref a/\H a=some (.lst ts)/\ow a=some none/\∃l∈ls,ts.length=l.length
 | [],ls,vs,_,_,h=>by cases h
 | j::ks,[],vs,h,_,_=>by cases h
 | j::ks,l::ls,[],_,h,_=>h.elim
 | j::ks,l::ls,v::vs,hl,h,e=>by
  rw[QJ,RJ]at e
  by_cases hj:j=k
  ·subst hj
   rw[fA (by rfl)]at e
   cases e
   obtain⟨a,ts,rfl,h1,h2,h3⟩:=h.1
   exact⟨a,ts,rfl,h1,h2,l,Qj,h3.length⟩
  ·rw[fB (by intro z;injection z with z;exact hj z)]at e
   obtain⟨a,ts,r1,r3,r4,l',r7,r8⟩:=sr (by simpa using hl) h.2 e
   exact⟨a,ts,r1,r3,r4,l',Qi _ r7,r8⟩
theorem kN(s:ar H H')(h:ba K H a vs):ba K H' a vs:=by
 rcases h with(h|⟨o,h⟩)|h
 ·exact .inl (.inl (s _ _ h))
 ·exact .inl (.inr ⟨o,s _ _ h⟩)
 ·exact .inr h
noncomputable def JD(X:Cx)(ix:Nat)(a:Addr)(ks:List Int)(ls:List (List (List Int))):GJ:=fun ow σ H=>σ[ix]?=some (some (.ref a))/\ow a=some none/\ks.length=ls.length/\∃vs,vs.Nodup/\H a=some (.dK ((ks.map Sum.inl).zip vs))/\fS X.K ow H ls vs
theorem JD.same(s:ar H H')(h:JD X ix a ks ls ow σ H):JD X ix a ks ls ow σ H':=by
 obtain⟨h1,h2,h3,vs,h4,h5,h6⟩:=h
 refine⟨h1,h2,h3,vs,h4,s _ _ h5,h6.keep (fun b us hb=>?_) fun b ts _ hb ho=>⟨s _ _ hb,ho⟩⟩
 rcases hb with(h|⟨o,h⟩)|h
 ·exact .inl (.inl (s _ _ h))
 ·exact .inl (.inr ⟨o,s _ _ h⟩)
 ·exact .inr h
theorem Eu{k:aR}(h:c8 kvs k=none):fb kvs k v=kvs++[(k,v)]:=by
 unfold fb
 rw[nR,h];rfl
theorem jo{o:HO}(h:cM ow H):cM ow (az H a o):=fun b hb=>by
 by_cases z:b=a
 ·subst z;exact⟨_,aB⟩
 ·rw[aq z];exact h b hb
theorem gS{o:HO}(ha:H a=some o)(hn:¬ nm o)(ho:ow a=some none):aI ow H ow (az H a o'):=⟨fun b u hb c=>by
 rw[aq (fun z=>by
  subst z
  rw[ha]at hb;cases hb
  rcases c with c|c
  ·exact hn c
  ·rw[ho]at c;cases c)]
 exact hb,fun _ _ _ h=>h⟩
theorem GF{H0:Hp}(hx:X.N[ix]?=some x)(hv:eZ X.env.scope x)(hn:dm x=true)(hsh:Sh ρ)
  (he1:ED X ρ e1 (.int key) 0) (he2:AD X ρ [e2] [aK ns] 0) (hns:ns≠[]) (hs1:∀y p,e1 ≠ .Starred y p) (hs2:∀y p,e2 ≠ .Starred y p) (hl1:(ap1.endLine==cp1.line)=true) (hl2:(ap2.endLine==cp2.line)=true) (hz:ks.length<bc) (hb:∀l∈ls,l.length<bc) :
  PS X (.Expr (.Call (.Attribute (.Call (.Attribute (.Name x p1) "setdefault" ap1) [e1,.List [] lp] [] cp1) "append" ap2) [e2] [] cp2) p4) (tX X H0 ρ (JD X ix a ks ls) ρ (JD X ix a (qN ks key) (ji ks ls key ns))):=by
 intro pins s σ H D I ⟨ow,E,hl,B,⟨j1,j2,j3,vs,j4,j5,j6⟩,q⟩
 have pn:PE X (.Name x p1) (iY ix):=fh hx hv (bW hn).1 (bW hn).2
 have nl:∀y p,(Expr.List [] lp) ≠ .Starred y p:=fun y p z=>nomatch z
 have args1:AD X ρ [e1,.List [] lp] [.int key,.lst []] 0:=dY he1 (dY (qw fo (QC _) (QC _)) fo (aF nl)) (aF hs1)
 have f1:((backTo cp1 (starEach [e1,.List [] lp] X.env)).all (fun x => !x.1)&&(backToKw cp1 (keywordEach [] X.env)).all (fun x=>x.1.isSome)&&decide ([e1,Expr.List [] lp].length+([]:List Keyword).length+(if ([]:List Keyword).isEmpty then 0 else 1)<30))=true:=by
  rw[eM (fun z hz=>by
   rcases Qo.mp hz with rfl|hz
   ·exact hs1
   ·rw[Qu.mp hz];exact nl)];rfl
 have f2:((backTo cp2 (starEach [e2] X.env)).all (fun x => !x.1)&&(backToKw cp2 (keywordEach [] X.env)).all (fun x=>x.1.isSome)&&decide ([e2].length+([]:List Keyword).length+(if ([]:List Keyword).isEmpty then 0 else 1)<30))=true:=by
  rw[eM (fun z hz=>by rw[Qu.mp hz];exact hs2)];rfl
 refine jl (rq PySem.F.plainAttrs_list PySem.F.slot_list_append PySem.F.type_list_append iP (rq PySem.F.plainAttrs_dict PySem.F.slot_dict_setdefault PySem.F.type_dict_setdefault y9 pn (args1 ow) rfl f1 hl1 (aF hs1) (bD fun z hz=>by rw[Qu.mp hz];exact nl)) (he2 ow) rfl f2 hl2 (aF hs2) (bD fun z hz=>by cases hz)) rfl pins s σ H D I ⟨_,j1,.inr (.inr (.inl ⟨rfl,.inl ⟨_,j5⟩⟩)),E,fun ws H2 s2 r2=>?_⟩
 rw[aj]at r2
 obtain⟨v1,r,rfl,q1,r2⟩:=r2
 rw[ai]at q1;subst q1
 obtain⟨v2,rfl,q2⟩:=r2.only
 rw[ai]at q2
 obtain⟨L0,us,b,rfl,q3,q4,q5⟩:=q2
 rw[aj]at q5;subst q5
 obtain⟨rfl,q6⟩:=q4
 replace q3:H2 L0=some (.lst []):=q3
 have el:=j6.length
 have J2:JD X ix a ks ls ow σ H2:=JD.same s2 ⟨j1,j2,j3,vs,j4,j5,j6⟩
 obtain⟨_,_,_,vs',j4',j5',j6'⟩:=J2
 have ev:vs'=vs:=by
  have:=j5'.symm.trans (s2 _ _ j5)
  injection this with this
  injection this with this
  have e1:=Rq (List.map Prod.snd) this
  rwa [List.map_snd_zip (by rw[Qp,j3,j6'.length];exact Ql _),List.map_snd_zip (by rw[Qp,j3,el];exact Ql _)]at e1
 subst ev
 clear j4' j5'
 refine⟨a,_,.inl key,.ref L0,rfl,rfl,s2 _ _ j5,?_,fun u hu=>?_,fun hnone=>?_⟩
 ·rw[List.length_zip,Qp,<- el,<- j3,Nat.min_self];exact Qv hz cq
 ·obtain⟨la,ts,rfl,h1,h2,l,hl',hlen⟩:=sr j3 j6' hu
  refine⟨.inl ⟨rfl,ts,bT.of h1⟩,E.same s2,fun zs H3 s3 r3=>?_⟩
  obtain⟨w,rfl,r4⟩:=r3.only
  rw[ai]at r4
  obtain⟨tt,us,rfl,hq,rl⟩:=r4
  have ex:=fD rl
  subst ex
  have J3:fS X.K ow H3 ls vs':=j6'.keep (fun _ _ z=>kN s3 z) fun b ts _ hb ho=>⟨s3 _ _ hb,ho⟩
  obtain⟨la',ts',e,hm',h1',h2',h5,h6,_⟩:=vz (w:=.ref tt) (ns:=ns) j3 J3 j4 hu ⟨⟨tt,rfl,hq,hns⟩,trivial⟩
  cases e
  have e2:ts'=ts:=by
   rw[s3 _ _ h1]at h1';cases h1';rfl
  subst e2
  refine⟨la,ts',.ref tt,rfl,rfl,h1',by rw[hlen];exact Qv (hb l hl') cq,?_⟩
  have s23:=s2.trans s3
  have K:=(aI.same s23).trans (gS (o':=.lst (ts'++[.ref tt])) h1' (fun z=>z) h2')
  have hin:key∈ks:=Classical.not_not.mp fun z=>by
   rw[(rO (by rw[j3,el])).mpr z]at hu;cases hu
  refine q ow σ _ (gc hsh E K (jo (E.own.same s23))) hl K ⟨j1,j2,?_,vs',j4,?_,h5⟩
  ·rw[qN,if_pos hin,h6,j3]
  ·rw[qN,if_pos hin,aq (fun z=>by subst z;rw[s23 _ _ j5]at h1';cases h1')]
   exact s23 _ _ j5
 ·have hk:key∉ks:=(rO (by rw[j3,el])).mp hnone
  have ne:L0≠a:=fun z=>by subst z;rw[q6]at j5;cases j5
  rw[Eu hnone]
  have kA:aI ow H ow (az H2 a (.dK ((ks.map Sum.inl).zip vs'++[(.inl key,.ref L0)]))):=(aI.same s2).trans (gS (s2 _ _ j5) (fun z=>z) j2)
  have lA:az H2 a (.dK ((ks.map Sum.inl).zip vs'++[(.inl key,.ref L0)])) L0=some (.lst []):=by rw[aq ne];exact q3
  refine⟨.inl ⟨rfl,[],bT.of lA⟩,gc hsh E kA (jo (E.own.same s2)),fun zs H3 s3 r3=>?_⟩
  obtain⟨w,rfl,r4⟩:=r3.only
  rw[ai]at r4
  obtain⟨tt,us,rfl,hq,rl⟩:=r4
  have ex:=fD rl
  subst ex
  refine⟨L0,[],.ref tt,rfl,rfl,s3 _ _ lA,by rw[Sv];decide,?_⟩
  have nL:∀{b:Addr} {u:HO},H b=some u->b≠L0:=fun hb z=>by subst z;rw[q6]at hb;cases hb
  have K:aI ow H (fun b=>if b=L0 then some none else ow b) (az H3 L0 (.lst ([]++[.ref tt]))):=⟨fun b u hb c=>by
   rw[aq (nL hb)];exact s3 _ _ (kA.keep b u hb c),fun b u hb c=>by
   show(if b=L0 then some none else ow b)=none
   rw[if_neg (nL hb)];exact c⟩
  have oi:cM (fun b=>if b=L0 then some none else ow b) (az H3 L0 (.lst ([]++[.ref tt]))):=fun b hb'=>by
   by_cases z:b=L0
   ·subst z;exact⟨_,aB⟩
   ·replace hb':(if b=L0 then some none else ow b)≠none:=hb'
    rw[if_neg z]at hb'
    rw[aq z]
    obtain⟨o,ho⟩:=jo (a:=a) (o:=.dK ((ks.map Sum.inl).zip vs'++[(.inl key,.ref L0)])) (E.own.same s2) b hb'
    exact⟨o,s3 _ _ ho⟩
  have kt:∀b us,ba X.K H b us->ba X.K (az H3 L0 (.lst ([]++[.ref tt]))) b us:=fun b us z=>eJ (s3 _ _ lA) (fun z=>z) (kN s3 (eJ (s2 _ _ j5) (fun z=>z) (kN s2 z)))
  refine q _ σ _ (gc hsh E K oi) hl K ⟨j1,by show(if a=L0 then some none else ow a)=_;rw[if_neg (Rv ne)];exact j2,?_,vs'++[.ref L0],?_,?_,?_⟩
  ·rw[qN,if_neg hk,pY j3 hk,Qr,Qr,j3];rfl
  ·refine List.nodup_append.mpr ⟨j4,by simp,fun v hv' u hu z=>?_⟩
   rw[Qu]at hu
   subst hu z
   obtain⟨b,ts,e,hb',_⟩:=j6.mem hv'
   cases e
   rw[q6]at hb';cases hb'
  ·rw[aq (Rv ne),qN,if_neg hk,R4,QJ,SF,List.zip_append (by rw[Qp,j3,el])]
   exact s3 _ _ aB
  ·rw[pY j3 hk]
   refine fS.app (j6.keep kt fun b ts hm hb' ho=>⟨?_,by show(if b=L0 then some none else ow b)=_;rw[if_neg (nL hb')];exact ho⟩) ⟨⟨L0,_,rfl,aB,if_pos rfl,⟨tt,rfl,eJ (s3 _ _ lA) (fun z=>z) hq,hns⟩,trivial⟩,trivial⟩
   rw[aq (nL hb')]
   refine s3 _ _ ?_
   rw[aq (fun z=>by subst z;rw[j5]at hb';cases hb')]
   exact s2 _ _ hb'
theorem v5{pins:List (Addr×Obj)}{σ:L2.St}{s:Shared}{ow:Ow}:∀{ls:List (List (List Int))} {vs:List V} {H:Hp},ak X pins σ H s->fS X.K ow H ls vs->vs.Nodup->∃Hf,ak X pins σ Hf s/\mf X.K Hf ls vs/\∀b,(∀a,V.ref a∈vs->b≠a)->Hf b=H b
 | [],[],H,I,_,_=>⟨H,I,trivial,fun _ _=>rfl⟩
 | l::ls,v::vs,H,I,h,nd=>by
  obtain⟨n1,n2⟩:=Se.mp nd
  obtain⟨a,ts,rfl,h1,h2,h3⟩:=h.1
  have ob:=(show aT X.prog X.w H s.heap a (.lst ts)from I.hok a _ h1)
  obtain⟨z,its,n,rv,e⟩:=ob
  obtain⟨oo,eo⟩:∃oo,s.heap.get? a=some oo:=⟨_,e⟩
  have I1:ak X pins σ (az H a (.frz oo (.lst ts))) s:=I.write (t':=s.toks) (x:=a) (e:=a) (h':=s.heap) (by rw[h1];exact True.intro) (.inl rfl) (fun b u _ q=>q) ⟨_,eo⟩ (show aT X.prog X.w (az H a (.frz oo (.lst ts))) s.heap a (.frz oo (.lst ts))from⟨eo,z,its,n,rv,e⟩)
  have kt:∀b us,ba X.K H b us->ba X.K (az H a (.frz oo (.lst ts))) b us:=fun b us hb=>eJ h1 (fun z=>z) hb
  obtain⟨Hf,If,Ff,af⟩:=v5 I1 (h.2.keep kt fun b us m hb ho=>⟨by rw[aq (fun z=>by subst z;exact n1 m)];exact hb,ho⟩) n2
  have nm':∀b u,H b=some u->nm u->∀c,V.ref c∈V.ref a::vs->b≠c:=fun b u hb hn c m z=>by
   subst z
   obtain⟨c',ts',e',hc,_⟩:=h.mem m
   cases e'
   rw[hc]at hb;cases hb;exact hn
  refine⟨Hf,If,⟨⟨a,oo,ts,rfl,?_,h3.keep fun b us hb=>?_⟩,Ff⟩,fun b hb=>?_⟩
  ·rw[af a (fun c m z=>by subst z;exact n1 m)];exact aB
  ·have go:∀u,H b=some u->nm u->Hf b=some u:=fun u hu hn=>by
    rw[af b (fun c m=>nm' b u hu hn c (Qi _ m)),aq (nm' b u hu hn a Qj)];exact hu
   rcases hb with(hb|⟨o,hb⟩)|hb
   ·exact .inl (.inl (go _ hb True.intro))
   ·exact .inl (.inr ⟨o,go _ hb True.intro⟩)
   ·exact .inr hb
  ·rw[af b (fun c m=>hb c (Qi _ m)),aq (hb a Qj)]
 | [],_::_,_,_,h,_=>h.elim
 | _::_,[],_,_,h,_=>h.elim
theorem En{H0:Hp}{ρ:ah}{a:Addr}(hx:X.N[ix]?=some x)(hv:eZ X.env.scope x)(hn:dm x=true) :
  PS X (.Return (some (.Name x r1)) r2) (fun D σ H => ∃ow,bi H0 ow H/\JD X ix a ks ls ow σ H/\∀v H',ar H0 H'->ai X.K H' (fun a b=>b=true/\H0 a=none) (.dcf ks ls) v->D.rt v H'):=by
 have pn:PE X (.Name x r1) (iY ix):=fh hx hv (bW hn).1 (bW hn).2
 have pf:PE X (.Name x r1) (fun σ H Q => ∃ow,bi H0 ow H/\JD X ix a ks ls ow σ H/\∀v H',ar H0 H'->ai X.K H' (fun a b=>b=true/\H0 a=none) (.dcf ks ls) v->Q v H'):=by
  intro pins s σ H Q I ⟨ow,B,⟨j1,j2,j3,vs,j4,j5,j6⟩,q⟩
  refine aN (pn pins s σ H (fun v H'=>v=.ref a/\H'=H) I ⟨_,j1,rfl,rfl⟩) fun u s1 ⟨v,H1,I1,ru,e1,e2⟩=>?_
  subst e1 e2
  obtain⟨Hf,If,Ff,af⟩:=v5 I1 j6 j4
  have no:∀b,ow b≠some none->∀c,V.ref c∈vs->b≠c:=fun b hb c m z=>by
   subst z
   obtain⟨c',ts',e',_,ho⟩:=j6.mem m
   cases e'
   exact hb ho
  have ha:Hf a=some (.dK ((ks.map Sum.inl).zip vs)):=by
   rw[af a (fun c m z=>by
    subst z
    obtain⟨c',ts',e',hc,_⟩:=j6.mem m
    cases e'
    rw[hc]at j5;cases j5)]
   exact j5
  have ob:=(show aT X.prog X.w Hf s1.heap a (.dK ((ks.map Sum.inl).zip vs))from If.hok a _ ha)
  obtain⟨z1,z2,ws,z3,oo,es,ep,eo,z4⟩:=id ob
  have I2:ak X pins σ (az Hf a (.frz oo (.dK ((ks.map Sum.inl).zip vs)))) s1:=If.write (t':=s1.toks) (x:=a) (e:=a) (h':=s1.heap) (by rw[ha];exact True.intro) (.inl rfl) (fun b u _ q=>q) ⟨_,eo⟩ (show aT X.prog X.w (az Hf a (.frz oo (.dK ((ks.map Sum.inl).zip vs)))) s1.heap a (.frz oo (.dK ((ks.map Sum.inl).zip vs)))from⟨eo,z1,z2,ws,z3,oo,es,ep,eo,z4⟩)
  have na:∀b,ow b≠some none->b≠a:=fun b hb z=>by subst z;exact hb j2
  refine⟨.ref a,_,I2,ru,q _ _ (fun b o hb=>?_) ?_⟩
  ·obtain⟨h1,h2⟩:=B b o hb
   have hb':ow b≠some none:=by rw[h2];exact fun z=>nomatch z
   rw[aq (na b hb'),af b (no b hb')];exact h1
  ·rw[ai]
   exact⟨j3,a,oo,vs,rfl,aB,Ff.keep (fun b us hb=>eJ ha (fun z=>z) hb) fun b o u hb=>by rw[aq (fun z=>by subst z;rw[ha]at hb;cases hb)];exact hb⟩
 exact sE pf
noncomputable abbrev DL:=List Int×List (List (List Int))
noncomputable def i6(f:Int->Int->Int)(a:Int)(st:DL)(b:Int):DL:=(qN st.1 (f a b),ji st.1 st.2 (f a b) [a,b])
noncomputable def gi(f:Int->Int->Int)(ps:List Int)(st:DL)(a:Int):DL:=ps.foldl (i6 f a) st
noncomputable def ug(f:Int->Int->Int)(ps:List Int):DL:=ps.foldl (gi f ps) ([],[])
noncomputable def Bd(n:Nat)(st:DL):Prop:=st.1.length<=n/\∀l∈st.2,l.length<=n
theorem yG{n:Nat}{k:Int}{t:List Int}:∀{ks:List Int} {ls:List (List (List Int))},(∀l∈ls,l.length<=n)->∀l∈ji ks ls k t,l.length<=n+1
 | j::ks,l::ls,h,m,hm=>by
  rw[ji]at hm
  split at hm
  ·rcases Qo.mp hm with rfl|hm
   ·rw[Qr];have:=h l Qj;simp only[Qw,Rl];omega
   ·exact Nat.le_succ_of_le (h m (Qi _ hm))
  ·rcases Qo.mp hm with rfl|hm
   ·exact Nat.le_succ_of_le (h _ Qj)
   ·exact yG (fun l hl=>h l (Qi _ hl)) m hm
 | [],ls,h,m,hm=>by
  have:m∈[[t]]:=by cases ls<;>exact hm
  rw[Qu.mp this];exact Nat.le_add_left _ _
 | _::_,[],h,m,hm=>by
  rw[Qu.mp (show m∈[[t]]from hm)];exact Nat.le_add_left _ _
theorem F7{st:DL}{a b:Int}(h:Bd n st):Bd (n+1) (i6 f a st b):=by
 refine⟨?_,yG h.2⟩
 show(qN st.1 (f a b)).length<=_
 unfold qN
 split
 ·exact Nat.le_succ_of_le h.1
 ·rw[Qr];exact Nat.succ_le_succ h.1
theorem xN{f:Int->Int->Int}{a:Int}:∀(l:List Int) {n:Nat} {st:DL},Bd n st->Bd (n+l.length) (l.foldl (i6 f a) st)
 | [],n,st,h=>h
 | b::l,n,st,h=>by
  have:=xN (f:=f) (a:=a) l (F7 (f:=f) (a:=a) (b:=b) h)
  rw[Qw,show n+(l.length+1)=n+1+l.length by omega];exact this
theorem As{f:Int->Int->Int}{ps:List Int}:∀(l:List Int) {n:Nat} {st:DL},Bd n st->Bd (n+l.length*ps.length) (l.foldl (gi f ps) st)
 | [],n,st,h=>by simpa using h
 | a::l,n,st,h=>by
  have:=As (f:=f) (ps:=ps) l (xN (f:=f) (a:=a) ps h)
  rw[Qw,Nat.succ_mul,show n+(l.length*ps.length+ps.length)=n+ps.length+l.length*ps.length by omega];exact this
theorem wa{ρ':ah}(h:∀y p,ρ y=some p->ρ' y=some p)(E:aC X ow H σ ρ'):aC X ow H σ ρ:=⟨fun x d o hx=>E.get x d o (h x _ hx),E.own⟩
theorem oP{H0:Hp}{ρ2:ah}{J J':GJ}(h:∀y p,ρ2 y=some p->ρ1 y=some p)(g:cZ X ss (tX X H0 ρ J ρ1 J')):cZ X ss (tX X H0 ρ J ρ2 J'):=fun pins s σ H D I ⟨ow,E,hl,B,j,q⟩ =>
 g pins s σ H D I ⟨ow,E,hl,B,j,fun ow' σ' H' E'=>q ow' σ' H' (wa h E')⟩
theorem k8{t:TS}(h:PS X st t):cZ X [st] t:=df h qe
theorem JD.set{y:Str}{j:Nat}(hx:X.N[ix]?=some x)(hy:X.N[j]?=some y)(hn:y≠x)(h:JD X ix a ks ls ow σ H):JD X ix a ks ls ow (σ.set j (some v)) H:=by
 obtain⟨h1,h2⟩:=h
 refine⟨?_,h2⟩
 rw[Q5 (fun z=>by subst z;rw[hx]at hy;injection hy with hy;exact hn hy.symm)];exact h1
theorem jy:∀ns:List Int,au (ns.map D.int)=true
 | []=>rfl
 | n::ns=>by rw[QJ,au,jy ns];rfl
theorem yv{H0:Hp}{xa xb xp:Str}{pa pb q1 q2 f1 f2:Pos}{ps:List Int}{o:Bool}(G:aL Φ X sc)(hp:PassesOwn (model X.prog X.w) X.A X.env X.xe)
    (hx:bX sc x=true) (hxa:bX sc xa=true) (hxb:bX sc xb=true) (nax:xa≠x) (nbx:xb≠x) (npx:xp≠x) (nba:xb≠xa) (npa:xp≠xa) (npb:xp≠xb) (hn:dm x=true) (hnp:dm xp=true)
    (h1:ρ xp=some (.lst (ps.map D.int),o)) (h2:ρ x=some (.dct [] [],true))
    (he:∀a b ρ',ρ' xa=some (.int a,false)->ρ' xb=some (.int b,false)->a∈ps->b∈ps->ED X ρ' e1 (.int (f a b)) 0/\AD X ρ' [e2] [aK [a,b]] 0)
    (hs1:∀y p,e1 ≠ .Starred y p) (hs2:∀y p,e2 ≠ .Starred y p) (hl1:(ap1.endLine==cp1.line)=true) (hl2:(ap2.endLine==cp2.line)=true) (hlen:ps.length<=100) :
    cX X H0 ρ [.For (.Name xa pa) (.Name xp q1) [.For (.Name xb pb) (.Name xp q2) [.Expr (.Call (.Attribute (.Call (.Attribute (.Name x p1) "setdefault" ap1) [e1,.List [] lp] [] cp1) "append" ap2) [e2] [] cp2) p4] [] f2] [] f1,.Return (some (.Name x r1)) r2] (.rt (.dcf (ug f ps).1 (ug f ps).2)):=by
  intro pins s σ H D0 I ⟨ow,E,hl,B,q⟩
  obtain⟨ix,v,g1,g2,g3,g4⟩:=E.get x _ _ h2
  rw[ai]at g4
  obtain⟨_,_,ad,vs,rfl,hA,hP,rl⟩:=g4
  rw[aj]at rl
  subst rl
  have hoA:ow ad=some (some x):=hP.2
  obtain⟨ip,vp,k1,k2,k3,k4⟩:=E.get xp _ _ h1
  let ow1:Ow:=fun b=>if b=ad then some none else if ow b=some (some xp)then none else ow b
  have w1:ow1 ad=some none:=if_pos rfl
  have w2:∀b,b≠ad->ow1 b=if ow b=some (some xp)then none else ow b:=fun b hb=>if_neg hb
  have K1:aI ow H ow1 H:=⟨fun _ _ h _=>h,fun b _ _ hb=>by
    have nb:b≠ad:=fun z=>by subst z;rw[hoA]at hb;cases hb
    rw[w2 b nb,hb];rfl⟩
  have oi:cM ow1 H:=fun b hb=>by
    by_cases z:b=ad
    . subst z;exact⟨_,hA⟩
    . rw[w2 b z]at hb
      exact E.own b fun e=>hb (by rw[e];rfl)
  have Ep:aC X ow1 H σ (aM (fun _=>none) xp (.lst (ps.map D.int),false)):=⟨fun y d o' hy=>by
    rw[bg]at hy
    by_cases z:y=xp
    . subst z
      rw[if_pos rfl]at hy
      cases hy
      refine⟨ip,vp,k1,k2,k3,k4.impH (fun b u hb p _=>?_) fun b p z=>(by cases z)⟩
      have hb':ow b=some (some y)\/ow b=none:=by
        cases o with
        | true=>exact .inl p.2
        | false=>exact .inr (p rfl)
      have nb:b≠ad:=fun z=>by
        subst z
        rw[hoA]at hb'
        rcases hb' with w|w
        . injection w with w;injection w with w;exact npx w.symm
        . cases w
      rw[w2 b nb]
      rcases hb' with w|w
      . rw[if_pos w]
      . rw[w];rfl
    . rw[if_neg z]at hy;exact(nomatch hy),oi⟩
  clear_value ow1
  have shp:Sh (aM (fun _=>none) xp (.lst (ps.map D.int),false)):=kO (fun _ _ _ z=>(by cases z))
  have getp:∀ρ':ah,ρ' xp=some (.lst (ps.map D.int),false)->∀{tg:Expr} {pos:Pos},IE X ρ' tg (.Name xp pos) (ps.map D.int) 1:=fun ρ' h' tg pos=>jz (by have:=dX (X:=X) (pos:=pos) h' hnp;exact this)
  have put_x:∀(ρ':ah) (y:Str) (p:D×Bool),aM ρ' y p y=some p:=fun ρ' y p=>by rw[bg,if_pos rfl]
  have put_o:∀(ρ':ah) (y z:Str) (p:D×Bool),z≠y->aM ρ' y p z=ρ' z:=fun ρ' y z p h=>by rw[bg,if_neg h]
  have bd0:Bd 0 (([],[]):DL):=⟨Ql _,fun _ z=>(by cases z)⟩
  have outer:PS X (.For (.Name xa pa) (.Name xp q1) [.For (.Name xb pb) (.Name xp q2) [.Expr (.Call (.Attribute (.Call (.Attribute (.Name x p1) "setdefault" ap1) [e1,.List [] lp] [] cp1) "append" ap2) [e2] [] cp2) p4] [] f2] [] f1)
      (tX X H0 (aM (fun _=>none) xp (.lst (ps.map D.int),false)) (JD X ix ad ((ps.take 0).foldl (gi f ps) ([],[])).1 ((ps.take 0).foldl (gi f ps) ([],[])).2) (aM (fun _=>none) xp (.lst (ps.map D.int),false)) (JD X ix ad ((ps.take (ps.map D.int).length).foldl (gi f ps) ([],[])).1 ((ps.take (ps.map D.int).length).foldl (gi f ps) ([],[])).2)):=by
    refine oR (Jn:=fun i=>JD X ix ad ((ps.take i).foldl (gi f ps) ([],[])).1 ((ps.take i).foldl (gi f ps) ([],[])).2) G hp hxa (getp _ (put_x _ _ _)) (Ql 1) (jy ps) (fun i d hd=>?_) (fun _ _ _ _ _ sm j=>JD.same sm j) (fun _ _ _ _ _ j hj z=>JD.set g1 hj nax z) (fun _=>rfl)
    rw[QY]at hd
    obtain⟨a,ha,rfl⟩:=Sc.mp hd
    have hia:i<ps.length:=(Qz.mp ha).1
    have ea:(ps.take (i+1)).foldl (gi f ps) ([],[])=gi f ps ((ps.take i).foldl (gi f ps) ([],[])) a:=by
      rw[SG,ha,List.foldl_append];rfl
    have bdi:Bd (i*ps.length) ((ps.take i).foldl (gi f ps) ([],[])):=by
      have:=As (f:=f) (ps:=ps) (ps.take i) bd0
      rw[QR,Su (by omega),Nat.zero_add]at this;exact this
    rw[ea]
    generalize (ps.take i).foldl (gi f ps) ([],[])=st0 at bdi
    have xpa:aM (aM (fun _=>none) xp (.lst (ps.map D.int),false)) xa (.int a,false) xp=some (.lst (ps.map D.int),false):=by rw[put_o _ _ _ _ npa,put_x]
    refine oP (ρ1:=aM (aM (fun _=>none) xp (.lst (ps.map D.int),false)) xa (.int a,false)) (fun y pp hy=>?_) (k8 ?_)
    . by_cases z:y=xa
      . subst z
        rw[put_o _ _ _ _ (Rv npa)]at hy;cases hy
      . rw[put_o _ _ _ _ z];exact hy
    have inner:=oR (X:=X) (H0:=H0) (Φ:=Φ) (sc:=sc) (ρ:=aM (aM (fun _=>none) xp (.lst (ps.map D.int),false)) xa (.int a,false)) (x:=xb) (px:=pb) (pos:=f2) (iter:=.Name xp q2) (body:=[.Expr (.Call (.Attribute (.Call (.Attribute (.Name x p1) "setdefault" ap1) [e1,.List [] lp] [] cp1) "append" ap2) [e2] [] cp2) p4]) (Jn:=fun j=>JD X ix ad ((ps.take j).foldl (i6 f a) st0).1 ((ps.take j).foldl (i6 f a) st0).2) G hp hxb (getp _ xpa) (Ql 1) (jy ps) (fun j d hd=>?_) (fun _ _ _ _ _ sm j=>JD.same sm j) (fun _ _ _ _ _ j hj z=>JD.set g1 hj nbx z) (fun _=>rfl)
    . rw[Qp,SI]at inner
      exact inner
    rw[QY]at hd
    obtain⟨b,hb,rfl⟩:=Sc.mp hd
    have hjb:j<ps.length:=(Qz.mp hb).1
    have eb:(ps.take (j+1)).foldl (i6 f a) st0=i6 f a ((ps.take j).foldl (i6 f a) st0) b:=by
      rw[SG,hb,List.foldl_append];rfl
    have bdj:Bd (i*ps.length+j) ((ps.take j).foldl (i6 f a) st0):=by
      have:=xN (f:=f) (a:=a) (ps.take j) bdi
      rw[QR,Su (by omega)]at this;exact this
    rw[eb]
    generalize (ps.take j).foldl (i6 f a) st0=st1 at bdj
    have lim:i*ps.length+j<bc:=by
      have:=Nat.mul_le_mul (RW hia) (Ql ps.length)
      have h3:=Nat.mul_le_mul hlen hlen
      show _<40000
      omega
    have hxa':aM (aM (aM (fun _=>none) xp (.lst (ps.map D.int),false)) xa (.int a,false)) xb (.int b,false) xa=some (.int a,false):=by rw[put_o _ _ _ _ (Rv nba),put_x]
    obtain⟨E1,E2⟩:=he a b _ hxa' (put_x _ _ _) (Re ha) (Re hb)
    refine oP (ρ1:=aM (aM (aM (fun _=>none) xp (.lst (ps.map D.int),false)) xa (.int a,false)) xb (.int b,false)) (fun y pp hy=>?_) (k8 (GF g1 g2 hn (kO (kO shp)) E1 E2 (fun z=>(by cases z)) hs1 hs2 hl1 hl2 (Rg bdj.1 lim) fun l hl=>Rg (bdj.2 l hl) lim))
    by_cases z:y=xb
    . subst z
      rw[put_o _ _ _ _ nba,put_o _ _ _ _ (Rv npb)]at hy;cases hy
    . rw[put_o _ _ _ _ z];exact hy
  rw[Qp,SI]at outer
  have B1:=B.keep K1
  refine df outer (df (En (H0:=H0) (ρ:=ρ) (a:=ad) (ks:=(ug f ps).1) (ls:=(ug f ps).2) g1 g2 hn) gB) pins s σ H D0 I ⟨ow1,Ep,hl,B1,⟨g3,w1,rfl,[],List.nodup_nil,hA,trivial⟩,fun ow' σ' H' E' hl' k' j'=>?_⟩
  exact⟨ow',B1.keep k',j',q⟩
noncomputable def Md(a:Addr)(o:Obj)(kvs:List (aR×V)):It :=
 ⟨fun i H=>i<kvs.length/\H a=some (.frz o (.dK kvs)),fun i H x H'=>H'=H/\∀p,kvs[i]?=some p->x=kV p.1,fun i H=>kvs.length<=i/\H a=some (.frz o (.dK kvs))⟩
theorem t6{o:Obj}(I:ak X pins σ H s)(ha:H a=some (.frz o (.dK kvs))):s.heap.get? a=some o/\(a==sysModules)=false/\kvs.length<=sizeLine/\∃vs,KV kvs vs/\s.heap.DictOf (b7 X.prog X.w) a vs:=by
 obtain⟨e,z,hd,vs,bM,dd⟩:=(show aT X.prog X.w H s.heap a (.frz o (.dK kvs))from I.hok a _ ha)
 exact⟨e,hd,z,vs,bM,dd⟩
theorem Fv{k:aR}{u:Value}(h:(b7 P w).is k u=true):aP (kV k) u:=by
 rcases bV h with⟨i,t,rfl,rfl⟩|⟨x,t,rfl,rfl⟩
 ·exact⟨t,rfl⟩
 ·exact⟨t,rfl⟩
theorem AX(a it:Addr)(o:Obj)(kvs:List (aR×V))(ep:Nat)(hep:∀es e,o.data=.dict es e->e=ep):Turn P w K tg (Md a o kvs) [it] it (fun i h=>h.IsKeyIter it a i kvs.length ep) where
 mem:=by simp
 obj:=fun i h st b hb=>by
  have e:b=it:=by simpa using hb
  subst e
  obtain⟨o,e,c,d⟩:=st
  exact⟨o,e,fun v z=>by rw[d]at z;cases z⟩
 keep:=fun i h h' st k=>st.at fun o e=>k it (by simp) o e
 item:=by
  intro X hP hw hK hc i pins s σ H E I hf st hg
  subst hP hw hK
  obtain⟨hi,ha⟩:=hg
  obtain⟨eo,hd,hz,vs,bM,dd⟩:=t6 I ha
  obtain⟨o',es,e',ho',hx',hdat,r⟩:=dd
  rw[eo]at ho';cases ho'
  have ee:=hep _ _ hdat
  subst ee
  have hl:=bM.length
  have dA:s.heap.DictAt (b7 X.prog X.w) a vs e':=⟨o,es,eo,hx',hdat,r⟩
  obtain⟨⟨k,v⟩,hkv⟩:∃p,vs[i]?=some p:=⟨vs[i]'(by omega),QE (by omega)⟩
  obtain⟨⟨k0,v0⟩,hkv0⟩:∃p,kvs[i]?=some p:=⟨kvs[i],QE hi⟩
  have ek:k0=k:=by
   have:=Rq (fun l=>l[i]?) bM.keys
   simp only[QY,hkv,hkv0,Option.map_some]at this
   injection this
  subst ek
  obtain⟨f0,f1,f2,f3,f4,f5⟩:=hf it (by simp)
  rw[hl]at st
  refine wpAny_pyNext_dict_item st dA hkv fun key h' hkey st' sb=>?_
  rw[<- hl]at st'
  have I1:ak X pins σ H { s with heap:=h' }:=I.turned (t':=s.toks) (fun b o hb e=>(sb.2 b hb).trans e) f0 f1 f3 f4 f5
  obtain⟨oo,e2,c,d⟩:=id st'
  exact⟨key,rfl,jW (s:={ s with heap:=h' }) e2 c d (by decide) ⟨kV k0,H,I1,Fv hkey,⟨rfl,fun p hp=>by rw[hkv0]at hp;cases hp;rfl⟩,st',fun b hb=>(hf b hb).1⟩⟩
 done:=by
  intro X hP hw hK hc i pins s σ H E I hf st hg
  subst hP hw hK
  obtain⟨hi,ha⟩:=hg
  obtain⟨eo,hd,hz,vs,bM,dd⟩:=t6 I ha
  obtain⟨o',es,e',ho',hx',hdat,r⟩:=dd
  rw[eo]at ho';cases ho'
  have ee:=hep _ _ hdat
  subst ee
  have hl:=bM.length
  have dA:s.heap.DictAt (b7 X.prog X.w) a vs e':=⟨o,es,eo,hx',hdat,r⟩
  obtain⟨f0,f1,f2,f3,f4,f5⟩:=hf it (by simp)
  rw[hl]at st
  exact wpAny_pyNext_dict_end (I.ok.hd hc) st dA (List.getElem?_eq_none (by omega)) fun h' eb=>⟨rfl,I.turned (t':=s.toks) (fun b o hb e=>eb b o hb e) f0 f1 f3 f4 f5⟩
 self:=fun _ _ _ _ _ st h=>wpAny_pyIter_keyiter st h
theorem Hk{te:TE}(he:PE X e te):PI X tg e (fun σ H R=>te σ H fun x H1 => ∃a o kvs,x=.ref a/\H1 a=some (.frz o (.dK kvs))/\R (Md a o kvs) H1):=by
 intro pins s σ H R I h
 refine aN (he pins s σ H _ I h) fun v s1 ⟨x,H1,I1,r1,q1⟩=>?_
 obtain⟨a,o,kvs,rfl,ha,q⟩:=q1
 cases r1
 obtain⟨e0,hd,hz,vs,bM,dd⟩:=t6 I1 ha
 obtain⟨o',es,ep,ho',hx',hdat,r⟩:=dd
 rw[e0]at ho';cases ho'
 refine wpAny_pyIter_dict (knd:=b7 X.prog X.w) (kvs:=vs) (ep:=ep) hd ⟨o,es,e0,hx',hdat,r⟩ ?_
 have hl:=bM.length
 refine⟨s1.heap.objs.size,[s1.heap.objs.size],_,_,H1,rfl,I1.kept (t':=s1.toks) fun b o e=>Qk _ e,AX a _ o kvs ep (fun es2 e2 h2=>by rw[hdat]at h2;cases h2;rfl),⟨_,QG _ rfl,rfl,by rw[hl];rfl⟩,fun b hb=>?_,q⟩
 have e:b=s1.heap.objs.size:=by simpa using hb
 subst e
 exact I1.fpOk (Ql _) (I1.hok.fresh (Ql _))
theorem v4{K:W.Frag}{H:Hp}:∀{ls:List (List (List Int))} {vs:List V},mf K H ls vs->ls.length=vs.length
 | [],[],_=>rfl
 | l::ls,v::vs,h=>by rw[Qw,Qw,v4 h.2]
 | [],_::_,h=>h.elim
 | _::_,[],h=>h.elim
theorem IJ(h:ED X ρ e (.dcf ks ls) k):IE X ρ tg e (ks.map D.int) 0:=by
 intro ow pins s σ H R I ⟨E,q⟩
 refine Hk (tg:=tg) (h ow) pins s σ H R I ⟨E,fun v H1 s1 r1=>?_⟩
 rw[ai]at r1
 obtain⟨e0,a,o,vs,rfl,ha,fz⟩:=r1
 have lv:=v4 fz
 have lz:((ks.map (Sum.inl:Int->aR)).zip vs).length=ks.length:=by rw[List.length_zip,Qp,<- lv,<- e0,Nat.min_self]
 refine⟨a,o,_,rfl,ha,q _ H1 s1 fun i H2 st=>⟨fun d hd=>?_,fun hle=>?_⟩⟩
 ·have h2:=st.oth _ _ ha True.intro
  rw[QY]at hd
  obtain⟨n,hn,rfl⟩:=Sc.mp hd
  have hi:=(Qz.mp hn).1
  refine⟨⟨by rw[lz];exact hi,h2⟩,fun x H3 ⟨e3,y3⟩=>?_⟩
  subst e3
  refine⟨ar.refl _,?_⟩
  have hv:i<vs.length:=by omega
  have:=y3 (.inl n,vs[i]) (by rw[List.getElem?_zip_eq_some];exact⟨by rw[QY,hn];rfl,QE hv⟩)
  rw[ai];exact this
 ·rw[Qp]at hle
  exact⟨by rw[lz];exact hle,st.oth _ _ ha True.intro⟩
noncomputable def eV:List Int->List (List (List Int))->Int->Option (List (List Int))
 | j::ks,l::ls,k=>if j=k then some l else eV ks ls k
 | _,_,_=>none
theorem s0{K:W.Frag}{H:Hp}{k:Int}:∀{ks:List Int} {ls:List (List (List Int))} {vs:List V},ks.length=ls.length->mf K H ls vs->(∀l,eV ks ls k=some l->∃a o ts,c8 ((ks.map (Sum.inl:Int->aR)).zip vs) (.inl k)=some (.ref a)/\H a=some (.frz o (.lst ts))/\bF K H ts l)/\(eV ks ls k=none->c8 ((ks.map (Sum.inl:Int->aR)).zip vs) (.inl k)=none)
 | [],[],[],_,_=>⟨fun l h=>(by cases h),fun _=>rfl⟩
 | j::ks,l::ls,v::vs,hl,h=>by
  obtain⟨i1,i2⟩:=s0 (k:=k) (ks:=ks) (by simpa using hl) h.2
  rw[eV,QJ,RJ]
  by_cases e:j=k
  ·rw[if_pos e]
   refine⟨fun l' hl'=>?_,fun z=>by cases z⟩
   cases hl'
   obtain⟨a,o,ts,rfl,h1,h2⟩:=h.1
   exact⟨a,o,ts,fA (by rw[e]),h1,h2⟩
  ·rw[if_neg e,fB (by intro z;injection z with z;exact e z)]
   exact⟨i1,i2⟩
 | [],_::_,_,h,_=>by cases h
 | _::_,[],_,h,_=>by cases h
 | [],[],_::_,_,h=>h.elim
 | _::_,_::_,[],_,h=>h.elim
theorem HU:wn X "dict.get" (fun x xs H Q => ∃p o kvs k v,x=.ref p/\xs=[kV k,v]/\H p=some (.frz o (.dK kvs))/\Q ((c8 kvs k).getD v) H):=by
 intro pins s σ H x xs v us Q I rx rxs h
 obtain⟨p,o,kvs,k,dv,rfl,rfl,hp,q⟩:=h
 cases rx
 obtain⟨u1,u2,rfl,r1,r2⟩:=aD.two rxs
 obtain⟨e,hd,hz,vs,bM,dd⟩:=t6 I hp
 have rv:=bM.val k
 refine call_meetsIn PySem.F.slot_dict_get dd.typeIs PySem.F.entry_dict_get (PySem.F.args_dict_get_3 _ _ _) (meets_dict_get_default _ p (jT r1) hd u2) ⟨_,dd.mapOf,?_⟩
 cases e1:c8 kvs k with
 | none =>
  rw[e1]at rv q
  cases e2:valueAt vs k with
  | some w=>rw[e2]at rv;exact rv.elim
  | none=>exact⟨dv,H,I.tok _,r2,q⟩
 | some u =>
  rw[e1]at rv q
  cases e2:valueAt vs k with
  | none=>rw[e2]at rv;exact rv.elim
  | some w=>rw[e2]at rv;exact⟨u,H,I.tok _,rv,q⟩
theorem Qe{o:Obj}(I:ak X pins σ H s)(ha:H a=some (.frz o (.dK kvs))):s.TypeIs (.ref a) "dict" /\ o.dict=none:=by
 obtain⟨e,_,_,vs,_,o',es,ep,h1,h2,_⟩:=t6 I ha
 rw[e]at h1;cases h1
 exact⟨⟨o,e,h2.1⟩,h2.2.1⟩
theorem Hw{ob:Expr}{to:TE}{t:TA}{name:Str}{id:String}{r:V->List V->Hp->VK->Prop}(slot:Slot "dict" name id)(hty:typeOf (.builtin id)=pure (.type "method_descriptor"))(hm:wn X id r)(ho:PE X ob to)(ha:PA X (e::es) t)
  (hb:attributeBase ob name X.env (eval ob X.env)=eval ob X.env) (hf:((backTo cp (starEach (e::es) X.env)).all (fun x => !x.1)&&(backToKw cp (keywordEach [] X.env)).all (fun x=>x.1.isSome)&&decide ((e::es).length+([]:List Keyword).length+(if ([]:List Keyword).isEmpty then 0 else 1)<30))=true)
  (hln:(ap.endLine==cp.line)=true) (hs:starEach (e::es) X.env=(false,eval e X.env)::starEach es X.env) (hq:(backTo cp (starEach es X.env)).any (·.1)=false) :
  PE X (.Call (.Attribute ob name ap) (e::es) [] cp) (fun σ H Q=>to σ H fun x H1=>(∃a o kvs,x=.ref a/\H1 a=some (.frz o (.dK kvs)))/\t σ H1 fun xs H2=>r x xs H2 Q):=by
 intro pins s σ H Q I h
 refine wpAny_Call_method_late hb hf hln rfl (aN (ho pins s σ H _ I h) fun v s1 ⟨x,H1,I1,r1,⟨a,o,kvs,ex,hx⟩,q1⟩=>?_)
 subst ex
 cases r1
 obtain⟨y1,y2⟩:=Qe I1 hx
 refine⟨"dict", id,PySem.F.plainAttrs_dict,slot,hty,y1,fun b eb=>by cases eb;exact⟨o,(t6 I1 hx).1,y2⟩,?_⟩
 have hA:=ha cp pins s1 σ H1 _ I1 q1
 rw[hs]at hA⊢
 refine Calls.callWith_builtin (by show(false || (backTo cp (starEach es X.env)).any (·.1))=false;rw[hq];rfl) (Calls.evalArgs_plain ?_)
 exact aN hA fun us s2 ⟨ws,H2,I2,r2,q2⟩=>hm pins s2 σ H2 (.ref a) ws _ us Q I2 rfl r2 q2
theorem tK(s:ar H H')(h:mf K H ls vs):mf K H' ls vs:=h.keep (fun _ _ z=>kN s z) fun _ _ _ z=>s _ _ z
theorem Jh{x:Expr}(h:ED X ρ x (.dcf ks ls) k)(he:ED X ρ e1 (.int key) 0)(hb:attributeBase x "get" X.env (eval x X.env)=eval x X.env)(hs1:∀y p,e1 ≠ .Starred y p)(hln:(ap.endLine==cp.line)=true) :
  ED X ρ (.Call (.Attribute x "get" ap) [e1,.List [] lp] [] cp) (.lst (((eV ks ls key).getD []).map aK)) 1:=by
 have nl:∀y p,(Expr.List [] lp) ≠ .Starred y p:=fun y p z=>nomatch z
 have args1:AD X ρ [e1,.List [] lp] [.int key,.lst []] 0:=dY he (dY (qw fo (QC _) (QC _)) fo (aF nl)) (aF hs1)
 intro ow
 refine bB (Hw PySem.F.slot_dict_get PySem.F.type_dict_get HU (h ow) (args1 ow) hb (by
  rw[eM (fun z hz=>by
   rcases Qo.mp hz with rfl|hz
   ·exact hs1
   ·rw[Qu.mp hz];exact nl)];rfl) hln (aF hs1) (bD fun z hz=>by rw[Qu.mp hz];exact nl)) fun σ H Q ⟨E,q⟩=>⟨E,fun v H1 s1 r1=>?_⟩
 rw[ai]at r1
 obtain⟨e0,a,o,vs,rfl,ha,fz⟩:=r1
 refine⟨⟨a,o,_,rfl,ha⟩,E.same s1,fun ws H2 s2 r2=>?_⟩
 rw[aj]at r2
 obtain⟨v1,r,rfl,q1,r2⟩:=r2
 rw[ai]at q1;subst q1
 obtain⟨v2,rfl,q2⟩:=r2.only
 rw[ai]at q2
 obtain⟨L0,us,b,rfl,q3,q4,q5⟩:=q2
 rw[aj]at q5;subst q5
 obtain⟨rfl,q6⟩:=q4
 refine⟨a,o,_,.inl key,.ref L0,rfl,rfl,s2 _ _ ha,q _ _ (s1.trans s2) ?_⟩
 obtain⟨l1,l2⟩:=s0 (k:=key) e0 (tK s2 fz)
 rw[ai]
 cases e:eV ks ls key with
 | none =>
  rw[l2 e]
  exact⟨L0,[],true,rfl,q3,fun _=>(E.own.same s1).free q6,aj.nil⟩
 | some l =>
  obtain⟨la,oo,ts,ev,hf,ht⟩:=l1 l e
  rw[ev]
  exact⟨la,ts,false,rfl,.inl ⟨oo,hf⟩,fun z=>(by cases z),gA ht⟩
theorem Iy:AS X (fun x y H Q => ∃p o kvs k v,x=.ref p/\y=kV k/\H p=some (.frz o (.dK kvs))/\c8 kvs k=some v/\Q v H):=by
 intro value slice pins s σ H x y v u Q I rx ry h hs
 obtain⟨p,o,kvs,k,z,rfl,rfl,hq,he,q⟩:=h
 cases rx
 obtain⟨_,hd,_,vs,bM,dd⟩:=t6 I hq
 obtain⟨w,hw,rw'⟩:=gM.some_of (v:=z) (o:=valueAt vs k) (by rw[<- he];exact bM.val k)
 exact subscriptTail_builtinR (x:=w) dd.typeIs PySem.F.slot_dict_getitem.lookup (wpAny_getItem_of (Q:=fun r s'=>r=w/\EP X pins σ Q r s') (jT ry) dd.mapOf hw ⟨rfl,z,H,I.tok _,rw',q⟩) hs
theorem Jj{x:Expr}{k2:Nat}(h:ED X ρ x (.dcf ks ls) k)(he:ED X ρ e1 (.int key) k2)(hs:gn e1)(hl:eV ks ls key=some l):ED X ρ (.Subscript x e1 pos) (.lst (l.map aK)) 1:=by
 refine fun ow=>bB (rn Iy (h ow) (he ow) hs) fun σ H Q ⟨E,qq⟩=>⟨E,fun v H1 s1 r1=>⟨E.same s1,fun u H2 s2 r2=>?_⟩⟩
 rw[ai]at r1
 rw[ai]at r2
 subst r2
 obtain⟨e0,a,o,vs,rfl,ha,fz⟩:=r1
 obtain⟨la,oo,ts,ev,hf,ht⟩:=(s0 (k:=key) e0 (tK s2 fz)).1 l hl
 refine⟨a,o,_,.inl key,.ref la,rfl,rfl,s2 _ _ ha,ev,qq _ H2 (s1.trans s2) ?_⟩
 rw[ai]
 exact⟨la,ts,false,rfl,.inl ⟨oo,hf⟩,fun z=>(by cases z),gA ht⟩
noncomputable def LZ(a b:Int):Int:=a*a+b*b
noncomputable def ik(o:Int):List Int:=((List.range 39).filter fun i:Nat=>decide ((-19+(i:Int)).fmod 2=o)).map fun i:Nat => -19+(i:Int)
noncomputable def dP(o:Int):DL:=ug LZ (ik o)
theorem yS{p:Int}(h:p∈ik o):-19<=p/\p<=19:=by
 obtain⟨i,hi,rfl⟩:=QB.mp h
 have:=RM.mp (RG.mp hi).1
 omega
theorem EE(o:Int):(ik o).length<=100:=by
 unfold ik
 rw[Qp]
 exact QA (List.length_filter_le _ _) (by rw[R6];decide)
theorem Js(ho:o=0\/o=1):(dP o).1.length=(dP o).2.length:=by
 rcases ho with rfl|rfl
 ·decide +kernel
 ·decide +kernel
theorem Jr(ho:o=0\/o=1):((dP o).2.all fun l=>l.all fun t=>decide (t.length=2))=true:=by
 rcases ho with rfl|rfl
 ·decide +kernel
 ·decide +kernel
theorem sZ{k:Int}{l:List (List Int)}:∀{ks:List Int} {ls:List (List (List Int))},eV ks ls k=some l->l∈ls
 | j::ks,m::ls,h=>by
  rw[eV]at h
  split at h
  ·cases h;exact Qj
  ·exact Qi _ (sZ h)
 | [],ls,h=>by cases ls<;>cases h
 | _::_,[],h=>by cases h
theorem vP{k:Int}:∀{ks:List Int} {ls:List (List (List Int))},ks.length=ls.length->k∈ks->∃l,eV ks ls k=some l
 | j::ks,m::ls,h,hk=>by
  rw[eV]
  by_cases e:j=k
  ·rw[if_pos e];exact⟨m,rfl⟩
  ·rw[if_neg e]
   rcases Qo.mp hk with z|z
   ·exact absurd z.symm e
   ·exact vP (by simpa using h) z
 | [],_,_,hk=>by cases hk
 | _::_,[],h,_=>by cases h
noncomputable def cw(o k:Int):List (List Int):=(eV (dP o).1 (dP o).2 k).getD []
theorem mL{k:Int}(ho:o=0\/o=1)(h:t∈cw o k):∃a b,t=[a,b]:=by
 unfold cw at h
 cases e:eV (dP o).1 (dP o).2 k with
 | none=>rw[e]at h;cases h
 | some l =>
  rw[e]at h
  have:=Q9 (QT.mp (QT.mp (Jr ho) l (sZ e)) t h)
  match t,this with
  | [a,b],_=>exact⟨a,b,rfl⟩
noncomputable def i7(N o k:Int):List (List Int):=(cw o k).flatMap fun f=>(cw o (4*N-k)).map fun b=>f++b
noncomputable def dD(N o:Int):List (List Int):=(dP o).1.flatMap (i7 N o)
noncomputable def P9(o:Int)(p:Int×List (List Int)):Bool:=p.2.all fun t=>match t with | [a,b]=>decide (a*a+b*b=p.1)&&(decide (a % 2=o)&&(decide (b % 2=o)&&(decide (-19<=a/\a<=19)&&decide (-19<=b/\b<=19))))|_=>false
theorem LK(ho:o=0\/o=1):((dP o).1.zip (dP o).2).all (P9 o)=true:=by
 rcases ho with rfl|rfl
 ·decide +kernel
 ·decide +kernel
theorem LL(ho:o=0\/o=1):(dP o).1.Nodup:=by
 rcases ho with rfl|rfl
 ·decide +kernel
 ·decide +kernel
theorem LM(ho:o=0\/o=1):∀l∈(dP o).2,l.Nodup:=by
 rcases ho with rfl|rfl
 ·decide +kernel
 ·decide +kernel
theorem zj{k:Int}{l:List (List Int)}:∀{ks:List Int} {ls:List (List (List Int))},eV ks ls k=some l->(k,l)∈ks.zip ls
 | j::ks,m::ls,h=>by
  rw[eV]at h
  split at h
  ·rename_i e;cases h;subst e;exact Qj
  ·exact Qi _ (zj h)
 | [],ls,h=>by cases ls<;>cases h
 | _::_,[],h=>by cases h
theorem ph{k:Int}(ho:o=0\/o=1)(h:t∈cw o k):∃a b,t=[a,b]/\a*a+b*b=k/\a % 2=o/\b % 2=o/\(-19<=a/\a<=19)/\(-19<=b/\b<=19):=by
 unfold cw at h
 cases e:eV (dP o).1 (dP o).2 k with
 | none=>rw[e]at h;cases h
 | some l =>
  rw[e]at h
  have z:=QT.mp (QT.mp (LK ho) _ (zj e)) t h
  obtain⟨a,b,rfl⟩:=mL (o:=o) (k:=k) ho (by unfold cw;rw[e];exact h)
  dsimp only at z
  simp only[Qx,Q4]at z
  exact⟨a,b,rfl,z⟩
theorem zm{k:Int}(ho:o=0\/o=1):(cw o k).Nodup:=by
 unfold cw
 cases e:eV (dP o).1 (dP o).2 k with
 | none=>exact List.nodup_nil
 | some l=>exact LM ho l (sZ e)
noncomputable def wp(N o:Int)(t:List Int):Prop:=∃a b c d,t=[a,b,c,d]/\(a*a+b*b)+(c*c+d*d)=4*N/\(a % 2=o/\b % 2=o/\c % 2=o/\d % 2=o)/\(-19<=a/\a<=19)/\(-19<=b/\b<=19)/\(-19<=c/\c<=19)/\(-19<=d/\d<=19)
theorem oC{k:Int}(h:t∈i7 N o k):∃f∈cw o k,∃b∈cw o (4*N-k),t=f++b:=by
 obtain⟨f,hf,h⟩:=RB.mp h
 obtain⟨b,hb,rfl⟩:=QB.mp h
 exact⟨f,hf,b,hb,rfl⟩
theorem gj(ho:o=0\/o=1)(h:t∈dD N o):wp N o t:=by
 obtain⟨k,hk,h⟩:=RB.mp h
 obtain⟨f,hf,b,hb,rfl⟩:=oC h
 obtain⟨a,b',rfl,h1,h2,h3,h4,h5⟩:=ph ho hf
 obtain⟨c,d,rfl,g1,g2,g3,g4,g5⟩:=ph ho hb
 exact⟨a,b',c,d,rfl,by omega,⟨h2,h3,g2,g3⟩,h4,h5,g4,g5⟩
theorem wj{f f' b':List Int}(h1:f.length=2)(h2:f'.length=2)(e:f++b=f'++b'):f=f':=(List.append_inj e (by rw[h1,h2])).1
theorem pi{k:Int}(ho:o=0\/o=1)(h:t∈cw o k):t.length=2:=by
 obtain⟨a,b,rfl⟩:=mL ho h
 rfl
theorem Gh{k:Int}(ho:o=0\/o=1):(i7 N o k).Nodup:=by
 refine List.pairwise_flatMap.mpr ⟨fun f hf=>SA.mpr ((zm ho).imp fun hne e=>hne (List.append_cancel_left e)),?_⟩
 refine List.Pairwise.imp_of_mem (R:=fun a b=>a≠b) (fun {f f'} hf hf' hne x hx y hy e=>?_) (zm ho)
 obtain⟨b,hb,rfl⟩:=QB.mp hx
 obtain⟨b',hb',rfl⟩:=QB.mp hy
 exact hne (wj (pi ho hf) (pi ho hf') e)
theorem AC(ho:o=0\/o=1):(dD N o).Nodup:=by
 refine List.pairwise_flatMap.mpr ⟨fun k _=>Gh ho,?_⟩
 refine List.Pairwise.imp (R:=fun a b=>a≠b) (fun {k k'} hne x hx y hy e=>?_) (LL ho)
 obtain⟨f,hf,b,hb,rfl⟩:=oC hx
 obtain⟨f',hf',b',hb',rfl⟩:=oC hy
 have e1:=wj (pi ho hf) (pi ho hf') e
 subst e1
 obtain⟨a,c,rfl,h1,_⟩:=ph ho hf
 obtain⟨a',c',e2,h2,_⟩:=ph ho hf'
 cases e2
 exact hne (h1.symm.trans h2)
noncomputable def cK:List Nat->List Nat->Nat->Nat
 | j::ks,n::ns,k=>bif Nat.beq j k then n else cK ks ns k
 | _,_,_=>0
noncomputable def kz(o:Int):List Nat:=if o=0 then[648,580,520,468,424,388,360,340,328,324,512,452,400,356,320,292,272,260,256,392,296,232,212,200,196,288,244,208,180,160,148,144,164,136,116,104,100,128,80,68,64,72,52,40,36,32,20,16,8,4,0]else[722,650,586,530,482,442,410,386,370,362,578,514,458,338,314,298,290,450,394,346,306,274,250,234,226,218,194,178,170,242,202,146,130,122,162,106,90,82,98,74,58,50,34,26,18,10,2]
noncomputable def nz(o:Int):List Nat:=if o=0 then[4,8,8,8,8,8,8,16,8,4,4,8,8,8,8,8,8,16,4,4,8,8,8,12,4,4,8,8,8,8,8,4,8,8,8,8,12,4,8,8,4,4,8,8,4,4,8,4,4,4,1]else[4,8,8,8,8,8,16,8,16,8,4,8,8,12,8,8,16,4,8,8,8,8,16,8,8,8,8,8,16,4,8,8,16,8,4,8,8,8,4,8,8,12,8,8,4,8,4]
theorem pI(ho:o=0\/o=1):(dP o).1=(kz o).map Int.ofNat/\(dP o).2.map List.length=nz o:=by
 rcases ho with rfl|rfl
 ·decide +kernel
 ·decide +kernel
theorem zl{k:Nat}:∀{ks:List Nat} {ls:List (List (List Int))},((eV (ks.map Int.ofNat) ls (k:Int)).getD []).length=cK ks (ls.map List.length) k
 | [],[]=>rfl
 | [],_::_=>rfl
 | _::_,[]=>rfl
 | j::ks,l::ls=>by
  show((if (j:Int)=(k:Int)then some l else eV (ks.map Int.ofNat) ls (k:Int)).getD []).length=bif Nat.beq j k then l.length else cK ks (ls.map List.length) k
  by_cases e:j=k
  ·subst e
   rw[if_pos rfl,show Nat.beq j j=true from Nat.beq_refl j];rfl
  ·rw[if_neg (fun z=>e (by omega)),show Nat.beq j k=false from by rw[Sx];exact fun z=>e (Nat.beq_eq.mp z)]
   exact zl
theorem zk{k:Int}(h:k<0):∀{ks:List Nat} {ls:List (List (List Int))},eV (ks.map Int.ofNat) ls k=none
 | [],[]=>rfl
 | [],_::_=>rfl
 | _::_,[]=>rfl
 | j::ks,l::ls=>by
  rw[QJ,eV,if_neg (fun z=>by rw[<- z]at h;exact absurd h (by simp))]
  exact zk h
noncomputable def cB(ks ns:List Nat)(m k:Nat):Nat:=bif Nat.ble k m then cK ks ns (m-k)else 0
theorem vQ(ho:o=0\/o=1)(k:Nat):(cw o (k:Int)).length=cK (kz o) (nz o) k:=by
 unfold cw
 rw[(pI ho).1,<- (pI ho).2]
 exact zl
theorem BM(ho:o=0\/o=1)(m k:Nat):(cw o ((m:Int)-(k:Int))).length=cB (kz o) (nz o) m k:=by
 unfold cB
 by_cases h:k<=m
 ·rw[show Nat.ble k m=true from Nat.ble_eq.mpr h,show(m:Int)-(k:Int)=((m-k:Nat):Int) by omega]
  exact vQ ho _
 ·rw[show Nat.ble k m=false from by rw[Sx];exact fun z=>h (Nat.ble_eq.mp z)]
  unfold cw
  rw[(pI ho).1,zk (by omega)]
  rfl
theorem gD{α β:Type}(f:α->List β):∀(l:List α),(l.flatMap f).length=(l.map fun x=>(f x).length).sum
 | []=>rfl
 | x::l=>by rw[RF,Qr,gD f l];rfl
theorem Cg{k:Int}:(i7 N o k).length=(cw o k).length*(cw o (4*N-k)).length:=by
 unfold i7
 generalize cw o (4*N-k)=r
 induction cw o k with
 | nil=>simp
 | cons x l ih=>rw[RF,Qr,ih,Qp,Qw,Nat.succ_mul,Nat.add_comm]
theorem wk(ho:o=0\/o=1)(N:Nat):(dD (N:Int) o).length=((kz o).map fun k=>cK (kz o) (nz o) k*cB (kz o) (nz o) (4*N) k).sum:=by
 unfold dD
 rw[gD,(pI ho).1,RT]
 congr 1
 apply List.map_congr_left
 intro k _
 show(i7 (N:Int) o (k:Int)).length=_
 rw[Cg,vQ ho,<- BM ho,show((4*N:Nat):Int)=4*(N:Int) by omega]
noncomputable def se(n:Nat):Nat:=((List.range ((n+1) / 2)).map fun i=>bif Nat.beq (n % (1+i*2)) 0 then 1+i*2 else 0).sum
noncomputable def cA(o:Int)(N:Nat):Nat:=((kz o).map fun k=>cK (kz o) (nz o) k*cB (kz o) (nz o) (4*N) k).sum
noncomputable def lH(N:Nat):Bool:=Nat.beq (cA 0 N+cA 1 N) (24*se N)&&(Nat.ble (cA 0 N) 4000&&(Nat.ble (cA 1 N) 4000&&Nat.ble 2 (cA 0 N+cA 1 N)))
theorem LP:((List.range 14).all fun i=>lH (1+i))=true:=by decide +kernel
theorem Ka:((List.range 14).all fun i=>lH (15+i))=true:=by decide +kernel
theorem J9:((List.range 14).all fun i=>lH (29+i))=true:=by decide +kernel
theorem J8:((List.range 14).all fun i=>lH (43+i))=true:=by decide +kernel
theorem J1:((List.range 14).all fun i=>lH (57+i))=true:=by decide +kernel
theorem J0:((List.range 14).all fun i=>lH (71+i))=true:=by decide +kernel
theorem JZ:((List.range 13).all fun i=>lH (85+i))=true:=by decide +kernel
theorem F2{N:Nat}(h1:1<=N)(h2:N<=97):lH N=true:=by
 by_cases q0:N<15
 ·have:=QT.mp LP (N-1) (RM.mpr (by omega))
  rwa [show 1+(N-1)=N by omega]at this
 by_cases q14:N<29
 ·have:=QT.mp Ka (N-15) (RM.mpr (by omega))
  rwa [show 15+(N-15)=N by omega]at this
 by_cases q28:N<43
 ·have:=QT.mp J9 (N-29) (RM.mpr (by omega))
  rwa [show 29+(N-29)=N by omega]at this
 by_cases q42:N<57
 ·have:=QT.mp J8 (N-43) (RM.mpr (by omega))
  rwa [show 43+(N-43)=N by omega]at this
 by_cases q56:N<71
 ·have:=QT.mp J1 (N-57) (RM.mpr (by omega))
  rwa [show 57+(N-57)=N by omega]at this
 by_cases q70:N<85
 ·have:=QT.mp J0 (N-71) (RM.mpr (by omega))
  rwa [show 71+(N-71)=N by omega]at this
 by_cases q84:N<98
 ·have:=QT.mp JZ (N-85) (RM.mpr (by omega))
  rwa [show 85+(N-85)=N by omega]at this
 omega
theorem AB{N:Nat}(h1:1<=N)(h2:N<=97):(dD (N:Int) 0).length+(dD (N:Int) 1).length=24*se N/\(dD (N:Int) 0).length<=4000/\(dD (N:Int) 1).length<=4000/\2<=(dD (N:Int) 0).length+(dD (N:Int) 1).length:=by
 have h:=F2 h1 h2
 rw[wk (.inl rfl),wk (.inr rfl)]
 unfold lH at h
 simp only[Qx,Nat.beq_eq,Nat.ble_eq]at h
 exact h
noncomputable def cv(N:Int):List (List Int):=bN (dD N 0++dD N 1)
theorem ur(N:Int):(cv N).Nodup:=by
 refine(b9 _).nodup_iff.mpr (List.pairwise_append.mpr ⟨AC (.inl rfl),AC (.inr rfl),fun x hx y hy e=>?_⟩)
 obtain⟨a,b,c,d,rfl,_,⟨h,_⟩,_⟩:=gj (.inl rfl) hx
 obtain⟨a',b',c',d',rfl,_,⟨h',_⟩,_⟩:=gj (.inr rfl) hy
 cases e
 rw[h]at h'
 cases h'
theorem nc(h:t∈cv N):wp N 0 t\/wp N 1 t:=by
 rcases QN.mp ((b9 _).mem_iff.mp h)with h|h
 ·exact .inl (gj (.inl rfl) h)
 ·exact .inr (gj (.inr rfl) h)
theorem Km(N:Int):(cv N).Pairwise fun a b=>HT.lexLt a b=true:=by
 refine(List.Pairwise.and (jN _) (ur N)).imp fun {a b} h=>?_
 rcases Bool.eq_false_or_eq_true (HT.lexLt a b)with e|e
 ·exact e
 ·exact absurd (jt _ _ e h.1) h.2
theorem Gf(N:Int):(cv N).length=(dD N 0).length+(dD N 1).length:=by
 rw[show(cv N).length=(dD N 0++dD N 1).length from(b9 _).length_eq,Qr]
noncomputable def pR(Φ:Fx)(sc:Scope)(ps:List Str)(ss:List Stmt)(ds:List D)(r:D):Prop:=ds.length=ps.length/\∀(X:Cx) (H0:Hp),aL Φ X sc->PassesOwn (model X.prog X.w) X.A X.env X.xe->cX X H0 (d5 ps ds) ss (.rt r)
theorem mX{mg:Str->Option Value}{base:Heap}{g qual:Str}{f:Addr}{fd:FuncData}{ps:List Str}{F:List D->Rs D}(Fn:nQ K g qual st f fd)
  (S:aV (aJ (ac st)) ps (ac st)) (hΦ:uC P w K mg base k Φ) (hrun:∀ds r,aa (F ds) r->pR Φ (ac st) ps (am st) ds r):bG P w K mg base eh (k+1) f fd ps (km K F):=by
 refine Fn.ok S (fun vs H Q E h=>?_) (fun cdv A outer s H vs Q E hr h=>?_)
 ·obtain⟨ds,r,l,h1,h2,hp,_⟩:=h
  rw[<- h1.length]
  exact(hrun ds r ⟨l,h2,hp⟩).1
 ·obtain⟨ds,r,l,h1,h2,hp,qq⟩:=h
  obtain⟨hl,hr'⟩:=hrun ds r ⟨l,h2,hp⟩
  have G:=mU (outer:=outer) (H:=H) (E:=E) S hΦ hr
  obtain⟨E0,hsl⟩:=pF (P:=P) (w:=w) (mg:=mg) (base:=base) (qual:=qual) (f:=f) (cdv:=cdv) (A:=A) (outer:=outer) (s:=s) (E:=E) S h1 hl
  have B0:bi H (fun _=>none) H:=fun a o h=>⟨h,rfl⟩
  exact⟨_,hr' _ H G RX,fun _=>none,E0,hsl,B0,fun v H' sm rp=>qq v H' sm rp⟩
theorem jg{H0:Hp}(n:Nat){fl:Fl}(G:aL Φ X sc)(hp:PassesOwn (model X.prog X.w) X.A X.env X.xe)(h:aa (aA Φ (ss.take n) sc ρ) (.nx ρ1))(k:cX X H0 ρ1 (ss.drop n) fl):cX X H0 ρ ss fl:=by
 rw[<- Q0 n ss];exact vw G hp h k
theorem m8{H0:Hp}{tg:Expr}{body:List Stmt}{α:Type}{h:α->D}(ak:List α->ah->Prop):∀(l:List α) (ρ:ah),ak l ρ->(∀x q ρ,ak (x::q) ρ->∃ρ1,GD X ρ tg (h x) ρ1/\∃ρ2,cX X H0 ρ1 body (.nx ρ2)/\ak q ρ2)->∃ρ',AT X H0 tg body (l.map h) ρ (.nx ρ')/\ak [] ρ'
 | [],ρ,h0,_=>⟨ρ,rfl,h0⟩
 | x::l,ρ,h0,st=>by
  obtain⟨ρ1,g,ρ2,b,h2⟩:=st x l ρ h0
  obtain⟨ρ',c,hf⟩:=m8 ak l ρ2 h2 st
  exact⟨ρ',⟨ρ1,g,.inl ⟨ρ2,b,c⟩⟩,hf⟩
theorem Dt(h:aa (bj Φ es sc ρ) (ds,k))(G:aL Φ X sc):AD X ρ es ds k:=let ⟨_,a,b⟩:=h;lC es a b G
theorem pH(h:aa (ax Φ e false sc ρ) (d,k))(G:aL Φ X sc):ED X ρ e d k:=(cy h G).ed rfl
noncomputable def Cp(n:Nat):It:=⟨fun i _=>i<n,fun i H x H'=>H'=H/\x=.int (1+(i:Nat)*2),fun i _=>n<=i⟩
theorem uM(it:Addr)(n:Nat):Turn P w K tg (Cp n) [it] it (fun i h=>IsRangeIter h it (1+(i:Nat)*2) ((n:Int)-(i:Nat)) 2) where
 mem:=by simp
 obj:=fun i h st b hb=>by
  have e:b=it:=by simpa using hb
  subst e
  exact⟨_,st,fun v z=>by
   have z':Data.fields _=Data.cell v:=z
   cases z'⟩
 keep:=fun i h h' st k=>k it (by simp) _ st
 item:=by
  intro X hP hw hK hc i pins s σ H E I hf st hg
  subst hP hw hK
  obtain⟨f0,f1,f2,f3,f4,f5⟩:=hf it (by simp)
  have W:=Walks.range (prog:=X.prog) (w:=X.w) (I.ok.hd hc) it 1 2 n
  refine W.item i s _ _ hg st fun v h' tk hv st' kk=>?_
  obtain⟨t,rfl⟩:=hv
  have I1:ak X pins σ H { s with heap:=h',toks:=tk }:=I.turned (fun b o hb e=>kk b o (by simpa using hb) e) f0 f1 f3 f4 f5
  exact⟨_,rfl,jW (s:={ s with heap:=h',toks:=tk }) (n := "range_iterator") st' rfl rfl (by decide) ⟨.int (1+(i:Nat)*2),H,I1,⟨t,rfl⟩,⟨rfl,rfl⟩,st',fun b hb=>(hf b hb).1⟩⟩
 done:=by
  intro X hP hw hK hc i pins s σ H E I hf st hg
  subst hP hw hK
  obtain⟨f0,f1,f2,f3,f4,f5⟩:=hf it (by simp)
  exact wpAny_pyNext_range_end (I.ok.hd hc) st (by have:n<=i:=hg;omega) fun h' eb=>⟨rfl,I.turned (t':=s.toks) (fun b o hb e=>eb b o hb e) f0 f1 f3 f4 f5⟩
 self:=fun _ _ _ _ _ st h=>wpAny_pyIter_rangeiter st h
theorem G6(h1:1<=j)(h2:j<=100):Builtin.Range.rangeSize 1 j 2=((j.toNat / 2:Nat):Int):=by
 obtain⟨n,rfl⟩:∃n:Nat,j=(n:Int):=⟨j.toNat,by omega⟩
 have k:∀n:Nat,n<101->1<=(n:Int)->Builtin.Range.rangeSize 1 (n:Int) 2=(((n:Int).toNat / 2:Nat):Int):=by decide +kernel
 exact k n (by omega) h1
theorem GV(h1:1<=j)(h2:j<=100):Builtin.Range.small 1 j 2=true:=by
 obtain⟨n,rfl⟩:∃n:Nat,j=(n:Int):=⟨j.toNat,by omega⟩
 have k:∀n:Nat,n<101->1<=(n:Int)->Builtin.Range.small 1 (n:Int) 2=true:=by decide +kernel
 exact k n (by omega) h1
theorem yL{R:It->Hp->Prop}{E:Value->Shared->Prop}{t u v:Tok}{tk:Nat}(I:ak X pins σ H s)(h1:1<=j)(h2:j<=100)
  (q:R (Cp (j.toNat / 2)) H):wpAny (model X.prog X.w) X.A (pyIter (.ref s.heap.objs.size)) (Ku X pins σ tg R) E { s with heap:=s.heap.push { cls:=.type "range", data:=.fields #[.int 1 t,.int j u,.int 2 v] },toks:=tk }:=by
 refine wpAny_pyIter_range (IsRange.new ..) (GV h1 h2) ?_
 have I1:ak X pins σ H { s with heap:=s.heap.push { cls:=.type "range", data:=.fields #[.int 1 t,.int j u,.int 2 v] },toks:=tk }:=I.kept fun b o e=>Qk _ e
 refine⟨(s.heap.push { cls:=.type "range", data:=.fields #[.int 1 t,.int j u,.int 2 v] }).objs.size,[(s.heap.push { cls:=.type "range", data:=.fields #[.int 1 t,.int j u,.int 2 v] }).objs.size],_,_,H,rfl,
  I1.kept (t':=tk) fun b o e=>Qk _ e,uM _ (j.toNat / 2),?_,fun b hb=>?_,q⟩
 ·have e1:1+((0:Nat):Int)*2=1:=by simp
  have e2:(((j.toNat / 2:Nat):Int))-((0:Nat):Int)=Builtin.Range.rangeSize 1 j 2:=by rw[G6 h1 h2];omega
  show IsRangeIter _ _ (1+((0:Nat):Int)*2) (((j.toNat / 2:Nat):Int)-((0:Nat):Int)) 2
  rw[e1,e2]
  exact QG _ rfl
 ·have e:b=(s.heap.push { cls:=.type "range", data:=.fields #[.int 1 t,.int j u,.int 2 v] }).objs.size:=by simpa using hb
  subst e
  exact I1.fpOk (Ql _) (I1.hok.fresh (Ql _))
noncomputable def Lr(ta:TA):TI:=fun σ H R=>ta σ H fun vs H1 => ∃j:Int,vs=[.int 1,.int j,.int 2]/\(1<=j/\j<=100)/\R (Cp (j.toNat / 2)) H1
theorem yU{a b:Expr}{ta:TA}(hg:Gl X "range")(hm:X.mg "range" = none)(ha:PA X [a,b,c] ta)(hs:starEach [a,b,c] X.env=[(false,eval a X.env),(false,eval b X.env),(false,eval c X.env)])(hs2:starEach [b,c] X.env=[(false,eval b X.env),(false,eval c X.env)]) :
  PI X tg (.Call (.Name "range" p) [a,b,c] [] pos) (Lr ta):=by
 intro pins s σ H R I h
 refine Call_ (io I hg hm boot_range (RO (aN (ha pos pins s σ H _ I h) fun us s1 ⟨vs,H1,I1,r1,q1⟩=>?_) (by rw[hs,hs2]) (by rw[hs2];rfl)))
 obtain⟨j,e,⟨q1,q2⟩,q⟩:=q1
 subst e
 cases r1 with
 | cons r rr =>
  cases rr with
  | cons r' rr =>
   cases rr with
   | cons r'' rr =>
    cases rr
    obtain⟨t,rfl⟩:=r
    obtain⟨t',rfl⟩:=r'
    obtain⟨t'',rfl⟩:=r''
    exact call_range_3 (by decide) (yL I1 q1 q2 q)
theorem zD{a b:Expr}(hg:Gl X "range")(hm0:X.mg "range" = none)(ha:AD X ρ [a,b,c] [.int 1,.int j,.int 2] k)(hst:∀y p,a ≠ .Starred y p)(hst2:∀y p,b ≠ .Starred y p)(hst3:∀y p,c ≠ .Starred y p)(h1:1<=j)(h2:j<=100) :
  IE X ρ tg (.Call (.Name "range" p) [a,b,c] [] pos) ((List.range (j.toNat / 2)).map fun i=>.int (1+(i:Nat)*2)) 0:=by
 intro ow pins s σ H R I ⟨E,q⟩
 have e3:starEach [c] X.env=[(false,eval c X.env)]:=aF hst3
 have e2:starEach [b,c] X.env=[(false,eval b X.env),(false,eval c X.env)]:=by rw[aF hst2,e3]
 refine yU (tg:=tg) hg hm0 (ha ow) (by rw[aF hst,e2]) e2 pins s σ H R I ⟨E,fun vs H1 s1 r1=>?_⟩
 rw[aj]at r1
 obtain⟨v1,r,rfl,r2,r3⟩:=r1
 rw[aj]at r3
 obtain⟨v2,r',rfl,r4,r5⟩:=r3
 rw[aj]at r5
 obtain⟨v3,r'',rfl,r6,r7⟩:=r5
 rw[aj]at r7
 rw[ai]at r2 r4 r6
 subst r2 r4 r6 r7
 refine⟨j,rfl,⟨h1,h2⟩,q _ H1 s1 fun i H2 st=>⟨fun d hd=>?_,fun hle=>?_⟩⟩
 ·rw[QY]at hd
  cases e:(List.range (j.toNat / 2))[i]? with
  | none=>rw[e]at hd;cases hd
  | some n =>
   rw[e]at hd;cases hd
   obtain⟨hi,hn⟩:=Qz.mp e
   rw[List.getElem_range]at hn
   subst hn
   rw[R6]at hi
   refine⟨hi,fun x H3 ⟨e3,y3⟩=>?_⟩
   subst e3 y3
   exact⟨ar.refl _,by rw[ai]⟩
 ·rw[Qp,R6]at hle
  exact hle
noncomputable def mP(ds:List D)(k:Nat):R1 :=
 match ds with
 | [.int i,.int j,.int m]=>.ok (.lst ((List.range (j.toNat / 2)).map fun n=>.int (1+(n:Nat)*2)),0) [i=1,m=2,1<=j,j<=100]
 | _=>tF ds k
theorem xy:nj "range" mP:=by
 refine⟨by decide +kernel,fun X ρ p pos args ds k d j l tg o hc hg hm ha hst hlen h hp hl ht=>?_⟩
 unfold mP at h
 split at h
 ·rename_i i n m
  cases h
  cases hl
  obtain⟨rfl,rfl,h1,h2,_⟩:=hp
  match args,hlen,ha,hst with
  | [a,b,c],_,ha,hst=>exact zD hg hm ha (hst a Qj) (hst b (Qi _ Qj)) (hst c (Qi _ (Qi _ Qj))) h1 h2
 ·exact zF.2 X ρ p pos args ds k d j l tg o hc hg hm ha hst hlen h hp hl ht
end Sp
namespace K
open PySem L2 Sp Qm
variable{m n:Nat}{p q:Qd}
theorem wZ{a b:Int}(h:a=b):(!fj (.int a) (.int b))=false:=by rw[h];simp

theorem pE{Φ:Fx}{sc:Scope}{ρ:ah}{a b:Expr}{op:Operator}{p:Pos}{it:Bool}{x y:D}{k j:Nat}{r:D×Nat}(ha:aa (ax Φ a false sc ρ) (x,k))(hb:aa (ax Φ b false sc ρ) (y,j))(h:aa (uh op x y k j) r):aa (ax Φ (.BinOp a op b p) it sc ρ) r:=aa.bnd ha (aa.bnd hb h)
theorem rH{α:Type}{f:α->D}{l:List α}{i:Int}(h0:0<=i)(h1:i<l.length):∃x∈l,L2.atI (l.map f) i=some (f x):=by
 obtain⟨j,rfl⟩:=Int.eq_ofNat_of_zero_le h0
 have hj:j<l.length:=by omega
 exact⟨l[j],List.getElem_mem _,wf (by simp[hj])⟩
noncomputable def gQ(n:Nat)(q:Qd):Prop:=bJ q/\sW (2 ^ n) q
theorem gQ.mono(h:gQ m q)(g:m<=n):gQ n q:=⟨h.1,BJ h.2 (Nat.pow_le_pow_right (by decide) g)⟩
theorem gQ.bd(h:gQ n q)(g:n<9000):iJ q:=Au h.2 (Nat.pow_lt_pow_right (by decide) g)
theorem gQ.sum(h:gQ n p)(g:gQ n q):gQ (n+1) (A3 p q):=⟨Bu h.1 g.1,by rw[Nat.pow_succ,Nat.mul_two];exact Fm h.2 g.2⟩
theorem pN(h:n<=2 ^ m)(hm:m<9000):n<gF:=Rg h (Nat.pow_lt_pow_right (by decide) hm)
open Builtin.Int (intBits)


noncomputable def bC:List Qd:=[(-2,0,0,0),(-1,-1,-1,-1),(-1,-1,-1,1),(-1,-1,1,-1),(-1,-1,1,1),(-1,1,-1,-1),(-1,1,-1,1),(-1,1,1,-1),(-1,1,1,1),(0,-2,0,0),(0,0,-2,0),(0,0,0,-2),(0,0,0,2),(0,0,2,0),(0,2,0,0),(1,-1,-1,-1),(1,-1,-1,1),(1,-1,1,-1),(1,-1,1,1),(1,1,-1,-1),(1,1,-1,1),(1,1,1,-1),(1,1,1,1),(2,0,0,0)]
noncomputable def Ct:List (List Int):=[[-2,0,0,0],[0,-2,0,0],[0,0,-2,0],[0,0,0,-2],[2,0,0,0],[0,2,0,0],[0,0,2,0],[0,0,0,2],[-1,-1,-1,-1],[-1,-1,-1,1],[-1,-1,1,-1],[-1,-1,1,1],[-1,1,-1,-1],[-1,1,-1,1],[-1,1,1,-1],[-1,1,1,1],[1,-1,-1,-1],[1,-1,-1,1],[1,-1,1,-1],[1,-1,1,1],[1,1,-1,-1],[1,1,-1,1],[1,1,1,-1],[1,1,1,1]]
noncomputable abbrev Cu:List D:=[.tup [.int (-2),.int 0,.int 0,.int 0],.tup [.int 0,.int (-2),.int 0,.int 0],.tup [.int 0,.int 0,.int (-2),.int 0],.tup [.int 0,.int 0,.int 0,.int (-2)],.tup [.int 2,.int 0,.int 0,.int 0],.tup [.int 0,.int 2,.int 0,.int 0],.tup [.int 0,.int 0,.int 2,.int 0],.tup [.int 0,.int 0,.int 0,.int 2],.tup [.int (-1),.int (-1),.int (-1),.int (-1)],.tup [.int (-1),.int (-1),.int (-1),.int 1],.tup [.int (-1),.int (-1),.int 1,.int (-1)],.tup [.int (-1),.int (-1),.int 1,.int 1],.tup [.int (-1),.int 1,.int (-1),.int (-1)],.tup [.int (-1),.int 1,.int (-1),.int 1],.tup [.int (-1),.int 1,.int 1,.int (-1)],.tup [.int (-1),.int 1,.int 1,.int 1],.tup [.int 1,.int (-1),.int (-1),.int (-1)],.tup [.int 1,.int (-1),.int (-1),.int 1],.tup [.int 1,.int (-1),.int 1,.int (-1)],.tup [.int 1,.int (-1),.int 1,.int 1],.tup [.int 1,.int 1,.int (-1),.int (-1)],.tup [.int 1,.int 1,.int (-1),.int 1],.tup [.int 1,.int 1,.int 1,.int (-1)],.tup [.int 1,.int 1,.int 1,.int 1]]
theorem par_of(h:p.1 % 2=p.2.1 % 2/\p.1 % 2=p.2.2.1 % 2/\p.1 % 2=p.2.2.2 % 2):bJ p :=
 ⟨p.1 % 2,p.1 / 2,p.2.1 / 2,p.2.2.1 / 2,p.2.2.2 / 2,by omega,by omega,by omega,by omega,by omega⟩
theorem By:∀p∈bC,(p.1 % 2=p.2.1 % 2/\p.1 % 2=p.2.2.1 % 2/\p.1 % 2=p.2.2.2 % 2)/\fW p=1/\p.1.natAbs<=2/\p.2.1.natAbs<=2/\p.2.2.1.natAbs<=2/\p.2.2.2.natAbs<=2:=by decide +kernel
theorem sM:∀p∈bC,∀q∈bC,dg p q∈bC:=by decide +kernel
theorem dw(h:p∈bC):bJ p/\fW p=1/\iJ p:=by
 obtain⟨h1,h2,h3,h4,h5,h6⟩:=By p h
 exact⟨par_of h1,h2,pN (m:=1) h3 (by decide),pN (m:=1) h4 (by decide),pN (m:=1) h5 (by decide),pN (m:=1) h6 (by decide)⟩
noncomputable def l4(p:Qd):List Int:=[p.1,p.2.1,p.2.2.1,p.2.2.2]
end K
namespace K
open PySem PySem.Spec PyProof.Rows L2 Sp Qm

end K
namespace K
open PySem L2 Sp Qm
variable{P Q:ah->Prop}{s:Stmt}
section
variable{Φ:Fx}{sc:Scope}{ρ ρ1:ah}{ss:List Stmt}
theorem o4(h:P ρ):∃ρ',aa (aA Φ [] sc ρ) (.nx ρ')/\P ρ':=⟨ρ,db,h⟩
theorem o3(h:∃ρ1,aa (fi Φ s sc ρ) (.nx ρ1)/\P ρ1)(k:∀ρ1,P ρ1->∃ρ2,aa (aA Φ ss sc ρ1) (.nx ρ2)/\Q ρ2):∃ρ2,aa (aA Φ (s::ss) sc ρ) (.nx ρ2)/\Q ρ2:=by
 obtain⟨ρ1,h1,h2⟩:=h
 obtain⟨ρ2,h3,h4⟩:=k ρ1 h2
 exact⟨ρ2,bA h1 h3,h4⟩
theorem Lf(h:aa (fi Φ s sc ρ) (.nx ρ1))(k:∃ρ2,aa (aA Φ ss sc ρ1) (.nx ρ2)/\Q ρ2):∃ρ2,aa (aA Φ (s::ss) sc ρ) (.nx ρ2)/\Q ρ2:=by
 obtain⟨ρ2,h3,h4⟩:=k
 exact⟨ρ2,bA h h3,h4⟩
theorem v8{a b:Expr}{p:Pos}{it:Bool}{s t:Bool}{k j:Nat}(h:aa (ax Φ a false sc ρ) (.bl s,k))(g:aa (ax Φ b false sc ρ) (.bl t,j)):aa (ax Φ (.BoolOp .And [a,b] p) it sc ρ) (.bl (s&&t),0):=by
 refine cI (hZ h (fun e=>?_) (fun e=>?_))
 ·subst e
  refine hZ g (fun e=>?_) (fun e=>?_)
  ·subst e;exact jC
  ·subst e;rfl
 ·subst e;rfl
end
end K
namespace Sp
open PySem PySem.Spec PyProof.Rows L2
variable{X:Cx}
end Sp
namespace K
open PySem L2 Sp Qm
variable{x:Str}{N a b c m n o par:Int}{p:Pos}{it s:Bool}{k:Nat}{d:D}{α:Type}{tg:Expr}{g q u v:Qd}{args:List Expr}{ds l:List D}{ks:List aR}{t:List Int}
section
variable{Φ:Fx}{sc:Scope}{ρ ρ1:ah}{ss:List Stmt}
theorem BW{y:Str}(h:PyData.strOk x=true)(g:PyData.strOk y=true):iD (.str x) (.str y)=true:=by
 have k:∀x:Str,PyData.strOk x=true->SeqAt.shaped (D.str x).py=true:=fun x h=>by
  rw[D.py];unfold SeqAt.shaped
  simp[PyData.canLay0,PyData.depth,h]
 unfold iD
 rw[k x h,k y g];rfl
end
section
variable{Φ:Fx}{sc:Scope}{ρ ρ1:ah}{ss:List Stmt}{P Q:ah->Prop}
noncomputable def xC:Stmt->Expr
 | .For t _ _ _ _=>t
 | _=>.Name (Str.ofString "") ⟨0,0,0,0⟩
noncomputable def mW:Stmt->Expr
 | .For _ i _ _ _=>i
 | _=>.Name (Str.ofString "") ⟨0,0,0,0⟩
noncomputable def cu:Stmt->List Stmt
 | .For _ _ b _ _=>b
 | _=>[]
theorem xD{a:Expr}{b c:Bool}(h:aa (ax Φ a false sc ρ) (.bl b,k))(e:(!b)=c):aa (ax Φ (.UnaryOp .Not a p) it sc ρ) (.bl c,0):=by
 subst e
 exact(show aa (Rs.bnd (ax Φ a false sc ρ) fun p=>(match yf .Not p.1 with|some d=>.ok (d,0) []|none=>.st)) (.bl (!b),0)from aa.bnd h cO)
theorem P8(n:Nat)(h:∃ρ1,aa (aA Φ (ss.take n) sc ρ) (.nx ρ1)/\Q ρ1)(k:∀ρ1,Q ρ1->aa (aA Φ (ss.drop n) sc ρ1) (.rt d)):aa (aA Φ ss sc ρ) (.rt d):=by
 obtain⟨ρ1,h1,q⟩:=h
 exact ej n h1 (k ρ1 q)
theorem AE{α β:Type}{h:α->D}{g:α->List β}{T:List β}{bind:D->ah->Option ah}{body:ah->Rs Fl}(Q:List β->ah->Prop):∀(xs:List α) (F R:List β) (ρ:ah),(∀x∈xs,∀F R ρ,F++(g x++R)=T->Q F ρ->∃ρ1,bind (h x) ρ=some ρ1/\∃ρ2,aa (body ρ1) (.nx ρ2)/\Q (F++g x) ρ2)->F++(xs.flatMap g++R)=T->Q F ρ->∃ρ',aa (fe bind body (xs.map h) ρ) (.nx ρ')/\Q (F++xs.flatMap g) ρ'
 | [],F,R,ρ,_,_,q=>⟨ρ,cO,by simpa using q⟩
 | x::xs,F,R,ρ,st,e,q=>by
  rw[RF,QQ]at e
  obtain⟨ρ1,h1,ρ2,h2,q2⟩:=st x Qj F _ ρ e q
  obtain⟨ρ',h3,q3⟩:=AE Q xs (F++g x) R ρ2 (fun y hy=>st y (Qi _ hy)) (by rw[<- e];simp only[QQ]) q2
  refine⟨ρ',?_,by rw[RF,<- QQ];exact q3⟩
  rw[QJ,fe,h1]
  exact aa.bnd h2 h3
theorem mV{β:Type}{h:α->D}{g:α->List β}{T:List β}{it:Expr}{body:List Stmt}(Q:List β->ah->Prop)(xs:List α){F R:List β}(hi:aa (ax Φ it true sc (demote it ρ)) (d,k))(hd:items d=some (xs.map h))(q:Q F (demote it ρ))(e:F++(xs.flatMap g++R)=T)(st:∀x∈xs,∀F R ρ,F++(g x++R)=T->Q F ρ->∃ρ1,bE sc tg (h x) ρ=some ρ1/\∃ρ2,aa (aA Φ body sc ρ1) (.nx ρ2)/\Q (F++g x) ρ2)
  (hk:k<=1:=by first|exact Ql 1|exact QC 1) (ht:fF it tg=true:=by rfl):∃ρ',aa (fi Φ (.For tg it body [] p) sc ρ) (.nx ρ')/\Q (F++xs.flatMap g) ρ':=by
 obtain⟨ρ',h1,h2⟩:=AE (bind:=bE sc tg) (body:=aA Φ body sc) Q xs F R _ st e q
 exact⟨ρ',zR hi hd hk ht h1,h2⟩
theorem Dj{f:Str}{q:Pos}{B:List D->Nat->R1}{v:D×Nat}(ha:aa (bj Φ args sc ρ) (ds,k))(hv:aa (B ds k) v)(hF:Φ.fn f=none:=by rfl)(hI:Φ.itr f=some B:=by rfl)(hg:sc.names.lookup f=some .globalImplicit:=by rfl):aa (ax Φ (.Call (.Name f p) args [] q) true sc ρ) v:=by
 rw[iC,if_pos hg]
 refine aa.bnd ha ?_
 unfold j8
 dsimp only
 rw[hF]
 dsimp only
 rw[if_pos rfl,hI]
 exact hv
theorem ly{m:Str}{ap cp q:Pos}{M:List D->List D->Nat->Rs (List D)}{l':List D}(ha:aa (bj Φ args sc ρ) (ds,k))(hx:ρ x=some (.lst l,true))(h:aa (M l ds k) l')(hm:Φ.mtt m=some M:=by rfl)(hp:(ap.endLine==cp.line)=true:=by rfl)(hn:dm x=true:=by rfl):aa (fi Φ (.Expr (.Call (.Attribute (.Name x p) m ap) args [] cp) q) sc ρ) (.nx (aM ρ x (.lst l',true))):=by
  show aa (if (ap.endLine==cp.line)=true then(bj Φ args sc ρ).bnd fun p=>(match Φ.mtt m with
      | some M=>qf ρ x fun l=>(M l p.1 p.2).bnd fun l'=>.ok (.nx (aM ρ x (.lst l',true))) []
      | none=>.st)else .st) _
  rw[if_pos hp]
  refine aa.bnd ha ?_
  rw[hm];dsimp only
  unfold qf
  rw[hx];dsimp only
  rw[if_pos hn]
  exact aa.bnd h cO
theorem h8{a i:Expr}{di:D}{key:aR}{k2:Nat}(ha:aa (ax Φ a false sc ρ) (.dct ks ds,k))(hi:aa (ax Φ i false sc ρ) (di,k2))(hk:ol di=some key)(hd:lD ks ds key=some d):aa (ax Φ (.Subscript a i p) it sc ρ) (d,0):=by
 have key:aa ((ax Φ a false sc ρ).bnd fun p=>(ax Φ i false sc ρ).bnd fun q=>jM p q) (d,0):=by
  refine ha.bnd (hi.bnd ?_)
  unfold jM;dsimp only
  rw[hk];dsimp only
  rw[hd];exact cO
 cases i with
 | Slice lo hi st p2=>exact(ao hi).elim
 | _=>exact key
theorem Jd{a:Expr}{i:Int}(h:aa (ax Φ a false sc ρ) (.int i,k)):aa (ax Φ (.UnaryOp .USub a p) it sc ρ) (.int (-i),0):=aa.bnd h cO
theorem pr{b:Bool}(h:fC ks (.inl m)=b):aa (iF .In (.int m) (.dct ks ds)) b:=⟨[],Rq (fun b=>Rs.ok b []) h,True.intro⟩
theorem pO(h:l.length<bc)(hd:d.lless=true:=by rfl):aa (mK l [d] k) (l++[d]):=⟨_,rfl,.inl hd,h,True.intro⟩
theorem ot{elt iter c:Expr}{scope:Scope}{g f:α->D}{t:α->Bool}{l:List α}(hi:aa (ax Φ iter true sc ρ) (d,k))(hd:items d=some (l.map g))(hl:l.length<=bc)(hk:au (l.map g)=true\/k<=1)
  (h:∀x∈l,∃ρ' j,bE scope tg (g x) (flt scope ρ)=some ρ'/\aa (ax Φ c false scope ρ') (.bl (t x),j)/\(t x=true->aa (ax Φ elt false scope ρ') (f x,0))) (hc:nM sc scope=true:=by rfl) (ht:fF iter tg=true:=by rfl):aa (ax Φ (.ListComp elt [⟨tg,iter,[c],0⟩] scope p) it sc ρ) (.lst ((l.filter t).map f),0):=by
 refine v7 hi hd ⟨by rw[Qp];exact hl,hk⟩ (lE fun x hx=>?_) (QC _) hc ht
 obtain⟨ρ',j,h1,h2,h3⟩:=h x hx
 rw[h1]
 refine aa.bnd (a:=t x) (hZ h2 (fun e=>by rw[e];exact jC) (fun e=>e)) ?_
 cases e:t x with
 | false=>exact cO
 | true =>
  show aa ((ax Φ elt false scope ρ').bnd fun r=>.ok (some r) []) (some (f x,0))
  exact aa.bnd (h3 e) cO
end
noncomputable def iq:List Int:=[0,1,2,3,4,5,6,7,8,9,10,11,12,13,14,15,16,17,18,19,20]
noncomputable def nA(l:List Int):List aR:=l.map fun d=>.inl (d*d)
noncomputable def vB(l:List Int):List D:=l.map D.int
noncomputable def sw(l:List Int)(m:Int):Option Int:=l.find? fun d=>decide (d*d=m)
theorem tG(m:Int):∀l:List Int,fC (nA l) (.inl m)=(sw l m).isSome
 | []=>rfl
 | d::l=>by
  show(decide ((Sum.inl (d*d):aR)=.inl m) || fC (nA l) (.inl m))=_
  rw[tG m l]
  unfold sw
  by_cases e:d*d=m
  ·rw[Rm,QM e,QM (Rq Sum.inl e)];rfl
  ·rw[Rm,QD e,QD (fun z=>e (Sum.inl.inj z))];rfl
theorem zK(m:Int):∀l:List Int,lD (nA l) (vB l) (.inl m)=(sw l m).map D.int
 | []=>rfl
 | d::l=>by
  have ih:=zK m l
  unfold lD sw at ih⊢
  show Option.map _ (List.find? _ ((Sum.inl (d*d),D.int d)::(nA l).zip (vB l)))=_
  by_cases e:d*d=m
  ·rw[Rm,Rm,QM e,QM (Rq Sum.inl e)];rfl
  ·rw[Rm,Rm,QD e,QD (fun z=>e (Sum.inl.inj z))];exact ih
theorem vA{d:Int}(h:sw iq m=some d):d*d=m/\0<=d/\d<=20:=by
 have h1:=List.find?_some h
 have h2:=List.mem_of_find?_eq_some h
 have h3:∀x∈iq,0<=x/\x<=20:=by decide
 exact⟨Q9 h1,h3 d h2⟩
noncomputable def en(n par:Int):List Int:=((List.range 41).map fun i:Nat => -20+(i:Int)).filter fun k=>decide (k.fmod 2=par)&&decide (k*k<=4*n)
noncomputable def nF(n a b c:Int):Int:=4*n-a*a-b*b-c*c
noncomputable def j7(n par a b c:Int):List Qd :=
 match sw iq (nF n a b c)with
 | some d=>if d.fmod 2=par then(a,b,c,d)::(if 0<nF n a b c then[(a,b,c,-d)]else[])else[]
 | none=>[]
noncomputable def xz(n par a b:Int):List Qd:=(en n par).flatMap (j7 n par a b)
noncomputable def xA(n par a:Int):List Qd:=(en n par).flatMap (xz n par a)
noncomputable def xB(n par:Int):List Qd:=(en n par).flatMap (xA n par)
noncomputable def dJ(n:Int):List Qd:=([0,1]:List Int).flatMap (xB n)
theorem gD{α β:Type}{f:α->List β}{m:Nat}:∀(l:List α),(∀x∈l,(f x).length<=m)->(l.flatMap f).length<=l.length*m
 | [],_=>by simp
 | x::l,h=>by
  rw[RF,Qr,Qw,Nat.add_mul]
  have h1:=h x Qj
  have h2:=gD l fun y hy=>h y (Qi _ hy)
  omega
theorem zo{α:Type}{p q:α->Bool}:∀l:List α,(l.filter fun k=>p k&&q k).length<=(l.filter p).length
 | []=>Ql _
 | x::l=>by
  have:=zo (p:=p) (q:=q) l
  rw[List.filter_cons,List.filter_cons]
  cases p x<;>cases q x<;>simp only[Bool.and_true,Bool.and_false,Ry,SK,if_true,Qw]<;>omega
theorem r9(h:par=0\/par=1):(en n par).length<=21:=by
 refine QA (zo _) ?_
 rcases h with rfl|rfl<;>decide
theorem B4(n par a b c:Int):(j7 n par a b c).length<=2:=by
 unfold j7
 split
 ·split
  ·split<;>simp
  ·simp
 ·simp
theorem tM(n:Int):(dJ n).length<=37044:=by
 have k0:∀par:Int,par=0\/par=1->(xB n par).length<=18522:=fun par h=>by
  have s:=r9 (n:=n) h
  have k2:∀a b,(xz n par a b).length<=42:=fun a b=>QA (gD _ fun c _=>B4 n par a b c) (by omega)
  have k1:∀a,(xA n par a).length<=882:=fun a=>QA (gD _ fun b _=>k2 a b) (by omega)
  exact QA (gD _ fun a _=>k1 a) (by omega)
 exact QA (gD (m:=18522) _ fun par h=>k0 par (by simpa using h)) (by decide)
theorem fZ{k:Int}(h:k∈en n par):k.fmod 2=par /\ -20<=k/\k<=20:=by
 unfold en at h
 rw[RG,QB]at h
 obtain⟨⟨i,hi,rfl⟩,h2⟩:=h
 rw[Qx]at h2
 have h3:i<41:=by simpa using hi
 exact⟨Q9 h2.1,by omega,by omega⟩
theorem sQ{k:Int}(h:-20<=k)(g:k<=20):k.natAbs<=32/\k.natAbs<=20:=by omega
theorem Qb(x y z n:Int):x+(y+(z+(4*n-x-y-z+0)))=4*n:=by omega
theorem B3(ha:a∈en n par)(hb:b∈en n par)(hc:c∈en n par)(h:q∈j7 n par a b c):gQ 5 q/\fW q=n:=by
 obtain⟨a1,a2,a3⟩:=fZ ha
 obtain⟨b1,b2,b3⟩:=fZ hb
 obtain⟨c1,c2,c3⟩:=fZ hc
 unfold j7 at h
 split at h
 ·rename_i d hd
  obtain⟨d1,d2,d3⟩:=vA hd
  split at h
  ·rename_i hp
   rw[Q8 _ (by decide)]at a1 b1 c1 hp
   have key:∀e:Int,e*e=d*d->e % 2=d % 2->e.natAbs<=20->gQ 5 (a,b,c,e)/\fW (a,b,c,e)=n:=fun e he hp2 h20=>by
    refine⟨⟨ER.mpr ⟨b1.trans a1.symm,c1.trans a1.symm,hp2.trans (hp.trans a1.symm)⟩,(sQ a2 a3).1,(sQ b2 b3).1,(sQ c2 c3).1,QA h20 (by decide)⟩,?_⟩
    show(a*a+(b*b+(c*c+(e*e+0)))).fdiv 4=n
    rw[he,d1]
    unfold nF
    rw[Qb,Qm.fd4]
   rcases Qo.mp h with rfl|h
   ·exact key d rfl rfl (sQ (Int.le_trans (by decide) d2) d3).2
   ·split at h
    ·have:=Qu.mp h
     subst this
     exact key (-d) (by rw[Int.neg_mul_neg]) (by clear key a1 b1 c1 hp a2 a3 b2 b3 c2 c3 d1 d2 d3;omega) (by rw[Int.natAbs_neg];exact(sQ (Int.le_trans (by decide) d2) d3).2)
    ·cases h
  ·cases h
 ·cases h
theorem BV(h:q∈dJ n):gQ 5 q/\fW q=n:=by
 unfold dJ at h
 obtain⟨par,_,h⟩:=RB.mp h
 unfold xB at h
 obtain⟨a,ha,h⟩:=RB.mp h
 unfold xA at h
 obtain⟨b,hb,h⟩:=RB.mp h
 unfold xz at h
 obtain⟨c,hc,h⟩:=RB.mp h
 exact B3 ha hb hc h
noncomputable def fq:List Int:=[2,3,5,7,11,13,17,19,23,29,31,37,41,43,47,53,59,61,67,71,73,79,83,89,97]
theorem zM:∀n∈fq,(dJ n).isEmpty=false:=by decide +kernel
theorem BU(h:n∈fq):0<(dJ n).length:=by
 have:=zM n h
 cases e:dJ n with
 | nil=>rw[e]at this;cases this
 | cons x l=>simp
section
variable{α:Type}[BEq α][LawfulBEq α](cl:α->List α)
noncomputable def grd:List α->List α->List α
 | [],_=>[]
 | f::l,m=>bif m.contains f then grd l m else f::grd l (m++cl f)
structure fv(A:List α):Prop where
 self:∀f∈A,f∈cl f
 into:∀f∈A,∀g∈cl f,g∈A
 sym:∀f∈A,∀g∈cl f,f∈cl g
 trans:∀f∈A,∀g∈cl f,∀h∈cl g,h∈cl f
end
section
variable{α:Type}[BEq α][LawfulBEq α]{cl:α->List α}
theorem grd_in{m:List α}{f:α}{l:List α}(h:f∈m):grd cl (f::l) m=grd cl l m:=by
 rw[grd,show m.contains f=true from List.contains_iff_mem.mpr h];rfl
theorem grd_out{m:List α}{f:α}{l:List α}(h:f∉m):grd cl (f::l) m=f::grd cl l (m++cl f):=by
 rw[grd,show m.contains f=false from by rw[Sx];exact fun z=>h (List.contains_iff_mem.mp z)];rfl
theorem hJ:∀{l m:List α},∀r∈grd cl l m,r∈l
 | [],m,r,h=>by cases h
 | f::l,m,r,h=>by
  by_cases hf:f∈m
  ·rw[grd_in hf]at h;exact Qi _ (hJ r h)
  ·rw[grd_out hf]at h
   rcases Qo.mp h with rfl|h
   ·exact Qj
   ·exact Qi _ (hJ r h)
theorem tH:∀l m:List α,(grd cl l m).Sublist l
 | [],m=>List.Sublist.refl _
 | f::l,m=>by
  by_cases hf:f∈m
  ·rw[grd_in hf];exact(tH l m).cons f
  ·rw[grd_out hf];exact(tH l _).cons_cons f
theorem vD:∀l:List α,l.Pairwise fun _ _=>True
 | []=>List.Pairwise.nil
 | x::l=>List.Pairwise.cons (fun _ _=>True.intro) (vD l)
noncomputable def ng(cl:α->List α)(A m:List α):Prop:=∀x∈m,x∈A/\∀y∈cl x,y∈m
theorem ng.add{A m:List α}{f:α}(C:fv cl A)(hf:f∈A)(h:ng cl A m):ng cl A (m++cl f):=by
 intro x hx
 rcases QN.mp hx with hx|hx
 ·exact⟨(h x hx).1,fun y hy=>QN.mpr (.inl ((h x hx).2 y hy))⟩
 ·exact⟨C.into f hf x hx,fun y hy=>QN.mpr (.inr (C.trans f hf x hx y hy))⟩
theorem mQ{A:List α}(C:fv cl A){R:α->α->Prop}:∀{l m:List α},(∀x∈l,x∈A)->ng cl A m->l.Pairwise R->∀r∈grd cl l m,(∀g∈cl r,g∉m)/\∀g∈cl r,g∈l->g=r\/R r g
 | [],m,_,_,_,r,h=>by cases h
 | f::l,m,hA,hm,hR,r,h=>by
  have hA':∀x∈l,x∈A:=fun x hx=>hA x (Qi _ hx)
  have hfA:=hA f Qj
  obtain⟨hf1,hR'⟩:=Q6.mp hR
  by_cases hf:f∈m
  ·rw[grd_in hf]at h
   obtain⟨h1,h2⟩:=mQ C hA' hm hR' r h
   refine⟨h1,fun g hg hgl=>?_⟩
   rcases Qo.mp hgl with rfl|hgl
   ·exact absurd hf (h1 _ hg)
   ·exact h2 g hg hgl
  ·rw[grd_out hf]at h
   rcases Qo.mp h with rfl|h
   ·refine⟨fun g hg hgm=>hf ((hm g hgm).2 _ (C.sym _ hfA g hg)),fun g hg hgl=>?_⟩
    rcases Qo.mp hgl with rfl|hgl
    ·exact .inl rfl
    ·exact .inr (hf1 g hgl)
   ·obtain⟨h1,h2⟩:=mQ C hA' (hm.add C hfA) hR' r h
    refine⟨fun g hg hgm=>h1 g hg (QN.mpr (.inl hgm)),fun g hg hgl=>?_⟩
    rcases Qo.mp hgl with rfl|hgl
    ·exact absurd (QN.mpr (.inr (C.self _ hfA))) (h1 _ hg)
    ·exact h2 g hg hgl
theorem mT:∀{l m:List α},(∀x∈l,x∈cl x)->∀x∈l,x∈m\/∃r∈grd cl l m,x∈cl r
 | [],m,_,x,h=>by cases h
 | f::l,m,hs,x,h=>by
  have hs':∀x∈l,x∈cl x:=fun x hx=>hs x (Qi _ hx)
  by_cases hf:f∈m
  ·rw[grd_in hf]
   rcases Qo.mp h with rfl|h
   ·exact .inl hf
   ·exact mT hs' x h
  ·rw[grd_out hf]
   rcases Qo.mp h with rfl|h
   ·exact .inr ⟨x,Qj,hs x Qj⟩
   ·rcases mT (m:=m++cl f) hs' x h with h|⟨r,h1,h2⟩
    ·rcases QN.mp h with h|h
     ·exact .inl h
     ·exact .inr ⟨f,Qj,h⟩
    ·exact .inr ⟨r,Qi _ h1,h2⟩
theorem mR{A:List α}(C:fv cl A):∀{l m:List α},(∀x∈l,x∈A)->ng cl A m->(grd cl l m).Pairwise fun a b => ∀x∈cl a,∀y∈cl b,x≠y
 | [],m,_,_=>List.Pairwise.nil
 | f::l,m,hA,hm=>by
  have hA':∀x∈l,x∈A:=fun x hx=>hA x (Qi _ hx)
  have hfA:=hA f Qj
  by_cases hf:f∈m
  ·rw[grd_in hf];exact mR C hA' hm
  ·rw[grd_out hf]
   refine Q6.mpr ⟨fun b hb x hx y hy e=>?_,mR C hA' (hm.add C hfA)⟩
   subst e
   exact(mQ C (R:=fun _ _=>True) hA' (hm.add C hfA) (vD _) b hb).1 x hy (QN.mpr (.inr hx))
theorem BT{A l:List α}(C:fv cl A)(hnd:∀f∈A,(cl f).Nodup)(hA:A.Nodup)(hl:l.Perm A):((grd cl l []).flatMap cl).Perm A:=by
 have hin:∀x∈l,x∈A:=fun x hx=>hl.mem_iff.mp hx
 have hw:ng cl A []:=fun x hx=>by cases hx
 refine(List.perm_ext_iff_of_nodup (List.pairwise_flatMap.mpr ⟨fun r hr=>hnd r (hin r (hJ r hr)),mR C hin hw⟩) hA).mpr fun x=>⟨fun hx=>?_,fun hx=>?_⟩
 ·obtain⟨r,hr,hx⟩:=RB.mp hx
  exact C.into r (hin r (hJ r hr)) x hx
 ·rcases mT (cl:=cl) (m:=[]) (fun x hx=>C.self x (hin x hx)) x (hl.mem_iff.mpr hx)with h|⟨r,h1,h2⟩
  ·cases h
  ·exact RB.mpr ⟨r,h1,h2⟩
theorem zO{n:Nat}:∀{R:List α},(∀r∈R,(cl r).length=n)->(R.flatMap cl).length=n*R.length
 | [],_=>rfl
 | r::R,h=>by
  rw[RF,Qr,h r Qj,zO fun r hr=>h r (Qi _ hr),Qw,Nat.mul_succ,Nat.add_comm]
theorem FC{A l:List α}{n:Nat}(C:fv cl A)(hnd:∀f∈A,(cl f).Nodup)(hn:∀f∈A,(cl f).length=n)(hA:A.Nodup)(hl:l.Perm A):A.length=n*(grd cl l []).length:=by
 rw[<- (BT C hnd hA hl).length_eq]
 exact zO fun r hr=>hn r (hl.mem_iff.mp (hJ r hr))
end
noncomputable def L7:DL:=([648,580,520,468,424,388,360,340,328,324,512,452,400,356,320,292,272,260,256,392,296,232,212,200,196,288,244,208,180,160,148,144,164,136,116,104,100,128,80,68,64,72,52,40,36,32,20,16,8,4,0],[[[-18,-18],[-18,18],[18,-18],[18,18]],[[-18,-16],[-18,16],[-16,-18],[-16,18],[16,-18],[16,18],[18,-16],[18,16]],[[-18,-14],[-18,14],[-14,-18],[-14,18],[14,-18],[14,18],[18,-14],[18,14]],[[-18,-12],[-18,12],[-12,-18],[-12,18],[12,-18],[12,18],[18,-12],[18,12]],[[-18,-10],[-18,10],[-10,-18],[-10,18],[10,-18],[10,18],[18,-10],[18,10]],[[-18,-8],[-18,8],[-8,-18],[-8,18],[8,-18],[8,18],[18,-8],[18,8]],[[-18,-6],[-18,6],[-6,-18],[-6,18],[6,-18],[6,18],[18,-6],[18,6]],[[-18,-4],[-18,4],[-14,-12],[-14,12],[-12,-14],[-12,14],[-4,-18],[-4,18],[4,-18],[4,18],[12,-14],[12,14],[14,-12],[14,12],[18,-4],[18,4]],[[-18,-2],[-18,2],[-2,-18],[-2,18],[2,-18],[2,18],[18,-2],[18,2]],[[-18,0],[0,-18],[0,18],[18,0]],[[-16,-16],[-16,16],[16,-16],[16,16]],[[-16,-14],[-16,14],[-14,-16],[-14,16],[14,-16],[14,16],[16,-14],[16,14]],[[-16,-12],[-16,12],[-12,-16],[-12,16],[12,-16],[12,16],[16,-12],[16,12]],[[-16,-10],[-16,10],[-10,-16],[-10,16],[10,-16],[10,16],[16,-10],[16,10]],[[-16,-8],[-16,8],[-8,-16],[-8,16],[8,-16],[8,16],[16,-8],[16,8]],[[-16,-6],[-16,6],[-6,-16],[-6,16],[6,-16],[6,16],[16,-6],[16,6]],[[-16,-4],[-16,4],[-4,-16],[-4,16],[4,-16],[4,16],[16,-4],[16,4]],[[-16,-2],[-16,2],[-14,-8],[-14,8],[-8,-14],[-8,14],[-2,-16],[-2,16],[2,-16],[2,16],[8,-14],[8,14],[14,-8],[14,8],[16,-2],[16,2]],[[-16,0],[0,-16],[0,16],[16,0]],[[-14,-14],[-14,14],[14,-14],[14,14]],[[-14,-10],[-14,10],[-10,-14],[-10,14],[10,-14],[10,14],[14,-10],[14,10]],[[-14,-6],[-14,6],[-6,-14],[-6,14],[6,-14],[6,14],[14,-6],[14,6]],[[-14,-4],[-14,4],[-4,-14],[-4,14],[4,-14],[4,14],[14,-4],[14,4]],[[-14,-2],[-14,2],[-10,-10],[-10,10],[-2,-14],[-2,14],[2,-14],[2,14],[10,-10],[10,10],[14,-2],[14,2]],[[-14,0],[0,-14],[0,14],[14,0]],[[-12,-12],[-12,12],[12,-12],[12,12]],[[-12,-10],[-12,10],[-10,-12],[-10,12],[10,-12],[10,12],[12,-10],[12,10]],[[-12,-8],[-12,8],[-8,-12],[-8,12],[8,-12],[8,12],[12,-8],[12,8]],[[-12,-6],[-12,6],[-6,-12],[-6,12],[6,-12],[6,12],[12,-6],[12,6]],[[-12,-4],[-12,4],[-4,-12],[-4,12],[4,-12],[4,12],[12,-4],[12,4]],[[-12,-2],[-12,2],[-2,-12],[-2,12],[2,-12],[2,12],[12,-2],[12,2]],[[-12,0],[0,-12],[0,12],[12,0]],[[-10,-8],[-10,8],[-8,-10],[-8,10],[8,-10],[8,10],[10,-8],[10,8]],[[-10,-6],[-10,6],[-6,-10],[-6,10],[6,-10],[6,10],[10,-6],[10,6]],[[-10,-4],[-10,4],[-4,-10],[-4,10],[4,-10],[4,10],[10,-4],[10,4]],[[-10,-2],[-10,2],[-2,-10],[-2,10],[2,-10],[2,10],[10,-2],[10,2]],[[-10,0],[-8,-6],[-8,6],[-6,-8],[-6,8],[0,-10],[0,10],[6,-8],[6,8],[8,-6],[8,6],[10,0]],[[-8,-8],[-8,8],[8,-8],[8,8]],[[-8,-4],[-8,4],[-4,-8],[-4,8],[4,-8],[4,8],[8,-4],[8,4]],[[-8,-2],[-8,2],[-2,-8],[-2,8],[2,-8],[2,8],[8,-2],[8,2]],[[-8,0],[0,-8],[0,8],[8,0]],[[-6,-6],[-6,6],[6,-6],[6,6]],[[-6,-4],[-6,4],[-4,-6],[-4,6],[4,-6],[4,6],[6,-4],[6,4]],[[-6,-2],[-6,2],[-2,-6],[-2,6],[2,-6],[2,6],[6,-2],[6,2]],[[-6,0],[0,-6],[0,6],[6,0]],[[-4,-4],[-4,4],[4,-4],[4,4]],[[-4,-2],[-4,2],[-2,-4],[-2,4],[2,-4],[2,4],[4,-2],[4,2]],[[-4,0],[0,-4],[0,4],[4,0]],[[-2,-2],[-2,2],[2,-2],[2,2]],[[-2,0],[0,-2],[0,2],[2,0]],[[0,0]]])
noncomputable def L6:DL:=([722,650,586,530,482,442,410,386,370,362,578,514,458,338,314,298,290,450,394,346,306,274,250,234,226,218,194,178,170,242,202,146,130,122,162,106,90,82,98,74,58,50,34,26,18,10,2],[[[-19,-19],[-19,19],[19,-19],[19,19]],[[-19,-17],[-19,17],[-17,-19],[-17,19],[17,-19],[17,19],[19,-17],[19,17]],[[-19,-15],[-19,15],[-15,-19],[-15,19],[15,-19],[15,19],[19,-15],[19,15]],[[-19,-13],[-19,13],[-13,-19],[-13,19],[13,-19],[13,19],[19,-13],[19,13]],[[-19,-11],[-19,11],[-11,-19],[-11,19],[11,-19],[11,19],[19,-11],[19,11]],[[-19,-9],[-19,9],[-9,-19],[-9,19],[9,-19],[9,19],[19,-9],[19,9]],[[-19,-7],[-19,7],[-17,-11],[-17,11],[-11,-17],[-11,17],[-7,-19],[-7,19],[7,-19],[7,19],[11,-17],[11,17],[17,-11],[17,11],[19,-7],[19,7]],[[-19,-5],[-19,5],[-5,-19],[-5,19],[5,-19],[5,19],[19,-5],[19,5]],[[-19,-3],[-19,3],[-17,-9],[-17,9],[-9,-17],[-9,17],[-3,-19],[-3,19],[3,-19],[3,19],[9,-17],[9,17],[17,-9],[17,9],[19,-3],[19,3]],[[-19,-1],[-19,1],[-1,-19],[-1,19],[1,-19],[1,19],[19,-1],[19,1]],[[-17,-17],[-17,17],[17,-17],[17,17]],[[-17,-15],[-17,15],[-15,-17],[-15,17],[15,-17],[15,17],[17,-15],[17,15]],[[-17,-13],[-17,13],[-13,-17],[-13,17],[13,-17],[13,17],[17,-13],[17,13]],[[-17,-7],[-17,7],[-13,-13],[-13,13],[-7,-17],[-7,17],[7,-17],[7,17],[13,-13],[13,13],[17,-7],[17,7]],[[-17,-5],[-17,5],[-5,-17],[-5,17],[5,-17],[5,17],[17,-5],[17,5]],[[-17,-3],[-17,3],[-3,-17],[-3,17],[3,-17],[3,17],[17,-3],[17,3]],[[-17,-1],[-17,1],[-13,-11],[-13,11],[-11,-13],[-11,13],[-1,-17],[-1,17],[1,-17],[1,17],[11,-13],[11,13],[13,-11],[13,11],[17,-1],[17,1]],[[-15,-15],[-15,15],[15,-15],[15,15]],[[-15,-13],[-15,13],[-13,-15],[-13,15],[13,-15],[13,15],[15,-13],[15,13]],[[-15,-11],[-15,11],[-11,-15],[-11,15],[11,-15],[11,15],[15,-11],[15,11]],[[-15,-9],[-15,9],[-9,-15],[-9,15],[9,-15],[9,15],[15,-9],[15,9]],[[-15,-7],[-15,7],[-7,-15],[-7,15],[7,-15],[7,15],[15,-7],[15,7]],[[-15,-5],[-15,5],[-13,-9],[-13,9],[-9,-13],[-9,13],[-5,-15],[-5,15],[5,-15],[5,15],[9,-13],[9,13],[13,-9],[13,9],[15,-5],[15,5]],[[-15,-3],[-15,3],[-3,-15],[-3,15],[3,-15],[3,15],[15,-3],[15,3]],[[-15,-1],[-15,1],[-1,-15],[-1,15],[1,-15],[1,15],[15,-1],[15,1]],[[-13,-7],[-13,7],[-7,-13],[-7,13],[7,-13],[7,13],[13,-7],[13,7]],[[-13,-5],[-13,5],[-5,-13],[-5,13],[5,-13],[5,13],[13,-5],[13,5]],[[-13,-3],[-13,3],[-3,-13],[-3,13],[3,-13],[3,13],[13,-3],[13,3]],[[-13,-1],[-13,1],[-11,-7],[-11,7],[-7,-11],[-7,11],[-1,-13],[-1,13],[1,-13],[1,13],[7,-11],[7,11],[11,-7],[11,7],[13,-1],[13,1]],[[-11,-11],[-11,11],[11,-11],[11,11]],[[-11,-9],[-11,9],[-9,-11],[-9,11],[9,-11],[9,11],[11,-9],[11,9]],[[-11,-5],[-11,5],[-5,-11],[-5,11],[5,-11],[5,11],[11,-5],[11,5]],[[-11,-3],[-11,3],[-9,-7],[-9,7],[-7,-9],[-7,9],[-3,-11],[-3,11],[3,-11],[3,11],[7,-9],[7,9],[9,-7],[9,7],[11,-3],[11,3]],[[-11,-1],[-11,1],[-1,-11],[-1,11],[1,-11],[1,11],[11,-1],[11,1]],[[-9,-9],[-9,9],[9,-9],[9,9]],[[-9,-5],[-9,5],[-5,-9],[-5,9],[5,-9],[5,9],[9,-5],[9,5]],[[-9,-3],[-9,3],[-3,-9],[-3,9],[3,-9],[3,9],[9,-3],[9,3]],[[-9,-1],[-9,1],[-1,-9],[-1,9],[1,-9],[1,9],[9,-1],[9,1]],[[-7,-7],[-7,7],[7,-7],[7,7]],[[-7,-5],[-7,5],[-5,-7],[-5,7],[5,-7],[5,7],[7,-5],[7,5]],[[-7,-3],[-7,3],[-3,-7],[-3,7],[3,-7],[3,7],[7,-3],[7,3]],[[-7,-1],[-7,1],[-5,-5],[-5,5],[-1,-7],[-1,7],[1,-7],[1,7],[5,-5],[5,5],[7,-1],[7,1]],[[-5,-3],[-5,3],[-3,-5],[-3,5],[3,-5],[3,5],[5,-3],[5,3]],[[-5,-1],[-5,1],[-1,-5],[-1,5],[1,-5],[1,5],[5,-1],[5,1]],[[-3,-3],[-3,3],[3,-3],[3,3]],[[-3,-1],[-3,1],[-1,-3],[-1,3],[1,-3],[1,3],[3,-1],[3,1]],[[-1,-1],[-1,1],[1,-1],[1,1]]])
theorem O3:dP 0=L7:=by decide +kernel
theorem O2:dP 1=L6:=by decide +kernel
noncomputable def B5(P:DL)(ps:List Int):Bool:=ps.all fun a=>ps.all fun b=>((eV P.1 P.2 (a*a+b*b)).getD []).contains [a,b]&&P.1.contains (a*a+b*b)
theorem Jw:B5 L7 (ik 0)=true:=by decide +kernel
theorem Jv:B5 L6 (ik 1)=true:=by decide +kernel
theorem tj(ho:o=0\/o=1)(ha:a∈ik o)(hb:b∈ik o):[a,b]∈cw o (a*a+b*b)/\a*a+b*b∈(dP o).1:=by
 have h:B5 (dP o) (ik o)=true:=by
  rcases ho with rfl|rfl
  ·rw[O3];exact Jw
  ·rw[O2];exact Jv
 have:=QT.mp (QT.mp h a ha) b hb
 rw[Qx]at this
 exact⟨List.contains_iff_mem.mp this.1,List.contains_iff_mem.mp this.2⟩
theorem wI(h:a*a<=388):-19<=a/\a<=19:=by
 refine⟨?_,?_⟩
 ·refine Int.not_lt.mp fun z=>?_
  have:=Int.mul_le_mul (show(20:Int) <= -a by omega) (show(20:Int) <= -a by omega) (by decide) (by omega)
  rw[Int.neg_mul_neg]at this
  omega
 ·refine Int.not_lt.mp fun z=>?_
  have:=Int.mul_le_mul (show(20:Int)<=a by omega) (show(20:Int)<=a by omega) (by decide) (by omega)
  omega
theorem CD(a:Int):0<=a*a:=by
 rcases Int.le_total 0 a with h|h
 ·exact Int.mul_nonneg h h
 ·exact Int.mul_nonneg_of_nonpos_of_nonpos h h
theorem mE(h:-19<=a/\a<=19)(hp:a % 2=o):a∈ik o:=by
 refine QB.mpr ⟨(a+19).toNat,RG.mpr ⟨RM.mpr (by omega),QM ?_⟩,by omega⟩
 rw[Q8 _ (by decide)]
 omega
theorem ut{d:Int}(ho:o=0\/o=1)(hN:N<=97)(hs:(a*a+b*b)+(c*c+d*d)=4*N)(pa:a % 2=o)(pb:b % 2=o)(pc:c % 2=o)(pd:d % 2=o):[a,b,c,d]∈dD N o:=by
 have a0:=CD a
 have b0:=CD b
 have c0:=CD c
 have d0:=CD d
 have ma:=mE (wI (show a*a<=388 by omega)) pa
 have mb:=mE (wI (show b*b<=388 by omega)) pb
 have mc:=mE (wI (show c*c<=388 by omega)) pc
 have md:=mE (wI (show d*d<=388 by omega)) pd
 obtain⟨h1,h2⟩:=tj ho ma mb
 obtain⟨h3,_⟩:=tj ho mc md
 refine RB.mpr ⟨_,h2,RB.mpr ⟨_,h1,QB.mpr ⟨[c,d],?_,rfl⟩⟩⟩
 rw[show 4*N-(a*a+b*b)=c*c+d*d by omega]
 exact h3
noncomputable def fN(N:Int)(q:Qd):Prop:=bJ q/\q.1*q.1+q.2.1*q.2.1+(q.2.2.1*q.2.2.1+q.2.2.2*q.2.2.2)=4*N
theorem ib(hN:N<=97):l4 q∈cv N↔fN N q:=by
 refine⟨fun h=>?_,fun⟨h,hs⟩=>?_⟩
 ·have:∃o,wp N o (l4 q):=by rcases nc h with h|h<;>exact⟨_,h⟩
  obtain⟨o,a,b,c,d,e,hs,⟨p1,p2,p3,p4⟩,_⟩:=this
  obtain⟨x,y,z,w⟩:=q
  have e':[x,y,z,w]=[a,b,c,d]:=e
  cases e'
  exact⟨K.par_of ⟨by show a % 2=b % 2;omega,by show a % 2=c % 2;omega,by show a % 2=d % 2;omega⟩,hs⟩
 ·obtain⟨x,y,z,w⟩:=q
  obtain⟨e,u1,u2,u3,u4,he,e1,e2,e3,e4⟩:=h
  dsimp only at e1 e2 e3 e4 hs
  refine(b9 _).mem_iff.mpr (QN.mpr ?_)
  rcases he with rfl|rfl
  ·exact .inl (ut (a:=x) (b:=y) (c:=z) (d:=w) (.inl rfl) hN hs (by omega) (by omega) (by omega) (by omega))
  ·exact .inr (ut (a:=x) (b:=y) (c:=z) (d:=w) (.inr rfl) hN hs (by omega) (by omega) (by omega) (by omega))
theorem eG(h:t∈cv N):∃q,t=l4 q:=by
 rcases nc h with⟨a,b,c,d,rfl,_⟩|⟨a,b,c,d,rfl,_⟩<;>exact⟨(a,b,c,d),rfl⟩
noncomputable def CH:List Int->Qd
 | [a,b,c,d]=>(a,b,c,d)
 | _=>Oa
theorem Ha(q:Qd):CH (l4 q)=q:=rfl
theorem zq{p:Qd}(h:l4 p=l4 q):p=q:=by rw[<- Ha p,h];rfl
noncomputable def nK(s:Bool)(q:Qd):List Qd:=bC.map fun u=>cF s q u
noncomputable def fE(s:Bool)(t:List Int):List (List Int):=(nK s (CH t)).map l4
theorem F4{p:Qd}(h:bJ p)(g:bJ q):bJ (cF s p q):=by
 unfold cF;split
 ·exact n9 h g
 ·exact n9 g h
theorem Ar(s:Bool)(q:Qd):cF s q qg=q:=by
 unfold cF;split
 ·exact BF q
 ·exact Bz q
theorem HL:qg∈bC:=by decide +kernel
theorem Av:∀u∈bC,lJ u∈bC:=by decide +kernel
theorem we(h:bJ q)(hu:bJ u)(hv:bJ v):cF s (cF s q u) v=cF s q (cF s u v):=by
 unfold cF
 cases s
 ·rw[if_neg (by decide),if_neg (by decide),if_neg (by decide),if_neg (by decide)]
  exact(eQ hv hu h).symm
 ·rw[if_pos rfl,if_pos rfl,if_pos rfl,if_pos rfl]
  exact eQ h hu hv
theorem Kh(hu:u∈bC)(hv:v∈bC):cF s u v∈bC:=by
 unfold cF;split
 ·exact sM u hu v hv
 ·exact sM v hv u hu
theorem F6(hu:u∈bC):cF s u (lJ u)=qg:=by
 obtain⟨h1,h2,_⟩:=dw hu
 unfold cF;split
 ·rw[(jR h1).1,h2];rfl
 ·rw[(jR h1).2,h2];rfl
theorem FT(h:bJ q)(hg:g∈nK s q):q∈nK s g:=by
 obtain⟨u,hu,rfl⟩:=QB.mp hg
 refine QB.mpr ⟨lJ u,Av u hu,?_⟩
 rw[we h (dw hu).1 (dw (Av u hu)).1,F6 hu,Ar]
theorem Ad{k:Qd}(h:bJ q)(hg:g∈nK s q)(hk:k∈nK s g):k∈nK s q:=by
 obtain⟨u,hu,rfl⟩:=QB.mp hg
 obtain⟨v,hv,rfl⟩:=QB.mp hk
 exact QB.mpr ⟨_,Kh hu hv,(we h (dw hu).1 (dw hv).1).symm⟩
theorem EZ:bC.Nodup:=by decide +kernel
theorem sU{p:Qd}(hn:n≠0)(h:rC p n=rC q n):p=q:=by
 obtain⟨a,b,c,d⟩:=p
 obtain⟨a',b',c',d'⟩:=q
 have h1:a*n=a'*n:=Rq (fun z=>z.1) h
 have h2:b*n=b'*n:=Rq (fun z=>z.2.1) h
 have h3:c*n=c'*n:=Rq (fun z=>z.2.2.1) h
 have h4:d*n=d'*n:=Rq (fun z=>z.2.2.2) h
 rw[Int.eq_of_mul_eq_mul_right hn h1,Int.eq_of_mul_eq_mul_right hn h2,Int.eq_of_mul_eq_mul_right hn h3,Int.eq_of_mul_eq_mul_right hn h4]
theorem F5(hq:bJ q)(h0:fW q≠0)(hu:bJ u)(hv:bJ v)(h:cF s q u=cF s q v):u=v:=by
 unfold cF at h
 cases s
 ·rw[if_neg (by decide),if_neg (by decide)]at h
  have:=Rq (fun z=>dg z (lJ q)) h
  rw[eQ hu hq (jP hq),eQ hv hq (jP hq),(jR hq).1,nC,nC]at this
  exact sU h0 this
 ·rw[if_pos rfl,if_pos rfl]at h
  have:=Rq (fun z=>dg (lJ q) z) h
  rw[<- eQ (jP hq) hq hu,<- eQ (jP hq) hq hv,(jR hq).2,nD,nD]at this
  exact sU h0 this
theorem tL(h:fN N q):fW q=N:=by
 unfold fW
 rw[show q.1*q.1+(q.2.1*q.2.1+(q.2.2.1*q.2.2.1+(q.2.2.2*q.2.2.2+0)))=4*N by have:=h.2;omega,Int.fdiv_eq_ediv_of_nonneg _ (by decide)]
 omega
theorem yp(h:bJ q)(hs:fW q=N):fN N q:=by
 refine⟨h,?_⟩
 obtain⟨a,b,c,d⟩:=q
 obtain⟨e,x,y,z,w,he,e1,e2,e3,e4⟩:=h
 have k:∃m:Int,a*a+b*b+(c*c+d*d)=4*m:=by
  dsimp only at e1 e2 e3 e4
  subst e1 e2 e3 e4
  refine⟨x*x+x*e+(y*y+y*e)+(z*z+z*e+(w*w+w*e))+e*e,?_⟩
  have q:∀x:Int,(2*x+e)*(2*x+e)=4*(x*x+x*e)+e*e:=fun x=>by grind
  rw[q x,q y,q z,q w]
  omega
 obtain⟨m,hm⟩:=k
 have hz:fW (a,b,c,d)=m:=by
  show(a*a+(b*b+(c*c+(d*d+0)))).fdiv 4=m
  rw[show a*a+(b*b+(c*c+(d*d+0)))=4*m by omega,Int.fdiv_eq_ediv_of_nonneg _ (by decide)]
  omega
 rw[<- hs,hz]
 exact hm
theorem Jy(h:fN N q)(hg:g∈nK s q):fN N g:=by
 obtain⟨u,hu,rfl⟩:=QB.mp hg
 obtain⟨h1,h2,_⟩:=dw hu
 refine yp (F4 h.1 h1) ?_
 unfold cF;split
 ·rw[vl h.1 h1,h2,tL h,Int.mul_one]
 ·rw[vl h1 h.1,h2,tL h,Int.one_mul]
theorem js(h:t∈fE s (l4 q)):∃g∈nK s q,t=l4 g:=by
 obtain⟨g,hg,rfl⟩:=QB.mp h
 exact⟨g,hg,rfl⟩
theorem gh(s:Bool)(hN:N<=97):fv (fE s) (cv N) where
 self:=fun f hf=>by
  obtain⟨q,rfl⟩:=eG hf
  exact QB.mpr ⟨q,QB.mpr ⟨qg,HL,Ar s q⟩,rfl⟩
 into:=fun f hf g hg=>by
  obtain⟨q,rfl⟩:=eG hf
  obtain⟨k,hk,rfl⟩:=js hg
  exact(ib hN).mpr (Jy ((ib hN).mp hf) hk)
 sym:=fun f hf g hg=>by
  obtain⟨q,rfl⟩:=eG hf
  obtain⟨k,hk,rfl⟩:=js hg
  exact QB.mpr ⟨q,FT ((ib hN).mp hf).1 hk,rfl⟩
 trans:=fun f hf g hg h hh=>by
  obtain⟨q,rfl⟩:=eG hf
  obtain⟨k,hk,rfl⟩:=js hg
  obtain⟨j,hj,rfl⟩:=js hh
  exact QB.mpr ⟨j,Ad ((ib hN).mp hf).1 hk hj,rfl⟩
theorem wc(s:Bool)(t:List Int):(fE s t).length=24:=by
 unfold fE nK
 rw[Qp,Qp];rfl
theorem Jz(h1:1<=N)(hN:N<=97):∀f∈cv N,(fE s f).Nodup:=by
 intro f hf
 obtain⟨q,rfl⟩:=eG hf
 have hq:=(ib hN).mp hf
 have h0:fW q≠0:=by rw[tL hq];omega
 refine SA.mpr (SA.mpr (List.Pairwise.imp_of_mem (fun {u v} hu hv hne e=>hne ?_) EZ))
 exact F5 hq.1 h0 (dw hu).1 (dw hv).1 (zq e)
noncomputable def cg(s:Bool)(N:Int):List (List Int):=grd (fE s) (cv N).reverse []
theorem qx(s:Bool){N:Nat}(h1:1<=N)(hN:N<=97):(cg s N).length=se N:=by
 have:=FC (n:=24) (gh s (N:=(N:Int)) (by omega)) (Jz (by omega) (by omega)) (fun f _=>wc s f) (ur N) (Sz _)
 rw[Gf,(AB h1 hN).1]at this
 unfold cg
 omega
theorem fO(h:t∈cg s N):t∈cv N:=QW.mp (hJ t h)
theorem FV(hN:N<=97)(h:t∈cg s N):∀g∈fE s t,g=t\/HT.lexLt g t=true:=by
 intro g hg
 have:=(mQ (gh s hN) (R:=fun a b=>HT.lexLt b a=true) (fun x hx=>QW.mp hx) (fun x hx=>by cases hx) (List.pairwise_reverse.mpr (Km N)) t h).2 g hg (QW.mpr ((gh s hN).into t (fO h) g hg))
 exact this
theorem Ae(s:Bool)(N:Int):(cg s N).Nodup:=(tH _ _).nodup ((Sz _).nodup_iff.mpr (ur N))
end K
namespace Sp
open PySem PySem.Spec PyProof.Rows L2
variable{P:Program}{w:World}{L a d:Addr}{xs:List (List aR×Addr×Value)}{pins:List (Addr×Obj)}{s:Shared}{σ:L2.St}{H H':Hp}{ks:List aR}{K:W.Frag}{v:Value}{im it j k k2:Nat}{m tl:List (List Int)}{ow:Ow}{C ρ:ah}{x xm xt:Str}{e ev:Expr}{ap cp p1 p2 pos:Pos}{ns:List Int}{ss:List Stmt}{r:D}
variable{X:Cx}
noncomputable def fJ(P:Program)(w:World)(d:Addr)(xs:List (List aR×Addr×Value)):Heap->Prop:=fun h =>
 ∃o es ep,h.get? d=some o/\o.ExactDict/\o.data=.dict es ep/\es.toList=xs.map (entryOfKey (tupleKind (b7 P w)))/\(xs.map (·.1)).Nodup
theorem Lg:¬ nm (.ext (fJ P w d xs)):=by
 rintro⟨x,C,od,e⟩
 injection e with e
 let ob:Obj:={ cls:=.ref C,dict:=od,data:=.fields #[],slots:=#[] }
 let h:Heap:={ objs:=Array.replicate (x+1) ob }
 have g:∀a o,h.get? a=some o->o=ob:=fun a o e=>by
  have r:h.objs[a]?=if a<x+1 then some ob else none:=Array.getElem?_replicate
  unfold Heap.get? at e
  rw[r]at e
  by_cases z:a<x+1
  ·rw[if_pos z]at e;cases e;rfl
  ·rw[if_neg z]at e;cases e
 have k:fJ P w d xs h:=by
  rw[e]
  refine⟨ob,#[],?_,rfl,rfl,rfl⟩
  have r:h.objs[x]?=some ob:=Array.getElem?_replicate.trans (if_pos (QV _))
  unfold Heap.get?
  rw[r]
 obtain⟨o,es,ep,g1,_,g3,_⟩:=k
 rw[g _ _ g1]at g3
 cases g3
noncomputable def l9(K:W.Frag)(H:Hp)(xs:List (List aR×Addr×Value)):Prop:=∀x∈xs,ba K H x.2.1 (x.1.map kV)
theorem qO{P:Program}{w:World}:∀{ks:List aR} {vs:List Value},aD (ks.map kV) vs->ItemsAre (b7 P w) ks vs
 | [],_,h=>by cases h;exact .nil
 | k::ks,_,h=>by
  cases h with
  | cons r rr=>exact .cons (jT r) (qO rr)
theorem xr(I:ak X pins σ H s)(h:ba X.K H a (ks.map kV)):IsTupleKey (b7 X.prog X.w) s.heap ks a:=by
 obtain⟨its,rv,⟨o,h1,h2,n,h3⟩,_⟩:=I.tuple h
 exact⟨o,its.toArray,n,h1,h2,h3,qO rv⟩
theorem zZ(I:ak X pins σ H s)(h:H d=some (.ext (fJ X.prog X.w d xs)))(hk:l9 X.K H xs):s.heap.DictOfH (tupleKind (b7 X.prog X.w)) d xs:=by
 obtain⟨⟨o,es,ep,h1,h2,h3,h4,h5⟩,_⟩:=(show aT X.prog X.w H s.heap d (.ext (fJ X.prog X.w d xs))from I.hok d _ h)
 exact⟨o,es,ep,h1,h2,h3,h4,fun x hx=>xr I (hk x hx),h5⟩
theorem vF:∀h1 h2:Heap,fJ P w d xs h1->(∀o,h1.get? d=some o->h2.get? d=some o)->fJ P w d xs h2 :=
 fun h1 h2 ⟨o,es,ep,e1,e2,e3,e4,e5⟩ k=>⟨o,es,ep,k o e1,e2,e3,e4,e5⟩
theorem yZ(hu:X.A.units+70<cLine):cQ X (compareOp .NotIn) (fun x y H Q => ∃a d ks xs,x=.ref a/\y=.ref d/\ba X.K H a (ks.map kV)/\H d=some (.ext (fJ X.prog X.w d xs))/\(d==sysModules)=false/\l9 X.K H xs/\Q (.bl (!(atKey xs ks).isSome)) H):=by
 intro pins s σ H x y v u Q I rx ry h
 obtain⟨a,d,ks,xs,rfl,rfl,h1,h2,h3,h4,q⟩:=h
 cases rx
 cases ry
 exact wpAny_notIn_heap (tupleKind_room_in1 (by omega)) (xr I h1) h3 (zZ I h2 h4) ⟨.bl _,H,I.tok _,rfl,q⟩
theorem zv(h:l9 K H xs)(ha:ba K H a (ks.map kV)):l9 K H (storedH xs ks a v):=by
 intro x hx
 rcases mem_storedH hx with h1|h1
 ·obtain⟨y,hy,e1,e2⟩:=h1
  rw[e1,e2];exact h y hy
 ·rw[h1.1,h1.2];exact ha
theorem Ez(hu:X.A.units+70<cLine):xV X (fun o i v H Q => ∃d a ks xs,o=.ref d/\i=.ref a/\ba X.K H a (ks.map kV)/\H d=some (.ext (fJ X.prog X.w d xs))/\l9 X.K H xs/\xs.length<sizeLine/\∀u,aP v u->Q (az H d (.ext (fJ X.prog X.w d (storedH xs ks a u))))):=by
 intro pins s σ H o i v ov iv u Q I ro ri rv h
 obtain⟨d,a,ks,xs,rfl,rfl,h1,h2,h3,h4,q⟩:=h
 cases ro
 cases ri
 refine wpAny_setItem_heap (tupleKind_room_in1 (by omega)) (xr I h1) (zZ I h2 h3) (fun h' hm' hs'=>?_) (RW h4)
 obtain⟨o,es,ep,e1,e2,e3,e4,_,e5⟩:=hm'
 refine⟨_,I.write (x:=d) (e:=d) (by rw[h2];exact True.intro) (.inl rfl) (fun b q hb z=>(hs'.2 b hb).trans z) ⟨o,e1⟩ (show aT X.prog X.w _ h' d (.ext (fJ X.prog X.w d (storedH xs ks a u)))from⟨⟨o,es,ep,e1,e2,e3,e4,e5⟩,⟨o,e1⟩,vF⟩),q u rv⟩
noncomputable abbrev kI(ns:List Int):List aR:=ns.map Sum.inl
theorem C6(ns:List Int):(kI ns).map kV=ns.map V.int:=by rw[RT];rfl
theorem zz:∀{a b:List Int},kI a=kI b->a=b
 | [],[],_=>rfl
 | [],_::_,h=>by cases h
 | _::_,[],h=>by cases h
 | x::a,y::b,h=>by
  have h':(Sum.inl x:aR)::kI a=Sum.inl y::kI b:=h
  injection h' with h1 h2
  rw[Sum.inl.inj h1,zz h2]
theorem ul{k:List aR}:(atKey xs k).isSome=true↔k∈xs.map (·.1):=by
 unfold atKey
 rw[Option.isSome_map,List.find?_isSome]
 constructor
 ·rintro⟨x,hx,h⟩
  exact QB.mpr ⟨x,hx,Q9 h⟩
 ·intro h
  obtain⟨x,hx,e⟩:=QB.mp h
  exact⟨x,hx,QM e⟩
theorem Ay{k k':List aR}:(atKey (storedH xs k a v) k').isSome=true↔k'=k\/(atKey xs k').isSome=true:=by
 rw[ul,ul]
 unfold storedH
 split
 ·rename_i h
  have e:(xs.map (putAt k v)).map (·.1)=xs.map (·.1):=by
   rw[RT]
   apply List.map_congr_left
   intro x _
   show(putAt k v x).1=x.1
   unfold putAt;split<;>rfl
  rw[e]
  exact⟨fun h=>.inr h,fun z=>z.elim (fun z=>by rw[z];exact ul.mp h) id⟩
 ·rw[R4]
  simp only[QJ,SF,QN,Qu]
  exact⟨fun z=>z.symm,fun z=>z.symm⟩
theorem wG(xs:List (List aR×Addr×Value))(k:List aR)(a:Addr)(v:Value):(storedH xs k a v).length<=xs.length+1:=by
 unfold storedH
 split
 ·rw[Qp];exact SO _
 ·rw[Qr];exact Ql _
noncomputable def JC(X:Cx)(it im:Nat)(L d:Addr)(tl m:List (List Int)):GJ:=fun ow σ H =>
 (σ[it]?=some (some (.ref L))/\σ[im]?=some (some (.ref d))/\ow L=some none/\ow d=some none/\(d==sysModules)=false)/\(∃ts,H L=some (.lst ts)/\bF X.K H ts tl) /\
 ∃xs,H d=some (.ext (fJ X.prog X.w d xs))/\l9 X.K H xs/\xs.length<=m.length/\∀k:List Int,(atKey xs (kI k)).isSome=true↔k∈m
theorem Im(s:ar H H')(h:l9 K H xs):l9 K H' xs:=fun x hx=>kN s (h x hx)
theorem JC.same(s:ar H H')(h:JC X it im L d tl m ow σ H):JC X it im L d tl m ow σ H':=by
 obtain⟨h1,⟨ts,h2,h3⟩,xs,h4,h5,h6,h7⟩:=h
 exact⟨h1,⟨ts,s _ _ h2,h3.same s⟩,xs,s _ _ h4,Im s h5,h6,h7⟩
theorem JC.set{v:V}(h1:j≠it)(h2:j≠im)(h:JC X it im L d tl m ow σ H):JC X it im L d tl m ow (σ.set j (some v)) H:=by
 obtain⟨⟨a,b,c⟩,r⟩:=h
 exact⟨⟨by rw[Q5 h1];exact a,by rw[Q5 h2];exact b,c⟩,r⟩
theorem GG{H0:Hp}{body:List Stmt}{tl' m':List (List Int)}(hu:X.A.units+70<cLine)(hx:X.N[im]?=some x)(hv:eZ X.env.scope x)(hn:dm x=true)
  (he:ED X ρ e (aK ns) k) (ht:ns∉m->cZ X body (tX X H0 ρ (JC X it im L d tl m) ρ (JC X it im L d tl' m'))) (hf:ns∈m->tl'=tl/\m'=m) :
  PS X (.If (.Compare e [.NotIn] [.Name x p1] p2) body [] pos) (tX X H0 ρ (JC X it im L d tl m) ρ (JC X it im L d tl' m')):=by
 intro pins s σ H D I ⟨ow,E,hl,B,j,q⟩
 have pn:PE X (.Name x p1) (iY im):=fh hx hv (bW hn).1 (bW hn).2
 have pb:cZ X body (fun D σ H=>ns∉m/\tX X H0 ρ (JC X it im L d tl m) ρ (JC X it im L d tl' m') D σ H):=fun pins s σ H D I ⟨h1,h2⟩=>ht h1 pins s σ H D I h2
 refine wR (Ew (yZ hu) (he ow) pn rfl) pb qe pins s σ H D I ⟨E,fun v H1 s1 r1=>?_⟩
 rw[ai]at r1
 obtain⟨a,vs,rfl,hq,rl⟩:=r1
 have ex:=fD rl
 subst ex
 have j1:=JC.same s1 j
 obtain⟨⟨a1,a2,a3,a4,a5⟩,⟨ts,b1,b2⟩,xs,c1,c2,c3,c4⟩:=j1
 refine⟨_,a2,a,d,kI ns,xs,rfl,rfl,by rw[C6];exact hq,c1,a5,c2,_,rfl,?_⟩
 have B1:=B.keep (aI.same s1)
 by_cases hm:ns∈m
 ·rw[(c4 ns).mpr hm]
  obtain⟨e1,e2⟩:=hf hm
  subst e1 e2
  exact q ow σ H1 (E.same s1) hl (aI.same s1) (JC.same s1 j)
 ·rw[show(atKey xs (kI ns)).isSome=false from by rw[Sx];exact fun z=>hm ((c4 ns).mp z)]
  exact⟨hm,ow,E.same s1,hl,B1,JC.same s1 j,fun ow' σ' H' e l kk jj=>q ow' σ' H' e l ((aI.same s1).trans kk) jj⟩
theorem D4{H0:Hp}(hu:X.A.units+70<cLine)(hx:X.N[im]?=some x)(hv:eZ X.env.scope x)(hn:dm x=true)(hsh:Sh ρ)
  (he:ED X ρ e (aK ns) k) (he2:ED X ρ ev (.bl true) k2) (hz:m.length<bc)
  (ha:∀v,assign (.Subscript (.Name x p1) e p2) X.env v=(do
   let ov <- holding [v] (eval (.Name x p1) X.env)
   let iv <- holding [v,ov] (eval e X.env)
   standAt p2
   holding [v,ov,iv] (setItem ov iv v)
   release [v,ov,iv] []))
  (hs:swapsWithSole [.Subscript (.Name x p1) e p2] ev pos.line X.env=pure false) (hw:swappedStores [.Subscript (.Name x p1) e p2] ev X.env=pure none) (h1:(assignEach [.Subscript (.Name x p1) e p2] X.env).map (·.2)=[assign (.Subscript (.Name x p1) e p2) X.env]) :
  PS X (.Assign [.Subscript (.Name x p1) e p2] ev pos) (tX X H0 ρ (JC X it im L d tl m) ρ (JC X it im L d tl (m++[ns]))):=by
 intro pins s σ H D I ⟨ow,E,hl,B,j,q⟩
 have pn:PE X (.Name x p1) (iY im):=fh hx hv (bW hn).1 (bW hn).2
 refine jn (he2 ow) (sH pn (he ow) (Ez hu) ha) hs hw h1 pins s σ H D I ⟨E,fun v H1 s1 r1=>?_⟩
 have j1:=JC.same s1 j
 refine⟨_,j1.1.2.1,E.same s1,fun w H2 s2 r2=>?_⟩
 rw[ai]at r2
 obtain⟨a,vs,rfl,hq,rl⟩:=r2
 have ex:=fD rl
 subst ex
 obtain⟨⟨a1,a2,a3,a4,a5⟩,⟨ts,b1,b2⟩,xs,c1,c2,c3,c4⟩:=JC.same s2 j1
 have hq':ba X.K H2 a ((kI ns).map kV):=by rw[C6];exact hq
 refine⟨d,a,kI ns,xs,rfl,rfl,hq',c1,c2,Rg c3 (Qv hz cq),fun u hu'=>?_⟩
 have s12:=s1.trans s2
 have hnm:¬ nm (.ext (fJ X.prog X.w d xs)):=Lg
 have kp:=gS (o':=.ext (fJ X.prog X.w d (storedH xs (kI ns) a u))) c1 hnm a4
 have kt:∀b vs,ba X.K H2 b vs->ba X.K (az H2 d (.ext (fJ X.prog X.w d (storedH xs (kI ns) a u)))) b vs:=fun b vs hb=>eJ c1 hnm hb
 have nL:L≠d:=fun z=>by subst z;rw[c1]at b1;cases b1
 refine q ow σ _ (gc hsh (E.same s12) kp (jo (E.same s12).own)) hl ((aI.same s12).trans kp) ⟨⟨a1,a2,a3,a4,a5⟩,⟨ts,by rw[aq nL];exact b1,b2.keep kt⟩,_,aB,fun y hy=>kt _ _ (zv c2 hq' y hy),?_,fun k=>?_⟩
 ·have:=wG xs (kI ns) a u
  rw[Qr,List.length_singleton]
  omega
 ·rw[Ay,c4 k,QN,Qu]
  exact⟨fun z=>z.elim (fun z=>.inr (zz z)) .inl,fun z=>z.elim .inr fun z=>.inl (by rw[z])⟩
theorem D5{H0:Hp}(hx:X.N[it]?=some x)(hv:eZ X.env.scope x)(hn:dm x=true)(hsh:Sh ρ)
  (he:AD X ρ [e] [aK ns] k) (hns:ns≠[]) (hs:∀y p,e ≠ .Starred y p) (hl2:(ap.endLine==cp.line)=true) (hz:tl.length<bc) :
  PS X (.Expr (.Call (.Attribute (.Name x p1) "append" ap) [e] [] cp) pos) (tX X H0 ρ (JC X it im L d tl m) ρ (JC X it im L d (tl++[ns]) m)):=by
 intro pins s σ H D I ⟨ow,E,hl,B,j,q⟩
 have pn:PE X (.Name x p1) (iY it):=fh hx hv (bW hn).1 (bW hn).2
 have f2:((backTo cp (starEach [e] X.env)).all (fun x => !x.1)&&(backToKw cp (keywordEach [] X.env)).all (fun x=>x.1.isSome)&&decide ([e].length+([]:List Keyword).length+(if ([]:List Keyword).isEmpty then 0 else 1)<30))=true:=by
  rw[eM (fun z hz=>by rw[Qu.mp hz];exact hs)];rfl
 obtain⟨⟨a1,a2,a3,a4,a5⟩,⟨ts,b1,b2⟩,xs,c1,c2,c3,c4⟩:=j
 refine jl (rq PySem.F.plainAttrs_list PySem.F.slot_list_append PySem.F.type_list_append iP pn (he ow) rfl f2 hl2 (aF hs) (bD fun z hz=>by cases hz)) rfl pins s σ H D I ⟨_,a1,.inl ⟨rfl,ts,bT.of b1⟩,E,fun ws H2 s2 r2=>?_⟩
 obtain⟨w,rfl,r4⟩:=r2.only
 rw[ai]at r4
 obtain⟨tt,us,rfl,hq,rl⟩:=r4
 have ex:=fD rl
 subst ex
 obtain⟨_,⟨ts',b1',b2'⟩,xs',c1',c2',c3',c4'⟩:=JC.same s2 (show JC X it im L d tl m ow σ H from⟨⟨a1,a2,a3,a4,a5⟩,⟨ts,b1,b2⟩,xs,c1,c2,c3,c4⟩)
 have hnm:¬ nm (.lst ts'):=fun z=>z
 have kp:=gS (o':=.lst (ts'++[.ref tt])) b1' hnm a3
 have kt:∀b vs,ba X.K H2 b vs->ba X.K (az H2 L (.lst (ts'++[.ref tt]))) b vs:=fun b vs hb=>eJ b1' hnm hb
 have nL:d≠L:=fun z=>by subst z;rw[c1']at b1';cases b1'
 refine⟨L,ts',.ref tt,rfl,rfl,b1',by rw[b2'.length];exact Qv hz cq,?_⟩
 exact q ow σ _ (gc hsh (E.same s2) kp (jo (E.same s2).own)) hl ((aI.same s2).trans kp) ⟨⟨a1,a2,a3,a4,a5⟩,⟨_,aB,(kK b2' ⟨⟨tt,rfl,hq,hns⟩,trivial⟩).keep kt⟩,xs',by rw[aq nL];exact c1',fun y hy=>kt _ _ (c2' y hy),c3',c4'⟩
noncomputable abbrev CS:=List (List Int)×List (List Int)
noncomputable def dl(cl:List Int->List (List Int))(st:CS)(f:List Int):CS:=if f∈st.2 then st else(st.1++[f],st.2++cl f)
theorem pW{cl:List Int->List (List Int)}:∀(l:List (List Int)) (st:CS),(l.foldl (dl cl) st).1=st.1++_root_.K.grd cl l st.2
 | [],st=>by rw[List.foldl_nil,_root_.K.grd,QP]
 | f::l,st=>by
  rw[List.foldl_cons,pW l]
  unfold dl
  by_cases h:f∈st.2
  ·rw[if_pos h,_root_.K.grd_in h]
  ·rw[if_neg h,_root_.K.grd_out h,QQ];rfl
theorem je:∀l:List (List Int),au (l.map aK)=true
 | []=>rfl
 | x::l=>by
  rw[QJ]
  show(au (x.map D.int)&&au (l.map aK))=true
  rw[je l,jy x];rfl
theorem JC.setN{v:V}{y:Str}(h1:X.N[it]?=some xt)(h2:X.N[im]?=some xm)(hy:X.N[j]?=some y)(n1:y≠xt)(n2:y≠xm)(h:JC X it im L d tl m ow σ H):JC X it im L d tl m ow (σ.set j (some v)) H :=
 h.set (fun z=>by subst z;rw[h1]at hy;injection hy with hy;exact n1 hy.symm) (fun z=>by subst z;rw[h2]at hy;injection hy with hy;exact n2 hy.symm)
theorem yq{Φ:Fx}{sc:Scope}{H0:Hp}{xf xo:Str}{pf po pm pm2 pn2 pt pc pe pa ps f1 f2 f3 f4:Pos}{iter it1 eb:Expr}{fs us:List (List Int)}{k1 k3:Nat}{g:List Int->List Int->List Int}(G:aL Φ X sc)(hp:PassesOwn (model X.prog X.w) X.A X.env X.xe)(hu:X.A.units+70<cLine)
  (hxf:bX sc xf=true) (hxo:bX sc xo=true) (nof:xo≠xf) (nft:xf≠xt) (nfm:xf≠xm) (noT:xo≠xt) (nom:xo≠xm) (ht:X.N[it]?=some xt) (vt:eZ X.env.scope xt) (okt:dm xt=true) (hm:X.N[im]?=some xm) (vm:eZ X.env.scope xm) (okm:dm xm=true) (okf:dm xf=true)
  (shC:Sh C) (cf:C xf=none) (co:C xo=none) (hne:∀f∈fs,f≠[])
  (hi:IE X C (.Name xf pf) iter (fs.map aK) k) (hk:k<=1) (hi1:∀f,IE X (aM C xf (aK f,false)) (.Name xo po) it1 (us.map aK) k1) (hk1:k1<=1)
  (heb:∀f∈fs,∀u∈us,ED X (aM (aM C xf (aK f,false)) xo (aK u,false)) eb (aK (g f u)) k2) (hev:∀ρ,ED X ρ ev (.bl true) k3)
  (hs:∀x,foldedSetIterable iter X.env x=pure x) (hs1:∀x,foldedSetIterable it1 X.env x=pure x) (hl2:(ap.endLine==cp.line)=true)
  (hb:∀i,((fs.take i).foldl (dl fun f=>us.map (g f)) ([],[])).2.length+us.length<bc/\((fs.take i).foldl (dl fun f=>us.map (g f)) ([],[])).1.length<bc)
  (ha:∀v,assign (.Subscript (.Name xm pm2) eb ps) X.env v=(do
   let ov <- holding [v] (eval (.Name xm pm2) X.env)
   let iv <- holding [v,ov] (eval eb X.env)
   standAt ps
   holding [v,ov,iv] (setItem ov iv v)
   release [v,ov,iv] []))
  (hsw:swapsWithSole [.Subscript (.Name xm pm2) eb ps] ev pa.line X.env=pure false) (hw:swappedStores [.Subscript (.Name xm pm2) eb ps] ev X.env=pure none) (h1:(assignEach [.Subscript (.Name xm pm2) eb ps] X.env).map (·.2)=[assign (.Subscript (.Name xm pm2) eb ps) X.env]) :
  PS X (.For (.Name xf pf) iter [.If (.Compare (.Name xf pc) [.NotIn] [.Name xm pm] pe) [.Expr (.Call (.Attribute (.Name xt pt) "append" ap) [.Name xf pn2] [] cp) f3,.For (.Name xo po) it1 [.Assign [.Subscript (.Name xm pm2) eb ps] ev pa] [] f2] [] f4] [] f1)
   (tX X H0 C (JC X it im L d [] []) C (JC X it im L d (_root_.K.grd (fun f=>us.map (g f)) fs []) (fs.foldl (dl fun f=>us.map (g f)) ([],[])).2)):=by
 have put_x:∀(ρ':ah) (y:Str) (p:D×Bool),aM ρ' y p y=some p:=fun ρ' y p=>by rw[bg,if_pos rfl]
 have put_o:∀(ρ':ah) (y z:Str) (p:D×Bool),z≠y->aM ρ' y p z=ρ' z:=fun ρ' y z p h=>by rw[bg,if_neg h]
 have outer:=oR (X:=X) (H0:=H0) (Φ:=Φ) (sc:=sc) (ρ:=C) (x:=xf) (px:=pf) (pos:=f1) (iter:=iter) (body:=[.If (.Compare (.Name xf pc) [.NotIn] [.Name xm pm] pe) [.Expr (.Call (.Attribute (.Name xt pt) "append" ap) [.Name xf pn2] [] cp) f3,.For (.Name xo po) it1 [.Assign [.Subscript (.Name xm pm2) eb ps] ev pa] [] f2] [] f4])
  (Jn:=fun i=>JC X it im L d ((fs.take i).foldl (dl fun f=>us.map (g f)) ([],[])).1 ((fs.take i).foldl (dl fun f=>us.map (g f)) ([],[])).2) G hp hxf hi hk (je fs) (fun i dd hd=>?_) (fun _ _ _ _ _ sm j=>JC.same sm j) (fun _ _ _ _ _ j hj z=>JC.setN ht hm hj nft nfm z) hs
 ·have e:(fs.foldl (dl fun f=>us.map (g f)) ([],[])).1=_root_.K.grd (fun f=>us.map (g f)) fs []:=pW fs ([],[])
  rw[Qp,SI,List.take_zero,e]at outer
  exact outer
 rw[QY]at hd
 obtain⟨f,hf,rfl⟩:=Sc.mp hd
 have hfm:f∈fs:=Re hf
 have ef:(fs.take (i+1)).foldl (dl fun f=>us.map (g f)) ([],[])=dl (fun f=>us.map (g f)) ((fs.take i).foldl (dl fun f=>us.map (g f)) ([],[])) f:=by
  rw[SG,hf,List.foldl_append];rfl
 rw[ef]
 obtain⟨b1,b2⟩:=hb i
 generalize (fs.take i).foldl (dl fun f=>us.map (g f)) ([],[])=st at b1 b2
 have shf:Sh (aM C xf (aK f,false)):=kO shC
 have gf:aM C xf (aK f,false) xf=some (aK f,false):=put_x _ _ _
 refine oP (ρ1:=aM C xf (aK f,false)) (fun y pp hy=>?_) (k8 ?_)
 ·by_cases z:y=xf
  ·subst z;rw[cf]at hy;cases hy
  ·rw[put_o _ _ _ _ z];exact hy
 refine GG hu hm vm okm (dX (X:=X) gf okf) (fun hn=>?_) (fun hin=>by unfold dl;rw[if_pos hin];exact⟨rfl,rfl⟩)
 have e2:dl (fun f=>us.map (g f)) st f=(st.1++[f],st.2++us.map (g f)):=if_neg hn
 rw[e2]
 have inner:=oR (X:=X) (H0:=H0) (Φ:=Φ) (sc:=sc) (ρ:=aM C xf (aK f,false)) (x:=xo) (px:=po) (pos:=f2) (iter:=it1) (body:=[.Assign [.Subscript (.Name xm pm2) eb ps] ev pa])
  (Jn:=fun j=>JC X it im L d (st.1++[f]) (st.2++(us.take j).map (g f))) G hp hxo (hi1 f) hk1 (je us) (fun j dd hd=>?_) (fun _ _ _ _ _ sm j=>JC.same sm j) (fun _ _ _ _ _ j hj z=>JC.setN ht hm hj noT nom z) hs1
 ·rw[Qp,SI,List.take_zero,SF,QP]at inner
  intro pins s σ H D I ⟨ow,E,hl,B,j,q⟩
  refine df (D5 ht vt okt shf (dY (dX (X:=X) gf okf) fo (aF fun _ _ z=>nomatch z)) (hne f hfm) (fun _ _ z=>nomatch z) hl2 b2) (k8 inner) pins s σ H D I ⟨ow,E,hl,B,j,fun ow' σ' H' E' hl' k' j'=>⟨ow',E',hl',B.keep k',j',fun ow2 σ2 H2 a b c d=>q ow2 σ2 H2 a b (k'.trans c) d⟩⟩
 rw[QY]at hd
 obtain⟨u,hu',rfl⟩:=Sc.mp hd
 have hju:j<us.length:=(Qz.mp hu').1
 have eu:st.2++(us.take (j+1)).map (g f)=(st.2++(us.take j).map (g f))++[g f u]:=by
  rw[SG,hu',R4,QQ];rfl
 rw[eu]
 refine oP (ρ1:=aM (aM C xf (aK f,false)) xo (aK u,false)) (fun y pp hy=>?_) (k8 (D4 hu hm vm okm (kO shf) (heb f hfm u (Re hu')) (hev _) ?_ ha hsw hw h1))
 ·by_cases z:y=xo
  ·subst z;rw[put_o _ _ _ _ nof,co]at hy;cases hy
  ·rw[put_o _ _ _ _ z];exact hy
 ·rw[Qr,Qp,QR]
  omega
theorem Bi{H0:Hp}(ht:X.N[it]?=some xt)(vt:eZ X.env.scope xt)
  (hret:∀ρ':ah,ρ' xt=some (.lst (tl.map aK),true)->cX X H0 ρ' ss (.rt r)) :
  cZ X ss (fun D σ H => ∃ow,cM ow H/\σ.length=X.N.length/\bi H0 ow H/\JC X it im L d tl m ow σ H/\kg X H0 ow H (.rt r) D):=by
 intro pins s σ H D I ⟨ow,oi,hl,B,⟨⟨a1,a2,a3,a4,a5⟩,⟨ts,b1,b2⟩,_⟩,q⟩
 let ow2:Ow:=fun b=>if b=L then some (some xt)else ow b
 have w1:ow2 L=some (some xt):=if_pos rfl
 have w2:∀b,b≠L->ow2 b=ow b:=fun b hb=>if_neg hb
 have K2:aI ow H ow2 H:=⟨fun _ _ h _=>h,fun b _ _ hb=>by rw[w2 b (fun z=>by subst z;rw[a3]at hb;cases hb)];exact hb⟩
 have oi2:cM ow2 H:=fun b hb=>by
  by_cases z:b=L
  ·subst z;exact⟨_,b1⟩
  ·rw[w2 b z]at hb;exact oi b hb
 refine hret (aM (fun _=>none) xt (.lst (tl.map aK),true)) (by rw[bg,if_pos rfl]) pins s σ H D I ⟨ow2,⟨fun y p o hy=>?_,oi2⟩,hl,B.keep K2,kg.keep (fl:=.rt r) q K2⟩
 rw[bg]at hy
 by_cases z:y=xt
 ·subst z
  rw[if_pos rfl]at hy
  cases hy
  refine⟨it,.ref L,ht,vt,a1,?_⟩
  rw[ai]
  exact⟨L,ts,true,rfl,b1,⟨rfl,w1⟩,gA b2⟩
 ·rw[if_neg z]at hy;cases hy
theorem wH{H0:Hp}{st:Stmt}(h1:ρ xt=some (.lst [],true))(h2:ρ xm=some (.dct [] [],true))(shC:Sh C)(hC:∀y p,C y=some p->ρ y=some p)
  (hloop:∀it im L d,X.N[it]?=some xt->eZ X.env.scope xt->X.N[im]?=some xm->eZ X.env.scope xm->PS X st (tX X H0 C (JC X it im L d [] []) C (JC X it im L d tl m)))
  (hret:∀ρ':ah,ρ' xt=some (.lst (tl.map aK),true)->cX X H0 ρ' ss (.rt r)):cX X H0 ρ (st::ss) (.rt r):=by
 intro pins s σ H D0 I ⟨ow,E,hl,B,q⟩
 obtain⟨it,v,t1,t2,t3,t4⟩:=E.get xt _ _ h1
 rw[ai]at t4
 obtain⟨L,us,b,rfl,q3,⟨rfl,q6⟩,q5⟩:=t4
 rw[aj]at q5;subst q5
 replace q3:H L=some (.lst []):=q3
 obtain⟨im,v',m1,m2,m3,m4⟩:=E.get xm _ _ h2
 rw[ai]at m4
 obtain⟨_,_,d,vs,rfl,hA,hP,rl⟩:=m4
 rw[aj]at rl;subst rl
 replace hA:H d=some (.dK []):=hA
 have hoA:ow d=some (some xm):=hP.2
 obtain⟨_,hd,vs,bM,o,es,ep,e1,e2,e3,_,e4,_⟩:=(show aT X.prog X.w H s.heap d (.dK [])from I.hok d _ hA)
 have ev:vs=[]:=RN.mp (by rw[<- bM.length];rfl)
 subst ev
 have e5:es.toList=[]:=by
  generalize es.toList=l at e4
  cases e4
  rfl
 have ob:aT X.prog X.w (az H d (.ext (fJ X.prog X.w d []))) s.heap d (.ext (fJ X.prog X.w d [])):=⟨⟨o,es,ep,e1,e2,e3,e5,List.nodup_nil⟩,⟨o,e1⟩,vF⟩
 have I1:ak X pins σ (az H d (.ext (fJ X.prog X.w d []))) s:=I.write (x:=d) (e:=d) (h':=s.heap) (t':=s.toks) (by rw[hA];exact True.intro) (.inl rfl) (fun b u _ h=>h) ⟨o,e1⟩ ob
 have nL:L≠d:=fun z=>by subst z;rw[hA]at q3;cases q3
 let ow1:Ow:=fun b=>if b=L then some none else if b=d then some none else ow b
 have w1:ow1 L=some none:=if_pos rfl
 have w2:ow1 d=some none:=by show(if d=L then _ else _)=_;rw[if_neg (Rv nL),if_pos rfl]
 have w3:∀b,b≠L->b≠d->ow1 b=ow b:=fun b h1 h2=>by show(if b=L then _ else _)=_;rw[if_neg h1,if_neg h2]
 have K1:aI ow H ow1 (az H d (.ext (fJ X.prog X.w d []))):=⟨fun b u hb c=>by
  rw[aq (fun z=>by
   subst z
   rw[hA]at hb;cases hb
   rcases c with c|c
   ·exact c
   ·rw[hoA]at c;cases c)]
  exact hb,fun b u _ hb=>by rw[w3 b (fun z=>by subst z;rw[q6]at hb;cases hb) (fun z=>by subst z;rw[hoA]at hb;cases hb)];exact hb⟩
 have oi:cM ow1 (az H d (.ext (fJ X.prog X.w d []))):=fun b hb=>by
  by_cases z:b=d
  ·subst z;exact⟨_,aB⟩
  ·rw[aq z]
   by_cases z2:b=L
   ·subst z2;exact⟨_,q3⟩
   ·rw[w3 b z2 z]at hb;exact E.own b hb
 have B1:=B.keep K1
 refine df (hloop it im L d t1 t2 m1 m2) (Bi (H0:=H0) (it:=it) (im:=im) (L:=L) (d:=d) (m:=m) t1 t2 hret) pins s σ _ D0 I1 ⟨ow1,gc shC (wa hC E) K1 oi,hl,B1,⟨⟨t3,m3,w1,w2,hd⟩,⟨[],by rw[aq nL];exact q3,trivial⟩,[],aB,fun x hx=>(by cases hx),Ql _,fun k=>⟨fun z=>(by cases z),fun z=>(by cases z)⟩⟩,fun ow' σ' H' E' hl' k' j'=>?_⟩
 exact⟨ow',E'.own,hl',B1.keep k',j',q⟩
end Sp
namespace HT
open PySem PyProof.Rows
section
open PySem.SeqAt
open PySem.AutoSeq1 (wpAny_loadPart')
open PySem.MeetsSeq PySem.MeetsSeq2 PySem.MeetsSeq3
theorem G9(A:Around)(s:Shared)(a:Int)(t:Tok)(c:Int)(u:Tok)(prog:Program)(w:World)(E Q:Value->Shared->Prop)(h:Q (.bool (decide (c<a))) s):wpAny (model prog w) A (richCompare .Gt (.int a t) (.int c u)) Q E s :=
 (PyProof.Rows.gt_int h:wpAny (model prog w) A (compareOp .Gt (.int a t) (.int c u)) Q E s)
theorem AZ(l b:Addr)(items items2:Array Value)(n n2:Nat)(dd dd2:Option Addr)(sl sl2:Array (Option Value))(ns ms:List Int)(hi:IntsAre items.toList ns)(hj:IntsAre items2.toList ms) :
  Meets (Builtin.«tuple.__gt__» ⟨[.ref l,.ref b],[]⟩) (fun _ R s=>s.heap.get? l=some { cls:=.type "tuple", dict:=dd,data:=.seq items n,slots:=sl }/\s.heap.get? b=some { cls:=.type "tuple", dict:=dd2,data:=.seq items2 n2,slots:=sl2 }/\R (.ok (.ret (.bool (lexLt ms ns)))) s) :=
 .of_wp fun prog w A R s h=>by
  obtain⟨hp,g,d,tk,os⟩:=s;obtain⟨hl,hb,h⟩:=h
  have f2:=AutoSeq1.sub_tuple_tuple
  have z1:items.size=ns.length:=by rw[<- hi.length];simp
  have z2:items2.size=ms.length:=by rw[<- hj.length];simp
  wp_walk using Rx hl,Rx hb,wpAny_forIn_list _ (fun be b s'=>b.1=none/\s'=⟨hp,g,d,tk,os⟩/\∃(vs ws:List Value) (ns' ms':List Int),be=vs.zip ws/\IntsAre vs ns'/\IntsAre ws ms'/\ns'.length+items2.size=ms'.length+items.size/\R (.ok (.ret (.bool (lexLt ms' ns')))) ⟨hp,g,d,tk,os⟩) _
  case turn =>
   rintro⟨y,x⟩ be b s' ⟨hb',rfl,vs,ws,ns',ms',hz,hvi,hwi,hlen,hR⟩
   cases hvi with
   | nil=>rw[List.zip_nil_left]at hz;cases hz
   | cons a t hvi' =>
    cases hwi with
    | nil=>rw[List.zip_nil_right]at hz;cases hz
    | cons c u hwi' =>
     rw[RJ]at hz
     injection hz with hyx hrest
     injection hyx with hy hx
     subst hy hx
     rw[lexLt_cons]at hR
     simp only[Qw]at hlen
     obtain⟨e,he,hiff⟩:=tW A.in1 ⟨hp,g,d,tk,os⟩ a t c u
     refine Qh (he prog w _ _ ?_)
     cases e with
     | true =>
      rw[if_pos (hiff.mp rfl).symm]at hR
      wp_walk
      exact⟨rfl,rfl,_,_,_,_,hrest,hvi',hwi',by omega,hR⟩
     | false =>
      rw[if_neg (fun q=>absurd (hiff.mpr (Eq.symm q)) QL)]at hR
      have hri:=G9 A.in1 ⟨hp,g,d,tk,os⟩ a t c u prog w
      wp_walk using hri
      exact⟨_,rfl,by simpa using hR⟩
  case fin =>
   rintro⟨b1,b2⟩ s' ⟨hb',rfl,vs,ws,ns',ms',hz,hvi,hwi,hlen,hR⟩
   simp only at hb'
   subst hb'
   have hv:lexLt ms' ns'=decide (items.size>items2.size):=by
    cases hvi with
    | nil =>
     cases hwi with
     | nil=>simp only[Rl]at hlen;rw[kr];exact(QD (by omega)).symm
     | cons c u hw=>simp only[Rl,Qw]at hlen;rw[jv];exact(QD (by omega)).symm
    | cons a t hv =>
     cases hwi with
     | nil=>simp only[Rl,Qw]at hlen;rw[ju];exact(QM (by omega)).symm
     | cons c u hw=>rw[RJ]at hz;cases hz
   rw[hv]at hR
   wp_walk
   exact⟨_,rfl,by simpa [Builtin.Tuple.tupleCompareSizes]using hR⟩
  case h=>exact⟨rfl,rfl,items.toList,items2.toList,ns,ms,rfl,hi,hj,by omega,h⟩
theorem gt_tups{prog:Program}{w:World}{A:Around}{E Q:Value->Shared->Prop}{s:Shared}{l b:Addr}{items items2:Array Value}{ns ms:List Int}(hl:IsTup s.heap l items)(hb:IsTup s.heap b items2)(hi:IntsAre items.toList ns)(hj:IntsAre items2.toList ms)
  (hu:A.units<cLine) (h:Q (.bool (lexLt ms ns)) s):wpAny (model prog w) A (richCompare .Gt (.ref l) (.ref b)) Q E s:=by
 obtain⟨⟨cls,dd,data,sl⟩,ho,hc,n,hd⟩:=id hl
 obtain⟨⟨cls2,dd2,data2,sl2⟩,ho2,hc2,n2,hd2⟩:=id hb
 simp only at hc hd hc2 hd2
 subst hc hd hc2 hd2
 exact richCompare_meets_room (op:=.Gt) ⟨_,ho,rfl⟩ ⟨_,ho2,rfl⟩ PySem.F.slot_tuple_gt PySem.F.entry_tuple_gt (PySem.F.args_tuple_gt_2 _ _) (AZ l b items items2 n n2 dd dd2 sl sl2 ns ms hi hj) ⟨ho,ho2,show Value.bool (lexLt ms ns)≠Value.notImplemented/\Q (.bool (lexLt ms ns)) s from⟨(fun x=>nomatch x),h⟩⟩ hu
end
end HT
namespace Sp
open PySem PySem.Spec PyProof.Rows L2
variable{bt:Nat->Nat->Bool}{M:List Int}
section
variable{prog:Program}{w:World}{A:Around}{R:Result->Shared->Prop}{I:Addr}{fp wr:List Addr}{n:Nat}{P:Nat->Value->Prop}{St:Nat->Heap->Prop}
noncomputable def KD(prog:Program)(w:World)(A:Around)(P:Nat->Value->Prop)(Ok:Heap->Prop)(bt:Nat->Nat->Bool):Prop:=∀i j vi vj (s:Shared) (Q E:Value->Shared->Prop),Ok s.heap->P i vi->P j vj->Q (.bool (bt i j)) s->wpAny (model prog w) A (richCompare .Gt vi vj) Q E s
theorem BE(W:Walks prog w A.in1 I fp wr n P St){Ok:Heap->Prop}(hc:KD prog w A.in1 P Ok bt){S:Addr}(hSf:S∉fp)(hO:∀h h',Ok h->(∀b o,b∉wr->b≠S->h.get? b=some o->h'.get? b=some o)->Ok h') :
  ∀(k j:Nat) (s:Shared) (v:Value) (c:Nat),n-(j+1)=k->j+1<=n->St (j+1) s.heap->Ok s.heap->P (argBest bt j) v->s.heap.get? S=some { cls:=.type "list", dict:=none,data:=.seq #[v,v] c,slots:=#[] } ->
  (∀v h' tk,P (argBest bt (n-1)) v->(∀b o,b∉wr->b≠S->s.heap.get? b=some o->h'.get? b=some o)->R (.ok (.ret v)) { s with heap:=h',toks:=tk })->codeAny (model prog w) A (.builtin "max.loop" ⟨[.ref I,.none,.ref S],[]⟩) R s:=by
 have hSw:S∉wr:=fun h=>hSf (W.sub _ h)
 have hm:(toString "max" ++ toString ".loop" : String) = "max.loop" := by decide
 intro k
 induction k with
 | zero =>
  intro j s v c hk hj st ok hP hS hR
  obtain rfl:j+1=n:=by omega
  refine codeAny_builtin PySem.F.entry_max_loop ?_
  rw[Around.under_plainId RD _]
  refine Qh (m:=seqItems? (.ref S)) (wpAny_seqItems hS rfl ?_)
  refine Qh (m:=tryCatch (pyNext (.ref I)) _) (wpAny_tryCatch (W.done s _ _ st fun h' tk k'=>?_))
  have hS':=k' S _ hSw hS
  refine Qh (m:=updateSeq S (fun _ => #[])) (wpAny_updateSeq hS' rfl (Qh (wpAny_letGo (Qq ?_))))
  exact hR v _ tk hP fun b o hb hn e=>(QK _ _ (Rv hn)).trans (k' b o hb e)
 | succ k ih =>
  intro j s v c hk hj st ok hP hS hR
  have hlt:j+1<n:=by omega
  refine codeAny_builtin PySem.F.entry_max_loop ?_
  rw[Around.under_plainId RD _]
  refine Qh (m:=seqItems? (.ref S)) (wpAny_seqItems hS rfl ?_)
  refine Qh (m:=tryCatch (pyNext (.ref I)) _) (wpAny_tryCatch (W.item (j+1) s _ _ hlt st fun u h' tk hu st' k'=>?_))
  have hS':=k' S _ hSw hS
  have ok':Ok h':=hO _ _ ok fun b o hb _ e=>k' b o hb e
  show wpAny _ A.in1 (tryCatch (holding [u,u] (richCompare .Gt u v >>= _)) _ >>= _) _ _ _
  refine Qh (wpAny_tryCatch (Q7 (Qh (hc (j+1) (argBest bt j) u v _ _ _ ok' hu hP ?_))))
  refine Qh (Q7 (Ru ?_))
  refine Qh (wpAny_letGo (Qq ?_))
  cases hb:bt (j+1) (argBest bt j)with
  | true =>
   simp only[if_true]
   refine Qh (wpAny_updateSeq hS' rfl (Qh (wpAny_letGo ?_)))
   rw[hm]
   have kS:∀(f:Obj->Obj) b o,b≠S->h'.get? b=some o->(h'.update S f).get? b=some o:=fun f b o hn e=>(QK _ _ (Rv hn)).trans e
   exact Qq ⟨plainId_quiet RD _,ih (j+1) _ u _ (by omega) hlt (W.frame _ _ _ st' fun b hb o e=>kS _ b o (fun z=>hSf (z ▸ hb)) e) (hO _ _ ok' fun b o _ hn e=>kS _ b o hn e) (by simp only[argBest,hb,if_true];exact hu) (Sf _ hS' rfl)
    fun v' h2 tk2 hP' k2=>hR v' h2 tk2 hP' fun b o hbw hn e=>k2 b o hbw hn (kS _ b o hn (k' b o hbw e))⟩
  | false =>
   simp only[Ry,SK]
   refine Qh (wpAny_letGo ?_)
   rw[hm]
   exact Qq ⟨plainId_quiet RD _,ih (j+1) _ v c (by omega) hlt st' ok' (by simp only[argBest,hb,Ry,SK];exact hP) hS' fun v' h2 tk2 hP' k2=>hR v' h2 tk2 hP' fun b o hbw hn e=>k2 b o hbw hn (k' b o hbw e)⟩
theorem Fc{E:Value->Shared->Prop}{s:Shared}{l:Addr}{vs:Array Value}{Q:Value->Shared->Prop}(hh:A.handled=none)(hl:s.heap.IsList l vs)(hne:0<vs.size)
  (hc:KD prog w A.in1 (fun i v=>vs[i]?=some v) (fun h => ∀b o,s.heap.get? b=some o->h.get? b=some o) bt)
  (h:∀v h' tk,vs[argBest bt (vs.size-1)]?=some v->(∀b o,s.heap.get? b=some o->h'.get? b=some o)->Q v { s with heap:=h',toks:=tk }):wpAny (model prog w) A (call (.builtin "max") [.ref l]) Q E s:=by
 have hm:(toString "max" ++ toString ".loop" : String) = "max.loop" := by decide
 have hlt:l<s.heap.objs.size:=by obtain⟨_,e,_⟩:=hl;exact Qy e
 refine call_function_tree PySem.F.kind_max PySem.F.plain_max PySem.F.entry_max (PySem.F.args_max1 _) ?_
 refine Qh (m:=Builtin.Builtins.bindParams "max" ["key", "default"] 0 ⟨[],[]⟩) (wpAny_of_eq (show _=pure [none,none]from rfl) (Qh (Qq ?_)))
 refine Qh (wpAny_pyIter_list hl ?_)
 let h1:=s.heap.push { cls:=.type "list_iterator", data:=.fields #[.ref l,.int 0 0] }
 have z1:h1.objs.size=s.heap.objs.size+1:=Sn _ _
 have g1:∀b o,s.heap.get? b=some o->h1.get? b=some o:=fun b o e=>Qk _ e
 have W:=Walks.list (prog:=prog) (w:=w) (A:=A.in1) hh s.heap.objs.size l (QS hlt) vs
 have st:h1.IsListIter s.heap.objs.size l 0/\h1.IsList l vs:=⟨⟨_,QG _ rfl,rfl,rfl⟩,hl.push _⟩
 refine Qh (wpAny_newObj_type ?_)
 rw[hm]
 have hSf:h1.objs.size∉[s.heap.objs.size,l]:=fun hm=>by
  rw[z1]at hm
  simp only[Qo,Sa,or_false]at hm
  rcases hm with e|e
  ·exact Nat.succ_ne_self _ e
  ·exact Nat.not_lt.mpr (SO _) (e ▸ hlt)
 have hSw:h1.objs.size∉[s.heap.objs.size]:=fun hm=>hSf (W.sub _ hm)
 have hO:∀h h':Heap,(∀b o,s.heap.get? b=some o->h.get? b=some o)->(∀b o,b∉[s.heap.objs.size]->b≠h1.objs.size->h.get? b=some o->h'.get? b=some o)->∀b o,s.heap.get? b=some o->h'.get? b=some o:=fun h h' a b c o e=>by
  have:=Qy e
  exact b c o (fun z=>by simp only[Qo,Sa,or_false]at z;exact QS this z) (by rw[z1];exact QS (Nat.lt_succ_of_lt this)) (a c o e)
 have g2:∀b o,s.heap.get? b=some o->(h1.push { cls:=.type "list", dict:=none,data:=.seq #[] 0,slots:=#[] }).get? b=some o:=fun b o e=>Qk _ (g1 b o e)
 have hS:(h1.push { cls:=.type "list", dict:=none,data:=.seq #[] 0,slots:=#[] }).get? h1.objs.size=some { cls:=.type "list", dict:=none,data:=.seq #[] 0,slots:=#[] }:=QG _ rfl
 refine Qq ⟨plainId_quiet RD _,codeAny_builtin PySem.F.entry_max_loop ?_⟩
 rw[Around.under_plainId RD _]
 refine Qh (m:=seqItems? _) (wpAny_seqItems hS rfl ?_)
 refine Qh (m:=tryCatch (pyNext _) _) (wpAny_tryCatch (W.item 0 _ _ _ hne (W.frame _ _ _ st fun b _ o e=>Qk _ e) fun v h2 tk hv st' k'=>?_))
 have hS':=k' _ _ hSw hS
 refine Qh (m:=updateSeq h1.objs.size (fun _ => #[v,v])) (wpAny_updateSeq hS' rfl ?_)
 rw[hm]
 have kS:∀(f:Obj->Obj) b o,b≠h1.objs.size->h2.get? b=some o->(h2.update h1.objs.size f).get? b=some o:=fun f b o hn e=>(QK _ _ (Rv hn)).trans e
 have o2:∀b o,s.heap.get? b=some o->h2.get? b=some o:=hO _ _ g2 fun b o hb _ e=>k' b o hb e
 refine Qq ⟨plainId_quiet RD _,BE W hc hSf hO _ 0 _ v _ rfl hne (W.frame _ _ _ st' fun b hb o e=>kS _ b o (fun z=>hSf (z ▸ hb)) e) (hO _ _ o2 fun b o _ hn e=>kS _ b o hn e) hv (Sf _ hS' rfl) fun v' h3 tk3 hv' k3=>?_⟩
 exact h v' h3 tk3 hv' (hO _ _ o2 fun b o hb hn e=>k3 b o hb hn (kS _ b o hn e))
end
variable{X:Cx}
theorem Kk{key:Nat->List Int}:∀k,argBest (fun i j=>HT.lexLt (key j) (key i)) k<=k/\∀j,j<=k->HT.lexLt (key (argBest (fun i j=>HT.lexLt (key j) (key i)) k)) (key j)=false
 | 0=>⟨Ql _,fun j hj=>by rw[Nat.le_zero.mp hj];exact g9 _⟩
 | k+1=>by
  obtain⟨h1,h2⟩:=Kk (key:=key) k
  rw[argBest]
  generalize argBest (fun i j=>HT.lexLt (key j) (key i)) k=b at *
  cases hb:HT.lexLt (key b) (key (k+1))with
  | true =>
   rw[if_pos rfl]
   refine⟨Ql _,fun j hj=>?_⟩
   rcases RK j (k+1)with z|z
   ·cases hc:HT.lexLt (key (k+1)) (key j)with
    | false=>rfl
    | true=>have:=iQ _ _ _ hb hc;rw[h2 j (by omega)]at this;cases this
   ·obtain rfl:j=k+1:=by omega
    exact g9 _
  | false =>
   rw[if_neg (by decide)]
   refine⟨by omega,fun j hj=>?_⟩
   rcases RK j (k+1)with z|z
   ·exact h2 j (by omega)
   ·obtain rfl:j=k+1:=by omega
    exact hb
noncomputable def wl(M:List Int)(nss:List (List Int)):Prop:=M∈nss/\∀y∈nss,HT.lexLt M y=false
theorem A0{N:List Int}{nss:List (List Int)}(h:wl M nss)(g:wl N nss):M=N:=jt _ _ (h.2 N g.1) (g.2 M h.1)
theorem Am(hc:X.calm=true)(hu:X.A.units+70<cLine):eg X (.builtin "max") (fun xs H Q => ∃(p:Addr) (ts:List V) (nss:List (List Int)),xs=[.ref p]/\bT X.K H p ts/\bF X.K H ts nss/\wl M nss/\∀b,ba X.K H b (M.map V.int)->Q (.ref b) H):=by
 intro pins s σ H xs us Q I r h
 obtain⟨p,ts,nss,rfl,hq,ht,hM,q⟩:=h
 obtain⟨u,rfl,rx⟩:=gP r
 cases rx
 obtain⟨its,rv,pl,hz⟩:=I.list hq
 obtain⟨t1,t2⟩:=nV I ht rv
 have hne:0<its.length:=by
  rcases Nat.eq_zero_or_pos its.length with e|e
  ·have:nss=[]:=by rw[<- t1,RN.mp e];rfl
   rw[this]at hM;cases hM.1
  ·exact e
 let key:Nat->List Int:=fun i=>(its[i]?.map (dR s.heap)).getD []
 have kat:∀i v,its[i]?=some v->key i=dR s.heap v:=fun i v e=>by show(its[i]?.map _).getD []=_;rw[e];rfl
 refine Fc (bt:=fun i j=>HT.lexLt (key j) (key i)) (I.ok.hd hc) pl.isList (by simpa using hne) ?_ ?_
 ·intro i j vi vj s2 Q2 E2 ok hi hj q2
  have hi':its[i]?=some vi:=by simpa using hi
  have hj':its[j]?=some vj:=by simpa using hj
  obtain⟨b1,n1,rfl,x1,_⟩:=t2 vi (Re hi')
  obtain⟨b2,n2,rfl,x2,_⟩:=t2 vj (Re hj')
  have k1:=x1.kv
  have k2:=x2.kv
  obtain⟨c1,o1,j1,m1,e1,g1,d1,f1,r1,_⟩:=x1
  obtain⟨c2,o2,j2,m2,e2,g2,d2,f2,r2,_⟩:=x2
  cases e1
  cases e2
  refine HT.gt_tups (ns:=n1) (ms:=n2) ⟨o1,ok _ _ g1,d1,m1,f1⟩ ⟨o2,ok _ _ g2,d2,m2,f2⟩ (gT r1) (gT r2) (by rw[Around.in1_units];omega) ?_
  have e1:key i=n1:=(kat i _ hi').trans k1
  have e2:key j=n2:=(kat j _ hj').trans k2
  replace q2:Q2 (.bool (HT.lexLt (key j) (key i))) s2:=q2
  rw[e1,e2]at q2
  exact q2
 ·intro v h' tk hv kk
  have hv':its[argBest (fun i j=>HT.lexLt (key j) (key i)) (its.length-1)]?=some v:=by simpa using hv
  obtain⟨_,h2⟩:=Kk (key:=key) (its.length-1)
  have hvm:=Re hv'
  have al:wl (dR s.heap v) nss:=by
   rw[<- t1]
   refine⟨List.mem_map_of_mem hvm,fun y hy=>?_⟩
   obtain⟨x,hx,rfl⟩:=QB.mp hy
   obtain⟨j,hj⟩:=List.mem_iff_getElem?.mp hx
   have:=h2 j (by have:=(Qz.mp hj).1;omega)
   rw[kat _ _ hv',kat _ _ hj]at this
   exact this
  have e:=A0 al hM
  obtain⟨b,ns,rfl,x,hs⟩:=t2 v hvm
  rw[x.kv]at e
  subst e
  exact⟨.ref b,H,I.kept kk,rfl,q b hs⟩
theorem wC:∀{l:List (List Int)},(∀t∈l,t≠[])->fw (l.map aK)=some l
 | [],_=>rfl
 | []::l,h=>absurd rfl (h [] Qj)
 | (y::x)::l,h=>by
  have e:fw (l.map fun ns=>D.tup (ns.map D.int))=some l:=wC fun t ht=>h t (Qi _ ht)
  rw[QJ]
  unfold aK fw
  rw[pq,e]
theorem FN{Φ:Fx}{sc:Scope}{ρ:ah}{p pos:Pos}{e:Expr}{l:List (List Int)}{k:Nat}(G:aL Φ X sc)(hg:sc.names.lookup (Str.ofString "max")=some .globalImplicit)(ha:AD X ρ [e] [.lst (l.map aK)] k)(hst:∀y p,e ≠ .Starred y p)(hn:∀t∈l,t≠[])(hM:wl M l):ED X ρ (.Call (.Name (Str.ofString "max") p) [e] [] pos) (aK M) 0:=by
 intro ow
 have n1:=aF (env:=X.env) (es:=[]) hst
 refine bB (sJ (Am (M:=M) G.calm G.room) (G.gl _ hg) (G.bl _ (by decide +kernel)) (show bootBuiltins "max" = some (.builtin "max") by decide +kernel) (ha ow) (by decide +kernel) (by decide +kernel) n1 rfl) fun σ H Q ⟨E,q⟩=>⟨E,fun vs H1 s1 r1=>?_⟩
 obtain⟨v,rfl,ry⟩:=r1.only
 obtain⟨a,ws,rfl,hs,rl⟩:=jO ry
 have e:=wC hn
 obtain⟨t1,t2⟩:=nU e rl
 exact⟨a,ws,l,rfl,hs,t1,hM,fun b hb=>q _ _ s1 (by rw[ai];exact⟨b,_,rfl,hb,aj.ofInts⟩)⟩
end Sp
namespace K
open PySem L2 Sp Qm
variable{N:Int}{t:List Int}{s:Bool}
theorem GP{l:List (List Int)}(h:l.Nodup):(bN l).Pairwise fun a b=>HT.lexLt a b=true:=by
 refine(List.Pairwise.and (jN _) ((b9 l).nodup_iff.mpr h)).imp fun {a b} h=>?_
 rcases Bool.eq_false_or_eq_true (HT.lexLt a b)with e|e
 ·exact e
 ·exact absurd (jt _ _ e h.1) h.2
theorem FH{α:Type}{P:α->Bool}{r:α}{l:List α}(hn:l.Nodup)(hr:r∈l)(h1:P r=true)(h2:∀x∈l,P x=true->x=r):(l.filter P).length=1:=by
 have n:=hn.filter P
 have m:r∈l.filter P:=RG.mpr ⟨hr,h1⟩
 have a:∀x∈l.filter P,x=r:=fun x hx=>h2 x (RG.mp hx).1 (RG.mp hx).2
 generalize l.filter P=k at n m a
 match k,n,m,a with
 | [],_,m,_=>cases m
 | [x],_,_,_=>rfl
 | x::y::k,n,_,a =>
  have e:=(a x Qj).trans (a y (Qi _ Qj)).symm
  exact absurd e ((Q6.mp n).1 y Qj)
theorem FX{s:Bool}(hN:N<=97)(h:t∈cv N):∃r∈cg s N,t∈fE s r:=by
 rcases mT (cl:=fE s) (l:=(cv N).reverse) (m:=[]) (fun x hx=>(gh s hN).self x (QW.mp hx)) t (QW.mpr h)with h|h
 ·cases h
 ·exact h
theorem FU(hN:N<=97){a b:List Int}(ha:a∈cg s N)(hb:b∈cg s N)(h1:t∈fE s a)(h2:t∈fE s b):a=b:=by
 have d:=mR (gh s hN) (l:=(cv N).reverse) (m:=[]) (fun x hx=>QW.mp hx) (fun x hx=>by cases hx)
 rcases eq_or_of_pw d (show a∈grd (fE s) (cv N).reverse []from ha) (show b∈grd (fE s) (cv N).reverse []from hb)with e|e|e
 ·exact e
 ·exact absurd rfl (e t h1 t h2)
 ·exact absurd rfl (e t h2 t h1)
where
 eq_or_of_pw {α:Type} {R:α->α->Prop} {a b:α}:∀{l:List α},l.Pairwise R->a∈l->b∈l->a=b\/R a b\/R b a
 | [],_,h,_=>by cases h
 | x::l,p,h,g=>by
  obtain⟨p1,p2⟩:=Q6.mp p
  rcases Qo.mp h with e|h'
  ·rcases Qo.mp g with e2|g'
   ·exact .inl (e.trans e2.symm)
   ·exact .inr (.inl (by rw[e];exact p1 b g'))
  ·rcases Qo.mp g with e2|g'
   ·exact .inr (.inr (by rw[e2];exact p1 a h'))
   ·exact eq_or_of_pw p2 h' g'
theorem FW(hN:N<=97)(h:t∈cv N):((bN (cg s N)).filter fun f=>decide (f∈fE s t)).length=1:=by
 rw[((b9 (cg s N)).filter _).length_eq]
 have C:=gh s hN
 obtain⟨r,hr,ht⟩:=FX (s:=s) hN h
 refine FH (Ae s N) hr (QM (C.sym r (fO hr) t ht)) fun x hx e=>?_
 exact FU hN hx hr (C.sym t h x (Q9 e)) ht
theorem JB(hN:N<=97)(h:t∈cg s N):∀g∈fE s t,HT.lexLt t g=false:=fun g hg=>by
 rcases FV hN h g hg with e|e
 ·rw[e];exact g9 _
 ·cases hc:HT.lexLt t g with
  | false=>rfl
  | true=>have:=iQ _ _ _ hc e;rw[g9]at this;cases this
end K
namespace Sp
open PySem PySem.Spec PyProof.Rows L2
variable{P:Program}{w:World}{H H':Hp}{base h:Heap}{B c g n p qual x y:Str}{o:Obj}{C S f z:Addr}{X Y:Cx}{pins:List (Addr×Obj)}{σ:L2.St}{s:Shared}{fd:FuncData}{ps:List Str}{k kd:Nat}{bp hpos p1 p2 p3 pos tpos:Pos}{e:Expr}{t:TA}{Q:Flow->Shared->Prop}{es:List Expr}{st:Stmt}{sp:L2.Sp}{E:XK}{ρ:ah}{ow:Ow}{Φ:Fx}{sc:Scope}{fs:List (Str×Int)}{G:List D->Option Xs}{ds:List D}{Ψ:Str->Option (List D->Option Xs)}{Ex:Str->Option (Str×Option Str)}{K:W.Frag}{mg:Str->Option Value}{post pre tb:List Stmt}{l:List (Str×Str×Option Str)}
noncomputable abbrev kB(x:Addr)(o:Obj):HO:=.ext (fun h=>h.get? x=some o)
theorem IW{x:Addr}(e:h.get? x=some o):aT P w H h x (kB x o):=⟨e,⟨o,e⟩,fun h1 h2 a b=>b _ a⟩
theorem IY{x:Addr}(e:aT P w H h x (kB x o)):h.get? x=some o:=e.1
noncomputable def yy(C:Addr)(f:Str):Sp:=fun vs H Q _ => ∃x i o vv t0,vs=[.ref x,.int i]/\i.natAbs<2 ^ 1900/\H x=some (kB x o)/\o.cls=.ref C/\o.data=.fields vv/\o.dict=none/\vv[0]?=some (.ref t0) /\
 ∀t1 dx,H dx=none->Q .non (az (az H x (kB x ⟨o.cls,some dx,.fields (vv.setIfInBounds 0 (.ref t1)),o.slots⟩)) dx (.xd [(f,.int i)]))
noncomputable def hide(H:Hp)(z:Addr):Hp:=fun a=>if a=z then none else H a
theorem Un.hide{fs ex:List Addr}{h1 h2:Heap}{o:HO}(u:Un fs ex (az H z o) H' h1 h2)(k:∀b q,h.get? b=some q->h1.get? b=some q)(hz:h.get? z=none)(nz:H z=none):Un fs ex H (Sp.hide H' z) h h2:=by
 have ne:∀b q,h.get? b=some q->b≠z:=fun b q e y=>by subst y;rw[hz]at e;cases e
 have up:∀b q,h.get? b=some q->H b=none->az H z o b=none:=fun b q e n=>(aq (ne b q e)).trans n
 have nt:∀b q,H b=some q->b≠z:=fun b q e y=>by subst y;rw[nz]at e;cases e
 refine⟨fun b q e n hf hx=>u.keep b q (k b q e) (up b q e n) hf hx,fun b q e n hf hx=>u.slot b q (k b q e) (up b q e n) hf hx,fun b q e n hx=>?_,fun b q e hx=>u.there b q (k b q e) hx,fun b xs e=>?_,fun b q v e=>?_,fun b ps e=>?_⟩
 ·show(if b=z then none else H' b)=none
  rw[if_neg (ne b q e)];exact u.free b q (k b q e) (up b q e n) hx
 ·show(if b=z then none else H' b)=_
  rw[if_neg (nt b _ e)];exact u.tups b xs ((aq (nt b _ e)).trans e)
 ·show(if b=z then none else H' b)=_
  rw[if_neg (nt b _ e)];exact u.frzs b q v ((aq (nt b _ e)).trans e)
 ·show ∃more,(if b=z then none else H' b)=_
  rw[if_neg (nt b _ e)];exact u.tbls b ps ((aq (nt b _ e)).trans e)
theorem cx.hide{φ:Heap->Prop}(ok:cx P w H h)(hz:H z=some (.ext φ)):cx P w (Sp.hide H z) h:=fun b o e=>by
 have hb:b≠z:=fun y=>by subst y;unfold Sp.hide at e;rw[if_pos rfl]at e;cases e
 have e':H b=some o:=by unfold Sp.hide at e;rw[if_neg hb]at e;exact e
 have st:∀a q,H a=some q->(∀φ,q ≠ .ext φ)->Sp.hide H z a=some q:=fun a q ea hq=>by
  unfold Sp.hide
  rw[if_neg (fun y=>by subst y;rw[hz]at ea;cases ea;exact hq _ rfl)];exact ea
 exact(ok b o e').stay (fun c v _ q=>q) (fun x q=>st _ _ q (fun _ y=>by cases y)) (fun a xs q=>st _ _ q (fun _ y=>by cases y))
theorem yM{f:Str}{fI:Addr}{oI:Obj}{np cpos:Pos}(I:ak X pins σ H s)(hc:X.calm=true)(hg:Gl X x)(hm:X.mg x=some (.ref C))(hx:gH X.K C S)(hin:eR X.K C=some (.ref fI))
  (hfo:X.K.lookup fI=some oI) (hfc:oI.cls=.type "function") (hkC:W.keepIn X.K (.ref C)=true) (F:bG X.prog X.w X.K X.mg X.base eh k fI fd ps (yy C f)) (hr:bz (k+1) X.A) (hb:bK X.K fd ps []) (hdb:(x==("__debug__" : Str))=false)
  (ha:PA X [e] t) (he:starEach [e] X.env=(false,eval e X.env)::starEach [] X.env)
  (h:t σ H fun vs H1 => ∃i:Int,vs=[.int i]/\i.natAbs<2 ^ 1900/\∀s1 z dx o vv a0,ak X pins σ (az H1 dx (.xd [(f,.int i)])) s1->H1 dx=none->s1.heap.get? z=some o->o.cls=.ref C->o.dict=some dx->o.data=.fields vv->1<vv.size->vv[0]?=some a0->vv[1]?=some .none->(az H1 dx (.xd [(f,.int i)])) z=none->X.s₀.heap.get? z=none->X.xe (.ref z) s1) :
  wpAny (model X.prog X.w) X.A (exec (.Raise (some (.Call (.Name x np) [e] [] cpos)) none pos) X.env) Q X.xe s:=by
 obtain⟨nm,qn,N,bs,hdct,sn,sub,ab,col,dd,k0,k1,k2,k3,k5,mN,g1,g2,g3,g4⟩:=iw hx.ex I.ok.mod.kin
 rw[arm_exec_Raise]
 refine Qh (Sj ?_)
 refine wP (x:=(do let v <- eval (.Call (.Name x np) [e] [] cpos) X.env;standAt pos;pure v)) (C:=C) (nm:=nm) (q:=qn) (N:=N) (bs:=bs) (bm:=.ref S::iT) (hdct:=hdct) (sn:=sn) (sub:=sub) (ab:=ab) (col:=col) (dd:=dd) (k0:=k0) (k1:=k1) (k2:=k2) (k3:=k3) (k5:=k5) (newId := "ValueError.__new__") (Ap S) (I.ok.hd hc) ?_
 refine Qh (wpAny_Call_ofName (dW I hg hm ?_ hdb))
 refine W.callWith_K (h₀:=X.base) I.ok.mod.kin hkC (aN (ha cpos pins s σ H _ I h) fun us s1 ⟨vs,H1,I1,r,i,ev,hi,q⟩=>⟨I1.kIn,?_⟩) he rfl
 subst ev
 cases r with
 | cons r1 r =>
 rename_i u0 us0
 cases r
 obtain⟨tk,rfl⟩:=r1
 obtain⟨hh,gg,d0,tt,oo⟩:=s1
 have gN:hh.Ns N mN:=by obtain⟨o,es,ep,e1,e2⟩:=g2;exact⟨o,es,ep,I1.bk _ _ e1,e2⟩
 refine xK PySem.F.excBase_ValueError ((OwnTailQ.tail g4).keeps I1.bk) (I1.bk _ _ g1) gN (g3.trans hin) (I1.kIn _ _ hfo) hfc (fun h' z hz m=>?_) (by rw[Sv];exact Si rfl)
 obtain⟨t0,w1,w2,w3⟩:=m.there
 have n1:H1 z=none:=I1.hok.fresh hz
 have I2:ak X pins σ (az H1 z (kB z _)) ⟨h',gg,d0,tt,oo⟩:=I1.laid (a:=z) (h':=h') (t':=tt) m.keeps hz (IW w1)
 have hsp:yy C f [.ref z,.int i] (az H1 z (kB z { cls:=.ref C,data:=.fields #[.ref t0,.none,.none,.none,.bool false,.none] })) (fun v H'=>v=.non/\∃t1 dx,(az H1 z (kB z { cls:=.ref C,data:=.fields #[.ref t0,.none,.none,.none,.bool false,.none] })) dx=none/\H'=az (az (az H1 z (kB z { cls:=.ref C,data:=.fields #[.ref t0,.none,.none,.none,.bool false,.none] })) z (kB z ⟨.ref C,some dx,.fields (#[.ref t0,.none,.none,.none,.bool false,.none].setIfInBounds 0 (.ref t1)),#[]⟩)) dx (.xd [(f,.int i)])) (fun _ _ _=>False) :=
  ⟨z,i,_,_,t0,rfl,hi,aB,rfl,rfl,rfl,rfl,fun t1 dx hdx=>⟨rfl,t1,dx,hdx,rfl⟩⟩
 have r2:aD [.ref z,.int i] [.ref z,.int i tk]:=.cons rfl (.cons ⟨tk,rfl⟩ .nil)
 have hl:([Value.ref z,.int i tk]++[]).length=ps.length:=F.len _ _ _ _ hsp
 refine Sq (SE (F.run (X.A.under (.builtin "type.__call__" ⟨.ref C::([]++[.int i tk]),[]⟩)) X.stack ⟨h',gg,d0,tt,oo⟩ _ ⟨[.ref z,.int i tk],[]⟩ [.ref z,.int i tk] [.ref z,.int i] _ _ (hr.make C _ []) (I2.env0.make C _ []) (by have:=hb ⟨h',gg,d0,tt,oo⟩ [.ref z,.int i tk] I2.kIn hl;rw[QP]at this;exact this) r2 hsp) fun r s' hq=>?_)
 cases r with
 | error e=>exact oZ pins σ _ _ e s' I2 hq
 | ok fl =>
  cases fl with
  | next=>exact False.elim hq
  | brk=>exact False.elim hq
  | cont=>exact False.elim hq
  | ret u =>
   obtain⟨v,H',os',bare,un,hok,ru,rfl,t1,dx,hdx,rfl⟩:=hq
   have hne:dx≠z:=fun y=>by subst y;rw[aB]at hdx;cases hdx
   rw[aq hne]at hdx
   rw[DI]at un hok
   have hzn:hh.get? z=none:=Sk hz
   have un2:=Un.hide un m.keeps hzn n1
   have ez:(az (az H1 z (kB z ⟨.ref C,some dx,.fields (#[.ref t0,.none,.none,.none,.bool false,.none].setIfInBounds 0 (.ref t1)),#[]⟩)) dx (.xd [(f,.int i)])) z=some (kB z ⟨.ref C,some dx,.fields (#[.ref t0,.none,.none,.none,.bool false,.none].setIfInBounds 0 (.ref t1)),#[]⟩):=by rw[aq hne.symm];exact aB
   have hok2:=cx.hide hok ez
   have oz:=IY (hok z _ ez)
   have eH:Sp.hide (az (az H1 z (kB z ⟨.ref C,some dx,.fields (#[.ref t0,.none,.none,.none,.bool false,.none].setIfInBounds 0 (.ref t1)),#[]⟩)) dx (.xd [(f,.int i)])) z=az H1 dx (.xd [(f,.int i)]):=by
    funext a
    unfold Sp.hide
    by_cases ha:a=z
    ·subst ha;rw[if_pos rfl,aq hne.symm,n1]
    ·rw[if_neg ha]
     by_cases hb:a=dx
     ·subst hb;rw[aB,aB]
     ·rw[aq hb,aq hb,aq ha]
   rw[eH]at un2 hok2
   obtain⟨hh',g',d',t',o'⟩:=s'
   obtain rfl:o'=oo:=os'
   have I3:=I1.call (h':=hh') (g':=g') (d':=d') (t':=t') (ch:=[]) un2 hok2 bare (fun b z=>absurd z (by simp))
   have ru:u=Value.none:=ru
   refine⟨ru,Qh (Sj (Qq ⟨z,_,_,rfl,I3.bk _ _ g1,oz,rfl,rfl,by simp,q _ z dx _ _ _ I3 hdx oz rfl rfl rfl (by simp) (by simp;rfl) (by simp) (by rw[aq hne.symm];exact n1) (Sk (QA I1.sz hz))⟩))⟩
theorem _root_.L2.PA.nox(h:PA X.nox es t):PA X es t:=fun pos pins s σ H Q I hw =>
 Rb (h pos pins s σ H Q (I.wish _) hw) (fun _ _ ⟨v,H',I',r,q⟩=>⟨v,H',I'.unwish,r,q⟩) fun _ _ z=>False.elim z
theorem _root_.L2.PS.nox{t:TS}(h:PS X.nox st t):PS X st t:=fun pins s σ H D I hw =>
 Rb (h pins s σ H D (I.wish _) hw) (fun _ _ q=>q.unwish) fun _ _ z=>False.elim z
theorem F1{Q:Value->Shared->Prop}{p:Pos}(F:bG X.prog X.w X.K X.mg X.base (fU X.prog X.w) k f fd ps sp)(hr:bz k X.A)(hg:Gl X x)(hm:X.mg x=some (.ref f))(hk:W.keepIn X.K (.ref f)=true)(hb:bK X.K fd ps [])
  (I:ak X pins σ H s) (hx:∀H1 s1 e s',ak X pins σ H1 s1->fU X.prog X.w X.stack H1 s1 E e s'->X.xe e s')
  (ha:PA X (e::es) t) (hdb:(x==("__debug__" : Str))=false) (he:starEach (e::es) X.env=(false,eval e X.env)::starEach es X.env) (hpl:(backTo pos (starEach es X.env)).any (·.1)=false)
  (h:t σ H fun vs H1=>sp vs H1 (fun _ _=>False) E):wpAny (model X.prog X.w) X.A (eval (.Call (.Name x p) (e::es) [] pos) X.env) Q X.xe s:=by
 refine RI (dW I hg hm ?_ hdb)
 refine W.callWith_K (h₀:=X.base) I.ok.mod.kin hk (aN (ha pos pins s σ H _ I h) fun us s1 ⟨vs,H1,I1,r,q⟩=>⟨I1.kIn,?_⟩) he hpl
 have hl:us.length=ps.length:=by rw[<- r.length];exact F.len _ _ _ _ q
 refine Sq (SE (F.run X.A X.stack s1 H1 ⟨us,[]⟩ us vs _ E hr I1.env0 (by have:=hb s1 us I1.kIn (by rw[QP];exact hl);rw[QP]at this;exact this) r q) fun r s' hq=>?_)
 cases r with
 | error e=>exact hx H1 s1 e s' I1 hq
 | ok fl =>
  cases fl with
  | ret u=>obtain⟨_,_,_,_,_,_,_,z⟩:=hq;exact z.elim
  | next=>exact False.elim hq
  | brk=>exact False.elim hq
  | cont=>exact False.elim hq
theorem Fk{Q:Value->Shared->Prop}{p:Pos}(M:Mk X.K C f)(F:bG X.prog X.w X.K X.mg X.base (fU X.prog X.w) k f fd ps sp)(hr:bz (k+1) X.A)(hg:Gl X x)(hm:X.mg x=some (.ref C))(hb:bK X.K fd ps [])
  (I:ak X pins σ H s) (hx:∀H1 s1 e s',ak X pins σ H1 s1->fU X.prog X.w X.stack H1 s1 E e s'->X.xe e s')
  (ha:PA X (e::es) t) (hdb:(x==("__debug__" : Str))=false) (he:starEach (e::es) X.env=(false,eval e X.env)::starEach es X.env) (hpl:(backTo pos (starEach es X.env)).any (·.1)=false)
  (h:t σ H fun vs H1 => ∀x dx,H1 x=none->H1 dx=none->dx≠x->sp (.ref x::vs) (az (az H1 dx (.own x)) x (.ins C dx [])) (fun _ _=>False) E):wpAny (model X.prog X.w) X.A (eval (.Call (.Name x p) (e::es) [] pos) X.env) Q X.xe s:=by
 refine RI (dW I hg hm ?_ hdb)
 refine W.callWith_K (h₀:=X.base) I.ok.mod.kin M.kp (aN (ha pos pins s σ H _ I h) fun us s1 ⟨vs,H1,I1,r,q⟩=>⟨I1.kIn,?_⟩) he hpl
 have hq:=q (s1.heap.objs.size+1) s1.heap.objs.size (I1.hok.fresh (SO _)) (I1.hok.fresh (Ql _)) (QS (QV _))
 have I2:=ak.made (C:=C) I1
 have r2:aD (V.ref (s1.heap.objs.size+1)::vs) (Value.ref (s1.heap.objs.size+1)::us):=.cons rfl r
 have hl:(Value.ref (s1.heap.objs.size+1)::us++[]).length=ps.length:=by
  have e:=r2.length
  rw[F.len _ _ _ _ hq]at e
  rw[QP]
  exact e.symm
 refine Sq (sV (f:=f) I1.kIn M.makes M.init (beq_iff_eq.mp M.fn) (SE (F.run _ X.stack _ _ ⟨Value.ref (s1.heap.objs.size+1)::us,[]⟩ (Value.ref (s1.heap.objs.size+1)::us) _ _ E (hr.make C us [])
  (I2.env0.make C us []) (by have:=hb _ (Value.ref (s1.heap.objs.size+1)::us) I2.kIn hl;rw[QP]at this;exact this) r2 hq) fun r s' hq'=>?_))
 cases r with
 | error e=>exact hx _ _ e s' I2 hq'
 | ok fl =>
  cases fl with
  | ret u=>obtain⟨_,_,_,_,_,_,_,z⟩:=hq';exact z.elim
  | next=>exact False.elim hq'
  | brk=>exact False.elim hq'
  | cont=>exact False.elim hq'
noncomputable def yz(K:W.Frag)(G:List D->Option Xs):L2.Sp:=fun vs H _ E => ∃ds n p fs C S,aj K H (fun _ _=>True) ds vs/\G ds=some (n,p,fs)/\W.nsIn K mainGlobals n=some (some (.ref C))/\W.nsIn K mainGlobals p=some (some (.ref S))/\gH K C S/\∀od H',ar H H'->tS H' od fs->E (.ref C) od H'
noncomputable def KC(H0:Hp)(C:Addr)(fs:List (Str×Int)):XK:=fun c od H'=>c=.ref C/\ar H0 H'/\tS H' od fs
noncomputable def GW(g:Str)(G:List D->Option Xs):List D->Option Xs:=fun ds=>match ds with
 | .obj n [] []::l=>if n=g then G l else none
 | _=>none
noncomputable def PU(X:Cx)(g:Str)(G:List D->Option Xs):Prop:=∃k f fd ps,bG X.prog X.w X.K X.mg X.base (fU X.prog X.w) k f fd ps (yz X.K G)/\bz k X.A/\X.mg g=some (.ref f)/\W.keepIn X.K (.ref f)=true/\bK X.K fd ps []/\(g==("__debug__" : Str))=false
noncomputable def PP(X:Cx)(g:Str)(G:List D->Option Xs):Prop:=∃k C f fd ps,Mk X.K C f/\bG X.prog X.w X.K X.mg X.base (fU X.prog X.w) k f fd ps (yz X.K (GW g G))/\bz (k+1) X.A/\X.mg g=some (.ref C)/\W.nsIn X.K mainGlobals g=some (some (.ref C))/\fv X.K C/\bK X.K fd ps []/\(g==("__debug__" : Str))=false
noncomputable def uD(X:Cx)(g:Str)(G:List D->Option Xs):Prop:=PU X g G\/PP X g G
theorem Hu{t:Str}(he:ED X ρ e (.str x) k)(hx:(reprText x).length<=1000)(ht:t.length<=64):ED X ρ (.JoinedStr [.FormattedValue e 114 none p1,.Constant (.str t) kd p2] p3) (.str (reprText x++t)) 0:=by
 intro ow pins s σ H Q I ⟨E,q⟩
 have hz:(1064:Nat)<=sizeLine:=by rw[Sv];decide
 have hx':(reprText x).length<=sizeLine:=by omega
 refine wpAny_JoinedStr ?_
 show wpAny _ _ (eval (.FormattedValue e 114 none p1) X.env) (fun v s₁ => ∃y t',v=Value.str y t'/\(Str.empty++y).length<=sizeLine/\wpAny _ _ (eval (.Constant (.str t) kd p2) X.env) (fun v s₂ => ∃z t'',v=Value.str z t''/\(Str.empty++y++z).length<=sizeLine/\_) _ s₁) _ s
 rw[arm_eval_FormattedValue]
 refine Qh (aN (he ow pins s σ H (fun v H'=>v=.str x/\ar H H') I ⟨E,fun v H' s' r=>⟨by rw[ai]at r;exact r,s'⟩⟩) fun u s1 ⟨v,H1,I1,r1,e1,s1'⟩=>?_)
 subst e1
 obtain⟨tk,rfl⟩:=r1
 refine Qh (Sj ?_)
 refine Qh (Q7 ?_)
 show wpAny _ _ (pyReprObj (Value.str x tk)) _ _ _
 refine wpAny_pyReprObj_str ?_ hx'
 show wpAny _ _ (formatField (Value.str (reprText x) s1.toks) Str.empty) _ _ _
 refine PyProof.Rows.formatField_str (fun t' tk'=>⟨_,_,rfl,?_,?_⟩) hx'
 ·rw[RL];exact hx'
 ·refine wpAny_Constant_str ⟨_,_,rfl,?_,?_⟩
  ·rw[RL,R7];omega
  ·refine⟨?_,.str _,H1,((I1.tok _).tok _).tok _,⟨_,rfl⟩,q _ _ s1' (by rw[ai,RL])⟩
   rw[RL,R7];omega
theorem Hv{i:Int}{a t:Str}{p0:Pos}{kd0:Nat}(he:ED X ρ e (.int i) k)(hi:i.natAbs<2 ^ 1900)(ha:a.length<=200)(ht:t.length<=64):ED X ρ (.JoinedStr [.Constant (.str a) kd0 p0,.FormattedValue e (-1) none p1,.Constant (.str t) kd p2] p3) (.str (a++Str.ofString (toString i)++t)) 0:=by
 intro ow pins s σ H Q I ⟨E,q⟩
 have hl:i.natAbs.log2<1920:=by
  rcases Nat.eq_zero_or_pos i.natAbs with z|z
  ·rw[z];decide
  ·exact Qv ((Nat.log2_lt (SC z)).mpr hi) (by decide)
 have tl:=int_text_len_1921 hl
 have hz:(2200:Nat)<=sizeLine:=by rw[Sv];decide
 refine wpAny_JoinedStr ?_
 show wpAny _ _ (eval (.Constant (.str a) kd0 p0) X.env) (fun v s₁ => ∃y t',v=Value.str y t'/\(Str.empty++y).length<=sizeLine/\wpAny _ _ (eval (.FormattedValue e (-1) none p1) X.env) (fun v s₂ => ∃z t'',v=Value.str z t''/\(Str.empty++y++z).length<=sizeLine/\wpAny _ _ (eval (.Constant (.str t) kd p2) X.env) (fun v s₂ => ∃z' t'',v=Value.str z' t''/\(Str.empty++y++z++z').length<=sizeLine/\_) _ s₂) _ s₁) _ s
 refine wpAny_Constant_str ⟨_,_,rfl,?_,?_⟩
 ·rw[RL];omega
 refine wpAny_FormattedValue_plain ?_
 refine aN (he ow pins _ σ H (fun v H'=>v=.int i/\ar H H') (I.tok _) ⟨E,fun v H' s' r=>⟨by rw[ai]at r;exact r,s'⟩⟩) fun u s1 ⟨v,H1,I1,r1,e1,s1'⟩=>?_
 subst e1
 obtain⟨tk,rfl⟩:=r1
 refine wpAny_formatField_int hl ⟨_,_,rfl,?_,?_⟩
 ·rw[RL,R7];omega
 ·refine wpAny_Constant_str ⟨_,_,rfl,?_,?_⟩
  ·rw[RL,R7,R7];omega
  ·refine⟨?_,.str _,H1,(I1.tok _).tok _ |>.tok _,⟨_,rfl⟩,q _ _ s1' (by rw[ai,RL])⟩
   rw[RL,R7,R7];omega
inductive Rz(Φ:Fx)(Ψ:Str->Option (List D->Option Xs))(Ex:Str->Option (Str×Option Str))(sc:Scope):List Stmt->ah->Xs->Prop where
 | raise {e:Expr} {d:D} {k:Nat} {x p:Str} {np cpos pos:Pos} {ss:List Stmt} {ρ:ah} (he:aa (ax Φ e false sc ρ) (d,k)) (hx:sc.names.lookup x=some .globalImplicit) (hd:(x==("__debug__" : Str))=false) (hp:Ex x=some (p,none)):Rz Φ Ψ Ex sc (.Raise (some (.Call (.Name x np) [e] [] cpos)) none pos::ss) ρ (x,p,[])
 | raiseR {e:Expr} {y t:Str} {k kd:Nat} {x p:Str} {np cpos pos p1 p2 p3:Pos} {ss:List Stmt} {ρ:ah} (he:aa (ax Φ e false sc ρ) (.str y,k)) (hy:(reprText y).length<=1000) (ht:t.length<=64) (hx:sc.names.lookup x=some .globalImplicit) (hd:(x==("__debug__" : Str))=false) (hp:Ex x=some (p,none)):Rz Φ Ψ Ex sc (.Raise (some (.Call (.Name x np) [.JoinedStr [.FormattedValue e 114 none p1,.Constant (.str t) kd p2] p3] [] cpos)) none pos::ss) ρ (x,p,[])
 | raiseM {e:Expr} {i:Int} {a t:Str} {k kd0 kd:Nat} {x p:Str} {np cpos pos p0 p1 p2 p3:Pos} {ss:List Stmt} {ρ:ah} (he:aa (ax Φ e false sc ρ) (.int i,k)) (hi:i.natAbs<2 ^ 1900) (ha:a.length<=200) (ht:t.length<=64) (hx:sc.names.lookup x=some .globalImplicit) (hd:(x==("__debug__" : Str))=false) (hp:Ex x=some (p,none)):Rz Φ Ψ Ex sc (.Raise (some (.Call (.Name x np) [.JoinedStr [.Constant (.str a) kd0 p0,.FormattedValue e (-1) none p1,.Constant (.str t) kd p2] p3] [] cpos)) none pos::ss) ρ (x,p,[])
 | raiseF {e:Expr} {i:Int} {k:Nat} {x p f:Str} {np cpos pos:Pos} {ss:List Stmt} {ρ:ah} (he:aa (ax Φ e false sc ρ) (.int i,k)) (hi:i.natAbs<2 ^ 1900) (hx:sc.names.lookup x=some .globalImplicit) (hd:(x==("__debug__" : Str))=false) (hp:Ex x=some (p,some f)):Rz Φ Ψ Ex sc (.Raise (some (.Call (.Name x np) [e] [] cpos)) none pos::ss) ρ (x,p,[(f,i)])
 | exp {f:Str} {G:List D->Option Xs} {e:Expr} {es:List Expr} {p q pos:Pos} {ds:List D} {k:Nat} {ss:List Stmt} {ρ:ah} {r:Xs} (ha:aa (bj Φ (e::es) sc ρ) (ds,k)) (hf:sc.names.lookup f=some .globalImplicit) (hG:Ψ f=some G) (h:G ds=some r):Rz Φ Ψ Ex sc (.Expr (.Call (.Name f p) (e::es) [] q) pos::ss) ρ r
 | asn {f:Str} {G:List D->Option Xs} {x:Str} {e:Expr} {es:List Expr} {p q pos px:Pos} {ds:List D} {k:Nat} {ss:List Stmt} {ρ:ah} {r:Xs} (ha:aa (bj Φ (e::es) sc ρ) (ds,k)) (hf:sc.names.lookup f=some .globalImplicit) (hG:Ψ f=some G) (h:G ds=some r):Rz Φ Ψ Ex sc (.Assign [.Name x px] (.Call (.Name f p) (e::es) [] q) pos::ss) ρ r
 | ast {f:Str} {G:List D->Option Xs} {ts:List Expr} {n:Nat} {e:Expr} {es:List Expr} {p q pos px:Pos} {ds:List D} {k:Nat} {ss:List Stmt} {ρ:ah} {r:Xs} (ha:aa (bj Φ (e::es) sc ρ) (ds,k)) (hf:sc.names.lookup f=some .globalImplicit) (hG:Ψ f=some G) (h:G ds=some r):Rz Φ Ψ Ex sc (.Assign [.Tuple ts n px] (.Call (.Name f p) (e::es) [] q) pos::ss) ρ r
 | ret {f:Str} {G:List D->Option Xs} {e:Expr} {es:List Expr} {p q pos:Pos} {ds:List D} {k:Nat} {ss:List Stmt} {ρ:ah} {r:Xs} (ha:aa (bj Φ (e::es) sc ρ) (ds,k)) (hf:sc.names.lookup f=some .globalImplicit) (hG:Ψ f=some G) (h:G ds=some r):Rz Φ Ψ Ex sc (.Return (some (.Call (.Name f p) (e::es) [] q)) pos::ss) ρ r
 | iff {c:Expr} {a b ss:List Stmt} {t:Bool} {k:Nat} {pos:Pos} {ρ:ah} {r:Xs} (hc:aa (ax Φ c false sc ρ) (.bl t,k)) (h:Rz Φ Ψ Ex sc (cond t a b) ρ r):Rz Φ Ψ Ex sc (.If c a b pos::ss) ρ r
 | step {s:Stmt} {ss:List Stmt} {ρ ρ':ah} {r:Xs} (hs:aa (fi Φ s sc ρ) (.nx ρ')) (h:Rz Φ Ψ Ex sc ss ρ' r):Rz Φ Ψ Ex sc (s::ss) ρ r
noncomputable def Gz(X:Cx)(H0:Hp)(ρ:ah):TS:=fun _ σ H => ∃ow,aC X.nox ow H σ ρ/\σ.length=X.N.length/\bi H0 ow H
theorem bi.same{H0:Hp}(b:bi H0 ow H)(s:ar H H'):bi H0 ow H':=b.keep (aI.same s)
theorem fG{H0:Hp}{ss:List Stmt}(h:PS X st (Gz X H0 ρ)):cZ X (st::ss) (Gz X H0 ρ):=fun pins s σ H D I q=>df h gB pins s σ H D I q
theorem gZ{H0:Hp}{f:Str}{fp q:Pos}{Q:Value->Shared->Prop}
  (Gd:aL Φ X.nox sc) (GR:uD X f G) (hcn:W.nsIn X.K mainGlobals n=some (some (.ref C))) (hcp:W.nsIn X.K mainGlobals p=some (some (.ref S))) (hex:gH X.K C S)
  (ha:aa (bj Φ (e::es) sc ρ) (ds,k)) (hf:sc.names.lookup f=some .globalImplicit) (h:G ds=some (n,p,fs)) (I:ak X pins σ H s) (E:aC X.nox ow H σ ρ) (B:ar H0 H)
  (hx:∀H1 s1 e s',ak X pins σ H1 s1->fU X.prog X.w X.stack H1 s1 (KC H0 C fs) e s'->X.xe e s'):wpAny (model X.prog X.w) X.A (eval (.Call (.Name f fp) (e::es) [] q) X.env) Q X.xe s:=by
 rcases GR with GR|GR
 ·obtain⟨k',fa,fd,ps,F,hr,hm,hk,hb,hdb⟩:=GR
  obtain⟨l,ha,hp⟩:=ha
  obtain⟨hst,_⟩:=dh ha hp
  have ad:=lC (e::es) ha hp Gd
  refine F1 F hr (Gd.gl f hf) hm hk hb I hx (ad ow).nox hdb (aF (hst e Qj)) (bD fun x hx=>hst x (Qi _ hx)) ⟨E,fun vs H1 s1 r1=>?_⟩
  exact⟨ds,n,p,fs,C,S,r1.imp fun _ _ _=>True.intro,h,hcn,hcp,hex,fun od H' s' fd=>⟨rfl,(B.trans s1).trans s',fd⟩⟩
 ·obtain⟨k',Cc,fa,fd,ps,hM,F,hr,hm,hns,hc,hb,hdb⟩:=GR
  obtain⟨l,ha,hp⟩:=ha
  obtain⟨hst,_⟩:=dh ha hp
  have ad:=lC (e::es) ha hp Gd
  refine Fk hM F hr (Gd.gl f hf) hm hb I hx (ad ow).nox hdb (aF (hst e Qj)) (bD fun x hx=>hst x (Qi _ hx)) ⟨E,fun vs H1 s1 r1=>?_⟩
  intro x dx hx0 hd0 ne
  exact⟨.obj f [] []::ds,n,p,fs,C,S,aj.cons (by rw[ai];exact⟨rfl,rfl,x,Cc,dx,[],rfl,hns,hc,aB,aj.nil⟩) ((r1.same (gy hx0 hd0)).imp fun _ _ _=>True.intro),(if_pos rfl).trans h,hcn,hcp,hex,fun od H' s' fd=>⟨rfl,((B.trans s1).trans (gy hx0 hd0)).trans s',fd⟩⟩
noncomputable def LV(X:Cx)(C:Addr)(f:Str):Prop:=∃j fI oI fd ps,eR X.K C=some (.ref fI)/\X.K.lookup fI=some oI/\oI.cls=.type "function" /\ W.keepIn X.K (.ref C)=true/\bG X.prog X.w X.K X.mg X.base eh j fI fd ps (yy C f)/\bz (j+1) X.A/\bK X.K fd ps []
theorem KW{H0:Hp}(Gd:aL Φ X.nox sc)(GR:∀f G,Ψ f=some G->uD X f G)(hcn:W.nsIn X.K mainGlobals n=some (some (.ref C)))(hcp:W.nsIn X.K mainGlobals p=some (some (.ref S)))(hex:gH X.K C S)(hmn:X.mg n=some (.ref C))(hin:∀p',Ex n=some (p',none)->eR X.K C=none)(hif:∀p' f,Ex n=some (p',some f)->LV X C f)
  (hr:fs=[]->∀pins σ H s h' a us,ak X pins σ H s->ar H0 H->s.heap.MadeExcOf h' a (.ref C) us->X.xe (.ref a) { s with heap:=h' })
  (hr2:∀f i,fs=[(f,i)]->∀pins σ H1 s1 z dx o vv a0,ar H0 H1->ak X pins σ (az H1 dx (.xd [(f,.int i)])) s1->H1 dx=none->s1.heap.get? z=some o->o.cls=.ref C->o.dict=some dx->o.data=.fields vv->1<vv.size->vv[0]?=some a0->vv[1]?=some .none->(az H1 dx (.xd [(f,.int i)])) z=none->X.s₀.heap.get? z=none->X.xe (.ref z) s1)
  (hx:∀pins σ H1 s1 e s',ak X pins σ H1 s1->fU X.prog X.w X.stack H1 s1 (KC H0 C fs) e s'->X.xe e s'):∀{ss:List Stmt} {ρ:ah} {r:Xs},Rz Φ Ψ Ex sc ss ρ r->r=(n,p,fs)->cZ X ss (Gz X H0 ρ):=by
 intro ss ρ r h
 induction h with
 | raise he hl hd hp =>
  rename_i e d k x p' np cpos pos ss ρ
  intro er
  cases er
  refine fG fun pins s σ H D I ⟨ow,E,hl',B⟩=>?_
  have ed:=(cy he Gd).ed rfl
  obtain⟨l,he',_⟩:=id he
  have ns:=gW he'
  have ad:AD X.nox ρ [e] [d] (kj k 0):=dY ed fo (aF ns)
  refine n4 I Gd.calm (Gd.gl _ hl) hmn hex (hin _ hp) hd (ad ow).nox (bD fun y hy=>by rw[Qu.mp hy];exact ns) (aF ns) ⟨E,fun vs H1 s1 r1=>⟨?_,fun s2 h' a us I2 m=>hr rfl pins σ H1 s2 h' a us I2 (B.sm.trans s1) m⟩⟩
  rw[<- r1.length]
  exact QA (show 1<=bc by decide) cq
 | raiseR he hy ht hl hd hp =>
  rename_i e y t k kd x p' np cpos pos p1 p2 p3 ss ρ
  intro er
  cases er
  refine fG fun pins s σ H D I ⟨ow,E,hl',B⟩=>?_
  have ed:=Hu (p1:=p1) (p2:=p2) (p3:=p3) (kd:=kd) ((cy he Gd).ed rfl) hy ht
  have ns:∀(z:Expr) (p:Pos),Expr.JoinedStr [.FormattedValue e 114 none p1,.Constant (.str t) kd p2] p3 ≠ .Starred z p:=fun z p h=>by cases h
  have ad:AD X.nox ρ [Expr.JoinedStr [.FormattedValue e 114 none p1,.Constant (.str t) kd p2] p3] [.str (reprText y++t)] (kj 0 0):=dY ed fo (aF ns)
  refine n4 I Gd.calm (Gd.gl _ hl) hmn hex (hin _ hp) hd (ad ow).nox (bD fun y hy=>by rw[Qu.mp hy];exact ns) (aF ns) ⟨E,fun vs H1 s1 r1=>⟨?_,fun s2 h' a us I2 m=>hr rfl pins σ H1 s2 h' a us I2 (B.sm.trans s1) m⟩⟩
  rw[<- r1.length]
  exact QA (show 1<=bc by decide) cq
 | raiseM he hi ha ht hl hd hp =>
  rename_i e i a t k kd0 kd x p' np cpos pos p0 p1 p2 p3 ss ρ
  intro er
  cases er
  refine fG fun pins s σ H D I ⟨ow,E,hl',B⟩=>?_
  have ed:=Hv (p0:=p0) (p1:=p1) (p2:=p2) (p3:=p3) (kd0:=kd0) (kd:=kd) ((cy he Gd).ed rfl) hi ha ht
  have ns:∀(z:Expr) (p:Pos),Expr.JoinedStr [.Constant (.str a) kd0 p0,.FormattedValue e (-1) none p1,.Constant (.str t) kd p2] p3 ≠ .Starred z p:=fun z p h=>by cases h
  have ad:AD X.nox ρ [Expr.JoinedStr [.Constant (.str a) kd0 p0,.FormattedValue e (-1) none p1,.Constant (.str t) kd p2] p3] [.str (a++Str.ofString (toString i)++t)] (kj 0 0):=dY ed fo (aF ns)
  refine n4 I Gd.calm (Gd.gl _ hl) hmn hex (hin _ hp) hd (ad ow).nox (bD fun y hy=>by rw[Qu.mp hy];exact ns) (aF ns) ⟨E,fun vs H1 s1 r1=>⟨?_,fun s2 h' a us I2 m=>hr rfl pins σ H1 s2 h' a us I2 (B.sm.trans s1) m⟩⟩
  rw[<- r1.length]
  exact QA (show 1<=bc by decide) cq
 | raiseF he hi hl hd hp =>
  rename_i e i k x p' f np cpos pos ss ρ
  intro er
  cases er
  refine fG fun pins s σ H D I ⟨ow,E,hl',B⟩=>?_
  have ed:=(cy he Gd).ed rfl
  obtain⟨l,he',_⟩:=id he
  have ns:=gW he'
  have ad:AD X.nox ρ [e] [.int i] (kj k 0):=dY ed fo (aF ns)
  obtain⟨j,fI,oI,fd,ps,q1,q2,q3,q4,q5,q6,q7⟩:=hif _ _ hp
  refine yM I Gd.calm (Gd.gl _ hl) hmn hex q1 q2 q3 q4 q5 q6 q7 hd (ad ow).nox (aF ns) ⟨E,fun vs H1 s1 r1=>?_⟩
  obtain⟨v,rfl,rv⟩:=r1.only
  rw[ai]at rv
  subst rv
  exact⟨i,rfl,hi,fun s2 z dx o vv a0 I2 w1 w2 w3 w4 w5 w6 w7 w8 w9 w10=>hr2 f i rfl pins σ H1 s2 z dx o vv a0 (B.sm.trans s1) I2 w1 w2 w3 w4 w5 w6 w7 w8 w9 w10⟩
 | exp ha hf hG h =>
  intro er
  subst er
  refine fG fun pins s σ H D I ⟨ow,E,hl',B⟩=>?_
  exact wpAny_Expr_any (gZ Gd (GR _ _ hG) hcn hcp hex ha hf h I E B.sm (hx pins σ)) I.quiet rfl
 | asn ha hf hG h =>
  intro er
  subst er
  refine fG fun pins s σ H D I ⟨ow,E,hl',B⟩=>?_
  exact wpAny_Assign_Name (gZ Gd (GR _ _ hG) hcn hcp hex ha hf h I E B.sm (hx pins σ)) (gp rfl)
 | ast ha hf hG h =>
  intro er
  subst er
  refine fG fun pins s σ H D I ⟨ow,E,hl',B⟩=>?_
  exact wpAny_Assign_stores (gZ Gd (GR _ _ hG) hcn hcp hex ha hf h I E B.sm (hx pins σ)) gx rfl
 | ret ha hf hG h =>
  intro er
  subst er
  refine fG fun pins s σ H D I ⟨ow,E,hl',B⟩=>?_
  exact wpAny_Return_some (gZ Gd (GR _ _ hG) hcn hcp hex ha hf h I E B.sm (hx pins σ))
 | iff hc h ih =>
  rename_i c a b ss t k pos ρ r
  intro er
  refine fG fun pins s σ H D I ⟨ow,E,hl',B⟩=>?_
  have td:=((cy hc Gd).td rfl t rfl ow).nox
  refine wpAny_If (aN (td pins s σ H (fun b H'=>b=t/\ar H H') I ⟨E,fun H' sm=>⟨rfl,sm⟩⟩) fun d s1 ⟨H1,I1,e,sm⟩=>?_)
  subst e
  cases d with
  | true=>exact ih er pins s1 σ H1 _ I1 ⟨ow,E.same sm,hl',B.same sm⟩
  | false=>exact ih er pins s1 σ H1 _ I1 ⟨ow,E.same sm,hl',B.same sm⟩
 | step hs h ih =>
  rename_i st ss ρ ρ' r
  intro er
  have sd:=((jw Φ _).s st (H0:=H0) (QV _) hs Gd RX)
  intro pins s σ H D I ⟨ow,E,hl',B⟩
  exact df (L2.PS.nox sd) (ih er) pins s σ H D I ⟨ow,E,hl',B,fun ow' σ' H' E' hl2 k=>⟨ow',E',hl2,B.keep k⟩⟩
noncomputable def PR(P:Program)(w:World)(K:W.Frag)(mg:Str->Option Value)(base:Heap)(k:Nat)(g:Str)(G:List D->Option Xs):Prop:=∃f fd ps,bG P w K mg base (fU P w) k f fd ps (yz K G)/\mg g=some (.ref f)/\W.keepIn K (.ref f)=true/\bK K fd ps []/\(g==("__debug__" : Str))=false
noncomputable def Qf(P:Program)(w:World)(K:W.Frag)(mg:Str->Option Value)(base:Heap)(k:Nat)(g:Str)(G:List D->Option Xs):Prop:=∃j C f fd ps,j+1<=k/\Mk K C f/\bG P w K mg base (fU P w) j f fd ps (yz K (GW g G))/\mg g=some (.ref C)/\W.nsIn K mainGlobals g=some (some (.ref C))/\fv K C/\bK K fd ps []/\(g==("__debug__" : Str))=false
noncomputable def kE(P:Program)(w:World)(K:W.Frag)(mg:Str->Option Value)(base:Heap)(k:Nat)(g:Str)(G:List D->Option Xs):Prop:=PR P w K mg base k g G\/Qf P w K mg base k g G
theorem kE.mono{j:Nat}(h:kE P w K mg base j g G)(hjk:j<=k):kE P w K mg base k g G:=by
 rcases h with⟨f,fd,ps,h1,h2⟩|⟨i,C,f,fd,ps,h0,h1⟩
 ·exact .inl ⟨f,fd,ps,h1.mono hjk,h2⟩
 ·exact .inr ⟨i,C,f,fd,ps,QA h0 hjk,h1⟩
theorem kE.at(h:kE X.prog X.w X.K X.mg X.base k g G)(hr:bz k X.A):uD X g G:=by
 rcases h with⟨f',fd',ps',a1,a2,a3,a4,a5⟩|⟨j,C',f',fd',ps',a0,a1,a2,a3,a4,a5,a6,a7⟩
 ·exact .inl ⟨k,f',fd',ps',a1,hr,a2,a3,a4,a5⟩
 ·exact .inr ⟨j,C',f',fd',ps',a1,a2,hr.mono a0,a3,a4,a5,a6,a7⟩
noncomputable def KB(P:Program)(w:World)(K:W.Frag)(mg:Str->Option Value)(base:Heap)(k:Nat)(Ex:Str->Option (Str×Option Str)):Prop:=∀c C,W.nsIn K mainGlobals c=some (some (.ref C))->(∀p,Ex c=some (p,none)->eR K C=none) /\
 ∀p f,Ex c=some (p,some f)->∃j fI oI fd ps,j+1<=k/\eR K C=some (.ref fI)/\K.lookup fI=some oI/\oI.cls=.type "function" /\ W.keepIn K (.ref C)=true/\bG P w K mg base eh j fI fd ps (yy C f)/\bK K fd ps []
theorem tP(Fn:nQ K g qual st f fd)
  (S:aV (aJ (ac st)) ps (ac st)) (hΦ:uC P w K mg base k Φ) (hΨ:∀g G,Ψ g=some G->kE P w K mg base k g G) (hmg:∀n C,W.nsIn K mainGlobals n=some (some (.ref C))->mg n=some (.ref C)) (hEI:KB P w K mg base k Ex)
  (hrun:∀ds r,G ds=some r->ds.length=ps.length/\Rz Φ Ψ Ex (ac st) (am st) (d5 ps ds) r):bG P w K mg base (fU P w) (k+1) f fd ps (yz K G):=by
 obtain⟨oc,od,kV,doc,pm,an,cdv,ct,osl,rfl,lk,hcd⟩:=Fn.ex
 refine Di lk hcd S (fun vs H Q E h=>?_) fun A outer s H vs Q E hr hsp=>?_
 ·obtain⟨ds,n,p,fs,C,S',h1,h2,_⟩:=h
  rw[<- h1.length];exact(hrun ds _ h2).1
 ·obtain⟨ds,n,p,fs,C,S',h1,h2,h3,h4,h5,h6⟩:=hsp
  obtain⟨hl,hz⟩:=hrun ds _ h2
  have Gd:=mU (outer:=outer) (H:=H) (E:=E) S hΦ hr
  obtain⟨E0,hsl⟩:=pF (P:=P) (w:=w) (mg:=mg) (base:=base) (qual:=qual) (f:=f) (cdv:=cdv) (A:=A) (outer:=outer) (s:=s) (E:=E) S h1 hl
  have B0:bi H (fun _=>none) H:=fun a o h=>⟨h,rfl⟩
  refine⟨_,KW (X:=iE (fU P w) P w K mg base (aJ (ac st)) qual (ac st) f cdv A outer s H E) (H0:=H) (C:=C) (S:=S') Gd (fun g' G' hG=>?_) h3 h4 h5 (hmg n C h3) (hEI n C h3).1 (fun p' f' hp'=>?_) (fun hfs pins σ H1 s1 h' a us I sm m=>?_) (fun f' i' hfs pins σ H1 s1 z dx o vv a0 sm I w1 w2 w3 w4 w5 w6 w7 w8 w9 w10=>?_) (fun pins σ H1 s1 e s' I c=>?_) hz rfl,fun _=>none,E0,hsl,B0⟩
  ·exact(hΨ g' G' hG).at hr
  ·obtain⟨j,fI,oI,fd',ps',q0,q1,q2,q3,q4,q5,q6⟩:=(hEI n C h3).2 p' f' hp'
   exact⟨j,fI,oI,fd',ps',q1,q2,q3,q4,q5,hr.mono q0,q6⟩
  ·subst hfs
   exact uS I rfl rfl m (h6 none H1 sm tS.nil)
  ·subst hfs
   exact lj I rfl rfl w2 w3 w4 w5 w6 w7 w8 w10 w9 (h6 _ _ (sm.trans (dH w1)) (fun f i z=>by cases z;exact⟨dx,rfl,aB⟩))
  ·refine xq I rfl rfl ?_
   obtain⟨x,C',T,od,H',rfl,z1,z2,z3,z4,z5,z6,z7,z8,z9,⟨e1,e2,e3⟩⟩:=c
   cases e1
   exact⟨x,C,T,od,H',rfl,z1,z2,z3,z4,z5,z6,z7,z8,z9,h6 od H' e2 e3⟩
noncomputable def tT(ρ:ah)(n y c B:Str)(fs:List (Str×Int)):ah:=fun z=>if z=n then none else if z=y then some (.xc c (some (B,fs)),true)else ρ z
inductive Rt(Φ:Fx)(Ψ:Str->Option (List D->Option Xs))(sc:Scope):List Stmt->ah->Xs->Prop where
 | exp {f:Str} {G:List D->Option Xs} {e:Expr} {es:List Expr} {p q pos:Pos} {ds:List D} {k:Nat} {ρ:ah} {r:Xs} (ha:aa (bj Φ (e::es) sc ρ) (ds,k)) (hf:sc.names.lookup f=some .globalImplicit) (hG:Ψ f=some G) (h:G ds=some r):Rt Φ Ψ sc [.Expr (.Call (.Name f p) (e::es) [] q) pos] ρ r
 | asn {f:Str} {G:List D->Option Xs} {x:Str} {e:Expr} {es:List Expr} {p q pos px:Pos} {ds:List D} {k:Nat} {ρ:ah} {r:Xs} (ha:aa (bj Φ (e::es) sc ρ) (ds,k)) (hf:sc.names.lookup f=some .globalImplicit) (hG:Ψ f=some G) (h:G ds=some r):Rt Φ Ψ sc [.Assign [.Name x px] (.Call (.Name f p) (e::es) [] q) pos] ρ r
 | iff {c:Expr} {a b:List Stmt} {t:Bool} {k:Nat} {pos:Pos} {ρ:ah} {r:Xs} (hc:aa (ax Φ c false sc ρ) (.bl t,k)) (h:Rt Φ Ψ sc (cond t a b) ρ r):Rt Φ Ψ sc [.If c a b pos] ρ r
theorem kH{M:Model}{A:Around}{E:Value->Shared->Prop}{env:Env}(h:wpAny M A (exec st env) Q E s):wpAny M A (execs [st] env) Q E s :=
 wpAny_execs_cons (aN h fun f s1 q=>by
  cases f with
  | next=>exact So q
  | ret v=>exact q
  | brk=>exact q
  | cont=>exact q)
theorem KY{H0:Hp}(Gd:aL Φ X.nox sc)(GR:∀f G,Ψ f=some G->uD X f G)(hcn:W.nsIn X.K mainGlobals n=some (some (.ref C)))(hcp:W.nsIn X.K mainGlobals p=some (some (.ref S)))(hex:gH X.K C S)
  (hx:∀H1 s1 e s',ak X pins σ H1 s1->fU X.prog X.w X.stack H1 s1 (KC H0 C fs) e s'->X.xe e s'):∀{ss:List Stmt} {ρ:ah} {r:Xs},Rt Φ Ψ sc ss ρ r->r=(n,p,fs)->∀{s:Shared} {H:Hp},ak X pins σ H s->aC X.nox ow H σ ρ->ar H0 H->wpAny (model X.prog X.w) X.A (execs ss X.env) Q X.xe s:=by
 intro ss ρ r h
 induction h with
 | exp ha hf hG h =>
  intro er s H I E B
  subst er
  exact kH (wpAny_Expr_any (gZ Gd (GR _ _ hG) hcn hcp hex ha hf h I E B hx) I.quiet rfl)
 | asn ha hf hG h =>
  intro er s H I E B
  subst er
  exact kH (wpAny_Assign_Name (gZ Gd (GR _ _ hG) hcn hcp hex ha hf h I E B hx) (gp rfl))
 | iff hc h ih =>
  rename_i c a b t k pos ρ r
  intro er s H I E B
  have td:=((cy hc Gd).td rfl t rfl ow).nox
  refine kH (wpAny_If (aN (td pins s σ H (fun b H'=>b=t/\ar H H') I ⟨E,fun H' sm=>⟨rfl,sm⟩⟩) fun d s1 ⟨H1,I1,e,sm⟩=>?_))
  subst e
  cases d with
  | true=>exact ih er I1 (E.same sm) (B.trans sm)
  | false=>exact ih er I1 (E.same sm) (B.trans sm)
theorem FL{x:Addr}{od:Option Addr}{ie iy:Nat}(E:aC X ow H σ ρ)(sm:ar H H')(nx:H' x=none)(hie:X.N[ie]?=some n)(hiy:X.N[iy]?=some y)(hv:eZ X.env.scope y)(hne:iy≠ie)(hl:iy<σ.length)
  (hcn:W.nsIn X.K mainGlobals c=some (some (.ref C))) (hcp:W.nsIn X.K mainGlobals B=some (some (.ref S))) (hex:gH X.K C S) (hfd:tS H' od fs) (hfo:∀f i,fs=[(f,i)]->uE X.K C f) :
  aC X ow (az H' x (kC x C od)) (((σ.set ie (some (.ref x))).set iy (some (.ref x))).set ie none) (tT ρ n y c B fs):=by
 have sm':ar H (az H' x (kC x C od)):=sm.trans fun a o h=>by rw[aq (aU h nx)];exact h
 refine⟨fun z d o h=>?_,(E.same sm').own⟩
 unfold tT at h
 by_cases hz:z=n
 ·rw[if_pos hz]at h;cases h
 ·rw[if_neg hz]at h
  by_cases hy:z=y
  ·rw[if_pos hy]at h
   cases h
   refine⟨iy,.ref x,by rw[hiy,hy],by rw[hy];exact hv,?_,?_⟩
   ·rw[Q5 (Rv hne),RQ (by rw[Ri];exact hl)]
   ·rw[ai]
    refine⟨x,C,S,od,rfl,hcn,hcp,hex,aB,fun f i z=>?_,hfo⟩
    obtain⟨dx,e1,e2⟩:=hfd f i z
    exact⟨dx,e1,by rw[aq (aU e2 nx)];exact e2⟩
  ·rw[if_neg hy]at h
   obtain⟨i,v,e1,e2,e3,e4⟩:=(E.same sm').get z d o h
   have n1:i≠ie:=fun q=>hz (by rw[q,hie]at e1;exact(QX e1).symm)
   have n2:i≠iy:=fun q=>hy (by rw[q,hiy]at e1;exact(QX e1).symm)
   exact⟨i,v,e1,e2,by rw[Q5 (Rv n1),Q5 (Rv n2),Q5 (Rv n1)];exact e3,e4⟩
theorem GY{H0:Hp}(Gd:aL Φ Y.nox sc)(GR:∀f G,Ψ f=some G->uD Y.nox f G)(hst:Y.stack=Y.env::Y.outer)
  (hcn:W.nsIn Y.K mainGlobals c=some (some (.ref C))) (hcp:W.nsIn Y.K mainGlobals B=some (some (.ref S))) (hex:gH Y.K C S) (hexm:W.exmOne Y.K (.ref C) (.ref S)=some true) (hmB:Y.mg B=some (.ref S))
  (hB:sc.names.lookup B=some .globalImplicit) (hdb:(B==("__debug__" : Str))=false) (hn:sc.names.lookup n=some .local) (hy:sc.names.lookup y=some .local) (hny:n≠y) (hd1:(n==("__debug__" : Str))=false) (hd2:(n==("__classdict__" : Str))=false)
  (hfo:∀f i,fs=[(f,i)]->uE Y.K C f) (h:Rt Φ Ψ sc tb ρ (c,B,fs)):SD Y.nox H0 ρ (.Try tb [.ExceptHandler (some (.Name B bp)) (some n) [.Assign [.Name y p1] (.Name n p2) p3] hpos] [] [] tpos) (.nx (tT ρ n y c B fs)):=by
 intro pins s σ H D I ⟨ow,E,hl,B0,q⟩
 have lk:∀z,sc.names.lookup z=some .local->∃i,Y.N[i]?=some z:=fun z hz=>by
  have:=Gd.ns z (by unfold bX;rw[hz];rfl)
  obtain⟨i,hi,e⟩:=List.getElem_of_mem this
  exact⟨i,by rw[QE hi];exact Rq some e⟩
 obtain⟨ie,hie⟩:=lk n hn
 obtain⟨iy,hiy⟩:=lk y hy
 have hne:iy≠ie:=fun z=>hny (by rw[z,hie]at hiy;exact QX hiy)
 refine wpAny_Try_except ?_
 refine KY (X:=Y.nox.wish fun e s₁=>wpAny (model Y.prog Y.w) Y.A (noteFrame e Y.env) (fun _ s₂=>wpAny (model Y.prog Y.w) Y.A (setFlight e none) (fun _ s₃=>wpAny (model Y.prog Y.w) Y.A (handleBy e Y.env [.ExceptHandler (some (.Name B bp)) (some n) [.Assign [.Name y p1] (.Name n p2) p3] hpos]) (SP Y.nox pins D) Y.nox.xe s₃) Y.nox.xe s₂) Y.nox.xe s₁) (H0:=H) (n:=c) (p:=B) Gd GR hcn hcp hex (fun H1 s1 e s' I1 c1=>?_) h rfl (I.wish _) E (ar.refl _)
 refine JX (X:=Y.nox) (ie:=ie) (iy:=iy) (C0:=S) I1.unwish hst Gd.nd c1 (Gd.gl B hB) hmB hdb hie (Gd.lc n hn) hiy (Gd.lc y hy) hne hd1 hd2 fun C' od H' ⟨e1,sm,hfd⟩=>?_
 cases e1
 refine⟨hexm,fun x nx=>?_⟩
 have hl2:iy<σ.length:=by rw[hl];exact(Qz.mp hiy).1
 refine q ow _ _ (FL (X:=Y.nox) E sm nx hie hiy (.inl (Gd.lc y hy)) hne hl2 hcn hcp hex hfd hfo) (by simpa using hl) (aI.same (sm.trans fun a o h=>by rw[aq (aU h nx)];exact h))
theorem Ee{H0:Hp}{hd:ExceptHandler}{ρ2:ah}(Gd:aL Φ Y.nox sc)(h:aa (aA Φ tb sc ρ) (.nx ρ2)):SD Y.nox H0 ρ (.Try tb [hd] [] [] tpos) (.nx ρ2):=by
 intro pins s σ H D I hq
 refine wpAny_Try_except ?_
 refine Rb (eF tb (H0:=H0) h Gd RX pins s σ H D I hq) (fun f s1 q=>?_) (fun _ _ z=>z.elim)
 cases f with
 | next=>exact So q
 | ret v=>exact q
 | brk=>exact q
 | cont=>exact q
noncomputable def uw(Φ:Fx)(Ψ:Str->Option (List D->Option Xs))(Ex:Str->Option (Str×Option Str))(sc:Scope)(ps:List Str)(pre tb post:List Stmt)(B n y:Str)(ds:List D)(r:D):Prop :=
 ds.length=ps.length/\∃ρ1,aa (aA Φ pre sc (d5 ps ds)) (.nx ρ1)/\((∃ρ2,aa (aA Φ tb sc ρ1) (.nx ρ2)/\aa (aA Φ post sc ρ2) (.rt r))\/∃c o fs,Ex c=some (B,o)/\(∀f i,fs=[(f,i)]->o=some f)/\Rt Φ Ψ sc tb ρ1 (c,B,fs)/\aa (aA Φ post sc (tT ρ1 n y c B fs)) (.rt r))
noncomputable def Cq(K:W.Frag)(Ex:Str->Option (Str×Option Str)):Prop:=∀c p o,Ex c=some (p,o)->∃C S,W.nsIn K mainGlobals c=some (some (.ref C))/\W.nsIn K mainGlobals p=some (some (.ref S))/\gH K C S/\W.exmOne K (.ref C) (.ref S)=some true/\∀f,o=some f->uE K C f
theorem IS{F:List D->Rs D}(Fn:nQ K g qual st f fd)
  (S:aV (aJ (ac st)) ps (ac st)) (hΦ:uC P w K mg base k Φ) (hΨ:∀g G,Ψ g=some G->kE P w K mg base k g G) (hmg:∀n C,W.nsIn K mainGlobals n=some (some (.ref C))->mg n=some (.ref C)) (hEx:Cq K Ex)
  (hb:am st=pre ++ .Try tb [.ExceptHandler (some (.Name B bp)) (some n) [.Assign [.Name y p1] (.Name n p2) p3] hpos] [] [] tpos::post)
  (hB:(ac st).names.lookup B=some .globalImplicit) (hdb:(B==("__debug__" : Str))=false) (hn:(ac st).names.lookup n=some .local) (hy:(ac st).names.lookup y=some .local) (hny:n≠y) (hd1:(n==("__debug__" : Str))=false) (hd2:(n==("__classdict__" : Str))=false)
  (hrun:∀ds r,aa (F ds) r->uw Φ Ψ Ex (ac st) ps pre tb post B n y ds r):bG P w K mg base eh (k+1) f fd ps (km K F):=by
 refine Fn.ok S (fun vs H Q E h=>?_) (fun cdv A outer s H vs Q E hr h=>?_)
 ·obtain⟨ds,r,l,h1,h2,hp,_⟩:=h
  rw[<- h1.length];exact(hrun ds r ⟨l,h2,hp⟩).1
 ·obtain⟨ds,r,l,h1,h2,hp,qq⟩:=h
  obtain⟨hl,ρ1,h3,h4⟩:=hrun ds r ⟨l,h2,hp⟩
  have G:=mU (outer:=outer) (H:=H) (E:=E) S hΦ hr
  obtain⟨E0,hsl⟩:=pF (P:=P) (w:=w) (mg:=mg) (base:=base) (qual:=qual) (f:=f) (cdv:=cdv) (A:=A) (outer:=outer) (s:=s) (E:=E) S h1 hl
  have B0:bi H (fun _=>none) H:=fun a o h=>⟨h,rfl⟩
  have key:cX (iE eh P w K mg base (aJ (ac st)) qual (ac st) f cdv A outer s H E).nox H ρ1 (.Try tb [.ExceptHandler (some (.Name B bp)) (some n) [.Assign [.Name y p1] (.Name n p2) p3] hpos] [] [] tpos::post) (.rt r):=by
   rcases h4 with⟨ρ2,h5,h6⟩|⟨c,o,fs,hc,hco,h5,h6⟩
   ·exact dG (Ee G h5) (eF post (H0:=H) h6 G RX)
   ·obtain⟨C,S',c1,c2,c3,c4,c5⟩:=hEx c B o hc
    refine dG (GY (Y:=iE eh P w K mg base (aJ (ac st)) qual (ac st) f cdv A outer s H E) (Ψ:=Ψ) G (fun g' G' hG=>?_) rfl c1 c2 c3 c4 (hmg B S' c2) hB hdb hn hy hny hd1 hd2 (fun f i z=>c5 f (hco f i z)) h5) (eF post (H0:=H) h6 G RX)
    exact(hΨ g' G' hG).at hr
  rw[hb]
  exact⟨_,vE (H0:=H) G RX key h3,fun _=>none,E0,hsl,B0,fun ow' σ' H' E' hl' B'=>⟨ow',E',hl',B',fun v H2 s2 r2=>qq v H2 s2 r2⟩⟩
noncomputable def pT(n p:Str):List D->Option Bool
 | []=>some false
 | .xc m none::l=>(pT n p l).map fun b=>(decide (m=n) || decide (m=p)) || b
 | _=>none
noncomputable def LX(n p:Str):D->Option Bool
 | .xc m none=>some (decide (m=n) || decide (m=p))
 | .typ T=>if T = "ValueError" then some true else none
 | .tup cs=>pT n p cs
 | _=>none
noncomputable def Ca(ds:List D):R1 :=
 match ds with
 | [.xc n (some (p,_)),c]=>(match LX n p c with|some b=>.ok (.bl b,0) []|none=>.st)
 | ds=>Cb ds
theorem C7{K:W.Frag}{H:Hp}{P:aW}{n p:Str}{C S:Addr}(hn:W.nsIn K mainGlobals n=some (some (.ref C)))(hp:W.nsIn K mainGlobals p=some (some (.ref S)))(e:gH K C S):∀{cs:List D} {vs:List V} {us:List Value} {b:Bool},pT n p cs=some b->aj K H P cs vs->aD vs us->W.kitAny K (.ref C) us=some b
 | [],vs,us,b,h,r,q=>by
  rw[pT]at h;cases h
  rw[aj]at r;subst r;cases q;rfl
 | .xc m none::l,vs,us,b,h,r,q=>by
  rw[pT]at h
  cases hl:pT n p l with
  | none=>rw[hl]at h;cases h
  | some b' =>
   rw[hl]at h;cases h
   rw[aj]at r
   obtain⟨v,vr,rfl,r1,r2⟩:=r
   rw[ai]at r1
   obtain⟨Cm,rfl,hm,hx⟩:=r1
   cases q with
   | cons q1 q2 =>
    cases q1
    have k1:=zu e hn hp hm hx
    have k2:=C7 hn hp e hl r2 q2
    show(match W.kitOne K (.ref C) (.ref Cm)with|some true=>some true|some false=>W.kitAny K (.ref C) _|none=>none)=_
    rw[k1]
    cases hd:(decide (m=n) || decide (m=p))with
    | true=>rfl
    | false=>exact k2
theorem Ga:fV "isinstance" Ca:=by
 refine⟨by decide +kernel,by decide +kernel,by decide +kernel,rfl,fun X ds z l o hc h hp=>?_⟩
 unfold Ca at h
 split at h
 ·rename_i n p fs c
  split at h
  ·rename_i b hb
   cases h
   refine .inl ⟨"isinstance", by decide +kernel,?_⟩
   have cr:eg X (.builtin "isinstance") (fun xs H Q => ∃v w P,xs=[v,w]/\ai X.K H P (.xc n (some (p,fs))) v/\ai X.K H P c w/\Q (.bl b) H):=by
    intro pins s σ H xs us Q I r hh
    obtain⟨v,w,P,rfl,r1,r2,q⟩:=hh
    obtain⟨u,u2,rfl,ru,ru2⟩:=rm r
    rw[ai]at r1
    obtain⟨x,C,S,od,rfl,h1,h2,h3,h4,_,_⟩:=r1
    cases ru
    have xo:Kq x C s.heap:=let ⟨o,_,a,b,_⟩:=(show aT X.prog X.w H s.heap x (kC x C od)from I.hok x _ h4).1;⟨o,a,b⟩
    unfold LX at hb
    split at hb
    ·rename_i m
     cases hb
     rw[ai]at r2
     obtain⟨Cm,rfl,hm,hx⟩:=r2
     cases ru2
     exact Rk (oh h3) I.kIn xo (zu h3 h1 h2 hm hx) (fun z=>nomatch z) fun tk=>⟨.bl _,H,I.tok tk,rfl,q⟩
    ·rename_i T
     split at hb
     ·rename_i hT
      subst hT
      cases hb
      rw[ai]at r2
      subst r2
      cases ru2
      exact Rk (oh h3) I.kIn xo (Io h3) (fun z=>nomatch z) fun tk=>⟨.bl _,H,I.tok tk,rfl,q⟩
     ·cases hb
    ·rename_i cs
     rw[ai]at r2
     obtain⟨a,vs,rfl,sq,rl⟩:=r2
     cases ru2
     obtain⟨its,rv,⟨⟨c0,dd,data,sl⟩,e1,e2,n0,e3⟩,_⟩:=I.tuple sq
     simp only at e2 e3
     subst e2 e3
     exact W.kia_tup (oh h3) I.kIn xo e1 (C7 h1 h2 h3 hb rl rv) (fun z=>nomatch z) fun tk=>⟨.bl _,H,I.tok tk,rfl,q⟩
    ·cases hb
   refine⟨_,cr,fun ow H0 H2 vs P Q o s rx q=>?_⟩
   rw[aj]at rx
   obtain⟨v,r,rfl,r1,r2⟩:=rx
   obtain⟨w,rfl,r3⟩:=r2.only
   exact⟨v,w,P,rfl,r1,r3,q _ _ (ar.refl _) (by rw[ai])⟩
  ·cases h
 ·exact Gb.2.2.2.2 X _ z l o hc h hp
theorem fk(hm:mg x=some (.ref C))(hn:W.nsIn K mainGlobals x=some (some (.ref C)))(hx:Dw K x C):dk mg K (x,.xc x none) :=
 ⟨.ref C,.ref C,hm,rfl,fun H P=>by rw[ai];exact⟨C,rfl,hn,hx⟩⟩
noncomputable def fx(K:W.Frag)(n:Str)(C:Addr):Bool :=
 match K.lookup mainGlobals with
 | some ⟨_,_,.dict es _,_⟩=>es.toList.all fun e => !(e.val == .ref C) || (match e.key with | .str m _=>decide (m=n)|_=>false)
 | _=>false
noncomputable def gK(K:W.Frag)(C:Addr):Bool :=
 match K.lookup C with
 | some ⟨.type t,_,.cls _,_⟩=>t == "type"
 | _=>false
theorem ff(h1:fx K n C=true)(h2:gK K C=true):Dw K n C:=by
 unfold gK at h2
 split at h2
 ·rename_i t d cd sl e
  have et:t = "type" := by simpa using h2
  subst et
  refine⟨?_,fun m hm=>?_,⟨_,e,rfl⟩⟩
  ·have c1:W.clsIn K C=some cd:=by unfold W.clsIn;rw[e]
   have c2:W.typeIn K (.ref C)=some (.type "type"):=by
    show Option.map (fun x=>x.cls) (List.lookup C K)=_
    rw[e];rfl
   rw[c1,c2];rfl
  ·unfold fx at h1
   unfold W.nsIn at hm
   split at h1
   ·rename_i a1 a2 es a3 a4 e1
    rw[e1]at hm
    dsimp only at hm
    split at hm
    ·rename_i x hf
     have hv:x.val=.ref C:=QX (QX hm)
     have hx:=List.mem_of_find?_eq_some hf
     have hk:x.key.isStr m=true:=List.find?_some (p:=fun x:DictEntry=>x.key.isStr m) hf
     have:=QT.mp h1 x hx
     rw[hv,show((Value.ref C==Value.ref C):Bool)=true by simp,Bool.not_true,Bool.false_or]at this
     cases hkk:x.key with
     | str k t =>
      rw[hkk]at this hk
      have a1:k=n:=Q9 this
      have a2:k=m:=by simpa [Value.isStr]using hk
      rw[<- a2,a1]
     | _=>rw[hkk]at this;cases this
    ·split at hm<;>cases hm
   ·cases h1
 ·cases h2
noncomputable abbrev Dv(K:W.Frag):Str×Str×Option Str->Prop:=fun q => ∃C S,W.nsIn K mainGlobals q.1=some (some (.ref C))/\W.nsIn K mainGlobals q.2.1=some (some (.ref S))/\gH K C S/\W.exmOne K (.ref C) (.ref S)=some true/\∀f,q.2.2=some f->uE K C f
theorem FI(h:∀q∈l,Dv K q):Cq K (fun c=>l.lookup c):=fun c p o e=>h (c,p,o) (QH e)
noncomputable abbrev Du(P:Program)(w:World)(K:W.Frag)(mg:Str->Option Value)(base:Heap)(k:Nat):Str×Str×Option Str->Prop:=fun q => ∃C,W.nsIn K mainGlobals q.1=some (some (.ref C))/\(q.2.2=none->eR K C=none) /\
 ∀f,q.2.2=some f->∃j fI oI fd ps,j+1<=k/\eR K C=some (.ref fI)/\K.lookup fI=some oI/\oI.cls=.type "function" /\ W.keepIn K (.ref C)=true/\bG P w K mg base eh j fI fd ps (yy C f)/\bK K fd ps []
theorem IZ(h:∀q∈l,Du P w K mg base k q):KB P w K mg base k (fun c=>l.lookup c):=fun c C hc =>
 ⟨fun p e=>by
  obtain⟨C',h1,h2,_⟩:=h (c,p,none) (QH e)
  rw[hc]at h1;cases h1;exact h2 rfl,fun p f e=>by
  obtain⟨C',h1,_,h3⟩:=h (c,p,some f) (QH e)
  rw[hc]at h1;cases h1;exact h3 f rfl⟩
noncomputable abbrev DF(P:Program)(w:World)(K:W.Frag)(mg:Str->Option Value)(base:Heap)(k:Nat):Str×(List D->Option Xs)->Prop:=fun q=>kE P w K mg base k q.1 q.2
theorem oY{l:List (Str×(List D->Option Xs))}(h:∀q∈l,DF P w K mg base k q):∀g G,(fun g:Str=>l.lookup g) g=some G->kE P w K mg base k g G:=fun g G e=>h (g,G) (QH e)
noncomputable def Gk:Stmt->List Stmt
 | .Try b _ _ _ _=>b
 | _=>[]
theorem yj{r:D}{ρ1:ah}{o:Option Str}(h1:aa (aA Φ pre sc (d5 ps ds)) (.nx ρ1))(h2:Rt Φ Ψ sc tb ρ1 (c,B,fs))(h3:aa (aA Φ post sc (tT ρ1 n y c B fs)) (.rt r))(hc:Ex c=some (B,o):=by rfl)(ho:∀f i,fs=[(f,i)]->o=some f:=by(intro f i z;cases z<;>rfl))(hl:ds.length=ps.length:=by rfl):uw Φ Ψ Ex sc ps pre tb post B n y ds r:=⟨hl,ρ1,h1,.inr ⟨c,o,fs,hc,ho,h2,h3⟩⟩
end Sp
namespace K
open PySem L2 Sp Qm
variable{x y:Str}
section
variable{Φ:Fx}{sc:Scope}{ρ ρ1:ah}{ss:List Stmt}
noncomputable def iZ(y:Str):Bool:=!decide (y=Str.ofString "left") && !decide (y=Str.ofString "right")&&(decide ((reprText y).length<=1000)&&PyData.strOk y)
theorem BD(h:iZ y=true):y≠Str.ofString "left" /\ y≠Str.ofString "right" /\ (reprText y).length<=1000/\PyData.strOk y=true:=by
 unfold iZ at h
 simp only[Qx]at h
 exact⟨by simpa using h.1.1,by simpa using h.1.2,Q9 h.2.1,h.2.2⟩
theorem FJ(x y:Str):fj (.str x) (.str y)=decide (x=y):=by
 show((x==y):Bool)=_
 by_cases h:x=y
 ·subst h;simp
 ·rw[QD h];simpa using h
theorem vJ(h:x≠y):(!fj (.str x) (.str y))=true:=by rw[FJ,QD h];rfl
theorem zT(h:PyData.strOk x=true)(g:PyData.strOk y=true):iD (.str x) (.str y)=true:=BW h g
noncomputable abbrev kl:Xs:=(Str.ofString "NoSide", Str.ofString "SpaceError", [])
end

theorem Hg:∀p∈fq,1<p/\p<=97:=by decide
end K
namespace K
open PySem L2 Sp
variable{y:Str}{N a b o w:Int}{ρ:ah}{f1 f2 f3 s:Bool}{q:Qd}{n:Nat}{L:List D}{mg:Str->Option Value}{l:W.OpenLaw}{loose:List Str}{XP:(Str->Option Value)->Heap->Prop}{d:DefRec}
noncomputable def al(i:Nat):Stmt:=PySem.Challenge.pw_spaceturns_k16_chosen_ones.main.body.getD i (.Pass ⟨0,0,0,0⟩)
local macro_rules | `(tactic| walk_at "leaf") => `(tactic| first | ((with_reducible apply Fd);decide) | ((with_reducible apply cR);decide) | ((with_reducible apply wb) <;> decide) | ((with_reducible apply bR) <;> (with_reducible assumption)) | ((with_reducible apply EG) <;> decide) | ((with_reducible refine Eq.trans ?_ rfl);exact rfl) | ((with_reducible apply cel_bits);(with_reducible assumption)) | ((with_reducible apply okT_id);assumption) | exact Si rfl|exact Or.inl rfl|exact Or.inr rfl|exact Or.inr (Ql 1) | exact Or.inr (QC 1) | decide|decide +kernel)
local macro_rules | `(tactic| walk_at "ob") => `(tactic| (repeat' (first|with_reducible exact True.intro|with_reducible exact Cf|with_reducible apply xQ|with_reducible apply Ce|with_reducible apply uZ|with_reducible assumption | ((with_reducible apply eU);intro hgd) | walk_at "leaf")))
local macro_rules | `(∅) => `(bO rfl (by walk_at "ob"))
noncomputable def BL:List (Str×(List D->R1)):=[("len", xO),("tuple", uk),("sum", B9),("isinstance", Ca),("sorted", dS),("int", Cd)]
noncomputable def IL:List (Str×(List D->Nat->R1)):=[("range", mP),("reversed", xx)]
noncomputable def ML:List (Str×(D->List D->R1)):=[]
noncomputable def TL:List (Str×(List D->List D->Nat->Rs (List D))):=[("append", mK),("extend", qj)]
noncomputable def EX:Str->Option (Str×Option Str):=fun c=>([("NoPrime", "SpaceError", none),("NoSide", "SpaceError", none),("TooGreat", "SpaceError", none)]:List (Str×Str×Option Str)).lookup c
noncomputable def Ci:Fx:=Tb [] [] BL IL ML TL dy
noncomputable def Cl:List D->Rs D:=du Ci (ac (al 28)) ["_law_script", "_law_k"] (am (al 28))
noncomputable def oE:List D->Rs D:=vy dL dI fun l k=>.ok (.int (wd l k)) [CQ l]
theorem u8:∀ds r,aa (oE ds) r->aa (Cl ds) r:=by
 intro ds r h
 obtain⟨l,k,rfl,h⟩:=mw h
 obtain⟨rfl,⟨ns,rfl⟩,_⟩:=eL h
 refine iN (ej 1 (bO rfl True.intro) (mv (bO rfl True.intro) (fun ht=>?_) (fun hf=>?_)))
 ·have hl:(ns.map D.int).length=ns.length:=by simp
  have hp:(0:Int)<((ns.map D.int).length:Nat):=by simpa using ht
  have hi:L2.atI (ns.map D.int) (k.fmod (((ns.map D.int).length:Nat):Int))=some (.int (lF ns k)):=by
   rw[hl]at hp⊢
   have hne:ns≠[]:=by intro z;subst z;simp at hp
   unfold lF
   rw[if_neg hne]
   exact Ge (Rr _ hp) (RU _ hp)
  refine bA (dc (d:=.int (lF ns k)) (iR (bO rfl True.intro) (bO rfl ⟨Int.ne_of_gt hp,True.intro⟩) rfl hi)) ?_
  refine ∅.eq ?_
  unfold wd Dq;rw[wD]
 ·have hp:ns=[]:=by
   cases ns with
   | nil=>rfl
   | cons n ns=>simp at hf
  subst hp
  refine ∅.eq ?_
  rfl
noncomputable def iK:Fx:=Tb [] [] BL IL ML TL dy
noncomputable def oD:Str->Option (List D->Option Xs):=fun g=>([]:List (Str×(List D->Option Xs))).lookup g
noncomputable def oF:List D->Rs D:=du iK (ac (al 17)) ["side"] (am (al 17))
noncomputable def dN:List D->Rs D:=GT L5 fun s=>.ok .non []
theorem kG:∀ds r,aa (dN ds) r->aa (oF ds) r:=by
 intro ds r h
 obtain⟨s,rfl,h'⟩:=Ec h
 obtain⟨rfl,_⟩:=eL h'
 cases s
 ·exact bO rfl (by walk_at "ob")
 ·exact bO rfl (by walk_at "ob")
noncomputable def cU:List D->Option Xs:=fun ds=>match ds with
 | [.str y]=>if iZ y=true then some kl else none
 | _=>none
theorem kF:∀ds r,cU ds=some r->ds.length=1/\Rz iK oD EX (ac (al 17)) (am (al 17)) (d5 ["side"] ds) r:=by
 intro ds r h
 unfold cU at h
 split at h
 ·rename_i y
  split at h
  ·rename_i hy
   cases h
   obtain⟨h1,h2,h3,h4⟩:=BD hy
   have o1:=zT h4 (show PyData.strOk (Str.ofString "left")=true by decide +kernel)
   have o2:=zT h4 (show PyData.strOk (Str.ofString "right")=true by decide +kernel)
   exact⟨rfl,Rz.iff (t:=true) (k:=0) (cI (gU (∅.bl (vJ h1)) (gU (∅.bl (vJ h2)) jC))) (Rz.raiseR ∅ h3 (by decide +kernel) rfl (by decide +kernel) rfl)⟩
  ·cases h
 ·cases h
theorem xR(h:iZ y=true):cU [.str y]=some kl:=if_pos h
noncomputable def eI:Fx:=Tb [] [("MOST_PART", .int 19)] BL IL ML TL dy
noncomputable def cC:List D->Rs D:=fun ds=>match ds with
 | [.int o]=>.ok (.dcf (dP o).1 (dP o).2) [o=0\/o=1]
 | _=>.st
theorem EO(h1:ρ (Str.ofString "parts")=some (.lst ((ik o).map D.int),true))(h2:ρ (Str.ofString "pairs")=some (.dct [] [],true))(X:Cx)(H0:Hp)(G:aL eI X (ac (al 25)))(hp:PassesOwn (model X.prog X.w) X.A X.env X.xe):cX X H0 ρ ((am (al 25)).drop 2) (.rt (.dcf (dP o).1 (dP o).2)):=by
 refine yv (f:=LZ) (ps:=ik o) G hp rfl rfl rfl (by decide) (by decide) (by decide) (by decide) (by decide) (by decide) rfl rfl h1 h2 (fun a b ρ' ha hb ma mb=>?_) (fun y p z=>nomatch z) (fun y p z=>nomatch z) rfl rfl (EE o)
 have s:Sub (br [("a", .int a,false),("b", .int b,false)]) ρ':=ae ha (ae hb aO)
 have l1:=yS ma
 have l2:=yS mb
 have m1:bf a a:=cR (by omega)
 have m2:bf b b:=cR (by omega)
 exact⟨pH (iB s ∅) G,Dt (qi (C:=br [("a", .int a,false),("b", .int b,false)]) ∅ s) G⟩
theorem EQ(o:Int):∃ρ',aa (aA eI ((am (al 25)).take 2) (ac (al 25)) (d5 ["odd"] [.int o])) (.nx ρ')/\Sub (br [("parts", .lst ((ik o).map D.int),true),("pairs", .dct [] [],true)]) ρ':=by
 have e:(ik o).map D.int=((List.range 39).filter fun i:Nat=>decide ((-19+(i:Int)).fmod 2=o)).map fun i:Nat=>D.int (-19+(i:Int)):=by unfold ik;rw[RT];rfl
 rw[e]
 refine⟨_,bA (dc (ot (l:=List.range 39) (g:=fun i:Nat=>D.int (-19+(i:Int))) (f:=fun i:Nat=>D.int (-19+(i:Int))) (t:=fun i:Nat=>decide ((-19+(i:Int)).fmod 2=o)) (Dj (B:=mP) ∅ ⟨_,rfl,by decide,by decide,by decide,by decide,True.intro⟩) rfl (by decide) (.inr (QC 1)) fun i hi=>⟨_,0,rfl,∅.bl (gq _ _),fun _=>bO rfl (by walk_at "ob")⟩)) (bA ∅ db),ae rfl (ae rfl aO)⟩
theorem jJ:∀ds r,aa (cC ds) r->pR eI (ac (al 25)) ["odd"] (am (al 25)) ds r:=by
 rintro ds r ⟨l,h,hp⟩
 unfold cC at h
 split at h
 ·rename_i o
  cases h
  refine⟨rfl,fun X H0 G hps=>?_⟩
  obtain⟨ρ',h1,s⟩:=EQ o
  exact jg 2 G hps h1 (EO s.get s.get X H0 G hps)
 ·cases h
noncomputable def fP:Fx:=Tb [("pairs_by_squares", cC)] [] BL IL ML TL dy
noncomputable def cE:List D->Rs D:=fun ds=>match ds with
 | [.int N,.int o]=>.ok (.lst ((dD N o).map aK)) [o=0\/o=1,(dD N o).length<=4000]
 | _=>.st
theorem LU{k:Int}{fr:List Int}{acc:List (List Int)}{P:ah->Prop}(ho:o=0\/o=1)(hf:∃a b,fr=[a,b])(hl:acc.length+(cw o (4*N-k)).length<=bc)(s:Sub (br [("n", .int N,f1),("pairs", .dcf (dP o).1 (dP o).2,f2),("told", .lst (acc.map aK),true),("squares", .int k,f3),("backs", .lst ((cw o (4*N-k)).map aK),false)]) ρ)
  (fin:∀ρ',Sub (br [("n", .int N,f1),("pairs", .dcf (dP o).1 (dP o).2,f2),("told", .lst ((acc++(cw o (4*N-k)).map fun b=>fr++b).map aK),true),("squares", .int k,f3),("backs", .lst ((cw o (4*N-k)).map aK),false)]) ρ'->P ρ') :
  ∃ρ2,aa (aA fP (cu ((cu ((am (al 24)).getD 2 (.Pass ⟨0,0,0,0⟩))).getD 1 (.Pass ⟨0,0,0,0⟩))) (ac (al 24)) (aM ρ "front" (aK fr,false))) (.nx ρ2)/\P ρ2:=by
 obtain⟨a,b,rfl⟩:=hf
 have hm:∀t∈cw o (4*N-k),∃c d,t=[c,d]:=fun t ht=>mL ho ht
 generalize cw o (4*N-k)=bk at *
 have e:((bk.map fun b'=>[a,b]++b').map aK)=bk.map fun b'=>aK ([a,b]++b'):=by rw[RT];rfl
 refine fK (s.put _ _) (bA (ly (l:=acc.map aK) (l':=acc.map aK++bk.map fun b'=>aK ([a,b]++b')) (aX (oq (l:=bk) (g:=aK) (f:=fun b'=>aK ([a,b]++b')) ∅ rfl (by omega) (.inr (Ql 1)) fun t ht=>?_) b8) rfl ?_) db) fun ρ' s'=>fin ρ' ?_
 ·obtain⟨c,d,rfl⟩:=hm t ht
  exact⟨_,rfl,bO rfl (by walk_at "ob")⟩
 ·exact⟨_,rfl,by rw[Qp,Qp];exact hl,True.intro⟩
 ·rw[R4,e]
  exact ae s'.get (ae s'.get (ae s'.get (ae s'.get (ae s'.get aO))))
theorem Kn(ho:o=0\/o=1)(hN:(dD N o).length<=4000)(X:Cx)(H0:Hp)(G:aL fP X (ac (al 24)))(hp:PassesOwn (model X.prog X.w) X.A X.env X.xe)(s:Sub (br [("n", .int N,f1),("pairs", .dcf (dP o).1 (dP o).2,f2),("told", .lst [],true)]) ρ):cX X H0 ρ ((am (al 24)).drop 2) (.rt (.lst ((dD N o).map aK))):=by
 have sd:=s.demote (mW ((am (al 24)).getD 2 (.Pass ⟨0,0,0,0⟩)))
 obtain⟨ρ',hch,acc,f3,hacc,_,s3⟩:=m8 (X:=X) (H0:=H0) (tg:=xC ((am (al 24)).getD 2 (.Pass ⟨0,0,0,0⟩))) (body:=cu ((am (al 24)).getD 2 (.Pass ⟨0,0,0,0⟩))) (h:=D.int) (fun q ρ => ∃(acc:List (List Int)) (f3:Bool),acc++q.flatMap (i7 N o)=dD N o/\(∀k∈q,k∈(dP o).1)/\Sub (br [("n", .int N,f1),("pairs", .dcf (dP o).1 (dP o).2,false),("told", .lst (acc.map aK),true)]) ρ) (dP o).1 (demote (mW ((am (al 24)).getD 2 (.Pass ⟨0,0,0,0⟩))) ρ) ⟨[],false,rfl,fun k hk=>hk,ae sd.get (ae sd.get (ae sd.get aO))⟩ (by
  rintro k q ρ ⟨acc,f3,he,hk,s⟩
  have hkk:=hk k Qj
  obtain⟨l,hl⟩:=vP (Js ho) hkk
  have s1:=s.put (Str.ofString "squares") (.int k,false)
  refine⟨_,pu G rfl,?_⟩
  have eD:cw o k=l:=by unfold cw;rw[hl];rfl
  have s2:=s1.put (Str.ofString "backs") (.lst ((cw o (4*N-k)).map aK),false)
  have sd2:=s2.demote (mW ((cu ((am (al 24)).getD 2 (.Pass ⟨0,0,0,0⟩))).getD 1 (.Pass ⟨0,0,0,0⟩)))
  rw[RF,<- QQ]at he
  obtain⟨ρ3,hch2,acc2,he2,_,s3⟩:=m8 (X:=X) (H0:=H0) (tg:=xC ((cu ((am (al 24)).getD 2 (.Pass ⟨0,0,0,0⟩))).getD 1 (.Pass ⟨0,0,0,0⟩))) (body:=cu ((cu ((am (al 24)).getD 2 (.Pass ⟨0,0,0,0⟩))).getD 1 (.Pass ⟨0,0,0,0⟩))) (h:=aK) (fun q2 ρ => ∃acc2:List (List Int),acc2++(q2.flatMap fun f=>(cw o (4*N-k)).map fun b=>f++b)++q.flatMap (i7 N o)=dD N o/\(∀f∈q2,f∈l)/\Sub (br [("n", .int N,f1),("pairs", .dcf (dP o).1 (dP o).2,false),("told", .lst (acc2.map aK),true),("squares", .int k,false),("backs", .lst ((cw o (4*N-k)).map aK),false)]) ρ) l (demote (mW ((cu ((am (al 24)).getD 2 (.Pass ⟨0,0,0,0⟩))).getD 1 (.Pass ⟨0,0,0,0⟩))) (aM (aM ρ (Str.ofString "squares") (.int k,false)) (Str.ofString "backs") (.lst ((cw o (4*N-k)).map aK),false))) ⟨acc,by rw[<- he];unfold i7;rw[eD],fun f h=>h,ae sd2.get (ae sd2.get (ae sd2.get (ae sd2.get (ae sd2.get aO))))⟩ (by
   rintro fr q2 ρ4 ⟨acc2,he2,hm2,s4⟩
   have hfr:=hm2 fr Qj
   rw[<- eD]at hfr
   have lim:acc2.length+(cw o (4*N-k)).length<=bc:=by
    have:=Rq List.length he2
    simp only[RF,Qr,Qp]at this
    show _<=40000
    omega
   obtain⟨ρ5,h5,hI⟩:=LU (P:=fun ρ' => ∃acc2:List (List Int),acc2++(q2.flatMap fun f=>(cw o (4*N-k)).map fun b=>f++b)++q.flatMap (i7 N o)=dD N o/\(∀f∈q2,f∈l)/\Sub (br [("n", .int N,f1),("pairs", .dcf (dP o).1 (dP o).2,false),("told", .lst (acc2.map aK),true),("squares", .int k,false),("backs", .lst ((cw o (4*N-k)).map aK),false)]) ρ') ho (mL ho hfr) lim s4 fun ρ' s'=>⟨_,by rw[<- he2,RF,<- QQ],fun f hf=>hm2 f (Qi _ hf),s'⟩
   exact⟨_,pu G rfl,ρ5,eF _ h5 G hp,hI⟩)
  refine⟨_,dG (sj G rfl (Jh (k:=0) (dX (o:=false) s1.get rfl) (pH (iB s1 ∅) G) rfl (fun _ _ z=>nomatch z) rfl) (.inr ⟨rfl,rfl⟩) (gp rfl)) (dG (pX hp G.calm (jz (Jj (k:=0) (k2:=0) (dX (o:=false) sd2.get rfl) (dX (o:=false) sd2.get rfl) (fun _ _=>rfl) hl)) (Ql 1) hch2 fun _=>rfl) vu),acc2,false,by simpa using he2,fun k hk'=>hk k (Qi _ hk'),ae s3.get (ae s3.get (ae s3.get aO))⟩)
 refine dG (pX hp G.calm (IJ (ls:=(dP o).2) (k:=0) ?_) (QC 1) hch fun _=>rfl) ?_
 ·exact dX (o:=false) sd.get rfl
 ·have e:acc=dD N o:=by simpa using hacc
  rw[<- e]
  exact eF _ (fH s3 ∅) G hp
theorem lV:∀ds r,aa (cE ds) r->pR fP (ac (al 24)) ["n", "odd"] (am (al 24)) ds r:=by
 rintro ds r ⟨l,h,hp⟩
 unfold cE at h
 split at h
 ·rename_i N o
  cases h
  obtain⟨ho,hN,_⟩:=hp
  refine⟨rfl,fun X H0 G hps=>?_⟩
  have hS:aa (cC [.int o]) (.dcf (dP o).1 (dP o).2):=⟨_,rfl,ho,True.intro⟩
  exact jg 2 G hps (bA (dc (bH ∅ hS)) (bA ∅ db)) (Kn (f1:=false) (f2:=true) ho hN X H0 G hps (ae rfl (ae rfl (ae rfl aO))))
 ·cases h
noncomputable def rf:Fx:=Tb [("alike_of_size", cE)] [("MOST_SIZE", .int 97)] BL IL ML TL dy
noncomputable def AF:Str->Option (List D->Option Xs):=fun g=>([]:List (Str×(List D->Option Xs))).lookup g
noncomputable def AQ:List D->Rs D:=du rf (ac (al 23)) ["n"] (am (al 23))
noncomputable def gG:List D->Rs D:=fun ds=>match ds with
 | [.int N]=>.ok (.lst ((cv N).map aK)) [1<=N,N<=97]
 | _=>.st
theorem rQ:∀l:List (List Int),(∀t∈l,t≠[])->fw (l.map aK)=some l
 | [],_=>rfl
 | []::l,h=>absurd rfl (h [] Qj)
 | (y::x)::l,h=>by
  have e:fw (l.map fun ns=>D.tup (ns.map D.int))=some l:=rQ l fun t ht=>h t (Qi _ ht)
  rw[QJ]
  unfold aK fw
  rw[pq,e]
theorem C3:∀l:List (List Int),au (l.map aK)=true
 | []=>rfl
 | x::l=>by
  rw[QJ]
  show(au (x.map D.int)&&au (l.map aK))=true
  rw[C3 l,jy x];rfl
theorem D9{a b:List (List Int)}(hn:∀t∈a++b,t≠[])(h:2<=a.length+b.length):aa (dS [.lst (a.map aK++b.map aK)]) (.lst ((bN (a++b)).map aK),0):=by
 unfold dS
 rw[<- R4]
 dsimp only
 rw[rQ _ hn]
 exact⟨_,rfl,by rw[Qp,Qr];exact h,True.intro⟩
theorem uy:∀ds r,aa (gG ds) r->aa (AQ ds) r:=by
 rintro ds r ⟨l,h,hp⟩
 unfold gG at h
 split at h
 ·rename_i N
  cases h
  obtain⟨h1,h2,_⟩:=hp
  obtain⟨n,rfl⟩:∃n:Nat,N=(n:Int):=⟨N.toNat,by omega⟩
  obtain⟨_,l0,l1,l2⟩:=AB (N:=n) (by omega) (by omega)
  have hA0:aa (cE [.int (n:Int),.int 0]) (.lst ((dD (n:Int) 0).map aK)):=⟨_,rfl,.inl rfl,l0,True.intro⟩
  have hA1:aa (cE [.int (n:Int),.int 1]) (.lst ((dD (n:Int) 1).map aK)):=⟨_,rfl,.inr rfl,l1,True.intro⟩
  refine iN (cH (cI (d7 ((∅).bl (QD (by omega))) (d7 ((∅).bl (QD (by show ¬ (n:Int)>97;omega))) iA))) rfl (mq (jB (pD (B:=dS) (aX (pE (bH ∅ hA0) (bH ∅ hA1) ⟨_,rfl,?_,?_,True.intro⟩) b8) (D9 (fun t ht=>?_) l2)))))
  ·rw[<- R4];exact C3 _
  ·rw[Qp,Qp];show _<=40000;omega
  ·rcases QN.mp ht with ht|ht
   ·obtain⟨a,b,c,d,rfl,_⟩:=gj (.inl rfl) ht;exact SJ _ _
   ·obtain⟨a,b,c,d,rfl,_⟩:=gj (.inr rfl) ht;exact SJ _ _
 ·cases h
noncomputable def iU:List D->Option Xs:=fun ds=>match ds with
 | [.int N]=>if N<1\/97<N then some (Str.ofString "TooGreat", Str.ofString "SpaceError", [])else none
 | _=>none
theorem uu:∀ds r,iU ds=some r->ds.length=1/\Rz rf AF EX (ac (al 23)) (am (al 23)) (d5 ["n"] ds) r:=by
 intro ds r h
 unfold iU at h
 split at h
 ·rename_i N
  split at h
  ·rename_i hN
   cases h
   refine⟨rfl,Rz.iff (t:=true) (k:=0) (cI ?_) (Rz.raiseM (i:=97) ∅ (by decide) (by decide +kernel) (by decide +kernel) rfl (by decide +kernel) rfl)⟩
   by_cases h1:N<1
   ·exact iz ((∅).bl (QM h1)) (fun z=>nomatch z) fun _=>rfl
   ·exact iz ((∅).bl (QD h1)) (fun _=>iz ((∅).bl (QM (show N>97 by omega))) (fun z=>nomatch z) fun _=>rfl) (fun z=>nomatch z)
  ·cases h
 ·cases h
noncomputable def Ko:Fx:=Tb [] [] BL IL ML TL dy
noncomputable def Kt:List D->Rs D:=du Ko (ac (al 15)) [] (am (al 15))
noncomputable def lT:List D->Rs D
 | []=>.ok (.lst (bC.map dq)) []
 | _=>.st
theorem yx:aa (dS [.lst Cu]) (.lst (bC.map dq),0):=by
 have e:fw Cu=some Ct:=rfl
 have e2:bN Ct=bC.map l4:=by decide +kernel
 unfold dS
 dsimp only
 rw[e]
 dsimp only
 rw[e2]
 exact⟨_,rfl,by decide,True.intro⟩
theorem AN:∀ds r,aa (lT ds) r->aa (Kt ds) r:=by
 intro ds r h
 unfold lT at h
 split at h
 ·obtain⟨rfl,_⟩:=eL h
  exact iN (ej 3 ∅ (mq (jB (pD (B:=dS) ∅ yx))))
 ·exact(ao h).elim
noncomputable def pP:Fx:=Tb [] [] BL IL ML TL dy
noncomputable def pS:List D->Rs D:=du pP (ac (al 13)) ["one", "other"] (am (al 13))
noncomputable def fR:List D->Rs D:=vy dQ dQ fun p q=>.ok (dq (Nx p q)) [iJ p,iJ q]
theorem lO:∀ds r,aa (fR ds) r->aa (pS ds) r:=by
 intro ds r h
 obtain⟨p,q,rfl,h⟩:=mw h
 obtain⟨rfl,hp,hq,_⟩:=eL h
 obtain⟨⟨a1,a2,a3,a4⟩,⟨b1,b2,b3,b4⟩,⟨c1,c2,c3,c4⟩,d1,d2,d3,d4⟩:=Ki hp hq
 exact bO rfl (by walk_at "ob")
noncomputable def AG:Fx:=Tb [("plain_product", fR)] [] BL IL ML TL dy
noncomputable def AO:List D->Rs D:=du AG (ac (al 14)) ["one", "other"] (am (al 14))
noncomputable def lN:List D->Rs D:=vy dQ dQ fun p q=>.ok (dq (dg p q)) [iJ p,iJ q]
theorem ux:∀ds r,aa (lN ds) r->aa (AO ds) r:=by
 intro ds r h
 obtain⟨p,q,rfl,h'⟩:=mw h
 obtain⟨rfl,hp,hq,_⟩:=eL h'
 exact bO rfl (by walk_at "ob")
noncomputable def Cj:Fx:=Tb [("product", lN)] [] BL IL ML TL dy
noncomputable def Cn:List D->Rs D:=du Cj (ac (al 18)) ["one", "other", "side"] (am (al 18))
noncomputable def ka:List D->Rs D:=GS dQ dQ L5 fun p q s=>.ok (dq (cF s p q)) [iJ p,iJ q]
theorem vc:∀ds r,aa (ka ds) r->aa (Cn ds) r:=by
 intro ds r h
 obtain⟨p,q,s,rfl,h'⟩:=Eb h
 obtain⟨rfl,hp,hq,_⟩:=eL h'
 cases s
 ·exact bO rfl (by walk_at "ob")
 ·exact bO rfl (by walk_at "ob")
noncomputable def gk:Fx:=Tb [("refuse_no_side", dN),("of_size", gG),("ones", lT),("beside", ka)] [("PRIMES", .tup [.int 2,.int 3,.int 5,.int 7,.int 11,.int 13,.int 17,.int 19,.int 23,.int 29,.int 31,.int 37,.int 41,.int 43,.int 47,.int 53,.int 59,.int 61,.int 67,.int 71,.int 73,.int 79,.int 83,.int 89,.int 97]),("MOST_SIZE", .int 97)] BL IL ML TL dy
noncomputable def Ch:Str->Option (List D->Option Xs):=fun g=>([("refuse_no_side", cU),("of_size", iU)]:List (Str×(List D->Option Xs))).lookup g
noncomputable def fc:List Int:=[3,5,7,11,13,17,19,23,29,31,37,41,43,47,53,59,61,67,71,73,79,83,89,97]
noncomputable def gm:List D->Rs D:=fun ds=>match ds with
 | [.int N,.str y]=>match dO y with
  | some s=>.ok (.lst ((bN (cg s N)).map aK)) [N∈fc]
  | none=>.st
 | _=>.st
theorem si(h:dO y=some s):D.str y=cS s:=by
 unfold dO at h
 split at h
 ·rename_i e;cases h;rw[e];rfl
 ·split at h
  ·rename_i e;cases h;rw[e];rfl
  ·cases h
theorem sN:∀N∈fc,3<=N/\N<=97/\se N.toNat=N.toNat+1:=by decide +kernel
theorem A9:∀{l:List (Str×D×Bool)},(∀t∈l,t.2.2=false)->Sh (br l)
 | [],_=>fun y d o h=>by cases h
 | p::l,hl=>fun y d o h=>by
  unfold br at h
  split at h
  ·injection h with h
   have:=hl p Qj
   rw[h]at this;exact this
  ·exact A9 (fun t ht=>hl t (Qi _ ht)) y d o h
theorem AA(h:l4 q∈cv N):iJ q:=by
 have:∃o,wp N o (l4 q):=by rcases nc h with h|h<;>exact⟨_,h⟩
 obtain⟨o,a,b,c,d,e,_,_,b1,b2,b3,b4⟩:=this
 obtain⟨x,y,z,w⟩:=q
 have e':[x,y,z,w]=[a,b,c,d]:=e
 cases e'
 exact Au (M:=19) ⟨by show a.natAbs<=19;omega,by show b.natAbs<=19;omega,by show c.natAbs<=19;omega,by show d.natAbs<=19;omega⟩ (Qv (by decide:19<2 ^ 8) (Nat.pow_le_pow_right (by decide) (by decide)))
theorem vo{cl:List Int->List (List Int)}{n:Nat}(hn:∀f,(cl f).length=n):∀(l:List (List Int)) (st:CS),(l.foldl (dl cl) st).2.length+n*st.1.length=st.2.length+n*(l.foldl (dl cl) st).1.length
 | [],st=>rfl
 | f::l,st=>by
  rw[List.foldl_cons]
  have:=vo hn l (dl cl st f)
  unfold dl at this⊢
  by_cases h:f∈st.2
  ·rw[if_pos h]at this⊢;exact this
  ·rw[if_neg h]at this⊢
   simp only[Qr,Qw,Rl,hn,Nat.mul_add]at this⊢
   omega
theorem vq{cl:List Int->List (List Int)}:∀(l:List (List Int)) (st:CS),st.1.length<=(l.foldl (dl cl) st).1.length
 | [],st=>Ql _
 | f::l,st=>by
  rw[List.foldl_cons]
  refine QA ?_ (vq l _)
  unfold dl
  split
  ·exact Ql _
  ·simp only[Qr];omega
theorem GM{cl:List Int->List (List Int)}(hn:∀f,(cl f).length=n)(l:List (List Int))(i:Nat):((l.take i).foldl (dl cl) ([],[])).1.length<=(grd cl l []).length/\((l.take i).foldl (dl cl) ([],[])).2.length=n*((l.take i).foldl (dl cl) ([],[])).1.length:=by
 refine⟨?_,?_⟩
 ·have e:=pW (cl:=cl) l ([],[])
  rw[List.nil_append]at e
  rw[<- e]
  conv=>rhs;rw[<- Q0 i l,List.foldl_append]
  exact vq _ _
 ·have:=vo hn (l.take i) ([],[])
  simp only[Rl,Nat.mul_zero,Nat.add_zero,Nat.zero_add]at this
  exact this
noncomputable def vY(s:Bool)(f u:List Int):List Int:=l4 (cF s (CH f) (CH u))
theorem zL(s:Bool)(f:List Int):(bC.map l4).map (vY s f)=fE s f:=by
 unfold fE nK
 rw[RT,RT];rfl
theorem Ea{l:List (List Int)}(hn:∀t∈l,t≠[])(h:2<=l.length):aa (dS [.lst (l.map aK)]) (.lst ((bN l).map aK),0):=by
 unfold dS
 dsimp only
 rw[wC hn]
 exact⟨_,rfl,by rw[Qp];exact h,True.intro⟩
theorem JA{s:Bool}{N:Int}:∀t∈cg s N,t≠[]:=fun t ht=>by
 obtain⟨q,rfl⟩:=eG (fO ht)
 exact SJ _ _
theorem FY(h1:1<=n)(h2:n<=97)(h3:se n=n+1)(X:Cx)(H0:Hp)(G:aL gk X (ac (al 26)))(hp:PassesOwn (model X.prog X.w) X.A X.env X.xe)(sb:Sub (br [("p", .int (n:Int),false),("side", cS s,false),("told", .lst [],true),("met", .dct [] [],true)]) ρ) :
  cX X H0 ρ ((am (al 26)).drop 4) (.rt (.lst ((bN (cg s n)).map aK))):=by
 have hS:aa (gG [.int (n:Int)]) (.lst ((cv n).map aK)):=⟨_,rfl,by omega,by omega,True.intro⟩
 have hO:aa (lT []) (.lst (bC.map dq)):=⟨_,rfl,True.intro⟩
 have hlen:(cg s n).length=n+1:=by rw[qx s h1 h2,h3]
 have ecl:(fun f=>(bC.map l4).map (vY s f))=fE s:=funext fun f=>zL s f
 have egr:grd (fun f=>(bC.map l4).map (vY s f)) (cv n).reverse []=cg s n:=by rw[ecl];rfl
 refine wH (xt:=Str.ofString "told") (xm:=Str.ofString "met") (C:=br [("p", .int (n:Int),false),("side", cS s,false)]) (tl:=cg s n) (m:=((cv n).reverse.foldl (dl fun f=>(bC.map l4).map (vY s f)) ([],[])).2) sb.get sb.get (A9 (by intro t ht;simp only[Qo,Sa,or_false]at ht;rcases ht with rfl|rfl<;>rfl)) (fun y p h=>(ae sb.get (ae sb.get aO):Sub (br [("p", .int (n:Int),false),("side", cS s,false)]) ρ) y p h) (fun it im L d a1 a2 a3 a4=>?_) (fun ρ' hρ=>?_)
 ·rw[<- egr]
  refine yq (Φ:=gk) (sc:=ac (al 26)) (xf := "four") (xo := "one") (fs:=(cv n).reverse) (us:=bC.map l4) (g:=vY s) (k:=0) (k1:=0) (k2:=0) (k3:=0) G hp G.room rfl rfl (by decide) (by decide) (by decide) (by decide) (by decide) a1 a2 rfl a3 a4 rfl rfl ?sh rfl rfl ?hne ?hi (QC _) ?hi1 (QC _) ?heb ?hev (fun _=>rfl) (fun _=>rfl) rfl ?hb (fun _=>rfl) kL rfl rfl
  case sh=>exact A9 (by intro t ht;simp only[Qo,Sa,or_false]at ht;rcases ht with rfl|rfl<;>rfl)
  case hne =>
   intro f hf
   obtain⟨q,rfl⟩:=eG (QW.mp hf)
   exact SJ _ _
  case hi =>
   rw[List.map_reverse]
   exact(cy (it:=true) (p:=(.lst ((cv n).map aK).reverse,0)) (Dj (B:=xx) (aX (bH ∅ hS) b8) ⟨_,rfl,je _,True.intro⟩) G).ie rfl _ _ rfl rfl
  case hi1 =>
   intro f
   have e:(bC.map l4).map aK=bC.map dq:=by rw[RT];rfl
   rw[e]
   exact jz (pH (bH b8 hO) G)
  case heb =>
   intro f hf u hu
   obtain⟨q,rfl⟩:=eG (QW.mp hf)
   obtain⟨v,hv,rfl⟩:=QB.mp hu
   have bq:=AA (QW.mp hf)
   have bv:=(dw hv).2.2
   have hB:aa (ka [dq q,dq v,cS s]) (dq (cF s q v)):=by
    cases s
    ·exact bO rfl (by walk_at "ob")
    ·exact bO rfl (by walk_at "ob")
   exact pH (bH ∅ hB) G
  case hev=>exact fun ρ=>pH ∅ G
  case hb =>
   intro i
   obtain⟨b1,b2⟩:=GM (cl:=fun f=>(bC.map l4).map (vY s f)) (n:=24) (fun f=>by rw[zL];exact wc s f) (cv n).reverse i
   rw[egr,hlen]at b1
   rw[b2]
   have:(bC.map l4).length=24:=by rw[Qp];rfl
   rw[this]
   show _<40000/\_<40000
   omega
 ·exact eF _ (fH (ae hρ aO) (mq (jB (pD (B:=dS) ∅ (Ea JA (by omega)))))) G hp
theorem FZ(hN:N∈fc):∃ρ',aa (aA gk ((am (al 26)).take 4) (ac (al 26)) (d5 ["p", "side"] [.int N,cS s])) (.nx ρ')/\Sub (br [("p", .int N,false),("side", cS s,false),("told", .lst [],true),("met", .dct [] [],true)]) ρ':=by
 have h1:fj (.int N) (.int 2)=false:=by
  rw[gq]
  exact QD fun e=>by subst e;revert hN;decide
 have hm:N∈fq:=by
  have:∀n∈fc,n∈fq:=by decide
  exact this N hN
 have h2:(!((fq.map D.int).any fun y=>fj y (.int N)))=false:=by
  rw[List.any_eq_true.mpr ⟨.int N,List.mem_map_of_mem hm,by rw[gq];exact QM rfl⟩];rfl
 refine⟨_,ej 1 (show aa (aA gk ((am (al 26)).take 1) (ac (al 26)) (d5 ["p", "side"] [.int N,cS s])) (.nx (d5 ["p", "side"] [.int N,cS s]))from ?_) (cH (cI (d7 (∅.bl h1) (d7 (∅.bl h2) iA))) rfl ∅),ae rfl (ae rfl (ae rfl (ae rfl aO)))⟩
 cases s<;>exact bO rfl (by walk_at "ob")
theorem u9:∀ds r,aa (gm ds) r->pR gk (ac (al 26)) ["p", "side"] (am (al 26)) ds r:=by
 rintro ds r ⟨l,h,hp⟩
 unfold gm at h
 split at h
 ·rename_i N y
  split at h
  ·rename_i s hs
   cases h
   obtain⟨hN,_⟩:=hp
   obtain⟨h1,h2,h3⟩:=sN N hN
   obtain⟨n,rfl⟩:∃n:Nat,N=(n:Int):=⟨N.toNat,by omega⟩
   rw[si hs]
   refine⟨rfl,fun X H0 G hps=>?_⟩
   have hR:aa (dN [cS s]) .non:=by cases s<;>exact bO rfl (by walk_at "ob")
   obtain⟨ρ',g1,g2⟩:=FZ (s:=s) hN
   exact jg 4 G hps g1 (FY (by omega) (by omega) (by simpa using h3) X H0 G hps g2)
  ·cases h
 ·cases h
noncomputable def nu:Xs:=(Str.ofString "NoPrime", Str.ofString "SpaceError", [])
noncomputable def dM:List D->Option Xs:=fun ds=>match ds with
 | [.int N,.str y]=>if iZ y=true then some kl else match dO y with
  | some _=>if N=2\/N∉fq then some nu else none
  | none=>none
 | _=>none
theorem KE{ds:List D}{r:Xs}(h:dM ds=some r):∃N y,ds=[.int N,.str y]/\(r=kl\/r=nu):=by
 unfold dM at h
 split at h
 ·rename_i N y
  refine⟨N,y,rfl,?_⟩
  split at h
  ·cases h;exact .inl rfl
  ·split at h
   ·split at h
    ·cases h;exact .inr rfl
    ·cases h
   ·cases h
 ·cases h
theorem HQ(h:N∉fq):(!((fq.map D.int).any fun y=>fj y (.int N)))=true:=by
 have:((fq.map D.int).any fun y=>fj y (.int N))=false:=by
  rw[List.any_eq_false]
  intro y hy
  obtain⟨n,hn,rfl⟩:=QB.mp hy
  rw[gq]
  intro e
  have:=Q9 e
  subst this
  exact h hn
 rw[this];rfl
theorem u5:∀ds r,dM ds=some r->ds.length=2/\Rz gk Ch EX (ac (al 26)) (am (al 26)) (d5 ["p", "side"] ds) r:=by
 intro ds r h
 unfold dM at h
 split at h
 ·rename_i N y
  split at h
  ·rename_i hy
   cases h
   exact⟨rfl,Rz.exp ∅ rfl rfl (xR hy)⟩
  ·split at h
   ·rename_i s hs
    split at h
    ·rename_i hN
     cases h
     have ey:=si hs
     cases s
     all_goals
      cases ey
      refine⟨rfl,Rz.step ∅ (Rz.iff (t:=true) (k:=0) (cI ?_) (Rz.raiseM (i:=97) ∅ (by decide) (by decide +kernel) (by decide +kernel) rfl (by decide +kernel) rfl))⟩
      by_cases h1:N=2
      ·exact iz (∅.bl ((gq N 2).trans (QM h1))) (fun z=>nomatch z) fun _=>rfl
      ·exact iz (∅.bl ((gq N 2).trans (QD h1))) (fun _=>iz (∅.bl (HQ (hN.resolve_left h1))) (fun z=>nomatch z) fun _=>rfl) (fun z=>nomatch z)
    ·cases h
   ·cases h
 ·cases h
noncomputable def AH:Fx:=Tb [] [] BL IL ML TL dy
noncomputable def rh:List D->Rs D:=du AH (ac (al 29)) ["_law_x"] (am (al 29))
noncomputable def u7:Fx:=Tb [("_law_whole", rh)] [] BL IL ML TL dy
noncomputable def gw:List D->Rs D:=du u7 (ac (al 30)) ["_law_thing"] (am (al 30))
theorem Ie{c d:Int}(hb:b.fmod 2=a.fmod 2)(hc:c.fmod 2=a.fmod 2)(hd:d.fmod 2=a.fmod 2):aa (gw [t4 a b c d]) (.bl true):=by
 refine iN (cH ∅ rfl (D8 (ds:=[.int a,.int b,.int c,.int d]) (fun rem ρ=>(∀x∈rem,∃t:Int,x=.int t/\t.fmod 2=a.fmod 2)/\Sub (br [("_law_thing", t4 a b c d,false)]) ρ) ∅ ⟨?_,ae rfl aO⟩ ?_ ?_))
 ·intro x hx
  simp only[Qo,Sa,or_false]at hx
  rcases hx with rfl|rfl|rfl|rfl
  ·exact⟨_,rfl,rfl⟩
  ·exact⟨_,rfl,hb⟩
  ·exact⟨_,rfl,hc⟩
  ·exact⟨_,rfl,hd⟩
 ·rintro x l ρ ⟨hh,s⟩
  obtain⟨t,rfl,ht⟩:=hh x Qj
  exact⟨_,rfl,fK (s.put _ _) (cH (cI (d7 ∅ (d7 (∅.bl (wZ ht)) iA))) rfl db) fun ρ' s'=>⟨fun y hy=>hh y (Qi _ hy),ae s'.get aO⟩⟩
 ·rintro ρ ⟨_,s⟩
  exact fH s ∅
noncomputable def AJ:Fx:=Tb [] [] BL IL ML TL dy
noncomputable def AR:List D->Rs D:=du AJ (ac (al 32)) ["_law_one", "_law_other"] (am (al 32))
noncomputable def lU:List D->Rs D:=vy dQ dQ fun p q=>.ok (dq (dg p q)) [iJ p,iJ q]
theorem uz:∀ds r,aa (lU ds) r->aa (AR ds) r:=by
 intro ds r h
 obtain⟨p,q,rfl,h'⟩:=mw h
 obtain⟨rfl,⟨a1,a2,a3,a4⟩,⟨b1,b2,b3,b4⟩,_⟩:=eL h'
 exact ∅
noncomputable def AI:Fx:=Tb [] [] BL IL ML TL dy
noncomputable def lW:List D->Rs D:=du AI (ac (al 34)) [] (am (al 34))
noncomputable def ig:List Qd:=[(2,0,0,0),(-2,0,0,0),(0,2,0,0),(0,-2,0,0),(0,0,2,0),(0,0,-2,0),(0,0,0,2),(0,0,0,-2),(1,1,1,1),(-1,1,1,1),(1,-1,1,1),(-1,-1,1,1),(1,1,-1,1),(-1,1,-1,1),(1,-1,-1,1),(-1,-1,-1,1),(1,1,1,-1),(-1,1,1,-1),(1,-1,1,-1),(-1,-1,1,-1),(1,1,-1,-1),(-1,1,-1,-1),(1,-1,-1,-1),(-1,-1,-1,-1)]
theorem ve:aa (lW []) (.lst (ig.map dq)):=bO rfl (by walk_at "ob")
theorem kJ:∀p∈ig,p∈bC:=by decide +kernel
noncomputable def AK:Fx:=Tb [("_law_times", lU),("_law_units", lW)] [] BL IL ML TL dy
noncomputable def iV:List D->Rs D:=du AK (ac (al 36)) ["_law_four", "_law_side"] (am (al 36))
noncomputable def il(s:Bool)(q:Qd):List Qd:=ig.map fun u=>cF s q u
theorem Li(s:Bool)(q:Qd):(il s q).map dq=ig.map fun u=>dq (cF s q u):=by unfold il;rw[RT];rfl
theorem vM(s:Bool)(bq:iJ q):aa (iV [dq q,cS s]) (.lst ((il s q).map dq)):=by
 rw[Li]
 cases s
 ·refine iN (oS ∅ rfl (mq (jB (oq (l:=ig) (g:=dq) (f:=fun u=>dq (cF false q u)) (bH b8 ve) rfl (by decide) (.inr (QC 1)) fun u hu=>?_))))
  have bu:=(dw (kJ u hu)).2.2
  exact⟨_,rfl,bO rfl (by walk_at "ob")⟩
 ·refine iN (cH ∅ rfl (mq (jB (oq (l:=ig) (g:=dq) (f:=fun u=>dq (cF true q u)) (bH b8 ve) rfl (by decide) (.inr (QC 1)) fun u hu=>?_))))
  have bu:=(dw (kJ u hu)).2.2
  exact⟨_,rfl,bO rfl (by walk_at "ob")⟩
theorem AU:∀u∈bC,u∈ig:=by decide +kernel
theorem sR{f:List Int}:f∈(il s q).map l4↔f∈fE s (l4 q):=by
 refine⟨fun h=>?_,fun h=>?_⟩
 ·obtain⟨p,hp,rfl⟩:=QB.mp h
  obtain⟨u,hu,rfl⟩:=QB.mp hp
  exact QB.mpr ⟨_,QB.mpr ⟨u,kJ u hu,rfl⟩,rfl⟩
 ·obtain⟨g,hg,rfl⟩:=js h
  obtain⟨u,hu,rfl⟩:=QB.mp hg
  exact QB.mpr ⟨_,QB.mpr ⟨u,AU u hu,rfl⟩,rfl⟩
theorem Fe(hN:N<=97)(h:l4 q∈cg s N):wl (l4 q) ((il s q).map l4) :=
 ⟨sR.mpr ((gh s hN).self _ (fO h)),fun y hy=>JB hN h y (sR.mp hy)⟩
noncomputable def ic:Fx:=Tb [("_law_is_four", gw),("_law_mates", iV)] [] BL IL ML TL dy
noncomputable def jK:List D->Rs D:=fun ds=>match ds with
 | [.lst l,.int N,.str y]=>match dO y with
  | some s=>.ok (.bl true) [N∈fc,l=(bN (cg s N)).map aK]
  | none=>.st
 | _=>.st
noncomputable def HS:Stmt->Pos×Expr×Pos
 | .If (.Compare (.Call (.Name _ p) [e] _ q) _ _ _) _ _ _=>(p,e,q)
 | _=>(⟨0,0,0,0⟩,.Constant .none 0 ⟨0,0,0,0⟩,⟨0,0,0,0⟩)
theorem y0(h:a=b):aa (iF .NotEq (.int a) (.int b)) false:=by
 subst h
 exact ∅.eq (wZ rfl)
theorem HM(q:Qd):aa (iF .NotEq (dq q) (dq q)) false:=by
 have h:(!fj (dq q) (dq q))=false:=by rw[xE];simp
 exact ∅.eq h
theorem Il(h1:1<=n)(h2:n<=97)(h3:se n=n+1):∃ρ',aa (aA ic ((am (al 38)).take 2) (ac (al 38)) (d5 ["_law_found", "_law_p", "_law_side"] [.lst ((bN (cg s n)).map aK),.int (n:Int),cS s])) (.nx ρ')/\Sub (br [("_law_found", .lst ((bN (cg s n)).map aK),false),("_law_p", .int (n:Int),false),("_law_side", cS s,false),("_law_ahead", .non,true)]) ρ':=by
 have hlen:((((bN (cg s n)).map aK).length:Nat):Int)=(n:Int)+1:=by rw[Qp,(b9 _).length_eq,qx s h1 h2,h3];omega
 generalize (bN (cg s n)).map aK=F at *
 exact⟨_,cH (cI (d7 ∅ (d7 (dB (y:=.int ((n:Int)+1)) (j:=0) (r:=false) ∅ ∅ (y0 hlen)) iA))) rfl (bA ∅ db),ae rfl (ae rfl (ae rfl (ae rfl aO)))⟩
theorem Fr{t:List Int}{x:D}{f:Bool}(X:Cx)(H0:Hp)(G:aL ic X (ac (al 38)))(hp:PassesOwn (model X.prog X.w) X.A X.env X.xe)(hN:1<=N/\N<=97)(ht:t∈cg s N)(hx:x=.non\/∃u,x=aK u/\u.length=4/\HT.lexLt u t=true)(sb:Sub (br [("_law_p", .int N,false),("_law_side", cS s,false),("_law_ahead", x,f)]) ρ) :
  ∃ρ2,cX X H0 (aM ρ "_law_four" (aK t,false)) (cu ((am (al 38)).getD 2 (.Pass ⟨0,0,0,0⟩))) (.nx ρ2)/\∃f',Sub (br [("_law_p", .int N,false),("_law_side", cS s,false),("_law_ahead", aK t,f')]) ρ2:=by
 have hq:∃o,wp N o t:=by rcases nc (fO ht)with h|h<;>exact⟨_,h⟩
 obtain⟨q,rfl⟩:=eG (fO ht)
 have bq:=AA (fO ht)
 obtain⟨o,a,b,c,d,et,hs,⟨p1,p2,p3,p4⟩,b1,b2,b3,b4⟩:=hq
 have tpp:=Fe hN.2 ht
 have hM:=vM s bq
 obtain⟨qa,qb,qc,qd⟩:=q
 have e':[qa,qb,qc,qd]=[a,b,c,d]:=et
 cases e'
 have one:∃ρa,aa (aA ic ((cu ((am (al 38)).getD 2 (.Pass ⟨0,0,0,0⟩))).take 2) (ac (al 38)) (aM ρ "_law_four" (aK (l4 (a,b,c,d)),false))) (.nx ρa)/\Sub (br [("_law_p", .int N,false),("_law_side", cS s,false),("_law_four", t4 a b c d,false)]) ρa:=by
  have hf:aa (gw [t4 a b c d]) (.bl true):=Ie (by rw[Q8 _ (by decide),Q8 _ (by decide),p1,p2]) (by rw[Q8 _ (by decide),Q8 _ (by decide),p1,p3]) (by rw[Q8 _ (by decide),Q8 _ (by decide),p1,p4])
  have m1:bf a a:=cR (by omega)
  have m2:bf b b:=cR (by omega)
  have m3:bf c c:=cR (by omega)
  have m4:bf d d:=cR (by omega)
  have m5:bf 4 N:=cR (by omega)
  have hsum:a*a+(b*b+(c*c+(d*d+0)))=4*N:=by omega
  clear hs p1 p2 p3 p4 b1 b2 b3 b4 ht tpp hM bq
  rcases hx with rfl|⟨u,rfl,hl,hlt⟩
  ·exact fK (sb.put _ _) (cH (cI (d7 (xD (bH ∅ hf) rfl) (d7 ((∅).bl (wZ hsum)) iA))) rfl (cH ∅ rfl db)) fun ρ' s'=>ae s'.get (ae s'.get (ae s'.get aO))
  ·match u,hl,sb,hlt with
   | [a',b',c',d'],_,sb,hlt =>
    have hn:(true && !HT.lexLt [a',b',c',d'] [a,b,c,d])=false:=by
     have:HT.lexLt [a',b',c',d'] [a,b,c,d]=true:=hlt
     rw[this];rfl
    exact fK (sb.put _ _) (cH (cI (d7 (xD (bH ∅ hf) rfl) (d7 ((∅).bl (wZ hsum)) iA))) rfl (cH ((v8 ∅ ∅).bl hn) rfl db)) fun ρ' s'=>ae s'.get (ae s'.get (ae s'.get aO))
 obtain⟨ρa,g1,sa⟩:=one
 obtain⟨oo,c1,c2⟩:=HM (a,b,c,d)
 have em:((il s (a,b,c,d)).map l4).map aK=(il s (a,b,c,d)).map dq:=by rw[RT];rfl
 have hmax:ED X ρa (.Call (.Name (Str.ofString "max") (HS ((cu ((am (al 38)).getD 2 (.Pass ⟨0,0,0,0⟩))).getD 2 (.Pass ⟨0,0,0,0⟩))).1) [(HS ((cu ((am (al 38)).getD 2 (.Pass ⟨0,0,0,0⟩))).getD 2 (.Pass ⟨0,0,0,0⟩))).2.1] [] (HS ((cu ((am (al 38)).getD 2 (.Pass ⟨0,0,0,0⟩))).getD 2 (.Pass ⟨0,0,0,0⟩))).2.2) (aK (l4 (a,b,c,d))) 0:=by
  refine FN (l:=(il s (a,b,c,d)).map l4) (k:=0) G rfl ?_ (fun _ _ z=>nomatch z) (fun t ht=>?_) tpp
  ·rw[em]
   exact Dt (aX (iB sa (bH ∅ hM)) b8) G
  ·obtain⟨q,_,rfl⟩:=QB.mp ht
   exact SJ _ _
 obtain⟨ρb,g2,sb2⟩:∃ρb,aa (aA ic ((cu ((am (al 38)).getD 2 (.Pass ⟨0,0,0,0⟩))).drop 3) (ac (al 38)) ρa) (.nx ρb)/\∃f',Sub (br [("_law_p", .int N,false),("_law_side", cS s,false),("_law_ahead", aK (l4 (a,b,c,d)),f')]) ρb:=fK sa ∅ fun ρ' s'=>⟨_,ae s'.get (ae s'.get (ae s'.get aO))⟩
 exact⟨ρb,jg 2 G hp g1 (dG (ρ1:=ρa) (CG (t:=false) (ym (k:=0) (j:=1) G.room hmax (dX (o:=false) (sa.get:ρa (Str.ofString "_law_four")=some (t4 a b c d,false)) rfl) c1 c2 rfl) (eF _ db G hp)) (eF _ g2 G hp)),sb2⟩
theorem Ik(h1:1<=n)(h2:n<=97)(X:Cx)(H0:Hp)(G:aL ic X (ac (al 38)))(hp:PassesOwn (model X.prog X.w) X.A X.env X.xe)(sb:Sub (br [("_law_found", .lst ((bN (cg s n)).map aK),false),("_law_p", .int (n:Int),false),("_law_side", cS s,false),("_law_ahead", .non,true)]) ρ):cX X H0 ρ ((am (al 38)).drop 2) (.rt (.bl true)):=by
 have sd:=sb.demote (mW ((am (al 38)).getD 2 (.Pass ⟨0,0,0,0⟩)))
 obtain⟨ρ',hch,x,f,_,_,s3⟩:=m8 (X:=X) (H0:=H0) (tg:=xC ((am (al 38)).getD 2 (.Pass ⟨0,0,0,0⟩))) (body:=cu ((am (al 38)).getD 2 (.Pass ⟨0,0,0,0⟩))) (h:=aK) (fun q ρ => ∃(x:D) (f:Bool),(x=.non\/∃u,x=aK u/\u.length=4/\∀t∈q,HT.lexLt u t=true)/\((∀t∈q,t∈cg s n)/\q.Pairwise fun a b=>HT.lexLt a b=true)/\Sub (br [("_law_p", .int (n:Int),false),("_law_side", cS s,false),("_law_ahead", x,f)]) ρ) (bN (cg s n)) (demote (mW ((am (al 38)).getD 2 (.Pass ⟨0,0,0,0⟩))) ρ) ⟨.non,true,.inl rfl,⟨fun t h=>(b9 _).mem_iff.mp h,GP (Ae s n)⟩,ae sd.get (ae sd.get (ae sd.get aO))⟩ (by
  rintro t q ρ ⟨x,f,hx,⟨hm,hw⟩,s⟩
  have hF:=hm t Qj
  obtain⟨ρ2,h5,f',hI⟩:=Fr (N:=(n:Int)) (t:=t) (x:=x) (f:=f) X H0 G hp ⟨by omega,by omega⟩ hF (by
   rcases hx with h|⟨u,e,hl,h⟩
   ·exact .inl h
   ·exact .inr ⟨u,e,hl,h t Qj⟩) s
  refine⟨_,pu G rfl,ρ2,h5,aK t,f',.inr ⟨t,rfl,?_,(Q6.mp hw).1⟩,⟨fun t h=>hm t (Qi _ h),(Q6.mp hw).2⟩,hI⟩
  obtain⟨q,rfl⟩:=eG (fO hF)
  rfl)
 refine dG (pX hp G.calm (jz (k:=1) (dX (o:=false) sd.get rfl)) (Ql 1) hch fun _=>rfl) ?_
 exact eF _ ∅ G hp
theorem xT:∀ds r,aa (jK ds) r->pR ic (ac (al 38)) ["_law_found", "_law_p", "_law_side"] (am (al 38)) ds r:=by
 rintro ds r ⟨l,h,hp⟩
 unfold jK at h
 split at h
 ·rename_i l N y
  split at h
  ·rename_i s hs
   cases h
   obtain⟨hN,rfl,_⟩:=hp
   obtain⟨h1,h2,h3⟩:=sN N hN
   obtain⟨n,rfl⟩:∃n:Nat,N=(n:Int):=⟨N.toNat,by omega⟩
   rw[si hs]
   refine⟨rfl,fun X H0 G hps=>?_⟩
   obtain⟨ρ',g1,g2⟩:=Il (s:=s) (n:=n) (by omega) (by omega) (by simpa using h3)
   exact jg 2 G hps g1 (Ik (by omega) (by omega) X H0 G hps g2)
  ·cases h
 ·cases h
noncomputable def AL:Fx:=Tb [] [] BL IL ML TL dy
noncomputable def lX:List D->Rs D:=du AL (ac (al 35)) ["_law_n"] (am (al 35))
theorem FG{n:Int}(hn:n∈fq):aa (lX [.int n]) (.lst ((dJ n).map dq)):=by
 have hb:n.natAbs<=97:=by
  have:∀x∈fq,x.natAbs<=97:=by decide
  exact this n hn
 have m4:bf 4 n:=cR (by decide)
 refine iN (ej 3 ∅ (P8 (Q:=Sub (br [("_law_found", .lst ((dJ n).map dq),true)])) 1 ?_ fun ρ1 s=>fH s ∅))
 refine o3 (mV (h:=D.int) (g:=xB n) (T:=dJ n) (F:=[]) (R:=[]) (fun F ρ=>Sub (br [("_law_n", .int n,false),("_law_roots", .dct (nA iq) (vB iq),true),("_law_found", .lst (F.map dq),true)]) ρ) ([0,1]:List Int) ∅ rfl (ae rfl (ae rfl (ae rfl aO))) (by simp only[List.nil_append,QP];rfl) fun par hpar F R ρ e s=>⟨_,rfl,?_⟩) fun ρ s=>o4 (ae s.get aO)
 have hpar:par=0\/par=1:=by simpa using hpar
 have s1:=s.put (Str.ofString "_law_parity") (.int par,false)
 refine Lf (dc (d:=.lst ((en n par).map D.int)) (iB s1 (ot (l:=(List.range 41).map fun i:Nat => -20+(i:Int)) (g:=D.int) (f:=D.int) (t:=fun k=>decide (k.fmod 2=par)&&decide (k*k<=4*n)) ∅ (by rw[RT];rfl) (by simp;decide) (.inr (QC _)) fun x hx=>⟨_,0,rfl,?_,fun _=>∅⟩))) ?_
 ·have hx:-20<=x/\x<=20:=by
   obtain⟨i,hi,rfl⟩:=QB.mp hx
   have:i<41:=by simpa using hi
   omega
  have mx:bf x x:=cR (by omega)
  exact v8 (∅.bl (gq _ _)) ∅
 have sl:=r9 (n:=n) hpar
 have fl:=tM n
 have s2:=s1.put (Str.ofString "_law_some") (.lst ((en n par).map D.int),true)
 refine o3 (mV (h:=D.int) (g:=xA n par) (T:=dJ n) (F:=F) (R:=R) (fun F ρ=>Sub (br [("_law_n", .int n,false),("_law_roots", .dct (nA iq) (vB iq),true),("_law_found", .lst (F.map dq),true),("_law_parity", .int par,false),("_law_some", .lst ((en n par).map D.int),false)]) ρ) (en n par) (iB (s2.demote _) ∅) rfl (ae (s2.demote _).get (ae (s2.demote _).get (ae (s2.demote _).get (ae (s2.demote _).get (ae (s2.demote _).get aO))))) e fun a ha F R ρ e s=>⟨_,rfl,?_⟩) fun ρ s=>o4 (ae s.get (ae s.get (ae s.get aO)))
 have s3:=s.put (Str.ofString "_law_a") (.int a,false)
 refine o3 (mV (h:=D.int) (g:=xz n par a) (T:=dJ n) (F:=F) (R:=R) (fun F ρ=>Sub (br [("_law_n", .int n,false),("_law_roots", .dct (nA iq) (vB iq),true),("_law_found", .lst (F.map dq),true),("_law_parity", .int par,false),("_law_some", .lst ((en n par).map D.int),false),("_law_a", .int a,false)]) ρ) (en n par) (iB (s3.demote _) ∅) rfl (ae (s3.demote _).get (ae (s3.demote _).get (ae (s3.demote _).get (ae (s3.demote _).get (ae (s3.demote _).get (ae (s3.demote _).get aO)))))) e fun b hb F R ρ e s=>⟨_,rfl,?_⟩) fun ρ s=>o4 (ae s.get (ae s.get (ae s.get (ae s.get (ae s.get aO)))))
 have s4:=s.put (Str.ofString "_law_b") (.int b,false)
 refine o3 (mV (h:=D.int) (g:=j7 n par a b) (T:=dJ n) (F:=F) (R:=R) (fun F ρ=>Sub (br [("_law_n", .int n,false),("_law_roots", .dct (nA iq) (vB iq),true),("_law_found", .lst (F.map dq),true),("_law_parity", .int par,false),("_law_some", .lst ((en n par).map D.int),false),("_law_a", .int a,false),("_law_b", .int b,false)]) ρ) (en n par) (iB (s4.demote _) ∅) rfl (ae (s4.demote _).get (ae (s4.demote _).get (ae (s4.demote _).get (ae (s4.demote _).get (ae (s4.demote _).get (ae (s4.demote _).get (ae (s4.demote _).get aO))))))) e fun c hc F R ρ e s=>⟨_,rfl,?_⟩) fun ρ s=>o4 (ae s.get (ae s.get (ae s.get (ae s.get (ae s.get (ae s.get aO))))))
 obtain⟨_,a1,a2⟩:=fZ ha
 obtain⟨_,b1,b2⟩:=fZ hb
 obtain⟨_,c1,c2⟩:=fZ hc
 have ma:bf a a:=cR (by omega)
 have mb:bf b b:=cR (by omega)
 have mc:bf c c:=cR (by omega)
 have e0:=e
 have le:F.length+(j7 n par a b c).length<=37044:=by
  have:(F++(j7 n par a b c++R)).length<=37044:=by rw[e];exact fl
  simp only[Qr]at this
  omega
 have s5:=s.put (Str.ofString "_law_c") (.int c,false)
 have hget:=zK (nF n a b c) iq
 unfold j7 at le⊢
 cases hr:sw iq (nF n a b c)with
 | none =>
  have hin:fC (nA iq) (.inl (nF n a b c))=false:=by rw[tG,hr];rfl
  refine fK s5 (ej 1 ∅ (cH (t:=false) (k:=0) (cI (hZ (b:=false) (k:=0) (dB ∅ ∅ (r:=false) (pr hin)) (fun z=>by cases z) (fun _=>rfl))) rfl db)) fun ρ' s'=>?_
  simp only[QP]
  exact ae s'.get (ae s'.get (ae s'.get (ae s'.get (ae s'.get (ae s'.get (ae s'.get aO))))))
 | some d =>
  have hin:fC (nA iq) (.inl (nF n a b c))=true:=by rw[tG,hr];rfl
  rw[hr]at hget le
  obtain⟨_,d1,d2⟩:=vA hr
  dsimp only at le⊢
  by_cases hp:d.fmod 2=par
  ·rw[if_pos hp]at le⊢
   by_cases hl:0<nF n a b c
   ·rw[if_pos hl]at le⊢
    simp only[Qw,Rl]at le
    have l1:(F.map dq).length<bc:=by rw[Qp];show _<40000;omega
    have l2:(F.map dq++[dq (a,b,c,d)]).length<bc:=by rw[Qr,Qp];show _+1<40000;omega
    refine fK s5 (ej 1 ∅ (oS (t:=true) (k:=0) (cI (gU (k:=0) (dB ∅ ∅ (r:=true) (pr hin)) (gU (k:=0) (dB (pE (h8 ∅ ∅ rfl hget) ∅ ∅) ∅ (r:=true) (∅.eq ((gq _ _).trans (QM hp)))) jC))) rfl (bA (ly (l:=F.map dq) (l':=F.map dq++[dq (a,b,c,d)]) (aX (tU (aX ∅ (aX ∅ (aX ∅ (aX (h8 ∅ ∅ rfl hget) b8)))) (Si rfl)) b8) rfl (pO l1)) (oS (t:=decide (0<nF n a b c)) (k:=0) ∅ (QM hl) (bA (ly (l:=F.map dq++[dq (a,b,c,d)]) (l':=F.map dq++[dq (a,b,c,d)]++[dq (a,b,c,-d)]) (aX (tU (aX ∅ (aX ∅ (aX ∅ (aX (Jd (h8 ∅ ∅ rfl hget)) b8)))) (Si rfl)) b8) rfl (pO l2)) db))))) fun ρ' s'=>?_
    rw[R4]
    exact ae s'.get (ae s'.get (ae (s'.get.trans (by rw[QQ];rfl)) (ae s'.get (ae s'.get (ae s'.get (ae s'.get aO))))))
   ·rw[if_neg hl]at le⊢
    simp only[Qw,Rl]at le
    have l1:(F.map dq).length<bc:=by rw[Qp];show _<40000;omega
    refine fK s5 (ej 1 ∅ (oS (t:=true) (k:=0) (cI (gU (k:=0) (dB ∅ ∅ (r:=true) (pr hin)) (gU (k:=0) (dB (pE (h8 ∅ ∅ rfl hget) ∅ ∅) ∅ (r:=true) (∅.eq ((gq _ _).trans (QM hp)))) jC))) rfl (bA (ly (l:=F.map dq) (l':=F.map dq++[dq (a,b,c,d)]) (aX (tU (aX ∅ (aX ∅ (aX ∅ (aX (h8 ∅ ∅ rfl hget) b8)))) (Si rfl)) b8) rfl (pO l1)) (cH (t:=decide (0<nF n a b c)) (k:=0) ∅ (QD hl) db)))) fun ρ' s'=>?_
    rw[R4]
    exact ae s'.get (ae s'.get (ae s'.get (ae s'.get (ae s'.get (ae s'.get (ae s'.get aO))))))
  ·rw[if_neg hp]at le⊢
   refine fK s5 (ej 1 ∅ (cH (t:=false) (k:=0) (cI (gU (k:=0) (dB ∅ ∅ (r:=true) (pr hin)) (hZ (b:=false) (k:=0) (dB (pE (h8 ∅ ∅ rfl hget) ∅ ∅) ∅ (r:=false) (∅.eq ((gq _ _).trans (QD hp)))) (fun z=>by cases z) (fun _=>rfl)))) rfl db)) fun ρ' s'=>?_
   simp only[QP]
   exact ae s'.get (ae s'.get (ae s'.get (ae s'.get (ae s'.get (ae s'.get (ae s'.get aO))))))
noncomputable def u6:Fx:=Tb [("chosen", gm)] [("Nought", .xc "Nought" none),("TooGreat", .xc "TooGreat" none),("NoSide", .xc "NoSide" none),("NoPrime", .xc "NoPrime" none),("Divided", .xc "Divided" none),("NoLine", .xc "NoLine" none),("NoName", .xc "NoName" none),("NoOrder", .xc "NoOrder" none),("NoText", .xc "NoText" none),("NoTurn", .xc "NoTurn" none)] BL IL ML TL dy
noncomputable def nN:Str->Option (List D->Option Xs):=fun g=>([("chosen", dM)]:List (Str×(List D->Option Xs))).lookup g
noncomputable def cP:List D->Rs D:=fun ds=>match dM ds with
 | some r=>.ok (.tup [.bl (decide (r=kl)),.bl (decide (r=nu))]) []
 | none=>.st
theorem qB:∀ds r,aa (cP ds) r->uw u6 nN EX (ac (al 37)) ["_law_p", "_law_side"] ((am (al 37)).take 1) (Gk ((am (al 37)).getD 1 (.Pass ⟨0,0,0,0⟩))) ((am (al 37)).drop 2) "SpaceError" "_law_e" "_law_error" ds r:=by
 intro ds r h
 unfold cP at h
 split at h
 ·rename_i r' hz
  obtain⟨N,y,rfl,hr⟩:=KE hz
  rcases hr with rfl|rfl
  ·cases aE h
   exact yj ∅ (Rt.exp ∅ rfl rfl hz) ∅
  ·cases aE h
   exact yj ∅ (Rt.exp ∅ rfl rfl hz) ∅
 ·exact(ao h).elim
noncomputable def j9:Fx:=Tb [("_law_cell", oE),("chosen", gm),("_law_all", jK),("_law_fours", lX),("_law_mates", iV),("_law_refused", cP)] [] BL IL ML TL dy
noncomputable def rK:List D->Rs D:=du j9 (ac (al 39)) ["_law_script"] (am (al 39))
theorem yK(h:iZ y=true):aa (cP [.int N,.str y]) (.tup [.bl true,.bl false]):=by
 have hz:dM [.int N,.str y]=some kl:=if_pos h
 unfold cP
 rw[hz]
 exact aa.eq cO (by rw[show decide (kl=kl)=true by decide +kernel,show decide (kl=nu)=false by decide +kernel])
theorem G8(h:N=2\/N∉fq):aa (cP [.int N,cS s]) (.tup [.bl false,.bl true]):=by
 have hz:dM [.int N,cS s]=some nu:=by
  cases s
  ·show(if iZ (sk false)=true then some kl else match dO (sk false)with|some _=>if N=2\/N∉fq then some nu else none|none=>none)=_
   rw[if_neg (by decide +kernel),show dO (sk false)=some false by decide +kernel]
   exact if_pos h
  ·show(if iZ (sk true)=true then some kl else match dO (sk true)with|some _=>if N=2\/N∉fq then some nu else none|none=>none)=_
   rw[if_neg (by decide +kernel),show dO (sk true)=some true by decide +kernel]
   exact if_pos h
 unfold cP
 rw[hz]
 exact aa.eq cO (by rw[show decide (nu=kl)=false by decide +kernel,show decide (nu=nu)=true by decide +kernel])
theorem Dp(hN:N∈fc)(s:Bool):aa (gm [.int N,cS s]) (.lst ((bN (cg s N)).map aK)):=by
 cases s
 ·exact⟨_,rfl,hN,True.intro⟩
 ·exact⟨_,rfl,hN,True.intro⟩
theorem Ds(hN:N∈fc)(s:Bool):aa (jK [.lst ((bN (cg s N)).map aK),.int N,cS s]) (.bl true):=by
 cases s
 ·exact⟨_,rfl,hN,rfl,True.intro⟩
 ·exact⟨_,rfl,hN,rfl,True.intro⟩
theorem Fq{f4:Bool}(hN:N∈fc)(hw:w=2\/w∉fq)(hy:iZ y=true)(sb:Sub (br [("_law_p", .int N,f1),("_law_side", cS s,f2),("_law_odd", .int w,f3),("_law_away", .str y,f4)]) ρ):aa (aA j9 ((am (al 39)).drop 13) (ac (al 39)) ρ) (.rt (.bl true)):=by
 have hC:=Dp hN s
 have hA:=Ds hN s
 generalize (bN (cg s N)).map aK=F at *
 refine fH sb (cH (cI (d7 (dB (x:=.tup [.bl false,.bl true]) (y:=.tup [.bl false,.bl true]) (bH ∅ (G8 (s:=s) hw)) ∅ (r:=false) (aa.eq ∅ (by decide +kernel))) (d7 (dB (x:=.tup [.bl true,.bl false]) (y:=.tup [.bl true,.bl false]) (bH ∅ (yK (N:=w) hy)) ∅ (r:=false) (aa.eq ∅ (by decide +kernel))) iA))) rfl ?_)
 exact mq (jB (cI (gU (dB (x:=.tup [.bl true,.bl false]) (y:=.tup [.bl true,.bl false]) (bH ∅ (yK (N:=N) hy)) ∅ (r:=true) (aa.eq ∅ (by decide +kernel))) (gU (bH (aX (bH ∅ hC) (aX ∅ (aX ∅ b8))) hA) jC))))
noncomputable def BA:List Int:=[2,1,0,9,15,21,25,27,33,35,49,77,91,95,98,101,103,-3,-7,4]
noncomputable def CT:List D:=[.int 2,.int 1,.int 0,.int 9,.int 15,.int 21,.int 25,.int 27,.int 33,.int 35,.int 49,.int 77,.int 91,.int 95,.int 98,.int 101,.int 103,.int (-3),.int (-7),.int 4]
theorem E9:∀w∈BA,w=2\/w∉fq:=by decide +kernel
theorem IT(h:w<1\/97<w):w=2\/w∉fq:=.inr fun z=>by have:=Hg w z;omega
theorem vS(hl:CQ L){F:List D}(hN:N∈fc)(hF:F.length<bc)(sb:Sub (br [("_law_script", .lst L,f1),("_law_p", .int N,f2),("_law_side", cS s,f3),("_law_found", .lst F,true)]) ρ):aa (aA j9 ((am (al 39)).drop 8) (ac (al 39)) ρ) (.rt (.bl true)):=by
 have aw:∀(w:Int) (f4:Bool) (ρ:ah),(w=2\/w∉fq)->∀r,Sub (br [("_law_p", .int N,f2),("_law_side", cS s,f3),("_law_rest", .int r,true),("_law_odd", .int w,f4)]) ρ->aa (aA j9 ((am (al 39)).drop 12) (ac (al 39)) ρ) (.rt (.bl true)):=fun w f4 ρ hw r sb=>by
  have a0:=Rr (r.fdiv 128) (show(0:Int)<6 by decide)
  have a1:=RU (r.fdiv 128) (show(0:Int)<6 by decide)
  obtain⟨y,hy,hn⟩:∃y:Str,L2.atI [D.str (Str.ofString ""),D.str (Str.ofString "Left"),D.str (Str.ofString "right "),D.str (Str.ofString "up"),D.str (Str.ofString "lefts"),D.str (Str.ofString "l")] ((r.fdiv 128).fmod 6)=some (.str y)/\iZ y=true:=by
   have:(r.fdiv 128).fmod 6=0\/(r.fdiv 128).fmod 6=1\/(r.fdiv 128).fmod 6=2\/(r.fdiv 128).fmod 6=3\/(r.fdiv 128).fmod 6=4\/(r.fdiv 128).fmod 6=5:=by omega
   rcases this with e|e|e|e|e|e<;>rw[e]<;>exact⟨_,rfl,by decide +kernel⟩
  exact fH sb (bA (dc (d:=.str y) (iR ∅ ∅ rfl hy)) (Fq hN hw hn (ae rfl (ae rfl (ae rfl (ae rfl aO))))))
 refine fH sb (bA (ly (l:=F) (l':=F++[.tup []]) ∅ rfl (pO hF)) (ej 1 ∅ ?_))
 generalize wd L 2=r at *
 have b0:=Rr (r.fdiv 4) (show(0:Int)<20 by decide)
 have b1:=RU (r.fdiv 4) (show(0:Int)<20 by decide)
 obtain⟨w,hw,hat⟩:∃N∈BA,L2.atI CT ((r.fdiv 4).fmod 20)=some (.int N):=rH (f:=D.int) (l:=BA) b0 b1
 refine bA (dc (d:=.int w) (iR (x:=.lst CT) ∅ ∅ rfl hat)) (mv ∅ (fun _=>?_) (fun _=>?_))
 ·have w0:=Rr (r.fdiv 4) (show(0:Int)<10 ^ 39 by decide)
  obtain⟨v,hv,hat2⟩:∃v:Int,(v<1\/97<v)/\L2.atI [D.int (101+(r.fdiv 4).fmod (10 ^ Int.toNat 39)),.int (0-(r.fdiv 4).fmod (10 ^ Int.toNat 39))] ((r.fdiv 8).fmod 2)=some (.int v):=by
   rcases Kb (r.fdiv 8)with e|e<;>rw[e]
   ·exact⟨_,.inr (show(97:Int)<101+(r.fdiv 4).fmod (10 ^ 39) by omega),rfl⟩
   ·exact⟨_,.inl (show 0-(r.fdiv 4).fmod (10 ^ 39)<(1:Int) by omega),rfl⟩
  exact bA (dc (d:=.int v) (iR ∅ ∅ rfl hat2)) (aw v _ _ (IT hv) r (ae rfl (ae rfl (ae rfl (ae rfl aO)))))
 ·exact aw w _ _ (E9 w hw) r (ae rfl (ae rfl (ae rfl (ae rfl aO))))
theorem IF(t:List Int)(ht:∃p,t=l4 p):((il s q).map dq).any (fun y=>fj y (aK t))=decide (t∈fE s (l4 q)):=by
 obtain⟨p,rfl⟩:=ht
 rw[Bool.eq_iff_iff,List.any_eq_true,decide_eq_true_iff,<- sR]
 refine⟨fun⟨y,hy,e⟩=>?_,fun h=>?_⟩
 ·obtain⟨v,hv,rfl⟩:=QB.mp hy
  have:fj (dq v) (dq p)=true:=e
  rw[xE]at this
  exact QB.mpr ⟨v,hv,by rw[Q9 this]⟩
 ·obtain⟨v,hv,e⟩:=QB.mp h
  refine⟨dq v,List.mem_map_of_mem hv,?_⟩
  show fj (dq v) (dq p)=true
  rw[xE]
  exact QM (zq e)
theorem KU(qs:List Qd):SeqAt.shaped (D.tup (qs.map dq)).py=true:=by
 unfold SeqAt.shaped
 rw[Bool.and_eq_true_iff]
 constructor
 ·rw[D.py,PyData.canLay0];exact Lm qs
 ·rw[D.py,PyData.depth];have:=LJ qs;exact QM (by omega)
theorem Lo(p:Qd)(qs:List Qd):aa (iF .In (dq p) (.lst (qs.map dq))) ((qs.map dq).any fun y=>fj y (dq p)) :=
 ⟨[iD (.tup (qs.map dq)) (dq p)=true],rfl,by unfold iD;rw[KU,show SeqAt.shaped (dq p).py=true from rfl];rfl,True.intro⟩
theorem Fp(hl:CQ L)(hN:N∈fc)(sb:Sub (br [("_law_script", .lst L,f1),("_law_p", .int N,f2),("_law_side", cS s,f3),("_law_found", .lst ((bN (cg s N)).map aK),true)]) ρ):aa (aA j9 ((am (al 39)).drop 7) (ac (al 39)) ρ) (.rt (.bl true)):=by
 obtain⟨n1,n2,n3⟩:=sN N hN
 have hP:N∈fq:=by
  have:∀n∈fc,n∈fq:=by decide
  exact this N hN
 have flen:(bN (cg s N)).length<100:=by
  obtain⟨n,rfl⟩:∃n:Nat,N=(n:Int):=⟨N.toNat,by omega⟩
  rw[(b9 _).length_eq,qx s (by omega) (by omega)]
  have:se n=n+1:=by simpa using n3
  omega
 have hFl:((bN (cg s N)).map aK).length<bc:=by rw[Qp];show _<40000;omega
 have h4:∀t∈bN (cg s N),∃p,t=l4 p:=fun t ht=>eG (fO ((b9 _).mem_iff.mp ht))
 have one:∀q,l4 q∈cv N->((bN (cg s N)).filter fun t=>((il s q).map dq).any (fun y=>fj y (aK t))).length=1:=fun q hq=>by
  rw[<- FW (s:=s) n2 hq]
  congr 1
  exact List.filter_congr fun t ht=>IF t (h4 t ht)
 generalize bN (cg s N)=S at *
 refine fH sb (mv ∅ (fun _=>?_) (fun _=>vS hl hN hFl (ae rfl (ae rfl (ae rfl (ae rfl aO))))))
 have l0:=BU hP
 have l1:=tM N
 have fm:∀q∈dJ N,iJ q/\l4 q∈cv N:=fun q hq=>by
  obtain⟨g1,g2⟩:=BV hq
  exact⟨g1.bd (by decide),(ib n2).mpr (yp g1.1 g2)⟩
 have hfq:=FG hP
 have c0:=Rr (wd L 1) (show(0:Int)<((dJ N).length:Int) by omega)
 have c1:=RU (wd L 1) (show(0:Int)<((dJ N).length:Int) by omega)
 obtain⟨q,hq,hat⟩:=rH (f:=dq) (l:=dJ N) c0 c1
 obtain⟨bq,hqa⟩:=fm q hq
 have hM:=vM s bq
 have h1:=one q hqa
 clear one
 generalize il s q=MS at *
 have hlM:((dJ N).map dq).length=(dJ N).length:=Qp _
 generalize (dJ N).map dq=FD at *
 have dv:rG ((FD.length:Nat):Int):=wb (by omega) (by omega)
 have dv1:((FD.length:Nat):Int)≠0:=dv.1
 have dv2:=dv.2
 rw[<- hlM]at hat
 refine bA (dc (d:=.lst FD) (bH ∅ hfq)) (bA (dc (d:=.lst (MS.map dq)) (bH (aX (iR ∅ ∅ rfl hat) (aX ∅ b8)) hM)) (cH (dB (x:=.int 1) (y:=.int 1) (k:=0) (pD (B:=xO) (v:=(.int 1,0)) (aX (ot (l:=S) (g:=aK) (f:=aK) (t:=fun t=>(MS.map dq).any (fun y=>fj y (aK t))) ∅ rfl (by show _<=40000;omega) (.inl (je S)) fun t ht=>?_) b8) ?_) ∅ (y0 rfl)) rfl ?_))
 ·obtain⟨p,rfl⟩:=h4 t ht
  exact⟨_,0,rfl,dB (x:=dq p) (y:=.lst (MS.map dq)) ∅ ∅ (Lo p MS),fun _=>bO rfl (by walk_at "ob")⟩
 ·exact aa.eq (a:=(.int ((((S.filter fun t=>(MS.map dq).any (fun y=>fj y (aK t))).map aK).length:Nat):Int),0)) ∅ (by rw[Qp,h1];rfl)
 ·exact vS hl hN hFl (ae rfl (ae rfl (ae rfl (ae rfl aO))))
noncomputable def BB:List D:=[.int 3,.int 5,.int 7,.int 11,.int 13,.int 17,.int 19,.int 23,.int 29,.int 31,.int 37,.int 41,.int 43,.int 47,.int 53,.int 59,.int 61,.int 67,.int 71,.int 73,.int 79,.int 83,.int 89,.int 97]
theorem BO(ns:List Int)(_:ns.length<=63):aa (rK [.lst (ns.map D.int)]) (.bl true):=by
 have hl:CQ (ns.map D.int):=⟨ns,rfl⟩
 generalize ns.map D.int=L at *
 have tail:∀(N c:Int) (f1 f2 f3:Bool) (ρ:ah),N∈fc->Sub (br [("_law_script", .lst L,f1),("_law_cell_here", .int c,f3),("_law_p", .int N,f2)]) ρ->aa (aA j9 ((am (al 39)).drop 4) (ac (al 39)) ρ) (.rt (.bl true)):=fun N c f1 f2 f3 ρ hN sb=>by
  obtain⟨s,hs⟩:∃s:Bool,L2.atI [D.str (Str.ofString "left"),D.str (Str.ofString "right")] ((c.fdiv 8).fmod 2)=some (cS s):=by
   rcases Kb (c.fdiv 8)with hd|hd<;>rw[hd]
   ·exact⟨false,rfl⟩
   ·exact⟨true,rfl⟩
  have hC:=Dp hN s
  have hA:=Ds hN s
  have fin:∀(f1 f2 f3:Bool) (ρ:ah),Sub (br [("_law_script", .lst L,f1),("_law_p", .int N,f2),("_law_side", cS s,f3),("_law_found", .lst ((bN (cg s N)).map aK),true)]) ρ->aa (aA j9 ((am (al 39)).drop 7) (ac (al 39)) ρ) (.rt (.bl true)):=fun f1 f2 f3 ρ sb=>Fp hl hN sb
  generalize (bN (cg s N)).map aK=F at *
  exact fH sb (bA (dc (d:=cS s) (iR ∅ ∅ rfl hs)) (bA (dc (bH ∅ hC)) (cH (xD (bH ∅ hA) rfl) rfl (fin _ _ _ _ (ae rfl (ae rfl (ae rfl (ae rfl aO))))))))
 refine iN (ej 1 ∅ ?_)
 generalize wd L 0=c at *
 refine bA (dc (d:=.lst BB) ∅) ?_
 have a0:=Rr (c.fdiv 16) (show(0:Int)<5 by decide)
 have a1:=RU (c.fdiv 16) (show(0:Int)<5 by decide)
 have b0:=Rr (c.fdiv 16) (show(0:Int)<24 by decide)
 have b1:=RU (c.fdiv 16) (show(0:Int)<24 by decide)
 obtain⟨N,hN,hat⟩:∃N∈fc,L2.atI BB ((c.fdiv 16).fmod 5)=some (.int N):=rH (f:=D.int) (l:=fc) a0 (Int.lt_of_lt_of_le a1 (by decide))
 obtain⟨M,hM,hat2⟩:∃N∈fc,L2.atI BB ((c.fdiv 16).fmod 24)=some (.int N):=rH (f:=D.int) (l:=fc) b0 b1
 refine bA (dc (d:=.int N) (iR ∅ ∅ rfl hat)) (mv ∅ (fun _=>?_) (fun _=>?_))
 ·exact bA (dc (d:=.int M) (iR ∅ ∅ rfl hat2)) (tail M c _ _ _ _ hM (ae rfl (ae rfl (ae rfl aO))))
 ·exact tail N c _ _ _ _ hN (ae rfl (ae rfl (ae rfl aO)))
theorem M2:aV (aJ (ac (al 28))) ["_law_script", "_law_k"] (ac (al 28)):=⟨rfl,rfl,rfl,by decide +kernel,by decide +kernel,by decide +kernel,by decide +kernel⟩
theorem G5:aV (aJ (ac (al 17))) ["side"] (ac (al 17)):=⟨rfl,rfl,rfl,by decide +kernel,by decide +kernel,by decide +kernel,by decide +kernel⟩
theorem M3:aV (aJ (ac (al 25))) ["odd"] (ac (al 25)):=⟨rfl,rfl,rfl,by decide +kernel,by decide +kernel,by decide +kernel,by decide +kernel⟩
theorem M4:aV (aJ (ac (al 24))) ["n", "odd"] (ac (al 24)):=⟨rfl,rfl,rfl,by decide +kernel,by decide +kernel,by decide +kernel,by decide +kernel⟩
theorem G4:aV (aJ (ac (al 23))) ["n"] (ac (al 23)):=⟨rfl,rfl,rfl,by decide +kernel,by decide +kernel,by decide +kernel,by decide +kernel⟩
theorem M6:aV (aJ (ac (al 15))) [] (ac (al 15)):=⟨rfl,rfl,rfl,by decide +kernel,by decide +kernel,by decide +kernel,by decide +kernel⟩
theorem M8:aV (aJ (ac (al 13))) ["one", "other"] (ac (al 13)):=⟨rfl,rfl,rfl,by decide +kernel,by decide +kernel,by decide +kernel,by decide +kernel⟩
theorem M7:aV (aJ (ac (al 14))) ["one", "other"] (ac (al 14)):=⟨rfl,rfl,rfl,by decide +kernel,by decide +kernel,by decide +kernel,by decide +kernel⟩
theorem M5:aV (aJ (ac (al 18))) ["one", "other", "side"] (ac (al 18)):=⟨rfl,rfl,rfl,by decide +kernel,by decide +kernel,by decide +kernel,by decide +kernel⟩
theorem G3:aV (aJ (ac (al 26))) ["p", "side"] (ac (al 26)):=⟨rfl,rfl,rfl,by decide +kernel,by decide +kernel,by decide +kernel,by decide +kernel⟩
theorem M1:aV (aJ (ac (al 29))) ["_law_x"] (ac (al 29)):=⟨rfl,rfl,rfl,by decide +kernel,by decide +kernel,by decide +kernel,by decide +kernel⟩
theorem M0:aV (aJ (ac (al 30))) ["_law_thing"] (ac (al 30)):=⟨rfl,rfl,rfl,by decide +kernel,by decide +kernel,by decide +kernel,by decide +kernel⟩
theorem MZ:aV (aJ (ac (al 32))) ["_law_one", "_law_other"] (ac (al 32)):=⟨rfl,rfl,rfl,by decide +kernel,by decide +kernel,by decide +kernel,by decide +kernel⟩
theorem MY:aV (aJ (ac (al 34))) [] (ac (al 34)):=⟨rfl,rfl,rfl,by decide +kernel,by decide +kernel,by decide +kernel,by decide +kernel⟩
theorem MW:aV (aJ (ac (al 36))) ["_law_four", "_law_side"] (ac (al 36)):=⟨rfl,rfl,rfl,by decide +kernel,by decide +kernel,by decide +kernel,by decide +kernel⟩
theorem MU:aV (aJ (ac (al 38))) ["_law_found", "_law_p", "_law_side"] (ac (al 38)):=⟨rfl,rfl,rfl,by decide +kernel,by decide +kernel,by decide +kernel,by decide +kernel⟩
theorem MX:aV (aJ (ac (al 35))) ["_law_n"] (ac (al 35)):=⟨rfl,rfl,rfl,by decide +kernel,by decide +kernel,by decide +kernel,by decide +kernel⟩
theorem MV:aV (aJ (ac (al 37))) ["_law_p", "_law_side"] (ac (al 37)):=⟨rfl,rfl,rfl,by decide +kernel,by decide +kernel,by decide +kernel,by decide +kernel⟩
theorem MT:aV (aJ (ac (al 39))) ["_law_script"] (ac (al 39)):=⟨rfl,rfl,rfl,by decide +kernel,by decide +kernel,by decide +kernel,by decide +kernel⟩
theorem cn:∀p∈BL,mj p:=ay (Pr:=mj) (F9) (ay (Pr:=mj) (Aw) (ay (Pr:=mj) (F8) (ay (Pr:=mj) (Ga) (ay (Pr:=mj) (Ax) (ay (Pr:=mj) (Gc) (aH))))))
theorem cm:∀p∈IL,xZ p:=ay (Pr:=xZ) (xy) (ay (Pr:=xZ) (FB) (aH))
theorem ck:∀p∈ML,Kv p:=aH
theorem cj:∀p∈TL,xX p:=ay (Pr:=xX) (xn) (ay (Pr:=xX) (xl) (aH))
theorem cL{P:Program}{w:World}{k0:W.Frag}{base:Heap}{j k:Nat}{g:Str}{F:List D->Rs D}{l:List (Str×(List D->Rs D))}(h:dU P w k0 mg base j g F)(t:∀p∈l,DD P w k0 mg base k p)(hj:j<=k:=by decide):∀p∈(g,F)::l,DD P w k0 mg base k p:=ay (Pr:=DD P w k0 mg base k) (Or.inl (h.mono hj)) t
theorem cN{n:Str}{l:List Str}(h:mg n=none)(t:∀m∈l,mg m=none):∀m∈n::l,mg m=none:=ay (Pr:=fun n=>mg n=none) h t
local macro_rules | `(tactic| walk_at "bn") => `(tactic| (intro _ _ _ _ _ _ us hl;first | (cases Og hl;rfl) | (obtain ⟨x0,e⟩:=Ij hl;subst e;rfl) | (obtain ⟨x0,x1,e⟩:=Ii hl;subst e;rfl) | (obtain ⟨x0,x1,x2,e⟩:=Of hl;subst e;rfl)))
theorem all_mk{w:World}{K:W.Frag}{h:Heap}{fa f28 f17 f25 f24 f23 f15 f13 f14 f18 f26 f29 f30 f32 f34 f36 f38 f35 f37 f39:Addr}(X:K.In h)(G:h.Ns mainGlobals mg)(hfa:mg "law" = some (.ref fa))
  {NH Pz NN PJ NJ PC NK PD NL PF NO PK NQ PM NP PL NM PH NI PB NG Py NF Px NE Pw ND Pv NB Pt Nz Pq NC Pu NA Ps Ny Kl:Option Addr} {MH MO MJ MK MM MP MR MQ MN MI MG MF ME MD MB Mz MC MA Mx:Array (Option Value)} {N0 Ot OS Nm JN Pc N6 OA OY Nt JT Pj N2 Ov OU No JP Pf N3 Ox OV Np JQ Pg N4 Oy OW Nq JR Ph N7 OB OZ Nu JU Pk N9 OE O1 Nw JW Pm N8 OC O0 Nv JV Pl N5 Oz OX Nr JS Pi N1 Ou OT Nn JO Pd NZ Os OR Nl JM Pb NY Oq OQ Nk JL Pa NX Op OP Nj JK O9 NW Oo OO Ni JJ O8 NU Om OM Ng JH O6 NS Oj OK Nd JF O4 NV On ON Nh JI O7 NT Ol OL Nf JG O5 NR Iw Jq Hh B7 Ju:Value}
  (a28:W.nsIn K mainGlobals "_law_cell" = some (some (.ref f28)))    (l28:K.lookup f28=some ⟨N0,NH,.func (W.fnOf "_law_cell" "_law_cell" (bh (al 28)) (am (al 28)) (ac (al 28)) .none Ot OS Nm Pz JN Pc),MH⟩) (c28:W.codeIn K JN "_law_cell" = true) (k28:W.keepIn K (.ref f28)=true)
  (a17:W.nsIn K mainGlobals "refuse_no_side" = some (some (.ref f17)))    (l17:K.lookup f17=some ⟨N6,NN,.func (W.fnOf "refuse_no_side" "refuse_no_side" (bh (al 17)) (am (al 17)) (ac (al 17)) .none OA OY Nt PJ JT Pj),MO⟩) (c17:W.codeIn K JT "refuse_no_side" = true) (k17:W.keepIn K (.ref f17)=true)
  (a25:W.nsIn K mainGlobals "pairs_by_squares" = some (some (.ref f25)))    (l25:K.lookup f25=some ⟨N2,NJ,.func (W.fnOf "pairs_by_squares" "pairs_by_squares" (bh (al 25)) (am (al 25)) (ac (al 25)) .none Ov OU No PC JP Pf),MJ⟩) (c25:W.codeIn K JP "pairs_by_squares" = true) (k25:W.keepIn K (.ref f25)=true)
  (a24:W.nsIn K mainGlobals "alike_of_size" = some (some (.ref f24)))    (l24:K.lookup f24=some ⟨N3,NK,.func (W.fnOf "alike_of_size" "alike_of_size" (bh (al 24)) (am (al 24)) (ac (al 24)) .none Ox OV Np PD JQ Pg),MK⟩) (c24:W.codeIn K JQ "alike_of_size" = true) (k24:W.keepIn K (.ref f24)=true)
  (a23:W.nsIn K mainGlobals "of_size" = some (some (.ref f23)))    (l23:K.lookup f23=some ⟨N4,NL,.func (W.fnOf "of_size" "of_size" (bh (al 23)) (am (al 23)) (ac (al 23)) .none Oy OW Nq PF JR Ph),MM⟩) (c23:W.codeIn K JR "of_size" = true) (k23:W.keepIn K (.ref f23)=true)
  (a15:W.nsIn K mainGlobals "ones" = some (some (.ref f15)))    (l15:K.lookup f15=some ⟨N7,NO,.func (W.fnOf "ones" "ones" (bh (al 15)) (am (al 15)) (ac (al 15)) .none OB OZ Nu PK JU Pk),MP⟩) (lH:W.codeIn K JU "ones" = true) (k15:W.keepIn K (.ref f15)=true)
  (a13:W.nsIn K mainGlobals "plain_product" = some (some (.ref f13)))    (l13:K.lookup f13=some ⟨N9,NQ,.func (W.fnOf "plain_product" "plain_product" (bh (al 13)) (am (al 13)) (ac (al 13)) .none OE O1 Nw PM JW Pm),MR⟩) (c13:W.codeIn K JW "plain_product" = true) (k13:W.keepIn K (.ref f13)=true)
  (a14:W.nsIn K mainGlobals "product" = some (some (.ref f14)))    (l14:K.lookup f14=some ⟨N8,NP,.func (W.fnOf "product" "product" (bh (al 14)) (am (al 14)) (ac (al 14)) .none OC O0 Nv PL JV Pl),MQ⟩) (c14:W.codeIn K JV "product" = true) (k14:W.keepIn K (.ref f14)=true)
  (a18:W.nsIn K mainGlobals "beside" = some (some (.ref f18)))    (l18:K.lookup f18=some ⟨N5,NM,.func (W.fnOf "beside" "beside" (bh (al 18)) (am (al 18)) (ac (al 18)) .none Oz OX Nr PH JS Pi),MN⟩) (c18:W.codeIn K JS "beside" = true) (k18:W.keepIn K (.ref f18)=true)
  (a26:W.nsIn K mainGlobals "chosen" = some (some (.ref f26)))    (l26:K.lookup f26=some ⟨N1,NI,.func (W.fnOf "chosen" "chosen" (bh (al 26)) (am (al 26)) (ac (al 26)) .none Ou OT Nn PB JO Pd),MI⟩) (c26:W.codeIn K JO "chosen" = true) (k26:W.keepIn K (.ref f26)=true)
  (a29:W.nsIn K mainGlobals "_law_whole" = some (some (.ref f29)))    (l29:K.lookup f29=some ⟨NZ,NG,.func (W.fnOf "_law_whole" "_law_whole" (bh (al 29)) (am (al 29)) (ac (al 29)) .none Os OR Nl Py JM Pb),MG⟩) (c29:W.codeIn K JM "_law_whole" = true) (k29:W.keepIn K (.ref f29)=true)
  (a30:W.nsIn K mainGlobals "_law_is_four" = some (some (.ref f30)))    (l30:K.lookup f30=some ⟨NY,NF,.func (W.fnOf "_law_is_four" "_law_is_four" (bh (al 30)) (am (al 30)) (ac (al 30)) .none Oq OQ Nk Px JL Pa),MF⟩) (c30:W.codeIn K JL "_law_is_four" = true) (k30:W.keepIn K (.ref f30)=true)
  (a32:W.nsIn K mainGlobals "_law_times" = some (some (.ref f32)))    (l32:K.lookup f32=some ⟨NX,NE,.func (W.fnOf "_law_times" "_law_times" (bh (al 32)) (am (al 32)) (ac (al 32)) .none Op OP Nj Pw JK O9),ME⟩) (c32:W.codeIn K JK "_law_times" = true) (k32:W.keepIn K (.ref f32)=true)
  (a34:W.nsIn K mainGlobals "_law_units" = some (some (.ref f34)))    (l34:K.lookup f34=some ⟨NW,ND,.func (W.fnOf "_law_units" "_law_units" (bh (al 34)) (am (al 34)) (ac (al 34)) .none Oo OO Ni Pv JJ O8),MD⟩) (c34:W.codeIn K JJ "_law_units" = true) (k34:W.keepIn K (.ref f34)=true)
  (a36:W.nsIn K mainGlobals "_law_mates" = some (some (.ref f36)))    (l36:K.lookup f36=some ⟨NU,NB,.func (W.fnOf "_law_mates" "_law_mates" (bh (al 36)) (am (al 36)) (ac (al 36)) .none Om OM Ng Pt JH O6),MB⟩) (c36:W.codeIn K JH "_law_mates" = true) (k36:W.keepIn K (.ref f36)=true)
  (a38:W.nsIn K mainGlobals "_law_all" = some (some (.ref f38)))    (l38:K.lookup f38=some ⟨NS,Nz,.func (W.fnOf "_law_all" "_law_all" (bh (al 38)) (am (al 38)) (ac (al 38)) .none Oj OK Nd Pq JF O4),Mz⟩) (c38:W.codeIn K JF "_law_all" = true) (k38:W.keepIn K (.ref f38)=true)
  (a35:W.nsIn K mainGlobals "_law_fours" = some (some (.ref f35)))    (l35:K.lookup f35=some ⟨NV,NC,.func (W.fnOf "_law_fours" "_law_fours" (bh (al 35)) (am (al 35)) (ac (al 35)) .none On ON Nh Pu JI O7),MC⟩) (c35:W.codeIn K JI "_law_fours" = true) (k35:W.keepIn K (.ref f35)=true)
  (a37:W.nsIn K mainGlobals "_law_refused" = some (some (.ref f37)))    (l37:K.lookup f37=some ⟨NT,NA,.func (W.fnOf "_law_refused" "_law_refused" (bh (al 37)) (am (al 37)) (ac (al 37)) .none Ol OL Nf Ps JG O5),MA⟩) (c37:W.codeIn K JG "_law_refused" = true) (k37:W.keepIn K (.ref f37)=true)
  (a39:W.nsIn K mainGlobals "law" = some (some (.ref f39)))    (l39:K.lookup f39=some ⟨NR,Ny,.func (W.fnOf "law" "law" (bh (al 39)) (am (al 39)) (ac (al 39)) .none Iw Jq Hh Kl B7 Ju),Mx⟩) (c39:W.codeIn K B7 "law" = true) (k39:W.keepIn K (.ref f39)=true)
  {mi:Addr} (pK:W.nsIn K mainGlobals "Divided" = some (some (.ref mi)))
  {oN:Addr} (qY:W.nsIn K mainGlobals "NoLine" = some (some (.ref oN)))
  {oM:Addr} (qX:W.nsIn K mainGlobals "NoName" = some (some (.ref oM)))
  {mh:Addr} (pJ:W.nsIn K mainGlobals "NoOrder" = some (some (.ref mh)))
  {ci:Addr} (gX:W.nsIn K mainGlobals "NoPrime" = some (some (.ref ci)))
  {cG:Addr} (iS:W.nsIn K mainGlobals "NoSide" = some (some (.ref cG)))
  {oK:Addr} (qW:W.nsIn K mainGlobals "NoText" = some (some (.ref oK)))
  {oJ:Addr} (qV:W.nsIn K mainGlobals "NoTurn" = some (some (.ref oJ)))
  {oH:Addr} (qU:W.nsIn K mainGlobals "Nought" = some (some (.ref oH)))
  {bP:Addr} (gJ:W.nsIn K mainGlobals "SpaceError" = some (some (.ref bP)))
  {bQ:Addr} (gu:W.nsIn K mainGlobals "TooGreat" = some (some (.ref bQ)))
  (wL:fx K "Divided" mi=true) (xJ:gK K mi=true)
  (yF:fx K "NoLine" oN=true) (Ak:gK K oN=true)
  (yE:fx K "NoName" oM=true) (Aj:gK K oM=true)
  (wK:fx K "NoOrder" mh=true) (xI:gK K mh=true)
  (wJ:fx K "NoPrime" ci=true) (xH:gK K ci=true)
  (yD:fx K "NoSide" cG=true) (Ai:gK K cG=true)
  (yC:fx K "NoText" oK=true) (Ah:gK K oK=true)
  (yB:fx K "NoTurn" oJ=true) (Ag:gK K oJ=true)
  (yA:fx K "Nought" oH=true) (Af:gK K oH=true)
  (uO:fx K "TooGreat" bQ=true) (uU:gK K bQ=true)
  (xs0:W.specialIn K (.builtin "object.__class__") "__get__" = some (some (.builtin "getset_descriptor.__get__"))) (xt0:W.takesIn K (.builtin "object.__class__")=some true)
  (wy:lB K ci bP=true) (wx:W.findIn K (.ref ci) "__getattribute__" = some (some (.builtin "BaseException.__getattribute__"))) (ww:W.findIn K (.ref ci) "__getattr__" = some none) (wv:W.findIn K (.ref ci) "__class__" = some (some (.builtin "object.__class__"))) (wu:W.mroIn K ci (.type "object")=some true) (wt:W.exmOne K (.ref ci) (.ref bP)=some true) (wq:eR K ci=none)
  (yc:lB K cG bP=true) (yb:W.findIn K (.ref cG) "__getattribute__" = some (some (.builtin "BaseException.__getattribute__"))) (ya:W.findIn K (.ref cG) "__getattr__" = some none) (x9:W.findIn K (.ref cG) "__class__" = some (some (.builtin "object.__class__"))) (x8:W.mroIn K cG (.type "object")=some true) (x6:W.exmOne K (.ref cG) (.ref bP)=some true) (x5:eR K cG=none)
  (uL:lB K bQ bP=true) (uK:W.findIn K (.ref bQ) "__getattribute__" = some (some (.builtin "BaseException.__getattribute__"))) (uJ:W.findIn K (.ref bQ) "__getattr__" = some none) (uI:W.findIn K (.ref bQ) "__class__" = some (some (.builtin "object.__class__"))) (uH:W.mroIn K bQ (.type "object")=some true) (uG:W.exmOne K (.ref bQ) (.ref bP)=some true) (uF:eR K bQ=none)
  {tk1:Tok} (g1:W.nsIn K mainGlobals "MOST_PART" = some (some (.int (19) tk1)))
  {tk2:Tok} (g2:W.nsIn K mainGlobals "MOST_SIZE" = some (some (.int (97) tk2)))
  {JY:Addr} {Mv:Array (Option Value)} {Ob:Nat} {Gw Gv Gu Gs Gr Gq Gp Go Gn Gm D2 D1 DZ DY DX DW DV DU DT DS DR DQ DP DO DN:Tok} (g11:W.nsIn K mainGlobals "PRIMES" = some (some (.ref JY))) (m11:K.lookup JY=some ⟨.type "tuple", none,.seq #[.int (2) Gw,.int (3) Gv,.int (5) Gu,.int (7) Gs,.int (11) Gr,.int (13) Gq,.int (17) Gp,.int (19) Go,.int (23) Gn,.int (29) Gm,.int (31) D2,.int (37) D1,.int (41) DZ,.int (43) DY,.int (47) DX,.int (53) DW,.int (59) DV,.int (61) DU,.int (67) DT,.int (71) DS,.int (73) DR,.int (79) DQ,.int (83) DP,.int (89) DO,.int (97) DN] Ob,Mv⟩)
  (z0:W.nsIn K mainGlobals "len" = some none)    (z1:W.nsIn K mainGlobals "tuple" = some none)    (z2:W.nsIn K mainGlobals "list" = some none)    (z3:W.nsIn K mainGlobals "abs" = some none)    (z4:W.nsIn K mainGlobals "all" = some none)    (z5:W.nsIn K mainGlobals "sum" = some none)    (z6:W.nsIn K mainGlobals "isinstance" = some none)    (z7:W.nsIn K mainGlobals "set" = some none)    (z8:W.nsIn K mainGlobals "int" = some none)    (z9:W.nsIn K mainGlobals "bool" = some none)    (z10:W.nsIn K mainGlobals "str" = some none)    (z11:W.nsIn K mainGlobals "range" = some none)    (z12:W.nsIn K mainGlobals "zip" = some none)    (z13:W.nsIn K mainGlobals "enumerate" = some none)    (z14:W.nsIn K mainGlobals "any" = some none)    (z15:W.nsIn K mainGlobals "sorted" = some none)    (z16:W.nsIn K mainGlobals "min" = some none)    (z17:W.nsIn K mainGlobals "max" = some none)    (z18:W.nsIn K mainGlobals "reversed" = some none)    (z19:W.nsIn K mainGlobals "ValueError" = some none) :
  ∃fd:FuncData,(∀(s:Shared) (v:Value),BindsTo s fd ⟨[v],[]⟩ [("_law_script", v)])/\∀base:Heap,K.In base->base.Ns mainGlobals mg->bG l.prog w K mg base eh 6 fa fd ["_law_script"] (km K rK):=by
 have e:=hfa.symm.trans (QU X G a39)
 cases e
 have hbl:∀n∈iH,mg n=none:=cN (QZ X G z0) (cN (QZ X G z1) (cN (QZ X G z2) (cN (QZ X G z3) (cN (QZ X G z4) (cN (QZ X G z5) (cN (QZ X G z6) (cN (QZ X G z7) (cN (QZ X G z8) (cN (QZ X G z9) (cN (QZ X G z10) (cN (QZ X G z11) (cN (QZ X G z12) (cN (QZ X G z13) (cN (QZ X G z14) (cN (QZ X G z15) (cN (QZ X G z16) (cN (QZ X G z17) (cN (QZ X G z18) (cN (QZ X G z19) (aH))))))))))))))))))))
 have hmg:∀n C,W.nsIn K mainGlobals n=some (some (.ref C))->mg n=some (.ref C):=fun n C h=>QU X G h
 have hEx:Cq K EX:=FI (ay (Pr:=Dv K) (⟨ci,bP,gX,gJ,⟨wy,wx,ww,wv,xs0,xt0,wu⟩,wt,fun _ z=>by cases z⟩) (ay (Pr:=Dv K) (⟨cG,bP,iS,gJ,⟨yc,yb,ya,x9,xs0,xt0,x8⟩,x6,fun _ z=>by cases z⟩) (ay (Pr:=Dv K) (⟨bQ,bP,gu,gJ,⟨uL,uK,uJ,uI,xs0,xt0,uH⟩,uG,fun _ z=>by cases z⟩) (aH))))
 have F28:=bY (st:=(al 28)) l28 c28 k28
 have b28:=F28.binds (ps:=["_law_script", "_law_k"]) (by walk_at "bn")
 have F17:=bY (st:=(al 17)) l17 c17 k17
 have b17:=F17.binds (ps:=["side"]) (by walk_at "bn")
 have F25:=bY (st:=(al 25)) l25 c25 k25
 have b25:=F25.binds (ps:=["odd"]) (by walk_at "bn")
 have F24:=bY (st:=(al 24)) l24 c24 k24
 have b24:=F24.binds (ps:=["n", "odd"]) (by walk_at "bn")
 have F23:=bY (st:=(al 23)) l23 c23 k23
 have b23:=F23.binds (ps:=["n"]) (by walk_at "bn")
 have F15:=bY (st:=(al 15)) l15 lH k15
 have b15:=F15.binds (ps:=[]) (by walk_at "bn")
 have F13:=bY (st:=(al 13)) l13 c13 k13
 have b13:=F13.binds (ps:=["one", "other"]) (by walk_at "bn")
 have F14:=bY (st:=(al 14)) l14 c14 k14
 have b14:=F14.binds (ps:=["one", "other"]) (by walk_at "bn")
 have F18:=bY (st:=(al 18)) l18 c18 k18
 have b18:=F18.binds (ps:=["one", "other", "side"]) (by walk_at "bn")
 have F26:=bY (st:=(al 26)) l26 c26 k26
 have b26:=F26.binds (ps:=["p", "side"]) (by walk_at "bn")
 have F29:=bY (st:=(al 29)) l29 c29 k29
 have b29:=F29.binds (ps:=["_law_x"]) (by walk_at "bn")
 have F30:=bY (st:=(al 30)) l30 c30 k30
 have b30:=F30.binds (ps:=["_law_thing"]) (by walk_at "bn")
 have F32:=bY (st:=(al 32)) l32 c32 k32
 have b32:=F32.binds (ps:=["_law_one", "_law_other"]) (by walk_at "bn")
 have F34:=bY (st:=(al 34)) l34 c34 k34
 have b34:=F34.binds (ps:=[]) (by walk_at "bn")
 have F36:=bY (st:=(al 36)) l36 c36 k36
 have b36:=F36.binds (ps:=["_law_four", "_law_side"]) (by walk_at "bn")
 have F38:=bY (st:=(al 38)) l38 c38 k38
 have b38:=F38.binds (ps:=["_law_found", "_law_p", "_law_side"]) (by walk_at "bn")
 have F35:=bY (st:=(al 35)) l35 c35 k35
 have b35:=F35.binds (ps:=["_law_n"]) (by walk_at "bn")
 have F37:=bY (st:=(al 37)) l37 c37 k37
 have b37:=F37.binds (ps:=["_law_p", "_law_side"]) (by walk_at "bn")
 have F39:=bY (st:=(al 39)) l39 c39 k39
 have hEI:∀base k,0<=k->KB l.prog w K mg base k EX:=fun base k hk=>IZ (ay (Pr:=Du l.prog w K mg base k) (⟨ci,gX,fun _=>wq,fun _ z=>by cases z⟩) (ay (Pr:=Du l.prog w K mg base k) (⟨cG,iS,fun _=>x5,fun _ z=>by cases z⟩) (ay (Pr:=Du l.prog w K mg base k) (⟨bQ,gu,fun _=>uF,fun _ z=>by cases z⟩) (aH))))
 refine⟨W.fnOf "law" "law" (bh (al 39)) (am (al 39)) (ac (al 39)) .none Iw Jq Hh Kl B7 Ju,fun s v=>.of_eq rfl,fun base _ _=>?_⟩
 have D28:dU l.prog w K mg base 1 "_law_cell" oE:=dz F28 M2 (QU X G a28) b28 (by decide +kernel) (bL (aH) (aH) cn cm ck cj bo hbl) u8
 have Q17:kE l.prog w K mg base 1 "refuse_no_side" cU:=.inl ⟨_,_,["side"],tP (Ex:=EX) F17 G5 (bL (aH) (aH) cn cm ck cj bo hbl) (oY (aH)) hmg (hEI _ _ (by decide)) kF,QU X G a17,k17,b17,by decide +kernel⟩
 have D17:dU l.prog w K mg base 1 "refuse_no_side" dN:=dz F17 G5 (QU X G a17) b17 (by decide +kernel) (bL (aH) (aH) cn cm ck cj bo hbl) kG
 have D25:dU l.prog w K mg base 1 "pairs_by_squares" cC:=lw (mX F25 M3 (bL (aH) (ay (Pr:=dk mg K) (jH (QU X G g1)) (aH)) cn cm ck cj bo hbl) jJ) (QU X G a25) k25 b25 (by decide +kernel)
 have D24:dU l.prog w K mg base 2 "alike_of_size" cE:=lw (mX F24 M4 (bL (cL D25 (aH)) (aH) cn cm ck cj bo hbl) lV) (QU X G a24) k24 b24 (by decide +kernel)
 have Q23:kE l.prog w K mg base 3 "of_size" iU:=.inl ⟨_,_,["n"],tP (Ex:=EX) F23 G4 (bL (cL D24 (aH)) (ay (Pr:=dk mg K) (jH (QU X G g2)) (aH)) cn cm ck cj bo hbl) (oY (aH)) hmg (hEI _ _ (by decide)) uu,QU X G a23,k23,b23,by decide +kernel⟩
 have D23:dU l.prog w K mg base 3 "of_size" gG:=dz F23 G4 (QU X G a23) b23 (by decide +kernel) (bL (cL D24 (aH)) (ay (Pr:=dk mg K) (jH (QU X G g2)) (aH)) cn cm ck cj bo hbl) uy
 have D15:dU l.prog w K mg base 1 "ones" lT:=dz F15 M6 (QU X G a15) b15 (by decide +kernel) (bL (aH) (aH) cn cm ck cj bo hbl) AN
 have D13:dU l.prog w K mg base 1 "plain_product" fR:=dz F13 M8 (QU X G a13) b13 (by decide +kernel) (bL (aH) (aH) cn cm ck cj bo hbl) lO
 have D14:dU l.prog w K mg base 2 "product" lN:=dz F14 M7 (QU X G a14) b14 (by decide +kernel) (bL (cL D13 (aH)) (aH) cn cm ck cj bo hbl) ux
 have D18:dU l.prog w K mg base 3 "beside" ka:=dz F18 M5 (QU X G a18) b18 (by decide +kernel) (bL (cL D14 (aH)) (aH) cn cm ck cj bo hbl) vc
 have Q26:kE l.prog w K mg base 4 "chosen" dM:=.inl ⟨_,_,["p", "side"],tP (Ex:=EX) F26 G3 (bL (cL D17 (cL D23 (cL D15 (cL D18 (aH))))) (ay (Pr:=dk mg K) (t7 (ns:=[2,3,5,7,11,13,17,19,23,29,31,37,41,43,47,53,59,61,67,71,73,79,83,89,97]) (QU X G g11) m11 (show 25<=sizeLine by decide) (.cons ⟨_,rfl⟩ (.cons ⟨_,rfl⟩ (.cons ⟨_,rfl⟩ (.cons ⟨_,rfl⟩ (.cons ⟨_,rfl⟩ (.cons ⟨_,rfl⟩ (.cons ⟨_,rfl⟩ (.cons ⟨_,rfl⟩ (.cons ⟨_,rfl⟩ (.cons ⟨_,rfl⟩ (.cons ⟨_,rfl⟩ (.cons ⟨_,rfl⟩ (.cons ⟨_,rfl⟩ (.cons ⟨_,rfl⟩ (.cons ⟨_,rfl⟩ (.cons ⟨_,rfl⟩ (.cons ⟨_,rfl⟩ (.cons ⟨_,rfl⟩ (.cons ⟨_,rfl⟩ (.cons ⟨_,rfl⟩ (.cons ⟨_,rfl⟩ (.cons ⟨_,rfl⟩ (.cons ⟨_,rfl⟩ (.cons ⟨_,rfl⟩ (.cons ⟨_,rfl⟩ (.nil))))))))))))))))))))))))))) (ay (Pr:=dk mg K) (jH (QU X G g2)) (aH))) cn cm ck cj bo hbl) (oY (ay (Pr:=DF l.prog w K mg base 3) (Q17.mono (by decide)) (ay (Pr:=DF l.prog w K mg base 3) (Q23.mono (by decide)) (aH)))) hmg (hEI _ _ (by decide)) u5,QU X G a26,k26,b26,by decide +kernel⟩
 have D26:dU l.prog w K mg base 4 "chosen" gm:=lw (mX F26 G3 (bL (cL D17 (cL D23 (cL D15 (cL D18 (aH))))) (ay (Pr:=dk mg K) (t7 (ns:=[2,3,5,7,11,13,17,19,23,29,31,37,41,43,47,53,59,61,67,71,73,79,83,89,97]) (QU X G g11) m11 (show 25<=sizeLine by decide) (.cons ⟨_,rfl⟩ (.cons ⟨_,rfl⟩ (.cons ⟨_,rfl⟩ (.cons ⟨_,rfl⟩ (.cons ⟨_,rfl⟩ (.cons ⟨_,rfl⟩ (.cons ⟨_,rfl⟩ (.cons ⟨_,rfl⟩ (.cons ⟨_,rfl⟩ (.cons ⟨_,rfl⟩ (.cons ⟨_,rfl⟩ (.cons ⟨_,rfl⟩ (.cons ⟨_,rfl⟩ (.cons ⟨_,rfl⟩ (.cons ⟨_,rfl⟩ (.cons ⟨_,rfl⟩ (.cons ⟨_,rfl⟩ (.cons ⟨_,rfl⟩ (.cons ⟨_,rfl⟩ (.cons ⟨_,rfl⟩ (.cons ⟨_,rfl⟩ (.cons ⟨_,rfl⟩ (.cons ⟨_,rfl⟩ (.cons ⟨_,rfl⟩ (.cons ⟨_,rfl⟩ (.nil))))))))))))))))))))))))))) (ay (Pr:=dk mg K) (jH (QU X G g2)) (aH))) cn cm ck cj bo hbl) u9) (QU X G a26) k26 b26 (by decide +kernel)
 have D29:dU l.prog w K mg base 1 "_law_whole" rh:=dz F29 M1 (QU X G a29) b29 (by decide +kernel) (bL (aH) (aH) cn cm ck cj bo hbl) i9.self
 have D30:dU l.prog w K mg base 2 "_law_is_four" gw:=dz F30 M0 (QU X G a30) b30 (by decide +kernel) (bL (cL D29 (aH)) (aH) cn cm ck cj bo hbl) i9.self
 have D32:dU l.prog w K mg base 1 "_law_times" lU:=dz F32 MZ (QU X G a32) b32 (by decide +kernel) (bL (aH) (aH) cn cm ck cj bo hbl) uz
 have D34:dU l.prog w K mg base 1 "_law_units" lW:=dz F34 MY (QU X G a34) b34 (by decide +kernel) (bL (aH) (aH) cn cm ck cj bo hbl) i9.self
 have D36:dU l.prog w K mg base 2 "_law_mates" iV:=dz F36 MW (QU X G a36) b36 (by decide +kernel) (bL (cL D32 (cL D34 (aH))) (aH) cn cm ck cj bo hbl) i9.self
 have D38:dU l.prog w K mg base 3 "_law_all" jK:=lw (mX F38 MU (bL (cL D30 (cL D36 (aH))) (aH) cn cm ck cj bo hbl) xT) (QU X G a38) k38 b38 (by decide +kernel)
 have D35:dU l.prog w K mg base 1 "_law_fours" lX:=dz F35 MX (QU X G a35) b35 (by decide +kernel) (bL (aH) (aH) cn cm ck cj bo hbl) i9.self
 have D37:dU l.prog w K mg base 5 "_law_refused" cP:=lw (IS (pre:=(am (al 37)).take 1) (tb:=Gk ((am (al 37)).getD 1 (.Pass ⟨0,0,0,0⟩))) (post:=(am (al 37)).drop 2) (Ψ:=nN) (Ex:=EX) F37 MV (bL (cL D26 (aH)) (ay (Pr:=dk mg K) (fk (QU X G qU) qU (ff yA Af)) (ay (Pr:=dk mg K) (fk (QU X G gu) gu (ff uO uU)) (ay (Pr:=dk mg K) (fk (QU X G iS) iS (ff yD Ai)) (ay (Pr:=dk mg K) (fk (QU X G gX) gX (ff wJ xH)) (ay (Pr:=dk mg K) (fk (QU X G pK) pK (ff wL xJ)) (ay (Pr:=dk mg K) (fk (QU X G qY) qY (ff yF Ak)) (ay (Pr:=dk mg K) (fk (QU X G qX) qX (ff yE Aj)) (ay (Pr:=dk mg K) (fk (QU X G pJ) pJ (ff wK xI)) (ay (Pr:=dk mg K) (fk (QU X G qW) qW (ff yC Ah)) (ay (Pr:=dk mg K) (fk (QU X G qV) qV (ff yB Ag)) (aH))))))))))) cn cm ck cj bo hbl) (oY (ay (Pr:=DF l.prog w K mg base 4) (Q26.mono (by decide)) (aH))) hmg hEx rfl rfl (by decide +kernel) rfl rfl (by decide +kernel) (by decide +kernel) (by decide +kernel) qB) (QU X G a37) k37 b37 (by decide +kernel)
 exact v6 F39 MT (bL (cL D28 (cL D26 (cL D38 (cL D35 (cL D36 (cL D37 (aH))))))) (aH) cn cm ck cj bo hbl) i9.self
theorem walkX{q:Program}{r:W.RowW}{kwd:List (Str×Expr)}{run:Value->List Value->Sem Value}{K:Params->W.Frag}{as:List Addr}{t:Nat}
  (e:∀P,as=(K P).map (·.1)) (h:W.WalkO q loose XP (W.InK K) r d kwd run):W.WalkX q loose XP (W.X.obsZ as) (W.X.valZ K n t) r d kwd run :=
 fun w _ _ mg mb G y a o pm cd doc dV kV h1 h2 h3 h4 h5 h6 args vals as' L =>
  h w _ _ mg mb G (W.InK.keeps w _ _ (W.X.z_facts e y).2.1 L.keeps) a o pm cd doc dV kV h1 h2 h3 h4 h5 h6 args vals as'
theorem walk{q:Program}{YP:World->Heap->Prop}{K:Params->W.Frag}(hn:l.most=some 63)(hdf:d.params.defaults=[])
  (hY:∀(w:World) (h:Heap),YP w h->(K w.params).In h)
  (F:∀(w:World) (mg:Str->Option Value) (fa:Addr) (h:Heap),(K w.params).In h->h.Ns mainGlobals mg->mg d.name=some (.ref fa) ->
   ∃fd:FuncData,(∀(s:Shared) (u:Value),BindsTo s fd ⟨[u],[]⟩ [("_law_script", u)])/\∀base:Heap,(K w.params).In base->base.Ns mainGlobals mg->bG l.prog w (K w.params) mg base eh 6 fa fd ["_law_script"] (km (K w.params) rK)) :
  W.WalkO q loose XP YP l.row.toRowW d [] (fun f vs=>PySem.call f vs) :=
 L2.walk_of (n:=63) (k:=6) (x := "_law_script") (CX:=fun _=>eh) (sp:=fun w=>km (K w.params) rK) hn (by decide) hdf ⟨rfl,by decide,by decide⟩ hY F (fun _ _ a ns hl hO hS=>IK hO hS (BO ns hl)) fun _ _ _ _ _ z=>z
end K
namespace PySem.W.Fast
theorem tw7652139776230761178:True:=.intro
theorem tw12309514219343079332:True:=.intro
theorem tw4421140775164489502:True:=.intro
theorem tw10728473044635557625:True:=.intro
theorem tw5670277360072074605:True:=.intro
theorem tw12541840304811009076:True:=.intro
theorem tw17476883868103372974:True:=.intro
theorem tw3998021462159432251:True:=.intro
theorem tw9787977386514250324:True:=.intro
theorem tw458896162248390417:True:=.intro
theorem tw3553447238476785339:True:=.intro
theorem tw1491746804300305108:True:=.intro
theorem tw8561865816126467637:True:=.intro
theorem tw11259413198581610016:True:=.intro
theorem tw1506435764854482383:True:=.intro
theorem tw13970327104218979406:True:=.intro
theorem tw8129940606656744317:True:=.intro
theorem tw3157952860429497700:True:=.intro
theorem tw11427632917248132694:True:=.intro
theorem tw17766122417431224223:True:=.intro
theorem tw17127772184993356626:True:=.intro
theorem tw7011321720753482737:True:=.intro
theorem tw14281512276068351296:True:=.intro
theorem tw15197357119403651912:True:=.intro
theorem tw17695807520291194154:True:=.intro
theorem tw12808673738321247735:True:=.intro
theorem tw14361699779067005718:True:=.intro
theorem tw14096596286466361894:True:=.intro
theorem tw7173196182102994279:True:=.intro
theorem tw3503318042601434993:True:=.intro
theorem tw7226173526343088144:True:=.intro
theorem tw18118930060771645250:True:=.intro
theorem tw16696094191200756368:True:=.intro
theorem tw2090198382905316929:True:=.intro
theorem tw17062442620591043555:True:=.intro
theorem tw15456249640629158103:True:=.intro
theorem tw16088593963792576717:True:=.intro
theorem tw6238139846313389280:True:=.intro
theorem tw16987825103489997389:True:=.intro
theorem tw13662195113831621388:True:=.intro
theorem tw3026287203911762540:True:=.intro
theorem tw13167375708446047961:True:=.intro
theorem tw1864047261179770804:True:=.intro
theorem tw16555358498447526615:True:=.intro
theorem tw3403355888839511269:True:=.intro
theorem tw14613069089096478244:True:=.intro
theorem tw3656784036565235208:True:=.intro
theorem tw7637921597832787356:True:=.intro
theorem tw14009327169356334551:True:=.intro
theorem tw2169210820544153761:True:=.intro
theorem tw16951740243239850524:True:=.intro
theorem tw3163296451684215407:True:=.intro
theorem tw10777343303861672864:True:=.intro
theorem tw17839464997446192370:True:=.intro
theorem tw3084935196233982906:True:=.intro
theorem tw10594070531369875281:True:=.intro
theorem tw16589410324667898696:True:=.intro
theorem tw4653716337216806798:True:=.intro
theorem tw10453998744471460212:True:=.intro
theorem tw1502074393162360171:True:=.intro
theorem tw1177511372823878281:True:=.intro
theorem tw13812075492781626348:True:=.intro
theorem tw13981233375019349446:True:=.intro
theorem tw15110645033585146167:True:=.intro
theorem tw17177003277423802222:True:=.intro
theorem tw4978185597948999512:True:=.intro
theorem tw16328624538512237124:True:=.intro
theorem tw14760242002977797225:True:=.intro
theorem tw9403862427902005755:True:=.intro
theorem tw15291974400255710548:True:=.intro
theorem tw6282342541090493468:True:=.intro
theorem tw369075941055820203:True:=.intro
theorem tw2770548530825502373:True:=.intro
theorem tw2723279931093926627:True:=.intro
theorem tw7112215165496722393:True:=.intro
theorem tw6424507536224940995:True:=.intro
theorem tw3240314205912162947:True:=.intro
theorem tw13160251128662116377:True:=.intro
theorem tw6939992883519565902:True:=.intro
theorem tw16062828601732599514:True:=.intro
theorem tw15045287523342684380:True:=.intro
theorem tw1215953028450370799:True:=.intro
theorem tw11377268806277269578:True:=.intro
theorem tw4117581879689394934:True:=.intro
theorem tw15504021819400010437:True:=.intro
theorem tw15037911665877953622:True:=.intro
theorem tw12212824963720732505:True:=.intro
theorem tw6625706069999587562:True:=.intro
theorem tw6348663363521463691:True:=.intro
theorem tw13717776031097831087:True:=.intro
theorem tw14747640881106553095:True:=.intro
theorem tw9012431399672803013:True:=.intro
theorem tw8712995738402531896:True:=.intro
theorem tw4766863176916438843:True:=.intro
theorem tw741924627120334792:True:=.intro
theorem tw16736912200247826269:True:=.intro
theorem tw17516367747486129562:True:=.intro
theorem tw14457484367121845826:True:=.intro
theorem tw17158252230736665928:True:=.intro
theorem tw4068099474167484039:True:=.intro
theorem tw764705179800870174:True:=.intro
theorem tw13759007764678842553:True:=.intro
theorem tw13918757089396416702:True:=.intro
theorem tw16230556287488813096:True:=.intro
theorem tw7586322928821658413:True:=.intro
theorem tw4390186007757836248:True:=.intro
theorem tw10510035293231034353:True:=.intro
theorem tw2420404144709215738:True:=.intro
theorem tw11892128998680889177:True:=.intro
theorem tw12993741269702798148:True:=.intro
theorem tw9905551096684334783:True:=.intro
theorem tw10800364010014310013:True:=.intro
theorem tw2051287576603017772:True:=.intro
theorem tw7311133564015096030:True:=.intro
theorem tw8227864070541287944:True:=.intro
theorem tw8537772778874680113:True:=.intro
theorem tw6761147174462340613:True:=.intro
theorem tw10137046507147303192:True:=.intro
theorem tw6278449643470615212:True:=.intro
theorem tw898368782754418670:True:=.intro
theorem tw13438319571080746776:True:=.intro
theorem tw7079819657875440472:True:=.intro
theorem tw18317275420488306895:True:=.intro
theorem tw1422084263740431438:True:=.intro
theorem tw11481452049312706469:True:=.intro
theorem tw9238981674435622868:True:=.intro
theorem tw6495311241702740371:True:=.intro
theorem tw17842978969992000425:True:=.intro
theorem tw2092114563564629267:True:=.intro
theorem tw13715848198499230847:True:=.intro
theorem tw10340457453067422218:True:=.intro
theorem tw14380487365820639359:True:=.intro
theorem tw17680256477439692709:True:=.intro
theorem tw3021938128385607612:True:=.intro
theorem tw9294283280434938098:True:=.intro
theorem tw8112282792501594760:True:=.intro
theorem tw13889404923803821744:True:=.intro
theorem tw14206045265312791263:True:=.intro
theorem tw18354824482596893874:True:=.intro
theorem tw14710428733209974171:True:=.intro
theorem tw5671062265582768209:True:=.intro
theorem tw5167013392304285669:True:=.intro
theorem tw15822174957788314946:True:=.intro
theorem tw17100406753434805621:True:=.intro
theorem tw3475437533893815981:True:=.intro
theorem tw1057066473871551970:True:=.intro
theorem tw13907194293690457056:True:=.intro
theorem tw17584676254368098000:True:=.intro
theorem tw9634433413294517954:True:=.intro
theorem tw2736283275589988284:True:=.intro
theorem tw10135754954583435969:True:=.intro
theorem tw11667983569892490305:True:=.intro
theorem tw15754855215157304001:True:=.intro
theorem tw5773767136244619776:True:=.intro
theorem tw867279060721819220:True:=.intro
theorem tw15444260374952133011:True:=.intro
theorem tw7786983233202764143:True:=.intro
theorem tw962531115463071057:True:=.intro
theorem tw17309534432039866032:True:=.intro
theorem tw6685009628848721440:True:=.intro
theorem tw16480958750212580087:True:=.intro
theorem tw2302908024472684257:True:=.intro
theorem tw17366748490536279115:True:=.intro
theorem tw9050470911295632605:True:=.intro
theorem tw8820342476039277440:True:=.intro
theorem tw17041384158247518324:True:=.intro
theorem tw17286707359068191978:True:=.intro
theorem tw9733717470430662130:True:=.intro
theorem tw6904393545497385938:True:=.intro
theorem tw16277964419479991553:True:=.intro
theorem tw10088152243555331353:True:=.intro
theorem tw13852005433573078633:True:=.intro
theorem tw4115569509049046224:True:=.intro
theorem tw9206970743474036659:True:=.intro
theorem tw15312937575190072741:True:=.intro
theorem tw12359601619128324610:True:=.intro
theorem tw4730976775813062429:True:=.intro
theorem tw7809770312534508477:True:=.intro
theorem tw2861621487428830072:True:=.intro
theorem tw3812399770903818828:True:=.intro
theorem tw1101315441767426865:True:=.intro
theorem tw13449931669711927960:True:=.intro
theorem tw10853580478198407644:True:=.intro
theorem tw14063861720788405923:True:=.intro
theorem tw15126976144470629732:True:=.intro
theorem tw10450334095612113960:True:=.intro
theorem tw18259354294634975717:True:=.intro
theorem tw8858648690463800723:True:=.intro
theorem tw16480408368622561837:True:=.intro
theorem tw8117299398354754012:True:=.intro
theorem tw11840180381782642228:True:=.intro
theorem tw8260092794364536910:True:=.intro
theorem tw12783735450088618274:True:=.intro
theorem tw17193677828046492033:True:=.intro
theorem tw4498876475711176049:True:=.intro
theorem tw11083557154415580533:True:=.intro
theorem tw13340137929447889548:True:=.intro
theorem tw7537996102486540056:True:=.intro
theorem tw632550765616944116:True:=.intro
theorem tw957121549933450802:True:=.intro
theorem tw4343994834568962752:True:=.intro
theorem tw6876481568884421103:True:=.intro
theorem tw13245380496963996933:True:=.intro
theorem tw16705019704890444864:True:=.intro
theorem tw16956966432903379040:True:=.intro
theorem tw3022378633835425928:True:=.intro
theorem tw17519261685243974367:True:=.intro
theorem tw6763351008787322273:True:=.intro
theorem tw2917688321389690902:True:=.intro
theorem tw12086666062843601891:True:=.intro
theorem tw7521280891476819378:True:=.intro
theorem tw13965204086817991455:True:=.intro
theorem tw16998009358933718792:True:=.intro
theorem tw6595198966030943528:True:=.intro
theorem tw16395960649844802373:True:=.intro
theorem tw5185220118197610901:True:=.intro
theorem tw11880641369272232747:True:=.intro
theorem tw457357959696996317:True:=.intro
theorem tw15914427949967377389:True:=.intro
theorem tw17035072478773376305:True:=.intro
theorem tw15115952240077565528:True:=.intro
theorem tw15252976598962555628:True:=.intro
theorem tw11151995435565190050:True:=.intro
theorem tw9735551181485453989:True:=.intro
theorem tw8944603478383262860:True:=.intro
theorem tw10261814013593091503:True:=.intro
theorem tw11685229623534520275:True:=.intro
theorem tw2766913209362264365:True:=.intro
theorem tw10265122958336198877:True:=.intro
theorem tw14793313353422026466:True:=.intro
theorem tw16794132815928519331:True:=.intro
theorem tw3983310065385686305:True:=.intro
theorem tw3553990389458230804:True:=.intro
theorem tw14736571820500028158:True:=.intro
theorem tw9831067664337641434:True:=.intro
theorem tw275578600494631375:True:=.intro
theorem tw11256114549964357477:True:=.intro
theorem tw15625739145048059473:True:=.intro
theorem tw1823118944099893699:True:=.intro
theorem tw12532254870452624822:True:=.intro
theorem tw11548739208548644644:True:=.intro
theorem tw9267311121781225683:True:=.intro
theorem tw568198890499603249:True:=.intro
theorem tw15864221165553621816:True:=.intro
theorem tw4994086317160949673:True:=.intro
theorem tw3693587530624653012:True:=.intro
theorem tw1858926479767183424:True:=.intro
theorem tw8113420317185140473:True:=.intro
theorem tw4877555926117983478:True:=.intro
theorem tw7728030716318492796:True:=.intro
theorem tw14677865088382503711:True:=.intro
theorem tw14253650980659663545:True:=.intro
theorem tw10111412410939742941:True:=.intro
theorem tw11274408462694171685:True:=.intro
theorem tw6700417813240577888:True:=.intro
theorem tw10924226858604109758:True:=.intro
theorem tw14007300945214002330:True:=.intro
theorem tw9283729079827695750:True:=.intro
theorem tw6484855312968070140:True:=.intro
theorem tw12614867993848111570:True:=.intro
theorem tw6274011295551658526:True:=.intro
theorem tw2121309523932322321:True:=.intro
theorem tw15349396325701370505:True:=.intro
theorem tw16341742602698434136:True:=.intro
theorem tw11088516103788212372:True:=.intro
theorem tw509691688846687692:True:=.intro
theorem tw2820301284271889224:True:=.intro
theorem tw15047309491180436576:True:=.intro
theorem tw7628410590934947924:True:=.intro
theorem tw2046411099539859772:True:=.intro
theorem tw1642996234262181179:True:=.intro
theorem tw11215916727837189664:True:=.intro
theorem tw4663543349430399284:True:=.intro
theorem tw6410908584177528107:True:=.intro
theorem tw11579320980043998451:True:=.intro
theorem tw9527852780998703292:True:=.intro
theorem tw8946998494593100546:True:=.intro
theorem tw10024815095674455534:True:=.intro
theorem tw6451477317657781945:True:=.intro
theorem tw16441669696513344133:True:=.intro
theorem tw2420411720271984278:True:=.intro
theorem tw8379073738154534541:True:=.intro
theorem tw287864849880838068:True:=.intro
theorem tw4474901570130107279:True:=.intro
theorem tw4197044125789021086:True:=.intro
theorem tw5909416689065699690:True:=.intro
theorem tw7849202595058395324:True:=.intro
theorem tw963449044137841097:True:=.intro
theorem tw3987814457276163398:True:=.intro
theorem tw4359128292994901347:True:=.intro
theorem tw10255353425139386014:True:=.intro
theorem tw14301354807917353946:True:=.intro
theorem tw8647373991383029712:True:=.intro
theorem tw11485875472449360802:True:=.intro
theorem tw8994746776582963304:True:=.intro
theorem tw14287670097831175424:True:=.intro
theorem tw15551151916533621080:True:=.intro
theorem tw4922418873857640423:True:=.intro
theorem tw18011466950635143214:True:=.intro
theorem tw3068311672791627614:True:=.intro
theorem tw561097480507860176:True:=.intro
theorem tw389162266817100674:True:=.intro
theorem tw11394053610739872061:True:=.intro
theorem tw1185491125617875181:True:=.intro
theorem tw13101678953163917790:True:=.intro
theorem tw13552531666061986819:True:=.intro
theorem tw6590639539500883539:True:=.intro
theorem tw11759517562783406142:True:=.intro
theorem tw5499006919111647316:True:=.intro
theorem tw17903559628568163074:True:=.intro
theorem tw4666055562159174447:True:=.intro
theorem tw4782853228374729779:True:=.intro
theorem tw8526160710110678737:True:=.intro
theorem tw13873858525762032580:True:=.intro
theorem tw4606535464606835515:True:=.intro
theorem tw2584808209996197970:True:=.intro
theorem tw3170090219853263923:True:=.intro
theorem tw12690824505205504369:True:=.intro
theorem tw9348304309385586477:True:=.intro
theorem tw15134835237055183332:True:=.intro
end PySem.W.Fast
namespace PySem.W.Fast
end PySem.W.Fast
open PySem PySem.W PyProof.Rows
set_option maxRecDepth 100000 in
set_option maxHeartbeats 0 in
theorem PySem.Challenge.cw_spaceturns_k16_chosen_ones_holds : PySem.Challenge.rw_spaceturns_k16_chosen_ones.Holds := by
 w_on;o_law;z_head;(case hw=>w_witness2)
 k_fill
 refine K.walkX (fun _=>rfl) (K.walk (l:=PySem.Challenge.rw_spaceturns_k16_chosen_ones) rfl rfl (fun w h Y=>Y) ?F)
 case F =>
  intro w mg fa h KX G hmg
  refine' K.all_mk KX G hmg ?_ ?_ ?_ ?_ ?_ ?_ ?_ ?_ ?_ ?_ ?_ ?_ ?_ ?_ ?_ ?_ ?_ ?_ ?_ ?_ ?_ ?_ ?_ ?_ ?_ ?_ ?_ ?_ ?_ ?_ ?_ ?_ ?_ ?_ ?_ ?_ ?_ ?_ ?_ ?_ ?_ ?_ ?_ ?_ ?_ ?_ ?_ ?_ ?_ ?_ ?_ ?_ ?_ ?_ ?_ ?_ ?_ ?_ ?_ ?_ ?_ ?_ ?_ ?_ ?_ ?_ ?_ ?_ ?_ ?_ ?_ ?_ ?_ ?_ ?_ ?_ ?_ ?_ ?_ ?_ ?_ ?_ ?_ ?_ ?_ ?_ ?_ ?_ ?_ ?_ ?_ ?_ ?_ ?_ ?_ ?_ ?_ ?_ ?_ ?_ ?_ ?_ ?_ ?_ ?_ ?_ ?_ ?_ ?_ ?_ ?_ ?_ ?_ ?_ ?_ ?_ ?_ ?_ ?_ ?_ ?_ ?_ ?_ ?_ ?_ ?_ ?_ ?_ ?_ ?_ ?_ ?_ ?_ ?_ ?_ ?_ ?_ ?_ ?_ ?_ ?_ ?_ ?_ ?_ ?_ ?_ ?_ ?_ ?_ ?_ ?_ ?_ ?_ ?_
  all_goals try first|k_is|kernel_rfl
