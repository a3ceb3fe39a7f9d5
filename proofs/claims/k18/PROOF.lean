import PyProof.Rows.All
import Wide.All
import OpenK.AllK
import Wide.FinOn
import Lean
import PyProof.EqAt
import PyProof.EqKinds
import PyProof.TupleCall
import PySem.Challenge.RW_spaceturns_k18_whole_classes_of_a_prime
set_option Elab.async false
set_option linter.all false
set_option maxRecDepth 100000
theorem Qw:type_of%@PySem.Heap.get?_push_of_some:=@PySem.Heap.get?_push_of_some
theorem Qx:type_of%@PySem.wpAny_bind:=@PySem.wpAny_bind
theorem Qy:type_of%@List.mem_cons_self:=@List.mem_cons_self
theorem Qz:type_of%@List.mem_cons_of_mem:=@List.mem_cons_of_mem
theorem QA:type_of%@Nat.le_refl:=@Nat.le_refl
theorem QB:type_of%@PyProof.Rows.wpS_bind:=@PyProof.Rows.wpS_bind
theorem QC:type_of%@List.length_map:=@List.length_map
theorem QD:type_of%@List.mem_cons:=@List.mem_cons
theorem QE:type_of%@PySem.Heap.lt_size:=@PySem.Heap.lt_size
theorem QF:type_of%@Array.length_toList:=@Array.length_toList
theorem QG:type_of%@PyProof.Rows.wpS_pure:=@PyProof.Rows.wpS_pure
theorem QH:type_of%@List.length_append:=@List.length_append
theorem QI:type_of%@Bool.and_eq_true:=@Bool.and_eq_true
theorem QJ:type_of%@PySem.Heap.get?_push_size:=@PySem.Heap.get?_push_size
theorem QK:type_of%@Nat.lt_of_lt_of_le:=@Nat.lt_of_lt_of_le
theorem QL:type_of%@PySem.wpAny_pure:=@PySem.wpAny_pure
theorem QM:type_of%@List.mem_singleton:=@List.mem_singleton
theorem QN:type_of%@Nat.zero_le:=@Nat.zero_le
theorem QO:type_of%@List.getElem?_eq_some_iff:=@List.getElem?_eq_some_iff
theorem QP:type_of%@List.length_cons:=@List.length_cons
theorem QQ:type_of%@List.lookup_cons:=@List.lookup_cons
theorem QR:type_of%@Nat.le_trans:=@Nat.le_trans
theorem QS:type_of%@List.getElem?_eq_getElem:=@List.getElem?_eq_getElem
theorem QT:type_of%@Bool.false_ne_true:=@Bool.false_ne_true
theorem QU:type_of%@List.map_cons:=@List.map_cons
theorem QV:type_of%@List.size_toArray:=@List.size_toArray
theorem QW:type_of%@List.mem_map:=@List.mem_map
theorem QX:type_of%@List.mem_append:=@List.mem_append
theorem QY:type_of%@List.mem_append_right:=@List.mem_append_right
theorem QZ:type_of%@Nat.ne_of_lt:=@Nat.ne_of_lt
theorem Q0:type_of%@Int.fdiv_eq_ediv_of_nonneg:=@Int.fdiv_eq_ediv_of_nonneg
theorem Q1:type_of%@List.length_take:=@List.length_take
theorem Q4:type_of%@PySem.mem_of_lookup:=@PySem.mem_of_lookup
theorem Q5:type_of%@List.append_assoc:=@List.append_assoc
theorem Q6:type_of%@List.all_eq_true:=@List.all_eq_true
theorem Q7:type_of%@List.getElem?_map:=@List.getElem?_map
theorem Q8:type_of%@List.not_mem_nil:=@List.not_mem_nil
theorem Q9:type_of%@List.mem_reverse:=@List.mem_reverse
theorem Ra:type_of%@List.append_nil:=@List.append_nil
theorem Rb:type_of%@Nat.lt_of_le_of_lt:=@Nat.lt_of_le_of_lt
theorem Re:type_of%@List.take_append_drop:=@List.take_append_drop
theorem Rg:type_of%@PySem.W.mg_of:=@PySem.W.mg_of
theorem Rh:type_of%@PySem.W.mg_none_of:=@PySem.W.mg_none_of
theorem Ri:type_of%@PyProof.Rows.KeyOrd.kle_trans:=@PyProof.Rows.KeyOrd.kle_trans
theorem Rj:type_of%@decide_eq_true_eq:=@decide_eq_true_eq
theorem Rk:type_of%@Nat.lt_succ_self:=@Nat.lt_succ_self
theorem Rl:type_of%@of_decide_eq_true:=@of_decide_eq_true
theorem Rm:type_of%@PyProof.Rows.wpS_forRange:=@PyProof.Rows.wpS_forRange
theorem Ro:type_of%@Bool.false_eq_true:=@Bool.false_eq_true
theorem Rq:type_of%@PySem.Heap.size_push:=@PySem.Heap.size_push
theorem Rr:type_of%@decide_eq_false:=@decide_eq_false
theorem Rt:type_of%@List.length_set:=@List.length_set
theorem Ru:type_of%@Array.toList_append:=@Array.toList_append
theorem Rv:type_of%@PyProof.Rows.callWith_type1:=@PyProof.Rows.callWith_type1
theorem Rw:type_of%@List.contains_iff_mem:=@List.contains_iff_mem
theorem Rx:type_of%@Nat.lt_irrefl:=@Nat.lt_irrefl
theorem Ry:type_of%@Option.some.inj:=@Option.some.inj
theorem Rz:type_of%@List.mem_filter:=@List.mem_filter
theorem RA:type_of%@Nat.not_lt_zero:=@Nat.not_lt_zero
theorem RB:type_of%@List.pairwise_cons:=@List.pairwise_cons
theorem RC:type_of%@congrArg:=@congrArg
theorem RD:type_of%@Array.getElem_mem_toList:=@Array.getElem_mem_toList
theorem RE:type_of%@PySem.W.kia_one:=@PySem.W.kia_one
theorem RF:type_of%@List.mem_of_getElem?:=@List.mem_of_getElem?
theorem RG:type_of%@List.length_drop:=@List.length_drop
theorem RH:type_of%@PySem.SeqAt.canLay_of_shaped:=@PySem.SeqAt.canLay_of_shaped
theorem RI:type_of%@PySem.wpAny_truthy_bool:=@PySem.wpAny_truthy_bool
theorem RJ:type_of%@PyProof.Rows.KeyOrd.kle_of_klt:=@PyProof.Rows.KeyOrd.kle_of_klt
theorem RK:type_of%@List.flatMap_cons:=@List.flatMap_cons
theorem RL:type_of%@List.drop_eq_getElem_cons:=@List.drop_eq_getElem_cons
theorem RM:type_of%@PyProof.Rows.KeyOrd.kle_refl:=@PyProof.Rows.KeyOrd.kle_refl
theorem RN:type_of%@Nat.ne_of_gt:=@Nat.ne_of_gt
theorem RO:type_of%@Nat.le_add_right:=@Nat.le_add_right
theorem RP:type_of%@List.mem_range:=@List.mem_range
theorem RQ:type_of%@PySem.wpAny_mono:=@PySem.wpAny_mono
theorem RS:type_of%@List.length_eq_zero_iff:=@List.length_eq_zero_iff
theorem RT:type_of%@Ne.symm:=@Ne.symm
theorem RU:type_of%@List.take_of_length_le:=@List.take_of_length_le
theorem RV:type_of%@PySem.wpAny_field:=@PySem.wpAny_field
theorem RW:type_of%@PySem.wpAny_pyIter_tuple:=@PySem.wpAny_pyIter_tuple
theorem RX:type_of%@decide_eq_true:=@decide_eq_true
theorem RY:type_of%@PySem.wpAny_seqItems:=@PySem.wpAny_seqItems
theorem RZ:type_of%@Nat.le_of_lt:=@Nat.le_of_lt
theorem R0:type_of%@List.getElem?_set_ne:=@List.getElem?_set_ne
theorem R4:type_of%@or_false:=@or_false
theorem R5:type_of%@PyProof.Rows.wpS_mono:=@PyProof.Rows.wpS_mono
theorem R6:type_of%@List.mem_of_mem_take:=@List.mem_of_mem_take
theorem R7:type_of%@Array.getElem_toList:=@Array.getElem_toList
theorem R8:type_of%@List.map_map:=@List.map_map
theorem R9:type_of%@List.length_range:=@List.length_range
theorem Sa:type_of%@PySem.wpAny_holding:=@PySem.wpAny_holding
theorem Sb:type_of%@decide_eq_false_iff_not:=@decide_eq_false_iff_not
theorem Sc:type_of%@List.drop_drop:=@List.drop_drop
theorem Sd:type_of%@Option.map_eq_some_iff:=@Option.map_eq_some_iff
theorem Se:type_of%@PySem.wpAny_Call_Name_kw:=@PySem.wpAny_Call_Name_kw
theorem Sf:type_of%@PySem.wpAny_passesOwn:=@PySem.wpAny_passesOwn
theorem Sg:type_of%@List.nodup_cons:=@List.nodup_cons
theorem Si:type_of%@PySem.wpAny_loadPart':=@PySem.wpAny_loadPart'
theorem Sj:type_of%@List.map_append:=@List.map_append
theorem Sk:type_of%@Int.add_mul_ediv_left:=@Int.add_mul_ediv_left
theorem Sl:type_of%@PySem.wpAny_pyIter_list:=@PySem.wpAny_pyIter_list
theorem Sm:type_of%@PySem.wpAny_rule:=@PySem.wpAny_rule
theorem Sn:type_of%@Nat.pow_le_pow_right:=@Nat.pow_le_pow_right
theorem So:type_of%@List.mem_of_mem_drop:=@List.mem_of_mem_drop
theorem Sq:type_of%@Array.toList_reverse:=@Array.toList_reverse
theorem Sr:type_of%@Int.sub_mul:=@Int.sub_mul
theorem Ss:type_of%@List.mem_flatMap:=@List.mem_flatMap
theorem Su:type_of%@PySem.F.called_set:=@PySem.F.called_set
theorem Sv:type_of%@List.cons_ne_nil:=@List.cons_ne_nil
theorem Sw:type_of%@List.find?_cons:=@List.find?_cons
theorem Sx:type_of%@List.forIn_cons:=@List.forIn_cons
theorem Sy:type_of%@List.getElem_idxOf:=@List.getElem_idxOf
theorem Sz:type_of%@List.zip_cons_cons:=@List.zip_cons_cons
theorem SA:type_of%@PySem.wpAny_setField_rec:=@PySem.wpAny_setField_rec
theorem SC:type_of%@Nat.min_eq_left:=@Nat.min_eq_left
theorem SE:type_of%@Int.mul_sub:=@Int.mul_sub
theorem SF:type_of%@Bool.not_eq_true':=@Bool.not_eq_true'
theorem SG:type_of%@Bool.eq_false_iff:=@Bool.eq_false_iff
theorem SH:type_of%@Array.toList_push:=@Array.toList_push
theorem SI:type_of%@List.reverse_perm:=@List.reverse_perm
theorem SJ:type_of%@List.pairwise_map:=@List.pairwise_map
theorem SK:type_of%@List.map_nil:=@List.map_nil
theorem SL:type_of%@List.take_succ:=@List.take_succ
theorem SN:type_of%@ite_congr:=@ite_congr
theorem SO:type_of%@List.take_length:=@List.take_length
theorem SQ:type_of%@PySem.wpAny_call_entry:=@PySem.wpAny_call_entry
theorem SR:type_of%@PySem.sizeLine_eq:=@PySem.sizeLine_eq
theorem SS:type_of%@List.length_nil:=@List.length_nil
theorem SU:type_of%@Bool.or_eq_true:=@Bool.or_eq_true
theorem SX:type_of%@Array.size_map:=@Array.size_map
theorem SY:type_of%@Int.mul_nonneg:=@Int.mul_nonneg
theorem S0:type_of%@List.any_cons:=@List.any_cons
theorem S4:type_of%@Nat.add_assoc:=@Nat.add_assoc
theorem S5:type_of%@if_false:=@if_false
namespace L2
open PySem PySem.Spec PyProof.Rows
variable{us:List Value}{C a b dx it:Addr}{P:Program}{w:World}{base h:Heap}{o:Obj}{g':Array GenState}{ch fp:List Addr}{qual x:Str}{N ps:List Str}{i j k n:Nat}{M:Model}{A:Around}{E:Value->Shared->Prop}{u:Value}{s s':Shared}{c e l tg:Expr}{α:Type}{pins:List (Addr×Obj)}{p pos:Pos}{K:W.Frag}{es:List Expr}{body:List Stmt}{f:Value->Value->Sem Value}{g:Int->Int->Int}{op op':CmpOp}{mA mg:Str->Option Value}{kw:List (Str×Value)}{fd:FuncData}{outer:List Env}{scope:Scope}
noncomputable abbrev aP:=Sum Int Str
noncomputable def mR:aP->Value->Bool
 | .inl k,v=>Value.isInt k v
 | .inr x,v=>Value.isStrOf x v
noncomputable def N2(w:World):aP->Int
 | .inl k=>hashInt k
 | .inr x=>hashStr w x
theorem cm:∀{k:aP} {v:Value},mR k v=true->(∃i t,k=Sum.inl i/\v=Value.int i t)\/(∃x t,k=Sum.inr x/\v=Value.str x t)
 | .inl i,v,h=>by
  obtain⟨t,e⟩:=Value.isInt_shape (k:=i) (v:=v) h
  exact .inl ⟨i,t,rfl,e⟩
 | .inr x,v,h=>by
  obtain⟨t,e⟩:=Value.isStrOf_shape (x:=x) (v:=v) h
  exact .inr ⟨x,t,rfl,e⟩
theorem yP(i:Int)(t:Tok):mR (.inl i) (.int i t)=true:=by simp[mR,Value.isInt]
theorem yO(x:Str)(t:Tok):mR (.inr x) (.str x t)=true:=by simp[mR,Value.isStrOf]
theorem Hz(a b:Int):decide ((Sum.inl a:aP)=Sum.inl b)=(a==b):=by
 by_cases e:a=b
 ·subst e;simp
 ·have h:¬ (Sum.inl a:aP)=Sum.inl b:=fun q=>e (Sum.inl.inj q)
  rw[Rr h]
  exact(beq_eq_false_iff_ne.mpr e).symm
theorem Hw(a b:Str):decide ((Sum.inr a:aP)=Sum.inr b)=decide (a=b):=by
 by_cases e:a=b
 ·subst e;simp
 ·have h:¬ (Sum.inr a:aP)=Sum.inr b:=fun q=>e (Sum.inr.inj q)
  rw[Rr h,Rr e]
theorem Hy(a:Int)(b:Str):decide ((Sum.inl a:aP)=Sum.inr b)=false:=Rr (fun q=>nomatch q)
theorem Hx(a:Str)(b:Int):decide ((Sum.inr a:aP)=Sum.inl b)=false:=Rr (fun q=>nomatch q)
noncomputable def b7(prog:Program)(w:World):PySem.KeyKind prog w aP where
 is:=mR
 hash:=N2 w
 inj:=fun v a b ha hb=>by
  rcases cm ha with⟨i,t,rfl,rfl⟩|⟨x,t,rfl,rfl⟩
  ·rcases cm hb with⟨j,u,rfl,e⟩|⟨y,u,rfl,e⟩
   ·injection e with e1 _;rw[e1]
   ·exact nomatch e
  ·rcases cm hb with⟨j,u,rfl,e⟩|⟨y,u,rfl,e⟩
   ·exact nomatch e
   ·injection e with e1 _;rw[e1]
 byValue:=fun k v h=>by
  rcases cm h with⟨i,t,rfl,rfl⟩|⟨x,t,rfl,rfl⟩<;>rfl
 pyHash:=fun hv h=>by
  rcases cm hv with⟨i,t,rfl,rfl⟩|⟨x,t,rfl,rfl⟩
  ·exact wpAny_pyHash_int h
  ·exact wpAny_pyHash_str h
 eqBool:=fun hu hv h=>by
  rcases cm hu with⟨i,t,rfl,rfl⟩|⟨x,t,rfl,rfl⟩
  ·rcases cm hv with⟨j,u,rfl,rfl⟩|⟨y,u,rfl,rfl⟩
   ·rw[Hz]at h;exact wpAny_eqBool_int h
   ·rw[Hy]at h;exact SeqAt.EqAt.int_str i t y u _ _ _ _ h
  ·rcases cm hv with⟨j,u,rfl,rfl⟩|⟨y,u,rfl,rfl⟩
   ·rw[Hx]at h;exact SeqAt.EqAt.str_int x t j u _ _ _ _ h
   ·rw[Hw]at h;exact wpAny_eqBool_str h
 «strs» := fun k x t v h=>by
  rcases cm h with⟨i,u,rfl,e⟩|⟨y,u,rfl,e⟩
  ·exact nomatch e
  ·injection e with e1 _
   subst e1
   cases v<;>rfl
theorem uP(prog:Program)(w:World)(i:Int)(t:Tok):(b7 prog w).is (.inl i) (.int i t)=true:=yP i t
theorem uO(prog:Program)(w:World)(x:Str)(t:Tok):(b7 prog w).is (.inr x) (.str x t)=true:=yO x t
inductive V where
 | non|bl (b:Bool)|int (i:Int)|str (x:Str)|byt (b:Array UInt8)|flt (b:UInt64)|ref (a:Addr)|ty (n:String)
 deriving DecidableEq
noncomputable def aO:V->Value->Prop
 | .non,u=>u=Value.none
 | .bl b,u=>u=Value.bool b
 | .int i,u => ∃t,u=Value.int i t
 | .str x,u => ∃t,u=Value.str x t
 | .byt b,u => ∃t,u=Value.bytes b t
 | .flt b,u => ∃t,u=Value.float b t
 | .ref a,u=>u=Value.ref a
 | .ty n,u=>u=Value.type n
noncomputable abbrev aD:List V->List Value->Prop:=Paired aO
theorem aD.length{xs:List V}(r:aD xs us):xs.length=us.length:=Paired.length r
theorem aD.get:∀{xs:List V} {us:List Value} {i:Nat} {x:V},aD xs us->xs[i]?=some x->∃u,us[i]?=some u/\aO x u
 | _,_,_,_,.nil,e=>by simp at e
 | _,_,0,_,.cons r _,e=>by simp at e;subst e;exact⟨_,rfl,r⟩
 | _,_,i+1,x,.cons _ t,e=>by
  obtain⟨u,h1,h2⟩:=aD.get (i:=i) (x:=x) t (by simpa using e)
  exact⟨u,by simpa using h1,h2⟩
theorem aD.set{x:V}{u:Value}(r:aO x u):∀{xs:List V} {us:List Value} (i:Nat),aD xs us->aD (xs.set i x) (us.set i u)
 | _,_,_,.nil=>.nil
 | _,_,0,.cons _ t=>.cons r t
 | _,_,i+1,.cons q t=>.cons q (aD.set r i t)
theorem aD.append:∀{xs ys:List V} {us ws:List Value},aD xs us->aD ys ws->aD (xs++ys) (us++ws)
 | _,_,_,_,.nil,s=>s
 | _,_,_,_,.cons r t,s=>.cons r (aD.append t s)
theorem aD.take:∀{xs:List V} {us:List Value} (n:Nat),aD xs us->aD (xs.take n) (us.take n)
 | _,_,0,_=>.nil
 | _,_,_+1,.nil=>.nil
 | _,_,n+1,.cons r t=>.cons r (aD.take n t)
theorem aD.drop:∀{xs:List V} {us:List Value} (n:Nat),aD xs us->aD (xs.drop n) (us.drop n)
 | _,_,0,r=>r
 | _,_,_+1,.nil=>.nil
 | _,_,n+1,.cons _ t=>aD.drop n t
noncomputable def gL:Option V->Option Value->Prop
 | some v,some u=>aO v u
 | none,none=>True
 | _,_=>False
noncomputable def KV{κ:Type}:List (κ×V)->List (κ×Value)->Prop:=Paired fun(p:κ×V) (q:κ×Value)=>p.1=q.1/\aO p.2 q.2
noncomputable def kV:aP->V
 | .inl i=>.int i
 | .inr x=>.str x
inductive HO where
  | lst (xs:List V)
  | tup (xs:List V)
  | dK (kvs:List (aP×V))|dT (kvs:List (List aP×V))
  | set (S:Int->Bool) (n:Nat)
  | ins (C dx:Addr) (fs:List (Str×V))
  | own (x:Addr)
  | xd (fs:List (Str×V))
  | met (f x:Addr)
  | rng (lo hi:Int)
  | frz (o:Obj) (u:HO)
  | tbl (ps:Array Value)
  | ext (φ:Heap->Prop)
noncomputable abbrev Hp:=Addr->Option HO
noncomputable def aF(H:Hp)(a:Addr)(o:HO):Hp:=fun b=>if b=a then some o else H b
theorem aC{H:Hp}{o:HO}:aF H a o a=some o:=by unfold aF;rw[if_pos rfl]
theorem aq{H:Hp}{o:HO}(h:b≠a):aF H a o b=H b:=by unfold aF;rw[if_neg h]
theorem gk{H:Hp}{o u:HO}(h:H a=some o)(h':H b=some u)(d:o≠u):a≠b:=by
 intro e;subst e;rw[h]at h';exact d (Ry h')
theorem bj{H:Hp}{o:HO}(h:H a=some o)(h':H b=none):a≠b:=by
 intro e;subst e;rw[h]at h';cases h'
section
variable(P:Program)(w:World)
noncomputable def lY(h:Heap)(a:Addr)(items:Array Value):Prop:=IsTup h a items/\∃o,h.get? a=some o/\o.dict=none
theorem lY.new(h:Heap)(items:Array Value):lY (h.push { cls:=.type "tuple", data:=.seq items }) h.objs.size items:=⟨IsTup.new h items,_,QJ _ rfl,rfl⟩
noncomputable def aV(H:Hp)(h:Heap)(a:Addr):HO->Prop
  | .lst xs=>xs.length<=sizeLine/\∃(its:List Value) (n:Nat),aD xs its/\h.get? a=some { cls:=.type "list", data:=.seq its.toArray n }
  | .tup xs=>xs.length<=sizeLine/\∃its:List Value,aD xs its/\lY h a its.toArray
  | .dK kvs=>kvs.length<=sizeLine/\(a==sysModules)=false/\∃vs,KV kvs vs/\h.DictOf (b7 P w) a vs
  | .dT kvs=>kvs.length<=sizeLine/\(a==sysModules)=false/\∃xs:List (List aP×Addr×Value),
      Paired (fun(p:List aP×V) (q:List aP×Addr×Value)=>p.1=q.1/\H q.2.1=some (.tup (p.1.map kV))/\aO p.2 q.2.2) kvs xs /\
      ∃o es ep,h.get? a=some o/\o.ExactDict/\o.data=.dict es ep/\es.toList=xs.map (entryOfKey (tupleKind (b7 P w)))/\(xs.map (·.1)).Nodup
  | .set S n=>h.SetOf (intKind P w) a S n
  | .ins C dx fs=>H dx=some (.own a)/\fs.length<=1000/\dx≠a/\h.get? a=some (W.instObj C dx) /\
      ∃mA,h.Ns1 dx mA/\(∀f,gL (fs.lookup f) (mA f))/\PySem.Within mA (fs.map (·.1))
  | .own _ => ∃o,h.get? a=some o
  | .xd fs => ∃mA,h.Ns1 a mA/\∀f,gL (fs.lookup f) (mA f)
  | .rng lo hi => ∃t u v,h.get? a=some { cls:=.type "range", data:=.fields #[.int lo t,.int hi u,.int 1 v] }
  | .frz o u=>h.get? a=some o/\aV H h a u
  | .tbl ps=>h.get? a=some { cls:=.none,data:=.fields ps }
  | .met f x=>h.get? a=some (W.methodObj (.ref f) (.ref x))
  | .ext φ=>φ h/\(∃o,h.get? a=some o)/\∀h1 h2:Heap,φ h1->(∀o,h1.get? a=some o->h2.get? a=some o)->φ h2
noncomputable def dM(H:Hp)(h:Heap):Prop:=∀a o,H a=some o->aV P w H h a o
end
section
variable{H H':Hp}{h':Heap}{o:HO}
theorem aV.lt(x:aV P w H h a o):a<h.objs.size:=by
 cases o with
 | lst xs=>obtain⟨_,_,_,_,e⟩:=x;exact QE e
 | tup xs=>obtain⟨_,_,_,p⟩:=x;exact p.1.lt
 | dK kvs=>obtain⟨_,_,_,_,o,_,_,e,_⟩:=x;exact QE e
 | dT kvs=>obtain⟨_,_,_,_,o,_,_,e,_⟩:=x;exact QE e
 | set S n=>obtain⟨o,_,_,_,e,_⟩:=x;exact QE e
 | ins C dx fs=>obtain⟨_,_,_,e,_⟩:=x;exact QE e
 | own y=>obtain⟨_,e⟩:=x;exact QE e
 | xd fs=>obtain⟨_,⟨_,_,_,e,_⟩,_⟩:=x;exact QE e
 | rng lo hi=>obtain⟨_,_,_,e⟩:=x;exact QE e
 | frz ob u=>obtain⟨e,_⟩:=x;exact QE e
 | tbl ps=>exact QE (show h.get? a=some _ from x)
 | met f y=>exact QE (show h.get? a=some _ from x)
 | ext φ=>obtain⟨_,⟨_,e⟩,_⟩:=x;exact QE e
theorem Paired.mapP{α β:Type}{F G:α->β->Prop}:∀{l₁:List α} {l₂:List β},Paired F l₁ l₂->(∀a b,F a b->G a b)->Paired G l₁ l₂
 | _,_,.nil,_=>.nil
 | _,_,.cons r t,f=>.cons (f _ _ r) (Paired.mapP t f)
theorem aV.stay(x:aV P w H h a o)(k:∀b u,(b=a\/H b=some (.own a))->h.get? b=some u->h'.get? b=some u)
  (ho:∀b,H b=some (.own a)->H' b=some (.own a)) (ht:∀b xs,H b=some (.tup xs)->H' b=some (.tup xs)):aV P w H' h' a o:=by
 induction o with
 | lst xs=>obtain⟨z,its,n,r,e⟩:=x;exact⟨z,its,n,r,k _ _ (.inl rfl) e⟩
 | tup xs=>obtain⟨z,its,r,⟨ob,e,c⟩,o2,e2,d2⟩:=x;exact⟨z,its,r,⟨ob,k _ _ (.inl rfl) e,c⟩,o2,k _ _ (.inl rfl) e2,d2⟩
 | dK kvs=>obtain⟨z,y,vs,r,ob,es,ep,e,c⟩:=x;exact⟨z,y,vs,r,ob,es,ep,k _ _ (.inl rfl) e,c⟩
 | dT kvs =>
  obtain⟨z,y,xs,r,ob,es,ep,e,c⟩:=x
  exact⟨z,y,xs,Paired.mapP r fun p q z=>⟨z.1,ht _ _ z.2.1,z.2.2⟩,ob,es,ep,k _ _ (.inl rfl) e,c⟩
 | set S n=>obtain⟨ob,es,ep,t,e,c⟩:=x;exact⟨ob,es,ep,t,k _ _ (.inl rfl) e,c⟩
 | ins C dx fs =>
  obtain⟨d,z,ne,e,mA,⟨od,es,ep,e2,c⟩,r⟩:=x
  exact⟨ho _ d,z,ne,k _ _ (.inl rfl) e,mA,⟨od,es,ep,k _ _ (.inr d) e2,c⟩,r⟩
 | own y=>obtain⟨ob,e⟩:=x;exact⟨ob,k _ _ (.inl rfl) e⟩
 | xd fs=>obtain⟨mA,⟨od,es,ep,e,c⟩,r⟩:=x;exact⟨mA,⟨od,es,ep,k _ _ (.inl rfl) e,c⟩,r⟩
 | rng lo hi=>obtain⟨t,u,v,e⟩:=x;exact⟨t,u,v,k _ _ (.inl rfl) e⟩
 | frz ob u ih=>obtain⟨e,q⟩:=x;exact⟨k _ _ (.inl rfl) e,ih q⟩
 | tbl ps =>
  have e:h.get? a=some { cls:=.none,data:=.fields ps }:=x
  show h'.get? a=some { cls:=.none,data:=.fields ps }
  exact k a _ (.inl rfl) e
 | met f y =>
  have e:h.get? a=some (W.methodObj (.ref f) (.ref y)):=x
  show h'.get? a=some (W.methodObj (.ref f) (.ref y))
  exact k a _ (.inl rfl) e
 | ext φ=>obtain⟨p,⟨o,e⟩,st⟩:=x;exact⟨st _ _ p fun o q=>k _ _ (.inl rfl) q,⟨o,k _ _ (.inl rfl) e⟩,st⟩
theorem dM.lt(x:dM P w H h)(e:H a=some o):a<h.objs.size:=(x a o e).lt
theorem dM.fresh(x:dM P w H h)(e:h.objs.size<=a):H a=none:=by
 cases q:H a with
 | none=>rfl
 | some u=>exact absurd (QK (x.lt q) e) (Rx _)
theorem dM.kept(x:dM P w H h)(k:∀b u,h.get? b=some u->h'.get? b=some u):dM P w H h':=fun a o e =>
 (x a o e).stay (fun b u _ q=>k b u q) (fun _ q=>q) fun _ _ q=>q
theorem dM.laid(x:dM P w H h)(k:∀b u,h.get? b=some u->h'.get? b=some u)(hp:h.objs.size<=a)(new:aV P w (aF H a o) h' a o):dM P w (aF H a o) h':=fun b u e=>by
 have hn:=x.fresh hp
 by_cases hb:b=a
 ·subst hb;rw[aC]at e;cases e;exact new
 ·rw[aq hb]at e
  exact(x b u e).stay (fun c v _ q=>k c v q) (fun c q=>by rw[aq (bj q hn)];exact q) fun c xs q=>by rw[aq (bj q hn)];exact q
end
noncomputable def Rd(H:Hp)(a:Addr)(u:HO):Prop:=H a=some u\/∃o,H a=some (.frz o u)
theorem Rd.ok{H:Hp}{u:HO}(r:Rd H a u)(x:dM P w H h):aV P w H h a u:=by
 rcases r with r|⟨o,r⟩
 ·exact x a u r
 ·obtain⟨_,q⟩:=x a _ r
  exact q
noncomputable def Dh:Option HO->Prop
 | some (.lst _)=>True
 | some (.dK _)=>True
 | some (.dT _)=>True
 | some (.set _ _)=>True
 | some (.ins _ _ _)=>True
 | some (.ext _)=>True
 | _=>False
section
variable{H:Hp}{h':Heap}{x e:Addr}{o':HO}
theorem dM.write(ok:dM P w H h)(mu:Dh (H x))(he:e=x\/H e=some (.own x))(k:∀b u,b≠e->h.get? b=some u->h'.get? b=some u)(heo:∃u,h'.get? e=some u)
  (new:aV P w (aF H x o') h' x o'):dM P w (aF H x o') h':=fun b u q=>by
 have nown:∀c y,H c=some (.own y)->c≠x:=fun c y r z=>by subst z;rw[r]at mu;exact mu
 have ntup:∀c xs,H c=some (.tup xs)->c≠x:=fun c xs r z=>by subst z;rw[r]at mu;exact mu
 by_cases hb:b=x
 ·subst hb;rw[aC]at q;cases q;exact new
 ·rw[aq hb]at q
  by_cases hbe:b=e
  ·have q':H b=some (.own x):=by
    rcases he with z|z
    ·exact absurd (hbe.trans z) hb
    ·rw[hbe];exact z
   rw[q]at q';cases q'
   obtain⟨v,hv⟩:=heo
   exact⟨v,by rw[hbe];exact hv⟩
  ·refine(ok b u q).stay (fun c v hc r=>k c v ?_ r) (fun c r=>by rw[aq (nown c b r)];exact r) fun c xs r=>by rw[aq (ntup c xs r)];exact r
   rcases hc with rfl|hc
   ·exact hbe
   ·rintro rfl
    rcases he with z|z
    ·exact nown c b hc z
    ·rw[hc]at z;cases z;exact hb rfl
end
structure Un(fs ex:List Addr)(H H':Hp)(h h':Heap):Prop where
 keep:∀b o,h.get? b=some o->H b=none->b∉fs->b∉ex->h'.get? b=some o
 slot:∀b o,h.get? b=some o->H b=none->b∈fs->b∉ex->∃sl,h'.get? b=some { o with slots:=sl }
 free:∀b o,h.get? b=some o->H b=none->b∉ex->H' b=none
 there:∀b o,h.get? b=some o->b∉ex->∃o',h'.get? b=some o'
 tups:∀b xs,H b=some (.tup xs)->H' b=some (.tup xs)
 frzs:∀b o u,H b=some (.frz o u)->H' b=some (.frz o u)
 tbls:∀b ps,H b=some (.tbl ps)->∃more,H' b=some (.tbl (ps++more))
section
variable{fs fs' ex ex':List Addr}{H H1 H2:Hp}{h1 h2 h':Heap}{x e:Addr}{o:HO}
theorem Un.any(u:Un fs ex H H1 h h1){ob:Obj}(q:h.get? b=some ob)(n:H b=none)(hx:b∉ex):∃sl,h1.get? b=some { ob with slots:=sl }:=by
 by_cases hb:b∈fs
 ·exact u.slot b ob q n hb hx
 ·exact⟨ob.slots,u.keep b ob q n hb hx⟩
theorem Un.kept(k:∀b u,h.get? b=some u->h'.get? b=some u):Un fs ex H H h h' :=
 ⟨fun b ob q _ _ _=>k b ob q,fun b ob q _ _ _=>⟨ob.slots,k b ob q⟩,fun _ _ _ n _=>n,fun b ob q _=>⟨ob,k b ob q⟩,fun _ _ q=>q,fun _ _ _ q=>q,fun _ ps q=>⟨#[],by rw[q];simp⟩⟩
theorem Un.refl:Un fs ex H H h h:=Un.kept fun _ _ q=>q
theorem Un.laid(k:∀b u,h.get? b=some u->h'.get? b=some u)(hp:h.objs.size<=a)(hn:H a=none):Un fs ex H (aF H a o) h h' where
 keep:=fun b u q _ _ _=>k b u q
 slot:=fun b u q _ _ _=>⟨u.slots,k b u q⟩
 free:=fun b u q n _=>by rw[aq (QZ (QK (QE q) hp))];exact n
 there:=fun b u q _=>⟨u,k b u q⟩
 tups:=fun b xs q=>by rw[aq (bj q hn)];exact q
 frzs:=fun b u xs q=>by rw[aq (bj q hn)];exact q
 tbls:=fun b ps q=>⟨#[],by rw[aq (bj q hn),q];simp⟩
theorem Un.write(mu:Dh (H x))(he:e=x\/H e=some (.own x))(k:∀b u,b≠e->h.get? b=some u->h'.get? b=some u)(heo:∃u,h'.get? e=some u):Un fs ex H (aF H x o) h h':=by
 have hx:∀b,H b=none->b≠x:=fun b n z=>by subst z;rw[n]at mu;exact mu
 have hb:∀b,H b=none->b≠e:=fun b n z=>by
  subst z
  rcases he with r|r
  ·exact hx b n r
  ·rw[n]at r;cases r
 have hm:∀b u,H b=some u -> ¬ Dh (some u)->b≠x:=fun b u q nm z=>by subst z;rw[q]at mu;exact nm mu
 refine⟨fun b u q n _ _=>k b u (hb b n) q,fun b u q n _ _=>⟨u.slots,k b u (hb b n) q⟩,fun b u q n _=>by rw[aq (hx b n)];exact n,fun b u q _=>?_,
  fun b xs q=>by rw[aq (hm b _ q fun z=>z)];exact q,fun b u xs q=>by rw[aq (hm b _ q fun z=>z)];exact q,fun b ps q=>⟨#[],by rw[aq (hm b _ q fun z=>z),q];simp⟩⟩
 by_cases hbe:b=e
 ·subst hbe;exact heo
 ·exact⟨u,k b u hbe q⟩
end
noncomputable def B7(h:Heap)(H:Hp):List Addr:=(List.range h.objs.size).filter fun a=>(H a).isSome
noncomputable def jN(h:Heap)(H:Hp):Heap:=W.hideAll h (B7 h H)
theorem y8(h:Heap)(H:Hp):(jN h H).objs.size=h.objs.size:=W.hideAll_size _ _
theorem Bs{H:Hp}(e:h.get? b=some o)(n:H b=none):(jN h H).get? b=some o :=
 W.hideAll_get _ e fun hm=>by
  have q:(H b).isSome=true:=(Rz.mp hm).2
  rw[n]at q;simp at q
theorem Eo{H:Hp}(e:(jN h H).get? b=some o):h.get? b=some o/\H b=none:=by
 have e':h.get? b=some o:=W.of_hideAll (B7 h H) e
 refine⟨e',?_⟩
 cases q:H b with
 | none=>rfl
 | some x =>
  have hm:b∈B7 h H:=Rz.mpr ⟨RP.mpr (QE e'),by simp[q]⟩
  have z:(jN h H).get? b=none:=W.hideAll_none (B7 h H) hm
  rw[z]at e;cases e
noncomputable def FG(g h:Heap)(L:Addr):List (Addr×Obj):=(List.range h.objs.size).filterMap fun a=>if a=L\/(g.get? a).isSome=true then none else(h.get? a).map fun o=>(a,o)
noncomputable def dF(g h:Heap)(L d:Addr):List (Addr×Obj):=(FG g h L).filter fun p=>decide (p.1≠d)
variable{v y:V}{H:Hp}{R:V->V->Hp->Prop}{vs:List V}
structure Mod(K:W.Frag)(mg:Str->Option Value)(base:Heap):Prop where
 kin:K.In base
 glob:base.Ns mainGlobals mg
 blt:∃mb,base.Ns builtinsNs mb/\∀x:Str,x ≠ "__name__" -> mb x=bootBuiltins x
 nolimit:base.NoLimit
structure Cx where
 prog:Program
 w:World
 K:W.Frag
 mg:Str->Option Value
 base:Heap
 A:Around
 N:List Str
 s₀:Shared
 H₀:Hp
 env:Env
 outer:List Env
 stack:List Env
 ex:List Addr
 fn:Str->Bool
 calm:Bool
 pn:List (Addr×Obj)
 xe:Value->Shared->Prop
noncomputable def jr(l:List Env):List Addr:=l.filterMap (·.frame)
noncomputable abbrev Cx.fs(X:Cx):List Addr:=jr X.outer
noncomputable def fj(sc:Scope)(x:Str):Prop:=sc.names.lookup x=some .local\/sc.names.lookup x=some .cell\/sc.names.lookup x=some .free
noncomputable def wg(sc:Scope)(x:Str):Prop:=sc.names.lookup x=some .local\/sc.names.lookup x=some .cell
noncomputable def P0(env:Env)(h:Heap)(m:Str->Option Value)(x:Str)(u:Value):Prop :=
 (env.kindOf x=some .local/\m x=some u)\/((env.kindOf x=some .cell\/env.kindOf x=some .free)/\∃c,env.cells.lookup x=some c/\h.IsCell c (some u))
structure Cx.Ok(X:Cx):Prop where
 mod:Mod X.K X.mg X.base
 kind:X.env.scope.kind=.function
 glob:X.env.globals=mainGlobals
 blt:X.env.builtins=builtinsNs
 above:X.s₀.heap.objs.size<=X.env.locals
 inj:∀x y c,X.env.cells.lookup x=some c->X.env.cells.lookup y=some c->x=y
 has:∀x,(X.env.kindOf x=some .cell\/X.env.kindOf x=some .free)->∃c,X.env.cells.lookup x=some c
 cab:∀x c,X.fn x=true->X.env.cells.lookup x=some c->X.s₀.heap.objs.size<=c
 hd:X.calm=true->X.A.handled=none
 frames:X.A.frames=some X.stack
 stk:X.stack=X.outer\/(X.stack=X.env::X.outer/\X.env.frame=some X.env.locals)
 exf:∀b∈X.ex,b≠X.env.locals/\∀x c,X.env.cells.lookup x=some c->c≠b
 bs:∀b o,X.base.get? b=some o->X.s₀.heap.get? b=some o/\X.H₀ b=none
 bsz:X.base.objs.size<=X.s₀.heap.objs.size
 noex:∀b o,X.base.get? b=some o->b∉X.ex
 exfs:∀b∈X.ex,b∉X.fs
 funs:X.s₀.heap.FunFrames X.base X.outer
 frf:∀b∈X.fs,X.H₀ b=none
structure aj(X:Cx)(pins:List (Addr×Obj))(σ:List (Option V))(H:Hp)(s:Shared):Prop where
 ok:X.Ok
 os:s.os=X.s₀.os
 bare:AllBare s.gens
 base:Un X.fs X.ex X.H₀ H X.s₀.heap s.heap
 loc:∃m,s.heap.Ns X.env.locals m/\∀(i:Nat) (x:Str) (v:V),X.N[i]?=some x->σ[i]?=some (some v)->fj X.env.scope x->∃u,aO v u/\P0 X.env s.heap m x u
 cell:∀x c,X.env.cells.lookup x=some c->∃v,s.heap.IsCell c v
 free:H X.env.locals=none
 freeC:∀x c,X.env.cells.lookup x=some c->H c=none
 pin:∀p∈X.pn++pins,s.heap.get? p.1=some p.2/\H p.1=none/\p.1≠X.env.locals/\p.1∉X.fs/\∀v,p.2.data ≠ .cell v
 hok:dM X.prog X.w H s.heap
 len:σ.length=X.N.length
section
variable{X:Cx}{σ:List (Option V)}{H':Hp}{h':Heap}
theorem Cx.Ok.nofr(ok:X.Ok)(e:X.base.get? b=some o):b∉X.fs:=fun hb=>by
 have:=(ok.funs.mem hb).1
 rw[e]at this;cases this
theorem aj.bs(I:aj X pins σ H s):∀b o,X.base.get? b=some o->s.heap.get? b=some o/\H b=none:=fun b o e =>
 ⟨I.base.keep b o (I.ok.bs b o e).1 (I.ok.bs b o e).2 (I.ok.nofr e) (I.ok.noex b o e),I.base.free b o (I.ok.bs b o e).1 (I.ok.bs b o e).2 (I.ok.noex b o e)⟩
theorem aj.bk(I:aj X pins σ H s):∀b o,X.base.get? b=some o->s.heap.get? b=some o:=fun b o e=>(I.bs b o e).1
theorem aj.mod(I:aj X pins σ H s):Mod X.K X.mg X.base:=I.ok.mod
theorem aj.kIn(I:aj X pins σ H s):X.K.In s.heap:=I.ok.mod.kin.keeps I.bk
theorem aj.nolimit(I:aj X pins σ H s):s.heap.NoLimit:=I.ok.mod.nolimit.keeps I.bk
theorem aj.lt(I:aj X pins σ H s):X.env.locals<s.heap.objs.size:=let ⟨_,hn,_⟩:=I.loc;hn.lt
theorem aj.sz(I:aj X pins σ H s):X.s₀.heap.objs.size<=s.heap.objs.size:=QR I.ok.above (RZ I.lt)
theorem aj.nofs(I:aj X pins σ H s)(h:s.heap.objs.size<=a):a∉X.fs:=fun hb=>by
 obtain⟨_,o,ho,_⟩:=I.ok.funs.mem hb
 exact absurd (QK (QE ho) (QR I.sz h)) (Rx _)
theorem aj.cne(I:aj X pins σ H s):∀x c,X.env.cells.lookup x=some c->c≠X.env.locals:=fun x c e z=>by
 obtain⟨v,o,ho,hd⟩:=I.cell x c e
 obtain⟨m,⟨o',es,ep,ho',hd',_⟩,_⟩:=I.loc
 rw[z,ho']at ho;cases ho;rw[hd']at hd;cases hd
theorem aj.funs(I:aj X pins σ H s):s.heap.FunFrames X.base X.outer:=by
 have all:∀(l:List Env),(∀b∈jr l,b∈X.fs)->X.s₀.heap.FunFrames X.base l->s.heap.FunFrames X.base l:=by
  intro l
  induction l with
  | nil=>intro _ _;trivial
  | cons env r ih =>
   intro hs hl
   obtain⟨hk,⟨L,o,hf,hn,ho,hd⟩,hr⟩:=hl
   have hL:L∈X.fs:=hs L (by unfold jr;rw[List.filterMap_cons,hf];exact Qy)
   obtain⟨sl,e⟩:=I.base.slot L o ho (I.ok.frf L hL) hL fun z=>I.ok.exfs L z hL
   exact⟨hk,⟨L,_,hf,hn,e,hd⟩,ih (fun b hb=>hs b (by unfold jr;rw[List.filterMap_cons,hf];exact Qz _ hb)) hr⟩
 exact all X.outer (fun _ hb=>hb) I.ok.funs
theorem aj.stack(I:aj X pins σ H s):s.heap.FunFrames X.base X.stack:=by
 rcases I.ok.stk with e|⟨e,hf⟩
 ·rw[e];exact I.funs
 ·rw[e]
  obtain⟨m,hn,_⟩:=I.loc
  refine .cons (by rw[I.ok.kind];decide) hf hn ?_ I.funs
  exact Heap.get?_none_of_le (QR I.ok.bsz I.ok.above)
theorem aj.stkSub(I:aj X pins σ H s):∀b∈jr X.stack,b∈X.env.locals::X.fs:=fun b hb=>by
 rcases I.ok.stk with e|⟨e,hf⟩
 ·rw[e]at hb;exact Qz _ hb
 ·rw[e]at hb
  unfold jr at hb
  rw[List.filterMap_cons,hf]at hb
  exact hb
theorem aj.stkFree(I:aj X pins σ H s):∀b∈jr X.stack,H b=none:=fun b hb=>by
 rcases QD.mp (I.stkSub b hb)with e|hb
 ·rw[e];exact I.free
 ·obtain⟨_,o,ho,_⟩:=I.ok.funs.mem hb
  exact I.base.free b o ho (I.ok.frf b hb) fun z=>I.ok.exfs b z hb
theorem aj.step{t':Nat}{d':Drawn}(I:aj X pins σ H s)
  (hch:∀b∈ch,(b∈X.ex\/X.s₀.heap.objs.size<=b)/\b≠X.env.locals/\(∀x c,X.env.cells.lookup x=some c->c≠b)/\∀p∈X.pn++pins,p.1≠b)
  (keep:∀b o,b≠X.env.locals->b∉X.fs->b∉ch->s.heap.get? b=some o->H b=none->h'.get? b=some o)
  (slot:∀b o,b≠X.env.locals->b∈X.fs->b∉ch->s.heap.get? b=some o->H b=none->∃sl,h'.get? b=some { o with slots:=sl }) (free:∀b o,b∉ch->s.heap.get? b=some o->H b=none->H' b=none)
  (there:∀b o,b∉ch->s.heap.get? b=some o->∃o',h'.get? b=some o')
  (tups:∀b xs,H b=some (.tup xs)->H' b=some (.tup xs)) (frzs:∀b o u,H b=some (.frz o u)->H' b=some (.frz o u)) (tbls:∀b ps,H b=some (.tbl ps)->∃more,H' b=some (.tbl (ps++more)))
  (ns:∀m,s.heap.Ns X.env.locals m->h'.Ns X.env.locals m) (hok:dM X.prog X.w H' h') (hg:AllBare g') :
  aj X pins σ H' { s with heap:=h',gens:=g',drawn:=d',toks:=t' }:=by
 have neL:∀b o,X.s₀.heap.get? b=some o->b≠X.env.locals:=fun b o e=>QZ (QK (QE e) I.ok.above)
 have neC:∀b o,X.s₀.heap.get? b=some o->b∉X.ex->b∉ch:=fun b o e hx hb=>by
  rcases(hch b hb).1 with z|z
  ·exact hx z
  ·exact absurd (QK (QE e) z) (Rx _)
 have cellK:∀x c,X.env.cells.lookup x=some c->∀v,s.heap.IsCell c v->h'.IsCell c v:=fun x c e v ⟨o,ho,hd⟩=>by
  have nch:c∉ch:=fun z=>(hch c z).2.2.1 x c e rfl
  by_cases hc:c∈X.fs
  ·obtain⟨sl,q⟩:=slot c o (I.cne x c e) hc nch ho (I.freeC x c e)
   exact⟨_,q,hd⟩
  ·exact⟨o,keep c o (I.cne x c e) hc nch ho (I.freeC x c e),hd⟩
 refine⟨I.ok,I.os,hg,⟨fun b o e n hb hx=>?_,fun b o e n hb hx=>?_,fun b o e n hx=>?_,fun b o e hx=>?_,fun b xs e=>tups b xs (I.base.tups b xs e),fun b o xs e=>frzs b o xs (I.base.frzs b o xs e),fun b ps e=>?_⟩,?_,fun x c e=>?_,?_,fun x c e=>?_,fun p hp=>?_,hok,I.len⟩
 ·exact keep b o (neL b o e) hb (neC b o e hx) (I.base.keep b o e n hb hx) (I.base.free b o e n hx)
 ·obtain⟨sl,e1⟩:=I.base.slot b o e n hb hx
  obtain⟨sl',e2⟩:=slot b _ (neL b o e) hb (neC b o e hx) e1 (I.base.free b o e n hx)
  exact⟨sl',e2⟩
 ·obtain⟨o',e1⟩:=I.base.there b o e hx
  exact free b o' (neC b o e hx) e1 (I.base.free b o e n hx)
 ·obtain⟨o',e1⟩:=I.base.there b o e hx
  exact there b o' (neC b o e hx) e1
 ·obtain⟨m1,e1⟩:=I.base.tbls b ps e
  obtain⟨m2,e2⟩:=tbls b _ e1
  exact⟨m1++m2,by rw[e2,Array.append_assoc]⟩
 ·obtain⟨m,hn,hl⟩:=I.loc
  refine⟨m,ns m hn,fun i x v e1 e2 e3=>?_⟩
  obtain⟨u,r,l⟩:=hl i x v e1 e2 e3
  refine⟨u,r,?_⟩
  rcases l with l|⟨k,c,e,z⟩
  ·exact .inl l
  ·exact .inr ⟨k,c,e,cellK x c e _ z⟩
 ·obtain⟨v,z⟩:=I.cell x c e
  exact⟨v,cellK x c e v z⟩
 ·obtain⟨m,⟨o,_,_,ho,_⟩,_⟩:=I.loc
  exact free _ o (fun z=>(hch _ z).2.1 rfl) ho I.free
 ·obtain⟨v,o,ho,hd⟩:=I.cell x c e
  exact free c o (fun z=>(hch c z).2.2.1 x c e rfl) ho (I.freeC x c e)
 ·obtain⟨e,n,ne,nf,d⟩:=I.pin p hp
  have nch:p.1∉ch:=fun z=>(hch p.1 z).2.2.2 p hp rfl
  exact⟨keep p.1 p.2 ne nf nch e n,free p.1 p.2 nch e n,ne,nf,d⟩
theorem aj.un{t':Nat}(I:aj X pins σ H s)(u:Un X.fs [] H H' s.heap h')(hok:dM X.prog X.w H' h'):aj X pins σ H' { s with heap:=h',toks:=t' }:=by
 obtain⟨m,⟨o,es,ep,ho,r⟩,_⟩:=id I.loc
 obtain⟨sl,hL⟩:=u.any ho I.free (by simp)
 exact I.step (g':=s.gens) (d':=s.drawn) (ch:=[]) (fun _ z=>nomatch z) (fun b o _ hb _ e n=>u.keep b o e n hb (by simp)) (fun b o _ hb _ e n=>u.slot b o e n hb (by simp)) (fun b o _ e n=>u.free b o e n (by simp)) (fun b o _ e=>u.there b o e (by simp)) u.tups u.frzs u.tbls (fun m' hm=>by
  obtain⟨o',es',ep',ho',r'⟩:=hm
  rw[ho]at ho';cases ho'
  exact⟨_,es',ep',hL,r'⟩) hok I.bare
theorem aj.call{t':Nat}{d':Drawn}(I:aj X pins σ H s)(u:Un (jr X.stack) ch H H' s.heap h')(hok:dM X.prog X.w H' h')(hg:AllBare g')
  (hch:∀b∈ch,(b∈X.ex\/X.s₀.heap.objs.size<=b)/\b≠X.env.locals/\(∀x c,X.env.cells.lookup x=some c->c≠b)/\∀p∈X.pn++pins,p.1≠b) :
  aj X pins σ H' { s with heap:=h',gens:=g',drawn:=d',toks:=t' }:=by
 obtain⟨m,⟨o,es,ep,ho,r⟩,_⟩:=id I.loc
 obtain⟨sl,hL⟩:=u.any ho I.free fun z=>(hch _ z).2.1 rfl
 exact I.step (ch:=ch) hch (fun b o hL hb hc e n=>u.keep b o e n (fun z=>(QD.mp (I.stkSub b z)).elim hL hb) hc) (fun b o _ _ hc e n=>u.any e n hc) (fun b o hc e n=>u.free b o e n hc) (fun b o hc e=>u.there b o e hc) u.tups u.frzs u.tbls (fun m' hm=>by
  obtain⟨o',es',ep',ho',r'⟩:=hm
  rw[ho]at ho';cases ho'
  exact⟨_,es',ep',hL,r'⟩) hok hg
theorem aj.turned{t':Nat}(I:aj X pins σ H s)(k:∀b o,b≠it->s.heap.get? b=some o->h'.get? b=some o)(hn:H it=none)(hL:it≠X.env.locals)
  (h1:it∈X.ex\/X.s₀.heap.objs.size<=it) (h2:∀x c,X.env.cells.lookup x=some c->c≠it) (h3:∀p∈X.pn++pins,p.1≠it):aj X pins σ H { s with heap:=h',toks:=t' }:=by
 have nit:∀b u,H b=some u->b≠it:=fun b u e z=>by rw[z,hn]at e;cases e
 refine I.step (g':=s.gens) (d':=s.drawn) (ch:=[it]) (fun b hb=>?_) (fun b o _ _ hc e _=>k b o (fun z=>hc (by simp[z])) e) (fun b o _ _ hc e _=>⟨o.slots,k b o (fun z=>hc (by simp[z])) e⟩) (fun _ _ _ _ n=>n)
  (fun b o hc e=>⟨o,k b o (fun z=>hc (by simp[z])) e⟩) (fun _ _ e=>e) (fun _ _ _ e=>e) (fun b ps e=>⟨#[],by rw[e];simp⟩) (fun m hm=>?_) (fun b u e=>?_) I.bare
 ·have e:b=it:=by simpa using hb
  subst e
  exact⟨h1,hL,h2,h3⟩
 ·obtain⟨o,es,ep,ho,r⟩:=hm
  exact⟨o,es,ep,k _ o (RT hL) ho,r⟩
 ·refine(I.hok b u e).stay (fun c v hc q=>k c v ?_ q) (fun _ q=>q) fun _ _ q=>q
  rcases hc with z|z
  ·rw[z];exact nit b u e
  ·exact nit c _ z
theorem aj.tok(I:aj X pins σ H s)(t:Nat):aj X pins σ H { s with toks:=t }:=I.un (h':=s.heap) (t':=t) Un.refl I.hok
theorem aj.kept{t':Nat}(I:aj X pins σ H s)(k:∀b u,s.heap.get? b=some u->h'.get? b=some u):aj X pins σ H { s with heap:=h',toks:=t' }:=I.un (Un.kept k) (I.hok.kept k)
theorem aj.laid{o:HO}{t':Nat}(I:aj X pins σ H s)(k:∀b u,s.heap.get? b=some u->h'.get? b=some u)(hp:s.heap.objs.size<=a)(new:aV X.prog X.w (aF H a o) h' a o) :
  aj X pins σ (aF H a o) { s with heap:=h',toks:=t' }:=I.un (Un.laid k hp (I.hok.fresh hp)) (I.hok.laid k hp new)
theorem aj.write{x e:Addr}{o:HO}{t':Nat}(I:aj X pins σ H s)(mu:Dh (H x))(he:e=x\/H e=some (.own x))(k:∀b u,b≠e->s.heap.get? b=some u->h'.get? b=some u)(heo:∃u,h'.get? e=some u)
  (new:aV X.prog X.w (aF H x o) h' x o):aj X pins σ (aF H x o) { s with heap:=h',toks:=t' }:=I.un (Un.write mu he k heo) (I.hok.write mu he k heo new)
theorem aj.pins_of{pins':List (Addr×Obj)}(I:aj X pins σ H s)(h:∀p∈pins',s.heap.get? p.1=some p.2/\H p.1=none/\p.1≠X.env.locals/\p.1∉X.fs/\∀v,p.2.data ≠ .cell v):aj X pins' σ H s :=
 ⟨I.ok,I.os,I.bare,I.base,I.loc,I.cell,I.free,I.freeC,fun p hp=>(QX.mp hp).elim (fun z=>I.pin p (List.mem_append_left _ z)) (h p),I.hok,I.len⟩
theorem n8(hN:N.Nodup)(a:N[i]?=some x)(b:N[j]?=some x):i=j:=by
 obtain⟨h1,e1⟩:=QO.mp a
 obtain⟨h2,e2⟩:=QO.mp b
 exact(List.getElem_inj hN).mp (e1.trans e2.symm)
theorem xQ{Q:Unit->Shared->Prop}(I:aj X pins σ H s)(hN:X.N.Nodup)(hi:X.N[i]?=some x)(hx:wg X.env.scope x)(r:aO v u)
  (h:∀s',aj X pins (σ.set i (some v)) H s'->(∃a,Heap.SameBut a s.heap s'.heap/\(a=X.env.locals\/X.env.cells.lookup x=some a))->Q () s') (hf:X.fn x=true\/X.env.scope.names.lookup x=some .local:=by first|exact .inl rfl|exact .inr rfl|assumption):wpAny M A (storeName X.env x u) Q E s:=by
 obtain⟨m,hn,hl⟩:=id I.loc
 have hcls:(X.env.scope.kind == .class || (X.env.scope.kind == .module&&X.env.locals != X.env.globals))=false:=by rw[I.ok.kind];rfl
 have hiσ:i<σ.length:=by rw[I.len];exact(QO.mp hi).1
 have cne:=I.cne
 have tracked:∀{a:Addr} {h':Heap},(∃o,s.heap.get? a=some o/\H a=none)->Heap.SameBut a s.heap h'->dM X.prog X.w H h':=fun {a h'} ha hs b ob e=>by
  obtain⟨_,_,hfree⟩:=ha
  refine(I.hok b ob e).stay (fun c w' hc q=>(hs.2 c ?_).trans q) (fun _ q=>q) fun _ _ q=>q
  rintro rfl
  rcases hc with rfl|hc
  ·rw[hfree]at e;cases e
  ·rw[hfree]at hc;cases hc
 rcases hx with hk|hk
 ·refine wpAny_storeName_local hk hn (fun h' hn' hs=>?_) hcls
  obtain⟨oL,_,_,hoL,_⟩:=id hn
  refine h _ ⟨I.ok,I.os,I.bare,⟨fun b o e n hb hx=>?_,fun b o e n hb hx=>?_,I.base.free,fun b o e hx=>?_,I.base.tups,I.base.frzs,I.base.tbls⟩,⟨_,hn',fun j y v' e1 e2 e3=>?_⟩,fun y c e=>?_,I.free,I.freeC,fun p hp=>?_,tracked ⟨oL,hoL,I.free⟩ hs,by simpa using I.len⟩ ⟨_,hs,.inl rfl⟩
  ·exact(hs.2 b (QZ (QK (QE e) I.ok.above))).trans (I.base.keep b o e n hb hx)
  ·obtain⟨sl,e1⟩:=I.base.slot b o e n hb hx
   exact⟨sl,(hs.2 b (QZ (QK (QE e) I.ok.above))).trans e1⟩
  ·obtain⟨o',e1⟩:=I.base.there b o e hx
   exact⟨o',(hs.2 b (QZ (QK (QE e) I.ok.above))).trans e1⟩
  ·by_cases hj:j=i
   ·subst hj
    rw[hi]at e1;cases e1
    rw[List.getElem?_set_self hiσ]at e2
    cases e2
    exact⟨u,r,.inl ⟨hk,by simp⟩⟩
   ·rw[R0 (RT hj)]at e2
    obtain⟨u',r',q⟩:=hl j y v' e1 e2 e3
    refine⟨u',r',?_⟩
    rcases q with⟨k,e⟩|⟨k,c,e,z⟩
    ·refine .inl ⟨k,?_⟩
     have:y≠x:=fun e=>hj (n8 hN e1 (e ▸ hi))
     simp[this,e]
    ·exact .inr ⟨k,c,e,z.sameBut hs (cne y c e)⟩
  ·obtain⟨w',z⟩:=I.cell y c e
   exact⟨w',z.sameBut hs (cne y c e)⟩
  ·obtain⟨e,n,ne,nf,d⟩:=I.pin p hp
   exact⟨(hs.2 p.1 ne).trans e,n,ne,nf,d⟩
 ·have hfn:X.fn x=true:=by
   rcases hf with z|z
   ·exact z
   ·rw[z]at hk;cases hk
  obtain⟨c,hc⟩:=I.ok.has x (.inl hk)
  obtain⟨w',z⟩:=I.cell x c hc
  refine wpAny_storeName_cell I.ok.kind hk hc z (fun h' hc' hs=>?_)
  obtain⟨oc,hoc,hocd⟩:=id z
  refine h { s with heap:=h' } ⟨I.ok,I.os,I.bare,⟨fun b o e n hb hx=>?_,fun b o e n hb hx=>?_,I.base.free,fun b o e hx=>?_,I.base.tups,I.base.frzs,I.base.tbls⟩,⟨m,hn.sameBut hs (RT (cne x c hc)),fun j y v' e1 e2 e3=>?_⟩,fun y c' e=>?_,I.free,I.freeC,fun p hp=>?_,tracked ⟨oc,hoc,I.freeC x c hc⟩ hs,by simpa using I.len⟩ ⟨c,hs,.inr hc⟩
  ·exact(hs.2 b (QZ (QK (QE e) (I.ok.cab x c hfn hc)))).trans (I.base.keep b o e n hb hx)
  ·obtain⟨sl,e1⟩:=I.base.slot b o e n hb hx
   exact⟨sl,(hs.2 b (QZ (QK (QE e) (I.ok.cab x c hfn hc)))).trans e1⟩
  ·obtain⟨o',e1⟩:=I.base.there b o e hx
   exact⟨o',(hs.2 b (QZ (QK (QE e) (I.ok.cab x c hfn hc)))).trans e1⟩
  ·by_cases hj:j=i
   ·subst hj
    rw[hi]at e1;cases e1
    rw[List.getElem?_set_self hiσ]at e2
    cases e2
    exact⟨u,r,.inr ⟨.inl hk,c,hc,hc'⟩⟩
   ·rw[R0 (RT hj)]at e2
    obtain⟨u',r',q⟩:=hl j y v' e1 e2 e3
    refine⟨u',r',?_⟩
    rcases q with q|⟨k,c',e,z'⟩
    ·exact .inl q
    ·refine .inr ⟨k,c',e,z'.sameBut hs ?_⟩
     rintro rfl
     exact hj (n8 hN e1 (I.ok.inj _ _ _ e hc ▸ hi))
  ·by_cases hcc:c'=c
   ·subst hcc;exact⟨_,hc'⟩
   ·obtain⟨w2,z2⟩:=I.cell y c' e
    exact⟨w2,z2.sameBut hs hcc⟩
  ·obtain⟨e,n,ne,nf,d⟩:=I.pin p hp
   refine⟨(hs.2 p.1 ?_).trans e,n,ne,nf,d⟩
   intro q
   rw[q,hoc]at e
   have q':oc=p.2:=Ry e
   exact d w' (by rw[<- q'];exact hocd)
theorem jE{Q:Unit->Shared->Prop}(I:aj X pins σ H s)(hN:X.N.Nodup)(hi:X.N[i]?=some x)(hx:wg X.env.scope x)(r:aO v u)
  (h:∀s',aj X pins (σ.set i (some v)) H s'->Q () s') (hf:X.fn x=true\/X.env.scope.names.lookup x=some .local:=by first|exact .inl rfl|exact .inr rfl|assumption):wpAny M A (storeName X.env x u) Q E s :=
 xQ I hN hi hx r (fun s' I' _=>h s' I') hf
theorem aj.call'(I:aj X pins σ H s)(ho:s'.os=s.os)(u:Un (jr X.stack) ch H H' s.heap s'.heap)(hok:dM X.prog X.w H' s'.heap)(hg:AllBare s'.gens)
  (hch:∀b∈ch,(b∈X.ex\/X.s₀.heap.objs.size<=b)/\b≠X.env.locals/\(∀x c,X.env.cells.lookup x=some c->c≠b)/\∀p∈X.pn++pins,p.1≠b):aj X pins σ H' s':=by
 obtain⟨h',g',d',t',o'⟩:=s'
 have e:o'=s.os:=ho
 subst e
 exact I.call (g':=g') (t':=t') (d':=d') u hok hg hch
end
noncomputable abbrev XK:=Value->Option Addr->Hp->Prop
noncomputable abbrev St:=List (Option V)
noncomputable abbrev VK:=V->Hp->Prop
noncomputable abbrev TE:=St->Hp->VK->Prop
noncomputable abbrev TT:=St->Hp->(Bool->Hp->Prop)->Prop
noncomputable abbrev TA:=St->Hp->(List V->Hp->Prop)->Prop
structure lZ where
 nx:St->Hp->Prop
 rt:VK
 bk:St->Hp->Prop:=fun _ _=>False
 ct:St->Hp->Prop:=fun _ _=>False
noncomputable abbrev TS:=lZ->St->Hp->Prop
noncomputable def EP(X:Cx)(pins:List (Addr×Obj))(σ:St)(Q:VK)(u:Value)(s':Shared):Prop:=∃v H',aj X pins σ H' s'/\aO v u/\Q v H'
noncomputable def TP(X:Cx)(pins:List (Addr×Obj))(σ:St)(Q:Bool->Hp->Prop)(b:Bool)(s':Shared):Prop:=∃H',aj X pins σ H' s'/\Q b H'
noncomputable def AP(X:Cx)(pins:List (Addr×Obj))(σ:St)(Q:List V->Hp->Prop)(us:List Value)(s':Shared):Prop:=∃vs H',aj X pins σ H' s'/\aD vs us/\Q vs H'
noncomputable def SP(X:Cx)(pins:List (Addr×Obj))(D:lZ)(f:Flow)(s':Shared):Prop :=
 match f with
 | .next => ∃σ' H',aj X pins σ' H' s'/\D.nx σ' H'
 | .brk => ∃σ' H',aj X pins σ' H' s'/\D.bk σ' H'
 | .cont => ∃σ' H',aj X pins σ' H' s'/\D.ct σ' H'
 | .ret u => ∃v σ' H',aj X pins σ' H' s'/\aO v u/\D.rt v H'
noncomputable def PE(X:Cx)(e:Expr)(t:TE):Prop :=
 ∀(pins:List (Addr×Obj)) (s:Shared) (σ:St) (H:Hp) (Q:VK),aj X pins σ H s->t σ H Q->wpAny (model X.prog X.w) X.A (eval e X.env) (EP X pins σ Q) X.xe s
noncomputable def PT(X:Cx)(e:Expr)(t:TT):Prop :=
 ∀(pins:List (Addr×Obj)) (s:Shared) (σ:St) (H:Hp) (Q:Bool->Hp->Prop),aj X pins σ H s->t σ H Q->wpAny (model X.prog X.w) X.A (isTrue e X.env (eval e X.env)) (TP X pins σ Q) X.xe s
noncomputable def PW(X:Cx)(e:Expr)(t:TT):Prop :=
 ∀(whole:Sem Value) (pins:List (Addr×Obj)) (s:Shared) (σ:St) (H:Hp) (Q:Bool->Hp->Prop),aj X pins σ H s->t σ H Q->wpAny (model X.prog X.w) X.A (isTrue e X.env whole) (TP X pins σ Q) X.xe s
theorem PW.pt{X:Cx}{t:TT}(h:PW X e t):PT X e t:=h _
noncomputable def PA(X:Cx)(es:List Expr)(t:TA):Prop :=
 ∀(pos:Pos) (pins:List (Addr×Obj)) (s:Shared) (σ:St) (H:Hp) (Q:List V->Hp->Prop),aj X pins σ H s->t σ H Q->wpAny (model X.prog X.w) X.A (spliced (backTo pos (starEach es X.env))) (AP X pins σ Q) X.xe s
noncomputable def PS(X:Cx)(st:Stmt)(t:TS):Prop :=
 ∀(pins:List (Addr×Obj)) (s:Shared) (σ:St) (H:Hp) (D:lZ),aj X pins σ H s->t D σ H->wpAny (model X.prog X.w) X.A (exec st X.env) (SP X pins D) X.xe s
noncomputable def dZ(X:Cx)(st:List Stmt)(t:TS):Prop :=
 ∀(pins:List (Addr×Obj)) (s:Shared) (σ:St) (H:Hp) (D:lZ),aj X pins σ H s->t D σ H->wpAny (model X.prog X.w) X.A (execs st X.env) (SP X pins D) X.xe s
theorem aL{t:Sem α}{Q Q':α->Shared->Prop}(h:wpAny M A t Q E s)(hQ:∀a s,Q a s->Q' a s):wpAny M A t Q' E s:=RQ h hQ fun _ _ x=>x
variable{Q:VK}{σ:St}{t te tl:TE}{X:Cx}{tc:TT}{ta:TA}{tb:TS}
section
theorem Lr{a b:Expr}{ta tb:TE}(ha:PE X a ta)(hb:PE X b tb)(I:aj X pins σ H s)(h:ta σ H fun x H1=>tb σ H1 fun y H2=>R x y H2)
  {Q:α->Shared->Prop} {f:Value->Value->Sem α}
  (hf:∀v u s2 x y H2,aj X pins σ H2 s2->aO x v->aO y u->R x y H2->wpAny (model X.prog X.w) X.A (f v u) Q X.xe s2) :
  wpAny (model X.prog X.w) X.A (eval a X.env) (fun v s₁=>wpAny (model X.prog X.w) X.A (eval b X.env) (fun u s₂=>wpAny (model X.prog X.w) X.A (f v u) Q X.xe s₂) X.xe s₁) X.xe s:=by
 refine aL (ha pins s σ H _ I h) fun v s1 ⟨x,H1,I1,r1,q1⟩=>?_
 refine aL (hb pins s1 σ H1 _ I1 q1) fun u s2 ⟨y,H2,I2,r2,q2⟩=>?_
 exact hf v u s2 x y H2 I2 r1 r2 q2
noncomputable def jC(i:Nat):TE:=fun σ H Q => ∃v,σ[i]?=some (some v)/\Q v H
noncomputable def tC(v:V):TE:=fun _ H Q=>Q v H
theorem fF(hN:X.N[i]?=some x)(hv:fj X.env.scope x)(hd:(x==("__debug__" : Str))=false:=by decide)(hcd:(x==("__classdict__" : Str))=false:=by decide):PE X (.Name x pos) (jC i):=by
 intro pins s σ H Q I h
 obtain⟨v,e,h⟩:=h
 obtain⟨m,hn,hl⟩:=I.loc
 obtain⟨u,r,l⟩:=hl i x v hN e hv
 have fin:EP X pins σ Q u s:=⟨v,H,I,r,h⟩
 rcases l with⟨hk,hm⟩|⟨hk,c,hc,hcell⟩
 ·exact wpAny_Name (wpAny_loadName_local I.ok.kind hk hn hm fin) hd
 ·rcases hk with hk|hk
  ·exact wpAny_Name (wpAny_loadName_cell I.ok.kind hk hc hcell fin) hd
  ·exact wpAny_Name (wpAny_loadName_free I.ok.kind hk hc hcell fin hcd) hd
theorem GU{i j pos}:PE X (.Constant (.int i) j pos) (tC (.int i)):=fun _ _ _ H _ I h=>wpAny_Constant_int ⟨.int i,H,I.tok _,⟨_,rfl⟩,h⟩
theorem Ks{b j pos}:PE X (.Constant (.bool b) j pos) (tC (.bl b)):=fun _ _ _ H _ I h=>Constant_bool ⟨.bl b,H,I,rfl,h⟩
theorem GS{j pos}:PE X (.Constant .none j pos) (tC .non):=fun _ _ _ H _ I h=>Constant_none ⟨.non,H,I,rfl,h⟩
theorem GP{x j pos}:PE X (.Constant (.str x) j pos) (tC (.str x)):=fun _ _ _ H _ I h=>Calls.Constant_str ⟨.str x,H,I.tok _,⟨_,rfl⟩,h⟩
noncomputable def Gl(X:Cx)(x:Str):Prop:=X.env.kindOf x=some .globalImplicit
theorem jl{Q:Value->Shared->Prop}(I:aj X pins σ H s)(hg:Gl X x)(hm:X.mg x=some u)(h:Q u s)
  (hd:(x==("__debug__" : Str))=false:=by decide):wpAny (model X.prog X.w) X.A (eval (.Name x pos) X.env) Q E s :=
 Calls.Name_function_global I.ok.kind hg (Calls.loadGlobal_global (by rw[I.ok.glob];exact I.mod.glob.keeps I.bk) hm h) hd
theorem fG{Q:Value->Shared->Prop}(I:aj X pins σ H s)(hg:Gl X x)(hm:X.mg x=none)(hv:bootBuiltins x=some u)(h:Q u s)
  (hn:x ≠ "__name__" := by decide) (hd:(x==("__debug__" : Str))=false:=by decide):wpAny (model X.prog X.w) X.A (eval (.Name x pos) X.env) Q E s:=by
 obtain⟨mb,h1,h2⟩:=I.mod.blt
 exact Calls.Name_function_global I.ok.kind hg (Calls.loadGlobal_builtin (by rw[I.ok.glob];exact I.mod.glob.keeps I.bk) hm (by rw[I.ok.blt];exact h1.keeps I.bk) ((h2 x hn).trans hv) h) hd
theorem Ea(hg:Gl X x)(hm:X.mg x=some u)(r:aO v u)(hd:(x==("__debug__" : Str))=false:=by decide):PE X (.Name x pos) (tC v) :=
 fun _ _ _ H _ I h=>jl I hg hm ⟨v,H,I,r,h⟩ hd
theorem Ec(hg:Gl X x)(hm:X.mg x=none)(hv:bootBuiltins x=some u)(r:aO v u)(hn:x ≠ "__name__" := by decide)(hd:(x==("__debug__" : Str))=false:=by decide):PE X (.Name x pos) (tC v) :=
 fun _ _ _ H _ I h=>fG I hg hm hv ⟨v,H,I,r,h⟩ hn hd
variable{a b:Expr}{ta tb:TE}
noncomputable def tB(t:TE):TT:=fun σ H Q=>t σ H fun x H1 => ∃c,x=.bl c/\Q c H1
theorem GF(h:PE X e t)(he:∀whole,isTrue e X.env whole=(do let v <- whole;standAt e.pos;holding [v] (truthy v)):=by intro _;rfl):PT X e (tB t):=by
 intro pins s σ H Q I hw
 refine isTrue_plain (aL (h pins s σ H _ I hw) fun v s1 ⟨x,H1,I1,r1,q1⟩=>?_) (he _)
 obtain⟨d,rfl,q⟩:=q1
 cases r1
 exact RI ⟨H1,I1,q⟩
variable{tA tB':TT}{dF:List Expr}
noncomputable def LL(t u:TT):TT:=fun σ H Q=>t σ H fun c H1=>if c=true then u σ H1 Q else Q false H1
noncomputable def Qa(t u:TT):TT:=fun σ H Q=>t σ H fun c H1=>if c=true then Q true H1 else u σ H1 Q
noncomputable def LG(t:TT):TT:=fun σ H Q=>t σ H fun c H1=>Q (!c) H1
theorem DS(ha:PT X a tA):PW X (.BoolOp .And [a] pos) tA:=by
 intro wh pins s σ H Q I h
 refine isTrue_and (aL (ha pins s σ H Q I h) fun c s1 e=>?_)
 cases c with
 | true=>exact isTrue_and_nil e
 | false=>exact e
theorem GE(ha:PT X a tA):PW X (.BoolOp .Or [a] pos) tA:=by
 intro wh pins s σ H Q I h
 refine isTrue_or (aL (ha pins s σ H Q I h) fun c s1 e=>?_)
 cases c with
 | false=>exact isTrue_or_nil e
 | true=>exact e
theorem x6(ha:PT X a tA)(hb:PW X (.BoolOp .And (b::dF) pos) tB'):PW X (.BoolOp .And (a::b::dF) pos) (LL tA tB'):=by
 intro wh pins s σ H Q I h
 refine isTrue_and (aL (ha pins s σ H _ I h) fun c s1 ⟨H1,I1,q1⟩=>?_)
 cases c with
 | true=>exact hb wh pins s1 σ H1 Q I1 q1
 | false=>exact⟨H1,I1,q1⟩
theorem Cn(ha:PT X a tA)(hb:PW X (.BoolOp .Or (b::dF) pos) tB'):PW X (.BoolOp .Or (a::b::dF) pos) (Qa tA tB'):=by
 intro wh pins s σ H Q I h
 refine isTrue_or (aL (ha pins s σ H _ I h) fun c s1 ⟨H1,I1,q1⟩=>?_)
 cases c with
 | true=>exact⟨H1,I1,q1⟩
 | false=>exact hb wh pins s1 σ H1 Q I1 q1
theorem GG(ha:PT X a tA):PT X (.UnaryOp .Not a pos) (LG tA):=by
 intro pins s σ H Q I h
 exact isTrue_not (ha pins s σ H (fun c H1=>Q (!c) H1) I h)
noncomputable def Kf(ta tb:TE):TE:=fun σ H Q=>ta σ H fun x H1 => ∃c,x=.bl c/\if c=true then tb σ H1 Q else Q (.bl false) H1
noncomputable def LF(ta tb:TE):TE:=fun σ H Q=>ta σ H fun x H1 => ∃c,x=.bl c/\if c=true then Q (.bl true) H1 else tb σ H1 Q
noncomputable def Ka(ta:TE):TE:=fun σ H Q=>ta σ H fun x H1 => ∃c,x=.bl c/\Q (.bl (!c)) H1
theorem GQ{op}(h:PE X a t):PE X (.BoolOp op [a] pos) t:=fun pins s σ H Q I hw=>BoolOp_one (h pins s σ H Q I hw)
theorem yg(ha:PE X a ta)(hb:PE X (.BoolOp .And (b::dF) pos) tb):PE X (.BoolOp .And (a::b::dF) pos) (Kf ta tb):=by
 intro pins s σ H Q I h
 refine BoolOp_and (aL (ha pins s σ H _ I h) fun v s1 ⟨x,H1,I1,r1,q1⟩=>?_)
 obtain⟨c,rfl,q1⟩:=q1
 cases r1
 refine RI ?_
 cases c with
 | true=>exact hb pins s1 σ H1 Q I1 q1
 | false=>exact⟨.bl false,H1,I1,rfl,q1⟩
theorem Cu(ha:PE X a ta)(hb:PE X (.BoolOp .Or (b::dF) pos) tb):PE X (.BoolOp .Or (a::b::dF) pos) (LF ta tb):=by
 intro pins s σ H Q I h
 refine BoolOp_or (aL (ha pins s σ H _ I h) fun v s1 ⟨x,H1,I1,r1,q1⟩=>?_)
 obtain⟨c,rfl,q1⟩:=q1
 cases r1
 refine RI ?_
 cases c with
 | false=>exact hb pins s1 σ H1 Q I1 q1
 | true=>exact⟨.bl true,H1,I1,rfl,q1⟩
theorem GR(ha:PE X a ta):PE X (.UnaryOp .Not a pos) (Ka ta):=by
 intro pins s σ H Q I h
 refine UnaryOp_ (aL (ha pins s σ H _ I h) fun v s1 ⟨x,H1,I1,r1,q1⟩=>?_)
 obtain⟨c,rfl,q1⟩:=q1
 cases r1
 exact not_of (RI ⟨.bl (!c),H1,I1,rfl,q1⟩)
end
noncomputable def ci(K:W.Frag)(H:Hp)(a:Addr)(xs:List V):Prop :=
 Rd H a (.lst xs) \/
  ∃(o:Obj) (its:Array Value) (n:Nat),K.lookup a=some o/\o.cls=.type "list" /\ o.dict=none/\o.data=.seq its n/\its.size<=sizeLine/\aD xs its.toList
noncomputable def aZ(K:W.Frag)(H:Hp)(a:Addr)(xs:List V):Prop :=
 Rd H a (.tup xs) \/
  ∃(o:Obj) (its:Array Value) (n:Nat),K.lookup a=some o/\o.cls=.type "tuple" /\ o.dict=none/\o.data=.seq its n/\its.size<=sizeLine/\aD xs its.toList
noncomputable def PZ:Value->Option V
 | .none=>some .non
 | .bool b=>some (.bl b)
 | .int i _=>some (.int i)
 | .str x _=>some (.str x)
 | .bytes b _=>some (.byt b)
 | .float b _=>some (.flt b)
 | .ref a=>some (.ref a)
 | .type n=>some (.ty n)
 | _=>none
theorem aO.abs{x:V}(r:aO x u):PZ u=some x:=by
 cases x with
 | non=>cases r;rfl
 | bl _=>cases r;rfl
 | int _=>obtain⟨t,rfl⟩:=r;rfl
 | str _=>obtain⟨t,rfl⟩:=r;rfl
 | byt _=>obtain⟨t,rfl⟩:=r;rfl
 | flt _=>obtain⟨t,rfl⟩:=r;rfl
 | ref _=>cases r;rfl
 | ty _=>cases r;rfl
theorem aO.inj{x:V}(r:aO x u)(q:aO y u):x=y:=Ry (r.abs.symm.trans q.abs)
theorem aD.inj:∀{xs ys:List V} {us:List Value},aD xs us->aD ys us->xs=ys
 | _,_,_,.nil,.nil=>rfl
 | _,_,_,.cons r t,.cons r' t'=>by rw[r.inj r',aD.inj t t']
section
variable{xs ys:List V}
theorem ci.of(h:H a=some (.lst xs)):ci K H a xs:=.inl (.inl h)
theorem aZ.of(h:H a=some (.tup xs)):aZ K H a xs:=.inl (.inl h)
theorem aj.list(I:aj X pins σ H s)(h:ci X.K H a xs):∃its:List Value,aD xs its/\PlainL s.heap a its.toArray/\xs.length<=sizeLine:=by
 rcases h with h|⟨o,its,n,hk,hc,hd,hs,hz,r⟩
 ·obtain⟨z,its,n,r,e⟩:=h.ok I.hok
  exact⟨its,r,⟨_,n,e,rfl,rfl,rfl⟩,z⟩
 ·refine⟨its.toList,r,⟨o,n,I.kIn a o hk,hc,hd,by simpa using hs⟩,?_⟩
  have e:=r.length
  simp only[QF]at e
  omega
theorem aj.tuple(I:aj X pins σ H s)(h:aZ X.K H a xs):∃its:List Value,aD xs its/\IsTup s.heap a its.toArray/\xs.length<=sizeLine:=by
 rcases h with h|⟨o,its,n,hk,hc,hd,hs,hz,r⟩
 ·obtain⟨z,its,r,p⟩:=h.ok I.hok
  exact⟨its,r,p.1,z⟩
 ·refine⟨its.toList,r,⟨o,I.kIn a o hk,hc,n,by simpa using hs⟩,?_⟩
  have e:=r.length
  simp only[QF]at e
  omega
theorem aj.tupN(I:aj X pins σ H s)(h:aZ X.K H a xs):∃o,s.heap.get? a=some o/\o.cls=.type "tuple" /\ o.dict=none:=by
 obtain h|⟨o,_,_,hk,hc,hd,_⟩:=h
 ·obtain⟨z,its,r,⟨o,e,c,_⟩,o2,e2,d⟩:=h.ok I.hok
  rw[e]at e2;cases e2
  exact⟨o,e,c,d⟩
 ·exact⟨o,I.kIn a o hk,hc,hd⟩
theorem aj.list_inj(I:aj X pins σ H s)(h:ci X.K H a xs)(h':ci X.K H a ys):xs=ys:=by
 obtain⟨its,r,⟨o,n,e,_,_,d⟩,_⟩:=I.list h
 obtain⟨its',r',⟨o',n',e',_,_,d'⟩,_⟩:=I.list h'
 rw[e]at e';cases e'
 rw[d]at d'
 injection d' with d1 _
 have:its=its':=by simpa using RC Array.toList d1
 subst this
 exact r.inj r'
theorem aj.tuple_inj(I:aj X pins σ H s)(h:aZ X.K H a xs)(h':aZ X.K H a ys):xs=ys:=by
 obtain⟨its,r,⟨o,e,_,n,d⟩,_⟩:=I.tuple h
 obtain⟨its',r',⟨o',e',_,n',d'⟩,_⟩:=I.tuple h'
 rw[e]at e';cases e'
 rw[d]at d'
 injection d' with d1 _
 have:its=its':=by simpa using RC Array.toList d1
 subst this
 exact r.inj r'
end
noncomputable abbrev Cx.wish(X:Cx)(E:Value->Shared->Prop):Cx:={ X with xe:=E }
noncomputable abbrev Cx.nox(X:Cx):Cx:=X.wish fun _ _=>False
theorem Cx.Ok.wish(ok:X.Ok)(E:Value->Shared->Prop):(X.wish E).Ok :=
 ⟨ok.mod,ok.kind,ok.glob,ok.blt,ok.above,ok.inj,ok.has,ok.cab,ok.hd,ok.frames,ok.stk,ok.exf,ok.bs,ok.bsz,ok.noex,ok.exfs,ok.funs,ok.frf⟩
theorem Cx.Ok.unwish(ok:(X.wish E).Ok):X.Ok :=
 ⟨ok.mod,ok.kind,ok.glob,ok.blt,ok.above,ok.inj,ok.has,ok.cab,ok.hd,ok.frames,ok.stk,ok.exf,ok.bs,ok.bsz,ok.noex,ok.exfs,ok.funs,ok.frf⟩
section
theorem aj.wish(I:aj X pins σ H s)(E:Value->Shared->Prop):aj (X.wish E) pins σ H s:=⟨I.ok.wish E,I.os,I.bare,I.base,I.loc,I.cell,I.free,I.freeC,I.pin,I.hok,I.len⟩
theorem aj.unwish(I:aj (X.wish E) pins σ H s):aj X pins σ H s:=⟨I.ok.unwish,I.os,I.bare,I.base,I.loc,I.cell,I.free,I.freeC,I.pin,I.hok,I.len⟩
theorem SP.unwish{D:lZ}{f:Flow}(h:SP (X.wish E) pins D f s'):SP X pins D f s':=by
 cases f with
 | next=>obtain⟨σ',H',I,q⟩:=h;exact⟨σ',H',I.unwish,q⟩
 | brk=>obtain⟨σ',H',I,q⟩:=h;exact⟨σ',H',I.unwish,q⟩
 | cont=>obtain⟨σ',H',I,q⟩:=h;exact⟨σ',H',I.unwish,q⟩
 | ret u=>obtain⟨v,σ',H',I,r,q⟩:=h;exact⟨v,σ',H',I.unwish,r,q⟩
theorem PE.nox(h:PE X.nox e t):PE X e t:=fun pins s σ H Q I hw =>
 RQ (h pins s σ H Q (I.wish _) hw) (fun _ _ ⟨v,H',I',r,q⟩=>⟨v,H',I'.unwish,r,q⟩) fun _ _ z=>False.elim z
theorem PT.nox{t:TT}(h:PT X.nox e t):PT X e t:=fun pins s σ H Q I hw =>
 RQ (h pins s σ H Q (I.wish _) hw) (fun _ _ ⟨H',I',q⟩=>⟨H',I'.unwish,q⟩) fun _ _ z=>False.elim z
theorem dZ.nox{st:List Stmt}{t:TS}(h:dZ X.nox st t):dZ X st t:=fun pins s σ H D I hw =>
 RQ (h pins s σ H D (I.wish _) hw) (fun _ _ q=>q.unwish) fun _ _ z=>False.elim z
end
section
variable{st:Stmt}{dF:List Stmt}{t u:TS}
noncomputable def Cf:TS:=fun D σ H=>D.nx σ H
noncomputable def LC(t u:TS):TS:=fun D σ H=>t { D with nx:=u D } σ H
theorem pU:dZ X [] Cf:=fun _ _ σ H _ I h=>wpAny_execs_nil ⟨σ,H,I,h⟩
theorem fu(h1:PS X st t)(h2:dZ X dF u):dZ X (st::dF) (LC t u):=by
 intro pins s σ H D I h
 refine wpAny_execs_cons (aL (h1 pins s σ H { D with nx:=u D } I h) fun f s1 q=>?_)
 cases f with
 | next =>
  obtain⟨σ',H',I',q⟩:=q
  exact h2 pins s1 σ' H' D I' q
 | ret v=>exact q
 | brk=>exact q
 | cont=>exact q
noncomputable def Gh:TS:=fun D σ H=>D.bk σ H
noncomputable def Kc:TS:=fun D σ H=>D.ct σ H
theorem DZ:PS X (.Pass pos) Cf:=fun _ _ σ H _ I h=>wpAny_Pass ⟨σ,H,I,h⟩
theorem AY:PS X (.Break pos) Gh:=fun _ _ σ H _ I h=>wpAny_Break ⟨σ,H,I,h⟩
theorem uL:PS X (.Continue pos) Kc:=fun _ _ σ H _ I h=>wpAny_Continue ⟨σ,H,I,h⟩
theorem aj.quiet(I:aj X pins σ H s):interactive X.env=false:=by simp[interactive,I.ok.kind]
noncomputable def Kb(te:TE):TS:=fun D σ H=>te σ H fun _ H1=>D.nx σ H1
theorem ja(he:PE X e te)(hs:swapsWith e none pos.line X.env=pure false:=by rfl):PS X (.Expr e pos) (Kb te):=by
 intro pins s σ H D I h
 exact wpAny_Expr_any (aL (he pins s σ H _ I h) fun v s1 ⟨x,H1,I1,r1,q1⟩=>⟨σ,H1,I1,q1⟩) I.quiet hs
noncomputable def LD(te:TE):TS:=fun D σ H=>te σ H D.rt
theorem sD(he:PE X e te):PS X (.Return (some e) pos) (LD te):=by
 intro pins s σ H D I h
 exact wpAny_Return_some (aL (he pins s σ H _ I h) fun v s1 ⟨x,H1,I1,r1,q1⟩=>⟨x,σ,H1,I1,r1,q1⟩)
noncomputable def J8:TS:=fun D _ H=>D.rt .non H
theorem DY:PS X (.Return none pos) J8:=fun _ _ σ H _ I h=>wpAny_Return_none ⟨.non,σ,H,I,rfl,h⟩
noncomputable def LI(c:TT)(t u:TS):TS:=fun D σ H=>c σ H fun b H1=>if b=true then t D σ H1 else u D σ H1
theorem wB{a b:List Stmt}(hc:PT X c tc)(ha:dZ X a t)(hb:dZ X b u):PS X (.If c a b pos) (LI tc t u):=by
 intro pins s σ H D I h
 refine wpAny_If (aL (hc pins s σ H _ I h) fun d s1 ⟨H1,I1,q1⟩=>?_)
 cases d with
 | true=>exact ha pins s1 σ H1 D I1 q1
 | false=>exact hb pins s1 σ H1 D I1 q1
noncomputable def Gg:TS:=fun _ _ _=>False
theorem iG{sts:List Stmt}:dZ X sts Gg:=fun _ _ _ _ _ _ h=>h.elim
end
noncomputable abbrev TG:=V->St->Hp->(St->Hp->Prop)->Prop
noncomputable abbrev pG:=List V->St->Hp->(St->Hp->Prop)->Prop
noncomputable def PG(X:Cx)(target:Expr)(t:TG):Prop :=
 ∀(pins:List (Addr×Obj)) (s:Shared) (σ:St) (H:Hp) (v:V) (u:Value) (Q:St->Hp->Prop),aj X pins σ H s->aO v u->t v σ H Q ->
  wpAny (model X.prog X.w) X.A (assign target X.env u) (fun _ s' => ∃σ' H',aj X pins σ' H' s'/\Q σ' H') X.xe s
noncomputable def we(X:Cx)(ts:List Expr)(t:pG):Prop :=
 ∀(pins:List (Addr×Obj)) (s:Shared) (σ:St) (H:Hp) (vs:List V) (us:List Value) (Q:St->Hp->Prop),aj X pins σ H s->aD vs us->t vs σ H Q ->
  wpAny (model X.prog X.w) X.A (assignInOrder ((assignEach ts X.env).map (·.2)) us) (fun _ s' => ∃σ' H',aj X pins σ' H' s'/\Q σ' H') X.xe s
noncomputable abbrev xl:=V->V->V->Hp->(Hp->Prop)->Prop
noncomputable def xu(X:Cx)(t:xl):Prop :=
 ∀(pins:List (Addr×Obj)) (s:Shared) (σ:St) (H:Hp) (o i v:V) (ov iv u:Value) (Q:Hp->Prop),aj X pins σ H s->aO o ov->aO i iv->aO v u->t o i v H Q ->
  wpAny (model X.prog X.w) X.A (setItem ov iv u) (fun _ s' => ∃H',aj X pins σ H' s'/\Q H') X.xe s
noncomputable abbrev Lu:=V->V->Hp->VK->Prop
noncomputable def PIp(X:Cx)(op:Operator)(t:Lu):Prop :=
 ∀(pins:List (Addr×Obj)) (s:Shared) (σ:St) (H:Hp) (x y:V) (v u:Value) (Q:VK),aj X pins σ H s->aO x v->aO y u->t x y H Q ->
  wpAny (model X.prog X.w) X.A (inplaceOp op v u) (EP X pins σ Q) X.xe s
section
noncomputable def CW(i:Nat):TG:=fun v σ H Q=>Q (σ.set i (some v)) H
theorem gY(hN:X.N.Nodup)(hi:X.N[i]?=some x)(hx:wg X.env.scope x)(hf:X.fn x=true\/X.env.scope.names.lookup x=some .local:=by first|exact .inl rfl|exact .inr rfl|assumption):PG X (.Name x pos) (CW i):=by
 intro pins s σ H v u Q I r h
 exact wpAny_assign_Name (jE I hN hi hx r (fun s' I'=>⟨_,H,I',h⟩) hf)
noncomputable def Ov:pG:=fun vs σ H Q=>vs=[]/\Q σ H
noncomputable def KQ(t:TG)(u:pG):pG:=fun vs σ H Q => ∃v r,vs=v::r/\t v σ H fun σ' H'=>u r σ' H' Q
theorem vw:we X [] Ov:=by
 intro pins s σ H vs us Q I r h
 obtain⟨e,h⟩:=h
 subst e
 cases r
 exact assignInOrder_nil ⟨σ,H,I,h⟩
theorem n5{t:TG}{u:pG}(h1:PG X e t)(h2:we X es u)
  (hs:(assignEach (e::es) X.env).map (·.2)=assign e X.env::(assignEach es X.env).map (·.2):=by rfl):we X (e::es) (KQ t u):=by
 intro pins s σ H vs us Q I r h
 obtain⟨v,vr,e1,h⟩:=h
 subst e1
 cases r with
 | cons r rr =>
  rw[hs]
  refine assignInOrder_cons (aL (h1 pins s σ H _ _ _ I r h) fun _ s1 ⟨σ1,H1,I1,q1⟩=>?_)
  exact h2 pins s1 σ1 H1 _ _ Q I1 rr q1
noncomputable def Ot(K:W.Frag)(n:Nat)(t:pG):TG:=fun v σ H Q => ∃a xs,v=.ref a/\aZ K H a xs/\xs.length=n/\t xs σ H Q
theorem sF{t:pG}(hc:X.calm=true)(h:we X es t)
  (hn:(assignEach es X.env).length=n:=by rfl) (hst:(assignEach es X.env).findIdx? (·.1)=none:=by rfl):PG X (.Tuple es k pos) (Ot X.K n t):=by
 intro pins s σ H v u Q I r hw
 obtain⟨a,xs,e1,hq,hl,hw⟩:=hw
 subst e1
 cases r
 obtain⟨its,rv,ht,hz⟩:=I.tuple hq
 refine assign_Tuple_tuple (I.ok.hd hc) ht (by simp[hn,<- hl,rv.length]) hst fun h' hx=>?_
 have I1:aj X pins σ H { s with heap:=h' }:=I.kept (t':=s.toks) fun b o e=>hx b o (QZ (QE e)) e
 exact h pins _ σ H xs _ Q I1 (by simpa using rv) hw
noncomputable def Ou(to ti:TE)(t:xl):TG:=fun v σ H Q=>to σ H fun o H1=>ti σ H1 fun i H2=>t o i v H2 fun H3=>Q σ H3
theorem sG{o i:Expr}{to ti:TE}{t:xl}(ho:PE X o to)(hi:PE X i ti)(hs:xu X t)
  (ha:∀v,assign (.Subscript o i pos) X.env v=(do
   let ov <- holding [v] (eval o X.env)
   let iv <- holding [v,ov] (eval i X.env)
   standAt pos
   holding [v,ov,iv] (setItem ov iv v)
   release [v,ov,iv] []):=by intro _;rfl):PG X (.Subscript o i pos) (Ou to ti t):=by
 intro pins s σ H v u Q I r h
 rw[ha]
 refine Qx (Sa (aL (ho pins s σ H _ I h) fun ov s1 ⟨x,H1,I1,r1,q1⟩=>?_))
 refine Qx (Sa (aL (hi pins s1 σ H1 _ I1 q1) fun iv s2 ⟨y,H2,I2,r2,q2⟩=>?_))
 refine Qx (wpAny_standAt (Qx (Sa (aL (hs pins s2 σ H2 x y v ov iv u _ I2 r1 r2 r q2) fun _ s3 ⟨H3,I3,q3⟩=>?_))))
 exact wpAny_release ⟨σ,H3,I3,q3⟩
noncomputable def Gi(te:TE)(g:TG):TS:=fun D σ H=>te σ H fun x H1=>g x σ H1 D.nx
theorem jb{g:TG}(he:PE X e te)(hg:PG X tg g)(hs:swapsWithSole [tg] e pos.line X.env=pure false:=by rfl)(hw:swappedStores [tg] e X.env=pure none:=by rfl)
  (h1:(assignEach [tg] X.env).map (·.2)=[assign tg X.env]:=by rfl):PS X (.Assign [tg] e pos) (Gi te g):=by
 intro pins s σ H D I h
 refine wpAny_Assign_stores (aL (he pins s σ H _ I h) fun v s1 ⟨x,H1,I1,r1,q1⟩=>?_) hs hw
 rw[h1]
 exact aL (hg pins s1 σ H1 x v _ I1 r1 q1) fun _ s2 q=>q
theorem ya{pos':Pos}(hN:X.N.Nodup)(hi:X.N[i]?=some x)(hx:wg X.env.scope x)(he:PE X e te)(hs:swapsWith e (some (.Name x pos')) pos.line X.env=pure false:=by rfl)(hf:X.fn x=true\/X.env.scope.names.lookup x=some .local:=by first|exact .inl rfl|exact .inr rfl|assumption) :
  PS X (.Assign [.Name x pos'] e pos) (Gi te (CW i)):=by
 intro pins s σ H D I h
 refine wpAny_Assign_Name (aL (he pins s σ H _ I h) fun v s1 ⟨y,H1,I1,r1,q1⟩=>?_) hs
 exact jE I1 hN hi hx r1 (fun s2 I2=>⟨_,H1,I2,q1⟩) hf
noncomputable def LE(i j:Nat)(ta:TA):TS:=fun D σ H=>ta σ H fun vs H1 => ∃v w,vs=[v,w]/\D.nx ((σ.set i (some v)).set j (some w)) H1
theorem GH{y:Str}{a b:Expr}{px py pt:Pos}{kt k2 pt2}(hc:X.calm=true)(hN:X.N.Nodup)(hi:X.N[i]?=some x)(hj:X.N[j]?=some y)(hij:i≠j)
  (hx:X.env.scope.names.lookup x=some .local) (hy:X.env.scope.names.lookup y=some .local) (ha:PA X [a,b] ta)
  (hw:swappedStores [.Tuple [.Name x px,.Name y py] kt pt] (.Tuple [a,b] k2 pt2) X.env=pure (some [x,y]))
  (hs:swapsWithSole [.Tuple [.Name x px,.Name y py] kt pt] (.Tuple [a,b] k2 pt2) pos.line X.env=pure false:=by rfl) :
  PS X (.Assign [.Tuple [.Name x px,.Name y py] kt pt] (.Tuple [a,b] k2 pt2) pos) (LE i j ta):=by
 intro pins s σ H D I h
 rw[exec_Assign_arm]
 refine Qx (wpAny_standAt ?_)
 rw[hs]
 refine Qx (QL ?_)
 rw[if_neg (by decide)]
 refine Qx (Tuple_ (aL (ha _ pins s σ H _ I h) fun us s1 ⟨vs,H1,I1,r1,q1⟩=>?_))
 obtain⟨v,w,e1,q1⟩:=q1
 subst e1
 obtain⟨u1,u2,rfl,rv,rw'⟩:∃u1 u2,us=[u1,u2]/\aO v u1/\aO w u2:=by
  cases r1 with
  | cons p q =>
   cases q with
   | cons p' q' =>
    cases q'
    exact⟨_,_,rfl,p,p'⟩
 refine wpAny_newObj_type ?_ (by show 2<=sizeLine;decide)
 have I2:aj X pins σ H1 { s1 with heap:=s1.heap.push { cls:=.type "tuple", data:=.seq [u1,u2].toArray } }:=I1.kept (t':=s1.toks) fun b o e=>Qw _ e
 rw[hw]
 refine Qx (QL ?_)
 show wpAny (model X.prog X.w) X.A (do rule "assign.swapped-stores"; let items <- unpackItems (.ref s1.heap.objs.size) 2 none;assignInOrder [fun v=>bindName X.env y v,fun v=>bindName X.env x v] items.reverse;pure Flow.next) _ _ _
 refine Qx (Sm (Qx (unpackItems_tuple (items:=#[u1,u2]) (I.ok.hd hc) (IsTup.new s1.heap _) fun h' hx'=>?_)))
 have I3:=I2.kept (h':=h') (t':=s1.toks) fun b o e=>hx' b o (QZ (QE e)) e
 show wpAny _ _ (assignInOrder [fun v=>bindName X.env y v,fun v=>bindName X.env x v] [u2,u1] >>= fun _=>pure Flow.next) _ _ _
 refine Qx (assignInOrder_cons (wpAny_bindName (jE I3 hN hj (.inl hy) rw' (fun s2 I4=>?_) (.inr hy))))
 refine assignInOrder_cons (wpAny_bindName (jE I4 hN hi (.inl hx) rv (fun s3 I5=>assignInOrder_nil (QL ?_)) (.inr hx)))
 rw[List.set_comm _ _ (RT hij)]at I5
 exact⟨_,H1,I5,q1⟩
noncomputable def tAug(i:Nat)(te:TE)(ti:Lu):TS:=fun D σ H => ∃x,σ[i]?=some (some x)/\te σ H fun y H1=>ti x y H1 fun z H2=>D.nx (σ.set i (some z)) H2
end
section
noncomputable def Ge(c:TT)(tb:TS):TS:=fun D σ H => ∃W:Nat->St->Hp->Prop,(∃m,W m σ H)/\∀m σ H,W m σ H ->
 c σ H fun b H1=>if b=true then ∃N:St->Hp->Prop,(∀σ' H',N σ' H'->∃m',m' < m/\W m' σ' H')/\tb { D with nx:=N,ct:=N,bk:=D.nx } σ H1 else D.nx σ H1
theorem AX(hp:PassesOwn (model X.prog X.w) X.A X.env X.xe)(hc:PT X c tc)(hb:dZ X body tb):PS X (.While c body [] pos) (Ge tc tb):=by
 intro pins s σ H D I h
 obtain⟨W,⟨m0,w0⟩,turn⟩:=h
 refine wpAny_While (codeAny_whileLoop (fun n s' => ∃σ' H',aj X pins σ' H' s'/\W n σ' H') ?_ m0 ⟨σ,H,I,w0⟩)
 rintro n s1 ⟨σ1,H1,I1,w1⟩
 refine Sf hp (aL (hc pins s1 σ1 H1 _ I1 (turn n σ1 H1 w1)) fun b s2 ⟨H2,I2,q2⟩=>?_)
 cases b with
 | true =>
  obtain⟨N,hN,q2⟩:=q2
  rw[if_pos rfl]
  refine Sf hp (aL (hb pins s2 σ1 H2 _ I2 q2) fun f s3 q3=>?_)
  cases f with
  | next =>
   obtain⟨σ3,H3,I3,n3⟩:=q3
   obtain⟨m',hm,w3⟩:=hN σ3 H3 n3
   exact⟨m',hm,σ3,H3,I3,w3⟩
  | cont =>
   obtain⟨σ3,H3,I3,n3⟩:=q3
   obtain⟨m',hm,w3⟩:=hN σ3 H3 n3
   exact⟨m',hm,σ3,H3,I3,w3⟩
  | brk=>exact q3
  | ret v=>exact q3
 | false =>
  rw[if_neg QT]
  exact wpAny_execs_nil ⟨σ1,H2,I2,q2⟩
end
structure It where
 go:Nat->Hp->Prop
 yld:Nat->Hp->V->Hp->Prop
 stop:Nat->Hp->Prop
noncomputable def fQ(X:Cx)(pins:List (Addr×Obj))(H:Hp)(b:Addr):Prop :=
 H b=none/\b≠X.env.locals/\b∉X.fs/\(b∈X.ex\/X.s₀.heap.objs.size<=b)/\(∀x c,X.env.cells.lookup x=some c->c≠b)/\∀p∈X.pn++pins,p.1≠b
theorem aj.fpOk{H':Hp}(I:aj X pins σ H s)(hb:s.heap.objs.size<=b)(hn:H' b=none):fQ X pins H' b:=by
 refine⟨hn,RN (QK I.lt hb),I.nofs hb,.inr (QR I.sz hb),fun x c e z=>?_,fun p hp z=>?_⟩
 ·obtain⟨v,q⟩:=I.cell x c e
  exact absurd (QK q.lt (by rw[z];exact hb)) (Rx _)
 ·exact absurd (QK (QE (I.pin p hp).1) (by rw[z];exact hb)) (Rx _)
structure Turn(P:Program)(w:World)(K:W.Frag)(tg:Expr)(J:It)(fp:List Addr)(it:Addr)(tn:Nat->Heap->Prop):Prop where
 mem:it∈fp
 obj:∀i h,tn i h->∀b∈fp,∃o,h.get? b=some o/\∀v,o.data ≠ .cell v
 keep:∀i h h',tn i h->(∀b∈fp,∀o,h.get? b=some o->h'.get? b=some o)->tn i h'
 item:∀(X:Cx),X.prog=P->X.w=w->X.K=K->X.calm=true->∀(i:Nat) (pins:List (Addr×Obj)) (s:Shared) (σ:St) (H:Hp) (E:Value->Shared->Prop),aj X pins σ H s->(∀b∈fp,fQ X pins H b)->tn i s.heap->J.go i H ->
  wpAny (model P w) X.A (pyNext (.ref it)) (fun r s1 => ∃u,r=some u /\
   wpAny (model P w) X.A (letOwnedTupleGo tg (.ref it) u) (fun _ s2 => ∃x H',aj X pins σ H' s2/\aO x u/\J.yld i H x H'/\tn (i+1) s2.heap/\∀b∈fp,H' b=none) E s1) E s
 done:∀(X:Cx),X.prog=P->X.w=w->X.K=K->X.calm=true->∀(i:Nat) (pins:List (Addr×Obj)) (s:Shared) (σ:St) (H:Hp) (E:Value->Shared->Prop),aj X pins σ H s->(∀b∈fp,fQ X pins H b)->tn i s.heap->J.stop i H ->
  wpAny (model P w) X.A (pyNext (.ref it)) (fun r s1=>r=none/\aj X pins σ H s1) E s
 self:∀(A:Around) (i:Nat) (s:Shared) (Q:Value->Shared->Prop) (E:Value->Shared->Prop),tn i s.heap->Q (.ref it) s->wpAny (model P w) A (pyIter (.ref it)) Q E s
noncomputable abbrev TI:=St->Hp->(It->Hp->Prop)->Prop
noncomputable def JG(X:Cx)(pins:List (Addr×Obj))(σ:St)(tg:Expr)(R:It->Hp->Prop)(itv:Value)(s2:Shared):Prop :=
 ∃(it:Addr) (fp:List Addr) (tn:Nat->Heap->Prop) (J:It) (H':Hp),itv=.ref it/\aj X pins σ H' s2/\Turn X.prog X.w X.K tg J fp it tn/\tn 0 s2.heap/\(∀b∈fp,fQ X pins H' b)/\R J H'
noncomputable def PI(X:Cx)(tg iter:Expr)(wi:TI):Prop :=
 ∀(pins:List (Addr×Obj)) (s:Shared) (σ:St) (H:Hp) (R:It->Hp->Prop),aj X pins σ H s->wi σ H R ->
  wpAny (model X.prog X.w) X.A (eval iter X.env) (fun v s1=>wpAny (model X.prog X.w) X.A (pyIter v) (JG X pins σ tg R) X.xe s1) X.xe s
theorem jO{n:String}{vs:Array Value}{Q:Unit->Shared->Prop}(ho:s.heap.get? it=some o)(hc:o.cls=.type n)(hd:o.data=.fields vs)
    (hn:["enumerate", "zip", "dict_itemiterator", "dict_reverseitemiterator", "odict_iterator", "itertools.zip_longest", "itertools.pairwise"].contains n=false) (hQ:Q () s):wpAny M A (letOwnedTupleGo tg (.ref it) u) Q E s:=by
  unfold letOwnedTupleGo
  cases tg<;>first
    | exact QL hQ
    | (cases u<;>first
        | exact QL hQ
        | (refine Qx (wpAny_load ho ?_)
           rw[hc,hd]
           show wpAny M A (if (["enumerate", "zip", "dict_itemiterator", "dict_reverseitemiterator", "odict_iterator", "itertools.zip_longest", "itertools.pairwise"].contains n&&vs[0]? == some (rawInt _))=true then _ else _) Q E s
           rw[if_neg (by intro h;rw[hn,Bool.false_and]at h;cases h)]
           exact QL hQ))
noncomputable def Lw(K:W.Frag)(a:Addr):It :=
 ⟨fun i H => ∃xs x,ci K H a xs/\xs[i]?=some x,fun i H x H'=>H'=H/\∀xs,ci K H a xs->xs[i]?=some x,fun i H => ∃xs,ci K H a xs/\xs.length<=i⟩
noncomputable def Lv(K:W.Frag)(a:Addr):It :=
 ⟨fun i H => ∃xs x,aZ K H a xs/\xs[i]?=some x,fun i H x H'=>H'=H/\∀xs,aZ K H a xs->xs[i]?=some x,fun i H => ∃xs,aZ K H a xs/\xs.length<=i⟩
noncomputable def Dj(lo:Int)(n:Nat):It:=⟨fun i _=>i<n,fun i H x H'=>H'=H/\x=.int (lo+i),fun i _=>n<=i⟩
theorem xG(a it:Addr):Turn P w K tg (Lw K a) [it] it (fun i h=>h.IsListIter it a i) where
 mem:=by simp
 obj:=fun i h st b hb=>by
  have e:b=it:=by simpa using hb
  subst e
  obtain⟨o,e,c,d⟩:=st
  exact⟨o,e,fun v z=>by rw[d]at z;cases z⟩
 keep:=fun i h h' st k=>st.at fun o e=>k it (by simp) o e
 item:=by
  intro X hP hw hK hc i pins s σ H E I hf st hg
  subst hP hw hK
  obtain⟨xs,x,hq,hx⟩:=hg
  obtain⟨its,rv,p,hz⟩:=I.list hq
  obtain⟨u,hu,ru⟩:=rv.get hx
  obtain⟨f0,f1,f2,f3,f4,f5⟩:=hf it (by simp)
  refine wpAny_pyNext_list_item st p.isList (x:=u) (by simpa using hu) fun h' st' sb=>?_
  have I1:aj X pins σ H { s with heap:=h' }:=I.turned (t':=s.toks) (fun b o hb e=>(sb.2 b hb).trans e) f0 f1 f3 f4 f5
  obtain⟨o,e,c,d⟩:=id st'
  exact⟨u,rfl,jO (s:={ s with heap:=h' }) e c d (by decide) ⟨x,H,I1,ru,⟨rfl,fun ys hy=>by rw[I.list_inj hy hq];exact hx⟩,st',fun b hb=>(hf b hb).1⟩⟩
 done:=by
  intro X hP hw hK hc i pins s σ H E I hf st hg
  subst hP hw hK
  obtain⟨xs,hq,hx⟩:=hg
  obtain⟨its,rv,p,hz⟩:=I.list hq
  obtain⟨f0,f1,f2,f3,f4,f5⟩:=hf it (by simp)
  have hl:=rv.length
  exact wpAny_pyNext_list_end (I.ok.hd hc) st p.isList (by simp;omega) fun h' eb=>⟨rfl,I.turned (t':=s.toks) (fun b o hb e=>eb b o hb e) f0 f1 f3 f4 f5⟩
 self:=fun _ _ _ _ _ st h=>wpAny_pyIter_listiter st h
theorem wm(a it:Addr):Turn P w K tg (Lv K a) [it] it (fun i h=>h.IsTupleIter it a i) where
 mem:=by simp
 obj:=fun i h st b hb=>by
  have e:b=it:=by simpa using hb
  subst e
  obtain⟨o,e,c,d⟩:=st
  exact⟨o,e,fun v z=>by rw[d]at z;cases z⟩
 keep:=fun i h h' st k=>st.at fun o e=>k it (by simp) o e
 item:=by
  intro X hP hw hK hc i pins s σ H E I hf st hg
  subst hP hw hK
  obtain⟨xs,x,hq,hx⟩:=hg
  obtain⟨its,rv,p,hz⟩:=I.tuple hq
  obtain⟨u,hu,ru⟩:=rv.get hx
  obtain⟨f0,f1,f2,f3,f4,f5⟩:=hf it (by simp)
  refine wpAny_pyNext_tuple_item st (show s.heap.IsTuple a its.toArray from p) (x:=u) (by simpa using hu) fun h' st' sb=>?_
  have I1:aj X pins σ H { s with heap:=h' }:=I.turned (t':=s.toks) (fun b o hb e=>(sb.2 b hb).trans e) f0 f1 f3 f4 f5
  obtain⟨o,e,c,d⟩:=id st'
  exact⟨u,rfl,jO (s:={ s with heap:=h' }) e c d (by decide) ⟨x,H,I1,ru,⟨rfl,fun ys hy=>by rw[I.tuple_inj hy hq];exact hx⟩,st',fun b hb=>(hf b hb).1⟩⟩
 done:=by
  intro X hP hw hK hc i pins s σ H E I hf st hg
  subst hP hw hK
  obtain⟨xs,hq,hx⟩:=hg
  obtain⟨its,rv,p,hz⟩:=I.tuple hq
  obtain⟨f0,f1,f2,f3,f4,f5⟩:=hf it (by simp)
  have hl:=rv.length
  exact wpAny_pyNext_tuple_end (I.ok.hd hc) st (show s.heap.IsTuple a its.toArray from p) (by simp;omega) fun h' eb=>⟨rfl,I.turned (t':=s.toks) (fun b o hb e=>eb b o hb e) f0 f1 f3 f4 f5⟩
 self:=fun _ _ _ _ _ st h=>wpAny_pyIter_tupleiter st h
theorem wn(it:Addr)(lo:Int)(n:Nat):Turn P w K tg (Dj lo n) [it] it (fun i h=>IsRangeIter h it (lo+(i:Nat)*1) ((n:Int)-(i:Nat)) 1) where
 mem:=by simp
 obj:=fun i h st b hb=>by
  have e:b=it:=by simpa using hb
  subst e
  exact⟨_,st,fun v z=>by
   have z':Data.fields _=Data.cell v:=z
   cases z'⟩
 keep:=fun i h h' st k=>k it (by simp) _ st
 item:=by
  intro X hP hw hK hc i pins s σ H E I hf st hg
  subst hP hw hK
  obtain⟨f0,f1,f2,f3,f4,f5⟩:=hf it (by simp)
  have W:=Walks.range (prog:=X.prog) (w:=X.w) (I.ok.hd hc) it lo 1 n
  refine W.item i s _ _ hg st fun v h' tk hv st' kk=>?_
  obtain⟨t,rfl⟩:=hv
  have I1:aj X pins σ H { s with heap:=h',toks:=tk }:=I.turned (fun b o hb e=>kk b o (by simpa using hb) e) f0 f1 f3 f4 f5
  refine⟨_,rfl,jO (s:={ s with heap:=h',toks:=tk }) (n := "range_iterator") st' rfl rfl (by decide) ⟨.int (lo+i),H,I1,⟨t,?_⟩,⟨rfl,rfl⟩,st',fun b hb=>(hf b hb).1⟩⟩
  rw[Int.mul_one]
 done:=by
  intro X hP hw hK hc i pins s σ H E I hf st hg
  subst hP hw hK
  obtain⟨f0,f1,f2,f3,f4,f5⟩:=hf it (by simp)
  exact wpAny_pyNext_range_end (I.ok.hd hc) st (by have:n<=i:=hg;omega) fun h' eb=>⟨rfl,I.turned (t':=s.toks) (fun b o hb e=>eb b o hb e) f0 f1 f3 f4 f5⟩
 self:=fun _ _ _ _ _ st h=>wpAny_pyIter_rangeiter st h
section
noncomputable def KL(K:W.Frag)(tl:TE):TI:=fun σ H R=>tl σ H fun x H1 => ∃a,x=.ref a/\(∃xs,ci K H1 a xs)/\R (Lw K a) H1
noncomputable def Os(K:W.Frag)(tl:TE):TI:=fun σ H R=>tl σ H fun x H1 => ∃a,x=.ref a/\(∃xs,aZ K H1 a xs)/\R (Lv K a) H1
theorem D6(hl:PE X l tl):PI X tg l (KL X.K tl):=by
 intro pins s σ H R I h
 refine aL (hl pins s σ H _ I h) fun v s1 ⟨x,H1,I1,r1,q1⟩=>?_
 obtain⟨a,e,⟨xs,hq⟩,q⟩:=q1
 subst e
 cases r1
 obtain⟨its,rv,p,hz⟩:=I1.list hq
 refine Sl p.isList ?_
 refine⟨s1.heap.objs.size,[s1.heap.objs.size],_,_,H1,rfl,I1.kept (t':=s1.toks) fun b o e=>Qw _ e,xG a _,⟨_,QJ _ rfl,rfl,rfl⟩,fun b hb=>?_,q⟩
 have e:b=s1.heap.objs.size:=by simpa using hb
 subst e
 exact I1.fpOk (QA _) (I1.hok.fresh (QA _))
theorem GL(hl:PE X l tl):PI X tg l (Os X.K tl):=by
 intro pins s σ H R I h
 refine aL (hl pins s σ H _ I h) fun v s1 ⟨x,H1,I1,r1,q1⟩=>?_
 obtain⟨a,e,⟨xs,hq⟩,q⟩:=q1
 subst e
 cases r1
 obtain⟨its,rv,p,hz⟩:=I1.tuple hq
 refine RW (show s1.heap.IsTuple a its.toArray from p) ?_
 refine⟨s1.heap.objs.size,[s1.heap.objs.size],_,_,H1,rfl,I1.kept (t':=s1.toks) fun b o e=>Qw _ e,wm a _,⟨_,QJ _ rfl,rfl,rfl⟩,fun b hb=>?_,q⟩
 have e:b=s1.heap.objs.size:=by simpa using hb
 subst e
 exact I1.fpOk (QA _) (I1.hok.fresh (QA _))
theorem sx{R:It->Hp->Prop}{lo hi:Int}{t u v:Tok}{tk:Nat}(I:aj X pins σ H s)(h1:-(2 ^ 62)<=lo)(h2:lo<2 ^ 62)(h3:-(2 ^ 62)<=hi)(h4:hi<2 ^ 62)
  (q:R (Dj lo (hi-lo).toNat) H):wpAny (model X.prog X.w) X.A (pyIter (.ref s.heap.objs.size)) (JG X pins σ tg R) E { s with heap:=s.heap.push { cls:=.type "range", data:=.fields #[.int lo t,.int hi u,.int 1 v] },toks:=tk }:=by
 refine wpAny_pyIter_range (IsRange.new ..) (small_one h1 h2 h3 h4) ?_
 have I1:aj X pins σ H { s with heap:=s.heap.push { cls:=.type "range", data:=.fields #[.int lo t,.int hi u,.int 1 v] },toks:=tk }:=I.kept fun b o e=>Qw _ e
 refine⟨(s.heap.push { cls:=.type "range", data:=.fields #[.int lo t,.int hi u,.int 1 v] }).objs.size,[(s.heap.push { cls:=.type "range", data:=.fields #[.int lo t,.int hi u,.int 1 v] }).objs.size],_,_,H,rfl,
  I1.kept (t':=tk) fun b o e=>Qw _ e,wn _ lo (hi-lo).toNat,?_,fun b hb=>?_,q⟩
 ·have e1:lo+((0:Nat):Int)*1=lo:=by simp
  have e2:(((hi-lo).toNat:Nat):Int)-((0:Nat):Int)=Builtin.Range.rangeSize lo hi 1:=by rw[rangeSize_one];split<;>omega
  show IsRangeIter _ _ (lo+((0:Nat):Int)*1) ((((hi-lo).toNat:Nat):Int)-((0:Nat):Int)) 1
  rw[e1,e2]
  exact QJ _ rfl
 ·have e:b=(s.heap.push { cls:=.type "range", data:=.fields #[.int lo t,.int hi u,.int 1 v] }).objs.size:=by simpa using hb
  subst e
  exact I1.fpOk (QA _) (I1.hok.fresh (QA _))
noncomputable def KK(ta:TA):TI:=fun σ H R=>ta σ H fun vs H1 => ∃j:Int,vs=[.int j] /\ -(2 ^ 62)<=j/\j<2 ^ 62/\R (Dj 0 j.toNat) H1
noncomputable def KJ(ta:TA):TI:=fun σ H R=>ta σ H fun vs H1 => ∃i j:Int,vs=[.int i,.int j]/\(-(2 ^ 62)<=i/\i<2 ^ 62 /\ -(2 ^ 62)<=j/\j<2 ^ 62)/\R (Dj i (j-i).toNat) H1
theorem yf{a:Expr}(hg:Gl X "range")(hm:X.mg "range" = none)(ha:PA X [a] ta)(hs:starEach [a] X.env=[(false,eval a X.env)]:=by rfl):PI X tg (.Call (.Name "range" p) [a] [] pos) (KK ta):=by
 intro pins s σ H R I h
 refine Call_ (fG I hg hm boot_range (Rv (aL (ha pos pins s σ H _ I h) fun us s1 ⟨vs,H1,I1,r1,q1⟩=>?_) hs rfl))
 obtain⟨j,e,q1,q2,q⟩:=q1
 subst e
 cases r1 with
 | cons r rr =>
  cases rr
  obtain⟨t,rfl⟩:=r
  exact call_range_1 (sx I1 (by omega) (by omega) q1 q2 (by simpa using q))
theorem ye{a b:Expr}(hg:Gl X "range")(hm:X.mg "range" = none)(ha:PA X [a,b] ta)(hs:starEach [a,b] X.env=[(false,eval a X.env),(false,eval b X.env)]:=by rfl)(hs2:starEach [b] X.env=[(false,eval b X.env)]:=by rfl) :
  PI X tg (.Call (.Name "range" p) [a,b] [] pos) (KJ ta):=by
 intro pins s σ H R I h
 refine Call_ (fG I hg hm boot_range (Rv (aL (ha pos pins s σ H _ I h) fun us s1 ⟨vs,H1,I1,r1,q1⟩=>?_) (by rw[hs,hs2]) (by rw[hs2];rfl)))
 obtain⟨i,j,e,⟨q1,q2,q3,q4⟩,q⟩:=q1
 subst e
 cases r1 with
 | cons r rr =>
  cases rr with
  | cons r' rr =>
   cases rr
   obtain⟨t,rfl⟩:=r
   obtain⟨t',rfl⟩:=r'
   exact call_range_2 (sx I1 q1 q2 q3 q4 q)
noncomputable def LJ(wi:TI)(g:TG)(tb:TS):TS:=fun D σ H=>wi σ H fun J H1 => ∃W:Nat->Nat->St->Hp->Prop,(∃m,W 0 m σ H1)/\∀i m σ H,W i m σ H ->
 (J.stop i H/\D.nx σ H)\/(J.go i H/\∃N:St->Hp->Prop,(∀σ' H',N σ' H'->∃m',m' < m/\W (i+1) m' σ' H')/\∀x H',J.yld i H x H'->g x σ H' fun σ2 H2=>tb { D with nx:=N,ct:=N,bk:=D.nx } σ2 H2)
noncomputable def kN(fp:List Addr)(h:Heap):List (Addr×Obj):=fp.filterMap fun b=>(h.get? b).map fun o=>(b,o)
theorem gO(hb:b∈fp)(e:h.get? b=some o):(b,o)∈kN fp h:=List.mem_filterMap.mpr ⟨b,hb,by rw[e];rfl⟩
theorem ym{p:Addr×Obj}(hp:p∈kN fp h):p.1∈fp/\h.get? p.1=some p.2:=by
 obtain⟨b,hb,e⟩:=List.mem_filterMap.mp hp
 cases q:h.get? b with
 | none=>rw[q]at e;cases e
 | some o =>
  rw[q]at e
  have e':(b,o)=p:=Ry e
  subst e'
  exact⟨hb,q⟩
theorem aj.pinned(I:aj X pins σ H s)(hf:∀b∈fp,fQ X pins H b)(ho:∀b∈fp,∃o,s.heap.get? b=some o/\∀v,o.data ≠ .cell v):aj X (pins++kN fp s.heap) σ H s :=
 I.pins_of fun p hp=>(QX.mp hp).elim (fun z=>I.pin p (QY _ z)) fun z=>by
  obtain⟨hb,e⟩:=ym z
  obtain⟨f0,f1,f2,_⟩:=hf p.1 hb
  obtain⟨o,e',d⟩:=ho p.1 hb
  rw[e]at e';cases e'
  exact⟨e,f0,f1,f2,d⟩
theorem aj.unpinned{pl:List (Addr×Obj)}(I:aj X (pins++pl) σ H s):aj X pins σ H s:=I.pins_of fun p hp=>I.pin p (QY _ (List.mem_append_left _ hp))
theorem sE{iter:Expr}{wi:TI}{g:TG}(hp:PassesOwn (model X.prog X.w) X.A X.env X.xe)(hc:X.calm=true)(hi:PI X tg iter wi)(hg:PG X tg g)(hb:dZ X body tb)
  (hs:∀x,foldedSetIterable iter X.env x=pure x:=by intro _;rfl):PS X (.For tg iter body [] pos) (LJ wi g tb):=by
 intro pins s σ H D I h
 refine wpAny_For (aL (hi pins s σ H _ I h) fun v s1 h1=>aL h1 fun itv s2 h2=>?_) hs
 obtain⟨it,fp,tn,J,H2,e,I2,T,st2,f2,W,⟨m0,w0⟩,turn⟩:=h2
 subst e
 have stat:∀{H':Hp},(∀b∈fp,H' b=none)->∀b∈fp,fQ X pins H' b:=fun hn b hb=>⟨hn b hb,(f2 b hb).2⟩
 refine codeAny_forLoop_any (fun n s' => ∃i σ' H',aj X pins σ' H' s'/\tn i s'.heap/\(∀b∈fp,H' b=none)/\W i n σ' H') ?_ m0 ⟨0,σ,H2,I2,st2,fun b hb=>(f2 b hb).1,w0⟩
 rintro n s3 ⟨i,σ3,H3,I3,st3,fr3,w3⟩
 rcases turn i n σ3 H3 w3 with⟨stop,qn⟩|⟨go,N,hN,step⟩
 ·refine Sf hp (aL (T.done X rfl rfl rfl hc i pins s3 σ3 H3 X.xe I3 (stat fr3) st3 stop) fun r s4 ⟨hr,I4⟩=>?_)
  subst hr
  exact wpAny_execs_nil ⟨σ3,H3,I4,qn⟩
 ·refine Sf hp (aL (T.item X rfl rfl rfl hc i pins s3 σ3 H3 X.xe I3 (stat fr3) st3 go) fun r s4 ⟨u,hr,h4⟩=>?_)
  subst hr
  refine Sf hp (aL h4 fun _ s5 ⟨x,H5,I5,r5,y5,st5,fr5⟩=>?_)
  have I5':=I5.pinned (stat fr5) (T.obj _ _ st5)
  refine Sf hp (aL (hg _ s5 σ3 H5 x u _ I5' r5 (step x H5 y5)) fun _ s6 ⟨σ6,H6,I6,q6⟩=>?_)
  refine Sf hp (aL (hb _ s6 σ6 H6 _ I6 q6) fun f s7 q7=>?_)
  have again:∀{σ7:St} {H7:Hp},aj X (pins++kN fp s5.heap) σ7 H7 s7->N σ7 H7->∃m,m<n/\∃i σ' H',aj X pins σ' H' s7/\tn i s7.heap/\(∀b∈fp,H' b=none)/\W i m σ' H':=fun {σ7 H7} I7 n7=>by
   obtain⟨m',hm,w7⟩:=hN σ7 H7 n7
   refine⟨m',hm,i+1,σ7,H7,I7.unpinned,T.keep _ _ _ st5 fun b hb o e=>(I7.pin (b,o) (QY _ (QY _ (gO hb e)))).1,fun b hb=>?_,w7⟩
   obtain⟨o,e,d⟩:=T.obj _ _ st5 b hb
   exact(I7.pin (b,o) (QY _ (QY _ (gO hb e)))).2.1
  cases f with
  | next=>obtain⟨σ7,H7,I7,n7⟩:=q7;exact again I7 n7
  | cont=>obtain⟨σ7,H7,I7,n7⟩:=q7;exact again I7 n7
  | brk=>obtain⟨σ7,H7,I7,q7⟩:=q7;exact⟨σ7,H7,I7.unpinned,q7⟩
  | ret v=>obtain⟨x7,σ7,H7,I7,r7,q7⟩:=q7;exact⟨x7,σ7,H7,I7.unpinned,r7,q7⟩
end
noncomputable abbrev R2:=V->V->Hp->VK->Prop
noncomputable def cY(X:Cx)(f:Value->Value->Sem Value)(r:R2):Prop :=
 ∀(pins:List (Addr×Obj)) (s:Shared) (σ:St) (H:Hp) (x y:V) (v u:Value) (Q:VK),aj X pins σ H s->aO x v->aO y u->r x y H Q ->
  wpAny (model X.prog X.w) X.A (f v u) (EP X pins σ Q) X.xe s
noncomputable def JA(X:Cx)(f:Value->Sem Value)(r:V->Hp->VK->Prop):Prop :=
 ∀(pins:List (Addr×Obj)) (s:Shared) (σ:St) (H:Hp) (x:V) (v:Value) (Q:VK),aj X pins σ H s->aO x v->r x H Q ->
  wpAny (model X.prog X.w) X.A (f v) (EP X pins σ Q) X.xe s
noncomputable def e6(X:Cx)(f:Value)(r:List V->Hp->VK->Prop):Prop :=
 ∀(pins:List (Addr×Obj)) (s:Shared) (σ:St) (H:Hp) (xs:List V) (us:List Value) (Q:VK),aj X pins σ H s->aD xs us->r xs H Q ->
  wpAny (model X.prog X.w) X.A (call f us) (EP X pins σ Q) X.xe s
noncomputable def Gf(r:R2)(ta tb:TE):TE:=fun σ H Q=>ta σ H fun x H1=>tb σ H1 fun y H2=>r x y H2 Q
noncomputable def P9(r:V->Hp->VK->Prop)(ta:TE):TE:=fun σ H Q=>ta σ H fun x H1=>r x H1 Q
noncomputable def rI(C:Int->Int->Prop)(g:Int->Int->V):R2:=fun x y H Q => ∃i j,x=.int i/\y=.int j/\C i j/\Q (g i j) H
noncomputable def nI(g:Int->Int->V):R2:=fun x y H Q => ∃i j,x=.int i/\y=.int j/\Q (g i j) H
noncomputable def rU(g:Int->V):V->Hp->VK->Prop:=fun x H Q => ∃i,x=.int i/\Q (g i) H
section
variable{a b:Expr}{ta tb tc:TE}
theorem Jo(ha:PE X a ta)(hb:PE X b tb)(I:aj X pins σ H s)
  (h:ta σ H fun x H1=>tb σ H1 fun y H2=>R x y H2) {Q:Value->Shared->Prop}
  (hf:∀v u s2 x y H2,aj X pins σ H2 s2->aO x v->aO y u->R x y H2->wpAny (model X.prog X.w) X.A (f v u) Q X.xe s2) :
  wpAny (model X.prog X.w) X.A (eval a X.env) (fun v s₁=>wpAny (model X.prog X.w) X.A (eval b X.env) (fun u s₂=>wpAny (model X.prog X.w) X.A (f v u) Q X.xe s₂) X.xe s₁) X.xe s:=by
 refine aL (ha pins s σ H _ I h) fun v s1 ⟨x,H1,I1,r1,q1⟩=>?_
 refine aL (hb pins s1 σ H1 _ I1 q1) fun u s2 ⟨y,H2,I2,r2,q2⟩=>?_
 exact hf v u s2 x y H2 I2 r1 r2 q2
theorem Kr{op:Operator}{r:R2}(ho:cY X (binaryOp op) r)(ha:PE X a ta)(hb:PE X b tb):PE X (.BinOp a op b pos) (Gf r ta tb):=by
 intro pins s σ H Q I h
 exact wpAny_BinOp (Jo ha hb I h fun v u s2 x y H2 I2 rx ry q=>ho pins s2 σ H2 x y v u Q I2 rx ry q)
theorem Kq{op:UnaryOp}{r:V->Hp->VK->Prop}(ho:JA X (unaryOp op) r)(ha:PE X a ta):PE X (.UnaryOp op a pos) (P9 r ta):=by
 intro pins s σ H Q I h
 exact UnaryOp_ (aL (ha pins s σ H _ I h) fun v s1 ⟨x,H1,I1,r1,q1⟩=>ho pins s1 σ H1 x v Q I1 r1 q1)
theorem Cy{C:Int->Int->Prop}
  (rule:∀(i j:Int) (t u:Tok) (s:Shared) (Q:Value->Shared->Prop) (E:Value->Shared->Prop),C i j->Q (.int (g i j) s.toks) { s with toks:=s.toks+1 }->wpAny (model X.prog X.w) X.A (f (.int i t) (.int j u)) Q E s) :
  cY X f (rI C fun i j=>.int (g i j)):=by
 intro pins s σ H x y v u Q I rx ry h
 obtain⟨i,j,rfl,rfl,hc,q⟩:=h
 obtain⟨t,rfl⟩:=rx
 obtain⟨t',rfl⟩:=ry
 exact rule i j t t' s _ _ hc ⟨.int (g i j),H,I.tok _,⟨_,rfl⟩,q⟩
theorem G7
  (rule:∀(i j:Int) (t u:Tok) (s:Shared) (Q:Value->Shared->Prop) (E:Value->Shared->Prop),Q (.int (g i j) s.toks) { s with toks:=s.toks+1 }->wpAny (model X.prog X.w) X.A (f (.int i t) (.int j u)) Q E s) :
  cY X f (nI fun i j=>.int (g i j)):=by
 intro pins s σ H x y v u Q I rx ry h
 obtain⟨i,j,rfl,rfl,q⟩:=h
 obtain⟨t,rfl⟩:=rx
 obtain⟨t',rfl⟩:=ry
 exact rule i j t t' s _ _ ⟨.int (g i j),H,I.tok _,⟨_,rfl⟩,q⟩
theorem wI{g:Int->Int->Bool}
  (rule:∀(i j:Int) (t u:Tok) (s:Shared) (Q:Value->Shared->Prop) (E:Value->Shared->Prop),Q (.bool (g i j)) s->wpAny (model X.prog X.w) X.A (f (.int i t) (.int j u)) Q E s) :
  cY X f (nI fun i j=>.bl (g i j)):=by
 intro pins s σ H x y v u Q I rx ry h
 obtain⟨i,j,rfl,rfl,q⟩:=h
 obtain⟨t,rfl⟩:=rx
 obtain⟨t',rfl⟩:=ry
 exact rule i j t t' s _ _ ⟨.bl (g i j),H,I,rfl,q⟩
noncomputable def P6(i j:Int):Prop:=0<=j/\j<=1000000/\i.natAbs<2 ^ 64
theorem G6:cY X (binaryOp .Add) (nI fun i j=>.int (i+j)):=G7 fun _ _ _ _ _ _ _ q=>add_int q
theorem G3:cY X (binaryOp .Sub) (nI fun i j=>.int (i-j)):=G7 fun _ _ _ _ _ _ _ q=>sub_int q
theorem Ei:cY X (binaryOp .Mod) (rI (fun _ j=>j≠0) fun i j=>.int (i.fmod j)):=Cy fun _ _ _ _ _ _ _ hc q=>mod_int' hc q
theorem G4:cY X (binaryOp .Pow) (rI P6 fun i j=>.int (i ^ j.toNat)):=Cy fun _ _ _ _ _ _ _ hc q=>pow_int_small hc.1 hc.2.1 hc.2.2 q
theorem P7{f:Value->Sem Value}{g:Int->Int}
  (rule:∀(i:Int) (t:Tok) (s:Shared) (Q:Value->Shared->Prop) (E:Value->Shared->Prop),Q (.int (g i) s.toks) { s with toks:=s.toks+1 }->wpAny (model X.prog X.w) X.A (f (.int i t)) Q E s) :
  JA X f (rU fun i=>.int (g i)):=by
 intro pins s σ H x v Q I rx h
 obtain⟨i,rfl,q⟩:=h
 obtain⟨t,rfl⟩:=rx
 exact rule i t s _ _ ⟨.int (g i),H,I.tok _,⟨_,rfl⟩,q⟩
theorem FR:JA X (unaryOp .USub) (rU fun i=>.int (-i)):=P7 fun _ _ _ _ _ q=>neg_int q
end
section
variable{a b:Expr}{ta tb tc:TE}
theorem ze{k k':Bool}(I:aj X pins σ H s)(q:Q (.bl k) H)(e:k=k'):EP X pins σ Q (.bool k') s:=by
 subst e
 exact⟨.bl k,H,I,rfl,q⟩
theorem Kt:cY X (compareOp .Lt) (nI fun i j=>.bl (decide (i<j))):=wI fun _ _ _ _ _ _ _ q=>lt_int q
theorem Ku:cY X (compareOp .LtE) (nI fun i j=>.bl (decide (i<=j))):=wI fun _ _ _ _ _ _ _ q=>le_int q
theorem Kv:cY X (compareOp .Gt) (nI fun i j=>.bl (decide (j<i))):=wI fun _ _ _ _ _ _ _ q=>gt_int q
theorem Kw:cY X (compareOp .GtE) (nI fun i j=>.bl (decide (j<=i))):=wI fun _ _ _ _ _ _ _ q=>ge_int q
theorem G5:cY X (compareOp .Is) (fun x y H Q=>y=.non/\Q (.bl (decide (x=.non))) H):=by
 intro pins s σ H x y v u Q I rx ry h
 obtain⟨rfl,q⟩:=h
 cases ry
 refine is_none_gen (ze I q ?_)
 cases x<;>first
  | (cases rx;rfl)
  | (obtain⟨t,rfl⟩:=rx;rfl)
theorem Eg:cY X (compareOp .IsNot) (fun x y H Q=>y=.non/\Q (.bl (!decide (x=.non))) H):=by
 intro pins s σ H x y v u Q I rx ry h
 obtain⟨rfl,q⟩:=h
 cases ry
 refine isnot_none_gen (ze I q ?_)
 cases x<;>first
  | (cases rx;rfl)
  | (obtain⟨t,rfl⟩:=rx;rfl)
noncomputable def Cd(t:TE):TT:=fun σ H Q=>t σ H fun x H' => ∃k,x=.bl k/\Q k H'
theorem DW{r:R2}(ho:cY X (compareOp op) r)(ha:PE X a ta)(hb:PE X b tb)(hm:behindInMarks op b=false):PT X (.Compare a [op] [b] pos) (Cd (Gf r ta tb)):=by
 intro pins s σ H Q I h
 refine wpAny_isTrue_Compare1 (aL (ha pins s σ H _ I h) fun v s1 ⟨x,H1,I1,r1,q1⟩=>aL (hb pins s1 σ H1 _ I1 q1) fun u s2 ⟨y,H2,I2,r2,q2⟩ =>
  aL (ho pins s2 σ H2 x y v u _ I2 r1 r2 q2) fun c s3 ⟨z,H3,I3,r3,k,e,q3⟩=>?_) hm
 subst e
 cases r3
 exact RI ⟨H3,I3,q3⟩
noncomputable def xM(r r':R2)(ta tb tc:TE):TE:=fun σ H Q=>ta σ H fun x H1=>tb σ H1 fun y H2=>r x y H2 fun z H3 => ∃k,z=.bl k /\
 (if k=true then tc σ H3 fun w' H4=>r' y w' H4 Q else Q (.bl false) H3)
theorem A0{r r':R2}(ho:cY X (compareOp op) r)(ho':cY X (compareOp op') r')(ha:PE X a ta)(hb:PE X b tb)(hc:PE X c tc)
  (hm:lastMarks [op,op'] [b,c]=false:=by with_unfolding_all rfl):PE X (.Compare a [op,op'] [b,c] pos) (xM r r' ta tb tc):=by
 intro pins s σ H Q I h
 refine Compare_chain (aL (ha pins s σ H _ I h) fun v s1 ⟨x,H1,I1,r1,q1⟩=>chain_link (aL (hb pins s1 σ H1 _ I1 q1) fun u s2 ⟨y,H2,I2,r2,q2⟩ =>
  aL (ho pins s2 σ H2 x y v u _ I2 r1 r2 q2) fun d s3 ⟨z,H3,I3,r3,k,e,q3⟩=>?_)) hm
 subst e
 cases r3
 refine RI ?_
 cases k with
 | false=>exact ite_ff ⟨.bl false,H3,I3,rfl,q3⟩
 | true=>exact ite_tt (chain_last (aL (hc pins s3 σ H3 _ I3 q3) fun w' s4 ⟨z',H4,I4,r4,q4⟩=>ho' pins s4 σ H4 y z' u w' Q I4 r2 r4 q4))
theorem AW{r r':R2}(ho:cY X (compareOp op) r)(ho':cY X (compareOp op') r')(ha:PE X a ta)(hb:PE X b tb)(hc:PE X c tc)
  (hm:lastMarks [op,op'] [b,c]=false:=by with_unfolding_all rfl):PT X (.Compare a [op,op'] [b,c] pos) (Cd (xM r r' ta tb tc)):=by
 intro pins s σ H Q I h
 refine isTrue_chain (aL (ha pins s σ H _ I h) fun v s1 ⟨x,H1,I1,r1,q1⟩=>test_link (aL (hb pins s1 σ H1 _ I1 q1) fun u s2 ⟨y,H2,I2,r2,q2⟩ =>
  aL (ho pins s2 σ H2 x y v u _ I2 r1 r2 q2) fun d s3 ⟨z,H3,I3,r3,k,e,q3⟩=>?_)) hm
 subst e
 cases r3
 refine RI ?_
 cases k with
 | false =>
  obtain⟨k',e',q'⟩:=q3
  cases e'
  exact ite_ff ⟨H3,I3,q'⟩
 | true =>
  refine ite_tt (test_last (aL (hc pins s3 σ H3 _ I3 q3) fun w' s4 ⟨z',H4,I4,r4,q4⟩=>aL (ho' pins s4 σ H4 y z' u w' _ I4 r2 r4 q4) fun d' s5 ⟨z2,H5,I5,r5,k2,e2,q5⟩=>?_))
  subst e2
  cases r5
  exact RI ⟨H5,I5,q5⟩
theorem oZ:(sizeLine:Nat)<2 ^ 63:=by rw[SR];decide
theorem wH:cY X (binaryOp .Add) (fun x y H Q => ∃i j,x=.str i/\y=.str j/\i.length+j.length<=sizeLine/\Q (.str (i++j)) H):=by
 intro pins s σ H x y v u Q I rx ry h
 obtain⟨i,j,rfl,rfl,hz,q⟩:=h
 obtain⟨t,rfl⟩:=rx
 obtain⟨t',rfl⟩:=ry
 exact add_str (fun t' tk=>⟨.str (i++j),H,I.tok _,⟨_,rfl⟩,q⟩) hz
theorem iC{x:V}(r:aD [x] us):∃u,us=[u]/\aO x u:=by
 cases r with
 | cons r1 r2=>cases r2;exact⟨_,rfl,r1⟩
theorem oD{x:V}(r:aD [x,y] us):∃u w',us=[u,w']/\aO x u/\aO y w':=by
 cases r with
 | cons r1 r2 =>
  cases r2 with
  | cons r3 r4=>cases r4;exact⟨_,_,rfl,r1,r3⟩
end
structure BV(h:Heap)(x dx C:Addr)(mA:Str->Option Value):Prop where
 obj:h.get? x=some (W.instObj C dx)
 ns:h.Ns1 dx mA
 ne:dx≠x
theorem yC(n:h.Ns1 dx mA):∃od,h.get? dx=some od/\∀name,W.lookIn name od=some (mA name):=by
 obtain⟨o,es,ep,ho,hd,hk,_,hm⟩:=n
 refine⟨o,ho,fun name=>?_⟩
 have e:=hm name
 unfold nsFind findBy at e
 rw[<- Array.find?_toList]at e
 unfold W.lookIn
 rw[hd]
 dsimp only
 split
 ·rename_i y q
  rw[q]at e
  exact RC some e
 ·rename_i q
  rw[q]at e
  have a:es.toList.any (·.refKey)=false:=by
   rw[List.any_eq_false]
   intro y hy
   obtain⟨z,t,hkey⟩:=hk y (Array.mem_toList_iff.mp hy)
   simp[DictEntry.refKey,hkey]
  have a':¬ es.toList.any (·.refKey)=true:=by rw[a];exact QT
  rw[if_neg a']
  exact RC some e
theorem BV.look{x:Addr}(I:BV h x dx C mA):∃od,W.InstAt h x (W.instObj C dx) C (some od)/\∀name,W.lookIn name od=some (mA name) :=
 let ⟨od,ho,hl⟩:=yC I.ns
 ⟨od,⟨I.obj,rfl,rfl,ho⟩,hl⟩
section
variable{prog:Program}{x f:Addr}{name:Str}{v:Value}
theorem Bf{R:Result->Shared->Prop}{vs:List Value}(X:K.In s.heap)(hm:W.makesIn K C=true)
  (hi:W.findIn K (.ref C) "__init__" = some (some (.ref f))) (hf:W.typeIn K (.ref f)=some (.type "function"))
  (h:codeAny (model prog w) (A.under (.builtin "type.__call__" ⟨.ref C::vs,kw⟩)) (.call (.ref f) ⟨.ref (s.heap.objs.size+1)::vs,kw⟩) (W.InitBack (s.heap.objs.size+1) R)
   { s with heap:=(s.heap.push W.emptyDict).push (W.instObj C s.heap.objs.size) }) :
  codeAny (model prog w) A (.call (.ref C) ⟨vs,kw⟩) R s:=by
 obtain⟨hh,g,d,t,os⟩:=s
 exact W.make_core (W.makes_of X hm) (W.looks_findIn X hi) (fun self=>W.bind_fn X self hf) (.inl rfl) h
end
theorem gL.some_of{o:Option Value}(r:gL (some v) o):∃u,o=some u/\aO v u:=by
 cases o with
 | none=>exact(show False from r).elim
 | some u=>exact⟨u,rfl,r⟩
section
variable{H':Hp}{h':Heap}{fs fs':List (Str×V)}
theorem ER(hok:dM P w H h)(e:H a=some (.ins C dx fs)):∃mA,BV h a dx C mA/\(∀f,gL (fs.lookup f) (mA f))/\PySem.Within mA (fs.map (·.1))/\fs.length<=1000/\H dx=some (.own a):=by
 obtain⟨d,z,ne,ob,mA,n,r,q⟩:=(show aV P w H h a (.ins C dx fs)from hok a _ e)
 exact⟨mA,⟨ob,n,ne⟩,r,q,z,d⟩
end
structure fS(K:W.Frag)(C:Addr):Prop where
 pg:W.plainGet K C Str.empty=true
 hd:W.hasDictIn K C=true
 po:W.plainOver K C=true
 sa:W.findIn K (.ref C) "__setattr__" = some (some (.builtin "object.__setattr__"))
theorem fS.get(c:fS K C)(f:Str):W.plainGet K C f=true:=c.pg
noncomputable def uG(K:W.Frag)(C:Addr)(f:Str):Prop:=W.findIn K (.ref C) f=some none
structure JN(K:W.Frag)(C:Addr)(m:Str)(f:Addr):Prop where
 at_:W.findIn K (.ref C) m=some (some (.ref f))
 fn:W.isFn K (.ref f)=true
 kp:W.keepIn K (.ref f)=true
section
variable{fs:List (Str×V)}{f:Str}
theorem aj.made(I:aj X pins σ H s):aj X pins σ (aF (aF H s.heap.objs.size (.own (s.heap.objs.size+1))) (s.heap.objs.size+1) (.ins C s.heap.objs.size []))
  { s with heap:=(s.heap.push W.emptyDict).push (W.instObj C s.heap.objs.size) }:=by
 have e1:(s.heap.push W.emptyDict).get? s.heap.objs.size=some W.emptyDict:=QJ s.heap rfl
 have e2:((s.heap.push W.emptyDict).push (W.instObj C s.heap.objs.size)).get? (s.heap.objs.size+1)=some (W.instObj C s.heap.objs.size):=by
  have:=QJ (s.heap.push W.emptyDict) (o:=W.instObj C s.heap.objs.size) rfl
  rwa [Rq]at this
 have e3:(s.heap.push W.emptyDict).Ns s.heap.objs.size (fun _=>none):=⟨W.emptyDict,#[],_,e1,rfl,(fun e he=>absurd he (by simp)),fun _=>rfl⟩
 have I1:=I.laid (a:=s.heap.objs.size) (o:=.own (s.heap.objs.size+1)) (h':=s.heap.push W.emptyDict) (t':=s.toks) (fun b u q=>Qw _ q) (QA _) ⟨_,e1⟩
 refine I1.laid (a:=s.heap.objs.size+1) (o:=.ins C s.heap.objs.size []) (t':=s.toks) (fun b u q=>Qw _ q) (Nat.le_of_eq (Rq _ _)) ?_
 have ne:s.heap.objs.size≠s.heap.objs.size+1:=QZ (Rk _)
 refine⟨by rw[aq ne,aC],QN _,ne,e2,fun _=>none,(Heap.Ns1.of_empty e3).at fun o q=>Qw _ q,fun _=>True.intro,fun y hy=>absurd rfl hy⟩
end
noncomputable def tFld(K:W.Frag)(ta:TE)(f:Str):TE:=fun σ H Q=>ta σ H fun x H1 => ∃a C dx fs v,x=.ref a/\H1 a=some (.ins C dx fs)/\fS K C/\uG K C f/\fs.lookup f=some v/\Q v H1
section
variable{o value:Expr}{f:Str}{pos' tpos:Pos}{ta tv:TE}
end
section
variable{Q:Value->Shared->Prop}{c:Value}{b:Bool}
inductive gJ(K:W.Frag)(H:Hp):V->Value->Prop where
  | non:gJ K H .non (.type "NoneType")
  | bl (x:Bool):gJ K H (.bl x) (.type "bool")
  | int (i:Int):gJ K H (.int i) (.type "int")
  | str (x:Str):gJ K H (.str x) (.type "str")
  | flt (x:UInt64):gJ K H (.flt x) (.type "float")
  | lst {a:Addr} {xs:List V} (e:H a=some (.lst xs)):gJ K H (.ref a) (.type "list")
  | frz {a:Addr} {o:Obj} {xs:List V} (e:H a=some (.frz o (.lst xs))):gJ K H (.ref a) (.type "list")
  | tup {a:Addr} {xs:List V} (e:H a=some (.tup xs)):gJ K H (.ref a) (.type "tuple")
  | dK {a:Addr} {kvs:List (aP×V)} (e:H a=some (.dK kvs)):gJ K H (.ref a) (.type "dict")
  | dT {a:Addr} {kvs:List (List aP×V)} (e:H a=some (.dT kvs)):gJ K H (.ref a) (.type "dict")
  | ins {a C dx:Addr} {fs:List (Str×V)} (e:H a=some (.ins C dx fs)) (cl:fS K C) (ha:W.findIn K (.ref C) "__class__" = some (some (.builtin "object.__class__")))
      (hn:W.specialIn K (.builtin "object.__class__") "__get__" = some (some (.builtin "getset_descriptor.__get__"))) (htk:W.takesIn K (.builtin "object.__class__")=some true)
      (hm:W.mroIn K C (.type "object")=some true):gJ K H (.ref a) (.ref C)
theorem qO{x:V}{t:Value}(I:aj X pins σ H s)(rx:aO x u)(ty:gJ X.K H x t)(e:W.kitOne X.K t c=some b)(h:∀tk,Q (.bool b) { s with toks:=tk }) :
  wpAny (model X.prog X.w) A (call (.builtin "isinstance") [u,c]) Q E s:=by
 cases ty with
 | non=>cases (show u=Value.none from rx);exact RE W.kitx_none I.kIn True.intro e (fun z=>nomatch z) h
 | bl y=>cases (show u=Value.bool y from rx);exact RE W.kitx_bool I.kIn True.intro e (fun z=>nomatch z) h
 | int i=>obtain⟨t,q⟩:=(show ∃t,u=Value.int i t from rx);cases q;exact RE W.kitx_int I.kIn True.intro e (fun z=>nomatch z) h
 | str y=>obtain⟨t,q⟩:=(show ∃t,u=Value.str y t from rx);cases q;exact RE W.kitx_str I.kIn True.intro e (fun z=>nomatch z) h
 | flt y=>obtain⟨t,q⟩:=(show ∃t,u=Value.float y t from rx);cases q;exact RE W.kitx_float I.kIn True.intro e (fun z=>nomatch z) h
 | @lst a xs ea =>
  cases (show u=Value.ref a from rx)
  obtain⟨_,_,n,_,h1⟩:=(show aV X.prog X.w H s.heap a (.lst xs)from I.hok a _ ea)
  exact RE W.kitx_list I.kIn ⟨_,h1,rfl⟩ e (fun z=>nomatch z) h
 | @frz a ob xs ea =>
  cases (show u=Value.ref a from rx)
  obtain⟨_,_,_,n,_,h1⟩:=(show aV X.prog X.w H s.heap a (.frz ob (.lst xs))from I.hok a _ ea)
  exact RE W.kitx_list I.kIn ⟨_,h1,rfl⟩ e (fun z=>nomatch z) h
 | @tup a xs ea =>
  cases (show u=Value.ref a from rx)
  obtain⟨_,_,_,p⟩:=(show aV X.prog X.w H s.heap a (.tup xs)from I.hok a _ ea)
  obtain⟨o,h1,h2,_⟩:=p.1
  exact RE W.kitx_tuple I.kIn ⟨o,h1,h2⟩ e (fun z=>nomatch z) h
 | @dK a kvs ea =>
  cases (show u=Value.ref a from rx)
  obtain⟨_,_,vs,_,p⟩:=(show aV X.prog X.w H s.heap a (.dK kvs)from I.hok a _ ea)
  obtain⟨o,es,ep,h1,h2,_⟩:=p
  exact RE W.kitx_dict I.kIn ⟨o,h1,h2.1⟩ e (fun z=>nomatch z) h
 | @dT a kvs ea =>
  cases (show u=Value.ref a from rx)
  obtain⟨_,_,xs,_,o,es,ep,h1,h2,_⟩:=(show aV X.prog X.w H s.heap a (.dT kvs)from I.hok a _ ea)
  exact RE W.kitx_dict I.kIn ⟨o,h1,h2.1⟩ e (fun z=>nomatch z) h
 | @ins a C dx fs ea cl ha hn htk hm =>
  cases (show u=Value.ref a from rx)
  obtain⟨mA,O,_⟩:=ER I.hok ea
  obtain⟨od,J,_⟩:=O.look
  exact RE (W.kitx_own (cl.get _) cl.hd ha hn htk hm) I.kIn J e (fun z=>nomatch z) h
end
structure bZ(k:Nat)(A:Around):Prop where
 hd:A.handled=none
 dp:A.depth+3*k+5<recursionLimit
 un:A.units+16*k+200<cLine
theorem bZ.mono(r:bZ k A)(h:j<=k):bZ j A:=⟨r.hd,by have:=r.dp;omega,by have:=r.un;omega⟩
theorem bZ.deeper(r:bZ (k+1) A)(env:Env):bZ k (A.deeper env) :=
 ⟨r.hd,by have:=r.dp;show A.depth+1+3*k+5<_;omega,by have:=r.un;show A.units+3+16*k+200<_;omega⟩
theorem bZ.in1(r:bZ (k+1) A):bZ k A.in1 :=
 ⟨r.hd,by have:=r.dp;show A.depth+3*k+5<_;omega,by have:=r.un;show A.units+1+16*k+200<_;omega⟩
theorem wR:(A.under (.builtin "type.__call__" ⟨.ref C::us,kw⟩)).depth=A.depth+1:=by
 first|rfl|simp[Around.under,Code.weight,Code.isCreation,Code.isGuard,Code.isCaller,Code.frames,Code.isFrame,guardIds]
theorem wQ:(A.under (.builtin "type.__call__" ⟨.ref C::us,kw⟩)).units=A.units+1:=by
 first|rfl|simp[Around.under,Code.cUnits,Code.frames,Code.isFrame]
theorem bZ.make(r:bZ (k+1) A)(C:Addr)(us:List Value)(kw:List (Str×Value)):bZ k (A.under (.builtin "type.__call__" ⟨.ref C::us,kw⟩)) :=
 ⟨r.hd,by have:=r.dp;rw[wR];omega,by have:=r.un;rw[wQ];omega⟩
theorem bZ.depth(r:bZ k A):A.depth<recursionLimit:=by have:=r.dp;omega
theorem bZ.units(r:bZ k A):A.units+64<cLine:=by have:=r.un;omega
noncomputable def AB:TA:=fun _ H Q=>Q [] H
noncomputable def Ke(ta:TE)(tr:TA):TA:=fun σ H Q=>ta σ H fun x H1=>tr σ H1 fun xs H2=>Q (x::xs) H2
section
variable{t:TA}
theorem yh:PA X [] AB:=fun _ _ _ _ H Q I h=>Calls.spliced_nil ⟨[],H,I,.nil,h⟩
theorem vx(ha:PE X e te)(hr:PA X es t)(hs:starEach (e::es) X.env=(false,eval e X.env)::starEach es X.env:=by rfl):PA X (e::es) (Ke te t):=by
 intro pos pins s σ H Q I h
 rw[hs]
 show wpAny _ _ (spliced ((false,eval e X.env)::backTo pos (starEach es X.env))) _ _ s
 refine Calls.spliced_cons (aL (ha pins s σ H _ I h) fun u s1 ⟨x,H1,I1,r1,q1⟩=>?_)
 exact aL (hr pos pins s1 σ H1 _ I1 q1) fun us s2 ⟨xs,H2,I2,r2,q2⟩=>⟨x::xs,H2,I2,.cons r1 r2,q2⟩
noncomputable def LB(t:TA):TE:=fun σ H Q=>t σ H fun xs H1=>xs.length<=sizeLine/\∀p,H1 p=none->Q (.ref p) (aF H1 p (.tup xs))
noncomputable def LH(t:TA):TE:=fun σ H Q=>t σ H fun xs H1=>xs.length<=sizeLine/\∀p,H1 p=none->Q (.ref p) (aF H1 p (.lst xs))
theorem GO{x1}(h:PA X es t):PE X (.Tuple es x1 pos) (LB t):=by
 intro pins s σ H Q I hq
 refine wpAny_Tuple_spliced (aL (h pos pins s σ H _ I hq) fun us s1 ⟨xs,H1,I1,r,z,q⟩=>⟨by rw[<- r.length];exact z,?_⟩)
 have hf:H1 s1.heap.objs.size=none:=I1.hok.fresh (QA _)
 refine⟨.ref s1.heap.objs.size,aF H1 s1.heap.objs.size (.tup xs),I1.laid (t':=s1.toks) (fun b u e=>Qw _ e) (QA _) ?_,rfl,q _ hf⟩
 exact⟨z,us,r,⟨_,QJ _ rfl,rfl,_,rfl⟩,_,QJ _ rfl,rfl⟩
theorem GT(h:PA X es t):PE X (.List es pos) (LH t):=by
 intro pins s σ H Q I hq
 refine wpAny_List_spliced (aL (h pos pins s σ H _ I hq) fun us s1 ⟨xs,H1,I1,r,z,q⟩=>⟨by rw[<- r.length];exact z,?_⟩)
 have hf:H1 s1.heap.objs.size=none:=I1.hok.fresh (QA _)
 refine⟨.ref s1.heap.objs.size,aF H1 s1.heap.objs.size (.lst xs),I1.laid (t':=s1.toks) (fun b u e=>Qw _ e) (QA _) ?_,rfl,q _ hf⟩
 exact⟨z,us,0,r,QJ _ rfl⟩
end
noncomputable abbrev Sp:=List V->Hp->VK->XK->Prop
noncomputable abbrev ka:=List Env->Hp->Shared->XK->Value->Shared->Prop
structure iZ(P:Program)(w:World)(K:W.Frag)(mg:Str->Option Value)(base:Heap)(A:Around)(outer:List Env)(s:Shared)(H:Hp):Prop where
 frames:A.frames=some outer
 mod:Mod K mg base
 bs:∀b o,base.get? b=some o->s.heap.get? b=some o/\H b=none
 bsz:base.objs.size<=s.heap.objs.size
 funs:s.heap.FunFrames base outer
 frf:∀b∈jr outer,H b=none
 hok:dM P w H s.heap
 bare:AllBare s.gens
noncomputable def CE(outer:List Env)(P:Program)(w:World)(H:Hp)(s:Shared)(Q:VK)(u:Value)(s':Shared):Prop :=
 ∃v H',s'.os=s.os/\AllBare s'.gens/\Un (jr outer) [] H H' s.heap s'.heap/\dM P w H' s'.heap/\aO v u/\Q v H'
noncomputable def CR(CX:ka)(outer:List Env)(P:Program)(w:World)(H:Hp)(s:Shared)(Q:VK)(E:XK)(r:Result)(s':Shared):Prop :=
 match r with
 | .ok (.ret u)=>CE outer P w H s Q u s'
 | .ok _=>False
 | .error e=>CX outer H s E e s'
structure cQ(P:Program)(w:World)(K:W.Frag)(mg:Str->Option Value)(base:Heap)(CX:ka)(k:Nat)(f:Addr)(fd:FuncData)(ps:List Str)(sp:Sp):Prop where
 len:∀vs H Q E,sp vs H Q E->vs.length=ps.length
 run:∀(A:Around) (outer:List Env) (s:Shared) (H:Hp) (args:Args) (us:List Value) (vs:List V) (Q:VK) (E:XK),bZ k A->iZ P w K mg base A outer s H->BindsTo s fd args (ps.zip us)->aD vs us->sp vs H Q E ->
  codeAny (model P w) A (.call (.ref f) args) (CR CX outer P w H s Q E) s
theorem cQ.mono{CX:ka}{f:Addr}{sp:Sp}(F:cQ P w K mg base CX j f fd ps sp)(h:j<=k) :
  cQ P w K mg base CX k f fd ps sp:=⟨F.len,fun A outer s H args us vs Q E hr=>F.run A outer s H args us vs Q E (hr.mono h)⟩
theorem iZ.make(e:iZ P w K mg base A outer s H)(C:Addr)(us:List Value)(kw:List (Str×Value)) :
  iZ P w K mg base (A.under (.builtin "type.__call__" ⟨.ref C::us,kw⟩)) outer s H:=⟨by first|exact e.frames|(simpa [Around.under,Code.envs,Code.isFrame,pushEnvs]using e.frames),e.mod,e.bs,e.bsz,e.funs,e.frf,e.hok,e.bare⟩
theorem iZ.in1(e:iZ P w K mg base A outer s H) :
  iZ P w K mg base A.in1 outer s H:=⟨e.frames,e.mod,e.bs,e.bsz,e.funs,e.frf,e.hok,e.bare⟩
section
theorem aj.env0(I:aj X pins σ H s):iZ X.prog X.w X.K X.mg X.base X.A X.stack s H :=
 ⟨I.ok.frames,I.ok.mod,I.bs,QR I.ok.bsz I.sz,I.stack,I.stkFree,I.hok,I.bare⟩
theorem aj.after(I:aj X pins σ H s)(h:CE X.stack X.prog X.w H s Q u s'):EP X pins σ Q u s':=by
 obtain⟨v,H',os,bare,un,hok,r,q⟩:=h
 obtain⟨hh,g,d,t,os'⟩:=s'
 obtain rfl:os'=s.os:=os
 exact⟨v,H',I.call (h':=hh) (g':=g) (d':=d) (t':=t) (ch:=[]) un hok bare (fun b z=>absurd z (by simp)),r,q⟩
end
noncomputable def Ch(sp:Sp)(dvs:List V)(E:XK)(t:TA):TE:=fun σ H Q=>t σ H fun vs H1=>sp (vs++dvs) H1 Q E
noncomputable def tMeth(C:Addr)(m:Str)(sp:Sp)(dvs:List V)(E:XK)(ta:TE)(t:TA):TE:=fun σ H Q=>ta σ H fun x H1 => ∃a dx fs,x=.ref a/\H1 a=some (.ins C dx fs)/\fs.lookup m=none /\
 t σ H1 fun vs H2=>sp (x::(vs++dvs)) H2 Q E
noncomputable def Cg(C:Addr)(sp:Sp)(dvs:List V)(E:XK)(t:TA):TE:=fun σ H Q=>t σ H fun vs H1 => ∀x dx,H1 x=none->H1 dx=none->dx≠x ->
 sp (.ref x::(vs++dvs)) (aF (aF H1 dx (.own x)) x (.ins C dx [])) (fun v H2=>v=.non/\Q (.ref x) H2) E
noncomputable def dj(K:W.Frag)(fd:FuncData)(ps:List Str)(ds:List Value):Prop :=
 ∀(s:Shared) (us:List Value),K.In s.heap->(us++ds).length=ps.length->BindsTo s fd ⟨us,[]⟩ (ps.zip (us++ds))
theorem dj.all(h:∀us:List Value,us.length=ps.length->bindArgs fd ⟨us,[]⟩=pure (ps.zip us)):dj K fd ps []:=fun s us _ hl=>by
 rw[Ra]at hl⊢
 exact .of_eq (h us hl)
noncomputable def iB(CX:ka)(X:Cx)(E:XK):Prop:=∀(pins:List (Addr×Obj)) (σ:St) (H:Hp) (s:Shared) (e:Value) (s':Shared),aj X pins σ H s->CX X.stack H s E e s'->X.xe e s'
section
variable{CX:ka}{f:Addr}{sp:Sp}{dvs:List V}{ds:List Value}{E:XK}{m:Str}{apos:Pos}{o:Expr}{ta:TE}{t:TA}
theorem xY(F:cQ X.prog X.w X.K X.mg X.base CX k f fd ps sp)(hr:bZ k X.A)(hb:dj X.K fd ps ds)(hd:aD dvs ds)(hx:iB CX X E)
  (I:aj X pins σ H s) (r:aD vs us) (h:sp (vs++dvs) H Q E):wpAny (model X.prog X.w) X.A (call (.ref f) us) (EP X pins σ Q) X.xe s:=by
 have r2:aD (vs++dvs) (us++ds):=r.append hd
 have hl:(us++ds).length=ps.length:=by rw[<- r2.length];exact F.len _ _ _ _ h
 refine wpAny_call (codeAny_mono (F.run X.A X.stack s H ⟨us,[]⟩ (us++ds) (vs++dvs) Q E hr I.env0 (hb s us I.kIn hl) r2 h) fun r s' hq=>?_)
 cases r with
 | error e=>exact hx pins σ H s e s' I hq
 | ok fl =>
  cases fl with
  | ret u=>exact I.after hq
  | next=>exact False.elim hq
  | brk=>exact False.elim hq
  | cont=>exact False.elim hq
theorem Eb(F:cQ X.prog X.w X.K X.mg X.base CX k f fd ps sp)(hr:bZ k X.A)(hg:Gl X x)(hm:X.mg x=some (.ref f))(hk:W.keepIn X.K (.ref f)=true)(hb:dj X.K fd ps ds)(hd:aD dvs ds)(hx:iB CX X E)
  (ha:PA X (e::es) t) (hdb:(x==("__debug__" : Str))=false:=by decide) (he:starEach (e::es) X.env=(false,eval e X.env)::starEach es X.env:=by rfl) (hpl:(backTo pos (starEach es X.env)).any (·.1)=false:=by rfl) :
  PE X (.Call (.Name x p) (e::es) [] pos) (Ch sp dvs E t):=by
 intro pins s σ H Q I h
 refine Se (jl I hg hm ?_ hdb)
 refine W.callWith_K (h₀:=X.base) I.ok.mod.kin hk (aL (ha pos pins s σ H _ I h) fun us s1 ⟨vs,H1,I1,r,q⟩=>⟨I1.kIn,?_⟩) he hpl
 exact xY F hr hb hd hx I1 r q
theorem A1(F:cQ X.prog X.w X.K X.mg X.base CX k f fd ps sp)(hr:bZ k X.A)(hg:Gl X x)(hm:X.mg x=some (.ref f))(hk:W.keepIn X.K (.ref f)=true)(hb:dj X.K fd ps ds)(hd:aD dvs ds)(hx:iB CX X E)
  (hdb:(x==("__debug__" : Str))=false:=by decide):PE X (.Call (.Name x p) [] [] pos) (Ch sp dvs E AB):=by
 intro pins s σ H Q I h
 refine Se (jl I hg hm ?_ hdb)
 exact W.callWith_K0 I.kIn hk (xY (us:=[]) F hr hb hd hx I .nil h)
structure Mk(K:W.Frag)(C f:Addr):Prop where
 makes:W.makesIn K C=true
 init:W.findIn K (.ref C) "__init__" = some (some (.ref f))
 fn:W.isFn K (.ref f)=true
 kp:W.keepIn K (.ref C)=true
theorem sk(M:Mk X.K C f)(F:cQ X.prog X.w X.K X.mg X.base CX k f fd ps sp)(hr:bZ (k+1) X.A)(hb:dj X.K fd ps ds)(hd:aD dvs ds)
  (hx:iB CX X E) (I:aj X pins σ H s) (r:aD vs us)
  (h:∀x dx,H x=none->H dx=none->dx≠x->sp (.ref x::(vs++dvs)) (aF (aF H dx (.own x)) x (.ins C dx [])) (fun v H2=>v=.non/\Q (.ref x) H2) E) :
  wpAny (model X.prog X.w) X.A (call (.ref C) us) (EP X pins σ Q) X.xe s:=by
 have hq:=h (s.heap.objs.size+1) s.heap.objs.size (I.hok.fresh (Nat.le_succ _)) (I.hok.fresh (QA _)) (QZ (Rk _))
 have I2:=aj.made (C:=C) I
 have r2:aD (V.ref (s.heap.objs.size+1)::(vs++dvs)) (Value.ref (s.heap.objs.size+1)::(us++ds)):=.cons rfl (r.append hd)
 have hl:(Value.ref (s.heap.objs.size+1)::us++ds).length=ps.length:=by
  have e:=r2.length
  rw[F.len _ _ _ _ hq]at e
  exact e.symm
 refine wpAny_call (Bf (f:=f) I.kIn M.makes M.init (beq_iff_eq.mp M.fn) (codeAny_mono (F.run _ X.stack _ _ ⟨Value.ref (s.heap.objs.size+1)::us,[]⟩ (Value.ref (s.heap.objs.size+1)::(us++ds)) _ _ E (hr.make C us [])
  (I2.env0.make C us []) (hb _ (Value.ref (s.heap.objs.size+1)::us) I2.kIn hl) r2 hq) fun r s' hq'=>?_))
 cases r with
 | error e=>exact hx pins σ _ _ e s' I2 hq'
 | ok fl =>
  cases fl with
  | ret u =>
   obtain⟨v,H',I3,rv,ev,q3⟩:=I2.after hq'
   subst ev
   exact⟨rv,⟨V.ref (s.heap.objs.size+1),H',I3,rfl,q3⟩⟩
  | next=>exact False.elim hq'
  | brk=>exact False.elim hq'
  | cont=>exact False.elim hq'
theorem D7(M:Mk X.K C f)(F:cQ X.prog X.w X.K X.mg X.base CX k f fd ps sp)(hr:bZ (k+1) X.A)(hg:Gl X x)(hm:X.mg x=some (.ref C))(hb:dj X.K fd ps ds)(hd:aD dvs ds)(hx:iB CX X E)
  (ha:PA X (e::es) t) (hdb:(x==("__debug__" : Str))=false:=by decide) (he:starEach (e::es) X.env=(false,eval e X.env)::starEach es X.env:=by rfl) (hpl:(backTo pos (starEach es X.env)).any (·.1)=false:=by rfl) :
  PE X (.Call (.Name x p) (e::es) [] pos) (Cg C sp dvs E t):=by
 intro pins s σ H Q I h
 refine Se (jl I hg hm ?_ hdb)
 refine W.callWith_K (h₀:=X.base) I.ok.mod.kin M.kp (aL (ha pos pins s σ H _ I h) fun us s1 ⟨vs,H1,I1,r,q⟩=>⟨I1.kIn,?_⟩) he hpl
 exact sk M F hr hb hd hx I1 r q
theorem AZ(M:Mk X.K C f)(F:cQ X.prog X.w X.K X.mg X.base CX k f fd ps sp)(hr:bZ (k+1) X.A)(hg:Gl X x)(hm:X.mg x=some (.ref C))(hb:dj X.K fd ps ds)(hd:aD dvs ds)(hx:iB CX X E)
  (hdb:(x==("__debug__" : Str))=false:=by decide):PE X (.Call (.Name x p) [] [] pos) (Cg C sp dvs E AB):=by
 intro pins s σ H Q I h
 refine Se (jl I hg hm ?_ hdb)
 exact W.callWith_K0 I.kIn M.kp (sk (us:=[]) M F hr hb hd hx I .nil h)
end
section
variable{CX:ka}{f:Addr}{ks:List Str}{sp:Sp}{E:XK}{m:Str}{apos kpos:Pos}{o:Expr}{kws:List Keyword}{ta:TE}{t tk:TA}{nm:Option Str}
variable{g:List Value->List Value->List Value}{gV:List V->List V->List V}
end
structure aS(N P:List Str)(sc:Scope):Prop where
 kind:sc.kind=.function
 co:sc.isCoroutine=false
 gen:sc.isGenerator=false
 nd:N.Nodup
 pre:N.take P.length=P
 par:∀x∈P,sc.names.lookup x=some .local\/sc.names.lookup x=some .cell
 nofree:∀y∈sc.names,y.2 ≠ .free
theorem qV{kindOf:Str->Option NameKind}{x:Str}:∀{binds:List (Str×Value)} {m:Str->Option Value},(∀v,(x,v)∉binds)->bindL kindOf binds m x=m x
 | [],_,_=>rfl
 | (n,v)::r,m,h=>by
  unfold bindL
  rw[qV fun w hw=>h w (Qz _ hw)]
  split
  ·have:x≠n:=by rintro rfl;exact h v Qy
   simp[this]
  ·rfl
theorem qX{kindOf:Str->Option NameKind}{x:Str}:∀{binds:List (Str×Value)} {m:Str->Option Value},(∀v,(x,v)∉binds)->bindC kindOf binds m x=m x
 | [],_,_=>rfl
 | (n,v)::r,m,h=>by
  unfold bindC
  rw[qX fun w hw=>h w (Qz _ hw)]
  split
  ·rfl
  ·have:x≠n:=by rintro rfl;exact h v Qy
   simp[this]
theorem qW{kindOf:Str->Option NameKind}{x:Str}{v:Value}:∀{P:List Str} {vs:List Value} {i:Nat} {m:Str->Option Value},P.Nodup->P[i]?=some x->vs[i]?=some v->kindOf x=some .local ->
  bindL kindOf (P.zip vs) m x=some v
 | [],_,_,_,_,h,_,_=>by simp at h
 | _::_,[],_,_,_,_,h,_=>by simp at h
 | p::P,w::vs,0,m,nd,h1,h2,hk=>by
  simp at h1 h2;subst h1;subst h2
  show bindL kindOf ((p,w)::P.zip vs) m p=_
  unfold bindL
  rw[qV fun v hv=>(Sg.mp nd).1 (List.of_mem_zip hv).1,if_pos hk]
  simp
 | p::P,w::vs,i+1,m,nd,h1,h2,hk=>by
  show bindL kindOf ((p,w)::P.zip vs) m x=_
  unfold bindL
  exact qW (i:=i) (Sg.mp nd).2 (by simpa using h1) (by simpa using h2) hk
theorem qY{kindOf:Str->Option NameKind}{x:Str}{v:Value}:∀{P:List Str} {vs:List Value} {i:Nat} {m:Str->Option Value},P.Nodup->P[i]?=some x->vs[i]?=some v->kindOf x≠some .local ->
  bindC kindOf (P.zip vs) m x=some v
 | [],_,_,_,_,h,_,_=>by simp at h
 | _::_,[],_,_,_,_,h,_=>by simp at h
 | p::P,w::vs,0,m,nd,h1,h2,hk=>by
  simp at h1 h2;subst h1;subst h2
  show bindC kindOf ((p,w)::P.zip vs) m p=_
  unfold bindC
  rw[qX fun v hv=>(Sg.mp nd).1 (List.of_mem_zip hv).1,if_neg hk]
  simp
 | p::P,w::vs,i+1,m,nd,h1,h2,hk=>by
  show bindC kindOf ((p,w)::P.zip vs) m x=_
  unfold bindC
  exact qY (i:=i) (Sg.mp nd).2 (by simpa using h1) (by simpa using h2) hk
noncomputable def start(N:List Str)(vs:List V):St:=vs.map some++List.replicate (N.length-vs.length) none
noncomputable def lu(CX:ka)(P:Program)(w:World)(K:W.Frag)(mg:Str->Option Value)(base:Heap)(N:List Str)(qual:Str)(scope:Scope)(f:Addr)(cd:Value)(A:Around)(outer:List Env)(s:Shared)(H:Hp)(E:XK):Cx where
 prog:=P
 w:=w
 K:=K
 mg:=mg
 base:=base
 A:=A.deeper (envOfC qual scope s.heap.objs.size f cd)
 N:=N
 s₀:=s
 H₀:=H
 env:=envOfC qual scope s.heap.objs.size f cd
 outer:=outer
 stack:=envOfC qual scope s.heap.objs.size f cd::outer
 ex:=[]
 calm:=true
 fn:=fun _=>true
 pn:=[]
 xe:=fun e s'=>wpAny (model P w) (A.deeper (envOfC qual scope s.heap.objs.size f cd)) (leaving (envOfC qual scope s.heap.objs.size f cd) e) (fun _ s''=>CX outer H s E e s'') (fun e' s''=>CX outer H s E e' s'') s'
theorem t7{sc:Scope}(h:sc.names.lookup x=some .cell):∃c,(cellsFrom n sc.names []).lookup x=some c:=by
 have q:=W.cellsFrom_some sc.names n [] (.inl h)
 exact Option.isSome_iff_exists.mp q
theorem yW{CX:ka}{f:Addr}{cd:Value}{s1:Shared}{E:XK}
  (S:aS N ps scope) (hd:A.handled=none) (e0:iZ P w K mg base A outer s H) (hl:vs.length=ps.length) (r:aD vs us)
  (x:InCallC s s.heap.objs.size (bindL (envOfC qual scope s.heap.objs.size f cd).kindOf (ps.zip us) fun _=>none) (cellsFrom (s.heap.objs.size+1) scope.names []) (bindC (envOfC qual scope s.heap.objs.size f cd).kindOf (ps.zip us) fun _=>none) s1) :
  aj (lu CX P w K mg base N qual scope f cd A outer s H E) [] (start N vs) H s1:=by
 have hpl:ps.length<=N.length:=by have:=RC List.length S.pre;rw[Q1]at this;omega
 obtain⟨h1,tk,rfl,hk⟩:=x.done
 have noA:∀b:Addr,b∉(lu CX P w K mg base N qual scope f cd A outer s H E).ex:=fun b z=>absurd (show b∈([]:List Addr)from z) (by simp)
 refine⟨⟨e0.mod,S.kind,rfl,rfl,QA _,fun y z c h1 h2=>?_,fun y hy=>?_,fun y c _ h=>?_,fun _=>hd,Around.frames_deeper e0.frames,.inr ⟨rfl,rfl⟩,fun b z=>absurd z (noA b),e0.bs,e0.bsz,fun b _ _=>noA b,fun b z=>absurd z (noA b),e0.funs,e0.frf⟩,
  rfl,e0.bare,Un.kept hk,⟨_,x.toInCall.ns,fun i y v h1 h2 h3=>?_⟩,fun y c h=>⟨_,x.cell y c h⟩,e0.hok.fresh (QA _),fun y c h=>?_,fun p hp=>absurd (show p∈([]:List (Addr×Obj))from hp) (by simp),e0.hok.kept hk,?_⟩
 ·exact name_of_addr x.apart (Q4 h1) (Q4 h2)
 ·have hy:scope.names.lookup y=some .cell\/scope.names.lookup y=some .free:=hy
  rcases hy with hy|hy
  ·exact t7 hy
  ·exact absurd rfl (S.nofree _ (Q4 hy))
 ·exact RZ (x.above y c (Q4 h))
 ·have hi:i<vs.length:=by
   unfold start at h2
   by_cases hi:i<vs.length
   ·exact hi
   ·rw[List.getElem?_append_right (by simpa using hi)]at h2
    rw[List.getElem?_replicate]at h2
    split at h2<;>cases h2
  have ha:vs[i]?=some v:=by
   unfold start at h2
   rw[List.getElem?_append_left (by simpa using hi),Q7]at h2
   cases e:vs[i]? with
   | none=>rw[e]at h2;cases h2
   | some a=>rw[e]at h2;cases h2;rfl
  obtain⟨u,hu,rv⟩:=r.get ha
  have hp:ps[i]?=some y:=by
   rw[<- S.pre,List.getElem?_take_of_lt (by omega)];exact h1
  have ndP:ps.Nodup:=by rw[<- S.pre];exact S.nd.sublist (List.take_sublist _ _)
  refine⟨u,rv,?_⟩
  rcases S.par y (RF hp)with k|k
  ·exact .inl ⟨k,qW ndP hp hu k⟩
  ·obtain⟨c,e⟩:=t7 (n:=s.heap.objs.size+1) k
   refine .inr ⟨.inl k,c,e,?_⟩
   have q:=x.cell y c e
   rw[qY ndP hp hu (by show scope.names.lookup y≠_;rw[k];decide)]at q
   exact q
 ·exact e0.hok.fresh (RZ (x.above y c (Q4 h)))
 ·unfold start
  show _=N.length
  rw[QH,QC,List.length_replicate]
  omega
theorem KR{CX:ka}{f:Addr}{name:Str}{params:Arguments}{dV kV doc pm cdv ct oc:Value}{an od:Option Addr}
  {osl:Array (Option Value)} {sp:Sp} (lk:K.lookup f=some ⟨oc,od,.func (W.fnOf name qual params body scope dV kV doc pm an cdv ct),osl⟩) (hcd:W.codeIn K cdv qual=true) (S:aS N ps scope)
  (len:∀vs H Q E,sp vs H Q E->vs.length=ps.length)
  (hbody:∀(A:Around) (outer:List Env) (s:Shared) (H:Hp) (vs:List V) (Q:VK) (E:XK),bZ k (A.deeper (envOfC qual scope s.heap.objs.size f cdv))->sp vs H Q E ->
   ∃t,dZ (lu CX P w K mg base N qual scope f cdv A outer s H E) body t/\t { nx:=fun _ H'=>Q .non H',rt:=Q } (start N vs) H) :
  cQ P w K mg base CX (k+1) f (W.fnOf name qual params body scope dV kV doc pm an cdv ct) ps sp:=by
 refine⟨len,fun A outer s H args us vs Q E hr e0 hb r hsp=>?_⟩
 have hl:=len _ _ _ _ hsp
 have KX:K.In s.heap:=e0.mod.kin.keeps fun b o e=>(e0.bs b o e).1
 have lim:s.heap.NoLimit:=e0.mod.nolimit.keeps fun b o e=>(e0.bs b o e).1
 have hkind:∀y∈ps.zip us,scope.names.lookup y.1=some .local\/(scope.names.lookup y.1=some .cell/\((cellsFrom (s.heap.objs.size+1) scope.names []).lookup y.1).isSome=true):=fun⟨n,v⟩ hy=>by
  rcases S.par n (List.of_mem_zip hy).1 with q|q
  ·exact .inl q
  ·exact .inr ⟨q,W.cellsFrom_some _ _ _ (.inl q)⟩
 refine codeAny_call_function hr.depth (KX _ _ lk) rfl S.co S.gen rfl (W.codeRec_of KX hcd) (hb _ _ _ _ ?_)
 refine wpAny_newFunctionEnv_cells S.kind hkind fun env he s1 x=>?_
 subst he
 refine⟨lim.keeps x.toInCall.keep,codeAny_func ?_⟩
 obtain⟨t,ht,hq⟩:=hbody A outer s H vs Q E (hr.deeper _) hsp
 have I:aj (lu CX P w K mg base N qual scope f cdv A outer s H E) [] (start N vs) H s1:=yW S hr.hd e0 hl r x
 refine RQ (ht [] s1 (start N vs) H _ I hq) (fun fl s' hs=>?_) fun e s' hs=>hs
 have fin:∀{σ':St} {H':Hp} {v:V} {u:Value},aj (lu CX P w K mg base N qual scope f cdv A outer s H E) [] σ' H' s'->aO v u->Q v H'->CE outer P w H s Q u s' :=
  fun {σ' H' v u} J rv q=>⟨v,H',J.os,J.bare,J.base,J.hok,rv,q⟩
 cases fl with
 | ret u =>
  obtain⟨v,σ',H',J,rv,q⟩:=hs
  exact fin J rv q
 | next =>
  obtain⟨σ',H',J,q⟩:=hs
  exact fin (v:=V.non) (u:=Value.none) J rfl q
 | brk =>
  obtain⟨_,_,_,q⟩:=hs
  exact False.elim q
 | cont =>
  obtain⟨_,_,_,q⟩:=hs
  exact False.elim q
section
variable{t:TA}{id T:String}{r:List V->Hp->VK->Prop}
noncomputable def Lj(r:List V->Hp->VK->Prop)(t:TA):TE:=fun σ H Q=>t σ H fun vs H1=>r vs H1 Q
theorem sI(hc:e6 X (.builtin id) r)(hg:Gl X x)(hm:X.mg x=none)(hv:bootBuiltins x=some (.builtin id))(ha:PA X (e::es) t)(hn:x ≠ "__name__" := by decide)(hdb:(x==("__debug__" : Str))=false:=by decide)
  (he:starEach (e::es) X.env=(false,eval e X.env)::starEach es X.env:=by rfl) (hpl:(backTo pos (starEach es X.env)).any (·.1)=false:=by rfl):PE X (.Call (.Name x p) (e::es) [] pos) (Lj r t):=by
 intro pins s σ H Q I h
 refine Se (fG I hg hm hv ?_ hn hdb)
 exact PyProof.Rows.callWith_builtin1 (aL (ha pos pins s σ H _ I h) fun us s1 ⟨vs,H1,I1,r1,q1⟩=>hc pins s1 σ H1 vs us Q I1 r1 q1) he hpl
theorem qM(hc:e6 X (.type T) r)(hg:Gl X x)(hm:X.mg x=none)(hv:bootBuiltins x=some (.type T))(ha:PA X (e::es) t)(hn:x ≠ "__name__" := by decide)(hdb:(x==("__debug__" : Str))=false:=by decide)
  (he:starEach (e::es) X.env=(false,eval e X.env)::starEach es X.env:=by rfl) (hpl:(backTo pos (starEach es X.env)).any (·.1)=false:=by rfl):PE X (.Call (.Name x p) (e::es) [] pos) (Lj r t):=by
 intro pins s σ H Q I h
 refine Se (fG I hg hm hv ?_ hn hdb)
 exact Rv (aL (ha pos pins s σ H _ I h) fun us s1 ⟨vs,H1,I1,r1,q1⟩=>hc pins s1 σ H1 vs us Q I1 r1 q1) he hpl
end
end L2
namespace HT
open PySem PyProof.Rows
noncomputable def lexLt:List Int->List Int->Bool
 | [],[]=>false
 | [],_::_=>true
 | _::_,[]=>false
 | x::xs,y::ys=>if x=y then lexLt xs ys else decide (x<y)
theorem lexLt_cons(x y:Int)(xs ys:List Int):lexLt (x::xs) (y::ys)=if x=y then lexLt xs ys else decide (x<y):=rfl
section
open PySem.SeqAt
open PySem.AutoSeq1 (wpAny_loadPart')
open PySem.MeetsSeq PySem.MeetsSeq2 PySem.MeetsSeq3
end
section
variable{prog:Program}{w:World}{A:Around}{E:Value->Shared->Prop}{s:Shared}
theorem cat_tup{t b:Addr}{vs ws:List Value}{Q:Value->Shared->Prop}(ht:IsTup s.heap t vs.toArray)(hb:IsTup s.heap b ws.toArray)(hv:vs≠[])
  (h1:ws=[]->Q (.ref t) s) (h2:ws≠[]->Q (.ref s.heap.objs.size) { s with heap:=s.heap.push { cls:=.type "tuple", data:=.seq (vs++ws).toArray } })
  (hsz:vs.length+ws.length<=sizeLine):wpAny (model prog w) A (binaryOp .Add (.ref t) (.ref b)) Q E s:=by
 obtain⟨⟨cls,dd,data,sl⟩,ho,hc,n,hd⟩:=id ht
 obtain⟨⟨cls2,dd2,data2,sl2⟩,ho2,hc2,n2,hd2⟩:=id hb
 simp only at hc hd hc2 hd2
 subst hc hd hc2 hd2
 have e:vs.toArray++ws.toArray=(vs++ws).toArray:=by simp
 by_cases hw:ws=[]
 ·exact concat_meets ⟨_,ho,rfl⟩ ⟨_,ho2,rfl⟩ noFill_tuple_add seq_tuple_add PySem.F.slot_tuple_add PySem.F.entry_tuple_add (PySem.F.args_tuple_add_2 _ _)
   (tuple_addW1 t b vs.toArray ws.toArray n n2 dd dd2 sl sl2 (by simpa using hv) (by simp[hw])) ⟨ho,ho2,h1 hw⟩
 ·refine concat_meets ⟨_,ho,rfl⟩ ⟨_,ho2,rfl⟩ noFill_tuple_add seq_tuple_add PySem.F.slot_tuple_add PySem.F.entry_tuple_add (PySem.F.args_tuple_add_2 _ _)
   (tuple_addW2 t b vs.toArray ws.toArray n n2 dd dd2 sl sl2 (by simpa using hv) (by simpa using hw) (by rw[QV,QV];exact hsz)) ⟨ho,ho2,?_⟩
  rw[e]
  exact h2 hw
noncomputable def sIx(n d:Nat):Option Int->Nat
 | none=>d
 | some v=>if v<0 then(v+(n:Int)).toNat else min v.toNat n
end
end HT
namespace L2
open PySem PySem.Spec PyProof.Rows
variable{xs:List V}{its its' us:List Value}{j n:Nat}{i:Int}{α:Type}{pins:List (Addr×Obj)}{σ:St}{H:Hp}{s:Shared}{p:Addr}
noncomputable abbrev TO:=St->Hp->(Option Int->Hp->Prop)->Prop
noncomputable def PO(X:Cx)(e:Option Expr)(t:TO):Prop :=
 ∀(pins:List (Addr×Obj)) (s:Shared) (σ:St) (H:Hp) (Q:Option Int->Hp->Prop),aj X pins σ H s->t σ H Q ->
  wpAny (model X.prog X.w) X.A (evalPart e X.env) (fun u s' => ∃o H',aj X pins σ H' s'/\IsPart u o/\Q o H') X.xe s
noncomputable def Dv:TO:=fun _ H Q=>Q none H
noncomputable def J9(t:TE):TO:=fun σ H Q=>t σ H fun x H1 => ∃i,x=.int i/\Q (some i) H1
section
variable{X:Cx}{e:Expr}{te:TE}{lo hi:Option Expr}{tl th:TO}{pos p2:Pos}
theorem D5:PO X none Dv:=by
 intro pins s σ H Q I h
 rw[evalPart_none]
 exact QL ⟨none,H,I,.none,h⟩
theorem D4(h:PE X e te):PO X (some e) (J9 te):=by
 intro pins s σ H Q I hw
 rw[evalPart_some]
 refine aL (h pins s σ H _ I hw) fun u s1 ⟨x,H1,I1,r1,q1⟩=>?_
 obtain⟨i,rfl,q⟩:=q1
 obtain⟨t,rfl⟩:=r1
 exact⟨some i,H1,I1,.int i t,q⟩
noncomputable def Iw(xs:List V)(lo hi:Option Int):List V:=(xs.drop (HT.sIx xs.length 0 lo)).take (HT.sIx xs.length xs.length hi-HT.sIx xs.length 0 lo)
noncomputable def rLtT(K:W.Frag):R2:=fun x y H Q => ∃a b ns ms,x=.ref a/\y=.ref b/\aZ K H a (ns.map V.int)/\aZ K H b (ms.map V.int)/\Q (.bl (HT.lexLt ns ms)) H
noncomputable def Ko(K:W.Frag):R2:=fun x y H Q => ∃a b xs ys,x=.ref a/\y=.ref b/\aZ K H a xs/\aZ K H b ys/\xs≠[]/\xs.length+ys.length<=sizeLine /\
 (ys=[]->Q (.ref a) H)/\(ys≠[]->∀p,H p=none->Q (.ref p) (aF H p (.tup (xs++ys))))
theorem aD.nil_iff(r:aD xs us):us=[]↔xs=[]:=by
 cases r with
 | nil=>simp
 | cons _ _=>simp
theorem Ej:cY X (binaryOp .Add) (Ko X.K):=by
 intro pins s σ H x y v u Q I rx ry h
 obtain⟨a,b,xs,ys,rfl,rfl,ha,hb,hx,hz,q1,q2⟩:=h
 cases rx
 cases ry
 obtain⟨its,r1,p1,_⟩:=I.tuple ha
 obtain⟨its2,r2,p2,_⟩:=I.tuple hb
 refine HT.cat_tup p1 p2 (fun z=>hx (r1.nil_iff.mp z)) (fun z=>⟨.ref a,H,I,rfl,q1 (r2.nil_iff.mp z)⟩) (fun z=>?_) (by rw[<- r1.length,<- r2.length];exact hz)
 refine⟨.ref s.heap.objs.size,_,I.laid (t':=s.toks) (o:=.tup (xs++ys)) (fun b ob q=>Qw _ q) (QA _) ?_,rfl,q2 (fun w=>z (r2.nil_iff.mpr w)) _ (I.hok.fresh (QA _))⟩
 exact⟨by rw[QH];exact hz,_,r1.append r2,lY.new _ _⟩
end
noncomputable def j7(n:Nat)(i:Int):Option Nat:=if 0<=i then(if i<n then some i.toNat else none)else if -(n:Int)<=i then some (i+n).toNat else none
noncomputable def atI{α:Type}(xs:List α)(i:Int):Option α:=(j7 xs.length i).bind fun j=>xs[j]?
theorem vR(h:j7 n i=some j):seqIndex? i n=some j/\j<n /\ -(n:Int)<=i/\i<n:=by
 unfold j7 at h
 by_cases h0:0<=i
 ·rw[if_pos h0]at h
  by_cases h1:i<n
  ·rw[if_pos h1]at h
   have e:i.toNat=j:=Ry h
   exact⟨by rw[seqIndex_of h0 h1,e],by omega,by omega,h1⟩
  ·rw[if_neg h1]at h;cases h
 ·rw[if_neg h0]at h
  by_cases h1:-(n:Int)<=i
  ·rw[if_pos h1]at h
   have e:(i+n).toNat=j:=Ry h
   exact⟨by rw[seqIndex_neg (by omega) h1,e],by omega,h1,by omega⟩
  ·rw[if_neg h1]at h;cases h
theorem v9{xs:List α}{v:α}(h:atI xs i=some v):∃j,seqIndex? i xs.length=some j/\xs[j]?=some v/\j<xs.length /\ -(xs.length:Int)<=i/\i<xs.length:=by
 unfold atI at h
 cases e:j7 xs.length i with
 | none=>rw[e]at h;cases h
 | some j =>
  rw[e]at h
  obtain⟨h1,h2,h3,h4⟩:=vR e
  exact⟨j,h1,h,h2,h3,h4⟩
theorem v8{xs:List α}{v:α}(h:xs[j]?=some v):atI xs (j:Int)=some v:=by
 have hj:j<xs.length:=(QO.mp h).1
 have e:j7 xs.length (j:Int)=some j:=by
  unfold j7
  rw[if_pos (by omega),if_pos (by omega)];simp
 unfold atI;rw[e];exact h
noncomputable def gj(b:Expr):Prop:=∀o i,subscripted b false o i=operate [o,i] (getItem o i)
noncomputable def Ap(X:Cx)(r:R2):Prop :=
 ∀(value slice:Expr) (pins:List (Addr×Obj)) (s:Shared) (σ:St) (H:Hp) (x y:V) (v u:Value) (Q:VK),aj X pins σ H s->aO x v->aO y u->r x y H Q ->
  subscripted slice false v u=operate [v,u] (getItem v u)->wpAny (model X.prog X.w) X.A (subscriptTail value slice v u) (EP X pins σ Q) X.xe s
noncomputable def wf(X:Cx)(id:String)(r:V->List V->Hp->VK->Prop):Prop :=
 ∀(pins:List (Addr×Obj)) (s:Shared) (σ:St) (H:Hp) (x:V) (xs:List V) (v:Value) (us:List Value) (Q:VK),aj X pins σ H s->aO x v->aD xs us->r x xs H Q ->
  wpAny (model X.prog X.w) X.A (call (.builtin id) (v::us)) (EP X pins σ Q) X.xe s
section
variable{X:Cx}{a b:Expr}{ta tb:TE}{pos:Pos}
theorem oO{r:R2}(hr:Ap X r)(ha:PE X a ta)(hb:PE X b tb)(hs:gj b):PE X (.Subscript a b pos) (Gf r ta tb):=by
 intro pins s σ H Q I h
 exact Subscript_ (Jo ha hb I h fun v u s2 x y H2 I2 rx ry q=>hr a b pins s2 σ H2 x y v u Q I2 rx ry q (hs _ _))
noncomputable def MH(K:W.Frag):R2:=fun x y H Q => ∃p xs i v,x=.ref p/\y=.int i/\ci K H p xs/\atI xs i=some v/\Q v H
noncomputable def MG(K:W.Frag):R2:=fun x y H Q => ∃p xs i v,x=.ref p/\y=.int i/\aZ K H p xs/\atI xs i=some v/\Q v H
theorem EN:Ap X (MH X.K):=by
 intro value slice pins s σ H x y v u Q I rx ry h hs
 obtain⟨p,xs,i,z,rfl,rfl,hq,he,q⟩:=h
 cases rx
 obtain⟨t,rfl⟩:=ry
 obtain⟨its,r,pl,hz⟩:=I.list hq
 obtain⟨j,h1,h2,h3,h4,h5⟩:=v9 he
 obtain⟨w,ew,rw'⟩:=r.get h2
 have hl:=r.length
 have hn:=oZ
 have fin:EP X pins σ Q w s:=⟨z,H,I,rw',q⟩
 by_cases h0:0<=i
 ·have hj:i.toNat=j:=by
   rw[seqIndex_of h0 h5]at h1
   exact Ry h1
  exact item_listR pl.isList h0 (by omega) (by rw[hj];simpa using ew) fin hs
 ·have hj:(i+(its.toArray.size:Int)).toNat=j:=by
   rw[seqIndex_neg (by omega) h4]at h1
   rw[QV,<- hl]
   exact Ry h1
  exact subscriptTail_builtinR (x:=w) pl.isList.typeIs slot_list_getitem.lookup
   (wpAny_getItem_list_neg (Q:=fun r s'=>r=w/\EP X pins σ Q r s') pl.isList (by omega) (by rw[QV]<;>omega) (by omega) (by rw[hj];simpa using ew) ⟨rfl,fin⟩) hs
theorem HB:Ap X (MG X.K):=by
 intro value slice pins s σ H x y v u Q I rx ry h hs
 obtain⟨p,xs,i,z,rfl,rfl,hq,he,q⟩:=h
 cases rx
 obtain⟨t,rfl⟩:=ry
 obtain⟨its,r,pl,hz⟩:=I.tuple hq
 obtain⟨j,h1,h2,h3,h4,h5⟩:=v9 he
 obtain⟨w,ew,rw'⟩:=r.get h2
 have hl:=r.length
 have hn:=oZ
 have fin:EP X pins σ Q w s:=⟨z,H,I,rw',q⟩
 exact subscriptTail_builtinR (x:=w) pl.typeIs slot_tuple_getitem.lookup
  (getItem_tuple (j:=j) (Q:=fun r s'=>r=w/\EP X pins σ Q r s') pl (by omega) (by omega) (by rw[QV,<- hl];exact h1) (by simpa using ew) ⟨rfl,fin⟩) hs
theorem wP(its:List Value)(n j:Nat)(u:Value):Obj.mapSeq (·.setIfInBounds j u) { cls:=.type "list", data:=.seq its.toArray n } = { cls:=.type "list", data:=.seq (its.set j u).toArray n }:=by
 simp[Obj.mapSeq]
theorem aj.lst(I:aj X pins σ H s)(h:H p=some (.lst xs)) :
  ∃(its:List Value) (n:Nat),aD xs its/\s.heap.get? p=some { cls:=.type "list", data:=.seq its.toArray n }/\xs.length<=sizeLine:=by
 obtain⟨z,its,n,r,e⟩:=I.hok p _ h
 exact⟨its,n,r,e,z⟩
theorem aj.lstUpd{ys:List V}{n':Nat}{f:Obj->Obj}(I:aj X pins σ H s)(h:H p=some (.lst xs))
  (ho:s.heap.get? p=some { cls:=.type "list", data:=.seq its.toArray n }) (hf:f { cls:=.type "list", data:=.seq its.toArray n } = { cls:=.type "list", data:=.seq its'.toArray n' }) (r:aD ys its') (hz:ys.length<=sizeLine) (t:Nat) :
  aj X pins σ (aF H p (.lst ys)) { s with heap:=s.heap.update p f,toks:=t }:=by
 have e:(s.heap.update p f).get? p=some { cls:=.type "list", data:=.seq its'.toArray n' }:=by
  rw[Heap.get?_update_self f ho (by rw[hf]<;>rfl),hf]
 refine I.write (x:=p) (e:=p) (by rw[h];trivial) (.inl rfl) (fun b u hb q=>(Heap.get?_update_other _ _ (RT hb)).trans q) ⟨_,e⟩ ?_
 exact⟨hz,its',n',r,e⟩
noncomputable def Km:V->V->V->Hp->(Hp->Prop)->Prop:=fun o i v H Q => ∃p xs k j,o=.ref p/\i=.int k/\H p=some (.lst xs)/\j7 xs.length k=some j/\Q (aF H p (.lst (xs.set j v)))
theorem AL:xu X Km:=by
 intro pins s σ H o i v ov iv u Q I ro ri rv h
 obtain⟨p,xs,k,j,rfl,rfl,hp,hj,q⟩:=h
 cases ro
 obtain⟨t,rfl⟩:=ri
 obtain⟨its,n,r,ho,hz⟩:=I.lst hp
 obtain⟨h1,h2,h3,h4⟩:=vR hj
 have hl:=r.length
 have hn:=oZ
 have I':aj X pins σ (aF H p (.lst (xs.set j v))) { s with heap:=s.heap.update p (Obj.mapSeq (·.setIfInBounds j u)) } :=
  I.lstUpd hp ho (wP its n j u) (r.set rv j) (by rw[Rt];exact hz) s.toks
 by_cases h0:0<=k
 ·have hk:k.toNat=j:=by
   rw[seqIndex_of h0 h4]at h1
   exact Ry h1
  exact W.ki_setAt ho h0 (by omega) (by rw[QV,<- hl];exact h4) (by rw[hk];exact⟨_,I',q⟩)
 ·have hk:(k+(its.toArray.size:Int)).toNat=j:=by
   rw[seqIndex_neg (by omega) h3]at h1
   rw[QV,<- hl]
   exact Ry h1
  exact W.ki_setBack ho (by omega) (by rw[QV,<- hl];exact h3) (by omega) (by rw[hk];exact⟨_,I',q⟩)
theorem lB:e6 X (.builtin "len") (fun xs H Q => ∃p ys,xs=[.ref p]/\(ci X.K H p ys\/aZ X.K H p ys)/\Q (.int ys.length) H):=by
 intro pins s σ H xs us Q I r h
 obtain⟨p,ys,rfl,hq,q⟩:=h
 obtain⟨u,rfl,rx⟩:=iC r
 cases rx
 have hn:=oZ
 rcases hq with hq|hq
 ·obtain⟨its,r',pl,hz⟩:=I.list hq
  have hlen:=r'.length
  exact Calls.call_len_list pl.isList (by simp only[QV]<;>omega) ⟨.int ys.length,H,I.tok _,⟨s.toks+1,by rw[QV,hlen]⟩,q⟩
 ·obtain⟨its,r',pl,hz⟩:=I.tuple hq
  have hlen:=r'.length
  exact len_tuple pl (by simp only[QV]<;>omega) ⟨.int ys.length,H,I.tok _,⟨s.toks+1,by rw[QV,hlen]⟩,q⟩
theorem j8:e6 X (.type "tuple") (fun xs H Q => ∃p ys,xs=[.ref p]/\((ci X.K H p ys/\∀l,H l=none->Q (.ref l) (aF H l (.tup ys)))\/(aZ X.K H p ys/\Q (.ref p) H))):=by
 intro pins s σ H xs us Q I r h
 obtain⟨p,ys,rfl,h⟩:=h
 obtain⟨u,rfl,rx⟩:=iC r
 cases rx
 rcases h with⟨hq,q⟩|⟨hq,q⟩
 ·obtain⟨its,r',pl,hz⟩:=I.list hq
  have hlen:=r'.length
  refine call_tuple_list pl.isList (fun h' kp=>?_) (by simp only[QV]<;>omega)
  have I1:aj X pins σ H { s with heap:=h' }:=I.kept (t':=s.toks) kp
  have I2:aj X pins σ (aF H h'.objs.size (.tup ys)) { s with heap:=h'.push { cls:=.type "tuple", data:=.seq its.toArray } } :=
   I1.laid (t':=s.toks) (fun b o e=>Qw _ e) (QA _) (show aV X.prog X.w _ _ _ (.tup ys)from⟨hz,its,r',lY.new _ _⟩)
  exact⟨.ref h'.objs.size,_,I2,rfl,q _ (I1.hok.fresh (QA _))⟩
 ·obtain⟨its,r',pl,hz⟩:=I.tuple hq
  exact call_tuple_same pl ⟨.ref p,H,I,rfl,q⟩
noncomputable def FS(K:W.Frag)(T:String)(x:V)(H:Hp):Prop:=match x with
  | .str _=>T = "str"
  | .int _=>T = "int"
  | .ref p=>(T = "list" /\ ∃xs,ci K H p xs)\/(T = "tuple" /\ ∃xs,aZ K H p xs) \/
      (T = "dict" /\ ((∃kvs,H p=some (.dK kvs))\/∃kvs,H p=some (.dT kvs)))\/(T = "set" /\ ∃S n,H p=some (.set S n))
  | _=>False
theorem xE{T:String}{x:V}{v:Value}(I:aj X pins σ H s)(r:aO x v)(ty:FS X.K T x H) :
  s.TypeIs v T/\∀a,v=.ref a->∃ob,s.heap.get? a=some ob/\ob.dict=none:=by
 cases x with
 | str z =>
  obtain⟨t,rfl⟩:=r
  cases (show T = "str" from ty)
  exact⟨typeIs_str s z t,fun _ e=>nomatch e⟩
 | int i =>
  obtain⟨t,rfl⟩:=r
  cases (show T = "int" from ty)
  exact⟨typeIs_int s i t,fun _ e=>nomatch e⟩
 | ref p =>
  cases r
  rcases ty with⟨rfl,xs,hq⟩|⟨rfl,xs,hk⟩|⟨rfl,hk⟩|⟨rfl,S,n,hk⟩
  ·obtain⟨its,_,pl,_⟩:=I.list hq
   refine⟨pl.isList.typeIs,fun a e=>?_⟩
   cases e
   obtain⟨o,n,e,c,hd,_⟩:=pl
   exact⟨o,e,hd⟩
  ·obtain⟨o,e0,hc,hd⟩:=I.tupN hk
   refine⟨⟨o,e0,hc⟩,fun a e=>?_⟩
   cases e
   exact⟨o,e0,hd⟩
  ·have z:∃o,s.heap.get? p=some o/\o.ExactDict:=by
    rcases hk with⟨kvs,hk⟩|⟨kvs,hk⟩
    ·obtain⟨_,_,_,_,o,_,_,e,ex,_⟩:=I.hok p _ hk
     exact⟨o,e,ex⟩
    ·obtain⟨_,_,_,_,o,_,_,e,ex,_⟩:=I.hok p _ hk
     exact⟨o,e,ex⟩
   obtain⟨o,e,ex⟩:=z
   refine⟨⟨o,e,ex.1⟩,fun a e2=>?_⟩
   cases e2
   exact⟨o,e,ex.2.1⟩
  ·obtain⟨o,_,_,_,e,ex,_⟩:=I.hok p _ hk
   refine⟨⟨o,e,ex.1⟩,fun a e2=>?_⟩
   cases e2
   exact⟨o,e,ex.2.1⟩
 | _=>exact False.elim ty
noncomputable def LK(K:W.Frag)(T:String)(r:V->List V->Hp->VK->Prop)(to:TE):TE:=fun σ H Q=>to σ H fun x H1=>FS K T x H1/\r x [] H1 Q
noncomputable def Qc(K:W.Frag)(T:String)(r:V->List V->Hp->VK->Prop)(to:TE)(t:TA):TE:=fun σ H Q=>to σ H fun x H1=>FS K T x H1/\t σ H1 fun xs H2=>r x xs H2 Q
variable{o e:Expr}{es:List Expr}{to:TE}{t:TA}{name:Str}{apos cpos:Pos}{T id:String}{r:V->List V->Hp->VK->Prop}
theorem GW(pa:PlainAttrs T)(slot:Slot T name id)(hty:typeOf (.builtin id)=pure (.type "method_descriptor"))(hm:wf X id r)(ho:PE X o to)
  (hbase:attributeBase o name X.env (eval o X.env)=eval o X.env:=by rfl) (hline:(apos.endLine==cpos.line)=true:=by rfl):PE X (.Call (.Attribute o name apos) [] [] cpos) (LK X.K T r to):=by
 intro pins s σ H Q I h
 refine wpAny_Call_method0_late hbase hline (aL (ho pins s σ H _ I h) fun v s1 ⟨x,H1,I1,r1,ty,q1⟩=>?_)
 obtain⟨h1,h2⟩:=xE I1 r1 ty
 exact⟨T,id,pa,slot,hty,h1,h2,Calls.callWith_builtin rfl (PySem.evalArgs_none (hm pins s1 σ H1 x [] v [] Q I1 r1 .nil q1))⟩
theorem rj(pa:PlainAttrs T)(slot:Slot T name id)(hty:typeOf (.builtin id)=pure (.type "method_descriptor"))(hm:wf X id r)(ho:PE X o to)(ha:PA X (e::es) t)
  (hbase:attributeBase o name X.env (eval o X.env)=eval o X.env:=by rfl)
  (hfew:((backTo cpos (starEach (e::es) X.env)).all (fun x => !x.1)&&(backToKw cpos (keywordEach [] X.env)).all (fun x=>x.1.isSome)
   && decide ((e::es).length+([]:List Keyword).length+(if ([]:List Keyword).isEmpty then 0 else 1)<30))=true:=by rfl)
  (hline:(apos.endLine==cpos.line)=true:=by rfl) (hs:starEach (e::es) X.env=(false,eval e X.env)::starEach es X.env:=by rfl) (hplain:(backTo cpos (starEach es X.env)).any (·.1)=false:=by rfl) :
  PE X (.Call (.Attribute o name apos) (e::es) [] cpos) (Qc X.K T r to t):=by
 intro pins s σ H Q I h
 refine wpAny_Call_method_late hbase hfew hline rfl (aL (ho pins s σ H _ I h) fun v s1 ⟨x,H1,I1,r1,ty,q1⟩=>?_)
 obtain⟨h1,h2⟩:=xE I1 r1 ty
 refine⟨T,id,pa,slot,hty,h1,h2,?_⟩
 have hA:=ha cpos pins s1 σ H1 _ I1 q1
 rw[hs]at hA⊢
 refine Calls.callWith_builtin (by show(false || (backTo cpos (starEach es X.env)).any (·.1))=false;rw[hplain]<;>rfl) (Calls.evalArgs_plain ?_)
 exact aL hA fun us s2 ⟨vs,H2,I2,r2,q2⟩=>hm pins s2 σ H2 x vs v us Q I2 r1 r2 q2
/- xs.append(e),list.index on a module's tuple .. are wf facts of 06m -/
end
noncomputable def JJ(X:Cx)(id:String)(r:V->List V->Hp->VK->Prop):Prop :=
 ∀(pins:List (Addr×Obj)) (s:Shared) (σ:St) (H:Hp) (x:V) (xs:List V) (v:Value) (us:List Value) (Q:VK),aj X pins σ H s->aO x v->aD xs us->r x xs H Q ->
  wpAny (model X.prog X.w) X.A (call (.builtin id) (v::us)) (EP X pins σ Q) X.xe s
theorem aD.one:∀{x:V} {us:List Value},aD [x] us->∃u,us=[u]/\aO x u
 | _,_,.cons r .nil=>⟨_,rfl,r⟩
theorem aD.two:∀{x y:V} {us:List Value},aD [x,y] us->∃u v,us=[u,v]/\aO x u/\aO y v
 | _,_,_,.cons r (.cons q .nil)=>⟨_,_,rfl,r,q⟩
theorem aD.zero:∀{us:List Value},aD [] us->us=[]
 | _,.nil=>rfl
theorem aD.reverse(h:aD xs us):aD xs.reverse us.reverse:=by
 induction h with
 | nil=>exact .nil
 | cons r t ih=>rw[List.reverse_cons,List.reverse_cons];exact aD.append ih (.cons r .nil)
section
variable{X:Cx}{l b:Addr}{ys zs:List V}
theorem aj.lset{f:Array Value->Array Value}{t':Nat}(I:aj X pins σ H s)(hH:H l=some (.lst xs))
  (e:s.heap.get? l=some { cls:=.type "list", data:=.seq its.toArray n }) (hf:f its.toArray=its'.toArray) (hv:aD ys its') (hz:ys.length<=sizeLine) :
  aj X pins σ (aF H l (.lst ys)) { s with heap:=s.heap.update l (Obj.mapSeq f),toks:=t' }:=by
 have q:=PySem.IsL.update e f
 rw[hf]at q
 refine I.write (x:=l) (e:=l) (by rw[hH];exact trivial) (.inl rfl) (fun b' u hb hu=>(Heap.get?_update_other s.heap (Obj.mapSeq f) (RT hb)).trans hu) ⟨_,q⟩ ?_
 exact⟨hz,its',_,hv,q⟩
theorem aj.lnew{t':Nat}(I:aj X pins σ H s)(hv:aD ys its)(hz:ys.length<=sizeLine) :
  aj X pins σ (aF H s.heap.objs.size (.lst ys)) { s with heap:=s.heap.push { cls:=.type "list", data:=.seq its.toArray },toks:=t' } :=
 I.laid (fun _ _ q=>Qw _ q) (QA _) ⟨hz,its,0,hv,QJ _ rfl⟩
theorem aj.fresh(I:aj X pins σ H s):H s.heap.objs.size=none:=I.hok.fresh (QA _)
theorem aj.lstM(I:aj X pins σ H s)(hH:H l=some (.lst xs)):xs.length<=sizeLine/\∃(its:List Value) (n:Nat),aD xs its/\xs.length=its.length/\s.heap.get? l=some { cls:=.type "list", data:=.seq its.toArray n }:=by
 obtain⟨z,its,n,r,e⟩:=I.hok l _ hH
 exact⟨z,its,n,r,r.length,e⟩
theorem Ba(h:n<=sizeLine):Builtin.List.listTooLong n=false:=by
 unfold Builtin.List.listTooLong
 exact Rr (by omega)
end
section
variable{X:Cx}
noncomputable def DR:V->List V->Hp->VK->Prop:=fun x vs H Q => ∃l xs y,x=.ref l/\vs=[y]/\H l=some (.lst xs)/\xs.length<sizeLine/\Q .non (aF H l (.lst (xs++[y])))
theorem iK:JJ X "list.append" DR:=by
 intro pins s σ H x vs v us Q I rx rv h
 obtain⟨l,xs,y,rfl,rfl,hH,hz,q⟩:=h
 cases rx
 obtain⟨u,rfl,ru⟩:=rv.one
 obtain⟨z,its,n,r,hl,e⟩:=I.lstM hH
 refine call_meets F.slot_list_append ⟨_,e,rfl⟩ F.entry_list_append (F.args_list_append_2 _ _) (PySem.list_append l its.toArray n u (by rw[QV];omega)) ⟨e,?_⟩
 refine⟨.non,_,I.lset (its':=its++[u]) hH e (by simp) (r.append (.cons ru .nil)) ?_,rfl,q⟩
 rw[QH,List.length_singleton]
 omega
noncomputable def DQ:V->List V->Hp->VK->Prop:=fun x vs H Q => ∃l b xs zs,x=.ref l/\vs=[.ref b]/\H l=some (.lst xs)/\H b=some (.lst zs)/\xs.length+zs.length<=sizeLine/\Q .non (aF H l (.lst (xs++zs)))
theorem yp:JJ X "list.extend" DQ:=by
 intro pins s σ H x vs v us Q I rx rv h
 obtain⟨l,b,xs,zs,rfl,rfl,hH,hB,hz,q⟩:=h
 cases rx
 obtain⟨u,rfl,ru⟩:=rv.one
 cases ru
 obtain⟨z,its,n,r,hl,e⟩:=I.lstM hH
 obtain⟨z2,its2,n2,r2,hl2,e2⟩:=I.lstM hB
 have hsz:its.toArray.size+its2.toArray.size<=sizeLine:=by rw[QV,QV];omega
 have hlong:¬ (!its.toArray.isEmpty&&Builtin.List.listTooLong (its.toArray.size+its2.toArray.size))=true:=by
  rw[Ba hsz,Bool.and_false]
  exact QT
 refine call_meets F.slot_list_extend ⟨_,e,rfl⟩ F.entry_list_extend (F.args_list_extend_2 _ _)
  (AutoSeq1.list_extend_list_list_0 l its.toArray n b its2.toArray n2 hlong (by rw[QV];omega) (by omega)) ⟨e,e2,?_⟩
 refine⟨.non,_,I.lset (its':=its++its2) hH e (by simp) (r.append r2) ?_,rfl,q⟩
 rw[QH]
 omega
end
section
variable{prog:Program}{w:World}{A:Around}{E:Value->Shared->Prop}
set_option maxRecDepth 100000 in
end
section
variable{X:Cx}
end
end L2
namespace Att
open PySem PySem.W PySem.Calls PyProof.Rows
variable{P:Params}{h:Heap}{l:OpenLaw}{n:Nat}
theorem o7:∀(ns:List Int) (vs:List Value),WellAll P h vs (ns.map WData.int)->IntsAre vs ns:=by
 intro ns
 induction ns with
 | nil =>
  intro vs w
  rw[SK]at w
  cases w
  exact .nil
 | cons n ns ih =>
  intro vs w
  rw[QU]at w
  cases w with
  | cons a b =>
   cases a
   exact .cons _ _ (ih _ b)
theorem xX(hn:l.most=some n){args:List WData}{vals:List Value}
  (hpre:l.row.toRowW.claim.pre args=true) (hwl:WellAll P h vals args) :
  ∃a vs ns,vals=[Value.ref a]/\args=[WData.list (ns.map WData.int)]/\h.get? a=some { cls:=.type "list", data:=.seq vs.toArray }/\IntsAre vs ns/\ns.length<=n:=by
 have hsh:WShape.hasAll [] args [.list .int]=true:=(pre_splitW hpre).1
 have hc:l.pre.holds [] { args:=args }=true:=(pre_splitW hpre).2
 obtain⟨d,r,rfl,h1,h2⟩:=hasAllW_cons hsh
 obtain rfl:=hasAllW_nil h2
 obtain⟨xs,rfl,h3⟩:=hasW_list h1
 obtain⟨ns,rfl⟩:=items_int h3
 have hlen:ns.length<=n:=by
  unfold OpenLaw.pre at hc
  have h4:(WTm.not (.lt (.lit (.int (n:Int))) (.len (.arg 0)))).holds [] { args:=[.list (ns.map .int)] }=true:=by
   have h4:=(holds_andW hc).1
   rw[hn]at h4
   exact h4
  have h5:=condW_of h4 (w_not (w_lt w_lit (w_len_list (w_arg rfl))))
  rw[QC]at h5
  refine Nat.le_of_not_lt fun q=>?_
  have q':(n:Int)<((ns.length:Nat):Int):=by omega
  first
   | (rw[RX q']at h5;exact absurd h5 (by decide))
   | (simp at h5;omega)
 cases hwl with
 | cons w1 w2 =>
  cases w2
  cases w1 with
  | list ho hall=>exact⟨_,_,ns,rfl,rfl,ho,o7 ns _ hall,hlen⟩
theorem yc(l:OpenLaw)(args:List WData):l.row.toRowW.claim.post args (.bool true) args=true :=
 postW_of (r:=l.row.toRowW) (X:=(true==true))
  (show WShape.has [] (.bool true) .bool=true by first|rfl|decide|simp[WShape.has,WShape.arms,WShape.armsAll])
  (show(WTm.eq .res (.lit (.bool true))).value [] { args:=args,res:=some (.bool true),after:=args }=some (.bool (true==true))from w_eq_bool (w_res rfl) w_lit) rfl
theorem attach_call{q:Program}{loose:List Str}{XP:(Str->Option Value)->Heap->Prop}{YP:World->Heap->Prop}{d:DefRec}
  (hn:l.most=some n) (hdf:d.params.defaults=[])
  (call:∀(w:World) (s₀ s₁:Shared) (mg mb:Str->Option Value) (fa:Addr) (o:Obj) (pm cd doc:Value) (a:Addr) (vs:List Value) (ns:List Int),
   Ground q loose [] XP w s₀ mg mb s₁.heap->YP w s₁.heap ->
   s₁.heap.get? fa=some o->o.data=.func (docDef d.name d.params d.body d.scope pm cd doc)->s₁.heap.CodeRec cd d.name->mg d.name=some (.ref fa) ->
   s₁.heap.get? a=some { cls:=.type "list", data:=.seq vs.toArray }->IntsAre vs ns->ns.length<=n->s₁.gens = #[] ->
   codeAny (model l.prog w) callerA (.call (.ref fa) ⟨[.ref a],[]⟩) (fun r s'=>r=.ok (.ret (.bool true))/\OldK s₁.heap s'.heap/\s'.os=s₁.os/\AllBare s'.gens) s₁) :
  WalkO q loose XP YP l.row.toRowW d [] (fun f vs=>PySem.call f vs):=by
 intro w s₀ s₁ mg mb G Y fa o pm cd doc dV kV ho hd hcd hD hmg hg args vals as hpre hlay hrd hwl hlo
 obtain rfl:dV=.none:=Dflts.none hD hdf
 obtain rfl:kV=.none:=Dflts.noKw hD
 obtain⟨a,vs,ns,rfl,rfl,hobj,hints,hlen⟩:=xX hn hpre hwl
 refine enter_call (codeAny_mono (call w s₀ s₁ mg mb fa o pm cd doc a vs ns G Y ho (fd_plain hd) hcd hmg hobj hints hlen hg) fun r s' hq=>?_)
 obtain⟨rfl,h2,h3,h4⟩:=hq
 exact⟨.inl ⟨.bool true,.bool true,[],rfl,fun _=>rfl,.bool true,yc l _,fun _=>⟨List.Pairwise.nil,fun _ hm=>(nomatch hm)⟩⟩,h2,h3,h4⟩
section
variable{prog:Program}{w:World}{A:Around}{E:Value->Shared->Prop}{s:Shared}{K:Frag}
end
end Att
namespace L2
open PySem PySem.Spec PyProof.Rows
variable{k:Nat}{x:Str}
theorem qF:∀{vs:List Value} {ns:List Int},IntsAre vs ns->aD (ns.map V.int) vs
 | _,_,.nil=>.nil
 | _,_,.cons n t h=>.cons ⟨t,rfl⟩ (qF h)
noncomputable def xw(H:Hp):Prop:=∀b,H b=none\/∃o xs,H b=some (.frz o (.lst xs))
theorem Bo{P:Program}{w:World}{K:W.Frag}{mg mb:Str->Option Value}{CX:ka}{fa a:Addr}{fd:FuncData}{sp:Sp}{s₁:Shared}{vs:List Value}{ns:List Int}
    (KX:K.In s₁.heap) (hns:s₁.heap.Ns mainGlobals mg) (hb:s₁.heap.Ns builtinsNs mb) (hbb:∀x:Str,x ≠ "__name__" -> mb x=bootBuiltins x) (hlim:s₁.heap.NoLimit) (hg:s₁.gens = #[])
    (ha:s₁.heap.get? a=some { cls:=.type "list", data:=.seq vs.toArray }) (hi:IntsAre vs ns) (hl:ns.length<=sizeLine) (hr:bZ k callerA)
    (F:∀base:Heap,K.In base->base.Ns mainGlobals mg->cQ P w K mg base CX k fa fd [x] sp) (hbind:∀(s:Shared) (u:Value),BindsTo s fd ⟨[u],[]⟩ [(x,u)])
    (hsp:∀H:Hp,xw H->ci K H a (ns.map V.int)->sp [.ref a] H (fun v _=>v=.bl true) fun _ _ _=>False)
    (hCX:∀H e s',CX [] H s₁ (fun _ _ _=>False) e s'->False) :
    codeAny (model P w) callerA (.call (.ref fa) ⟨[.ref a],[]⟩) (fun r s'=>r=.ok (.ret (.bool true))/\OldK s₁.heap s'.heap/\s'.os=s₁.os/\AllBare s'.gens) s₁:=by
  have rv:=qF hi
  have lenV:=hi.length
  have core:∀H:Hp,xw H->ci K H a (ns.map V.int)->dM P w H s₁.heap->(∀b,H b≠none->b=a)->(H a≠none->K.lookup a=none) ->
      codeAny (model P w) callerA (.call (.ref fa) ⟨[.ref a],[]⟩) (fun r s'=>r=.ok (.ret (.bool true))/\OldK s₁.heap s'.heap/\s'.os=s₁.os/\AllBare s'.gens) s₁:=by
    intro H hO hS hok hA hK
    have qu:∀{b:Addr} {o:Obj},s₁.heap.get? b=some o->H b=none->(jN s₁.heap H).get? b=some o:=fun e n=>Bs e n
    have noA:∀{b:Addr} {o:Obj} {es:Array DictEntry} {ep:Nat},s₁.heap.get? b=some o->o.data=.dict es ep->H b=none:=fun {b o es ep} e d=>by
      cases q:H b with
      | none=>rfl
      | some u =>
        have e':b=a:=hA b (by rw[q];simp)
        subst e'
        rw[ha]at e;cases e
        have d':Data.seq vs.toArray _=Data.dict es ep:=d
        cases d'
    have nsK:∀{b:Addr} {m:Str->Option Value},s₁.heap.Ns b m->(jN s₁.heap H).Ns b m:=fun {b m} ⟨o,es,ep,e,d,r⟩=>⟨o,es,ep,qu e (noA e d),d,r⟩
    have hKb:K.In (jN s₁.heap H):=fun b o e=>qu (KX b o e) (by
      cases q:H b with
      | none=>rfl
      | some u =>
        have e':b=a:=hA b (by rw[q];simp)
        subst e'
        rw[hK (by rw[q];simp)]at e;cases e)
    have hM:Mod K mg (jN s₁.heap H):=⟨hKb,nsK hns,⟨mb,nsK hb,hbb⟩,let ⟨mc,h1,h2⟩:=hlim;⟨mc,nsK h1,h2⟩⟩
    have e0:iZ P w K mg (jN s₁.heap H) callerA [] s₁ H:=⟨rfl,hM,fun b o e=>Eo e,Nat.le_of_eq (y8 _ _),trivial,fun b hb=>absurd (show b∈([]:List Addr)from hb) (by simp),hok,.of_eq hg⟩
    refine codeAny_mono ((F _ hKb (nsK hns)).run callerA [] s₁ H ⟨[.ref a],[]⟩ [.ref a] [.ref a] _ _ hr e0 (hbind s₁ (.ref a)) (.cons rfl .nil) (hsp H hO hS)) fun r s' h=>?_
    cases r with
    | error e=>exact(hCX H e s' h).elim
    | ok fl =>
      cases fl with
      | next=>exact False.elim h
      | brk=>exact False.elim h
      | cont=>exact False.elim h
      | ret u =>
        obtain⟨v,H',os,bare,un,hok',r',q⟩:=h
        have q':v=.bl true:=q
        subst q'
        obtain rfl:u=Value.bool true:=r'
        refine⟨rfl,OldK.of_keep fun b o e=>?_,os,bare⟩
        cases q:H b with
        | none=>exact un.keep b o e q (by intro z;exact absurd (show b∈([]:List Addr)from z) (by simp)) (by simp)
        | some u =>
          rcases hO b with z|⟨ob,xs,z⟩
          . rw[q]at z;cases z
          . have z2:=un.frzs b ob _ z
            obtain⟨e1,_⟩:=hok b _ z
            obtain⟨e2,_⟩:=hok' b _ z2
            rw[e]at e1;cases e1
            exact e2
  cases hk:K.lookup a with
  | some o =>
    have e:=KX a o hk
    rw[ha]at e
    cases e
    refine core (fun _=>none) (fun _=>.inl rfl) (.inr ⟨_,vs.toArray,_,hk,rfl,rfl,rfl,by rw[QV,lenV];exact hl,by simpa using rv⟩) (fun b u z=>by have z':(none:Option HO)=some u:=z;cases z') (fun b z=>absurd rfl z) fun z=>absurd rfl z
  | none =>
    refine core (fun b=>if b=a then some (.frz { cls:=.type "list", data:=.seq vs.toArray } (.lst (ns.map V.int)))else none) (fun b=>?_) (.inl (.inr ⟨{ cls:=.type "list", data:=.seq vs.toArray },if_pos rfl⟩)) (fun b u z=>?_) (fun b z=>?_) fun _=>hk
    . by_cases hb:b=a
      . exact .inr ⟨_,_,if_pos hb⟩
      . exact .inl (if_neg hb)
    . by_cases hb:b=a
      . have z':=(if_pos hb).symm.trans z
        cases z'
        subst hb
        exact⟨ha,by rw[QC];exact hl,vs,_,rv,ha⟩
      . have z':=(if_neg hb).symm.trans z
        cases z'
    . by_cases hb:b=a
      . exact hb
      . exact absurd (if_neg hb) z
noncomputable abbrev KOf{K:W.Frag}{h:Heap}(_:K.In h):W.Frag:=K
theorem walk_of{l:W.OpenLaw}{n:Nat}{q:Program}{loose:List Str}{XP:(Str->Option Value)->Heap->Prop}{YP:World->Heap->Prop}{d:DefRec}{K:Params->W.Frag}{CX:World->ka}{sp:World->Sp}
  (hn:l.most=some n) (hn2:n<=sizeLine) (hdf:d.params.defaults=[]) (hr:bZ k callerA)
  (hY:∀(w:World) (h:Heap),YP w h->(K w.params).In h)
  (F:∀(w:World) (mg:Str->Option Value) (fa:Addr) (h:Heap),(K w.params).In h->h.Ns mainGlobals mg->mg d.name=some (.ref fa) ->
   ∃fd:FuncData,(∀(s:Shared) (u:Value),BindsTo s fd ⟨[u],[]⟩ [(x,u)]) /\
    ∀base:Heap,(K w.params).In base->base.Ns mainGlobals mg->cQ l.prog w (K w.params) mg base (CX w) k fa fd [x] (sp w))
  (hsp:∀(w:World) (H:Hp) (a:Addr) (ns:List Int),ns.length<=n->xw H->ci (K w.params) H a (ns.map V.int)->sp w [.ref a] H (fun v _=>v=.bl true) fun _ _ _=>False)
  (hCX:∀(w:World) (H:Hp) (s:Shared) (e:Value) (s':Shared),CX w [] H s (fun _ _ _=>False) e s'->False) :
  W.WalkO q loose XP YP l.row.toRowW d [] (fun f vs=>PySem.call f vs):=by
 refine Att.attach_call hn hdf fun w s₀ s₁ mg mb fa o pm cd doc a vs ns G Y ho hd hcd hmg hobj hints hlen hg=>?_
 have KX:=hY w _ Y
 obtain⟨fd,hb,hF⟩:=F w mg fa _ KX G.T.g hmg
 exact Bo KX G.T.g G.T.b G.T.builtins G.T.nolimit hg hobj hints (QR hlen hn2) hr hF hb (fun H hO hS=>hsp w H a ns hlen hO hS) fun H e s'=>hCX w H s₁ e s'
end L2
/- THE LAST THEOREM (shape;LID,My.* are yours):
   My.Adr: a structure of the addresses that your layer names (classes,functions);My.Txt K t: a structure (Prop) of the equations over K;
   My.txt_mk:{K} {implicit addresses ..} (e1:nsIn K mainGlobals "law" = some (some (.ref f))) (e2:K.lookup f=some ⟨oc,od,.func (fnOf "law" "law" params body scope dV kV doc pm an cdv ct),sl⟩) (e3:codeIn K cdv "law" = true) ..:∃t,My.Txt K t
set_option maxRecDepth 100000 in
set_option maxHeartbeats 0 in
theorem PySem.Challenge.cw_LID_holds : PySem.Challenge.rw_LID.Holds := by
 w_on;o_law;k_head;(case hw=>w_witness2)
 k_fill
 refine L2.walk_of (l:=PySem.Challenge.rw_LID) (n:=63) (k:=40) (x := "script") (CX:=fun w=>..) (sp:=fun _=>My.sp_law) rfl (by decide) rfl ⟨rfl,by decide,by decide⟩ (fun w h Y=>PySem.W.kIn_of Y) ?F ?S ?C
 case F =>
  intro w mg fa h KX G hmg
  have T:∃t,My.Txt (L2.KOf KX) t:=by
   dsimp only[L2.KOf]                          -- K must stand as «<heap const> w.params» for k_is
   refine' My.txt_mk ?e1 ?e2 ?e3 ..
   (case e1=>PySem.W.k_is)                    -- in the order: a name->its address->its object->its parts
   (case e2=>PySem.W.k_is)
   ..
  obtain⟨t,T⟩:=T
  have e0:=hmg.symm.trans (PySem.W.mg_of KX G T.law)
  cases e0                                       -- fa is the law's own address
  exact⟨_,fun s u=>.of_eq rfl,fun base kb nb=>My.law_fn T kb nb⟩     -- if «.of_eq rfl» comes too early: refine' ⟨_,?b,fun base kb nb=>My.law_fn T kb nb⟩;exact fun s u=>.of_eq rfl
 case S=>exact fun w H a ns hl hO hS=>..
 case C=>exact ..
(the tactic k_is has no namespace: write k_is) -/
namespace L2
open PySem PySem.Spec PyProof.Rows
variable{qual x:Str}{st:Stmt}{f:Addr}{fd:FuncData}{ps:List Str}{H H':Hp}{o:Option V}{u:Value}{y:V}
noncomputable def aW(s:Stmt):Arguments:=match s with
 | .FunctionDef _ a _ _ _ _ _ _ _ _=>a
 | _ => { posonlyargs:=[],args:=[],vararg:=none,kwonlyargs:=[],kw_defaults:=[],kwarg:=none,defaults:=[] }
noncomputable def ak(s:Stmt):List Stmt:=match s with
 | .FunctionDef _ _ b _ _ _ _ _ _ _=>b
 | _=>[]
noncomputable def ab(s:Stmt):Scope:=match s with
 | .FunctionDef _ _ _ _ _ _ sc _ _ _=>sc
 | _ => { kind:=.function,names:=[],isGenerator:=false,isCoroutine:=false }
noncomputable abbrev gG:ka:=fun _ _ _ _ _ _=>False
noncomputable abbrev E0:XK:=fun _ _ _=>False
theorem rk{X:Cx}:iB gG X E0:=fun _ _ _ _ _ _ _ h=>h.elim
structure re(K:W.Frag)(x qual:Str)(st:Stmt)(f:Addr)(fd:FuncData):Prop where
 ex:∃(oc:Value) (od:Option Addr) (kV doc pm:Value) (an:Option Addr) (cdv ct:Value) (osl:Array (Option Value)),
  fd=W.fnOf x qual (aW st) (ak st) (ab st) .none kV doc pm an cdv ct/\K.lookup f=some ⟨oc,od,.func fd,osl⟩/\W.codeIn K cdv qual=true
 kp:W.keepIn K (.ref f)=true
section
variable{P:Program}{w:World}{K:W.Frag}{mg:Str->Option Value}{base:Heap}
theorem re.ok{N:List Str}{k:Nat}{sp:Sp}(F:re K x qual st f fd)(S:aS N ps (ab st))(len:∀vs H Q E,sp vs H Q E->vs.length=ps.length)
  (hbody:∀(cdv:Value) (A:Around) (outer:List Env) (s:Shared) (H:Hp) (vs:List V) (Q:VK) (E:XK),bZ k (A.deeper (envOfC qual (ab st) s.heap.objs.size f cdv))->sp vs H Q E ->
   ∃t,dZ (lu gG P w K mg base N qual (ab st) f cdv A outer s H E).nox (ak st) t/\t { nx:=fun _ H'=>Q .non H',rt:=Q } (start N vs) H):cQ P w K mg base gG (k+1) f fd ps sp:=by
 obtain⟨oc,od,kV,doc,pm,an,cdv,ct,osl,rfl,lk,hcd⟩:=F.ex
 refine KR lk hcd S len fun A outer s H vs Q E hr hsp=>?_
 obtain⟨t,h,q⟩:=hbody cdv A outer s H vs Q E hr hsp
 exact⟨t,h.nox,q⟩
theorem re.binds(F:re K x qual st f fd)
  (h:∀(kV doc pm:Value) (an:Option Addr) (cdv ct:Value) (us:List Value),us.length=ps.length->bindArgs (W.fnOf x qual (aW st) (ak st) (ab st) .none kV doc pm an cdv ct) ⟨us,[]⟩=pure (ps.zip us)):dj K fd ps []:=by
 obtain⟨oc,od,kV,doc,pm,an,cdv,ct,osl,rfl,lk,hcd⟩:=F.ex
 exact .all (h kV doc pm an cdv ct)
theorem bB{oc:Value}{od an:Option Addr}{osl:Array (Option Value)}{kV doc pm cdv ct:Value}(l:K.lookup f=some ⟨oc,od,.func (W.fnOf x qual (aW st) (ak st) (ab st) .none kV doc pm an cdv ct),osl⟩)
  (c:W.codeIn K cdv qual=true) (k:W.keepIn K (.ref f)=true):re K x qual st f (W.fnOf x qual (aW st) (ak st) (ab st) .none kV doc pm an cdv ct):=⟨⟨oc,od,kV,doc,pm,an,cdv,ct,osl,rfl,l,c⟩,k⟩
end
section
variable{X:Cx}
end
noncomputable def au(H H':Hp):Prop:=∀b o,H b=some o->H' b=some o
theorem au.refl(H:Hp):au H H:=fun _ _ h=>h
theorem au.trans{H1 H2:Hp}(a:au H H1)(b:au H1 H2):au H H2:=fun c o h=>b c o (a c o h)
theorem au.free(e:au H H'){l:Addr}(h:H' l=Option.none):H l=Option.none:=by
 cases q:H l with
 | none=>rfl
 | some o =>
  rw[e l o q]at h
  cases h
theorem au.seq{K:W.Frag}{a:Addr}{xs:List V}(e:au H H')(h:ci K H a xs):ci K H' a xs:=by
 rcases h with(h|⟨o,h⟩)|h
 ·exact .inl (.inl (e _ _ h))
 ·exact .inl (.inr ⟨o,e _ _ h⟩)
 ·exact .inr h
section
variable{κ:Type}[DecidableEq κ]
noncomputable def cU(kvs:List (κ×V))(k:κ):Option V:=(kvs.find? fun kv=>decide (kv.1=k)).map (·.2)
noncomputable def fb(kvs:List (κ×V))(k:κ)(v:V):List (κ×V) :=
 if (kvs.any fun kv=>decide (kv.1=k))=true then kvs.map (fun kv=>if kv.1=k then(kv.1,v)else kv)else kvs++[(k,v)]
noncomputable def C4(kvs:List (κ×V))(k:κ):List (κ×V):=kvs.filter fun kv=>decide (kv.1≠k)
theorem eF{p:κ×V}{r:List (κ×V)}{k:κ}(e:p.1=k):cU (p::r) k=some p.2:=by simp[cU,Sw,e]
theorem eG{p:κ×V}{r:List (κ×V)}{k:κ}(e:¬ p.1=k):cU (p::r) k=cU r k:=by simp[cU,Sw,e]
theorem nU(k:κ):∀kvs:List (κ×V),(kvs.any fun kv=>decide (kv.1=k))=(cU kvs k).isSome
 | []=>rfl
 | p::r=>by
  rw[S0]
  by_cases e:p.1=k
  ·simp only[eF e,RX e,Bool.true_or,Option.isSome_some]
  ·rw[eG e,Rr e,Bool.false_or];exact nU k r
theorem nJ(kvs:List (κ×V))(k:κ)(v:V):(fb kvs k v).length<=kvs.length+1:=by
 unfold fb
 split
 ·rw[QC];omega
 ·rw[QH,QP,SS];omega
theorem gL.isSome_eq{u:Option Value}(r:gL o u):o.isSome=u.isSome:=by
 cases o with
 | none=>cases u with
  | none=>rfl
  | some _=>exact(show False from r).elim
 | some _=>cases u with
  | none=>exact(show False from r).elim
  | some _=>rfl
theorem gL.getD{u:Option Value}{d:V}{d':Value}(r:gL o u)(rd:aO d d'):aO (o.getD d) (u.getD d'):=by
 cases o with
 | none=>cases u with
  | none=>exact rd
  | some _=>exact(show False from r).elim
 | some _=>cases u with
  | none=>exact(show False from r).elim
  | some _=>exact r
theorem KV.val{kvs:List (κ×V)}{vs:List (κ×Value)}(r:KV kvs vs)(k:κ):gL (cU kvs k) (valueAt vs k):=by
 unfold KV at r
 induction r with
 | nil=>exact True.intro
 | @cons p q ps qs h t ih =>
  obtain⟨h1,h2⟩:=h
  by_cases e:p.1=k
  ·have e':q.1=k:=h1.symm.trans e
   have b:valueAt (q::qs) k=some q.2:=by simp[valueAt,Sw,e']
   rw[eF e,b];exact h2
  ·have e':¬ q.1=k:=fun z=>e (h1.trans z)
   have b:valueAt (q::qs) k=valueAt qs k:=by simp[valueAt,Sw,e']
   rw[eG e,b];exact ih
theorem KV.any{kvs:List (κ×V)}{vs:List (κ×Value)}(r:KV kvs vs)(k:κ):(kvs.any fun kv=>decide (kv.1=k))=vs.any fun kv=>decide (kv.1=k):=by
 unfold KV at r
 induction r with
 | nil=>rfl
 | cons h t ih=>rw[S0,S0,ih,h.1]
theorem KV.repl{kvs:List (κ×V)}{vs:List (κ×Value)}(r:KV kvs vs)(k:κ)(ry:aO y u) :
  KV (kvs.map fun kv=>if kv.1=k then(kv.1,y)else kv) (vs.map fun kv=>if kv.1=k then(kv.1,u)else kv):=by
 unfold KV at r⊢
 induction r with
 | nil=>exact .nil
 | @cons p q ps qs h t ih =>
  rw[QU,QU]
  refine .cons ?_ ih
  obtain⟨h1,h2⟩:=h
  by_cases e:p.1=k
  ·rw[if_pos e,if_pos (h1.symm.trans e)];exact⟨h1,ry⟩
  ·rw[if_neg e,if_neg (fun z=>e (h1.trans z))];exact⟨h1,h2⟩
theorem KV.put{kvs:List (κ×V)}{vs:List (κ×Value)}(r:KV kvs vs)(k:κ)(ry:aO y u):KV (fb kvs k y) (stored vs k u):=by
 unfold fb stored
 rw[r.any k]
 by_cases e:(vs.any fun kv=>decide (kv.1=k))=true
 ·rw[if_pos e,if_pos e];exact r.repl k ry
 ·rw[if_neg e,if_neg e];exact Paired.snoc r ⟨rfl,ry⟩
theorem KV.drop{kvs:List (κ×V)}{vs:List (κ×Value)}(r:KV kvs vs)(k:κ):KV (C4 kvs k) (without vs k):=by
 unfold KV at r⊢
 unfold C4 without
 induction r with
 | nil=>exact .nil
 | @cons p q ps qs h t ih =>
  obtain⟨h1,h2⟩:=h
  rw[List.filter_cons,List.filter_cons]
  by_cases e:p.1=k
  ·have a:¬ decide (p.1≠k)=true:=by simp[e]
   have b:¬ decide (q.1≠k)=true:=by simp[h1.symm.trans e]
   rw[if_neg a,if_neg b];exact ih
  ·have e':¬ q.1=k:=fun z=>e (h1.trans z)
   have a:decide (p.1≠k)=true:=by simp[e]
   have b:decide (q.1≠k)=true:=by simp[e']
   rw[if_pos a,if_pos b];exact .cons ⟨h1,h2⟩ ih
theorem KV.keys{kvs:List (κ×V)}{vs:List (κ×Value)}(r:KV kvs vs):kvs.map (·.1)=vs.map (·.1):=by
 unfold KV at r
 induction r with
 | nil=>rfl
 | cons h t ih=>rw[QU,QU,ih,h.1]
theorem KV.length{kvs:List (κ×V)}{vs:List (κ×Value)}(r:KV kvs vs):kvs.length=vs.length:=Paired.length r
end
theorem gR{P:Program}{w:World}{k:aP}(r:aO (kV k) u):(b7 P w).is k u=true:=by
 cases k with
 | inl i=>obtain⟨t,e⟩:=(show ∃t,u=Value.int i t from r);subst e;exact uP P w i t
 | inr x=>obtain⟨t,e⟩:=(show ∃t,u=Value.str x t from r);subst e;exact uO P w x t
end L2
set_option maxHeartbeats 4000000
namespace Sp
open PySem PySem.Spec PyProof.Rows L2
variable{K:W.Frag}{H H':Hp}{a c e e2 elt iter tg:Expr}{vs vs':List V}{v:V}{X:Cx}{σ:L2.St}{i j k k2 ko n n1 n2:Nat}{env:Env}{sc scope:Scope}{M:Model}{A:Around}{E Q:Value->Shared->Prop}{s:Shared}{cl:List (Str×Addr)}{f g m qual x:Str}{pins:List (Addr×Obj)}{N' ps:List Str}{ch fp:List Addr}{prog:Program}{w:World}{args cs es ifs tgs:List Expr}{ap cp p p1 p2 pos px py q tp:Pos}{b it r r2 t κ κ':Bool}{base h h' h2:Heap}{op op2:CmpOp}{body els ss:List Stmt}{α β:Type}{o:List Prop}{ks:List aP}{T:String}{st:Stmt}{mg:Str->Option Value}{cdv:Value}{outer:List Env}{fd:FuncData}{ns:List Int}{tu:Addr}{xs ys:Array Value}{us:List Value}
inductive D where
 | non|bl (b:Bool)|int (i:Int)|str (x:Str)|dct (ks:List aP) (ds:List D)|tup (l:List D)|lst (l:List D)|typ (n:String)|sn (n:Nat)|obj (n:Str) (ns:List Str) (ds:List D)|cls (n:Str)|dcf (ks:List aP) (ls:List (List (List Int)))
mutual
noncomputable def D.lless:D->Bool
 | .lst _=>false
 | .dct _ _=>false
 | .tup l=>ao l
 | _=>true
noncomputable def ao:List D->Bool
 | []=>true
 | d::l=>d.lless&&ao l
end
noncomputable def uH(K:W.Frag)(H:Hp)(a:Addr)(vs:List V):Bool->Prop
 | true=>H a=some (.lst vs)
 | false=>(∃o,H a=some (.frz o (.lst vs)))\/∃(o:Obj) (its:Array Value) (n:Nat),K.lookup a=some o/\o.cls=.type "list" /\ o.dict=none/\o.data=.seq its n/\its.size<=sizeLine/\aD vs its.toList
theorem uH.sq{a:Addr}:∀{b:Bool},uH K H a vs b->ci K H a vs
 | true,h=>ci.of h
 | false,.inl ⟨o,h⟩=>.inl (.inr ⟨o,h⟩)
 | false,.inr h=>.inr h
structure rH(K:W.Frag)(C:Addr):Prop where
 ha:W.findIn K (.ref C) "__class__" = some (some (.builtin "object.__class__"))
 hn:W.specialIn K (.builtin "object.__class__") "__get__" = some (some (.builtin "getset_descriptor.__get__"))
 ht:W.takesIn K (.builtin "object.__class__")=some true
 hm:W.mroIn K C (.type "object")=some true
noncomputable def IA:List Str:=["Deed", "Turn", "HalfTurn", "Mirror"]
noncomputable def rS(m n:Str):Bool:=decide (m=n) || (decide (n = "Deed")&&(decide (m = "Turn") || decide (m = "HalfTurn") || decide (m = "Mirror")))
structure Li(K:W.Frag)(C:Addr)(n:Str):Prop where
 all:∀m∈IA,∀Cm,W.nsIn K mainGlobals m=some (some (.ref Cm))->rH K Cm/\W.kitOne K (.ref Cm) (.ref C)=some (rS m n)
noncomputable abbrev ba:=Addr->Bool->Prop
noncomputable def bD(K:W.Frag)(H:Hp):List V->List (List Int)->Prop
 | [],[]=>True
 | v::vs,ns::r=>(∃a,v=.ref a/\aZ K H a (ns.map V.int)/\ns≠[])/\bD K H vs r
 | _,_=>False
noncomputable def j9(K:W.Frag)(H:Hp):List (List (List Int))->List V->Prop
 | [],[]=>True
 | l::ls,v::r=>(∃a o ts,v=.ref a/\H a=some (.frz o (.lst ts))/\bD K H ts l)/\j9 K H ls r
 | _,_=>False
theorem bD.keep{K:W.Frag}{H H':Hp}(k:∀a vs,aZ K H a vs->aZ K H' a vs):∀{bs:List V} {nss:List (List Int)},bD K H bs nss->bD K H' bs nss
 | [],[],_=>trivial
 | v::bs,ns::nss,h=>let ⟨a,e,hq,hn⟩:=h.1;⟨⟨a,e,k _ _ hq,hn⟩,bD.keep k h.2⟩
 | [],_::_,h=>h.elim
 | _::_,[],h=>h.elim
theorem j9.keep{K:W.Frag}{H H':Hp}(k:∀a vs,aZ K H a vs->aZ K H' a vs)(f:∀a o u,H a=some (.frz o u)->H' a=some (.frz o u)):∀{ls:List (List (List Int))} {vs:List V},j9 K H ls vs->j9 K H' ls vs
 | [],[],_=>trivial
 | l::ls,v::vs,h=>let ⟨a,o,ts,e,h1,h2⟩:=h.1;⟨⟨a,o,ts,e,f _ _ _ h1,h2.keep k⟩,j9.keep k f h.2⟩
 | [],_::_,h=>h.elim
 | _::_,[],h=>h.elim
mutual
noncomputable def ae(K:W.Frag)(H:Hp)(P:ba):D->V->Prop
 | .non,v=>v=.non
 | .bl b,v=>v=.bl b
 | .int i,v=>v=.int i
 | .str x,v=>v=.str x
 | .dct ks ds,v=>ao ds=true/\ks.length=ds.length/\∃a vs,v=.ref a/\H a=some (.dK (ks.zip vs))/\P a true/\ah K H P ds vs
 | .typ n,v=>v=.ty n
 | .dcf ks ls,v=>ks.length=ls.length/\∃a o vs,v=.ref a/\H a=some (.frz o (.dK (ks.zip vs)))/\j9 K H ls vs
 | .sn n,v => ∃a S,v=.ref a/\H a=some (.set S n)
 | .cls n,v => ∃C o,v=.ref C/\W.nsIn K mainGlobals n=some (some (.ref C))/\K.lookup C=some o/\o.cls=.type "type" /\ rH K C/\Li K C n
 | .obj n ns ds,v=>ao ds=true/\ns.length=ds.length/\∃a C dx vs,v=.ref a/\W.nsIn K mainGlobals n=some (some (.ref C))/\fS K C/\H a=some (.ins C dx (ns.zip vs))/\ah K H P ds vs
 | .tup l,v => ∃a vs,v=.ref a/\aZ K H a vs/\ah K H P l vs
 | .lst l,v => ∃a vs b,v=.ref a/\uH K H a vs b/\P a b/\ah K H P l vs
noncomputable def ah(K:W.Frag)(H:Hp)(P:ba):List D->List V->Prop
 | [],vs=>vs=[]
 | d::l,vs => ∃v r,vs=v::r/\ae K H P d v/\ah K H P l r
end
noncomputable def nm:HO->Prop
 | .lst _=>False
 | .dK _=>False
 | .ext _=>False
 | _=>True
structure dJ(P P':ba)(H H':Hp):Prop where
 oth:∀a o,H a=some o->nm o->H' a=some o
 lst:∀a o,H a=some o->P a true->H' a=some o
 impT:∀a o,H a=some o->P a true->P' a true
 impF:∀a,P a false->P' a false
theorem dJ.sq{P P':ba}(s:dJ P P' H H'){a:Addr}(h:aZ K H a vs):aZ K H' a vs:=by
 rcases h with(h|⟨o,h⟩)|h
 ·exact .inl (.inl (s.oth _ _ h True.intro))
 ·exact .inl (.inr ⟨o,s.oth _ _ h True.intro⟩)
 ·exact .inr h
theorem dJ.ls{P P':ba}(s:dJ P P' H H'){a:Addr}:∀{b:Bool},uH K H a vs b->P a b->uH K H' a vs b
 | true,h,p=>s.lst a _ h p
 | false,.inl ⟨o,h⟩,_=>.inl ⟨o,s.oth _ _ h True.intro⟩
 | false,.inr h,_=>.inr h
theorem dJ.imp{P P':ba}(s:dJ P P' H H'){a:Addr}:∀{b:Bool},uH K H a vs b->P a b->P' a b
 | true,h,p=>s.impT a _ h p
 | false,_,p=>s.impF a p
mutual
theorem ae.mono{K:W.Frag}{P P':ba}{H H':Hp}(s:dJ P P' H H'):∀{d:D} {v:V},ae K H P d v->ae K H' P' d v
 | .non,v,h=>by rw[ae]at h⊢;exact h
 | .bl b,v,h=>by rw[ae]at h⊢;exact h
 | .int i,v,h=>by rw[ae]at h⊢;exact h
 | .str x,v,h=>by rw[ae]at h⊢;exact h
 | .dct ks ds,v,h=>by
  rw[ae]at h⊢
  obtain⟨f,e0,a,vs,e,h1,p,r⟩:=h
  exact⟨f,e0,a,vs,e,s.lst _ _ h1 p,s.impT _ _ h1 p,ah.mono s r⟩
 | .typ n,v,h=>by rw[ae]at h⊢;exact h
 | .dcf ks ls,v,h=>by
  rw[ae]at h⊢
  obtain⟨e0,a,o,vs,e,h1,r⟩:=h
  exact⟨e0,a,o,vs,e,s.oth _ _ h1 True.intro,r.keep (fun _ _ z=>s.sq z) fun _ _ _ z=>s.oth _ _ z True.intro⟩
 | .sn n,v,h=>by
  rw[ae]at h⊢
  obtain⟨a,S,e,h⟩:=h
  exact⟨a,S,e,s.oth _ _ h True.intro⟩
 | .cls n,v,h=>by rw[ae]at h⊢;exact h
 | .obj n ns ds,v,h=>by
  rw[ae]at h⊢
  obtain⟨f,e0,a,C,dx,vs,e,h1,h2,h3,r⟩:=h
  exact⟨f,e0,a,C,dx,vs,e,h1,h2,s.oth _ _ h3 True.intro,ah.mono s r⟩
 | .tup l,v,h=>by
  rw[ae]at h⊢
  obtain⟨a,vs,e,h,r⟩:=h
  exact⟨a,vs,e,s.sq h,ah.mono s r⟩
 | .lst l,v,h=>by
  rw[ae]at h⊢
  obtain⟨a,vs,b,e,h,p,r⟩:=h
  exact⟨a,vs,b,e,s.ls h p,s.imp h p,ah.mono s r⟩
theorem ah.mono{K:W.Frag}{P P':ba}{H H':Hp}(s:dJ P P' H H'):∀{l:List D} {vs:List V},ah K H P l vs->ah K H' P' l vs
 | [],vs,h=>by rw[ah]at h⊢;exact h
 | d::l,vs,h=>by
  rw[ah]at h⊢
  obtain⟨v,r,e,h1,h2⟩:=h
  exact⟨v,r,e,ae.mono s h1,ah.mono s h2⟩
end
theorem dJ.same{P P':ba}(s:au H H')(i:∀a b,P a b->P' a b):dJ P P' H H':=⟨fun a o h _=>s a o h,fun a vs h _=>s a _ h,fun a _ _ p=>i a true p,fun a p=>i a false p⟩
theorem ae.same{P:ba}(s:au H H'){d:D}(h:ae K H P d v):ae K H' P d v:=h.mono (.same s fun _ _ p=>p)
theorem ah.same{P:ba}(s:au H H'){d:List D}{v:List V}(h:ah K H P d v):ah K H' P d v:=h.mono (.same s fun _ _ p=>p)
theorem ae.imp{P P':ba}(i:∀a b,P a b->P' a b){d:D}(h:ae K H P d v):ae K H P' d v:=h.mono (.same (au.refl _) i)
theorem ah.imp{P P':ba}(i:∀a b,P a b->P' a b){d:List D}{v:List V}(h:ah K H P d v):ah K H P' d v:=h.mono (.same (au.refl _) i)
theorem ae.impH{P P':ba}(i:∀a o,H a=some o->P a true->P' a true)(j:∀a,P a false->P' a false){d:D}(h:ae K H P d v):ae K H P' d v:=h.mono ⟨fun _ _ h _=>h,fun _ _ h _=>h,i,j⟩
theorem ah.impH{P P':ba}(i:∀a o,H a=some o->P a true->P' a true)(j:∀a,P a false->P' a false){d:List D}{v:List V}(h:ah K H P d v):ah K H P' d v:=h.mono ⟨fun _ _ h _=>h,fun _ _ h _=>h,i,j⟩
mutual
theorem ae.flat{K:W.Frag}{P:ba}(P':ba){H:Hp}:∀{d:D} {v:V},d.lless=true->ae K H P d v->ae K H P' d v
 | .non,v,_,h=>by rw[ae]at h⊢;exact h
 | .bl b,v,_,h=>by rw[ae]at h⊢;exact h
 | .int i,v,_,h=>by rw[ae]at h⊢;exact h
 | .str x,v,_,h=>by rw[ae]at h⊢;exact h
 | .dct _ _,v,f,h=>by rw[D.lless]at f;cases f
 | .typ n,v,_,h=>by rw[ae]at h⊢;exact h
 | .dcf _ _,v,_,h=>by rw[ae]at h⊢;exact h
 | .sn n,v,_,h=>by rw[ae]at h⊢;exact h
 | .cls n,v,_,h=>by rw[ae]at h⊢;exact h
 | .obj n ns ds,v,_,h=>by
  rw[ae]at h⊢
  obtain⟨f,e0,a,C,dx,vs,e,h1,h2,h3,r⟩:=h
  exact⟨f,e0,a,C,dx,vs,e,h1,h2,h3,ah.flat P' f r⟩
 | .tup l,v,f,h=>by
  rw[ae]at h⊢
  obtain⟨a,vs,e,h,r⟩:=h
  exact⟨a,vs,e,h,ah.flat P' (by rw[D.lless]at f;exact f) r⟩
 | .lst l,v,f,h=>by rw[D.lless]at f;cases f
theorem ah.flat{K:W.Frag}{P:ba}(P':ba){H:Hp}:∀{l:List D} {vs:List V},ao l=true->ah K H P l vs->ah K H P' l vs
 | [],vs,_,h=>by rw[ah]at h⊢;exact h
 | d::l,vs,f,h=>by
  rw[ah]at h⊢
  rw[ao,QI]at f
  obtain⟨v,r,e,h1,h2⟩:=h
  exact⟨v,r,e,ae.flat P' f.1 h1,ah.flat P' f.2 h2⟩
end
theorem ah.length{P:ba}:∀{l:List D} {vs:List V},ah K H P l vs->l.length=vs.length
 | [],vs,h=>by rw[ah]at h;subst h;rfl
 | d::l,vs,h=>by
  rw[ah]at h
  obtain⟨v,r,e,h1,h2⟩:=h
  subst e
  rw[QP,QP,h2.length]
theorem ah.get{K:W.Frag}{P:ba}{H:Hp}:∀{l:List D} {vs:List V} {i:Nat} {d:D},ah K H P l vs->l[i]?=some d->∃v,vs[i]?=some v/\ae K H P d v
 | [],vs,i,d,h,e=>by simp at e
 | x::l,vs,0,d,h,e=>by
  rw[ah]at h
  obtain⟨v,r,rfl,h1,h2⟩:=h
  simp at e;subst e
  exact⟨v,by simp,h1⟩
 | x::l,vs,i+1,d,h,e=>by
  rw[ah]at h
  obtain⟨v,r,rfl,h1,h2⟩:=h
  obtain⟨u,h3,h4⟩:=ah.get (i:=i) h2 (by simpa using e)
  exact⟨u,by simpa using h3,h4⟩
theorem ah.append{K:W.Frag}{P:ba}{H:Hp}:∀{l m:List D} {vs ws:List V},ah K H P l vs->ah K H P m ws->ah K H P (l++m) (vs++ws)
 | [],m,vs,ws,h,g=>by rw[ah]at h;subst h;exact g
 | d::l,m,vs,ws,h,g=>by
  rw[ah]at h
  obtain⟨v,r,rfl,h1,h2⟩:=h
  show ah K H P (d::(l++m)) (v::(r++ws))
  rw[ah]
  exact⟨v,_,rfl,h1,ah.append h2 g⟩
theorem ah.one{P:ba}{d:D}(h:ae K H P d v):ah K H P [d] [v]:=by
 rw[ah];exact⟨v,[],rfl,h,by rw[ah]⟩
theorem ah.nil{P:ba}:ah K H P [] []:=by rw[ah]
theorem ah.cons{P:ba}{d:D}{l:List D}(h:ae K H P d v)(g:ah K H P l vs):ah K H P (d::l) (v::vs):=by
 rw[ah];exact⟨v,vs,rfl,h,g⟩
theorem ah.take{K:W.Frag}{P:ba}{H:Hp}:∀{l:List D} {vs:List V} (n:Nat),ah K H P l vs->ah K H P (l.take n) (vs.take n)
 | [],vs,n,h=>by rw[ah]at h;subst h;simp;exact ah.nil
 | d::l,vs,0,h=>by simp;exact ah.nil
 | d::l,vs,n+1,h=>by
  rw[ah]at h
  obtain⟨v,r,rfl,h1,h2⟩:=h
  exact ah.cons h1 (ah.take n h2)
theorem ah.drop{K:W.Frag}{P:ba}{H:Hp}:∀{l:List D} {vs:List V} (n:Nat),ah K H P l vs->ah K H P (l.drop n) (vs.drop n)
 | [],vs,n,h=>by rw[ah]at h;subst h;simp;exact ah.nil
 | d::l,vs,0,h=>h
 | d::l,vs,n+1,h=>by
  rw[ah]at h
  obtain⟨v,r,rfl,h1,h2⟩:=h
  exact ah.drop n h2
theorem ah.mapInt{K:W.Frag}{P:ba}{H:Hp}:∀{ns:List Int} {vs:List V},ah K H P (ns.map D.int) vs->vs=ns.map V.int
 | [],vs,h=>by rw[SK,ah]at h;exact h
 | n::ns,vs,h=>by
  rw[QU,ah]at h
  obtain⟨v,r,rfl,h1,h2⟩:=h
  rw[ae]at h1
  rw[h1,ah.mapInt h2];rfl
theorem ah.ofInts{K:W.Frag}{P:ba}{H:Hp}:∀{ns:List Int},ah K H P (ns.map D.int) (ns.map V.int)
 | []=>ah.nil
 | n::ns=>ah.cons (by rw[ae]) ah.ofInts
noncomputable abbrev Ow:=Addr->Option (Option Str)
noncomputable def Kp(ow:Ow)(H:Hp):Nat->ba
 | 0=>fun a b=>b=true/\H a=none
 | 1=>fun a b=>b=true->ow a=none
 | 2=>fun a b=>b=true/\(ow a≠none\/H a=none)
 | _=>fun _ _=>True
noncomputable def kj:Nat->Nat->Nat
 | 0,k=>k
 | k,0=>k
 | 1,1=>1
 | 2,2=>2
 | _,_=>3
noncomputable def kT(ow:Ow)(x:Str):Bool->ba
 | true=>fun a b=>b=true/\ow a=some (some x)
 | false=>fun a b=>b=true->ow a=none
noncomputable def cP(ow:Ow)(H:Hp):Prop:=∀a,ow a≠none->∃o,H a=some o
theorem cP.same{ow:Ow}(o:cP ow H)(s:au H H'):cP ow H':=fun a h=>let ⟨x,e⟩:=o a h;⟨x,s a x e⟩
theorem cP.free{ow:Ow}(o:cP ow H){a:Addr}(h:H a=none):ow a=none:=by
 cases e:ow a with
 | none=>rfl
 | some x=>obtain⟨y,q⟩:=o a (by rw[e];exact(fun z=>nomatch z));rw[h]at q;cases q
theorem Kp.back{ow:Ow}(s:au H H'):∀(k:Nat) (a:Addr) (b:Bool),Kp ow H' k a b->Kp ow H k a b
 | 0,a,b,h=>⟨h.1,s.free h.2⟩
 | 1,a,b,h=>h
 | 2,a,b,h=>⟨h.1,h.2.imp id fun z=>s.free z⟩
 | _+3,a,b,h=>True.intro
theorem Kp.joinL{ow:Ow}(o:cP ow H):∀(k j:Nat) (a:Addr) (b:Bool),Kp ow H k a b->Kp ow H (kj k j) a b
 | 0,0,a,b,h=>h
 | 0,1,a,b,h=>fun _=>o.free h.2
 | 0,2,a,b,h=>⟨h.1,.inr h.2⟩
 | 0,_+3,a,b,h=>True.intro
 | 1,0,a,b,h=>h
 | 1,1,a,b,h=>h
 | 1,2,a,b,h=>True.intro
 | 1,_+3,a,b,h=>True.intro
 | 2,0,a,b,h=>h
 | 2,1,a,b,h=>True.intro
 | 2,2,a,b,h=>h
 | 2,_+3,a,b,h=>True.intro
 | _+3,0,a,b,h=>True.intro
 | _+3,1,a,b,h=>True.intro
 | _+3,2,a,b,h=>True.intro
 | _+3,_+3,a,b,h=>True.intro
theorem EK:∀k j,kj k j=kj j k
 | 0,0|0,1|0,2|0,_+3|1,0|1,1|1,2|1,_+3|2,0|2,1|2,2|2,_+3|_+3,0|_+3,1|_+3,2|_+3,_+3=>rfl
theorem Kp.joinR{ow:Ow}(o:cP ow H)(k j:Nat)(a:Addr)(b:Bool)(h:Kp ow H j a b):Kp ow H (kj k j) a b:=by
 rw[EK];exact Kp.joinL o j k a b h
noncomputable abbrev ac:=Str->Option (D×Bool)
structure aH(X:Cx)(ow:Ow)(H:Hp)(σ:L2.St)(ρ:ac):Prop where
 get:∀x d o,ρ x=some (d,o)->∃(i:Nat) (v:V),X.N[i]?=some x/\fj X.env.scope x/\σ[i]?=some (some v)/\ae X.K H (kT ow x o) d v
 own:cP ow H
theorem aH.same{ow:Ow}{ρ:ac}(e:aH X ow H σ ρ)(s:au H H'):aH X ow H' σ ρ :=
 ⟨fun x d o h=>let ⟨i,v,h1,h2,h3,h4⟩:=e.get x d o h;⟨i,v,h1,h2,h3,h4.same s⟩,e.own.same s⟩
noncomputable def tD(X:Cx)(ow:Ow)(ρ:ac)(d:D)(k:Nat):TE:=fun σ H Q=>aH X ow H σ ρ/\∀v H',au H H'->ae X.K H' (Kp ow H k) d v->Q v H'
noncomputable def ED(X:Cx)(ρ:ac)(e:Expr)(d:D)(k:Nat):Prop:=∀ow,PE X e (tD X ow ρ d k)
noncomputable def Ce(X:Cx)(ow:Ow)(ρ:ac)(b:Bool):TT:=fun σ H Q=>aH X ow H σ ρ/\∀H',au H H'->Q b H'
noncomputable def TD(X:Cx)(ρ:ac)(e:Expr)(b:Bool):Prop:=∀ow,PT X e (Ce X ow ρ b)
noncomputable def Qe(X:Cx)(ow:Ow)(ρ:ac)(ds:List D)(k:Nat):TA:=fun σ H Q=>aH X ow H σ ρ/\∀vs H',au H H'->ah X.K H' (Kp ow H k) ds vs->Q vs H'
noncomputable def AD(X:Cx)(ρ:ac)(es:List Expr)(ds:List D)(k:Nat):Prop:=∀ow,PA X es (Qe X ow ρ ds k)
theorem bE{t t':TE}(h:PE X e t)(i:∀σ H Q,t' σ H Q->t σ H Q):PE X e t':=fun pins s σ H Q I q=>h pins s σ H Q I (i σ H Q q)
theorem xr{t t':TT}(h:PT X e t)(i:∀σ H Q,t' σ H Q->t σ H Q):PT X e t':=fun pins s σ H Q I q=>h pins s σ H Q I (i σ H Q q)
theorem Df{e:List Expr}{t t':TA}(h:PA X e t)(i:∀σ H Q,t' σ H Q->t σ H Q):PA X e t':=fun pos pins s σ H Q I q=>h pos pins s σ H Q I (i σ H Q q)
noncomputable def kn(d:D)(k:Nat):Nat:=if d.lless=true then 0 else k
theorem ED.kn{ρ:ac}{d:D}(h:ED X ρ e d k):ED X ρ e d (Sp.kn d k):=by
 unfold Sp.kn
 by_cases f:d.lless=true
 ·rw[if_pos f]
  exact fun ow=>bE (h ow) fun σ H Q ⟨E,q⟩=>⟨E,fun v H' s r=>q v H' s (r.flat _ f)⟩
 ·rw[if_neg f];exact h
variable{C C' ρ ρ':ac}{d y z:D}{ow ow':Ow}{ds l l':List D}{P:ba}
noncomputable def Lz(K:W.Frag)(J:It)(ds:List D)(P:ba)(H1:Hp):Prop :=
 ∀(i:Nat) (H2:Hp),dJ P P H1 H2->(∀d,ds[i]?=some d->J.go i H2/\∀x H3,J.yld i H2 x H3->au H2 H3/\ae K H3 P d x)/\(ds.length<=i->J.stop i H2)
noncomputable def Kd(ow:Ow)(H:Hp)(k:Nat)(H1:Hp):ba:=fun a b=>Kp ow H k a b/\(b=true->∃o,H1 a=some o)
noncomputable def tI(X:Cx)(ow:Ow)(ρ:ac)(ds:List D)(k:Nat):TI:=fun σ H R=>aH X ow H σ ρ/\∀J H1,au H H1->Lz X.K J ds (Kd ow H k H1) H1->R J H1
noncomputable def IE(X:Cx)(ρ:ac)(tg iter:Expr)(ds:List D)(k:Nat):Prop:=∀ow,PI X tg iter (tI X ow ρ ds k)
noncomputable def ig(ifs:List Expr)(env:Env):Sem Bool:=forIn ifs true fun c r=>if r=true then do let ok <- isTrue c env (eval c env);pure (ForInStep.yield ok)else pure (ForInStep.yield r)
noncomputable def Af(X:Cx)(ρ:ac)(ifs:List Expr)(b:Bool):Prop:=∀ow (pins:List (Addr×Obj)) (s:Shared) (σ:L2.St) (H:Hp) (Q:Bool->Hp->Prop),aj X pins σ H s->Ce X ow ρ b σ H Q->wpAny (model X.prog X.w) X.A (ig ifs X.env) (TP X pins σ Q) X.xe s
noncomputable def GD(X:Cx)(ρ:ac)(tg:Expr)(d:D)(ρ':ac):Prop:=∃g:TG,PG X tg g/\∀(ow:Ow) (v:V) (σ:L2.St) (H:Hp) (Q:L2.St->Hp->Prop),σ.length=X.N.length->aH X ow H σ ρ->ae X.K H (fun a b=>b=true->ow a=none) d v->(∀σ',σ'.length=X.N.length->aH X ow H σ' ρ'->Q σ' H)->g v σ H Q
noncomputable abbrev lm(X:Cx)(scope:Scope)(cl:List (Str×Addr))(C:Addr)(N':List Str)(s:Shared)(H:Hp)(fp:List Addr):Cx :=
 { X with N:=N',s₀:=s,H₀:=H,env:=compEnvC scope cl C X.env,outer:=X.stack,stack:=X.stack,ex:=fp,fn:=fun x=>decide (scope.names.lookup x=some .cell),pn:=[],xe:=fun _ _=>False }
theorem il{env:Env}:∀(names:List (Str×NameKind)) (cs:List (Str×Addr)),(∀n,(n,NameKind.free)∈names->∃c,env.cells.lookup n=some c) ->
  ∃cl,(forIn names cs (fun(x:Str×NameKind) (r:List (Str×Addr))=>(if (x.2==NameKind.free)=true then do let a <- cellOf env x.1;pure (ForInStep.yield ((x.1,a)::r))else pure (ForInStep.yield r):Sem (ForInStep (List (Str×Addr))))))=(pure cl:Sem (List (Str×Addr))) /\
   (∀x c,cl.lookup x=some c->(env.cells.lookup x=some c/\(x,NameKind.free)∈names)\/cs.lookup x=some c)/\(∀x,(x,NameKind.free)∈names->∃c,cl.lookup x=some c)/\(∀x c,cs.lookup x=some c->∃c',cl.lookup x=some c')
 | [],cs,_=>⟨cs,rfl,fun x c h=>.inr h,fun x h=>(by cases h),fun x c h=>⟨c,h⟩⟩
 | (n,k)::r,cs,h=>by
  have hr:∀n,(n,NameKind.free)∈r->∃c,env.cells.lookup n=some c:=fun m hm=>h m (Qz _ hm)
  by_cases hk:k=.free
  ·subst hk
   obtain⟨c,hc⟩:=h n Qy
   obtain⟨cl,e,h1,h2,h3⟩:=il r ((n,c)::cs) hr
   refine⟨cl,?_,fun x c' hx=>?_,fun x hx=>?_,fun x c' hx=>?_⟩
   ·rw[Sx]
    simp only[beq_self_eq_true,if_true,cellOf,hc]
    rw[pure_bind,pure_bind]
    exact e
   ·rcases h1 x c' hx with q|q
    ·exact .inl ⟨q.1,Qz _ q.2⟩
    ·rw[QQ]at q
     split at q
     ·rename_i hb
      have:x=n:=by simpa using hb
      subst this;cases q;exact .inl ⟨hc,Qy⟩
     ·exact .inr q
   ·rcases QD.mp hx with q|q
    ·cases q
     exact h3 n c (by simp)
    ·exact h2 x q
   ·by_cases hb:x==n
    ·exact h3 x c (by rw[QQ,hb])
    ·exact h3 x c' (by rw[QQ];simp only[hb];exact hx)
  ·obtain⟨cl,e,h1,h2,h3⟩:=il r cs hr
   refine⟨cl,?_,fun x c hx=>(h1 x c hx).imp (fun q=>⟨q.1,Qz _ q.2⟩) id,fun x hx=>?_,h3⟩
   ·rw[Sx]
    have:(k==NameKind.free)=false:=by simpa using hk
    simp only[this,Ro,S5]
    rw[pure_bind]
    exact e
   ·rcases QD.mp hx with q|q
    ·cases q;exact absurd rfl hk
    ·exact h2 x q
theorem uQ(h:∀n,(n,NameKind.free)∈scope.names->∃c,env.cells.lookup n=some c) :
  ∃cl,closureFor scope env=pure cl/\(∀x c,cl.lookup x=some c->env.cells.lookup x=some c/\(x,NameKind.free)∈scope.names)/\(∀x,(x,NameKind.free)∈scope.names->∃c,cl.lookup x=some c):=by
 obtain⟨cl,e,h1,h2,_⟩:=il scope.names [] h
 refine⟨cl,?_,fun x c hx=>(h1 x c hx).resolve_right (by simp),h2⟩
 unfold closureFor
 rw[<- e,<- bind_pure (forIn scope.names _ _)]
theorem db{env:Env}:∀{names:List (Str×NameKind)} {x:Str},names.lookup x=some .free ->
  (names.map fun(n,k)=>if (k==NameKind.free&&env.scope.kind == .function&&env.kindOf n==some .cell)then(n,NameKind.cell)else(n,k)).lookup x=some .cell \/
  (names.map fun(n,k)=>if (k==NameKind.free&&env.scope.kind == .function&&env.kindOf n==some .cell)then(n,NameKind.cell)else(n,k)).lookup x=some .free
 | [],_,h=>by simp at h
 | (n,k)::r,x,h=>by
  have ih:=@db env r x
  show List.lookup x ((if (k==NameKind.free&&env.scope.kind == .function&&env.kindOf n==some .cell)=true then(n,NameKind.cell)else(n,k))::_)=_\/List.lookup x ((if (k==NameKind.free&&env.scope.kind == .function&&env.kindOf n==some .cell)=true then(n,NameKind.cell)else(n,k))::_)=_
  cases hx:x==n with
  | true =>
   simp only[QQ,hx]at h
   cases h
   by_cases hc:(NameKind.free==NameKind.free&&env.scope.kind == .function&&env.kindOf n==some .cell)=true
   ·rw[if_pos hc];simp[QQ,hx]
   ·rw[if_neg hc];simp[QQ,hx]
  | false =>
   simp only[QQ,hx]at h
   by_cases hc:(k==NameKind.free&&env.scope.kind == .function&&env.kindOf n==some .cell)=true
   ·rw[if_pos hc];simp only[QQ,hx];exact ih h
   ·rw[if_neg hc];simp only[QQ,hx];exact ih h
theorem f6{env:Env}:∀{names:List (Str×NameKind)} {x:Str} {k:NameKind},(names.map fun(n,k)=>if (k==NameKind.free&&env.scope.kind == .function&&env.kindOf n==some .cell)then(n,NameKind.cell)else(n,k)).lookup x=some k ->
  names.lookup x=some k\/(k=.cell/\names.lookup x=some .free)
 | [],_,_,h=>by simp at h
 | (n,j)::r,x,k,h=>by
  have ih:=@f6 env r x k
  replace h:List.lookup x ((if (j==NameKind.free&&env.scope.kind == .function&&env.kindOf n==some .cell)=true then(n,NameKind.cell)else(n,j))::_)=some k:=h
  cases hx:x==n with
  | true =>
   simp only[QQ,hx]
   by_cases hc:(j==NameKind.free&&env.scope.kind == .function&&env.kindOf n==some .cell)=true
   ·rw[if_pos hc]at h
    simp only[QQ,hx]at h
    cases h
    have:j=.free:=by
     have:=(QI _ _).mp ((QI _ _).mp hc).1
     simpa using this.1
    exact .inr ⟨rfl,by rw[this]⟩
   ·rw[if_neg hc]at h
    simp only[QQ,hx]at h
    exact .inl h
  | false =>
   simp only[QQ,hx]
   by_cases hc:(j==NameKind.free&&env.scope.kind == .function&&env.kindOf n==some .cell)=true
   ·rw[if_pos hc]at h;simp only[QQ,hx]at h;exact ih h
   ·rw[if_neg hc]at h;simp only[QQ,hx]at h;exact ih h
structure gH(env:Env)(scope:Scope)(N':List Str):Prop where
 kind:scope.kind=.function
 nn:(scope.names.map (·.1)).Nodup
 names:∀y∈scope.names,y.2=.local->scope.names.lookup y.1=some .local
 nd:N'.Nodup
 fr:∀n,(n,NameKind.free)∈scope.names->env.kindOf n=some .cell\/env.kindOf n=some .free
theorem sU:∀{names:List (Str×NameKind)} {x:Str} {k:NameKind},(names.map (·.1)).Nodup->(x,k)∈names->names.lookup x=some k
 | [],_,_,_,h=>by cases h
 | (n,j)::r,x,k,nd,h=>by
  rw[QU,Sg]at nd
  rcases QD.mp h with e|h'
  ·cases e;simp
  ·have hx:(x==n)=false:=by
    cases q:x==n with
    | false=>rfl
    | true =>
     have:x=n:=by simpa using q
     subst this
     have hm:x∈r.map (·.1):=QW.mpr ⟨(x,k),h',rfl⟩
     exact absurd hm nd.1
   rw[QQ,hx]
   exact sU nd.2 h'
theorem pD:∀(names:List (Str×NameKind)) (n:Nat) (acc:List (Str×Addr)) {x:Str} {c:Addr},(cellsFrom n names acc).lookup x=some c->acc.lookup x=some c\/(n<=c/\(x,NameKind.cell)∈names)
 | [],_,_,_,_,h=>.inl h
 | (y,k)::r,n,acc,x,c,h=>by
  unfold cellsFrom at h
  split at h
  ·rename_i hk
   have hk:k=.cell:=by simpa using hk
   subst hk
   rcases pD r (n+1) ((y,n)::acc) h with q|⟨q1,q2⟩
   ·rw[QQ]at q
    split at q
    ·rename_i hb
     have:x=y:=by simpa using hb
     subst this
     cases q
     exact .inr ⟨QA _,Qy⟩
    ·exact .inl q
   ·exact .inr ⟨by omega,Qz _ q2⟩
  ·rcases pD r n acc h with q|⟨q1,q2⟩
   ·exact .inl q
   ·exact .inr ⟨q1,Qz _ q2⟩
theorem t6:∀(names:List (Str×NameKind)) (n:Nat) (acc:List (Str×Addr)),(∀x y c,acc.lookup x=some c->acc.lookup y=some c->x=y)->(∀x c,acc.lookup x=some c->c<n) ->
  ∀x y c,(cellsFrom n names acc).lookup x=some c->(cellsFrom n names acc).lookup y=some c->x=y
 | [],_,_,h,_,x,y,c,a,b=>h x y c a b
 | (z,k)::r,n,acc,h,hb,x,y,c,a,b=>by
  unfold cellsFrom at a b
  split at a
  ·rename_i hk
   rw[if_pos hk]at b
   refine t6 r (n+1) ((z,n)::acc) (fun u v d p q=>?_) (fun u d p=>?_) x y c a b
   ·rw[QQ]at p q
    split at p
    ·rename_i e1
     split at q
     ·rename_i e2
      rw[show u=z by simpa using e1,show v=z by simpa using e2]
     ·cases p;exact absurd (hb v _ q) (Rx _)
    ·split at q
     ·cases q;exact absurd (hb u _ p) (Rx _)
     ·exact h u v d p q
   ·rw[QQ]at p
    split at p
    ·cases p;exact Rk _
    ·exact Nat.lt_succ_of_lt (hb u d p)
  ·rename_i hk
   rw[if_neg hk]at b
   exact t6 r n acc h hb x y c a b
theorem qt:∀(names:List (Str×NameKind)) (h:Heap) (acc:List (Str×Addr)),(∀x c,acc.lookup x=some c->∃v,h.IsCell c v)->∀x c,(cellsFrom h.objs.size names acc).lookup x=some c->∃v,(pushCells h names).IsCell c v
 | [],_,_,h,x,c,a=>h x c a
 | (z,k)::r,h,acc,hc,x,c,a=>by
  unfold cellsFrom at a
  unfold pushCells
  split at a
  ·rename_i hk
   rw[if_pos hk]
   have:=qt r (h.push { cls:=.type "cell", data:=.cell none }) ((z,h.objs.size)::acc) (fun u d p=>?_) x c
   ·rw[Rq]at this
    exact this a
   ·rw[QQ]at p
    split at p
    ·cases p;exact⟨none,_,QJ _ rfl,rfl⟩
    ·obtain⟨v,q⟩:=hc u d p
     exact⟨v,q.keeps fun b o e=>Qw _ e⟩
  ·rename_i hk
   rw[if_neg hk]
   exact qt r h acc hc x c a
theorem xz{globals:Addr}{Q:Env->Shared->Prop}(hcl:∀x c,cl.lookup x=some c->∃v,s.heap.IsCell c v)
  (h:∀h',h'.Ns s.heap.objs.size (fun _=>none)->(∀b o,s.heap.get? b=some o->h'.get? b=some o)->(∀x c,(cellsFrom (s.heap.objs.size+1) scope.names cl).lookup x=some c->∃v,h'.IsCell c v) ->
   Q (newEnv scope s.heap.objs.size globals (cellsFrom (s.heap.objs.size+1) scope.names cl) qual none .none (some env) builtinsNs) { s with heap:=h',toks:=s.toks+0 }) :
  wpAny M A (newFunctionEnv scope globals cl [] qual none .none (some env)) Q E s:=by
 simp only[newFunctionEnv,Option.isSome_some,if_true]
 refine Qx (wpAny_alloc ?_)
 refine Qx (wpAny_layCells _ (fun name kind cells=>by cases hkc:kind==NameKind.cell<;>simp[hkc]) _ _ _ _ ?_)
 rw[show({ s with heap:=s.heap.push { cls:=.type "dict", data:=.dict #[] } }:Shared).heap.objs.size=s.heap.objs.size+1 from Rq ..]
 rw[List.forIn_nil]
 refine Qx (QL (QL ?_))
 refine h _ ((Heap.Ns.new s.heap (.type "dict")).keeps (pushCells_keeps _ _)) (fun b o e=>pushCells_keeps _ _ b o (Qw _ e)) fun x c hc=>?_
 have:=qt scope.names (s.heap.push { cls:=.type "dict", data:=.dict #[] }) cl (fun u d p=>by
  obtain⟨v,q⟩:=hcl u d p
  exact⟨v,q.keeps fun b o e=>Qw _ e⟩) x c
 rw[Rq]at this
 exact this hc
structure nB(X:Cx)(scope:Scope)(cl:List (Str×Addr))(n:Nat):Prop where
 k1:∀x c,cl.lookup x=some c->X.env.cells.lookup x=some c\/(n<c/\scope.names.lookup x=some .cell)
 k2:∀x,scope.names.lookup x=some .free\/scope.names.lookup x=some .cell->∃c,cl.lookup x=some c
 k4:∀x y c,cl.lookup x=some c->cl.lookup y=some c->x=y
 k5:∀x c,scope.names.lookup x=some .cell->cl.lookup x=some c->n<=c
variable{X:Cx}
theorem BC(I:aj X pins σ H s)(S:gH X.env scope N')
  (h1:∀x c,cl.lookup x=some c->X.env.cells.lookup x=some c/\(x,NameKind.free)∈scope.names) (h2:∀x,(x,NameKind.free)∈scope.names->∃c,cl.lookup x=some c) :
  nB X scope (cellsFrom (s.heap.objs.size+1) scope.names cl) s.heap.objs.size where
 k1:=fun x c h=>by
  rcases pD _ _ _ h with q|⟨q1,q2⟩
  ·exact .inl (h1 x c q).1
  ·exact .inr ⟨q1,sU S.nn q2⟩
 k2:=fun x h=>by
  refine Option.isSome_iff_exists.mp (W.cellsFrom_some scope.names _ cl ?_)
  rcases h with h|h
  ·obtain⟨c,hc⟩:=h2 x (Q4 h)
   exact .inr (by rw[hc];rfl)
  ·exact .inl h
 k4:=t6 scope.names _ cl (fun x y c a b=>I.ok.inj x y c (h1 x c a).1 (h1 y c b).1) fun x c a=>by
  obtain⟨v,hv⟩:=I.cell x c (h1 x c a).1
  exact Nat.lt_succ_of_lt hv.lt
 k5:=fun x c hx h=>by
  rcases pD _ _ _ h with q|⟨q1,q2⟩
  ·rw[sU S.nn (h1 x c q).2]at hx;cases hx
  ·omega
theorem Kx{C:Addr}(I:aj X pins σ H s)(S:gH X.env scope N')
  (hC:s.heap.objs.size<=C) (k:nB X scope cl s.heap.objs.size)
  (hf:∀b∈fp,fQ X pins H b) (hfC:∀b∈fp,b<s.heap.objs.size):(lm X scope cl C N' s H fp).Ok where
 mod:=I.ok.mod
 kind:=by show(relabel scope X.env).kind=_;exact S.kind
 glob:=I.ok.glob
 blt:=I.ok.blt
 above:=hC
 inj:=k.k4
 has:=fun x hx=>by
  have hx:(relabel scope X.env).names.lookup x=some .cell\/(relabel scope X.env).names.lookup x=some .free:=hx
  rcases hx with hx|hx
  ·rcases f6 hx with q|⟨_,q⟩
   ·exact k.k2 x (.inr q)
   ·exact k.k2 x (.inl q)
  ·rcases f6 hx with q|⟨q,_⟩
   ·exact k.k2 x (.inl q)
   ·cases q
 cab:=fun x c h hc=>k.k5 x c (Rl h) hc
 hd:=I.ok.hd
 frames:=I.ok.frames
 stk:=.inl rfl
 exf:=fun b hb=>⟨by have:=hfC b hb;intro z;subst z;show False;exact absurd (QK this hC) (Rx _),fun x c h=>by
  rcases k.k1 x c h with q|⟨q,_⟩
  ·exact(hf b hb).2.2.2.2.1 x c q
  ·have:=hfC b hb
   intro z;subst z;exact absurd (Nat.lt_trans q this) (Rx _)⟩
 bs:=I.bs
 bsz:=QR I.ok.bsz I.sz
 noex:=fun b o e hb=>by
  rcases(hf b hb).2.2.2.1 with q|q
  ·exact I.ok.noex b o e q
  ·exact absurd (QK (QE e) (QR I.ok.bsz q)) (Rx _)
 exfs:=fun b hb z=>by
  rcases QD.mp (I.stkSub b z)with q|q
  ·exact(hf b hb).2.1 q
  ·exact(hf b hb).2.2.1 q
 funs:=I.stack
 frf:=I.stkFree
noncomputable def nX(X:Cx)(scope:Scope)(N':List Str)(σ:L2.St):L2.St:=N'.map fun x=>if scope.names.lookup x=some .free then(σ[X.N.idxOf x]?).join else none
theorem HG{s1:Shared}{m:Str->Option Value}(I:aj X pins σ H s)(S:gH X.env scope N')
  (k:nB X scope cl s.heap.objs.size) (k6:∀x c,cl.lookup x=some c->∃v,s1.heap.IsCell c v)
  (hf:∀b∈fp,fQ X pins H b) (hfC:∀b∈fp,b<s.heap.objs.size)
  (es:∃h t,s1 = { s with heap:=h,toks:=t }) (hns:s1.heap.Ns s.heap.objs.size m) (hk:∀b o,s.heap.get? b=some o->s1.heap.get? b=some o) :
  aj (lm X scope cl s.heap.objs.size N' s H fp) [] (nX X scope N' σ) H s1:=by
 obtain⟨h',t,rfl⟩:=es
 have I1:aj X pins σ H { s with heap:=h',toks:=t }:=I.kept hk
 refine⟨Kx I S (QA _) k hf hfC,rfl,I.bare,Un.kept hk,⟨m,hns,fun i x v e1 e2 e3=>?_⟩,k6,I.hok.fresh (QA _),fun x c h=>(k.k1 x c h).elim (fun q=>I.freeC x c q) fun q=>I.hok.fresh (RZ q.1),fun p hp=>absurd (show p∈([]:List (Addr×Obj))from hp) (by simp),I1.hok,?_⟩
 ·have hN:N'[i]?=some x:=e1
  unfold nX at e2
  rw[Q7,hN]at e2
  simp only[Option.map_some,Option.some.injEq]at e2
  split at e2
  ·rename_i hfr
   have hj:σ[X.N.idxOf x]?=some (some v):=by
    cases q:σ[X.N.idxOf x]? with
    | none=>rw[q]at e2;cases e2
    | some y=>rw[q]at e2;rw[show y=some v from e2]
   have hlt:X.N.idxOf x<X.N.length:=by rw[<- I.len];exact(QO.mp hj).1
   have hx:X.N[X.N.idxOf x]?=some x:=by
    rw[QS hlt,Sy hlt]
   have kf:=S.fr x (Q4 hfr)
   have vis:fj X.env.scope x:=.inr (kf.imp id id)
   obtain⟨m1,hn1,hl1⟩:=I1.loc
   obtain⟨u,r,l⟩:=hl1 _ x v hx hj vis
   refine⟨u,r,.inr ⟨?_,?_⟩⟩
   ·exact db hfr
   ·rcases l with⟨hk',_⟩|⟨_,c,hc,hcell⟩
    ·rcases kf with q|q<;>rw[q]at hk'<;>cases hk'
    ·obtain⟨c',hc'⟩:=k.k2 x (.inl hfr)
     have:c'=c:=by
      rcases k.k1 x c' hc' with this|⟨_,this⟩
      ·rw[hc]at this;exact(Ry this).symm
      ·rw[hfr]at this;cases this
     subst this
     exact⟨c',hc',hcell⟩
  ·cases e2
 ·unfold nX;simp
noncomputable def flt(scope:Scope)(ρ:ac):ac:=fun x=>if scope.names.lookup x=some .free then ρ x else none
theorem jP{y:D×Bool}(h:flt scope ρ x=some y):ρ x=some y/\scope.names.lookup x=some .free:=by
 unfold flt at h
 split at h
 ·rename_i e;exact⟨h,e⟩
 ·cases h
theorem Id{C:Addr}{H0:Hp}(E:aH X ow H σ ρ)(hN:X.N.Nodup)
  (hsub:∀x d o,flt scope ρ x=some (d,o)->x∈N') :
  aH (lm X scope cl C N' s H0 fp) ow H (nX X scope N' σ) (flt scope ρ):=by
 refine⟨fun x d o h=>?_,E.own⟩
 obtain⟨h1,h2⟩:=jP h
 obtain⟨i,v,e1,e2,e3,e4⟩:=E.get x d o h1
 have hx:x∈N':=hsub x d o h
 have hi:X.N.idxOf x=i:=by
  have hm:x∈X.N:=RF e1
  have hlt:=List.idxOf_lt_length_iff.mpr hm
  exact n8 hN (by rw[QS hlt,Sy hlt]) e1
 refine⟨N'.idxOf x,v,?_,?_,?_,e4⟩
 ·have hlt:=List.idxOf_lt_length_iff.mpr hx
  show N'[N'.idxOf x]?=some x
  rw[QS hlt,Sy hlt]
 ·exact .inr (db h2)
 ·have hlt:=List.idxOf_lt_length_iff.mpr hx
  unfold nX
  rw[Q7,QS hlt,Sy hlt]
  simp only[Option.map_some]
  rw[if_pos h2,hi,e3];rfl
variable{X:Cx}
theorem zx{R:Result->Shared->Prop}{target:Expr}{it acc:Value}(J:Nat->Shared->Prop)
    (turn:∀n s,J n s->wpAny (model prog w) A (pyNext it) (fun r s₁=>match r with
      | none=>R (.ok .next) s₁
      | some v=>wpAny (model prog w) A (letOwnedTupleGo target it v) (fun _ s₁=>wpAny (model prog w) A (assign target env v) (fun _ s₂ =>
          wpAny (model prog w) A (ig ifs env) (fun ok s₃ =>
            if ok=true then wpAny (model prog w) A (eval elt env) (fun x s₄ =>
              wpAny (model prog w) A (call (.builtin "list.append") [acc,x]) (fun _ s₅ => ∃m,m<n/\J m s₅) (fun _ _=>False) s₄) (fun _ _=>False) s₃
            else ∃m,m<n/\J m s₃) (fun _ _=>False) s₂) (fun _ _=>False) s₁) (fun _ _=>False) s₁) (fun _ _=>False) s)
    (n:Nat) (h:J n s):codeAny (model prog w) A (.compLoop (.ListComp elt [⟨target,iter,ifs,0⟩] scope pos) 0 it acc env) R s:=by
  refine codeAny_loop rfl J (fun n s hI=>?_) n h
  show wpAny _ A ((compTurn (.ListComp elt [⟨target,iter,ifs,0⟩] scope pos) 0 it acc env).onRaise (fun x=>do noteFrame x env;theTreesLotGoes x)) _ _ s
  refine wpAny_noted ?_
  rw[compTurn_list]
  refine Qx (wpAny_standAt (Qx (RQ (turn n s hI) (fun r s₁ h₁=>?_) fun _ _ h'=>h'.elim)))
  cases r with
  | none=>exact QL h₁
  | some v =>
    refine Qx (RQ h₁ (fun _ s₁' h₁'=>?_) fun _ _ h'=>h'.elim)
    refine Qx (RQ h₁' (fun _ s₂ h₂=>Qx (RQ h₂ (fun ok s₃ h₃=>?_) fun _ _ h'=>h'.elim)) fun _ _ h'=>h'.elim)
    cases ok with
    | false=>exact QL ⟨rfl,h₃⟩
    | true =>
      exact Qx (Qx (RQ h₃ (fun x s₄ h₄=>Qx (RQ h₄ (fun _ s₅ h₅=>QL (QL ⟨rfl,h₅⟩)) fun _ _ h'=>h'.elim)) fun _ _ h'=>h'.elim))
noncomputable def nr(X:Cx)(ρ:ac)(tg:Expr)(ifs:List Expr)(elt:Expr)(k:Nat)(d:D)(r:Option D):Prop :=
 ∃ρ' b,GD X ρ tg d ρ'/\(∀x y,ρ x=some y->ρ' x=some y)/\Af X ρ' ifs b/\match r with|some d'=>b=true/\ED X ρ' elt d' k|none=>b=false
theorem eQ(o:cP ow H){a:Addr}:∀{k:Nat},k<=1->Kp ow H k a true->ow a=none
 | 0,_,p=>o.free p.2
 | 1,_,p=>p rfl
 | _+2,h,_=>absurd h (by omega)
theorem EJ{H9:Hp}{D:Addr}{x:HO}(sm:au H H9)(hD:H9 D=some x){a:Addr}:∀{k:Nat},k<=1->Kp (fun a=>if a=D then some none else ow a) H9 k a b->Kp ow H k a b/\(b=true->a≠D)
 | 0,_,p=>⟨⟨p.1,sm.free p.2⟩,fun _ z=>by subst z;have:=p.2;rw[hD]at this;cases this⟩
 | 1,_,p=>by
  have p:b=true->(if a=D then some none else ow a)=none:=p
  refine⟨fun hb=>?_,fun hb hz=>?_⟩
  ·have p:=p hb
   by_cases hz:a=D
   ·rw[if_pos hz]at p;cases p
   ·rw[if_neg hz]at p;exact p
  ·have p:=p hb
   rw[if_pos hz]at p;cases p
 | _+2,h,_=>absurd h (by omega)
theorem yM{D:Addr}(o:cP ow H)(hD:H D=none):∀{k:Nat},k<=1->Kp ow H k D true
 | 0,_=>⟨rfl,hD⟩
 | 1,_=>fun _=>o.free hD
 | _+2,h=>absurd h (by omega)
theorem oV:∀{l:List D} {i:Nat} {d:D},ao l=true->l[i]?=some d->d.lless=true
 | [],_,_,_,h=>by simp at h
 | x::l,0,d,f,h=>by
  rw[ao,QI]at f
  simp at h;subst h;exact f.1
 | x::l,i+1,d,f,h=>by
  rw[ao,QI]at f
  exact oV (i:=i) f.2 (by simpa using h)
structure nA(X:Cx)(pins:List (Addr×Obj))(σ:L2.St)(H5:Hp)(s6:Shared)(C:Addr)(m6:Str->Option Value):Prop where
 inv:aj X pins σ H5 s6
 ns:s6.heap.Ns C m6
 free:H5 C=none
 loc:C≠X.env.locals
 old:X.s₀.heap.objs.size<=C
 cell:∀x c,X.env.cells.lookup x=some c->c≠C
 pin:∀p∈X.pn++pins,p.1≠C
 fs:C∉X.fs
theorem qT{use:Option (Value->Sem Unit)}{Q':Value->Shared->Prop}{pos2:Pos}{f:D->Option D}
  (hcalm:X.calm=true) (hN:X.N.Nodup) (hk:ao ds=true\/k<=1) (hko:ko<=1) (hlen:ds.length<sizeLine) (S:gH X.env scope N') (hsub:∀x d o,flt scope ρ x=some (d,o)->x∈N')
  (hi:IE X ρ tg iter ds k)
  (turn:∀cl C s H fp,∀d∈ds,nr (lm X scope cl C N' s H fp) (flt scope ρ) tg ifs elt ko d (f d))
  (hs:∀x,foldedSetIterable iter X.env x=pure x) (I:aj X pins σ H s) (E:aH X ow H σ ρ)
  (fin:∀D C s6 H5 m6,nA X pins σ H5 s6 C m6->au H H5->ae X.K H5 (Kp ow H ko) (.lst (ds.filterMap f)) (.ref D)->compPost (model X.prog X.w) X.A X.xe use Q' (.ref D) C (.ok .next) s6) :
  wpAny (model X.prog X.w) X.A (comprehension (.ListComp elt [⟨tg,iter,ifs,0⟩] scope pos) scope X.env pos2 (newList []) false (eval iter X.env) use) Q' X.xe s:=by
 obtain⟨cl,hclos,h1,h2⟩:=uQ (env:=X.env) (scope:=scope) fun n hn=>I.ok.has n (S.fr n hn)
 refine wpAny_comprehension_free rfl hs hclos S.kind S.names ?_
 refine aL (hi ow pins s σ H (fun J H1=>au H H1/\Lz X.K J ds (Kd ow H k H1) H1) I ⟨E,fun J H1 a b=>⟨a,b⟩⟩) fun v s1 h1'=>aL h1' fun itv s2 h2'=>?_
 obtain⟨it,fp,tn,J,H2,rfl,I2,T,st2,f2,s12,itd⟩:=h2'
 have hD2:H2 s2.heap.objs.size=none:=I2.hok.fresh (QA _)
 refine wpAny_newObj_type (xz (fun x c hc=>(I2.cell x c (h1 x c hc).1).imp fun v q=>q.keeps fun b o e=>Qw _ e) fun h₁ hns₁ kp0 k60=>?_)
 have I3:aj X pins σ (aF H2 s2.heap.objs.size (.lst [])) { s2 with heap:=s2.heap.push { cls:=.type "list", dict:=none,data:=.seq ([]:List Value).toArray } } :=
  I2.laid (t':=s2.toks) (fun b u e=>Qw _ e) (QA _) ⟨QN _,[],0,.nil,QJ _ rfl⟩
 generalize hD:s2.heap.objs.size=D at *
 generalize hs3:({ s2 with heap:=s2.heap.push { cls:=.type "list", dict:=none,data:=.seq ([]:List Value).toArray } }:Shared)=s3 at *
 have hsz3:s3.heap.objs.size=D+1:=by rw[<- hs3];show(s2.heap.push _).objs.size=_;rw[Rq,hD]
 have f3:∀b∈fp,fQ X pins (aF H2 D (.lst [])) b:=fun b hb=>by
  obtain⟨g0,g⟩:=f2 b hb
  obtain⟨o,e,_⟩:=T.obj _ _ st2 b hb
  have hlt:=QE e
  rw[hD]at hlt
  exact⟨by rw[aq (QZ hlt)];exact g0,g⟩
 have fl3:∀b∈fp,b<s3.heap.objs.size:=fun b hb=>by
  obtain⟨o,e,_⟩:=T.obj _ _ st2 b hb
  have hlt:=QE e
  rw[hD]at hlt
  rw[hsz3];exact Nat.lt_succ_of_lt hlt
 have kp:∀b o,s3.heap.get? b=some o->h₁.get? b=some o:=kp0
 have kc:nB X scope (cellsFrom (s3.heap.objs.size+1) scope.names cl) s3.heap.objs.size:=BC I3 S h1 h2
 generalize hcl':cellsFrom (s3.heap.objs.size+1) scope.names cl=cl' at *
 have I4:=HG (s1:={ s3 with heap:=h₁,toks:=s3.toks+0 }) (N':=N') I3 S kc k60 f3 fl3 ⟨_,_,rfl⟩ hns₁ kp
 have sH2:∀vs,au H2 (aF H2 D (.lst vs)):=fun vs b o e=>by rw[aq (bj e hD2)];exact e
 let ow':Ow:=fun a=>if a=D then some none else ow a
 have ow'D:ow' D=some none:=if_pos rfl
 have ow'n:∀a,a≠D->ow' a=ow a:=fun a h=>if_neg h
 have own':∀{H':Hp} (vs:List V),H' D=some (.lst vs)->au H2 H'->cP ow' H':=fun {H'} vs hd sm a ha=>by
  by_cases hz:a=D
  ·subst hz;exact⟨_,hd⟩
  ·rw[ow'n a hz]at ha
   obtain⟨o,e⟩:=(E.same s12).own a ha
   exact⟨o,sm a o e⟩
 have E4:aH (lm X scope cl' s3.heap.objs.size N' s3 (aF H2 D (.lst [])) fp) ow' (aF H2 D (.lst [])) (nX X scope N' σ) (flt scope ρ):=by
  have E3:=Id (scope:=scope) (cl:=cl') (C:=s3.heap.objs.size) (N':=N') (s:=s3) (fp:=fp) (H0:=aF H2 D (.lst [])) (E.same s12) hN hsub
  refine⟨fun x d o h=>?_,own' [] aC (sH2 [])⟩
  obtain⟨i,v,e1,e2,e3,e4⟩:=E3.get x d o h
  refine⟨i,v,e1,e2,e3,ae.same (sH2 []) (e4.impH (fun a ob ha p=>?_) fun a p=>?_)⟩
  ·have hz:a≠D:=bj ha hD2
   cases o with
   | true=>exact⟨p.1,(ow'n a hz).trans p.2⟩
   | false=>exact fun _=>(ow'n a hz).trans (p rfl)
  ·cases o with
   | true=>cases p.1
   | false=>exact fun z=>(by cases z)
 generalize hX':lm X scope cl' s3.heap.objs.size N' s3 (aF H2 D (.lst [])) fp=X' at *
 have turn':∀d∈ds,nr X' (flt scope ρ) tg ifs elt ko d (f d):=fun d hd=>by rw[<- hX'];exact turn _ _ _ _ _ d hd
 have eK:X'.K=X.K:=by rw[<- hX']
 have eP:X'.prog=X.prog:=by rw[<- hX']
 have eW:X'.w=X.w:=by rw[<- hX']
 have eA:X'.A=X.A:=by rw[<- hX']
 have eE:X'.env=compEnvC scope cl' s3.heap.objs.size X.env:=by rw[<- hX']
 have eX:X'.xe=fun _ _=>False:=by rw[<- hX']
 have eC:X'.calm=true:=by rw[<- hX'];exact hcalm
 have stat:∀{H':Hp},(∀b∈fp,H' b=none)->∀b∈fp,fQ X' [] H' b:=fun hn b hb=>by
  rw[<- hX']
  refine⟨hn b hb,?_,?_,.inl hb,fun x c h=>(kc.k1 x c h).elim (fun q=>(f3 b hb).2.2.2.2.1 x c q) (fun q z=>by subst z;exact absurd (Nat.lt_trans q.1 (fl3 _ hb)) (Rx _)),fun p hp=>absurd (show p∈([]:List (Addr×Obj))from hp) (by simp)⟩
  ·show b≠s3.heap.objs.size
   exact QZ (fl3 b hb)
  ·intro z
   rcases QD.mp (I3.stkSub b z)with q|q
   ·exact(f3 b hb).2.1 q
   ·exact(f3 b hb).2.2.1 q
 let Pe:ba:=fun a b=>Kp ow H ko a b/\(b=true->a≠D)
 have loop:codeAny (model X.prog X.w) X.A (.compLoop (.ListComp elt [⟨tg,iter,ifs,0⟩] scope pos) 0 (.ref it) (.ref D) (compEnvC scope cl' s3.heap.objs.size X.env)) (compPost (model X.prog X.w) X.A X.xe use Q' (.ref D) s3.heap.objs.size) { s3 with heap:=h₁,toks:=s3.toks+0 }:=by
  refine zx (fun n s' => ∃(i:Nat) (σ':L2.St) (H':Hp) (vs:List V),aj X' [] σ' H' s'/\tn i s'.heap/\(∀b∈fp,H' b=none)/\aH X' ow' H' σ' (flt scope ρ)/\H' D=some (.lst vs)/\au H2 H' /\
   ah X.K H' Pe ((ds.take i).filterMap f) vs/\i<=ds.length/\n=ds.length-i) ?_ ds.length
   ⟨0,nX X scope N' σ,aF H2 D (.lst []),[],I4,?_,fun b hb=>(f3 b hb).1,E4,aC,sH2 [],?_,QN _,rfl⟩
  ·rintro n s5 ⟨i,σ5,H5,vs,I5,st5,fr5,E5,hD5,sm5,rp5,hi5,rfl⟩
   have stay:dJ (Kd ow H k H2) (Kd ow H k H2) H2 H5:=.same sm5 fun _ _ p=>p
   have itd5:=itd i H5 stay
   by_cases hlt:i<ds.length
   ·obtain⟨go,yl⟩:=itd5.1 ds[i] (by simp[hlt])
    have Ti:=T.item X' eP eW eK eC i [] s5 σ5 H5 (fun _ _=>False) I5 (stat fr5) st5 go
    rw[eA]at Ti
    refine aL Ti fun r s6 ⟨u,hr,h6⟩=>?_
    subst hr
    refine aL h6 fun _ s7 ⟨x,H7,I7,r7,y7,st7,fr7⟩=>?_
    obtain⟨sm7,rx7⟩:=yl x H7 y7
    obtain⟨ρ',b,⟨g,hg,hgd⟩,hext,hts,hel⟩:=turn' ds[i] (List.getElem_mem hlt)
    have rx7':ae X'.K H7 (fun a b=>b=true->ow' a=none) ds[i] x:=by
     rw[eK]
     rcases hk with hk|hk
     ·exact rx7.flat _ (oV hk (QS hlt))
     refine rx7.impH (fun a o ha p _=>?_) fun a _ z=>(by cases z)
     obtain⟨p,p2⟩:=p
     obtain⟨o2,ho2⟩:=p2 rfl
     show ow' a=none
     rw[ow'n a (bj ho2 hD2)]
     exact eQ E.own hk p
    have E7:=E5.same sm7
    have I7':=I7.pinned (stat fr7) (T.obj _ _ st7)
    have hg':=hg _ s7 σ5 H7 x u (fun σ' H'=>aH X' ow' H' σ' ρ'/\H7=H') I7' r7 (hgd ow' x σ5 H7 _ I7.len E7 rx7' fun σ' _ e=>⟨e,rfl⟩)
    rw[eP,eW,eA,eE,eX]at hg'
    refine aL hg' fun _ s8 ⟨σ8,H8,I8,E8,eH8⟩=>?_
    subst eH8
    have ht':=hts ow' _ s8 σ8 H7 (fun c H'=>c=b/\au H7 H') I8 ⟨E8,fun H' sm=>⟨rfl,sm⟩⟩
    rw[eP,eW,eA,eE,eX]at ht'
    refine aL ht' fun c s9 ⟨H9,I9,ec,sm9⟩=>?_
    subst ec
    have back:∀{H':Hp} {σ':L2.St} {s':Shared},aj X' ([]++kN fp s7.heap) σ' H' s'->aj X' [] σ' H' s'/\tn (i+1) s'.heap/\∀b∈fp,H' b=none:=fun {H' σ' s'} J7=>by
     refine⟨J7.unpinned,T.keep _ _ _ st7 fun b hb o e=>(J7.pin (b,o) (QY _ (QY _ (gO hb e)))).1,fun b hb=>?_⟩
     obtain⟨o,e,d⟩:=T.obj _ _ st7 b hb
     exact(J7.pin (b,o) (QY _ (QY _ (gO hb e)))).2.1
    have envf:∀{H':Hp} {σ':L2.St},aH X' ow' H' σ' ρ'->aH X' ow' H' σ' (flt scope ρ):=fun {H' σ'} e=>⟨fun x d o h=>e.get x d o (hext x _ h),e.own⟩
    have tk:(ds.take (i+1)).filterMap f=(ds.take i).filterMap f++(f ds[i]).toList:=by
     rw[List.take_add_one]
     simp only[QS hlt,Option.toList_some,List.filterMap_append]
     congr 1
    have sm59:au H5 H9:=sm7.trans sm9
    cases hc:c with
    | false =>
     rw[if_neg QT]
     subst hc
     obtain⟨I9',st9,fr9⟩:=back I9
     have fn:f ds[i]=none:=by
      cases hf:f ds[i]with
      | none=>rfl
      | some d'=>rw[hf]at hel;cases hel.1
     refine⟨ds.length-(i+1),by omega,i+1,σ8,H9,vs,I9',st9,fr9,envf (E8.same sm9),sm59 _ _ hD5,sm5.trans sm59,?_,hlt,rfl⟩
     rw[tk,fn,Option.toList_none,Ra]
     exact rp5.same sm59
    | true =>
     rw[if_pos rfl]
     subst hc
     obtain⟨d',fs,hed⟩:∃d',f ds[i]=some d'/\ED X' ρ' elt d' ko:=by
      cases hf:f ds[i]with
      | none=>rw[hf]at hel;cases hel
      | some d'=>rw[hf]at hel;exact⟨d',rfl,hel.2⟩
     have he':=hed ow' _ s9 σ8 H9 (fun v H'=>au H9 H'/\ae X'.K H' (Kp ow' H9 ko) d' v) I9 ⟨E8.same sm9,fun v H' a r=>⟨a,r⟩⟩
     rw[eP,eW,eA,eE,eX]at he'
     refine aL he' fun y s10 ⟨v10,H10,I10,r10,sm10,rp10⟩=>?_
     have sm510:=sm59.trans sm10
     have hD10:=sm510 _ _ hD5
     have hlv:vs.length<sizeLine:=by
      rw[<- rp5.length]
      refine Rb (List.length_filterMap_le _ _) ?_
      rw[Q1];omega
     have ha':=iK (X:=X') _ s10 σ8 H10 (.ref D) [v10] (.ref D) [y] (fun w H'=>aF H10 D (.lst (vs++[v10]))=H') I10 rfl (.cons r10 .nil) ⟨D,vs,v10,rfl,rfl,hD10,hlv,rfl⟩
     rw[eP,eW,eA,eX]at ha'
     refine aL ha' fun _ s11 ⟨w11,H11,I11,_,eH11⟩=>?_
     subst eH11
     obtain⟨I11',st11,fr11⟩:=back I11
     have s2D:∀a o,H2 a=some o->a≠D:=fun a o e=>bj e hD2
     have stD:dJ Pe Pe H10 (aF H10 D (.lst (vs++[v10]))):=⟨fun a o h hn=>by rw[aq (fun z=>by subst z;rw[hD10]at h;cases h;exact hn)];exact h,fun a ws h p=>by rw[aq (p.2 rfl)];exact h,fun _ _ _ p=>p,fun _ p=>p⟩
     refine⟨ds.length-(i+1),by omega,i+1,σ8,_,vs++[v10],I11',st11,fr11,?_,aC,?_,?_,hlt,rfl⟩
     ·have E10:=envf ((E8.same sm9).same sm10)
      refine⟨fun x d o h=>?_,own' _ aC (fun a o e=>by rw[aq (s2D a o e)];exact(sm5.trans sm510) a o e)⟩
      obtain⟨i',v',e1,e2,e3,e4⟩:=E10.get x d o h
      refine⟨i',v',e1,e2,e3,e4.mono ⟨fun a o h hn=>by rw[aq (fun z=>by subst z;rw[hD10]at h;cases h;exact hn)];exact h,fun a ws h p=>?_,fun _ _ _ p=>p,fun _ p=>p⟩⟩
      have hz:a≠D:=by
       intro z;subst z
       cases o with
       | true=>have:=p.2;rw[ow'D]at this;cases this
       | false=>have:ow' a=none:=p rfl;rw[ow'D]at this;cases this
      rw[aq hz];exact h
     ·intro a o e
      rw[aq (s2D a o e)]
      exact(sm5.trans sm510) a o e
     ·rw[tk,fs,Option.toList_some]
      refine((rp5.same sm510).mono stD).append (ah.one (ae.mono stD ?_))
      rw[eK]at rp10
      have sH9:au H H9:=s12.trans (sm5.trans sm59)
      exact rp10.imp fun a b p=>EJ sH9 (sm59 _ _ hD5) hko p
   ·have hstop:=itd5.2 (by omega)
    have Td:=T.done X' eP eW eK eC i [] s5 σ5 H5 (fun _ _=>False) I5 (stat fr5) st5 hstop
    rw[eA]at Td
    refine aL Td fun r s6 ⟨hr,I6⟩=>?_
    subst hr
    have ei:i=ds.length:=by omega
    subst ei
    rw[SO]at rp5
    have hC:X'.env.locals=s3.heap.objs.size:=by rw[eE];rfl
    obtain⟨m6,hn6,_⟩:=I6.loc
    rw[hC]at hn6
    have hfree:H5 s3.heap.objs.size=none:=by have:=I6.free;rw[hC]at this;exact this
    have IX:aj X pins σ H5 s6:=by
     have b6:=I6.base
     have o6:=I6.os
     have k6:=I6.hok
     have g6:=I6.bare
     rw[<- hX']at b6 o6 k6
     exact I3.call' o6 b6 k6 g6 fun b hb=>⟨(f3 b hb).2.2.2.1,(f3 b hb).2.1,(f3 b hb).2.2.2.2.1,(f3 b hb).2.2.2.2.2⟩
    have hHD:H D=none:=s12.free hD2
    refine fin D _ s6 H5 m6 ⟨IX,hn6,hfree,RN I3.lt,I3.sz,fun x c hc z=>?_,fun p hp z=>?_,I3.nofs (QA _)⟩ (s12.trans sm5) ?_
    ·obtain⟨v,hv⟩:=I3.cell x c hc
     have:=hv.lt
     rw[z]at this;exact absurd this (Rx _)
    ·have:=QE (I3.pin p hp).1
     rw[z]at this;exact absurd this (Rx _)
    ·rw[ae]
     exact⟨D,vs,true,rfl,hD5,yM E.own hHD hko,rp5.imp fun _ _ p=>p.1⟩
  ·exact T.keep 0 s2.heap h₁ st2 fun b hb o e=>kp b o (by rw[<- hs3];exact Qw _ e)
  ·exact ah.nil
 exact codeAny_compStart_list loop (T.self _ 0 _ _ _ (T.keep 0 s2.heap h₁ st2 fun b hb o e=>kp b o (by rw[<- hs3];exact Qw _ e)) loop)
theorem nA.done{H5:Hp}{s6:Shared}{C:Addr}{m6:Str->Option Value}(e:nA X pins σ H5 s6 C m6)(sb:Heap.SameBut C s6.heap h'):aj X pins σ H5 { s6 with heap:=h' } :=
 e.inv.turned (t':=s6.toks) (it:=C) (fun b o hb e=>sb.extBut b o hb e) e.free e.loc (.inr e.old) e.cell e.pin
theorem Fg{f:D->Option D}
  (hcalm:X.calm=true) (hN:X.N.Nodup) (hk:ao ds=true\/k<=1) (hko:ko<=1) (hlen:ds.length<sizeLine) (S:gH X.env scope N') (hsub:∀x d o,flt scope ρ x=some (d,o)->x∈N')
  (hi:IE X ρ tg iter ds k)
  (turn:∀cl C s H fp,∀d∈ds,nr (lm X scope cl C N' s H fp) (flt scope ρ) tg ifs elt ko d (f d))
  (hs:∀x,foldedSetIterable iter X.env x=pure x:=by intro _;rfl) :
  ED X ρ (.ListComp elt [⟨tg,iter,ifs,0⟩] scope pos) (.lst (ds.filterMap f)) ko:=by
 intro ow pins s σ H Q I ⟨E,q⟩
 rw[eval_ListComp]
 refine qT hcalm hN hk hko hlen S hsub hi turn hs I E fun D C s6 H5 m6 ce sm rp=>?_
 exact⟨m6,ce.ns,fun h' sb=>⟨.ref D,H5,ce.done sb,rfl,q (.ref D) H5 sm rp⟩⟩
theorem D1{D0:lZ}{spos:Pos}{f:D->Option D}
  (hcalm:X.calm=true) (hN:X.N.Nodup) (hk:ao ds=true\/k<=1) (hko:ko<=1) (hlen:ds.length<sizeLine) (S:gH X.env scope N') (hsub:∀x d o,flt scope ρ x=some (d,o)->x∈N')
  (hi:IE X ρ tg iter ds k)
  (turn:∀cl C s H fp,∀d∈ds,nr (lm X scope cl C N' s H fp) (flt scope ρ) tg ifs elt ko d (f d))
  (hs:∀x,foldedSetIterable iter X.env x=pure x) (I:aj X pins σ H s) (E:aH X ow H σ ρ)
  (hsw:swapsWith (.ListComp elt [⟨tg,iter,ifs,0⟩] scope pos) (some (.Name x px)) spos.line X.env=pure true)
  (hx:X.N[i]?=some x) (hl:wg X.env.scope x) (hf:X.fn x=true\/X.env.scope.names.lookup x=some .local)
  (q:∀v H',au H H'->ae X.K H' (Kp ow H ko) (.lst (ds.filterMap f)) v->D0.nx (σ.set i (some v)) H') :
  wpAny (model X.prog X.w) X.A (exec (.Assign [.Name x px] (.ListComp elt [⟨tg,iter,ifs,0⟩] scope pos) spos) X.env) (SP X pins D0) X.xe s:=by
 rw[exec_Assign_Name_used _ _ _ _ hsw]
 refine Qx (wpAny_standAt (Qx ?_))
 show wpAny _ X.A (do let _ <- comprehension (.ListComp elt [⟨tg,iter,ifs,0⟩] scope pos) scope X.env _ (newList []) false (eval iter X.env) (some (assign (.Name x px) X.env))) _ _ s
 refine Qx (RQ (qT (use:=some (assign (.Name x px) X.env)) (Q':=fun _ s'=>SP X pins D0 .next s') hcalm hN hk hko hlen S hsub hi turn hs I E fun D C s6 H5 m6 ce sm rp=>?_) (fun _ s' hq=>QL (QL hq)) fun _ _ e=>e)
 obtain⟨o,es,ep,ho,hd,hrest⟩:=id ce.ns
 have Ip:aj X (pins++[(C,o)]) σ H5 s6:=ce.inv.pins_of fun p hp=>by
  rcases QX.mp hp with z|z
  ·exact ce.inv.pin p (QY _ z)
  ·have e:p=(C,o):=by simpa using z
   subst e
   exact⟨ho,ce.free,ce.loc,ce.fs,fun v z=>by rw[hd]at z;cases z⟩
 show wpAny _ X.A (assign (.Name x px) X.env (.ref D)) _ _ _
 refine aL (gY (i:=i) hN hx hl hf (pins++[(C,o)]) s6 σ H5 (.ref D) (.ref D) (fun σ' H'=>σ.set i (some (.ref D))=σ'/\H5=H') Ip rfl ⟨rfl,rfl⟩) fun _ s7 ⟨σ7,H7,I7,e1,e2⟩=>?_
 subst e1 e2
 have pC:=(I7.pin (C,o) (QY _ (QY _ (by simp)))).1
 refine⟨m6,⟨o,es,ep,pC,hd,hrest⟩,fun h' sb=>?_⟩
 have ce':nA X pins (σ.set i (some (.ref D))) H5 s7 C m6:=⟨I7.unpinned,⟨o,es,ep,pC,hd,hrest⟩,ce.free,ce.loc,ce.old,ce.cell,ce.pin,ce.fs⟩
 exact⟨_,H5,ce'.done sb,q (.ref D) H5 sm rp⟩
mutual
noncomputable def D.py:D->PyData
 | .non=>.none
 | .bl b=>.bool b
 | .int i=>.int i
 | .str x=>.str x
 | .dct _ _=>.dict []
 | .typ _=>.dict []
 | .dcf _ _=>.dict []
 | .sn _=>.dict []
 | .obj _ _ _=>.dict []
 | .cls _=>.dict []
 | .tup l=>.tuple (fe l)
 | .lst l=>.list (fe l)
noncomputable def fe:List D->List PyData
 | []=>[]
 | d::l=>d.py::fe l
end
inductive Rs(α:Type) where
 | ok (a:α) (l:List Prop)
 | st
noncomputable def aB:List Prop->Prop
 | []=>True
 | p::l=>p/\aB l
noncomputable def Rs.bnd{α β:Type}(r:Rs α)(f:α->Rs β):Rs β :=
 match r with
 | .st=>.st
 | .ok a l=>match f a with
  | .st=>.st
  | .ok b m=>.ok b (l++m)
noncomputable def Qo{α:Type}:Option α->Rs α
 | some a=>.ok a []
 | none=>.st
noncomputable def gd(b:Bool):List Prop->List Prop
 | []=>[]
 | m=>[b=true->aB m]
noncomputable abbrev R1:=Rs (D×Nat)
noncomputable def mk(d:D)(k:Nat):R1:=.ok (d,kn d k) []
structure Fx where
 fn:Str->Option (List D->Rs D)
 con:Str->Option D
 blt:Str->Option (List D->R1)
 itr:Str->Option (List D->Nat->R1)
 mth:Str->Option (D->List D->R1)
 mtt:Str->Option (List D->List D->Nat->Rs (List D))
 slf:D->Option Int->Option Int->R1:=fun _ _ _=>.st
 fld:Str->Str->Bool:=fun _ _=>false
 omt:Str->Str->Option (List D->Rs D):=fun _ _=>none
noncomputable def C7:Const->Option D
 | .none=>some .non
 | .bool b=>some (.bl b)
 | .int i=>some (.int i)
 | .str x=>some (.str x)
 | _=>none
noncomputable def dO:Nat:=2 ^ 9000
noncomputable def bS(a b:Int):Prop:=a.natAbs<2 ^ 64\/b.natAbs<2 ^ 64\/(a.natAbs<dO/\b.natAbs<dO)\/(Builtin.Int.intBits a<=2 ^ 22/\Builtin.Int.intBits b<=2 ^ 22)
noncomputable def pq(b:Int):Prop:=b≠0/\b.natAbs<dO
noncomputable def Cp(a b:Int):Prop:=0<=b/\b<=1000/\a.natAbs<2 ^ 64
noncomputable def bJ:Nat:=40000
noncomputable def BE(op:Operator)(a b:Int):R1 :=
 match op with
 | .Add=>.ok (.int (a+b),0) []
 | .Sub=>.ok (.int (a-b),0) []
 | .Mult=>.ok (.int (a*b),0) [bS a b]
 | .FloorDiv=>.ok (.int (a.fdiv b),0) [pq b]
 | .Mod=>.ok (.int (a.fmod b),0) [b≠0]
 | .Pow=>.ok (.int (a ^ b.toNat),0) [Cp a b]
 | _=>.st
noncomputable def rA:Operator->Bool
 | .Add=>true
 | _=>false
noncomputable def uf(op:Operator)(x y:D)(k j:Nat):R1 :=
 match x,y with
 | .int a,.int b=>BE op a b
 | .str a,.str b=>if rA op=true then .ok (.str (a++b),0) [a.length+b.length<=bJ]else .st
 | .tup a,.tup b=>if rA op=true then .ok (.tup (a++b),kn (.tup (a++b)) (kj k j)) [a.length+b.length<=bJ]else .st
 | .lst a,.lst b=>if rA op=true then .ok (.lst (a++b),0) [ao (a++b)=true,a.length+b.length<=bJ]else .st
 | _,_=>.st
noncomputable def xD(op:UnaryOp)(x:D):Option D :=
 match op,x with
 | .USub,.int a=>some (.int (-a))
 | .Not,.bl b=>some (.bl (!b))
 | _,_=>none
noncomputable def jR(x y:D):Bool:=SeqAt.shaped x.py&&SeqAt.shaped y.py
noncomputable def gE(x y:D):Bool:=PyData.eqv x.py y.py
noncomputable def cX:List D->Option (List Int)
 | []=>some []
 | .int i::l=>(cX l).map (i :: ·)
 | _::_=>none
noncomputable def wO(x:D)(l:List D):Rs Bool:=.ok (l.any fun y=>gE y x) [jR (.tup l) x=true]
noncomputable def D.isNon:D->Bool
 | .non=>true
 | _=>false
noncomputable def fD:D->Option (List D)
 | .tup l=>some l
 | .lst l=>some l
 | _=>none
noncomputable def ga(op:CmpOp)(a b:Int):Option Bool :=
 match op with
 | .Lt=>some (decide (a<b))
 | .LtE=>some (decide (a<=b))
 | .Gt=>some (decide (b<a))
 | .GtE=>some (decide (b<=a))
 | _=>none
noncomputable def wF(op:CmpOp)(x y:D):Option Bool :=
 match x,y with
 | .int a,.int b=>ga op a b
 | _,_=>none
noncomputable def Rs.nt:Rs Bool->Rs Bool
 | .ok b l=>.ok (!b) l
 | .st=>.st
noncomputable def le:D->Option aP
 | .int i=>some (.inl i)
 | .str x=>some (.inr x)
 | _=>none
noncomputable def tW(ks:List aP)(ds:List D)(k:aP):Option D:=((ks.zip ds).find? fun p=>decide (p.1=k)).map (·.2)
noncomputable def iU(ks:List aP)(k:aP):Bool:=ks.any fun j=>decide (j=k)
noncomputable def jT(ks:List aP)(k:aP):List aP:=cond (iU ks k) ks (ks++[k])
noncomputable def ej{α:Type}(ks:List aP)(ds:List α)(k:aP)(d:α):List α:=cond (iU ks k) (List.zipWith (fun j e=>if j=k then d else e) ks ds) (ds++[d])
noncomputable def CM(x y:D):Rs Bool :=
 match y with
 | .tup l=>wO x l
 | .lst l=>wO x l
 | .dct ks _=>(match le x with|some k=>.ok (iU ks k) []|none=>.st)
 | .str b=>(match x with | .str a=>.ok (Txt.contains b a) []|_=>.st)
 | _=>.st
noncomputable def iV(op:CmpOp)(x y:D):Rs Bool :=
 match op with
 | .Eq=>.ok (gE x y) [jR x y=true]
 | .NotEq=>.ok (!gE x y) [jR x y=true]
 | .In=>CM x y
 | .NotIn=>(CM x y).nt
 | .Is=>(match y with | .non=>.ok x.isNon []|_=>.st)
 | .IsNot=>(match y with | .non=>.ok (!x.isNon) []|_=>.st)
 | op=>Qo (wF op x y)
noncomputable def D.ty0:D->Option String
 | .non=>some "NoneType"
 | .bl _=>some "bool"
 | .int _=>some "int"
 | .str _=>some "str"
 | .dct _ _=>some "dict"
 | .tup _=>some "tuple"
 | .lst _=>some "list"
 | _=>none
noncomputable def HF(x:D)(T:String):Option Bool:=x.ty0.map fun a=>decide (a=T) || decide (a = "bool" /\ T = "int")
noncomputable def wl(x:Str):Option String :=
 if x = "int" then some "int" else if x = "bool" then some "bool" else if x = "str" then some "str" else if x = "tuple" then some "tuple" else if x = "list" then some "list" else none
noncomputable def io:List Str:=["len", "tuple", "list", "abs", "all", "sum", "isinstance", "set", "int", "bool", "str", "range", "zip", "enumerate", "any", "sorted", "min", "max", "reversed"]
noncomputable def lh:Expr->Bool
 | .Tuple .. => true
 | _=>false
noncomputable def fq(e tg:Expr):Bool :=
 match e with
 | .Call (.Name f _) _ _ _=>if f = "enumerate" \/ f = "zip" then lh tg else true
 | _=>true
noncomputable def Cj(x:Str):List D:=x.cps.toList.map fun c=>.str ⟨#[c]⟩
noncomputable def items:D->Option (List D)
 | .lst l=>some l
 | .tup l=>some l
 | .str x=>if (x.cps.all fun c=>decide (c<128))=true then some (Cj x)else none
 | _=>none
noncomputable def aI(ρ:ac)(x:Str)(y:D×Bool):ac:=fun z=>if z=x then some y else ρ z
noncomputable def cq(sc:Scope)(x:Str):Bool:=sc.names.lookup x==some .local || sc.names.lookup x==some .cell
noncomputable def aQ(sc:Scope):List Expr->List D->ac->Option ac
 | [],[],ρ=>some ρ
 | .Name x _::es,d::ds,ρ=>if cq sc x=true then aQ sc es ds (aI ρ x (d,false))else none
 | _,_,_=>none
noncomputable def bK(sc:Scope)(tg:Expr)(d:D)(ρ:ac):Option ac :=
 match tg with
 | .Name x _=>if cq sc x=true then some (aI ρ x (d,false))else none
 | .Tuple es _ _=>(match d with | .tup ds=>aQ sc es ds ρ|_=>none)
 | _=>none
noncomputable def nP(sc scope:Scope):Bool :=
 decide (scope.kind=.function)&&scope.names.all (fun y=>decide (y.2 ≠ .local) || decide (scope.names.lookup y.1=some .local)) &&
 scope.names.all (fun y=>decide (y.2 ≠ .free) || cq sc y.1&&decide (sc.names.lookup y.1=some .cell) || decide (sc.names.lookup y.1=some .free))&&decide ((scope.names.map (·.1)).Nodup)
noncomputable def gp(step:D->Rs (Option (D×Nat))):List D->Rs (List D×Nat)
 | []=>.ok ([],0) []
 | d::l=>(step d).bnd fun r=>(gp step l).bnd fun q=>match r with
  | none=>.ok q []
  | some p=>.ok (p.1::q.1,kj p.2 q.2) []
noncomputable def tq(x:D)(i:Int)(k:Nat):R1 :=
 match fD x with
 | some l=>(match atI l i with|some d=>mk d k|none=>.st)
 | none=>.st
noncomputable def wW(p:D×Nat)(f:Int->R1):R1 :=
 match p.1 with
 | .int j=>f j
 | _=>.st
noncomputable def vL:List aP->List (List (List Int))->aP->Option (List (List Int))
 | j::ks,l::ls,k=>if j=k then some l else vL ks ls k
 | _,_,_=>none
noncomputable def jD(p q:D×Nat):R1 :=
 match p.1 with
 | .dct ks ds=>(match le q.1 with|some k=>(match tW ks ds k with|some d=>.ok (d,0) []|none=>.st)|none=>.st)
 | .dcf ks ls=>(match le q.1 with|some k=>(match vL ks ls k with|some l=>.ok (.lst (l.map fun ns=>.tup (ns.map D.int)),1) []|none=>.st)|none=>.st)
 | x=>wW q fun j=>tq x j p.2
noncomputable def Bz(l:List D)(lo hi:Option Int):List D:=(l.drop (HT.sIx l.length 0 lo)).take (HT.sIx l.length l.length hi-HT.sIx l.length 0 lo)
noncomputable def dw(x:Str):Bool:=decide ((x==("__debug__" : Str))=false)&&decide ((x==("__classdict__" : Str))=false)
noncomputable def xi(b:Bool)(r:Rs Bool):Rs Bool :=
 match r with
 | .ok c m=>.ok (b&&c) (gd b m)
 | .st=>match b with|false=>.ok false []|true=>.st
noncomputable def Cw(b:Bool)(r:Rs Bool):Rs Bool :=
 match r with
 | .ok c m=>.ok (b || c) (gd (!b) m)
 | .st=>match b with|true=>.ok true []|false=>.st
mutual
noncomputable def pY(b:Bool):D->D->D
 | .int x,.int y=>.int (cond b x y)
 | .bl x,.bl y=>.bl (cond b x y)
 | .tup x,.tup y=>if x.length=y.length then .tup (kY b x y)else cond b (.tup x) (.tup y)
 | x,y=>cond b x y
noncomputable def kY(b:Bool):List D->List D->List D
 | x::l,y::m=>pY b x y::kY b l m
 | l,m=>cond b l m
end
noncomputable def yQ(t:Bool)(k j:Nat):Nat:=if k=j then k else cond t k j
noncomputable def CO(b:Bool)(r s:R1):R1 :=
 match r with
 | .st=>(match b with|true=>.st|false=>s)
 | .ok p m=>match s with
  | .st=>(match b with|true=>.ok p m|false=>.st)
  | .ok q n=>.ok (pY b p.1 q.1,yQ b p.2 q.2) (gd b m++gd (!b) n)
noncomputable def mJ(Φ:Fx)(x:Str)(sc:Scope)(ρ:ac):R1 :=
 if dw x=true then
  (if sc.names.lookup x=some .globalImplicit then(match Φ.con x with|some d=>.ok (d,0) []|none=>match wl x with|some T=>.ok (.typ T,0) []|none=>.st)
  else match ρ x with
   | some p=>mk p.1 (cond p.2 2 1)
   | none=>.st)
 else .st
noncomputable def jV(Φ:Fx)(f:Str)(it:Bool)(ds:List D)(k:Nat):R1 :=
 match Φ.fn f with
 | some F=>(F ds).bnd fun d=>.ok (d,0) []
 | none=>match (if it=true then Φ.itr f else none)with
  | some B=>B ds k
  | none=>match Φ.blt f with
   | some B=>B ds
   | none=>.st
noncomputable def lE{α:Type}(p:D×Nat)(f:Bool->Rs α):Rs α :=
 match p.1 with
 | .bl j=>f j
 | _=>.st
noncomputable def fldD(Φ:Fx)(x:D)(f:Str):R1 :=
 match x with
 | .obj n ns ds=>if Φ.fld n f=true then(match (ns.zip ds).lookup f with|some d=>.ok (d,0) []|none=>.st)else .st
 | _=>.st
noncomputable def ui:Expr->Bool
 | .Call (.Name _ _) [] [] _=>false
 | _=>true
noncomputable def Be(Φ:Fx)(a:Expr)(m:Str)(x:D)(ds:List D):R1 :=
 if ui a=true then(match Φ.mth m with|some M=>M x ds|none=>.st)else .st
noncomputable def IH(op op2:CmpOp)(x y z:D):R1 :=
 match x,y,z with
 | .int a,.int b,.int c=>(match ga op a b,ga op2 b c with|some r,some r2=>.ok (.bl (r&&r2),0) []|_,_=>.st)
 | _,_,_=>.st
mutual
noncomputable def av(Φ:Fx):Expr->Bool->Scope->ac->R1
  | .Constant c _ _,_,_,_=>(match C7 c with|some d=>.ok (d,0) []|none=>.st)
  | .Name x _,_,sc,ρ=>mJ Φ x sc ρ
  | .BinOp a op b _,_,sc,ρ=>(av Φ a false sc ρ).bnd fun p=>(av Φ b false sc ρ).bnd fun q=>uf op p.1 q.1 p.2 q.2
  | .UnaryOp op a _,_,sc,ρ=>(av Φ a false sc ρ).bnd fun p=>(match xD op p.1 with|some d=>.ok (d,0) []|none=>.st)
  | .BoolOp op es _,_,sc,ρ=>if es.isEmpty=true then .st else(dW Φ op es sc ρ).bnd fun b=>.ok (.bl b,0) []
  | .Compare a [op] [b] _,_,sc,ρ=>(av Φ a false sc ρ).bnd fun p=>(av Φ b false sc ρ).bnd fun q=>(iV op p.1 q.1).bnd fun r=>.ok (.bl r,0) []
  | .Compare a [op,op2] [b,c] _,_,sc,ρ=>(av Φ a false sc ρ).bnd fun p=>(av Φ b false sc ρ).bnd fun q=>(av Φ c false sc ρ).bnd fun t=>IH op op2 p.1 q.1 t.1
  | .IfExp c a b _,_,sc,ρ=>(av Φ c false sc ρ).bnd fun p=>lE p fun t=>CO t (av Φ a false sc ρ) (av Φ b false sc ρ)
  | .Tuple es _ _,_,sc,ρ=>(bQ Φ es sc ρ).bnd fun p=>if p.1.length<=bJ then mk (.tup p.1) p.2 else .st
  | .Dict [] [] _,_,_,_=>.ok (.dct [] [],0) []
  | .List es _,_,sc,ρ=>(bQ Φ es sc ρ).bnd fun p=>if p.1.length<=bJ/\p.2<=1 then .ok (.lst p.1,p.2) []else .st
  | .Subscript a i _,_,sc,ρ=>(av Φ a false sc ρ).bnd fun p=>(av Φ i false sc ρ).bnd fun q=>jD p q
  | .Call (.Name f _) args [] _,it,sc,ρ =>
    if sc.names.lookup f=some .globalImplicit then(bQ Φ args sc ρ).bnd fun p=>jV Φ f it p.1 p.2
    else .st
  | .Call (.Attribute a m ap) args [] cp,_,sc,ρ=>if (ap.endLine==cp.line)=true then(av Φ a false sc ρ).bnd fun p=>(bQ Φ args sc ρ).bnd fun q=>Be Φ a m p.1 q.1 else .st
  | .ListComp elt [⟨tg,iter,ifs,0⟩] scope _,_,sc,ρ =>
    if nP sc scope=true then(av Φ iter true sc ρ).bnd fun p=>(match items p.1 with
      | some ds=>if fq iter tg=true then
          (Rs.ok () [ds.length<=bJ,ao ds=true\/p.2<=1]).bnd fun _=>(gp (fun d=>match bK scope tg d (flt scope ρ)with
            | none=>.st
            | some ρ'=>(dW Φ .And ifs scope ρ').bnd fun b=>cond b ((av Φ elt false scope ρ').bnd fun r=>.ok (some r) []) (.ok none [])) ds).bnd fun q=>if q.2<=1 then .ok (.lst q.1,q.2) []else .st
        else .st
      | none=>.st)
    else .st
  | _,_,_,_=>.st
noncomputable def bQ(Φ:Fx):List Expr->Scope->ac->Rs (List D×Nat)
 | [],_,_=>.ok ([],0) []
 | e::es,sc,ρ=>(av Φ e false sc ρ).bnd fun p=>(bQ Φ es sc ρ).bnd fun q=>.ok (p.1::q.1,kj p.2 q.2) []
noncomputable def dW(Φ:Fx):BoolOp->List Expr->Scope->ac->Rs Bool
 | .And,[],_,_=>.ok true []
 | .Or,[],_,_=>.ok false []
 | .And,e::es,sc,ρ=>(av Φ e false sc ρ).bnd fun p=>lE p fun b=>xi b (dW Φ .And es sc ρ)
 | .Or,e::es,sc,ρ=>(av Φ e false sc ρ).bnd fun p=>lE p fun b=>Cw b (dW Φ .Or es sc ρ)
noncomputable def vY(Φ:Fx):Option Expr->Scope->ac->Rs (Option Int)
 | none,_,_=>.ok none []
 | some e,sc,ρ=>(av Φ e false sc ρ).bnd fun p=>(match p.1 with | .int i=>.ok (some i) []|_=>.st)
end
theorem qj{Φ:Fx}{op:BoolOp}:av Φ (.BoolOp op es p) it sc ρ=(if es.isEmpty=true then .st else(dW Φ op es sc ρ).bnd fun b=>.ok (.bl b,0) []):=rfl
theorem ik{Φ:Fx}{p:Pos}:av Φ (.Call (.Name f p) args [] q) it sc ρ=(if sc.names.lookup f=some .globalImplicit then(bQ Φ args sc ρ).bnd fun p=>jV Φ f it p.1 p.2 else .st):=rfl
theorem tT{Φ:Fx}:av Φ (.Call (.Attribute a m ap) args [] cp) it sc ρ=(if (ap.endLine==cp.line)=true then(av Φ a false sc ρ).bnd fun p=>(bQ Φ args sc ρ).bnd fun q=>Be Φ a m p.1 q.1 else .st):=rfl
theorem qi{Φ:Fx}{q:Pos}:av Φ (.ListComp elt [⟨tg,iter,ifs,0⟩] scope q) it sc ρ=(if nP sc scope=true then(av Φ iter true sc ρ).bnd fun p=>(match items p.1 with
      | some ds=>if fq iter tg=true then
          (Rs.ok () [ds.length<=bJ,ao ds=true\/p.2<=1]).bnd fun _=>(gp (fun d=>match bK scope tg d (flt scope ρ)with
            | none=>.st
            | some ρ'=>(dW Φ .And ifs scope ρ').bnd fun b=>cond b ((av Φ elt false scope ρ').bnd fun r=>.ok (some r) []) (.ok none [])) ds).bnd fun q=>if q.2<=1 then .ok (.lst q.1,q.2) []else .st
        else .st
      | none=>.st)
    else .st):=rfl
variable{Φ:Fx}{F:List D->Rs D}{B:List D->R1}
inductive Fl where
 | nx (ρ:ac)|rt (d:D)|bk (ρ:ac)|ct (ρ:ac)
noncomputable def jo:Expr->Bool
 | .ListComp .. => true
 | .SetComp .. => true
 | .DictComp .. => true
 | _=>false
noncomputable def wx(l:List D)(i:Int)(d:D):Option (List D):=(j7 l.length i).map fun j=>l.set j d
noncomputable def kW(f:ac->Rs Fl):Fl->Rs Fl
 | .nx ρ=>f ρ
 | .ct ρ=>f ρ
 | .bk ρ=>.ok (.nx ρ) []
 | .rt d=>.ok (.rt d) []
noncomputable def fc(bind:D->ac->Option ac)(body:ac->Rs Fl):List D->ac->Rs Fl
 | [],ρ=>.ok (.nx ρ) []
 | d::l,ρ=>match bind d ρ with
  | none=>.st
  | some ρ1=>(body ρ1).bnd (kW (fc bind body l))
noncomputable def qD(test:ac->Rs Bool)(body:ac->Rs Fl):Nat->ac->Rs Fl
 | 0,_=>.st
 | n+1,ρ=>(test ρ).bnd fun b=>cond b ((body ρ).bnd (kW (qD test body n))) (.ok (.nx ρ) [])
noncomputable def demX(x:Str)(ρ:ac):ac:=fun y=>if y=x then(ρ y).map fun p=>(p.1,false)else ρ y
noncomputable def demA(x:Str)(ρ:ac):ac:=fun y=>if y=x then(ρ y).map fun p=>(p.1,p.2&&p.1.lless)else ρ y
noncomputable def demL:List Expr->ac->ac
 | [],ρ=>ρ
 | .Name x _::es,ρ=>demL es (demA x ρ)
 | .Subscript (.Name x _) _ _::es,ρ=>demL es (demA x ρ)
 | _::es,ρ=>demL es ρ
noncomputable def demote(e:Expr)(ρ:ac):ac :=
 match e with
 | .Name x _=>demX x ρ
 | .Subscript (.Name x _) _ _=>demX x ρ
 | .Call _ args _ _=>demL args ρ
 | _=>ρ
noncomputable def pT(sc:Scope)(x:Str)(p:D×Nat)(ρ:ac):Rs Fl :=
 if cq sc x=true then
  match p.2 with
  | 0=>.ok (.nx (aI ρ x (p.1,true))) []
  | 1=>.ok (.nx (aI ρ x (p.1,false))) []
  | _=>.st
 else .st
noncomputable def pX(ρ:ac)(x:Str)(f:List D->Rs Fl):Rs Fl :=
 match ρ x with
 | some (.lst l,true)=>if dw x=true then f l else .st
 | _=>.st
noncomputable def oP(sc:Scope)(x y:Str)(px py:Pos)(a b:Expr):Bool :=
 sc.names.lookup x==some .local&&sc.names.lookup y==some .local&&(px.line==py.line) && !decide (x=y) && !([a,b].all (foldedForSure 8)) && !([a,b].all (constantsAlone 8))
noncomputable def rD(Φ:Fx)(es:List Expr)(e:Expr)(sc:Scope)(ρ:ac):Rs Fl :=
  match es,e with
  | [.Name x px,.Name y py],.Tuple [a,b] _ _=>if oP sc x y px py a b=true then(bQ Φ [a,b] sc ρ).bnd fun p=>(match p.1 with
      | [u,v]=>if ao [u,v]=true\/p.2<=1 then .ok (.nx (aI (aI ρ x (u,false)) y (v,false))) []else .st
      | _=>.st)else .st
  | _,_=>.st
noncomputable def t8(sc:Scope)(es:List Expr)(e:Expr):Bool :=
 match es,e with
 | [.Name x _,.Name _ _],.Tuple [_,_] _ _=>sc.names.lookup x==some .cell
 | _,_=>false
noncomputable def xP(sc:Scope)(es:List Expr)(e:Expr):Bool:=lh e && !t8 sc es e
noncomputable def A4(sc:Scope)(es:List Expr)(p:D×Nat):Bool :=
 match es,p.1,p.2 with
 | [.Name x _,.Name y _],.tup [d1,d2],0=>d1.lless && !d2.lless && !decide (x=y)&&cq sc x&&cq sc y
 | _,_,_=>false
noncomputable def AV(es:List Expr)(p:D×Nat)(ρ:ac):ac :=
 match es,p.1 with
 | [.Name x _,.Name y _],.tup [d1,d2]=>aI (aI ρ y (d2,true)) x (d1,false)
 | _,_=>ρ
noncomputable def LM(_:Expr):Bool:=true
noncomputable def rW(ρ:ac)(x:Str)(i d:D):Rs Fl :=
 match ρ x with
 | some (.lst l,true)=>(match i with | .int j=>if dw x=true then(match wx l j d with|some l'=>.ok (.nx (aI ρ x (.lst l',true))) [ao l=true,d.lless=true]|none=>.st)else .st|_=>.st)
 | some (.dct ks ds,true)=>(match le i with|some k=>if dw x=true then .ok (.nx (aI ρ x (.dct (jT ks k) (ej ks ds k d),true))) [d.lless=true,ks.length<bJ]else .st|none=>.st)
 | _=>.st
noncomputable def pi(Φ:Fx)(tgs:List Expr)(e:Expr)(sc:Scope)(ρ:ac):Rs Fl :=
  match tgs with
  | [.Name x _]=>(av Φ e false sc ρ).bnd fun p=>pT sc x p ρ
  | [.Tuple es _ _]=>if xP sc es e=true then rD Φ es e sc ρ else(av Φ e false sc ρ).bnd fun p=>if A4 sc es p=true then .ok (.nx (AV es p ρ)) []else(match fD p.1 with
      | some ds=>if ao ds=true\/p.2<=1 then(match aQ sc es ds ρ with|some ρ'=>.ok (.nx ρ') []|none=>.st)else .st
      | none=>.st)
  | [.Subscript (.Name x _) i _]=>if LM e=true then(av Φ e false sc ρ).bnd fun p=>(av Φ i false sc ρ).bnd fun q=>rW ρ x q.1 p.1
    else .st
  | _=>.st
noncomputable def Pq(op:Operator)(a b:Int):R1 :=
 match op with
 | .Add=>.ok (.int (a+b),0) []
 | .Sub=>.ok (.int (a-b),0) []
 | .Mult=>.ok (.int (a*b),0) [bS a b]
 | .FloorDiv=>.ok (.int (a.fdiv b),0) [pq b]
 | _=>.st
noncomputable def exAug(Φ:Fx)(t:Expr)(op:Operator)(e:Expr)(sc:Scope)(ρ:ac):Rs Fl :=
  match t with
  | .Name x _=>if cq sc x=true then(match ρ x with
      | some p=>wW (p.1,0) (fun a=>(av Φ e false sc ρ).bnd fun q=>wW q fun b=>Pq op a b) |>.bnd fun r=>.ok (.nx (aI ρ x (r.1,true))) []
      | none=>.st)else .st
  | _=>.st
noncomputable def ph(Φ:Fx)(e:Expr)(sc:Scope)(ρ:ac):Rs Fl :=
  match e with
  | .Call (.Attribute (.Name x _) m ap) args [] cp=>if (ap.endLine==cp.line)=true then(bQ Φ args sc ρ).bnd fun p=>(match Φ.mtt m with
      | some M=>pX ρ x fun l=>(M l p.1 p.2).bnd fun l'=>.ok (.nx (aI ρ x (.lst l',true))) []
      | none=>.st)else .st
  | .Call (.Name f p) args ks cp=>(av Φ (.Call (.Name f p) args ks cp) false sc ρ).bnd fun _=>.ok (.nx ρ) []
  | _=>.st
noncomputable def jv(ρ:ac):ac:=fun y=>(ρ y).map fun p=>(p.1,false)
noncomputable def Cz:Expr->Bool
 | .ListComp elt _ _ _=>jo elt
 | _=>false
noncomputable def rq:Expr->Bool
 | .Tuple es _ _=>es.any Cz
 | e=>Cz e
noncomputable def sr(e:Expr)(ρ:ac):ac:=cond (rq e) (jv ρ) ρ
noncomputable def wy(p:D×Nat):Rs Fl:=if p.2=0\/p.2=2 then .ok (.rt p.1) []else .st
mutual
noncomputable def e8(Φ:Fx):Stmt->Scope->ac->Rs Fl
  | .Return (some e) _,sc,ρ=>(av Φ e false sc (sr e ρ)).bnd wy
  | .Return none _,_,_=>.ok (.rt .non) []
  | .Pass _,_,ρ=>.ok (.nx ρ) []
  | .Break _,_,ρ=>.ok (.bk ρ) []
  | .Continue _,_,ρ=>.ok (.ct ρ) []
  | .Assign tgs e _,sc,ρ=>pi Φ tgs e sc ρ
  | .Expr e _,sc,ρ=>ph Φ e sc ρ
  | .If c a b _,sc,ρ=>(av Φ c false sc ρ).bnd fun p=>lE p fun t=>cond t (az Φ a sc ρ) (az Φ b sc ρ)
  | .For tg it body els _,sc,ρ=>if els.isEmpty=true then(av Φ it true sc (demote it ρ)).bnd fun p=>(match items p.1 with
      | some ds=>if p.2<=1/\fq it tg=true then fc (bK sc tg) (az Φ body sc) ds (demote it ρ)else .st
      | none=>.st)
    else .st
  | .While c body els _,sc,ρ=>if els.isEmpty=true then qD (fun ρ=>(av Φ c false sc ρ).bnd fun p=>lE p fun b=>.ok b []) (az Φ body sc) bJ ρ else .st
  | _,_,_=>.st
noncomputable def az(Φ:Fx):List Stmt->Scope->ac->Rs Fl
 | [],_,ρ=>.ok (.nx ρ) []
 | s::ss,sc,ρ=>(e8 Φ s sc ρ).bnd fun
  | .nx ρ'=>az Φ ss sc ρ'
  | f=>.ok f []
end
theorem qh{it:Expr}:e8 Φ (.For tg it body els q) sc ρ=(if els.isEmpty=true then(av Φ it true sc (demote it ρ)).bnd fun p=>(match items p.1 with
      | some ds=>if p.2<=1/\fq it tg=true then fc (bK sc tg) (az Φ body sc) ds (demote it ρ)else .st
      | none=>.st)
    else .st):=rfl
theorem zg{ρ:ac}:e8 Φ (.While c body els q) sc ρ=(if els.isEmpty=true then qD (fun ρ=>(av Φ c false sc ρ).bnd fun p=>lE p fun b=>.ok b []) (az Φ body sc) bJ ρ else .st):=rfl
noncomputable def gI:List Str->List D->ac
 | p::ps,d::ds=>fun z=>if z=p then some (d,false)else gI ps ds z
 | _,_=>fun _=>none
noncomputable def cu(Φ:Fx)(sc:Scope)(ps:List Str)(body:List Stmt)(ds:List D):Rs D :=
 if ds.length=ps.length then(az Φ body sc (gI ps ds)).bnd fun
  | .rt d=>.ok d []
  | .nx _=>.ok .non []
  | _=>.st
 else .st
noncomputable def ol(ds:List D):R1 :=
 match ds with
 | [.sn n]=>.ok (.int n,0) []
 | [x]=>(match fD x with|some l=>.ok (.int l.length,0) []|none=>.st)
 | _=>.st
noncomputable def mh:List String:=["int", "bool", "str", "tuple", "list", "dict"]
noncomputable def BI(ds:List D):R1 :=
 match ds with
 | [.obj m _ _,.cls n]=>if m=n then .ok (.bl true,0) []else if m∈IA then .ok (.bl (rS m n),0) []else .st
 | [x,.typ T]=>if T∈mh then(match HF x T with|some b=>.ok (.bl b,0) []|none=>.st)else .st
 | _=>.st
noncomputable def uj(ds:List D):R1 :=
 match ds with
 | [x]=>(match fD x with|some l=>.ok (.tup l,0) [ao l=true]|none=>.st)
 | _=>.st
noncomputable def BH(ds:List D):R1 :=
 match ds with
 | [.lst l]=>(match cX l with|some ns=>.ok (.int ns.sum,0) []|none=>.st)
 | _=>.st
noncomputable def tJ(ds:List D)(_:Nat):R1 :=
 match ds with
 | [.int j]=>.ok (.lst ((List.range j.toNat).map fun i=>.int (i:Nat)),0) [-4611686018427387904<=j,j<=bJ]
 | [.int i,.int j]=>.ok (.lst ((List.range (j-i).toNat).map fun m=>.int (i+(m:Nat))),0) [-4611686018427387904<=i,i<=4611686018427387000,-4611686018427387904<=j,j-i<=800]
 | _=>.st
noncomputable def Bq(ds:List D)(k:Nat):R1 :=
 match ds with
 | [.tup a,.tup b]=>.ok (.lst (List.zipWith (fun x y=>.tup [x,y]) a b),0) [ao a=true,ao b=true]
 | [x,y]=>(match fD x,fD y with|some a,some b=>.ok (.lst (List.zipWith (fun x y=>.tup [x,y]) a b),k) [ao a=true,ao b=true]|_,_=>.st)
 | _=>.st
noncomputable def cw(_:D)(_ _:Option Int):R1:=.st
noncomputable def mN(l ds:List D)(k:Nat):Rs (List D) :=
 match ds with
 | [d]=>.ok (l++[d]) [d.lless=true\/k=0,l.length<bJ]
 | _=>.st
noncomputable def p9(l ds:List D)(k:Nat):Rs (List D) :=
 match ds,k with
 | [.lst d],0=>.ok (l++d) [l.length+d.length<=bJ]
 | _,_=>.st
noncomputable def Tb(l:List (Str×(List D->Rs D)))(c:List (Str×D))(b:List (Str×(List D->R1)))(i:List (Str×(List D->Nat->R1)))(m:List (Str×(D->List D->R1)))(t:List (Str×(List D->List D->Nat->Rs (List D))))(sf:D->Option Int->Option Int->R1):Fx :=
 { slf:=sf,fn:=fun g=>l.lookup g,con:=fun x=>c.lookup x,blt:=fun x=>b.lookup x,itr:=fun x=>i.lookup x,mth:=fun x=>m.lookup x,mtt:=fun x=>t.lookup x }
variable{fl:Fl}{bodyF:ac->Rs Fl}
variable{X:Cx}
theorem mI{k:Int}(h:k.natAbs<2 ^ n):Builtin.Int.intBits k<=n:=by
 unfold Builtin.Int.intBits
 split
 ·exact QN _
 ·rename_i h0
  have:k.natAbs.log2<n:=by
   rcases Nat.eq_zero_or_pos k.natAbs with h1|hp
   ·exact absurd (by simpa using h1) (by simpa using h0)
   ·exact(Nat.log2_lt (RN hp)).mpr h
  omega
theorem dn:∀{l m:List Prop},aB (l++m)↔aB l/\aB m
 | [],m=>by simp[aB]
 | p::l,m=>by
  show p/\aB (l++m)↔(p/\aB l)/\aB m
  rw[dn,and_assoc]
theorem aR{r:Rs α}{f:α->Rs β}{b:β}{l:List Prop}(h:r.bnd f=.ok b l)(hp:aB l):∃a l1 l2,r=.ok a l1/\aB l1/\f a=.ok b l2/\aB l2:=by
 unfold Rs.bnd at h
 split at h
 ·cases h
 ·rename_i a l1
  split at h
  ·cases h
  ·rename_i b' m e
   cases h
   obtain⟨h1,h2⟩:=dn.mp hp
   exact⟨a,l1,m,rfl,h1,e,h2⟩
theorem o9{m:List Prop}(h:aB (gd b m))(hb:b=true):aB m:=by
 cases m with
 | nil=>exact True.intro
 | cons p l=>exact h.1 hb
theorem Kz{a b:Int}(h:Builtin.Int.intBits a<=2 ^ 22)(g:Builtin.Int.intBits b<=2 ^ 22):IntMulOk a b:=by
 have h':Builtin.Int.intTooBig (Builtin.Int.intBits a+Builtin.Int.intBits b)=false:=by
  unfold Builtin.Int.intTooBig bitsLine;exact Rr (by omega)
 unfold IntMulOk;rw[h'];simp
theorem Bc{a b:Int}(h:bS a b):IntMulOk a b:=by
 rcases h with h|h|⟨h,g⟩|⟨h,g⟩
 ·exact .of_left (mI h)
 ·exact .of_right (mI h)
 ·exact IntMulOk.of_bits (QR (mI h) (by decide)) (QR (mI g) (by decide))
 ·exact Kz h g
theorem Eh:cY X (binaryOp .Mult) (rI (fun i j=>bS i j) fun i j=>.int (i*j)):=Cy fun _ _ _ _ _ _ _ hc q=>mul_int q (Bc hc)
theorem A5:cY X (binaryOp .FloorDiv) (rI (fun _ j=>j≠0/\j.natAbs<dO) fun i j=>.int (i.fdiv j)):=Cy fun i j _ _ _ _ _ hc q=>floordiv_int hc.1 q (.inl (PyProof.noPylong_of_log2 (by
 rcases Nat.eq_zero_or_pos j.natAbs with h1|hp
 ·exact absurd (by simpa using h1) hc.1
 ·exact(Nat.log2_lt (RN hp)).mpr hc.2)))
mutual
theorem dk{pins:List (Addr×Obj)}{σ:L2.St}{H:Hp}{s:Shared}(I:aj X pins σ H s){P:ba}:∀{d:D} {v:V} {u:Value},d.py.canLay0=true->ae X.K H P d v->aO v u->∃as,Reads s.heap u d.py as
 | .non,v,u,_,h,r=>by
  rw[ae]at h;subst h;cases (show u=Value.none from r);rw[D.py];exact⟨_,.none⟩
 | .bl b,v,u,_,h,r=>by rw[ae]at h;subst h;cases (show u=Value.bool b from r);rw[D.py];exact⟨_,.bool b⟩
 | .int i,v,u,_,h,r=>by rw[ae]at h;subst h;obtain⟨t,e⟩:=(show ∃t,u=Value.int i t from r);subst e;rw[D.py];exact⟨_,.int i t⟩
 | .str x,v,u,_,h,r=>by rw[ae]at h;subst h;obtain⟨t,e⟩:=(show ∃t,u=Value.str x t from r);subst e;rw[D.py];exact⟨_,.str x t⟩
 | .dct _ _,v,u,c,h,r=>by rw[D.py]at c;simp[PyData.canLay0]at c
 | .typ _,v,u,c,h,r=>by rw[D.py]at c;simp[PyData.canLay0]at c
 | .dcf _ _,v,u,c,h,r=>by rw[D.py]at c;simp[PyData.canLay0]at c
 | .sn _,v,u,c,h,r=>by rw[D.py]at c;simp[PyData.canLay0]at c
 | .obj _ _ _,v,u,c,h,r=>by rw[D.py]at c;simp[PyData.canLay0]at c
 | .cls _,v,u,c,h,r=>by rw[D.py]at c;simp[PyData.canLay0]at c
 | .tup l,v,u,c,h,r=>by
  rw[ae]at h
  obtain⟨a,vs,rfl,h,q⟩:=h
  cases (show u=Value.ref a from r)
  obtain⟨its,rv,ht,_⟩:=I.tuple h
  obtain⟨o,e1,e2,n,e3⟩:=ht
  rw[D.py]at c⊢
  obtain⟨as,ra⟩:=kL I (by simpa [PyData.canLay0]using c) q rv
  exact⟨as,.tuple e1 e2 e3 (by simpa using ra)⟩
 | .lst l,v,u,c,h,r=>by
  rw[ae]at h
  obtain⟨a,vs,b,rfl,h,_,q⟩:=h
  cases (show u=Value.ref a from r)
  have hs:ci X.K H a vs:=h.sq
  obtain⟨its,rv,ht,_⟩:=I.list hs
  obtain⟨o,n,e1,e2,_,e3⟩:=ht
  rw[D.py]at c⊢
  obtain⟨as,ra⟩:=kL I (by simpa [PyData.canLay0]using c) q rv
  exact⟨_,.list e1 e2 e3 (by simpa using ra)⟩
theorem kL{pins:List (Addr×Obj)}{σ:L2.St}{H:Hp}{s:Shared}(I:aj X pins σ H s){P:ba}:∀{l:List D} {vs:List V} {us:List Value},PyData.canLayAll0 (fe l)=true->ah X.K H P l vs->aD vs us->∃as,ReadsAll s.heap us (fe l) as
 | [],vs,us,_,h,r=>by rw[ah]at h;subst h;cases r;rw[fe];exact⟨_,.nil⟩
 | d::l,vs,us,c,h,r=>by
  rw[ah]at h
  obtain⟨v,vr,rfl,h1,h2⟩:=h
  cases r with
  | cons r1 r2 =>
   rw[fe,PyData.canLayAll0,QI]at c
   obtain⟨as,ra⟩:=dk I c.1 h1 r1
   obtain⟨bs,rb⟩:=kL I c.2 h2 r2
   rw[fe]
   exact⟨_,.cons ra rb⟩
end
noncomputable def Dg(X:Cx)(f:Value->Value->Sem Value)(x y z:D)(k j l:Nat):Prop :=
 ∃r:R2,cY X f r/\∀ow H0 H2 v u (Q:VK),cP ow H0->au H0 H2->ae X.K H2 (Kp ow H0 k) x v->ae X.K H2 (Kp ow H0 j) y u->(∀w H',au H2 H'->ae X.K H' (Kp ow H0 l) z w->Q w H')->r v u H2 Q
theorem cJ{p:Addr}{o:HO}(h:H p=none):au H (aF H p o):=fun b x e=>by rw[aq (bj e h)];exact e
theorem ae.kn{H0:Hp}(h:ae K H (Kp ow H0 k) d v):ae K H (Kp ow H0 (Sp.kn d k)) d v:=by
 unfold Sp.kn
 by_cases f:d.lless=true
 ·rw[if_pos f];exact h.flat _ f
 ·rw[if_neg f];exact h
theorem dl:bJ<=sizeLine:=by rw[SR];decide
theorem kZ:bJ<sizeLine:=by rw[SR];decide
theorem mH{f:Value->Value->Sem Value}{a b:Int}{g:Int->Int->Int}{C:Int->Int->Prop}(h:cY X f (rI C fun i j=>.int (g i j)))(hc:C a b):Dg X f (.int a) (.int b) (.int (g a b)) k j 0 :=
 ⟨_,h,fun ow H0 H2 v u Q o s rx ry q=>by
  rw[ae]at rx ry;subst rx ry
  exact⟨a,b,rfl,rfl,hc,q _ _ (au.refl _) (by rw[ae])⟩⟩
theorem sK{f:Value->Value->Sem Value}{a b:Int}{g:Int->Int->Int}(h:cY X f (nI fun i j=>.int (g i j))):Dg X f (.int a) (.int b) (.int (g a b)) k j 0 :=
 ⟨_,h,fun ow H0 H2 v u Q o s rx ry q=>by
  rw[ae]at rx ry;subst rx ry
  exact⟨a,b,rfl,rfl,q _ _ (au.refl _) (by rw[ae])⟩⟩
theorem jY:∀{a b:List D},ao (a++b)=(ao a&&ao b)
 | [],b=>by simp[ao]
 | x::a,b=>by rw[List.cons_append,ao,ao,jY,Bool.and_assoc]
theorem Fu{op:Operator}{a b:Int}{l:Nat}(h:BE op a b=.ok (z,l) o)(hp:aB o):Dg X (binaryOp op) (.int a) (.int b) z k j l:=by
 unfold BE at h
 split at h
 ·cases h;exact sK G6
 ·cases h;exact sK G3
 ·cases h;exact mH Eh hp.1
 ·cases h;exact mH A5 hp.1
 ·cases h;exact mH Ei hp.1
 ·cases h
  have c:Cp a b:=hp.1
  exact mH G4 ⟨c.1,by have:=c.2.1;omega,c.2.2⟩
 ·cases h
theorem og{op:Operator}(h:rA op=true):op=.Add:=by cases op<;>first|rfl|cases h
theorem A6:cY X (binaryOp .Add) (fun x y H Q => ∃a b ys,x=.ref a/\y=.ref b/\aZ X.K H a []/\aZ X.K H b ys/\Q (.ref b) H):=by
 intro pins s σ H x y v u Q I rx ry h
 obtain⟨a,b,ys,rfl,rfl,ha,hb,q⟩:=h
 cases rx
 cases ry
 obtain⟨its,r1,p1,_⟩:=I.tuple ha
 obtain⟨its2,r2,p2,_⟩:=I.tuple hb
 cases r1
 obtain⟨⟨cls,dd,data,sl⟩,ho,hc,n,hd⟩:=id p1
 obtain⟨⟨cls2,dd2,data2,sl2⟩,ho2,hc2,n2,hd2⟩:=id p2
 simp only at hc hd hc2 hd2
 subst hc hd hc2 hd2
 exact concat_meets ⟨_,ho,rfl⟩ ⟨_,ho2,rfl⟩ noFill_tuple_add seq_tuple_add PySem.F.slot_tuple_add PySem.F.entry_tuple_add (PySem.F.args_tuple_add_2 _ _)
  (tuple_addW0 a b _ its2.toArray n n2 dd dd2 sl sl2 (by rfl)) ⟨ho,ho2,⟨.ref b,H,I,rfl,q⟩⟩
theorem Ek:cY X (binaryOp .Add) (fun x y H Q => ∃l b xs zs,x=.ref l/\y=.ref b/\ci X.K H l xs/\ci X.K H b zs/\xs.length+zs.length<=sizeLine/\∀p,H p=none->Q (.ref p) (aF H p (.lst (xs++zs)))):=by
 intro pins s σ H x y v u Q I rx ry h
 obtain⟨l,b,xs,zs,rfl,rfl,hH,hB,hz,q⟩:=h
 cases rx
 cases ry
 obtain⟨its,r,⟨⟨cls,dd,data,sl⟩,n,ho,hc,_,hd⟩,z⟩:=I.list hH
 obtain⟨its2,r2,⟨⟨cls2,dd2,data2,sl2⟩,n2,ho2,hc2,_,hd2⟩,z2⟩:=I.list hB
 simp only at hc hd hc2 hd2
 subst hc hd hc2 hd2
 have l1:=r.length
 have l2:=r2.length
 refine concat_meets ⟨_,ho,rfl⟩ ⟨_,ho2,rfl⟩ noFill_list_add seq_list_add PySem.F.slot_list_add PySem.F.entry_list_add (PySem.F.args_list_add_2 _ _) (list_addW l b its.toArray its2.toArray n n2 dd dd2 sl sl2 (by rw[QV,QV];omega)) ⟨ho,ho2,?_⟩
 have ea:its.toArray++its2.toArray=(its++its2).toArray:=by simp
 rw[ea]
 exact⟨.ref _,_,I.lnew (t':=s.toks) (r.append r2) (by rw[QH];omega),rfl,q _ I.fresh⟩
theorem Jm{op:Operator}{x:D}{l:Nat}(h:uf op x y k j=.ok (z,l) o)(hp:aB o):Dg X (binaryOp op) x y z k j l:=by
 unfold uf at h
 split at h
 ·exact Fu h hp
 ·rename_i a b
  split at h
  ·rename_i c;cases h
   cases og c
   refine⟨_,wH,fun ow H0 H2 v u Q o s rx ry q=>?_⟩
   rw[ae]at rx ry;subst rx ry
   exact⟨a,b,rfl,rfl,QR hp.1 dl,q _ _ (au.refl _) (by rw[ae])⟩
  ·cases h
 ·rename_i a b
  split at h
  ·rename_i c
   cases og c
   cases h
   cases a with
   | nil =>
    refine⟨_,A6,fun ow H0 H2 v u Q o s rx ry q=>?_⟩
    rw[ae]at rx ry
    obtain⟨pa,va,rfl,ha,ra⟩:=rx
    obtain⟨pb,vb,rfl,hb,rb⟩:=ry
    have rb':=rb.imp (Kp.joinR o k j)
    cases ra
    refine⟨pa,pb,vb,rfl,rfl,ha,hb,q _ _ (au.refl _) (ae.kn ?_)⟩
    rw[ae]
    exact⟨pb,vb,rfl,hb,rb'⟩
   | cons a0 a =>
    refine⟨_,Ej,fun ow H0 H2 v u Q o s rx ry q=>?_⟩
    rw[ae]at rx ry
    obtain⟨pa,va,rfl,ha,ra⟩:=rx
    obtain⟨pb,vb,rfl,hb,rb⟩:=ry
    have ra':=ra.imp (Kp.joinL o k j)
    have rb':=rb.imp (Kp.joinR o k j)
    have la:=ra.length
    have lb:=rb.length
    refine⟨pa,pb,va,vb,rfl,rfl,ha,hb,?_,?_,fun e=>?_,fun e p hp'=>?_⟩
    ·intro e;subst e;cases la
    ·rw[<- la,<- lb];exact QR hp.1 dl
    ·subst e
     have:b=[]:=RS.mp lb
     subst this
     refine q _ _ (au.refl _) (ae.kn ?_)
     rw[ae]
     exact⟨pa,va,rfl,ha,by rw[Ra];exact ra'⟩
    ·have sm:=cJ (o:=HO.tup (va++vb)) hp'
     refine q _ _ sm (ae.kn ?_)
     rw[ae]
     exact⟨p,_,rfl,aZ.of aC,(ra'.same sm).append (rb'.same sm)⟩
  ·cases h
 ·rename_i a b
  split at h
  ·rename_i c;cases h
   cases og c
   refine⟨_,Ek,fun ow H0 H2 v u Q o s rx ry q=>?_⟩
   rw[ae]at rx ry
   obtain⟨pa,va,b1,rfl,ha,qa,ra⟩:=rx
   obtain⟨pb,vb,b2,rfl,hb,qb,rb⟩:=ry
   have la:=ra.length
   have lb:=rb.length
   have fl:=hp.1
   rw[jY,QI]at fl
   refine⟨pa,pb,va,vb,rfl,rfl,ha.sq,hb.sq,by rw[<- la,<- lb];exact QR hp.2.1 dl,fun p hp'=>?_⟩
   have sm:=cJ (o:=HO.lst (va++vb)) hp'
   refine q _ _ sm ?_
   rw[ae]
   exact⟨p,_,true,rfl,aC,⟨rfl,s.free hp'⟩,((ra.flat _ fl.1).same sm).append ((rb.flat _ fl.2).same sm)⟩
  ·cases h
 ·cases h
theorem Bk{pins:List (Addr×Obj)}{σ:L2.St}{s:Shared}(h:ae X.K H P (.lst l) v):∃a vs,v=.ref a/\ci X.K H a vs/\ah X.K H P l vs:=by
 rw[ae]at h
 obtain⟨a,vs,b,rfl,h,_,q⟩:=h
 exact⟨a,vs,rfl,h.sq,q⟩
theorem iN:∀{l:List D} {ns:List Int},cX l=some ns->l=ns.map D.int
 | [],ns,h=>by rw[cX]at h;cases h;rfl
 | .int i::l,ns,h=>by
  rw[cX]at h
  cases e:cX l with
  | none=>rw[e]at h;cases h
  | some m=>rw[e]at h;cases h;rw[iN e];rfl
 | .non::l,ns,h=>by rw[cX]at h<;>first|cases h|(intro z;intro e;cases e)
 | .bl _::l,ns,h=>by rw[cX]at h<;>first|cases h|(intro z;intro e;cases e)
 | .str _::l,ns,h=>by rw[cX]at h<;>first|cases h|(intro z;intro e;cases e)
 | .dct _ _::l,ns,h=>by rw[cX]at h<;>first|cases h|(intro z;intro e;cases e)
 | .typ _::l,ns,h=>by cases h
 | .dcf _ _::l,ns,h=>by cases h
 | .sn _::l,ns,h=>by cases h
 | .obj _ _ _::l,ns,h=>by cases h
 | .cls _::l,ns,h=>by cases h
 | .tup _::l,ns,h=>by rw[cX]at h<;>first|cases h|(intro z;intro e;cases e)
 | .lst _::l,ns,h=>by rw[cX]at h<;>first|cases h|(intro z;intro e;cases e)
noncomputable def i6(X:Cx)(op:CmpOp)(x y:D)(r:Bool):Prop:=∀(P P':ba),cY X (compareOp op) (fun v u H Q=>ae X.K H P x v/\ae X.K H P' y u/\Q (.bl r) H)
theorem lF{x:D}:∀{l:List D},((fe l).any fun y=>PyData.eqv y x.py)=l.any fun y=>gE y x
 | []=>by rw[fe];rfl
 | y::l=>by rw[fe,S0,S0,lF];rfl
theorem nj{a b:Int}{g:Int->Int->Bool}(h:cY X (compareOp op) (nI fun i j=>.bl (g i j))):i6 X op (.int a) (.int b) (g a b):=fun P P' pins s σ H v u xv yu Q I rx ry ⟨h1,h2,q⟩=>by
 rw[ae]at h1 h2;subst h1 h2
 exact h pins s σ H _ _ xv yu Q I rx ry ⟨a,b,rfl,rfl,q⟩
theorem EF(h:SeqAt.shaped (D.tup l).py=true):PyData.canLayAll0 (fe l)=true:=by
 have:=RH h
 rw[D.py]at this
 simpa [PyData.canLay0]using this
theorem vD{x:D}(hu:X.A.units+70<cLine)(h:wO x l=.ok r o)(hp:aB o):i6 X .In x (.tup l) r/\i6 X .In x (.lst l) r/\i6 X .NotIn x (.tup l) (!r)/\i6 X .NotIn x (.lst l) (!r):=by
 unfold wO at h
 cases h
 ·have c:=hp.1
  unfold jR at c
  rw[QI]at c
  have c1:=EF c.1
  have c2:=RH c.2
  have dx:=SeqAt.depth_of_shaped c.2
  have hm:min (PyData.depthAll (fe l)) x.py.depth<=64:=QR (Nat.min_le_right _ _) dx
  have ct:(D.tup l).py.canLay0=true:=RH c.1
  have cl:(D.lst l).py.canLay0=true:=by rw[D.py];simpa [PyData.canLay0]using c1
  have et:(D.tup l).py=.tuple (fe l):=by rw[D.py]
  have el:(D.lst l).py=.list (fe l):=by rw[D.py]
  refine⟨?_,?_,?_,?_⟩<;>intro P P' pins s σ H v u xv yu Q I rx ry ⟨h1,h2,q⟩<;>obtain⟨as,r1⟩:=dk I c2 h1 rx
  ·obtain⟨bs,r2⟩:=dk I ct h2 ry
   rw[et]at r2
   exact SeqAt.in_tuple_reads r2 r1 c1 c2 (by omega) ⟨.bl _,H,I,rfl,by rw[lF];exact q⟩
  ·obtain⟨bs,r2⟩:=dk I cl h2 ry
   rw[el]at r2
   exact SeqAt.in_list_reads r2 r1 c1 c2 (by omega) ⟨.bl _,H,I,rfl,by rw[lF];exact q⟩
  ·obtain⟨bs,r2⟩:=dk I ct h2 ry
   rw[et]at r2
   exact SeqAt.notIn_tuple_reads r2 r1 c1 c2 (by omega) ⟨.bl _,H,I,rfl,by rw[lF];exact q⟩
  ·obtain⟨bs,r2⟩:=dk I cl h2 ry
   rw[el]at r2
   exact SeqAt.notIn_list_reads r2 r1 c1 c2 (by omega) ⟨.bl _,H,I,rfl,by rw[lF];exact q⟩
theorem Ha{r:Rs Bool}(h:r.nt=.ok b o):r=.ok (!b) o:=by
 cases r with
 | st=>cases h
 | ok c l=>cases h;simp
theorem vA{x:D}(h:ae X.K H P x v):decide (v=.non)=x.isNon:=by
 cases x with
 | non=>rw[ae]at h;subst h;rfl
 | bl _=>rw[ae]at h;subst h;rfl
 | int _=>rw[ae]at h;subst h;rfl
 | str _=>rw[ae]at h;subst h;rfl
 | dct _ _=>rw[ae]at h;obtain⟨_,_,a,_,rfl,_⟩:=h;rfl
 | typ _=>rw[ae]at h;subst h;rfl
 | dcf _ _=>rw[ae]at h;obtain⟨_,a,_,_,rfl,_⟩:=h;rfl
 | sn _=>rw[ae]at h;obtain⟨a,_,rfl,_⟩:=h;rfl
 | obj _ _ _=>rw[ae]at h;obtain⟨_,_,a,_,_,_,rfl,_⟩:=h;rfl
 | cls _=>rw[ae]at h;obtain⟨_,_,rfl,_⟩:=h;rfl
 | tup _=>rw[ae]at h;obtain⟨a,_,rfl,_⟩:=h;rfl
 | lst _=>rw[ae]at h;obtain⟨a,_,_,rfl,_⟩:=h;rfl
theorem fZ(h:fD d=some l):d=.tup l\/d=.lst l:=by
 unfold fD at h
 split at h
 ·cases h;exact .inl rfl
 ·cases h;exact .inr rfl
 ·cases h
theorem Fj{a b:Int}(h:ga op a b=some r):i6 X op (.int a) (.int b) r:=by
 unfold ga at h
 split at h
 ·cases h;exact nj Kt
 ·cases h;exact nj Ku
 ·cases h;exact nj Kv
 ·cases h;exact nj Kw
 ·cases h
theorem G2{x:D}(hu:X.A.units+70<cLine)(h:wF op x y=some r):i6 X op x y r:=by
 unfold wF at h
 split at h
 ·exact Fj h
 ·cases h
theorem jL{k:aP}(e:le d=some k)(h:ae X.K H P d v):v=kV k:=by
 cases d<;>first|(cases e;done)|(rw[ae]at h;subst h;injection e with e;subst e;rfl)
theorem u5{k:aP}:∀{vs:List V},ks.length=vs.length->((ks.zip vs).any fun p=>decide (p.1=k))=iU ks k:=by
 induction ks with
 | nil=>intro vs _;rfl
 | cons j ks ih =>
  intro vs h
  cases vs with
  | nil=>cases h
  | cons v vs =>
   show(decide (j=k) || (ks.zip vs).any _)=(decide (j=k) || iU ks k)
   rw[ih (by simpa using h)]
theorem CL{x:D}(hu:X.A.units+70<cLine)(h:CM x y=.ok r o)(hp:aB o):i6 X .In x y r/\i6 X .NotIn x y (!r):=by
 unfold CM at h
 split at h
 ·have m:=vD hu h hp;exact⟨m.1,m.2.2.1⟩
 ·have m:=vD hu h hp;exact⟨m.2.1,m.2.2.2⟩
 ·rename_i ks ds
  split at h
  ·rename_i k e
   cases h
   have key:∀{P P':ba} {pins:List (Addr×Obj)} {s:Shared} {σ:L2.St} {H:Hp} {v u:V} {xv yu:Value},aj X pins σ H s->aO v xv->aO u yu->ae X.K H P x v->ae X.K H P' (.dct ks ds) u->∃a vs,yu=.ref a/\(b7 X.prog X.w).is k xv=true/\(a==sysModules)=false/\s.heap.DictOf (b7 X.prog X.w) a vs/\(valueAt vs k).isSome=iU ks k:=fun {P P' pins s σ H v u xv yu} I rx ry h1 h2=>by
    have hk:=jL e h1
    subst hk
    rw[ae]at h2
    obtain⟨_,e0,a,vs,rfl,ha,_,rl⟩:=h2
    obtain⟨z,hd,ws,bR,dd⟩:=(show aV X.prog X.w H s.heap a (.dK (ks.zip vs))from I.hok a _ ha)
    refine⟨a,ws,ry,gR rx,hd,dd,?_⟩
    rw[<- (bR.val k).isSome_eq,<- nU,u5 (e0.trans rl.length)]
   refine⟨?_,?_⟩<;>intro P P' pins s σ H v u xv yu Q I rx ry ⟨h1,h2,q⟩<;>obtain⟨a,vs,rfl,kk,hd,dd,ev⟩:=key I rx ry h1 h2
   ·refine wpAny_in_of kk hd dd.mapOf ?_
    rw[ev]
    exact⟨.bl _,H,I.tok _,rfl,q⟩
   ·refine wpAny_notIn_of kk hd dd.mapOf ?_
    rw[ev]
    exact⟨.bl _,H,I.tok _,rfl,q⟩
  ·cases h
 ·rename_i b
  split at h
  ·rename_i a
   cases h
   refine⟨?_,?_⟩<;>intro P P' pins s σ H v u xv yu Q I rx ry ⟨h1,h2,q⟩<;>(rw[ae]at h1 h2;subst h1 h2;obtain⟨t,rfl⟩:=rx;obtain⟨t',rfl⟩:=ry)
   ·exact SB.contains ⟨.bl _,H,I,rfl,q⟩
   ·exact SB.notContains ⟨.bl _,H,I,rfl,q⟩
  ·cases h
 ·cases h
theorem jx{x:D}(hu:X.A.units+70<cLine)(h:iV op x y=.ok r o)(hp:aB o):i6 X op x y r:=by
 unfold iV at h
 split at h
 ·cases h
  have c:=hp.1
  unfold jR at c
  rw[QI]at c
  intro P P' pins s σ H v u xv yu Q I rx ry ⟨h1,h2,q⟩
  obtain⟨as,r1⟩:=dk I (RH c.1) h1 rx
  obtain⟨bs,r2⟩:=dk I (RH c.2) h2 ry
  exact eq_dataH r1 r2 c.1 c.2 (by omega) ⟨.bl _,H,I,rfl,q⟩
 ·cases h
  have c:=hp.1
  unfold jR at c
  rw[QI]at c
  intro P P' pins s σ H v u xv yu Q I rx ry ⟨h1,h2,q⟩
  obtain⟨as,r1⟩:=dk I (RH c.1) h1 rx
  obtain⟨bs,r2⟩:=dk I (RH c.2) h2 ry
  exact ne_dataH r1 r2 c.1 c.2 (by omega) ⟨.bl _,H,I,rfl,q⟩
 ·exact(CL hu h hp).1
 ·have:=(CL hu (Ha h) hp).2;rw[Bool.not_not]at this;exact this
 ·split at h
  ·cases h
   intro P P' pins s σ H v u xv yu Q I rx ry ⟨h1,h2,q⟩
   rw[ae]at h2
   subst h2
   exact G5 pins s σ H v _ xv yu Q I rx ry ⟨rfl,by rw[vA h1];exact q⟩
  ·cases h
 ·split at h
  ·cases h
   intro P P' pins s σ H v u xv yu Q I rx ry ⟨h1,h2,q⟩
   rw[ae]at h2
   subst h2
   refine Eg pins s σ H v _ xv yu Q I rx ry ⟨rfl,?_⟩
   rw[vA h1]
   exact q
  ·cases h
 ·cases e:wF op x y with
  | none=>rw[e]at h;cases h
  | some b=>rw[e]at h;cases h;exact G2 hu e
variable{X:Cx}
theorem vO(K:W.Frag){t:Value}:W.kitOne K t t=some true:=by unfold W.kitOne;rw[if_pos (beq_self_eq_true t)]
noncomputable def D.ty:D->String
 | .non => "NoneType"
 | .bl _ => "bool"
 | .int _ => "int"
 | .str _ => "str"
 | .dct _ _ => "dict"
 | .tup _ => "tuple"
 | .lst _ => "list"
 | .typ _ => "type"
 | .dcf _ _ => "dict"
 | .sn _ => "set"
 | .obj _ _ _ => "object"
 | .cls _ => "type"
noncomputable def D.plain:D->Bool
 | .typ _=>false
 | .dcf _ _=>false
 | .sn _=>false
 | .obj _ _ _=>false
 | .cls _=>false
 | _=>true
theorem HD{x:D}{c:String}(hpl:x.plain=true)(e:∀K,W.kitOne K (.type x.ty) (.type c)=some b){u:Value}
  (I:aj X pins σ H s) (h:ae X.K H P x v) (r:aO v u) (q:∀tk,Q (.bool b) { s with toks:=tk }):wpAny (model X.prog X.w) X.A (call (.builtin "isinstance") [u,.type c]) Q E s:=by
 have e:=e X.K
 cases x with
 | non=>rw[ae]at h;subst h;cases (show u=Value.none from r);exact RE W.kitx_none I.kIn True.intro e (fun z=>nomatch z) q
 | bl y=>rw[ae]at h;subst h;cases (show u=Value.bool y from r);exact RE W.kitx_bool I.kIn True.intro e (fun z=>nomatch z) q
 | int i=>rw[ae]at h;subst h;obtain⟨t,z⟩:=(show ∃t,u=Value.int i t from r);cases z;exact RE W.kitx_int I.kIn True.intro e (fun z=>nomatch z) q
 | str y=>rw[ae]at h;subst h;obtain⟨t,z⟩:=(show ∃t,u=Value.str y t from r);cases z;exact RE W.kitx_str I.kIn True.intro e (fun z=>nomatch z) q
 | dct ks ds =>
  rw[ae]at h
  obtain⟨_,_,a,vs,rfl,ea,_⟩:=h
  cases (show u=Value.ref a from r)
  obtain⟨_,_,vs,_,p⟩:=(show aV X.prog X.w H s.heap a (.dK _)from I.hok a _ ea)
  obtain⟨o,es,ep,h1,h2,_⟩:=p
  exact RE W.kitx_dict I.kIn ⟨o,h1,h2.1⟩ e (fun z=>nomatch z) q
 | typ _=>cases hpl
 | dcf _ _=>cases hpl
 | sn _=>cases hpl
 | obj _ _ _=>cases hpl
 | cls _=>cases hpl
 | tup l =>
  rw[ae]at h
  obtain⟨a,vs,rfl,ea,_⟩:=h
  cases (show u=Value.ref a from r)
  obtain⟨_,_,⟨o,h1,h2,_⟩,_⟩:=I.tuple ea
  exact RE W.kitx_tuple I.kIn ⟨o,h1,h2⟩ e (fun z=>nomatch z) q
 | lst l =>
  obtain⟨a,vs,rfl,ea,_⟩:=Bk (pins:=pins) (σ:=σ) (s:=s) h
  cases (show u=Value.ref a from r)
  obtain⟨_,_,⟨o,n,h1,h2,_⟩,_⟩:=I.list ea
  exact RE W.kitx_list I.kIn ⟨o,h1,h2⟩ e (fun z=>nomatch z) q
theorem kt(K:W.Frag)(a b:String)(r:Bool)(h:(a==b)=false)(h2:W.kitCls K (.type a) (.type b)=some r):W.kitOne K (.type a) (.type b)=some r:=by
 unfold W.kitOne
 rw[if_neg (by
  intro z
  have:a=b:=by simpa using z
  subst this
  simp at h)]
 exact h2
theorem EL:∀a∈["NoneType", "bool", "int", "str", "dict", "tuple", "list"],∀T∈mh,(a==T)=false->∀K,W.kitCls K (.type a) (.type T)=some (decide (a = "bool" /\ T = "int")):=by
 intro a ha T hT
 simp only[QD,Q8,R4,mh]at ha hT
 rcases ha with rfl|rfl|rfl|rfl|rfl|rfl|rfl<;>rcases hT with rfl|rfl|rfl|rfl|rfl|rfl<;>intro h K<;>first|(exact absurd h (by decide))|kernel_rfl
theorem HE{x:D}(h:HF x T=some b)(hT:T∈mh):x.plain=true/\∀K,W.kitOne K (.type x.ty) (.type T)=some b:=by
 have key:∀(a:String),a∈["NoneType", "bool", "int", "str", "dict", "tuple", "list"]->∀K,W.kitOne K (.type a) (.type T)=some (decide (a=T) || decide (a = "bool" /\ T = "int")):=fun a ha K=>by
  by_cases e:a=T
  ·subst e;rw[vO];simp
  ·have e':(a==T)=false:=by simpa using e
   rw[kt K a T _ e' (EL a ha T hT e' K)];simp[e]
 unfold HF at h
 cases hx:x.ty0 with
 | none=>rw[hx]at h;cases h
 | some a =>
  rw[hx]at h
  cases h
  have hp:x.plain=true/\x.ty=a/\a∈["NoneType", "bool", "int", "str", "dict", "tuple", "list"]:=by
   cases x<;>cases hx<;>exact⟨rfl,rfl,by decide⟩
  refine⟨hp.1,fun K=>?_⟩
  rw[hp.2.1]
  exact key a hp.2.2 K
noncomputable def nC(X:Cx)(f:Value)(ds:List D)(z:D)(l:Nat):Prop :=
 ∃r:List V->Hp->VK->Prop,e6 X f r/\∀ow H0 H2 vs (P:ba) (Q:VK),cP ow H0->au H0 H2->ah X.K H2 P ds vs->(∀w H',au H2 H'->ae X.K H' (Kp ow H0 l) z w->Q w H')->r vs H2 Q
theorem ah.only(h:ah K H P [d] vs):∃v,vs=[v]/\ae K H P d v:=by
 rw[ah]at h
 obtain⟨v,r,rfl,h1,h2⟩:=h
 rw[ah]at h2;subst h2
 exact⟨v,rfl,h1⟩
theorem jH(h:ae X.K H P (.lst l) v):∃a vs,v=.ref a/\ci X.K H a vs/\ah X.K H P l vs:=by
 rw[ae]at h
 obtain⟨a,vs,b,rfl,h,_,q⟩:=h
 exact⟨a,vs,rfl,h.sq,q⟩
theorem gu(h:ae X.K H P (.tup l) v):∃a vs,v=.ref a/\aZ X.K H a vs/\ah X.K H P l vs:=by
 rw[ae]at h;exact h
theorem yJ:nC X (.builtin "len") [.tup l] (.int l.length) 0/\nC X (.builtin "len") [.lst l] (.int l.length) 0:=by
 constructor
 ·refine⟨_,lB,fun ow H0 H2 vs P Q o s rx q=>?_⟩
  obtain⟨v,rfl,ry⟩:=rx.only
  obtain⟨a,ws,rfl,hs,rl⟩:=gu ry
  exact⟨a,ws,rfl,.inr hs,by rw[<- rl.length];exact q _ _ (au.refl _) (by rw[ae])⟩
 ·refine⟨_,lB,fun ow H0 H2 vs P Q o s rx q=>?_⟩
  obtain⟨v,rfl,ry⟩:=rx.only
  obtain⟨a,ws,rfl,hs,rl⟩:=jH ry
  exact⟨a,ws,rfl,.inl hs,by rw[<- rl.length];exact q _ _ (au.refl _) (by rw[ae])⟩
theorem rN(f:ao l=true):nC X (.type "tuple") [.lst l] (.tup l) 0/\nC X (.type "tuple") [.tup l] (.tup l) 0:=by
 constructor
 ·refine⟨_,j8,fun ow H0 H2 vs P Q o s rx q=>?_⟩
  obtain⟨v,rfl,ry⟩:=rx.only
  obtain⟨a,ws,rfl,hs,rl⟩:=jH ry
  refine⟨a,ws,rfl,.inl ⟨hs,fun p hp=>?_⟩⟩
  have sm:=cJ (o:=HO.tup ws) hp
  refine q _ _ sm ?_
  rw[ae]
  exact⟨p,ws,rfl,aZ.of aC,(rl.flat _ f).same sm⟩
 ·refine⟨_,j8,fun ow H0 H2 vs P Q o s rx q=>?_⟩
  obtain⟨v,rfl,ry⟩:=rx.only
  obtain⟨a,ws,rfl,hs,rl⟩:=gu ry
  refine⟨a,ws,rfl,.inr ⟨hs,q _ _ (au.refl _) ?_⟩⟩
  rw[ae]
  exact⟨a,ws,rfl,hs,rl.flat _ f⟩
theorem rK:∀{ns:List Int} {us:List Value},aD (ns.map V.int) us->(∀v,v∈us->∃a t,v=Value.int a t)/\numsOf us=ns
 | [],us,h=>by cases h;exact⟨fun _ h=>(by cases h),rfl⟩
 | n::ns,us,h=>by
  cases h with
  | cons h1 h2 =>
   obtain⟨t,rfl⟩:=(show ∃t,_=Value.int n t from h1)
   obtain⟨i1,i2⟩:=rK h2
   refine⟨fun v hv=>?_,by simp only[numsOf];rw[i2]⟩
   rcases QD.mp hv with rfl|hv
   ·exact⟨_,_,rfl⟩
   ·exact i1 v hv
theorem zC(hc:X.calm=true):e6 X (.builtin "sum") (fun xs H Q => ∃(p:Addr) (ns:List Int),xs=[.ref p]/\ci X.K H p (ns.map V.int)/\Q (.int ns.sum) H):=by
 intro pins s σ H xs us Q I r h
 obtain⟨p,ns,rfl,hq,q⟩:=h
 obtain⟨u,rfl,rx⟩:=iC r
 cases rx
 obtain⟨its,rv,pl,hz⟩:=I.list hq
 obtain⟨hall,hnum⟩:=rK rv
 obtain⟨xs,e⟩:=AllInts.items (vs:=its.toArray) (fun v hv=>hall v (by simpa using hv))
 have hl:=pl.isList
 rw[e]at hl
 refine sum_intListG (I.ok.hd hc) hl fun h' tk t' hk=>?_
 refine⟨.int ns.sum,H,I.kept hk,⟨t',?_⟩,q⟩
 congr 1
 rw[preSum_eq,RU (by simp),<- nums_intItems,<- e]
 simp[hnum]
theorem zF:e6 X (.builtin "len") (fun xs H Q => ∃(p:Addr) (S:Int->Bool) (n:Nat),xs=[.ref p]/\H p=some (.set S n)/\Q (.int n) H):=by
 intro pins s σ H xs us Q I r h
 obtain⟨p,S,n,rfl,hp,q⟩:=h
 obtain⟨u,rfl,rx⟩:=iC r
 cases rx
 obtain⟨o,es,ep,t,h1,h2,h3,_,_,h4,h5,rfl⟩:=(show s.heap.SetOf (intKind X.prog X.w) p S n from I.hok p _ hp)
 exact call_len_set h1 h2 h3 h5 (by unfold scanBound at h4;omega) ⟨.int _,H,I.tok _,⟨_,rfl⟩,q⟩
noncomputable def gT(f:Str)(B:List D->R1):Prop:=f∈io/\f ≠ "__name__" /\ (f==("__debug__" : Str))=false/\(B []=.st)/\∀(X:Cx) (ds:List D) (z:D) (l:Nat) (o:List Prop),X.calm=true->B ds=.ok (z,l) o->aB o ->
 ((∃id,bootBuiltins f=some (.builtin id)/\nC X (.builtin id) ds z l)\/∃T,bootBuiltins f=some (.type T)/\nC X (.type T) ds z l)
theorem FC:gT "len" ol:=by
 refine⟨by decide +kernel,by decide +kernel,by decide +kernel,rfl,fun X ds z l o hc h _=>.inl ⟨"len", by decide +kernel,?_⟩⟩
 unfold ol at h
 split at h
 ·cases h
  refine⟨_,zF,fun ow H0 H2 vs P Q o s rx q=>?_⟩
  obtain⟨v,rfl,ry⟩:=rx.only
  rw[ae]at ry
  obtain⟨a,S,rfl,ha⟩:=ry
  exact⟨a,S,_,rfl,ha,q _ _ (au.refl _) (by rw[ae])⟩
 ·split at h
  ·rename_i m e
   cases h
   rcases fZ e with rfl|rfl
   ·exact yJ.1
   ·exact yJ.2
  ·cases h
 ·cases h
theorem zO:gT "tuple" uj:=by
 refine⟨by decide +kernel,by decide +kernel,by decide +kernel,rfl,fun X ds z l o hc h hp=>.inr ⟨"tuple", by decide +kernel,?_⟩⟩
 unfold uj at h
 split at h
 ·split at h
  ·rename_i m e
   cases h
   have c:=hp.1
   rcases fZ e with rfl|rfl
   ·exact(rN c).2
   ·exact(rN c).1
  ·cases h
 ·cases h
theorem FB:gT "sum" BH:=by
 refine⟨by decide +kernel,by decide +kernel,by decide +kernel,rfl,fun X ds z l o hc h _=>.inl ⟨"sum", by decide +kernel,?_⟩⟩
 unfold BH at h
 split at h
 ·split at h
  ·rename_i bs e
   cases h
   cases iN e
   refine⟨_,zC hc,fun ow H0 H2 vs P Q o s rx q=>?_⟩
   obtain⟨v,rfl,ry⟩:=rx.only
   obtain⟨a,ws,rfl,hs,rl⟩:=jH ry
   exact⟨a,bs,rfl,by rw[<- rl.mapInt];exact hs,q _ _ (au.refl _) (by rw[ae])⟩
  ·cases h
 ·cases h
theorem FE:gT "isinstance" BI:=by
 refine⟨by decide +kernel,by decide +kernel,by decide +kernel,rfl,fun X ds z l o hc h _=>.inl ⟨"isinstance", by decide +kernel,?_⟩⟩
 unfold BI at h
 split at h
 ·rename_i m ns es n
  split at h
  ·rename_i hmn
   subst hmn
   cases h
   have cr:e6 X (.builtin "isinstance") (fun xs H Q => ∃a C dx fs,xs=[.ref a,.ref C]/\H a=some (.ins C dx fs)/\fS X.K C/\rH X.K C/\Q (.bl true) H):=by
    intro pins s σ H xs us Q I r hh
    obtain⟨a,C,dx,fs,rfl,ea,hc,ho,q⟩:=hh
    obtain⟨u,u2,rfl,ru,ru2⟩:=oD r
    cases (show u2=Value.ref C from ru2)
    exact qO I ru (.ins ea hc ho.ha ho.hn ho.ht ho.hm) (vO _) fun tk=>⟨.bl true,H,I.tok tk,rfl,q⟩
   refine⟨_,cr,fun ow H0 H2 vs P Q o s rx q=>?_⟩
   rw[ah]at rx
   obtain⟨v,r,rfl,r1,r2⟩:=rx
   obtain⟨w,rfl,r3⟩:=r2.only
   rw[ae]at r1
   rw[ae]at r3
   obtain⟨_,_,a,C,dx,vs,rfl,h1,h2,h3,_⟩:=r1
   obtain⟨C',o',rfl,h4,_,_,h5,_⟩:=r3
   rw[h1]at h4;cases h4
   exact⟨a,C,dx,_,rfl,h3,h2,h5,q _ _ (au.refl _) (by rw[ae])⟩
  ·split at h
   ·rename_i hmn
    cases h
    have cr:e6 X (.builtin "isinstance") (fun xs H Q => ∃a C C' dx fs,xs=[.ref a,.ref C']/\H a=some (.ins C dx fs)/\fS X.K C/\rH X.K C/\W.kitOne X.K (.ref C) (.ref C')=some (rS m n)/\Q (.bl (rS m n)) H):=by
     intro pins s σ H xs us Q I r hh
     obtain⟨a,C,C',dx,fs,rfl,ea,hc,ho,hk,q⟩:=hh
     obtain⟨u,u2,rfl,ru,ru2⟩:=oD r
     cases (show u2=Value.ref C' from ru2)
     exact qO I ru (.ins ea hc ho.ha ho.hn ho.ht ho.hm) hk fun tk=>⟨.bl (rS m n),H,I.tok tk,rfl,q⟩
    refine⟨_,cr,fun ow H0 H2 vs P Q o s rx q=>?_⟩
    rw[ah]at rx
    obtain⟨v,r,rfl,r1,r2⟩:=rx
    obtain⟨w,rfl,r3⟩:=r2.only
    rw[ae]at r1
    rw[ae]at r3
    obtain⟨_,_,a,C,dx,vs,rfl,h1,h2,h3,_⟩:=r1
    obtain⟨C',o',rfl,_,_,_,_,h5⟩:=r3
    obtain⟨h6,h7⟩:=h5.all m hmn C h1
    exact⟨a,C,C',dx,_,rfl,h3,h2,h6,h7,q _ _ (au.refl _) (by rw[ae])⟩
   ·cases h
 ·rename_i x T
  split at h
  ·rename_i hT
   split at h
   ·rename_i b hb
    cases h
    obtain⟨h1,h2⟩:=HE hb hT
    have cr:e6 X (.builtin "isinstance") (fun xs H Q => ∃v P,xs=[v,.ty T]/\ae X.K H P x v/\Q (.bl b) H):=by
     intro pins s σ H xs us Q I r hh
     obtain⟨v,P,rfl,rp,q⟩:=hh
     obtain⟨u,u2,rfl,ru,ru2⟩:=oD r
     cases (show u2=Value.type T from ru2)
     exact HD h1 h2 I rp ru fun tk=>⟨.bl b,H,I.tok tk,rfl,q⟩
    refine⟨_,cr,fun ow H0 H2 vs P Q o s rx q=>?_⟩
    rw[ah]at rx
    obtain⟨v,r,rfl,r1,r2⟩:=rx
    obtain⟨w,rfl,r3⟩:=r2.only
    rw[ae]at r3;subst r3
    exact⟨v,P,rfl,r1,q _ _ (au.refl _) (by rw[ae])⟩
   ·cases h
  ·cases h
 ·cases h
noncomputable def kD(K:W.Frag)(F:List D->Rs D):Sp:=fun vs H Q _ => ∃ds r l,ah K H (fun _ _=>True) ds vs/\F ds=.ok r l/\aB l/\∀v H',au H H'->ae K H' (fun a b=>b=true/\H a=none) r v->Q v H'
noncomputable def Dl(X:Cx)(g:Str)(F:List D->Rs D):Prop:=∃k f fd ps,cQ X.prog X.w X.K X.mg X.base gG k f fd ps (kD X.K F)/\bZ k X.A/\X.mg g=some (.ref f)/\W.keepIn X.K (.ref f)=true/\dj X.K fd ps []/\(g==("__debug__" : Str))=false
noncomputable def Ll(K:W.Frag)(n:Str)(F:List D->Rs D):Sp:=fun vs H Q _ => ∃x ws C dx ds r l,vs=.ref x::ws/\H x=some (.ins C dx [])/\W.nsIn K mainGlobals n=some (some (.ref C))/\fS K C/\ah K H (fun _ _=>True) ds ws/\F ds=.ok r l/\aB l/\r.lless=true /\
 ∀H',(∀a o,a≠x->H a=some o->H' a=some o)->ae K H' (fun _ _=>True) r (.ref x)->Q .non H'
noncomputable def JL(X:Cx)(g:Str)(F:List D->Rs D):Prop:=∃k C f fd ps,(∀ds r l,F ds=.ok r l->r.lless=true)/\Mk X.K C f/\cQ X.prog X.w X.K X.mg X.base gG k f fd ps (Ll X.K g F)/\bZ (k+1) X.A/\X.mg g=some (.ref C)/\W.nsIn X.K mainGlobals g=some (some (.ref C))/\fS X.K C/\dj X.K fd ps []/\(g==("__debug__" : Str))=false
noncomputable def P5(X:Cx)(g:Str)(F:List D->Rs D):Prop:=Dl X g F\/JL X g F
noncomputable def JM(X:Cx)(n m:Str)(F:List D->Rs D):Prop:=∃k C f fd ps,W.nsIn X.K mainGlobals n=some (some (.ref C))/\fS X.K C/\JN X.K C m f/\cQ X.prog X.w X.K X.mg X.base gG k f fd ps (kD X.K F)/\bZ k X.A/\dj X.K fd ps []
noncomputable def jX(f:Str)(B:List D->Nat->R1):Prop:=f∈io/\∀(X:Cx) (ρ:ac) (p pos:Pos) (args:List Expr) (ds:List D) (k:Nat) (d:D) (j:Nat) (l:List D) (tg:Expr) (o:List Prop),X.calm=true->Gl X f->X.mg f=none->AD X ρ args ds k ->
 (∀e∈args,∀x p,e ≠ .Starred x p)->args.length=ds.length->B ds k=.ok (d,j) o->aB o->items d=some l->fq (.Call (.Name f p) args [] pos) tg=true->IE X ρ tg (.Call (.Name f p) args [] pos) l j
noncomputable def xy(m:Str)(M:D->List D->R1):Prop:=∀(X:Cx) (ρ:ac) (a:Expr) (args:List Expr) (ap cp:Pos) (x:D) (k:Nat) (ds:List D) (j:Nat) (z:D) (l:Nat) (o:List Prop),X.calm=true->X.A.units+70<cLine->ED X ρ a x k->AD X ρ args ds j ->
 (∀e∈args,∀x p,e ≠ .Starred x p)->args.length=ds.length->(ap.endLine==cp.line)=true->ui a=true->M x ds=.ok (z,l) o->aB o->ED X ρ (.Call (.Attribute a m ap) args [] cp) z l
noncomputable def ny(m:Str)(M:List D->List D->Nat->Rs (List D)):Prop:=∀X:Cx,X.calm=true->∃(id:String) (r:V->List V->Hp->VK->Prop),Slot "list" m id/\typeOf (.builtin id)=pure (.type "method_descriptor")/\JJ X id r /\
 ∀(ow:Ow) (H0 H:Hp) (l ds l':List D) (j:Nat) (o:List Prop) (a:Addr) (vs ws:List V),M l ds j=.ok l' o->aB o->ds.length<29/\(∀(P:ba) (Q:VK),(∀b c,Kp ow H0 0 b c->P b c)->cP ow H0->au H0 H->H a=some (.lst vs)->ah X.K H P l vs->ah X.K H (Kp ow H0 j) ds ws ->
  (∀vs' w,ah X.K H P l' vs'->Q w (aF H a (.lst vs')))->r (.ref a) ws H Q)
noncomputable def Qb(X:Cx)(ow:Ow)(ρ:ac)(o:Option Int):TO:=fun σ H Q=>aH X ow H σ ρ/\∀H',au H H'->Q o H'
noncomputable def OD(X:Cx)(ρ:ac)(e:Option Expr)(o:Option Int):Prop:=∀ow,PO X e (Qb X ow ρ o)
noncomputable def rF(F:D->Option Int->Option Int->R1):Prop:=∀(X:Cx) (ρ:ac) (a:Expr) (lo hi:Option Expr) (p2 pos:Pos) (x z:D) (l h:Option Int) (k j:Nat) (o:List Prop),ED X ρ a x k->OD X ρ lo l->OD X ρ hi h->F x l h=.ok (z,j) o->aB o->ED X ρ (.Subscript a (.Slice lo hi none p2) pos) z j
structure aK(Φ:Fx)(X:Cx)(sc:Scope):Prop where
 calm:X.calm=true
 nd:X.N.Nodup
 gl:∀x,sc.names.lookup x=some .globalImplicit->Gl X x
 kc:∀x,(sc.names.lookup x=some .cell\/sc.names.lookup x=some .free)->X.env.kindOf x=some .cell\/X.env.kindOf x=some .free
 lc:∀x,sc.names.lookup x=some .local->X.env.scope.names.lookup x=some .local
 cc:∀x,sc.names.lookup x=some .cell->X.env.scope.names.lookup x=some .cell
 fn:∀g F,Φ.fn g=some F->P5 X g F
 con:∀x d,Φ.con x=some d->∃v u,X.mg x=some u/\aO v u/\∀H P,ae X.K H P d v
 blt:∀f B,Φ.blt f=some B->gT f B
 itr:∀f B,Φ.itr f=some B->jX f B
 mth:∀m M,Φ.mth m=some M->xy m M
 mtt:∀m M,Φ.mtt m=some M->ny m M
 slf:rF Φ.slf
 fld:∀n f,Φ.fld n f=true->∀C,W.nsIn X.K mainGlobals n=some (some (.ref C))->uG X.K C f
 omt:∀n m F,Φ.omt n m=some F->JM X n m F
 bl:∀f∈io,X.mg f=none
 room:X.A.units+70<cLine
 ns:∀x,cq sc x=true->x∈X.N
 ft:∀x,sc.names.lookup x=some .cell->X.fn x=true
variable{X:Cx}
theorem bX(h:dw x=true):(x==("__debug__" : Str))=false/\(x==("__classdict__" : Str))=false:=by
 unfold dw at h
 rw[QI]at h
 exact⟨Rl h.1,Rl h.2⟩
theorem eV{o:Bool}(h:ρ x=some (d,o))(hx:dw x=true):ED X ρ (.Name x pos) d (kn d (cond o 2 1)):=by
 refine ED.kn fun ow pins s σ H Q I ⟨E,q⟩=>?_
 obtain⟨i,v,e1,e2,e3,e4⟩:=E.get x d o h
 refine fF (i:=i) e1 e2 (bX hx).1 (bX hx).2 pins s σ H Q I ⟨v,e3,q v H (au.refl _) (e4.imp fun a b p=>?_)⟩
 cases o with
 | true=>exact⟨p.1,.inl (by rw[p.2];exact(fun z=>nomatch z))⟩
 | false=>exact p
theorem Im(G:aK Φ X sc)(h:Φ.con x=some d)(hg:sc.names.lookup x=some .globalImplicit)(hx:dw x=true):ED X ρ (.Name x pos) d 0:=by
 obtain⟨v,u,h1,h2,h3⟩:=G.con x d h
 exact fun ow=>bE (Ea (G.gl x hg) h1 h2 (bX hx).1) fun σ H Q ⟨E,q⟩=>q v H (au.refl _) (h3 H _)
theorem Dq(h:wl x=some T):bootBuiltins x=some (.type T)/\x ≠ "__name__" /\ (x==("__debug__" : Str))=false/\x∈io:=by
 unfold wl at h
 split at h
 ·rename_i e;subst e;cases h;exact⟨by decide +kernel,by decide +kernel,by decide +kernel,by decide +kernel⟩
 split at h
 ·rename_i e;subst e;cases h;exact⟨by decide +kernel,by decide +kernel,by decide +kernel,by decide +kernel⟩
 split at h
 ·rename_i e;subst e;cases h;exact⟨by decide +kernel,by decide +kernel,by decide +kernel,by decide +kernel⟩
 split at h
 ·rename_i e;subst e;cases h;exact⟨by decide +kernel,by decide +kernel,by decide +kernel,by decide +kernel⟩
 split at h
 ·rename_i e;subst e;cases h;exact⟨by decide +kernel,by decide +kernel,by decide +kernel,by decide +kernel⟩
 ·cases h
theorem Ie(G:aK Φ X sc)(h:wl x=some T)(hg:sc.names.lookup x=some .globalImplicit):ED X ρ (.Name x pos) (.typ T) 0:=by
 obtain⟨h1,h2,h3,h4⟩:=Dq h
 exact fun ow=>bE (Ec (v:=.ty T) (G.gl x hg) (G.bl x h4) h1 rfl h2 h3) fun σ H Q ⟨E,q⟩=>q _ H (au.refl _) (by rw[ae])
theorem Il{c:Const}(h:C7 c=some d):ED X ρ (.Constant c n pos) d 0:=by
 intro ow
 unfold C7 at h
 split at h
 ·cases h;exact bE GS fun σ H Q ⟨E,q⟩=>q _ H (au.refl _) (by rw[ae])
 ·cases h;exact bE Ks fun σ H Q ⟨E,q⟩=>q _ H (au.refl _) (by rw[ae])
 ·cases h;exact bE GU fun σ H Q ⟨E,q⟩=>q _ H (au.refl _) (by rw[ae])
 ·cases h;exact bE GP fun σ H Q ⟨E,q⟩=>q _ H (au.refl _) (by rw[ae])
 ·cases h
theorem Iq{b:Expr}{op:Operator}{x:D}{l:Nat}(ha:ED X ρ a x k)(hb:ED X ρ b y j)(h:uf op x y k j=.ok (z,l) o)(hp:aB o):ED X ρ (.BinOp a op b pos) z l:=by
 obtain⟨r,h1,h2⟩:=Jm (X:=X) h hp
 refine fun ow=>bE (Kr h1 (ha ow) (hb ow)) fun σ H Q ⟨E,q⟩=>⟨E,fun v H1 s1 r1=>⟨E.same s1,fun u H2 s2 r2=>?_⟩⟩
 exact h2 ow H H2 v u Q E.own (s1.trans s2) (r1.same s2) (r2.imp (Kp.back s1 j)) fun w H' s3 r3=>q w H' ((s1.trans s2).trans s3) r3
theorem KY{op:UnaryOp}{x:D}(ha:ED X ρ a x k)(h:xD op x=some z):ED X ρ (.UnaryOp op a pos) z 0:=by
 unfold xD at h
 split at h
 ·cases h
  refine fun ow=>bE (Kq FR (ha ow)) fun σ H Q ⟨E,q⟩=>⟨E,fun v H1 s1 r1=>?_⟩
  rw[ae]at r1;subst r1
  exact⟨_,rfl,q _ H1 s1 (by rw[ae])⟩
 ·cases h
  refine fun ow=>bE (GR (ha ow)) fun σ H Q ⟨E,q⟩=>⟨E,fun v H1 s1 r1=>?_⟩
  rw[ae]at r1;subst r1
  exact⟨_,rfl,q _ H1 s1 (by rw[ae])⟩
 ·cases h
theorem zp{b:Expr}{x:D}(hu:X.A.units+70<cLine)(ha:ED X ρ a x k)(hb:ED X ρ b y j)(h:iV op x y=.ok r o)(hp:aB o)(hm:behindInMarks op b=false):ED X ρ (.Compare a [op] [b] pos) (.bl r) 0:=by
 have c:=jx hu h hp
 intro ow pins s σ H Q I ⟨E,q⟩
 refine wpAny_Compare1 (Lr (ha ow) (hb ow) I (R:=fun v u H2=>au H H2/\ae X.K H2 (fun _ _=>True) x v/\ae X.K H2 (fun _ _=>True) y u) ⟨E,fun v H1 s1 r1=>⟨E.same s1,fun u H2 s2 r2=>⟨s1.trans s2,(r1.imp fun _ _ _=>True.intro).same s2,r2.imp fun _ _ _=>True.intro⟩⟩⟩ fun v u s2 x y H2 I2 rx ry ⟨sm,r1,r2⟩=>?_) hm
 exact c _ _ pins s2 σ H2 x y v u Q I2 rx ry ⟨r1,r2,q _ H2 sm (by rw[ae])⟩
theorem Fs{x:D}{r:D×Nat}{l:List Prop}(h:IH op op2 x y z=.ok r l):∃a b c r1 r2,x=.int a/\y=.int b/\z=.int c/\ga op a b=some r1/\ga op2 b c=some r2/\r=(.bl (r1&&r2),0):=by
 unfold IH at h
 split at h
 ·split at h
  ·rename_i h1 h2;cases h;exact⟨_,_,_,_,_,rfl,rfl,rfl,h1,h2,rfl⟩
  ·cases h
 ·cases h
theorem pz{a b:Int}(h:ga op a b=some r):iV op (.int a) (.int b)=.ok r []:=by
 unfold ga at h
 split at h<;>first|(cases h;rfl)|cases h
theorem Bx{b:Expr}{x y z:Int}(hu:X.A.units+70<cLine)(ha:ED X ρ a (.int x) k)(hb:ED X ρ b (.int y) j)(hc:ED X ρ c (.int z) i)(h:ga op x y=some r)(h2:ga op2 y z=some r2)(hm:behindInMarks op2 c=false):ED X ρ (.Compare a [op,op2] [b,c] pos) (.bl (r&&r2)) 0:=by
 have c1:=jx (X:=X) hu (pz h) (show aB []from True.intro)
 have c2:=jx (X:=X) hu (pz h2) (show aB []from True.intro)
 refine fun ow=>bE (A0 (c1 (fun _ _=>True) (fun _ _=>True)) (c2 (fun _ _=>True) (fun _ _=>True)) (ha ow) (hb ow) (hc ow) hm) fun σ H Q ⟨E,q⟩=>⟨E,fun v H1 s1 r1=>⟨E.same s1,fun u H2 s2 r2=>?_⟩⟩
 rw[ae]at r1 r2
 subst r1 r2
 refine⟨by rw[ae],by rw[ae],r,rfl,?_⟩
 cases r with
 | false=>exact q _ H2 (s1.trans s2) (by rw[ae];rfl)
 | true =>
  rw[if_pos rfl]
  refine⟨(E.same s1).same s2,fun w H3 s3 r3=>?_⟩
  rw[ae]at r3
  subst r3
  exact⟨by rw[ae],by rw[ae],q _ H3 ((s1.trans s2).trans s3) (by rw[ae];rfl)⟩
theorem J6(h:ED X ρ e (.bl b) k)(he:∀whole,isTrue e X.env whole=(do let v <- whole;standAt e.pos;holding [v] (truthy v))):TD X ρ e b :=
 fun ow=>xr (GF (h ow) he) fun σ H Q ⟨E,q⟩=>⟨E,fun v H1 s1 r1=>by rw[ae]at r1;exact⟨b,r1,q H1 s1⟩⟩
theorem ir:AD X ρ [] [] 0:=fun ow=>Df yh fun σ H Q ⟨E,q⟩=>q [] H (au.refl _) ah.nil
theorem ge(h1:ED X ρ e d k)(h2:AD X ρ es ds j)(hs:starEach (e::es) X.env=(false,eval e X.env)::starEach es X.env):AD X ρ (e::es) (d::ds) (kj k j) :=
 fun ow=>Df (vx (h1 ow) (h2 ow) hs) fun σ H Q ⟨E,q⟩=>⟨E,fun v H1 s1 r1=>⟨E.same s1,fun vs H2 s2 r2=>q _ H2 (s1.trans s2) (ah.cons ((r1.imp (Kp.joinL E.own k j)).same s2) (r2.imp fun a b p=>Kp.joinR E.own k j a b (Kp.back s1 j a b p)))⟩⟩
theorem Bw(h:AD X ρ es ds k)(hl:ds.length<=bJ):ED X ρ (.Tuple es n pos) (.tup ds) (kn (.tup ds) k):=by
 refine ED.kn fun ow=>bE (GO (h ow)) fun σ H Q ⟨E,q⟩=>⟨E,fun vs H1 s1 r1=>⟨by rw[<- r1.length];exact QR hl dl,fun p hp=>?_⟩⟩
 have sm:=cJ (o:=HO.tup vs) hp
 refine q _ _ (s1.trans sm) ?_
 rw[ae]
 exact⟨p,vs,rfl,aZ.of aC,r1.same sm⟩
theorem Ij:ED X ρ (.Dict [] [] pos) (.dct [] []) 0:=by
 intro ow pins s σ H Q I ⟨E,q⟩
 refine wpAny_Dict_empty ⟨.ref s.heap.objs.size,_,I.laid (t':=s.toks) (o:=.dK []) (fun b ob q=>Qw _ q) (QA _) ?_,rfl,q _ _ (cJ (I.hok.fresh (QA _))) ?_⟩
 ·exact⟨QN _,beq_eq_false_iff_ne.mpr (RN (modules_low I.nolimit)),[],.nil,Heap.DictOf.new _⟩
 ·rw[ae];exact⟨rfl,rfl,_,[],rfl,aC,⟨rfl,I.hok.fresh (QA _)⟩,ah.nil⟩
theorem ql(h:AD X ρ es ds k)(hk:k<=1)(hl:ds.length<=bJ):ED X ρ (.List es pos) (.lst ds) k:=by
 refine fun ow=>bE (GT (h ow)) fun σ H Q ⟨E,q⟩=>⟨E,fun vs H1 s1 r1=>⟨by rw[<- r1.length];exact QR hl dl,fun p hp=>?_⟩⟩
 have sm:=cJ (o:=HO.lst vs) hp
 refine q _ _ (s1.trans sm) ?_
 rw[ae]
 exact⟨p,vs,true,rfl,aC,yM E.own (s1.free hp) hk,r1.same sm⟩
theorem C3{b:Expr}(hc:TD X ρ c t)(h:if t=true then ED X ρ a d k else ED X ρ b d k):ED X ρ (.IfExp c a b pos) d k:=by
 cases t with
 | true =>
  intro ow pins s σ H Q I ⟨E,q⟩
  refine PyProof.Rows.IfExp_ (aL (hc ow pins s σ H (fun t H1=>t=true/\au H H1) I ⟨E,fun H1 s1=>⟨rfl,s1⟩⟩) fun t s1 ⟨H1,I1,e1,s1'⟩=>?_)
  subst e1
  exact h ow pins s1 σ H1 Q I1 ⟨E.same s1',fun v H2 s2 r2=>q v H2 (s1'.trans s2) (r2.imp (Kp.back s1' k))⟩
 | false =>
  intro ow pins s σ H Q I ⟨E,q⟩
  refine PyProof.Rows.IfExp_ (aL (hc ow pins s σ H (fun t H1=>t=false/\au H H1) I ⟨E,fun H1 s1=>⟨rfl,s1⟩⟩) fun t s1 ⟨H1,I1,e1,s1'⟩=>?_)
  subst e1
  exact h ow pins s1 σ H1 Q I1 ⟨E.same s1',fun v H2 s2 r2=>q v H2 (s1'.trans s2) (r2.imp (Kp.back s1' k))⟩
variable{X:Cx}
theorem ah.atI{i:Int}(h:ah K H P l vs)(e:L2.atI l i=some d):∃v,L2.atI vs i=some v/\ae K H P d v:=by
 unfold L2.atI at e⊢
 rw[<- h.length]
 cases q:j7 l.length i with
 | none=>rw[q]at e;cases e
 | some j=>rw[q]at e;exact h.get e
theorem KZ{b:Expr}{x:D}{i:Int}{l:Nat}(ha:ED X ρ a x k)(hb:ED X ρ b (.int i) j)(hs:gj b)(h:tq x i k=.ok (z,l) o):ED X ρ (.Subscript a b pos) z l:=by
 unfold tq at h
 split at h
 ·rename_i m e0
  split at h
  ·rename_i d e
   unfold mk at h
   cases h
   rcases fZ e0 with rfl|rfl
   ·refine ED.kn fun ow=>bE (oO HB (ha ow) (hb ow) hs) fun σ H Q ⟨E,q⟩=>⟨E,fun v H1 s1 r1=>⟨E.same s1,fun u H2 s2 r2=>?_⟩⟩
    obtain⟨p,vs,rfl,hq,rl⟩:=gu (r1.same s2)
    rw[ae]at r2;subst r2
    obtain⟨w,h1,h2⟩:=rl.atI e
    exact⟨p,vs,i,w,rfl,rfl,hq,h1,q w H2 (s1.trans s2) h2⟩
   ·refine ED.kn fun ow=>bE (oO EN (ha ow) (hb ow) hs) fun σ H Q ⟨E,q⟩=>⟨E,fun v H1 s1 r1=>⟨E.same s1,fun u H2 s2 r2=>?_⟩⟩
    obtain⟨p,vs,rfl,hq,rl⟩:=jH (r1.same s2)
    rw[ae]at r2;subst r2
    obtain⟨w,h1,h2⟩:=rl.atI e
    exact⟨p,vs,i,w,rfl,rfl,hq,h1,q w H2 (s1.trans s2) h2⟩
  ·cases h
 ·cases h
noncomputable def MI:R2:=fun x y H Q => ∃p kvs k v,x=.ref p/\y=kV k/\H p=some (.dK kvs)/\cU kvs k=some v/\Q v H
theorem EO:Ap X MI:=by
 intro value slice pins s σ H x y v u Q I rx ry h hs
 obtain⟨p,kvs,k,z,rfl,rfl,hq,he,q⟩:=h
 cases rx
 obtain⟨_,hd,vs,bR,dd⟩:=(show aV X.prog X.w H s.heap p (.dK kvs)from I.hok p _ hq)
 obtain⟨w,hw,rw'⟩:=gL.some_of (v:=z) (o:=valueAt vs k) (by rw[<- he];exact bR.val k)
 exact subscriptTail_builtinR (x:=w) dd.typeIs PySem.F.slot_dict_getitem.lookup (wpAny_getItem_of (Q:=fun r s'=>r=w/\EP X pins σ Q r s') (gR ry) dd.mapOf hw ⟨rfl,z,H,I.tok _,rw',q⟩) hs
theorem tV{K:W.Frag}{P:ba}{H:Hp}{k:aP}{d:D}:∀{ks:List aP} {ds:List D} {vs:List V},ah K H P ds vs->tW ks ds k=some d->∃v,cU (ks.zip vs) k=some v/\ae K H P d v/\d∈ds
 | [],ds,vs,_,e=>by cases e
 | j::ks,[],vs,_,e=>by cases e
 | j::ks,x::ds,vs,h,e=>by
  rw[ah]at h
  obtain⟨v,r,rfl,h1,h2⟩:=h
  by_cases hj:j=k
  ·have e':some x=some d:=by rw[<- e];simp[tW,Sw,hj]
   cases e'
   exact⟨v,eF hj,h1,Qy⟩
  ·have e':tW ks ds k=some d:=by rw[<- e];simp[tW,Sw,hj]
   obtain⟨w,g1,g2,g3⟩:=tV h2 e'
   exact⟨w,(eG hj).trans g1,g2,Qz _ g3⟩
theorem k7:∀{l:List D} {d:D},ao l=true->d∈l->d.lless=true
 | x::l,d,h,m=>by
  rw[ao,QI]at h
  rcases QD.mp m with rfl|m
  ·exact h.1
  ·exact k7 h.2 m
theorem vK{K:W.Frag}{H:Hp}{k:aP}{l:List (List Int)}:∀{ks:List aP} {ls:List (List (List Int))} {vs:List V},j9 K H ls vs->vL ks ls k=some l->∃a o ts,cU (ks.zip vs) k=some (.ref a)/\H a=some (.frz o (.lst ts))/\bD K H ts l
 | [],_,_,_,h=>by cases h
 | _::_,[],_,_,h=>by cases h
 | j::ks,l'::ls,v::vs,f,h=>by
  rw[vL]at h
  rw[Sz]
  by_cases e:j=k
  ·rw[if_pos e]at h
   cases h
   obtain⟨a,o,ts,rfl,h1,h2⟩:=f.1
   exact⟨a,o,ts,eF e,h1,h2⟩
  ·rw[if_neg e]at h
   rw[eG e]
   exact vK f.2 h
 | _::_,_::_,[],f,_=>f.elim
theorem sv{K:W.Frag}{P:ba}{H:Hp}:∀{bs:List V} {nss:List (List Int)},bD K H bs nss->ah K H P (nss.map fun ns=>.tup (ns.map D.int)) bs
 | [],[],_=>ah.nil
 | v::bs,ns::nss,h=>by
  obtain⟨a,rfl,hq,_⟩:=h.1
  exact ah.cons (by rw[ae];exact⟨a,_,rfl,hq,ah.ofInts⟩) (sv h.2)
 | [],_::_,h=>h.elim
 | _::_,[],h=>h.elim
theorem tY{a:Addr}{o:Obj}{kvs:List (aP×V)}(I:aj X pins σ H s)(ha:H a=some (.frz o (.dK kvs))):s.heap.get? a=some o/\(a==sysModules)=false/\kvs.length<=sizeLine/\∃vs,KV kvs vs/\s.heap.DictOf (b7 X.prog X.w) a vs:=by
 obtain⟨e,z,hd,vs,bR,dd⟩:=(show aV X.prog X.w H s.heap a (.frz o (.dK kvs))from I.hok a _ ha)
 exact⟨e,hd,z,vs,bR,dd⟩
theorem yT:Ap X (fun x y H Q => ∃p o kvs k v,x=.ref p/\y=kV k/\H p=some (.frz o (.dK kvs))/\cU kvs k=some v/\Q v H):=by
 intro value slice pins s σ H x y v u Q I rx ry h hs
 obtain⟨p,o,kvs,k,z,rfl,rfl,hq,he,q⟩:=h
 cases rx
 obtain⟨_,hd,_,vs,bR,dd⟩:=tY I hq
 obtain⟨w,hw,rw'⟩:=gL.some_of (v:=z) (o:=valueAt vs k) (by rw[<- he];exact bR.val k)
 exact subscriptTail_builtinR (x:=w) dd.typeIs PySem.F.slot_dict_getitem.lookup (wpAny_getItem_of (Q:=fun r s'=>r=w/\EP X pins σ Q r s') (gR ry) dd.mapOf hw ⟨rfl,z,H,I.tok _,rw',q⟩) hs
theorem Ig{b:Expr}{p q r:D×Nat}(ha:ED X ρ a p.1 p.2)(hb:ED X ρ b q.1 q.2)(hs:gj b)(h:jD p q=.ok r o):ED X ρ (.Subscript a b pos) r.1 r.2:=by
 obtain⟨z,k⟩:=p
 unfold jD at h
 split at h
 ·rename_i ks ds e0
  have e0:z=_:=e0
  subst e0
  split at h
  ·rename_i key e
   split at h
   ·rename_i d e2
    cases h
    refine fun ow=>bE (oO EO (ha ow) (hb ow) hs) fun σ H Q ⟨E,qq⟩=>⟨E,fun v H1 s1 r1=>⟨E.same s1,fun u H2 s2 r2=>?_⟩⟩
    have r1':=r1.same s2
    rw[ae]at r1'
    obtain⟨f,e1,p,vs,rfl,hq,_,rl⟩:=r1'
    have hk:=jL (X:=X) e r2
    obtain⟨w,g1,g2,g3⟩:=tV rl e2
    exact⟨p,_,key,w,rfl,hk,hq,g1,qq w H2 (s1.trans s2) (g2.flat _ (k7 f g3))⟩
   ·cases h
  ·cases h
 ·rename_i ks ls e0
  have e0:z=_:=e0
  subst e0
  split at h
  ·rename_i key e
   split at h
   ·rename_i l e2
    cases h
    refine fun ow=>bE (oO yT (ha ow) (hb ow) hs) fun σ H Q ⟨E,qq⟩=>⟨E,fun v H1 s1 r1=>⟨E.same s1,fun u H2 s2 r2=>?_⟩⟩
    have r1':=r1.same s2
    rw[ae]at r1'
    obtain⟨e0,a,o,vs,rfl,hq,fz⟩:=r1'
    have hk:=jL (X:=X) e r2
    obtain⟨la,oo,ts,g1,g2,g3⟩:=vK fz e2
    refine⟨a,o,_,key,.ref la,rfl,hk,hq,g1,qq _ H2 (s1.trans s2) ?_⟩
    rw[ae]
    exact⟨la,ts,false,rfl,.inl ⟨oo,g2⟩,fun z=>(by cases z),sv g3⟩
   ·cases h
  ·cases h
 ·unfold wW at h
  split at h
  ·rename_i j hj
   rw[hj]at hb
   exact KZ ha hb hs h
  ·cases h
theorem De{e:Option Expr}{t t':TO}(h:PO X e t)(i:∀σ H Q,t' σ H Q->t σ H Q):PO X e t':=fun pins s σ H Q I q=>h pins s σ H Q I (i σ H Q q)
theorem Es:OD X ρ none none:=fun ow=>De D5 fun σ H Q ⟨E,q⟩=>q H (au.refl _)
theorem Er{i:Int}(h:ED X ρ e (.int i) k):OD X ρ (some e) (some i):=fun ow=>De (D4 (h ow)) fun σ H Q ⟨E,q⟩=>⟨E,fun v H1 s1 r1=>by rw[ae]at r1;exact⟨i,r1,q H1 s1⟩⟩
theorem ah.cut{lo hi:Option Int}(h:ah K H P l vs):ah K H P (Bz l lo hi) (Iw vs lo hi):=by
 unfold Bz Iw
 rw[<- h.length]
 exact(h.drop _).take _
theorem bh:rF cw:=fun X ρ a lo hi p2 pos x z l h k j o ha hl hh e hp=>by cases e
theorem cn{env:Env}{pos:Pos}:∀{es:List Expr},(∀e∈es,∀x p,e ≠ .Starred x p)->(backTo pos (starEach es env)).any (·.1)=false
 | [],_=>rfl
 | e::es,h=>by
  have ih:=cn (env:=env) (es:=es) (pos:=pos) fun x hx=>h x (Qz _ hx)
  have he:=h e Qy
  cases e<;>first|exact absurd rfl (he _ _)|exact ih
theorem aN(h:∀x p,e ≠ .Starred x p):starEach (e::es) env=(false,eval e env)::starEach es env:=by
 cases e<;>first|exact absurd rfl (h _ _)|rfl
theorem By{r:D}(G:aK Φ X sc)(hf:Dl X f F)(hg:sc.names.lookup f=some .globalImplicit)
  (ha:AD X ρ args ds k) (hst:∀e∈args,∀x p,e ≠ .Starred x p) (hnil:args=[]->ds=[]) (h:F ds=.ok r o) (hp:aB o):ED X ρ (.Call (.Name f p) args [] pos) r 0:=by
 obtain⟨n,fa,fd,ps,hF,hr,hm,hk,hb,hd⟩:=hf
 intro ow
 cases args with
 | nil =>
  refine bE (A1 hF hr (G.gl f hg) hm hk hb .nil rk hd) fun σ H Q ⟨E,q⟩=>?_
  have hds:=hnil rfl
  subst hds
  exact⟨[],r,o,ah.nil,h,hp,fun v H' s1 r1=>q v H' s1 r1⟩
 | cons e es =>
  refine bE (Eb hF hr (G.gl f hg) hm hk hb .nil rk (ha ow) hd (aN (hst e Qy)) (cn fun x hx=>hst x (Qz _ hx))) fun σ H Q ⟨E,q⟩=>⟨E,fun vs H1 s1 r1=>?_⟩
  refine⟨ds,r,o,by rw[Ra];exact r1.imp fun _ _ _=>True.intro,h,hp,fun v H' s2 r2=>q v H' (s1.trans s2) (r2.imp fun a b p=>⟨p.1,s1.free p.2⟩)⟩
theorem kG{x dx C:Addr}(hx:H x=none)(hd:H dx=none):au H (aF (aF H dx (.own x)) x (.ins C dx [])):=fun a o h=>by
 rw[aq (fun z=>by subst z;rw[hx]at h;cases h),aq (fun z=>by subst z;rw[hd]at h;cases h)]
 exact h
theorem Fe{r:D}(G:aK Φ X sc)(hf:JL X f F)(hg:sc.names.lookup f=some .globalImplicit)
  (ha:AD X ρ args ds k) (hst:∀e∈args,∀x p,e ≠ .Starred x p) (hnil:args=[]->ds=[]) (h:F ds=.ok r o) (hp:aB o):ED X ρ (.Call (.Name f p) args [] pos) r 0:=by
 obtain⟨n,C,fa,fd,ps,hfl,hM,hF,hr,hm,hns,hc,hb,hd⟩:=hf
 have hl:=hfl ds r o h
 intro ow
 cases args with
 | nil =>
  refine bE (AZ hM hF hr (G.gl f hg) hm hb .nil rk hd) fun σ H Q ⟨E,q⟩=>?_
  have hds:=hnil rfl
  subst hds
  intro x dx hx hdx ne
  refine⟨x,[],C,dx,[],r,o,rfl,aC,hns,hc,ah.nil,h,hp,hl,fun H' kp rr=>⟨rfl,q _ H' (fun a ob ha=>?_) (rr.flat _ hl)⟩⟩
  exact kp a ob (fun z=>by subst z;rw[hx]at ha;cases ha) (kG hx hdx a ob ha)
 | cons e es =>
  refine bE (D7 hM hF hr (G.gl f hg) hm hb .nil rk (ha ow) hd (aN (hst e Qy)) (cn fun x hx=>hst x (Qz _ hx))) fun σ H Q ⟨E,q⟩=>⟨E,fun vs H1 s1 r1=>?_⟩
  intro x dx hx hdx ne
  refine⟨x,vs++[],C,dx,ds,r,o,rfl,aC,hns,hc,by rw[Ra];exact(r1.same (kG hx hdx)).imp fun _ _ _=>True.intro,h,hp,hl,fun H' kp rr=>⟨rfl,q _ H' (s1.trans fun a ob ha=>?_) (rr.flat _ hl)⟩⟩
  exact kp a ob (fun z=>by subst z;rw[hx]at ha;cases ha) (kG hx hdx a ob ha)
theorem Fh{r:D}(G:aK Φ X sc)(hf:Φ.fn f=some F)(hg:sc.names.lookup f=some .globalImplicit)
  (ha:AD X ρ args ds k) (hst:∀e∈args,∀x p,e ≠ .Starred x p) (hnil:args=[]->ds=[]) (h:F ds=.ok r o) (hp:aB o):ED X ρ (.Call (.Name f p) args [] pos) r 0:=by
 rcases G.fn f F hf with z|z
 ·exact By G z hg ha hst hnil h hp
 ·exact Fe G z hg ha hst hnil h hp
theorem qu{t:Sem Value}(h:ui a=true):attributeBase a m env t=t:=by
 unfold attributeBase
 split
 ·cases h
 ·rfl
theorem Io{l:Nat}(G:aK Φ X sc)(hB:gT f B)(hg:sc.names.lookup f=some .globalImplicit)
  (ha:AD X ρ (e::es) ds k) (hst:∀x∈e::es,∀y p,x ≠ .Starred y p) (h:B ds=.ok (z,l) o) (hp:aB o):ED X ρ (.Call (.Name f p) (e::es) [] pos) z l:=by
 obtain⟨h3,h1,h2,_,h4⟩:=hB
 have h4:=h4 X ds z l o G.calm h hp
 intro ow
 have n1:=aN (env:=X.env) (es:=es) (hst e Qy)
 have n2:(backTo pos (starEach es X.env)).any (·.1)=false:=cn fun x hx=>hst x (Qz _ hx)
 rcases h4 with⟨id,e1,r,e2,e3⟩|⟨T,e1,r,e2,e3⟩
 ·refine bE (sI e2 (G.gl f hg) (G.bl f h3) e1 (ha ow) h1 h2 n1 n2) fun σ H Q ⟨E,q⟩=>⟨E,fun vs H1 s1 r1=>?_⟩
  exact e3 ow H H1 vs _ Q E.own s1 r1 fun w H' s2 r2=>q w H' (s1.trans s2) r2
 ·refine bE (qM e2 (G.gl f hg) (G.bl f h3) e1 (ha ow) h1 h2 n1 n2) fun σ H Q ⟨E,q⟩=>⟨E,fun vs H1 s1 r1=>?_⟩
  exact e3 ow H H1 vs _ Q E.own s1 r1 fun w H' s2 r2=>q w H' (s1.trans s2) r2
theorem mT(h:ED X ρ e (.lst l) k):IE X ρ tg e l k:=by
 intro ow pins s σ H R I ⟨E,q⟩
 refine D6 (tg:=tg) (h ow) pins s σ H R I ⟨E,fun v H1 s1 r1=>?_⟩
 rw[ae]at r1
 obtain⟨a,vs,b,rfl,hl,hp,rl⟩:=r1
 have rl':ah X.K H1 (Kd ow H k H1) l vs:=rl.impH (fun a o ho p=>⟨p,fun _=>⟨o,ho⟩⟩) fun a p=>⟨p,fun z=>(by cases z)⟩
 have hp':Kd ow H k H1 a b:=⟨hp,fun hb=>by subst hb;exact⟨_,hl⟩⟩
 have sq:∀{H2:Hp},uH X.K H2 a vs b->ci X.K H2 a vs:=fun {H2} h=>h.sq
 refine⟨a,rfl,⟨vs,sq hl⟩,q _ H1 s1 fun i H2 st=>⟨fun d hd=>?_,fun hle=>?_⟩⟩
 ·have h2:=sq (st.ls hl hp')
  obtain⟨w,hw,rw'⟩:=rl'.get hd
  refine⟨⟨vs,w,h2,hw⟩,fun x H3 ⟨e3,y3⟩=>?_⟩
  subst e3
  have:=y3 vs h2
  rw[hw]at this;cases this
  exact⟨au.refl _,rw'.mono st⟩
 ·exact⟨vs,sq (st.ls hl hp'),by rw[<- rl.length];exact hle⟩
theorem HJ(h:ED X ρ e (.tup l) k):IE X ρ tg e l k:=by
 intro ow pins s σ H R I ⟨E,q⟩
 refine GL (tg:=tg) (h ow) pins s σ H R I ⟨E,fun v H1 s1 r1=>?_⟩
 rw[ae]at r1
 obtain⟨a,vs,rfl,hl,rl⟩:=r1
 have rl':ah X.K H1 (Kd ow H k H1) l vs:=rl.impH (fun a o ho p=>⟨p,fun _=>⟨o,ho⟩⟩) fun a p=>⟨p,fun z=>(by cases z)⟩
 refine⟨a,rfl,⟨vs,hl⟩,q _ H1 s1 fun i H2 st=>⟨fun d hd=>?_,fun hle=>?_⟩⟩
 ·have h2:=st.sq hl
  obtain⟨w,hw,rw'⟩:=rl'.get hd
  refine⟨⟨vs,w,h2,hw⟩,fun x H3 ⟨e3,y3⟩=>?_⟩
  subst e3
  have:=y3 vs h2
  rw[hw]at this;cases this
  exact⟨au.refl _,rw'.mono st⟩
 ·exact⟨vs,st.sq hl,by rw[<- rl.length];exact hle⟩
noncomputable def Ly(x:Str):It:=⟨fun i _=>i<x.cps.size,fun i H v H'=>H'=H/\∃c,x.cps[i]?=some c/\v=.str ⟨#[c]⟩,fun i _=>x.cps.size<=i⟩
theorem Av{P:Program}(x:Str)(t:Tok)(it:Addr):Turn P w K tg (Ly x) [it] it (fun i h=>h.IsStrIter it "str_ascii_iterator" x t i) where
 mem:=by simp
 obj:=fun i h st b hb=>by
  have e:b=it:=by simpa using hb
  subst e
  obtain⟨o,e,c,d⟩:=st
  exact⟨o,e,fun v z=>by rw[d]at z;cases z⟩
 keep:=fun i h h' st k=>by
  obtain⟨o,e,c,d⟩:=st
  exact⟨o,k it (by simp) o e,c,d⟩
 item:=by
  intro X hP hw hK hc i pins s σ H E I hf st hg
  subst hP hw hK
  obtain⟨f0,f1,f2,f3,f4,f5⟩:=hf it (by simp)
  have hx:x.cps[i]?=some x.cps[i]:=Array.getElem?_eq_getElem hg
  refine wpAny_pyNext_ascii_item st hx fun h' st' sb=>?_
  have I1:aj X pins σ H { s with heap:=h',toks:=s.toks+1 }:=I.turned (t':=s.toks+1) (fun b o hb e=>(sb.2 b hb).trans e) f0 f1 f3 f4 f5
  obtain⟨o,e,c,d⟩:=id st'
  exact⟨_,rfl,jO (s:={ s with heap:=h',toks:=s.toks+1 }) e c d (by decide) ⟨.str ⟨#[x.cps[i]]⟩,H,I1,⟨_,rfl⟩,⟨rfl,_,hx,rfl⟩,st',fun b hb=>(hf b hb).1⟩⟩
 done:=by
  intro X hP hw hK hc i pins s σ H E I hf st hg
  subst hP hw hK
  obtain⟨f0,f1,f2,f3,f4,f5⟩:=hf it (by simp)
  exact wpAny_pyNext_ascii_end (I.ok.hd hc) st (Array.getElem?_eq_none hg) fun h' eb=>⟨rfl,I.turned (t':=s.toks) (fun b o hb e=>eb b o hb e) f0 f1 f3 f4 f5⟩
 self:=fun _ _ _ _ _ st h=>wpAny_pyIter_striter_ascii st h
theorem HK(h:ED X ρ e (.str x) k)(ha:(x.cps.all fun c=>decide (c<128))=true):IE X ρ tg e (Cj x) k:=by
 intro ow pins s σ H R I ⟨E,q⟩
 refine aL (h ow pins s σ H _ I ⟨E,fun v H1 s1 r1=>(show(fun v H1=>au H H1/\ae X.K H1 (Kp ow H k) (.str x) v) v H1 from⟨s1,r1⟩)⟩) fun v s1 ⟨y,H1,I1,bR,sm,rp⟩=>?_
 rw[ae]at rp;subst rp
 obtain⟨t,rfl⟩:=bR
 have ty:strIterType x = "str_ascii_iterator" := if_pos ha
 refine wpAny_pyIter_strU ?_
 rw[ty]
 refine⟨s1.heap.objs.size,[s1.heap.objs.size],_,Ly x,H1,rfl,I1.kept (t':=s1.toks) fun b o e=>Qw _ e,Av x t _,⟨_,QJ _ rfl,rfl,rfl⟩,fun b hb=>?_,q _ H1 sm fun i H2 st=>⟨fun d hd=>?_,fun hle=>?_⟩⟩
 ·have e:b=s1.heap.objs.size:=by simpa using hb
  subst e
  exact I1.fpOk (QA _) (I1.hok.fresh (QA _))
 ·unfold Cj at hd
  rw[Q7]at hd
  cases hc:x.cps.toList[i]? with
  | none=>rw[hc]at hd;cases hd
  | some c =>
   rw[hc]at hd;cases hd
   have hi:i<x.cps.size:=by simpa using (QO.mp hc).1
   refine⟨hi,fun z H3 ⟨e3,c',e4,e5⟩=>?_⟩
   subst e3 e5
   rw[Array.getElem?_toList]at hc
   rw[hc]at e4;cases e4
   exact⟨au.refl _,by rw[ae]⟩
 ·unfold Cj at hle
  rw[QC,QF]at hle
  exact hle
theorem KH(h:ED X ρ e d k)(hi:items d=some l):IE X ρ tg e l k:=by
 unfold items at hi
 split at hi
 ·cases hi;exact mT h
 ·cases hi;exact HJ h
 ·split at hi
  ·rename_i ha;cases hi;exact HK h ha
  ·cases hi
 ·cases hi
theorem Bp{j:Int}(hg:Gl X "range")(hm0:X.mg "range" = none)(ha:AD X ρ [a] [.int j] k)(hst:∀y p,a ≠ .Starred y p)(h1:-4611686018427387904<=j)(h2:j<=bJ) :
  IE X ρ tg (.Call (.Name "range" p) [a] [] pos) ((List.range j.toNat).map fun i=>.int (i:Nat)) 0:=by
 intro ow pins s σ H R I ⟨E,q⟩
 refine yf (tg:=tg) hg hm0 (ha ow) (by rw[aN hst];rfl) pins s σ H R I ⟨E,fun vs H1 s1 r1=>?_⟩
 obtain⟨v,rfl,rv⟩:=r1.only
 rw[ae]at rv;subst rv
 have hm:(bJ:Int)<2 ^ 62:=by decide
 refine⟨j,rfl,h1,by omega,q _ H1 s1 fun i H2 st=>⟨fun d hd=>?_,fun hle=>?_⟩⟩
 ·rw[Q7]at hd
  cases e:(List.range j.toNat)[i]? with
  | none=>rw[e]at hd;cases hd
  | some n =>
   rw[e]at hd;cases hd
   obtain⟨hi,hn⟩:=QO.mp e
   rw[List.getElem_range]at hn
   subst hn
   rw[R9]at hi
   refine⟨hi,fun x H3 ⟨e3,y3⟩=>?_⟩
   subst e3 y3
   exact⟨au.refl _,by rw[ae,Int.zero_add]⟩
 ·rw[QC,R9]at hle
  exact hle
theorem yY{b:Expr}{j0 j:Int}(hg:Gl X "range")(hm0:X.mg "range" = none)(ha:AD X ρ [a,b] [.int j0,.int j] k)(hst:∀y p,a ≠ .Starred y p)(hst2:∀y p,b ≠ .Starred y p)(h1:-4611686018427387904<=j0)(h2:j0<=4611686018427387000)(h3:-4611686018427387904<=j)(h4:j-j0<=800) :
  IE X ρ tg (.Call (.Name "range" p) [a,b] [] pos) ((List.range (j-j0).toNat).map fun i=>.int (j0+(i:Nat))) 0:=by
 intro ow pins s σ H R I ⟨E,q⟩
 refine ye (tg:=tg) hg hm0 (ha ow) (by rw[aN hst,aN hst2];rfl) (by rw[aN hst2];rfl) pins s σ H R I ⟨E,fun vs H1 s1 r1=>?_⟩
 rw[ah]at r1
 obtain⟨v1,r,rfl,r2,r3⟩:=r1
 rw[ah]at r3
 obtain⟨v2,r',rfl,r4,r5⟩:=r3
 rw[ah]at r5
 rw[ae]at r2 r4
 subst r2 r4 r5
 refine⟨j0,j,rfl,⟨h1,by omega,h3,by omega⟩,q _ H1 s1 fun i H2 st=>⟨fun d hd=>?_,fun hle=>?_⟩⟩
 ·rw[Q7]at hd
  cases e:(List.range (j-j0).toNat)[i]? with
  | none=>rw[e]at hd;cases hd
  | some n =>
   rw[e]at hd;cases hd
   obtain⟨hi,hn⟩:=QO.mp e
   rw[List.getElem_range]at hn
   subst hn
   rw[R9]at hi
   refine⟨hi,fun x H3 ⟨e3,y3⟩=>?_⟩
   subst e3 y3
   exact⟨au.refl _,by rw[ae]⟩
 ·rw[QC,R9]at hle
  exact hle
theorem yZ:jX "range" tJ:=by
 refine⟨by decide +kernel,fun X ρ p pos args ds k d j l tg o hc hg hm ha hst hlen h hp hl ht=>?_⟩
 unfold tJ at h
 split at h
 ·rename_i n
  cases h
  cases hl
  match args,hlen,ha,hst with
  | [a],_,ha,hst=>exact Bp hg hm ha (hst a Qy) hp.1 hp.2.1
 ·rename_i m n
  cases h
  cases hl
  match args,hlen,ha,hst with
  | [a,b],_,ha,hst=>exact yY hg hm ha (hst a Qy) (hst b (Qz _ Qy)) hp.1 hp.2.1 hp.2.2.1 hp.2.2.2.1
 ·cases h
variable{X:Cx}
theorem bm{y:D×Bool}(z:Str):aI ρ x y z=if z=x then some y else ρ z:=rfl
theorem d7{o:Bool}(hN:X.N.Nodup)(hl:σ.length=X.N.length)(E:aH X ow H σ ρ)(hi:X.N[i]?=some x)(hv:fj X.env.scope x)(r:ae X.K H (kT ow x o) d v) :
  aH X ow H (σ.set i (some v)) (aI ρ x (d,o)):=by
 have hil:i<σ.length:=by rw[hl];exact(QO.mp hi).1
 refine⟨fun y e o' h=>?_,E.own⟩
 rw[bm]at h
 by_cases hy:y=x
 ·subst hy
  rw[if_pos rfl]at h
  cases h
  exact⟨i,v,hi,hv,by rw[List.getElem?_set_self hil],r⟩
 ·rw[if_neg hy]at h
  obtain⟨j,w,e1,e2,e3,e4⟩:=E.get y e o' h
  have hij:i≠j:=by intro z;subst z;rw[hi]at e1;cases e1;exact hy rfl
  exact⟨j,w,e1,e2,by rw[R0 hij];exact e3,e4⟩
theorem ff(G:aK Φ X sc)(h:cq sc x=true):wg X.env.scope x/\fj X.env.scope x/\(X.fn x=true\/X.env.scope.names.lookup x=some .local)/\∃i:Nat,X.N[i]?=some x:=by
 have hx:=G.ns x h
 have hlt:=List.idxOf_lt_length_iff.mpr hx
 have hi:∃i:Nat,X.N[i]?=some x:=⟨X.N.idxOf x,by rw[QS hlt,Sy hlt]⟩
 unfold cq at h
 rw[SU]at h
 rcases h with h|h
 ·have h:=G.lc x (by simpa using h)
  exact⟨.inl h,.inl h,.inr h,hi⟩
 ·have h0:sc.names.lookup x=some .cell:=by simpa using h
  have h:=G.cc x h0
  exact⟨.inr h,.inr (.inl h),.inl (G.ft x h0),hi⟩
theorem kO{Φ:Fx}{sc:Scope}(G:aK Φ X sc):∀{es:List Expr} {ds:List D} {ρ ρ':ac},aQ sc es ds ρ=some ρ'->∃t,we X es t/\(assignEach es X.env).length=ds.length/\(assignEach es X.env).findIdx? (·.1)=none /\
  ∀(ow:Ow) (vs:List V) (σ:L2.St) (H:Hp) (Q:L2.St->Hp->Prop),σ.length=X.N.length->aH X ow H σ ρ->ah X.K H (fun a b=>b=true->ow a=none) ds vs->(∀σ',σ'.length=X.N.length->aH X ow H σ' ρ'->Q σ' H)->t vs σ H Q
 | [],[],ρ,ρ',h=>by
  rw[aQ]at h;cases h
  refine⟨_,vw,rfl,rfl,fun ow vs σ H Q hl E r q=>?_⟩
  rw[ah]at r
  exact⟨r,q σ hl E⟩
 | .Name x p::es,d::ds,ρ,ρ',h=>by
  rw[aQ]at h
  split at h
  ·rename_i hx
   obtain⟨t,h1,h2,h3,h4⟩:=kO G h
   obtain⟨g1,g2,g3,i,g4⟩:=ff G hx
   refine⟨_,n5 (gY (i:=i) G.nd g4 g1 g3) h1 rfl,?_,?_,fun ow vs σ H Q hl E r q=>?_⟩
   ·show(assignEach es X.env).length+1=ds.length+1
    rw[h2]
   ·show List.findIdx? (·.1) ((false,_)::assignEach es X.env)=none
    rw[List.findIdx?_cons,h3];rfl
   ·rw[ah]at r
    obtain⟨v,vr,rfl,r1,r2⟩:=r
    refine⟨v,vr,rfl,?_⟩
    exact h4 ow vr _ H Q (by rw[Rt];exact hl) (d7 G.nd hl E g4 g2 r1) r2 q
  ·cases h
 | [],_::_,ρ,ρ',h=>by simp[aQ]at h
 | .Name _ _::_,[],ρ,ρ',h=>by simp[aQ]at h
 | .BoolOp .. :: _,ds,ρ,ρ',h=>by cases ds<;>simp[aQ]at h
 | .NamedExpr .. :: _,ds,ρ,ρ',h=>by cases ds<;>simp[aQ]at h
 | .BinOp .. :: _,ds,ρ,ρ',h=>by cases ds<;>simp[aQ]at h
 | .UnaryOp .. :: _,ds,ρ,ρ',h=>by cases ds<;>simp[aQ]at h
 | .Lambda .. :: _,ds,ρ,ρ',h=>by cases ds<;>simp[aQ]at h
 | .IfExp .. :: _,ds,ρ,ρ',h=>by cases ds<;>simp[aQ]at h
 | .Dict .. :: _,ds,ρ,ρ',h=>by cases ds<;>simp[aQ]at h
 | .Set .. :: _,ds,ρ,ρ',h=>by cases ds<;>simp[aQ]at h
 | .ListComp .. :: _,ds,ρ,ρ',h=>by cases ds<;>simp[aQ]at h
 | .SetComp .. :: _,ds,ρ,ρ',h=>by cases ds<;>simp[aQ]at h
 | .DictComp .. :: _,ds,ρ,ρ',h=>by cases ds<;>simp[aQ]at h
 | .GeneratorExp .. :: _,ds,ρ,ρ',h=>by cases ds<;>simp[aQ]at h
 | .Await .. :: _,ds,ρ,ρ',h=>by cases ds<;>simp[aQ]at h
 | .Yield .. :: _,ds,ρ,ρ',h=>by cases ds<;>simp[aQ]at h
 | .YieldFrom .. :: _,ds,ρ,ρ',h=>by cases ds<;>simp[aQ]at h
 | .Compare .. :: _,ds,ρ,ρ',h=>by cases ds<;>simp[aQ]at h
 | .Call .. :: _,ds,ρ,ρ',h=>by cases ds<;>simp[aQ]at h
 | .FormattedValue .. :: _,ds,ρ,ρ',h=>by cases ds<;>simp[aQ]at h
 | .JoinedStr .. :: _,ds,ρ,ρ',h=>by cases ds<;>simp[aQ]at h
 | .Constant .. :: _,ds,ρ,ρ',h=>by cases ds<;>simp[aQ]at h
 | .Attribute .. :: _,ds,ρ,ρ',h=>by cases ds<;>simp[aQ]at h
 | .Subscript .. :: _,ds,ρ,ρ',h=>by cases ds<;>simp[aQ]at h
 | .Starred .. :: _,ds,ρ,ρ',h=>by cases ds<;>simp[aQ]at h
 | .List .. :: _,ds,ρ,ρ',h=>by cases ds<;>simp[aQ]at h
 | .Tuple .. :: _,ds,ρ,ρ',h=>by cases ds<;>simp[aQ]at h
 | .Slice .. :: _,ds,ρ,ρ',h=>by cases ds<;>simp[aQ]at h
theorem rC(G:aK Φ X sc)(h:bK sc tg d ρ=some ρ'):GD X ρ tg d ρ':=by
 unfold bK at h
 split at h
 ·split at h
  ·rename_i x p hx
   cases h
   obtain⟨g1,g2,g3,i,g4⟩:=ff G hx
   exact⟨_,gY (i:=i) G.nd g4 g1 g3,fun ow v σ H Q hl E r q=>q _ (by rw[Rt];exact hl) (d7 G.nd hl E g4 g2 r)⟩
  ·cases h
 ·split at h
  ·obtain⟨t,h1,h2,h3,h4⟩:=kO G h
   refine⟨_,sF (n:=_) G.calm h1 h2 h3,fun ow v σ H Q hl E r q=>?_⟩
   obtain⟨a,vs,rfl,hs,rl⟩:=gu r
   exact⟨a,vs,rfl,hs,rl.length.symm,h4 ow vs σ H Q hl E rl q⟩
  ·cases h
 ·cases h
theorem wp{Q:Bool->Shared->Prop}
  (h:wpAny M A (isTrue c env (eval c env)) (fun b s'=>if b=true then wpAny M A (ig cs env) Q E s' else Q false s') E s):wpAny M A (ig (c::cs) env) Q E s:=by
 have no:∀(l:List Expr) (s:Shared),Q false s->wpAny M A (forIn l false fun c r=>if r=true then do let ok <- isTrue c env (eval c env);pure (ForInStep.yield ok)else pure (ForInStep.yield r)) Q E s:=by
  intro l
  induction l with
  | nil=>intro s h;exact QL h
  | cons x l ih =>
   intro s h
   rw[Sx]
   simp only[Ro,S5]
   exact Qx (QL (ih s h))
 unfold ig
 rw[Sx]
 simp only[if_true]
 refine Qx (Qx (RQ h (fun b s' hb=>QL ?_) fun _ _ x=>x))
 cases b with
 | true=>exact hb
 | false=>exact no cs s' hb
theorem xH:Af X ρ [] true:=fun ow pins s σ H Q I ⟨E,q⟩=>QL ⟨H,I,q H (au.refl _)⟩
theorem pN{b':Bool}(h:TD X ρ c b)(h':if b=true then Af X ρ cs b' else b'=false):Af X ρ (c::cs) b':=by
 intro ow pins s σ H Q I ⟨E,q⟩
 refine wp (aL (h ow pins s σ H (fun t H1=>t=b/\au H H1) I ⟨E,fun H1 s1=>⟨rfl,s1⟩⟩) fun t s1 ⟨H1,I1,e,sm⟩=>?_)
 subst e
 cases t with
 | true =>
  rw[if_pos rfl]at h' ⊢
  exact h' ow pins s1 σ H1 Q I1 ⟨E.same sm,fun H2 s2=>q H2 (sm.trans s2)⟩
 | false =>
  rw[if_neg QT]at h' ⊢
  subst h'
  exact⟨H1,I1,q H1 sm⟩
variable{X:Cx}
structure fR(X:Cx)(ρ:ac)(e:Expr)(it:Bool)(d:D)(k:Nat):Prop where
 ed:it=false->ED X ρ e d k
 td:it=false->∀b,d=.bl b->TD X ρ e b
 ie:it=true->∀tg l,items d=some l->fq e tg=true->IE X ρ tg e l k
theorem fR.of(h:ED X ρ e d k)(t:∀b,d=.bl b->TD X ρ e b):fR X ρ e it d k:=⟨fun _=>h,fun _=>t,fun _ tg l hi _=>KH h hi⟩
theorem pj{r:D×Nat}{l:List Prop}(h:av Φ e it sc ρ=.ok r l):∀x p,e ≠ .Starred x p:=by
 intro x p z;subst z;cases h
theorem fg{Φ:Fx}{sc:Scope}{ρ:ac}:∀{es:List Expr} {r:List D×Nat} {l:List Prop},bQ Φ es sc ρ=.ok r l->aB l->(∀e∈es,∀x p,e ≠ .Starred x p)/\es.length=r.1.length
 | [],r,l,h,_=>by cases h;exact⟨fun e he=>(by cases he),rfl⟩
 | e::es,r,l,h,hp=>by
  obtain⟨p,l1,l2,h1,p1,h,p2⟩:=aR h hp
  obtain⟨q,l3,l4,h2,p3,h,p4⟩:=aR h p2
  cases h
  obtain⟨i1,i2⟩:=fg h2 p3
  refine⟨fun e' he=>?_,by rw[QP,QP,i2]⟩
  rcases QD.mp he with rfl|he
  ·exact pj h1
  ·exact i1 e' he
theorem zG(h:nP sc scope=true):scope.kind=.function/\(∀y∈scope.names,y.2=.local->scope.names.lookup y.1=some .local) /\
  (∀y∈scope.names,y.2=.free->sc.names.lookup y.1=some .cell\/sc.names.lookup y.1=some .free)/\(scope.names.map (·.1)).Nodup:=by
 unfold nP at h
 simp only[QI,Q6,Rj,SU]at h
 obtain⟨⟨⟨h1,h3⟩,h4⟩,h5⟩:=h
 refine⟨h1,fun y hy e=>(h3 y hy).resolve_left (fun z=>z e),fun y hy e=>?_,h5⟩
 rcases h4 y hy with(q|q)|q
 ·exact absurd e q
 ·exact .inl q.2
 ·exact .inr q
theorem da{env:Env}:∀{names:List (Str×NameKind)} {x:Str} {k0:NameKind},k0 ≠ .free->names.lookup x=some k0 ->
  (names.map fun(n,k)=>if (k==NameKind.free&&env.scope.kind == .function&&env.kindOf n==some .cell)then(n,NameKind.cell)else(n,k)).lookup x=some k0
 | [],_,_,_,h=>by simp at h
 | (n,k)::r,x,k0,hk,h=>by
  have ih:=@da env r x k0 hk
  show List.lookup x ((if (k==NameKind.free&&env.scope.kind == .function&&env.kindOf n==some .cell)=true then(n,NameKind.cell)else(n,k))::_)=_
  cases hx:x==n with
  | true =>
   simp only[QQ,hx]at h
   cases h
   have:(k==NameKind.free)=false:=by simpa using hk
   simp[QQ,hx,this]
  | false =>
   simp only[QQ,hx]at h
   by_cases hc:(k==NameKind.free&&env.scope.kind == .function&&env.kindOf n==some .cell)=true
   ·rw[if_pos hc];simp only[QQ,hx];exact ih h
   ·rw[if_neg hc];simp only[QQ,hx];exact ih h
theorem oT{names:List (Str×NameKind)}:∀{x:Str} {k:NameKind},names.lookup x=some k->x∈names.map (·.1):=fun {x k} h=>QW.mpr ⟨_,Q4 h,rfl⟩
theorem EW{C:Addr}(G:aK Φ X sc)(h:nP sc scope=true):aK Φ (lm X scope cl C (scope.names.map (·.1)) s H fp) scope:=by
 obtain⟨h1,h3,h4,h5⟩:=zG h
 refine⟨G.calm,h5,fun x hx=>?_,fun x hx=>?_,fun x hx=>lookup_relabel_local hx,fun x hx=>da (by decide) hx,fun g F hg=>G.fn g F hg,G.con,G.blt,G.itr,G.mth,G.mtt,G.slf,G.fld,G.omt,G.bl,G.room,fun x hx=>?_,fun x hx=>RX hx⟩
 ·exact da (by decide) hx
 ·rcases hx with hx|hx
  ·exact .inl (da (by decide) hx)
  ·exact db hx
 ·unfold cq at hx
  rw[SU]at hx
  rcases hx with hx|hx<;>exact oT (by simpa using hx)
theorem zw(G:aK Φ X sc)(h:nP sc scope=true):gH X.env scope (scope.names.map (·.1)):=by
 obtain⟨h1,h3,h4,h5⟩:=zG h
 exact⟨h1,h5,h3,h5,fun n hn=>G.kc n (h4 (n,.free) hn rfl)⟩
theorem KF:∀{a b:Nat},kj a b<=1->a<=kj a b/\b<=kj a b
 | 0,0,_=>by decide
 | 0,1,_=>by decide
 | 0,2,h=>absurd h (by decide)
 | 0,_+3,h=>by rw[kj]at h;omega
 | 1,0,_=>by decide
 | 1,1,_=>by decide
 | 1,2,h=>absurd h (by decide)
 | 1,_+3,h=>absurd h (by rw[kj]<;>simp)
 | 2,0,h=>absurd h (by decide)
 | 2,1,h=>absurd h (by decide)
 | 2,2,h=>absurd h (by decide)
 | 2,_+3,h=>absurd h (by rw[kj]<;>simp)
 | _+3,0,h=>by rw[kj]at h<;>simp_all<;>omega
 | _+3,1,h=>absurd h (by rw[kj]<;>simp)
 | _+3,2,h=>absurd h (by rw[kj]<;>simp)
 | _+3,_+3,h=>absurd h (by rw[kj]<;>simp)
theorem Kp.up(o:cP ow H){a:Addr}:∀{i j:Nat},i<=j->j<=1->Kp ow H i a b->Kp ow H j a b
 | 0,0,_,_,p=>p
 | 0,1,_,_,p=>fun _=>o.free p.2
 | 1,1,_,_,p=>p
 | 1,0,h,_,_=>absurd h (by omega)
 | _+2,_,h,g,_=>absurd h (by omega)
 | 0,_+2,_,g,_=>absurd g (by omega)
 | 1,_+2,_,g,_=>absurd g (by omega)
theorem ED.up(h:ED X ρ e d i)(h1:i<=j)(h2:j<=1):ED X ρ e d j:=fun ow=>bE (h ow) fun σ H Q ⟨E,q⟩=>⟨E,fun v H' s r=>q v H' s (r.imp fun a b p=>Kp.up E.own h1 h2 p)⟩
noncomputable def rn(step:D->Rs (Option (D×Nat)))(d:D):Option D:=match step d with | .ok (some p) _=>some p.1|_=>none
theorem tZ{step:D->Rs (Option (D×Nat))}:∀{ds:List D} {r:List D×Nat} {l:List Prop},gp step ds=.ok r l->aB l ->
  (∀d∈ds,∃r l,step d=.ok r l/\aB l)/\r.1=ds.filterMap (rn step)/\(r.2<=1->∀d∈ds,∀p l,step d=.ok (some p) l->p.2<=r.2)
 | [],r,l,h,_=>by
  cases h
  exact⟨fun d hd=>(by cases hd),rfl,fun _ d hd=>(by cases hd)⟩
 | d::ds,r,l,h,hp=>by
  obtain⟨x,l1,l2,h1,p1,h,p2⟩:=aR h hp
  obtain⟨q,l3,l4,h2,p3,h,p4⟩:=aR h p2
  obtain⟨i1,i2,i3⟩:=tZ h2 p3
  have i1':∀y∈d::ds,∃r l,step y=.ok r l/\aB l:=fun y hy=>by
   rcases QD.mp hy with rfl|hy
   ·exact⟨_,_,h1,p1⟩
   ·exact i1 y hy
  cases x with
  | none =>
   cases h
   refine⟨i1',?_,fun hj x hx y i e=>?_⟩
   ·rw[List.filterMap_cons_none (by unfold rn;rw[h1])];exact i2
   ·rcases QD.mp hx with rfl|hx
    ·rw[h1]at e;cases e
    ·exact i3 hj x hx y i e
  | some p =>
   cases h
   refine⟨i1',?_,fun hj x hx y i e=>?_⟩
   ·rw[List.filterMap_cons_some (by unfold rn;rw[h1]),i2]
   ·obtain⟨a1,a2⟩:=KF hj
    rcases QD.mp hx with rfl|hx
    ·rw[h1]at e;cases e;exact a1
    ·exact QR (i3 (QR a2 hj) x hx y i e) a2
theorem cg(h:ED X ρ e d k)(he:∀whole,isTrue e X.env whole=(do let v <- whole;standAt e.pos;holding [v] (truthy v))):fR X ρ e it d k:=.of h fun b hb=>by subst hb;exact J6 h he
theorem xK{b:Expr}{x:D}(hu:X.A.units+70<cLine)(ha:ED X ρ a x k)(hb:ED X ρ b y j)(h:iV op x y=.ok r o)(hp:aB o)(hm:behindInMarks op b=false):TD X ρ (.Compare a [op] [b] pos) r:=by
 have c:=jx (X:=X) hu h hp
 intro ow pins s σ H Q I ⟨E,q⟩
 refine wpAny_isTrue_Compare1 (Lr (ha ow) (hb ow) I (R:=fun v u H2=>au H H2/\ae X.K H2 (fun _ _=>True) x v/\ae X.K H2 (fun _ _=>True) y u) ⟨E,fun v H1 s1 r1=>⟨E.same s1,fun u H2 s2 r2=>⟨s1.trans s2,(r1.imp fun _ _ _=>True.intro).same s2,r2.imp fun _ _ _=>True.intro⟩⟩⟩ fun v u s2 x y H2 I2 rx ry ⟨sm,r1,r2⟩=>?_) hm
 refine aL (c _ _ pins s2 σ H2 x y v u (fun w H'=>w=.bl r/\H2=H') I2 rx ry ⟨r1,r2,rfl,rfl⟩) fun u' s3 ⟨w,H3,I3,r3,e1,e2⟩=>?_
 subst e1 e2
 cases (show u'=Value.bool r from r3)
 exact RI ⟨H2,I3,q H2 sm⟩
theorem Az{b:Expr}{x y z:Int}(hu:X.A.units+70<cLine)(ha:ED X ρ a (.int x) k)(hb:ED X ρ b (.int y) j)(hc:ED X ρ c (.int z) i)(h:ga op x y=some r)(h2:ga op2 y z=some r2)(hm:behindInMarks op2 c=false):TD X ρ (.Compare a [op,op2] [b,c] pos) (r&&r2):=by
 have c1:=jx (X:=X) hu (pz h) (show aB []from True.intro)
 have c2:=jx (X:=X) hu (pz h2) (show aB []from True.intro)
 refine fun ow=>xr (AW (c1 (fun _ _=>True) (fun _ _=>True)) (c2 (fun _ _=>True) (fun _ _=>True)) (ha ow) (hb ow) (hc ow) hm) fun σ H Q ⟨E,q⟩=>⟨E,fun v H1 s1 r1=>⟨E.same s1,fun u H2 s2 r2=>?_⟩⟩
 rw[ae]at r1 r2
 subst r1 r2
 refine⟨by rw[ae],by rw[ae],r,rfl,?_⟩
 cases r with
 | false=>exact⟨false,rfl,q H2 (s1.trans s2)⟩
 | true =>
  rw[if_pos rfl]
  refine⟨(E.same s1).same s2,fun w H3 s3 r3=>?_⟩
  rw[ae]at r3
  subst r3
  exact⟨by rw[ae],by rw[ae],_,rfl,q H3 ((s1.trans s2).trans s3)⟩
theorem Gc(h:TD X ρ a b):TD X ρ (.UnaryOp .Not a pos) (!b):=fun ow=>xr (GG (h ow)) fun σ H Q ⟨E,q⟩=>⟨E,fun H1 s1=>q H1 s1⟩
structure d9(X:Cx)(ρ:ac)(op:BoolOp)(es:List Expr)(b:Bool):Prop where
 ed:es≠[]->∀pos,ED X ρ (.BoolOp op es pos) (.bl b) 0
 tw:es≠[]->∀pos ow,PW X (.BoolOp op es pos) (Ce X ow ρ b)
 ts:op=.And->Af X ρ es b
theorem fh{op:BoolOp}(h:ED X ρ e (.bl b) k)(t:TD X ρ e b):d9 X ρ op [e] b:=by
 have h0:ED X ρ e (.bl b) 0:=by
  have:=h.kn
  rw[show kn (.bl b) k=0 from rfl]at this
  exact this
 refine⟨fun _ pos ow=>GQ (h0 ow),fun _ pos ow=>?_,fun _=>pN t (by cases b;rfl;exact xH)⟩
 cases op with
 | And=>exact DS (t ow)
 | Or=>exact GE (t ow)
theorem nQ(h:ED X ρ e (.bl true) k)(t:TD X ρ e true)(r:d9 X ρ .And (e2::es) b):d9 X ρ .And (e::e2::es) b:=by
 refine⟨fun _ pos ow=>?_,fun _ pos ow=>?_,fun _=>pN t (by rw[if_pos rfl];exact r.ts rfl)⟩
 ·refine bE (yg (h ow) (r.ed (by simp) pos ow)) fun σ H Q ⟨E,q⟩=>⟨E,fun v H1 s1 r1=>?_⟩
  rw[ae]at r1
  exact⟨true,r1,by rw[if_pos rfl];exact⟨E.same s1,fun w H2 s2 r2=>q w H2 (s1.trans s2) (r2.imp (Kp.back s1 0))⟩⟩
 ·intro wh pins s σ H Q I hq
  exact x6 (t ow) (r.tw (by simp) pos ow) wh pins s σ H Q I ⟨hq.1,fun H1 s1=>by dsimp only;rw[if_pos rfl];exact⟨hq.1.same s1,fun H2 s2=>hq.2 H2 (s1.trans s2)⟩⟩
theorem ud(h:ED X ρ e (.bl false) k)(t:TD X ρ e false)(ne:∀pos,∃t,PE X (.BoolOp .And (e2::es) pos) t)(nw:∀pos,∃t,PW X (.BoolOp .And (e2::es) pos) t):d9 X ρ .And (e::e2::es) false:=by
 refine⟨fun _ pos ow=>?_,fun _ pos ow=>?_,fun _=>pN t (by rw[if_neg QT])⟩
 ·obtain⟨t2,h2⟩:=ne pos
  refine bE (yg (h ow) h2) fun σ H Q ⟨E,q⟩=>⟨E,fun v H1 s1 r1=>?_⟩
  rw[ae]at r1
  exact⟨false,r1,by rw[if_neg QT];exact q _ H1 s1 (by rw[ae])⟩
 ·obtain⟨t2,h2⟩:=nw pos
  intro wh pins s σ H Q I hq
  exact x6 (t ow) h2 wh pins s σ H Q I ⟨hq.1,fun H1 s1=>by dsimp only;rw[if_neg QT];exact hq.2 H1 s1⟩
theorem w9(h:ED X ρ e (.bl false) k)(t:TD X ρ e false)(r:d9 X ρ .Or (e2::es) b):d9 X ρ .Or (e::e2::es) b:=by
 refine⟨fun _ pos ow=>?_,fun _ pos ow=>?_,fun z=>by cases z⟩
 ·refine bE (Cu (h ow) (r.ed (by simp) pos ow)) fun σ H Q ⟨E,q⟩=>⟨E,fun v H1 s1 r1=>?_⟩
  rw[ae]at r1
  exact⟨false,r1,by rw[if_neg QT];exact⟨E.same s1,fun w H2 s2 r2=>q w H2 (s1.trans s2) (r2.imp (Kp.back s1 0))⟩⟩
 ·intro wh pins s σ H Q I hq
  exact Cn (t ow) (r.tw (by simp) pos ow) wh pins s σ H Q I ⟨hq.1,fun H1 s1=>by dsimp only;rw[if_neg QT];exact⟨hq.1.same s1,fun H2 s2=>hq.2 H2 (s1.trans s2)⟩⟩
theorem uR(h:ED X ρ e (.bl true) k)(t:TD X ρ e true)(ne:∀pos,∃t,PE X (.BoolOp .Or (e2::es) pos) t)(nw:∀pos,∃t,PW X (.BoolOp .Or (e2::es) pos) t):d9 X ρ .Or (e::e2::es) true:=by
 refine⟨fun _ pos ow=>?_,fun _ pos ow=>?_,fun z=>by cases z⟩
 ·obtain⟨t2,h2⟩:=ne pos
  refine bE (Cu (h ow) h2) fun σ H Q ⟨E,q⟩=>⟨E,fun v H1 s1 r1=>?_⟩
  rw[ae]at r1
  exact⟨true,r1,by rw[if_pos rfl];exact q _ H1 s1 (by rw[ae])⟩
 ·obtain⟨t2,h2⟩:=nw pos
  intro wh pins s σ H Q I hq
  exact Cn (t ow) h2 wh pins s σ H Q I ⟨hq.1,fun H1 s1=>by dsimp only;rw[if_pos rfl];exact hq.2 H1 s1⟩
theorem sH:PE X e (fun _ _ _=>False):=fun _ _ _ _ _ _ h=>h.elim
theorem sy:PW X e (fun _ _ _=>False):=fun _ _ _ _ _ _ _ h=>h.elim
theorem Da{b:Expr}{r:D×Nat}{l:List Prop}(h:av Φ b it sc ρ=.ok r l):behindInMarks op b=false:=by
 cases b<;>first|rfl|cases h
theorem vH{z:Str}(h:cq sc z=true)(hx:sc.names.lookup x=some .free):x≠z:=by
 intro e;subst e
 unfold cq at h
 rw[hx]at h
 revert h;decide
theorem xc:∀{es:List Expr} {ds:List D} {ρ ρ':ac},aQ sc es ds ρ=some ρ'->∀x y,sc.names.lookup x=some .free->ρ x=some y->ρ' x=some y:=by
 intro es
 induction es with
 | nil =>
  intro ds ρ ρ' h x y hx hl
  cases ds with
  | nil=>rw[aQ]at h;cases h;exact hl
  | cons d ds=>cases h
 | cons e es ih =>
  intro ds ρ ρ' h x y hx hl
  cases ds with
  | nil=>cases e<;>cases h
  | cons d ds =>
   cases e with
   | Name z p =>
    rw[aQ]at h
    split at h
    ·rename_i hz
     exact ih h x y hx (by rw[bm,if_neg (vH hz hx)];exact hl)
    ·cases h
   | _=>cases h
theorem zH(h:bK sc tg d ρ=some ρ'):∀x y,sc.names.lookup x=some .free->ρ x=some y->ρ' x=some y:=by
 intro x y hx hl
 unfold bK at h
 split at h
 ·split at h
  ·rename_i hz
   cases h
   rw[bm,if_neg (vH hz hx)];exact hl
  ·cases h
 ·split at h
  ·exact xc h x y hx hl
  ·cases h
 ·cases h
theorem qR{r:D×Nat}{l:List Prop}(h:av Φ e it sc ρ=.ok r l)(x:Value):foldedSetIterable e env x=pure x:=by
 cases e<;>first|rfl|cases h
mutual
theorem sN:∀x y:D,pY true x y=x
 | .int _,.int _=>rfl
 | .bl _,.bl _=>rfl
 | .tup l,.tup m=>by
  show(if l.length=m.length then D.tup (kY true l m)else cond true (.tup l) (.tup m))=.tup l
  split
  ·rename_i h;rw[yr l m h]
  ·rfl
 | .non,_=>rfl
 | .str _,_=>rfl
 | .dct _ _,_=>rfl
 | .lst _,_=>rfl
 | .typ _,_=>rfl
 | .dcf _ _,_=>rfl
 | .sn _,_=>rfl
 | .obj _ _ _,_=>rfl
 | .cls _,_=>rfl
 | .int _,.non=>rfl
 | .int _,.bl _=>rfl
 | .int _,.str _=>rfl
 | .int _,.dct _ _=>rfl
 | .int _,.typ _=>rfl
 | .int _,.dcf _ _=>rfl
 | .int _,.sn _=>rfl
 | .int _,.obj _ _ _=>rfl
 | .int _,.cls _=>rfl
 | .int _,.tup _=>rfl
 | .int _,.lst _=>rfl
 | .bl _,.non=>rfl
 | .bl _,.int _=>rfl
 | .bl _,.str _=>rfl
 | .bl _,.dct _ _=>rfl
 | .bl _,.typ _=>rfl
 | .bl _,.dcf _ _=>rfl
 | .bl _,.sn _=>rfl
 | .bl _,.obj _ _ _=>rfl
 | .bl _,.cls _=>rfl
 | .bl _,.tup _=>rfl
 | .bl _,.lst _=>rfl
 | .tup _,.non=>rfl
 | .tup _,.int _=>rfl
 | .tup _,.bl _=>rfl
 | .tup _,.str _=>rfl
 | .tup _,.dct _ _=>rfl
 | .tup _,.typ _=>rfl
 | .tup _,.dcf _ _=>rfl
 | .tup _,.sn _=>rfl
 | .tup _,.obj _ _ _=>rfl
 | .tup _,.cls _=>rfl
 | .tup _,.lst _=>rfl
theorem yr:∀l m:List D,l.length=m.length->kY true l m=l
 | [],[],_=>rfl
 | x::l,y::m,h=>by
  show pY true x y::kY true l m=x::l
  rw[sN x y,yr l m (by simpa using h)]
 | [],_::_,h=>by cases h
 | _::_,[],h=>by cases h
end
mutual
theorem sO:∀x y:D,pY false x y=y
 | .int _,.int _=>rfl
 | .bl _,.bl _=>rfl
 | .tup l,.tup m=>by
  show(if l.length=m.length then D.tup (kY false l m)else cond false (.tup l) (.tup m))=.tup m
  split
  ·rename_i h;rw[yt l m h]
  ·rfl
 | .non,_=>rfl
 | .str _,_=>rfl
 | .dct _ _,_=>rfl
 | .lst _,_=>rfl
 | .typ _,_=>rfl
 | .dcf _ _,_=>rfl
 | .sn _,_=>rfl
 | .obj _ _ _,_=>rfl
 | .cls _,_=>rfl
 | .int _,.non=>rfl
 | .int _,.bl _=>rfl
 | .int _,.str _=>rfl
 | .int _,.dct _ _=>rfl
 | .int _,.typ _=>rfl
 | .int _,.dcf _ _=>rfl
 | .int _,.sn _=>rfl
 | .int _,.obj _ _ _=>rfl
 | .int _,.cls _=>rfl
 | .int _,.tup _=>rfl
 | .int _,.lst _=>rfl
 | .bl _,.non=>rfl
 | .bl _,.int _=>rfl
 | .bl _,.str _=>rfl
 | .bl _,.dct _ _=>rfl
 | .bl _,.typ _=>rfl
 | .bl _,.dcf _ _=>rfl
 | .bl _,.sn _=>rfl
 | .bl _,.obj _ _ _=>rfl
 | .bl _,.cls _=>rfl
 | .bl _,.tup _=>rfl
 | .bl _,.lst _=>rfl
 | .tup _,.non=>rfl
 | .tup _,.int _=>rfl
 | .tup _,.bl _=>rfl
 | .tup _,.str _=>rfl
 | .tup _,.dct _ _=>rfl
 | .tup _,.typ _=>rfl
 | .tup _,.dcf _ _=>rfl
 | .tup _,.sn _=>rfl
 | .tup _,.obj _ _ _=>rfl
 | .tup _,.cls _=>rfl
 | .tup _,.lst _=>rfl
theorem yt:∀l m:List D,l.length=m.length->kY false l m=m
 | [],[],_=>rfl
 | x::l,y::m,h=>by
  show pY false x y::kY false l m=y::m
  rw[sO x y,yt l m (by simpa using h)]
 | [],_::_,h=>by cases h
 | _::_,[],h=>by cases h
end
theorem CI:yQ true k j=k:=by unfold yQ;split<;>rfl
theorem CJ:yQ false k j=j:=by
 unfold yQ;split
 ·assumption
 ·rfl
theorem vS{r s:R1}{d:D×Nat}{l:List Prop}(h:CO t r s=.ok d l)(hp:aB l):∃m,(if t=true then r else s)=.ok d m/\aB m:=by
 unfold CO at h
 split at h
 ·cases t with
  | true=>cases h
  | false=>exact⟨l,h,hp⟩
 ·rename_i p m
  split at h
  ·cases t with
   | true=>exact⟨l,h,hp⟩
   | false=>cases h
  ·rename_i q n
   cases h
   obtain⟨p1,p2⟩:=dn.mp hp
   cases t with
   | true=>exact⟨m,by rw[sN,CI];rfl,o9 p1 rfl⟩
   | false=>exact⟨n,by rw[sO,CJ];rfl,o9 p2 rfl⟩
theorem nk{p:D×Nat}{f:Bool->Rs α}{a:α}{l:List Prop}(h:lE p f=.ok a l):∃b,p.1=.bl b/\f b=.ok a l:=by
 unfold lE at h
 split at h
 ·rename_i b e;exact⟨b,e,h⟩
 ·cases h
structure Ih(Φ:Fx)(n:Nat):Prop where
 e:∀(e:Expr) {it:Bool} {sc:Scope} {ρ:ac} {p:D×Nat} {l:List Prop} {X:Cx},sizeOf e<n->av Φ e it sc ρ=.ok p l->aB l->aK Φ X sc->fR X ρ e it p.1 p.2
 es:∀(es:List Expr) {sc:Scope} {ρ:ac} {p:List D×Nat} {l:List Prop} {X:Cx},sizeOf es<n->bQ Φ es sc ρ=.ok p l->aB l->aK Φ X sc->AD X ρ es p.1 p.2
 b:∀(op:BoolOp) (es:List Expr) {sc:Scope} {ρ:ac} {b:Bool} {l:List Prop} {X:Cx},sizeOf es<n->dW Φ op es sc ρ=.ok b l->aB l->aK Φ X sc->d9 X ρ op es b
 o:∀(e:Option Expr) {sc:Scope} {ρ:ac} {o:Option Int} {l:List Prop} {X:Cx},sizeOf e<n->vY Φ e sc ρ=.ok o l->aB l->aK Φ X sc->OD X ρ e o
theorem be{a b:Nat}(h:a<b)(hs:b<n+1):a<n:=QK h (Nat.le_of_lt_succ hs)
section
variable{Φ:Fx}{n:Nat}{it:Bool}{sc:Scope}{ρ:ac}{r:D×Nat}{l:List Prop}{X:Cx}
theorem Dz(h:mJ Φ x sc ρ=.ok r l)(G:aK Φ X sc):fR X ρ (.Name x pos) it r.1 r.2:=by
 unfold mJ at h
 split at h
 ·rename_i hx
  split at h
  ·rename_i hg
   split at h
   ·rename_i d hd;cases h;exact cg (Im G hd hg hx) (fun _=>rfl)
   ·split at h
    ·rename_i T hT;cases h;exact cg (Ie G hT hg) (fun _=>rfl)
    ·cases h
  ·split at h
   ·rename_i p hl
    unfold mk at h;cases h
    exact cg (eV (o:=p.2) hl hx) (fun _=>rfl)
   ·cases h
 ·cases h
theorem Gp(I:Ih Φ n){b:Expr}{op:Operator}(hs:sizeOf (Expr.BinOp a op b pos)<n+1)(h:av Φ (.BinOp a op b pos) it sc ρ=.ok r l)(hp:aB l)(G:aK Φ X sc):fR X ρ (.BinOp a op b pos) it r.1 r.2:=by
 obtain⟨p,l1,l2,h1,p1,h,p2⟩:=aR (show Rs.bnd _ _=_ from h) hp
 obtain⟨q,l3,l4,h2,p3,h,p4⟩:=aR h p2
 exact cg (Iq ((I.e a (be (by simp<;>omega) hs) h1 p1 G).ed rfl) ((I.e b (be (by simp<;>omega) hs) h2 p3 G).ed rfl) h p4) (fun _=>rfl)
theorem Kg(I:Ih Φ n){op:UnaryOp}(hs:sizeOf (Expr.UnaryOp op a pos)<n+1)(h:av Φ (.UnaryOp op a pos) it sc ρ=.ok r l)(hp:aB l)(G:aK Φ X sc):fR X ρ (.UnaryOp op a pos) it r.1 r.2:=by
 obtain⟨p,l1,l2,h1,p1,h,p2⟩:=aR (show Rs.bnd _ _=_ from h) hp
 split at h
 ·rename_i z hu
  cases h
  have c:=I.e a (be (by simp<;>omega) hs) h1 p1 G
  refine .of (KY (c.ed rfl) hu) fun b hb=>?_
  have hb:z=.bl b:=hb
  subst hb
  unfold xD at hu
  split at hu
  ·cases hu
  ·rename_i e;cases hu;exact Gc (c.td rfl _ e)
  ·cases hu
 ·cases h
theorem Go(I:Ih Φ n){b:Expr}(hs:sizeOf (Expr.Compare a [op] [b] pos)<n+1)(h:av Φ (.Compare a [op] [b] pos) it sc ρ=.ok r l)(hp:aB l)(G:aK Φ X sc):fR X ρ (.Compare a [op] [b] pos) it r.1 r.2:=by
 obtain⟨p,l1,l2,h1,p1,h,p2⟩:=aR (show Rs.bnd _ _=_ from h) hp
 obtain⟨q,l3,l4,h2,p3,h,p4⟩:=aR h p2
 obtain⟨z,l5,l6,hc,p5,h,p6⟩:=aR h p4
 cases h
 have ca:=(I.e a (be (by simp<;>omega) hs) h1 p1 G).ed rfl
 have cb:=(I.e b (be (by simp<;>omega) hs) h2 p3 G).ed rfl
 exact .of (zp G.room ca cb hc p5 (Da h2)) fun b' hb'=>by cases hb';exact xK G.room ca cb hc p5 (Da h2)
theorem AF(I:Ih Φ n){b:Expr}(hs:sizeOf (Expr.Compare a [op,op2] [b,c] pos)<n+1)(h:av Φ (.Compare a [op,op2] [b,c] pos) it sc ρ=.ok r l)(hp:aB l)(G:aK Φ X sc):fR X ρ (.Compare a [op,op2] [b,c] pos) it r.1 r.2:=by
 obtain⟨p,l1,l2,h1,p1,h,p2⟩:=aR (show Rs.bnd _ _=_ from h) hp
 obtain⟨q,l3,l4,h2,p3,h,p4⟩:=aR h p2
 obtain⟨t,l5,l6,h3,p5,h,p6⟩:=aR h p4
 obtain⟨x,y,z,r1,r2,e1,e2,e3,k1,k2,rfl⟩:=Fs h
 have ca:=(I.e a (be (by simp<;>omega) hs) h1 p1 G).ed rfl
 have cb:=(I.e b (be (by simp<;>omega) hs) h2 p3 G).ed rfl
 have cc:=(I.e c (be (by simp<;>omega) hs) h3 p5 G).ed rfl
 rw[e1]at ca
 rw[e2]at cb
 rw[e3]at cc
 exact .of (Bx G.room ca cb cc k1 k2 (Da h3)) fun b' hb'=>by cases hb';exact Az G.room ca cb cc k1 k2 (Da h3)
theorem Ki(I:Ih Φ n){b:Expr}(hs:sizeOf (Expr.IfExp c a b pos)<n+1)(h:av Φ (.IfExp c a b pos) it sc ρ=.ok r l)(hp:aB l)(G:aK Φ X sc):fR X ρ (.IfExp c a b pos) it r.1 r.2:=by
 obtain⟨p,l1,l2,h1,p1,h,p2⟩:=aR (show Rs.bnd _ _=_ from h) hp
 obtain⟨t,ht,h⟩:=nk h
 obtain⟨m,he,hm⟩:=vS h p2
 have hc:=(I.e c (be (by simp<;>omega) hs) h1 p1 G).td rfl t ht
 cases t with
 | true =>
  rw[if_pos rfl]at he
  have ha:=I.e a (be (by simp<;>omega) hs) he hm G
  refine .of (C3 hc (by rw[if_pos rfl];exact ha.ed rfl)) fun b' hb'=>?_
  intro ow pins s σ H Q I ⟨E,q⟩
  refine isTrue_IfExp (aL (hc ow pins s σ H (fun t H1=>t=true/\au H H1) I ⟨E,fun H1 s1=>⟨rfl,s1⟩⟩) fun t s1 ⟨H1,I1,e1,s1'⟩=>?_)
  subst e1
  exact ha.td rfl b' hb' ow pins s1 σ H1 Q I1 ⟨E.same s1',fun H2 s2=>q H2 (s1'.trans s2)⟩
 | false =>
  rw[if_neg QT]at he
  have hb:=I.e b (be (by simp<;>omega) hs) he hm G
  refine .of (C3 hc (by rw[if_neg QT];exact hb.ed rfl)) fun b' hb'=>?_
  intro ow pins s σ H Q I ⟨E,q⟩
  refine isTrue_IfExp (aL (hc ow pins s σ H (fun t H1=>t=false/\au H H1) I ⟨E,fun H1 s1=>⟨rfl,s1⟩⟩) fun t s1 ⟨H1,I1,e1,s1'⟩=>?_)
  subst e1
  exact hb.td rfl b' hb' ow pins s1 σ H1 Q I1 ⟨E.same s1',fun H2 s2=>q H2 (s1'.trans s2)⟩
theorem wC{r:D×Nat}{l:List Prop}(h:av Φ e it sc ρ=.ok r l):gj e:=by
 cases e<;>first|(intro _ _;rfl)|cases h
theorem Kh(I:Ih Φ n){i:Expr}(hs:sizeOf (Expr.Subscript a i pos)<n+1)(h:((av Φ a false sc ρ).bnd fun p=>(av Φ i false sc ρ).bnd fun q=>jD p q)=.ok r l)(hp:aB l)(G:aK Φ X sc):fR X ρ (.Subscript a i pos) it r.1 r.2:=by
 obtain⟨p,l1,l2,h1,p1,h,p2⟩:=aR h hp
 obtain⟨q,l3,l4,h2,p3,h,p4⟩:=aR h p2
 exact cg (Ig ((I.e a (be (by simp<;>omega) hs) h1 p1 G).ed rfl) ((I.e i (be (by simp<;>omega) hs) h2 p3 G).ed rfl) (wC h2) h) (fun _=>rfl)
theorem Gn(I:Ih Φ n){i:Expr}(hs:sizeOf (Expr.Subscript a i pos)<n+1)(h:av Φ (.Subscript a i pos) it sc ρ=.ok r l)(hp:aB l)(G:aK Φ X sc):fR X ρ (.Subscript a i pos) it r.1 r.2:=by
 exact Kh I hs h hp G
theorem DA(I:Ih Φ n)(hs:sizeOf args<n)(hf:sc.names.lookup f=some .globalImplicit)(h0:((bQ Φ args sc ρ).bnd fun p=>jV Φ f it p.1 p.2)=.ok r l)(hp:aB l)(G:aK Φ X sc):fR X ρ (.Call (.Name f p) args [] pos) it r.1 r.2:=by
 obtain⟨q,l1,l2,h1,p1,h,p2⟩:=aR h0 hp
 clear h0
 have ha:=I.es args hs h1 p1 G
 obtain⟨hst,hlen⟩:=fg h1 p1
 unfold jV at h
 split at h
 ·rename_i F hF
  obtain⟨d,l3,l4,h2,p3,h,p4⟩:=aR h p2
  cases h
  exact cg (Fh G hF hf ha hst (fun z=>by subst z;exact RS.mp hlen.symm) h2 p3) (fun _=>rfl)
 ·split at h
  ·rename_i B hB
   split at hB
   ·rename_i hit
    have hI:=G.itr f B hB
    refine⟨fun z=>(by rw[hit]at z;cases z),fun z=>(by rw[hit]at z;cases z),fun _ tg l' hl ht=>?_⟩
    exact hI.2 X ρ p pos args q.1 q.2 r.1 r.2 l' tg l2 G.calm (G.gl f hf) (G.bl f hI.1) ha hst hlen h p2 hl ht
   ·cases hB
  ·split at h
   ·rename_i B hB
    have hb:=G.blt f B hB
    cases args with
    | nil =>
     have e0:q.1=[]:=RS.mp hlen.symm
     rw[e0,hb.2.2.2.1]at h;cases h
    | cons e es=>exact cg (Io G hb hf ha hst h p2) (fun _=>rfl)
   ·cases h
theorem AG(I:Ih Φ n)(hs:sizeOf (Expr.Call (.Name f p) args [] pos)<n+1)(h:av Φ (.Call (.Name f p) args [] pos) it sc ρ=.ok r l)(hp:aB l)(G:aK Φ X sc):fR X ρ (.Call (.Name f p) args [] pos) it r.1 r.2:=by
 rw[ik]at h
 split at h
 ·rename_i hf
  exact DA I (be (by simp<;>omega) hs) hf h hp G
 ·cases h
theorem AH(I:Ih Φ n)(hs:sizeOf (Expr.Call (.Attribute a m ap) args [] pos)<n+1)(h:av Φ (.Call (.Attribute a m ap) args [] pos) it sc ρ=.ok r l)(hp:aB l)(G:aK Φ X sc):fR X ρ (.Call (.Attribute a m ap) args [] pos) it r.1 r.2:=by
 rw[tT]at h
 split at h
 ·rename_i hln
  obtain⟨p,l1,l2,h1,p1,h,p2⟩:=aR h hp
  obtain⟨q,l3,l4,h2,p3,h,p4⟩:=aR h p2
  obtain⟨hst,hlen⟩:=fg h2 p3
  have hea:=(I.e a (be (by simp<;>omega) hs) h1 p1 G).ed rfl
  have hes:=I.es args (be (by simp<;>omega) hs) h2 p3 G
  obtain⟨x,kx⟩:=p
  unfold Be at h
  dsimp only at h hea
  split at h
  ·rename_i hb
   split at h
   ·rename_i M hM
    exact cg (G.mth m M hM X ρ a args ap pos x kx q.1 q.2 r.1 r.2 l4 G.calm G.room hea hes hst hlen hln hb h p4) (fun _=>rfl)
   ·cases h
  ·cases h
 ·cases h
theorem Dr{q:List D×Nat}{m:List Prop}(hE:∀{ρ:ac} {p:D×Nat} {l:List Prop} {X:Cx},av Φ elt false scope ρ=.ok p l->aB l->aK Φ X scope->fR X ρ elt false p.1 p.2)
    (hB:∀{ρ:ac} {b:Bool} {l:List Prop} {X:Cx},dW Φ .And ifs scope ρ=.ok b l->aB l->aK Φ X scope->d9 X ρ .And ifs b) (hc:nP sc scope=true) (G:aK Φ X sc)
    (h:gp (fun d=>match bK scope tg d (flt scope ρ)with
            | none=>.st
            | some ρ'=>(dW Φ .And ifs scope ρ').bnd fun b=>cond b ((av Φ elt false scope ρ').bnd fun r=>.ok (some r) []) (.ok none [])) ds=.ok q m) (hp:aB m) (hj:q.2<=1) :
    ∃f:D->Option D,q.1=ds.filterMap f/\∀cl C s H fp,∀d∈ds,nr (lm X scope cl C (scope.names.map (·.1)) s H fp) (flt scope ρ) tg ifs elt q.2 d (f d):=by
  generalize hst:(fun d=>match bK scope tg d (flt scope ρ)with
            | none=>.st
            | some ρ'=>(dW Φ .And ifs scope ρ').bnd fun b=>cond b ((av Φ elt false scope ρ').bnd fun r=>.ok (some r) []) (.ok none []):D->Rs (Option (D×Nat)))=step at h
  obtain⟨c1,c2,c3⟩:=tZ h hp
  refine⟨_,c2,fun cl C s H fp d hd=>?_⟩
  have G':=EW (cl:=cl) (C:=C) (s:=s) (H:=H) (fp:=fp) G hc
  obtain⟨x,lx,hx,px⟩:=c1 d hd
  have c3:=c3 hj d hd
  have hs:=congrFun hst d
  unfold rn
  rw[hx]
  split at hs
  . rw[<- hs]at hx;cases hx
  . rename_i ρ' hb
    have gd:=rC G' hb
    have ext:∀x y,flt scope ρ x=some y->ρ' x=some y:=fun x y hxy=>zH hb x y (jP hxy).2 hxy
    have hx0:=hx
    rw[<- hs]at hx
    obtain⟨b,l3,l4,h2,p3,hx,p4⟩:=aR hx px
    have ts:=(hB h2 p3 G').ts rfl
    cases b with
    | false =>
      cases hx
      exact⟨ρ',false,gd,ext,ts,rfl⟩
    | true =>
      rw[cond_true]at hx
      obtain⟨z,l5,l6,h3,p5,hx,p6⟩:=aR hx p4
      cases hx
      exact⟨ρ',true,gd,ext,ts,rfl,((hE h3 p5 G').ed rfl).up (c3 z lx hx0) hj⟩
theorem ve(I:Ih Φ n)(hs:sizeOf (Expr.ListComp elt [⟨tg,iter,ifs,0⟩] scope pos)<n+1)(h:av Φ (.ListComp elt [⟨tg,iter,ifs,0⟩] scope pos) it sc ρ=.ok r l)(hp:aB l)(G:aK Φ X sc) :
  ∃ds f k,(ao ds=true\/k<=1)/\r.2<=1/\ds.length<sizeLine/\gH X.env scope (scope.names.map (·.1))/\(∀x d o,flt scope ρ x=some (d,o)->x∈scope.names.map (·.1))/\IE X ρ tg iter ds k /\
   (∀cl C s H fp,∀d∈ds,nr (lm X scope cl C (scope.names.map (·.1)) s H fp) (flt scope ρ) tg ifs elt r.2 d (f d))/\(∀x,foldedSetIterable iter X.env x=pure x)/\r.1=.lst (ds.filterMap f):=by
 rw[qi]at h
 split at h
 ·rename_i hc
  obtain⟨p,l1,l2,h1,p1,h,p2⟩:=aR h hp
  split at h
  ·rename_i ds hd
   split at h
   ·rename_i ht
    obtain⟨u0,l7,l8,h7,p7,h,p8⟩:=aR h p2
    cases h7
    have hl:=And.intro p7.1 p7.2.1
    obtain⟨q,l3,l4,h2,p3,h,p4⟩:=aR h p8
    split at h
    ·rename_i hj
     cases h
     obtain⟨f,e1,t⟩:=Dr (fun a b c=>I.e elt (by first|omega|(simp at *;omega)) a b c) (fun a b c=>I.b .And ifs (by first|omega|(simp at *;omega)) a b c) hc G h2 p3 hj
     refine⟨ds,f,p.2,hl.2,hj,Rb hl.1 kZ,zw G hc,fun x d o hx=>oT (jP hx).2,(I.e iter (by first|omega|(simp at *;omega)) h1 p1 G).ie rfl tg ds hd ht,t,qR h1,by rw[e1]⟩
    ·cases h
   ·cases h
  ·cases h
 ·cases h
theorem qe{gens:List Comprehension}(h:av Φ (.ListComp elt gens scope pos) it sc ρ=.ok r l):∃tg iter ifs,gens=[⟨tg,iter,ifs,0⟩]:=by
 match gens,h with
 | [⟨tg,iter,ifs,0⟩],h=>exact⟨_,_,_,rfl⟩
 | [],h=>cases h
 | ⟨_,_,_,.ofNat (n+1)⟩::r,h=>cases r<;>cases h
 | ⟨_,_,_,.negSucc n⟩::_,h=>cases h
 | ⟨_,_,_,0⟩::_::_,h=>cases h
theorem KT(I:Ih Φ n)(e:Expr)(hs:sizeOf e<n+1)(h:av Φ e it sc ρ=.ok r l)(hp:aB l)(G:aK Φ X sc):fR X ρ e it r.1 r.2:=by
 cases e with
 | Constant c k p =>
  replace h:(match C7 c with|some d=>.ok (d,0) []|none=>.st:R1)=.ok r l:=h
  split at h
  ·rename_i d hc;cases h;exact cg (Il hc) (fun _=>rfl)
  ·cases h
 | Name x p=>exact Dz h G
 | BinOp a op b p=>exact Gp I hs h hp G
 | UnaryOp op a p=>exact Kg I hs h hp G
 | BoolOp op es p =>
  rw[qj]at h
  split at h
  ·cases h
  ·rename_i hne
   obtain⟨b,l1,l2,h1,p1,h,p2⟩:=aR h hp
   cases h
   have ne:es≠[]:=fun z=>hne (by rw[z];rfl)
   have c:=I.b op es (be (by simp<;>omega) hs) h1 p1 G
   exact .of (c.ed ne p) fun b' hb'=>by cases hb';exact fun ow=>(c.tw ne p ow).pt
 | Compare a ops bs p =>
  match ops,bs,hs,h with
  | [op],[b],hs,h=>exact Go I hs h hp G
  | [],bs,_,h=>cases h
  | [op],[],_,h=>cases h
  | [op],_::_::_,_,h=>cases h
  | [op,op2],[b,c],hs,h=>exact AF I hs h hp G
  | [_,_],[],_,h=>cases h
  | [_,_],[_],_,h=>cases h
  | [_,_],_::_::_::_,_,h=>cases h
  | _::_::_::_,bs,_,h=>cases h
 | IfExp c a b p=>exact Ki I hs h hp G
 | Tuple es k p =>
  obtain⟨q,l1,l2,h1,p1,h,p2⟩:=aR (show Rs.bnd _ _=_ from h) hp
  split at h
  ·rename_i hl
   unfold mk at h;cases h
   exact cg (Bw (I.es es (be (by simp<;>omega) hs) h1 p1 G) hl) (fun _=>rfl)
  ·cases h
 | List es p =>
  obtain⟨q,l1,l2,h1,p1,h,p2⟩:=aR (show Rs.bnd _ _=_ from h) hp
  split at h
  ·rename_i hl
   cases h
   exact cg (ql (I.es es (be (by simp<;>omega) hs) h1 p1 G) hl.2 hl.1) (fun _=>rfl)
  ·cases h
 | Attribute a f p=>cases h
 | Dict ks vs p =>
  match ks,vs,h with
  | [],[],h=>cases h;exact cg Ij (fun _=>rfl)
  | _::_,_,h=>cases h
  | [],_::_,h=>cases h
 | Subscript a i p=>exact Gn I hs h hp G
 | Call f args kws p =>
  cases f with
  | Name f fp =>
   cases kws with
   | nil=>exact AG I hs h hp G
   | cons _ _=>cases h
  | Attribute a m ap =>
   cases kws with
   | nil=>exact AH I hs h hp G
   | cons _ _=>cases h
  | _=>cases h
 | ListComp elt gens scope p =>
  obtain⟨tg,iter,ifs,rfl⟩:=qe h
  obtain⟨ds,f,k,a1,a2,a3,a4,a5,a6,a7,a8,a9⟩:=ve I hs h hp G
  rw[a9]
  exact cg (Fg G.calm G.nd a1 a2 a3 a4 a5 a6 a7 a8) (fun _=>rfl)
 | _=>cases h
theorem HY(I:Ih Φ n)(es:List Expr){r:List D×Nat}(hs:sizeOf es<n+1)(h:bQ Φ es sc ρ=.ok r l)(hp:aB l)(G:aK Φ X sc):AD X ρ es r.1 r.2:=by
 cases es with
 | nil=>cases h;exact ir
 | cons e es =>
  obtain⟨p,l1,l2,h1,p1,h,p2⟩:=aR (show Rs.bnd _ _=_ from h) hp
  obtain⟨q,l3,l4,h2,p3,h,p4⟩:=aR h p2
  cases h
  exact ge ((I.e e (be (by simp<;>omega) hs) h1 p1 G).ed rfl) (I.es es (be (by simp<;>omega) hs) h2 p3 G) (aN (pj h1))
theorem um{c:Bool}{r:Rs Bool}{l:List Prop}(h:xi b r=.ok c l)(hp:aB l):(b=true/\∃m,r=.ok c m/\aB m)\/(b=false/\c=false):=by
 unfold xi at h
 split at h
 ·rename_i c' m
  cases h
  cases b with
  | true=>exact .inl ⟨rfl,m,rfl,o9 hp rfl⟩
  | false=>exact .inr ⟨rfl,rfl⟩
 ·cases b with
  | true=>cases h
  | false=>cases h;exact .inr ⟨rfl,rfl⟩
theorem vy{c:Bool}{r:Rs Bool}{l:List Prop}(h:Cw b r=.ok c l)(hp:aB l):(b=false/\∃m,r=.ok c m/\aB m)\/(b=true/\c=true):=by
 unfold Cw at h
 split at h
 ·rename_i c' m
  cases h
  cases b with
  | false=>exact .inl ⟨rfl,m,rfl,o9 hp rfl⟩
  | true=>exact .inr ⟨rfl,rfl⟩
 ·cases b with
  | false=>cases h
  | true=>cases h;exact .inr ⟨rfl,rfl⟩
theorem Ia(I:Ih Φ n)(op:BoolOp)(es:List Expr)(hs:sizeOf es<n+1)(h:dW Φ op es sc ρ=.ok b l)(hp:aB l)(G:aK Φ X sc):d9 X ρ op es b:=by
 cases es with
 | nil =>
  cases op with
  | And=>cases h;exact⟨fun z=>absurd rfl z,fun z=>absurd rfl z,fun _=>xH⟩
  | Or=>cases h;exact⟨fun z=>absurd rfl z,fun z=>absurd rfl z,fun z=>(by cases z)⟩
 | cons e es =>
  cases op with
  | And =>
   obtain⟨p,l1,l2,h1,p1,h,p2⟩:=aR (show Rs.bnd _ _=_ from h) hp
   obtain⟨b',hb,h⟩:=nk h
   have c:=I.e e (be (by simp<;>omega) hs) h1 p1 G
   have ce:=c.ed rfl
   rw[hb]at ce
   have ct:=c.td rfl b' hb
   rcases um h p2 with⟨rfl,m,h,pm⟩|⟨rfl,rfl⟩
   ·cases es with
    | nil=>cases h;exact fh ce ct
    | cons e2 es=>exact nQ ce ct (I.b .And (e2::es) (be (by simp<;>omega) hs) h pm G)
   ·cases es with
    | nil=>exact fh ce ct
    | cons e2 es=>exact ud ce ct (fun pos=>⟨_,sH⟩) (fun pos=>⟨_,sy⟩)
  | Or =>
   obtain⟨p,l1,l2,h1,p1,h,p2⟩:=aR (show Rs.bnd _ _=_ from h) hp
   obtain⟨b',hb,h⟩:=nk h
   have c:=I.e e (be (by simp<;>omega) hs) h1 p1 G
   have ce:=c.ed rfl
   rw[hb]at ce
   have ct:=c.td rfl b' hb
   rcases vy h p2 with⟨rfl,m,h,pm⟩|⟨rfl,rfl⟩
   ·cases es with
    | nil=>cases h;exact fh ce ct
    | cons e2 es=>exact w9 ce ct (I.b .Or (e2::es) (be (by simp<;>omega) hs) h pm G)
   ·cases es with
    | nil=>exact fh ce ct
    | cons e2 es=>exact uR ce ct (fun pos=>⟨_,sH⟩) (fun pos=>⟨_,sy⟩)
theorem HZ(I:Ih Φ n)(e:Option Expr){o:Option Int}(hs:sizeOf e<n+1)(h:vY Φ e sc ρ=.ok o l)(hp:aB l)(G:aK Φ X sc):OD X ρ e o:=by
 cases e with
 | none=>cases h;exact Es
 | some e =>
  obtain⟨p,l1,l2,h1,p1,h,p2⟩:=aR (show Rs.bnd _ _=_ from h) hp
  have c:=(I.e e (be (by simp<;>omega) hs) h1 p1 G).ed rfl
  split at h
  ·rename_i i hi
   cases h
   rw[hi]at c
   exact Er c
  ·cases h
end
theorem ic(Φ:Fx):∀n,Ih Φ n
 | 0=>⟨fun _ _ _ _ _ _ _ h=>absurd h (RA _),fun _ _ _ _ _ _ h=>absurd h (RA _),fun _ _ _ _ _ _ _ h=>absurd h (RA _),fun _ _ _ _ _ _ h=>absurd h (RA _)⟩
 | n+1=>⟨fun e _ _ _ _ _ _ hs h hp G=>KT (ic Φ n) e hs h hp G,fun e _ _ _ _ _ hs h hp G=>HY (ic Φ n) e hs h hp G,fun op e _ _ _ _ _ hs h hp G=>Ia (ic Φ n) op e hs h hp G,fun e _ _ _ _ _ hs h hp G=>HZ (ic Φ n) e hs h hp G⟩
theorem KU(e:Expr){p:D×Nat}{l:List Prop}(h:av Φ e it sc ρ=.ok p l)(hp:aB l)(G:aK Φ X sc):fR X ρ e it p.1 p.2:=(ic Φ _).e e (Rk _) h hp G
theorem tR(es:List Expr){p:List D×Nat}{l:List Prop}(h:bQ Φ es sc ρ=.ok p l)(hp:aB l)(G:aK Φ X sc):AD X ρ es p.1 p.2:=(ic Φ _).es es (Rk _) h hp G
structure aG(ow:Ow)(H:Hp)(ow':Ow)(H':Hp):Prop where
 keep:∀a o,H a=some o->(nm o\/ow a=none)->H' a=some o
 low:∀a o,H a=some o->ow a=none->ow' a=none
theorem aG.refl(ow:Ow)(H:Hp):aG ow H ow H:=⟨fun _ _ h _=>h,fun _ _ _ h=>h⟩
theorem aG.same(s:au H H'):aG ow H ow H':=⟨fun a o h _=>s a o h,fun _ _ _ h=>h⟩
theorem aG.trans{ow1 ow2:Ow}{H1 H2:Hp}(a:aG ow H ow1 H1)(b:aG ow1 H1 ow2 H2):aG ow H ow2 H2 :=
 ⟨fun x o h c=>b.keep x o (a.keep x o h c) (c.imp id fun z=>a.low x o h z),fun x o h z=>b.low x o (a.keep x o h (.inr z)) (a.low x o h z)⟩
noncomputable def cj(H0:Hp)(ow:Ow)(H:Hp):Prop:=∀a o,H0 a=some o->H a=some o/\ow a=none
theorem cj.keep{H0:Hp}(b:cj H0 ow H)(k:aG ow H ow' H'):cj H0 ow' H':=fun a o h=>let ⟨h1,h2⟩:=b a o h;⟨k.keep a o h1 (.inr h2),k.low a o h1 h2⟩
theorem cj.sm{H0:Hp}(b:cj H0 ow H):au H0 H:=fun a o h=>(b a o h).1
variable{X:Cx}
noncomputable def jW(X:Cx)(H0:Hp)(ow:Ow)(H:Hp)(fl:Fl)(D:lZ):Prop :=
 match fl with
 | .nx ρ => ∀ow' σ' H',aH X ow' H' σ' ρ->σ'.length=X.N.length->aG ow H ow' H'->D.nx σ' H'
 | .bk ρ => ∀ow' σ' H',aH X ow' H' σ' ρ->σ'.length=X.N.length->aG ow H ow' H'->D.bk σ' H'
 | .ct ρ => ∀ow' σ' H',aH X ow' H' σ' ρ->σ'.length=X.N.length->aG ow H ow' H'->D.ct σ' H'
 | .rt d => ∀v H',au H0 H'->ae X.K H' (fun a b=>b=true/\H0 a=none) d v->D.rt v H'
theorem jW.keep{H0:Hp}{D:lZ}(p:jW X H0 ow H fl D)(k:aG ow H ow' H'):jW X H0 ow' H' fl D:=by
 cases fl with
 | nx ρ=>exact fun ow2 σ2 H2 a b c=>p ow2 σ2 H2 a b (k.trans c)
 | bk ρ=>exact fun ow2 σ2 H2 a b c=>p ow2 σ2 H2 a b (k.trans c)
 | ct ρ=>exact fun ow2 σ2 H2 a b c=>p ow2 σ2 H2 a b (k.trans c)
 | rt d=>exact p
noncomputable def xL(X:Cx)(H0:Hp)(ρ:ac)(fl:Fl):TS:=fun D σ H => ∃ow,aH X ow H σ ρ/\σ.length=X.N.length/\cj H0 ow H/\jW X H0 ow H fl D
noncomputable def SD(X:Cx)(H0:Hp)(ρ:ac)(st:Stmt)(fl:Fl):Prop:=PS X st (xL X H0 ρ fl)
noncomputable def dh(X:Cx)(H0:Hp)(ρ:ac)(st:List Stmt)(fl:Fl):Prop:=dZ X st (xL X H0 ρ fl)
theorem vh{H0:Hp}:dh X H0 ρ [] (.nx ρ):=fun pins s σ H D I ⟨ow,E,hl,B,q⟩=>pU pins s σ H D I (q ow σ H E hl (aG.refl _ _))
theorem fX{H0:Hp}{ρ1:ac}(h1:SD X H0 ρ st (.nx ρ1))(h2:dh X H0 ρ1 ss fl):dh X H0 ρ (st::ss) fl:=fun pins s σ H D I ⟨ow,E,hl,B,q⟩ =>
 fu h1 h2 pins s σ H D I ⟨ow,E,hl,B,fun ow' σ' H' E' hl' k=>⟨ow',E',hl',B.keep k,q.keep k⟩⟩
theorem jF{H0:Hp}(h1:SD X H0 ρ st fl)(hf:∀ρ',fl ≠ .nx ρ'):dh X H0 ρ (st::ss) fl:=fun pins s σ H D I ⟨ow,E,hl,B,q⟩ =>
 fu h1 iG pins s σ H D I ⟨ow,E,hl,B,by
  cases fl with
  | nx ρ'=>exact absurd rfl (hf ρ')
  | bk ρ'=>exact q
  | ct ρ'=>exact q
  | rt d=>exact q⟩
theorem xV{H0:Hp}(h:ED X ρ e d k)(hk:k=0\/k=2):SD X H0 ρ (.Return (some e) pos) (.rt d):=fun pins s σ H D I ⟨ow,E,hl,B,q⟩ =>
 sD (h ow) pins s σ H D I ⟨E,fun v H1 s1 r1=>q v H1 (B.sm.trans s1) (r1.imp fun a b p=>by
  rcases hk with rfl|rfl
  ·exact⟨p.1,B.sm.free p.2⟩
  ·refine⟨p.1,p.2.elim (fun z=>?_) B.sm.free⟩
   cases e0:H0 a with
   | none=>rfl
   | some o=>exact absurd (B a o e0).2 z)⟩
theorem Fd(E:aH X ow H σ ρ):aH X (fun _=>none) H σ (jv ρ):=by
 refine⟨fun x d o h=>?_,fun a z=>absurd rfl z⟩
 unfold jv at h
 cases e:ρ x with
 | none=>rw[e]at h;cases h
 | some y =>
  rw[e]at h
  cases h
  obtain⟨i,v,h1,h2,h3,h4⟩:=E.get x y.1 y.2 e
  exact⟨i,v,h1,h2,h3,h4.imp fun _ _ _ _=>rfl⟩
theorem DG{H0:Hp}(h:ED X (jv ρ) e d k)(hk:k=0\/k=2):SD X H0 ρ (.Return (some e) pos) (.rt d):=fun pins s σ H D I ⟨ow,E,hl,B,q⟩ =>
 sD (h fun _=>none) pins s σ H D I ⟨Fd E,fun v H1 s1 r1=>q v H1 (B.sm.trans s1) (r1.imp fun a b p=>by
  rcases hk with rfl|rfl
  ·exact⟨p.1,B.sm.free p.2⟩
  ·exact⟨p.1,p.2.elim (fun z=>absurd rfl z) B.sm.free⟩)⟩
theorem DJ{H0:Hp}(h:ED X ρ e d k)(hc:∃f p args ks cp,e=.Call (.Name f p) args ks cp):SD X H0 ρ (.Expr e pos) (.nx ρ):=fun pins s σ H D I ⟨ow,E,hl,B,q⟩=>by
 obtain⟨f,p,args,ks,cp,rfl⟩:=hc
 exact ja (h ow) rfl pins s σ H D I ⟨E,fun v H1 s1 r1=>q ow σ H1 (E.same s1) hl (aG.same s1)⟩
theorem DF{H0:Hp}:SD X H0 ρ (.Return none pos) (.rt .non):=fun pins s σ H D I ⟨ow,E,hl,B,q⟩=>DY pins s σ H D I (q .non H B.sm (by rw[ae]))
theorem DH{H0:Hp}:SD X H0 ρ (.Pass pos) (.nx ρ):=fun pins s σ H D I ⟨ow,E,hl,B,q⟩=>DZ pins s σ H D I (q ow σ H E hl (aG.refl _ _))
theorem AR{H0:Hp}:SD X H0 ρ (.Break pos) (.bk ρ):=fun pins s σ H D I ⟨ow,E,hl,B,q⟩=>AY pins s σ H D I (q ow σ H E hl (aG.refl _ _))
theorem DN{H0:Hp}:SD X H0 ρ (.Continue pos) (.ct ρ):=fun pins s σ H D I ⟨ow,E,hl,B,q⟩=>uL pins s σ H D I (q ow σ H E hl (aG.refl _ _))
theorem Kk{H0:Hp}{a b:List Stmt}(hc:TD X ρ c t)(h:if t=true then dh X H0 ρ a fl else dh X H0 ρ b fl):SD X H0 ρ (.If c a b pos) fl:=by
 cases t with
 | true =>
  intro pins s σ H D I ⟨ow,E,hl,B,q⟩
  exact wB (hc ow) h iG pins s σ H D I ⟨E,fun H1 s1=>by
   show if true=true then _ else _
   rw[if_pos rfl]
   exact⟨ow,E.same s1,hl,B.keep (aG.same s1),q.keep (aG.same s1)⟩⟩
 | false =>
  intro pins s σ H D I ⟨ow,E,hl,B,q⟩
  exact wB (hc ow) iG h pins s σ H D I ⟨E,fun H1 s1=>by
   show if false=true then _ else _
   rw[if_neg QT]
   exact⟨ow,E.same s1,hl,B.keep (aG.same s1),q.keep (aG.same s1)⟩⟩
theorem qk{H1:Hp}(hN:X.N.Nodup)(hl:σ.length=X.N.length)(E:aH X ow H σ ρ)(sm:au H H1)(hi:X.N[i]?=some x)(hv:fj X.env.scope x)(r:ae X.K H1 (Kp ow H 0) d v) :
  ∃ow',aH X ow' H1 (σ.set i (some v)) (aI ρ x (d,true))/\aG ow H ow' H1:=by
 classical
 let ow':Ow:=fun a=>if H a=none/\∃o,H1 a=some o then some (some x)else ow a
 have o1:∀a o,H a=some o->ow' a=ow a:=fun a o h=>if_neg (fun z=>by rw[h]at z;cases z.1)
 have E1:aH X ow' H1 σ ρ:=⟨fun y e o h=>by
  obtain⟨j,w,e1,e2,e3,e4⟩:=E.get y e o h
  refine⟨j,w,e1,e2,e3,ae.same sm (e4.impH (fun a ob ha p=>?_) fun a p=>?_)⟩
  ·cases o with
   | true=>exact⟨p.1,(o1 a ob ha).trans p.2⟩
   | false=>exact fun z=>(o1 a ob ha).trans (p z)
  ·cases o with
   | true=>cases p.1
   | false=>exact fun z=>(by cases z),fun a ha=>by
  by_cases hz:H a=none/\∃o,H1 a=some o
  ·exact hz.2
  ·have:ow' a=ow a:=if_neg hz
   rw[this]at ha
   exact(E.own.same sm) a ha⟩
 refine⟨ow',d7 hN hl E1 hi hv (r.impH (fun a o ha p=>⟨rfl,if_pos ⟨p.2,o,ha⟩⟩) fun a p=>(by cases p.1)),fun a o h _=>sm a o h,fun a o h z=>(o1 a o h).trans z⟩
theorem iR{t:Option Expr}(h:jo e=false):swapsWith e t n env=pure false:=by
 cases e<;>first|rfl|cases h
theorem si{H0:Hp}{o:Bool}(G:aK Φ X sc)(hx:cq sc x=true)(h:ED X ρ e d k)(ho:(k=0/\o=true)\/(k=1/\o=false))(hs:swapsWith e (some (.Name x p)) pos.line X.env=pure false) :
  SD X H0 ρ (.Assign [.Name x p] e pos) (.nx (aI ρ x (d,o))):=by
 obtain⟨g1,g2,g3,i,g4⟩:=ff G hx
 intro pins s σ H D I ⟨ow,E,hl,B,q⟩
 refine ya (i:=i) G.nd g4 g1 (h ow) hs g3 pins s σ H D I ⟨E,fun v H1 s1 r1=>?_⟩
 show D.nx (σ.set i (some v)) H1
 rcases ho with⟨rfl,rfl⟩|⟨rfl,rfl⟩
 ·obtain⟨ow',E',k'⟩:=qk G.nd hl E s1 g4 g2 r1
  exact q ow' _ H1 E' (by rw[Rt];exact hl) k'
 ·exact q ow _ H1 (d7 G.nd hl (E.same s1) g4 g2 r1) (by rw[Rt];exact hl) (aG.same s1)
theorem iD:swapsWithSole [.Tuple es n p] e k env=pure false:=by
 cases e<;>rfl
theorem kr{i:Expr}:swapsWithSole [.Subscript a i p] e k env=pure false:=by
 cases e<;>rfl
noncomputable def Ox(K:W.Frag)(n:Nat)(t:pG):TG:=fun v σ H Q => ∃a xs,v=.ref a/\ci K H a xs/\xs.length=n/\t xs σ H Q
theorem GN{t:pG}(hc:X.calm=true)(h:we X es t)
  (hn:(assignEach es X.env).length=n) (hst:(assignEach es X.env).findIdx? (·.1)=none):PG X (.Tuple es k pos) (Ox X.K n t):=by
 intro pins s σ H v u Q I r hw
 obtain⟨a,xs,e1,hq,hl,hw⟩:=hw
 subst e1
 cases r
 obtain⟨its,rv,pl,hz⟩:=I.list hq
 have hsz:(assignEach es X.env).length=its.toArray.size:=by simp[hn,<- hl,rv.length]
 rw[assign_Tuple]
 refine Qx (wpAny_standAt ?_)
 unfold unpack
 rw[hst,hsz]
 refine Qx (Sa (W.kun_itemsOf (I.ok.hd hc) pl.isList fun h' hx=>?_))
 have I1:aj X pins σ H { s with heap:=h' }:=I.kept (t':=s.toks) fun b o e=>hx b o (QZ (QE e)) e
 exact h pins _ σ H xs _ Q I1 (by simpa using rv) hw
theorem oK{H1:Hp}(o:cP ow H)(hf:ao ds=true\/k<=1)(r:ah X.K H1 (Kp ow H k) ds vs):ah X.K H1 (fun a b=>b=true->ow a=none) ds vs:=by
 rcases hf with hf|hf
 ·exact r.flat _ hf
 ·exact r.imp fun a b p hb=>by subst hb;exact eQ o hf p
theorem pQ(G:aK Φ X sc)(ht:xP sc es e=false):swappedStores [.Tuple es n p] e X.env=pure none:=by
 unfold xP at ht
 cases hte:lh e with
 | false=>cases e<;>first|rfl|cases hte
 | true =>
  rw[hte]at ht
  have hc:t8 sc es e=true:=by simpa using ht
  unfold t8 at hc
  split at hc
  ·rename_i x px y py a b m q
   have k1:X.env.kindOf x=some .cell:=G.cc x (by simpa using hc)
   unfold swappedStores
   dsimp only
   split
   ·rfl
   ·split
    ·rfl
    ·rw[if_pos]
     rw[List.filterMap_cons_none (by simp[k1])]
     have:∀l:List Str,l.length<=1->(l.length != [Expr.Name x px,Expr.Name y py].length || l.eraseDups.length != l.length)=true:=fun l hl=>by
      have:(l.length != [Expr.Name x px,Expr.Name y py].length)=true:=by simp;omega
      rw[this];rfl
     exact this _ (QR (List.length_filterMap_le _ _) (QA _))
  ·cases hc
theorem Gw{H0:Hp}(G:aK Φ X sc)(h:ED X ρ e d k)(hd:fD d=some ds)(hf:ao ds=true\/k<=1)(hb:aQ sc es ds ρ=some ρ')(ht:xP sc es e=false) :
  SD X H0 ρ (.Assign [.Tuple es n p] e pos) (.nx ρ'):=by
 obtain⟨t,h1,h2,h3,h4⟩:=kO G hb
 intro pins s σ H D I ⟨ow,E,hl,B,q⟩
 have fin:∀H1 vs,au H H1->ah X.K H1 (Kp ow H k) ds vs->t vs σ H1 D.nx:=fun H1 vs s1 rl=>h4 ow vs σ H1 D.nx hl (E.same s1) (oK E.own hf rl) fun σ' hl' E'=>q ow σ' H1 E' hl' (aG.same s1)
 rcases fZ hd with rfl|rfl
 ·refine jb (h ow) (sF (n:=_) G.calm h1 h2 h3) iD (pQ G ht) rfl pins s σ H D I ⟨E,fun v H1 s1 r1=>?_⟩
  obtain⟨a,vs,rfl,hs,rl⟩:=gu r1
  exact⟨a,vs,rfl,hs,rl.length.symm,fin H1 vs s1 rl⟩
 ·refine jb (h ow) (GN (n:=_) G.calm h1 h2 h3) iD (pQ G ht) rfl pins s σ H D I ⟨E,fun v H1 s1 r1=>?_⟩
  obtain⟨a,vs,rfl,hs,rl⟩:=jH r1
  exact⟨a,vs,rfl,hs,rl.length.symm,fin H1 vs s1 rl⟩
theorem Kl{a b:D}(h:ah K H P [a,b] vs):∃x y,vs=[x,y]/\ae K H P a x/\ae K H P b y:=by
 rw[ah]at h
 obtain⟨x,r,rfl,h1,h⟩:=h
 rw[ah]at h
 obtain⟨y,r,rfl,h2,h⟩:=h
 rw[ah]at h
 subst h
 exact⟨x,y,rfl,h1,h2⟩
theorem DI{H0:Hp}{pt:Pos}{p:D×Nat}(G:aK Φ X sc)(h:ED X ρ e p.1 p.2)(ho:A4 sc es p=true)(ht:xP sc es e=false) :
  SD X H0 ρ (.Assign [.Tuple es n pt] e pos) (.nx (AV es p ρ)):=by
 obtain⟨d,k⟩:=p
 unfold A4 at ho
 split at ho
 ·rename_i x px y py d1 d2 e0 e1
  have e0:d=_:=e0
  have e1:k=_:=e1
  subst e0 e1
  simp only[QI,SF,Sb]at ho
  obtain⟨⟨⟨⟨f1,_⟩,hxy⟩,hx⟩,hy⟩:=ho
  obtain⟨g1,g2,g3,i,g4⟩:=ff G hx
  obtain⟨j1,j2,j3,j,j4⟩:=ff G hy
  have hij:i≠j:=fun z=>by subst z;rw[g4]at j4;exact hxy (Ry j4)
  intro pins s σ H D I ⟨ow,E,hl,B,q⟩
  refine jb (h ow) (sF (n:=2) G.calm (n5 (gY (i:=i) G.nd g4 g1 g3) (n5 (gY (i:=j) G.nd j4 j1 j3) vw rfl) rfl) rfl rfl) iD (pQ G ht) rfl pins s σ H D I ⟨E,fun v H1 s1 r1=>?_⟩
  obtain⟨a,vs,rfl,hs,rl⟩:=gu r1
  obtain⟨v1,v2,rfl,r2,r3⟩:=Kl rl
  refine⟨a,[v1,v2],rfl,hs,rfl,v1,[v2],rfl,v2,[],rfl,rfl,?_⟩
  obtain⟨ow',E',k'⟩:=qk G.nd hl E s1 j4 j2 r3
  have hl':(σ.set j (some v2)).length=X.N.length:=by rw[Rt];exact hl
  have E2:=d7 (o:=false) G.nd hl' E' g4 g2 (r2.flat _ f1)
  rw[List.set_comm _ _ hij]
  exact q ow' _ H1 E2 (by rw[Rt];exact hl') k'
 ·cases ho
theorem wt{y:Str}{b:Expr}(G:aK Φ X sc)(hk:X.env.scope.kind=.function)(h:oP sc x y px py a b=true)(ha:∀x p,a ≠ .Starred x p)(hb:∀x p,b ≠ .Starred x p) :
  swappedStores [.Tuple [.Name x px,.Name y py] n p] (.Tuple [a,b] n2 p2) X.env=pure (some [x,y]):=by
 unfold oP at h
 simp only[QI,SF,beq_iff_eq,Sb]at h
 obtain⟨⟨⟨⟨⟨h1,h2⟩,h3⟩,h4⟩,h5⟩,h6⟩:=h
 have k1:X.env.kindOf x=some .local:=G.lc x h1
 have k2:X.env.kindOf y=some .local:=G.lc y h2
 have bk:X.env.blockKind=.function:=by unfold Env.blockKind;rw[hk];rfl
 have an:∀f:Expr->Bool,(∀e,(∀x p,e ≠ .Starred x p)->f e=false) -> ¬ ([a,b].any f=true):=fun f hf=>by simp[hf a ha,hf b hb]
 have fm:∀f:Expr->Option Str,f (.Name x px)=some x->f (.Name y py)=some y->[Expr.Name x px,Expr.Name y py].filterMap f=[x,y]:=fun f h1 h2=>by simp[h1,h2]
 have ed:[x,y].eraseDups=[x,y]:=by
  have e1:(!(y==x))=true:=by simp;exact fun z=>h4 z.symm
  rw[List.eraseDups_cons,List.filter_cons_of_pos (p:=fun b => !b==x) e1,List.filter_nil]
  rfl
 unfold swappedStores
 dsimp only
 rw[bk]
 refine(if_neg (by simp)).trans ?_
 refine(if_neg (an _ fun e he=>by cases e<;>first|rfl|exact absurd rfl (he _ _))).trans ?_
 rw[fm _ (by show(if (X.env.kindOf x==some NameKind.local&&px.line==px.line)=true then some x else none)=some x;rw[k1];simp) (by show(if (X.env.kindOf y==some NameKind.local&&py.line==px.line)=true then some y else none)=some y;rw[k2,h3];simp)]
 rw[ed]
 refine(if_neg (by simp)).trans ?_
 rw[h5,h6]
 rfl
theorem Gx{H0:Hp}{b:Expr}{y:Str}{u v:D}(G:aK Φ X sc)(h:AD X ρ [a,b] [u,v] k)(hf:ao [u,v]=true\/k<=1)(hp:oP sc x y px py a b=true)(ha:∀x p,a ≠ .Starred x p)(hb:∀x p,b ≠ .Starred x p) :
  SD X H0 ρ (.Assign [.Tuple [.Name x px,.Name y py] n p] (.Tuple [a,b] n2 p2) pos) (.nx (aI (aI ρ x (u,false)) y (v,false))):=by
 have hp0:=hp
 unfold oP at hp
 simp only[QI,SF,beq_iff_eq,Sb]at hp
 obtain⟨⟨⟨⟨⟨l1,l2⟩,_⟩,hxy⟩,_⟩,_⟩:=hp
 obtain⟨g1,g2,g3,i,g4⟩:=ff (x:=x) G (by unfold cq;rw[l1];rfl)
 obtain⟨j1,j2,j3,j,j4⟩:=ff (x:=y) G (by unfold cq;rw[l2];rfl)
 have hij:i≠j:=by intro z;subst z;rw[g4]at j4;cases j4;exact hxy rfl
 intro pins s σ H D I ⟨ow,E,hl,B,q⟩
 refine GH (i:=i) (j:=j) G.calm G.nd g4 j4 hij (G.lc x l1) (G.lc y l2) (h ow) (wt G I.ok.kind hp0 ha hb) iD pins s σ H D I ⟨E,fun vs H1 s1 r1=>?_⟩
 have rs:=oK E.own hf r1
 rw[ah]at rs
 obtain⟨v1,r,rfl,rv1,rs⟩:=rs
 obtain⟨v2,rfl,rv2⟩:=rs.only
 refine⟨v1,v2,rfl,?_⟩
 have E1:=d7 (o:=false) G.nd hl (E.same s1) g4 g2 rv1
 have hl1:(σ.set i (some v1)).length=X.N.length:=by rw[Rt];exact hl
 exact q ow _ H1 (d7 (o:=false) G.nd hl1 E1 j4 j2 rv2) (by rw[Rt];exact hl1) (aG.same s1)
theorem zj{H1:Hp}{a:Addr}(E:aH X ow H1 σ ρ)(hi:X.N[i]?=some x)(hs:σ[i]?=some (some (.ref a)))
  (hv:fj X.env.scope x) (ha:H1 a=some (.lst vs)) (ho:ow a=some (some x)) (f:ao l'=true) (r:ah X.K H1 (fun _ _=>True) l' vs') :
  aH X ow (aF H1 a (.lst vs')) σ (aI ρ x (.lst l',true)):=by
 have st:∀{P:ba},(P a true->False)->dJ P P H1 (aF H1 a (.lst vs')):=fun {P} h=>⟨fun b o hb hn=>by rw[aq (fun z=>by subst z;rw[ha]at hb;cases hb;exact hn)];exact hb,fun b ws hb p=>by rw[aq (fun z=>by subst z;exact h p)];exact hb,fun _ _ _ p=>p,fun _ p=>p⟩
 have r':ah X.K (aF H1 a (.lst vs')) (kT ow x true) l' vs':=ah.flat _ f ((r.flat (fun _ _=>False) f).mono (st fun z=>z))
 refine⟨fun y e o h=>?_,fun b hb=>?_⟩
 ·rw[bm]at h
  by_cases hy:y=x
  ·subst hy
   rw[if_pos rfl]at h
   cases h
   exact⟨i,.ref a,hi,hv,hs,by rw[ae];exact⟨a,vs',true,rfl,aC,⟨rfl,ho⟩,r'⟩⟩
  ·rw[if_neg hy]at h
   obtain⟨j,w,e1,e2,e3,e4⟩:=E.get y e o h
   refine⟨j,w,e1,e2,e3,e4.mono (st fun p=>?_)⟩
   cases o with
   | true=>have:=p.2;rw[ho]at this;cases this;exact hy rfl
   | false=>have:=p rfl;rw[ho]at this;cases this
 ·by_cases hz:b=a
  ·subst hz;exact⟨_,aC⟩
  ·rw[aq hz];exact E.own b hb
theorem GZ(E:aH X ow H σ ρ)(h:ρ x=some (.lst l,true)):∃(i:Nat) (a:Addr) (vs:List V),X.N[i]?=some x/\fj X.env.scope x/\σ[i]?=some (some (.ref a))/\H a=some (.lst vs)/\ow a=some (some x)/\ah X.K H (fun _ _=>True) l vs:=by
 obtain⟨i,v,e1,e2,e3,e4⟩:=E.get x _ _ h
 rw[ae]at e4
 obtain⟨a,vs,b,rfl,hl,hp,rl⟩:=e4
 cases hp.1
 exact⟨i,a,vs,e1,e2,e3,hl,hp.2,rl.imp fun _ _ _=>True.intro⟩
theorem wV{H1:Hp}{a:Addr}(sm:au H H1)(h0:H a=some (.lst vs))(ho:ow a=some (some x)):aG ow H ow (aF H1 a (.lst vs')) :=
 ⟨fun b o h c=>by
  rw[aq (fun z=>by
   subst z
   rw[h0]at h;cases h
   rcases c with c|c
   ·exact c
   ·rw[ho]at c;cases c)]
  exact sm b o h,fun _ _ _ z=>z⟩
theorem jn(I:aj X pins σ H s){a:Addr}{o:Obj}(h:X.K.lookup a=some o):H a=none:=(I.bs a o (I.ok.mod.kin a o h)).2
mutual
noncomputable def D.lsz:D->Nat
 | .lst l=>1+iT l
 | .tup l=>iT l
 | _=>0
noncomputable def iT:List D->Nat
 | []=>0
 | d::l=>d.lsz+iT l
end
theorem Bi(I:aj X pins σ H s){a:Addr}(ha:H a=some (.lst vs))(h:ae X.K H P d (.ref a)):∃l,d=.lst l:=by
 cases d with
 | lst l=>exact⟨l,rfl⟩
 | tup l =>
  rw[ae]at h
  obtain⟨a',vs',e,hs,_⟩:=h
  cases e
  rcases hs with(q|⟨o,q⟩)|⟨o,its,n,q,_⟩
  ·rw[ha]at q;cases q
  ·rw[ha]at q;cases q
  ·rw[jn I q]at ha;cases ha
 | dct _ _=>rw[ae]at h;obtain⟨_,_,a',_,e,hl,_⟩:=h;cases e;rw[ha]at hl;cases hl
 | dcf _ _=>rw[ae]at h;obtain⟨_,a',_,_,e,hl,_⟩:=h;cases e;rw[ha]at hl;cases hl
 | sn m=>rw[ae]at h;obtain⟨a',S,e,hl⟩:=h;cases e;rw[ha]at hl;cases hl
 | obj n ns es=>rw[ae]at h;obtain⟨_,_,a',C,dx,vs',e,_,_,hl,_⟩:=h;cases e;rw[ha]at hl;cases hl
 | cls n=>rw[ae]at h;obtain⟨C,o',e,_,hl,_⟩:=h;cases e;rw[jn I hl]at ha;cases ha
 | _=>rw[ae]at h;cases h
theorem Ay(I:aj X pins σ H s)(hP:∀a b,P a b->b=true){a:Addr}(ha:aZ X.K H a vs)(h:ae X.K H P d (.ref a)):∃l,d=.tup l/\ah X.K H P l vs:=by
 have no:∀o,H a=some o->(∀xs,o ≠ .tup xs)->(∀p q,o ≠ .frz p q)->False:=fun o e h1 h2=>by
  rcases ha with(q|⟨o',q⟩)|⟨o',its,n,q,_⟩
  ·rw[e]at q;cases q;exact h1 _ rfl
  ·rw[e]at q;cases q;exact h2 _ _ rfl
  ·rw[jn I q]at e;cases e
 cases d with
 | lst l =>
  rw[ae]at h
  obtain⟨a',vs',b,e,hl,p,_⟩:=h
  cases e
  cases hP _ _ p
  exact(no _ hl (fun _ z=>nomatch z) fun _ _ z=>nomatch z).elim
 | tup l =>
  rw[ae]at h
  obtain⟨a',vs',e,hs,rl⟩:=h
  cases e
  have:=I.tuple_inj ha hs
  subst this
  exact⟨l,rfl,rl⟩
 | dct _ _=>rw[ae]at h;obtain⟨_,_,a',_,e,hl,_⟩:=h;cases e;exact(no _ hl (fun _ z=>nomatch z) fun _ _ z=>nomatch z).elim
 | dcf _ _ =>
  rw[ae]at h
  obtain⟨_,a',o2,_,e,hl,_⟩:=h
  cases e
  rcases ha with(q|⟨o',q⟩)|⟨o',its,n,q,_⟩
  ·rw[q]at hl;cases hl
  ·rw[q]at hl;cases hl
  ·rw[jn I q]at hl;cases hl
 | sn m=>rw[ae]at h;obtain⟨a',S,e,hl⟩:=h;cases e;exact(no _ hl (fun _ z=>nomatch z) fun _ _ z=>nomatch z).elim
 | obj n ns es=>rw[ae]at h;obtain⟨_,_,a',C,dx,vs',e,_,_,hl,_⟩:=h;cases e;exact(no _ hl (fun _ z=>nomatch z) fun _ _ z=>nomatch z).elim
 | cls n =>
  rw[ae]at h
  obtain⟨C,o',e,_,hl,ht,_⟩:=h
  cases e
  rcases ha with(q|⟨o,q⟩)|⟨o,its,n,q,hc,_⟩
  ·rw[jn I hl]at q;cases q
  ·rw[jn I hl]at q;cases q
  ·rw[hl]at q;cases q;rw[hc]at ht;injection ht with ht;exact absurd ht (by decide)
 | _=>rw[ae]at h;cases h
mutual
theorem sw{pins:List (Addr×Obj)}{σ:L2.St}{H:Hp}{s:Shared}(I:aj X pins σ H s){P:ba}(hP:∀a b,P a b->b=true):∀(d d':D) (v:V),ae X.K H P d v->ae X.K H P d' v->d.lsz<=d'.lsz
 | .tup l,d',v,h,h'=>by
  rw[ae]at h
  obtain⟨a,vs,rfl,hs,rl⟩:=h
  obtain⟨l',rfl,rl'⟩:=Ay I hP hs h'
  rw[D.lsz,D.lsz];exact kJ I hP l l' vs rl rl'
 | .lst l,d',v,h,h'=>by
  rw[ae]at h
  obtain⟨a,vs,b,rfl,hs,p,rl⟩:=h
  cases hP _ _ p
  replace hs:H a=some (.lst vs):=hs
  obtain⟨l',rfl⟩:=Bi I hs h'
  rw[ae]at h'
  obtain⟨a',vs',b,e,hl,p',rl'⟩:=h'
  cases e
  cases hP _ _ p'
  replace hl:H a=some (.lst vs'):=hl
  rw[hs]at hl;cases hl
  rw[D.lsz,D.lsz]
  exact Nat.add_le_add_left (kJ I hP l l' vs rl rl') 1
 | .non,_,_,_,_=>QN _
 | .bl _,_,_,_,_=>QN _
 | .int _,_,_,_,_=>QN _
 | .str _,_,_,_,_=>QN _
 | .dct _ _,_,_,_,_=>QN _
 | .typ _,_,_,_,_=>QN _
 | .dcf _ _,_,_,_,_=>QN _
 | .sn _,_,_,_,_=>QN _
 | .obj _ _ _,_,_,_,_=>QN _
 | .cls _,_,_,_,_=>QN _
theorem kJ{pins:List (Addr×Obj)}{σ:L2.St}{H:Hp}{s:Shared}(I:aj X pins σ H s){P:ba}(hP:∀a b,P a b->b=true):∀(l l':List D) (vs:List V),ah X.K H P l vs->ah X.K H P l' vs->iT l<=iT l'
 | [],l',vs,h,h'=>QN _
 | d::l,l',vs,h,h'=>by
  rw[ah]at h
  obtain⟨v,r,rfl,h1,h2⟩:=h
  cases l' with
  | nil=>rw[ah]at h';cases h'
  | cons d' l' =>
   rw[ah]at h'
   obtain⟨v',r',e,h1',h2'⟩:=h'
   cases e
   rw[iT,iT]
   exact Nat.add_le_add (sw I hP d d' v h1 h1') (kJ I hP l l' r h2 h2')
end
mutual
theorem GB{pins:List (Addr×Obj)}{σ:L2.St}{H:Hp}{s:Shared}(I:aj X pins σ H s){P:ba}(hP:∀a b,P a b->b=true){A:Addr}{l:List D}(hA:ae X.K H P (.lst l) (.ref A)):∀(d:D) (v:V),d.lsz<(D.lst l).lsz->ae X.K H P d v->ae X.K H (fun a b=>P a b/\a≠A) d v
 | .tup m,v,hs,h=>by
  rw[ae]at h⊢
  obtain⟨a,vs,e,h1,h2⟩:=h
  exact⟨a,vs,e,h1,mD I hP hA m vs (by rw[D.lsz]at hs;exact hs) h2⟩
 | .lst m,v,hs,h=>by
  have h0:=h
  rw[ae]at h⊢
  obtain⟨a,vs,b,e,h1,p,h2⟩:=h
  refine⟨a,vs,b,e,h1,⟨p,fun z=>?_⟩,mD I hP hA m vs (by rw[D.lsz]at hs;omega) h2⟩
  subst e z
  have:=sw I hP _ _ _ hA h0
  exact absurd (QK hs this) (Rx _)
 | .non,v,_,h=>by rw[ae]at h⊢;exact h
 | .bl _,v,_,h=>by rw[ae]at h⊢;exact h
 | .int _,v,_,h=>by rw[ae]at h⊢;exact h
 | .str _,v,_,h=>by rw[ae]at h⊢;exact h
 | .dct ks es,v,_,h=>by
  rw[ae]at h⊢
  obtain⟨f,e0,a,vs,e,h1,p,r⟩:=h
  refine⟨f,e0,a,vs,e,h1,⟨p,fun z=>?_⟩,r.flat _ f⟩
  subst z
  rw[ae]at hA
  obtain⟨a2,vs2,b,e2,hl,p2,_⟩:=hA
  cases e2
  cases hP _ _ p2
  replace hl:H a=some (.lst vs2):=hl
  rw[h1]at hl;cases hl
 | .typ _,v,_,h=>by rw[ae]at h⊢;exact h
 | .dcf _ _,v,_,h=>by rw[ae]at h⊢;exact h
 | .sn _,v,_,h=>by rw[ae]at h⊢;exact h
 | .obj n ns es,v,_,h=>h.flat _ rfl
 | .cls n,v,_,h=>h.flat _ rfl
theorem mD{pins:List (Addr×Obj)}{σ:L2.St}{H:Hp}{s:Shared}(I:aj X pins σ H s){P:ba}(hP:∀a b,P a b->b=true){A:Addr}{l:List D}(hA:ae X.K H P (.lst l) (.ref A)):∀(m:List D) (vs:List V),iT m<(D.lst l).lsz->ah X.K H P m vs->ah X.K H (fun a b=>P a b/\a≠A) m vs
 | [],vs,_,h=>by rw[ah]at h⊢;exact h
 | d::m,vs,hs,h=>by
  rw[ah]at h⊢
  obtain⟨v,r,e,h1,h2⟩:=h
  exact⟨v,r,e,GB I hP hA d v (by rw[iT]at hs;omega) h1,mD I hP hA m r (by rw[iT]at hs;omega) h2⟩
end
theorem G0(I:aj X pins σ H s)(E:aH X ow H σ ρ)(h:ρ x=some (.lst l,true)):∃(i:Nat) (a:Addr) (vs:List V),X.N[i]?=some x/\fj X.env.scope x/\σ[i]?=some (some (.ref a))/\H a=some (.lst vs)/\ow a=some (some x)/\ah X.K H (fun b c=>kT ow x true b c/\b≠a) l vs:=by
 obtain⟨i,v,e1,e2,e3,e4⟩:=E.get x _ _ h
 have e5:=e4
 rw[ae]at e4
 obtain⟨a,vs,b,rfl,hl,hp,rl⟩:=e4
 cases hp.1
 exact⟨i,a,vs,e1,e2,e3,hl,hp.2,mD I (fun _ _ p=>p.1) e5 l vs (by rw[D.lsz];omega) rl⟩
theorem Fc{H1:Hp}{a:Addr}(E:aH X ow H σ ρ)(sm:au H H1)(hi:X.N[i]?=some x)(hs:σ[i]?=some (some (.ref a)))
  (hv:fj X.env.scope x) (h0:H a=some (.lst vs)) (ho:ow a=some (some x)) (r:ah X.K H1 (fun b c=>(kT ow x true b c/\b≠a)\/Kp ow H 0 b c) l' vs') :
  ∃ow',aH X ow' (aF H1 a (.lst vs')) σ (aI ρ x (.lst l',true))/\aG ow H ow' (aF H1 a (.lst vs')):=by
 classical
 let ow':Ow:=fun a=>if H a=none/\∃o,H1 a=some o then some (some x)else ow a
 have o1:∀a o,H a=some o->ow' a=ow a:=fun a o h=>if_neg (fun z=>by rw[h]at z;cases z.1)
 have ha:H1 a=some (.lst vs):=sm _ _ h0
 have ho':ow' a=some (some x):=(o1 a _ h0).trans ho
 have E1:aH X ow' H1 σ ρ:=⟨fun y e o h=>by
  obtain⟨j,w,e1,e2,e3,e4⟩:=E.get y e o h
  refine⟨j,w,e1,e2,e3,ae.same sm (e4.impH (fun a ob ha p=>?_) fun a p=>?_)⟩
  ·cases o with
   | true=>exact⟨p.1,(o1 a ob ha).trans p.2⟩
   | false=>exact fun z=>(o1 a ob ha).trans (p z)
  ·cases o with
   | true=>cases p.1
   | false=>exact fun z=>(by cases z),fun a ha=>by
  by_cases hz:H a=none/\∃o,H1 a=some o
  ·exact hz.2
  ·have:ow' a=ow a:=if_neg hz
   rw[this]at ha
   exact(E.own.same sm) a ha⟩
 have st:∀{P:ba},(P a true->False)->dJ P P H1 (aF H1 a (.lst vs')):=fun {P} h=>⟨fun b o hb hn=>by rw[aq (fun z=>by subst z;rw[ha]at hb;cases hb;exact hn)];exact hb,fun b ws hb p=>by rw[aq (fun z=>by subst z;exact h p)];exact hb,fun _ _ _ p=>p,fun _ p=>p⟩
 have r1:ah X.K H1 (fun b c=>kT ow' x true b c/\b≠a) l' vs':=r.impH (fun b o hb p=>by
  rcases p with⟨p,hne⟩|p
  ·refine⟨⟨rfl,?_⟩,hne⟩
   by_cases hz:H b=none/\∃o,H1 b=some o
   ·exact if_pos hz
   ·exact(if_neg hz).trans p.2
  ·exact⟨⟨rfl,if_pos ⟨p.2,o,hb⟩⟩,fun z=>by subst z;rw[p.2]at h0;cases h0⟩) fun b p=>by
  rcases p with⟨p,_⟩|p
  ·cases p.1
  ·cases p.1
 have r':ah X.K (aF H1 a (.lst vs')) (kT ow' x true) l' vs':=(r1.mono (st fun z=>z.2 rfl)).imp fun _ _ p=>p.1
 refine⟨ow',⟨fun y e o h=>?_,fun b hb=>?_⟩,fun b o h c=>?_,fun b o h z=>(o1 b o h).trans z⟩
 ·rw[bm]at h
  by_cases hy:y=x
  ·subst hy
   rw[if_pos rfl]at h
   cases h
   exact⟨i,.ref a,hi,hv,hs,by rw[ae];exact⟨a,vs',true,rfl,aC,⟨rfl,ho'⟩,r'⟩⟩
  ·rw[if_neg hy]at h
   obtain⟨j,w,e1,e2,e3,e4⟩:=E1.get y e o h
   refine⟨j,w,e1,e2,e3,e4.mono (st fun p=>?_)⟩
   cases o with
   | true=>have:=p.2;rw[ho']at this;cases this;exact hy rfl
   | false=>have:=p rfl;rw[ho']at this;cases this
 ·by_cases hz:b=a
  ·subst hz;exact⟨_,aC⟩
  ·rw[aq hz];exact E1.own b hb
 ·rw[aq (fun z=>by
   subst z
   rw[h0]at h;cases h
   rcases c with c|c
   ·exact c
   ·rw[ho]at c;cases c)]
  exact sm b o h
theorem eU{env:Env}{pos:Pos}:∀{es:List Expr},(∀e∈es,∀x p,e ≠ .Starred x p)->(backTo pos (starEach es env)).all (fun x => !x.1)=true
 | [],_=>rfl
 | e::es,h=>by
  have ih:=eU (env:=env) (es:=es) (pos:=pos) fun x hx=>h x (Qz _ hx)
  have he:=h e Qy
  cases e<;>first|exact absurd rfl (he _ _)|exact ih
theorem Gy{H0:Hp}{M:List D->List D->Nat->Rs (List D)}{p4:Pos}(hcalm:X.calm=true)(hM:ny m M)(hx:ρ x=some (.lst l,true))(h:AD X ρ args ds k)(hst:∀e∈args,∀y p,e ≠ .Starred y p)(hlen:args.length=ds.length)
  (hn:dw x=true) (hln:(ap.endLine==cp.line)=true) (hm:M l ds k=.ok l' o) (hp:aB o):SD X H0 ρ (.Expr (.Call (.Attribute (.Name x p1) m ap) args [] cp) p4) (.nx (aI ρ x (.lst l',true))):=by
 obtain⟨id,r,sl,ty,mt,hr⟩:=hM X hcalm
 intro pins s σ H D I ⟨ow,E,hl,B,q⟩
 obtain⟨i,a,vs,g1,g2,g3,g4,g5,g6⟩:=G0 I E hx
 have pn:PE X (.Name x p1) (jC i):=fF g1 g2 (bX hn).1 (bX hn).2
 have fin:∀(H1:Hp) (ws:List V),au H H1->ah X.K H1 (Kp ow H k) ds ws->r (.ref a) ws H1 fun _ H2=>D.nx σ H2:=fun H1 ws s1 r1 =>
  (hr ow H H1 l ds l' k o a vs ws hm hp).2 (fun b c=>(kT ow x true b c/\b≠a)\/Kp ow H 0 b c) _ (fun _ _ p=>.inr p) E.own s1 (s1 _ _ g4) ((g6.same s1).imp fun _ _ p=>.inl p) r1 fun vs' _ rv=>by
   obtain⟨ow',E',k'⟩:=Fc E s1 g1 g3 g2 g4 g5 rv
   exact q ow' σ _ E' hl k'
 have few:ds.length<29:=(hr ow H H l ds l' k o a vs vs hm hp).1
 cases args with
 | nil =>
  have e0:ds=[]:=RS.mp hlen.symm
  refine ja (GW PySem.F.plainAttrs_list sl ty mt pn rfl hln) rfl pins s σ H D I ⟨_,g3,.inl ⟨rfl,_,ci.of g4⟩,?_⟩
  exact fin H [] (au.refl _) (by rw[e0];exact ah.nil)
 | cons e es =>
  have hfew:((backTo cp (starEach (e::es) X.env)).all (fun x => !x.1)&&(backToKw cp (keywordEach [] X.env)).all (fun x=>x.1.isSome)&&decide ((e::es).length+([]:List Keyword).length+(if ([]:List Keyword).isEmpty then 0 else 1)<30))=true:=by
   rw[eU hst,hlen]
   have:decide (ds.length+0+0<30)=true:=by simp;omega
   exact this
  refine ja (rj PySem.F.plainAttrs_list sl ty mt pn (h ow) rfl hfew hln (aN (hst e Qy)) (cn fun x hx=>hst x (Qz _ hx))) rfl pins s σ H D I ⟨_,g3,.inl ⟨rfl,_,ci.of g4⟩,E,fun ws H1 s1 r1=>?_⟩
  exact fin H1 ws s1 r1
theorem oU:∀{l:List D} {j:Nat} {d:D},ao l=true->d.lless=true->ao (l.set j d)=true
 | [],j,d,h,f=>by simp[ao]
 | x::l,0,d,h,f=>by
  rw[ao,QI]at h
  rw[List.set_cons_zero,ao,QI];exact⟨f,h.2⟩
 | x::l,j+1,d,h,f=>by
  rw[ao,QI]at h
  rw[List.set_cons_succ,ao,QI];exact⟨h.1,oU h.2 f⟩
theorem ah.set{K:W.Frag}{P:ba}{H:Hp}{d:D}{v:V}(r:ae K H P d v):∀{l:List D} {vs:List V} (j:Nat),ah K H P l vs->ah K H P (l.set j d) (vs.set j v)
 | [],vs,j,h=>by rw[ah]at h;subst h;simp;exact ah.nil
 | x::l,vs,0,h=>by
  rw[ah]at h
  obtain⟨w,u,rfl,h1,h2⟩:=h
  exact ah.cons r h2
 | x::l,vs,j+1,h=>by
  rw[ah]at h
  obtain⟨w,u,rfl,h1,h2⟩:=h
  exact ah.cons h1 (ah.set r j h2)
theorem AQ{H0:Hp}{i:Expr}{j:Int}(hx:ρ x=some (.lst l,true))(h:ED X ρ e d k)(hi:ED X ρ i (.int j) k2)(f:ao l=true)(fd:d.lless=true)(hn:dw x=true)(hm:wx l j d=some l')(hsl:∀a b c p,i ≠ .Slice a b c p) :
  SD X H0 ρ (.Assign [.Subscript (.Name x p1) i p2] e pos) (.nx (aI ρ x (.lst l',true))):=by
 unfold wx at hm
 cases hj:j7 l.length j with
 | none=>rw[hj]at hm;cases hm
 | some n =>
  rw[hj]at hm;cases hm
  intro pins s σ H D I ⟨ow,E,hl,B,q⟩
  obtain⟨ix,a,vs,g1,g2,g3,g4,g5,g6⟩:=GZ E hx
  have pn:PE X (.Name x p1) (jC ix):=fF g1 g2 (bX hn).1 (bX hn).2
  refine jb (h ow) (sG pn (hi ow) AL (fun v=>by cases i<;>first|rfl|exact absurd rfl (hsl _ _ _ _))) kr (by cases e<;>rfl) rfl pins s σ H D I ⟨E,fun v H1 s1 r1=>?_⟩
  refine⟨_,g3,E.same s1,fun u H2 s2 r2=>?_⟩
  rw[ae]at r2;subst r2
  have s12:=s1.trans s2
  refine⟨a,vs,j,n,rfl,rfl,s12 _ _ g4,by rw[<- g6.length];exact hj,?_⟩
  exact q ow σ _ (zj (E.same s12) g1 g3 g2 (s12 _ _ g4) g5 (oU f fd) (ah.set ((r1.imp fun _ _ _=>True.intro).same s2) n (g6.same s12))) hl (wV s12 g4 g5)
noncomputable def Kn:xl:=fun o i v H Q => ∃p kvs k,o=.ref p/\i=kV k/\H p=some (.dK kvs)/\kvs.length<sizeLine/\Q (aF H p (.dK (fb kvs k v)))
theorem AM:xu X Kn:=by
 intro pins s σ H o i v ov iv u Q I ro ri rv h
 obtain⟨p,kvs,k,rfl,rfl,hp,hz,q⟩:=h
 cases ro
 obtain⟨z,hd,vs,bR,dd⟩:=(show aV X.prog X.w H s.heap p (.dK kvs)from I.hok p _ hp)
 have hz':vs.length<=sizeLine:=by rw[<- bR.length];exact z
 have hl:(fb kvs k v).length<=sizeLine:=by have:=nJ kvs k v;omega
 refine wpAny_setItem_pairs (hsz:=hz') (gR ri) dd fun h' dd' hs=>?_
 have he:∃q,h'.get? p=some q:=let ⟨q,_,_,hq,_⟩:=dd';⟨q,hq⟩
 exact⟨_,I.write (x:=p) (e:=p) (by rw[hp];exact True.intro) (.inl rfl) (fun b q hb z=>(hs.2 b hb).trans z) he (show aV X.prog X.w (aF H p (.dK (fb kvs k v))) h' p (.dK (fb kvs k v))from⟨hl,hd,_,bR.put k rv,dd'⟩),q⟩
theorem Dn{k:aP}(h:ks.length=vs.length):(jT ks k).zip (ej ks vs k v)=fb (ks.zip vs) k v:=by
 unfold jT ej fb
 rw[u5 h]
 cases iU ks k with
 | true =>
  rw[if_pos rfl]
  show ks.zip (List.zipWith _ ks vs)=_
  induction ks generalizing vs with
  | nil=>rfl
  | cons j ks ih =>
   cases vs with
   | nil=>cases h
   | cons w vs =>
    show(j,if j=k then v else w)::ks.zip (List.zipWith _ ks vs)=(if j=k then(j,v)else(j,w))::(ks.zip vs).map _
    rw[ih (by simpa using h)]
    split<;>rfl
 | false =>
  rw[if_neg QT]
  show(ks++[k]).zip (vs++[v])=_
  rw[List.zip_append h];rfl
theorem DV{k:aP}{v:α}{vs:List α}(h:ks.length=vs.length):(jT ks k).length=(ej ks vs k v).length:=by
 unfold jT ej
 cases iU ks k with
 | true=>show ks.length=(List.zipWith _ ks vs).length;rw[List.length_zipWith,<- h,Nat.min_self]
 | false=>show(ks++[k]).length=(vs++[v]).length;rw[QH,QH,h];rfl
theorem DT{k:aP}(r:ae K H P d v)(rl:ah K H P ds vs)(h:ks.length=ds.length):ah K H P (ej ks ds k d) (ej ks vs k v):=by
 unfold ej
 cases iU ks k with
 | true =>
  show ah K H P (List.zipWith _ ks ds) (List.zipWith _ ks vs)
  induction ks generalizing ds vs with
  | nil=>exact ah.nil
  | cons j ks ih =>
   cases ds with
   | nil=>cases h
   | cons x ds =>
    rw[ah]at rl
    obtain⟨w,u,rfl,h1,h2⟩:=rl
    refine ah.cons ?_ (ih h2 (by simpa using h))
    by_cases hj:j=k
    ·simp only[if_pos hj];exact r
    ·simp only[if_neg hj];exact h1
 | false=>exact rl.append (ah.one r)
theorem sB{k:aP}(f:ao ds=true)(fd:d.lless=true):ao (ej ks ds k d)=true:=by
 unfold ej
 cases iU ks k with
 | true =>
  show ao (List.zipWith _ ks ds)=true
  induction ks generalizing ds with
  | nil=>rfl
  | cons j ks ih =>
   cases ds with
   | nil=>rfl
   | cons x ds =>
    rw[ao,QI]at f
    show ao ((if j=k then d else x)::List.zipWith _ ks ds)=true
    rw[ao,QI]
    refine⟨?_,ih f.2⟩
    split
    ·exact fd
    ·exact f.1
 | false =>
  show ao (ds++[d])=true
  induction ds with
  | nil=>show ao [d]=true;rw[ao,fd];rfl
  | cons x ds ih =>
   rw[ao,QI]at f
   show ao (x::(ds++[d]))=true
   rw[ao,f.1,ih f.2];rfl
theorem DK{H0:Hp}{i:Expr}{di:D}{key:aP}(hx:ρ x=some (.dct ks ds,true))(h:ED X ρ e d k)(hi:ED X ρ i di k2)(hk:le di=some key)(fd:d.lless=true)(hz:ks.length<bJ)(hn:dw x=true)(hsl:∀a b c p,i ≠ .Slice a b c p) :
  SD X H0 ρ (.Assign [.Subscript (.Name x p1) i p2] e pos) (.nx (aI ρ x (.dct (jT ks key) (ej ks ds key d),true))):=by
 intro pins s σ H D I ⟨ow,E,hl,B,q⟩
 obtain⟨ix,v0,g1,g2,g3,g4⟩:=E.get x _ _ hx
 rw[ae]at g4
 obtain⟨f,e0,a,vs,rfl,ha,hp,rl⟩:=g4
 have ho:ow a=some (some x):=hp.2
 have pn:PE X (.Name x p1) (jC ix):=fF g1 g2 (bX hn).1 (bX hn).2
 refine jb (h ow) (sG pn (hi ow) AM (fun v=>by cases i<;>first|rfl|exact absurd rfl (hsl _ _ _ _))) kr (by cases e<;>rfl) rfl pins s σ H D I ⟨E,fun v H1 s1 r1=>?_⟩
 refine⟨_,g3,E.same s1,fun u H2 s2 r2=>?_⟩
 have s12:=s1.trans s2
 have el:ks.length=vs.length:=e0.trans rl.length
 refine⟨a,_,key,rfl,jL hk r2,s12 _ _ ha,?_,?_⟩
 ·rw[List.length_zip,<- el,Nat.min_self];exact QK hz dl
 rw[<- Dn el]
 have ha2:=s12 _ _ ha
 have st:∀{P:ba} {o':HO},(P a true->False)->dJ P P H2 (aF H2 a o'):=fun {P o'} h=>⟨fun b o hb hn=>by rw[aq (fun z=>by subst z;rw[ha2]at hb;cases hb;exact hn)];exact hb,fun b ws hb p=>by rw[aq (fun z=>by subst z;exact h p)];exact hb,fun _ _ _ p=>p,fun _ p=>p⟩
 have rr:ah X.K H2 (fun _ _=>False) (ej ks ds key d) (ej ks vs key v):=DT ((r1.same s2).flat _ fd) ((rl.same s12).flat _ f) e0
 refine q ow σ _ ⟨fun y e o h=>?_,fun b hb=>?_⟩ hl ⟨fun b o h c=>?_,fun _ _ _ z=>z⟩
 ·rw[bm]at h
  by_cases hy:y=x
  ·subst hy
   rw[if_pos rfl]at h
   cases h
   exact⟨ix,.ref a,g1,g2,g3,by rw[ae];exact⟨sB f fd,DV e0,a,_,rfl,aC,⟨rfl,ho⟩,(rr.mono (st fun z=>z)).flat _ (sB f fd)⟩⟩
  ·rw[if_neg hy]at h
   obtain⟨j,w,e1,e2,e3,e4⟩:=(E.same s12).get y e o h
   refine⟨j,w,e1,e2,e3,e4.mono (st fun p=>?_)⟩
   cases o with
   | true=>have:=p.2;rw[ho]at this;cases this;exact hy rfl
   | false=>have:=p rfl;rw[ho]at this;cases this
 ·by_cases hz:b=a
  ·subst hz;exact⟨_,aC⟩
  ·rw[aq hz];exact(E.same s12).own b hb
 ·rw[aq (fun z=>by
   subst z
   rw[ha]at h;cases h
   rcases c with c|c
   ·exact c
   ·rw[ho]at c;cases c)]
  exact s12 b o h
theorem wT:ny "append" mN:=fun X hc=>⟨"list.append", _,PySem.F.slot_list_append,PySem.F.type_list_append,iK,fun ow H0 H l ds l' j o a vs ws h hp=>by
 unfold mN at h
 split at h
 ·rename_i d
  cases h
  have c:=hp.1
  refine⟨by simp,fun P Q hP oi sm ha rl rd q=>?_⟩
  obtain⟨w,rfl,rw'⟩:=rd.only
  refine⟨a,vs,w,rfl,rfl,ha,?_,q _ _ (rl.append (ah.one ?_))⟩
  ·rw[<- rl.length];exact Nat.lt_trans hp.2.1 kZ
  ·rcases c with c|c
   ·exact rw'.flat _ c
   ·subst c;exact rw'.imp hP
 ·cases h⟩
theorem wS:ny "extend" p9:=fun X hc=>⟨"list.extend", _,PySem.F.slot_list_extend,PySem.F.type_list_extend,yp,fun ow H0 H l ds l' j o a vs ws h hp=>by
 unfold p9 at h
 split at h
 ·rename_i d
  cases h
  refine⟨by simp,fun P Q hP oi sm ha rl rd q=>?_⟩
  obtain⟨w,rfl,rw'⟩:=rd.only
  rw[ae]at rw'
  obtain⟨b,zs,bb,rfl,hb,pb,rz⟩:=rw'
  have hbb:bb=true:=pb.1
  subst hbb
  refine⟨a,b,vs,zs,rfl,rfl,ha,hb,?_,q _ _ (rl.append (rz.imp hP))⟩
  rw[<- rl.length,<- rz.length];exact QR hp.1 (RZ kZ)
 ·cases h⟩
variable{X:Cx}
theorem oh(x:Str)(E:aH X ow H σ ρ):∃ow',aH X ow' H σ (demX x ρ)/\aG ow H ow' H:=by
 classical
 unfold demX
 let ow':Ow:=fun a=>if ow a=some (some x)then none else ow a
 have o1:∀a,ow a=none->ow' a=none:=fun a h=>by show(if _ then _ else _)=_;split;rfl;exact h
 refine⟨ow',⟨fun y e o h=>?_,fun a ha=>?_⟩,fun a o h _=>h,fun a o h z=>o1 a z⟩
 ·by_cases hy:y=x
  ·subst hy
   simp only[if_true]at h
   cases hd:ρ y with
   | none=>rw[hd]at h;cases h
   | some q =>
    obtain⟨d,o'⟩:=q
    rw[hd]at h
    cases h
    obtain⟨j,w,e1,e2,e3,e4⟩:=E.get y _ _ hd
    refine⟨j,w,e1,e2,e3,e4.imp fun a b p z=>?_⟩
    cases o' with
    | true=>exact if_pos p.2
    | false=>exact o1 a (p z)
  ·simp only[if_neg hy]at h
   obtain⟨j,w,e1,e2,e3,e4⟩:=E.get y e o h
   refine⟨j,w,e1,e2,e3,e4.imp fun a b p=>?_⟩
   cases o with
   | true=>exact⟨p.1,by show(if _ then _ else _)=_;rw[if_neg (fun z=>by rw[p.2]at z;cases z;exact hy rfl)];exact p.2⟩
   | false=>exact fun z=>o1 a (p z)
 ·refine E.own a fun z=>ha (o1 a z)
theorem Fi(x:Str)(ρ:ac):demA x ρ=ρ\/demA x ρ=demX x ρ:=by
 cases h:ρ x with
 | none=>exact .inl (funext fun y=>by unfold demA;split;(rename_i e;subst e;rw[h];rfl);rfl)
 | some p =>
  cases hl:p.1.lless with
  | true=>exact .inl (funext fun y=>by unfold demA;split;(rename_i e;subst e;rw[h];show some (p.1,p.2&&p.1.lless)=_;rw[hl,Bool.and_true]);rfl)
  | false=>exact .inr (funext fun y=>by unfold demA demX;split;(rename_i e;subst e;rw[h];show some (p.1,p.2&&p.1.lless)=_;rw[hl,Bool.and_false];rfl);rfl)
theorem jS:∀{es:List Expr} {ow:Ow} {H:Hp} {σ:L2.St} {ρ:ac},aH X ow H σ ρ->∃ow',aH X ow' H σ (demL es ρ)/\aG ow H ow' H
 | [],ow,H,σ,ρ,E=>⟨ow,E,aG.refl _ _⟩
 | e::es,ow,H,σ,ρ,E=>by
  have one:∀x,∃ow',aH X ow' H σ (demL es (demA x ρ))/\aG ow H ow' H:=fun x=>by
   rcases Fi x ρ with h|h
   ·rw[h];exact jS E
   ·rw[h]
    obtain⟨ow1,E1,k1⟩:=oh x E
    obtain⟨ow2,E2,k2⟩:=jS (es:=es) E1
    exact⟨ow2,E2,k1.trans k2⟩
  unfold demL
  split
  ·rename_i z;cases z
  ·rename_i z;cases z;exact one _
  ·rename_i z;cases z;exact one _
  ·rename_i z;cases z;exact jS E
theorem pk(E:aH X ow H σ ρ):∃ow',aH X ow' H σ (demote e ρ)/\aG ow H ow' H:=by
 unfold demote
 split
 ·exact oh _ E
 ·exact oh _ E
 ·exact jS E
 ·exact⟨ow,E,aG.refl _ _⟩
noncomputable def aa{α:Type}(r:Rs α)(a:α):Prop:=∃l,r=.ok a l/\aB l
theorem ar{r:Rs α}{f:α->Rs β}{b:β}(h:aa (r.bnd f) b):∃a,aa r a/\aa (f a) b:=by
 obtain⟨l,h,hp⟩:=h
 obtain⟨a,l1,l2,h1,p1,h2,p2⟩:=aR h hp
 exact⟨a,⟨l1,h1,p1⟩,l2,h2,p2⟩
theorem am{a:α}(h:aa (.st) a):False:=by obtain⟨l,h,_⟩:=h;cases h
theorem aJ{a b:α}{l:List Prop}(h:aa (.ok a l) b):a=b:=by obtain⟨m,h,_⟩:=h;cases h;rfl
theorem Gz{H0:Hp}{bind:D->ac->Option ac}(hp:PassesOwn (model X.prog X.w) X.A X.env X.xe)(hcalm:X.calm=true)
  (hi:IE X (demote iter ρ) tg iter ds k) (hk:k<=1) (hg:∀d ρ ρ',bind d ρ=some ρ'->GD X ρ tg d ρ') (hb:∀ρ fl,aa (bodyF ρ) fl->dh X H0 ρ body fl) (h:aa (fc bind bodyF ds (demote iter ρ)) fl)
  (hs:∀x,foldedSetIterable iter X.env x=pure x):SD X H0 ρ (.For tg iter body [] pos) fl:=by
 intro pins s σ H D0 I ⟨ow0,E0,hl,B0,q0⟩
 obtain⟨ow,E,k0⟩:=pk (e:=iter) E0
 have B:=B0.keep k0
 have q:=q0.keep k0
 have pb:dZ X body (fun D σ H => ∃ρ fl,aa (bodyF ρ) fl/\xL X H0 ρ fl D σ H):=fun pins s σ H D I ⟨ρ1,fl1,h1,h2⟩=>hb ρ1 fl1 h1 pins s σ H D I h2
 have pg:PG X tg (fun v σ H Q => ∃g:TG,PG X tg g/\g v σ H Q):=fun pins s σ H v u Q I r ⟨g,h1,h2⟩=>h1 pins s σ H v u Q I r h2
 refine sE hp hcalm (hi ow) pg pb hs pins s σ H D0 I ⟨E,fun J H1 s1 itd=>?_⟩
 refine⟨fun i m σ' H'=>m=ds.length-i/\i<=ds.length/\∃ow' ρ',aH X ow' H' σ' ρ'/\σ'.length=X.N.length/\cj H0 ow' H'/\aG ow H1 ow' H'/\aa (fc bind bodyF (ds.drop i) ρ') fl,
  ⟨ds.length,by simp,QN _,ow,_,E.same s1,hl,B.keep (aG.same s1),aG.refl _ _,h⟩,?_⟩
 rintro i m σ' H' ⟨rfl,hile,ow',ρ',E',hl',B',k',hf⟩
 have q':jW X H0 ow' H' fl D0:=q.keep ((aG.same s1).trans k')
 have st:dJ (Kd ow H k H1) (Kd ow H k H1) H1 H':=⟨fun a o ha hn=>k'.keep a o ha (.inl hn),fun a vs ha p=>k'.keep a _ ha (.inr (eQ E.own hk p.1)),fun _ _ _ p=>p,fun _ p=>p⟩
 have it:=itd i H' st
 by_cases hlt:i<ds.length
 ·obtain⟨go,yl⟩:=it.1 ds[i] (QS hlt)
  have hdrop:ds.drop i=ds[i]::ds.drop (i+1):=RL hlt
  rw[hdrop,fc]at hf
  refine .inr ⟨go,fun σ2 H2=>i+1<=ds.length/\∃ow2 ρ2,aH X ow2 H2 σ2 ρ2/\σ2.length=X.N.length/\cj H0 ow2 H2/\aG ow H1 ow2 H2/\aa (fc bind bodyF (ds.drop (i+1)) ρ2) fl,fun σ2 H2 n=>⟨ds.length-(i+1),by omega,rfl,n.1,n.2⟩,fun x H3 y3=>?_⟩
  obtain⟨sm3,rx⟩:=yl x H3 y3
  cases hbd:bind ds[i] ρ' with
  | none=>rw[hbd]at hf;exact(am hf).elim
  | some ρ1 =>
   rw[hbd]at hf
   dsimp only at hf
   obtain⟨g,g1,g2⟩:=hg _ _ _ hbd
   have rx':ae X.K H3 (fun a b=>b=true->ow' a=none) ds[i] x:=rx.impH (fun a o ha p _=>by
    obtain⟨o1,h1⟩:=p.2 rfl
    exact k'.low a o1 h1 (eQ E.own hk p.1)) fun a _ z=>(by cases z)
   refine⟨g,g1,g2 ow' x σ' H3 _ hl' (E'.same sm3) rx' fun σ2 hl2 E2=>?_⟩
   have k3:aG ow' H' ow' H3:=aG.same sm3
   obtain⟨f1,hbo,hf⟩:=ar hf
   refine⟨ρ1,f1,hbo,ow',E2,hl2,B'.keep k3,?_⟩
   cases f1 with
   | nx ρ2=>exact fun ow2 σ3 H4 a b c=>⟨hlt,ow2,ρ2,a,b,(B'.keep k3).keep c,k'.trans (k3.trans c),hf⟩
   | ct ρ2=>exact fun ow2 σ3 H4 a b c=>⟨hlt,ow2,ρ2,a,b,(B'.keep k3).keep c,k'.trans (k3.trans c),hf⟩
   | bk ρ2=>cases aJ hf;exact fun ow2 σ3 H4 a b c=>q' ow2 σ3 H4 a b (k3.trans c)
   | rt d=>cases aJ hf;exact q'
 ·have ei:i=ds.length:=by omega
  subst ei
  rw[List.drop_length,fc]at hf
  cases aJ hf
  exact .inl ⟨it.2 (QA _),q' ow' σ' H' E' hl' (aG.refl _ _)⟩
theorem AO{H0:Hp}{test:ac->Rs Bool}(hp:PassesOwn (model X.prog X.w) X.A X.env X.xe)
  (hc:∀ρ b,aa (test ρ) b->TD X ρ c b) (hb:∀ρ fl,aa (bodyF ρ) fl->dh X H0 ρ body fl) {n0:Nat} {ρ0:ac} (h:aa (qD test bodyF n0 ρ0) fl):SD X H0 ρ0 (.While c body [] pos) fl:=by
 intro pins s σ H D0 I ⟨ow,E,hl,B,q⟩
 have pc:PT X c (fun σ H Q => ∃ow ρ b,aa (test ρ) b/\Ce X ow ρ b σ H Q):=fun pins s σ H Q I ⟨ow,ρ,b,h1,h2⟩=>hc ρ b h1 ow pins s σ H Q I h2
 have pb:dZ X body (fun D σ H => ∃ρ fl,aa (bodyF ρ) fl/\xL X H0 ρ fl D σ H):=fun pins s σ H D I ⟨ρ1,fl1,h1,h2⟩=>hb ρ1 fl1 h1 pins s σ H D I h2
 refine AX hp pc pb pins s σ H D0 I ?_
 refine⟨fun m σ' H' => ∃ow' ρ',aH X ow' H' σ' ρ'/\σ'.length=X.N.length/\cj H0 ow' H'/\aG ow H ow' H'/\aa (qD test bodyF m ρ') fl,⟨n0,ow,ρ0,E,hl,B,aG.refl _ _,h⟩,?_⟩
 rintro m σ' H' ⟨ow',ρ',E',hl',B',k',hw⟩
 have q':jW X H0 ow' H' fl D0:=q.keep k'
 cases m with
 | zero=>exact(am hw).elim
 | succ m =>
  rw[qD]at hw
  obtain⟨b,ht,hw⟩:=ar hw
  refine⟨ow',ρ',b,ht,E',fun H1 s1=>?_⟩
  have k1:aG ow' H' ow' H1:=aG.same s1
  cases b with
  | false =>
   cases aJ hw
   exact q' ow' σ' H1 (E'.same s1) hl' k1
  | true =>
   rw[cond_true]at hw
   show if true=true then _ else _
   rw[if_pos rfl]
   refine⟨fun σ2 H2 => ∃ow2 ρ2,aH X ow2 H2 σ2 ρ2/\σ2.length=X.N.length/\cj H0 ow2 H2/\aG ow H ow2 H2/\aa (qD test bodyF m ρ2) fl,fun σ2 H2 z=>⟨m,Rk _,z⟩,?_⟩
   obtain⟨f1,hbo,hw⟩:=ar hw
   refine⟨ρ',f1,hbo,ow',E'.same s1,hl',B'.keep k1,?_⟩
   cases f1 with
   | nx ρ2=>exact fun ow2 σ3 H4 a b c=>⟨ow2,ρ2,a,b,(B'.keep k1).keep c,k'.trans (k1.trans c),hw⟩
   | ct ρ2=>exact fun ow2 σ3 H4 a b c=>⟨ow2,ρ2,a,b,(B'.keep k1).keep c,k'.trans (k1.trans c),hw⟩
   | bk ρ2=>cases aJ hw;exact fun ow2 σ3 H4 a b c=>q' ow2 σ3 H4 a b (k1.trans c)
   | rt d=>cases aJ hw;exact q'
theorem dz{p:D×Nat}(h:aa (av Φ e it sc ρ) p)(G:aK Φ X sc):fR X ρ e it p.1 p.2:=let ⟨_,h,hp⟩:=h;KU e h hp G
theorem yV(h:jo e=true):(∃a b c d,e=.ListComp a b c d)\/∀(Φ:Fx) (sc:Scope) (ρ:ac),av Φ e false sc ρ=.st:=by
 cases e<;>first|exact .inl ⟨_,_,_,_,rfl⟩|exact .inr fun _ _ _=>rfl|cases h
theorem qK{H0:Hp}{r:D×Nat}{o:Bool}(G:aK Φ X sc)(hx:cq sc x=true)(h:aa (av Φ e false sc ρ) r)(ho:(r.2=0/\o=true)\/(r.2=1/\o=false)) :
  SD X H0 ρ (.Assign [.Name x p] e pos) (.nx (aI ρ x (r.1,o))):=by
 by_cases hc:jo e=true
 ·rcases yV hc with⟨elt,gens,scope,q,rfl⟩|hno
  rotate_left
  ·rw[hno]at h;exact(am h).elim
  ·clear hc
   have hsw:∃b,swapsWith (.ListComp elt gens scope q) (some (.Name x p)) pos.line X.env=pure b:=⟨_,rfl⟩
   obtain⟨b,hsw⟩:=hsw
   cases b with
   | false=>exact si G hx ((dz h G).ed rfl) ho hsw
   | true =>
    obtain⟨l,h,hp⟩:=h
    obtain⟨tg,iter,ifs,rfl⟩:=qe h
    obtain⟨ds,f,k1,a1,a2,a3,a4,a5,a6,a7,a8,a9⟩:=ve (ic Φ _) (Rk _) h hp G
    obtain⟨g1,g2,g3,i,g4⟩:=ff G hx
    rw[a9]
    intro pins s σ H D0 I ⟨ow,E,hl,B,q⟩
    refine D1 (D0:=D0) (i:=i) G.calm G.nd a1 a2 a3 a4 a5 a6 a7 a8 I E hsw g4 g1 g3 fun v H1 s1 r1=>?_
    rcases ho with⟨ho,rfl⟩|⟨ho,rfl⟩<;>rw[ho]at r1
    ·obtain⟨ow',E',k'⟩:=qk G.nd hl E s1 g4 g2 r1
     exact q ow' _ H1 E' (by rw[Rt];exact hl) k'
    ·exact q ow _ H1 (d7 G.nd hl (E.same s1) g4 g2 r1) (by rw[Rt];exact hl) (aG.same s1)
 ·exact si G hx ((dz h G).ed rfl) ho (iR (by simpa using hc))
theorem nK{r:D×Nat}(h:aa (av Φ e it sc ρ) r):∀a b c p,e ≠ .Slice a b c p:=by
 intro a b c p z;subst z;exact(am h).elim
theorem sJ{f:List D->Rs Fl}(h:aa (pX ρ x f) fl):∃l,ρ x=some (.lst l,true)/\dw x=true/\aa (f l) fl:=by
 unfold pX at h
 split at h
 ·rename_i l e
  split at h
  ·rename_i c
   exact⟨l,e,c,h⟩
  ·exact(am h).elim
 ·exact(am h).elim
theorem bN{a b:α}{l:List Prop}(h:aa (.ok a l) b):a=b/\aB l:=by obtain⟨m,h,hp⟩:=h;cases h;exact⟨rfl,hp⟩
theorem rV{i:D}(h:aa (rW ρ x i d) fl):(∃l j l',ρ x=some (.lst l,true)/\ao l=true/\dw x=true/\i=.int j/\wx l j d=some l'/\d.lless=true/\fl=.nx (aI ρ x (.lst l',true)))\/∃ks ds k,ρ x=some (.dct ks ds,true)/\le i=some k/\dw x=true/\d.lless=true/\ks.length<bJ/\fl=.nx (aI ρ x (.dct (jT ks k) (ej ks ds k d),true)):=by
 unfold rW at h
 split at h
 ·rename_i l e
  split at h
  ·split at h
   ·rename_i hn
    split at h
    ·rename_i l' hs
     obtain⟨h9,h1,h2,_⟩:=bN h
     exact .inl ⟨l,_,l',e,h1,hn,rfl,hs,h2,h9.symm⟩
    ·exact(am h).elim
   ·exact(am h).elim
  ·exact(am h).elim
 ·rename_i ks ds e
  split at h
  ·rename_i k hk
   split at h
   ·rename_i hn
    obtain⟨h9,h1,h2,_⟩:=bN h
    exact .inr ⟨ks,ds,k,e,hk,hn,h1,h2,h9.symm⟩
   ·exact(am h).elim
  ·exact(am h).elim
 ·exact(am h).elim
theorem GY{H0:Hp}(h:aa (rD Φ es e sc ρ) fl)(G:aK Φ X sc):SD X H0 ρ (.Assign [.Tuple es n p] e pos) fl:=by
 unfold rD at h
 split at h
 ·split at h
  ·rename_i hp
   obtain⟨q,⟨lq,h1,hq⟩,h⟩:=ar h
   split at h
   ·rename_i u v hd
    split at h
    ·rename_i hf
     cases aJ h
     obtain⟨n1,_⟩:=fg h1 hq
     have c:=tR _ h1 hq G
     rw[hd]at c
     exact Gx G c hf hp (n1 _ (by simp)) (n1 _ (by simp))
    ·exact(am h).elim
   ·exact(am h).elim
  ·exact(am h).elim
 ·exact(am h).elim
theorem Jt{H0:Hp}(h:aa (pi Φ tgs e sc ρ) fl)(G:aK Φ X sc):SD X H0 ρ (.Assign tgs e pos) fl:=by
 unfold pi at h
 split at h
 ·obtain⟨p,h1,h⟩:=ar h
  unfold pT at h
  split at h
  ·rename_i hx
   split at h
   ·rename_i ho;cases aJ h;exact qK G hx h1 (.inl ⟨ho,rfl⟩)
   ·rename_i ho;cases aJ h;exact qK G hx h1 (.inr ⟨ho,rfl⟩)
   ·exact(am h).elim
  ·exact(am h).elim
 ·split at h
  ·exact GY h G
  ·rename_i ht
   have ht:=SG.mpr ht
   obtain⟨p,h1,h⟩:=ar h
   split at h
   ·rename_i ho
    cases aJ h
    exact DI G ((dz h1 G).ed rfl) ho ht
   split at h
   ·rename_i ds hd
    split at h
    ·rename_i hf
     split at h
     ·rename_i ρ' hb
      cases aJ h
      exact Gw G ((dz h1 G).ed rfl) hd hf hb ht
     ·exact(am h).elim
    ·exact(am h).elim
   ·exact(am h).elim
 ·split at h
  ·rename_i hc
   obtain⟨p,h1,h⟩:=ar h
   obtain⟨q,h2,h⟩:=ar h
   have c2:=(dz h2 G).ed rfl
   rcases rV h with⟨l,j,l',a1,a2,a3,hj,hs,hf,rfl⟩|⟨ks,ds,k,a1,hk,a3,hf,hz,rfl⟩
   ·rw[hj]at c2
    exact AQ a1 ((dz h1 G).ed rfl) c2 a2 hf a3 hs (nK h2)
   ·exact DK a1 ((dz h1 G).ed rfl) c2 hk hf hz a3 (nK h2)
  ·exact(am h).elim
 ·exact(am h).elim
theorem HX{H0:Hp}(h:aa (ph Φ e sc ρ) fl)(G:aK Φ X sc):SD X H0 ρ (.Expr e pos) fl:=by
 unfold ph at h
 split at h
 ·split at h
  ·rename_i hln
   obtain⟨p,⟨lp,h1,hp1⟩,h⟩:=ar h
   split at h
   ·rename_i M hM
    obtain⟨l,a1,a3,h⟩:=sJ h
    obtain⟨l',⟨o,h2,hp2⟩,h⟩:=ar h
    cases aJ h
    obtain⟨n1,n2⟩:=fg h1 hp1
    exact Gy G.calm (G.mtt _ M hM) a1 (tR _ h1 hp1 G) n1 n2 a3 hln h2 hp2
   ·exact(am h).elim
  ·exact(am h).elim
 ·obtain⟨p,h1,h⟩:=ar h
  cases aJ h
  exact DJ ((dz h1 G).ed rfl) ⟨_,_,_,_,_,rfl⟩
 ·exact(am h).elim
structure Is(Φ:Fx)(n:Nat):Prop where
 s:∀(st:Stmt) {sc:Scope} {ρ:ac} {fl:Fl} {X:Cx} {H0:Hp},sizeOf st<n->aa (e8 Φ st sc ρ) fl->aK Φ X sc->PassesOwn (model X.prog X.w) X.A X.env X.xe->SD X H0 ρ st fl
 ss:∀(st:List Stmt) {sc:Scope} {ρ:ac} {fl:Fl} {X:Cx} {H0:Hp},sizeOf st<n->aa (az Φ st sc ρ) fl->aK Φ X sc->PassesOwn (model X.prog X.w) X.A X.env X.xe->dh X H0 ρ st fl
theorem je{p:D×Nat}{f:Bool->Rs α}{a:α}(h:aa (lE p f) a):∃b,p.1=.bl b/\aa (f b) a:=by
 obtain⟨l,h,hp⟩:=h
 obtain⟨b,h1,h2⟩:=nk h
 exact⟨b,h1,l,h2,hp⟩
theorem KS(I:Is Φ n)(st:Stmt){H0:Hp}(hs:sizeOf st<n+1)(h:aa (e8 Φ st sc ρ) fl)(G:aK Φ X sc)(hp:PassesOwn (model X.prog X.w) X.A X.env X.xe):SD X H0 ρ st fl:=by
 cases st with
 | Return e p =>
  cases e with
  | none=>cases aJ h;exact DF
  | some e =>
   obtain⟨p,h1,h⟩:=ar (show aa (Rs.bnd _ _) fl from h)
   unfold wy at h
   split at h
   ·rename_i hk
    cases aJ h
    unfold sr at h1
    cases hn:rq e with
    | true=>rw[hn]at h1;exact DG ((dz h1 G).ed rfl) hk
    | false=>rw[hn]at h1;exact xV ((dz h1 G).ed rfl) hk
   ·exact(am h).elim
 | Pass p=>cases aJ h;exact DH
 | Break p=>cases aJ h;exact AR
 | Continue p=>cases aJ h;exact DN
 | Assign tgs e p=>exact Jt h G
 | AugAssign t op e p=>exact(am h).elim
 | Expr e p=>exact HX h G
 | If c a b p =>
  obtain⟨p,h1,h⟩:=ar (show aa (Rs.bnd _ _) fl from h)
  obtain⟨t,ht,h⟩:=je h
  refine Kk ((dz h1 G).td rfl t ht) ?_
  cases t with
  | true=>rw[if_pos rfl];exact I.ss _ (be (by simp<;>omega) hs) h G hp
  | false=>rw[if_neg QT];exact I.ss _ (be (by simp<;>omega) hs) h G hp
 | For tg it body els p =>
  rw[qh]at h
  split at h
  ·rename_i he
   have he:=List.isEmpty_iff.mp he
   subst he
   obtain⟨p,h1,h⟩:=ar h
   split at h
   ·rename_i ds hd
    split at h
    ·rename_i hk
     obtain⟨lq,h1',_⟩:=id h1
     exact Gz hp G.calm ((dz h1 G).ie rfl _ ds hd hk.2) hk.1 (fun d ρ ρ' hb=>rC G hb) (fun ρ1 f1 h2=>I.ss _ (be (by simp<;>omega) hs) h2 G hp) h (qR h1')
    ·exact(am h).elim
   ·exact(am h).elim
  ·exact(am h).elim
 | While c body els p =>
  rw[zg]at h
  split at h
  ·rename_i he
   have he:=List.isEmpty_iff.mp he
   subst he
   refine AO hp (fun ρ b hb=>?_) (fun ρ1 f1 h2=>I.ss _ (be (by simp<;>omega) hs) h2 G hp) h
   obtain⟨p,h1,hb⟩:=ar hb
   obtain⟨t,ht,hb⟩:=je hb
   cases aJ hb
   exact(dz h1 G).td rfl _ ht
  ·exact(am h).elim
 | _=>exact(am h).elim
theorem HW(I:Is Φ n)(ss:List Stmt){H0:Hp}(hs:sizeOf ss<n+1)(h:aa (az Φ ss sc ρ) fl)(G:aK Φ X sc)(hp:PassesOwn (model X.prog X.w) X.A X.env X.xe):dh X H0 ρ ss fl:=by
 cases ss with
 | nil=>cases aJ h;exact vh
 | cons s ss =>
  obtain⟨f1,h1,h⟩:=ar (show aa (Rs.bnd _ _) fl from h)
  have c:=I.s s (H0:=H0) (be (by simp<;>omega) hs) h1 G hp
  cases f1 with
  | nx ρ'=>exact fX c (I.ss ss (be (by simp<;>omega) hs) h G hp)
  | bk ρ'=>cases aJ h;exact jF c (fun _ z=>(by cases z))
  | ct ρ'=>cases aJ h;exact jF c (fun _ z=>(by cases z))
  | rt d=>cases aJ h;exact jF c (fun _ z=>(by cases z))
theorem o0(Φ:Fx):∀n,Is Φ n
 | 0=>⟨fun _ _ _ _ _ _ h=>absurd h (RA _),fun _ _ _ _ _ _ h=>absurd h (RA _)⟩
 | n+1=>⟨fun e _ _ _ _ _ hs h G hp=>KS (o0 Φ n) e hs h G hp,fun e _ _ _ _ _ hs h G hp=>HW (o0 Φ n) e hs h G hp⟩
theorem lr(ss:List Stmt){H0:Hp}(h:aa (az Φ ss sc ρ) fl)(G:aK Φ X sc)(hp:PassesOwn (model X.prog X.w) X.A X.env X.xe):dh X H0 ρ ss fl:=(o0 Φ _).ss ss (Rk _) h G hp
noncomputable def aE(sc:Scope):List Str:=(sc.names.filter fun y=>y.2 == .local || y.2 == .cell).map (·.1)
noncomputable def cS(P:Program)(w:World)(K:W.Frag)(mg:Str->Option Value)(base:Heap)(k:Nat)(g:Str)(F:List D->Rs D):Prop :=
 ∃f fd ps,cQ P w K mg base gG k f fd ps (kD K F)/\mg g=some (.ref f)/\W.keepIn K (.ref f)=true/\dj K fd ps []/\(g==("__debug__" : Str))=false
theorem cS.mono{P:Program}(h:cS P w K mg base j g F)(hjk:j<=k):cS P w K mg base k g F :=
 let ⟨f,fd,ps,h1,h2⟩:=h;⟨f,fd,ps,h1.mono hjk,h2⟩
noncomputable def Di(P:Program)(w:World)(K:W.Frag)(mg:Str->Option Value)(base:Heap)(k:Nat)(g:Str)(F:List D->Rs D):Prop :=
 ∃j C f fd ps,j+1<=k/\(∀ds r l,F ds=.ok r l->r.lless=true)/\Mk K C f/\cQ P w K mg base gG j f fd ps (Ll K g F)/\mg g=some (.ref C)/\W.nsIn K mainGlobals g=some (some (.ref C))/\fS K C/\dj K fd ps []/\(g==("__debug__" : Str))=false
theorem Di.mono{P:Program}(h:Di P w K mg base j g F)(hjk:j<=k):Di P w K mg base k g F :=
 let ⟨i,C,f,fd,ps,h0,h1⟩:=h;⟨i,C,f,fd,ps,QR h0 hjk,h1⟩
noncomputable def LA(P:Program)(w:World)(K:W.Frag)(mg:Str->Option Value)(base:Heap)(k:Nat)(g:Str)(F:List D->Rs D):Prop:=cS P w K mg base k g F\/Di P w K mg base k g F
noncomputable def rG(P:Program)(w:World)(K:W.Frag)(mg:Str->Option Value)(base:Heap)(k:Nat)(n m:Str)(F:List D->Rs D):Prop :=
 ∃C f fd ps,W.nsIn K mainGlobals n=some (some (.ref C))/\fS K C/\JN K C m f/\cQ P w K mg base gG k f fd ps (kD K F)/\dj K fd ps []
theorem rG.mono{P:Program}{n:Str}(h:rG P w K mg base j n m F)(hjk:j<=k):rG P w K mg base k n m F :=
 let ⟨C,f,fd,ps,h1,h2,h3,h4,h5⟩:=h;⟨C,f,fd,ps,h1,h2,h3,h4.mono hjk,h5⟩
theorem ul:∀{ps:List Str} {ds:List D} {x:Str} {d:D} {o:Bool},gI ps ds x=some (d,o)->o=false/\∃i:Nat,ps[i]?=some x/\ds[i]?=some d
 | [],ds,x,d,o,h=>by cases ds<;>cases h
 | p::ps,[],x,d,o,h=>by cases h
 | p::ps,y::ds,x,d,o,h=>by
  replace h:(if x=p then some (y,false)else gI ps ds x)=some (d,o):=h
  by_cases e:x=p
  ·rw[if_pos e]at h
   cases h;subst e;exact⟨rfl,0,rfl,rfl⟩
  ·rw[if_neg e]at h
   obtain⟨h1,i,h2,h3⟩:=ul h
   exact⟨h1,i+1,by simpa using h2,by simpa using h3⟩
structure Aq(P:Program)(w:World)(K:W.Frag)(mg:Str->Option Value)(base:Heap)(k:Nat)(Φ:Fx):Prop where
 fn:∀g F,Φ.fn g=some F->LA P w K mg base k g F
 con:∀x d,Φ.con x=some d->∃v u,mg x=some u/\aO v u/\∀H P,ae K H P d v
 blt:∀f B,Φ.blt f=some B->gT f B
 itr:∀f B,Φ.itr f=some B->jX f B
 mth:∀m M,Φ.mth m=some M->xy m M
 mtt:∀m M,Φ.mtt m=some M->ny m M
 slf:rF Φ.slf
 fld:∀n f,Φ.fld n f=true->∀C,W.nsIn K mainGlobals n=some (some (.ref C))->uG K C f
 omt:∀n m F,Φ.omt n m=some F->rG P w K mg base k n m F
 bl:∀n∈io,mg n=none
noncomputable def oz(Φ:Fx)(sc:Scope)(ps:List Str)(body:List Stmt)(F:List D->Rs D):Prop:=∀ds r,aa (F ds) r->aa (cu Φ sc ps body ds) r
theorem oz.self:oz Φ sc ps body (cu Φ sc ps body):=fun _ _ h=>h
theorem vT{P:Program}{f:Addr}{E:XK}
  (S:aS (aE (ab st)) ps (ab st)) (hΦ:Aq P w K mg base k Φ) (hr:bZ k (A.deeper (envOfC qual (ab st) s.heap.objs.size f cdv))) :
  aK Φ (lu gG P w K mg base (aE (ab st)) qual (ab st) f cdv A outer s H E).nox (ab st):=by
 have hun:=hr.un
 refine⟨rfl,S.nd,fun x hx=>hx,fun x hx=>hx,fun x hx=>hx,fun x hx=>hx,fun g' F' hg=>?_,hΦ.con,hΦ.blt,hΦ.itr,hΦ.mth,hΦ.mtt,hΦ.slf,hΦ.fld,fun n m F hF=>?_,hΦ.bl,?_,fun x hx=>?_,fun x _=>rfl⟩
 ·rcases hΦ.fn g' F' hg with z|z
  ·obtain⟨f',fd',ps',a1,a2,a3,a4,a5⟩:=z
   exact .inl ⟨k,f',fd',ps',a1,hr,a2,a3,a4,a5⟩
  ·obtain⟨j,C,f',fd',ps',a0,a1,a2,a3,a4⟩:=z
   exact .inr ⟨j,C,f',fd',ps',a1,a2,a3,hr.mono a0,a4⟩
 ·obtain⟨C,f',fd',ps',a1,a2,a3,a4,a5⟩:=hΦ.omt n m F hF
  exact⟨k,C,f',fd',ps',a1,a2,a3,a4,hr,a5⟩
 ·show(A.deeper _).units+70<cLine
  omega
 ·show x∈aE (ab st)
  unfold aE
  unfold cq at hx
  rw[SU]at hx
  rcases hx with hx|hx
  ·have hx:(ab st).names.lookup x=some .local:=by simpa using hx
   exact QW.mpr ⟨(x,.local),Rz.mpr ⟨Q4 hx,by simp⟩,rfl⟩
  ·have hx:(ab st).names.lookup x=some .cell:=by simpa using hx
   exact QW.mpr ⟨(x,.cell),Rz.mpr ⟨Q4 hx,by simp⟩,rfl⟩
theorem zk{P:Program}{f:Addr}{E:XK}
  (S:aS (aE (ab st)) ps (ab st)) (h1:ah K H (fun _ _=>True) ds vs) (hl:ds.length=ps.length) :
  aH (lu gG P w K mg base (aE (ab st)) qual (ab st) f cdv A outer s H E).nox (fun _=>none) H (start (aE (ab st)) vs) (gI ps ds)/\(start (aE (ab st)) vs).length=(aE (ab st)).length:=by
 have hpl:ps.length<=(aE (ab st)).length:=by have:=RC List.length S.pre;rw[Q1]at this;omega
 have hvl:vs.length=ps.length:=by rw[<- h1.length];exact hl
 refine⟨⟨fun x d o hx=>?_,fun a ha=>absurd rfl ha⟩,by unfold L2.start;rw[QH,QC,List.length_replicate];omega⟩
 obtain⟨rfl,i,i1,i2⟩:=ul hx
 obtain⟨v,i3,i4⟩:=h1.get i2
 have hi:i<ps.length:=(QO.mp i1).1
 refine⟨i,v,?_,?_,?_,i4.imp fun a b _ _=>rfl⟩
 ·show(aE (ab st))[i]?=some x
  rw[<- S.pre,List.getElem?_take_of_lt hi]at i1
  exact i1
 ·rcases S.par x (RF i1)with z|z
  ·exact .inl z
  ·exact .inr (.inl z)
 ·unfold L2.start
  rw[List.getElem?_append_left (by rw[QC];omega),Q7,i3];rfl
theorem EX{P:Program}{f:Addr}(Fn:re K g qual st f fd)
  (S:aS (aE (ab st)) ps (ab st)) (hΦ:Aq P w K mg base k Φ)
  (hrun:oz Φ (ab st) ps (ak st) F):cQ P w K mg base gG (k+1) f fd ps (kD K F):=by
 refine Fn.ok S (fun vs H Q E h=>?_) (fun cdv A outer s H vs Q E hr h=>?_)
 ·obtain⟨ds,r,l,h1,h2,hp,_⟩:=h
  have:=hrun ds r ⟨l,h2,hp⟩
  unfold cu at this
  split at this
  ·rename_i hl;rw[<- h1.length];exact hl
  ·exact(am this).elim
 ·obtain⟨ds,r,l,h1,h2,hp,q⟩:=h
  have hr1:=hrun ds r ⟨l,h2,hp⟩
  unfold cu at hr1
  split at hr1
  ·rename_i hl
   have G:=vT (outer:=outer) (H:=H) (E:=E) S hΦ hr
   obtain⟨E0,hsl⟩:=zk (P:=P) (w:=w) (mg:=mg) (base:=base) (qual:=qual) (f:=f) (cdv:=cdv) (A:=A) (outer:=outer) (s:=s) (E:=E) S h1 hl
   have B0:cj H (fun _=>none) H:=fun a o h=>⟨h,rfl⟩
   obtain⟨fl,hx,hr1⟩:=ar hr1
   cases fl with
   | rt d =>
    cases aJ hr1
    exact⟨_,lr _ (H0:=H) hx G PassesOwn.never,fun _=>none,E0,hsl,B0,fun v H' sm rp=>q v H' sm rp⟩
   | nx ρ' =>
    cases aJ hr1
    exact⟨_,lr _ (H0:=H) hx G PassesOwn.never,fun _=>none,E0,hsl,B0,fun ow' σ' H' _ _ kp=>q .non H' (fun a o h=>kp.keep a o h (.inr rfl)) (by rw[ae])⟩
   | bk ρ'=>exact(am hr1).elim
   | ct ρ'=>exact(am hr1).elim
  ·exact(am hr1).elim
mutual
noncomputable def D.noObj:D->Bool
 | .obj _ _ _=>false
 | .tup l=>jh l
 | .lst l=>jh l
 | .dct _ l=>jh l
 | _=>true
noncomputable def jh:List D->Bool
 | []=>true
 | d::l=>d.noObj&&jh l
end
mutual
theorem ae.off{K:W.Frag}{P:ba}{H H':Hp}{x C dx:Addr}{fs:List (Str×V)}(hx:H x=some (.ins C dx fs))(s:∀a o,a≠x->H a=some o->H' a=some o):∀{d:D} {v:V},d.noObj=true->ae K H P d v->ae K H' P d v
 | .non,v,_,h=>by rw[ae]at h⊢;exact h
 | .bl b,v,_,h=>by rw[ae]at h⊢;exact h
 | .int i,v,_,h=>by rw[ae]at h⊢;exact h
 | .str x,v,_,h=>by rw[ae]at h⊢;exact h
 | .dct ks es,v,f,h=>by
  rw[ae]at h⊢
  obtain⟨f0,e0,a,vs,e,h1,p,r⟩:=h
  exact⟨f0,e0,a,vs,e,s _ _ (gk h1 hx (fun z=>nomatch z)) h1,p,ah.off hx s (by rw[D.noObj]at f;exact f) r⟩
 | .typ n,v,_,h=>by rw[ae]at h⊢;exact h
 | .dcf ks es,v,f,h=>by
  rw[ae]at h⊢
  obtain⟨e0,a,o,vs,e,h1,r⟩:=h
  refine⟨e0,a,o,vs,e,s _ _ (gk h1 hx (fun z=>nomatch z)) h1,r.keep (fun a vs h=>?_) fun a o u z=>s _ _ (gk z hx (fun z=>nomatch z)) z⟩
  rcases h with(h|⟨o,h⟩)|h
  ·exact .inl (.inl (s _ _ (gk h hx (fun z=>nomatch z)) h))
  ·exact .inl (.inr ⟨o,s _ _ (gk h hx (fun z=>nomatch z)) h⟩)
  ·exact .inr h
 | .sn n,v,_,h=>by
  rw[ae]at h⊢
  obtain⟨a,S,e,h⟩:=h
  exact⟨a,S,e,s _ _ (gk h hx (fun z=>nomatch z)) h⟩
 | .obj n ns ds,v,f,h=>by rw[D.noObj]at f;cases f
 | .cls n,v,_,h=>by rw[ae]at h⊢;exact h
 | .tup l,v,f,h=>by
  rw[ae]at h⊢
  obtain⟨a,vs,e,h,r⟩:=h
  refine⟨a,vs,e,?_,ah.off hx s (by rw[D.noObj]at f;exact f) r⟩
  rcases h with(h|⟨o,h⟩)|h
  ·exact .inl (.inl (s _ _ (gk h hx (fun z=>nomatch z)) h))
  ·exact .inl (.inr ⟨o,s _ _ (gk h hx (fun z=>nomatch z)) h⟩)
  ·exact .inr h
 | .lst l,v,f,h=>by
  rw[ae]at h⊢
  obtain⟨a,vs,b,e,h,p,r⟩:=h
  refine⟨a,vs,b,e,?_,p,ah.off hx s (by rw[D.noObj]at f;exact f) r⟩
  cases b with
  | true=>exact s _ _ (gk h hx (fun z=>nomatch z)) h
  | false =>
   rcases h with⟨o,h⟩|h
   ·exact .inl ⟨o,s _ _ (gk h hx (fun z=>nomatch z)) h⟩
   ·exact .inr h
theorem ah.off{K:W.Frag}{P:ba}{H H':Hp}{x C dx:Addr}{fs:List (Str×V)}(hx:H x=some (.ins C dx fs))(s:∀a o,a≠x->H a=some o->H' a=some o):∀{l:List D} {vs:List V},jh l=true->ah K H P l vs->ah K H' P l vs
 | [],vs,_,h=>by rw[ah]at h⊢;exact h
 | d::l,vs,f,h=>by
  rw[ah]at h⊢
  rw[jh,QI]at f
  obtain⟨v,r,e,h1,h2⟩:=h
  exact⟨v,r,e,ae.off hx s f.1 h1,ah.off hx s f.2 h2⟩
end
theorem bO{P:Program}{f:Addr}(Fn:re K g qual st f fd)
  (S:aS (aE (ab st)) ps (ab st)) (hm:mg g=some (.ref f)) (hb:dj K fd ps []) (hd:(g==("__debug__" : Str))=false)
  (hΦ:Aq P w K mg base k Φ) (hrun:oz Φ (ab st) ps (ak st) F):cS P w K mg base (k+1) g F :=
 ⟨f,fd,ps,EX Fn S hΦ hrun,hm,Fn.kp,hb,hd⟩
theorem aY{Pr:α->Prop}{x:α}{l:List α}(h1:Pr x)(h2:∀y∈l,Pr y):∀y∈x::l,Pr y:=fun y hy=>(QD.mp hy).elim (fun e=>e ▸ h1) (h2 y)
theorem aA{Pr:α->Prop}:∀y∈([]:List α),Pr y:=fun y hy=>by cases hy
theorem HN{a:Addr}(hO:xw H)(hS:ci K H a (ns.map V.int))(h:aa (F [.lst (ns.map D.int)]) (.bl true)):kD K F [.ref a] H (fun v _=>v=.bl true) fun _ _ _=>False:=by
 obtain⟨l,h,hp⟩:=h
 refine⟨[.lst (ns.map D.int)],.bl true,l,ah.one ?_,h,hp,fun v H' _ r=>by rw[ae]at r;exact r⟩
 rw[ae]
 rcases hS with(hS|hS)|hS
 ·rcases hO a with z|⟨o,xs,z⟩
  ·rw[z]at hS;cases hS
  ·rw[z]at hS;cases hS
 ·exact⟨a,_,false,rfl,.inl hS,True.intro,ah.ofInts⟩
 ·exact⟨a,_,false,rfl,.inr hS,True.intro,ah.ofInts⟩
noncomputable abbrev Dk(P:Program)(w:World)(K:W.Frag)(mg:Str->Option Value)(base:Heap)(k:Nat):Str×(List D->Rs D)->Prop:=fun p=>LA P w K mg base k p.1 p.2
noncomputable abbrev i5(mg:Str->Option Value)(K:W.Frag):Str×D->Prop:=fun p => ∃v u,mg p.1=some u/\aO v u/\∀H P,ae K H P p.2 v
noncomputable abbrev oC:Str×(List D->R1)->Prop:=fun p=>gT p.1 p.2
noncomputable abbrev uI:Str×(List D->Nat->R1)->Prop:=fun p=>jX p.1 p.2
noncomputable abbrev JI:Str×(D->List D->R1)->Prop:=fun p=>xy p.1 p.2
noncomputable abbrev xx:Str×(List D->List D->Nat->Rs (List D))->Prop:=fun p=>ny p.1 p.2
theorem bA{P:Program}{l:List (Str×(List D->Rs D))}{c:List (Str×D)}{b:List (Str×(List D->R1))}{i:List (Str×(List D->Nat->R1))}{m:List (Str×(D->List D->R1))}{t:List (Str×(List D->List D->Nat->Rs (List D)))}{sf:D->Option Int->Option Int->R1}
  (hl:∀p∈l,Dk P w K mg base k p) (hc:∀p∈c,i5 mg K p) (hb:∀p∈b,oC p) (hi:∀p∈i,uI p) (hm:∀p∈m,JI p) (ht:∀p∈t,xx p) (hs:rF sf) (hn:∀n∈io,mg n=none):Aq P w K mg base k (Tb l c b i m t sf) :=
 ⟨fun g F h=>hl (g,F) (Q4 h),fun x d h=>hc (x,d) (Q4 h),fun f B h=>hb (f,B) (Q4 h),fun f B h=>hi (f,B) (Q4 h),fun f B h=>hm (f,B) (Q4 h),fun f B h=>ht (f,B) (Q4 h),hs,(fun _ _ h=>by cases h),(fun _ _ _ h=>by cases h),hn⟩
theorem jU{c:Addr}{ss:Array (Option Value)}{nn:Nat}{its:Array Value}(hm:mg x=some (.ref c))(hl:K.lookup c=some ⟨.type "tuple", none,.seq its nn,ss⟩)(hz:its.size<=sizeLine)(hv:aD (ns.map V.int) its.toList) :
  i5 mg K (x,.tup (ns.map .int)):=⟨.ref c,.ref c,hm,rfl,fun H P=>by rw[ae];exact⟨c,_,rfl,.inr ⟨_,its,nn,hl,rfl,rfl,rfl,hz,hv⟩,ah.ofInts⟩⟩
theorem qo{y:Int}{t:Tok}(hm:mg x=some (.int y t)):i5 mg K (x,.int y):=⟨.int y,.int y t,hm,⟨t,rfl⟩,fun H P=>by rw[ae]⟩
open AutoSeq1 (wpAny_loadPart')
section
variable{prog:Program}{w:World}{A:Around}{E:Value->Shared->Prop}{s:Shared}
theorem Dt{it:Addr}{vs:Array Value}{x:Value}(hIt:s.heap.IsTupleIter it tu i)(hT:s.heap.IsTuple tu vs)(hx:vs[i]?=some x)
  (go:∀h1,h1.IsTupleIter it tu (i+1)->Heap.SameBut it s.heap h1->Q x { s with heap:=h1 }):wpAny (model prog w) A (Builtin.SmallTypes.nextOf (.ref it)) Q E s:=by
 have key:=wpAny_pyNext_tuple_item (prog:=prog) (w:=w) (A:=A) (E:=E) (Q:=fun r s1 => ∃v,r=some v/\Q v s1) hIt hT hx (fun h1 a b=>⟨x,rfl,go h1 a b⟩)
 obtain⟨o,ho,hc,hd⟩:=id hIt
 obtain⟨ot,hot,_,nt,hdt⟩:=hT
 unfold Builtin.SmallTypes.nextOf
 refine Qx (wpAny_callSpecial?_slot (name:=Str.ofString "__next__") hIt.typeIs F.slot_tuple_iterator_next (SQ F.slot_tuple_iterator_next hIt.typeIs F.entry_tuple_iterator_next ?_ (F.args_tuple_iterator_next_1 _)))
 show wpAny _ _ (field (.ref it) 0 >>= _) _ _ s
 refine Qx (RV ho hd (x:=.ref tu) rfl ?_)
 show wpAny _ _ (if (Value.ref tu==Value.none)=true then _ else _) _ _ s
 rw[if_neg (show ¬ ((Value.ref tu==Value.none)=true)from QT)]
 show wpAny _ _ (field (.ref it) 1 >>= _) _ _ s
 refine Qx (RV ho hd (x:=Value.int (i:Int) 0) rfl ?_)
 show wpAny _ _ (seqItems? (.ref tu) >>= _) _ _ s
 refine Qx (RY hot hdt ?_)
 simp only[Int.toNat_natCast,hx]
 refine Qx (wpAny_setField ho hd (by simp) (QL ⟨x,rfl,QL (go _ ?_ (Heap.SameBut.update ..))⟩))
 refine⟨_,Heap.get?_update_self _ ho (Obj.isFreed_of_fields (Obj.data_mapFields hd _)),(Obj.cls_mapFields ..).trans hc,?_⟩
 rw[Obj.data_mapFields hd];simp[rawInt]
theorem FT{it:Addr}{vs:Array Value}(hh:A.handled=none)(hIt:s.heap.IsTupleIter it tu i)(hT:s.heap.IsTuple tu vs)(hx:vs[i]?=none)
  (go:∀h1 x,Heap.ExtBut it s.heap h1->(∃o,h1.get? x=some o/\o.cls=.type "StopIteration")->E (.ref x) { s with heap:=h1 }):wpAny (model prog w) A (Builtin.SmallTypes.nextOf (.ref it)) Q E s:=by
 obtain⟨o,ho,hc,hd⟩:=id hIt
 obtain⟨ot,hot,_,nt,hdt⟩:=hT
 unfold Builtin.SmallTypes.nextOf
 refine Qx (wpAny_callSpecial?_slot (name:=Str.ofString "__next__") hIt.typeIs F.slot_tuple_iterator_next (SQ F.slot_tuple_iterator_next hIt.typeIs F.entry_tuple_iterator_next ?_ (F.args_tuple_iterator_next_1 _)))
 show wpAny _ _ (field (.ref it) 0 >>= _) _ _ s
 refine Qx (RV ho hd (x:=.ref tu) rfl ?_)
 show wpAny _ _ (if (Value.ref tu==Value.none)=true then _ else _) _ _ s
 rw[if_neg (show ¬ ((Value.ref tu==Value.none)=true)from QT)]
 show wpAny _ _ (field (.ref it) 1 >>= _) _ _ s
 refine Qx (RV ho hd (x:=Value.int (i:Int) 0) rfl ?_)
 show wpAny _ _ (seqItems? (.ref tu) >>= _) _ _ s
 refine Qx (RY hot hdt ?_)
 simp only[Int.toNat_natCast,hx]
 refine Qx (Sm (Qx (wpAny_setField ho hd (by simp) ?_)))
 show wpAny _ _ (newExc (.type "StopIteration") [] >>= _) _ _ _
 refine Qx ?_
 simp only[newExc,newTuple]
 refine Qx (wpAny_newObj_type ?_ (by size_fits))
 refine Qx (m:=firstArgMember _ _) (wpAny_of_eq (a:=Value.none) (by first|rfl|(simp only[firstArgMember]<;>rfl)) ?_)
 refine wpAny_newObj_type ?_ (by size_fits)
 simp only[raiseNew]
 refine Qx (wpAny_handled ?_)
 first|rw[show A.in1.handled=none from hh]|rw[hh]
 refine Qx (QL (wpAny_throw ?_))
 exact go _ _ (((Heap.SameBut.update ..).extBut.push _).push _) ⟨_,QJ _ rfl,rfl⟩
end
variable{X:Cx}
theorem qP{t2:Nat}{p:Addr}{o:HO}(I:aj X pins σ H s)
  (k:∀b u,b∉ch->s.heap.get? b=some u->h2.get? b=some u) (hp:s.heap.objs.size<=p) (hn:∀b∈ch,fQ X pins H b) (new:aV X.prog X.w (aF H p o) h2 p o):aj X pins σ (aF H p o) { s with heap:=h2,toks:=t2 }:=by
 have hH:H p=none:=I.hok.fresh hp
 have tr:∀b u,H b=some u->b∉ch:=fun b u e z=>by rw[(hn b z).1]at e;cases e
 have un:Un (jr X.stack) ch H (aF H p o) s.heap h2:=by
  refine⟨fun b ob e n _ c=>k b ob c e,fun b ob e n _ c=>⟨ob.slots,k b ob c e⟩,fun b ob e n c=>?_,fun b ob e c=>⟨ob,k b ob c e⟩,fun b xs e=>?_,fun b ob u e=>?_,fun b ps e=>⟨#[],?_⟩⟩
  ·rw[aq (QZ (QK (QE e) hp))];exact n
  ·rw[aq (bj e hH)];exact e
  ·rw[aq (bj e hH)];exact e
  ·rw[aq (bj e hH),e];simp
 refine I.call (g':=s.gens) (d':=s.drawn) un (fun b u e=>?_) I.bare fun b hb=>⟨(hn b hb).2.2.2.1,(hn b hb).2.1,(hn b hb).2.2.2.2.1,(hn b hb).2.2.2.2.2⟩
 by_cases hb:b=p
 ·subst hb;rw[aC]at e;cases e;exact new
 ·rw[aq hb]at e
  refine(I.hok b u e).stay (fun c v hc q=>k c v ?_ q) (fun c q=>by rw[aq (bj q hH)];exact q) fun c xs q=>by rw[aq (bj q hH)];exact q
  rcases hc with z|z
  ·rw[z];exact tr b u e
  ·exact tr c _ z
theorem yU(h:lh tg=true):∃es n p,tg=.Tuple es n p:=by
 cases tg<;>first|exact⟨_,_,_,rfl⟩|cases h
open AutoSeq1 (wpAny_loadPart')
structure Wk(prog:Program)(w:World)(i l:Addr)(P:Nat->Heap->Prop)(g:Nat->Option Value):Prop where
 stay:∀k (h h':Heap),P k h->(∀c o,c=i\/c=l->h.get? c=some o->h'.get? c=some o)->P k h'
 here:∀k (h:Heap),P k h->∃o,h.get? i=some o/\∀v,o.data≠Data.cell v
 item:∀(A:Around) (E:Value->Shared->Prop) (s:Shared) (k:Nat) (x:Value) (Q:Value->Shared->Prop),P k s.heap->g k=some x->(∀h1,P (k+1) h1->Heap.SameBut i s.heap h1->Q x { s with heap:=h1 })->wpAny (model prog w) A (Builtin.SmallTypes.nextOf (.ref i)) Q E s
 done:∀(A:Around) (E:Value->Shared->Prop) (s:Shared) (k:Nat) (Q:Value->Shared->Prop),A.handled=none->P k s.heap->g k=none->(∀h1 x,Heap.ExtBut i s.heap h1->(∃o,h1.get? x=some o/\o.cls=.type "StopIteration")->E (.ref x) { s with heap:=h1 })->wpAny (model prog w) A (Builtin.SmallTypes.nextOf (.ref i)) Q E s
theorem km{i l:Addr}(ne:l≠i):Wk prog w i l (fun k h=>h.IsTupleIter i l k/\h.IsTuple l xs) (fun k=>xs[k]?) where
 stay:=fun k h h' p q=>⟨p.1.at fun o e=>q i o (.inl rfl) e,p.2.at fun o e=>q l o (.inr rfl) e⟩
 here:=fun k h p=>let ⟨o,e,_,d⟩:=p.1;⟨o,e,fun v z=>by rw[d]at z;cases z⟩
 item:=fun A E s k x Q p hx q=>Dt p.1 p.2 hx fun h1 a b=>q h1 ⟨a,p.2.extBut b.extBut ne⟩ b
 done:=fun A E s k Q hh p hx q=>FT hh p.1 p.2 hx q
theorem FQ{i l:Addr}(ne:l≠i):Wk prog w i l (fun k h=>h.IsListIter i l k/\h.IsList l xs) (fun k=>xs[k]?) where
 stay:=fun k h h' p q=>⟨p.1.at fun o e=>q i o (.inl rfl) e,p.2.at fun o e=>q l o (.inr rfl) e⟩
 here:=fun k h p=>let ⟨o,e,_,d⟩:=p.1;⟨o,e,fun v z=>by rw[d]at z;cases z⟩
 item:=fun A E s k x Q p hx q=>wpAny_nextOf_list_item p.1 p.2 hx fun h1 a b=>q h1 ⟨a,p.2.extBut b.extBut ne⟩ b
 done:=fun A E s k Q hh p hx q=>wpAny_nextOf_list_end hh p.1 p.2 hx q
section
variable{prog:Program}{w:World}{A:Around}{E:Value->Shared->Prop}{s:Shared}
variable{z TI TO i1 i2 l1 l2:Addr}{k1 k2:Nat}{P1 P2:Nat->Heap->Prop}{g1 g2:Nat->Option Value}{x y a b:Value}
structure Zs(z TI TO i1 i2 l1 l2:Addr)(P1 P2:Nat->Heap->Prop)(k:Nat)(h:Heap):Prop where
 ap:ZipApart z TI TO i1 i2 l1 l2
 rd:IsZip h z TI TO .none
 ins:IsPair h TI (.ref i1) (.ref i2)
 out:∃a b,IsPair h TO a b
 fst:P1 k h
 snd:P2 k h
theorem Zs.item(W1:Wk prog w i1 l1 P1 g1)(W2:Wk prog w i2 l2 P2 g2)(S:Zs z TI TO i1 i2 l1 l2 P1 P2 k s.heap)(hx:g1 k=some x)(hy:g2 k=some y)
  (go:∀h1,(∀h2,IsZip h2 z TI TO .none->Heap.SameBut z h1 h2->Zs z TI TO i1 i2 l1 l2 P1 P2 (k+1) h2)->IsZip h1 z TI TO (rawInt s.heap.objs.size)->IsPair h1 s.heap.objs.size x y->(∀c o,c∉[z,TO,i1,i2]->s.heap.get? c=some o->h1.get? c=some o)->Q (.ref s.heap.objs.size) { s with heap:=h1 }) :
  wpAny (model prog w) A (Builtin.«zip.__next__» ⟨[.ref z],[]⟩) (fun fin s' => ∃v,fin=.done (.ret v)/\Q v s') E s:=by
 obtain⟨D,isZ,pI,⟨a,b,pO⟩,p1,p2⟩:=S
 obtain⟨h0,gg,dd,t0,oo⟩:=s
 show wpAny _ _ (field (.ref z) 2 >>= _) _ _ ⟨h0,gg,dd,t0,oo⟩
 refine Qx (RV isZ rfl (x:=Value.bool false) rfl ?_)
 show wpAny _ _ (field (.ref z) 3 >>= _) _ _ ⟨h0,gg,dd,t0,oo⟩
 refine Qx (RV isZ rfl (x:=Value.ref TI) rfl (Qx (RY pI rfl ?_)))
 show wpAny _ _ (Builtin.SmallTypes.ownedTupleIsFree (.ref z) >>= _) _ _ ⟨h0,gg,dd,t0,oo⟩
 unfold Builtin.SmallTypes.ownedTupleIsFree
 refine Qx (Qx (RV isZ rfl (x:=Value.none) rfl (QL ?_)))
 simp only[if_true]
 refine Qx (Sm (Qx (RV isZ rfl (x:=Value.ref TO) rfl (Qx (SA isZ (by simp) fun q1 Z1 m1=>?_)))))
 have Z1:IsZip q1 z TI TO .ellipsis:=Z1
 have m1:Heap.SameBut z h0 q1:=m1
 simp only[List.zipIdx_cons,List.zipIdx_nil,Sx,List.forIn_nil]
 refine Qx (Qx (Qx (wpAny_onRaise ?_)))
 show wpAny _ _ (Builtin.SmallTypes.nextOf (.ref i1) >>= _) _ _ ⟨q1,gg,dd,t0,oo⟩
 have e1:∀c o,c≠z->h0.get? c=some o->q1.get? c=some o:=fun c o n u=>m1.extBut c o n u
 refine Qx (W1.item _ _ _ k x _ (W1.stay k _ _ p1 fun c o hc u=>e1 c o (by rcases hc with rfl|rfl;exact D.i1z;exact D.l1z) u) hx fun q2 p1' m2=>QL ?_)
 have m2:Heap.SameBut i1 q1 q2:=m2
 have e2:∀c o,c≠z->c≠i1->h0.get? c=some o->q2.get? c=some o:=fun c o n n' u=>m2.extBut c o n' (e1 c o n u)
 have O2:IsPair q2 TO a b:=e2 _ _ D.TOz D.TOi1 pO
 refine Qx (RY O2 rfl (Qx (wpAny_updateSeq_pair O2 fun q3 O3 m3=>Qx (wpAny_letGo (QL ?_)))))
 have O3:IsPair q3 TO x b:=O3
 have m3:Heap.SameBut TO q2 q3:=m3
 have e3:∀c o,c≠z->c≠i1->c≠TO->h0.get? c=some o->q3.get? c=some o:=fun c o n n' n'' u=>m3.extBut c o n'' (e2 c o n n' u)
 refine Qx (Qx (wpAny_onRaise ?_))
 show wpAny _ _ (Builtin.SmallTypes.nextOf (.ref i2) >>= _) _ _ ⟨q3,gg,dd,t0,oo⟩
 refine Qx (W2.item _ _ _ k y _ (W2.stay k _ _ p2 fun c o hc u=>by
  rcases hc with rfl|rfl
  ·exact e3 c o D.i2z D.i12.symm D.TOi2.symm u
  ·exact e3 c o D.l2z D.l2i1 D.l2TO u) hy fun q4 p2' m4=>QL ?_)
 have m4:Heap.SameBut i2 q3 q4:=m4
 have O4:IsPair q4 TO x b:=m4.extBut _ _ D.TOi2 O3
 refine Qx (RY O4 rfl (Qx (wpAny_updateSeq_pair O4 fun q5 O5 m5=>Qx (wpAny_letGo (QL (QL ?_))))))
 have O5:IsPair q5 TO x y:=O5
 have m5:Heap.SameBut TO q4 q5:=m5
 refine Qx (RY O5 rfl (Qx (wpAny_newTuple ?_)))
 have sz:q5.objs.size=h0.objs.size:=by rw[m5.1,m4.1,m3.1,m2.1,m1.1]
 have e5:∀c o,c≠z->c≠i1->c≠TO->c≠i2->h0.get? c=some o->q5.get? c=some o:=fun c o n n' n'' n3 u=>m5.extBut c o n'' (m4.extBut c o n3 (e3 c o n n' n'' u))
 have Z5:IsZip q5 z TI TO .ellipsis:=m5.extBut _ _ D.TOz.symm (m4.extBut _ _ D.i2z.symm (m3.extBut _ _ D.TOz.symm (m2.extBut _ _ D.i1z.symm Z1)))
 have r1:P1 (k+1) q5:=W1.stay _ _ _ p1' fun c o hc u=>by
  rcases hc with rfl|rfl
  ·exact m5.extBut c o D.TOi1.symm (m4.extBut c o D.i12 (m3.extBut c o D.TOi1.symm u))
  ·exact m5.extBut c o D.l1TO (m4.extBut c o D.l1i2 (m3.extBut c o D.l1TO u))
 have r2:P2 (k+1) q5:=W2.stay _ _ _ p2' fun c o hc u=>by
  rcases hc with rfl|rfl
  ·exact m5.extBut c o D.TOi2.symm u
  ·exact m5.extBut c o D.l2TO u
 have I5:IsPair q5 TI (.ref i1) (.ref i2):=e5 _ _ D.TIz D.TIi1 D.TITO D.TIi2 pI
 have zl:z<q5.objs.size:=QE Z5
 show wpAny _ _ (Builtin.SmallTypes.ownedTupleHandOut (.ref z) (.ref q5.objs.size) >>= _) _ _ ⟨q5.push { cls:=.type "tuple", data:=.seq #[x,y] },gg,dd,t0,oo⟩
 unfold Builtin.SmallTypes.ownedTupleHandOut
 have Z6:IsZip (q5.push { cls:=.type "tuple", data:=.seq #[x,y] }) z TI TO .ellipsis:=Qw _ Z5
 refine Qx (Qx (SA Z6 (by simp) fun q7 Z7 m7=>?_))
 have Z7:IsZip q7 z TI TO (rawInt q5.objs.size):=Z7
 refine SA Z7 (by simp) fun q8 Z8 m8=>?_
 have Z8:IsZip q8 z TI TO (rawInt q5.objs.size):=Z8
 have far:∀c o,c≠z->q5.get? c=some o->q8.get? c=some o:=fun c o n u=>m8.extBut _ _ n (m7.extBut _ _ n (Qw _ u))
 have T8:IsPair q8 q5.objs.size x y:=m8.extBut _ _ (RN zl) (m7.extBut _ _ (RN zl) (QJ _ rfl))
 refine QL ⟨_,rfl,?_⟩
 show Q (.ref q5.objs.size) _
 rw[sz]at Z8 T8⊢
 refine go q8 (fun h2 Zn mn=>⟨D,Zn,mn.extBut _ _ D.TIz (far _ _ D.TIz I5),⟨x,y,mn.extBut _ _ D.TOz (far _ _ D.TOz O5)⟩,W1.stay _ _ _ r1 fun c o hc u=>?_,W2.stay _ _ _ r2 fun c o hc u=>?_⟩) Z8 T8 fun c o hc u=>?_
 ·have n:c≠z:=by rcases hc with rfl|rfl;exact D.i1z;exact D.l1z
  exact mn.extBut c o n (far c o n u)
 ·have n:c≠z:=by rcases hc with rfl|rfl;exact D.i2z;exact D.l2z
  exact mn.extBut c o n (far c o n u)
 ·have c1:c≠z:=fun q=>hc (by simp[q])
  have c2:c≠TO:=fun q=>hc (by simp[q])
  have c3:c≠i1:=fun q=>hc (by simp[q])
  have c4:c≠i2:=fun q=>hc (by simp[q])
  exact far c o c1 (e5 c o c1 c3 c2 c4 u)
theorem Zs.done{Q:Fin->Shared->Prop}(hh:A.handled=none)(W1:Wk prog w i1 l1 P1 g1)(W2:Wk prog w i2 l2 P2 g2)(S:Zs z TI TO i1 i2 l1 l2 P1 P2 k s.heap)(hxy:g1 k=none\/g2 k=none)
    (go:∀h1 e,(∀c o,c∉[z,TO,i1,i2]->s.heap.get? c=some o->h1.get? c=some o)->(∃o,h1.get? e=some o/\o.cls=.type "StopIteration")->E (.ref e) { s with heap:=h1 }) :
    wpAny (model prog w) A (Builtin.«zip.__next__» ⟨[.ref z],[]⟩) Q E s:=by
  obtain⟨D,isZ,pI,⟨a,b,pO⟩,p1,p2⟩:=S
  obtain⟨h0,gg,dd,t0,oo⟩:=s
  show wpAny _ _ (field (.ref z) 2 >>= _) _ _ ⟨h0,gg,dd,t0,oo⟩
  refine Qx (RV isZ rfl (x:=Value.bool false) rfl ?_)
  show wpAny _ _ (field (.ref z) 3 >>= _) _ _ ⟨h0,gg,dd,t0,oo⟩
  refine Qx (RV isZ rfl (x:=Value.ref TI) rfl (Qx (RY pI rfl ?_)))
  show wpAny _ _ (Builtin.SmallTypes.ownedTupleIsFree (.ref z) >>= _) _ _ ⟨h0,gg,dd,t0,oo⟩
  unfold Builtin.SmallTypes.ownedTupleIsFree
  refine Qx (Qx (RV isZ rfl (x:=Value.none) rfl (QL ?_)))
  simp only[if_true]
  refine Qx (Sm (Qx (RV isZ rfl (x:=Value.ref TO) rfl (Qx (SA isZ (by simp) fun q1 Z1 m1=>?_)))))
  have Z1:IsZip q1 z TI TO .ellipsis:=Z1
  have m1:Heap.SameBut z h0 q1:=m1
  simp only[List.zipIdx_cons,List.zipIdx_nil,Sx,List.forIn_nil]
  refine Qx (Qx (Qx (wpAny_onRaise ?_)))
  show wpAny _ _ (Builtin.SmallTypes.nextOf (.ref i1) >>= _) _ _ ⟨q1,gg,dd,t0,oo⟩
  have e1:∀c o,c≠z->h0.get? c=some o->q1.get? c=some o:=fun c o n u=>m1.extBut c o n u
  have p1:P1 k q1:=W1.stay k _ _ p1 fun c o hc u=>e1 c o (by rcases hc with rfl|rfl;exact D.i1z;exact D.l1z) u
  have nin:∀c,c∉[z,TO,i1,i2]->c≠z/\c≠TO/\c≠i1/\c≠i2:=fun c hc=>⟨fun q=>hc (by simp[q]),fun q=>hc (by simp[q]),fun q=>hc (by simp[q]),fun q=>hc (by simp[q])⟩
  have last:∀(q2:Heap) (ex:Addr) (oe:Obj),IsZip q2 z TI TO .ellipsis->(∀c o,c∉[z,TO,i1,i2]->h0.get? c=some o->q2.get? c=some o)->q2.get? ex=some oe->oe.cls=.type "StopIteration" ->
      wpAny (model prog w) A (setField (.ref z) 0 .none) (fun _ s'=>E (.ref ex) s') E ⟨q2,gg,dd,t0,oo⟩:=fun q2 ex oe Z2 k2 ho hc=>by
    have hez:ex≠z:=fun u=>by subst u;rw[Z2]at ho;cases ho;simp at hc
    refine SA Z2 (by simp) fun q3 _ m3=>go q3 ex (fun c o hc u=>?_) ⟨oe,m3.extBut _ _ hez ho,hc⟩
    exact m3.extBut c o (nin c hc).1 (k2 c o hc u)
  cases hx:g1 k with
  | none =>
    refine Qx (W1.done _ _ _ k _ hh p1 hx fun q2 ex m2 he=>?_)
    obtain⟨oe,ho,hc⟩:=he
    have m2:Heap.ExtBut i1 q1 q2:=m2
    exact last q2 ex oe (m2 _ _ D.i1z.symm Z1) (fun c o hc u=>m2 c o (nin c hc).2.2.1 (e1 c o (nin c hc).1 u)) ho hc
  | some x =>
    have hy:g2 k=none:=hxy.resolve_left (by rw[hx];exact fun q=>nomatch q)
    refine Qx (W1.item _ _ _ k x _ p1 hx fun q2 p1' m2=>QL ?_)
    have m2:Heap.SameBut i1 q1 q2:=m2
    have e2:∀c o,c≠z->c≠i1->h0.get? c=some o->q2.get? c=some o:=fun c o n n' u=>m2.extBut c o n' (e1 c o n u)
    have O2:IsPair q2 TO a b:=e2 _ _ D.TOz D.TOi1 pO
    refine Qx (RY O2 rfl (Qx (wpAny_updateSeq_pair O2 fun q3 O3 m3=>Qx (wpAny_letGo (QL ?_)))))
    have m3:Heap.SameBut TO q2 q3:=m3
    have e3:∀c o,c≠z->c≠i1->c≠TO->h0.get? c=some o->q3.get? c=some o:=fun c o n n' n'' u=>m3.extBut c o n'' (e2 c o n n' u)
    refine Qx (Qx (wpAny_onRaise ?_))
    show wpAny _ _ (Builtin.SmallTypes.nextOf (.ref i2) >>= _) _ _ ⟨q3,gg,dd,t0,oo⟩
    refine Qx (W2.done _ _ _ k _ hh (W2.stay k _ _ p2 fun c o hc u=>by
      rcases hc with rfl|rfl
      . exact e3 c o D.i2z D.i12.symm D.TOi2.symm u
      . exact e3 c o D.l2z D.l2i1 D.l2TO u) hy fun q4 ex m4 he=>?_)
    obtain⟨oe,ho,hc⟩:=he
    have m4:Heap.ExtBut i2 q3 q4:=m4
    exact last q4 ex oe (m4 _ _ D.i2z.symm (m3.extBut _ _ D.TOz.symm (m2.extBut _ _ D.i1z.symm Z1))) (fun c o hc u=>m4 c o (nin c hc).2.2.2 (e3 c o (nin c hc).1 (nin c hc).2.2.1 (nin c hc).2.1 u)) ho hc
theorem Zs.pyItem{Q:Option Value->Shared->Prop}(W1:Wk prog w i1 l1 P1 g1)(W2:Wk prog w i2 l2 P2 g2)(S:Zs z TI TO i1 i2 l1 l2 P1 P2 k s.heap)(hx:g1 k=some x)(hy:g2 k=some y)
  (go:∀h1,(∀h2,IsZip h2 z TI TO .none->Heap.SameBut z h1 h2->Zs z TI TO i1 i2 l1 l2 P1 P2 (k+1) h2)->IsZip h1 z TI TO (rawInt s.heap.objs.size)->IsPair h1 s.heap.objs.size x y->(∀c o,c∉[z,TO,i1,i2]->s.heap.get? c=some o->h1.get? c=some o)->Q (some (.ref s.heap.objs.size)) { s with heap:=h1 }) :
  wpAny (model prog w) A (pyNext (.ref z)) Q E s:=by
 have ty:s.TypeIs (.ref z) "zip" := ⟨_,S.rd,rfl⟩
 unfold pyNext
 exact Qx (wpAny_attempt (wpAny_callSpecial?_slot (name:=Str.ofString "__next__") ty F.slot_zip_next (SQ F.slot_zip_next ty F.entry_zip_next (S.item W1 W2 hx hy fun h1 a b c d=>QL (go h1 a b c d)) (F.args_zip_next_1 _))))
theorem Zs.pyDone{Q:Option Value->Shared->Prop}(hh:A.handled=none)(W1:Wk prog w i1 l1 P1 g1)(W2:Wk prog w i2 l2 P2 g2)(S:Zs z TI TO i1 i2 l1 l2 P1 P2 k s.heap)(hxy:g1 k=none\/g2 k=none)
  (go:∀h1,(∀c o,c∉[z,TO,i1,i2]->s.heap.get? c=some o->h1.get? c=some o)->Q none { s with heap:=h1 }):wpAny (model prog w) A (pyNext (.ref z)) Q E s:=by
 have ty:s.TypeIs (.ref z) "zip" := ⟨_,S.rd,rfl⟩
 unfold pyNext
 refine Qx (wpAny_attempt (wpAny_callSpecial?_slot (name:=Str.ofString "__next__") ty F.slot_zip_next (SQ F.slot_zip_next ty F.entry_zip_next (S.done hh W1 W2 hxy fun h1 e kk he=>?_) (F.args_zip_next_1 _))))
 obtain⟨oe,ho,hc⟩:=he
 exact Qx (wpAny_isInstance (T := "StopIteration") (b:=true) ⟨oe,ho,hc⟩ isSubtype_stop (QL (go h1 kk)))
end
noncomputable abbrev B2(h:Heap)(a:Addr):Heap:=h.push { cls:=.type "tuple_iterator", data:=.fields #[.ref a,.int 0 0] }
noncomputable abbrev BZ(h:Heap)(a b:Addr):Heap:=(B2 h a).push { cls:=.type "tuple_iterator", data:=.fields #[.ref b,.int 0 0] }
noncomputable abbrev BY(h:Heap)(a b:Addr):Heap:=(BZ h a b).push { cls:=.type "tuple", data:=.seq #[.ref h.objs.size,.ref (B2 h a).objs.size] }
noncomputable abbrev BX(h:Heap)(a b:Addr):Heap:=(BY h a b).push { cls:=.type "tuple", data:=.seq #[.none,.none] }
noncomputable abbrev rJ(h:Heap)(a b:Addr):Heap:=(BX h a b).push { cls:=.type "zip", data:=.fields #[.none,.bool false,.bool false,.ref (BZ h a b).objs.size,.ref (BY h a b).objs.size] }
theorem FO(a b:Addr)(xs ys:Array Value) :
  Meets (Builtin.«zip.__new__» ⟨[.type "zip", .ref a,.ref b],[]⟩) (fun _ R s=>s.heap.IsTuple a xs/\s.heap.IsTuple b ys/\R (.ok (.ret (.ref (BX s.heap a b).objs.size))) { s with heap:=rJ s.heap a b }) :=
 .of_wp fun pg wd AA RR st hh=>by
  obtain⟨hp0,gg,dd,tk0,oo⟩:=st;obtain⟨ha,hb,hh⟩:=hh
  have hsub0:=sub_zip
  have T1:Heap.IsTuple (Shared.heap ⟨hp0,gg,dd,tk0,oo⟩) a xs:=ha
  have T2:Heap.IsTuple (Shared.heap ⟨hp0.push { cls:=.type "tuple_iterator", data:=.fields #[.ref a,.int 0 0] },gg,dd,tk0,oo⟩) b ys:=hb.at fun o e=>Qw _ e
  wp_walk using RW T1,RW T2
  exact⟨_,rfl,hh⟩
theorem Dm{a b:Addr}(ha:s.heap.IsTuple a xs)(hb:s.heap.IsTuple b ys)
  (go:∀h1,Zs (s.heap.objs.size+4) (s.heap.objs.size+2) (s.heap.objs.size+3) s.heap.objs.size (s.heap.objs.size+1) a b (fun k h=>h.IsTupleIter s.heap.objs.size a k/\h.IsTuple a xs) (fun k h=>h.IsTupleIter (s.heap.objs.size+1) b k/\h.IsTuple b ys) 0 h1->(∀c o,s.heap.get? c=some o->h1.get? c=some o)->Q (.ref (s.heap.objs.size+4)) { s with heap:=h1 }) :
  wpAny (model prog w) A (call (.type "zip") [.ref a,.ref b]) Q E s:=by
 refine callType_new F.called_zip (by decide) (F.typeCall_zip_2 _ _) (F.newCall_zip_2 _ _) (fun ob=>F.args_object_init_3 ob _ _) F.entry_zip_new (FO a b xs ys) ⟨ha,hb,?_⟩
 have s1:(B2 s.heap a).objs.size=s.heap.objs.size+1:=Rq ..
 have s2:(BZ s.heap a b).objs.size=s.heap.objs.size+2:=by rw[Rq,s1]
 have s3:(BY s.heap a b).objs.size=s.heap.objs.size+3:=by rw[Rq,s2]
 have s4:(BX s.heap a b).objs.size=s.heap.objs.size+4:=by rw[Rq,s3]
 have r5:(rJ s.heap a b).get? (BX s.heap a b).objs.size=some _:=QJ _ rfl
 have r4:(rJ s.heap a b).get? (BY s.heap a b).objs.size=some _:=Qw _ (QJ _ rfl)
 have r3:(rJ s.heap a b).get? (BZ s.heap a b).objs.size=some _:=Qw _ (Qw _ (QJ _ rfl))
 have r2:(rJ s.heap a b).get? (B2 s.heap a).objs.size=some _:=Qw _ (Qw _ (Qw _ (QJ _ rfl)))
 have r1:(rJ s.heap a b).get? s.heap.objs.size=some _:=Qw _ (Qw _ (Qw _ (Qw _ (QJ _ rfl))))
 have up:∀c o,s.heap.get? c=some o->(rJ s.heap a b).get? c=some o:=fun c o e=>Qw _ (Qw _ (Qw _ (Qw _ (Qw _ e))))
 have la:a<s.heap.objs.size:=by obtain⟨_,e,_⟩:=ha;exact QE e
 have lb:b<s.heap.objs.size:=by obtain⟨_,e,_⟩:=hb;exact QE e
 rw[s2,s3,s4]at r5
 rw[s1,s2]at r3
 rw[s3]at r4
 rw[s1]at r2
 show _/\_
 rw[s4]
 have ne:∀{m n:Nat},m<n->m≠n:=fun h=>QZ h
 refine⟨⟨_,r5,rfl⟩,go _ ⟨?_,r5,r3,⟨_,_,r4⟩,⟨⟨_,r1,rfl,rfl⟩,ha.at fun o e=>up _ _ e⟩,⟨⟨_,r2,rfl,rfl⟩,hb.at fun o e=>up _ _ e⟩⟩ up⟩
 generalize s.heap.objs.size=n at la lb
 have la':(a:Nat)<n:=la
 have lb':(b:Nat)<n:=lb
 constructor<;>first|exact ne (by omega)|exact(ne (by omega)).symm|exact ne (QK la (by omega))|exact ne (QK lb (by omega))|exact ne la|exact ne lb
variable{X:Cx}
theorem o3{t2:Nat}(I:aj X pins σ H s)
  (k:∀b u,b∉ch->s.heap.get? b=some u->h2.get? b=some u) (hn:∀b∈ch,fQ X pins H b):aj X pins σ H { s with heap:=h2,toks:=t2 }:=by
 have tr:∀b u,H b=some u->b∉ch:=fun b u e z=>by rw[(hn b z).1]at e;cases e
 have un:Un (jr X.stack) ch H H s.heap h2:=⟨fun b ob e n _ c=>k b ob c e,fun b ob e n _ c=>⟨ob.slots,k b ob c e⟩,fun b ob e n c=>n,fun b ob e c=>⟨ob,k b ob c e⟩,fun b xs e=>e,fun b ob u e=>e,fun b ps e=>⟨#[],by rw[e];simp⟩⟩
 refine I.call (g':=s.gens) (d':=s.drawn) un (fun b u e=>?_) I.bare fun b hb=>⟨(hn b hb).2.2.2.1,(hn b hb).2.1,(hn b hb).2.2.2.2.1,(hn b hb).2.2.2.2.2⟩
 refine(I.hok b u e).stay (fun c v hc q=>k c v ?_ q) (fun c q=>q) fun c xs q=>q
 rcases hc with z|z
 ·rw[z];exact tr b u e
 ·exact tr c _ z
noncomputable def Qu(K:W.Frag)(a b:Addr):It :=
 ⟨fun i H => ∃xs ys x y,aZ K H a xs/\xs[i]?=some x/\aZ K H b ys/\ys[i]?=some y,fun i H x H' => ∃p u v,x=.ref p/\H p=none/\H'=aF H p (.tup [u,v])/\(∀xs,aZ K H a xs->xs[i]?=some u)/\∀ys,aZ K H b ys->ys[i]?=some v,fun i H => ∃xs ys,aZ K H a xs/\aZ K H b ys/\(xs.length<=i\/ys.length<=i)⟩
theorem Au{P:Program}(a b z TI TO i1 i2:Addr)(D:ZipApart z TI TO i1 i2 a b) :
  L2.Turn P w K (.Tuple es n1 pos) (Qu K a b) [z,TI,TO,i1,i2] z (fun i h=>IsZip h z TI TO .none/\IsPair h TI (.ref i1) (.ref i2)/\(∃u v,IsPair h TO u v)/\h.IsTupleIter i1 a i/\h.IsTupleIter i2 b i) where
 mem:=by simp
 obj:=fun i h st c hc=>by
  obtain⟨q1,q2,⟨u,v,q3⟩,⟨o4,q4,c4,d4⟩,⟨o5,q5,c5,d5⟩⟩:=st
  simp only[QD,Q8,R4]at hc
  rcases hc with rfl|rfl|rfl|rfl|rfl
  ·exact⟨_,q1,fun v e=>by have e':Data.fields _=Data.cell v:=e;cases e'⟩
  ·exact⟨_,q2,fun v e=>by have e':Data.seq _ _=Data.cell v:=e;cases e'⟩
  ·exact⟨_,q3,fun v e=>by have e':Data.seq _ _=Data.cell v:=e;cases e'⟩
  ·exact⟨_,q4,fun v e=>by rw[d4]at e;cases e⟩
  ·exact⟨_,q5,fun v e=>by rw[d5]at e;cases e⟩
 keep:=fun i h h' ⟨q1,q2,⟨u,v,q3⟩,q4,q5⟩ k=>⟨k _ (by simp) _ q1,k _ (by simp) _ q2,⟨u,v,k _ (by simp) _ q3⟩,q4.at fun o e=>k _ (by simp) o e,q5.at fun o e=>k _ (by simp) o e⟩
 item:=by
  intro Y hP hw hK hc i pins s σ H E I hf st hg
  subst hP hw hK
  obtain⟨xs,ys,x,y,hq,hx,hr,hy⟩:=hg
  obtain⟨its,rv,p1,hz⟩:=I.tuple hq
  obtain⟨jts,rw',p2,hz'⟩:=I.tuple hr
  obtain⟨u,hu,ru⟩:=rv.get hx
  obtain⟨v,hv,rv'⟩:=rw'.get hy
  obtain⟨q1,q2,q3,q4,q5⟩:=st
  have zlt:z<s.heap.objs.size:=QE q1
  refine Zs.pyItem (km (i:=i1) (l:=a) (xs:=its.toArray) D.l1i1) (km (i:=i2) (l:=b) (xs:=jts.toArray) D.l2i2) ⟨D,q1,q2,q3,⟨q4,p1⟩,⟨q5,p2⟩⟩ (x:=u) (y:=v) (by simpa using hu) (by simpa using hv) fun h1 kW zo t1 k1=>?_
  refine⟨_,rfl,wpAny_letOwnedTupleGo_zip zo fun h2 z2 m2=>?_⟩
  have m2:Heap.SameBut z h1 h2:=m2
  have N:=kW h2 z2 m2
  have k2:∀c o,c∉[z,TI,TO,i1,i2]->s.heap.get? c=some o->h2.get? c=some o:=fun c o nc q=>by
   have n1:c≠z:=fun e=>nc (by simp[e])
   refine m2.extBut c o n1 (k1 c o (fun e=>nc ?_) q)
   simp only[QD,Q8,R4]at e⊢
   rcases e with e|e|e|e<;>simp[e]
  have t2:h2.get? s.heap.objs.size=some { cls:=.type "tuple", data:=.seq #[u,v] }:=m2.extBut _ _ (RN zlt) t1
  have hn0:H s.heap.objs.size=none:=I.hok.fresh (QA _)
  refine⟨.ref s.heap.objs.size,aF H s.heap.objs.size (.tup [x,y]),qP (s:=s) (h2:=h2) (t2:=s.toks) I k2 (QA _) hf ?_,rfl,⟨_,x,y,rfl,hn0,rfl,fun ws hw=>by rw[I.tuple_inj hw hq];exact hx,fun ws hw=>by rw[I.tuple_inj hw hr];exact hy⟩,⟨N.rd,N.ins,N.out,N.fst.1,N.snd.1⟩,fun c hc=>?_⟩
  ·exact⟨by show 2<=sizeLine;decide,[u,v],.cons ru (.cons rv' .nil),⟨_,t2,rfl,_,rfl⟩,_,t2,rfl⟩
  ·have hb':=hf c hc
   have lt:c<s.heap.objs.size:=by
    obtain⟨u',v',q3⟩:=q3
    obtain⟨o4,q4,_⟩:=q4
    obtain⟨o5,q5,_⟩:=q5
    simp only[QD,Q8,R4]at hc
    rcases hc with rfl|rfl|rfl|rfl|rfl
    ·exact zlt
    ·exact QE q2
    ·exact QE q3
    ·exact QE q4
    ·exact QE q5
   rw[aq (QZ lt)];exact hb'.1
 done:=by
  intro Y hP hw hK hc i pins s σ H E I hf st hg
  subst hP hw hK
  obtain⟨xs,ys,hq,hr,hl⟩:=hg
  obtain⟨its,rv,p1,hz⟩:=I.tuple hq
  obtain⟨jts,rw',p2,hz'⟩:=I.tuple hr
  obtain⟨q1,q2,q3,q4,q5⟩:=st
  have l1:=rv.length
  have l2:=rw'.length
  refine Zs.pyDone (I.ok.hd hc) (km (i:=i1) (l:=a) (xs:=its.toArray) D.l1i1) (km (i:=i2) (l:=b) (xs:=jts.toArray) D.l2i2) ⟨D,q1,q2,q3,⟨q4,p1⟩,⟨q5,p2⟩⟩ ?_ fun h1 k1=>⟨rfl,o3 (s:=s) (t2:=s.toks) (ch:=[z,TI,TO,i1,i2]) I (fun c o nc q=>k1 c o (fun e=>nc ?_) q) hf⟩
  ·rcases hl with hl|hl
   ·exact .inl (by simp;omega)
   ·exact .inr (by simp;omega)
  ·simp only[QD,Q8,R4]at e⊢
   rcases e with e|e|e|e<;>simp[e]
 self:=fun _ _ _ _ _ st h=>wpAny_pyIter_zip st.1 h
theorem HI{b:Expr}{m:List D}(hg:Gl X "zip")(hm0:X.mg "zip" = none)(ha:AD X ρ [a,b] [.tup l,.tup m] k)(hst:∀e∈[a,b],∀y p,e ≠ .Starred y p)(hf:ao l=true)(hm:ao m=true) :
  IE X ρ (.Tuple es n1 tp) (.Call (.Name "zip" p) [a,b] [] pos) (List.zipWith (fun x y=>.tup [x,y]) l m) 0:=by
 intro ow pins s σ H R I ⟨E,q⟩
 have n1':=aN (env:=X.env) (es:=[b]) (hst a (by simp))
 have n2':(backTo pos (starEach [b] X.env)).any (·.1)=false:=cn fun x hx=>hst x (by simp at hx;simp[hx])
 refine Call_ (fG I hg hm0 (show bootBuiltins "zip" = some (.type "zip") by decide +kernel) (Rv (aL (ha ow pos pins s σ H (fun vs H1=>au H H1/\ah X.K H1 (Kp ow H k) [.tup l,.tup m] vs) I ⟨E,fun vs H1 s1 r1=>⟨s1,r1⟩⟩) fun us s1 ⟨vs,H1,I1,rv,sm,rp⟩=>?_) n1' n2') (by decide +kernel) (by decide +kernel))
 rw[ah]at rp
 obtain⟨v1,vr,rfl,rp1,rp2⟩:=rp
 obtain⟨v2,rfl,rp3⟩:=rp2.only
 obtain⟨ta,xs,rfl,hq,rl⟩:=gu rp1
 obtain⟨tb,ys,rfl,hr,rm⟩:=gu rp3
 obtain⟨u1,u2,rfl,ru1,ru2⟩:=oD rv
 cases (show u1=Value.ref ta from ru1)
 cases (show u2=Value.ref tb from ru2)
 obtain⟨its,rvs,pt,hz⟩:=I1.tuple hq
 obtain⟨jts,rvs',pt',hz'⟩:=I1.tuple hr
 refine Dm (show s1.heap.IsTuple ta its.toArray from pt) (show s1.heap.IsTuple tb jts.toArray from pt') fun h2 Z k2=>?_
 refine wpAny_pyIter_zip Z.rd ?_
 have I2:aj X pins σ H1 { s1 with heap:=h2 }:=I1.kept (t':=s1.toks) k2
 have fr:∀j,fQ X pins H1 (s1.heap.objs.size+j):=fun j=>I1.fpOk (RO _ _) (I1.hok.fresh (RO _ _))
 refine⟨s1.heap.objs.size+4,[s1.heap.objs.size+4,s1.heap.objs.size+2,s1.heap.objs.size+3,s1.heap.objs.size,s1.heap.objs.size+1],_,_,H1,rfl,I2,Au ta tb _ _ _ _ _ Z.ap,⟨Z.rd,Z.ins,Z.out,Z.fst.1,Z.snd.1⟩,fun c hc=>?_,q _ H1 sm ?_⟩
 ·simp only[QD,Q8,R4]at hc
  rcases hc with rfl|rfl|rfl|rfl|rfl
  ·exact fr 4
  ·exact fr 2
  ·exact fr 3
  ·exact fr 0
  ·exact fr 1
 ·intro i H2 st
  have rl':ah X.K H1 (Kd ow H 0 H1) l xs:=rl.flat _ hf
  have rm':ah X.K H1 (Kd ow H 0 H1) m ys:=rm.flat _ hm
  refine⟨fun d hd=>?_,fun hle=>?_⟩
  ·rw[List.getElem?_zipWith]at hd
   cases e:l[i]? with
   | none=>rw[e]at hd;cases hd
   | some x =>
    cases e':m[i]? with
    | none=>rw[e,e']at hd;cases hd
    | some y =>
     rw[e,e']at hd;cases hd
     obtain⟨u,hu,ru⟩:=rl'.get e
     obtain⟨v,hv,rv⟩:=rm'.get e'
     refine⟨⟨xs,ys,u,v,st.sq hq,hu,st.sq hr,hv⟩,fun x' H3 ⟨p',u',v',e1,e2,e3,e4,e5⟩=>?_⟩
     have c1:=e4 xs (st.sq hq)
     have c2:=e5 ys (st.sq hr)
     rw[hu]at c1;cases c1
     rw[hv]at c2;cases c2
     subst e1 e3
     have sm3:=cJ (o:=HO.tup [u,v]) e2
     refine⟨sm3,?_⟩
     rw[ae]
     exact⟨p',_,rfl,aZ.of aC,ah.cons ((ru.mono st).same sm3) (ah.one ((rv.mono st).same sm3))⟩
  ·rw[List.length_zipWith]at hle
   have l1:=rl.length
   have l2:=rm.length
   exact⟨xs,ys,st.sq hq,st.sq hr,by omega⟩
variable{X:Cx}
noncomputable def gS(κ:Bool)(h:Heap)(i a:Addr)(k:Nat):Prop:=match κ with|true=>h.IsTupleIter i a k|false=>h.IsListIter i a k
noncomputable def fP(κ:Bool)(h:Heap)(a:Addr)(xs:Array Value):Prop:=match κ with|true=>h.IsTuple a xs|false=>h.IsList a xs
noncomputable def lG(κ:Bool)(K:W.Frag)(H:Hp)(a:Addr)(xs:List V):Prop:=match κ with|true=>aZ K H a xs|false=>ci K H a xs
noncomputable def kF(κ:Bool)(l:List D):D:=match κ with|true=>.tup l|false=>.lst l
noncomputable def HC(κ:Bool):String:=match κ with|true => "tuple_iterator" | false => "list_iterator"
theorem wk(κ:Bool){i l:Addr}(ne:l≠i):Wk prog w i l (fun k h=>gS κ h i l k/\fP κ h l xs) (fun k=>xs[k]?):=by
 cases κ
 ·exact FQ ne
 ·exact km ne
theorem iM{i a:Addr}(p:gS κ h i a k):∃o,h.get? i=some o/\∀v,o.data≠Data.cell v:=by
 cases κ
 ·obtain⟨o,e,_,d⟩:=(show h.IsListIter i a k from p);exact⟨o,e,fun v z=>by rw[d]at z;cases z⟩
 ·obtain⟨o,e,_,d⟩:=(show h.IsTupleIter i a k from p);exact⟨o,e,fun v z=>by rw[d]at z;cases z⟩
theorem tG{i a:Addr}(p:gS κ h i a k)(q:∀o,h.get? i=some o->h'.get? i=some o):gS κ h' i a k:=by
 cases κ
 ·exact(show h.IsListIter i a k from p).at q
 ·exact(show h.IsTupleIter i a k from p).at q
theorem tE{a:Addr}(p:fP κ h a xs)(q:∀o,h.get? a=some o->h'.get? a=some o):fP κ h' a xs:=by
 cases κ
 ·exact(show h.IsList a xs from p).at q
 ·exact(show h.IsTuple a xs from p).at q
theorem tz{a:Addr}(p:fP κ h a xs):a<h.objs.size:=by
 cases κ
 ·obtain⟨_,e,_⟩:=(show h.IsList a xs from p);exact QE e
 ·obtain⟨_,e,_⟩:=(show h.IsTuple a xs from p);exact QE e
theorem mS{a:Addr}{xs:List V}(I:aj X pins σ H s)(h:lG κ X.K H a xs):∃its:List Value,aD xs its/\fP κ s.heap a its.toArray/\xs.length<=sizeLine:=by
 cases κ
 ·obtain⟨its,r,p,z⟩:=I.list h;exact⟨its,r,p.isList,z⟩
 ·obtain⟨its,r,p,z⟩:=I.tuple h;exact⟨its,r,p,z⟩
theorem qQ{a:Addr}{xs ys:List V}(I:aj X pins σ H s)(h:lG κ X.K H a xs)(h':lG κ X.K H a ys):xs=ys:=by
 cases κ
 ·exact I.list_inj h h'
 ·exact I.tuple_inj h h'
theorem r9{H1:Hp}(h:ae X.K H1 (Kp ow H k) (kF κ l) v):∃a vs,v=.ref a/\lG κ X.K H1 a vs/\ah X.K H1 (Kp ow H k) l vs/\∀{P':ba} {H2:Hp},dJ (Kd ow H k H1) P' H1 H2->lG κ X.K H2 a vs:=by
 cases κ
 ·rw[show kF false l=.lst l from rfl,ae]at h
  obtain⟨a,vs,b,rfl,hl,hp,rl⟩:=h
  have hp':Kd ow H k H1 a b:=⟨hp,fun hb=>by subst hb;exact⟨_,hl⟩⟩
  exact⟨a,vs,rfl,hl.sq,rl,fun st=>(st.ls hl hp').sq⟩
 ·rw[show kF true l=.tup l from rfl,ae]at h
  obtain⟨a,vs,rfl,hl,rl⟩:=h
  exact⟨a,vs,rfl,hl,rl,fun st=>st.sq hl⟩
noncomputable abbrev B5(κ:Bool)(h:Heap)(a:Addr):Heap:=h.push { cls:=.type (HC κ),data:=.fields #[.ref a,.int 0 0] }
noncomputable abbrev B4(κ κ':Bool)(h:Heap)(a b:Addr):Heap:=(B5 κ h a).push { cls:=.type (HC κ'),data:=.fields #[.ref b,.int 0 0] }
noncomputable abbrev B3(κ κ':Bool)(h:Heap)(a b:Addr):Heap:=(B4 κ κ' h a b).push { cls:=.type "tuple", data:=.seq #[.ref h.objs.size,.ref (B5 κ h a).objs.size] }
noncomputable abbrev qC(κ κ':Bool)(h:Heap)(a b:Addr):Heap:=(B3 κ κ' h a b).push { cls:=.type "tuple", data:=.seq #[.none,.none] }
noncomputable abbrev kl(κ κ':Bool)(h:Heap)(a b:Addr):Heap:=(qC κ κ' h a b).push { cls:=.type "zip", data:=.fields #[.none,.bool false,.bool false,.ref (B4 κ κ' h a b).objs.size,.ref (B3 κ κ' h a b).objs.size] }
theorem kh(a b:Addr)(xs ys:Array Value) :
  Meets (Builtin.«zip.__new__» ⟨[.type "zip", .ref a,.ref b],[]⟩) (fun _ R s=>s.heap.IsList a xs/\s.heap.IsList b ys/\R (.ok (.ret (.ref (qC false false s.heap a b).objs.size))) { s with heap:=kl false false s.heap a b }) :=
 .of_wp fun pg wd AA RR st hh=>by
  obtain⟨hp0,gg,dd,tk0,oo⟩:=st;obtain⟨ha,hb,hh⟩:=hh
  have hsub0:=sub_zip
  have T1:Heap.IsList (Shared.heap ⟨hp0,gg,dd,tk0,oo⟩) a xs:=ha
  have T2:Heap.IsList (Shared.heap ⟨hp0.push { cls:=.type "list_iterator", data:=.fields #[.ref a,.int 0 0] },gg,dd,tk0,oo⟩) b ys:=hb.at fun o e=>Qw _ e
  wp_walk using Sl T1,Sl T2
  exact⟨_,rfl,hh⟩
theorem nE(a b:Addr)(xs ys:Array Value) :
  Meets (Builtin.«zip.__new__» ⟨[.type "zip", .ref a,.ref b],[]⟩) (fun _ R s=>s.heap.IsList a xs/\s.heap.IsTuple b ys/\R (.ok (.ret (.ref (qC false true s.heap a b).objs.size))) { s with heap:=kl false true s.heap a b }) :=
 .of_wp fun pg wd AA RR st hh=>by
  obtain⟨hp0,gg,dd,tk0,oo⟩:=st;obtain⟨ha,hb,hh⟩:=hh
  have hsub0:=sub_zip
  have T1:Heap.IsList (Shared.heap ⟨hp0,gg,dd,tk0,oo⟩) a xs:=ha
  have T2:Heap.IsTuple (Shared.heap ⟨hp0.push { cls:=.type "list_iterator", data:=.fields #[.ref a,.int 0 0] },gg,dd,tk0,oo⟩) b ys:=hb.at fun o e=>Qw _ e
  wp_walk using Sl T1,RW T2
  exact⟨_,rfl,hh⟩
theorem nD(a b:Addr)(xs ys:Array Value) :
  Meets (Builtin.«zip.__new__» ⟨[.type "zip", .ref a,.ref b],[]⟩) (fun _ R s=>s.heap.IsTuple a xs/\s.heap.IsList b ys/\R (.ok (.ret (.ref (qC true false s.heap a b).objs.size))) { s with heap:=kl true false s.heap a b }) :=
 .of_wp fun pg wd AA RR st hh=>by
  obtain⟨hp0,gg,dd,tk0,oo⟩:=st;obtain⟨ha,hb,hh⟩:=hh
  have hsub0:=sub_zip
  have T1:Heap.IsTuple (Shared.heap ⟨hp0,gg,dd,tk0,oo⟩) a xs:=ha
  have T2:Heap.IsList (Shared.heap ⟨hp0.push { cls:=.type "tuple_iterator", data:=.fields #[.ref a,.int 0 0] },gg,dd,tk0,oo⟩) b ys:=hb.at fun o e=>Qw _ e
  wp_walk using RW T1,Sl T2
  exact⟨_,rfl,hh⟩
theorem nT(a b:Addr)(xs ys:Array Value) :
  Meets (Builtin.«zip.__new__» ⟨[.type "zip", .ref a,.ref b],[]⟩) (fun _ R s=>s.heap.IsTuple a xs/\s.heap.IsTuple b ys/\R (.ok (.ret (.ref (qC true true s.heap a b).objs.size))) { s with heap:=kl true true s.heap a b }) :=
 .of_wp fun pg wd AA RR st hh=>by
  obtain⟨hp0,gg,dd,tk0,oo⟩:=st;obtain⟨ha,hb,hh⟩:=hh
  have hsub0:=sub_zip
  have T1:Heap.IsTuple (Shared.heap ⟨hp0,gg,dd,tk0,oo⟩) a xs:=ha
  have T2:Heap.IsTuple (Shared.heap ⟨hp0.push { cls:=.type "tuple_iterator", data:=.fields #[.ref a,.int 0 0] },gg,dd,tk0,oo⟩) b ys:=hb.at fun o e=>Qw _ e
  wp_walk using RW T1,RW T2
  exact⟨_,rfl,hh⟩
theorem FP(κ κ':Bool)(a b:Addr)(xs ys:Array Value) :
  Meets (Builtin.«zip.__new__» ⟨[.type "zip", .ref a,.ref b],[]⟩) (fun _ R s=>fP κ s.heap a xs/\fP κ' s.heap b ys/\R (.ok (.ret (.ref (qC κ κ' s.heap a b).objs.size))) { s with heap:=kl κ κ' s.heap a b }):=by
 cases κ<;>cases κ'
 ·exact kh a b xs ys
 ·exact nE a b xs ys
 ·exact nD a b xs ys
 ·exact nT a b xs ys
theorem tF{i a:Addr}(e:h.get? i=some { cls:=.type (HC κ),data:=.fields #[.ref a,.int 0 0] }):gS κ h i a 0:=by
 cases κ
 ·exact⟨_,e,rfl,rfl⟩
 ·exact⟨_,e,rfl,rfl⟩
theorem As{a b:Addr}(ha:fP κ s.heap a xs)(hb:fP κ' s.heap b ys)
  (go:∀h1,Zs (s.heap.objs.size+4) (s.heap.objs.size+2) (s.heap.objs.size+3) s.heap.objs.size (s.heap.objs.size+1) a b (fun k h=>gS κ h s.heap.objs.size a k/\fP κ h a xs) (fun k h=>gS κ' h (s.heap.objs.size+1) b k/\fP κ' h b ys) 0 h1->(∀c o,s.heap.get? c=some o->h1.get? c=some o)->Q (.ref (s.heap.objs.size+4)) { s with heap:=h1 }) :
  wpAny (model prog w) A (call (.type "zip") [.ref a,.ref b]) Q E s:=by
 refine callType_new F.called_zip (by decide) (F.typeCall_zip_2 _ _) (F.newCall_zip_2 _ _) (fun ob=>F.args_object_init_3 ob _ _) F.entry_zip_new (FP κ κ' a b xs ys) ⟨ha,hb,?_⟩
 have s1:(B5 κ s.heap a).objs.size=s.heap.objs.size+1:=Rq ..
 have s2:(B4 κ κ' s.heap a b).objs.size=s.heap.objs.size+2:=by rw[Rq,s1]
 have s3:(B3 κ κ' s.heap a b).objs.size=s.heap.objs.size+3:=by rw[Rq,s2]
 have s4:(qC κ κ' s.heap a b).objs.size=s.heap.objs.size+4:=by rw[Rq,s3]
 have r5:(kl κ κ' s.heap a b).get? (qC κ κ' s.heap a b).objs.size=some _:=QJ _ rfl
 have r4:(kl κ κ' s.heap a b).get? (B3 κ κ' s.heap a b).objs.size=some _:=Qw _ (QJ _ rfl)
 have r3:(kl κ κ' s.heap a b).get? (B4 κ κ' s.heap a b).objs.size=some _:=Qw _ (Qw _ (QJ _ rfl))
 have r2:(kl κ κ' s.heap a b).get? (B5 κ s.heap a).objs.size=some _:=Qw _ (Qw _ (Qw _ (QJ _ rfl)))
 have r1:(kl κ κ' s.heap a b).get? s.heap.objs.size=some _:=Qw _ (Qw _ (Qw _ (Qw _ (QJ _ rfl))))
 have up:∀c o,s.heap.get? c=some o->(kl κ κ' s.heap a b).get? c=some o:=fun c o e=>Qw _ (Qw _ (Qw _ (Qw _ (Qw _ e))))
 have la:a<s.heap.objs.size:=tz ha
 have lb:b<s.heap.objs.size:=tz hb
 rw[s2,s3,s4]at r5
 rw[s1,s2]at r3
 rw[s3]at r4
 rw[s1]at r2
 show _/\_
 rw[s4]
 have ne:∀{m n:Nat},m<n->m≠n:=fun h=>QZ h
 refine⟨⟨_,r5,rfl⟩,go _ ⟨?_,r5,r3,⟨_,_,r4⟩,⟨tF r1,tE ha fun o e=>up _ _ e⟩,⟨tF r2,tE hb fun o e=>up _ _ e⟩⟩ up⟩
 generalize s.heap.objs.size=n at la lb
 have la':(a:Nat)<n:=la
 have lb':(b:Nat)<n:=lb
 constructor<;>first|exact ne (by omega)|exact(ne (by omega)).symm|exact ne (QK la (by omega))|exact ne (QK lb (by omega))|exact ne la|exact ne lb
noncomputable def P4(κ κ':Bool)(K:W.Frag)(a b:Addr):It :=
 ⟨fun i H => ∃xs ys x y,lG κ K H a xs/\xs[i]?=some x/\lG κ' K H b ys/\ys[i]?=some y,fun i H x H' => ∃p u v,x=.ref p/\H p=none/\H'=aF H p (.tup [u,v])/\(∀xs,lG κ K H a xs->xs[i]?=some u)/\∀ys,lG κ' K H b ys->ys[i]?=some v,fun i H => ∃xs ys,lG κ K H a xs/\lG κ' K H b ys/\(xs.length<=i\/ys.length<=i)⟩
theorem xF(κ κ':Bool){P:Program}(a b z TI TO i1 i2:Addr)(D:ZipApart z TI TO i1 i2 a b) :
  L2.Turn P w K (.Tuple es n1 pos) (P4 κ κ' K a b) [z,TI,TO,i1,i2] z (fun i h=>IsZip h z TI TO .none/\IsPair h TI (.ref i1) (.ref i2)/\(∃u v,IsPair h TO u v)/\gS κ h i1 a i/\gS κ' h i2 b i) where
 mem:=by simp
 obj:=fun i h st c hc=>by
  obtain⟨q1,q2,⟨u,v,q3⟩,q4,q5⟩:=st
  obtain⟨o4,q4,d4⟩:=iM q4
  obtain⟨o5,q5,d5⟩:=iM q5
  simp only[QD,Q8,R4]at hc
  rcases hc with rfl|rfl|rfl|rfl|rfl
  ·exact⟨_,q1,fun v e=>by have e':Data.fields _=Data.cell v:=e;cases e'⟩
  ·exact⟨_,q2,fun v e=>by have e':Data.seq _ _=Data.cell v:=e;cases e'⟩
  ·exact⟨_,q3,fun v e=>by have e':Data.seq _ _=Data.cell v:=e;cases e'⟩
  ·exact⟨_,q4,d4⟩
  ·exact⟨_,q5,d5⟩
 keep:=fun i h h' ⟨q1,q2,⟨u,v,q3⟩,q4,q5⟩ k=>⟨k _ (by simp) _ q1,k _ (by simp) _ q2,⟨u,v,k _ (by simp) _ q3⟩,tG q4 fun o e=>k _ (by simp) o e,tG q5 fun o e=>k _ (by simp) o e⟩
 item:=by
  intro Y hP hw hK hc i pins s σ H E I hf st hg
  subst hP hw hK
  obtain⟨xs,ys,x,y,hq,hx,hr,hy⟩:=hg
  obtain⟨its,rv,p1,hz⟩:=mS I hq
  obtain⟨jts,rw',p2,hz'⟩:=mS I hr
  obtain⟨u,hu,ru⟩:=rv.get hx
  obtain⟨v,hv,rv'⟩:=rw'.get hy
  obtain⟨q1,q2,q3,q4,q5⟩:=st
  have zlt:z<s.heap.objs.size:=QE q1
  refine Zs.pyItem (wk κ (i:=i1) (l:=a) (xs:=its.toArray) D.l1i1) (wk κ' (i:=i2) (l:=b) (xs:=jts.toArray) D.l2i2) ⟨D,q1,q2,q3,⟨q4,p1⟩,⟨q5,p2⟩⟩ (x:=u) (y:=v) (by simpa using hu) (by simpa using hv) fun h1 kW zo t1 k1=>?_
  refine⟨_,rfl,wpAny_letOwnedTupleGo_zip zo fun h2 z2 m2=>?_⟩
  have m2:Heap.SameBut z h1 h2:=m2
  have N:=kW h2 z2 m2
  have k2:∀c o,c∉[z,TI,TO,i1,i2]->s.heap.get? c=some o->h2.get? c=some o:=fun c o nc q=>by
   have n1:c≠z:=fun e=>nc (by simp[e])
   refine m2.extBut c o n1 (k1 c o (fun e=>nc ?_) q)
   simp only[QD,Q8,R4]at e⊢
   rcases e with e|e|e|e<;>simp[e]
  have t2:h2.get? s.heap.objs.size=some { cls:=.type "tuple", data:=.seq #[u,v] }:=m2.extBut _ _ (RN zlt) t1
  have hn0:H s.heap.objs.size=none:=I.hok.fresh (QA _)
  refine⟨.ref s.heap.objs.size,aF H s.heap.objs.size (.tup [x,y]),qP (s:=s) (h2:=h2) (t2:=s.toks) I k2 (QA _) hf ?_,rfl,⟨_,x,y,rfl,hn0,rfl,fun ws hw=>by rw[qQ I hw hq];exact hx,fun ws hw=>by rw[qQ I hw hr];exact hy⟩,⟨N.rd,N.ins,N.out,N.fst.1,N.snd.1⟩,fun c hc=>?_⟩
  ·exact⟨by show 2<=sizeLine;decide,[u,v],.cons ru (.cons rv' .nil),⟨_,t2,rfl,_,rfl⟩,_,t2,rfl⟩
  ·have hb':=hf c hc
   have lt:c<s.heap.objs.size:=by
    obtain⟨u',v',q3⟩:=q3
    obtain⟨o4,q4,_⟩:=iM q4
    obtain⟨o5,q5,_⟩:=iM q5
    simp only[QD,Q8,R4]at hc
    rcases hc with rfl|rfl|rfl|rfl|rfl
    ·exact zlt
    ·exact QE q2
    ·exact QE q3
    ·exact QE q4
    ·exact QE q5
   rw[aq (QZ lt)];exact hb'.1
 done:=by
  intro Y hP hw hK hc i pins s σ H E I hf st hg
  subst hP hw hK
  obtain⟨xs,ys,hq,hr,hl⟩:=hg
  obtain⟨its,rv,p1,hz⟩:=mS I hq
  obtain⟨jts,rw',p2,hz'⟩:=mS I hr
  obtain⟨q1,q2,q3,q4,q5⟩:=st
  have l1:=rv.length
  have l2:=rw'.length
  refine Zs.pyDone (I.ok.hd hc) (wk κ (i:=i1) (l:=a) (xs:=its.toArray) D.l1i1) (wk κ' (i:=i2) (l:=b) (xs:=jts.toArray) D.l2i2) ⟨D,q1,q2,q3,⟨q4,p1⟩,⟨q5,p2⟩⟩ ?_ fun h1 k1=>⟨rfl,o3 (s:=s) (t2:=s.toks) (ch:=[z,TI,TO,i1,i2]) I (fun c o nc q=>k1 c o (fun e=>nc ?_) q) hf⟩
  ·rcases hl with hl|hl
   ·exact .inl (by simp;omega)
   ·exact .inr (by simp;omega)
  ·simp only[QD,Q8,R4]at e⊢
   rcases e with e|e|e|e<;>simp[e]
 self:=fun _ _ _ _ _ st h=>wpAny_pyIter_zip st.1 h
theorem ES{b:Expr}{m:List D}(hg:Gl X "zip")(hm0:X.mg "zip" = none)(ha:AD X ρ [a,b] [kF κ l,kF κ' m] k)(hst:∀e∈[a,b],∀y p,e ≠ .Starred y p)(hf:ao l=true)(hm:ao m=true) :
  IE X ρ (.Tuple es n1 tp) (.Call (.Name "zip" p) [a,b] [] pos) (List.zipWith (fun x y=>.tup [x,y]) l m) k:=by
 intro ow pins s σ H R I ⟨E,q⟩
 have n1':=aN (env:=X.env) (es:=[b]) (hst a (by simp))
 have n2':(backTo pos (starEach [b] X.env)).any (·.1)=false:=cn fun x hx=>hst x (by simp at hx;simp[hx])
 refine Call_ (fG I hg hm0 (show bootBuiltins "zip" = some (.type "zip") by decide +kernel) (Rv (aL (ha ow pos pins s σ H (fun vs H1=>au H H1/\ah X.K H1 (Kp ow H k) [kF κ l,kF κ' m] vs) I ⟨E,fun vs H1 s1 r1=>⟨s1,r1⟩⟩) fun us s1 ⟨vs,H1,I1,rv,sm,rp⟩=>?_) n1' n2') (by decide +kernel) (by decide +kernel))
 rw[ah]at rp
 obtain⟨v1,vr,rfl,rp1,rp2⟩:=rp
 obtain⟨v2,rfl,rp3⟩:=rp2.only
 obtain⟨ta,xs,rfl,hq,rl,hk1⟩:=r9 rp1
 obtain⟨tb,ys,rfl,hr,rm,hk2⟩:=r9 rp3
 obtain⟨u1,u2,rfl,ru1,ru2⟩:=oD rv
 cases (show u1=Value.ref ta from ru1)
 cases (show u2=Value.ref tb from ru2)
 obtain⟨its,rvs,pt,hz⟩:=mS I1 hq
 obtain⟨jts,rvs',pt',hz'⟩:=mS I1 hr
 refine As (κ:=κ) (κ':=κ') pt pt' fun h2 Z k2=>?_
 refine wpAny_pyIter_zip Z.rd ?_
 have I2:aj X pins σ H1 { s1 with heap:=h2 }:=I1.kept (t':=s1.toks) k2
 have fr:∀j,fQ X pins H1 (s1.heap.objs.size+j):=fun j=>I1.fpOk (RO _ _) (I1.hok.fresh (RO _ _))
 refine⟨s1.heap.objs.size+4,[s1.heap.objs.size+4,s1.heap.objs.size+2,s1.heap.objs.size+3,s1.heap.objs.size,s1.heap.objs.size+1],_,_,H1,rfl,I2,xF κ κ' ta tb _ _ _ _ _ Z.ap,⟨Z.rd,Z.ins,Z.out,Z.fst.1,Z.snd.1⟩,fun c hc=>?_,q _ H1 sm ?_⟩
 ·simp only[QD,Q8,R4]at hc
  rcases hc with rfl|rfl|rfl|rfl|rfl
  ·exact fr 4
  ·exact fr 2
  ·exact fr 3
  ·exact fr 0
  ·exact fr 1
 ·intro i H2 st
  have rl':ah X.K H1 (Kd ow H k H1) l xs:=rl.flat _ hf
  have rm':ah X.K H1 (Kd ow H k H1) m ys:=rm.flat _ hm
  refine⟨fun d hd=>?_,fun hle=>?_⟩
  ·rw[List.getElem?_zipWith]at hd
   cases e:l[i]? with
   | none=>rw[e]at hd;cases hd
   | some x =>
    cases e':m[i]? with
    | none=>rw[e,e']at hd;cases hd
    | some y =>
     rw[e,e']at hd;cases hd
     obtain⟨u,hu,ru⟩:=rl'.get e
     obtain⟨v,hv,rv⟩:=rm'.get e'
     refine⟨⟨xs,ys,u,v,hk1 st,hu,hk2 st,hv⟩,fun x' H3 ⟨p',u',v',e1,e2,e3,e4,e5⟩=>?_⟩
     have c1:=e4 xs (hk1 st)
     have c2:=e5 ys (hk2 st)
     rw[hu]at c1;cases c1
     rw[hv]at c2;cases c2
     subst e1 e3
     have sm3:=cJ (o:=HO.tup [u,v]) e2
     refine⟨sm3,?_⟩
     rw[ae]
     exact⟨p',_,rfl,aZ.of aC,ah.cons ((ru.mono st).same sm3) (ah.one ((rv.mono st).same sm3))⟩
  ·rw[List.length_zipWith]at hle
   have l1:=rl.length
   have l2:=rm.length
   exact⟨xs,ys,hk1 st,hk2 st,by omega⟩
theorem vk{x:D}(h:fD x=some l):∃κ,x=kF κ l:=by
 rcases fZ h with rfl|rfl
 ·exact⟨true,rfl⟩
 ·exact⟨false,rfl⟩
theorem ET:jX "zip" Bq:=by
 refine⟨by decide +kernel,fun X ρ p pos args ds k d j l tg o hc hg hm ha hst hlen h hp hl ht=>?_⟩
 have ht2:lh tg=true:=by simpa [fq]using ht
 obtain⟨es,n1,tp,rfl⟩:=yU ht2
 unfold Bq at h
 split at h
 ·cases h
  cases hl
  match args,hlen,ha,hst with
  | [a',b'],_,ha,hst=>exact HI hg hm ha hst hp.1 hp.2.1
 ·split at h
  ·rename_i x y _ a b e1 e2
   cases h
   cases hl
   obtain⟨κ,rfl⟩:=vk e1
   obtain⟨κ',rfl⟩:=vk e2
   match args,hlen,ha,hst with
   | [a',b'],_,ha,hst=>exact ES hg hm ha hst hp.1 hp.2.1
  ·cases h
 ·cases h
open AutoSeq1 (wpAny_loadPart')
variable{X:Cx}
section
variable{prog:Program}{w:World}{A:Around}{E:Value->Shared->Prop}{s:Shared}
end
open PySem.W (KasT kas_sort kas_ask KatLex KatTups kat_sorted kat_kind kat_lt kat_cons kat_nil kat_go kat_yes kat_no kat_one KasFin)
noncomputable def lx(fin:Bool):List Int->List Int->Bool
 | x::xs,y::ys=>if x=y then lx fin xs ys else decide (x<y)
 | _,_=>fin
theorem yz:∀xs ys:List Int,lx (decide (xs.length<ys.length)) xs ys=HT.lexLt xs ys
 | [],[]=>rfl
 | [],_::_=>rfl
 | _::_,[]=>rfl
 | x::xs,y::ys=>by
  rw[HT.lexLt_cons,lx]
  have:decide ((x::xs).length<(y::ys).length)=decide (xs.length<ys.length):=by simp
  rw[this,yz xs ys]
section
variable{prog:Program}{w:World}{A:Around}{E:Value->Shared->Prop}{s:Shared}
theorem wJ{x y:Int}{t u:Tok}{Q:Bool->Shared->Prop}(h:Q (decide (x<y)) s):wpAny (model prog w) A (oneLt' b (.int x t) (.int y u)) Q E s:=by
 cases b with
 | true=>exact oneLt_int h
 | false=>exact kat_one _ _ (lt_int h)
theorem sW{b fin:Bool}{Q:Bool->Shared->Prop}:∀(xs ys:List Int) (us vs:List Value) (i:Nat),aD (xs.map V.int) us->aD (ys.map V.int) vs->Q (lx fin xs ys) s->KatLex prog w A b fin Q (us.zip vs) i s
 | [],ys,us,vs,i,r1,r2,q=>by
  cases r1
  exact kat_nil (by cases ys<;>exact q)
 | x::xs,[],us,vs,i,r1,r2,q=>by
  cases r2
  rw[List.zip_nil_right]
  exact kat_nil q
 | x::xs,y::ys,us,vs,i,r1,r2,q=>by
  cases r1 with
  | cons a1 b1 =>
   cases r2 with
   | cons a2 b2 =>
    obtain⟨t,rfl⟩:=a1
    obtain⟨u,rfl⟩:=a2
    refine kat_cons (wpAny_eqBool_int ?_)
    refine kat_go (fun e=>kat_yes ?_) fun e=>kat_no ?_
    ·have e:x=y:=by simpa using e
     refine sW xs ys _ _ (i+1) b1 b2 ?_
     rw[lx,if_pos e]at q;exact q
    ·have e:x≠y:=by simpa using e
     rw[lx,if_neg e]at q
     exact wJ q
end
theorem bD.length:∀{vs:List V} {r:List (List Int)},bD K H vs r->vs.length=r.length
 | [],[],_=>rfl
 | v::vs,ns::r,h=>by rw[QP,QP,h.2.length]
 | [],_::_,h=>h.elim
 | _::_,[],h=>h.elim
theorem bD.get{K:W.Frag}{H:Hp}:∀{vs:List V} {r:List (List Int)} {i:Nat},bD K H vs r->i<vs.length->∃a,vs[i]?=some (.ref a)/\aZ K H a ((r.getD i []).map V.int)/\r.getD i []≠[]
 | [],_,_,_,h=>by cases h
 | v::vs,[],_,h,_=>h.elim
 | v::vs,ns::r,0,h,_=>by
  obtain⟨a,e,h1,h2⟩:=h.1
  exact⟨a,by rw[e];rfl,h1,h2⟩
 | v::vs,ns::r,i+1,h,hi=>by
  obtain⟨a,h1,h2,h3⟩:=bD.get (i:=i) h.2 (by simpa using hi)
  exact⟨a,by simpa using h1,by simpa using h2,by simpa using h3⟩
variable{X:Cx}
noncomputable def cZ:List D->Option (List (List Int))
 | []=>some []
 | .tup l::r=>(match cX l,cZ r with
  | some (n::ns),some q=>some ((n::ns)::q)
  | _,_=>none)
 | _=>none
theorem hJ{K:W.Frag}{P:ba}{H:Hp}:∀{l:List D} {nss:List (List Int)} {ts:List V},cZ l=some nss->ah K H P l ts->bD K H ts nss/\ao l=true
 | [],nss,ts,h,r=>by
  rw[cZ]at h;cases h
  rw[ah]at r;subst r
  exact⟨trivial,rfl⟩
 | d::l,nss,ts,h,r=>by
  rw[ah]at r
  obtain⟨v,vs,rfl,r1,r2⟩:=r
  cases d with
  | tup m =>
   rw[cZ]at h
   split at h
   ·rename_i n ns q e1 e2
    cases h
    obtain⟨h1,h2⟩:=hJ e2 r2
    cases iN e1
    rw[ae]at r1
    obtain⟨a,ws,rfl,hs,rl⟩:=r1
    refine⟨⟨⟨a,rfl,by rw[<- rl.mapInt];exact hs,by simp⟩,h1⟩,?_⟩
    rw[ao,h2,D.lless]
    have:∀ns:List Int,ao (ns.map D.int)=true:=by
     intro ns
     induction ns with
     | nil=>rfl
     | cons n ns ih=>rw[QU,ao,ih];rfl
    rw[this];rfl
   ·cases h
  | _=>cases h
theorem br{r:Rs α}{a:α}{l:List Prop}(h:r=.ok a l)(hp:aB l):aa r a:=⟨l,h,hp⟩
theorem aa.eq{r:Rs α}{a b:α}(h:aa r a)(e:a=b):aa r b:=e ▸ h
theorem aa.bnd{r:Rs α}{f:α->Rs β}{a:α}{b:β}(h1:aa r a)(h2:aa (f a) b):aa (r.bnd f) b:=by
 obtain⟨l,rfl,p1⟩:=h1
 obtain⟨m,h2,p2⟩:=h2
 refine⟨l++m,?_,dn.mpr ⟨p1,p2⟩⟩
 show(match f a with | .st=>(.st:Rs β) | .ok b m=>Rs.ok b (l++m))=_
 rw[h2]
theorem aa.inj{r:Rs α}{a b:α}(h:aa r a)(g:aa r b):a=b:=by
 obtain⟨l,h,_⟩:=h;obtain⟨m,g,_⟩:=g;rw[h]at g;cases g;rfl
section
variable{Φ:Fx}{sc:Scope}{ρ ρ':ac}{fl:Fl}{ss:List Stmt}
theorem fo(h:aa (az Φ body sc (gI ps ds)) (.rt d))(hl:ds.length=ps.length:=by rfl):aa (cu Φ sc ps body ds) d:=by
 unfold cu;rw[if_pos hl];exact h.bnd ⟨[],rfl,True.intro⟩
theorem dB:aa (az Φ [] sc ρ) (.nx ρ):=⟨[],rfl,True.intro⟩
theorem bY{s:Stmt}(h:aa (e8 Φ s sc ρ) (.nx ρ'))(h2:aa (az Φ ss sc ρ') fl):aa (az Φ (s::ss) sc ρ) fl:=aa.bnd h h2
theorem ku{s:Stmt}(h:aa (e8 Φ s sc ρ) fl)(hf:∀ρ,fl ≠ .nx ρ):aa (az Φ (s::ss) sc ρ) fl:=aa.bnd h (by
 cases fl with
 | nx ρ=>exact absurd rfl (hf ρ)
 | rt d=>exact⟨[],rfl,True.intro⟩
 | bk ρ=>exact⟨[],rfl,True.intro⟩
 | ct ρ=>exact⟨[],rfl,True.intro⟩)
theorem iE{s:Stmt}(h:aa (e8 Φ s sc ρ) (.rt d)):aa (az Φ (s::ss) sc ρ) (.rt d):=ku h fun _ z=>by cases z
theorem rY{s:Stmt}(h:aa (az Φ (s::ss) sc ρ) fl):(∃ρ',aa (e8 Φ s sc ρ) (.nx ρ')/\aa (az Φ ss sc ρ') fl)\/((∀ρ,fl ≠ .nx ρ)/\aa (e8 Φ s sc ρ) fl):=by
 obtain⟨f,h1,h2⟩:=ar (show aa (Rs.bnd _ _) fl from h)
 cases f with
 | nx ρ'=>exact .inl ⟨ρ',h1,h2⟩
 | rt d=>cases aJ h2;exact .inr ⟨fun _ z=>(by cases z),h1⟩
 | bk ρ=>cases aJ h2;exact .inr ⟨fun _ z=>(by cases z),h1⟩
 | ct ρ=>cases aJ h2;exact .inr ⟨fun _ z=>(by cases z),h1⟩
theorem zS:∀{a:List Stmt} {ρ:ac},aa (az Φ a sc ρ) (.nx ρ')->aa (az Φ ss sc ρ') fl->aa (az Φ (a++ss) sc ρ) fl
 | [],ρ,h,h2=>by cases aJ h;exact h2
 | s::a,ρ,h,h2=>by
  rcases rY h with⟨ρ1,h3,h4⟩|⟨h3,_⟩
  ·exact bY h3 (zS h4 h2)
  ·exact absurd rfl (h3 _)
theorem qv:∀{a:List Stmt} {ρ:ac},aa (az Φ (a++ss) sc ρ) fl->(∃ρ',aa (az Φ a sc ρ) (.nx ρ')/\aa (az Φ ss sc ρ') fl)\/((∀ρ,fl ≠ .nx ρ)/\aa (az Φ a sc ρ) fl)
 | [],ρ,h=>.inl ⟨ρ,dB,h⟩
 | s::a,ρ,h=>by
  rcases rY h with⟨ρ1,h3,h4⟩|⟨h3,h4⟩
  ·rcases qv h4 with⟨ρ2,h5,h6⟩|⟨h5,h6⟩
   ·exact .inl ⟨ρ2,bY h3 h5,h6⟩
   ·exact .inr ⟨h5,bY h3 h6⟩
  ·exact .inr ⟨h3,ku h4 h3⟩
theorem dC(n:Nat)(h:aa (az Φ (ss.take n) sc ρ) (.nx ρ'))(h2:aa (az Φ (ss.drop n) sc ρ') fl):aa (az Φ ss sc ρ) fl:=by
 rw[<- Re n ss];exact zS h h2
theorem oG{a b:List Stmt}(hc:aa (av Φ c false sc ρ) (.bl t,k))(h1:t=true->aa (az Φ (a++ss) sc ρ) fl)(h2:t=false->aa (az Φ (b++ss) sc ρ) fl):aa (az Φ (.If c a b p::ss) sc ρ) fl:=by
 have key:∀x,aa (cond t (az Φ a sc ρ) (az Φ b sc ρ)) x->aa (e8 Φ (.If c a b p) sc ρ) x:=fun x hx=>aa.bnd hc hx
 cases t with
 | true =>
  rcases qv (h1 rfl)with⟨ρ1,h3,h4⟩|⟨h3,h4⟩
  ·exact bY (key _ h3) h4
  ·exact ku (key _ h4) h3
 | false =>
  rcases qv (h2 rfl)with⟨ρ1,h3,h4⟩|⟨h3,h4⟩
  ·exact bY (key _ h3) h4
  ·exact ku (key _ h4) h3
theorem rZ{a b:List Stmt}(hc:aa (av Φ c false sc ρ) (.bl t,k))(ht:t=true)(h1:aa (az Φ (a++ss) sc ρ) fl):aa (az Φ (.If c a b p::ss) sc ρ) fl:=oG hc (fun _=>h1) fun z=>by rw[ht]at z;cases z
theorem cF{a b:List Stmt}(hc:aa (av Φ c false sc ρ) (.bl t,k))(ht:t=false)(h1:aa (az Φ (b++ss) sc ρ) fl):aa (az Φ (.If c a b p::ss) sc ρ) fl:=oG hc (fun z=>by rw[ht]at z;cases z) fun _=>h1
theorem zf{it:Expr}(hi:aa (av Φ it true sc (demote it ρ)) (d,k))(hd:items d=some ds)(hk:k<=1)(ht:fq it tg=true)(h:aa (fc (bK sc tg) (az Φ body sc) ds (demote it ρ)) fl):aa (e8 Φ (.For tg it body [] p) sc ρ) fl:=by
 rw[qh,if_pos (show List.isEmpty ([]:List Stmt)=true from rfl)]
 refine hi.bnd ?_
 dsimp only
 rw[hd]
 dsimp only
 rw[if_pos ⟨hk,ht⟩]
 exact h
theorem bi{v:D}(ha:aa (bQ Φ args sc ρ) (ds,k))(hv:aa (F ds) v)(hF:Φ.fn f=some F:=by rfl)(hg:sc.names.lookup f=some .globalImplicit:=by rfl):aa (av Φ (.Call (.Name f p) args [] q) it sc ρ) (v,0):=by
 rw[ik,if_pos hg]
 refine ha.bnd ?_
 unfold jV
 rw[hF]
 exact hv.bnd ⟨[],rfl,True.intro⟩
theorem ij{v:D×Nat}(ha:aa (bQ Φ args sc ρ) (ds,k))(hv:aa (B ds) v)(hF:Φ.fn f=none:=by rfl)(hI:(if it=true then Φ.itr f else none)=none:=by rfl)(hB:Φ.blt f=some B:=by rfl)(hg:sc.names.lookup f=some .globalImplicit:=by rfl):aa (av Φ (.Call (.Name f p) args [] q) it sc ρ) v:=by
 rw[ik,if_pos hg]
 refine ha.bnd ?_
 unfold jV
 rw[hF];dsimp only
 rw[hI];dsimp only
 rw[hB];exact hv
theorem d6:aa (bQ Φ [] sc ρ) ([],0):=⟨[],rfl,True.intro⟩
theorem cy(h:aa (av Φ e false sc ρ) (d,k))(h2:aa (bQ Φ es sc ρ) (ds,j)):aa (bQ Φ (e::es) sc ρ) (d::ds,kj k j):=aa.bnd h (aa.bnd h2 ⟨[],rfl,True.intro⟩)
theorem vX{out:List D}(hi:aa (av Φ iter true sc ρ) (d,k))(hd:items d=some ds)(hl:ds.length<=bJ/\(ao ds=true\/k<=1))
    (h:aa (gp (fun d=>match bK scope tg d (flt scope ρ)with
            | none=>.st
            | some ρ'=>(dW Φ .And ifs scope ρ').bnd fun b=>cond b ((av Φ elt false scope ρ').bnd fun r=>.ok (some r) []) (.ok none [])) ds) (out,j)) (hj:j<=1) (hc:nP sc scope=true:=by rfl) (ht:fq iter tg=true:=by rfl):aa (av Φ (.ListComp elt [⟨tg,iter,ifs,0⟩] scope p) it sc ρ) (.lst out,j):=by
  rw[qi,if_pos hc]
  refine hi.bnd ?_
  dsimp only
  rw[hd]
  dsimp only
  rw[if_pos ht]
  refine aa.bnd (a:=()) ⟨_,rfl,hl.1,hl.2,True.intro⟩ ?_
  refine h.bnd ?_
  rw[if_pos hj]
  exact⟨[],rfl,True.intro⟩
theorem rE{i:Expr}{x:D}{j:Int}(ha:aa (av Φ a false sc ρ) (x,k))(hi:aa (av Φ i false sc ρ) (.int j,k2))(hx:fD x=some l)(hd:L2.atI l j=some d):aa (av Φ (.Subscript a i p) it sc ρ) (d,kn d k):=by
 have key:aa ((av Φ a false sc ρ).bnd fun p=>(av Φ i false sc ρ).bnd fun q=>jD p q) (d,kn d k):=by
  refine ha.bnd (hi.bnd ?_)
  rcases fZ hx with rfl|rfl
  ·show aa (tq (.tup l) j k) _
   unfold tq
   rw[hx];dsimp only
   rw[hd];exact⟨[],rfl,True.intro⟩
  ·show aa (tq (.lst l) j k) _
   unfold tq
   rw[hx];dsimp only
   rw[hd];exact⟨[],rfl,True.intro⟩
 cases i with
 | Slice lo hi st p2=>exact(am hi).elim
 | _=>exact key
theorem dg(h:aa (av Φ e false sc ρ) (d,0))(hx:cq sc x=true:=by rfl):aa (e8 Φ (.Assign [.Name x p] e q) sc ρ) (.nx (aI ρ x (d,true))):=by
 refine aa.bnd h ?_
 unfold pT
 rw[if_pos hx]
 exact⟨[],rfl,True.intro⟩
theorem gB(h:aa (av Φ e false sc ρ) (d,k))(hk:k=0\/k=2:=by exact .inl rfl)(hn:rq e=false:=by rfl):aa (e8 Φ (.Return (some e) q) sc ρ) (.rt d):=by
 have h:aa (av Φ e false sc (sr e ρ)) (d,k):=by unfold sr;rw[hn];exact h
 refine aa.bnd h ?_
 unfold wy
 rw[if_pos hk]
 exact⟨[],rfl,True.intro⟩
end
theorem tM{bind:D->ac->Option ac}{body:ac->Rs Fl}(aj:List D->ac->Prop)(step:∀d l ρ,aj (d::l) ρ->∃ρ1 ρ2,bind d ρ=some ρ1/\(aa (body ρ1) (.nx ρ2)\/aa (body ρ1) (.ct ρ2))/\aj l ρ2):∀{ds:List D} {ρ:ac},aj ds ρ->∃ρ',aa (fc bind body ds ρ) (.nx ρ')/\aj [] ρ'
 | [],ρ,h=>⟨ρ,⟨[],rfl,True.intro⟩,h⟩
 | d::l,ρ,h=>by
  obtain⟨ρ1,ρ2,h1,h2,h3⟩:=step d l ρ h
  obtain⟨ρ',h4,h5⟩:=tM aj step h3
  refine⟨ρ',?_,h5⟩
  show aa (match bind d ρ with|none=>(.st:Rs Fl)|some ρ1=>(body ρ1).bnd (kW (fc bind body l))) _
  rw[h1]
  rcases h2 with h2|h2
  ·exact h2.bnd h4
  ·exact h2.bnd h4
theorem qU{α:Type}{step:D->Rs (Option (D×Nat))}{g:α->D}{f:α->D}:∀{l:List α},(∀x∈l,aa (step (g x)) (some (f x,0)))->aa (gp step (l.map g)) (l.map f,0)
 | [],_=>⟨[],rfl,True.intro⟩
 | x::l,h=>aa.bnd (h x Qy) (aa.bnd (qU fun y hy=>h y (Qz _ hy)) ⟨[],rfl,True.intro⟩)
theorem lw{α:Type}{step:D->Rs (Option (D×Nat))}{g:α->D}{f:α->D}{c:α->Bool}:∀{l:List α},(∀x∈l,aa (step (g x)) (cond (c x) (some (f x,0)) none))->aa (gp step (l.map g)) ((l.filter c).map f,0)
 | [],_=>⟨[],rfl,True.intro⟩
 | x::l,h=>by
  have h1:=h x Qy
  have h2:=lw (c:=c) fun y hy=>h y (Qz _ hy)
  cases e:c x with
  | true =>
   rw[e]at h1
   rw[List.filter_cons_of_pos e]
   exact aa.bnd h1 (aa.bnd h2 ⟨[],rfl,True.intro⟩)
  | false =>
   rw[e]at h1
   rw[List.filter_cons_of_neg (by rw[e];decide)]
   exact aa.bnd h1 (aa.bnd h2 ⟨[],rfl,True.intro⟩)
theorem mK{a b:Int}(h:a.natAbs<18446744073709551616):bS a b:=.inl h
theorem Ev{a b:Int}(h:b.natAbs<18446744073709551616):bS a b:=.inr (.inl h)
theorem bH{a b:Int}(h:a.natAbs<dO)(g:b.natAbs<dO):bS a b:=.inr (.inr (.inl ⟨h,g⟩))
theorem Jp(h:n<2 ^ 64):n<dO:=QK h (Sn (by decide) (by decide))
theorem v4{b:Int}(h0:b≠0)(h:b.natAbs<18446744073709551616):pq b:=⟨h0,Jp h⟩
theorem FF{i:Int}(h0:0<=i)(h1:i<ns.length):L2.atI (ns.map D.int) i=some (.int (ns.getD i.toNat 0)):=by
 obtain⟨j,rfl⟩:=Int.eq_ofNat_of_zero_le h0
 have hj:j<ns.length:=by omega
 have:=v8 (xs:=ns.map D.int) (j:=j) (v:=.int (ns.getD j 0)) (by simp[hj])
 simpa using this
theorem o8(ns:List Int):cX (ns.map D.int)=some ns:=by
 induction ns with
 | nil=>rfl
 | cons n ns ih=>rw[QU,cX,ih];rfl
theorem BK:aB []:=True.intro
theorem xj{l m:List Prop}(h:aB l)(g:aB m):aB (l++m):=dn.mpr ⟨h,g⟩
theorem BJ{p:Prop}(h:p):aB [p]:=⟨h,True.intro⟩
theorem uS{p:Prop}{l:List Prop}(h:p)(g:aB l):aB (p::l):=⟨h,g⟩
noncomputable def Sub(C ρ:ac):Prop:=∀x y,C x=some y->ρ x=some y
theorem Sub.refl(ρ:ac):Sub ρ ρ:=fun _ _ h=>h
theorem Sub.trans{a b c:ac}(h:Sub a b)(g:Sub b c):Sub a c:=fun x y e=>g x y (h x y e)
theorem Sub.put(h:Sub C ρ)(x:Str)(y:D×Bool):Sub (aI C x y) (aI ρ x y):=fun z w e=>by
 rw[bm]at e⊢
 by_cases hz:z=x
 ·rw[if_pos hz]at e⊢;exact e
 ·rw[if_neg hz]at e⊢;exact h z w e
theorem Sub.flt(h:Sub C ρ)(scope:Scope):Sub (flt scope C) (flt scope ρ):=fun z w e=>by
 obtain⟨e1,e2⟩:=jP e
 unfold Sp.flt
 rw[if_pos e2];exact h z w e1
theorem Sub.demX(h:Sub C ρ)(x:Str):Sub (demX x C) (demX x ρ):=by
 unfold Sp.demX
 intro z w hz
 by_cases hx:z=x
 ·simp only[if_pos hx]at hz⊢
  cases hc:C z with
  | none=>rw[hc]at hz;cases hz
  | some q=>rw[hc]at hz;rw[h z q hc];exact hz
 ·simp only[if_neg hx]at hz⊢;exact h z w hz
theorem Sub.demA(h:Sub C ρ)(x:Str):Sub (demA x C) (demA x ρ):=by
 intro z w hz
 unfold Sp.demA at hz⊢
 by_cases hx:z=x
 ·simp only[if_pos hx]at hz⊢
  cases hc:C z with
  | none=>rw[hc]at hz;cases hz
  | some q=>rw[hc]at hz;rw[h z q hc];exact hz
 ·simp only[if_neg hx]at hz⊢;exact h z w hz
theorem Sub.demL:∀{es:List Expr} {C ρ:ac},Sub C ρ->Sub (demL es C) (demL es ρ)
 | [],_,_,h=>h
 | e::es,C,ρ,h=>by
  cases e with
  | Name x p=>exact Sub.demL (es:=es) (h.demA x)
  | Subscript a i p =>
   cases a with
   | Name x q=>exact Sub.demL (es:=es) (h.demA x)
   | _=>exact Sub.demL (es:=es) h
  | _=>exact Sub.demL (es:=es) h
theorem Sub.demote(h:Sub C ρ)(e:Expr):Sub (demote e C) (demote e ρ):=by
 unfold Sp.demote
 split
 ·exact h.demX _
 ·exact h.demX _
 ·exact h.demL
 ·exact h
theorem qI:∀{es:List Expr} {ds:List D} {C C' ρ:ac},aQ sc es ds C=some C'->Sub C ρ->∃ρ',aQ sc es ds ρ=some ρ'/\Sub C' ρ':=by
 intro es
 induction es with
 | nil =>
  intro ds C C' ρ h s
  cases ds with
  | nil=>cases h;exact⟨ρ,rfl,s⟩
  | cons d ds=>cases h
 | cons e es ih =>
  intro ds C C' ρ h s
  cases ds with
  | nil=>cases e<;>cases h
  | cons d ds =>
   cases e with
   | Name z p =>
    rw[aQ]at h⊢
    split at h
    ·rename_i hz
     rw[if_pos hz]
     exact ih h (s.put _ _)
    ·cases h
   | _=>cases h
theorem rT(h:bK sc tg d C=some C')(s:Sub C ρ):∃ρ',bK sc tg d ρ=some ρ'/\Sub C' ρ':=by
 unfold bK at h⊢
 split at h
 ·split at h
  ·rename_i hx;cases h;exact⟨_,if_pos hx,s.put _ _⟩
  ·cases h
 ·split at h
  ·exact qI h s
  ·cases h
 ·cases h
theorem eZ{m:List Prop}(h:b=true->aB m):aB (gd b m):=by
 cases m with
 | nil=>exact True.intro
 | cons p l=>exact⟨h,True.intro⟩
theorem uo{c:Bool}{r:Rs Bool}(h:b=true->aa r c)(hf:b=false->c=false):aa (xi b r) c:=by
 cases b with
 | true =>
  obtain⟨m,rfl,hm⟩:=h rfl
  exact⟨_,rfl,eZ fun _=>hm⟩
 | false =>
  rw[hf rfl]
  cases r with
  | ok c' m=>exact⟨_,rfl,eZ fun z=>(by cases z)⟩
  | st=>exact⟨_,rfl,True.intro⟩
theorem wG{c:Bool}{r:Rs Bool}(h:b=false->aa r c)(hf:b=true->c=true):aa (Cw b r) c:=by
 cases b with
 | false =>
  obtain⟨m,rfl,hm⟩:=h rfl
  exact⟨_,rfl,eZ fun _=>hm⟩
 | true =>
  rw[hf rfl]
  cases r with
  | ok c' m=>exact⟨_,rfl,eZ fun z=>(by cases z)⟩
  | st=>exact⟨_,rfl,True.intro⟩
theorem CN{r s:R1}{d:D×Nat}(h:aa (if t=true then r else s) d):aa (CO t r s) d:=by
 cases t with
 | true =>
  rw[if_pos rfl]at h
  obtain⟨m,rfl,hm⟩:=h
  cases s with
  | ok q n=>exact⟨_,by show Rs.ok _ _=Rs.ok _ _;rw[sN,CI],dn.mpr ⟨eZ fun _=>hm,eZ fun z=>(by cases z)⟩⟩
  | st=>exact⟨m,rfl,hm⟩
 | false =>
  rw[if_neg QT]at h
  obtain⟨m,rfl,hm⟩:=h
  cases r with
  | ok q n=>exact⟨_,by show Rs.ok _ _=Rs.ok _ _;rw[sO,CJ],dn.mpr ⟨eZ fun z=>(by cases z),eZ fun _=>hm⟩⟩
  | st=>exact⟨m,rfl,hm⟩
theorem lD{p:D×Nat}{f:Bool->Rs α}{a:α}(h:p.1=.bl b)(h2:aa (f b) a):aa (lE p f) a:=by
 unfold lE;rw[h];exact h2
structure Mo(Φ:Fx)(n:Nat):Prop where
 e:∀(e:Expr) {it:Bool} {sc:Scope} {C ρ:ac} {p:D×Nat},sizeOf e<n->aa (av Φ e it sc C) p->Sub C ρ->aa (av Φ e it sc ρ) p
 es:∀(es:List Expr) {sc:Scope} {C ρ:ac} {p:List D×Nat},sizeOf es<n->aa (bQ Φ es sc C) p->Sub C ρ->aa (bQ Φ es sc ρ) p
 b:∀(op:BoolOp) (es:List Expr) {sc:Scope} {C ρ:ac} {b:Bool},sizeOf es<n->aa (dW Φ op es sc C) b->Sub C ρ->aa (dW Φ op es sc ρ) b
 o:∀(e:Option Expr) {sc:Scope} {C ρ:ac} {o:Option Int},sizeOf e<n->aa (vY Φ e sc C) o->Sub C ρ->aa (vY Φ e sc ρ) o
theorem vC{step step2:D->Rs (Option (D×Nat))}(h:∀d r,aa (step d) r->aa (step2 d) r):∀{ds:List D} {q:List D×Nat},aa (gp step ds) q->aa (gp step2 ds) q
 | [],q,hq=>hq
 | d::ds,q,hq=>by
  obtain⟨r,h1,h2⟩:=ar (show aa (Rs.bnd _ _) q from hq)
  obtain⟨q1,h3,h4⟩:=ar h2
  exact aa.bnd (h _ _ h1) (aa.bnd (vC h h3) h4)
section
variable{Φ:Fx}{n:Nat}{it:Bool}{sc:Scope}{C ρ:ac}{p:D×Nat}
theorem KB(I:Mo Φ n){i:Expr}(hs:sizeOf (Expr.Subscript a i pos)<n+1)(h:aa ((av Φ a false sc C).bnd fun p=>(av Φ i false sc C).bnd fun q=>jD p q) p)(s:Sub C ρ):aa ((av Φ a false sc ρ).bnd fun p=>(av Φ i false sc ρ).bnd fun q=>jD p q) p:=by
 obtain⟨x,h1,h⟩:=ar h
 obtain⟨y,h2,h⟩:=ar h
 exact aa.bnd (I.e a (be (by simp<;>omega) hs) h1 s) (aa.bnd (I.e i (be (by simp<;>omega) hs) h2 s) h)
theorem NX(I:Mo Φ n)(e:Expr)(hs:sizeOf e<n+1)(h:aa (av Φ e it sc C) p)(s:Sub C ρ):aa (av Φ e it sc ρ) p:=by
 cases e with
 | Constant c k q=>exact h
 | Name x q =>
  replace h:aa (mJ Φ x sc C) p:=h
  show aa (mJ Φ x sc ρ) p
  unfold mJ at h⊢
  split at h
  ·rename_i hx
   rw[if_pos hx]
   split at h
   ·rename_i hg;rw[if_pos hg];exact h
   ·rename_i hg
    rw[if_neg hg]
    split at h
    ·rename_i y hy;rw[s x y hy];exact h
    ·exact(am h).elim
  ·exact(am h).elim
 | BinOp a op b q =>
  obtain⟨x,h1,h⟩:=ar (show aa (Rs.bnd _ _) p from h)
  obtain⟨y,h2,h⟩:=ar h
  exact aa.bnd (I.e a (be (by simp<;>omega) hs) h1 s) (aa.bnd (I.e b (be (by simp<;>omega) hs) h2 s) h)
 | UnaryOp op a q =>
  obtain⟨x,h1,h⟩:=ar (show aa (Rs.bnd _ _) p from h)
  exact aa.bnd (I.e a (be (by simp<;>omega) hs) h1 s) h
 | BoolOp op es q =>
  rw[qj]at h⊢
  split at h
  ·exact(am h).elim
  ·rename_i hne
   rw[if_neg hne]
   obtain⟨b,h1,h⟩:=ar h
   exact aa.bnd (I.b op es (be (by simp<;>omega) hs) h1 s) h
 | Compare a ops bs q =>
  match ops,bs,hs,h with
  | [op],[b],hs,h =>
   obtain⟨x,h1,h⟩:=ar (show aa (Rs.bnd _ _) p from h)
   obtain⟨y,h2,h⟩:=ar h
   exact aa.bnd (I.e a (be (by simp<;>omega) hs) h1 s) (aa.bnd (I.e b (be (by simp<;>omega) hs) h2 s) h)
  | [],bs,_,h=>exact(am h).elim
  | [op],[],_,h=>exact(am h).elim
  | [op],_::_::_,_,h=>exact(am h).elim
  | [op,op2],[b,c],hs,h =>
   obtain⟨x,h1,h⟩:=ar (show aa (Rs.bnd _ _) p from h)
   obtain⟨y,h2,h⟩:=ar h
   obtain⟨z,h3,h⟩:=ar h
   exact aa.bnd (I.e a (be (by simp<;>omega) hs) h1 s) (aa.bnd (I.e b (be (by simp<;>omega) hs) h2 s) (aa.bnd (I.e c (be (by simp<;>omega) hs) h3 s) h))
  | [_,_],[],_,h=>exact(am h).elim
  | [_,_],[_],_,h=>exact(am h).elim
  | [_,_],_::_::_::_,_,h=>exact(am h).elim
  | _::_::_::_,bs,_,h=>exact(am h).elim
 | IfExp c a b q =>
  obtain⟨x,h1,h⟩:=ar (show aa (Rs.bnd _ _) p from h)
  obtain⟨t,ht,h⟩:=je h
  obtain⟨l,h,hp⟩:=h
  obtain⟨m,h,hm⟩:=vS h hp
  refine aa.bnd (I.e c (be (by simp<;>omega) hs) h1 s) (lD ht (CN ?_))
  cases t with
  | true=>exact I.e a (be (by simp<;>omega) hs) ⟨m,h,hm⟩ s
  | false=>exact I.e b (be (by simp<;>omega) hs) ⟨m,h,hm⟩ s
 | Tuple es k q =>
  obtain⟨x,h1,h⟩:=ar (show aa (Rs.bnd _ _) p from h)
  exact aa.bnd (I.es es (be (by simp<;>omega) hs) h1 s) h
 | List es q =>
  obtain⟨x,h1,h⟩:=ar (show aa (Rs.bnd _ _) p from h)
  exact aa.bnd (I.es es (be (by simp<;>omega) hs) h1 s) h
 | Attribute a f q=>exact(am h).elim
 | Dict ks vs q =>
  match ks,vs,h with
  | [],[],h=>exact h
  | _::_,_,h=>exact(am h).elim
  | [],_::_,h=>exact(am h).elim
 | Subscript a i q=>exact KB I hs h s
 | Call f args kws q =>
  cases f with
  | Name f fp =>
   cases kws with
   | nil =>
    rw[ik]at h⊢
    split at h
    ·rename_i hf
     rw[if_pos hf]
     obtain⟨x,h1,h⟩:=ar h
     exact aa.bnd (I.es args (be (by simp<;>omega) hs) h1 s) h
    ·exact(am h).elim
   | cons _ _=>exact(am h).elim
  | Attribute a m ap =>
   cases kws with
   | nil =>
    rw[tT]at h⊢
    split at h
    ·rename_i hf
     rw[if_pos hf]
     obtain⟨x,h1,h⟩:=ar h
     obtain⟨y,h2,h⟩:=ar h
     exact aa.bnd (I.e a (be (by simp<;>omega) hs) h1 s) (aa.bnd (I.es args (be (by simp<;>omega) hs) h2 s) h)
    ·exact(am h).elim
   | cons _ _=>exact(am h).elim
  | _=>exact(am h).elim
 | ListComp elt gens scope q =>
  obtain⟨l0,h0,_⟩:=id h
  obtain⟨tg,iter,ifs,rfl⟩:=qe h0
  rw[qi]at h⊢
  split at h
  ·rename_i hc
   rw[if_pos hc]
   obtain⟨x,h1,h⟩:=ar h
   refine aa.bnd (I.e iter (by first|omega|(simp at *;omega)) h1 s) ?_
   split at h
   ·split at h
    ·rename_i hl
     rw[if_pos hl]
     obtain⟨u0,h0',h⟩:=ar h
     obtain⟨y,h2,h⟩:=ar h
     refine aa.bnd h0' (aa.bnd (vC (fun d r hr=>?_) h2) h)
     split at hr
     ·exact(am hr).elim
     ·rename_i C' hb
      obtain⟨ρ',hb',s'⟩:=rT hb (s.flt scope)
      rw[hb']
      obtain⟨b,h3,hr⟩:=ar hr
      refine aa.bnd (I.b .And ifs (by first|omega|(simp at *;omega)) h3 s') ?_
      cases b with
      | false=>exact hr
      | true =>
       rw[cond_true]at hr⊢
       obtain⟨z,h4,hr⟩:=ar hr
       exact aa.bnd (I.e elt (by first|omega|(simp at *;omega)) h4 s') hr
    ·exact(am h).elim
   ·exact(am h).elim
  ·exact(am h).elim
 | _=>exact(am h).elim
theorem KC(I:Mo Φ n)(es:List Expr){p:List D×Nat}(hs:sizeOf es<n+1)(h:aa (bQ Φ es sc C) p)(s:Sub C ρ):aa (bQ Φ es sc ρ) p:=by
 cases es with
 | nil=>exact h
 | cons e es =>
  obtain⟨x,h1,h⟩:=ar (show aa (Rs.bnd _ _) p from h)
  obtain⟨y,h2,h⟩:=ar h
  exact aa.bnd (I.e e (be (by simp<;>omega) hs) h1 s) (aa.bnd (I.es es (be (by simp<;>omega) hs) h2 s) h)
theorem NY(I:Mo Φ n)(op:BoolOp)(es:List Expr)(hs:sizeOf es<n+1)(h:aa (dW Φ op es sc C) b)(s:Sub C ρ):aa (dW Φ op es sc ρ) b:=by
 cases es with
 | nil=>cases op<;>exact h
 | cons e es =>
  cases op with
  | And =>
   obtain⟨x,h1,h⟩:=ar (show aa (Rs.bnd _ _) b from h)
   obtain⟨t,ht,l,h,hp⟩:=je h
   refine aa.bnd (I.e e (be (by simp<;>omega) hs) h1 s) (lD ht ?_)
   rcases um h hp with⟨rfl,m,h,pm⟩|⟨rfl,rfl⟩
   ·exact uo (fun _=>I.b .And es (be (by simp<;>omega) hs) ⟨m,h,pm⟩ s) fun z=>(by cases z)
   ·exact uo (fun z=>(by cases z)) fun _=>rfl
  | Or =>
   obtain⟨x,h1,h⟩:=ar (show aa (Rs.bnd _ _) b from h)
   obtain⟨t,ht,l,h,hp⟩:=je h
   refine aa.bnd (I.e e (be (by simp<;>omega) hs) h1 s) (lD ht ?_)
   rcases vy h hp with⟨rfl,m,h,pm⟩|⟨rfl,rfl⟩
   ·exact wG (fun _=>I.b .Or es (be (by simp<;>omega) hs) ⟨m,h,pm⟩ s) fun z=>(by cases z)
   ·exact wG (fun z=>(by cases z)) fun _=>rfl
theorem NW(I:Mo Φ n)(e:Option Expr){o:Option Int}(hs:sizeOf e<n+1)(h:aa (vY Φ e sc C) o)(s:Sub C ρ):aa (vY Φ e sc ρ) o:=by
 cases e with
 | none=>exact h
 | some e =>
  obtain⟨x,h1,h⟩:=ar (show aa (Rs.bnd _ _) o from h)
  exact aa.bnd (I.e e (be (by simp<;>omega) hs) h1 s) h
end
theorem ji(Φ:Fx):∀n,Mo Φ n
 | 0=>⟨fun _ _ _ _ _ _ h=>absurd h (RA _),fun _ _ _ _ _ h=>absurd h (RA _),fun _ _ _ _ _ _ h=>absurd h (RA _),fun _ _ _ _ _ h=>absurd h (RA _)⟩
 | n+1=>⟨fun e _ _ _ _ _ hs h s=>NX (ji Φ n) e hs h s,fun e _ _ _ _ hs h s=>KC (ji Φ n) e hs h s,fun op e _ _ _ _ hs h s=>NY (ji Φ n) op e hs h s,fun e _ _ _ _ hs h s=>NW (ji Φ n) e hs h s⟩
theorem cW{p:D×Nat}(h:aa (av Φ e it sc C) p)(s:Sub C ρ):aa (av Φ e it sc ρ) p:=(ji Φ _).e e (Rk _) h s
theorem pZ{e:List Expr}{p:List D×Nat}(h:aa (bQ Φ e sc C) p)(s:Sub C ρ):aa (bQ Φ e sc ρ) p:=(ji Φ _).es e (Rk _) h s
noncomputable def BQ:Fl->Fl->Prop
 | .nx a,.nx b=>Sub a b
 | .bk a,.bk b=>Sub a b
 | .ct a,.ct b=>Sub a b
 | .rt a,.rt b=>a=b
 | _,_=>False
theorem dy{a:α}:aa (.ok a []) a:=⟨[],rfl,True.intro⟩
noncomputable def lV(f:ac->Rs Fl):Prop:=∀C ρ fl,aa (f C) fl->Sub C ρ->∃fl',aa (f ρ) fl'/\BQ fl fl'
theorem yv{f:ac->Rs Fl}(h:lV f){x y z:Fl}(hx:aa (kW f x) z)(s:BQ x y):∃z',aa (kW f y) z'/\BQ z z':=by
 cases x<;>cases y<;>first|exact s.elim|skip
 ·exact h _ _ _ hx s
 ·cases aJ hx;cases s;exact⟨_,dy,rfl⟩
 ·cases aJ hx;exact⟨_,dy,s⟩
 ·exact h _ _ _ hx s
theorem yw{sc:Scope}{tg:Expr}{body:ac->Rs Fl}(hb:lV body):∀ds,lV (fc (bK sc tg) body ds)
 | []=>fun C ρ fl h s=>by cases aJ h;exact⟨_,dy,s⟩
 | d::ds=>fun C ρ fl h s=>by
  replace h:aa (match bK sc tg d C with|none=>(.st:Rs Fl)|some ρ1=>(body ρ1).bnd (kW (fc (bK sc tg) body ds))) fl:=h
  split at h
  ·exact(am h).elim
  ·rename_i C1 hC
   obtain⟨ρ1,hρ,s1⟩:=rT hC s
   obtain⟨x,h1,h2⟩:=ar h
   obtain⟨y,h3,s2⟩:=hb _ _ _ h1 s1
   obtain⟨z,h4,s3⟩:=yv (yw hb ds) h2 s2
   refine⟨z,?_,s3⟩
   show aa (match bK sc tg d ρ with|none=>(.st:Rs Fl)|some ρ1=>(body ρ1).bnd (kW (fc (bK sc tg) body ds))) z
   rw[hρ];exact aa.bnd h3 h4
theorem CC{test:ac->Rs Bool}{body:ac->Rs Fl}(ht:∀C ρ b,aa (test C) b->Sub C ρ->aa (test ρ) b)(hb:lV body):∀n,lV (qD test body n)
 | 0=>fun C ρ fl h s=>(am h).elim
 | n+1=>fun C ρ fl h s=>by
  obtain⟨b,h1,h2⟩:=ar (show aa (Rs.bnd _ _) fl from h)
  have h1':=ht _ _ _ h1 s
  cases b with
  | false=>cases aJ h2;exact⟨_,aa.bnd h1' dy,s⟩
  | true =>
   obtain⟨x,h3,h4⟩:=ar (show aa (Rs.bnd _ _) fl from h2)
   obtain⟨y,h5,s2⟩:=hb _ _ _ h3 s
   obtain⟨z,h6,s3⟩:=yv (CC ht hb n) h4 s2
   exact⟨z,aa.bnd h1' (aa.bnd h5 h6),s3⟩
theorem Hh:lV (pi Φ tgs e sc):=by
 intro C ρ fl h s
 unfold pi at h⊢
 split at h
 ·obtain⟨p,h1,h⟩:=ar h
  unfold pT at h
  split at h
  ·rename_i hx
   split at h
   ·rename_i ho;cases aJ h
    exact⟨.nx _,aa.bnd (cW h1 s) (by unfold pT;rw[if_pos hx,ho];exact dy),s.put _ _⟩
   ·rename_i ho;cases aJ h
    exact⟨.nx _,aa.bnd (cW h1 s) (by unfold pT;rw[if_pos hx,ho];exact dy),s.put _ _⟩
   ·exact(am h).elim
  ·exact(am h).elim
 ·split at h
  ·rename_i ht
   rw[if_pos ht]
   unfold rD at h⊢
   split at h
   ·split at h
    ·rename_i hp
     rw[if_pos hp]
     obtain⟨q,h1,h⟩:=ar h
     split at h
     ·rename_i u v hd
      split at h
      ·rename_i hf
       cases aJ h
       refine⟨.nx _,aa.bnd (pZ h1 s) ?_,(s.put _ _).put _ _⟩
       rw[hd];dsimp only;rw[if_pos hf];exact dy
      ·exact(am h).elim
     ·exact(am h).elim
    ·exact(am h).elim
   ·exact(am h).elim
  ·rename_i ht
   rw[if_neg ht]
   obtain⟨p,h1,h⟩:=ar h
   split at h
   ·rename_i ho
    cases aJ h
    refine⟨.nx _,aa.bnd (cW h1 s) (by rw[if_pos ho];exact dy),?_⟩
    show Sub _ _
    unfold AV
    split
    ·exact(s.put _ _).put _ _
    ·exact s
   rename_i ho
   split at h
   ·rename_i ds hd
    split at h
    ·rename_i hf
     split at h
     ·rename_i C' hb
      cases aJ h
      obtain⟨ρ',hb',s'⟩:=qI hb s
      refine⟨.nx _,aa.bnd (cW h1 s) ?_,s'⟩
      rw[if_neg ho,hd];dsimp only;rw[if_pos hf,hb'];exact dy
     ·exact(am h).elim
    ·exact(am h).elim
   ·exact(am h).elim
 ·split at h
  ·rename_i hc
   rw[if_pos hc]
   obtain⟨p,h1,h⟩:=ar h
   obtain⟨q,h2,h⟩:=ar h
   rcases rV h with⟨l,j,l',a1,a2,a3,hj,hs,hf,rfl⟩|⟨ks,ds,k,a1,hk,a3,hf,hz,rfl⟩
   ·refine⟨.nx _,aa.bnd (cW h1 s) (aa.bnd (cW h2 s) ?_),s.put _ _⟩
    rw[hj];unfold rW;rw[s _ _ a1];dsimp only;rw[if_pos a3,hs]
    exact⟨_,rfl,a2,hf,True.intro⟩
   ·refine⟨.nx _,aa.bnd (cW h1 s) (aa.bnd (cW h2 s) ?_),s.put _ _⟩
    unfold rW;rw[s _ _ a1];dsimp only;rw[hk];dsimp only;rw[if_pos a3]
    exact⟨_,rfl,hf,hz,True.intro⟩
  ·exact(am h).elim
 ·exact(am h).elim
theorem Hg:lV (ph Φ e sc):=by
 intro C ρ fl h s
 unfold ph at h⊢
 split at h
 ·split at h
  ·rename_i hln
   rw[if_pos hln]
   obtain⟨p,h1,h⟩:=ar h
   split at h
   ·rename_i M hM
    obtain⟨l,a1,a3,h⟩:=sJ h
    obtain⟨l',h2,h⟩:=ar h
    cases aJ h
    refine⟨.nx _,aa.bnd (pZ h1 s) ?_,s.put _ _⟩
    unfold pX;rw[s _ _ a1];dsimp only;rw[if_pos a3];exact aa.bnd h2 dy
   ·exact(am h).elim
  ·exact(am h).elim
 ·obtain⟨p,h1,h⟩:=ar h
  cases aJ h
  exact⟨.nx _,aa.bnd (cW h1 s) dy,s⟩
 ·exact(am h).elim
structure JK(Φ:Fx)(n:Nat):Prop where
 s:∀(st:Stmt) (sc:Scope),sizeOf st<n->lV (e8 Φ st sc)
 ss:∀(st:List Stmt) (sc:Scope),sizeOf st<n->lV (az Φ st sc)
theorem KA(I:JK Φ n)(st:Stmt)(sc:Scope)(hs:sizeOf st<n+1):lV (e8 Φ st sc):=by
 intro C ρ fl h s
 cases st with
 | Return e p =>
  cases e with
  | none=>cases aJ h;exact⟨_,dy,rfl⟩
  | some e =>
   obtain⟨p,h1,h⟩:=ar (show aa (Rs.bnd _ _) fl from h)
   have s':Sub (sr e C) (sr e ρ):=by
    unfold sr
    cases rq e with
    | false=>exact s
    | true =>
     intro x y hx
     have hx:(C x).map (fun p=>(p.1,false))=some y:=hx
     show(ρ x).map (fun p=>(p.1,false))=some y
     cases e:C x with
     | none=>rw[e]at hx;cases hx
     | some z=>rw[e]at hx;rw[s x z e];exact hx
   refine⟨fl,aa.bnd (cW h1 s') h,?_⟩
   unfold wy at h
   split at h
   ·cases aJ h;rfl
   ·exact(am h).elim
 | Pass p=>cases aJ h;exact⟨_,dy,s⟩
 | Break p=>cases aJ h;exact⟨_,dy,s⟩
 | Continue p=>cases aJ h;exact⟨_,dy,s⟩
 | Assign tgs e p=>exact Hh C ρ fl h s
 | AugAssign t op e p=>exact(am h).elim
 | Expr e p=>exact Hg C ρ fl h s
 | If c a b p =>
  obtain⟨p,h1,h⟩:=ar (show aa (Rs.bnd _ _) fl from h)
  obtain⟨t,ht,h⟩:=je h
  cases t with
  | true =>
   obtain⟨z,h2,s2⟩:=I.ss a sc (be (by simp<;>omega) hs) C ρ fl h s
   exact⟨z,aa.bnd (cW h1 s) (lD ht h2),s2⟩
  | false =>
   obtain⟨z,h2,s2⟩:=I.ss b sc (be (by simp<;>omega) hs) C ρ fl h s
   exact⟨z,aa.bnd (cW h1 s) (lD ht h2),s2⟩
 | For tg it body els p =>
  rw[qh]at h⊢
  split at h
  ·rename_i he
   rw[if_pos he]
   obtain⟨p,h1,h⟩:=ar h
   split at h
   ·rename_i ds hd
    split at h
    ·rename_i hk
     obtain⟨z,h2,s2⟩:=yw (I.ss body sc (be (by simp<;>omega) hs)) ds _ _ fl h (s.demote it)
     refine⟨z,aa.bnd (cW h1 (s.demote it)) ?_,s2⟩
     rw[hd];dsimp only;rw[if_pos hk];exact h2
    ·exact(am h).elim
   ·exact(am h).elim
  ·exact(am h).elim
 | While c body els p =>
  rw[zg]at h⊢
  split at h
  ·rename_i he
   rw[if_pos he]
   refine CC (fun C ρ b hb s=>?_) (I.ss body sc (be (by simp<;>omega) hs)) bJ C ρ fl h s
   obtain⟨q,h1,hb⟩:=ar hb
   exact aa.bnd (cW h1 s) hb
  ·exact(am h).elim
 | _=>exact(am h).elim
theorem He(I:JK Φ n)(ss:List Stmt)(sc:Scope)(hs:sizeOf ss<n+1):lV (az Φ ss sc):=by
 intro C ρ fl h s
 cases ss with
 | nil=>cases aJ h;exact⟨_,dy,s⟩
 | cons st ss =>
  rcases rY h with⟨C',h1,h2⟩|⟨h1,h2⟩
  ·obtain⟨x,h3,s2⟩:=I.s st sc (be (by simp<;>omega) hs) C ρ _ h1 s
   cases x with
   | nx ρ' =>
    obtain⟨z,h4,s3⟩:=I.ss ss sc (be (by simp<;>omega) hs) C' ρ' fl h2 s2
    exact⟨z,bY h3 h4,s3⟩
   | rt _=>exact s2.elim
   | bk _=>exact s2.elim
   | ct _=>exact s2.elim
  ·obtain⟨x,h3,s2⟩:=I.s st sc (be (by simp<;>omega) hs) C ρ _ h2 s
   refine⟨x,ku h3 fun ρ' z=>?_,s2⟩
   subst z
   cases fl<;>first|exact h1 _ rfl|exact s2
theorem mL(Φ:Fx):∀n,JK Φ n
 | 0=>⟨fun _ _ h=>absurd h (RA _),fun _ _ h=>absurd h (RA _)⟩
 | n+1=>⟨fun e sc hs=>KA (mL Φ n) e sc hs,fun e sc hs=>He (mL Φ n) e sc hs⟩
theorem Ey(h:aa (az Φ ss sc C) (.nx C'))(s:Sub C ρ):∃ρ',aa (az Φ ss sc ρ) (.nx ρ')/\Sub C' ρ':=by
 obtain⟨z,h1,h2⟩:=(mL Φ _).ss ss sc (Rk _) C ρ _ h s
 cases z with
 | nx ρ'=>exact⟨ρ',h1,h2⟩
 | rt _=>exact h2.elim
 | bk _=>exact h2.elim
 | ct _=>exact h2.elim
theorem Ex(h:aa (az Φ ss sc C) (.rt d))(s:Sub C ρ):aa (az Φ ss sc ρ) (.rt d):=by
 obtain⟨z,h1,h2⟩:=(mL Φ _).ss ss sc (Rk _) C ρ _ h s
 cases z with
 | rt _=>cases h2;exact h1
 | nx _=>exact h2.elim
 | bk _=>exact h2.elim
 | ct _=>exact h2.elim
noncomputable def bt:List (Str×D×Bool)->ac
 | []=>fun _=>none
 | p::l=>fun z=>if z=p.1 then some p.2 else bt l z
theorem bf:Sub (bt []) ρ:=fun _ _ h=>by cases h
theorem al{y:D×Bool}{l:List (Str×D×Bool)}(h:ρ x=some y)(g:Sub (bt l) ρ):Sub (bt ((x,y)::l)) ρ:=fun z w e=>by
 replace e:(if z=x then some y else bt l z)=some w:=e
 by_cases hz:z=x
 ·rw[if_pos hz]at e;cases e;rw[hz];exact h
 ·rw[if_neg hz]at e;exact g z w e
theorem Sub.get{y:D×Bool}(s:Sub C ρ)(h:C x=some y:=by rfl):ρ x=some y:=s x y h
section
variable{Φ:Fx}{sc:Scope}{ρ ρ':ac}{fl:Fl}{ss:List Stmt}
theorem kX{P:ac->Prop}(s:Sub C ρ)(h:aa (az Φ ss sc C) (.nx C'))(k:∀ρ',Sub C' ρ'->P ρ'):∃ρ',aa (az Φ ss sc ρ) (.nx ρ')/\P ρ' :=
 let ⟨ρ',h1,h2⟩:=Ey h s;⟨ρ',h1,k ρ' h2⟩
theorem oJ(s:Sub C ρ)(h:aa (az Φ ss sc C) (.rt d)):aa (az Φ ss sc ρ) (.rt d):=Ex h s
theorem dU{p:D×Nat}(s:Sub C ρ)(h:aa (av Φ e it sc C) p):aa (av Φ e it sc ρ) p:=cW h s
theorem DB{it:Expr}(aj:List D->ac->Prop)(hi:aa (av Φ it true sc (demote it ρ)) (d,k))(h0:aj ds (demote it ρ))
  (step:∀d l ρ,aj (d::l) ρ->∃ρ1,bK sc tg d ρ=some ρ1/\∃ρ2,aa (az Φ body sc ρ1) (.nx ρ2)/\aj l ρ2) (dF:∀ρ',aj [] ρ'->aa (az Φ ss sc ρ') fl) (hd:items d=some ds:=by rfl) (hk:k<=1:=by first|exact QA 1|exact QN 1) (ht:fq it tg=true:=by rfl):aa (az Φ (.For tg it body [] p::ss) sc ρ) fl:=by
 obtain⟨ρ',h1,h2⟩:=tM (bind:=bK sc tg) (body:=az Φ body sc) aj (fun d l ρ h=>let ⟨ρ1,a,ρ2,b,c⟩:=step d l ρ h;⟨ρ1,ρ2,a,.inl b,c⟩) h0
 exact bY (zf hi hd hk ht h1) (dF ρ' h2)
theorem gC{b:Expr}{x:D}(ha:aa (av Φ a false sc ρ) (x,k))(hb:aa (av Φ b false sc ρ) (y,j))(h:aa (iV op x y) r):aa (av Φ (.Compare a [op] [b] p) it sc ρ) (.bl r,0) :=
 aa.bnd ha (aa.bnd hb (aa.bnd h dy))
theorem fI{op:BoolOp}(h:aa (dW Φ op (e::es) sc ρ) b):aa (av Φ (.BoolOp op (e::es) p) it sc ρ) (.bl b,0):=by
 rw[qj,if_neg (show ¬ (List.isEmpty (e::es)=true)from QT)];exact aa.bnd h dy
theorem Fb{c:Bool}(h:aa (av Φ e false sc ρ) (.bl b,k))(h1:b=true->aa (dW Φ .And es sc ρ) c)(h2:b=false->c=false):aa (dW Φ .And (e::es) sc ρ) c:=aa.bnd h (lD rfl (uo h1 h2))
theorem Ib{c:Bool}(h:aa (av Φ e false sc ρ) (.bl b,k))(h1:b=false->aa (dW Φ .Or es sc ρ) c)(h2:b=true->c=true):aa (dW Φ .Or (e::es) sc ρ) c:=aa.bnd h (lD rfl (wG h1 h2))
theorem cO{c:Bool}(h:aa (av Φ e false sc ρ) (.bl false,k))(h1:aa (dW Φ .Or es sc ρ) c):aa (dW Φ .Or (e::es) sc ρ) c:=Ib h (fun _=>h1) fun z=>by cases z
theorem Ic:aa (dW Φ .And [] sc ρ) true:=dy
theorem fH:aa (dW Φ .Or [] sc ρ) false:=dy
theorem aa.bl{r:R1}{c:Bool}(h:aa r (.bl b,k))(e:b=c):aa r (.bl c,k):=e ▸ h
theorem tS{g f:α->D}{l:List α}(hi:aa (av Φ iter true sc ρ) (d,k))(hd:items d=some (l.map g))(hl:l.length<=bJ)(hk:ao (l.map g)=true\/k<=1)
  (h:∀x∈l,∃ρ',bK scope tg (g x) (flt scope ρ)=some ρ'/\aa (av Φ elt false scope ρ') (f x,0)) (hc:nP sc scope=true:=by rfl) (ht:fq iter tg=true:=by rfl):aa (av Φ (.ListComp elt [⟨tg,iter,[],0⟩] scope p) it sc ρ) (.lst (l.map f),0):=by
 refine vX hi hd ⟨by rw[QC];exact hl,hk⟩ (qU fun x hx=>?_) (QN _) hc ht
 obtain⟨ρ',h1,h2⟩:=h x hx
 rw[h1]
 refine aa.bnd (a:=true) dy ?_
 rw[cond_true]
 exact aa.bnd h2 dy
end
theorem N0(h:us.length=0):us=[]:=List.eq_nil_of_length_eq_zero h
theorem Ht(h:us.length=1):∃a,us=[a]:=List.length_eq_one_iff.mp h
theorem Hr(h:us.length=n+1):∃a r,us=a::r/\r.length=n:=by
 cases us with
 | nil=>cases h
 | cons a r=>exact⟨a,r,rfl,by simpa using h⟩
theorem Hs(h:us.length=2):∃a b,us=[a,b]:=by
 obtain⟨a,r,e1,h1⟩:=Hr h;subst e1;obtain⟨b,rfl⟩:=Ht h1;exact⟨a,b,rfl⟩
theorem NZ(h:us.length=3):∃a b c,us=[a,b,c]:=by
 obtain⟨a,r,e1,h1⟩:=Hr h;subst e1;obtain⟨b,c,rfl⟩:=Hs h1;exact⟨a,b,c,rfl⟩
end Sp
namespace Qm
noncomputable def pL(a b c d:Int):Prop:=∃e x y z w:Int,(e=0\/e=1)/\a=2*x+e/\b=2*y+e/\c=2*z+e/\d=2*w+e
theorem par_of{P Q R S k1 k2 k3:Int}(h1:Q=P+2*k1)(h2:R=P+2*k2)(h3:S=P+2*k3):pL P Q R S :=
 ⟨P % 2,P / 2,P / 2+k1,P / 2+k2,P / 2+k3,by omega,by omega,by omega,by omega,by omega⟩
theorem par_fmod{a b c d:Int}(h:pL a b c d):b.fmod 2=a.fmod 2/\c.fmod 2=a.fmod 2/\d.fmod 2=a.fmod 2:=by
 obtain⟨e,x,y,z,w,he,rfl,rfl,rfl,rfl⟩:=h
 simp only[Int.fmod_eq_emod_of_nonneg _ (show(0:Int)<=2 by decide)]
 omega
theorem GX{a b c d:Int}(h:pL a b c d):∃t,a*a+(b*b+(c*c+(d*d+0)))=4*t:=by
 obtain⟨e,x,y,z,w,he,rfl,rfl,rfl,rfl⟩:=h
 rcases he with rfl|rfl
 ·exact⟨x*x+y*y+z*z+w*w,by grind⟩
 ·exact⟨x*x+y*y+z*z+w*w+x+y+z+w+1,by grind⟩
theorem Qp(t:Int):(4*t).fdiv 4=t:=by rw[Q0 _ (by decide)];omega
theorem Qq(t:Int):(2*t).fdiv 2=t:=by rw[Q0 _ (by decide)];omega
theorem A2{a b c d e f g h:Int}(h1:pL a b c d)(h2:pL e f g h):∃P Q R S,a*e-b*f-c*g-d*h=2*P/\a*f+b*e+c*h-d*g=2*Q/\a*g-b*h+c*e+d*f=2*R/\a*h+b*g-c*f+d*e=2*S/\pL P Q R S:=by
 obtain⟨s,x1,x2,x3,x4,_,rfl,rfl,rfl,rfl⟩:=h1
 obtain⟨u,y1,y2,y3,y4,_,rfl,rfl,rfl,rfl⟩:=h2
 refine⟨2*(x1*y1-x2*y2-x3*y3-x4*y4)+u*(x1-x2-x3-x4)+s*(y1-y2-y3-y4)-s*u,
  2*(x1*y2+x2*y1+x3*y4-x4*y3)+u*(x1+x2+x3-x4)+s*(y2+y1+y4-y3)+s*u,
  2*(x1*y3-x2*y4+x3*y1+x4*y2)+u*(x1-x2+x3+x4)+s*(y3-y4+y1+y2)+s*u,
  2*(x1*y4+x2*y3-x3*y2+x4*y1)+u*(x1+x2-x3+x4)+s*(y4+y3-y2+y1)+s*u,by grind,by grind,by grind,by grind,?_⟩
 refine par_of (k1:=(x1*y2+x2*y1+x3*y4-x4*y3)-(x1*y1-x2*y2-x3*y3-x4*y4)+u*(x2+x3)+s*(y2+y4)+s*u)
  (k2:=(x1*y3-x2*y4+x3*y1+x4*y2)-(x1*y1-x2*y2-x3*y3-x4*y4)+u*(x3+x4)+s*(y3+y2)+s*u)
  (k3:=(x1*y4+x2*y3-x3*y2+x4*y1)-(x1*y1-x2*y2-x3*y3-x4*y4)+u*(x2+x4)+s*(y4+y3)+s*u) ?_ ?_ ?_<;>grind
theorem KW(a b c d e f g h:Int):(a*e-b*f-c*g-d*h)*(a*e-b*f-c*g-d*h)+((a*f+b*e+c*h-d*g)*(a*f+b*e+c*h-d*g)+((a*g-b*h+c*e+d*f)*(a*g-b*h+c*e+d*f)+((a*h+b*g-c*f+d*e)*(a*h+b*g-c*f+d*e)+0))) =
  (a*a+(b*b+(c*c+(d*d+0))))*(e*e+(f*f+(g*g+(h*h+0)))):=by grind
theorem bL{p P:Int}(h:p=2*P):p.fdiv 2=P:=by rw[h,Qq]
end Qm
namespace K
open PySem L2 Sp
variable{α β:Type}{ds:List D}{r:D}
structure Dc(α:Type) where
 dec:D->Option α
 enc:α->D
 ok:∀x a,dec x=some a->x=enc a
noncomputable def dI:Dc Int:=⟨fun | .int i=>some i|_=>none,.int,fun x a h=>by cases x<;>cases h;rfl⟩
noncomputable def dL:Dc (List D):=⟨fun | .lst i=>some i|_=>none,.lst,fun x a h=>by cases x<;>cases h;rfl⟩
noncomputable def se{α:Type}(A:Dc α)(f:α->Rs D):List D->Rs D
 | [x]=>(match A.dec x with|some a=>f a|none=>.st)
 | _=>.st
noncomputable def oH{α β:Type}(A:Dc α)(B:Dc β)(f:α->β->Rs D):List D->Rs D
 | [x,y]=>(match A.dec x with|some a=>(match B.dec y with|some b=>f a b|none=>.st)|none=>.st)
 | _=>.st
noncomputable def vj{α β γ:Type}(A:Dc α)(B:Dc β)(C:Dc γ)(f:α->β->γ->Rs D):List D->Rs D
 | [x,y,z]=>(match A.dec x with|some a=>(match B.dec y with|some b=>(match C.dec z with|some c=>f a b c|none=>.st)|none=>.st)|none=>.st)
 | _=>.st
theorem jw{A:Dc α}{x:D}{f:α->Rs β}{r:β}(h:aa (match A.dec x with|some a=>f a|none=>.st) r):∃a,x=A.enc a/\aa (f a) r:=by
 split at h
 ·rename_i a e;exact⟨a,A.ok _ _ e,h⟩
 ·exact(am h).elim
theorem i7{A:Dc α}{f:α->Rs D}(h:aa (se A f ds) r):∃a,ds=[A.enc a]/\aa (f a) r:=by
 unfold se at h
 split at h
 ·obtain⟨a,e1,h1⟩:=jw h;exact⟨a,by rw[e1],h1⟩
 ·exact(am h).elim
theorem fY{A:Dc α}{B:Dc β}{f:α->β->Rs D}(h:aa (oH A B f ds) r):∃a b,ds=[A.enc a,B.enc b]/\aa (f a b) r:=by
 unfold oH at h
 split at h
 ·obtain⟨a,e1,h1⟩:=jw h
  obtain⟨b,e2,h2⟩:=jw h1
  exact⟨a,b,by rw[e1,e2],h2⟩
 ·exact(am h).elim
theorem mw{γ:Type}{A:Dc α}{B:Dc β}{C:Dc γ}{f:α->β->γ->Rs D}(h:aa (vj A B C f ds) r):∃a b c,ds=[A.enc a,B.enc b,C.enc c]/\aa (f a b c) r:=by
 unfold vj at h
 split at h
 ·obtain⟨a,e1,h1⟩:=jw h
  obtain⟨b,e2,h2⟩:=jw h1
  obtain⟨c,e3,h3⟩:=jw h2
  exact⟨a,b,c,by rw[e1,e2,e3],h3⟩
 ·exact(am h).elim
noncomputable def P8:D->Int
 | .int i=>i
 | _=>0
noncomputable def rO(l:List D):List Int:=l.map P8
theorem wo(ns:List Int):rO (ns.map D.int)=ns:=by
 induction ns with
 | nil=>rfl
 | cons n ns ih=>show n::rO (ns.map D.int)=_;rw[ih]
noncomputable def yk(l:List D):Prop:=∃ns:List Int,l=ns.map D.int
noncomputable def ly(ns:List Int)(k:Int):Int:=if ns=[]then 0 else ns.getD (k.fmod ns.length).toNat 0
noncomputable def C9(ns:List Int)(k:Int):Int :=
 (ly ns k).fdiv 2147483647*2147483647+((((ly ns k).fmod 2147483647+7919*k+1)*48271).fmod 2147483647*69621+k).fmod 2147483647
noncomputable def zB(l:List D)(k:Int):Int:=C9 (rO l) k
noncomputable abbrev t4(a b c d:Int):D:=.tup [.int a,.int b,.int c,.int d]
noncomputable abbrev Qd:=Int×Int×Int×Int
noncomputable def dq(q:Qd):D:=t4 q.1 q.2.1 q.2.2.1 q.2.2.2
noncomputable def q4:D->Option Qd
 | .tup [.int a,.int b,.int c,.int d]=>some (a,b,c,d)
 | _=>none
theorem Cl(x:D)(q:Qd)(h:q4 x=some q):x=dq q:=by
 unfold q4 at h
 split at h
 ·cases h;rfl
 ·cases h
noncomputable def dQ:Dc Qd:=⟨q4,dq,Cl⟩
noncomputable abbrev en(q:Qd):Prop:=q.1.natAbs<dO/\q.2.1.natAbs<dO/\q.2.2.1.natAbs<dO/\q.2.2.2.natAbs<dO
@[simp] theorem ng(a b:Int):gE (.int a) (.int b)=decide (a=b):=by
 show(a==b)=_
 rw[Bool.eq_iff_iff];simp
@[simp] theorem m9(p q:Qd):gE (dq p) (dq q)=decide (p=q):=by
 show(p.1==q.1&&(p.2.1==q.2.1&&(p.2.2.1==q.2.2.1&&(p.2.2.2==q.2.2.2&&true))))=_
 obtain⟨a,b,c,d⟩:=p;obtain⟨e,f,g,h⟩:=q
 rw[Bool.eq_iff_iff];simp
end K
namespace Sp
open PySem PySem.Spec PyProof.Rows L2
open AutoSeq1 (wpAny_loadPart')
variable{P:Program}{w:World}{H:Hp}{h:Heap}{K:W.Frag}{k:Nat}{a tg:Expr}{ρ:ac}{p pos:Pos}
section
variable{prog:Program}{A:Around}{E:Value->Shared->Prop}{s:Shared}
variable{n l1 l2 l3:Nat}{xs ys ws:Array Value}{x y u:Value}{f0 f1:Value}
end
open AutoSeq1 (wpAny_loadPart')
section
variable{prog:Program}{A:Around}{E:Value->Shared->Prop}{s:Shared}
end
section
variable{prog:Program}{A:Around}{E:Value->Shared->Prop}{s:Shared}
end
variable{X:Cx}
theorem Br{b:Addr}{o:HO}(x:dM P w H h)(hb:H b=none)(new:aV P w (aF H b o) h b o):dM P w (aF H b o) h:=fun c u e=>by
 by_cases hc:c=b
 ·subst hc;rw[aC]at e;cases e;exact new
 ·rw[aq hc]at e
  exact(x c u e).stay (fun d v _ r=>r) (fun d r=>by rw[aq (bj r hb)];exact r) (fun d xs r=>by rw[aq (bj r hb)];exact r)
theorem Dp{fs ex:List Addr}{H':Hp}{h':Heap}(k:∀b u,h.get? b=some u->h'.get? b=some u)(hH:∀c,c<h.objs.size->H' c=H c)(hin:∀c o,H c=some o->c<h.objs.size):Un fs ex H H' h h' where
 keep:=fun b u q _ _ _=>k b u q
 slot:=fun b u q _ _ _=>⟨u.slots,k b u q⟩
 free:=fun b u q n _=>(hH b (QE q)).trans n
 there:=fun b u q _=>⟨u,k b u q⟩
 tups:=fun b xs r=>(hH b (hin b _ r)).trans r
 frzs:=fun b o u r=>(hH b (hin b _ r)).trans r
 tbls:=fun b ps r=>⟨#[],by rw[Array.append_empty];exact(hH b (hin b _ r)).trans r⟩
theorem vi{Φ:Fx}{sc:Scope}{H0:Hp}{fl:Fl}{dF:List Stmt}(G:aK Φ X sc)(hp:PassesOwn (model X.prog X.w) X.A X.env X.xe):∀{pre:List Stmt} {ρ ρ1:ac},aa (az Φ pre sc ρ) (.nx ρ1)->dh X H0 ρ1 dF fl->dh X H0 ρ (pre++dF) fl
 | [],ρ,ρ1,h,k=>by cases aJ h;exact k
 | st::ss,ρ,ρ1,h,k=>by
  obtain⟨f1,h1,h2⟩:=ar (show aa (Rs.bnd _ _) _ from h)
  cases f1 with
  | nx ρ'=>exact fX ((o0 Φ _).s st (Rk _) h1 G hp) (vi G hp h2 k)
  | rt d=>cases aJ h2
  | bk ρ'=>cases aJ h2
  | ct ρ'=>cases aJ h2
theorem tO{mg:Str->Option Value}{base:Heap}{g:Str}{f:Addr}{fd:FuncData}{ps:List Str}{F:List D->Rs D}(h:cQ P w K mg base gG k f fd ps (kD K F))(hm:mg g=some (.ref f))(hk:W.keepIn K (.ref f)=true)(hb:dj K fd ps [])(hd:(g==("__debug__" : Str))=false):cS P w K mg base k g F :=
 ⟨f,fd,ps,h,hm,hk,hb,hd⟩
noncomputable def Qv(K:W.Frag)(a:Addr)(n:Nat):It :=
 ⟨fun i H => ∃xs x,ci K H a xs/\xs.length=n/\i<n/\xs[n-1-i]?=some x,fun i H x H'=>H'=H/\∀xs,ci K H a xs->xs[n-1-i]?=some x,fun i H => ∃xs,ci K H a xs/\xs.length=n/\n<=i⟩
theorem Aw(a it:Addr)(n:Nat):L2.Turn P w K tg (Qv K a n) [it] it (fun i h=>i<=n/\h.IsRevIter it a ((n:Int)-1-(i:Int))) where
 mem:=by simp
 obj:=fun i h st b hb=>by
  have e:b=it:=by simpa using hb
  subst e
  obtain⟨_,o,e,c,d⟩:=st
  exact⟨o,e,fun v z=>by rw[d]at z;cases z⟩
 keep:=fun i h h' st k=>⟨st.1,st.2.at fun o e=>k it (by simp) o e⟩
 item:=by
  intro X hP hw hK hc i pins s σ H E I hf st hg
  subst hP hw hK
  obtain⟨xs,x,hq,hn,hi,hx⟩:=hg
  obtain⟨its,rv,p,hz⟩:=I.list hq
  obtain⟨u,hu,ru⟩:=rv.get hx
  obtain⟨f0,f1,f2,f3,f4,f5⟩:=hf it (by simp)
  have e:(n:Int)-1-(i:Int)=((n-1-i:Nat):Int):=by omega
  have st:=st.2
  rw[e]at st
  refine wpAny_pyNext_rev_item st p.isList (x:=u) (by simpa using hu) fun h' st' sb=>?_
  have I1:aj X pins σ H { s with heap:=h' }:=I.turned (t':=s.toks) (fun b o hb e=>(sb.2 b hb).trans e) f0 f1 f3 f4 f5
  have e2:((n-1-i:Nat):Int)-1=(n:Int)-1-((i+1:Nat):Int):=by omega
  rw[e2]at st'
  obtain⟨o,e,c,d⟩:=id st'
  exact⟨u,rfl,jO (s:={ s with heap:=h' }) e c d (by decide) ⟨x,H,I1,ru,⟨rfl,fun ys hy=>by rw[I.list_inj hy hq];exact hx⟩,⟨hi,st'⟩,fun b hb=>(hf b hb).1⟩⟩
 done:=by
  intro X hP hw hK hc i pins s σ H E I hf st hg
  subst hP hw hK
  obtain⟨xs,hq,hn,hx⟩:=hg
  obtain⟨f0,f1,f2,f3,f4,f5⟩:=hf it (by simp)
  have e:(n:Int)-1-(i:Int) = -1:=by have:=st.1;omega
  have st:=st.2
  rw[e]at st
  exact wpAny_pyNext_rev_end (I.ok.hd hc) st fun h' eb=>⟨rfl,I.turned (t':=s.toks) (fun b o hb e=>eb b o hb e) f0 f1 f3 f4 f5⟩
 self:=fun _ _ _ _ _ st h=>wpAny_pyIter_revIter st.2 h
noncomputable def wX(ds:List D)(k:Nat):R1 :=
 match ds with
 | [.lst a]=>.ok (.lst a.reverse,k) [ao a=true]
 | _=>.st
theorem HL{l:List D}(hg:Gl X "reversed")(hm0:X.mg "reversed" = none)(ha:AD X ρ [a] [.lst l] k)(hst:∀y p,a ≠ .Starred y p)(hf:ao l=true) :
  IE X ρ tg (.Call (.Name "reversed" p) [a] [] pos) l.reverse k:=by
 intro ow pins s σ H R I ⟨E,q⟩
 refine Call_ (fG I hg hm0 (show bootBuiltins "reversed" = some (.type "reversed") by decide +kernel) (Rv (aL (ha ow pos pins s σ H (fun vs H1=>au H H1/\ah X.K H1 (Kp ow H k) [.lst l] vs) I ⟨E,fun vs H1 s1 r1=>⟨s1,r1⟩⟩) fun us s1 ⟨vs,H1,I1,rv,sm,rp⟩=>?_) (aN hst) rfl) (by decide +kernel) (by decide +kernel))
 obtain⟨v,rfl,rv1⟩:=rp.only
 obtain⟨ta,xs,rfl,hq,rl,hk1⟩:=r9 (κ:=false) rv1
 replace hq:ci X.K H1 ta xs:=hq
 obtain⟨u,rfl,ru⟩:=iC rv
 cases (show u=Value.ref ta from ru)
 obtain⟨its,rvs,pt,hz⟩:=I1.list hq
 have hlen:its.length=xs.length:=rvs.length.symm
 refine call_reversed_list (show s1.heap.IsList ta its.toArray from pt.isList) ?_
 have isR:(s1.heap.push (revObj ta ((its.toArray.size:Int)-1))).IsRevIter s1.heap.objs.size ta ((xs.length:Int)-1-((0:Nat):Int)):=⟨_,QJ _ rfl,rfl,by simp[revObj,hlen]⟩
 refine wpAny_pyIter_revIter isR ?_
 have I2:aj X pins σ H1 { s1 with heap:=s1.heap.push (revObj ta ((its.toArray.size:Int)-1)) }:=I1.kept (t':=s1.toks) fun b o z=>Qw _ z
 have f0:H1 s1.heap.objs.size=none:=I1.hok.fresh (QA _)
 refine⟨s1.heap.objs.size,[s1.heap.objs.size],_,_,H1,rfl,I2,Aw ta _ xs.length,⟨QN _,isR⟩,fun b hb=>?_,q _ H1 sm ?_⟩
 ·have eb:b=s1.heap.objs.size:=by simpa using hb
  subst eb
  exact I1.fpOk (QA _) f0
 ·intro i H2 st
  have rl':ah X.K H1 (Kd ow H k H1) l xs:=rl.flat _ hf
  have ll:=rl.length
  refine⟨fun d hd=>?_,fun hle=>?_⟩
  ·have hi:i<l.length:=by
    have:=(QO.mp hd).1
    rwa [List.length_reverse]at this
   rw[List.getElem?_reverse hi]at hd
   obtain⟨y,hy,ry⟩:=rl'.get hd
   rw[ll]at hy
   refine⟨⟨xs,y,hk1 st,rfl,by omega,hy⟩,fun x' H3 ⟨e1,e2⟩=>?_⟩
   have hv:=e2 xs (hk1 st)
   rw[hy]at hv;cases hv
   subst e1
   exact⟨au.refl _,ry.mono st⟩
  ·rw[List.length_reverse]at hle
   exact⟨xs,hk1 st,rfl,by omega⟩
theorem EU:jX "reversed" wX:=by
 refine⟨by decide +kernel,fun X ρ p pos args ds k d j l tg o hc hg hm ha hst hlen h hp hl ht=>?_⟩
 unfold wX at h
 split at h
 ·cases h
  cases hl
  match args,hlen,ha,hst with
  | [a'],_,ha,hst=>exact HL hg hm ha (hst a' Qy) hp.1
 ·cases h
section
variable{prog:Program}{A:Around}{E:Value->Shared->Prop}{s:Shared}
end
variable{Φ:Fx}{sc:Scope}{ρ':ac}{fl:Fl}{ss:List Stmt}
theorem w4{c b:Expr}{it:Bool}{t:Bool}{r:D×Nat}(hc:aa (av Φ c false sc ρ) (.bl t,k))(h1:t=true->aa (av Φ a false sc ρ) r)(h2:t=false->aa (av Φ b false sc ρ) r):aa (av Φ (.IfExp c a b p) it sc ρ) r:=by
 refine aa.bnd hc (lD rfl (CN ?_))
 cases t with
 | true=>exact h1 rfl
 | false=>exact h2 rfl

noncomputable def HH(x:Int):List Int->List Int
 | []=>[x]
 | y::l=>if x<=y then x::y::l else y::HH x l
noncomputable def AJ:List Int->List Int
 | []=>[]
 | x::l=>HH x (AJ l)
theorem fy{K:W.Frag}{H:Hp}{P:ba}:∀{ns:List Int} {vs:List V},ah K H P (ns.map D.int) vs->vs=ns.map V.int
 | [],vs,h=>by rw[SK,ah]at h;exact h
 | n::ns,vs,h=>by
  rw[QU,ah]at h
  obtain⟨v,r,rfl,h1,h2⟩:=h
  rw[ae]at h1
  rw[fy h2,h1];rfl
noncomputable def N1(b:Bool)(n0:Nat)(p0 kp:Pos):List Keyword:=cond b [⟨some (Str.ofString "reverse"),.Constant (.bool true) n0 p0,kp⟩] []
noncomputable def LN(b:Bool)(ns:List Int):List Int:=cond b (AJ ns).reverse (AJ ns)
section
variable{prog:Program}{A:Around}{E:Value->Shared->Prop}{s:Shared}
end
inductive Xd(Φ:Fx)(sc:Scope)(ρ:ac):Expr->D->Prop where
 | ev {e:Expr} {d:D} (h:aa (av Φ e false sc ρ) (d,0)):Xd Φ sc ρ e d
 | lrev {e:Expr} {l:List D} {k:Nat} {f g:Str} {p q r t:Pos} (h:aa (bQ Φ [e] sc ρ) ([.lst l],k)) (fl:ao l=true) (hf:f = "list" := by rfl) (hg:g = "reversed" := by rfl) (gf:sc.names.lookup f=some .globalImplicit:=by rfl) (gg:sc.names.lookup g=some .globalImplicit:=by rfl):Xd Φ sc ρ (.Call (.Name f p) [.Call (.Name g q) [e] [] r] [] t) (.lst l.reverse)
 | srt (b:Bool) {e:Expr} {ns:List Int} {k n0:Nat} {f:Str} {p t p0 kp:Pos} (h:aa (bQ Φ [e] sc ρ) ([.lst (ns.map D.int)],k)) (hn:ns.length<64) (hf:f = "sorted" := by rfl) (gf:sc.names.lookup f=some .globalImplicit:=by rfl):Xd Φ sc ρ (.Call (.Name f p) [e] (N1 b n0 p0 kp) t) (.lst ((LN b ns).map D.int))
 | short {e:Expr} {l:List D} {k:Nat} {f:Str} {p t:Pos} (h:aa (bQ Φ [e] sc ρ) ([.lst l],k)) (hn:l.length<2) (fl:ao l=true) (hf:f = "sorted" := by rfl) (gf:sc.names.lookup f=some .globalImplicit:=by rfl):Xd Φ sc ρ (.Call (.Name f p) [e] [] t) (.lst l)
 | pick4 {e1 e2 e3 e4 i:Expr} {d1 d2 d3 d4 d:D} {j:Int} {k:Nat} {lp p:Pos} (h1:Xd Φ sc ρ e1 d1) (h2:Xd Φ sc ρ e2 d2) (h3:Xd Φ sc ρ e3 d3) (h4:Xd Φ sc ρ e4 d4) (hi:aa (av Φ i false sc ρ) (.int j,k)) (ha:atI [d1,d2,d3,d4] j=some d):Xd Φ sc ρ (.Subscript (.List [e1,e2,e3,e4] lp) i p) d
inductive Rn(Φ:Fx)(sc:Scope):List Stmt->ac->D->Prop where
 | fin {ss:List Stmt} {ρ:ac} {r:D} (h:aa (az Φ ss sc ρ) (.rt r)):Rn Φ sc ss ρ r
 | cut (n:Nat) {ss:List Stmt} {ρ ρ1:ac} {r:D} (h:aa (az Φ (ss.take n) sc ρ) (.nx ρ1)) (k:Rn Φ sc (ss.drop n) ρ1 r):Rn Φ sc ss ρ r
 | dem {ss:List Stmt} {ρ:ac} {r:D} (k:Rn Φ sc ss (jv ρ) r):Rn Φ sc ss ρ r
 | set {x:Str} {e:Expr} {px q:Pos} {ss:List Stmt} {ρ:ac} {d r:D} (h:Xd Φ sc ρ e d) (k:Rn Φ sc ss (aI ρ x (d,true)) r) (hx:cq sc x=true:=by rfl) (hc:jo e=false:=by rfl):Rn Φ sc (.Assign [.Name x px] e q::ss) ρ r
noncomputable def Lm(l:List Int):D:=.lst (l.map D.int)
noncomputable def K0(ρ:ac)(x:Str):ac:=fun y=>if y=x then none else ρ y
noncomputable def Ar(X:Cx)(H0:Hp)(tg:Expr)(body:List Stmt):List D->ac->Fl->Prop
 | [],ρ,fl=>fl=.nx ρ
 | d::ds,ρ,fl => ∃ρ1,GD X ρ tg d ρ1/\((∃ρ2,dh X H0 ρ1 body (.nx ρ2)/\Ar X H0 tg body ds ρ2 fl)\/∃r,fl=.rt r/\dh X H0 ρ1 body (.rt r))
theorem vl{H0:Hp}{iter:Expr}{body:List Stmt}{ds:List D}{fl:Fl}(hp:PassesOwn (model X.prog X.w) X.A X.env X.xe)(hcalm:X.calm=true)
  (hi:IE X (demote iter ρ) tg iter ds k) (hk:k<=1) (h:Ar X H0 tg body ds (demote iter ρ) fl)
  (hs:∀x,foldedSetIterable iter X.env x=pure x):SD X H0 ρ (.For tg iter body [] pos) fl:=by
 intro pins s σ H D0 I ⟨ow0,E0,hl,B0,q0⟩
 obtain⟨ow,E,k0⟩:=pk (e:=iter) E0
 have B:=B0.keep k0
 have q:=q0.keep k0
 have pb:dZ X body (fun D σ H => ∃ρ fl,dh X H0 ρ body fl/\xL X H0 ρ fl D σ H):=fun pins s σ H D I ⟨ρ1,fl1,h1,h2⟩=>h1 pins s σ H D I h2
 have pg:PG X tg (fun v σ H Q => ∃g:TG,PG X tg g/\g v σ H Q):=fun pins s σ H v u Q I r ⟨g,h1,h2⟩=>h1 pins s σ H v u Q I r h2
 refine sE hp hcalm (hi ow) pg pb hs pins s σ H D0 I ⟨E,fun J H1 s1 itd=>?_⟩
 refine⟨fun i m σ' H'=>m=ds.length-i/\i<=ds.length/\∃ow' ρ',aH X ow' H' σ' ρ'/\σ'.length=X.N.length/\cj H0 ow' H'/\aG ow H1 ow' H'/\Ar X H0 tg body (ds.drop i) ρ' fl,
  ⟨ds.length,by simp,QN _,ow,_,E.same s1,hl,B.keep (aG.same s1),aG.refl _ _,h⟩,?_⟩
 rintro i m σ' H' ⟨rfl,hile,ow',ρ',E',hl',B',k',hf⟩
 have q':jW X H0 ow' H' fl D0:=q.keep ((aG.same s1).trans k')
 have st:dJ (Kd ow H k H1) (Kd ow H k H1) H1 H':=⟨fun a o ha hn=>k'.keep a o ha (.inl hn),fun a vs ha p=>k'.keep a _ ha (.inr (eQ E.own hk p.1)),fun _ _ _ p=>p,fun _ p=>p⟩
 have it:=itd i H' st
 by_cases hlt:i<ds.length
 ·obtain⟨go,yl⟩:=it.1 ds[i] (QS hlt)
  have hdrop:ds.drop i=ds[i]::ds.drop (i+1):=RL hlt
  rw[hdrop]at hf
  refine .inr ⟨go,fun σ2 H2=>i+1<=ds.length/\∃ow2 ρ2,aH X ow2 H2 σ2 ρ2/\σ2.length=X.N.length/\cj H0 ow2 H2/\aG ow H1 ow2 H2/\Ar X H0 tg body (ds.drop (i+1)) ρ2 fl,fun σ2 H2 n=>⟨ds.length-(i+1),by omega,rfl,n.1,n.2⟩,fun x H3 y3=>?_⟩
  obtain⟨sm3,rx⟩:=yl x H3 y3
  obtain⟨ρ1,⟨g,g1,g2⟩,hf⟩:=hf
  have rx':ae X.K H3 (fun a b=>b=true->ow' a=none) ds[i] x:=rx.impH (fun a o ha p _=>by
   obtain⟨o1,h1⟩:=p.2 rfl
   exact k'.low a o1 h1 (eQ E.own hk p.1)) fun a _ z=>(by cases z)
  refine⟨g,g1,g2 ow' x σ' H3 _ hl' (E'.same sm3) rx' fun σ2 hl2 E2=>?_⟩
  have k3:aG ow' H' ow' H3:=aG.same sm3
  rcases hf with⟨ρ2,hb,hf⟩|⟨r,rfl,hb⟩
  ·exact⟨ρ1,.nx ρ2,hb,ow',E2,hl2,B'.keep k3,fun ow2 σ3 H4 a b c=>⟨hlt,ow2,ρ2,a,b,(B'.keep k3).keep c,k'.trans (k3.trans c),hf⟩⟩
  ·exact⟨ρ1,.rt r,hb,ow',E2,hl2,B'.keep k3,q'⟩
 ·have ei:i=ds.length:=by omega
  subst ei
  rw[List.drop_length]at hf
  cases (show fl=.nx ρ' from hf)
  exact .inl ⟨it.2 (QA _),q' ow' σ' H' E' hl' (aG.refl _ _)⟩
inductive Rp(Φ:Fx)(sc:Scope)(tg c:Expr):List D->ac->ac->Prop where
 | nil {ρ:ac}:Rp Φ sc tg c [] ρ ρ
 | cons {d:D} {ds:List D} {ρ ρ1 ρ':ac} {k:Nat} (hb:bK sc tg d ρ=some ρ1) (hc:aa (av Φ c false sc ρ1) (.bl false,k)) (h:Rp Φ sc tg c ds ρ1 ρ'):Rp Φ sc tg c (d::ds) ρ ρ'
inductive Xo(Φ:Fx)(sc:Scope)(ρ:ac):Option Expr->Option Int->Prop where
 | no:Xo Φ sc ρ none none
 | yes {e:Expr} {i:Int} {k:Nat} (h:aa (av Φ e false sc ρ) (.int i,k)):Xo Φ sc ρ (some e) (some i)
inductive uw(Φ:Fx)(sc:Scope)(ρ:ac):Expr->D->Prop where
 | name {x:Str} {p:Pos} {m:List D} (h:ρ x=some (.lst m,false)) (hx:dw x=true):uw Φ sc ρ (.Name x p) (.lst m)
 | cut {e:Expr} {lo hi:Option Expr} {l h:Option Int} {m:List D} {p2 p:Pos} (he:uw Φ sc ρ e (.lst m)) (hl:Xo Φ sc ρ lo l) (hh:Xo Φ sc ρ hi h):uw Φ sc ρ (.Subscript e (.Slice lo hi none p2) p) (.lst (Bz m l h))
 | cat {a b:Expr} {l m:List D} {p:Pos} (ha:uw Φ sc ρ a (.lst l)) (hb:uw Φ sc ρ b (.lst m)) (hn:l.length+m.length<=bJ):uw Φ sc ρ (.BinOp a .Add b p) (.lst (l++m))
mutual
inductive Rf(Φ:Fx)(sc:Scope):List Stmt->ac->Fl->Prop where
 | base {ss:List Stmt} {ρ:ac} {fl:Fl} (h:aa (az Φ ss sc ρ) fl):Rf Φ sc ss ρ fl
 | cut (n:Nat) {ss:List Stmt} {ρ ρ1:ac} {fl:Fl} (h:aa (az Φ (ss.take n) sc ρ) (.nx ρ1)) (k:Rf Φ sc (ss.drop n) ρ1 fl):Rf Φ sc ss ρ fl
 | seq {s:Stmt} {ss:List Stmt} {ρ ρ1:ac} {fl:Fl} (h:nS Φ sc s ρ (.nx ρ1)) (k:Rf Φ sc ss ρ1 fl):Rf Φ sc (s::ss) ρ fl
 | stop {s:Stmt} {ss:List Stmt} {ρ:ac} {r:D} (h:nS Φ sc s ρ (.rt r)):Rf Φ sc (s::ss) ρ (.rt r)
 | dem {ss:List Stmt} {ρ:ac} {fl:Fl} (k:Rf Φ sc ss (jv ρ) fl):Rf Φ sc ss ρ fl
inductive nS(Φ:Fx)(sc:Scope):Stmt->ac->Fl->Prop where
 | set {x:Str} {e:Expr} {px q:Pos} {ρ:ac} {d:D} (h:Xd Φ sc ρ e d) (hx:cq sc x=true) (hc:jo e=false):nS Φ sc (.Assign [.Name x px] e q) ρ (.nx (aI ρ x (d,true)))
 | setS {x:Str} {e:Expr} {px q:Pos} {ρ:ac} {d:D} (h:uw Φ sc ρ e d) (hx:cq sc x=true):nS Φ sc (.Assign [.Name x px] e q) ρ (.nx (aI ρ x (d,false)))
 | app1 {x m:Str} {M:List D->List D->Nat->Rs (List D)} {i e:Expr} {p1 p2 ap cp p4:Pos} {ρ:ac} {dt l l':List D} {d:D} {j:Int} {k ki:Nat} (hM:Φ.mtt m=some M) (hx:ρ x=some (.tup dt,true)) (hi:aa (av Φ i false sc ρ) (.int j,ki)) (hs:gj i) (hat:L2.atI dt j=some (.lst l)) (h:aa (bQ Φ [e] sc ρ) ([d],k)) (hn:dw x=true) (hln:(ap.endLine==cp.line)=true) (hm:aa (M l [d] k) l') :
  nS Φ sc (.Expr (.Call (.Attribute (.Subscript (.Name x p1) i p2) m ap) [e] [] cp) p4) ρ (.nx (K0 ρ x))
 | sto2 {x:Str} {e i m:Expr} {p1 p2 p3 pos:Pos} {ρ:ac} {Ls:List (List Int)} {l:List Int} {j jm v:Int} {n nm k k1 k2:Nat} (hx:ρ x=some (.lst (Ls.map Lm),true)) (h:aa (av Φ e false sc ρ) (.int v,k)) (hi:aa (av Φ i false sc ρ) (.int j,k1)) (hm:aa (av Φ m false sc ρ) (.int jm,k2)) (hn:dw x=true)
  (h1:j7 Ls.length j=some n) (h2:Ls[n]?=some l) (h3:j7 l.length jm=some nm) (hd:∀a y,Ls[a]?=some y->a≠n->y≠l) (hs:gj i) (hsl:∀a b c p,m ≠ .Slice a b c p) :
  nS Φ sc (.Assign [.Subscript (.Subscript (.Name x p1) i p2) m p3] e pos) ρ (.nx (aI ρ x (.lst ((Ls.set n (l.set nm v)).map Lm),true)))
 | ret {e:Expr} {q:Pos} {ρ:ac} {d:D} (h:Xd Φ sc ρ e d):nS Φ sc (.Return (some e) q) ρ (.rt d)
 | iff {c:Expr} {a b:List Stmt} {pos:Pos} {ρ:ac} {t:Bool} {k:Nat} {fl:Fl} (hc:aa (av Φ c false sc ρ) (.bl t,k)) (h:Rf Φ sc (cond t a b) ρ fl):nS Φ sc (.If c a b pos) ρ fl
 | forC {tg it:Expr} {body:List Stmt} {pos:Pos} {ρ:ac} {d:D} {ds:List D} {k:Nat} {fl:Fl} (hi:aa (av Φ it true sc (demote it ρ)) (d,k)) (hd:items d=some ds) (hk:k<=1) (ht:fq it tg=true) (h:Rc Φ sc tg body ds (demote it ρ) fl):nS Φ sc (.For tg it body [] pos) ρ fl
 | forP {tg it c:Expr} {a:List Stmt} {pos q:Pos} {ρ ρ':ac} {d:D} {ds:List D} {k:Nat} (hi:aa (av Φ it true sc ρ) (d,k)) (hd:items d=some ds) (hl:ao ds=true) (ht:fq it tg=true) (h:Rp Φ sc tg c ds ρ ρ'):nS Φ sc (.For tg it [.If c a [] q] [] pos) ρ (.nx ρ')
inductive Rc(Φ:Fx)(sc:Scope):Expr->List Stmt->List D->ac->Fl->Prop where
 | nil {tg:Expr} {body:List Stmt} {ρ:ac}:Rc Φ sc tg body [] ρ (.nx ρ)
 | cons {tg:Expr} {body:List Stmt} {d:D} {ds:List D} {ρ ρ1 ρ2:ac} {fl:Fl} (hb:bK sc tg d ρ=some ρ1) (h:Rf Φ sc body ρ1 (.nx ρ2)) (k:Rc Φ sc tg body ds ρ2 fl):Rc Φ sc tg body (d::ds) ρ fl
 | stop {tg:Expr} {body:List Stmt} {d:D} {ds:List D} {ρ ρ1:ac} {r:D} (hb:bK sc tg d ρ=some ρ1) (h:Rf Φ sc body ρ1 (.rt r)):Rc Φ sc tg body (d::ds) ρ (.rt r)
end
end Sp
namespace TS
open PySem PyProof.Rows
noncomputable abbrev SM:=StateT SortSt Sem
noncomputable def gM:Bool->Keyed->Array Keyed->Nat->Nat->Nat->SM (Option Nat):=sortPriv% PySem.Builtin.gallop
noncomputable def ug(lf:Bool)(ke:Keyed)(xs:Array Keyed)(b i:Nat):SM (Option Bool):=do
 let x <- elem' xs (b+i)
 if lf then lt' x ke else return (<- lt' ke x).map (!·)
theorem HV(lf:Bool)(ke:Keyed)(xs:Array Keyed)(b n hh:Nat):gM lf ke xs b n hh=(do
 let mut lo1:=0
 let mut of1:=1
 let mut l:=0
 let mut h:=0
 let some rg <- ug lf ke xs b hh|return none
 if rg then
  let mx:=n-hh
  for _ in [0:n] do
   if of1 >= mx then break
   let some mo <- ug lf ke xs b (hh+of1)|return none
   if !mo then break
   lo1:=of1
   of1:=2*of1+1
  l:=hh+lo1+1
  h:=hh+min of1 mx
 else
  let mx:=hh+1
  for _ in [0:n] do
   if of1 >= mx then break
   let some fd <- ug lf ke xs b (hh-of1)|return none
   if fd then break
   lo1:=of1
   of1:=2*of1+1
  l:=hh+1-min of1 mx
  h:=hh-lo1
 for _ in [0:n] do
  if l >= h then break
  let m:=l+(h-l) / 2
  let some mo <- ug lf ke xs b m|return none
  if mo then l:=m+1 else h:=m
 return some h):=rfl
section
variable{M:Model}{A:Around}{E:Value->Shared->Prop}{s:Shared}
theorem HU{lf:Bool}{ke:Keyed}{xs:Array Keyed}{b n hh:Nat}{st:SortSt}{Q:Option Nat->SortSt->Prop}(B:Nat->Bool)(hb:∀i,i<n->∀Q:Option Bool->SortSt->Prop,Q (some (B i)) st->wpS M A E s (ug lf ke xs b i) Q st)
  (hm:∀i j,i<=j->j<n->B j=true->B i=true) (hn:hh<n) (h:∀k,k<=n->(∀i,i<k->B i=true)->(∀i,k<=i->i<n->B i=false)->Q (some k) st):wpS M A E s (gM lf ke xs b n hh) Q st:=by
 have hf:∀i j,i<=j->j<n->B i=false->B j=false:=fun i j h1 h2 h3=>by
  cases e:B j with
  | false=>rfl
  | true=>rw[hm i j h1 h2 e]at h3;cases h3
 rw[HV]
 refine QB (hb hh hn _ ?_)
 cases e:B hh with
 | true =>
  dsimp only
  rw[if_pos rfl]
  refine QB (R5 (Rm (I:=fun x c st'=>st'=st/\∃l o,c=(none,l,o)/\l<o/\x<o/\hh+l<n/\B (hh+l)=true)
   (Q:=fun c st'=>st'=st/\∃l o,c=(none,l,o)/\l<o/\hh+l<n/\B (hh+l)=true/\(n-hh<=o\/(hh+o<n/\B (hh+o)=false))) ?_ ?_ ⟨rfl,0,1,rfl,by omega,by omega,by omega,e⟩) ?_)
  ·rintro x c st' _ hx ⟨rfl,l,o,rfl,h1,h2,h3,h4⟩
   dsimp only
   by_cases hge:o >= n-hh
   ·rw[if_pos hge]
    exact QG ⟨rfl,l,o,rfl,h1,h3,h4,.inl hge⟩
   ·rw[if_neg hge]
    refine QB (hb _ (by omega) _ ?_)
    cases e2:B (hh+o)with
    | true =>
     dsimp only
     rw[if_neg (by simp)]
     exact QG ⟨rfl,o,2*o+1,rfl,by omega,by omega,by omega,e2⟩
    | false =>
     dsimp only
     rw[if_pos (by simp)]
     exact QG ⟨rfl,l,o,rfl,h1,h3,h4,.inr ⟨by omega,e2⟩⟩
  ·rintro c st' ⟨rfl,l,o,rfl,h1,h2,h3,h4⟩
   exact⟨rfl,l,o,rfl,h1,h3,h4,.inl (by omega)⟩
  ·rintro c st'' ⟨rfl,l,o,rfl,h1,h3,h4,h5⟩
   dsimp only
   have p3:∀i,i<hh+l+1->B i=true:=fun i hi=>hm i _ (by omega) h3 h4
   have p4:∀i,hh+min o (n-hh)<=i->i<n->B i=false:=fun i hi hi2=>by
    rcases h5 with h5|⟨h5,h6⟩
    ·omega
    ·exact hf _ i (by omega) hi2 h6
   refine QB (R5 (Rm (I:=fun x c st'=>st'=st''/\∃l r,c=(none,l,r)/\l<=r/\r<=n/\r-l<=n-x/\(∀i,i<l->B i=true)/\(∀i,r<=i->i<n->B i=false))
    (Q:=fun c st'=>st'=st''/\∃l,c=(none,l,l)/\l<=n/\(∀i,i<l->B i=true)/\(∀i,l<=i->i<n->B i=false)) ?_ ?_ ⟨rfl,hh+l+1,hh+min o (n-hh),rfl,by omega,by omega,by omega,p3,p4⟩) ?_)
   ·rintro x c st' _ hx ⟨rfl,l,r,rfl,h1,h2,h5,h3,h4⟩
    dsimp only
    by_cases hge:l >= r
    ·rw[if_pos hge]
     have:l=r:=by omega
     subst this
     exact QG ⟨rfl,l,rfl,h2,h3,h4⟩
    ·rw[if_neg hge]
     refine QB (hb _ (by omega) _ ?_)
     cases e:B (l+(r-l) / 2)with
     | true =>
      dsimp only
      rw[if_pos rfl]
      exact QG ⟨rfl,_,r,rfl,by omega,h2,by omega,fun i hi=>hm i _ (by omega) (by omega) e,h4⟩
     | false =>
      dsimp only
      rw[if_neg (by simp)]
      exact QG ⟨rfl,l,_,rfl,by omega,by omega,by omega,h3,fun i hi hi2=>hf _ i hi hi2 e⟩
   ·rintro c st' ⟨rfl,l,r,rfl,h1,h2,h5,h3,h4⟩
    have:l=r:=by omega
    subst this
    exact⟨rfl,l,rfl,h2,h3,h4⟩
   ·rintro c st' ⟨rfl,l,rfl,h2,h3,h4⟩
    exact QG (h l h2 h3 h4)
 | false =>
  dsimp only
  rw[if_neg (by simp)]
  refine QB (R5 (Rm (I:=fun x c st'=>st'=st/\∃l o,c=(none,l,o)/\l<o/\x<o/\l<=hh/\B (hh-l)=false)
   (Q:=fun c st'=>st'=st/\∃l o,c=(none,l,o)/\l<o/\l<=hh/\B (hh-l)=false/\(hh+1<=o\/(o<=hh/\B (hh-o)=true))) ?_ ?_ ⟨rfl,0,1,rfl,by omega,by omega,by omega,e⟩) ?_)
  ·rintro x c st' _ hx ⟨rfl,l,o,rfl,h1,h2,h3,h4⟩
   dsimp only
   by_cases hge:o >= hh+1
   ·rw[if_pos hge]
    exact QG ⟨rfl,l,o,rfl,h1,h3,h4,.inl hge⟩
   ·rw[if_neg hge]
    refine QB (hb _ (by omega) _ ?_)
    cases e2:B (hh-o)with
    | true =>
     dsimp only
     rw[if_pos rfl]
     exact QG ⟨rfl,l,o,rfl,h1,h3,h4,.inr ⟨by omega,e2⟩⟩
    | false =>
     dsimp only
     rw[if_neg (by simp)]
     exact QG ⟨rfl,o,2*o+1,rfl,by omega,by omega,by omega,e2⟩
  ·rintro c st' ⟨rfl,l,o,rfl,h1,h2,h3,h4⟩
   exact⟨rfl,l,o,rfl,h1,h3,h4,.inl (by omega)⟩
  ·rintro c st'' ⟨rfl,l,o,rfl,h1,h3,h4,h5⟩
   dsimp only
   have p3:∀i,i<hh+1-min o (hh+1)->B i=true:=fun i hi=>by
    rcases h5 with h5|⟨h5,h6⟩
    ·omega
    ·exact hm i _ (by omega) (by omega) h6
   have p4:∀i,hh-l<=i->i<n->B i=false:=fun i hi hi2=>hf _ i hi hi2 h4
   refine QB (R5 (Rm (I:=fun x c st'=>st'=st''/\∃l r,c=(none,l,r)/\l<=r/\r<=n/\r-l<=n-x/\(∀i,i<l->B i=true)/\(∀i,r<=i->i<n->B i=false))
    (Q:=fun c st'=>st'=st''/\∃l,c=(none,l,l)/\l<=n/\(∀i,i<l->B i=true)/\(∀i,l<=i->i<n->B i=false)) ?_ ?_ ⟨rfl,hh+1-min o (hh+1),hh-l,rfl,by omega,by omega,by omega,p3,p4⟩) ?_)
   ·rintro x c st' _ hx ⟨rfl,l,r,rfl,h1,h2,h5,h3,h4⟩
    dsimp only
    by_cases hge:l >= r
    ·rw[if_pos hge]
     have:l=r:=by omega
     subst this
     exact QG ⟨rfl,l,rfl,h2,h3,h4⟩
    ·rw[if_neg hge]
     refine QB (hb _ (by omega) _ ?_)
     cases e:B (l+(r-l) / 2)with
     | true =>
      dsimp only
      rw[if_pos rfl]
      exact QG ⟨rfl,_,r,rfl,by omega,h2,by omega,fun i hi=>hm i _ (by omega) (by omega) e,h4⟩
     | false =>
      dsimp only
      rw[if_neg (by simp)]
      exact QG ⟨rfl,l,_,rfl,by omega,by omega,by omega,h3,fun i hi hi2=>hf _ i hi hi2 e⟩
   ·rintro c st' ⟨rfl,l,r,rfl,h1,h2,h5,h3,h4⟩
    have:l=r:=by omega
    subst this
    exact⟨rfl,l,rfl,h2,h3,h4⟩
   ·rintro c st' ⟨rfl,l,rfl,h2,h3,h4⟩
    exact QG (h l h2 h3 h4)
end
end TS
namespace TS
open PySem PyProof.Rows
section
variable{O:KeyOrd}(ky:Keyed->O.α)
noncomputable def dc(l:List Keyed):Prop:=l.Pairwise fun x y=>O.kle (ky x) (ky y)
noncomputable def cH(l m:List Keyed):Prop:=∀x∈l,∀y∈m,O.kle (ky x) (ky y)
structure ck(T out A B:List Keyed):Prop where
 pm:(out++A++B).Perm T
 so:dc ky out
 sa:dc ky A
 sb:dc ky B
 oa:cH ky out A
 ob:cH ky out B
end
section
variable{O:KeyOrd}{ky:Keyed->O.α}{T out A B X:List Keyed}
theorem dD:dc ky (A++B)↔dc ky A/\dc ky B/\cH ky A B:=List.pairwise_append
theorem ck.goA(h:ck ky T out (X++A) B)(hx:cH ky X B):ck ky T (out++X) A B:=by
 obtain⟨pm,so,sa,sb,oa,ob⟩:=h
 obtain⟨s1,s2,s3⟩:=dD.mp sa
 refine⟨by simpa [Q5]using pm,dD.mpr ⟨so,s1,fun x hx y hy=>oa x hx y (List.mem_append_left _ hy)⟩,s2,sb,fun x hx' y hy=>?_,fun x hx' y hy=>?_⟩
 ·rcases QX.mp hx' with z|z
  ·exact oa x z y (QY _ hy)
  ·exact s3 x z y hy
 ·rcases QX.mp hx' with z|z
  ·exact ob x z y hy
  ·exact hx x z y hy
theorem ck.goB(h:ck ky T out A (X++B))(hx:cH ky X A):ck ky T (out++X) A B:=by
 obtain⟨pm,so,sa,sb,oa,ob⟩:=h
 obtain⟨s1,s2,s3⟩:=dD.mp sb
 refine⟨?_,dD.mpr ⟨so,s1,fun x hx y hy=>ob x hx y (List.mem_append_left _ hy)⟩,sa,s2,fun x hx' y hy=>?_,fun x hx' y hy=>?_⟩
 ·refine List.Perm.trans ?_ pm
  have:(X++A).Perm (A++X):=List.perm_append_comm
  have:=(this.append_right B).append_left out
  simpa [Q5]using this
 ·rcases QX.mp hx' with z|z
  ·exact oa x z y hy
  ·exact hx x z y hy
 ·rcases QX.mp hx' with z|z
  ·exact ob x z y (QY _ hy)
  ·exact s3 x z y hy
noncomputable abbrev eg(ky:Keyed->O.α)(T l:List Keyed):Prop:=l.Perm T/\dc ky l
theorem ck.endA(h:ck ky T out A []):eg ky T (out++A):=⟨by simpa using h.pm,dD.mpr ⟨h.so,h.sa,h.oa⟩⟩
theorem ck.endB(h:ck ky T out [] B):eg ky T (out++B):=⟨by simpa using h.pm,dD.mpr ⟨h.so,h.sb,h.ob⟩⟩
theorem ck.last(h:ck ky T out A B)(hz:cH ky B A):eg ky T (out++B++A):=(ck.goB (X:=B) (B:=[]) (by rw[Ra];exact h) hz).endA
theorem xS{x:Keyed}{l:List Keyed}(h:dc ky (x::l)):cH ky [x] (x::l):=fun a ha y hy=>by
 rw[QM]at ha;subst ha
 rcases QD.mp hy with rfl|hy
 ·exact RM _
 ·exact(RB.mp h).1 y hy
end
noncomputable def CD:Array Keyed->Array Keyed->SM (Array Keyed):=sortPriv% PySem.Builtin.mergeLo
noncomputable def nH:Nat->SM Unit:=sortPriv% PySem.Builtin.setMinGallop
noncomputable abbrev fV(a b out:Array Keyed)(i j:Nat):Array Keyed:=out++a.extract i a.size++b.extract j b.size
noncomputable abbrev nM(a b out:Array Keyed)(i j:Nat):Array Keyed:=out++b.extract j b.size++a.extract i a.size
noncomputable abbrev L1:=Option (Array Keyed)×Array Keyed×Nat×Nat×Nat×Nat
noncomputable abbrev L2:=Option (Array Keyed)×Array Keyed×Nat×Nat×Nat×Nat×Nat
noncomputable abbrev L0:=Option (Array Keyed)×Array Keyed×Nat×Nat×Nat
noncomputable def Gs(a b:Array Keyed)(g:Nat)(t:L1):SM (ForInStep L1):=do
 let y <- elem' b t.2.2.2.1
 let z <- elem' a t.2.2.1
 let x <- lt' y z
 match x with
 | some bw =>
  if bw=true then do
   let y <- elem' b t.2.2.2.1
   if (t.2.2.2.1+1==b.size)=true then pure (.done (some (fV a b (t.2.1.push y) t.2.2.1 (t.2.2.2.1+1)),t.2.1.push y,t.2.2.1,t.2.2.2.1+1,0,t.2.2.2.2.2+1))
   else if t.2.2.2.2.2+1 >= g then pure (.done (none,t.2.1.push y,t.2.2.1,t.2.2.2.1+1,0,t.2.2.2.2.2+1))
   else pure (.yield (none,t.2.1.push y,t.2.2.1,t.2.2.2.1+1,0,t.2.2.2.2.2+1))
  else do
   let y <- elem' a t.2.2.1
   if (t.2.2.1+1+1==a.size)=true then pure (.done (some (nM a b (t.2.1.push y) (t.2.2.1+1) t.2.2.2.1),t.2.1.push y,t.2.2.1+1,t.2.2.2.1,t.2.2.2.2.1+1,0))
   else if t.2.2.2.2.1+1 >= g then pure (.done (none,t.2.1.push y,t.2.2.1+1,t.2.2.2.1,t.2.2.2.2.1+1,0))
   else pure (.yield (none,t.2.1.push y,t.2.2.1+1,t.2.2.2.1,t.2.2.2.2.1+1,0))
 | _=>pure (.done (some (fV a b t.2.1 t.2.2.1 t.2.2.2.1),t.2.1,t.2.2.1,t.2.2.2.1,t.2.2.2.2.1,t.2.2.2.2.2))
noncomputable def C0(a b o:Array Keyed)(i j g c d:Nat):SM (ForInStep L2):=do
 let y <- elem' a i
 if (i+1+1==a.size)=true then pure (.done (some (nM a b (o.push y) (i+1) j),o.push y,i+1,j,g,c,d))
 else if (decide (c<7)&&decide (d<7))=true then pure (.done (none,o.push y,i+1,j,g,c,d))
 else pure (.yield (none,o.push y,i+1,j,g,c,d))
noncomputable def CF(a b o:Array Keyed)(i j g c d:Nat):SM (ForInStep L2):=do
 let y <- elem' b j
 if (j+1==b.size)=true then pure (.done (some (fV a b (o.push y) i (j+1)),o.push y,i,j+1,g,c,d))
 else do
  let z <- elem' a i
  let x <- gM true z b (j+1) (b.size-(j+1)) 0
  match x with
  | some k =>
   if k>0 then
    if (j+1+k==b.size)=true then pure (.done (some (fV a b (o.push y++b.extract (j+1) (j+1+k)) i (j+1+k)),o.push y++b.extract (j+1) (j+1+k),i,j+1+k,g,c,k))
    else C0 a b (o.push y++b.extract (j+1) (j+1+k)) i (j+1+k) g c k
   else C0 a b (o.push y) i (j+1) g c k
  | _=>pure (.done (some (fV a b (o.push y) i (j+1)),o.push y,i,j+1,g,c,d))
noncomputable def Ca(a b o:Array Keyed)(i j g c d:Nat):SM (ForInStep L2):=do
 nH g
 let y <- elem' b j
 let x <- gM false y a i (a.size-i) 0
 match x with
 | some k =>
  if k>0 then
   if (i+k+1==a.size)=true then pure (.done (some (nM a b (o++a.extract i (i+k)) (i+k) j),o++a.extract i (i+k),i+k,j,g,k,d))
   else if (i+k==a.size)=true then pure (.done (some (fV a b (o++a.extract i (i+k)) (i+k) j),o++a.extract i (i+k),i+k,j,g,k,d))
   else CF a b (o++a.extract i (i+k)) (i+k) j g k d
  else CF a b o i j g k d
 | _=>pure (.done (some (fV a b o i j),o,i,j,g,c,d))
noncomputable def du(a b:Array Keyed)(t:L2):SM (ForInStep L2) :=
 if t.2.2.2.2.1>1 then Ca a b t.2.1 t.2.2.1 t.2.2.2.1 (t.2.2.2.2.1-1) t.2.2.2.2.2.1 t.2.2.2.2.2.2
 else Ca a b t.2.1 t.2.2.1 t.2.2.2.1 t.2.2.2.2.1 t.2.2.2.2.2.1 t.2.2.2.2.2.2
noncomputable def Cv(a b:Array Keyed)(c:L0):SM (ForInStep L0):=do
 let t <- forIn [0:a.size+b.size] ((none,c.2.1,c.2.2.1,c.2.2.2.1,0,0):L1) fun _ t=>Gs a b c.2.2.2.2 t
 match t.1 with
 | some r=>pure (.done (some r,t.2.1,t.2.2.1,t.2.2.2.1,c.2.2.2.2))
 | none=>do
  liftM (rule "list.sort.gallop")
  let u <- forIn [0:a.size+b.size] ((none,t.2.1,t.2.2.1,t.2.2.2.1,c.2.2.2.2+1,t.2.2.2.2.1,t.2.2.2.2.2):L2) fun _ u=>du a b u
  match u.1 with
  | some r=>pure (.done (some r,u.2.1,u.2.2.1,u.2.2.2.1,u.2.2.2.2.1))
  | none=>do
   nH (u.2.2.2.2.1+1)
   pure (.yield (none,u.2.1,u.2.2.1,u.2.2.2.1,u.2.2.2.2.1+1))
theorem Ez(a b:Array Keyed):CD a b=(do
 rule "list.sort.merge-lo"
 let mut o:Array Keyed:=#[<- elem' b 0]
 let mut i:=0
 let mut j:=1
 if j==b.size then return fV a b o i j
 if i+1==a.size then return nM a b o i j
 let mut g:=gallopOf (<- get)
 for _ in [0:a.size+b.size] do
  let mut c:=0
  let mut d:=0
  for _ in [0:a.size+b.size] do
   let some bw <- lt' (<- elem' b j) (<- elem' a i)|return fV a b o i j
   if bw then
    o:=o.push (<- elem' b j);j:=j+1;d:=d+1;c:=0
    if j==b.size then return fV a b o i j
    if d >= g then break
   else
    o:=o.push (<- elem' a i);i:=i+1;c:=c+1;d:=0
    if i+1==a.size then return nM a b o i j
    if c >= g then break
  rule "list.sort.gallop"
  g:=g+1
  for _ in [0:a.size+b.size] do
   if g>1 then g:=g-1
   nH g
   let some k <- gM false (<- elem' b j) a i (a.size-i) 0|return fV a b o i j
   c:=k
   if k>0 then
    o:=o++a.extract i (i+k);i:=i+k
    if i+1==a.size then return nM a b o i j
    if i==a.size then return fV a b o i j
   o:=o.push (<- elem' b j);j:=j+1
   if j==b.size then return fV a b o i j
   let some k <- gM true (<- elem' a i) b j (b.size-j) 0|return fV a b o i j
   d:=k
   if k>0 then
    o:=o++b.extract j (j+k);j:=j+k
    if j==b.size then return fV a b o i j
   o:=o.push (<- elem' a i);i:=i+1
   if i+1==a.size then return nM a b o i j
   if c<7&&d<7 then break
  g:=g+1
  nH g
 unsupported "internal:list.sort.merge-bound"):=rfl
theorem Hj(a b:Array Keyed):CD a b=(do
  liftM (rule "list.sort.merge-lo")
  let y <- elem' b 0
  if (1==b.size)=true then pure (fV a b #[y] 0 1)
  else if (0+1==a.size)=true then pure (nM a b #[y] 0 1)
  else do
   let st <- get
   let c <- forIn [0:a.size+b.size] ((none,#[y],0,1,gallopOf st):L0) fun _ c=>Cv a b c
   match c.1 with
   | some r=>pure r
   | none=>liftM (unsupported "internal:list.sort.merge-bound" : Sem (Array Keyed))):=by
 rw[Ez]
 unfold Cv du
 dsimp only
 congr 1;funext _;congr 1;funext y
 refine SN rfl (fun _=>rfl) fun _=>SN rfl (fun _=>rfl) fun _=>?_
 congr 1;funext st
 congr 1
 ·congr 1
  funext _ c
  congr 1
  funext t
  obtain⟨t1,t2⟩:=t
  cases t1 with
  | some r=>rfl
  | none =>
   dsimp only
   congr 1;funext _
   congr 1
   funext u
   obtain⟨u1,u2⟩:=u
   cases u1<;>rfl
 ·funext c
  obtain⟨c1,c2⟩:=c
  cases c1<;>rfl
theorem Gu(g:Nat):nH g=modify fun st=>SortSt.mk' (kindOf st) (arrOf st) (pendingOf st) g (failedOf st):=rfl
end TS
namespace TS
open PySem PyProof.Rows
section
variable{O:KeyOrd}{ky:Keyed->O.α}{M:Model}{A:Around}{E:Value->Shared->Prop}{s:Shared}{U:List Keyed}{kd:SortKind}
noncomputable def Lts(ky:Keyed->O.α)(M:Model)(A:Around)(E:Value->Shared->Prop)(s:Shared)(kd:SortKind)(U:List Keyed):Prop :=
 ∀x∈U,∀y∈U,∀(st:SortSt) (Q:Option Bool->SortSt->Prop),kindOf st=kd->Q (some (O.blt (ky x) (ky y))) st->wpS M A E s (lt' x y) Q st
noncomputable def cM(st:SortSt)(g:Nat):SortSt:=SortSt.mk' (kindOf st) (arrOf st) (pendingOf st) g (failedOf st)
theorem bg{xs:Array Keyed}{i:Nat}{st:SortSt}{Q:Keyed->SortSt->Prop}(hi:i<xs.size)(h:Q xs[i] st):wpS M A E s (elem' xs i) Q st:=by
 rw[elem'_eq,getElem?_pos xs i hi];exact QG h
noncomputable def bR(ky:Keyed->O.α)(lf:Bool)(ke x:Keyed):Bool:=if lf then O.blt (ky x) (ky ke)else !O.blt (ky ke) (ky x)
theorem AT{lf:Bool}{ke x y:Keyed}(h:O.kle (ky x) (ky y))(hy:bR ky lf ke y=true):bR ky lf ke x=true:=by
 cases lf with
 | true=>exact KeyOrd.klt_of_kle_of_klt h hy
 | false =>
  unfold bR at *
  simp only[Ro,S5,SF]at *
  exact Ri h hy
theorem Jr(hL:Lts ky M A E s kd U){lf:Bool}{ke:Keyed}{xs:Array Keyed}{b i:Nat}{st:SortSt}{Q:Option Bool->SortSt->Prop}(hk:kindOf st=kd)(hU:∀x∈xs.toList,x∈U)(hke:ke∈U)(hi:b+i<xs.size)
  (h:Q (some (bR ky lf ke xs[b+i])) st):wpS M A E s (ug lf ke xs b i) Q st:=by
 unfold ug
 refine QB (bg hi ?_)
 have hx:xs[b+i]∈U:=hU _ (RD hi)
 unfold bR at h
 cases lf with
 | true =>
  rw[if_pos rfl]at h⊢
  exact hL _ hx _ hke st Q hk h
 | false =>
  rw[if_neg (by simp)]at h⊢
  exact QB (hL _ hke _ hx st _ hk (QG h))
theorem jq(hL:Lts ky M A E s kd U){lf:Bool}{ke:Keyed}{xs:Array Keyed}{b n hh:Nat}{st:SortSt}{Q:Option Nat->SortSt->Prop}(hk:kindOf st=kd)(hU:∀x∈xs.toList,x∈U)(hke:ke∈U)(hs:dc ky ((xs.toList.drop b).take n))(hz:b+n<=xs.size)(hn:hh<n)
  (h:∀k,k<=n->(∀x∈((xs.toList.drop b).take n).take k,bR ky lf ke x=true)->(∀x∈((xs.toList.drop b).take n).drop k,bR ky lf ke x=false)->Q (some k) st):wpS M A E s (gM lf ke xs b n hh) Q st:=by
 have ln:((xs.toList.drop b).take n).length=n:=by rw[Q1,RG,QF];omega
 have gt:∀i (hi:i<n),((xs.toList.drop b).take n)[i]'(by rw[ln];exact hi)=xs[b+i]'(by omega):=fun i hi=>by simp
 have hB:∀i (hi:i<n),bR ky lf ke (xs.getD (b+i) (.none,.none))=bR ky lf ke (xs[b+i]'(by omega)):=fun i hi=>by
  congr 1;exact Array.getElem_eq_getD _ |>.symm
 refine HU (fun i=>bR ky lf ke (xs.getD (b+i) (.none,.none))) (fun i hi Q hQ=>Jr hL hk hU hke (by omega) (by rw[<- hB i hi];exact hQ)) (fun i j hij hj e=>?_) hn fun k hk2 h1 h2=>h k hk2 (fun x hx=>?_) fun x hx=>?_
 ·rw[hB j hj]at e
  rw[hB i (by omega)]
  rcases Nat.lt_or_ge i j with z|z
  ·have:=List.pairwise_iff_getElem.mp hs i j (by rw[ln];omega) (by rw[ln];exact hj) z
   rw[gt i (by omega),gt j hj]at this
   exact AT this e
  ·have:i=j:=by omega
   subst this;exact e
 ·obtain⟨i,hi,rfl⟩:=List.mem_iff_getElem.mp hx
  rw[Q1,ln]at hi
  rw[List.getElem_take,gt i (by omega),<- hB i (by omega)]
  exact h1 i (by omega)
 ·obtain⟨i,hi,rfl⟩:=List.mem_iff_getElem.mp hx
  rw[RG,ln]at hi
  rw[List.getElem_drop,gt (k+i) (by omega),<- hB (k+i) (by omega)]
  exact h2 (k+i) (by omega) (by omega)
theorem oN{ke x:Keyed}(h:bR ky false ke x=true):O.kle (ky x) (ky ke):=by
 unfold bR at h
 simp only[Ro,S5,SF]at h
 exact h
theorem oM{ke x:Keyed}(h:bR ky false ke x=false):O.kle (ky ke) (ky x):=by
 unfold bR at h
 simp only[Ro,S5,Bool.not_eq_false']at h
 exact RJ h
theorem wz{ke x:Keyed}(h:bR ky true ke x=true):O.kle (ky x) (ky ke):=RJ h
theorem kK{ke x:Keyed}(h:bR ky true ke x=false):O.kle (ky ke) (ky x):=h
theorem gU(a:Array Keyed)(i k:Nat):(a.extract i (i+k)).toList=(a.toList.drop i).take k:=by
 rw[Array.toList_extract];simp[List.extract_eq_take_drop]
theorem ml(a:Array Keyed)(i:Nat):(a.extract i a.size).toList=a.toList.drop i:=by
 rw[Array.toList_extract];simp[List.extract_eq_take_drop,RU]
theorem g9{a:Array Keyed}{i:Nat}(h:i<a.size):a.toList.drop i=a[i]::a.toList.drop (i+1):=by
 rw[RL (by simpa using h)];simp
theorem tU(a:Array Keyed)(i k:Nat):a.toList.drop i=(a.toList.drop i).take k++a.toList.drop (i+k):=by
 rw[<- Sc,Re]
variable{T:List Keyed}{a b o:Array Keyed}{i j:Nat}
theorem ju(h:ck ky T o.toList (a.toList.drop i) (b.toList.drop j))(e:j=b.size\/i=a.size):eg ky T (fV a b o i j).toList:=by
 have e1:(fV a b o i j).toList=o.toList++a.toList.drop i++b.toList.drop j:=by
  rw[Ru,Ru,ml,ml]
 rw[e1]
 rcases e with rfl|rfl
 ·have e2:b.toList.drop b.size=[]:=List.drop_eq_nil_of_le (by simp)
  rw[e2]at h⊢
  rw[Ra]
  exact h.endA
 ·have e2:a.toList.drop a.size=[]:=List.drop_eq_nil_of_le (by simp)
  rw[e2]at h⊢
  rw[Ra]
  exact h.endB
theorem nh(h:ck ky T o.toList (a.toList.drop i) (b.toList.drop j))(e:i+1=a.size)(hz:cH ky b.toList (a.toList.drop (a.size-1))):eg ky T (nM a b o i j).toList:=by
 have e1:(nM a b o i j).toList=o.toList++b.toList.drop j++a.toList.drop i:=by
  rw[Ru,Ru,ml,ml]
 rw[e1]
 rw[show a.size-1=i by omega]at hz
 exact h.last fun x hx y hy=>hz x (So hx) y hy
theorem Co(h:ck ky T o.toList (a.toList.drop i) (b.toList.drop j))(hi:i<a.size)(hx:cH ky [a[i]] (b.toList.drop j)):ck ky T (o.push a[i]).toList (a.toList.drop (i+1)) (b.toList.drop j):=by
 rw[SH]
 rw[g9 hi]at h
 exact ck.goA (X:=[a[i]]) h hx
theorem wA(h:ck ky T o.toList (a.toList.drop i) (b.toList.drop j))(hj:j<b.size)(hx:cH ky [b[j]] (a.toList.drop i)):ck ky T (o.push b[j]).toList (a.toList.drop i) (b.toList.drop (j+1)):=by
 rw[SH]
 rw[g9 hj]at h
 exact ck.goB (X:=[b[j]]) h hx
theorem Pt(k:Nat)(h:ck ky T o.toList (a.toList.drop i) (b.toList.drop j))(hx:cH ky ((a.toList.drop i).take k) (b.toList.drop j)):ck ky T (o++a.extract i (i+k)).toList (a.toList.drop (i+k)) (b.toList.drop j):=by
 rw[Ru,gU]
 rw[tU a i k]at h
 exact ck.goA h hx
theorem Ps(k:Nat)(h:ck ky T o.toList (a.toList.drop i) (b.toList.drop j))(hx:cH ky ((b.toList.drop j).take k) (a.toList.drop i)):ck ky T (o++b.extract j (j+k)).toList (a.toList.drop i) (b.toList.drop (j+k)):=by
 rw[Ru,gU]
 rw[tU b j k]at h
 exact ck.goB h hx
theorem rB{x y:Keyed}(hi:i<a.size)(hs:dc ky (a.toList.drop i))(hx:O.kle (ky x) (ky a[i]))(hy:y∈a.toList.drop i):O.kle (ky x) (ky y):=by
 rw[g9 hi]at hs hy
 exact Ri hx (xS hs _ (QM.mpr rfl) y hy)
theorem mC(a:Array Keyed)(i:Nat):(a.toList.drop i).take (a.size-i)=a.toList.drop i:=RU (by rw[RG,QF];exact QA _)
theorem gA(h:i<a.size):a[i]∈a.toList:=RD h
theorem KO(hL:Lts ky M A E s kd U){ke:Keyed}{st:SortSt}{Q:Option Nat->SortSt->Prop}(hk:kindOf st=kd)(hU:∀x∈a.toList,x∈U)(hke:ke∈U)(hs:dc ky (a.toList.drop i))(hi:i<a.size)
  (h:∀k,i+k<=a.size->cH ky ((a.toList.drop i).take k) [ke]->cH ky [ke] (a.toList.drop (i+k))->Q (some k) st):wpS M A E s (gM false ke a i (a.size-i) 0) Q st:=by
 refine jq hL hk hU hke (by rw[mC];exact hs) (by omega) (by omega) fun k hk2 h1 h2=>?_
 rw[mC]at h1 h2
 rw[Sc]at h2
 exact h k (by omega) (fun x hx y hy=>by rw[QM]at hy;subst hy;exact oN (h1 x hx)) fun x hx y hy=>by rw[QM]at hx;subst hx;exact oM (h2 y hy)
theorem KP(hL:Lts ky M A E s kd U){ke:Keyed}{st:SortSt}{Q:Option Nat->SortSt->Prop}(hk:kindOf st=kd)(hU:∀x∈a.toList,x∈U)(hke:ke∈U)(hs:dc ky (a.toList.drop i))(hi:i<a.size)
  (h:∀k,i+k<=a.size->cH ky ((a.toList.drop i).take k) [ke]->cH ky [ke] (a.toList.drop (i+k))->Q (some k) st):wpS M A E s (gM true ke a i (a.size-i) 0) Q st:=by
 refine jq hL hk hU hke (by rw[mC];exact hs) (by omega) (by omega) fun k hk2 h1 h2=>?_
 rw[mC]at h1 h2
 rw[Sc]at h2
 exact h k (by omega) (fun x hx y hy=>by rw[QM]at hy;subst hy;exact wz (h1 x hx)) fun x hx y hy=>by rw[QM]at hx;subst hx;exact kK (h2 y hy)
structure At(ky:Keyed->O.α)(T:List Keyed)(a b o:Array Keyed)(i j:Nat):Prop where
 m:ck ky T o.toList (a.toList.drop i) (b.toList.drop j)
 hi:i+1<a.size
 hj:j<b.size
structure nR(ky:Keyed->O.α)(M:Model)(A:Around)(E:Value->Shared->Prop)(s:Shared)(kd:SortKind)(U:List Keyed)(a b:Array Keyed)(st:SortSt):Prop where
 lt:Lts ky M A E s kd U
 ua:∀x∈a.toList,x∈U
 ub:∀x∈b.toList,x∈U
 hz:cH ky b.toList (a.toList.drop (a.size-1))
 kd:kindOf st=kd
noncomputable abbrev qB(ky:Keyed->O.α)(T:List Keyed)(a b:Array Keyed)(n0:Nat)(r:Option (Array Keyed))(o:Array Keyed)(i j:Nat):Prop :=
 match r with
 | some r=>eg ky T r.toList
 | none=>At ky T a b o i j/\n0<i+j
theorem zm{st:SortSt}(W:nR ky M A E s kd U a b st){g c d n0:Nat}{Q:ForInStep L2->SortSt->Prop}(h:At ky T a b o i j)(hn:n0<i+j)(hx:cH ky [a[i]'(by have:=h.hi;omega)] (b.toList.drop j))
  (q1:∀r o i j,qB ky T a b n0 r o i j->Q (.done (r,o,i,j,g,c,d)) st) (q2:∀o i j,At ky T a b o i j->n0<i+j->Q (.yield (none,o,i,j,g,c,d)) st):wpS M A E s (C0 a b o i j g c d) Q st:=by
 obtain⟨m,hi,hj⟩:=h
 unfold C0
 refine QB (bg (by omega) ?_)
 have m2:=Co m (by omega) hx
 by_cases e:i+1+1=a.size
 ·rw[if_pos (by simpa using e)]
  exact QG (q1 _ _ _ _ (nh m2 e W.hz))
 ·rw[if_neg (by simpa using e)]
  split
  ·exact QG (q1 _ _ _ _ ⟨⟨m2,by omega,hj⟩,by omega⟩)
  ·exact QG (q2 _ _ _ ⟨m2,by omega,hj⟩ (by omega))
theorem yx{st:SortSt}(W:nR ky M A E s kd U a b st){g c d n0:Nat}{Q:ForInStep L2->SortSt->Prop}(h:At ky T a b o i j)(hn:n0<i+j)(hx:cH ky [b[j]'h.hj] (a.toList.drop i))
  (q1:∀r o i j c d,qB ky T a b n0 r o i j->Q (.done (r,o,i,j,g,c,d)) st) (q2:∀o i j c d,At ky T a b o i j->n0<i+j->Q (.yield (none,o,i,j,g,c,d)) st):wpS M A E s (CF a b o i j g c d) Q st:=by
 obtain⟨m,hi,hj⟩:=h
 unfold CF
 refine QB (bg hj ?_)
 have m2:=wA m hj hx
 by_cases e:j+1=b.size
 ·rw[if_pos (by simpa using e)]
  exact QG (q1 _ _ _ _ _ _ (ju m2 (.inl e)))
 ·rw[if_neg (by simpa using e)]
  refine QB (bg (by omega) ?_)
  refine QB (KP W.lt W.kd W.ub (W.ua _ (gA (by omega))) m2.sb (by omega) fun k hk h1 h2=>?_)
  dsimp only
  by_cases k0:k>0
  ·rw[if_pos k0]
   have m3:=Ps k m2 fun x hx y hy=>rB (by omega) m2.sa (h1 x hx _ (QM.mpr rfl)) hy
   by_cases e2:j+1+k=b.size
   ·rw[if_pos (by simpa using e2)]
    exact QG (q1 _ _ _ _ _ _ (ju m3 (.inl e2)))
   ·rw[if_neg (by simpa using e2)]
    exact zm W ⟨m3,hi,by omega⟩ (by omega) h2 (fun _ _ _ _ z=>q1 _ _ _ _ _ _ z) fun _ _ _ z z2=>q2 _ _ _ _ _ z z2
  ·rw[if_neg k0]
   have:k=0:=by omega
   subst this
   exact zm W ⟨m2,hi,by omega⟩ (by omega) h2 (fun _ _ _ _ z=>q1 _ _ _ _ _ _ z) fun _ _ _ z z2=>q2 _ _ _ _ _ z z2
theorem mf{st:SortSt}{g:Nat}{Q:Unit->SortSt->Prop}(h:Q () (cM st g)):wpS M A E s (nH g) Q st:=by
 rw[Gu];exact wpS_modify h
theorem nR.set{st:SortSt}(W:nR ky M A E s kd U a b st)(g:Nat):nR ky M A E s kd U a b (cM st g):=⟨W.lt,W.ua,W.ub,W.hz,W.kd⟩
theorem xI{st:SortSt}(W:nR ky M A E s kd U a b st){g c d n0:Nat}{Q:ForInStep L2->SortSt->Prop}(h:At ky T a b o i j)(hn:n0<i+j)
  (q1:∀r o i j c d,qB ky T a b n0 r o i j->Q (.done (r,o,i,j,g,c,d)) (cM st g)) (q2:∀o i j c d,At ky T a b o i j->n0<i+j->Q (.yield (none,o,i,j,g,c,d)) (cM st g)):wpS M A E s (Ca a b o i j g c d) Q st:=by
 obtain⟨m,hi,hj⟩:=h
 unfold Ca
 refine QB (mf ?_)
 have W:=W.set g
 refine QB (bg hj ?_)
 refine QB (KO W.lt W.kd W.ua (W.ub _ (gA (by omega))) m.sa (by omega) fun k hk h1 h2=>?_)
 dsimp only
 by_cases k0:k>0
 ·rw[if_pos k0]
  have m2:=Pt k m fun x hx y hy=>rB hj m.sb (h1 x hx _ (QM.mpr rfl)) hy
  by_cases e:i+k+1=a.size
  ·rw[if_pos (by simpa using e)]
   exact QG (q1 _ _ _ _ _ _ (nh m2 e W.hz))
  ·rw[if_neg (by simpa using e)]
   by_cases e2:i+k=a.size
   ·rw[if_pos (by simpa using e2)]
    exact QG (q1 _ _ _ _ _ _ (ju m2 (.inr e2)))
   ·rw[if_neg (by simpa using e2)]
    exact yx W ⟨m2,by omega,hj⟩ (by omega) h2 q1 q2
 ·rw[if_neg k0]
  have:k=0:=by omega
  subst this
  exact yx W ⟨m,hi,hj⟩ hn h2 q1 q2
theorem Gr{st:SortSt}(W:nR ky M A E s kd U a b st){g c d n0:Nat}{Q:ForInStep L1->SortSt->Prop}(h:At ky T a b o i j)(hn:n0<=i+j)
  (q1:∀r o i j c d,qB ky T a b n0 r o i j->Q (.done (r,o,i,j,c,d)) st) (q2:∀o i j c d,At ky T a b o i j->n0<i+j->Q (.yield (none,o,i,j,c,d)) st):wpS M A E s (Gs a b g (none,o,i,j,c,d)) Q st:=by
 obtain⟨m,hi,hj⟩:=h
 unfold Gs
 dsimp only
 refine QB (bg hj (QB (bg (by omega) ?_)))
 refine QB (W.lt _ (W.ub _ (gA hj)) _ (W.ua _ (gA (by omega))) st _ W.kd ?_)
 cases e:O.blt (ky b[j]) (ky a[i])with
 | true =>
  dsimp only
  rw[if_pos rfl]
  refine QB (bg hj ?_)
  have m2:=wA m hj fun x hx y hy=>by
   rw[QM]at hx;subst hx
   exact rB (by omega) m.sa (RJ e) hy
  by_cases e2:j+1=b.size
  ·rw[if_pos (by simpa using e2)]
   exact QG (q1 _ _ _ _ _ _ (ju m2 (.inl e2)))
  ·rw[if_neg (by simpa using e2)]
   split
   ·exact QG (q1 _ _ _ _ _ _ ⟨⟨m2,hi,by omega⟩,by omega⟩)
   ·exact QG (q2 _ _ _ _ _ ⟨m2,hi,by omega⟩ (by omega))
 | false =>
  dsimp only
  rw[if_neg (by simp)]
  refine QB (bg (by omega) ?_)
  have m2:=Co m (by omega) fun x hx y hy=>by
   rw[QM]at hx;subst hx
   exact rB hj m.sb e hy
  by_cases e2:i+1+1=a.size
  ·rw[if_pos (by simpa using e2)]
   exact QG (q1 _ _ _ _ _ _ (nh m2 e2 W.hz))
  ·rw[if_neg (by simpa using e2)]
   split
   ·exact QG (q1 _ _ _ _ _ _ ⟨⟨m2,by omega,hj⟩,by omega⟩)
   ·exact QG (q2 _ _ _ _ _ ⟨m2,by omega,hj⟩ (by omega))
theorem G1{st:SortSt}(W:nR ky M A E s kd U a b st){g:Nat}{Q:ForInStep L0->SortSt->Prop}(h:At ky T a b o i j)
  (q1:∀r o' i' j' g' g2,eg ky T r.toList->Q (.done (some r,o',i',j',g')) (cM st g2)) (q2:∀o' i' j' g',At ky T a b o' i' j'->i+j<i'+j'->Q (.yield (none,o',i',j',g')) (cM st g')):wpS M A E s (Cv a b (none,o,i,j,g)) Q st:=by
 unfold Cv
 dsimp only
 have tot:0<a.size+b.size:=by have:=h.hi;omega
 refine QB (R5 (Rm (I:=fun x c st'=>st'=st/\∃o' i' j' p q,c=((none,o',i',j',p,q):L1)/\At ky T a b o' i' j'/\i+j+x<=i'+j')
  (Q:=fun c st'=>st'=st/\qB ky T a b (i+j) c.1 c.2.1 c.2.2.1 c.2.2.2.1) ?_ ?_ ⟨rfl,o,i,j,0,0,rfl,h,by omega⟩) ?_)
 ·rintro x c st' _ hx ⟨rfl,o',i',j',p,q,rfl,h',hn⟩
  exact Gr W (n0:=i+j+x) h' hn (fun r o i j c d z=>⟨rfl,by
   cases r with
   | some r=>exact z
   | none=>exact⟨z.1,Rb (RO _ _) z.2⟩⟩) fun o i j c d z z2=>⟨rfl,_,_,_,_,_,rfl,z,by omega⟩
 ·rintro c st' ⟨rfl,o',i',j',p,q,rfl,h',hn⟩
  exact⟨rfl,h',show i+j<i'+j' by omega⟩
 ·rintro⟨r,o',i',j',p,q⟩ st' ⟨rfl,h'⟩
  cases r with
  | some r=>exact QG (q1 r _ _ _ _ (gallopOf st') h')
  | none =>
   dsimp only
   refine QB (wpS_lift (Sm ⟨rfl,?_⟩))
   refine QB (R5 (Rm (I:=fun x c st2=>(∃g2,st2=cM st' g2)/\∃o' i' j' g' p q,c=((none,o',i',j',g',p,q):L2)/\At ky T a b o' i' j'/\i+j<i'+j')
    (Q:=fun c st2=>(∃g2,st2=cM st' g2)/\qB ky T a b (i+j) c.1 c.2.1 c.2.2.1 c.2.2.2.1) ?_ ?_ ⟨⟨gallopOf st',rfl⟩,o',i',j',_,p,q,rfl,h'.1,h'.2⟩) ?_)
   ·rintro x c st2 _ hx ⟨⟨g2,rfl⟩,o',i',j',g',p,q,rfl,h',hn⟩
    unfold du
    dsimp only
    split
    ·exact xI (W.set g2) h' hn (fun r o i j c d z=>⟨⟨_,rfl⟩,z⟩) fun o i j c d z z2=>⟨⟨_,rfl⟩,_,_,_,_,_,_,rfl,z,z2⟩
    ·exact xI (W.set g2) h' hn (fun r o i j c d z=>⟨⟨_,rfl⟩,z⟩) fun o i j c d z z2=>⟨⟨_,rfl⟩,_,_,_,_,_,_,rfl,z,z2⟩
   ·rintro c st2 ⟨hg,o',i',j',g',p,q,rfl,h',hn⟩
    exact⟨hg,h',hn⟩
   ·rintro⟨r,o',i',j',g',p,q⟩ st2 ⟨⟨g2,rfl⟩,h'⟩
    cases r with
    | some r=>exact QG (q1 r _ _ _ _ g2 h')
    | none=>exact QB (mf (QG (q2 _ _ _ _ h'.1 h'.2)))
theorem Hi{st:SortSt}(W:nR ky M A E s kd U a b st){Q:Array Keyed->SortSt->Prop}(sa:dc ky a.toList)(sb:dc ky b.toList)(na:1<=a.size)(nb:1<=b.size)(h1:cH ky [b[0]] a.toList)
  (h:∀r g,eg ky (a.toList++b.toList) r.toList->Q r (cM st g)):wpS M A E s (CD a b) Q st:=by
 rw[Hj]
 refine QB (wpS_lift (Sm ⟨rfl,?_⟩))
 refine QB (bg (by omega) ?_)
 have m0:ck ky (a.toList++b.toList) (#[]:Array Keyed).toList (a.toList.drop 0) (b.toList.drop 0):=⟨by simp,List.Pairwise.nil,sa,sb,fun x hx=>(by cases hx),fun x hx=>(by cases hx)⟩
 have m1:=wA m0 (by omega) h1
 rw[show(#[]:Array Keyed).push b[0] = #[b[0]]from rfl]at m1
 by_cases e:1=b.size
 ·rw[if_pos (by simpa using e)]
  exact QG (h _ (gallopOf st) (ju m1 (.inl e)))
 ·rw[if_neg (by simpa using e)]
  by_cases e2:0+1=a.size
  ·rw[if_pos (by simpa using e2)]
   exact QG (h _ (gallopOf st) (nh m1 e2 W.hz))
  ·rw[if_neg (by simpa using e2)]
   refine QB (wpS_get ?_)
   refine QB (R5 (Rm (I:=fun x c st'=>(∃g2,st'=cM st g2)/\∃o' i' j' g',c=((none,o',i',j',g'):L0)/\At ky (a.toList++b.toList) a b o' i' j'/\x<i'+j')
    (Q:=fun c st'=>(∃g2,st'=cM st g2)/\∃r,c.1=some r/\eg ky (a.toList++b.toList) r.toList) ?_ ?_ ⟨⟨gallopOf st,rfl⟩,_,_,_,_,rfl,⟨m1,by omega,by omega⟩,by omega⟩) ?_)
   ·rintro x c st' _ hx ⟨⟨g2,rfl⟩,o',i',j',g',rfl,h',hn⟩
    exact G1 (W.set g2) h' (fun r _ _ _ _ _ z=>⟨⟨_,rfl⟩,r,rfl,z⟩) fun _ _ _ _ z z2=>⟨⟨_,rfl⟩,_,_,_,_,rfl,z,by omega⟩
   ·rintro c st' ⟨hg,o',i',j',g',rfl,h',hn⟩
    have:=h'.hi
    have:=h'.hj
    omega
   ·rintro⟨r,c2⟩ st' ⟨⟨g2,rfl⟩,r',e3,hr⟩
    cases (show r=some r' from e3)
    exact QG (h r' g2 hr)
end
end TS
namespace TS
open PySem PyProof.Rows
noncomputable def CG:Array Keyed->Array Keyed->SM (Array Keyed):=sortPriv% PySem.Builtin.mergeHi
noncomputable abbrev fU(a b o:Array Keyed)(m n:Nat):Array Keyed:=a.extract 0 m++b.extract 0 n++o.reverse
noncomputable abbrev nN(a b o:Array Keyed)(m n:Nat):Array Keyed:=b.extract 0 n++a.extract 0 m++o.reverse
theorem EA(a b:Array Keyed):CG a b=(do
 rule "list.sort.merge-hi"
 let mut m:=a.size-1
 let mut n:=b.size
 let mut o:Array Keyed:=#[<- elem' a m]
 if m==0 then return fU a b o m n
 if n==1 then return nN a b o m n
 let mut g:=gallopOf (<- get)
 for _ in [0:a.size+b.size] do
  let mut c:=0
  let mut d:=0
  for _ in [0:a.size+b.size] do
   let some aw <- lt' (<- elem' b (n-1)) (<- elem' a (m-1))|return fU a b o m n
   if aw then
    m:=m-1;o:=o.push (<- elem' a m);c:=c+1;d:=0
    if m==0 then return fU a b o m n
    if c >= g then break
   else
    n:=n-1;o:=o.push (<- elem' b n);d:=d+1;c:=0
    if n==1 then return nN a b o m n
    if d >= g then break
  rule "list.sort.gallop"
  g:=g+1
  for _ in [0:a.size+b.size] do
   if g>1 then g:=g-1
   nH g
   let some p <- gM false (<- elem' b (n-1)) a 0 m (m-1)|return fU a b o m n
   let k:=m-p
   c:=k
   if k>0 then
    o:=o++(a.extract p m).reverse;m:=p
    if m==0 then return fU a b o m n
   n:=n-1;o:=o.push (<- elem' b n)
   if n==1 then return nN a b o m n
   let some p <- gM true (<- elem' a (m-1)) b 0 n (n-1)|return fU a b o m n
   let k:=n-p
   d:=k
   if k>0 then
    o:=o++(b.extract p n).reverse;n:=p
    if n==1 then return nN a b o m n
    if n==0 then return fU a b o m n
   m:=m-1;o:=o.push (<- elem' a m)
   if m==0 then return fU a b o m n
   if c<7&&d<7 then break
  g:=g+1
  nH g
 unsupported "internal:list.sort.merge-bound"):=rfl
noncomputable abbrev H1:=Option (Array Keyed)×Nat×Nat×Array Keyed×Nat×Nat
noncomputable abbrev H2:=Option (Array Keyed)×Nat×Nat×Array Keyed×Nat×Nat×Nat
noncomputable abbrev H0:=Option (Array Keyed)×Nat×Nat×Array Keyed×Nat
noncomputable def HS(a b:Array Keyed)(g:Nat)(t:H1):SM (ForInStep H1):=do
 let y <- elem' b (t.2.2.1-1)
 let z <- elem' a (t.2.1-1)
 let x <- lt' y z
 match x with
 | some aw =>
  if aw=true then do
   let y <- elem' a (t.2.1-1)
   if (t.2.1-1==0)=true then pure (.done (some (fU a b (t.2.2.2.1.push y) (t.2.1-1) t.2.2.1),t.2.1-1,t.2.2.1,t.2.2.2.1.push y,t.2.2.2.2.1+1,0))
   else if t.2.2.2.2.1+1 >= g then pure (.done (none,t.2.1-1,t.2.2.1,t.2.2.2.1.push y,t.2.2.2.2.1+1,0))
   else pure (.yield (none,t.2.1-1,t.2.2.1,t.2.2.2.1.push y,t.2.2.2.2.1+1,0))
  else do
   let y <- elem' b (t.2.2.1-1)
   if (t.2.2.1-1==1)=true then pure (.done (some (nN a b (t.2.2.2.1.push y) t.2.1 (t.2.2.1-1)),t.2.1,t.2.2.1-1,t.2.2.2.1.push y,0,t.2.2.2.2.2+1))
   else if t.2.2.2.2.2+1 >= g then pure (.done (none,t.2.1,t.2.2.1-1,t.2.2.2.1.push y,0,t.2.2.2.2.2+1))
   else pure (.yield (none,t.2.1,t.2.2.1-1,t.2.2.2.1.push y,0,t.2.2.2.2.2+1))
 | _=>pure (.done (some (fU a b t.2.2.2.1 t.2.1 t.2.2.1),t.2.1,t.2.2.1,t.2.2.2.1,t.2.2.2.2.1,t.2.2.2.2.2))
noncomputable def CU(a b:Array Keyed)(m n:Nat)(o:Array Keyed)(g c d:Nat):SM (ForInStep H2):=do
 let y <- elem' a (m-1)
 if (m-1==0)=true then pure (.done (some (fU a b (o.push y) (m-1) n),m-1,n,o.push y,g,c,d))
 else if (decide (c<7)&&decide (d<7))=true then pure (.done (none,m-1,n,o.push y,g,c,d))
 else pure (.yield (none,m-1,n,o.push y,g,c,d))
noncomputable def CT(a b:Array Keyed)(m n:Nat)(o:Array Keyed)(g c d:Nat):SM (ForInStep H2):=do
 let y <- elem' b (n-1)
 if (n-1==1)=true then pure (.done (some (nN a b (o.push y) m (n-1)),m,n-1,o.push y,g,c,d))
 else do
  let z <- elem' a (m-1)
  let x <- gM true z b 0 (n-1) (n-1-1)
  match x with
  | some p =>
   if n-1-p>0 then
    if (p==1)=true then pure (.done (some (nN a b (o.push y++(b.extract p (n-1)).reverse) m p),m,p,o.push y++(b.extract p (n-1)).reverse,g,c,n-1-p))
    else if (p==0)=true then pure (.done (some (fU a b (o.push y++(b.extract p (n-1)).reverse) m p),m,p,o.push y++(b.extract p (n-1)).reverse,g,c,n-1-p))
    else CU a b m p (o.push y++(b.extract p (n-1)).reverse) g c (n-1-p)
   else CU a b m (n-1) (o.push y) g c (n-1-p)
  | _=>pure (.done (some (fU a b (o.push y) m (n-1)),m,n-1,o.push y,g,c,d))
noncomputable def CP(a b:Array Keyed)(m n:Nat)(o:Array Keyed)(g c d:Nat):SM (ForInStep H2):=do
 nH g
 let y <- elem' b (n-1)
 let x <- gM false y a 0 m (m-1)
 match x with
 | some p =>
  if m-p>0 then
   if (p==0)=true then pure (.done (some (fU a b (o++(a.extract p m).reverse) p n),p,n,o++(a.extract p m).reverse,g,m-p,d))
   else CT a b p n (o++(a.extract p m).reverse) g (m-p) d
  else CT a b m n o g (m-p) d
 | _=>pure (.done (some (fU a b o m n),m,n,o,g,c,d))
noncomputable def HP(a b:Array Keyed)(t:H2):SM (ForInStep H2) :=
 if t.2.2.2.2.1>1 then CP a b t.2.1 t.2.2.1 t.2.2.2.1 (t.2.2.2.2.1-1) t.2.2.2.2.2.1 t.2.2.2.2.2.2
 else CP a b t.2.1 t.2.2.1 t.2.2.2.1 t.2.2.2.2.1 t.2.2.2.2.2.1 t.2.2.2.2.2.2
noncomputable def CQ(a b:Array Keyed)(c:H0):SM (ForInStep H0):=do
 let t <- forIn [0:a.size+b.size] ((none,c.2.1,c.2.2.1,c.2.2.2.1,0,0):H1) fun _ t=>HS a b c.2.2.2.2 t
 match t.1 with
 | some r=>pure (.done (some r,t.2.1,t.2.2.1,t.2.2.2.1,c.2.2.2.2))
 | none=>do
  liftM (rule "list.sort.gallop")
  let u <- forIn [0:a.size+b.size] ((none,t.2.1,t.2.2.1,t.2.2.2.1,c.2.2.2.2+1,t.2.2.2.2.1,t.2.2.2.2.2):H2) fun _ u=>HP a b u
  match u.1 with
  | some r=>pure (.done (some r,u.2.1,u.2.2.1,u.2.2.2.1,u.2.2.2.2.1))
  | none=>do
   nH (u.2.2.2.2.1+1)
   pure (.yield (none,u.2.1,u.2.2.1,u.2.2.2.1,u.2.2.2.2.1+1))
theorem Hl(a b:Array Keyed):CG a b=(do
  liftM (rule "list.sort.merge-hi")
  let y <- elem' a (a.size-1)
  if (a.size-1==0)=true then pure (fU a b #[y] (a.size-1) b.size)
  else if (b.size==1)=true then pure (nN a b #[y] (a.size-1) b.size)
  else do
   let st <- get
   let c <- forIn [0:a.size+b.size] ((none,a.size-1,b.size,#[y],gallopOf st):H0) fun _ c=>CQ a b c
   match c.1 with
   | some r=>pure r
   | none=>liftM (unsupported "internal:list.sort.merge-bound" : Sem (Array Keyed))):=by
 rw[EA]
 unfold CQ HP
 dsimp only
 congr 1;funext _;congr 1;funext y
 refine SN rfl (fun _=>rfl) fun _=>SN rfl (fun _=>rfl) fun _=>?_
 congr 1;funext st
 congr 1
 ·congr 1
  funext _ c
  congr 1
  funext t
  obtain⟨t1,t2⟩:=t
  cases t1 with
  | some r=>rfl
  | none =>
   dsimp only
   congr 1;funext _
   congr 1
   funext u
   obtain⟨u1,u2⟩:=u
   cases u1<;>rfl
 ·funext c
  obtain⟨c1,c2⟩:=c
  cases c1<;>rfl
noncomputable def oj(O:KeyOrd):KeyOrd:=⟨O.α,fun x y=>O.blt y x,O.irrefl,fun a b c h1 h2=>O.trans c b a h2 h1,fun a b c h=>(O.negTrans c b a h).symm,fun a b h1 h2=>(O.total b a h1 h2).symm⟩
section
variable{O:KeyOrd}{ky:Keyed->O.α}{M:Model}{A:Around}{E:Value->Shared->Prop}{s:Shared}{U:List Keyed}{kd:SortKind}
noncomputable abbrev vP(ky:Keyed->O.α):Keyed->(oj O).α:=ky
theorem nW{l:List Keyed}:dc (O:=oj O) (vP ky) l↔dc ky l.reverse:=by
 unfold dc
 rw[List.pairwise_reverse];rfl
theorem iq{l m:List Keyed}:cH (O:=oj O) (vP ky) l m↔cH ky m l:=⟨fun h x hx y hy=>h y hy x hx,fun h x hx y hy=>h y hy x hx⟩
noncomputable abbrev fk(ky:Keyed->O.α)(T:List Keyed)(a b o:Array Keyed)(m n:Nat):Prop:=ck (O:=oj O) (vP ky) T o.toList (a.toList.take m).reverse (b.toList.take n).reverse
variable{T:List Keyed}{a b o:Array Keyed}{m n:Nat}
theorem tP{l:List Keyed}(h:eg (O:=oj O) (vP ky) T l):eg ky T l.reverse:=⟨(SI l).trans h.1,nW.mp h.2⟩
theorem u8(a:Array Keyed)(m:Nat):(a.extract 0 m).toList=a.toList.take m:=by
 rw[Array.toList_extract];simp[List.extract_eq_take_drop]
theorem jt(h:fk ky T a b o m n)(e:m=0\/n=0):eg ky T (fU a b o m n).toList:=by
 have e1:(fU a b o m n).toList=(o.toList++(b.toList.take n).reverse++(a.toList.take m).reverse).reverse:=by
  simp only[Ru,u8,Sq,List.reverse_append,List.reverse_reverse,Q5]
 rw[e1]
 refine tP ?_
 rcases e with rfl|rfl
 ·rw[List.take_zero,List.reverse_nil,Ra]
  exact ck.endB (show ck (O:=oj O) (vP ky) T o.toList [] _ from h)
 ·rw[List.take_zero,List.reverse_nil,Ra]
  exact ck.endA (show ck (O:=oj O) (vP ky) T o.toList _ []from h)
theorem ni(h:fk ky T a b o m n)(e:n=1)(hb:1<=b.size)(hz:cH ky [b[0]] a.toList):eg ky T (nN a b o m n).toList:=by
 have e1:(nN a b o m n).toList=(o.toList++(a.toList.take m).reverse++(b.toList.take n).reverse).reverse:=by
  simp only[Ru,u8,Sq,List.reverse_append,List.reverse_reverse,Q5]
 rw[e1]
 refine tP ?_
 subst e
 refine ck.endB (ck.goA (A:=[]) (by rw[Ra];exact h) (iq.mpr fun x hx y hy=>?_))
 have:b.toList.take 1=[b[0]]:=by
  rw[List.take_one,List.head?_eq_getElem?];simp[hb]
 rw[this]at hx
 exact hz x (by simpa using hx) y (R6 (Q9.mp hy))
theorem vd(h1:1<=m)(h2:m<=a.size):(a.toList.take m).reverse=a[m-1]::(a.toList.take (m-1)).reverse:=by
 obtain⟨k,rfl⟩:∃k,m=k+1:=⟨m-1,by omega⟩
 rw[SL,QS (by rw[QF];omega)]
 simp
theorem rP{p:Nat}(hp:p<=m):(a.toList.take m).reverse=(a.extract p m).reverse.toList++(a.toList.take p).reverse:=by
 rw[Sq,<- List.reverse_append]
 congr 1
 obtain⟨k,rfl⟩:∃k,m=p+k:=⟨m-p,by omega⟩
 rw[gU,List.take_add]
theorem sC(h:fk ky T a b o m n)(h1:1<=m)(h2:m<=a.size)(hx:cH ky (b.toList.take n) [a[m-1]]):fk ky T a b (o.push a[m-1]) (m-1) n:=by
 unfold fk
 rw[SH]
 unfold fk at h
 rw[vd h1 h2]at h
 exact ck.goA (X:=[a[m-1]]) h (iq.mpr fun x hx' y hy=>hx x (Q9.mp hx') y hy)
theorem x9(h:fk ky T a b o m n)(h1:1<=n)(h2:n<=b.size)(hx:cH ky (a.toList.take m) [b[n-1]]):fk ky T a b (o.push b[n-1]) m (n-1):=by
 unfold fk
 rw[SH]
 unfold fk at h
 rw[vd h1 h2]at h
 exact ck.goB (X:=[b[n-1]]) h (iq.mpr fun x hx' y hy=>hx x (Q9.mp hx') y hy)
theorem Lf{p:Nat}(h:fk ky T a b o m n)(hp:p<=m)(hx:cH ky (b.toList.take n) (a.extract p m).toList):fk ky T a b (o++(a.extract p m).reverse) p n:=by
 unfold fk
 rw[Ru]
 unfold fk at h
 rw[rP hp]at h
 exact ck.goA h (iq.mpr fun x hx' y hy=>hx x (Q9.mp hx') y (by rw[Sq]at hy;exact Q9.mp hy))
theorem Le{p:Nat}(h:fk ky T a b o m n)(hp:p<=n)(hx:cH ky (a.toList.take m) (b.extract p n).toList):fk ky T a b (o++(b.extract p n).reverse) m p:=by
 unfold fk
 rw[Ru]
 unfold fk at h
 rw[rP hp]at h
 exact ck.goB h (iq.mpr fun x hx' y hy=>hx x (Q9.mp hx') y (by rw[Sq]at hy;exact Q9.mp hy))
theorem AI(h:dc ky a.toList):dc ky (a.toList.take m):=List.Pairwise.sublist (List.take_sublist _ _) h
theorem mQ{x y:Keyed}(hs:dc ky a.toList)(h1:1<=m)(h2:m<=a.size)(hx:x∈a.toList.take m)(hy:O.kle (ky a[m-1]) (ky y)):O.kle (ky x) (ky y):=by
 refine Ri ?_ hy
 obtain⟨i,hi,rfl⟩:=List.mem_iff_getElem.mp hx
 rw[Q1,QF]at hi
 rw[List.getElem_take]
 rcases Nat.lt_or_ge i (m-1)with z|z
 ·have:=List.pairwise_iff_getElem.mp hs i (m-1) (by rw[QF];omega) (by rw[QF];omega) z
  simpa using this
 ·have:i=m-1:=by omega
  subst this
  rw[R7];exact RM _
theorem CV(hL:Lts ky M A E s kd U){lf:Bool}{ke:Keyed}{st:SortSt}{Q:Option Nat->SortSt->Prop}(hk:kindOf st=kd)(hU:∀x∈a.toList,x∈U)(hke:ke∈U)(hs:dc ky a.toList)(h1:1<=m)(h2:m<=a.size)
  (h:∀p,p<=m->cH ky (a.toList.take p) [ke]->cH ky [ke] (a.extract p m).toList->Q (some p) st):wpS M A E s (gM lf ke a 0 m (m-1)) Q st:=by
 refine jq hL hk hU hke (by rw[List.drop_zero];exact AI hs) (by omega) (by omega) fun k hk2 g1 g2=>?_
 rw[List.drop_zero]at g1 g2
 refine h k hk2 (fun x hx y hy=>?_) fun x hx y hy=>?_
 ·rw[QM]at hy;subst hy
  have:=g1 x (by rw[List.take_take,SC hk2];exact hx)
  cases lf with
  | true=>exact wz this
  | false=>exact oN this
 ·rw[QM]at hx;subst hx
  have e:(a.extract k m).toList=(a.toList.take m).drop k:=by
   obtain⟨q,rfl⟩:∃q,m=k+q:=⟨m-k,by omega⟩
   rw[gU,List.drop_take]
   congr 1;omega
  rw[e]at hy
  have:=g2 y hy
  cases lf with
  | true=>exact kK this
  | false=>exact oM this
structure iQ(ky:Keyed->O.α)(T:List Keyed)(a b o:Array Keyed)(m n:Nat):Prop where
 r:fk ky T a b o m n
 m1:1<=m
 m2:m<=a.size
 n1:2<=n
 n2:n<=b.size
structure iY(ky:Keyed->O.α)(M:Model)(A:Around)(E:Value->Shared->Prop)(s:Shared)(kd:SortKind)(U:List Keyed)(a b:Array Keyed)(st:SortSt):Prop where
 lt:Lts ky M A E s kd U
 ua:∀x∈a.toList,x∈U
 ub:∀x∈b.toList,x∈U
 nb:1<=b.size
 hz:cH ky [b[0]] a.toList
 sa:dc ky a.toList
 sb:dc ky b.toList
 kd:kindOf st=kd
theorem iY.set{st:SortSt}(W:iY ky M A E s kd U a b st)(g:Nat):iY ky M A E s kd U a b (cM st g):=⟨W.lt,W.ua,W.ub,W.nb,W.hz,W.sa,W.sb,W.kd⟩
noncomputable abbrev qA(ky:Keyed->O.α)(T:List Keyed)(a b:Array Keyed)(n0:Nat)(r:Option (Array Keyed))(o:Array Keyed)(m n:Nat):Prop :=
 match r with
 | some r=>eg ky T r.toList
 | none=>iQ ky T a b o m n/\m+n<n0
theorem y9{st:SortSt}(W:iY ky M A E s kd U a b st){g c d n0:Nat}{Q:ForInStep H2->SortSt->Prop}(h:iQ ky T a b o m n)(hn:m+n<n0)(hx:cH ky (b.toList.take n) [a[m-1]'(by have:=h.m1;have:=h.m2;omega)])
  (q1:∀r o m n,qA ky T a b n0 r o m n->Q (.done (r,m,n,o,g,c,d)) st) (q2:∀o m n,iQ ky T a b o m n->m+n<n0->Q (.yield (none,m,n,o,g,c,d)) st):wpS M A E s (CU a b m n o g c d) Q st:=by
 obtain⟨r,m1,m2,n1,n2⟩:=h
 unfold CU
 refine QB (bg (by omega) ?_)
 have r2:=sC r m1 m2 hx
 by_cases e:m-1=0
 ·rw[if_pos (by simpa using e)]
  exact QG (q1 _ _ _ _ (jt r2 (.inl e)))
 ·rw[if_neg (by simpa using e)]
  split
  ·exact QG (q1 _ _ _ _ ⟨⟨r2,by omega,by omega,n1,n2⟩,by omega⟩)
  ·exact QG (q2 _ _ _ ⟨r2,by omega,by omega,n1,n2⟩ (by omega))
theorem y6{st:SortSt}(W:iY ky M A E s kd U a b st){g c d n0:Nat}{Q:ForInStep H2->SortSt->Prop}(h:iQ ky T a b o m n)(hn:m+n<=n0)(hx:cH ky (a.toList.take m) [b[n-1]'(by have:=h.n1;have:=h.n2;omega)])
  (q1:∀r o m n c d,qA ky T a b n0 r o m n->Q (.done (r,m,n,o,g,c,d)) st) (q2:∀o m n c d,iQ ky T a b o m n->m+n<n0->Q (.yield (none,m,n,o,g,c,d)) st):wpS M A E s (CT a b m n o g c d) Q st:=by
 obtain⟨r,m1,m2,n1,n2⟩:=h
 unfold CT
 refine QB (bg (by omega) ?_)
 have r2:=x9 r (by omega) n2 hx
 by_cases e:n-1=1
 ·rw[if_pos (by simpa using e)]
  exact QG (q1 _ _ _ _ _ _ (ni r2 e W.nb W.hz))
 ·rw[if_neg (by simpa using e)]
  refine QB (bg (by omega) ?_)
  refine QB (CV W.lt W.kd W.ub (W.ua _ (gA (by omega))) W.sb (by omega) (by omega) fun p hp h1 h2=>?_)
  dsimp only
  by_cases k0:n-1-p>0
  ·rw[if_pos k0]
   have r3:=Le r2 hp fun x hx y hy=>mQ W.sa m1 m2 hx (h2 _ (QM.mpr rfl) y hy)
   by_cases e2:p=1
   ·rw[if_pos (by simpa using e2)]
    exact QG (q1 _ _ _ _ _ _ (ni r3 e2 W.nb W.hz))
   ·rw[if_neg (by simpa using e2)]
    by_cases e3:p=0
    ·rw[if_pos (by simpa using e3)]
     exact QG (q1 _ _ _ _ _ _ (jt r3 (.inr e3)))
    ·rw[if_neg (by simpa using e3)]
     exact y9 W ⟨r3,m1,m2,by omega,by omega⟩ (by omega) h1 (fun _ _ _ _ z=>q1 _ _ _ _ _ _ z) fun _ _ _ z z2=>q2 _ _ _ _ _ z z2
  ·rw[if_neg k0]
   have:p=n-1:=by omega
   subst this
   exact y9 W ⟨r2,m1,m2,by omega,by omega⟩ (by omega) h1 (fun _ _ _ _ z=>q1 _ _ _ _ _ _ z) fun _ _ _ z z2=>q2 _ _ _ _ _ z z2
theorem y0{st:SortSt}(W:iY ky M A E s kd U a b st){g c d n0:Nat}{Q:ForInStep H2->SortSt->Prop}(h:iQ ky T a b o m n)(hn:m+n<=n0)
  (q1:∀r o m n c d,qA ky T a b n0 r o m n->Q (.done (r,m,n,o,g,c,d)) (cM st g)) (q2:∀o m n c d,iQ ky T a b o m n->m+n<n0->Q (.yield (none,m,n,o,g,c,d)) (cM st g)):wpS M A E s (CP a b m n o g c d) Q st:=by
 obtain⟨r,m1,m2,n1,n2⟩:=h
 unfold CP
 refine QB (mf ?_)
 have W:=W.set g
 refine QB (bg (by omega) ?_)
 refine QB (CV W.lt W.kd W.ua (W.ub _ (gA (by omega))) W.sa m1 m2 fun p hp h1 h2=>?_)
 dsimp only
 by_cases k0:m-p>0
 ·rw[if_pos k0]
  have r2:=Lf r hp fun x hx y hy=>mQ W.sb (by omega) n2 hx (h2 _ (QM.mpr rfl) y hy)
  by_cases e:p=0
  ·rw[if_pos (by simpa using e)]
   exact QG (q1 _ _ _ _ _ _ (jt r2 (.inl e)))
  ·rw[if_neg (by simpa using e)]
   exact y6 W ⟨r2,by omega,by omega,n1,n2⟩ (by omega) h1 q1 q2
 ·rw[if_neg k0]
  have:p=m:=by omega
  subst this
  exact y6 W ⟨r,m1,m2,n1,n2⟩ hn h1 q1 q2
theorem HR{st:SortSt}(W:iY ky M A E s kd U a b st){g c d n0:Nat}{Q:ForInStep H1->SortSt->Prop}(h:iQ ky T a b o m n)(hn:m+n<=n0)
  (q1:∀r o m n c d,qA ky T a b n0 r o m n->Q (.done (r,m,n,o,c,d)) st) (q2:∀o m n c d,iQ ky T a b o m n->m+n<n0->Q (.yield (none,m,n,o,c,d)) st):wpS M A E s (HS a b g (none,m,n,o,c,d)) Q st:=by
 obtain⟨r,m1,m2,n1,n2⟩:=h
 unfold HS
 dsimp only
 refine QB (bg (by omega) (QB (bg (by omega) ?_)))
 refine QB (W.lt _ (W.ub _ (gA (by omega))) _ (W.ua _ (gA (by omega))) st _ W.kd ?_)
 cases e:O.blt (ky b[n-1]) (ky a[m-1])with
 | true =>
  dsimp only
  rw[if_pos rfl]
  refine QB (bg (by omega) ?_)
  have r2:=sC r m1 m2 fun x hx y hy=>by
   rw[QM]at hy;subst hy
   exact mQ W.sb (by omega) n2 hx (RJ e)
  by_cases e2:m-1=0
  ·rw[if_pos (by simpa using e2)]
   exact QG (q1 _ _ _ _ _ _ (jt r2 (.inl e2)))
  ·rw[if_neg (by simpa using e2)]
   split
   ·exact QG (q1 _ _ _ _ _ _ ⟨⟨r2,by omega,by omega,n1,n2⟩,by omega⟩)
   ·exact QG (q2 _ _ _ _ _ ⟨r2,by omega,by omega,n1,n2⟩ (by omega))
 | false =>
  dsimp only
  rw[if_neg (by simp)]
  refine QB (bg (by omega) ?_)
  have r2:=x9 r (by omega) n2 fun x hx y hy=>by
   rw[QM]at hy;subst hy
   exact mQ W.sa m1 m2 hx e
  by_cases e2:n-1=1
  ·rw[if_pos (by simpa using e2)]
   exact QG (q1 _ _ _ _ _ _ (ni r2 e2 W.nb W.hz))
  ·rw[if_neg (by simpa using e2)]
   split
   ·exact QG (q1 _ _ _ _ _ _ ⟨⟨r2,m1,m2,by omega,by omega⟩,by omega⟩)
   ·exact QG (q2 _ _ _ _ _ ⟨r2,m1,m2,by omega,by omega⟩ (by omega))
theorem HQ{st:SortSt}(W:iY ky M A E s kd U a b st){g:Nat}{Q:ForInStep H0->SortSt->Prop}(h:iQ ky T a b o m n)
  (q1:∀r o' i' j' g' g2,eg ky T r.toList->Q (.done (some r,i',j',o',g')) (cM st g2)) (q2:∀o' i' j' g',iQ ky T a b o' i' j'->i'+j' < m+n->Q (.yield (none,i',j',o',g')) (cM st g')):wpS M A E s (CQ a b (none,m,n,o,g)) Q st:=by
 unfold CQ
 dsimp only
 have tot:0<a.size+b.size:=by have:=h.m1;have:=h.m2;omega
 refine QB (R5 (Rm (I:=fun x c st'=>st'=st/\∃o' i' j' p q,c=((none,i',j',o',p,q):H1)/\iQ ky T a b o' i' j'/\i'+j'+x<=m+n)
  (Q:=fun c st'=>st'=st/\qA ky T a b (m+n) c.1 c.2.2.2.1 c.2.1 c.2.2.1) ?_ ?_ ⟨rfl,o,m,n,0,0,rfl,h,by omega⟩) ?_)
 ·rintro x c st' _ hx ⟨rfl,o',i',j',p,q,rfl,h',hn⟩
  exact HR W (n0:=m+n-x) h' (by omega) (fun r o i j c d z=>⟨rfl,by
   cases r with
   | some r=>exact z
   | none=>exact⟨z.1,QK z.2 (Nat.sub_le _ _)⟩⟩) fun o i j c d z z2=>⟨rfl,_,_,_,_,_,rfl,z,by omega⟩
 ·rintro c st' ⟨rfl,o',i',j',p,q,rfl,h',hn⟩
  exact⟨rfl,h',show i'+j' < m+n by omega⟩
 ·rintro⟨r,i',j',o',p,q⟩ st' ⟨rfl,h'⟩
  cases r with
  | some r=>exact QG (q1 r _ _ _ _ (gallopOf st') h')
  | none =>
   dsimp only
   refine QB (wpS_lift (Sm ⟨rfl,?_⟩))
   refine QB (R5 (Rm (I:=fun x c st2=>(∃g2,st2=cM st' g2)/\∃o' i' j' g' p q,c=((none,i',j',o',g',p,q):H2)/\iQ ky T a b o' i' j'/\i'+j' < m+n)
    (Q:=fun c st2=>(∃g2,st2=cM st' g2)/\qA ky T a b (m+n) c.1 c.2.2.2.1 c.2.1 c.2.2.1) ?_ ?_ ⟨⟨gallopOf st',rfl⟩,o',i',j',_,p,q,rfl,h'.1,h'.2⟩) ?_)
   ·rintro x c st2 _ hx ⟨⟨g2,rfl⟩,o',i',j',g',p,q,rfl,h',hn⟩
    unfold HP
    dsimp only
    split
    ·exact y0 (W.set g2) h' (RZ hn) (fun r o i j c d z=>⟨⟨_,rfl⟩,z⟩) fun o i j c d z z2=>⟨⟨_,rfl⟩,_,_,_,_,_,_,rfl,z,z2⟩
    ·exact y0 (W.set g2) h' (RZ hn) (fun r o i j c d z=>⟨⟨_,rfl⟩,z⟩) fun o i j c d z z2=>⟨⟨_,rfl⟩,_,_,_,_,_,_,rfl,z,z2⟩
   ·rintro c st2 ⟨hg,o',i',j',g',p,q,rfl,h',hn⟩
    exact⟨hg,h',hn⟩
   ·rintro⟨r,i',j',o',g',p,q⟩ st2 ⟨⟨g2,rfl⟩,h'⟩
    cases r with
    | some r=>exact QG (q1 r _ _ _ _ g2 h')
    | none=>exact QB (mf (QG (q2 _ _ _ _ h'.1 h'.2)))
theorem Hk{st:SortSt}(W:iY ky M A E s kd U a b st){Q:Array Keyed->SortSt->Prop}(na:1<=a.size)(h1:cH ky b.toList [a[a.size-1]])
  (h:∀r g,eg ky (a.toList++b.toList) r.toList->Q r (cM st g)):wpS M A E s (CG a b) Q st:=by
 rw[Hl]
 refine QB (wpS_lift (Sm ⟨rfl,?_⟩))
 refine QB (bg (by omega) ?_)
 have nb:=W.nb
 have ea:a.toList.take a.size=a.toList:=RU (by rw[QF];exact QA _)
 have eb:b.toList.take b.size=b.toList:=RU (by rw[QF];exact QA _)
 have r0:fk ky (a.toList++b.toList) a b #[] a.size b.size:=by
  unfold fk
  rw[ea,eb]
  exact⟨by simpa using (SI a.toList).append (SI b.toList),List.Pairwise.nil,nW.mpr (by rw[List.reverse_reverse];exact W.sa),nW.mpr (by rw[List.reverse_reverse];exact W.sb),fun x hx=>(by cases hx),fun x hx=>(by cases hx)⟩
 have r1:=sC r0 na (QA _) (by rw[eb];exact h1)
 rw[show(#[]:Array Keyed).push a[a.size-1] = #[a[a.size-1]]from rfl]at r1
 by_cases e:a.size-1=0
 ·rw[if_pos (by simpa using e)]
  exact QG (h _ (gallopOf st) (jt r1 (.inl e)))
 ·rw[if_neg (by simpa using e)]
  by_cases e2:b.size=1
  ·rw[if_pos (by simpa using e2)]
   exact QG (h _ (gallopOf st) (ni r1 e2 W.nb W.hz))
  ·rw[if_neg (by simpa using e2)]
   refine QB (wpS_get ?_)
   refine QB (R5 (Rm (I:=fun x c st'=>(∃g2,st'=cM st g2)/\∃o' i' j' g',c=((none,i',j',o',g'):H0)/\iQ ky (a.toList++b.toList) a b o' i' j'/\i'+j'+x<a.size+b.size)
    (Q:=fun c st'=>(∃g2,st'=cM st g2)/\∃r,c.1=some r/\eg ky (a.toList++b.toList) r.toList) ?_ ?_ ⟨⟨gallopOf st,rfl⟩,_,_,_,_,rfl,⟨r1,by omega,by omega,by omega,QA _⟩,by omega⟩) ?_)
   ·rintro x c st' _ hx ⟨⟨g2,rfl⟩,o',i',j',g',rfl,h',hn⟩
    exact HQ (W.set g2) h' (fun r _ _ _ _ _ z=>⟨⟨_,rfl⟩,r,rfl,z⟩) fun _ _ _ _ z z2=>⟨⟨_,rfl⟩,_,_,_,_,rfl,z,by omega⟩
   ·rintro c st' ⟨hg,o',i',j',g',rfl,h',hn⟩
    omega
   ·rintro⟨r,c2⟩ st' ⟨⟨g2,rfl⟩,r',e3,hr⟩
    cases (show r=some r' from e3)
    exact QG (h r' g2 hr)
end
end TS
namespace TS
open PySem PyProof.Rows
noncomputable abbrev C1:=Option (Option Nat)×Nat
noncomputable abbrev C2:=Option (Option Nat)×Nat×Nat
noncomputable def nG(lo a w:Nat):SM C1 :=
 forIn [a:w] ((none,a):C1) fun _ c=>do
  let x <- ltAt' (lo+c.2) (lo+c.2-1)
  match x with
  | some sm=>if sm=true then pure (.done (none,c.2))else pure (.yield (none,c.2+1))
  | _=>pure (.done (some none,c.2))
noncomputable def u9(lo n w:Nat):SM (Option Nat):=do
 reverseSlice' lo (lo+n)
 let c <- nG lo n w
 match c.1 with
 | some r=>pure r
 | none=>pure (some c.2)
noncomputable def w5(lo n w:Nat):SM C2 :=
 forIn [n:w] ((none,n,0):C2) fun _ c=>do
  let x <- ltAt' (lo+c.2.1) (lo+c.2.1-1)
  match x with
  | some sm =>
   if sm=true then
    if c.2.2>0 then do
     reverseSlice' (lo+c.2.1-(c.2.2+1)) (lo+c.2.1)
     pure (.yield (none,c.2.1+1,0))
    else pure (.yield (none,c.2.1+1,0))
   else do
    let y <- ltAt' (lo+c.2.1-1) (lo+c.2.1)
    match y with
    | some lg=>if lg=true then pure (.done (none,c.2.1,c.2.2))else pure (.yield (none,c.2.1+1,c.2.2+1))
    | _=>pure (.done (some none,c.2.1,c.2.2))
  | _=>pure (.done (some none,c.2.1,c.2.2))
noncomputable def zq(lo n w:Nat):SM (Option Nat):=do
 liftM (rule "list.sort.descending-run")
 let c <- w5 lo (n+1) w
 match c.1 with
 | some r=>pure r
 | none =>
  if c.2.2>0 then do
   reverseSlice' (lo+c.2.1-(c.2.2+1)) (lo+c.2.1)
   u9 lo c.2.1 w
  else u9 lo c.2.1 w
theorem JP{lo n w:Nat}{f:C1->SM (Option Nat)}(h:∀n,f (none,n)=pure (some n))(g:∀r n,f (some r,n)=pure r):(do
  reverseSlice' lo (lo+n)
  let c <- nG lo n w
  f c)=u9 lo n w:=by
 unfold u9
 congr 1;funext _;congr 1;funext c
 obtain⟨c1,c2⟩:=c
 cases c1 with
 | some r=>exact g r c2
 | none=>exact h c2
theorem La(lo w:Nat):countRun' lo w=(do
    let c <- nG lo 1 w
    match c.1 with
    | some r=>pure r
    | none =>
      if (c.2==w)=true then pure (some c.2)
      else if c.2>1 then do
        let x <- ltAt' lo (lo+c.2-1)
        match x with
        | some ro=>if ro=true then pure (some c.2)else do
            reverseSlice' lo (lo+c.2)
            zq lo c.2 w
        | _=>pure none
      else zq lo c.2 w):=by
  rw[countRun'_eq]
  unfold zq w5 nG
  dsimp only
  congr 1
  funext c
  obtain⟨c1,c2⟩:=c
  cases c1 with
  | some r=>rfl
  | none =>
    have dp:∀k:Nat,_:=fun(k:Nat)=>JP (lo:=lo) (n:=k) (w:=w) (f:=fun c=>match c.1 with|some r=>pure r|none=>pure (some c.2)) (fun _=>rfl) fun _ _=>rfl
    dsimp only
    refine SN rfl (fun _=>rfl) fun _=>SN rfl (fun _=>?_) fun _=>?_
    . congr 1
      funext x
      cases x with
      | none=>rfl
      | some ro =>
        dsimp only
        refine SN rfl (fun _=>rfl) fun _=>?_
        congr 1;funext _;congr 1;funext _;congr 1;funext d
        obtain⟨d1,d2,d3⟩:=d
        cases d1 with
        | some r=>rfl
        | none =>
          dsimp only
          refine SN rfl (fun _=>?_) fun _=>?_
          . congr 1;funext _
            rw[<- dp];unfold nG
            congr 1;funext _;congr 1;funext e
            obtain⟨e1,e2⟩:=e
            cases e1<;>rfl
          . rw[<- dp];unfold nG
            congr 1;funext _;congr 1;funext e
            obtain⟨e1,e2⟩:=e
            cases e1<;>rfl
    . congr 1;funext _;congr 1;funext d
      obtain⟨d1,d2,d3⟩:=d
      cases d1 with
      | some r=>rfl
      | none =>
        dsimp only
        refine SN rfl (fun _=>?_) fun _=>?_
        . congr 1;funext _
          rw[<- dp];unfold nG
          congr 1;funext _;congr 1;funext e
          obtain⟨e1,e2⟩:=e
          cases e1<;>rfl
        . rw[<- dp];unfold nG
          congr 1;funext _;congr 1;funext e
          obtain⟨e1,e2⟩:=e
          cases e1<;>rfl
end TS
namespace TS
open PySem PyProof.Rows
section
variable{O:KeyOrd}{ky:Keyed->O.α}{prog:Program}{w:World}{A:Around}{E:Value->Shared->Prop}{s:Shared}{kd:SortKind}{a₀:Array Keyed}{p:Array (Nat×Nat×Nat)}
noncomputable def kA(ky:Keyed->O.α)(xs:Array Keyed)(i:Nat):O.α:=ky (xs[i]?.getD (.none,.none))
theorem jM{xs ys:Array Keyed}{i j:Nat}(h:xs[i]?=ys[j]?):kA ky xs i=kA ky ys j:=by unfold kA;rw[h]
theorem kA_at{xs:Array Keyed}{i:Nat}(h:i<xs.size):kA ky xs i=ky xs[i]:=by unfold kA;rw[getElem?_pos xs i h];rfl
noncomputable def Seg(ky:Keyed->O.α)(xs:Array Keyed)(lo hi:Nat):Prop:=∀i j,lo<=i->i<=j->j<hi->O.kle (kA ky xs i) (kA ky xs j)
noncomputable def oB(ky:Keyed->O.α)(xs:Array Keyed)(lo hi:Nat):Prop:=∀i j,lo<=i->i<=j->j<hi->O.kle (kA ky xs j) (kA ky xs i)
noncomputable def iP(lo:Nat)(xs ys:Array Keyed):Prop:=∀i,i<lo->xs[i]?=ys[i]?
structure SB(a₀:Array Keyed)(kd:SortKind)(p:Array (Nat×Nat×Nat))(st:SortSt):Prop where
 perm:(arrOf st).Perm a₀
 kind:kindOf st=kd
 failed:failedOf st=none
 pend:pendingOf st=p
theorem SB.size{st:SortSt}(h:SB a₀ kd p st):(arrOf st).size=a₀.size:=h.perm.size_eq
theorem SB.set{st:SortSt}(h:SB a₀ kd p st){xs:Array Keyed}(hp:xs.Perm (arrOf st)):SB a₀ kd p (setArr st xs):=⟨hp.trans h.perm,h.kind,h.failed,h.pend⟩
theorem SB.mem{st:SortSt}(h:SB a₀ kd p st){i:Nat}(hi:i<(arrOf st).size):(arrOf st)[i]∈a₀.toList:=(Array.perm_iff_toList_perm.mp h.perm).mem_iff.mp (RD hi)
noncomputable abbrev lW(ky:Keyed->O.α)(prog:Program)(w:World)(A:Around)(E:Value->Shared->Prop)(s:Shared)(kd:SortKind)(a₀:Array Keyed):Prop:=Lts ky (model prog w) A E s kd a₀.toList
theorem oR(hL:lW ky prog w A E s kd a₀){st:SortSt}(hB:SB a₀ kd p st){i j:Nat}{Q:Option Bool->SortSt->Prop}(hi:i<a₀.size)(hj:j<a₀.size)(h:Q (some (O.blt (kA ky (arrOf st) i) (kA ky (arrOf st) j))) st):wpS (model prog w) A E s (ltAt' i j) Q st:=by
 have z:=hB.size
 rw[ltAt'_eq]
 refine QB (wpS_get (QB (bg (by omega) (QB (bg (by omega) ?_)))))
 rw[kA_at (by omega),kA_at (by omega)]at h
 exact hL _ (hB.mem (by omega)) _ (hB.mem (by omega)) st Q hB.kind h
theorem yS{xs:Array Keyed}{src d:Nat}(hs:src<xs.size)(hd:d<=src)(k:Nat):kA ky (bubble xs src d) k=if k=src-d then kA ky xs src else if src-d<k/\k<=src then kA ky xs (k-1)else kA ky xs k:=by
 have e:=getElem?_bubble hs d hd k
 by_cases h1:k=src-d
 ·rw[if_pos h1]at e⊢;exact jM e
 ·rw[if_neg h1]at e⊢
  by_cases h2:src-d<k/\k<=src
  ·rw[if_pos h2]at e⊢;exact jM e
  ·rw[if_neg h2]at e⊢;exact jM e
theorem tm{xs:Array Keyed}{i j:Nat}(hj:j<=xs.size)(k:Nat):kA ky (mirror xs i j ((j-i) / 2)) k=if i<=k/\k<j then kA ky xs (i+j-1-k)else kA ky xs k:=by
 have e:=getElem?_mirror_all (i:=i) hj k
 by_cases h1:i<=k/\k<j
 ·rw[if_pos h1]at e⊢;exact jM e
 ·rw[if_neg h1]at e⊢;exact jM e
theorem dN{xs:Array Keyed}{i j:Nat}(hj:j<=xs.size)(he:∀k,i<=k->k<j->kA ky xs k=kA ky xs (j-1))(k:Nat):kA ky (mirror xs i j ((j-i) / 2)) k=kA ky xs k:=by
 rw[tm hj]
 split
 ·rw[he _ (by omega) (by omega),he k (by omega) (by omega)]
 ·rfl
theorem mF{xs:Array Keyed}{lo i j:Nat}(hj:j<=xs.size)(hi:lo<=i):iP lo xs (mirror xs i j ((j-i) / 2)):=fun k hk=>by
 rw[getElem?_mirror_all hj,if_neg (by omega)]
theorem D3{xs:Array Keyed}{lo src d:Nat}(hs:src<xs.size)(hd:lo+d<=src):iP lo xs (bubble xs src d):=fun k hk=>by
 rw[getElem?_bubble hs d (by omega),if_neg (by omega),if_neg (by omega)]
theorem iP.trans{lo:Nat}{xs ys zs:Array Keyed}(h1:iP lo xs ys)(h2:iP lo ys zs):iP lo xs zs:=fun i hi=>(h1 i hi).trans (h2 i hi)
theorem AN{xs:Array Keyed}{lo x:Nat}(h:Seg ky xs lo x)(hx:lo<x)(hl:O.kle (kA ky xs (x-1)) (kA ky xs x)):Seg ky xs lo (x+1):=fun i j hi hij hj=>by
 by_cases hjx:j<x
 ·exact h i j hi hij hjx
 ·have:j=x:=by omega
  subst this
  by_cases e:i=j
  ·subst e;exact RM _
  ·exact Ri (h i (j-1) hi (by omega) (by omega)) hl
theorem iI{xs:Array Keyed}{lo x:Nat}(h:oB ky xs lo x)(hx:lo<x)(hl:O.kle (kA ky xs x) (kA ky xs (x-1))):oB ky xs lo (x+1):=fun i j hi hij hj=>by
 by_cases hjx:j<x
 ·exact h i j hi hij hjx
 ·have:j=x:=by omega
  subst this
  by_cases e:i=j
  ·subst e;exact RM _
  ·exact Ri hl (h i (j-1) hi (by omega) (by omega))
theorem DE{xs:Array Keyed}{lo:Nat}:Seg ky xs lo (lo+1):=fun i j hi hij hj=>by
 have:i=j:=by omega
 subst this;exact RM _
theorem B6(hL:lW ky prog w A E s kd a₀){st:SortSt}{lo a n:Nat}{Q:C1->SortSt->Prop}(hn:lo+n<=a₀.size)(ha:1<=a)(han:a<=n)(hB:SB a₀ kd p st)(hs:Seg ky (arrOf st) lo (lo+a))
  (h:∀m,a<=m->m<=n->Seg ky (arrOf st) lo (lo+m)->(m=n\/O.klt (kA ky (arrOf st) (lo+m)) (kA ky (arrOf st) (lo+m-1)))->Q (none,m) st):wpS (model prog w) A E s (nG lo a n) Q st:=by
 unfold nG
 refine Rm (I:=fun x c st'=>st'=st/\c=(none,x)/\Seg ky (arrOf st) lo (lo+x)) ?_ ?_ ⟨rfl,rfl,hs⟩
 ·rintro x c st' hx hxn ⟨rfl,rfl,hs'⟩
  dsimp only
  refine QB (oR hL hB (by omega) (by omega) ?_)
  cases e:O.blt (kA ky (arrOf st') (lo+x)) (kA ky (arrOf st') (lo+x-1))with
  | true =>
   dsimp only
   rw[if_pos rfl]
   exact QG (h x hx (by omega) hs' (.inr e))
  | false =>
   dsimp only
   rw[if_neg (by simp)]
   exact QG ⟨rfl,rfl,AN (x:=lo+x) hs' (by omega) e⟩
 ·rintro c st' ⟨rfl,rfl,hs'⟩
  rw[show max a n=n by omega]at hs' ⊢
  exact h n han (QA _) hs' (.inl rfl)
theorem Cb(hL:lW ky prog w A E s kd a₀){st:SortSt}{lo m n:Nat}{Q:Option Nat->SortSt->Prop}(hn:lo+n<=a₀.size)(h1:1<=m)(hm:m<=n)(hB:SB a₀ kd p st)(hs:oB ky (arrOf st) lo (lo+m))
  (h:∀k st',SB a₀ kd p st'->iP lo (arrOf st) (arrOf st')->1<=k->k<=n->Seg ky (arrOf st') lo (lo+k)->Q (some k) st'):wpS (model prog w) A E s (u9 lo m n) Q st:=by
 unfold u9
 have hz:lo+m<=(arrOf st).size:=by rw[hB.size];omega
 refine QB (wpS_reverse ?_)
 have hB':=hB.set (mirror_perm (arrOf st) lo (lo+m) ((lo+m-lo) / 2))
 refine QB (B6 hL hn h1 hm hB' (fun i j hi hij hj=>?_) fun k hk1 hk2 hsk _=>QG (h k _ hB' (mF hz (QA _)) (by omega) hk2 hsk))
 show O.kle (kA ky (mirror (arrOf st) lo (lo+m) ((lo+m-lo) / 2)) i) (kA ky (mirror (arrOf st) lo (lo+m) ((lo+m-lo) / 2)) j)
 rw[tm hz,tm hz,if_pos (by omega),if_pos (by omega)]
 exact hs _ _ (by omega) (by omega) (by omega)
theorem K3(hL:lW ky prog w A E s kd a₀){st:SortSt}{lo m n:Nat}{Q:C2->SortSt->Prop}(hn:lo+n<=a₀.size)(h1:1<=m)(hm:m<=n)(hB:SB a₀ kd p st)(hs:oB ky (arrOf st) lo (lo+m))
  (h:∀k e st',SB a₀ kd p st'->iP lo (arrOf st) (arrOf st')->m<=k->k<=n->oB ky (arrOf st') lo (lo+k)->e+1<=k->(∀i,lo+k-(e+1)<=i->i<lo+k->kA ky (arrOf st') i=kA ky (arrOf st') (lo+k-1))->Q (none,k,e) st'):wpS (model prog w) A E s (w5 lo m n) Q st:=by
 unfold w5
 refine Rm (I:=fun x c st' => ∃e,c=(none,x,e)/\SB a₀ kd p st'/\iP lo (arrOf st) (arrOf st')/\oB ky (arrOf st') lo (lo+x)/\e+1<=x/\(∀i,lo+x-(e+1)<=i->i<lo+x->kA ky (arrOf st') i=kA ky (arrOf st') (lo+x-1))) ?_ ?_
  ⟨0,rfl,hB,fun _ _=>rfl,hs,by omega,fun i h1 h2=>by congr 1;omega⟩
 ·rintro x c st' hx hxn ⟨e,rfl,hB',hp,hs',hq,he⟩
  dsimp only
  have hz:lo+x<=(arrOf st').size:=by rw[hB'.size];omega
  refine QB (oR hL hB' (by omega) (by omega) ?_)
  cases hl:O.blt (kA ky (arrOf st') (lo+x)) (kA ky (arrOf st') (lo+x-1))with
  | true =>
   dsimp only
   rw[if_pos rfl]
   have s1:=iI hs' (by omega) (RJ hl)
   by_cases e0:e>0
   ·rw[if_pos e0]
    refine QB (wpS_reverse (QG ⟨0,rfl,hB'.set (mirror_perm _ _ _ _),hp.trans (mF hz (by omega)),fun i j hi hij hj=>?_,by omega,fun i h1 h2=>by congr 1;omega⟩))
    show O.kle (kA ky (mirror (arrOf st') _ _ _) j) (kA ky (mirror (arrOf st') _ _ _) i)
    rw[dN hz he,dN hz he]
    exact s1 i j hi hij hj
   ·rw[if_neg e0]
    exact QG ⟨0,rfl,hB',hp,s1,by omega,fun i h1 h2=>by congr 1;omega⟩
  | false =>
   dsimp only
   rw[if_neg (by simp)]
   refine QB (oR hL hB' (by omega) (by omega) ?_)
   cases hg:O.blt (kA ky (arrOf st') (lo+x-1)) (kA ky (arrOf st') (lo+x))with
   | true =>
    dsimp only
    rw[if_pos rfl]
    exact QG (h x e st' hB' hp hx (by omega) hs' hq he)
   | false =>
    dsimp only
    rw[if_neg (by simp)]
    have hx':kA ky (arrOf st') (lo+x)=kA ky (arrOf st') (lo+x-1):=KeyOrd.kle_antisymm hg hl
    refine QG ⟨e+1,rfl,hB',hp,iI (x:=lo+x) hs' (by omega) hg,by omega,fun i h1 h2=>?_⟩
    rw[show lo+(x+1)-1=lo+x by omega]
    by_cases hix:i=lo+x
    ·subst hix;rfl
    ·rw[hx'];exact he i (by omega) (by omega)
 ·rintro c st' ⟨e,rfl,hB',hp,hs',hq,he⟩
  rw[show max m n=n by omega]at hs' hq he⊢
  exact h n e st' hB' hp hm (QA _) hs' hq he
theorem C5(hL:lW ky prog w A E s kd a₀){st:SortSt}{lo m n:Nat}{Q:Option Nat->SortSt->Prop}(hn:lo+n<=a₀.size)(hm:m+1<=n)(hB:SB a₀ kd p st)(hs:oB ky (arrOf st) lo (lo+(m+1)))
  (h:∀k st',SB a₀ kd p st'->iP lo (arrOf st) (arrOf st')->1<=k->k<=n->Seg ky (arrOf st') lo (lo+k)->Q (some k) st'):wpS (model prog w) A E s (zq lo m n) Q st:=by
 unfold zq
 refine QB (wpS_lift (Sm ⟨rfl,?_⟩))
 refine QB (K3 hL hn (by omega) hm hB hs fun k e st' hB' hp hk1 hk2 hs' hq he=>?_)
 dsimp only
 have hz:lo+k<=(arrOf st').size:=by rw[hB'.size];omega
 by_cases e0:e>0
 ·rw[if_pos e0]
  refine QB (wpS_reverse (Cb hL hn (by omega) hk2 (hB'.set (mirror_perm _ _ _ _)) (fun i j hi hij hj=>?_) fun k st2 b1 b2 b3 b4 b5=>h k st2 b1 ((hp.trans (mF hz (by omega))).trans b2) b3 b4 b5))
  show O.kle (kA ky (mirror (arrOf st') _ _ _) j) (kA ky (mirror (arrOf st') _ _ _) i)
  rw[dN hz he,dN hz he]
  exact hs' i j hi hij hj
 ·rw[if_neg e0]
  exact Cb hL hn (by omega) hk2 hB' hs' fun k st2 b1 b2 b3 b4 b5=>h k st2 b1 (hp.trans b2) b3 b4 b5
theorem K9(hL:lW ky prog w A E s kd a₀){st:SortSt}{lo n:Nat}{Q:Option Nat->SortSt->Prop}(hn:lo+n<=a₀.size)(h1:1<=n)(hB:SB a₀ kd p st)
  (h:∀k st',SB a₀ kd p st'->iP lo (arrOf st) (arrOf st')->1<=k->k<=n->Seg ky (arrOf st') lo (lo+k)->Q (some k) st'):wpS (model prog w) A E s (countRun' lo n) Q st:=by
 rw[La]
 refine QB (B6 hL hn (QA 1) h1 hB DE fun m hm1 hm2 hsm hor=>?_)
 dsimp only
 by_cases hmn:m=n
 ·rw[if_pos (by simpa using hmn)]
  exact QG (h m st hB (fun _ _=>rfl) hm1 hm2 hsm)
 ·rw[if_neg (by simpa using hmn)]
  have hlt:O.klt (kA ky (arrOf st) (lo+m)) (kA ky (arrOf st) (lo+m-1)):=hor.resolve_left hmn
  by_cases hgt:m>1
  ·rw[if_pos hgt]
   refine QB (oR hL hB (by omega) (by omega) ?_)
   cases hr:O.blt (kA ky (arrOf st) lo) (kA ky (arrOf st) (lo+m-1))with
   | true =>
    dsimp only
    rw[if_pos rfl]
    exact QG (h m st hB (fun _ _=>rfl) hm1 hm2 hsm)
   | false =>
    dsimp only
    rw[if_neg (by simp)]
    have hz:lo+m<=(arrOf st).size:=by rw[hB.size];omega
    have hall:∀k,lo<=k->k<lo+m->kA ky (arrOf st) k=kA ky (arrOf st) (lo+m-1):=fun k hk0 hk=>by
     have a1:=hsm lo k (QA _) hk0 hk
     have a2:=hsm k (lo+m-1) hk0 (by omega) (by omega)
     exact KeyOrd.kle_antisymm a2 (Ri hr a1)
    refine QB (wpS_reverse (C5 hL hn (by omega) (hB.set (mirror_perm _ _ _ _)) (iI (x:=lo+m) (fun i j hi hij hj=>?_) (by omega) ?_) fun k st2 b1 b2 b3 b4 b5=>h k st2 b1 ((mF hz (QA _)).trans b2) b3 b4 b5))
    ·show O.kle (kA ky (mirror (arrOf st) _ _ _) j) (kA ky (mirror (arrOf st) _ _ _) i)
     rw[dN hz hall,dN hz hall,hall i hi (by omega),hall j (by omega) hj]
     exact RM _
    ·show O.kle (kA ky (mirror (arrOf st) _ _ _) _) (kA ky (mirror (arrOf st) _ _ _) _)
     rw[dN hz hall,dN hz hall]
     exact RJ hlt
  ·rw[if_neg hgt]
   have:m=1:=by omega
   subst this
   exact C5 hL hn (by omega) hB (iI (x:=lo+1) (fun i j hi hij hj=>by
    have:i=j:=by omega
    subst this;exact RM _) (by omega) (RJ hlt)) h
theorem Lc(hL:lW ky prog w A E s kd a₀){st:SortSt}{lo n ok:Nat}{Q:Bool->SortSt->Prop}(hn:lo+n<=a₀.size)(hok:ok<=n)(hB:SB a₀ kd p st)(hs:Seg ky (arrOf st) lo (lo+ok))
  (h:∀st',SB a₀ kd p st'->iP lo (arrOf st) (arrOf st')->Seg ky (arrOf st') lo (lo+n)->Q true st'):wpS (model prog w) A E s (binarySort' lo n ok) Q st:=by
 rw[binarySort'_eq]
 refine QB (R5 (Rm (I:=fun k c st'=>c=(none,())/\SB a₀ kd p st'/\iP lo (arrOf st) (arrOf st')/\Seg ky (arrOf st') lo (lo+min k n))
  (Q:=fun c st'=>c=(none,())/\SB a₀ kd p st'/\iP lo (arrOf st) (arrOf st')/\Seg ky (arrOf st') lo (lo+n)) ?_ ?_ ⟨rfl,hB,fun _ _=>rfl,fun i j hi hij hj=>?_⟩) ?_)
 ·rintro k c st' hak hkn ⟨rfl,hB',hp,hs'⟩
  rw[show min k n=k by omega]at hs'
  have hk:lo+k<a₀.size:=by omega
  refine QB (R5 (Rm (I:=fun x c st2=>st2=st'/\∃l r,c=(none,l,r)/\l<=r/\r<=k/\r-l<=k-x/\(∀i,i<l->O.kle (kA ky (arrOf st') (lo+i)) (kA ky (arrOf st') (lo+k)))/\(∀i,r<=i->i<k->O.klt (kA ky (arrOf st') (lo+k)) (kA ky (arrOf st') (lo+i))))
   (Q:=fun c st2=>st2=st'/\∃l r,c=(none,l,r)/\l<=k/\(∀i,i<l->O.kle (kA ky (arrOf st') (lo+i)) (kA ky (arrOf st') (lo+k)))/\(∀i,l<=i->i<k->O.klt (kA ky (arrOf st') (lo+k)) (kA ky (arrOf st') (lo+i)))) ?_ ?_ ?_) ?_)
  ·rintro x c st2 _ hxk ⟨rfl,l,r,rfl,hlr,hrk,hm,hlo,hhi⟩
   dsimp only
   by_cases hge:l >= r
   ·rw[if_pos hge]
    have:l=r:=by omega
    subst this
    exact QG ⟨rfl,l,l,rfl,hrk,hlo,hhi⟩
   ·rw[if_neg hge]
    refine QB (oR hL hB' hk (by omega) ?_)
    cases hl:O.blt (kA ky (arrOf st2) (lo+k)) (kA ky (arrOf st2) (lo+(l+r) / 2))with
    | true =>
     dsimp only
     rw[if_pos rfl]
     exact QG ⟨rfl,l,(l+r) / 2,rfl,by omega,by omega,by omega,hlo,fun i g1 g2=>KeyOrd.klt_of_klt_of_kle hl (hs' _ _ (by omega) (by omega) (by omega))⟩
    | false =>
     dsimp only
     rw[if_neg (by simp)]
     exact QG ⟨rfl,(l+r) / 2+1,r,rfl,by omega,by omega,by omega,fun i g1=>Ri (hs' (lo+i) (lo+(l+r) / 2) (by omega) (by omega) (by omega)) hl,hhi⟩
  ·rintro c st2 ⟨rfl,l,r,rfl,hlr,hrk,hm,hlo,hhi⟩
   have:l=r:=by omega
   subst this
   exact⟨rfl,l,l,rfl,hrk,hlo,hhi⟩
  ·exact⟨rfl,0,k,rfl,by omega,by omega,by omega,fun i hi=>by omega,fun i g1 g2=>by omega⟩
  ·rintro c st2 ⟨rfl,l,r,rfl,hlk,hlo,hhi⟩
   have hks:lo+k<(arrOf st2).size:=by rw[hB'.size];exact hk
   dsimp only
   rw[moveDown'_eq]
   refine QB (wpS_modify (QG ⟨rfl,hB'.set (bubble_perm _ _ _),hp.trans (D3 hks (by omega)),?_⟩))
   rw[show min (k+1) n=k+1 by omega]
   intro i j hi hij hj
   show O.kle (kA ky (bubble (arrOf st2) (lo+k) (lo+k-(lo+l))) i) (kA ky (bubble (arrOf st2) (lo+k) (lo+k-(lo+l))) j)
   rw[yS hks (by omega),yS hks (by omega),show lo+k-(lo+k-(lo+l))=lo+l by omega]
   have q1:∀i,lo<=i->i<lo+l->O.kle (kA ky (arrOf st2) i) (kA ky (arrOf st2) (lo+k)):=fun i g1 g2=>by
    have:=hlo (i-lo) (by omega)
    rwa [show lo+(i-lo)=i by omega]at this
   have q2:∀i,lo+l<=i->i<lo+k->O.klt (kA ky (arrOf st2) (lo+k)) (kA ky (arrOf st2) i):=fun i g1 g2=>by
    have:=hhi (i-lo) (by omega) (by omega)
    rwa [show lo+(i-lo)=i by omega]at this
   repeat' split
   all_goals first
    | (exfalso;omega)
    | exact RM _
    | exact q1 _ (by omega) (by omega)
    | exact RJ (q2 _ (by omega) (by omega))
    | exact hs' _ _ (by omega) (by omega) (by omega)
 ·rintro c st' ⟨hc,hB',hp,hs'⟩
  rw[show min (max (max ok 1) n) n=n by omega]at hs'
  exact⟨hc,hB',hp,hs'⟩
 ·by_cases h1:ok=0
  ·have:i=j:=by omega
   subst this;exact RM _
  ·exact hs i j hi hij (by omega)
 ·rintro c st' ⟨rfl,hB',hp,hs'⟩
  exact QG (h st' hB' hp hs')
end
end TS
namespace TS
open PySem PyProof.Rows
noncomputable def n4(xs:Array Keyed)(c:Nat)(r:Array Keyed):Array Keyed:=r.toList.zipIdx.foldl (fun a (q,j)=>a.setIfInBounds (c+j) q) xs
noncomputable abbrev nY(st:SortSt)(p:Array (Nat×Nat×Nat)):SortSt:=SortSt.mk' (kindOf st) (arrOf st) p (gallopOf st) (failedOf st)
theorem Hq(i:Nat):mergeAt' i=(do
 let st <- get
 let (some (sa,na,pw),some (sb,nb,_)):=((pendingOf st)[i]?,(pendingOf st)[i+1]?)|unsupported "internal:list.sort.pending"
 set (nY st (((pendingOf st).setIfInBounds i (sa,na+nb,pw)).eraseIdxIfInBounds (i+1)))
 let some k <- gM false (<- elem' (arrOf st) sb) (arrOf st) sa na 0|return false
 let (sa,na):=(sa+k,na-k)
 if na==0 then return true
 let some nb <- gM true (<- elem' (arrOf st) (sa+na-1)) (arrOf st) sb nb (nb-1)|return false
 if nb==0 then return true
 let r <- if na<=nb then CD ((arrOf st).extract sa sb) ((arrOf st).extract sb (sb+nb))else CG ((arrOf st).extract sa sb) ((arrOf st).extract sb (sb+nb))
 modify fun st=>setArr st (n4 (arrOf st) sa r)
 return (failedOf (<- get)).isNone):=rfl
theorem tN(c:Nat):∀(l:List Keyed) (n:Nat) (xs:Array Keyed),c+n+l.length<=xs.size->((l.zipIdx n).foldl (fun a (q,j)=>a.setIfInBounds (c+j) q) xs).toList=xs.toList.take (c+n)++l++xs.toList.drop (c+n+l.length)
 | [],n,xs,h=>by simp
 | x::l,n,xs,h=>by
  rw[QP]at h
  rw[List.zipIdx_cons,List.foldl_cons,tN c l (n+1) _ (by rw[Array.size_setIfInBounds];omega),Array.toList_setIfInBounds,QP]
  have h1:c+n<xs.toList.length:=by rw[QF];omega
  rw[show c+(n+1)=c+n+1 by omega,show c+n+(l.length+1)=c+n+1+l.length by omega]
  rw[List.drop_set_of_lt (by omega),List.take_set,SL,QS h1]
  have e:(xs.toList.take (c+n)++(some xs.toList[c+n]).toList).set (c+n) x=xs.toList.take (c+n)++[x]:=by
   rw[List.set_append_right _ _ (by rw[Q1];omega),Q1,SC (by omega),Nat.sub_self];rfl
  rw[e]
  simp
theorem x8{xs r:Array Keyed}{c:Nat}(h:c+r.size<=xs.size):(n4 xs c r).toList=xs.toList.take c++r.toList++xs.toList.drop (c+r.size):=by
 have:=tN c r.toList 0 xs (by rw[QF];omega)
 rw[QF]at this
 exact this
section
variable{O:KeyOrd}{ky:Keyed->O.α}
theorem mB{xs:Array Keyed}{lo n:Nat}(h:lo+n<=xs.size):Seg ky xs lo (lo+n)↔dc ky ((xs.toList.drop lo).take n):=by
 have ln:((xs.toList.drop lo).take n).length=n:=by rw[Q1,RG,QF];omega
 unfold dc
 rw[List.pairwise_iff_getElem]
 constructor
 ·intro hs i j hi hj hij
  rw[ln]at hi hj
  have:=hs (lo+i) (lo+j) (by omega) (by omega) (by omega)
  rw[kA_at (by omega),kA_at (by omega)]at this
  simpa using this
 ·intro hs i j hi hij hj
  rw[kA_at (by omega),kA_at (by omega)]
  rcases Nat.lt_or_ge i j with z|z
  ·have:=hs (i-lo) (j-lo) (by rw[ln];omega) (by rw[ln];omega) (by omega)
   simp only[List.getElem_take,List.getElem_drop,R7]at this
   have e1:lo+(i-lo)=i:=by omega
   have e2:lo+(j-lo)=j:=by omega
   simpa only[e1,e2]using this
  ·have:i=j:=by omega
   subst this;exact RM _
variable{prog:Program}{w:World}{A:Around}{E:Value->Shared->Prop}{s:Shared}{kd:SortKind}{a₀:Array Keyed}{p:Array (Nat×Nat×Nat)}
theorem Do{M:Model}{σ:Type}{x:σ}{Q:PUnit->σ->Prop}{st:σ}(h:Q ⟨⟩ x):wpS M A E s (set x:StateT σ Sem PUnit) Q st:=by
 unfold wpS;exact QL ⟨rfl,h⟩
theorem qH{α:Type}(l:List α)(a m n:Nat):(l.drop a).take (m+n)=(l.drop a).take m++(l.drop (a+m)).take n:=by
 rw[List.take_add,Sc]
theorem Ho(hL:lW ky prog w A E s kd a₀){st:SortSt}(hB:SB a₀ kd p st){i sa na nb pw pw2:Nat}{Q:Bool->SortSt->Prop}(e1:p[i]?=some (sa,na,pw))(e2:p[i+1]?=some (sa+na,nb,pw2))(n1:1<=na)(n2:1<=nb)(hz:sa+na+nb<=a₀.size)
    (s1:Seg ky (arrOf st) sa (sa+na)) (s2:Seg ky (arrOf st) (sa+na) (sa+na+nb))
    (h:∀st',SB a₀ kd ((p.setIfInBounds i (sa,na+nb,pw)).eraseIdxIfInBounds (i+1)) st'->(∀t,t<sa\/sa+na+nb<=t->(arrOf st')[t]?=(arrOf st)[t]?)->Seg ky (arrOf st') sa (sa+na+nb)->Q true st'):wpS (model prog w) A E s (mergeAt' i) Q st:=by
  have sz:=hB.size
  have hU:∀x∈(arrOf st).toList,x∈a₀.toList:=fun x hx=>(Array.perm_iff_toList_perm.mp hB.perm).mem_iff.mp hx
  have hf:=hB.failed
  rw[Hq]
  refine QB (wpS_get ?_)
  rw[hB.pend,e1,e2]
  dsimp only
  refine QB (Do ?_)
  have hB2:SB a₀ kd ((p.setIfInBounds i (sa,na+nb,pw)).eraseIdxIfInBounds (i+1)) (nY st ((p.setIfInBounds i (sa,na+nb,pw)).eraseIdxIfInBounds (i+1))):=⟨hB.perm,hB.kind,hf,rfl⟩
  generalize (p.setIfInBounds i (sa,na+nb,pw)).eraseIdxIfInBounds (i+1)=p' at *
  obtain⟨X0,hX⟩:∃X0,arrOf st=X0:=⟨_,rfl⟩
  have kk:kindOf (nY st p')=kd:=hB.kind
  rw[hX]at s1 s2 sz hU
  have S1:=(mB (ky:=ky) (xs:=X0) (lo:=sa) (n:=na) (by omega)).mp s1
  have S2:=(mB (ky:=ky) (xs:=X0) (lo:=sa+na) (n:=nb) (by omega)).mp s2
  have hy0:X0[sa+na]'(by omega)∈(X0.toList.drop (sa+na)).take nb:=by
    rw[g9 (by omega)]
    obtain⟨k,rfl⟩:∃k,nb=k+1:=⟨nb-1,by omega⟩
    rw[List.take_succ_cons];exact Qy
  have y0S2:∀y∈(X0.toList.drop (sa+na)).take nb,O.kle (ky (X0[sa+na]'(by omega))) (ky y):=fun y hy=>by
    rw[g9 (by omega)]at S2 hy
    obtain⟨k,rfl⟩:∃k,nb=k+1:=⟨nb-1,by omega⟩
    rw[List.take_succ_cons]at S2 hy
    exact xS S2 _ (QM.mpr rfl) y hy
  have S1z:∀x∈(X0.toList.drop sa).take na,O.kle (ky x) (ky (X0[sa+na-1]'(by omega))):=fun x hx=>by
    obtain⟨j,hj,rfl⟩:=List.mem_iff_getElem.mp hx
    rw[Q1,RG,QF]at hj
    have:=s1 (sa+j) (sa+na-1) (by omega) (by omega) (by omega)
    rw[kA_at (by omega),kA_at (by omega)]at this
    simpa using this
  rw[hX]
  have plain:dc ky ((X0.toList.drop sa).take na++(X0.toList.drop (sa+na)).take nb)->wpS (model prog w) A E s (pure true:SM Bool) Q (nY st p'):=fun hs=>QG (h _ hB2 (fun t _=>rfl) (by
    show Seg ky (arrOf st) sa (sa+na+nb)
    rw[hX,S4]
    exact(mB (by omega)).mpr (by rw[qH];exact hs)))
  refine QB (bg (by omega) ?_)
  refine QB (jq hL kk hU (hU _ (RD _)) S1 (by omega) (by omega) fun k hk g1 g2=>?_)
  dsimp only
  by_cases k0:na-k=0
  . rw[if_pos (by simpa using k0)]
    have:k=na:=by omega
    subst this
    refine plain (dD.mpr ⟨S1,S2,fun x hx y hy=>Ri (oN (g1 x ?_)) (y0S2 y hy)⟩)
    rw[List.take_take,Nat.min_self];exact hx
  . rw[if_neg (by simpa using k0)]
    refine QB (bg (by omega) ?_)
    have ez:sa+k+(na-k)-1=sa+na-1:=by omega
    refine QB (jq hL kk hU (hU _ (RD _)) S2 (by omega) (by omega) fun q hq f1 f2=>?_)
    simp only[ez]at f1 f2
    dsimp only
    by_cases q0:q=0
    . rw[if_pos (by simpa using q0)]
      subst q0
      exact plain (dD.mpr ⟨S1,S2,fun x hx y hy=>Ri (S1z x hx) (kK (f2 y hy))⟩)
    . rw[if_neg (by simpa using q0)]
      have eX:(X0.extract (sa+k) (sa+na)).toList=((X0.toList.drop sa).take na).drop k:=by
        have:=gU X0 (sa+k) (na-k)
        rw[show sa+k+(na-k)=sa+na by omega]at this
        rw[this,List.drop_take,Sc]
      have eY:(X0.extract (sa+na) (sa+na+q)).toList=((X0.toList.drop (sa+na)).take nb).take q:=by
        rw[gU,List.take_take,SC hq]
      have zX:(X0.extract (sa+k) (sa+na)).size=na-k:=by rw[Array.size_extract];omega
      have zY:(X0.extract (sa+na) (sa+na+q)).size=q:=by rw[Array.size_extract];omega
      have sX:dc ky (X0.extract (sa+k) (sa+na)).toList:=by rw[eX];exact List.Pairwise.sublist (List.drop_sublist _ _) S1
      have sY:dc ky (X0.extract (sa+na) (sa+na+q)).toList:=by rw[eY];exact List.Pairwise.sublist (List.take_sublist _ _) S2
      have uX:∀x∈(X0.extract (sa+k) (sa+na)).toList,x∈a₀.toList:=fun x hx=>hU x (by rw[eX]at hx;exact So (R6 (So hx)))
      have uY:∀x∈(X0.extract (sa+na) (sa+na+q)).toList,x∈a₀.toList:=fun x hx=>hU x (by rw[eY]at hx;exact So (R6 (R6 hx)))
      have hy:(X0.extract (sa+na) (sa+na+q))[0]'(by omega)=X0[sa+na]'(by omega):=by simp
      have b1:cH ky [(X0.extract (sa+na) (sa+na+q))[0]'(by omega)] (X0.extract (sa+k) (sa+na)).toList:=fun x hx y hy'=>by
        rw[QM]at hx
        subst hx
        rw[hy]
        rw[eX]at hy'
        exact oM (g2 y hy')
      have hx:(X0.extract (sa+k) (sa+na))[(X0.extract (sa+k) (sa+na)).size-1]'(by omega)=X0[sa+na-1]'(by omega):=by
        simp only[Array.getElem_extract]
        congr 1
        rw[zX];omega
      have b2:cH ky (X0.extract (sa+na) (sa+na+q)).toList [(X0.extract (sa+k) (sa+na))[(X0.extract (sa+k) (sa+na)).size-1]'(by omega)]:=fun x hx' y hy'=>by
        rw[QM]at hy'
        subst hy'
        rw[hx]
        rw[eY]at hx'
        exact wz (f1 x hx')
      have fin:∀r g,eg ky ((X0.extract (sa+k) (sa+na)).toList++(X0.extract (sa+na) (sa+na+q)).toList) r.toList->wpS (model prog w) A E s (do
          modify fun st=>setArr st (n4 (arrOf st) (sa+k) r)
          let st <- get
          pure (failedOf st).isNone) Q (cM (nY st p') g):=by
        rintro r g ⟨rp,rs⟩
        have zr:r.size=na-k+q:=by
          have:=rp.length_eq
          rw[QH,QF,QF,QF,zX,zY]at this
          exact this
        refine QB (wpS_modify (QB (wpS_get (QG ?_))))
        show Q (failedOf st).isNone _
        rw[hf]
        have eT:X0.toList.take (sa+k)=X0.toList.take sa++((X0.toList.drop sa).take na).take k:=by
          rw[List.take_add,List.take_take,SC hk]
        have eD:X0.toList.drop (sa+k+r.size)=((X0.toList.drop (sa+na)).take nb).drop q++X0.toList.drop (sa+na+nb):=by
          rw[zr,show sa+k+(na-k+q)=sa+na+q by omega,List.drop_take]
          obtain⟨u,rfl⟩:∃u,nb=q+u:=⟨nb-q,by omega⟩
          rw[show q+u-q=u by omega,Sc,show sa+na+(q+u)=sa+na+q+u by omega,<- Sc (i:=u),Re]
        have eN:(n4 X0 (sa+k) r).toList=X0.toList.take sa++(((X0.toList.drop sa).take na).take k++r.toList++((X0.toList.drop (sa+na)).take nb).drop q)++X0.toList.drop (sa+na+nb):=by
          rw[x8 (by omega),eT,eD]
          simp only[Q5]
        have eO:X0.toList=X0.toList.take sa++((X0.toList.drop sa).take na++(X0.toList.drop (sa+na)).take nb)++X0.toList.drop (sa+na+nb):=by
          rw[<- qH,S4,<- Sc (i:=na+nb),Q5,Re,Re]
        have lP:(X0.toList.take sa).length=sa:=by rw[Q1,QF];omega
        have l1:((X0.toList.drop sa).take na).length=na:=by rw[Q1,RG,QF];omega
        have l2:((X0.toList.drop (sa+na)).take nb).length=nb:=by rw[Q1,RG,QF];omega
        have lM:(((X0.toList.drop sa).take na).take k++r.toList++((X0.toList.drop (sa+na)).take nb).drop q).length=na+nb:=by
          rw[QH,QH,Q1,RG,l1,l2,QF,zr];omega
        have mid:(((X0.toList.drop sa).take na).take k++r.toList++((X0.toList.drop (sa+na)).take nb).drop q).Perm ((X0.toList.drop sa).take na++(X0.toList.drop (sa+na)).take nb):=by
          have h3:(((X0.toList.drop sa).take na).take k++(((X0.toList.drop sa).take na).drop k++((X0.toList.drop (sa+na)).take nb).take q)++((X0.toList.drop (sa+na)).take nb).drop q)=(X0.toList.drop sa).take na++(X0.toList.drop (sa+na)).take nb:=by
            rw[<- Q5,Re,Q5,Re]
          rw[<- h3]
          rw[eX,eY]at rp
          exact(rp.append_left _).append_right _
        have srtM:dc ky (((X0.toList.drop sa).take na).take k++r.toList++((X0.toList.drop (sa+na)).take nb).drop q):=by
          have memr:∀x∈r.toList,x∈((X0.toList.drop sa).take na).drop k\/x∈((X0.toList.drop (sa+na)).take nb).take q:=fun x hx=>by
            have:=rp.mem_iff.mp hx
            rw[eX,eY]at this
            exact QX.mp this
          have S2':=dD.mp (show dc ky (((X0.toList.drop (sa+na)).take nb).take q++((X0.toList.drop (sa+na)).take nb).drop q) by rw[Re];exact S2)
          refine dD.mpr ⟨dD.mpr ⟨List.Pairwise.sublist (List.take_sublist _ _) S1,rs,fun x hx y hy=>?_⟩,S2'.2.1,fun x hx y hy=>?_⟩
          . rcases memr y hy with z|z
            . exact Ri (oN (g1 x hx)) (oM (g2 y z))
            . exact Ri (oN (g1 x hx)) (y0S2 y (R6 z))
          . rcases QX.mp hx with z|z
            . exact Ri (S1z x (R6 z)) (kK (f2 y hy))
            . rcases memr x z with z|z
              . exact Ri (S1z x (So z)) (kK (f2 y hy))
              . exact S2'.2.2 x z y hy
        have arr:arrOf (setArr (cM (nY st p') g) (n4 (arrOf (cM (nY st p') g)) (sa+k) r))=n4 X0 (sa+k) r:=by rw[<- hX];rfl
        have zN:(n4 X0 (sa+k) r).size=X0.size:=by
          rw[<- QF,eN,QH,QH,lM,lP,RG,QF];omega
        refine h _ ⟨?_,hB.kind,hf,rfl⟩ (fun t ht=>?_) ?_
        . rw[arr]
          refine Array.Perm.trans ?_ hB.perm
          rw[hX]
          refine Array.perm_iff_toList_perm.mpr ?_
          rw[eN]
          exact((mid.append_left _).append_right _).trans (List.Perm.of_eq eO.symm)
        . rw[arr,hX,<- Array.getElem?_toList,<- Array.getElem?_toList,eN]
          conv=>rhs;rw[eO]
          rcases ht with ht|ht
          . have hl:∀m r:List Keyed,(X0.toList.take sa++m++r)[t]?=(X0.toList.take sa)[t]?:=fun m r=>by
              rw[Q5,List.getElem?_append_left (by omega)]
            rw[hl,hl]
          . have hr:∀m r:List Keyed,m.length=na+nb->(X0.toList.take sa++m++r)[t]?=r[t-(sa+(na+nb))]?:=fun m r hm=>by
              rw[List.getElem?_append_right (by rw[QH,lP,hm];omega),QH,lP,hm]
            rw[hr _ _ lM,hr _ _ (by rw[QH,l1,l2])]
        . rw[arr,S4]
          refine(mB (by omega)).mpr ?_
          rw[eN,Q5,List.drop_append_of_le_length (by omega),List.drop_of_length_le (by omega),List.nil_append,List.take_append_of_le_length (by omega),RU (by omega)]
          exact srtM
      by_cases hle:na-k<=q
      . rw[if_pos hle]
        exact QB (Hi (nR.mk hL uX uY (fun x hx' y hy'=>by
          rw[g9 (i:=(X0.extract (sa+k) (sa+na)).size-1) (by omega),List.drop_of_length_le (by rw[QF];omega)]at hy'
          exact b2 x hx' y hy') kk) sX sY (by omega) (by omega) b1 fin)
      . rw[if_neg hle]
        exact QB (Hk (iY.mk hL uX uY (by omega) b1 sX sY kk) (by omega) b2 fin)
end
end TS
namespace TS
open PySem PyProof.Rows
section
variable{O:KeyOrd}{ky:Keyed->O.α}{prog:Program}{w:World}{A:Around}{E:Value->Shared->Prop}{s:Shared}{kd:SortKind}{a₀:Array Keyed}{p:Array (Nat×Nat×Nat)}
noncomputable def eB(ky:Keyed->O.α)(xs:Array Keyed):List (Nat×Nat×Nat)->Nat->Nat->Prop
 | [],a,b=>a=b
 | r::l,a,b=>r.1=a/\1<=r.2.1/\Seg ky xs a (a+r.2.1)/\eB ky xs l (a+r.2.1) b
theorem kH{xs:Array Keyed}:∀{l:List (Nat×Nat×Nat)} {a b:Nat},eB ky xs l a b->a+l.length<=b
 | [],a,b,h=>by cases (show a=b from h);exact QA _
 | r::l,a,b,⟨_,h1,_,h2⟩=>by have:=kH h2;rw[QP];omega
theorem i9{xs:Array Keyed}{m:List (Nat×Nat×Nat)}:∀{l:List (Nat×Nat×Nat)} {a b:Nat},eB ky xs (l++m) a b↔∃c,eB ky xs l a c/\eB ky xs m c b
 | [],a,b=>⟨fun h=>⟨a,rfl,h⟩,fun⟨c,h1,h2⟩=>by cases (show a=c from h1);exact h2⟩
 | r::l,a,b=>by
  rw[List.cons_append]
  constructor
  ·rintro⟨h1,h2,h3,h4⟩
   obtain⟨c,h5,h6⟩:=i9.mp h4
   exact⟨c,⟨h1,h2,h3,h5⟩,h6⟩
  ·rintro⟨c,⟨h1,h2,h3,h5⟩,h6⟩
   exact⟨h1,h2,h3,i9.mpr ⟨c,h5,h6⟩⟩
theorem qJ{xs ys:Array Keyed}{a b:Nat}(h:∀t,a<=t->t<b->xs[t]?=ys[t]?)(hs:Seg ky xs a b):Seg ky ys a b:=fun i j hi hij hj=>by
 rw[<- jM (h i hi (by omega)),<- jM (h j (by omega) hj)]
 exact hs i j hi hij hj
theorem gv{xs ys:Array Keyed}:∀{l:List (Nat×Nat×Nat)} {a b:Nat},(∀t,a<=t->t<b->xs[t]?=ys[t]?)->eB ky xs l a b->eB ky ys l a b
 | [],a,b,_,h=>h
 | r::l,a,b,e,⟨h1,h2,h3,h4⟩=>by
  have:=kH h4
  exact⟨h1,h2,qJ (fun t z1 z2=>e t z1 (by omega)) h3,gv (fun t z1 z2=>e t (by omega) z2) h4⟩
theorem vE(hL:lW ky prog w A E s kd a₀){st:SortSt}(hB:SB a₀ kd p st){i lo:Nat}{Q:Bool->SortSt->Prop}(hi:i+1<p.size)(hR:eB ky (arrOf st) p.toList 0 lo)(hl:lo<=a₀.size)
  (h:∀p' st',SB a₀ kd p' st'->p'.size+1=p.size->eB ky (arrOf st') p'.toList 0 lo->(∀t,lo<=t->(arrOf st')[t]?=(arrOf st)[t]?)->Q true st'):wpS (model prog w) A E s (mergeAt' i) Q st:=by
 obtain⟨⟨sa,na,pw⟩,e1⟩:∃r,p[i]=r:=⟨_,rfl⟩
 obtain⟨⟨sb,nb,pw2⟩,e2⟩:∃r,p[i+1]=r:=⟨_,rfl⟩
 have d1:p.toList=p.toList.take i++((sa,na,pw)::(sb,nb,pw2)::p.toList.drop (i+2)):=by
  rw[<- e1,<- e2]
  have z1:i<p.toList.length:=by rw[QF];omega
  have z2:i+1<p.toList.length:=by rw[QF];omega
  have:=RL z1
  rw[RL z2]at this
  rw[<- R7,<- R7,<- this,Re]
 have hR':=hR
 rw[d1]at hR'
 obtain⟨c,r1,r2,n1,g1,r3,n2,g2,r4⟩:=i9.mp hR'
 simp only at r2 n1 g1 r3 n2 g2 r4
 subst r2 r3
 have le4:=kH r4
 have le1:=kH r1
 have el:((p.setIfInBounds i (sa,na+nb,pw)).eraseIdxIfInBounds (i+1)).toList=p.toList.take i++((sa,na+nb,pw)::p.toList.drop (i+2)):=by
  rw[Array.toList_eraseIdxIfInBounds,Array.toList_setIfInBounds]
  conv=>lhs;rw[d1]
  have lt:(p.toList.take i).length=i:=by rw[Q1,QF];omega
  rw[List.set_append_right _ _ (by omega),lt,Nat.sub_self,List.set_cons_zero,List.eraseIdx_append_of_length_le (by omega),lt,show i+1-i=1 by omega]
  rfl
 refine Ho hL hB (by rw[getElem?_pos p i (by omega),e1]) (by rw[getElem?_pos p (i+1) hi,e2]) n1 n2 (by omega) g1 g2 fun st' hB' ag sg=>h _ st' hB' ?_ ?_ fun t ht=>ag t (.inr (by omega))
 ·have:=RC List.length el
  rw[QF,QH,QP,Q1,RG,QF]at this
  omega
 ·rw[el]
  refine i9.mpr ⟨sa,gv (fun t _ z=>(ag t (.inl z)).symm) r1,rfl,by show 1<=na+nb;omega,by show Seg ky _ sa (sa+(na+nb));rw[<- S4];exact sg,?_⟩
  show eB ky _ _ (sa+(na+nb)) lo
  rw[<- S4]
  exact gv (fun t z _=>(ag t (.inr z)).symm) r4
noncomputable def vo(size lo n:Nat):SM (ForInStep (Option Unit×Nat)):=do
 let st <- get
 match (pendingOf st).back? with
 | some (s1,n1,_)=>do
  let c <- forIn [0:size] ((none,()):Option Unit×Unit) fun _ _=>do
   let st <- get
   match (if (pendingOf st).size>1 then(pendingOf st)[(pendingOf st).size-2]? else none)with
   | some (_,_,od) =>
    if od<=power' size (2*s1+n1) (2*s1+n1+n1+n) size then pure (.done (none,()))
    else do
     let b <- mergeAt' ((pendingOf st).size-2)
     if (!b)=true then pure (.done (some (),()))else pure (.yield (none,()))
   | _=>pure (.done (none,()))
  match c.1 with
  | some r=>pure (.done (some r,lo))
  | none=>do
   modify fun s=>setPending s ((pendingOf s).modify ((pendingOf s).size-1) fun x=>(x.1,x.2.1,power' size (2*s1+n1) (2*s1+n1+n1+n) size))
   modify fun s=>setPending s ((pendingOf s).push (lo,n,0))
   pure (.yield (none,lo+n))
 | _=>do
  modify fun s=>setPending s ((pendingOf s).push (lo,n,0))
  pure (.yield (none,lo+n))
theorem DO{xs:Array Keyed}(v:Nat){a b:Nat}(h:eB ky xs p.toList a b):eB ky xs (p.modify (p.size-1) fun x=>(x.1,x.2.1,v)).toList a b:=by
 have key:∀(l:List (Nat×Nat×Nat)) (k:Nat) (a b:Nat),eB ky xs l a b->eB ky xs (l.modify k fun x=>(x.1,x.2.1,v)) a b:=by
  intro l
  induction l with
  | nil=>intro k a b h;cases k<;>exact h
  | cons r l ih =>
   intro k a b ⟨h1,h2,h3,h4⟩
   cases k with
   | zero=>exact⟨h1,h2,h3,h4⟩
   | succ k=>exact⟨h1,h2,h3,ih k _ _ h4⟩
 rw[Array.toList_modify]
 exact key _ _ _ _ h
theorem xZ(hL:lW ky prog w A E s kd a₀){st:SortSt}{lo n:Nat}{Q:ForInStep (Option Unit×Nat)->SortSt->Prop}(hB:SB a₀ kd p st)(hR:eB ky (arrOf st) p.toList 0 lo)(hn:1<=n)(hz:lo+n<=a₀.size)(hs:Seg ky (arrOf st) lo (lo+n))
  (h:∀p' st',SB a₀ kd p' st'->eB ky (arrOf st') p'.toList 0 (lo+n)->Q (.yield (none,lo+n)) st'):wpS (model prog w) A E s (vo a₀.size lo n) Q st:=by
 have push:∀p' st',SB a₀ kd p' st'->eB ky (arrOf st') p'.toList 0 lo->Seg ky (arrOf st') lo (lo+n)->Q (.yield (none,lo+n)) (setPending st' (p'.push (lo,n,0))):=fun p' st' b r g=>h (p'.push (lo,n,0)) _ ⟨b.perm,b.kind,b.failed,rfl⟩ (by
  rw[SH]
  exact i9.mpr ⟨lo,r,rfl,hn,g,rfl⟩)
 unfold vo
 refine QB (wpS_get ?_)
 rw[hB.pend]
 cases eb:p.back? with
 | none =>
  dsimp only
  refine QB (wpS_modify (QG ?_))
  rw[hB.pend]
  exact push p st hB hR hs
 | some r =>
  obtain⟨s1,n1,_⟩:=r
  dsimp only
  refine QB (R5 (Rm (I:=fun x c st'=>c=(none,())/\∃p',SB a₀ kd p' st'/\eB ky (arrOf st') p'.toList 0 lo/\Seg ky (arrOf st') lo (lo+n)) (Q:=fun c st'=>c=(none,())/\∃p',SB a₀ kd p' st'/\eB ky (arrOf st') p'.toList 0 lo/\Seg ky (arrOf st') lo (lo+n)) ?_ (fun _ _ z=>z) ⟨rfl,p,hB,hR,hs⟩) ?_)
  ·rintro x c st' _ hx ⟨rfl,p',hB',hR',hs'⟩
   refine QB (wpS_get ?_)
   rw[hB'.pend]
   by_cases h1:p'.size>1
   ·rw[if_pos h1,getElem?_pos p' (p'.size-2) (by omega)]
    obtain⟨⟨q1,q2,od⟩,eq⟩:∃r,p'[p'.size-2]=r:=⟨_,rfl⟩
    rw[eq]
    dsimp only
    split
    ·exact QG ⟨rfl,p',hB',hR',hs'⟩
    ·refine QB (vE hL hB' (by omega) hR' (by omega) fun p2 st2 b1 b2 b3 b4=>?_)
     exact QG ⟨rfl,p2,b1,b3,qJ (fun t z _=>(b4 t z).symm) hs'⟩
   ·rw[if_neg h1]
    exact QG ⟨rfl,p',hB',hR',hs'⟩
  ·rintro c st' ⟨rfl,p',hB',hR',hs'⟩
   dsimp only
   refine QB (wpS_modify (QB (wpS_modify (QG ?_))))
   rw[hB'.pend]
   exact push _ (setPending st' _) ⟨hB'.perm,hB'.kind,hB'.failed,rfl⟩ (DO _ hR') hs'
theorem xA{M:Model}{α σ:Type}{m m':StateT σ Sem α}{Q:α->σ->Prop}{st:σ}(e:m=m')(h:wpS M A E s m' Q st):wpS M A E s m Q st:=e ▸ h
theorem runs_ok(hL:lW ky prog w A E s kd a₀){st:SortSt}{Q:Unit->SortSt->Prop}(hB:SB a₀ kd #[] st)(h2:1<=a₀.size)
    (h:∀st',(arrOf st').Perm a₀->failedOf st'=none->Seg ky (arrOf st') 0 a₀.size->Q () st'):wpS (model prog w) A E s sortRuns' Q st:=by
  rw[sortRuns'_eq]
  refine QB (wpS_get ?_)
  dsimp only
  simp only[hB.size]
  generalize minRun' a₀.size a₀.size 0=mr
  refine QB (R5 (Rm (I:=fun x c st' => ∃lo p,c=(none,lo)/\SB a₀ kd p st'/\eB ky (arrOf st') p.toList 0 lo/\lo<=a₀.size/\x<=lo)
    (Q:=fun c st' => ∃p,c=(none,a₀.size)/\SB a₀ kd p st'/\eB ky (arrOf st') p.toList 0 a₀.size) ?_ ?_ ⟨0,#[],rfl,hB,rfl,QN _,QA _⟩) ?_)
  . rintro x c st' _ hx ⟨lo,p,rfl,hB',hR,hlo,hxl⟩
    dsimp only
    by_cases hge:lo >= a₀.size
    . rw[if_pos hge]
      have:lo=a₀.size:=by omega
      subst this
      exact QG ⟨p,rfl,hB',hR⟩
    . rw[if_neg hge]
      refine QB (K9 hL (n:=a₀.size-lo) (by omega) (by omega) hB' fun m st2 hB2 hP2 hm1 hm2 hs2=>?_)
      dsimp only
      by_cases hlt:m<mr
      . rw[if_pos hlt]
        refine QB (wpS_lift (Sm ⟨rfl,?_⟩))
        refine QB (Lc hL (n:=min (a₀.size-lo) mr) (by omega) (by omega) hB2 hs2 fun st3 hB3 hP3 hs3=>?_)
        rw[if_neg (by simp)]
        refine xA (m':=vo a₀.size lo (min (a₀.size-lo) mr)) ?_ ?_
        . unfold vo
          congr 1;funext st5
          generalize (pendingOf st5).back?=ob
          cases ob with
          | none=>rfl
          | some r5 =>
            obtain⟨u1,u2,u3⟩:=r5
            dsimp only
            congr 1
            funext c5
            obtain⟨c6,c7⟩:=c5
            cases c6<;>rfl
        . exact xZ hL hB3 (gv (fun t _ z=>(hP2.trans hP3) t z) hR) (by omega) (by omega) hs3 fun p' st' b1 b2=>⟨_,p',rfl,b1,b2,by omega,by omega⟩
      . rw[if_neg hlt]
        refine xA (m':=vo a₀.size lo (m)) ?_ ?_
        . unfold vo
          congr 1;funext st5
          generalize (pendingOf st5).back?=ob
          cases ob with
          | none=>rfl
          | some r5 =>
            obtain⟨u1,u2,u3⟩:=r5
            dsimp only
            congr 1
            funext c5
            obtain⟨c6,c7⟩:=c5
            cases c6<;>rfl
        . exact xZ hL hB2 (gv (fun t _ z=>hP2 t z) hR) hm1 (by omega) hs2 fun p' st' b1 b2=>⟨_,p',rfl,b1,b2,by omega,by omega⟩
  . rintro c st' ⟨lo,p,rfl,hB',hR,hlo,hxl⟩
    have:lo=a₀.size:=by omega
    subst this
    exact⟨p,rfl,hB',hR⟩
  . rintro c st' ⟨p,rfl,hB',hR⟩
    dsimp only
    have p0:1<=p.size:=by
      rcases Nat.lt_or_ge 0 p.size with z|z
      . exact z
      . have:p.toList=[]:=List.eq_nil_of_length_eq_zero (by rw[QF];omega)
        rw[this]at hR
        have:0=a₀.size:=hR
        omega
    have ple:=kH hR
    rw[QF]at ple
    refine QB (R5 (Rm (I:=fun x c st2=>c=(none,())/\∃p',SB a₀ kd p' st2/\eB ky (arrOf st2) p'.toList 0 a₀.size/\1<=p'.size/\(p'.size<=1\/p'.size+x<=a₀.size))
      (Q:=fun c st2=>c=(none,())/\∃p',SB a₀ kd p' st2/\eB ky (arrOf st2) p'.toList 0 a₀.size/\p'.size=1) ?_ ?_ ⟨rfl,p,hB',hR,p0,.inr (by omega)⟩) ?_)
    . rintro x c st2 _ hx ⟨rfl,p',hB2,hR2,g1,g2⟩
      refine QB (wpS_get ?_)
      simp only[hB2.pend]
      by_cases h1:p'.size<=1
      . rw[if_pos h1]
        exact QG ⟨rfl,p',hB2,hR2,by omega⟩
      . rw[if_neg h1]
        have go:∀(i:Nat) (R:ForInStep (Option Unit×Unit)->SortSt->Prop),i+1<p'.size->(∀p3 st3,SB a₀ kd p3 st3->p3.size+1=p'.size->eB ky (arrOf st3) p3.toList 0 a₀.size->R (.yield (none,())) st3)->wpS (model prog w) A E s (do
            let b <- mergeAt' i
            if (!b)=true then pure (ForInStep.done (some (),()))else pure (ForInStep.yield (none,()))) R st2:=fun i R hi q =>
          QB (vE hL hB2 hi hR2 (QA _) fun p3 st3 b1 b2 b3 _=>QG (q p3 st3 b1 b2 b3))
        refine go _ _ ?_ fun p3 st3 b1 b2 b3=>⟨rfl,p3,b1,b3,by omega,by omega⟩
        have sm:∀b:Bool,(if b=true then p'.size-2-1 else p'.size-2)+1<p'.size:=fun b=>by
          cases b with
          | true=>rw[if_pos rfl];omega
          | false=>rw[if_neg (by simp)];omega
        exact sm _
    . rintro c st2 ⟨rfl,p',hB2,hR2,g1,g2⟩
      exact⟨rfl,p',hB2,hR2,by omega⟩
    . rintro c st2 ⟨rfl,p',hB2,hR2,e⟩
      refine QG (h st2 hB2.perm hB2.failed ?_)
      obtain⟨r,er⟩:∃r,p'.toList=[r]:=List.length_eq_one_iff.mp (by rw[QF];exact e)
      rw[er]at hR2
      obtain⟨r1,r2,r3,r4⟩:=hR2
      have r4:0+r.2.1=a₀.size:=r4
      rw[r4]at r3
      exact r3
end
end TS
namespace Sp
open PySem PySem.Spec PyProof.Rows L2
open PySem.W (KatLex KatTups kat_kind kat_lt)
variable{b ks ns t:List Int}{h:Heap}{v:V}{a:Addr}{vs:List V}{ix k n:Nat}{ow ow':Ow}{H H':Hp}{σ:L2.St}{ρ ρ1:ac}{x:Str}{d:D}{Φ:Fx}{sc:Scope}{ap ap1 ap2 cp cp1 cp2 lp p p1 p4 pos r1 r2:Pos}{ds:List D}{K:W.Frag}{l:List (List Int)}{N j key o:Int}{o':HO}{ls:List (List (List Int))}{kvs:List (aP×V)}{c e e1 e2 tg:Expr}{f:Int->Int->Int}{ss:List Stmt}{st:Stmt}{P:Program}{w:World}{pins:List (Addr×Obj)}{s:Shared}{es:List Expr}{X:Cx}
theorem gZ:∀a:List Int,HT.lexLt a a=false
 | []=>rfl
 | x::xs=>by rw[HT.lexLt_cons,if_pos rfl,gZ xs]
theorem iL:∀a b c:List Int,HT.lexLt a b=true->HT.lexLt b c=true->HT.lexLt a c=true
 | [],[],c,h,_=>by cases h
 | [],y::ys,[],_,h=>by cases h
 | [],y::ys,z::zs,_,_=>rfl
 | x::xs,[],c,h,_=>by cases h
 | x::xs,y::ys,[],_,h=>by cases h
 | x::xs,y::ys,z::zs,h1,h2=>by
  rw[HT.lexLt_cons]at h1 h2⊢
  by_cases e1:x=y
  ·rw[if_pos e1]at h1
   by_cases e2:y=z
   ·rw[if_pos e2]at h2
    rw[if_pos (e1.trans e2)]
    exact iL xs ys zs h1 h2
   ·rw[if_neg e2]at h2
    rw[if_neg (e1 ▸ e2),e1];exact h2
  ·rw[if_neg e1,Rj]at h1
   by_cases e2:y=z
   ·rw[if_neg (fun e=>e1 (e.trans e2.symm)),Rj];omega
   ·rw[if_neg e2,Rj]at h2
    rw[if_neg (by omega),Rj];omega
theorem vN:∀a b c:List Int,HT.lexLt a c=true->HT.lexLt a b=true\/HT.lexLt b c=true
 | [],b,[],h=>by cases h
 | x::xs,b,[],h=>by cases h
 | [],[],z::zs,_=>.inr rfl
 | [],y::ys,z::zs,_=>.inl rfl
 | x::xs,[],z::zs,_=>.inr rfl
 | x::xs,y::ys,z::zs,h=>by
  rw[HT.lexLt_cons]at h⊢
  rw[HT.lexLt_cons y z]
  by_cases e:x=z
  ·rw[if_pos e]at h
   by_cases e1:x=y
   ·rw[if_pos e1,if_pos (e1 ▸ e)];exact vN xs ys zs h
   ·rw[if_neg e1,if_neg (fun q=>e1 (e.trans q.symm)),Rj,Rj];omega
  ·rw[if_neg e,Rj]at h
   by_cases e1:x=y
   ·right;rw[if_neg (by omega),Rj];omega
   ·rw[if_neg e1]
    by_cases e2:y=z
    ·left;rw[Rj];omega
    ·rw[if_neg e2,Rj,Rj];omega
theorem mP:∀a b:List Int,HT.lexLt a b=false->HT.lexLt b a=false->a=b
 | [],[],_,_=>rfl
 | [],y::ys,h,_=>by cases h
 | x::xs,[],_,h=>by cases h
 | x::xs,y::ys,h1,h2=>by
  rw[HT.lexLt_cons]at h1 h2
  by_cases e:x=y
  ·rw[if_pos e]at h1
   rw[if_pos e.symm]at h2
   rw[e,mP xs ys h1 h2]
  ·rw[if_neg e,Sb]at h1
   rw[if_neg (RT e),Sb]at h2
   omega
noncomputable def jK:KeyOrd:=⟨List Int,HT.lexLt,gZ,iL,vN,mP⟩
noncomputable def qd(x:List Int):List (List Int)->List (List Int)
 | []=>[x]
 | y::l=>if HT.lexLt y x=true then y::qd x l else x::y::l
noncomputable def aM:List (List Int)->List (List Int)
 | []=>[]
 | x::l=>qd x (aM l)
theorem lj(x:List Int):∀l,(qd x l).Perm (x::l)
 | []=>List.Perm.refl _
 | y::l=>by
  rw[qd]
  split
  ·exact((lj x l).cons y).trans (List.Perm.swap x y l)
  ·exact List.Perm.refl _
theorem bz:∀l,(aM l).Perm l
 | []=>List.Perm.refl _
 | x::l=>(lj x _).trans ((bz l).cons x)
noncomputable abbrev jZ(a b:List Int):Prop:=HT.lexLt b a=false
theorem yL{a c:List Int}(h1:jZ a b)(h2:jZ b c):jZ a c:=Ri (O:=jK) h1 h2
theorem tH(x:List Int):∀{l},l.Pairwise jZ->(qd x l).Pairwise jZ
 | [],_=>List.pairwise_singleton _ _
 | y::l,h=>by
  rw[qd]
  obtain⟨h1,h2⟩:=RB.mp h
  split
  ·rename_i e
   refine RB.mpr ⟨fun z hz=>?_,tH x h2⟩
   rcases QD.mp ((lj x l).mem_iff.mp hz)with rfl|hz
   ·exact RJ (O:=jK) e
   ·exact h1 z hz
  ·rename_i e
   have e:jZ x y:=by simpa using e
   exact RB.mpr ⟨fun z hz=>by
    rcases QD.mp hz with rfl|hz
    ·exact e
    ·exact yL e (h1 z hz),h⟩
theorem jG:∀l,(aM l).Pairwise jZ
 | []=>List.Pairwise.nil
 | x::l=>tH x (jG l)
theorem kB:∀{a b:List (List Int)},a.Perm b->a.Pairwise jZ->b.Pairwise jZ->a=b
 | [],b,p,_,_=>by rw[List.nil_perm.mp p]
 | x::a,[],p,_,_=>by have:=p.length_eq;cases this
 | x::a,y::b,p,ha,hb=>by
  obtain⟨a1,a2⟩:=RB.mp ha
  obtain⟨b1,b2⟩:=RB.mp hb
  have e:x=y:=by
   rcases QD.mp (p.mem_iff.mp Qy)with z|z
   ·exact z
   ·rcases QD.mp (p.symm.mem_iff.mp Qy)with w|w
    ·exact w.symm
    ·exact KeyOrd.kle_antisymm (O:=jK) (a1 y w) (b1 x z)
  subst e
  rw[kB p.cons_inv a2 b2]
noncomputable def eL(h:Heap)(v:Value):List Int:=match v with
 | .ref b=>(match h.get? b with
  | some o=>(match o.data with | .seq its _=>its.toList.map numOf|_=>[])
  | none=>[])
 | _=>[]
noncomputable def fx(h:Heap)(v:Value)(ns:List Int):Prop:=∃b o its m,v=.ref b/\h.get? b=some o/\o.cls=.type "tuple" /\ o.data=.seq its m/\aD (ns.map V.int) its.toList/\ns≠[]
theorem qE:∀{ns:List Int} {us:List Value},aD (ns.map V.int) us->us.map numOf=ns
 | [],_,.nil=>rfl
 | n::ns,_,.cons r t=>by
  obtain⟨k,rfl⟩:=r
  rw[QU,qE t];rfl
theorem fx.kv{v:Value}(t:fx h v ns):eL h v=ns:=by
 obtain⟨b,o,its,m,rfl,ho,_,hd,hv,_⟩:=t
 unfold eL
 dsimp only
 rw[ho]
 dsimp only
 rw[hd]
 exact qE hv
theorem fx.mono{h':Heap}{v:Value}(k:∀b o,o.cls=.type "tuple" -> h.get? b=some o->h'.get? b=some o)(t:fx h v ns):fx h' v ns:=by
 obtain⟨b,o,its,m,e,ho,hc,r⟩:=t
 exact⟨b,o,its,m,e,k b o hc ho,hc,r⟩
theorem vQ{h:Heap}:∀{vs:List Value},(∀v∈vs,∃ns,fx h v ns)->∃fs,KatTups h vs fs/\fs.length=vs.length/\∀v∈fs,∃n t,v=Value.int n t
 | [],_=>⟨[],trivial,rfl,fun v hv=>by cases hv⟩
 | v::vs,ht=>by
  obtain⟨fs,h1,h2,h3⟩:=vQ fun v hv=>ht v (Qz _ hv)
  obtain⟨ns,b,o,its,m,rfl,ho,hc,hd,hv,hn⟩:=ht v Qy
  cases ns with
  | nil=>exact absurd rfl hn
  | cons n ns =>
   obtain⟨i0⟩:=its
   cases hv with
   | cons q1 q2 =>
    obtain⟨t,rfl⟩:=q1
    exact⟨.int n t::fs,W.KatTups.cons ho hc hd rfl h1,by rw[QP,QP,h2],fun v hv=>by
     rcases QD.mp hv with rfl|hv
     ·exact⟨n,t,rfl⟩
     ·exact h3 v hv⟩
section
variable{prog:Program}{A:Around}{E:Value->Shared->Prop}
theorem Bg{b:Bool}{U:List Keyed}(hU:∀x∈U,∃ns,fx s.heap x.1 ns):TS.Lts (O:=jK) (fun x=>eL s.heap x.1) (model prog w) A E s (tuples' b) U:=by
 intro x hx y hy st Q hk h
 obtain⟨ns,tx⟩:=hU x hx
 obtain⟨ms,ty⟩:=hU y hy
 have e1:=tx.kv
 have e2:=ty.kv
 obtain⟨bx,ox,ix,mx,ex,hox,hcx,hdx,hvx,_⟩:=tx
 obtain⟨by',oy,iy,my,ey,hoy,hcy,hdy,hvy,_⟩:=ty
 rw[lt'_eq]
 refine QB (wpS_get ?_)
 rw[hk,ex,ey]
 refine QB (wpS_lift (wpAny_attempt (kat_lt hox hdx hoy hdy (sW ns ms _ _ 0 hvx hvy ⟨rfl,?_⟩))))
 have l1:ns.length=ix.size:=by simpa using hvx.length
 have l2:ms.length=iy.size:=by simpa using hvy.length
 rw[<- l1,<- l2,yz]
 replace h:Q (some (HT.lexLt (eL s.heap x.1) (eL s.heap y.1))) st:=h
 rw[e1,e2]at h
 exact QG h
theorem qc{vs:List Value}{P:PySem.Fin->Shared->Prop}(ho:s.heap.get? a=some (seqObj "list" vs.toArray n))(h2:2<=vs.length)(hz:vs.length<=sizeLine)(ht:∀v∈vs,∃ns,fx s.heap v ns)
  (h:∀out:Array Value,out.toList.Perm vs->out.toList.Pairwise (fun u v=>jZ (eL s.heap u) (eL s.heap v))->P (.done (.ret .none)) { s with heap:=sortedHeap s.heap a vs out }):wpAny (model prog w) A (Builtin.«list.sort» ⟨[.ref a],[]⟩) P E s:=by
 rw[list_sort_plain]
 have ha:a<s.heap.objs.size:=QE ho
 refine Qx (listItems_at ho rfl ?_)
 refine Qx (listUpdate_at ho rfl ?_ (by rw[QV];exact hz) (QN _))
 obtain⟨e1,ho1⟩:∃e1,(s.heap.update a (Obj.mapSeq fun _ => #[])).get? a=some (seqObj "list" #[] e1):=⟨_,get?_update_seq ho fun _ => #[]⟩
 refine Qx (seqEpoch_at ho1 rfl ?_)
 refine Qx (wpAny_newTuple ?_ (by show vs.length<=_;exact hz))
 refine Qx (wpAny_newList ?_ (QN _))
 refine Sa ?_
 have sz1:(s.heap.update a (Obj.mapSeq fun _=>(#[]:Array Value))).objs.size=s.heap.objs.size:=Heap.size_update _ _ _
 have ke:∀b o,b≠a->s.heap.get? b=some o->(((s.heap.update a (Obj.mapSeq fun _ => #[])).push (seqObj "tuple" vs.toArray 0)).push (seqObj "list" #[] 0)).get? b=some o:=fun b o hb e=>by
  refine Qw _ (Qw _ ?_)
  rw[Heap.get?_update_ne _ _ _ _ hb];exact e
 have ho6:(((s.heap.update a (Obj.mapSeq fun _ => #[])).push (seqObj "tuple" vs.toArray 0)).push (seqObj "list" #[] 0)).get? a=some (seqObj "list" #[] e1):=Qw _ (Qw _ ho1)
 have kt:∀b o,o.cls=.type "tuple" -> s.heap.get? b=some o->(((s.heap.update a (Obj.mapSeq fun _ => #[])).push (seqObj "tuple" vs.toArray 0)).push (seqObj "list" #[] 0)).get? b=some o:=fun b o hc e=>ke b o (fun z=>by
  subst z;rw[ho]at e;cases e;injection hc with hc;exact absurd hc (by decide)) e
 show wpAny (model prog w) A _ P E { s with heap:=((s.heap.update a (Obj.mapSeq fun _ => #[])).push (seqObj "tuple" vs.toArray 0)).push (seqObj "list" #[] 0) }
 dsimp only
 have hf:∀out,sortedHeap s.heap a vs out=(((s.heap.update a (Obj.mapSeq fun _ => #[])).push (seqObj "tuple" vs.toArray 0)).push (seqObj "list" #[] 0)).update a (Obj.mapSeq fun _=>out):=fun out=>rfl
 generalize ((s.heap.update a (Obj.mapSeq fun _ => #[])).push (seqObj "tuple" vs.toArray 0)).push (seqObj "list" #[] 0)=h6 at *
 have ht6:∀v∈vs,fx h6 v (eL s.heap v):=fun v hv=>by
  obtain⟨ns,t⟩:=ht v hv
  rw[t.kv];exact t.mono kt
 have kv6:∀v∈vs,eL h6 v=eL s.heap v:=fun v hv=>(ht6 v hv).kv
 have hn2:¬ vs.toArray.size<2:=by rw[QV];omega
 rw[if_neg hn2,if_neg hn2]
 obtain⟨fs,k1,k2,k3⟩:=vQ (h:=h6) (vs:=vs) fun v hv=>⟨_,ht6 v hv⟩
 refine Qx (kat_kind (T:=.type "int") (s:={ s with heap:=h6 }) k1 (by omega) (fun v hv=>?_) rfl ?_)
 ·obtain⟨n,t,rfl⟩:=k3 v hv
  exact W.Looks.of_pure rfl
 have mz:∀x∈(pairsOf vs).toList,x.1=x.2/\x.1∈vs:=fun x hx=>mem_zip_self (by rw[<- pairsOf_toList];exact hx)
 refine Qx (RQ (TS.runs_ok (O:=jK) (ky:=fun x=>eL h6 x.1) (s:={ s with heap:=h6 }) (a₀:=pairsOf vs) (kd:=tuples' (Value.type "int" != Value.type "tuple")) (st:=SortSt.mk' (tuples' (Value.type "int" != Value.type "tuple")) (vs.toArray.zip vs.toArray) #[] 7 none)
  (Q:=fun _ st'=>(arrOf st').Perm (pairsOf vs)/\failedOf st'=none/\TS.Seg (O:=jK) (fun x=>eL h6 x.1) (arrOf st') 0 (pairsOf vs).size)
  (Bg (s:={ s with heap:=h6 }) fun x hx=>⟨_,ht6 _ (mz x hx).2⟩) ⟨Array.Perm.refl _,rfl,rfl,rfl⟩ (by rw[pairsOf_size];omega) fun st' a1 a2 a3=>⟨a1,a2,a3⟩) ?_ fun _ _ e=>e)
 rintro⟨⟨⟩,st'⟩ s' ⟨rfl,hp,hfl,hs⟩
 dsimp only
 have hl:(arrOf st').toList.Perm (vs.zip vs):=by rw[<- pairsOf_toList];exact Array.perm_iff_toList_perm.mp hp
 have hm:∀x∈(arrOf st').toList,x.1=x.2/\x.1∈vs:=fun x hx=>mem_zip_self (hl.mem_iff.mp hx)
 refine Qx (seqEpoch_at ho6 rfl ?_)
 refine Qx (listUpdate_at ho6 rfl ?_ (QN _) (by refine QR (Nat.le_of_eq ((SX ..).trans (hp.size_eq.trans (pairsOf_size _)))) (Nat.le_succ_of_le hz)))
 rw[hfl]
 simp only[bne_self_eq_false,Ro,S5]
 refine QL ?_
 have:=h ((arrOf st').map (·.2)) ?_ ?_
 ·rw[hf]at this;exact this
 ·rw[Array.toList_map]
  have:=hl.map Prod.snd
  rw[List.map_snd_zip (QA _)]at this
  exact this
 ·rw[Array.toList_map,SJ,List.pairwise_iff_getElem]
  intro i j hi hj hij
  have hi':i<(arrOf st').size:=by simpa using hi
  have hj':j<(arrOf st').size:=by simpa using hj
  replace hs:TS.Seg (O:=jK) (fun x=>eL h6 x.1) (arrOf st') 0 (pairsOf vs).size:=hs
  have q:=hs i j (QN _) (RZ hij) (by rw[<- hp.size_eq];exact hj')
  rw[TS.kA_at (O:=jK) (ky:=fun x=>eL h6 x.1) hi',TS.kA_at (O:=jK) (ky:=fun x=>eL h6 x.1) hj']at q
  obtain⟨m1,m2⟩:=hm _ (RD hi')
  obtain⟨m3,m4⟩:=hm _ (RD hj')
  rw[R7,R7,<- m1,<- m3,<- kv6 _ m2,<- kv6 _ m4]
  exact q
theorem uK{l:Addr}{vs:List Value}{Q:Value->Shared->Prop}(hl:s.heap.IsList l vs.toArray)(h2:2<=vs.length)(hz:vs.length<=sizeLine)(ht:∀v∈vs,∃ns,fx s.heap v ns)
  (h:∀out:Array Value,out.toList.Perm vs->out.toList.Pairwise (fun u v=>jZ (eL s.heap u) (eL s.heap v))->Q (.ref (s.heap.objs.size+1)) { s with heap:=sortedAll s.heap vs out }):wpAny (model prog w) A (call (.builtin "sorted") [.ref l]) Q E s:=by
 refine Calls.call_function_entry kind_sorted plain_sorted entry_sorted (args_sorted1 _) ?_
 unfold Builtin.«sorted»
 refine Qx (m:=checkCount "sorted" 1 1 _) (QL ?_)
 refine Qx (collect_list hl ?_ hz)
 refine Qx (wpAny_newList ?_ hz)
 have hsz:((s.heap.push (seqObj "list" #[] 0)).update s.heap.objs.size (Obj.mapSeq (· ++ vs.toArray))).objs.size=s.heap.objs.size+1:=by
  rw[Heap.size_update,size_push']
 have hoL:(((s.heap.push (seqObj "list" #[] 0)).update s.heap.objs.size (Obj.mapSeq (· ++ vs.toArray))).push (seqObj "list" vs.toArray 0)).get? (s.heap.objs.size+1)=some (seqObj "list" vs.toArray 0):=by
  rw[<- hsz];exact QJ _ rfl
 have ke:∀b o,s.heap.get? b=some o->(((s.heap.push (seqObj "list" #[] 0)).update s.heap.objs.size (Obj.mapSeq (· ++ vs.toArray))).push (seqObj "list" vs.toArray 0)).get? b=some o:=fun b o e=>by
  have hlt:b<s.heap.objs.size:=QE e
  refine Qw _ ?_
  rw[Heap.get?_update_ne _ _ _ _ (QZ hlt)]
  exact Qw _ e
 have sA:∀out,sortedAll s.heap vs out=sortedHeap (((s.heap.push (seqObj "list" #[] 0)).update s.heap.objs.size (Obj.mapSeq (· ++ vs.toArray))).push (seqObj "list" vs.toArray 0)) (s.heap.objs.size+1) vs out:=fun _=>rfl
 show wpAny _ _ _ _ _ { s with heap:=((s.heap.push (seqObj "list" #[] 0)).update s.heap.objs.size (Obj.mapSeq (· ++ vs.toArray))).push (seqObj "list" vs.toArray 0) }
 rw[hsz]
 generalize ((s.heap.push (seqObj "list" #[] 0)).update s.heap.objs.size (Obj.mapSeq (· ++ vs.toArray))).push (seqObj "list" vs.toArray 0)=h5 at *
 have t5:∀v∈vs,fx h5 v (eL s.heap v):=fun v hv=>by
  obtain⟨ns,t⟩:=ht v hv
  rw[t.kv];exact t.mono fun b o _ e=>ke b o e
 refine Qx (Sa (SQ slot_list_sort ⟨_,hoL,rfl⟩ entry_list_sort (qc (s:={ s with heap:=h5 }) hoL h2 hz (fun v hv=>⟨_,t5 v hv⟩) fun out p1 p2=>⟨_,rfl,?_⟩) (args_list_sort _)))
 refine QL ⟨_,rfl,?_⟩
 have:=h out p1 (p2.imp_of_mem fun {u v} hu hv q=>by
  rw[<- (t5 u (p1.mem_iff.mp hu)).kv,<- (t5 v (p1.mem_iff.mp hv)).kv];exact q)
 rw[sA]at this
 exact this
end
noncomputable abbrev ax(ns:List Int):D:=.tup (ns.map D.int)
noncomputable def u7:Value->V
 | .ref b=>.ref b
 | _=>.non
theorem nV{pins:List (Addr×Obj)}{σ:L2.St}{H:Hp}{s:Shared}(I:aj X pins σ H s):∀{ts:List V} {nss:List (List Int)} {its:List Value},bD X.K H ts nss->aD ts its->its.map (eL s.heap)=nss/\∀v∈its,∃b ns,v=.ref b/\fx s.heap v ns/\aZ X.K H b (ns.map V.int)
 | [],[],its,h,r=>by cases r;exact⟨rfl,fun v hv=>by cases hv⟩
 | v::ts,ns::nss,its,h,r=>by
  cases r with
  | cons r1 r2 =>
   obtain⟨h1,h2⟩:=nV I h.2 r2
   obtain⟨a,rfl,hq,hn⟩:=h.1
   cases r1
   obtain⟨jts,rv,⟨o,ho,hc,m,hd⟩,hz⟩:=I.tuple hq
   have t:fx s.heap (.ref a) ns:=⟨a,o,jts.toArray,m,rfl,ho,hc,hd,rv,hn⟩
   refine⟨by rw[QU,h1,t.kv],fun v hv=>?_⟩
   rcases QD.mp hv with rfl|hv
   ·exact⟨a,ns,rfl,t,hq⟩
   ·exact h2 v hv
 | [],_::_,_,h,_=>h.elim
 | _::_,[],_,h,_=>h.elim
theorem qG{K:W.Frag}{H:Hp}{h:Heap}:∀{us:List Value},(∀v∈us,∃b ns,v=.ref b/\fx h v ns/\aZ K H b (ns.map V.int))->bD K H (us.map u7) (us.map (eL h))/\aD (us.map u7) us
 | [],_=>⟨trivial,.nil⟩
 | v::us,hu=>by
  obtain⟨h1,h2⟩:=qG (us:=us) fun v hv=>hu v (Qz _ hv)
  obtain⟨b,ns,rfl,t,hq⟩:=hu v Qy
  have e:=t.kv
  obtain⟨_,_,_,_,_,_,_,_,_,hn⟩:=t
  exact⟨⟨⟨b,rfl,by rw[e];exact hq,by rw[e];exact hn⟩,h1⟩,.cons rfl h2⟩
theorem t9:e6 X (.builtin "sorted") (fun xs H Q => ∃(p:Addr) (ts:List V) (nss:List (List Int)),xs=[.ref p]/\ci X.K H p ts/\bD X.K H ts nss/\2<=ts.length/\∀D bs,H D=none->bD X.K H bs (aM nss)->Q (.ref D) (aF H D (.lst bs))):=by
 intro pins s σ H xs us Q I r h
 obtain⟨p,ts,nss,rfl,hq,ht,h2,q⟩:=h
 obtain⟨u,rfl,rx⟩:=iC r
 cases rx
 obtain⟨its,rv,pl,hz⟩:=I.list hq
 have el:its.length=ts.length:=rv.length.symm
 obtain⟨t1,t2⟩:=nV I ht rv
 refine uK pl.isList (by omega) (by omega) (fun v hv=>by obtain⟨b,ns,_,t,_⟩:=t2 v hv;exact⟨ns,t⟩) fun out p1 p2=>?_
 obtain⟨b1,b2⟩:=qG (K:=X.K) (H:=H) (h:=s.heap) (us:=out.toList) fun v hv=>t2 v (p1.mem_iff.mp hv)
 have ek:out.toList.map (eL s.heap)=aM nss:=kB ((by rw[<- t1];exact p1.map _:(out.toList.map (eL s.heap)).Perm nss).trans (bz nss).symm) (SJ.mpr p2) (jG nss)
 rw[ek]at b1
 have ob0:out.toList.length=ts.length:=p1.length_eq.trans el
 obtain⟨hp,gs,dr,tk,os⟩:=s
 obtain⟨m,S3⟩:=sortedAll_at hp its out
 have kk:∀b o,hp.get? b=some o->(sortedAll hp its out).get? b=some o:=fun b o e=>sortedAll_old e
 dsimp only
 generalize sortedAll hp its out=h3 at *
 have fr:∀j:Nat,H (hp.objs.size+j)=none:=fun j=>I.hok.fresh (RO _ _)
 generalize hn':hp.objs.size=n at *
 have hk0:dM X.prog X.w H h3:=I.hok.kept kk
 have ob:aV X.prog X.w (aF H (n+1) (.lst (out.toList.map u7))) h3 (n+1) (.lst (out.toList.map u7)):=⟨by rw[QC,ob0];exact hz,out.toList,m,b2,by rw[Array.toArray_toList];exact S3⟩
 have hk1:=Br hk0 (fr 1) ob
 have old:∀c:Nat,c<n->aF H (n+1) (.lst (out.toList.map u7)) c=H c:=fun c hc=>by rw[aq (by show(c:Nat)≠n+1;omega)]
 have inn:∀(c:Nat) o,H c=some o->c<n:=fun c o e=>by
  rcases Nat.lt_or_ge c n with z|z
  ·exact z
  ·have:=fr (c-n);rw[Nat.add_sub_cancel' z]at this;rw[this]at e;cases e
 have I4:aj X pins σ (aF H (n+1) (.lst (out.toList.map u7))) ⟨h3,gs,dr,tk,os⟩:=I.un (t':=tk) (Dp kk (fun c hc=>old c (by rw[<- hn'];exact hc)) fun c o e=>by rw[hn'];exact inn c o e) hk1
 exact⟨.ref (n+1),_,I4,rfl,q (n+1) _ (fr 1) b1⟩
noncomputable def dX(ds:List D):R1 :=
 match ds with
 | [.lst l]=>(match cZ l with
  | some nss=>.ok (.lst ((aM nss).map ax),0) [2<=l.length]
  | none=>.st)
 | _=>.st
theorem gx{K:W.Frag}{P:ba}{H:Hp}:∀{bs:List V} {nss:List (List Int)},bD K H bs nss->ah K H P (nss.map ax) bs
 | [],[],_=>ah.nil
 | v::bs,ns::nss,h=>by
  obtain⟨a,rfl,hq,_⟩:=h.1
  exact ah.cons (by rw[ae];exact⟨a,_,rfl,hq,ah.ofInts⟩) (gx h.2)
 | [],_::_,h=>h.elim
 | _::_,[],h=>h.elim
theorem bD.same{K:W.Frag}{H H':Hp}(s:au H H'):∀{bs:List V} {nss:List (List Int)},bD K H bs nss->bD K H' bs nss
 | [],[],_=>trivial
 | v::bs,ns::nss,h=>by
  obtain⟨a,e,hq,hn⟩:=h.1
  refine⟨⟨a,e,?_,hn⟩,bD.same s h.2⟩
  rcases hq with(h|⟨o,h⟩)|h
  ·exact .inl (.inl (s _ _ h))
  ·exact .inl (.inr ⟨o,s _ _ h⟩)
  ·exact .inr h
 | [],_::_,h=>h.elim
 | _::_,[],h=>h.elim
theorem zP:gT "sorted" dX:=by
 refine⟨by decide +kernel,by decide +kernel,by decide +kernel,rfl,fun X ds z l o hc h hp=>.inl ⟨"sorted", by decide +kernel,?_⟩⟩
 unfold dX at h
 split at h
 ·split at h
  ·rename_i m _ nss e
   cases h
   obtain⟨p1,_⟩:=hp
   refine⟨_,t9,fun ow H0 H2 vs P Q o s rx q=>?_⟩
   obtain⟨v,rfl,ry⟩:=rx.only
   obtain⟨a,ws,rfl,hs,rl⟩:=jH ry
   obtain⟨t1,t2⟩:=hJ e rl
   have hl:=rl.length
   refine⟨a,ws,nss,rfl,hs,t1,by omega,fun D bs hD hT=>q _ _ (cJ hD) ?_⟩
   rw[ae]
   exact⟨D,bs,true,rfl,aC,⟨rfl,s.free hD⟩,gx (hT.same (cJ hD))⟩
  ·cases h
 ·cases h
theorem yo:wf X "dict.setdefault" (fun x xs H Q => ∃p kvs k v,x=.ref p/\xs=[kV k,v]/\H p=some (.dK kvs)/\kvs.length<sizeLine/\(∀u,cU kvs k=some u->Q u H)/\(cU kvs k=none->Q v (aF H p (.dK (fb kvs k v))))):=by
 intro pins s σ H x xs v us Q I rx rxs h
 obtain⟨p,kvs,k,dv,rfl,rfl,hp,hz,q1,q2⟩:=h
 cases rx
 obtain⟨u1,u2,rfl,r1,r2⟩:=aD.two rxs
 obtain⟨z,hd,vs,bR,dd⟩:=(show aV X.prog X.w H s.heap p (.dK kvs)from I.hok p _ hp)
 have hz':vs.length<=sizeLine:=by rw[<- bR.length];exact z
 have hl:(fb kvs k dv).length<=sizeLine:=by have:=nJ kvs k dv;omega
 have rv:=bR.val k
 refine call_meetsIn PySem.F.slot_dict_setdefault dd.typeIs PySem.F.entry_dict_setdefault (PySem.F.args_dict_setdefault_3 _ _ _) (kt_meets_setdefault _ p (gR r1) hd u2) ⟨vs,dd,hz',fun w hw=>?_,fun hn h' dd' hs=>?_⟩
 ·rw[hw]at rv
  cases e:cU kvs k with
  | none=>rw[e]at rv;exact rv.elim
  | some u=>rw[e]at rv;exact⟨u,H,I.tok _,rv,q1 u e⟩
 ·rw[hn]at rv
  cases e:cU kvs k with
  | some u=>rw[e]at rv;exact rv.elim
  | none =>
   have he:∃q,h'.get? p=some q:=let ⟨q,_,_,hq,_⟩:=dd';⟨q,hq⟩
   exact⟨dv,_,I.write (x:=p) (e:=p) (by rw[hp];exact True.intro) (.inl rfl) (fun b q hb z=>(hs.2 b hb).trans z) he (show aV X.prog X.w (aF H p (.dK (fb kvs k dv))) h' p (.dK (fb kvs k dv))from⟨hl,hd,_,bR.put k r2,dd'⟩),r2,q2 e⟩
noncomputable def Sh(ρ:ac):Prop:=∀x d o,ρ x=some (d,o)->o=false
theorem f7(hs:Sh ρ)(E:aH X ow H σ ρ)(k:aG ow H ow' H')(o:cP ow' H'):aH X ow' H' σ ρ :=
 ⟨fun x d o h=>by
  cases hs x d o h
  obtain⟨i,v,e1,e2,e3,e4⟩:=E.get x d false h
  exact⟨i,v,e1,e2,e3,e4.mono ⟨fun a o ha hn=>k.keep a o ha (.inl hn),fun a o ha p=>k.keep a o ha (.inr (p rfl)),fun a o ha p _=>k.low a o ha (p rfl),fun a p z=>by cases z⟩⟩,o⟩
noncomputable abbrev GJ:=Ow->L2.St->Hp->Prop
noncomputable def tX(X:Cx)(H0:Hp)(ρ:ac)(J:GJ)(ρ':ac)(J':GJ):TS:=fun D σ H => ∃ow,aH X ow H σ ρ/\σ.length=X.N.length/\cj H0 ow H/\J ow σ H/\∀ow' σ' H',aH X ow' H' σ' ρ'->σ'.length=X.N.length->aG ow H ow' H'->J' ow' σ' H'->D.nx σ' H'
theorem kE(h:Sh ρ):Sh (aI ρ x (d,false)):=fun y e o hy=>by
 rw[bm]at hy
 by_cases z:y=x
 ·rw[if_pos z]at hy;cases hy;rfl
 ·rw[if_neg z]at hy;exact h y e o hy
theorem oF{H0:Hp}{px:Pos}{iter:Expr}{body:List Stmt}{Jn:Nat->GJ}(G:aK Φ X sc)(hp:PassesOwn (model X.prog X.w) X.A X.env X.xe)(hx:cq sc x=true)
  (hi:IE X ρ (.Name x px) iter ds k) (hk:k<=1) (hll:ao ds=true) (hstep:∀i d,ds[i]?=some d->dZ X body (tX X H0 (aI ρ x (d,false)) (Jn i) ρ (Jn (i+1))))
  (hJs:∀i ow σ H H',au H H'->Jn i ow σ H->Jn i ow σ H') (hJx:∀i ow σ H v j,X.N[j]?=some x->Jn i ow σ H->Jn i ow (σ.set j (some v)) H) (hs:∀x,foldedSetIterable iter X.env x=pure x):PS X (.For (.Name x px) iter body [] pos) (tX X H0 ρ (Jn 0) ρ (Jn ds.length)):=by
 intro pins s σ H D0 I ⟨ow,E,hl,B,j0,q⟩
 obtain⟨g1,g2,g3,ix,g4⟩:=ff G hx
 have pb:dZ X body (fun D σ H => ∃i d,ds[i]?=some d/\tX X H0 (aI ρ x (d,false)) (Jn i) ρ (Jn (i+1)) D σ H):=fun pins s σ H D I ⟨i,d,h1,h2⟩=>hstep i d h1 pins s σ H D I h2
 refine sE hp G.calm (hi ow) (gY (i:=ix) G.nd g4 g1 g3) pb hs pins s σ H D0 I ⟨E,fun J H1 s1 itd=>?_⟩
 refine⟨fun i m σ' H'=>m=ds.length-i/\i<=ds.length/\∃ow',aH X ow' H' σ' ρ/\σ'.length=X.N.length/\cj H0 ow' H'/\aG ow H1 ow' H'/\Jn i ow' σ' H',
  ⟨ds.length,by simp,QN _,ow,E.same s1,hl,B.keep (aG.same s1),aG.refl _ _,hJs _ _ _ _ _ s1 j0⟩,?_⟩
 rintro i m σ' H' ⟨rfl,hile,ow',E',hl',B',k',jf⟩
 have st:dJ (Kd ow H k H1) (Kd ow H k H1) H1 H':=⟨fun a o ha hn=>k'.keep a o ha (.inl hn),fun a vs ha p=>k'.keep a _ ha (.inr (eQ E.own hk p.1)),fun _ _ _ p=>p,fun _ p=>p⟩
 have it:=itd i H' st
 by_cases hlt:i<ds.length
 ·obtain⟨go,yl⟩:=it.1 ds[i] (QS hlt)
  refine .inr ⟨go,fun σ2 H2=>i+1<=ds.length/\∃ow2,aH X ow2 H2 σ2 ρ/\σ2.length=X.N.length/\cj H0 ow2 H2/\aG ow H1 ow2 H2/\Jn (i+1) ow2 σ2 H2,fun σ2 H2 n=>⟨ds.length-(i+1),by omega,rfl,n.1,n.2⟩,fun y H3 y3=>?_⟩
  obtain⟨sm3,rx⟩:=yl y H3 y3
  have li:ds[i].lless=true:=k7 hll (List.getElem_mem hlt)
  have k3:aG ow' H' ow' H3:=aG.same sm3
  exact⟨i,ds[i],QS hlt,ow',d7 G.nd hl' (E'.same sm3) g4 g2 (rx.flat _ li),by rw[Rt];exact hl',B'.keep k3,hJx i ow' σ' H3 y ix g4 (hJs _ _ _ _ _ sm3 jf),fun ow2 σ3 H4 a b c d=>⟨hlt,ow2,a,b,(B'.keep k3).keep c,k'.trans (k3.trans c),d⟩⟩
 ·have ei:i=ds.length:=by omega
  subst ei
  exact .inl ⟨it.2 (QA _),q ow' σ' H' E' hl' ((aG.same s1).trans k') jf⟩
noncomputable def qL(ks:List Int)(k:Int):List Int:=if k∈ks then ks else ks++[k]
noncomputable def i8:List Int->List (List (List Int))->Int->List Int->List (List (List Int))
 | j::ks,l::ls,k,t=>if j=k then(l++[t])::ls else l::i8 ks ls k t
 | _,_,_,t=>[[t]]
noncomputable def fO(K:W.Frag)(ow:Ow)(H:Hp):List (List (List Int))->List V->Prop
 | [],[]=>True
 | l::ls,v::r=>(∃a ts,v=.ref a/\H a=some (.lst ts)/\ow a=some none/\bD K H ts l)/\fO K ow H ls r
 | _,_=>False
theorem fO.length:∀{ls:List (List (List Int))} {vs:List V},fO K ow H ls vs->ls.length=vs.length
 | [],[],_=>rfl
 | l::ls,v::vs,h=>by rw[QP,QP,h.2.length]
 | [],_::_,h=>h.elim
 | _::_,[],h=>h.elim
theorem fO.mem:∀{ls:List (List (List Int))} {vs:List V} {v:V},fO K ow H ls vs->v∈vs->∃a ts,v=.ref a/\H a=some (.lst ts)/\ow a=some none
 | [],[],_,_,m=>by cases m
 | l::ls,u::vs,v,h,m=>by
  rcases QD.mp m with rfl|m
  ·obtain⟨a,ts,e,h1,h2,_⟩:=h.1
   exact⟨a,ts,e,h1,h2⟩
  ·exact h.2.mem m
 | [],_::_,_,h,_=>h.elim
 | _::_,[],_,h,_=>h.elim
theorem fO.keep(kt:∀a vs,aZ K H a vs->aZ K H' a vs):∀{ls:List (List (List Int))} {vs:List V},fO K ow H ls vs->(∀a ts,.ref a∈vs->H a=some (.lst ts)->ow a=some none->H' a=some (.lst ts)/\ow' a=some none)->fO K ow' H' ls vs
 | [],[],_,_=>trivial
 | l::ls,v::vs,h,k=>by
  obtain⟨a,ts,rfl,h1,h2,h3⟩:=h.1
  obtain⟨k1,k2⟩:=k a ts Qy h1 h2
  exact⟨⟨a,ts,rfl,k1,k2,h3.keep kt⟩,h.2.keep kt fun a ts m=>k a ts (Qz _ m)⟩
 | [],_::_,h,_=>h.elim
 | _::_,[],h,_=>h.elim
theorem fO.app:∀{ls:List (List (List Int))} {vs:List V},fO K ow H ls vs->fO K ow H [l] [v]->fO K ow H (ls++[l]) (vs++[v])
 | [],[],_,h=>h
 | m::ls,u::vs,h,g=>⟨h.1,h.2.app g⟩
 | [],_::_,h,_=>h.elim
 | _::_,[],h,_=>h.elim
theorem kq{K:W.Frag}{H:Hp}{ns:List Int}{v:V}:∀{ts:List V} {l:List (List Int)},bD K H ts l->bD K H [v] [ns]->bD K H (ts++[v]) (l++[ns])
 | [],[],_,h=>h
 | u::ts,m::l,h,g=>⟨h.1,kq h.2 g⟩
 | [],_::_,h,_=>h.elim
 | _::_,[],h,_=>h.elim
theorem dE{o:HO}(ha:H a=some o)(ho:¬ nm o){b:Addr}(h:aZ K H b vs):aZ K (aF H a o') b vs:=by
 have ne:∀{u:HO},H b=some u->nm u->b≠a:=fun hb hn z=>by subst z;rw[ha]at hb;cases hb;exact ho hn
 rcases h with(h|⟨p,h⟩)|h
 ·exact .inl (.inl (by rw[aq (ne h True.intro)];exact h))
 ·exact .inl (.inr ⟨p,by rw[aq (ne h True.intro)];exact h⟩)
 ·exact .inr h
theorem rL{k:Int}:∀{ks:List Int},ks.length=vs.length->(cU ((ks.map (Sum.inl:Int->aP)).zip vs) (.inl k)=none↔k∉ks):=by
 intro ks
 induction ks generalizing vs with
 | nil=>intro _;exact⟨fun _=>Q8,fun _=>rfl⟩
 | cons j ks ih =>
  intro h
  cases vs with
  | nil=>cases h
  | cons v vs =>
   rw[QU,Sz]
   by_cases e:j=k
   ·subst e
    rw[eF (by rfl)]
    exact⟨fun z=>(by cases z),fun z=>absurd Qy z⟩
   ·rw[eG (by intro z;injection z with z;exact e z),ih (by simpa using h),QD,not_or]
    exact⟨fun z=>⟨fun y=>e y.symm,z⟩,fun z=>z.2⟩
theorem pS{k:Int}{t:List Int}:∀{ks:List Int} {ls:List (List (List Int))},ks.length=ls.length->k∉ks->i8 ks ls k t=ls++[[t]]
 | [],[],_,_=>rfl
 | j::ks,l::ls,h,n=>by
  rw[QD,not_or]at n
  rw[i8,if_neg (fun e=>n.1 e.symm),pS (by simpa using h) n.2];rfl
 | [],_::_,h,_=>by cases h
 | _::_,[],h,_=>by cases h
theorem vn{K:W.Frag}{ow:Ow}{H:Hp}{k:Int}{ns:List Int}{u w:V}:∀{ks:List Int} {ls:List (List (List Int))} {vs:List V},ks.length=ls.length->fO K ow H ls vs->vs.Nodup->cU ((ks.map (Sum.inl:Int->aP)).zip vs) (.inl k)=some u->bD K H [w] [ns] ->
  ∃a ts,u=.ref a /\ .ref a∈vs/\H a=some (.lst ts)/\ow a=some none/\fO K ow (aF H a (.lst (ts++[w]))) (i8 ks ls k ns) vs/\(i8 ks ls k ns).length=ls.length/\∃l∈ls,ts.length=l.length
 | [],ls,vs,_,_,_,h,_=>by cases h
 | j::ks,[],vs,h,_,_,_,_=>by cases h
 | j::ks,l::ls,[],_,h,_,_,_=>h.elim
 | j::ks,l::ls,v::vs,hl,h,nd,e,hw=>by
  obtain⟨n1,n2⟩:=Sg.mp nd
  rw[QU,Sz]at e
  by_cases hj:j=k
  ·subst hj
   rw[eF (by rfl)]at e
   cases e
   obtain⟨a,ts,rfl,h1,h2,h3⟩:=h.1
   have kt:∀b vs,aZ K H b vs->aZ K (aF H a (.lst (ts++[w]))) b vs:=fun b vs hb=>dE h1 (fun z=>z) hb
   refine⟨a,ts,rfl,Qy,h1,h2,?_,by rw[i8,if_pos rfl];rfl,l,Qy,h3.length⟩
   rw[i8,if_pos rfl]
   exact⟨⟨a,_,rfl,aC,h2,(kq h3 hw).keep kt⟩,h.2.keep kt fun b us m hb ho=>⟨by rw[aq (fun z=>by subst z;exact n1 m)];exact hb,ho⟩⟩
  ·rw[eG (by intro z;injection z with z;exact hj z)]at e
   obtain⟨a,ts,r1,r2,r3,r4,r5,r6,l',r7,r8⟩:=vn (by simpa using hl) h.2 n2 e hw
   refine⟨a,ts,r1,Qz _ r2,r3,r4,?_,by rw[i8,if_neg hj,QP,r6];rfl,l',Qz _ r7,r8⟩
   rw[i8,if_neg hj]
   obtain⟨b,us,rfl,h1,h2,h3⟩:=h.1
   exact⟨⟨b,us,rfl,by rw[aq (fun z=>by subst z;exact n1 r2)];exact h1,h2,h3.keep fun c vs hb=>dE r3 (fun z=>z) hb⟩,r5⟩
theorem sj{K:W.Frag}{ow:Ow}{H:Hp}{k:Int}{u:V}:∀{ks:List Int} {ls:List (List (List Int))} {vs:List V},ks.length=ls.length->fO K ow H ls vs->cU ((ks.map (Sum.inl:Int->aP)).zip vs) (.inl k)=some u ->
  ∃a ts,u=.ref a/\H a=some (.lst ts)/\ow a=some none/\∃l∈ls,ts.length=l.length
 | [],ls,vs,_,_,h=>by cases h
 | j::ks,[],vs,h,_,_=>by cases h
 | j::ks,l::ls,[],_,h,_=>h.elim
 | j::ks,l::ls,v::vs,hl,h,e=>by
  rw[QU,Sz]at e
  by_cases hj:j=k
  ·subst hj
   rw[eF (by rfl)]at e
   cases e
   obtain⟨a,ts,rfl,h1,h2,h3⟩:=h.1
   exact⟨a,ts,rfl,h1,h2,l,Qy,h3.length⟩
  ·rw[eG (by intro z;injection z with z;exact hj z)]at e
   obtain⟨a,ts,r1,r3,r4,l',r7,r8⟩:=sj (by simpa using hl) h.2 e
   exact⟨a,ts,r1,r3,r4,l',Qz _ r7,r8⟩
theorem kC(s:au H H')(h:aZ K H a vs):aZ K H' a vs:=by
 rcases h with(h|⟨o,h⟩)|h
 ·exact .inl (.inl (s _ _ h))
 ·exact .inl (.inr ⟨o,s _ _ h⟩)
 ·exact .inr h
noncomputable def JD(X:Cx)(ix:Nat)(a:Addr)(ks:List Int)(ls:List (List (List Int))):GJ:=fun ow σ H=>σ[ix]?=some (some (.ref a))/\ow a=some none/\ks.length=ls.length/\∃vs,vs.Nodup/\H a=some (.dK ((ks.map Sum.inl).zip vs))/\fO X.K ow H ls vs
theorem JD.same(s:au H H')(h:JD X ix a ks ls ow σ H):JD X ix a ks ls ow σ H':=by
 obtain⟨h1,h2,h3,vs,h4,h5,h6⟩:=h
 refine⟨h1,h2,h3,vs,h4,s _ _ h5,h6.keep (fun b us hb=>?_) fun b ts _ hb ho=>⟨s _ _ hb,ho⟩⟩
 rcases hb with(h|⟨o,h⟩)|h
 ·exact .inl (.inl (s _ _ h))
 ·exact .inl (.inr ⟨o,s _ _ h⟩)
 ·exact .inr h
theorem DU{k:aP}(h:cU kvs k=none):fb kvs k v=kvs++[(k,v)]:=by
 unfold fb
 rw[nU,h];rfl
theorem jc{o:HO}(h:cP ow H):cP ow (aF H a o):=fun b hb=>by
 by_cases z:b=a
 ·subst z;exact⟨_,aC⟩
 ·rw[aq z];exact h b hb
theorem gP{o:HO}(ha:H a=some o)(hn:¬ nm o)(ho:ow a=some none):aG ow H ow (aF H a o'):=⟨fun b u hb c=>by
 rw[aq (fun z=>by
  subst z
  rw[ha]at hb;cases hb
  rcases c with c|c
  ·exact hn c
  ·rw[ho]at c;cases c)]
 exact hb,fun _ _ _ h=>h⟩
theorem Gk{H0:Hp}(hx:X.N[ix]?=some x)(hv:fj X.env.scope x)(hn:dw x=true)(hsh:Sh ρ)
  (he1:ED X ρ e1 (.int key) 0) (he2:AD X ρ [e2] [ax ns] 0) (hns:ns≠[]) (hs1:∀y p,e1 ≠ .Starred y p) (hs2:∀y p,e2 ≠ .Starred y p) (hl1:(ap1.endLine==cp1.line)=true) (hl2:(ap2.endLine==cp2.line)=true) (hz:ks.length<bJ) (hb:∀l∈ls,l.length<bJ) :
  PS X (.Expr (.Call (.Attribute (.Call (.Attribute (.Name x p1) "setdefault" ap1) [e1,.List [] lp] [] cp1) "append" ap2) [e2] [] cp2) p4) (tX X H0 ρ (JD X ix a ks ls) ρ (JD X ix a (qL ks key) (i8 ks ls key ns))):=by
 intro pins s σ H D I ⟨ow,E,hl,B,⟨j1,j2,j3,vs,j4,j5,j6⟩,q⟩
 have pn:PE X (.Name x p1) (jC ix):=fF hx hv (bX hn).1 (bX hn).2
 have nl:∀y p,(Expr.List [] lp) ≠ .Starred y p:=fun y p z=>nomatch z
 have args1:AD X ρ [e1,.List [] lp] [.int key,.lst []] 0:=ge he1 (ge (ql ir (QN _) (QN _)) ir (aN nl)) (aN hs1)
 have f1:((backTo cp1 (starEach [e1,.List [] lp] X.env)).all (fun x => !x.1)&&(backToKw cp1 (keywordEach [] X.env)).all (fun x=>x.1.isSome)&&decide ([e1,Expr.List [] lp].length+([]:List Keyword).length+(if ([]:List Keyword).isEmpty then 0 else 1)<30))=true:=by
  rw[eU (fun z hz=>by
   rcases QD.mp hz with rfl|hz
   ·exact hs1
   ·rw[QM.mp hz];exact nl)];rfl
 have f2:((backTo cp2 (starEach [e2] X.env)).all (fun x => !x.1)&&(backToKw cp2 (keywordEach [] X.env)).all (fun x=>x.1.isSome)&&decide ([e2].length+([]:List Keyword).length+(if ([]:List Keyword).isEmpty then 0 else 1)<30))=true:=by
  rw[eU (fun z hz=>by rw[QM.mp hz];exact hs2)];rfl
 refine ja (rj PySem.F.plainAttrs_list PySem.F.slot_list_append PySem.F.type_list_append iK (rj PySem.F.plainAttrs_dict PySem.F.slot_dict_setdefault PySem.F.type_dict_setdefault yo pn (args1 ow) rfl f1 hl1 (aN hs1) (cn fun z hz=>by rw[QM.mp hz];exact nl)) (he2 ow) rfl f2 hl2 (aN hs2) (cn fun z hz=>by cases hz)) rfl pins s σ H D I ⟨_,j1,.inr (.inr (.inl ⟨rfl,.inl ⟨_,j5⟩⟩)),E,fun ws H2 s2 r2=>?_⟩
 rw[ah]at r2
 obtain⟨v1,r,rfl,q1,r2⟩:=r2
 rw[ae]at q1;subst q1
 obtain⟨v2,rfl,q2⟩:=r2.only
 rw[ae]at q2
 obtain⟨L0,us,b,rfl,q3,q4,q5⟩:=q2
 rw[ah]at q5;subst q5
 obtain⟨rfl,q6⟩:=q4
 replace q3:H2 L0=some (.lst []):=q3
 have el:=j6.length
 have J2:JD X ix a ks ls ow σ H2:=JD.same s2 ⟨j1,j2,j3,vs,j4,j5,j6⟩
 obtain⟨_,_,_,vs',j4',j5',j6'⟩:=J2
 have ev:vs'=vs:=by
  have:=j5'.symm.trans (s2 _ _ j5)
  injection this with this
  injection this with this
  have e1:=RC (List.map Prod.snd) this
  rwa [List.map_snd_zip (by rw[QC,j3,j6'.length];exact QA _),List.map_snd_zip (by rw[QC,j3,el];exact QA _)]at e1
 subst ev
 clear j4' j5'
 refine⟨a,_,.inl key,.ref L0,rfl,rfl,s2 _ _ j5,?_,fun u hu=>?_,fun hnone=>?_⟩
 ·rw[List.length_zip,QC,<- el,<- j3,Nat.min_self];exact QK hz dl
 ·obtain⟨la,ts,rfl,h1,h2,l,hl',hlen⟩:=sj j3 j6' hu
  refine⟨.inl ⟨rfl,ts,ci.of h1⟩,E.same s2,fun zs H3 s3 r3=>?_⟩
  obtain⟨w,rfl,r4⟩:=r3.only
  rw[ae]at r4
  obtain⟨tt,us,rfl,hq,rl⟩:=r4
  have ex:=fy rl
  subst ex
  have J3:fO X.K ow H3 ls vs':=j6'.keep (fun _ _ z=>kC s3 z) fun b ts _ hb ho=>⟨s3 _ _ hb,ho⟩
  obtain⟨la',ts',e,hm',h1',h2',h5,h6,_⟩:=vn (w:=.ref tt) (ns:=ns) j3 J3 j4 hu ⟨⟨tt,rfl,hq,hns⟩,trivial⟩
  cases e
  have e2:ts'=ts:=by
   rw[s3 _ _ h1]at h1';cases h1';rfl
  subst e2
  refine⟨la,ts',.ref tt,rfl,rfl,h1',by rw[hlen];exact QK (hb l hl') dl,?_⟩
  have s23:=s2.trans s3
  have K:=(aG.same s23).trans (gP (o':=.lst (ts'++[.ref tt])) h1' (fun z=>z) h2')
  have hin:key∈ks:=Classical.not_not.mp fun z=>by
   rw[(rL (by rw[j3,el])).mpr z]at hu;cases hu
  refine q ow σ _ (f7 hsh E K (jc (E.own.same s23))) hl K ⟨j1,j2,?_,vs',j4,?_,h5⟩
  ·rw[qL,if_pos hin,h6,j3]
  ·rw[qL,if_pos hin,aq (fun z=>by subst z;rw[s23 _ _ j5]at h1';cases h1')]
   exact s23 _ _ j5
 ·have hk:key∉ks:=(rL (by rw[j3,el])).mp hnone
  have ne:L0≠a:=fun z=>by subst z;rw[q6]at j5;cases j5
  rw[DU hnone]
  have kA:aG ow H ow (aF H2 a (.dK ((ks.map Sum.inl).zip vs'++[(.inl key,.ref L0)]))):=(aG.same s2).trans (gP (s2 _ _ j5) (fun z=>z) j2)
  have lA:aF H2 a (.dK ((ks.map Sum.inl).zip vs'++[(.inl key,.ref L0)])) L0=some (.lst []):=by rw[aq ne];exact q3
  refine⟨.inl ⟨rfl,[],ci.of lA⟩,f7 hsh E kA (jc (E.own.same s2)),fun zs H3 s3 r3=>?_⟩
  obtain⟨w,rfl,r4⟩:=r3.only
  rw[ae]at r4
  obtain⟨tt,us,rfl,hq,rl⟩:=r4
  have ex:=fy rl
  subst ex
  refine⟨L0,[],.ref tt,rfl,rfl,s3 _ _ lA,by rw[SR];decide,?_⟩
  have nL:∀{b:Addr} {u:HO},H b=some u->b≠L0:=fun hb z=>by subst z;rw[q6]at hb;cases hb
  have K:aG ow H (fun b=>if b=L0 then some none else ow b) (aF H3 L0 (.lst ([]++[.ref tt]))):=⟨fun b u hb c=>by
   rw[aq (nL hb)];exact s3 _ _ (kA.keep b u hb c),fun b u hb c=>by
   show(if b=L0 then some none else ow b)=none
   rw[if_neg (nL hb)];exact c⟩
  have oi:cP (fun b=>if b=L0 then some none else ow b) (aF H3 L0 (.lst ([]++[.ref tt]))):=fun b hb'=>by
   by_cases z:b=L0
   ·subst z;exact⟨_,aC⟩
   ·replace hb':(if b=L0 then some none else ow b)≠none:=hb'
    rw[if_neg z]at hb'
    rw[aq z]
    obtain⟨o,ho⟩:=jc (a:=a) (o:=.dK ((ks.map Sum.inl).zip vs'++[(.inl key,.ref L0)])) (E.own.same s2) b hb'
    exact⟨o,s3 _ _ ho⟩
  have kt:∀b us,aZ X.K H b us->aZ X.K (aF H3 L0 (.lst ([]++[.ref tt]))) b us:=fun b us z=>dE (s3 _ _ lA) (fun z=>z) (kC s3 (dE (s2 _ _ j5) (fun z=>z) (kC s2 z)))
  refine q _ σ _ (f7 hsh E K oi) hl K ⟨j1,by show(if a=L0 then some none else ow a)=_;rw[if_neg (RT ne)];exact j2,?_,vs'++[.ref L0],?_,?_,?_⟩
  ·rw[qL,if_neg hk,pS j3 hk,QH,QH,j3];rfl
  ·refine List.nodup_append.mpr ⟨j4,by simp,fun v hv' u hu z=>?_⟩
   rw[QM]at hu
   subst hu z
   obtain⟨b,ts,e,hb',_⟩:=j6.mem hv'
   cases e
   rw[q6]at hb';cases hb'
  ·rw[aq (RT ne),qL,if_neg hk,Sj,QU,SK,List.zip_append (by rw[QC,j3,el])]
   exact s3 _ _ aC
  ·rw[pS j3 hk]
   refine fO.app (j6.keep kt fun b ts hm hb' ho=>⟨?_,by show(if b=L0 then some none else ow b)=_;rw[if_neg (nL hb')];exact ho⟩) ⟨⟨L0,_,rfl,aC,if_pos rfl,⟨tt,rfl,dE (s3 _ _ lA) (fun z=>z) hq,hns⟩,trivial⟩,trivial⟩
   rw[aq (nL hb')]
   refine s3 _ _ ?_
   rw[aq (fun z=>by subst z;rw[j5]at hb';cases hb')]
   exact s2 _ _ hb'
theorem qf{pins:List (Addr×Obj)}{σ:L2.St}{s:Shared}{ow:Ow}:∀{ls:List (List (List Int))} {vs:List V} {H:Hp},aj X pins σ H s->fO X.K ow H ls vs->vs.Nodup->∃Hf,aj X pins σ Hf s/\j9 X.K Hf ls vs/\∀b,(∀a,V.ref a∈vs->b≠a)->Hf b=H b
 | [],[],H,I,_,_=>⟨H,I,trivial,fun _ _=>rfl⟩
 | l::ls,v::vs,H,I,h,nd=>by
  obtain⟨n1,n2⟩:=Sg.mp nd
  obtain⟨a,ts,rfl,h1,h2,h3⟩:=h.1
  have ob:=(show aV X.prog X.w H s.heap a (.lst ts)from I.hok a _ h1)
  obtain⟨z,its,n,rv,e⟩:=ob
  obtain⟨oo,eo⟩:∃oo,s.heap.get? a=some oo:=⟨_,e⟩
  have I1:aj X pins σ (aF H a (.frz oo (.lst ts))) s:=I.write (t':=s.toks) (x:=a) (e:=a) (h':=s.heap) (by rw[h1];exact True.intro) (.inl rfl) (fun b u _ q=>q) ⟨_,eo⟩ (show aV X.prog X.w (aF H a (.frz oo (.lst ts))) s.heap a (.frz oo (.lst ts))from⟨eo,z,its,n,rv,e⟩)
  have kt:∀b us,aZ X.K H b us->aZ X.K (aF H a (.frz oo (.lst ts))) b us:=fun b us hb=>dE h1 (fun z=>z) hb
  obtain⟨Hf,If,Ff,af⟩:=qf I1 (h.2.keep kt fun b us m hb ho=>⟨by rw[aq (fun z=>by subst z;exact n1 m)];exact hb,ho⟩) n2
  have nm':∀b u,H b=some u->nm u->∀c,V.ref c∈V.ref a::vs->b≠c:=fun b u hb hn c m z=>by
   subst z
   obtain⟨c',ts',e',hc,_⟩:=h.mem m
   cases e'
   rw[hc]at hb;cases hb;exact hn
  refine⟨Hf,If,⟨⟨a,oo,ts,rfl,?_,h3.keep fun b us hb=>?_⟩,Ff⟩,fun b hb=>?_⟩
  ·rw[af a (fun c m z=>by subst z;exact n1 m)];exact aC
  ·have go:∀u,H b=some u->nm u->Hf b=some u:=fun u hu hn=>by
    rw[af b (fun c m=>nm' b u hu hn c (Qz _ m)),aq (nm' b u hu hn a Qy)];exact hu
   rcases hb with(hb|⟨o,hb⟩)|hb
   ·exact .inl (.inl (go _ hb True.intro))
   ·exact .inl (.inr ⟨o,go _ hb True.intro⟩)
   ·exact .inr hb
  ·rw[af b (fun c m=>hb c (Qz _ m)),aq (hb a Qy)]
 | [],_::_,_,_,h,_=>h.elim
 | _::_,[],_,_,h,_=>h.elim
theorem DP{H0:Hp}{ρ:ac}{a:Addr}(hx:X.N[ix]?=some x)(hv:fj X.env.scope x)(hn:dw x=true) :
  PS X (.Return (some (.Name x r1)) r2) (fun D σ H => ∃ow,cj H0 ow H/\JD X ix a ks ls ow σ H/\∀v H',au H0 H'->ae X.K H' (fun a b=>b=true/\H0 a=none) (.dcf (ks.map Sum.inl) ls) v->D.rt v H'):=by
 have pn:PE X (.Name x r1) (jC ix):=fF hx hv (bX hn).1 (bX hn).2
 have pf:PE X (.Name x r1) (fun σ H Q => ∃ow,cj H0 ow H/\JD X ix a ks ls ow σ H/\∀v H',au H0 H'->ae X.K H' (fun a b=>b=true/\H0 a=none) (.dcf (ks.map Sum.inl) ls) v->Q v H'):=by
  intro pins s σ H Q I ⟨ow,B,⟨j1,j2,j3,vs,j4,j5,j6⟩,q⟩
  refine aL (pn pins s σ H (fun v H'=>v=.ref a/\H'=H) I ⟨_,j1,rfl,rfl⟩) fun u s1 ⟨v,H1,I1,ru,e1,e2⟩=>?_
  subst e1 e2
  obtain⟨Hf,If,Ff,af⟩:=qf I1 j6 j4
  have no:∀b,ow b≠some none->∀c,V.ref c∈vs->b≠c:=fun b hb c m z=>by
   subst z
   obtain⟨c',ts',e',_,ho⟩:=j6.mem m
   cases e'
   exact hb ho
  have ha:Hf a=some (.dK ((ks.map Sum.inl).zip vs)):=by
   rw[af a (fun c m z=>by
    subst z
    obtain⟨c',ts',e',hc,_⟩:=j6.mem m
    cases e'
    rw[hc]at j5;cases j5)]
   exact j5
  have ob:=(show aV X.prog X.w Hf s1.heap a (.dK ((ks.map Sum.inl).zip vs))from If.hok a _ ha)
  obtain⟨z1,z2,ws,z3,oo,es,ep,eo,z4⟩:=id ob
  have I2:aj X pins σ (aF Hf a (.frz oo (.dK ((ks.map Sum.inl).zip vs)))) s1:=If.write (t':=s1.toks) (x:=a) (e:=a) (h':=s1.heap) (by rw[ha];exact True.intro) (.inl rfl) (fun b u _ q=>q) ⟨_,eo⟩ (show aV X.prog X.w (aF Hf a (.frz oo (.dK ((ks.map Sum.inl).zip vs)))) s1.heap a (.frz oo (.dK ((ks.map Sum.inl).zip vs)))from⟨eo,z1,z2,ws,z3,oo,es,ep,eo,z4⟩)
  have na:∀b,ow b≠some none->b≠a:=fun b hb z=>by subst z;exact hb j2
  refine⟨.ref a,_,I2,ru,q _ _ (fun b o hb=>?_) ?_⟩
  ·obtain⟨h1,h2⟩:=B b o hb
   have hb':ow b≠some none:=by rw[h2];exact fun z=>nomatch z
   rw[aq (na b hb'),af b (no b hb')];exact h1
  ·rw[ae]
   exact⟨by rw[QC];exact j3,a,oo,vs,rfl,aC,Ff.keep (fun b us hb=>dE ha (fun z=>z) hb) fun b o u hb=>by rw[aq (fun z=>by subst z;rw[ha]at hb;cases hb)];exact hb⟩
 exact sD pf
noncomputable abbrev DL:=List Int×List (List (List Int))
noncomputable def iW(f:Int->Int->Int)(a:Int)(st:DL)(b:Int):DL:=(qL st.1 (f a b),i8 st.1 st.2 (f a b) [a,b])
noncomputable def gb(f:Int->Int->Int)(ps:List Int)(st:DL)(a:Int):DL:=ps.foldl (iW f a) st
noncomputable def ue(f:Int->Int->Int)(ps:List Int):DL:=ps.foldl (gb f ps) ([],[])
noncomputable def Bd(n:Nat)(st:DL):Prop:=st.1.length<=n/\∀l∈st.2,l.length<=n
theorem xW{n:Nat}{k:Int}{t:List Int}:∀{ks:List Int} {ls:List (List (List Int))},(∀l∈ls,l.length<=n)->∀l∈i8 ks ls k t,l.length<=n+1
 | j::ks,l::ls,h,m,hm=>by
  rw[i8]at hm
  split at hm
  ·rcases QD.mp hm with rfl|hm
   ·rw[QH];have:=h l Qy;simp only[QP,SS];omega
   ·exact Nat.le_succ_of_le (h m (Qz _ hm))
  ·rcases QD.mp hm with rfl|hm
   ·exact Nat.le_succ_of_le (h _ Qy)
   ·exact xW (fun l hl=>h l (Qz _ hl)) m hm
 | [],ls,h,m,hm=>by
  have:m∈[[t]]:=by cases ls<;>exact hm
  rw[QM.mp this];exact Nat.le_add_left _ _
 | _::_,[],h,m,hm=>by
  rw[QM.mp (show m∈[[t]]from hm)];exact Nat.le_add_left _ _
theorem FA{st:DL}{a b:Int}(h:Bd n st):Bd (n+1) (iW f a st b):=by
 refine⟨?_,xW h.2⟩
 show(qL st.1 (f a b)).length<=_
 unfold qL
 split
 ·exact Nat.le_succ_of_le h.1
 ·rw[QH];exact Nat.succ_le_succ h.1
theorem xg{f:Int->Int->Int}{a:Int}:∀(l:List Int) {n:Nat} {st:DL},Bd n st->Bd (n+l.length) (l.foldl (iW f a) st)
 | [],n,st,h=>h
 | b::l,n,st,h=>by
  have:=xg (f:=f) (a:=a) l (FA (f:=f) (a:=a) (b:=b) h)
  rw[QP,show n+(l.length+1)=n+1+l.length by omega];exact this
theorem zL{f:Int->Int->Int}{ps:List Int}:∀(l:List Int) {n:Nat} {st:DL},Bd n st->Bd (n+l.length*ps.length) (l.foldl (gb f ps) st)
 | [],n,st,h=>by simpa using h
 | a::l,n,st,h=>by
  have:=zL (f:=f) (ps:=ps) l (xg (f:=f) (a:=a) ps h)
  rw[QP,Nat.succ_mul,show n+(l.length*ps.length+ps.length)=n+ps.length+l.length*ps.length by omega];exact this
theorem vZ{ρ':ac}(h:∀y p,ρ y=some p->ρ' y=some p)(E:aH X ow H σ ρ'):aH X ow H σ ρ:=⟨fun x d o hx=>E.get x d o (h x _ hx),E.own⟩
theorem oE{H0:Hp}{ρ2:ac}{J J':GJ}(h:∀y p,ρ2 y=some p->ρ1 y=some p)(g:dZ X ss (tX X H0 ρ J ρ1 J')):dZ X ss (tX X H0 ρ J ρ2 J'):=fun pins s σ H D I ⟨ow,E,hl,B,j,q⟩ =>
 g pins s σ H D I ⟨ow,E,hl,B,j,fun ow' σ' H' E'=>q ow' σ' H' (vZ h E')⟩
theorem kU{t:TS}(h:PS X st t):dZ X [st] t:=fu h pU
theorem JD.set{y:Str}{j:Nat}(hx:X.N[ix]?=some x)(hy:X.N[j]?=some y)(hn:y≠x)(h:JD X ix a ks ls ow σ H):JD X ix a ks ls ow (σ.set j (some v)) H:=by
 obtain⟨h1,h2⟩:=h
 refine⟨?_,h2⟩
 rw[R0 (fun z=>by subst z;rw[hx]at hy;injection hy with hy;exact hn hy.symm)];exact h1
theorem jp:∀ns:List Int,ao (ns.map D.int)=true
 | []=>rfl
 | n::ns=>by rw[QU,ao,jp ns];rfl
theorem xR{H0:Hp}{xa xb xp:Str}{pa pb q1 q2 f1 f2:Pos}{ps:List Int}{o:Bool}(G:aK Φ X sc)(hp:PassesOwn (model X.prog X.w) X.A X.env X.xe)
    (hx:cq sc x=true) (hxa:cq sc xa=true) (hxb:cq sc xb=true) (nax:xa≠x) (nbx:xb≠x) (npx:xp≠x) (nba:xb≠xa) (npa:xp≠xa) (npb:xp≠xb) (hn:dw x=true) (hnp:dw xp=true)
    (h1:ρ xp=some (.lst (ps.map D.int),o)) (h2:ρ x=some (.dct [] [],true))
    (he:∀a b ρ',ρ' xa=some (.int a,false)->ρ' xb=some (.int b,false)->a∈ps->b∈ps->ED X ρ' e1 (.int (f a b)) 0/\AD X ρ' [e2] [ax [a,b]] 0)
    (hs1:∀y p,e1 ≠ .Starred y p) (hs2:∀y p,e2 ≠ .Starred y p) (hl1:(ap1.endLine==cp1.line)=true) (hl2:(ap2.endLine==cp2.line)=true) (hlen:ps.length<=100) :
    dh X H0 ρ [.For (.Name xa pa) (.Name xp q1) [.For (.Name xb pb) (.Name xp q2) [.Expr (.Call (.Attribute (.Call (.Attribute (.Name x p1) "setdefault" ap1) [e1,.List [] lp] [] cp1) "append" ap2) [e2] [] cp2) p4] [] f2] [] f1,.Return (some (.Name x r1)) r2] (.rt (.dcf ((ue f ps).1.map Sum.inl) (ue f ps).2)):=by
  intro pins s σ H D0 I ⟨ow,E,hl,B,q⟩
  obtain⟨ix,v,g1,g2,g3,g4⟩:=E.get x _ _ h2
  rw[ae]at g4
  obtain⟨_,_,ad,vs,rfl,hA,hP,rl⟩:=g4
  rw[ah]at rl
  subst rl
  have hoA:ow ad=some (some x):=hP.2
  obtain⟨ip,vp,k1,k2,k3,k4⟩:=E.get xp _ _ h1
  let ow1:Ow:=fun b=>if b=ad then some none else if ow b=some (some xp)then none else ow b
  have w1:ow1 ad=some none:=if_pos rfl
  have w2:∀b,b≠ad->ow1 b=if ow b=some (some xp)then none else ow b:=fun b hb=>if_neg hb
  have K1:aG ow H ow1 H:=⟨fun _ _ h _=>h,fun b _ _ hb=>by
    have nb:b≠ad:=fun z=>by subst z;rw[hoA]at hb;cases hb
    rw[w2 b nb,hb];rfl⟩
  have oi:cP ow1 H:=fun b hb=>by
    by_cases z:b=ad
    . subst z;exact⟨_,hA⟩
    . rw[w2 b z]at hb
      exact E.own b fun e=>hb (by rw[e];rfl)
  have Ep:aH X ow1 H σ (aI (fun _=>none) xp (.lst (ps.map D.int),false)):=⟨fun y d o' hy=>by
    rw[bm]at hy
    by_cases z:y=xp
    . subst z
      rw[if_pos rfl]at hy
      cases hy
      refine⟨ip,vp,k1,k2,k3,k4.impH (fun b u hb p _=>?_) fun b p z=>(by cases z)⟩
      have hb':ow b=some (some y)\/ow b=none:=by
        cases o with
        | true=>exact .inl p.2
        | false=>exact .inr (p rfl)
      have nb:b≠ad:=fun z=>by
        subst z
        rw[hoA]at hb'
        rcases hb' with w|w
        . injection w with w;injection w with w;exact npx w.symm
        . cases w
      rw[w2 b nb]
      rcases hb' with w|w
      . rw[if_pos w]
      . rw[w];rfl
    . rw[if_neg z]at hy;exact(nomatch hy),oi⟩
  clear_value ow1
  have shp:Sh (aI (fun _=>none) xp (.lst (ps.map D.int),false)):=kE (fun _ _ _ z=>(by cases z))
  have getp:∀ρ':ac,ρ' xp=some (.lst (ps.map D.int),false)->∀{tg:Expr} {pos:Pos},IE X ρ' tg (.Name xp pos) (ps.map D.int) 1:=fun ρ' h' tg pos=>mT (by have:=eV (X:=X) (pos:=pos) h' hnp;exact this)
  have put_x:∀(ρ':ac) (y:Str) (p:D×Bool),aI ρ' y p y=some p:=fun ρ' y p=>by rw[bm,if_pos rfl]
  have put_o:∀(ρ':ac) (y z:Str) (p:D×Bool),z≠y->aI ρ' y p z=ρ' z:=fun ρ' y z p h=>by rw[bm,if_neg h]
  have bd0:Bd 0 (([],[]):DL):=⟨QA _,fun _ z=>(by cases z)⟩
  have outer:PS X (.For (.Name xa pa) (.Name xp q1) [.For (.Name xb pb) (.Name xp q2) [.Expr (.Call (.Attribute (.Call (.Attribute (.Name x p1) "setdefault" ap1) [e1,.List [] lp] [] cp1) "append" ap2) [e2] [] cp2) p4] [] f2] [] f1)
      (tX X H0 (aI (fun _=>none) xp (.lst (ps.map D.int),false)) (JD X ix ad ((ps.take 0).foldl (gb f ps) ([],[])).1 ((ps.take 0).foldl (gb f ps) ([],[])).2) (aI (fun _=>none) xp (.lst (ps.map D.int),false)) (JD X ix ad ((ps.take (ps.map D.int).length).foldl (gb f ps) ([],[])).1 ((ps.take (ps.map D.int).length).foldl (gb f ps) ([],[])).2)):=by
    refine oF (Jn:=fun i=>JD X ix ad ((ps.take i).foldl (gb f ps) ([],[])).1 ((ps.take i).foldl (gb f ps) ([],[])).2) G hp hxa (getp _ (put_x _ _ _)) (QA 1) (jp ps) (fun i d hd=>?_) (fun _ _ _ _ _ sm j=>JD.same sm j) (fun _ _ _ _ _ j hj z=>JD.set g1 hj nax z) (fun _=>rfl)
    rw[Q7]at hd
    obtain⟨a,ha,rfl⟩:=Sd.mp hd
    have hia:i<ps.length:=(QO.mp ha).1
    have ea:(ps.take (i+1)).foldl (gb f ps) ([],[])=gb f ps ((ps.take i).foldl (gb f ps) ([],[])) a:=by
      rw[SL,ha,List.foldl_append];rfl
    have bdi:Bd (i*ps.length) ((ps.take i).foldl (gb f ps) ([],[])):=by
      have:=zL (f:=f) (ps:=ps) (ps.take i) bd0
      rw[Q1,SC (by omega),Nat.zero_add]at this;exact this
    rw[ea]
    generalize (ps.take i).foldl (gb f ps) ([],[])=st0 at bdi
    have xpa:aI (aI (fun _=>none) xp (.lst (ps.map D.int),false)) xa (.int a,false) xp=some (.lst (ps.map D.int),false):=by rw[put_o _ _ _ _ npa,put_x]
    refine oE (ρ1:=aI (aI (fun _=>none) xp (.lst (ps.map D.int),false)) xa (.int a,false)) (fun y pp hy=>?_) (kU ?_)
    . by_cases z:y=xa
      . subst z
        rw[put_o _ _ _ _ (RT npa)]at hy;cases hy
      . rw[put_o _ _ _ _ z];exact hy
    have inner:=oF (X:=X) (H0:=H0) (Φ:=Φ) (sc:=sc) (ρ:=aI (aI (fun _=>none) xp (.lst (ps.map D.int),false)) xa (.int a,false)) (x:=xb) (px:=pb) (pos:=f2) (iter:=.Name xp q2) (body:=[.Expr (.Call (.Attribute (.Call (.Attribute (.Name x p1) "setdefault" ap1) [e1,.List [] lp] [] cp1) "append" ap2) [e2] [] cp2) p4]) (Jn:=fun j=>JD X ix ad ((ps.take j).foldl (iW f a) st0).1 ((ps.take j).foldl (iW f a) st0).2) G hp hxb (getp _ xpa) (QA 1) (jp ps) (fun j d hd=>?_) (fun _ _ _ _ _ sm j=>JD.same sm j) (fun _ _ _ _ _ j hj z=>JD.set g1 hj nbx z) (fun _=>rfl)
    . rw[QC,SO]at inner
      exact inner
    rw[Q7]at hd
    obtain⟨b,hb,rfl⟩:=Sd.mp hd
    have hjb:j<ps.length:=(QO.mp hb).1
    have eb:(ps.take (j+1)).foldl (iW f a) st0=iW f a ((ps.take j).foldl (iW f a) st0) b:=by
      rw[SL,hb,List.foldl_append];rfl
    have bdj:Bd (i*ps.length+j) ((ps.take j).foldl (iW f a) st0):=by
      have:=xg (f:=f) (a:=a) (ps.take j) bdi
      rw[Q1,SC (by omega)]at this;exact this
    rw[eb]
    generalize (ps.take j).foldl (iW f a) st0=st1 at bdj
    have lim:i*ps.length+j<bJ:=by
      have:=Nat.mul_le_mul (RZ hia) (QA ps.length)
      have h3:=Nat.mul_le_mul hlen hlen
      show _<40000
      omega
    have hxa':aI (aI (aI (fun _=>none) xp (.lst (ps.map D.int),false)) xa (.int a,false)) xb (.int b,false) xa=some (.int a,false):=by rw[put_o _ _ _ _ (RT nba),put_x]
    obtain⟨E1,E2⟩:=he a b _ hxa' (put_x _ _ _) (RF ha) (RF hb)
    refine oE (ρ1:=aI (aI (aI (fun _=>none) xp (.lst (ps.map D.int),false)) xa (.int a,false)) xb (.int b,false)) (fun y pp hy=>?_) (kU (Gk g1 g2 hn (kE (kE shp)) E1 E2 (fun z=>(by cases z)) hs1 hs2 hl1 hl2 (Rb bdj.1 lim) fun l hl=>Rb (bdj.2 l hl) lim))
    by_cases z:y=xb
    . subst z
      rw[put_o _ _ _ _ nba,put_o _ _ _ _ (RT npb)]at hy;cases hy
    . rw[put_o _ _ _ _ z];exact hy
  rw[QC,SO]at outer
  have B1:=B.keep K1
  refine fu outer (fu (DP (H0:=H0) (ρ:=ρ) (a:=ad) (ks:=(ue f ps).1) (ls:=(ue f ps).2) g1 g2 hn) iG) pins s σ H D0 I ⟨ow1,Ep,hl,B1,⟨g3,w1,rfl,[],List.nodup_nil,hA,trivial⟩,fun ow' σ' H' E' hl' k' j'=>?_⟩
  exact⟨ow',B1.keep k',j',q⟩
noncomputable def Lx(a:Addr)(o:Obj)(kvs:List (aP×V)):It :=
 ⟨fun i H=>i<kvs.length/\H a=some (.frz o (.dK kvs)),fun i H x H'=>H'=H/\∀p,kvs[i]?=some p->x=kV p.1,fun i H=>kvs.length<=i/\H a=some (.frz o (.dK kvs))⟩
theorem EM{k:aP}{u:Value}(h:(b7 P w).is k u=true):aO (kV k) u:=by
 rcases cm h with⟨i,t,rfl,rfl⟩|⟨x,t,rfl,rfl⟩
 ·exact⟨t,rfl⟩
 ·exact⟨t,rfl⟩
theorem Ax(a it:Addr)(o:Obj)(kvs:List (aP×V))(ep:Nat)(hep:∀es e,o.data=.dict es e->e=ep):Turn P w K tg (Lx a o kvs) [it] it (fun i h=>h.IsKeyIter it a i kvs.length ep) where
 mem:=by simp
 obj:=fun i h st b hb=>by
  have e:b=it:=by simpa using hb
  subst e
  obtain⟨o,e,c,d⟩:=st
  exact⟨o,e,fun v z=>by rw[d]at z;cases z⟩
 keep:=fun i h h' st k=>st.at fun o e=>k it (by simp) o e
 item:=by
  intro X hP hw hK hc i pins s σ H E I hf st hg
  subst hP hw hK
  obtain⟨hi,ha⟩:=hg
  obtain⟨eo,hd,hz,vs,bR,dd⟩:=tY I ha
  obtain⟨o',es,e',ho',hx',hdat,r⟩:=dd
  rw[eo]at ho';cases ho'
  have ee:=hep _ _ hdat
  subst ee
  have hl:=bR.length
  have dA:s.heap.DictAt (b7 X.prog X.w) a vs e':=⟨o,es,eo,hx',hdat,r⟩
  obtain⟨⟨k,v⟩,hkv⟩:∃p,vs[i]?=some p:=⟨vs[i]'(by omega),QS (by omega)⟩
  obtain⟨⟨k0,v0⟩,hkv0⟩:∃p,kvs[i]?=some p:=⟨kvs[i],QS hi⟩
  have ek:k0=k:=by
   have:=RC (fun l=>l[i]?) bR.keys
   simp only[Q7,hkv,hkv0,Option.map_some]at this
   injection this
  subst ek
  obtain⟨f0,f1,f2,f3,f4,f5⟩:=hf it (by simp)
  rw[hl]at st
  refine wpAny_pyNext_dict_item st dA hkv fun key h' hkey st' sb=>?_
  rw[<- hl]at st'
  have I1:aj X pins σ H { s with heap:=h' }:=I.turned (t':=s.toks) (fun b o hb e=>(sb.2 b hb).trans e) f0 f1 f3 f4 f5
  obtain⟨oo,e2,c,d⟩:=id st'
  exact⟨key,rfl,jO (s:={ s with heap:=h' }) e2 c d (by decide) ⟨kV k0,H,I1,EM hkey,⟨rfl,fun p hp=>by rw[hkv0]at hp;cases hp;rfl⟩,st',fun b hb=>(hf b hb).1⟩⟩
 done:=by
  intro X hP hw hK hc i pins s σ H E I hf st hg
  subst hP hw hK
  obtain⟨hi,ha⟩:=hg
  obtain⟨eo,hd,hz,vs,bR,dd⟩:=tY I ha
  obtain⟨o',es,e',ho',hx',hdat,r⟩:=dd
  rw[eo]at ho';cases ho'
  have ee:=hep _ _ hdat
  subst ee
  have hl:=bR.length
  have dA:s.heap.DictAt (b7 X.prog X.w) a vs e':=⟨o,es,eo,hx',hdat,r⟩
  obtain⟨f0,f1,f2,f3,f4,f5⟩:=hf it (by simp)
  rw[hl]at st
  exact wpAny_pyNext_dict_end (I.ok.hd hc) st dA (List.getElem?_eq_none (by omega)) fun h' eb=>⟨rfl,I.turned (t':=s.toks) (fun b o hb e=>eb b o hb e) f0 f1 f3 f4 f5⟩
 self:=fun _ _ _ _ _ st h=>wpAny_pyIter_keyiter st h
theorem GM{te:TE}(he:PE X e te):PI X tg e (fun σ H R=>te σ H fun x H1 => ∃a o kvs,x=.ref a/\H1 a=some (.frz o (.dK kvs))/\R (Lx a o kvs) H1):=by
 intro pins s σ H R I h
 refine aL (he pins s σ H _ I h) fun v s1 ⟨x,H1,I1,r1,q1⟩=>?_
 obtain⟨a,o,kvs,rfl,ha,q⟩:=q1
 cases r1
 obtain⟨e0,hd,hz,vs,bR,dd⟩:=tY I1 ha
 obtain⟨o',es,ep,ho',hx',hdat,r⟩:=dd
 rw[e0]at ho';cases ho'
 refine wpAny_pyIter_dict (knd:=b7 X.prog X.w) (kvs:=vs) (ep:=ep) hd ⟨o,es,e0,hx',hdat,r⟩ ?_
 have hl:=bR.length
 refine⟨s1.heap.objs.size,[s1.heap.objs.size],_,_,H1,rfl,I1.kept (t':=s1.toks) fun b o e=>Qw _ e,Ax a _ o kvs ep (fun es2 e2 h2=>by rw[hdat]at h2;cases h2;rfl),⟨_,QJ _ rfl,rfl,by rw[hl];rfl⟩,fun b hb=>?_,q⟩
 have e:b=s1.heap.objs.size:=by simpa using hb
 subst e
 exact I1.fpOk (QA _) (I1.hok.fresh (QA _))
theorem vV{K:W.Frag}{H:Hp}:∀{ls:List (List (List Int))} {vs:List V},j9 K H ls vs->ls.length=vs.length
 | [],[],_=>rfl
 | l::ls,v::vs,h=>by rw[QP,QP,vV h.2]
 | [],_::_,h=>h.elim
 | _::_,[],h=>h.elim
theorem HM(h:ED X ρ e (.dcf (ks.map Sum.inl) ls) k):IE X ρ tg e (ks.map D.int) 0:=by
 intro ow pins s σ H R I ⟨E,q⟩
 refine GM (tg:=tg) (h ow) pins s σ H R I ⟨E,fun v H1 s1 r1=>?_⟩
 rw[ae]at r1
 obtain⟨e0,a,o,vs,rfl,ha,fz⟩:=r1
 rw[QC]at e0
 have lv:=vV fz
 have lz:((ks.map (Sum.inl:Int->aP)).zip vs).length=ks.length:=by rw[List.length_zip,QC,<- lv,<- e0,Nat.min_self]
 refine⟨a,o,_,rfl,ha,q _ H1 s1 fun i H2 st=>⟨fun d hd=>?_,fun hle=>?_⟩⟩
 ·have h2:=st.oth _ _ ha True.intro
  rw[Q7]at hd
  obtain⟨n,hn,rfl⟩:=Sd.mp hd
  have hi:=(QO.mp hn).1
  refine⟨⟨by rw[lz];exact hi,h2⟩,fun x H3 ⟨e3,y3⟩=>?_⟩
  subst e3
  refine⟨au.refl _,?_⟩
  have hv:i<vs.length:=by omega
  have:=y3 (.inl n,vs[i]) (by rw[List.getElem?_zip_eq_some];exact⟨by rw[Q7,hn];rfl,QS hv⟩)
  rw[ae];exact this
 ·rw[QC]at hle
  exact⟨by rw[lz];exact hle,st.oth _ _ ha True.intro⟩
noncomputable def e7:List Int->List (List (List Int))->Int->Option (List (List Int))
 | j::ks,l::ls,k=>if j=k then some l else e7 ks ls k
 | _,_,_=>none
theorem sT{K:W.Frag}{H:Hp}{k:Int}:∀{ks:List Int} {ls:List (List (List Int))} {vs:List V},ks.length=ls.length->j9 K H ls vs->(∀l,e7 ks ls k=some l->∃a o ts,cU ((ks.map (Sum.inl:Int->aP)).zip vs) (.inl k)=some (.ref a)/\H a=some (.frz o (.lst ts))/\bD K H ts l)/\(e7 ks ls k=none->cU ((ks.map (Sum.inl:Int->aP)).zip vs) (.inl k)=none)
 | [],[],[],_,_=>⟨fun l h=>(by cases h),fun _=>rfl⟩
 | j::ks,l::ls,v::vs,hl,h=>by
  obtain⟨i1,i2⟩:=sT (k:=k) (ks:=ks) (by simpa using hl) h.2
  rw[e7,QU,Sz]
  by_cases e:j=k
  ·rw[if_pos e]
   refine⟨fun l' hl'=>?_,fun z=>by cases z⟩
   cases hl'
   obtain⟨a,o,ts,rfl,h1,h2⟩:=h.1
   exact⟨a,o,ts,eF (by rw[e]),h1,h2⟩
  ·rw[if_neg e,eG (by intro z;injection z with z;exact e z)]
   exact⟨i1,i2⟩
 | [],_::_,_,h,_=>by cases h
 | _::_,[],_,h,_=>by cases h
 | [],[],_::_,_,h=>h.elim
 | _::_,_::_,[],_,h=>h.elim
theorem Hc:wf X "dict.get" (fun x xs H Q => ∃p o kvs k v,x=.ref p/\xs=[kV k,v]/\H p=some (.frz o (.dK kvs))/\Q ((cU kvs k).getD v) H):=by
 intro pins s σ H x xs v us Q I rx rxs h
 obtain⟨p,o,kvs,k,dv,rfl,rfl,hp,q⟩:=h
 cases rx
 obtain⟨u1,u2,rfl,r1,r2⟩:=aD.two rxs
 obtain⟨e,hd,hz,vs,bR,dd⟩:=tY I hp
 have rv:=bR.val k
 refine call_meetsIn PySem.F.slot_dict_get dd.typeIs PySem.F.entry_dict_get (PySem.F.args_dict_get_3 _ _ _) (meets_dict_get_default _ p (gR r1) hd u2) ⟨_,dd.mapOf,?_⟩
 cases e1:cU kvs k with
 | none =>
  rw[e1]at rv q
  cases e2:valueAt vs k with
  | some w=>rw[e2]at rv;exact rv.elim
  | none=>exact⟨dv,H,I.tok _,r2,q⟩
 | some u =>
  rw[e1]at rv q
  cases e2:valueAt vs k with
  | none=>rw[e2]at rv;exact rv.elim
  | some w=>rw[e2]at rv;exact⟨u,H,I.tok _,rv,q⟩
theorem Qr{o:Obj}(I:aj X pins σ H s)(ha:H a=some (.frz o (.dK kvs))):s.TypeIs (.ref a) "dict" /\ o.dict=none:=by
 obtain⟨e,_,_,vs,_,o',es,ep,h1,h2,_⟩:=tY I ha
 rw[e]at h1;cases h1
 exact⟨⟨o,e,h2.1⟩,h2.2.1⟩
theorem GV{ob:Expr}{to:TE}{t:TA}{name:Str}{id:String}{r:V->List V->Hp->VK->Prop}(slot:Slot "dict" name id)(hty:typeOf (.builtin id)=pure (.type "method_descriptor"))(hm:wf X id r)(ho:PE X ob to)(ha:PA X (e::es) t)
  (hb:attributeBase ob name X.env (eval ob X.env)=eval ob X.env) (hf:((backTo cp (starEach (e::es) X.env)).all (fun x => !x.1)&&(backToKw cp (keywordEach [] X.env)).all (fun x=>x.1.isSome)&&decide ((e::es).length+([]:List Keyword).length+(if ([]:List Keyword).isEmpty then 0 else 1)<30))=true)
  (hln:(ap.endLine==cp.line)=true) (hs:starEach (e::es) X.env=(false,eval e X.env)::starEach es X.env) (hq:(backTo cp (starEach es X.env)).any (·.1)=false) :
  PE X (.Call (.Attribute ob name ap) (e::es) [] cp) (fun σ H Q=>to σ H fun x H1=>(∃a o kvs,x=.ref a/\H1 a=some (.frz o (.dK kvs)))/\t σ H1 fun xs H2=>r x xs H2 Q):=by
 intro pins s σ H Q I h
 refine wpAny_Call_method_late hb hf hln rfl (aL (ho pins s σ H _ I h) fun v s1 ⟨x,H1,I1,r1,⟨a,o,kvs,ex,hx⟩,q1⟩=>?_)
 subst ex
 cases r1
 obtain⟨y1,y2⟩:=Qr I1 hx
 refine⟨"dict", id,PySem.F.plainAttrs_dict,slot,hty,y1,fun b eb=>by cases eb;exact⟨o,(tY I1 hx).1,y2⟩,?_⟩
 have hA:=ha cp pins s1 σ H1 _ I1 q1
 rw[hs]at hA⊢
 refine Calls.callWith_builtin (by show(false || (backTo cp (starEach es X.env)).any (·.1))=false;rw[hq];rfl) (Calls.evalArgs_plain ?_)
 exact aL hA fun us s2 ⟨ws,H2,I2,r2,q2⟩=>hm pins s2 σ H2 (.ref a) ws _ us Q I2 rfl r2 q2
theorem tL(s:au H H')(h:j9 K H ls vs):j9 K H' ls vs:=h.keep (fun _ _ z=>kC s z) fun _ _ _ z=>s _ _ z
theorem Ii{x:Expr}(h:ED X ρ x (.dcf (ks.map Sum.inl) ls) k)(he:ED X ρ e1 (.int key) 0)(hb:attributeBase x "get" X.env (eval x X.env)=eval x X.env)(hs1:∀y p,e1 ≠ .Starred y p)(hln:(ap.endLine==cp.line)=true) :
  ED X ρ (.Call (.Attribute x "get" ap) [e1,.List [] lp] [] cp) (.lst (((e7 ks ls key).getD []).map ax)) 1:=by
 have nl:∀y p,(Expr.List [] lp) ≠ .Starred y p:=fun y p z=>nomatch z
 have args1:AD X ρ [e1,.List [] lp] [.int key,.lst []] 0:=ge he (ge (ql ir (QN _) (QN _)) ir (aN nl)) (aN hs1)
 intro ow
 refine bE (GV PySem.F.slot_dict_get PySem.F.type_dict_get Hc (h ow) (args1 ow) hb (by
  rw[eU (fun z hz=>by
   rcases QD.mp hz with rfl|hz
   ·exact hs1
   ·rw[QM.mp hz];exact nl)];rfl) hln (aN hs1) (cn fun z hz=>by rw[QM.mp hz];exact nl)) fun σ H Q ⟨E,q⟩=>⟨E,fun v H1 s1 r1=>?_⟩
 rw[ae]at r1
 obtain⟨e0,a,o,vs,rfl,ha,fz⟩:=r1
 rw[QC]at e0
 refine⟨⟨a,o,_,rfl,ha⟩,E.same s1,fun ws H2 s2 r2=>?_⟩
 rw[ah]at r2
 obtain⟨v1,r,rfl,q1,r2⟩:=r2
 rw[ae]at q1;subst q1
 obtain⟨v2,rfl,q2⟩:=r2.only
 rw[ae]at q2
 obtain⟨L0,us,b,rfl,q3,q4,q5⟩:=q2
 rw[ah]at q5;subst q5
 obtain⟨rfl,q6⟩:=q4
 refine⟨a,o,_,.inl key,.ref L0,rfl,rfl,s2 _ _ ha,q _ _ (s1.trans s2) ?_⟩
 obtain⟨l1,l2⟩:=sT (k:=key) e0 (tL s2 fz)
 rw[ae]
 cases e:e7 ks ls key with
 | none =>
  rw[l2 e]
  exact⟨L0,[],true,rfl,q3,fun _=>(E.own.same s1).free q6,ah.nil⟩
 | some l =>
  obtain⟨la,oo,ts,ev,hf,ht⟩:=l1 l e
  rw[ev]
  exact⟨la,ts,false,rfl,.inl ⟨oo,hf⟩,fun z=>(by cases z),gx ht⟩
theorem Ik{x:Expr}{k2:Nat}(h:ED X ρ x (.dcf (ks.map Sum.inl) ls) k)(he:ED X ρ e1 (.int key) k2)(hs:gj e1)(hl:e7 ks ls key=some l):ED X ρ (.Subscript x e1 pos) (.lst (l.map ax)) 1:=by
 refine fun ow=>bE (oO yT (h ow) (he ow) hs) fun σ H Q ⟨E,qq⟩=>⟨E,fun v H1 s1 r1=>⟨E.same s1,fun u H2 s2 r2=>?_⟩⟩
 rw[ae]at r1
 rw[ae]at r2
 subst r2
 obtain⟨e0,a,o,vs,rfl,ha,fz⟩:=r1
 rw[QC]at e0
 obtain⟨la,oo,ts,ev,hf,ht⟩:=(sT (k:=key) e0 (tL s2 fz)).1 l hl
 refine⟨a,o,_,.inl key,.ref la,rfl,rfl,s2 _ _ ha,ev,qq _ H2 (s1.trans s2) ?_⟩
 rw[ae]
 exact⟨la,ts,false,rfl,.inl ⟨oo,hf⟩,fun z=>(by cases z),gx ht⟩
noncomputable def Lk(a b:Int):Int:=a*a+b*b
noncomputable def hZ(o:Int):List Int:=((List.range 39).filter fun i:Nat=>decide ((-19+(i:Int)).fmod 2=o)).map fun i:Nat => -19+(i:Int)
noncomputable def dP(o:Int):DL:=ue Lk (hZ o)
theorem yb{p:Int}(h:p∈hZ o):-19<=p/\p<=19:=by
 obtain⟨i,hi,rfl⟩:=QW.mp h
 have:=RP.mp (Rz.mp hi).1
 omega
theorem D2(o:Int):(hZ o).length<=100:=by
 unfold hZ
 rw[QC]
 exact QR (List.length_filter_le _ _) (by rw[R9];decide)
theorem Iv(ho:o=0\/o=1):(dP o).1.length=(dP o).2.length:=by
 rcases ho with rfl|rfl
 ·decide +kernel
 ·decide +kernel
theorem Iu(ho:o=0\/o=1):((dP o).2.all fun l=>l.all fun t=>decide (t.length=2))=true:=by
 rcases ho with rfl|rfl
 ·decide +kernel
 ·decide +kernel
theorem sS{k:Int}{l:List (List Int)}:∀{ks:List Int} {ls:List (List (List Int))},e7 ks ls k=some l->l∈ls
 | j::ks,m::ls,h=>by
  rw[e7]at h
  split at h
  ·cases h;exact Qy
  ·exact Qz _ (sS h)
 | [],ls,h=>by cases ls<;>cases h
 | _::_,[],h=>by cases h
theorem vJ{k:Int}:∀{ks:List Int} {ls:List (List (List Int))},ks.length=ls.length->k∈ks->∃l,e7 ks ls k=some l
 | j::ks,m::ls,h,hk=>by
  rw[e7]
  by_cases e:j=k
  ·rw[if_pos e];exact⟨m,rfl⟩
  ·rw[if_neg e]
   rcases QD.mp hk with z|z
   ·exact absurd z.symm e
   ·exact vJ (by simpa using h) z
 | [],_,_,hk=>by cases hk
 | _::_,[],h,_=>by cases h
noncomputable def cC(o k:Int):List (List Int):=(e7 (dP o).1 (dP o).2 k).getD []
theorem mO{k:Int}(ho:o=0\/o=1)(h:t∈cC o k):∃a b,t=[a,b]:=by
 unfold cC at h
 cases e:e7 (dP o).1 (dP o).2 k with
 | none=>rw[e]at h;cases h
 | some l =>
  rw[e]at h
  have:=Rl (Q6.mp (Q6.mp (Iu ho) l (sS e)) t h)
  match t,this with
  | [a,b],_=>exact⟨a,b,rfl⟩
noncomputable def iX(N o k:Int):List (List Int):=(cC o k).flatMap fun f=>(cC o (4*N-k)).map fun b=>f++b
noncomputable def dH(N o:Int):List (List Int):=(dP o).1.flatMap (iX N o)
noncomputable def Qn(o:Int)(p:Int×List (List Int)):Bool:=p.2.all fun t=>match t with | [a,b]=>decide (a*a+b*b=p.1)&&(decide (a % 2=o)&&(decide (b % 2=o)&&(decide (-19<=a/\a<=19)&&decide (-19<=b/\b<=19))))|_=>false
theorem K6(ho:o=0\/o=1):((dP o).1.zip (dP o).2).all (Qn o)=true:=by
 rcases ho with rfl|rfl
 ·decide +kernel
 ·decide +kernel
theorem K7(ho:o=0\/o=1):(dP o).1.Nodup:=by
 rcases ho with rfl|rfl
 ·decide +kernel
 ·decide +kernel
theorem K8(ho:o=0\/o=1):∀l∈(dP o).2,l.Nodup:=by
 rcases ho with rfl|rfl
 ·decide +kernel
 ·decide +kernel
theorem yD{k:Int}{l:List (List Int)}:∀{ks:List Int} {ls:List (List (List Int))},e7 ks ls k=some l->(k,l)∈ks.zip ls
 | j::ks,m::ls,h=>by
  rw[e7]at h
  split at h
  ·rename_i e;cases h;subst e;exact Qy
  ·exact Qz _ (yD h)
 | [],ls,h=>by cases ls<;>cases h
 | _::_,[],h=>by cases h
theorem oX{k:Int}(ho:o=0\/o=1)(h:t∈cC o k):∃a b,t=[a,b]/\a*a+b*b=k/\a % 2=o/\b % 2=o/\(-19<=a/\a<=19)/\(-19<=b/\b<=19):=by
 unfold cC at h
 cases e:e7 (dP o).1 (dP o).2 k with
 | none=>rw[e]at h;cases h
 | some l =>
  rw[e]at h
  have z:=Q6.mp (Q6.mp (K6 ho) _ (yD e)) t h
  obtain⟨a,b,rfl⟩:=mO (o:=o) (k:=k) ho (by unfold cC;rw[e];exact h)
  dsimp only at z
  simp only[QI,Rj]at z
  exact⟨a,b,rfl,z⟩
theorem yG{k:Int}(ho:o=0\/o=1):(cC o k).Nodup:=by
 unfold cC
 cases e:e7 (dP o).1 (dP o).2 k with
 | none=>exact List.nodup_nil
 | some l=>exact K8 ho l (sS e)
noncomputable def wj(N o:Int)(t:List Int):Prop:=∃a b c d,t=[a,b,c,d]/\(a*a+b*b)+(c*c+d*d)=4*N/\(a % 2=o/\b % 2=o/\c % 2=o/\d % 2=o)/\(-19<=a/\a<=19)/\(-19<=b/\b<=19)/\(-19<=c/\c<=19)/\(-19<=d/\d<=19)
theorem om{k:Int}(h:t∈iX N o k):∃f∈cC o k,∃b∈cC o (4*N-k),t=f++b:=by
 obtain⟨f,hf,h⟩:=Ss.mp h
 obtain⟨b,hb,rfl⟩:=QW.mp h
 exact⟨f,hf,b,hb,rfl⟩
theorem gc(ho:o=0\/o=1)(h:t∈dH N o):wj N o t:=by
 obtain⟨k,hk,h⟩:=Ss.mp h
 obtain⟨f,hf,b,hb,rfl⟩:=om h
 obtain⟨a,b',rfl,h1,h2,h3,h4,h5⟩:=oX ho hf
 obtain⟨c,d,rfl,g1,g2,g3,g4,g5⟩:=oX ho hb
 exact⟨a,b',c,d,rfl,by omega,⟨h2,h3,g2,g3⟩,h4,h5,g4,g5⟩
theorem wa{f f' b':List Int}(h1:f.length=2)(h2:f'.length=2)(e:f++b=f'++b'):f=f':=(List.append_inj e (by rw[h1,h2])).1
theorem oY{k:Int}(ho:o=0\/o=1)(h:t∈cC o k):t.length=2:=by
 obtain⟨a,b,rfl⟩:=mO ho h
 rfl
theorem FH{k:Int}(ho:o=0\/o=1):(iX N o k).Nodup:=by
 refine List.pairwise_flatMap.mpr ⟨fun f hf=>SJ.mpr ((yG ho).imp fun hne e=>hne (List.append_cancel_left e)),?_⟩
 refine List.Pairwise.imp_of_mem (R:=fun a b=>a≠b) (fun {f f'} hf hf' hne x hx y hy e=>?_) (yG ho)
 obtain⟨b,hb,rfl⟩:=QW.mp hx
 obtain⟨b',hb',rfl⟩:=QW.mp hy
 exact hne (wa (oY ho hf) (oY ho hf') e)
theorem zT(ho:o=0\/o=1):(dH N o).Nodup:=by
 refine List.pairwise_flatMap.mpr ⟨fun k _=>FH ho,?_⟩
 refine List.Pairwise.imp (R:=fun a b=>a≠b) (fun {k k'} hne x hx y hy e=>?_) (K7 ho)
 obtain⟨f,hf,b,hb,rfl⟩:=om hx
 obtain⟨f',hf',b',hb',rfl⟩:=om hy
 have e1:=wa (oY ho hf) (oY ho hf') e
 subst e1
 obtain⟨a,c,rfl,h1,_⟩:=oX ho hf
 obtain⟨a',c',e2,h2,_⟩:=oX ho hf'
 cases e2
 exact hne (h1.symm.trans h2)
noncomputable def cK:List Nat->List Nat->Nat->Nat
 | j::ks,n::ns,k=>bif Nat.beq j k then n else cK ks ns k
 | _,_,_=>0
noncomputable def kz(o:Int):List Nat:=if o=0 then[648,580,520,468,424,388,360,340,328,324,512,452,400,356,320,292,272,260,256,392,296,232,212,200,196,288,244,208,180,160,148,144,164,136,116,104,100,128,80,68,64,72,52,40,36,32,20,16,8,4,0]else[722,650,586,530,482,442,410,386,370,362,578,514,458,338,314,298,290,450,394,346,306,274,250,234,226,218,194,178,170,242,202,146,130,122,162,106,90,82,98,74,58,50,34,26,18,10,2]
noncomputable def nz(o:Int):List Nat:=if o=0 then[4,8,8,8,8,8,8,16,8,4,4,8,8,8,8,8,8,16,4,4,8,8,8,12,4,4,8,8,8,8,8,4,8,8,8,8,12,4,8,8,4,4,8,8,4,4,8,4,4,4,1]else[4,8,8,8,8,8,16,8,16,8,4,8,8,12,8,8,16,4,8,8,8,8,16,8,8,8,8,8,16,4,8,8,16,8,4,8,8,8,4,8,8,12,8,8,4,8,4]
theorem pv(ho:o=0\/o=1):(dP o).1=(kz o).map Int.ofNat/\(dP o).2.map List.length=nz o:=by
 rcases ho with rfl|rfl
 ·decide +kernel
 ·decide +kernel
theorem yF{k:Nat}:∀{ks:List Nat} {ls:List (List (List Int))},((e7 (ks.map Int.ofNat) ls (k:Int)).getD []).length=cK ks (ls.map List.length) k
 | [],[]=>rfl
 | [],_::_=>rfl
 | _::_,[]=>rfl
 | j::ks,l::ls=>by
  show((if (j:Int)=(k:Int)then some l else e7 (ks.map Int.ofNat) ls (k:Int)).getD []).length=bif Nat.beq j k then l.length else cK ks (ls.map List.length) k
  by_cases e:j=k
  ·subst e
   rw[if_pos rfl,show Nat.beq j j=true from Nat.beq_refl j];rfl
  ·rw[if_neg (fun z=>e (by omega)),show Nat.beq j k=false from by rw[SG];exact fun z=>e (Nat.beq_eq.mp z)]
   exact yF
theorem yE{k:Int}(h:k<0):∀{ks:List Nat} {ls:List (List (List Int))},e7 (ks.map Int.ofNat) ls k=none
 | [],[]=>rfl
 | [],_::_=>rfl
 | _::_,[]=>rfl
 | j::ks,l::ls=>by
  rw[QU,e7,if_neg (fun z=>by rw[<- z]at h;exact absurd h (by simp))]
  exact yE h
noncomputable def cB(ks ns:List Nat)(m k:Nat):Nat:=bif Nat.ble k m then cK ks ns (m-k)else 0
theorem vM(ho:o=0\/o=1)(k:Nat):(cC o (k:Int)).length=cK (kz o) (nz o) k:=by
 unfold cC
 rw[(pv ho).1,<- (pv ho).2]
 exact yF
theorem Bj(ho:o=0\/o=1)(m k:Nat):(cC o ((m:Int)-(k:Int))).length=cB (kz o) (nz o) m k:=by
 unfold cB
 by_cases h:k<=m
 ·rw[show Nat.ble k m=true from Nat.ble_eq.mpr h,show(m:Int)-(k:Int)=((m-k:Nat):Int) by omega]
  exact vM ho _
 ·rw[show Nat.ble k m=false from by rw[SG];exact fun z=>h (Nat.ble_eq.mp z)]
  unfold cC
  rw[(pv ho).1,yE (by omega)]
  rfl
theorem yK{α β:Type}(f:α->List β):∀(l:List α),(l.flatMap f).length=(l.map fun x=>(f x).length).sum
 | []=>rfl
 | x::l=>by rw[RK,QH,yK f l];rfl
theorem BM{k:Int}:(iX N o k).length=(cC o k).length*(cC o (4*N-k)).length:=by
 unfold iX
 generalize cC o (4*N-k)=r
 induction cC o k with
 | nil=>simp
 | cons x l ih=>rw[RK,QH,ih,QC,QP,Nat.succ_mul,Nat.add_comm]
theorem wc(ho:o=0\/o=1)(N:Nat):(dH (N:Int) o).length=((kz o).map fun k=>cK (kz o) (nz o) k*cB (kz o) (nz o) (4*N) k).sum:=by
 unfold dH
 rw[yK,(pv ho).1,R8]
 congr 1
 apply List.map_congr_left
 intro k _
 show(iX (N:Int) o (k:Int)).length=_
 rw[BM,vM ho,<- Bj ho,show((4*N:Nat):Int)=4*(N:Int) by omega]
noncomputable def oI(n:Nat):Nat:=((List.range ((n+1) / 2)).map fun i=>bif Nat.beq (n % (1+i*2)) 0 then 1+i*2 else 0).sum
noncomputable def cA(o:Int)(N:Nat):Nat:=((kz o).map fun k=>cK (kz o) (nz o) k*cB (kz o) (nz o) (4*N) k).sum
noncomputable def lC(N:Nat):Bool:=Nat.beq (cA 0 N+cA 1 N) (24*oI N)&&(Nat.ble (cA 0 N) 4000&&(Nat.ble (cA 1 N) 4000&&Nat.ble 2 (cA 0 N+cA 1 N)))
theorem Lb:((List.range 14).all fun i=>lC (1+i))=true:=by decide +kernel
theorem Jl:((List.range 14).all fun i=>lC (15+i))=true:=by decide +kernel
theorem Jk:((List.range 14).all fun i=>lC (29+i))=true:=by decide +kernel
theorem Jj:((List.range 14).all fun i=>lC (43+i))=true:=by decide +kernel
theorem Ji:((List.range 14).all fun i=>lC (57+i))=true:=by decide +kernel
theorem Jh:((List.range 14).all fun i=>lC (71+i))=true:=by decide +kernel
theorem Jg:((List.range 13).all fun i=>lC (85+i))=true:=by decide +kernel
theorem Ft{N:Nat}(h1:1<=N)(h2:N<=97):lC N=true:=by
 by_cases q0:N<15
 ·have:=Q6.mp Lb (N-1) (RP.mpr (by omega))
  rwa [show 1+(N-1)=N by omega]at this
 by_cases q14:N<29
 ·have:=Q6.mp Jl (N-15) (RP.mpr (by omega))
  rwa [show 15+(N-15)=N by omega]at this
 by_cases q28:N<43
 ·have:=Q6.mp Jk (N-29) (RP.mpr (by omega))
  rwa [show 29+(N-29)=N by omega]at this
 by_cases q42:N<57
 ·have:=Q6.mp Jj (N-43) (RP.mpr (by omega))
  rwa [show 43+(N-43)=N by omega]at this
 by_cases q56:N<71
 ·have:=Q6.mp Ji (N-57) (RP.mpr (by omega))
  rwa [show 57+(N-57)=N by omega]at this
 by_cases q70:N<85
 ·have:=Q6.mp Jh (N-71) (RP.mpr (by omega))
  rwa [show 71+(N-71)=N by omega]at this
 by_cases q84:N<98
 ·have:=Q6.mp Jg (N-85) (RP.mpr (by omega))
  rwa [show 85+(N-85)=N by omega]at this
 omega
theorem uu{N:Nat}(h1:1<=N)(h2:N<=97):(dH (N:Int) 0).length+(dH (N:Int) 1).length=24*oI N/\(dH (N:Int) 0).length<=4000/\(dH (N:Int) 1).length<=4000/\2<=(dH (N:Int) 0).length+(dH (N:Int) 1).length:=by
 have h:=Ft h1 h2
 rw[wc (.inl rfl),wc (.inr rfl)]
 unfold lC at h
 simp only[QI,Nat.beq_eq,Nat.ble_eq]at h
 exact h
noncomputable def aU(N:Int):List (List Int):=aM (dH N 0++dH N 1)
theorem uq(N:Int):(aU N).Nodup:=by
 refine(bz _).nodup_iff.mpr (List.pairwise_append.mpr ⟨zT (.inl rfl),zT (.inr rfl),fun x hx y hy e=>?_⟩)
 obtain⟨a,b,c,d,rfl,_,⟨h,_⟩,_⟩:=gc (.inl rfl) hx
 obtain⟨a',b',c',d',rfl,_,⟨h',_⟩,_⟩:=gc (.inr rfl) hy
 cases e
 rw[h]at h'
 cases h'
theorem np(h:t∈aU N):wj N 0 t\/wj N 1 t:=by
 rcases QX.mp ((bz _).mem_iff.mp h)with h|h
 ·exact .inl (gc (.inl rfl) h)
 ·exact .inr (gc (.inr rfl) h)
theorem Jv(N:Int):(aU N).Pairwise fun a b=>HT.lexLt a b=true:=by
 refine(List.Pairwise.and (jG _) (uq N)).imp fun {a b} h=>?_
 rcases Bool.eq_false_or_eq_true (HT.lexLt a b)with e|e
 ·exact e
 ·exact absurd (mP _ _ e h.1) h.2
theorem wb(N:Int):(aU N).length=(dH N 0).length+(dH N 1).length:=by
 rw[show(aU N).length=(dH N 0++dH N 1).length from(bz _).length_eq,QH]
noncomputable def nu(Φ:Fx)(sc:Scope)(ps:List Str)(ss:List Stmt)(ds:List D)(r:D):Prop:=ds.length=ps.length/\∀(X:Cx) (H0:Hp),aK Φ X sc->PassesOwn (model X.prog X.w) X.A X.env X.xe->dh X H0 (gI ps ds) ss (.rt r)
theorem mZ{mg:Str->Option Value}{base:Heap}{g qual:Str}{f:Addr}{fd:FuncData}{ps:List Str}{F:List D->Rs D}(Fn:re K g qual st f fd)
  (S:aS (aE (ab st)) ps (ab st)) (hΦ:Aq P w K mg base k Φ) (hrun:∀ds r,aa (F ds) r->nu Φ (ab st) ps (ak st) ds r):cQ P w K mg base gG (k+1) f fd ps (kD K F):=by
 refine Fn.ok S (fun vs H Q E h=>?_) (fun cdv A outer s H vs Q E hr h=>?_)
 ·obtain⟨ds,r,l,h1,h2,hp,_⟩:=h
  rw[<- h1.length]
  exact(hrun ds r ⟨l,h2,hp⟩).1
 ·obtain⟨ds,r,l,h1,h2,hp,qq⟩:=h
  obtain⟨hl,hr'⟩:=hrun ds r ⟨l,h2,hp⟩
  have G:=vT (outer:=outer) (H:=H) (E:=E) S hΦ hr
  obtain⟨E0,hsl⟩:=zk (P:=P) (w:=w) (mg:=mg) (base:=base) (qual:=qual) (f:=f) (cdv:=cdv) (A:=A) (outer:=outer) (s:=s) (E:=E) S h1 hl
  have B0:cj H (fun _=>none) H:=fun a o h=>⟨h,rfl⟩
  exact⟨_,hr' _ H G PassesOwn.never,fun _=>none,E0,hsl,B0,fun v H' sm rp=>qq v H' sm rp⟩
theorem gX{H0:Hp}(n:Nat){fl:Fl}(G:aK Φ X sc)(hp:PassesOwn (model X.prog X.w) X.A X.env X.xe)(h:aa (az Φ (ss.take n) sc ρ) (.nx ρ1))(k:dh X H0 ρ1 (ss.drop n) fl):dh X H0 ρ ss fl:=by
 rw[<- Re n ss];exact vi G hp h k
theorem qr{H0:Hp}{tg:Expr}{body:List Stmt}{α:Type}{h:α->D}(aj:List α->ac->Prop):∀(l:List α) (ρ:ac),aj l ρ->(∀x q ρ,aj (x::q) ρ->∃ρ1,GD X ρ tg (h x) ρ1/\∃ρ2,dh X H0 ρ1 body (.nx ρ2)/\aj q ρ2)->∃ρ',Ar X H0 tg body (l.map h) ρ (.nx ρ')/\aj [] ρ'
 | [],ρ,h0,_=>⟨ρ,rfl,h0⟩
 | x::l,ρ,h0,st=>by
  obtain⟨ρ1,g,ρ2,b,h2⟩:=st x l ρ h0
  obtain⟨ρ',c,hf⟩:=qr aj l ρ2 h2 st
  exact⟨ρ',⟨ρ1,g,.inl ⟨ρ2,b,c⟩⟩,hf⟩
theorem Lh(h:aa (bQ Φ es sc ρ) (ds,k))(G:aK Φ X sc):AD X ρ es ds k:=let ⟨_,a,b⟩:=h;tR es a b G
theorem fJ(h:aa (av Φ e false sc ρ) (d,k))(G:aK Φ X sc):ED X ρ e d k:=(dz h G).ed rfl
noncomputable def BW(n:Nat):It:=⟨fun i _=>i<n,fun i H x H'=>H'=H/\x=.int (1+(i:Nat)*2),fun i _=>n<=i⟩
theorem uJ(it:Addr)(n:Nat):Turn P w K tg (BW n) [it] it (fun i h=>IsRangeIter h it (1+(i:Nat)*2) ((n:Int)-(i:Nat)) 2) where
 mem:=by simp
 obj:=fun i h st b hb=>by
  have e:b=it:=by simpa using hb
  subst e
  exact⟨_,st,fun v z=>by
   have z':Data.fields _=Data.cell v:=z
   cases z'⟩
 keep:=fun i h h' st k=>k it (by simp) _ st
 item:=by
  intro X hP hw hK hc i pins s σ H E I hf st hg
  subst hP hw hK
  obtain⟨f0,f1,f2,f3,f4,f5⟩:=hf it (by simp)
  have W:=Walks.range (prog:=X.prog) (w:=X.w) (I.ok.hd hc) it 1 2 n
  refine W.item i s _ _ hg st fun v h' tk hv st' kk=>?_
  obtain⟨t,rfl⟩:=hv
  have I1:aj X pins σ H { s with heap:=h',toks:=tk }:=I.turned (fun b o hb e=>kk b o (by simpa using hb) e) f0 f1 f3 f4 f5
  exact⟨_,rfl,jO (s:={ s with heap:=h',toks:=tk }) (n := "range_iterator") st' rfl rfl (by decide) ⟨.int (1+(i:Nat)*2),H,I1,⟨t,rfl⟩,⟨rfl,rfl⟩,st',fun b hb=>(hf b hb).1⟩⟩
 done:=by
  intro X hP hw hK hc i pins s σ H E I hf st hg
  subst hP hw hK
  obtain⟨f0,f1,f2,f3,f4,f5⟩:=hf it (by simp)
  exact wpAny_pyNext_range_end (I.ok.hd hc) st (by have:n<=i:=hg;omega) fun h' eb=>⟨rfl,I.turned (t':=s.toks) (fun b o hb e=>eb b o hb e) f0 f1 f3 f4 f5⟩
 self:=fun _ _ _ _ _ st h=>wpAny_pyIter_rangeiter st h
theorem GA(h1:1<=j)(h2:j<=100):Builtin.Range.rangeSize 1 j 2=((j.toNat / 2:Nat):Int):=by
 obtain⟨n,rfl⟩:∃n:Nat,j=(n:Int):=⟨j.toNat,by omega⟩
 have k:∀n:Nat,n<101->1<=(n:Int)->Builtin.Range.rangeSize 1 (n:Int) 2=(((n:Int).toNat / 2:Nat):Int):=by decide +kernel
 exact k n (by omega) h1
theorem Gv(h1:1<=j)(h2:j<=100):Builtin.Range.small 1 j 2=true:=by
 obtain⟨n,rfl⟩:∃n:Nat,j=(n:Int):=⟨j.toNat,by omega⟩
 have k:∀n:Nat,n<101->1<=(n:Int)->Builtin.Range.small 1 (n:Int) 2=true:=by decide +kernel
 exact k n (by omega) h1
theorem x5{R:It->Hp->Prop}{E:Value->Shared->Prop}{t u v:Tok}{tk:Nat}(I:aj X pins σ H s)(h1:1<=j)(h2:j<=100)
  (q:R (BW (j.toNat / 2)) H):wpAny (model X.prog X.w) X.A (pyIter (.ref s.heap.objs.size)) (JG X pins σ tg R) E { s with heap:=s.heap.push { cls:=.type "range", data:=.fields #[.int 1 t,.int j u,.int 2 v] },toks:=tk }:=by
 refine wpAny_pyIter_range (IsRange.new ..) (Gv h1 h2) ?_
 have I1:aj X pins σ H { s with heap:=s.heap.push { cls:=.type "range", data:=.fields #[.int 1 t,.int j u,.int 2 v] },toks:=tk }:=I.kept fun b o e=>Qw _ e
 refine⟨(s.heap.push { cls:=.type "range", data:=.fields #[.int 1 t,.int j u,.int 2 v] }).objs.size,[(s.heap.push { cls:=.type "range", data:=.fields #[.int 1 t,.int j u,.int 2 v] }).objs.size],_,_,H,rfl,
  I1.kept (t':=tk) fun b o e=>Qw _ e,uJ _ (j.toNat / 2),?_,fun b hb=>?_,q⟩
 ·have e1:1+((0:Nat):Int)*2=1:=by simp
  have e2:(((j.toNat / 2:Nat):Int))-((0:Nat):Int)=Builtin.Range.rangeSize 1 j 2:=by rw[GA h1 h2];omega
  show IsRangeIter _ _ (1+((0:Nat):Int)*2) (((j.toNat / 2:Nat):Int)-((0:Nat):Int)) 2
  rw[e1,e2]
  exact QJ _ rfl
 ·have e:b=(s.heap.push { cls:=.type "range", data:=.fields #[.int 1 t,.int j u,.int 2 v] }).objs.size:=by simpa using hb
  subst e
  exact I1.fpOk (QA _) (I1.hok.fresh (QA _))
noncomputable def KI(ta:TA):TI:=fun σ H R=>ta σ H fun vs H1 => ∃j:Int,vs=[.int 1,.int j,.int 2]/\(1<=j/\j<=100)/\R (BW (j.toNat / 2)) H1
theorem yd{a b:Expr}{ta:TA}(hg:Gl X "range")(hm:X.mg "range" = none)(ha:PA X [a,b,c] ta)(hs:starEach [a,b,c] X.env=[(false,eval a X.env),(false,eval b X.env),(false,eval c X.env)])(hs2:starEach [b,c] X.env=[(false,eval b X.env),(false,eval c X.env)]) :
  PI X tg (.Call (.Name "range" p) [a,b,c] [] pos) (KI ta):=by
 intro pins s σ H R I h
 refine Call_ (fG I hg hm boot_range (Rv (aL (ha pos pins s σ H _ I h) fun us s1 ⟨vs,H1,I1,r1,q1⟩=>?_) (by rw[hs,hs2]) (by rw[hs2];rfl)))
 obtain⟨j,e,⟨q1,q2⟩,q⟩:=q1
 subst e
 cases r1 with
 | cons r rr =>
  cases rr with
  | cons r' rr =>
   cases rr with
   | cons r'' rr =>
    cases rr
    obtain⟨t,rfl⟩:=r
    obtain⟨t',rfl⟩:=r'
    obtain⟨t'',rfl⟩:=r''
    exact call_range_3 (by decide) (x5 I1 q1 q2 q)
theorem yX{a b:Expr}(hg:Gl X "range")(hm0:X.mg "range" = none)(ha:AD X ρ [a,b,c] [.int 1,.int j,.int 2] k)(hst:∀y p,a ≠ .Starred y p)(hst2:∀y p,b ≠ .Starred y p)(hst3:∀y p,c ≠ .Starred y p)(h1:1<=j)(h2:j<=100) :
  IE X ρ tg (.Call (.Name "range" p) [a,b,c] [] pos) ((List.range (j.toNat / 2)).map fun i=>.int (1+(i:Nat)*2)) 0:=by
 intro ow pins s σ H R I ⟨E,q⟩
 have e3:starEach [c] X.env=[(false,eval c X.env)]:=aN hst3
 have e2:starEach [b,c] X.env=[(false,eval b X.env),(false,eval c X.env)]:=by rw[aN hst2,e3]
 refine yd (tg:=tg) hg hm0 (ha ow) (by rw[aN hst,e2]) e2 pins s σ H R I ⟨E,fun vs H1 s1 r1=>?_⟩
 rw[ah]at r1
 obtain⟨v1,r,rfl,r2,r3⟩:=r1
 rw[ah]at r3
 obtain⟨v2,r',rfl,r4,r5⟩:=r3
 rw[ah]at r5
 obtain⟨v3,r'',rfl,r6,r7⟩:=r5
 rw[ah]at r7
 rw[ae]at r2 r4 r6
 subst r2 r4 r6 r7
 refine⟨j,rfl,⟨h1,h2⟩,q _ H1 s1 fun i H2 st=>⟨fun d hd=>?_,fun hle=>?_⟩⟩
 ·rw[Q7]at hd
  cases e:(List.range (j.toNat / 2))[i]? with
  | none=>rw[e]at hd;cases hd
  | some n =>
   rw[e]at hd;cases hd
   obtain⟨hi,hn⟩:=QO.mp e
   rw[List.getElem_range]at hn
   subst hn
   rw[R9]at hi
   refine⟨hi,fun x H3 ⟨e3,y3⟩=>?_⟩
   subst e3 y3
   exact⟨au.refl _,by rw[ae]⟩
 ·rw[QC,R9]at hle
  exact hle
noncomputable def mU(ds:List D)(k:Nat):R1 :=
 match ds with
 | [.int i,.int j,.int m]=>.ok (.lst ((List.range (j.toNat / 2)).map fun n=>.int (1+(n:Nat)*2)),0) [i=1,m=2,1<=j,j<=100]
 | _=>tJ ds k
theorem wY:jX "range" mU:=by
 refine⟨by decide +kernel,fun X ρ p pos args ds k d j l tg o hc hg hm ha hst hlen h hp hl ht=>?_⟩
 unfold mU at h
 split at h
 ·rename_i i n m
  cases h
  cases hl
  obtain⟨rfl,rfl,h1,h2,_⟩:=hp
  match args,hlen,ha,hst with
  | [a,b,c],_,ha,hst=>exact yX hg hm ha (hst a Qy) (hst b (Qz _ Qy)) (hst c (Qz _ (Qz _ Qy))) h1 h2
 ·exact yZ.2 X ρ p pos args ds k d j l tg o hc hg hm ha hst hlen h hp hl ht
end Sp
namespace K
open PySem L2 Sp
noncomputable def M7(p q:Qd):Qd :=
 (p.1*q.1-p.2.1*q.2.1-p.2.2.1*q.2.2.1-p.2.2.2*q.2.2.2,p.1*q.2.1+p.2.1*q.1+p.2.2.1*q.2.2.2-p.2.2.2*q.2.2.1,
  p.1*q.2.2.1-p.2.1*q.2.2.2+p.2.2.1*q.1+p.2.2.2*q.2.1,p.1*q.2.2.2+p.2.1*q.2.2.1-p.2.2.1*q.2.1+p.2.2.2*q.1)
theorem uh{p q:Qd}(h:en p)(g:en q):(bS p.1 q.1/\bS p.2.1 q.2.1/\bS p.2.2.1 q.2.2.1/\bS p.2.2.2 q.2.2.2)/\(bS p.1 q.2.1/\bS p.2.1 q.1/\bS p.2.2.1 q.2.2.2/\bS p.2.2.2 q.2.2.1)/\(bS p.1 q.2.2.1/\bS p.2.1 q.2.2.2/\bS p.2.2.1 q.1/\bS p.2.2.2 q.2.1)/\(bS p.1 q.2.2.2/\bS p.2.1 q.2.2.1/\bS p.2.2.1 q.2.1/\bS p.2.2.2 q.1) :=
 ⟨⟨bH h.1 g.1,bH h.2.1 g.2.1,bH h.2.2.1 g.2.2.1,bH h.2.2.2 g.2.2.2⟩,⟨bH h.1 g.2.1,bH h.2.1 g.1,bH h.2.2.1 g.2.2.2,bH h.2.2.2 g.2.2.1⟩,⟨bH h.1 g.2.2.1,bH h.2.1 g.2.2.2,bH h.2.2.1 g.1,bH h.2.2.2 g.2.1⟩,⟨bH h.1 g.2.2.2,bH h.2.1 g.2.2.1,bH h.2.2.1 g.2.1,bH h.2.2.2 g.1⟩⟩
theorem KD(qs:List Qd):PyData.canLayAll0 (fe (qs.map dq))=true:=by
 induction qs with
 | nil=>rfl
 | cons q qs ih=>rw[QU,fe,PyData.canLayAll0,ih];rfl
theorem K4(q:Qd):PyData.depth (dq q).py=1:=by
 simp[dq,D.py,fe,PyData.depth,PyData.depthAll]
theorem K5(qs:List Qd):PyData.depthAll (fe (qs.map dq))<=1:=by
 induction qs with
 | nil=>simp[fe,PyData.depthAll]
 | cons q qs ih=>rw[QU,fe,PyData.depthAll,K4];omega
end K
namespace K
open PySem L2 Sp Qm
variable{P P3 U a b c d e f n w x y z:Int}{k p q r:Qd}{M N m:Nat}{s:Bool}
noncomputable abbrev bd(a b c d:Int):Prop:=a.natAbs<dO/\b.natAbs<dO/\c.natAbs<dO/\d.natAbs<dO
theorem Ld{g h Q R S P2 Q2 R2 S2 V W X Q3 R3 S3:Int}
  (hP:a*e-b*f-c*g-d*h=2*P) (hQ:a*f+b*e+c*h-d*g=2*Q) (hR:a*g-b*h+c*e+d*f=2*R) (hS:a*h+b*g-c*f+d*e=2*S)
  (kP:P*x-Q*y-R*z-S*w=2*P2) (kQ:P*y+Q*x+R*w-S*z=2*Q2) (kR:P*z-Q*w+R*x+S*y=2*R2) (kS:P*w+Q*z-R*y+S*x=2*S2)
  (hU:e*x-f*y-g*z-h*w=2*U) (hV:e*y+f*x+g*w-h*z=2*V) (hW:e*z-f*w+g*x+h*y=2*W) (hX:e*w+f*z-g*y+h*x=2*X)
  (lP:a*U-b*V-c*W-d*X=2*P3) (lQ:a*V+b*U+c*X-d*W=2*Q3) (lR:a*W-b*X+c*U+d*V=2*R3) (lS:a*X+b*W-c*V+d*U=2*S3) :
  P2=P3/\Q2=Q3/\R2=R3/\S2=S3:=by
 have e1:4*P2=(2*P)*x-(2*Q)*y-(2*R)*z-(2*S)*w:=by grind
 have e2:4*Q2=(2*P)*y+(2*Q)*x+(2*R)*w-(2*S)*z:=by grind
 have e3:4*R2=(2*P)*z-(2*Q)*w+(2*R)*x+(2*S)*y:=by grind
 have e4:4*S2=(2*P)*w+(2*Q)*z-(2*R)*y+(2*S)*x:=by grind
 have f1:4*P3=a*(2*U)-b*(2*V)-c*(2*W)-d*(2*X):=by grind
 have f2:4*Q3=a*(2*V)+b*(2*U)+c*(2*X)-d*(2*W):=by grind
 have f3:4*R3=a*(2*W)-b*(2*X)+c*(2*U)+d*(2*V):=by grind
 have f4:4*S3=a*(2*X)+b*(2*W)-c*(2*V)+d*(2*U):=by grind
 rw[<- hP,<- hQ,<- hR,<- hS]at e1 e2 e3 e4
 rw[<- hU,<- hV,<- hW,<- hX]at f1 f2 f3 f4
 clear hP hQ hR hS kP kQ kR kS hU hV hW hX lP lQ lR lS
 have m1:4*P2=4*P3:=by rw[e1,f1];clear e1 e2 e3 e4 f1 f2 f3 f4;grind
 have m2:4*Q2=4*Q3:=by rw[e2,f2];clear e1 e2 e3 e4 f1 f2 f3 f4;grind
 have m3:4*R2=4*R3:=by rw[e3,f3];clear e1 e2 e3 e4 f1 f2 f3 f4;grind
 have m4:4*S2=4*S3:=by rw[e4,f4];clear e1 e2 e3 e4 f1 f2 f3 f4;grind
 omega
noncomputable def bI(p q:Qd):Qd :=
 ((p.1*q.1-p.2.1*q.2.1-p.2.2.1*q.2.2.1-p.2.2.2*q.2.2.2).fdiv 2,(p.1*q.2.1+p.2.1*q.1+p.2.2.1*q.2.2.2-p.2.2.2*q.2.2.1).fdiv 2,
  (p.1*q.2.2.1-p.2.1*q.2.2.2+p.2.2.1*q.1+p.2.2.2*q.2.1).fdiv 2,(p.1*q.2.2.2+p.2.1*q.2.2.1-p.2.2.1*q.2.1+p.2.2.2*q.1).fdiv 2)
noncomputable def bc(q:Qd):Int:=(q.1*q.1+(q.2.1*q.2.1+(q.2.2.1*q.2.2.1+(q.2.2.2*q.2.2.2+0)))).fdiv 4
noncomputable def ay(q:Qd):Prop:=pL q.1 q.2.1 q.2.2.1 q.2.2.2
noncomputable def cR(M:Nat)(q:Qd):Prop:=q.1.natAbs<=M/\q.2.1.natAbs<=M/\q.2.2.1.natAbs<=M/\q.2.2.2.natAbs<=M
noncomputable def h8:Qd:=(2,0,0,0)
theorem cT(h:ay p)(g:ay q):∃P Q R S,p.1*q.1-p.2.1*q.2.1-p.2.2.1*q.2.2.1-p.2.2.2*q.2.2.2=2*P/\p.1*q.2.1+p.2.1*q.1+p.2.2.1*q.2.2.2-p.2.2.2*q.2.2.1=2*Q /\
  p.1*q.2.2.1-p.2.1*q.2.2.2+p.2.2.1*q.1+p.2.2.2*q.2.1=2*R/\p.1*q.2.2.2+p.2.1*q.2.2.1-p.2.2.1*q.2.1+p.2.2.2*q.1=2*S/\pL P Q R S/\bI p q=(P,Q,R,S):=by
 obtain⟨P,Q,R,S,h1,h2,h3,h4,h5⟩:=A2 h g
 exact⟨P,Q,R,S,h1,h2,h3,h4,h5,by unfold bI;rw[bL h1,bL h2,bL h3,bL h4]⟩
theorem fv(h:ay p)(g:ay q):ay (bI p q):=by
 obtain⟨P,Q,R,S,h1,h2,h3,h4,h5,e⟩:=cT h g
 rw[e];exact h5
theorem cD(h:ay p)(g:ay q)(k:ay r):bI (bI p q) r=bI p (bI q r):=by
 obtain⟨P,Q,R,S,hP,hQ,hR,hS,p1,e1⟩:=cT h g
 obtain⟨U,V,W,X,hU,hV,hW,hX,p2,e2⟩:=cT g k
 obtain⟨P2,Q2,R2,S2,kP,kQ,kR,kS,p3,e3⟩:=cT (p:=(P,Q,R,S)) p1 k
 obtain⟨P3,Q3,R3,S3,lP,lQ,lR,lS,p4,e4⟩:=cT (q:=(U,V,W,X)) h p2
 rw[e1,e2,e3,e4]
 obtain⟨q1,q2,q3,q4⟩:=Ld hP hQ hR hS kP kQ kR kS hU hV hW hX lP lQ lR lS
 rw[q1,q2,q3,q4]
theorem A8(q:Qd):bI h8 q=q:=by
 obtain⟨a,b,c,d⟩:=q
 show(_,_,_,_)=_
 rw[bL (P:=a) (by show 2*a-0*b-0*c-0*d=_;omega),bL (P:=b) (by show 2*b+0*a+0*d-0*c=_;omega),bL (P:=c) (by show 2*c-0*d+0*a+0*b=_;omega),bL (P:=d) (by show 2*d+0*c-0*b+0*a=_;omega)]
theorem Bb(q:Qd):bI q h8=q:=by
 obtain⟨a,b,c,d⟩:=q
 show(_,_,_,_)=_
 rw[bL (P:=a) (by show a*2-b*0-c*0-d*0=_;omega),bL (P:=b) (by show a*0+b*2+c*0-d*0=_;omega),bL (P:=c) (by show a*0-b*0+c*2+d*0=_;omega),bL (P:=d) (by show a*0+b*0-c*0+d*2=_;omega)]
theorem fB(h:ay p):∃t,p.1*p.1+(p.2.1*p.2.1+(p.2.2.1*p.2.2.1+(p.2.2.2*p.2.2.2+0)))=4*t/\bc p=t:=by
 obtain⟨t,ht⟩:=GX h
 exact⟨t,ht,by unfold bc;rw[ht,Qp]⟩
theorem mm(h:ay p)(g:ay q):bc (bI p q)=bc p*bc q:=by
 obtain⟨t1,h1,e1⟩:=fB h
 obtain⟨t2,h2,e2⟩:=fB g
 obtain⟨t3,h3,e3⟩:=fB (fv h g)
 rw[e1,e2,e3]
 obtain⟨P,Q,R,S,hP,hQ,hR,hS,p1,e⟩:=cT h g
 rw[e]at h3
 have eu:=KW p.1 p.2.1 p.2.2.1 p.2.2.2 q.1 q.2.1 q.2.2.1 q.2.2.2
 rw[hP,hQ,hR,hS,h1,h2]at eu
 have:4*(4*t3)=4*(4*(t1*t2)):=by rw[<- h3];clear e h3 e1 e2 e3 h1 h2 hP hQ hR hS p1 h g;grind
 omega
theorem bo(h:a.natAbs<=M)(g:e.natAbs<=N):(a*e).natAbs<=M*N:=by
 rw[Int.natAbs_mul];exact Nat.mul_le_mul h g
theorem Ql{K:Nat}(h1:x.natAbs<=K)(h2:y.natAbs<=K)(h3:z.natAbs<=K)(h4:w.natAbs<=K)(e:x-y-z-w=2*P):P.natAbs<=2*K:=by omega
theorem Qk{K:Nat}(h1:x.natAbs<=K)(h2:y.natAbs<=K)(h3:z.natAbs<=K)(h4:w.natAbs<=K)(e:x+y+z-w=2*P):P.natAbs<=2*K:=by omega
theorem Qj{K:Nat}(h1:x.natAbs<=K)(h2:y.natAbs<=K)(h3:z.natAbs<=K)(h4:w.natAbs<=K)(e:x-y+z+w=2*P):P.natAbs<=2*K:=by omega
theorem Qi{K:Nat}(h1:x.natAbs<=K)(h2:y.natAbs<=K)(h3:z.natAbs<=K)(h4:w.natAbs<=K)(e:x+y-z+w=2*P):P.natAbs<=2*K:=by omega
theorem vF(h:cR M p)(g:cR N q)(hp:ay p)(hq:ay q):cR (2*(M*N)) (bI p q):=by
 obtain⟨P,Q,R,S,hP,hQ,hR,hS,p1,e⟩:=cT hp hq
 rw[e]
 obtain⟨a1,a2,a3,a4⟩:=h
 obtain⟨b1,b2,b3,b4⟩:=g
 exact⟨Ql (bo a1 b1) (bo a2 b2) (bo a3 b3) (bo a4 b4) hP,Qk (bo a1 b2) (bo a2 b1) (bo a3 b4) (bo a4 b3) hQ,
  Qj (bo a1 b3) (bo a2 b4) (bo a3 b1) (bo a4 b2) hR,Qi (bo a1 b4) (bo a2 b3) (bo a3 b2) (bo a4 b1) hS⟩
theorem fi(h:cR M q)(hM:M<dO):bd q.1 q.2.1 q.2.2.1 q.2.2.2 :=
 ⟨Rb h.1 hM,Rb h.2.1 hM,Rb h.2.2.1 hM,Rb h.2.2.2 hM⟩
noncomputable def bM(q:Qd):Qd:=(q.1,-q.2.1,-q.2.2.1,-q.2.2.2)
noncomputable def cE(p q:Qd):Qd:=(p.1-q.1,p.2.1-q.2.1,p.2.2.1-q.2.2.1,p.2.2.2-q.2.2.2)
noncomputable def AC(p q:Qd):Qd:=(p.1+q.1,p.2.1+q.2.1,p.2.2.1+q.2.2.1,p.2.2.2+q.2.2.2)
noncomputable def bC(q:Qd)(n:Int):Qd:=(q.1*n,q.2.1*n,q.2.2.1*n,q.2.2.2*n)
noncomputable def aT(s:Bool)(p q:Qd):Qd:=if s=true then bI p q else bI q p
noncomputable def bF:Qd:=(0,0,0,0)
theorem jI(h1:p.1=q.1)(h2:p.2.1=q.2.1)(h3:p.2.2.1=q.2.2.1)(h4:p.2.2.2=q.2.2.2):p=q:=by
 obtain⟨a,b,c,d⟩:=p
 obtain⟨e,f,g,h⟩:=q
 cases h1;cases h2;cases h3;cases h4;rfl
theorem Ct(h:a=2*x+e)(g:b=2*y+f):a-b=2*(x-y)+(e-f):=by omega
theorem Cs(h:a=2*x+e)(g:b=2*y+f):a+b=2*(x+y)+(e+f):=by omega
theorem wD(h1:a=2*x+n)(h2:b=2*y+n)(h3:c=2*z+n)(h4:d=2*w+n):pL a b c d:=by
 have k:∀{u v:Int},u=2*v+n->u=2*(v+n / 2)+n % 2:=by omega
 exact⟨n % 2,_,_,_,_,Int.emod_two_eq n,k h1,k h2,k h3,k h4⟩
theorem GK(h:a=2*x+e):-a=2*(-x-e)+e:=by omega
theorem cV(h:ay q):ay (bM q):=by
 obtain⟨e,x,y,z,w,he,h1,h2,h3,h4⟩:=h
 exact⟨e,x,_,_,_,he,h1,GK h2,GK h3,GK h4⟩
theorem df(h:ay p)(g:ay q):ay (cE p q):=by
 obtain⟨e,x,y,z,w,he,h1,h2,h3,h4⟩:=h
 obtain⟨e',x',y',z',w',he',g1,g2,g3,g4⟩:=g
 exact wD (Ct h1 g1) (Ct h2 g2) (Ct h3 g3) (Ct h4 g4)
theorem A3(h:ay p)(g:ay q):ay (AC p q):=by
 obtain⟨e,x,y,z,w,he,h1,h2,h3,h4⟩:=h
 obtain⟨e',x',y',z',w',he',g1,g2,g3,g4⟩:=g
 exact wD (Cs h1 g1) (Cs h2 g2) (Cs h3 g3) (Cs h4 g4)
theorem Cq(he:e=0\/e=1)(h:a=2*x+e):a % 2=e:=by omega
theorem Ef:ay q↔q.2.1 % 2=q.1 % 2/\q.2.2.1 % 2=q.1 % 2/\q.2.2.2 % 2=q.1 % 2:=by
 constructor
 ·rintro⟨e,x,y,z,w,he,h1,h2,h3,h4⟩
  rw[Cq he h1,Cq he h2,Cq he h3,Cq he h4]
  exact⟨rfl,rfl,rfl⟩
 ·rintro⟨h1,h2,h3⟩
  have k:∀a:Int,a=2*(a / 2)+a % 2:=fun a=>(Int.mul_ediv_add_emod a 2).symm
  exact⟨q.1 % 2,_,_,_,_,Int.emod_two_eq _,k _,by rw[<- h1];exact k _,by rw[<- h2];exact k _,by rw[<- h3];exact k _⟩
theorem Cr(h:a=2*x+e):a*n=2*(x*n)+e*n:=by rw[h,Int.add_mul,Int.mul_assoc]
theorem gy(n:Int)(h:ay q):ay (bC q n):=by
 obtain⟨e,x,y,z,w,he,h1,h2,h3,h4⟩:=h
 exact wD (Cr h1) (Cr h2) (Cr h3) (Cr h4)
theorem jJ(h:ay p)(g:ay q):ay (aT s p q):=by
 unfold aT;split
 ·exact fv h g
 ·exact fv g h
theorem ld(h:a=2*P)(g:b=2*U)(k:c=2*P3)(e:c=a-b):P3=P-U:=by omega
theorem uN(h:ay p)(k:ay r)(g:ay q):bI (cE p r) q=cE (bI p q) (bI r q):=by
 obtain⟨P,Q,R,S,hP,hQ,hR,hS,_,e1⟩:=cT h g
 obtain⟨U,V,W,X,hU,hV,hW,hX,_,e2⟩:=cT k g
 obtain⟨P3,Q3,R3,S3,lP,lQ,lR,lS,_,e3⟩:=cT (df h k) g
 rw[e1,e2,e3]
 simp only[cE]at *
 clear e1 e2 e3 h k g
 refine jI ?_ ?_ ?_ ?_
 ·exact ld hP hU lP (by simp only[Sr,SE];omega)
 ·exact ld hQ hV lQ (by simp only[Sr,SE];omega)
 ·exact ld hR hW lR (by simp only[Sr,SE];omega)
 ·exact ld hS hX lS (by simp only[Sr,SE];omega)
theorem uM(h:ay p)(k:ay r)(g:ay q):bI q (cE p r)=cE (bI q p) (bI q r):=by
 obtain⟨P,Q,R,S,hP,hQ,hR,hS,_,e1⟩:=cT g h
 obtain⟨U,V,W,X,hU,hV,hW,hX,_,e2⟩:=cT g k
 obtain⟨P3,Q3,R3,S3,lP,lQ,lR,lS,_,e3⟩:=cT g (df h k)
 rw[e1,e2,e3]
 simp only[cE]at *
 clear e1 e2 e3 h k g
 refine jI ?_ ?_ ?_ ?_
 ·exact ld hP hU lP (by simp only[Sr,SE];omega)
 ·exact ld hQ hV lQ (by simp only[Sr,SE];omega)
 ·exact ld hR hW lR (by simp only[Sr,SE];omega)
 ·exact ld hS hX lS (by simp only[Sr,SE];omega)
theorem gm(k:Qd)(n:Int):bI k (2*n,0,0,0)=bC k n:=by
 obtain⟨a,b,c,d⟩:=k
 show(_,_,_,_)=(a*n,b*n,c*n,d*n)
 rw[bL (P:=a*n) (by show a*(2*n)-b*0-c*0-d*0=_;grind),bL (P:=b*n) (by show a*0+b*(2*n)+c*0-d*0=_;grind),bL (P:=c*n) (by show a*0-b*0+c*(2*n)+d*0=_;grind),bL (P:=d*n) (by show a*0+b*0-c*0+d*(2*n)=_;grind)]
theorem gn(k:Qd)(n:Int):bI (2*n,0,0,0) k=bC k n:=by
 obtain⟨a,b,c,d⟩:=k
 show(_,_,_,_)=(a*n,b*n,c*n,d*n)
 rw[bL (P:=a*n) (by show 2*n*a-0*b-0*c-0*d=_;grind),bL (P:=b*n) (by show 2*n*b+0*a+0*d-0*c=_;grind),bL (P:=c*n) (by show 2*n*c-0*d+0*a+0*b=_;grind),bL (P:=d*n) (by show 2*n*d+0*c-0*b+0*a=_;grind)]
theorem eI(h:ay q):bI q (bM q)=(2*bc q,0,0,0)/\bI (bM q) q=(2*bc q,0,0,0):=by
 obtain⟨t,ht,e⟩:=fB h
 obtain⟨a,b,c,d⟩:=q
 rw[e]
 simp only at ht
 constructor
 ·show(_,_,_,_)=_
  rw[bL (P:=2*t) (by show a*a-b * -b-c * -c-d * -d=_;grind),bL (P:=0) (by show a * -b+b*a+c * -d-d * -c=_;grind),bL (P:=0) (by show a * -c-b * -d+c*a+d * -b=_;grind),bL (P:=0) (by show a * -d+b * -c-c * -b+d*a=_;grind)]
 ·show(_,_,_,_)=_
  rw[bL (P:=2*t) (by show a*a - -b*b - -c*c - -d*d=_;grind),bL (P:=0) (by show a*b + -b*a + -c*d - -d*c=_;grind),bL (P:=0) (by show a*c - -b*d + -c*a + -d*b=_;grind),bL (P:=0) (by show a*d + -b*c - -c*b + -d*a=_;grind)]
theorem pP(q:Qd):bc (bM q)=bc q:=by unfold bc bM;simp only[Int.neg_mul_neg]
theorem iF(x:Int):0<=x*x:=by
 rcases Int.le_total 0 x with h|h
 ·exact SY h h
 ·have:=SY (show 0 <= -x by omega) (show 0 <= -x by omega);rwa [Int.neg_mul_neg]at this
theorem xN(h:ay q):0<=bc q:=by
 obtain⟨t,ht,e⟩:=fB h
 have:=iF q.1;have:=iF q.2.1;have:=iF q.2.2.1;have:=iF q.2.2.2
 omega
theorem mv(h:x*x=0):x=0:=by rcases Int.mul_eq_zero.mp h with h|h<;>exact h
theorem rR(h:ay q)(g:bc q=0):q=bF:=by
 obtain⟨t,ht,e⟩:=fB h
 have:=iF q.1;have:=iF q.2.1;have:=iF q.2.2.1;have:=iF q.2.2.2
 exact jI (mv (by omega)) (mv (by omega)) (mv (by omega)) (mv (by omega))
theorem gW(h:ay q)(g:q≠bF):0<bc q:=by
 have:=xN h
 have:bc q≠0:=fun z=>g (rR h z)
 omega
noncomputable def gD(x n:Int):Int:=(x+n).fdiv (2*n)*2
noncomputable def ia(x n:Int):Int:=x.fdiv (2*n)*2+1
noncomputable def gN(q:Qd)(n:Int):Qd:=(gD q.1 n,gD q.2.1 n,gD q.2.2.1 n,gD q.2.2.2 n)
noncomputable def iH(q:Qd)(n:Int):Qd:=(ia q.1 n,ia q.2.1 n,ia q.2.2.1 n,ia q.2.2.2 n)
noncomputable def fW(q t:Qd)(n:Int):Int:=bc (cE q (bC t n))
noncomputable def dR(q:Qd)(n:Int):Qd:=if fW q (gN q n) n<=fW q (iH q n) n then gN q n else iH q n
theorem iJ(h:0<n):(x-gD x n*n)*(x-gD x n*n)+(x-ia x n*n)*(x-ia x n*n)<=n*n:=by
 unfold gD ia
 rw[Q0 _ (by omega),Q0 _ (by omega)]
 have e:=Int.mul_ediv_add_emod x (2*n)
 have r0:=Int.emod_nonneg x (show 2*n≠0 by omega)
 have r1:=Int.emod_lt_of_pos x (show 0<2*n by omega)
 generalize x % (2*n)=r at *
 generalize hk:x / (2*n)=k at *
 have hx:x=2*n*k+r:=by omega
 by_cases hr:r<n
 ·have hd:(x+n) / (2*n)=k:=by
   rw[hx,show 2*n*k+r+n=(r+n)+2*n*k by omega,Sk _ _ (by omega),Int.ediv_eq_zero_of_lt (by omega) (by omega)];omega
  rw[hd]
  have h1:x-k*2*n=r:=by rw[hx];grind
  have h2:x-(k*2+1)*n=r-n:=by rw[hx];grind
  rw[h1,h2]
  have:=SY r0 (show 0<=n-r by omega)
  have e2:r*r+(r-n)*(r-n)=n*n-2*(r*(n-r)):=by grind
  omega
 ·have hd:(x+n) / (2*n)=k+1:=by
   rw[hx,show 2*n*k+r+n=(r-n)+2*n*(k+1) by grind,Sk _ _ (by omega),Int.ediv_eq_zero_of_lt (by omega) (by omega)];omega
  rw[hd]
  have h1:x-(k+1)*2*n=r-2*n:=by rw[hx];grind
  have h2:x-(k*2+1)*n=r-n:=by rw[hx];grind
  rw[h1,h2]
  have:=SY (show 0<=r-n by omega) (show 0<=2*n-r by omega)
  have e2:(r-2*n)*(r-2*n)+(r-n)*(r-n)=n*n-2*((r-n)*(2*n-r)):=by grind
  omega
theorem pW(q:Qd)(n:Int):ay (gN q n):=⟨0,(q.1+n).fdiv (2*n),(q.2.1+n).fdiv (2*n),(q.2.2.1+n).fdiv (2*n),(q.2.2.2+n).fdiv (2*n),.inl rfl,by simp only[gN,gD];omega,by simp only[gN,gD];omega,by simp only[gN,gD];omega,by simp only[gN,gD];omega⟩
theorem pV(q:Qd)(n:Int):ay (iH q n):=⟨1,q.1.fdiv (2*n),q.2.1.fdiv (2*n),q.2.2.1.fdiv (2*n),q.2.2.2.fdiv (2*n),.inr rfl,by simp only[iH,ia];omega,by simp only[iH,ia];omega,by simp only[iH,ia];omega,by simp only[iH,ia];omega⟩
theorem Eu(h:ay q)(g:0<n):ay (dR q n)/\2*fW q (dR q n) n<=n*n:=by
 have c1:=iJ (x:=q.1) g
 have c2:=iJ (x:=q.2.1) g
 have c3:=iJ (x:=q.2.2.1) g
 have c4:=iJ (x:=q.2.2.2) g
 obtain⟨t1,h1,e1⟩:=fB (df h (gy n (pW q n)))
 obtain⟨t2,h2,e2⟩:=fB (df h (gy n (pV q n)))
 have s1:fW q (gN q n) n=t1:=e1
 have s2:fW q (iH q n) n=t2:=e2
 simp only[cE,bC,gN,iH]at h1 h2
 have:t1+t2<=n*n:=by omega
 unfold dR
 split
 ·exact⟨pW q n,by rw[s1]at *;omega⟩
 ·exact⟨pV q n,by rw[s2]at *;omega⟩
theorem wL(h:ay k)(g:0<n):dR (bC k n) n=k:=by
 have hp:=gy n h
 obtain⟨e,x,y,z,w,he,h1,h2,h3,h4⟩:=h
 have ev:∀(a b:Int),a=2*b->gD (a*n) n=a:=fun a b hab=>by
  unfold gD
  rw[Q0 _ (by omega),hab,show 2*b*n+n=n+2*n*b by grind,Sk _ _ (by omega),Int.ediv_eq_zero_of_lt (by omega) (by omega)];omega
 have od:∀(a b:Int),a=2*b+1->ia (a*n) n=a:=fun a b hab=>by
  unfold ia
  rw[Q0 _ (by omega),hab,show(2*b+1)*n=n+2*n*b by grind,Sk _ _ (by omega),Int.ediv_eq_zero_of_lt (by omega) (by omega)];omega
 have eo:∀(a b:Int),a=2*b+1->a*n-gD (a*n) n*n = -n:=fun a b hab=>by
  unfold gD
  rw[Q0 _ (by omega),hab,show(2*b+1)*n+n=0+2*n*(b+1) by grind,Sk _ _ (by omega),Int.zero_ediv];grind
 have zz:fW (bC k n) k n=0:=by
  unfold fW cE bC bc
  simp only[Int.sub_self];decide
 rcases he with rfl|rfl
 ·have hev:gN (bC k n) n=k:=jI (ev _ x (by omega)) (ev _ y (by omega)) (ev _ z (by omega)) (ev _ w (by omega))
  unfold dR
  rw[hev,zz,if_pos]
  exact xN (df hp (gy n (pV _ n)))
 ·have hod:iH (bC k n) n=k:=jI (od _ x (by omega)) (od _ y (by omega)) (od _ z (by omega)) (od _ w (by omega))
  obtain⟨t,ht,e⟩:=fB (df hp (gy n (pW (bC k n) n)))
  have s1:fW (bC k n) (gN (bC k n) n) n=t:=e
  simp only[cE,gN]at ht
  simp only[bC]at ht
  rw[eo _ x (by omega),eo _ y (by omega),eo _ z (by omega),eo _ w (by omega),Int.neg_mul_neg]at ht
  have:=Int.mul_pos g g
  unfold dR
  rw[hod,zz,s1,if_neg (by omega)]
noncomputable def fE(s:Bool)(p q:Qd):Qd:=dR (aT s p (bM q)) (bc q)
noncomputable def e9(s:Bool)(p q:Qd):Qd:=cE p (aT s (fE s p q) q)
theorem nZ(hp:ay p)(hq:ay q)(hk:ay k):aT s (cE p (aT s k q)) (bM q)=cE (aT s p (bM q)) (bC k (bc q)):=by
 have hb:=cV hq
 unfold aT
 cases s with
 | true =>
  simp only[if_true]
  rw[uN hp (fv hk hq) hb,cD hk hq hb,(eI hq).1,gm]
 | false =>
  simp only[Ro,S5]
  rw[uM hp (fv hq hk) hb,<- cD hb hq hk,(eI hq).2,gn]
theorem mq(hp:ay p)(hq:ay q):bc (aT s p q)=bc p*bc q:=by
 unfold aT
 split
 ·exact mm hp hq
 ·rw[mm hq hp,Int.mul_comm]
theorem zt(hp:ay p)(hq:ay q)(h0:q≠bF):ay (fE s p q)/\ay (e9 s p q)/\2*bc (e9 s p q)<=bc q:=by
 have hn:=gW hq h0
 obtain⟨hk,hs⟩:=Eu (jJ (s:=s) hp (cV hq)) hn
 have hr:ay (e9 s p q):=df hp (jJ hk hq)
 refine⟨hk,hr,?_⟩
 have e:=mq (s:=s) hr (cV hq)
 rw[pP]at e
 have e2:bc (aT s (e9 s p q) (bM q))=fW (aT s p (bM q)) (fE s p q) (bc q):=by
  unfold e9 fW
  rw[nZ (k:=fE s p q) hp hq hk]
 rw[e]at e2
 have hs':2*(bc (e9 s p q)*bc q)<=bc q*bc q:=by rw[e2];exact hs
 have h3:2*bc (e9 s p q)*bc q<=bc q*bc q:=by rw[Int.mul_assoc];exact hs'
 exact Int.le_of_mul_le_mul_right h3 hn
theorem zu(hp:ay p)(hq:ay q)(h0:q≠bF)(hk:ay k)(h:aT s p (bM q)=bC k (bc q)):fE s p q=k/\e9 s p q=bF:=by
 have hn:=gW hq h0
 have e1:fE s p q=k:=by unfold fE;rw[h,wL hk hn]
 have hr:ay (e9 s p q):=df hp (jJ (by rw[e1];exact hk) hq)
 refine⟨e1,rR hr ?_⟩
 have e:=mq (s:=s) hr (cV hq)
 have e2:=nZ (s:=s) hp hq hk
 have e3:aT s (e9 s p q) (bM q)=bF:=by
  unfold e9
  rw[e1,e2,h]
  unfold cE bF
  simp only[Int.sub_self]
 rw[e3,pP]at e
 have:bc bF=0:=by decide
 rw[this]at e
 rcases Int.mul_eq_zero.mp e.symm with z|z
 ·exact z
 ·omega
noncomputable abbrev yj(q t:Qd)(n:Int):Prop:=en t/\n.natAbs<dO/\en (cE q (bC t n))
noncomputable abbrev A9(q:Qd)(n:Int):Prop:=0<n/\(2*n).natAbs<dO/\yj q (gN q n) n/\yj q (iH q n) n
noncomputable abbrev okD(s:Bool)(p q:Qd):Prop:=en p/\en q/\en (bM q)/\A9 (aT s p (bM q)) (bc q)/\en (fE s p q)
theorem eJ(h:cR M q)(g:M<=N):cR N q:=⟨QR h.1 g,QR h.2.1 g,QR h.2.2.1 g,QR h.2.2.2 g⟩
theorem vG(h:cR M q):cR M (bM q):=⟨h.1,by simp only[bM,Int.natAbs_neg];exact h.2.1,by simp only[bM,Int.natAbs_neg];exact h.2.2.1,by simp only[bM,Int.natAbs_neg];exact h.2.2.2⟩
theorem EE(h:cR M p)(g:cR N q)(hp:ay p)(hq:ay q):cR (2*(M*N)) (aT s p q):=by
 unfold aT;split
 ·exact vF h g hp hq
 ·rw[Nat.mul_comm M N];exact vF g h hq hp
theorem wN(h:x.natAbs<=M)(g:y.natAbs<=N):(x-y).natAbs<=M+N:=by omega
theorem wM(h:x.natAbs<=M)(g:y.natAbs<=N):(x+y).natAbs<=M+N:=by omega
theorem n9(h:cR M p)(g:cR N q):cR (M+N) (cE p q):=⟨wN h.1 g.1,wN h.2.1 g.2.1,wN h.2.2.1 g.2.2.1,wN h.2.2.2 g.2.2.2⟩
theorem EC(h:cR M p)(g:cR N q):cR (M+N) (AC p q):=⟨wM h.1 g.1,wM h.2.1 g.2.1,wM h.2.2.1 g.2.2.1,wM h.2.2.2 g.2.2.2⟩
theorem sR(h:cR M q)(g:n.natAbs<=N):cR (M*N) (bC q n):=⟨bo h.1 g,bo h.2.1 g,bo h.2.2.1 g,bo h.2.2.2 g⟩
theorem vW(x:Int)(h:0<n):(x.fdiv n).natAbs<=x.natAbs:=by
 rw[Q0 _ (by omega)]
 exact Int.natAbs_ediv_le_natAbs x n
theorem yB(h:cR M q)(g:n.natAbs<=N)(hn:0<n):cR (2*(M+N)) (gN q n):=by
 have k:∀x:Int,x.natAbs<=M->(gD x n).natAbs<=2*(M+N):=fun x hx=>by
  have:=vW (x+n) (show 0<2*n by omega)
  unfold gD;omega
 exact⟨k _ h.1,k _ h.2.1,k _ h.2.2.1,k _ h.2.2.2⟩
theorem yA(h:cR M q)(hn:0<n):cR (2*M+1) (iH q n):=by
 have k:∀x:Int,x.natAbs<=M->(ia x n).natAbs<=2*M+1:=fun x hx=>by
  have:=vW x (show 0<2*n by omega)
  unfold ia;omega
 exact⟨k _ h.1,k _ h.2.1,k _ h.2.2.1,k _ h.2.2.2⟩
theorem Bh(h:cR M q)(g:n.natAbs<=N)(hn:0<n):cR (2*(M+N)+1) (dR q n):=by
 unfold dR;split
 ·exact eJ (yB h g hn) (by omega)
 ·exact eJ (yA h hn) (by omega)
theorem Gj(h:cR M q):(bc q).natAbs<=M*M:=by
 obtain⟨a1,a2,a3,a4⟩:=h
 have c1:=bo a1 a1;have c2:=bo a2 a2;have c3:=bo a3 a3;have c4':=bo a4 a4
 unfold bc
 rw[Q0 _ (by decide)]
 generalize q.1*q.1=x at *
 generalize q.2.1*q.2.1=y at *
 generalize q.2.2.1*q.2.2.1=z at *
 generalize q.2.2.2*q.2.2.2=w at *
 generalize M*M=K at *
 omega
theorem bX(h:cR M q)(g:n.natAbs<=M)(hn:0<n)(hM:4*M+1+(4*M+1)*M<dO):A9 q n:=by
 have hM0:4*M+1<dO:=Rb (RO _ _) hM
 have e1:cR (4*M+1) (gN q n):=eJ (yB h g hn) (by omega)
 have e2:cR (4*M+1) (iH q n):=eJ (yA h hn) (by omega)
 refine⟨hn,by omega,⟨fi e1 hM0,by omega,?_⟩,fi e2 hM0,by omega,?_⟩
 ·exact fi (eJ (n9 h (sR e1 g)) (by omega)) hM
 ·exact fi (eJ (n9 h (sR e2 g)) (by omega)) hM
noncomputable def Jq(L:Nat):Prop:=1<=L/\4*(2*(L*L))+1+(4*(2*(L*L))+1)*(2*(L*L))<dO
theorem G9{L:Nat}(hp:ay p)(hq:ay q)(h0:q≠bF)(h:cR L p)(g:cR L q)(hL:Jq L):okD s p q:=by
 obtain⟨h1,hL⟩:=hL
 have hn:=gW hq h0
 have hLL:L<=L*L:=Nat.le_mul_of_pos_left L h1
 have hb:4*(2*(L*L))+1<dO:=Rb (RO _ _) hL
 have hLb:L<dO:=by omega
 have w:=EE (s:=s) h (vG g) hp (cV hq)
 have sz:=Gj g
 refine⟨fi h hLb,fi g hLb,fi (vG g) hLb,bX w (by omega) hn hL,?_⟩
 unfold fE
 exact fi (eJ (Bh w (N:=2*(L*L)) (by omega) hn) (by omega)) hb
theorem BF{n:Nat}(h:n<=2000):Jq (2 ^ n):=by
 refine⟨Nat.one_le_two_pow,?_⟩
 have e:2 ^ n*2 ^ n=2 ^ (n+n):=(Nat.pow_add 2 n n).symm
 rw[e]
 have k:2 ^ (n+n)<=2 ^ 4000:=Sn (by decide) (by omega)
 generalize 2 ^ (n+n)=x at k
 have b1:(4*(2*x)+1)*(2*x)<=9*2 ^ 4000*(2*2 ^ 4000):=Nat.mul_le_mul (by have:1<=2 ^ 4000:=Nat.one_le_two_pow;omega) (by omega)
 have b2:9*2 ^ 4000*(2*2 ^ 4000)=18*2 ^ 8000:=by rw[show(8000:Nat)=4000+4000 from rfl,Nat.pow_add];generalize 2 ^ 4000=y;grind
 have b3:2 ^ 4000<=2 ^ 8000:=Sn (by decide) (by decide)
 have b4:32*2 ^ 8000=2 ^ 8005:=by rw[show(8005:Nat)=5+8000 from rfl,Nat.pow_add 2 5 8000]
 have b5:2 ^ 8005<dO:=Nat.pow_lt_pow_right (by decide) (by decide)
 have b6:1<=2 ^ 8000:=Nat.one_le_two_pow
 rw[b2]at b1
 generalize 2 ^ 4000=y at *
 generalize 2 ^ 8000=z at *
 generalize (4*(2*x)+1)*(2*x)=w at *
 omega
noncomputable def qm(q:Qd)(n:Int):Qd:=(q.1.fdiv n,q.2.1.fdiv n,q.2.2.1.fdiv n,q.2.2.2.fdiv n)
noncomputable abbrev Hd(q:Qd)(n:Int):Prop:=q.1.fmod n=0/\q.2.1.fmod n=0/\q.2.2.1.fmod n=0/\q.2.2.2.fmod n=0
noncomputable abbrev wE(q:Qd):Prop:=q.2.1.fmod 2=q.1.fmod 2/\q.2.2.1.fmod 2=q.1.fmod 2/\q.2.2.2.fmod 2=q.1.fmod 2
noncomputable def zh(W:Qd)(n:Int):D:=if Hd W n/\wE (qm W n)then dq (qm W n)else .non
noncomputable def sZ(s:Bool)(p q:Qd):D:=zh (aT s p (bM q)) (bc q)
theorem n6:wE q↔ay q:=by
 rw[Ef];unfold wE;simp only[Int.fmod_eq_emod_of_nonneg _ (show(0:Int)<=2 by decide)]
theorem bP(a:Int)(h:0<n):(a*n).fmod n=0/\(a*n).fdiv n=a:=by
 rw[Int.fmod_eq_emod_of_nonneg _ (by omega),Q0 _ (by omega)]
 exact⟨Int.mul_emod_left _ _,Int.mul_ediv_cancel _ (by omega)⟩
theorem Fa{W:Qd}(hn:0<n)(hk:ay k)(h:W=bC k n):zh W n=dq k:=by
 subst h
 have hd:qm (bC k n) n=k:=jI (bP _ hn).2 (bP _ hn).2 (bP _ hn).2 (bP _ hn).2
 unfold zh
 rw[hd,if_pos ⟨⟨(bP _ hn).1,(bP _ hn).1,(bP _ hn).1,(bP _ hn).1⟩,n6.mpr hk⟩]
theorem Bu{W:Qd}(hn:0<n):(∃k,ay k/\W=bC k n/\zh W n=dq k)\/(zh W n=.non/\∀k,ay k->W≠bC k n):=by
 by_cases h:Hd W n/\wE (qm W n)
 ·refine .inl ⟨qm W n,n6.mp h.2,?_,if_pos h⟩
  have e:∀x:Int,x.fmod n=0->x=x.fdiv n*n:=fun x hx=>by
   have:=Int.mul_fdiv_add_fmod x n
   rw[hx,Int.add_zero,Int.mul_comm]at this;exact this.symm
  exact jI (e _ h.1.1) (e _ h.1.2.1) (e _ h.1.2.2.1) (e _ h.1.2.2.2)
 ·refine .inr ⟨if_neg h,fun k hk e=>h ?_⟩
  have hd:qm (bC k n) n=k:=jI (bP _ hn).2 (bP _ hn).2 (bP _ hn).2 (bP _ hn).2
  subst e
  exact⟨⟨(bP _ hn).1,(bP _ hn).1,(bP _ hn).1,(bP _ hn).1⟩,by rw[hd];exact n6.mpr hk⟩
noncomputable def jQ(s:Bool)(p q:Qd):D:=if e9 s p q=bF then dq (fE s p q)else .non
theorem tf(h:cE p q=bF):p=q:=by
 unfold cE bF at h
 have h1:=RC (·.1) h
 have h2:=RC (·.2.1) h
 have h3:=RC (·.2.2.1) h
 have h4:=RC (·.2.2.2) h
 simp only at h1 h2 h3 h4
 exact jI (by omega) (by omega) (by omega) (by omega)
theorem vB(q:Qd):bI bF q=bF/\bI q bF=bF:=by
 unfold bI bF
 simp only[Int.zero_mul,Int.mul_zero,Int.sub_zero,Int.add_zero]
 exact⟨by decide,by decide⟩
theorem Fw(s:Bool)(q:Qd):aT s bF q=bF:=by
 unfold aT;split
 ·exact(vB q).1
 ·exact(vB q).2
theorem E6(hp:ay p)(hq:ay q)(h0:q≠bF):jQ s p q=sZ s p q:=by
 obtain⟨d1,d2,_⟩:=zt (s:=s) hp hq h0
 rcases Bu (W:=aT s p (bM q)) (gW hq h0)with⟨k,k1,k2,k3⟩|⟨k1,k2⟩
 ·obtain⟨e1,e2⟩:=zu hp hq h0 k1 k2
  unfold jQ sZ
  rw[if_pos e2,e1,k3]
 ·unfold sZ
  rw[k1]
  refine if_neg fun e=>k2 _ d1 (tf ?_)
  rw[<- nZ hp hq d1]
  show aT s (e9 s p q) (bM q)=_
  rw[e,Fw]
theorem BG(hq:ay q):aT s q (bM q)=bC h8 (bc q):=by
 have e:bC h8 (bc q)=(2*bc q,0,0,0):=by unfold bC h8;simp
 rw[e]
 unfold aT;split
 ·exact(eI hq).1
 ·exact(eI hq).2
theorem zK(h:ay p)(g:ay q)(k:ay r):aT s (aT s p q) r=aT s p (aT s q r):=by
 unfold aT;cases s
 ·exact(cD k g h).symm
 ·exact cD h g k
theorem yy(n:Int):bC h8 n=(2*n,0,0,0):=by unfold bC h8;simp
theorem Bl{d u:Qd}(hu:ay u)(hd:ay d)(h0:d≠bF)(h:p=aT s u d):sZ s p d=dq u:=by
 unfold sZ
 refine Fa (gW hd h0) hu ?_
 rw[h,zK hu hd (cV hd),BG hd,yy]
 unfold aT;split
 ·exact gm u _
 ·exact gn u _
noncomputable def Ck(s:Bool):Str:=match s with|true => "right" | false => "left"
noncomputable def fC(x:Str):Option Bool:=if x=Str.ofString "right" then some true else if x=Str.ofString "left" then some false else none
noncomputable def dS(s:Bool):D:=.str (Ck s)
noncomputable def C6:Dc Bool:=⟨fun | .str x=>fC x|_=>none,dS,fun x a h=>by
 cases x<;>try cases h
 rename_i x
 replace h:fC x=some a:=h
 unfold fC at h
 split at h
 ·rename_i e;cases h;rw[e];rfl
 ·split at h
  ·rename_i e;cases h;rw[e];rfl
  ·cases h⟩
theorem Hb(h:a=b):(!gE (.int a) (.int b))=false:=by rw[h];simp

theorem zi{Φ:Fx}{sc:Scope}{ρ:ac}{a b:Expr}{op:Operator}{p:Pos}{it:Bool}{x y:D}{k j:Nat}{r:D×Nat}(ha:aa (av Φ a false sc ρ) (x,k))(hb:aa (av Φ b false sc ρ) (y,j))(h:aa (uf op x y k j) r):aa (av Φ (.BinOp a op b p) it sc ρ) r:=aa.bnd ha (aa.bnd hb h)
theorem xh{α:Type}{f:α->D}{l:List α}{i:Int}(h0:0<=i)(h1:i<l.length):∃x∈l,L2.atI (l.map f) i=some (f x):=by
 obtain⟨j,rfl⟩:=Int.eq_ofNat_of_zero_le h0
 have hj:j<l.length:=by omega
 exact⟨l[j],List.getElem_mem _,v8 (by simp[hj])⟩
noncomputable def gQ(n:Nat)(q:Qd):Prop:=ay q/\cR (2 ^ n) q
theorem gQ.mono{n:Nat}(h:gQ m q)(g:m<=n):gQ n q:=⟨h.1,eJ h.2 (Sn (by decide) g)⟩
theorem gQ.bd{n:Nat}(h:gQ n q)(g:n<9000):en q:=fi h.2 (Nat.pow_lt_pow_right (by decide) g)
theorem gQ.sum{n:Nat}(h:gQ n p)(g:gQ n q):gQ (n+1) (AC p q):=⟨A3 h.1 g.1,by rw[Nat.pow_succ,Nat.mul_two];exact EC h.2 g.2⟩
theorem gQ.less{n:Nat}(h:gQ n p)(g:gQ n q):gQ (n+1) (cE p q):=⟨df h.1 g.1,by rw[Nat.pow_succ,Nat.mul_two];exact n9 h.2 g.2⟩
theorem pE{n:Nat}(h:n<=2 ^ m)(hm:m<9000):n<dO:=Rb h (Nat.pow_lt_pow_right (by decide) hm)
open Builtin.Int (intBits)


noncomputable def bG:List Qd:=[(-2,0,0,0),(-1,-1,-1,-1),(-1,-1,-1,1),(-1,-1,1,-1),(-1,-1,1,1),(-1,1,-1,-1),(-1,1,-1,1),(-1,1,1,-1),(-1,1,1,1),(0,-2,0,0),(0,0,-2,0),(0,0,0,-2),(0,0,0,2),(0,0,2,0),(0,2,0,0),(1,-1,-1,-1),(1,-1,-1,1),(1,-1,1,-1),(1,-1,1,1),(1,1,-1,-1),(1,1,-1,1),(1,1,1,-1),(1,1,1,1),(2,0,0,0)]
noncomputable def B8:List (List Int):=[[-2,0,0,0],[0,-2,0,0],[0,0,-2,0],[0,0,0,-2],[2,0,0,0],[0,2,0,0],[0,0,2,0],[0,0,0,2],[-1,-1,-1,-1],[-1,-1,-1,1],[-1,-1,1,-1],[-1,-1,1,1],[-1,1,-1,-1],[-1,1,-1,1],[-1,1,1,-1],[-1,1,1,1],[1,-1,-1,-1],[1,-1,-1,1],[1,-1,1,-1],[1,-1,1,1],[1,1,-1,-1],[1,1,-1,1],[1,1,1,-1],[1,1,1,1]]
noncomputable abbrev B9:List D:=[.tup [.int (-2),.int 0,.int 0,.int 0],.tup [.int 0,.int (-2),.int 0,.int 0],.tup [.int 0,.int 0,.int (-2),.int 0],.tup [.int 0,.int 0,.int 0,.int (-2)],.tup [.int 2,.int 0,.int 0,.int 0],.tup [.int 0,.int 2,.int 0,.int 0],.tup [.int 0,.int 0,.int 2,.int 0],.tup [.int 0,.int 0,.int 0,.int 2],.tup [.int (-1),.int (-1),.int (-1),.int (-1)],.tup [.int (-1),.int (-1),.int (-1),.int 1],.tup [.int (-1),.int (-1),.int 1,.int (-1)],.tup [.int (-1),.int (-1),.int 1,.int 1],.tup [.int (-1),.int 1,.int (-1),.int (-1)],.tup [.int (-1),.int 1,.int (-1),.int 1],.tup [.int (-1),.int 1,.int 1,.int (-1)],.tup [.int (-1),.int 1,.int 1,.int 1],.tup [.int 1,.int (-1),.int (-1),.int (-1)],.tup [.int 1,.int (-1),.int (-1),.int 1],.tup [.int 1,.int (-1),.int 1,.int (-1)],.tup [.int 1,.int (-1),.int 1,.int 1],.tup [.int 1,.int 1,.int (-1),.int (-1)],.tup [.int 1,.int 1,.int (-1),.int 1],.tup [.int 1,.int 1,.int 1,.int (-1)],.tup [.int 1,.int 1,.int 1,.int 1]]
theorem par_of(h:p.1 % 2=p.2.1 % 2/\p.1 % 2=p.2.2.1 % 2/\p.1 % 2=p.2.2.2 % 2):ay p :=
 ⟨p.1 % 2,p.1 / 2,p.2.1 / 2,p.2.2.1 / 2,p.2.2.2 / 2,by omega,by omega,by omega,by omega,by omega⟩
theorem A7:∀p∈bG,(p.1 % 2=p.2.1 % 2/\p.1 % 2=p.2.2.1 % 2/\p.1 % 2=p.2.2.2 % 2)/\bc p=1/\p.1.natAbs<=2/\p.2.1.natAbs<=2/\p.2.2.1.natAbs<=2/\p.2.2.2.natAbs<=2:=by decide +kernel
theorem sL:∀p∈bG,∀q∈bG,bI p q∈bG:=by decide +kernel
theorem dG(h:p∈bG):ay p/\bc p=1/\en p:=by
 obtain⟨h1,h2,h3,h4,h5,h6⟩:=A7 p h
 exact⟨par_of h1,h2,pE (m:=1) h3 (by decide),pE (m:=1) h4 (by decide),pE (m:=1) h5 (by decide),pE (m:=1) h6 (by decide)⟩
noncomputable def l4(p:Qd):List Int:=[p.1,p.2.1,p.2.2.1,p.2.2.2]
end K
namespace K
open PySem PySem.Spec PyProof.Rows L2 Sp Qm

end K
namespace K
open PySem L2 Sp Qm
variable{P Q:ac->Prop}{s:Stmt}
section
variable{Φ:Fx}{sc:Scope}{ρ ρ1:ac}{ss:List Stmt}
theorem KG{c:Expr}{a b:List Stmt}{p:Pos}{t:Bool}{k:Nat}(hc:aa (av Φ c false sc ρ) (.bl t,k))(h1:t=true->∃ρ',aa (az Φ a sc ρ) (.nx ρ')/\P ρ')(h2:t=false->∃ρ',aa (az Φ b sc ρ) (.nx ρ')/\P ρ'):∃ρ',aa (e8 Φ (.If c a b p) sc ρ) (.nx ρ')/\P ρ':=by
 have key:∀x,aa (cond t (az Φ a sc ρ) (az Φ b sc ρ)) x->aa (e8 Φ (.If c a b p) sc ρ) x:=fun x hx=>aa.bnd hc hx
 cases t with
 | true=>obtain⟨ρ',h,q⟩:=h1 rfl;exact⟨ρ',key _ h,q⟩
 | false=>obtain⟨ρ',h,q⟩:=h2 rfl;exact⟨ρ',key _ h,q⟩
theorem jg(h:P ρ):∃ρ',aa (az Φ [] sc ρ) (.nx ρ')/\P ρ':=⟨ρ,dB,h⟩
theorem oQ(h:∃ρ1,aa (e8 Φ s sc ρ) (.nx ρ1)/\P ρ1)(k:∀ρ1,P ρ1->∃ρ2,aa (az Φ ss sc ρ1) (.nx ρ2)/\Q ρ2):∃ρ2,aa (az Φ (s::ss) sc ρ) (.nx ρ2)/\Q ρ2:=by
 obtain⟨ρ1,h1,h2⟩:=h
 obtain⟨ρ2,h3,h4⟩:=k ρ1 h2
 exact⟨ρ2,bY h1 h3,h4⟩
theorem wK(h:aa (e8 Φ s sc ρ) (.nx ρ1))(k:∃ρ2,aa (az Φ ss sc ρ1) (.nx ρ2)/\Q ρ2):∃ρ2,aa (az Φ (s::ss) sc ρ) (.nx ρ2)/\Q ρ2:=by
 obtain⟨ρ2,h3,h4⟩:=k
 exact⟨ρ2,bY h h3,h4⟩
theorem yn(n:Nat)(h:aa (az Φ (ss.take n) sc ρ) (.nx ρ1))(k:∃ρ2,aa (az Φ (ss.drop n) sc ρ1) (.nx ρ2)/\Q ρ2):∃ρ2,aa (az Φ ss sc ρ) (.nx ρ2)/\Q ρ2:=by
 obtain⟨ρ2,h3,h4⟩:=k
 exact⟨ρ2,dC n h h3,h4⟩
theorem vz(n:Nat)(h:aa (az Φ (ss.take n) sc ρ) (.nx ρ1))(i:P ρ1)(k:∀ρ1,P ρ1->∃ρ2,aa (az Φ (ss.drop n) sc ρ1) (.nx ρ2)/\Q ρ2):∃ρ2,aa (az Φ ss sc ρ) (.nx ρ2)/\Q ρ2:=yn n h (k _ i)
end
end K
namespace Sp
open PySem PySem.Spec PyProof.Rows L2
variable{X:Cx}
end Sp
namespace K
open PySem L2 Sp Qm
variable{it s:Bool}{k n:Nat}{g p q u v:Qd}{d:D}{α:Type}{tg:Expr}{args:List Expr}{ds l:List D}{N a b o:Int}{t:List Int}
section
variable{Φ:Fx}{sc:Scope}{ρ ρ1:ac}{ss:List Stmt}
theorem gQ.okD(h:gQ n p)(g:gQ n q)(h0:q≠bF)(hn:n<=2000):okD s p q:=G9 h.1 g.1 h0 h.2 g.2 (BF hn)
theorem E9{k:Qd}(hk:ay k)(hq:ay q)(h0:q≠bF)(h:p=aT s k q):jQ s p q=dq k:=by
 rw[E6 (h ▸ jJ hk hq) hq h0]
 exact Bl hk hq h0 h
end
section
variable{Φ:Fx}{sc:Scope}{ρ ρ1:ac}{ss:List Stmt}{P Q:ac->Prop}
noncomputable def CY:Stmt->Expr
 | .For t _ _ _ _=>t
 | _=>.Name (Str.ofString "") ⟨0,0,0,0⟩
noncomputable def mY:Stmt->Expr
 | .For _ i _ _ _=>i
 | _=>.Name (Str.ofString "") ⟨0,0,0,0⟩
noncomputable def cx:Stmt->List Stmt
 | .For _ _ b _ _=>b
 | _=>[]
theorem wZ{a:Expr}{p:Pos}{b c:Bool}(h:aa (av Φ a false sc ρ) (.bl b,k))(e:(!b)=c):aa (av Φ (.UnaryOp .Not a p) it sc ρ) (.bl c,0):=by
 subst e
 exact(show aa (Rs.bnd (av Φ a false sc ρ) fun p=>(match xD .Not p.1 with|some d=>.ok (d,0) []|none=>.st)) (.bl (!b),0)from aa.bnd h dy)
theorem Qh(n:Nat)(h:∃ρ1,aa (az Φ (ss.take n) sc ρ) (.nx ρ1)/\Q ρ1)(k:∀ρ1,Q ρ1->aa (az Φ (ss.drop n) sc ρ1) (.rt d)):aa (az Φ ss sc ρ) (.rt d):=by
 obtain⟨ρ1,h1,q⟩:=h
 exact dC n h1 (k ρ1 q)
theorem zU{α β:Type}{h:α->D}{g:α->List β}{T:List β}{bind:D->ac->Option ac}{body:ac->Rs Fl}(Q:List β->ac->Prop):∀(xs:List α) (F R:List β) (ρ:ac),(∀x∈xs,∀F R ρ,F++(g x++R)=T->Q F ρ->∃ρ1,bind (h x) ρ=some ρ1/\∃ρ2,aa (body ρ1) (.nx ρ2)/\Q (F++g x) ρ2)->F++(xs.flatMap g++R)=T->Q F ρ->∃ρ',aa (fc bind body (xs.map h) ρ) (.nx ρ')/\Q (F++xs.flatMap g) ρ'
 | [],F,R,ρ,_,_,q=>⟨ρ,dy,by simpa using q⟩
 | x::xs,F,R,ρ,st,e,q=>by
  rw[RK,Q5]at e
  obtain⟨ρ1,h1,ρ2,h2,q2⟩:=st x Qy F _ ρ e q
  obtain⟨ρ',h3,q3⟩:=zU Q xs (F++g x) R ρ2 (fun y hy=>st y (Qz _ hy)) (by rw[<- e];simp only[Q5]) q2
  refine⟨ρ',?_,by rw[RK,<- Q5];exact q3⟩
  rw[QU,fc,h1]
  exact aa.bnd h2 h3
theorem qg{β:Type}{h:α->D}{g:α->List β}{T:List β}{it:Expr}{body:List Stmt}{p:Pos}(Q:List β->ac->Prop)(xs:List α){F R:List β}(hi:aa (av Φ it true sc (demote it ρ)) (d,k))(hd:items d=some (xs.map h))(q:Q F (demote it ρ))(e:F++(xs.flatMap g++R)=T)(st:∀x∈xs,∀F R ρ,F++(g x++R)=T->Q F ρ->∃ρ1,bK sc tg (h x) ρ=some ρ1/\∃ρ2,aa (az Φ body sc ρ1) (.nx ρ2)/\Q (F++g x) ρ2)
  (hk:k<=1:=by first|exact QA 1|exact QN 1) (ht:fq it tg=true:=by rfl):∃ρ',aa (e8 Φ (.For tg it body [] p) sc ρ) (.nx ρ')/\Q (F++xs.flatMap g) ρ':=by
 obtain⟨ρ',h1,h2⟩:=zU (bind:=bK sc tg) (body:=az Φ body sc) Q xs F R _ st e q
 exact⟨ρ',zf hi hd hk ht h1,h2⟩
theorem CZ{f:Str}{p q:Pos}{B:List D->Nat->R1}{v:D×Nat}(ha:aa (bQ Φ args sc ρ) (ds,k))(hv:aa (B ds k) v)(hF:Φ.fn f=none:=by rfl)(hI:Φ.itr f=some B:=by rfl)(hg:sc.names.lookup f=some .globalImplicit:=by rfl):aa (av Φ (.Call (.Name f p) args [] q) true sc ρ) v:=by
 rw[ik,if_pos hg]
 refine aa.bnd ha ?_
 unfold jV
 dsimp only
 rw[hF]
 dsimp only
 rw[if_pos rfl,hI]
 exact hv
theorem tQ{x m:Str}{p ap cp q:Pos}{M:List D->List D->Nat->Rs (List D)}{l':List D}(ha:aa (bQ Φ args sc ρ) (ds,k))(hx:ρ x=some (.lst l,true))(h:aa (M l ds k) l')(hm:Φ.mtt m=some M:=by rfl)(hp:(ap.endLine==cp.line)=true:=by rfl)(hn:dw x=true:=by rfl):aa (e8 Φ (.Expr (.Call (.Attribute (.Name x p) m ap) args [] cp) q) sc ρ) (.nx (aI ρ x (.lst l',true))):=by
  show aa (if (ap.endLine==cp.line)=true then(bQ Φ args sc ρ).bnd fun p=>(match Φ.mtt m with
      | some M=>pX ρ x fun l=>(M l p.1 p.2).bnd fun l'=>.ok (.nx (aI ρ x (.lst l',true))) []
      | none=>.st)else .st) _
  rw[if_pos hp]
  refine aa.bnd ha ?_
  rw[hm];dsimp only
  unfold pX
  rw[hx];dsimp only
  rw[if_pos hn]
  exact aa.bnd h dy
theorem zR(h:l.length<bJ)(hd:d.lless=true:=by rfl):aa (mN l [d] k) (l++[d]):=⟨_,rfl,.inl hd,h,True.intro⟩
theorem Bv{elt iter c:Expr}{scope:Scope}{p:Pos}{g f:α->D}{t:α->Bool}{l:List α}(hi:aa (av Φ iter true sc ρ) (d,k))(hd:items d=some (l.map g))(hl:l.length<=bJ)(hk:ao (l.map g)=true\/k<=1)
  (h:∀x∈l,∃ρ' j,bK scope tg (g x) (flt scope ρ)=some ρ'/\aa (av Φ c false scope ρ') (.bl (t x),j)/\(t x=true->aa (av Φ elt false scope ρ') (f x,0))) (hc:nP sc scope=true:=by rfl) (ht:fq iter tg=true:=by rfl):aa (av Φ (.ListComp elt [⟨tg,iter,[c],0⟩] scope p) it sc ρ) (.lst ((l.filter t).map f),0):=by
 refine vX hi hd ⟨by rw[QC];exact hl,hk⟩ (lw fun x hx=>?_) (QN _) hc ht
 obtain⟨ρ',j,h1,h2,h3⟩:=h x hx
 rw[h1]
 refine aa.bnd (a:=t x) (Fb h2 (fun e=>by rw[e];exact Ic) (fun e=>e)) ?_
 cases e:t x with
 | false=>exact dy
 | true =>
  show aa ((av Φ elt false scope ρ').bnd fun r=>.ok (some r) []) (some (f x,0))
  exact aa.bnd (h3 e) dy
end
noncomputable def Ln:List Int:=[0,1,2,3,4,5,6,7,8,9,10,11,12,13,14,15,16,17,18,19,20]
noncomputable def JH:List Int:=[2,3,5,7,11,13,17,19,23,29,31,37,41,43,47,53,59,61,67,71,73,79,83,89,97]
section
variable{α:Type}[BEq α][LawfulBEq α](cl:α->List α)
noncomputable def grd:List α->List α->List α
 | [],_=>[]
 | f::l,m=>bif m.contains f then grd l m else f::grd l (m++cl f)
structure fS(A:List α):Prop where
 self:∀f∈A,f∈cl f
 into:∀f∈A,∀g∈cl f,g∈A
 sym:∀f∈A,∀g∈cl f,f∈cl g
 trans:∀f∈A,∀g∈cl f,∀h∈cl g,h∈cl f
end
section
variable{α:Type}[BEq α][LawfulBEq α]{cl:α->List α}
theorem grd_in{m:List α}{f:α}{l:List α}(h:f∈m):grd cl (f::l) m=grd cl l m:=by
 rw[grd,show m.contains f=true from Rw.mpr h];rfl
theorem grd_out{m:List α}{f:α}{l:List α}(h:f∉m):grd cl (f::l) m=f::grd cl l (m++cl f):=by
 rw[grd,show m.contains f=false from by rw[SG];exact fun z=>h (Rw.mp z)];rfl
theorem g8:∀{l m:List α},∀r∈grd cl l m,r∈l
 | [],m,r,h=>by cases h
 | f::l,m,r,h=>by
  by_cases hf:f∈m
  ·rw[grd_in hf]at h;exact Qz _ (g8 r h)
  ·rw[grd_out hf]at h
   rcases QD.mp h with rfl|h
   ·exact Qy
   ·exact Qz _ (g8 r h)
theorem tK:∀l m:List α,(grd cl l m).Sublist l
 | [],m=>List.Sublist.refl _
 | f::l,m=>by
  by_cases hf:f∈m
  ·rw[grd_in hf];exact(tK l m).cons f
  ·rw[grd_out hf];exact(tK l _).cons_cons f
theorem vu:∀l:List α,l.Pairwise fun _ _=>True
 | []=>List.Pairwise.nil
 | x::l=>List.Pairwise.cons (fun _ _=>True.intro) (vu l)
noncomputable def nq(cl:α->List α)(A m:List α):Prop:=∀x∈m,x∈A/\∀y∈cl x,y∈m
theorem nq.add{A m:List α}{f:α}(C:fS cl A)(hf:f∈A)(h:nq cl A m):nq cl A (m++cl f):=by
 intro x hx
 rcases QX.mp hx with hx|hx
 ·exact⟨(h x hx).1,fun y hy=>QX.mpr (.inl ((h x hx).2 y hy))⟩
 ·exact⟨C.into f hf x hx,fun y hy=>QX.mpr (.inr (C.trans f hf x hx y hy))⟩
theorem mV{A:List α}(C:fS cl A){R:α->α->Prop}:∀{l m:List α},(∀x∈l,x∈A)->nq cl A m->l.Pairwise R->∀r∈grd cl l m,(∀g∈cl r,g∉m)/\∀g∈cl r,g∈l->g=r\/R r g
 | [],m,_,_,_,r,h=>by cases h
 | f::l,m,hA,hm,hR,r,h=>by
  have hA':∀x∈l,x∈A:=fun x hx=>hA x (Qz _ hx)
  have hfA:=hA f Qy
  obtain⟨hf1,hR'⟩:=RB.mp hR
  by_cases hf:f∈m
  ·rw[grd_in hf]at h
   obtain⟨h1,h2⟩:=mV C hA' hm hR' r h
   refine⟨h1,fun g hg hgl=>?_⟩
   rcases QD.mp hgl with rfl|hgl
   ·exact absurd hf (h1 _ hg)
   ·exact h2 g hg hgl
  ·rw[grd_out hf]at h
   rcases QD.mp h with rfl|h
   ·refine⟨fun g hg hgm=>hf ((hm g hgm).2 _ (C.sym _ hfA g hg)),fun g hg hgl=>?_⟩
    rcases QD.mp hgl with rfl|hgl
    ·exact .inl rfl
    ·exact .inr (hf1 g hgl)
   ·obtain⟨h1,h2⟩:=mV C hA' (hm.add C hfA) hR' r h
    refine⟨fun g hg hgm=>h1 g hg (QX.mpr (.inl hgm)),fun g hg hgl=>?_⟩
    rcases QD.mp hgl with rfl|hgl
    ·exact absurd (QX.mpr (.inr (C.self _ hfA))) (h1 _ hg)
    ·exact h2 g hg hgl
theorem mX:∀{l m:List α},(∀x∈l,x∈cl x)->∀x∈l,x∈m\/∃r∈grd cl l m,x∈cl r
 | [],m,_,x,h=>by cases h
 | f::l,m,hs,x,h=>by
  have hs':∀x∈l,x∈cl x:=fun x hx=>hs x (Qz _ hx)
  by_cases hf:f∈m
  ·rw[grd_in hf]
   rcases QD.mp h with rfl|h
   ·exact .inl hf
   ·exact mX hs' x h
  ·rw[grd_out hf]
   rcases QD.mp h with rfl|h
   ·exact .inr ⟨x,Qy,hs x Qy⟩
   ·rcases mX (m:=m++cl f) hs' x h with h|⟨r,h1,h2⟩
    ·rcases QX.mp h with h|h
     ·exact .inl h
     ·exact .inr ⟨f,Qy,h⟩
    ·exact .inr ⟨r,Qz _ h1,h2⟩
theorem mW{A:List α}(C:fS cl A):∀{l m:List α},(∀x∈l,x∈A)->nq cl A m->(grd cl l m).Pairwise fun a b => ∀x∈cl a,∀y∈cl b,x≠y
 | [],m,_,_=>List.Pairwise.nil
 | f::l,m,hA,hm=>by
  have hA':∀x∈l,x∈A:=fun x hx=>hA x (Qz _ hx)
  have hfA:=hA f Qy
  by_cases hf:f∈m
  ·rw[grd_in hf];exact mW C hA' hm
  ·rw[grd_out hf]
   refine RB.mpr ⟨fun b hb x hx y hy e=>?_,mW C hA' (hm.add C hfA)⟩
   subst e
   exact(mV C (R:=fun _ _=>True) hA' (hm.add C hfA) (vu _) b hb).1 x hy (QX.mpr (.inr hx))
theorem Bt{A l:List α}(C:fS cl A)(hnd:∀f∈A,(cl f).Nodup)(hA:A.Nodup)(hl:l.Perm A):((grd cl l []).flatMap cl).Perm A:=by
 have hin:∀x∈l,x∈A:=fun x hx=>hl.mem_iff.mp hx
 have hw:nq cl A []:=fun x hx=>by cases hx
 refine(List.perm_ext_iff_of_nodup (List.pairwise_flatMap.mpr ⟨fun r hr=>hnd r (hin r (g8 r hr)),mW C hin hw⟩) hA).mpr fun x=>⟨fun hx=>?_,fun hx=>?_⟩
 ·obtain⟨r,hr,hx⟩:=Ss.mp hx
  exact C.into r (hin r (g8 r hr)) x hx
 ·rcases mX (cl:=cl) (m:=[]) (fun x hx=>C.self x (hin x hx)) x (hl.mem_iff.mpr hx)with h|⟨r,h1,h2⟩
  ·cases h
  ·exact Ss.mpr ⟨r,h1,h2⟩
theorem zc{n:Nat}:∀{R:List α},(∀r∈R,(cl r).length=n)->(R.flatMap cl).length=n*R.length
 | [],_=>rfl
 | r::R,h=>by
  rw[RK,QH,h r Qy,zc fun r hr=>h r (Qz _ hr),QP,Nat.mul_succ,Nat.add_comm]
theorem EV{A l:List α}(C:fS cl A)(hnd:∀f∈A,(cl f).Nodup)(hn:∀f∈A,(cl f).length=n)(hA:A.Nodup)(hl:l.Perm A):A.length=n*(grd cl l []).length:=by
 rw[<- (Bt C hnd hA hl).length_eq]
 exact zc fun r hr=>hn r (hl.mem_iff.mp (g8 r hr))
end
noncomputable def Lp:DL:=([648,580,520,468,424,388,360,340,328,324,512,452,400,356,320,292,272,260,256,392,296,232,212,200,196,288,244,208,180,160,148,144,164,136,116,104,100,128,80,68,64,72,52,40,36,32,20,16,8,4,0],[[[-18,-18],[-18,18],[18,-18],[18,18]],[[-18,-16],[-18,16],[-16,-18],[-16,18],[16,-18],[16,18],[18,-16],[18,16]],[[-18,-14],[-18,14],[-14,-18],[-14,18],[14,-18],[14,18],[18,-14],[18,14]],[[-18,-12],[-18,12],[-12,-18],[-12,18],[12,-18],[12,18],[18,-12],[18,12]],[[-18,-10],[-18,10],[-10,-18],[-10,18],[10,-18],[10,18],[18,-10],[18,10]],[[-18,-8],[-18,8],[-8,-18],[-8,18],[8,-18],[8,18],[18,-8],[18,8]],[[-18,-6],[-18,6],[-6,-18],[-6,18],[6,-18],[6,18],[18,-6],[18,6]],[[-18,-4],[-18,4],[-14,-12],[-14,12],[-12,-14],[-12,14],[-4,-18],[-4,18],[4,-18],[4,18],[12,-14],[12,14],[14,-12],[14,12],[18,-4],[18,4]],[[-18,-2],[-18,2],[-2,-18],[-2,18],[2,-18],[2,18],[18,-2],[18,2]],[[-18,0],[0,-18],[0,18],[18,0]],[[-16,-16],[-16,16],[16,-16],[16,16]],[[-16,-14],[-16,14],[-14,-16],[-14,16],[14,-16],[14,16],[16,-14],[16,14]],[[-16,-12],[-16,12],[-12,-16],[-12,16],[12,-16],[12,16],[16,-12],[16,12]],[[-16,-10],[-16,10],[-10,-16],[-10,16],[10,-16],[10,16],[16,-10],[16,10]],[[-16,-8],[-16,8],[-8,-16],[-8,16],[8,-16],[8,16],[16,-8],[16,8]],[[-16,-6],[-16,6],[-6,-16],[-6,16],[6,-16],[6,16],[16,-6],[16,6]],[[-16,-4],[-16,4],[-4,-16],[-4,16],[4,-16],[4,16],[16,-4],[16,4]],[[-16,-2],[-16,2],[-14,-8],[-14,8],[-8,-14],[-8,14],[-2,-16],[-2,16],[2,-16],[2,16],[8,-14],[8,14],[14,-8],[14,8],[16,-2],[16,2]],[[-16,0],[0,-16],[0,16],[16,0]],[[-14,-14],[-14,14],[14,-14],[14,14]],[[-14,-10],[-14,10],[-10,-14],[-10,14],[10,-14],[10,14],[14,-10],[14,10]],[[-14,-6],[-14,6],[-6,-14],[-6,14],[6,-14],[6,14],[14,-6],[14,6]],[[-14,-4],[-14,4],[-4,-14],[-4,14],[4,-14],[4,14],[14,-4],[14,4]],[[-14,-2],[-14,2],[-10,-10],[-10,10],[-2,-14],[-2,14],[2,-14],[2,14],[10,-10],[10,10],[14,-2],[14,2]],[[-14,0],[0,-14],[0,14],[14,0]],[[-12,-12],[-12,12],[12,-12],[12,12]],[[-12,-10],[-12,10],[-10,-12],[-10,12],[10,-12],[10,12],[12,-10],[12,10]],[[-12,-8],[-12,8],[-8,-12],[-8,12],[8,-12],[8,12],[12,-8],[12,8]],[[-12,-6],[-12,6],[-6,-12],[-6,12],[6,-12],[6,12],[12,-6],[12,6]],[[-12,-4],[-12,4],[-4,-12],[-4,12],[4,-12],[4,12],[12,-4],[12,4]],[[-12,-2],[-12,2],[-2,-12],[-2,12],[2,-12],[2,12],[12,-2],[12,2]],[[-12,0],[0,-12],[0,12],[12,0]],[[-10,-8],[-10,8],[-8,-10],[-8,10],[8,-10],[8,10],[10,-8],[10,8]],[[-10,-6],[-10,6],[-6,-10],[-6,10],[6,-10],[6,10],[10,-6],[10,6]],[[-10,-4],[-10,4],[-4,-10],[-4,10],[4,-10],[4,10],[10,-4],[10,4]],[[-10,-2],[-10,2],[-2,-10],[-2,10],[2,-10],[2,10],[10,-2],[10,2]],[[-10,0],[-8,-6],[-8,6],[-6,-8],[-6,8],[0,-10],[0,10],[6,-8],[6,8],[8,-6],[8,6],[10,0]],[[-8,-8],[-8,8],[8,-8],[8,8]],[[-8,-4],[-8,4],[-4,-8],[-4,8],[4,-8],[4,8],[8,-4],[8,4]],[[-8,-2],[-8,2],[-2,-8],[-2,8],[2,-8],[2,8],[8,-2],[8,2]],[[-8,0],[0,-8],[0,8],[8,0]],[[-6,-6],[-6,6],[6,-6],[6,6]],[[-6,-4],[-6,4],[-4,-6],[-4,6],[4,-6],[4,6],[6,-4],[6,4]],[[-6,-2],[-6,2],[-2,-6],[-2,6],[2,-6],[2,6],[6,-2],[6,2]],[[-6,0],[0,-6],[0,6],[6,0]],[[-4,-4],[-4,4],[4,-4],[4,4]],[[-4,-2],[-4,2],[-2,-4],[-2,4],[2,-4],[2,4],[4,-2],[4,2]],[[-4,0],[0,-4],[0,4],[4,0]],[[-2,-2],[-2,2],[2,-2],[2,2]],[[-2,0],[0,-2],[0,2],[2,0]],[[0,0]]])
noncomputable def Lo:DL:=([722,650,586,530,482,442,410,386,370,362,578,514,458,338,314,298,290,450,394,346,306,274,250,234,226,218,194,178,170,242,202,146,130,122,162,106,90,82,98,74,58,50,34,26,18,10,2],[[[-19,-19],[-19,19],[19,-19],[19,19]],[[-19,-17],[-19,17],[-17,-19],[-17,19],[17,-19],[17,19],[19,-17],[19,17]],[[-19,-15],[-19,15],[-15,-19],[-15,19],[15,-19],[15,19],[19,-15],[19,15]],[[-19,-13],[-19,13],[-13,-19],[-13,19],[13,-19],[13,19],[19,-13],[19,13]],[[-19,-11],[-19,11],[-11,-19],[-11,19],[11,-19],[11,19],[19,-11],[19,11]],[[-19,-9],[-19,9],[-9,-19],[-9,19],[9,-19],[9,19],[19,-9],[19,9]],[[-19,-7],[-19,7],[-17,-11],[-17,11],[-11,-17],[-11,17],[-7,-19],[-7,19],[7,-19],[7,19],[11,-17],[11,17],[17,-11],[17,11],[19,-7],[19,7]],[[-19,-5],[-19,5],[-5,-19],[-5,19],[5,-19],[5,19],[19,-5],[19,5]],[[-19,-3],[-19,3],[-17,-9],[-17,9],[-9,-17],[-9,17],[-3,-19],[-3,19],[3,-19],[3,19],[9,-17],[9,17],[17,-9],[17,9],[19,-3],[19,3]],[[-19,-1],[-19,1],[-1,-19],[-1,19],[1,-19],[1,19],[19,-1],[19,1]],[[-17,-17],[-17,17],[17,-17],[17,17]],[[-17,-15],[-17,15],[-15,-17],[-15,17],[15,-17],[15,17],[17,-15],[17,15]],[[-17,-13],[-17,13],[-13,-17],[-13,17],[13,-17],[13,17],[17,-13],[17,13]],[[-17,-7],[-17,7],[-13,-13],[-13,13],[-7,-17],[-7,17],[7,-17],[7,17],[13,-13],[13,13],[17,-7],[17,7]],[[-17,-5],[-17,5],[-5,-17],[-5,17],[5,-17],[5,17],[17,-5],[17,5]],[[-17,-3],[-17,3],[-3,-17],[-3,17],[3,-17],[3,17],[17,-3],[17,3]],[[-17,-1],[-17,1],[-13,-11],[-13,11],[-11,-13],[-11,13],[-1,-17],[-1,17],[1,-17],[1,17],[11,-13],[11,13],[13,-11],[13,11],[17,-1],[17,1]],[[-15,-15],[-15,15],[15,-15],[15,15]],[[-15,-13],[-15,13],[-13,-15],[-13,15],[13,-15],[13,15],[15,-13],[15,13]],[[-15,-11],[-15,11],[-11,-15],[-11,15],[11,-15],[11,15],[15,-11],[15,11]],[[-15,-9],[-15,9],[-9,-15],[-9,15],[9,-15],[9,15],[15,-9],[15,9]],[[-15,-7],[-15,7],[-7,-15],[-7,15],[7,-15],[7,15],[15,-7],[15,7]],[[-15,-5],[-15,5],[-13,-9],[-13,9],[-9,-13],[-9,13],[-5,-15],[-5,15],[5,-15],[5,15],[9,-13],[9,13],[13,-9],[13,9],[15,-5],[15,5]],[[-15,-3],[-15,3],[-3,-15],[-3,15],[3,-15],[3,15],[15,-3],[15,3]],[[-15,-1],[-15,1],[-1,-15],[-1,15],[1,-15],[1,15],[15,-1],[15,1]],[[-13,-7],[-13,7],[-7,-13],[-7,13],[7,-13],[7,13],[13,-7],[13,7]],[[-13,-5],[-13,5],[-5,-13],[-5,13],[5,-13],[5,13],[13,-5],[13,5]],[[-13,-3],[-13,3],[-3,-13],[-3,13],[3,-13],[3,13],[13,-3],[13,3]],[[-13,-1],[-13,1],[-11,-7],[-11,7],[-7,-11],[-7,11],[-1,-13],[-1,13],[1,-13],[1,13],[7,-11],[7,11],[11,-7],[11,7],[13,-1],[13,1]],[[-11,-11],[-11,11],[11,-11],[11,11]],[[-11,-9],[-11,9],[-9,-11],[-9,11],[9,-11],[9,11],[11,-9],[11,9]],[[-11,-5],[-11,5],[-5,-11],[-5,11],[5,-11],[5,11],[11,-5],[11,5]],[[-11,-3],[-11,3],[-9,-7],[-9,7],[-7,-9],[-7,9],[-3,-11],[-3,11],[3,-11],[3,11],[7,-9],[7,9],[9,-7],[9,7],[11,-3],[11,3]],[[-11,-1],[-11,1],[-1,-11],[-1,11],[1,-11],[1,11],[11,-1],[11,1]],[[-9,-9],[-9,9],[9,-9],[9,9]],[[-9,-5],[-9,5],[-5,-9],[-5,9],[5,-9],[5,9],[9,-5],[9,5]],[[-9,-3],[-9,3],[-3,-9],[-3,9],[3,-9],[3,9],[9,-3],[9,3]],[[-9,-1],[-9,1],[-1,-9],[-1,9],[1,-9],[1,9],[9,-1],[9,1]],[[-7,-7],[-7,7],[7,-7],[7,7]],[[-7,-5],[-7,5],[-5,-7],[-5,7],[5,-7],[5,7],[7,-5],[7,5]],[[-7,-3],[-7,3],[-3,-7],[-3,7],[3,-7],[3,7],[7,-3],[7,3]],[[-7,-1],[-7,1],[-5,-5],[-5,5],[-1,-7],[-1,7],[1,-7],[1,7],[5,-5],[5,5],[7,-1],[7,1]],[[-5,-3],[-5,3],[-3,-5],[-3,5],[3,-5],[3,5],[5,-3],[5,3]],[[-5,-1],[-5,1],[-1,-5],[-1,5],[1,-5],[1,5],[5,-1],[5,1]],[[-3,-3],[-3,3],[3,-3],[3,3]],[[-3,-1],[-3,1],[-1,-3],[-1,3],[1,-3],[1,3],[3,-1],[3,1]],[[-1,-1],[-1,1],[1,-1],[1,1]]])
theorem OX:dP 0=Lp:=by decide +kernel
theorem OW:dP 1=Lo:=by decide +kernel
noncomputable def BA(P:DL)(ps:List Int):Bool:=ps.all fun a=>ps.all fun b=>((e7 P.1 P.2 (a*a+b*b)).getD []).contains [a,b]&&P.1.contains (a*a+b*b)
theorem Iz:BA Lp (hZ 0)=true:=by decide +kernel
theorem Iy:BA Lo (hZ 1)=true:=by decide +kernel
theorem sV(ho:o=0\/o=1)(ha:a∈hZ o)(hb:b∈hZ o):[a,b]∈cC o (a*a+b*b)/\a*a+b*b∈(dP o).1:=by
 have h:BA (dP o) (hZ o)=true:=by
  rcases ho with rfl|rfl
  ·rw[OX];exact Iz
  ·rw[OW];exact Iy
 have:=Q6.mp (Q6.mp h a ha) b hb
 rw[QI]at this
 exact⟨Rw.mp this.1,Rw.mp this.2⟩
theorem ww(h:a*a<=388):-19<=a/\a<=19:=by
 refine⟨?_,?_⟩
 ·refine Int.not_lt.mp fun z=>?_
  have:=Int.mul_le_mul (show(20:Int) <= -a by omega) (show(20:Int) <= -a by omega) (by decide) (by omega)
  rw[Int.neg_mul_neg]at this
  omega
 ·refine Int.not_lt.mp fun z=>?_
  have:=Int.mul_le_mul (show(20:Int)<=a by omega) (show(20:Int)<=a by omega) (by decide) (by omega)
  omega
theorem Ci(a:Int):0<=a*a:=by
 rcases Int.le_total 0 a with h|h
 ·exact SY h h
 ·exact Int.mul_nonneg_of_nonpos_of_nonpos h h
theorem mE(h:-19<=a/\a<=19)(hp:a % 2=o):a∈hZ o:=by
 refine QW.mpr ⟨(a+19).toNat,Rz.mpr ⟨RP.mpr (by omega),RX ?_⟩,by omega⟩
 rw[Int.fmod_eq_emod_of_nonneg _ (by decide)]
 omega
theorem uv{c d:Int}(ho:o=0\/o=1)(hN:N<=97)(hs:(a*a+b*b)+(c*c+d*d)=4*N)(pa:a % 2=o)(pb:b % 2=o)(pc:c % 2=o)(pd:d % 2=o):[a,b,c,d]∈dH N o:=by
 have a0:=Ci a
 have b0:=Ci b
 have c0:=Ci c
 have d0:=Ci d
 have ma:=mE (ww (show a*a<=388 by omega)) pa
 have mb:=mE (ww (show b*b<=388 by omega)) pb
 have mc:=mE (ww (show c*c<=388 by omega)) pc
 have md:=mE (ww (show d*d<=388 by omega)) pd
 obtain⟨h1,h2⟩:=sV ho ma mb
 obtain⟨h3,_⟩:=sV ho mc md
 refine Ss.mpr ⟨_,h2,Ss.mpr ⟨_,h1,QW.mpr ⟨[c,d],?_,rfl⟩⟩⟩
 rw[show 4*N-(a*a+b*b)=c*c+d*d by omega]
 exact h3
noncomputable def fN(N:Int)(q:Qd):Prop:=ay q/\q.1*q.1+q.2.1*q.2.1+(q.2.2.1*q.2.2.1+q.2.2.2*q.2.2.2)=4*N
theorem de(hN:N<=97):l4 q∈aU N↔fN N q:=by
 refine⟨fun h=>?_,fun⟨h,hs⟩=>?_⟩
 ·have:∃o,wj N o (l4 q):=by rcases np h with h|h<;>exact⟨_,h⟩
  obtain⟨o,a,b,c,d,e,hs,⟨p1,p2,p3,p4⟩,_⟩:=this
  obtain⟨x,y,z,w⟩:=q
  have e':[x,y,z,w]=[a,b,c,d]:=e
  cases e'
  exact⟨K.par_of ⟨by show a % 2=b % 2;omega,by show a % 2=c % 2;omega,by show a % 2=d % 2;omega⟩,hs⟩
 ·obtain⟨x,y,z,w⟩:=q
  obtain⟨e,u1,u2,u3,u4,he,e1,e2,e3,e4⟩:=h
  dsimp only at e1 e2 e3 e4 hs
  refine(bz _).mem_iff.mpr (QX.mpr ?_)
  rcases he with rfl|rfl
  ·exact .inl (uv (a:=x) (b:=y) (c:=z) (d:=w) (.inl rfl) hN hs (by omega) (by omega) (by omega) (by omega))
  ·exact .inr (uv (a:=x) (b:=y) (c:=z) (d:=w) (.inr rfl) hN hs (by omega) (by omega) (by omega) (by omega))
theorem dY(h:t∈aU N):∃q,t=l4 q:=by
 rcases np h with⟨a,b,c,d,rfl,_⟩|⟨a,b,c,d,rfl,_⟩<;>exact⟨(a,b,c,d),rfl⟩
noncomputable def vq:List Int->Qd
 | [a,b,c,d]=>(a,b,c,d)
 | _=>bF
theorem GC(q:Qd):vq (l4 q)=q:=rfl
theorem tj(h:l4 p=l4 q):p=q:=by rw[<- GC p,h];rfl
noncomputable def nO(s:Bool)(q:Qd):List Qd:=bG.map fun u=>aT s q u
noncomputable def cv(s:Bool)(t:List Int):List (List Int):=(nO s (vq t)).map l4
theorem Fv(h:ay p)(g:ay q):ay (aT s p q):=by
 unfold aT;split
 ·exact fv h g
 ·exact fv g h
theorem zJ(s:Bool)(q:Qd):aT s q h8=q:=by
 unfold aT;split
 ·exact Bb q
 ·exact A8 q
theorem G8:h8∈bG:=by decide +kernel
theorem zM:∀u∈bG,bM u∈bG:=by decide +kernel
theorem v7(h:ay q)(hu:ay u)(hv:ay v):aT s (aT s q u) v=aT s q (aT s u v):=by
 unfold aT
 cases s
 ·rw[if_neg (by decide),if_neg (by decide),if_neg (by decide),if_neg (by decide)]
  exact(cD hv hu h).symm
 ·rw[if_pos rfl,if_pos rfl,if_pos rfl,if_pos rfl]
  exact cD h hu hv
theorem Js(hu:u∈bG)(hv:v∈bG):aT s u v∈bG:=by
 unfold aT;split
 ·exact sL u hu v hv
 ·exact sL v hv u hu
theorem Fz(hu:u∈bG):aT s u (bM u)=h8:=by
 obtain⟨h1,h2,_⟩:=dG hu
 unfold aT;split
 ·rw[(eI h1).1,h2];rfl
 ·rw[(eI h1).2,h2];rfl
theorem Fk(h:ay q)(hg:g∈nO s q):q∈nO s g:=by
 obtain⟨u,hu,rfl⟩:=QW.mp hg
 refine QW.mpr ⟨bM u,zM u hu,?_⟩
 rw[v7 h (dG hu).1 (dG (zM u hu)).1,Fz hu,zJ]
theorem zy{k:Qd}(h:ay q)(hg:g∈nO s q)(hk:k∈nO s g):k∈nO s q:=by
 obtain⟨u,hu,rfl⟩:=QW.mp hg
 obtain⟨v,hv,rfl⟩:=QW.mp hk
 exact QW.mpr ⟨_,Js hu hv,(v7 h (dG hu).1 (dG hv).1).symm⟩
theorem Em:bG.Nodup:=by decide +kernel
theorem sQ{n:Int}(hn:n≠0)(h:bC p n=bC q n):p=q:=by
 obtain⟨a,b,c,d⟩:=p
 obtain⟨a',b',c',d'⟩:=q
 have h1:a*n=a'*n:=RC (fun z=>z.1) h
 have h2:b*n=b'*n:=RC (fun z=>z.2.1) h
 have h3:c*n=c'*n:=RC (fun z=>z.2.2.1) h
 have h4:d*n=d'*n:=RC (fun z=>z.2.2.2) h
 rw[Int.eq_of_mul_eq_mul_right hn h1,Int.eq_of_mul_eq_mul_right hn h2,Int.eq_of_mul_eq_mul_right hn h3,Int.eq_of_mul_eq_mul_right hn h4]
theorem Fy(hq:ay q)(h0:bc q≠0)(hu:ay u)(hv:ay v)(h:aT s q u=aT s q v):u=v:=by
 unfold aT at h
 cases s
 ·rw[if_neg (by decide),if_neg (by decide)]at h
  have:=RC (fun z=>bI z (bM q)) h
  rw[cD hu hq (cV hq),cD hv hq (cV hq),(eI hq).1,gm,gm]at this
  exact sQ h0 this
 ·rw[if_pos rfl,if_pos rfl]at h
  have:=RC (fun z=>bI (bM q) z) h
  rw[<- cD (cV hq) hq hu,<- cD (cV hq) hq hv,(eI hq).2,gn,gn]at this
  exact sQ h0 this
theorem js(h:fN N q):bc q=N:=by
 unfold bc
 rw[show q.1*q.1+(q.2.1*q.2.1+(q.2.2.1*q.2.2.1+(q.2.2.2*q.2.2.2+0)))=4*N by have:=h.2;omega,Q0 _ (by decide)]
 omega
theorem rQ(h:ay q)(hs:bc q=N):fN N q:=by
 refine⟨h,?_⟩
 obtain⟨a,b,c,d⟩:=q
 obtain⟨e,x,y,z,w,he,e1,e2,e3,e4⟩:=h
 have k:∃m:Int,a*a+b*b+(c*c+d*d)=4*m:=by
  dsimp only at e1 e2 e3 e4
  subst e1 e2 e3 e4
  refine⟨x*x+x*e+(y*y+y*e)+(z*z+z*e+(w*w+w*e))+e*e,?_⟩
  have q:∀x:Int,(2*x+e)*(2*x+e)=4*(x*x+x*e)+e*e:=fun x=>by grind
  rw[q x,q y,q z,q w]
  omega
 obtain⟨m,hm⟩:=k
 have hz:bc (a,b,c,d)=m:=by
  show(a*a+(b*b+(c*c+(d*d+0)))).fdiv 4=m
  rw[show a*a+(b*b+(c*c+(d*d+0)))=4*m by omega,Q0 _ (by decide)]
  omega
 rw[<- hs,hz]
 exact hm
theorem IB(h:fN N q)(hg:g∈nO s q):fN N g:=by
 obtain⟨u,hu,rfl⟩:=QW.mp hg
 obtain⟨h1,h2,_⟩:=dG hu
 refine rQ (Fv h.1 h1) ?_
 unfold aT;split
 ·rw[mm h.1 h1,h2,js h,Int.mul_one]
 ·rw[mm h1 h.1,h2,js h,Int.one_mul]
theorem jk(h:t∈cv s (l4 q)):∃g∈nO s q,t=l4 g:=by
 obtain⟨g,hg,rfl⟩:=QW.mp h
 exact⟨g,hg,rfl⟩
theorem hG(s:Bool)(hN:N<=97):fS (cv s) (aU N) where
 self:=fun f hf=>by
  obtain⟨q,rfl⟩:=dY hf
  exact QW.mpr ⟨q,QW.mpr ⟨h8,G8,zJ s q⟩,rfl⟩
 into:=fun f hf g hg=>by
  obtain⟨q,rfl⟩:=dY hf
  obtain⟨k,hk,rfl⟩:=jk hg
  exact(de hN).mpr (IB ((de hN).mp hf) hk)
 sym:=fun f hf g hg=>by
  obtain⟨q,rfl⟩:=dY hf
  obtain⟨k,hk,rfl⟩:=jk hg
  exact QW.mpr ⟨q,Fk ((de hN).mp hf).1 hk,rfl⟩
 trans:=fun f hf g hg h hh=>by
  obtain⟨q,rfl⟩:=dY hf
  obtain⟨k,hk,rfl⟩:=jk hg
  obtain⟨j,hj,rfl⟩:=jk hh
  exact QW.mpr ⟨j,zy ((de hN).mp hf).1 hk hj,rfl⟩
theorem v5(s:Bool)(t:List Int):(cv s t).length=24:=by
 unfold cv nO
 rw[QC,QC];rfl
theorem IC(h1:1<=N)(hN:N<=97):∀f∈aU N,(cv s f).Nodup:=by
 intro f hf
 obtain⟨q,rfl⟩:=dY hf
 have hq:=(de hN).mp hf
 have h0:bc q≠0:=by rw[js hq];omega
 refine SJ.mpr (SJ.mpr (List.Pairwise.imp_of_mem (fun {u v} hu hv hne e=>hne ?_) Em))
 exact Fy hq.1 h0 (dG hu).1 (dG hv).1 (tj e)
noncomputable def aX(s:Bool)(N:Int):List (List Int):=grd (cv s) (aU N).reverse []
theorem qp(s:Bool){N:Nat}(h1:1<=N)(hN:N<=97):(aX s N).length=oI N:=by
 have:=EV (n:=24) (hG s (N:=(N:Int)) (by omega)) (IC (by omega) (by omega)) (fun f _=>v5 s f) (uq N) (SI _)
 rw[wb,(uu h1 hN).1]at this
 unfold aX
 omega
theorem jy(h:t∈aX s N):t∈aU N:=Q9.mp (g8 t h)
theorem Fo(hN:N<=97)(h:t∈aX s N):∀g∈cv s t,g=t\/HT.lexLt g t=true:=by
 intro g hg
 have:=(mV (hG s hN) (R:=fun a b=>HT.lexLt b a=true) (fun x hx=>Q9.mp hx) (fun x hx=>by cases hx) (List.pairwise_reverse.mpr (Jv N)) t h).2 g hg (Q9.mpr ((hG s hN).into t (jy h) g hg))
 exact this
theorem zA(s:Bool)(N:Int):(aX s N).Nodup:=(tK _ _).nodup ((SI _).nodup_iff.mpr (uq N))
end K
namespace Sp
open PySem PySem.Spec PyProof.Rows L2
variable{P:Program}{w:World}{L a d:Addr}{xs:List (List aP×Addr×Value)}{pins:List (Addr×Obj)}{s:Shared}{σ:L2.St}{H H':Hp}{ks:List aP}{K:W.Frag}{v:Value}{im it j k k2:Nat}{m tl:List (List Int)}{ow:Ow}{C ρ:ac}{x xm xt:Str}{e ev:Expr}{ap cp p1 p2 pos:Pos}{ns:List Int}{ss:List Stmt}{r:D}
variable{X:Cx}
noncomputable def fT(P:Program)(w:World)(d:Addr)(xs:List (List aP×Addr×Value)):Heap->Prop:=fun h =>
 ∃o es ep,h.get? d=some o/\o.ExactDict/\o.data=.dict es ep/\es.toList=xs.map (entryOfKey (tupleKind (b7 P w)))/\(xs.map (·.1)).Nodup
theorem Ky:¬ nm (.ext (fT P w d xs)):=fun z=>z
noncomputable def lX(K:W.Frag)(H:Hp)(xs:List (List aP×Addr×Value)):Prop:=∀x∈xs,aZ K H x.2.1 (x.1.map kV)
theorem qN{P:Program}{w:World}:∀{ks:List aP} {vs:List Value},aD (ks.map kV) vs->ItemsAre (b7 P w) ks vs
 | [],_,h=>by cases h;exact .nil
 | k::ks,_,h=>by
  cases h with
  | cons r rr=>exact .cons (gR r) (qN rr)
theorem wU(I:aj X pins σ H s)(h:aZ X.K H a (ks.map kV)):IsTupleKey (b7 X.prog X.w) s.heap ks a:=by
 obtain⟨its,rv,⟨o,h1,h2,n,h3⟩,_⟩:=I.tuple h
 exact⟨o,its.toArray,n,h1,h2,h3,qN rv⟩
theorem zv(I:aj X pins σ H s)(h:H d=some (.ext (fT X.prog X.w d xs)))(hk:lX X.K H xs):s.heap.DictOfH (tupleKind (b7 X.prog X.w)) d xs:=by
 obtain⟨⟨o,es,ep,h1,h2,h3,h4,h5⟩,_⟩:=(show aV X.prog X.w H s.heap d (.ext (fT X.prog X.w d xs))from I.hok d _ h)
 exact⟨o,es,ep,h1,h2,h3,h4,fun x hx=>wU I (hk x hx),h5⟩
theorem vv:∀h1 h2:Heap,fT P w d xs h1->(∀o,h1.get? d=some o->h2.get? d=some o)->fT P w d xs h2 :=
 fun h1 h2 ⟨o,es,ep,e1,e2,e3,e4,e5⟩ k=>⟨o,es,ep,k o e1,e2,e3,e4,e5⟩
theorem yi(hu:X.A.units+70<cLine):cY X (compareOp .NotIn) (fun x y H Q => ∃a d ks xs,x=.ref a/\y=.ref d/\aZ X.K H a (ks.map kV)/\H d=some (.ext (fT X.prog X.w d xs))/\(d==sysModules)=false/\lX X.K H xs/\Q (.bl (!(atKey xs ks).isSome)) H):=by
 intro pins s σ H x y v u Q I rx ry h
 obtain⟨a,d,ks,xs,rfl,rfl,h1,h2,h3,h4,q⟩:=h
 cases rx
 cases ry
 exact wpAny_notIn_heap (tupleKind_room_in1 (by omega)) (wU I h1) h3 (zv I h2 h4) ⟨.bl _,H,I.tok _,rfl,q⟩
theorem yN(h:lX K H xs)(ha:aZ K H a (ks.map kV)):lX K H (storedH xs ks a v):=by
 intro x hx
 rcases mem_storedH hx with h1|h1
 ·obtain⟨y,hy,e1,e2⟩:=h1
  rw[e1,e2];exact h y hy
 ·rw[h1.1,h1.2];exact ha
theorem DX(hu:X.A.units+70<cLine):xu X (fun o i v H Q => ∃d a ks xs,o=.ref d/\i=.ref a/\aZ X.K H a (ks.map kV)/\H d=some (.ext (fT X.prog X.w d xs))/\lX X.K H xs/\xs.length<sizeLine/\∀u,aO v u->Q (aF H d (.ext (fT X.prog X.w d (storedH xs ks a u))))):=by
 intro pins s σ H o i v ov iv u Q I ro ri rv h
 obtain⟨d,a,ks,xs,rfl,rfl,h1,h2,h3,h4,q⟩:=h
 cases ro
 cases ri
 refine wpAny_setItem_heap (tupleKind_room_in1 (by omega)) (wU I h1) (zv I h2 h3) (fun h' hm' hs'=>?_) (RZ h4)
 obtain⟨o,es,ep,e1,e2,e3,e4,_,e5⟩:=hm'
 refine⟨_,I.write (x:=d) (e:=d) (by rw[h2];exact True.intro) (.inl rfl) (fun b q hb z=>(hs'.2 b hb).trans z) ⟨o,e1⟩ (show aV X.prog X.w _ h' d (.ext (fT X.prog X.w d (storedH xs ks a u)))from⟨⟨o,es,ep,e1,e2,e3,e4,e5⟩,⟨o,e1⟩,vv⟩),q u rv⟩
noncomputable abbrev kI(ns:List Int):List aP:=ns.map Sum.inl
theorem CK(ns:List Int):(kI ns).map kV=ns.map V.int:=by rw[R8];rfl
theorem yR:∀{a b:List Int},kI a=kI b->a=b
 | [],[],_=>rfl
 | [],_::_,h=>by cases h
 | _::_,[],h=>by cases h
 | x::a,y::b,h=>by
  have h':(Sum.inl x:aP)::kI a=Sum.inl y::kI b:=h
  injection h' with h1 h2
  rw[Sum.inl.inj h1,yR h2]
theorem uk{k:List aP}:(atKey xs k).isSome=true↔k∈xs.map (·.1):=by
 unfold atKey
 rw[Option.isSome_map,List.find?_isSome]
 constructor
 ·rintro⟨x,hx,h⟩
  exact QW.mpr ⟨x,hx,Rl h⟩
 ·intro h
  obtain⟨x,hx,e⟩:=QW.mp h
  exact⟨x,hx,RX e⟩
theorem zQ{k k':List aP}:(atKey (storedH xs k a v) k').isSome=true↔k'=k\/(atKey xs k').isSome=true:=by
 rw[uk,uk]
 unfold storedH
 split
 ·rename_i h
  have e:(xs.map (putAt k v)).map (·.1)=xs.map (·.1):=by
   rw[R8]
   apply List.map_congr_left
   intro x _
   show(putAt k v x).1=x.1
   unfold putAt;split<;>rfl
  rw[e]
  exact⟨fun h=>.inr h,fun z=>z.elim (fun z=>by rw[z];exact uk.mp h) id⟩
 ·rw[Sj]
  simp only[QU,SK,QX,QM]
  exact⟨fun z=>z.symm,fun z=>z.symm⟩
theorem wu(xs:List (List aP×Addr×Value))(k:List aP)(a:Addr)(v:Value):(storedH xs k a v).length<=xs.length+1:=by
 unfold storedH
 split
 ·rw[QC];exact Nat.le_succ _
 ·rw[QH];exact QA _
noncomputable def JC(X:Cx)(it im:Nat)(L d:Addr)(tl m:List (List Int)):GJ:=fun ow σ H =>
 (σ[it]?=some (some (.ref L))/\σ[im]?=some (some (.ref d))/\ow L=some none/\ow d=some none/\(d==sysModules)=false)/\(∃ts,H L=some (.lst ts)/\bD X.K H ts tl) /\
 ∃xs,H d=some (.ext (fT X.prog X.w d xs))/\lX X.K H xs/\xs.length<=m.length/\∀k:List Int,(atKey xs (kI k)).isSome=true↔k∈m
theorem Hv(s:au H H')(h:lX K H xs):lX K H' xs:=fun x hx=>kC s (h x hx)
theorem JC.same(s:au H H')(h:JC X it im L d tl m ow σ H):JC X it im L d tl m ow σ H':=by
 obtain⟨h1,⟨ts,h2,h3⟩,xs,h4,h5,h6,h7⟩:=h
 exact⟨h1,⟨ts,s _ _ h2,h3.same s⟩,xs,s _ _ h4,Hv s h5,h6,h7⟩
theorem JC.set{v:V}(h1:j≠it)(h2:j≠im)(h:JC X it im L d tl m ow σ H):JC X it im L d tl m ow (σ.set j (some v)) H:=by
 obtain⟨⟨a,b,c⟩,r⟩:=h
 exact⟨⟨by rw[R0 h1];exact a,by rw[R0 h2];exact b,c⟩,r⟩
theorem Gm{H0:Hp}{body:List Stmt}{tl' m':List (List Int)}(hu:X.A.units+70<cLine)(hx:X.N[im]?=some x)(hv:fj X.env.scope x)(hn:dw x=true)
  (he:ED X ρ e (ax ns) k) (ht:ns∉m->dZ X body (tX X H0 ρ (JC X it im L d tl m) ρ (JC X it im L d tl' m'))) (hf:ns∈m->tl'=tl/\m'=m) :
  PS X (.If (.Compare e [.NotIn] [.Name x p1] p2) body [] pos) (tX X H0 ρ (JC X it im L d tl m) ρ (JC X it im L d tl' m')):=by
 intro pins s σ H D I ⟨ow,E,hl,B,j,q⟩
 have pn:PE X (.Name x p1) (jC im):=fF hx hv (bX hn).1 (bX hn).2
 have pb:dZ X body (fun D σ H=>ns∉m/\tX X H0 ρ (JC X it im L d tl m) ρ (JC X it im L d tl' m') D σ H):=fun pins s σ H D I ⟨h1,h2⟩=>ht h1 pins s σ H D I h2
 refine wB (DW (yi hu) (he ow) pn rfl) pb pU pins s σ H D I ⟨E,fun v H1 s1 r1=>?_⟩
 rw[ae]at r1
 obtain⟨a,vs,rfl,hq,rl⟩:=r1
 have ex:=fy rl
 subst ex
 have j1:=JC.same s1 j
 obtain⟨⟨a1,a2,a3,a4,a5⟩,⟨ts,b1,b2⟩,xs,c1,c2,c3,c4⟩:=j1
 refine⟨_,a2,a,d,kI ns,xs,rfl,rfl,by rw[CK];exact hq,c1,a5,c2,_,rfl,?_⟩
 have B1:=B.keep (aG.same s1)
 by_cases hm:ns∈m
 ·rw[(c4 ns).mpr hm]
  obtain⟨e1,e2⟩:=hf hm
  subst e1 e2
  exact q ow σ H1 (E.same s1) hl (aG.same s1) (JC.same s1 j)
 ·rw[show(atKey xs (kI ns)).isSome=false from by rw[SG];exact fun z=>hm ((c4 ns).mp z)]
  exact⟨hm,ow,E.same s1,hl,B1,JC.same s1 j,fun ow' σ' H' e l kk jj=>q ow' σ' H' e l ((aG.same s1).trans kk) jj⟩
theorem Dw{H0:Hp}(hu:X.A.units+70<cLine)(hx:X.N[im]?=some x)(hv:fj X.env.scope x)(hn:dw x=true)(hsh:Sh ρ)
  (he:ED X ρ e (ax ns) k) (he2:ED X ρ ev (.bl true) k2) (hz:m.length<bJ)
  (ha:∀v,assign (.Subscript (.Name x p1) e p2) X.env v=(do
   let ov <- holding [v] (eval (.Name x p1) X.env)
   let iv <- holding [v,ov] (eval e X.env)
   standAt p2
   holding [v,ov,iv] (setItem ov iv v)
   release [v,ov,iv] []))
  (hs:swapsWithSole [.Subscript (.Name x p1) e p2] ev pos.line X.env=pure false) (hw:swappedStores [.Subscript (.Name x p1) e p2] ev X.env=pure none) (h1:(assignEach [.Subscript (.Name x p1) e p2] X.env).map (·.2)=[assign (.Subscript (.Name x p1) e p2) X.env]) :
  PS X (.Assign [.Subscript (.Name x p1) e p2] ev pos) (tX X H0 ρ (JC X it im L d tl m) ρ (JC X it im L d tl (m++[ns]))):=by
 intro pins s σ H D I ⟨ow,E,hl,B,j,q⟩
 have pn:PE X (.Name x p1) (jC im):=fF hx hv (bX hn).1 (bX hn).2
 refine jb (he2 ow) (sG pn (he ow) (DX hu) ha) hs hw h1 pins s σ H D I ⟨E,fun v H1 s1 r1=>?_⟩
 have j1:=JC.same s1 j
 refine⟨_,j1.1.2.1,E.same s1,fun w H2 s2 r2=>?_⟩
 rw[ae]at r2
 obtain⟨a,vs,rfl,hq,rl⟩:=r2
 have ex:=fy rl
 subst ex
 obtain⟨⟨a1,a2,a3,a4,a5⟩,⟨ts,b1,b2⟩,xs,c1,c2,c3,c4⟩:=JC.same s2 j1
 have hq':aZ X.K H2 a ((kI ns).map kV):=by rw[CK];exact hq
 refine⟨d,a,kI ns,xs,rfl,rfl,hq',c1,c2,Rb c3 (QK hz dl),fun u hu'=>?_⟩
 have s12:=s1.trans s2
 have hnm:¬ nm (.ext (fT X.prog X.w d xs)):=Ky
 have kp:=gP (o':=.ext (fT X.prog X.w d (storedH xs (kI ns) a u))) c1 hnm a4
 have kt:∀b vs,aZ X.K H2 b vs->aZ X.K (aF H2 d (.ext (fT X.prog X.w d (storedH xs (kI ns) a u)))) b vs:=fun b vs hb=>dE c1 hnm hb
 have nL:L≠d:=fun z=>by subst z;rw[c1]at b1;cases b1
 refine q ow σ _ (f7 hsh (E.same s12) kp (jc (E.same s12).own)) hl ((aG.same s12).trans kp) ⟨⟨a1,a2,a3,a4,a5⟩,⟨ts,by rw[aq nL];exact b1,b2.keep kt⟩,_,aC,fun y hy=>kt _ _ (yN c2 hq' y hy),?_,fun k=>?_⟩
 ·have:=wu xs (kI ns) a u
  rw[QH,List.length_singleton]
  omega
 ·rw[zQ,c4 k,QX,QM]
  exact⟨fun z=>z.elim (fun z=>.inr (yR z)) .inl,fun z=>z.elim .inr fun z=>.inl (by rw[z])⟩
theorem Dx{H0:Hp}(hx:X.N[it]?=some x)(hv:fj X.env.scope x)(hn:dw x=true)(hsh:Sh ρ)
  (he:AD X ρ [e] [ax ns] k) (hns:ns≠[]) (hs:∀y p,e ≠ .Starred y p) (hl2:(ap.endLine==cp.line)=true) (hz:tl.length<bJ) :
  PS X (.Expr (.Call (.Attribute (.Name x p1) "append" ap) [e] [] cp) pos) (tX X H0 ρ (JC X it im L d tl m) ρ (JC X it im L d (tl++[ns]) m)):=by
 intro pins s σ H D I ⟨ow,E,hl,B,j,q⟩
 have pn:PE X (.Name x p1) (jC it):=fF hx hv (bX hn).1 (bX hn).2
 have f2:((backTo cp (starEach [e] X.env)).all (fun x => !x.1)&&(backToKw cp (keywordEach [] X.env)).all (fun x=>x.1.isSome)&&decide ([e].length+([]:List Keyword).length+(if ([]:List Keyword).isEmpty then 0 else 1)<30))=true:=by
  rw[eU (fun z hz=>by rw[QM.mp hz];exact hs)];rfl
 obtain⟨⟨a1,a2,a3,a4,a5⟩,⟨ts,b1,b2⟩,xs,c1,c2,c3,c4⟩:=j
 refine ja (rj PySem.F.plainAttrs_list PySem.F.slot_list_append PySem.F.type_list_append iK pn (he ow) rfl f2 hl2 (aN hs) (cn fun z hz=>by cases hz)) rfl pins s σ H D I ⟨_,a1,.inl ⟨rfl,ts,ci.of b1⟩,E,fun ws H2 s2 r2=>?_⟩
 obtain⟨w,rfl,r4⟩:=r2.only
 rw[ae]at r4
 obtain⟨tt,us,rfl,hq,rl⟩:=r4
 have ex:=fy rl
 subst ex
 obtain⟨_,⟨ts',b1',b2'⟩,xs',c1',c2',c3',c4'⟩:=JC.same s2 (show JC X it im L d tl m ow σ H from⟨⟨a1,a2,a3,a4,a5⟩,⟨ts,b1,b2⟩,xs,c1,c2,c3,c4⟩)
 have hnm:¬ nm (.lst ts'):=fun z=>z
 have kp:=gP (o':=.lst (ts'++[.ref tt])) b1' hnm a3
 have kt:∀b vs,aZ X.K H2 b vs->aZ X.K (aF H2 L (.lst (ts'++[.ref tt]))) b vs:=fun b vs hb=>dE b1' hnm hb
 have nL:d≠L:=fun z=>by subst z;rw[c1']at b1';cases b1'
 refine⟨L,ts',.ref tt,rfl,rfl,b1',by rw[b2'.length];exact QK hz dl,?_⟩
 exact q ow σ _ (f7 hsh (E.same s2) kp (jc (E.same s2).own)) hl ((aG.same s2).trans kp) ⟨⟨a1,a2,a3,a4,a5⟩,⟨_,aC,(kq b2' ⟨⟨tt,rfl,hq,hns⟩,trivial⟩).keep kt⟩,xs',by rw[aq nL];exact c1',fun y hy=>kt _ _ (c2' y hy),c3',c4'⟩
noncomputable abbrev CS:=List (List Int)×List (List Int)
noncomputable def du(cl:List Int->List (List Int))(st:CS)(f:List Int):CS:=if f∈st.2 then st else(st.1++[f],st.2++cl f)
theorem pR{cl:List Int->List (List Int)}:∀(l:List (List Int)) (st:CS),(l.foldl (du cl) st).1=st.1++_root_.K.grd cl l st.2
 | [],st=>by rw[List.foldl_nil,_root_.K.grd,Ra]
 | f::l,st=>by
  rw[List.foldl_cons,pR l]
  unfold du
  by_cases h:f∈st.2
  ·rw[if_pos h,_root_.K.grd_in h]
  ·rw[if_neg h,_root_.K.grd_out h,Q5];rfl
theorem mi:∀l:List (List Int),ao (l.map ax)=true
 | []=>rfl
 | x::l=>by
  rw[QU]
  show(ao (x.map D.int)&&ao (l.map ax))=true
  rw[mi l,jp x];rfl
theorem JC.setN{v:V}{y:Str}(h1:X.N[it]?=some xt)(h2:X.N[im]?=some xm)(hy:X.N[j]?=some y)(n1:y≠xt)(n2:y≠xm)(h:JC X it im L d tl m ow σ H):JC X it im L d tl m ow (σ.set j (some v)) H :=
 h.set (fun z=>by subst z;rw[h1]at hy;injection hy with hy;exact n1 hy.symm) (fun z=>by subst z;rw[h2]at hy;injection hy with hy;exact n2 hy.symm)
theorem xO{Φ:Fx}{sc:Scope}{H0:Hp}{xf xo:Str}{pf po pm pm2 pn2 pt pc pe pa ps f1 f2 f3 f4:Pos}{iter it1 eb:Expr}{fs us:List (List Int)}{k1 k3:Nat}{g:List Int->List Int->List Int}(G:aK Φ X sc)(hp:PassesOwn (model X.prog X.w) X.A X.env X.xe)(hu:X.A.units+70<cLine)
  (hxf:cq sc xf=true) (hxo:cq sc xo=true) (nof:xo≠xf) (nft:xf≠xt) (nfm:xf≠xm) (noT:xo≠xt) (nom:xo≠xm) (ht:X.N[it]?=some xt) (vt:fj X.env.scope xt) (okt:dw xt=true) (hm:X.N[im]?=some xm) (vm:fj X.env.scope xm) (okm:dw xm=true) (okf:dw xf=true)
  (shC:Sh C) (cf:C xf=none) (co:C xo=none) (hne:∀f∈fs,f≠[])
  (hi:IE X C (.Name xf pf) iter (fs.map ax) k) (hk:k<=1) (hi1:∀f,IE X (aI C xf (ax f,false)) (.Name xo po) it1 (us.map ax) k1) (hk1:k1<=1)
  (heb:∀f∈fs,∀u∈us,ED X (aI (aI C xf (ax f,false)) xo (ax u,false)) eb (ax (g f u)) k2) (hev:∀ρ,ED X ρ ev (.bl true) k3)
  (hs:∀x,foldedSetIterable iter X.env x=pure x) (hs1:∀x,foldedSetIterable it1 X.env x=pure x) (hl2:(ap.endLine==cp.line)=true)
  (hb:∀i,((fs.take i).foldl (du fun f=>us.map (g f)) ([],[])).2.length+us.length<bJ/\((fs.take i).foldl (du fun f=>us.map (g f)) ([],[])).1.length<bJ)
  (ha:∀v,assign (.Subscript (.Name xm pm2) eb ps) X.env v=(do
   let ov <- holding [v] (eval (.Name xm pm2) X.env)
   let iv <- holding [v,ov] (eval eb X.env)
   standAt ps
   holding [v,ov,iv] (setItem ov iv v)
   release [v,ov,iv] []))
  (hsw:swapsWithSole [.Subscript (.Name xm pm2) eb ps] ev pa.line X.env=pure false) (hw:swappedStores [.Subscript (.Name xm pm2) eb ps] ev X.env=pure none) (h1:(assignEach [.Subscript (.Name xm pm2) eb ps] X.env).map (·.2)=[assign (.Subscript (.Name xm pm2) eb ps) X.env]) :
  PS X (.For (.Name xf pf) iter [.If (.Compare (.Name xf pc) [.NotIn] [.Name xm pm] pe) [.Expr (.Call (.Attribute (.Name xt pt) "append" ap) [.Name xf pn2] [] cp) f3,.For (.Name xo po) it1 [.Assign [.Subscript (.Name xm pm2) eb ps] ev pa] [] f2] [] f4] [] f1)
   (tX X H0 C (JC X it im L d [] []) C (JC X it im L d (_root_.K.grd (fun f=>us.map (g f)) fs []) (fs.foldl (du fun f=>us.map (g f)) ([],[])).2)):=by
 have put_x:∀(ρ':ac) (y:Str) (p:D×Bool),aI ρ' y p y=some p:=fun ρ' y p=>by rw[bm,if_pos rfl]
 have put_o:∀(ρ':ac) (y z:Str) (p:D×Bool),z≠y->aI ρ' y p z=ρ' z:=fun ρ' y z p h=>by rw[bm,if_neg h]
 have outer:=oF (X:=X) (H0:=H0) (Φ:=Φ) (sc:=sc) (ρ:=C) (x:=xf) (px:=pf) (pos:=f1) (iter:=iter) (body:=[.If (.Compare (.Name xf pc) [.NotIn] [.Name xm pm] pe) [.Expr (.Call (.Attribute (.Name xt pt) "append" ap) [.Name xf pn2] [] cp) f3,.For (.Name xo po) it1 [.Assign [.Subscript (.Name xm pm2) eb ps] ev pa] [] f2] [] f4])
  (Jn:=fun i=>JC X it im L d ((fs.take i).foldl (du fun f=>us.map (g f)) ([],[])).1 ((fs.take i).foldl (du fun f=>us.map (g f)) ([],[])).2) G hp hxf hi hk (mi fs) (fun i dd hd=>?_) (fun _ _ _ _ _ sm j=>JC.same sm j) (fun _ _ _ _ _ j hj z=>JC.setN ht hm hj nft nfm z) hs
 ·have e:(fs.foldl (du fun f=>us.map (g f)) ([],[])).1=_root_.K.grd (fun f=>us.map (g f)) fs []:=pR fs ([],[])
  rw[QC,SO,List.take_zero,e]at outer
  exact outer
 rw[Q7]at hd
 obtain⟨f,hf,rfl⟩:=Sd.mp hd
 have hfm:f∈fs:=RF hf
 have ef:(fs.take (i+1)).foldl (du fun f=>us.map (g f)) ([],[])=du (fun f=>us.map (g f)) ((fs.take i).foldl (du fun f=>us.map (g f)) ([],[])) f:=by
  rw[SL,hf,List.foldl_append];rfl
 rw[ef]
 obtain⟨b1,b2⟩:=hb i
 generalize (fs.take i).foldl (du fun f=>us.map (g f)) ([],[])=st at b1 b2
 have shf:Sh (aI C xf (ax f,false)):=kE shC
 have gf:aI C xf (ax f,false) xf=some (ax f,false):=put_x _ _ _
 refine oE (ρ1:=aI C xf (ax f,false)) (fun y pp hy=>?_) (kU ?_)
 ·by_cases z:y=xf
  ·subst z;rw[cf]at hy;cases hy
  ·rw[put_o _ _ _ _ z];exact hy
 refine Gm hu hm vm okm (eV (X:=X) gf okf) (fun hn=>?_) (fun hin=>by unfold du;rw[if_pos hin];exact⟨rfl,rfl⟩)
 have e2:du (fun f=>us.map (g f)) st f=(st.1++[f],st.2++us.map (g f)):=if_neg hn
 rw[e2]
 have inner:=oF (X:=X) (H0:=H0) (Φ:=Φ) (sc:=sc) (ρ:=aI C xf (ax f,false)) (x:=xo) (px:=po) (pos:=f2) (iter:=it1) (body:=[.Assign [.Subscript (.Name xm pm2) eb ps] ev pa])
  (Jn:=fun j=>JC X it im L d (st.1++[f]) (st.2++(us.take j).map (g f))) G hp hxo (hi1 f) hk1 (mi us) (fun j dd hd=>?_) (fun _ _ _ _ _ sm j=>JC.same sm j) (fun _ _ _ _ _ j hj z=>JC.setN ht hm hj noT nom z) hs1
 ·rw[QC,SO,List.take_zero,SK,Ra]at inner
  intro pins s σ H D I ⟨ow,E,hl,B,j,q⟩
  refine fu (Dx ht vt okt shf (ge (eV (X:=X) gf okf) ir (aN fun _ _ z=>nomatch z)) (hne f hfm) (fun _ _ z=>nomatch z) hl2 b2) (kU inner) pins s σ H D I ⟨ow,E,hl,B,j,fun ow' σ' H' E' hl' k' j'=>⟨ow',E',hl',B.keep k',j',fun ow2 σ2 H2 a b c d=>q ow2 σ2 H2 a b (k'.trans c) d⟩⟩
 rw[Q7]at hd
 obtain⟨u,hu',rfl⟩:=Sd.mp hd
 have hju:j<us.length:=(QO.mp hu').1
 have eu:st.2++(us.take (j+1)).map (g f)=(st.2++(us.take j).map (g f))++[g f u]:=by
  rw[SL,hu',Sj,Q5];rfl
 rw[eu]
 refine oE (ρ1:=aI (aI C xf (ax f,false)) xo (ax u,false)) (fun y pp hy=>?_) (kU (Dw hu hm vm okm (kE shf) (heb f hfm u (RF hu')) (hev _) ?_ ha hsw hw h1))
 ·by_cases z:y=xo
  ·subst z;rw[put_o _ _ _ _ nof,co]at hy;cases hy
  ·rw[put_o _ _ _ _ z];exact hy
 ·rw[QH,QC,Q1]
  omega
theorem AS{H0:Hp}(ht:X.N[it]?=some xt)(vt:fj X.env.scope xt)
  (hret:∀ρ':ac,ρ' xt=some (.lst (tl.map ax),true)->dh X H0 ρ' ss (.rt r)) :
  dZ X ss (fun D σ H => ∃ow,cP ow H/\σ.length=X.N.length/\cj H0 ow H/\JC X it im L d tl m ow σ H/\jW X H0 ow H (.rt r) D):=by
 intro pins s σ H D I ⟨ow,oi,hl,B,⟨⟨a1,a2,a3,a4,a5⟩,⟨ts,b1,b2⟩,_⟩,q⟩
 let ow2:Ow:=fun b=>if b=L then some (some xt)else ow b
 have w1:ow2 L=some (some xt):=if_pos rfl
 have w2:∀b,b≠L->ow2 b=ow b:=fun b hb=>if_neg hb
 have K2:aG ow H ow2 H:=⟨fun _ _ h _=>h,fun b _ _ hb=>by rw[w2 b (fun z=>by subst z;rw[a3]at hb;cases hb)];exact hb⟩
 have oi2:cP ow2 H:=fun b hb=>by
  by_cases z:b=L
  ·subst z;exact⟨_,b1⟩
  ·rw[w2 b z]at hb;exact oi b hb
 refine hret (aI (fun _=>none) xt (.lst (tl.map ax),true)) (by rw[bm,if_pos rfl]) pins s σ H D I ⟨ow2,⟨fun y p o hy=>?_,oi2⟩,hl,B.keep K2,jW.keep (fl:=.rt r) q K2⟩
 rw[bm]at hy
 by_cases z:y=xt
 ·subst z
  rw[if_pos rfl]at hy
  cases hy
  refine⟨it,.ref L,ht,vt,a1,?_⟩
  rw[ae]
  exact⟨L,ts,true,rfl,b1,⟨rfl,w1⟩,gx b2⟩
 ·rw[if_neg z]at hy;cases hy
theorem wv{H0:Hp}{st:Stmt}(h1:ρ xt=some (.lst [],true))(h2:ρ xm=some (.dct [] [],true))(shC:Sh C)(hC:∀y p,C y=some p->ρ y=some p)
  (hloop:∀it im L d,X.N[it]?=some xt->fj X.env.scope xt->X.N[im]?=some xm->fj X.env.scope xm->PS X st (tX X H0 C (JC X it im L d [] []) C (JC X it im L d tl m)))
  (hret:∀ρ':ac,ρ' xt=some (.lst (tl.map ax),true)->dh X H0 ρ' ss (.rt r)):dh X H0 ρ (st::ss) (.rt r):=by
 intro pins s σ H D0 I ⟨ow,E,hl,B,q⟩
 obtain⟨it,v,t1,t2,t3,t4⟩:=E.get xt _ _ h1
 rw[ae]at t4
 obtain⟨L,us,b,rfl,q3,⟨rfl,q6⟩,q5⟩:=t4
 rw[ah]at q5;subst q5
 replace q3:H L=some (.lst []):=q3
 obtain⟨im,v',m1,m2,m3,m4⟩:=E.get xm _ _ h2
 rw[ae]at m4
 obtain⟨_,_,d,vs,rfl,hA,hP,rl⟩:=m4
 rw[ah]at rl;subst rl
 replace hA:H d=some (.dK []):=hA
 have hoA:ow d=some (some xm):=hP.2
 obtain⟨_,hd,vs,bR,o,es,ep,e1,e2,e3,_,e4,_⟩:=(show aV X.prog X.w H s.heap d (.dK [])from I.hok d _ hA)
 have ev:vs=[]:=RS.mp (by rw[<- bR.length];rfl)
 subst ev
 have e5:es.toList=[]:=by
  generalize es.toList=l at e4
  cases e4
  rfl
 have ob:aV X.prog X.w (aF H d (.ext (fT X.prog X.w d []))) s.heap d (.ext (fT X.prog X.w d [])):=⟨⟨o,es,ep,e1,e2,e3,e5,List.nodup_nil⟩,⟨o,e1⟩,vv⟩
 have I1:aj X pins σ (aF H d (.ext (fT X.prog X.w d []))) s:=I.write (x:=d) (e:=d) (h':=s.heap) (t':=s.toks) (by rw[hA];exact True.intro) (.inl rfl) (fun b u _ h=>h) ⟨o,e1⟩ ob
 have nL:L≠d:=fun z=>by subst z;rw[hA]at q3;cases q3
 let ow1:Ow:=fun b=>if b=L then some none else if b=d then some none else ow b
 have w1:ow1 L=some none:=if_pos rfl
 have w2:ow1 d=some none:=by show(if d=L then _ else _)=_;rw[if_neg (RT nL),if_pos rfl]
 have w3:∀b,b≠L->b≠d->ow1 b=ow b:=fun b h1 h2=>by show(if b=L then _ else _)=_;rw[if_neg h1,if_neg h2]
 have K1:aG ow H ow1 (aF H d (.ext (fT X.prog X.w d []))):=⟨fun b u hb c=>by
  rw[aq (fun z=>by
   subst z
   rw[hA]at hb;cases hb
   rcases c with c|c
   ·exact c
   ·rw[hoA]at c;cases c)]
  exact hb,fun b u _ hb=>by rw[w3 b (fun z=>by subst z;rw[q6]at hb;cases hb) (fun z=>by subst z;rw[hoA]at hb;cases hb)];exact hb⟩
 have oi:cP ow1 (aF H d (.ext (fT X.prog X.w d []))):=fun b hb=>by
  by_cases z:b=d
  ·subst z;exact⟨_,aC⟩
  ·rw[aq z]
   by_cases z2:b=L
   ·subst z2;exact⟨_,q3⟩
   ·rw[w3 b z2 z]at hb;exact E.own b hb
 have B1:=B.keep K1
 refine fu (hloop it im L d t1 t2 m1 m2) (AS (H0:=H0) (it:=it) (im:=im) (L:=L) (d:=d) (m:=m) t1 t2 hret) pins s σ _ D0 I1 ⟨ow1,f7 shC (vZ hC E) K1 oi,hl,B1,⟨⟨t3,m3,w1,w2,hd⟩,⟨[],by rw[aq nL];exact q3,trivial⟩,[],aC,fun x hx=>(by cases hx),QA _,fun k=>⟨fun z=>(by cases z),fun z=>(by cases z)⟩⟩,fun ow' σ' H' E' hl' k' j'=>?_⟩
 exact⟨ow',E'.own,hl',B1.keep k',j',q⟩
end Sp
namespace HT
open PySem PyProof.Rows
section
open PySem.SeqAt
open PySem.AutoSeq1 (wpAny_loadPart')
open PySem.MeetsSeq PySem.MeetsSeq2 PySem.MeetsSeq3
end
end HT
namespace Sp
open PySem PySem.Spec PyProof.Rows L2
section
variable{prog:Program}{w:World}{A:Around}{R:Result->Shared->Prop}{I:Addr}{fp wr:List Addr}{n:Nat}{P:Nat->Value->Prop}{St:Nat->Heap->Prop}
end
variable{X:Cx}
theorem mj:∀{l:List (List Int)},(∀t∈l,t≠[])->cZ (l.map ax)=some l
 | [],_=>rfl
 | []::l,h=>absurd rfl (h [] Qy)
 | (y::x)::l,h=>by
  have e:cZ (l.map fun ns=>D.tup (ns.map D.int))=some l:=mj fun t ht=>h t (Qz _ ht)
  rw[QU]
  unfold ax cZ
  rw[o8,e]
end Sp
namespace K
open PySem L2 Sp Qm
variable{N:Int}{t:List Int}{s:Bool}
theorem EY{α:Type}{P:α->Bool}{r:α}{l:List α}(hn:l.Nodup)(hr:r∈l)(h1:P r=true)(h2:∀x∈l,P x=true->x=r):(l.filter P).length=1:=by
 have n:=hn.filter P
 have m:r∈l.filter P:=Rz.mpr ⟨hr,h1⟩
 have a:∀x∈l.filter P,x=r:=fun x hx=>h2 x (Rz.mp hx).1 (Rz.mp hx).2
 generalize l.filter P=k at n m a
 match k,n,m,a with
 | [],_,m,_=>cases m
 | [x],_,_,_=>rfl
 | x::y::k,n,_,a =>
  have e:=(a x Qy).trans (a y (Qz _ Qy)).symm
  exact absurd e ((RB.mp n).1 y Qy)
theorem v6{s:Bool}(hN:N<=97)(h:t∈aU N):∃r∈aX s N,t∈cv s r:=by
 rcases mX (cl:=cv s) (l:=(aU N).reverse) (m:=[]) (fun x hx=>(hG s hN).self x (Q9.mp hx)) t (Q9.mpr h)with h|h
 ·cases h
 ·exact h
theorem Fm(hN:N<=97){a b:List Int}(ha:a∈aX s N)(hb:b∈aX s N)(h1:t∈cv s a)(h2:t∈cv s b):a=b:=by
 have d:=mW (hG s hN) (l:=(aU N).reverse) (m:=[]) (fun x hx=>Q9.mp hx) (fun x hx=>by cases hx)
 rcases eq_or_of_pw d (show a∈grd (cv s) (aU N).reverse []from ha) (show b∈grd (cv s) (aU N).reverse []from hb)with e|e|e
 ·exact e
 ·exact absurd rfl (e t h1 t h2)
 ·exact absurd rfl (e t h2 t h1)
where
 eq_or_of_pw {α:Type} {R:α->α->Prop} {a b:α}:∀{l:List α},l.Pairwise R->a∈l->b∈l->a=b\/R a b\/R b a
 | [],_,h,_=>by cases h
 | x::l,p,h,g=>by
  obtain⟨p1,p2⟩:=RB.mp p
  rcases QD.mp h with e|h'
  ·rcases QD.mp g with e2|g'
   ·exact .inl (e.trans e2.symm)
   ·exact .inr (.inl (by rw[e];exact p1 b g'))
  ·rcases QD.mp g with e2|g'
   ·exact .inr (.inr (by rw[e2];exact p1 a h'))
   ·exact eq_or_of_pw p2 h' g'
theorem ID(hN:N<=97)(h:t∈aX s N):∀g∈cv s t,HT.lexLt t g=false:=fun g hg=>by
 rcases Fo hN h g hg with e|e
 ·rw[e];exact gZ _
 ·cases hc:HT.lexLt t g with
  | false=>rfl
  | true=>have:=iL _ _ _ hc e;rw[gZ]at this;cases this
end K
namespace Sp
open PySem
variable{α β:Type}{x:Value}{ks:List Int}{a b l:Addr}{Q:Bool->Shared->Prop}{hs':Array Int}{t t':SetTable}{ws:List (List Int)}
noncomputable abbrev gK(es:Array (Int×Value))(ep:Nat)(t:SetTable):Obj:={ cls:=.type "set", dict:=none,data:=.set es ep t,slots:=#[] }
noncomputable def Cc(ks:List Int):Int:=reduceHash (Builtin.Tuple.tupleHashOf (ks.map hashInt))
noncomputable def AU(hs:Array Int)(t:SetTable)(n:Nat):Option (Array Int×SetTable) :=
 if SetTable.sizeAbove n>sizeLine then none else match t.relaid hs n with
 | some (t2,order)=>if (order.filterMap (hs[·]?)).size==hs.size&&t2.fits hs.size then some (order.filterMap (hs[·]?),t2)else none
 | none=>none
noncomputable def xk(hs:Array Int)(t:SetTable)(h:Int):Option (Array Int×SetTable) :=
 if t.gaveWay || !t.plain then none else match t.probe (fun i=>(hs[i]?).getD 0) h (t.probeStart h)with
 | some (.empty j none) =>
  if (t.put j).1.fits (hs.size+1)&&(SetTable.insertAt hs (t.put j).2 h).size==hs.size+1&&(t.put j).1.plain then
   (if (t.put j).1.tooFull then AU (SetTable.insertAt hs (t.put j).2 h) (t.put j).1 (SetTable.grown (hs.size+1))else some (SetTable.insertAt hs (t.put j).2 h,(t.put j).1))
  else none
 | _=>none
theorem EQ(f:α->β)(es:Array α)(p:Nat)(x:α):(SetTable.insertAt es p x).map f=SetTable.insertAt (es.map f) p (f x):=by
 unfold SetTable.insertAt
 simp[Array.map_extract]
theorem EZ(f:α->β)(es:Array α)(o:Array Nat):(o.filterMap (es[·]?)).map f=o.filterMap ((es.map f)[·]?):=by
 apply Array.toList_inj.mp
 simp[List.map_filterMap]
section
variable{prog:Program}{w:World}{A:Around}{E:Value->Shared->Prop}{s:Shared}
theorem KN{n:Nat}{k:Int}(h:(intKind prog w).is k x=true):hashByValue n x=pure true:=by
 have:∃t,x=.int k t:=by
  cases x<;>simp[intKind,Value.isInt]at h
  rename_i i t;exact⟨t,by rw[h]⟩
 obtain⟨t,rfl⟩:=this
 cases n<;>rfl
theorem KM(hk:IsTupleKey (intKind prog w) s.heap ks b)(h:Q true s):wpAny (model prog w) A (hashByValue 8 (.ref b)) Q E s:=by
 have hT:=hk.typeIs
 obtain⟨o,items,n,ho,_,hd,hi⟩:=hk
 unfold hashByValue
 refine Qx (wpAny_specialOf hT F.slot_tuple_hash.lookup ?_)
 dsimp only
 refine Qx (RY ho hd ?_)
 refine Qx ?_
 dsimp only[Option.getD]
 rw[<- Array.forIn_toList]
 refine wpAny_forIn_list _ (fun dF b s'=>b.1=none/\s'=s/\∃left,ItemsAre (intKind prog w) left dF) _ ?_ ?_ _ _ ⟨rfl,rfl,ks,hi⟩
 ·rintro x dF b s' ⟨hb,rfl,left,hl⟩
  cases hl with
  | @cons k _ ks' _ h1 hl' =>
   rw[KN h1]
   refine Qx (QL ?_)
   exact QL ⟨rfl,rfl,ks',hl'⟩
 ·rintro⟨b1,b2⟩ s' ⟨hb,rfl,left,hl⟩
  cases hb
  exact QL h
theorem FJ{hs:Array Int}{h:Int}(e:xk hs t h=some (hs',t')):t.gaveWay=false/\t.plain=true/\∃j,t.probe (fun i=>(hs[i]?).getD 0) h (t.probeStart h)=some (.empty j none)/\(t.put j).1.fits (hs.size+1)=true/\(SetTable.insertAt hs (t.put j).2 h).size=hs.size+1/\(t.put j).1.plain=true /\
  (((t.put j).1.tooFull=false/\hs'=SetTable.insertAt hs (t.put j).2 h/\t'=(t.put j).1)\/((t.put j).1.tooFull=true/\AU (SetTable.insertAt hs (t.put j).2 h) (t.put j).1 (SetTable.grown (hs.size+1))=some (hs',t'))):=by
 unfold xk at e
 split at e
 ·cases e
 rename_i h0
 rw[SU,not_or]at h0
 refine⟨by simpa using h0.1,by simpa using h0.2,?_⟩
 split at e
 ·rename_i j hj
  split at e
  ·rename_i hc
   rw[QI,QI]at hc
   refine⟨j,hj,hc.1.1,by simpa using hc.1.2,hc.2,?_⟩
   split at e
   ·rename_i hf
    exact .inr ⟨hf,e⟩
   ·rename_i hf
    cases e
    exact .inl ⟨by simpa using hf,rfl,rfl⟩
  ·cases e
 ·cases e
theorem FI{es:Array (Int×Value)}{ep:Nat}(hu:A.units<cLine)(ho:s.heap.get? a=some (gK es ep t))(hf:t.fits es.size=true)(hk:IsTupleKey (intKind prog w) s.heap ks b)(hab:a≠b)(hz:es.size<1000)(e:xk (es.map (·.1)) t (Cc ks)=some (hs',t'))
  (q:∀es' ep' h' tk,es'.map (·.1)=hs'->t'.fits es'.size=true->es'.size=es.size+1->h'.get? a=some (gK es' ep' t')->(∀c o,c≠a->s.heap.get? c=some o->h'.get? c=some o)->s.toks<=tk->Q true { s with heap:=h',toks:=tk }) :
  wpAny (model prog w) A (setAdd a (.ref b)) Q E s:=by
 obtain⟨g1,g2,j,g3,g4,g5,g6,g7⟩:=FJ e
 rw[SX]at g4 g5 g7
 unfold setAdd
 refine Sa (Qx (wpAny_pyHash_tuple (knd:=intKind prog w) hu hk ?_))
 have ek:tupleKeyHash (intKind prog w) ks=Cc ks:=rfl
 rw[ek]
 generalize Cc ks=h at *
 have ho':({ s with toks:=s.toks+(ks.length+1) }:Shared).heap.get? a=some (gK es ep t):=ho
 have hk':IsTupleKey (intKind prog w) ({ s with toks:=s.toks+(ks.length+1) }:Shared).heap ks b:=hk
 have htk:s.toks<=({ s with toks:=s.toks+(ks.length+1) }:Shared).toks:=RO _ _
 have hhp:({ s with toks:=s.toks+(ks.length+1) }:Shared).heap=s.heap:=rfl
 unfold setAddHashed setAddHashedIn
 refine Sa (Qx (wpAny_setState_of ho' rfl hf ?_))
 dsimp only
 rw[show byScan (.ref b) es=false from rfl]
 simp only[Ro,↓reduceIte]
 unfold setSearch setSearchFrom
 refine Qx (Qx (wpAny_setState_of ho' rfl hf ?_))
 dsimp only
 rw[g1]
 simp only[Ro,↓reduceIte]
 have g3':t.probe (fun i=>(es[i]?.map (·.1)).getD 0) h (t.probeStart h)=some (.empty j none):=by
  rw[<- g3];congr 1;funext i;rw[Array.getElem?_map]
 dsimp only[Option.getD_none]
 erw [g3']
 dsimp only
 refine QL ?_
 dsimp only
 refine Qx (wpAny_setState_of ho' rfl hf ?_)
 dsimp only
 rw[if_pos g6]
 refine Qx (KM hk' ?_)
 simp only[↓reduceIte,Bool.not_false,Bool.true_and]
 have m1:(SetTable.insertAt es (t.put j).2 (h,Value.ref b)).map (·.1)=SetTable.insertAt (es.map (·.1)) (t.put j).2 h:=EQ (·.1) es (t.put j).2 (h,Value.ref b)
 have z1:(SetTable.insertAt es (t.put j).2 (h,Value.ref b)).size=es.size+1:=by rw[<- g5,<- m1,SX]
 generalize SetTable.insertAt es (t.put j).2 (h,Value.ref b)=es1 at *
 generalize (t.put j).1=t1 at *
 rw[<- m1]at g7
 refine Qx (wpAny_storeSet_of ho' rfl ?_ (by rw[z1,SR];omega))
 have gz:(s.heap.update a (Obj.putSet es1 t1)).get? a=some (gK es1 (ep+1) t1):=by
  have:=Heap.get?_update_self (Obj.putSet es1 t1) ho (by rw[putSet_of es1 t1 rfl];rfl)
  rw[putSet_of es1 t1 rfl]at this;exact this
 have go:∀c o,c≠a->s.heap.get? c=some o->(s.heap.update a (Obj.putSet es1 t1)).get? c=some o:=fun c o hn e=>(Heap.get?_update_other _ _ (RT hn)).trans e
 rw[<- z1]at g4
 rcases g7 with⟨k1,k2,k3⟩|⟨k1,k2⟩
 ·rw[k1]
  simp only[Ro,↓reduceIte]
  subst k3
  exact QL (q es1 (ep+1) _ _ k2.symm g4 z1 gz go htk)
 ·rw[k1]
  simp only[↓reduceIte]
  unfold AU at k2
  split at k2
  ·cases k2
  rename_i hsz
  split at k2
  ·rename_i t2 order hr
   split at k2
   ·rename_i hc
    cases k2
    rw[QI,SX]at hc
    obtain⟨c1,c2⟩:=hc
    have m2:=EZ (·.1) es1 order
    have z2:(order.filterMap (es1[·]?)).size=es1.size:=by
     have:((order.filterMap (es1[·]?)).map (·.1)).size=es1.size:=by rw[m2];exact beq_iff_eq.mp c1
     rw[SX]at this;exact this
    refine Qx ?_
    unfold setRelay
    have ho2:({ s with heap:=s.heap.update a (Obj.putSet es1 t1),toks:=s.toks+(ks.length+1) }:Shared).heap.get? a=some (gK es1 (ep+1) t1):=gz
    refine Qx (wpAny_setState_of ho2 rfl g4 ?_)
    dsimp only
    rw[if_neg hsz]
    rw[hr]
    refine Qx ?_
    show wpAny _ _ (if ((order.filterMap (es1[·]?)).size != es1.size)=true then _ else _) _ _ _
    rw[if_neg (by rw[z2];simp)]
    refine QL ?_
    dsimp only
    refine wpAny_storeSet_of ho2 rfl ?_ (by rw[z2,z1,SR];omega)
    generalize order.filterMap (es1[·]?)=es2 at *
    have gz2:((s.heap.update a (Obj.putSet es1 t1)).update a (Obj.putSet es2 t')).get? a=some (gK es2 (ep+1+1) t'):=by
     have:=Heap.get?_update_self (Obj.putSet es2 t') gz (by rw[putSet_of es2 t' rfl];rfl)
     rw[putSet_of es2 t' rfl]at this;exact this
    refine QL (q es2 (ep+1+1) _ _ m2 (by rw[z2];exact c2) (by rw[z2,z1]) gz2 (fun c o hn e=>(Heap.get?_update_other _ _ (RT hn)).trans (go c o hn e)) htk)
   ·cases k2
  ·cases k2
end
noncomputable def tbl(led:Bool)(p:List Nat):SetTable:=⟨7,p.toArray,#[],0,led,0,true⟩
noncomputable abbrev qx(es:Array (Int×Value))(ep:Nat)(led:Bool)(p:List Nat):Obj:={ cls:=.type "set", dict:=none,data:=.set es ep (tbl led p),slots:=#[] }
section
variable{prog:Program}{w:World}{A:Around}{E:Value->Shared->Prop}{s:Shared}
end

noncomputable abbrev uc(w:World):Bool:=w.params.followText "set-order"
section
variable{prog:Program}{w:World}{A:Around}{E:Value->Shared->Prop}{s:Shared}
end
section
variable{prog:Program}{w:World}{A:Around}{E:Value->Shared->Prop}{s:Shared}
end
theorem pM(a:Value):checkTypeCall "set" ⟨[a],[]⟩=pure ():=by kernel_rfl
theorem rf(a:Value):checkBuiltinCall "set.__new__" ⟨[.type "set", a],[]⟩=pure ():=by kernel_rfl
theorem qS:entryFor table "set.update.loop" = some Builtin.«set.update.loop» := entryFor_of_fast (by kernel_rfl)
theorem kM:plainId "set.update.loop" = true:=by decide +kernel
section
variable{prog:Program}{w:World}{A:Around}{E:Value->Shared->Prop}{s:Shared}
end
section
variable{prog:Program}{w:World}{A:Around}{E:Value->Shared->Prop}{s:Shared}
theorem rh(x:Value){Q₁:Value->Shared->Prop}(h:Q₁ (.ref s.heap.objs.size) { s with heap:=s.heap.push (qx #[] 0 (!uc w) []) }) :
  codeAny (model prog w) A (.call (.builtin "set.__new__") ⟨[.type "set", x],[]⟩) (wants Q₁ E) s:=by
 refine codeAny_of_tree ?_
 show wpAny _ A.in1 (do checkBuiltinCall "set.__new__" ⟨[.type "set", x],[]⟩;again (.builtin "set.__new__" ⟨[.type "set", x],[]⟩)) _ _ s
 refine Qx (wpAny_of_eq (rf x) (QL ⟨plainId_quiet F.plain_set_new _,codeAny_builtin F.entry_set_new ?_⟩))
 rw[Around.under_plainId F.plain_set_new _]
 unfold Builtin.«set.__new__» Builtin.Frozenset.newClass
 have hsub:=sub_set_self
 obtain⟨hp,g,d,tk,os⟩:=s
 dsimp only
 wp_walk
 refine wpAny_askSetting (QL ?_)
 dsimp only
 simp only[newObj]
 refine Qx (wpAny_alloc (QL ?_))
 exact QL h
theorem pB{M:Model}{self:Value}{Q:Unit->Shared->Prop}(hT:s.TypeIs self "set")(hQ:Q () s) :
  wpAny M A (checkBuiltinCall "set.__init__" ⟨[self,x],[]⟩) Q E s:=by
 simp only[checkBuiltinCall,kind_set_init,split_set_init,sig_set_init]
 refine Qx (wpAny_isInstance hT sub_set_self ?_)
 simp only[Bool.not_true,Ro,S5]
 unfold Bind.checkArgs
 dsimp only
 refine Qx (m:=Bind.printed "set" true _ _) (PyProof.Rows.printed_name (by decide) ?_)
 refine Qx (m:=Bind.printed "*" false _ _) (PyProof.Rows.printed_star (self:=self) rfl hT fun short=>?_)
 have hrn:(Manifest.Receiver.self==Manifest.Receiver.none)=false:=by decide
 have hn:(if (Manifest.Receiver.self==Manifest.Receiver.none)=true then[self,x].length else[self,x].length-1)=1:=by simp[hrn]
 rw[hn]
 simp only[SK]
 have hc:Bind.check ⟨.positional, "set", "*", .self,[⟨"iterable", .posOnly,false⟩]⟩ "set" short 1 []=pure ():=by
  simp[Bind.check,Bind.checkCount,Bind.isPositional]
  intro h
  exact absurd h (by decide)
 rw[hc]
 exact QL hQ
end
section
variable{prog:Program}{w:World}{A:Around}{E:Value->Shared->Prop}{s:Shared}
end
noncomputable def iS:List (List Int)->Array Int->SetTable->Bool
 | [],_,_=>true
 | x::l,hs,t=>match xk hs t (Cc x)with|some (hs',t')=>iS l hs' t' | none=>false
section
variable{prog:Program}{w:World}{A:Around}{E:Value->Shared->Prop}{s:Shared}
theorem vc{h h':Heap}(k:∀o,h.get? b=some o->h'.get? b=some o)(x:IsTupleKey (intKind prog w) h ks b):IsTupleKey (intKind prog w) h' ks b:=by
 obtain⟨o,its,n,ho,r⟩:=x
 exact⟨o,its,n,k o ho,r⟩
theorem xB(hh:A.in1.handled=none)(hu:A.in1.units<cLine){I:Addr}(hne:l≠I)(haI:a≠I)(hal:a≠l){items:Array Value}{h0:Heap}(hw:∀(j:Nat) v,items[j]?=some v->∃b ks,v=.ref b/\ws[j]?=some ks/\a≠b/\b≠I/\IsTupleKey (intKind prog w) h0 ks b){R:Result->Shared->Prop} :
  ∀(k i:Nat) (s:Shared) (es:Array (Int×Value)) (ep:Nat) (t:SetTable),items.size-i=k->i<=items.size->(s.heap.IsListIter I l i/\s.heap.IsList l items)->s.heap.get? a=some (gK es ep t)->t.fits es.size=true->es.size+k<1000->iS (ws.drop i) (es.map (·.1)) t=true->(∀c o,c≠a->c≠I->h0.get? c=some o->s.heap.get? c=some o) ->
  (∀es' ep' t' h' tk,es'.size=es.size+k->h'.get? a=some (gK es' ep' t')->t'.fits es'.size=true->(∀c o,c≠a->c≠I->s.heap.get? c=some o->h'.get? c=some o)->R (.ok (.ret .none)) { s with heap:=h',toks:=tk }) ->
  codeAny (model prog w) A (.builtin "set.update.loop" ⟨[.ref a,.ref I],[]⟩) R s:=by
 have W:=Walks.list (prog:=prog) (w:=w) (A:=A.in1) hh I l hne items
 have fpa:a∉[I,l]:=by simp[haI,hal]
 intro k
 induction k with
 | zero =>
  intro i s es ep t hk hi st ha hf hz sim h0k hR
  have hin:i=items.size:=by omega
  subst hin
  refine codeAny_builtin qS ?_
  rw[Around.under_plainId kM _]
  refine Qx (m:=pyNext (.ref I)) (W.done s _ _ st fun h' tk k'=>?_)
  exact QL (hR es ep t h' tk rfl (k' a _ (by simp[haI]) ha) hf fun c o _ hc e=>k' c o (by simp[hc]) e)
 | succ k ih =>
  intro i s es ep t hk hi st ha hf hz sim h0k hR
  have hlt:i<items.size:=by omega
  refine codeAny_builtin qS ?_
  rw[Around.under_plainId kM _]
  refine Qx (m:=pyNext (.ref I)) (W.item i s _ _ hlt st fun v h1 tk hP st' k'=>?_)
  obtain⟨b,ks,rfl,hn,hab,hbI,hkey⟩:=hw i v hP
  have ha':=k' a _ (by simp[haI]) ha
  have dr:ws.drop i=ks::ws.drop (i+1):=by
   obtain⟨hlt',e⟩:=QO.mp hn
   rw[RL hlt',e]
  rw[dr,iS]at sim
  split at sim
  ·rename_i hs' t' eA
   have hkey':IsTupleKey (intKind prog w) ({ s with heap:=h1,toks:=tk }:Shared).heap ks b:=vc (fun o e=>k' b o (by simp[hbI]) (h0k b o (RT hab) hbI e)) hkey
   refine Qx (m:=holding [Value.ref b] (setAdd a (.ref b))) (Sa (FI hu (s:={ s with heap:=h1,toks:=tk }) ha' hf hkey' hab (by omega) eA fun es' ep' h2 tk2 m1 f1 z1 g1 o1 _=>?_))
   refine QL ⟨plainId_quiet kM _,ih (i+1) _ es' ep' t' (by omega) (by omega) (W.frame _ _ _ st' fun c hc o e=>o1 c o (fun z=>fpa (z ▸ hc)) e) g1 f1 (by omega) (by rw[m1];exact sim) (fun c o c1 c2 e=>o1 c o c1 (k' c o (by simp[c2]) (h0k c o c1 c2 e))) fun es2 ep2 t2 h3 tk3 y1 y2 y3 y4=>?_⟩
   exact hR es2 ep2 t2 h3 tk3 (by omega) y2 y3 fun c o c1 c2 e=>y4 c o c1 c2 (o1 c o c1 (k' c o (by simp[c2]) e))
  ·cases sim
theorem xC{id:String}(hh:A.in1.handled=none)(hu:A.in1.units<cLine){led:Bool}{items:Array Value}{Q:Unit->Shared->Prop}(hal:a≠l)(ha:s.heap.get? a=some (gK #[] 0 (SetTable.fresh 0 0 led)))(ht:s.heap.IsList l items)(hw:∀(j:Nat) v,items[j]?=some v->∃b ks,v=.ref b/\ws[j]?=some ks/\a≠b/\IsTupleKey (intKind prog w) s.heap ks b)(hz:items.size<1000)(sim:iS ws #[] (SetTable.fresh 0 0 led)=true)
  (hQ:∀es' ep' t' h' tk,es'.size=items.size->h'.get? a=some (gK es' ep' t')->t'.fits es'.size=true->(∀c o,c≠a->s.heap.get? c=some o->h'.get? c=some o)->Q () { s with heap:=h',toks:=tk }) :
  wpAny (model prog w) A (Builtin.Frozenset.updateFrom id a (.ref l)) Q E s:=by
 have hT:s.TypeIs (.ref l) "list" := ht.typeIs
 unfold Builtin.Frozenset.updateFrom
 refine Qx ?_
 unfold Builtin.Frozenset.isAnySet
 unfold orM
 refine Qx (wpAny_isInstance (b:=false) hT (by rw[isSubtype_type];kernel_rfl) ?_)
 show wpAny _ _ (isInstance (.ref l) (.type "frozenset")) _ _ _
 refine wpAny_isInstance (b:=false) hT (by rw[isSubtype_type];kernel_rfl) ?_
 dsimp only
 rw[if_neg QT]
 refine Qx (wpAny_typeOf hT ?_)
 rw[if_neg (by decide)]
 refine Qx (Sl ht ?_)
 have hla:=QE ha
 have hll:l<s.heap.objs.size:=by obtain⟨_,e,_⟩:=ht;exact QE e
 refine Qx (wpAny_runValue (xB (I:=s.heap.objs.size) (l:=l) (a:=a) (h0:=s.heap) (ws:=ws) hh hu (QZ hll) (QZ hla) hal (fun j v hv=>?_) items.size 0 _ #[] 0 _ rfl (QN _) ⟨?_,?_⟩ (Qw _ ha) (by cases led<;>decide +kernel) (by simpa using hz) (by rw[List.drop_zero,Array.map_empty];exact sim) (fun c o _ _ e=>Qw _ e) fun es' ep' t' h' tk y1 y2 y3 y4=>?_))
 ·obtain⟨b,ks,e1,e2,e3,e4⟩:=hw j v hv
  refine⟨b,ks,e1,e2,e3,?_,e4⟩
  obtain⟨o,_,_,ho,_⟩:=e4
  exact QZ (QE ho)
 ·exact⟨_,QJ _ rfl,rfl,rfl⟩
 ·exact ht.push _
 ·refine QL (hQ es' ep' t' h' tk (by simpa using y1) y2 y3 fun c o hc e=>y4 c o hc (QZ (QE e)) (Qw _ e))
theorem zD(hh:A.handled=none)(hu:A.units+10<cLine){items:Array Value}{Q:Value->Shared->Prop}(ht:s.heap.IsList l items)(hw:∀(j:Nat) v,items[j]?=some v->∃b ks,v=.ref b/\ws[j]?=some ks/\IsTupleKey (intKind prog w) s.heap ks b)(hz:items.size<1000)(sim:∀led,iS ws #[] (SetTable.fresh 0 0 led)=true)
  (hQ:∀es' ep' t' h' tk,es'.size=items.size->h'.get? s.heap.objs.size=some (gK es' ep' t')->t'.fits es'.size=true->(∀c o,s.heap.get? c=some o->h'.get? c=some o)->Q (.ref s.heap.objs.size) { s with heap:=h',toks:=tk }) :
  wpAny (model prog w) A (call (.type "set") [.ref l]) Q E s:=by
 obtain⟨c,tl,hmro⟩:=Su.mro
 have hmade:=Su.made
 have hsub:=Su.sub
 refine wpAny_call (codeAny_of_tree ?_)
 show wpAny _ _ (callAny (.type "set") _) _ _ _
 refine QL ⟨Code.quiet_builtin _ (by decide +kernel),codeAny_builtin F.entry_type_call ?_⟩
 rw[Around.under_plain (weight_type_call_type "set" [.ref l] []) rfl]
 have h1:=Su.notType
 have h2:=Su.canCreate
 have hct:=pM (.ref l)
 repeat (any_goals (first|assumption|wp_step))
 refine codeAny_mono (rh (E:=E) (.ref l) (Q₁:=fun obj s₁=>obj=.ref s.heap.objs.size/\s₁ = { s with heap:=s.heap.push (qx #[] 0 (!uc w) []) }) ⟨rfl,rfl⟩) fun r s₁ hr=>?_
 cases r with
 | error e=>exact hr
 | ok fl =>
  cases fl with
  | ret obj =>
   obtain⟨rfl,rfl⟩:=hr
   have hS:(s.heap.push (qx #[] 0 (!uc w) [])).get? s.heap.objs.size=some (qx #[] 0 (!uc w) []):=QJ _ rfl
   have hT:Shared.TypeIs { s with heap:=s.heap.push (qx #[] 0 (!uc w) []) } (.ref s.heap.objs.size) "set" := ⟨_,hS,rfl⟩
   have hli:=Su.init.lookup
   have hbi:=Su.init.bind (.ref s.heap.objs.size)
   repeat (any_goals (first|assumption|wp_step))
   refine codeAny_mono (codeAny_call_builtin (R:=wants (fun r s₂=>r=.none/\Q (.ref s.heap.objs.size) s₂) E) Su.init.plain F.entry_set_init (pB hT ?_)) fun r₂ s₂ hr₂=>?_
   ·unfold Builtin.«set.__init__» noKeywords
    generalize hU:Builtin.Frozenset.updateFrom=U
    wp_walk
    subst hU
    have hll:l<s.heap.objs.size:=by obtain⟨_,e,_⟩:=ht;exact QE e
    refine xC (A:=A.in1.in1) (s:={ s with heap:=s.heap.push (qx #[] 0 (!uc w) []) }) (ws:=ws) hh (by simp only[Around.in1_units];omega) (RN hll) (led:=!uc w) hS (items:=items) (ht.push _) (fun j v hv=>?_) hz (sim _) fun es' ep' t' h' tk y1 y2 y3 y4=>?_
    ·obtain⟨b,ks,e1,e2,e4⟩:=hw j v hv
     have hlt:b<s.heap.objs.size:=by obtain⟨o,_,_,ho,_⟩:=e4;exact QE ho
     exact⟨b,ks,e1,e2,RN hlt,vc (fun o e=>Qw _ e) e4⟩
    ·exact QL ⟨rfl,hQ es' ep' t' h' tk y1 y2 y3 fun c o e=>y4 c o (QZ (QE e)) (Qw _ e)⟩
   ·cases r₂ with
    | error e=>exact hr₂
    | ok fl₂ =>
     cases fl₂ with
     | ret r =>
      obtain⟨rfl,hq⟩:=hr₂
      repeat (any_goals (first|assumption|wp_step))
     | _=>exact hr₂.elim
  | _=>exact hr.elim
end
end Sp
namespace Sp
open PySem PySem.Spec PyProof.Rows L2
variable{X:Cx}
noncomputable def rX(a:Addr)(n:Nat):Heap->Prop:=fun h => ∃es ep t,h.get? a=some (gK es ep t)/\t.fits es.size=true/\es.size=n
theorem Dy{a:Addr}{n:Nat}:∀h1 h2:Heap,rX a n h1->(∀o,h1.get? a=some o->h2.get? a=some o)->rX a n h2:=fun h1 h2 ⟨es,ep,t,e,f⟩ k=>⟨es,ep,t,k _ e,f⟩
theorem Ds{P:Program}{w:World}{h:Heap}{b:Addr}{ns:List Int}(t:fx h (.ref b) ns):IsTupleKey (intKind P w) h ns b:=by
 obtain⟨b',o,its,m,e,ho,hc,hd,hv,hne⟩:=t
 cases e
 refine⟨o,its,m,ho,hc,hd,?_⟩
 clear hd ho hne
 generalize its.toList=us at hv
 induction ns generalizing us with
 | nil=>cases hv;exact .nil
 | cons n ns ih =>
  cases hv with
  | cons r1 r2 =>
   obtain⟨tk,rfl⟩:=r1
   exact .cons (by simp[intKind,Value.isInt]) (ih _ r2)
theorem w8(hc:X.calm=true)(hu:X.A.units+70<cLine):e6 X (.type "set") (fun xs H Q => ∃(p:Addr) (ts:List V) (nss:List (List Int)),xs=[.ref p]/\ci X.K H p ts/\bD X.K H ts nss/\ts.length<1000/\(∀led,iS nss #[] (SetTable.fresh 0 0 led)=true)/\∀D,H D=none->Q (.ref D) (aF H D (.ext (rX D ts.length)))):=by
 intro pins s σ H xs us Q I r h
 obtain⟨p,ts,nss,rfl,hq,ht,hz,sim,q⟩:=h
 obtain⟨u,rfl,rx⟩:=iC r
 cases rx
 obtain⟨its,rv,pl,_⟩:=I.list hq
 have el:its.length=ts.length:=rv.length.symm
 obtain⟨t1,t2⟩:=nV I ht rv
 refine zD (I.ok.hd hc) (by omega) (ws:=nss) pl.isList (fun j v hv=>?_) (by simp;omega) sim fun es' ep' t' h' tk y1 y2 y3 y4=>?_
 ·have hv':its[j]?=some v:=by simpa using hv
  obtain⟨b,ns,rfl,x,_⟩:=t2 v (RF hv')
  refine⟨b,ns,rfl,?_,Ds x⟩
  rw[<- t1,Q7,hv']
  show some (eL s.heap (.ref b))=_
  rw[x.kv]
 ·have fr:=I.hok.fresh (QA s.heap.objs.size)
  have st:rX s.heap.objs.size ts.length h':=⟨es',ep',t',y2,y3,by rw[y1,<- el];simp⟩
  exact⟨.ref s.heap.objs.size,_,I.laid (t':=tk) (fun b u e=>y4 b u e) (QA _) (show aV X.prog X.w _ h' _ (.ext (rX s.heap.objs.size ts.length))from⟨st,⟨_,y2⟩,Dy⟩),rfl,q _ fr⟩
theorem zE:e6 X (.builtin "len") (fun xs H Q => ∃D n,xs=[.ref D]/\H D=some (.ext (rX D n))/\n<1000/\Q (.int n) H):=by
 intro pins s σ H xs us Q I r h
 obtain⟨D,n,rfl,hp,hn,q⟩:=h
 obtain⟨u,rfl,rx⟩:=iC r
 cases rx
 obtain⟨⟨es,ep,t,h1,h2,rfl⟩,_⟩:=(show aV X.prog X.w H s.heap D (.ext (rX D n))from I.hok D _ hp)
 exact call_len_set h1 ⟨rfl,rfl,rfl⟩ rfl h2 (by omega) ⟨.int _,H,I.tok _,⟨_,rfl⟩,q⟩
theorem zn{Φ:Fx}{sc:Scope}{ρ:ac}{p1 p2 q1 q2:Pos}{e:Expr}{l:List (List Int)}{k:Nat}(G:aK Φ X sc)(hg:sc.names.lookup (Str.ofString "len")=some .globalImplicit)(hg2:sc.names.lookup (Str.ofString "set")=some .globalImplicit)(he:ED X ρ e (.lst (l.map ax)) k)(hst:∀y p,e ≠ .Starred y p)(hn:∀t∈l,t≠[])(hz:l.length<1000)(sim:∀led,iS l #[] (SetTable.fresh 0 0 led)=true) :
  ED X ρ (.Call (.Name (Str.ofString "len") p1) [.Call (.Name (Str.ofString "set") p2) [e] [] q2] [] q1) (.int l.length) 0:=by
 intro ow
 have n1:=aN (env:=X.env) (es:=[]) hst
 have inner:=qM (X:=X) (p:=p2) (pos:=q2) (w8 G.calm G.room) (G.gl _ hg2) (G.bl _ (by decide +kernel)) (show bootBuiltins (Str.ofString "set")=some (.type "set") by decide +kernel) (ge he ir n1 ow) (by decide +kernel) (by decide +kernel) n1 rfl
 have n2:starEach [Expr.Call (.Name (Str.ofString "set") p2) [e] [] q2] X.env=(false,eval (.Call (.Name (Str.ofString "set") p2) [e] [] q2) X.env)::starEach [] X.env:=aN fun y p z=>nomatch z
 refine bE (sI (zE (X:=X)) (G.gl _ hg) (G.bl _ (by decide +kernel)) (show bootBuiltins (Str.ofString "len")=some (.builtin "len") by decide +kernel) (vx inner yh n2) (by decide +kernel) (by decide +kernel) n2 rfl) fun σ H Q ⟨E,q⟩=>?_
 refine⟨E,fun vs H1 s1 r1=>?_⟩
 obtain⟨v,rfl,ry⟩:=r1.only
 obtain⟨a,ws,rfl,hs,rl⟩:=jH ry
 obtain⟨t1,t2⟩:=hJ (mj hn) rl
 have hl:ws.length=l.length:=by rw[<- rl.length,QC]
 exact⟨a,ws,l,rfl,hs,t1,by omega,sim,fun D hD=>⟨D,ws.length,rfl,aC,by omega,q _ _ (s1.trans (cJ hD)) (by rw[ae,hl])⟩⟩
end Sp
namespace K
open PySem L2 Sp Qm
variable{N:Int}{t:List Int}{L:List (List Int)}{s:Bool}
noncomputable abbrev Dd:=Int×List (List Int)×List (List Int)
noncomputable def wq:List Dd:=[(3,[[3,1,-1,-1],[3,1,-1,1],[3,1,1,-1],[3,1,1,1]],[[3,1,-1,-1],[3,1,-1,1],[3,1,1,-1],[3,1,1,1]]),
 (5,[[4,-2,0,0],[4,0,-2,0],[4,0,0,-2],[4,0,0,2],[4,0,2,0],[4,2,0,0]],[[4,-2,0,0],[4,0,-2,0],[4,0,0,-2],[4,0,0,2],[4,0,2,0],[4,2,0,0]]),
 (7,[[5,-1,-1,-1],[5,-1,-1,1],[5,-1,1,-1],[5,-1,1,1],[5,1,-1,-1],[5,1,-1,1],[5,1,1,-1],[5,1,1,1]],[[5,-1,-1,-1],[5,-1,-1,1],[5,-1,1,-1],[5,-1,1,1],[5,1,-1,-1],[5,1,-1,1],[5,1,1,-1],[5,1,1,1]]),
 (11,[[6,-2,-2,0],[6,-2,0,-2],[6,-2,0,2],[6,-2,2,0],[6,0,-2,-2],[6,0,-2,2],[6,0,2,-2],[6,0,2,2],[6,2,-2,0],[6,2,0,-2],[6,2,0,2],[6,2,2,0]],[[6,-2,-2,0],[6,-2,0,-2],[6,-2,0,2],[6,-2,2,0],[6,0,-2,-2],[6,0,-2,2],[6,0,2,-2],[6,0,2,2],[6,2,-2,0],[6,2,0,-2],[6,2,0,2],[6,2,2,0]]),
 (13,[[6,-4,0,0],[6,0,-4,0],[6,0,0,-4],[6,0,0,4],[6,0,4,0],[6,4,0,0],[7,-1,-1,-1],[7,-1,-1,1],[7,-1,1,-1],[7,-1,1,1],[7,1,-1,-1],[7,1,-1,1],[7,1,1,-1],[7,1,1,1]],[[6,-4,0,0],[6,0,-4,0],[6,0,0,-4],[6,0,0,4],[6,0,4,0],[6,4,0,0],[7,-1,-1,-1],[7,-1,-1,1],[7,-1,1,-1],[7,-1,1,1],[7,1,-1,-1],[7,1,-1,1],[7,1,1,-1],[7,1,1,1]]),
 (17,[[7,1,-3,-3],[7,1,-3,3],[7,1,3,-3],[7,1,3,3],[7,3,-3,-1],[7,3,-3,1],[7,3,-1,-3],[7,3,-1,3],[7,3,1,-3],[7,3,1,3],[7,3,3,-1],[7,3,3,1],[8,-2,0,0],[8,0,-2,0],[8,0,0,-2],[8,0,0,2],[8,0,2,0],[8,2,0,0]],[[7,1,-3,-3],[7,1,-3,3],[7,1,3,-3],[7,1,3,3],[7,3,-3,-1],[7,3,-3,1],[7,3,-1,-3],[7,3,-1,3],[7,3,1,-3],[7,3,1,3],[7,3,3,-1],[7,3,3,1],[8,-2,0,0],[8,0,-2,0],[8,0,0,-2],[8,0,0,2],[8,0,2,0],[8,2,0,0]]),
 (19,[[7,1,-5,-1],[7,1,-5,1],[7,1,-1,-5],[7,1,-1,5],[7,1,1,-5],[7,1,1,5],[7,1,5,-1],[7,1,5,1],[7,5,-1,-1],[7,5,-1,1],[7,5,1,-1],[7,5,1,1],[8,-2,-2,-2],[8,-2,-2,2],[8,-2,2,-2],[8,-2,2,2],[8,2,-2,-2],[8,2,-2,2],[8,2,2,-2],[8,2,2,2]],[[7,1,-5,-1],[7,1,-5,1],[7,1,-1,-5],[7,1,-1,5],[7,1,1,-5],[7,1,1,5],[7,1,5,-1],[7,1,5,1],[7,5,-1,-1],[7,5,-1,1],[7,5,1,-1],[7,5,1,1],[8,-2,-2,-2],[8,-2,-2,2],[8,-2,2,-2],[8,-2,2,2],[8,2,-2,-2],[8,2,-2,2],[8,2,2,-2],[8,2,2,2]]),
 (23,[[9,-3,-1,-1],[9,-3,-1,1],[9,-3,1,-1],[9,-3,1,1],[9,-1,-3,-1],[9,-1,-3,1],[9,-1,-1,-3],[9,-1,-1,3],[9,-1,1,-3],[9,-1,1,3],[9,-1,3,-1],[9,-1,3,1],[9,1,-3,-1],[9,1,-3,1],[9,1,-1,-3],[9,1,-1,3],[9,1,1,-3],[9,1,1,3],[9,1,3,-1],[9,1,3,1],[9,3,-1,-1],[9,3,-1,1],[9,3,1,-1],[9,3,1,1]],[[9,-3,-1,-1],[9,-3,-1,1],[9,-3,1,-1],[9,-3,1,1],[9,-1,-3,-1],[9,-1,-3,1],[9,-1,-1,-3],[9,-1,-1,3],[9,-1,1,-3],[9,-1,1,3],[9,-1,3,-1],[9,-1,3,1],[9,1,-3,-1],[9,1,-3,1],[9,1,-1,-3],[9,1,-1,3],[9,1,1,-3],[9,1,1,3],[9,1,3,-1],[9,1,3,1],[9,3,-1,-1],[9,3,-1,1],[9,3,1,-1],[9,3,1,1]]),
 (29,[[9,1,-5,-3],[9,1,-5,3],[9,1,-3,-5],[9,1,-3,5],[9,1,3,-5],[9,1,3,5],[9,1,5,-3],[9,1,5,3],[9,3,-5,-1],[9,3,-5,1],[9,3,-1,-5],[9,3,-1,5],[9,3,1,-5],[9,3,1,5],[9,3,5,-1],[9,3,5,1],[9,5,-3,-1],[9,5,-3,1],[9,5,-1,-3],[9,5,-1,3],[9,5,1,-3],[9,5,1,3],[9,5,3,-1],[9,5,3,1],[10,-4,0,0],[10,0,-4,0],[10,0,0,-4],[10,0,0,4],[10,0,4,0],[10,4,0,0]],[[9,1,-5,-3],[9,1,-5,3],[9,1,-3,-5],[9,1,-3,5],[9,1,3,-5],[9,1,3,5],[9,1,5,-3],[9,1,5,3],[9,3,-5,-1],[9,3,-5,1],[9,3,-1,-5],[9,3,-1,5],[9,3,1,-5],[9,3,1,5],[9,3,5,-1],[9,3,5,1],[9,5,-3,-1],[9,5,-3,1],[9,5,-1,-3],[9,5,-1,3],[9,5,1,-3],[9,5,1,3],[9,5,3,-1],[9,5,3,1],[10,-4,0,0],[10,0,-4,0],[10,0,0,-4],[10,0,0,4],[10,0,4,0],[10,4,0,0]]),
 (31,[[10,-4,-2,-2],[10,-4,-2,2],[10,-4,2,-2],[10,-4,2,2],[10,-2,-4,-2],[10,-2,-4,2],[10,-2,-2,-4],[10,-2,-2,4],[10,-2,2,-4],[10,-2,2,4],[10,-2,4,-2],[10,-2,4,2],[10,2,-4,-2],[10,2,-4,2],[10,2,-2,-4],[10,2,-2,4],[10,2,2,-4],[10,2,2,4],[10,2,4,-2],[10,2,4,2],[10,4,-2,-2],[10,4,-2,2],[10,4,2,-2],[10,4,2,2],[11,-1,-1,-1],[11,-1,-1,1],[11,-1,1,-1],[11,-1,1,1],[11,1,-1,-1],[11,1,-1,1],[11,1,1,-1],[11,1,1,1]],[[10,-4,-2,-2],[10,-4,-2,2],[10,-4,2,-2],[10,-4,2,2],[10,-2,-4,-2],[10,-2,-4,2],[10,-2,-2,-4],[10,-2,-2,4],[10,-2,2,-4],[10,-2,2,4],[10,-2,4,-2],[10,-2,4,2],[10,2,-4,-2],[10,2,-4,2],[10,2,-2,-4],[10,2,-2,4],[10,2,2,-4],[10,2,2,4],[10,2,4,-2],[10,2,4,2],[10,4,-2,-2],[10,4,-2,2],[10,4,2,-2],[10,4,2,2],[11,-1,-1,-1],[11,-1,-1,1],[11,-1,1,-1],[11,-1,1,1],[11,1,-1,-1],[11,1,-1,1],[11,1,1,-1],[11,1,1,1]])]
noncomputable def BB(N:Int)(t:List Int):Bool:=match t with | [a,b,c,d]=>decide (a % 2=b % 2/\a % 2=c % 2/\a % 2=d % 2)&&decide (a*a+b*b+(c*c+d*d)=4*N)|_=>false
noncomputable def w6(s:Bool)(N:Int)(L:List (List Int)):Bool:=decide (L.Pairwise fun a b=>HT.lexLt a b=true)&&(decide ((L.length:Int)=N+1)&&L.all fun t=>BB N t&&(cv s t).all fun g => !HT.lexLt t g)
noncomputable def CB(R:List (List Int))(t:List Int):Option (List Int):=R.find? fun r=>(cv true r).contains (l4 (bM (vq t)))
noncomputable def ib(R:List (List Int))(t:List Int):List Int:=(CB R t).getD []
noncomputable def IF(L R:List (List Int)):Bool:=(L.all fun t=>(CB R t).isSome)&&(iS (L.map (ib R)) #[] (SetTable.fresh 0 0 true)&&iS (L.map (ib R)) #[] (SetTable.fresh 0 0 false))
noncomputable def IG(r:Dd):Bool:=w6 false r.1 r.2.1&&(w6 true r.1 r.2.2&&IF r.2.1 r.2.2)
theorem Gd:wq.all IG=true:=by decide +kernel
theorem Fr(h:BB N t=true):∃q,t=l4 q/\fN N q:=by
 unfold BB at h
 split at h
 ·rename_i a b c d
  rw[QI]at h
  obtain⟨h1,h2⟩:=h
  exact⟨(a,b,c,d),rfl,K.par_of (Rl h1),Rl h2⟩
 ·cases h
theorem AE{a b:List (List Int)}(ha:a.Nodup)(hb:b.Nodup)(hs:∀x∈a,x∈b)(hl:b.length=a.length):a.Perm b:=by
 have p:a.Perm (b.filter fun x=>decide (x∈a)):=(List.perm_ext_iff_of_nodup ha (hb.filter _)).mpr fun x=>by
  rw[Rz]
  exact⟨fun h=>⟨hs x h,RX h⟩,fun h=>Rl h.2⟩
 have e:(b.filter fun x=>decide (x∈a))=b:=by
  have:(b.filter fun x=>decide (x∈a)).length=b.length:=by rw[<- p.length_eq,hl]
  exact(List.filter_sublist.eq_of_length this)
 rw[e]at p;exact p
theorem JO(h:L.Pairwise fun a b=>HT.lexLt a b=true):L.Pairwise jZ/\L.Nodup:=by
 refine⟨h.imp fun {a b} e=>?_,h.imp fun {a b} e z=>?_⟩
 ·show HT.lexLt b a=false
  cases hc:HT.lexLt b a with
  | false=>rfl
  | true=>have:=iL _ _ _ e hc;rw[gZ]at this;cases this
 ·subst z;rw[gZ]at e;cases e
theorem yH(hN:N∈[3,5,7,11,13,17,19,23,29,31])(h:w6 s N L=true):aM (aX s N)=L:=by
 have hb:3<=N/\N<=97/\oI N.toNat=N.toNat+1:=by
  have:∀N∈[(3:Int),5,7,11,13,17,19,23,29,31],3<=N/\N<=97/\oI N.toNat=N.toNat+1:=by decide +kernel
  exact this N hN
 obtain⟨b1,b2,b3⟩:=hb
 unfold w6 at h
 rw[QI,QI]at h
 obtain⟨h1,h2,h3⟩:=h
 obtain⟨u1,u2⟩:=JO (Rl h1)
 have h2:=Rl h2
 have C:=hG s b2
 have hs:∀t∈L,t∈aX s N:=fun t ht=>by
  have:=Q6.mp h3 t ht
  rw[QI]at this
  obtain⟨q,rfl,hq⟩:=Fr this.1
  have hA:l4 q∈aU N:=(de b2).mpr hq
  obtain⟨r,hr,hc⟩:=v6 (s:=s) b2 hA
  have g1:=Q6.mp this.2 r (C.sym r (jy hr) _ hc)
  have g2:=ID b2 hr _ hc
  have e:l4 q=r:=mP _ _ (by simpa using g1) g2
  rw[e];exact hr
 have hlen:(aX s N).length=L.length:=by
  obtain⟨n,rfl⟩:∃n:Nat,N=(n:Int):=⟨N.toNat,by omega⟩
  rw[qp s (by omega) (by omega)]
  have:oI n=n+1:=by simpa using b3
  omega
 exact kB ((bz _).trans (AE u2 (zA s N) hs hlen).symm) (jG _) u1
theorem sP(hN:N<=97){r:List Int}(hr:r∈aM (aX s N))(ht:t∈cv s r):((aM (aX s N)).find? fun r=>(cv s r).contains t)=some r/\((aM (aX s N)).filter fun r=>(cv s r).contains t)=[r]:=by
 have P:∀x∈aM (aX s N),(cv s x).contains t=true->x=r:=fun x hx e=>Fm hN ((bz _).mem_iff.mp hx) ((bz _).mem_iff.mp hr) (Rw.mp e) ht
 have pr:(cv s r).contains t=true:=Rw.mpr ht
 refine⟨?_,?_⟩
 ·cases e:(aM (aX s N)).find? fun r=>(cv s r).contains t with
  | none=>exact absurd pr (by simpa using List.find?_eq_none.mp e r hr)
  | some x=>rw[P x (List.mem_of_find?_eq_some e) (List.find?_some (p:=fun r=>(cv s r).contains t) e)]
 ·have l1:=EY ((bz _).nodup_iff.mpr (zA s N)) hr pr P
  obtain⟨x,e⟩:=List.length_eq_one_iff.mp l1
  have:x∈(aM (aX s N)).filter fun r=>(cv s r).contains t:=by rw[e];exact Qy
  rw[e,P x (Rz.mp this).1 (Rz.mp this).2]
theorem En:∀t∈aU 1,t∈bG.map l4:=by decide +kernel
theorem El{u:Qd}(hp:ay u)(h1:bc u=1):u∈bG:=by
 obtain⟨v,hv,e⟩:=QW.mp (En _ ((de (by decide)).mpr (rQ hp h1)))
 rw[<- tj e];exact hv
noncomputable abbrev jB:List Int:=[3,5,7,11,13,17,19,23,29,31]
theorem Du:jB=wq.map (·.1):=by decide
theorem Gb(hN:N∈jB):(∀t∈aM (aX false N),(CB (aM (aX true N)) t).isSome=true)/\∀led,iS ((aM (aX false N)).map (ib (aM (aX true N)))) #[] (SetTable.fresh 0 0 led)=true:=by
 have hm:N∈wq.map (·.1):=by rw[<- Du];exact hN
 obtain⟨⟨n,L,R⟩,hr,rfl⟩:=QW.mp hm
 have h:=Q6.mp Gd _ hr
 unfold IG IF at h
 rw[QI,QI,QI,QI]at h
 obtain⟨h1,h2,h3,h4,h5⟩:=h
 rw[yH hN h1,yH hN h2]
 refine⟨fun t ht=>Q6.mp h3 t ht,fun led=>?_⟩
 cases led
 ·exact h5
 ·exact h4
theorem ii{Φ:Fx}{sc:Scope}{ρ:ac}{a i:Expr}{p:Pos}{it:Bool}{ks:List aP}{ls:List (List (List Int))}{l:List (List Int)}{di:D}{key:aP}{k k2:Nat}(ha:aa (av Φ a false sc ρ) (.dcf ks ls,k))(hi:aa (av Φ i false sc ρ) (di,k2))(hk:le di=some key)(hd:vL ks ls key=some l):aa (av Φ (.Subscript a i p) it sc ρ) (.lst (l.map ax),1):=by
 have key:aa ((av Φ a false sc ρ).bnd fun p=>(av Φ i false sc ρ).bnd fun q=>jD p q) (.lst (l.map ax),1):=by
  refine ha.bnd (hi.bnd ?_)
  unfold jD;dsimp only
  rw[hk];dsimp only
  rw[hd];exact dy
 cases i with
 | Slice lo hi st p2=>exact(am hi).elim
 | _=>exact key
end K
namespace Sp
open PySem PySem.Spec PyProof.Rows L2
variable{X:Cx}
theorem DM{Φ:Fx}{sc:Scope}{H0:Hp}{ρ:ac}{x a b:Str}{p pos q:Pos}{c1 c2 e1 e2:Expr}{l1 l2:List (List Int)}(G:aK Φ X sc)(hx:cq sc x=true)(hc1:∀ρ,ED X ρ c1 (.str a) 0)(hc2:∀ρ,ED X ρ c2 (.str b) 0)(hab:a≠b)(h1:ED X ρ e1 (.lst (l1.map ax)) 0)(h2:ED X ρ e2 (.lst (l2.map ax)) 0)(n1:∀t∈l1,t≠[])(n2:∀t∈l2,t≠[]) :
  SD X H0 ρ (.Assign [.Name x p] (.Dict [some c1,some c2] [e1,e2] q) pos) (.nx (aI ρ x (.dcf [.inr a,.inr b] [l1,l2],false))):=by
 obtain⟨g1,g2,g3,i,g4⟩:=ff G hx
 intro pins s σ H D I ⟨ow,E,hl,B,qq⟩
 have pd:PE X (.Dict [some c1,some c2] [e1,e2] q) (fun σ' H' Q=>σ'=σ/\H'=H/\∀v H2,au H H2->ae X.K H2 (Kp ow H 1) (.dcf [.inr a,.inr b] [l1,l2]) v->Q v H2):=by
  clear I
  intro pins s σ' H' Q I ⟨es,eh,q⟩
  subst es eh
  have fr:=I.hok.fresh (QA s.heap.objs.size)
  refine wpAny_Dict_walk (knd:=b7 X.prog X.w) rfl rfl (by simp) (Nat.le_of_ble_eq_true rfl) ?_
  have I1:aj X pins σ' (aF H' s.heap.objs.size (.dK [])) { s with heap:=s.heap.push { cls:=.type "dict", data:=.dict #[] } }:=I.laid (t':=s.toks) (o:=.dK []) (fun b ob q=>Qw _ q) (QA _) ⟨QN _,beq_eq_false_iff_ne.mpr (RN (modules_low I.nolimit)),[],.nil,Heap.DictOf.new _⟩
  generalize s.heap.objs.size=d at *
  have s1:au H' (aF H' d (.dK [])):=cJ fr
  have E1:=E.same s1
  refine pairTrees_cons_walk (aL (hc1 ρ ow pins _ σ' _ (fun v H2=>v=.str a/\au (aF H' d (.dK [])) H2) I1 ⟨E1,fun v H2 s2 r2=>⟨by rw[ae]at r2;exact r2,s2⟩⟩) fun u1 st1 ⟨v1,H2,I2,ru1,ev1,s2⟩=>?_)
  subst ev1
  obtain⟨t1,rfl⟩:=ru1
  have E2:=E1.same s2
  refine aL (h1 ow pins st1 σ' H2 (fun v H3=>au H2 H3/\ae X.K H3 (Kp ow H2 0) (.lst (l1.map ax)) v) I2 ⟨E2,fun v H3 s3 r3=>⟨s3,r3⟩⟩) fun w1 st2 ⟨v1,H3,I3,rw1,s3,r3⟩=>?_
  rw[ae]at r3
  obtain⟨L1,ts1,b1,rfl,m1,⟨rfl,f1⟩,rl1⟩:=r3
  cases rw1
  have E3:=E2.same s3
  refine pairTrees_cons_walk (aL (hc2 ρ ow pins st2 σ' H3 (fun v H4=>v=.str b/\au H3 H4) I3 ⟨E3,fun v H4 s4 r4=>⟨by rw[ae]at r4;exact r4,s4⟩⟩) fun u2 st3 ⟨v2,H4,I4,ru2,ev2,s4⟩=>?_)
  subst ev2
  obtain⟨t2,rfl⟩:=ru2
  have E4:=E3.same s4
  refine aL (h2 ow pins st3 σ' H4 (fun v H5=>au H4 H5/\ae X.K H5 (Kp ow H4 0) (.lst (l2.map ax)) v) I4 ⟨E4,fun v H5 s5 r5=>⟨s5,r5⟩⟩) fun w2 st4 ⟨v2,H5,I5,rw2,s5,r5⟩=>?_
  rw[ae]at r5
  obtain⟨L2,ts2,b2,rfl,m2,⟨rfl,f2⟩,rl2⟩:=r5
  cases rw2
  refine pairTrees_nil_walk ?_
  replace m1:H3 L1=some (.lst ts1):=m1
  replace m2:H5 L2=some (.lst ts2):=m2
  have dd:H5 d=some (.dK []):=s5 _ _ (s4 _ _ (s3 _ _ (s2 _ _ aC)))
  have m1':H5 L1=some (.lst ts1):=s5 _ _ (s4 _ _ m1)
  have nd1:L1≠d:=fun z=>by subst z;rw[m1']at dd;cases dd
  have nd2:L2≠d:=fun z=>by subst z;rw[m2]at dd;cases dd
  have n12:L1≠L2:=fun z=>by subst z;rw[s4 _ _ m1]at f2;cases f2
  obtain⟨_,hds,vs0,rel0,do0⟩:=(show aV X.prog X.w H5 st4.heap d (.dK [])from I5.hok d _ dd)
  have ev0:vs0=[]:=RS.mp (by rw[<- rel0.length];rfl)
  subst ev0
  refine⟨[(.inr a,.ref L1),(.inr b,.ref L2)],⟨gR (k:=.inr a) ⟨t1,rfl⟩,rfl,gR (k:=.inr b) ⟨t2,rfl⟩,rfl,trivial⟩,do0,fun h' dm sb=>?_⟩
  have em:merged ([]:List (aP×Value)) [(.inr a,.ref L1),(.inr b,.ref L2)]=[(.inr a,.ref L1),(.inr b,.ref L2)]:=by
   simp[merged,stored,hab]
  rw[em]at dm
  obtain⟨od,eod⟩:∃o,h'.get? d=some o:=by obtain⟨o,es,ep,e,_⟩:=dm;exact⟨o,e⟩
  have I6:aj X pins σ' (aF H5 d (.dK [(.inr a,.ref L1),(.inr b,.ref L2)])) { st4 with heap:=h',toks:=st4.toks+2 }:=I5.write (x:=d) (e:=d) (by rw[dd];exact True.intro) (.inl rfl) (fun c u hn e=>(sb.2 c hn).trans e) ⟨od,eod⟩ (show aV X.prog X.w _ h' d (.dK _)from⟨by rw[SR];exact Nat.le_of_ble_eq_true rfl,hds,[(.inr a,.ref L1),(.inr b,.ref L2)],.cons ⟨rfl,rfl⟩ (.cons ⟨rfl,rfl⟩ .nil),dm⟩)
  have tk:∀c us,aZ X.K H5 c us->aZ X.K (aF H5 d (.dK [(.inr a,.ref L1),(.inr b,.ref L2)])) c us:=fun c us hc=>dE dd (fun z=>z) hc
  have s35:au H3 H5:=s4.trans s5
  have T1:=((hJ (mj n1) rl1).1.same s35).keep tk
  have T2:=((hJ (mj n2) rl2).1).keep tk
  obtain⟨Hf,If,Ff,af⟩:=qf (ow:=fun _=>some none) (ls:=[l1,l2]) (vs:=[.ref L1,.ref L2]) I6 ⟨⟨L1,ts1,rfl,by rw[aq nd1];exact m1',rfl,T1⟩,⟨L2,ts2,rfl,by rw[aq nd2];exact m2,rfl,T2⟩,trivial⟩ (by simp[n12])
  have no:∀c,c≠L1->c≠L2->Hf c=aF H5 d (.dK [(.inr a,.ref L1),(.inr b,.ref L2)]) c:=fun c c1 c2=>af c fun e me=>by
   simp only[QD,V.ref.injEq,Q8,R4]at me
   rcases me with rfl|rfl
   ·exact c1
   ·exact c2
  have hfd:Hf d=some (.dK [(.inr a,.ref L1),(.inr b,.ref L2)]):=by rw[no d (RT nd1) (RT nd2)];exact aC
  have ob:=(show aV X.prog X.w Hf h' d (.dK [(.inr a,.ref L1),(.inr b,.ref L2)])from If.hok d _ hfd)
  obtain⟨z1,z2,ws,z3,oo,es,ep,eo,z4⟩:=id ob
  have I7:aj X pins σ' (aF Hf d (.frz oo (.dK [(.inr a,.ref L1),(.inr b,.ref L2)]))) { st4 with heap:=h',toks:=st4.toks+2 }:=If.write (t':=st4.toks+2) (x:=d) (e:=d) (h':=h') (by rw[hfd];exact True.intro) (.inl rfl) (fun b u _ q=>q) ⟨_,eo⟩ (show aV X.prog X.w (aF Hf d (.frz oo _)) h' d (.frz oo (.dK [(.inr a,.ref L1),(.inr b,.ref L2)]))from⟨eo,z1,z2,ws,z3,oo,es,ep,eo,z4⟩)
  refine⟨.ref d,_,I7,rfl,q _ _ (fun c o hc=>?_) ?_⟩
  ·have cd:c≠d:=fun z=>by subst z;rw[fr]at hc;cases hc
   have h2c:=s2 _ _ (s1 _ _ hc)
   have h4c:=s4 _ _ (s3 _ _ h2c)
   have c1:c≠L1:=fun z=>by subst z;rw[h2c]at f1;cases f1
   have c2:c≠L2:=fun z=>by subst z;rw[h4c]at f2;cases f2
   rw[aq cd,no c c1 c2,aq cd]
   exact s5 _ _ h4c
  ·rw[ae]
   exact⟨rfl,d,oo,[.ref L1,.ref L2],rfl,aC,Ff.keep (fun b us hb=>dE hfd (fun z=>z) hb) fun c o u hb=>by rw[aq (fun z=>by subst z;rw[hfd]at hb;cases hb)];exact hb⟩
 refine ya (i:=i) G.nd g4 g1 pd (iR rfl) g3 pins s σ H D I ⟨rfl,rfl,fun v H1 s1 r1=>?_⟩
 exact qq ow _ H1 (d7 G.nd hl (E.same s1) g4 g2 r1) (by rw[Rt];exact hl) (aG.same s1)
end Sp
namespace K
open PySem L2 Sp
variable{N a b o:Int}{ρ:ac}{f1 f2 f3 f4 s:Bool}{p q:Qd}{n:Nat}{r:List Int}{L:List D}{w:World}{mg:Str->Option Value}{l:W.OpenLaw}{loose:List Str}{XP:(Str->Option Value)->Heap->Prop}{d:DefRec}
noncomputable def ai(i:Nat):Stmt:=PySem.Challenge.pw_spaceturns_k18_whole_classes_of_a_prime.main.body.getD i (.Pass ⟨0,0,0,0⟩)
local macro_rules | `(tactic| walk_at "leaf") => `(tactic| first | ((with_reducible apply Ev);decide) | ((with_reducible apply mK);decide) | ((with_reducible apply v4) <;> decide) | ((with_reducible apply bH) <;> (with_reducible assumption)) | ((with_reducible apply powOk_s) <;> decide) | ((with_reducible refine Eq.trans ?_ rfl);exact rfl) | ((with_reducible apply cel_bits);(with_reducible assumption)) | ((with_reducible apply okT_id);assumption) | exact Nat.le_of_ble_eq_true rfl|exact Or.inl rfl|exact Or.inr rfl|exact Or.inr (QA 1) | exact Or.inr (QN 1) | decide|decide +kernel)
local macro_rules | `(tactic| walk_at "ob") => `(tactic| (repeat' (first|with_reducible exact True.intro|with_reducible exact BK|with_reducible apply xj|with_reducible apply BJ|with_reducible apply uS|with_reducible assumption | ((with_reducible apply eZ);intro hgd) | walk_at "leaf")))
local macro_rules | `(∅) => `(br rfl (by walk_at "ob"))
noncomputable def BL:List (Str×(List D->R1)):=[("len", ol),("tuple", uj),("sum", BH),("isinstance", BI),("sorted", dX)]
noncomputable def IL:List (Str×(List D->Nat->R1)):=[("range", mU),("zip", Bq),("reversed", wX)]
noncomputable def ML:List (Str×(D->List D->R1)):=[]
noncomputable def TL:List (Str×(List D->List D->Nat->Rs (List D))):=[("append", mN),("extend", p9)]
noncomputable def BO:Fx:=Tb [] [] BL IL ML TL cw
noncomputable def BT:List D->Rs D:=cu BO (ab (ai 33)) ["_law_script", "_law_k"] (ak (ai 33))
noncomputable def ou:List D->Rs D:=oH dL dI fun l k=>.ok (.int (zB l k)) [yk l]
theorem uV:∀ds r,aa (ou ds) r->aa (BT ds) r:=by
 intro ds r h
 obtain⟨l,k,rfl,h⟩:=fY h
 obtain⟨rfl,⟨ns,rfl⟩,_⟩:=bN h
 refine fo (dC 1 (br rfl True.intro) (oG (br rfl True.intro) (fun ht=>?_) (fun hf=>?_)))
 ·have hl:(ns.map D.int).length=ns.length:=by simp
  have hp:(0:Int)<((ns.map D.int).length:Nat):=by simpa using ht
  have hi:L2.atI (ns.map D.int) (k.fmod (((ns.map D.int).length:Nat):Int))=some (.int (ly ns k)):=by
   rw[hl]at hp⊢
   have hne:ns≠[]:=by intro z;subst z;simp at hp
   unfold ly
   rw[if_neg hne]
   exact FF (Int.fmod_nonneg_of_pos _ hp) (Int.fmod_lt_of_pos _ hp)
  refine bY (dg (d:=.int (ly ns k)) (rE (br rfl True.intro) (br rfl ⟨Int.ne_of_gt hp,True.intro⟩) rfl hi)) ?_
  refine ∅.eq ?_
  unfold zB C9;rw[wo]
 ·have hp:ns=[]:=by
   cases ns with
   | nil=>rfl
   | cons n ns=>simp at hf
  subst hp
  refine ∅.eq ?_
  rfl
noncomputable def eR:Fx:=Tb [] [("MOST_PART", .int 19)] BL IL ML TL cw
noncomputable def cG:List D->Rs D:=fun ds=>match ds with
 | [.int o]=>.ok (.dcf ((dP o).1.map Sum.inl) (dP o).2) [o=0\/o=1]
 | _=>.st
theorem Ed(h1:ρ (Str.ofString "parts")=some (.lst ((hZ o).map D.int),true))(h2:ρ (Str.ofString "pairs")=some (.dct [] [],true))(X:Cx)(H0:Hp)(G:aK eR X (ab (ai 29)))(hp:PassesOwn (model X.prog X.w) X.A X.env X.xe):dh X H0 ρ ((ak (ai 29)).drop 2) (.rt (.dcf ((dP o).1.map Sum.inl) (dP o).2)):=by
 refine xR (f:=Lk) (ps:=hZ o) G hp rfl rfl rfl (by decide) (by decide) (by decide) (by decide) (by decide) (by decide) rfl rfl h1 h2 (fun a b ρ' ha hb ma mb=>?_) (fun y p z=>nomatch z) (fun y p z=>nomatch z) rfl rfl (D2 o)
 have s:Sub (bt [("a", .int a,false),("b", .int b,false)]) ρ':=al ha (al hb bf)
 have l1:=yb ma
 have l2:=yb mb
 have m1:bS a a:=mK (by omega)
 have m2:bS b b:=mK (by omega)
 exact⟨fJ (dU s ∅) G,Lh (pZ (C:=bt [("a", .int a,false),("b", .int b,false)]) ∅ s) G⟩
theorem Ee(o:Int):∃ρ',aa (az eR ((ak (ai 29)).take 2) (ab (ai 29)) (gI ["odd"] [.int o])) (.nx ρ')/\Sub (bt [("parts", .lst ((hZ o).map D.int),true),("pairs", .dct [] [],true)]) ρ':=by
 have e:(hZ o).map D.int=((List.range 39).filter fun i:Nat=>decide ((-19+(i:Int)).fmod 2=o)).map fun i:Nat=>D.int (-19+(i:Int)):=by unfold hZ;rw[R8];rfl
 rw[e]
 refine⟨_,bY (dg (Bv (l:=List.range 39) (g:=fun i:Nat=>D.int (-19+(i:Int))) (f:=fun i:Nat=>D.int (-19+(i:Int))) (t:=fun i:Nat=>decide ((-19+(i:Int)).fmod 2=o)) (CZ (B:=mU) ∅ ⟨_,rfl,by decide,by decide,by decide,by decide,True.intro⟩) rfl (by decide) (.inr (QN 1)) fun i hi=>⟨_,0,rfl,∅.bl (ng _ _),fun _=>br rfl (by walk_at "ob")⟩)) (bY ∅ dB),al rfl (al rfl bf)⟩
theorem jz:∀ds r,aa (cG ds) r->nu eR (ab (ai 29)) ["odd"] (ak (ai 29)) ds r:=by
 rintro ds r ⟨l,h,hp⟩
 unfold cG at h
 split at h
 ·rename_i o
  cases h
  refine⟨rfl,fun X H0 G hps=>?_⟩
  obtain⟨ρ',h1,s⟩:=Ee o
  exact gX 2 G hps h1 (Ed s.get s.get X H0 G hps)
 ·cases h
noncomputable def fL:Fx:=Tb [("pairs_by_squares", cG)] [] BL IL ML TL cw
noncomputable def cI:List D->Rs D:=fun ds=>match ds with
 | [.int N,.int o]=>.ok (.lst ((dH N o).map ax)) [o=0\/o=1,(dH N o).length<=4000]
 | _=>.st
theorem Lg{k:Int}{fr:List Int}{acc:List (List Int)}{P:ac->Prop}(ho:o=0\/o=1)(hf:∃a b,fr=[a,b])(hl:acc.length+(cC o (4*N-k)).length<=bJ)(s:Sub (bt [("n", .int N,f1),("pairs", .dcf ((dP o).1.map Sum.inl) (dP o).2,f2),("told", .lst (acc.map ax),true),("squares", .int k,f3),("backs", .lst ((cC o (4*N-k)).map ax),false)]) ρ)
  (fin:∀ρ',Sub (bt [("n", .int N,f1),("pairs", .dcf ((dP o).1.map Sum.inl) (dP o).2,f2),("told", .lst ((acc++(cC o (4*N-k)).map fun b=>fr++b).map ax),true),("squares", .int k,f3),("backs", .lst ((cC o (4*N-k)).map ax),false)]) ρ'->P ρ') :
  ∃ρ2,aa (az fL (cx ((cx ((ak (ai 28)).getD 2 (.Pass ⟨0,0,0,0⟩))).getD 1 (.Pass ⟨0,0,0,0⟩))) (ab (ai 28)) (aI ρ "front" (ax fr,false))) (.nx ρ2)/\P ρ2:=by
 obtain⟨a,b,rfl⟩:=hf
 have hm:∀t∈cC o (4*N-k),∃c d,t=[c,d]:=fun t ht=>mO ho ht
 generalize cC o (4*N-k)=bk at *
 have e:((bk.map fun b'=>[a,b]++b').map ax)=bk.map fun b'=>ax ([a,b]++b'):=by rw[R8];rfl
 refine kX (s.put _ _) (bY (tQ (l:=acc.map ax) (l':=acc.map ax++bk.map fun b'=>ax ([a,b]++b')) (cy (tS (l:=bk) (g:=ax) (f:=fun b'=>ax ([a,b]++b')) ∅ rfl (by omega) (.inr (QA 1)) fun t ht=>?_) d6) rfl ?_) dB) fun ρ' s'=>fin ρ' ?_
 ·obtain⟨c,d,rfl⟩:=hm t ht
  exact⟨_,rfl,br rfl (by walk_at "ob")⟩
 ·exact⟨_,rfl,by rw[QC,QC];exact hl,True.intro⟩
 ·rw[Sj,e]
  exact al s'.get (al s'.get (al s'.get (al s'.get (al s'.get bf))))
theorem Jw(ho:o=0\/o=1)(hN:(dH N o).length<=4000)(X:Cx)(H0:Hp)(G:aK fL X (ab (ai 28)))(hp:PassesOwn (model X.prog X.w) X.A X.env X.xe)(s:Sub (bt [("n", .int N,f1),("pairs", .dcf ((dP o).1.map Sum.inl) (dP o).2,f2),("told", .lst [],true)]) ρ):dh X H0 ρ ((ak (ai 28)).drop 2) (.rt (.lst ((dH N o).map ax))):=by
 have sd:=s.demote (mY ((ak (ai 28)).getD 2 (.Pass ⟨0,0,0,0⟩)))
 obtain⟨ρ',hch,acc,f3,hacc,_,s3⟩:=qr (X:=X) (H0:=H0) (tg:=CY ((ak (ai 28)).getD 2 (.Pass ⟨0,0,0,0⟩))) (body:=cx ((ak (ai 28)).getD 2 (.Pass ⟨0,0,0,0⟩))) (h:=D.int) (fun q ρ => ∃(acc:List (List Int)) (f3:Bool),acc++q.flatMap (iX N o)=dH N o/\(∀k∈q,k∈(dP o).1)/\Sub (bt [("n", .int N,f1),("pairs", .dcf ((dP o).1.map Sum.inl) (dP o).2,false),("told", .lst (acc.map ax),true)]) ρ) (dP o).1 (demote (mY ((ak (ai 28)).getD 2 (.Pass ⟨0,0,0,0⟩))) ρ) ⟨[],false,rfl,fun k hk=>hk,al sd.get (al sd.get (al sd.get bf))⟩ (by
  rintro k q ρ ⟨acc,f3,he,hk,s⟩
  have hkk:=hk k Qy
  obtain⟨l,hl⟩:=vJ (Iv ho) hkk
  have s1:=s.put (Str.ofString "squares") (.int k,false)
  refine⟨_,rC G rfl,?_⟩
  have eD:cC o k=l:=by unfold cC;rw[hl];rfl
  have s2:=s1.put (Str.ofString "backs") (.lst ((cC o (4*N-k)).map ax),false)
  have sd2:=s2.demote (mY ((cx ((ak (ai 28)).getD 2 (.Pass ⟨0,0,0,0⟩))).getD 1 (.Pass ⟨0,0,0,0⟩)))
  rw[RK,<- Q5]at he
  obtain⟨ρ3,hch2,acc2,he2,_,s3⟩:=qr (X:=X) (H0:=H0) (tg:=CY ((cx ((ak (ai 28)).getD 2 (.Pass ⟨0,0,0,0⟩))).getD 1 (.Pass ⟨0,0,0,0⟩))) (body:=cx ((cx ((ak (ai 28)).getD 2 (.Pass ⟨0,0,0,0⟩))).getD 1 (.Pass ⟨0,0,0,0⟩))) (h:=ax) (fun q2 ρ => ∃acc2:List (List Int),acc2++(q2.flatMap fun f=>(cC o (4*N-k)).map fun b=>f++b)++q.flatMap (iX N o)=dH N o/\(∀f∈q2,f∈l)/\Sub (bt [("n", .int N,f1),("pairs", .dcf ((dP o).1.map Sum.inl) (dP o).2,false),("told", .lst (acc2.map ax),true),("squares", .int k,false),("backs", .lst ((cC o (4*N-k)).map ax),false)]) ρ) l (demote (mY ((cx ((ak (ai 28)).getD 2 (.Pass ⟨0,0,0,0⟩))).getD 1 (.Pass ⟨0,0,0,0⟩))) (aI (aI ρ (Str.ofString "squares") (.int k,false)) (Str.ofString "backs") (.lst ((cC o (4*N-k)).map ax),false))) ⟨acc,by rw[<- he];unfold iX;rw[eD],fun f h=>h,al sd2.get (al sd2.get (al sd2.get (al sd2.get (al sd2.get bf))))⟩ (by
   rintro fr q2 ρ4 ⟨acc2,he2,hm2,s4⟩
   have hfr:=hm2 fr Qy
   rw[<- eD]at hfr
   have lim:acc2.length+(cC o (4*N-k)).length<=bJ:=by
    have:=RC List.length he2
    simp only[RK,QH,QC]at this
    show _<=40000
    omega
   obtain⟨ρ5,h5,hI⟩:=Lg (P:=fun ρ' => ∃acc2:List (List Int),acc2++(q2.flatMap fun f=>(cC o (4*N-k)).map fun b=>f++b)++q.flatMap (iX N o)=dH N o/\(∀f∈q2,f∈l)/\Sub (bt [("n", .int N,f1),("pairs", .dcf ((dP o).1.map Sum.inl) (dP o).2,false),("told", .lst (acc2.map ax),true),("squares", .int k,false),("backs", .lst ((cC o (4*N-k)).map ax),false)]) ρ') ho (mO ho hfr) lim s4 fun ρ' s'=>⟨_,by rw[<- he2,RK,<- Q5],fun f hf=>hm2 f (Qz _ hf),s'⟩
   exact⟨_,rC G rfl,ρ5,lr _ h5 G hp,hI⟩)
  refine⟨_,fX (si G rfl (Ii (k:=0) (eV (o:=false) s1.get rfl) (fJ (dU s1 ∅) G) rfl (fun _ _ z=>nomatch z) rfl) (.inr ⟨rfl,rfl⟩) (iR rfl)) (fX (vl hp G.calm (mT (Ik (k:=0) (k2:=0) (eV (o:=false) sd2.get rfl) (eV (o:=false) sd2.get rfl) (fun _ _=>rfl) hl)) (QA 1) hch2 fun _=>rfl) vh),acc2,false,by simpa using he2,fun k hk'=>hk k (Qz _ hk'),al s3.get (al s3.get (al s3.get bf))⟩)
 refine fX (vl hp G.calm (HM (ls:=(dP o).2) (k:=0) ?_) (QN 1) hch fun _=>rfl) ?_
 ·exact eV (o:=false) sd.get rfl
 ·have e:acc=dH N o:=by simpa using hacc
  rw[<- e]
  exact lr _ (oJ s3 ∅) G hp
theorem lT:∀ds r,aa (cI ds) r->nu fL (ab (ai 28)) ["n", "odd"] (ak (ai 28)) ds r:=by
 rintro ds r ⟨l,h,hp⟩
 unfold cI at h
 split at h
 ·rename_i N o
  cases h
  obtain⟨ho,hN,_⟩:=hp
  refine⟨rfl,fun X H0 G hps=>?_⟩
  have hS:aa (cG [.int o]) (.dcf ((dP o).1.map Sum.inl) (dP o).2):=⟨_,rfl,ho,True.intro⟩
  exact gX 2 G hps (bY (dg (bi ∅ hS)) (bY ∅ dB)) (Jw (f1:=false) (f2:=true) ho hN X H0 G hps (al rfl (al rfl (al rfl bf))))
 ·cases h
noncomputable def zZ:Fx:=Tb [("alike_of_size", cI)] [("MOST_SIZE", .int 97)] BL IL ML TL cw
noncomputable def Al:List D->Rs D:=cu zZ (ab (ai 27)) ["n"] (ak (ai 27))
noncomputable def eS:List D->Rs D:=fun ds=>match ds with
 | [.int N]=>.ok (.lst ((aU N).map ax)) [1<=N,N<=97]
 | _=>.st
theorem rM:∀l:List (List Int),(∀t∈l,t≠[])->cZ (l.map ax)=some l
 | [],_=>rfl
 | []::l,h=>absurd rfl (h [] Qy)
 | (y::x)::l,h=>by
  have e:cZ (l.map fun ns=>D.tup (ns.map D.int))=some l:=rM l fun t ht=>h t (Qz _ ht)
  rw[QU]
  unfold ax cZ
  rw[o8,e]
theorem CH:∀l:List (List Int),ao (l.map ax)=true
 | []=>rfl
 | x::l=>by
  rw[QU]
  show(ao (x.map D.int)&&ao (l.map ax))=true
  rw[CH l,jp x];rfl
theorem DC{a b:List (List Int)}(hn:∀t∈a++b,t≠[])(h:2<=a.length+b.length):aa (dX [.lst (a.map ax++b.map ax)]) (.lst ((aM (a++b)).map ax),0):=by
 unfold dX
 rw[<- Sj]
 dsimp only
 rw[rM _ hn]
 exact⟨_,rfl,by rw[QC,QH];exact h,True.intro⟩
theorem uA:∀ds r,aa (eS ds) r->aa (Al ds) r:=by
 rintro ds r ⟨l,h,hp⟩
 unfold eS at h
 split at h
 ·rename_i N
  cases h
  obtain⟨h1,h2,_⟩:=hp
  obtain⟨n,rfl⟩:∃n:Nat,N=(n:Int):=⟨N.toNat,by omega⟩
  obtain⟨_,l0,l1,l2⟩:=uu (N:=n) (by omega) (by omega)
  have hA0:aa (cI [.int (n:Int),.int 0]) (.lst ((dH (n:Int) 0).map ax)):=⟨_,rfl,.inl rfl,l0,True.intro⟩
  have hA1:aa (cI [.int (n:Int),.int 1]) (.lst ((dH (n:Int) 1).map ax)):=⟨_,rfl,.inr rfl,l1,True.intro⟩
  refine fo (cF (fI (cO ((∅).bl (Rr (by omega))) (cO ((∅).bl (Rr (by show ¬ (n:Int)>97;omega))) fH))) rfl (iE (gB (ij (B:=dX) (cy (zi (bi ∅ hA0) (bi ∅ hA1) ⟨_,rfl,?_,?_,True.intro⟩) d6) (DC (fun t ht=>?_) l2)))))
  ·rw[<- Sj];exact CH _
  ·rw[QC,QC];show _<=40000;omega
  ·rcases QX.mp ht with ht|ht
   ·obtain⟨a,b,c,d,rfl,_⟩:=gc (.inl rfl) ht;exact Sv _ _
   ·obtain⟨a,b,c,d,rfl,_⟩:=gc (.inr rfl) ht;exact Sv _ _
 ·cases h
noncomputable def oq:Fx:=Tb [] [] BL IL ML TL cw
noncomputable def oA:List D->Rs D:=cu oq (ab (ai 19)) ["side"] (ak (ai 19))
noncomputable def cz:List D->Rs D:=se C6 fun s=>.ok .non []
theorem kg:∀ds r,aa (cz ds) r->aa (oA ds) r:=by
 intro ds r h
 obtain⟨s,rfl,h'⟩:=i7 h
 obtain⟨rfl,_⟩:=bN h'
 cases s
 ·exact br rfl (by walk_at "ob")
 ·exact br rfl (by walk_at "ob")
noncomputable def Jy:Fx:=Tb [] [] BL IL ML TL cw
noncomputable def JE:List D->Rs D:=cu Jy (ab (ai 15)) [] (ak (ai 15))
noncomputable def lL:List D->Rs D
 | []=>.ok (.lst (bG.map dq)) []
 | _=>.st
theorem xT:aa (dX [.lst B9]) (.lst (bG.map dq),0):=by
 have e:cZ B9=some B8:=rfl
 have e2:aM B8=bG.map l4:=by decide +kernel
 unfold dX
 dsimp only
 rw[e]
 dsimp only
 rw[e2]
 exact⟨_,rfl,by decide,True.intro⟩
theorem Ah:∀ds r,aa (lL ds) r->aa (JE ds) r:=by
 intro ds r h
 unfold lL at h
 split at h
 ·obtain⟨rfl,_⟩:=bN h
  exact fo (dC 3 ∅ (iE (gB (ij (B:=dX) ∅ xT))))
 ·exact(am h).elim
noncomputable def pF:Fx:=Tb [] [] BL IL ML TL cw
noncomputable def pK:List D->Rs D:=cu pF (ab (ai 11)) ["one", "other"] (ak (ai 11))
noncomputable def fM:List D->Rs D:=oH dQ dQ fun p q=>.ok (dq (M7 p q)) [en p,en q]
theorem lK:∀ds r,aa (fM ds) r->aa (pK ds) r:=by
 intro ds r h
 obtain⟨p,q,rfl,h⟩:=fY h
 obtain⟨rfl,hp,hq,_⟩:=bN h
 obtain⟨⟨a1,a2,a3,a4⟩,⟨b1,b2,b3,b4⟩,⟨c1,c2,c3,c4⟩,d1,d2,d3,d4⟩:=uh hp hq
 exact br rfl (by walk_at "ob")
noncomputable def zW:Fx:=Tb [("plain_product", fM)] [] BL IL ML TL cw
noncomputable def Ak:List D->Rs D:=cu zW (ab (ai 12)) ["one", "other"] (ak (ai 12))
noncomputable def lJ:List D->Rs D:=oH dQ dQ fun p q=>.ok (dq (bI p q)) [en p,en q]
theorem uz:∀ds r,aa (lJ ds) r->aa (Ak ds) r:=by
 intro ds r h
 obtain⟨p,q,rfl,h'⟩:=fY h
 obtain⟨rfl,hp,hq,_⟩:=bN h'
 exact br rfl (by walk_at "ob")
noncomputable def BP:Fx:=Tb [("product", lJ)] [] BL IL ML TL cw
noncomputable def BU:List D->Rs D:=cu BP (ab (ai 20)) ["one", "other", "side"] (ak (ai 20))
noncomputable def iA:List D->Rs D:=vj dQ dQ C6 fun p q s=>.ok (dq (aT s p q)) [en p,en q]
theorem uZ:∀ds r,aa (iA ds) r->aa (BU ds) r:=by
 intro ds r h
 obtain⟨p,q,s,rfl,h'⟩:=mw h
 obtain⟨rfl,hp,hq,_⟩:=bN h'
 cases s
 ·exact br rfl (by walk_at "ob")
 ·exact br rfl (by walk_at "ob")
noncomputable def iu:Fx:=Tb [("refuse_no_side", cz),("of_size", eS),("ones", lL),("beside", iA)] [("PRIMES", .tup [.int 2,.int 3,.int 5,.int 7,.int 11,.int 13,.int 17,.int 19,.int 23,.int 29,.int 31,.int 37,.int 41,.int 43,.int 47,.int 53,.int 59,.int 61,.int 67,.int 71,.int 73,.int 79,.int 83,.int 89,.int 97]),("MOST_SIZE", .int 97)] BL IL ML TL cw
noncomputable def fw:List Int:=[3,5,7,11,13,17,19,23,29,31,37,41,43,47,53,59,61,67,71,73,79,83,89,97]
noncomputable def iz:List D->Rs D:=fun ds=>match ds with
 | [.int N,.str y]=>match fC y with
  | some s=>.ok (.lst ((aM (aX s N)).map ax)) [N∈fw]
  | none=>.st
 | _=>.st
theorem xU{y:Str}(h:fC y=some s):D.str y=dS s:=by
 unfold fC at h
 split at h
 ·rename_i e;cases h;rw[e];rfl
 ·split at h
  ·rename_i e;cases h;rw[e];rfl
  ·cases h
theorem eH:∀N∈fw,3<=N/\N<=97/\oI N.toNat=N.toNat+1:=by decide +kernel
theorem AK:∀{l:List (Str×D×Bool)},(∀t∈l,t.2.2=false)->Sh (bt l)
 | [],_=>fun y d o h=>by cases h
 | p::l,hl=>fun y d o h=>by
  unfold bt at h
  split at h
  ·injection h with h
   have:=hl p Qy
   rw[h]at this;exact this
  ·exact AK (fun t ht=>hl t (Qz _ ht)) y d o h
theorem ut(h:l4 q∈aU N):en q:=by
 have:∃o,wj N o (l4 q):=by rcases np h with h|h<;>exact⟨_,h⟩
 obtain⟨o,a,b,c,d,e,_,_,b1,b2,b3,b4⟩:=this
 obtain⟨x,y,z,w⟩:=q
 have e':[x,y,z,w]=[a,b,c,d]:=e
 cases e'
 exact fi (M:=19) ⟨by show a.natAbs<=19;omega,by show b.natAbs<=19;omega,by show c.natAbs<=19;omega,by show d.natAbs<=19;omega⟩ (QK (by decide:19<2 ^ 8) (Sn (by decide) (by decide)))
theorem vf{cl:List Int->List (List Int)}{n:Nat}(hn:∀f,(cl f).length=n):∀(l:List (List Int)) (st:CS),(l.foldl (du cl) st).2.length+n*st.1.length=st.2.length+n*(l.foldl (du cl) st).1.length
 | [],st=>rfl
 | f::l,st=>by
  rw[List.foldl_cons]
  have:=vf hn l (du cl st f)
  unfold du at this⊢
  by_cases h:f∈st.2
  ·rw[if_pos h]at this⊢;exact this
  ·rw[if_neg h]at this⊢
   simp only[QH,QP,SS,hn,Nat.mul_add]at this⊢
   omega
theorem vg{cl:List Int->List (List Int)}:∀(l:List (List Int)) (st:CS),st.1.length<=(l.foldl (du cl) st).1.length
 | [],st=>QA _
 | f::l,st=>by
  rw[List.foldl_cons]
  refine QR ?_ (vg l _)
  unfold du
  split
  ·exact QA _
  ·simp only[QH];omega
theorem Gq{cl:List Int->List (List Int)}(hn:∀f,(cl f).length=n)(l:List (List Int))(i:Nat):((l.take i).foldl (du cl) ([],[])).1.length<=(grd cl l []).length/\((l.take i).foldl (du cl) ([],[])).2.length=n*((l.take i).foldl (du cl) ([],[])).1.length:=by
 refine⟨?_,?_⟩
 ·have e:=pR (cl:=cl) l ([],[])
  rw[List.nil_append]at e
  rw[<- e]
  conv=>rhs;rw[<- Re i l,List.foldl_append]
  exact vg _ _
 ·have:=vf hn (l.take i) ([],[])
  simp only[SS,Nat.mul_zero,Nat.add_zero,Nat.zero_add]at this
  exact this
noncomputable def vU(s:Bool)(f u:List Int):List Int:=l4 (aT s (vq f) (vq u))
theorem za(s:Bool)(f:List Int):(bG.map l4).map (vU s f)=cv s f:=by
 unfold cv nO
 rw[R8,R8];rfl
theorem DD{l:List (List Int)}(hn:∀t∈l,t≠[])(h:2<=l.length):aa (dX [.lst (l.map ax)]) (.lst ((aM l).map ax),0):=by
 unfold dX
 dsimp only
 rw[mj hn]
 exact⟨_,rfl,by rw[QC];exact h,True.intro⟩
theorem pA{s:Bool}{N:Int}:∀t∈aX s N,t≠[]:=fun t ht=>by
 obtain⟨q,rfl⟩:=dY (jy ht)
 exact Sv _ _
theorem Fp(h1:1<=n)(h2:n<=97)(h3:oI n=n+1)(X:Cx)(H0:Hp)(G:aK iu X (ab (ai 30)))(hp:PassesOwn (model X.prog X.w) X.A X.env X.xe)(sb:Sub (bt [("p", .int (n:Int),false),("side", dS s,false),("told", .lst [],true),("met", .dct [] [],true)]) ρ) :
  dh X H0 ρ ((ak (ai 30)).drop 4) (.rt (.lst ((aM (aX s n)).map ax))):=by
 have hS:aa (eS [.int (n:Int)]) (.lst ((aU n).map ax)):=⟨_,rfl,by omega,by omega,True.intro⟩
 have hO:aa (lL []) (.lst (bG.map dq)):=⟨_,rfl,True.intro⟩
 have hlen:(aX s n).length=n+1:=by rw[qp s h1 h2,h3]
 have ecl:(fun f=>(bG.map l4).map (vU s f))=cv s:=funext fun f=>za s f
 have egr:grd (fun f=>(bG.map l4).map (vU s f)) (aU n).reverse []=aX s n:=by rw[ecl];rfl
 refine wv (xt:=Str.ofString "told") (xm:=Str.ofString "met") (C:=bt [("p", .int (n:Int),false),("side", dS s,false)]) (tl:=aX s n) (m:=((aU n).reverse.foldl (du fun f=>(bG.map l4).map (vU s f)) ([],[])).2) sb.get sb.get (AK (by intro t ht;simp only[QD,Q8,R4]at ht;rcases ht with rfl|rfl<;>rfl)) (fun y p h=>(al sb.get (al sb.get bf):Sub (bt [("p", .int (n:Int),false),("side", dS s,false)]) ρ) y p h) (fun it im L d a1 a2 a3 a4=>?_) (fun ρ' hρ=>?_)
 ·rw[<- egr]
  refine xO (Φ:=iu) (sc:=ab (ai 30)) (xf := "four") (xo := "one") (fs:=(aU n).reverse) (us:=bG.map l4) (g:=vU s) (k:=0) (k1:=0) (k2:=0) (k3:=0) G hp G.room rfl rfl (by decide) (by decide) (by decide) (by decide) (by decide) a1 a2 rfl a3 a4 rfl rfl ?sh rfl rfl ?hne ?hi (QN _) ?hi1 (QN _) ?heb ?hev (fun _=>rfl) (fun _=>rfl) rfl ?hb (fun _=>rfl) kr rfl rfl
  case sh=>exact AK (by intro t ht;simp only[QD,Q8,R4]at ht;rcases ht with rfl|rfl<;>rfl)
  case hne =>
   intro f hf
   obtain⟨q,rfl⟩:=dY (Q9.mp hf)
   exact Sv _ _
  case hi =>
   rw[List.map_reverse]
   exact(dz (it:=true) (p:=(.lst ((aU n).map ax).reverse,0)) (CZ (B:=wX) (cy (bi ∅ hS) d6) ⟨_,rfl,mi _,True.intro⟩) G).ie rfl _ _ rfl rfl
  case hi1 =>
   intro f
   have e:(bG.map l4).map ax=bG.map dq:=by rw[R8];rfl
   rw[e]
   exact mT (fJ (bi d6 hO) G)
  case heb =>
   intro f hf u hu
   obtain⟨q,rfl⟩:=dY (Q9.mp hf)
   obtain⟨v,hv,rfl⟩:=QW.mp hu
   have bq:=ut (Q9.mp hf)
   have bv:=(dG hv).2.2
   have hB:aa (iA [dq q,dq v,dS s]) (dq (aT s q v)):=by
    cases s
    ·exact br rfl (by walk_at "ob")
    ·exact br rfl (by walk_at "ob")
   exact fJ (bi ∅ hB) G
  case hev=>exact fun ρ=>fJ ∅ G
  case hb =>
   intro i
   obtain⟨b1,b2⟩:=Gq (cl:=fun f=>(bG.map l4).map (vU s f)) (n:=24) (fun f=>by rw[za];exact v5 s f) (aU n).reverse i
   rw[egr,hlen]at b1
   rw[b2]
   have:(bG.map l4).length=24:=by rw[QC];rfl
   rw[this]
   show _<40000/\_<40000
   omega
 ·exact lr _ (oJ (al hρ bf) (iE (gB (ij (B:=dX) ∅ (DD pA (by omega)))))) G hp
theorem Fq(hN:N∈fw):∃ρ',aa (az iu ((ak (ai 30)).take 4) (ab (ai 30)) (gI ["p", "side"] [.int N,dS s])) (.nx ρ')/\Sub (bt [("p", .int N,false),("side", dS s,false),("told", .lst [],true),("met", .dct [] [],true)]) ρ':=by
 have h1:gE (.int N) (.int 2)=false:=by
  rw[ng]
  exact Rr fun e=>by subst e;revert hN;decide
 have hm:N∈JH:=by
  have:∀n∈fw,n∈JH:=by decide
  exact this N hN
 have h2:(!((JH.map D.int).any fun y=>gE y (.int N)))=false:=by
  rw[List.any_eq_true.mpr ⟨.int N,List.mem_map_of_mem hm,by rw[ng];exact RX rfl⟩];rfl
 refine⟨_,dC 1 (show aa (az iu ((ak (ai 30)).take 1) (ab (ai 30)) (gI ["p", "side"] [.int N,dS s])) (.nx (gI ["p", "side"] [.int N,dS s]))from ?_) (cF (fI (cO (∅.bl h1) (cO (∅.bl h2) fH))) rfl ∅),al rfl (al rfl (al rfl (al rfl bf)))⟩
 cases s<;>exact br rfl (by walk_at "ob")
theorem uW:∀ds r,aa (iz ds) r->nu iu (ab (ai 30)) ["p", "side"] (ak (ai 30)) ds r:=by
 rintro ds r ⟨l,h,hp⟩
 unfold iz at h
 split at h
 ·rename_i N y
  split at h
  ·rename_i s hs
   cases h
   obtain⟨hN,_⟩:=hp
   obtain⟨h1,h2,h3⟩:=eH N hN
   obtain⟨n,rfl⟩:∃n:Nat,N=(n:Int):=⟨N.toNat,by omega⟩
   rw[xU hs]
   refine⟨rfl,fun X H0 G hps=>?_⟩
   have hR:aa (cz [dS s]) .non:=by cases s<;>exact br rfl (by walk_at "ob")
   obtain⟨ρ',g1,g2⟩:=Fq (s:=s) hN
   exact gX 4 G hps g1 (Fp (by omega) (by omega) (by simpa using h3) X H0 G hps g2)
  ·cases h
 ·cases h
noncomputable def Jx:Fx:=Tb [] [] BL IL ML TL cw
noncomputable def JB:List D->Rs D:=cu Jx (ab (ai 14)) ["four"] (ak (ai 14))
noncomputable def lI:List D->Rs D:=se dQ fun p=>.ok (.int (bc p)) [en p]
theorem Ag:∀ds r,aa (lI ds) r->aa (JB ds) r:=by
 intro ds r h
 obtain⟨p,rfl,h'⟩:=i7 h
 obtain⟨rfl,hp,_⟩:=bN h'
 obtain⟨⟨a1,a2,a3,a4⟩,_⟩:=uh hp hp
 exact br rfl (by walk_at "ob")
noncomputable def Jz:Fx:=Tb [] [] BL IL ML TL cw
noncomputable def JF:List D->Rs D:=cu Jz (ab (ai 8)) ["one", "other"] (ak (ai 8))
noncomputable def pJ:List D->Rs D:=oH dQ dQ fun p q=>.ok (dq (cE p q)) []
theorem Ai:∀ds r,aa (pJ ds) r->aa (JF ds) r:=by
 intro ds r h
 obtain⟨p,q,rfl,h'⟩:=fY h
 obtain⟨rfl,_⟩:=bN h'
 exact br rfl (by walk_at "ob")
noncomputable def ux:Fx:=Tb [] [] BL IL ML TL cw
noncomputable def uF:List D->Rs D:=cu ux (ab (ai 9)) ["one", "number"] (ak (ai 9))
noncomputable def iw:List D->Rs D:=oH dQ dI fun p n=>.ok (dq (bC p n)) [en p,n.natAbs<dO]
theorem pH:∀ds r,aa (iw ds) r->aa (uF ds) r:=by
 intro ds r h
 obtain⟨p,n,rfl,h'⟩:=fY h
 obtain⟨rfl,hp,hn,_⟩:=bN h'
 have m1:=bH hp.1 hn
 have m2:=bH hp.2.1 hn
 have m3:=bH hp.2.2.1 hn
 have m4:=bH hp.2.2.2 hn
 exact br rfl (by walk_at "ob")
noncomputable def zV:Fx:=Tb [("size", lI),("less", pJ),("many_times", iw)] [] BL IL ML TL cw
noncomputable def Aj:List D->Rs D:=cu zV (ab (ai 22)) ["four", "tried", "number"] (ak (ai 22))
noncomputable def lH:List D->Rs D:=vj dQ dQ dI fun p q n=>.ok (.int (fW p q n)) [yj p q n]
theorem uy:∀ds r,aa (lH ds) r->aa (Aj ds) r:=by
 intro ds r h
 obtain⟨p,q,n,rfl,h'⟩:=mw h
 obtain⟨rfl,⟨h1,h2,h3⟩,_⟩:=bN h'
 exact br rfl (by walk_at "ob")
noncomputable def Aa:Fx:=Tb [("strayed", lH)] [] BL IL ML TL cw
noncomputable def Am:List D->Rs D:=cu Aa (ab (ai 21)) ["four", "number"] (ak (ai 21))
noncomputable def lN:List D->Rs D:=oH dQ dI fun p n=>.ok (dq (dR p n)) [A9 p n]
theorem uB:∀ds r,aa (lN ds) r->aa (Am ds) r:=by
 intro ds r h
 obtain⟨p,n,rfl,h'⟩:=fY h
 obtain⟨rfl,⟨h1,h2,h3,h4⟩,_⟩:=bN h'
 have hd:pq (2*n):=⟨by omega,h2⟩
 have h3':yj p ((p.1+n).fdiv (2*n)*2,(p.2.1+n).fdiv (2*n)*2,(p.2.2.1+n).fdiv (2*n)*2,(p.2.2.2+n).fdiv (2*n)*2) n:=h3
 have h4':yj p (p.1.fdiv (2*n)*2+1,p.2.1.fdiv (2*n)*2+1,p.2.2.1.fdiv (2*n)*2+1,p.2.2.2.fdiv (2*n)*2+1) n:=h4
 refine fo (dC 2 ∅ ?_)
 refine iE (gB (w4 (t:=decide (fW p (gN p n) n<=fW p (iH p n) n)) ∅ (fun ht=>?_) (fun hf=>?_)))
 ·show aa _ (dq (dR p n),0)
  unfold dR;rw[if_pos (by simpa using ht)]
  exact br rfl (by walk_at "ob")
 ·show aa _ (dq (dR p n),0)
  unfold dR;rw[if_neg (by simpa using hf)]
  exact br rfl (by walk_at "ob")
noncomputable def qw:Fx:=Tb [] [] BL IL ML TL cw
noncomputable def qz:List D->Rs D:=cu qw (ab (ai 13)) ["four"] (ak (ai 13))
noncomputable def gh:List D->Rs D:=se dQ fun p=>.ok (dq (bM p)) []
theorem nF:∀ds r,aa (gh ds) r->aa (qz ds) r:=by
 intro ds r h
 obtain⟨p,rfl,h'⟩:=i7 h
 obtain⟨rfl,_⟩:=bN h'
 exact br rfl (by walk_at "ob")
noncomputable def Ae:Fx:=Tb [("refuse_no_side", cz),("nearest", lN),("beside", iA),("size", lI),("less", pJ),("other_signed", gh)] [("NOUGHT", .tup [.int 0,.int 0,.int 0,.int 0])] BL IL ML TL cw
noncomputable def Ao:List D->Rs D:=cu Ae (ab (ai 17)) ["one", "other", "side"] (ak (ai 17))
noncomputable def lO:List D->Rs D:=vj dQ dQ C6 fun p q s=>.ok (.tup [dq (fE s p q),dq (e9 s p q)]) [q≠bF,okD s p q]
theorem uE:∀ds r,aa (lO ds) r->aa (Ao ds) r:=by
 intro ds r h
 obtain⟨p,q,s,rfl,h'⟩:=mw h
 obtain⟨rfl,h0,⟨h1,h2,h3,h4,h5⟩,_⟩:=bN h'
 have hc:gE (dq q) (dq bF)=false:=by simp[h0]
 have h5':en (dR (aT s p (bM q)) (bc q)):=h5
 cases s
 ·exact fo (dC 1 ∅ (cF ∅ hc ∅))
 ·exact fo (dC 1 ∅ (cF ∅ hc ∅))
noncomputable def FL:Fx:=Tb [("divided", lO)] [("NOUGHT", .tup [.int 0,.int 0,.int 0,.int 0])] BL IL ML TL cw
noncomputable def FN:List D->Rs D:=cu FL (ab (ai 18)) ["one", "other", "side"] (ak (ai 18))
noncomputable def jA:List D->Rs D:=vj dQ dQ C6 fun p q s=>.ok (jQ s p q) [q≠bF,okD s p q]
theorem xq:∀ds r,aa (jA ds) r->aa (FN ds) r:=by
 intro ds r h
 obtain⟨p,q,s,rfl,h'⟩:=mw h
 obtain⟨rfl,h0,hd,_⟩:=bN h'
 clear h h'
 unfold jQ
 cases s
 ·refine fo (dC 1 ∅ (iE (gB (w4 (t:=decide (e9 false p q=bF)) (k:=0) (∅.bl (m9 _ bF)) (fun z=>?_) (fun z=>?_)))))
  ·rw[if_pos (Rl z)];exact ∅
  ·rw[if_neg (of_decide_eq_false z)];exact ∅
 ·refine fo (dC 1 ∅ (iE (gB (w4 (t:=decide (e9 true p q=bF)) (k:=0) (∅.bl (m9 _ bF)) (fun z=>?_) (fun z=>?_)))))
  ·rw[if_pos (Rl z)];exact ∅
  ·rw[if_neg (of_decide_eq_false z)];exact ∅
noncomputable def Ab:Fx:=Tb [("refuse_no_side", cz),("exact", jA),("size", lI)] [("NOUGHT", .tup [.int 0,.int 0,.int 0,.int 0])] BL IL ML TL cw
noncomputable def lU:List D->Rs D:=cu Ab (ab (ai 31)) ["one", "other", "side"] (ak (ai 31))
noncomputable def mM(s:Bool)(p q:Qd):D:=if bc p=bc q then jQ (!s) p q else .non
theorem Hm(s:Bool)(hp:gQ 150 p)(hq:gQ 150 q)(p0:p≠bF)(q0:q≠bF):aa (lU [dq p,dq q,dS s]) (mM s p q):=by
 have bp:=hp.bd (by decide)
 have bq:=hq.bd (by decide)
 have e1:gE (dq p) (dq bF)=false:=by rw[m9];exact Rr p0
 have e2:gE (dq q) (dq bF)=false:=by rw[m9];exact Rr q0
 unfold mM
 cases s
 ·have hd:okD true p q:=hp.okD hq q0 (by decide)
  refine fo (dC 1 ∅ (cF (fI (cO (∅.bl e1) (cO (∅.bl e2) fH))) rfl (oG (t:=!decide (bc p=bc q)) (k:=0) (∅.bl (by rw[ng])) (fun z=>?_) (fun z=>?_))))
  ·rw[if_neg (by simpa using z)];exact ∅
  ·rw[if_pos (by simpa using z)]
   have k:aa (jA [dq p,dq q,dS true]) (jQ true p q):=∅
   exact iE (gB (bi ∅ k))
 ·have hd:okD false p q:=hp.okD hq q0 (by decide)
  refine fo (dC 1 ∅ (cF (fI (cO (∅.bl e1) (cO (∅.bl e2) fH))) rfl (oG (t:=!decide (bc p=bc q)) (k:=0) (∅.bl (by rw[ng])) (fun z=>?_) (fun z=>?_))))
  ·rw[if_neg (by simpa using z)];exact ∅
  ·rw[if_pos (by simpa using z)]
   have k:aa (jA [dq p,dq q,dS false]) (jQ false p q):=∅
   exact iE (gB (bi ∅ k))
noncomputable def Ad:Fx:=Tb [] [] BL IL ML TL cw
noncomputable def An:List D->Rs D:=cu Ad (ab (ai 37)) ["_law_one", "_law_other"] (ak (ai 37))
noncomputable def gF:List D->Rs D:=oH dQ dQ fun p q=>.ok (dq (bI p q)) [en p,en q]
theorem uC:∀ds r,aa (gF ds) r->aa (An ds) r:=by
 intro ds r h
 obtain⟨p,q,rfl,h'⟩:=fY h
 obtain⟨rfl,⟨a1,a2,a3,a4⟩,⟨b1,b2,b3,b4⟩,_⟩:=bN h'
 exact ∅
noncomputable def Ac:Fx:=Tb [] [] BL IL ML TL cw
noncomputable def q9:List D->Rs D:=cu Ac (ab (ai 34)) ["_law_x"] (ak (ai 34))
noncomputable def uT:Fx:=Tb [("_law_whole", q9)] [] BL IL ML TL cw
noncomputable def d8:List D->Rs D:=cu uT (ab (ai 35)) ["_law_thing"] (ak (ai 35))
theorem yI{c d:Int}(hb:b.fmod 2=a.fmod 2)(hc:c.fmod 2=a.fmod 2)(hd:d.fmod 2=a.fmod 2):aa (d8 [t4 a b c d]) (.bl true):=by
 refine fo (cF ∅ rfl (DB (ds:=[.int a,.int b,.int c,.int d]) (fun rem ρ=>(∀x∈rem,∃t:Int,x=.int t/\t.fmod 2=a.fmod 2)/\Sub (bt [("_law_thing", t4 a b c d,false)]) ρ) ∅ ⟨?_,al rfl bf⟩ ?_ ?_))
 ·intro x hx
  simp only[QD,Q8,R4]at hx
  rcases hx with rfl|rfl|rfl|rfl
  ·exact⟨_,rfl,rfl⟩
  ·exact⟨_,rfl,hb⟩
  ·exact⟨_,rfl,hc⟩
  ·exact⟨_,rfl,hd⟩
 ·rintro x l ρ ⟨hh,s⟩
  obtain⟨t,rfl,ht⟩:=hh x Qy
  exact⟨_,rfl,kX (s.put _ _) (cF (fI (cO ∅ (cO (∅.bl (Hb ht)) fH))) rfl dB) fun ρ' s'=>⟨fun y hy=>hh y (Qz _ hy),al s'.get bf⟩⟩
 ·rintro ρ ⟨_,s⟩
  exact oJ s ∅
noncomputable def BN:Fx:=Tb [] [] BL IL ML TL cw
noncomputable def BS:List D->Rs D:=cu BN (ab (ai 36)) ["_law_four"] (ak (ai 36))
noncomputable def gi:List D->Rs D:=se dQ fun p=>.ok (.int (bc p)) [en p]
theorem uU:∀ds r,aa (gi ds) r->aa (BS ds) r:=by
 intro ds r h
 obtain⟨p,rfl,h'⟩:=i7 h
 obtain⟨rfl,hp,_⟩:=bN h'
 obtain⟨⟨a1,a2,a3,a4⟩,_⟩:=uh hp hp
 exact br rfl (by walk_at "ob")
noncomputable def qZ:Fx:=Tb [("mate_by", lU),("_law_times", gF),("_law_is_four", d8),("_law_size", gi)] [] BL IL ML TL cw
noncomputable def rc:List D->Rs D:=cu qZ (ab (ai 40)) ["_law_four", "_law_some", "_law_side"] (ak (ai 40))
theorem zI(s:Bool)(p q:Qd):aT s p q=aT (!s) q p:=by cases s<;>rfl
theorem Hn(hp:ay p)(hq:ay q)(q0:q≠bF):(∃u∈bG,aT s q u=p/\mM s p q=dq u/\l4 p∈cv s (l4 q))\/(l4 p∉cv s (l4 q)/\mM s p q=.non):=by
 by_cases h:l4 p∈cv s (l4 q)
 ·obtain⟨g,hg,e⟩:=jk h
  have:=tj e
  subst this
  obtain⟨u,hu,rfl⟩:=QW.mp hg
  obtain⟨pu,su,_⟩:=dG hu
  refine .inl ⟨u,hu,rfl,?_,h⟩
  have sz:bc (aT s q u)=bc q:=by rw[mq hq pu,su,Int.mul_one]
  unfold mM
  rw[if_pos sz]
  exact E9 pu hq q0 (zI s q u)
 ·refine .inr ⟨h,?_⟩
  unfold mM
  split
  ·rename_i sz
   unfold jQ
   refine if_neg fun e=>?_
   have d1:=(zt (s:=!s) hp hq q0).1
   have ep:p=aT (!s) (fE (!s) p q) q:=tf e
   have k:=mq (s:=!s) d1 hq
   rw[<- ep,sz]at k
   have z:=gW hq q0
   have one:bc (fE (!s) p q)=1:=by
    have:(bc (fE (!s) p q)-1)*bc q=0:=by rw[Sr,<- k];omega
    rcases Int.mul_eq_zero.mp this with e|e<;>omega
   exact h (QW.mpr ⟨p,QW.mpr ⟨_,El d1 one,(zI s _ _).trans ep.symm⟩,rfl⟩)
  ·rfl
noncomputable def sM(s:Bool)(q:Qd)(r:List Int):Bool:=(cv s r).contains (l4 q)
theorem zd{α:Type}{p:α->Bool}:∀l:List α,l.flatMap (fun v=>if p v=true then[v]else[])=l.filter p
 | []=>rfl
 | x::l=>by
  rw[RK,zd l,List.filter_cons]
  cases p x<;>rfl
theorem Db(hN:N<=97)(h:l4 q∈aU N):gQ 150 q:=by
 have:∃o,wj N o (l4 q):=by rcases np h with h|h<;>exact⟨_,h⟩
 obtain⟨o,a,b,c,d,e,_,_,b1,b2,b3,b4⟩:=this
 refine⟨((de hN).mp h).1,?_⟩
 obtain⟨x,y,z,w⟩:=q
 have e':[x,y,z,w]=[a,b,c,d]:=e
 cases e'
 have k:(19:Nat)<=2 ^ 150:=by decide
 exact⟨QR (by show a.natAbs<=19;omega) k,QR (by show b.natAbs<=19;omega) k,QR (by show c.natAbs<=19;omega) k,QR (by show d.natAbs<=19;omega) k⟩
theorem ur(h3:3<=N)(hN:N<=97)(h:l4 q∈aU N):q≠bF:=fun e=>by
 have:=js ((de hN).mp h)
 rw[e]at this
 have z:bc bF=0:=by decide
 omega
theorem jd(h:a=b):aa (iV .NotEq (.int a) (.int b)) false:=by
 subst h
 exact ∅.eq (Hb rfl)
theorem Ew(h3:3<=N)(hN:N<=97){w:Qd}(hq:l4 q∈aU N)(hw:l4 w∈aU N){F:List (List Int)}(hF:F.length<10)(sb:Sub (bt [("_law_four", dq q,false),("_law_side", dS s,false),("_law_met", .lst (F.map ax),true)]) ρ) :
  ∃ρ2,aa (az qZ (cx ((ak (ai 40)).getD 1 (.Pass ⟨0,0,0,0⟩))) (ab (ai 40)) (aI ρ "_law_one" (ax (l4 w),false))) (.nx ρ2)/\Sub (bt [("_law_four", dq q,false),("_law_side", dS s,false),("_law_met", .lst ((F++if sM s q (l4 w)=true then[l4 w]else[]).map ax),true)]) ρ2:=by
 have gq:=Db hN hq
 have gw:=Db hN hw
 have hM:=Hm s gq gw (ur h3 hN hq) (ur h3 hN hw)
 rcases Hn (s:=s) gq.1 gw.1 (ur h3 hN hw)with⟨u,hu,e1,e2,e3⟩|⟨e3,e2⟩
 ·rw[e2]at hM
  have em:sM s q (l4 w)=true:=Rw.mpr e3
  rw[if_pos em]
  obtain⟨pu,su,bu⟩:=dG hu
  have bw:=gw.bd (by decide)
  obtain⟨x1,x2,x3⟩:=Qm.par_fmod pu
  have hf:aa (d8 [dq u]) (.bl true):=yI (a:=u.1) (b:=u.2.1) (c:=u.2.2.1) (d:=u.2.2.2) x1 x2 x3
  have hl:(F.map ax).length<bJ:=by rw[QC];show _<40000;omega
  have t1:aa (gF [dq w,dq u]) (dq (bI w u)):=br rfl (by walk_at "ob")
  have t2:aa (gF [dq u,dq w]) (dq (bI u w)):=br rfl (by walk_at "ob")
  have hz:aa (gi [dq u]) (.int 1):=∅.eq (by rw[su])
  have ap:(F.map ax++[dq w])=(F++[l4 w]).map ax:=by rw[Sj];rfl
  rw[<- ap]
  clear e2 hq hw gq gw pu su x1 x2 x3 em e3 ap
  cases s
  ·have e1:bI u w=q:=e1
   have ne:(!gE (dq (bI u w)) (dq q))=false:=by rw[m9,e1];simp
   exact kX (sb.put _ _) (bY (dg (bi ∅ hM)) (rZ ∅ rfl (cF (fI (cO (wZ (bi ∅ hf) rfl) (cO (gC (y:=.int 1) (j:=0) (bi ∅ hz) ∅ (jd rfl)) fH))) rfl (bY (dg (bi ∅ t1)) (rZ ∅ rfl (bY (dg (bi ∅ t2)) (cF (∅.bl ne) rfl (bY (tQ (l:=F.map ax) (l':=F.map ax++[dq w]) ∅ rfl (zR hl)) dB)))))))) fun ρ' s'=>al s'.get (al s'.get (al s'.get bf))
  ·have e1:bI w u=q:=e1
   have ne:(!gE (dq (bI w u)) (dq q))=false:=by rw[m9,e1];simp
   exact kX (sb.put _ _) (bY (dg (bi ∅ hM)) (rZ ∅ rfl (cF (fI (cO (wZ (bi ∅ hf) rfl) (cO (gC (y:=.int 1) (j:=0) (bi ∅ hz) ∅ (jd rfl)) fH))) rfl (bY (dg (bi ∅ t1)) (cF ∅ rfl (cF (∅.bl ne) rfl (bY (tQ (l:=F.map ax) (l':=F.map ax++[dq w]) ∅ rfl (zR hl)) dB))))))) fun ρ' s'=>al s'.get (al s'.get (al s'.get bf))
 ·rw[e2]at hM
  have em:¬ sM s q (l4 w)=true:=fun z=>e3 (Rw.mp z)
  rw[if_neg em,Ra]
  clear e2 e3 em hq hw gq gw
  exact kX (sb.put _ _) (bY (dg (bi ∅ hM)) (cF ∅ rfl dB)) fun ρ' s'=>al s'.get (al s'.get (al s'.get bf))
theorem EB(h3:3<=N)(hN:N<=97)(hq:l4 q∈aU N)(hr:r∈aM (aX s N))(ht:l4 q∈cv s r):aa (rc [dq q,.lst ((aM (aX s N)).map ax),dS s]) (ax r):=by
 have hfil:=(sP hN hr ht).2
 have hm:∀t∈aM (aX s N),∃w,t=l4 w/\l4 w∈aU N:=fun t h=>by
  have:=jy ((bz _).mem_iff.mp h)
  obtain⟨w,rfl⟩:=dY this
  exact⟨w,rfl,this⟩
 obtain⟨w0,rfl,_⟩:=hm r hr
 generalize aM (aX s N)=S at *
 have el:[]++(S.flatMap (fun v=>if sM s q v=true then[v]else[])++[])=[l4 w0]:=by
  rw[List.nil_append,Ra,zd (p:=sM s q)];exact hfil
 refine fo (dC 1 ∅ (Qh (Q:=Sub (bt [("_law_met", .lst [dq w0],true)])) 1 ?_ fun ρ1 s=>oJ s ∅))
 refine oQ (qg (h:=ax) (g:=fun v=>if sM s q v=true then[v]else[]) (T:=[l4 w0]) (F:=[]) (R:=[]) (fun F ρ=>Sub (bt [("_law_four", dq q,false),("_law_side", dS s,false),("_law_met", .lst (F.map ax),true)]) ρ) S ∅ rfl (al rfl (al rfl (al rfl bf))) el fun v hv F R ρ e sb=>⟨_,rfl,?_⟩) fun ρ sb=>jg (al (sb.get.trans ?_) bf)
 ·obtain⟨w,rfl,hw⟩:=hm v hv
  refine Ew h3 hN hq hw ?_ sb
  have:=RC List.length e
  rw[QH]at this
  simp only[QP,SS]at this
  omega
 ·have e2:[]++S.flatMap (fun v=>if sM s q v=true then[v]else[])=[l4 w0]:=by rw[<- el,Ra]
  rw[e2];rfl
theorem u6:∀{l:List D} {nss:List (List Int)},cZ l=some nss->l=nss.map ax
 | [],nss,h=>by rw[cZ]at h;cases h;rfl
 | .tup l::r,nss,h=>by
  rw[cZ]at h
  split at h
  ·rename_i n ns q e1 e2
   cases h
   rw[QU,u6 e2,iN e1]
  ·cases h
 | .non::_,_,h=>by cases h
 | .bl _::_,_,h=>by cases h
 | .int _::_,_,h=>by cases h
 | .str _::_,_,h=>by cases h
 | .dct _ _::_,_,h=>by cases h
 | .lst _::_,_,h=>by cases h
 | .typ _::_,_,h=>by cases h
 | .sn _::_,_,h=>by cases h
 | .obj _ _ _::_,_,h=>by cases h
 | .cls _::_,_,h=>by cases h
 | .dcf _ _::_,_,h=>by cases h
noncomputable def fA:List D->Rs D:=fun ds=>match ds with
 | [d,.lst l,.str y]=>(match q4 d,cZ l,fC y with
  | some q,some nss,some s=>(match nss.find? fun r=>(cv s r).contains (l4 q)with
   | some r=>.ok (ax r) [∃N∈fw,nss=aM (aX s N)/\l4 q∈aU N]
   | none=>.st)
  | _,_,_=>.st)
 | _=>.st
theorem uD:∀ds r,aa (fA ds) r->aa (rc ds) r:=by
 rintro ds r ⟨l,h,hp⟩
 unfold fA at h
 split at h
 ·rename_i d l y
  split at h
  ·rename_i q nss s e1 e2 e3
   split at h
   ·rename_i r e4
    cases h
    obtain⟨⟨N,hN,rfl,hA⟩,_⟩:=hp
    obtain⟨h1,h2,_⟩:=eH N hN
    rw[Cl _ _ e1,u6 e2,xU e3]
    exact EB h1 h2 hA (List.mem_of_find?_eq_some e4) (Rw.mp (List.find?_some (p:=fun r=>(cv s r).contains (l4 q)) e4))
   ·cases h
  ·cases h
 ·cases h
noncomputable def FK:Fx:=Tb [] [] BL IL ML TL cw
noncomputable def FM:List D->Rs D:=cu FK (ab (ai 38)) ["_law_four"] (ak (ai 38))
noncomputable def qy:List D->Rs D:=se dQ fun p=>.ok (dq (bM p)) []
theorem xn:∀ds r,aa (qy ds) r->aa (FM ds) r:=by
 intro ds r h
 obtain⟨p,rfl,h'⟩:=i7 h
 obtain⟨rfl,_⟩:=bN h'
 exact ∅
noncomputable def fK:Fx:=Tb [("_law_cell", ou),("of_size", eS),("chosen", iz),("_law_mated", fA),("_law_bar", qy),("_law_is_four", d8),("_law_size", gi)] [] BL IL ML TL cw
noncomputable abbrev iO(N:Int):D:=.dcf [.inr (Str.ofString "left"),.inr (Str.ofString "right")] [aM (aX false N),aM (aX true N)]
theorem oW(s:Bool)(N:Int):vL [.inr (Str.ofString "left"),.inr (Str.ofString "right")] [aM (aX false N),aM (aX true N)] (.inr (Ck s))=some (aM (aX s N)):=by
 cases s
 ·exact if_pos rfl
 ·exact(if_neg (by decide +kernel)).trans (if_pos rfl)
theorem mG:∀N∈jB,N∈fw:=by decide
theorem C8(hN:N∈fw)(s:Bool):aa (iz [.int N,dS s]) (.lst ((aM (aX s N)).map ax)):=by
 cases s
 ·exact⟨_,rfl,hN,True.intro⟩
 ·exact⟨_,rfl,hN,True.intro⟩
theorem oS(hN:N∈fw)(s:Bool):(aM (aX s N)).length=N.toNat+1:=by
 obtain⟨h1,h2,h3⟩:=eH N hN
 obtain⟨n,rfl⟩:∃n:Nat,N=(n:Int):=⟨N.toNat,by omega⟩
 rw[(bz _).length_eq,qp s (by omega) (by omega)]
 exact h3
theorem CA(hN:N∈fw)(hq:l4 q∈aU N)(hf:((aM (aX s N)).find? fun r=>(cv s r).contains (l4 q))=some r):aa (fA [dq q,.lst ((aM (aX s N)).map ax),dS s]) (ax r):=by
 have e1:q4 (dq q)=some q:=rfl
 have e2:cZ ((aM (aX s N)).map ax)=some (aM (aX s N)):=mj fun t ht=>pA t ((bz _).mem_iff.mp ht)
 have e3:fC (Ck s)=some s:=by cases s<;>decide +kernel
 show aa (match q4 (dq q),cZ ((aM (aX s N)).map ax),fC (Ck s)with
  | some q,some nss,some s=>(match nss.find? fun r=>(cv s r).contains (l4 q)with
   | some r=>Rs.ok (ax r) [∃N∈fw,nss=aM (aX s N)/\l4 q∈aU N]
   | none=>.st)
  | _,_,_=>.st) _
 rw[e1,e2,e3]
 dsimp only
 rw[hf]
 exact⟨_,rfl,⟨N,hN,rfl,hq⟩,True.intro⟩
theorem xJ(hN:N∈fw):(aU N).length=24*(N.toNat+1):=by
 obtain⟨h1,h2,h3⟩:=eH N hN
 obtain⟨n,rfl⟩:∃n:Nat,N=(n:Int):=⟨N.toNat,by omega⟩
 rw[wb,(uu (by omega) (by omega)).1]
 have:oI n=n+1:=by simpa using h3
 rw[this];rfl
theorem Bn(hN:N∈fw)(sb:Sub (bt [("_law_script", .lst L,f1),("_law_p", .int N,f2),("_law_fours", .lst ((aU N).map ax),f3),("_law_some", iO N,f4)]) ρ):aa (az fK ((((ak (ai 41)).drop 5).take 3).take 1) (ab (ai 41)) ρ) (.nx ρ):=by
 obtain⟨h1,h2,h3⟩:=eH N hN
 have l1:=oS hN false
 have l2:=oS hN true
 have l0:=xJ hN
 have k1:=oW false N
 have k2:=oW true N
 have a0:((((aU N).map ax).length:Nat):Int)=24*((((aM (aX false N)).map ax).length:Nat):Int):=by rw[QC,QC,l0,l1];omega
 have a1:((((aM (aX false N)).map ax).length:Nat):Int)=((((aM (aX true N)).map ax).length:Nat):Int):=by rw[QC,QC,l1,l2]
 have a2:((((aM (aX false N)).map ax).length:Nat):Int)=N+1:=by rw[QC,l1];omega
 clear l0 l1 l2
 unfold iO at sb
 generalize aM (aX false N)=A at *
 generalize aM (aX true N)=B at *
 generalize (aU N).map ax=F at *
 have m24:bS 24 (((A.map ax).length:Nat):Int):=mK (by decide)
 refine cF (t:=false) (k:=0) (dU sb (fI (cO (k:=0) (gC (x:=.int ((F.length:Nat):Int)) (y:=.int (24*(((A.map ax).length:Nat):Int))) (j:=0) (r:=false) ∅ (zi (y:=.int (((A.map ax).length:Nat):Int)) (j:=0) ∅ (ij (B:=ol) (cy (ii ∅ ∅ rfl k1) d6) ∅) ∅) (jd a0)) (cO (k:=0) (gC (x:=.int (((A.map ax).length:Nat):Int)) (y:=.int (((B.map ax).length:Nat):Int)) (j:=0) (r:=false) (ij (B:=ol) (cy (ii ∅ ∅ rfl k1) d6) ∅) (ij (B:=ol) (cy (ii ∅ ∅ rfl k2) d6) ∅) (jd a1)) (cO (k:=0) (gC (x:=.int (((A.map ax).length:Nat):Int)) (y:=.int (N+1)) (j:=0) (r:=false) (ij (B:=ol) (cy (ii ∅ ∅ rfl k1) d6) ∅) ∅ (jd a2)) fH))))) rfl dB
theorem zb(hN:N∈fw)(hq:l4 q∈aU N):∃r,((aM (aX s N)).find? fun r=>(cv s r).contains (l4 q))=some r/\∃w,r=l4 w:=by
 obtain⟨h1,h2,h3⟩:=eH N hN
 obtain⟨r,hr,hc⟩:=v6 (s:=s) h2 hq
 refine⟨r,(sP h2 ((bz _).mem_iff.mpr hr) hc).1,dY (jy hr)⟩
theorem Hu(hN:N∈fw)(hq:l4 q∈aU N)(s:Bool){f5:Bool}(sb:Sub (bt [("_law_some", iO N,f4),("_law_four", dq q,f5),("_law_side", dS s,false)]) ρ) :
  aa (az fK (cx ((cx ((ak (ai 41)).getD 6 (.Pass ⟨0,0,0,0⟩))).getD 2 (.Pass ⟨0,0,0,0⟩))) (ab (ai 41)) ρ) (.nx ρ):=by
 obtain⟨r,hf,w,rfl⟩:=zb (s:=s) hN hq
 have hM:=CA hN hq hf
 have k1:=oW s N
 clear hf
 unfold iO at sb
 generalize aM (aX false N)=A at *
 generalize aM (aX true N)=B at *
 generalize aM (aX s N)=S at *
 exact cF (dU sb (gC (x:=dq w) (y:=.non) (k:=0) (j:=0) (r:=false) (bi (cy ∅ (cy (ii ∅ ∅ rfl k1) (cy ∅ d6))) hM) ∅ ∅)) rfl dB
theorem KE(hN:N∈fw)(hl:yk L)(k:Int)(hk:1<=k/\k<=6)(sb:Sub (bt [("_law_script", .lst L,f1),("_law_p", .int N,f2),("_law_fours", .lst ((aU N).map ax),true),("_law_some", iO N,f4)]) ρ) :
  ∃ρ2,aa (az fK (cx ((ak (ai 41)).getD 6 (.Pass ⟨0,0,0,0⟩))) (ab (ai 41)) (aI ρ "_law_k" (.int k,false))) (.nx ρ2)/\Sub (bt [("_law_script", .lst L,f1),("_law_p", .int N,f2),("_law_fours", .lst ((aU N).map ax),true),("_law_some", iO N,f4)]) ρ2:=by
 obtain⟨h1,h2,h3⟩:=eH N hN
 have l0:=xJ hN
 have c0:=Int.fmod_nonneg_of_pos (zB L k) (show(0:Int)<((aU N).length:Int) by omega)
 have c1:=Int.fmod_lt_of_pos (zB L k) (show(0:Int)<((aU N).length:Int) by omega)
 obtain⟨t,ht,hat⟩:=xh (f:=ax) (l:=aU N) c0 c1
 obtain⟨q,rfl⟩:=dY ht
 have hin:∀(s:Bool) (ρ:ac),Sub (bt [("_law_some", iO N,f4),("_law_four", dq q,true),("_law_side", dS s,false)]) ρ->aa (az fK (cx ((cx ((ak (ai 41)).getD 6 (.Pass ⟨0,0,0,0⟩))).getD 2 (.Pass ⟨0,0,0,0⟩))) (ab (ai 41)) ρ) (.nx ρ):=fun s ρ sb=>Hu hN ht s sb
 have bq:=ut ht
 have hqN:=(de h2).mp ht
 have hsz:=js hqN
 obtain⟨x1,x2,x3⟩:=Qm.par_fmod hqN.1
 have hf:aa (d8 [dq q]) (.bl true):=yI (a:=q.1) (b:=q.2.1) (c:=q.2.2.1) (d:=q.2.2.2) x1 x2 x3
 have hz:aa (gi [dq q]) (.int N):=∅.eq (by rw[hsz])
 have hlM:((aU N).map ax).length=(aU N).length:=QC _
 have dv0:(aU N).length<3000:=by omega
 have dv1:0<(aU N).length:=by omega
 generalize (aU N).map ax=FD at *
 rw[<- hlM]at hat dv0 dv1
 have dv:pq ((FD.length:Nat):Int):=v4 (by omega) (by omega)
 have dv1:((FD.length:Nat):Int)≠0:=dv.1
 have dv2:=dv.2
 clear l0 c0 c1 ht hqN hsz x1 x2 x3 hlM dv0
 refine vz 2 (P:=Sub (bt [("_law_script", .lst L,f1),("_law_p", .int N,f2),("_law_fours", .lst FD,true),("_law_some", iO N,f4),("_law_four", dq q,true)])) (ρ1:=aI (aI ρ "_law_k" (.int k,false)) "_law_four" (dq q,true)) ?_ ?_ fun ρ1 s1=>?_
 ·have s0:=sb.put (Str.ofString "_law_k") (.int k,false)
  refine bY (dg (d:=dq q) (dU s0 (rE (l:=FD) ∅ ∅ rfl hat))) (cF (t:=false) (k:=0) (dU (s0.put (Str.ofString "_law_four") (dq q,true)) (fI (cO (wZ (bi ∅ hf) rfl) (cO (gC (y:=.int N) (j:=0) (bi ∅ hz) ∅ (jd rfl)) fH)))) rfl dB)
 ·have s2:=(sb.put (Str.ofString "_law_k") (.int k,false)).put (Str.ofString "_law_four") (dq q,true)
  exact al s2.get (al s2.get (al s2.get (al s2.get (al s2.get bf))))
 ·refine oQ (qg (h:=dS) (g:=fun _=>([]:List Unit)) (T:=[]) (F:=[]) (R:=[]) (fun _ ρ=>Sub (bt [("_law_script", .lst L,f1),("_law_p", .int N,f2),("_law_fours", .lst FD,true),("_law_some", iO N,f4),("_law_four", dq q,true)]) ρ) [false,true] ∅ rfl ?_ rfl fun s hs F R ρ e sb=>⟨_,rfl,?_⟩) fun ρ s=>jg (al s.get (al s.get (al s.get (al s.get bf))))
  ·have sd:=s1.demote (mY ((cx ((ak (ai 41)).getD 6 (.Pass ⟨0,0,0,0⟩))).getD 2 (.Pass ⟨0,0,0,0⟩)))
   exact al sd.get (al sd.get (al sd.get (al sd.get (al sd.get bf))))
  ·have s3:=sb.put (Str.ofString "_law_side") (dS s,false)
   exact⟨_,hin s _ (al s3.get (al s3.get (al s3.get bf))),al s3.get (al s3.get (al s3.get (al s3.get (al s3.get bf))))⟩
theorem yq(hN:N∈jB){t:List Int}(ht:t∈aM (aX false N)):∃q w,t=l4 q/\en q/\ib (aM (aX true N)) t=l4 w/\aa (fA [dq (bM q),.lst ((aM (aX true N)).map ax),dS true]) (dq w):=by
 have hO:=mG N hN
 obtain⟨h1,h2,h3⟩:=eH N hO
 have hA:=jy ((bz _).mem_iff.mp ht)
 obtain⟨q,rfl⟩:=dY hA
 have hq:=(de h2).mp hA
 have hB:l4 (bM q)∈aU N:=(de h2).mpr (rQ (cV hq.1) (by rw[pP];exact js hq))
 obtain⟨r,hf,w,rfl⟩:=zb (s:=true) hO hB
 refine⟨q,w,rfl,ut hA,?_,CA hO hB hf⟩
 unfold ib CB
 rw[show l4 (bM (vq (l4 q)))=l4 (bM q)from rfl,hf];rfl
noncomputable def gr:Stmt->Nat->Expr
 | .Return (some (.BoolOp _ es _)) _,i=>es.getD i (.Constant .none 0 ⟨0,0,0,0⟩)
 | _,_=>.Constant .none 0 ⟨0,0,0,0⟩
noncomputable def Qt:Expr->Expr
 | .Compare a _ _ _=>a
 | e=>e
noncomputable def Lq:Expr->Expr
 | .Compare _ _ [b] _=>b
 | e=>e
noncomputable def Qs:Expr->Pos
 | .Compare _ _ _ p=>p
 | _=>⟨0,0,0,0⟩
noncomputable def vI:Expr->Pos×Pos×Pos×Pos×Pos
 | .Compare (.Call (.Name _ p1) [.Call (.Name _ p2) [.Name _ p3] _ q2] _ q1) _ _ _=>(p1,p2,p3,q2,q1)
 | _=>(⟨0,0,0,0⟩,⟨0,0,0,0⟩,⟨0,0,0,0⟩,⟨0,0,0,0⟩,⟨0,0,0,0⟩)
theorem EI(hN:N∈jB)(hl:yk L)(sb:Sub (bt [("_law_script", .lst L,f1),("_law_p", .int N,f2),("_law_fours", .lst ((aU N).map ax),true),("_law_some", iO N,f4)]) ρ) :
  ∃ρ2,aa (az fK (((ak (ai 41)).drop 5).take 3) (ab (ai 41)) ρ) (.nx ρ2)/\Sub (bt [("_law_p", .int N,f2),("_law_met", .lst (((aM (aX false N)).map (ib (aM (aX true N)))).map ax),true)]) ρ2:=by
 have hO:=mG N hN
 refine vz 1 (P:=Sub (bt [("_law_script", .lst L,f1),("_law_p", .int N,f2),("_law_fours", .lst ((aU N).map ax),true),("_law_some", iO N,f4)])) (Bn hO sb) sb fun ρ1 s1=>?_
 refine oQ (qg (h:=D.int) (g:=fun _=>([]:List Unit)) (T:=[]) (F:=[]) (R:=[]) (fun _ ρ=>Sub (bt [("_law_script", .lst L,f1),("_law_p", .int N,f2),("_law_fours", .lst ((aU N).map ax),true),("_law_some", iO N,f4)]) ρ) [1,2,3,4,5,6] ∅ rfl ?_ rfl fun k hk F R ρ e sb=>⟨_,rfl,?_⟩) fun ρ s=>?_
 ·have sd:=s1.demote (mY ((ak (ai 41)).getD 6 (.Pass ⟨0,0,0,0⟩)))
  exact al sd.get (al sd.get (al sd.get (al sd.get bf)))
 ·refine KE hO hl k ?_ sb
  have:∀k∈[(1:Int),2,3,4,5,6],1<=k/\k<=6:=by decide
  exact this k hk
 ·have k1:=oW false N
  have k2:=oW true N
  have hm:=fun t ht=>yq hN (t:=t) ht
  have l1:=oS hO false
  have hb:=eH N hO
  unfold iO at s
  generalize aM (aX false N)=A at *
  generalize aM (aX true N)=B at *
  have em:(A.map (ib B)).map ax=A.map fun t=>ax (ib B t):=by rw[R8];rfl
  rw[em]
  refine wK (dg (d:=.lst (A.map fun t=>ax (ib B t))) (dU s (tS (l:=A) (g:=ax) (f:=fun t=>ax (ib B t)) (ii ∅ ∅ rfl k1) rfl (by show _<=40000;omega) (.inr (QA 1)) fun t ht=>?_))) (jg (al (s.put (Str.ofString "_law_met") _).get (al (s.put (Str.ofString "_law_met") _).get bf)))
  obtain⟨q,w,rfl,bq,ew,hS⟩:=hm t ht
  rw[ew]
  exact⟨_,rfl,bi (cy ∅ (cy (ii ∅ ∅ rfl k2) (cy ∅ d6))) hS⟩
theorem Kj(qs:List Qd):SeqAt.shaped (D.tup (qs.map dq)).py=true:=by
 unfold SeqAt.shaped
 rw[Bool.and_eq_true_iff]
 constructor
 ·rw[D.py,PyData.canLay0];exact KD qs
 ·rw[D.py,PyData.depth];have:=K5 qs;exact RX (by omega)
theorem Et(qs:List Qd):aa (iV .NotIn .non (.lst (qs.map dq))) true:=by
 refine aa.eq (a:=!((qs.map dq).any fun y=>gE y .non)) ⟨[jR (.tup (qs.map dq)) .non=true],rfl,?_,True.intro⟩ ?_
 ·unfold jR;rw[Kj,show SeqAt.shaped D.non.py=true from rfl];rfl
 ·rw[List.any_eq_false.mpr fun y hy=>?_];rfl
  obtain⟨q,_,rfl⟩:=QW.mp hy
  exact QT
theorem EG(hN:N∈jB)(X:Cx)(H0:Hp)(G:aK fK X (ab (ai 41)))(hp:PassesOwn (model X.prog X.w) X.A X.env X.xe)(sb:Sub (bt [("_law_p", .int N,f2),("_law_met", .lst (((aM (aX false N)).map (ib (aM (aX true N)))).map ax),true)]) ρ):dh X H0 ρ ((ak (ai 41)).drop 8) (.rt (.bl true)):=by
 have hO:=mG N hN
 obtain⟨_,sim⟩:=Gb hN
 have l1:=oS hO false
 obtain⟨b1,b2,b3⟩:=eH N hO
 have hq:∃qs:List Qd,(aM (aX false N)).map (ib (aM (aX true N)))=qs.map l4:=by
  have:∀l:List (List Int),(∀t∈l,t∈aM (aX false N))->∃qs:List Qd,l.map (ib (aM (aX true N)))=qs.map l4:=fun l=>by
   induction l with
   | nil=>exact fun _=>⟨[],rfl⟩
   | cons t l ih =>
    intro h
    obtain⟨qs,e⟩:=ih fun t ht=>h t (Qz _ ht)
    obtain⟨q,w,_,_,ew,_⟩:=yq hN (h t Qy)
    exact⟨w::qs,by rw[QU,e,ew];rfl⟩
  exact this _ fun t ht=>ht
 have hlen:((aM (aX false N)).map (ib (aM (aX true N)))).length=N.toNat+1:=by rw[QC,l1]
 obtain⟨qs,eq⟩:=hq
 generalize (aM (aX false N)).map (ib (aM (aX true N)))=M at *
 subst eq
 have eM:(qs.map l4).map ax=qs.map dq:=by rw[R8];rfl
 have s1:Sub (bt [("_law_p", .int N,f2),("_law_met", .lst (qs.map dq),true)]) ρ:=by rw[<- eM];exact sb
 have c1:aa (av fK (.Compare (Qt (gr ((ak (ai 41)).getD 8 (.Pass ⟨0,0,0,0⟩)) 0)) [.NotIn] [Lq (gr ((ak (ai 41)).getD 8 (.Pass ⟨0,0,0,0⟩)) 0)] (Qs (gr ((ak (ai 41)).getD 8 (.Pass ⟨0,0,0,0⟩)) 0))) false (ab (ai 41)) ρ) (.bl true,0):=dU s1 (gC (x:=.non) (y:=.lst (qs.map dq)) ∅ ∅ (Et qs))
 have hc2:iV .Eq (.int (((qs.map l4).length:Nat):Int)) (.int (N+1))=.ok (gE (.int (((qs.map l4).length:Nat):Int)) (.int (N+1))) [jR (.int (((qs.map l4).length:Nat):Int)) (.int (N+1))=true]:=rfl
 have he2:gE (.int (((qs.map l4).length:Nat):Int)) (.int (N+1))=true:=by rw[ng];exact RX (by omega)
 rw[he2]at hc2
 have m1:ED X ρ (.Name (Str.ofString "_law_met") (vI (gr ((ak (ai 41)).getD 8 (.Pass ⟨0,0,0,0⟩)) 1)).2.2.1) (.lst ((qs.map l4).map ax)) 2:=eV (o:=true) (sb.get:ρ (Str.ofString "_law_met")=some (.lst ((qs.map l4).map ax),true)) rfl
 have e2:ED X ρ (.Call (.Name (Str.ofString "len") (vI (gr ((ak (ai 41)).getD 8 (.Pass ⟨0,0,0,0⟩)) 1)).1) [.Call (.Name (Str.ofString "set") (vI (gr ((ak (ai 41)).getD 8 (.Pass ⟨0,0,0,0⟩)) 1)).2.1) [.Name (Str.ofString "_law_met") (vI (gr ((ak (ai 41)).getD 8 (.Pass ⟨0,0,0,0⟩)) 1)).2.2.1] [] (vI (gr ((ak (ai 41)).getD 8 (.Pass ⟨0,0,0,0⟩)) 1)).2.2.2.1] [] (vI (gr ((ak (ai 41)).getD 8 (.Pass ⟨0,0,0,0⟩)) 1)).2.2.2.2) (.int (((qs.map l4).length:Nat):Int)) 0:=zn G rfl rfl m1 (fun _ _ z=>nomatch z) (fun t ht=>by obtain⟨q,_,rfl⟩:=QW.mp ht;exact Sv _ _) (by omega) sim
 have e3:ED X ρ (Lq (gr ((ak (ai 41)).getD 8 (.Pass ⟨0,0,0,0⟩)) 1)) (.int (N+1)) 0:=fJ (dU s1 ∅) G
 exact jF (xV ((nQ (k:=0) (fJ c1 G) ((dz c1 G).td rfl true rfl) (fh (k:=0) (zp G.room e2 e3 hc2 ⟨rfl,True.intro⟩ rfl) (xK G.room e2 e3 hc2 ⟨rfl,True.intro⟩ rfl))).ed (Sv _ _) _) (.inl rfl)) (fun _ z=>nomatch z)
noncomputable def nv:List D->Rs D:=fun ds=>.ok (.bl true) [nu fK (ab (ai 41)) ["_law_script"] (ak (ai 41)) ds (.bl true)]
theorem BR:∀ds r,aa (nv ds) r->nu fK (ab (ai 41)) ["_law_script"] (ak (ai 41)) ds r:=by
 rintro ds r ⟨l,h,hp⟩
 unfold nv at h
 cases h
 exact hp.1
theorem EH(hN:N∈jB)(hl:yk L)(X:Cx)(H0:Hp)(G:aK fK X (ab (ai 41)))(hp:PassesOwn (model X.prog X.w) X.A X.env X.xe)(sb:Sub (bt [("_law_script", .lst L,f1),("_law_p", .int N,f2)]) ρ):dh X H0 ρ ((ak (ai 41)).drop 3) (.rt (.bl true)):=by
 have hO:=mG N hN
 obtain⟨b1,b2,b3⟩:=eH N hO
 have hS:aa (eS [.int N]) (.lst ((aU N).map ax)):=⟨_,rfl,by omega,by omega,True.intro⟩
 have c0:=C8 hO false
 have c1:=C8 hO true
 have s1:=sb.put (Str.ofString "_law_fours") (.lst ((aU N).map ax),true)
 refine gX 1 G hp (bY (dg (dU sb (bi ∅ hS))) dB) ?_
 refine fX (DM (x:=Str.ofString "_law_some") (a:=Str.ofString "left") (b:=Str.ofString "right") G rfl (fun ρ=>fJ ∅ G) (fun ρ=>fJ ∅ G) (by decide +kernel) (fJ (dU s1 (bi ∅ c0)) G) (fJ (dU s1 (bi ∅ c1)) G) (fun t ht=>pA t ((bz _).mem_iff.mp ht)) (fun t ht=>pA t ((bz _).mem_iff.mp ht))) ?_
 have s2:=s1.put (Str.ofString "_law_some") (iO N,false)
 obtain⟨ρ2,g1,g2⟩:=EI hN hl (f4:=false) (al s2.get (al s2.get (al s2.get (al s2.get bf))))
 exact gX 3 G hp g1 (EG hN X H0 G hp g2)
theorem Bm(ns:List Int)(_:ns.length<=63):aa (nv [.lst (ns.map D.int)]) (.bl true):=by
 have hl:yk (ns.map D.int):=⟨ns,rfl⟩
 generalize ns.map D.int=L at *
 refine⟨_,rfl,⟨rfl,fun X H0 G hps=>?_⟩,True.intro⟩
 have pre:∃ρ',aa (az fK ((ak (ai 41)).take 3) (ab (ai 41)) (gI ["_law_script"] [.lst L])) (.nx ρ')/\∃N∈jB,∃f2,Sub (bt [("_law_script", .lst L,false),("_law_p", .int N,f2)]) ρ':=by
  refine yn 1 ∅ ?_
  generalize zB L 0=c at *
  have a0:=Int.fmod_nonneg_of_pos (c.fdiv 12) (show(0:Int)<5 by decide)
  have a1:=Int.fmod_lt_of_pos (c.fdiv 12) (show(0:Int)<5 by decide)
  obtain⟨N,hN,hat⟩:=xh (f:=D.int) (l:=[3,5,7,11,13]) a0 a1
  obtain⟨M,hM,hat2⟩:=xh (f:=D.int) (l:=[17,19,23,29,31]) a0 a1
  have n1:N∈jB:=by
   have:∀n∈[(3:Int),5,7,11,13],n∈jB:=by decide
   exact this N hN
  have n2:M∈jB:=by
   have:∀n∈[(17:Int),19,23,29,31],n∈jB:=by decide
   exact this M hM
  refine wK (dg (d:=.int N) (rE ∅ ∅ rfl hat)) (oQ (P:=fun ρ' => ∃N∈jB,∃f2,Sub (bt [("_law_script", .lst L,false),("_law_p", .int N,f2)]) ρ') (KG ∅ (fun _=>?_) fun _=>jg ⟨N,n1,_,al rfl (al rfl bf)⟩) fun ρ h=>jg h)
  exact wK (dg (d:=.int M) (rE ∅ ∅ rfl hat2)) (jg ⟨M,n2,_,al rfl (al rfl bf)⟩)
 obtain⟨ρ',g1,N,hN,f2,s⟩:=pre
 exact gX 3 G hps g1 (EH hN hl X H0 G hps s)
theorem Mn:aS (aE (ab (ai 33))) ["_law_script", "_law_k"] (ab (ai 33)):=⟨rfl,rfl,rfl,by decide +kernel,by decide +kernel,by decide +kernel,by decide +kernel⟩
theorem Mr:aS (aE (ab (ai 29))) ["odd"] (ab (ai 29)):=⟨rfl,rfl,rfl,by decide +kernel,by decide +kernel,by decide +kernel,by decide +kernel⟩
theorem Ms:aS (aE (ab (ai 28))) ["n", "odd"] (ab (ai 28)):=⟨rfl,rfl,rfl,by decide +kernel,by decide +kernel,by decide +kernel,by decide +kernel⟩
theorem Mt:aS (aE (ab (ai 27))) ["n"] (ab (ai 27)):=⟨rfl,rfl,rfl,by decide +kernel,by decide +kernel,by decide +kernel,by decide +kernel⟩
theorem Mx:aS (aE (ab (ai 19))) ["side"] (ab (ai 19)):=⟨rfl,rfl,rfl,by decide +kernel,by decide +kernel,by decide +kernel,by decide +kernel⟩
theorem MB:aS (aE (ab (ai 15))) [] (ab (ai 15)):=⟨rfl,rfl,rfl,by decide +kernel,by decide +kernel,by decide +kernel,by decide +kernel⟩
theorem MF:aS (aE (ab (ai 11))) ["one", "other"] (ab (ai 11)):=⟨rfl,rfl,rfl,by decide +kernel,by decide +kernel,by decide +kernel,by decide +kernel⟩
theorem ME:aS (aE (ab (ai 12))) ["one", "other"] (ab (ai 12)):=⟨rfl,rfl,rfl,by decide +kernel,by decide +kernel,by decide +kernel,by decide +kernel⟩
theorem Mw:aS (aE (ab (ai 20))) ["one", "other", "side"] (ab (ai 20)):=⟨rfl,rfl,rfl,by decide +kernel,by decide +kernel,by decide +kernel,by decide +kernel⟩
theorem Mq:aS (aE (ab (ai 30))) ["p", "side"] (ab (ai 30)):=⟨rfl,rfl,rfl,by decide +kernel,by decide +kernel,by decide +kernel,by decide +kernel⟩
theorem MC:aS (aE (ab (ai 14))) ["four"] (ab (ai 14)):=⟨rfl,rfl,rfl,by decide +kernel,by decide +kernel,by decide +kernel,by decide +kernel⟩
theorem Qg:aS (aE (ab (ai 8))) ["one", "other"] (ab (ai 8)):=⟨rfl,rfl,rfl,by decide +kernel,by decide +kernel,by decide +kernel,by decide +kernel⟩
theorem Qf:aS (aE (ab (ai 9))) ["one", "number"] (ab (ai 9)):=⟨rfl,rfl,rfl,by decide +kernel,by decide +kernel,by decide +kernel,by decide +kernel⟩
theorem Mu:aS (aE (ab (ai 22))) ["four", "tried", "number"] (ab (ai 22)):=⟨rfl,rfl,rfl,by decide +kernel,by decide +kernel,by decide +kernel,by decide +kernel⟩
theorem Mv:aS (aE (ab (ai 21))) ["four", "number"] (ab (ai 21)):=⟨rfl,rfl,rfl,by decide +kernel,by decide +kernel,by decide +kernel,by decide +kernel⟩
theorem MD:aS (aE (ab (ai 13))) ["four"] (ab (ai 13)):=⟨rfl,rfl,rfl,by decide +kernel,by decide +kernel,by decide +kernel,by decide +kernel⟩
theorem MA:aS (aE (ab (ai 17))) ["one", "other", "side"] (ab (ai 17)):=⟨rfl,rfl,rfl,by decide +kernel,by decide +kernel,by decide +kernel,by decide +kernel⟩
theorem Mz:aS (aE (ab (ai 18))) ["one", "other", "side"] (ab (ai 18)):=⟨rfl,rfl,rfl,by decide +kernel,by decide +kernel,by decide +kernel,by decide +kernel⟩
theorem Mp:aS (aE (ab (ai 31))) ["one", "other", "side"] (ab (ai 31)):=⟨rfl,rfl,rfl,by decide +kernel,by decide +kernel,by decide +kernel,by decide +kernel⟩
theorem Mi:aS (aE (ab (ai 37))) ["_law_one", "_law_other"] (ab (ai 37)):=⟨rfl,rfl,rfl,by decide +kernel,by decide +kernel,by decide +kernel,by decide +kernel⟩
theorem Mm:aS (aE (ab (ai 34))) ["_law_x"] (ab (ai 34)):=⟨rfl,rfl,rfl,by decide +kernel,by decide +kernel,by decide +kernel,by decide +kernel⟩
theorem Ml:aS (aE (ab (ai 35))) ["_law_thing"] (ab (ai 35)):=⟨rfl,rfl,rfl,by decide +kernel,by decide +kernel,by decide +kernel,by decide +kernel⟩
theorem Mj:aS (aE (ab (ai 36))) ["_law_four"] (ab (ai 36)):=⟨rfl,rfl,rfl,by decide +kernel,by decide +kernel,by decide +kernel,by decide +kernel⟩
theorem Mg:aS (aE (ab (ai 40))) ["_law_four", "_law_some", "_law_side"] (ab (ai 40)):=⟨rfl,rfl,rfl,by decide +kernel,by decide +kernel,by decide +kernel,by decide +kernel⟩
theorem Mh:aS (aE (ab (ai 38))) ["_law_four"] (ab (ai 38)):=⟨rfl,rfl,rfl,by decide +kernel,by decide +kernel,by decide +kernel,by decide +kernel⟩
theorem Mf:aS (aE (ab (ai 41))) ["_law_script"] (ab (ai 41)):=⟨rfl,rfl,rfl,by decide +kernel,by decide +kernel,by decide +kernel,by decide +kernel⟩
theorem bW:∀p∈BL,oC p:=aY (Pr:=oC) (FC) (aY (Pr:=oC) (zO) (aY (Pr:=oC) (FB) (aY (Pr:=oC) (FE) (aY (Pr:=oC) (zP) (aA)))))
theorem bV:∀p∈IL,uI p:=aY (Pr:=uI) (wY) (aY (Pr:=uI) (ET) (aY (Pr:=uI) (EU) (aA)))
theorem bU:∀p∈ML,JI p:=aA
theorem bT:∀p∈TL,xx p:=aY (Pr:=xx) (wT) (aY (Pr:=xx) (wS) (aA))
theorem cL{P:Program}{k0:W.Frag}{base:Heap}{j k:Nat}{g:Str}{F:List D->Rs D}{l:List (Str×(List D->Rs D))}(h:cS P w k0 mg base j g F)(t:∀p∈l,Dk P w k0 mg base k p)(hj:j<=k:=by decide):∀p∈(g,F)::l,Dk P w k0 mg base k p:=aY (Pr:=Dk P w k0 mg base k) (Or.inl (h.mono hj)) t
theorem cN{n:Str}{l:List Str}(h:mg n=none)(t:∀m∈l,mg m=none):∀m∈n::l,mg m=none:=aY (Pr:=fun n=>mg n=none) h t
local macro_rules | `(tactic| walk_at "bn") => `(tactic| (intro _ _ _ _ _ _ us hl;first | (cases N0 hl;rfl) | (obtain ⟨x0,e⟩:=Ht hl;subst e;rfl) | (obtain ⟨x0,x1,e⟩:=Hs hl;subst e;rfl) | (obtain ⟨x0,x1,x2,e⟩:=NZ hl;subst e;rfl)))
theorem all_mk{K:W.Frag}{h:Heap}{fa f33 f29 f28 f27 f19 f15 f11 f12 f20 f30 f14 f8 f9 f22 f21 f13 f17 f18 f31 f37 f34 f35 f36 f40 f38 f41:Addr}(X:K.In h)(G:h.Ns mainGlobals mg)(hfa:mg "law" = some (.ref fa))
  {Ng PB Nj PF Nk PH Nl PJ Np PN Nt PR Nx PY Nw PX No PM Ni PD Nu PU od8 an8 od9 an9 Nm PK Nn PL Nv PV Nr PQ Nq PP Nh PC Nb Pw Nf Pz Nd Py Nc Px M9 Pu Na Pv M8 Ju:Option Addr} {LV LY LZ L3 L7 Ma Me Md L6 LX Mb sl8 sl9 L4 L5 Mc L9 L8 LW LR LU LT LS LP LQ LO:Array (Option Value)} {NF N9 OF MQ IP O8 NI Oc OI MT IS Pb NJ Od OJ MU IT Pc NK Oe OK MV IU Pd NO Oi OO MZ IZ Pi NR Om OR M2 Jb Pl NV Oq OV M6 Jf Pp NU Op OU M5 Je Po NN Oh ON MY IY Ph NH Ob OH MS IR Pa NS On OS M3 Jc Pm oc8 kV8 dc8 pm8 cd8 ct8 oc9 kV9 dc9 pm9 cd9 ct9 NL Of OL MW IV Pf NM Og OM MX IW Pg NT Oo OT M4 Jd Pn NQ Ol OQ M1 Ja Pk NP Oj OP M0 I0 Pj NG Oa OG MR IQ O9 NB N5 OA MM IK O0 NE N8 OE MP IO O7 ND N7 OC MO IN O6 NC N6 OB MN IM O1 Nz N3 Oy MJ II OY NA N4 Oz MK IJ OZ Ny HA Ir GI BD Ix:Value}
  (a33:W.nsIn K mainGlobals "_law_cell" = some (some (.ref f33)))    (l33:K.lookup f33=some ⟨NF,Ng,.func (W.fnOf "_law_cell" "_law_cell" (aW (ai 33)) (ak (ai 33)) (ab (ai 33)) .none N9 OF MQ PB IP O8),LV⟩) (c33:W.codeIn K IP "_law_cell" = true) (k33:W.keepIn K (.ref f33)=true)
  (a29:W.nsIn K mainGlobals "pairs_by_squares" = some (some (.ref f29)))    (l29:K.lookup f29=some ⟨NI,Nj,.func (W.fnOf "pairs_by_squares" "pairs_by_squares" (aW (ai 29)) (ak (ai 29)) (ab (ai 29)) .none Oc OI MT PF IS Pb),LY⟩) (c29:W.codeIn K IS "pairs_by_squares" = true) (k29:W.keepIn K (.ref f29)=true)
  (a28:W.nsIn K mainGlobals "alike_of_size" = some (some (.ref f28)))    (l28:K.lookup f28=some ⟨NJ,Nk,.func (W.fnOf "alike_of_size" "alike_of_size" (aW (ai 28)) (ak (ai 28)) (ab (ai 28)) .none Od OJ MU PH IT Pc),LZ⟩) (c28:W.codeIn K IT "alike_of_size" = true) (k28:W.keepIn K (.ref f28)=true)
  (a27:W.nsIn K mainGlobals "of_size" = some (some (.ref f27)))    (l27:K.lookup f27=some ⟨NK,Nl,.func (W.fnOf "of_size" "of_size" (aW (ai 27)) (ak (ai 27)) (ab (ai 27)) .none Oe OK MV PJ IU Pd),L3⟩) (c27:W.codeIn K IU "of_size" = true) (k27:W.keepIn K (.ref f27)=true)
  (a19:W.nsIn K mainGlobals "refuse_no_side" = some (some (.ref f19)))    (l19:K.lookup f19=some ⟨NO,Np,.func (W.fnOf "refuse_no_side" "refuse_no_side" (aW (ai 19)) (ak (ai 19)) (ab (ai 19)) .none Oi OO MZ PN IZ Pi),L7⟩) (c19:W.codeIn K IZ "refuse_no_side" = true) (k19:W.keepIn K (.ref f19)=true)
  (a15:W.nsIn K mainGlobals "ones" = some (some (.ref f15)))    (l15:K.lookup f15=some ⟨NR,Nt,.func (W.fnOf "ones" "ones" (aW (ai 15)) (ak (ai 15)) (ab (ai 15)) .none Om OR M2 PR Jb Pl),Ma⟩) (lC:W.codeIn K Jb "ones" = true) (k15:W.keepIn K (.ref f15)=true)
  (a11:W.nsIn K mainGlobals "plain_product" = some (some (.ref f11)))    (l11:K.lookup f11=some ⟨NV,Nx,.func (W.fnOf "plain_product" "plain_product" (aW (ai 11)) (ak (ai 11)) (ab (ai 11)) .none Oq OV M6 PY Jf Pp),Me⟩) (c11:W.codeIn K Jf "plain_product" = true) (k11:W.keepIn K (.ref f11)=true)
  (a12:W.nsIn K mainGlobals "product" = some (some (.ref f12)))    (l12:K.lookup f12=some ⟨NU,Nw,.func (W.fnOf "product" "product" (aW (ai 12)) (ak (ai 12)) (ab (ai 12)) .none Op OU M5 PX Je Po),Md⟩) (c12:W.codeIn K Je "product" = true) (k12:W.keepIn K (.ref f12)=true)
  (a20:W.nsIn K mainGlobals "beside" = some (some (.ref f20)))    (l20:K.lookup f20=some ⟨NN,No,.func (W.fnOf "beside" "beside" (aW (ai 20)) (ak (ai 20)) (ab (ai 20)) .none Oh ON MY PM IY Ph),L6⟩) (c20:W.codeIn K IY "beside" = true) (k20:W.keepIn K (.ref f20)=true)
  (a30:W.nsIn K mainGlobals "chosen" = some (some (.ref f30)))    (l30:K.lookup f30=some ⟨NH,Ni,.func (W.fnOf "chosen" "chosen" (aW (ai 30)) (ak (ai 30)) (ab (ai 30)) .none Ob OH MS PD IR Pa),LX⟩) (c30:W.codeIn K IR "chosen" = true) (k30:W.keepIn K (.ref f30)=true)
  (a14:W.nsIn K mainGlobals "size" = some (some (.ref f14)))    (l14:K.lookup f14=some ⟨NS,Nu,.func (W.fnOf "size" "size" (aW (ai 14)) (ak (ai 14)) (ab (ai 14)) .none On OS M3 PU Jc Pm),Mb⟩) (c14:W.codeIn K Jc "size" = true) (k14:W.keepIn K (.ref f14)=true)
  (a8:W.nsIn K mainGlobals "less" = some (some (.ref f8)))    (l8:K.lookup f8=some ⟨oc8,od8,.func (W.fnOf "less" "less" (aW (ai 8)) (ak (ai 8)) (ab (ai 8)) .none kV8 dc8 pm8 an8 cd8 ct8),sl8⟩) (c8:W.codeIn K cd8 "less" = true) (k8:W.keepIn K (.ref f8)=true)
  (a9:W.nsIn K mainGlobals "many_times" = some (some (.ref f9)))    (l9:K.lookup f9=some ⟨oc9,od9,.func (W.fnOf "many_times" "many_times" (aW (ai 9)) (ak (ai 9)) (ab (ai 9)) .none kV9 dc9 pm9 an9 cd9 ct9),sl9⟩) (c9:W.codeIn K cd9 "many_times" = true) (k9:W.keepIn K (.ref f9)=true)
  (a22:W.nsIn K mainGlobals "strayed" = some (some (.ref f22)))    (l22:K.lookup f22=some ⟨NL,Nm,.func (W.fnOf "strayed" "strayed" (aW (ai 22)) (ak (ai 22)) (ab (ai 22)) .none Of OL MW PK IV Pf),L4⟩) (c22:W.codeIn K IV "strayed" = true) (k22:W.keepIn K (.ref f22)=true)
  (a21:W.nsIn K mainGlobals "nearest" = some (some (.ref f21)))    (Ln:K.lookup f21=some ⟨NM,Nn,.func (W.fnOf "nearest" "nearest" (aW (ai 21)) (ak (ai 21)) (ab (ai 21)) .none Og OM MX PL IW Pg),L5⟩) (c21:W.codeIn K IW "nearest" = true) (k21:W.keepIn K (.ref f21)=true)
  (a13:W.nsIn K mainGlobals "other_signed" = some (some (.ref f13)))    (l13:K.lookup f13=some ⟨NT,Nv,.func (W.fnOf "other_signed" "other_signed" (aW (ai 13)) (ak (ai 13)) (ab (ai 13)) .none Oo OT M4 PV Jd Pn),Mc⟩) (c13:W.codeIn K Jd "other_signed" = true) (k13:W.keepIn K (.ref f13)=true)
  (a17:W.nsIn K mainGlobals "divided" = some (some (.ref f17)))    (l17:K.lookup f17=some ⟨NQ,Nr,.func (W.fnOf "divided" "divided" (aW (ai 17)) (ak (ai 17)) (ab (ai 17)) .none Ol OQ M1 PQ Ja Pk),L9⟩) (c17:W.codeIn K Ja "divided" = true) (k17:W.keepIn K (.ref f17)=true)
  (a18:W.nsIn K mainGlobals "exact" = some (some (.ref f18)))    (l18:K.lookup f18=some ⟨NP,Nq,.func (W.fnOf "exact" "exact" (aW (ai 18)) (ak (ai 18)) (ab (ai 18)) .none Oj OP M0 PP I0 Pj),L8⟩) (c18:W.codeIn K I0 "exact" = true) (k18:W.keepIn K (.ref f18)=true)
  (a31:W.nsIn K mainGlobals "mate_by" = some (some (.ref f31)))    (l31:K.lookup f31=some ⟨NG,Nh,.func (W.fnOf "mate_by" "mate_by" (aW (ai 31)) (ak (ai 31)) (ab (ai 31)) .none Oa OG MR PC IQ O9),LW⟩) (c31:W.codeIn K IQ "mate_by" = true) (k31:W.keepIn K (.ref f31)=true)
  (a37:W.nsIn K mainGlobals "_law_times" = some (some (.ref f37)))    (l37:K.lookup f37=some ⟨NB,Nb,.func (W.fnOf "_law_times" "_law_times" (aW (ai 37)) (ak (ai 37)) (ab (ai 37)) .none N5 OA MM Pw IK O0),LR⟩) (c37:W.codeIn K IK "_law_times" = true) (k37:W.keepIn K (.ref f37)=true)
  (a34:W.nsIn K mainGlobals "_law_whole" = some (some (.ref f34)))    (l34:K.lookup f34=some ⟨NE,Nf,.func (W.fnOf "_law_whole" "_law_whole" (aW (ai 34)) (ak (ai 34)) (ab (ai 34)) .none N8 OE MP Pz IO O7),LU⟩) (c34:W.codeIn K IO "_law_whole" = true) (k34:W.keepIn K (.ref f34)=true)
  (a35:W.nsIn K mainGlobals "_law_is_four" = some (some (.ref f35)))    (l35:K.lookup f35=some ⟨ND,Nd,.func (W.fnOf "_law_is_four" "_law_is_four" (aW (ai 35)) (ak (ai 35)) (ab (ai 35)) .none N7 OC MO Py IN O6),LT⟩) (c35:W.codeIn K IN "_law_is_four" = true) (k35:W.keepIn K (.ref f35)=true)
  (a36:W.nsIn K mainGlobals "_law_size" = some (some (.ref f36)))    (l36:K.lookup f36=some ⟨NC,Nc,.func (W.fnOf "_law_size" "_law_size" (aW (ai 36)) (ak (ai 36)) (ab (ai 36)) .none N6 OB MN Px IM O1),LS⟩) (c36:W.codeIn K IM "_law_size" = true) (k36:W.keepIn K (.ref f36)=true)
  (a40:W.nsIn K mainGlobals "_law_mated" = some (some (.ref f40)))    (l40:K.lookup f40=some ⟨Nz,M9,.func (W.fnOf "_law_mated" "_law_mated" (aW (ai 40)) (ak (ai 40)) (ab (ai 40)) .none N3 Oy MJ Pu II OY),LP⟩) (c40:W.codeIn K II "_law_mated" = true) (k40:W.keepIn K (.ref f40)=true)
  (a38:W.nsIn K mainGlobals "_law_bar" = some (some (.ref f38)))    (l38:K.lookup f38=some ⟨NA,Na,.func (W.fnOf "_law_bar" "_law_bar" (aW (ai 38)) (ak (ai 38)) (ab (ai 38)) .none N4 Oz MK Pv IJ OZ),LQ⟩) (c38:W.codeIn K IJ "_law_bar" = true) (k38:W.keepIn K (.ref f38)=true)
  (a41:W.nsIn K mainGlobals "law" = some (some (.ref f41)))    (l41:K.lookup f41=some ⟨Ny,M8,.func (W.fnOf "law" "law" (aW (ai 41)) (ak (ai 41)) (ab (ai 41)) .none HA Ir GI Ju BD Ix),LO⟩) (c41:W.codeIn K BD "law" = true) (k41:W.keepIn K (.ref f41)=true)
  {tk0:Tok} (g0:W.nsIn K mainGlobals "MOST_PART" = some (some (.int (19) tk0)))
  {tk1:Tok} (g1:W.nsIn K mainGlobals "MOST_SIZE" = some (some (.int (97) tk1)))
  {ca2:Addr} {ss2:Array (Option Value)} {nn2:Nat} {J5 J4 J1 J0:Tok} (g2:W.nsIn K mainGlobals "NOUGHT" = some (some (.ref ca2))) (m2:K.lookup ca2=some ⟨.type "tuple", none,.seq #[.int (0) J5,.int (0) J4,.int (0) J1,.int (0) J0] nn2,ss2⟩)
  {ca3:Addr} {ss3:Array (Option Value)} {nn3:Nat} {JZ JY JX JW JV JU JT JS JR JQ Ga F7 F6 F5 F4 F3 F2 F1 F0 FZ FY FX FW FV FU:Tok} (g3:W.nsIn K mainGlobals "PRIMES" = some (some (.ref ca3))) (m3:K.lookup ca3=some ⟨.type "tuple", none,.seq #[.int (2) JZ,.int (3) JY,.int (5) JX,.int (7) JW,.int (11) JV,.int (13) JU,.int (17) JT,.int (19) JS,.int (23) JR,.int (29) JQ,.int (31) Ga,.int (37) F7,.int (41) F6,.int (43) F5,.int (47) F4,.int (53) F3,.int (59) F2,.int (61) F1,.int (67) F0,.int (71) FZ,.int (73) FY,.int (79) FX,.int (83) FW,.int (89) FV,.int (97) FU] nn3,ss3⟩)
  (z0:W.nsIn K mainGlobals "len" = some none)    (z1:W.nsIn K mainGlobals "tuple" = some none)    (z2:W.nsIn K mainGlobals "list" = some none)    (z3:W.nsIn K mainGlobals "abs" = some none)    (z4:W.nsIn K mainGlobals "all" = some none)    (z5:W.nsIn K mainGlobals "sum" = some none)    (z6:W.nsIn K mainGlobals "isinstance" = some none)    (z7:W.nsIn K mainGlobals "set" = some none)    (z8:W.nsIn K mainGlobals "int" = some none)    (z9:W.nsIn K mainGlobals "bool" = some none)    (z10:W.nsIn K mainGlobals "str" = some none)    (z11:W.nsIn K mainGlobals "range" = some none)    (z12:W.nsIn K mainGlobals "zip" = some none)    (z13:W.nsIn K mainGlobals "enumerate" = some none)    (z14:W.nsIn K mainGlobals "any" = some none)    (z15:W.nsIn K mainGlobals "sorted" = some none)    (z16:W.nsIn K mainGlobals "min" = some none)    (z17:W.nsIn K mainGlobals "max" = some none)    (z18:W.nsIn K mainGlobals "reversed" = some none) :
  ∃fd:FuncData,(∀(s:Shared) (v:Value),BindsTo s fd ⟨[v],[]⟩ [("_law_script", v)])/\∀base:Heap,K.In base->base.Ns mainGlobals mg->cQ l.prog w K mg base gG 8 fa fd ["_law_script"] (kD K nv):=by
 have e:=hfa.symm.trans (Rg X G a41)
 cases e
 have hbl:∀n∈io,mg n=none:=cN (Rh X G z0) (cN (Rh X G z1) (cN (Rh X G z2) (cN (Rh X G z3) (cN (Rh X G z4) (cN (Rh X G z5) (cN (Rh X G z6) (cN (Rh X G z7) (cN (Rh X G z8) (cN (Rh X G z9) (cN (Rh X G z10) (cN (Rh X G z11) (cN (Rh X G z12) (cN (Rh X G z13) (cN (Rh X G z14) (cN (Rh X G z15) (cN (Rh X G z16) (cN (Rh X G z17) (cN (Rh X G z18) (aA)))))))))))))))))))
 have F33:=bB (st:=(ai 33)) l33 c33 k33
 have b33:=F33.binds (ps:=["_law_script", "_law_k"]) (by walk_at "bn")
 have F29:=bB (st:=(ai 29)) l29 c29 k29
 have b29:=F29.binds (ps:=["odd"]) (by walk_at "bn")
 have F28:=bB (st:=(ai 28)) l28 c28 k28
 have b28:=F28.binds (ps:=["n", "odd"]) (by walk_at "bn")
 have F27:=bB (st:=(ai 27)) l27 c27 k27
 have b27:=F27.binds (ps:=["n"]) (by walk_at "bn")
 have F19:=bB (st:=(ai 19)) l19 c19 k19
 have b19:=F19.binds (ps:=["side"]) (by walk_at "bn")
 have F15:=bB (st:=(ai 15)) l15 lC k15
 have b15:=F15.binds (ps:=[]) (by walk_at "bn")
 have F11:=bB (st:=(ai 11)) l11 c11 k11
 have b11:=F11.binds (ps:=["one", "other"]) (by walk_at "bn")
 have F12:=bB (st:=(ai 12)) l12 c12 k12
 have b12:=F12.binds (ps:=["one", "other"]) (by walk_at "bn")
 have F20:=bB (st:=(ai 20)) l20 c20 k20
 have b20:=F20.binds (ps:=["one", "other", "side"]) (by walk_at "bn")
 have F30:=bB (st:=(ai 30)) l30 c30 k30
 have b30:=F30.binds (ps:=["p", "side"]) (by walk_at "bn")
 have F14:=bB (st:=(ai 14)) l14 c14 k14
 have b14:=F14.binds (ps:=["four"]) (by walk_at "bn")
 have F8:=bB (st:=(ai 8)) l8 c8 k8
 have b8:=F8.binds (ps:=["one", "other"]) (by walk_at "bn")
 have F9:=bB (st:=(ai 9)) l9 c9 k9
 have b9:=F9.binds (ps:=["one", "number"]) (by walk_at "bn")
 have F22:=bB (st:=(ai 22)) l22 c22 k22
 have b22:=F22.binds (ps:=["four", "tried", "number"]) (by walk_at "bn")
 have F21:=bB (st:=(ai 21)) Ln c21 k21
 have b21:=F21.binds (ps:=["four", "number"]) (by walk_at "bn")
 have F13:=bB (st:=(ai 13)) l13 c13 k13
 have b13:=F13.binds (ps:=["four"]) (by walk_at "bn")
 have F17:=bB (st:=(ai 17)) l17 c17 k17
 have b17:=F17.binds (ps:=["one", "other", "side"]) (by walk_at "bn")
 have F18:=bB (st:=(ai 18)) l18 c18 k18
 have b18:=F18.binds (ps:=["one", "other", "side"]) (by walk_at "bn")
 have F31:=bB (st:=(ai 31)) l31 c31 k31
 have b31:=F31.binds (ps:=["one", "other", "side"]) (by walk_at "bn")
 have F37:=bB (st:=(ai 37)) l37 c37 k37
 have b37:=F37.binds (ps:=["_law_one", "_law_other"]) (by walk_at "bn")
 have F34:=bB (st:=(ai 34)) l34 c34 k34
 have b34:=F34.binds (ps:=["_law_x"]) (by walk_at "bn")
 have F35:=bB (st:=(ai 35)) l35 c35 k35
 have b35:=F35.binds (ps:=["_law_thing"]) (by walk_at "bn")
 have F36:=bB (st:=(ai 36)) l36 c36 k36
 have b36:=F36.binds (ps:=["_law_four"]) (by walk_at "bn")
 have F40:=bB (st:=(ai 40)) l40 c40 k40
 have b40:=F40.binds (ps:=["_law_four", "_law_some", "_law_side"]) (by walk_at "bn")
 have F38:=bB (st:=(ai 38)) l38 c38 k38
 have b38:=F38.binds (ps:=["_law_four"]) (by walk_at "bn")
 have F41:=bB (st:=(ai 41)) l41 c41 k41
 refine⟨W.fnOf "law" "law" (aW (ai 41)) (ak (ai 41)) (ab (ai 41)) .none HA Ir GI Ju BD Ix,fun s v=>.of_eq rfl,fun base _ _=>?_⟩
 have D33:cS l.prog w K mg base 1 "_law_cell" ou:=bO F33 Mn (Rg X G a33) b33 (by decide +kernel) (bA (aA) (aA) bW bV bU bT bh hbl) uV
 have D29:cS l.prog w K mg base 1 "pairs_by_squares" cG:=tO (mZ F29 Mr (bA (aA) (aY (Pr:=i5 mg K) (qo (Rg X G g0)) (aA)) bW bV bU bT bh hbl) jz) (Rg X G a29) k29 b29 (by decide +kernel)
 have D28:cS l.prog w K mg base 2 "alike_of_size" cI:=tO (mZ F28 Ms (bA (cL D29 (aA)) (aA) bW bV bU bT bh hbl) lT) (Rg X G a28) k28 b28 (by decide +kernel)
 have D27:cS l.prog w K mg base 3 "of_size" eS:=bO F27 Mt (Rg X G a27) b27 (by decide +kernel) (bA (cL D28 (aA)) (aY (Pr:=i5 mg K) (qo (Rg X G g1)) (aA)) bW bV bU bT bh hbl) uA
 have D19:cS l.prog w K mg base 1 "refuse_no_side" cz:=bO F19 Mx (Rg X G a19) b19 (by decide +kernel) (bA (aA) (aA) bW bV bU bT bh hbl) kg
 have D15:cS l.prog w K mg base 1 "ones" lL:=bO F15 MB (Rg X G a15) b15 (by decide +kernel) (bA (aA) (aA) bW bV bU bT bh hbl) Ah
 have D11:cS l.prog w K mg base 1 "plain_product" fM:=bO F11 MF (Rg X G a11) b11 (by decide +kernel) (bA (aA) (aA) bW bV bU bT bh hbl) lK
 have D12:cS l.prog w K mg base 2 "product" lJ:=bO F12 ME (Rg X G a12) b12 (by decide +kernel) (bA (cL D11 (aA)) (aA) bW bV bU bT bh hbl) uz
 have D20:cS l.prog w K mg base 3 "beside" iA:=bO F20 Mw (Rg X G a20) b20 (by decide +kernel) (bA (cL D12 (aA)) (aA) bW bV bU bT bh hbl) uZ
 have D30:cS l.prog w K mg base 4 "chosen" iz:=tO (mZ F30 Mq (bA (cL D19 (cL D27 (cL D15 (cL D20 (aA))))) (aY (Pr:=i5 mg K) (jU (ns:=[2,3,5,7,11,13,17,19,23,29,31,37,41,43,47,53,59,61,67,71,73,79,83,89,97]) (Rg X G g3) m3 (show 25<=sizeLine by decide) (.cons ⟨_,rfl⟩ (.cons ⟨_,rfl⟩ (.cons ⟨_,rfl⟩ (.cons ⟨_,rfl⟩ (.cons ⟨_,rfl⟩ (.cons ⟨_,rfl⟩ (.cons ⟨_,rfl⟩ (.cons ⟨_,rfl⟩ (.cons ⟨_,rfl⟩ (.cons ⟨_,rfl⟩ (.cons ⟨_,rfl⟩ (.cons ⟨_,rfl⟩ (.cons ⟨_,rfl⟩ (.cons ⟨_,rfl⟩ (.cons ⟨_,rfl⟩ (.cons ⟨_,rfl⟩ (.cons ⟨_,rfl⟩ (.cons ⟨_,rfl⟩ (.cons ⟨_,rfl⟩ (.cons ⟨_,rfl⟩ (.cons ⟨_,rfl⟩ (.cons ⟨_,rfl⟩ (.cons ⟨_,rfl⟩ (.cons ⟨_,rfl⟩ (.cons ⟨_,rfl⟩ (.nil))))))))))))))))))))))))))) (aY (Pr:=i5 mg K) (qo (Rg X G g1)) (aA))) bW bV bU bT bh hbl) uW) (Rg X G a30) k30 b30 (by decide +kernel)
 have D14:cS l.prog w K mg base 1 "size" lI:=bO F14 MC (Rg X G a14) b14 (by decide +kernel) (bA (aA) (aA) bW bV bU bT bh hbl) Ag
 have D8:cS l.prog w K mg base 1 "less" pJ:=bO F8 Qg (Rg X G a8) b8 (by decide +kernel) (bA (aA) (aA) bW bV bU bT bh hbl) Ai
 have D9:cS l.prog w K mg base 1 "many_times" iw:=bO F9 Qf (Rg X G a9) b9 (by decide +kernel) (bA (aA) (aA) bW bV bU bT bh hbl) pH
 have D22:cS l.prog w K mg base 2 "strayed" lH:=bO F22 Mu (Rg X G a22) b22 (by decide +kernel) (bA (cL D14 (cL D8 (cL D9 (aA)))) (aA) bW bV bU bT bh hbl) uy
 have D21:cS l.prog w K mg base 3 "nearest" lN:=bO F21 Mv (Rg X G a21) b21 (by decide +kernel) (bA (cL D22 (aA)) (aA) bW bV bU bT bh hbl) uB
 have D13:cS l.prog w K mg base 1 "other_signed" gh:=bO F13 MD (Rg X G a13) b13 (by decide +kernel) (bA (aA) (aA) bW bV bU bT bh hbl) nF
 have D17:cS l.prog w K mg base 4 "divided" lO:=bO F17 MA (Rg X G a17) b17 (by decide +kernel) (bA (cL D19 (cL D21 (cL D20 (cL D14 (cL D8 (cL D13 (aA))))))) (aY (Pr:=i5 mg K) (jU (ns:=[0,0,0,0]) (Rg X G g2) m2 (show 4<=sizeLine by decide) (.cons ⟨_,rfl⟩ (.cons ⟨_,rfl⟩ (.cons ⟨_,rfl⟩ (.cons ⟨_,rfl⟩ (.nil)))))) (aA)) bW bV bU bT bh hbl) uE
 have D18:cS l.prog w K mg base 5 "exact" jA:=bO F18 Mz (Rg X G a18) b18 (by decide +kernel) (bA (cL D17 (aA)) (aY (Pr:=i5 mg K) (jU (ns:=[0,0,0,0]) (Rg X G g2) m2 (show 4<=sizeLine by decide) (.cons ⟨_,rfl⟩ (.cons ⟨_,rfl⟩ (.cons ⟨_,rfl⟩ (.cons ⟨_,rfl⟩ (.nil)))))) (aA)) bW bV bU bT bh hbl) xq
 have D31:cS l.prog w K mg base 6 "mate_by" lU:=bO F31 Mp (Rg X G a31) b31 (by decide +kernel) (bA (cL D19 (cL D18 (cL D14 (aA)))) (aY (Pr:=i5 mg K) (jU (ns:=[0,0,0,0]) (Rg X G g2) m2 (show 4<=sizeLine by decide) (.cons ⟨_,rfl⟩ (.cons ⟨_,rfl⟩ (.cons ⟨_,rfl⟩ (.cons ⟨_,rfl⟩ (.nil)))))) (aA)) bW bV bU bT bh hbl) oz.self
 have D37:cS l.prog w K mg base 1 "_law_times" gF:=bO F37 Mi (Rg X G a37) b37 (by decide +kernel) (bA (aA) (aA) bW bV bU bT bh hbl) uC
 have D34:cS l.prog w K mg base 1 "_law_whole" q9:=bO F34 Mm (Rg X G a34) b34 (by decide +kernel) (bA (aA) (aA) bW bV bU bT bh hbl) oz.self
 have D35:cS l.prog w K mg base 2 "_law_is_four" d8:=bO F35 Ml (Rg X G a35) b35 (by decide +kernel) (bA (cL D34 (aA)) (aA) bW bV bU bT bh hbl) oz.self
 have D36:cS l.prog w K mg base 1 "_law_size" gi:=bO F36 Mj (Rg X G a36) b36 (by decide +kernel) (bA (aA) (aA) bW bV bU bT bh hbl) uU
 have D40:cS l.prog w K mg base 7 "_law_mated" fA:=bO F40 Mg (Rg X G a40) b40 (by decide +kernel) (bA (cL D31 (cL D37 (cL D35 (cL D36 (aA))))) (aA) bW bV bU bT bh hbl) uD
 have D38:cS l.prog w K mg base 1 "_law_bar" qy:=bO F38 Mh (Rg X G a38) b38 (by decide +kernel) (bA (aA) (aA) bW bV bU bT bh hbl) xn
 exact mZ F41 Mf (bA (cL D33 (cL D27 (cL D30 (cL D40 (cL D38 (cL D35 (cL D36 (aA)))))))) (aA) bW bV bU bT bh hbl) BR
theorem walkX{q:Program}{r:W.RowW}{kwd:List (Str×Expr)}{run:Value->List Value->Sem Value}{K:Params->W.Frag}{as:List Addr}{t:Nat}
  (e:∀P,as=(K P).map (·.1)) (h:W.WalkO q loose XP (W.InK K) r d kwd run):W.WalkX q loose XP (W.X.obsZ as) (W.X.valZ K n t) r d kwd run :=
 fun w _ _ mg mb G y a o pm cd doc dV kV h1 h2 h3 h4 h5 h6 args vals as' L =>
  h w _ _ mg mb G (W.InK.keeps w _ _ (W.X.z_facts e y).2.1 L.keeps) a o pm cd doc dV kV h1 h2 h3 h4 h5 h6 args vals as'
theorem walk{q:Program}{YP:World->Heap->Prop}{K:Params->W.Frag}(hn:l.most=some 63)(hdf:d.params.defaults=[])
  (hY:∀(w:World) (h:Heap),YP w h->(K w.params).In h)
  (F:∀(w:World) (mg:Str->Option Value) (fa:Addr) (h:Heap),(K w.params).In h->h.Ns mainGlobals mg->mg d.name=some (.ref fa) ->
   ∃fd:FuncData,(∀(s:Shared) (u:Value),BindsTo s fd ⟨[u],[]⟩ [("_law_script", u)])/\∀base:Heap,(K w.params).In base->base.Ns mainGlobals mg->cQ l.prog w (K w.params) mg base gG 8 fa fd ["_law_script"] (kD (K w.params) nv)) :
  W.WalkO q loose XP YP l.row.toRowW d [] (fun f vs=>PySem.call f vs) :=
 L2.walk_of (n:=63) (k:=8) (x := "_law_script") (CX:=fun _=>gG) (sp:=fun w=>kD (K w.params) nv) hn (by decide) hdf ⟨rfl,by decide,by decide⟩ hY F (fun _ _ a ns hl hO hS=>HN hO hS (Bm ns hl)) fun _ _ _ _ _ z=>z
end K
namespace PySem.W.Fast
theorem tw998791312860149283:True:=.intro
theorem tw936880630766795391:True:=.intro
theorem tw9511056754981397241:True:=.intro
theorem tw13582321578414718597:True:=.intro
theorem tw7058759329692596162:True:=.intro
theorem tw17256094806916215450:True:=.intro
theorem tw5494596513182150389:True:=.intro
theorem tw1523806741415760830:True:=.intro
theorem tw4904921528698273099:True:=.intro
theorem tw5353924756847537406:True:=.intro
theorem tw1269141202448656712:True:=.intro
theorem tw3691631771814334356:True:=.intro
theorem tw399932291261384115:True:=.intro
theorem tw447850239298771171:True:=.intro
theorem tw10042581590776117225:True:=.intro
theorem tw9834834403360734511:True:=.intro
theorem tw3321498474318869396:True:=.intro
theorem tw10484891379532236405:True:=.intro
theorem tw15337568674955244506:True:=.intro
theorem tw14015533424258650090:True:=.intro
theorem tw9422995581753606119:True:=.intro
theorem tw14580701728880215814:True:=.intro
theorem tw17026932650304905793:True:=.intro
theorem tw2973904256286023575:True:=.intro
theorem tw8474037647659575932:True:=.intro
theorem tw6379577275969775815:True:=.intro
theorem tw4678315328728965683:True:=.intro
theorem tw6322600106824010949:True:=.intro
theorem tw2731519759617910302:True:=.intro
theorem tw4568543814718657540:True:=.intro
theorem tw9510830145662649634:True:=.intro
theorem tw548591118709139082:True:=.intro
theorem tw10031086942686312878:True:=.intro
theorem tw3211606897635688360:True:=.intro
theorem tw10360618543039832021:True:=.intro
theorem tw9355947942625664607:True:=.intro
theorem tw11023300427198862868:True:=.intro
theorem tw9286841925653418551:True:=.intro
theorem tw15022657247227278920:True:=.intro
theorem tw16039190026676083201:True:=.intro
theorem tw11270850643190024109:True:=.intro
theorem tw9523894656075547163:True:=.intro
theorem tw7256914495616793415:True:=.intro
theorem tw2446715087495795037:True:=.intro
theorem tw14470599694740488079:True:=.intro
theorem tw15881958285887514414:True:=.intro
theorem tw290352973218215306:True:=.intro
theorem tw11007437205550903180:True:=.intro
theorem tw13456013937489534519:True:=.intro
theorem tw302589213386222357:True:=.intro
theorem tw11152892859835910666:True:=.intro
theorem tw6135700071292104145:True:=.intro
theorem tw7493724258776079822:True:=.intro
theorem tw10749945045689010511:True:=.intro
theorem tw13797017418811223940:True:=.intro
theorem tw6644257750412468661:True:=.intro
theorem tw2833328404231150928:True:=.intro
theorem tw8006924960030317813:True:=.intro
theorem tw13899883719126557364:True:=.intro
theorem tw367772100740833729:True:=.intro
theorem tw6455051516997037288:True:=.intro
theorem tw10403824149438280828:True:=.intro
theorem tw6988141574951849658:True:=.intro
theorem tw11350364359832825854:True:=.intro
theorem tw10716074350348373025:True:=.intro
theorem tw410385561897745795:True:=.intro
theorem tw9030438360444367102:True:=.intro
theorem tw10270662469585116940:True:=.intro
theorem tw6600183322624563144:True:=.intro
theorem tw6923544146414146740:True:=.intro
theorem tw9024901094131717203:True:=.intro
theorem tw15720631800202273393:True:=.intro
theorem tw4021172768765134008:True:=.intro
theorem tw13774949403058879781:True:=.intro
theorem tw5675435942787857175:True:=.intro
theorem tw15892587060819668708:True:=.intro
theorem tw4258362349007534448:True:=.intro
theorem tw4204874796399067464:True:=.intro
theorem tw8896953469495496121:True:=.intro
theorem tw13300425519823679335:True:=.intro
theorem tw7652943399186949264:True:=.intro
theorem tw252239754833780037:True:=.intro
theorem tw3532898652427810968:True:=.intro
theorem tw16510072418271640548:True:=.intro
theorem tw4156009034508220250:True:=.intro
theorem tw15127819726913837818:True:=.intro
theorem tw1356423118480518290:True:=.intro
theorem tw6766744815206186306:True:=.intro
theorem tw3653909533921298835:True:=.intro
theorem tw2617136862362939004:True:=.intro
theorem tw14850134778448483305:True:=.intro
theorem tw16799152609002794318:True:=.intro
theorem tw9865261756678840967:True:=.intro
theorem tw14408437727415741249:True:=.intro
theorem tw17625992899235289338:True:=.intro
theorem tw1311575203316848396:True:=.intro
theorem tw15771244790496206687:True:=.intro
theorem tw7481659408070358231:True:=.intro
theorem tw4650272337086195300:True:=.intro
theorem tw10936262728164499431:True:=.intro
theorem tw3385915093952599445:True:=.intro
theorem tw77654051730233339:True:=.intro
theorem tw12989207644750984350:True:=.intro
theorem tw4795342441985505857:True:=.intro
theorem tw15261948481219060864:True:=.intro
theorem tw14411037549748278231:True:=.intro
theorem tw13802946151106849194:True:=.intro
theorem tw13204509207504367486:True:=.intro
theorem tw9652531634182834013:True:=.intro
theorem tw4773122900968918188:True:=.intro
theorem tw13217762747326115137:True:=.intro
theorem tw15696708151459599709:True:=.intro
theorem tw6880148852362852825:True:=.intro
theorem tw4546224228708965069:True:=.intro
theorem tw7680238196133785416:True:=.intro
theorem tw507746779765062121:True:=.intro
theorem tw3614233512924634615:True:=.intro
theorem tw9225292198450104927:True:=.intro
theorem tw17405842393579576371:True:=.intro
theorem tw1049792723454512533:True:=.intro
theorem tw10708411540068419133:True:=.intro
theorem tw2445795153562340871:True:=.intro
theorem tw16236093699673485771:True:=.intro
theorem tw12501258294926564060:True:=.intro
theorem tw8442262424547518748:True:=.intro
theorem tw10617025479156817985:True:=.intro
theorem tw13750939609160389066:True:=.intro
theorem tw2975901832707557780:True:=.intro
theorem tw4473361731543378416:True:=.intro
theorem tw11558715769029631971:True:=.intro
theorem tw12284363512740977420:True:=.intro
theorem tw5326253908455163855:True:=.intro
theorem tw12192079515645684827:True:=.intro
theorem tw16253104215862826105:True:=.intro
theorem tw16916205168851030085:True:=.intro
theorem tw13233068886721144310:True:=.intro
theorem tw10470482158605811381:True:=.intro
theorem tw6258665898038720941:True:=.intro
theorem tw437100191938443300:True:=.intro
theorem tw3929794814288086459:True:=.intro
theorem tw2043789125282785805:True:=.intro
theorem tw17039417774927536160:True:=.intro
theorem tw4268278181808945748:True:=.intro
theorem tw2284866403305457654:True:=.intro
theorem tw8741038038991144270:True:=.intro
theorem tw8330478092046481707:True:=.intro
theorem tw10139477322239634402:True:=.intro
theorem tw12939916481901911861:True:=.intro
theorem tw5693020605524211563:True:=.intro
theorem tw18164906486776925387:True:=.intro
theorem tw11857750179439229569:True:=.intro
theorem tw18370020782245759632:True:=.intro
theorem tw7697474678350963939:True:=.intro
theorem tw14611071880362734188:True:=.intro
theorem tw16669798852779135961:True:=.intro
theorem tw14695281046463700433:True:=.intro
theorem tw1087920178301616077:True:=.intro
theorem tw9427137302849210783:True:=.intro
theorem tw8418847953959721810:True:=.intro
theorem tw14187995973775644710:True:=.intro
theorem tw9129036198441333979:True:=.intro
theorem tw13020550482736549656:True:=.intro
theorem tw2856949560512331696:True:=.intro
theorem tw7706898178969891106:True:=.intro
theorem tw60860756117636476:True:=.intro
theorem tw8225516983609110605:True:=.intro
theorem tw14756486207109487975:True:=.intro
theorem tw12221456946798182869:True:=.intro
theorem tw4308652102942731698:True:=.intro
theorem tw10326865796344920229:True:=.intro
theorem tw7637574327208263022:True:=.intro
theorem tw15436488556613683289:True:=.intro
theorem tw15695464189742591878:True:=.intro
theorem tw9976360510951389111:True:=.intro
theorem tw11558436516825401110:True:=.intro
theorem tw4570220213584892982:True:=.intro
theorem tw8550387445797364346:True:=.intro
theorem tw17738165660266787845:True:=.intro
theorem tw5461091079800632294:True:=.intro
theorem tw10590907483648873145:True:=.intro
theorem tw9520424661471414408:True:=.intro
theorem tw968524196566386209:True:=.intro
theorem tw10777393441125196029:True:=.intro
theorem tw14067338173821977155:True:=.intro
theorem tw14408343060880372572:True:=.intro
theorem tw7814317411895683059:True:=.intro
theorem tw7561567873262561142:True:=.intro
theorem tw7006925804942161488:True:=.intro
theorem tw15024300149611727767:True:=.intro
theorem tw17160284901509360806:True:=.intro
theorem tw7614976620801306286:True:=.intro
theorem tw5619577186277130837:True:=.intro
theorem tw578241680889628247:True:=.intro
theorem tw11321006566355002351:True:=.intro
theorem tw9006664765370851552:True:=.intro
theorem tw18250992103942553464:True:=.intro
theorem tw5086870483329641344:True:=.intro
theorem tw1096053849044689375:True:=.intro
theorem tw10168194759261463562:True:=.intro
theorem tw7821174983575573398:True:=.intro
theorem tw1227190556082683526:True:=.intro
theorem tw5985493709420541707:True:=.intro
theorem tw10205917575156598790:True:=.intro
theorem tw12289387094395073748:True:=.intro
theorem tw7302101318717402405:True:=.intro
theorem tw5905007907384020818:True:=.intro
theorem tw2671430938296354401:True:=.intro
theorem tw12459260760800678414:True:=.intro
theorem tw13516496680348465530:True:=.intro
theorem tw1601286262025726841:True:=.intro
theorem tw10719040771216275613:True:=.intro
theorem tw17292034467012238593:True:=.intro
theorem tw2499513355899034954:True:=.intro
theorem tw9936961270451121928:True:=.intro
theorem tw2076715649222132281:True:=.intro
theorem tw14744142098715141116:True:=.intro
theorem tw12703242812329441876:True:=.intro
theorem tw3691413315058361883:True:=.intro
theorem tw3154813720939950176:True:=.intro
theorem tw8153749118197485250:True:=.intro
theorem tw7787919002419067617:True:=.intro
theorem tw16192206761104422478:True:=.intro
theorem tw9855251806040060082:True:=.intro
theorem tw6184399437081959184:True:=.intro
theorem tw15340179058831626216:True:=.intro
theorem tw6596979215979992495:True:=.intro
theorem tw15847770878247487003:True:=.intro
theorem tw2410329018800232159:True:=.intro
theorem tw3932804131788869306:True:=.intro
theorem tw14276963635964704060:True:=.intro
theorem tw4171178324648297027:True:=.intro
theorem tw3449278425876312845:True:=.intro
theorem tw1275568352297183967:True:=.intro
theorem tw973052258127507644:True:=.intro
theorem tw4967290351430135678:True:=.intro
end PySem.W.Fast
namespace PySem.W.Fast
end PySem.W.Fast
open PySem PySem.W PyProof.Rows
set_option maxRecDepth 100000 in
set_option maxHeartbeats 0 in
theorem PySem.Challenge.cw_spaceturns_k18_whole_classes_of_a_prime_holds : PySem.Challenge.rw_spaceturns_k18_whole_classes_of_a_prime.Holds := by
 w_on;o_law;z_head;(case hw=>w_witness2)
 k_fill
 refine K.walkX (fun _=>rfl) (K.walk (l:=PySem.Challenge.rw_spaceturns_k18_whole_classes_of_a_prime) rfl rfl (fun w h Y=>Y) ?F)
 case F =>
  intro w mg fa h KX G hmg
  refine' K.all_mk KX G hmg ?_ ?_ ?_ ?_ ?_ ?_ ?_ ?_ ?_ ?_ ?_ ?_ ?_ ?_ ?_ ?_ ?_ ?_ ?_ ?_ ?_ ?_ ?_ ?_ ?_ ?_ ?_ ?_ ?_ ?_ ?_ ?_ ?_ ?_ ?_ ?_ ?_ ?_ ?_ ?_ ?_ ?_ ?_ ?_ ?_ ?_ ?_ ?_ ?_ ?_ ?_ ?_ ?_ ?_ ?_ ?_ ?_ ?_ ?_ ?_ ?_ ?_ ?_ ?_ ?_ ?_ ?_ ?_ ?_ ?_ ?_ ?_ ?_ ?_ ?_ ?_ ?_ ?_ ?_ ?_ ?_ ?_ ?_ ?_ ?_ ?_ ?_ ?_ ?_ ?_ ?_ ?_ ?_ ?_ ?_ ?_ ?_ ?_ ?_ ?_ ?_ ?_ ?_ ?_ ?_ ?_ ?_ ?_ ?_ ?_ ?_ ?_ ?_ ?_ ?_ ?_ ?_ ?_ ?_ ?_ ?_ ?_ ?_ ?_ ?_ ?_ ?_ ?_ ?_
  all_goals try first|k_is|kernel_rfl
