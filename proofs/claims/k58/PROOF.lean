import PyProof.Rows.All
import Wide.All
import OpenK.AllK
import Wide.FinOn
import Lean
import PyProof.EqAt
import PyProof.EqKinds
import PyProof.TupleCall
import PySem.Challenge.RW_spaceturns_k58_whole_turns_and_numbers
set_option Elab.async false
set_option linter.all false
set_option maxRecDepth 100000
theorem ZL:type_of%@PySem.wpAny_bind:=@PySem.wpAny_bind
theorem ZM:type_of%@PySem.Heap.get?_push_of_some:=@PySem.Heap.get?_push_of_some
theorem ZN:type_of%@Nat.le_trans:=@Nat.le_trans
theorem ZO:type_of%@PySem.wpAny_pure:=@PySem.wpAny_pure
theorem ZP:type_of%@Nat.le_refl:=@Nat.le_refl
theorem ZQ:type_of%@PySem.Heap.get?_push_size:=@PySem.Heap.get?_push_size
theorem ZR:type_of%@List.mem_cons_of_mem:=@List.mem_cons_of_mem
theorem ZS:type_of%@PySem.Heap.lt_size:=@PySem.Heap.lt_size
theorem ZT:type_of%@List.mem_cons:=@List.mem_cons
theorem ZU:type_of%@Int.mul_assoc:=@Int.mul_assoc
theorem ZV:type_of%@List.mem_cons_self:=@List.mem_cons_self
theorem ZW:type_of%@Nat.lt_of_lt_of_le:=@Nat.lt_of_lt_of_le
theorem ZX:type_of%@Int.mul_comm:=@Int.mul_comm
theorem ZY:type_of%@Nat.zero_le:=@Nat.zero_le
theorem ZZ:type_of%@Bool.and_eq_true:=@Bool.and_eq_true
theorem aa0:type_of%@PySem.mem_of_lookup:=@PySem.mem_of_lookup
theorem aa1:type_of%@decide_eq_false:=@decide_eq_false
theorem aa2:type_of%@List.size_toArray:=@List.size_toArray
theorem aa3:type_of%@List.getElem?_eq_getElem:=@List.getElem?_eq_getElem
theorem aa4:type_of%@List.lookup_cons:=@List.lookup_cons
theorem aa5:type_of%@PySem.W.mg_of:=@PySem.W.mg_of
theorem aa6:type_of%@Nat.pow_le_pow_right:=@Nat.pow_le_pow_right
theorem aa7:type_of%@List.getElem?_eq_some_iff:=@List.getElem?_eq_some_iff
theorem aa8:type_of%@Bool.false_ne_true:=@Bool.false_ne_true
theorem aa9:type_of%@Int.fmod_nonneg_of_pos:=@Int.fmod_nonneg_of_pos
theorem ab0:type_of%@Int.mul_eq_zero:=@Int.mul_eq_zero
theorem ab1:type_of%@List.length_cons:=@List.length_cons
theorem ab2:type_of%@Nat.le_of_ble_eq_true:=@Nat.le_of_ble_eq_true
theorem ab3:type_of%@List.not_mem_nil:=@List.not_mem_nil
theorem ab4:type_of%@PySem.wpAny_field:=@PySem.wpAny_field
theorem ab5:type_of%@List.getD_eq_getElem?_getD:=@List.getD_eq_getElem?_getD
theorem ab6:type_of%@List.length_map:=@List.length_map
theorem ab7:type_of%@Int.fmod_lt_of_pos:=@Int.fmod_lt_of_pos
theorem ab8:type_of%@PySem.Heap.size_push:=@PySem.Heap.size_push
theorem ab9:type_of%@Int.natAbs_mul:=@Int.natAbs_mul
theorem ac0:type_of%@Nat.lt_of_le_of_lt:=@Nat.lt_of_le_of_lt
theorem ac1:type_of%@Nat.ne_of_lt:=@Nat.ne_of_lt
theorem ac2:type_of%@List.mem_append_right:=@List.mem_append_right
theorem ac3:type_of%@PySem.wpAny_setField_rec:=@PySem.wpAny_setField_rec
theorem ac4:type_of%@List.map_cons:=@List.map_cons
theorem ac5:type_of%@Nat.lt_succ_self:=@Nat.lt_succ_self
theorem ac6:type_of%@Nat.mul_le_mul:=@Nat.mul_le_mul
theorem ac7:type_of%@Nat.lt_irrefl:=@Nat.lt_irrefl
theorem ac8:type_of%@Int.mul_pos:=@Int.mul_pos
theorem ac9:type_of%@PySem.wpAny_callSpecial?_slot:=@PySem.wpAny_callSpecial?_slot
theorem ad0:type_of%@PySem.W.mg_none_of:=@PySem.W.mg_none_of
theorem ad1:type_of%@List.append_nil:=@List.append_nil
theorem ad2:type_of%@decide_eq_true:=@decide_eq_true
theorem ad3:type_of%@PySem.wpAny_seqItems:=@PySem.wpAny_seqItems
theorem ad4:type_of%@congrArg:=@congrArg
theorem ad5:type_of%@Option.some.inj:=@Option.some.inj
theorem ad6:type_of%@Int.natAbs_neg:=@Int.natAbs_neg
theorem ad7:type_of%@Int.natAbs_sub_le:=@Int.natAbs_sub_le
theorem ad8:type_of%@List.length_set:=@List.length_set
theorem ad9:type_of%@PySem.wpAny_truthy_bool:=@PySem.wpAny_truthy_bool
theorem ae0:type_of%@List.mem_of_getElem?:=@List.mem_of_getElem?
theorem ae1:type_of%@List.length_append:=@List.length_append
theorem ae2:type_of%@List.mem_map:=@List.mem_map
theorem ae3:type_of%@Nat.not_lt_zero:=@Nat.not_lt_zero
theorem ae4:type_of%@Nat.pow_lt_pow_right:=@Nat.pow_lt_pow_right
theorem ae5:type_of%@or_false:=@or_false
theorem ae6:type_of%@Int.mul_zero:=@Int.mul_zero
theorem ae7:type_of%@PySem.wpAny_loadPart':=@PySem.wpAny_loadPart'
theorem ae8:type_of%@Nat.pow_add:=@Nat.pow_add
theorem ae9:type_of%@PyProof.Rows.callWith_type1:=@PyProof.Rows.callWith_type1
theorem af0:type_of%@PySem.W.kia_one:=@PySem.W.kia_one
theorem af1:type_of%@PySem.wpAny_Call_Name_kw:=@PySem.wpAny_Call_Name_kw
theorem af2:type_of%@Int.lt_or_gt_of_ne:=@Int.lt_or_gt_of_ne
theorem af3:type_of%@PySem.wpAny_call_entry:=@PySem.wpAny_call_entry
theorem af4:type_of%@PySem.wpAny_holding:=@PySem.wpAny_holding
theorem af5:type_of%@Nat.pow_succ:=@Nat.pow_succ
theorem af6:type_of%@List.mem_range:=@List.mem_range
theorem af7:type_of%@PySem.SeqAt.canLay_of_shaped:=@PySem.SeqAt.canLay_of_shaped
theorem af8:type_of%@List.getElem?_map:=@List.getElem?_map
theorem af9:type_of%@of_decide_eq_true:=@of_decide_eq_true
theorem ag0:type_of%@PySem.F.slot_zip_next:=@PySem.F.slot_zip_next
theorem ag1:type_of%@PySem.Heap.get?_update_self:=@PySem.Heap.get?_update_self
theorem ag2:type_of%@Nat.ne_of_gt:=@Nat.ne_of_gt
theorem ag3:type_of%@PySem.wpAny_mono:=@PySem.wpAny_mono
theorem ag4:type_of%@PySem.wpAny_newObj_type:=@PySem.wpAny_newObj_type
theorem ag5:type_of%@List.forIn_cons:=@List.forIn_cons
theorem ag6:type_of%@PySem.Heap.SameBut.update:=@PySem.Heap.SameBut.update
theorem ag7:type_of%@PySem.wpAny_pyIter_tuple:=@PySem.wpAny_pyIter_tuple
theorem ag8:type_of%@Nat.eq_zero_or_pos:=@Nat.eq_zero_or_pos
theorem ag9:type_of%@Int.mul_neg_of_neg_of_pos:=@Int.mul_neg_of_neg_of_pos
theorem ah0:type_of%@Bool.eq_iff_iff:=@Bool.eq_iff_iff
theorem ah1:type_of%@Int.mul_fdiv_cancel_left:=@Int.mul_fdiv_cancel_left
theorem ah2:type_of%@PySem.wpAny_pyIter_list:=@PySem.wpAny_pyIter_list
theorem ah3:type_of%@Int.natAbs_add_le:=@Int.natAbs_add_le
theorem ah4:type_of%@List.flatMap_cons:=@List.flatMap_cons
theorem ah5:type_of%@List.length_eq_zero_iff:=@List.length_eq_zero_iff
theorem ah6:type_of%@List.any_eq_true:=@List.any_eq_true
theorem ah7:type_of%@PySem.Heap.get?_update_other:=@PySem.Heap.get?_update_other
theorem ah8:type_of%@Bool.false_eq_true:=@Bool.false_eq_true
theorem ah9:type_of%@List.map_map:=@List.map_map
theorem ai0:type_of%@Ne.symm:=@Ne.symm
theorem ai1:type_of%@PySem.wpAny_passesOwn:=@PySem.wpAny_passesOwn
theorem ai2:type_of%@List.find?_cons:=@List.find?_cons
theorem ai3:type_of%@List.getElem?_set_ne:=@List.getElem?_set_ne
theorem ai4:type_of%@List.all_eq_true:=@List.all_eq_true
theorem ai5:type_of%@beq_eq_false_iff_ne:=@beq_eq_false_iff_ne
theorem ai6:type_of%@Nat.mul_le_mul_left:=@Nat.mul_le_mul_left
theorem ai7:type_of%@if_true:=@if_true
theorem ai8:type_of%@PySem.wpAny_onRaise:=@PySem.wpAny_onRaise
theorem ai9:type_of%@PySem.wpAny_attempt:=@PySem.wpAny_attempt
theorem aj0:type_of%@List.getElem_idxOf:=@List.getElem_idxOf
theorem aj1:type_of%@Int.neg_mul_neg:=@Int.neg_mul_neg
theorem aj2:type_of%@PySem.wpAny_letGo:=@PySem.wpAny_letGo
theorem aj4:type_of%@Nat.le_of_lt:=@Nat.le_of_lt
theorem aj5:type_of%@PySem.codeAny_mono:=@PySem.codeAny_mono
theorem aj6:type_of%@List.forIn_nil:=@List.forIn_nil
theorem aj7:type_of%@Nat.mul_comm:=@Nat.mul_comm
theorem aj8:type_of%@beq_iff_eq:=@beq_iff_eq
theorem aj9:type_of%@List.length_take:=@List.length_take
theorem ak0:type_of%@List.getElem_mem:=@List.getElem_mem
theorem ak4:type_of%@Nat.pow_pos:=@Nat.pow_pos
theorem ak5:type_of%@List.nodup_cons:=@List.nodup_cons
theorem ak8:type_of%@Int.mul_ne_zero:=@Int.mul_ne_zero
theorem ak9:type_of%@if_false:=@if_false
theorem al7:type_of%@Nat.lt_trans:=@Nat.lt_trans
theorem al9:type_of%@Int.mul_one:=@Int.mul_one
namespace L2
open PySem PySem.Spec PyProof.Rows
variable{us:List Value}{C a b dx it:Addr}{P:Program}{w:World}{base h:Heap}{o:Obj}{g':Array GenState}{ch fp:List Addr}{qual x:Str}{N ps:List Str}{i j k n:Nat}{M:Model}{A:Around}{E Q:Value->Shared->Prop}{u:Value}{s s':Shared}{c e l tg:Expr}{α:Type}{pins:List (Addr×Obj)}{p pos pos':Pos}{K:W.Frag}{es:List Expr}{op op':CmpOp}{body:List Stmt}{f:Value->Value->Sem Value}{g:Int->Int->Int}{mA mg:Str->Option Value}{pl:Sem Bool}{kw:List (Str×Value)}{fd:FuncData}{outer:List Env}{scope:Scope}
abbrev eN:=Sum Int Str
def DR:eN->Value->Bool
 | .inl k,v=>Value.isInt k v
 | .inr x,v=>Value.isStrOf x v
def VQ(w:World):eN->Int
 | .inl k=>hashInt k
 | .inr x=>hashStr w x
theorem dH:∀{k:eN} {v:Value},DR k v=true->(∃i t,k=Sum.inl i/\v=Value.int i t)\/(∃x t,k=Sum.inr x/\v=Value.str x t)
 | .inl i,v,h=>by
  obtain⟨t,e⟩:=Value.isInt_shape (k:=i) (v:=v) h
  exact .inl ⟨i,t,rfl,e⟩
 | .inr x,v,h=>by
  obtain⟨t,e⟩:=Value.isStrOf_shape (x:=x) (v:=v) h
  exact .inr ⟨x,t,rfl,e⟩
theorem Kv(a b:Int):decide ((Sum.inl a:eN)=Sum.inl b)=(a==b):=by
 by_cases e:a=b
 ·subst e;simp
 ·have h:¬ (Sum.inl a:eN)=Sum.inl b:=fun q=>e (Sum.inl.inj q)
  rw[aa1 h]
  exact(ai5.mpr e).symm
theorem Ks(a b:Str):decide ((Sum.inr a:eN)=Sum.inr b)=decide (a=b):=by
 by_cases e:a=b
 ·subst e;simp
 ·have h:¬ (Sum.inr a:eN)=Sum.inr b:=fun q=>e (Sum.inr.inj q)
  rw[aa1 h,aa1 e]
theorem Ku(a:Int)(b:Str):decide ((Sum.inl a:eN)=Sum.inr b)=false:=aa1 (fun q=>nomatch q)
theorem Kt(a:Str)(b:Int):decide ((Sum.inr a:eN)=Sum.inl b)=false:=aa1 (fun q=>nomatch q)
def wL(prog:Program)(w:World):PySem.KeyKind prog w eN where
 is:=DR
 hash:=VQ w
 inj:=fun v a b ha hb=>by
  rcases dH ha with⟨i,t,rfl,rfl⟩|⟨x,t,rfl,rfl⟩
  ·rcases dH hb with⟨j,u,rfl,e⟩|⟨y,u,rfl,e⟩
   ·injection e with e1 _;rw[e1]
   ·exact nomatch e
  ·rcases dH hb with⟨j,u,rfl,e⟩|⟨y,u,rfl,e⟩
   ·exact nomatch e
   ·injection e with e1 _;rw[e1]
 byValue:=fun k v h=>by
  rcases dH h with⟨i,t,rfl,rfl⟩|⟨x,t,rfl,rfl⟩<;>rfl
 pyHash:=fun hv h=>by
  rcases dH hv with⟨i,t,rfl,rfl⟩|⟨x,t,rfl,rfl⟩
  ·exact wpAny_pyHash_int h
  ·exact wpAny_pyHash_str h
 eqBool:=fun hu hv h=>by
  rcases dH hu with⟨i,t,rfl,rfl⟩|⟨x,t,rfl,rfl⟩
  ·rcases dH hv with⟨j,u,rfl,rfl⟩|⟨y,u,rfl,rfl⟩
   ·rw[Kv]at h;exact wpAny_eqBool_int h
   ·rw[Ku]at h;exact SeqAt.EqAt.int_str i t y u _ _ _ _ h
  ·rcases dH hv with⟨j,u,rfl,rfl⟩|⟨y,u,rfl,rfl⟩
   ·rw[Kt]at h;exact SeqAt.EqAt.str_int x t j u _ _ _ _ h
   ·rw[Ks]at h;exact wpAny_eqBool_str h
 «strs» := fun k x t v h=>by
  rcases dH h with⟨i,u,rfl,e⟩|⟨y,u,rfl,e⟩
  ·exact nomatch e
  ·injection e with e1 _
   subst e1
   cases v<;>rfl
inductive V where
 | non|bl (b:Bool)|int (i:Int)|str (x:Str)|byt (b:Array UInt8)|flt (b:UInt64)|ref (a:Addr)|ty (n:String)
 deriving DecidableEq
def bo:V->Value->Prop
 | .non,u=>u=Value.none
 | .bl b,u=>u=Value.bool b
 | .int i,u => ∃t,u=Value.int i t
 | .str x,u => ∃t,u=Value.str x t
 | .byt b,u => ∃t,u=Value.bytes b t
 | .flt b,u => ∃t,u=Value.float b t
 | .ref a,u=>u=Value.ref a
 | .ty n,u=>u=Value.type n
abbrev aW:List V->List Value->Prop:=Paired bo
theorem aW.length{xs:List V}(r:aW xs us):xs.length=us.length:=Paired.length r
theorem aW.get:∀{xs:List V} {us:List Value} {i:Nat} {x:V},aW xs us->xs[i]?=some x->∃u,us[i]?=some u/\bo x u
 | _,_,_,_,.nil,e=>by simp at e
 | _,_,0,_,.cons r _,e=>by simp at e;subst e;exact⟨_,rfl,r⟩
 | _,_,i+1,x,.cons _ t,e=>by
  obtain⟨u,h1,h2⟩:=aW.get (i:=i) (x:=x) t (by simpa using e)
  exact⟨u,by simpa using h1,h2⟩
theorem aW.set{x:V}{u:Value}(r:bo x u):∀{xs:List V} {us:List Value} (i:Nat),aW xs us->aW (xs.set i x) (us.set i u)
 | _,_,_,.nil=>.nil
 | _,_,0,.cons _ t=>.cons r t
 | _,_,i+1,.cons q t=>.cons q (aW.set r i t)
theorem aW.append:∀{xs ys:List V} {us ws:List Value},aW xs us->aW ys ws->aW (xs++ys) (us++ws)
 | _,_,_,_,.nil,s=>s
 | _,_,_,_,.cons r t,s=>.cons r (aW.append t s)
theorem aW.take:∀{xs:List V} {us:List Value} (n:Nat),aW xs us->aW (xs.take n) (us.take n)
 | _,_,0,_=>.nil
 | _,_,_+1,.nil=>.nil
 | _,_,n+1,.cons r t=>.cons r (aW.take n t)
theorem aW.drop:∀{xs:List V} {us:List Value} (n:Nat),aW xs us->aW (xs.drop n) (us.drop n)
 | _,_,0,r=>r
 | _,_,_+1,.nil=>.nil
 | _,_,n+1,.cons _ t=>aW.drop n t
theorem aW.none_of:∀{xs:List V} {us:List Value} {i:Nat},aW xs us->xs[i]?=none->us[i]?=none:=fun {xs us i} r e=>by
 have h1:=r.length
 have h2:xs.length<=i:=List.getElem?_eq_none_iff.mp e
 exact List.getElem?_eq_none_iff.mpr (by omega)
def gY:Option V->Option Value->Prop
 | some v,some u=>bo v u
 | none,none=>True
 | _,_=>False
def KV{κ:Type}:List (κ×V)->List (κ×Value)->Prop:=Paired fun(p:κ×V) (q:κ×Value)=>p.1=q.1/\bo p.2 q.2
def kV:eN->V
 | .inl i=>.int i
 | .inr x=>.str x
inductive HO where
  | lst (xs:List V)
  | tup (xs:List V)
  | dK (kvs:List (eN×V))|dT (kvs:List (List eN×V))
  | set (S:Int->Bool) (n:Nat)
  | ins (C dx:Addr) (fs:List (Str×V))
  | own (x:Addr)
  | xd (fs:List (Str×V))
  | met (f x:Addr)
  | rng (lo hi:Int)
  | frz (o:Obj) (u:HO)
  | tbl (ps:Array Value)
  | ext (φ:Heap->Prop)
abbrev Hp:=Addr->Option HO
def bv(H:Hp)(a:Addr)(o:HO):Hp:=fun b=>if b=a then some o else H b
theorem bg{H:Hp}{o:HO}:bv H a o a=some o:=by unfold bv;rw[if_pos rfl]
theorem aK{H:Hp}{o:HO}(h:b≠a):bv H a o b=H b:=by unfold bv;rw[if_neg h]
theorem wx{H:Hp}{o u:HO}:bv (bv H a o) a u=bv H a u:=by
 funext b;unfold bv;split<;>rfl
theorem mM{H:Hp}{o u:HO}(h:H a=some o)(h':H b=some u)(d:o≠u):a≠b:=by
 intro e;subst e;rw[h]at h';exact d (ad5 h')
theorem bU{H:Hp}{o:HO}(h:H a=some o)(h':H b=none):a≠b:=by
 intro e;subst e;rw[h]at h';cases h'
section
variable(P:Program)(w:World)
def dj(H:Hp)(h:Heap)(a:Addr):HO->Prop
  | .lst xs=>xs.length<=sizeLine/\∃(its:List Value) (n:Nat),aW xs its/\h.get? a=some { cls:=.type "list", data:=.seq its.toArray n }
  | .tup xs=>xs.length<=sizeLine/\∃its:List Value,aW xs its/\IsTup h a its.toArray
  | .dK kvs=>kvs.length<=sizeLine/\(a==sysModules)=false/\∃vs,KV kvs vs/\h.DictOf (wL P w) a vs
  | .dT kvs=>kvs.length<=sizeLine/\(a==sysModules)=false/\∃xs:List (List eN×Addr×Value),
      Paired (fun(p:List eN×V) (q:List eN×Addr×Value)=>p.1=q.1/\H q.2.1=some (.tup (p.1.map kV))/\bo p.2 q.2.2) kvs xs /\
      ∃o es ep,h.get? a=some o/\o.ExactDict/\o.data=.dict es ep/\es.toList=xs.map (entryOfKey (tupleKind (wL P w)))/\(xs.map (·.1)).Nodup
  | .set S n=>h.SetOf (intKind P w) a S n
  | .ins C dx fs=>H dx=some (.own a)/\fs.length<=1000/\dx≠a/\h.get? a=some (W.instObj C dx) /\
      ∃mA,h.Ns1 dx mA/\(∀f,gY (fs.lookup f) (mA f))/\PySem.Within mA (fs.map (·.1))
  | .own _ => ∃o,h.get? a=some o
  | .xd fs => ∃mA,h.Ns1 a mA/\∀f,gY (fs.lookup f) (mA f)
  | .rng lo hi => ∃t u v,h.get? a=some { cls:=.type "range", data:=.fields #[.int lo t,.int hi u,.int 1 v] }
  | .frz o u=>h.get? a=some o/\dj H h a u
  | .tbl ps=>h.get? a=some { cls:=.none,data:=.fields ps }
  | .met f x=>h.get? a=some (W.methodObj (.ref f) (.ref x))
  | .ext φ=>φ h/\(∃o,h.get? a=some o)/\∀h1 h2:Heap,φ h1->(∀o,h1.get? a=some o->h2.get? a=some o)->φ h2
def fh(H:Hp)(h:Heap):Prop:=∀a o,H a=some o->dj P w H h a o
end
section
variable{H H':Hp}{h':Heap}{o:HO}
theorem dj.lt(x:dj P w H h a o):a<h.objs.size:=by
 cases o with
 | lst xs=>obtain⟨_,_,_,_,e⟩:=x;exact ZS e
 | tup xs=>obtain⟨_,_,_,p⟩:=x;exact p.lt
 | dK kvs=>obtain⟨_,_,_,_,o,_,_,e,_⟩:=x;exact ZS e
 | dT kvs=>obtain⟨_,_,_,_,o,_,_,e,_⟩:=x;exact ZS e
 | set S n=>obtain⟨o,_,_,_,e,_⟩:=x;exact ZS e
 | ins C dx fs=>obtain⟨_,_,_,e,_⟩:=x;exact ZS e
 | own y=>obtain⟨_,e⟩:=x;exact ZS e
 | xd fs=>obtain⟨_,⟨_,_,_,e,_⟩,_⟩:=x;exact ZS e
 | rng lo hi=>obtain⟨_,_,_,e⟩:=x;exact ZS e
 | frz ob u=>obtain⟨e,_⟩:=x;exact ZS e
 | tbl ps=>exact ZS (show h.get? a=some _ from x)
 | met f y=>exact ZS (show h.get? a=some _ from x)
 | ext φ=>obtain⟨_,⟨_,e⟩,_⟩:=x;exact ZS e
theorem Paired.mapP{α β:Type}{F G:α->β->Prop}:∀{l₁:List α} {l₂:List β},Paired F l₁ l₂->(∀a b,F a b->G a b)->Paired G l₁ l₂
 | _,_,.nil,_=>.nil
 | _,_,.cons r t,f=>.cons (f _ _ r) (Paired.mapP t f)
theorem dj.stay(x:dj P w H h a o)(k:∀b u,(b=a\/H b=some (.own a))->h.get? b=some u->h'.get? b=some u)
  (ho:∀b,H b=some (.own a)->H' b=some (.own a)) (ht:∀b xs,H b=some (.tup xs)->H' b=some (.tup xs)):dj P w H' h' a o:=by
 induction o with
 | lst xs=>obtain⟨z,its,n,r,e⟩:=x;exact⟨z,its,n,r,k _ _ (.inl rfl) e⟩
 | tup xs=>obtain⟨z,its,r,ob,e,c⟩:=x;exact⟨z,its,r,ob,k _ _ (.inl rfl) e,c⟩
 | dK kvs=>obtain⟨z,y,vs,r,ob,es,ep,e,c⟩:=x;exact⟨z,y,vs,r,ob,es,ep,k _ _ (.inl rfl) e,c⟩
 | dT kvs =>
  obtain⟨z,y,xs,r,ob,es,ep,e,c⟩:=x
  exact⟨z,y,xs,Paired.mapP r fun p q z=>⟨z.1,ht _ _ z.2.1,z.2.2⟩,ob,es,ep,k _ _ (.inl rfl) e,c⟩
 | set S n=>obtain⟨ob,es,ep,t,e,c⟩:=x;exact⟨ob,es,ep,t,k _ _ (.inl rfl) e,c⟩
 | ins C dx fs =>
  obtain⟨d,z,ne,e,mA,⟨od,es,ep,e2,c⟩,r⟩:=x
  exact⟨ho _ d,z,ne,k _ _ (.inl rfl) e,mA,⟨od,es,ep,k _ _ (.inr d) e2,c⟩,r⟩
 | own y=>obtain⟨ob,e⟩:=x;exact⟨ob,k _ _ (.inl rfl) e⟩
 | xd fs=>obtain⟨mA,⟨od,es,ep,e,c⟩,r⟩:=x;exact⟨mA,⟨od,es,ep,k _ _ (.inl rfl) e,c⟩,r⟩
 | rng lo hi=>obtain⟨t,u,v,e⟩:=x;exact⟨t,u,v,k _ _ (.inl rfl) e⟩
 | frz ob u ih=>obtain⟨e,q⟩:=x;exact⟨k _ _ (.inl rfl) e,ih q⟩
 | tbl ps =>
  have e:h.get? a=some { cls:=.none,data:=.fields ps }:=x
  show h'.get? a=some { cls:=.none,data:=.fields ps }
  exact k a _ (.inl rfl) e
 | met f y =>
  have e:h.get? a=some (W.methodObj (.ref f) (.ref y)):=x
  show h'.get? a=some (W.methodObj (.ref f) (.ref y))
  exact k a _ (.inl rfl) e
 | ext φ=>obtain⟨p,⟨o,e⟩,st⟩:=x;exact⟨st _ _ p fun o q=>k _ _ (.inl rfl) q,⟨o,k _ _ (.inl rfl) e⟩,st⟩
theorem fh.lt(x:fh P w H h)(e:H a=some o):a<h.objs.size:=(x a o e).lt
theorem fh.fresh(x:fh P w H h)(e:h.objs.size<=a):H a=none:=by
 cases q:H a with
 | none=>rfl
 | some u=>exact absurd (ZW (x.lt q) e) (ac7 _)
theorem fh.kept(x:fh P w H h)(k:∀b u,h.get? b=some u->h'.get? b=some u):fh P w H h':=fun a o e =>
 (x a o e).stay (fun b u _ q=>k b u q) (fun _ q=>q) fun _ _ q=>q
theorem fh.laid(x:fh P w H h)(k:∀b u,h.get? b=some u->h'.get? b=some u)(hp:h.objs.size<=a)(new:dj P w (bv H a o) h' a o):fh P w (bv H a o) h':=fun b u e=>by
 have hn:=x.fresh hp
 by_cases hb:b=a
 ·subst hb;rw[bg]at e;cases e;exact new
 ·rw[aK hb]at e
  exact(x b u e).stay (fun c v _ q=>k c v q) (fun c q=>by rw[aK (bU q hn)];exact q) fun c xs q=>by rw[aK (bU q hn)];exact q
end
def Rd(H:Hp)(a:Addr)(u:HO):Prop:=H a=some u\/∃o,H a=some (.frz o u)
theorem Rd.ok{H:Hp}{u:HO}(r:Rd H a u)(x:fh P w H h):dj P w H h a u:=by
 rcases r with r|⟨o,r⟩
 ·exact x a u r
 ·obtain⟨_,q⟩:=x a _ r
  exact q
def Eo:Option HO->Prop
 | some (.lst _)=>True
 | some (.dK _)=>True
 | some (.dT _)=>True
 | some (.set _ _)=>True
 | some (.ins _ _ _)=>True
 | some (.ext _)=>True
 | _=>False
section
variable{H:Hp}{h':Heap}{x e:Addr}{o':HO}
theorem fh.write(ok:fh P w H h)(mu:Eo (H x))(he:e=x\/H e=some (.own x))(k:∀b u,b≠e->h.get? b=some u->h'.get? b=some u)(heo:∃u,h'.get? e=some u)
  (new:dj P w (bv H x o') h' x o'):fh P w (bv H x o') h':=fun b u q=>by
 have nown:∀c y,H c=some (.own y)->c≠x:=fun c y r z=>by subst z;rw[r]at mu;exact mu
 have ntup:∀c xs,H c=some (.tup xs)->c≠x:=fun c xs r z=>by subst z;rw[r]at mu;exact mu
 by_cases hb:b=x
 ·subst hb;rw[bg]at q;cases q;exact new
 ·rw[aK hb]at q
  by_cases hbe:b=e
  ·have q':H b=some (.own x):=by
    rcases he with z|z
    ·exact absurd (hbe.trans z) hb
    ·rw[hbe];exact z
   rw[q]at q';cases q'
   obtain⟨v,hv⟩:=heo
   exact⟨v,by rw[hbe];exact hv⟩
  ·refine(ok b u q).stay (fun c v hc r=>k c v ?_ r) (fun c r=>by rw[aK (nown c b r)];exact r) fun c xs r=>by rw[aK (ntup c xs r)];exact r
   rcases hc with rfl|hc
   ·exact hbe
   ·rintro rfl
    rcases he with z|z
    ·exact nown c b hc z
    ·rw[hc]at z;cases z;exact hb rfl
end
structure Un(fs ex:List Addr)(H H':Hp)(h h':Heap):Prop where
 keep:∀b o,h.get? b=some o->H b=none->b∉fs->b∉ex->h'.get? b=some o
 slot:∀b o,h.get? b=some o->H b=none->b∈fs->b∉ex->∃sl,h'.get? b=some { o with slots:=sl }
 free:∀b o,h.get? b=some o->H b=none->b∉ex->H' b=none
 there:∀b o,h.get? b=some o->b∉ex->∃o',h'.get? b=some o'
 tups:∀b xs,H b=some (.tup xs)->H' b=some (.tup xs)
 frzs:∀b o u,H b=some (.frz o u)->H' b=some (.frz o u)
 tbls:∀b ps,H b=some (.tbl ps)->∃more,H' b=some (.tbl (ps++more))
section
variable{fs fs' ex ex':List Addr}{H H1 H2:Hp}{h1 h2 h':Heap}{x e:Addr}{o:HO}
theorem Un.any(u:Un fs ex H H1 h h1){ob:Obj}(q:h.get? b=some ob)(n:H b=none)(hx:b∉ex):∃sl,h1.get? b=some { ob with slots:=sl }:=by
 by_cases hb:b∈fs
 ·exact u.slot b ob q n hb hx
 ·exact⟨ob.slots,u.keep b ob q n hb hx⟩
theorem Un.kept(k:∀b u,h.get? b=some u->h'.get? b=some u):Un fs ex H H h h' :=
 ⟨fun b ob q _ _ _=>k b ob q,fun b ob q _ _ _=>⟨ob.slots,k b ob q⟩,fun _ _ _ n _=>n,fun b ob q _=>⟨ob,k b ob q⟩,fun _ _ q=>q,fun _ _ _ q=>q,fun _ ps q=>⟨#[],by rw[q];simp⟩⟩
theorem Un.refl:Un fs ex H H h h:=Un.kept fun _ _ q=>q
theorem Un.laid(k:∀b u,h.get? b=some u->h'.get? b=some u)(hp:h.objs.size<=a)(hn:H a=none):Un fs ex H (bv H a o) h h' where
 keep:=fun b u q _ _ _=>k b u q
 slot:=fun b u q _ _ _=>⟨u.slots,k b u q⟩
 free:=fun b u q n _=>by rw[aK (ac1 (ZW (ZS q) hp))];exact n
 there:=fun b u q _=>⟨u,k b u q⟩
 tups:=fun b xs q=>by rw[aK (bU q hn)];exact q
 frzs:=fun b u xs q=>by rw[aK (bU q hn)];exact q
 tbls:=fun b ps q=>⟨#[],by rw[aK (bU q hn),q];simp⟩
theorem Un.write(mu:Eo (H x))(he:e=x\/H e=some (.own x))(k:∀b u,b≠e->h.get? b=some u->h'.get? b=some u)(heo:∃u,h'.get? e=some u):Un fs ex H (bv H x o) h h':=by
 have hx:∀b,H b=none->b≠x:=fun b n z=>by subst z;rw[n]at mu;exact mu
 have hb:∀b,H b=none->b≠e:=fun b n z=>by
  subst z
  rcases he with r|r
  ·exact hx b n r
  ·rw[n]at r;cases r
 have hm:∀b u,H b=some u -> ¬ Eo (some u)->b≠x:=fun b u q nm z=>by subst z;rw[q]at mu;exact nm mu
 refine⟨fun b u q n _ _=>k b u (hb b n) q,fun b u q n _ _=>⟨u.slots,k b u (hb b n) q⟩,fun b u q n _=>by rw[aK (hx b n)];exact n,fun b u q _=>?_,
  fun b xs q=>by rw[aK (hm b _ q fun z=>z)];exact q,fun b u xs q=>by rw[aK (hm b _ q fun z=>z)];exact q,fun b ps q=>⟨#[],by rw[aK (hm b _ q fun z=>z),q];simp⟩⟩
 by_cases hbe:b=e
 ·subst hbe;exact heo
 ·exact⟨u,k b u hbe q⟩
end
def Dl(h:Heap)(H:Hp):List Addr:=(List.range h.objs.size).filter fun a=>(H a).isSome
def kH(h:Heap)(H:Hp):Heap:=W.hideAll h (Dl h H)
theorem Ar(h:Heap)(H:Hp):(kH h H).objs.size=h.objs.size:=W.hideAll_size _ _
theorem Ct{H:Hp}(e:h.get? b=some o)(n:H b=none):(kH h H).get? b=some o :=
 W.hideAll_get _ e fun hm=>by
  have q:(H b).isSome=true:=(List.mem_filter.mp hm).2
  rw[n]at q;simp at q
theorem Gb{H:Hp}(e:(kH h H).get? b=some o):h.get? b=some o/\H b=none:=by
 have e':h.get? b=some o:=W.of_hideAll (Dl h H) e
 refine⟨e',?_⟩
 cases q:H b with
 | none=>rfl
 | some x =>
  have hm:b∈Dl h H:=List.mem_filter.mpr ⟨af6.mpr (ZS e'),by simp[q]⟩
  have z:(kH h H).get? b=none:=W.hideAll_none (Dl h H) hm
  rw[z]at e;cases e
def Hn(g h:Heap)(L:Addr):List (Addr×Obj):=(List.range h.objs.size).filterMap fun a=>if a=L\/(g.get? a).isSome=true then none else(h.get? a).map fun o=>(a,o)
def rest(g h:Heap)(L d:Addr):List (Addr×Obj):=(Hn g h L).filter fun p=>decide (p.1≠d)
variable{v y:V}{H:Hp}{R:V->V->Hp->Prop}{vs:List V}
structure Mod(K:W.Frag)(mg:Str->Option Value)(base:Heap):Prop where
 kin:K.In base
 glob:base.Ns mainGlobals mg
 blt:∃mb,base.Ns builtinsNs mb/\∀x:Str,x ≠ "__name__" -> mb x=bootBuiltins x
 nolimit:base.NoLimit
structure Cx where
 prog:Program
 w:World
 K:W.Frag
 mg:Str->Option Value
 base:Heap
 A:Around
 N:List Str
 s₀:Shared
 H₀:Hp
 env:Env
 outer:List Env
 stack:List Env
 ex:List Addr
 fn:Str->Bool
 calm:Bool
 pn:List (Addr×Obj)
 xe:Value->Shared->Prop
def jY(l:List Env):List Addr:=l.filterMap (·.frame)
abbrev Cx.fs(X:Cx):List Addr:=jY X.outer
def gB(sc:Scope)(x:Str):Prop:=sc.names.lookup x=some .local\/sc.names.lookup x=some .cell\/sc.names.lookup x=some .free
def vN(sc:Scope)(x:Str):Prop:=sc.names.lookup x=some .local\/sc.names.lookup x=some .cell
def Zo(env:Env)(h:Heap)(m:Str->Option Value)(x:Str)(u:Value):Prop :=
 (env.kindOf x=some .local/\m x=some u)\/((env.kindOf x=some .cell\/env.kindOf x=some .free)/\∃c,env.cells.lookup x=some c/\h.IsCell c (some u))
structure Cx.Ok(X:Cx):Prop where
 mod:Mod X.K X.mg X.base
 kind:X.env.scope.kind=.function
 glob:X.env.globals=mainGlobals
 blt:X.env.builtins=builtinsNs
 above:X.s₀.heap.objs.size<=X.env.locals
 inj:∀x y c,X.env.cells.lookup x=some c->X.env.cells.lookup y=some c->x=y
 has:∀x,(X.env.kindOf x=some .cell\/X.env.kindOf x=some .free)->∃c,X.env.cells.lookup x=some c
 cab:∀x c,X.fn x=true->X.env.cells.lookup x=some c->X.s₀.heap.objs.size<=c
 hd:X.calm=true->X.A.handled=none
 frames:X.A.frames=some X.stack
 stk:X.stack=X.outer\/(X.stack=X.env::X.outer/\X.env.frame=some X.env.locals)
 exf:∀b∈X.ex,b≠X.env.locals/\∀x c,X.env.cells.lookup x=some c->c≠b
 bs:∀b o,X.base.get? b=some o->X.s₀.heap.get? b=some o/\X.H₀ b=none
 bsz:X.base.objs.size<=X.s₀.heap.objs.size
 noex:∀b o,X.base.get? b=some o->b∉X.ex
 exfs:∀b∈X.ex,b∉X.fs
 funs:X.s₀.heap.FunFrames X.base X.outer
 frf:∀b∈X.fs,X.H₀ b=none
structure Inv(X:Cx)(pins:List (Addr×Obj))(σ:List (Option V))(H:Hp)(s:Shared):Prop where
 ok:X.Ok
 os:s.os=X.s₀.os
 bare:AllBare s.gens
 base:Un X.fs X.ex X.H₀ H X.s₀.heap s.heap
 loc:∃m,s.heap.Ns X.env.locals m/\∀(i:Nat) (x:Str) (v:V),X.N[i]?=some x->σ[i]?=some (some v)->gB X.env.scope x->∃u,bo v u/\Zo X.env s.heap m x u
 cell:∀x c,X.env.cells.lookup x=some c->∃v,s.heap.IsCell c v
 free:H X.env.locals=none
 freeC:∀x c,X.env.cells.lookup x=some c->H c=none
 pin:∀p∈X.pn++pins,s.heap.get? p.1=some p.2/\H p.1=none/\p.1≠X.env.locals/\p.1∉X.fs/\∀v,p.2.data ≠ .cell v
 hok:fh X.prog X.w H s.heap
 len:σ.length=X.N.length
section
variable{X:Cx}{σ:List (Option V)}{H':Hp}{h':Heap}
theorem Cx.Ok.nofr(ok:X.Ok)(e:X.base.get? b=some o):b∉X.fs:=fun hb=>by
 have:=(ok.funs.mem hb).1
 rw[e]at this;cases this
theorem Inv.bs(I:Inv X pins σ H s):∀b o,X.base.get? b=some o->s.heap.get? b=some o/\H b=none:=fun b o e =>
 ⟨I.base.keep b o (I.ok.bs b o e).1 (I.ok.bs b o e).2 (I.ok.nofr e) (I.ok.noex b o e),I.base.free b o (I.ok.bs b o e).1 (I.ok.bs b o e).2 (I.ok.noex b o e)⟩
theorem Inv.bk(I:Inv X pins σ H s):∀b o,X.base.get? b=some o->s.heap.get? b=some o:=fun b o e=>(I.bs b o e).1
theorem Inv.mod(I:Inv X pins σ H s):Mod X.K X.mg X.base:=I.ok.mod
theorem Inv.kIn(I:Inv X pins σ H s):X.K.In s.heap:=I.ok.mod.kin.keeps I.bk
theorem Inv.nolimit(I:Inv X pins σ H s):s.heap.NoLimit:=I.ok.mod.nolimit.keeps I.bk
theorem Inv.lt(I:Inv X pins σ H s):X.env.locals<s.heap.objs.size:=let ⟨_,hn,_⟩:=I.loc;hn.lt
theorem Inv.sz(I:Inv X pins σ H s):X.s₀.heap.objs.size<=s.heap.objs.size:=ZN I.ok.above (aj4 I.lt)
theorem Inv.nofs(I:Inv X pins σ H s)(h:s.heap.objs.size<=a):a∉X.fs:=fun hb=>by
 obtain⟨_,o,ho,_⟩:=I.ok.funs.mem hb
 exact absurd (ZW (ZS ho) (ZN I.sz h)) (ac7 _)
theorem Inv.cne(I:Inv X pins σ H s):∀x c,X.env.cells.lookup x=some c->c≠X.env.locals:=fun x c e z=>by
 obtain⟨v,o,ho,hd⟩:=I.cell x c e
 obtain⟨m,⟨o',es,ep,ho',hd',_⟩,_⟩:=I.loc
 rw[z,ho']at ho;cases ho;rw[hd']at hd;cases hd
theorem Inv.funs(I:Inv X pins σ H s):s.heap.FunFrames X.base X.outer:=by
 have all:∀(l:List Env),(∀b∈jY l,b∈X.fs)->X.s₀.heap.FunFrames X.base l->s.heap.FunFrames X.base l:=by
  intro l
  induction l with
  | nil=>intro _ _;trivial
  | cons env r ih =>
   intro hs hl
   obtain⟨hk,⟨L,o,hf,hn,ho,hd⟩,hr⟩:=hl
   have hL:L∈X.fs:=hs L (by unfold jY;rw[List.filterMap_cons,hf];exact ZV)
   obtain⟨sl,e⟩:=I.base.slot L o ho (I.ok.frf L hL) hL fun z=>I.ok.exfs L z hL
   exact⟨hk,⟨L,_,hf,hn,e,hd⟩,ih (fun b hb=>hs b (by unfold jY;rw[List.filterMap_cons,hf];exact ZR _ hb)) hr⟩
 exact all X.outer (fun _ hb=>hb) I.ok.funs
theorem Inv.stack(I:Inv X pins σ H s):s.heap.FunFrames X.base X.stack:=by
 rcases I.ok.stk with e|⟨e,hf⟩
 ·rw[e];exact I.funs
 ·rw[e]
  obtain⟨m,hn,_⟩:=I.loc
  refine .cons (by rw[I.ok.kind];decide) hf hn ?_ I.funs
  exact Heap.get?_none_of_le (ZN I.ok.bsz I.ok.above)
theorem Inv.stkSub(I:Inv X pins σ H s):∀b∈jY X.stack,b∈X.env.locals::X.fs:=fun b hb=>by
 rcases I.ok.stk with e|⟨e,hf⟩
 ·rw[e]at hb;exact ZR _ hb
 ·rw[e]at hb
  unfold jY at hb
  rw[List.filterMap_cons,hf]at hb
  exact hb
theorem Inv.stkFree(I:Inv X pins σ H s):∀b∈jY X.stack,H b=none:=fun b hb=>by
 rcases ZT.mp (I.stkSub b hb)with e|hb
 ·rw[e];exact I.free
 ·obtain⟨_,o,ho,_⟩:=I.ok.funs.mem hb
  exact I.base.free b o ho (I.ok.frf b hb) fun z=>I.ok.exfs b z hb
theorem Inv.step{t':Nat}{d':Drawn}(I:Inv X pins σ H s)
  (hch:∀b∈ch,(b∈X.ex\/X.s₀.heap.objs.size<=b)/\b≠X.env.locals/\(∀x c,X.env.cells.lookup x=some c->c≠b)/\∀p∈X.pn++pins,p.1≠b)
  (keep:∀b o,b≠X.env.locals->b∉X.fs->b∉ch->s.heap.get? b=some o->H b=none->h'.get? b=some o)
  (slot:∀b o,b≠X.env.locals->b∈X.fs->b∉ch->s.heap.get? b=some o->H b=none->∃sl,h'.get? b=some { o with slots:=sl }) (free:∀b o,b∉ch->s.heap.get? b=some o->H b=none->H' b=none)
  (there:∀b o,b∉ch->s.heap.get? b=some o->∃o',h'.get? b=some o')
  (tups:∀b xs,H b=some (.tup xs)->H' b=some (.tup xs)) (frzs:∀b o u,H b=some (.frz o u)->H' b=some (.frz o u)) (tbls:∀b ps,H b=some (.tbl ps)->∃more,H' b=some (.tbl (ps++more)))
  (ns:∀m,s.heap.Ns X.env.locals m->h'.Ns X.env.locals m) (hok:fh X.prog X.w H' h') (hg:AllBare g') :
  Inv X pins σ H' { s with heap:=h',gens:=g',drawn:=d',toks:=t' }:=by
 have neL:∀b o,X.s₀.heap.get? b=some o->b≠X.env.locals:=fun b o e=>ac1 (ZW (ZS e) I.ok.above)
 have neC:∀b o,X.s₀.heap.get? b=some o->b∉X.ex->b∉ch:=fun b o e hx hb=>by
  rcases(hch b hb).1 with z|z
  ·exact hx z
  ·exact absurd (ZW (ZS e) z) (ac7 _)
 have cellK:∀x c,X.env.cells.lookup x=some c->∀v,s.heap.IsCell c v->h'.IsCell c v:=fun x c e v ⟨o,ho,hd⟩=>by
  have nch:c∉ch:=fun z=>(hch c z).2.2.1 x c e rfl
  by_cases hc:c∈X.fs
  ·obtain⟨sl,q⟩:=slot c o (I.cne x c e) hc nch ho (I.freeC x c e)
   exact⟨_,q,hd⟩
  ·exact⟨o,keep c o (I.cne x c e) hc nch ho (I.freeC x c e),hd⟩
 refine⟨I.ok,I.os,hg,⟨fun b o e n hb hx=>?_,fun b o e n hb hx=>?_,fun b o e n hx=>?_,fun b o e hx=>?_,fun b xs e=>tups b xs (I.base.tups b xs e),fun b o xs e=>frzs b o xs (I.base.frzs b o xs e),fun b ps e=>?_⟩,?_,fun x c e=>?_,?_,fun x c e=>?_,fun p hp=>?_,hok,I.len⟩
 ·exact keep b o (neL b o e) hb (neC b o e hx) (I.base.keep b o e n hb hx) (I.base.free b o e n hx)
 ·obtain⟨sl,e1⟩:=I.base.slot b o e n hb hx
  obtain⟨sl',e2⟩:=slot b _ (neL b o e) hb (neC b o e hx) e1 (I.base.free b o e n hx)
  exact⟨sl',e2⟩
 ·obtain⟨o',e1⟩:=I.base.there b o e hx
  exact free b o' (neC b o e hx) e1 (I.base.free b o e n hx)
 ·obtain⟨o',e1⟩:=I.base.there b o e hx
  exact there b o' (neC b o e hx) e1
 ·obtain⟨m1,e1⟩:=I.base.tbls b ps e
  obtain⟨m2,e2⟩:=tbls b _ e1
  exact⟨m1++m2,by rw[e2,Array.append_assoc]⟩
 ·obtain⟨m,hn,hl⟩:=I.loc
  refine⟨m,ns m hn,fun i x v e1 e2 e3=>?_⟩
  obtain⟨u,r,l⟩:=hl i x v e1 e2 e3
  refine⟨u,r,?_⟩
  rcases l with l|⟨k,c,e,z⟩
  ·exact .inl l
  ·exact .inr ⟨k,c,e,cellK x c e _ z⟩
 ·obtain⟨v,z⟩:=I.cell x c e
  exact⟨v,cellK x c e v z⟩
 ·obtain⟨m,⟨o,_,_,ho,_⟩,_⟩:=I.loc
  exact free _ o (fun z=>(hch _ z).2.1 rfl) ho I.free
 ·obtain⟨v,o,ho,hd⟩:=I.cell x c e
  exact free c o (fun z=>(hch c z).2.2.1 x c e rfl) ho (I.freeC x c e)
 ·obtain⟨e,n,ne,nf,d⟩:=I.pin p hp
  have nch:p.1∉ch:=fun z=>(hch p.1 z).2.2.2 p hp rfl
  exact⟨keep p.1 p.2 ne nf nch e n,free p.1 p.2 nch e n,ne,nf,d⟩
theorem Inv.un{t':Nat}(I:Inv X pins σ H s)(u:Un X.fs [] H H' s.heap h')(hok:fh X.prog X.w H' h'):Inv X pins σ H' { s with heap:=h',toks:=t' }:=by
 obtain⟨m,⟨o,es,ep,ho,r⟩,_⟩:=id I.loc
 obtain⟨sl,hL⟩:=u.any ho I.free (by simp)
 exact I.step (g':=s.gens) (d':=s.drawn) (ch:=[]) (fun _ z=>nomatch z) (fun b o _ hb _ e n=>u.keep b o e n hb (by simp)) (fun b o _ hb _ e n=>u.slot b o e n hb (by simp)) (fun b o _ e n=>u.free b o e n (by simp)) (fun b o _ e=>u.there b o e (by simp)) u.tups u.frzs u.tbls (fun m' hm=>by
  obtain⟨o',es',ep',ho',r'⟩:=hm
  rw[ho]at ho';cases ho'
  exact⟨_,es',ep',hL,r'⟩) hok I.bare
theorem Inv.call{t':Nat}{d':Drawn}(I:Inv X pins σ H s)(u:Un (jY X.stack) ch H H' s.heap h')(hok:fh X.prog X.w H' h')(hg:AllBare g')
  (hch:∀b∈ch,(b∈X.ex\/X.s₀.heap.objs.size<=b)/\b≠X.env.locals/\(∀x c,X.env.cells.lookup x=some c->c≠b)/\∀p∈X.pn++pins,p.1≠b) :
  Inv X pins σ H' { s with heap:=h',gens:=g',drawn:=d',toks:=t' }:=by
 obtain⟨m,⟨o,es,ep,ho,r⟩,_⟩:=id I.loc
 obtain⟨sl,hL⟩:=u.any ho I.free fun z=>(hch _ z).2.1 rfl
 exact I.step (ch:=ch) hch (fun b o hL hb hc e n=>u.keep b o e n (fun z=>(ZT.mp (I.stkSub b z)).elim hL hb) hc) (fun b o _ _ hc e n=>u.any e n hc) (fun b o hc e n=>u.free b o e n hc) (fun b o hc e=>u.there b o e hc) u.tups u.frzs u.tbls (fun m' hm=>by
  obtain⟨o',es',ep',ho',r'⟩:=hm
  rw[ho]at ho';cases ho'
  exact⟨_,es',ep',hL,r'⟩) hok hg
theorem Inv.turned{t':Nat}(I:Inv X pins σ H s)(k:∀b o,b≠it->s.heap.get? b=some o->h'.get? b=some o)(hn:H it=none)(hL:it≠X.env.locals)
  (h1:it∈X.ex\/X.s₀.heap.objs.size<=it) (h2:∀x c,X.env.cells.lookup x=some c->c≠it) (h3:∀p∈X.pn++pins,p.1≠it):Inv X pins σ H { s with heap:=h',toks:=t' }:=by
 have nit:∀b u,H b=some u->b≠it:=fun b u e z=>by rw[z,hn]at e;cases e
 refine I.step (g':=s.gens) (d':=s.drawn) (ch:=[it]) (fun b hb=>?_) (fun b o _ _ hc e _=>k b o (fun z=>hc (by simp[z])) e) (fun b o _ _ hc e _=>⟨o.slots,k b o (fun z=>hc (by simp[z])) e⟩) (fun _ _ _ _ n=>n)
  (fun b o hc e=>⟨o,k b o (fun z=>hc (by simp[z])) e⟩) (fun _ _ e=>e) (fun _ _ _ e=>e) (fun b ps e=>⟨#[],by rw[e];simp⟩) (fun m hm=>?_) (fun b u e=>?_) I.bare
 ·have e:b=it:=by simpa using hb
  subst e
  exact⟨h1,hL,h2,h3⟩
 ·obtain⟨o,es,ep,ho,r⟩:=hm
  exact⟨o,es,ep,k _ o (ai0 hL) ho,r⟩
 ·refine(I.hok b u e).stay (fun c v hc q=>k c v ?_ q) (fun _ q=>q) fun _ _ q=>q
  rcases hc with z|z
  ·rw[z];exact nit b u e
  ·exact nit c _ z
theorem Inv.tok(I:Inv X pins σ H s)(t:Nat):Inv X pins σ H { s with toks:=t }:=I.un (h':=s.heap) (t':=t) Un.refl I.hok
theorem Inv.kept{t':Nat}(I:Inv X pins σ H s)(k:∀b u,s.heap.get? b=some u->h'.get? b=some u):Inv X pins σ H { s with heap:=h',toks:=t' }:=I.un (Un.kept k) (I.hok.kept k)
theorem Inv.laid{o:HO}{t':Nat}(I:Inv X pins σ H s)(k:∀b u,s.heap.get? b=some u->h'.get? b=some u)(hp:s.heap.objs.size<=a)(new:dj X.prog X.w (bv H a o) h' a o) :
  Inv X pins σ (bv H a o) { s with heap:=h',toks:=t' }:=I.un (Un.laid k hp (I.hok.fresh hp)) (I.hok.laid k hp new)
theorem Inv.write{x e:Addr}{o:HO}{t':Nat}(I:Inv X pins σ H s)(mu:Eo (H x))(he:e=x\/H e=some (.own x))(k:∀b u,b≠e->s.heap.get? b=some u->h'.get? b=some u)(heo:∃u,h'.get? e=some u)
  (new:dj X.prog X.w (bv H x o) h' x o):Inv X pins σ (bv H x o) { s with heap:=h',toks:=t' }:=I.un (Un.write mu he k heo) (I.hok.write mu he k heo new)
theorem Inv.pins_of{pins':List (Addr×Obj)}(I:Inv X pins σ H s)(h:∀p∈pins',s.heap.get? p.1=some p.2/\H p.1=none/\p.1≠X.env.locals/\p.1∉X.fs/\∀v,p.2.data ≠ .cell v):Inv X pins' σ H s :=
 ⟨I.ok,I.os,I.bare,I.base,I.loc,I.cell,I.free,I.freeC,fun p hp=>(List.mem_append.mp hp).elim (fun z=>I.pin p (List.mem_append_left _ z)) (h p),I.hok,I.len⟩
theorem kD(hN:N.Nodup)(a:N[i]?=some x)(b:N[j]?=some x):i=j:=by
 obtain⟨h1,e1⟩:=aa7.mp a
 obtain⟨h2,e2⟩:=aa7.mp b
 exact(List.getElem_inj hN).mp (e1.trans e2.symm)
theorem zu{Q:Unit->Shared->Prop}(I:Inv X pins σ H s)(hN:X.N.Nodup)(hi:X.N[i]?=some x)(hx:vN X.env.scope x)(r:bo v u)
  (h:∀s',Inv X pins (σ.set i (some v)) H s'->(∃a,Heap.SameBut a s.heap s'.heap/\(a=X.env.locals\/X.env.cells.lookup x=some a))->Q () s') (hf:X.fn x=true\/X.env.scope.names.lookup x=some .local:=by first|exact .inl rfl|exact .inr rfl|assumption):wpAny M A (storeName X.env x u) Q E s:=by
 obtain⟨m,hn,hl⟩:=id I.loc
 have hcls:(X.env.scope.kind == .class || (X.env.scope.kind == .module&&X.env.locals != X.env.globals))=false:=by rw[I.ok.kind];rfl
 have hiσ:i<σ.length:=by rw[I.len];exact(aa7.mp hi).1
 have cne:=I.cne
 have tracked:∀{a:Addr} {h':Heap},(∃o,s.heap.get? a=some o/\H a=none)->Heap.SameBut a s.heap h'->fh X.prog X.w H h':=fun {a h'} ha hs b ob e=>by
  obtain⟨_,_,hfree⟩:=ha
  refine(I.hok b ob e).stay (fun c w' hc q=>(hs.2 c ?_).trans q) (fun _ q=>q) fun _ _ q=>q
  rintro rfl
  rcases hc with rfl|hc
  ·rw[hfree]at e;cases e
  ·rw[hfree]at hc;cases hc
 rcases hx with hk|hk
 ·refine wpAny_storeName_local hk hn (fun h' hn' hs=>?_) hcls
  obtain⟨oL,_,_,hoL,_⟩:=id hn
  refine h _ ⟨I.ok,I.os,I.bare,⟨fun b o e n hb hx=>?_,fun b o e n hb hx=>?_,I.base.free,fun b o e hx=>?_,I.base.tups,I.base.frzs,I.base.tbls⟩,⟨_,hn',fun j y v' e1 e2 e3=>?_⟩,fun y c e=>?_,I.free,I.freeC,fun p hp=>?_,tracked ⟨oL,hoL,I.free⟩ hs,by simpa using I.len⟩ ⟨_,hs,.inl rfl⟩
  ·exact(hs.2 b (ac1 (ZW (ZS e) I.ok.above))).trans (I.base.keep b o e n hb hx)
  ·obtain⟨sl,e1⟩:=I.base.slot b o e n hb hx
   exact⟨sl,(hs.2 b (ac1 (ZW (ZS e) I.ok.above))).trans e1⟩
  ·obtain⟨o',e1⟩:=I.base.there b o e hx
   exact⟨o',(hs.2 b (ac1 (ZW (ZS e) I.ok.above))).trans e1⟩
  ·by_cases hj:j=i
   ·subst hj
    rw[hi]at e1;cases e1
    rw[List.getElem?_set_self hiσ]at e2
    cases e2
    exact⟨u,r,.inl ⟨hk,by simp⟩⟩
   ·rw[ai3 (ai0 hj)]at e2
    obtain⟨u',r',q⟩:=hl j y v' e1 e2 e3
    refine⟨u',r',?_⟩
    rcases q with⟨k,e⟩|⟨k,c,e,z⟩
    ·refine .inl ⟨k,?_⟩
     have:y≠x:=fun e=>hj (kD hN e1 (e ▸ hi))
     simp[this,e]
    ·exact .inr ⟨k,c,e,z.sameBut hs (cne y c e)⟩
  ·obtain⟨w',z⟩:=I.cell y c e
   exact⟨w',z.sameBut hs (cne y c e)⟩
  ·obtain⟨e,n,ne,nf,d⟩:=I.pin p hp
   exact⟨(hs.2 p.1 ne).trans e,n,ne,nf,d⟩
 ·have hfn:X.fn x=true:=by
   rcases hf with z|z
   ·exact z
   ·rw[z]at hk;cases hk
  obtain⟨c,hc⟩:=I.ok.has x (.inl hk)
  obtain⟨w',z⟩:=I.cell x c hc
  refine wpAny_storeName_cell I.ok.kind hk hc z (fun h' hc' hs=>?_)
  obtain⟨oc,hoc,hocd⟩:=id z
  refine h { s with heap:=h' } ⟨I.ok,I.os,I.bare,⟨fun b o e n hb hx=>?_,fun b o e n hb hx=>?_,I.base.free,fun b o e hx=>?_,I.base.tups,I.base.frzs,I.base.tbls⟩,⟨m,hn.sameBut hs (ai0 (cne x c hc)),fun j y v' e1 e2 e3=>?_⟩,fun y c' e=>?_,I.free,I.freeC,fun p hp=>?_,tracked ⟨oc,hoc,I.freeC x c hc⟩ hs,by simpa using I.len⟩ ⟨c,hs,.inr hc⟩
  ·exact(hs.2 b (ac1 (ZW (ZS e) (I.ok.cab x c hfn hc)))).trans (I.base.keep b o e n hb hx)
  ·obtain⟨sl,e1⟩:=I.base.slot b o e n hb hx
   exact⟨sl,(hs.2 b (ac1 (ZW (ZS e) (I.ok.cab x c hfn hc)))).trans e1⟩
  ·obtain⟨o',e1⟩:=I.base.there b o e hx
   exact⟨o',(hs.2 b (ac1 (ZW (ZS e) (I.ok.cab x c hfn hc)))).trans e1⟩
  ·by_cases hj:j=i
   ·subst hj
    rw[hi]at e1;cases e1
    rw[List.getElem?_set_self hiσ]at e2
    cases e2
    exact⟨u,r,.inr ⟨.inl hk,c,hc,hc'⟩⟩
   ·rw[ai3 (ai0 hj)]at e2
    obtain⟨u',r',q⟩:=hl j y v' e1 e2 e3
    refine⟨u',r',?_⟩
    rcases q with q|⟨k,c',e,z'⟩
    ·exact .inl q
    ·refine .inr ⟨k,c',e,z'.sameBut hs ?_⟩
     rintro rfl
     exact hj (kD hN e1 (I.ok.inj _ _ _ e hc ▸ hi))
  ·by_cases hcc:c'=c
   ·subst hcc;exact⟨_,hc'⟩
   ·obtain⟨w2,z2⟩:=I.cell y c' e
    exact⟨w2,z2.sameBut hs hcc⟩
  ·obtain⟨e,n,ne,nf,d⟩:=I.pin p hp
   refine⟨(hs.2 p.1 ?_).trans e,n,ne,nf,d⟩
   intro q
   rw[q,hoc]at e
   have q':oc=p.2:=ad5 e
   exact d w' (by rw[<- q'];exact hocd)
theorem iS{Q:Unit->Shared->Prop}(I:Inv X pins σ H s)(hN:X.N.Nodup)(hi:X.N[i]?=some x)(hx:vN X.env.scope x)(r:bo v u)
  (h:∀s',Inv X pins (σ.set i (some v)) H s'->Q () s') (hf:X.fn x=true\/X.env.scope.names.lookup x=some .local:=by first|exact .inl rfl|exact .inr rfl|assumption):wpAny M A (storeName X.env x u) Q E s :=
 zu I hN hi hx r (fun s' I' _=>h s' I') hf
theorem Inv.call'(I:Inv X pins σ H s)(ho:s'.os=s.os)(u:Un (jY X.stack) ch H H' s.heap s'.heap)(hok:fh X.prog X.w H' s'.heap)(hg:AllBare s'.gens)
  (hch:∀b∈ch,(b∈X.ex\/X.s₀.heap.objs.size<=b)/\b≠X.env.locals/\(∀x c,X.env.cells.lookup x=some c->c≠b)/\∀p∈X.pn++pins,p.1≠b):Inv X pins σ H' s':=by
 obtain⟨h',g',d',t',o'⟩:=s'
 have e:o'=s.os:=ho
 subst e
 exact I.call (g':=g') (t':=t') (d':=d') u hok hg hch
end
abbrev XK:=Value->Option Addr->Hp->Prop
abbrev St:=List (Option V)
abbrev VK:=V->Hp->Prop
abbrev TE:=St->Hp->VK->Prop
abbrev TT:=St->Hp->(Bool->Hp->Prop)->Prop
abbrev TA:=St->Hp->(List V->Hp->Prop)->Prop
structure mC where
 nx:St->Hp->Prop
 rt:VK
 bk:St->Hp->Prop:=fun _ _=>False
 ct:St->Hp->Prop:=fun _ _=>False
abbrev TS:=mC->St->Hp->Prop
def EP(X:Cx)(pins:List (Addr×Obj))(σ:St)(Q:VK)(u:Value)(s':Shared):Prop:=∃v H',Inv X pins σ H' s'/\bo v u/\Q v H'
def TP(X:Cx)(pins:List (Addr×Obj))(σ:St)(Q:Bool->Hp->Prop)(b:Bool)(s':Shared):Prop:=∃H',Inv X pins σ H' s'/\Q b H'
def AP(X:Cx)(pins:List (Addr×Obj))(σ:St)(Q:List V->Hp->Prop)(us:List Value)(s':Shared):Prop:=∃vs H',Inv X pins σ H' s'/\aW vs us/\Q vs H'
def SP(X:Cx)(pins:List (Addr×Obj))(D:mC)(f:Flow)(s':Shared):Prop :=
 match f with
 | .next => ∃σ' H',Inv X pins σ' H' s'/\D.nx σ' H'
 | .brk => ∃σ' H',Inv X pins σ' H' s'/\D.bk σ' H'
 | .cont => ∃σ' H',Inv X pins σ' H' s'/\D.ct σ' H'
 | .ret u => ∃v σ' H',Inv X pins σ' H' s'/\bo v u/\D.rt v H'
def PE(X:Cx)(e:Expr)(t:TE):Prop :=
 ∀(pins:List (Addr×Obj)) (s:Shared) (σ:St) (H:Hp) (Q:VK),Inv X pins σ H s->t σ H Q->wpAny (model X.prog X.w) X.A (eval e X.env) (EP X pins σ Q) X.xe s
def PT(X:Cx)(e:Expr)(t:TT):Prop :=
 ∀(pins:List (Addr×Obj)) (s:Shared) (σ:St) (H:Hp) (Q:Bool->Hp->Prop),Inv X pins σ H s->t σ H Q->wpAny (model X.prog X.w) X.A (isTrue e X.env (eval e X.env)) (TP X pins σ Q) X.xe s
def PW(X:Cx)(e:Expr)(t:TT):Prop :=
 ∀(whole:Sem Value) (pins:List (Addr×Obj)) (s:Shared) (σ:St) (H:Hp) (Q:Bool->Hp->Prop),Inv X pins σ H s->t σ H Q->wpAny (model X.prog X.w) X.A (isTrue e X.env whole) (TP X pins σ Q) X.xe s
theorem PW.pt{X:Cx}{t:TT}(h:PW X e t):PT X e t:=h _
def PA(X:Cx)(es:List Expr)(t:TA):Prop :=
 ∀(pos:Pos) (pins:List (Addr×Obj)) (s:Shared) (σ:St) (H:Hp) (Q:List V->Hp->Prop),Inv X pins σ H s->t σ H Q->wpAny (model X.prog X.w) X.A (spliced (backTo pos (starEach es X.env))) (AP X pins σ Q) X.xe s
def PS(X:Cx)(st:Stmt)(t:TS):Prop :=
 ∀(pins:List (Addr×Obj)) (s:Shared) (σ:St) (H:Hp) (D:mC),Inv X pins σ H s->t D σ H->wpAny (model X.prog X.w) X.A (exec st X.env) (SP X pins D) X.xe s
def gM(X:Cx)(st:List Stmt)(t:TS):Prop :=
 ∀(pins:List (Addr×Obj)) (s:Shared) (σ:St) (H:Hp) (D:mC),Inv X pins σ H s->t D σ H->wpAny (model X.prog X.w) X.A (execs st X.env) (SP X pins D) X.xe s
theorem be{t:Sem α}{Q Q':α->Shared->Prop}(h:wpAny M A t Q E s)(hQ:∀a s,Q a s->Q' a s):wpAny M A t Q' E s:=ag3 h hQ fun _ _ x=>x
variable{σ:St}{t te tl:TE}{X:Cx}{tc:TT}{ta:TA}{tb:TS}
section
theorem Qh{a b:Expr}{ta tb:TE}(ha:PE X a ta)(hb:PE X b tb)(I:Inv X pins σ H s)(h:ta σ H fun x H1=>tb σ H1 fun y H2=>R x y H2)
  {Q:α->Shared->Prop} {f:Value->Value->Sem α}
  (hf:∀v u s2 x y H2,Inv X pins σ H2 s2->bo x v->bo y u->R x y H2->wpAny (model X.prog X.w) X.A (f v u) Q X.xe s2) :
  wpAny (model X.prog X.w) X.A (eval a X.env) (fun v s₁=>wpAny (model X.prog X.w) X.A (eval b X.env) (fun u s₂=>wpAny (model X.prog X.w) X.A (f v u) Q X.xe s₂) X.xe s₁) X.xe s:=by
 refine be (ha pins s σ H _ I h) fun v s1 ⟨x,H1,I1,r1,q1⟩=>?_
 refine be (hb pins s1 σ H1 _ I1 q1) fun u s2 ⟨y,H2,I2,r2,q2⟩=>?_
 exact hf v u s2 x y H2 I2 r1 r2 q2
def xy(i:Nat):TE:=fun σ H Q => ∃v,σ[i]?=some (some v)/\Q v H
def tC(v:V):TE:=fun _ H Q=>Q v H
theorem jP(hN:X.N[i]?=some x)(hv:gB X.env.scope x)(hd:(x==("__debug__" : Str))=false:=by decide)(hcd:(x==("__classdict__" : Str))=false:=by decide):PE X (.Name x pos) (xy i):=by
 intro pins s σ H Q I h
 obtain⟨v,e,h⟩:=h
 obtain⟨m,hn,hl⟩:=I.loc
 obtain⟨u,r,l⟩:=hl i x v hN e hv
 have fin:EP X pins σ Q u s:=⟨v,H,I,r,h⟩
 rcases l with⟨hk,hm⟩|⟨hk,c,hc,hcell⟩
 ·exact wpAny_Name (wpAny_loadName_local I.ok.kind hk hn hm fin) hd
 ·rcases hk with hk|hk
  ·exact wpAny_Name (wpAny_loadName_cell I.ok.kind hk hc hcell fin) hd
  ·exact wpAny_Name (wpAny_loadName_free I.ok.kind hk hc hcell fin hcd) hd
theorem Jv{i j pos}:PE X (.Constant (.int i) j pos) (tC (.int i)):=fun _ _ _ H _ I h=>wpAny_Constant_int ⟨.int i,H,I.tok _,⟨_,rfl⟩,h⟩
theorem N6{b j pos}:PE X (.Constant (.bool b) j pos) (tC (.bl b)):=fun _ _ _ H _ I h=>Constant_bool ⟨.bl b,H,I,rfl,h⟩
theorem Jt{j pos}:PE X (.Constant .none j pos) (tC .non):=fun _ _ _ H _ I h=>Constant_none ⟨.non,H,I,rfl,h⟩
theorem Jq{x j pos}:PE X (.Constant (.str x) j pos) (tC (.str x)):=fun _ _ _ H _ I h=>Calls.Constant_str ⟨.str x,H,I.tok _,⟨_,rfl⟩,h⟩
def Gl(X:Cx)(x:Str):Prop:=X.env.kindOf x=some .globalImplicit
theorem iQ(I:Inv X pins σ H s)(hg:Gl X x)(hm:X.mg x=some u)(h:Q u s)
  (hd:(x==("__debug__" : Str))=false:=by decide):wpAny (model X.prog X.w) X.A (eval (.Name x pos) X.env) Q E s :=
 Calls.Name_function_global I.ok.kind hg (Calls.loadGlobal_global (by rw[I.ok.glob];exact I.mod.glob.keeps I.bk) hm h) hd
theorem gw(I:Inv X pins σ H s)(hg:Gl X x)(hm:X.mg x=none)(hv:bootBuiltins x=some u)(h:Q u s)
  (hn:x ≠ "__name__" := by decide) (hd:(x==("__debug__" : Str))=false:=by decide):wpAny (model X.prog X.w) X.A (eval (.Name x pos) X.env) Q E s:=by
 obtain⟨mb,h1,h2⟩:=I.mod.blt
 exact Calls.Name_function_global I.ok.kind hg (Calls.loadGlobal_builtin (by rw[I.ok.glob];exact I.mod.glob.keeps I.bk) hm (by rw[I.ok.blt];exact h1.keeps I.bk) ((h2 x hn).trans hv) h) hd
theorem qy(hg:Gl X x)(hm:X.mg x=some u)(r:bo v u)(hd:(x==("__debug__" : Str))=false:=by decide):PE X (.Name x pos) (tC v) :=
 fun _ _ _ H _ I h=>iQ I hg hm ⟨v,H,I,r,h⟩ hd
theorem F0(hg:Gl X x)(hm:X.mg x=none)(hv:bootBuiltins x=some u)(r:bo v u)(hn:x ≠ "__name__" := by decide)(hd:(x==("__debug__" : Str))=false:=by decide):PE X (.Name x pos) (tC v) :=
 fun _ _ _ H _ I h=>gw I hg hm hv ⟨v,H,I,r,h⟩ hn hd
variable{a b:Expr}{ta tb:TE}
def tB(t:TE):TT:=fun σ H Q=>t σ H fun x H1 => ∃c,x=.bl c/\Q c H1
theorem IT(h:PE X e t)(he:∀whole,isTrue e X.env whole=(do let v <- whole;standAt e.pos;holding [v] (truthy v)):=by intro _;rfl):PT X e (tB t):=by
 intro pins s σ H Q I hw
 refine isTrue_plain (be (h pins s σ H _ I hw) fun v s1 ⟨x,H1,I1,r1,q1⟩=>?_) (he _)
 obtain⟨d,rfl,q⟩:=q1
 cases r1
 exact ad9 ⟨H1,I1,q⟩
variable{tA tB':TT}{rest:List Expr}
def QF(t u:TT):TT:=fun σ H Q=>t σ H fun c H1=>if c=true then u σ H1 Q else Q false H1
def Zx(t u:TT):TT:=fun σ H Q=>t σ H fun c H1=>if c=true then Q true H1 else u σ H1 Q
def Qy(t:TT):TT:=fun σ H Q=>t σ H fun c H1=>Q (!c) H1
theorem FJ(ha:PT X a tA):PW X (.BoolOp .And [a] pos) tA:=by
 intro wh pins s σ H Q I h
 refine isTrue_and (be (ha pins s σ H Q I h) fun c s1 e=>?_)
 cases c with
 | true=>exact isTrue_and_nil e
 | false=>exact e
theorem IS(ha:PT X a tA):PW X (.BoolOp .Or [a] pos) tA:=by
 intro wh pins s σ H Q I h
 refine isTrue_or (be (ha pins s σ H Q I h) fun c s1 e=>?_)
 cases c with
 | false=>exact isTrue_or_nil e
 | true=>exact e
theorem zC(ha:PT X a tA)(hb:PW X (.BoolOp .And (b::rest) pos) tB'):PW X (.BoolOp .And (a::b::rest) pos) (QF tA tB'):=by
 intro wh pins s σ H Q I h
 refine isTrue_and (be (ha pins s σ H _ I h) fun c s1 ⟨H1,I1,q1⟩=>?_)
 cases c with
 | true=>exact hb wh pins s1 σ H1 Q I1 q1
 | false=>exact⟨H1,I1,q1⟩
theorem DD(ha:PT X a tA)(hb:PW X (.BoolOp .Or (b::rest) pos) tB'):PW X (.BoolOp .Or (a::b::rest) pos) (Zx tA tB'):=by
 intro wh pins s σ H Q I h
 refine isTrue_or (be (ha pins s σ H _ I h) fun c s1 ⟨H1,I1,q1⟩=>?_)
 cases c with
 | true=>exact⟨H1,I1,q1⟩
 | false=>exact hb wh pins s1 σ H1 Q I1 q1
theorem IU(ha:PT X a tA):PT X (.UnaryOp .Not a pos) (Qy tA):=by
 intro pins s σ H Q I h
 exact isTrue_not (ha pins s σ H (fun c H1=>Q (!c) H1) I h)
def NF(ta tb:TE):TE:=fun σ H Q=>ta σ H fun x H1 => ∃c,x=.bl c/\if c=true then tb σ H1 Q else Q (.bl false) H1
def Qx(ta tb:TE):TE:=fun σ H Q=>ta σ H fun x H1 => ∃c,x=.bl c/\if c=true then Q (.bl true) H1 else tb σ H1 Q
def NB(ta:TE):TE:=fun σ H Q=>ta σ H fun x H1 => ∃c,x=.bl c/\Q (.bl (!c)) H1
theorem Jr{op}(h:PE X a t):PE X (.BoolOp op [a] pos) t:=fun pins s σ H Q I hw=>BoolOp_one (h pins s σ H Q I hw)
theorem zO(ha:PE X a ta)(hb:PE X (.BoolOp .And (b::rest) pos) tb):PE X (.BoolOp .And (a::b::rest) pos) (NF ta tb):=by
 intro pins s σ H Q I h
 refine BoolOp_and (be (ha pins s σ H _ I h) fun v s1 ⟨x,H1,I1,r1,q1⟩=>?_)
 obtain⟨c,rfl,q1⟩:=q1
 cases r1
 refine ad9 ?_
 cases c with
 | true=>exact hb pins s1 σ H1 Q I1 q1
 | false=>exact⟨.bl false,H1,I1,rfl,q1⟩
theorem DH(ha:PE X a ta)(hb:PE X (.BoolOp .Or (b::rest) pos) tb):PE X (.BoolOp .Or (a::b::rest) pos) (Qx ta tb):=by
 intro pins s σ H Q I h
 refine BoolOp_or (be (ha pins s σ H _ I h) fun v s1 ⟨x,H1,I1,r1,q1⟩=>?_)
 obtain⟨c,rfl,q1⟩:=q1
 cases r1
 refine ad9 ?_
 cases c with
 | false=>exact hb pins s1 σ H1 Q I1 q1
 | true=>exact⟨.bl true,H1,I1,rfl,q1⟩
theorem Js(ha:PE X a ta):PE X (.UnaryOp .Not a pos) (NB ta):=by
 intro pins s σ H Q I h
 refine UnaryOp_ (be (ha pins s σ H _ I h) fun v s1 ⟨x,H1,I1,r1,q1⟩=>?_)
 obtain⟨c,rfl,q1⟩:=q1
 cases r1
 exact not_of (ad9 ⟨.bl (!c),H1,I1,rfl,q1⟩)
end
def de(K:W.Frag)(H:Hp)(a:Addr)(xs:List V):Prop :=
 Rd H a (.lst xs) \/
  ∃(o:Obj) (its:Array Value) (n:Nat),K.lookup a=some o/\o.cls=.type "list" /\ o.dict=none/\o.data=.seq its n/\its.size<=sizeLine/\aW xs its.toList
def dh(K:W.Frag)(H:Hp)(a:Addr)(xs:List V):Prop :=
 Rd H a (.tup xs) \/
  ∃(o:Obj) (its:Array Value) (n:Nat),K.lookup a=some o/\o.cls=.type "tuple" /\ o.data=.seq its n/\its.size<=sizeLine/\aW xs its.toList
def Zm:Value->Option V
 | .none=>some .non
 | .bool b=>some (.bl b)
 | .int i _=>some (.int i)
 | .str x _=>some (.str x)
 | .bytes b _=>some (.byt b)
 | .float b _=>some (.flt b)
 | .ref a=>some (.ref a)
 | .type n=>some (.ty n)
 | _=>none
theorem bo.abs{x:V}(r:bo x u):Zm u=some x:=by
 cases x with
 | non=>cases r;rfl
 | bl _=>cases r;rfl
 | int _=>obtain⟨t,rfl⟩:=r;rfl
 | str _=>obtain⟨t,rfl⟩:=r;rfl
 | byt _=>obtain⟨t,rfl⟩:=r;rfl
 | flt _=>obtain⟨t,rfl⟩:=r;rfl
 | ref _=>cases r;rfl
 | ty _=>cases r;rfl
theorem bo.inj{x:V}(r:bo x u)(q:bo y u):x=y:=ad5 (r.abs.symm.trans q.abs)
theorem aW.inj:∀{xs ys:List V} {us:List Value},aW xs us->aW ys us->xs=ys
 | _,_,_,.nil,.nil=>rfl
 | _,_,_,.cons r t,.cons r' t'=>by rw[r.inj r',aW.inj t t']
section
variable{xs ys:List V}
theorem de.of(h:H a=some (.lst xs)):de K H a xs:=.inl (.inl h)
theorem dh.of(h:H a=some (.tup xs)):dh K H a xs:=.inl (.inl h)
theorem Inv.list(I:Inv X pins σ H s)(h:de X.K H a xs):∃its:List Value,aW xs its/\PlainL s.heap a its.toArray/\xs.length<=sizeLine:=by
 rcases h with h|⟨o,its,n,hk,hc,hd,hs,hz,r⟩
 ·obtain⟨z,its,n,r,e⟩:=h.ok I.hok
  exact⟨its,r,⟨_,n,e,rfl,rfl,rfl⟩,z⟩
 ·refine⟨its.toList,r,⟨o,n,I.kIn a o hk,hc,hd,by simpa using hs⟩,?_⟩
  have e:=r.length
  simp only[Array.length_toList]at e
  omega
theorem Inv.tuple(I:Inv X pins σ H s)(h:dh X.K H a xs):∃its:List Value,aW xs its/\IsTup s.heap a its.toArray/\xs.length<=sizeLine:=by
 rcases h with h|⟨o,its,n,hk,hc,hs,hz,r⟩
 ·obtain⟨z,its,r,p⟩:=h.ok I.hok
  exact⟨its,r,p,z⟩
 ·refine⟨its.toList,r,⟨o,I.kIn a o hk,hc,n,by simpa using hs⟩,?_⟩
  have e:=r.length
  simp only[Array.length_toList]at e
  omega
theorem Inv.list_inj(I:Inv X pins σ H s)(h:de X.K H a xs)(h':de X.K H a ys):xs=ys:=by
 obtain⟨its,r,⟨o,n,e,_,_,d⟩,_⟩:=I.list h
 obtain⟨its',r',⟨o',n',e',_,_,d'⟩,_⟩:=I.list h'
 rw[e]at e';cases e'
 rw[d]at d'
 injection d' with d1 _
 have:its=its':=by simpa using ad4 Array.toList d1
 subst this
 exact r.inj r'
theorem Inv.tuple_inj(I:Inv X pins σ H s)(h:dh X.K H a xs)(h':dh X.K H a ys):xs=ys:=by
 obtain⟨its,r,⟨o,e,_,n,d⟩,_⟩:=I.tuple h
 obtain⟨its',r',⟨o',e',_,n',d'⟩,_⟩:=I.tuple h'
 rw[e]at e';cases e'
 rw[d]at d'
 injection d' with d1 _
 have:its=its':=by simpa using ad4 Array.toList d1
 subst this
 exact r.inj r'
end
abbrev Cx.wish(X:Cx)(E:Value->Shared->Prop):Cx:={ X with xe:=E }
abbrev Cx.nox(X:Cx):Cx:=X.wish fun _ _=>False
theorem Cx.Ok.wish(ok:X.Ok)(E:Value->Shared->Prop):(X.wish E).Ok :=
 ⟨ok.mod,ok.kind,ok.glob,ok.blt,ok.above,ok.inj,ok.has,ok.cab,ok.hd,ok.frames,ok.stk,ok.exf,ok.bs,ok.bsz,ok.noex,ok.exfs,ok.funs,ok.frf⟩
theorem Cx.Ok.unwish(ok:(X.wish E).Ok):X.Ok :=
 ⟨ok.mod,ok.kind,ok.glob,ok.blt,ok.above,ok.inj,ok.has,ok.cab,ok.hd,ok.frames,ok.stk,ok.exf,ok.bs,ok.bsz,ok.noex,ok.exfs,ok.funs,ok.frf⟩
section
theorem Inv.wish(I:Inv X pins σ H s)(E:Value->Shared->Prop):Inv (X.wish E) pins σ H s:=⟨I.ok.wish E,I.os,I.bare,I.base,I.loc,I.cell,I.free,I.freeC,I.pin,I.hok,I.len⟩
theorem Inv.unwish(I:Inv (X.wish E) pins σ H s):Inv X pins σ H s:=⟨I.ok.unwish,I.os,I.bare,I.base,I.loc,I.cell,I.free,I.freeC,I.pin,I.hok,I.len⟩
theorem SP.unwish{D:mC}{f:Flow}(h:SP (X.wish E) pins D f s'):SP X pins D f s':=by
 cases f with
 | next=>obtain⟨σ',H',I,q⟩:=h;exact⟨σ',H',I.unwish,q⟩
 | brk=>obtain⟨σ',H',I,q⟩:=h;exact⟨σ',H',I.unwish,q⟩
 | cont=>obtain⟨σ',H',I,q⟩:=h;exact⟨σ',H',I.unwish,q⟩
 | ret u=>obtain⟨v,σ',H',I,r,q⟩:=h;exact⟨v,σ',H',I.unwish,r,q⟩
theorem PE.nox(h:PE X.nox e t):PE X e t:=fun pins s σ H Q I hw =>
 ag3 (h pins s σ H Q (I.wish _) hw) (fun _ _ ⟨v,H',I',r,q⟩=>⟨v,H',I'.unwish,r,q⟩) fun _ _ z=>False.elim z
theorem PT.nox{t:TT}(h:PT X.nox e t):PT X e t:=fun pins s σ H Q I hw =>
 ag3 (h pins s σ H Q (I.wish _) hw) (fun _ _ ⟨H',I',q⟩=>⟨H',I'.unwish,q⟩) fun _ _ z=>False.elim z
theorem gM.nox{st:List Stmt}{t:TS}(h:gM X.nox st t):gM X st t:=fun pins s σ H D I hw =>
 ag3 (h pins s σ H D (I.wish _) hw) (fun _ _ q=>q.unwish) fun _ _ z=>False.elim z
end
section
variable{st:Stmt}{rest:List Stmt}{t u:TS}
def Dv:TS:=fun D σ H=>D.nx σ H
def Qu(t u:TS):TS:=fun D σ H=>t { D with nx:=u D } σ H
theorem FL:gM X [] Dv:=fun _ _ σ H _ I h=>wpAny_execs_nil ⟨σ,H,I,h⟩
theorem iU(h1:PS X st t)(h2:gM X rest u):gM X (st::rest) (Qu t u):=by
 intro pins s σ H D I h
 refine wpAny_execs_cons (be (h1 pins s σ H { D with nx:=u D } I h) fun f s1 q=>?_)
 cases f with
 | next =>
  obtain⟨σ',H',I',q⟩:=q
  exact h2 pins s1 σ' H' D I' q
 | ret v=>exact q
 | brk=>exact q
 | cont=>exact q
theorem qu(h1:PS X st t):gM X [st] t:=by
 intro pins s σ H D I h
 refine wpAny_execs_cons (be (h1 pins s σ H D I h) fun f s1 q=>?_)
 cases f with
 | next=>exact wpAny_execs_nil q
 | ret v=>exact q
 | brk=>exact q
 | cont=>exact q
def HQ:TS:=fun D σ H=>D.bk σ H
def ND:TS:=fun D σ H=>D.ct σ H
theorem FN:PS X (.Pass pos) Dv:=fun _ _ σ H _ I h=>wpAny_Pass ⟨σ,H,I,h⟩
theorem BR:PS X (.Break pos) HQ:=fun _ _ σ H _ I h=>wpAny_Break ⟨σ,H,I,h⟩
theorem vS:PS X (.Continue pos) ND:=fun _ _ σ H _ I h=>wpAny_Continue ⟨σ,H,I,h⟩
theorem Inv.quiet(I:Inv X pins σ H s):interactive X.env=false:=by simp[interactive,I.ok.kind]
def NC(te:TE):TS:=fun D σ H=>te σ H fun _ H1=>D.nx σ H1
theorem jO(he:PE X e te)(hs:swapsWith e none pos.line X.env=pure false:=by rfl):PS X (.Expr e pos) (NC te):=by
 intro pins s σ H D I h
 exact wpAny_Expr_any (be (he pins s σ H _ I h) fun v s1 ⟨x,H1,I1,r1,q1⟩=>⟨σ,H1,I1,q1⟩) I.quiet hs
def Qv(te:TE):TS:=fun D σ H=>te σ H D.rt
theorem zD(he:PE X e te):PS X (.Return (some e) pos) (Qv te):=by
 intro pins s σ H D I h
 exact wpAny_Return_some (be (he pins s σ H _ I h) fun v s1 ⟨x,H1,I1,r1,q1⟩=>⟨x,σ,H1,I1,r1,q1⟩)
def Nz:TS:=fun D _ H=>D.rt .non H
theorem FM:PS X (.Return none pos) Nz:=fun _ _ σ H _ I h=>wpAny_Return_none ⟨.non,σ,H,I,rfl,h⟩
def QA(c:TT)(t u:TS):TS:=fun D σ H=>c σ H fun b H1=>if b=true then t D σ H1 else u D σ H1
theorem DE{a b:List Stmt}(hc:PT X c tc)(ha:gM X a t)(hb:gM X b u):PS X (.If c a b pos) (QA tc t u):=by
 intro pins s σ H D I h
 refine wpAny_If (be (hc pins s σ H _ I h) fun d s1 ⟨H1,I1,q1⟩=>?_)
 cases d with
 | true=>exact ha pins s1 σ H1 D I1 q1
 | false=>exact hb pins s1 σ H1 D I1 q1
def HP:TS:=fun _ _ _=>False
theorem lJ{sts:List Stmt}:gM X sts HP:=fun _ _ _ _ _ _ h=>h.elim
end
abbrev TG:=V->St->Hp->(St->Hp->Prop)->Prop
abbrev pR:=List V->St->Hp->(St->Hp->Prop)->Prop
def PG(X:Cx)(target:Expr)(t:TG):Prop :=
 ∀(pins:List (Addr×Obj)) (s:Shared) (σ:St) (H:Hp) (v:V) (u:Value) (Q:St->Hp->Prop),Inv X pins σ H s->bo v u->t v σ H Q ->
  wpAny (model X.prog X.w) X.A (assign target X.env u) (fun _ s' => ∃σ' H',Inv X pins σ' H' s'/\Q σ' H') X.xe s
def xh(X:Cx)(ts:List Expr)(t:pR):Prop :=
 ∀(pins:List (Addr×Obj)) (s:Shared) (σ:St) (H:Hp) (vs:List V) (us:List Value) (Q:St->Hp->Prop),Inv X pins σ H s->aW vs us->t vs σ H Q ->
  wpAny (model X.prog X.w) X.A (assignInOrder ((assignEach ts X.env).map (·.2)) us) (fun _ s' => ∃σ' H',Inv X pins σ' H' s'/\Q σ' H') X.xe s
abbrev yV:=V->V->V->Hp->(Hp->Prop)->Prop
def Nn(X:Cx)(t:yV):Prop :=
 ∀(pins:List (Addr×Obj)) (s:Shared) (σ:St) (H:Hp) (o i v:V) (ov iv u:Value) (Q:Hp->Prop),Inv X pins σ H s->bo o ov->bo i iv->bo v u->t o i v H Q ->
  wpAny (model X.prog X.w) X.A (setItem ov iv u) (fun _ s' => ∃H',Inv X pins σ H' s'/\Q H') X.xe s
abbrev Nl:=V->V->Hp->VK->Prop
def Qj(X:Cx)(op:Operator)(t:Nl):Prop :=
 ∀(pins:List (Addr×Obj)) (s:Shared) (σ:St) (H:Hp) (x y:V) (v u:Value) (Q:VK),Inv X pins σ H s->bo x v->bo y u->t x y H Q ->
  wpAny (model X.prog X.w) X.A (inplaceOp op v u) (EP X pins σ Q) X.xe s
section
def D9(i:Nat):TG:=fun v σ H Q=>Q (σ.set i (some v)) H
theorem gQ(hN:X.N.Nodup)(hi:X.N[i]?=some x)(hx:vN X.env.scope x)(hf:X.fn x=true\/X.env.scope.names.lookup x=some .local:=by first|exact .inl rfl|exact .inr rfl|assumption):PG X (.Name x pos) (D9 i):=by
 intro pins s σ H v u Q I r h
 exact wpAny_assign_Name (iS I hN hi hx r (fun s' I'=>⟨_,H,I',h⟩) hf)
def WJ:pR:=fun vs σ H Q=>vs=[]/\Q σ H
def O8(t:TG)(u:pR):pR:=fun vs σ H Q => ∃v r,vs=v::r/\t v σ H fun σ' H'=>u r σ' H' Q
theorem qx:xh X [] WJ:=by
 intro pins s σ H vs us Q I r h
 obtain⟨e,h⟩:=h
 subst e
 cases r
 exact assignInOrder_nil ⟨σ,H,I,h⟩
theorem iV{t:TG}{u:pR}(h1:PG X e t)(h2:xh X es u)
  (hs:(assignEach (e::es) X.env).map (·.2)=assign e X.env::(assignEach es X.env).map (·.2):=by rfl):xh X (e::es) (O8 t u):=by
 intro pins s σ H vs us Q I r h
 obtain⟨v,vr,e1,h⟩:=h
 subst e1
 cases r with
 | cons r rr =>
  rw[hs]
  refine assignInOrder_cons (be (h1 pins s σ H _ _ _ I r h) fun _ s1 ⟨σ1,H1,I1,q1⟩=>?_)
  exact h2 pins s1 σ1 H1 _ _ Q I1 rr q1
def WH(K:W.Frag)(n:Nat)(t:pR):TG:=fun v σ H Q => ∃a xs,v=.ref a/\dh K H a xs/\xs.length=n/\t xs σ H Q
theorem oC{t:pR}(hc:X.calm=true)(h:xh X es t)
  (hn:(assignEach es X.env).length=n:=by rfl) (hst:(assignEach es X.env).findIdx? (·.1)=none:=by rfl):PG X (.Tuple es k pos) (WH X.K n t):=by
 intro pins s σ H v u Q I r hw
 obtain⟨a,xs,e1,hq,hl,hw⟩:=hw
 subst e1
 cases r
 obtain⟨its,rv,ht,hz⟩:=I.tuple hq
 refine assign_Tuple_tuple (I.ok.hd hc) ht (by simp[hn,<- hl,rv.length]) hst fun h' hx=>?_
 have I1:Inv X pins σ H { s with heap:=h' }:=I.kept (t':=s.toks) fun b o e=>hx b o (ac1 (ZS e)) e
 exact h pins _ σ H xs _ Q I1 (by simpa using rv) hw
def WI(to ti:TE)(t:yV):TG:=fun v σ H Q=>to σ H fun o H1=>ti σ H1 fun i H2=>t o i v H2 fun H3=>Q σ H3
theorem Jn{o i:Expr}{to ti:TE}{t:yV}(ho:PE X o to)(hi:PE X i ti)(hs:Nn X t)
  (ha:∀v,assign (.Subscript o i pos) X.env v=(do
   let ov <- holding [v] (eval o X.env)
   let iv <- holding [v,ov] (eval i X.env)
   standAt pos
   holding [v,ov,iv] (setItem ov iv v)
   release [v,ov,iv] []):=by intro _;rfl):PG X (.Subscript o i pos) (WI to ti t):=by
 intro pins s σ H v u Q I r h
 rw[ha]
 refine ZL (af4 (be (ho pins s σ H _ I h) fun ov s1 ⟨x,H1,I1,r1,q1⟩=>?_))
 refine ZL (af4 (be (hi pins s1 σ H1 _ I1 q1) fun iv s2 ⟨y,H2,I2,r2,q2⟩=>?_))
 refine ZL (wpAny_standAt (ZL (af4 (be (hs pins s2 σ H2 x y v ov iv u _ I2 r1 r2 r q2) fun _ s3 ⟨H3,I3,q3⟩=>?_))))
 exact wpAny_release ⟨σ,H3,I3,q3⟩
def HR(te:TE)(g:TG):TS:=fun D σ H=>te σ H fun x H1=>g x σ H1 D.nx
theorem lK{g:TG}(he:PE X e te)(hg:PG X tg g)(hs:swapsWithSole [tg] e pos.line X.env=pure false:=by rfl)(hw:swappedStores [tg] e X.env=pure none:=by rfl)
  (h1:(assignEach [tg] X.env).map (·.2)=[assign tg X.env]:=by rfl):PS X (.Assign [tg] e pos) (HR te g):=by
 intro pins s σ H D I h
 refine wpAny_Assign_stores (be (he pins s σ H _ I h) fun v s1 ⟨x,H1,I1,r1,q1⟩=>?_) hs hw
 rw[h1]
 exact be (hg pins s1 σ H1 x v _ I1 r1 q1) fun _ s2 q=>q
theorem IV(hN:X.N.Nodup)(hi:X.N[i]?=some x)(hx:vN X.env.scope x)(he:PE X e te)(hs:swapsWith e (some (.Name x pos')) pos.line X.env=pure false:=by rfl)(hf:X.fn x=true\/X.env.scope.names.lookup x=some .local:=by first|exact .inl rfl|exact .inr rfl|assumption) :
  PS X (.Assign [.Name x pos'] e pos) (HR te (D9 i)):=by
 intro pins s σ H D I h
 refine wpAny_Assign_Name (be (he pins s σ H _ I h) fun v s1 ⟨y,H1,I1,r1,q1⟩=>?_) hs
 exact iS I1 hN hi hx r1 (fun s2 I2=>⟨_,H1,I2,q1⟩) hf
def Qw(i j:Nat)(ta:TA):TS:=fun D σ H=>ta σ H fun vs H1 => ∃v w,vs=[v,w]/\D.nx ((σ.set i (some v)).set j (some w)) H1
theorem IW{y:Str}{a b:Expr}{px py pt:Pos}{kt k2 pt2}(hc:X.calm=true)(hN:X.N.Nodup)(hi:X.N[i]?=some x)(hj:X.N[j]?=some y)(hij:i≠j)
  (hx:X.env.scope.names.lookup x=some .local) (hy:X.env.scope.names.lookup y=some .local) (ha:PA X [a,b] ta)
  (hw:swappedStores [.Tuple [.Name x px,.Name y py] kt pt] (.Tuple [a,b] k2 pt2) X.env=pure (some [x,y]))
  (hs:swapsWithSole [.Tuple [.Name x px,.Name y py] kt pt] (.Tuple [a,b] k2 pt2) pos.line X.env=pure false:=by rfl) :
  PS X (.Assign [.Tuple [.Name x px,.Name y py] kt pt] (.Tuple [a,b] k2 pt2) pos) (Qw i j ta):=by
 intro pins s σ H D I h
 rw[exec_Assign_arm]
 refine ZL (wpAny_standAt ?_)
 rw[hs]
 refine ZL (ZO ?_)
 rw[if_neg (by decide)]
 refine ZL (Tuple_ (be (ha _ pins s σ H _ I h) fun us s1 ⟨vs,H1,I1,r1,q1⟩=>?_))
 obtain⟨v,w,e1,q1⟩:=q1
 subst e1
 obtain⟨u1,u2,rfl,rv,rw'⟩:∃u1 u2,us=[u1,u2]/\bo v u1/\bo w u2:=by
  cases r1 with
  | cons p q =>
   cases q with
   | cons p' q' =>
    cases q'
    exact⟨_,_,rfl,p,p'⟩
 refine ag4 ?_ (by show 2<=sizeLine;decide)
 have I2:Inv X pins σ H1 { s1 with heap:=s1.heap.push { cls:=.type "tuple", data:=.seq [u1,u2].toArray } }:=I1.kept (t':=s1.toks) fun b o e=>ZM _ e
 rw[hw]
 refine ZL (ZO ?_)
 show wpAny (model X.prog X.w) X.A (do rule "assign.swapped-stores"; let items <- unpackItems (.ref s1.heap.objs.size) 2 none;assignInOrder [fun v=>bindName X.env y v,fun v=>bindName X.env x v] items.reverse;pure Flow.next) _ _ _
 refine ZL (wpAny_rule (ZL (unpackItems_tuple (items:=#[u1,u2]) (I.ok.hd hc) (IsTup.new s1.heap _) fun h' hx'=>?_)))
 have I3:=I2.kept (h':=h') (t':=s1.toks) fun b o e=>hx' b o (ac1 (ZS e)) e
 show wpAny _ _ (assignInOrder [fun v=>bindName X.env y v,fun v=>bindName X.env x v] [u2,u1] >>= fun _=>pure Flow.next) _ _ _
 refine ZL (assignInOrder_cons (wpAny_bindName (iS I3 hN hj (.inl hy) rw' (fun s2 I4=>?_) (.inr hy))))
 refine assignInOrder_cons (wpAny_bindName (iS I4 hN hi (.inl hx) rv (fun s3 I5=>assignInOrder_nil (ZO ?_)) (.inr hx)))
 rw[List.set_comm _ _ (ai0 hij)]at I5
 exact⟨_,H1,I5,q1⟩
def QE(i:Nat)(te:TE)(ti:Nl):TS:=fun D σ H => ∃x,σ[i]?=some (some x)/\te σ H fun y H1=>ti x y H1 fun z H2=>D.nx (σ.set i (some z)) H2
theorem IY{op:Operator}{ti:Nl}(hN:X.N.Nodup)(hi:X.N[i]?=some x)(hx:vN X.env.scope x)(he:PE X e te)(ho:Qj X op ti)(hf:X.fn x=true\/X.env.scope.names.lookup x=some .local:=by first|exact .inl rfl|exact .inr rfl|assumption) :
  PS X (.AugAssign (.Name x pos') op e pos) (QE i te ti):=by
 intro pins s σ H D I h
 obtain⟨v,e1,h⟩:=h
 obtain⟨m,hn,hl⟩:=I.loc
 have vis:gB X.env.scope x:=by rcases hx with k|k;exact .inl k;exact .inr (.inl k)
 obtain⟨u,r,l⟩:=hl i x v hi e1 vis
 refine wpAny_AugAssign_Name ?_
 have go:wpAny (model X.prog X.w) X.A (eval e X.env) (fun w s₂=>wpAny (model X.prog X.w) X.A (inplaceOp op u w) (fun r s₃=>wpAny (model X.prog X.w) X.A (storeName X.env x r) (fun _=>SP X pins D .next) X.xe s₃) X.xe s₂) X.xe s:=by
  refine be (he pins s σ H _ I h) fun w s1 ⟨y,H1,I1,r1,q1⟩=>?_
  refine be (ho pins s1 σ H1 v y u w _ I1 r r1 q1) fun z s2 ⟨zv,H2,I2,r2,q2⟩=>?_
  exact iS I2 hN hi hx r2 (fun s3 I3=>⟨_,H2,I3,q2⟩) hf
 rcases l with⟨hk,hm⟩|⟨hk,c,hc,hcell⟩
 ·exact wpAny_loadName_local I.ok.kind hk hn hm go
 ·rcases hk with hk|hk
  ·exact wpAny_loadName_cell I.ok.kind hk hc hcell go
  ·rcases hx with k|k
   ·have:X.env.scope.names.lookup x=some .free:=hk
    rw[k]at this;cases this
   ·have:X.env.scope.names.lookup x=some .free:=hk
    rw[k]at this;cases this
end
section
def HM(c:TT)(tb:TS):TS:=fun D σ H => ∃W:Nat->St->Hp->Prop,(∃m,W m σ H)/\∀m σ H,W m σ H ->
 c σ H fun b H1=>if b=true then ∃N:St->Hp->Prop,(∀σ' H',N σ' H'->∃m',m' < m/\W m' σ' H')/\tb { D with nx:=N,ct:=N,bk:=D.nx } σ H1 else D.nx σ H1
theorem BQ(hp:PassesOwn (model X.prog X.w) X.A X.env X.xe)(hc:PT X c tc)(hb:gM X body tb):PS X (.While c body [] pos) (HM tc tb):=by
 intro pins s σ H D I h
 obtain⟨W,⟨m0,w0⟩,turn⟩:=h
 refine wpAny_While (codeAny_whileLoop (fun n s' => ∃σ' H',Inv X pins σ' H' s'/\W n σ' H') ?_ m0 ⟨σ,H,I,w0⟩)
 rintro n s1 ⟨σ1,H1,I1,w1⟩
 refine ai1 hp (be (hc pins s1 σ1 H1 _ I1 (turn n σ1 H1 w1)) fun b s2 ⟨H2,I2,q2⟩=>?_)
 cases b with
 | true =>
  obtain⟨N,hN,q2⟩:=q2
  rw[if_pos rfl]
  refine ai1 hp (be (hb pins s2 σ1 H2 _ I2 q2) fun f s3 q3=>?_)
  cases f with
  | next =>
   obtain⟨σ3,H3,I3,n3⟩:=q3
   obtain⟨m',hm,w3⟩:=hN σ3 H3 n3
   exact⟨m',hm,σ3,H3,I3,w3⟩
  | cont =>
   obtain⟨σ3,H3,I3,n3⟩:=q3
   obtain⟨m',hm,w3⟩:=hN σ3 H3 n3
   exact⟨m',hm,σ3,H3,I3,w3⟩
  | brk=>exact q3
  | ret v=>exact q3
 | false =>
  rw[if_neg aa8]
  exact wpAny_execs_nil ⟨σ1,H2,I2,q2⟩
end
structure It where
 go:Nat->Hp->Prop
 yld:Nat->Hp->V->Hp->Prop
 stop:Nat->Hp->Prop
def hJ(X:Cx)(pins:List (Addr×Obj))(H:Hp)(b:Addr):Prop :=
 H b=none/\b≠X.env.locals/\b∉X.fs/\(b∈X.ex\/X.s₀.heap.objs.size<=b)/\(∀x c,X.env.cells.lookup x=some c->c≠b)/\∀p∈X.pn++pins,p.1≠b
theorem Inv.fpOk{H':Hp}(I:Inv X pins σ H s)(hb:s.heap.objs.size<=b)(hn:H' b=none):hJ X pins H' b:=by
 refine⟨hn,ag2 (ZW I.lt hb),I.nofs hb,.inr (ZN I.sz hb),fun x c e z=>?_,fun p hp z=>?_⟩
 ·obtain⟨v,q⟩:=I.cell x c e
  exact absurd (ZW q.lt (by rw[z];exact hb)) (ac7 _)
 ·exact absurd (ZW (ZS (I.pin p hp).1) (by rw[z];exact hb)) (ac7 _)
structure Turn(P:Program)(w:World)(K:W.Frag)(tg:Expr)(J:It)(fp:List Addr)(it:Addr)(tn:Nat->Heap->Prop):Prop where
 mem:it∈fp
 obj:∀i h,tn i h->∀b∈fp,∃o,h.get? b=some o/\∀v,o.data ≠ .cell v
 keep:∀i h h',tn i h->(∀b∈fp,∀o,h.get? b=some o->h'.get? b=some o)->tn i h'
 item:∀(X:Cx),X.prog=P->X.w=w->X.K=K->X.calm=true->∀(i:Nat) (pins:List (Addr×Obj)) (s:Shared) (σ:St) (H:Hp) (E:Value->Shared->Prop),Inv X pins σ H s->(∀b∈fp,hJ X pins H b)->tn i s.heap->J.go i H ->
  wpAny (model P w) X.A (pyNext (.ref it)) (fun r s1 => ∃u,r=some u /\
   wpAny (model P w) X.A (letOwnedTupleGo tg (.ref it) u) (fun _ s2 => ∃x H',Inv X pins σ H' s2/\bo x u/\J.yld i H x H'/\tn (i+1) s2.heap/\∀b∈fp,H' b=none) E s1) E s
 done:∀(X:Cx),X.prog=P->X.w=w->X.K=K->X.calm=true->∀(i:Nat) (pins:List (Addr×Obj)) (s:Shared) (σ:St) (H:Hp) (E:Value->Shared->Prop),Inv X pins σ H s->(∀b∈fp,hJ X pins H b)->tn i s.heap->J.stop i H ->
  wpAny (model P w) X.A (pyNext (.ref it)) (fun r s1=>r=none/\Inv X pins σ H s1) E s
 self:∀(A:Around) (i:Nat) (s:Shared) (Q:Value->Shared->Prop) (E:Value->Shared->Prop),tn i s.heap->Q (.ref it) s->wpAny (model P w) A (pyIter (.ref it)) Q E s
abbrev TI:=St->Hp->(It->Hp->Prop)->Prop
def No(X:Cx)(pins:List (Addr×Obj))(σ:St)(tg:Expr)(R:It->Hp->Prop)(itv:Value)(s2:Shared):Prop :=
 ∃(it:Addr) (fp:List Addr) (tn:Nat->Heap->Prop) (J:It) (H':Hp),itv=.ref it/\Inv X pins σ H' s2/\Turn X.prog X.w X.K tg J fp it tn/\tn 0 s2.heap/\(∀b∈fp,hJ X pins H' b)/\R J H'
def PI(X:Cx)(tg iter:Expr)(wi:TI):Prop :=
 ∀(pins:List (Addr×Obj)) (s:Shared) (σ:St) (H:Hp) (R:It->Hp->Prop),Inv X pins σ H s->wi σ H R ->
  wpAny (model X.prog X.w) X.A (eval iter X.env) (fun v s1=>wpAny (model X.prog X.w) X.A (pyIter v) (No X pins σ tg R) X.xe s1) X.xe s
theorem tm{n:String}{vs:Array Value}{Q:Unit->Shared->Prop}(ho:s.heap.get? it=some o)(hc:o.cls=.type n)(hd:o.data=.fields vs)
    (hn:["enumerate", "zip", "dict_itemiterator", "dict_reverseitemiterator", "odict_iterator", "itertools.zip_longest", "itertools.pairwise"].contains n=false) (hQ:Q () s):wpAny M A (letOwnedTupleGo tg (.ref it) u) Q E s:=by
  unfold letOwnedTupleGo
  cases tg<;>first
    | exact ZO hQ
    | (cases u<;>first
        | exact ZO hQ
        | (refine ZL (wpAny_load ho ?_)
           rw[hc,hd]
           show wpAny M A (if (["enumerate", "zip", "dict_itemiterator", "dict_reverseitemiterator", "odict_iterator", "itertools.zip_longest", "itertools.pairwise"].contains n&&vs[0]? == some (rawInt _))=true then _ else _) Q E s
           rw[if_neg (by intro h;rw[hn,Bool.false_and]at h;cases h)]
           exact ZO hQ))
def Qn(K:W.Frag)(a:Addr):It :=
 ⟨fun i H => ∃xs x,de K H a xs/\xs[i]?=some x,fun i H x H'=>H'=H/\∀xs,de K H a xs->xs[i]?=some x,fun i H => ∃xs,de K H a xs/\xs.length<=i⟩
def Ql(K:W.Frag)(a:Addr):It :=
 ⟨fun i H => ∃xs x,dh K H a xs/\xs[i]?=some x,fun i H x H'=>H'=H/\∀xs,dh K H a xs->xs[i]?=some x,fun i H => ∃xs,dh K H a xs/\xs.length<=i⟩
def Er(lo:Int)(n:Nat):It:=⟨fun i _=>i<n,fun i H x H'=>H'=H/\x=.int (lo+i),fun i _=>n<=i⟩
theorem zh(a it:Addr):Turn P w K tg (Qn K a) [it] it (fun i h=>h.IsListIter it a i) where
 mem:=by simp
 obj:=fun i h st b hb=>by
  have e:b=it:=by simpa using hb
  subst e
  obtain⟨o,e,c,d⟩:=st
  exact⟨o,e,fun v z=>by rw[d]at z;cases z⟩
 keep:=fun i h h' st k=>st.at fun o e=>k it (by simp) o e
 item:=by
  intro X hP hw hK hc i pins s σ H E I hf st hg
  subst hP hw hK
  obtain⟨xs,x,hq,hx⟩:=hg
  obtain⟨its,rv,p,hz⟩:=I.list hq
  obtain⟨u,hu,ru⟩:=rv.get hx
  obtain⟨f0,f1,f2,f3,f4,f5⟩:=hf it (by simp)
  refine wpAny_pyNext_list_item st p.isList (x:=u) (by simpa using hu) fun h' st' sb=>?_
  have I1:Inv X pins σ H { s with heap:=h' }:=I.turned (t':=s.toks) (fun b o hb e=>(sb.2 b hb).trans e) f0 f1 f3 f4 f5
  obtain⟨o,e,c,d⟩:=id st'
  exact⟨u,rfl,tm (s:={ s with heap:=h' }) e c d (by decide) ⟨x,H,I1,ru,⟨rfl,fun ys hy=>by rw[I.list_inj hy hq];exact hx⟩,st',fun b hb=>(hf b hb).1⟩⟩
 done:=by
  intro X hP hw hK hc i pins s σ H E I hf st hg
  subst hP hw hK
  obtain⟨xs,hq,hx⟩:=hg
  obtain⟨its,rv,p,hz⟩:=I.list hq
  obtain⟨f0,f1,f2,f3,f4,f5⟩:=hf it (by simp)
  have hl:=rv.length
  exact wpAny_pyNext_list_end (I.ok.hd hc) st p.isList (by simp;omega) fun h' eb=>⟨rfl,I.turned (t':=s.toks) (fun b o hb e=>eb b o hb e) f0 f1 f3 f4 f5⟩
 self:=fun _ _ _ _ _ st h=>wpAny_pyIter_listiter st h
theorem xo(a it:Addr):Turn P w K tg (Ql K a) [it] it (fun i h=>h.IsTupleIter it a i) where
 mem:=by simp
 obj:=fun i h st b hb=>by
  have e:b=it:=by simpa using hb
  subst e
  obtain⟨o,e,c,d⟩:=st
  exact⟨o,e,fun v z=>by rw[d]at z;cases z⟩
 keep:=fun i h h' st k=>st.at fun o e=>k it (by simp) o e
 item:=by
  intro X hP hw hK hc i pins s σ H E I hf st hg
  subst hP hw hK
  obtain⟨xs,x,hq,hx⟩:=hg
  obtain⟨its,rv,p,hz⟩:=I.tuple hq
  obtain⟨u,hu,ru⟩:=rv.get hx
  obtain⟨f0,f1,f2,f3,f4,f5⟩:=hf it (by simp)
  refine wpAny_pyNext_tuple_item st (show s.heap.IsTuple a its.toArray from p) (x:=u) (by simpa using hu) fun h' st' sb=>?_
  have I1:Inv X pins σ H { s with heap:=h' }:=I.turned (t':=s.toks) (fun b o hb e=>(sb.2 b hb).trans e) f0 f1 f3 f4 f5
  obtain⟨o,e,c,d⟩:=id st'
  exact⟨u,rfl,tm (s:={ s with heap:=h' }) e c d (by decide) ⟨x,H,I1,ru,⟨rfl,fun ys hy=>by rw[I.tuple_inj hy hq];exact hx⟩,st',fun b hb=>(hf b hb).1⟩⟩
 done:=by
  intro X hP hw hK hc i pins s σ H E I hf st hg
  subst hP hw hK
  obtain⟨xs,hq,hx⟩:=hg
  obtain⟨its,rv,p,hz⟩:=I.tuple hq
  obtain⟨f0,f1,f2,f3,f4,f5⟩:=hf it (by simp)
  have hl:=rv.length
  exact wpAny_pyNext_tuple_end (I.ok.hd hc) st (show s.heap.IsTuple a its.toArray from p) (by simp;omega) fun h' eb=>⟨rfl,I.turned (t':=s.toks) (fun b o hb e=>eb b o hb e) f0 f1 f3 f4 f5⟩
 self:=fun _ _ _ _ _ st h=>wpAny_pyIter_tupleiter st h
theorem xp(it:Addr)(lo:Int)(n:Nat):Turn P w K tg (Er lo n) [it] it (fun i h=>IsRangeIter h it (lo+(i:Nat)*1) ((n:Int)-(i:Nat)) 1) where
 mem:=by simp
 obj:=fun i h st b hb=>by
  have e:b=it:=by simpa using hb
  subst e
  exact⟨_,st,fun v z=>by
   have z':Data.fields _=Data.cell v:=z
   cases z'⟩
 keep:=fun i h h' st k=>k it (by simp) _ st
 item:=by
  intro X hP hw hK hc i pins s σ H E I hf st hg
  subst hP hw hK
  obtain⟨f0,f1,f2,f3,f4,f5⟩:=hf it (by simp)
  have W:=Walks.range (prog:=X.prog) (w:=X.w) (I.ok.hd hc) it lo 1 n
  refine W.item i s _ _ hg st fun v h' tk hv st' kk=>?_
  obtain⟨t,rfl⟩:=hv
  have I1:Inv X pins σ H { s with heap:=h',toks:=tk }:=I.turned (fun b o hb e=>kk b o (by simpa using hb) e) f0 f1 f3 f4 f5
  refine⟨_,rfl,tm (s:={ s with heap:=h',toks:=tk }) (n := "range_iterator") st' rfl rfl (by decide) ⟨.int (lo+i),H,I1,⟨t,?_⟩,⟨rfl,rfl⟩,st',fun b hb=>(hf b hb).1⟩⟩
  rw[al9]
 done:=by
  intro X hP hw hK hc i pins s σ H E I hf st hg
  subst hP hw hK
  obtain⟨f0,f1,f2,f3,f4,f5⟩:=hf it (by simp)
  exact wpAny_pyNext_range_end (I.ok.hd hc) st (by have:n<=i:=hg;omega) fun h' eb=>⟨rfl,I.turned (t':=s.toks) (fun b o hb e=>eb b o hb e) f0 f1 f3 f4 f5⟩
 self:=fun _ _ _ _ _ st h=>wpAny_pyIter_rangeiter st h
section
def OZ(K:W.Frag)(tl:TE):TI:=fun σ H R=>tl σ H fun x H1 => ∃a,x=.ref a/\(∃xs,de K H1 a xs)/\R (Qn K a) H1
def WG(K:W.Frag)(tl:TE):TI:=fun σ H R=>tl σ H fun x H1 => ∃a,x=.ref a/\(∃xs,dh K H1 a xs)/\R (Ql K a) H1
theorem FV(hl:PE X l tl):PI X tg l (OZ X.K tl):=by
 intro pins s σ H R I h
 refine be (hl pins s σ H _ I h) fun v s1 ⟨x,H1,I1,r1,q1⟩=>?_
 obtain⟨a,e,⟨xs,hq⟩,q⟩:=q1
 subst e
 cases r1
 obtain⟨its,rv,p,hz⟩:=I1.list hq
 refine ah2 p.isList ?_
 refine⟨s1.heap.objs.size,[s1.heap.objs.size],_,_,H1,rfl,I1.kept (t':=s1.toks) fun b o e=>ZM _ e,zh a _,⟨_,ZQ _ rfl,rfl,rfl⟩,fun b hb=>?_,q⟩
 have e:b=s1.heap.objs.size:=by simpa using hb
 subst e
 exact I1.fpOk (ZP _) (I1.hok.fresh (ZP _))
theorem Jm(hl:PE X l tl):PI X tg l (WG X.K tl):=by
 intro pins s σ H R I h
 refine be (hl pins s σ H _ I h) fun v s1 ⟨x,H1,I1,r1,q1⟩=>?_
 obtain⟨a,e,⟨xs,hq⟩,q⟩:=q1
 subst e
 cases r1
 obtain⟨its,rv,p,hz⟩:=I1.tuple hq
 refine ag7 (show s1.heap.IsTuple a its.toArray from p) ?_
 refine⟨s1.heap.objs.size,[s1.heap.objs.size],_,_,H1,rfl,I1.kept (t':=s1.toks) fun b o e=>ZM _ e,xo a _,⟨_,ZQ _ rfl,rfl,rfl⟩,fun b hb=>?_,q⟩
 have e:b=s1.heap.objs.size:=by simpa using hb
 subst e
 exact I1.fpOk (ZP _) (I1.hok.fresh (ZP _))
theorem uj{R:It->Hp->Prop}{lo hi:Int}{t u v:Tok}{tk:Nat}(I:Inv X pins σ H s)(h1:-(2 ^ 62)<=lo)(h2:lo<2 ^ 62)(h3:-(2 ^ 62)<=hi)(h4:hi<2 ^ 62)
  (q:R (Er lo (hi-lo).toNat) H):wpAny (model X.prog X.w) X.A (pyIter (.ref s.heap.objs.size)) (No X pins σ tg R) E { s with heap:=s.heap.push { cls:=.type "range", data:=.fields #[.int lo t,.int hi u,.int 1 v] },toks:=tk }:=by
 refine wpAny_pyIter_range (IsRange.new ..) (small_one h1 h2 h3 h4) ?_
 have I1:Inv X pins σ H { s with heap:=s.heap.push { cls:=.type "range", data:=.fields #[.int lo t,.int hi u,.int 1 v] },toks:=tk }:=I.kept fun b o e=>ZM _ e
 refine⟨(s.heap.push { cls:=.type "range", data:=.fields #[.int lo t,.int hi u,.int 1 v] }).objs.size,[(s.heap.push { cls:=.type "range", data:=.fields #[.int lo t,.int hi u,.int 1 v] }).objs.size],_,_,H,rfl,
  I1.kept (t':=tk) fun b o e=>ZM _ e,xp _ lo (hi-lo).toNat,?_,fun b hb=>?_,q⟩
 ·have e1:lo+((0:Nat):Int)*1=lo:=by simp
  have e2:(((hi-lo).toNat:Nat):Int)-((0:Nat):Int)=Builtin.Range.rangeSize lo hi 1:=by rw[rangeSize_one];split<;>omega
  show IsRangeIter _ _ (lo+((0:Nat):Int)*1) ((((hi-lo).toNat:Nat):Int)-((0:Nat):Int)) 1
  rw[e1,e2]
  exact ZQ _ rfl
 ·have e:b=(s.heap.push { cls:=.type "range", data:=.fields #[.int lo t,.int hi u,.int 1 v] }).objs.size:=by simpa using hb
  subst e
  exact I1.fpOk (ZP _) (I1.hok.fresh (ZP _))
def OY(ta:TA):TI:=fun σ H R=>ta σ H fun vs H1 => ∃j:Int,vs=[.int j] /\ -(2 ^ 62)<=j/\j<2 ^ 62/\R (Er 0 j.toNat) H1
def OX(ta:TA):TI:=fun σ H R=>ta σ H fun vs H1 => ∃i j:Int,vs=[.int i,.int j]/\(-(2 ^ 62)<=i/\i<2 ^ 62 /\ -(2 ^ 62)<=j/\j<2 ^ 62)/\R (Er i (j-i).toNat) H1
theorem zL{a:Expr}(hg:Gl X "range")(hm:X.mg "range" = none)(ha:PA X [a] ta)(hs:starEach [a] X.env=[(false,eval a X.env)]:=by rfl):PI X tg (.Call (.Name "range" p) [a] [] pos) (OY ta):=by
 intro pins s σ H R I h
 refine Call_ (gw I hg hm boot_range (ae9 (be (ha pos pins s σ H _ I h) fun us s1 ⟨vs,H1,I1,r1,q1⟩=>?_) hs rfl))
 obtain⟨j,e,q1,q2,q⟩:=q1
 subst e
 cases r1 with
 | cons r rr =>
  cases rr
  obtain⟨t,rfl⟩:=r
  exact call_range_1 (uj I1 (by omega) (by omega) q1 q2 (by simpa using q))
theorem zK{a b:Expr}(hg:Gl X "range")(hm:X.mg "range" = none)(ha:PA X [a,b] ta)(hs:starEach [a,b] X.env=[(false,eval a X.env),(false,eval b X.env)]:=by rfl)(hs2:starEach [b] X.env=[(false,eval b X.env)]:=by rfl) :
  PI X tg (.Call (.Name "range" p) [a,b] [] pos) (OX ta):=by
 intro pins s σ H R I h
 refine Call_ (gw I hg hm boot_range (ae9 (be (ha pos pins s σ H _ I h) fun us s1 ⟨vs,H1,I1,r1,q1⟩=>?_) (by rw[hs,hs2]) (by rw[hs2];rfl)))
 obtain⟨i,j,e,⟨q1,q2,q3,q4⟩,q⟩:=q1
 subst e
 cases r1 with
 | cons r rr =>
  cases rr with
  | cons r' rr =>
   cases rr
   obtain⟨t,rfl⟩:=r
   obtain⟨t',rfl⟩:=r'
   exact call_range_2 (uj I1 q1 q2 q3 q4 q)
def QB(wi:TI)(g:TG)(tb:TS):TS:=fun D σ H=>wi σ H fun J H1 => ∃W:Nat->Nat->St->Hp->Prop,(∃m,W 0 m σ H1)/\∀i m σ H,W i m σ H ->
 (J.stop i H/\D.nx σ H)\/(J.go i H/\∃N:St->Hp->Prop,(∀σ' H',N σ' H'->∃m',m' < m/\W (i+1) m' σ' H')/\∀x H',J.yld i H x H'->g x σ H' fun σ2 H2=>tb { D with nx:=N,ct:=N,bk:=D.nx } σ2 H2)
def lL(fp:List Addr)(h:Heap):List (Addr×Obj):=fp.filterMap fun b=>(h.get? b).map fun o=>(b,o)
theorem iK(hb:b∈fp)(e:h.get? b=some o):(b,o)∈lL fp h:=List.mem_filterMap.mpr ⟨b,hb,by rw[e];rfl⟩
theorem zR{p:Addr×Obj}(hp:p∈lL fp h):p.1∈fp/\h.get? p.1=some p.2:=by
 obtain⟨b,hb,e⟩:=List.mem_filterMap.mp hp
 cases q:h.get? b with
 | none=>rw[q]at e;cases e
 | some o =>
  rw[q]at e
  have e':(b,o)=p:=ad5 e
  subst e'
  exact⟨hb,q⟩
theorem Inv.pinned(I:Inv X pins σ H s)(hf:∀b∈fp,hJ X pins H b)(ho:∀b∈fp,∃o,s.heap.get? b=some o/\∀v,o.data ≠ .cell v):Inv X (pins++lL fp s.heap) σ H s :=
 I.pins_of fun p hp=>(List.mem_append.mp hp).elim (fun z=>I.pin p (ac2 _ z)) fun z=>by
  obtain⟨hb,e⟩:=zR z
  obtain⟨f0,f1,f2,_⟩:=hf p.1 hb
  obtain⟨o,e',d⟩:=ho p.1 hb
  rw[e]at e';cases e'
  exact⟨e,f0,f1,f2,d⟩
theorem Inv.unpinned{pl:List (Addr×Obj)}(I:Inv X (pins++pl) σ H s):Inv X pins σ H s:=I.pins_of fun p hp=>I.pin p (ac2 _ (List.mem_append_left _ hp))
theorem zE{iter:Expr}{wi:TI}{g:TG}(hp:PassesOwn (model X.prog X.w) X.A X.env X.xe)(hc:X.calm=true)(hi:PI X tg iter wi)(hg:PG X tg g)(hb:gM X body tb)
  (hs:∀x,foldedSetIterable iter X.env x=pure x:=by intro _;rfl):PS X (.For tg iter body [] pos) (QB wi g tb):=by
 intro pins s σ H D I h
 refine wpAny_For (be (hi pins s σ H _ I h) fun v s1 h1=>be h1 fun itv s2 h2=>?_) hs
 obtain⟨it,fp,tn,J,H2,e,I2,T,st2,f2,W,⟨m0,w0⟩,turn⟩:=h2
 subst e
 have stat:∀{H':Hp},(∀b∈fp,H' b=none)->∀b∈fp,hJ X pins H' b:=fun hn b hb=>⟨hn b hb,(f2 b hb).2⟩
 refine codeAny_forLoop_any (fun n s' => ∃i σ' H',Inv X pins σ' H' s'/\tn i s'.heap/\(∀b∈fp,H' b=none)/\W i n σ' H') ?_ m0 ⟨0,σ,H2,I2,st2,fun b hb=>(f2 b hb).1,w0⟩
 rintro n s3 ⟨i,σ3,H3,I3,st3,fr3,w3⟩
 rcases turn i n σ3 H3 w3 with⟨stop,qn⟩|⟨go,N,hN,step⟩
 ·refine ai1 hp (be (T.done X rfl rfl rfl hc i pins s3 σ3 H3 X.xe I3 (stat fr3) st3 stop) fun r s4 ⟨hr,I4⟩=>?_)
  subst hr
  exact wpAny_execs_nil ⟨σ3,H3,I4,qn⟩
 ·refine ai1 hp (be (T.item X rfl rfl rfl hc i pins s3 σ3 H3 X.xe I3 (stat fr3) st3 go) fun r s4 ⟨u,hr,h4⟩=>?_)
  subst hr
  refine ai1 hp (be h4 fun _ s5 ⟨x,H5,I5,r5,y5,st5,fr5⟩=>?_)
  have I5':=I5.pinned (stat fr5) (T.obj _ _ st5)
  refine ai1 hp (be (hg _ s5 σ3 H5 x u _ I5' r5 (step x H5 y5)) fun _ s6 ⟨σ6,H6,I6,q6⟩=>?_)
  refine ai1 hp (be (hb _ s6 σ6 H6 _ I6 q6) fun f s7 q7=>?_)
  have again:∀{σ7:St} {H7:Hp},Inv X (pins++lL fp s5.heap) σ7 H7 s7->N σ7 H7->∃m,m<n/\∃i σ' H',Inv X pins σ' H' s7/\tn i s7.heap/\(∀b∈fp,H' b=none)/\W i m σ' H':=fun {σ7 H7} I7 n7=>by
   obtain⟨m',hm,w7⟩:=hN σ7 H7 n7
   refine⟨m',hm,i+1,σ7,H7,I7.unpinned,T.keep _ _ _ st5 fun b hb o e=>(I7.pin (b,o) (ac2 _ (ac2 _ (iK hb e)))).1,fun b hb=>?_,w7⟩
   obtain⟨o,e,d⟩:=T.obj _ _ st5 b hb
   exact(I7.pin (b,o) (ac2 _ (ac2 _ (iK hb e)))).2.1
  cases f with
  | next=>obtain⟨σ7,H7,I7,n7⟩:=q7;exact again I7 n7
  | cont=>obtain⟨σ7,H7,I7,n7⟩:=q7;exact again I7 n7
  | brk=>obtain⟨σ7,H7,I7,q7⟩:=q7;exact⟨σ7,H7,I7.unpinned,q7⟩
  | ret v=>obtain⟨x7,σ7,H7,I7,r7,q7⟩:=q7;exact⟨x7,σ7,H7,I7.unpinned,r7,q7⟩
end
abbrev R2:=V->V->Hp->VK->Prop
def dD(X:Cx)(f:Value->Value->Sem Value)(r:R2):Prop :=
 ∀(pins:List (Addr×Obj)) (s:Shared) (σ:St) (H:Hp) (x y:V) (v u:Value) (Q:VK),Inv X pins σ H s->bo x v->bo y u->r x y H Q ->
  wpAny (model X.prog X.w) X.A (f v u) (EP X pins σ Q) X.xe s
def Nk(X:Cx)(f:Value->Sem Value)(r:V->Hp->VK->Prop):Prop :=
 ∀(pins:List (Addr×Obj)) (s:Shared) (σ:St) (H:Hp) (x:V) (v:Value) (Q:VK),Inv X pins σ H s->bo x v->r x H Q ->
  wpAny (model X.prog X.w) X.A (f v) (EP X pins σ Q) X.xe s
def dN(X:Cx)(f:Value)(r:List V->Hp->VK->Prop):Prop :=
 ∀(pins:List (Addr×Obj)) (s:Shared) (σ:St) (H:Hp) (xs:List V) (us:List Value) (Q:VK),Inv X pins σ H s->aW xs us->r xs H Q ->
  wpAny (model X.prog X.w) X.A (call f us) (EP X pins σ Q) X.xe s
def HN(r:R2)(ta tb:TE):TE:=fun σ H Q=>ta σ H fun x H1=>tb σ H1 fun y H2=>r x y H2 Q
def Zv(r:V->Hp->VK->Prop)(ta:TE):TE:=fun σ H Q=>ta σ H fun x H1=>r x H1 Q
def rI(C:Int->Int->Prop)(g:Int->Int->V):R2:=fun x y H Q => ∃i j,x=.int i/\y=.int j/\C i j/\Q (g i j) H
def lh(g:Int->Int->V):R2:=fun x y H Q => ∃i j,x=.int i/\y=.int j/\Q (g i j) H
def rU(g:Int->V):V->Hp->VK->Prop:=fun x H Q => ∃i,x=.int i/\Q (g i) H
section
variable{a b:Expr}{ta tb tc:TE}
theorem MT(ha:PE X a ta)(hb:PE X b tb)(I:Inv X pins σ H s)
  (h:ta σ H fun x H1=>tb σ H1 fun y H2=>R x y H2)
  (hf:∀v u s2 x y H2,Inv X pins σ H2 s2->bo x v->bo y u->R x y H2->wpAny (model X.prog X.w) X.A (f v u) Q X.xe s2) :
  wpAny (model X.prog X.w) X.A (eval a X.env) (fun v s₁=>wpAny (model X.prog X.w) X.A (eval b X.env) (fun u s₂=>wpAny (model X.prog X.w) X.A (f v u) Q X.xe s₂) X.xe s₁) X.xe s:=by
 refine be (ha pins s σ H _ I h) fun v s1 ⟨x,H1,I1,r1,q1⟩=>?_
 refine be (hb pins s1 σ H1 _ I1 q1) fun u s2 ⟨y,H2,I2,r2,q2⟩=>?_
 exact hf v u s2 x y H2 I2 r1 r2 q2
theorem N5{op:Operator}{r:R2}(ho:dD X (binaryOp op) r)(ha:PE X a ta)(hb:PE X b tb):PE X (.BinOp a op b pos) (HN r ta tb):=by
 intro pins s σ H Q I h
 exact wpAny_BinOp (MT ha hb I h fun v u s2 x y H2 I2 rx ry q=>ho pins s2 σ H2 x y v u Q I2 rx ry q)
theorem N3{op:UnaryOp}{r:V->Hp->VK->Prop}(ho:Nk X (unaryOp op) r)(ha:PE X a ta):PE X (.UnaryOp op a pos) (Zv r ta):=by
 intro pins s σ H Q I h
 exact UnaryOp_ (be (ha pins s σ H _ I h) fun v s1 ⟨x,H1,I1,r1,q1⟩=>ho pins s1 σ H1 x v Q I1 r1 q1)
theorem wG{C:Int->Int->Prop}
  (rule:∀(i j:Int) (t u:Tok) (s:Shared) (Q:Value->Shared->Prop) (E:Value->Shared->Prop),C i j->Q (.int (g i j) s.toks) { s with toks:=s.toks+1 }->wpAny (model X.prog X.w) X.A (f (.int i t) (.int j u)) Q E s) :
  dD X f (rI C fun i j=>.int (g i j)):=by
 intro pins s σ H x y v u Q I rx ry h
 obtain⟨i,j,rfl,rfl,hc,q⟩:=h
 obtain⟨t,rfl⟩:=rx
 obtain⟨t',rfl⟩:=ry
 exact rule i j t t' s _ _ hc ⟨.int (g i j),H,I.tok _,⟨_,rfl⟩,q⟩
theorem xV
  (rule:∀(i j:Int) (t u:Tok) (s:Shared) (Q:Value->Shared->Prop) (E:Value->Shared->Prop),Q (.int (g i j) s.toks) { s with toks:=s.toks+1 }->wpAny (model X.prog X.w) X.A (f (.int i t) (.int j u)) Q E s) :
  dD X f (lh fun i j=>.int (g i j)):=by
 intro pins s σ H x y v u Q I rx ry h
 obtain⟨i,j,rfl,rfl,q⟩:=h
 obtain⟨t,rfl⟩:=rx
 obtain⟨t',rfl⟩:=ry
 exact rule i j t t' s _ _ ⟨.int (g i j),H,I.tok _,⟨_,rfl⟩,q⟩
theorem xW{g:Int->Int->Bool}
  (rule:∀(i j:Int) (t u:Tok) (s:Shared) (Q:Value->Shared->Prop) (E:Value->Shared->Prop),Q (.bool (g i j)) s->wpAny (model X.prog X.w) X.A (f (.int i t) (.int j u)) Q E s) :
  dD X f (lh fun i j=>.bl (g i j)):=by
 intro pins s σ H x y v u Q I rx ry h
 obtain⟨i,j,rfl,rfl,q⟩:=h
 obtain⟨t,rfl⟩:=rx
 obtain⟨t',rfl⟩:=ry
 exact rule i j t t' s _ _ ⟨.bl (g i j),H,I,rfl,q⟩
def Zr(i j:Int):Prop:=0<=j/\j<=1000000/\i.natAbs<2 ^ 64
theorem JH:dD X (binaryOp .Add) (lh fun i j=>.int (i+j)):=xV fun _ _ _ _ _ _ _ q=>add_int q
theorem JE:dD X (binaryOp .Sub) (lh fun i j=>.int (i-j)):=xV fun _ _ _ _ _ _ _ q=>sub_int q
theorem F5:dD X (binaryOp .Mod) (rI (fun _ j=>j≠0) fun i j=>.int (i.fmod j)):=wG fun _ _ _ _ _ _ _ hc q=>mod_int' hc q
theorem JF:dD X (binaryOp .Pow) (rI Zr fun i j=>.int (i ^ j.toNat)):=wG fun _ _ _ _ _ _ _ hc q=>pow_int_small hc.1 hc.2.1 hc.2.2 q
theorem Gz:dD X (inplaceOp .Add) (lh fun i j=>.int (i+j)):=xV fun _ _ _ _ _ _ _ q=>iadd_int q
theorem Gy:dD X (inplaceOp .Sub) (lh fun i j=>.int (i-j)):=xV fun _ _ _ _ _ _ _ q=>isub_int q
theorem Zt{f:Value->Sem Value}{g:Int->Int}
  (rule:∀(i:Int) (t:Tok) (s:Shared) (Q:Value->Shared->Prop) (E:Value->Shared->Prop),Q (.int (g i) s.toks) { s with toks:=s.toks+1 }->wpAny (model X.prog X.w) X.A (f (.int i t)) Q E s) :
  Nk X f (rU fun i=>.int (g i)):=by
 intro pins s σ H x v Q I rx h
 obtain⟨i,rfl,q⟩:=h
 obtain⟨t,rfl⟩:=rx
 exact rule i t s _ _ ⟨.int (g i),H,I.tok _,⟨_,rfl⟩,q⟩
theorem HA:Nk X (unaryOp .USub) (rU fun i=>.int (-i)):=Zt fun _ _ _ _ _ q=>neg_int q
end
section
variable{a b:Expr}{ta tb tc:TE}
theorem Ay{Q:VK}{k k':Bool}(I:Inv X pins σ H s)(q:Q (.bl k) H)(e:k=k'):EP X pins σ Q (.bool k') s:=by
 subst e
 exact⟨.bl k,H,I,rfl,q⟩
theorem N8:dD X (compareOp .Lt) (lh fun i j=>.bl (decide (i<j))):=xW fun _ _ _ _ _ _ _ q=>lt_int q
theorem N9:dD X (compareOp .LtE) (lh fun i j=>.bl (decide (i<=j))):=xW fun _ _ _ _ _ _ _ q=>le_int q
theorem Oa:dD X (compareOp .Gt) (lh fun i j=>.bl (decide (j<i))):=xW fun _ _ _ _ _ _ _ q=>gt_int q
theorem Ob:dD X (compareOp .GtE) (lh fun i j=>.bl (decide (j<=i))):=xW fun _ _ _ _ _ _ _ q=>ge_int q
theorem JG:dD X (compareOp .Is) (fun x y H Q=>y=.non/\Q (.bl (decide (x=.non))) H):=by
 intro pins s σ H x y v u Q I rx ry h
 obtain⟨rfl,q⟩:=h
 cases ry
 refine is_none_gen (Ay I q ?_)
 cases x<;>first
  | (cases rx;rfl)
  | (obtain⟨t,rfl⟩:=rx;rfl)
theorem F3:dD X (compareOp .IsNot) (fun x y H Q=>y=.non/\Q (.bl (!decide (x=.non))) H):=by
 intro pins s σ H x y v u Q I rx ry h
 obtain⟨rfl,q⟩:=h
 cases ry
 refine isnot_none_gen (Ay I q ?_)
 cases x<;>first
  | (cases rx;rfl)
  | (obtain⟨t,rfl⟩:=rx;rfl)
def Dt(t:TE):TT:=fun σ H Q=>t σ H fun x H' => ∃k,x=.bl k/\Q k H'
theorem FK{r:R2}(ho:dD X (compareOp op) r)(ha:PE X a ta)(hb:PE X b tb)(hm:behindInMarks op b=false):PT X (.Compare a [op] [b] pos) (Dt (HN r ta tb)):=by
 intro pins s σ H Q I h
 refine wpAny_isTrue_Compare1 (be (ha pins s σ H _ I h) fun v s1 ⟨x,H1,I1,r1,q1⟩=>be (hb pins s1 σ H1 _ I1 q1) fun u s2 ⟨y,H2,I2,r2,q2⟩ =>
  be (ho pins s2 σ H2 x y v u _ I2 r1 r2 q2) fun c s3 ⟨z,H3,I3,r3,k,e,q3⟩=>?_) hm
 subst e
 cases r3
 exact ad9 ⟨H3,I3,q3⟩
def zq(r r':R2)(ta tb tc:TE):TE:=fun σ H Q=>ta σ H fun x H1=>tb σ H1 fun y H2=>r x y H2 fun z H3 => ∃k,z=.bl k /\
 (if k=true then tc σ H3 fun w' H4=>r' y w' H4 Q else Q (.bl false) H3)
theorem BV{r r':R2}(ho:dD X (compareOp op) r)(ho':dD X (compareOp op') r')(ha:PE X a ta)(hb:PE X b tb)(hc:PE X c tc)
  (hm:lastMarks [op,op'] [b,c]=false:=by with_unfolding_all rfl):PE X (.Compare a [op,op'] [b,c] pos) (zq r r' ta tb tc):=by
 intro pins s σ H Q I h
 refine Compare_chain (be (ha pins s σ H _ I h) fun v s1 ⟨x,H1,I1,r1,q1⟩=>chain_link (be (hb pins s1 σ H1 _ I1 q1) fun u s2 ⟨y,H2,I2,r2,q2⟩ =>
  be (ho pins s2 σ H2 x y v u _ I2 r1 r2 q2) fun d s3 ⟨z,H3,I3,r3,k,e,q3⟩=>?_)) hm
 subst e
 cases r3
 refine ad9 ?_
 cases k with
 | false=>exact ite_ff ⟨.bl false,H3,I3,rfl,q3⟩
 | true=>exact ite_tt (chain_last (be (hc pins s3 σ H3 _ I3 q3) fun w' s4 ⟨z',H4,I4,r4,q4⟩=>ho' pins s4 σ H4 y z' u w' Q I4 r2 r4 q4))
theorem BP{r r':R2}(ho:dD X (compareOp op) r)(ho':dD X (compareOp op') r')(ha:PE X a ta)(hb:PE X b tb)(hc:PE X c tc)
  (hm:lastMarks [op,op'] [b,c]=false:=by with_unfolding_all rfl):PT X (.Compare a [op,op'] [b,c] pos) (Dt (zq r r' ta tb tc)):=by
 intro pins s σ H Q I h
 refine isTrue_chain (be (ha pins s σ H _ I h) fun v s1 ⟨x,H1,I1,r1,q1⟩=>test_link (be (hb pins s1 σ H1 _ I1 q1) fun u s2 ⟨y,H2,I2,r2,q2⟩ =>
  be (ho pins s2 σ H2 x y v u _ I2 r1 r2 q2) fun d s3 ⟨z,H3,I3,r3,k,e,q3⟩=>?_)) hm
 subst e
 cases r3
 refine ad9 ?_
 cases k with
 | false =>
  obtain⟨k',e',q'⟩:=q3
  cases e'
  exact ite_ff ⟨H3,I3,q'⟩
 | true =>
  refine ite_tt (test_last (be (hc pins s3 σ H3 _ I3 q3) fun w' s4 ⟨z',H4,I4,r4,q4⟩=>be (ho' pins s4 σ H4 y z' u w' _ I4 r2 r4 q4) fun d' s5 ⟨z2,H5,I5,r5,k2,e2,q5⟩=>?_))
  subst e2
  cases r5
  exact ad9 ⟨H5,I5,q5⟩
theorem lS:(sizeLine:Nat)<2 ^ 63:=by rw[sizeLine_eq];decide
theorem xU:dD X (binaryOp .Add) (fun x y H Q => ∃i j,x=.str i/\y=.str j/\i.length+j.length<=sizeLine/\Q (.str (i++j)) H):=by
 intro pins s σ H x y v u Q I rx ry h
 obtain⟨i,j,rfl,rfl,hz,q⟩:=h
 obtain⟨t,rfl⟩:=rx
 obtain⟨t',rfl⟩:=ry
 exact add_str (fun t' tk=>⟨.str (i++j),H,I.tok _,⟨_,rfl⟩,q⟩) hz
theorem dX{x:V}(r:aW [x] us):∃u,us=[u]/\bo x u:=by
 cases r with
 | cons r1 r2=>cases r2;exact⟨_,rfl,r1⟩
theorem ou{x:V}(r:aW [x,y] us):∃u w',us=[u,w']/\bo x u/\bo y w':=by
 cases r with
 | cons r1 r2 =>
  cases r2 with
  | cons r3 r4=>cases r4;exact⟨_,_,rfl,r1,r3⟩
theorem CL:dN X (.builtin "abs") (fun xs H Q => ∃i,xs=[.int i]/\Q (.int (if i<0 then -i else i)) H):=by
 intro pins s σ H xs us Q I r h
 obtain⟨i,rfl,q⟩:=h
 obtain⟨u,rfl,t,rfl⟩:=dX r
 exact call_abs_int fun u tk=>⟨.int (if i<0 then -i else i),H,I.tok _,⟨_,rfl⟩,q⟩
theorem AZ(hc:X.calm=true):dN X (.builtin "min") (fun xs H Q => ∃i j,xs=[.int i,.int j]/\Q (.int (if j<i then j else i)) H):=by
 intro pins s σ H xs us Q I r h
 obtain⟨i,j,rfl,q⟩:=h
 obtain⟨u,w',rfl,⟨t,rfl⟩,⟨t',rfl⟩⟩:=ou r
 refine min_two_ints (I.ok.hd hc) fun h' tk k=>⟨_,H,I.kept k,?_,q⟩
 by_cases hj:j<i
 ·rw[if_pos hj,if_pos hj];exact⟨_,rfl⟩
 ·rw[if_neg hj,if_neg hj];exact⟨_,rfl⟩
theorem sh:dN X (.type "int") (fun xs H Q=>(∃i,xs=[.int i]/\Q (.int i) H)\/∃k,xs=[.bl k]/\Q (.int (if k then 1 else 0)) H):=by
 intro pins s σ H xs us Q I r h
 rcases h with⟨i,rfl,q⟩|⟨k,rfl,q⟩
 ·obtain⟨u,rfl,t,rfl⟩:=dX r
  exact call_int_int ⟨.int i,H,I,⟨_,rfl⟩,q⟩
 ·obtain⟨u,rfl,r1⟩:=dX r
  cases r1
  exact call_int_bool ⟨.int (if k then 1 else 0),H,I.tok _,⟨_,rfl⟩,q⟩
theorem vq:dN X (.type "str") (fun xs H Q => ∃i,xs=[.int i]/\i.natAbs.log2<1920/\Q (.str (toString i)) H):=by
 intro pins s σ H xs us Q I r h
 obtain⟨i,rfl,hz,q⟩:=h
 obtain⟨u,rfl,t,rfl⟩:=dX r
 exact PySem.P.str_of_int hz ⟨.str _,H,I.tok _,⟨_,rfl⟩,q⟩
end
structure oj(h:Heap)(x dx C:Addr)(mA:Str->Option Value):Prop where
 obj:h.get? x=some (W.instObj C dx)
 ns:h.Ns1 dx mA
 ne:dx≠x
theorem Ab(n:h.Ns1 dx mA):∃od,h.get? dx=some od/\∀name,W.lookIn name od=some (mA name):=by
 obtain⟨o,es,ep,ho,hd,hk,_,hm⟩:=n
 refine⟨o,ho,fun name=>?_⟩
 have e:=hm name
 unfold nsFind findBy at e
 rw[<- Array.find?_toList]at e
 unfold W.lookIn
 rw[hd]
 dsimp only
 split
 ·rename_i y q
  rw[q]at e
  exact ad4 some e
 ·rename_i q
  rw[q]at e
  have a:es.toList.any (·.refKey)=false:=by
   rw[List.any_eq_false]
   intro y hy
   obtain⟨z,t,hkey⟩:=hk y (Array.mem_toList_iff.mp hy)
   simp[DictEntry.refKey,hkey]
  have a':¬ es.toList.any (·.refKey)=true:=by rw[a];exact aa8
  rw[if_neg a']
  exact ad4 some e
theorem oj.look{x:Addr}(I:oj h x dx C mA):∃od,W.InstAt h x (W.instObj C dx) C (some od)/\∀name,W.lookIn name od=some (mA name) :=
 let ⟨od,ho,hl⟩:=Ab I.ns
 ⟨od,⟨I.obj,rfl,rfl,ho⟩,hl⟩
section
variable{prog:Program}{x f:Addr}{name:Str}{v:Value}
theorem GF{expr:Bool}(X:K.In s.heap)(I:oj s.heap x dx C mA)(hg:W.plainGet K C name=true)(hh:W.hasDictIn K C=true)
  (ha:W.findIn K (.ref C) name=some none) (hv:mA name=some v) (hv':W.handedIn v=true) (h:Q v { s with toks:=s.toks+1 }) :
  wpAny (model prog w) A (getAttr (.ref x) name expr) Q E s:=by
 obtain⟨od,J,hl⟩:=I.look
 exact W.get_value X J (W.plainGet_of hg).1 (W.findObj_own hh ha rfl (by rw[hl,hv])) hv' h
theorem Cu{Q:Value×List Value->Shared->Prop}(X:K.In s.heap)(I:oj s.heap x dx C mA)(hg:W.plainGet K C name=true)
  (hf:W.findIn K (.ref C) name=some (some (.ref f))) (ht:W.isFn K (.ref f)=true) (hv:mA name=none) (h:Q (.ref f,[.ref x]) s) :
  wpAny (model prog w) A (getMethod (.ref x) name pl) Q E s:=by
 obtain⟨od,J,hl⟩:=I.look
 exact W.method_fn X J (W.plainGet_of hg).1 (W.plainGet_of hg).2 hf (aj8.mp ht) (by show(W.lookIn name od).map (·.isSome)=some false;rw[hl,hv];rfl) h
theorem Fz{ns:List Str}{Q:Unit->Shared->Prop}(X:K.In s.heap)(I:oj s.heap x dx C mA)
  (hs:W.findIn K (.ref C) "__setattr__" = some (some (.builtin "object.__setattr__"))) (hp:W.plainOver K C=true) (ht:W.takerIn K C name=some none) (hh:W.hasDictIn K C=true)
  (hw:PySem.Within mA ns) (hsz:ns.length<=sizeLine)
  (h:∀h',oj h' x dx C (fun y=>if y=name then some v else mA y)->Heap.SameBut dx s.heap h'->Q () { s with heap:=h',toks:=s.toks+2 }) :
  wpAny (model prog w) A (setAttr (.ref x) name v) Q E s:=by
 obtain⟨od,J,hl⟩:=I.look
 refine W.set_plain X J hs (W.osa_open (s:={ s with toks:=s.toks+1 }) (r:=none) X J hp ht fun b=>?_)
 obtain⟨cd,hc,hd'⟩:=W.any_some hh
 have hx:s.heap.get? x=some ⟨.ref C,some dx,.plain,#[]⟩:=I.obj
 refine ZL (ZO (ZL (ZL (wpAny_loadPart hx (ZL (W.Looks.here (s:={ s with toks:=s.toks+1 }) (W.looks_clsIn X hc) ?_))))))
 rw[hd']
 refine ZO (a:=some dx) (ZL (ZO (ZL ?_)))
 refine wpAny_nsSet1 (s:={ s with toks:=s.toks+1 }) I.ns fun h' hn2 hs2=>?_
 obtain⟨oD,esD,epD,hoD,hdD,hcD⟩:=hn2.count (PySem.Within.cons name v hw)
 refine ZL (wpAny_lookBehind hoD (by rw[hdD];exact pastItsLine_dict (ZN hcD (by rw[ab1];omega))) ?_)
 exact ZO (h _ ⟨(hs2.2 _ (ai0 I.ne)).trans I.obj,hn2,I.ne⟩ hs2)
theorem Cd{R:Result->Shared->Prop}{vs:List Value}(X:K.In s.heap)(hm:W.makesIn K C=true)
  (hi:W.findIn K (.ref C) "__init__" = some (some (.ref f))) (hf:W.typeIn K (.ref f)=some (.type "function"))
  (h:codeAny (model prog w) (A.under (.builtin "type.__call__" ⟨.ref C::vs,kw⟩)) (.call (.ref f) ⟨.ref (s.heap.objs.size+1)::vs,kw⟩) (W.InitBack (s.heap.objs.size+1) R)
   { s with heap:=(s.heap.push W.emptyDict).push (W.instObj C s.heap.objs.size) }) :
  codeAny (model prog w) A (.call (.ref C) ⟨vs,kw⟩) R s:=by
 obtain⟨hh,g,d,t,os⟩:=s
 exact W.make_core (W.makes_of X hm) (W.looks_findIn X hi) (fun self=>W.bind_fn X self hf) (.inl rfl) h
end
def ej(f:Str)(v:V):List (Str×V)->List (Str×V)
 | []=>[(f,v)]
 | (g,x)::r=>if g=f then(g,v)::r else(g,x)::ej f v r
theorem ny(f g:Str)(v:V):∀fs:List (Str×V),(ej f v fs).lookup g=if g=f then some v else fs.lookup g
 | []=>by
  show List.lookup g [(f,v)]=_
  by_cases h:g=f
  ·have hb:(g==f)=true:=aj8.mpr h
   simp only[List.lookup,hb,if_pos h]
  ·have hb:(g==f)=false:=ai5.mpr h
   simp only[List.lookup,hb,if_neg h]
 | (k,x)::r=>by
  have ih:=ny f g v r
  rw[show ej f v ((k,x)::r)=(if k=f then(k,v)::r else(k,x)::ej f v r)from rfl]
  by_cases hk:k=f
  ·rw[if_pos hk]
   by_cases h:g=k
   ·have hb:(g==k)=true:=aj8.mpr h
    simp only[List.lookup,hb,if_pos (h.trans hk)]
   ·have hb:(g==k)=false:=ai5.mpr h
    simp only[List.lookup,hb,if_neg (fun e:g=f=>h (e.trans hk.symm))]
  ·rw[if_neg hk]
   by_cases h:g=k
   ·have hb:(g==k)=true:=aj8.mpr h
    simp only[List.lookup,hb,if_neg (fun e:g=f=>hk (h.symm.trans e))]
   ·have hb:(g==k)=false:=ai5.mpr h
    simp only[List.lookup,hb]
    exact ih
theorem lU(f:Str)(v:V):∀fs:List (Str×V),f∈(ej f v fs).map (·.1)/\∀g,g∈fs.map (·.1)->g∈(ej f v fs).map (·.1)
 | []=>⟨by simp[ej],fun g h=>by simp at h⟩
 | (k,x)::r=>by
  obtain⟨i1,i2⟩:=lU f v r
  rw[show ej f v ((k,x)::r)=(if k=f then(k,v)::r else(k,x)::ej f v r)from rfl]
  by_cases hk:k=f
  ·rw[if_pos hk]
   subst hk
   exact⟨by simp,fun g h=>by simpa using h⟩
  ·rw[if_neg hk]
   refine⟨?_,fun g h=>?_⟩
   ·rw[ac4]
    exact ZR _ i1
   ·rw[ac4]at h⊢
    rcases ZT.mp h with e|e
    ·exact ZT.mpr (.inl e)
    ·exact ZR _ (i2 g e)
theorem ig(f:Str)(v:V):∀fs:List (Str×V),(ej f v fs).length<=fs.length+1
 | []=>by simp[ej]
 | (k,x)::r=>by
  have ih:=ig f v r
  rw[show ej f v ((k,x)::r)=(if k=f then(k,v)::r else(k,x)::ej f v r)from rfl]
  by_cases hk:k=f
  ·rw[if_pos hk,ab1,ab1];omega
  ·rw[if_neg hk,ab1,ab1];omega
theorem gY.some_of{o:Option Value}(r:gY (some v) o):∃u,o=some u/\bo v u:=by
 cases o with
 | none=>exact(show False from r).elim
 | some u=>exact⟨u,rfl,r⟩
theorem gY.none_of{o:Option Value}(r:gY none o):o=none:=by
 cases o with
 | none=>rfl
 | some u=>exact(show False from r).elim
theorem At(r:bo v u):W.handedIn u=true:=by
 cases v with
 | non=>cases (show u=Value.none from r);rfl
 | bl b=>cases (show u=Value.bool b from r);rfl
 | int i=>obtain⟨t,e⟩:=(show ∃t,u=Value.int i t from r);cases e;rfl
 | str x=>obtain⟨t,e⟩:=(show ∃t,u=Value.str x t from r);cases e;rfl
 | byt b=>obtain⟨t,e⟩:=(show ∃t,u=Value.bytes b t from r);cases e;rfl
 | flt b=>obtain⟨t,e⟩:=(show ∃t,u=Value.float b t from r);cases e;rfl
 | ref a=>cases (show u=Value.ref a from r);rfl
 | ty n=>cases (show u=Value.type n from r);rfl
section
variable{H':Hp}{h':Heap}{fs fs':List (Str×V)}
theorem mQ(hok:fh P w H h)(e:H a=some (.ins C dx fs)):∃mA,oj h a dx C mA/\(∀f,gY (fs.lookup f) (mA f))/\PySem.Within mA (fs.map (·.1))/\fs.length<=1000/\H dx=some (.own a):=by
 obtain⟨d,z,ne,ob,mA,n,r,q⟩:=(show dj P w H h a (.ins C dx fs)from hok a _ e)
 exact⟨mA,⟨ob,n,ne⟩,r,q,z,d⟩
end
structure fE(K:W.Frag)(C:Addr):Prop where
 pg:W.plainGet K C Str.empty=true
 hd:W.hasDictIn K C=true
 po:W.plainOver K C=true
 sa:W.findIn K (.ref C) "__setattr__" = some (some (.builtin "object.__setattr__"))
theorem fE.get(c:fE K C)(f:Str):W.plainGet K C f=true:=c.pg
def bj(K:W.Frag)(C:Addr)(f:Str):Prop:=W.findIn K (.ref C) f=some none
theorem bj.taker{f:Str}(n:bj K C f):W.takerIn K C f=some none:=by
 unfold W.takerIn
 rw[show W.findIn K (.ref C) f=some none from n]
 rfl
structure rF(K:W.Frag)(C:Addr)(m:Str)(f:Addr):Prop where
 at_:W.findIn K (.ref C) m=some (some (.ref f))
 fn:W.isFn K (.ref f)=true
 kp:W.keepIn K (.ref f)=true
section
variable{fs:List (Str×V)}{f:Str}
theorem ym{b:Bool}(I:Inv X pins σ H s)(e:H a=some (.ins C dx fs))(c:fE X.K C)(n:bj X.K C f)(l:fs.lookup f=some v)
  (h:∀u s',Inv X pins σ H s'->bo v u->Q u s'):wpAny (model X.prog X.w) A (getAttr (.ref a) f b) Q E s:=by
 obtain⟨mA,O,r,_,_,_⟩:=mQ I.hok e
 obtain⟨u,hu,ru⟩:=gY.some_of (v:=v) (o:=mA f) (by rw[<- l];exact r f)
 exact GF I.kIn O (c.get f) c.hd n hu (At ru) (h u _ (I.tok _) ru)
theorem oX{m:Str}{g:Addr}{Q:Value×List Value->Shared->Prop}(I:Inv X pins σ H s)(e:H a=some (.ins C dx fs))(c:fE X.K C)(k:rF X.K C m g)(l:fs.lookup m=none)
  (h:Q (.ref g,[.ref a]) s):wpAny (model X.prog X.w) A (getMethod (.ref a) m pl) Q E s:=by
 obtain⟨mA,O,r,_,_,_⟩:=mQ I.hok e
 have hn:mA m=none:=gY.none_of (by rw[<- l];exact r m)
 exact Cu I.kIn O (c.get m) k.at_ k.fn hn h
theorem xH{Q:Unit->Shared->Prop}(I:Inv X pins σ H s)(e:H a=some (.ins C dx fs))(c:fE X.K C)(n:bj X.K C f)(hl:fs.length<1000)(ry:bo y u)
  (h:∀s',Inv X pins σ (bv H a (.ins C dx (ej f y fs))) s'->Q () s'):wpAny (model X.prog X.w) A (setAttr (.ref a) f u) Q E s:=by
 obtain⟨mA,O,r,wi,_,ho⟩:=mQ I.hok e
 have hz:(fs.map (·.1)).length<=sizeLine:=by rw[ab6,sizeLine_eq];omega
 refine Fz I.kIn O c.sa c.po n.taker c.hd wi hz fun h' O' sb=>h _ ?_
 have hd:∃o,h'.get? dx=some o:=let ⟨o,_,_,e',_⟩:=O'.ns;⟨o,e'⟩
 refine I.write (x:=a) (e:=dx) (by rw[e];exact True.intro) (.inr ho) (fun b q hb z=>(sb.2 b hb).trans z) hd ?_
 refine⟨by rw[aK O.ne];exact ho,?_,O.ne,O'.obj,_,O'.ns,fun g=>?_,fun g hg=>?_⟩
 ·have:=ig f y fs;omega
 ·show gY ((ej f y fs).lookup g) (if g=f then some u else mA g)
  rw[ny]
  by_cases q:g=f
  ·rw[if_pos q,if_pos q];exact ry
  ·rw[if_neg q,if_neg q];exact r g
 ·by_cases q:g=f
  ·rw[q];exact(lU f y fs).1
  ·refine(lU f y fs).2 g (wi g fun z=>hg ?_)
   show(if g=f then some u else mA g)=none
   rw[if_neg q];exact z
theorem Inv.made(I:Inv X pins σ H s):Inv X pins σ (bv (bv H s.heap.objs.size (.own (s.heap.objs.size+1))) (s.heap.objs.size+1) (.ins C s.heap.objs.size []))
  { s with heap:=(s.heap.push W.emptyDict).push (W.instObj C s.heap.objs.size) }:=by
 have e1:(s.heap.push W.emptyDict).get? s.heap.objs.size=some W.emptyDict:=ZQ s.heap rfl
 have e2:((s.heap.push W.emptyDict).push (W.instObj C s.heap.objs.size)).get? (s.heap.objs.size+1)=some (W.instObj C s.heap.objs.size):=by
  have:=ZQ (s.heap.push W.emptyDict) (o:=W.instObj C s.heap.objs.size) rfl
  rwa [ab8]at this
 have e3:(s.heap.push W.emptyDict).Ns s.heap.objs.size (fun _=>none):=⟨W.emptyDict,#[],_,e1,rfl,(fun e he=>absurd he (by simp)),fun _=>rfl⟩
 have I1:=I.laid (a:=s.heap.objs.size) (o:=.own (s.heap.objs.size+1)) (h':=s.heap.push W.emptyDict) (t':=s.toks) (fun b u q=>ZM _ q) (ZP _) ⟨_,e1⟩
 refine I1.laid (a:=s.heap.objs.size+1) (o:=.ins C s.heap.objs.size []) (t':=s.toks) (fun b u q=>ZM _ q) (Nat.le_of_eq (ab8 _ _)) ?_
 have ne:s.heap.objs.size≠s.heap.objs.size+1:=ac1 (ac5 _)
 refine⟨by rw[aK ne,bg],ZY _,ne,e2,fun _=>none,(Heap.Ns1.of_empty e3).at fun o q=>ZM _ q,fun _=>True.intro,fun y hy=>absurd rfl hy⟩
theorem Hk{prog:Program}{env:Env}{f:Str}(hb:attributeBase e f env (eval e env)=eval e env)
  (h:wpAny (model prog w) A (eval e env) (fun o s₁=>wpAny (model prog w) A (getAttr o f true) Q E s₁) E s):wpAny (model prog w) A (eval (.Attribute e f pos) env) Q E s :=
 Attribute_any_ h (by rw[arm_eval_Attribute,hb])
end
def QC(K:W.Frag)(ta:TE)(f:Str):TE:=fun σ H Q=>ta σ H fun x H1 => ∃a C dx fs v,x=.ref a/\H1 a=some (.ins C dx fs)/\fE K C/\bj K C f/\fs.lookup f=some v/\Q v H1
def Sx(K:W.Frag)(ta tv:TE)(f:Str):TS:=fun D σ H=>tv σ H fun y H1=>ta σ H1 fun x H2 => ∃a C dx fs,x=.ref a/\H2 a=some (.ins C dx fs)/\fE K C/\bj K C f/\fs.length<1000 /\
 D.nx σ (bv H2 a (.ins C dx (ej f y fs)))
section
variable{o value:Expr}{f:Str}{tpos:Pos}{ta tv:TE}
theorem Jw(he:PE X e ta)(hb:attributeBase e f X.env (eval e X.env)=eval e X.env):PE X (.Attribute e f pos) (QC X.K ta f):=by
 intro pins s σ H Q I h
 refine Hk hb (be (he pins s σ H _ I h) fun u s1 ⟨x,H1,I1,rx,a,C,dx,fs,v,ex,ea,c,n,l,q⟩=>?_)
 subst ex
 obtain rfl:u=Value.ref a:=rx
 exact ym I1 ea c n l fun u' s2 I2 ru=>⟨v,H1,I2,ru,q⟩
theorem ul(ha:PE X o ta)(hv:PE X value tv)(hs:swapsWith value (some (.Attribute o f pos')) pos.line X.env=pure false):PS X (.Assign [.Attribute o f pos'] value pos) (Sx X.K ta tv f):=by
 intro pins s σ H D I h
 refine plainObj_wpAny_Assign_Attribute (be (hv pins s σ H _ I h) fun u s1 ⟨y,H1,I1,ry,q⟩=>be (ha pins s1 σ H1 _ I1 q) fun ov s2 ⟨x,H2,I2,rx,a,C,dx,fs,ex,ea,c,n,l,q2⟩=>?_) hs
 subst ex
 obtain rfl:ov=Value.ref a:=rx
 exact xH I2 ea c n l ry fun s3 I3=>⟨σ,_,I3,q2⟩
end
section
variable{c:Value}{b:Bool}
inductive iC(K:W.Frag)(H:Hp):V->Value->Prop where
  | non:iC K H .non (.type "NoneType")
  | bl (x:Bool):iC K H (.bl x) (.type "bool")
  | int (i:Int):iC K H (.int i) (.type "int")
  | str (x:Str):iC K H (.str x) (.type "str")
  | flt (x:UInt64):iC K H (.flt x) (.type "float")
  | lst {a:Addr} {xs:List V} (e:H a=some (.lst xs)):iC K H (.ref a) (.type "list")
  | frz {a:Addr} {o:Obj} {xs:List V} (e:H a=some (.frz o (.lst xs))):iC K H (.ref a) (.type "list")
  | tup {a:Addr} {xs:List V} (e:H a=some (.tup xs)):iC K H (.ref a) (.type "tuple")
  | dK {a:Addr} {kvs:List (eN×V)} (e:H a=some (.dK kvs)):iC K H (.ref a) (.type "dict")
  | dT {a:Addr} {kvs:List (List eN×V)} (e:H a=some (.dT kvs)):iC K H (.ref a) (.type "dict")
  | ins {a C dx:Addr} {fs:List (Str×V)} (e:H a=some (.ins C dx fs)) (cl:fE K C) (ha:W.findIn K (.ref C) "__class__" = some (some (.builtin "object.__class__")))
      (hn:W.specialIn K (.builtin "object.__class__") "__get__" = some (some (.builtin "getset_descriptor.__get__"))) (htk:W.takesIn K (.builtin "object.__class__")=some true)
      (hm:W.mroIn K C (.type "object")=some true):iC K H (.ref a) (.ref C)
theorem rT{x:V}{t:Value}(I:Inv X pins σ H s)(rx:bo x u)(ty:iC X.K H x t)(e:W.kitOne X.K t c=some b)(h:∀tk,Q (.bool b) { s with toks:=tk }) :
  wpAny (model X.prog X.w) A (call (.builtin "isinstance") [u,c]) Q E s:=by
 cases ty with
 | non=>cases (show u=Value.none from rx);exact af0 W.kitx_none I.kIn True.intro e (fun z=>nomatch z) h
 | bl y=>cases (show u=Value.bool y from rx);exact af0 W.kitx_bool I.kIn True.intro e (fun z=>nomatch z) h
 | int i=>obtain⟨t,q⟩:=(show ∃t,u=Value.int i t from rx);cases q;exact af0 W.kitx_int I.kIn True.intro e (fun z=>nomatch z) h
 | str y=>obtain⟨t,q⟩:=(show ∃t,u=Value.str y t from rx);cases q;exact af0 W.kitx_str I.kIn True.intro e (fun z=>nomatch z) h
 | flt y=>obtain⟨t,q⟩:=(show ∃t,u=Value.float y t from rx);cases q;exact af0 W.kitx_float I.kIn True.intro e (fun z=>nomatch z) h
 | @lst a xs ea =>
  cases (show u=Value.ref a from rx)
  obtain⟨_,_,n,_,h1⟩:=(show dj X.prog X.w H s.heap a (.lst xs)from I.hok a _ ea)
  exact af0 W.kitx_list I.kIn ⟨_,h1,rfl⟩ e (fun z=>nomatch z) h
 | @frz a ob xs ea =>
  cases (show u=Value.ref a from rx)
  obtain⟨_,_,_,n,_,h1⟩:=(show dj X.prog X.w H s.heap a (.frz ob (.lst xs))from I.hok a _ ea)
  exact af0 W.kitx_list I.kIn ⟨_,h1,rfl⟩ e (fun z=>nomatch z) h
 | @tup a xs ea =>
  cases (show u=Value.ref a from rx)
  obtain⟨_,_,_,p⟩:=(show dj X.prog X.w H s.heap a (.tup xs)from I.hok a _ ea)
  obtain⟨o,h1,h2,_⟩:=p
  exact af0 W.kitx_tuple I.kIn ⟨o,h1,h2⟩ e (fun z=>nomatch z) h
 | @dK a kvs ea =>
  cases (show u=Value.ref a from rx)
  obtain⟨_,_,vs,_,p⟩:=(show dj X.prog X.w H s.heap a (.dK kvs)from I.hok a _ ea)
  obtain⟨o,es,ep,h1,h2,_⟩:=p
  exact af0 W.kitx_dict I.kIn ⟨o,h1,h2.1⟩ e (fun z=>nomatch z) h
 | @dT a kvs ea =>
  cases (show u=Value.ref a from rx)
  obtain⟨_,_,xs,_,o,es,ep,h1,h2,_⟩:=(show dj X.prog X.w H s.heap a (.dT kvs)from I.hok a _ ea)
  exact af0 W.kitx_dict I.kIn ⟨o,h1,h2.1⟩ e (fun z=>nomatch z) h
 | @ins a C dx fs ea cl ha hn htk hm =>
  cases (show u=Value.ref a from rx)
  obtain⟨mA,O,_⟩:=mQ I.hok ea
  obtain⟨od,J,_⟩:=O.look
  exact af0 (W.kitx_own (cl.get _) cl.hd ha hn htk hm) I.kIn J e (fun z=>nomatch z) h
end
structure cA(k:Nat)(A:Around):Prop where
 hd:A.handled=none
 dp:A.depth+3*k+5<recursionLimit
 un:A.units+16*k+200<cLine
theorem cA.mono(r:cA k A)(h:j<=k):cA j A:=⟨r.hd,by have:=r.dp;omega,by have:=r.un;omega⟩
theorem cA.deeper(r:cA (k+1) A)(env:Env):cA k (A.deeper env) :=
 ⟨r.hd,by have:=r.dp;show A.depth+1+3*k+5<_;omega,by have:=r.un;show A.units+3+16*k+200<_;omega⟩
theorem cA.in1(r:cA (k+1) A):cA k A.in1 :=
 ⟨r.hd,by have:=r.dp;show A.depth+3*k+5<_;omega,by have:=r.un;show A.units+1+16*k+200<_;omega⟩
theorem x6:(A.under (.builtin "type.__call__" ⟨.ref C::us,kw⟩)).depth=A.depth+1:=by
 first|rfl|simp[Around.under,Code.weight,Code.isCreation,Code.isGuard,Code.isCaller,Code.frames,Code.isFrame,guardIds]
theorem x5:(A.under (.builtin "type.__call__" ⟨.ref C::us,kw⟩)).units=A.units+1:=by
 first|rfl|simp[Around.under,Code.cUnits,Code.frames,Code.isFrame]
theorem cA.make(r:cA (k+1) A)(C:Addr)(us:List Value)(kw:List (Str×Value)):cA k (A.under (.builtin "type.__call__" ⟨.ref C::us,kw⟩)) :=
 ⟨r.hd,by have:=r.dp;rw[x6];omega,by have:=r.un;rw[x5];omega⟩
theorem cA.depth(r:cA k A):A.depth<recursionLimit:=by have:=r.dp;omega
theorem cA.units(r:cA k A):A.units+64<cLine:=by have:=r.un;omega
def xz:TA:=fun _ H Q=>Q [] H
def NE(ta:TE)(tr:TA):TA:=fun σ H Q=>ta σ H fun x H1=>tr σ H1 fun xs H2=>Q (x::xs) H2
section
variable{t:TA}
theorem JA:PA X [] xz:=fun _ _ _ _ H Q I h=>Calls.spliced_nil ⟨[],H,I,.nil,h⟩
theorem qz(ha:PE X e te)(hr:PA X es t)(hs:starEach (e::es) X.env=(false,eval e X.env)::starEach es X.env:=by rfl):PA X (e::es) (NE te t):=by
 intro pos pins s σ H Q I h
 rw[hs]
 show wpAny _ _ (spliced ((false,eval e X.env)::backTo pos (starEach es X.env))) _ _ s
 refine Calls.spliced_cons (be (ha pins s σ H _ I h) fun u s1 ⟨x,H1,I1,r1,q1⟩=>?_)
 exact be (hr pos pins s1 σ H1 _ I1 q1) fun us s2 ⟨xs,H2,I2,r2,q2⟩=>⟨x::xs,H2,I2,.cons r1 r2,q2⟩
def Qt(t:TA):TE:=fun σ H Q=>t σ H fun xs H1=>xs.length<=sizeLine/\∀p,H1 p=none->Q (.ref p) (bv H1 p (.tup xs))
def Qz(t:TA):TE:=fun σ H Q=>t σ H fun xs H1=>xs.length<=sizeLine/\∀p,H1 p=none->Q (.ref p) (bv H1 p (.lst xs))
theorem Jp{x1}(h:PA X es t):PE X (.Tuple es x1 pos) (Qt t):=by
 intro pins s σ H Q I hq
 refine wpAny_Tuple_spliced (be (h pos pins s σ H _ I hq) fun us s1 ⟨xs,H1,I1,r,z,q⟩=>⟨by rw[<- r.length];exact z,?_⟩)
 have hf:H1 s1.heap.objs.size=none:=I1.hok.fresh (ZP _)
 refine⟨.ref s1.heap.objs.size,bv H1 s1.heap.objs.size (.tup xs),I1.laid (t':=s1.toks) (fun b u e=>ZM _ e) (ZP _) ?_,rfl,q _ hf⟩
 exact⟨z,us,r,⟨_,ZQ _ rfl,rfl,_,rfl⟩⟩
theorem Ju(h:PA X es t):PE X (.List es pos) (Qz t):=by
 intro pins s σ H Q I hq
 refine wpAny_List_spliced (be (h pos pins s σ H _ I hq) fun us s1 ⟨xs,H1,I1,r,z,q⟩=>⟨by rw[<- r.length];exact z,?_⟩)
 have hf:H1 s1.heap.objs.size=none:=I1.hok.fresh (ZP _)
 refine⟨.ref s1.heap.objs.size,bv H1 s1.heap.objs.size (.lst xs),I1.laid (t':=s1.toks) (fun b u e=>ZM _ e) (ZP _) ?_,rfl,q _ hf⟩
 exact⟨z,us,0,r,ZQ _ rfl⟩
end
abbrev Sp:=List V->Hp->VK->XK->Prop
abbrev jv:=List Env->Hp->Shared->XK->Value->Shared->Prop
structure jH(P:Program)(w:World)(K:W.Frag)(mg:Str->Option Value)(base:Heap)(A:Around)(outer:List Env)(s:Shared)(H:Hp):Prop where
 frames:A.frames=some outer
 mod:Mod K mg base
 bs:∀b o,base.get? b=some o->s.heap.get? b=some o/\H b=none
 bsz:base.objs.size<=s.heap.objs.size
 funs:s.heap.FunFrames base outer
 frf:∀b∈jY outer,H b=none
 hok:fh P w H s.heap
 bare:AllBare s.gens
def CE(outer:List Env)(P:Program)(w:World)(H:Hp)(s:Shared)(Q:VK)(u:Value)(s':Shared):Prop :=
 ∃v H',s'.os=s.os/\AllBare s'.gens/\Un (jY outer) [] H H' s.heap s'.heap/\fh P w H' s'.heap/\bo v u/\Q v H'
def CR(CX:jv)(outer:List Env)(P:Program)(w:World)(H:Hp)(s:Shared)(Q:VK)(E:XK)(r:Result)(s':Shared):Prop :=
 match r with
 | .ok (.ret u)=>CE outer P w H s Q u s'
 | .ok _=>False
 | .error e=>CX outer H s E e s'
structure cu(P:Program)(w:World)(K:W.Frag)(mg:Str->Option Value)(base:Heap)(CX:jv)(k:Nat)(f:Addr)(fd:FuncData)(ps:List Str)(sp:Sp):Prop where
 len:∀vs H Q E,sp vs H Q E->vs.length=ps.length
 run:∀(A:Around) (outer:List Env) (s:Shared) (H:Hp) (args:Args) (us:List Value) (vs:List V) (Q:VK) (E:XK),cA k A->jH P w K mg base A outer s H->BindsTo s fd args (ps.zip us)->aW vs us->sp vs H Q E ->
  codeAny (model P w) A (.call (.ref f) args) (CR CX outer P w H s Q E) s
theorem cu.mono{CX:jv}{f:Addr}{sp:Sp}(F:cu P w K mg base CX j f fd ps sp)(h:j<=k) :
  cu P w K mg base CX k f fd ps sp:=⟨F.len,fun A outer s H args us vs Q E hr=>F.run A outer s H args us vs Q E (hr.mono h)⟩
theorem jH.make(e:jH P w K mg base A outer s H)(C:Addr)(us:List Value)(kw:List (Str×Value)) :
  jH P w K mg base (A.under (.builtin "type.__call__" ⟨.ref C::us,kw⟩)) outer s H:=⟨by first|exact e.frames|(simpa [Around.under,Code.envs,Code.isFrame,pushEnvs]using e.frames),e.mod,e.bs,e.bsz,e.funs,e.frf,e.hok,e.bare⟩
theorem jH.in1(e:jH P w K mg base A outer s H) :
  jH P w K mg base A.in1 outer s H:=⟨e.frames,e.mod,e.bs,e.bsz,e.funs,e.frf,e.hok,e.bare⟩
section
theorem Inv.env0(I:Inv X pins σ H s):jH X.prog X.w X.K X.mg X.base X.A X.stack s H :=
 ⟨I.ok.frames,I.ok.mod,I.bs,ZN I.ok.bsz I.sz,I.stack,I.stkFree,I.hok,I.bare⟩
theorem Inv.after{Q:VK}(I:Inv X pins σ H s)(h:CE X.stack X.prog X.w H s Q u s'):EP X pins σ Q u s':=by
 obtain⟨v,H',os,bare,un,hok,r,q⟩:=h
 obtain⟨hh,g,d,t,os'⟩:=s'
 obtain rfl:os'=s.os:=os
 exact⟨v,H',I.call (h':=hh) (g':=g) (d':=d) (t':=t) (ch:=[]) un hok bare (fun b z=>absurd z (by simp)),r,q⟩
end
def xA(sp:Sp)(dvs:List V)(E:XK)(t:TA):TE:=fun σ H Q=>t σ H fun vs H1=>sp (vs++dvs) H1 Q E
def Dw(C:Addr)(m:Str)(sp:Sp)(dvs:List V)(E:XK)(ta:TE)(t:TA):TE:=fun σ H Q=>ta σ H fun x H1 => ∃a dx fs,x=.ref a/\H1 a=some (.ins C dx fs)/\fs.lookup m=none /\
 t σ H1 fun vs H2=>sp (x::(vs++dvs)) H2 Q E
def Dx(C:Addr)(sp:Sp)(dvs:List V)(E:XK)(t:TA):TE:=fun σ H Q=>t σ H fun vs H1 => ∀x dx,H1 x=none->H1 dx=none->dx≠x ->
 sp (.ref x::(vs++dvs)) (bv (bv H1 dx (.own x)) x (.ins C dx [])) (fun v H2=>v=.non/\Q (.ref x) H2) E
def dk(K:W.Frag)(fd:FuncData)(ps:List Str)(ds:List Value):Prop :=
 ∀(s:Shared) (us:List Value),K.In s.heap->(us++ds).length=ps.length->BindsTo s fd ⟨us,[]⟩ (ps.zip (us++ds))
theorem dk.all(h:∀us:List Value,us.length=ps.length->bindArgs fd ⟨us,[]⟩=pure (ps.zip us)):dk K fd ps []:=fun s us _ hl=>by
 rw[ad1]at hl⊢
 exact .of_eq (h us hl)
def gh(CX:jv)(X:Cx)(E:XK):Prop:=∀(pins:List (Addr×Obj)) (σ:St) (H:Hp) (s:Shared) (e:Value) (s':Shared),Inv X pins σ H s->CX X.stack H s E e s'->X.xe e s'
section
variable{CX:jv}{f:Addr}{sp:Sp}{dvs:List V}{ds:List Value}{E:XK}{m:Str}{apos:Pos}{o:Expr}{ta:TE}{t:TA}
theorem lG{Q:VK}(F:cu X.prog X.w X.K X.mg X.base CX k f fd ps sp)(hr:cA k X.A)(hb:dk X.K fd ps ds)(hd:aW dvs ds)(hx:gh CX X E)
  (I:Inv X pins σ H s) (r:aW vs us) (h:sp (vs++dvs) H Q E):wpAny (model X.prog X.w) X.A (call (.ref f) us) (EP X pins σ Q) X.xe s:=by
 have r2:aW (vs++dvs) (us++ds):=r.append hd
 have hl:(us++ds).length=ps.length:=by rw[<- r2.length];exact F.len _ _ _ _ h
 refine wpAny_call (aj5 (F.run X.A X.stack s H ⟨us,[]⟩ (us++ds) (vs++dvs) Q E hr I.env0 (hb s us I.kIn hl) r2 h) fun r s' hq=>?_)
 cases r with
 | error e=>exact hx pins σ H s e s' I hq
 | ok fl =>
  cases fl with
  | ret u=>exact I.after hq
  | next=>exact False.elim hq
  | brk=>exact False.elim hq
  | cont=>exact False.elim hq
theorem FZ(F:cu X.prog X.w X.K X.mg X.base CX k f fd ps sp)(hr:cA k X.A)(hg:Gl X x)(hm:X.mg x=some (.ref f))(hk:W.keepIn X.K (.ref f)=true)(hb:dk X.K fd ps ds)(hd:aW dvs ds)(hx:gh CX X E)
  (ha:PA X (e::es) t) (hdb:(x==("__debug__" : Str))=false:=by decide) (he:starEach (e::es) X.env=(false,eval e X.env)::starEach es X.env:=by rfl) (hpl:(backTo pos (starEach es X.env)).any (·.1)=false:=by rfl) :
  PE X (.Call (.Name x p) (e::es) [] pos) (xA sp dvs E t):=by
 intro pins s σ H Q I h
 refine af1 (iQ I hg hm ?_ hdb)
 refine W.callWith_K (h₀:=X.base) I.ok.mod.kin hk (be (ha pos pins s σ H _ I h) fun us s1 ⟨vs,H1,I1,r,q⟩=>⟨I1.kIn,?_⟩) he hpl
 exact lG F hr hb hd hx I1 r q
theorem BX(F:cu X.prog X.w X.K X.mg X.base CX k f fd ps sp)(hr:cA k X.A)(hg:Gl X x)(hm:X.mg x=some (.ref f))(hk:W.keepIn X.K (.ref f)=true)(hb:dk X.K fd ps ds)(hd:aW dvs ds)(hx:gh CX X E)
  (hdb:(x==("__debug__" : Str))=false:=by decide):PE X (.Call (.Name x p) [] [] pos) (xA sp dvs E xz):=by
 intro pins s σ H Q I h
 refine af1 (iQ I hg hm ?_ hdb)
 exact W.callWith_K0 I.kIn hk (lG (us:=[]) F hr hb hd hx I .nil h)
theorem FX(he:PE X o ta)(c:fE X.K C)(hm:rF X.K C m f)(F:cu X.prog X.w X.K X.mg X.base CX k f fd ps sp)(hr:cA k X.A)(hb:dk X.K fd ps ds)(hd:aW dvs ds)(hx:gh CX X E)(ha:PA X (e::es) t)
  (hst:starEach (e::es) X.env=(false,eval e X.env)::starEach es X.env:=by rfl) (hpl:(backTo pos (starEach es X.env)).any (·.1)=false:=by rfl)
  (ht:eval (.Call (.Attribute o m apos) (e::es) [] pos) X.env=(do
   let ov <- eval o X.env
   standAt apos.atName
   let (f,first) <- holding [ov] (getMethod ov m pl)
   callWith pos f first (backTo pos (starEach (e::es) X.env)) (backToKw pos (keywordEach [] X.env))):=by rfl) :
  PE X (.Call (.Attribute o m apos) (e::es) [] pos) (Dw C m sp dvs E ta t):=by
 intro pins s σ H Q I h
 refine W.methodCall_KW (pl:=pl) (be (he pins s σ H _ I h) fun u s1 ⟨x,H1,I1,rx,a,dx,fs,ex,ea,l,q⟩=>?_) ht
 subst ex
 obtain rfl:u=Value.ref a:=rx
 refine oX I1 ea c hm l ?_
 refine W.callWith_K (first:=[.ref a]) (h₀:=X.base) I.ok.mod.kin hm.kp (be (ha pos pins s1 σ H1 _ I1 q) fun us s2 ⟨vs,H2,I2,r,q2⟩=>⟨I2.kIn,?_⟩) hst hpl
 exact lG (us:=.ref a::us) (vs:=.ref a::vs) F hr hb hd hx I2 (.cons rfl r) q2
theorem BT(he:PE X o ta)(c:fE X.K C)(hm:rF X.K C m f)(F:cu X.prog X.w X.K X.mg X.base CX k f fd ps sp)(hr:cA k X.A)(hb:dk X.K fd ps ds)(hd:aW dvs ds)(hx:gh CX X E)
  (ht:eval (.Call (.Attribute o m apos) [] [] pos) X.env=(do
   let ov <- eval o X.env
   standAt apos.atName
   let (f,first) <- holding [ov] (getMethod ov m pl)
   callWith pos f first (backTo pos (starEach [] X.env)) (backToKw pos (keywordEach [] X.env))):=by rfl) :
  PE X (.Call (.Attribute o m apos) [] [] pos) (Dw C m sp dvs E ta xz):=by
 intro pins s σ H Q I h
 refine W.methodCall_KW (pl:=pl) (be (he pins s σ H _ I h) fun u s1 ⟨x,H1,I1,rx,a,dx,fs,ex,ea,l,q⟩=>?_) ht
 subst ex
 obtain rfl:u=Value.ref a:=rx
 refine oX I1 ea c hm l ?_
 exact W.callWith_K0 (first:=[.ref a]) I1.kIn hm.kp (lG (us:=[.ref a]) (vs:=[.ref a]) F hr hb hd hx I1 (.cons rfl .nil) q)
structure Mk(K:W.Frag)(C f:Addr):Prop where
 makes:W.makesIn K C=true
 init:W.findIn K (.ref C) "__init__" = some (some (.ref f))
 fn:W.isFn K (.ref f)=true
 kp:W.keepIn K (.ref C)=true
theorem ue{Q:VK}(M:Mk X.K C f)(F:cu X.prog X.w X.K X.mg X.base CX k f fd ps sp)(hr:cA (k+1) X.A)(hb:dk X.K fd ps ds)(hd:aW dvs ds)
  (hx:gh CX X E) (I:Inv X pins σ H s) (r:aW vs us)
  (h:∀x dx,H x=none->H dx=none->dx≠x->sp (.ref x::(vs++dvs)) (bv (bv H dx (.own x)) x (.ins C dx [])) (fun v H2=>v=.non/\Q (.ref x) H2) E) :
  wpAny (model X.prog X.w) X.A (call (.ref C) us) (EP X pins σ Q) X.xe s:=by
 have hq:=h (s.heap.objs.size+1) s.heap.objs.size (I.hok.fresh (Nat.le_succ _)) (I.hok.fresh (ZP _)) (ac1 (ac5 _))
 have I2:=Inv.made (C:=C) I
 have r2:aW (V.ref (s.heap.objs.size+1)::(vs++dvs)) (Value.ref (s.heap.objs.size+1)::(us++ds)):=.cons rfl (r.append hd)
 have hl:(Value.ref (s.heap.objs.size+1)::us++ds).length=ps.length:=by
  have e:=r2.length
  rw[F.len _ _ _ _ hq]at e
  exact e.symm
 refine wpAny_call (Cd (f:=f) I.kIn M.makes M.init (aj8.mp M.fn) (aj5 (F.run _ X.stack _ _ ⟨Value.ref (s.heap.objs.size+1)::us,[]⟩ (Value.ref (s.heap.objs.size+1)::(us++ds)) _ _ E (hr.make C us [])
  (I2.env0.make C us []) (hb _ (Value.ref (s.heap.objs.size+1)::us) I2.kIn hl) r2 hq) fun r s' hq'=>?_))
 cases r with
 | error e=>exact hx pins σ _ _ e s' I2 hq'
 | ok fl =>
  cases fl with
  | ret u =>
   obtain⟨v,H',I3,rv,ev,q3⟩:=I2.after hq'
   subst ev
   exact⟨rv,⟨V.ref (s.heap.objs.size+1),H',I3,rfl,q3⟩⟩
  | next=>exact False.elim hq'
  | brk=>exact False.elim hq'
  | cont=>exact False.elim hq'
theorem FY(M:Mk X.K C f)(F:cu X.prog X.w X.K X.mg X.base CX k f fd ps sp)(hr:cA (k+1) X.A)(hg:Gl X x)(hm:X.mg x=some (.ref C))(hb:dk X.K fd ps ds)(hd:aW dvs ds)(hx:gh CX X E)
  (ha:PA X (e::es) t) (hdb:(x==("__debug__" : Str))=false:=by decide) (he:starEach (e::es) X.env=(false,eval e X.env)::starEach es X.env:=by rfl) (hpl:(backTo pos (starEach es X.env)).any (·.1)=false:=by rfl) :
  PE X (.Call (.Name x p) (e::es) [] pos) (Dx C sp dvs E t):=by
 intro pins s σ H Q I h
 refine af1 (iQ I hg hm ?_ hdb)
 refine W.callWith_K (h₀:=X.base) I.ok.mod.kin M.kp (be (ha pos pins s σ H _ I h) fun us s1 ⟨vs,H1,I1,r,q⟩=>⟨I1.kIn,?_⟩) he hpl
 exact ue M F hr hb hd hx I1 r q
theorem BU(M:Mk X.K C f)(F:cu X.prog X.w X.K X.mg X.base CX k f fd ps sp)(hr:cA (k+1) X.A)(hg:Gl X x)(hm:X.mg x=some (.ref C))(hb:dk X.K fd ps ds)(hd:aW dvs ds)(hx:gh CX X E)
  (hdb:(x==("__debug__" : Str))=false:=by decide):PE X (.Call (.Name x p) [] [] pos) (Dx C sp dvs E xz):=by
 intro pins s σ H Q I h
 refine af1 (iQ I hg hm ?_ hdb)
 exact W.callWith_K0 I.kIn M.kp (ue (us:=[]) M F hr hb hd hx I .nil h)
end
section
variable{CX:jv}{f:Addr}{ks:List Str}{sp:Sp}{E:XK}{m:Str}{apos kpos:Pos}{o:Expr}{kws:List Keyword}{ta:TE}{t tk:TA}{nm:Option Str}
variable{g:List Value->List Value->List Value}{gV:List V->List V->List V}
end
structure aA(N P:List Str)(sc:Scope):Prop where
 kind:sc.kind=.function
 co:sc.isCoroutine=false
 gen:sc.isGenerator=false
 nd:N.Nodup
 pre:N.take P.length=P
 par:∀x∈P,sc.names.lookup x=some .local\/sc.names.lookup x=some .cell
 nofree:∀y∈sc.names,y.2 ≠ .free
theorem si{kindOf:Str->Option NameKind}{x:Str}:∀{binds:List (Str×Value)} {m:Str->Option Value},(∀v,(x,v)∉binds)->bindL kindOf binds m x=m x
 | [],_,_=>rfl
 | (n,v)::r,m,h=>by
  unfold bindL
  rw[si fun w hw=>h w (ZR _ hw)]
  split
  ·have:x≠n:=by rintro rfl;exact h v ZV
   simp[this]
  ·rfl
theorem sr{kindOf:Str->Option NameKind}{x:Str}:∀{binds:List (Str×Value)} {m:Str->Option Value},(∀v,(x,v)∉binds)->bindC kindOf binds m x=m x
 | [],_,_=>rfl
 | (n,v)::r,m,h=>by
  unfold bindC
  rw[sr fun w hw=>h w (ZR _ hw)]
  split
  ·rfl
  ·have:x≠n:=by rintro rfl;exact h v ZV
   simp[this]
theorem sj{kindOf:Str->Option NameKind}{x:Str}{v:Value}:∀{P:List Str} {vs:List Value} {i:Nat} {m:Str->Option Value},P.Nodup->P[i]?=some x->vs[i]?=some v->kindOf x=some .local ->
  bindL kindOf (P.zip vs) m x=some v
 | [],_,_,_,_,h,_,_=>by simp at h
 | _::_,[],_,_,_,_,h,_=>by simp at h
 | p::P,w::vs,0,m,nd,h1,h2,hk=>by
  simp at h1 h2;subst h1;subst h2
  show bindL kindOf ((p,w)::P.zip vs) m p=_
  unfold bindL
  rw[si fun v hv=>(ak5.mp nd).1 (List.of_mem_zip hv).1,if_pos hk]
  simp
 | p::P,w::vs,i+1,m,nd,h1,h2,hk=>by
  show bindL kindOf ((p,w)::P.zip vs) m x=_
  unfold bindL
  exact sj (i:=i) (ak5.mp nd).2 (by simpa using h1) (by simpa using h2) hk
theorem su{kindOf:Str->Option NameKind}{x:Str}{v:Value}:∀{P:List Str} {vs:List Value} {i:Nat} {m:Str->Option Value},P.Nodup->P[i]?=some x->vs[i]?=some v->kindOf x≠some .local ->
  bindC kindOf (P.zip vs) m x=some v
 | [],_,_,_,_,h,_,_=>by simp at h
 | _::_,[],_,_,_,_,h,_=>by simp at h
 | p::P,w::vs,0,m,nd,h1,h2,hk=>by
  simp at h1 h2;subst h1;subst h2
  show bindC kindOf ((p,w)::P.zip vs) m p=_
  unfold bindC
  rw[sr fun v hv=>(ak5.mp nd).1 (List.of_mem_zip hv).1,if_neg hk]
  simp
 | p::P,w::vs,i+1,m,nd,h1,h2,hk=>by
  show bindC kindOf ((p,w)::P.zip vs) m x=_
  unfold bindC
  exact su (i:=i) (ak5.mp nd).2 (by simpa using h1) (by simpa using h2) hk
def start(N:List Str)(vs:List V):St:=vs.map some++List.replicate (N.length-vs.length) none
def kS(CX:jv)(P:Program)(w:World)(K:W.Frag)(mg:Str->Option Value)(base:Heap)(N:List Str)(qual:Str)(scope:Scope)(f:Addr)(cd:Value)(A:Around)(outer:List Env)(s:Shared)(H:Hp)(E:XK):Cx where
 prog:=P
 w:=w
 K:=K
 mg:=mg
 base:=base
 A:=A.deeper (envOfC qual scope s.heap.objs.size f cd)
 N:=N
 s₀:=s
 H₀:=H
 env:=envOfC qual scope s.heap.objs.size f cd
 outer:=outer
 stack:=envOfC qual scope s.heap.objs.size f cd::outer
 ex:=[]
 calm:=true
 fn:=fun _=>true
 pn:=[]
 xe:=fun e s'=>wpAny (model P w) (A.deeper (envOfC qual scope s.heap.objs.size f cd)) (leaving (envOfC qual scope s.heap.objs.size f cd) e) (fun _ s''=>CX outer H s E e s'') (fun e' s''=>CX outer H s E e' s'') s'
theorem vo{sc:Scope}(h:sc.names.lookup x=some .cell):∃c,(cellsFrom n sc.names []).lookup x=some c:=by
 have q:=W.cellsFrom_some sc.names n [] (.inl h)
 exact Option.isSome_iff_exists.mp q
theorem Al{CX:jv}{f:Addr}{cd:Value}{s1:Shared}{E:XK}
  (S:aA N ps scope) (hd:A.handled=none) (e0:jH P w K mg base A outer s H) (hl:vs.length=ps.length) (r:aW vs us)
  (x:InCallC s s.heap.objs.size (bindL (envOfC qual scope s.heap.objs.size f cd).kindOf (ps.zip us) fun _=>none) (cellsFrom (s.heap.objs.size+1) scope.names []) (bindC (envOfC qual scope s.heap.objs.size f cd).kindOf (ps.zip us) fun _=>none) s1) :
  Inv (kS CX P w K mg base N qual scope f cd A outer s H E) [] (start N vs) H s1:=by
 have hpl:ps.length<=N.length:=by have:=ad4 List.length S.pre;rw[aj9]at this;omega
 obtain⟨h1,tk,rfl,hk⟩:=x.done
 have noA:∀b:Addr,b∉(kS CX P w K mg base N qual scope f cd A outer s H E).ex:=fun b z=>absurd (show b∈([]:List Addr)from z) (by simp)
 refine⟨⟨e0.mod,S.kind,rfl,rfl,ZP _,fun y z c h1 h2=>?_,fun y hy=>?_,fun y c _ h=>?_,fun _=>hd,Around.frames_deeper e0.frames,.inr ⟨rfl,rfl⟩,fun b z=>absurd z (noA b),e0.bs,e0.bsz,fun b _ _=>noA b,fun b z=>absurd z (noA b),e0.funs,e0.frf⟩,
  rfl,e0.bare,Un.kept hk,⟨_,x.toInCall.ns,fun i y v h1 h2 h3=>?_⟩,fun y c h=>⟨_,x.cell y c h⟩,e0.hok.fresh (ZP _),fun y c h=>?_,fun p hp=>absurd (show p∈([]:List (Addr×Obj))from hp) (by simp),e0.hok.kept hk,?_⟩
 ·exact name_of_addr x.apart (aa0 h1) (aa0 h2)
 ·have hy:scope.names.lookup y=some .cell\/scope.names.lookup y=some .free:=hy
  rcases hy with hy|hy
  ·exact vo hy
  ·exact absurd rfl (S.nofree _ (aa0 hy))
 ·exact aj4 (x.above y c (aa0 h))
 ·have hi:i<vs.length:=by
   unfold start at h2
   by_cases hi:i<vs.length
   ·exact hi
   ·rw[List.getElem?_append_right (by simpa using hi)]at h2
    rw[List.getElem?_replicate]at h2
    split at h2<;>cases h2
  have ha:vs[i]?=some v:=by
   unfold start at h2
   rw[List.getElem?_append_left (by simpa using hi),af8]at h2
   cases e:vs[i]? with
   | none=>rw[e]at h2;cases h2
   | some a=>rw[e]at h2;cases h2;rfl
  obtain⟨u,hu,rv⟩:=r.get ha
  have hp:ps[i]?=some y:=by
   rw[<- S.pre,List.getElem?_take_of_lt (by omega)];exact h1
  have ndP:ps.Nodup:=by rw[<- S.pre];exact S.nd.sublist (List.take_sublist _ _)
  refine⟨u,rv,?_⟩
  rcases S.par y (ae0 hp)with k|k
  ·exact .inl ⟨k,sj ndP hp hu k⟩
  ·obtain⟨c,e⟩:=vo (n:=s.heap.objs.size+1) k
   refine .inr ⟨.inl k,c,e,?_⟩
   have q:=x.cell y c e
   rw[su ndP hp hu (by show scope.names.lookup y≠_;rw[k];decide)]at q
   exact q
 ·exact e0.hok.fresh (aj4 (x.above y c (aa0 h)))
 ·unfold start
  show _=N.length
  rw[ae1,ab6,List.length_replicate]
  omega
theorem Pa{CX:jv}{f:Addr}{name:Str}{params:Arguments}{dV kV doc pm cdv ct oc:Value}{an od:Option Addr}
  {osl:Array (Option Value)} {sp:Sp} (lk:K.lookup f=some ⟨oc,od,.func (W.fnOf name qual params body scope dV kV doc pm an cdv ct),osl⟩) (hcd:W.codeIn K cdv qual=true) (S:aA N ps scope)
  (len:∀vs H Q E,sp vs H Q E->vs.length=ps.length)
  (hbody:∀(A:Around) (outer:List Env) (s:Shared) (H:Hp) (vs:List V) (Q:VK) (E:XK),cA k (A.deeper (envOfC qual scope s.heap.objs.size f cdv))->sp vs H Q E ->
   ∃t,gM (kS CX P w K mg base N qual scope f cdv A outer s H E) body t/\t { nx:=fun _ H'=>Q .non H',rt:=Q } (start N vs) H) :
  cu P w K mg base CX (k+1) f (W.fnOf name qual params body scope dV kV doc pm an cdv ct) ps sp:=by
 refine⟨len,fun A outer s H args us vs Q E hr e0 hb r hsp=>?_⟩
 have hl:=len _ _ _ _ hsp
 have KX:K.In s.heap:=e0.mod.kin.keeps fun b o e=>(e0.bs b o e).1
 have lim:s.heap.NoLimit:=e0.mod.nolimit.keeps fun b o e=>(e0.bs b o e).1
 have hkind:∀y∈ps.zip us,scope.names.lookup y.1=some .local\/(scope.names.lookup y.1=some .cell/\((cellsFrom (s.heap.objs.size+1) scope.names []).lookup y.1).isSome=true):=fun⟨n,v⟩ hy=>by
  rcases S.par n (List.of_mem_zip hy).1 with q|q
  ·exact .inl q
  ·exact .inr ⟨q,W.cellsFrom_some _ _ _ (.inl q)⟩
 refine codeAny_call_function hr.depth (KX _ _ lk) rfl S.co S.gen rfl (W.codeRec_of KX hcd) (hb _ _ _ _ ?_)
 refine wpAny_newFunctionEnv_cells S.kind hkind fun env he s1 x=>?_
 subst he
 refine⟨lim.keeps x.toInCall.keep,codeAny_func ?_⟩
 obtain⟨t,ht,hq⟩:=hbody A outer s H vs Q E (hr.deeper _) hsp
 have I:Inv (kS CX P w K mg base N qual scope f cdv A outer s H E) [] (start N vs) H s1:=Al S hr.hd e0 hl r x
 refine ag3 (ht [] s1 (start N vs) H _ I hq) (fun fl s' hs=>?_) fun e s' hs=>hs
 have fin:∀{σ':St} {H':Hp} {v:V} {u:Value},Inv (kS CX P w K mg base N qual scope f cdv A outer s H E) [] σ' H' s'->bo v u->Q v H'->CE outer P w H s Q u s' :=
  fun {σ' H' v u} J rv q=>⟨v,H',J.os,J.bare,J.base,J.hok,rv,q⟩
 cases fl with
 | ret u =>
  obtain⟨v,σ',H',J,rv,q⟩:=hs
  exact fin J rv q
 | next =>
  obtain⟨σ',H',J,q⟩:=hs
  exact fin (v:=V.non) (u:=Value.none) J rfl q
 | brk =>
  obtain⟨_,_,_,q⟩:=hs
  exact False.elim q
 | cont =>
  obtain⟨_,_,_,q⟩:=hs
  exact False.elim q
section
variable{t:TA}{id T:String}{r:List V->Hp->VK->Prop}
def Qb(r:List V->Hp->VK->Prop)(t:TA):TE:=fun σ H Q=>t σ H fun vs H1=>r vs H1 Q
theorem BW(hc:dN X (.builtin id) r)(hg:Gl X x)(hm:X.mg x=none)(hv:bootBuiltins x=some (.builtin id))(ha:PA X (e::es) t)(hn:x ≠ "__name__" := by decide)(hdb:(x==("__debug__" : Str))=false:=by decide)
  (he:starEach (e::es) X.env=(false,eval e X.env)::starEach es X.env:=by rfl) (hpl:(backTo pos (starEach es X.env)).any (·.1)=false:=by rfl):PE X (.Call (.Name x p) (e::es) [] pos) (Qb r t):=by
 intro pins s σ H Q I h
 refine af1 (gw I hg hm hv ?_ hn hdb)
 exact PyProof.Rows.callWith_builtin1 (be (ha pos pins s σ H _ I h) fun us s1 ⟨vs,H1,I1,r1,q1⟩=>hc pins s1 σ H1 vs us Q I1 r1 q1) he hpl
theorem zN(hc:dN X (.type T) r)(hg:Gl X x)(hm:X.mg x=none)(hv:bootBuiltins x=some (.type T))(ha:PA X (e::es) t)(hn:x ≠ "__name__" := by decide)(hdb:(x==("__debug__" : Str))=false:=by decide)
  (he:starEach (e::es) X.env=(false,eval e X.env)::starEach es X.env:=by rfl) (hpl:(backTo pos (starEach es X.env)).any (·.1)=false:=by rfl):PE X (.Call (.Name x p) (e::es) [] pos) (Qb r t):=by
 intro pins s σ H Q I h
 refine af1 (gw I hg hm hv ?_ hn hdb)
 exact ae9 (be (ha pos pins s σ H _ I h) fun us s1 ⟨vs,H1,I1,r1,q1⟩=>hc pins s1 σ H1 vs us Q I1 r1 q1) he hpl
end
end L2
namespace HT
open PySem PyProof.Rows
variable{sl t:Addr}{Q:Value->Shared->Prop}{vl vu:Value}{hi lo:Option Int}
def lexLt:List Int->List Int->Bool
 | [],[]=>false
 | [],_::_=>true
 | _::_,[]=>false
 | x::xs,y::ys=>if x=y then lexLt xs ys else decide (x<y)
section
open PySem.SeqAt
open PySem.AutoSeq1 (wpAny_loadPart')
open PySem.MeetsSeq PySem.MeetsSeq2 PySem.MeetsSeq3
end
section
variable{prog:Program}{w:World}{A:Around}{E:Value->Shared->Prop}{s:Shared}
theorem cat_tup{b:Addr}{vs ws:List Value}(ht:IsTup s.heap t vs.toArray)(hb:IsTup s.heap b ws.toArray)(hv:vs≠[])
  (h1:ws=[]->Q (.ref t) s) (h2:ws≠[]->Q (.ref s.heap.objs.size) { s with heap:=s.heap.push { cls:=.type "tuple", data:=.seq (vs++ws).toArray } })
  (hsz:vs.length+ws.length<=sizeLine):wpAny (model prog w) A (binaryOp .Add (.ref t) (.ref b)) Q E s:=by
 obtain⟨⟨cls,dd,data,sl⟩,ho,hc,n,hd⟩:=id ht
 obtain⟨⟨cls2,dd2,data2,sl2⟩,ho2,hc2,n2,hd2⟩:=id hb
 simp only at hc hd hc2 hd2
 subst hc hd hc2 hd2
 have e:vs.toArray++ws.toArray=(vs++ws).toArray:=by simp
 by_cases hw:ws=[]
 ·exact concat_meets ⟨_,ho,rfl⟩ ⟨_,ho2,rfl⟩ noFill_tuple_add seq_tuple_add PySem.F.slot_tuple_add PySem.F.entry_tuple_add (PySem.F.args_tuple_add_2 _ _)
   (tuple_addW1 t b vs.toArray ws.toArray n n2 dd dd2 sl sl2 (by simpa using hv) (by simp[hw])) ⟨ho,ho2,h1 hw⟩
 ·refine concat_meets ⟨_,ho,rfl⟩ ⟨_,ho2,rfl⟩ noFill_tuple_add seq_tuple_add PySem.F.slot_tuple_add PySem.F.entry_tuple_add (PySem.F.args_tuple_add_2 _ _)
   (tuple_addW2 t b vs.toArray ws.toArray n n2 dd dd2 sl sl2 (by simpa using hv) (by simpa using hw) (by rw[aa2,aa2];exact hsz)) ⟨ho,ho2,?_⟩
  rw[e]
  exact h2 hw
def sIx(n d:Nat):Option Int->Nat
 | none=>d
 | some v=>if v<0 then(v+(n:Int)).toNat else min v.toNat n
theorem IP(n d:Nat)(hd:d<=n)(o:Option Int):sIx n d o<=n:=by
 cases o with
 | none=>exact hd
 | some v =>
  show(if v<0 then(v+(n:Int)).toNat else min v.toNat n)<=n
  by_cases hv:v<0
  ·rw[if_pos hv];omega
  ·rw[if_neg hv];exact Nat.min_le_right _ _
theorem xb(v:Int)(n d:Nat):(if v<0 then max (v+(n:Int)) 0 else min v (n:Int))=((sIx n d (some v):Nat):Int):=by
 show(if v<0 then max (v+(n:Int)) 0 else min v (n:Int))=(((if v<0 then(v+(n:Int)).toNat else min v.toNat n):Nat):Int)
 by_cases hv:v<0
 ·simp only[if_pos hv];omega
 ·simp only[if_neg hv];omega
theorem yO(lo hi:Option Int)(n:Nat):Builtin.Slice.sliceAdjust lo hi 1 (n:Int)=(((sIx n 0 lo:Nat):Int),((sIx n n hi:Nat):Int)):=by
 have h1:¬ ((1:Int)<0):=by omega
 unfold Builtin.Slice.sliceAdjust
 simp only[h1,ak9]
 refine Prod.ext ?_ ?_
 ·cases lo with
  | none=>rfl
  | some v=>exact xb v n 0
 ·cases hi with
  | none=>rfl
  | some v=>exact xb v n n
theorem xO(i j:Nat):Builtin.Slice.slicePlaces (i:Int) (j:Int) 1=j-i:=by
 unfold Builtin.Slice.slicePlaces
 have h1:(1:Int)>0:=by omega
 simp only[h1,ai7,Int.ediv_one]
 split<;>omega
theorem oz{v:Value}{o:Option Int}{Q:Option Int->Shared->Prop}(p:IsPart v o)(h:Q o s):wpAny (model prog w) A (Builtin.Slice.slicePartIndex v) Q E s:=by
 cases p with
 | none=>exact slicePart_none h
 | int i t=>exact slicePart_int h
theorem nL{n:Nat}{Q:Int×Int×Nat->Shared->Prop}(hs:s.heap.IsSliceOf sl vl vu .none)(pl:IsPart vl lo)(pu:IsPart vu hi)
  (h:Q (((sIx n 0 lo:Nat):Int),1,sIx n n hi-sIx n 0 lo) s):wpAny (model prog w) A (Builtin.Slice.sliceApplied (.ref sl) (pure (n:Int))) Q E s:=by
 obtain⟨os,hos,hcs,hds⟩:=id hs
 unfold Builtin.Slice.sliceApplied Builtin.Slice.sliceFields
 refine ZL (ZL (ab4 hos hds (x:=vl) rfl (ZL (ab4 hos hds (x:=vu) rfl (ZL (ab4 hos hds (x:=.none) rfl (ZO ?_)))))))
 refine ZL (slicePart_none ?_)
 show wpAny _ _ (if ((1:Int)==0)=true then _ else _) _ _ s
 rw[if_neg (by decide)]
 refine ZL (oz pl (ZL (oz pu (ZL (ZO ?_)))))
 show wpAny _ _ (match Builtin.Slice.sliceAdjust lo hi 1 (n:Int)with|(lo,hi)=>pure (lo,(1:Int),Builtin.Slice.slicePlaces lo hi 1)) _ _ s
 rw[yO lo hi n]
 show wpAny _ _ (pure (((sIx n 0 lo:Nat):Int),(1:Int),Builtin.Slice.slicePlaces ((sIx n 0 lo:Nat):Int) ((sIx n n hi:Nat):Int) 1)) _ _ s
 rw[xO]
 exact ZO h
theorem BS(xs:Array Value)(i k:Nat):((List.range k).filterMap fun(m:Nat)=>xs[((i:Int)+(m:Int)*1).toNat]?).toArray=((xs.toList.drop i).take k).toArray:=by
 have e:(fun(m:Nat)=>xs[((i:Int)+(m:Int)*1).toNat]?)=fun m=>xs[i+m]?:=by
  funext m
  have:((i:Int)+(m:Int)*1).toNat=i+m:=by omega
  rw[this]
 rw[e]
 have:=pick_run xs i k
 rw[List.filterMap_map]at this
 have e2:((fun x=>xs[x]?) ∘ fun x=>i+x)=fun m=>xs[i+m]?:=rfl
 rw[e2]at this
 rw[this]
theorem getItem_tuple_cut{items:Array Value}(ht:IsTup s.heap t items)(hs:s.heap.IsSliceOf sl vl vu .none)(pl:IsPart vl lo)(pu:IsPart vu hi)
  (hw:¬ (sIx items.size 0 lo=0/\sIx items.size items.size hi=items.size))
  (h:Q (.ref s.heap.objs.size) { s with heap:=s.heap.push { cls:=.type "tuple", data:=.seq ((items.toList.drop (sIx items.size 0 lo)).take (sIx items.size items.size hi-sIx items.size 0 lo)).toArray } })
  (hsz:items.size<=sizeLine):wpAny (model prog w) A (getItem (.ref t) (.ref sl)) Q E s:=by
 have htake:sizeOk (.seq ((items.toList.drop (sIx items.size 0 lo)).take (sIx items.size items.size hi-sIx items.size 0 lo)).toArray):=by
  show((items.toList.drop (sIx items.size 0 lo)).take (sIx items.size items.size hi-sIx items.size 0 lo)).toArray.size<=sizeLine
  rw[aa2,aj9,List.length_drop,Array.length_toList]
  omega
 have hj:sIx items.size items.size hi<=items.size:=IP _ _ (ZP _) hi
 obtain⟨os,hos,hcs,hds⟩:=id hs
 have hTs:s.TypeIs (.ref sl) "slice" := ⟨os,hos,hcs⟩
 unfold getItem
 try with_reducible refine af4 ?_
 first|refine ZL (ZO ?_)|skip
 refine ZL (wpAny_sequenceKey ht.typeIs (by decide) ?_)
 refine ZL (ac9 (name:=Str.ofString "__getitem__") ht.typeIs PyProof.Rows.slot_tuple_getitem
  (af3 PyProof.Rows.slot_tuple_getitem ht.typeIs entry_tuple_getitem ?_ (args_tuple_getitem _ _)))
 show wpAny _ _ (Builtin.Tuple.tupleItemsOf (.ref t) >>= _) _ _ s
 refine ZL (tupleItemsOf_ ht ?_)
 refine ZL (wpAny_typeOf hTs ?_)
 rw[if_pos (by decide)]
 refine ZL (nL hs pl pu ?_)
 have hno:¬ ((((sIx items.size 0 lo:Nat):Int)==0&&(1:Int)==1&&(sIx items.size items.size hi-sIx items.size 0 lo)==items.size)=true):=by
  intro q
  rw[ZZ,ZZ]at q
  have q1:((sIx items.size 0 lo:Nat):Int)=0:=eq_of_beq q.1.1
  have q2:sIx items.size items.size hi-sIx items.size 0 lo=items.size:=eq_of_beq q.2
  exact hw ⟨by omega,by omega⟩
 show wpAny _ _ (if (((sIx items.size 0 lo:Nat):Int)==0&&(1:Int)==1&&(sIx items.size items.size hi-sIx items.size 0 lo)==items.size)=true then _ else _) _ _ s
 rw[if_neg hno,BS]
 first
  | exact ZL (m:=Builtin.Tuple.tupleExact _) (ag4 (ZO ⟨_,rfl,ZO h⟩) htake)
  | exact ZL (m:=Builtin.Tuple.tupleExact _) (ag4 (ZL (ZO (ZO ⟨_,rfl,ZO h⟩))) htake)
  | exact ZL (ZL (m:=Builtin.Tuple.tupleExact _) (ag4 (ZO (ZO ⟨_,rfl,ZO h⟩)) htake))
  | exact ZL (ZL (m:=Builtin.Tuple.tupleExact _) (ag4 (ZO ⟨_,rfl,ZO h⟩) htake))
end
end HT
namespace L2
open PySem PySem.Spec PyProof.Rows
variable{xs:List V}{its its' us:List Value}{j n:Nat}{i:Int}{α:Type}{pins:List (Addr×Obj)}{σ:St}{H:Hp}{s:Shared}{p:Addr}
abbrev TO:=St->Hp->(Option Int->Hp->Prop)->Prop
def PO(X:Cx)(e:Option Expr)(t:TO):Prop :=
 ∀(pins:List (Addr×Obj)) (s:Shared) (σ:St) (H:Hp) (Q:Option Int->Hp->Prop),Inv X pins σ H s->t σ H Q ->
  wpAny (model X.prog X.w) X.A (evalPart e X.env) (fun u s' => ∃o H',Inv X pins σ H' s'/\IsPart u o/\Q o H') X.xe s
def Fr:TO:=fun _ H Q=>Q none H
def NA(t:TE):TO:=fun σ H Q=>t σ H fun x H1 => ∃i,x=.int i/\Q (some i) H1
section
variable{X:Cx}{e:Expr}{te:TE}{lo hi:Option Expr}{tl th:TO}{pos p2:Pos}
theorem FR:PO X none Fr:=by
 intro pins s σ H Q I h
 rw[evalPart_none]
 exact ZO ⟨none,H,I,.none,h⟩
theorem FQ(h:PE X e te):PO X (some e) (NA te):=by
 intro pins s σ H Q I hw
 rw[evalPart_some]
 refine be (h pins s σ H _ I hw) fun u s1 ⟨x,H1,I1,r1,q1⟩=>?_
 obtain⟨i,rfl,q⟩:=q1
 obtain⟨t,rfl⟩:=r1
 exact⟨some i,H1,I1,.int i t,q⟩
def Ek(X:Cx)(r:V->Option Int->Option Int->Hp->VK->Prop):Prop :=
 ∀(pins:List (Addr×Obj)) (s:Shared) (σ:St) (H:Hp) (x:V) (v vl vu:Value) (lo hi:Option Int) (sl:Addr) (Q:VK),Inv X pins σ H s->bo x v->s.heap.IsSliceOf sl vl vu .none->IsPart vl lo->IsPart vu hi->r x lo hi H Q ->
  ∃T id,typeLookup (.type T) "__getitem__" = pure (some (.builtin id))/\s.TypeIs v T/\wpAny (model X.prog X.w) X.A (getItem v (.ref sl)) (EP X pins σ Q) X.xe s
def Zw(r:V->Option Int->Option Int->Hp->VK->Prop)(te:TE)(tl th:TO):TE:=fun σ H Q=>te σ H fun x H1=>tl σ H1 fun l H2=>th σ H2 fun u H3=>r x l u H3 Q
theorem nO{r:V->Option Int->Option Int->Hp->VK->Prop}(hr:Ek X r)(he:PE X e te)(hl:PO X lo tl)(hu:PO X hi th):PE X (.Subscript e (.Slice lo hi none p2) pos) (Zw r te tl th):=by
 intro pins s σ H Q I h
 refine Subscript_ (be (he pins s σ H _ I h) fun v s1 ⟨x,H1,I1,r1,q1⟩=>?_)
 refine wpAny_Slice (be (hl pins s1 σ H1 _ I1 q1) fun vl s2 ⟨l,H2,I2,pl,q2⟩=>be (hu pins s2 σ H2 _ I2 q2) fun vu s3 ⟨u,H3,I3,pu,q3⟩=>?_)
 rw[evalPart_none]
 refine ZO ?_
 have I4:Inv X pins σ H3 { s3 with heap:=s3.heap.push { cls:=.type "slice", data:=.fields #[vl,vu,.none] } }:=I3.kept (t':=s3.toks) fun b ob q=>ZM _ q
 obtain⟨T,id,hT,ht,hg⟩:=hr pins { s3 with heap:=s3.heap.push { cls:=.type "slice", data:=.fields #[vl,vu,.none] } } σ H3 x v vl vu l u s3.heap.objs.size Q I4 r1 (Heap.IsSliceOf.new ..) pl pu q3
 show wpAny (model X.prog X.w) X.A (subscriptTail e (.Slice lo hi none p2) v (.ref s3.heap.objs.size)) (EP X pins σ Q) X.xe { s3 with heap:=s3.heap.push { cls:=.type "slice", data:=.fields #[vl,vu,.none] } }
 exact tail_any (ops:=[.ref s3.heap.objs.size,v]) ht hT hg (by with_unfolding_all rfl)
def jC(xs:List V)(lo hi:Option Int):List V:=(xs.drop (HT.sIx xs.length 0 lo)).take (HT.sIx xs.length xs.length hi-HT.sIx xs.length 0 lo)
theorem nC(xs:List V)(lo hi:Option Int):(jC xs lo hi).length<=xs.length:=by
 unfold jC
 rw[aj9,List.length_drop]
 omega
def Sz(K:W.Frag):V->Option Int->Option Int->Hp->VK->Prop:=fun x lo hi H Q => ∃a xs,x=.ref a/\dh K H a xs /\
 ¬ (HT.sIx xs.length 0 lo=0/\HT.sIx xs.length xs.length hi=xs.length)/\∀p,H p=none->Q (.ref p) (bv H p (.tup (jC xs lo hi)))
theorem Ib:Ek X (Sz X.K):=by
 intro pins s σ H x v vl vu lo hi sl Q I rx hs pl pu h
 obtain⟨a,xs,rfl,hx,hw,q⟩:=h
 cases rx
 obtain⟨its,r,ht,hz⟩:=I.tuple hx
 have hlen:its.toArray.size=xs.length:=by rw[aa2];exact r.length.symm
 refine⟨"tuple", _,PyProof.Rows.slot_tuple_getitem.lookup,ht.typeIs,?_⟩
 refine HT.getItem_tuple_cut ht hs pl pu (by rw[hlen];exact hw) ?_ (by rw[hlen];exact hz)
 rw[hlen]
 refine⟨.ref s.heap.objs.size,_,I.laid (t':=s.toks) (o:=.tup (jC xs lo hi)) (fun b ob q=>ZM _ q) (ZP _) ?_,rfl,q _ (I.hok.fresh (ZP _))⟩
 exact⟨ZN (nC xs lo hi) hz,_,(r.drop (HT.sIx xs.length 0 lo)).take (HT.sIx xs.length xs.length hi-HT.sIx xs.length 0 lo),IsTup.new _ _⟩
def rLtT(K:W.Frag):R2:=fun x y H Q => ∃a b ns ms,x=.ref a/\y=.ref b/\dh K H a (ns.map V.int)/\dh K H b (ms.map V.int)/\Q (.bl (HT.lexLt ns ms)) H
def N0(K:W.Frag):R2:=fun x y H Q => ∃a b xs ys,x=.ref a/\y=.ref b/\dh K H a xs/\dh K H b ys/\xs≠[]/\xs.length+ys.length<=sizeLine /\
 (ys=[]->Q (.ref a) H)/\(ys≠[]->∀p,H p=none->Q (.ref p) (bv H p (.tup (xs++ys))))
theorem aW.nil_iff(r:aW xs us):us=[]↔xs=[]:=by
 cases r with
 | nil=>simp
 | cons _ _=>simp
theorem F9:dD X (binaryOp .Add) (N0 X.K):=by
 intro pins s σ H x y v u Q I rx ry h
 obtain⟨a,b,xs,ys,rfl,rfl,ha,hb,hx,hz,q1,q2⟩:=h
 cases rx
 cases ry
 obtain⟨its,r1,p1,_⟩:=I.tuple ha
 obtain⟨its2,r2,p2,_⟩:=I.tuple hb
 refine HT.cat_tup p1 p2 (fun z=>hx (r1.nil_iff.mp z)) (fun z=>⟨.ref a,H,I,rfl,q1 (r2.nil_iff.mp z)⟩) (fun z=>?_) (by rw[<- r1.length,<- r2.length];exact hz)
 refine⟨.ref s.heap.objs.size,_,I.laid (t':=s.toks) (o:=.tup (xs++ys)) (fun b ob q=>ZM _ q) (ZP _) ?_,rfl,q2 (fun w=>z (r2.nil_iff.mpr w)) _ (I.hok.fresh (ZP _))⟩
 exact⟨by rw[ae1];exact hz,_,r1.append r2,IsTup.new _ _⟩
end
def ixN(n:Nat)(i:Int):Option Nat:=if 0<=i then(if i<n then some i.toNat else none)else if -(n:Int)<=i then some (i+n).toNat else none
def atI{α:Type}(xs:List α)(i:Int):Option α:=(ixN xs.length i).bind fun j=>xs[j]?
theorem wT(h:ixN n i=some j):seqIndex? i n=some j/\j<n /\ -(n:Int)<=i/\i<n:=by
 unfold ixN at h
 by_cases h0:0<=i
 ·rw[if_pos h0]at h
  by_cases h1:i<n
  ·rw[if_pos h1]at h
   have e:i.toNat=j:=ad5 h
   exact⟨by rw[seqIndex_of h0 h1,e],by omega,by omega,h1⟩
  ·rw[if_neg h1]at h;cases h
 ·rw[if_neg h0]at h
  by_cases h1:-(n:Int)<=i
  ·rw[if_pos h1]at h
   have e:(i+n).toNat=j:=ad5 h
   exact⟨by rw[seqIndex_neg (by omega) h1,e],by omega,h1,by omega⟩
  ·rw[if_neg h1]at h;cases h
theorem xf{xs:List α}{v:α}(h:atI xs i=some v):∃j,seqIndex? i xs.length=some j/\xs[j]?=some v/\j<xs.length /\ -(xs.length:Int)<=i/\i<xs.length:=by
 unfold atI at h
 cases e:ixN xs.length i with
 | none=>rw[e]at h;cases h
 | some j =>
  rw[e]at h
  obtain⟨h1,h2,h3,h4⟩:=wT e
  exact⟨j,h1,h,h2,h3,h4⟩
theorem Hl{xs:List α}{v:α}(h:xs[j]?=some v):atI xs (j:Int)=some v:=by
 have hj:j<xs.length:=(aa7.mp h).1
 have e:ixN xs.length (j:Int)=some j:=by
  unfold ixN
  rw[if_pos (by omega),if_pos (by omega)];simp
 unfold atI;rw[e];exact h
def gp(b:Expr):Prop:=∀o i,subscripted b false o i=operate [o,i] (getItem o i)
def Ep(X:Cx)(r:R2):Prop :=
 ∀(value slice:Expr) (pins:List (Addr×Obj)) (s:Shared) (σ:St) (H:Hp) (x y:V) (v u:Value) (Q:VK),Inv X pins σ H s->bo x v->bo y u->r x y H Q ->
  subscripted slice false v u=operate [v,u] (getItem v u)->wpAny (model X.prog X.w) X.A (subscriptTail value slice v u) (EP X pins σ Q) X.xe s
def xi(X:Cx)(id:String)(r:V->List V->Hp->VK->Prop):Prop :=
 ∀(pins:List (Addr×Obj)) (s:Shared) (σ:St) (H:Hp) (x:V) (xs:List V) (v:Value) (us:List Value) (Q:VK),Inv X pins σ H s->bo x v->aW xs us->r x xs H Q ->
  wpAny (model X.prog X.w) X.A (call (.builtin id) (v::us)) (EP X pins σ Q) X.xe s
section
variable{X:Cx}{a b:Expr}{ta tb:TE}{pos:Pos}
theorem xP{r:R2}(hr:Ep X r)(ha:PE X a ta)(hb:PE X b tb)(hs:gp b):PE X (.Subscript a b pos) (HN r ta tb):=by
 intro pins s σ H Q I h
 exact Subscript_ (MT ha hb I h fun v u s2 x y H2 I2 rx ry q=>hr a b pins s2 σ H2 x y v u Q I2 rx ry q (hs _ _))
def SF(K:W.Frag):R2:=fun x y H Q => ∃p xs i v,x=.ref p/\y=.int i/\de K H p xs/\atI xs i=some v/\Q v H
def SE(K:W.Frag):R2:=fun x y H Q => ∃p xs i v,x=.ref p/\y=.int i/\dh K H p xs/\atI xs i=some v/\Q v H
theorem Gw:Ep X (SF X.K):=by
 intro value slice pins s σ H x y v u Q I rx ry h hs
 obtain⟨p,xs,i,z,rfl,rfl,hq,he,q⟩:=h
 cases rx
 obtain⟨t,rfl⟩:=ry
 obtain⟨its,r,pl,hz⟩:=I.list hq
 obtain⟨j,h1,h2,h3,h4,h5⟩:=xf he
 obtain⟨w,ew,rw'⟩:=r.get h2
 have hl:=r.length
 have hn:=lS
 have fin:EP X pins σ Q w s:=⟨z,H,I,rw',q⟩
 by_cases h0:0<=i
 ·have hj:i.toNat=j:=by
   rw[seqIndex_of h0 h5]at h1
   exact ad5 h1
  exact item_listR pl.isList h0 (by omega) (by rw[hj];simpa using ew) fin hs
 ·have hj:(i+(its.toArray.size:Int)).toNat=j:=by
   rw[seqIndex_neg (by omega) h4]at h1
   rw[aa2,<- hl]
   exact ad5 h1
  exact subscriptTail_builtinR (x:=w) pl.isList.typeIs slot_list_getitem.lookup
   (wpAny_getItem_list_neg (Q:=fun r s'=>r=w/\EP X pins σ Q r s') pl.isList (by omega) (by rw[aa2]<;>omega) (by omega) (by rw[hj];simpa using ew) ⟨rfl,fin⟩) hs
theorem KL:Ep X (SE X.K):=by
 intro value slice pins s σ H x y v u Q I rx ry h hs
 obtain⟨p,xs,i,z,rfl,rfl,hq,he,q⟩:=h
 cases rx
 obtain⟨t,rfl⟩:=ry
 obtain⟨its,r,pl,hz⟩:=I.tuple hq
 obtain⟨j,h1,h2,h3,h4,h5⟩:=xf he
 obtain⟨w,ew,rw'⟩:=r.get h2
 have hl:=r.length
 have hn:=lS
 have fin:EP X pins σ Q w s:=⟨z,H,I,rw',q⟩
 exact subscriptTail_builtinR (x:=w) pl.typeIs slot_tuple_getitem.lookup
  (getItem_tuple (j:=j) (Q:=fun r s'=>r=w/\EP X pins σ Q r s') pl (by omega) (by omega) (by rw[aa2,<- hl];exact h1) (by simpa using ew) ⟨rfl,fin⟩) hs
theorem x4(its:List Value)(n j:Nat)(u:Value):Obj.mapSeq (·.setIfInBounds j u) { cls:=.type "list", data:=.seq its.toArray n } = { cls:=.type "list", data:=.seq (its.set j u).toArray n }:=by
 simp[Obj.mapSeq]
theorem Inv.lst(I:Inv X pins σ H s)(h:H p=some (.lst xs)) :
  ∃(its:List Value) (n:Nat),aW xs its/\s.heap.get? p=some { cls:=.type "list", data:=.seq its.toArray n }/\xs.length<=sizeLine:=by
 obtain⟨z,its,n,r,e⟩:=I.hok p _ h
 exact⟨its,n,r,e,z⟩
theorem Inv.lstUpd{ys:List V}{n':Nat}{f:Obj->Obj}(I:Inv X pins σ H s)(h:H p=some (.lst xs))
  (ho:s.heap.get? p=some { cls:=.type "list", data:=.seq its.toArray n }) (hf:f { cls:=.type "list", data:=.seq its.toArray n } = { cls:=.type "list", data:=.seq its'.toArray n' }) (r:aW ys its') (hz:ys.length<=sizeLine) (t:Nat) :
  Inv X pins σ (bv H p (.lst ys)) { s with heap:=s.heap.update p f,toks:=t }:=by
 have e:(s.heap.update p f).get? p=some { cls:=.type "list", data:=.seq its'.toArray n' }:=by
  rw[ag1 f ho (by rw[hf]<;>rfl),hf]
 refine I.write (x:=p) (e:=p) (by rw[h];trivial) (.inl rfl) (fun b u hb q=>(ah7 _ _ (ai0 hb)).trans q) ⟨_,e⟩ ?_
 exact⟨hz,its',n',r,e⟩
def NZ:V->V->V->Hp->(Hp->Prop)->Prop:=fun o i v H Q => ∃p xs k j,o=.ref p/\i=.int k/\H p=some (.lst xs)/\ixN xs.length k=some j/\Q (bv H p (.lst (xs.set j v)))
theorem BI:Nn X NZ:=by
 intro pins s σ H o i v ov iv u Q I ro ri rv h
 obtain⟨p,xs,k,j,rfl,rfl,hp,hj,q⟩:=h
 cases ro
 obtain⟨t,rfl⟩:=ri
 obtain⟨its,n,r,ho,hz⟩:=I.lst hp
 obtain⟨h1,h2,h3,h4⟩:=wT hj
 have hl:=r.length
 have hn:=lS
 have I':Inv X pins σ (bv H p (.lst (xs.set j v))) { s with heap:=s.heap.update p (Obj.mapSeq (·.setIfInBounds j u)) } :=
  I.lstUpd hp ho (x4 its n j u) (r.set rv j) (by rw[ad8];exact hz) s.toks
 by_cases h0:0<=k
 ·have hk:k.toNat=j:=by
   rw[seqIndex_of h0 h4]at h1
   exact ad5 h1
  exact W.ki_setAt ho h0 (by omega) (by rw[aa2,<- hl];exact h4) (by rw[hk];exact⟨_,I',q⟩)
 ·have hk:(k+(its.toArray.size:Int)).toNat=j:=by
   rw[seqIndex_neg (by omega) h3]at h1
   rw[aa2,<- hl]
   exact ad5 h1
  exact W.ki_setBack ho (by omega) (by rw[aa2,<- hl];exact h3) (by omega) (by rw[hk];exact⟨_,I',q⟩)
theorem t8(lo hi:Option Int)(n:Nat):(sliceBounds lo hi none n).1=((HT.sIx n 0 lo:Nat):Int)/\(sliceBounds lo hi none n).2.1=((HT.sIx n n hi:Nat):Int)/\(sliceBounds lo hi none n).2.2=1:=by
 refine⟨?_,?_,rfl⟩
 ·cases lo with
  | none=>simp[sliceBounds,HT.sIx]
  | some i =>
   simp only[sliceBounds,HT.sIx,Option.getD_none,show(1:Int)>0 by decide,ai7]
   by_cases h:i<0
   ·simp only[h,ai7]<;>omega
   ·simp only[h,ak9]<;>omega
 ·cases hi with
  | none=>simp[sliceBounds,HT.sIx]
  | some i =>
   simp only[sliceBounds,HT.sIx,Option.getD_none,show(1:Int)>0 by decide,ai7]
   by_cases h:i<0
   ·simp only[h,ai7]<;>omega
   ·simp only[h,ak9]<;>omega
theorem sC(its:List Value)(lo hi:Option Int):slicePick its.toArray lo hi none=((its.drop (HT.sIx its.length 0 lo)).take (HT.sIx its.length its.length hi-HT.sIx its.length 0 lo)).toArray:=by
 obtain⟨h1,h2,h3⟩:=t8 lo hi its.toArray.size
 unfold slicePick
 rw[h1,h2,h3]
 simp only[sliceRange_one,pick_run,aa2]<;>rfl
def SA(K:W.Frag):V->Option Int->Option Int->Hp->VK->Prop:=fun x lo hi H Q => ∃a xs,x=.ref a/\de K H a xs/\∀p,H p=none->Q (.ref p) (bv H p (.lst (jC xs lo hi)))
theorem Fw:Ek X (SA X.K):=by
 intro pins s σ H x v vl vu lo hi sl Q I rx hs pl pu h
 obtain⟨a,xs,rfl,hx,q⟩:=h
 cases rx
 obtain⟨its,r,ht,hz⟩:=I.list hx
 have hlen:=r.length
 refine⟨"list", _,slot_list_getitem.lookup,ht.isList.typeIs,?_⟩
 refine wpAny_getItem_list_slice ht.isList hs pl pu .none (by simp) ?_ (by rw[aa2]<;>omega)
 rw[sC,<- hlen]
 refine⟨.ref s.heap.objs.size,_,I.laid (t':=s.toks) (o:=.lst (jC xs lo hi)) (fun b ob q=>ZM _ q) (ZP _) ?_,rfl,q _ (I.hok.fresh (ZP _))⟩
 exact⟨ZN (nC xs lo hi) hz,_,0,(r.drop (HT.sIx xs.length 0 lo)).take (HT.sIx xs.length xs.length hi-HT.sIx xs.length 0 lo),ZQ _ rfl⟩
theorem mh:dN X (.builtin "len") (fun xs H Q => ∃p ys,xs=[.ref p]/\(de X.K H p ys\/dh X.K H p ys)/\Q (.int ys.length) H):=by
 intro pins s σ H xs us Q I r h
 obtain⟨p,ys,rfl,hq,q⟩:=h
 obtain⟨u,rfl,rx⟩:=dX r
 cases rx
 have hn:=lS
 rcases hq with hq|hq
 ·obtain⟨its,r',pl,hz⟩:=I.list hq
  have hlen:=r'.length
  exact Calls.call_len_list pl.isList (by simp only[aa2]<;>omega) ⟨.int ys.length,H,I.tok _,⟨s.toks+1,by rw[aa2,hlen]⟩,q⟩
 ·obtain⟨its,r',pl,hz⟩:=I.tuple hq
  have hlen:=r'.length
  exact len_tuple pl (by simp only[aa2]<;>omega) ⟨.int ys.length,H,I.tok _,⟨s.toks+1,by rw[aa2,hlen]⟩,q⟩
theorem vt:dN X (.builtin "len") (fun xs H Q => ∃z,xs=[.str z]/\z.length<=sizeLine/\Q (.int z.length) H):=by
 intro pins s σ H xs us Q I r h
 obtain⟨z,rfl,hz,q⟩:=h
 obtain⟨u,rfl,t,rfl⟩:=dX r
 have hn:=lS
 exact len_str (by omega) ⟨.int z.length,H,I.tok _,⟨_,rfl⟩,q⟩
theorem md:dN X (.type "list") (fun xs H Q => ∃p ys,xs=[.ref p]/\(de X.K H p ys\/dh X.K H p ys)/\∀l,H l=none->Q (.ref l) (bv H l (.lst ys))):=by
  intro pins s σ H xs us Q I r h
  obtain⟨p,ys,rfl,hq,q⟩:=h
  obtain⟨u,rfl,rx⟩:=dX r
  cases rx
  have fin:∀(its:List Value),aW ys its->ys.length<=sizeLine->∀(h':Heap) (c':Nat),(∀b o',s.heap.get? b=some o'->h'.get? b=some o') ->
      h'.get? s.heap.objs.size=some { cls:=.type "list", dict:=none,data:=.seq its.toArray c',slots:=#[] }->EP X pins σ Q (.ref s.heap.objs.size) { s with heap:=h' }:=fun its r' hz h' c' kp e =>
    ⟨.ref s.heap.objs.size,_,I.laid (t':=s.toks) kp (ZP _) (show dj X.prog X.w _ h' _ (.lst ys)from⟨hz,its,c',r',e⟩),rfl,q _ (I.hok.fresh (ZP _))⟩
  rcases hq with hq|hq
  . obtain⟨its,r',pl,hz⟩:=I.list hq
    have hlen:=r'.length
    obtain⟨o,ho,hc,n,hd⟩:=pl.isList
    exact call_list_seq p (.inl rfl) ho hc hd (fun h' c' kp e=>fin its r' hz h' c' kp e) (by simp only[aa2]<;>omega)
  . obtain⟨its,r',pl,hz⟩:=I.tuple hq
    have hlen:=r'.length
    obtain⟨o,ho,hc,n,hd⟩:=pl
    exact call_list_seq p (.inr rfl) ho hc hd (fun h' c' kp e=>fin its r' hz h' c' kp e) (by simp only[aa2]<;>omega)
theorem lj:dN X (.type "tuple") (fun xs H Q => ∃p ys,xs=[.ref p]/\((de X.K H p ys/\∀l,H l=none->Q (.ref l) (bv H l (.tup ys)))\/(dh X.K H p ys/\Q (.ref p) H))):=by
 intro pins s σ H xs us Q I r h
 obtain⟨p,ys,rfl,h⟩:=h
 obtain⟨u,rfl,rx⟩:=dX r
 cases rx
 rcases h with⟨hq,q⟩|⟨hq,q⟩
 ·obtain⟨its,r',pl,hz⟩:=I.list hq
  have hlen:=r'.length
  refine call_tuple_list pl.isList (fun h' kp=>?_) (by simp only[aa2]<;>omega)
  have I1:Inv X pins σ H { s with heap:=h' }:=I.kept (t':=s.toks) kp
  have I2:Inv X pins σ (bv H h'.objs.size (.tup ys)) { s with heap:=h'.push { cls:=.type "tuple", data:=.seq its.toArray } } :=
   I1.laid (t':=s.toks) (fun b o e=>ZM _ e) (ZP _) (show dj X.prog X.w _ _ _ (.tup ys)from⟨hz,its,r',IsTup.new _ _⟩)
  exact⟨.ref h'.objs.size,_,I2,rfl,q _ (I1.hok.fresh (ZP _))⟩
 ·obtain⟨its,r',pl,hz⟩:=I.tuple hq
  exact call_tuple_same pl ⟨.ref p,H,I,rfl,q⟩
def HB(K:W.Frag)(T:String)(x:V)(H:Hp):Prop:=match x with
  | .str _=>T = "str"
  | .int _=>T = "int"
  | .ref p=>(T = "list" /\ ∃xs,de K H p xs)\/(T = "tuple" /\ ∃o,K.lookup p=some o/\o.cls=.type "tuple" /\ o.dict=none) \/
      (T = "dict" /\ ((∃kvs,H p=some (.dK kvs))\/∃kvs,H p=some (.dT kvs)))\/(T = "set" /\ ∃S n,H p=some (.set S n))
  | _=>False
theorem ze{T:String}{x:V}{v:Value}(I:Inv X pins σ H s)(r:bo x v)(ty:HB X.K T x H) :
  s.TypeIs v T/\∀a,v=.ref a->∃ob,s.heap.get? a=some ob/\ob.dict=none:=by
 cases x with
 | str z =>
  obtain⟨t,rfl⟩:=r
  cases (show T = "str" from ty)
  exact⟨typeIs_str s z t,fun _ e=>nomatch e⟩
 | int i =>
  obtain⟨t,rfl⟩:=r
  cases (show T = "int" from ty)
  exact⟨typeIs_int s i t,fun _ e=>nomatch e⟩
 | ref p =>
  cases r
  rcases ty with⟨rfl,xs,hq⟩|⟨rfl,o,hk,hc,hd⟩|⟨rfl,hk⟩|⟨rfl,S,n,hk⟩
  ·obtain⟨its,_,pl,_⟩:=I.list hq
   refine⟨pl.isList.typeIs,fun a e=>?_⟩
   cases e
   obtain⟨o,n,e,c,hd,_⟩:=pl
   exact⟨o,e,hd⟩
  ·refine⟨⟨o,I.kIn p o hk,hc⟩,fun a e=>?_⟩
   cases e
   exact⟨o,I.kIn _ o hk,hd⟩
  ·have z:∃o,s.heap.get? p=some o/\o.ExactDict:=by
    rcases hk with⟨kvs,hk⟩|⟨kvs,hk⟩
    ·obtain⟨_,_,_,_,o,_,_,e,ex,_⟩:=I.hok p _ hk
     exact⟨o,e,ex⟩
    ·obtain⟨_,_,_,_,o,_,_,e,ex,_⟩:=I.hok p _ hk
     exact⟨o,e,ex⟩
   obtain⟨o,e,ex⟩:=z
   refine⟨⟨o,e,ex.1⟩,fun a e2=>?_⟩
   cases e2
   exact⟨o,e,ex.2.1⟩
  ·obtain⟨o,_,_,_,e,ex,_⟩:=I.hok p _ hk
   refine⟨⟨o,e,ex.1⟩,fun a e2=>?_⟩
   cases e2
   exact⟨o,e,ex.2.1⟩
 | _=>exact False.elim ty
def QD(K:W.Frag)(T:String)(r:V->List V->Hp->VK->Prop)(to:TE):TE:=fun σ H Q=>to σ H fun x H1=>HB K T x H1/\r x [] H1 Q
def Zz(K:W.Frag)(T:String)(r:V->List V->Hp->VK->Prop)(to:TE)(t:TA):TE:=fun σ H Q=>to σ H fun x H1=>HB K T x H1/\t σ H1 fun xs H2=>r x xs H2 Q
variable{o e:Expr}{es:List Expr}{to:TE}{t:TA}{name:Str}{apos cpos:Pos}{T id:String}{r:V->List V->Hp->VK->Prop}
theorem Jx(pa:PlainAttrs T)(slot:Slot T name id)(hty:typeOf (.builtin id)=pure (.type "method_descriptor"))(hm:xi X id r)(ho:PE X o to)
  (hbase:attributeBase o name X.env (eval o X.env)=eval o X.env:=by rfl) (hline:(apos.endLine==cpos.line)=true:=by rfl):PE X (.Call (.Attribute o name apos) [] [] cpos) (QD X.K T r to):=by
 intro pins s σ H Q I h
 refine wpAny_Call_method0_late hbase hline (be (ho pins s σ H _ I h) fun v s1 ⟨x,H1,I1,r1,ty,q1⟩=>?_)
 obtain⟨h1,h2⟩:=ze I1 r1 ty
 exact⟨T,id,pa,slot,hty,h1,h2,Calls.callWith_builtin rfl (PySem.evalArgs_none (hm pins s1 σ H1 x [] v [] Q I1 r1 .nil q1))⟩
theorem sU(pa:PlainAttrs T)(slot:Slot T name id)(hty:typeOf (.builtin id)=pure (.type "method_descriptor"))(hm:xi X id r)(ho:PE X o to)(ha:PA X (e::es) t)
  (hbase:attributeBase o name X.env (eval o X.env)=eval o X.env:=by rfl)
  (hfew:((backTo cpos (starEach (e::es) X.env)).all (fun x => !x.1)&&(backToKw cpos (keywordEach [] X.env)).all (fun x=>x.1.isSome)
   && decide ((e::es).length+([]:List Keyword).length+(if ([]:List Keyword).isEmpty then 0 else 1)<30))=true:=by rfl)
  (hline:(apos.endLine==cpos.line)=true:=by rfl) (hs:starEach (e::es) X.env=(false,eval e X.env)::starEach es X.env:=by rfl) (hplain:(backTo cpos (starEach es X.env)).any (·.1)=false:=by rfl) :
  PE X (.Call (.Attribute o name apos) (e::es) [] cpos) (Zz X.K T r to t):=by
 intro pins s σ H Q I h
 refine wpAny_Call_method_late hbase hfew hline rfl (be (ho pins s σ H _ I h) fun v s1 ⟨x,H1,I1,r1,ty,q1⟩=>?_)
 obtain⟨h1,h2⟩:=ze I1 r1 ty
 refine⟨T,id,pa,slot,hty,h1,h2,?_⟩
 have hA:=ha cpos pins s1 σ H1 _ I1 q1
 rw[hs]at hA⊢
 refine Calls.callWith_builtin (by show(false || (backTo cpos (starEach es X.env)).any (·.1))=false;rw[hplain]<;>rfl) (Calls.evalArgs_plain ?_)
 exact be hA fun us s2 ⟨vs,H2,I2,r2,q2⟩=>hm pins s2 σ H2 x vs v us Q I2 r1 r2 q2
/- xs.append(e),list.index on a module's tuple .. are xi facts of 06m -/
end
def Qk(X:Cx)(id:String)(r:V->List V->Hp->VK->Prop):Prop :=
 ∀(pins:List (Addr×Obj)) (s:Shared) (σ:St) (H:Hp) (x:V) (xs:List V) (v:Value) (us:List Value) (Q:VK),Inv X pins σ H s->bo x v->aW xs us->r x xs H Q ->
  wpAny (model X.prog X.w) X.A (call (.builtin id) (v::us)) (EP X pins σ Q) X.xe s
theorem aW.one:∀{x:V} {us:List Value},aW [x] us->∃u,us=[u]/\bo x u
 | _,_,.cons r .nil=>⟨_,rfl,r⟩
theorem aW.zero:∀{us:List Value},aW [] us->us=[]
 | _,.nil=>rfl
theorem aW.reverse(h:aW xs us):aW xs.reverse us.reverse:=by
 induction h with
 | nil=>exact .nil
 | cons r t ih=>rw[List.reverse_cons,List.reverse_cons];exact aW.append ih (.cons r .nil)
section
variable{X:Cx}{l b:Addr}{ys zs:List V}
theorem Inv.lset{f:Array Value->Array Value}{t':Nat}(I:Inv X pins σ H s)(hH:H l=some (.lst xs))
  (e:s.heap.get? l=some { cls:=.type "list", data:=.seq its.toArray n }) (hf:f its.toArray=its'.toArray) (hv:aW ys its') (hz:ys.length<=sizeLine) :
  Inv X pins σ (bv H l (.lst ys)) { s with heap:=s.heap.update l (Obj.mapSeq f),toks:=t' }:=by
 have q:=PySem.IsL.update e f
 rw[hf]at q
 refine I.write (x:=l) (e:=l) (by rw[hH];exact trivial) (.inl rfl) (fun b' u hb hu=>(ah7 s.heap (Obj.mapSeq f) (ai0 hb)).trans hu) ⟨_,q⟩ ?_
 exact⟨hz,its',_,hv,q⟩
theorem Inv.lnew{t':Nat}(I:Inv X pins σ H s)(hv:aW ys its)(hz:ys.length<=sizeLine) :
  Inv X pins σ (bv H s.heap.objs.size (.lst ys)) { s with heap:=s.heap.push { cls:=.type "list", data:=.seq its.toArray },toks:=t' } :=
 I.laid (fun _ _ q=>ZM _ q) (ZP _) ⟨hz,its,0,hv,ZQ _ rfl⟩
theorem Inv.fresh(I:Inv X pins σ H s):H s.heap.objs.size=none:=I.hok.fresh (ZP _)
theorem Inv.lstM(I:Inv X pins σ H s)(hH:H l=some (.lst xs)):xs.length<=sizeLine/\∃(its:List Value) (n:Nat),aW xs its/\xs.length=its.length/\s.heap.get? l=some { cls:=.type "list", data:=.seq its.toArray n }:=by
 obtain⟨z,its,n,r,e⟩:=I.hok l _ hH
 exact⟨z,its,n,r,r.length,e⟩
end
section
variable{X:Cx}
def FI:V->List V->Hp->VK->Prop:=fun x vs H Q => ∃l xs y,x=.ref l/\vs=[y]/\H l=some (.lst xs)/\xs.length<sizeLine/\Q .non (bv H l (.lst (xs++[y])))
theorem rR:Qk X "list.append" FI:=by
 intro pins s σ H x vs v us Q I rx rv h
 obtain⟨l,xs,y,rfl,rfl,hH,hz,q⟩:=h
 cases rx
 obtain⟨u,rfl,ru⟩:=rv.one
 obtain⟨z,its,n,r,hl,e⟩:=I.lstM hH
 refine call_meets F.slot_list_append ⟨_,e,rfl⟩ F.entry_list_append (F.args_list_append_2 _ _) (PySem.list_append l its.toArray n u (by rw[aa2];omega)) ⟨e,?_⟩
 refine⟨.non,_,I.lset (its':=its++[u]) hH e (by simp) (r.append (.cons ru .nil)) ?_,rfl,q⟩
 rw[ae1,List.length_singleton]
 omega
end
section
variable{prog:Program}{w:World}{A:Around}{E:Value->Shared->Prop}
set_option maxRecDepth 100000 in
end
section
variable{X:Cx}
end
end L2
namespace Att
open PySem PySem.W PySem.Calls PyProof.Rows
variable{P:Params}{h:Heap}{l:OpenLaw}{n:Nat}
theorem oV:∀(ns:List Int) (vs:List Value),WellAll P h vs (ns.map WData.int)->IntsAre vs ns:=by
 intro ns
 induction ns with
 | nil =>
  intro vs w
  rw[List.map_nil]at w
  cases w
  exact .nil
 | cons n ns ih =>
  intro vs w
  rw[ac4]at w
  cases w with
  | cons a b =>
   cases a
   exact .cons _ _ (ih _ b)
theorem rN(hn:l.most=some n){args:List WData}{vals:List Value}
  (hpre:l.row.toRowW.claim.pre args=true) (hwl:WellAll P h vals args) :
  ∃a vs ns,vals=[Value.ref a]/\args=[WData.list (ns.map WData.int)]/\h.get? a=some { cls:=.type "list", data:=.seq vs.toArray }/\IntsAre vs ns/\ns.length<=n:=by
 have hsh:WShape.hasAll [] args [.list .int]=true:=(pre_splitW hpre).1
 have hc:l.pre.holds [] { args:=args }=true:=(pre_splitW hpre).2
 obtain⟨d,r,rfl,h1,h2⟩:=hasAllW_cons hsh
 obtain rfl:=hasAllW_nil h2
 obtain⟨xs,rfl,h3⟩:=hasW_list h1
 obtain⟨ns,rfl⟩:=items_int h3
 have hlen:ns.length<=n:=by
  unfold OpenLaw.pre at hc
  have h4:(WTm.not (.lt (.lit (.int (n:Int))) (.len (.arg 0)))).holds [] { args:=[.list (ns.map .int)] }=true:=by
   have h4:=(holds_andW hc).1
   rw[hn]at h4
   exact h4
  have h5:=condW_of h4 (w_not (w_lt w_lit (w_len_list (w_arg rfl))))
  rw[ab6]at h5
  refine Nat.le_of_not_lt fun q=>?_
  have q':(n:Int)<((ns.length:Nat):Int):=by omega
  first
   | (rw[ad2 q']at h5;exact absurd h5 (by decide))
   | (simp at h5;omega)
 cases hwl with
 | cons w1 w2 =>
  cases w2
  cases w1 with
  | list ho hall=>exact⟨_,_,ns,rfl,rfl,ho,oV ns _ hall,hlen⟩
theorem rQ(l:OpenLaw)(args:List WData):l.row.toRowW.claim.post args (.bool true) args=true :=
 postW_of (r:=l.row.toRowW) (X:=(true==true))
  (show WShape.has [] (.bool true) .bool=true by first|rfl|decide|simp[WShape.has,WShape.arms,WShape.armsAll])
  (show(WTm.eq .res (.lit (.bool true))).value [] { args:=args,res:=some (.bool true),after:=args }=some (.bool (true==true))from w_eq_bool (w_res rfl) w_lit) rfl
theorem attach_call{q:Program}{loose:List Str}{XP:(Str->Option Value)->Heap->Prop}{YP:World->Heap->Prop}{d:DefRec}
  (hn:l.most=some n) (hdf:d.params.defaults=[])
  (call:∀(w:World) (s₀ s₁:Shared) (mg mb:Str->Option Value) (fa:Addr) (o:Obj) (pm cd doc:Value) (a:Addr) (vs:List Value) (ns:List Int),
   Ground q loose [] XP w s₀ mg mb s₁.heap->YP w s₁.heap ->
   s₁.heap.get? fa=some o->o.data=.func (docDef d.name d.params d.body d.scope pm cd doc)->s₁.heap.CodeRec cd d.name->mg d.name=some (.ref fa) ->
   s₁.heap.get? a=some { cls:=.type "list", data:=.seq vs.toArray }->IntsAre vs ns->ns.length<=n->s₁.gens = #[] ->
   codeAny (model l.prog w) callerA (.call (.ref fa) ⟨[.ref a],[]⟩) (fun r s'=>r=.ok (.ret (.bool true))/\OldK s₁.heap s'.heap/\s'.os=s₁.os/\AllBare s'.gens) s₁) :
  WalkO q loose XP YP l.row.toRowW d [] (fun f vs=>PySem.call f vs):=by
 intro w s₀ s₁ mg mb G Y fa o pm cd doc dV kV ho hd hcd hD hmg hg args vals as hpre hlay hrd hwl hlo
 obtain rfl:dV=.none:=Dflts.none hD hdf
 obtain rfl:kV=.none:=Dflts.noKw hD
 obtain⟨a,vs,ns,rfl,rfl,hobj,hints,hlen⟩:=rN hn hpre hwl
 refine enter_call (aj5 (call w s₀ s₁ mg mb fa o pm cd doc a vs ns G Y ho (fd_plain hd) hcd hmg hobj hints hlen hg) fun r s' hq=>?_)
 obtain⟨rfl,h2,h3,h4⟩:=hq
 exact⟨.inl ⟨.bool true,.bool true,[],rfl,fun _=>rfl,.bool true,rQ l _,fun _=>⟨List.Pairwise.nil,fun _ hm=>(nomatch hm)⟩⟩,h2,h3,h4⟩
section
variable{prog:Program}{w:World}{A:Around}{E:Value->Shared->Prop}{s:Shared}{K:Frag}
end
end Att
namespace L2
open PySem PySem.Spec PyProof.Rows
variable{k:Nat}{x:Str}
theorem rJ:∀{vs:List Value} {ns:List Int},IntsAre vs ns->aW (ns.map V.int) vs
 | _,_,.nil=>.nil
 | _,_,.cons n t h=>.cons ⟨t,rfl⟩ (rJ h)
def vL(H:Hp):Prop:=∀b,H b=none\/∃o xs,H b=some (.frz o (.lst xs))
theorem uL{P:Program}{w:World}{K:W.Frag}{mg mb:Str->Option Value}{CX:jv}{fa a:Addr}{fd:FuncData}{sp:Sp}{s₁:Shared}{vs:List Value}{ns:List Int}
    (KX:K.In s₁.heap) (hns:s₁.heap.Ns mainGlobals mg) (hb:s₁.heap.Ns builtinsNs mb) (hbb:∀x:Str,x ≠ "__name__" -> mb x=bootBuiltins x) (hlim:s₁.heap.NoLimit) (hg:s₁.gens = #[])
    (ha:s₁.heap.get? a=some { cls:=.type "list", data:=.seq vs.toArray }) (hi:IntsAre vs ns) (hl:ns.length<=sizeLine) (hr:cA k callerA)
    (F:∀base:Heap,K.In base->base.Ns mainGlobals mg->cu P w K mg base CX k fa fd [x] sp) (hbind:∀(s:Shared) (u:Value),BindsTo s fd ⟨[u],[]⟩ [(x,u)])
    (hsp:∀H:Hp,vL H->de K H a (ns.map V.int)->sp [.ref a] H (fun v _=>v=.bl true) fun _ _ _=>False)
    (hCX:∀H e s',CX [] H s₁ (fun _ _ _=>False) e s'->False) :
    codeAny (model P w) callerA (.call (.ref fa) ⟨[.ref a],[]⟩) (fun r s'=>r=.ok (.ret (.bool true))/\OldK s₁.heap s'.heap/\s'.os=s₁.os/\AllBare s'.gens) s₁:=by
  have rv:=rJ hi
  have lenV:=hi.length
  have core:∀H:Hp,vL H->de K H a (ns.map V.int)->fh P w H s₁.heap->(∀b,H b≠none->b=a)->(H a≠none->K.lookup a=none) ->
      codeAny (model P w) callerA (.call (.ref fa) ⟨[.ref a],[]⟩) (fun r s'=>r=.ok (.ret (.bool true))/\OldK s₁.heap s'.heap/\s'.os=s₁.os/\AllBare s'.gens) s₁:=by
    intro H hO hS hok hA hK
    have base_of:∀{b:Addr} {o:Obj},s₁.heap.get? b=some o->H b=none->(kH s₁.heap H).get? b=some o:=fun e n=>Ct e n
    have noA:∀{b:Addr} {o:Obj} {es:Array DictEntry} {ep:Nat},s₁.heap.get? b=some o->o.data=.dict es ep->H b=none:=fun {b o es ep} e d=>by
      cases q:H b with
      | none=>rfl
      | some u =>
        have e':b=a:=hA b (by rw[q];simp)
        subst e'
        rw[ha]at e;cases e
        have d':Data.seq vs.toArray _=Data.dict es ep:=d
        cases d'
    have nsK:∀{b:Addr} {m:Str->Option Value},s₁.heap.Ns b m->(kH s₁.heap H).Ns b m:=fun {b m} ⟨o,es,ep,e,d,r⟩=>⟨o,es,ep,base_of e (noA e d),d,r⟩
    have hKb:K.In (kH s₁.heap H):=fun b o e=>base_of (KX b o e) (by
      cases q:H b with
      | none=>rfl
      | some u =>
        have e':b=a:=hA b (by rw[q];simp)
        subst e'
        rw[hK (by rw[q];simp)]at e;cases e)
    have hM:Mod K mg (kH s₁.heap H):=⟨hKb,nsK hns,⟨mb,nsK hb,hbb⟩,let ⟨mc,h1,h2⟩:=hlim;⟨mc,nsK h1,h2⟩⟩
    have e0:jH P w K mg (kH s₁.heap H) callerA [] s₁ H:=⟨rfl,hM,fun b o e=>Gb e,Nat.le_of_eq (Ar _ _),trivial,fun b hb=>absurd (show b∈([]:List Addr)from hb) (by simp),hok,.of_eq hg⟩
    refine aj5 ((F _ hKb (nsK hns)).run callerA [] s₁ H ⟨[.ref a],[]⟩ [.ref a] [.ref a] _ _ hr e0 (hbind s₁ (.ref a)) (.cons rfl .nil) (hsp H hO hS)) fun r s' h=>?_
    cases r with
    | error e=>exact(hCX H e s' h).elim
    | ok fl =>
      cases fl with
      | next=>exact False.elim h
      | brk=>exact False.elim h
      | cont=>exact False.elim h
      | ret u =>
        obtain⟨v,H',os,bare,un,hok',r',q⟩:=h
        have q':v=.bl true:=q
        subst q'
        obtain rfl:u=Value.bool true:=r'
        refine⟨rfl,OldK.of_keep fun b o e=>?_,os,bare⟩
        cases q:H b with
        | none=>exact un.keep b o e q (by intro z;exact absurd (show b∈([]:List Addr)from z) (by simp)) (by simp)
        | some u =>
          rcases hO b with z|⟨ob,xs,z⟩
          . rw[q]at z;cases z
          . have z2:=un.frzs b ob _ z
            obtain⟨e1,_⟩:=hok b _ z
            obtain⟨e2,_⟩:=hok' b _ z2
            rw[e]at e1;cases e1
            exact e2
  cases hk:K.lookup a with
  | some o =>
    have e:=KX a o hk
    rw[ha]at e
    cases e
    refine core (fun _=>none) (fun _=>.inl rfl) (.inr ⟨_,vs.toArray,_,hk,rfl,rfl,rfl,by rw[aa2,lenV];exact hl,by simpa using rv⟩) (fun b u z=>by have z':(none:Option HO)=some u:=z;cases z') (fun b z=>absurd rfl z) fun z=>absurd rfl z
  | none =>
    refine core (fun b=>if b=a then some (.frz { cls:=.type "list", data:=.seq vs.toArray } (.lst (ns.map V.int)))else none) (fun b=>?_) (.inl (.inr ⟨{ cls:=.type "list", data:=.seq vs.toArray },if_pos rfl⟩)) (fun b u z=>?_) (fun b z=>?_) fun _=>hk
    . by_cases hb:b=a
      . exact .inr ⟨_,_,if_pos hb⟩
      . exact .inl (if_neg hb)
    . by_cases hb:b=a
      . have z':=(if_pos hb).symm.trans z
        cases z'
        subst hb
        exact⟨ha,by rw[ab6];exact hl,vs,_,rv,ha⟩
      . have z':=(if_neg hb).symm.trans z
        cases z'
    . by_cases hb:b=a
      . exact hb
      . exact absurd (if_neg hb) z
abbrev KOf{K:W.Frag}{h:Heap}(_:K.In h):W.Frag:=K
theorem walk_of{l:W.OpenLaw}{n:Nat}{q:Program}{loose:List Str}{XP:(Str->Option Value)->Heap->Prop}{YP:World->Heap->Prop}{d:DefRec}{K:Params->W.Frag}{CX:World->jv}{sp:World->Sp}
  (hn:l.most=some n) (hn2:n<=sizeLine) (hdf:d.params.defaults=[]) (hr:cA k callerA)
  (hY:∀(w:World) (h:Heap),YP w h->(K w.params).In h)
  (F:∀(w:World) (mg:Str->Option Value) (fa:Addr) (h:Heap),(K w.params).In h->h.Ns mainGlobals mg->mg d.name=some (.ref fa) ->
   ∃fd:FuncData,(∀(s:Shared) (u:Value),BindsTo s fd ⟨[u],[]⟩ [(x,u)]) /\
    ∀base:Heap,(K w.params).In base->base.Ns mainGlobals mg->cu l.prog w (K w.params) mg base (CX w) k fa fd [x] (sp w))
  (hsp:∀(w:World) (H:Hp) (a:Addr) (ns:List Int),ns.length<=n->vL H->de (K w.params) H a (ns.map V.int)->sp w [.ref a] H (fun v _=>v=.bl true) fun _ _ _=>False)
  (hCX:∀(w:World) (H:Hp) (s:Shared) (e:Value) (s':Shared),CX w [] H s (fun _ _ _=>False) e s'->False) :
  W.WalkO q loose XP YP l.row.toRowW d [] (fun f vs=>PySem.call f vs):=by
 refine Att.attach_call hn hdf fun w s₀ s₁ mg mb fa o pm cd doc a vs ns G Y ho hd hcd hmg hobj hints hlen hg=>?_
 have KX:=hY w _ Y
 obtain⟨fd,hb,hF⟩:=F w mg fa _ KX G.T.g hmg
 exact uL KX G.T.g G.T.b G.T.builtins G.T.nolimit hg hobj hints (ZN hlen hn2) hr hF hb (fun H hO hS=>hsp w H a ns hlen hO hS) fun H e s'=>hCX w H s₁ e s'
end L2
/- THE LAST THEOREM (shape;LID,My.* are yours):
   My.Adr: a structure of the addresses that your layer names (classes,functions);My.Txt K t: a structure (Prop) of the equations over K;
   My.txt_mk:{K} {implicit addresses ..} (e1:nsIn K mainGlobals "law" = some (some (.ref f))) (e2:K.lookup f=some ⟨oc,od,.func (fnOf "law" "law" params body scope dV kV doc pm an cdv ct),sl⟩) (e3:codeIn K cdv "law" = true) ..:∃t,My.Txt K t
set_option maxRecDepth 100000 in
set_option maxHeartbeats 0 in
theorem PySem.Challenge.cw_LID_holds : PySem.Challenge.rw_LID.Holds := by
 w_on;o_law;k_head;(case hw=>w_witness2)
 k_fill
 refine L2.walk_of (l:=PySem.Challenge.rw_LID) (n:=63) (k:=40) (x := "script") (CX:=fun w=>..) (sp:=fun _=>My.sp_law) rfl (by decide) rfl ⟨rfl,by decide,by decide⟩ (fun w h Y=>PySem.W.kIn_of Y) ?F ?S ?C
 case F =>
  intro w mg fa h KX G hmg
  have T:∃t,My.Txt (L2.KOf KX) t:=by
   dsimp only[L2.KOf]                          -- K must stand as «<heap const> w.params» for k_is
   refine' My.txt_mk ?e1 ?e2 ?e3 ..
   (case e1=>PySem.W.k_is)                    -- in the order: a name->its address->its object->its parts
   (case e2=>PySem.W.k_is)
   ..
  obtain⟨t,T⟩:=T
  have e0:=hmg.symm.trans (PySem.W.mg_of KX G T.law)
  cases e0                                       -- fa is the law's own address
  exact⟨_,fun s u=>.of_eq rfl,fun base kb nb=>My.law_fn T kb nb⟩     -- if «.of_eq rfl» comes too early: refine' ⟨_,?b,fun base kb nb=>My.law_fn T kb nb⟩;exact fun s u=>.of_eq rfl
 case S=>exact fun w H a ns hl hO hS=>..
 case C=>exact ..
(the tactic k_is has no namespace: write k_is) -/
namespace L2
open PySem PySem.Spec PyProof.Rows
variable{qual x:Str}{st:Stmt}{f:Addr}{fd:FuncData}{ps:List Str}{H H':Hp}{y:V}{u:Value}
def aF(s:Stmt):Arguments:=match s with
 | .FunctionDef _ a _ _ _ _ _ _ _ _=>a
 | _ => { posonlyargs:=[],args:=[],vararg:=none,kwonlyargs:=[],kw_defaults:=[],kwarg:=none,defaults:=[] }
def ak(s:Stmt):List Stmt:=match s with
 | .FunctionDef _ _ b _ _ _ _ _ _ _=>b
 | _=>[]
def ae(s:Stmt):Scope:=match s with
 | .FunctionDef _ _ _ _ _ _ sc _ _ _=>sc
 | _ => { kind:=.function,names:=[],isGenerator:=false,isCoroutine:=false }
abbrev eO:jv:=fun _ _ _ _ _ _=>False
abbrev E0:XK:=fun _ _ _=>False
theorem jg{X:Cx}:gh eO X E0:=fun _ _ _ _ _ _ _ h=>h.elim
structure ky(K:W.Frag)(x qual:Str)(st:Stmt)(f:Addr)(fd:FuncData):Prop where
 ex:∃(oc:Value) (od:Option Addr) (kV doc pm:Value) (an:Option Addr) (cdv ct:Value) (osl:Array (Option Value)),
  fd=W.fnOf x qual (aF st) (ak st) (ae st) .none kV doc pm an cdv ct/\K.lookup f=some ⟨oc,od,.func fd,osl⟩/\W.codeIn K cdv qual=true
 kp:W.keepIn K (.ref f)=true
section
variable{P:Program}{w:World}{K:W.Frag}{mg:Str->Option Value}{base:Heap}
theorem ky.ok{N:List Str}{k:Nat}{sp:Sp}(F:ky K x qual st f fd)(S:aA N ps (ae st))(len:∀vs H Q E,sp vs H Q E->vs.length=ps.length)
  (hbody:∀(cdv:Value) (A:Around) (outer:List Env) (s:Shared) (H:Hp) (vs:List V) (Q:VK) (E:XK),cA k (A.deeper (envOfC qual (ae st) s.heap.objs.size f cdv))->sp vs H Q E ->
   ∃t,gM (kS eO P w K mg base N qual (ae st) f cdv A outer s H E).nox (ak st) t/\t { nx:=fun _ H'=>Q .non H',rt:=Q } (start N vs) H):cu P w K mg base eO (k+1) f fd ps sp:=by
 obtain⟨oc,od,kV,doc,pm,an,cdv,ct,osl,rfl,lk,hcd⟩:=F.ex
 refine Pa lk hcd S len fun A outer s H vs Q E hr hsp=>?_
 obtain⟨t,h,q⟩:=hbody cdv A outer s H vs Q E hr hsp
 exact⟨t,h.nox,q⟩
theorem ky.binds(F:ky K x qual st f fd)
  (h:∀(kV doc pm:Value) (an:Option Addr) (cdv ct:Value) (us:List Value),us.length=ps.length->bindArgs (W.fnOf x qual (aF st) (ak st) (ae st) .none kV doc pm an cdv ct) ⟨us,[]⟩=pure (ps.zip us)):dk K fd ps []:=by
 obtain⟨oc,od,kV,doc,pm,an,cdv,ct,osl,rfl,lk,hcd⟩:=F.ex
 exact .all (h kV doc pm an cdv ct)
theorem aO{oc:Value}{od an:Option Addr}{osl:Array (Option Value)}{kV doc pm cdv ct:Value}(l:K.lookup f=some ⟨oc,od,.func (W.fnOf x qual (aF st) (ak st) (ae st) .none kV doc pm an cdv ct),osl⟩)
  (c:W.codeIn K cdv qual=true) (k:W.keepIn K (.ref f)=true):ky K x qual st f (W.fnOf x qual (aF st) (ak st) (ae st) .none kV doc pm an cdv ct):=⟨⟨oc,od,kV,doc,pm,an,cdv,ct,osl,rfl,l,c⟩,k⟩
end
section
variable{X:Cx}
end
def aJ(H H':Hp):Prop:=∀b o,H b=some o->H' b=some o
theorem aJ.refl(H:Hp):aJ H H:=fun _ _ h=>h
theorem aJ.trans{H1 H2:Hp}(a:aJ H H1)(b:aJ H1 H2):aJ H H2:=fun c o h=>b c o (a c o h)
theorem aJ.free(e:aJ H H'){l:Addr}(h:H' l=Option.none):H l=Option.none:=by
 cases q:H l with
 | none=>rfl
 | some o =>
  rw[e l o q]at h
  cases h
theorem aJ.seq{K:W.Frag}{a:Addr}{xs:List V}(e:aJ H H')(h:de K H a xs):de K H' a xs:=by
 rcases h with(h|⟨o,h⟩)|h
 ·exact .inl (.inl (e _ _ h))
 ·exact .inl (.inr ⟨o,e _ _ h⟩)
 ·exact .inr h
section
variable{κ:Type}[DecidableEq κ]
def nI(kvs:List (κ×V))(k:κ):Option V:=(kvs.find? fun kv=>decide (kv.1=k)).map (·.2)
def BO(kvs:List (κ×V))(k:κ)(v:V):List (κ×V) :=
 if (kvs.any fun kv=>decide (kv.1=k))=true then kvs.map (fun kv=>if kv.1=k then(kv.1,v)else kv)else kvs++[(k,v)]
def Ee(kvs:List (κ×V))(k:κ):List (κ×V):=kvs.filter fun kv=>decide (kv.1≠k)
theorem Bt{p:κ×V}{r:List (κ×V)}{k:κ}(e:p.1=k):nI (p::r) k=some p.2:=by simp[nI,ai2,e]
theorem Bu{p:κ×V}{r:List (κ×V)}{k:κ}(e:¬ p.1=k):nI (p::r) k=nI r k:=by simp[nI,ai2,e]
theorem gY.getD{o:Option V}{u:Option Value}{d:V}{d':Value}(r:gY o u)(rd:bo d d'):bo (o.getD d) (u.getD d'):=by
 cases o with
 | none=>cases u with
  | none=>exact rd
  | some _=>exact(show False from r).elim
 | some _=>cases u with
  | none=>exact(show False from r).elim
  | some _=>exact r
theorem KV.val{kvs:List (κ×V)}{vs:List (κ×Value)}(r:KV kvs vs)(k:κ):gY (nI kvs k) (valueAt vs k):=by
 unfold KV at r
 induction r with
 | nil=>exact True.intro
 | @cons p q ps qs h t ih =>
  obtain⟨h1,h2⟩:=h
  by_cases e:p.1=k
  ·have e':q.1=k:=h1.symm.trans e
   have b:valueAt (q::qs) k=some q.2:=by simp[valueAt,ai2,e']
   rw[Bt e,b];exact h2
  ·have e':¬ q.1=k:=fun z=>e (h1.trans z)
   have b:valueAt (q::qs) k=valueAt qs k:=by simp[valueAt,ai2,e']
   rw[Bu e,b];exact ih
theorem KV.any{kvs:List (κ×V)}{vs:List (κ×Value)}(r:KV kvs vs)(k:κ):(kvs.any fun kv=>decide (kv.1=k))=vs.any fun kv=>decide (kv.1=k):=by
 unfold KV at r
 induction r with
 | nil=>rfl
 | cons h t ih=>rw[List.any_cons,List.any_cons,ih,h.1]
theorem KV.repl{kvs:List (κ×V)}{vs:List (κ×Value)}(r:KV kvs vs)(k:κ)(ry:bo y u) :
  KV (kvs.map fun kv=>if kv.1=k then(kv.1,y)else kv) (vs.map fun kv=>if kv.1=k then(kv.1,u)else kv):=by
 unfold KV at r⊢
 induction r with
 | nil=>exact .nil
 | @cons p q ps qs h t ih =>
  rw[ac4,ac4]
  refine .cons ?_ ih
  obtain⟨h1,h2⟩:=h
  by_cases e:p.1=k
  ·rw[if_pos e,if_pos (h1.symm.trans e)];exact⟨h1,ry⟩
  ·rw[if_neg e,if_neg (fun z=>e (h1.trans z))];exact⟨h1,h2⟩
theorem KV.put{kvs:List (κ×V)}{vs:List (κ×Value)}(r:KV kvs vs)(k:κ)(ry:bo y u):KV (BO kvs k y) (stored vs k u):=by
 unfold BO stored
 rw[r.any k]
 by_cases e:(vs.any fun kv=>decide (kv.1=k))=true
 ·rw[if_pos e,if_pos e];exact r.repl k ry
 ·rw[if_neg e,if_neg e];exact Paired.snoc r ⟨rfl,ry⟩
theorem KV.drop{kvs:List (κ×V)}{vs:List (κ×Value)}(r:KV kvs vs)(k:κ):KV (Ee kvs k) (without vs k):=by
 unfold KV at r⊢
 unfold Ee without
 induction r with
 | nil=>exact .nil
 | @cons p q ps qs h t ih =>
  obtain⟨h1,h2⟩:=h
  rw[List.filter_cons,List.filter_cons]
  by_cases e:p.1=k
  ·have a:¬ decide (p.1≠k)=true:=by simp[e]
   have b:¬ decide (q.1≠k)=true:=by simp[h1.symm.trans e]
   rw[if_neg a,if_neg b];exact ih
  ·have e':¬ q.1=k:=fun z=>e (h1.trans z)
   have a:decide (p.1≠k)=true:=by simp[e]
   have b:decide (q.1≠k)=true:=by simp[e']
   rw[if_pos a,if_pos b];exact .cons ⟨h1,h2⟩ ih
theorem KV.length{kvs:List (κ×V)}{vs:List (κ×Value)}(r:KV kvs vs):kvs.length=vs.length:=Paired.length r
end
end L2
set_option maxHeartbeats 4000000
namespace Sp
open PySem PySem.Spec PyProof.Rows L2
variable{K:W.Frag}{H H' H0 H1:Hp}{a c e e2 elt iter tg:Expr}{vs vs':List V}{v:V}{X:Cx}{σ:L2.St}{b it r r2 t:Bool}{i j k k2 ko n n1 n2 nn:Nat}{env:Env}{sc scope:Scope}{M:Model}{A:Around}{E Q:Value->Shared->Prop}{s:Shared}{cl:List (Str×Addr)}{f g m qual s0 x:Str}{pins:List (Addr×Obj)}{N' fs ns ps:List Str}{ch fp:List Addr}{P prog:Program}{w:World}{args cs es ifs tgs:List Expr}{ap apos cp p p1 p2 p4 pos px py q:Pos}{op op2:CmpOp}{body els ss:List Stmt}{α β:Type}{o:List Prop}{T:String}{hi lo:Option Expr}{h:Option Int}{st:Stmt}{mg:Str->Option Value}{base h2:Heap}{cdv mc:Value}{outer:List Env}{fd:FuncData}{dd:Option Addr}{its xs:Array Value}{tu:Addr}{us:List Value}
inductive D where
 | non|bl (b:Bool)|int (i:Int)|str (x:Str)|dct (ks:List eN) (ds:List D)|tup (l:List D)|lst (l:List D)|typ (n:String)|sn (n:Nat)|obj (n:Str) (ns:List Str) (ds:List D)|cls (n:Str)
mutual
def D.lless:D->Bool
 | .lst _=>false
 | .dct _ _=>false
 | .tup l=>aC l
 | _=>true
def aC:List D->Bool
 | []=>true
 | d::l=>d.lless&&aC l
end
def vM(K:W.Frag)(H:Hp)(a:Addr)(vs:List V):Bool->Prop
 | true=>H a=some (.lst vs)
 | false=>(∃o,H a=some (.frz o (.lst vs)))\/∃(o:Obj) (its:Array Value) (n:Nat),K.lookup a=some o/\o.cls=.type "list" /\ o.dict=none/\o.data=.seq its n/\its.size<=sizeLine/\aW vs its.toList
theorem vM.sq{a:Addr}:∀{b:Bool},vM K H a vs b->de K H a vs
 | true,h=>de.of h
 | false,.inl ⟨o,h⟩=>.inl (.inr ⟨o,h⟩)
 | false,.inr h=>.inr h
structure tM(K:W.Frag)(C:Addr):Prop where
 ha:W.findIn K (.ref C) "__class__" = some (some (.builtin "object.__class__"))
 hn:W.specialIn K (.builtin "object.__class__") "__get__" = some (some (.builtin "getset_descriptor.__get__"))
 ht:W.takesIn K (.builtin "object.__class__")=some true
 hm:W.mroIn K C (.type "object")=some true
def LX:List Str:=["Deed", "Turn", "HalfTurn", "Mirror"]
def tX(m n:Str):Bool:=decide (m=n) || (decide (n = "Deed")&&(decide (m = "Turn") || decide (m = "HalfTurn") || decide (m = "Mirror")))
structure P9(K:W.Frag)(C:Addr)(n:Str):Prop where
 all:∀m∈LX,∀Cm,W.nsIn K mainGlobals m=some (some (.ref Cm))->tM K Cm/\W.kitOne K (.ref Cm) (.ref C)=some (tX m n)
abbrev bO:=Addr->Bool->Prop
mutual
def ao(K:W.Frag)(H:Hp)(P:bO):D->V->Prop
 | .non,v=>v=.non
 | .bl b,v=>v=.bl b
 | .int i,v=>v=.int i
 | .str x,v=>v=.str x
 | .dct ks ds,v=>aC ds=true/\ks.length=ds.length/\∃a vs,v=.ref a/\H a=some (.dK (ks.zip vs))/\P a true/\ar K H P ds vs
 | .typ n,v=>v=.ty n
 | .sn n,v => ∃a S,v=.ref a/\H a=some (.set S n)
 | .cls n,v => ∃C o,v=.ref C/\W.nsIn K mainGlobals n=some (some (.ref C))/\K.lookup C=some o/\o.cls=.type "type" /\ tM K C/\P9 K C n
 | .obj n ns ds,v=>aC ds=true/\ns.length=ds.length/\∃a C dx vs,v=.ref a/\W.nsIn K mainGlobals n=some (some (.ref C))/\fE K C/\H a=some (.ins C dx (ns.zip vs))/\ar K H P ds vs
 | .tup l,v => ∃a vs,v=.ref a/\dh K H a vs/\ar K H P l vs
 | .lst l,v => ∃a vs b,v=.ref a/\vM K H a vs b/\P a b/\ar K H P l vs
def ar(K:W.Frag)(H:Hp)(P:bO):List D->List V->Prop
 | [],vs=>vs=[]
 | d::l,vs => ∃v r,vs=v::r/\ao K H P d v/\ar K H P l r
end
def nm:HO->Prop
 | .lst _=>False
 | .dK _=>False
 | _=>True
structure fz(P P':bO)(H H':Hp):Prop where
 oth:∀a o,H a=some o->nm o->H' a=some o
 lst:∀a o,H a=some o->P a true->H' a=some o
 impT:∀a o,H a=some o->P a true->P' a true
 impF:∀a,P a false->P' a false
theorem fz.sq{P P':bO}(s:fz P P' H H'){a:Addr}(h:dh K H a vs):dh K H' a vs:=by
 rcases h with(h|⟨o,h⟩)|h
 ·exact .inl (.inl (s.oth _ _ h True.intro))
 ·exact .inl (.inr ⟨o,s.oth _ _ h True.intro⟩)
 ·exact .inr h
theorem fz.ls{P P':bO}(s:fz P P' H H'){a:Addr}:∀{b:Bool},vM K H a vs b->P a b->vM K H' a vs b
 | true,h,p=>s.lst a _ h p
 | false,.inl ⟨o,h⟩,_=>.inl ⟨o,s.oth _ _ h True.intro⟩
 | false,.inr h,_=>.inr h
theorem fz.imp{P P':bO}(s:fz P P' H H'){a:Addr}:∀{b:Bool},vM K H a vs b->P a b->P' a b
 | true,h,p=>s.impT a _ h p
 | false,_,p=>s.impF a p
mutual
theorem ao.mono{K:W.Frag}{P P':bO}{H H':Hp}(s:fz P P' H H'):∀{d:D} {v:V},ao K H P d v->ao K H' P' d v
 | .non,v,h=>by rw[ao]at h⊢;exact h
 | .bl b,v,h=>by rw[ao]at h⊢;exact h
 | .int i,v,h=>by rw[ao]at h⊢;exact h
 | .str x,v,h=>by rw[ao]at h⊢;exact h
 | .dct ks ds,v,h=>by
  rw[ao]at h⊢
  obtain⟨f,e0,a,vs,e,h1,p,r⟩:=h
  exact⟨f,e0,a,vs,e,s.lst _ _ h1 p,s.impT _ _ h1 p,ar.mono s r⟩
 | .typ n,v,h=>by rw[ao]at h⊢;exact h
 | .sn n,v,h=>by
  rw[ao]at h⊢
  obtain⟨a,S,e,h⟩:=h
  exact⟨a,S,e,s.oth _ _ h True.intro⟩
 | .cls n,v,h=>by rw[ao]at h⊢;exact h
 | .obj n ns ds,v,h=>by
  rw[ao]at h⊢
  obtain⟨f,e0,a,C,dx,vs,e,h1,h2,h3,r⟩:=h
  exact⟨f,e0,a,C,dx,vs,e,h1,h2,s.oth _ _ h3 True.intro,ar.mono s r⟩
 | .tup l,v,h=>by
  rw[ao]at h⊢
  obtain⟨a,vs,e,h,r⟩:=h
  exact⟨a,vs,e,s.sq h,ar.mono s r⟩
 | .lst l,v,h=>by
  rw[ao]at h⊢
  obtain⟨a,vs,b,e,h,p,r⟩:=h
  exact⟨a,vs,b,e,s.ls h p,s.imp h p,ar.mono s r⟩
theorem ar.mono{K:W.Frag}{P P':bO}{H H':Hp}(s:fz P P' H H'):∀{l:List D} {vs:List V},ar K H P l vs->ar K H' P' l vs
 | [],vs,h=>by rw[ar]at h⊢;exact h
 | d::l,vs,h=>by
  rw[ar]at h⊢
  obtain⟨v,r,e,h1,h2⟩:=h
  exact⟨v,r,e,ao.mono s h1,ar.mono s h2⟩
end
theorem fz.same{P P':bO}(s:aJ H H')(i:∀a b,P a b->P' a b):fz P P' H H':=⟨fun a o h _=>s a o h,fun a vs h _=>s a _ h,fun a _ _ p=>i a true p,fun a p=>i a false p⟩
theorem ao.same{P:bO}(s:aJ H H'){d:D}(h:ao K H P d v):ao K H' P d v:=h.mono (.same s fun _ _ p=>p)
theorem ar.same{P:bO}(s:aJ H H'){d:List D}{v:List V}(h:ar K H P d v):ar K H' P d v:=h.mono (.same s fun _ _ p=>p)
theorem ao.imp{P P':bO}(i:∀a b,P a b->P' a b){d:D}(h:ao K H P d v):ao K H P' d v:=h.mono (.same (aJ.refl _) i)
theorem ar.imp{P P':bO}(i:∀a b,P a b->P' a b){d:List D}{v:List V}(h:ar K H P d v):ar K H P' d v:=h.mono (.same (aJ.refl _) i)
theorem ao.impH{P P':bO}(i:∀a o,H a=some o->P a true->P' a true)(j:∀a,P a false->P' a false){d:D}(h:ao K H P d v):ao K H P' d v:=h.mono ⟨fun _ _ h _=>h,fun _ _ h _=>h,i,j⟩
theorem ar.impH{P P':bO}(i:∀a o,H a=some o->P a true->P' a true)(j:∀a,P a false->P' a false){d:List D}{v:List V}(h:ar K H P d v):ar K H P' d v:=h.mono ⟨fun _ _ h _=>h,fun _ _ h _=>h,i,j⟩
mutual
theorem ao.flat{K:W.Frag}{P:bO}(P':bO){H:Hp}:∀{d:D} {v:V},d.lless=true->ao K H P d v->ao K H P' d v
 | .non,v,_,h=>by rw[ao]at h⊢;exact h
 | .bl b,v,_,h=>by rw[ao]at h⊢;exact h
 | .int i,v,_,h=>by rw[ao]at h⊢;exact h
 | .str x,v,_,h=>by rw[ao]at h⊢;exact h
 | .dct _ _,v,f,h=>by rw[D.lless]at f;cases f
 | .typ n,v,_,h=>by rw[ao]at h⊢;exact h
 | .sn n,v,_,h=>by rw[ao]at h⊢;exact h
 | .cls n,v,_,h=>by rw[ao]at h⊢;exact h
 | .obj n ns ds,v,_,h=>by
  rw[ao]at h⊢
  obtain⟨f,e0,a,C,dx,vs,e,h1,h2,h3,r⟩:=h
  exact⟨f,e0,a,C,dx,vs,e,h1,h2,h3,ar.flat P' f r⟩
 | .tup l,v,f,h=>by
  rw[ao]at h⊢
  obtain⟨a,vs,e,h,r⟩:=h
  exact⟨a,vs,e,h,ar.flat P' (by rw[D.lless]at f;exact f) r⟩
 | .lst l,v,f,h=>by rw[D.lless]at f;cases f
theorem ar.flat{K:W.Frag}{P:bO}(P':bO){H:Hp}:∀{l:List D} {vs:List V},aC l=true->ar K H P l vs->ar K H P' l vs
 | [],vs,_,h=>by rw[ar]at h⊢;exact h
 | d::l,vs,f,h=>by
  rw[ar]at h⊢
  rw[aC,ZZ]at f
  obtain⟨v,r,e,h1,h2⟩:=h
  exact⟨v,r,e,ao.flat P' f.1 h1,ar.flat P' f.2 h2⟩
end
theorem ar.length{P:bO}:∀{l:List D} {vs:List V},ar K H P l vs->l.length=vs.length
 | [],vs,h=>by rw[ar]at h;subst h;rfl
 | d::l,vs,h=>by
  rw[ar]at h
  obtain⟨v,r,e,h1,h2⟩:=h
  subst e
  rw[ab1,ab1,h2.length]
theorem ar.get{K:W.Frag}{P:bO}{H:Hp}:∀{l:List D} {vs:List V} {i:Nat} {d:D},ar K H P l vs->l[i]?=some d->∃v,vs[i]?=some v/\ao K H P d v
 | [],vs,i,d,h,e=>by simp at e
 | x::l,vs,0,d,h,e=>by
  rw[ar]at h
  obtain⟨v,r,rfl,h1,h2⟩:=h
  simp at e;subst e
  exact⟨v,by simp,h1⟩
 | x::l,vs,i+1,d,h,e=>by
  rw[ar]at h
  obtain⟨v,r,rfl,h1,h2⟩:=h
  obtain⟨u,h3,h4⟩:=ar.get (i:=i) h2 (by simpa using e)
  exact⟨u,by simpa using h3,h4⟩
theorem ar.append{K:W.Frag}{P:bO}{H:Hp}:∀{l m:List D} {vs ws:List V},ar K H P l vs->ar K H P m ws->ar K H P (l++m) (vs++ws)
 | [],m,vs,ws,h,g=>by rw[ar]at h;subst h;exact g
 | d::l,m,vs,ws,h,g=>by
  rw[ar]at h
  obtain⟨v,r,rfl,h1,h2⟩:=h
  show ar K H P (d::(l++m)) (v::(r++ws))
  rw[ar]
  exact⟨v,_,rfl,h1,ar.append h2 g⟩
theorem ar.one{P:bO}{d:D}(h:ao K H P d v):ar K H P [d] [v]:=by
 rw[ar];exact⟨v,[],rfl,h,by rw[ar]⟩
theorem ar.nil{P:bO}:ar K H P [] []:=by rw[ar]
theorem ar.cons{P:bO}{d:D}{l:List D}(h:ao K H P d v)(g:ar K H P l vs):ar K H P (d::l) (v::vs):=by
 rw[ar];exact⟨v,vs,rfl,h,g⟩
theorem ar.take{K:W.Frag}{P:bO}{H:Hp}:∀{l:List D} {vs:List V} (n:Nat),ar K H P l vs->ar K H P (l.take n) (vs.take n)
 | [],vs,n,h=>by rw[ar]at h;subst h;simp;exact ar.nil
 | d::l,vs,0,h=>by simp;exact ar.nil
 | d::l,vs,n+1,h=>by
  rw[ar]at h
  obtain⟨v,r,rfl,h1,h2⟩:=h
  exact ar.cons h1 (ar.take n h2)
theorem ar.drop{K:W.Frag}{P:bO}{H:Hp}:∀{l:List D} {vs:List V} (n:Nat),ar K H P l vs->ar K H P (l.drop n) (vs.drop n)
 | [],vs,n,h=>by rw[ar]at h;subst h;simp;exact ar.nil
 | d::l,vs,0,h=>h
 | d::l,vs,n+1,h=>by
  rw[ar]at h
  obtain⟨v,r,rfl,h1,h2⟩:=h
  exact ar.drop n h2
theorem ar.mapInt{K:W.Frag}{P:bO}{H:Hp}:∀{ns:List Int} {vs:List V},ar K H P (ns.map D.int) vs->vs=ns.map V.int
 | [],vs,h=>by rw[List.map_nil,ar]at h;exact h
 | n::ns,vs,h=>by
  rw[ac4,ar]at h
  obtain⟨v,r,rfl,h1,h2⟩:=h
  rw[ao]at h1
  rw[h1,ar.mapInt h2];rfl
theorem ar.ofInts{K:W.Frag}{P:bO}{H:Hp}:∀{ns:List Int},ar K H P (ns.map D.int) (ns.map V.int)
 | []=>ar.nil
 | n::ns=>ar.cons (by rw[ao]) ar.ofInts
abbrev Ow:=Addr->Option (Option Str)
def Kp(ow:Ow)(H:Hp):Nat->bO
 | 0=>fun a b=>b=true/\H a=none
 | 1=>fun a b=>b=true->ow a=none
 | 2=>fun a b=>b=true/\(ow a≠none\/H a=none)
 | _=>fun _ _=>True
def kj:Nat->Nat->Nat
 | 0,k=>k
 | k,0=>k
 | 1,1=>1
 | 2,2=>2
 | _,_=>3
def lN(ow:Ow)(x:Str):Bool->bO
 | true=>fun a b=>b=true/\ow a=some (some x)
 | false=>fun a b=>b=true->ow a=none
def fT(ow:Ow)(H:Hp):Prop:=∀a,ow a≠none->∃o,H a=some o
theorem fT.same{ow:Ow}(o:fT ow H)(s:aJ H H'):fT ow H':=fun a h=>let ⟨x,e⟩:=o a h;⟨x,s a x e⟩
theorem fT.free{ow:Ow}(o:fT ow H){a:Addr}(h:H a=none):ow a=none:=by
 cases e:ow a with
 | none=>rfl
 | some x=>obtain⟨y,q⟩:=o a (by rw[e];exact(fun z=>nomatch z));rw[h]at q;cases q
theorem Kp.back{ow:Ow}(s:aJ H H'):∀(k:Nat) (a:Addr) (b:Bool),Kp ow H' k a b->Kp ow H k a b
 | 0,a,b,h=>⟨h.1,s.free h.2⟩
 | 1,a,b,h=>h
 | 2,a,b,h=>⟨h.1,h.2.imp id fun z=>s.free z⟩
 | _+3,a,b,h=>True.intro
theorem Kp.joinL{ow:Ow}(o:fT ow H):∀(k j:Nat) (a:Addr) (b:Bool),Kp ow H k a b->Kp ow H (kj k j) a b
 | 0,0,a,b,h=>h
 | 0,1,a,b,h=>fun _=>o.free h.2
 | 0,2,a,b,h=>⟨h.1,.inr h.2⟩
 | 0,_+3,a,b,h=>True.intro
 | 1,0,a,b,h=>h
 | 1,1,a,b,h=>h
 | 1,2,a,b,h=>True.intro
 | 1,_+3,a,b,h=>True.intro
 | 2,0,a,b,h=>h
 | 2,1,a,b,h=>True.intro
 | 2,2,a,b,h=>h
 | 2,_+3,a,b,h=>True.intro
 | _+3,0,a,b,h=>True.intro
 | _+3,1,a,b,h=>True.intro
 | _+3,2,a,b,h=>True.intro
 | _+3,_+3,a,b,h=>True.intro
theorem Gs:∀k j,kj k j=kj j k
 | 0,0|0,1|0,2|0,_+3|1,0|1,1|1,2|1,_+3|2,0|2,1|2,2|2,_+3|_+3,0|_+3,1|_+3,2|_+3,_+3=>rfl
theorem Kp.joinR{ow:Ow}(o:fT ow H)(k j:Nat)(a:Addr)(b:Bool)(h:Kp ow H j a b):Kp ow H (kj k j) a b:=by
 rw[Gs];exact Kp.joinL o j k a b h
abbrev am:=Str->Option (D×Bool)
structure bm(X:Cx)(ow:Ow)(H:Hp)(σ:L2.St)(ρ:am):Prop where
 get:∀x d o,ρ x=some (d,o)->∃(i:Nat) (v:V),X.N[i]?=some x/\gB X.env.scope x/\σ[i]?=some (some v)/\ao X.K H (lN ow x o) d v
 own:fT ow H
theorem bm.same{ow:Ow}{ρ:am}(e:bm X ow H σ ρ)(s:aJ H H'):bm X ow H' σ ρ :=
 ⟨fun x d o h=>let ⟨i,v,h1,h2,h3,h4⟩:=e.get x d o h;⟨i,v,h1,h2,h3,h4.same s⟩,e.own.same s⟩
def tD(X:Cx)(ow:Ow)(ρ:am)(d:D)(k:Nat):TE:=fun σ H Q=>bm X ow H σ ρ/\∀v H',aJ H H'->ao X.K H' (Kp ow H k) d v->Q v H'
def ED(X:Cx)(ρ:am)(e:Expr)(d:D)(k:Nat):Prop:=∀ow,PE X e (tD X ow ρ d k)
def Du(X:Cx)(ow:Ow)(ρ:am)(b:Bool):TT:=fun σ H Q=>bm X ow H σ ρ/\∀H',aJ H H'->Q b H'
def TD(X:Cx)(ρ:am)(e:Expr)(b:Bool):Prop:=∀ow,PT X e (Du X ow ρ b)
def ZA(X:Cx)(ow:Ow)(ρ:am)(ds:List D)(k:Nat):TA:=fun σ H Q=>bm X ow H σ ρ/\∀vs H',aJ H H'->ar X.K H' (Kp ow H k) ds vs->Q vs H'
def AD(X:Cx)(ρ:am)(es:List Expr)(ds:List D)(k:Nat):Prop:=∀ow,PA X es (ZA X ow ρ ds k)
theorem bS{t t':TE}(h:PE X e t)(i:∀σ H Q,t' σ H Q->t σ H Q):PE X e t':=fun pins s σ H Q I q=>h pins s σ H Q I (i σ H Q q)
theorem tL{t t':TT}(h:PT X e t)(i:∀σ H Q,t' σ H Q->t σ H Q):PT X e t':=fun pins s σ H Q I q=>h pins s σ H Q I (i σ H Q q)
theorem Em{e:List Expr}{t t':TA}(h:PA X e t)(i:∀σ H Q,t' σ H Q->t σ H Q):PA X e t':=fun pos pins s σ H Q I q=>h pos pins s σ H Q I (i σ H Q q)
def kn(d:D)(k:Nat):Nat:=if d.lless=true then 0 else k
theorem ED.kn{ρ:am}{d:D}(h:ED X ρ e d k):ED X ρ e d (Sp.kn d k):=by
 unfold Sp.kn
 by_cases f:d.lless=true
 ·rw[if_pos f]
  exact fun ow=>bS (h ow) fun σ H Q ⟨E,q⟩=>⟨E,fun v H' s r=>q v H' s (r.flat _ f)⟩
 ·rw[if_neg f];exact h
variable{C C' ρ ρ':am}{d y z:D}{ow ow':Ow}{ds l l':List D}
def Qp(K:W.Frag)(J:It)(ds:List D)(P:bO)(H1:Hp):Prop :=
 ∀(i:Nat) (H2:Hp),fz P P H1 H2->(∀d,ds[i]?=some d->J.go i H2/\∀x H3,J.yld i H2 x H3->aJ H2 H3/\ao K H3 P d x)/\(ds.length<=i->J.stop i H2)
def Kd(ow:Ow)(H:Hp)(k:Nat)(H1:Hp):bO:=fun a b=>Kp ow H k a b/\(b=true->∃o,H1 a=some o)
def tI(X:Cx)(ow:Ow)(ρ:am)(ds:List D)(k:Nat):TI:=fun σ H R=>bm X ow H σ ρ/\∀J H1,aJ H H1->Qp X.K J ds (Kd ow H k H1) H1->R J H1
def IE(X:Cx)(ρ:am)(tg iter:Expr)(ds:List D)(k:Nat):Prop:=∀ow,PI X tg iter (tI X ow ρ ds k)
def i7(ifs:List Expr)(env:Env):Sem Bool:=forIn ifs true fun c r=>if r=true then do let ok <- isTrue c env (eval c env);pure (ForInStep.yield ok)else pure (ForInStep.yield r)
def Bm(X:Cx)(ρ:am)(ifs:List Expr)(b:Bool):Prop:=∀ow (pins:List (Addr×Obj)) (s:Shared) (σ:L2.St) (H:Hp) (Q:Bool->Hp->Prop),Inv X pins σ H s->Du X ow ρ b σ H Q->wpAny (model X.prog X.w) X.A (i7 ifs X.env) (TP X pins σ Q) X.xe s
def GD(X:Cx)(ρ:am)(tg:Expr)(d:D)(ρ':am):Prop:=∃g:TG,PG X tg g/\∀(ow:Ow) (v:V) (σ:L2.St) (H:Hp) (Q:L2.St->Hp->Prop),σ.length=X.N.length->bm X ow H σ ρ->ao X.K H (fun a b=>b=true->ow a=none) d v->(∀σ',σ'.length=X.N.length->bm X ow H σ' ρ'->Q σ' H)->g v σ H Q
abbrev lW(X:Cx)(scope:Scope)(cl:List (Str×Addr))(C:Addr)(N':List Str)(s:Shared)(H:Hp)(fp:List Addr):Cx :=
 { X with N:=N',s₀:=s,H₀:=H,env:=compEnvC scope cl C X.env,outer:=X.stack,stack:=X.stack,ex:=fp,fn:=fun x=>decide (scope.names.lookup x=some .cell),pn:=[],xe:=fun _ _=>False }
theorem i8{env:Env}:∀(names:List (Str×NameKind)) (cs:List (Str×Addr)),(∀n,(n,NameKind.free)∈names->∃c,env.cells.lookup n=some c) ->
  ∃cl,(forIn names cs (fun(x:Str×NameKind) (r:List (Str×Addr))=>(if (x.2==NameKind.free)=true then do let a <- cellOf env x.1;pure (ForInStep.yield ((x.1,a)::r))else pure (ForInStep.yield r):Sem (ForInStep (List (Str×Addr))))))=(pure cl:Sem (List (Str×Addr))) /\
   (∀x c,cl.lookup x=some c->(env.cells.lookup x=some c/\(x,NameKind.free)∈names)\/cs.lookup x=some c)/\(∀x,(x,NameKind.free)∈names->∃c,cl.lookup x=some c)/\(∀x c,cs.lookup x=some c->∃c',cl.lookup x=some c')
 | [],cs,_=>⟨cs,rfl,fun x c h=>.inr h,fun x h=>(by cases h),fun x c h=>⟨c,h⟩⟩
 | (n,k)::r,cs,h=>by
  have hr:∀n,(n,NameKind.free)∈r->∃c,env.cells.lookup n=some c:=fun m hm=>h m (ZR _ hm)
  by_cases hk:k=.free
  ·subst hk
   obtain⟨c,hc⟩:=h n ZV
   obtain⟨cl,e,h1,h2,h3⟩:=i8 r ((n,c)::cs) hr
   refine⟨cl,?_,fun x c' hx=>?_,fun x hx=>?_,fun x c' hx=>?_⟩
   ·rw[ag5]
    simp only[beq_self_eq_true,ai7,cellOf,hc]
    rw[pure_bind,pure_bind]
    exact e
   ·rcases h1 x c' hx with q|q
    ·exact .inl ⟨q.1,ZR _ q.2⟩
    ·rw[aa4]at q
     split at q
     ·rename_i hb
      have:x=n:=by simpa using hb
      subst this;cases q;exact .inl ⟨hc,ZV⟩
     ·exact .inr q
   ·rcases ZT.mp hx with q|q
    ·cases q
     exact h3 n c (by simp)
    ·exact h2 x q
   ·by_cases hb:x==n
    ·exact h3 x c (by rw[aa4,hb])
    ·exact h3 x c' (by rw[aa4];simp only[hb];exact hx)
  ·obtain⟨cl,e,h1,h2,h3⟩:=i8 r cs hr
   refine⟨cl,?_,fun x c hx=>(h1 x c hx).imp (fun q=>⟨q.1,ZR _ q.2⟩) id,fun x hx=>?_,h3⟩
   ·rw[ag5]
    have:(k==NameKind.free)=false:=by simpa using hk
    simp only[this,ah8,ak9]
    rw[pure_bind]
    exact e
   ·rcases ZT.mp hx with q|q
    ·cases q;exact absurd rfl hk
    ·exact h2 x q
theorem vZ(h:∀n,(n,NameKind.free)∈scope.names->∃c,env.cells.lookup n=some c) :
  ∃cl,closureFor scope env=pure cl/\(∀x c,cl.lookup x=some c->env.cells.lookup x=some c/\(x,NameKind.free)∈scope.names)/\(∀x,(x,NameKind.free)∈scope.names->∃c,cl.lookup x=some c):=by
 obtain⟨cl,e,h1,h2,_⟩:=i8 scope.names [] h
 refine⟨cl,?_,fun x c hx=>(h1 x c hx).resolve_right (by simp),h2⟩
 unfold closureFor
 rw[<- e,<- bind_pure (forIn scope.names _ _)]
theorem d9{env:Env}:∀{names:List (Str×NameKind)} {x:Str},names.lookup x=some .free ->
  (names.map fun(n,k)=>if (k==NameKind.free&&env.scope.kind == .function&&env.kindOf n==some .cell)then(n,NameKind.cell)else(n,k)).lookup x=some .cell \/
  (names.map fun(n,k)=>if (k==NameKind.free&&env.scope.kind == .function&&env.kindOf n==some .cell)then(n,NameKind.cell)else(n,k)).lookup x=some .free
 | [],_,h=>by simp at h
 | (n,k)::r,x,h=>by
  have ih:=@d9 env r x
  show List.lookup x ((if (k==NameKind.free&&env.scope.kind == .function&&env.kindOf n==some .cell)=true then(n,NameKind.cell)else(n,k))::_)=_\/List.lookup x ((if (k==NameKind.free&&env.scope.kind == .function&&env.kindOf n==some .cell)=true then(n,NameKind.cell)else(n,k))::_)=_
  cases hx:x==n with
  | true =>
   simp only[aa4,hx]at h
   cases h
   by_cases hc:(NameKind.free==NameKind.free&&env.scope.kind == .function&&env.kindOf n==some .cell)=true
   ·rw[if_pos hc];simp[aa4,hx]
   ·rw[if_neg hc];simp[aa4,hx]
  | false =>
   simp only[aa4,hx]at h
   by_cases hc:(k==NameKind.free&&env.scope.kind == .function&&env.kindOf n==some .cell)=true
   ·rw[if_pos hc];simp only[aa4,hx];exact ih h
   ·rw[if_neg hc];simp only[aa4,hx];exact ih h
theorem gR{env:Env}:∀{names:List (Str×NameKind)} {x:Str} {k:NameKind},(names.map fun(n,k)=>if (k==NameKind.free&&env.scope.kind == .function&&env.kindOf n==some .cell)then(n,NameKind.cell)else(n,k)).lookup x=some k ->
  names.lookup x=some k\/(k=.cell/\names.lookup x=some .free)
 | [],_,_,h=>by simp at h
 | (n,j)::r,x,k,h=>by
  have ih:=@gR env r x k
  replace h:List.lookup x ((if (j==NameKind.free&&env.scope.kind == .function&&env.kindOf n==some .cell)=true then(n,NameKind.cell)else(n,j))::_)=some k:=h
  cases hx:x==n with
  | true =>
   simp only[aa4,hx]
   by_cases hc:(j==NameKind.free&&env.scope.kind == .function&&env.kindOf n==some .cell)=true
   ·rw[if_pos hc]at h
    simp only[aa4,hx]at h
    cases h
    have:j=.free:=by
     have:=(ZZ _ _).mp ((ZZ _ _).mp hc).1
     simpa using this.1
    exact .inr ⟨rfl,by rw[this]⟩
   ·rw[if_neg hc]at h
    simp only[aa4,hx]at h
    exact .inl h
  | false =>
   simp only[aa4,hx]
   by_cases hc:(j==NameKind.free&&env.scope.kind == .function&&env.kindOf n==some .cell)=true
   ·rw[if_pos hc]at h;simp only[aa4,hx]at h;exact ih h
   ·rw[if_neg hc]at h;simp only[aa4,hx]at h;exact ih h
structure iz(env:Env)(scope:Scope)(N':List Str):Prop where
 kind:scope.kind=.function
 nn:(scope.names.map (·.1)).Nodup
 names:∀y∈scope.names,y.2=.local->scope.names.lookup y.1=some .local
 nd:N'.Nodup
 fr:∀n,(n,NameKind.free)∈scope.names->env.kindOf n=some .cell\/env.kindOf n=some .free
theorem uJ:∀{names:List (Str×NameKind)} {x:Str} {k:NameKind},(names.map (·.1)).Nodup->(x,k)∈names->names.lookup x=some k
 | [],_,_,_,h=>by cases h
 | (n,j)::r,x,k,nd,h=>by
  rw[ac4,ak5]at nd
  rcases ZT.mp h with e|h'
  ·cases e;simp
  ·have hx:(x==n)=false:=by
    cases q:x==n with
    | false=>rfl
    | true =>
     have:x=n:=by simpa using q
     subst this
     have hm:x∈r.map (·.1):=ae2.mpr ⟨(x,k),h',rfl⟩
     exact absurd hm nd.1
   rw[aa4,hx]
   exact uJ nd.2 h'
theorem pz:∀(names:List (Str×NameKind)) (n:Nat) (acc:List (Str×Addr)) {x:Str} {c:Addr},(cellsFrom n names acc).lookup x=some c->acc.lookup x=some c\/(n<=c/\(x,NameKind.cell)∈names)
 | [],_,_,_,_,h=>.inl h
 | (y,k)::r,n,acc,x,c,h=>by
  unfold cellsFrom at h
  split at h
  ·rename_i hk
   have hk:k=.cell:=by simpa using hk
   subst hk
   rcases pz r (n+1) ((y,n)::acc) h with q|⟨q1,q2⟩
   ·rw[aa4]at q
    split at q
    ·rename_i hb
     have:x=y:=by simpa using hb
     subst this
     cases q
     exact .inr ⟨ZP _,ZV⟩
    ·exact .inl q
   ·exact .inr ⟨by omega,ZR _ q2⟩
  ·rcases pz r n acc h with q|⟨q1,q2⟩
   ·exact .inl q
   ·exact .inr ⟨q1,ZR _ q2⟩
theorem vn:∀(names:List (Str×NameKind)) (n:Nat) (acc:List (Str×Addr)),(∀x y c,acc.lookup x=some c->acc.lookup y=some c->x=y)->(∀x c,acc.lookup x=some c->c<n) ->
  ∀x y c,(cellsFrom n names acc).lookup x=some c->(cellsFrom n names acc).lookup y=some c->x=y
 | [],_,_,h,_,x,y,c,a,b=>h x y c a b
 | (z,k)::r,n,acc,h,hb,x,y,c,a,b=>by
  unfold cellsFrom at a b
  split at a
  ·rename_i hk
   rw[if_pos hk]at b
   refine vn r (n+1) ((z,n)::acc) (fun u v d p q=>?_) (fun u d p=>?_) x y c a b
   ·rw[aa4]at p q
    split at p
    ·rename_i e1
     split at q
     ·rename_i e2
      rw[show u=z by simpa using e1,show v=z by simpa using e2]
     ·cases p;exact absurd (hb v _ q) (ac7 _)
    ·split at q
     ·cases q;exact absurd (hb u _ p) (ac7 _)
     ·exact h u v d p q
   ·rw[aa4]at p
    split at p
    ·cases p;exact ac5 _
    ·exact Nat.lt_succ_of_lt (hb u d p)
  ·rename_i hk
   rw[if_neg hk]at b
   exact vn r n acc h hb x y c a b
theorem re:∀(names:List (Str×NameKind)) (h:Heap) (acc:List (Str×Addr)),(∀x c,acc.lookup x=some c->∃v,h.IsCell c v)->∀x c,(cellsFrom h.objs.size names acc).lookup x=some c->∃v,(pushCells h names).IsCell c v
 | [],_,_,h,x,c,a=>h x c a
 | (z,k)::r,h,acc,hc,x,c,a=>by
  unfold cellsFrom at a
  unfold pushCells
  split at a
  ·rename_i hk
   rw[if_pos hk]
   have:=re r (h.push { cls:=.type "cell", data:=.cell none }) ((z,h.objs.size)::acc) (fun u d p=>?_) x c
   ·rw[ab8]at this
    exact this a
   ·rw[aa4]at p
    split at p
    ·cases p;exact⟨none,_,ZQ _ rfl,rfl⟩
    ·obtain⟨v,q⟩:=hc u d p
     exact⟨v,q.keeps fun b o e=>ZM _ e⟩
  ·rename_i hk
   rw[if_neg hk]
   exact re r h acc hc x c a
theorem zc{globals:Addr}{Q:Env->Shared->Prop}(hcl:∀x c,cl.lookup x=some c->∃v,s.heap.IsCell c v)
  (h:∀h',h'.Ns s.heap.objs.size (fun _=>none)->(∀b o,s.heap.get? b=some o->h'.get? b=some o)->(∀x c,(cellsFrom (s.heap.objs.size+1) scope.names cl).lookup x=some c->∃v,h'.IsCell c v) ->
   Q (newEnv scope s.heap.objs.size globals (cellsFrom (s.heap.objs.size+1) scope.names cl) qual none .none (some env) builtinsNs) { s with heap:=h',toks:=s.toks+0 }) :
  wpAny M A (newFunctionEnv scope globals cl [] qual none .none (some env)) Q E s:=by
 simp only[newFunctionEnv,Option.isSome_some,ai7]
 refine ZL (wpAny_alloc ?_)
 refine ZL (wpAny_layCells _ (fun name kind cells=>by cases hkc:kind==NameKind.cell<;>simp[hkc]) _ _ _ _ ?_)
 rw[show({ s with heap:=s.heap.push { cls:=.type "dict", data:=.dict #[] } }:Shared).heap.objs.size=s.heap.objs.size+1 from ab8 ..]
 rw[aj6]
 refine ZL (ZO (ZO ?_))
 refine h _ ((Heap.Ns.new s.heap (.type "dict")).keeps (pushCells_keeps _ _)) (fun b o e=>pushCells_keeps _ _ b o (ZM _ e)) fun x c hc=>?_
 have:=re scope.names (s.heap.push { cls:=.type "dict", data:=.dict #[] }) cl (fun u d p=>by
  obtain⟨v,q⟩:=hcl u d p
  exact⟨v,q.keeps fun b o e=>ZM _ e⟩) x c
 rw[ab8]at this
 exact this hc
structure nj(X:Cx)(scope:Scope)(cl:List (Str×Addr))(n:Nat):Prop where
 k1:∀x c,cl.lookup x=some c->X.env.cells.lookup x=some c\/(n<c/\scope.names.lookup x=some .cell)
 k2:∀x,scope.names.lookup x=some .free\/scope.names.lookup x=some .cell->∃c,cl.lookup x=some c
 k4:∀x y c,cl.lookup x=some c->cl.lookup y=some c->x=y
 k5:∀x c,scope.names.lookup x=some .cell->cl.lookup x=some c->n<=c
variable{X:Cx}
theorem CH(I:Inv X pins σ H s)(S:iz X.env scope N')
  (h1:∀x c,cl.lookup x=some c->X.env.cells.lookup x=some c/\(x,NameKind.free)∈scope.names) (h2:∀x,(x,NameKind.free)∈scope.names->∃c,cl.lookup x=some c) :
  nj X scope (cellsFrom (s.heap.objs.size+1) scope.names cl) s.heap.objs.size where
 k1:=fun x c h=>by
  rcases pz _ _ _ h with q|⟨q1,q2⟩
  ·exact .inl (h1 x c q).1
  ·exact .inr ⟨q1,uJ S.nn q2⟩
 k2:=fun x h=>by
  refine Option.isSome_iff_exists.mp (W.cellsFrom_some scope.names _ cl ?_)
  rcases h with h|h
  ·obtain⟨c,hc⟩:=h2 x (aa0 h)
   exact .inr (by rw[hc];rfl)
  ·exact .inl h
 k4:=vn scope.names _ cl (fun x y c a b=>I.ok.inj x y c (h1 x c a).1 (h1 y c b).1) fun x c a=>by
  obtain⟨v,hv⟩:=I.cell x c (h1 x c a).1
  exact Nat.lt_succ_of_lt hv.lt
 k5:=fun x c hx h=>by
  rcases pz _ _ _ h with q|⟨q1,q2⟩
  ·rw[uJ S.nn (h1 x c q).2]at hx;cases hx
  ·omega
theorem Od{C:Addr}(I:Inv X pins σ H s)(S:iz X.env scope N')
  (hC:s.heap.objs.size<=C) (k:nj X scope cl s.heap.objs.size)
  (hf:∀b∈fp,hJ X pins H b) (hfC:∀b∈fp,b<s.heap.objs.size):(lW X scope cl C N' s H fp).Ok where
 mod:=I.ok.mod
 kind:=by show(relabel scope X.env).kind=_;exact S.kind
 glob:=I.ok.glob
 blt:=I.ok.blt
 above:=hC
 inj:=k.k4
 has:=fun x hx=>by
  have hx:(relabel scope X.env).names.lookup x=some .cell\/(relabel scope X.env).names.lookup x=some .free:=hx
  rcases hx with hx|hx
  ·rcases gR hx with q|⟨_,q⟩
   ·exact k.k2 x (.inr q)
   ·exact k.k2 x (.inl q)
  ·rcases gR hx with q|⟨q,_⟩
   ·exact k.k2 x (.inl q)
   ·cases q
 cab:=fun x c h hc=>k.k5 x c (af9 h) hc
 hd:=I.ok.hd
 frames:=I.ok.frames
 stk:=.inl rfl
 exf:=fun b hb=>⟨by have:=hfC b hb;intro z;subst z;show False;exact absurd (ZW this hC) (ac7 _),fun x c h=>by
  rcases k.k1 x c h with q|⟨q,_⟩
  ·exact(hf b hb).2.2.2.2.1 x c q
  ·have:=hfC b hb
   intro z;subst z;exact absurd (al7 q this) (ac7 _)⟩
 bs:=I.bs
 bsz:=ZN I.ok.bsz I.sz
 noex:=fun b o e hb=>by
  rcases(hf b hb).2.2.2.1 with q|q
  ·exact I.ok.noex b o e q
  ·exact absurd (ZW (ZS e) (ZN I.ok.bsz q)) (ac7 _)
 exfs:=fun b hb z=>by
  rcases ZT.mp (I.stkSub b z)with q|q
  ·exact(hf b hb).2.1 q
  ·exact(hf b hb).2.2.1 q
 funs:=I.stack
 frf:=I.stkFree
def nM(X:Cx)(scope:Scope)(N':List Str)(σ:L2.St):L2.St:=N'.map fun x=>if scope.names.lookup x=some .free then(σ[X.N.idxOf x]?).join else none
theorem KP{s1:Shared}{m:Str->Option Value}(I:Inv X pins σ H s)(S:iz X.env scope N')
  (k:nj X scope cl s.heap.objs.size) (k6:∀x c,cl.lookup x=some c->∃v,s1.heap.IsCell c v)
  (hf:∀b∈fp,hJ X pins H b) (hfC:∀b∈fp,b<s.heap.objs.size)
  (es:∃h t,s1 = { s with heap:=h,toks:=t }) (hns:s1.heap.Ns s.heap.objs.size m) (hk:∀b o,s.heap.get? b=some o->s1.heap.get? b=some o) :
  Inv (lW X scope cl s.heap.objs.size N' s H fp) [] (nM X scope N' σ) H s1:=by
 obtain⟨h',t,rfl⟩:=es
 have I1:Inv X pins σ H { s with heap:=h',toks:=t }:=I.kept hk
 refine⟨Od I S (ZP _) k hf hfC,rfl,I.bare,Un.kept hk,⟨m,hns,fun i x v e1 e2 e3=>?_⟩,k6,I.hok.fresh (ZP _),fun x c h=>(k.k1 x c h).elim (fun q=>I.freeC x c q) fun q=>I.hok.fresh (aj4 q.1),fun p hp=>absurd (show p∈([]:List (Addr×Obj))from hp) (by simp),I1.hok,?_⟩
 ·have hN:N'[i]?=some x:=e1
  unfold nM at e2
  rw[af8,hN]at e2
  simp only[Option.map_some,Option.some.injEq]at e2
  split at e2
  ·rename_i hfr
   have hj:σ[X.N.idxOf x]?=some (some v):=by
    cases q:σ[X.N.idxOf x]? with
    | none=>rw[q]at e2;cases e2
    | some y=>rw[q]at e2;rw[show y=some v from e2]
   have hlt:X.N.idxOf x<X.N.length:=by rw[<- I.len];exact(aa7.mp hj).1
   have hx:X.N[X.N.idxOf x]?=some x:=by
    rw[aa3 hlt,aj0 hlt]
   have kf:=S.fr x (aa0 hfr)
   have vis:gB X.env.scope x:=.inr (kf.imp id id)
   obtain⟨m1,hn1,hl1⟩:=I1.loc
   obtain⟨u,r,l⟩:=hl1 _ x v hx hj vis
   refine⟨u,r,.inr ⟨?_,?_⟩⟩
   ·exact d9 hfr
   ·rcases l with⟨hk',_⟩|⟨_,c,hc,hcell⟩
    ·rcases kf with q|q<;>rw[q]at hk'<;>cases hk'
    ·obtain⟨c',hc'⟩:=k.k2 x (.inl hfr)
     have:c'=c:=by
      rcases k.k1 x c' hc' with this|⟨_,this⟩
      ·rw[hc]at this;exact(ad5 this).symm
      ·rw[hfr]at this;cases this
     subst this
     exact⟨c',hc',hcell⟩
  ·cases e2
 ·unfold nM;simp
def flt(scope:Scope)(ρ:am):am:=fun x=>if scope.names.lookup x=some .free then ρ x else none
theorem kL{y:D×Bool}(h:flt scope ρ x=some y):ρ x=some y/\scope.names.lookup x=some .free:=by
 unfold flt at h
 split at h
 ·rename_i e;exact⟨h,e⟩
 ·cases h
theorem Lj{C:Addr}(E:bm X ow H σ ρ)(hN:X.N.Nodup)
  (hsub:∀x d o,flt scope ρ x=some (d,o)->x∈N') :
  bm (lW X scope cl C N' s H0 fp) ow H (nM X scope N' σ) (flt scope ρ):=by
 refine⟨fun x d o h=>?_,E.own⟩
 obtain⟨h1,h2⟩:=kL h
 obtain⟨i,v,e1,e2,e3,e4⟩:=E.get x d o h1
 have hx:x∈N':=hsub x d o h
 have hi:X.N.idxOf x=i:=by
  have hm:x∈X.N:=ae0 e1
  have hlt:=List.idxOf_lt_length_iff.mpr hm
  exact kD hN (by rw[aa3 hlt,aj0 hlt]) e1
 refine⟨N'.idxOf x,v,?_,?_,?_,e4⟩
 ·have hlt:=List.idxOf_lt_length_iff.mpr hx
  show N'[N'.idxOf x]?=some x
  rw[aa3 hlt,aj0 hlt]
 ·exact .inr (d9 h2)
 ·have hlt:=List.idxOf_lt_length_iff.mpr hx
  unfold nM
  rw[af8,aa3 hlt,aj0 hlt]
  simp only[Option.map_some]
  rw[if_pos h2,hi,e3];rfl
variable{X:Cx}
theorem AJ{R:Result->Shared->Prop}{target:Expr}{it acc:Value}(J:Nat->Shared->Prop)
    (turn:∀n s,J n s->wpAny (model prog w) A (pyNext it) (fun r s₁=>match r with
      | none=>R (.ok .next) s₁
      | some v=>wpAny (model prog w) A (letOwnedTupleGo target it v) (fun _ s₁=>wpAny (model prog w) A (assign target env v) (fun _ s₂ =>
          wpAny (model prog w) A (i7 ifs env) (fun ok s₃ =>
            if ok=true then wpAny (model prog w) A (eval elt env) (fun x s₄ =>
              wpAny (model prog w) A (call (.builtin "list.append") [acc,x]) (fun _ s₅ => ∃m,m<n/\J m s₅) (fun _ _=>False) s₄) (fun _ _=>False) s₃
            else ∃m,m<n/\J m s₃) (fun _ _=>False) s₂) (fun _ _=>False) s₁) (fun _ _=>False) s₁) (fun _ _=>False) s)
    (n:Nat) (h:J n s):codeAny (model prog w) A (.compLoop (.ListComp elt [⟨target,iter,ifs,0⟩] scope pos) 0 it acc env) R s:=by
  refine codeAny_loop rfl J (fun n s hI=>?_) n h
  show wpAny _ A ((compTurn (.ListComp elt [⟨target,iter,ifs,0⟩] scope pos) 0 it acc env).onRaise (fun x=>do noteFrame x env;theTreesLotGoes x)) _ _ s
  refine wpAny_noted ?_
  rw[compTurn_list]
  refine ZL (wpAny_standAt (ZL (ag3 (turn n s hI) (fun r s₁ h₁=>?_) fun _ _ h'=>h'.elim)))
  cases r with
  | none=>exact ZO h₁
  | some v =>
    refine ZL (ag3 h₁ (fun _ s₁' h₁'=>?_) fun _ _ h'=>h'.elim)
    refine ZL (ag3 h₁' (fun _ s₂ h₂=>ZL (ag3 h₂ (fun ok s₃ h₃=>?_) fun _ _ h'=>h'.elim)) fun _ _ h'=>h'.elim)
    cases ok with
    | false=>exact ZO ⟨rfl,h₃⟩
    | true =>
      exact ZL (ZL (ag3 h₃ (fun x s₄ h₄=>ZL (ag3 h₄ (fun _ s₅ h₅=>ZO (ZO ⟨rfl,h₅⟩)) fun _ _ h'=>h'.elim)) fun _ _ h'=>h'.elim))
def na(X:Cx)(ρ:am)(tg:Expr)(ifs:List Expr)(elt:Expr)(k:Nat)(d:D)(r:Option D):Prop :=
 ∃ρ' b,GD X ρ tg d ρ'/\(∀x y,ρ x=some y->ρ' x=some y)/\Bm X ρ' ifs b/\match r with|some d'=>b=true/\ED X ρ' elt d' k|none=>b=false
theorem gm(o:fT ow H){a:Addr}:∀{k:Nat},k<=1->Kp ow H k a true->ow a=none
 | 0,_,p=>o.free p.2
 | 1,_,p=>p rfl
 | _+2,h,_=>absurd h (by omega)
theorem Gr{H9:Hp}{D:Addr}{x:HO}(sm:aJ H H9)(hD:H9 D=some x){a:Addr}:∀{k:Nat},k<=1->Kp (fun a=>if a=D then some none else ow a) H9 k a b->Kp ow H k a b/\(b=true->a≠D)
 | 0,_,p=>⟨⟨p.1,sm.free p.2⟩,fun _ z=>by subst z;have:=p.2;rw[hD]at this;cases this⟩
 | 1,_,p=>by
  have p:b=true->(if a=D then some none else ow a)=none:=p
  refine⟨fun hb=>?_,fun hb hz=>?_⟩
  ·have p:=p hb
   by_cases hz:a=D
   ·rw[if_pos hz]at p;cases p
   ·rw[if_neg hz]at p;exact p
  ·have p:=p hb
   rw[if_pos hz]at p;cases p
 | _+2,h,_=>absurd h (by omega)
theorem Ae{D:Addr}(o:fT ow H)(hD:H D=none):∀{k:Nat},k<=1->Kp ow H k D true
 | 0,_=>⟨rfl,hD⟩
 | 1,_=>fun _=>o.free hD
 | _+2,h=>absurd h (by omega)
theorem oR:∀{l:List D} {i:Nat} {d:D},aC l=true->l[i]?=some d->d.lless=true
 | [],_,_,_,h=>by simp at h
 | x::l,0,d,f,h=>by
  rw[aC,ZZ]at f
  simp at h;subst h;exact f.1
 | x::l,i+1,d,f,h=>by
  rw[aC,ZZ]at f
  exact oR (i:=i) f.2 (by simpa using h)
structure ni(X:Cx)(pins:List (Addr×Obj))(σ:L2.St)(H5:Hp)(s6:Shared)(C:Addr)(m6:Str->Option Value):Prop where
 inv:Inv X pins σ H5 s6
 ns:s6.heap.Ns C m6
 free:H5 C=none
 loc:C≠X.env.locals
 old:X.s₀.heap.objs.size<=C
 cell:∀x c,X.env.cells.lookup x=some c->c≠C
 pin:∀p∈X.pn++pins,p.1≠C
 fs:C∉X.fs
theorem rZ{use:Option (Value->Sem Unit)}{Q':Value->Shared->Prop}{pos2:Pos}{f:D->Option D}
  (hcalm:X.calm=true) (hN:X.N.Nodup) (hk:aC ds=true\/k<=1) (hko:ko<=1) (hlen:ds.length<sizeLine) (S:iz X.env scope N') (hsub:∀x d o,flt scope ρ x=some (d,o)->x∈N')
  (hi:IE X ρ tg iter ds k)
  (turn:∀cl C s H fp,∀d∈ds,na (lW X scope cl C N' s H fp) (flt scope ρ) tg ifs elt ko d (f d))
  (hs:∀x,foldedSetIterable iter X.env x=pure x) (I:Inv X pins σ H s) (E:bm X ow H σ ρ)
  (fin:∀D C s6 H5 m6,ni X pins σ H5 s6 C m6->aJ H H5->ao X.K H5 (Kp ow H ko) (.lst (ds.filterMap f)) (.ref D)->compPost (model X.prog X.w) X.A X.xe use Q' (.ref D) C (.ok .next) s6) :
  wpAny (model X.prog X.w) X.A (comprehension (.ListComp elt [⟨tg,iter,ifs,0⟩] scope pos) scope X.env pos2 (newList []) false (eval iter X.env) use) Q' X.xe s:=by
 obtain⟨cl,hclos,h1,h2⟩:=vZ (env:=X.env) (scope:=scope) fun n hn=>I.ok.has n (S.fr n hn)
 refine wpAny_comprehension_free rfl hs hclos S.kind S.names ?_
 refine be (hi ow pins s σ H (fun J H1=>aJ H H1/\Qp X.K J ds (Kd ow H k H1) H1) I ⟨E,fun J H1 a b=>⟨a,b⟩⟩) fun v s1 h1'=>be h1' fun itv s2 h2'=>?_
 obtain⟨it,fp,tn,J,H2,rfl,I2,T,st2,f2,s12,itd⟩:=h2'
 have hD2:H2 s2.heap.objs.size=none:=I2.hok.fresh (ZP _)
 refine ag4 (zc (fun x c hc=>(I2.cell x c (h1 x c hc).1).imp fun v q=>q.keeps fun b o e=>ZM _ e) fun h₁ hns₁ kp0 k60=>?_)
 have I3:Inv X pins σ (bv H2 s2.heap.objs.size (.lst [])) { s2 with heap:=s2.heap.push { cls:=.type "list", dict:=none,data:=.seq ([]:List Value).toArray } } :=
  I2.laid (t':=s2.toks) (fun b u e=>ZM _ e) (ZP _) ⟨ZY _,[],0,.nil,ZQ _ rfl⟩
 generalize hD:s2.heap.objs.size=D at *
 generalize hs3:({ s2 with heap:=s2.heap.push { cls:=.type "list", dict:=none,data:=.seq ([]:List Value).toArray } }:Shared)=s3 at *
 have hsz3:s3.heap.objs.size=D+1:=by rw[<- hs3];show(s2.heap.push _).objs.size=_;rw[ab8,hD]
 have f3:∀b∈fp,hJ X pins (bv H2 D (.lst [])) b:=fun b hb=>by
  obtain⟨g0,g⟩:=f2 b hb
  obtain⟨o,e,_⟩:=T.obj _ _ st2 b hb
  have hlt:=ZS e
  rw[hD]at hlt
  exact⟨by rw[aK (ac1 hlt)];exact g0,g⟩
 have fl3:∀b∈fp,b<s3.heap.objs.size:=fun b hb=>by
  obtain⟨o,e,_⟩:=T.obj _ _ st2 b hb
  have hlt:=ZS e
  rw[hD]at hlt
  rw[hsz3];exact Nat.lt_succ_of_lt hlt
 have kp:∀b o,s3.heap.get? b=some o->h₁.get? b=some o:=kp0
 have kc:nj X scope (cellsFrom (s3.heap.objs.size+1) scope.names cl) s3.heap.objs.size:=CH I3 S h1 h2
 generalize hcl':cellsFrom (s3.heap.objs.size+1) scope.names cl=cl' at *
 have I4:=KP (s1:={ s3 with heap:=h₁,toks:=s3.toks+0 }) (N':=N') I3 S kc k60 f3 fl3 ⟨_,_,rfl⟩ hns₁ kp
 have sH2:∀vs,aJ H2 (bv H2 D (.lst vs)):=fun vs b o e=>by rw[aK (bU e hD2)];exact e
 let ow':Ow:=fun a=>if a=D then some none else ow a
 have ow'D:ow' D=some none:=if_pos rfl
 have ow'n:∀a,a≠D->ow' a=ow a:=fun a h=>if_neg h
 have own':∀{H':Hp} (vs:List V),H' D=some (.lst vs)->aJ H2 H'->fT ow' H':=fun {H'} vs hd sm a ha=>by
  by_cases hz:a=D
  ·subst hz;exact⟨_,hd⟩
  ·rw[ow'n a hz]at ha
   obtain⟨o,e⟩:=(E.same s12).own a ha
   exact⟨o,sm a o e⟩
 have E4:bm (lW X scope cl' s3.heap.objs.size N' s3 (bv H2 D (.lst [])) fp) ow' (bv H2 D (.lst [])) (nM X scope N' σ) (flt scope ρ):=by
  have E3:=Lj (scope:=scope) (cl:=cl') (C:=s3.heap.objs.size) (N':=N') (s:=s3) (fp:=fp) (H0:=bv H2 D (.lst [])) (E.same s12) hN hsub
  refine⟨fun x d o h=>?_,own' [] bg (sH2 [])⟩
  obtain⟨i,v,e1,e2,e3,e4⟩:=E3.get x d o h
  refine⟨i,v,e1,e2,e3,ao.same (sH2 []) (e4.impH (fun a ob ha p=>?_) fun a p=>?_)⟩
  ·have hz:a≠D:=bU ha hD2
   cases o with
   | true=>exact⟨p.1,(ow'n a hz).trans p.2⟩
   | false=>exact fun _=>(ow'n a hz).trans (p rfl)
  ·cases o with
   | true=>cases p.1
   | false=>exact fun z=>(by cases z)
 generalize hX':lW X scope cl' s3.heap.objs.size N' s3 (bv H2 D (.lst [])) fp=X' at *
 have turn':∀d∈ds,na X' (flt scope ρ) tg ifs elt ko d (f d):=fun d hd=>by rw[<- hX'];exact turn _ _ _ _ _ d hd
 have eK:X'.K=X.K:=by rw[<- hX']
 have eP:X'.prog=X.prog:=by rw[<- hX']
 have eW:X'.w=X.w:=by rw[<- hX']
 have eA:X'.A=X.A:=by rw[<- hX']
 have eE:X'.env=compEnvC scope cl' s3.heap.objs.size X.env:=by rw[<- hX']
 have eX:X'.xe=fun _ _=>False:=by rw[<- hX']
 have eC:X'.calm=true:=by rw[<- hX'];exact hcalm
 have stat:∀{H':Hp},(∀b∈fp,H' b=none)->∀b∈fp,hJ X' [] H' b:=fun hn b hb=>by
  rw[<- hX']
  refine⟨hn b hb,?_,?_,.inl hb,fun x c h=>(kc.k1 x c h).elim (fun q=>(f3 b hb).2.2.2.2.1 x c q) (fun q z=>by subst z;exact absurd (al7 q.1 (fl3 _ hb)) (ac7 _)),fun p hp=>absurd (show p∈([]:List (Addr×Obj))from hp) (by simp)⟩
  ·show b≠s3.heap.objs.size
   exact ac1 (fl3 b hb)
  ·intro z
   rcases ZT.mp (I3.stkSub b z)with q|q
   ·exact(f3 b hb).2.1 q
   ·exact(f3 b hb).2.2.1 q
 let Pe:bO:=fun a b=>Kp ow H ko a b/\(b=true->a≠D)
 have loop:codeAny (model X.prog X.w) X.A (.compLoop (.ListComp elt [⟨tg,iter,ifs,0⟩] scope pos) 0 (.ref it) (.ref D) (compEnvC scope cl' s3.heap.objs.size X.env)) (compPost (model X.prog X.w) X.A X.xe use Q' (.ref D) s3.heap.objs.size) { s3 with heap:=h₁,toks:=s3.toks+0 }:=by
  refine AJ (fun n s' => ∃(i:Nat) (σ':L2.St) (H':Hp) (vs:List V),Inv X' [] σ' H' s'/\tn i s'.heap/\(∀b∈fp,H' b=none)/\bm X' ow' H' σ' (flt scope ρ)/\H' D=some (.lst vs)/\aJ H2 H' /\
   ar X.K H' Pe ((ds.take i).filterMap f) vs/\i<=ds.length/\n=ds.length-i) ?_ ds.length
   ⟨0,nM X scope N' σ,bv H2 D (.lst []),[],I4,?_,fun b hb=>(f3 b hb).1,E4,bg,sH2 [],?_,ZY _,rfl⟩
  ·rintro n s5 ⟨i,σ5,H5,vs,I5,st5,fr5,E5,hD5,sm5,rp5,hi5,rfl⟩
   have stay:fz (Kd ow H k H2) (Kd ow H k H2) H2 H5:=.same sm5 fun _ _ p=>p
   have itd5:=itd i H5 stay
   by_cases hlt:i<ds.length
   ·obtain⟨go,yl⟩:=itd5.1 ds[i] (by simp[hlt])
    have Ti:=T.item X' eP eW eK eC i [] s5 σ5 H5 (fun _ _=>False) I5 (stat fr5) st5 go
    rw[eA]at Ti
    refine be Ti fun r s6 ⟨u,hr,h6⟩=>?_
    subst hr
    refine be h6 fun _ s7 ⟨x,H7,I7,r7,y7,st7,fr7⟩=>?_
    obtain⟨sm7,rx7⟩:=yl x H7 y7
    obtain⟨ρ',b,⟨g,hg,hgd⟩,hext,hts,hel⟩:=turn' ds[i] (ak0 hlt)
    have rx7':ao X'.K H7 (fun a b=>b=true->ow' a=none) ds[i] x:=by
     rw[eK]
     rcases hk with hk|hk
     ·exact rx7.flat _ (oR hk (aa3 hlt))
     refine rx7.impH (fun a o ha p _=>?_) fun a _ z=>(by cases z)
     obtain⟨p,p2⟩:=p
     obtain⟨o2,ho2⟩:=p2 rfl
     show ow' a=none
     rw[ow'n a (bU ho2 hD2)]
     exact gm E.own hk p
    have E7:=E5.same sm7
    have I7':=I7.pinned (stat fr7) (T.obj _ _ st7)
    have hg':=hg _ s7 σ5 H7 x u (fun σ' H'=>bm X' ow' H' σ' ρ'/\H7=H') I7' r7 (hgd ow' x σ5 H7 _ I7.len E7 rx7' fun σ' _ e=>⟨e,rfl⟩)
    rw[eP,eW,eA,eE,eX]at hg'
    refine be hg' fun _ s8 ⟨σ8,H8,I8,E8,eH8⟩=>?_
    subst eH8
    have ht':=hts ow' _ s8 σ8 H7 (fun c H'=>c=b/\aJ H7 H') I8 ⟨E8,fun H' sm=>⟨rfl,sm⟩⟩
    rw[eP,eW,eA,eE,eX]at ht'
    refine be ht' fun c s9 ⟨H9,I9,ec,sm9⟩=>?_
    subst ec
    have back:∀{H':Hp} {σ':L2.St} {s':Shared},Inv X' ([]++lL fp s7.heap) σ' H' s'->Inv X' [] σ' H' s'/\tn (i+1) s'.heap/\∀b∈fp,H' b=none:=fun {H' σ' s'} J7=>by
     refine⟨J7.unpinned,T.keep _ _ _ st7 fun b hb o e=>(J7.pin (b,o) (ac2 _ (ac2 _ (iK hb e)))).1,fun b hb=>?_⟩
     obtain⟨o,e,d⟩:=T.obj _ _ st7 b hb
     exact(J7.pin (b,o) (ac2 _ (ac2 _ (iK hb e)))).2.1
    have envf:∀{H':Hp} {σ':L2.St},bm X' ow' H' σ' ρ'->bm X' ow' H' σ' (flt scope ρ):=fun {H' σ'} e=>⟨fun x d o h=>e.get x d o (hext x _ h),e.own⟩
    have tk:(ds.take (i+1)).filterMap f=(ds.take i).filterMap f++(f ds[i]).toList:=by
     rw[List.take_add_one]
     simp only[aa3 hlt,Option.toList_some,List.filterMap_append]
     congr 1
    have sm59:aJ H5 H9:=sm7.trans sm9
    cases hc:c with
    | false =>
     rw[if_neg aa8]
     subst hc
     obtain⟨I9',st9,fr9⟩:=back I9
     have fn:f ds[i]=none:=by
      cases hf:f ds[i]with
      | none=>rfl
      | some d'=>rw[hf]at hel;cases hel.1
     refine⟨ds.length-(i+1),by omega,i+1,σ8,H9,vs,I9',st9,fr9,envf (E8.same sm9),sm59 _ _ hD5,sm5.trans sm59,?_,hlt,rfl⟩
     rw[tk,fn,Option.toList_none,ad1]
     exact rp5.same sm59
    | true =>
     rw[if_pos rfl]
     subst hc
     obtain⟨d',fs,hed⟩:∃d',f ds[i]=some d'/\ED X' ρ' elt d' ko:=by
      cases hf:f ds[i]with
      | none=>rw[hf]at hel;cases hel
      | some d'=>rw[hf]at hel;exact⟨d',rfl,hel.2⟩
     have he':=hed ow' _ s9 σ8 H9 (fun v H'=>aJ H9 H'/\ao X'.K H' (Kp ow' H9 ko) d' v) I9 ⟨E8.same sm9,fun v H' a r=>⟨a,r⟩⟩
     rw[eP,eW,eA,eE,eX]at he'
     refine be he' fun y s10 ⟨v10,H10,I10,r10,sm10,rp10⟩=>?_
     have sm510:=sm59.trans sm10
     have hD10:=sm510 _ _ hD5
     have hlv:vs.length<sizeLine:=by
      rw[<- rp5.length]
      refine ac0 (List.length_filterMap_le _ _) ?_
      rw[aj9];omega
     have ha':=rR (X:=X') _ s10 σ8 H10 (.ref D) [v10] (.ref D) [y] (fun w H'=>bv H10 D (.lst (vs++[v10]))=H') I10 rfl (.cons r10 .nil) ⟨D,vs,v10,rfl,rfl,hD10,hlv,rfl⟩
     rw[eP,eW,eA,eX]at ha'
     refine be ha' fun _ s11 ⟨w11,H11,I11,_,eH11⟩=>?_
     subst eH11
     obtain⟨I11',st11,fr11⟩:=back I11
     have s2D:∀a o,H2 a=some o->a≠D:=fun a o e=>bU e hD2
     have stD:fz Pe Pe H10 (bv H10 D (.lst (vs++[v10]))):=⟨fun a o h hn=>by rw[aK (fun z=>by subst z;rw[hD10]at h;cases h;exact hn)];exact h,fun a ws h p=>by rw[aK (p.2 rfl)];exact h,fun _ _ _ p=>p,fun _ p=>p⟩
     refine⟨ds.length-(i+1),by omega,i+1,σ8,_,vs++[v10],I11',st11,fr11,?_,bg,?_,?_,hlt,rfl⟩
     ·have E10:=envf ((E8.same sm9).same sm10)
      refine⟨fun x d o h=>?_,own' _ bg (fun a o e=>by rw[aK (s2D a o e)];exact(sm5.trans sm510) a o e)⟩
      obtain⟨i',v',e1,e2,e3,e4⟩:=E10.get x d o h
      refine⟨i',v',e1,e2,e3,e4.mono ⟨fun a o h hn=>by rw[aK (fun z=>by subst z;rw[hD10]at h;cases h;exact hn)];exact h,fun a ws h p=>?_,fun _ _ _ p=>p,fun _ p=>p⟩⟩
      have hz:a≠D:=by
       intro z;subst z
       cases o with
       | true=>have:=p.2;rw[ow'D]at this;cases this
       | false=>have:ow' a=none:=p rfl;rw[ow'D]at this;cases this
      rw[aK hz];exact h
     ·intro a o e
      rw[aK (s2D a o e)]
      exact(sm5.trans sm510) a o e
     ·rw[tk,fs,Option.toList_some]
      refine((rp5.same sm510).mono stD).append (ar.one (ao.mono stD ?_))
      rw[eK]at rp10
      have sH9:aJ H H9:=s12.trans (sm5.trans sm59)
      exact rp10.imp fun a b p=>Gr sH9 (sm59 _ _ hD5) hko p
   ·have hstop:=itd5.2 (by omega)
    have Td:=T.done X' eP eW eK eC i [] s5 σ5 H5 (fun _ _=>False) I5 (stat fr5) st5 hstop
    rw[eA]at Td
    refine be Td fun r s6 ⟨hr,I6⟩=>?_
    subst hr
    have ei:i=ds.length:=by omega
    subst ei
    rw[List.take_length]at rp5
    have hC:X'.env.locals=s3.heap.objs.size:=by rw[eE];rfl
    obtain⟨m6,hn6,_⟩:=I6.loc
    rw[hC]at hn6
    have hfree:H5 s3.heap.objs.size=none:=by have:=I6.free;rw[hC]at this;exact this
    have IX:Inv X pins σ H5 s6:=by
     have b6:=I6.base
     have o6:=I6.os
     have k6:=I6.hok
     have g6:=I6.bare
     rw[<- hX']at b6 o6 k6
     exact I3.call' o6 b6 k6 g6 fun b hb=>⟨(f3 b hb).2.2.2.1,(f3 b hb).2.1,(f3 b hb).2.2.2.2.1,(f3 b hb).2.2.2.2.2⟩
    have hHD:H D=none:=s12.free hD2
    refine fin D _ s6 H5 m6 ⟨IX,hn6,hfree,ag2 I3.lt,I3.sz,fun x c hc z=>?_,fun p hp z=>?_,I3.nofs (ZP _)⟩ (s12.trans sm5) ?_
    ·obtain⟨v,hv⟩:=I3.cell x c hc
     have:=hv.lt
     rw[z]at this;exact absurd this (ac7 _)
    ·have:=ZS (I3.pin p hp).1
     rw[z]at this;exact absurd this (ac7 _)
    ·rw[ao]
     exact⟨D,vs,true,rfl,hD5,Ae E.own hHD hko,rp5.imp fun _ _ p=>p.1⟩
  ·exact T.keep 0 s2.heap h₁ st2 fun b hb o e=>kp b o (by rw[<- hs3];exact ZM _ e)
  ·exact ar.nil
 exact codeAny_compStart_list loop (T.self _ 0 _ _ _ (T.keep 0 s2.heap h₁ st2 fun b hb o e=>kp b o (by rw[<- hs3];exact ZM _ e)) loop)
theorem ni.done{H5:Hp}{s6:Shared}{C:Addr}{m6:Str->Option Value}(e:ni X pins σ H5 s6 C m6){h':Heap}(sb:Heap.SameBut C s6.heap h'):Inv X pins σ H5 { s6 with heap:=h' } :=
 e.inv.turned (t':=s6.toks) (it:=C) (fun b o hb e=>sb.extBut b o hb e) e.free e.loc (.inr e.old) e.cell e.pin
theorem GX{f:D->Option D}
  (hcalm:X.calm=true) (hN:X.N.Nodup) (hk:aC ds=true\/k<=1) (hko:ko<=1) (hlen:ds.length<sizeLine) (S:iz X.env scope N') (hsub:∀x d o,flt scope ρ x=some (d,o)->x∈N')
  (hi:IE X ρ tg iter ds k)
  (turn:∀cl C s H fp,∀d∈ds,na (lW X scope cl C N' s H fp) (flt scope ρ) tg ifs elt ko d (f d))
  (hs:∀x,foldedSetIterable iter X.env x=pure x:=by intro _;rfl) :
  ED X ρ (.ListComp elt [⟨tg,iter,ifs,0⟩] scope pos) (.lst (ds.filterMap f)) ko:=by
 intro ow pins s σ H Q I ⟨E,q⟩
 rw[eval_ListComp]
 refine rZ hcalm hN hk hko hlen S hsub hi turn hs I E fun D C s6 H5 m6 ce sm rp=>?_
 exact⟨m6,ce.ns,fun h' sb=>⟨.ref D,H5,ce.done sb,rfl,q (.ref D) H5 sm rp⟩⟩
theorem FO{D0:mC}{spos:Pos}{f:D->Option D}
  (hcalm:X.calm=true) (hN:X.N.Nodup) (hk:aC ds=true\/k<=1) (hko:ko<=1) (hlen:ds.length<sizeLine) (S:iz X.env scope N') (hsub:∀x d o,flt scope ρ x=some (d,o)->x∈N')
  (hi:IE X ρ tg iter ds k)
  (turn:∀cl C s H fp,∀d∈ds,na (lW X scope cl C N' s H fp) (flt scope ρ) tg ifs elt ko d (f d))
  (hs:∀x,foldedSetIterable iter X.env x=pure x) (I:Inv X pins σ H s) (E:bm X ow H σ ρ)
  (hsw:swapsWith (.ListComp elt [⟨tg,iter,ifs,0⟩] scope pos) (some (.Name x px)) spos.line X.env=pure true)
  (hx:X.N[i]?=some x) (hl:vN X.env.scope x) (hf:X.fn x=true\/X.env.scope.names.lookup x=some .local)
  (q:∀v H',aJ H H'->ao X.K H' (Kp ow H ko) (.lst (ds.filterMap f)) v->D0.nx (σ.set i (some v)) H') :
  wpAny (model X.prog X.w) X.A (exec (.Assign [.Name x px] (.ListComp elt [⟨tg,iter,ifs,0⟩] scope pos) spos) X.env) (SP X pins D0) X.xe s:=by
 rw[exec_Assign_Name_used _ _ _ _ hsw]
 refine ZL (wpAny_standAt (ZL ?_))
 show wpAny _ X.A (do let _ <- comprehension (.ListComp elt [⟨tg,iter,ifs,0⟩] scope pos) scope X.env _ (newList []) false (eval iter X.env) (some (assign (.Name x px) X.env))) _ _ s
 refine ZL (ag3 (rZ (use:=some (assign (.Name x px) X.env)) (Q':=fun _ s'=>SP X pins D0 .next s') hcalm hN hk hko hlen S hsub hi turn hs I E fun D C s6 H5 m6 ce sm rp=>?_) (fun _ s' hq=>ZO (ZO hq)) fun _ _ e=>e)
 obtain⟨o,es,ep,ho,hd,hrest⟩:=id ce.ns
 have Ip:Inv X (pins++[(C,o)]) σ H5 s6:=ce.inv.pins_of fun p hp=>by
  rcases List.mem_append.mp hp with z|z
  ·exact ce.inv.pin p (ac2 _ z)
  ·have e:p=(C,o):=by simpa using z
   subst e
   exact⟨ho,ce.free,ce.loc,ce.fs,fun v z=>by rw[hd]at z;cases z⟩
 show wpAny _ X.A (assign (.Name x px) X.env (.ref D)) _ _ _
 refine be (gQ (i:=i) hN hx hl hf (pins++[(C,o)]) s6 σ H5 (.ref D) (.ref D) (fun σ' H'=>σ.set i (some (.ref D))=σ'/\H5=H') Ip rfl ⟨rfl,rfl⟩) fun _ s7 ⟨σ7,H7,I7,e1,e2⟩=>?_
 subst e1 e2
 have pC:=(I7.pin (C,o) (ac2 _ (ac2 _ (by simp)))).1
 refine⟨m6,⟨o,es,ep,pC,hd,hrest⟩,fun h' sb=>?_⟩
 have ce':ni X pins (σ.set i (some (.ref D))) H5 s7 C m6:=⟨I7.unpinned,⟨o,es,ep,pC,hd,hrest⟩,ce.free,ce.loc,ce.old,ce.cell,ce.pin,ce.fs⟩
 exact⟨_,H5,ce'.done sb,q (.ref D) H5 sm rp⟩
mutual
def D.py:D->PyData
 | .non=>.none
 | .bl b=>.bool b
 | .int i=>.int i
 | .str x=>.str x
 | .dct _ _=>.dict []
 | .typ _=>.dict []
 | .sn _=>.dict []
 | .obj _ _ _=>.dict []
 | .cls _=>.dict []
 | .tup l=>.tuple (iT l)
 | .lst l=>.list (iT l)
def iT:List D->List PyData
 | []=>[]
 | d::l=>d.py::iT l
end
inductive Rs(α:Type) where
 | ok (a:α) (l:List Prop)
 | st
def aP:List Prop->Prop
 | []=>True
 | p::l=>p/\aP l
def Rs.bnd{α β:Type}(r:Rs α)(f:α->Rs β):Rs β :=
 match r with
 | .st=>.st
 | .ok a l=>match f a with
  | .st=>.st
  | .ok b m=>.ok b (l++m)
def ZF{α:Type}:Option α->Rs α
 | some a=>.ok a []
 | none=>.st
def gd(b:Bool):List Prop->List Prop
 | []=>[]
 | m=>[b=true->aP m]
abbrev R1:=Rs (D×Nat)
def mk(d:D)(k:Nat):R1:=.ok (d,kn d k) []
structure Fx where
 fn:Str->Option (List D->Rs D)
 con:Str->Option D
 blt:Str->Option (List D->R1)
 itr:Str->Option (List D->Nat->R1)
 mth:Str->Option (D->List D->R1)
 mtt:Str->Option (List D->List D->Nat->Rs (List D))
 slf:D->Option Int->Option Int->R1:=fun _ _ _=>.st
 fld:Str->Str->Bool:=fun _ _=>false
 omt:Str->Str->Option (List D->Rs D):=fun _ _=>none
def Ef:Const->Option D
 | .none=>some .non
 | .bool b=>some (.bl b)
 | .int i=>some (.int i)
 | .str x=>some (.str x)
 | _=>none
def cH:Nat:=2 ^ 9000
def cD(a b:Int):Prop:=a.natAbs<2 ^ 64\/b.natAbs<2 ^ 64\/(a.natAbs<cH/\b.natAbs<cH)\/(Builtin.Int.intBits a<=2 ^ 22/\Builtin.Int.intBits b<=2 ^ 22)
def fL(b:Int):Prop:=b≠0/\b.natAbs<cH
def xM(a b:Int):Prop:=0<=b/\b<=1000/\a.natAbs<2 ^ 64
def dw:Nat:=40000
def CN(op:Operator)(a b:Int):R1 :=
 match op with
 | .Add=>.ok (.int (a+b),0) []
 | .Sub=>.ok (.int (a-b),0) []
 | .Mult=>.ok (.int (a*b),0) [cD a b]
 | .FloorDiv=>.ok (.int (a.fdiv b),0) [fL b]
 | .Mod=>.ok (.int (a.fmod b),0) [b≠0]
 | .Pow=>.ok (.int (a ^ b.toNat),0) [xM a b]
 | _=>.st
def tj:Operator->Bool
 | .Add=>true
 | _=>false
def mi(op:Operator)(x y:D)(k j:Nat):R1 :=
 match x,y with
 | .int a,.int b=>CN op a b
 | .str a,.str b=>if tj op=true then .ok (.str (a++b),0) [a.length+b.length<=dw]else .st
 | .tup a,.tup b=>if tj op=true then .ok (.tup (a++b),kn (.tup (a++b)) (kj k j)) [a.length+b.length<=dw]else .st
 | .lst a,.lst b=>if tj op=true then .ok (.lst (a++b),0) [aC (a++b)=true,a.length+b.length<=dw]else .st
 | _,_=>.st
def zd(op:UnaryOp)(x:D):Option D :=
 match op,x with
 | .USub,.int a=>some (.int (-a))
 | .Not,.bl b=>some (.bl (!b))
 | _,_=>none
def kQ(x y:D):Bool:=SeqAt.shaped x.py&&SeqAt.shaped y.py
def eqD(x y:D):Bool:=PyData.eqv x.py y.py
def eH:List D->Option (List Int)
 | []=>some []
 | .int i::l=>(eH l).map (i :: ·)
 | _::_=>none
def xZ(x:D)(l:List D):Rs Bool:=.ok (l.any fun y=>eqD y x) [kQ (.tup l) x=true]
def D.isNon:D->Bool
 | .non=>true
 | _=>false
def hX:D->Option (List D)
 | .tup l=>some l
 | .lst l=>some l
 | _=>none
def gW(op:CmpOp)(a b:Int):Option Bool :=
 match op with
 | .Lt=>some (decide (a<b))
 | .LtE=>some (decide (a<=b))
 | .Gt=>some (decide (b<a))
 | .GtE=>some (decide (b<=a))
 | _=>none
def xS(op:CmpOp)(x y:D):Option Bool :=
 match x,y with
 | .int a,.int b=>gW op a b
 | _,_=>none
def Rs.nt:Rs Bool->Rs Bool
 | .ok b l=>.ok (!b) l
 | .st=>.st
def keyD:D->Option eN
 | .int i=>some (.inl i)
 | .str x=>some (.inr x)
 | _=>none
def dGet(ks:List eN)(ds:List D)(k:eN):Option D:=((ks.zip ds).find? fun p=>decide (p.1=k)).map (·.2)
def K2(ks:List eN)(k:eN):Bool:=ks.any fun j=>decide (j=k)
def dPutK(ks:List eN)(k:eN):List eN:=cond (K2 ks k) ks (ks++[k])
def dPutV{α:Type}(ks:List eN)(ds:List α)(k:eN)(d:α):List α:=cond (K2 ks k) (List.zipWith (fun j e=>if j=k then d else e) ks ds) (ds++[d])
def D2(x y:D):Rs Bool :=
 match y with
 | .tup l=>xZ x l
 | .lst l=>xZ x l
 | .dct _ _=>.st
 | .str b=>(match x with | .str a=>.ok (Txt.contains b a) []|_=>.st)
 | _=>.st
def fS(op:CmpOp)(x y:D):Rs Bool :=
 match op with
 | .Eq=>.ok (eqD x y) [kQ x y=true]
 | .NotEq=>.ok (!eqD x y) [kQ x y=true]
 | .In=>D2 x y
 | .NotIn=>(D2 x y).nt
 | .Is=>(match y with | .non=>.ok x.isNon [] | .bl c=>(match x with | .bl b=>.ok (b==c) []|_=>.st)|_=>.st)
 | .IsNot=>(match y with | .non=>.ok (!x.isNon) [] | .bl c=>(match x with | .bl b=>.ok (!(b==c)) []|_=>.st)|_=>.st)
 | op=>ZF (xS op x y)
def D.ty0:D->Option String
 | .non=>some "NoneType"
 | .bl _=>some "bool"
 | .int _=>some "int"
 | .str _=>some "str"
 | .dct _ _=>some "dict"
 | .tup _=>some "tuple"
 | .lst _=>some "list"
 | _=>none
def KO(x:D)(T:String):Option Bool:=x.ty0.map fun a=>decide (a=T) || decide (a = "bool" /\ T = "int")
def xn(x:Str):Option String :=
 if x = "int" then some "int" else if x = "bool" then some "bool" else if x = "str" then some "str" else if x = "tuple" then some "tuple" else if x = "list" then some "list" else none
def dF:List D->Option (List Bool)
 | []=>some []
 | .bl i::l=>(dF l).map (i :: ·)
 | _::_=>none
def iu:List Str:=["len", "tuple", "list", "abs", "all", "sum", "isinstance", "set", "int", "bool", "str", "range", "zip", "enumerate", "any", "sorted", "min", "max", "reversed"]
def iY:Expr->Bool
 | .Tuple .. => true
 | _=>false
def fF(e tg:Expr):Bool :=
 match e with
 | .Call (.Name f _) _ _ _=>if f = "enumerate" \/ f = "zip" then iY tg else true
 | _=>true
def sgs(x:Str):List D:=x.cps.toList.map fun c=>.str ⟨#[c]⟩
def items:D->Option (List D)
 | .lst l=>some l
 | .tup l=>some l
 | .str x=>if (x.cps.all fun c=>decide (c<128))=true then some (sgs x)else none
 | _=>none
def bT(ρ:am)(x:Str)(y:D×Bool):am:=fun z=>if z=x then some y else ρ z
def dE(sc:Scope)(x:Str):Bool:=sc.names.lookup x==some .local || sc.names.lookup x==some .cell
def bx(sc:Scope):List Expr->List D->am->Option am
 | [],[],ρ=>some ρ
 | .Name x _::es,d::ds,ρ=>if dE sc x=true then bx sc es ds (bT ρ x (d,false))else none
 | _,_,_=>none
def bX(sc:Scope)(tg:Expr)(d:D)(ρ:am):Option am :=
 match tg with
 | .Name x _=>if dE sc x=true then some (bT ρ x (d,false))else none
 | .Tuple es _ _=>(match d with | .tup ds=>bx sc es ds ρ|_=>none)
 | _=>none
def pF(sc scope:Scope):Bool :=
 decide (scope.kind=.function)&&scope.names.all (fun y=>decide (y.2 ≠ .local) || decide (scope.names.lookup y.1=some .local)) &&
 scope.names.all (fun y=>decide (y.2 ≠ .free) || dE sc y.1&&decide (sc.names.lookup y.1=some .cell) || decide (sc.names.lookup y.1=some .free))&&decide ((scope.names.map (·.1)).Nodup)
def ii(step:D->Rs (Option (D×Nat))):List D->Rs (List D×Nat)
 | []=>.ok ([],0) []
 | d::l=>(step d).bnd fun r=>(ii step l).bnd fun q=>match r with
  | none=>.ok q []
  | some p=>.ok (p.1::q.1,kj p.2 q.2) []
def uN(x:D)(i:Int)(k:Nat):R1 :=
 match hX x with
 | some l=>(match atI l i with|some d=>mk d k|none=>.st)
 | none=>.st
def kF(p:D×Nat)(f:Int->R1):R1 :=
 match p.1 with
 | .int j=>f j
 | _=>.st
def nJ(p q:D×Nat):R1 :=
 match p.1 with
 | .dct _ _=>.st
 | x=>kF q fun j=>uN x j p.2
def kT(l:List D)(lo hi:Option Int):List D:=(l.drop (HT.sIx l.length 0 lo)).take (HT.sIx l.length l.length hi-HT.sIx l.length 0 lo)
def LI(l:List D)(lo hi:Option Int):Bool:=!(decide (HT.sIx l.length 0 lo=0)&&decide (HT.sIx l.length l.length hi=l.length))
def t9(x:D)(lo hi:Option Int):R1 :=
 match x with
 | .tup l=>.ok (.tup (kT l lo hi),0) [aC l=true,LI l lo hi=true]
 | .lst l=>.ok (.lst (kT l lo hi),0) [aC l=true]
 | _=>.st
def fR(x:Str):Bool:=decide ((x==("__debug__" : Str))=false)&&decide ((x==("__classdict__" : Str))=false)
def yM(b:Bool)(r:Rs Bool):Rs Bool :=
 match r with
 | .ok c m=>.ok (b&&c) (gd b m)
 | .st=>match b with|false=>.ok false []|true=>.st
def DI(b:Bool)(r:Rs Bool):Rs Bool :=
 match r with
 | .ok c m=>.ok (b || c) (gd (!b) m)
 | .st=>match b with|true=>.ok true []|false=>.st
mutual
def qH(b:Bool):D->D->D
 | .int x,.int y=>.int (cond b x y)
 | .bl x,.bl y=>.bl (cond b x y)
 | .tup x,.tup y=>if x.length=y.length then .tup (lR b x y)else cond b (.tup x) (.tup y)
 | x,y=>cond b x y
def lR(b:Bool):List D->List D->List D
 | x::l,y::m=>qH b x y::lR b l m
 | l,m=>cond b l m
end
def Ag(t:Bool)(k j:Nat):Nat:=if k=j then k else cond t k j
def D4(b:Bool)(r s:R1):R1 :=
 match r with
 | .st=>(match b with|true=>.st|false=>s)
 | .ok p m=>match s with
  | .st=>(match b with|true=>.ok p m|false=>.st)
  | .ok q n=>.ok (qH b p.1 q.1,Ag b p.2 q.2) (gd b m++gd (!b) n)
def kE(Φ:Fx)(x:Str)(sc:Scope)(ρ:am):R1 :=
 if fR x=true then
  (if sc.names.lookup x=some .globalImplicit then(match Φ.con x with|some d=>.ok (d,0) []|none=>match xn x with|some T=>.ok (.typ T,0) []|none=>.st)
  else match ρ x with
   | some p=>mk p.1 (cond p.2 2 1)
   | none=>.st)
 else .st
def mX(Φ:Fx)(f:Str)(it:Bool)(ds:List D)(k:Nat):R1 :=
 match Φ.fn f with
 | some F=>(F ds).bnd fun d=>.ok (d,0) []
 | none=>match (if it=true then Φ.itr f else none)with
  | some B=>B ds k
  | none=>match Φ.blt f with
   | some B=>B ds
   | none=>.st
def ja{α:Type}(p:D×Nat)(f:Bool->Rs α):Rs α :=
 match p.1 with
 | .bl j=>f j
 | _=>.st
def K6(Φ:Fx)(x:D)(f:Str):R1 :=
 match x with
 | .obj n ns ds=>if Φ.fld n f=true then(match (ns.zip ds).lookup f with|some d=>.ok (d,0) []|none=>.st)else .st
 | _=>.st
def gy:Expr->Bool
 | .Call (.Name _ _) [] [] _=>false
 | _=>true
def xY(Φ:Fx)(a:Expr)(m:Str)(x:D)(ds:List D):R1 :=
 match x with
 | .obj n ns es=>if ns.contains m=false/\gy a=true/\ds.length<29 then(match Φ.omt n m with|some F=>(F (.obj n ns es::ds)).bnd fun d=>.ok (d,0) []|none=>.st)else .st
 | x=>if gy a=true then(match Φ.mth m with|some M=>M x ds|none=>.st)else .st
def LY(op op2:CmpOp)(x y z:D):R1 :=
 match x,y,z with
 | .int a,.int b,.int c=>(match gW op a b,gW op2 b c with|some r,some r2=>.ok (.bl (r&&r2),0) []|_,_=>.st)
 | _,_,_=>.st
mutual
def aE(Φ:Fx):Expr->Bool->Scope->am->R1
  | .Constant c _ _,_,_,_=>(match Ef c with|some d=>.ok (d,0) []|none=>.st)
  | .Name x _,_,sc,ρ=>kE Φ x sc ρ
  | .BinOp a op b _,_,sc,ρ=>(aE Φ a false sc ρ).bnd fun p=>(aE Φ b false sc ρ).bnd fun q=>mi op p.1 q.1 p.2 q.2
  | .UnaryOp op a _,_,sc,ρ=>(aE Φ a false sc ρ).bnd fun p=>(match zd op p.1 with|some d=>.ok (d,0) []|none=>.st)
  | .BoolOp op es _,_,sc,ρ=>if es.isEmpty=true then .st else(eZ Φ op es sc ρ).bnd fun b=>.ok (.bl b,0) []
  | .Compare a [op] [b] _,_,sc,ρ=>(aE Φ a false sc ρ).bnd fun p=>(aE Φ b false sc ρ).bnd fun q=>(fS op p.1 q.1).bnd fun r=>.ok (.bl r,0) []
  | .Compare a [op,op2] [b,c] _,_,sc,ρ=>(aE Φ a false sc ρ).bnd fun p=>(aE Φ b false sc ρ).bnd fun q=>(aE Φ c false sc ρ).bnd fun t=>LY op op2 p.1 q.1 t.1
  | .IfExp c a b _,_,sc,ρ=>(aE Φ c false sc ρ).bnd fun p=>ja p fun t=>D4 t (aE Φ a false sc ρ) (aE Φ b false sc ρ)
  | .Tuple es _ _,_,sc,ρ=>(ck Φ es sc ρ).bnd fun p=>if p.1.length<=dw then mk (.tup p.1) p.2 else .st
  | .List es _,_,sc,ρ=>(ck Φ es sc ρ).bnd fun p=>if p.1.length<=dw/\p.2<=1 then .ok (.lst p.1,p.2) []else .st
  | .Subscript a (.Slice lo hi none _) _,_,sc,ρ=>(aE Φ a false sc ρ).bnd fun p=>(nA Φ lo sc ρ).bnd fun l=>(nA Φ hi sc ρ).bnd fun h=>Φ.slf p.1 l h
  | .Subscript a i _,_,sc,ρ=>(aE Φ a false sc ρ).bnd fun p=>(aE Φ i false sc ρ).bnd fun q=>nJ p q
  | .Call (.Name f _) args [] _,it,sc,ρ =>
    if sc.names.lookup f=some .globalImplicit then(ck Φ args sc ρ).bnd fun p=>mX Φ f it p.1 p.2
    else .st
  | .Attribute (.Name x _) f _,_,sc,ρ=>(kE Φ x sc ρ).bnd fun p=>K6 Φ p.1 f
  | .Call (.Attribute a m ap) args [] cp,_,sc,ρ=>if (ap.endLine==cp.line)=true then(aE Φ a false sc ρ).bnd fun p=>(ck Φ args sc ρ).bnd fun q=>xY Φ a m p.1 q.1 else .st
  | .ListComp elt [⟨tg,iter,ifs,0⟩] scope _,_,sc,ρ =>
    if pF sc scope=true then(aE Φ iter true sc ρ).bnd fun p=>(match items p.1 with
      | some ds=>if fF iter tg=true then
          (Rs.ok () [ds.length<=dw,aC ds=true\/p.2<=1]).bnd fun _=>(ii (fun d=>match bX scope tg d (flt scope ρ)with
            | none=>.st
            | some ρ'=>(eZ Φ .And ifs scope ρ').bnd fun b=>cond b ((aE Φ elt false scope ρ').bnd fun r=>.ok (some r) []) (.ok none [])) ds).bnd fun q=>if q.2<=1 then .ok (.lst q.1,q.2) []else .st
        else .st
      | none=>.st)
    else .st
  | _,_,_,_=>.st
def ck(Φ:Fx):List Expr->Scope->am->Rs (List D×Nat)
 | [],_,_=>.ok ([],0) []
 | e::es,sc,ρ=>(aE Φ e false sc ρ).bnd fun p=>(ck Φ es sc ρ).bnd fun q=>.ok (p.1::q.1,kj p.2 q.2) []
def eZ(Φ:Fx):BoolOp->List Expr->Scope->am->Rs Bool
 | .And,[],_,_=>.ok true []
 | .Or,[],_,_=>.ok false []
 | .And,e::es,sc,ρ=>(aE Φ e false sc ρ).bnd fun p=>ja p fun b=>yM b (eZ Φ .And es sc ρ)
 | .Or,e::es,sc,ρ=>(aE Φ e false sc ρ).bnd fun p=>ja p fun b=>DI b (eZ Φ .Or es sc ρ)
def nA(Φ:Fx):Option Expr->Scope->am->Rs (Option Int)
 | none,_,_=>.ok none []
 | some e,sc,ρ=>(aE Φ e false sc ρ).bnd fun p=>(match p.1 with | .int i=>.ok (some i) []|_=>.st)
end
theorem qW{Φ:Fx}{op:BoolOp}:aE Φ (.BoolOp op es p) it sc ρ=(if es.isEmpty=true then .st else(eZ Φ op es sc ρ).bnd fun b=>.ok (.bl b,0) []):=rfl
theorem kO{Φ:Fx}{p:Pos}:aE Φ (.Call (.Name f p) args [] q) it sc ρ=(if sc.names.lookup f=some .globalImplicit then(ck Φ args sc ρ).bnd fun p=>mX Φ f it p.1 p.2 else .st):=rfl
theorem kP{Φ:Fx}:aE Φ (.Call (.Attribute a m ap) args [] cp) it sc ρ=(if (ap.endLine==cp.line)=true then(aE Φ a false sc ρ).bnd fun p=>(ck Φ args sc ρ).bnd fun q=>xY Φ a m p.1 q.1 else .st):=rfl
theorem qV{Φ:Fx}{q:Pos}:aE Φ (.ListComp elt [⟨tg,iter,ifs,0⟩] scope q) it sc ρ=(if pF sc scope=true then(aE Φ iter true sc ρ).bnd fun p=>(match items p.1 with
      | some ds=>if fF iter tg=true then
          (Rs.ok () [ds.length<=dw,aC ds=true\/p.2<=1]).bnd fun _=>(ii (fun d=>match bX scope tg d (flt scope ρ)with
            | none=>.st
            | some ρ'=>(eZ Φ .And ifs scope ρ').bnd fun b=>cond b ((aE Φ elt false scope ρ').bnd fun r=>.ok (some r) []) (.ok none [])) ds).bnd fun q=>if q.2<=1 then .ok (.lst q.1,q.2) []else .st
        else .st
      | none=>.st)
    else .st):=rfl
variable{Φ:Fx}{F:List D->Rs D}{B:List D->R1}{sf:D->Option Int->Option Int->R1}
inductive Fl where
 | nx (ρ:am)|rt (d:D)|bk (ρ:am)|ct (ρ:am)
def jT:Expr->Bool
 | .ListComp .. => true
 | .SetComp .. => true
 | .DictComp .. => true
 | _=>false
def qm(l:List D)(i:Int)(d:D):Option (List D):=(ixN l.length i).map fun j=>l.set j d
def jh(f:am->Rs Fl):Fl->Rs Fl
 | .nx ρ=>f ρ
 | .ct ρ=>f ρ
 | .bk ρ=>.ok (.nx ρ) []
 | .rt d=>.ok (.rt d) []
def dO(bind:D->am->Option am)(body:am->Rs Fl):List D->am->Rs Fl
 | [],ρ=>.ok (.nx ρ) []
 | d::l,ρ=>match bind d ρ with
  | none=>.st
  | some ρ1=>(body ρ1).bnd (jh (dO bind body l))
def nu(test:am->Rs Bool)(body:am->Rs Fl):Nat->am->Rs Fl
 | 0,_=>.st
 | n+1,ρ=>(test ρ).bnd fun b=>cond b ((body ρ).bnd (jh (nu test body n))) (.ok (.nx ρ) [])
def demX(x:Str)(ρ:am):am:=fun y=>if y=x then(ρ y).map fun p=>(p.1,false)else ρ y
def demA(x:Str)(ρ:am):am:=fun y=>if y=x then(ρ y).map fun p=>(p.1,p.2&&p.1.lless)else ρ y
def demL:List Expr->am->am
 | [],ρ=>ρ
 | .Name x _::es,ρ=>demL es (demA x ρ)
 | .Subscript (.Name x _) _ _::es,ρ=>demL es (demA x ρ)
 | _::es,ρ=>demL es ρ
def demote(e:Expr)(ρ:am):am :=
 match e with
 | .Name x _=>demX x ρ
 | .Subscript (.Name x _) _ _=>demX x ρ
 | .Call _ args _ _=>demL args ρ
 | _=>ρ
def qt(sc:Scope)(x:Str)(p:D×Nat)(ρ:am):Rs Fl :=
 if dE sc x=true then
  match p.2 with
  | 0=>.ok (.nx (bT ρ x (p.1,true))) []
  | 1=>.ok (.nx (bT ρ x (p.1,false))) []
  | _=>.st
 else .st
def xR(ρ:am)(x:Str)(f:List D->Rs Fl):Rs Fl :=
 match ρ x with
 | some (.lst l,true)=>if fR x=true then f l else .st
 | _=>.st
def oE(sc:Scope)(x y:Str)(px py:Pos)(a b:Expr):Bool :=
 sc.names.lookup x==some .local&&sc.names.lookup y==some .local&&(px.line==py.line) && !decide (x=y) && !([a,b].all (foldedForSure 8)) && !([a,b].all (constantsAlone 8))
def mS(Φ:Fx)(es:List Expr)(e:Expr)(sc:Scope)(ρ:am):Rs Fl :=
  match es,e with
  | [.Name x px,.Name y py],.Tuple [a,b] _ _=>if oE sc x y px py a b=true then(ck Φ [a,b] sc ρ).bnd fun p=>(match p.1 with
      | [u,v]=>if aC [u,v]=true\/p.2<=1 then .ok (.nx (bT (bT ρ x (u,false)) y (v,false))) []else .st
      | _=>.st)else .st
  | _,_=>.st
def vp(sc:Scope)(es:List Expr)(e:Expr):Bool :=
 match es,e with
 | [.Name x _,.Name _ _],.Tuple [_,_] _ _=>sc.names.lookup x==some .cell
 | _,_=>false
def nv(sc:Scope)(es:List Expr)(e:Expr):Bool:=iY e && !vp sc es e
def ur(sc:Scope)(es:List Expr)(p:D×Nat):Bool :=
 match es,p.1,p.2 with
 | [.Name x _,.Name y _],.tup [d1,d2],0=>d1.lless && !d2.lless && !decide (x=y)&&dE sc x&&dE sc y
 | _,_,_=>false
def xL(es:List Expr)(p:D×Nat)(ρ:am):am :=
 match es,p.1 with
 | [.Name x _,.Name y _],.tup [d1,d2]=>bT (bT ρ y (d2,true)) x (d1,false)
 | _,_=>ρ
def HX(_:Expr):Bool:=true
def qi(ρ:am)(x:Str)(i d:D):Rs Fl :=
 match ρ x with
 | some (.lst l,true)=>(match i with | .int j=>if fR x=true then(match qm l j d with|some l'=>.ok (.nx (bT ρ x (.lst l',true))) [aC l=true,d.lless=true]|none=>.st)else .st|_=>.st)
 | some (.dct _ _,true)=>.st
 | _=>.st
def ph(Φ:Fx)(tgs:List Expr)(e:Expr)(sc:Scope)(ρ:am):Rs Fl :=
  match tgs with
  | [.Name x _]=>(aE Φ e false sc ρ).bnd fun p=>qt sc x p ρ
  | [.Tuple es _ _]=>if nv sc es e=true then mS Φ es e sc ρ else(aE Φ e false sc ρ).bnd fun p=>if ur sc es p=true then .ok (.nx (xL es p ρ)) []else(match hX p.1 with
      | some ds=>if aC ds=true\/p.2<=1 then(match bx sc es ds ρ with|some ρ'=>.ok (.nx ρ') []|none=>.st)else .st
      | none=>.st)
  | [.Subscript (.Name x _) i _]=>if HX e=true then(aE Φ e false sc ρ).bnd fun p=>(aE Φ i false sc ρ).bnd fun q=>qi ρ x q.1 p.1
    else .st
  | _=>.st
def C4(op:Operator)(a b:Int):R1 :=
 match op with
 | .Add=>.ok (.int (a+b),0) []
 | .Sub=>.ok (.int (a-b),0) []
 | .Mult=>.ok (.int (a*b),0) [cD a b]
 | .FloorDiv=>.ok (.int (a.fdiv b),0) [fL b]
 | _=>.st
def pe(Φ:Fx)(t:Expr)(op:Operator)(e:Expr)(sc:Scope)(ρ:am):Rs Fl :=
  match t with
  | .Name x _=>if dE sc x=true then(match ρ x with
      | some p=>kF (p.1,0) (fun a=>(aE Φ e false sc ρ).bnd fun q=>kF q fun b=>C4 op a b) |>.bnd fun r=>.ok (.nx (bT ρ x (r.1,true))) []
      | none=>.st)else .st
  | _=>.st
def o9(Φ:Fx)(e:Expr)(sc:Scope)(ρ:am):Rs Fl :=
  match e with
  | .Call (.Attribute (.Name x _) m ap) args [] cp=>if (ap.endLine==cp.line)=true then(ck Φ args sc ρ).bnd fun p=>(match Φ.mtt m with
      | some M=>xR ρ x fun l=>(M l p.1 p.2).bnd fun l'=>.ok (.nx (bT ρ x (.lst l',true))) []
      | none=>.st)else .st
  | .Call (.Name f p) args ks cp=>(aE Φ (.Call (.Name f p) args ks cp) false sc ρ).bnd fun _=>.ok (.nx ρ) []
  | _=>.st
def kh(ρ:am):am:=fun y=>(ρ y).map fun p=>(p.1,false)
def DL:Expr->Bool
 | .ListComp elt _ _ _=>jT elt
 | _=>false
def sW:Expr->Bool
 | .Tuple es _ _=>es.any DL
 | e=>DL e
def uf(e:Expr)(ρ:am):am:=cond (sW e) (kh ρ) ρ
def xI(p:D×Nat):Rs Fl:=if p.2=0\/p.2=2 then .ok (.rt p.1) []else .st
mutual
def eI(Φ:Fx):Stmt->Scope->am->Rs Fl
  | .Return (some e) _,sc,ρ=>(aE Φ e false sc (uf e ρ)).bnd xI
  | .Return none _,_,_=>.ok (.rt .non) []
  | .Pass _,_,ρ=>.ok (.nx ρ) []
  | .Break _,_,ρ=>.ok (.bk ρ) []
  | .Continue _,_,ρ=>.ok (.ct ρ) []
  | .Assign tgs e _,sc,ρ=>ph Φ tgs e sc ρ
  | .AugAssign t op e _,sc,ρ=>pe Φ t op e sc ρ
  | .Expr e _,sc,ρ=>o9 Φ e sc ρ
  | .If c a b _,sc,ρ=>(aE Φ c false sc ρ).bnd fun p=>ja p fun t=>cond t (aH Φ a sc ρ) (aH Φ b sc ρ)
  | .For tg it body els _,sc,ρ=>if els.isEmpty=true then(aE Φ it true sc (demote it ρ)).bnd fun p=>(match items p.1 with
      | some ds=>if p.2<=1/\fF it tg=true then dO (bX sc tg) (aH Φ body sc) ds (demote it ρ)else .st
      | none=>.st)
    else .st
  | .While c body els _,sc,ρ=>if els.isEmpty=true then nu (fun ρ=>(aE Φ c false sc ρ).bnd fun p=>ja p fun b=>.ok b []) (aH Φ body sc) dw ρ else .st
  | _,_,_=>.st
def aH(Φ:Fx):List Stmt->Scope->am->Rs Fl
 | [],_,ρ=>.ok (.nx ρ) []
 | s::ss,sc,ρ=>(eI Φ s sc ρ).bnd fun
  | .nx ρ'=>aH Φ ss sc ρ'
  | f=>.ok f []
end
theorem qU{it:Expr}:eI Φ (.For tg it body els q) sc ρ=(if els.isEmpty=true then(aE Φ it true sc (demote it ρ)).bnd fun p=>(match items p.1 with
      | some ds=>if p.2<=1/\fF it tg=true then dO (bX sc tg) (aH Φ body sc) ds (demote it ρ)else .st
      | none=>.st)
    else .st):=rfl
theorem u6{ρ:am}:eI Φ (.While c body els q) sc ρ=(if els.isEmpty=true then nu (fun ρ=>(aE Φ c false sc ρ).bnd fun p=>ja p fun b=>.ok b []) (aH Φ body sc) dw ρ else .st):=rfl
def fj:List Str->List D->am
 | p::ps,d::ds=>fun z=>if z=p then some (d,false)else fj ps ds z
 | _,_=>fun _=>none
def bw(Φ:Fx)(sc:Scope)(ps:List Str)(body:List Stmt)(ds:List D):Rs D :=
 if ds.length=ps.length then(aH Φ body sc (fj ps ds)).bnd fun
  | .rt d=>.ok d []
  | .nx _=>.ok .non []
  | _=>.st
 else .st
def CU(ds:List D):R1 :=
 match ds with
 | [.sn n]=>.ok (.int n,0) []
 | [x]=>(match hX x with|some l=>.ok (.int l.length,0) []|none=>.st)
 | _=>.st
def mF:List String:=["int", "bool", "str", "tuple", "list", "dict"]
def CV(ds:List D):R1 :=
 match ds with
 | [.obj m _ _,.cls n]=>if m=n then .ok (.bl true,0) []else if m∈LX then .ok (.bl (tX m n),0) []else .st
 | [x,.typ T]=>if T∈mF then(match KO x T with|some b=>.ok (.bl b,0) []|none=>.st)else .st
 | _=>.st
def vy(ds:List D):R1 :=
 match ds with
 | [x]=>(match hX x with|some l=>.ok (.tup l,0) [aC l=true]|none=>.st)
 | _=>.st
def tH(ds:List D):R1 :=
 match ds with
 | [x]=>(match hX x with|some l=>.ok (.lst l,0) [aC l=true]|none=>.st)
 | _=>.st
def C3(ds:List D):R1 :=
 match ds with
 | [.int i]=>.ok (.int (if i<0 then -i else i),0) []
 | _=>.st
def rh(ds:List D):R1 :=
 match ds with
 | [.lst l]=>(match dF l with|some bs=>.ok (.bl (bs.all id),0) []|none=>.st)
 | _=>.st
def C2(ds:List D):R1 :=
 match ds with
 | [.lst l]=>(match eH l with
  | some ns=>.ok (.bl (ns.any fun n=>n != 0),0) []
  | none=>match dF l with|some bs=>.ok (.bl (bs.any id),0) []|none=>.st)
 | _=>.st
def CO(ds:List D):R1 :=
 match ds with
 | [.lst l]=>(match eH l with|some ns=>.ok (.int ns.sum,0) []|none=>.st)
 | _=>.st
def CY(ds:List D):R1 :=
 match ds with
 | [.int i]=>.ok (.int i,0) []
 | [.bl b]=>.ok (.int (cond b 1 0),0) []
 | _=>.st
def CP(ds:List D):R1 :=
 match ds with
 | [.int i]=>.ok (.str (toString i),0) [i.natAbs<2 ^ 1900]
 | _=>.st
def uS(ds:List D)(_:Nat):R1 :=
 match ds with
 | [.int j]=>.ok (.lst ((List.range j.toNat).map fun i=>.int (i:Nat)),0) [-4611686018427387904<=j,j<=dw]
 | [.int i,.int j]=>.ok (.lst ((List.range (j-i).toNat).map fun m=>.int (i+(m:Nat))),0) [-4611686018427387904<=i,i<=4611686018427387000,-4611686018427387904<=j,j-i<=800]
 | _=>.st
def qZ:Nat->List D->List D
 | _,[]=>[]
 | n,x::xs=>.tup [.int (n:Nat),x]::qZ (n+1) xs
theorem wZ:∀(l:List D) (n:Nat),qZ n l=l.mapIdx fun i x=>.tup [.int ((n+i:Nat):Int),x]
 | [],_=>rfl
 | x::l,n=>by
  rw[qZ,wZ l (n+1),List.mapIdx_cons]
  simp only[Nat.add_zero]
  congr 1
  congr 1
  funext i y
  rw[show n+1+i=n+(i+1) by omega]
def yj(ds:List D)(_:Nat):R1 :=
 match ds with
 | [.tup a,.tup b]=>.ok (.lst (List.zipWith (fun x y=>.tup [x,y]) a b),0) [aC a=true,aC b=true]
 | _=>.st
def qN(l ds:List D)(k:Nat):Rs (List D) :=
 match ds with
 | [d]=>.ok (l++[d]) [d.lless=true\/k=0,l.length<dw]
 | _=>.st
def Tb(l:List (Str×(List D->Rs D)))(c:List (Str×D))(b:List (Str×(List D->R1)))(i:List (Str×(List D->Nat->R1)))(m:List (Str×(D->List D->R1)))(t:List (Str×(List D->List D->Nat->Rs (List D))))(sf:D->Option Int->Option Int->R1):Fx :=
 { slf:=sf,fn:=fun g=>l.lookup g,con:=fun x=>c.lookup x,blt:=fun x=>b.lookup x,itr:=fun x=>i.lookup x,mth:=fun x=>m.lookup x,mtt:=fun x=>t.lookup x }
def jb(l:List (Str×(List D->Rs D)))(c:List (Str×D))(b:List (Str×(List D->R1)))(i:List (Str×(List D->Nat->R1)))(m:List (Str×(D->List D->R1)))(t:List (Str×(List D->List D->Nat->Rs (List D))))(sf:D->Option Int->Option Int->R1)(fl:List (Str×List Str))(om:List (Str×List (Str×(List D->Rs D)))):Fx :=
  { slf:=sf,fn:=fun g=>l.lookup g,con:=fun x=>c.lookup x,blt:=fun x=>b.lookup x,itr:=fun x=>i.lookup x,mth:=fun x=>m.lookup x,mtt:=fun x=>t.lookup x
    fld:=fun n f=>match fl.lookup n with|some fs=>fs.contains f|none=>false
    omt:=fun n x=>match om.lookup n with|some ms=>ms.lookup x|none=>none }
variable{fl:Fl}{bodyF:am->Rs Fl}
variable{X:Cx}
theorem mN{k:Int}(h:k.natAbs<2 ^ n):Builtin.Int.intBits k<=n:=by
 unfold Builtin.Int.intBits
 split
 ·exact ZY _
 ·rename_i h0
  have:k.natAbs.log2<n:=by
   rcases ag8 k.natAbs with h1|hp
   ·exact absurd (by simpa using h1) (by simpa using h0)
   ·exact(Nat.log2_lt (ag2 hp)).mpr h
  omega
theorem eS:∀{l m:List Prop},aP (l++m)↔aP l/\aP m
 | [],m=>by simp[aP]
 | p::l,m=>by
  show p/\aP (l++m)↔(p/\aP l)/\aP m
  rw[eS,and_assoc]
theorem bi{r:Rs α}{f:α->Rs β}{b:β}{l:List Prop}(h:r.bnd f=.ok b l)(hp:aP l):∃a l1 l2,r=.ok a l1/\aP l1/\f a=.ok b l2/\aP l2:=by
 unfold Rs.bnd at h
 split at h
 ·cases h
 ·rename_i a l1
  split at h
  ·cases h
  ·rename_i b' m e
   cases h
   obtain⟨h1,h2⟩:=eS.mp hp
   exact⟨a,l1,m,rfl,h1,e,h2⟩
theorem oY{m:List Prop}(h:aP (gd b m))(hb:b=true):aP m:=by
 cases m with
 | nil=>exact True.intro
 | cons p l=>exact h.1 hb
theorem Ou{a b:Int}(h:Builtin.Int.intBits a<=2 ^ 22)(g:Builtin.Int.intBits b<=2 ^ 22):IntMulOk a b:=by
 have h':Builtin.Int.intTooBig (Builtin.Int.intBits a+Builtin.Int.intBits b)=false:=by
  unfold Builtin.Int.intTooBig bitsLine;exact aa1 (by omega)
 unfold IntMulOk;rw[h'];simp
theorem ux{a b:Int}(h:cD a b):IntMulOk a b:=by
 rcases h with h|h|⟨h,g⟩|⟨h,g⟩
 ·exact .of_left (mN h)
 ·exact .of_right (mN h)
 ·exact IntMulOk.of_bits (ZN (mN h) (by decide)) (ZN (mN g) (by decide))
 ·exact Ou h g
theorem F4:dD X (binaryOp .Mult) (rI (fun i j=>cD i j) fun i j=>.int (i*j)):=wG fun _ _ _ _ _ _ _ hc q=>mul_int q (ux hc)
theorem BZ:dD X (binaryOp .FloorDiv) (rI (fun _ j=>j≠0/\j.natAbs<cH) fun i j=>.int (i.fdiv j)):=wG fun i j _ _ _ _ _ hc q=>floordiv_int hc.1 q (.inl (PyProof.noPylong_of_log2 (by
 rcases ag8 j.natAbs with h1|hp
 ·exact absurd (by simpa using h1) hc.1
 ·exact(Nat.log2_lt (ag2 hp)).mpr hc.2)))
mutual
theorem eR{pins:List (Addr×Obj)}{σ:L2.St}{H:Hp}{s:Shared}(I:Inv X pins σ H s){P:bO}:∀{d:D} {v:V} {u:Value},d.py.canLay0=true->ao X.K H P d v->bo v u->∃as,Reads s.heap u d.py as
 | .non,v,u,_,h,r=>by
  rw[ao]at h;subst h;cases (show u=Value.none from r);rw[D.py];exact⟨_,.none⟩
 | .bl b,v,u,_,h,r=>by rw[ao]at h;subst h;cases (show u=Value.bool b from r);rw[D.py];exact⟨_,.bool b⟩
 | .int i,v,u,_,h,r=>by rw[ao]at h;subst h;obtain⟨t,e⟩:=(show ∃t,u=Value.int i t from r);subst e;rw[D.py];exact⟨_,.int i t⟩
 | .str x,v,u,_,h,r=>by rw[ao]at h;subst h;obtain⟨t,e⟩:=(show ∃t,u=Value.str x t from r);subst e;rw[D.py];exact⟨_,.str x t⟩
 | .dct _ _,v,u,c,h,r=>by rw[D.py]at c;simp[PyData.canLay0]at c
 | .typ _,v,u,c,h,r=>by rw[D.py]at c;simp[PyData.canLay0]at c
 | .sn _,v,u,c,h,r=>by rw[D.py]at c;simp[PyData.canLay0]at c
 | .obj _ _ _,v,u,c,h,r=>by rw[D.py]at c;simp[PyData.canLay0]at c
 | .cls _,v,u,c,h,r=>by rw[D.py]at c;simp[PyData.canLay0]at c
 | .tup l,v,u,c,h,r=>by
  rw[ao]at h
  obtain⟨a,vs,rfl,h,q⟩:=h
  cases (show u=Value.ref a from r)
  obtain⟨its,rv,ht,_⟩:=I.tuple h
  obtain⟨o,e1,e2,n,e3⟩:=ht
  rw[D.py]at c⊢
  obtain⟨as,ra⟩:=lI I (by simpa [PyData.canLay0]using c) q rv
  exact⟨as,.tuple e1 e2 e3 (by simpa using ra)⟩
 | .lst l,v,u,c,h,r=>by
  rw[ao]at h
  obtain⟨a,vs,b,rfl,h,_,q⟩:=h
  cases (show u=Value.ref a from r)
  have hs:de X.K H a vs:=h.sq
  obtain⟨its,rv,ht,_⟩:=I.list hs
  obtain⟨o,n,e1,e2,_,e3⟩:=ht
  rw[D.py]at c⊢
  obtain⟨as,ra⟩:=lI I (by simpa [PyData.canLay0]using c) q rv
  exact⟨_,.list e1 e2 e3 (by simpa using ra)⟩
theorem lI{pins:List (Addr×Obj)}{σ:L2.St}{H:Hp}{s:Shared}(I:Inv X pins σ H s){P:bO}:∀{l:List D} {vs:List V} {us:List Value},PyData.canLayAll0 (iT l)=true->ar X.K H P l vs->aW vs us->∃as,ReadsAll s.heap us (iT l) as
 | [],vs,us,_,h,r=>by rw[ar]at h;subst h;cases r;rw[iT];exact⟨_,.nil⟩
 | d::l,vs,us,c,h,r=>by
  rw[ar]at h
  obtain⟨v,vr,rfl,h1,h2⟩:=h
  cases r with
  | cons r1 r2 =>
   rw[iT,PyData.canLayAll0,ZZ]at c
   obtain⟨as,ra⟩:=eR I c.1 h1 r1
   obtain⟨bs,rb⟩:=lI I c.2 h2 r2
   rw[iT]
   exact⟨_,.cons ra rb⟩
end
def En(X:Cx)(f:Value->Value->Sem Value)(x y z:D)(k j l:Nat):Prop :=
 ∃r:R2,dD X f r/\∀ow H0 H2 v u (Q:VK),fT ow H0->aJ H0 H2->ao X.K H2 (Kp ow H0 k) x v->ao X.K H2 (Kp ow H0 j) y u->(∀w H',aJ H2 H'->ao X.K H' (Kp ow H0 l) z w->Q w H')->r v u H2 Q
theorem dR{p:Addr}{o:HO}(h:H p=none):aJ H (bv H p o):=fun b x e=>by rw[aK (bU e h)];exact e
theorem ao.kn(h:ao K H (Kp ow H0 k) d v):ao K H (Kp ow H0 (Sp.kn d k)) d v:=by
 unfold Sp.kn
 by_cases f:d.lless=true
 ·rw[if_pos f];exact h.flat _ f
 ·rw[if_neg f];exact h
theorem iX:dw<=sizeLine:=by rw[sizeLine_eq];decide
theorem rS:dw<sizeLine:=by rw[sizeLine_eq];decide
theorem mL{f:Value->Value->Sem Value}{a b:Int}{g:Int->Int->Int}{C:Int->Int->Prop}(h:dD X f (rI C fun i j=>.int (g i j)))(hc:C a b):En X f (.int a) (.int b) (.int (g a b)) k j 0 :=
 ⟨_,h,fun ow H0 H2 v u Q o s rx ry q=>by
  rw[ao]at rx ry;subst rx ry
  exact⟨a,b,rfl,rfl,hc,q _ _ (aJ.refl _) (by rw[ao])⟩⟩
theorem ut{f:Value->Value->Sem Value}{a b:Int}{g:Int->Int->Int}(h:dD X f (lh fun i j=>.int (g i j))):En X f (.int a) (.int b) (.int (g a b)) k j 0 :=
 ⟨_,h,fun ow H0 H2 v u Q o s rx ry q=>by
  rw[ao]at rx ry;subst rx ry
  exact⟨a,b,rfl,rfl,q _ _ (aJ.refl _) (by rw[ao])⟩⟩
theorem li:∀{a b:List D},aC (a++b)=(aC a&&aC b)
 | [],b=>by simp[aC]
 | x::a,b=>by rw[List.cons_append,aC,aC,li,Bool.and_assoc]
theorem G8{op:Operator}{a b:Int}{l:Nat}(h:CN op a b=.ok (z,l) o)(hp:aP o):En X (binaryOp op) (.int a) (.int b) z k j l:=by
 unfold CN at h
 split at h
 ·cases h;exact ut JH
 ·cases h;exact ut JE
 ·cases h;exact mL F4 hp.1
 ·cases h;exact mL BZ hp.1
 ·cases h;exact mL F5 hp.1
 ·cases h
  have c:xM a b:=hp.1
  exact mL JF ⟨c.1,by have:=c.2.1;omega,c.2.2⟩
 ·cases h
theorem nW{op:Operator}(h:tj op=true):op=.Add:=by cases op<;>first|rfl|cases h
theorem B9:dD X (binaryOp .Add) (fun x y H Q => ∃a b ys,x=.ref a/\y=.ref b/\dh X.K H a []/\dh X.K H b ys/\Q (.ref b) H):=by
 intro pins s σ H x y v u Q I rx ry h
 obtain⟨a,b,ys,rfl,rfl,ha,hb,q⟩:=h
 cases rx
 cases ry
 obtain⟨its,r1,p1,_⟩:=I.tuple ha
 obtain⟨its2,r2,p2,_⟩:=I.tuple hb
 cases r1
 obtain⟨⟨cls,dd,data,sl⟩,ho,hc,n,hd⟩:=id p1
 obtain⟨⟨cls2,dd2,data2,sl2⟩,ho2,hc2,n2,hd2⟩:=id p2
 simp only at hc hd hc2 hd2
 subst hc hd hc2 hd2
 exact concat_meets ⟨_,ho,rfl⟩ ⟨_,ho2,rfl⟩ noFill_tuple_add seq_tuple_add PySem.F.slot_tuple_add PySem.F.entry_tuple_add (PySem.F.args_tuple_add_2 _ _)
  (tuple_addW0 a b _ its2.toArray n n2 dd dd2 sl sl2 (by rfl)) ⟨ho,ho2,⟨.ref b,H,I,rfl,q⟩⟩
theorem Ga:dD X (binaryOp .Add) (fun x y H Q => ∃l b xs zs,x=.ref l/\y=.ref b/\de X.K H l xs/\de X.K H b zs/\xs.length+zs.length<=sizeLine/\∀p,H p=none->Q (.ref p) (bv H p (.lst (xs++zs)))):=by
 intro pins s σ H x y v u Q I rx ry h
 obtain⟨l,b,xs,zs,rfl,rfl,hH,hB,hz,q⟩:=h
 cases rx
 cases ry
 obtain⟨its,r,⟨⟨cls,dd,data,sl⟩,n,ho,hc,_,hd⟩,z⟩:=I.list hH
 obtain⟨its2,r2,⟨⟨cls2,dd2,data2,sl2⟩,n2,ho2,hc2,_,hd2⟩,z2⟩:=I.list hB
 simp only at hc hd hc2 hd2
 subst hc hd hc2 hd2
 have l1:=r.length
 have l2:=r2.length
 refine concat_meets ⟨_,ho,rfl⟩ ⟨_,ho2,rfl⟩ noFill_list_add seq_list_add PySem.F.slot_list_add PySem.F.entry_list_add (PySem.F.args_list_add_2 _ _) (list_addW l b its.toArray its2.toArray n n2 dd dd2 sl sl2 (by rw[aa2,aa2];omega)) ⟨ho,ho2,?_⟩
 have ea:its.toArray++its2.toArray=(its++its2).toArray:=by simp
 rw[ea]
 exact⟨.ref _,_,I.lnew (t':=s.toks) (r.append r2) (by rw[ae1];omega),rfl,q _ I.fresh⟩
theorem MS{op:Operator}{x:D}{l:Nat}(h:mi op x y k j=.ok (z,l) o)(hp:aP o):En X (binaryOp op) x y z k j l:=by
 unfold mi at h
 split at h
 ·exact G8 h hp
 ·rename_i a b
  split at h
  ·rename_i c;cases h
   cases nW c
   refine⟨_,xU,fun ow H0 H2 v u Q o s rx ry q=>?_⟩
   rw[ao]at rx ry;subst rx ry
   exact⟨a,b,rfl,rfl,ZN hp.1 iX,q _ _ (aJ.refl _) (by rw[ao])⟩
  ·cases h
 ·rename_i a b
  split at h
  ·rename_i c
   cases nW c
   cases h
   cases a with
   | nil =>
    refine⟨_,B9,fun ow H0 H2 v u Q o s rx ry q=>?_⟩
    rw[ao]at rx ry
    obtain⟨pa,va,rfl,ha,ra⟩:=rx
    obtain⟨pb,vb,rfl,hb,rb⟩:=ry
    have rb':=rb.imp (Kp.joinR o k j)
    cases ra
    refine⟨pa,pb,vb,rfl,rfl,ha,hb,q _ _ (aJ.refl _) (ao.kn ?_)⟩
    rw[ao]
    exact⟨pb,vb,rfl,hb,rb'⟩
   | cons a0 a =>
    refine⟨_,F9,fun ow H0 H2 v u Q o s rx ry q=>?_⟩
    rw[ao]at rx ry
    obtain⟨pa,va,rfl,ha,ra⟩:=rx
    obtain⟨pb,vb,rfl,hb,rb⟩:=ry
    have ra':=ra.imp (Kp.joinL o k j)
    have rb':=rb.imp (Kp.joinR o k j)
    have la:=ra.length
    have lb:=rb.length
    refine⟨pa,pb,va,vb,rfl,rfl,ha,hb,?_,?_,fun e=>?_,fun e p hp'=>?_⟩
    ·intro e;subst e;cases la
    ·rw[<- la,<- lb];exact ZN hp.1 iX
    ·subst e
     have:b=[]:=ah5.mp lb
     subst this
     refine q _ _ (aJ.refl _) (ao.kn ?_)
     rw[ao]
     exact⟨pa,va,rfl,ha,by rw[ad1];exact ra'⟩
    ·have sm:=dR (o:=HO.tup (va++vb)) hp'
     refine q _ _ sm (ao.kn ?_)
     rw[ao]
     exact⟨p,_,rfl,dh.of bg,(ra'.same sm).append (rb'.same sm)⟩
  ·cases h
 ·rename_i a b
  split at h
  ·rename_i c;cases h
   cases nW c
   refine⟨_,Ga,fun ow H0 H2 v u Q o s rx ry q=>?_⟩
   rw[ao]at rx ry
   obtain⟨pa,va,b1,rfl,ha,qa,ra⟩:=rx
   obtain⟨pb,vb,b2,rfl,hb,qb,rb⟩:=ry
   have la:=ra.length
   have lb:=rb.length
   have fl:=hp.1
   rw[li,ZZ]at fl
   refine⟨pa,pb,va,vb,rfl,rfl,ha.sq,hb.sq,by rw[<- la,<- lb];exact ZN hp.2.1 iX,fun p hp'=>?_⟩
   have sm:=dR (o:=HO.lst (va++vb)) hp'
   refine q _ _ sm ?_
   rw[ao]
   exact⟨p,_,true,rfl,bg,⟨rfl,s.free hp'⟩,((ra.flat _ fl.1).same sm).append ((rb.flat _ fl.2).same sm)⟩
  ·cases h
 ·cases h
theorem Ch{pins:List (Addr×Obj)}{σ:L2.St}{s:Shared}{P:bO}(h:ao X.K H P (.lst l) v):∃a vs,v=.ref a/\de X.K H a vs/\ar X.K H P l vs:=by
 rw[ao]at h
 obtain⟨a,vs,b,rfl,h,_,q⟩:=h
 exact⟨a,vs,rfl,h.sq,q⟩
theorem jj:∀{l:List D} {ns:List Int},eH l=some ns->l=ns.map D.int
 | [],ns,h=>by rw[eH]at h;cases h;rfl
 | .int i::l,ns,h=>by
  rw[eH]at h
  cases e:eH l with
  | none=>rw[e]at h;cases h
  | some m=>rw[e]at h;cases h;rw[jj e];rfl
 | .non::l,ns,h=>by rw[eH]at h<;>first|cases h|(intro z;intro e;cases e)
 | .bl _::l,ns,h=>by rw[eH]at h<;>first|cases h|(intro z;intro e;cases e)
 | .str _::l,ns,h=>by rw[eH]at h<;>first|cases h|(intro z;intro e;cases e)
 | .dct _ _::l,ns,h=>by rw[eH]at h<;>first|cases h|(intro z;intro e;cases e)
 | .typ _::l,ns,h=>by cases h
 | .sn _::l,ns,h=>by cases h
 | .obj _ _ _::l,ns,h=>by cases h
 | .cls _::l,ns,h=>by cases h
 | .tup _::l,ns,h=>by rw[eH]at h<;>first|cases h|(intro z;intro e;cases e)
 | .lst _::l,ns,h=>by rw[eH]at h<;>first|cases h|(intro z;intro e;cases e)
theorem kU:∀{l:List D} {ns:List Bool},dF l=some ns->l=ns.map D.bl
 | [],ns,h=>by rw[dF]at h;cases h;rfl
 | .bl i::l,ns,h=>by
  rw[dF]at h
  cases e:dF l with
  | none=>rw[e]at h;cases h
  | some m=>rw[e]at h;cases h;rw[kU e];rfl
 | .non::l,ns,h=>by rw[dF]at h<;>first|cases h|(intro z;intro e;cases e)
 | .int _::l,ns,h=>by rw[dF]at h<;>first|cases h|(intro z;intro e;cases e)
 | .str _::l,ns,h=>by rw[dF]at h<;>first|cases h|(intro z;intro e;cases e)
 | .dct _ _::l,ns,h=>by rw[dF]at h<;>first|cases h|(intro z;intro e;cases e)
 | .typ _::l,ns,h=>by cases h
 | .sn _::l,ns,h=>by cases h
 | .obj _ _ _::l,ns,h=>by cases h
 | .cls _::l,ns,h=>by cases h
 | .tup _::l,ns,h=>by rw[dF]at h<;>first|cases h|(intro z;intro e;cases e)
 | .lst _::l,ns,h=>by rw[dF]at h<;>first|cases h|(intro z;intro e;cases e)
def jI(X:Cx)(op:CmpOp)(x y:D)(r:Bool):Prop:=∀(P P':bO),dD X (compareOp op) (fun v u H Q=>ao X.K H P x v/\ao X.K H P' y u/\Q (.bl r) H)
theorem ml{x:D}:∀{l:List D},((iT l).any fun y=>PyData.eqv y x.py)=l.any fun y=>eqD y x
 | []=>by rw[iT];rfl
 | y::l=>by rw[iT,List.any_cons,List.any_cons,ml];rfl
theorem mV{a b:Int}{g:Int->Int->Bool}(h:dD X (compareOp op) (lh fun i j=>.bl (g i j))):jI X op (.int a) (.int b) (g a b):=fun P P' pins s σ H v u xv yu Q I rx ry ⟨h1,h2,q⟩=>by
 rw[ao]at h1 h2;subst h1 h2
 exact h pins s σ H _ _ xv yu Q I rx ry ⟨a,b,rfl,rfl,q⟩
theorem Gq(h:SeqAt.shaped (D.tup l).py=true):PyData.canLayAll0 (iT l)=true:=by
 have:=af7 h
 rw[D.py]at this
 simpa [PyData.canLay0]using this
theorem wM{x:D}(hu:X.A.units+70<cLine)(h:xZ x l=.ok r o)(hp:aP o):jI X .In x (.tup l) r/\jI X .In x (.lst l) r/\jI X .NotIn x (.tup l) (!r)/\jI X .NotIn x (.lst l) (!r):=by
 unfold xZ at h
 cases h
 ·have c:=hp.1
  unfold kQ at c
  rw[ZZ]at c
  have c1:=Gq c.1
  have c2:=af7 c.2
  have dx:=SeqAt.depth_of_shaped c.2
  have hm:min (PyData.depthAll (iT l)) x.py.depth<=64:=ZN (Nat.min_le_right _ _) dx
  have ct:(D.tup l).py.canLay0=true:=af7 c.1
  have cl:(D.lst l).py.canLay0=true:=by rw[D.py];simpa [PyData.canLay0]using c1
  have et:(D.tup l).py=.tuple (iT l):=by rw[D.py]
  have el:(D.lst l).py=.list (iT l):=by rw[D.py]
  refine⟨?_,?_,?_,?_⟩<;>intro P P' pins s σ H v u xv yu Q I rx ry ⟨h1,h2,q⟩<;>obtain⟨as,r1⟩:=eR I c2 h1 rx
  ·obtain⟨bs,r2⟩:=eR I ct h2 ry
   rw[et]at r2
   exact SeqAt.in_tuple_reads r2 r1 c1 c2 (by omega) ⟨.bl _,H,I,rfl,by rw[ml];exact q⟩
  ·obtain⟨bs,r2⟩:=eR I cl h2 ry
   rw[el]at r2
   exact SeqAt.in_list_reads r2 r1 c1 c2 (by omega) ⟨.bl _,H,I,rfl,by rw[ml];exact q⟩
  ·obtain⟨bs,r2⟩:=eR I ct h2 ry
   rw[et]at r2
   exact SeqAt.notIn_tuple_reads r2 r1 c1 c2 (by omega) ⟨.bl _,H,I,rfl,by rw[ml];exact q⟩
  ·obtain⟨bs,r2⟩:=eR I cl h2 ry
   rw[el]at r2
   exact SeqAt.notIn_list_reads r2 r1 c1 c2 (by omega) ⟨.bl _,H,I,rfl,by rw[ml];exact q⟩
theorem Ka{r:Rs Bool}(h:r.nt=.ok b o):r=.ok (!b) o:=by
 cases r with
 | st=>cases h
 | ok c l=>cases h;simp
theorem wI{P:bO}{x:D}(h:ao X.K H P x v):decide (v=.non)=x.isNon:=by
 cases x with
 | non=>rw[ao]at h;subst h;rfl
 | bl _=>rw[ao]at h;subst h;rfl
 | int _=>rw[ao]at h;subst h;rfl
 | str _=>rw[ao]at h;subst h;rfl
 | dct _ _=>rw[ao]at h;obtain⟨_,_,a,_,rfl,_⟩:=h;rfl
 | typ _=>rw[ao]at h;subst h;rfl
 | sn _=>rw[ao]at h;obtain⟨a,_,rfl,_⟩:=h;rfl
 | obj _ _ _=>rw[ao]at h;obtain⟨_,_,a,_,_,_,rfl,_⟩:=h;rfl
 | cls _=>rw[ao]at h;obtain⟨_,_,rfl,_⟩:=h;rfl
 | tup _=>rw[ao]at h;obtain⟨a,_,rfl,_⟩:=h;rfl
 | lst _=>rw[ao]at h;obtain⟨a,_,_,rfl,_⟩:=h;rfl
theorem gP(h:hX d=some l):d=.tup l\/d=.lst l:=by
 unfold hX at h
 split at h
 ·cases h;exact .inl rfl
 ·cases h;exact .inr rfl
 ·cases h
theorem G4{a b:Int}(h:gW op a b=some r):jI X op (.int a) (.int b) r:=by
 unfold gW at h
 split at h
 ·cases h;exact mV N8
 ·cases h;exact mV N9
 ·cases h;exact mV Oa
 ·cases h;exact mV Ob
 ·cases h
theorem JD{x:D}(hu:X.A.units+70<cLine)(h:xS op x y=some r):jI X op x y r:=by
 unfold xS at h
 split at h
 ·exact G4 h
 ·cases h
theorem Ej(b c:Bool):(Value.bool b==Value.bool c)=(b==c):=by cases b<;>cases c<;>rfl
theorem D1{x:D}(hu:X.A.units+70<cLine)(h:D2 x y=.ok r o)(hp:aP o):jI X .In x y r/\jI X .NotIn x y (!r):=by
 unfold D2 at h
 split at h
 ·have m:=wM hu h hp;exact⟨m.1,m.2.2.1⟩
 ·have m:=wM hu h hp;exact⟨m.2.1,m.2.2.2⟩
 ·cases h
 ·rename_i b
  split at h
  ·rename_i a
   cases h
   refine⟨?_,?_⟩<;>intro P P' pins s σ H v u xv yu Q I rx ry ⟨h1,h2,q⟩<;>(rw[ao]at h1 h2;subst h1 h2;obtain⟨t,rfl⟩:=rx;obtain⟨t',rfl⟩:=ry)
   ·exact SB.contains ⟨.bl _,H,I,rfl,q⟩
   ·exact SB.notContains ⟨.bl _,H,I,rfl,q⟩
  ·cases h
 ·cases h
theorem km{x:D}(hu:X.A.units+70<cLine)(h:fS op x y=.ok r o)(hp:aP o):jI X op x y r:=by
 unfold fS at h
 split at h
 ·cases h
  have c:=hp.1
  unfold kQ at c
  rw[ZZ]at c
  intro P P' pins s σ H v u xv yu Q I rx ry ⟨h1,h2,q⟩
  obtain⟨as,r1⟩:=eR I (af7 c.1) h1 rx
  obtain⟨bs,r2⟩:=eR I (af7 c.2) h2 ry
  exact eq_dataH r1 r2 c.1 c.2 (by omega) ⟨.bl _,H,I,rfl,q⟩
 ·cases h
  have c:=hp.1
  unfold kQ at c
  rw[ZZ]at c
  intro P P' pins s σ H v u xv yu Q I rx ry ⟨h1,h2,q⟩
  obtain⟨as,r1⟩:=eR I (af7 c.1) h1 rx
  obtain⟨bs,r2⟩:=eR I (af7 c.2) h2 ry
  exact ne_dataH r1 r2 c.1 c.2 (by omega) ⟨.bl _,H,I,rfl,q⟩
 ·exact(D1 hu h hp).1
 ·have:=(D1 hu (Ka h) hp).2;rw[Bool.not_not]at this;exact this
 ·split at h
  ·cases h
   intro P P' pins s σ H v u xv yu Q I rx ry ⟨h1,h2,q⟩
   rw[ao]at h2
   subst h2
   exact JG pins s σ H v _ xv yu Q I rx ry ⟨rfl,by rw[wI h1];exact q⟩
  ·split at h
   ·cases h
    intro P P' pins s σ H v u xv yu Q I rx ry ⟨h1,h2,q⟩
    rw[ao]at h1 h2
    subst h1 h2
    cases rx
    cases ry
    exact wpAny_is_plain rfl ⟨.bl _,H,I,rfl,by rw[Ej];exact q⟩
   ·cases h
  ·cases h
 ·split at h
  ·cases h
   intro P P' pins s σ H v u xv yu Q I rx ry ⟨h1,h2,q⟩
   rw[ao]at h2
   subst h2
   refine F3 pins s σ H v _ xv yu Q I rx ry ⟨rfl,?_⟩
   rw[wI h1]
   exact q
  ·split at h
   ·cases h
    intro P P' pins s σ H v u xv yu Q I rx ry ⟨h1,h2,q⟩
    rw[ao]at h1 h2
    subst h1 h2
    cases rx
    cases ry
    exact wpAny_isNot_plain rfl ⟨.bl _,H,I,rfl,by rw[Ej];exact q⟩
   ·cases h
  ·cases h
 ·cases e:xS op x y with
  | none=>rw[e]at h;cases h
  | some b=>rw[e]at h;cases h;exact JD hu e
variable{X:Cx}
theorem wR(K:W.Frag){t:Value}:W.kitOne K t t=some true:=by unfold W.kitOne;rw[if_pos (beq_self_eq_true t)]
def D.ty:D->String
 | .non => "NoneType"
 | .bl _ => "bool"
 | .int _ => "int"
 | .str _ => "str"
 | .dct _ _ => "dict"
 | .tup _ => "tuple"
 | .lst _ => "list"
 | .typ _ => "type"
 | .sn _ => "set"
 | .obj _ _ _ => "object"
 | .cls _ => "type"
def D.plain:D->Bool
 | .typ _=>false
 | .sn _=>false
 | .obj _ _ _=>false
 | .cls _=>false
 | _=>true
theorem KM{x:D}{c:String}(hpl:x.plain=true)(e:∀K,W.kitOne K (.type x.ty) (.type c)=some b){u:Value}{P:bO}
  (I:Inv X pins σ H s) (h:ao X.K H P x v) (r:bo v u) (q:∀tk,Q (.bool b) { s with toks:=tk }):wpAny (model X.prog X.w) X.A (call (.builtin "isinstance") [u,.type c]) Q E s:=by
 have e:=e X.K
 cases x with
 | non=>rw[ao]at h;subst h;cases (show u=Value.none from r);exact af0 W.kitx_none I.kIn True.intro e (fun z=>nomatch z) q
 | bl y=>rw[ao]at h;subst h;cases (show u=Value.bool y from r);exact af0 W.kitx_bool I.kIn True.intro e (fun z=>nomatch z) q
 | int i=>rw[ao]at h;subst h;obtain⟨t,z⟩:=(show ∃t,u=Value.int i t from r);cases z;exact af0 W.kitx_int I.kIn True.intro e (fun z=>nomatch z) q
 | str y=>rw[ao]at h;subst h;obtain⟨t,z⟩:=(show ∃t,u=Value.str y t from r);cases z;exact af0 W.kitx_str I.kIn True.intro e (fun z=>nomatch z) q
 | dct ks ds =>
  rw[ao]at h
  obtain⟨_,_,a,vs,rfl,ea,_⟩:=h
  cases (show u=Value.ref a from r)
  obtain⟨_,_,vs,_,p⟩:=(show dj X.prog X.w H s.heap a (.dK _)from I.hok a _ ea)
  obtain⟨o,es,ep,h1,h2,_⟩:=p
  exact af0 W.kitx_dict I.kIn ⟨o,h1,h2.1⟩ e (fun z=>nomatch z) q
 | typ _=>cases hpl
 | sn _=>cases hpl
 | obj _ _ _=>cases hpl
 | cls _=>cases hpl
 | tup l =>
  rw[ao]at h
  obtain⟨a,vs,rfl,ea,_⟩:=h
  cases (show u=Value.ref a from r)
  obtain⟨_,_,⟨o,h1,h2,_⟩,_⟩:=I.tuple ea
  exact af0 W.kitx_tuple I.kIn ⟨o,h1,h2⟩ e (fun z=>nomatch z) q
 | lst l =>
  obtain⟨a,vs,rfl,ea,_⟩:=Ch (pins:=pins) (σ:=σ) (s:=s) h
  cases (show u=Value.ref a from r)
  obtain⟨_,_,⟨o,n,h1,h2,_⟩,_⟩:=I.list ea
  exact af0 W.kitx_list I.kIn ⟨o,h1,h2⟩ e (fun z=>nomatch z) q
theorem kt(K:W.Frag)(a b:String)(r:Bool)(h:(a==b)=false)(h2:W.kitCls K (.type a) (.type b)=some r):W.kitOne K (.type a) (.type b)=some r:=by
 unfold W.kitOne
 rw[if_neg (by
  intro z
  have:a=b:=by simpa using z
  subst this
  simp at h)]
 exact h2
theorem Gu:∀a∈["NoneType", "bool", "int", "str", "dict", "tuple", "list"],∀T∈mF,(a==T)=false->∀K,W.kitCls K (.type a) (.type T)=some (decide (a = "bool" /\ T = "int")):=by
 intro a ha T hT
 simp only[ZT,ab3,ae5,mF]at ha hT
 rcases ha with rfl|rfl|rfl|rfl|rfl|rfl|rfl<;>rcases hT with rfl|rfl|rfl|rfl|rfl|rfl<;>intro h K<;>first|(exact absurd h (by decide))|kernel_rfl
theorem KN{x:D}(h:KO x T=some b)(hT:T∈mF):x.plain=true/\∀K,W.kitOne K (.type x.ty) (.type T)=some b:=by
 have key:∀(a:String),a∈["NoneType", "bool", "int", "str", "dict", "tuple", "list"]->∀K,W.kitOne K (.type a) (.type T)=some (decide (a=T) || decide (a = "bool" /\ T = "int")):=fun a ha K=>by
  by_cases e:a=T
  ·subst e;rw[wR];simp
  ·have e':(a==T)=false:=by simpa using e
   rw[kt K a T _ e' (Gu a ha T hT e' K)];simp[e]
 unfold KO at h
 cases hx:x.ty0 with
 | none=>rw[hx]at h;cases h
 | some a =>
  rw[hx]at h
  cases h
  have hp:x.plain=true/\x.ty=a/\a∈["NoneType", "bool", "int", "str", "dict", "tuple", "list"]:=by
   cases x<;>cases hx<;>exact⟨rfl,rfl,by decide⟩
  refine⟨hp.1,fun K=>?_⟩
  rw[hp.2.1]
  exact key a hp.2.2 K
def iO(X:Cx)(f:Value)(ds:List D)(z:D)(l:Nat):Prop :=
 ∃r:List V->Hp->VK->Prop,dN X f r/\∀ow H0 H2 vs (P:bO) (Q:VK),fT ow H0->aJ H0 H2->ar X.K H2 P ds vs->(∀w H',aJ H2 H'->ao X.K H' (Kp ow H0 l) z w->Q w H')->r vs H2 Q
theorem ar.only{P:bO}(h:ar K H P [d] vs):∃v,vs=[v]/\ao K H P d v:=by
 rw[ar]at h
 obtain⟨v,r,rfl,h1,h2⟩:=h
 rw[ar]at h2;subst h2
 exact⟨v,rfl,h1⟩
theorem hW{P:bO}(h:ao X.K H P (.lst l) v):∃a vs,v=.ref a/\de X.K H a vs/\ar X.K H P l vs:=by
 rw[ao]at h
 obtain⟨a,vs,b,rfl,h,_,q⟩:=h
 exact⟨a,vs,rfl,h.sq,q⟩
theorem fG{P:bO}(h:ao X.K H P (.tup l) v):∃a vs,v=.ref a/\dh X.K H a vs/\ar X.K H P l vs:=by
 rw[ao]at h;exact h
theorem Ad:iO X (.builtin "len") [.tup l] (.int l.length) 0/\iO X (.builtin "len") [.lst l] (.int l.length) 0:=by
 constructor
 ·refine⟨_,mh,fun ow H0 H2 vs P Q o s rx q=>?_⟩
  obtain⟨v,rfl,ry⟩:=rx.only
  obtain⟨a,ws,rfl,hs,rl⟩:=fG ry
  exact⟨a,ws,rfl,.inr hs,by rw[<- rl.length];exact q _ _ (aJ.refl _) (by rw[ao])⟩
 ·refine⟨_,mh,fun ow H0 H2 vs P Q o s rx q=>?_⟩
  obtain⟨v,rfl,ry⟩:=rx.only
  obtain⟨a,ws,rfl,hs,rl⟩:=hW ry
  exact⟨a,ws,rfl,.inl hs,by rw[<- rl.length];exact q _ _ (aJ.refl _) (by rw[ao])⟩
theorem tW(f:aC l=true):iO X (.type "tuple") [.lst l] (.tup l) 0/\iO X (.type "tuple") [.tup l] (.tup l) 0:=by
 constructor
 ·refine⟨_,lj,fun ow H0 H2 vs P Q o s rx q=>?_⟩
  obtain⟨v,rfl,ry⟩:=rx.only
  obtain⟨a,ws,rfl,hs,rl⟩:=hW ry
  refine⟨a,ws,rfl,.inl ⟨hs,fun p hp=>?_⟩⟩
  have sm:=dR (o:=HO.tup ws) hp
  refine q _ _ sm ?_
  rw[ao]
  exact⟨p,ws,rfl,dh.of bg,(rl.flat _ f).same sm⟩
 ·refine⟨_,lj,fun ow H0 H2 vs P Q o s rx q=>?_⟩
  obtain⟨v,rfl,ry⟩:=rx.only
  obtain⟨a,ws,rfl,hs,rl⟩:=fG ry
  refine⟨a,ws,rfl,.inr ⟨hs,q _ _ (aJ.refl _) ?_⟩⟩
  rw[ao]
  exact⟨a,ws,rfl,hs,rl.flat _ f⟩
theorem wP(f:aC l=true):iO X (.type "list") [.lst l] (.lst l) 0/\iO X (.type "list") [.tup l] (.lst l) 0:=by
 constructor
 ·refine⟨_,md,fun ow H0 H2 vs P Q o s rx q=>?_⟩
  obtain⟨v,rfl,ry⟩:=rx.only
  obtain⟨a,ws,rfl,hs,rl⟩:=hW ry
  refine⟨a,ws,rfl,.inl hs,fun p hp=>?_⟩
  have sm:=dR (o:=HO.lst ws) hp
  refine q _ _ sm ?_
  rw[ao]
  exact⟨p,ws,true,rfl,bg,⟨rfl,s.free hp⟩,(rl.flat _ f).same sm⟩
 ·refine⟨_,md,fun ow H0 H2 vs P Q o s rx q=>?_⟩
  obtain⟨v,rfl,ry⟩:=rx.only
  obtain⟨a,ws,rfl,hs,rl⟩:=fG ry
  refine⟨a,ws,rfl,.inr hs,fun p hp=>?_⟩
  have sm:=dR (o:=HO.lst ws) hp
  refine q _ _ sm ?_
  rw[ao]
  exact⟨p,ws,true,rfl,bg,⟨rfl,s.free hp⟩,(rl.flat _ f).same sm⟩
theorem Ni{i:Int}:iO X (.builtin "abs") [.int i] (.int (if i<0 then -i else i)) 0:=by
 refine⟨_,CL,fun ow H0 H2 vs P Q o s rx q=>?_⟩
 obtain⟨v,rfl,ry⟩:=rx.only
 rw[ao]at ry;subst ry
 exact⟨i,rfl,q _ _ (aJ.refl _) (by rw[ao])⟩
theorem ar.mapBl{K:W.Frag}{P:bO}{H:Hp}:∀{ns:List Bool} {vs:List V},ar K H P (ns.map D.bl) vs->vs=ns.map V.bl
 | [],vs,h=>by rw[List.map_nil,ar]at h;exact h
 | n::ns,vs,h=>by
  rw[ac4,ar]at h
  obtain⟨v,r,rfl,h1,h2⟩:=h
  rw[ao]at h1
  rw[h1,ar.mapBl h2];rfl
theorem qf:∀{bs:List Bool} {us:List Value},aW (bs.map V.bl) us->us=bs.map Value.bool
 | [],us,h=>by cases h;rfl
 | b::bs,us,h=>by
  cases h with
  | cons h1 h2=>rw[show _=Value.bool b from h1,qf h2];rfl
theorem tT:∀{ns:List Int} {us:List Value},aW (ns.map V.int) us->(∀v,v∈us->∃a t,v=Value.int a t)/\numsOf us=ns
 | [],us,h=>by cases h;exact⟨fun _ h=>(by cases h),rfl⟩
 | n::ns,us,h=>by
  cases h with
  | cons h1 h2 =>
   obtain⟨t,rfl⟩:=(show ∃t,_=Value.int n t from h1)
   obtain⟨i1,i2⟩:=tT h2
   refine⟨fun v hv=>?_,by simp only[numsOf];rw[i2]⟩
   rcases ZT.mp hv with rfl|hv
   ·exact⟨_,_,rfl⟩
   ·exact i1 v hv
theorem AY(hc:X.calm=true):dN X (.builtin "sum") (fun xs H Q => ∃(p:Addr) (ns:List Int),xs=[.ref p]/\de X.K H p (ns.map V.int)/\Q (.int ns.sum) H):=by
 intro pins s σ H xs us Q I r h
 obtain⟨p,ns,rfl,hq,q⟩:=h
 obtain⟨u,rfl,rx⟩:=dX r
 cases rx
 obtain⟨its,rv,pl,hz⟩:=I.list hq
 obtain⟨hall,hnum⟩:=tT rv
 obtain⟨xs,e⟩:=AllInts.items (vs:=its.toArray) (fun v hv=>hall v (by simpa using hv))
 have hl:=pl.isList
 rw[e]at hl
 refine sum_intListG (I.ok.hd hc) hl fun h' tk t' hk=>?_
 refine⟨.int ns.sum,H,I.kept hk,⟨t',?_⟩,q⟩
 congr 1
 rw[preSum_eq,List.take_of_length_le (by simp),<- nums_intItems,<- e]
 simp[hnum]
theorem A7(hc:X.calm=true):dN X (.builtin "all") (fun xs H Q => ∃(p:Addr) (bs:List Bool),xs=[.ref p]/\de X.K H p (bs.map V.bl)/\Q (.bl (bs.all id)) H):=by
 intro pins s σ H xs us Q I r h
 obtain⟨p,bs,rfl,hq,q⟩:=h
 obtain⟨u,rfl,rx⟩:=dX r
 cases rx
 obtain⟨its,rv,pl,hz⟩:=I.list hq
 have ei:=qf rv
 subst ei
 have hl:=pl.isList
 have hlt:p<s.heap.objs.size:=by obtain⟨_,e,_⟩:=hl;exact ZS e
 refine call_all_walk (ah2 hl ?_)
 refine⟨_,_,_,_,_,_,fun i=>bs.getD i true,rfl,Walks.list (A:=X.A.in1) (by exact I.ok.hd hc) _ p (ac1 hlt) (bs.map Value.bool).toArray,⟨⟨_,ZQ _ rfl,rfl,rfl⟩,hl.push _⟩,?_,fun h' tk hk=>?_⟩
 ·intro i v s' Q' E' hP hQ
  have hP:((bs.map Value.bool).toArray)[i]?=some v:=hP
  simp only[List.getElem?_toArray,af8]at hP
  cases e:bs[i]? with
  | none=>rw[e]at hP;cases hP
  | some b =>
   rw[e]at hP;cases hP
   refine ad9 ?_
   have:bs.getD i true=b:=by rw[ab5,e];rfl
   rw[<- this];exact hQ
 ·have:((List.range (bs.map Value.bool).toArray.size).all fun i=>bs.getD i true)=bs.all id:=by
   simp only[aa2,ab6]
   rw[ah0,ai4,ai4]
   constructor
   ·intro h x hx
    obtain⟨i,hi,rfl⟩:=List.mem_iff_getElem.mp hx
    have:=h i (af6.mpr hi)
    rw[ab5,aa3 hi]at this
    exact this
   ·intro h i hi
    have hi:=af6.mp hi
    rw[ab5,aa3 hi]
    exact h _ (ak0 hi)
  rw[this]
  refine⟨.bl _,H,I.kept (fun b o e=>hk b o (fun hm=>?_) (ZM _ e)),rfl,q⟩
  have hb:b=s.heap.objs.size:=by simpa using hm
  subst hb
  exact absurd (ZS e) (ac7 _)
theorem A6(hc:X.calm=true):dN X (.builtin "any") (fun xs H Q => ∃(p:Addr) (ns:List Int),xs=[.ref p]/\de X.K H p (ns.map V.int)/\Q (.bl (ns.any fun n=>n != 0)) H):=by
 intro pins s σ H xs us Q I r h
 obtain⟨p,ns,rfl,hq,q⟩:=h
 obtain⟨u,rfl,rx⟩:=dX r
 cases rx
 obtain⟨its,rv,pl,hz⟩:=I.list hq
 have hlen:its.length=ns.length:=by have:=rv.length;simpa using this.symm
 have hl:=pl.isList
 have hlt:p<s.heap.objs.size:=by obtain⟨_,e,_⟩:=hl;exact ZS e
 refine call_any_walk (ah2 hl ?_)
 refine⟨_,_,_,_,_,_,fun i=>(ns.getD i 0 != 0),rfl,Walks.list (A:=X.A.in1) (by exact I.ok.hd hc) _ p (ac1 hlt) its.toArray,⟨⟨_,ZQ _ rfl,rfl,rfl⟩,hl.push _⟩,?_,fun h' tk hk=>?_⟩
 ·intro i v s' Q' E' hP hQ
  have hP:(its.toArray)[i]?=some v:=hP
  simp only[List.getElem?_toArray]at hP
  have hi:i<ns.length:=by rw[<- hlen];exact(aa7.mp hP).1
  obtain⟨w,hw,rw'⟩:=rv.get (i:=i) (x:=V.int ns[i]) (by simp[hi])
  rw[hP]at hw;cases hw
  obtain⟨t,rfl⟩:=rw'
  refine PyProof.Rows.truthy_int ?_
  have:ns.getD i 0=ns[i]:=by rw[ab5,aa3 hi];rfl
  rw[<- this];exact hQ
 ·have:((List.range its.toArray.size).any fun i=>(ns.getD i 0 != 0))=ns.any fun n=>n != 0:=by
   simp only[aa2,hlen]
   rw[ah0,ah6,ah6]
   constructor
   ·rintro⟨i,hi,h⟩
    have hi:=af6.mp hi
    rw[ab5,aa3 hi]at h
    exact⟨_,ak0 hi,h⟩
   ·rintro⟨x,hx,h⟩
    obtain⟨i,hi,rfl⟩:=List.mem_iff_getElem.mp hx
    exact⟨i,af6.mpr hi,by rw[ab5,aa3 hi];exact h⟩
  rw[this]
  refine⟨.bl _,H,I.kept (fun b o e=>hk b o (fun hm=>?_) (ZM _ e)),rfl,q⟩
  have hb:b=s.heap.objs.size:=by simpa using hm
  subst hb
  exact absurd (ZS e) (ac7 _)
theorem A5(hc:X.calm=true):dN X (.builtin "any") (fun xs H Q => ∃(p:Addr) (bs:List Bool),xs=[.ref p]/\de X.K H p (bs.map V.bl)/\Q (.bl (bs.any id)) H):=by
 intro pins s σ H xs us Q I r h
 obtain⟨p,bs,rfl,hq,q⟩:=h
 obtain⟨u,rfl,rx⟩:=dX r
 cases rx
 obtain⟨its,rv,pl,hz⟩:=I.list hq
 have ei:=qf rv
 subst ei
 have hl:=pl.isList
 have hlt:p<s.heap.objs.size:=by obtain⟨_,e,_⟩:=hl;exact ZS e
 refine call_any_walk (ah2 hl ?_)
 refine⟨_,_,_,_,_,_,fun i=>bs.getD i false,rfl,Walks.list (A:=X.A.in1) (by exact I.ok.hd hc) _ p (ac1 hlt) (bs.map Value.bool).toArray,⟨⟨_,ZQ _ rfl,rfl,rfl⟩,hl.push _⟩,?_,fun h' tk hk=>?_⟩
 ·intro i v s' Q' E' hP hQ
  have hP:((bs.map Value.bool).toArray)[i]?=some v:=hP
  simp only[List.getElem?_toArray,af8]at hP
  cases e:bs[i]? with
  | none=>rw[e]at hP;cases hP
  | some b =>
   rw[e]at hP;cases hP
   refine ad9 ?_
   have:bs.getD i false=b:=by rw[ab5,e];rfl
   rw[<- this];exact hQ
 ·have:((List.range (bs.map Value.bool).toArray.size).any fun i=>bs.getD i false)=bs.any id:=by
   simp only[aa2,ab6]
   rw[ah0,ah6,ah6]
   constructor
   ·rintro⟨i,hi,h⟩
    have hi:=af6.mp hi
    rw[ab5,aa3 hi]at h
    exact⟨_,ak0 hi,h⟩
   ·rintro⟨x,hx,h⟩
    obtain⟨i,hi,rfl⟩:=List.mem_iff_getElem.mp hx
    exact⟨i,af6.mpr hi,by rw[ab5,aa3 hi];exact h⟩
  rw[this]
  refine⟨.bl _,H,I.kept (fun b o e=>hk b o (fun hm=>?_) (ZM _ e)),rfl,q⟩
  have hb:b=s.heap.objs.size:=by simpa using hm
  subst hb
  exact absurd (ZS e) (ac7 _)
theorem A0:dN X (.builtin "len") (fun xs H Q => ∃(p:Addr) (S:Int->Bool) (n:Nat),xs=[.ref p]/\H p=some (.set S n)/\Q (.int n) H):=by
 intro pins s σ H xs us Q I r h
 obtain⟨p,S,n,rfl,hp,q⟩:=h
 obtain⟨u,rfl,rx⟩:=dX r
 cases rx
 obtain⟨o,es,ep,t,h1,h2,h3,_,_,h4,h5,rfl⟩:=(show s.heap.SetOf (intKind X.prog X.w) p S n from I.hok p _ hp)
 exact call_len_set h1 h2 h3 h5 (by unfold scanBound at h4;omega) ⟨.int _,H,I.tok _,⟨_,rfl⟩,q⟩
def ef(f:Str)(B:List D->R1):Prop:=f∈iu/\f ≠ "__name__" /\ (f==("__debug__" : Str))=false/\(B []=.st)/\∀(X:Cx) (ds:List D) (z:D) (l:Nat) (o:List Prop),X.calm=true->B ds=.ok (z,l) o->aP o ->
 ((∃id,bootBuiltins f=some (.builtin id)/\iO X (.builtin id) ds z l)\/∃T,bootBuiltins f=some (.type T)/\iO X (.type T) ds z l)
theorem He:ef "len" CU:=by
 refine⟨by decide +kernel,by decide +kernel,by decide +kernel,rfl,fun X ds z l o hc h _=>.inl ⟨"len", by decide +kernel,?_⟩⟩
 unfold CU at h
 split at h
 ·cases h
  refine⟨_,A0,fun ow H0 H2 vs P Q o s rx q=>?_⟩
  obtain⟨v,rfl,ry⟩:=rx.only
  rw[ao]at ry
  obtain⟨a,S,rfl,ha⟩:=ry
  exact⟨a,S,_,rfl,ha,q _ _ (aJ.refl _) (by rw[ao])⟩
 ·split at h
  ·rename_i m e
   cases h
   rcases gP e with rfl|rfl
   ·exact Ad.1
   ·exact Ad.2
  ·cases h
 ·cases h
theorem Bb:ef "tuple" vy:=by
 refine⟨by decide +kernel,by decide +kernel,by decide +kernel,rfl,fun X ds z l o hc h hp=>.inr ⟨"tuple", by decide +kernel,?_⟩⟩
 unfold vy at h
 split at h
 ·split at h
  ·rename_i m e
   cases h
   have c:=hp.1
   rcases gP e with rfl|rfl
   ·exact(tW c).2
   ·exact(tW c).1
  ·cases h
 ·cases h
theorem CS:ef "list" tH:=by
 refine⟨by decide +kernel,by decide +kernel,by decide +kernel,rfl,fun X ds z l o hc h hp=>.inr ⟨"list", by decide +kernel,?_⟩⟩
 unfold tH at h
 split at h
 ·split at h
  ·rename_i m e
   cases h
   have c:=hp.1
   rcases gP e with rfl|rfl
   ·exact(wP c).2
   ·exact(wP c).1
  ·cases h
 ·cases h
theorem Hj:ef "abs" C3:=by
 refine⟨by decide +kernel,by decide +kernel,by decide +kernel,rfl,fun X ds z l o hc h _=>.inl ⟨"abs", by decide +kernel,?_⟩⟩
 unfold C3 at h
 split at h
 ·cases h;exact Ni
 ·cases h
theorem Hi:ef "all" rh:=by
 refine⟨by decide +kernel,by decide +kernel,by decide +kernel,rfl,fun X ds z l o hc h _=>.inl ⟨"all", by decide +kernel,?_⟩⟩
 unfold rh at h
 split at h
 ·split at h
  ·rename_i bs e
   cases h
   cases kU e
   refine⟨_,A7 hc,fun ow H0 H2 vs P Q o s rx q=>?_⟩
   obtain⟨v,rfl,ry⟩:=rx.only
   obtain⟨a,ws,rfl,hs,rl⟩:=hW ry
   exact⟨a,bs,rfl,by rw[<- rl.mapBl];exact hs,q _ _ (aJ.refl _) (by rw[ao])⟩
  ·cases h
 ·cases h
theorem Hh:ef "any" C2:=by
 refine⟨by decide +kernel,by decide +kernel,by decide +kernel,rfl,fun X ds z l o hc h _=>.inl ⟨"any", by decide +kernel,?_⟩⟩
 unfold C2 at h
 split at h
 ·split at h
  ·rename_i ns e
   cases h
   cases jj e
   refine⟨_,A6 hc,fun ow H0 H2 vs P Q o s rx q=>?_⟩
   obtain⟨v,rfl,ry⟩:=rx.only
   obtain⟨a,ws,rfl,hs,rl⟩:=hW ry
   exact⟨a,ns,rfl,by rw[<- rl.mapInt];exact hs,q _ _ (aJ.refl _) (by rw[ao])⟩
  ·split at h
   ·rename_i bs e
    cases h
    cases kU e
    refine⟨_,A5 hc,fun ow H0 H2 vs P Q o s rx q=>?_⟩
    obtain⟨v,rfl,ry⟩:=rx.only
    obtain⟨a,ws,rfl,hs,rl⟩:=hW ry
    exact⟨a,bs,rfl,by rw[<- rl.mapBl];exact hs,q _ _ (aJ.refl _) (by rw[ao])⟩
   ·cases h
 ·cases h
theorem Hb:ef "sum" CO:=by
 refine⟨by decide +kernel,by decide +kernel,by decide +kernel,rfl,fun X ds z l o hc h _=>.inl ⟨"sum", by decide +kernel,?_⟩⟩
 unfold CO at h
 split at h
 ·split at h
  ·rename_i bs e
   cases h
   cases jj e
   refine⟨_,AY hc,fun ow H0 H2 vs P Q o s rx q=>?_⟩
   obtain⟨v,rfl,ry⟩:=rx.only
   obtain⟨a,ws,rfl,hs,rl⟩:=hW ry
   exact⟨a,bs,rfl,by rw[<- rl.mapInt];exact hs,q _ _ (aJ.refl _) (by rw[ao])⟩
  ·cases h
 ·cases h
theorem Gx(b:Bool):(if b=true then(1:Int)else 0)=cond b 1 0:=by cases b<;>rfl
theorem Hg:ef "int" CY:=by
 refine⟨by decide +kernel,by decide +kernel,by decide +kernel,rfl,fun X ds z l o hc h hp=>.inr ⟨"int", by decide +kernel,?_⟩⟩
 unfold CY at h
 split at h
 ·cases h
  refine⟨_,sh,fun ow H0 H2 vs P Q o s rx q=>?_⟩
  obtain⟨v,rfl,ry⟩:=rx.only
  rw[ao]at ry;subst ry
  exact .inl ⟨_,rfl,q _ _ (aJ.refl _) (by rw[ao])⟩
 ·cases h
  refine⟨_,sh,fun ow H0 H2 vs P Q o s rx q=>?_⟩
  obtain⟨v,rfl,ry⟩:=rx.only
  rw[ao]at ry;subst ry
  exact .inr ⟨_,rfl,q _ _ (aJ.refl _) (by rw[ao,Gx])⟩
 ·cases h
theorem Hc:ef "str" CP:=by
 refine⟨by decide +kernel,by decide +kernel,by decide +kernel,rfl,fun X ds z l o hc h hp=>.inr ⟨"str", by decide +kernel,?_⟩⟩
 unfold CP at h
 split at h
 ·rename_i i
  cases h
  refine⟨_,vq,fun ow H0 H2 vs P Q o s rx q=>?_⟩
  obtain⟨v,rfl,ry⟩:=rx.only
  rw[ao]at ry;subst ry
  refine⟨_,rfl,?_,q _ _ (aJ.refl _) (by rw[ao])⟩
  rcases ag8 i.natAbs with z|z
  ·rw[z];decide
  ·exact ZW ((Nat.log2_lt (ag2 z)).mpr hp.1) (by decide)
 ·cases h
theorem Hf:ef "isinstance" CV:=by
 refine⟨by decide +kernel,by decide +kernel,by decide +kernel,rfl,fun X ds z l o hc h _=>.inl ⟨"isinstance", by decide +kernel,?_⟩⟩
 unfold CV at h
 split at h
 ·rename_i m ns es n
  split at h
  ·rename_i hmn
   subst hmn
   cases h
   have cr:dN X (.builtin "isinstance") (fun xs H Q => ∃a C dx fs,xs=[.ref a,.ref C]/\H a=some (.ins C dx fs)/\fE X.K C/\tM X.K C/\Q (.bl true) H):=by
    intro pins s σ H xs us Q I r hh
    obtain⟨a,C,dx,fs,rfl,ea,hc,ho,q⟩:=hh
    obtain⟨u,u2,rfl,ru,ru2⟩:=ou r
    cases (show u2=Value.ref C from ru2)
    exact rT I ru (.ins ea hc ho.ha ho.hn ho.ht ho.hm) (wR _) fun tk=>⟨.bl true,H,I.tok tk,rfl,q⟩
   refine⟨_,cr,fun ow H0 H2 vs P Q o s rx q=>?_⟩
   rw[ar]at rx
   obtain⟨v,r,rfl,r1,r2⟩:=rx
   obtain⟨w,rfl,r3⟩:=r2.only
   rw[ao]at r1
   rw[ao]at r3
   obtain⟨_,_,a,C,dx,vs,rfl,h1,h2,h3,_⟩:=r1
   obtain⟨C',o',rfl,h4,_,_,h5,_⟩:=r3
   rw[h1]at h4;cases h4
   exact⟨a,C,dx,_,rfl,h3,h2,h5,q _ _ (aJ.refl _) (by rw[ao])⟩
  ·split at h
   ·rename_i hmn
    cases h
    have cr:dN X (.builtin "isinstance") (fun xs H Q => ∃a C C' dx fs,xs=[.ref a,.ref C']/\H a=some (.ins C dx fs)/\fE X.K C/\tM X.K C/\W.kitOne X.K (.ref C) (.ref C')=some (tX m n)/\Q (.bl (tX m n)) H):=by
     intro pins s σ H xs us Q I r hh
     obtain⟨a,C,C',dx,fs,rfl,ea,hc,ho,hk,q⟩:=hh
     obtain⟨u,u2,rfl,ru,ru2⟩:=ou r
     cases (show u2=Value.ref C' from ru2)
     exact rT I ru (.ins ea hc ho.ha ho.hn ho.ht ho.hm) hk fun tk=>⟨.bl (tX m n),H,I.tok tk,rfl,q⟩
    refine⟨_,cr,fun ow H0 H2 vs P Q o s rx q=>?_⟩
    rw[ar]at rx
    obtain⟨v,r,rfl,r1,r2⟩:=rx
    obtain⟨w,rfl,r3⟩:=r2.only
    rw[ao]at r1
    rw[ao]at r3
    obtain⟨_,_,a,C,dx,vs,rfl,h1,h2,h3,_⟩:=r1
    obtain⟨C',o',rfl,_,_,_,_,h5⟩:=r3
    obtain⟨h6,h7⟩:=h5.all m hmn C h1
    exact⟨a,C,C',dx,_,rfl,h3,h2,h6,h7,q _ _ (aJ.refl _) (by rw[ao])⟩
   ·cases h
 ·rename_i x T
  split at h
  ·rename_i hT
   split at h
   ·rename_i b hb
    cases h
    obtain⟨h1,h2⟩:=KN hb hT
    have cr:dN X (.builtin "isinstance") (fun xs H Q => ∃v P,xs=[v,.ty T]/\ao X.K H P x v/\Q (.bl b) H):=by
     intro pins s σ H xs us Q I r hh
     obtain⟨v,P,rfl,rp,q⟩:=hh
     obtain⟨u,u2,rfl,ru,ru2⟩:=ou r
     cases (show u2=Value.type T from ru2)
     exact KM h1 h2 I rp ru fun tk=>⟨.bl b,H,I.tok tk,rfl,q⟩
    refine⟨_,cr,fun ow H0 H2 vs P Q o s rx q=>?_⟩
    rw[ar]at rx
    obtain⟨v,r,rfl,r1,r2⟩:=rx
    obtain⟨w,rfl,r3⟩:=r2.only
    rw[ao]at r3;subst r3
    exact⟨v,P,rfl,r1,q _ _ (aJ.refl _) (by rw[ao])⟩
   ·cases h
  ·cases h
 ·cases h
def lg(K:W.Frag)(F:List D->Rs D):Sp:=fun vs H Q _ => ∃ds r l,ar K H (fun _ _=>True) ds vs/\F ds=.ok r l/\aP l/\∀v H',aJ H H'->ao K H' (fun a b=>b=true/\H a=none) r v->Q v H'
def Es(X:Cx)(g:Str)(F:List D->Rs D):Prop:=∃k f fd ps,cu X.prog X.w X.K X.mg X.base eO k f fd ps (lg X.K F)/\cA k X.A/\X.mg g=some (.ref f)/\W.keepIn X.K (.ref f)=true/\dk X.K fd ps []/\(g==("__debug__" : Str))=false
def rL(K:W.Frag)(n:Str)(F:List D->Rs D):Sp:=fun vs H Q _ => ∃x ws C dx ds r l,vs=.ref x::ws/\H x=some (.ins C dx [])/\W.nsIn K mainGlobals n=some (some (.ref C))/\fE K C/\ar K H (fun _ _=>True) ds ws/\F ds=.ok r l/\aP l/\r.lless=true /\
 ∀H',(∀a o,a≠x->H a=some o->H' a=some o)->ao K H' (fun _ _=>True) r (.ref x)->Q .non H'
def Nq(X:Cx)(g:Str)(F:List D->Rs D):Prop:=∃k C f fd ps,(∀ds r l,F ds=.ok r l->r.lless=true)/\Mk X.K C f/\cu X.prog X.w X.K X.mg X.base eO k f fd ps (rL X.K g F)/\cA (k+1) X.A/\X.mg g=some (.ref C)/\W.nsIn X.K mainGlobals g=some (some (.ref C))/\fE X.K C/\dk X.K fd ps []/\(g==("__debug__" : Str))=false
def Zq(X:Cx)(g:Str)(F:List D->Rs D):Prop:=Es X g F\/Nq X g F
def Nr(X:Cx)(n m:Str)(F:List D->Rs D):Prop:=∃k C f fd ps,W.nsIn X.K mainGlobals n=some (some (.ref C))/\fE X.K C/\rF X.K C m f/\cu X.prog X.w X.K X.mg X.base eO k f fd ps (lg X.K F)/\cA k X.A/\dk X.K fd ps []
def qc(f:Str)(B:List D->Nat->R1):Prop:=f∈iu/\∀(X:Cx) (ρ:am) (p pos:Pos) (args:List Expr) (ds:List D) (k:Nat) (d:D) (j:Nat) (l:List D) (tg:Expr) (o:List Prop),X.calm=true->Gl X f->X.mg f=none->AD X ρ args ds k ->
 (∀e∈args,∀x p,e ≠ .Starred x p)->args.length=ds.length->B ds k=.ok (d,j) o->aP o->items d=some l->fF (.Call (.Name f p) args [] pos) tg=true->IE X ρ tg (.Call (.Name f p) args [] pos) l j
def nh(m:Str)(M:D->List D->R1):Prop:=∀(X:Cx) (ρ:am) (a:Expr) (args:List Expr) (ap cp:Pos) (x:D) (k:Nat) (ds:List D) (j:Nat) (z:D) (l:Nat) (o:List Prop),X.calm=true->X.A.units+70<cLine->ED X ρ a x k->AD X ρ args ds j ->
 (∀e∈args,∀x p,e ≠ .Starred x p)->args.length=ds.length->(ap.endLine==cp.line)=true->gy a=true->M x ds=.ok (z,l) o->aP o->ED X ρ (.Call (.Attribute a m ap) args [] cp) z l
def pW(m:Str)(M:List D->List D->Nat->Rs (List D)):Prop:=∀X:Cx,X.calm=true->∃(id:String) (r:V->List V->Hp->VK->Prop),Slot "list" m id/\typeOf (.builtin id)=pure (.type "method_descriptor")/\Qk X id r /\
 ∀(ow:Ow) (H0 H:Hp) (l ds l':List D) (j:Nat) (o:List Prop) (a:Addr) (vs ws:List V),M l ds j=.ok l' o->aP o->ds.length<29/\(∀(P:bO) (Q:VK),(∀b c,Kp ow H0 0 b c->P b c)->fT ow H0->aJ H0 H->H a=some (.lst vs)->ar X.K H P l vs->ar X.K H (Kp ow H0 j) ds ws ->
  (∀vs' w,ar X.K H P l' vs'->Q w (bv H a (.lst vs')))->r (.ref a) ws H Q)
def Zy(X:Cx)(ow:Ow)(ρ:am)(o:Option Int):TO:=fun σ H Q=>bm X ow H σ ρ/\∀H',aJ H H'->Q o H'
def OD(X:Cx)(ρ:am)(e:Option Expr)(o:Option Int):Prop:=∀ow,PO X e (Zy X ow ρ o)
def pS(F:D->Option Int->Option Int->R1):Prop:=∀(X:Cx) (ρ:am) (a:Expr) (lo hi:Option Expr) (p2 pos:Pos) (x z:D) (l h:Option Int) (k j:Nat) (o:List Prop),ED X ρ a x k->OD X ρ lo l->OD X ρ hi h->F x l h=.ok (z,j) o->aP o->ED X ρ (.Subscript a (.Slice lo hi none p2) pos) z j
structure bz(Φ:Fx)(X:Cx)(sc:Scope):Prop where
 calm:X.calm=true
 nd:X.N.Nodup
 gl:∀x,sc.names.lookup x=some .globalImplicit->Gl X x
 kc:∀x,(sc.names.lookup x=some .cell\/sc.names.lookup x=some .free)->X.env.kindOf x=some .cell\/X.env.kindOf x=some .free
 lc:∀x,sc.names.lookup x=some .local->X.env.scope.names.lookup x=some .local
 cc:∀x,sc.names.lookup x=some .cell->X.env.scope.names.lookup x=some .cell
 fn:∀g F,Φ.fn g=some F->Zq X g F
 con:∀x d,Φ.con x=some d->∃v u,X.mg x=some u/\bo v u/\∀H P,ao X.K H P d v
 blt:∀f B,Φ.blt f=some B->ef f B
 itr:∀f B,Φ.itr f=some B->qc f B
 mth:∀m M,Φ.mth m=some M->nh m M
 mtt:∀m M,Φ.mtt m=some M->pW m M
 slf:pS Φ.slf
 fld:∀n f,Φ.fld n f=true->∀C,W.nsIn X.K mainGlobals n=some (some (.ref C))->bj X.K C f
 omt:∀n m F,Φ.omt n m=some F->Nr X n m F
 bl:∀f∈iu,X.mg f=none
 room:X.A.units+70<cLine
 ns:∀x,dE sc x=true->x∈X.N
 ft:∀x,sc.names.lookup x=some .cell->X.fn x=true
variable{X:Cx}
theorem eY(h:fR x=true):(x==("__debug__" : Str))=false/\(x==("__classdict__" : Str))=false:=by
 unfold fR at h
 rw[ZZ]at h
 exact⟨af9 h.1,af9 h.2⟩
theorem GS{o:Bool}(h:ρ x=some (d,o))(hx:fR x=true):ED X ρ (.Name x pos) d (kn d (cond o 2 1)):=by
 refine ED.kn fun ow pins s σ H Q I ⟨E,q⟩=>?_
 obtain⟨i,v,e1,e2,e3,e4⟩:=E.get x d o h
 refine jP (i:=i) e1 e2 (eY hx).1 (eY hx).2 pins s σ H Q I ⟨v,e3,q v H (aJ.refl _) (e4.imp fun a b p=>?_)⟩
 cases o with
 | true=>exact⟨p.1,.inl (by rw[p.2];exact(fun z=>nomatch z))⟩
 | false=>exact p
theorem Ln(G:bz Φ X sc)(h:Φ.con x=some d)(hg:sc.names.lookup x=some .globalImplicit)(hx:fR x=true):ED X ρ (.Name x pos) d 0:=by
 obtain⟨v,u,h1,h2,h3⟩:=G.con x d h
 exact fun ow=>bS (qy (G.gl x hg) h1 h2 (eY hx).1) fun σ H Q ⟨E,q⟩=>q v H (aJ.refl _) (h3 H _)
theorem EI(h:xn x=some T):bootBuiltins x=some (.type T)/\x ≠ "__name__" /\ (x==("__debug__" : Str))=false/\x∈iu:=by
 unfold xn at h
 split at h
 ·rename_i e;subst e;cases h;exact⟨by decide +kernel,by decide +kernel,by decide +kernel,by decide +kernel⟩
 split at h
 ·rename_i e;subst e;cases h;exact⟨by decide +kernel,by decide +kernel,by decide +kernel,by decide +kernel⟩
 split at h
 ·rename_i e;subst e;cases h;exact⟨by decide +kernel,by decide +kernel,by decide +kernel,by decide +kernel⟩
 split at h
 ·rename_i e;subst e;cases h;exact⟨by decide +kernel,by decide +kernel,by decide +kernel,by decide +kernel⟩
 split at h
 ·rename_i e;subst e;cases h;exact⟨by decide +kernel,by decide +kernel,by decide +kernel,by decide +kernel⟩
 ·cases h
theorem Lk(G:bz Φ X sc)(h:xn x=some T)(hg:sc.names.lookup x=some .globalImplicit):ED X ρ (.Name x pos) (.typ T) 0:=by
 obtain⟨h1,h2,h3,h4⟩:=EI h
 exact fun ow=>bS (F0 (v:=.ty T) (G.gl x hg) (G.bl x h4) h1 rfl h2 h3) fun σ H Q ⟨E,q⟩=>q _ H (aJ.refl _) (by rw[ao])
theorem AE{c:Const}(h:Ef c=some d):ED X ρ (.Constant c n pos) d 0:=by
 intro ow
 unfold Ef at h
 split at h
 ·cases h;exact bS Jt fun σ H Q ⟨E,q⟩=>q _ H (aJ.refl _) (by rw[ao])
 ·cases h;exact bS N6 fun σ H Q ⟨E,q⟩=>q _ H (aJ.refl _) (by rw[ao])
 ·cases h;exact bS Jv fun σ H Q ⟨E,q⟩=>q _ H (aJ.refl _) (by rw[ao])
 ·cases h;exact bS Jq fun σ H Q ⟨E,q⟩=>q _ H (aJ.refl _) (by rw[ao])
 ·cases h
theorem AF{b:Expr}{op:Operator}{x:D}{l:Nat}(ha:ED X ρ a x k)(hb:ED X ρ b y j)(h:mi op x y k j=.ok (z,l) o)(hp:aP o):ED X ρ (.BinOp a op b pos) z l:=by
 obtain⟨r,h1,h2⟩:=MS (X:=X) h hp
 refine fun ow=>bS (N5 h1 (ha ow) (hb ow)) fun σ H Q ⟨E,q⟩=>⟨E,fun v H1 s1 r1=>⟨E.same s1,fun u H2 s2 r2=>?_⟩⟩
 exact h2 ow H H2 v u Q E.own (s1.trans s2) (r1.same s2) (r2.imp (Kp.back s1 j)) fun w H' s3 r3=>q w H' ((s1.trans s2).trans s3) r3
theorem Pg{op:UnaryOp}{x:D}(ha:ED X ρ a x k)(h:zd op x=some z):ED X ρ (.UnaryOp op a pos) z 0:=by
 unfold zd at h
 split at h
 ·cases h
  refine fun ow=>bS (N3 HA (ha ow)) fun σ H Q ⟨E,q⟩=>⟨E,fun v H1 s1 r1=>?_⟩
  rw[ao]at r1;subst r1
  exact⟨_,rfl,q _ H1 s1 (by rw[ao])⟩
 ·cases h
  refine fun ow=>bS (Js (ha ow)) fun σ H Q ⟨E,q⟩=>⟨E,fun v H1 s1 r1=>?_⟩
  rw[ao]at r1;subst r1
  exact⟨_,rfl,q _ H1 s1 (by rw[ao])⟩
 ·cases h
theorem Lo{b:Expr}{x:D}(hu:X.A.units+70<cLine)(ha:ED X ρ a x k)(hb:ED X ρ b y j)(h:fS op x y=.ok r o)(hp:aP o)(hm:behindInMarks op b=false):ED X ρ (.Compare a [op] [b] pos) (.bl r) 0:=by
 have c:=km hu h hp
 intro ow pins s σ H Q I ⟨E,q⟩
 refine wpAny_Compare1 (Qh (ha ow) (hb ow) I (R:=fun v u H2=>aJ H H2/\ao X.K H2 (fun _ _=>True) x v/\ao X.K H2 (fun _ _=>True) y u) ⟨E,fun v H1 s1 r1=>⟨E.same s1,fun u H2 s2 r2=>⟨s1.trans s2,(r1.imp fun _ _ _=>True.intro).same s2,r2.imp fun _ _ _=>True.intro⟩⟩⟩ fun v u s2 x y H2 I2 rx ry ⟨sm,r1,r2⟩=>?_) hm
 exact c _ _ pins s2 σ H2 x y v u Q I2 rx ry ⟨r1,r2,q _ H2 sm (by rw[ao])⟩
theorem G5{x:D}{r:D×Nat}{l:List Prop}(h:LY op op2 x y z=.ok r l):∃a b c r1 r2,x=.int a/\y=.int b/\z=.int c/\gW op a b=some r1/\gW op2 b c=some r2/\r=(.bl (r1&&r2),0):=by
 unfold LY at h
 split at h
 ·split at h
  ·rename_i h1 h2;cases h;exact⟨_,_,_,_,_,rfl,rfl,rfl,h1,h2,rfl⟩
  ·cases h
 ·cases h
theorem pw{a b:Int}(h:gW op a b=some r):fS op (.int a) (.int b)=.ok r []:=by
 unfold gW at h
 split at h<;>first|(cases h;rfl)|cases h
theorem CC{b:Expr}{x y z:Int}(hu:X.A.units+70<cLine)(ha:ED X ρ a (.int x) k)(hb:ED X ρ b (.int y) j)(hc:ED X ρ c (.int z) i)(h:gW op x y=some r)(h2:gW op2 y z=some r2)(hm:behindInMarks op2 c=false):ED X ρ (.Compare a [op,op2] [b,c] pos) (.bl (r&&r2)) 0:=by
 have c1:=km (X:=X) hu (pw h) (show aP []from True.intro)
 have c2:=km (X:=X) hu (pw h2) (show aP []from True.intro)
 refine fun ow=>bS (BV (c1 (fun _ _=>True) (fun _ _=>True)) (c2 (fun _ _=>True) (fun _ _=>True)) (ha ow) (hb ow) (hc ow) hm) fun σ H Q ⟨E,q⟩=>⟨E,fun v H1 s1 r1=>⟨E.same s1,fun u H2 s2 r2=>?_⟩⟩
 rw[ao]at r1 r2
 subst r1 r2
 refine⟨by rw[ao],by rw[ao],r,rfl,?_⟩
 cases r with
 | false=>exact q _ H2 (s1.trans s2) (by rw[ao];rfl)
 | true =>
  rw[if_pos rfl]
  refine⟨(E.same s1).same s2,fun w H3 s3 r3=>?_⟩
  rw[ao]at r3
  subst r3
  exact⟨by rw[ao],by rw[ao],q _ H3 ((s1.trans s2).trans s3) (by rw[ao];rfl)⟩
theorem Ny(h:ED X ρ e (.bl b) k)(he:∀whole,isTrue e X.env whole=(do let v <- whole;standAt e.pos;holding [v] (truthy v))):TD X ρ e b :=
 fun ow=>tL (IT (h ow) he) fun σ H Q ⟨E,q⟩=>⟨E,fun v H1 s1 r1=>by rw[ao]at r1;exact⟨b,r1,q H1 s1⟩⟩
theorem Nh:AD X ρ [] [] 0:=fun ow=>Em JA fun σ H Q ⟨E,q⟩=>q [] H (aJ.refl _) ar.nil
theorem Ho(h1:ED X ρ e d k)(h2:AD X ρ es ds j)(hs:starEach (e::es) X.env=(false,eval e X.env)::starEach es X.env):AD X ρ (e::es) (d::ds) (kj k j) :=
 fun ow=>Em (qz (h1 ow) (h2 ow) hs) fun σ H Q ⟨E,q⟩=>⟨E,fun v H1 s1 r1=>⟨E.same s1,fun vs H2 s2 r2=>q _ H2 (s1.trans s2) (ar.cons ((r1.imp (Kp.joinL E.own k j)).same s2) (r2.imp fun a b p=>Kp.joinR E.own k j a b (Kp.back s1 j a b p)))⟩⟩
theorem CA(h:AD X ρ es ds k)(hl:ds.length<=dw):ED X ρ (.Tuple es n pos) (.tup ds) (kn (.tup ds) k):=by
 refine ED.kn fun ow=>bS (Jp (h ow)) fun σ H Q ⟨E,q⟩=>⟨E,fun vs H1 s1 r1=>⟨by rw[<- r1.length];exact ZN hl iX,fun p hp=>?_⟩⟩
 have sm:=dR (o:=HO.tup vs) hp
 refine q _ _ (s1.trans sm) ?_
 rw[ao]
 exact⟨p,vs,rfl,dh.of bg,r1.same sm⟩
theorem GV(h:AD X ρ es ds k)(hk:k<=1)(hl:ds.length<=dw):ED X ρ (.List es pos) (.lst ds) k:=by
 refine fun ow=>bS (Ju (h ow)) fun σ H Q ⟨E,q⟩=>⟨E,fun vs H1 s1 r1=>⟨by rw[<- r1.length];exact ZN hl iX,fun p hp=>?_⟩⟩
 have sm:=dR (o:=HO.lst vs) hp
 refine q _ _ (s1.trans sm) ?_
 rw[ao]
 exact⟨p,vs,true,rfl,bg,Ae E.own (s1.free hp) hk,r1.same sm⟩
theorem Ed{b:Expr}(hc:TD X ρ c t)(h:if t=true then ED X ρ a d k else ED X ρ b d k):ED X ρ (.IfExp c a b pos) d k:=by
 cases t with
 | true =>
  intro ow pins s σ H Q I ⟨E,q⟩
  refine PyProof.Rows.IfExp_ (be (hc ow pins s σ H (fun t H1=>t=true/\aJ H H1) I ⟨E,fun H1 s1=>⟨rfl,s1⟩⟩) fun t s1 ⟨H1,I1,e1,s1'⟩=>?_)
  subst e1
  exact h ow pins s1 σ H1 Q I1 ⟨E.same s1',fun v H2 s2 r2=>q v H2 (s1'.trans s2) (r2.imp (Kp.back s1' k))⟩
 | false =>
  intro ow pins s σ H Q I ⟨E,q⟩
  refine PyProof.Rows.IfExp_ (be (hc ow pins s σ H (fun t H1=>t=false/\aJ H H1) I ⟨E,fun H1 s1=>⟨rfl,s1⟩⟩) fun t s1 ⟨H1,I1,e1,s1'⟩=>?_)
  subst e1
  exact h ow pins s1 σ H1 Q I1 ⟨E.same s1',fun v H2 s2 r2=>q v H2 (s1'.trans s2) (r2.imp (Kp.back s1' k))⟩
variable{X:Cx}
theorem ar.atI{P:bO}{i:Int}(h:ar K H P l vs)(e:L2.atI l i=some d):∃v,L2.atI vs i=some v/\ao K H P d v:=by
 unfold L2.atI at e⊢
 rw[<- h.length]
 cases q:ixN l.length i with
 | none=>rw[q]at e;cases e
 | some j=>rw[q]at e;exact h.get e
theorem Pi{b:Expr}{x:D}{i:Int}{l:Nat}(ha:ED X ρ a x k)(hb:ED X ρ b (.int i) j)(hs:gp b)(h:uN x i k=.ok (z,l) o):ED X ρ (.Subscript a b pos) z l:=by
 unfold uN at h
 split at h
 ·rename_i m e0
  split at h
  ·rename_i d e
   unfold mk at h
   cases h
   rcases gP e0 with rfl|rfl
   ·refine ED.kn fun ow=>bS (xP KL (ha ow) (hb ow) hs) fun σ H Q ⟨E,q⟩=>⟨E,fun v H1 s1 r1=>⟨E.same s1,fun u H2 s2 r2=>?_⟩⟩
    obtain⟨p,vs,rfl,hq,rl⟩:=fG (r1.same s2)
    rw[ao]at r2;subst r2
    obtain⟨w,h1,h2⟩:=rl.atI e
    exact⟨p,vs,i,w,rfl,rfl,hq,h1,q w H2 (s1.trans s2) h2⟩
   ·refine ED.kn fun ow=>bS (xP Gw (ha ow) (hb ow) hs) fun σ H Q ⟨E,q⟩=>⟨E,fun v H1 s1 r1=>⟨E.same s1,fun u H2 s2 r2=>?_⟩⟩
    obtain⟨p,vs,rfl,hq,rl⟩:=hW (r1.same s2)
    rw[ao]at r2;subst r2
    obtain⟨w,h1,h2⟩:=rl.atI e
    exact⟨p,vs,i,w,rfl,rfl,hq,h1,q w H2 (s1.trans s2) h2⟩
  ·cases h
 ·cases h
def rIxD:R2:=fun x y H Q => ∃p kvs k v,x=.ref p/\y=kV k/\H p=some (.dK kvs)/\nI kvs k=some v/\Q v H
theorem Ll{b:Expr}{p q r:D×Nat}(ha:ED X ρ a p.1 p.2)(hb:ED X ρ b q.1 q.2)(hs:gp b)(h:nJ p q=.ok r o):ED X ρ (.Subscript a b pos) r.1 r.2:=by
 obtain⟨z,k⟩:=p
 unfold nJ at h
 split at h
 ·cases h
 ·unfold kF at h
  split at h
  ·rename_i j hj
   rw[hj]at hb
   exact Pi ha hb hs h
  ·cases h
theorem El{e:Option Expr}{t t':TO}(h:PO X e t)(i:∀σ H Q,t' σ H Q->t σ H Q):PO X e t':=fun pins s σ H Q I q=>h pins s σ H Q I (i σ H Q q)
theorem Gd:OD X ρ none none:=fun ow=>El FR fun σ H Q ⟨E,q⟩=>q H (aJ.refl _)
theorem Gc{i:Int}(h:ED X ρ e (.int i) k):OD X ρ (some e) (some i):=fun ow=>El (FQ (h ow)) fun σ H Q ⟨E,q⟩=>⟨E,fun v H1 s1 r1=>by rw[ao]at r1;exact⟨i,r1,q H1 s1⟩⟩
theorem ar.cut{P:bO}{lo hi:Option Int}(h:ar K H P l vs):ar K H P (kT l lo hi) (jC vs lo hi):=by
 unfold kT jC
 rw[<- h.length]
 exact(h.drop _).take _
theorem jz:∀{l:List D} {n:Nat},aC l=true->aC (l.take n)=true
 | [],n,h=>by simp[aC]
 | d::l,0,h=>by simp[aC]
 | d::l,n+1,h=>by
  rw[aC,ZZ]at h
  rw[List.take_succ_cons,aC,ZZ];exact⟨h.1,jz h.2⟩
theorem jA:∀{l:List D} {n:Nat},aC l=true->aC (l.drop n)=true
 | [],n,h=>by simp[aC]
 | d::l,0,h=>h
 | d::l,n+1,h=>by
  rw[aC,ZZ]at h
  exact jA (n:=n) h.2
theorem CB{x:D}{l:Option Int}(ha:ED X ρ a x k)(hl:OD X ρ lo l)(hh:OD X ρ hi h)(e:t9 x l h=.ok (z,j) o)(hp:aP o):ED X ρ (.Subscript a (.Slice lo hi none p2) pos) z j:=by
 unfold t9 at e
 split at e
 ·rename_i m
  ·cases e
   have c:aC m=true /\ ¬ (HT.sIx m.length 0 l=0/\HT.sIx m.length m.length h=m.length):=⟨hp.1,by have hx:=hp.2.1;unfold LI at hx;intro z;rw[ad2 z.1,ad2 z.2]at hx;cases hx⟩
   refine fun ow=>bS (nO Ib (ha ow) (hl ow) (hh ow)) fun σ H Q ⟨E,q⟩=>⟨E,fun v H1 s1 r1=>⟨E.same s1,fun H2 s2=>⟨(E.same s1).same s2,fun H3 s3=>?_⟩⟩⟩
   have s13:=s2.trans s3
   obtain⟨p,vs,rfl,hq,rl⟩:=fG (r1.same s13)
   refine⟨p,vs,rfl,hq,by rw[<- rl.length];exact c.2,fun p' hp'=>?_⟩
   have sm:=dR (o:=HO.tup (jC vs l h)) hp'
   refine q _ _ ((s1.trans s13).trans sm) ?_
   rw[ao]
   exact⟨p',_,rfl,dh.of bg,ar.flat _ (by unfold kT;exact jz (jA c.1)) (rl.cut.same sm)⟩
 ·rename_i m
  ·cases e
   have c:aC m=true:=hp.1
   refine fun ow=>bS (nO Fw (ha ow) (hl ow) (hh ow)) fun σ H Q ⟨E,q⟩=>⟨E,fun v H1 s1 r1=>⟨E.same s1,fun H2 s2=>⟨(E.same s1).same s2,fun H3 s3=>?_⟩⟩⟩
   have s13:=s2.trans s3
   obtain⟨p,vs,rfl,hq,rl⟩:=hW (r1.same s13)
   refine⟨p,vs,rfl,hq,fun p' hp'=>?_⟩
   have sm:=dR (o:=HO.lst (jC vs l h)) hp'
   refine q _ _ ((s1.trans s13).trans sm) ?_
   rw[ao]
   exact⟨p',_,true,rfl,bg,⟨rfl,(s1.trans s13).free hp'⟩,ar.flat _ (by unfold kT;exact jz (jA c)) (rl.cut.same sm)⟩
 ·cases e
theorem cV{env:Env}{pos:Pos}:∀{es:List Expr},(∀e∈es,∀x p,e ≠ .Starred x p)->(backTo pos (starEach es env)).any (·.1)=false
 | [],_=>rfl
 | e::es,h=>by
  have ih:=cV (env:=env) (es:=es) (pos:=pos) fun x hx=>h x (ZR _ hx)
  have he:=h e ZV
  cases e<;>first|exact absurd rfl (he _ _)|exact ih
theorem bN(h:∀x p,e ≠ .Starred x p):starEach (e::es) env=(false,eval e env)::starEach es env:=by
 cases e<;>first|exact absurd rfl (h _ _)|rfl
theorem CD{r:D}(G:bz Φ X sc)(hf:Es X f F)(hg:sc.names.lookup f=some .globalImplicit)
  (ha:AD X ρ args ds k) (hst:∀e∈args,∀x p,e ≠ .Starred x p) (hnil:args=[]->ds=[]) (h:F ds=.ok r o) (hp:aP o):ED X ρ (.Call (.Name f p) args [] pos) r 0:=by
 obtain⟨n,fa,fd,ps,hF,hr,hm,hk,hb,hd⟩:=hf
 intro ow
 cases args with
 | nil =>
  refine bS (BX hF hr (G.gl f hg) hm hk hb .nil jg hd) fun σ H Q ⟨E,q⟩=>?_
  have hds:=hnil rfl
  subst hds
  exact⟨[],r,o,ar.nil,h,hp,fun v H' s1 r1=>q v H' s1 r1⟩
 | cons e es =>
  refine bS (FZ hF hr (G.gl f hg) hm hk hb .nil jg (ha ow) hd (bN (hst e ZV)) (cV fun x hx=>hst x (ZR _ hx))) fun σ H Q ⟨E,q⟩=>⟨E,fun vs H1 s1 r1=>?_⟩
  refine⟨ds,r,o,by rw[ad1];exact r1.imp fun _ _ _=>True.intro,h,hp,fun v H' s2 r2=>q v H' (s1.trans s2) (r2.imp fun a b p=>⟨p.1,s1.free p.2⟩)⟩
theorem lF{x dx C:Addr}(hx:H x=none)(hd:H dx=none):aJ H (bv (bv H dx (.own x)) x (.ins C dx [])):=fun a o h=>by
 rw[aK (fun z=>by subst z;rw[hx]at h;cases h),aK (fun z=>by subst z;rw[hd]at h;cases h)]
 exact h
theorem GU{r:D}(G:bz Φ X sc)(hf:Nq X f F)(hg:sc.names.lookup f=some .globalImplicit)
  (ha:AD X ρ args ds k) (hst:∀e∈args,∀x p,e ≠ .Starred x p) (hnil:args=[]->ds=[]) (h:F ds=.ok r o) (hp:aP o):ED X ρ (.Call (.Name f p) args [] pos) r 0:=by
 obtain⟨n,C,fa,fd,ps,hfl,hM,hF,hr,hm,hns,hc,hb,hd⟩:=hf
 have hl:=hfl ds r o h
 intro ow
 cases args with
 | nil =>
  refine bS (BU hM hF hr (G.gl f hg) hm hb .nil jg hd) fun σ H Q ⟨E,q⟩=>?_
  have hds:=hnil rfl
  subst hds
  intro x dx hx hdx ne
  refine⟨x,[],C,dx,[],r,o,rfl,bg,hns,hc,ar.nil,h,hp,hl,fun H' kp rr=>⟨rfl,q _ H' (fun a ob ha=>?_) (rr.flat _ hl)⟩⟩
  exact kp a ob (fun z=>by subst z;rw[hx]at ha;cases ha) (lF hx hdx a ob ha)
 | cons e es =>
  refine bS (FY hM hF hr (G.gl f hg) hm hb .nil jg (ha ow) hd (bN (hst e ZV)) (cV fun x hx=>hst x (ZR _ hx))) fun σ H Q ⟨E,q⟩=>⟨E,fun vs H1 s1 r1=>?_⟩
  intro x dx hx hdx ne
  refine⟨x,vs++[],C,dx,ds,r,o,rfl,bg,hns,hc,by rw[ad1];exact(r1.same (lF hx hdx)).imp fun _ _ _=>True.intro,h,hp,hl,fun H' kp rr=>⟨rfl,q _ H' (s1.trans fun a ob ha=>?_) (rr.flat _ hl)⟩⟩
  exact kp a ob (fun z=>by subst z;rw[hx]at ha;cases ha) (lF hx hdx a ob ha)
theorem GY{r:D}(G:bz Φ X sc)(hf:Φ.fn f=some F)(hg:sc.names.lookup f=some .globalImplicit)
  (ha:AD X ρ args ds k) (hst:∀e∈args,∀x p,e ≠ .Starred x p) (hnil:args=[]->ds=[]) (h:F ds=.ok r o) (hp:aP o):ED X ρ (.Call (.Name f p) args [] pos) r 0:=by
 rcases G.fn f F hf with z|z
 ·exact CD G z hg ha hst hnil h hp
 ·exact GU G z hg ha hst hnil h hp
theorem yk{o:Expr}{name:Str}(hb:attributeBase o name env (eval o env)=eval o env)(hf:methodCallForm (args.length+([]:List Keyword).length) (backTo pos (starEach args env)) (backToKw pos (keywordEach [] env))=true)
  (hl:(apos.endLine==pos.line)=true):eval (.Call (.Attribute o name apos) args [] pos) env=(do
   let ov <- eval o env
   standAt apos.atName
   let (f,first) <- holding [ov] (getMethod ov name (do return (<- importBound o env).getD true))
   callWith pos f first (backTo pos (starEach args env)) (backToKw pos (keywordEach [] env))):=by
 show(do
  let ov <- attributeBase o name env (eval o env)
  standAt apos.atName
  methodCall o name apos pos env ov (args.length+([]:List Keyword).length) (backTo pos (starEach args env)) (backToKw pos (keywordEach [] env)))=_
 rw[hb]
 unfold methodCall calleeOf methodCallPos
 rw[hf,hl]
 rfl
theorem base_of{t:Sem Value}(h:gy a=true):attributeBase a m env t=t:=by
 unfold attributeBase
 split
 ·cases h
 ·rfl
theorem jZ(hst:∀e∈args,∀x p,e ≠ .Starred x p)(hn:args.length<29):methodCallForm (args.length+([]:List Keyword).length) (backTo pos (starEach args env)) (backToKw pos (keywordEach [] env))=true:=by
 unfold methodCallForm
 have e1:(backTo pos (starEach args env)).all (fun x => !x.1)=true:=by
  have:=cV (env:=env) (pos:=pos) hst
  rw[ai4]
  intro x hx
  have h2:¬ (backTo pos (starEach args env)).any (·.1)=true:=by rw[this];exact aa8
  cases hb:x.1 with
  | false=>rfl
  | true=>exact absurd (ah6.mpr ⟨x,hx,hb⟩) h2
 rw[e1]
 show(true&&true&&decide (args.length+0+0<30))=true
 simp;omega
theorem tR:ns.contains m=false->(ns.zip vs).lookup m=none:=by
 induction ns generalizing vs with
 | nil=>intro _;rfl
 | cons a ns ih =>
  intro h
  cases vs with
  | nil=>rfl
  | cons v vs =>
   rw[List.contains_cons,Bool.or_eq_false_iff]at h
   show List.lookup m ((a,v)::ns.zip vs)=none
   rw[aa4,h.1]
   exact ih h.2
theorem GT{n:Str}{es:List D}{r:D}(G:bz Φ X sc)(hf:Φ.omt n m=some F)(he:ED X ρ a (.obj n ns es) j)
  (ha:AD X ρ args ds k) (hst:∀e∈args,∀x p,e ≠ .Starred x p) (hlen:args.length=ds.length) (hn:ns.contains m=false) (hb:gy a=true) (hfew:ds.length<29) (hl:(ap.endLine==pos.line)=true) (h:F (.obj n ns es::ds)=.ok r o) (hp:aP o):ED X ρ (.Call (.Attribute a m ap) args [] pos) r 0:=by
 obtain⟨kk,C,fa,fd,ps,hns,hc,hm,hF,hr,hbd⟩:=G.omt n m F hf
 intro ow
 have ht:=yk (o:=a) (name:=m) (apos:=ap) (pos:=pos) (args:=args) (env:=X.env) (base_of hb) (jZ hst (by omega)) hl
 cases args with
 | nil =>
  refine bS (BT (he ow) hc hm hF hr hbd .nil jg ht) fun σ H Q ⟨E,q⟩=>⟨E,fun v H1 s1 r1=>?_⟩
  have hds:ds=[]:=ah5.mp hlen.symm
  subst hds
  have r0:=r1
  rw[ao]at r1
  obtain⟨f,e0,x,C',dx,vs,rfl,h1,h2,h3,r2⟩:=r1
  rw[hns]at h1;cases h1
  refine⟨x,dx,_,rfl,h3,tR hn,[.obj n ns es],r,o,ar.one (r0.imp fun _ _ _=>True.intro),h,hp,fun v H' s2 r2=>q v H' (s1.trans s2) (r2.imp fun a b p=>⟨p.1,s1.free p.2⟩)⟩
 | cons e es' =>
  refine bS (FX (he ow) hc hm hF hr hbd .nil jg (ha ow) (bN (hst e ZV)) (cV fun x hx=>hst x (ZR _ hx)) ht) fun σ H Q ⟨E,q⟩=>⟨E,fun v H1 s1 r1=>?_⟩
  have r0:=r1
  rw[ao]at r1
  obtain⟨f,e0,x,C',dx,vs,rfl,h1,h2,h3,r2⟩:=r1
  rw[hns]at h1;cases h1
  refine⟨x,dx,_,rfl,h3,tR hn,E.same s1,fun ws H2 s2 rw2=>?_⟩
  refine⟨.obj n ns es::ds,r,o,by rw[ad1];exact ar.cons ((r0.same s2).imp fun _ _ _=>True.intro) (rw2.imp fun _ _ _=>True.intro),h,hp,fun v H' s3 r3=>q v H' ((s1.trans s2).trans s3) (r3.imp fun a b p=>⟨p.1,s1.free (s2.free p.2)⟩)⟩
theorem tS{K:W.Frag}{H:Hp}{P:bO}{f:Str}{d:D}:∀{ns:List Str} {ds:List D} {vs:List V},ar K H P ds vs->(ns.zip ds).lookup f=some d->∃v,(ns.zip vs).lookup f=some v/\ao K H P d v/\(aC ds=true->d.lless=true)
 | [],ds,vs,_,h=>by cases h
 | a::ns,[],vs,_,h=>by cases h
 | a::ns,e::ds,vs,r,h=>by
  rw[ar]at r
  obtain⟨v,ws,rfl,r1,r2⟩:=r
  replace h:List.lookup f ((a,e)::ns.zip ds)=some d:=h
  show ∃u,List.lookup f ((a,v)::ns.zip ws)=some u/\_
  rw[aa4]at h⊢
  cases hb:f==a with
  | true =>
   rw[hb]at h;cases h
   exact⟨v,rfl,r1,fun z=>by rw[aC,ZZ]at z;exact z.1⟩
  | false =>
   rw[hb]at h
   obtain⟨u,u1,u2,u3⟩:=tS r2 h
   exact⟨u,u1,u2,fun z=>by rw[aC,ZZ]at z;exact u3 z.2⟩
theorem Lm{n:Str}(G:bz Φ X sc)(hf:Φ.fld n f=true)(he:ED X ρ a (.obj n ns ds) j)(hb:gy a=true)(h:(ns.zip ds).lookup f=some d):ED X ρ (.Attribute a f pos) d 0:=by
 intro ow
 refine bS (Jw (he ow) (base_of hb)) fun σ H Q ⟨E,q⟩=>⟨E,fun v H1 s1 r1=>?_⟩
 rw[ao]at r1
 obtain⟨fl,e0,x,C,dx,vs,rfl,h1,h2,h3,r2⟩:=r1
 obtain⟨u,u1,u2,u3⟩:=tS r2 h
 exact⟨x,C,dx,_,u,rfl,h3,h2,G.fld n f hf C h1,u1,q u H1 s1 (u2.flat _ (u3 fl))⟩
theorem Lp{l:Nat}(G:bz Φ X sc)(hB:ef f B)(hg:sc.names.lookup f=some .globalImplicit)
  (ha:AD X ρ (e::es) ds k) (hst:∀x∈e::es,∀y p,x ≠ .Starred y p) (h:B ds=.ok (z,l) o) (hp:aP o):ED X ρ (.Call (.Name f p) (e::es) [] pos) z l:=by
 obtain⟨h3,h1,h2,_,h4⟩:=hB
 have h4:=h4 X ds z l o G.calm h hp
 intro ow
 have n1:=bN (env:=X.env) (es:=es) (hst e ZV)
 have n2:(backTo pos (starEach es X.env)).any (·.1)=false:=cV fun x hx=>hst x (ZR _ hx)
 rcases h4 with⟨id,e1,r,e2,e3⟩|⟨T,e1,r,e2,e3⟩
 ·refine bS (BW e2 (G.gl f hg) (G.bl f h3) e1 (ha ow) h1 h2 n1 n2) fun σ H Q ⟨E,q⟩=>⟨E,fun vs H1 s1 r1=>?_⟩
  exact e3 ow H H1 vs _ Q E.own s1 r1 fun w H' s2 r2=>q w H' (s1.trans s2) r2
 ·refine bS (zN e2 (G.gl f hg) (G.bl f h3) e1 (ha ow) h1 h2 n1 n2) fun σ H Q ⟨E,q⟩=>⟨E,fun vs H1 s1 r1=>?_⟩
  exact e3 ow H H1 vs _ Q E.own s1 r1 fun w H' s2 r2=>q w H' (s1.trans s2) r2
theorem GA(h:ED X ρ e (.lst l) k):IE X ρ tg e l k:=by
 intro ow pins s σ H R I ⟨E,q⟩
 refine FV (tg:=tg) (h ow) pins s σ H R I ⟨E,fun v H1 s1 r1=>?_⟩
 rw[ao]at r1
 obtain⟨a,vs,b,rfl,hl,hp,rl⟩:=r1
 have rl':ar X.K H1 (Kd ow H k H1) l vs:=rl.impH (fun a o ho p=>⟨p,fun _=>⟨o,ho⟩⟩) fun a p=>⟨p,fun z=>(by cases z)⟩
 have hp':Kd ow H k H1 a b:=⟨hp,fun hb=>by subst hb;exact⟨_,hl⟩⟩
 have sq:∀{H2:Hp},vM X.K H2 a vs b->de X.K H2 a vs:=fun {H2} h=>h.sq
 refine⟨a,rfl,⟨vs,sq hl⟩,q _ H1 s1 fun i H2 st=>⟨fun d hd=>?_,fun hle=>?_⟩⟩
 ·have h2:=sq (st.ls hl hp')
  obtain⟨w,hw,rw'⟩:=rl'.get hd
  refine⟨⟨vs,w,h2,hw⟩,fun x H3 ⟨e3,y3⟩=>?_⟩
  subst e3
  have:=y3 vs h2
  rw[hw]at this;cases this
  exact⟨aJ.refl _,rw'.mono st⟩
 ·exact⟨vs,sq (st.ls hl hp'),by rw[<- rl.length];exact hle⟩
theorem KW(h:ED X ρ e (.tup l) k):IE X ρ tg e l k:=by
 intro ow pins s σ H R I ⟨E,q⟩
 refine Jm (tg:=tg) (h ow) pins s σ H R I ⟨E,fun v H1 s1 r1=>?_⟩
 rw[ao]at r1
 obtain⟨a,vs,rfl,hl,rl⟩:=r1
 have rl':ar X.K H1 (Kd ow H k H1) l vs:=rl.impH (fun a o ho p=>⟨p,fun _=>⟨o,ho⟩⟩) fun a p=>⟨p,fun z=>(by cases z)⟩
 refine⟨a,rfl,⟨vs,hl⟩,q _ H1 s1 fun i H2 st=>⟨fun d hd=>?_,fun hle=>?_⟩⟩
 ·have h2:=st.sq hl
  obtain⟨w,hw,rw'⟩:=rl'.get hd
  refine⟨⟨vs,w,h2,hw⟩,fun x H3 ⟨e3,y3⟩=>?_⟩
  subst e3
  have:=y3 vs h2
  rw[hw]at this;cases this
  exact⟨aJ.refl _,rw'.mono st⟩
 ·exact⟨vs,st.sq hl,by rw[<- rl.length];exact hle⟩
def Qo(x:Str):It:=⟨fun i _=>i<x.cps.size,fun i H v H'=>H'=H/\∃c,x.cps[i]?=some c/\v=.str ⟨#[c]⟩,fun i _=>x.cps.size<=i⟩
theorem Bx(x:Str)(t:Tok)(it:Addr):Turn P w K tg (Qo x) [it] it (fun i h=>h.IsStrIter it "str_ascii_iterator" x t i) where
 mem:=by simp
 obj:=fun i h st b hb=>by
  have e:b=it:=by simpa using hb
  subst e
  obtain⟨o,e,c,d⟩:=st
  exact⟨o,e,fun v z=>by rw[d]at z;cases z⟩
 keep:=fun i h h' st k=>by
  obtain⟨o,e,c,d⟩:=st
  exact⟨o,k it (by simp) o e,c,d⟩
 item:=by
  intro X hP hw hK hc i pins s σ H E I hf st hg
  subst hP hw hK
  obtain⟨f0,f1,f2,f3,f4,f5⟩:=hf it (by simp)
  have hx:x.cps[i]?=some x.cps[i]:=Array.getElem?_eq_getElem hg
  refine wpAny_pyNext_ascii_item st hx fun h' st' sb=>?_
  have I1:Inv X pins σ H { s with heap:=h',toks:=s.toks+1 }:=I.turned (t':=s.toks+1) (fun b o hb e=>(sb.2 b hb).trans e) f0 f1 f3 f4 f5
  obtain⟨o,e,c,d⟩:=id st'
  exact⟨_,rfl,tm (s:={ s with heap:=h',toks:=s.toks+1 }) e c d (by decide) ⟨.str ⟨#[x.cps[i]]⟩,H,I1,⟨_,rfl⟩,⟨rfl,_,hx,rfl⟩,st',fun b hb=>(hf b hb).1⟩⟩
 done:=by
  intro X hP hw hK hc i pins s σ H E I hf st hg
  subst hP hw hK
  obtain⟨f0,f1,f2,f3,f4,f5⟩:=hf it (by simp)
  exact wpAny_pyNext_ascii_end (I.ok.hd hc) st (Array.getElem?_eq_none hg) fun h' eb=>⟨rfl,I.turned (t':=s.toks) (fun b o hb e=>eb b o hb e) f0 f1 f3 f4 f5⟩
 self:=fun _ _ _ _ _ st h=>wpAny_pyIter_striter_ascii st h
theorem KY(h:ED X ρ e (.str x) k)(ha:(x.cps.all fun c=>decide (c<128))=true):IE X ρ tg e (sgs x) k:=by
 intro ow pins s σ H R I ⟨E,q⟩
 refine be (h ow pins s σ H _ I ⟨E,fun v H1 s1 r1=>(show(fun v H1=>aJ H H1/\ao X.K H1 (Kp ow H k) (.str x) v) v H1 from⟨s1,r1⟩)⟩) fun v s1 ⟨y,H1,I1,rel,sm,rp⟩=>?_
 rw[ao]at rp;subst rp
 obtain⟨t,rfl⟩:=rel
 have ty:strIterType x = "str_ascii_iterator" := if_pos ha
 refine wpAny_pyIter_strU ?_
 rw[ty]
 refine⟨s1.heap.objs.size,[s1.heap.objs.size],_,Qo x,H1,rfl,I1.kept (t':=s1.toks) fun b o e=>ZM _ e,Bx x t _,⟨_,ZQ _ rfl,rfl,rfl⟩,fun b hb=>?_,q _ H1 sm fun i H2 st=>⟨fun d hd=>?_,fun hle=>?_⟩⟩
 ·have e:b=s1.heap.objs.size:=by simpa using hb
  subst e
  exact I1.fpOk (ZP _) (I1.hok.fresh (ZP _))
 ·unfold sgs at hd
  rw[af8]at hd
  cases hc:x.cps.toList[i]? with
  | none=>rw[hc]at hd;cases hd
  | some c =>
   rw[hc]at hd;cases hd
   have hi:i<x.cps.size:=by simpa using (aa7.mp hc).1
   refine⟨hi,fun z H3 ⟨e3,c',e4,e5⟩=>?_⟩
   subst e3 e5
   rw[Array.getElem?_toList]at hc
   rw[hc]at e4;cases e4
   exact⟨aJ.refl _,by rw[ao]⟩
 ·unfold sgs at hle
  rw[ab6,Array.length_toList]at hle
  exact hle
theorem OW(h:ED X ρ e d k)(hi:items d=some l):IE X ρ tg e l k:=by
 unfold items at hi
 split at hi
 ·cases hi;exact GA h
 ·cases hi;exact KW h
 ·split at hi
  ·rename_i ha;cases hi;exact KY h ha
  ·cases hi
 ·cases hi
theorem Cq{j:Int}(hg:Gl X "range")(hm0:X.mg "range" = none)(ha:AD X ρ [a] [.int j] k)(hst:∀y p,a ≠ .Starred y p)(h1:-4611686018427387904<=j)(h2:j<=dw) :
  IE X ρ tg (.Call (.Name "range" p) [a] [] pos) ((List.range j.toNat).map fun i=>.int (i:Nat)) 0:=by
 intro ow pins s σ H R I ⟨E,q⟩
 refine zL (tg:=tg) hg hm0 (ha ow) (by rw[bN hst];rfl) pins s σ H R I ⟨E,fun vs H1 s1 r1=>?_⟩
 obtain⟨v,rfl,rv⟩:=r1.only
 rw[ao]at rv;subst rv
 have hm:(dw:Int)<2 ^ 62:=by decide
 refine⟨j,rfl,h1,by omega,q _ H1 s1 fun i H2 st=>⟨fun d hd=>?_,fun hle=>?_⟩⟩
 ·rw[af8]at hd
  cases e:(List.range j.toNat)[i]? with
  | none=>rw[e]at hd;cases hd
  | some n =>
   rw[e]at hd;cases hd
   obtain⟨hi,hn⟩:=aa7.mp e
   rw[List.getElem_range]at hn
   subst hn
   rw[List.length_range]at hi
   refine⟨hi,fun x H3 ⟨e3,y3⟩=>?_⟩
   subst e3 y3
   exact⟨aJ.refl _,by rw[ao,Int.zero_add]⟩
 ·rw[ab6,List.length_range]at hle
  exact hle
theorem Ap{b:Expr}{j0 j:Int}(hg:Gl X "range")(hm0:X.mg "range" = none)(ha:AD X ρ [a,b] [.int j0,.int j] k)(hst:∀y p,a ≠ .Starred y p)(hst2:∀y p,b ≠ .Starred y p)(h1:-4611686018427387904<=j0)(h2:j0<=4611686018427387000)(h3:-4611686018427387904<=j)(h4:j-j0<=800) :
  IE X ρ tg (.Call (.Name "range" p) [a,b] [] pos) ((List.range (j-j0).toNat).map fun i=>.int (j0+(i:Nat))) 0:=by
 intro ow pins s σ H R I ⟨E,q⟩
 refine zK (tg:=tg) hg hm0 (ha ow) (by rw[bN hst,bN hst2];rfl) (by rw[bN hst2];rfl) pins s σ H R I ⟨E,fun vs H1 s1 r1=>?_⟩
 rw[ar]at r1
 obtain⟨v1,r,rfl,r2,r3⟩:=r1
 rw[ar]at r3
 obtain⟨v2,r',rfl,r4,r5⟩:=r3
 rw[ar]at r5
 rw[ao]at r2 r4
 subst r2 r4 r5
 refine⟨j0,j,rfl,⟨h1,by omega,h3,by omega⟩,q _ H1 s1 fun i H2 st=>⟨fun d hd=>?_,fun hle=>?_⟩⟩
 ·rw[af8]at hd
  cases e:(List.range (j-j0).toNat)[i]? with
  | none=>rw[e]at hd;cases hd
  | some n =>
   rw[e]at hd;cases hd
   obtain⟨hi,hn⟩:=aa7.mp e
   rw[List.getElem_range]at hn
   subst hn
   rw[List.length_range]at hi
   refine⟨hi,fun x H3 ⟨e3,y3⟩=>?_⟩
   subst e3 y3
   exact⟨aJ.refl _,by rw[ao]⟩
 ·rw[ab6,List.length_range]at hle
  exact hle
theorem Aq:qc "range" uS:=by
 refine⟨by decide +kernel,fun X ρ p pos args ds k d j l tg o hc hg hm ha hst hlen h hp hl ht=>?_⟩
 unfold uS at h
 split at h
 ·rename_i n
  cases h
  cases hl
  match args,hlen,ha,hst with
  | [a],_,ha,hst=>exact Cq hg hm ha (hst a ZV) hp.1 hp.2.1
 ·rename_i m n
  cases h
  cases hl
  match args,hlen,ha,hst with
  | [a,b],_,ha,hst=>exact Ap hg hm ha (hst a ZV) (hst b (ZR _ ZV)) hp.1 hp.2.1 hp.2.2.1 hp.2.2.2.1
 ·cases h
variable{X:Cx}
theorem fv{y:D×Bool}(z:Str):bT ρ x y z=if z=x then some y else ρ z:=rfl
theorem fe{o:Bool}(hN:X.N.Nodup)(hl:σ.length=X.N.length)(E:bm X ow H σ ρ)(hi:X.N[i]?=some x)(hv:gB X.env.scope x)(r:ao X.K H (lN ow x o) d v) :
  bm X ow H (σ.set i (some v)) (bT ρ x (d,o)):=by
 have hil:i<σ.length:=by rw[hl];exact(aa7.mp hi).1
 refine⟨fun y e o' h=>?_,E.own⟩
 rw[fv]at h
 by_cases hy:y=x
 ·subst hy
  rw[if_pos rfl]at h
  cases h
  exact⟨i,v,hi,hv,by rw[List.getElem?_set_self hil],r⟩
 ·rw[if_neg hy]at h
  obtain⟨j,w,e1,e2,e3,e4⟩:=E.get y e o' h
  have hij:i≠j:=by intro z;subst z;rw[hi]at e1;cases e1;exact hy rfl
  exact⟨j,w,e1,e2,by rw[ai3 hij];exact e3,e4⟩
theorem fH(G:bz Φ X sc)(h:dE sc x=true):vN X.env.scope x/\gB X.env.scope x/\(X.fn x=true\/X.env.scope.names.lookup x=some .local)/\∃i:Nat,X.N[i]?=some x:=by
 have hx:=G.ns x h
 have hlt:=List.idxOf_lt_length_iff.mpr hx
 have hi:∃i:Nat,X.N[i]?=some x:=⟨X.N.idxOf x,by rw[aa3 hlt,aj0 hlt]⟩
 unfold dE at h
 rw[Bool.or_eq_true]at h
 rcases h with h|h
 ·have h:=G.lc x (by simpa using h)
  exact⟨.inl h,.inl h,.inr h,hi⟩
 ·have h0:sc.names.lookup x=some .cell:=by simpa using h
  have h:=G.cc x h0
  exact⟨.inr h,.inr (.inl h),.inl (G.ft x h0),hi⟩
theorem lM{Φ:Fx}{sc:Scope}(G:bz Φ X sc):∀{es:List Expr} {ds:List D} {ρ ρ':am},bx sc es ds ρ=some ρ'->∃t,xh X es t/\(assignEach es X.env).length=ds.length/\(assignEach es X.env).findIdx? (·.1)=none /\
  ∀(ow:Ow) (vs:List V) (σ:L2.St) (H:Hp) (Q:L2.St->Hp->Prop),σ.length=X.N.length->bm X ow H σ ρ->ar X.K H (fun a b=>b=true->ow a=none) ds vs->(∀σ',σ'.length=X.N.length->bm X ow H σ' ρ'->Q σ' H)->t vs σ H Q
 | [],[],ρ,ρ',h=>by
  rw[bx]at h;cases h
  refine⟨_,qx,rfl,rfl,fun ow vs σ H Q hl E r q=>?_⟩
  rw[ar]at r
  exact⟨r,q σ hl E⟩
 | .Name x p::es,d::ds,ρ,ρ',h=>by
  rw[bx]at h
  split at h
  ·rename_i hx
   obtain⟨t,h1,h2,h3,h4⟩:=lM G h
   obtain⟨g1,g2,g3,i,g4⟩:=fH G hx
   refine⟨_,iV (gQ (i:=i) G.nd g4 g1 g3) h1 rfl,?_,?_,fun ow vs σ H Q hl E r q=>?_⟩
   ·show(assignEach es X.env).length+1=ds.length+1
    rw[h2]
   ·show List.findIdx? (·.1) ((false,_)::assignEach es X.env)=none
    rw[List.findIdx?_cons,h3];rfl
   ·rw[ar]at r
    obtain⟨v,vr,rfl,r1,r2⟩:=r
    refine⟨v,vr,rfl,?_⟩
    exact h4 ow vr _ H Q (by rw[ad8];exact hl) (fe G.nd hl E g4 g2 r1) r2 q
  ·cases h
 | [],_::_,ρ,ρ',h=>by simp[bx]at h
 | .Name _ _::_,[],ρ,ρ',h=>by simp[bx]at h
 | .BoolOp .. :: _,ds,ρ,ρ',h=>by cases ds<;>simp[bx]at h
 | .NamedExpr .. :: _,ds,ρ,ρ',h=>by cases ds<;>simp[bx]at h
 | .BinOp .. :: _,ds,ρ,ρ',h=>by cases ds<;>simp[bx]at h
 | .UnaryOp .. :: _,ds,ρ,ρ',h=>by cases ds<;>simp[bx]at h
 | .Lambda .. :: _,ds,ρ,ρ',h=>by cases ds<;>simp[bx]at h
 | .IfExp .. :: _,ds,ρ,ρ',h=>by cases ds<;>simp[bx]at h
 | .Dict .. :: _,ds,ρ,ρ',h=>by cases ds<;>simp[bx]at h
 | .Set .. :: _,ds,ρ,ρ',h=>by cases ds<;>simp[bx]at h
 | .ListComp .. :: _,ds,ρ,ρ',h=>by cases ds<;>simp[bx]at h
 | .SetComp .. :: _,ds,ρ,ρ',h=>by cases ds<;>simp[bx]at h
 | .DictComp .. :: _,ds,ρ,ρ',h=>by cases ds<;>simp[bx]at h
 | .GeneratorExp .. :: _,ds,ρ,ρ',h=>by cases ds<;>simp[bx]at h
 | .Await .. :: _,ds,ρ,ρ',h=>by cases ds<;>simp[bx]at h
 | .Yield .. :: _,ds,ρ,ρ',h=>by cases ds<;>simp[bx]at h
 | .YieldFrom .. :: _,ds,ρ,ρ',h=>by cases ds<;>simp[bx]at h
 | .Compare .. :: _,ds,ρ,ρ',h=>by cases ds<;>simp[bx]at h
 | .Call .. :: _,ds,ρ,ρ',h=>by cases ds<;>simp[bx]at h
 | .FormattedValue .. :: _,ds,ρ,ρ',h=>by cases ds<;>simp[bx]at h
 | .JoinedStr .. :: _,ds,ρ,ρ',h=>by cases ds<;>simp[bx]at h
 | .Constant .. :: _,ds,ρ,ρ',h=>by cases ds<;>simp[bx]at h
 | .Attribute .. :: _,ds,ρ,ρ',h=>by cases ds<;>simp[bx]at h
 | .Subscript .. :: _,ds,ρ,ρ',h=>by cases ds<;>simp[bx]at h
 | .Starred .. :: _,ds,ρ,ρ',h=>by cases ds<;>simp[bx]at h
 | .List .. :: _,ds,ρ,ρ',h=>by cases ds<;>simp[bx]at h
 | .Tuple .. :: _,ds,ρ,ρ',h=>by cases ds<;>simp[bx]at h
 | .Slice .. :: _,ds,ρ,ρ',h=>by cases ds<;>simp[bx]at h
theorem yn(G:bz Φ X sc)(h:bX sc tg d ρ=some ρ'):GD X ρ tg d ρ':=by
 unfold bX at h
 split at h
 ·split at h
  ·rename_i x p hx
   cases h
   obtain⟨g1,g2,g3,i,g4⟩:=fH G hx
   exact⟨_,gQ (i:=i) G.nd g4 g1 g3,fun ow v σ H Q hl E r q=>q _ (by rw[ad8];exact hl) (fe G.nd hl E g4 g2 r)⟩
  ·cases h
 ·split at h
  ·obtain⟨t,h1,h2,h3,h4⟩:=lM G h
   refine⟨_,oC (n:=_) G.calm h1 h2 h3,fun ow v σ H Q hl E r q=>?_⟩
   obtain⟨a,vs,rfl,hs,rl⟩:=fG r
   exact⟨a,vs,rfl,hs,rl.length.symm,h4 ow vs σ H Q hl E rl q⟩
  ·cases h
 ·cases h
theorem xr{Q:Bool->Shared->Prop}
  (h:wpAny M A (isTrue c env (eval c env)) (fun b s'=>if b=true then wpAny M A (i7 cs env) Q E s' else Q false s') E s):wpAny M A (i7 (c::cs) env) Q E s:=by
 have no:∀(l:List Expr) (s:Shared),Q false s->wpAny M A (forIn l false fun c r=>if r=true then do let ok <- isTrue c env (eval c env);pure (ForInStep.yield ok)else pure (ForInStep.yield r)) Q E s:=by
  intro l
  induction l with
  | nil=>intro s h;exact ZO h
  | cons x l ih =>
   intro s h
   rw[ag5]
   simp only[ah8,ak9]
   exact ZL (ZO (ih s h))
 unfold i7
 rw[ag5]
 simp only[ai7]
 refine ZL (ZL (ag3 h (fun b s' hb=>ZO ?_) fun _ _ x=>x))
 cases b with
 | true=>exact hb
 | false=>exact no cs s' hb
theorem zi:Bm X ρ [] true:=fun ow pins s σ H Q I ⟨E,q⟩=>ZO ⟨H,I,q H (aJ.refl _)⟩
theorem qg{b':Bool}(h:TD X ρ c b)(h':if b=true then Bm X ρ cs b' else b'=false):Bm X ρ (c::cs) b':=by
 intro ow pins s σ H Q I ⟨E,q⟩
 refine xr (be (h ow pins s σ H (fun t H1=>t=b/\aJ H H1) I ⟨E,fun H1 s1=>⟨rfl,s1⟩⟩) fun t s1 ⟨H1,I1,e,sm⟩=>?_)
 subst e
 cases t with
 | true =>
  rw[if_pos rfl]at h' ⊢
  exact h' ow pins s1 σ H1 Q I1 ⟨E.same sm,fun H2 s2=>q H2 (sm.trans s2)⟩
 | false =>
  rw[if_neg aa8]at h' ⊢
  subst h'
  exact⟨H1,I1,q H1 sm⟩
variable{X:Cx}
structure gq(X:Cx)(ρ:am)(e:Expr)(it:Bool)(d:D)(k:Nat):Prop where
 ed:it=false->ED X ρ e d k
 td:it=false->∀b,d=.bl b->TD X ρ e b
 ie:it=true->∀tg l,items d=some l->fF e tg=true->IE X ρ tg e l k
theorem gq.of(h:ED X ρ e d k)(t:∀b,d=.bl b->TD X ρ e b):gq X ρ e it d k:=⟨fun _=>h,fun _=>t,fun _ tg l hi _=>OW h hi⟩
theorem pi{r:D×Nat}{l:List Prop}(h:aE Φ e it sc ρ=.ok r l):∀x p,e ≠ .Starred x p:=by
 intro x p z;subst z;cases h
theorem dJ{Φ:Fx}{sc:Scope}{ρ:am}:∀{es:List Expr} {r:List D×Nat} {l:List Prop},ck Φ es sc ρ=.ok r l->aP l->(∀e∈es,∀x p,e ≠ .Starred x p)/\es.length=r.1.length
 | [],r,l,h,_=>by cases h;exact⟨fun e he=>(by cases he),rfl⟩
 | e::es,r,l,h,hp=>by
  obtain⟨p,l1,l2,h1,p1,h,p2⟩:=bi h hp
  obtain⟨q,l3,l4,h2,p3,h,p4⟩:=bi h p2
  cases h
  obtain⟨i1,i2⟩:=dJ h2 p3
  refine⟨fun e' he=>?_,by rw[ab1,ab1,i2]⟩
  rcases ZT.mp he with rfl|he
  ·exact pi h1
  ·exact i1 e' he
theorem OO:kn d k=0\/kn d k=k:=by
 unfold kn;split
 ·exact .inl rfl
 ·exact .inr rfl
theorem A8(h:pF sc scope=true):scope.kind=.function/\(∀y∈scope.names,y.2=.local->scope.names.lookup y.1=some .local) /\
  (∀y∈scope.names,y.2=.free->sc.names.lookup y.1=some .cell\/sc.names.lookup y.1=some .free)/\(scope.names.map (·.1)).Nodup:=by
 unfold pF at h
 simp only[ZZ,ai4,decide_eq_true_eq,Bool.or_eq_true]at h
 obtain⟨⟨⟨h1,h3⟩,h4⟩,h5⟩:=h
 refine⟨h1,fun y hy e=>(h3 y hy).resolve_left (fun z=>z e),fun y hy e=>?_,h5⟩
 rcases h4 y hy with(q|q)|q
 ·exact absurd e q
 ·exact .inl q.2
 ·exact .inr q
theorem d8{env:Env}:∀{names:List (Str×NameKind)} {x:Str} {k0:NameKind},k0 ≠ .free->names.lookup x=some k0 ->
  (names.map fun(n,k)=>if (k==NameKind.free&&env.scope.kind == .function&&env.kindOf n==some .cell)then(n,NameKind.cell)else(n,k)).lookup x=some k0
 | [],_,_,_,h=>by simp at h
 | (n,k)::r,x,k0,hk,h=>by
  have ih:=@d8 env r x k0 hk
  show List.lookup x ((if (k==NameKind.free&&env.scope.kind == .function&&env.kindOf n==some .cell)=true then(n,NameKind.cell)else(n,k))::_)=_
  cases hx:x==n with
  | true =>
   simp only[aa4,hx]at h
   cases h
   have:(k==NameKind.free)=false:=by simpa using hk
   simp[aa4,hx,this]
  | false =>
   simp only[aa4,hx]at h
   by_cases hc:(k==NameKind.free&&env.scope.kind == .function&&env.kindOf n==some .cell)=true
   ·rw[if_pos hc];simp only[aa4,hx];exact ih h
   ·rw[if_neg hc];simp only[aa4,hx];exact ih h
theorem oP{names:List (Str×NameKind)}:∀{x:Str} {k:NameKind},names.lookup x=some k->x∈names.map (·.1):=fun {x k} h=>ae2.mpr ⟨_,aa0 h,rfl⟩
theorem GC{C:Addr}(G:bz Φ X sc)(h:pF sc scope=true):bz Φ (lW X scope cl C (scope.names.map (·.1)) s H fp) scope:=by
 obtain⟨h1,h3,h4,h5⟩:=A8 h
 refine⟨G.calm,h5,fun x hx=>?_,fun x hx=>?_,fun x hx=>lookup_relabel_local hx,fun x hx=>d8 (by decide) hx,fun g F hg=>G.fn g F hg,G.con,G.blt,G.itr,G.mth,G.mtt,G.slf,G.fld,G.omt,G.bl,G.room,fun x hx=>?_,fun x hx=>ad2 hx⟩
 ·exact d8 (by decide) hx
 ·rcases hx with hx|hx
  ·exact .inl (d8 (by decide) hx)
  ·exact d9 hx
 ·unfold dE at hx
  rw[Bool.or_eq_true]at hx
  rcases hx with hx|hx<;>exact oP (by simpa using hx)
theorem AI(G:bz Φ X sc)(h:pF sc scope=true):iz X.env scope (scope.names.map (·.1)):=by
 obtain⟨h1,h3,h4,h5⟩:=A8 h
 exact⟨h1,h5,h3,h5,fun n hn=>G.kc n (h4 (n,.free) hn rfl)⟩
theorem OP:∀{a b:Nat},kj a b<=1->a<=kj a b/\b<=kj a b
 | 0,0,_=>by decide
 | 0,1,_=>by decide
 | 0,2,h=>absurd h (by decide)
 | 0,_+3,h=>by rw[kj]at h;omega
 | 1,0,_=>by decide
 | 1,1,_=>by decide
 | 1,2,h=>absurd h (by decide)
 | 1,_+3,h=>absurd h (by rw[kj]<;>simp)
 | 2,0,h=>absurd h (by decide)
 | 2,1,h=>absurd h (by decide)
 | 2,2,h=>absurd h (by decide)
 | 2,_+3,h=>absurd h (by rw[kj]<;>simp)
 | _+3,0,h=>by rw[kj]at h<;>simp_all<;>omega
 | _+3,1,h=>absurd h (by rw[kj]<;>simp)
 | _+3,2,h=>absurd h (by rw[kj]<;>simp)
 | _+3,_+3,h=>absurd h (by rw[kj]<;>simp)
theorem Kp.up(o:fT ow H){a:Addr}:∀{i j:Nat},i<=j->j<=1->Kp ow H i a b->Kp ow H j a b
 | 0,0,_,_,p=>p
 | 0,1,_,_,p=>fun _=>o.free p.2
 | 1,1,_,_,p=>p
 | 1,0,h,_,_=>absurd h (by omega)
 | _+2,_,h,g,_=>absurd h (by omega)
 | 0,_+2,_,g,_=>absurd g (by omega)
 | 1,_+2,_,g,_=>absurd g (by omega)
theorem ED.up(h:ED X ρ e d i)(h1:i<=j)(h2:j<=1):ED X ρ e d j:=fun ow=>bS (h ow) fun σ H Q ⟨E,q⟩=>⟨E,fun v H' s r=>q v H' s (r.imp fun a b p=>Kp.up E.own h1 h2 p)⟩
def sV(step:D->Rs (Option (D×Nat)))(d:D):Option D:=match step d with | .ok (some p) _=>some p.1|_=>none
theorem vk{step:D->Rs (Option (D×Nat))}:∀{ds:List D} {r:List D×Nat} {l:List Prop},ii step ds=.ok r l->aP l ->
  (∀d∈ds,∃r l,step d=.ok r l/\aP l)/\r.1=ds.filterMap (sV step)/\(r.2<=1->∀d∈ds,∀p l,step d=.ok (some p) l->p.2<=r.2)
 | [],r,l,h,_=>by
  cases h
  exact⟨fun d hd=>(by cases hd),rfl,fun _ d hd=>(by cases hd)⟩
 | d::ds,r,l,h,hp=>by
  obtain⟨x,l1,l2,h1,p1,h,p2⟩:=bi h hp
  obtain⟨q,l3,l4,h2,p3,h,p4⟩:=bi h p2
  obtain⟨i1,i2,i3⟩:=vk h2 p3
  have i1':∀y∈d::ds,∃r l,step y=.ok r l/\aP l:=fun y hy=>by
   rcases ZT.mp hy with rfl|hy
   ·exact⟨_,_,h1,p1⟩
   ·exact i1 y hy
  cases x with
  | none =>
   cases h
   refine⟨i1',?_,fun hj x hx y i e=>?_⟩
   ·rw[List.filterMap_cons_none (by unfold sV;rw[h1])];exact i2
   ·rcases ZT.mp hx with rfl|hx
    ·rw[h1]at e;cases e
    ·exact i3 hj x hx y i e
  | some p =>
   cases h
   refine⟨i1',?_,fun hj x hx y i e=>?_⟩
   ·rw[List.filterMap_cons_some (by unfold sV;rw[h1]),i2]
   ·obtain⟨a1,a2⟩:=OP hj
    rcases ZT.mp hx with rfl|hx
    ·rw[h1]at e;cases e;exact a1
    ·exact ZN (i3 (ZN a2 hj) x hx y i e) a2
theorem cz(h:ED X ρ e d k)(he:∀whole,isTrue e X.env whole=(do let v <- whole;standAt e.pos;holding [v] (truthy v))):gq X ρ e it d k:=.of h fun b hb=>by subst hb;exact Ny h he
theorem HJ{b:Expr}{x:D}(hu:X.A.units+70<cLine)(ha:ED X ρ a x k)(hb:ED X ρ b y j)(h:fS op x y=.ok r o)(hp:aP o)(hm:behindInMarks op b=false):TD X ρ (.Compare a [op] [b] pos) r:=by
 have c:=km (X:=X) hu h hp
 intro ow pins s σ H Q I ⟨E,q⟩
 refine wpAny_isTrue_Compare1 (Qh (ha ow) (hb ow) I (R:=fun v u H2=>aJ H H2/\ao X.K H2 (fun _ _=>True) x v/\ao X.K H2 (fun _ _=>True) y u) ⟨E,fun v H1 s1 r1=>⟨E.same s1,fun u H2 s2 r2=>⟨s1.trans s2,(r1.imp fun _ _ _=>True.intro).same s2,r2.imp fun _ _ _=>True.intro⟩⟩⟩ fun v u s2 x y H2 I2 rx ry ⟨sm,r1,r2⟩=>?_) hm
 refine be (c _ _ pins s2 σ H2 x y v u (fun w H'=>w=.bl r/\H2=H') I2 rx ry ⟨r1,r2,rfl,rfl⟩) fun u' s3 ⟨w,H3,I3,r3,e1,e2⟩=>?_
 subst e1 e2
 cases (show u'=Value.bool r from r3)
 exact ad9 ⟨H2,I3,q H2 sm⟩
theorem Bz{b:Expr}{x y z:Int}(hu:X.A.units+70<cLine)(ha:ED X ρ a (.int x) k)(hb:ED X ρ b (.int y) j)(hc:ED X ρ c (.int z) i)(h:gW op x y=some r)(h2:gW op2 y z=some r2)(hm:behindInMarks op2 c=false):TD X ρ (.Compare a [op,op2] [b,c] pos) (r&&r2):=by
 have c1:=km (X:=X) hu (pw h) (show aP []from True.intro)
 have c2:=km (X:=X) hu (pw h2) (show aP []from True.intro)
 refine fun ow=>tL (BP (c1 (fun _ _=>True) (fun _ _=>True)) (c2 (fun _ _=>True) (fun _ _=>True)) (ha ow) (hb ow) (hc ow) hm) fun σ H Q ⟨E,q⟩=>⟨E,fun v H1 s1 r1=>⟨E.same s1,fun u H2 s2 r2=>?_⟩⟩
 rw[ao]at r1 r2
 subst r1 r2
 refine⟨by rw[ao],by rw[ao],r,rfl,?_⟩
 cases r with
 | false=>exact⟨false,rfl,q H2 (s1.trans s2)⟩
 | true =>
  rw[if_pos rfl]
  refine⟨(E.same s1).same s2,fun w H3 s3 r3=>?_⟩
  rw[ao]at r3
  subst r3
  exact⟨by rw[ao],by rw[ao],_,rfl,q H3 ((s1.trans s2).trans s3)⟩
theorem HH(h:TD X ρ a b):TD X ρ (.UnaryOp .Not a pos) (!b):=fun ow=>tL (IU (h ow)) fun σ H Q ⟨E,q⟩=>⟨E,fun H1 s1=>q H1 s1⟩
structure fy(X:Cx)(ρ:am)(op:BoolOp)(es:List Expr)(b:Bool):Prop where
 ed:es≠[]->∀pos,ED X ρ (.BoolOp op es pos) (.bl b) 0
 tw:es≠[]->∀pos ow,PW X (.BoolOp op es pos) (Du X ow ρ b)
 ts:op=.And->Bm X ρ es b
theorem ij{op:BoolOp}(h:ED X ρ e (.bl b) k)(t:TD X ρ e b):fy X ρ op [e] b:=by
 have h0:ED X ρ e (.bl b) 0:=by
  have:=h.kn
  rw[show kn (.bl b) k=0 from rfl]at this
  exact this
 refine⟨fun _ pos ow=>Jr (h0 ow),fun _ pos ow=>?_,fun _=>qg t (by cases b;rfl;exact zi)⟩
 cases op with
 | And=>exact FJ (t ow)
 | Or=>exact IS (t ow)
theorem v5(h:ED X ρ e (.bl true) k)(t:TD X ρ e true)(r:fy X ρ .And (e2::es) b):fy X ρ .And (e::e2::es) b:=by
 refine⟨fun _ pos ow=>?_,fun _ pos ow=>?_,fun _=>qg t (by rw[if_pos rfl];exact r.ts rfl)⟩
 ·refine bS (zO (h ow) (r.ed (by simp) pos ow)) fun σ H Q ⟨E,q⟩=>⟨E,fun v H1 s1 r1=>?_⟩
  rw[ao]at r1
  exact⟨true,r1,by rw[if_pos rfl];exact⟨E.same s1,fun w H2 s2 r2=>q w H2 (s1.trans s2) (r2.imp (Kp.back s1 0))⟩⟩
 ·intro wh pins s σ H Q I hq
  exact zC (t ow) (r.tw (by simp) pos ow) wh pins s σ H Q I ⟨hq.1,fun H1 s1=>by dsimp only;rw[if_pos rfl];exact⟨hq.1.same s1,fun H2 s2=>hq.2 H2 (s1.trans s2)⟩⟩
theorem vw(h:ED X ρ e (.bl false) k)(t:TD X ρ e false)(ne:∀pos,∃t,PE X (.BoolOp .And (e2::es) pos) t)(nw:∀pos,∃t,PW X (.BoolOp .And (e2::es) pos) t):fy X ρ .And (e::e2::es) false:=by
 refine⟨fun _ pos ow=>?_,fun _ pos ow=>?_,fun _=>qg t (by rw[if_neg aa8])⟩
 ·obtain⟨t2,h2⟩:=ne pos
  refine bS (zO (h ow) h2) fun σ H Q ⟨E,q⟩=>⟨E,fun v H1 s1 r1=>?_⟩
  rw[ao]at r1
  exact⟨false,r1,by rw[if_neg aa8];exact q _ H1 s1 (by rw[ao])⟩
 ·obtain⟨t2,h2⟩:=nw pos
  intro wh pins s σ H Q I hq
  exact zC (t ow) h2 wh pins s σ H Q I ⟨hq.1,fun H1 s1=>by dsimp only;rw[if_neg aa8];exact hq.2 H1 s1⟩
theorem yE(h:ED X ρ e (.bl false) k)(t:TD X ρ e false)(r:fy X ρ .Or (e2::es) b):fy X ρ .Or (e::e2::es) b:=by
 refine⟨fun _ pos ow=>?_,fun _ pos ow=>?_,fun z=>by cases z⟩
 ·refine bS (DH (h ow) (r.ed (by simp) pos ow)) fun σ H Q ⟨E,q⟩=>⟨E,fun v H1 s1 r1=>?_⟩
  rw[ao]at r1
  exact⟨false,r1,by rw[if_neg aa8];exact⟨E.same s1,fun w H2 s2 r2=>q w H2 (s1.trans s2) (r2.imp (Kp.back s1 0))⟩⟩
 ·intro wh pins s σ H Q I hq
  exact DD (t ow) (r.tw (by simp) pos ow) wh pins s σ H Q I ⟨hq.1,fun H1 s1=>by dsimp only;rw[if_neg aa8];exact⟨hq.1.same s1,fun H2 s2=>hq.2 H2 (s1.trans s2)⟩⟩
theorem v4(h:ED X ρ e (.bl true) k)(t:TD X ρ e true)(ne:∀pos,∃t,PE X (.BoolOp .Or (e2::es) pos) t)(nw:∀pos,∃t,PW X (.BoolOp .Or (e2::es) pos) t):fy X ρ .Or (e::e2::es) true:=by
 refine⟨fun _ pos ow=>?_,fun _ pos ow=>?_,fun z=>by cases z⟩
 ·obtain⟨t2,h2⟩:=ne pos
  refine bS (DH (h ow) h2) fun σ H Q ⟨E,q⟩=>⟨E,fun v H1 s1 r1=>?_⟩
  rw[ao]at r1
  exact⟨true,r1,by rw[if_pos rfl];exact q _ H1 s1 (by rw[ao])⟩
 ·obtain⟨t2,h2⟩:=nw pos
  intro wh pins s σ H Q I hq
  exact DD (t ow) h2 wh pins s σ H Q I ⟨hq.1,fun H1 s1=>by dsimp only;rw[if_pos rfl];exact hq.2 H1 s1⟩
theorem um:PE X e (fun _ _ _=>False):=fun _ _ _ _ _ _ h=>h.elim
theorem uk:PW X e (fun _ _ _=>False):=fun _ _ _ _ _ _ _ h=>h.elim
theorem Eh{b:Expr}{r:D×Nat}{l:List Prop}(h:aE Φ b it sc ρ=.ok r l):behindInMarks op b=false:=by
 cases b<;>first|rfl|cases h
theorem wO{z:Str}(h:dE sc z=true)(hx:sc.names.lookup x=some .free):x≠z:=by
 intro e;subst e
 unfold dE at h
 rw[hx]at h
 revert h;decide
theorem yF:∀{es:List Expr} {ds:List D} {ρ ρ':am},bx sc es ds ρ=some ρ'->∀x y,sc.names.lookup x=some .free->ρ x=some y->ρ' x=some y:=by
 intro es
 induction es with
 | nil =>
  intro ds ρ ρ' h x y hx hl
  cases ds with
  | nil=>rw[bx]at h;cases h;exact hl
  | cons d ds=>cases h
 | cons e es ih =>
  intro ds ρ ρ' h x y hx hl
  cases ds with
  | nil=>cases e<;>cases h
  | cons d ds =>
   cases e with
   | Name z p =>
    rw[bx]at h
    split at h
    ·rename_i hz
     exact ih h x y hx (by rw[fv,if_neg (wO hz hx)];exact hl)
    ·cases h
   | _=>cases h
theorem A9(h:bX sc tg d ρ=some ρ'):∀x y,sc.names.lookup x=some .free->ρ x=some y->ρ' x=some y:=by
 intro x y hx hl
 unfold bX at h
 split at h
 ·split at h
  ·rename_i hz
   cases h
   rw[fv,if_neg (wO hz hx)];exact hl
  ·cases h
 ·split at h
  ·exact yF h x y hx hl
  ·cases h
 ·cases h
theorem rX{r:D×Nat}{l:List Prop}(h:aE Φ e it sc ρ=.ok r l)(x:Value):foldedSetIterable e env x=pure x:=by
 cases e<;>first|rfl|cases h
mutual
theorem uC:∀x y:D,qH true x y=x
 | .int _,.int _=>rfl
 | .bl _,.bl _=>rfl
 | .tup l,.tup m=>by
  show(if l.length=m.length then D.tup (lR true l m)else cond true (.tup l) (.tup m))=.tup l
  split
  ·rename_i h;rw[zT l m h]
  ·rfl
 | .non,_=>rfl
 | .str _,_=>rfl
 | .dct _ _,_=>rfl
 | .lst _,_=>rfl
 | .typ _,_=>rfl
 | .sn _,_=>rfl
 | .obj _ _ _,_=>rfl
 | .cls _,_=>rfl
 | .int _,.non=>rfl
 | .int _,.bl _=>rfl
 | .int _,.str _=>rfl
 | .int _,.dct _ _=>rfl
 | .int _,.typ _=>rfl
 | .int _,.sn _=>rfl
 | .int _,.obj _ _ _=>rfl
 | .int _,.cls _=>rfl
 | .int _,.tup _=>rfl
 | .int _,.lst _=>rfl
 | .bl _,.non=>rfl
 | .bl _,.int _=>rfl
 | .bl _,.str _=>rfl
 | .bl _,.dct _ _=>rfl
 | .bl _,.typ _=>rfl
 | .bl _,.sn _=>rfl
 | .bl _,.obj _ _ _=>rfl
 | .bl _,.cls _=>rfl
 | .bl _,.tup _=>rfl
 | .bl _,.lst _=>rfl
 | .tup _,.non=>rfl
 | .tup _,.int _=>rfl
 | .tup _,.bl _=>rfl
 | .tup _,.str _=>rfl
 | .tup _,.dct _ _=>rfl
 | .tup _,.typ _=>rfl
 | .tup _,.sn _=>rfl
 | .tup _,.obj _ _ _=>rfl
 | .tup _,.cls _=>rfl
 | .tup _,.lst _=>rfl
theorem zT:∀l m:List D,l.length=m.length->lR true l m=l
 | [],[],_=>rfl
 | x::l,y::m,h=>by
  show qH true x y::lR true l m=x::l
  rw[uC x y,zT l m (by simpa using h)]
 | [],_::_,h=>by cases h
 | _::_,[],h=>by cases h
end
mutual
theorem uD:∀x y:D,qH false x y=y
 | .int _,.int _=>rfl
 | .bl _,.bl _=>rfl
 | .tup l,.tup m=>by
  show(if l.length=m.length then D.tup (lR false l m)else cond false (.tup l) (.tup m))=.tup m
  split
  ·rename_i h;rw[zU l m h]
  ·rfl
 | .non,_=>rfl
 | .str _,_=>rfl
 | .dct _ _,_=>rfl
 | .lst _,_=>rfl
 | .typ _,_=>rfl
 | .sn _,_=>rfl
 | .obj _ _ _,_=>rfl
 | .cls _,_=>rfl
 | .int _,.non=>rfl
 | .int _,.bl _=>rfl
 | .int _,.str _=>rfl
 | .int _,.dct _ _=>rfl
 | .int _,.typ _=>rfl
 | .int _,.sn _=>rfl
 | .int _,.obj _ _ _=>rfl
 | .int _,.cls _=>rfl
 | .int _,.tup _=>rfl
 | .int _,.lst _=>rfl
 | .bl _,.non=>rfl
 | .bl _,.int _=>rfl
 | .bl _,.str _=>rfl
 | .bl _,.dct _ _=>rfl
 | .bl _,.typ _=>rfl
 | .bl _,.sn _=>rfl
 | .bl _,.obj _ _ _=>rfl
 | .bl _,.cls _=>rfl
 | .bl _,.tup _=>rfl
 | .bl _,.lst _=>rfl
 | .tup _,.non=>rfl
 | .tup _,.int _=>rfl
 | .tup _,.bl _=>rfl
 | .tup _,.str _=>rfl
 | .tup _,.dct _ _=>rfl
 | .tup _,.typ _=>rfl
 | .tup _,.sn _=>rfl
 | .tup _,.obj _ _ _=>rfl
 | .tup _,.cls _=>rfl
 | .tup _,.lst _=>rfl
theorem zU:∀l m:List D,l.length=m.length->lR false l m=m
 | [],[],_=>rfl
 | x::l,y::m,h=>by
  show qH false x y::lR false l m=y::m
  rw[uD x y,zU l m (by simpa using h)]
 | [],_::_,h=>by cases h
 | _::_,[],h=>by cases h
end
theorem DS:Ag true k j=k:=by unfold Ag;split<;>rfl
theorem DT:Ag false k j=j:=by
 unfold Ag;split
 ·assumption
 ·rfl
theorem wV{r s:R1}{d:D×Nat}{l:List Prop}(h:D4 t r s=.ok d l)(hp:aP l):∃m,(if t=true then r else s)=.ok d m/\aP m:=by
 unfold D4 at h
 split at h
 ·cases t with
  | true=>cases h
  | false=>exact⟨l,h,hp⟩
 ·rename_i p m
  split at h
  ·cases t with
   | true=>exact⟨l,h,hp⟩
   | false=>cases h
  ·rename_i q n
   cases h
   obtain⟨p1,p2⟩:=eS.mp hp
   cases t with
   | true=>exact⟨m,by rw[uC,DS];rfl,oY p1 rfl⟩
   | false=>exact⟨n,by rw[uD,DT];rfl,oY p2 rfl⟩
theorem mY{p:D×Nat}{f:Bool->Rs α}{a:α}{l:List Prop}(h:ja p f=.ok a l):∃b,p.1=.bl b/\f b=.ok a l:=by
 unfold ja at h
 split at h
 ·rename_i b e;exact⟨b,e,h⟩
 ·cases h
theorem Cl{p:D×Nat}{f:Int->R1}{a:D×Nat}{l:List Prop}(h:kF p f=.ok a l):∃b,p.1=.int b/\f b=.ok a l:=by
 unfold kF at h
 split at h
 ·rename_i b e;exact⟨b,e,h⟩
 ·cases h
structure Ih(Φ:Fx)(n:Nat):Prop where
 e:∀(e:Expr) {it:Bool} {sc:Scope} {ρ:am} {p:D×Nat} {l:List Prop} {X:Cx},sizeOf e<n->aE Φ e it sc ρ=.ok p l->aP l->bz Φ X sc->gq X ρ e it p.1 p.2
 es:∀(es:List Expr) {sc:Scope} {ρ:am} {p:List D×Nat} {l:List Prop} {X:Cx},sizeOf es<n->ck Φ es sc ρ=.ok p l->aP l->bz Φ X sc->AD X ρ es p.1 p.2
 b:∀(op:BoolOp) (es:List Expr) {sc:Scope} {ρ:am} {b:Bool} {l:List Prop} {X:Cx},sizeOf es<n->eZ Φ op es sc ρ=.ok b l->aP l->bz Φ X sc->fy X ρ op es b
 o:∀(e:Option Expr) {sc:Scope} {ρ:am} {o:Option Int} {l:List Prop} {X:Cx},sizeOf e<n->nA Φ e sc ρ=.ok o l->aP l->bz Φ X sc->OD X ρ e o
theorem bL{a b:Nat}(h:a<b)(hs:b<n+1):a<n:=ZW h (Nat.le_of_lt_succ hs)
section
variable{Φ:Fx}{n:Nat}{it:Bool}{sc:Scope}{ρ:am}{r:D×Nat}{l:List Prop}{X:Cx}
theorem Fs(h:kE Φ x sc ρ=.ok r l)(G:bz Φ X sc):gq X ρ (.Name x pos) it r.1 r.2:=by
 unfold kE at h
 split at h
 ·rename_i hx
  split at h
  ·rename_i hg
   split at h
   ·rename_i d hd;cases h;exact cz (Ln G hd hg hx) (fun _=>rfl)
   ·split at h
    ·rename_i T hT;cases h;exact cz (Lk G hT hg) (fun _=>rfl)
    ·cases h
  ·split at h
   ·rename_i p hl
    unfold mk at h;cases h
    exact cz (GS (o:=p.2) hl hx) (fun _=>rfl)
   ·cases h
 ·cases h
theorem HW(I:Ih Φ n){b:Expr}{op:Operator}(hs:sizeOf (Expr.BinOp a op b pos)<n+1)(h:aE Φ (.BinOp a op b pos) it sc ρ=.ok r l)(hp:aP l)(G:bz Φ X sc):gq X ρ (.BinOp a op b pos) it r.1 r.2:=by
 obtain⟨p,l1,l2,h1,p1,h,p2⟩:=bi (show Rs.bnd _ _=_ from h) hp
 obtain⟨q,l3,l4,h2,p3,h,p4⟩:=bi h p2
 exact cz (AF ((I.e a (bL (by simp<;>omega) hs) h1 p1 G).ed rfl) ((I.e b (bL (by simp<;>omega) hs) h2 p3 G).ed rfl) h p4) (fun _=>rfl)
theorem NH(I:Ih Φ n){op:UnaryOp}(hs:sizeOf (Expr.UnaryOp op a pos)<n+1)(h:aE Φ (.UnaryOp op a pos) it sc ρ=.ok r l)(hp:aP l)(G:bz Φ X sc):gq X ρ (.UnaryOp op a pos) it r.1 r.2:=by
 obtain⟨p,l1,l2,h1,p1,h,p2⟩:=bi (show Rs.bnd _ _=_ from h) hp
 split at h
 ·rename_i z hu
  cases h
  have c:=I.e a (bL (by simp<;>omega) hs) h1 p1 G
  refine .of (Pg (c.ed rfl) hu) fun b hb=>?_
  have hb:z=.bl b:=hb
  subst hb
  unfold zd at hu
  split at hu
  ·cases hu
  ·rename_i e;cases hu;exact HH (c.td rfl _ e)
  ·cases hu
 ·cases h
theorem HV(I:Ih Φ n){b:Expr}(hs:sizeOf (Expr.Compare a [op] [b] pos)<n+1)(h:aE Φ (.Compare a [op] [b] pos) it sc ρ=.ok r l)(hp:aP l)(G:bz Φ X sc):gq X ρ (.Compare a [op] [b] pos) it r.1 r.2:=by
 obtain⟨p,l1,l2,h1,p1,h,p2⟩:=bi (show Rs.bnd _ _=_ from h) hp
 obtain⟨q,l3,l4,h2,p3,h,p4⟩:=bi h p2
 obtain⟨z,l5,l6,hc,p5,h,p6⟩:=bi h p4
 cases h
 have ca:=(I.e a (bL (by simp<;>omega) hs) h1 p1 G).ed rfl
 have cb:=(I.e b (bL (by simp<;>omega) hs) h2 p3 G).ed rfl
 exact .of (Lo G.room ca cb hc p5 (Eh h2)) fun b' hb'=>by cases hb';exact HJ G.room ca cb hc p5 (Eh h2)
theorem BD(I:Ih Φ n){b:Expr}(hs:sizeOf (Expr.Compare a [op,op2] [b,c] pos)<n+1)(h:aE Φ (.Compare a [op,op2] [b,c] pos) it sc ρ=.ok r l)(hp:aP l)(G:bz Φ X sc):gq X ρ (.Compare a [op,op2] [b,c] pos) it r.1 r.2:=by
 obtain⟨p,l1,l2,h1,p1,h,p2⟩:=bi (show Rs.bnd _ _=_ from h) hp
 obtain⟨q,l3,l4,h2,p3,h,p4⟩:=bi h p2
 obtain⟨t,l5,l6,h3,p5,h,p6⟩:=bi h p4
 obtain⟨x,y,z,r1,r2,e1,e2,e3,k1,k2,rfl⟩:=G5 h
 have ca:=(I.e a (bL (by simp<;>omega) hs) h1 p1 G).ed rfl
 have cb:=(I.e b (bL (by simp<;>omega) hs) h2 p3 G).ed rfl
 have cc:=(I.e c (bL (by simp<;>omega) hs) h3 p5 G).ed rfl
 rw[e1]at ca
 rw[e2]at cb
 rw[e3]at cc
 exact .of (CC G.room ca cb cc k1 k2 (Eh h3)) fun b' hb'=>by cases hb';exact Bz G.room ca cb cc k1 k2 (Eh h3)
theorem NI(I:Ih Φ n){b:Expr}(hs:sizeOf (Expr.IfExp c a b pos)<n+1)(h:aE Φ (.IfExp c a b pos) it sc ρ=.ok r l)(hp:aP l)(G:bz Φ X sc):gq X ρ (.IfExp c a b pos) it r.1 r.2:=by
 obtain⟨p,l1,l2,h1,p1,h,p2⟩:=bi (show Rs.bnd _ _=_ from h) hp
 obtain⟨t,ht,h⟩:=mY h
 obtain⟨m,he,hm⟩:=wV h p2
 have hc:=(I.e c (bL (by simp<;>omega) hs) h1 p1 G).td rfl t ht
 cases t with
 | true =>
  rw[if_pos rfl]at he
  have ha:=I.e a (bL (by simp<;>omega) hs) he hm G
  refine .of (Ed hc (by rw[if_pos rfl];exact ha.ed rfl)) fun b' hb'=>?_
  intro ow pins s σ H Q I ⟨E,q⟩
  refine isTrue_IfExp (be (hc ow pins s σ H (fun t H1=>t=true/\aJ H H1) I ⟨E,fun H1 s1=>⟨rfl,s1⟩⟩) fun t s1 ⟨H1,I1,e1,s1'⟩=>?_)
  subst e1
  exact ha.td rfl b' hb' ow pins s1 σ H1 Q I1 ⟨E.same s1',fun H2 s2=>q H2 (s1'.trans s2)⟩
 | false =>
  rw[if_neg aa8]at he
  have hb:=I.e b (bL (by simp<;>omega) hs) he hm G
  refine .of (Ed hc (by rw[if_neg aa8];exact hb.ed rfl)) fun b' hb'=>?_
  intro ow pins s σ H Q I ⟨E,q⟩
  refine isTrue_IfExp (be (hc ow pins s σ H (fun t H1=>t=false/\aJ H H1) I ⟨E,fun H1 s1=>⟨rfl,s1⟩⟩) fun t s1 ⟨H1,I1,e1,s1'⟩=>?_)
  subst e1
  exact hb.td rfl b' hb' ow pins s1 σ H1 Q I1 ⟨E.same s1',fun H2 s2=>q H2 (s1'.trans s2)⟩
theorem xN{r:D×Nat}{l:List Prop}(h:aE Φ e it sc ρ=.ok r l):gp e:=by
 cases e<;>first|(intro _ _;rfl)|cases h
theorem Dy(I:Ih Φ n){i:Expr}(hs:sizeOf (Expr.Subscript a i pos)<n+1)(h:((aE Φ a false sc ρ).bnd fun p=>(aE Φ i false sc ρ).bnd fun q=>nJ p q)=.ok r l)(hp:aP l)(G:bz Φ X sc):gq X ρ (.Subscript a i pos) it r.1 r.2:=by
 obtain⟨p,l1,l2,h1,p1,h,p2⟩:=bi h hp
 obtain⟨q,l3,l4,h2,p3,h,p4⟩:=bi h p2
 exact cz (Ll ((I.e a (bL (by simp<;>omega) hs) h1 p1 G).ed rfl) ((I.e i (bL (by simp<;>omega) hs) h2 p3 G).ed rfl) (xN h2) h) (fun _=>rfl)
theorem BC(I:Ih Φ n)(hs:sizeOf (Expr.Subscript a (.Slice lo hi none p2) pos)<n+1)(h:aE Φ (.Subscript a (.Slice lo hi none p2) pos) it sc ρ=.ok r l)(hp:aP l)(G:bz Φ X sc):gq X ρ (.Subscript a (.Slice lo hi none p2) pos) it r.1 r.2:=by
 obtain⟨p,l1,l2,h1,p1,h,q2⟩:=bi (show Rs.bnd _ _=_ from h) hp
 obtain⟨q,l3,l4,h2,p3,h,p4⟩:=bi h q2
 obtain⟨q',l5,l6,h3,p5,h,p6⟩:=bi h p4
 exact cz (G.slf X ρ a lo hi p2 pos p.1 r.1 q q' p.2 r.2 l6 ((I.e a (bL (by simp<;>omega) hs) h1 p1 G).ed rfl) (I.o lo (bL (by simp<;>omega) hs) h2 p3 G) (I.o hi (bL (by simp<;>omega) hs) h3 p5 G) h p6) (fun _=>rfl)
theorem HU(I:Ih Φ n){i:Expr}(hs:sizeOf (Expr.Subscript a i pos)<n+1)(h:aE Φ (.Subscript a i pos) it sc ρ=.ok r l)(hp:aP l)(G:bz Φ X sc):gq X ρ (.Subscript a i pos) it r.1 r.2:=by
 cases i with
 | Slice lo hi st p2 =>
  cases st with
  | none=>exact BC I hs h hp G
  | some e=>exact Dy I hs h hp G
 | _=>exact Dy I hs h hp G
theorem Ft(I:Ih Φ n)(hs:sizeOf args<n)(hf:sc.names.lookup f=some .globalImplicit)(h0:((ck Φ args sc ρ).bnd fun p=>mX Φ f it p.1 p.2)=.ok r l)(hp:aP l)(G:bz Φ X sc):gq X ρ (.Call (.Name f p) args [] pos) it r.1 r.2:=by
 obtain⟨q,l1,l2,h1,p1,h,p2⟩:=bi h0 hp
 clear h0
 have ha:=I.es args hs h1 p1 G
 obtain⟨hst,hlen⟩:=dJ h1 p1
 unfold mX at h
 split at h
 ·rename_i F hF
  obtain⟨d,l3,l4,h2,p3,h,p4⟩:=bi h p2
  cases h
  exact cz (GY G hF hf ha hst (fun z=>by subst z;exact ah5.mp hlen.symm) h2 p3) (fun _=>rfl)
 ·split at h
  ·rename_i B hB
   split at hB
   ·rename_i hit
    have hI:=G.itr f B hB
    refine⟨fun z=>(by rw[hit]at z;cases z),fun z=>(by rw[hit]at z;cases z),fun _ tg l' hl ht=>?_⟩
    exact hI.2 X ρ p pos args q.1 q.2 r.1 r.2 l' tg l2 G.calm (G.gl f hf) (G.bl f hI.1) ha hst hlen h p2 hl ht
   ·cases hB
  ·split at h
   ·rename_i B hB
    have hb:=G.blt f B hB
    cases args with
    | nil =>
     have e0:q.1=[]:=ah5.mp hlen.symm
     rw[e0,hb.2.2.2.1]at h;cases h
    | cons e es=>exact cz (Lp G hb hf ha hst h p2) (fun _=>rfl)
   ·cases h
theorem BE(I:Ih Φ n)(hs:sizeOf (Expr.Call (.Name f p) args [] pos)<n+1)(h:aE Φ (.Call (.Name f p) args [] pos) it sc ρ=.ok r l)(hp:aP l)(G:bz Φ X sc):gq X ρ (.Call (.Name f p) args [] pos) it r.1 r.2:=by
 rw[kO]at h
 split at h
 ·rename_i hf
  exact Ft I (bL (by simp<;>omega) hs) hf h hp G
 ·cases h
theorem BF(I:Ih Φ n)(hs:sizeOf (Expr.Call (.Attribute a m ap) args [] pos)<n+1)(h:aE Φ (.Call (.Attribute a m ap) args [] pos) it sc ρ=.ok r l)(hp:aP l)(G:bz Φ X sc):gq X ρ (.Call (.Attribute a m ap) args [] pos) it r.1 r.2:=by
 rw[kP]at h
 split at h
 ·rename_i hln
  obtain⟨p,l1,l2,h1,p1,h,p2⟩:=bi h hp
  obtain⟨q,l3,l4,h2,p3,h,p4⟩:=bi h p2
  obtain⟨hst,hlen⟩:=dJ h2 p3
  have hea:=(I.e a (bL (by simp<;>omega) hs) h1 p1 G).ed rfl
  have hes:=I.es args (bL (by simp<;>omega) hs) h2 p3 G
  obtain⟨x,kx⟩:=p
  unfold xY at h
  dsimp only at h hea
  split at h
  ·rename_i n ns es
   split at h
   ·rename_i hc
    split at h
    ·rename_i F hF
     obtain⟨d,l5,l6,h3,p5,h,p6⟩:=bi h p4
     cases h
     exact cz (GT G hF hea hes hst hlen hc.1 hc.2.1 hc.2.2 hln h3 p5) (fun _=>rfl)
    ·cases h
   ·cases h
  ·split at h
   ·rename_i hb
    split at h
    ·rename_i M hM
     exact cz (G.mth m M hM X ρ a args ap pos x kx q.1 q.2 r.1 r.2 l4 G.calm G.room hea hes hst hlen hln hb h p4) (fun _=>rfl)
    ·cases h
   ·cases h
 ·cases h
theorem turn_of{q:List D×Nat}{m:List Prop}(hE:∀{ρ:am} {p:D×Nat} {l:List Prop} {X:Cx},aE Φ elt false scope ρ=.ok p l->aP l->bz Φ X scope->gq X ρ elt false p.1 p.2)
    (hB:∀{ρ:am} {b:Bool} {l:List Prop} {X:Cx},eZ Φ .And ifs scope ρ=.ok b l->aP l->bz Φ X scope->fy X ρ .And ifs b) (hc:pF sc scope=true) (G:bz Φ X sc)
    (h:ii (fun d=>match bX scope tg d (flt scope ρ)with
            | none=>.st
            | some ρ'=>(eZ Φ .And ifs scope ρ').bnd fun b=>cond b ((aE Φ elt false scope ρ').bnd fun r=>.ok (some r) []) (.ok none [])) ds=.ok q m) (hp:aP m) (hj:q.2<=1) :
    ∃f:D->Option D,q.1=ds.filterMap f/\∀cl C s H fp,∀d∈ds,na (lW X scope cl C (scope.names.map (·.1)) s H fp) (flt scope ρ) tg ifs elt q.2 d (f d):=by
  generalize hst:(fun d=>match bX scope tg d (flt scope ρ)with
            | none=>.st
            | some ρ'=>(eZ Φ .And ifs scope ρ').bnd fun b=>cond b ((aE Φ elt false scope ρ').bnd fun r=>.ok (some r) []) (.ok none []):D->Rs (Option (D×Nat)))=step at h
  obtain⟨c1,c2,c3⟩:=vk h hp
  refine⟨_,c2,fun cl C s H fp d hd=>?_⟩
  have G':=GC (cl:=cl) (C:=C) (s:=s) (H:=H) (fp:=fp) G hc
  obtain⟨x,lx,hx,px⟩:=c1 d hd
  have c3:=c3 hj d hd
  have hs:=congrFun hst d
  unfold sV
  rw[hx]
  split at hs
  . rw[<- hs]at hx;cases hx
  . rename_i ρ' hb
    have gd:=yn G' hb
    have ext:∀x y,flt scope ρ x=some y->ρ' x=some y:=fun x y hxy=>A9 hb x y (kL hxy).2 hxy
    have hx0:=hx
    rw[<- hs]at hx
    obtain⟨b,l3,l4,h2,p3,hx,p4⟩:=bi hx px
    have ts:=(hB h2 p3 G').ts rfl
    cases b with
    | false =>
      cases hx
      exact⟨ρ',false,gd,ext,ts,rfl⟩
    | true =>
      rw[cond_true]at hx
      obtain⟨z,l5,l6,h3,p5,hx,p6⟩:=bi hx p4
      cases hx
      exact⟨ρ',true,gd,ext,ts,rfl,((hE h3 p5 G').ed rfl).up (c3 z lx hx0) hj⟩
theorem wB(I:Ih Φ n)(hs:sizeOf (Expr.ListComp elt [⟨tg,iter,ifs,0⟩] scope pos)<n+1)(h:aE Φ (.ListComp elt [⟨tg,iter,ifs,0⟩] scope pos) it sc ρ=.ok r l)(hp:aP l)(G:bz Φ X sc) :
  ∃ds f k,(aC ds=true\/k<=1)/\r.2<=1/\ds.length<sizeLine/\iz X.env scope (scope.names.map (·.1))/\(∀x d o,flt scope ρ x=some (d,o)->x∈scope.names.map (·.1))/\IE X ρ tg iter ds k /\
   (∀cl C s H fp,∀d∈ds,na (lW X scope cl C (scope.names.map (·.1)) s H fp) (flt scope ρ) tg ifs elt r.2 d (f d))/\(∀x,foldedSetIterable iter X.env x=pure x)/\r.1=.lst (ds.filterMap f):=by
 rw[qV]at h
 split at h
 ·rename_i hc
  obtain⟨p,l1,l2,h1,p1,h,p2⟩:=bi h hp
  split at h
  ·rename_i ds hd
   split at h
   ·rename_i ht
    obtain⟨u0,l7,l8,h7,p7,h,p8⟩:=bi h p2
    cases h7
    have hl:=And.intro p7.1 p7.2.1
    obtain⟨q,l3,l4,h2,p3,h,p4⟩:=bi h p8
    split at h
    ·rename_i hj
     cases h
     obtain⟨f,e1,t⟩:=turn_of (fun a b c=>I.e elt (by first|omega|(simp at *;omega)) a b c) (fun a b c=>I.b .And ifs (by first|omega|(simp at *;omega)) a b c) hc G h2 p3 hj
     refine⟨ds,f,p.2,hl.2,hj,ac0 hl.1 rS,AI G hc,fun x d o hx=>oP (kL hx).2,(I.e iter (by first|omega|(simp at *;omega)) h1 p1 G).ie rfl tg ds hd ht,t,rX h1,by rw[e1]⟩
    ·cases h
   ·cases h
  ·cases h
 ·cases h
theorem qO{gens:List Comprehension}(h:aE Φ (.ListComp elt gens scope pos) it sc ρ=.ok r l):∃tg iter ifs,gens=[⟨tg,iter,ifs,0⟩]:=by
 match gens,h with
 | [⟨tg,iter,ifs,0⟩],h=>exact⟨_,_,_,rfl⟩
 | [],h=>cases h
 | ⟨_,_,_,.ofNat (n+1)⟩::r,h=>cases r<;>cases h
 | ⟨_,_,_,.negSucc n⟩::_,h=>cases h
 | ⟨_,_,_,0⟩::_::_,h=>cases h
theorem Pd(I:Ih Φ n)(e:Expr)(hs:sizeOf e<n+1)(h:aE Φ e it sc ρ=.ok r l)(hp:aP l)(G:bz Φ X sc):gq X ρ e it r.1 r.2:=by
 cases e with
 | Constant c k p =>
  replace h:(match Ef c with|some d=>.ok (d,0) []|none=>.st:R1)=.ok r l:=h
  split at h
  ·rename_i d hc;cases h;exact cz (AE hc) (fun _=>rfl)
  ·cases h
 | Name x p=>exact Fs h G
 | BinOp a op b p=>exact HW I hs h hp G
 | UnaryOp op a p=>exact NH I hs h hp G
 | BoolOp op es p =>
  rw[qW]at h
  split at h
  ·cases h
  ·rename_i hne
   obtain⟨b,l1,l2,h1,p1,h,p2⟩:=bi h hp
   cases h
   have ne:es≠[]:=fun z=>hne (by rw[z];rfl)
   have c:=I.b op es (bL (by simp<;>omega) hs) h1 p1 G
   exact .of (c.ed ne p) fun b' hb'=>by cases hb';exact fun ow=>(c.tw ne p ow).pt
 | Compare a ops bs p =>
  match ops,bs,hs,h with
  | [op],[b],hs,h=>exact HV I hs h hp G
  | [],bs,_,h=>cases h
  | [op],[],_,h=>cases h
  | [op],_::_::_,_,h=>cases h
  | [op,op2],[b,c],hs,h=>exact BD I hs h hp G
  | [_,_],[],_,h=>cases h
  | [_,_],[_],_,h=>cases h
  | [_,_],_::_::_::_,_,h=>cases h
  | _::_::_::_,bs,_,h=>cases h
 | IfExp c a b p=>exact NI I hs h hp G
 | Tuple es k p =>
  obtain⟨q,l1,l2,h1,p1,h,p2⟩:=bi (show Rs.bnd _ _=_ from h) hp
  split at h
  ·rename_i hl
   unfold mk at h;cases h
   exact cz (CA (I.es es (bL (by simp<;>omega) hs) h1 p1 G) hl) (fun _=>rfl)
  ·cases h
 | List es p =>
  obtain⟨q,l1,l2,h1,p1,h,p2⟩:=bi (show Rs.bnd _ _=_ from h) hp
  split at h
  ·rename_i hl
   cases h
   exact cz (GV (I.es es (bL (by simp<;>omega) hs) h1 p1 G) hl.2 hl.1) (fun _=>rfl)
  ·cases h
 | Attribute a f p =>
  cases a with
  | Name x pn =>
   obtain⟨q,l1,l2,h1,p1,h,p2⟩:=bi (show Rs.bnd _ _=_ from h) hp
   have hea:=(I.e (.Name x pn) (bL (by simp<;>omega) hs) (it:=false) h1 p1 G).ed rfl
   obtain⟨d,kd⟩:=q
   unfold K6 at h
   dsimp only at h hea
   split at h
   ·rename_i n ns ds
    split at h
    ·rename_i hf
     split at h
     ·rename_i e hl
      cases h
      exact cz (Lm G hf hea rfl hl) (fun _=>rfl)
     ·cases h
    ·cases h
   ·cases h
  | _=>cases h
 | Dict ks vs p =>
  match ks,vs,h with
  | [],[],h=>cases h
  | _::_,_,h=>cases h
  | [],_::_,h=>cases h
 | Subscript a i p=>exact HU I hs h hp G
 | Call f args kws p =>
  cases f with
  | Name f fp =>
   cases kws with
   | nil=>exact BE I hs h hp G
   | cons _ _=>cases h
  | Attribute a m ap =>
   cases kws with
   | nil=>exact BF I hs h hp G
   | cons _ _=>cases h
  | _=>cases h
 | ListComp elt gens scope p =>
  obtain⟨tg,iter,ifs,rfl⟩:=qO h
  obtain⟨ds,f,k,a1,a2,a3,a4,a5,a6,a7,a8,a9⟩:=wB I hs h hp G
  rw[a9]
  exact cz (GX G.calm G.nd a1 a2 a3 a4 a5 a6 a7 a8) (fun _=>rfl)
 | _=>cases h
theorem Lb(I:Ih Φ n)(es:List Expr){r:List D×Nat}(hs:sizeOf es<n+1)(h:ck Φ es sc ρ=.ok r l)(hp:aP l)(G:bz Φ X sc):AD X ρ es r.1 r.2:=by
 cases es with
 | nil=>cases h;exact Nh
 | cons e es =>
  obtain⟨p,l1,l2,h1,p1,h,p2⟩:=bi (show Rs.bnd _ _=_ from h) hp
  obtain⟨q,l3,l4,h2,p3,h,p4⟩:=bi h p2
  cases h
  exact Ho ((I.e e (bL (by simp<;>omega) hs) h1 p1 G).ed rfl) (I.es es (bL (by simp<;>omega) hs) h2 p3 G) (bN (pi h1))
theorem vA{c:Bool}{r:Rs Bool}{l:List Prop}(h:yM b r=.ok c l)(hp:aP l):(b=true/\∃m,r=.ok c m/\aP m)\/(b=false/\c=false):=by
 unfold yM at h
 split at h
 ·rename_i c' m
  cases h
  cases b with
  | true=>exact .inl ⟨rfl,m,rfl,oY hp rfl⟩
  | false=>exact .inr ⟨rfl,rfl⟩
 ·cases b with
  | true=>cases h
  | false=>cases h;exact .inr ⟨rfl,rfl⟩
theorem wF{c:Bool}{r:Rs Bool}{l:List Prop}(h:DI b r=.ok c l)(hp:aP l):(b=false/\∃m,r=.ok c m/\aP m)\/(b=true/\c=true):=by
 unfold DI at h
 split at h
 ·rename_i c' m
  cases h
  cases b with
  | false=>exact .inl ⟨rfl,m,rfl,oY hp rfl⟩
  | true=>exact .inr ⟨rfl,rfl⟩
 ·cases b with
  | false=>cases h
  | true=>cases h;exact .inr ⟨rfl,rfl⟩
theorem Ld(I:Ih Φ n)(op:BoolOp)(es:List Expr)(hs:sizeOf es<n+1)(h:eZ Φ op es sc ρ=.ok b l)(hp:aP l)(G:bz Φ X sc):fy X ρ op es b:=by
 cases es with
 | nil =>
  cases op with
  | And=>cases h;exact⟨fun z=>absurd rfl z,fun z=>absurd rfl z,fun _=>zi⟩
  | Or=>cases h;exact⟨fun z=>absurd rfl z,fun z=>absurd rfl z,fun z=>(by cases z)⟩
 | cons e es =>
  cases op with
  | And =>
   obtain⟨p,l1,l2,h1,p1,h,p2⟩:=bi (show Rs.bnd _ _=_ from h) hp
   obtain⟨b',hb,h⟩:=mY h
   have c:=I.e e (bL (by simp<;>omega) hs) h1 p1 G
   have ce:=c.ed rfl
   rw[hb]at ce
   have ct:=c.td rfl b' hb
   rcases vA h p2 with⟨rfl,m,h,pm⟩|⟨rfl,rfl⟩
   ·cases es with
    | nil=>cases h;exact ij ce ct
    | cons e2 es=>exact v5 ce ct (I.b .And (e2::es) (bL (by simp<;>omega) hs) h pm G)
   ·cases es with
    | nil=>exact ij ce ct
    | cons e2 es=>exact vw ce ct (fun pos=>⟨_,um⟩) (fun pos=>⟨_,uk⟩)
  | Or =>
   obtain⟨p,l1,l2,h1,p1,h,p2⟩:=bi (show Rs.bnd _ _=_ from h) hp
   obtain⟨b',hb,h⟩:=mY h
   have c:=I.e e (bL (by simp<;>omega) hs) h1 p1 G
   have ce:=c.ed rfl
   rw[hb]at ce
   have ct:=c.td rfl b' hb
   rcases wF h p2 with⟨rfl,m,h,pm⟩|⟨rfl,rfl⟩
   ·cases es with
    | nil=>cases h;exact ij ce ct
    | cons e2 es=>exact yE ce ct (I.b .Or (e2::es) (bL (by simp<;>omega) hs) h pm G)
   ·cases es with
    | nil=>exact ij ce ct
    | cons e2 es=>exact v4 ce ct (fun pos=>⟨_,um⟩) (fun pos=>⟨_,uk⟩)
theorem Lc(I:Ih Φ n)(e:Option Expr){o:Option Int}(hs:sizeOf e<n+1)(h:nA Φ e sc ρ=.ok o l)(hp:aP l)(G:bz Φ X sc):OD X ρ e o:=by
 cases e with
 | none=>cases h;exact Gd
 | some e =>
  obtain⟨p,l1,l2,h1,p1,h,p2⟩:=bi (show Rs.bnd _ _=_ from h) hp
  have c:=(I.e e (bL (by simp<;>omega) hs) h1 p1 G).ed rfl
  split at h
  ·rename_i i hi
   cases h
   rw[hi]at c
   exact Gc c
  ·cases h
end
theorem iZ(Φ:Fx):∀n,Ih Φ n
 | 0=>⟨fun _ _ _ _ _ _ _ h=>absurd h (ae3 _),fun _ _ _ _ _ _ h=>absurd h (ae3 _),fun _ _ _ _ _ _ _ h=>absurd h (ae3 _),fun _ _ _ _ _ _ h=>absurd h (ae3 _)⟩
 | n+1=>⟨fun e _ _ _ _ _ _ hs h hp G=>Pd (iZ Φ n) e hs h hp G,fun e _ _ _ _ _ hs h hp G=>Lb (iZ Φ n) e hs h hp G,fun op e _ _ _ _ _ hs h hp G=>Ld (iZ Φ n) op e hs h hp G,fun e _ _ _ _ _ hs h hp G=>Lc (iZ Φ n) e hs h hp G⟩
theorem Pf(e:Expr){p:D×Nat}{l:List Prop}(h:aE Φ e it sc ρ=.ok p l)(hp:aP l)(G:bz Φ X sc):gq X ρ e it p.1 p.2:=(iZ Φ _).e e (ac5 _) h hp G
theorem j7(es:List Expr){p:List D×Nat}{l:List Prop}(h:ck Φ es sc ρ=.ok p l)(hp:aP l)(G:bz Φ X sc):AD X ρ es p.1 p.2:=(iZ Φ _).es es (ac5 _) h hp G
structure bH(ow:Ow)(H:Hp)(ow':Ow)(H':Hp):Prop where
 keep:∀a o,H a=some o->(nm o\/ow a=none)->H' a=some o
 low:∀a o,H a=some o->ow a=none->ow' a=none
theorem bH.refl(ow:Ow)(H:Hp):bH ow H ow H:=⟨fun _ _ h _=>h,fun _ _ _ h=>h⟩
theorem bH.same(s:aJ H H'):bH ow H ow H':=⟨fun a o h _=>s a o h,fun _ _ _ h=>h⟩
theorem bH.trans{ow1 ow2:Ow}{H2:Hp}(a:bH ow H ow1 H1)(b:bH ow1 H1 ow2 H2):bH ow H ow2 H2 :=
 ⟨fun x o h c=>b.keep x o (a.keep x o h c) (c.imp id fun z=>a.low x o h z),fun x o h z=>b.low x o (a.keep x o h (.inr z)) (a.low x o h z)⟩
def d7(H0:Hp)(ow:Ow)(H:Hp):Prop:=∀a o,H0 a=some o->H a=some o/\ow a=none
theorem d7.keep(b:d7 H0 ow H)(k:bH ow H ow' H'):d7 H0 ow' H':=fun a o h=>let ⟨h1,h2⟩:=b a o h;⟨k.keep a o h1 (.inr h2),k.low a o h1 h2⟩
theorem d7.sm(b:d7 H0 ow H):aJ H0 H:=fun a o h=>(b a o h).1
variable{X:Cx}
def oh(X:Cx)(H0:Hp)(ow:Ow)(H:Hp)(fl:Fl)(D:mC):Prop :=
 match fl with
 | .nx ρ => ∀ow' σ' H',bm X ow' H' σ' ρ->σ'.length=X.N.length->bH ow H ow' H'->D.nx σ' H'
 | .bk ρ => ∀ow' σ' H',bm X ow' H' σ' ρ->σ'.length=X.N.length->bH ow H ow' H'->D.bk σ' H'
 | .ct ρ => ∀ow' σ' H',bm X ow' H' σ' ρ->σ'.length=X.N.length->bH ow H ow' H'->D.ct σ' H'
 | .rt d => ∀v H',aJ H0 H'->ao X.K H' (fun a b=>b=true/\H0 a=none) d v->D.rt v H'
theorem oh.keep{D:mC}(p:oh X H0 ow H fl D)(k:bH ow H ow' H'):oh X H0 ow' H' fl D:=by
 cases fl with
 | nx ρ=>exact fun ow2 σ2 H2 a b c=>p ow2 σ2 H2 a b (k.trans c)
 | bk ρ=>exact fun ow2 σ2 H2 a b c=>p ow2 σ2 H2 a b (k.trans c)
 | ct ρ=>exact fun ow2 σ2 H2 a b c=>p ow2 σ2 H2 a b (k.trans c)
 | rt d=>exact p
def zp(X:Cx)(H0:Hp)(ρ:am)(fl:Fl):TS:=fun D σ H => ∃ow,bm X ow H σ ρ/\σ.length=X.N.length/\d7 H0 ow H/\oh X H0 ow H fl D
def SD(X:Cx)(H0:Hp)(ρ:am)(st:Stmt)(fl:Fl):Prop:=PS X st (zp X H0 ρ fl)
def iw(X:Cx)(H0:Hp)(ρ:am)(st:List Stmt)(fl:Fl):Prop:=gM X st (zp X H0 ρ fl)
theorem Fu:iw X H0 ρ [] (.nx ρ):=fun pins s σ H D I ⟨ow,E,hl,B,q⟩=>FL pins s σ H D I (q ow σ H E hl (bH.refl _ _))
theorem gO{ρ1:am}(h1:SD X H0 ρ st (.nx ρ1))(h2:iw X H0 ρ1 ss fl):iw X H0 ρ (st::ss) fl:=fun pins s σ H D I ⟨ow,E,hl,B,q⟩ =>
 iU h1 h2 pins s σ H D I ⟨ow,E,hl,B,fun ow' σ' H' E' hl' k=>⟨ow',E',hl',B.keep k,q.keep k⟩⟩
theorem nK(h1:SD X H0 ρ st fl)(hf:∀ρ',fl ≠ .nx ρ'):iw X H0 ρ (st::ss) fl:=fun pins s σ H D I ⟨ow,E,hl,B,q⟩ =>
 iU h1 lJ pins s σ H D I ⟨ow,E,hl,B,by
  cases fl with
  | nx ρ'=>exact absurd rfl (hf ρ')
  | bk ρ'=>exact q
  | ct ρ'=>exact q
  | rt d=>exact q⟩
theorem Iz(h:ED X ρ e d k)(hk:k=0\/k=2):SD X H0 ρ (.Return (some e) pos) (.rt d):=fun pins s σ H D I ⟨ow,E,hl,B,q⟩ =>
 zD (h ow) pins s σ H D I ⟨E,fun v H1 s1 r1=>q v H1 (B.sm.trans s1) (r1.imp fun a b p=>by
  rcases hk with rfl|rfl
  ·exact⟨p.1,B.sm.free p.2⟩
  ·refine⟨p.1,p.2.elim (fun z=>?_) B.sm.free⟩
   cases e0:H0 a with
   | none=>rfl
   | some o=>exact absurd (B a o e0).2 z)⟩
theorem GQ(E:bm X ow H σ ρ):bm X (fun _=>none) H σ (kh ρ):=by
 refine⟨fun x d o h=>?_,fun a z=>absurd rfl z⟩
 unfold kh at h
 cases e:ρ x with
 | none=>rw[e]at h;cases h
 | some y =>
  rw[e]at h
  cases h
  obtain⟨i,v,h1,h2,h3,h4⟩:=E.get x y.1 y.2 e
  exact⟨i,v,h1,h2,h3,h4.imp fun _ _ _ _=>rfl⟩
theorem FB(h:ED X (kh ρ) e d k)(hk:k=0\/k=2):SD X H0 ρ (.Return (some e) pos) (.rt d):=fun pins s σ H D I ⟨ow,E,hl,B,q⟩ =>
 zD (h fun _=>none) pins s σ H D I ⟨GQ E,fun v H1 s1 r1=>q v H1 (B.sm.trans s1) (r1.imp fun a b p=>by
  rcases hk with rfl|rfl
  ·exact⟨p.1,B.sm.free p.2⟩
  ·exact⟨p.1,p.2.elim (fun z=>absurd rfl z) B.sm.free⟩)⟩
theorem FF(h:ED X ρ e d k)(hc:∃f p args ks cp,e=.Call (.Name f p) args ks cp):SD X H0 ρ (.Expr e pos) (.nx ρ):=fun pins s σ H D I ⟨ow,E,hl,B,q⟩=>by
 obtain⟨f,p,args,ks,cp,rfl⟩:=hc
 exact jO (h ow) rfl pins s σ H D I ⟨E,fun v H1 s1 r1=>q ow σ H1 (E.same s1) hl (bH.same s1)⟩
theorem FA:SD X H0 ρ (.Return none pos) (.rt .non):=fun pins s σ H D I ⟨ow,E,hl,B,q⟩=>FM pins s σ H D I (q .non H B.sm (by rw[ao]))
theorem FC:SD X H0 ρ (.Pass pos) (.nx ρ):=fun pins s σ H D I ⟨ow,E,hl,B,q⟩=>FN pins s σ H D I (q ow σ H E hl (bH.refl _ _))
theorem BN:SD X H0 ρ (.Break pos) (.bk ρ):=fun pins s σ H D I ⟨ow,E,hl,B,q⟩=>BR pins s σ H D I (q ow σ H E hl (bH.refl _ _))
theorem FG:SD X H0 ρ (.Continue pos) (.ct ρ):=fun pins s σ H D I ⟨ow,E,hl,B,q⟩=>vS pins s σ H D I (q ow σ H E hl (bH.refl _ _))
theorem DB{a b:List Stmt}(hc:TD X ρ c t)(h:if t=true then iw X H0 ρ a fl else iw X H0 ρ b fl):SD X H0 ρ (.If c a b pos) fl:=by
 cases t with
 | true =>
  intro pins s σ H D I ⟨ow,E,hl,B,q⟩
  exact DE (hc ow) h lJ pins s σ H D I ⟨E,fun H1 s1=>by
   show if true=true then _ else _
   rw[if_pos rfl]
   exact⟨ow,E.same s1,hl,B.keep (bH.same s1),q.keep (bH.same s1)⟩⟩
 | false =>
  intro pins s σ H D I ⟨ow,E,hl,B,q⟩
  exact DE (hc ow) lJ h pins s σ H D I ⟨E,fun H1 s1=>by
   show if false=true then _ else _
   rw[if_neg aa8]
   exact⟨ow,E.same s1,hl,B.keep (bH.same s1),q.keep (bH.same s1)⟩⟩
theorem qY(hN:X.N.Nodup)(hl:σ.length=X.N.length)(E:bm X ow H σ ρ)(sm:aJ H H1)(hi:X.N[i]?=some x)(hv:gB X.env.scope x)(r:ao X.K H1 (Kp ow H 0) d v) :
  ∃ow',bm X ow' H1 (σ.set i (some v)) (bT ρ x (d,true))/\bH ow H ow' H1:=by
 classical
 let ow':Ow:=fun a=>if H a=none/\∃o,H1 a=some o then some (some x)else ow a
 have o1:∀a o,H a=some o->ow' a=ow a:=fun a o h=>if_neg (fun z=>by rw[h]at z;cases z.1)
 have E1:bm X ow' H1 σ ρ:=⟨fun y e o h=>by
  obtain⟨j,w,e1,e2,e3,e4⟩:=E.get y e o h
  refine⟨j,w,e1,e2,e3,ao.same sm (e4.impH (fun a ob ha p=>?_) fun a p=>?_)⟩
  ·cases o with
   | true=>exact⟨p.1,(o1 a ob ha).trans p.2⟩
   | false=>exact fun z=>(o1 a ob ha).trans (p z)
  ·cases o with
   | true=>cases p.1
   | false=>exact fun z=>(by cases z),fun a ha=>by
  by_cases hz:H a=none/\∃o,H1 a=some o
  ·exact hz.2
  ·have:ow' a=ow a:=if_neg hz
   rw[this]at ha
   exact(E.own.same sm) a ha⟩
 refine⟨ow',fe hN hl E1 hi hv (r.impH (fun a o ha p=>⟨rfl,if_pos ⟨p.2,o,ha⟩⟩) fun a p=>(by cases p.1)),fun a o h _=>sm a o h,fun a o h z=>(o1 a o h).trans z⟩
theorem jw{t:Option Expr}(h:jT e=false):swapsWith e t n env=pure false:=by
 cases e<;>first|rfl|cases h
theorem oA{o:Bool}(G:bz Φ X sc)(hx:dE sc x=true)(h:ED X ρ e d k)(ho:(k=0/\o=true)\/(k=1/\o=false))(hs:swapsWith e (some (.Name x p)) pos.line X.env=pure false) :
  SD X H0 ρ (.Assign [.Name x p] e pos) (.nx (bT ρ x (d,o))):=by
 obtain⟨g1,g2,g3,i,g4⟩:=fH G hx
 intro pins s σ H D I ⟨ow,E,hl,B,q⟩
 refine IV (i:=i) G.nd g4 g1 (h ow) hs g3 pins s σ H D I ⟨E,fun v H1 s1 r1=>?_⟩
 show D.nx (σ.set i (some v)) H1
 rcases ho with⟨rfl,rfl⟩|⟨rfl,rfl⟩
 ·obtain⟨ow',E',k'⟩:=qY G.nd hl E s1 g4 g2 r1
  exact q ow' _ H1 E' (by rw[ad8];exact hl) k'
 ·exact q ow _ H1 (fe G.nd hl (E.same s1) g4 g2 r1) (by rw[ad8];exact hl) (bH.same s1)
theorem im:swapsWithSole [.Tuple es n p] e k env=pure false:=by
 cases e<;>rfl
theorem zr{i:Expr}:swapsWithSole [.Subscript a i p] e k env=pure false:=by
 cases e<;>rfl
def WK(K:W.Frag)(n:Nat)(t:pR):TG:=fun v σ H Q => ∃a xs,v=.ref a/\de K H a xs/\xs.length=n/\t xs σ H Q
theorem Jo{t:pR}(hc:X.calm=true)(h:xh X es t)
  (hn:(assignEach es X.env).length=n) (hst:(assignEach es X.env).findIdx? (·.1)=none):PG X (.Tuple es k pos) (WK X.K n t):=by
 intro pins s σ H v u Q I r hw
 obtain⟨a,xs,e1,hq,hl,hw⟩:=hw
 subst e1
 cases r
 obtain⟨its,rv,pl,hz⟩:=I.list hq
 have hsz:(assignEach es X.env).length=its.toArray.size:=by simp[hn,<- hl,rv.length]
 rw[assign_Tuple]
 refine ZL (wpAny_standAt ?_)
 unfold unpack
 rw[hst,hsz]
 refine ZL (af4 (W.kun_itemsOf (I.ok.hd hc) pl.isList fun h' hx=>?_))
 have I1:Inv X pins σ H { s with heap:=h' }:=I.kept (t':=s.toks) fun b o e=>hx b o (ac1 (ZS e)) e
 exact h pins _ σ H xs _ Q I1 (by simpa using rv) hw
theorem oB(o:fT ow H)(hf:aC ds=true\/k<=1)(r:ar X.K H1 (Kp ow H k) ds vs):ar X.K H1 (fun a b=>b=true->ow a=none) ds vs:=by
 rcases hf with hf|hf
 ·exact r.flat _ hf
 ·exact r.imp fun a b p hb=>by subst hb;exact gm o hf p
theorem mH(G:bz Φ X sc)(ht:nv sc es e=false):swappedStores [.Tuple es n p] e X.env=pure none:=by
 unfold nv at ht
 cases hte:iY e with
 | false=>cases e<;>first|rfl|cases hte
 | true =>
  rw[hte]at ht
  have hc:vp sc es e=true:=by simpa using ht
  unfold vp at hc
  split at hc
  ·rename_i x px y py a b m q
   have k1:X.env.kindOf x=some .cell:=G.cc x (by simpa using hc)
   unfold swappedStores
   dsimp only
   split
   ·rfl
   ·split
    ·rfl
    ·rw[if_pos]
     rw[List.filterMap_cons_none (by simp[k1])]
     have:∀l:List Str,l.length<=1->(l.length != [Expr.Name x px,Expr.Name y py].length || l.eraseDups.length != l.length)=true:=fun l hl=>by
      have:(l.length != [Expr.Name x px,Expr.Name y py].length)=true:=by simp;omega
      rw[this];rfl
     exact this _ (ZN (List.length_filterMap_le _ _) (ZP _))
  ·cases hc
theorem Iy(G:bz Φ X sc)(h:ED X ρ e d k)(hd:hX d=some ds)(hf:aC ds=true\/k<=1)(hb:bx sc es ds ρ=some ρ')(ht:nv sc es e=false) :
  SD X H0 ρ (.Assign [.Tuple es n p] e pos) (.nx ρ'):=by
 obtain⟨t,h1,h2,h3,h4⟩:=lM G hb
 intro pins s σ H D I ⟨ow,E,hl,B,q⟩
 have fin:∀H1 vs,aJ H H1->ar X.K H1 (Kp ow H k) ds vs->t vs σ H1 D.nx:=fun H1 vs s1 rl=>h4 ow vs σ H1 D.nx hl (E.same s1) (oB E.own hf rl) fun σ' hl' E'=>q ow σ' H1 E' hl' (bH.same s1)
 rcases gP hd with rfl|rfl
 ·refine lK (h ow) (oC (n:=_) G.calm h1 h2 h3) im (mH G ht) rfl pins s σ H D I ⟨E,fun v H1 s1 r1=>?_⟩
  obtain⟨a,vs,rfl,hs,rl⟩:=fG r1
  exact⟨a,vs,rfl,hs,rl.length.symm,fin H1 vs s1 rl⟩
 ·refine lK (h ow) (Jo (n:=_) G.calm h1 h2 h3) im (mH G ht) rfl pins s σ H D I ⟨E,fun v H1 s1 r1=>?_⟩
  obtain⟨a,vs,rfl,hs,rl⟩:=hW r1
  exact⟨a,vs,rfl,hs,rl.length.symm,fin H1 vs s1 rl⟩
theorem NW{P:bO}{a b:D}(h:ar K H P [a,b] vs):∃x y,vs=[x,y]/\ao K H P a x/\ao K H P b y:=by
 rw[ar]at h
 obtain⟨x,r,rfl,h1,h⟩:=h
 rw[ar]at h
 obtain⟨y,r,rfl,h2,h⟩:=h
 rw[ar]at h
 subst h
 exact⟨x,y,rfl,h1,h2⟩
theorem FD{pt:Pos}{p:D×Nat}(G:bz Φ X sc)(h:ED X ρ e p.1 p.2)(ho:ur sc es p=true)(ht:nv sc es e=false) :
  SD X H0 ρ (.Assign [.Tuple es n pt] e pos) (.nx (xL es p ρ)):=by
 obtain⟨d,k⟩:=p
 unfold ur at ho
 split at ho
 ·rename_i x px y py d1 d2 e0 e1
  have e0:d=_:=e0
  have e1:k=_:=e1
  subst e0 e1
  simp only[ZZ,Bool.not_eq_true',decide_eq_false_iff_not]at ho
  obtain⟨⟨⟨⟨f1,_⟩,hxy⟩,hx⟩,hy⟩:=ho
  obtain⟨g1,g2,g3,i,g4⟩:=fH G hx
  obtain⟨j1,j2,j3,j,j4⟩:=fH G hy
  have hij:i≠j:=fun z=>by subst z;rw[g4]at j4;exact hxy (ad5 j4)
  intro pins s σ H D I ⟨ow,E,hl,B,q⟩
  refine lK (h ow) (oC (n:=2) G.calm (iV (gQ (i:=i) G.nd g4 g1 g3) (iV (gQ (i:=j) G.nd j4 j1 j3) qx rfl) rfl) rfl rfl) im (mH G ht) rfl pins s σ H D I ⟨E,fun v H1 s1 r1=>?_⟩
  obtain⟨a,vs,rfl,hs,rl⟩:=fG r1
  obtain⟨v1,v2,rfl,r2,r3⟩:=NW rl
  refine⟨a,[v1,v2],rfl,hs,rfl,v1,[v2],rfl,v2,[],rfl,rfl,?_⟩
  obtain⟨ow',E',k'⟩:=qY G.nd hl E s1 j4 j2 r3
  have hl':(σ.set j (some v2)).length=X.N.length:=by rw[ad8];exact hl
  have E2:=fe (o:=false) G.nd hl' E' g4 g2 (r2.flat _ f1)
  rw[List.set_comm _ _ hij]
  exact q ow' _ H1 E2 (by rw[ad8];exact hl') k'
 ·cases ho
theorem xB{y:Str}{b:Expr}(G:bz Φ X sc)(hk:X.env.scope.kind=.function)(h:oE sc x y px py a b=true)(ha:∀x p,a ≠ .Starred x p)(hb:∀x p,b ≠ .Starred x p) :
  swappedStores [.Tuple [.Name x px,.Name y py] n p] (.Tuple [a,b] n2 p2) X.env=pure (some [x,y]):=by
 unfold oE at h
 simp only[ZZ,Bool.not_eq_true',aj8,decide_eq_false_iff_not]at h
 obtain⟨⟨⟨⟨⟨h1,h2⟩,h3⟩,h4⟩,h5⟩,h6⟩:=h
 have k1:X.env.kindOf x=some .local:=G.lc x h1
 have k2:X.env.kindOf y=some .local:=G.lc y h2
 have bk:X.env.blockKind=.function:=by unfold Env.blockKind;rw[hk];rfl
 have an:∀f:Expr->Bool,(∀e,(∀x p,e ≠ .Starred x p)->f e=false) -> ¬ ([a,b].any f=true):=fun f hf=>by simp[hf a ha,hf b hb]
 have fm:∀f:Expr->Option Str,f (.Name x px)=some x->f (.Name y py)=some y->[Expr.Name x px,Expr.Name y py].filterMap f=[x,y]:=fun f h1 h2=>by simp[h1,h2]
 have ed:[x,y].eraseDups=[x,y]:=by
  have e1:(!(y==x))=true:=by simp;exact fun z=>h4 z.symm
  rw[List.eraseDups_cons,List.filter_cons_of_pos (p:=fun b => !b==x) e1,List.filter_nil]
  rfl
 unfold swappedStores
 dsimp only
 rw[bk]
 refine(if_neg (by simp)).trans ?_
 refine(if_neg (an _ fun e he=>by cases e<;>first|rfl|exact absurd rfl (he _ _))).trans ?_
 rw[fm _ (by show(if (X.env.kindOf x==some NameKind.local&&px.line==px.line)=true then some x else none)=some x;rw[k1];simp) (by show(if (X.env.kindOf y==some NameKind.local&&py.line==px.line)=true then some y else none)=some y;rw[k2,h3];simp)]
 rw[ed]
 refine(if_neg (by simp)).trans ?_
 rw[h5,h6]
 rfl
theorem IA{b:Expr}{y:Str}{u v:D}(G:bz Φ X sc)(h:AD X ρ [a,b] [u,v] k)(hf:aC [u,v]=true\/k<=1)(hp:oE sc x y px py a b=true)(ha:∀x p,a ≠ .Starred x p)(hb:∀x p,b ≠ .Starred x p) :
  SD X H0 ρ (.Assign [.Tuple [.Name x px,.Name y py] n p] (.Tuple [a,b] n2 p2) pos) (.nx (bT (bT ρ x (u,false)) y (v,false))):=by
 have hp0:=hp
 unfold oE at hp
 simp only[ZZ,Bool.not_eq_true',aj8,decide_eq_false_iff_not]at hp
 obtain⟨⟨⟨⟨⟨l1,l2⟩,_⟩,hxy⟩,_⟩,_⟩:=hp
 obtain⟨g1,g2,g3,i,g4⟩:=fH (x:=x) G (by unfold dE;rw[l1];rfl)
 obtain⟨j1,j2,j3,j,j4⟩:=fH (x:=y) G (by unfold dE;rw[l2];rfl)
 have hij:i≠j:=by intro z;subst z;rw[g4]at j4;cases j4;exact hxy rfl
 intro pins s σ H D I ⟨ow,E,hl,B,q⟩
 refine IW (i:=i) (j:=j) G.calm G.nd g4 j4 hij (G.lc x l1) (G.lc y l2) (h ow) (xB G I.ok.kind hp0 ha hb) im pins s σ H D I ⟨E,fun vs H1 s1 r1=>?_⟩
 have rs:=oB E.own hf r1
 rw[ar]at rs
 obtain⟨v1,r,rfl,rv1,rs⟩:=rs
 obtain⟨v2,rfl,rv2⟩:=rs.only
 refine⟨v1,v2,rfl,?_⟩
 have E1:=fe (o:=false) G.nd hl (E.same s1) g4 g2 rv1
 have hl1:(σ.set i (some v1)).length=X.N.length:=by rw[ad8];exact hl
 exact q ow _ H1 (fe (o:=false) G.nd hl1 E1 j4 j2 rv2) (by rw[ad8];exact hl1) (bH.same s1)
theorem AC{a:Addr}(E:bm X ow H1 σ ρ)(hi:X.N[i]?=some x)(hs:σ[i]?=some (some (.ref a)))
  (hv:gB X.env.scope x) (ha:H1 a=some (.lst vs)) (ho:ow a=some (some x)) (f:aC l'=true) (r:ar X.K H1 (fun _ _=>True) l' vs') :
  bm X ow (bv H1 a (.lst vs')) σ (bT ρ x (.lst l',true)):=by
 have st:∀{P:bO},(P a true->False)->fz P P H1 (bv H1 a (.lst vs')):=fun {P} h=>⟨fun b o hb hn=>by rw[aK (fun z=>by subst z;rw[ha]at hb;cases hb;exact hn)];exact hb,fun b ws hb p=>by rw[aK (fun z=>by subst z;exact h p)];exact hb,fun _ _ _ p=>p,fun _ p=>p⟩
 have r':ar X.K (bv H1 a (.lst vs')) (lN ow x true) l' vs':=ar.flat _ f ((r.flat (fun _ _=>False) f).mono (st fun z=>z))
 refine⟨fun y e o h=>?_,fun b hb=>?_⟩
 ·rw[fv]at h
  by_cases hy:y=x
  ·subst hy
   rw[if_pos rfl]at h
   cases h
   exact⟨i,.ref a,hi,hv,hs,by rw[ao];exact⟨a,vs',true,rfl,bg,⟨rfl,ho⟩,r'⟩⟩
  ·rw[if_neg hy]at h
   obtain⟨j,w,e1,e2,e3,e4⟩:=E.get y e o h
   refine⟨j,w,e1,e2,e3,e4.mono (st fun p=>?_)⟩
   cases o with
   | true=>have:=p.2;rw[ho]at this;cases this;exact hy rfl
   | false=>have:=p rfl;rw[ho]at this;cases this
 ·by_cases hz:b=a
  ·subst hz;exact⟨_,bg⟩
  ·rw[aK hz];exact E.own b hb
theorem JB(E:bm X ow H σ ρ)(h:ρ x=some (.lst l,true)):∃(i:Nat) (a:Addr) (vs:List V),X.N[i]?=some x/\gB X.env.scope x/\σ[i]?=some (some (.ref a))/\H a=some (.lst vs)/\ow a=some (some x)/\ar X.K H (fun _ _=>True) l vs:=by
 obtain⟨i,v,e1,e2,e3,e4⟩:=E.get x _ _ h
 rw[ao]at e4
 obtain⟨a,vs,b,rfl,hl,hp,rl⟩:=e4
 cases hp.1
 exact⟨i,a,vs,e1,e2,e3,hl,hp.2,rl.imp fun _ _ _=>True.intro⟩
theorem ye{a:Addr}(sm:aJ H H1)(h0:H a=some (.lst vs))(ho:ow a=some (some x)):bH ow H ow (bv H1 a (.lst vs')) :=
 ⟨fun b o h c=>by
  rw[aK (fun z=>by
   subst z
   rw[h0]at h;cases h
   rcases c with c|c
   ·exact c
   ·rw[ho]at c;cases c)]
  exact sm b o h,fun _ _ _ z=>z⟩
theorem lV(I:Inv X pins σ H s){a:Addr}{o:Obj}(h:X.K.lookup a=some o):H a=none:=(I.bs a o (I.ok.mod.kin a o h)).2
mutual
def D.lsz:D->Nat
 | .lst l=>1+jy l
 | .tup l=>jy l
 | _=>0
def jy:List D->Nat
 | []=>0
 | d::l=>d.lsz+jy l
end
theorem Cf(I:Inv X pins σ H s){P:bO}{a:Addr}(ha:H a=some (.lst vs))(h:ao X.K H P d (.ref a)):∃l,d=.lst l:=by
 cases d with
 | lst l=>exact⟨l,rfl⟩
 | tup l =>
  rw[ao]at h
  obtain⟨a',vs',e,hs,_⟩:=h
  cases e
  rcases hs with(q|⟨o,q⟩)|⟨o,its,n,q,_⟩
  ·rw[ha]at q;cases q
  ·rw[ha]at q;cases q
  ·rw[lV I q]at ha;cases ha
 | dct _ _=>rw[ao]at h;obtain⟨_,_,a',_,e,hl,_⟩:=h;cases e;rw[ha]at hl;cases hl
 | sn m=>rw[ao]at h;obtain⟨a',S,e,hl⟩:=h;cases e;rw[ha]at hl;cases hl
 | obj n ns es=>rw[ao]at h;obtain⟨_,_,a',C,dx,vs',e,_,_,hl,_⟩:=h;cases e;rw[ha]at hl;cases hl
 | cls n=>rw[ao]at h;obtain⟨C,o',e,_,hl,_⟩:=h;cases e;rw[lV I hl]at ha;cases ha
 | _=>rw[ao]at h;cases h
theorem By(I:Inv X pins σ H s){P:bO}(hP:∀a b,P a b->b=true){a:Addr}(ha:dh X.K H a vs)(h:ao X.K H P d (.ref a)):∃l,d=.tup l/\ar X.K H P l vs:=by
 have no:∀o,H a=some o->(∀xs,o ≠ .tup xs)->(∀p q,o ≠ .frz p q)->False:=fun o e h1 h2=>by
  rcases ha with(q|⟨o',q⟩)|⟨o',its,n,q,_⟩
  ·rw[e]at q;cases q;exact h1 _ rfl
  ·rw[e]at q;cases q;exact h2 _ _ rfl
  ·rw[lV I q]at e;cases e
 cases d with
 | lst l =>
  rw[ao]at h
  obtain⟨a',vs',b,e,hl,p,_⟩:=h
  cases e
  cases hP _ _ p
  exact(no _ hl (fun _ z=>nomatch z) fun _ _ z=>nomatch z).elim
 | tup l =>
  rw[ao]at h
  obtain⟨a',vs',e,hs,rl⟩:=h
  cases e
  have:=I.tuple_inj ha hs
  subst this
  exact⟨l,rfl,rl⟩
 | dct _ _=>rw[ao]at h;obtain⟨_,_,a',_,e,hl,_⟩:=h;cases e;exact(no _ hl (fun _ z=>nomatch z) fun _ _ z=>nomatch z).elim
 | sn m=>rw[ao]at h;obtain⟨a',S,e,hl⟩:=h;cases e;exact(no _ hl (fun _ z=>nomatch z) fun _ _ z=>nomatch z).elim
 | obj n ns es=>rw[ao]at h;obtain⟨_,_,a',C,dx,vs',e,_,_,hl,_⟩:=h;cases e;exact(no _ hl (fun _ z=>nomatch z) fun _ _ z=>nomatch z).elim
 | cls n =>
  rw[ao]at h
  obtain⟨C,o',e,_,hl,ht,_⟩:=h
  cases e
  rcases ha with(q|⟨o,q⟩)|⟨o,its,n,q,hc,_⟩
  ·rw[lV I hl]at q;cases q
  ·rw[lV I hl]at q;cases q
  ·rw[hl]at q;cases q;rw[hc]at ht;injection ht with ht;exact absurd ht (by decide)
 | _=>rw[ao]at h;cases h
mutual
theorem ug{pins:List (Addr×Obj)}{σ:L2.St}{H:Hp}{s:Shared}(I:Inv X pins σ H s){P:bO}(hP:∀a b,P a b->b=true):∀(d d':D) (v:V),ao X.K H P d v->ao X.K H P d' v->d.lsz<=d'.lsz
 | .tup l,d',v,h,h'=>by
  rw[ao]at h
  obtain⟨a,vs,rfl,hs,rl⟩:=h
  obtain⟨l',rfl,rl'⟩:=By I hP hs h'
  rw[D.lsz,D.lsz];exact lH I hP l l' vs rl rl'
 | .lst l,d',v,h,h'=>by
  rw[ao]at h
  obtain⟨a,vs,b,rfl,hs,p,rl⟩:=h
  cases hP _ _ p
  replace hs:H a=some (.lst vs):=hs
  obtain⟨l',rfl⟩:=Cf I hs h'
  rw[ao]at h'
  obtain⟨a',vs',b,e,hl,p',rl'⟩:=h'
  cases e
  cases hP _ _ p'
  replace hl:H a=some (.lst vs'):=hl
  rw[hs]at hl;cases hl
  rw[D.lsz,D.lsz]
  exact Nat.add_le_add_left (lH I hP l l' vs rl rl') 1
 | .non,_,_,_,_=>ZY _
 | .bl _,_,_,_,_=>ZY _
 | .int _,_,_,_,_=>ZY _
 | .str _,_,_,_,_=>ZY _
 | .dct _ _,_,_,_,_=>ZY _
 | .typ _,_,_,_,_=>ZY _
 | .sn _,_,_,_,_=>ZY _
 | .obj _ _ _,_,_,_,_=>ZY _
 | .cls _,_,_,_,_=>ZY _
theorem lH{pins:List (Addr×Obj)}{σ:L2.St}{H:Hp}{s:Shared}(I:Inv X pins σ H s){P:bO}(hP:∀a b,P a b->b=true):∀(l l':List D) (vs:List V),ar X.K H P l vs->ar X.K H P l' vs->jy l<=jy l'
 | [],l',vs,h,h'=>ZY _
 | d::l,l',vs,h,h'=>by
  rw[ar]at h
  obtain⟨v,r,rfl,h1,h2⟩:=h
  cases l' with
  | nil=>rw[ar]at h';cases h'
  | cons d' l' =>
   rw[ar]at h'
   obtain⟨v',r',e,h1',h2'⟩:=h'
   cases e
   rw[jy,jy]
   exact Nat.add_le_add (ug I hP d d' v h1 h1') (lH I hP l l' r h2 h2')
end
mutual
theorem IR{pins:List (Addr×Obj)}{σ:L2.St}{H:Hp}{s:Shared}(I:Inv X pins σ H s){P:bO}(hP:∀a b,P a b->b=true){A:Addr}{l:List D}(hA:ao X.K H P (.lst l) (.ref A)):∀(d:D) (v:V),d.lsz<(D.lst l).lsz->ao X.K H P d v->ao X.K H (fun a b=>P a b/\a≠A) d v
 | .tup m,v,hs,h=>by
  rw[ao]at h⊢
  obtain⟨a,vs,e,h1,h2⟩:=h
  exact⟨a,vs,e,h1,mJ I hP hA m vs (by rw[D.lsz]at hs;exact hs) h2⟩
 | .lst m,v,hs,h=>by
  have h0:=h
  rw[ao]at h⊢
  obtain⟨a,vs,b,e,h1,p,h2⟩:=h
  refine⟨a,vs,b,e,h1,⟨p,fun z=>?_⟩,mJ I hP hA m vs (by rw[D.lsz]at hs;omega) h2⟩
  subst e z
  have:=ug I hP _ _ _ hA h0
  exact absurd (ZW hs this) (ac7 _)
 | .non,v,_,h=>by rw[ao]at h⊢;exact h
 | .bl _,v,_,h=>by rw[ao]at h⊢;exact h
 | .int _,v,_,h=>by rw[ao]at h⊢;exact h
 | .str _,v,_,h=>by rw[ao]at h⊢;exact h
 | .dct ks es,v,_,h=>by
  rw[ao]at h⊢
  obtain⟨f,e0,a,vs,e,h1,p,r⟩:=h
  refine⟨f,e0,a,vs,e,h1,⟨p,fun z=>?_⟩,r.flat _ f⟩
  subst z
  rw[ao]at hA
  obtain⟨a2,vs2,b,e2,hl,p2,_⟩:=hA
  cases e2
  cases hP _ _ p2
  replace hl:H a=some (.lst vs2):=hl
  rw[h1]at hl;cases hl
 | .typ _,v,_,h=>by rw[ao]at h⊢;exact h
 | .sn _,v,_,h=>by rw[ao]at h⊢;exact h
 | .obj n ns es,v,_,h=>h.flat _ rfl
 | .cls n,v,_,h=>h.flat _ rfl
theorem mJ{pins:List (Addr×Obj)}{σ:L2.St}{H:Hp}{s:Shared}(I:Inv X pins σ H s){P:bO}(hP:∀a b,P a b->b=true){A:Addr}{l:List D}(hA:ao X.K H P (.lst l) (.ref A)):∀(m:List D) (vs:List V),jy m<(D.lst l).lsz->ar X.K H P m vs->ar X.K H (fun a b=>P a b/\a≠A) m vs
 | [],vs,_,h=>by rw[ar]at h⊢;exact h
 | d::m,vs,hs,h=>by
  rw[ar]at h⊢
  obtain⟨v,r,e,h1,h2⟩:=h
  exact⟨v,r,e,IR I hP hA d v (by rw[jy]at hs;omega) h1,mJ I hP hA m r (by rw[jy]at hs;omega) h2⟩
end
theorem JC(I:Inv X pins σ H s)(E:bm X ow H σ ρ)(h:ρ x=some (.lst l,true)):∃(i:Nat) (a:Addr) (vs:List V),X.N[i]?=some x/\gB X.env.scope x/\σ[i]?=some (some (.ref a))/\H a=some (.lst vs)/\ow a=some (some x)/\ar X.K H (fun b c=>lN ow x true b c/\b≠a) l vs:=by
 obtain⟨i,v,e1,e2,e3,e4⟩:=E.get x _ _ h
 have e5:=e4
 rw[ao]at e4
 obtain⟨a,vs,b,rfl,hl,hp,rl⟩:=e4
 cases hp.1
 exact⟨i,a,vs,e1,e2,e3,hl,hp.2,mJ I (fun _ _ p=>p.1) e5 l vs (by rw[D.lsz];omega) rl⟩
theorem GP{a:Addr}(E:bm X ow H σ ρ)(sm:aJ H H1)(hi:X.N[i]?=some x)(hs:σ[i]?=some (some (.ref a)))
  (hv:gB X.env.scope x) (h0:H a=some (.lst vs)) (ho:ow a=some (some x)) (r:ar X.K H1 (fun b c=>(lN ow x true b c/\b≠a)\/Kp ow H 0 b c) l' vs') :
  ∃ow',bm X ow' (bv H1 a (.lst vs')) σ (bT ρ x (.lst l',true))/\bH ow H ow' (bv H1 a (.lst vs')):=by
 classical
 let ow':Ow:=fun a=>if H a=none/\∃o,H1 a=some o then some (some x)else ow a
 have o1:∀a o,H a=some o->ow' a=ow a:=fun a o h=>if_neg (fun z=>by rw[h]at z;cases z.1)
 have ha:H1 a=some (.lst vs):=sm _ _ h0
 have ho':ow' a=some (some x):=(o1 a _ h0).trans ho
 have E1:bm X ow' H1 σ ρ:=⟨fun y e o h=>by
  obtain⟨j,w,e1,e2,e3,e4⟩:=E.get y e o h
  refine⟨j,w,e1,e2,e3,ao.same sm (e4.impH (fun a ob ha p=>?_) fun a p=>?_)⟩
  ·cases o with
   | true=>exact⟨p.1,(o1 a ob ha).trans p.2⟩
   | false=>exact fun z=>(o1 a ob ha).trans (p z)
  ·cases o with
   | true=>cases p.1
   | false=>exact fun z=>(by cases z),fun a ha=>by
  by_cases hz:H a=none/\∃o,H1 a=some o
  ·exact hz.2
  ·have:ow' a=ow a:=if_neg hz
   rw[this]at ha
   exact(E.own.same sm) a ha⟩
 have st:∀{P:bO},(P a true->False)->fz P P H1 (bv H1 a (.lst vs')):=fun {P} h=>⟨fun b o hb hn=>by rw[aK (fun z=>by subst z;rw[ha]at hb;cases hb;exact hn)];exact hb,fun b ws hb p=>by rw[aK (fun z=>by subst z;exact h p)];exact hb,fun _ _ _ p=>p,fun _ p=>p⟩
 have r1:ar X.K H1 (fun b c=>lN ow' x true b c/\b≠a) l' vs':=r.impH (fun b o hb p=>by
  rcases p with⟨p,hne⟩|p
  ·refine⟨⟨rfl,?_⟩,hne⟩
   by_cases hz:H b=none/\∃o,H1 b=some o
   ·exact if_pos hz
   ·exact(if_neg hz).trans p.2
  ·exact⟨⟨rfl,if_pos ⟨p.2,o,hb⟩⟩,fun z=>by subst z;rw[p.2]at h0;cases h0⟩) fun b p=>by
  rcases p with⟨p,_⟩|p
  ·cases p.1
  ·cases p.1
 have r':ar X.K (bv H1 a (.lst vs')) (lN ow' x true) l' vs':=(r1.mono (st fun z=>z.2 rfl)).imp fun _ _ p=>p.1
 refine⟨ow',⟨fun y e o h=>?_,fun b hb=>?_⟩,fun b o h c=>?_,fun b o h z=>(o1 b o h).trans z⟩
 ·rw[fv]at h
  by_cases hy:y=x
  ·subst hy
   rw[if_pos rfl]at h
   cases h
   exact⟨i,.ref a,hi,hv,hs,by rw[ao];exact⟨a,vs',true,rfl,bg,⟨rfl,ho'⟩,r'⟩⟩
  ·rw[if_neg hy]at h
   obtain⟨j,w,e1,e2,e3,e4⟩:=E1.get y e o h
   refine⟨j,w,e1,e2,e3,e4.mono (st fun p=>?_)⟩
   cases o with
   | true=>have:=p.2;rw[ho']at this;cases this;exact hy rfl
   | false=>have:=p rfl;rw[ho']at this;cases this
 ·by_cases hz:b=a
  ·subst hz;exact⟨_,bg⟩
  ·rw[aK hz];exact E1.own b hb
 ·rw[aK (fun z=>by
   subst z
   rw[h0]at h;cases h
   rcases c with c|c
   ·exact c
   ·rw[ho]at c;cases c)]
  exact sm b o h
theorem oJ{env:Env}{pos:Pos}:∀{es:List Expr},(∀e∈es,∀x p,e ≠ .Starred x p)->(backTo pos (starEach es env)).all (fun x => !x.1)=true
 | [],_=>rfl
 | e::es,h=>by
  have ih:=oJ (env:=env) (es:=es) (pos:=pos) fun x hx=>h x (ZR _ hx)
  have he:=h e ZV
  cases e<;>first|exact absurd rfl (he _ _)|exact ih
theorem IB{M:List D->List D->Nat->Rs (List D)}(hcalm:X.calm=true)(hM:pW m M)(hx:ρ x=some (.lst l,true))(h:AD X ρ args ds k)(hst:∀e∈args,∀y p,e ≠ .Starred y p)(hlen:args.length=ds.length)
  (hn:fR x=true) (hln:(ap.endLine==cp.line)=true) (hm:M l ds k=.ok l' o) (hp:aP o):SD X H0 ρ (.Expr (.Call (.Attribute (.Name x p1) m ap) args [] cp) p4) (.nx (bT ρ x (.lst l',true))):=by
 obtain⟨id,r,sl,ty,mt,hr⟩:=hM X hcalm
 intro pins s σ H D I ⟨ow,E,hl,B,q⟩
 obtain⟨i,a,vs,g1,g2,g3,g4,g5,g6⟩:=JC I E hx
 have pn:PE X (.Name x p1) (xy i):=jP g1 g2 (eY hn).1 (eY hn).2
 have fin:∀(H1:Hp) (ws:List V),aJ H H1->ar X.K H1 (Kp ow H k) ds ws->r (.ref a) ws H1 fun _ H2=>D.nx σ H2:=fun H1 ws s1 r1 =>
  (hr ow H H1 l ds l' k o a vs ws hm hp).2 (fun b c=>(lN ow x true b c/\b≠a)\/Kp ow H 0 b c) _ (fun _ _ p=>.inr p) E.own s1 (s1 _ _ g4) ((g6.same s1).imp fun _ _ p=>.inl p) r1 fun vs' _ rv=>by
   obtain⟨ow',E',k'⟩:=GP E s1 g1 g3 g2 g4 g5 rv
   exact q ow' σ _ E' hl k'
 have few:ds.length<29:=(hr ow H H l ds l' k o a vs vs hm hp).1
 cases args with
 | nil =>
  have e0:ds=[]:=ah5.mp hlen.symm
  refine jO (Jx PySem.F.plainAttrs_list sl ty mt pn rfl hln) rfl pins s σ H D I ⟨_,g3,.inl ⟨rfl,_,de.of g4⟩,?_⟩
  exact fin H [] (aJ.refl _) (by rw[e0];exact ar.nil)
 | cons e es =>
  have hfew:((backTo cp (starEach (e::es) X.env)).all (fun x => !x.1)&&(backToKw cp (keywordEach [] X.env)).all (fun x=>x.1.isSome)&&decide ((e::es).length+([]:List Keyword).length+(if ([]:List Keyword).isEmpty then 0 else 1)<30))=true:=by
   rw[oJ hst,hlen]
   have:decide (ds.length+0+0<30)=true:=by simp;omega
   exact this
  refine jO (sU PySem.F.plainAttrs_list sl ty mt pn (h ow) rfl hfew hln (bN (hst e ZV)) (cV fun x hx=>hst x (ZR _ hx))) rfl pins s σ H D I ⟨_,g3,.inl ⟨rfl,_,de.of g4⟩,E,fun ws H1 s1 r1=>?_⟩
  exact fin H1 ws s1 r1
theorem oQ:∀{l:List D} {j:Nat} {d:D},aC l=true->d.lless=true->aC (l.set j d)=true
 | [],j,d,h,f=>by simp[aC]
 | x::l,0,d,h,f=>by
  rw[aC,ZZ]at h
  rw[List.set_cons_zero,aC,ZZ];exact⟨f,h.2⟩
 | x::l,j+1,d,h,f=>by
  rw[aC,ZZ]at h
  rw[List.set_cons_succ,aC,ZZ];exact⟨h.1,oQ h.2 f⟩
theorem ar.set{K:W.Frag}{P:bO}{H:Hp}{d:D}{v:V}(r:ao K H P d v):∀{l:List D} {vs:List V} (j:Nat),ar K H P l vs->ar K H P (l.set j d) (vs.set j v)
 | [],vs,j,h=>by rw[ar]at h;subst h;simp;exact ar.nil
 | x::l,vs,0,h=>by
  rw[ar]at h
  obtain⟨w,u,rfl,h1,h2⟩:=h
  exact ar.cons r h2
 | x::l,vs,j+1,h=>by
  rw[ar]at h
  obtain⟨w,u,rfl,h1,h2⟩:=h
  exact ar.cons h1 (ar.set r j h2)
theorem BM{i:Expr}{j:Int}(hx:ρ x=some (.lst l,true))(h:ED X ρ e d k)(hi:ED X ρ i (.int j) k2)(f:aC l=true)(fd:d.lless=true)(hn:fR x=true)(hm:qm l j d=some l')(hsl:∀a b c p,i ≠ .Slice a b c p) :
  SD X H0 ρ (.Assign [.Subscript (.Name x p1) i p2] e pos) (.nx (bT ρ x (.lst l',true))):=by
 unfold qm at hm
 cases hj:ixN l.length j with
 | none=>rw[hj]at hm;cases hm
 | some n =>
  rw[hj]at hm;cases hm
  intro pins s σ H D I ⟨ow,E,hl,B,q⟩
  obtain⟨ix,a,vs,g1,g2,g3,g4,g5,g6⟩:=JB E hx
  have pn:PE X (.Name x p1) (xy ix):=jP g1 g2 (eY hn).1 (eY hn).2
  refine lK (h ow) (Jn pn (hi ow) BI (fun v=>by cases i<;>first|rfl|exact absurd rfl (hsl _ _ _ _))) zr (by cases e<;>rfl) rfl pins s σ H D I ⟨E,fun v H1 s1 r1=>?_⟩
  refine⟨_,g3,E.same s1,fun u H2 s2 r2=>?_⟩
  rw[ao]at r2;subst r2
  have s12:=s1.trans s2
  refine⟨a,vs,j,n,rfl,rfl,s12 _ _ g4,by rw[<- g6.length];exact hj,?_⟩
  exact q ow σ _ (AC (E.same s12) g1 g3 g2 (s12 _ _ g4) g5 (oQ f fd) (ar.set ((r1.imp fun _ _ _=>True.intro).same s2) n (g6.same s12))) hl (ye s12 g4 g5)
def rSetD:yV:=fun o i v H Q => ∃p kvs k,o=.ref p/\i=kV k/\H p=some (.dK kvs)/\kvs.length<sizeLine/\Q (bv H p (.dK (BO kvs k v)))
theorem OU{op:Operator}{r:R2}(h:dD X (inplaceOp op) r):Qj X op r:=h
theorem Ck:dD X (inplaceOp .Mult) (rI (fun i j=>cD i j) fun i j=>.int (i*j)):=wG fun _ _ _ _ _ _ _ hc q=>imul_int q (ux hc)
theorem Ak:dD X (inplaceOp .FloorDiv) (rI (fun _ j=>fL j) fun i j=>.int (i.fdiv j)):=wG fun i j _ _ _ _ _ hc q=>ifloordiv_int hc.1 q (.inl (PyProof.noPylong_of_log2 (by
 rcases ag8 j.natAbs with h1|hp
 ·exact absurd (by simpa using h1) hc.1
 ·exact(Nat.log2_lt (ag2 hp)).mpr hc.2)))
theorem ID{op:Operator}{a b:Int}{o:Bool}{l:List Prop}(G:bz Φ X sc)(hx:dE sc x=true)(ha:ρ x=some (.int a,o))(h:ED X ρ e (.int b) k)(hr:C4 op a b=.ok (d,k2) l)(hp:aP l) :
  SD X H0 ρ (.AugAssign (.Name x p) op e pos) (.nx (bT ρ x (d,true))):=by
 obtain⟨g1,g2,g3,i,g4⟩:=fH G hx
 obtain⟨r,hr1,hr2⟩:∃r:R2,dD X (inplaceOp op) r/\d.lless=true/\∀H (Q:VK),(∀v,ao X.K H (fun _ _=>False) d v->Q v H)->r (.int a) (.int b) H Q:=by
  unfold C4 at hr
  split at hr
  ·cases hr;exact⟨_,Gz,rfl,fun H Q q=>⟨a,b,rfl,rfl,q _ (by rw[ao])⟩⟩
  ·cases hr;exact⟨_,Gy,rfl,fun H Q q=>⟨a,b,rfl,rfl,q _ (by rw[ao])⟩⟩
  ·cases hr;exact⟨_,Ck,rfl,fun H Q q=>⟨a,b,rfl,rfl,hp.1,q _ (by rw[ao])⟩⟩
  ·cases hr;exact⟨_,Ak,rfl,fun H Q q=>⟨a,b,rfl,rfl,hp.1,q _ (by rw[ao])⟩⟩
  ·cases hr
 intro pins s σ H D I ⟨ow,E,hl,B,q⟩
 obtain⟨i2,v,e1,e2,e3,e4⟩:=E.get x _ _ ha
 rw[ao]at e4;subst e4
 have hi:i2=i:=kD G.nd e1 g4
 subst hi
 refine IY (i:=i2) G.nd g4 g1 (h ow) (OU hr1) g3 pins s σ H D I ⟨.int a,e3,E,fun v H1 s1 r1=>?_⟩
 rw[ao]at r1;subst r1
 refine hr2.2 H1 _ fun w rw'=>?_
 exact q ow _ H1 (fe G.nd hl (E.same s1) g4 g2 (rw'.flat _ hr2.1)) (by rw[ad8];exact hl) (bH.same s1)
theorem x8:pW "append" qN:=fun X hc=>⟨"list.append", _,PySem.F.slot_list_append,PySem.F.type_list_append,rR,fun ow H0 H l ds l' j o a vs ws h hp=>by
 unfold qN at h
 split at h
 ·rename_i d
  cases h
  have c:=hp.1
  refine⟨by simp,fun P Q hP oi sm ha rl rd q=>?_⟩
  obtain⟨w,rfl,rw'⟩:=rd.only
  refine⟨a,vs,w,rfl,rfl,ha,?_,q _ _ (rl.append (ar.one ?_))⟩
  ·rw[<- rl.length];exact al7 hp.2.1 rS
  ·rcases c with c|c
   ·exact rw'.flat _ c
   ·subst c;exact rw'.imp hP
 ·cases h⟩
variable{X:Cx}
theorem nZ(x:Str)(E:bm X ow H σ ρ):∃ow',bm X ow' H σ (demX x ρ)/\bH ow H ow' H:=by
 classical
 unfold demX
 let ow':Ow:=fun a=>if ow a=some (some x)then none else ow a
 have o1:∀a,ow a=none->ow' a=none:=fun a h=>by show(if _ then _ else _)=_;split;rfl;exact h
 refine⟨ow',⟨fun y e o h=>?_,fun a ha=>?_⟩,fun a o h _=>h,fun a o h z=>o1 a z⟩
 ·by_cases hy:y=x
  ·subst hy
   simp only[ai7]at h
   cases hd:ρ y with
   | none=>rw[hd]at h;cases h
   | some q =>
    obtain⟨d,o'⟩:=q
    rw[hd]at h
    cases h
    obtain⟨j,w,e1,e2,e3,e4⟩:=E.get y _ _ hd
    refine⟨j,w,e1,e2,e3,e4.imp fun a b p z=>?_⟩
    cases o' with
    | true=>exact if_pos p.2
    | false=>exact o1 a (p z)
  ·simp only[if_neg hy]at h
   obtain⟨j,w,e1,e2,e3,e4⟩:=E.get y e o h
   refine⟨j,w,e1,e2,e3,e4.imp fun a b p=>?_⟩
   cases o with
   | true=>exact⟨p.1,by show(if _ then _ else _)=_;rw[if_neg (fun z=>by rw[p.2]at z;cases z;exact hy rfl)];exact p.2⟩
   | false=>exact fun z=>o1 a (p z)
 ·refine E.own a fun z=>ha (o1 a z)
theorem G1(x:Str)(ρ:am):demA x ρ=ρ\/demA x ρ=demX x ρ:=by
 cases h:ρ x with
 | none=>exact .inl (funext fun y=>by unfold demA;split;(rename_i e;subst e;rw[h];rfl);rfl)
 | some p =>
  cases hl:p.1.lless with
  | true=>exact .inl (funext fun y=>by unfold demA;split;(rename_i e;subst e;rw[h];show some (p.1,p.2&&p.1.lless)=_;rw[hl,Bool.and_true]);rfl)
  | false=>exact .inr (funext fun y=>by unfold demA demX;split;(rename_i e;subst e;rw[h];show some (p.1,p.2&&p.1.lless)=_;rw[hl,Bool.and_false];rfl);rfl)
theorem kR:∀{es:List Expr} {ow:Ow} {H:Hp} {σ:L2.St} {ρ:am},bm X ow H σ ρ->∃ow',bm X ow' H σ (demL es ρ)/\bH ow H ow' H
 | [],ow,H,σ,ρ,E=>⟨ow,E,bH.refl _ _⟩
 | e::es,ow,H,σ,ρ,E=>by
  have one:∀x,∃ow',bm X ow' H σ (demL es (demA x ρ))/\bH ow H ow' H:=fun x=>by
   rcases G1 x ρ with h|h
   ·rw[h];exact kR E
   ·rw[h]
    obtain⟨ow1,E1,k1⟩:=nZ x E
    obtain⟨ow2,E2,k2⟩:=kR (es:=es) E1
    exact⟨ow2,E2,k1.trans k2⟩
  unfold demL
  split
  ·rename_i z;cases z
  ·rename_i z;cases z;exact one _
  ·rename_i z;cases z;exact one _
  ·rename_i z;cases z;exact kR E
theorem pj(E:bm X ow H σ ρ):∃ow',bm X ow' H σ (demote e ρ)/\bH ow H ow' H:=by
 unfold demote
 split
 ·exact nZ _ E
 ·exact nZ _ E
 ·exact kR E
 ·exact⟨ow,E,bH.refl _ _⟩
def ag{α:Type}(r:Rs α)(a:α):Prop:=∃l,r=.ok a l/\aP l
theorem az{r:Rs α}{f:α->Rs β}{b:β}(h:ag (r.bnd f) b):∃a,ag r a/\ag (f a) b:=by
 obtain⟨l,h,hp⟩:=h
 obtain⟨a,l1,l2,h1,p1,h2,p2⟩:=bi h hp
 exact⟨a,⟨l1,h1,p1⟩,l2,h2,p2⟩
theorem aw{a:α}(h:ag (.st) a):False:=by obtain⟨l,h,_⟩:=h;cases h
theorem aV{a b:α}{l:List Prop}(h:ag (.ok a l) b):a=b:=by obtain⟨m,h,_⟩:=h;cases h;rfl
theorem IC{bind:D->am->Option am}(hp:PassesOwn (model X.prog X.w) X.A X.env X.xe)(hcalm:X.calm=true)
  (hi:IE X (demote iter ρ) tg iter ds k) (hk:k<=1) (hg:∀d ρ ρ',bind d ρ=some ρ'->GD X ρ tg d ρ') (hb:∀ρ fl,ag (bodyF ρ) fl->iw X H0 ρ body fl) (h:ag (dO bind bodyF ds (demote iter ρ)) fl)
  (hs:∀x,foldedSetIterable iter X.env x=pure x):SD X H0 ρ (.For tg iter body [] pos) fl:=by
 intro pins s σ H D0 I ⟨ow0,E0,hl,B0,q0⟩
 obtain⟨ow,E,k0⟩:=pj (e:=iter) E0
 have B:=B0.keep k0
 have q:=q0.keep k0
 have pb:gM X body (fun D σ H => ∃ρ fl,ag (bodyF ρ) fl/\zp X H0 ρ fl D σ H):=fun pins s σ H D I ⟨ρ1,fl1,h1,h2⟩=>hb ρ1 fl1 h1 pins s σ H D I h2
 have pg:PG X tg (fun v σ H Q => ∃g:TG,PG X tg g/\g v σ H Q):=fun pins s σ H v u Q I r ⟨g,h1,h2⟩=>h1 pins s σ H v u Q I r h2
 refine zE hp hcalm (hi ow) pg pb hs pins s σ H D0 I ⟨E,fun J H1 s1 itd=>?_⟩
 refine⟨fun i m σ' H'=>m=ds.length-i/\i<=ds.length/\∃ow' ρ',bm X ow' H' σ' ρ'/\σ'.length=X.N.length/\d7 H0 ow' H'/\bH ow H1 ow' H'/\ag (dO bind bodyF (ds.drop i) ρ') fl,
  ⟨ds.length,by simp,ZY _,ow,_,E.same s1,hl,B.keep (bH.same s1),bH.refl _ _,h⟩,?_⟩
 rintro i m σ' H' ⟨rfl,hile,ow',ρ',E',hl',B',k',hf⟩
 have q':oh X H0 ow' H' fl D0:=q.keep ((bH.same s1).trans k')
 have st:fz (Kd ow H k H1) (Kd ow H k H1) H1 H':=⟨fun a o ha hn=>k'.keep a o ha (.inl hn),fun a vs ha p=>k'.keep a _ ha (.inr (gm E.own hk p.1)),fun _ _ _ p=>p,fun _ p=>p⟩
 have it:=itd i H' st
 by_cases hlt:i<ds.length
 ·obtain⟨go,yl⟩:=it.1 ds[i] (aa3 hlt)
  have hdrop:ds.drop i=ds[i]::ds.drop (i+1):=List.drop_eq_getElem_cons hlt
  rw[hdrop,dO]at hf
  refine .inr ⟨go,fun σ2 H2=>i+1<=ds.length/\∃ow2 ρ2,bm X ow2 H2 σ2 ρ2/\σ2.length=X.N.length/\d7 H0 ow2 H2/\bH ow H1 ow2 H2/\ag (dO bind bodyF (ds.drop (i+1)) ρ2) fl,fun σ2 H2 n=>⟨ds.length-(i+1),by omega,rfl,n.1,n.2⟩,fun x H3 y3=>?_⟩
  obtain⟨sm3,rx⟩:=yl x H3 y3
  cases hbd:bind ds[i] ρ' with
  | none=>rw[hbd]at hf;exact(aw hf).elim
  | some ρ1 =>
   rw[hbd]at hf
   dsimp only at hf
   obtain⟨g,g1,g2⟩:=hg _ _ _ hbd
   have rx':ao X.K H3 (fun a b=>b=true->ow' a=none) ds[i] x:=rx.impH (fun a o ha p _=>by
    obtain⟨o1,h1⟩:=p.2 rfl
    exact k'.low a o1 h1 (gm E.own hk p.1)) fun a _ z=>(by cases z)
   refine⟨g,g1,g2 ow' x σ' H3 _ hl' (E'.same sm3) rx' fun σ2 hl2 E2=>?_⟩
   have k3:bH ow' H' ow' H3:=bH.same sm3
   obtain⟨f1,hbo,hf⟩:=az hf
   refine⟨ρ1,f1,hbo,ow',E2,hl2,B'.keep k3,?_⟩
   cases f1 with
   | nx ρ2=>exact fun ow2 σ3 H4 a b c=>⟨hlt,ow2,ρ2,a,b,(B'.keep k3).keep c,k'.trans (k3.trans c),hf⟩
   | ct ρ2=>exact fun ow2 σ3 H4 a b c=>⟨hlt,ow2,ρ2,a,b,(B'.keep k3).keep c,k'.trans (k3.trans c),hf⟩
   | bk ρ2=>cases aV hf;exact fun ow2 σ3 H4 a b c=>q' ow2 σ3 H4 a b (k3.trans c)
   | rt d=>cases aV hf;exact q'
 ·have ei:i=ds.length:=by omega
  subst ei
  rw[List.drop_length,dO]at hf
  cases aV hf
  exact .inl ⟨it.2 (ZP _),q' ow' σ' H' E' hl' (bH.refl _ _)⟩
theorem BK{test:am->Rs Bool}(hp:PassesOwn (model X.prog X.w) X.A X.env X.xe)
  (hc:∀ρ b,ag (test ρ) b->TD X ρ c b) (hb:∀ρ fl,ag (bodyF ρ) fl->iw X H0 ρ body fl) {n0:Nat} {ρ0:am} (h:ag (nu test bodyF n0 ρ0) fl):SD X H0 ρ0 (.While c body [] pos) fl:=by
 intro pins s σ H D0 I ⟨ow,E,hl,B,q⟩
 have pc:PT X c (fun σ H Q => ∃ow ρ b,ag (test ρ) b/\Du X ow ρ b σ H Q):=fun pins s σ H Q I ⟨ow,ρ,b,h1,h2⟩=>hc ρ b h1 ow pins s σ H Q I h2
 have pb:gM X body (fun D σ H => ∃ρ fl,ag (bodyF ρ) fl/\zp X H0 ρ fl D σ H):=fun pins s σ H D I ⟨ρ1,fl1,h1,h2⟩=>hb ρ1 fl1 h1 pins s σ H D I h2
 refine BQ hp pc pb pins s σ H D0 I ?_
 refine⟨fun m σ' H' => ∃ow' ρ',bm X ow' H' σ' ρ'/\σ'.length=X.N.length/\d7 H0 ow' H'/\bH ow H ow' H'/\ag (nu test bodyF m ρ') fl,⟨n0,ow,ρ0,E,hl,B,bH.refl _ _,h⟩,?_⟩
 rintro m σ' H' ⟨ow',ρ',E',hl',B',k',hw⟩
 have q':oh X H0 ow' H' fl D0:=q.keep k'
 cases m with
 | zero=>exact(aw hw).elim
 | succ m =>
  rw[nu]at hw
  obtain⟨b,ht,hw⟩:=az hw
  refine⟨ow',ρ',b,ht,E',fun H1 s1=>?_⟩
  have k1:bH ow' H' ow' H1:=bH.same s1
  cases b with
  | false =>
   cases aV hw
   exact q' ow' σ' H1 (E'.same s1) hl' k1
  | true =>
   rw[cond_true]at hw
   show if true=true then _ else _
   rw[if_pos rfl]
   refine⟨fun σ2 H2 => ∃ow2 ρ2,bm X ow2 H2 σ2 ρ2/\σ2.length=X.N.length/\d7 H0 ow2 H2/\bH ow H ow2 H2/\ag (nu test bodyF m ρ2) fl,fun σ2 H2 z=>⟨m,ac5 _,z⟩,?_⟩
   obtain⟨f1,hbo,hw⟩:=az hw
   refine⟨ρ',f1,hbo,ow',E'.same s1,hl',B'.keep k1,?_⟩
   cases f1 with
   | nx ρ2=>exact fun ow2 σ3 H4 a b c=>⟨ow2,ρ2,a,b,(B'.keep k1).keep c,k'.trans (k1.trans c),hw⟩
   | ct ρ2=>exact fun ow2 σ3 H4 a b c=>⟨ow2,ρ2,a,b,(B'.keep k1).keep c,k'.trans (k1.trans c),hw⟩
   | bk ρ2=>cases aV hw;exact fun ow2 σ3 H4 a b c=>q' ow2 σ3 H4 a b (k1.trans c)
   | rt d=>cases aV hw;exact q'
theorem eU{p:D×Nat}(h:ag (aE Φ e it sc ρ) p)(G:bz Φ X sc):gq X ρ e it p.1 p.2:=let ⟨_,h,hp⟩:=h;Pf e h hp G
theorem Aj(h:jT e=true):(∃a b c d,e=.ListComp a b c d)\/∀(Φ:Fx) (sc:Scope) (ρ:am),aE Φ e false sc ρ=.st:=by
 cases e<;>first|exact .inl ⟨_,_,_,_,rfl⟩|exact .inr fun _ _ _=>rfl|cases h
theorem rM{r:D×Nat}{o:Bool}(G:bz Φ X sc)(hx:dE sc x=true)(h:ag (aE Φ e false sc ρ) r)(ho:(r.2=0/\o=true)\/(r.2=1/\o=false)) :
  SD X H0 ρ (.Assign [.Name x p] e pos) (.nx (bT ρ x (r.1,o))):=by
 by_cases hc:jT e=true
 ·rcases Aj hc with⟨elt,gens,scope,q,rfl⟩|hno
  rotate_left
  ·rw[hno]at h;exact(aw h).elim
  ·clear hc
   have hsw:∃b,swapsWith (.ListComp elt gens scope q) (some (.Name x p)) pos.line X.env=pure b:=⟨_,rfl⟩
   obtain⟨b,hsw⟩:=hsw
   cases b with
   | false=>exact oA G hx ((eU h G).ed rfl) ho hsw
   | true =>
    obtain⟨l,h,hp⟩:=h
    obtain⟨tg,iter,ifs,rfl⟩:=qO h
    obtain⟨ds,f,k1,a1,a2,a3,a4,a5,a6,a7,a8,a9⟩:=wB (iZ Φ _) (ac5 _) h hp G
    obtain⟨g1,g2,g3,i,g4⟩:=fH G hx
    rw[a9]
    intro pins s σ H D0 I ⟨ow,E,hl,B,q⟩
    refine FO (D0:=D0) (i:=i) G.calm G.nd a1 a2 a3 a4 a5 a6 a7 a8 I E hsw g4 g1 g3 fun v H1 s1 r1=>?_
    rcases ho with⟨ho,rfl⟩|⟨ho,rfl⟩<;>rw[ho]at r1
    ·obtain⟨ow',E',k'⟩:=qY G.nd hl E s1 g4 g2 r1
     exact q ow' _ H1 E' (by rw[ad8];exact hl) k'
    ·exact q ow _ H1 (fe G.nd hl (E.same s1) g4 g2 r1) (by rw[ad8];exact hl) (bH.same s1)
 ·exact oA G hx ((eU h G).ed rfl) ho (jw (by simpa using hc))
theorem vY{r:D×Nat}(h:ag (aE Φ e it sc ρ) r):∀a b c p,e ≠ .Slice a b c p:=by
 intro a b c p z;subst z;exact(aw h).elim
theorem uq{f:List D->Rs Fl}(h:ag (xR ρ x f) fl):∃l,ρ x=some (.lst l,true)/\fR x=true/\ag (f l) fl:=by
 unfold xR at h
 split at h
 ·rename_i l e
  split at h
  ·rename_i c
   exact⟨l,e,c,h⟩
  ·exact(aw h).elim
 ·exact(aw h).elim
theorem dZ{a b:α}{l:List Prop}(h:ag (.ok a l) b):a=b/\aP l:=by obtain⟨m,h,hp⟩:=h;cases h;exact⟨rfl,hp⟩
theorem tZ{i:D}(h:ag (qi ρ x i d) fl):(∃l j l',ρ x=some (.lst l,true)/\aC l=true/\fR x=true/\i=.int j/\qm l j d=some l'/\d.lless=true/\fl=.nx (bT ρ x (.lst l',true)))\/False:=by
 unfold qi at h
 split at h
 ·rename_i l e
  split at h
  ·split at h
   ·rename_i hn
    split at h
    ·rename_i l' hs
     obtain⟨h9,h1,h2,_⟩:=dZ h
     exact .inl ⟨l,_,l',e,h1,hn,rfl,hs,h2,h9.symm⟩
    ·exact(aw h).elim
   ·exact(aw h).elim
  ·exact(aw h).elim
 ·exact(aw h).elim
 ·exact(aw h).elim
theorem Jy(h:ag (mS Φ es e sc ρ) fl)(G:bz Φ X sc):SD X H0 ρ (.Assign [.Tuple es n p] e pos) fl:=by
 unfold mS at h
 split at h
 ·split at h
  ·rename_i hp
   obtain⟨q,⟨lq,h1,hq⟩,h⟩:=az h
   split at h
   ·rename_i u v hd
    split at h
    ·rename_i hf
     cases aV h
     obtain⟨n1,_⟩:=dJ h1 hq
     have c:=j7 _ h1 hq G
     rw[hd]at c
     exact IA G c hf hp (n1 _ (by simp)) (n1 _ (by simp))
    ·exact(aw h).elim
   ·exact(aw h).elim
  ·exact(aw h).elim
 ·exact(aw h).elim
theorem M1(h:ag (ph Φ tgs e sc ρ) fl)(G:bz Φ X sc):SD X H0 ρ (.Assign tgs e pos) fl:=by
 unfold ph at h
 split at h
 ·obtain⟨p,h1,h⟩:=az h
  unfold qt at h
  split at h
  ·rename_i hx
   split at h
   ·rename_i ho;cases aV h;exact rM G hx h1 (.inl ⟨ho,rfl⟩)
   ·rename_i ho;cases aV h;exact rM G hx h1 (.inr ⟨ho,rfl⟩)
   ·exact(aw h).elim
  ·exact(aw h).elim
 ·split at h
  ·exact Jy h G
  ·rename_i ht
   have ht:=Bool.eq_false_iff.mpr ht
   obtain⟨p,h1,h⟩:=az h
   split at h
   ·rename_i ho
    cases aV h
    exact FD G ((eU h1 G).ed rfl) ho ht
   split at h
   ·rename_i ds hd
    split at h
    ·rename_i hf
     split at h
     ·rename_i ρ' hb
      cases aV h
      exact Iy G ((eU h1 G).ed rfl) hd hf hb ht
     ·exact(aw h).elim
    ·exact(aw h).elim
   ·exact(aw h).elim
 ·split at h
  ·rename_i hc
   obtain⟨p,h1,h⟩:=az h
   obtain⟨q,h2,h⟩:=az h
   have c2:=(eU h2 G).ed rfl
   rcases tZ h with⟨l,j,l',a1,a2,a3,hj,hs,hf,rfl⟩|hF
   ·rw[hj]at c2
    exact BM a1 ((eU h1 G).ed rfl) c2 a2 hf a3 hs (vY h2)
   ·exact hF.elim
  ·exact(aw h).elim
 ·exact(aw h).elim
theorem qA{p:D×Nat}{f:Int->R1}{a:D×Nat}(h:ag (kF p f) a):∃b,p.1=.int b/\ag (f b) a:=by
 obtain⟨l,h,hp⟩:=h
 obtain⟨b,h1,h2⟩:=Cl h
 exact⟨b,h1,l,h2,hp⟩
theorem MZ{t:Expr}{op:Operator}(h:ag (pe Φ t op e sc ρ) fl)(G:bz Φ X sc):SD X H0 ρ (.AugAssign t op e pos) fl:=by
 unfold pe at h
 split at h
 ·split at h
  ·rename_i hx
   split at h
   ·rename_i p hp
    obtain⟨r,h1,h⟩:=az h
    cases aV h
    obtain⟨a,ha,h3⟩:=qA h1
    obtain⟨q,h2,h4⟩:=az h3
    obtain⟨b,hb,h5⟩:=qA h4
    obtain⟨l,h9,hpl⟩:=h5
    have c:=(eU h2 G).ed rfl
    rw[hb]at c
    obtain⟨p1,p2⟩:=p
    have ha:p1=.int a:=ha
    subst ha
    exact ID G hx hp c h9 hpl
   ·exact(aw h).elim
  ·exact(aw h).elim
 ·exact(aw h).elim
theorem La(h:ag (o9 Φ e sc ρ) fl)(G:bz Φ X sc):SD X H0 ρ (.Expr e pos) fl:=by
 unfold o9 at h
 split at h
 ·split at h
  ·rename_i hln
   obtain⟨p,⟨lp,h1,hp1⟩,h⟩:=az h
   split at h
   ·rename_i M hM
    obtain⟨l,a1,a3,h⟩:=uq h
    obtain⟨l',⟨o,h2,hp2⟩,h⟩:=az h
    cases aV h
    obtain⟨n1,n2⟩:=dJ h1 hp1
    exact IB G.calm (G.mtt _ M hM) a1 (j7 _ h1 hp1 G) n1 n2 a3 hln h2 hp2
   ·exact(aw h).elim
  ·exact(aw h).elim
 ·obtain⟨p,h1,h⟩:=az h
  cases aV h
  exact FF ((eU h1 G).ed rfl) ⟨_,_,_,_,_,rfl⟩
 ·exact(aw h).elim
structure Is(Φ:Fx)(n:Nat):Prop where
 s:∀(st:Stmt) {sc:Scope} {ρ:am} {fl:Fl} {X:Cx} {H0:Hp},sizeOf st<n->ag (eI Φ st sc ρ) fl->bz Φ X sc->PassesOwn (model X.prog X.w) X.A X.env X.xe->SD X H0 ρ st fl
 ss:∀(st:List Stmt) {sc:Scope} {ρ:am} {fl:Fl} {X:Cx} {H0:Hp},sizeOf st<n->ag (aH Φ st sc ρ) fl->bz Φ X sc->PassesOwn (model X.prog X.w) X.A X.env X.xe->iw X H0 ρ st fl
theorem gu{p:D×Nat}{f:Bool->Rs α}{a:α}(h:ag (ja p f) a):∃b,p.1=.bl b/\ag (f b) a:=by
 obtain⟨l,h,hp⟩:=h
 obtain⟨b,h1,h2⟩:=mY h
 exact⟨b,h1,l,h2,hp⟩
theorem Pb(I:Is Φ n)(st:Stmt)(hs:sizeOf st<n+1)(h:ag (eI Φ st sc ρ) fl)(G:bz Φ X sc)(hp:PassesOwn (model X.prog X.w) X.A X.env X.xe):SD X H0 ρ st fl:=by
 cases st with
 | Return e p =>
  cases e with
  | none=>cases aV h;exact FA
  | some e =>
   obtain⟨p,h1,h⟩:=az (show ag (Rs.bnd _ _) fl from h)
   unfold xI at h
   split at h
   ·rename_i hk
    cases aV h
    unfold uf at h1
    cases hn:sW e with
    | true=>rw[hn]at h1;exact FB ((eU h1 G).ed rfl) hk
    | false=>rw[hn]at h1;exact Iz ((eU h1 G).ed rfl) hk
   ·exact(aw h).elim
 | Pass p=>cases aV h;exact FC
 | Break p=>cases aV h;exact BN
 | Continue p=>cases aV h;exact FG
 | Assign tgs e p=>exact M1 h G
 | AugAssign t op e p=>exact MZ h G
 | Expr e p=>exact La h G
 | If c a b p =>
  obtain⟨p,h1,h⟩:=az (show ag (Rs.bnd _ _) fl from h)
  obtain⟨t,ht,h⟩:=gu h
  refine DB ((eU h1 G).td rfl t ht) ?_
  cases t with
  | true=>rw[if_pos rfl];exact I.ss _ (bL (by simp<;>omega) hs) h G hp
  | false=>rw[if_neg aa8];exact I.ss _ (bL (by simp<;>omega) hs) h G hp
 | For tg it body els p =>
  rw[qU]at h
  split at h
  ·rename_i he
   have he:=List.isEmpty_iff.mp he
   subst he
   obtain⟨p,h1,h⟩:=az h
   split at h
   ·rename_i ds hd
    split at h
    ·rename_i hk
     obtain⟨lq,h1',_⟩:=id h1
     exact IC hp G.calm ((eU h1 G).ie rfl _ ds hd hk.2) hk.1 (fun d ρ ρ' hb=>yn G hb) (fun ρ1 f1 h2=>I.ss _ (bL (by simp<;>omega) hs) h2 G hp) h (rX h1')
    ·exact(aw h).elim
   ·exact(aw h).elim
  ·exact(aw h).elim
 | While c body els p =>
  rw[u6]at h
  split at h
  ·rename_i he
   have he:=List.isEmpty_iff.mp he
   subst he
   refine BK hp (fun ρ b hb=>?_) (fun ρ1 f1 h2=>I.ss _ (bL (by simp<;>omega) hs) h2 G hp) h
   obtain⟨p,h1,hb⟩:=az hb
   obtain⟨t,ht,hb⟩:=gu hb
   cases aV hb
   exact(eU h1 G).td rfl _ ht
  ·exact(aw h).elim
 | _=>exact(aw h).elim
theorem K9(I:Is Φ n)(ss:List Stmt)(hs:sizeOf ss<n+1)(h:ag (aH Φ ss sc ρ) fl)(G:bz Φ X sc)(hp:PassesOwn (model X.prog X.w) X.A X.env X.xe):iw X H0 ρ ss fl:=by
 cases ss with
 | nil=>cases aV h;exact Fu
 | cons s ss =>
  obtain⟨f1,h1,h⟩:=az (show ag (Rs.bnd _ _) fl from h)
  have c:=I.s s (H0:=H0) (bL (by simp<;>omega) hs) h1 G hp
  cases f1 with
  | nx ρ'=>exact gO c (I.ss ss (bL (by simp<;>omega) hs) h G hp)
  | bk ρ'=>cases aV h;exact nK c (fun _ z=>(by cases z))
  | ct ρ'=>cases aV h;exact nK c (fun _ z=>(by cases z))
  | rt d=>cases aV h;exact nK c (fun _ z=>(by cases z))
theorem oU(Φ:Fx):∀n,Is Φ n
 | 0=>⟨fun _ _ _ _ _ _ h=>absurd h (ae3 _),fun _ _ _ _ _ _ h=>absurd h (ae3 _)⟩
 | n+1=>⟨fun e _ _ _ _ _ hs h G hp=>Pb (oU Φ n) e hs h G hp,fun e _ _ _ _ _ hs h G hp=>K9 (oU Φ n) e hs h G hp⟩
theorem lX(ss:List Stmt)(h:ag (aH Φ ss sc ρ) fl)(G:bz Φ X sc)(hp:PassesOwn (model X.prog X.w) X.A X.env X.xe):iw X H0 ρ ss fl:=(oU Φ _).ss ss (ac5 _) h G hp
def au(sc:Scope):List Str:=(sc.names.filter fun y=>y.2 == .local || y.2 == .cell).map (·.1)
def bV(P:Program)(w:World)(K:W.Frag)(mg:Str->Option Value)(base:Heap)(k:Nat)(g:Str)(F:List D->Rs D):Prop :=
 ∃f fd ps,cu P w K mg base eO k f fd ps (lg K F)/\mg g=some (.ref f)/\W.keepIn K (.ref f)=true/\dk K fd ps []/\(g==("__debug__" : Str))=false
theorem bV.mono(h:bV P w K mg base j g F)(hjk:j<=k):bV P w K mg base k g F :=
 let ⟨f,fd,ps,h1,h2⟩:=h;⟨f,fd,ps,h1.mono hjk,h2⟩
def pX(P:Program)(w:World)(K:W.Frag)(mg:Str->Option Value)(base:Heap)(k:Nat)(g:Str)(F:List D->Rs D):Prop :=
 ∃j C f fd ps,j+1<=k/\(∀ds r l,F ds=.ok r l->r.lless=true)/\Mk K C f/\cu P w K mg base eO j f fd ps (rL K g F)/\mg g=some (.ref C)/\W.nsIn K mainGlobals g=some (some (.ref C))/\fE K C/\dk K fd ps []/\(g==("__debug__" : Str))=false
theorem pX.mono(h:pX P w K mg base j g F)(hjk:j<=k):pX P w K mg base k g F :=
 let ⟨i,C,f,fd,ps,h0,h1⟩:=h;⟨i,C,f,fd,ps,ZN h0 hjk,h1⟩
def Qq(P:Program)(w:World)(K:W.Frag)(mg:Str->Option Value)(base:Heap)(k:Nat)(g:Str)(F:List D->Rs D):Prop:=bV P w K mg base k g F\/pX P w K mg base k g F
def cW(P:Program)(w:World)(K:W.Frag)(mg:Str->Option Value)(base:Heap)(k:Nat)(n m:Str)(F:List D->Rs D):Prop :=
 ∃C f fd ps,W.nsIn K mainGlobals n=some (some (.ref C))/\fE K C/\rF K C m f/\cu P w K mg base eO k f fd ps (lg K F)/\dk K fd ps []
theorem cW.mono{n:Str}(h:cW P w K mg base j n m F)(hjk:j<=k):cW P w K mg base k n m F :=
 let ⟨C,f,fd,ps,h1,h2,h3,h4,h5⟩:=h;⟨C,f,fd,ps,h1,h2,h3,h4.mono hjk,h5⟩
theorem vz:∀{ps:List Str} {ds:List D} {x:Str} {d:D} {o:Bool},fj ps ds x=some (d,o)->o=false/\∃i:Nat,ps[i]?=some x/\ds[i]?=some d
 | [],ds,x,d,o,h=>by cases ds<;>cases h
 | p::ps,[],x,d,o,h=>by cases h
 | p::ps,y::ds,x,d,o,h=>by
  replace h:(if x=p then some (y,false)else fj ps ds x)=some (d,o):=h
  by_cases e:x=p
  ·rw[if_pos e]at h
   cases h;subst e;exact⟨rfl,0,rfl,rfl⟩
  ·rw[if_neg e]at h
   obtain⟨h1,i,h2,h3⟩:=vz h
   exact⟨h1,i+1,by simpa using h2,by simpa using h3⟩
structure nG(P:Program)(w:World)(K:W.Frag)(mg:Str->Option Value)(base:Heap)(k:Nat)(Φ:Fx):Prop where
 fn:∀g F,Φ.fn g=some F->Qq P w K mg base k g F
 con:∀x d,Φ.con x=some d->∃v u,mg x=some u/\bo v u/\∀H P,ao K H P d v
 blt:∀f B,Φ.blt f=some B->ef f B
 itr:∀f B,Φ.itr f=some B->qc f B
 mth:∀m M,Φ.mth m=some M->nh m M
 mtt:∀m M,Φ.mtt m=some M->pW m M
 slf:pS Φ.slf
 fld:∀n f,Φ.fld n f=true->∀C,W.nsIn K mainGlobals n=some (some (.ref C))->bj K C f
 omt:∀n m F,Φ.omt n m=some F->cW P w K mg base k n m F
 bl:∀n∈iu,mg n=none
def bF(Φ:Fx)(sc:Scope)(ps:List Str)(body:List Stmt)(F:List D->Rs D):Prop:=∀ds r,ag (F ds) r->ag (bw Φ sc ps body ds) r
theorem bF.self:bF Φ sc ps body (bw Φ sc ps body):=fun _ _ h=>h
theorem jU{f:Addr}{E:XK}
  (S:aA (au (ae st)) ps (ae st)) (hΦ:nG P w K mg base k Φ) (hr:cA k (A.deeper (envOfC qual (ae st) s.heap.objs.size f cdv))) :
  bz Φ (kS eO P w K mg base (au (ae st)) qual (ae st) f cdv A outer s H E).nox (ae st):=by
 have hun:=hr.un
 refine⟨rfl,S.nd,fun x hx=>hx,fun x hx=>hx,fun x hx=>hx,fun x hx=>hx,fun g' F' hg=>?_,hΦ.con,hΦ.blt,hΦ.itr,hΦ.mth,hΦ.mtt,hΦ.slf,hΦ.fld,fun n m F hF=>?_,hΦ.bl,?_,fun x hx=>?_,fun x _=>rfl⟩
 ·rcases hΦ.fn g' F' hg with z|z
  ·obtain⟨f',fd',ps',a1,a2,a3,a4,a5⟩:=z
   exact .inl ⟨k,f',fd',ps',a1,hr,a2,a3,a4,a5⟩
  ·obtain⟨j,C,f',fd',ps',a0,a1,a2,a3,a4⟩:=z
   exact .inr ⟨j,C,f',fd',ps',a1,a2,a3,hr.mono a0,a4⟩
 ·obtain⟨C,f',fd',ps',a1,a2,a3,a4,a5⟩:=hΦ.omt n m F hF
  exact⟨k,C,f',fd',ps',a1,a2,a3,a4,hr,a5⟩
 ·show(A.deeper _).units+70<cLine
  omega
 ·show x∈au (ae st)
  unfold au
  unfold dE at hx
  rw[Bool.or_eq_true]at hx
  rcases hx with hx|hx
  ·have hx:(ae st).names.lookup x=some .local:=by simpa using hx
   exact ae2.mpr ⟨(x,.local),List.mem_filter.mpr ⟨aa0 hx,by simp⟩,rfl⟩
  ·have hx:(ae st).names.lookup x=some .cell:=by simpa using hx
   exact ae2.mpr ⟨(x,.cell),List.mem_filter.mpr ⟨aa0 hx,by simp⟩,rfl⟩
theorem ma{f:Addr}{E:XK}
  (S:aA (au (ae st)) ps (ae st)) (h1:ar K H (fun _ _=>True) ds vs) (hl:ds.length=ps.length) :
  bm (kS eO P w K mg base (au (ae st)) qual (ae st) f cdv A outer s H E).nox (fun _=>none) H (start (au (ae st)) vs) (fj ps ds)/\(start (au (ae st)) vs).length=(au (ae st)).length:=by
 have hpl:ps.length<=(au (ae st)).length:=by have:=ad4 List.length S.pre;rw[aj9]at this;omega
 have hvl:vs.length=ps.length:=by rw[<- h1.length];exact hl
 refine⟨⟨fun x d o hx=>?_,fun a ha=>absurd rfl ha⟩,by unfold L2.start;rw[ae1,ab6,List.length_replicate];omega⟩
 obtain⟨rfl,i,i1,i2⟩:=vz hx
 obtain⟨v,i3,i4⟩:=h1.get i2
 have hi:i<ps.length:=(aa7.mp i1).1
 refine⟨i,v,?_,?_,?_,i4.imp fun a b _ _=>rfl⟩
 ·show(au (ae st))[i]?=some x
  rw[<- S.pre,List.getElem?_take_of_lt hi]at i1
  exact i1
 ·rcases S.par x (ae0 i1)with z|z
  ·exact .inl z
  ·exact .inr (.inl z)
 ·unfold L2.start
  rw[List.getElem?_append_left (by rw[ab6];omega),af8,i3];rfl
theorem qR{f:Addr}(Fn:ky K g qual st f fd)
  (S:aA (au (ae st)) ps (ae st)) (hΦ:nG P w K mg base k Φ)
  (hrun:bF Φ (ae st) ps (ak st) F):cu P w K mg base eO (k+1) f fd ps (lg K F):=by
 refine Fn.ok S (fun vs H Q E h=>?_) (fun cdv A outer s H vs Q E hr h=>?_)
 ·obtain⟨ds,r,l,h1,h2,hp,_⟩:=h
  have:=hrun ds r ⟨l,h2,hp⟩
  unfold bw at this
  split at this
  ·rename_i hl;rw[<- h1.length];exact hl
  ·exact(aw this).elim
 ·obtain⟨ds,r,l,h1,h2,hp,q⟩:=h
  have hr1:=hrun ds r ⟨l,h2,hp⟩
  unfold bw at hr1
  split at hr1
  ·rename_i hl
   have G:=jU (outer:=outer) (H:=H) (E:=E) S hΦ hr
   obtain⟨E0,hsl⟩:=ma (P:=P) (w:=w) (mg:=mg) (base:=base) (qual:=qual) (f:=f) (cdv:=cdv) (A:=A) (outer:=outer) (s:=s) (E:=E) S h1 hl
   have B0:d7 H (fun _=>none) H:=fun a o h=>⟨h,rfl⟩
   obtain⟨fl,hx,hr1⟩:=az hr1
   cases fl with
   | rt d =>
    cases aV hr1
    exact⟨_,lX _ (H0:=H) hx G PassesOwn.never,fun _=>none,E0,hsl,B0,fun v H' sm rp=>q v H' sm rp⟩
   | nx ρ' =>
    cases aV hr1
    exact⟨_,lX _ (H0:=H) hx G PassesOwn.never,fun _=>none,E0,hsl,B0,fun ow' σ' H' _ _ kp=>q .non H' (fun a o h=>kp.keep a o h (.inr rfl)) (by rw[ao])⟩
   | bk ρ'=>exact(aw hr1).elim
   | ct ρ'=>exact(aw hr1).elim
  ·exact(aw hr1).elim
def Dz(K:W.Frag)(fs:List Str):Sp:=fun vs H Q _ => ∃x ws C dx,vs=.ref x::ws/\ws.length=fs.length/\H x=some (.ins C dx [])/\fE K C/\(∀f∈fs,bj K C f)/\Q .non (bv H x (.ins C dx (fs.zip ws)))
theorem G9{f:Addr}(Fn:ky K g qual st f fd){a1 a2 a3 f1 f2 f3:Str}{p3 q1 q2 q3 q4 r1 r2 r3 r4:Pos}
  (hN:au (ae st)=[s0,a1,a2,a3]) (S:aA (au (ae st)) [s0,a1,a2,a3] (ae st)) (hv:∀x∈[s0,a1,a2,a3],gB (ae st) x) (hok:∀x∈[s0,a1,a2,a3],fR x=true)
  (hb:ak st=[.Assign [.Attribute (.Name s0 p1) f1 p2] (.Name a1 p3) p4,.Assign [.Attribute (.Name s0 q1) f2 q2] (.Name a2 q3) q4,.Assign [.Attribute (.Name s0 r1) f3 r2] (.Name a3 r3) r4]) (h12:f1≠f2) (h13:f1≠f3) (h23:f2≠f3) :
  cu P w K mg base eO 1 f fd [s0,a1,a2,a3] (Dz K [f1,f2,f3]):=by
 refine Fn.ok (k:=0) S (fun vs H Q E h=>?_) (fun cdv A outer s H vs Q E hr h=>?_)
 ·obtain⟨x,ws,C,dx,rfl,hl,_⟩:=h
  rw[ab1,hl];rfl
 ·obtain⟨x,ws,C,dx,rfl,hl,hx,hc,hn,q⟩:=h
  obtain⟨y1,ws,rfl⟩:∃y r,ws=y::r:=by cases ws with|nil=>cases hl|cons y r=>exact⟨y,r,rfl⟩
  obtain⟨y2,ws,rfl⟩:∃y r,ws=y::r:=by cases ws with|nil=>cases hl|cons y r=>exact⟨y,r,rfl⟩
  obtain⟨y3,ws,rfl⟩:∃y r,ws=y::r:=by cases ws with|nil=>cases hl|cons y r=>exact⟨y,r,rfl⟩
  obtain rfl:ws=[]:=by cases ws with|nil=>rfl|cons _ _=>cases hl
  have nm:∀(i:Nat) (x:Str) (p:Pos),[s0,a1,a2,a3][i]?=some x->PE (kS eO P w K mg base (au (ae st)) qual (ae st) f cdv A outer s H E).nox (.Name x p) (xy i):=fun i x p hi =>
   jP (by show(au (ae st))[i]?=some x;rw[hN];exact hi) (hv x (ae0 hi)) (eY (hok x (ae0 hi))).1 (eY (hok x (ae0 hi))).2
  rw[hb]
  refine⟨_,iU (ul (nm 0 s0 p1 rfl) (nm 1 a1 p3 rfl) rfl) (iU (ul (nm 0 s0 q1 rfl) (nm 2 a2 q3 rfl) rfl) (qu (ul (nm 0 s0 r1 rfl) (nm 3 a3 r3 rfl) rfl))),?_⟩
  rw[hN]
  refine⟨y1,rfl,.ref x,rfl,x,C,dx,_,rfl,hx,hc,hn f1 (by simp),by decide,?_⟩
  refine⟨y2,rfl,.ref x,rfl,x,C,dx,_,rfl,bg,hc,hn f2 (by simp),by simp[ej],?_⟩
  refine⟨y3,rfl,.ref x,rfl,x,C,dx,_,rfl,bg,hc,hn f3 (by simp),?_,?_⟩
  ·have:=ig f2 y2 (ej f1 y1 []);have:=ig f1 y1 [];simp at this;omega
  ·rw[wx,wx]
   have e:ej f3 y3 (ej f2 y2 (ej f1 y1 []))=[(f1,y1),(f2,y2),(f3,y3)]:=by simp[ej,h12,h13,h23]
   rw[e]
   exact q
theorem uo{CX:jv}{f C:Addr}{sp:Sp}{E:XK}{b:Str}{t:TA}(hg:Gl X b)(hm:X.mg b=some (.ref C))(hga:W.specialIn X.K (.ref C) "__getattribute__" = some (some (.builtin "type.__getattribute__")))
  (hrd:W.readsIn X.K C mc=true) (hfc:W.findCls X.K (.ref C) mc m=some (.val (.ref f))) (hk:W.keepIn X.K (.ref f)=true) (F:cu X.prog X.w X.K X.mg X.base CX k f fd ps sp) (hr:cA k X.A) (hb:dk X.K fd ps []) (hx:gh CX X E) (ha:PA X (e::es) t)
  (hst:starEach (e::es) X.env=(false,eval e X.env)::starEach es X.env) (hpl:(backTo pos (starEach es X.env)).any (·.1)=false) (hdb:(b==("__debug__" : Str))=false)
  (ht:eval (.Call (.Attribute (.Name b p) m apos) (e::es) [] pos) X.env=(do
   let ov <- eval (.Name b p) X.env
   standAt apos.atName
   let (f,first) <- holding [ov] (getMethod ov m (do return (<- importBound (.Name b p) X.env).getD true))
   callWith pos f first (backTo pos (starEach (e::es) X.env)) (backToKw pos (keywordEach [] X.env)))) :
  PE X (.Call (.Attribute (.Name b p) m apos) (e::es) [] pos) (xA sp [] E t):=by
 intro pins s σ H Q I h
 refine W.methodCall_KW (pl:=(do return (<- importBound (.Name b p) X.env).getD true)) (iQ I hg hm ?_ hdb) ht
 refine W.method_cls I.kIn hga (W.cls_value I.kIn hrd hfc rfl ?_)
 have I':=I.tok (s.toks+1)
 refine W.callWith_K (first:=[]) (h₀:=X.base) I.ok.mod.kin hk (be (ha pos pins _ σ H _ I' h) fun us s2 ⟨vs,H2,I2,r,q2⟩=>⟨I2.kIn,?_⟩) hst hpl
 exact lG (us:=us) F hr hb .nil hx I2 r q2
mutual
def D.noObj:D->Bool
 | .obj _ _ _=>false
 | .tup l=>fW l
 | .lst l=>fW l
 | .dct _ l=>fW l
 | _=>true
def fW:List D->Bool
 | []=>true
 | d::l=>d.noObj&&fW l
end
mutual
theorem ao.off{K:W.Frag}{P:bO}{H H':Hp}{x C dx:Addr}{fs:List (Str×V)}(hx:H x=some (.ins C dx fs))(s:∀a o,a≠x->H a=some o->H' a=some o):∀{d:D} {v:V},d.noObj=true->ao K H P d v->ao K H' P d v
 | .non,v,_,h=>by rw[ao]at h⊢;exact h
 | .bl b,v,_,h=>by rw[ao]at h⊢;exact h
 | .int i,v,_,h=>by rw[ao]at h⊢;exact h
 | .str x,v,_,h=>by rw[ao]at h⊢;exact h
 | .dct ks es,v,f,h=>by
  rw[ao]at h⊢
  obtain⟨f0,e0,a,vs,e,h1,p,r⟩:=h
  exact⟨f0,e0,a,vs,e,s _ _ (mM h1 hx (fun z=>nomatch z)) h1,p,ar.off hx s (by rw[D.noObj]at f;exact f) r⟩
 | .typ n,v,_,h=>by rw[ao]at h⊢;exact h
 | .sn n,v,_,h=>by
  rw[ao]at h⊢
  obtain⟨a,S,e,h⟩:=h
  exact⟨a,S,e,s _ _ (mM h hx (fun z=>nomatch z)) h⟩
 | .obj n ns ds,v,f,h=>by rw[D.noObj]at f;cases f
 | .cls n,v,_,h=>by rw[ao]at h⊢;exact h
 | .tup l,v,f,h=>by
  rw[ao]at h⊢
  obtain⟨a,vs,e,h,r⟩:=h
  refine⟨a,vs,e,?_,ar.off hx s (by rw[D.noObj]at f;exact f) r⟩
  rcases h with(h|⟨o,h⟩)|h
  ·exact .inl (.inl (s _ _ (mM h hx (fun z=>nomatch z)) h))
  ·exact .inl (.inr ⟨o,s _ _ (mM h hx (fun z=>nomatch z)) h⟩)
  ·exact .inr h
 | .lst l,v,f,h=>by
  rw[ao]at h⊢
  obtain⟨a,vs,b,e,h,p,r⟩:=h
  refine⟨a,vs,b,e,?_,p,ar.off hx s (by rw[D.noObj]at f;exact f) r⟩
  cases b with
  | true=>exact s _ _ (mM h hx (fun z=>nomatch z)) h
  | false =>
   rcases h with⟨o,h⟩|h
   ·exact .inl ⟨o,s _ _ (mM h hx (fun z=>nomatch z)) h⟩
   ·exact .inr h
theorem ar.off{K:W.Frag}{P:bO}{H H':Hp}{x C dx:Addr}{fs:List (Str×V)}(hx:H x=some (.ins C dx fs))(s:∀a o,a≠x->H a=some o->H' a=some o):∀{l:List D} {vs:List V},fW l=true->ar K H P l vs->ar K H' P l vs
 | [],vs,_,h=>by rw[ar]at h⊢;exact h
 | d::l,vs,f,h=>by
  rw[ar]at h⊢
  rw[fW,ZZ]at f
  obtain⟨v,r,e,h1,h2⟩:=h
  exact⟨v,r,e,ao.off hx s f.1 h1,ar.off hx s f.2 h2⟩
end
def aD(s:Stmt)(j:Nat):Stmt:=(match s with | .ClassDef _ _ _ b _ _ _ _ _ _ _=>b|_=>[]).getD j (.Pass ⟨0,0,0,0⟩)
def uP(s:Stmt):List Expr:=match ak s with
 | [.Expr (.Call _ (_::args) _ _) _]=>args
 | _=>[]
def iM(Φ:Fx)(sc:Scope)(ps:List Str)(args:List Expr)(n:Str)(fs:List Str)(ds:List D):Rs D :=
 if ds.length+1=ps.length then(ck Φ args sc (fj ps (.obj n [] []::ds))).bnd fun q=>if q.1.length=fs.length then .ok (.obj n fs q.1) [aC q.1=true,fW q.1=true]else .st else .st
theorem wU{f f0:Addr}{fd0:FuncData}{ps0:List Str}{n b:Str}{C0:Addr}{pb p0:Pos}(Fn:ky K g qual st f fd)
  (S:aA (au (ae st)) ps (ae st)) (hΦ:nG P w K mg base k Φ) (hF0:cu P w K mg base eO k f0 fd0 ps0 (Dz K fs)) (hb0:dk K fd0 ps0 []) (hk0:W.keepIn K (.ref f0)=true)
  (hgb:(ae st).names.lookup b=some .globalImplicit) (hm:mg b=some (.ref C0)) (hga:W.specialIn K (.ref C0) "__getattribute__" = some (some (.builtin "type.__getattribute__"))) (hrd:W.readsIn K C0 mc=true) (hfc:W.findCls K (.ref C0) mc "__init__" = some (.val (.ref f0)))
  (hbody:ak st=[.Expr (.Call (.Attribute (.Name b pb) "__init__" ap) (.Name s0 p0::args) [] cp) p4]) (hs0:ps[0]?=some s0) (hok:fR s0=true) (hdb:(b==("__debug__" : Str))=false) (hln:(ap.endLine==cp.line)=true) (hfew:args.length<28)
  (hna:∀C,W.nsIn K mainGlobals n=some (some (.ref C))->∀x∈fs,bj K C x):cu P w K mg base eO (k+1) f fd ps (rL K n (iM Φ (ae st) ps args n fs)):=by
 refine Fn.ok S (fun vs H Q E h=>?_) (fun cdv A outer s H vs Q E hr h=>?_)
 ·obtain⟨x,ws,C,dx,ds,r,l,rfl,hx,hns,hc,r1,hF,_⟩:=h
  unfold iM at hF
  split at hF
  ·rename_i hl;rw[ab1,<- r1.length];exact hl
  ·cases hF
 ·obtain⟨x,ws,C,dx,ds,r,l,rfl,hx,hns,hc,r1,hF,hp,hl,q⟩:=h
  unfold iM at hF
  split at hF
  ·rename_i hlen
   obtain⟨qv,l1,l2,h1,p1,hF,p2⟩:=bi hF hp
   split at hF
   ·rename_i hfl
    cases hF
    have G:=jU (outer:=outer) (H:=H) (E:=E) S hΦ hr
    have r0:ar K H (fun _ _=>True) (.obj n [] []::ds) (.ref x::ws):=ar.cons (by rw[ao];exact⟨rfl,rfl,x,C,dx,[],rfl,hns,hc,hx,ar.nil⟩) r1
    obtain⟨E0,hsl⟩:=ma (P:=P) (w:=w) (mg:=mg) (base:=base) (qual:=qual) (f:=f) (cdv:=cdv) (A:=A) (outer:=outer) (s:=s) (E:=E) S r0 hlen
    obtain⟨hst,hal⟩:=dJ h1 p1
    have ad:=j7 args h1 p1 G
    have hi0:(au (ae st))[0]?=some s0:=by
     have hp0:=(aa7.mp hs0).1
     have hs1:=hs0
     rw[<- S.pre,List.getElem?_take_of_lt hp0]at hs1
     exact hs1
    have hv0:gB (ae st) s0:=by
     rcases S.par s0 (ae0 hs0)with z|z
     ·exact .inl z
     ·exact .inr (.inl z)
    have hst':∀e∈Expr.Name s0 p0::args,∀y p,e ≠ .Starred y p:=fun e he=>by
     rcases ZT.mp he with rfl|he
     ·intro _ _ z;cases z
     ·exact hst e he
    rw[hbody]
    refine⟨_,qu (jO (uo (G.gl b hgb) hm hga hrd hfc hk0 hF0 hr hb0 jg (qz (jP (i:=0) hi0 hv0 (eY hok).1 (eY hok).2) (ad (fun _=>none)) (bN fun _ _ z=>by cases z)) (bN fun _ _ z=>by cases z) (cV hst) hdb (yk (base_of rfl) (jZ hst' (by rw[ab1];omega)) hln)) rfl),?_⟩
    refine⟨.ref x,?_,E0,fun vs H1 s1 rv=>?_⟩
    ·have hn:0<(au (ae st)).length:=(aa7.mp hi0).1
     rfl
    ·refine⟨x,vs++[],C,dx,rfl,by rw[ad1,<- rv.length];exact hfl,s1 _ _ hx,hc,hna C hns,q _ (fun a o ha h=>?_) ?_⟩
     ·rw[aK ha];exact s1 _ _ h
     ·rw[ao,ad1]
      exact⟨p2.1,hfl.symm,x,C,dx,vs,rfl,hns,hc,bg,((rv.off (s1 _ _ hx) (fun a o ha h=>by rw[aK ha];exact h) p2.2.1).imp fun _ _ _=>True.intro)⟩
   ·cases hF
  ·cases hF
theorem bf{f:Addr}(Fn:ky K g qual st f fd)
  (S:aA (au (ae st)) ps (ae st)) (hm:mg g=some (.ref f)) (hb:dk K fd ps []) (hd:(g==("__debug__" : Str))=false)
  (hΦ:nG P w K mg base k Φ) (hrun:bF Φ (ae st) ps (ak st) F):bV P w K mg base (k+1) g F :=
 ⟨f,fd,ps,qR Fn S hΦ hrun,hm,Fn.kp,hb,hd⟩
theorem av{Pr:α->Prop}{x:α}{l:List α}(h1:Pr x)(h2:∀y∈l,Pr y):∀y∈x::l,Pr y:=fun y hy=>(ZT.mp hy).elim (fun e=>e ▸ h1) (h2 y)
theorem aj{Pr:α->Prop}:∀y∈([]:List α),Pr y:=fun y hy=>by cases hy
theorem K1{a:Addr}{ns:List Int}(hO:vL H)(hS:de K H a (ns.map V.int))(h:ag (F [.lst (ns.map D.int)]) (.bl true)):lg K F [.ref a] H (fun v _=>v=.bl true) fun _ _ _=>False:=by
 obtain⟨l,h,hp⟩:=h
 refine⟨[.lst (ns.map D.int)],.bl true,l,ar.one ?_,h,hp,fun v H' _ r=>by rw[ao]at r;exact r⟩
 rw[ao]
 rcases hS with(hS|hS)|hS
 ·rcases hO a with z|⟨o,xs,z⟩
  ·rw[z]at hS;cases hS
  ·rw[z]at hS;cases hS
 ·exact⟨a,_,false,rfl,.inl hS,True.intro,ar.ofInts⟩
 ·exact⟨a,_,false,rfl,.inr hS,True.intro,ar.ofInts⟩
abbrev sA(P:Program)(w:World)(K:W.Frag)(mg:Str->Option Value)(base:Heap)(k:Nat):Str×(List D->Rs D)->Prop:=fun p=>Qq P w K mg base k p.1 p.2
abbrev lf(mg:Str->Option Value)(K:W.Frag):Str×D->Prop:=fun p => ∃v u,mg p.1=some u/\bo v u/\∀H P,ao K H P p.2 v
abbrev gJ:Str×(List D->R1)->Prop:=fun p=>ef p.1 p.2
abbrev vO:Str×(List D->Nat->R1)->Prop:=fun p=>qc p.1 p.2
abbrev rE:Str×(D->List D->R1)->Prop:=fun p=>nh p.1 p.2
abbrev yZ:Str×(List D->List D->Nat->Rs (List D))->Prop:=fun p=>pW p.1 p.2
theorem aY{l:List (Str×(List D->Rs D))}{c:List (Str×D)}{b:List (Str×(List D->R1))}{i:List (Str×(List D->Nat->R1))}{m:List (Str×(D->List D->R1))}{t:List (Str×(List D->List D->Nat->Rs (List D)))}
  (hl:∀p∈l,sA P w K mg base k p) (hc:∀p∈c,lf mg K p) (hb:∀p∈b,gJ p) (hi:∀p∈i,vO p) (hm:∀p∈m,rE p) (ht:∀p∈t,yZ p) (hs:pS sf) (hn:∀n∈iu,mg n=none):nG P w K mg base k (Tb l c b i m t sf) :=
 ⟨fun g F h=>hl (g,F) (aa0 h),fun x d h=>hc (x,d) (aa0 h),fun f B h=>hb (f,B) (aa0 h),fun f B h=>hi (f,B) (aa0 h),fun f B h=>hm (f,B) (aa0 h),fun f B h=>ht (f,B) (aa0 h),hs,(fun _ _ h=>by cases h),(fun _ _ _ h=>by cases h),hn⟩
abbrev hV(K:W.Frag):Str×List Str->Prop:=fun p => ∀f∈p.2,∀C,W.nsIn K mainGlobals p.1=some (some (.ref C))->bj K C f
abbrev yY(P:Program)(w:World)(K:W.Frag)(mg:Str->Option Value)(base:Heap)(k:Nat):Str×List (Str×(List D->Rs D))->Prop:=fun p => ∀q∈p.2,cW P w K mg base k p.1 q.1 q.2
theorem cx{l:List (Str×(List D->Rs D))}{c:List (Str×D)}{b:List (Str×(List D->R1))}{i:List (Str×(List D->Nat->R1))}{m:List (Str×(D->List D->R1))}{t:List (Str×(List D->List D->Nat->Rs (List D)))}{fl:List (Str×List Str)}{om:List (Str×List (Str×(List D->Rs D)))}
  (hl:∀p∈l,sA P w K mg base k p) (hc:∀p∈c,lf mg K p) (hb:∀p∈b,gJ p) (hi:∀p∈i,vO p) (hm:∀p∈m,rE p) (ht:∀p∈t,yZ p) (hs:pS sf) (hfl:∀p∈fl,hV K p) (hom:∀p∈om,yY P w K mg base k p) (hn:∀n∈iu,mg n=none):nG P w K mg base k (jb l c b i m t sf fl om) :=
 ⟨fun g F h=>hl (g,F) (aa0 h),fun x d h=>hc (x,d) (aa0 h),fun f B h=>hb (f,B) (aa0 h),fun f B h=>hi (f,B) (aa0 h),fun f B h=>hm (f,B) (aa0 h),fun f B h=>ht (f,B) (aa0 h),hs,
  (fun n f h C hC=>by
   replace h:(match fl.lookup n with|some fs=>fs.contains f|none=>false)=true:=h
   split at h
   ·rename_i fs e;exact hfl (n,fs) (aa0 e) f (List.contains_iff_mem.mp h) C hC
   ·cases h),
  (fun n x F h=>by
   replace h:(match om.lookup n with|some ms=>ms.lookup x|none=>none)=some F:=h
   split at h
   ·rename_i ms e;exact hom (n,ms) (aa0 e) (x,F) (aa0 h)
   ·cases h),hn⟩
theorem du{n:Str}{f C:Addr}(Fn:ky K g qual st f fd)
  (S:aA (au (ae st)) ps (ae st)) (hn:W.nsIn K mainGlobals n=some (some (.ref C))) (hc:fE K C) (hm:rF K C g f) (hb:dk K fd ps [])
  (hΦ:nG P w K mg base k Φ) (hrun:bF Φ (ae st) ps (ak st) F):cW P w K mg base (k+1) n g F :=
 ⟨C,f,fd,ps,hn,hc,hm,qR Fn S hΦ hrun,hb⟩
theorem uE{n:Str}{C f:Addr}(hF:∀ds r l,F ds=.ok r l->r.lless=true)(hM:Mk K C f)(h:cu P w K mg base eO k f fd ps (rL K n F))(hm:mg n=some (.ref C))
  (hn:W.nsIn K mainGlobals n=some (some (.ref C))) (hc:fE K C) (hb:dk K fd ps []) (hd:(n==("__debug__" : Str))=false):pX P w K mg base (k+1) n F:=⟨k,C,f,fd,ps,ZP _,hF,hM,h,hm,hn,hc,hb,hd⟩
theorem oW{n:Str}:∀ds r l,iM Φ sc ps args n fs ds=.ok r l->r.lless=true:=fun ds r l h=>by
 unfold iM at h
 split at h
 ·unfold Rs.bnd at h
  split at h
  ·cases h
  ·split at h
   ·cases h
   ·rename_i e
    cases h
    dsimp only at e
    split at e
    ·cases e;rfl
    ·cases e
 ·cases h
theorem vj{c:Addr}{ss:Array (Option Value)}(hm:mg x=some (.ref c))(hl:K.lookup c=some ⟨.type "tuple", dd,.seq its nn,ss⟩)(hz:its.size<=sizeLine)(hv:aW vs its.toList)
  (hr:∀H P,ar K H P ds vs):lf mg K (x,.tup ds):=⟨.ref c,.ref c,hm,rfl,fun H P=>by rw[ao];exact⟨c,_,rfl,.inr ⟨_,its,nn,hl,rfl,rfl,hz,hv⟩,hr H P⟩⟩
theorem fu{c:Addr}{ss:Array (Option Value)}{ns:List Int}(hl:K.lookup c=some ⟨.type "tuple", dd,.seq its nn,ss⟩)(hz:its.size<=sizeLine)(hv:aW (ns.map V.int) its.toList):∀H P,ao K H P (.tup (ns.map .int)) (.ref c) :=
 fun H P=>by rw[ao];exact⟨c,_,rfl,.inr ⟨_,its,nn,hl,rfl,rfl,hz,hv⟩,ar.ofInts⟩
theorem G2{y:Str}{t:Tok}(hm:mg x=some (.str y t)):lf mg K (x,.str y):=⟨.str y,.str y t,hm,⟨t,rfl⟩,fun H P=>by rw[ao]⟩
theorem G3{y:Int}{t:Tok}(hm:mg x=some (.int y t)):lf mg K (x,.int y):=⟨.int y,.int y t,hm,⟨t,rfl⟩,fun H P=>by rw[ao]⟩
open AutoSeq1 (wpAny_loadPart')
section
variable{prog:Program}{w:World}{A:Around}{E:Value->Shared->Prop}{s:Shared}
theorem gN{it:Addr}{vs:Array Value}{x:Value}(hIt:s.heap.IsTupleIter it tu i)(hT:s.heap.IsTuple tu vs)(hx:vs[i]?=some x)
  (go:∀h1,h1.IsTupleIter it tu (i+1)->Heap.SameBut it s.heap h1->Q x { s with heap:=h1 }):wpAny (model prog w) A (Builtin.SmallTypes.nextOf (.ref it)) Q E s:=by
 have key:=wpAny_pyNext_tuple_item (prog:=prog) (w:=w) (A:=A) (E:=E) (Q:=fun r s1 => ∃v,r=some v/\Q v s1) hIt hT hx (fun h1 a b=>⟨x,rfl,go h1 a b⟩)
 obtain⟨o,ho,hc,hd⟩:=id hIt
 obtain⟨ot,hot,_,nt,hdt⟩:=hT
 unfold Builtin.SmallTypes.nextOf
 refine ZL (ac9 (name:=Str.ofString "__next__") hIt.typeIs F.slot_tuple_iterator_next (af3 F.slot_tuple_iterator_next hIt.typeIs F.entry_tuple_iterator_next ?_ (F.args_tuple_iterator_next_1 _)))
 show wpAny _ _ (field (.ref it) 0 >>= _) _ _ s
 refine ZL (ab4 ho hd (x:=.ref tu) rfl ?_)
 show wpAny _ _ (if (Value.ref tu==Value.none)=true then _ else _) _ _ s
 rw[if_neg (show ¬ ((Value.ref tu==Value.none)=true)from aa8)]
 show wpAny _ _ (field (.ref it) 1 >>= _) _ _ s
 refine ZL (ab4 ho hd (x:=Value.int (i:Int) 0) rfl ?_)
 show wpAny _ _ (seqItems? (.ref tu) >>= _) _ _ s
 refine ZL (ad3 hot hdt ?_)
 simp only[Int.toNat_natCast,hx]
 refine ZL (wpAny_setField ho hd (by simp) (ZO ⟨x,rfl,ZO (go _ ?_ (ag6 ..))⟩))
 refine⟨_,ag1 _ ho (Obj.isFreed_of_fields (Obj.data_mapFields hd _)),(Obj.cls_mapFields ..).trans hc,?_⟩
 rw[Obj.data_mapFields hd];simp[rawInt]
theorem zn{it:Addr}{vs:Array Value}(hh:A.handled=none)(hIt:s.heap.IsTupleIter it tu i)(hT:s.heap.IsTuple tu vs)(hx:vs[i]?=none)
  (go:∀h1 x,Heap.ExtBut it s.heap h1->(∃o,h1.get? x=some o/\o.cls=.type "StopIteration")->E (.ref x) { s with heap:=h1 }):wpAny (model prog w) A (Builtin.SmallTypes.nextOf (.ref it)) Q E s:=by
 obtain⟨o,ho,hc,hd⟩:=id hIt
 obtain⟨ot,hot,_,nt,hdt⟩:=hT
 unfold Builtin.SmallTypes.nextOf
 refine ZL (ac9 (name:=Str.ofString "__next__") hIt.typeIs F.slot_tuple_iterator_next (af3 F.slot_tuple_iterator_next hIt.typeIs F.entry_tuple_iterator_next ?_ (F.args_tuple_iterator_next_1 _)))
 show wpAny _ _ (field (.ref it) 0 >>= _) _ _ s
 refine ZL (ab4 ho hd (x:=.ref tu) rfl ?_)
 show wpAny _ _ (if (Value.ref tu==Value.none)=true then _ else _) _ _ s
 rw[if_neg (show ¬ ((Value.ref tu==Value.none)=true)from aa8)]
 show wpAny _ _ (field (.ref it) 1 >>= _) _ _ s
 refine ZL (ab4 ho hd (x:=Value.int (i:Int) 0) rfl ?_)
 show wpAny _ _ (seqItems? (.ref tu) >>= _) _ _ s
 refine ZL (ad3 hot hdt ?_)
 simp only[Int.toNat_natCast,hx]
 refine ZL (wpAny_rule (ZL (wpAny_setField ho hd (by simp) ?_)))
 show wpAny _ _ (newExc (.type "StopIteration") [] >>= _) _ _ _
 refine ZL ?_
 simp only[newExc,newTuple]
 refine ZL (ag4 ?_ (by size_fits))
 refine ZL (m:=firstArgMember _ _) (wpAny_of_eq (a:=Value.none) (by first|rfl|(simp only[firstArgMember]<;>rfl)) ?_)
 refine ag4 ?_ (by size_fits)
 simp only[raiseNew]
 refine ZL (wpAny_handled ?_)
 first|rw[show A.in1.handled=none from hh]|rw[hh]
 refine ZL (ZO (wpAny_throw ?_))
 exact go _ _ (((ag6 ..).extBut.push _).push _) ⟨_,ZQ _ rfl,rfl⟩
theorem GR{e it:Addr}{x old:Value}{Kn:Heap->Prop}(isE:IsEnum s.heap e it i old)(hne:e≠it)
  (stay:∀h1 h2:Heap,Kn h1->(∀o,h1.get? it=some o->h2.get? it=some o)->Kn h2)
  (inner:∀(Q1:Value->Shared->Prop),(∀h1,Kn h1->Heap.SameBut it s.heap h1->Q1 x { s with heap:=h1 })->wpAny (model prog w) A.in1 (Builtin.SmallTypes.nextOf (.ref it)) Q1 E s)
  (go:∀h1,IsEnumOut h1 e it ((i:Int)+1) x s.heap.objs.size->Kn h1->h1.get? s.heap.objs.size=some { cls:=.type "tuple", data:=.seq #[.int i s.toks,x] }->(∀b o,b≠e->b≠it->s.heap.get? b=some o->h1.get? b=some o)->Q (.ref s.heap.objs.size) { s with heap:=h1,toks:=s.toks+1 }) :
  wpAny (model prog w) A.in1 (Builtin.«enumerate.__next__» ⟨[.ref e],[]⟩) (fun fin s' => ∃v,fin=.done (.ret v)/\Q v s') E s:=by
 obtain⟨h0,gg,dd,t0,oo⟩:=s
 have elt:e<h0.objs.size:=ZS isE
 show wpAny _ _ (field (.ref e) 2 >>= _) _ _ _
 refine ZL (ab4 isE rfl (x:=Value.ref it) rfl (ZL (inner _ fun h1 k1 b1=>?_)))
 have b1':Heap.SameBut it h0 h1:=b1
 have E1:IsEnum h1 e it i old:=(b1'.2 e hne).trans isE
 show wpAny _ _ (field (.ref e) 3 >>= _) _ _ ⟨h1,gg,dd,t0,oo⟩
 refine ZL (ab4 E1 rfl (x:=rawInt (i:Int)) rfl ?_)
 show wpAny _ _ (field (.ref e) 4 >>= _) _ _ ⟨h1,gg,dd,t0,oo⟩
 refine ZL (ab4 E1 rfl (x:=Value.none) rfl ?_)
 show wpAny _ _ (mkInt i >>= _) _ _ ⟨h1,gg,dd,t0,oo⟩
 refine ZL (wpAny_mkInt ?_)
 show wpAny _ _ (setField (.ref e) 3 (rawInt ((i:Int)+1)) >>= _) _ _ ⟨h1,gg,dd,t0+1,oo⟩
 refine ZL (ac3 E1 (by simp) fun h2 E2 b2=>?_)
 have b2':Heap.SameBut e h1 h2:=b2
 have E2':IsEnum h2 e it ((i:Int)+1) old:=E2
 show wpAny _ _ (setField (.ref e) 4 .none >>= _) _ _ ⟨h2,gg,dd,t0+1,oo⟩
 refine ZL (ac3 E2' (by simp) fun h3 E3 b3=>?_)
 have b3':Heap.SameBut e h2 h3:=b3
 have E3':IsEnum h3 e it ((i:Int)+1) old:=E3
 show wpAny _ _ (newTuple [.int i t0,x] >>= _) _ _ ⟨h3,gg,dd,t0+1,oo⟩
 refine ZL (wpAny_newTuple ?_)
 have z3:h3.objs.size=h0.objs.size:=by rw[b3'.1,b2'.1,b1'.1]
 have E4:IsEnum (h3.push { cls:=.type "tuple", data:=.seq #[.int i t0,x] }) e it ((i:Int)+1) old:=ZM _ E3'
 have T4:(h3.push { cls:=.type "tuple", data:=.seq #[.int i t0,x] }).get? h0.objs.size=some { cls:=.type "tuple", data:=.seq #[.int i t0,x] }:=by rw[<- z3];exact ZQ _ rfl
 have K4:∀b o,b≠e->b≠it->h0.get? b=some o->(h3.push { cls:=.type "tuple", data:=.seq #[.int i t0,x] }).get? b=some o:=fun b o n1 n2 q=>ZM _ (b3'.extBut b o n1 (b2'.extBut b o n1 (b1'.extBut b o n2 q)))
 have N4:Kn (h3.push { cls:=.type "tuple", data:=.seq #[.int i t0,x] }):=stay h1 _ k1 fun o q=>ZM _ (b3'.extBut it o (ai0 hne) (b2'.extBut it o (ai0 hne) q))
 rw[z3]
 generalize h3.push { cls:=.type "tuple", data:=.seq #[.int i t0,x] }=h4 at E4 T4 K4 N4
 show wpAny _ _ (Builtin.SmallTypes.ownedTupleIsFree (.ref e) >>= _) _ _ ⟨h4,gg,dd,t0+1,oo⟩
 refine ZL ?_
 unfold Builtin.SmallTypes.ownedTupleIsFree
 refine ZL (ab4 E4 rfl (x:=Value.none) rfl (ZO ?_))
 simp only[ai7]
 refine ZL (wpAny_rule (ZL (ab4 E4 rfl (x:=old) rfl ?_)))
 refine ZL (ac3 E4 (by simp) fun h5 E5 b5=>?_)
 have b5':Heap.SameBut e h4 h5:=b5
 have E5':IsEnum h5 e it ((i:Int)+1) x:=E5
 show wpAny _ _ (Builtin.SmallTypes.ownedTupleHandOut (.ref e) (.ref h0.objs.size) >>= _) _ _ ⟨h5,gg,dd,t0+1,oo⟩
 refine ZL ?_
 unfold Builtin.SmallTypes.ownedTupleHandOut
 refine ZL (ac3 E5' (by simp) fun h6 E6 b6=>?_)
 have b6':Heap.SameBut e h5 h6:=b6
 have E6':IsEnumOut h6 e it ((i:Int)+1) x h0.objs.size:=E6
 refine ac3 E6' (by simp) fun h7 E7 b7=>?_
 have b7':Heap.SameBut e h6 h7:=b7
 have E7':IsEnumOut h7 e it ((i:Int)+1) x h0.objs.size:=E7
 have far:∀b o,b≠e->h4.get? b=some o->h7.get? b=some o:=fun b o n1 q=>b7'.extBut b o n1 (b6'.extBut b o n1 (b5'.extBut b o n1 q))
 refine ZL (aj2 (ZO ⟨_,rfl,go h7 E7' ?_ (far _ _ (ag2 elt) T4) fun b o n1 n2 q=>far b o n1 (K4 b o n1 n2 q)⟩))
 exact stay h4 h7 N4 fun o q=>far it o (ai0 hne) q
end
variable{X:Cx}
theorem rV{t2:Nat}{p:Addr}{o:HO}(I:Inv X pins σ H s)
  (k:∀b u,b∉ch->s.heap.get? b=some u->h2.get? b=some u) (hp:s.heap.objs.size<=p) (hn:∀b∈ch,hJ X pins H b) (new:dj X.prog X.w (bv H p o) h2 p o):Inv X pins σ (bv H p o) { s with heap:=h2,toks:=t2 }:=by
 have hH:H p=none:=I.hok.fresh hp
 have tr:∀b u,H b=some u->b∉ch:=fun b u e z=>by rw[(hn b z).1]at e;cases e
 have un:Un (jY X.stack) ch H (bv H p o) s.heap h2:=by
  refine⟨fun b ob e n _ c=>k b ob c e,fun b ob e n _ c=>⟨ob.slots,k b ob c e⟩,fun b ob e n c=>?_,fun b ob e c=>⟨ob,k b ob c e⟩,fun b xs e=>?_,fun b ob u e=>?_,fun b ps e=>⟨#[],?_⟩⟩
  ·rw[aK (ac1 (ZW (ZS e) hp))];exact n
  ·rw[aK (bU e hH)];exact e
  ·rw[aK (bU e hH)];exact e
  ·rw[aK (bU e hH),e];simp
 refine I.call (g':=s.gens) (d':=s.drawn) un (fun b u e=>?_) I.bare fun b hb=>⟨(hn b hb).2.2.2.1,(hn b hb).2.1,(hn b hb).2.2.2.2.1,(hn b hb).2.2.2.2.2⟩
 by_cases hb:b=p
 ·subst hb;rw[bg]at e;cases e;exact new
 ·rw[aK hb]at e
  refine(I.hok b u e).stay (fun c v hc q=>k c v ?_ q) (fun c q=>by rw[aK (bU q hH)];exact q) fun c xs q=>by rw[aK (bU q hH)];exact q
  rcases hc with z|z
  ·rw[z];exact tr b u e
  ·exact tr c _ z
theorem Ai(h:iY tg=true):∃es n p,tg=.Tuple es n p:=by
 cases tg<;>first|exact⟨_,_,_,rfl⟩|cases h
open AutoSeq1 (wpAny_loadPart')
structure Wk(prog:Program)(w:World)(i l:Addr)(P:Nat->Heap->Prop)(g:Nat->Option Value):Prop where
 stay:∀k (h h':Heap),P k h->(∀c o,c=i\/c=l->h.get? c=some o->h'.get? c=some o)->P k h'
 here:∀k (h:Heap),P k h->∃o,h.get? i=some o/\∀v,o.data≠Data.cell v
 item:∀(A:Around) (E:Value->Shared->Prop) (s:Shared) (k:Nat) (x:Value) (Q:Value->Shared->Prop),P k s.heap->g k=some x->(∀h1,P (k+1) h1->Heap.SameBut i s.heap h1->Q x { s with heap:=h1 })->wpAny (model prog w) A (Builtin.SmallTypes.nextOf (.ref i)) Q E s
 done:∀(A:Around) (E:Value->Shared->Prop) (s:Shared) (k:Nat) (Q:Value->Shared->Prop),A.handled=none->P k s.heap->g k=none->(∀h1 x,Heap.ExtBut i s.heap h1->(∃o,h1.get? x=some o/\o.cls=.type "StopIteration")->E (.ref x) { s with heap:=h1 })->wpAny (model prog w) A (Builtin.SmallTypes.nextOf (.ref i)) Q E s
theorem ol{i l:Addr}(ne:l≠i):Wk prog w i l (fun k h=>h.IsTupleIter i l k/\h.IsTuple l xs) (fun k=>xs[k]?) where
 stay:=fun k h h' p q=>⟨p.1.at fun o e=>q i o (.inl rfl) e,p.2.at fun o e=>q l o (.inr rfl) e⟩
 here:=fun k h p=>let ⟨o,e,_,d⟩:=p.1;⟨o,e,fun v z=>by rw[d]at z;cases z⟩
 item:=fun A E s k x Q p hx q=>gN p.1 p.2 hx fun h1 a b=>q h1 ⟨a,p.2.extBut b.extBut ne⟩ b
 done:=fun A E s k Q hh p hx q=>zn hh p.1 p.2 hx q
section
variable{prog:Program}{w:World}{A:Around}{E:Value->Shared->Prop}{s:Shared}
variable{z TI TO i1 i2 l1 l2:Addr}{k1 k2:Nat}{P1 P2:Nat->Heap->Prop}{g1 g2:Nat->Option Value}{x y a b:Value}
structure Zs(z TI TO i1 i2 l1 l2:Addr)(P1 P2:Nat->Heap->Prop)(k:Nat)(h:Heap):Prop where
 ap:ZipApart z TI TO i1 i2 l1 l2
 rd:IsZip h z TI TO .none
 ins:IsPair h TI (.ref i1) (.ref i2)
 out:∃a b,IsPair h TO a b
 fst:P1 k h
 snd:P2 k h
theorem Zs.item(W1:Wk prog w i1 l1 P1 g1)(W2:Wk prog w i2 l2 P2 g2)(S:Zs z TI TO i1 i2 l1 l2 P1 P2 k s.heap)(hx:g1 k=some x)(hy:g2 k=some y)
  (go:∀h1,(∀h2,IsZip h2 z TI TO .none->Heap.SameBut z h1 h2->Zs z TI TO i1 i2 l1 l2 P1 P2 (k+1) h2)->IsZip h1 z TI TO (rawInt s.heap.objs.size)->IsPair h1 s.heap.objs.size x y->(∀c o,c∉[z,TO,i1,i2]->s.heap.get? c=some o->h1.get? c=some o)->Q (.ref s.heap.objs.size) { s with heap:=h1 }) :
  wpAny (model prog w) A (Builtin.«zip.__next__» ⟨[.ref z],[]⟩) (fun fin s' => ∃v,fin=.done (.ret v)/\Q v s') E s:=by
 obtain⟨D,isZ,pI,⟨a,b,pO⟩,p1,p2⟩:=S
 obtain⟨h0,gg,dd,t0,oo⟩:=s
 show wpAny _ _ (field (.ref z) 2 >>= _) _ _ ⟨h0,gg,dd,t0,oo⟩
 refine ZL (ab4 isZ rfl (x:=Value.bool false) rfl ?_)
 show wpAny _ _ (field (.ref z) 3 >>= _) _ _ ⟨h0,gg,dd,t0,oo⟩
 refine ZL (ab4 isZ rfl (x:=Value.ref TI) rfl (ZL (ad3 pI rfl ?_)))
 show wpAny _ _ (Builtin.SmallTypes.ownedTupleIsFree (.ref z) >>= _) _ _ ⟨h0,gg,dd,t0,oo⟩
 unfold Builtin.SmallTypes.ownedTupleIsFree
 refine ZL (ZL (ab4 isZ rfl (x:=Value.none) rfl (ZO ?_)))
 simp only[ai7]
 refine ZL (wpAny_rule (ZL (ab4 isZ rfl (x:=Value.ref TO) rfl (ZL (ac3 isZ (by simp) fun q1 Z1 m1=>?_)))))
 have Z1:IsZip q1 z TI TO .ellipsis:=Z1
 have m1:Heap.SameBut z h0 q1:=m1
 simp only[List.zipIdx_cons,List.zipIdx_nil,ag5,aj6]
 refine ZL (ZL (ZL (ai8 ?_)))
 show wpAny _ _ (Builtin.SmallTypes.nextOf (.ref i1) >>= _) _ _ ⟨q1,gg,dd,t0,oo⟩
 have e1:∀c o,c≠z->h0.get? c=some o->q1.get? c=some o:=fun c o n u=>m1.extBut c o n u
 refine ZL (W1.item _ _ _ k x _ (W1.stay k _ _ p1 fun c o hc u=>e1 c o (by rcases hc with rfl|rfl;exact D.i1z;exact D.l1z) u) hx fun q2 p1' m2=>ZO ?_)
 have m2:Heap.SameBut i1 q1 q2:=m2
 have e2:∀c o,c≠z->c≠i1->h0.get? c=some o->q2.get? c=some o:=fun c o n n' u=>m2.extBut c o n' (e1 c o n u)
 have O2:IsPair q2 TO a b:=e2 _ _ D.TOz D.TOi1 pO
 refine ZL (ad3 O2 rfl (ZL (wpAny_updateSeq_pair O2 fun q3 O3 m3=>ZL (aj2 (ZO ?_)))))
 have O3:IsPair q3 TO x b:=O3
 have m3:Heap.SameBut TO q2 q3:=m3
 have e3:∀c o,c≠z->c≠i1->c≠TO->h0.get? c=some o->q3.get? c=some o:=fun c o n n' n'' u=>m3.extBut c o n'' (e2 c o n n' u)
 refine ZL (ZL (ai8 ?_))
 show wpAny _ _ (Builtin.SmallTypes.nextOf (.ref i2) >>= _) _ _ ⟨q3,gg,dd,t0,oo⟩
 refine ZL (W2.item _ _ _ k y _ (W2.stay k _ _ p2 fun c o hc u=>by
  rcases hc with rfl|rfl
  ·exact e3 c o D.i2z D.i12.symm D.TOi2.symm u
  ·exact e3 c o D.l2z D.l2i1 D.l2TO u) hy fun q4 p2' m4=>ZO ?_)
 have m4:Heap.SameBut i2 q3 q4:=m4
 have O4:IsPair q4 TO x b:=m4.extBut _ _ D.TOi2 O3
 refine ZL (ad3 O4 rfl (ZL (wpAny_updateSeq_pair O4 fun q5 O5 m5=>ZL (aj2 (ZO (ZO ?_))))))
 have O5:IsPair q5 TO x y:=O5
 have m5:Heap.SameBut TO q4 q5:=m5
 refine ZL (ad3 O5 rfl (ZL (wpAny_newTuple ?_)))
 have sz:q5.objs.size=h0.objs.size:=by rw[m5.1,m4.1,m3.1,m2.1,m1.1]
 have e5:∀c o,c≠z->c≠i1->c≠TO->c≠i2->h0.get? c=some o->q5.get? c=some o:=fun c o n n' n'' n3 u=>m5.extBut c o n'' (m4.extBut c o n3 (e3 c o n n' n'' u))
 have Z5:IsZip q5 z TI TO .ellipsis:=m5.extBut _ _ D.TOz.symm (m4.extBut _ _ D.i2z.symm (m3.extBut _ _ D.TOz.symm (m2.extBut _ _ D.i1z.symm Z1)))
 have r1:P1 (k+1) q5:=W1.stay _ _ _ p1' fun c o hc u=>by
  rcases hc with rfl|rfl
  ·exact m5.extBut c o D.TOi1.symm (m4.extBut c o D.i12 (m3.extBut c o D.TOi1.symm u))
  ·exact m5.extBut c o D.l1TO (m4.extBut c o D.l1i2 (m3.extBut c o D.l1TO u))
 have r2:P2 (k+1) q5:=W2.stay _ _ _ p2' fun c o hc u=>by
  rcases hc with rfl|rfl
  ·exact m5.extBut c o D.TOi2.symm u
  ·exact m5.extBut c o D.l2TO u
 have I5:IsPair q5 TI (.ref i1) (.ref i2):=e5 _ _ D.TIz D.TIi1 D.TITO D.TIi2 pI
 have zl:z<q5.objs.size:=ZS Z5
 show wpAny _ _ (Builtin.SmallTypes.ownedTupleHandOut (.ref z) (.ref q5.objs.size) >>= _) _ _ ⟨q5.push { cls:=.type "tuple", data:=.seq #[x,y] },gg,dd,t0,oo⟩
 unfold Builtin.SmallTypes.ownedTupleHandOut
 have Z6:IsZip (q5.push { cls:=.type "tuple", data:=.seq #[x,y] }) z TI TO .ellipsis:=ZM _ Z5
 refine ZL (ZL (ac3 Z6 (by simp) fun q7 Z7 m7=>?_))
 have Z7:IsZip q7 z TI TO (rawInt q5.objs.size):=Z7
 refine ac3 Z7 (by simp) fun q8 Z8 m8=>?_
 have Z8:IsZip q8 z TI TO (rawInt q5.objs.size):=Z8
 have far:∀c o,c≠z->q5.get? c=some o->q8.get? c=some o:=fun c o n u=>m8.extBut _ _ n (m7.extBut _ _ n (ZM _ u))
 have T8:IsPair q8 q5.objs.size x y:=m8.extBut _ _ (ag2 zl) (m7.extBut _ _ (ag2 zl) (ZQ _ rfl))
 refine ZO ⟨_,rfl,?_⟩
 show Q (.ref q5.objs.size) _
 rw[sz]at Z8 T8⊢
 refine go q8 (fun h2 Zn mn=>⟨D,Zn,mn.extBut _ _ D.TIz (far _ _ D.TIz I5),⟨x,y,mn.extBut _ _ D.TOz (far _ _ D.TOz O5)⟩,W1.stay _ _ _ r1 fun c o hc u=>?_,W2.stay _ _ _ r2 fun c o hc u=>?_⟩) Z8 T8 fun c o hc u=>?_
 ·have n:c≠z:=by rcases hc with rfl|rfl;exact D.i1z;exact D.l1z
  exact mn.extBut c o n (far c o n u)
 ·have n:c≠z:=by rcases hc with rfl|rfl;exact D.i2z;exact D.l2z
  exact mn.extBut c o n (far c o n u)
 ·have c1:c≠z:=fun q=>hc (by simp[q])
  have c2:c≠TO:=fun q=>hc (by simp[q])
  have c3:c≠i1:=fun q=>hc (by simp[q])
  have c4:c≠i2:=fun q=>hc (by simp[q])
  exact far c o c1 (e5 c o c1 c3 c2 c4 u)
theorem Zs.done{Q:Fin->Shared->Prop}(hh:A.handled=none)(W1:Wk prog w i1 l1 P1 g1)(W2:Wk prog w i2 l2 P2 g2)(S:Zs z TI TO i1 i2 l1 l2 P1 P2 k s.heap)(hxy:g1 k=none\/g2 k=none)
    (go:∀h1 e,(∀c o,c∉[z,TO,i1,i2]->s.heap.get? c=some o->h1.get? c=some o)->(∃o,h1.get? e=some o/\o.cls=.type "StopIteration")->E (.ref e) { s with heap:=h1 }) :
    wpAny (model prog w) A (Builtin.«zip.__next__» ⟨[.ref z],[]⟩) Q E s:=by
  obtain⟨D,isZ,pI,⟨a,b,pO⟩,p1,p2⟩:=S
  obtain⟨h0,gg,dd,t0,oo⟩:=s
  show wpAny _ _ (field (.ref z) 2 >>= _) _ _ ⟨h0,gg,dd,t0,oo⟩
  refine ZL (ab4 isZ rfl (x:=Value.bool false) rfl ?_)
  show wpAny _ _ (field (.ref z) 3 >>= _) _ _ ⟨h0,gg,dd,t0,oo⟩
  refine ZL (ab4 isZ rfl (x:=Value.ref TI) rfl (ZL (ad3 pI rfl ?_)))
  show wpAny _ _ (Builtin.SmallTypes.ownedTupleIsFree (.ref z) >>= _) _ _ ⟨h0,gg,dd,t0,oo⟩
  unfold Builtin.SmallTypes.ownedTupleIsFree
  refine ZL (ZL (ab4 isZ rfl (x:=Value.none) rfl (ZO ?_)))
  simp only[ai7]
  refine ZL (wpAny_rule (ZL (ab4 isZ rfl (x:=Value.ref TO) rfl (ZL (ac3 isZ (by simp) fun q1 Z1 m1=>?_)))))
  have Z1:IsZip q1 z TI TO .ellipsis:=Z1
  have m1:Heap.SameBut z h0 q1:=m1
  simp only[List.zipIdx_cons,List.zipIdx_nil,ag5,aj6]
  refine ZL (ZL (ZL (ai8 ?_)))
  show wpAny _ _ (Builtin.SmallTypes.nextOf (.ref i1) >>= _) _ _ ⟨q1,gg,dd,t0,oo⟩
  have e1:∀c o,c≠z->h0.get? c=some o->q1.get? c=some o:=fun c o n u=>m1.extBut c o n u
  have p1:P1 k q1:=W1.stay k _ _ p1 fun c o hc u=>e1 c o (by rcases hc with rfl|rfl;exact D.i1z;exact D.l1z) u
  have nin:∀c,c∉[z,TO,i1,i2]->c≠z/\c≠TO/\c≠i1/\c≠i2:=fun c hc=>⟨fun q=>hc (by simp[q]),fun q=>hc (by simp[q]),fun q=>hc (by simp[q]),fun q=>hc (by simp[q])⟩
  have last:∀(q2:Heap) (ex:Addr) (oe:Obj),IsZip q2 z TI TO .ellipsis->(∀c o,c∉[z,TO,i1,i2]->h0.get? c=some o->q2.get? c=some o)->q2.get? ex=some oe->oe.cls=.type "StopIteration" ->
      wpAny (model prog w) A (setField (.ref z) 0 .none) (fun _ s'=>E (.ref ex) s') E ⟨q2,gg,dd,t0,oo⟩:=fun q2 ex oe Z2 k2 ho hc=>by
    have hez:ex≠z:=fun u=>by subst u;rw[Z2]at ho;cases ho;simp at hc
    refine ac3 Z2 (by simp) fun q3 _ m3=>go q3 ex (fun c o hc u=>?_) ⟨oe,m3.extBut _ _ hez ho,hc⟩
    exact m3.extBut c o (nin c hc).1 (k2 c o hc u)
  cases hx:g1 k with
  | none =>
    refine ZL (W1.done _ _ _ k _ hh p1 hx fun q2 ex m2 he=>?_)
    obtain⟨oe,ho,hc⟩:=he
    have m2:Heap.ExtBut i1 q1 q2:=m2
    exact last q2 ex oe (m2 _ _ D.i1z.symm Z1) (fun c o hc u=>m2 c o (nin c hc).2.2.1 (e1 c o (nin c hc).1 u)) ho hc
  | some x =>
    have hy:g2 k=none:=hxy.resolve_left (by rw[hx];exact fun q=>nomatch q)
    refine ZL (W1.item _ _ _ k x _ p1 hx fun q2 p1' m2=>ZO ?_)
    have m2:Heap.SameBut i1 q1 q2:=m2
    have e2:∀c o,c≠z->c≠i1->h0.get? c=some o->q2.get? c=some o:=fun c o n n' u=>m2.extBut c o n' (e1 c o n u)
    have O2:IsPair q2 TO a b:=e2 _ _ D.TOz D.TOi1 pO
    refine ZL (ad3 O2 rfl (ZL (wpAny_updateSeq_pair O2 fun q3 O3 m3=>ZL (aj2 (ZO ?_)))))
    have m3:Heap.SameBut TO q2 q3:=m3
    have e3:∀c o,c≠z->c≠i1->c≠TO->h0.get? c=some o->q3.get? c=some o:=fun c o n n' n'' u=>m3.extBut c o n'' (e2 c o n n' u)
    refine ZL (ZL (ai8 ?_))
    show wpAny _ _ (Builtin.SmallTypes.nextOf (.ref i2) >>= _) _ _ ⟨q3,gg,dd,t0,oo⟩
    refine ZL (W2.done _ _ _ k _ hh (W2.stay k _ _ p2 fun c o hc u=>by
      rcases hc with rfl|rfl
      . exact e3 c o D.i2z D.i12.symm D.TOi2.symm u
      . exact e3 c o D.l2z D.l2i1 D.l2TO u) hy fun q4 ex m4 he=>?_)
    obtain⟨oe,ho,hc⟩:=he
    have m4:Heap.ExtBut i2 q3 q4:=m4
    exact last q4 ex oe (m4 _ _ D.i2z.symm (m3.extBut _ _ D.TOz.symm (m2.extBut _ _ D.i1z.symm Z1))) (fun c o hc u=>m4 c o (nin c hc).2.2.2 (e3 c o (nin c hc).1 (nin c hc).2.2.1 (nin c hc).2.1 u)) ho hc
theorem Zs.pyItem{Q:Option Value->Shared->Prop}(W1:Wk prog w i1 l1 P1 g1)(W2:Wk prog w i2 l2 P2 g2)(S:Zs z TI TO i1 i2 l1 l2 P1 P2 k s.heap)(hx:g1 k=some x)(hy:g2 k=some y)
  (go:∀h1,(∀h2,IsZip h2 z TI TO .none->Heap.SameBut z h1 h2->Zs z TI TO i1 i2 l1 l2 P1 P2 (k+1) h2)->IsZip h1 z TI TO (rawInt s.heap.objs.size)->IsPair h1 s.heap.objs.size x y->(∀c o,c∉[z,TO,i1,i2]->s.heap.get? c=some o->h1.get? c=some o)->Q (some (.ref s.heap.objs.size)) { s with heap:=h1 }) :
  wpAny (model prog w) A (pyNext (.ref z)) Q E s:=by
 have ty:s.TypeIs (.ref z) "zip" := ⟨_,S.rd,rfl⟩
 unfold pyNext
 exact ZL (ai9 (ac9 (name:=Str.ofString "__next__") ty ag0 (af3 ag0 ty F.entry_zip_next (S.item W1 W2 hx hy fun h1 a b c d=>ZO (go h1 a b c d)) (F.args_zip_next_1 _))))
theorem Zs.pyDone{Q:Option Value->Shared->Prop}(hh:A.handled=none)(W1:Wk prog w i1 l1 P1 g1)(W2:Wk prog w i2 l2 P2 g2)(S:Zs z TI TO i1 i2 l1 l2 P1 P2 k s.heap)(hxy:g1 k=none\/g2 k=none)
  (go:∀h1,(∀c o,c∉[z,TO,i1,i2]->s.heap.get? c=some o->h1.get? c=some o)->Q none { s with heap:=h1 }):wpAny (model prog w) A (pyNext (.ref z)) Q E s:=by
 have ty:s.TypeIs (.ref z) "zip" := ⟨_,S.rd,rfl⟩
 unfold pyNext
 refine ZL (ai9 (ac9 (name:=Str.ofString "__next__") ty ag0 (af3 ag0 ty F.entry_zip_next (S.done hh W1 W2 hxy fun h1 e kk he=>?_) (F.args_zip_next_1 _))))
 obtain⟨oe,ho,hc⟩:=he
 exact ZL (wpAny_isInstance (T := "StopIteration") (b:=true) ⟨oe,ho,hc⟩ isSubtype_stop (ZO (go h1 kk)))
end
abbrev Dh(h:Heap)(a:Addr):Heap:=h.push { cls:=.type "tuple_iterator", data:=.fields #[.ref a,.int 0 0] }
abbrev Dg(h:Heap)(a b:Addr):Heap:=(Dh h a).push { cls:=.type "tuple_iterator", data:=.fields #[.ref b,.int 0 0] }
abbrev Df(h:Heap)(a b:Addr):Heap:=(Dg h a b).push { cls:=.type "tuple", data:=.seq #[.ref h.objs.size,.ref (Dh h a).objs.size] }
abbrev De(h:Heap)(a b:Addr):Heap:=(Df h a b).push { cls:=.type "tuple", data:=.seq #[.none,.none] }
abbrev tQ(h:Heap)(a b:Addr):Heap:=(De h a b).push { cls:=.type "zip", data:=.fields #[.none,.bool false,.bool false,.ref (Dg h a b).objs.size,.ref (Df h a b).objs.size] }
theorem Hs(a b:Addr)(xs ys:Array Value) :
  Meets (Builtin.«zip.__new__» ⟨[.type "zip", .ref a,.ref b],[]⟩) (fun _ R s=>s.heap.IsTuple a xs/\s.heap.IsTuple b ys/\R (.ok (.ret (.ref (De s.heap a b).objs.size))) { s with heap:=tQ s.heap a b }) :=
 .of_wp fun pg wd AA RR st hh=>by
  obtain⟨hp0,gg,dd,tk0,oo⟩:=st;obtain⟨ha,hb,hh⟩:=hh
  have hsub0:=sub_zip
  have T1:Heap.IsTuple (Shared.heap ⟨hp0,gg,dd,tk0,oo⟩) a xs:=ha
  have T2:Heap.IsTuple (Shared.heap ⟨hp0.push { cls:=.type "tuple_iterator", data:=.fields #[.ref a,.int 0 0] },gg,dd,tk0,oo⟩) b ys:=hb.at fun o e=>ZM _ e
  wp_walk using ag7 T1,ag7 T2
  exact⟨_,rfl,hh⟩
theorem EE{a b:Addr}{ys:Array Value}(ha:s.heap.IsTuple a xs)(hb:s.heap.IsTuple b ys)
  (go:∀h1,Zs (s.heap.objs.size+4) (s.heap.objs.size+2) (s.heap.objs.size+3) s.heap.objs.size (s.heap.objs.size+1) a b (fun k h=>h.IsTupleIter s.heap.objs.size a k/\h.IsTuple a xs) (fun k h=>h.IsTupleIter (s.heap.objs.size+1) b k/\h.IsTuple b ys) 0 h1->(∀c o,s.heap.get? c=some o->h1.get? c=some o)->Q (.ref (s.heap.objs.size+4)) { s with heap:=h1 }) :
  wpAny (model prog w) A (call (.type "zip") [.ref a,.ref b]) Q E s:=by
 refine callType_new F.called_zip (by decide) (F.typeCall_zip_2 _ _) (F.newCall_zip_2 _ _) (fun ob=>F.args_object_init_3 ob _ _) F.entry_zip_new (Hs a b xs ys) ⟨ha,hb,?_⟩
 have s1:(Dh s.heap a).objs.size=s.heap.objs.size+1:=ab8 ..
 have s2:(Dg s.heap a b).objs.size=s.heap.objs.size+2:=by rw[ab8,s1]
 have s3:(Df s.heap a b).objs.size=s.heap.objs.size+3:=by rw[ab8,s2]
 have s4:(De s.heap a b).objs.size=s.heap.objs.size+4:=by rw[ab8,s3]
 have r5:(tQ s.heap a b).get? (De s.heap a b).objs.size=some _:=ZQ _ rfl
 have r4:(tQ s.heap a b).get? (Df s.heap a b).objs.size=some _:=ZM _ (ZQ _ rfl)
 have r3:(tQ s.heap a b).get? (Dg s.heap a b).objs.size=some _:=ZM _ (ZM _ (ZQ _ rfl))
 have r2:(tQ s.heap a b).get? (Dh s.heap a).objs.size=some _:=ZM _ (ZM _ (ZM _ (ZQ _ rfl)))
 have r1:(tQ s.heap a b).get? s.heap.objs.size=some _:=ZM _ (ZM _ (ZM _ (ZM _ (ZQ _ rfl))))
 have up:∀c o,s.heap.get? c=some o->(tQ s.heap a b).get? c=some o:=fun c o e=>ZM _ (ZM _ (ZM _ (ZM _ (ZM _ e))))
 have la:a<s.heap.objs.size:=by obtain⟨_,e,_⟩:=ha;exact ZS e
 have lb:b<s.heap.objs.size:=by obtain⟨_,e,_⟩:=hb;exact ZS e
 rw[s2,s3,s4]at r5
 rw[s1,s2]at r3
 rw[s3]at r4
 rw[s1]at r2
 show _/\_
 rw[s4]
 have ne:∀{m n:Nat},m<n->m≠n:=fun h=>ac1 h
 refine⟨⟨_,r5,rfl⟩,go _ ⟨?_,r5,r3,⟨_,_,r4⟩,⟨⟨_,r1,rfl,rfl⟩,ha.at fun o e=>up _ _ e⟩,⟨⟨_,r2,rfl,rfl⟩,hb.at fun o e=>up _ _ e⟩⟩ up⟩
 generalize s.heap.objs.size=n at la lb
 have la':(a:Nat)<n:=la
 have lb':(b:Nat)<n:=lb
 constructor<;>first|exact ne (by omega)|exact(ne (by omega)).symm|exact ne (ZW la (by omega))|exact ne (ZW lb (by omega))|exact ne la|exact ne lb
variable{X:Cx}
theorem yg{t2:Nat}(I:Inv X pins σ H s)
  (k:∀b u,b∉ch->s.heap.get? b=some u->h2.get? b=some u) (hn:∀b∈ch,hJ X pins H b):Inv X pins σ H { s with heap:=h2,toks:=t2 }:=by
 have tr:∀b u,H b=some u->b∉ch:=fun b u e z=>by rw[(hn b z).1]at e;cases e
 have un:Un (jY X.stack) ch H H s.heap h2:=⟨fun b ob e n _ c=>k b ob c e,fun b ob e n _ c=>⟨ob.slots,k b ob c e⟩,fun b ob e n c=>n,fun b ob e c=>⟨ob,k b ob c e⟩,fun b xs e=>e,fun b ob u e=>e,fun b ps e=>⟨#[],by rw[e];simp⟩⟩
 refine I.call (g':=s.gens) (d':=s.drawn) un (fun b u e=>?_) I.bare fun b hb=>⟨(hn b hb).2.2.2.1,(hn b hb).2.1,(hn b hb).2.2.2.2.1,(hn b hb).2.2.2.2.2⟩
 refine(I.hok b u e).stay (fun c v hc q=>k c v ?_ q) (fun c q=>q) fun c xs q=>q
 rcases hc with z|z
 ·rw[z];exact tr b u e
 ·exact tr c _ z
def ZK(K:W.Frag)(a b:Addr):It :=
 ⟨fun i H => ∃xs ys x y,dh K H a xs/\xs[i]?=some x/\dh K H b ys/\ys[i]?=some y,fun i H x H' => ∃p u v,x=.ref p/\H p=none/\H'=bv H p (.tup [u,v])/\(∀xs,dh K H a xs->xs[i]?=some u)/\∀ys,dh K H b ys->ys[i]?=some v,fun i H => ∃xs ys,dh K H a xs/\dh K H b ys/\(xs.length<=i\/ys.length<=i)⟩
theorem Bw(a b z TI TO i1 i2:Addr)(D:ZipApart z TI TO i1 i2 a b) :
  L2.Turn P w K (.Tuple es n1 pos) (ZK K a b) [z,TI,TO,i1,i2] z (fun i h=>IsZip h z TI TO .none/\IsPair h TI (.ref i1) (.ref i2)/\(∃u v,IsPair h TO u v)/\h.IsTupleIter i1 a i/\h.IsTupleIter i2 b i) where
 mem:=by simp
 obj:=fun i h st c hc=>by
  obtain⟨q1,q2,⟨u,v,q3⟩,⟨o4,q4,c4,d4⟩,⟨o5,q5,c5,d5⟩⟩:=st
  simp only[ZT,ab3,ae5]at hc
  rcases hc with rfl|rfl|rfl|rfl|rfl
  ·exact⟨_,q1,fun v e=>by have e':Data.fields _=Data.cell v:=e;cases e'⟩
  ·exact⟨_,q2,fun v e=>by have e':Data.seq _ _=Data.cell v:=e;cases e'⟩
  ·exact⟨_,q3,fun v e=>by have e':Data.seq _ _=Data.cell v:=e;cases e'⟩
  ·exact⟨_,q4,fun v e=>by rw[d4]at e;cases e⟩
  ·exact⟨_,q5,fun v e=>by rw[d5]at e;cases e⟩
 keep:=fun i h h' ⟨q1,q2,⟨u,v,q3⟩,q4,q5⟩ k=>⟨k _ (by simp) _ q1,k _ (by simp) _ q2,⟨u,v,k _ (by simp) _ q3⟩,q4.at fun o e=>k _ (by simp) o e,q5.at fun o e=>k _ (by simp) o e⟩
 item:=by
  intro Y hP hw hK hc i pins s σ H E I hf st hg
  subst hP hw hK
  obtain⟨xs,ys,x,y,hq,hx,hr,hy⟩:=hg
  obtain⟨its,rv,p1,hz⟩:=I.tuple hq
  obtain⟨jts,rw',p2,hz'⟩:=I.tuple hr
  obtain⟨u,hu,ru⟩:=rv.get hx
  obtain⟨v,hv,rv'⟩:=rw'.get hy
  obtain⟨q1,q2,q3,q4,q5⟩:=st
  have zlt:z<s.heap.objs.size:=ZS q1
  refine Zs.pyItem (ol (i:=i1) (l:=a) (xs:=its.toArray) D.l1i1) (ol (i:=i2) (l:=b) (xs:=jts.toArray) D.l2i2) ⟨D,q1,q2,q3,⟨q4,p1⟩,⟨q5,p2⟩⟩ (x:=u) (y:=v) (by simpa using hu) (by simpa using hv) fun h1 jh zo t1 k1=>?_
  refine⟨_,rfl,wpAny_letOwnedTupleGo_zip zo fun h2 z2 m2=>?_⟩
  have m2:Heap.SameBut z h1 h2:=m2
  have N:=jh h2 z2 m2
  have k2:∀c o,c∉[z,TI,TO,i1,i2]->s.heap.get? c=some o->h2.get? c=some o:=fun c o nc q=>by
   have n1:c≠z:=fun e=>nc (by simp[e])
   refine m2.extBut c o n1 (k1 c o (fun e=>nc ?_) q)
   simp only[ZT,ab3,ae5]at e⊢
   rcases e with e|e|e|e<;>simp[e]
  have t2:h2.get? s.heap.objs.size=some { cls:=.type "tuple", data:=.seq #[u,v] }:=m2.extBut _ _ (ag2 zlt) t1
  have hn0:H s.heap.objs.size=none:=I.hok.fresh (ZP _)
  refine⟨.ref s.heap.objs.size,bv H s.heap.objs.size (.tup [x,y]),rV (s:=s) (h2:=h2) (t2:=s.toks) I k2 (ZP _) hf ?_,rfl,⟨_,x,y,rfl,hn0,rfl,fun ws hw=>by rw[I.tuple_inj hw hq];exact hx,fun ws hw=>by rw[I.tuple_inj hw hr];exact hy⟩,⟨N.rd,N.ins,N.out,N.fst.1,N.snd.1⟩,fun c hc=>?_⟩
  ·exact⟨by show 2<=sizeLine;decide,[u,v],.cons ru (.cons rv' .nil),⟨_,t2,rfl,_,rfl⟩⟩
  ·have hb':=hf c hc
   have lt:c<s.heap.objs.size:=by
    obtain⟨u',v',q3⟩:=q3
    obtain⟨o4,q4,_⟩:=q4
    obtain⟨o5,q5,_⟩:=q5
    simp only[ZT,ab3,ae5]at hc
    rcases hc with rfl|rfl|rfl|rfl|rfl
    ·exact zlt
    ·exact ZS q2
    ·exact ZS q3
    ·exact ZS q4
    ·exact ZS q5
   rw[aK (ac1 lt)];exact hb'.1
 done:=by
  intro Y hP hw hK hc i pins s σ H E I hf st hg
  subst hP hw hK
  obtain⟨xs,ys,hq,hr,hl⟩:=hg
  obtain⟨its,rv,p1,hz⟩:=I.tuple hq
  obtain⟨jts,rw',p2,hz'⟩:=I.tuple hr
  obtain⟨q1,q2,q3,q4,q5⟩:=st
  have l1:=rv.length
  have l2:=rw'.length
  refine Zs.pyDone (I.ok.hd hc) (ol (i:=i1) (l:=a) (xs:=its.toArray) D.l1i1) (ol (i:=i2) (l:=b) (xs:=jts.toArray) D.l2i2) ⟨D,q1,q2,q3,⟨q4,p1⟩,⟨q5,p2⟩⟩ ?_ fun h1 k1=>⟨rfl,yg (s:=s) (t2:=s.toks) (ch:=[z,TI,TO,i1,i2]) I (fun c o nc q=>k1 c o (fun e=>nc ?_) q) hf⟩
  ·rcases hl with hl|hl
   ·exact .inl (by simp;omega)
   ·exact .inr (by simp;omega)
  ·simp only[ZT,ab3,ae5]at e⊢
   rcases e with e|e|e|e<;>simp[e]
 self:=fun _ _ _ _ _ st h=>wpAny_pyIter_zip st.1 h
theorem KU{tp:Pos}{b:Expr}{m:List D}(hg:Gl X "zip")(hm0:X.mg "zip" = none)(ha:AD X ρ [a,b] [.tup l,.tup m] k)(hst:∀e∈[a,b],∀y p,e ≠ .Starred y p)(hf:aC l=true)(hm:aC m=true) :
  IE X ρ (.Tuple es n1 tp) (.Call (.Name "zip" p) [a,b] [] pos) (List.zipWith (fun x y=>.tup [x,y]) l m) 0:=by
 intro ow pins s σ H R I ⟨E,q⟩
 have n1':=bN (env:=X.env) (es:=[b]) (hst a (by simp))
 have n2':(backTo pos (starEach [b] X.env)).any (·.1)=false:=cV fun x hx=>hst x (by simp at hx;simp[hx])
 refine Call_ (gw I hg hm0 (show bootBuiltins "zip" = some (.type "zip") by decide +kernel) (ae9 (be (ha ow pos pins s σ H (fun vs H1=>aJ H H1/\ar X.K H1 (Kp ow H k) [.tup l,.tup m] vs) I ⟨E,fun vs H1 s1 r1=>⟨s1,r1⟩⟩) fun us s1 ⟨vs,H1,I1,rv,sm,rp⟩=>?_) n1' n2') (by decide +kernel) (by decide +kernel))
 rw[ar]at rp
 obtain⟨v1,vr,rfl,rp1,rp2⟩:=rp
 obtain⟨v2,rfl,rp3⟩:=rp2.only
 obtain⟨ta,xs,rfl,hq,rl⟩:=fG rp1
 obtain⟨tb,ys,rfl,hr,rm⟩:=fG rp3
 obtain⟨u1,u2,rfl,ru1,ru2⟩:=ou rv
 cases (show u1=Value.ref ta from ru1)
 cases (show u2=Value.ref tb from ru2)
 obtain⟨its,rvs,pt,hz⟩:=I1.tuple hq
 obtain⟨jts,rvs',pt',hz'⟩:=I1.tuple hr
 refine EE (show s1.heap.IsTuple ta its.toArray from pt) (show s1.heap.IsTuple tb jts.toArray from pt') fun h2 Z k2=>?_
 refine wpAny_pyIter_zip Z.rd ?_
 have I2:Inv X pins σ H1 { s1 with heap:=h2 }:=I1.kept (t':=s1.toks) k2
 have fr:∀j,hJ X pins H1 (s1.heap.objs.size+j):=fun j=>I1.fpOk (Nat.le_add_right _ _) (I1.hok.fresh (Nat.le_add_right _ _))
 refine⟨s1.heap.objs.size+4,[s1.heap.objs.size+4,s1.heap.objs.size+2,s1.heap.objs.size+3,s1.heap.objs.size,s1.heap.objs.size+1],_,_,H1,rfl,I2,Bw ta tb _ _ _ _ _ Z.ap,⟨Z.rd,Z.ins,Z.out,Z.fst.1,Z.snd.1⟩,fun c hc=>?_,q _ H1 sm ?_⟩
 ·simp only[ZT,ab3,ae5]at hc
  rcases hc with rfl|rfl|rfl|rfl|rfl
  ·exact fr 4
  ·exact fr 2
  ·exact fr 3
  ·exact fr 0
  ·exact fr 1
 ·intro i H2 st
  have rl':ar X.K H1 (Kd ow H 0 H1) l xs:=rl.flat _ hf
  have rm':ar X.K H1 (Kd ow H 0 H1) m ys:=rm.flat _ hm
  refine⟨fun d hd=>?_,fun hle=>?_⟩
  ·rw[List.getElem?_zipWith]at hd
   cases e:l[i]? with
   | none=>rw[e]at hd;cases hd
   | some x =>
    cases e':m[i]? with
    | none=>rw[e,e']at hd;cases hd
    | some y =>
     rw[e,e']at hd;cases hd
     obtain⟨u,hu,ru⟩:=rl'.get e
     obtain⟨v,hv,rv⟩:=rm'.get e'
     refine⟨⟨xs,ys,u,v,st.sq hq,hu,st.sq hr,hv⟩,fun x' H3 ⟨p',u',v',e1,e2,e3,e4,e5⟩=>?_⟩
     have c1:=e4 xs (st.sq hq)
     have c2:=e5 ys (st.sq hr)
     rw[hu]at c1;cases c1
     rw[hv]at c2;cases c2
     subst e1 e3
     have sm3:=dR (o:=HO.tup [u,v]) e2
     refine⟨sm3,?_⟩
     rw[ao]
     exact⟨p',_,rfl,dh.of bg,ar.cons ((ru.mono st).same sm3) (ar.one ((rv.mono st).same sm3))⟩
  ·rw[List.length_zipWith]at hle
   have l1:=rl.length
   have l2:=rm.length
   exact⟨xs,ys,st.sq hq,st.sq hr,by omega⟩
variable{X:Cx}
def Qi(κ:Bool)(K:W.Frag)(H:Hp)(a:Addr)(xs:List V):Prop:=match κ with|true=>dh K H a xs|false=>de K H a xs
def BJ(κ:Bool)(l:List D):D:=match κ with|true=>.tup l|false=>.lst l
theorem HZ{κ:Bool}(h:ao X.K H1 (Kp ow H k) (BJ κ l) v):∃a vs,v=.ref a/\Qi κ X.K H1 a vs/\ar X.K H1 (Kp ow H k) l vs/\∀{P':bO} {H2:Hp},fz (Kd ow H k H1) P' H1 H2->Qi κ X.K H2 a vs:=by
 cases κ
 ·rw[show BJ false l=.lst l from rfl,ao]at h
  obtain⟨a,vs,b,rfl,hl,hp,rl⟩:=h
  have hp':Kd ow H k H1 a b:=⟨hp,fun hb=>by subst hb;exact⟨_,hl⟩⟩
  exact⟨a,vs,rfl,hl.sq,rl,fun st=>(st.ls hl hp').sq⟩
 ·rw[show BJ true l=.tup l from rfl,ao]at h
  obtain⟨a,vs,rfl,hl,rl⟩:=h
  exact⟨a,vs,rfl,hl,rl,fun st=>st.sq hl⟩
theorem Cs:qc "zip" yj:=by
 refine⟨by decide +kernel,fun X ρ p pos args ds k d j l tg o hc hg hm ha hst hlen h hp hl ht=>?_⟩
 have ht2:iY tg=true:=by simpa [fF]using ht
 obtain⟨es,n1,tp,rfl⟩:=Ai ht2
 unfold yj at h
 split at h
 ·cases h
  cases hl
  match args,hlen,ha,hst with
  | [a',b'],_,ha,hst=>exact KU hg hm ha hst hp.1 hp.2.1
 ·cases h
open AutoSeq1 (wpAny_loadPart')
variable{X:Cx}
section
variable{prog:Program}{w:World}{A:Around}{E:Value->Shared->Prop}{s:Shared}
end
open PySem.W (KasT kas_sort kas_ask KatLex KatTups kat_sorted kat_kind kat_lt kat_cons kat_nil kat_go kat_yes kat_no kat_one KasFin)
section
variable{prog:Program}{w:World}{A:Around}{E:Value->Shared->Prop}{s:Shared}
end
variable{X:Cx}
theorem cQ{r:Rs α}{a:α}{l:List Prop}(h:r=.ok a l)(hp:aP l):ag r a:=⟨l,h,hp⟩
theorem ag.eq{r:Rs α}{a b:α}(h:ag r a)(e:a=b):ag r b:=e ▸ h
theorem ag.bnd{r:Rs α}{f:α->Rs β}{a:α}{b:β}(h1:ag r a)(h2:ag (f a) b):ag (r.bnd f) b:=by
 obtain⟨l,rfl,p1⟩:=h1
 obtain⟨m,h2,p2⟩:=h2
 refine⟨l++m,?_,eS.mpr ⟨p1,p2⟩⟩
 show(match f a with | .st=>(.st:Rs β) | .ok b m=>Rs.ok b (l++m))=_
 rw[h2]
theorem ag.inj{r:Rs α}{a b:α}(h:ag r a)(g:ag r b):a=b:=by
 obtain⟨l,h,_⟩:=h;obtain⟨m,g,_⟩:=g;rw[h]at g;cases g;rfl
section
variable{Φ:Fx}{sc:Scope}{ρ ρ':am}{fl:Fl}{ss:List Stmt}
theorem bC(h:ag (aH Φ body sc (fj ps ds)) (.rt d))(hl:ds.length=ps.length:=by rfl):ag (bw Φ sc ps body ds) d:=by
 unfold bw;rw[if_pos hl];exact h.bnd ⟨[],rfl,True.intro⟩
theorem fo:ag (aH Φ [] sc ρ) (.nx ρ):=⟨[],rfl,True.intro⟩
theorem aX{s:Stmt}(h:ag (eI Φ s sc ρ) (.nx ρ'))(h2:ag (aH Φ ss sc ρ') fl):ag (aH Φ (s::ss) sc ρ) fl:=ag.bnd h h2
theorem lD{s:Stmt}(h:ag (eI Φ s sc ρ) fl)(hf:∀ρ,fl ≠ .nx ρ):ag (aH Φ (s::ss) sc ρ) fl:=ag.bnd h (by
 cases fl with
 | nx ρ=>exact absurd rfl (hf ρ)
 | rt d=>exact⟨[],rfl,True.intro⟩
 | bk ρ=>exact⟨[],rfl,True.intro⟩
 | ct ρ=>exact⟨[],rfl,True.intro⟩)
theorem bW{s:Stmt}(h:ag (eI Φ s sc ρ) (.rt d)):ag (aH Φ (s::ss) sc ρ) (.rt d):=lD h fun _ z=>by cases z
theorem t5{s:Stmt}(h:ag (aH Φ (s::ss) sc ρ) fl):(∃ρ',ag (eI Φ s sc ρ) (.nx ρ')/\ag (aH Φ ss sc ρ') fl)\/((∀ρ,fl ≠ .nx ρ)/\ag (eI Φ s sc ρ) fl):=by
 obtain⟨f,h1,h2⟩:=az (show ag (Rs.bnd _ _) fl from h)
 cases f with
 | nx ρ'=>exact .inl ⟨ρ',h1,h2⟩
 | rt d=>cases aV h2;exact .inr ⟨fun _ z=>(by cases z),h1⟩
 | bk ρ=>cases aV h2;exact .inr ⟨fun _ z=>(by cases z),h1⟩
 | ct ρ=>cases aV h2;exact .inr ⟨fun _ z=>(by cases z),h1⟩
theorem Bc:∀{a:List Stmt} {ρ:am},ag (aH Φ a sc ρ) (.nx ρ')->ag (aH Φ ss sc ρ') fl->ag (aH Φ (a++ss) sc ρ) fl
 | [],ρ,h,h2=>by cases aV h;exact h2
 | s::a,ρ,h,h2=>by
  rcases t5 h with⟨ρ1,h3,h4⟩|⟨h3,_⟩
  ·exact aX h3 (Bc h4 h2)
  ·exact absurd rfl (h3 _)
theorem rj:∀{a:List Stmt} {ρ:am},ag (aH Φ (a++ss) sc ρ) fl->(∃ρ',ag (aH Φ a sc ρ) (.nx ρ')/\ag (aH Φ ss sc ρ') fl)\/((∀ρ,fl ≠ .nx ρ)/\ag (aH Φ a sc ρ) fl)
 | [],ρ,h=>.inl ⟨ρ,fo,h⟩
 | s::a,ρ,h=>by
  rcases t5 h with⟨ρ1,h3,h4⟩|⟨h3,h4⟩
  ·rcases rj h4 with⟨ρ2,h5,h6⟩|⟨h5,h6⟩
   ·exact .inl ⟨ρ2,aX h3 h5,h6⟩
   ·exact .inr ⟨h5,aX h3 h6⟩
  ·exact .inr ⟨h3,lD h4 h3⟩
theorem dS(n:Nat)(h:ag (aH Φ (ss.take n) sc ρ) (.nx ρ'))(h2:ag (aH Φ (ss.drop n) sc ρ') fl):ag (aH Φ ss sc ρ) fl:=by
 rw[<- List.take_append_drop n ss];exact Bc h h2
theorem xC{a b:List Stmt}(hc:ag (aE Φ c false sc ρ) (.bl t,k))(h1:t=true->ag (aH Φ (a++ss) sc ρ) fl)(h2:t=false->ag (aH Φ (b++ss) sc ρ) fl):ag (aH Φ (.If c a b p::ss) sc ρ) fl:=by
 have key:∀x,ag (cond t (aH Φ a sc ρ) (aH Φ b sc ρ)) x->ag (eI Φ (.If c a b p) sc ρ) x:=fun x hx=>ag.bnd hc hx
 cases t with
 | true =>
  rcases rj (h1 rfl)with⟨ρ1,h3,h4⟩|⟨h3,h4⟩
  ·exact aX (key _ h3) h4
  ·exact lD (key _ h4) h3
 | false =>
  rcases rj (h2 rfl)with⟨ρ1,h3,h4⟩|⟨h3,h4⟩
  ·exact aX (key _ h3) h4
  ·exact lD (key _ h4) h3
theorem eD{a b:List Stmt}(hc:ag (aE Φ c false sc ρ) (.bl t,k))(ht:t=true)(h1:ag (aH Φ (a++ss) sc ρ) fl):ag (aH Φ (.If c a b p::ss) sc ρ) fl:=xC hc (fun _=>h1) fun z=>by rw[ht]at z;cases z
theorem aM{a b:List Stmt}(hc:ag (aE Φ c false sc ρ) (.bl t,k))(ht:t=false)(h1:ag (aH Φ (b++ss) sc ρ) fl):ag (aH Φ (.If c a b p::ss) sc ρ) fl:=xC hc (fun z=>by rw[ht]at z;cases z) fun _=>h1
theorem j6{it:Expr}(hi:ag (aE Φ it true sc (demote it ρ)) (d,k))(hd:items d=some ds)(hk:k<=1)(ht:fF it tg=true)(h:ag (dO (bX sc tg) (aH Φ body sc) ds (demote it ρ)) fl):ag (eI Φ (.For tg it body [] p) sc ρ) fl:=by
 rw[qU,if_pos (show List.isEmpty ([]:List Stmt)=true from rfl)]
 refine hi.bnd ?_
 dsimp only
 rw[hd]
 dsimp only
 rw[if_pos ⟨hk,ht⟩]
 exact h
theorem nY(h:ag (nu (fun ρ=>(aE Φ c false sc ρ).bnd fun p=>ja p fun b=>.ok b []) (aH Φ body sc) dw ρ) fl):ag (eI Φ (.While c body [] p) sc ρ) fl:=by
 rw[u6,if_pos (show List.isEmpty ([]:List Stmt)=true from rfl)];exact h
theorem ax{v:D}(ha:ag (ck Φ args sc ρ) (ds,k))(hv:ag (F ds) v)(hF:Φ.fn f=some F:=by rfl)(hg:sc.names.lookup f=some .globalImplicit:=by rfl):ag (aE Φ (.Call (.Name f p) args [] q) it sc ρ) (v,0):=by
 rw[kO,if_pos hg]
 refine ha.bnd ?_
 unfold mX
 rw[hF]
 exact hv.bnd ⟨[],rfl,True.intro⟩
theorem vd{v:D×Nat}(ha:ag (ck Φ args sc ρ) (ds,k))(hv:ag (B ds) v)(hF:Φ.fn f=none:=by rfl)(hI:(if it=true then Φ.itr f else none)=none:=by rfl)(hB:Φ.blt f=some B:=by rfl)(hg:sc.names.lookup f=some .globalImplicit:=by rfl):ag (aE Φ (.Call (.Name f p) args [] q) it sc ρ) v:=by
 rw[kO,if_pos hg]
 refine ha.bnd ?_
 unfold mX
 rw[hF];dsimp only
 rw[hI];dsimp only
 rw[hB];exact hv
theorem bI:ag (ck Φ [] sc ρ) ([],0):=⟨[],rfl,True.intro⟩
theorem aL(h:ag (aE Φ e false sc ρ) (d,k))(h2:ag (ck Φ es sc ρ) (ds,j)):ag (ck Φ (e::es) sc ρ) (d::ds,kj k j):=ag.bnd h (ag.bnd h2 ⟨[],rfl,True.intro⟩)
theorem j8{out:List D}(hi:ag (aE Φ iter true sc ρ) (d,k))(hd:items d=some ds)(hl:ds.length<=dw/\(aC ds=true\/k<=1))
    (h:ag (ii (fun d=>match bX scope tg d (flt scope ρ)with
            | none=>.st
            | some ρ'=>(eZ Φ .And ifs scope ρ').bnd fun b=>cond b ((aE Φ elt false scope ρ').bnd fun r=>.ok (some r) []) (.ok none [])) ds) (out,j)) (hj:j<=1) (hc:pF sc scope=true:=by rfl) (ht:fF iter tg=true:=by rfl):ag (aE Φ (.ListComp elt [⟨tg,iter,ifs,0⟩] scope p) it sc ρ) (.lst out,j):=by
  rw[qV,if_pos hc]
  refine hi.bnd ?_
  dsimp only
  rw[hd]
  dsimp only
  rw[if_pos ht]
  refine ag.bnd (a:=()) ⟨_,rfl,hl.1,hl.2,True.intro⟩ ?_
  refine h.bnd ?_
  rw[if_pos hj]
  exact⟨[],rfl,True.intro⟩
theorem fK{i:Expr}{x:D}{j:Int}(ha:ag (aE Φ a false sc ρ) (x,k))(hi:ag (aE Φ i false sc ρ) (.int j,k2))(hx:hX x=some l)(hd:L2.atI l j=some d):ag (aE Φ (.Subscript a i p) it sc ρ) (d,kn d k):=by
 have key:ag ((aE Φ a false sc ρ).bnd fun p=>(aE Φ i false sc ρ).bnd fun q=>nJ p q) (d,kn d k):=by
  refine ha.bnd (hi.bnd ?_)
  rcases gP hx with rfl|rfl
  ·show ag (uN (.tup l) j k) _
   unfold uN
   rw[hx];dsimp only
   rw[hd];exact⟨[],rfl,True.intro⟩
  ·show ag (uN (.lst l) j k) _
   unfold uN
   rw[hx];dsimp only
   rw[hd];exact⟨[],rfl,True.intro⟩
 cases i with
 | Slice lo hi st p2=>exact(aw hi).elim
 | _=>exact key
theorem bM(h:ag (aE Φ e false sc ρ) (d,0))(hx:dE sc x=true:=by rfl):ag (eI Φ (.Assign [.Name x p] e q) sc ρ) (.nx (bT ρ x (d,true))):=by
 refine ag.bnd h ?_
 unfold qt
 rw[if_pos hx]
 exact⟨[],rfl,True.intro⟩
theorem bP(h:ag (aE Φ e false sc ρ) (d,k))(hk:k=0\/k=2:=by exact .inl rfl)(hn:sW e=false:=by rfl):ag (eI Φ (.Return (some e) q) sc ρ) (.rt d):=by
 have h:ag (aE Φ e false sc (uf e ρ)) (d,k):=by unfold uf;rw[hn];exact h
 refine ag.bnd h ?_
 unfold xI
 rw[if_pos hk]
 exact⟨[],rfl,True.intro⟩
end
theorem nX{bind:D->am->Option am}{body:am->Rs Fl}(Inv:List D->am->Prop)(step:∀d l ρ,Inv (d::l) ρ->∃ρ1 ρ2,bind d ρ=some ρ1/\(ag (body ρ1) (.nx ρ2)\/ag (body ρ1) (.ct ρ2))/\Inv l ρ2):∀{ds:List D} {ρ:am},Inv ds ρ->∃ρ',ag (dO bind body ds ρ) (.nx ρ')/\Inv [] ρ'
 | [],ρ,h=>⟨ρ,⟨[],rfl,True.intro⟩,h⟩
 | d::l,ρ,h=>by
  obtain⟨ρ1,ρ2,h1,h2,h3⟩:=step d l ρ h
  obtain⟨ρ',h4,h5⟩:=nX Inv step h3
  refine⟨ρ',?_,h5⟩
  show ag (match bind d ρ with|none=>(.st:Rs Fl)|some ρ1=>(body ρ1).bnd (jh (dO bind body l))) _
  rw[h1]
  rcases h2 with h2|h2
  ·exact h2.bnd h4
  ·exact h2.bnd h4
theorem wW{bind:D->am->Option am}{body:am->Rs Fl}(Inv:List D->am->Prop)(R:D->Prop)(step:∀d l ρ,Inv (d::l) ρ->∃ρ1,bind d ρ=some ρ1/\((∃ρ2,(ag (body ρ1) (.nx ρ2)\/ag (body ρ1) (.ct ρ2))/\Inv l ρ2)\/∃r,ag (body ρ1) (.rt r)/\R r)):∀{ds:List D} {ρ:am},Inv ds ρ->(∃ρ',ag (dO bind body ds ρ) (.nx ρ')/\Inv [] ρ')\/∃r,ag (dO bind body ds ρ) (.rt r)/\R r
 | [],ρ,h=>.inl ⟨ρ,⟨[],rfl,True.intro⟩,h⟩
 | d::l,ρ,h=>by
  obtain⟨ρ1,h1,h2⟩:=step d l ρ h
  have key:dO bind body (d::l) ρ=(body ρ1).bnd (jh (dO bind body l)):=by
   show(match bind d ρ with|none=>(.st:Rs Fl)|some ρ1=>(body ρ1).bnd (jh (dO bind body l)))=_
   rw[h1]
  rw[key]
  rcases h2 with⟨ρ2,h2,h3⟩|⟨r,h2,h3⟩
  ·have go:∀x,ag (dO bind body l ρ2) x->ag ((body ρ1).bnd (jh (dO bind body l))) x:=fun x hx=>by
    rcases h2 with h2|h2
    ·exact h2.bnd hx
    ·exact h2.bnd hx
   rcases wW Inv R step h3 with⟨ρ',h4,h5⟩|⟨r,h4,h5⟩
   ·exact .inl ⟨ρ',go _ h4,h5⟩
   ·exact .inr ⟨r,go _ h4,h5⟩
  ·exact .inr ⟨r,h2.bnd ⟨[],rfl,True.intro⟩,h3⟩
theorem se{α:Type}{step:D->Rs (Option (D×Nat))}{g:α->D}{f:α->D}:∀{l:List α},(∀x∈l,ag (step (g x)) (some (f x,0)))->ag (ii step (l.map g)) (l.map f,0)
 | [],_=>⟨[],rfl,True.intro⟩
 | x::l,h=>ag.bnd (h x ZV) (ag.bnd (se fun y hy=>h y (ZR _ hy)) ⟨[],rfl,True.intro⟩)
theorem fI{α:Type}{step:D->Rs (Option (D×Nat))}{g:α->D}{f:α->D}{c:α->Bool}:∀{l:List α},(∀x∈l,ag (step (g x)) (cond (c x) (some (f x,0)) none))->ag (ii step (l.map g)) ((l.filter c).map f,0)
 | [],_=>⟨[],rfl,True.intro⟩
 | x::l,h=>by
  have h1:=h x ZV
  have h2:=fI (c:=c) fun y hy=>h y (ZR _ hy)
  cases e:c x with
  | true =>
   rw[e]at h1
   rw[List.filter_cons_of_pos e]
   exact ag.bnd h1 (ag.bnd h2 ⟨[],rfl,True.intro⟩)
  | false =>
   rw[e]at h1
   rw[List.filter_cons_of_neg (by rw[e];decide)]
   exact ag.bnd h1 (ag.bnd h2 ⟨[],rfl,True.intro⟩)
theorem Gh{a b:Int}(h:a.natAbs<18446744073709551616):cD a b:=.inl h
theorem Gg{a b:Int}(h:b.natAbs<18446744073709551616):cD a b:=.inr (.inl h)
theorem cj{a b:Int}(h:a.natAbs<cH)(g:b.natAbs<cH):cD a b:=.inr (.inr (.inl ⟨h,g⟩))
theorem Gf{a b:Int}(h:Builtin.Int.intBits a<=2 ^ 22)(g:Builtin.Int.intBits b<=2 ^ 22):cD a b:=.inr (.inr (.inr ⟨h,g⟩))
theorem MU(h:n<2 ^ 64):n<cH:=ZW h (aa6 (by decide) (by decide))
theorem GZ{b:Int}(h0:b≠0)(h:b.natAbs<18446744073709551616):fL b:=⟨h0,MU h⟩
theorem Hm{ns:List Int}{i:Int}(h0:0<=i)(h1:i<ns.length):L2.atI (ns.map D.int) i=some (.int (ns.getD i.toNat 0)):=by
 obtain⟨j,rfl⟩:=Int.eq_ofNat_of_zero_le h0
 have hj:j<ns.length:=by omega
 have:=Hl (xs:=ns.map D.int) (j:=j) (v:=.int (ns.getD j 0)) (by simp[hj])
 simpa using this
theorem C7:aP []:=True.intro
theorem yN{l m:List Prop}(h:aP l)(g:aP m):aP (l++m):=eS.mpr ⟨h,g⟩
theorem C6{p:Prop}(h:p):aP [p]:=⟨h,True.intro⟩
theorem v6{p:Prop}{l:List Prop}(h:p)(g:aP l):aP (p::l):=⟨h,g⟩
theorem FP{a b:Int}(h0:0<=b)(h1:b<=1000)(h2:a.natAbs<18446744073709551616):xM a b:=⟨h0,h1,h2⟩
def Sub(C ρ:am):Prop:=∀x y,C x=some y->ρ x=some y
theorem Sub.refl(ρ:am):Sub ρ ρ:=fun _ _ h=>h
theorem Sub.trans{a b c:am}(h:Sub a b)(g:Sub b c):Sub a c:=fun x y e=>g x y (h x y e)
theorem Sub.put(h:Sub C ρ)(x:Str)(y:D×Bool):Sub (bT C x y) (bT ρ x y):=fun z w e=>by
 rw[fv]at e⊢
 by_cases hz:z=x
 ·rw[if_pos hz]at e⊢;exact e
 ·rw[if_neg hz]at e⊢;exact h z w e
theorem Sub.flt(h:Sub C ρ)(scope:Scope):Sub (flt scope C) (flt scope ρ):=fun z w e=>by
 obtain⟨e1,e2⟩:=kL e
 unfold Sp.flt
 rw[if_pos e2];exact h z w e1
theorem Sub.demX(h:Sub C ρ)(x:Str):Sub (demX x C) (demX x ρ):=by
 unfold Sp.demX
 intro z w hz
 by_cases hx:z=x
 ·simp only[if_pos hx]at hz⊢
  cases hc:C z with
  | none=>rw[hc]at hz;cases hz
  | some q=>rw[hc]at hz;rw[h z q hc];exact hz
 ·simp only[if_neg hx]at hz⊢;exact h z w hz
theorem Sub.demA(h:Sub C ρ)(x:Str):Sub (demA x C) (demA x ρ):=by
 intro z w hz
 unfold Sp.demA at hz⊢
 by_cases hx:z=x
 ·simp only[if_pos hx]at hz⊢
  cases hc:C z with
  | none=>rw[hc]at hz;cases hz
  | some q=>rw[hc]at hz;rw[h z q hc];exact hz
 ·simp only[if_neg hx]at hz⊢;exact h z w hz
theorem Sub.demL:∀{es:List Expr} {C ρ:am},Sub C ρ->Sub (demL es C) (demL es ρ)
 | [],_,_,h=>h
 | e::es,C,ρ,h=>by
  cases e with
  | Name x p=>exact Sub.demL (es:=es) (h.demA x)
  | Subscript a i p =>
   cases a with
   | Name x q=>exact Sub.demL (es:=es) (h.demA x)
   | _=>exact Sub.demL (es:=es) h
  | _=>exact Sub.demL (es:=es) h
theorem Sub.demote(h:Sub C ρ)(e:Expr):Sub (demote e C) (demote e ρ):=by
 unfold Sp.demote
 split
 ·exact h.demX _
 ·exact h.demX _
 ·exact h.demL
 ·exact h
theorem rK:∀{es:List Expr} {ds:List D} {C C' ρ:am},bx sc es ds C=some C'->Sub C ρ->∃ρ',bx sc es ds ρ=some ρ'/\Sub C' ρ':=by
 intro es
 induction es with
 | nil =>
  intro ds C C' ρ h s
  cases ds with
  | nil=>cases h;exact⟨ρ,rfl,s⟩
  | cons d ds=>cases h
 | cons e es ih =>
  intro ds C C' ρ h s
  cases ds with
  | nil=>cases e<;>cases h
  | cons d ds =>
   cases e with
   | Name z p =>
    rw[bx]at h⊢
    split at h
    ·rename_i hz
     rw[if_pos hz]
     exact ih h (s.put _ _)
    ·cases h
   | _=>cases h
theorem tY(h:bX sc tg d C=some C')(s:Sub C ρ):∃ρ',bX sc tg d ρ=some ρ'/\Sub C' ρ':=by
 unfold bX at h⊢
 split at h
 ·split at h
  ·rename_i hx;cases h;exact⟨_,if_pos hx,s.put _ _⟩
  ·cases h
 ·split at h
  ·exact rK h s
  ·cases h
 ·cases h
theorem fM{m:List Prop}(h:b=true->aP m):aP (gd b m):=by
 cases m with
 | nil=>exact True.intro
 | cons p l=>exact⟨h,True.intro⟩
theorem vB{c:Bool}{r:Rs Bool}(h:b=true->ag r c)(hf:b=false->c=false):ag (yM b r) c:=by
 cases b with
 | true =>
  obtain⟨m,rfl,hm⟩:=h rfl
  exact⟨_,rfl,fM fun _=>hm⟩
 | false =>
  rw[hf rfl]
  cases r with
  | ok c' m=>exact⟨_,rfl,fM fun z=>(by cases z)⟩
  | st=>exact⟨_,rfl,True.intro⟩
theorem xT{c:Bool}{r:Rs Bool}(h:b=false->ag r c)(hf:b=true->c=true):ag (DI b r) c:=by
 cases b with
 | false =>
  obtain⟨m,rfl,hm⟩:=h rfl
  exact⟨_,rfl,fM fun _=>hm⟩
 | true =>
  rw[hf rfl]
  cases r with
  | ok c' m=>exact⟨_,rfl,fM fun z=>(by cases z)⟩
  | st=>exact⟨_,rfl,True.intro⟩
theorem D3{r s:R1}{d:D×Nat}(h:ag (if t=true then r else s) d):ag (D4 t r s) d:=by
 cases t with
 | true =>
  rw[if_pos rfl]at h
  obtain⟨m,rfl,hm⟩:=h
  cases s with
  | ok q n=>exact⟨_,by show Rs.ok _ _=Rs.ok _ _;rw[uC,DS],eS.mpr ⟨fM fun _=>hm,fM fun z=>(by cases z)⟩⟩
  | st=>exact⟨m,rfl,hm⟩
 | false =>
  rw[if_neg aa8]at h
  obtain⟨m,rfl,hm⟩:=h
  cases r with
  | ok q n=>exact⟨_,by show Rs.ok _ _=Rs.ok _ _;rw[uD,DT],eS.mpr ⟨fM fun z=>(by cases z),fM fun _=>hm⟩⟩
  | st=>exact⟨m,rfl,hm⟩
theorem i9{p:D×Nat}{f:Bool->Rs α}{a:α}(h:p.1=.bl b)(h2:ag (f b) a):ag (ja p f) a:=by
 unfold ja;rw[h];exact h2
theorem OV{p:D×Nat}{f:Int->R1}{a:D×Nat}{b:Int}(h:p.1=.int b)(h2:ag (f b) a):ag (kF p f) a:=by
 unfold kF;rw[h];exact h2
structure Mo(Φ:Fx)(n:Nat):Prop where
 e:∀(e:Expr) {it:Bool} {sc:Scope} {C ρ:am} {p:D×Nat},sizeOf e<n->ag (aE Φ e it sc C) p->Sub C ρ->ag (aE Φ e it sc ρ) p
 es:∀(es:List Expr) {sc:Scope} {C ρ:am} {p:List D×Nat},sizeOf es<n->ag (ck Φ es sc C) p->Sub C ρ->ag (ck Φ es sc ρ) p
 b:∀(op:BoolOp) (es:List Expr) {sc:Scope} {C ρ:am} {b:Bool},sizeOf es<n->ag (eZ Φ op es sc C) b->Sub C ρ->ag (eZ Φ op es sc ρ) b
 o:∀(e:Option Expr) {sc:Scope} {C ρ:am} {o:Option Int},sizeOf e<n->ag (nA Φ e sc C) o->Sub C ρ->ag (nA Φ e sc ρ) o
theorem wK{step step2:D->Rs (Option (D×Nat))}(h:∀d r,ag (step d) r->ag (step2 d) r):∀{ds:List D} {q:List D×Nat},ag (ii step ds) q->ag (ii step2 ds) q
 | [],q,hq=>hq
 | d::ds,q,hq=>by
  obtain⟨r,h1,h2⟩:=az (show ag (Rs.bnd _ _) q from hq)
  obtain⟨q1,h3,h4⟩:=az h2
  exact ag.bnd (h _ _ h1) (ag.bnd (wK h h3) h4)
section
variable{Φ:Fx}{n:Nat}{it:Bool}{sc:Scope}{C ρ:am}{p:D×Nat}
theorem DN(I:Mo Φ n){i:Expr}(hs:sizeOf (Expr.Subscript a i pos)<n+1)(h:ag ((aE Φ a false sc C).bnd fun p=>(aE Φ i false sc C).bnd fun q=>nJ p q) p)(s:Sub C ρ):ag ((aE Φ a false sc ρ).bnd fun p=>(aE Φ i false sc ρ).bnd fun q=>nJ p q) p:=by
 obtain⟨x,h1,h⟩:=az h
 obtain⟨y,h2,h⟩:=az h
 exact ag.bnd (I.e a (bL (by simp<;>omega) hs) h1 s) (ag.bnd (I.e i (bL (by simp<;>omega) hs) h2 s) h)
theorem VB(I:Mo Φ n)(e:Expr)(hs:sizeOf e<n+1)(h:ag (aE Φ e it sc C) p)(s:Sub C ρ):ag (aE Φ e it sc ρ) p:=by
 cases e with
 | Constant c k q=>exact h
 | Name x q =>
  replace h:ag (kE Φ x sc C) p:=h
  show ag (kE Φ x sc ρ) p
  unfold kE at h⊢
  split at h
  ·rename_i hx
   rw[if_pos hx]
   split at h
   ·rename_i hg;rw[if_pos hg];exact h
   ·rename_i hg
    rw[if_neg hg]
    split at h
    ·rename_i y hy;rw[s x y hy];exact h
    ·exact(aw h).elim
  ·exact(aw h).elim
 | BinOp a op b q =>
  obtain⟨x,h1,h⟩:=az (show ag (Rs.bnd _ _) p from h)
  obtain⟨y,h2,h⟩:=az h
  exact ag.bnd (I.e a (bL (by simp<;>omega) hs) h1 s) (ag.bnd (I.e b (bL (by simp<;>omega) hs) h2 s) h)
 | UnaryOp op a q =>
  obtain⟨x,h1,h⟩:=az (show ag (Rs.bnd _ _) p from h)
  exact ag.bnd (I.e a (bL (by simp<;>omega) hs) h1 s) h
 | BoolOp op es q =>
  rw[qW]at h⊢
  split at h
  ·exact(aw h).elim
  ·rename_i hne
   rw[if_neg hne]
   obtain⟨b,h1,h⟩:=az h
   exact ag.bnd (I.b op es (bL (by simp<;>omega) hs) h1 s) h
 | Compare a ops bs q =>
  match ops,bs,hs,h with
  | [op],[b],hs,h =>
   obtain⟨x,h1,h⟩:=az (show ag (Rs.bnd _ _) p from h)
   obtain⟨y,h2,h⟩:=az h
   exact ag.bnd (I.e a (bL (by simp<;>omega) hs) h1 s) (ag.bnd (I.e b (bL (by simp<;>omega) hs) h2 s) h)
  | [],bs,_,h=>exact(aw h).elim
  | [op],[],_,h=>exact(aw h).elim
  | [op],_::_::_,_,h=>exact(aw h).elim
  | [op,op2],[b,c],hs,h =>
   obtain⟨x,h1,h⟩:=az (show ag (Rs.bnd _ _) p from h)
   obtain⟨y,h2,h⟩:=az h
   obtain⟨z,h3,h⟩:=az h
   exact ag.bnd (I.e a (bL (by simp<;>omega) hs) h1 s) (ag.bnd (I.e b (bL (by simp<;>omega) hs) h2 s) (ag.bnd (I.e c (bL (by simp<;>omega) hs) h3 s) h))
  | [_,_],[],_,h=>exact(aw h).elim
  | [_,_],[_],_,h=>exact(aw h).elim
  | [_,_],_::_::_::_,_,h=>exact(aw h).elim
  | _::_::_::_,bs,_,h=>exact(aw h).elim
 | IfExp c a b q =>
  obtain⟨x,h1,h⟩:=az (show ag (Rs.bnd _ _) p from h)
  obtain⟨t,ht,h⟩:=gu h
  obtain⟨l,h,hp⟩:=h
  obtain⟨m,h,hm⟩:=wV h hp
  refine ag.bnd (I.e c (bL (by simp<;>omega) hs) h1 s) (i9 ht (D3 ?_))
  cases t with
  | true=>exact I.e a (bL (by simp<;>omega) hs) ⟨m,h,hm⟩ s
  | false=>exact I.e b (bL (by simp<;>omega) hs) ⟨m,h,hm⟩ s
 | Tuple es k q =>
  obtain⟨x,h1,h⟩:=az (show ag (Rs.bnd _ _) p from h)
  exact ag.bnd (I.es es (bL (by simp<;>omega) hs) h1 s) h
 | List es q =>
  obtain⟨x,h1,h⟩:=az (show ag (Rs.bnd _ _) p from h)
  exact ag.bnd (I.es es (bL (by simp<;>omega) hs) h1 s) h
 | Attribute a f q =>
  cases a with
  | Name x pn =>
   obtain⟨y,h1,h⟩:=az (show ag (Rs.bnd _ _) p from h)
   exact ag.bnd (I.e (.Name x pn) (it:=false) (bL (by simp<;>omega) hs) h1 s) h
  | _=>exact(aw h).elim
 | Dict ks vs q =>
  match ks,vs,h with
  | [],[],h=>exact h
  | _::_,_,h=>exact(aw h).elim
  | [],_::_,h=>exact(aw h).elim
 | Subscript a i q =>
  cases i with
  | Slice lo hi st p2 =>
   cases st with
   | none =>
    obtain⟨x,h1,h⟩:=az (show ag (Rs.bnd _ _) p from h)
    obtain⟨y,h2,h⟩:=az h
    obtain⟨z,h3,h⟩:=az h
    exact ag.bnd (I.e a (bL (by simp<;>omega) hs) h1 s) (ag.bnd (I.o lo (bL (by simp<;>omega) hs) h2 s) (ag.bnd (I.o hi (bL (by simp<;>omega) hs) h3 s) h))
   | some e=>exact DN I hs h s
  | _=>exact DN I hs h s
 | Call f args kws q =>
  cases f with
  | Name f fp =>
   cases kws with
   | nil =>
    rw[kO]at h⊢
    split at h
    ·rename_i hf
     rw[if_pos hf]
     obtain⟨x,h1,h⟩:=az h
     exact ag.bnd (I.es args (bL (by simp<;>omega) hs) h1 s) h
    ·exact(aw h).elim
   | cons _ _=>exact(aw h).elim
  | Attribute a m ap =>
   cases kws with
   | nil =>
    rw[kP]at h⊢
    split at h
    ·rename_i hf
     rw[if_pos hf]
     obtain⟨x,h1,h⟩:=az h
     obtain⟨y,h2,h⟩:=az h
     exact ag.bnd (I.e a (bL (by simp<;>omega) hs) h1 s) (ag.bnd (I.es args (bL (by simp<;>omega) hs) h2 s) h)
    ·exact(aw h).elim
   | cons _ _=>exact(aw h).elim
  | _=>exact(aw h).elim
 | ListComp elt gens scope q =>
  obtain⟨l0,h0,_⟩:=id h
  obtain⟨tg,iter,ifs,rfl⟩:=qO h0
  rw[qV]at h⊢
  split at h
  ·rename_i hc
   rw[if_pos hc]
   obtain⟨x,h1,h⟩:=az h
   refine ag.bnd (I.e iter (by first|omega|(simp at *;omega)) h1 s) ?_
   split at h
   ·split at h
    ·rename_i hl
     rw[if_pos hl]
     obtain⟨u0,h0',h⟩:=az h
     obtain⟨y,h2,h⟩:=az h
     refine ag.bnd h0' (ag.bnd (wK (fun d r hr=>?_) h2) h)
     split at hr
     ·exact(aw hr).elim
     ·rename_i C' hb
      obtain⟨ρ',hb',s'⟩:=tY hb (s.flt scope)
      rw[hb']
      obtain⟨b,h3,hr⟩:=az hr
      refine ag.bnd (I.b .And ifs (by first|omega|(simp at *;omega)) h3 s') ?_
      cases b with
      | false=>exact hr
      | true =>
       rw[cond_true]at hr⊢
       obtain⟨z,h4,hr⟩:=az hr
       exact ag.bnd (I.e elt (by first|omega|(simp at *;omega)) h4 s') hr
    ·exact(aw h).elim
   ·exact(aw h).elim
  ·exact(aw h).elim
 | _=>exact(aw h).elim
theorem Oz(I:Mo Φ n)(es:List Expr){p:List D×Nat}(hs:sizeOf es<n+1)(h:ag (ck Φ es sc C) p)(s:Sub C ρ):ag (ck Φ es sc ρ) p:=by
 cases es with
 | nil=>exact h
 | cons e es =>
  obtain⟨x,h1,h⟩:=az (show ag (Rs.bnd _ _) p from h)
  obtain⟨y,h2,h⟩:=az h
  exact ag.bnd (I.e e (bL (by simp<;>omega) hs) h1 s) (ag.bnd (I.es es (bL (by simp<;>omega) hs) h2 s) h)
theorem VC(I:Mo Φ n)(op:BoolOp)(es:List Expr)(hs:sizeOf es<n+1)(h:ag (eZ Φ op es sc C) b)(s:Sub C ρ):ag (eZ Φ op es sc ρ) b:=by
 cases es with
 | nil=>cases op<;>exact h
 | cons e es =>
  cases op with
  | And =>
   obtain⟨x,h1,h⟩:=az (show ag (Rs.bnd _ _) b from h)
   obtain⟨t,ht,l,h,hp⟩:=gu h
   refine ag.bnd (I.e e (bL (by simp<;>omega) hs) h1 s) (i9 ht ?_)
   rcases vA h hp with⟨rfl,m,h,pm⟩|⟨rfl,rfl⟩
   ·exact vB (fun _=>I.b .And es (bL (by simp<;>omega) hs) ⟨m,h,pm⟩ s) fun z=>(by cases z)
   ·exact vB (fun z=>(by cases z)) fun _=>rfl
  | Or =>
   obtain⟨x,h1,h⟩:=az (show ag (Rs.bnd _ _) b from h)
   obtain⟨t,ht,l,h,hp⟩:=gu h
   refine ag.bnd (I.e e (bL (by simp<;>omega) hs) h1 s) (i9 ht ?_)
   rcases wF h hp with⟨rfl,m,h,pm⟩|⟨rfl,rfl⟩
   ·exact xT (fun _=>I.b .Or es (bL (by simp<;>omega) hs) ⟨m,h,pm⟩ s) fun z=>(by cases z)
   ·exact xT (fun z=>(by cases z)) fun _=>rfl
theorem VA(I:Mo Φ n)(e:Option Expr){o:Option Int}(hs:sizeOf e<n+1)(h:ag (nA Φ e sc C) o)(s:Sub C ρ):ag (nA Φ e sc ρ) o:=by
 cases e with
 | none=>exact h
 | some e =>
  obtain⟨x,h1,h⟩:=az (show ag (Rs.bnd _ _) o from h)
  exact ag.bnd (I.e e (bL (by simp<;>omega) hs) h1 s) h
end
theorem jR(Φ:Fx):∀n,Mo Φ n
 | 0=>⟨fun _ _ _ _ _ _ h=>absurd h (ae3 _),fun _ _ _ _ _ h=>absurd h (ae3 _),fun _ _ _ _ _ _ h=>absurd h (ae3 _),fun _ _ _ _ _ h=>absurd h (ae3 _)⟩
 | n+1=>⟨fun e _ _ _ _ _ hs h s=>VB (jR Φ n) e hs h s,fun e _ _ _ _ hs h s=>Oz (jR Φ n) e hs h s,fun op e _ _ _ _ hs h s=>VC (jR Φ n) op e hs h s,fun e _ _ _ _ hs h s=>VA (jR Φ n) e hs h s⟩
theorem eG{p:D×Nat}(h:ag (aE Φ e it sc C) p)(s:Sub C ρ):ag (aE Φ e it sc ρ) p:=(jR Φ _).e e (ac5 _) h s
theorem wJ{e:List Expr}{p:List D×Nat}(h:ag (ck Φ e sc C) p)(s:Sub C ρ):ag (ck Φ e sc ρ) p:=(jR Φ _).es e (ac5 _) h s
def Db:Fl->Fl->Prop
 | .nx a,.nx b=>Sub a b
 | .bk a,.bk b=>Sub a b
 | .ct a,.ct b=>Sub a b
 | .rt a,.rt b=>a=b
 | _,_=>False
theorem cS{a:α}:ag (.ok a []) a:=⟨[],rfl,True.intro⟩
def lr(f:am->Rs Fl):Prop:=∀C ρ fl,ag (f C) fl->Sub C ρ->∃fl',ag (f ρ) fl'/\Db fl fl'
theorem zV{f:am->Rs Fl}(h:lr f){x y z:Fl}(hx:ag (jh f x) z)(s:Db x y):∃z',ag (jh f y) z'/\Db z z':=by
 cases x<;>cases y<;>first|exact s.elim|skip
 ·exact h _ _ _ hx s
 ·cases aV hx;cases s;exact⟨_,cS,rfl⟩
 ·cases aV hx;exact⟨_,cS,s⟩
 ·exact h _ _ _ hx s
theorem zW{sc:Scope}{tg:Expr}{body:am->Rs Fl}(hb:lr body):∀ds,lr (dO (bX sc tg) body ds)
 | []=>fun C ρ fl h s=>by cases aV h;exact⟨_,cS,s⟩
 | d::ds=>fun C ρ fl h s=>by
  replace h:ag (match bX sc tg d C with|none=>(.st:Rs Fl)|some ρ1=>(body ρ1).bnd (jh (dO (bX sc tg) body ds))) fl:=h
  split at h
  ·exact(aw h).elim
  ·rename_i C1 hC
   obtain⟨ρ1,hρ,s1⟩:=tY hC s
   obtain⟨x,h1,h2⟩:=az h
   obtain⟨y,h3,s2⟩:=hb _ _ _ h1 s1
   obtain⟨z,h4,s3⟩:=zV (zW hb ds) h2 s2
   refine⟨z,?_,s3⟩
   show ag (match bX sc tg d ρ with|none=>(.st:Rs Fl)|some ρ1=>(body ρ1).bnd (jh (dO (bX sc tg) body ds))) z
   rw[hρ];exact ag.bnd h3 h4
theorem DM{test:am->Rs Bool}{body:am->Rs Fl}(ht:∀C ρ b,ag (test C) b->Sub C ρ->ag (test ρ) b)(hb:lr body):∀n,lr (nu test body n)
 | 0=>fun C ρ fl h s=>(aw h).elim
 | n+1=>fun C ρ fl h s=>by
  obtain⟨b,h1,h2⟩:=az (show ag (Rs.bnd _ _) fl from h)
  have h1':=ht _ _ _ h1 s
  cases b with
  | false=>cases aV h2;exact⟨_,ag.bnd h1' cS,s⟩
  | true =>
   obtain⟨x,h3,h4⟩:=az (show ag (Rs.bnd _ _) fl from h2)
   obtain⟨y,h5,s2⟩:=hb _ _ _ h3 s
   obtain⟨z,h6,s3⟩:=zV (DM ht hb n) h4 s2
   exact⟨z,ag.bnd h1' (ag.bnd h5 h6),s3⟩
theorem Kg:lr (ph Φ tgs e sc):=by
 intro C ρ fl h s
 unfold ph at h⊢
 split at h
 ·obtain⟨p,h1,h⟩:=az h
  unfold qt at h
  split at h
  ·rename_i hx
   split at h
   ·rename_i ho;cases aV h
    exact⟨.nx _,ag.bnd (eG h1 s) (by unfold qt;rw[if_pos hx,ho];exact cS),s.put _ _⟩
   ·rename_i ho;cases aV h
    exact⟨.nx _,ag.bnd (eG h1 s) (by unfold qt;rw[if_pos hx,ho];exact cS),s.put _ _⟩
   ·exact(aw h).elim
  ·exact(aw h).elim
 ·split at h
  ·rename_i ht
   rw[if_pos ht]
   unfold mS at h⊢
   split at h
   ·split at h
    ·rename_i hp
     rw[if_pos hp]
     obtain⟨q,h1,h⟩:=az h
     split at h
     ·rename_i u v hd
      split at h
      ·rename_i hf
       cases aV h
       refine⟨.nx _,ag.bnd (wJ h1 s) ?_,(s.put _ _).put _ _⟩
       rw[hd];dsimp only;rw[if_pos hf];exact cS
      ·exact(aw h).elim
     ·exact(aw h).elim
    ·exact(aw h).elim
   ·exact(aw h).elim
  ·rename_i ht
   rw[if_neg ht]
   obtain⟨p,h1,h⟩:=az h
   split at h
   ·rename_i ho
    cases aV h
    refine⟨.nx _,ag.bnd (eG h1 s) (by rw[if_pos ho];exact cS),?_⟩
    show Sub _ _
    unfold xL
    split
    ·exact(s.put _ _).put _ _
    ·exact s
   rename_i ho
   split at h
   ·rename_i ds hd
    split at h
    ·rename_i hf
     split at h
     ·rename_i C' hb
      cases aV h
      obtain⟨ρ',hb',s'⟩:=rK hb s
      refine⟨.nx _,ag.bnd (eG h1 s) ?_,s'⟩
      rw[if_neg ho,hd];dsimp only;rw[if_pos hf,hb'];exact cS
     ·exact(aw h).elim
    ·exact(aw h).elim
   ·exact(aw h).elim
 ·split at h
  ·rename_i hc
   rw[if_pos hc]
   obtain⟨p,h1,h⟩:=az h
   obtain⟨q,h2,h⟩:=az h
   rcases tZ h with⟨l,j,l',a1,a2,a3,hj,hs,hf,rfl⟩|hF
   ·refine⟨.nx _,ag.bnd (eG h1 s) (ag.bnd (eG h2 s) ?_),s.put _ _⟩
    rw[hj];unfold qi;rw[s _ _ a1];dsimp only;rw[if_pos a3,hs]
    exact⟨_,rfl,a2,hf,True.intro⟩
   ·exact hF.elim
  ·exact(aw h).elim
 ·exact(aw h).elim
theorem Kf{t:Expr}{op:Operator}:lr (pe Φ t op e sc):=by
 intro C ρ fl h s
 unfold pe at h⊢
 split at h
 ·split at h
  ·rename_i hx
   rw[if_pos hx]
   split at h
   ·rename_i p hp
    rw[s _ _ hp]
    obtain⟨r,h1,h⟩:=az h
    cases aV h
    obtain⟨a,ha,h3⟩:=qA h1
    obtain⟨q,h2,h4⟩:=az h3
    exact⟨.nx _,ag.bnd (OV ha (ag.bnd (eG h2 s) h4)) cS,s.put _ _⟩
   ·exact(aw h).elim
  ·exact(aw h).elim
 ·exact(aw h).elim
theorem Ke:lr (o9 Φ e sc):=by
 intro C ρ fl h s
 unfold o9 at h⊢
 split at h
 ·split at h
  ·rename_i hln
   rw[if_pos hln]
   obtain⟨p,h1,h⟩:=az h
   split at h
   ·rename_i M hM
    obtain⟨l,a1,a3,h⟩:=uq h
    obtain⟨l',h2,h⟩:=az h
    cases aV h
    refine⟨.nx _,ag.bnd (wJ h1 s) ?_,s.put _ _⟩
    unfold xR;rw[s _ _ a1];dsimp only;rw[if_pos a3];exact ag.bnd h2 cS
   ·exact(aw h).elim
  ·exact(aw h).elim
 ·obtain⟨p,h1,h⟩:=az h
  cases aV h
  exact⟨.nx _,ag.bnd (eG h1 s) cS,s⟩
 ·exact(aw h).elim
structure Np(Φ:Fx)(n:Nat):Prop where
 s:∀(st:Stmt) (sc:Scope),sizeOf st<n->lr (eI Φ st sc)
 ss:∀(st:List Stmt) (sc:Scope),sizeOf st<n->lr (aH Φ st sc)
theorem Oy(I:Np Φ n)(st:Stmt)(sc:Scope)(hs:sizeOf st<n+1):lr (eI Φ st sc):=by
 intro C ρ fl h s
 cases st with
 | Return e p =>
  cases e with
  | none=>cases aV h;exact⟨_,cS,rfl⟩
  | some e =>
   obtain⟨p,h1,h⟩:=az (show ag (Rs.bnd _ _) fl from h)
   have s':Sub (uf e C) (uf e ρ):=by
    unfold uf
    cases sW e with
    | false=>exact s
    | true =>
     intro x y hx
     have hx:(C x).map (fun p=>(p.1,false))=some y:=hx
     show(ρ x).map (fun p=>(p.1,false))=some y
     cases e:C x with
     | none=>rw[e]at hx;cases hx
     | some z=>rw[e]at hx;rw[s x z e];exact hx
   refine⟨fl,ag.bnd (eG h1 s') h,?_⟩
   unfold xI at h
   split at h
   ·cases aV h;rfl
   ·exact(aw h).elim
 | Pass p=>cases aV h;exact⟨_,cS,s⟩
 | Break p=>cases aV h;exact⟨_,cS,s⟩
 | Continue p=>cases aV h;exact⟨_,cS,s⟩
 | Assign tgs e p=>exact Kg C ρ fl h s
 | AugAssign t op e p=>exact Kf C ρ fl h s
 | Expr e p=>exact Ke C ρ fl h s
 | If c a b p =>
  obtain⟨p,h1,h⟩:=az (show ag (Rs.bnd _ _) fl from h)
  obtain⟨t,ht,h⟩:=gu h
  cases t with
  | true =>
   obtain⟨z,h2,s2⟩:=I.ss a sc (bL (by simp<;>omega) hs) C ρ fl h s
   exact⟨z,ag.bnd (eG h1 s) (i9 ht h2),s2⟩
  | false =>
   obtain⟨z,h2,s2⟩:=I.ss b sc (bL (by simp<;>omega) hs) C ρ fl h s
   exact⟨z,ag.bnd (eG h1 s) (i9 ht h2),s2⟩
 | For tg it body els p =>
  rw[qU]at h⊢
  split at h
  ·rename_i he
   rw[if_pos he]
   obtain⟨p,h1,h⟩:=az h
   split at h
   ·rename_i ds hd
    split at h
    ·rename_i hk
     obtain⟨z,h2,s2⟩:=zW (I.ss body sc (bL (by simp<;>omega) hs)) ds _ _ fl h (s.demote it)
     refine⟨z,ag.bnd (eG h1 (s.demote it)) ?_,s2⟩
     rw[hd];dsimp only;rw[if_pos hk];exact h2
    ·exact(aw h).elim
   ·exact(aw h).elim
  ·exact(aw h).elim
 | While c body els p =>
  rw[u6]at h⊢
  split at h
  ·rename_i he
   rw[if_pos he]
   refine DM (fun C ρ b hb s=>?_) (I.ss body sc (bL (by simp<;>omega) hs)) dw C ρ fl h s
   obtain⟨q,h1,hb⟩:=az hb
   exact ag.bnd (eG h1 s) hb
  ·exact(aw h).elim
 | _=>exact(aw h).elim
theorem Kc(I:Np Φ n)(ss:List Stmt)(sc:Scope)(hs:sizeOf ss<n+1):lr (aH Φ ss sc):=by
 intro C ρ fl h s
 cases ss with
 | nil=>cases aV h;exact⟨_,cS,s⟩
 | cons st ss =>
  rcases t5 h with⟨C',h1,h2⟩|⟨h1,h2⟩
  ·obtain⟨x,h3,s2⟩:=I.s st sc (bL (by simp<;>omega) hs) C ρ _ h1 s
   cases x with
   | nx ρ' =>
    obtain⟨z,h4,s3⟩:=I.ss ss sc (bL (by simp<;>omega) hs) C' ρ' fl h2 s2
    exact⟨z,aX h3 h4,s3⟩
   | rt _=>exact s2.elim
   | bk _=>exact s2.elim
   | ct _=>exact s2.elim
  ·obtain⟨x,h3,s2⟩:=I.s st sc (bL (by simp<;>omega) hs) C ρ _ h2 s
   refine⟨x,lD h3 fun ρ' z=>?_,s2⟩
   subst z
   cases fl<;>first|exact h1 _ rfl|exact s2
theorem mO(Φ:Fx):∀n,Np Φ n
 | 0=>⟨fun _ _ h=>absurd h (ae3 _),fun _ _ h=>absurd h (ae3 _)⟩
 | n+1=>⟨fun e sc hs=>Oy (mO Φ n) e sc hs,fun e sc hs=>Kc (mO Φ n) e sc hs⟩
theorem Gk(h:ag (aH Φ ss sc C) (.nx C'))(s:Sub C ρ):∃ρ',ag (aH Φ ss sc ρ) (.nx ρ')/\Sub C' ρ':=by
 obtain⟨z,h1,h2⟩:=(mO Φ _).ss ss sc (ac5 _) C ρ _ h s
 cases z with
 | nx ρ'=>exact⟨ρ',h1,h2⟩
 | rt _=>exact h2.elim
 | bk _=>exact h2.elim
 | ct _=>exact h2.elim
theorem Gj(h:ag (aH Φ ss sc C) (.rt d))(s:Sub C ρ):ag (aH Φ ss sc ρ) (.rt d):=by
 obtain⟨z,h1,h2⟩:=(mO Φ _).ss ss sc (ac5 _) C ρ _ h s
 cases z with
 | rt _=>cases h2;exact h1
 | nx _=>exact h2.elim
 | bk _=>exact h2.elim
 | ct _=>exact h2.elim
def bE:List (Str×D×Bool)->am
 | []=>fun _=>none
 | p::l=>fun z=>if z=p.1 then some p.2 else bE l z
theorem aG:Sub (bE []) ρ:=fun _ _ h=>by cases h
theorem ai{y:D×Bool}{l:List (Str×D×Bool)}(h:ρ x=some y)(g:Sub (bE l) ρ):Sub (bE ((x,y)::l)) ρ:=fun z w e=>by
 replace e:(if z=x then some y else bE l z)=some w:=e
 by_cases hz:z=x
 ·rw[if_pos hz]at e;cases e;rw[hz];exact h
 ·rw[if_neg hz]at e;exact g z w e
theorem Sub.get{y:D×Bool}(s:Sub C ρ)(h:C x=some y:=by rfl):ρ x=some y:=s x y h
section
variable{Φ:Fx}{sc:Scope}{ρ ρ':am}{fl:Fl}{ss:List Stmt}
theorem bY{P:am->Prop}(s:Sub C ρ)(h:ag (aH Φ ss sc C) (.nx C'))(k:∀ρ',Sub C' ρ'->P ρ'):∃ρ',ag (aH Φ ss sc ρ) (.nx ρ')/\P ρ' :=
 let ⟨ρ',h1,h2⟩:=Gk h s;⟨ρ',h1,k ρ' h2⟩
theorem cy(s:Sub C ρ)(h:ag (aH Φ ss sc C) (.rt d)):ag (aH Φ ss sc ρ) (.rt d):=Gj h s
theorem dC{p:D×Nat}(s:Sub C ρ)(h:ag (aE Φ e it sc C) p):ag (aE Φ e it sc ρ) p:=eG h s
theorem ql{it:Expr}(Inv:List D->am->Prop)(hi:ag (aE Φ it true sc (demote it ρ)) (d,k))(h0:Inv ds (demote it ρ))
  (step:∀d l ρ,Inv (d::l) ρ->∃ρ1,bX sc tg d ρ=some ρ1/\∃ρ2,ag (aH Φ body sc ρ1) (.nx ρ2)/\Inv l ρ2) (rest:∀ρ',Inv [] ρ'->ag (aH Φ ss sc ρ') fl) (hd:items d=some ds:=by rfl) (hk:k<=1:=by first|exact ZP 1|exact ZY 1) (ht:fF it tg=true:=by rfl):ag (aH Φ (.For tg it body [] p::ss) sc ρ) fl:=by
 obtain⟨ρ',h1,h2⟩:=nX (bind:=bX sc tg) (body:=aH Φ body sc) Inv (fun d l ρ h=>let ⟨ρ1,a,ρ2,b,c⟩:=step d l ρ h;⟨ρ1,ρ2,a,.inl b,c⟩) h0
 exact aX (j6 hi hd hk ht h1) (rest ρ' h2)
theorem wC{it:Expr}(Inv:List D->am->Prop)(R:D->Prop)(hi:ag (aE Φ it true sc (demote it ρ)) (d,k))(h0:Inv ds (demote it ρ))
  (step:∀d l ρ,Inv (d::l) ρ->∃ρ1,bX sc tg d ρ=some ρ1/\((∃ρ2,ag (aH Φ body sc ρ1) (.nx ρ2)/\Inv l ρ2)\/∃r,ag (aH Φ body sc ρ1) (.rt r)/\R r)) (rest:∀ρ',Inv [] ρ'->∃r,ag (aH Φ ss sc ρ') (.rt r)/\R r) (hd:items d=some ds:=by rfl) (hk:k<=1:=by first|exact ZP 1|exact ZY 1) (ht:fF it tg=true:=by rfl):∃r,ag (aH Φ (.For tg it body [] p::ss) sc ρ) (.rt r)/\R r:=by
 rcases wW (bind:=bX sc tg) (body:=aH Φ body sc) Inv R (fun d l ρ h=>by
  obtain⟨ρ1,a,b⟩:=step d l ρ h
  rcases b with⟨ρ2,b,c⟩|⟨r,b,c⟩
  ·exact⟨ρ1,a,.inl ⟨ρ2,.inl b,c⟩⟩
  ·exact⟨ρ1,a,.inr ⟨r,b,c⟩⟩) h0 with⟨ρ',h1,h2⟩|⟨r,h1,h2⟩
 ·obtain⟨r,h3,h4⟩:=rest ρ' h2
  exact⟨r,aX (j6 hi hd hk ht h1) h3,h4⟩
 ·exact⟨r,bW (j6 hi hd hk ht h1),h2⟩
theorem cU{b:Expr}{x:D}(ha:ag (aE Φ a false sc ρ) (x,k))(hb:ag (aE Φ b false sc ρ) (y,j))(h:ag (fS op x y) r):ag (aE Φ (.Compare a [op] [b] p) it sc ρ) (.bl r,0) :=
 ag.bnd ha (ag.bnd hb (ag.bnd h cS))
theorem u8(ha:ag (aE Φ a false sc ρ) (.bl b,k)):ag (aE Φ (.UnaryOp .Not a p) it sc ρ) (.bl (!b),0):=ag.bnd ha cS
theorem fX{op:BoolOp}(h:ag (eZ Φ op (e::es) sc ρ) b):ag (aE Φ (.BoolOp op (e::es) p) it sc ρ) (.bl b,0):=by
 rw[qW,if_neg (show ¬ (List.isEmpty (e::es)=true)from aa8)];exact ag.bnd h cS
theorem gU{c:Bool}(h:ag (aE Φ e false sc ρ) (.bl b,k))(h1:b=true->ag (eZ Φ .And es sc ρ) c)(h2:b=false->c=false):ag (eZ Φ .And (e::es) sc ρ) c:=ag.bnd h (i9 rfl (vB h1 h2))
theorem Le{c:Bool}(h:ag (aE Φ e false sc ρ) (.bl b,k))(h1:b=false->ag (eZ Φ .Or es sc ρ) c)(h2:b=true->c=true):ag (eZ Φ .Or (e::es) sc ρ) c:=ag.bnd h (i9 rfl (xT h1 h2))
theorem Eb{c:Bool}(h:ag (aE Φ e false sc ρ) (.bl true,k))(h1:ag (eZ Φ .And es sc ρ) c):ag (eZ Φ .And (e::es) sc ρ) c:=gU h (fun _=>h1) fun z=>by cases z
theorem ee{c:Bool}(h:ag (aE Φ e false sc ρ) (.bl false,k))(h1:ag (eZ Φ .Or es sc ρ) c):ag (eZ Φ .Or (e::es) sc ρ) c:=Le h (fun _=>h1) fun z=>by cases z
theorem lY:ag (eZ Φ .And [] sc ρ) true:=cS
theorem ip:ag (eZ Φ .Or [] sc ρ) false:=cS
theorem ag.bl{r:R1}{c:Bool}(h:ag r (.bl b,k))(e:b=c):ag r (.bl c,k):=e ▸ h
theorem u7(h:ag (ck Φ es sc ρ) (ds,k))(hl:ds.length<=dw):ag (aE Φ (.Tuple es n p) it sc ρ) (.tup ds,kn (.tup ds) k):=ag.bnd h (by dsimp only;rw[if_pos hl];exact cS)
theorem kM{x:D}{l:Option Int}{r:D×Nat}(ha:ag (aE Φ a false sc ρ) (x,k))(hl:ag (nA Φ lo sc ρ) l)(hh:ag (nA Φ hi sc ρ) h)(hr:ag (Φ.slf x l h) r):ag (aE Φ (.Subscript a (.Slice lo hi none p2) p) it sc ρ) r:=ag.bnd ha (ag.bnd hl (ag.bnd hh hr))
theorem u9{g f:α->D}{l:List α}(hi:ag (aE Φ iter true sc ρ) (d,k))(hd:items d=some (l.map g))(hl:l.length<=dw)(hk:aC (l.map g)=true\/k<=1)
  (h:∀x∈l,∃ρ',bX scope tg (g x) (flt scope ρ)=some ρ'/\ag (aE Φ elt false scope ρ') (f x,0)) (hc:pF sc scope=true:=by rfl) (ht:fF iter tg=true:=by rfl):ag (aE Φ (.ListComp elt [⟨tg,iter,[],0⟩] scope p) it sc ρ) (.lst (l.map f),0):=by
 refine j8 hi hd ⟨by rw[ab6];exact hl,hk⟩ (se fun x hx=>?_) (ZY _) hc ht
 obtain⟨ρ',h1,h2⟩:=h x hx
 rw[h1]
 refine ag.bnd (a:=true) cS ?_
 rw[cond_true]
 exact ag.bnd h2 cS
end
theorem Kr(h:us.length=1):∃a,us=[a]:=List.length_eq_one_iff.mp h
theorem Ci(h:us.length=n+1):∃a r,us=a::r/\r.length=n:=by
 cases us with
 | nil=>cases h
 | cons a r=>exact⟨a,r,rfl,by simpa using h⟩
theorem Kq(h:us.length=2):∃a b,us=[a,b]:=by
 obtain⟨a,r,e1,h1⟩:=Ci h;subst e1;obtain⟨b,rfl⟩:=Kr h1;exact⟨a,b,rfl⟩
theorem Ko(h:us.length=3):∃a b c,us=[a,b,c]:=by
 obtain⟨a,r,e1,h1⟩:=Ci h;subst e1;obtain⟨b,c,rfl⟩:=Kq h1;exact⟨a,b,c,rfl⟩
theorem VO(h:us.length=4):∃a b c d,us=[a,b,c,d]:=by
 obtain⟨a,r,e1,h1⟩:=Ci h;subst e1;obtain⟨b,c,d,rfl⟩:=Ko h1;exact⟨a,b,c,d,rfl⟩
end Sp
namespace Qm
end Qm
namespace K
open PySem L2 Sp
variable{α β:Type}{ds:List D}{r:D}
structure Dc(α:Type) where
 dec:D->Option α
 enc:α->D
 ok:∀x a,dec x=some a->x=enc a
noncomputable def dI:Dc Int:=⟨fun | .int i=>some i|_=>none,.int,fun x a h=>by cases x<;>cases h;rfl⟩
noncomputable def dL:Dc (List D):=⟨fun | .lst i=>some i|_=>none,.lst,fun x a h=>by cases x<;>cases h;rfl⟩
noncomputable def DA{α:Type}(A:Dc α)(f:α->Rs D):List D->Rs D
 | [x]=>(match A.dec x with|some a=>f a|none=>.st)
 | _=>.st
noncomputable def t7{α β:Type}(A:Dc α)(B:Dc β)(f:α->β->Rs D):List D->Rs D
 | [x,y]=>(match A.dec x with|some a=>(match B.dec y with|some b=>f a b|none=>.st)|none=>.st)
 | _=>.st
theorem vh{A:Dc α}{x:D}{f:α->Rs β}{r:β}(h:ag (match A.dec x with|some a=>f a|none=>.st) r):∃a,x=A.enc a/\ag (f a) r:=by
 split at h
 ·rename_i a e;exact⟨a,A.ok _ _ e,h⟩
 ·exact(aw h).elim
theorem wD{A:Dc α}{f:α->Rs D}(h:ag (DA A f ds) r):∃a,ds=[A.enc a]/\ag (f a) r:=by
 unfold DA at h
 split at h
 ·obtain⟨a,e1,h1⟩:=vh h;exact⟨a,by rw[e1],h1⟩
 ·exact(aw h).elim
theorem jL{A:Dc α}{B:Dc β}{f:α->β->Rs D}(h:ag (t7 A B f ds) r):∃a b,ds=[A.enc a,B.enc b]/\ag (f a b) r:=by
 unfold t7 at h
 split at h
 ·obtain⟨a,e1,h1⟩:=vh h
  obtain⟨b,e2,h2⟩:=vh h1
  exact⟨a,b,by rw[e1,e2],h2⟩
 ·exact(aw h).elim
noncomputable def Zu:D->Int
 | .int i=>i
 | _=>0
noncomputable def ox(l:List D):List Int:=l.map Zu
theorem kA(ns:List Int):ox (ns.map D.int)=ns:=by
 induction ns with
 | nil=>rfl
 | cons n ns ih=>show n::ox (ns.map D.int)=_;rw[ih]
noncomputable def okL(l:List D):Prop:=∃ns:List Int,l=ns.map D.int
noncomputable def fJ(ns:List Int)(k:Int):Int:=if ns=[]then 0 else ns.getD (k.fmod ns.length).toNat 0
noncomputable def pD(ns:List Int)(k:Int):Int :=
 (fJ ns k).fdiv 2147483647*2147483647+((((fJ ns k).fmod 2147483647+7919*k+1)*48271).fmod 2147483647*69621+k).fmod 2147483647
noncomputable def d6(l:List D)(k:Int):Int:=pD (ox l) k
noncomputable abbrev t4(a b c d:Int):D:=.tup [.int a,.int b,.int c,.int d]
noncomputable abbrev Qd:=Int×Int×Int×Int
noncomputable def dq(q:Qd):D:=t4 q.1 q.2.1 q.2.2.1 q.2.2.2
noncomputable def q4:D->Option Qd
 | .tup [.int a,.int b,.int c,.int d]=>some (a,b,c,d)
 | _=>none
theorem N1(x:D)(q:Qd)(h:q4 x=some q):x=dq q:=by
 unfold q4 at h
 split at h
 ·cases h;rfl
 ·cases h
noncomputable def dQ:Dc Qd:=⟨q4,dq,N1⟩
noncomputable abbrev gn(q:Qd):Prop:=q.1.natAbs<cH/\q.2.1.natAbs<cH/\q.2.2.1.natAbs<cH/\q.2.2.2.natAbs<cH
@[simp] theorem di(a b:Int):eqD (.int a) (.int b)=decide (a=b):=by
 show(a==b)=_
 rw[ah0];simp
@[simp] theorem Ec(p q:Qd):eqD (dq p) (dq q)=decide (p=q):=by
 show(p.1==q.1&&(p.2.1==q.2.1&&(p.2.2.1==q.2.2.1&&(p.2.2.2==q.2.2.2&&true))))=_
 obtain⟨a,b,c,d⟩:=p;obtain⟨e,f,g,h⟩:=q
 rw[ah0];simp
end K
namespace Sp
open PySem PySem.Spec PyProof.Rows L2
variable{k m:Nat}{c:Expr}{p:Pos}
variable{Φ:Fx}{sc:Scope}{ρ ρ':am}{fl:Fl}{ss:List Stmt}
theorem j5{x:Str}{i e:Expr}{p1 p2 q:Pos}{l l':List D}{d:D}{j:Int}{k2:Nat}(hx:ρ x=some (.lst l,true))(h:ag (aE Φ e false sc ρ) (d,k))(hi:ag (aE Φ i false sc ρ) (.int j,k2))(hs:qm l j d=some l')(hl:aC l=true)(hd:d.lless=true)(ht:HX e=true:=by rfl)(hn:fR x=true:=by rfl) :
  ag (eI Φ (.Assign [.Subscript (.Name x p1) i p2] e q) sc ρ) (.nx (bT ρ x (.lst l',true))):=by
 refine ag.bnd h (ag.bnd hi ?_)
 show ag (qi _ _ _ _) _
 unfold qi
 rw[hx];dsimp only;rw[if_pos hn,hs]
 exact⟨_,rfl,hl,hd,True.intro⟩
theorem mT{a b:Expr}{it:Bool}{t:Bool}{r:D×Nat}(hc:ag (aE Φ c false sc ρ) (.bl t,k))(h1:t=true->ag (aE Φ a false sc ρ) r)(h2:t=false->ag (aE Φ b false sc ρ) r):ag (aE Φ (.IfExp c a b p) it sc ρ) r:=by
 refine ag.bnd hc (i9 rfl (D3 ?_))
 cases t with
 | true=>exact h1 rfl
 | false=>exact h2 rfl
theorem nH{test:am->Rs Bool}{body:am->Rs Fl}(Inv:Nat->am->Prop)(step:∀m ρ,Inv m ρ->∃b,ag (test ρ) b/\(b=true->∃m' ρ2,m' < m/\ag (body ρ) (.nx ρ2)/\Inv m' ρ2)):∀{n m:Nat} {ρ:am},Inv m ρ->m<n->∃m' ρ',ag (nu test body n ρ) (.nx ρ')/\Inv m' ρ'/\ag (test ρ') false:=by
 intro n
 induction n with
 | zero=>intro m ρ _ h;omega
 | succ n ih =>
  intro m ρ hi hm
  obtain⟨b,hb,h⟩:=step m ρ hi
  cases b with
  | false=>exact⟨m,ρ,ag.bnd hb cS,hi,hb⟩
  | true =>
   obtain⟨m',ρ2,h1,h2,h3⟩:=h rfl
   obtain⟨m2,ρ3,h4,h5,h6⟩:=ih h3 (show m' < n by omega)
   exact⟨m2,ρ3,ag.bnd hb (ag.bnd h2 h4),h5,h6⟩
theorem zw{body:List Stmt}(Inv:Nat->am->Prop)(h0:Inv m ρ)(hm:m<dw)
  (step:∀m ρ,Inv m ρ->∃b k,ag (aE Φ c false sc ρ) (.bl b,k)/\(b=true->∃m' ρ2,m' < m/\ag (aH Φ body sc ρ) (.nx ρ2)/\Inv m' ρ2)) (rest:∀m ρ',Inv m ρ'->(∃k,ag (aE Φ c false sc ρ') (.bl false,k))->ag (aH Φ ss sc ρ') fl):ag (aH Φ (.While c body [] p::ss) sc ρ) fl:=by
 obtain⟨m',ρ',h1,h2,h3⟩:=nH (test:=fun ρ=>(aE Φ c false sc ρ).bnd fun p=>ja p fun b=>.ok b []) (body:=aH Φ body sc) Inv (fun m ρ h=>by
  obtain⟨b,k,a1,a2⟩:=step m ρ h
  exact⟨b,a1.bnd (i9 rfl cS),a2⟩) h0 hm
 obtain⟨q,h4,h5⟩:=az h3
 obtain⟨t,ht,h5⟩:=gu h5
 cases aV h5
 obtain⟨q1,q2⟩:=q
 have ht:q1=.bl false:=ht
 subst ht
 exact aX (nY h1) (rest m' ρ' h2 ⟨q2,h4⟩)
theorem jJ{m':Nat}{A:am->Prop}{P:Nat->am->Prop}(h:m' < m)(k:∃ρ2,A ρ2/\P m' ρ2):∃m' ρ2,m' < m/\A ρ2/\P m' ρ2:=by
 obtain⟨ρ2,a,b⟩:=k
 exact⟨m',ρ2,h,a,b⟩
end Sp
namespace K
open PySem L2 Sp
variable{p q:Qd}{m n:Nat}
noncomputable def aI(p q:Qd):Qd :=
 (p.1*q.1-p.2.1*q.2.1-p.2.2.1*q.2.2.1-p.2.2.2*q.2.2.2,p.1*q.2.1+p.2.1*q.1+p.2.2.1*q.2.2.2-p.2.2.2*q.2.2.1,
  p.1*q.2.2.1-p.2.1*q.2.2.2+p.2.2.1*q.1+p.2.2.2*q.2.1,p.1*q.2.2.2+p.2.1*q.2.2.1-p.2.2.1*q.2.1+p.2.2.2*q.1)
noncomputable def Ia(q:Qd):Int:=q.1*q.1+(q.2.1*q.2.1+(q.2.2.1*q.2.2.1+(q.2.2.2*q.2.2.2+0)))
theorem jN(h1:p.1=q.1)(h2:p.2.1=q.2.1)(h3:p.2.2.1=q.2.2.1)(h4:p.2.2.2=q.2.2.2):p=q:=by
 obtain⟨a,b,c,d⟩:=p;obtain⟨e,f,g,h⟩:=q
 simp only at h1 h2 h3 h4;subst h1 h2 h3 h4;rfl
noncomputable def je(n:Nat)(q:Qd):Prop:=q.1.natAbs<2 ^ n/\q.2.1.natAbs<2 ^ n/\q.2.2.1.natAbs<2 ^ n/\q.2.2.2.natAbs<2 ^ n
theorem dW{a e:Int}{M N:Nat}(h:a.natAbs<M)(g:e.natAbs<N):(a*e).natAbs<M*N:=by
 rw[ab9]
 exact Nat.mul_lt_mul'' h g
theorem Dj{x y z w:Int}{K:Nat}(h1:x.natAbs<K)(h2:y.natAbs<K)(h3:z.natAbs<K)(h4:w.natAbs<K):(x-y-z-w).natAbs<4*K/\(x+y+z-w).natAbs<4*K/\(x-y+z+w).natAbs<4*K/\(x+y-z+w).natAbs<4*K:=by
 have k:x.natAbs+y.natAbs+z.natAbs+w.natAbs<4*K:=by omega
 have up:∀{p q:Nat} (r:Nat),p<=q->p+r<=q+r:=fun r h=>Nat.add_le_add_right h r
 exact⟨ac0 (ZN (ad7 _ _) (up _ (ZN (ad7 _ _) (up _ (ad7 _ _))))) k,ac0 (ZN (ad7 _ _) (up _ (ZN (ah3 _ _) (up _ (ah3 _ _))))) k,
  ac0 (ZN (ah3 _ _) (up _ (ZN (ah3 _ _) (up _ (ad7 _ _))))) k,ac0 (ZN (ah3 _ _) (up _ (ZN (ad7 _ _) (up _ (ah3 _ _))))) k⟩
theorem iP(h:je m p)(g:je n q):je (m+n+2) (aI p q):=by
 have e:2 ^ (m+n+2)=4*(2 ^ m*2 ^ n):=by rw[ae8,ae8];omega
 obtain⟨a1,a2,a3,a4⟩:=h
 obtain⟨b1,b2,b3,b4⟩:=g
 unfold je
 rw[e]
 exact⟨(Dj (dW a1 b1) (dW a2 b2) (dW a3 b3) (dW a4 b4)).1,(Dj (dW a1 b2) (dW a2 b1) (dW a3 b4) (dW a4 b3)).2.1,
  (Dj (dW a1 b3) (dW a2 b4) (dW a3 b1) (dW a4 b2)).2.2.1,(Dj (dW a1 b4) (dW a2 b3) (dW a3 b2) (dW a4 b1)).2.2.2⟩
theorem je.mono(h:je m p)(g:m<=n):je n p:=by
 have e:2 ^ m<=2 ^ n:=aa6 (by decide) g
 obtain⟨a1,a2,a3,a4⟩:=h
 exact⟨ZW a1 e,ZW a2 e,ZW a3 e,ZW a4 e⟩
theorem je.bd(h:je n p)(g:n<=9000):gn p:=by
 have h:=h.mono g
 exact h
theorem Ba(h:gn p)(g:gn q):(cD p.1 q.1/\cD p.2.1 q.2.1/\cD p.2.2.1 q.2.2.1/\cD p.2.2.2 q.2.2.2)/\(cD p.1 q.2.1/\cD p.2.1 q.1/\cD p.2.2.1 q.2.2.2/\cD p.2.2.2 q.2.2.1)/\(cD p.1 q.2.2.1/\cD p.2.1 q.2.2.2/\cD p.2.2.1 q.1/\cD p.2.2.2 q.2.1)/\(cD p.1 q.2.2.2/\cD p.2.1 q.2.2.1/\cD p.2.2.1 q.2.1/\cD p.2.2.2 q.1) :=
 ⟨⟨cj h.1 g.1,cj h.2.1 g.2.1,cj h.2.2.1 g.2.2.1,cj h.2.2.2 g.2.2.2⟩,⟨cj h.1 g.2.1,cj h.2.1 g.1,cj h.2.2.1 g.2.2.2,cj h.2.2.2 g.2.2.1⟩,⟨cj h.1 g.2.2.1,cj h.2.1 g.2.2.2,cj h.2.2.1 g.1,cj h.2.2.2 g.2.1⟩,⟨cj h.1 g.2.2.2,cj h.2.1 g.2.2.1,cj h.2.2.1 g.2.1,cj h.2.2.2 g.1⟩⟩

end K
namespace K
open PySem L2 Sp Qm
variable{M k m:Nat}{q:Qd}{a b c g n x:Int}{Φ:Fx}{sc:Scope}{ρ:am}{p:Pos}{e it tg:Expr}{body:List Stmt}{d:D}{l:List D}{ns:List Int}{P:am->Prop}{es:List Expr}
noncomputable abbrev bd(a b c d:Int):Prop:=a.natAbs<cH/\b.natAbs<cH/\c.natAbs<cH/\d.natAbs<cH
noncomputable def dG(M:Nat)(q:Qd):Prop:=q.1.natAbs<=M/\q.2.1.natAbs<=M/\q.2.2.1.natAbs<=M/\q.2.2.2.natAbs<=M
theorem kr(h:dG M q)(hM:M<cH):bd q.1 q.2.1 q.2.2.1 q.2.2.2 :=
 ⟨ac0 h.1 hM,ac0 h.2.1 hM,ac0 h.2.2.1 hM,ac0 h.2.2.2 hM⟩
noncomputable def Yw(q:Qd):Qd:=(q.1,-q.2.1,-q.2.2.1,-q.2.2.2)
theorem sR(x:Int):0<=x*x:=by
 rcases Int.le_total 0 x with h|h
 ·exact Int.mul_nonneg h h
 ·have:=Int.mul_nonneg (show 0 <= -x by omega) (show 0 <= -x by omega);rwa [aj1]at this
theorem uI{N:Nat}(h:dG M q)(g:M<=N):dG N q:=⟨ZN h.1 g,ZN h.2.1 g,ZN h.2.2.1 g,ZN h.2.2.2 g⟩
theorem GI(x:Int)(h:0<n):(x.fdiv n).natAbs<=x.natAbs:=by
 rw[Int.fdiv_eq_ediv_of_nonneg _ (by omega)]
 exact Int.natAbs_ediv_le_natAbs x n

theorem gj(h:a=b):(!eqD (.int a) (.int b))=false:=by rw[h];simp
theorem lZ(h:a=b):eqD (.int a) (.int b)=true:=by rw[h];simp

theorem gx{a b:Expr}{op:Operator}{it:Bool}{x y:D}{j:Nat}{r:D×Nat}(ha:ag (aE Φ a false sc ρ) (x,k))(hb:ag (aE Φ b false sc ρ) (y,j))(h:ag (mi op x y k j) r):ag (aE Φ (.BinOp a op b p) it sc ρ) r:=ag.bnd ha (ag.bnd hb h)
noncomputable def vP(Φ:Fx)(sc:Scope)(tg:Expr)(body ss:List Stmt)(r:D):List D->am->Prop
 | [],ρ=>ag (aH Φ ss sc ρ) (.rt r)
 | d::l,ρ => ∃ρ1,bX sc tg d ρ=some ρ1/\((∃ρ2,ag (aH Φ body sc ρ1) (.nx ρ2)/\vP Φ sc tg body ss r l ρ2)\/ag (aH Φ body sc ρ1) (.rt r))
theorem mI{ss:List Stmt}{r:D}(ds:List D)(hi:ag (aE Φ it true sc (demote it ρ)) (d,k))(h:vP Φ sc tg body ss r ds (demote it ρ))(hd:items d=some ds:=by rfl)(hk:k<=1:=by first|exact ZP 1|exact ZY 1)(ht:fF it tg=true:=by rfl):ag (aH Φ (.For tg it body [] p::ss) sc ρ) (.rt r):=by
 obtain⟨r',h1,rfl⟩:=wC (ds:=ds) (fun ds ρ=>vP Φ sc tg body ss r ds ρ) (fun r'=>r'=r) hi h (fun d l ρ ⟨ρ1,h1,h2⟩=>⟨ρ1,h1,by
  rcases h2 with h2|h2
  ·exact .inl h2
  ·exact .inr ⟨r,h2,rfl⟩⟩) (fun ρ' h=>⟨r,h,rfl⟩) hd hk ht
 exact h1
noncomputable def uu(c k:Int):Int:=if k.fmod 3=0 then(c*1000003 ^ 4).fmod (2*10 ^ 20+1)-10 ^ 20 else if k.fmod 3=1 then c.fmod 61-30 else c.fmod 7-3
theorem lP(c k:Int):(uu c k).natAbs<=10 ^ 20:=by
 have h0:=aa9 (c*1000003 ^ 4) (show(0:Int)<2*10 ^ 20+1 by decide)
 have h1:=ab7 (c*1000003 ^ 4) (show(0:Int)<2*10 ^ 20+1 by decide)
 have g0:=aa9 c (show(0:Int)<61 by decide)
 have g1:=ab7 c (show(0:Int)<61 by decide)
 have f0:=aa9 c (show(0:Int)<7 by decide)
 have f1:=ab7 c (show(0:Int)<7 by decide)
 unfold uu
 generalize (c*1000003 ^ 4).fmod (2*10 ^ 20+1)=x at *
 split
 ·omega
 ·split<;>omega
noncomputable abbrev d3(x y z:Int):D:=.tup [.int x,.int y,.int z]
theorem aQ{n:Nat}(h:n<=2 ^ m)(hm:m<9000):n<cH:=ac0 h (ae4 (by decide) hm)
open Builtin.Int (intBits)
theorem G7(h:intBits x<=k):x.natAbs<2 ^ k:=by
 unfold intBits at h
 by_cases h0:x=0
 ·subst h0;exact ak4 (by decide)
 ·rw[if_neg (by simpa using h0)]at h
  exact ZW Nat.lt_log2_self (aa6 (by decide) h)
theorem Gn(h:x.natAbs<2 ^ k):intBits x<=k:=by
 unfold intBits
 by_cases h0:x=0
 ·rw[if_pos (by simpa using h0)];exact ZY _
 ·rw[if_neg (by simpa using h0)]
  exact(Nat.log2_lt (by omega)).mpr h
noncomputable def oG(l:List D):Prop:=∃ns:List Int,l=ns.map D.int/\∀m∈ns,intBits m<=2 ^ 20
theorem oG.okL(h:oG l):okL l:=let ⟨ns,e,_⟩:=h;⟨ns,e⟩
theorem AK{n:Nat}(h:∀m∈ns,m.natAbs<2 ^ n)(k:Int):(fJ ns k).natAbs<2 ^ n:=by
 unfold fJ
 split
 ·exact ak4 (by decide)
 ·rw[ab5]
  cases e:ns[(k.fmod ns.length).toNat]? with
  | none=>exact ak4 (by decide)
  | some m=>exact h m (ae0 e)
theorem CI{n:Nat}(h:∀m∈ns,m.natAbs<2 ^ n)(k:Int):(pD ns k).natAbs<2 ^ (n+33):=by
 have hx:=AK h k
 unfold pD
 have r0:=aa9 ((((fJ ns k).fmod 2147483647+7919*k+1)*48271).fmod 2147483647*69621+k) (show(0:Int)<2147483647 by decide)
 have r1:=ab7 ((((fJ ns k).fmod 2147483647+7919*k+1)*48271).fmod 2147483647*69621+k) (show(0:Int)<2147483647 by decide)
 generalize ((((fJ ns k).fmod 2147483647+7919*k+1)*48271).fmod 2147483647*69621+k).fmod 2147483647=r at *
 generalize fJ ns k=x at *
 have e:=Int.mul_fdiv_add_fmod x 2147483647
 have f0:=aa9 x (show(0:Int)<2147483647 by decide)
 have f1:=ab7 x (show(0:Int)<2147483647 by decide)
 generalize x.fdiv 2147483647=q at *
 generalize x.fmod 2147483647=f at *
 have e2:2 ^ (n+33)=2 ^ n*8589934592:=by rw[ae8]
 have p:1<=2 ^ n:=Nat.one_le_two_pow
 rw[e2]
 generalize 2 ^ n=N at *
 omega
theorem CJ(h:oG l)(k:Int):intBits (d6 l k)<=2 ^ 21:=by
 obtain⟨ns,rfl,hb⟩:=h
 unfold d6
 rw[kA]
 have key:∀n:Nat,(∀m∈ns,intBits m<=n)->intBits (pD ns k)<=n+33:=fun n hn=>Gn (CI (fun m hm=>G7 (hn m hm)) k)
 exact ZN (key _ hb) (by decide)
theorem gT{C:am}(h:Sub C ρ)(k:∀ρ,Sub C ρ->P ρ):P ρ:=k ρ h
theorem CM:intBits (1000003 ^ 4)<=2 ^ 22:=by decide
noncomputable def bZ:Nat->List Int->Nat
 | g,[]=>g
 | g,n::r=>bZ (Nat.gcd g n.natAbs) r
@[irreducible] noncomputable def jB(l:List D):Int:=(bZ 0 (ox l):Nat)
noncomputable def okT(l:List D):Prop:=∃ns:List Int,l=ns.map D.int/\ns.length<=100/\∀n∈ns,n.natAbs<2 ^ 1000
theorem JJ(h:okT l):okT l:=h
theorem kJ(ns:List Int):jB (ns.map D.int)=(bZ 0 ns:Nat):=by unfold jB;rw[kA]
theorem i6:∀(ns:List Int) (g:Nat),bZ g ns∣g/\∀n∈ns,bZ g ns∣n.natAbs
 | [],g=>⟨Nat.dvd_refl _,fun n h=>by cases h⟩
 | n::r,g=>by
  obtain⟨h1,h2⟩:=i6 r (Nat.gcd g n.natAbs)
  refine⟨Nat.dvd_trans h1 (Nat.gcd_dvd_left _ _),fun m hm=>?_⟩
  rcases ZT.mp hm with rfl|hm
  ·exact Nat.dvd_trans h1 (Nat.gcd_dvd_right _ _)
  ·exact h2 m hm
theorem n5{d:Nat}:∀(ns:List Int) (g:Nat),d∣g->(∀n∈ns,d∣n.natAbs)->d∣bZ g ns
 | [],g,h,_=>h
 | n::r,g,h,k=>n5 r _ (Nat.dvd_gcd h (k n ZV)) fun m hm=>k m (ZR _ hm)
theorem rW(h:n∈ns):((bZ 0 ns:Nat):Int)∣n:=Int.ofNat_dvd_left.mpr ((i6 ns 0).2 n h)
theorem kI(h:n∈ns)(h0:n≠0):0<bZ 0 ns:=by
 rcases ag8 (bZ 0 ns)with e|e
 ·have:=(i6 ns 0).2 n h
  rw[e]at this
  have:=Nat.eq_zero_of_zero_dvd this
  omega
 ·exact e
theorem CF{m:Int}(h:n∈ns)(h0:n≠0)(hm:m∈ns):m=(bZ 0 ns:Nat)*m.fdiv (bZ 0 ns:Nat):=by
 obtain⟨u,e⟩:=rW hm
 have hp:=kI h h0
 generalize bZ 0 ns=g at *
 rw[e,ah1 _ (by omega)]
theorem XG(h:n∈ns)(h0:n≠0):bZ 0 (ns.map fun m=>m.fdiv (bZ 0 ns:Nat))=1:=by
 have hp:=kI h h0
 have key:((bZ 0 (ns.map fun m=>m.fdiv (bZ 0 ns:Nat)))*bZ 0 ns)∣bZ 0 ns:=by
  refine n5 ns 0 (Nat.dvd_zero _) fun m hm=>?_
  obtain⟨u,e⟩:=(i6 (ns.map fun m=>m.fdiv (bZ 0 ns:Nat)) 0).2 _ (ae2.mpr ⟨m,hm,rfl⟩)
  have e2:=ad4 Int.natAbs (CF h h0 hm)
  rw[ab9,Int.natAbs_natCast,e]at e2
  exact⟨u,by rw[e2];simp only[aj7,Nat.mul_left_comm,Nat.mul_assoc]⟩
 have:=Nat.le_of_dvd hp key
 have h1:bZ 0 (ns.map fun m=>m.fdiv (bZ 0 ns:Nat))<=1:=by
  rcases Nat.lt_or_ge 1 (bZ 0 (ns.map fun m=>m.fdiv (bZ 0 ns:Nat)))with q|q
  ·have:=Nat.mul_lt_mul_of_pos_right q hp
   omega
  ·exact q
 have h2:0<bZ 0 (ns.map fun m=>m.fdiv (bZ 0 ns:Nat)):=kI (n:=n.fdiv (bZ 0 ns:Nat)) (ae2.mpr ⟨n,h,rfl⟩) fun z=>by
  have:=CF h h0 h
  rw[z,ae6]at this
  exact h0 this
 omega
theorem uT(c:Nat):∀(ns:List Int) (g:Nat),bZ (c*g) (ns.map fun m=>(c:Int)*m)=c*bZ g ns
 | [],g=>rfl
 | n::r,g=>by
  show bZ (Nat.gcd (c*g) ((c:Int)*n).natAbs) _=_
  rw[ab9,Int.natAbs_natCast,Nat.gcd_mul_left]
  exact uT c r _
theorem GG(h:n∈ns)(h0:n≠0):bZ 0 ns<=n.natAbs:=Nat.le_of_dvd (by omega) ((i6 ns 0).2 n h)
theorem Af(d:D):kn d 1<=1:=by rcases OO (d:=d) (k:=1)with q|q<;>omega
noncomputable def sB(a b m:Nat):Prop:=(b<=a/\a*b<2 ^ m)\/(a<b/\a*b<2 ^ (m-1)/\1<=m)
theorem qX{a b:Nat}(h:sB a b m)(h0:b≠0):∃m',m' < m/\sB b (a % b) m':=by
 rcases h with⟨h1,h2⟩|⟨h1,h2,h3⟩
 ·have hm:1<=m:=by
   rcases ag8 m with e|e
   ·subst e
    have:1*1<=a*b:=ac6 (by omega) (by omega)
    omega
   ·exact e
  refine⟨m-1,by omega,.inl ⟨aj4 (Nat.mod_lt _ (by omega)),?_⟩⟩
  have e:2 ^ m=2*2 ^ (m-1):=by rw[<- Nat.pow_succ'];congr 1;omega
  rw[e]at h2
  have hk:b+a % b<=a:=by
   have:=Nat.div_add_mod a b
   have q:1<=a / b:=(Nat.one_le_div_iff (by omega)).mpr h1
   have:=ai6 b q
   omega
  have hlt:=Nat.mod_lt a (show 0<b by omega)
  have:b*(a % b)+b*(a % b)<=a*b:=by
   rw[<- Nat.mul_add,aj7 a b]
   exact ai6 b (by omega)
  omega
 ·refine⟨m-1,by omega,.inl ?_⟩
  rw[Nat.mod_eq_of_lt h1,aj7]
  exact⟨aj4 h1,h2⟩
theorem Lf{a b:Nat}(ha:a<2 ^ 1000)(hb:b<2 ^ 1000):sB a b 2002:=by
 have h:a*b<2 ^ 2001:=ZW (Nat.mul_lt_mul'' ha hb) (by rw[<- ae8];exact aa6 (by decide) (by decide))
 rcases Nat.lt_or_ge a b with q|q
 ·exact .inr ⟨q,h,by decide⟩
 ·exact .inl ⟨q,al7 h (ae4 (by decide) (by decide))⟩
theorem uZ(a b:Nat):(a:Int).fmod b=((a % b:Nat):Int):=by
 rw[Int.fmod_eq_emod_of_nonneg _ (by omega)];rfl
theorem K5(a b:Nat):(-(a:Int)).fmod (-(b:Int)) = -((a % b:Nat):Int):=by
 rw[Int.neg_fmod_neg,uZ]
theorem Di{c:Expr}(Inv:Nat->am->Prop)(h0:Inv m ρ)(hm:m<dw)
  (step:∀m ρ,Inv m ρ->∃b k,ag (aE Φ c false sc ρ) (.bl b,k)/\(b=true->∃m' ρ2,m' < m/\ag (aH Φ body sc ρ) (.nx ρ2)/\Inv m' ρ2)) (rest:∀m ρ',Inv m ρ'->(∃k,ag (aE Φ c false sc ρ') (.bl false,k))->P ρ'):∃ρ',ag (aH Φ [.While c body [] p] sc ρ) (.nx ρ')/\P ρ':=by
 obtain⟨m',ρ',h1,h2,h3⟩:=nH (test:=fun ρ=>(aE Φ c false sc ρ).bnd fun p=>ja p fun b=>.ok b []) (body:=aH Φ body sc) Inv (fun m ρ h=>by
  obtain⟨b,k,a1,a2⟩:=step m ρ h
  exact⟨b,a1.bnd (i9 rfl cS),a2⟩) h0 hm
 obtain⟨q,h4,h5⟩:=az h3
 obtain⟨t,ht,h5⟩:=gu h5
 cases aV h5
 obtain⟨q1,q2⟩:=q
 have ht:q1=.bl false:=ht
 subst ht
 exact⟨ρ',aX (nY h1) fo,rest m' ρ' h2 ⟨q2,h4⟩⟩
noncomputable def jf(s:Bool)(a:Nat):Int:=cond s (-(a:Int)) a
theorem xF(s:Bool)(a b:Nat):(jf s a).fmod (jf s b)=jf s (a % b):=by
 cases s
 ·exact uZ a b
 ·exact K5 a b
theorem eF(s:Bool)(a:Nat):(jf s a).natAbs=a:=by
 cases s
 ·rfl
 ·exact ad6 _
theorem nN(x y:Int)(h:y≠0):∃(s:Bool) (a b:Nat),y=jf s a/\x.fmod y=jf s b/\Nat.gcd a b=Nat.gcd x.natAbs y.natAbs/\a=y.natAbs/\b<a:=by
 have hg:Nat.gcd y.natAbs (x.fmod y).natAbs=Nat.gcd x.natAbs y.natAbs:=by
  have e:=Int.mul_fdiv_add_fmod x y
  have:Int.gcd y (x.fmod y)=Int.gcd y x:=by
   conv=>rhs;rw[<- e]
   rw[Int.gcd_mul_left_add_right]
  rw[show Nat.gcd y.natAbs (x.fmod y).natAbs=Int.gcd y (x.fmod y)from rfl,this,Int.gcd_comm];rfl
 by_cases hy:0<y
 ·have h0:=aa9 x hy
  have h1:=ab7 x hy
  refine⟨false,y.natAbs,(x.fmod y).natAbs,?_,?_,hg,rfl,by omega⟩
  ·show y=((y.natAbs:Nat):Int);omega
  ·show x.fmod y=(((x.fmod y).natAbs:Nat):Int);omega
 ·have e:x.fmod y = -((-x).fmod (-y)):=by
   have:=Int.neg_fmod_neg (-x) (-y)
   rw[Int.neg_neg,Int.neg_neg]at this
   exact this
  have hy':0 < -y:=by omega
  have h0:=aa9 (-x) hy'
  have h1:=ab7 (-x) hy'
  refine⟨true,y.natAbs,(x.fmod y).natAbs,?_,?_,hg,rfl,by omega⟩
  ·show y = -((y.natAbs:Nat):Int);omega
  ·show x.fmod y = -(((x.fmod y).natAbs:Nat):Int);omega
noncomputable def EC(u v:Int)(m:Nat):Prop:=m=3000\/∃(s:Bool) (a b:Nat),u=jf s a/\v=jf s b/\sB a b m
theorem ve{u v:Int}(h:EC u v m)(h0:v≠0)(hv:v.natAbs<2 ^ 1000):(∃m',m' < m/\EC v (u.fmod v) m')/\Nat.gcd v.natAbs (u.fmod v).natAbs=Nat.gcd u.natAbs v.natAbs/\(u.fmod v).natAbs<2 ^ 1000:=by
 obtain⟨s,a,b,e1,e2,e3,e4,e5⟩:=nN u v h0
 have ha:v.natAbs=a:=by rw[e1,eF]
 have hb:(u.fmod v).natAbs=b:=by rw[e2,eF]
 refine⟨?_,by rw[<- e3,ha,hb],by rw[hb];omega⟩
 rcases h with h|⟨t,x,y,h1,h2,h3⟩
 ·exact⟨2002,by omega,.inr ⟨s,a,b,e1,e2,Lf (by omega) (by omega)⟩⟩
 ·have hy:y≠0:=by
   intro z;subst z;subst h2;apply h0;cases t<;>rfl
  obtain⟨m',hm,hE⟩:=qX h3 hy
  exact⟨m',hm,.inr ⟨t,y,x % y,h2,by rw[h1,h2,xF],hE⟩⟩
noncomputable def xj(Φ:Fx)(sc:Scope)(tg:Expr)(body:List Stmt)(P:am->Prop):List D->am->Prop
 | [],ρ=>P ρ
 | d::l,ρ => ∃ρ1,bX sc tg d ρ=some ρ1/\∃ρ2,ag (aH Φ body sc ρ1) (.nx ρ2)/\xj Φ sc tg body P l ρ2
theorem qQ(ds:List D)(hi:ag (aE Φ it true sc (demote it ρ)) (d,k))(h:xj Φ sc tg body P ds (demote it ρ))(hd:items d=some ds:=by rfl)(hk:k<=1:=by first|exact ZP 1|exact ZY 1)(ht:fF it tg=true:=by rfl):∃ρ',ag (aH Φ [.For tg it body [] p] sc ρ) (.nx ρ')/\P ρ':=by
 obtain⟨ρ',h1,h2⟩:=nX (bind:=bX sc tg) (body:=aH Φ body sc) (fun ds ρ=>xj Φ sc tg body P ds ρ) (fun d l ρ ⟨ρ1,a,ρ2,b,c⟩=>⟨ρ1,ρ2,a,.inl b,c⟩) h
 exact⟨ρ',aX (j6 hi hd hk ht h1) fo,h2⟩
theorem o8{ρ':am}{n:Nat}{q:Pos}{ds:List D}(h:ag (aE Φ e false sc ρ) (d,k))(hs:hX d=some ds)(hk:aC ds=true\/k<=1)(hb:bx sc es ds ρ=some ρ')(ht:iY e=false:=by rfl)(ho:ur sc es (d,k)=false:=by rfl):ag (eI Φ (.Assign [.Tuple es n p] e q) sc ρ) (.nx ρ'):=by
 show ag (if nv sc es e=true then mS Φ es e sc ρ else _) _
 rw[if_neg (by unfold nv;rw[ht];exact aa8)]
 refine ag.bnd h ?_
 rw[if_neg (by rw[ho];exact aa8)]
 dsimp only
 rw[hs];dsimp only
 rw[if_pos hk,hb]
 exact cS
theorem u5{n:Nat}{q:Pos}{d:D×Nat}(h:ag (aE Φ e false sc ρ) d)(ho:ur sc es d=true)(ht:iY e=false:=by rfl):ag (eI Φ (.Assign [.Tuple es n p] e q) sc ρ) (.nx (xL es d ρ)):=by
 show ag (if nv sc es e=true then mS Φ es e sc ρ else _) _
 rw[if_neg (by unfold nv;rw[ht];exact aa8)]
 refine ag.bnd h ?_
 rw[if_pos ho]
 exact cS
noncomputable def gI(ns:List Int):Int:=(bZ 0 ns:Nat)
theorem jV(ns:List Int):jB (ns.map D.int)=gI ns:=kJ ns
theorem oZ(h:n∈ns)(h0:n≠0):0<gI ns:=by have:=kI h h0;unfold gI;omega
theorem jW{m:Int}(h:n∈ns)(h0:n≠0)(hm:m∈ns):m=gI ns*m.fdiv (gI ns):=CF h h0 hm
theorem Av(h:n∈ns)(h0:n≠0):gI (ns.map fun m=>m.fdiv (gI ns))=1:=by
 have:=XG h h0
 unfold gI;rw[this];rfl
theorem uV(hc:0<c)(ns:List Int):gI (ns.map fun m=>c*m)=c*gI ns:=by
 obtain⟨k,rfl⟩:=Int.eq_ofNat_of_zero_le (Int.le_of_lt hc)
 have:=uT k ns 0
 unfold gI
 rw[Nat.mul_zero]at this
 rw[this];simp
theorem O1(h:n∈ns)(h0:n≠0):(gI ns).natAbs<=n.natAbs:=by
 have:=GG h h0
 unfold gI;omega
theorem qS(hg:0<g):(x.fdiv g).natAbs<=x.natAbs:=GI x hg
theorem Cv(hg:0<g)(hn:0<n)(e:n=g*n.fdiv g):0<n.fdiv g:=by
 rcases Int.lt_or_le 0 (n.fdiv g)with h|h
 ·exact h
 ·have:=Int.mul_le_mul_of_nonneg_left h (Int.le_of_lt hg)
  rw[ae6,<- e]at this
  omega
theorem yo(hc:0<c)(hg:0<g):(c*x).fdiv (c*g)=x.fdiv g:=Int.mul_fdiv_mul_of_pos x g hc
theorem lO(hk:k<=999)(hl:ns.length<=100)(h:∀n∈ns,n.natAbs<=2 ^ k):okT (ns.map D.int) :=
 ⟨ns,rfl,hl,fun n hn=>ac0 (h n hn) (ae4 (by decide) (by omega))⟩
noncomputable abbrev bD(a b c x y z:Int):Int:=a*x+(b*y+(c*z+0))
theorem qo{i:Int}(h0:0<=i)(h1:i<4)(a b c d v:Int):∃a' b' c' d':Int,qm [.int a,.int b,.int c,.int d] i (.int v)=some [.int a',.int b',.int c',.int d']/\(∀P:Int->Prop,P a->P b->P c->P d->P v->P a'/\P b'/\P c'/\P d')/\(v≠0 -> ¬ (a'=0/\b'=0/\c'=0/\d'=0)):=by
 have:i=0\/i=1\/i=2\/i=3:=by omega
 rcases this with rfl|rfl|rfl|rfl
 ·exact⟨v,b,c,d,rfl,fun P p1 p2 p3 p4 p5=>⟨p5,p2,p3,p4⟩,fun h z=>h z.1⟩
 ·exact⟨a,v,c,d,rfl,fun P p1 p2 p3 p4 p5=>⟨p1,p5,p3,p4⟩,fun h z=>h z.2.1⟩
 ·exact⟨a,b,v,d,rfl,fun P p1 p2 p3 p4 p5=>⟨p1,p2,p5,p4⟩,fun h z=>h z.2.2.1⟩
 ·exact⟨a,b,c,v,rfl,fun P p1 p2 p3 p4 p5=>⟨p1,p2,p3,p5⟩,fun h z=>h z.2.2.2⟩
noncomputable def ci(x:Int):Prop:=x.natAbs<=10 ^ 20
theorem C5(a b c d:Int):(([a,b,c,d]:List Int).any fun n=>n != 0) = !decide (a=0/\b=0/\c=0/\d=0):=by
 by_cases h1:a=0<;>by_cases h2:b=0<;>by_cases h3:c=0<;>by_cases h4:d=0<;>simp[h1,h2,h3,h4]

end K
namespace K
open PySem PySem.Spec PyProof.Rows L2 Sp Qm
variable{Φ:Fx}{sc:Scope}{args:List Expr}{n:Str}{ds:List D}{M N j k m:Nat}{ns:List Int}{A B a b c d w x y z:Int}
theorem An{ps fs:List Str}{q:List D}(hl:ds.length+1=ps.length)(h:ag (ck Φ args sc (fj ps (.obj n [] []::ds))) (q,k))(hq:q.length=fs.length)(h1:aC q=true)(h2:fW q=true):ag (iM Φ sc ps args n fs ds) (.obj n fs q):=by
 unfold iM
 rw[if_pos hl]
 refine ag.bnd h ?_
 dsimp only
 rw[if_pos hq]
 exact cQ rfl ⟨h1,h2,True.intro⟩
theorem cE{ρ:am}{a:Expr}{m:Str}{ap cp:Pos}{it:Bool}{ns:List Str}{es:List D}{F:List D->Rs D}{d:D}(ha:ag (aE Φ a false sc ρ) (.obj n ns es,k))(hs:ag (ck Φ args sc ρ) (ds,j))(hF:Φ.omt n m=some F)(h:ag (F (.obj n ns es::ds)) d)
  (hl:(ap.endLine==cp.line)=true:=by rfl) (hn:ns.contains m=false:=by rfl) (hb:gy a=true:=by rfl) (hf:ds.length<29:=by exact ab2 rfl):ag (aE Φ (.Call (.Attribute a m ap) args [] cp) it sc ρ) (d,0):=by
 rw[kP,if_pos hl]
 refine ag.bnd ha (ag.bnd hs ?_)
 unfold xY
 dsimp only
 rw[if_pos ⟨hn,hb,hf⟩,hF]
 exact ag.bnd h cS
theorem A4{X:Cx}(hc:X.calm=true):dN X (.builtin "any") (fun xs H Q => ∃(p:Addr) (ns:List Int),xs=[.ref p]/\dh X.K H p (ns.map V.int)/\Q (.bl (ns.any fun n=>n != 0)) H):=by
 intro pins s σ H xs us Q I r h
 obtain⟨p,ns,rfl,hq,q⟩:=h
 obtain⟨u,rfl,rx⟩:=dX r
 cases rx
 obtain⟨its,rv,pl,hz⟩:=I.tuple hq
 have hlen:its.length=ns.length:=by have:=rv.length;simpa using this.symm
 have hl:s.heap.IsTuple p its.toArray:=by obtain⟨o,e,c,n,d⟩:=pl;exact⟨o,e,c,n,d⟩
 have hlt:p<s.heap.objs.size:=by obtain⟨_,e,_⟩:=hl;exact ZS e
 refine call_any_walk (ag7 hl ?_)
 refine⟨_,_,_,_,_,_,fun i=>(ns.getD i 0 != 0),rfl,Walks.tuple (A:=X.A.in1) (by exact I.ok.hd hc) _ p (ac1 hlt) its.toArray,⟨⟨_,ZQ _ rfl,rfl,rfl⟩,hl.at fun o e=>ZM _ e⟩,?_,fun h' tk hk=>?_⟩
 ·intro i v s' Q' E' hP hQ
  have hP:(its.toArray)[i]?=some v:=hP
  simp only[List.getElem?_toArray]at hP
  have hi:i<ns.length:=by rw[<- hlen];exact(aa7.mp hP).1
  obtain⟨w,hw,rw'⟩:=rv.get (i:=i) (x:=V.int ns[i]) (by simp[hi])
  rw[hP]at hw;cases hw
  obtain⟨t,rfl⟩:=rw'
  refine PyProof.Rows.truthy_int ?_
  have:ns.getD i 0=ns[i]:=by rw[ab5,aa3 hi];rfl
  rw[<- this];exact hQ
 ·have:((List.range its.toArray.size).any fun i=>(ns.getD i 0 != 0))=ns.any fun n=>n != 0:=by
   simp only[aa2,hlen]
   rw[ah0,ah6,ah6]
   constructor
   ·rintro⟨i,hi,h⟩
    have hi:=af6.mp hi
    rw[ab5,aa3 hi]at h
    exact⟨_,ak0 hi,h⟩
   ·rintro⟨x,hx,h⟩
    obtain⟨i,hi,rfl⟩:=List.mem_iff_getElem.mp hx
    exact⟨i,af6.mpr hi,by rw[ab5,aa3 hi];exact h⟩
  rw[this]
  refine⟨.bl _,H,I.kept (fun b o e=>hk b o (fun hm=>?_) (ZM _ e)),rfl,q⟩
  have hb:b=s.heap.objs.size:=by simpa using hm
  subst hb
  exact absurd (ZS e) (ac7 _)
noncomputable def yH(ds:List D):R1 :=
 match ds with
 | [.tup l]=>(match eH l with|some ns=>.ok (.bl (ns.any fun n=>n != 0),0) []|none=>.st)
 | ds=>C2 ds
theorem CZ:ef "any" yH:=by
 refine⟨by decide +kernel,by decide +kernel,by decide +kernel,rfl,fun X ds z l o hc h hp=>?_⟩
 unfold yH at h
 split at h
 ·split at h
  ·rename_i ns e
   refine .inl ⟨"any", by decide +kernel,?_⟩
   cases h
   cases jj e
   refine⟨_,A4 hc,fun ow H0 H2 vs P Q o s rx q=>?_⟩
   obtain⟨v,rfl,ry⟩:=rx.only
   rw[ao]at ry
   obtain⟨a,ws,rfl,hs,rl⟩:=ry
   exact⟨a,ns,rfl,by rw[<- rl.mapInt];exact hs,q _ _ (aJ.refl _) (by rw[ao])⟩
  ·cases h
 ·exact Hh.2.2.2.2 X _ z l o hc h hp
theorem uU:∀(ns ms:List Int) (g:Nat),ns.map Int.natAbs=ms.map Int.natAbs->bZ g ns=bZ g ms
 | [],[],g,_=>rfl
 | [],_::_,g,h=>by cases h
 | _::_,[],g,h=>by cases h
 | n::ns,m::ms,g,h=>by
  have h1:n.natAbs=m.natAbs/\ns.map Int.natAbs=ms.map Int.natAbs:=by simpa using h
  show bZ (Nat.gcd g n.natAbs) ns=bZ (Nat.gcd g m.natAbs) ms
  rw[h1.1]
  exact uU ns ms _ h1.2
theorem uW{ms:List Int}(h:ns.map Int.natAbs=ms.map Int.natAbs):gI ns=gI ms:=by unfold gI;rw[uU ns ms 0 h]
theorem j9(h:∀m∈ns,d∣m):d∣gI ns:=by
 unfold gI
 have:=n5 (d:=d.natAbs) ns 0 (Nat.dvd_zero _) fun n hn=>Int.natAbs_dvd_natAbs.mpr (h n hn)
 exact Int.natAbs_dvd.mp (Int.ofNat_dvd.mpr this)
theorem Aw{n:Int}(h:n∈ns):gI ns∣n:=rW h
theorem jX(k a b c d:Int)(hk:k≠0):gI [k*a,k*b,k*c,k*d]=(k.natAbs:Int)*gI [a,b,c,d]:=by
 rw[<- uV (c:=(k.natAbs:Int)) (by omega) [a,b,c,d]]
 apply uW
 simp[ab9]
noncomputable def cf(a b c d:Int):Int:=if a≠0 then a else if b≠0 then b else if c≠0 then c else d
theorem gS{k:Int}(a b c d:Int)(hk:k≠0):cf (k*a) (k*b) (k*c) (k*d)=k*cf a b c d:=by
 unfold cf
 have e:∀x:Int,(k*x≠0)=(x≠0):=fun x=>by
  apply propext
  constructor
  ·intro h z;subst z;simp at h
  ·intro h z;rcases ab0.mp z with q|q
   ·exact hk q
   ·exact h q
 simp only[e]
 by_cases ha:a≠0
 ·rw[if_pos ha,if_pos ha]
 ·rw[if_neg ha,if_neg ha]
  by_cases hb:b≠0
  ·rw[if_pos hb,if_pos hb]
  ·rw[if_neg hb,if_neg hb]
   by_cases hc:c≠0
   ·rw[if_pos hc,if_pos hc]
   ·rw[if_neg hc,if_neg hc]
theorem wQ(h:¬ (a=0/\b=0/\c=0/\d=0)):cf a b c d≠0:=by
 unfold cf
 split
 ·assumption
 ·split
  ·assumption
  ·split
   ·assumption
   ·intro z;apply h;omega
structure Pm(a b c d:Int):Prop where
 one:gI [a,b,c,d]=1
 pos:0<cf a b c d
theorem Pm.ne(h:Pm a b c d):¬ (a=0/\b=0/\c=0/\d=0):=by
 rintro⟨rfl,rfl,rfl,rfl⟩
 have:=h.pos
 simp[cf]at this
theorem qw(h:¬ (x=0/\y=0/\z=0/\w=0)):∃k a b c d:Int,k≠0/\x=k*a/\y=k*b/\z=k*c/\w=k*d/\Pm a b c d/\k.natAbs=(gI [x,y,z,w]).natAbs:=by
 obtain⟨v,hv,hv0⟩:∃v∈[x,y,z,w],v≠0:=by
  by_cases hx:x=0
  ·by_cases hy:y=0
   ·by_cases hz:z=0
    ·exact⟨w,by simp,fun q=>h ⟨hx,hy,hz,q⟩⟩
    ·exact⟨z,by simp,hz⟩
   ·exact⟨y,by simp,hy⟩
  ·exact⟨x,by simp,hx⟩
 have g0:=oZ hv hv0
 have ex:=jW (m:=x) hv hv0 (by simp)
 have ey:=jW (m:=y) hv hv0 (by simp)
 have ez:=jW (m:=z) hv hv0 (by simp)
 have ew:=jW (m:=w) hv hv0 (by simp)
 have one:=Av hv hv0
 simp only[ac4,List.map_nil]at one
 generalize gI [x,y,z,w]=g at *
 generalize x.fdiv g=a at *
 generalize y.fdiv g=b at *
 generalize z.fdiv g=c at *
 generalize w.fdiv g=d at *
 have hn:¬ (a=0/\b=0/\c=0/\d=0):=by
  rintro⟨rfl,rfl,rfl,rfl⟩
  apply h
  simp at ex ey ez ew
  exact⟨ex,ey,ez,ew⟩
 have hl:=wQ hn
 rcases af2 hl with q|q
 ·refine⟨-g,-a,-b,-c,-d,by omega,by rw[aj1];exact ex,by rw[aj1];exact ey,by rw[aj1];exact ez,by rw[aj1];exact ew,⟨?_,?_⟩,by rw[ad6]⟩
  ·rw[<- one];apply uW;simp
  ·have:=gS (k:=-1) a b c d (by decide)
   simp only[Int.neg_mul,Int.one_mul]at this
   rw[this];omega
 ·exact⟨g,a,b,c,d,by omega,ex,ey,ez,ew,⟨one,q⟩,rfl⟩
theorem zF(h:Pm a b c d):∃k:Int,(k=1\/k = -1)/\Pm (k*a) (k * -b) (k * -c) (k * -d):=by
 have hn:¬ (a=0 /\ -b=0 /\ -c=0 /\ -d=0):=fun z=>h.ne ⟨z.1,by omega,by omega,by omega⟩
 have hl:=wQ hn
 have g1:gI [a,-b,-c,-d]=1:=by rw[<- h.one];apply uW;simp
 rcases af2 hl with q|q
 ·refine⟨-1,.inr rfl,?_,?_⟩
  ·rw[jX _ _ _ _ _ (by decide),g1];rfl
  ·rw[gS _ _ _ _ (by decide)];omega
 ·refine⟨1,.inl rfl,?_,?_⟩
  ·rw[jX _ _ _ _ _ (by decide),g1];rfl
  ·rw[gS _ _ _ _ (by decide)];omega
noncomputable def n4(a b c d:Int):Int:=a*a+b*b+c*c+d*d
noncomputable def dg(a b c d:Int):Int:=a*a+b*b-c*c-d*d
noncomputable def c9(a b c d:Int):Int:=2*b*c-2*a*d
noncomputable def cZ(a b c d:Int):Int:=2*b*d+2*a*c
noncomputable def cP(a b c d:Int):Int:=2*b*c+2*a*d
noncomputable def cY(a b c d:Int):Int:=a*a-b*b+c*c-d*d
noncomputable def cK(a b c d:Int):Int:=2*c*d-2*a*b
noncomputable def cJ(a b c d:Int):Int:=2*b*d-2*a*c
noncomputable def cI(a b c d:Int):Int:=2*c*d+2*a*b
noncomputable def cX(a b c d:Int):Int:=a*a-b*b-c*c+d*d
noncomputable def cC(a b c d:Int):List Int:=[n4 a b c d,dg a b c d,c9 a b c d,cZ a b c d,cP a b c d,cY a b c d,cK a b c d,cJ a b c d,cI a b c d,cX a b c d]
theorem lE(h:x≠0):0<x*x:=by
 rcases af2 h with q|q
 ·exact Int.mul_pos_of_neg_of_neg q q
 ·exact ac8 q q
theorem uw(h:¬ (a=0/\b=0/\c=0/\d=0)):0<n4 a b c d:=by
 unfold n4
 have h1:=sR a;have h2:=sR b;have h3:=sR c;have h4:=sR d
 by_cases ha:a=0
 ·by_cases hb:b=0
  ·by_cases hc:c=0
   ·have:=lE (x:=d) (fun q=>h ⟨ha,hb,hc,q⟩);omega
   ·have:=lE hc;omega
  ·have:=lE hb;omega
 ·have:=lE ha;omega
theorem zQ(h:x % 2=1):∃k,x*x=8*k+1:=by
 obtain⟨u,rfl⟩:∃u,x=2*u+1:=⟨x / 2,by omega⟩
 have hu:u % 2=0\/u % 2=1:=by omega
 rcases hu with q|q
 ·obtain⟨v,rfl⟩:∃v,u=2*v:=⟨u / 2,by omega⟩
  exact⟨2*v*v+v,by grind⟩
 ·obtain⟨v,rfl⟩:∃v,u=2*v+1:=⟨u / 2,by omega⟩
  exact⟨2*v*v+3*v+1,by grind⟩
theorem ZH(h:x % 2=0):∃k,x*x=4*k:=by
 obtain⟨u,rfl⟩:∃u,x=2*u:=⟨x / 2,by omega⟩
 exact⟨u*u,by grind⟩
theorem oF(h:x % 2=1)(h':y % 2=1):∃k,x*y=2*k+1:=by
 obtain⟨u,rfl⟩:∃u,x=2*u+1:=⟨x / 2,by omega⟩
 obtain⟨v,rfl⟩:∃v,y=2*v+1:=⟨y / 2,by omega⟩
 exact⟨2*u*v+u+v,by grind⟩
theorem WN{g:Int}(h1:gI [a,b,c,d]=1)(h:∀x∈[a,b,c,d],∀y∈[a,b,c,d],g∣4*(x*y)):g∣4:=by
 have one:∀y∈[a,b,c,d],g∣4*y:=fun y hy=>by
  by_cases y0:y=0
  ·subst y0;exact⟨0,by simp⟩
  ·have k:=j9 (d:=g) (ns:=[(4*y)*a,(4*y)*b,(4*y)*c,(4*y)*d]) (by
    intro m hm
    simp only[ZT,ab3,ae5]at hm
    have q:∀x∈[a,b,c,d],g∣4*y*x:=fun x hx=>by
     have:=h x hx y hy
     rwa [show 4*y*x=4*(x*y) by grind]
    rcases hm with rfl|rfl|rfl|rfl
    ·exact q a (by simp)
    ·exact q b (by simp)
    ·exact q c (by simp)
    ·exact q d (by simp))
   rw[jX _ _ _ _ _ (by omega),h1,al9]at k
   exact Int.dvd_natAbs.mp k
 have k:=j9 (d:=g) (ns:=[4*a,4*b,4*c,4*d]) (by
  intro m hm
  simp only[ZT,ab3,ae5]at hm
  rcases hm with rfl|rfl|rfl|rfl
  ·exact one a (by simp)
  ·exact one b (by simp)
  ·exact one c (by simp)
  ·exact one d (by simp))
 rw[jX _ _ _ _ _ (by decide),h1]at k
 exact k
theorem EL(h:Pm a b c d):gI (cC a b c d)∣4:=by
 have q:∀x∈cC a b c d,gI (cC a b c d)∣x:=fun x hx=>Aw hx
 generalize gI (cC a b c d)=g at *
 have e:g∣n4 a b c d:=q _ (by simp[cC])
 have e0:g∣dg a b c d:=q _ (by simp[cC])
 have e1:g∣c9 a b c d:=q _ (by simp[cC])
 have e2:g∣cZ a b c d:=q _ (by simp[cC])
 have e3:g∣cP a b c d:=q _ (by simp[cC])
 have e4:g∣cY a b c d:=q _ (by simp[cC])
 have e5:g∣cK a b c d:=q _ (by simp[cC])
 have e6:g∣cJ a b c d:=q _ (by simp[cC])
 have e7:g∣cI a b c d:=q _ (by simp[cC])
 have e8:g∣cX a b c d:=q _ (by simp[cC])
 obtain⟨k,hk⟩:=e;obtain⟨k0,h0⟩:=e0;obtain⟨k1,h1⟩:=e1;obtain⟨k2,h2⟩:=e2;obtain⟨k3,h3⟩:=e3
 obtain⟨k4,h4⟩:=e4;obtain⟨k5,h5⟩:=e5;obtain⟨k6,h6⟩:=e6;obtain⟨k7,h7⟩:=e7;obtain⟨k8,h8⟩:=e8
 simp only[n4,dg,c9,cZ,cP,cY,cK,cJ,cI,cX]at hk h0 h1 h2 h3 h4 h5 h6 h7 h8
 apply WN h.one
 have aa:g∣4*(a*a):=⟨k+k0+k4+k8,by grind⟩
 have bb:g∣4*(b*b):=⟨k+k0-k4-k8,by grind⟩
 have cc:g∣4*(c*c):=⟨k-k0+k4-k8,by grind⟩
 have dd:g∣4*(d*d):=⟨k-k0-k4+k8,by grind⟩
 have bc:g∣4*(b*c):=⟨k1+k3,by grind⟩
 have ad:g∣4*(a*d):=⟨k3-k1,by grind⟩
 have bd:g∣4*(b*d):=⟨k2+k6,by grind⟩
 have ac:g∣4*(a*c):=⟨k2-k6,by grind⟩
 have cd:g∣4*(c*d):=⟨k5+k7,by grind⟩
 have ab:g∣4*(a*b):=⟨k7-k5,by grind⟩
 have ba:g∣4*(b*a):=by rw[ZX b a];exact ab
 have ca:g∣4*(c*a):=by rw[ZX c a];exact ac
 have da:g∣4*(d*a):=by rw[ZX d a];exact ad
 have cb:g∣4*(c*b):=by rw[ZX c b];exact bc
 have db:g∣4*(d*b):=by rw[ZX d b];exact bd
 have dc:g∣4*(d*c):=by rw[ZX d c];exact cd
 intro x hx y hy
 simp only[ZT,ab3,ae5]at hx hy
 rcases hx with hx|hx|hx|hx<;>rcases hy with hy|hy|hy|hy<;>rw[hx,hy]<;>assumption
theorem LW(h:Pm a b c d):∃g m:Int,gI (cC a b c d)=g/\(g=1\/g=2\/g=4)/\n4 a b c d=g*m/\m % 2=1/\0<m:=by
 have hn:=uw h.ne
 have mn:n4 a b c d∈cC a b c d:=by simp[cC]
 have g0:=oZ mn (by omega)
 have g4:=EL h
 obtain⟨m,hm⟩:=Aw mn
 have hg:gI (cC a b c d)=1\/gI (cC a b c d)=2\/gI (cC a b c d)=4:=by
  have l4:=Int.le_of_dvd (by decide) g4
  obtain⟨u,hu⟩:=g4
  generalize gI (cC a b c d)=g at *
  have:g=1\/g=2\/g=3\/g=4:=by omega
  rcases this with rfl|rfl|rfl|rfl
  ·exact .inl rfl
  ·exact .inr (.inl rfl)
  ·omega
  ·exact .inr (.inr rfl)
 have two:2∣n4 a b c d->2∣gI (cC a b c d):=fun h2=>j9 fun x hx=>by
  obtain⟨u,hu⟩:=h2
  simp only[cC,ZT,ab3,ae5]at hx
  rcases hx with rfl|rfl|rfl|rfl|rfl|rfl|rfl|rfl|rfl|rfl
  ·exact⟨u,hu⟩
  ·exact⟨u-c*c-d*d,by unfold n4 at hu;unfold dg;grind⟩
  ·exact⟨b*c-a*d,by unfold c9;grind⟩
  ·exact⟨b*d+a*c,by unfold cZ;grind⟩
  ·exact⟨b*c+a*d,by unfold cP;grind⟩
  ·exact⟨u-b*b-d*d,by unfold n4 at hu;unfold cY;grind⟩
  ·exact⟨c*d-a*b,by unfold cK;grind⟩
  ·exact⟨b*d-a*c,by unfold cJ;grind⟩
  ·exact⟨c*d+a*b,by unfold cI;grind⟩
  ·exact⟨u-b*b-c*c,by unfold n4 at hu;unfold cX;grind⟩
 have four:4∣n4 a b c d->4∣gI (cC a b c d)/\n4 a b c d % 8=4:=fun h4=>by
  have ne:¬ (a % 2=0/\b % 2=0/\c % 2=0/\d % 2=0):=fun z=>by
   have:=j9 (d:=2) (ns:=[a,b,c,d]) (by
    intro m hm
    simp only[ZT,ab3,ae5]at hm
    rcases hm with rfl|rfl|rfl|rfl
    ·exact Int.dvd_of_emod_eq_zero z.1
    ·exact Int.dvd_of_emod_eq_zero z.2.1
    ·exact Int.dvd_of_emod_eq_zero z.2.2.1
    ·exact Int.dvd_of_emod_eq_zero z.2.2.2)
   rw[h.one]at this
   omega
  have od:a % 2=1/\b % 2=1/\c % 2=1/\d % 2=1:=by
   unfold n4 at h4
   have sq:∀x:Int,∃k,x*x=4*k+x % 2/\(x % 2=0\/x % 2=1):=fun x=>by
    rcases(show x % 2=0\/x % 2=1 by omega)with q|q
    ·obtain⟨k,e⟩:=ZH q;exact⟨k,by rw[q];omega,.inl q⟩
    ·obtain⟨k,e⟩:=zQ q;exact⟨2*k,by rw[q];omega,.inr q⟩
   obtain⟨ka,ea,pa⟩:=sq a
   obtain⟨kb,eb,pb⟩:=sq b
   obtain⟨kc,ec,pc⟩:=sq c
   obtain⟨kd,ed,pd⟩:=sq d
   rw[ea,eb,ec,ed]at h4
   clear ea eb ec ed sq
   generalize a % 2=A at *;generalize b % 2=B at *;generalize c % 2=C at *;generalize d % 2=E at *
   omega
  obtain⟨oa,ob,oc,od⟩:=od
  obtain⟨ka,ya⟩:=zQ oa;obtain⟨kb,yb⟩:=zQ ob;obtain⟨kc,yc⟩:=zQ oc;obtain⟨kd,yd⟩:=zQ od
  obtain⟨bc,zbc⟩:=oF ob oc;obtain⟨ad,zad⟩:=oF oa od;obtain⟨bd,zbd⟩:=oF ob od;obtain⟨ac,zac⟩:=oF oa oc;obtain⟨cd,zcd⟩:=oF oc od;obtain⟨ab,zab⟩:=oF oa ob
  refine⟨j9 fun x hx=>?_,by unfold n4;omega⟩
  simp only[cC,ZT,ab3,ae5]at hx
  rcases hx with rfl|rfl|rfl|rfl|rfl|rfl|rfl|rfl|rfl|rfl
  ·exact h4
  ·exact⟨2*ka+2*kb-2*kc-2*kd,by unfold dg;omega⟩
  ·exact⟨bc-ad,by unfold c9;rw[ZU,ZU,zbc,zad];omega⟩
  ·exact⟨bd+ac+1,by unfold cZ;rw[ZU,ZU,zbd,zac];omega⟩
  ·exact⟨bc+ad+1,by unfold cP;rw[ZU,ZU,zbc,zad];omega⟩
  ·exact⟨2*ka-2*kb+2*kc-2*kd,by unfold cY;omega⟩
  ·exact⟨cd-ab,by unfold cK;rw[ZU,ZU,zcd,zab];omega⟩
  ·exact⟨bd-ac,by unfold cJ;rw[ZU,ZU,zbd,zac];omega⟩
  ·exact⟨cd+ab+1,by unfold cI;rw[ZU,ZU,zcd,zab];omega⟩
  ·exact⟨2*ka-2*kb-2*kc+2*kd,by unfold cX;omega⟩
 refine⟨_,m,rfl,hg,hm,?_,?_⟩
 ·generalize gI (cC a b c d)=g at *
  generalize n4 a b c d=n at *
  rcases hg with rfl|rfl|rfl
  ·have:¬ 2∣n:=fun z=>by have:=two z;omega
   omega
  ·have:¬ 4∣n:=fun z=>by have:=(four z).1;omega
   omega
  ·have:=(four ⟨m,hm⟩).2
   omega
 ·generalize gI (cC a b c d)=g at *
  generalize n4 a b c d=n at *
  rcases hg with rfl|rfl|rfl<;>omega
theorem uK(h:¬ (x=0/\y=0/\z=0/\w=0)):L2.atI ((([x,y,z,w]:List Int).filter fun t => !decide (t=0)).map D.int) 0=some (.int (cf x y z w)):=by
 unfold cf
 by_cases hx:x=0
 ·subst hx
  by_cases hy:y=0
  ·subst hy
   by_cases hz:z=0
   ·subst hz
    have hw:w≠0:=fun q=>h ⟨rfl,rfl,rfl,q⟩
    simp[hw,L2.atI,L2.ixN]
   ·simp[hz,L2.atI,L2.ixN]
  ·simp[hy,L2.atI,L2.ixN]
 ·simp[hx,L2.atI,L2.ixN]
theorem Go{f:Int->D}(h:¬ (x=0/\y=0/\z=0/\w=0)):L2.atI ((([x,y,z,w]:List Int).filter fun t => !decide (t=0)).map f) 0=some (f (cf x y z w)):=by
 unfold cf
 by_cases hx:x=0
 ·subst hx
  by_cases hy:y=0
  ·subst hy
   by_cases hz:z=0
   ·subst hz
    have hw:w≠0:=fun q=>h ⟨rfl,rfl,rfl,q⟩
    simp[hw,L2.atI,L2.ixN]
   ·simp[hz,L2.atI,L2.ixN]
  ·simp[hy,L2.atI,L2.ixN]
 ·simp[hx,L2.atI,L2.ixN]
theorem gz{n:Nat}(hx:x.natAbs<=m)(hy:y.natAbs<=n)(h:m+n<=k):(x+y).natAbs<=k:=ZN (ah3 _ _) (ZN (Nat.add_le_add hx hy) h)
theorem ku{n:Nat}(hx:x.natAbs<=m)(hy:y.natAbs<=n)(h:m+n<=k):(x-y).natAbs<=k:=ZN (ad7 _ _) (ZN (Nat.add_le_add hx hy) h)
theorem pH(hx:x.natAbs<=m):(2*x).natAbs<=2*m:=by rw[ab9];exact ai6 2 hx
theorem Ot{C E:Int}(h:8*M<=N)(ha:A.natAbs<=M)(hb:B.natAbs<=M)(hc:C.natAbs<=M)(he:E.natAbs<=M):(A+B+C+E).natAbs<=N/\(A+B-C-E).natAbs<=N/\(A-B+C-E).natAbs<=N/\(A-B-C+E).natAbs<=N:=by
 have h4:M+M+M+M<=N:=by omega
 have p2:=gz ha hb (ZP _)
 have m2:=ku ha hb (ZP _)
 exact⟨gz (gz p2 hc (ZP _)) he h4,ku (ku p2 hc (ZP _)) he h4,ku (gz m2 hc (ZP _)) he h4,gz (ku m2 hc (ZP _)) he h4⟩
theorem xX(h:8*M<=N)(ha:A.natAbs<=M)(hb:B.natAbs<=M):(2*A-2*B).natAbs<=N/\(2*A+2*B).natAbs<=N:=by
 have h4:2*M+2*M<=N:=by omega
 exact⟨ku (pH ha) (pH hb) h4,gz (pH ha) (pH hb) h4⟩
theorem Ds(hM:m*m<=M)(hN:8*M<=N)(ha:a.natAbs<=m)(hb:b.natAbs<=m)(hc:c.natAbs<=m)(hd:d.natAbs<=m):∀x∈cC a b c d,x.natAbs<=N:=by
 have p:∀{x y:Int},x.natAbs<=m->y.natAbs<=m->(x*y).natAbs<=M:=fun hx hy=>by rw[ab9];exact ZN (ac6 hx hy) hM
 obtain⟨h1,h2,h3,h4⟩:=Ot hN (p ha ha) (p hb hb) (p hc hc) (p hd hd)
 have bc:=xX hN (p hb hc) (p ha hd)
 have bd:=xX hN (p hb hd) (p ha hc)
 have cd:=xX hN (p hc hd) (p ha hb)
 intro x hx
 simp only[cC,ZT,ab3,ae5]at hx
 rcases hx with rfl|rfl|rfl|rfl|rfl|rfl|rfl|rfl|rfl|rfl
 ·exact h1
 ·exact h2
 ·unfold c9;rw[ZU,ZU];exact bc.1
 ·unfold cZ;rw[ZU,ZU];exact bd.2
 ·unfold cP;rw[ZU,ZU];exact bc.2
 ·exact h3
 ·unfold cK;rw[ZU,ZU];exact cd.1
 ·unfold cJ;rw[ZU,ZU];exact bd.1
 ·unfold cI;rw[ZU,ZU];exact cd.2
 ·exact h4
theorem BA(ha:a.natAbs<=2 ^ 140)(hb:b.natAbs<=2 ^ 140)(hc:c.natAbs<=2 ^ 140)(hd:d.natAbs<=2 ^ 140):∀x∈cC a b c d,x.natAbs<=2 ^ 290 :=
 Ds (M:=2 ^ 140*2 ^ 140) (ZP _) (by rw[show(8:Nat)=2 ^ 3 from rfl,<- ae8,<- ae8];exact aa6 (by decide) (by decide)) ha hb hc hd
theorem HF(ha:a.natAbs<=2 ^ 140)(hb:b.natAbs<=2 ^ 140)(hc:c.natAbs<=2 ^ 140)(hd:d.natAbs<=2 ^ 140):okT ((cC a b c d).map D.int):=lO (k:=290) (by decide) (ab2 rfl) (BA ha hb hc hd)
theorem DC(hm:m<=999)(h:∀t∈[x,y,z,w],t.natAbs<=2 ^ m):okT (([x,y,z,w]:List Int).map D.int):=lO (k:=m) hm (ab2 rfl) h
noncomputable def xw(a b c d:Int):D:=.tup [.int ((n4 a b c d).fdiv (gI (cC a b c d))),.tup [d3 ((dg a b c d).fdiv (gI (cC a b c d))) ((c9 a b c d).fdiv (gI (cC a b c d))) ((cZ a b c d).fdiv (gI (cC a b c d))),d3 ((cP a b c d).fdiv (gI (cC a b c d))) ((cY a b c d).fdiv (gI (cC a b c d))) ((cK a b c d).fdiv (gI (cC a b c d))),d3 ((cJ a b c d).fdiv (gI (cC a b c d))) ((cI a b c d).fdiv (gI (cC a b c d))) ((cX a b c d).fdiv (gI (cC a b c d)))]]
noncomputable def kz(a b c d:Int):D:=.obj "Turn" ["word", "row", "fractions"] [.str "turn", t4 a b c d,xw a b c d]
theorem oS{k:Int}(hk:k≠0)(p:Pm a b c d):gI [k*a,k*b,k*c,k*d]=k.natAbs:=by rw[jX _ _ _ _ _ hk,p.one,al9]
theorem Lr(ha:a.natAbs<=2 ^ k)(hb:b.natAbs<=2 ^ k)(hc:c.natAbs<=2 ^ k)(hx:x.natAbs<=2 ^ j)(hy:y.natAbs<=2 ^ j)(hz:z.natAbs<=2 ^ j):(bD a b c x y z).natAbs<=2 ^ (k+j+2):=by
 have m:∀{u v:Int},u.natAbs<=2 ^ k->v.natAbs<=2 ^ j->(u*v).natAbs<=2 ^ (k+j):=fun hu hv=>by rw[ab9,ae8];exact ac6 hu hv
 have h1:=m ha hx;have h2:=m hb hy;have h3:=m hc hz
 rw[show k+j+2=(k+j)+1+1 from rfl,af5,af5]
 exact gz h1 (gz h2 (gz h3 (ZP 0) (ZP _)) (ZP _)) (by omega)
end K
namespace Sp
open PySem PySem.Spec PyProof.Rows L2
open AutoSeq1 (wpAny_loadPart')
variable{a b f:Addr}{Q:Value->Shared->Prop}{T c k n:Nat}{oT:Obj}{ws xs ys:Array Value}{base h h':Heap}{P:Program}{w:World}{H:Hp}{K:W.Frag}{e1 e2 e3:Expr}{g x:Str}{p q t:Pos}{mg:Str->Option Value}{fd:FuncData}{ps:List Str}{Φ:Fx}{post pre:List Stmt}
abbrev fU(h:Heap)(n:Nat)(f0 f1:Value):Prop:=h.get? (n+5)=some { cls:=.type "zip", dict:=none,data:=.fields #[f0,f1,.bool false,.ref (n+3),.ref (n+4)],slots:=#[] }
abbrev fA(h:Heap)(T:Addr)(a b c:Value):Prop:=h.get? T=some { cls:=.type "tuple", data:=.seq #[a,b,c] }
structure Z3(n l1 l2 l3:Nat)(xs ys ws:Array Value)(k:Nat)(h:Heap):Prop where
 b1:l1<n
 b2:l2<n
 b3:l3<n
 sz:n+5<h.objs.size
 ti:fA h (n+3) (.ref n) (.ref (n+1)) (.ref (n+2))
 to:∃a b c,fA h (n+4) a b c
 p1:h.IsTupleIter n l1 k/\h.IsTuple l1 xs
 p2:h.IsTupleIter (n+1) l2 k/\h.IsTuple l2 ys
 p3:h.IsTupleIter (n+2) l3 k/\h.IsTuple l3 ws
section
variable{prog:Program}{A:Around}{E:Value->Shared->Prop}{s:Shared}
variable{l1 l2 l3:Nat}{x y u:Value}{f0 f1:Value}
theorem Bv{T:Addr}{a b c v:Value}{j:Nat}{Q:Unit->Shared->Prop}(hT:fA s.heap T a b c)
  (h:∀h',h'.get? T=some { cls:=.type "tuple", data:=.seq ((#[a,b,c]:Array Value).setIfInBounds j v) }->Heap.SameBut T s.heap h'->Q () { s with heap:=h' }):wpAny (model prog w) A (updateSeq T (·.setIfInBounds j v)) Q E s:=by
 refine wpAny_updateSeq hT rfl (h _ ?_ (ag6 ..))
 rw[ag1 _ hT rfl]
 simp[Obj.mapSeq]
theorem EG{Q:Option Obj->Shared->Prop}(h:Q (s.heap.get? a) s):wpAny (model prog w) A (loadIfAlive a) Q E s:=fun _ _ _=>h
def Bq(n l1 l2 l3:Nat)(xs ys ws:Array Value)(k:Nat)(x y u:Value)(h h1:Heap):Prop :=
 Z3 n l1 l2 l3 xs ys ws (k+1) h1/\fA h1 h.objs.size x y u/\(∃g,fU h1 n (rawInt h.objs.size) g)/\h1.objs.size=h.objs.size+1/\∀(c:Nat) o,(c<n\/n+5<c)->h.get? c=some o->h1.get? c=some o
theorem Z3.first(S:Z3 n l1 l2 l3 xs ys ws k s.heap)(hz:fU s.heap n .none f1)(hx:xs[k]?=some x)(hy:ys[k]?=some y)(hu:ws[k]?=some u)
  (go:∀h1,Bq n l1 l2 l3 xs ys ws k x y u s.heap h1->Q (.ref s.heap.objs.size) { s with heap:=h1 }) :
  wpAny (model prog w) A (Builtin.«zip.__next__» ⟨[.ref (n+5)],[]⟩) (fun fin s' => ∃v,fin=.done (.ret v)/\Q v s') E s:=by
 obtain⟨b1,b2,b3,sz,pI,⟨a,b,c,pO⟩,⟨q1,t1⟩,⟨q2,t2⟩,⟨q3,t3⟩⟩:=S
 obtain⟨h0,gg,dd,t0,oo⟩:=s
 show wpAny _ _ (field (.ref (n+5)) 2 >>= _) _ _ ⟨h0,gg,dd,t0,oo⟩
 refine ZL (ab4 hz rfl (x:=Value.bool false) rfl ?_)
 show wpAny _ _ (field (.ref (n+5)) 3 >>= _) _ _ ⟨h0,gg,dd,t0,oo⟩
 refine ZL (ab4 hz rfl (x:=Value.ref (n+3)) rfl (ZL (ad3 pI rfl ?_)))
 show wpAny _ _ (Builtin.SmallTypes.ownedTupleIsFree (.ref (n+5)) >>= _) _ _ ⟨h0,gg,dd,t0,oo⟩
 unfold Builtin.SmallTypes.ownedTupleIsFree
 refine ZL (ZL (ab4 hz rfl (x:=Value.none) rfl (ZO ?_)))
 simp only[ai7]
 refine ZL (wpAny_rule (ZL (ab4 hz rfl (x:=Value.ref (n+4)) rfl (ZL (ac3 hz (by simp) fun r1 Z1 m1=>?_)))))
 have m1:Heap.SameBut (n+5) h0 r1:=m1
 have e1:∀(c:Nat) o,c≠n+5->h0.get? c=some o->r1.get? c=some o:=fun c o g e=>m1.extBut c o g e
 simp only[List.zipIdx_cons,List.zipIdx_nil,ag5,aj6]
 refine ZL (ZL (ZL (ai8 ?_)))
 show wpAny _ _ (Builtin.SmallTypes.nextOf (.ref n) >>= _) _ _ ⟨r1,gg,dd,t0,oo⟩
 refine ZL (gN (q1.at fun o e=>e1 _ o (by omega) e) (t1.at fun o e=>e1 _ o (by omega) e) hx fun r2 q1' m2=>ZO ?_)
 have m2:Heap.SameBut n r1 r2:=m2
 have e2:∀(c:Nat) o,c≠n+5->c≠n->h0.get? c=some o->r2.get? c=some o:=fun c o g g' e=>m2.extBut c o g' (e1 c o g e)
 have O2:fA r2 (n+4) a b c:=e2 _ _ (by omega) (by omega) pO
 refine ZL (ad3 O2 rfl (ZL (Bv O2 fun r3 O3 m3=>ZL (aj2 (ZO ?_)))))
 have O3:fA r3 (n+4) x b c:=O3
 have m3:Heap.SameBut (n+4) r2 r3:=m3
 have e3:∀(c:Nat) o,c≠n+5->c≠n->c≠n+4->h0.get? c=some o->r3.get? c=some o:=fun c o g g' g2 e=>m3.extBut c o g2 (e2 c o g g' e)
 refine ZL (ZL (ai8 ?_))
 show wpAny _ _ (Builtin.SmallTypes.nextOf (.ref (n+1)) >>= _) _ _ ⟨r3,gg,dd,t0,oo⟩
 refine ZL (gN (q2.at fun o e=>e3 _ o (by omega) (by omega) (by omega) e) (t2.at fun o e=>e3 _ o (by omega) (by omega) (by omega) e) hy fun r4 q2' m4=>ZO ?_)
 have m4:Heap.SameBut (n+1) r3 r4:=m4
 have O4:fA r4 (n+4) x b c:=m4.extBut _ _ (by show(n+4:Nat)≠n+1;omega) O3
 refine ZL (ad3 O4 rfl (ZL (Bv O4 fun r5 O5 m5=>ZL (aj2 (ZO ?_)))))
 have O5:fA r5 (n+4) x y c:=O5
 have m5:Heap.SameBut (n+4) r4 r5:=m5
 have e5:∀(c:Nat) o,c≠n+5->c≠n->c≠n+4->c≠n+1->h0.get? c=some o->r5.get? c=some o:=fun c o g g' g2 g3 e=>m5.extBut c o g2 (m4.extBut c o g3 (e3 c o g g' g2 e))
 refine ZL (ZL (ai8 ?_))
 show wpAny _ _ (Builtin.SmallTypes.nextOf (.ref (n+2)) >>= _) _ _ ⟨r5,gg,dd,t0,oo⟩
 refine ZL (gN (q3.at fun o e=>e5 _ o (by omega) (by omega) (by omega) (by omega) e) (t3.at fun o e=>e5 _ o (by omega) (by omega) (by omega) (by omega) e) hu fun r6 q3' m6=>ZO ?_)
 have m6:Heap.SameBut (n+2) r5 r6:=m6
 have O6:fA r6 (n+4) x y c:=m6.extBut _ _ (by show(n+4:Nat)≠n+2;omega) O5
 refine ZL (ad3 O6 rfl (ZL (Bv O6 fun r7 O7 m7=>ZL (aj2 (ZO (ZO ?_))))))
 have O7:fA r7 (n+4) x y u:=O7
 have m7:Heap.SameBut (n+4) r6 r7:=m7
 have e7:∀(c:Nat) o,c≠n+5->c≠n->c≠n+4->c≠n+1->c≠n+2->h0.get? c=some o->r7.get? c=some o:=fun c o g g' g2 g3 g4 e=>m7.extBut c o g2 (m6.extBut c o g4 (e5 c o g g' g2 g3 e))
 refine ZL (ad3 O7 rfl (ZL (wpAny_newTuple ?_)))
 have sz7:r7.objs.size=h0.objs.size:=by rw[m7.1,m6.1,m5.1,m4.1,m3.1,m2.1,m1.1]
 have Z1:fU r1 n .ellipsis f1:=Z1
 have Z7:fU r7 n .ellipsis f1:=m7.extBut _ _ (by show(n+5:Nat)≠n+4;omega) (m6.extBut _ _ (by show(n+5:Nat)≠n+2;omega) (m5.extBut _ _ (by show(n+5:Nat)≠n+4;omega) (m4.extBut _ _ (by show(n+5:Nat)≠n+1;omega) (m3.extBut _ _ (by show(n+5:Nat)≠n+4;omega) (m2.extBut _ _ (by show(n+5:Nat)≠n;omega) Z1)))))
 show wpAny _ _ (Builtin.SmallTypes.ownedTupleHandOut (.ref (n+5)) (.ref r7.objs.size) >>= _) _ _ ⟨r7.push { cls:=.type "tuple", data:=.seq #[x,y,u] },gg,dd,t0,oo⟩
 unfold Builtin.SmallTypes.ownedTupleHandOut
 have Z8:fU (r7.push { cls:=.type "tuple", data:=.seq #[x,y,u] }) n .ellipsis f1:=ZM _ Z7
 refine ZL (ZL (ac3 Z8 (by simp) fun r8 Z9 m8=>?_))
 have Z9:fU r8 n (rawInt r7.objs.size) f1:=Z9
 refine ac3 Z9 (by simp) fun r9 Z10 m9=>?_
 have Z10:fU r9 n (rawInt r7.objs.size) (.bool false):=Z10
 have m8:Heap.SameBut (n+5) (r7.push { cls:=.type "tuple", data:=.seq #[x,y,u] }) r8:=m8
 have m9:Heap.SameBut (n+5) r8 r9:=m9
 have far:∀(c:Nat) o,c≠n+5->r7.get? c=some o->r9.get? c=some o:=fun c o g e=>m9.extBut c o g (m8.extBut c o g (ZM _ e))
 have szn:n+5<h0.objs.size:=sz
 have T9:fA r9 r7.objs.size x y u:=m9.extBut _ _ (by show(r7.objs.size:Nat)≠n+5;omega) (m8.extBut _ _ (by show(r7.objs.size:Nat)≠n+5;omega) (ZQ _ rfl))
 have s9:h0.objs.size<=r9.objs.size:=by rw[m9.1,m8.1,ab8,sz7];exact Nat.le_succ _
 refine ZO ⟨_,rfl,?_⟩
 show Q (.ref r7.objs.size) _
 rw[sz7]at Z10 T9⊢
 refine go r9 ⟨⟨b1,b2,b3,ZW szn s9,far _ _ (by show(n+3:Nat)≠n+5;omega) (e7 _ _ (by omega) (by omega) (by omega) (by omega) (by omega) pI),⟨x,y,u,far _ _ (by show(n+4:Nat)≠n+5;omega) O7⟩,⟨?_,?_⟩,⟨?_,?_⟩,⟨?_,?_⟩⟩,T9,⟨_,Z10⟩,by rw[m9.1,m8.1,ab8,sz7],fun c o hc e=>?_⟩
 ·exact q1'.at fun o e=>far _ o (by omega) (m7.extBut _ _ (by show(n:Nat)≠n+4;omega) (m6.extBut _ _ (by show(n:Nat)≠n+2;omega) (m5.extBut _ _ (by show(n:Nat)≠n+4;omega) (m4.extBut _ _ (by show(n:Nat)≠n+1;omega) (m3.extBut _ _ (by show(n:Nat)≠n+4;omega) e)))))
 ·exact t1.at fun o e=>far _ o (by omega) (e7 _ o (by omega) (by omega) (by omega) (by omega) (by omega) e)
 ·exact q2'.at fun o e=>far _ o (by omega) (m7.extBut _ _ (by show(n+1:Nat)≠n+4;omega) (m6.extBut _ _ (by show(n+1:Nat)≠n+2;omega) (m5.extBut _ _ (by show(n+1:Nat)≠n+4;omega) e)))
 ·exact t2.at fun o e=>far _ o (by omega) (e7 _ o (by omega) (by omega) (by omega) (by omega) (by omega) e)
 ·exact q3'.at fun o e=>far _ o (by omega) (m7.extBut _ _ (by show(n+2:Nat)≠n+4;omega) e)
 ·exact t3.at fun o e=>far _ o (by omega) (e7 _ o (by omega) (by omega) (by omega) (by omega) (by omega) e)
 ·exact far c o (by omega) (e7 c o (by omega) (by omega) (by omega) (by omega) (by omega) e)
theorem uv{Q:Bool->Shared->Prop}(hz:fU s.heap n (rawInt T) f1)(hT:s.heap.get? T=some oT)(go:∀h1 g,fU h1 n (rawInt T) g->h1.objs.size=s.heap.objs.size->(∀(c:Nat) o,c≠n+5->s.heap.get? c=some o->h1.get? c=some o)->Q false { s with heap:=h1 }) :
  wpAny (model prog w) A (Builtin.SmallTypes.ownedTupleIsFree (.ref (n+5))) Q E s:=by
 obtain⟨h0,gg,dd,t0,oo⟩:=s
 unfold Builtin.SmallTypes.ownedTupleIsFree
 refine ZL (ab4 hz rfl (x:=rawInt T) rfl ?_)
 show wpAny _ _ (loadIfAlive (Int.toNat (T:Int)) >>= _) _ _ ⟨h0,gg,dd,t0,oo⟩
 refine ZL (EG ?_)
 rw[show(Shared.heap ⟨h0,gg,dd,t0,oo⟩).get? (Int.toNat (T:Int))=some oT from hT]
 simp only[Option.isNone_some,ah8,ak9]
 refine ZL (ab4 hz rfl (x:=f1) rfl ?_)
 split
 ·refine ZL (ac3 hz (by simp) fun r1 Z1 m1=>ZO ?_)
  have m1:Heap.SameBut (n+5) h0 r1:=m1
  exact go r1 _ Z1 m1.1 fun c o g e=>m1.extBut c o g e
 ·exact ZO (go h0 f1 hz rfl fun c o _ e=>e)
theorem Z3.next(S:Z3 n l1 l2 l3 xs ys ws k s.heap)(hz:fU s.heap n (rawInt T) f1)(hT:s.heap.get? T=some oT)(hx:xs[k]?=some x)(hy:ys[k]?=some y)(hu:ws[k]?=some u)
  (go:∀h1,Z3 n l1 l2 l3 xs ys ws (k+1) h1->fA h1 s.heap.objs.size x y u->(∃g,fU h1 n (rawInt T) g)->h1.objs.size=s.heap.objs.size+1->(∀(c:Nat) o,(c<n\/n+5<c)->s.heap.get? c=some o->h1.get? c=some o)->Q (.ref s.heap.objs.size) { s with heap:=h1 }) :
  wpAny (model prog w) A (Builtin.«zip.__next__» ⟨[.ref (n+5)],[]⟩) (fun fin s' => ∃v,fin=.done (.ret v)/\Q v s') E s:=by
 obtain⟨b1,b2,b3,sz,pI,⟨a,b,c,pO⟩,⟨q1,t1⟩,⟨q2,t2⟩,⟨q3,t3⟩⟩:=S
 obtain⟨h0,gg,dd,t0,oo⟩:=s
 have szn:n+5<h0.objs.size:=sz
 show wpAny _ _ (field (.ref (n+5)) 2 >>= _) _ _ ⟨h0,gg,dd,t0,oo⟩
 refine ZL (ab4 hz rfl (x:=Value.bool false) rfl ?_)
 show wpAny _ _ (field (.ref (n+5)) 3 >>= _) _ _ ⟨h0,gg,dd,t0,oo⟩
 refine ZL (ab4 hz rfl (x:=Value.ref (n+3)) rfl (ZL (ad3 pI rfl ?_)))
 show wpAny _ _ (Builtin.SmallTypes.ownedTupleIsFree (.ref (n+5)) >>= _) _ _ ⟨h0,gg,dd,t0,oo⟩
 refine ZL (uv hz hT fun r1 g Z1 sz1 e1=>?_)
 have sz1:r1.objs.size=h0.objs.size:=sz1
 have e1:∀(c:Nat) o,c≠n+5->h0.get? c=some o->r1.get? c=some o:=e1
 simp only[List.forIn_toArray,ag5,aj6,ah8,ak9]
 refine ZL (ZL (ZL (af4 ?_)))
 show wpAny _ _ (Builtin.SmallTypes.nextOf (.ref n) >>= _) _ _ ⟨r1,gg,dd,t0,oo⟩
 refine ZL (gN (q1.at fun o e=>e1 _ o (by omega) e) (t1.at fun o e=>e1 _ o (by omega) e) hx fun r2 q1' m2=>ZO (ZO ?_))
 have m2:Heap.SameBut n r1 r2:=m2
 refine ZL (ZL (af4 ?_))
 show wpAny _ _ (Builtin.SmallTypes.nextOf (.ref (n+1)) >>= _) _ _ ⟨r2,gg,dd,t0,oo⟩
 have e2:∀(c:Nat) o,c≠n+5->c≠n->h0.get? c=some o->r2.get? c=some o:=fun c o g g' e=>m2.extBut c o g' (e1 c o g e)
 refine ZL (gN (q2.at fun o e=>e2 _ o (by omega) (by omega) e) (t2.at fun o e=>e2 _ o (by omega) (by omega) e) hy fun r3 q2' m3=>ZO (ZO ?_))
 have m3:Heap.SameBut (n+1) r2 r3:=m3
 refine ZL (ZL (af4 ?_))
 show wpAny _ _ (Builtin.SmallTypes.nextOf (.ref (n+2)) >>= _) _ _ ⟨r3,gg,dd,t0,oo⟩
 have e3:∀(c:Nat) o,c≠n+5->c≠n->c≠n+1->h0.get? c=some o->r3.get? c=some o:=fun c o g g' g2 e=>m3.extBut c o g2 (e2 c o g g' e)
 refine ZL (gN (q3.at fun o e=>e3 _ o (by omega) (by omega) (by omega) e) (t3.at fun o e=>e3 _ o (by omega) (by omega) (by omega) e) hu fun r4 q3' m4=>ZO (ZO (ZO ?_)))
 have m4:Heap.SameBut (n+2) r3 r4:=m4
 have e4:∀(c:Nat) o,c≠n+5->c≠n->c≠n+1->c≠n+2->h0.get? c=some o->r4.get? c=some o:=fun c o g g' g2 g3 e=>m4.extBut c o g3 (e3 c o g g' g2 e)
 have sz4:r4.objs.size=h0.objs.size:=by rw[m4.1,m3.1,m2.1,sz1]
 refine ZL (wpAny_newTuple (hsz:=show(3:Nat)<=sizeLine by decide) (ZO ⟨_,rfl,?_⟩))
 show Q (.ref r4.objs.size) ⟨r4.push { cls:=.type "tuple", data:=.seq #[x,y,u] },gg,dd,t0,oo⟩
 rw[sz4]
 have pu:∀(c:Nat) o,r4.get? c=some o->(r4.push { cls:=.type "tuple", data:=.seq #[x,y,u] }).get? c=some o:=fun c o e=>ZM _ e
 have T5:fA (r4.push { cls:=.type "tuple", data:=.seq #[x,y,u] }) h0.objs.size x y u:=by rw[<- sz4];exact ZQ _ rfl
 refine go _ ⟨b1,b2,b3,?_,pu _ _ (e4 _ _ (by omega) (by omega) (by omega) (by omega) pI),⟨a,b,c,pu _ _ (e4 _ _ (by omega) (by omega) (by omega) (by omega) pO)⟩,⟨?_,?_⟩,⟨?_,?_⟩,⟨?_,?_⟩⟩ T5 ⟨g,?_⟩ (by rw[ab8,sz4]) fun c o hc e=>pu _ _ (e4 c o (by omega) (by omega) (by omega) (by omega) e)
 ·rw[ab8,sz4];exact Nat.lt_succ_of_lt szn
 ·exact q1'.at fun o e=>pu _ o (m4.extBut _ _ (by show(n:Nat)≠n+2;omega) (m3.extBut _ _ (by show(n:Nat)≠n+1;omega) e))
 ·exact t1.at fun o e=>pu _ o (e4 _ o (by omega) (by omega) (by omega) (by omega) e)
 ·exact q2'.at fun o e=>pu _ o (m4.extBut _ _ (by show(n+1:Nat)≠n+2;omega) e)
 ·exact t2.at fun o e=>pu _ o (e4 _ o (by omega) (by omega) (by omega) (by omega) e)
 ·exact q3'.at fun o e=>pu _ o e
 ·exact t3.at fun o e=>pu _ o (e4 _ o (by omega) (by omega) (by omega) (by omega) e)
 ·exact pu _ _ (m4.extBut _ _ (by show(n+5:Nat)≠n+2;omega) (m3.extBut _ _ (by show(n+5:Nat)≠n+1;omega) (m2.extBut _ _ (by show(n+5:Nat)≠n;omega) Z1)))
theorem Z3.last{Q:Fin->Shared->Prop}(hh:A.handled=none)(S:Z3 n l1 l2 l3 xs ys ws k s.heap)(hz:fU s.heap n (rawInt T) f1)(hT:s.heap.get? T=some oT)(hx:xs[k]?=none)
  (go:∀h1 e,(∀(c:Nat) o,(c<n\/n+5<c)->s.heap.get? c=some o->h1.get? c=some o)->(∃o,h1.get? e=some o/\o.cls=.type "StopIteration")->E (.ref e) { s with heap:=h1 }) :
  wpAny (model prog w) A (Builtin.«zip.__next__» ⟨[.ref (n+5)],[]⟩) Q E s:=by
 obtain⟨b1,b2,b3,sz,pI,⟨a,b,c,pO⟩,⟨q1,t1⟩,⟨q2,t2⟩,⟨q3,t3⟩⟩:=S
 obtain⟨h0,gg,dd,t0,oo⟩:=s
 show wpAny _ _ (field (.ref (n+5)) 2 >>= _) _ _ ⟨h0,gg,dd,t0,oo⟩
 refine ZL (ab4 hz rfl (x:=Value.bool false) rfl ?_)
 show wpAny _ _ (field (.ref (n+5)) 3 >>= _) _ _ ⟨h0,gg,dd,t0,oo⟩
 refine ZL (ab4 hz rfl (x:=Value.ref (n+3)) rfl (ZL (ad3 pI rfl ?_)))
 show wpAny _ _ (Builtin.SmallTypes.ownedTupleIsFree (.ref (n+5)) >>= _) _ _ ⟨h0,gg,dd,t0,oo⟩
 refine ZL (uv hz hT fun r1 g Z1 sz1 e1=>?_)
 have e1:∀(c:Nat) o,c≠n+5->h0.get? c=some o->r1.get? c=some o:=e1
 simp only[List.forIn_toArray,ag5,aj6,ah8,ak9]
 refine ZL (ZL (ZL (af4 ?_)))
 show wpAny _ _ (Builtin.SmallTypes.nextOf (.ref n) >>= _) _ _ ⟨r1,gg,dd,t0,oo⟩
 refine ZL (zn hh (q1.at fun o e=>e1 _ o (by omega) e) (t1.at fun o e=>e1 _ o (by omega) e) hx fun r2 ex m2 he=>?_)
 have m2:Heap.ExtBut n r1 r2:=m2
 exact go r2 ex (fun c o hc e=>m2 c o (by show(c:Nat)≠n;omega) (e1 c o (by omega) e)) he
theorem Z3.pyFirst{Q:Option Value->Shared->Prop}(S:Z3 n l1 l2 l3 xs ys ws k s.heap)(hz:fU s.heap n .none f1)(hx:xs[k]?=some x)(hy:ys[k]?=some y)(hu:ws[k]?=some u)
  (go:∀h1,Bq n l1 l2 l3 xs ys ws k x y u s.heap h1->Q (some (.ref s.heap.objs.size)) { s with heap:=h1 }):wpAny (model prog w) A (pyNext (.ref (n+5))) Q E s:=by
 have ty:s.TypeIs (.ref (n+5)) "zip" := ⟨_,hz,rfl⟩
 unfold pyNext
 exact ZL (ai9 (ac9 (name:=Str.ofString "__next__") ty ag0 (af3 ag0 ty F.entry_zip_next (S.first hz hx hy hu fun h1 a=>ZO (go h1 a)) (F.args_zip_next_1 _))))
theorem Z3.pyNext{Q:Option Value->Shared->Prop}(S:Z3 n l1 l2 l3 xs ys ws k s.heap)(hz:fU s.heap n (rawInt T) f1)(hT:s.heap.get? T=some oT)(hx:xs[k]?=some x)(hy:ys[k]?=some y)(hu:ws[k]?=some u)
  (go:∀h1,Z3 n l1 l2 l3 xs ys ws (k+1) h1->fA h1 s.heap.objs.size x y u->(∃g,fU h1 n (rawInt T) g)->h1.objs.size=s.heap.objs.size+1->(∀(c:Nat) o,(c<n\/n+5<c)->s.heap.get? c=some o->h1.get? c=some o)->Q (some (.ref s.heap.objs.size)) { s with heap:=h1 }):wpAny (model prog w) A (PySem.pyNext (.ref (n+5))) Q E s:=by
 have ty:s.TypeIs (.ref (n+5)) "zip" := ⟨_,hz,rfl⟩
 unfold PySem.pyNext
 exact ZL (ai9 (ac9 (name:=Str.ofString "__next__") ty ag0 (af3 ag0 ty F.entry_zip_next (S.next hz hT hx hy hu fun h1 a b c d e=>ZO (go h1 a b c d e)) (F.args_zip_next_1 _))))
theorem Z3.pyLast{Q:Option Value->Shared->Prop}(hh:A.handled=none)(S:Z3 n l1 l2 l3 xs ys ws k s.heap)(hz:fU s.heap n (rawInt T) f1)(hT:s.heap.get? T=some oT)(hx:xs[k]?=none)
  (go:∀h1,(∀(c:Nat) o,(c<n\/n+5<c)->s.heap.get? c=some o->h1.get? c=some o)->Q none { s with heap:=h1 }):wpAny (model prog w) A (PySem.pyNext (.ref (n+5))) Q E s:=by
 have ty:s.TypeIs (.ref (n+5)) "zip" := ⟨_,hz,rfl⟩
 unfold PySem.pyNext
 refine ZL (ai9 (ac9 (name:=Str.ofString "__next__") ty ag0 (af3 ag0 ty F.entry_zip_next (S.last hh hz hT hx fun h1 e kk he=>?_) (F.args_zip_next_1 _))))
 obtain⟨oe,ho,hc⟩:=he
 exact ZL (wpAny_isInstance (T := "StopIteration") (b:=true) ⟨oe,ho,hc⟩ isSubtype_stop (ZO (go h1 kk)))
end
open AutoSeq1 (wpAny_loadPart')
theorem Hr(a b c:Value):checkTypeCall "zip" ⟨[a,b,c],[]⟩=pure ():=by kernel_rfl
theorem Ht(a b c:Value):checkBuiltinCall "zip.__new__" ⟨[.type "zip", a,b,c],[]⟩=pure ():=by kernel_rfl
theorem Hu(a b c d:Value):argsOk "object.__init__" ⟨[a,b,c,d],[]⟩:=by
 unfold argsOk
 rw[signature?_of (id := "object.__init__") (n:=['_','_','t','i','n','i','_','_']) (o:=['t','c','e','j','b','o']) (by kernel_rfl) PySem.F.owner_object]
 kernel_rfl
theorem zb:typeLookup (.type "zip") "__len__" = pure none:=by rw[typeLookup_type,builtinLookup_eq_fast];kernel_rfl
theorem xl:typeLookup (.type "zip") "__length_hint__" = pure none:=by rw[typeLookup_type,builtinLookup_eq_fast];kernel_rfl
abbrev y1(h:Heap)(a:Addr):Heap:=h.push { cls:=.type "tuple_iterator", data:=.fields #[.ref a,.int 0 0] }
abbrev y2(h:Heap)(a b:Addr):Heap:=(y1 h a).push { cls:=.type "tuple_iterator", data:=.fields #[.ref b,.int 0 0] }
abbrev y3(h:Heap)(a b c:Addr):Heap:=(y2 h a b).push { cls:=.type "tuple_iterator", data:=.fields #[.ref c,.int 0 0] }
abbrev y4(h:Heap)(a b c:Addr):Heap:=(y3 h a b c).push { cls:=.type "tuple", data:=.seq #[.ref h.objs.size,.ref (y1 h a).objs.size,.ref (y2 h a b).objs.size] }
abbrev y5(h:Heap)(a b c:Addr):Heap:=(y4 h a b c).push { cls:=.type "tuple", data:=.seq #[.none,.none,.none] }
abbrev y6(h:Heap)(a b c:Addr):Heap:=(y5 h a b c).push { cls:=.type "zip", data:=.fields #[.none,.bool false,.bool false,.ref (y3 h a b c).objs.size,.ref (y4 h a b c).objs.size] }
theorem EF(a b c:Addr)(xs ys ws:Array Value) :
  Meets (Builtin.«zip.__new__» ⟨[.type "zip", .ref a,.ref b,.ref c],[]⟩) (fun _ R s=>s.heap.IsTuple a xs/\s.heap.IsTuple b ys/\s.heap.IsTuple c ws/\R (.ok (.ret (.ref (y5 s.heap a b c).objs.size))) { s with heap:=y6 s.heap a b c }) :=
 .of_wp fun pg wd AA RR st hh=>by
  obtain⟨hp0,gg,dd,tk0,oo⟩:=st;obtain⟨ha,hb,hc,hh⟩:=hh
  have hsub0:=sub_zip
  have T1:Heap.IsTuple (Shared.heap ⟨hp0,gg,dd,tk0,oo⟩) a xs:=ha
  have T2:Heap.IsTuple (Shared.heap ⟨hp0.push { cls:=.type "tuple_iterator", data:=.fields #[.ref a,.int 0 0] },gg,dd,tk0,oo⟩) b ys:=hb.at fun o e=>ZM _ e
  have T3:Heap.IsTuple (Shared.heap ⟨(hp0.push { cls:=.type "tuple_iterator", data:=.fields #[.ref a,.int 0 0] }).push { cls:=.type "tuple_iterator", data:=.fields #[.ref b,.int 0 0] },gg,dd,tk0,oo⟩) c ws:=hc.at fun o e=>ZM _ (ZM _ e)
  wp_walk using ag7 T1,ag7 T2,ag7 T3
  exact⟨_,rfl,hh⟩
section
variable{prog:Program}{A:Around}{E:Value->Shared->Prop}{s:Shared}
theorem Br{c:Addr}(ha:s.heap.IsTuple a xs)(hb:s.heap.IsTuple b ys)(hc:s.heap.IsTuple c ws)
  (go:∀h1,Z3 s.heap.objs.size a b c xs ys ws 0 h1->fU h1 s.heap.objs.size .none (.bool false)->h1.objs.size=s.heap.objs.size+6->(∀b o,s.heap.get? b=some o->h1.get? b=some o)->Q (.ref (s.heap.objs.size+5)) { s with heap:=h1 }) :
  wpAny (model prog w) A (call (.type "zip") [.ref a,.ref b,.ref c]) Q E s:=by
 refine callType_new F.called_zip (by decide) (Hr _ _ _) (Ht _ _ _) (fun ob=>Hu ob _ _ _) F.entry_zip_new (EF a b c xs ys ws) ⟨ha,hb,hc,?_⟩
 have s1:(y1 s.heap a).objs.size=s.heap.objs.size+1:=ab8 ..
 have s2:(y2 s.heap a b).objs.size=s.heap.objs.size+2:=by rw[ab8,s1]
 have s3:(y3 s.heap a b c).objs.size=s.heap.objs.size+3:=by rw[ab8,s2]
 have s4:(y4 s.heap a b c).objs.size=s.heap.objs.size+4:=by rw[ab8,s3]
 have s5:(y5 s.heap a b c).objs.size=s.heap.objs.size+5:=by rw[ab8,s4]
 have s6:(y6 s.heap a b c).objs.size=s.heap.objs.size+6:=by rw[ab8,s5]
 have p:∀{h:Heap} {o ob:Obj} {b:Addr},h.get? b=some ob->(h.push o).get? b=some ob:=fun e=>ZM _ e
 have r6:(y6 s.heap a b c).get? (y5 s.heap a b c).objs.size=some _:=ZQ _ rfl
 have r5:(y6 s.heap a b c).get? (y4 s.heap a b c).objs.size=some _:=p (ZQ _ rfl)
 have r4:(y6 s.heap a b c).get? (y3 s.heap a b c).objs.size=some _:=p (p (ZQ _ rfl))
 have r3:(y6 s.heap a b c).get? (y2 s.heap a b).objs.size=some _:=p (p (p (ZQ _ rfl)))
 have r2:(y6 s.heap a b c).get? (y1 s.heap a).objs.size=some _:=p (p (p (p (ZQ _ rfl))))
 have r1:(y6 s.heap a b c).get? s.heap.objs.size=some _:=p (p (p (p (p (ZQ _ rfl)))))
 have up:∀b' o,s.heap.get? b'=some o->(y6 s.heap a b c).get? b'=some o:=fun b' o e=>p (p (p (p (p (p e)))))
 have la:a<s.heap.objs.size:=by obtain⟨_,e,_⟩:=ha;exact ZS e
 have lb:b<s.heap.objs.size:=by obtain⟨_,e,_⟩:=hb;exact ZS e
 have lc:c<s.heap.objs.size:=by obtain⟨_,e,_⟩:=hc;exact ZS e
 rw[s3,s4,s5]at r6
 rw[s4]at r5
 rw[s1,s2,s3]at r4
 rw[s2]at r3
 rw[s1]at r2
 show _/\_
 rw[s5]
 exact⟨⟨_,r6,rfl⟩,go _ ⟨la,lb,lc,by rw[s6];exact ac5 _,r4,⟨_,_,_,r5⟩,⟨⟨_,r1,rfl,rfl⟩,ha.at fun o e=>up _ _ e⟩,⟨⟨_,r2,rfl,rfl⟩,hb.at fun o e=>up _ _ e⟩,⟨⟨_,r3,rfl,rfl⟩,hc.at fun o e=>up _ _ e⟩⟩ r6 s6 up⟩
end
section
variable{prog:Program}{A:Around}{E:Value->Shared->Prop}{s:Shared}
abbrev ji(acc:Array Value)(c:Nat):Obj:={ cls:=.type "list", dict:=none,data:=.seq acc c,slots:=#[] }
theorem mP{S I:Addr}{res:Value}{R:Result->Shared->Prop}(h:wpAny (model prog w) A.in1 (pyNext (.ref I)) (fun r s'=>match r with
      | some v => ∃acc c,s'.heap.get? S=some (ji acc c)/\acc.size+1<=sizeLine/\∀h2 c2,h2.get? S=some (ji (acc.push v) c2)->Heap.SameBut S s'.heap h2->codeAny (model prog w) A (.builtin "list.extend.loop" ⟨[.ref S,.ref I,res],[]⟩) R { s' with heap:=h2 }
      | none=>R (.ok (.ret res)) s') (fun e s'=>R (.error e) s') s):codeAny (model prog w) A (.builtin "list.extend.loop" ⟨[.ref S,.ref I,res],[]⟩) R s:=by
  refine codeAny_builtin F.entry_extend_loop ?_
  rw[Around.under_plainId F.plain_extend_loop _]
  show wpAny _ A.in1 (pyNext (.ref I) >>= _) _ _ s
  refine ZL (ag3 h (fun r s' hr=>?_) fun _ _ z=>z)
  cases r with
  | none=>exact ZO hr
  | some v =>
    obtain⟨acc,c,hS,hz,k⟩:=hr
    show wpAny _ A.in1 (updateSeq S (·.push v) >>= _) _ _ _
    refine ZL (wpAny_updateSeq hS rfl (ZO ⟨plainId_quiet F.plain_extend_loop _,k _ _ (ag1 _ hS rfl) (ag6 ..)⟩) ?_ ?_)
    . omega
    . show(acc.push v).size<=sizeLine+1
      rw[Array.size_push];omega
theorem Z3.stay{a b:Nat}(Z:Z3 n a b c xs ys ws k h)(e:∀(d:Nat) o,d≠n+6->h.get? d=some o->h'.get? d=some o)(sz:h.objs.size<=h'.objs.size):Z3 n a b c xs ys ws k h':=by
 obtain⟨b1,b2,b3,s0,ti,⟨p,q,r,to⟩,⟨q1,t1⟩,⟨q2,t2⟩,⟨q3,t3⟩⟩:=Z
 exact⟨b1,b2,b3,ZW s0 sz,e _ _ (by omega) ti,⟨p,q,r,e _ _ (by omega) to⟩,⟨q1.at fun o x=>e _ o (by omega) x,t1.at fun o x=>e _ o (by omega) x⟩,⟨q2.at fun o x=>e _ o (by omega) x,t2.at fun o x=>e _ o (by omega) x⟩,⟨q3.at fun o x=>e _ o (by omega) x,t3.at fun o x=>e _ o (by omega) x⟩⟩
theorem Ac{a b:Nat}{x0 x1 x2 y0 y1 y2 u0 u1 u2:Value}(hh:A.handled=none)(Z:Z3 n a b c #[x0,x1,x2] #[y0,y1,y2] #[u0,u1,u2] 0 s.heap)(hz:fU s.heap n .none (.bool false))(sz:s.heap.objs.size=n+6)
  (go:∀h1 m,h1.get? (n+6)=some (ji #[.ref (n+7),.ref (n+8),.ref (n+9)] m)->fA h1 (n+7) x0 y0 u0->fA h1 (n+8) x1 y1 u1->fA h1 (n+9) x2 y2 u2->(∀(d:Nat) o,d<n->s.heap.get? d=some o->h1.get? d=some o)->Q (.ref (n+6)) { s with heap:=h1 }) :
  wpAny (model prog w) A (call (.type "list") [.ref (n+5)]) Q E s:=by
 obtain⟨h0,gg,dd,t0,oo⟩:=s
 have sz:h0.objs.size=n+6:=sz
 refine callType_codes (Q₁:=fun ob s₁=>ob=.ref (n+6)/\s₁=⟨h0.push { cls:=.type "list", data:=.seq #[] },gg,dd,t0,oo⟩) F.called_list (F.typeCall_list_1 _) F.entry_list_init (code_list_new _ ⟨by show Value.ref h0.objs.size=_;rw[sz],rfl⟩) fun ob s₁ hq=>?_
 obtain⟨rfl,rfl⟩:=hq
 have hS:(h0.push { cls:=.type "list", data:=.seq #[] }).get? (n+6)=some (ji #[] 0):=by rw[<- sz];exact ZQ _ rfl
 refine⟨⟨_,hS,rfl⟩,F.args_list_init_2 _ _,?_⟩
 show wpAny _ A.in1.in1 (Builtin.List.listItems (.ref (n+6)) >>= fun old=>Builtin.List.listUpdate (.ref (n+6)) (fun _ => #[]) >>= fun _=>letGo old.toList.reverse >>= fun _=>Builtin.List.listExtendWith (.ref (n+6)) (.ref (n+5)) .none) _ _ _
 unfold Builtin.List.listItems
 refine ZL (ZL (ad3 hS rfl (ZO ?_)))
 show wpAny _ A.in1.in1 (updateSeq (n+6) (fun _ => #[]) >>= _) _ _ _
 refine ZL (wpAny_updateSeq hS rfl ?_)
 refine ZL (aj2 ?_)
 have S1:=ag1 (Obj.mapSeq (fun _=>(#[]:Array Value))) hS rfl
 generalize hr1:(h0.push { cls:=.type "list", data:=.seq #[] }).update (n+6) (Obj.mapSeq fun _=>(#[]:Array Value))=r1 at S1
 have k1:∀(d:Nat) o,d≠n+6->h0.get? d=some o->r1.get? d=some o:=fun d o g e=>by rw[<- hr1];exact(ah7 _ _ (ai0 g)).trans (ZM _ e)
 have z1:fU r1 n .none (.bool false):=k1 _ _ (by omega) hz
 have ty:Shared.TypeIs ⟨r1,gg,dd,t0,oo⟩ (.ref (n+5)) "zip" := ⟨_,z1,rfl⟩
 unfold Builtin.List.listExtendWith
 refine ZL (wpAny_typeOf ty ?_)
 have g1:Builtin.List.listSameRef (.ref (n+6)) (.ref (n+5))=false:=by simp[Builtin.List.listSameRef]
 have g2:(Value.type "zip" == Value.type "list")=false:=by decide
 have g3:(Value.type "zip" == Value.type "tuple")=false:=by decide
 simp only[g1,g2,g3,Bool.or_false,ah8,ak9]
 refine ZL (wpAny_pyIter_zip z1 (ZL (af4 ?_)))
 unfold Builtin.List.listLengthHint
 refine ZL (wpAny_specialOf ty zb ?_)
 show wpAny _ _ (specialOf (Value.ref (n+5)) (Str.ofString "__length_hint__") >>= _) _ _ _
 refine ZL (wpAny_specialOf ty xl (ZO ?_))
 show wpAny _ _ (rule "list.extend.makes-room" >>= fun _=>Builtin.List.listTouch (.ref (n+6)) >>= fun _=>again (.builtin "list.extend.loop" ⟨[.ref (n+6),.ref (n+5),.none],[]⟩)) _ _ _
 refine ZL (wpAny_rule (ZL ?_))
 show wpAny _ _ (updateSeq (n+6) (·.push .none) >>= fun _=>updateSeq (n+6) (·.pop)) _ _ _
 refine ZL (wpAny_updateSeq S1 rfl ?_)
 have S2:=ag1 (Obj.mapSeq (·.push Value.none)) S1 rfl
 refine wpAny_updateSeq (hz:=by seq_fits) S2 rfl ?_
 have S3:=ag1 (Obj.mapSeq (·.pop)) S2 rfl
 have sr1:r1.objs.size=n+7:=by rw[<- hr1];show(Heap.update _ _ _).objs.size=_;rw[(ag6 ..).1,ab8,sz]
 generalize hr3:(r1.update (n+6) (Obj.mapSeq (·.push Value.none))).update (n+6) (Obj.mapSeq (·.pop))=r3 at S3
 have S3:∃m,r3.get? (n+6)=some (ji #[] m):=⟨_,S3⟩
 have k3:∀(d:Nat) o,d≠n+6->r1.get? d=some o->r3.get? d=some o:=fun d o g e=>by rw[<- hr3];exact(ah7 _ _ (ai0 g)).trans ((ah7 _ _ (ai0 g)).trans e)
 have sr3:r3.objs.size=n+7:=by rw[<- hr3,(ag6 ..).1,(ag6 ..).1];exact sr1
 have kk:∀(d:Nat) o,d≠n+6->h0.get? d=some o->r3.get? d=some o:=fun d o g e=>k3 d o g (k1 d o g e)
 have Z0:Z3 n a b c #[x0,x1,x2] #[y0,y1,y2] #[u0,u1,u2] 0 r3:=Z.stay kk (by rw[sr3];show h0.objs.size<=_;omega)
 have z3:fU r3 n .none (.bool false):=kk _ _ (by omega) hz
 clear hr1 hr3 S1 S2
 refine ZO ⟨plainId_quiet F.plain_extend_loop _,?_⟩
 obtain⟨m3,S3⟩:=S3
 refine mP (Z3.pyFirst (s:=⟨r3,gg,dd,t0,oo⟩) Z0 z3 rfl rfl rfl fun r4 af=>?_)
 obtain⟨Z4,T4,⟨g4,z4⟩,w4,e4⟩:=af
 have T4:fA r4 r3.objs.size x0 y0 u0:=T4
 have e4:∀(d:Nat) o,(d<n\/n+5<d)->r3.get? d=some o->r4.get? d=some o:=e4
 have z4:fU r4 n (rawInt r3.objs.size) g4:=z4
 have w4:r4.objs.size=r3.objs.size+1:=w4
 rw[sr3]at T4 z4 w4
 show ∃acc m,r4.get? (n+6)=some (ji acc m)/\_
 refine⟨#[],m3,e4 _ _ (by omega) S3,by decide,fun r5 m5 S5 sb5=>?_⟩
 have sb5:Heap.SameBut (n+6) r4 r5:=sb5
 have k5:∀(d:Nat) o,d≠n+6->r4.get? d=some o->r5.get? d=some o:=fun d o g e=>sb5.extBut d o g e
 have w5:r5.objs.size=n+8:=by rw[sb5.1,w4]
 have S5:r5.get? (n+6)=some (ji #[.ref (n+7)] m5):=by rw[S5];show some (ji (#[].push (Value.ref r3.objs.size)) m5)=_;rw[sr3];rfl
 have T5:fA r5 (n+7) x0 y0 u0:=k5 _ _ (by omega) T4
 refine mP (Z3.pyNext (s:=⟨r5,gg,dd,t0,oo⟩) (Z4.stay k5 (by rw[sb5.1];exact ZP _)) (k5 _ _ (by omega) z4) T5 rfl rfl rfl fun r6 Z6 T6 z6 w6 e6=>?_)
 obtain⟨g6,z6⟩:=z6
 have T6:fA r6 r5.objs.size x1 y1 u1:=T6
 have w6:r6.objs.size=r5.objs.size+1:=w6
 have e6:∀(d:Nat) o,(d<n\/n+5<d)->r5.get? d=some o->r6.get? d=some o:=e6
 rw[w5]at T6 w6
 show ∃acc m,r6.get? (n+6)=some (ji acc m)/\_
 refine⟨#[.ref (n+7)],m5,e6 _ _ (by omega) S5,by show(2:Nat)<=sizeLine;decide,fun r7 m7 S7 sb7=>?_⟩
 have sb7:Heap.SameBut (n+6) r6 r7:=sb7
 have k7:∀(d:Nat) o,d≠n+6->r6.get? d=some o->r7.get? d=some o:=fun d o g e=>sb7.extBut d o g e
 have w7:r7.objs.size=n+9:=by rw[sb7.1,w6]
 have S7:r7.get? (n+6)=some (ji #[.ref (n+7),.ref (n+8)] m7):=by rw[S7];show some (ji (#[Value.ref (n+7)].push (Value.ref r5.objs.size)) m7)=_;rw[w5];rfl
 have T7:fA r7 (n+7) x0 y0 u0:=k7 _ _ (by omega) (e6 _ _ (by omega) T5)
 have T8:fA r7 (n+8) x1 y1 u1:=k7 _ _ (by omega) T6
 refine mP (Z3.pyNext (s:=⟨r7,gg,dd,t0,oo⟩) (Z6.stay k7 (by rw[sb7.1];exact ZP _)) (k7 _ _ (by omega) z6) T7 rfl rfl rfl fun r8 Z8 T9 z8 w8 e8=>?_)
 obtain⟨g8,z8⟩:=z8
 have T9:fA r8 r7.objs.size x2 y2 u2:=T9
 have w8:r8.objs.size=r7.objs.size+1:=w8
 have e8:∀(d:Nat) o,(d<n\/n+5<d)->r7.get? d=some o->r8.get? d=some o:=e8
 rw[w7]at T9 w8
 show ∃acc m,r8.get? (n+6)=some (ji acc m)/\_
 refine⟨#[.ref (n+7),.ref (n+8)],m7,e8 _ _ (by omega) S7,by show(3:Nat)<=sizeLine;decide,fun r9 m9 S9 sb9=>?_⟩
 have sb9:Heap.SameBut (n+6) r8 r9:=sb9
 have k9:∀(d:Nat) o,d≠n+6->r8.get? d=some o->r9.get? d=some o:=fun d o g e=>sb9.extBut d o g e
 have S9:r9.get? (n+6)=some (ji #[.ref (n+7),.ref (n+8),.ref (n+9)] m9):=by rw[S9];show some (ji (#[Value.ref (n+7),Value.ref (n+8)].push (Value.ref r7.objs.size)) m9)=_;rw[w7];rfl
 refine mP (Z3.pyLast (s:=⟨r9,gg,dd,t0,oo⟩) hh (Z8.stay k9 (by rw[sb9.1];exact ZP _)) (k9 _ _ (by omega) z8) (k9 _ _ (by omega) (e8 _ _ (by omega) T7)) rfl fun r10 e10=>?_)
 have e10:∀(d:Nat) o,(d<n\/n+5<d)->r9.get? d=some o->r10.get? d=some o:=e10
 refine⟨rfl,go r10 m9 (e10 _ _ (by omega) S9) (e10 _ _ (by omega) (k9 _ _ (by omega) (e8 _ _ (by omega) T7))) (e10 _ _ (by omega) (k9 _ _ (by omega) (e8 _ _ (by omega) T8))) (e10 _ _ (by omega) (k9 _ _ (by omega) T9)) fun d o hd e=>?_⟩
 exact e10 _ _ (by omega) (k9 _ _ (by omega) (e8 _ _ (by omega) (k7 _ _ (by omega) (e6 _ _ (by omega) (k5 _ _ (by omega) (e4 _ _ (by omega) (kk _ _ (by omega) e)))))))
end
variable{X:Cx}
theorem kG{o:HO}(x:fh P w H h)(hb:H b=none)(new:dj P w (bv H b o) h b o):fh P w (bv H b o) h:=fun c u e=>by
 by_cases hc:c=b
 ·subst hc;rw[bg]at e;cases e;exact new
 ·rw[aK hc]at e
  exact(x c u e).stay (fun d v _ r=>r) (fun d r=>by rw[aK (bU r hb)];exact r) (fun d xs r=>by rw[aK (bU r hb)];exact r)
theorem EH{fs ex:List Addr}{H':Hp}(k:∀b u,h.get? b=some u->h'.get? b=some u)(hH:∀c,c<h.objs.size->H' c=H c)(hin:∀c o,H c=some o->c<h.objs.size):Un fs ex H H' h h' where
 keep:=fun b u q _ _ _=>k b u q
 slot:=fun b u q _ _ _=>⟨u.slots,k b u q⟩
 free:=fun b u q n _=>(hH b (ZS q)).trans n
 there:=fun b u q _=>⟨u,k b u q⟩
 tups:=fun b xs r=>(hH b (hin b _ r)).trans r
 frzs:=fun b o u r=>(hH b (hin b _ r)).trans r
 tbls:=fun b ps r=>⟨#[],by rw[Array.append_empty];exact(hH b (hin b _ r)).trans r⟩
theorem sQ{a b c:V}{us:List Value}(h:aW [a,b,c] us):∃x y z,us=[x,y,z]/\bo a x/\bo b y/\bo c z:=by
 cases h with
 | cons h1 h=>cases h with
  | cons h2 h=>cases h with
   | cons h3 h=>cases h;exact⟨_,_,_,rfl,h1,h2,h3⟩
theorem sS{P:bO}{a b c:D}{vs:List V}(h:ar K H P [a,b,c] vs):∃x y z,vs=[x,y,z]/\ao K H P a x/\ao K H P b y/\ao K H P c z:=by
 rw[ar]at h
 obtain⟨x,r,rfl,h1,h⟩:=h
 rw[ar]at h
 obtain⟨y,r,rfl,h2,h⟩:=h
 rw[ar]at h
 obtain⟨z,r,rfl,h3,h⟩:=h
 rw[ar]at h
 subst h
 exact⟨x,y,z,rfl,h1,h2,h3⟩
theorem Ph{ρ:am}{f:Str}{r:Pos}{x0 x1 x2 y0 y1 y2 u0 u1 u2:D}(hc:X.calm=true)(hf:f = "list")(hg:g = "zip")(gf:Gl X f)(gg:Gl X g)(mf:X.mg f=none)(mg:X.mg g=none)
  (h:AD X ρ [e1,e2,e3] [.tup [x0,x1,x2],.tup [y0,y1,y2],.tup [u0,u1,u2]] k) (hst:∀e∈[e1,e2,e3],∀x p,e ≠ .Starred x p) (fl:aC [x0,x1,x2,y0,y1,y2,u0,u1,u2]=true) :
  ED X ρ (.Call (.Name f p) [.Call (.Name g q) [e1,e2,e3] [] r] [] t) (.lst [.tup [x0,y0,u0],.tup [x1,y1,u1],.tup [x2,y2,u2]]) 0:=by
 intro ow pins s σ H Q I ⟨E,qq⟩
 subst hf hg
 refine af1 (gw I gf mf (u:=.type "list") (by decide +kernel) ?_ (by decide +kernel) (by decide +kernel))
 refine ae9 (Calls.spliced_cons (af1 (gw I gg mg (u:=.type "zip") (by decide +kernel) ?_ (by decide +kernel) (by decide +kernel)))) rfl rfl
 have n1:=bN (env:=X.env) (es:=[e2,e3]) (hst e1 ZV)
 have n2:(backTo r (starEach [e2,e3] X.env)).any (·.1)=false:=cV fun x hx=>hst x (ZR _ hx)
 refine ae9 (be (h ow r pins s σ H _ I ⟨E,fun vs H1 s1 r1=>(show(fun vs H1=>aJ H H1/\ar X.K H1 (Kp ow H k) [.tup [x0,x1,x2],.tup [y0,y1,y2],.tup [u0,u1,u2]] vs) vs H1 from⟨s1,r1⟩)⟩) fun us s1 ⟨vs,H1,I1,rv,sm,rp⟩=>?_) n1 n2
 obtain⟨v1,v2,v3,rfl,r1,r2,r3⟩:=sS rp
 obtain⟨w1,w2,w3,rfl,q1,q2,q3⟩:=sQ rv
 rw[ao]at r1
 rw[ao]at r2
 rw[ao]at r3
 obtain⟨a,va,rfl,sa,ra⟩:=r1
 obtain⟨b,vb,rfl,sb,rb⟩:=r2
 obtain⟨c,vc,rfl,sc,rc⟩:=r3
 cases (show w1=Value.ref a from q1)
 cases (show w2=Value.ref b from q2)
 cases (show w3=Value.ref c from q3)
 obtain⟨a0,a1,a2,rfl,ra0,ra1,ra2⟩:=sS ra
 obtain⟨b0,b1,b2,rfl,rb0,rb1,rb2⟩:=sS rb
 obtain⟨c0,c1,c2,rfl,rc0,rc1,rc2⟩:=sS rc
 obtain⟨ia,va,ta,_⟩:=I1.tuple sa
 obtain⟨ib,vb,tb,_⟩:=I1.tuple sb
 obtain⟨ic,vc,tc,_⟩:=I1.tuple sc
 obtain⟨i0,i1,i2,rfl,ja0,ja1,ja2⟩:=sQ va
 obtain⟨k0,k1,k2,rfl,jb0,jb1,jb2⟩:=sQ vb
 obtain⟨m0,m1,m2,rfl,jc0,jc1,jc2⟩:=sQ vc
 have isT:∀{h:Heap} {a:Addr} {xs:Array Value},IsTup h a xs->h.IsTuple a xs:=fun⟨o,e,c,n,d⟩=>⟨o,e,c,n,d⟩
 have hh:X.A.handled=none:=I.ok.hd hc
 refine Br (isT ta) (isT tb) (isT tc) fun h2 Z z sz kp=>?_
 refine Calls.spliced_nil ?_
 refine Ac (s:={ s1 with heap:=h2 }) hh Z z sz fun h3 m S3 T0 T1 T2 kp2=>?_
 have kk:∀b o,s1.heap.get? b=some o->h3.get? b=some o:=fun b o e=>kp2 b o (ZS e) (kp b o e)
 have fr:∀j:Nat,H1 (s1.heap.objs.size+j)=none:=fun j=>I1.hok.fresh (Nat.le_add_right _ _)
 obtain⟨hp,gs,dr,tk,os⟩:=s1
 have kk:∀b o,hp.get? b=some o->h3.get? b=some o:=kk
 generalize hn:hp.objs.size=n at *
 have ob:∀{H:Hp} {a:Addr} {v1 v2 v3:V} {w1 w2 w3:Value},bo v1 w1->bo v2 w2->bo v3 w3->fA h3 a w1 w2 w3->dj X.prog X.w H h3 a (.tup [v1,v2,v3]):=fun r1 r2 r3 e=>⟨by show(3:Nat)<=sizeLine;decide,[_,_,_],.cons r1 (.cons r2 (.cons r3 .nil)),_,e,rfl,_,rfl⟩
 have ne:∀{i j:Nat},i≠j->n+i≠n+j:=fun h=>by omega
 have hk0:fh X.prog X.w H1 h3:=I1.hok.kept kk
 have hk1:=kG hk0 (fr 7) (ob (H:=bv H1 (n+7) (.tup [a0,b0,c0])) ja0 jb0 jc0 T0)
 have hk2:=kG hk1 (b:=n+8) (by rw[aK (ne (by decide))];exact fr 8) (ob (H:=bv (bv H1 (n+7) (.tup [a0,b0,c0])) (n+8) (.tup [a1,b1,c1])) ja1 jb1 jc1 T1)
 have hk3:=kG hk2 (b:=n+9) (by rw[aK (ne (by decide)),aK (ne (by decide))];exact fr 9) (ob (H:=bv (bv (bv H1 (n+7) (.tup [a0,b0,c0])) (n+8) (.tup [a1,b1,c1])) (n+9) (.tup [a2,b2,c2])) ja2 jb2 jc2 T2)
 have hk4:=kG hk3 (b:=n+6) (o:=.lst [.ref (n+7),.ref (n+8),.ref (n+9)]) (by rw[aK (ne (by decide)),aK (ne (by decide)),aK (ne (by decide))];exact fr 6) ⟨by show(3:Nat)<=sizeLine;decide,[_,_,_],m,.cons rfl (.cons rfl (.cons rfl .nil)),S3⟩
 generalize hH:bv (bv (bv (bv H1 (n+7) (.tup [a0,b0,c0])) (n+8) (.tup [a1,b1,c1])) (n+9) (.tup [a2,b2,c2])) (n+6) (.lst [.ref (n+7),.ref (n+8),.ref (n+9)])=H4 at hk4
 have g6:H4 (n+6)=some (.lst [.ref (n+7),.ref (n+8),.ref (n+9)]):=by rw[<- hH];exact bg
 have g9:H4 (n+9)=some (.tup [a2,b2,c2]):=by rw[<- hH,aK (ne (by decide))];exact bg
 have g8:H4 (n+8)=some (.tup [a1,b1,c1]):=by rw[<- hH,aK (ne (by decide)),aK (ne (by decide))];exact bg
 have g7:H4 (n+7)=some (.tup [a0,b0,c0]):=by rw[<- hH,aK (ne (by decide)),aK (ne (by decide)),aK (ne (by decide))];exact bg
 have old:∀c:Nat,c<n->H4 c=H1 c:=fun c hc=>by rw[<- hH,aK (by show(c:Nat)≠n+6;omega),aK (by show(c:Nat)≠n+9;omega),aK (by show(c:Nat)≠n+8;omega),aK (by show(c:Nat)≠n+7;omega)]
 have inn:∀(c:Nat) o,H1 c=some o->c<n:=fun c o e=>by
  rcases Nat.lt_or_ge c n with z|z
  ·exact z
  ·have:=fr (c-n);rw[Nat.add_sub_cancel' z]at this;rw[this]at e;cases e
 have s4:aJ H1 H4:=fun c o e=>(old c (inn c o e)).trans e
 have I4:Inv X pins σ H4 ⟨h3,gs,dr,tk,os⟩:=I1.un (t':=tk) (EH kk (fun c hc=>old c (by rw[<- hn];exact hc)) fun c o e=>by rw[hn];exact inn c o e) hk4
 refine⟨.ref (n+6),H4,I4,rfl,qq _ H4 (sm.trans s4) ?_⟩
 simp only[aC,ZZ,Bool.true_and,and_true]at fl
 obtain⟨fx0,fx1,fx2,fy0,fy1,fy2,fu0,fu1,fu2⟩:=fl
 have rt:∀{a:Addr} {v1 v2 v3:V} {d1 d2 d3:D} {P P':bO},H4 a=some (.tup [v1,v2,v3])->ao X.K H1 P d1 v1->ao X.K H1 P d2 v2->ao X.K H1 P d3 v3->d1.lless=true->d2.lless=true->d3.lless=true->ao X.K H4 P' (.tup [d1,d2,d3]) (.ref a):=fun e r1 r2 r3 f1 f2 f3=>by
  rw[ao]
  exact⟨_,_,rfl,dh.of e,ar.cons ((r1.same s4).flat _ f1) (ar.cons ((r2.same s4).flat _ f2) (ar.cons ((r3.same s4).flat _ f3) ar.nil))⟩
 rw[ao]
 exact⟨n+6,_,true,rfl,g6,⟨rfl,sm.free (fr 6)⟩,ar.cons (rt g7 ra0 rb0 rc0 fx0 fy0 fu0) (ar.cons (rt g8 ra1 rb1 rc1 fx1 fy1 fu1) (ar.cons (rt g9 ra2 rb2 rc2 fx2 fy2 fu2) ar.nil))⟩
theorem qj{Φ:Fx}{sc:Scope}{H0:Hp}{fl:Fl}{rest:List Stmt}(G:bz Φ X sc)(hp:PassesOwn (model X.prog X.w) X.A X.env X.xe):∀{pre:List Stmt} {ρ ρ1:am},ag (aH Φ pre sc ρ) (.nx ρ1)->iw X H0 ρ1 rest fl->iw X H0 ρ (pre++rest) fl
 | [],ρ,ρ1,h,k=>by cases aV h;exact k
 | st::ss,ρ,ρ1,h,k=>by
  obtain⟨f1,h1,h2⟩:=az (show ag (Rs.bnd _ _) _ from h)
  cases f1 with
  | nx ρ'=>exact gO ((oU Φ _).s st (ac5 _) h1 G hp) (qj G hp h2 k)
  | rt d=>cases aV h2
  | bk ρ'=>cases aV h2
  | ct ρ'=>cases aV h2
def Hv(ds:List D):Rs D :=
 match ds with
 | [.tup [x0,x1,x2],.tup [y0,y1,y2],.tup [u0,u1,u2]]=>.ok (.lst [.tup [x0,y0,u0],.tup [x1,y1,u1],.tup [x2,y2,u2]]) [aC [x0,x1,x2,y0,y1,y2,u0,u1,u2]=true]
 | _=>.st
def Kl:Stmt->List Expr
 | .Assign _ (.Call _ [.Call _ es _ _] _ _) _=>es
 | _=>[]
def Kk:Stmt->Str
 | .Assign [.Name x _] _ _=>x
 | _ => ""
def kB(Φ:Fx)(sc:Scope)(ps:List Str)(pre:List Stmt)(es:List Expr)(x:Str)(post:List Stmt)(ds:List D):Rs D :=
 if ds.length=ps.length then(aH Φ pre sc (fj ps ds)).bnd fun
  | .nx ρ1=>(ck Φ es sc ρ1).bnd fun q=>(Hv q.1).bnd fun d=>(aH Φ post sc (bT ρ1 x (d,true))).bnd fun
   | .rt r=>.ok r []
   | _=>.st
  | _=>.st
 else .st
theorem GH{qual:Str}{st:Stmt}{n1 n2:Str}{pf pg rr:Pos}(Fn:ky K g qual st f fd)
  (S:aA (au (ae st)) ps (ae st)) (hΦ:nG P w K mg base k Φ) (hb:ak st=pre ++ .Assign [.Name x p] (.Call (.Name n1 pf) [.Call (.Name n2 pg) [e1,e2,e3] [] rr] [] t) q::post) (hn1:n1 = "list") (hn2:n2 = "zip")
  (gf:(ae st).names.lookup n1=some .globalImplicit) (gg:(ae st).names.lookup n2=some .globalImplicit) (hx:dE (ae st) x=true):cu P w K mg base eO (k+1) f fd ps (lg K (kB Φ (ae st) ps pre [e1,e2,e3] x post)):=by
 refine Fn.ok S (fun vs H Q E h=>?_) (fun cdv A outer s H vs Q E hr h=>?_)
 ·obtain⟨ds,r,l,h1,h2,hp,_⟩:=h
  unfold kB at h2
  split at h2
  ·rename_i hl;rw[<- h1.length];exact hl
  ·cases h2
 ·obtain⟨ds,r,l,h1,h2,hp,qq⟩:=h
  have h2:ag (kB Φ (ae st) ps pre [e1,e2,e3] x post ds) r:=⟨l,h2,hp⟩
  unfold kB at h2
  split at h2
  ·rename_i hl
   have G:=jU (outer:=outer) (H:=H) (E:=E) S hΦ hr
   obtain⟨E0,hsl⟩:=ma (P:=P) (w:=w) (mg:=mg) (base:=base) (qual:=qual) (f:=f) (cdv:=cdv) (A:=A) (outer:=outer) (s:=s) (E:=E) S h1 hl
   have B0:d7 H (fun _=>none) H:=fun a o h=>⟨h,rfl⟩
   obtain⟨fl,h3,h4⟩:=az h2
   cases fl with
   | nx ρ1 =>
    obtain⟨qv,h5,h6⟩:=az h4
    obtain⟨d,h7,h8⟩:=az h6
    obtain⟨fl,h9,h10⟩:=az h8
    cases fl with
    | rt d' =>
     cases aV h10
     obtain⟨qs,qk⟩:=qv
     obtain⟨lz,h7,p7⟩:=h7
     unfold Hv at h7
     split at h7
     ·rename_i x0 x1 x2 y0 y1 y2 u0 u1 u2 heq
      cases h7
      have heq:qs=_:=heq
      subst heq
      obtain⟨l5,h5,p5⟩:=h5
      obtain⟨hst,_⟩:=dJ h5 p5
      have ad:=j7 [e1,e2,e3] h5 p5 G
      have ed:=Ph (p:=pf) (q:=pg) (r:=rr) (t:=t) G.calm hn1 hn2 (G.gl n1 gf) (G.gl n2 gg) (by subst hn1;exact G.bl _ (by decide +kernel)) (by subst hn2;exact G.bl _ (by decide +kernel)) ad hst p7.1
      have sd:=oA (p:=p) (pos:=q) (H0:=H) G hx ed (.inl ⟨rfl,rfl⟩) (jw rfl)
      rw[hb]
      exact⟨_,qj G PassesOwn.never h3 (gO sd (lX post (H0:=H) h9 G PassesOwn.never)),fun _=>none,E0,hsl,B0,fun v H' sm rp=>qq v H' sm rp⟩
     ·cases h7
    | nx _=>exact(aw h10).elim
    | bk _=>exact(aw h10).elim
    | ct _=>exact(aw h10).elim
   | rt _=>exact(aw h4).elim
   | bk _=>exact(aw h4).elim
   | ct _=>exact(aw h4).elim
  ·exact(aw h2).elim
theorem uY{F:List D->Rs D}(h:cu P w K mg base eO k f fd ps (lg K F))(hm:mg g=some (.ref f))(hk:W.keepIn K (.ref f)=true)(hb:dk K fd ps [])(hd:(g==("__debug__" : Str))=false):bV P w K mg base k g F :=
 ⟨f,fd,ps,h,hm,hk,hb,hd⟩
theorem JI{sc:Scope}{es:List Expr}{ds qs:List D}{ρ1:am}{d r:D}(hl:ds.length=ps.length)(h1:ag (aH Φ pre sc (fj ps ds)) (.nx ρ1))(h2:ag (ck Φ es sc ρ1) (qs,k))(h3:ag (Hv qs) d)(h4:ag (aH Φ post sc (bT ρ1 x (d,true))) (.rt r)):ag (kB Φ sc ps pre es x post ds) r:=by
 unfold kB
 rw[if_pos hl]
 exact ag.bnd h1 (ag.bnd h2 (ag.bnd h3 (ag.bnd h4 ⟨[],rfl,True.intro⟩)))
end Sp
namespace K
open PySem PySem.Spec PyProof.Rows L2 Sp Qm
variable{c:Int}{k:Nat}
structure T9 where
 n:Int
 a:Int
 b:Int
 c:Int
 d:Int
 e:Int
 f:Int
 g:Int
 h:Int
 i:Int
noncomputable def T9.l(T:T9):List Int:=[T.n,T.a,T.b,T.c,T.d,T.e,T.f,T.g,T.h,T.i]
noncomputable def T9.D(T:T9):D:=.tup [.int T.n,.tup [d3 T.a T.b T.c,d3 T.d T.e T.f,d3 T.g T.h T.i]]
noncomputable def T9.map(f:Int->Int)(T:T9):T9:=⟨f T.n,f T.a,f T.b,f T.c,f T.d,f T.e,f T.f,f T.g,f T.h,f T.i⟩
theorem T9.l_map(f:Int->Int)(T:T9):(T.map f).l=T.l.map f:=rfl
noncomputable def T9.low(T:T9):T9:=T.map fun x=>x.fdiv (gI T.l)
noncomputable def T9.bh(A B:T9):T9:=⟨A.n*B.n,bD A.a A.d A.g B.a B.b B.c,bD A.b A.e A.h B.a B.b B.c,bD A.c A.f A.i B.a B.b B.c,bD A.a A.d A.g B.d B.e B.f,bD A.b A.e A.h B.d B.e B.f,bD A.c A.f A.i B.d B.e B.f,bD A.a A.d A.g B.g B.h B.i,bD A.b A.e A.h B.g B.h B.i,bD A.c A.f A.i B.g B.h B.i⟩
theorem T9.ext{A B:T9}(h:A.l=B.l):A=B:=by
 cases A;cases B
 simp only[T9.l,List.cons.injEq,and_true]at h
 obtain⟨h0,h1,h2,h3,h4,h5,h6,h7,h8,h9⟩:=h
 subst h0 h1 h2 h3 h4 h5 h6 h7 h8 h9
 rfl
theorem T9.bh_l(c:Int)(A B:T9):(A.map (c * ·)).bh B=(A.bh B).map (c * ·):=by
 unfold T9.bh T9.map bD
 congr 1<;>grind
theorem T9.bh_r(c:Int)(A B:T9):A.bh (B.map (c * ·))=(A.bh B).map (c * ·):=by
 unfold T9.bh T9.map bD
 congr 1<;>grind
theorem T9.mem_n(T:T9):T.n∈T.l:=by simp[T9.l]
theorem T9.gpos{T:T9}(h:0<T.n):0<gI T.l:=oZ T.mem_n (by omega)
theorem T9.cut{T:T9}(h:0<T.n):T=T.low.map (gI T.l * ·):=by
 have k:=fun m hm=>jW (m:=m) T.mem_n (show T.n≠0 by omega) hm
 apply T9.ext
 show T.l=(T.low.map (gI T.l * ·)).l
 rw[T9.l_map,T9.low,T9.l_map,ah9]
 conv=>lhs;rw[<- List.map_id T.l]
 exact List.map_congr_left fun m hm=>k m hm
theorem T9.lown{T:T9}(h:0<T.n):0<T.low.n:=Cv (T9.gpos h) h (jW T.mem_n (by omega) T.mem_n)
theorem T9.low_mul(hc:0<c){T:T9}(h:0<T.n):(T.map (c * ·)).low=T.low:=by
 have g:=T9.gpos h
 unfold T9.low
 rw[T9.l_map,uV hc]
 unfold T9.map
 simp only[yo hc g]
theorem T9.bhn{A B:T9}(ha:0<A.n)(hb:0<B.n):0<(A.bh B).n:=ac8 ha hb
theorem T9.low_l{A B:T9}(ha:0<A.n)(hb:0<B.n):(A.low.bh B).low=(A.bh B).low:=by
 have e:A.bh B=(A.low.bh B).map (gI A.l * ·):=by rw[<- T9.bh_l,<- T9.cut ha]
 rw[e,T9.low_mul (T9.gpos ha) (T9.bhn (T9.lown ha) hb)]
theorem T9.low_r{A B:T9}(ha:0<A.n)(hb:0<B.n):(A.bh B.low).low=(A.bh B).low:=by
 have e:A.bh B=(A.bh B.low).map (gI B.l * ·):=by rw[<- T9.bh_r,<- T9.cut hb]
 rw[e,T9.low_mul (T9.gpos hb) (T9.bhn ha (T9.lown hb))]
noncomputable def T9.bd(k:Nat)(T:T9):Prop:=∀x∈T.l,x.natAbs<=2 ^ k
theorem T9.bd_low{T:T9}(h:0<T.n)(b:T.bd k):T.low.bd k:=by
 intro x hx
 rw[T9.low,T9.l_map]at hx
 obtain⟨y,hy,rfl⟩:=ae2.mp hx
 exact ZN (qS (T9.gpos h)) (b y hy)
theorem T9.bd_bh{A B:T9}{m:Nat}(ha:A.bd k)(hb:B.bd m):(A.bh B).bd (k+m+2):=by
 have a:=fun x (h:x∈A.l)=>ha x h
 have b:=fun x (h:x∈B.l)=>hb x h
 intro x hx
 simp only[T9.l,T9.bh,ZT,ab3,ae5]at hx
 rcases hx with rfl|rfl|rfl|rfl|rfl|rfl|rfl|rfl|rfl|rfl
 ·rw[ab9]
  exact ZN (ac6 (a _ A.mem_n) (b _ B.mem_n)) (by rw[<- ae8];exact aa6 (by decide) (by omega))
 all_goals exact Lr (a _ (by simp[T9.l])) (a _ (by simp[T9.l])) (a _ (by simp[T9.l])) (b _ (by simp[T9.l])) (b _ (by simp[T9.l])) (b _ (by simp[T9.l]))
theorem T9.okT{T:T9}(hk:k<=999)(b:T.bd k):okT (T.l.map D.int):=lO (k:=k) hk (ab2 rfl) b
theorem T9.eqD(T:T9):Sp.eqD T.D T.D=true:=by
 unfold T9.D
 show((_==_&&(((_==_&&(_==_&&(_==_&&true)))&&((_==_&&(_==_&&(_==_&&true)))&&((_==_&&(_==_&&(_==_&&true)))&&true)))&&true)):Bool)=true
 simp
theorem rg{x y:Int}(hc:0<c)(h:c*x=c*y):x=y:=Int.eq_of_mul_eq_mul_left (by omega) h
end K
namespace K
open PySem L2 Sp Qm
variable{p q:Qd}{k:Int}
noncomputable def tq(q:Qd):T9:=⟨n4 q.1 q.2.1 q.2.2.1 q.2.2.2,dg q.1 q.2.1 q.2.2.1 q.2.2.2,c9 q.1 q.2.1 q.2.2.1 q.2.2.2,cZ q.1 q.2.1 q.2.2.1 q.2.2.2,cP q.1 q.2.1 q.2.2.1 q.2.2.2,cY q.1 q.2.1 q.2.2.1 q.2.2.2,cK q.1 q.2.1 q.2.2.1 q.2.2.2,cJ q.1 q.2.1 q.2.2.1 q.2.2.2,cI q.1 q.2.1 q.2.2.1 q.2.2.2,cX q.1 q.2.1 q.2.2.1 q.2.2.2⟩
theorem zj(p q:Qd):tq (aI p q)=(tq q).bh (tq p):=by
 obtain⟨a,b,c,d⟩:=p
 obtain⟨e,f,g,h⟩:=q
 unfold tq T9.bh
 simp only[aI,n4,dg,c9,cZ,cP,cY,cK,cJ,cI,cX,bD]
 congr 1<;>grind
theorem wz(k:Int)(q:Qd):tq (k*q.1,k*q.2.1,k*q.2.2.1,k*q.2.2.2)=(tq q).map (k*k * ·):=by
 obtain⟨a,b,c,d⟩:=q
 unfold tq T9.map
 simp only[n4,dg,c9,cZ,cP,cY,cK,cJ,cI,cX]
 congr 1<;>grind
noncomputable def kq(k:Int)(q:Qd):Qd:=(k*q.1,k*q.2.1,k*q.2.2.1,k*q.2.2.2)
noncomputable def oH(q:Qd):Prop:=¬ (q.1=0/\q.2.1=0/\q.2.2.1=0/\q.2.2.2=0)
theorem fV(h:oH q):0<(tq q).n:=uw h
theorem zI(hp:oH p)(hq:oH q):oH (aI p q):=fun z=>by
 have e:=ad4 T9.n (zj p q)
 have k:(tq (aI p q)).n=0:=by
  obtain⟨z1,z2,z3,z4⟩:=z
  show n4 (aI p q).1 (aI p q).2.1 (aI p q).2.2.1 (aI p q).2.2.2=0
  rw[z1,z2,z3,z4];rfl
 rw[k]at e
 have:0<(tq q).n*(tq p).n:=ac8 (fV hq) (fV hp)
 exact absurd (show(tq q).n*(tq p).n=0 from e.symm) (by omega)
theorem uM(k l:Int)(p q:Qd):aI (kq k p) (kq l q)=kq (k*l) (aI p q):=by
 obtain⟨a,b,c,d⟩:=p
 obtain⟨e,f,g,h⟩:=q
 unfold kq aI
 refine jN ?_ ?_ ?_ ?_<;>simp only<;>grind
theorem x9(k l:Int)(q:Qd):kq k (kq l q)=kq (k*l) q:=by
 unfold kq
 refine jN ?_ ?_ ?_ ?_<;>simp only[ZU]
theorem FU(a b c d:Int):aI (a,-b,-c,-d) (a,b,c,d)=kq (n4 a b c d) (1,0,0,0)/\aI (a,b,c,d) (a,-b,-c,-d)=kq (n4 a b c d) (1,0,0,0):=by
 unfold kq aI n4
 constructor<;>refine jN ?_ ?_ ?_ ?_<;>simp only<;>grind
theorem zJ(p q r:Qd):aI (aI p q) r=aI p (aI q r):=by
 obtain⟨a,b,c,d⟩:=p
 obtain⟨e,f,g,h⟩:=q
 obtain⟨i,j,k,l⟩:=r
 unfold aI
 refine jN ?_ ?_ ?_ ?_<;>simp only<;>grind
theorem FT(q:Qd):aI q (1,0,0,0)=q/\aI (1,0,0,0) q=q:=by
 obtain⟨a,b,c,d⟩:=q
 unfold aI
 constructor<;>refine jN ?_ ?_ ?_ ?_<;>simp only<;>grind
theorem DQ(hk:k≠0)(a b c d:Int):cf (k*a) (k*b) (k*c) (k*d)=k*cf a b c d:=by
 have z:∀x:Int,k*x=0↔x=0:=fun x=>⟨fun h=>by rcases ab0.mp h with e|e;exact absurd e hk;exact e,fun h=>by rw[h,ae6]⟩
 unfold cf
 simp only[z,ne_eq]
 repeat' split
 all_goals first|rfl|contradiction|skip
theorem rP{l:Int}(hk:k≠0)(hl:l≠0)(pp:Pm p.1 p.2.1 p.2.2.1 p.2.2.2)(pq:Pm q.1 q.2.1 q.2.2.1 q.2.2.2)(e:kq k p=kq l q):p=q:=by
 have e1:k*p.1=l*q.1:=ad4 (·.1) e
 have e2:k*p.2.1=l*q.2.1:=ad4 (·.2.1) e
 have e3:k*p.2.2.1=l*q.2.2.1:=ad4 (·.2.2.1) e
 have e4:k*p.2.2.2=l*q.2.2.2:=ad4 (·.2.2.2) e
 have a1:=oS hk pp
 have a2:=oS hl pq
 rw[e1,e2,e3,e4,a2]at a1
 have b1:=DQ hk p.1 p.2.1 p.2.2.1 p.2.2.2
 have b2:=DQ hl q.1 q.2.1 q.2.2.1 q.2.2.2
 rw[e1,e2,e3,e4,b2]at b1
 have kl:k=l:=by
  rcases(show k=l\/k = -l by omega)with h|h
  ·exact h
  ·exfalso
   have x:=pp.pos;have y:=pq.pos
   rw[h,Int.neg_mul]at b1
   rcases(show 0<l\/l<0 by omega)with z|z
   ·have:=ac8 z x;have:=ac8 z y;omega
   ·have:=ag9 z x;have:=ag9 z y;omega
 subst kl
 have c:∀{x y:Int},k*x=k*y->x=y:=fun h=>Int.eq_of_mul_eq_mul_left hk h
 exact jN (c e1) (c e2) (c e3) (c e4)
noncomputable def T9.dx(T:T9)(x y z:Int):Int:=bD T.a T.b T.c x y z
noncomputable def T9.dy(T:T9)(x y z:Int):Int:=bD T.d T.e T.f x y z
noncomputable def T9.dz(T:T9)(x y z:Int):Int:=bD T.g T.h T.i x y z
theorem OA(c:Int)(T:T9)(x y z:Int):(T.map (c * ·)).dx x y z=c*T.dx x y z/\(T.map (c * ·)).dy x y z=c*T.dy x y z/\(T.map (c * ·)).dz x y z=c*T.dz x y z:=by
 unfold T9.dx T9.dy T9.dz T9.map
 simp only[bD]
 refine⟨?_,?_,?_⟩<;>grind
theorem jS(q:Qd):kq 1 q=q:=by unfold kq;simp
noncomputable def sv(q:Qd):Qd:=(q.1,-q.2.1,-q.2.2.1,-q.2.2.2)
theorem Ha(k:Int)(q:Qd):aI (kq k (sv q)) q=kq (k*(tq q).n) (1,0,0,0)/\aI q (kq k (sv q))=kq (k*(tq q).n) (1,0,0,0):=by
 obtain⟨a,b,c,d⟩:=q
 obtain⟨h1,h2⟩:=FU a b c d
 have e1:=uM k 1 (sv (a,b,c,d)) (a,b,c,d)
 have e2:=uM 1 k (a,b,c,d) (sv (a,b,c,d))
 rw[jS]at e1 e2
 rw[e1,e2]
 constructor
 ·show kq (k*1) (aI (a,-b,-c,-d) (a,b,c,d))=_
  rw[h1,x9,al9];rfl
 ·show kq (1*k) (aI (a,b,c,d) (a,-b,-c,-d))=_
  rw[h2,x9,Int.one_mul];rfl
theorem zH:Pm 1 0 0 0:=⟨by decide +kernel,by decide⟩
end K
namespace Sp
open PySem PySem.Spec PyProof.Rows L2
variable{X:Cx}
end Sp
namespace K
open PySem L2 Sp Qm
variable{s:Stmt}{P Q:am->Prop}{B M b m p:Nat}{A C E F g k n w x y:Int}{q:Qd}{Φ:Fx}{sc:Scope}{ρ:am}{body:List Stmt}{R:D->Prop}
section
variable{ρ1:am}{ss:List Stmt}
theorem J9(h:∃ρ1,ag (eI Φ s sc ρ) (.nx ρ1)/\P ρ1)(k:∀ρ1,P ρ1->∃ρ2,ag (aH Φ ss sc ρ1) (.nx ρ2)/\Q ρ2):∃ρ2,ag (aH Φ (s::ss) sc ρ) (.nx ρ2)/\Q ρ2:=by
 obtain⟨ρ1,h1,h2⟩:=h
 obtain⟨ρ2,h3,h4⟩:=k ρ1 h2
 exact⟨ρ2,aX h1 h3,h4⟩
theorem Oe(h:ag (eI Φ s sc ρ) (.nx ρ1))(k:∃ρ2,ag (aH Φ ss sc ρ1) (.nx ρ2)/\Q ρ2):∃ρ2,ag (aH Φ (s::ss) sc ρ) (.nx ρ2)/\Q ρ2:=by
 obtain⟨ρ2,h3,h4⟩:=k
 exact⟨ρ2,aX h h3,h4⟩
end
noncomputable abbrev V3:=Int×Int×Int
noncomputable abbrev dv(v:V3):D:=d3 v.1 v.2.1 v.2.2
noncomputable def pr(p:Nat)(v:V3):Int:=match p with
 | 0=>v.1
 | 1=>v.2.1
 | _=>v.2.2
theorem DG(hp:p<3)(v:V3):L2.atI [.int v.1,.int v.2.1,.int v.2.2] (p:Int)=some (D.int (pr p v)):=by
 match p,hp with
 | 0,_=>rfl
 | 1,_=>rfl
 | 2,_=>rfl
noncomputable def sb(u v:V3)(k:Int):V3:=(u.1-v.1*k,u.2.1-v.2.1*k,u.2.2-v.2.2*k)
theorem kC(p:Nat)(u v:V3)(k:Int):pr p (sb u v k)=pr p u-pr p v*k:=by
 unfold pr sb;split<;>rfl
structure Sg(P:V3->Prop):Prop where
 zero:P (0,0,0)
 step:∀u v k,P u->P v->P (sb u v k)
theorem Sg.back{P:V3->Prop}(h:Sg P){u v:V3}(h1:P (sb u v k))(h2:P v):P u:=by
 have:=h.step _ v (-k) h1 h2
 have e:sb (sb u v k) v (-k)=u:=by
  obtain⟨a,b,c⟩:=u
  simp only[sb,Prod.mk.injEq]
  refine⟨by grind,by grind,by grind⟩
 rwa [e]at this
noncomputable def eh(B:Nat)(v:V3):Prop:=∀p,(pr p v).natAbs<=2 ^ B
theorem eh.all{v:V3}(h:eh B v):v.1.natAbs<=2 ^ B/\v.2.1.natAbs<=2 ^ B/\v.2.2.natAbs<=2 ^ B:=⟨h 0,h 1,h 2⟩
theorem eJ{v:V3}(h:v.1.natAbs<=2 ^ B/\v.2.1.natAbs<=2 ^ B/\v.2.2.natAbs<=2 ^ B):eh B v:=fun p=>by
 unfold pr;split
 ·exact h.1
 ·exact h.2.1
 ·exact h.2.2
theorem eh.mono{C:Nat}{v:V3}(h:eh B v)(g:B<=C):eh C v:=fun p=>ZN (h p) (aa6 (by decide) g)
noncomputable def nb(B b:Nat):Nat:=max B b+b+2
structure mr(p:Nat)(l r:V3)(M:Nat):Prop where
 ne:pr p l≠0
 sg:∃(s:Bool) (a b:Nat),pr p l=jf s a/\pr p r=jf s b/\b<a
 pot:∀c,(pr c l).natAbs*(pr p r).natAbs+(pr c r).natAbs*(pr p l).natAbs<=M
 bl:∀c,(pr c l).natAbs<=M
 br:∀c,(pr c r).natAbs<=M
theorem NU(s:Bool){a:Nat}(h:b≠0):(jf s a).fdiv (jf s b)=((a / b:Nat):Int):=by
 cases s
 ·show(a:Int).fdiv (b:Int)=_
  rw[Int.fdiv_eq_ediv_of_nonneg _ (by omega)];rfl
 ·show(-(a:Int)).fdiv (-(b:Int))=_
  rw[Int.neg_fdiv_neg,Int.fdiv_eq_ediv_of_nonneg _ (by omega)];rfl
theorem kK(x y:Int):x.fmod y=x-y*x.fdiv y:=by rw[Int.fmod_def]
theorem mr.next{l r:V3}(h:mr p l r M)(h0:pr p r≠0):mr p r (sb l r ((pr p l).fdiv (pr p r))) M:=by
 obtain⟨s,a,b,ea,eb,hlt⟩:=h.sg
 have b0:b≠0:=fun z=>h0 (by rw[eb,z];cases s<;>rfl)
 have hq:(pr p l).fdiv (pr p r)=((a / b:Nat):Int):=by rw[ea,eb];exact NU s b0
 have hm:pr p (sb l r ((pr p l).fdiv (pr p r)))=jf s (a % b):=by
  rw[kC,<- kK,ea,eb,xF]
 have hab:a=b*(a / b)+a % b:=(Nat.div_add_mod a b).symm
 have lt:=Nat.mod_lt a (Nat.pos_of_ne_zero b0)
 have key:∀c,(pr c r).natAbs*(pr p (sb l r ((pr p l).fdiv (pr p r)))).natAbs+(pr c (sb l r ((pr p l).fdiv (pr p r)))).natAbs*(pr p r).natAbs<=M:=fun c=>by
  have hp:=h.pot c
  rw[hm,kC,hq,eb,eF,eF]
  rw[ea,eb,eF,eF]at hp
  have h1:(pr c l-pr c r*((a / b:Nat):Int)).natAbs<=(pr c l).natAbs+(pr c r).natAbs*(a / b):=by
   refine ZN (ad7 _ _) ?_
   rw[ab9];exact ZP _
  have h2:=Nat.mul_le_mul_right b h1
  generalize (pr c r).natAbs=R at *
  generalize (pr c l).natAbs=L at *
  generalize (pr c l-pr c r*((a / b:Nat):Int)).natAbs=N at *
  have h3:R*a=R*(b*(a / b))+R*(a % b):=by rw[<- Nat.mul_add,<- hab]
  have h4:(L+R*(a / b))*b=L*b+R*(b*(a / b)):=by rw[Nat.add_mul,Nat.mul_assoc,aj7 (a / b) b]
  omega
 refine⟨h0,⟨s,b,a % b,eb,hm,lt⟩,key,h.br,fun c=>?_⟩
 have:=key c
 have r1:1<=(pr p r).natAbs:=by omega
 exact ZN (ZN (Nat.le_mul_of_pos_right _ r1) (Nat.le_add_left _ _)) this
theorem wY(x y:Int)(h:y≠0):(x.fdiv y).natAbs*y.natAbs<=x.natAbs+y.natAbs:=by
 have e:=kK x y
 have h1:(y*x.fdiv y).natAbs<=x.natAbs+(x.fmod y).natAbs:=by
  rw[show y*x.fdiv y=x-x.fmod y by omega];exact ad7 _ _
 obtain⟨s,a,b,e1,e2,_,e3,hlt⟩:=nN x y h
 rw[e2,eF]at h1
 rw[ab9,aj7]at h1
 omega
theorem mr.first{L S:V3}(hL:eh B L)(hS:eh b S)(h0:pr p S≠0):mr p S (sb L S ((pr p L).fdiv (pr p S))) (2 ^ nb B b):=by
 obtain⟨s,x,y,e1,e2,_,e3,hlt⟩:=nN (pr p L) (pr p S) h0
 have hm:pr p (sb L S ((pr p L).fdiv (pr p S)))=jf s y:=by rw[kC,<- kK];exact e2
 have qb:=wY (pr p L) (pr p S) h0
 have s1:1<=(pr p S).natAbs:=by omega
 obtain⟨m,hmx⟩:∃m,m=max B b:=⟨_,rfl⟩
 have e4:2 ^ nb B b=4*(2 ^ m*2 ^ b):=by
  unfold nb;rw[<- hmx,af5,af5,ae8];omega
 have uB:2 ^ B<=2 ^ m:=aa6 (by decide) (by omega)
 have ub:2 ^ b<=2 ^ m:=aa6 (by decide) (by omega)
 have key:∀c,(pr c S).natAbs*(pr p (sb L S ((pr p L).fdiv (pr p S)))).natAbs+(pr c (sb L S ((pr p L).fdiv (pr p S)))).natAbs*(pr p S).natAbs<=2 ^ nb B b:=fun c=>by
  rw[hm,eF,kC,e4]
  have h1:(pr c L-pr c S*(pr p L).fdiv (pr p S)).natAbs<=(pr c L).natAbs+(pr c S).natAbs*((pr p L).fdiv (pr p S)).natAbs:=by
   refine ZN (ad7 _ _) ?_
   rw[ab9];exact ZP _
  have h2:=Nat.mul_le_mul_right (pr p S).natAbs h1
  rw[Nat.add_mul,Nat.mul_assoc]at h2
  have h3:=ai6 (pr c S).natAbs qb
  rw[Nat.mul_add]at h3
  have b1:(pr c S).natAbs*y<=2 ^ m*2 ^ b:=ac6 (ZN (hS c) ub) (ZN (by omega) (hS p))
  have b2:(pr c L).natAbs*(pr p S).natAbs<=2 ^ m*2 ^ b:=ac6 (ZN (hL c) uB) (hS p)
  have b3:(pr c S).natAbs*(pr p L).natAbs<=2 ^ m*2 ^ b:=by rw[aj7];exact ac6 (ZN (hL p) uB) (hS c)
  have b4:(pr c S).natAbs*(pr p S).natAbs<=2 ^ m*2 ^ b:=ac6 (ZN (hS c) ub) (hS p)
  omega
 refine⟨h0,⟨s,x,y,e1,hm,by omega⟩,key,fun c=>ZN (hS c) (aa6 (by decide) (by unfold nb;omega)),fun c=>?_⟩
 exact ZN (ZN (Nat.le_mul_of_pos_right _ s1) (Nat.le_add_left _ _)) (key c)
structure Nm(p B b:Nat)(L S L' R:V3):Prop where
 z:pr p R=0
 cl:∀P,Sg P->((P L/\P S)↔(P L'/\P R))
 bd:eh (nb B b) L'/\eh (nb B b) R
 ps:0<pr p S->0<pr p L'
 nz:pr p S=0->L'=L/\R=S
noncomputable def iJ(p:Nat):Nat->List Nat->V3->List V3->V3->List V3->Prop
 | _,[],L,[],L',os=>L'=L/\os=[]
 | B,b::bs,L,S::l,L',os => ∃L1 R os',Nm p B b L S L1 R/\iJ p (nb B b) bs L1 l L' os'/\os=R::os'
 | _,_,_,_,_,_=>False
theorem iJ.cl{p:Nat}{P:V3->Prop}(g:Sg P):∀{B:Nat} {bs:List Nat} {l os:List V3} {L L':V3},iJ p B bs L l L' os->((P L/\∀s∈l,P s)↔(P L'/\∀s∈os,P s))
 | _,[],[],_,_,_,⟨rfl,rfl⟩=>Iff.rfl
 | _,_::_,[],_,_,_,h=>h.elim
 | _,[],_::_,_,_,_,h=>h.elim
 | B,b::bs,S::l,_,L,L',⟨L1,R,os',h,hl,rfl⟩=>by
  have ih:=iJ.cl g hl
  have h1:=h.cl P g
  simp only[ZT,forall_eq_or_imp]
  constructor
  ·rintro⟨a,b,c⟩
   have⟨x,y⟩:=h1.mp ⟨a,b⟩
   have⟨u,v⟩:=ih.mp ⟨x,c⟩
   exact⟨u,y,v⟩
  ·rintro⟨u,y,v⟩
   have⟨x,c⟩:=ih.mpr ⟨u,v⟩
   have⟨a,b⟩:=h1.mpr ⟨x,y⟩
   exact⟨a,b,c⟩
theorem iJ.z{p:Nat}:∀{B:Nat} {bs:List Nat} {l os:List V3} {L L':V3},iJ p B bs L l L' os->∀s∈os,pr p s=0
 | _,[],[],_,_,_,⟨rfl,rfl⟩,s,hs=>by cases hs
 | _,_::_,[],_,_,_,h,_,_=>h.elim
 | _,[],_::_,_,_,_,h,_,_=>h.elim
 | B,b::bs,S::l,_,L,L',⟨L1,R,os',h,hl,rfl⟩,s,hs=>by
  rcases ZT.mp hs with rfl|hs
  ·exact h.z
  ·exact iJ.z hl s hs
theorem xE(p:Nat):Sg fun v=>pr p v=0:=⟨by unfold pr;split<;>rfl,fun u v k hu hv=>by rw[kC,hu,hv];simp⟩
noncomputable def Ei:List Nat->List V3->Prop
 | b::bs,v::l=>eh b v/\Ei bs l
 | [],[]=>True
 | _,_=>False
theorem mr.mod{l r:V3}(h:mr p l r M)(h0:pr p r≠0):(pr p (sb l r ((pr p l).fdiv (pr p r)))).natAbs=(pr p l).natAbs % (pr p r).natAbs:=by
 obtain⟨s,a,b,ea,eb,hlt⟩:=h.sg
 rw[kC,<- kK,ea,eb,xF,eF,eF,eF]
noncomputable def Ca:Nat->List Nat->Prop
 | _,[]=>True
 | B,b::bs=>b<=1990/\nb B b<=8990/\Ca (nb B b) bs
theorem vf{c:Int}{ns:List Int}(h1:gI ns=1)(h:∀m∈ns,n∣c*m):n∣c:=by
 have key:∀c:Int,0<c->(∀m∈ns,n∣c*m)->n∣c:=fun c hc h=>by
  have e:=uV hc ns
  rw[h1,al9]at e
  rw[<- e]
  refine j9 fun m hm=>?_
  obtain⟨x,hx,rfl⟩:=ae2.mp hm
  exact h x hx
 rcases Int.lt_trichotomy c 0 with q|q|q
 ·have:=key (-c) (by omega) fun m hm=>by rw[Int.neg_mul];exact Int.dvd_neg.mpr (h m hm)
  exact Int.dvd_neg.mp this
 ·subst q;exact Int.dvd_zero n
 ·exact key c q h
noncomputable def St(T:T9)(v:V3):Prop:=T.n∣T.dx v.1 v.2.1 v.2.2/\T.n∣T.dy v.1 v.2.1 v.2.2/\T.n∣T.dz v.1 v.2.1 v.2.2
theorem Lq(a b c k:Int)(u v:V3):bD a b c (sb u v k).1 (sb u v k).2.1 (sb u v k).2.2=bD a b c u.1 u.2.1 u.2.2-bD a b c v.1 v.2.1 v.2.2*k:=by
 unfold bD sb;grind
theorem xG(T:T9):Sg (St T):=by
 have z:∀a b c:Int,T.n∣bD a b c 0 0 0:=fun a b c=>⟨0,by unfold bD;simp⟩
 have s:∀(a b c k:Int) (u v:V3),T.n∣bD a b c u.1 u.2.1 u.2.2->T.n∣bD a b c v.1 v.2.1 v.2.2->T.n∣bD a b c (sb u v k).1 (sb u v k).2.1 (sb u v k).2.2:=fun a b c k u v hu hv=>by
  rw[Lq];exact Int.dvd_sub hu (Int.dvd_mul_of_dvd_left hv)
 exact⟨⟨z _ _ _,z _ _ _,z _ _ _⟩,fun u v k hu hv=>⟨s _ _ _ k u v hu.1 hv.1,s _ _ _ k u v hu.2.1 hv.2.1,s _ _ _ k u v hu.2.2 hv.2.2⟩⟩
theorem qp{u v B D:Int}(h1:n∣bD u v w A B C)(h2:n∣bD u v w 0 D E)(h3:n∣bD u v w 0 0 F):n∣A*D*F*u/\n∣A*D*F*v/\n∣A*D*F*w:=by
 obtain⟨k1,e1⟩:=h1
 obtain⟨k2,e2⟩:=h2
 obtain⟨k3,e3⟩:=h3
 unfold bD at e1 e2 e3
 have f1:u*A+v*B+w*C=n*k1:=by rw[<- e1];omega
 have f2:v*D+w*E=n*k2:=by rw[<- e2];simp
 have f3:w*F=n*k3:=by rw[<- e3];simp
 clear e1 e2 e3
 refine⟨⟨D*F*k1-B*F*k2+B*E*k3-C*D*k3,?_⟩,⟨A*F*k2-A*E*k3,?_⟩,⟨A*D*k3,?_⟩⟩
 ·calc A*D*F*u=D*F*(u*A+v*B+w*C)-B*F*(v*D+w*E)+B*E*(w*F)-C*D*(w*F):=by grind
   _=_:=by rw[f1,f2,f3];grind
 ·calc A*D*F*v=A*F*(v*D+w*E)-A*E*(w*F):=by grind
   _=_:=by rw[f2,f3];grind
 ·calc A*D*F*w=A*D*(w*F):=by grind
   _=_:=by rw[f3];grind
theorem D5{T:T9}(h1:gI T.l=1){B D:Int}(s1:St T (A,B,C))(s2:St T (0,D,E))(s3:St T (0,0,F)):T.n∣A*D*F:=by
 obtain⟨a1,a2,a3⟩:=qp s1.1 s2.1 s3.1
 obtain⟨b1,b2,b3⟩:=qp s1.2.1 s2.2.1 s3.2.1
 obtain⟨c1,c2,c3⟩:=qp s1.2.2 s2.2.2 s3.2.2
 refine vf h1 fun m hm=>?_
 simp only[T9.l,ZT,ab3,ae5]at hm
 rcases hm with rfl|rfl|rfl|rfl|rfl|rfl|rfl|rfl|rfl|rfl
 ·exact Int.dvd_mul_left _ _
 ·exact a1
 ·exact a2
 ·exact a3
 ·exact b1
 ·exact b2
 ·exact b3
 ·exact c1
 ·exact c2
 ·exact c3
noncomputable def xg(A B C D E F:Int)(v:V3):Prop:=∃s t u:Int,v.1=s*A/\v.2.1=s*B+t*D/\v.2.2=s*C+t*E+u*F
theorem Ix(A B C D E F:Int):Sg (xg A B C D E F):=by
 refine⟨⟨0,0,0,by simp,by simp,by simp⟩,?_⟩
 rintro u v k ⟨s,t,w,e1,e2,e3⟩ ⟨s',t',w',f1,f2,f3⟩
 refine⟨s-s'*k,t-t'*k,w-w'*k,?_,?_,?_⟩
 ·show u.1-v.1*k=_;rw[e1,f1];grind
 ·show u.2.1-v.2.1*k=_;rw[e2,f2];grind
 ·show u.2.2-v.2.2*k=_;rw[e3,f3];grind
noncomputable def iB(u v w:V3):Int:=u.1*(v.2.1*w.2.2-v.2.2*w.2.1)-u.2.1*(v.1*w.2.2-v.2.2*w.1)+u.2.2*(v.1*w.2.1-v.2.1*w.1)
theorem kg{B D:Int}{u v w:V3}(hu:xg A B C D E F u)(hv:xg A B C D E F v)(hw:xg A B C D E F w):A*D*F∣iB u v w:=by
 obtain⟨a,b,c,e1,e2,e3⟩:=hu
 obtain⟨d,e,f,f1,f2,f3⟩:=hv
 obtain⟨g,h,i,g1,g2,g3⟩:=hw
 refine⟨a*(e*i-f*h)-b*(d*i-f*g)+c*(d*h-e*g),?_⟩
 unfold iB
 rw[e1,e2,e3,f1,f2,f3,g1,g2,g3]
 grind
noncomputable def i5(q:Qd)(n:Int):List V3:=[(-q.2.1,-q.2.2.1,-q.2.2.2),(q.1,-q.2.2.2,q.2.2.1),(q.2.2.2,q.1,-q.2.1),(-q.2.2.1,q.2.1,q.1),(n,0,0),(0,n,0),(0,0,n)]
theorem iR(q:Qd)(p:Pm q.1 q.2.1 q.2.2.1 q.2.2.2):∃g:Int,(g=1\/g=2\/g=4)/\tq q=(tq q).low.map (g * ·)/\(tq q).n=g*(tq q).low.n/\(tq q).low.n % 2=1/\0<(tq q).low.n/\gI (tq q).low.l=1:=by
 have hp:=fV p.ne
 obtain⟨g,m,e,hg,en,ho,hm⟩:=LW p
 have eg:gI (tq q).l=g:=e
 have hn:(tq q).low.n=m:=by
  show((tq q).n).fdiv (gI (tq q).l)=m
  rw[eg,show(tq q).n=g*m from en]
  exact ah1 m (by omega)
 refine⟨g,hg,?_,?_,by rw[hn];exact ho,by rw[hn];exact hm,?_⟩
 ·rw[<- eg];exact T9.cut hp
 ·rw[hn];exact en
 ·have:=Av (tq q).mem_n (show(tq q).n≠0 by omega)
  exact this
theorem K3(p:Pm q.1 q.2.1 q.2.2.1 q.2.2.2):∀s∈i5 q (tq q).low.n,St (tq q).low s:=by
 obtain⟨g,hg,cut,en,ho,hn,_⟩:=iR q p
 have g0:0<g:=by omega
 have raw:∀v:V3,(∃x y z:Int,(tq q).dx v.1 v.2.1 v.2.2=(tq q).n*x/\(tq q).dy v.1 v.2.1 v.2.2=(tq q).n*y/\(tq q).dz v.1 v.2.1 v.2.2=(tq q).n*z)->St (tq q).low v:=by
  rintro v ⟨x,y,z,e1,e2,e3⟩
  obtain⟨m1,m2,m3⟩:=OA g (tq q).low v.1 v.2.1 v.2.2
  rw[<- cut]at m1 m2 m3
  rw[m1,en,ZU]at e1
  rw[m2,en,ZU]at e2
  rw[m3,en,ZU]at e3
  exact⟨⟨x,rg g0 e1⟩,⟨y,rg g0 e2⟩,⟨z,rg g0 e3⟩⟩
 obtain⟨a,b,c,d⟩:=q
 intro s hs
 simp only[i5,ZT,ab3,ae5]at hs
 rcases hs with rfl|rfl|rfl|rfl|rfl|rfl|rfl
 ·exact raw _ ⟨-b,-c,-d,by simp only[T9.dx,T9.dy,T9.dz,tq,bD,n4,dg,c9,cZ,cP,cY,cK,cJ,cI,cX];grind,by simp only[T9.dx,T9.dy,T9.dz,tq,bD,n4,dg,c9,cZ,cP,cY,cK,cJ,cI,cX];grind,by simp only[T9.dx,T9.dy,T9.dz,tq,bD,n4,dg,c9,cZ,cP,cY,cK,cJ,cI,cX];grind⟩
 ·exact raw _ ⟨a,d,-c,by simp only[T9.dx,T9.dy,T9.dz,tq,bD,n4,dg,c9,cZ,cP,cY,cK,cJ,cI,cX];grind,by simp only[T9.dx,T9.dy,T9.dz,tq,bD,n4,dg,c9,cZ,cP,cY,cK,cJ,cI,cX];grind,by simp only[T9.dx,T9.dy,T9.dz,tq,bD,n4,dg,c9,cZ,cP,cY,cK,cJ,cI,cX];grind⟩
 ·exact raw _ ⟨-d,a,b,by simp only[T9.dx,T9.dy,T9.dz,tq,bD,n4,dg,c9,cZ,cP,cY,cK,cJ,cI,cX];grind,by simp only[T9.dx,T9.dy,T9.dz,tq,bD,n4,dg,c9,cZ,cP,cY,cK,cJ,cI,cX];grind,by simp only[T9.dx,T9.dy,T9.dz,tq,bD,n4,dg,c9,cZ,cP,cY,cK,cJ,cI,cX];grind⟩
 ·exact raw _ ⟨c,-b,a,by simp only[T9.dx,T9.dy,T9.dz,tq,bD,n4,dg,c9,cZ,cP,cY,cK,cJ,cI,cX];grind,by simp only[T9.dx,T9.dy,T9.dz,tq,bD,n4,dg,c9,cZ,cP,cY,cK,cJ,cI,cX];grind,by simp only[T9.dx,T9.dy,T9.dz,tq,bD,n4,dg,c9,cZ,cP,cY,cK,cJ,cI,cX];grind⟩
 ·generalize (tq (a,b,c,d)).low=T
  refine⟨⟨T.a,?_⟩,⟨T.d,?_⟩,⟨T.g,?_⟩⟩<;>simp only[T9.dx,T9.dy,T9.dz,bD]<;>grind
 ·generalize (tq (a,b,c,d)).low=T
  refine⟨⟨T.b,?_⟩,⟨T.e,?_⟩,⟨T.h,?_⟩⟩<;>simp only[T9.dx,T9.dy,T9.dz,bD]<;>grind
 ·generalize (tq (a,b,c,d)).low=T
  refine⟨⟨T.c,?_⟩,⟨T.f,?_⟩,⟨T.i,?_⟩⟩<;>simp only[T9.dx,T9.dy,T9.dz,bD]<;>grind
theorem qB{m:Int}(hx:x % 2=1)(h:x∣2*m):x∣m:=by
 obtain⟨k,e⟩:=h
 have hk:k % 2=0:=by
  rcases(show k % 2=0\/k % 2=1 by omega)with q|q
  ·exact q
  ·obtain⟨j,hj⟩:=oF hx q;omega
 obtain⟨j,rfl⟩:∃j,k=2*j:=⟨k / 2,by omega⟩
 exact⟨j,by
  have:2*m=2*(x*j):=by rw[e];grind
  omega⟩
theorem MX(p:Pm q.1 q.2.1 q.2.2.1 q.2.2.2){B D:Int}(hA:0<A)(hD:0<D)(hF:0<F)(cl:∀P,Sg P->((∀s∈i5 q (tq q).low.n,P s)↔(P (A,B,C)/\P (0,D,E)/\P (0,0,F)))):A*D*F=(tq q).low.n/\(St (tq q).low (A,B,C)/\St (tq q).low (0,D,E)/\St (tq q).low (0,0,F))/\∀v,St (tq q).low v->xg A B C D E F v:=by
 obtain⟨g,hg,cut,en,ho,hn,g1⟩:=iR q p
 obtain⟨s1,s2,s3⟩:=(cl _ (xG _)).mp (K3 p)
 have d1:=D5 g1 s1 s2 s3
 have sp:=(cl _ (Ix A B C D E F)).mpr ⟨⟨1,0,0,by simp,by simp,by simp⟩,⟨0,1,0,by simp,by simp,by simp⟩,⟨0,0,1,by simp,by simp,by simp⟩⟩
 have adf:0<A*D*F:=ac8 (ac8 hA hD) hF
 have eqn:A*D*F=(tq q).low.n:=by
  generalize hnn:(tq q).low.n=n at *
  have v0:=sp (-q.2.1,-q.2.2.1,-q.2.2.2) (by simp[i5])
  have v1:=sp (q.1,-q.2.2.2,q.2.2.1) (by simp[i5])
  have v2:=sp (q.2.2.2,q.1,-q.2.1) (by simp[i5])
  have v3:=sp (-q.2.2.1,q.2.1,q.1) (by simp[i5])
  have e0:=sp (n,0,0) (by simp[i5])
  have e1:=sp (0,n,0) (by simp[i5])
  have e2:=sp (0,0,n) (by simp[i5])
  have k0:=kg v1 v2 v3
  have k1:=kg v0 v2 v3
  have k2:=kg v0 v1 v3
  have k3:=kg v0 v1 v2
  have kn:=kg e0 e1 e2
  have kN:A*D*F∣(tq q).n:=by
   refine vf p.one fun m hm=>?_
   obtain⟨a,b,c,d⟩:=q
   simp only[ZT,ab3,ae5]at hm
   have x0:(tq (a,b,c,d)).n*a=iB (a,-d,c) (d,a,-b) (-c,b,a):=by simp only[tq,n4,iB];grind
   have x1:(tq (a,b,c,d)).n*b = -iB (-b,-c,-d) (d,a,-b) (-c,b,a):=by simp only[tq,n4,iB];grind
   have x2:(tq (a,b,c,d)).n*c=iB (-b,-c,-d) (a,-d,c) (-c,b,a):=by simp only[tq,n4,iB];grind
   have x3:(tq (a,b,c,d)).n*d = -iB (-b,-c,-d) (a,-d,c) (d,a,-b):=by simp only[tq,n4,iB];grind
   rcases hm with rfl|rfl|rfl|rfl
   ·rw[x0];exact k0
   ·rw[x1];exact Int.dvd_neg.mpr k1
   ·rw[x2];exact k2
   ·rw[x3];exact Int.dvd_neg.mpr k3
  have k3':A*D*F∣n*n*n:=by
   have e:iB (n,0,0) (0,n,0) (0,0,n)=n*n*n:=by simp only[iB];grind
   rw[<- e];exact kn
  have od:(A*D*F) % 2=1:=by
   rcases(show(A*D*F) % 2=0\/(A*D*F) % 2=1 by omega)with z|z
   ·exfalso
    obtain⟨j,hj⟩:=k3'
    obtain⟨i,hi⟩:=oF ho ho
    obtain⟨l,hl⟩:=oF (show(n*n) % 2=1 by omega) ho
    obtain⟨m,hm⟩:∃m,A*D*F=2*m:=⟨A*D*F / 2,by omega⟩
    rw[hm,ZU 2 m j]at hj
    generalize m*j=mj at *
    omega
   ·exact z
  have kn':A*D*F∣n:=by
   rw[en]at kN
   rcases hg with rfl|rfl|rfl
   ·rwa [Int.one_mul]at kN
   ·exact qB od kN
   ·exact qB od (qB od (by rw[<- ZU];exact kN))
  exact Int.dvd_antisymm (by omega) (by omega) kn' d1
 refine⟨eqn,⟨s1,s2,s3⟩,?_⟩
 rintro⟨x,y,z⟩ hv
 have h1:=D5 g1 hv s2 s3
 rw[<- eqn,ZU,ZU]at h1
 have hx:A∣x:=Int.dvd_of_mul_dvd_mul_right (by have:=ac8 hD hF;omega) h1
 obtain⟨s,rfl⟩:=hx
 have h2:=(xG (tq q).low).step _ _ s hv s1
 have e2:sb (A*s,y,z) (A,B,C) s=(0,y-B*s,z-C*s):=by simp[sb]
 rw[e2]at h2
 have h3:=D5 g1 s1 h2 s3
 rw[<- eqn]at h3
 have hy:D∣y-B*s:=by
  rw[ZU,ZU]at h3
  have h4:=Int.dvd_of_mul_dvd_mul_left (by omega) h3
  exact Int.dvd_of_mul_dvd_mul_right (by omega) h4
 obtain⟨t,ht⟩:=hy
 have h4:=(xG (tq q).low).step _ _ t h2 s2
 have e3:sb (0,y-B*s,z-C*s) (0,D,E) t=(0,0,z-C*s-E*t):=by simp only[sb,ht];simp
 rw[e3]at h4
 have h5:=D5 g1 s1 s2 h4
 rw[<- eqn]at h5
 have hz:F∣z-C*s-E*t:=Int.dvd_of_mul_dvd_mul_left (by have:=ac8 hA hD;omega) h5
 obtain⟨u,hu⟩:=hz
 exact⟨s,t,u,by show A*s=s*A;rw[ZX],by show y=s*B+t*D;rw[ZX s B,ZX t D];omega,by show z=s*C+t*E+u*F;rw[ZX s C,ZX t E,ZX u F];omega⟩
theorem wN(cut:tq q=(tq q).low.map (g * ·)):n4 q.1 q.2.1 q.2.2.1 q.2.2.2=g*(tq q).low.n/\dg q.1 q.2.1 q.2.2.1 q.2.2.2=g*(tq q).low.a/\c9 q.1 q.2.1 q.2.2.1 q.2.2.2=g*(tq q).low.b/\cZ q.1 q.2.1 q.2.2.1 q.2.2.2=g*(tq q).low.c/\cP q.1 q.2.1 q.2.2.1 q.2.2.2=g*(tq q).low.d/\cY q.1 q.2.1 q.2.2.1 q.2.2.2=g*(tq q).low.e/\cK q.1 q.2.1 q.2.2.1 q.2.2.2=g*(tq q).low.f/\cJ q.1 q.2.1 q.2.2.1 q.2.2.2=g*(tq q).low.g/\cI q.1 q.2.1 q.2.2.1 q.2.2.2=g*(tq q).low.h/\cX q.1 q.2.1 q.2.2.1 q.2.2.2=g*(tq q).low.i :=
 ⟨ad4 T9.n cut,ad4 T9.a cut,ad4 T9.b cut,ad4 T9.c cut,ad4 T9.d cut,ad4 T9.e cut,ad4 T9.f cut,ad4 T9.g cut,ad4 T9.h cut,ad4 T9.i cut⟩
theorem mU(g a b c x y z:Int):bD (g*a) (g*b) (g*c) (g*x) (g*y) (g*z)=g*g*bD a b c x y z:=by unfold bD;grind
theorem Pl(g a b c d e f h i j:Int):bD (g*a) (g*b) (g*c) (g*e*(g*j)-g*f*(g*i)) (g*f*(g*h)-g*d*(g*j)) (g*d*(g*i)-g*e*(g*h))=g*g*g*bD a b c (e*j-f*i) (f*h-d*j) (d*i-e*h):=by unfold bD;grind
theorem BH(g n:Int):g*n*(g*n)=g*g*(n*n):=by grind
theorem XH(g n:Int):g*n*(g*n)*(g*n)=g*g*g*(n*n*n):=by grind
theorem mW(hg:0<g)(h:g*g*x=g*g*y):x=y:=rg (ac8 hg hg) h
theorem zZ(p:Pm q.1 q.2.1 q.2.2.1 q.2.2.2):bD (tq q).low.a (tq q).low.b (tq q).low.c (tq q).low.a (tq q).low.b (tq q).low.c=(tq q).low.n*(tq q).low.n/\bD (tq q).low.a (tq q).low.b (tq q).low.c (tq q).low.d (tq q).low.e (tq q).low.f=0/\bD (tq q).low.a (tq q).low.b (tq q).low.c (tq q).low.g (tq q).low.h (tq q).low.i=0/\bD (tq q).low.d (tq q).low.e (tq q).low.f (tq q).low.d (tq q).low.e (tq q).low.f=(tq q).low.n*(tq q).low.n/\bD (tq q).low.d (tq q).low.e (tq q).low.f (tq q).low.g (tq q).low.h (tq q).low.i=0/\bD (tq q).low.g (tq q).low.h (tq q).low.i (tq q).low.g (tq q).low.h (tq q).low.i=(tq q).low.n*(tq q).low.n /\ ¬ bD (tq q).low.a (tq q).low.b (tq q).low.c ((tq q).low.e*(tq q).low.i-(tq q).low.f*(tq q).low.h) ((tq q).low.f*(tq q).low.g-(tq q).low.d*(tq q).low.i) ((tq q).low.d*(tq q).low.h-(tq q).low.e*(tq q).low.g)<0:=by
 obtain⟨g,hg,cut,en,ho,hn,g1⟩:=iR q p
 have g0:0<g:=by omega
 obtain⟨f,f0,f1,f2,f3,f4,f5,f6,f7,f8⟩:=wN cut
 generalize (tq q).low=T at *
 obtain⟨a,b,c,d⟩:=q
 simp only[]at f f0 f1 f2 f3 f4 f5 f6 f7 f8
 have o00:bD (dg a b c d) (c9 a b c d) (cZ a b c d) (dg a b c d) (c9 a b c d) (cZ a b c d)=n4 a b c d*n4 a b c d:=by simp only[bD,n4,dg,c9,cZ,cP,cY,cK,cJ,cI,cX];grind
 have o01:bD (dg a b c d) (c9 a b c d) (cZ a b c d) (cP a b c d) (cY a b c d) (cK a b c d)=0:=by simp only[bD,n4,dg,c9,cZ,cP,cY,cK,cJ,cI,cX];grind
 have o02:bD (dg a b c d) (c9 a b c d) (cZ a b c d) (cJ a b c d) (cI a b c d) (cX a b c d)=0:=by simp only[bD,n4,dg,c9,cZ,cP,cY,cK,cJ,cI,cX];grind
 have o11:bD (cP a b c d) (cY a b c d) (cK a b c d) (cP a b c d) (cY a b c d) (cK a b c d)=n4 a b c d*n4 a b c d:=by simp only[bD,n4,dg,c9,cZ,cP,cY,cK,cJ,cI,cX];grind
 have o12:bD (cP a b c d) (cY a b c d) (cK a b c d) (cJ a b c d) (cI a b c d) (cX a b c d)=0:=by simp only[bD,n4,dg,c9,cZ,cP,cY,cK,cJ,cI,cX];grind
 have o22:bD (cJ a b c d) (cI a b c d) (cX a b c d) (cJ a b c d) (cI a b c d) (cX a b c d)=n4 a b c d*n4 a b c d:=by simp only[bD,n4,dg,c9,cZ,cP,cY,cK,cJ,cI,cX];grind
 have od:bD (dg a b c d) (c9 a b c d) (cZ a b c d) ((cY a b c d)*(cX a b c d)-(cK a b c d)*(cI a b c d)) ((cK a b c d)*(cJ a b c d)-(cP a b c d)*(cX a b c d)) ((cP a b c d)*(cI a b c d)-(cY a b c d)*(cJ a b c d))=n4 a b c d*n4 a b c d*n4 a b c d:=by simp only[bD,n4,dg,c9,cZ,cP,cY,cK,cJ,cI,cX];grind
 rw[f0,f1,f2,f3,f4,f5,f6,f7,f8,f]at od
 rw[f0,f1,f2,f]at o00
 rw[f0,f1,f2,f3,f4,f5]at o01
 rw[f0,f1,f2,f6,f7,f8]at o02
 rw[f3,f4,f5,f]at o11
 rw[f3,f4,f5,f6,f7,f8]at o12
 rw[f6,f7,f8,f]at o22
 rw[mU,BH]at o00
 rw[mU]at o01
 rw[mU]at o02
 rw[mU,BH]at o11
 rw[mU]at o12
 rw[mU,BH]at o22
 rw[Pl,XH]at od
 refine⟨mW g0 o00,mW g0 (by rw[o01];simp),mW g0 (by rw[o02];simp),mW g0 o11,mW g0 (by rw[o12];simp),mW g0 o22,?_⟩
 have e':=rg (ac8 (ac8 g0 g0) g0) od
 rw[e']
 have:=ac8 (ac8 hn hn) hn
 omega
theorem nV(p:Pm q.1 q.2.1 q.2.2.1 q.2.2.2):∃K:Int,(K=1\/K=2\/K=4)/\(tq q).low.n+(tq q).low.a+(tq q).low.e+(tq q).low.i=K*(q.1*q.1)/\(tq q).low.h-(tq q).low.f=K*(q.1*q.2.1)/\(tq q).low.c-(tq q).low.g=K*(q.1*q.2.2.1)/\(tq q).low.d-(tq q).low.b=K*(q.1*q.2.2.2)/\(tq q).low.n+(tq q).low.a-(tq q).low.e-(tq q).low.i=K*(q.2.1*q.2.1)/\(tq q).low.b+(tq q).low.d=K*(q.2.1*q.2.2.1)/\(tq q).low.c+(tq q).low.g=K*(q.2.1*q.2.2.2)/\(tq q).low.n-(tq q).low.a+(tq q).low.e-(tq q).low.i=K*(q.2.2.1*q.2.2.1)/\(tq q).low.f+(tq q).low.h=K*(q.2.2.1*q.2.2.2)/\(tq q).low.n-(tq q).low.a-(tq q).low.e+(tq q).low.i=K*(q.2.2.2*q.2.2.2):=by
 obtain⟨g,hg,cut,en,ho,hn,g1⟩:=iR q p
 have g0:0<g:=by omega
 obtain⟨f,f0,f1,f2,f3,f4,f5,f6,f7,f8⟩:=wN cut
 obtain⟨K,hK,gK⟩:∃K:Int,(K=1\/K=2\/K=4)/\g*K=4:=by
  rcases hg with rfl|rfl|rfl
  ·exact⟨4,by omega,by omega⟩
  ·exact⟨2,by omega,by omega⟩
  ·exact⟨1,by omega,by omega⟩
 generalize (tq q).low=T at *
 obtain⟨a,b,c,d⟩:=q
 simp only[n4,dg,c9,cZ,cP,cY,cK,cJ,cI,cX]at f f0 f1 f2 f3 f4 f5 f6 f7 f8
 have k:∀{x y:Int},g*x=4*y->x=K*y:=fun h=>rg g0 (by rw[h,<- gK,ZU])
 clear gK
 clear cut en ho hn g1 hg
 refine⟨K,hK,?_,?_,?_,?_,?_,?_,?_,?_,?_,?_⟩<;>(apply k;clear k hK p;simp only[Int.mul_add,Int.mul_sub];grind)
theorem Nt{c:Expr}{p:Pos}(Inv:Nat->am->Prop)(h0:Inv m ρ)(hm:m<dw)
  (step:∀m ρ,Inv m ρ->∃b k,ag (aE Φ c false sc ρ) (.bl b,k)/\(b=true->∃m' ρ2,m' < m/\ag (aH Φ body sc ρ) (.nx ρ2)/\Inv m' ρ2)) (rest:∀m ρ',Inv m ρ'->(∃k,ag (aE Φ c false sc ρ') (.bl false,k))->P ρ'):∃ρ',ag (eI Φ (.While c body [] p) sc ρ) (.nx ρ')/\P ρ':=by
 obtain⟨m',ρ',h1,h2,h3⟩:=nH (test:=fun ρ=>(aE Φ c false sc ρ).bnd fun p=>ja p fun b=>.ok b []) (body:=aH Φ body sc) Inv (fun m ρ h=>by
  obtain⟨b,k,a1,a2⟩:=step m ρ h
  exact⟨b,a1.bnd (i9 rfl cS),a2⟩) h0 hm
 obtain⟨q,h4,h5⟩:=az h3
 obtain⟨t,ht,h5⟩:=gu h5
 cases aV h5
 obtain⟨q1,q2⟩:=q
 have ht:q1=.bl false:=ht
 subst ht
 exact⟨ρ',nY h1,rest m' ρ' h2 ⟨_,h4⟩⟩
theorem NV{ps:List Str}{ds:List D}(h:∃d,ag (aH Φ body sc (fj ps ds)) (.rt d)/\R d)(hl:ds.length=ps.length:=by rfl):∃d,ag (bw Φ sc ps body ds) d/\R d:=let ⟨d,h1,h2⟩:=h;⟨d,bC h1 hl,h2⟩
theorem Py{ρ':am}{ss:List Stmt}(n:Nat)(h:ag (aH Φ (ss.take n) sc ρ) (.nx ρ'))(h2:∃d,ag (aH Φ (ss.drop n) sc ρ') (.rt d)/\R d):∃d,ag (aH Φ ss sc ρ) (.rt d)/\R d:=let ⟨d,h1,h3⟩:=h2;⟨d,dS n h h1,h3⟩
theorem mr.pos{l r:V3}(h:mr p l r M)(h1:0<pr p l)(h0:pr p r≠0):0<pr p r:=by
 obtain⟨s,a,b,ea,eb,hlt⟩:=h.sg
 cases s
 ·have:pr p r=(b:Int):=eb
  omega
 ·have:pr p l = -(a:Int):=ea
  omega
noncomputable abbrev gr(q:Qd):D:=kz q.1 q.2.1 q.2.2.1 q.2.2.2
noncomputable abbrev fD(q:Qd):Prop:=Pm q.1 q.2.1 q.2.2.1 q.2.2.2
theorem yf(hq:oH q)(h:dG (2 ^ m) (kq k q)):k.natAbs<=2 ^ m:=by
 obtain⟨h1,h2,h3,h4⟩:=h
 have key:∀t:Int,t≠0->(k*t).natAbs<=2 ^ m->k.natAbs<=2 ^ m:=fun t t0 ht=>by
  rw[ab9]at ht
  exact ZN (Nat.le_mul_of_pos_right _ (by omega)) ht
 by_cases q1:q.1=0
 ·by_cases q2:q.2.1=0
  ·by_cases q3:q.2.2.1=0
   ·exact key _ (fun q4=>hq ⟨q1,q2,q3,q4⟩) h4
   ·exact key _ q3 h3
  ·exact key _ q2 h2
 ·exact key _ q1 h1
theorem xK(hk:k≠0)(h:dG (2 ^ m) (kq k q)):dG (2 ^ m) q:=by
 obtain⟨h1,h2,h3,h4⟩:=h
 have key:∀t:Int,(k*t).natAbs<=2 ^ m->t.natAbs<=2 ^ m:=fun t ht=>by
  rw[ab9]at ht
  exact ZN (Nat.le_mul_of_pos_left _ (by omega)) ht
 exact⟨key _ h1,key _ h2,key _ h3,key _ h4⟩
theorem lT(hm:m<=999)(h:dG (2 ^ m) (kq k q)):okT (([k*q.1,k*q.2.1,k*q.2.2.1,k*q.2.2.2]:List Int).map D.int):=DC (m:=m) hm (by
 obtain⟨h1,h2,h3,h4⟩:=h
 intro t ht
 simp only[ZT,ab3,ae5]at ht
 rcases ht with rfl|rfl|rfl|rfl
 ·exact h1
 ·exact h2
 ·exact h3
 ·exact h4)
theorem N2{p:Qd}(hp:dG (2 ^ m) p)(hq:dG (2 ^ m) q):dG (2 ^ (m+m+2)) (aI p q):=by
 obtain⟨a,b,c,d⟩:=p
 obtain⟨e,f,g,h⟩:=q
 obtain⟨a1,b1,c1,d1⟩:=hp
 obtain⟨e1,f1,g1,h1⟩:=hq
 have k:∀{x y:Int},x.natAbs<=2 ^ m->y.natAbs<=2 ^ m->(x*y).natAbs<=2 ^ (m+m):=fun hx hy=>by rw[ab9,ae8];exact ac6 hx hy
 have e4:2 ^ (m+m+2)=4*2 ^ (m+m):=by rw[af5,af5];omega
 have s:∀{x y z w:Int},x.natAbs<=2 ^ (m+m)->y.natAbs<=2 ^ (m+m)->z.natAbs<=2 ^ (m+m)->w.natAbs<=2 ^ (m+m)->(x-y-z-w).natAbs<=2 ^ (m+m+2)/\(x+y+z-w).natAbs<=2 ^ (m+m+2)/\(x-y+z+w).natAbs<=2 ^ (m+m+2)/\(x+y-z+w).natAbs<=2 ^ (m+m+2):=fun hx hy hz hw=>by rw[e4];generalize 2 ^ (m+m)=M at *;omega
 exact⟨(s (k a1 e1) (k b1 f1) (k c1 g1) (k d1 h1)).1,(s (k a1 f1) (k b1 e1) (k c1 h1) (k d1 g1)).2.1,(s (k a1 g1) (k b1 h1) (k c1 e1) (k d1 f1)).2.2.1,(s (k a1 h1) (k b1 g1) (k c1 f1) (k d1 e1)).2.2.2⟩
theorem mG(h:dG (2 ^ m) q):(tq q).bd (m+m+3):=by
 obtain⟨h1,h2,h3,h4⟩:=h
 exact Ds (m:=2 ^ m) (M:=2 ^ (m+m)) (by rw[ae8];exact ZP _) (by rw[af5,af5,af5];omega) h1 h2 h3 h4
theorem Cb{z:Int}(h0:¬ (x=0/\y=0/\z=0/\w=0))(n1:ci x)(n2:ci y)(n3:ci z)(n4':ci w):∃(k:Int) (q:Qd),k≠0/\(x,y,z,w)=kq k q/\fD q/\dG (2 ^ 67) (kq k q):=by
 obtain⟨k,a,b,c,d,hk,rfl,rfl,rfl,rfl,p,_⟩:=qw h0
 have u67:∀{t:Int},ci t->t.natAbs<=2 ^ 67:=fun h=>ZN h (by decide)
 exact⟨k,(a,b,c,d),hk,rfl,p,u67 n1,u67 n2,u67 n3,u67 n4'⟩
end K
namespace Sp
open PySem PySem.Spec PyProof.Rows L2
variable{Φ:Fx}{fs ps:List Str}{n x1 x2:Str}{e:Expr}{args:List Expr}
variable{X:Cx}
def gt:List D->Option (List Str)
 | []=>some []
 | .str i::l=>(gt l).map (i :: ·)
 | _::_=>none
def oO(x:D)(ds:List D):R1 :=
 match x,ds with
 | .str sep,[.lst l]=>(match gt l with
  | some ys=>.ok (.str (Txt.join sep ys),0) [sep.length<=16,(ys.map fun y=>y.length).sum+ys.length<=1048576]
  | none=>.st)
 | _,_=>.st
theorem rO{K:W.Frag}{H:Hp}{P:bO}:∀{l:List D} {ys:List Str} {vs:List V} {us:List Value},gt l=some ys->ar K H P l vs->aW vs us->StrsAre us ys
 | [],ys,vs,us,h,r,q=>by
  rw[gt]at h;cases h
  rw[ar]at r;subst r;cases q;exact .nil
 | .str x::l,ys,vs,us,h,r,q=>by
  rw[gt]at h
  cases e:gt l with
  | none=>rw[e]at h;cases h
  | some zs =>
   rw[e]at h;cases h
   rw[ar]at r
   obtain⟨v,vr,rfl,r1,r2⟩:=r
   rw[ao]at r1;subst r1
   cases q with
   | cons q1 q2 =>
    obtain⟨t,rfl⟩:=q1
    exact .cons x t (rO e r2 q2)
 | .non::l,ys,vs,us,h,_,_=>by cases h
 | .bl _::l,ys,vs,us,h,_,_=>by cases h
 | .int _::l,ys,vs,us,h,_,_=>by cases h
 | .dct _ _::l,ys,vs,us,h,_,_=>by cases h
 | .typ _::l,ys,vs,us,h,_,_=>by cases h
 | .sn _::l,ys,vs,us,h,_,_=>by cases h
 | .obj _ _ _::l,ys,vs,us,h,_,_=>by cases h
 | .cls _::l,ys,vs,us,h,_,_=>by cases h
 | .tup _::l,ys,vs,us,h,_,_=>by cases h
 | .lst _::l,ys,vs,us,h,_,_=>by cases h
theorem Gi:xi X "str.join" (fun x xs H Q => ∃sep l ys P v,x=.str sep/\xs=[v]/\ao X.K H P (.lst l) v/\gt l=some ys/\sep.length<=16/\(ys.map fun y=>y.length).sum+ys.length<=1048576/\Q (.str (Txt.join sep ys)) H):=by
 intro pins s σ H x xs v us Q I rx rxs h
 obtain⟨sep,l,ys,P,v1,rfl,rfl,r,hl,h1,h2,q⟩:=h
 obtain⟨t,rfl⟩:=rx
 obtain⟨u,rfl,ru⟩:=dX rxs
 rw[ao]at r
 obtain⟨a,vs,b,rfl,ha,_,rl⟩:=r
 cases ru
 obtain⟨its,rv,⟨o,n,e1,e2,_,e3⟩,_⟩:=I.list ha.sq
 exact join_listW (D:=a) (items:=its.toArray) ⟨o,e1,e2,n,e3⟩ (by rw[List.toList_toArray];exact rO hl rl rv) h1 h2 fun t' k=>⟨.str _,H,I.tok _,⟨_,rfl⟩,q⟩
theorem Ce:nh "join" oO:=by
 intro X ρ a args ap cp x k ds j z l o hc hroom hea hes hst hlen hline hb h hp
 unfold oO at h
 split at h
 ·rename_i sep l1
  split at h
  ·rename_i ys hy
   cases h
   obtain⟨e,rfl⟩:∃e,args=[e]:=by
    match args,hlen with
    | [e],_=>exact⟨e,rfl⟩
   intro ow
   refine bS (sU PySem.F.plainAttrs_str PySem.F.slot_str_join PySem.F.type_str_join Gi (hea ow) (hes ow) (base_of hb) (jZ hst (show 1<29 by decide)) hline (bN (hst e ZV)) rfl) fun σ H Q ⟨E,q⟩=>⟨E,fun v H1 s1 r1=>?_⟩
   rw[ao]at r1;subst r1
   refine⟨rfl,E.same s1,fun vs H2 s2 r2=>?_⟩
   obtain⟨v,rfl,r3⟩:=r2.only
   exact⟨sep,l1,ys,_,v,rfl,rfl,r3,hy,hp.1,hp.2.1,q _ _ (s1.trans s2) (by rw[ao])⟩
  ·cases h
 ·cases h
def WF:Stmt->Expr
 | .Assign _ e _=>e
 | _=>.Constant .none 0 ⟨0,0,0,0⟩
def Ao(s:Stmt):List Expr:=match ak s with
 | [_,.Expr (.Call _ (_::args) _ _) _]=>args
 | _=>[]
def iL(Φ:Fx)(sc:Scope)(ps:List Str)(x1 x2:Str)(e:Expr)(args:List Expr)(n:Str)(fs:List Str)(ds:List D):Rs D :=
 if ds.length+1=ps.length then(aE Φ e false sc (fj ps (.obj n [] []::ds))).bnd fun p=>(match p.1 with
  | .tup [u,v]=>if aC [u,v]=true then(ck Φ args sc (bT (bT (fj ps (.obj n [] []::ds)) x1 (u,false)) x2 (v,false))).bnd fun q=>if q.1.length=fs.length then .ok (.obj n fs q.1) [aC q.1=true,fW q.1=true]else .st else .st
  | _=>.st)else .st
theorem xc{α β:Type}{r:Rs α}{f:α->Rs β}{b:β}{l:List Prop}(h:r.bnd f=.ok b l):∃a m,f a=.ok b m:=by
 unfold Rs.bnd at h
 split at h
 ·cases h
 ·split at h
  ·cases h
  ·rename_i e;cases h;exact⟨_,_,e⟩
theorem vW{sc:Scope}:∀ds r l,iL Φ sc ps x1 x2 e args n fs ds=.ok r l->r.lless=true:=fun ds r l h=>by
 unfold iL at h
 split at h
 ·obtain⟨a,m,h⟩:=xc h
  split at h
  ·split at h
   ·obtain⟨b,m',h⟩:=xc h
    split at h
    ·cases h;rfl
    ·cases h
   ·cases h
  ·cases h
 ·cases h
theorem Cn{P:Program}{w:World}{K:W.Frag}{mg:Str->Option Value}{base:Heap}{k:Nat}{g qual:Str}{st:Stmt}{f f0:Addr}{fd fd0:FuncData}{ps0:List Str}{b s0:Str}{C0:Addr}{mc:Value}{pb p0 ap cp p4 q1 q2 tp p5:Pos}{tn:Nat}(Fn:ky K g qual st f fd)
  (S:aA (au (ae st)) ps (ae st)) (hΦ:nG P w K mg base k Φ) (hF0:cu P w K mg base eO k f0 fd0 ps0 (Dz K fs)) (hb0:dk K fd0 ps0 []) (hk0:W.keepIn K (.ref f0)=true)
  (hgb:(ae st).names.lookup b=some .globalImplicit) (hm:mg b=some (.ref C0)) (hga:W.specialIn K (.ref C0) "__getattribute__" = some (some (.builtin "type.__getattribute__"))) (hrd:W.readsIn K C0 mc=true) (hfc:W.findCls K (.ref C0) mc "__init__" = some (.val (.ref f0)))
  (hbody:ak st=[.Assign [.Tuple [.Name x1 q1,.Name x2 q2] tn tp] e p5,.Expr (.Call (.Attribute (.Name b pb) "__init__" ap) (.Name s0 p0::args) [] cp) p4]) (hs0:ps[0]?=some s0) (hok:fR s0=true) (hdb:(b==("__debug__" : Str))=false) (hln:(ap.endLine==cp.line)=true) (hfew:args.length<28)
  (hl1:dE (ae st) x1=true) (hl2:dE (ae st) x2=true) (hn1:x1≠s0) (hn2:x2≠s0) (hsw:nv (ae st) [.Name x1 q1,.Name x2 q2] e=false)
  (hna:∀C,W.nsIn K mainGlobals n=some (some (.ref C))->∀x∈fs,bj K C x):cu P w K mg base eO (k+1) f fd ps (rL K n (iL Φ (ae st) ps x1 x2 e args n fs)):=by
 refine Fn.ok S (fun vs H Q E h=>?_) (fun cdv A outer s H vs Q E hr h=>?_)
 ·obtain⟨x,ws,C,dx,ds,r,l,rfl,hx,hns,hc,r1,hF,_⟩:=h
  unfold iL at hF
  split at hF
  ·rename_i hl;rw[ab1,<- r1.length];exact hl
  ·cases hF
 ·obtain⟨x,ws,C,dx,ds,r,l,rfl,hx,hns,hc,r1,hF,hp,hl,q⟩:=h
  have hF:ag (iL Φ (ae st) ps x1 x2 e args n fs ds) r:=⟨l,hF,hp⟩
  unfold iL at hF
  split at hF
  ·rename_i hlen
   obtain⟨pv,h1,hF⟩:=az hF
   split at hF
   ·rename_i u v hpv
    split at hF
    ·rename_i hll
     obtain⟨qv,h2,hF⟩:=az hF
     split at hF
     ·rename_i hfl
      obtain⟨l3,e3,p3⟩:=hF
      cases e3
      have G:=jU (outer:=outer) (H:=H) (E:=E) S hΦ hr
      have r0:ar K H (fun _ _=>True) (.obj n [] []::ds) (.ref x::ws):=ar.cons (by rw[ao];exact⟨rfl,rfl,x,C,dx,[],rfl,hns,hc,hx,ar.nil⟩) r1
      obtain⟨E0,hsl⟩:=ma (P:=P) (w:=w) (mg:=mg) (base:=base) (qual:=qual) (f:=f) (cdv:=cdv) (A:=A) (outer:=outer) (s:=s) (E:=E) S r0 hlen
      have ed:=(eU h1 G).ed rfl
      obtain⟨l2,h2,pp2⟩:=h2
      obtain⟨hst,hal⟩:=dJ h2 pp2
      have ad:=j7 args h2 pp2 G
      have hi0:(au (ae st))[0]?=some s0:=by
       have hp0:=(aa7.mp hs0).1
       have hs1:=hs0
       rw[<- S.pre,List.getElem?_take_of_lt hp0]at hs1
       exact hs1
      have hv0:gB (ae st) s0:=by
       rcases S.par s0 (ae0 hs0)with z|z
       ·exact .inl z
       ·exact .inr (.inl z)
      have hst':∀e∈Expr.Name s0 p0::args,∀y p,e ≠ .Starred y p:=fun e he=>by
       rcases ZT.mp he with rfl|he
       ·intro _ _ z;cases z
       ·exact hst e he
      obtain⟨g1,g2,g3,i1,g4⟩:=fH G hl1
      obtain⟨k1,k2,k3,i2,k4⟩:=fH G hl2
      have ne1:i1≠0:=fun z=>by rw[z]at g4;exact hn1 (ad5 (g4.symm.trans hi0))
      have ne2:i2≠0:=fun z=>by rw[z]at k4;exact hn2 (ad5 (k4.symm.trans hi0))
      rw[hbody]
      refine⟨_,iU (lK (ed (fun _=>none)) (oC (n:=2) G.calm (iV (gQ (i:=i1) G.nd g4 g1 g3) (iV (gQ (i:=i2) G.nd k4 k1 k3) qx rfl) rfl) rfl rfl) im (mH G hsw) rfl) (qu (jO (uo (G.gl b hgb) hm hga hrd hfc hk0 hF0 hr hb0 jg (qz (jP (i:=0) hi0 hv0 (eY hok).1 (eY hok).2) (ad (fun _=>none)) (bN fun _ _ z=>by cases z)) (bN fun _ _ z=>by cases z) (cV hst) hdb (yk (base_of rfl) (jZ hst' (by rw[ab1];omega)) hln)) rfl)),?_⟩
      refine⟨E0,fun vv H1 s1 rv=>?_⟩
      rw[hpv]at rv
      obtain⟨a,vs',rfl,hs,rl⟩:=fG rv
      rw[ar]at rl
      obtain⟨va,vr,rfl,ra,rl⟩:=rl
      rw[ar]at rl
      obtain⟨vb,vr',rfl,rb,rl⟩:=rl
      rw[ar]at rl
      subst rl
      have E1:=fe G.nd hsl (E0.same s1) g4 g2 (o:=false) (ra.imp fun _ _ _ _=>rfl)
      have E2:=fe G.nd (by rw[ad8];exact hsl) E1 k4 k2 (o:=false) (rb.imp fun _ _ _ _=>rfl)
      refine⟨a,[va,vb],rfl,hs,rfl,va,[vb],rfl,vb,[],rfl,rfl,.ref x,?_,E2,fun vs H2 s2 rv=>?_⟩
      ·rw[ai3 ne2,ai3 ne1]
       have hn:0<(au (ae st)).length:=(aa7.mp hi0).1
       rfl
      ·have s12:=s1.trans s2
       refine⟨x,vs++[],C,dx,rfl,by rw[ad1,<- rv.length];exact hfl,s12 _ _ hx,hc,hna C hns,q _ (fun a o ha h=>?_) ?_⟩
       ·rw[aK ha];exact s12 _ _ h
       ·rw[ao,ad1]
        exact⟨p3.1,hfl.symm,x,C,dx,vs,rfl,hns,hc,bg,((rv.off (s12 _ _ hx) (fun a o ha h=>by rw[aK ha];exact h) p3.2.1).imp fun _ _ _=>True.intro)⟩
     ·exact(aw hF).elim
    ·exact(aw hF).elim
   ·exact(aw hF).elim
  ·exact(aw hF).elim
end Sp
namespace K
open PySem L2 Sp Qm
variable{Φ:Fx}{sc:Scope}{k:Nat}{b c d:Int}{ρ:am}{p:Pos}{s:Stmt}{Inv':am->Prop}
theorem KR{ps fs:List Str}{x1 x2:Str}{e:Expr}{args:List Expr}{n:Str}{ds q:List D}{u v:D}{j:Nat}(hl:ds.length+1=ps.length)(h0:ag (aE Φ e false sc (fj ps (.obj n [] []::ds))) (.tup [u,v],j))(hu:aC [u,v]=true)(h:ag (ck Φ args sc (bT (bT (fj ps (.obj n [] []::ds)) x1 (u,false)) x2 (v,false))) (q,k))(hq:q.length=fs.length)(h1:aC q=true)(h2:fW q=true):ag (iL Φ sc ps x1 x2 e args n fs ds) (.obj n fs q):=by
 unfold iL
 rw[if_pos hl]
 refine h0.bnd ?_
 dsimp only
 rw[if_pos hu]
 refine h.bnd ?_
 dsimp only
 rw[if_pos hq]
 exact⟨_,rfl,h1,h2,True.intro⟩
noncomputable abbrev aq(u:V3):Qd:=(0,u.1,u.2.1,u.2.2)
noncomputable def eV(q:Qd):V3:=if q.2.1=0 then(1,0,0)else(-q.2.2.1,q.2.1,0)
theorem Hy(q:Qd):oH (aq (eV q)):=by
 unfold eV
 split
 ·rintro⟨_,h,_⟩;exact absurd h (by decide)
 ·rename_i h;rintro⟨_,_,h',_⟩;exact h h'
theorem Hx(q:Qd):(aI q (aq (eV q))).1=0:=by
 obtain⟨a,b,c,d⟩:=q
 unfold eV
 split
 ·rename_i h
  have h:b=0:=h
  subst h
  simp[aI]
 ·simp only[aI];grind
theorem DF{u:V3}(h:oH (aq u)):∃(k:Int) (v:V3),k≠0/\u=(k*v.1,k*v.2.1,k*v.2.2)/\fD (aq v):=by
 obtain⟨k,a,b,c,d,hk,e0,e1,e2,e3,p,_⟩:=qw h
 have a0:a=0:=(ab0.mp e0.symm).resolve_left hk
 subst a0
 obtain⟨x,y,z⟩:=u
 exact⟨k,(b,c,d),hk,by simp only[Prod.mk.injEq];exact⟨e1,e2,e3⟩,p⟩
theorem NT(u:V3):aI (aq u) (aq u)=kq (-(tq (aq u)).n) (1,0,0,0):=by
 obtain⟨x,y,z⟩:=u
 simp only[aI,kq,tq,n4,Prod.mk.injEq]
 refine⟨by grind,by grind,by grind,by grind⟩
theorem Jl(k:Int)(p:Qd):aI p (kq k (1,0,0,0))=kq k p:=by
 obtain⟨a,b,c,d⟩:=p
 simp only[aI,kq,Prod.mk.injEq]
 refine⟨by grind,by grind,by grind,by grind⟩
theorem HD{q:Qd}(hq:oH q):∃(k1 k2:Int) (u v:V3),k1≠0/\k2≠0/\eV q=(k1*u.1,k1*u.2.1,k1*u.2.2)/\(aI q (aq (eV q))).2=(k2*v.1,k2*v.2.1,k2*v.2.2)/\fD (aq u)/\fD (aq v)/\∃c l:Int,c≠0/\kq c (aI (aq v) (aq u))=kq l q:=by
 have h1:=Hy q
 have h2:=zI hq h1
 have e2:aI q (aq (eV q))=aq (aI q (aq (eV q))).2:=by
  have:=Hx q
  generalize aI q (aq (eV q))=s at *
  obtain⟨a,b,c,d⟩:=s
  cases this
  rfl
 rw[e2]at h2
 obtain⟨k1,u,hk1,eu,pu⟩:=DF h1
 obtain⟨k2,v,hk2,ev,pv⟩:=DF h2
 refine⟨k1,k2,u,v,hk1,hk2,eu,ev,pu,pv,k2*k1,-(tq (aq (eV q))).n,ak8 hk2 hk1,?_⟩
 have a1:aq (eV q)=kq k1 (aq u):=by rw[eu];simp only[kq,aq,ae6]
 have a2:aI q (aq (eV q))=kq k2 (aq v):=by rw[e2,ev];simp only[kq,aq,ae6]
 rw[<- uM,<- a2,<- a1,zJ,NT,Jl]
theorem WL(b c d:Int):gI [0,b,c,d]=gI [b,c,d]:=by unfold gI;simp[bZ]
theorem Kw{k:Int}(hk:k≠0)(p:Pm 0 b c d):gI [k*b,k*c,k*d]=k.natAbs:=by
 rw[<- WL]
 have:=oS hk p
 rw[ae6]at this
 exact this
theorem Gp{k:Int}(hk:k≠0)(h:¬ (k*b=0/\k*c=0/\k*d=0)):L2.atI ((([k*b,k*c,k*d]:List Int).filter fun t => !decide (t=0)).map D.int) 0=some (.int (k*cf 0 b c d)):=by
 have:=uK (x:=0) (y:=k*b) (z:=k*c) (w:=k*d) (fun z=>h z.2)
 rw[show cf 0 (k*b) (k*c) (k*d)=cf (k*0) (k*b) (k*c) (k*d) by rw[ae6],gS _ _ _ _ hk]at this
 exact this
theorem uX{α:Type}{h:α->D}{bind:D->am->Option am}{body:am->Rs Fl}(g:α->Bool)(Inv:am->Prop):∀(xs:List α) (ρ:am),(∀x∈xs,∀ρ,Inv ρ->∃ρ1,bind (h x) ρ=some ρ1/\((g x=true/\∃ρ2,ag (body ρ1) (.nx ρ2)/\Inv ρ2)\/(g x=false/\ag (body ρ1) (.rt (.bl false)))))->Inv ρ ->
  (xs.all g=true/\∃ρ',ag (dO bind body (xs.map h) ρ) (.nx ρ')/\Inv ρ')\/(xs.all g=false/\ag (dO bind body (xs.map h) ρ) (.rt (.bl false)))
 | [],ρ,_,i=>.inl ⟨rfl,ρ,⟨[],rfl,True.intro⟩,i⟩
 | x::xs,ρ,step,i=>by
  obtain⟨ρ1,hb,h1⟩:=step x ZV ρ i
  have e:dO bind body ((x::xs).map h) ρ=(body ρ1).bnd (jh (dO bind body (xs.map h))):=by
   show(match bind (h x) ρ with|none=>Rs.st|some ρ1=>(body ρ1).bnd (jh (dO bind body (xs.map h))))=_
   rw[hb]
  rw[e,List.all_cons]
  rcases h1 with⟨hg,ρ2,h2,i2⟩|⟨hg,h2⟩
  ·rw[hg,Bool.true_and]
   rcases uX g Inv xs ρ2 (fun y hy=>step y (ZR _ hy)) i2 with⟨ha,ρ',h3,i3⟩|⟨ha,h3⟩
   ·exact .inl ⟨ha,ρ',h2.bnd h3,i3⟩
   ·exact .inr ⟨ha,h2.bnd h3⟩
  ·rw[hg,Bool.false_and]
   exact .inr ⟨rfl,h2.bnd ⟨[],rfl,True.intro⟩⟩
theorem Az{α:Type}{h:α->D}{tg it:Expr}{body:List Stmt}{d:D}(g:α->Bool)(Inv:am->Prop)(xs:List α)(hi:ag (aE Φ it true sc (demote it ρ)) (d,k))(hd:items d=some (xs.map h))(h0:Inv (demote it ρ))
  (step:∀x∈xs,∀ρ,Inv ρ->∃ρ1,bX sc tg (h x) ρ=some ρ1/\((g x=true/\∃ρ2,ag (aH Φ body sc ρ1) (.nx ρ2)/\Inv ρ2)\/(g x=false/\ag (aH Φ body sc ρ1) (.rt (.bl false))))) (hk:k<=1:=by first|exact ZP 1|exact ZY 1) (ht:fF it tg=true:=by rfl) :
  (xs.all g=true/\∃ρ',ag (eI Φ (.For tg it body [] p) sc ρ) (.nx ρ')/\Inv ρ')\/(xs.all g=false/\ag (eI Φ (.For tg it body [] p) sc ρ) (.rt (.bl false))):=by
 rcases uX (bind:=bX sc tg) (body:=aH Φ body sc) (h:=h) g Inv xs (demote it ρ) step h0 with⟨ha,ρ',h3,i3⟩|⟨ha,h3⟩
 ·exact .inl ⟨ha,ρ',j6 hi hd hk ht h3,i3⟩
 ·exact .inr ⟨ha,j6 hi hd hk ht h3⟩
theorem HY{ss:List Stmt}{b:Bool}{Inv:am->Prop}(h:(b=true/\∃ρ',ag (eI Φ s sc ρ) (.nx ρ')/\Inv ρ')\/(b=false/\ag (eI Φ s sc ρ) (.rt (.bl false))))(k:∀ρ',Inv ρ'->ag (aH Φ ss sc ρ') (.rt (.bl true))):ag (aH Φ (s::ss) sc ρ) (.rt (.bl b)):=by
 rcases h with⟨rfl,ρ',h1,h2⟩|⟨rfl,h1⟩
 ·exact aX h1 (k ρ' h2)
 ·exact bW h1
theorem KS{b:Bool}{Inv:am->Prop}(h:(b=true/\∃ρ',ag (eI Φ s sc ρ) (.nx ρ')/\Inv ρ')\/(b=false/\ag (eI Φ s sc ρ) (.rt (.bl false))))(k:∀ρ',Inv ρ'->Inv' ρ'):(b=true/\∃ρ',ag (aH Φ [s] sc ρ) (.nx ρ')/\Inv' ρ')\/(b=false/\ag (aH Φ [s] sc ρ) (.rt (.bl false))):=by
 rcases h with⟨hb,ρ',h1,h2⟩|⟨hb,h1⟩
 ·exact .inl ⟨hb,ρ',aX h1 fo,k ρ' h2⟩
 ·exact .inr ⟨hb,bW h1⟩
theorem KT{c:Expr}{a b:List Stmt}{x y:Int}(hc:ag (aE Φ c false sc ρ) (.bl (!eqD (.int x) (.int y)),k))(ha:ag (aH Φ a sc ρ) (.rt (.bl false)))(hb:b=[])(i:Inv' ρ) :
  (decide (x=y)=true/\∃ρ',ag (aH Φ [.If c a b p] sc ρ) (.nx ρ')/\Inv' ρ')\/(decide (x=y)=false/\ag (aH Φ [.If c a b p] sc ρ) (.rt (.bl false))):=by
 subst hb
 rw[di]at hc
 cases e:decide (x=y)with
 | true=>rw[e]at hc;exact .inl ⟨rfl,ρ,aM hc rfl fo,i⟩
 | false=>rw[e]at hc;exact .inr ⟨rfl,eD hc rfl (by rw[ad1];exact ha)⟩
noncomputable instance eqT9:DecidableEq T9:=fun a b=>decidable_of_iff (a.l=b.l) ⟨T9.ext,fun h=>by rw[h]⟩
noncomputable def qa(p:Qd):Nat->Int
 | 0=>p.1
 | 1=>p.2.1
 | 2=>p.2.2.1
 | _=>p.2.2.2
noncomputable def T9.mir(T:T9):T9:=⟨T.n,-T.a,-T.b,-T.c,-T.d,-T.e,-T.f,-T.g,-T.h,-T.i⟩
theorem T9.bh_mir(A B:T9):A.mir.bh B.mir=A.bh B:=by
 unfold T9.mir T9.bh bD
 simp only[aj1]
theorem T9.bd_mir{T:T9}(h:T.bd k):T.mir.bd k:=by
 intro x hx
 simp only[T9.l,T9.mir,ZT,ab3,ae5]at hx
 rcases hx with rfl|rfl|rfl|rfl|rfl|rfl|rfl|rfl|rfl|rfl
 ·exact h _ (by simp[T9.l])
 all_goals rw[ad6];exact h _ (by simp[T9.l])
theorem T9.lows{A B:T9}(ha:0<A.n)(hb:0<B.n):(A.low.bh B.low).low=(A.bh B).low:=by
 rw[T9.low_l ha (T9.lown hb),T9.low_r ha hb]


end K
namespace Sp
open PySem PySem.Spec PyProof.Rows L2
variable{X:Cx}
end Sp
namespace K
open PySem L2 Sp Qm
variable{p q:Qd}{k l:Int}
theorem Fq(hp:fD p)(hq:fD q)(e:(tq p).low=(tq q).low):p=q:=by
 obtain⟨K,hK,f0,f1,f2,f3,f4,f5,f6,f7,f8,f9⟩:=nV hp
 obtain⟨M,hM,g0,g1,g2,g3,g4,g5,g6,g7,g8,g9⟩:=nV hq
 rw[e]at f0 f1 f2 f3 f4 f5 f6 f7 f8 f9
 have e0:=f0.symm.trans g0;have e1:=f1.symm.trans g1;have e2:=f2.symm.trans g2;have e3:=f3.symm.trans g3
 have e4:=f4.symm.trans g4;have e5:=f5.symm.trans g5;have e6:=f6.symm.trans g6;have e7:=f7.symm.trans g7
 have e8:=f8.symm.trans g8;have e9:=f9.symm.trans g9
 clear f0 f1 f2 f3 f4 f5 f6 f7 f8 f9 g0 g1 g2 g3 g4 g5 g6 g7 g8 g9 e
 have K0:K≠0:=by omega
 have M0:M≠0:=by omega
 have key:∀x x':Int,x≠0->K*(x*x)=M*(x'*x')->K*(x*p.1)=M*(x'*q.1)->K*(x*p.2.1)=M*(x'*q.2.1)->K*(x*p.2.2.1)=M*(x'*q.2.2.1)->K*(x*p.2.2.2)=M*(x'*q.2.2.2)->p=q:=fun x x' hx h0 h1 h2 h3 h4=>by
  have x0:x'≠0:=fun z=>by
   rw[z,ae6,ae6]at h0
   rcases ab0.mp h0 with r|r
   ·exact K0 r
   ·rcases ab0.mp r with r|r<;>exact hx r
  refine rP (ak8 K0 hx) (ak8 M0 x0) hp hq ?_
  unfold kq
  rw[ZU,ZU,ZU,ZU,ZU,ZU,ZU,ZU,h1,h2,h3,h4]
 by_cases ha:p.1=0
 ·by_cases hb:p.2.1=0
  ·by_cases hc:p.2.2.1=0
   ·by_cases hd:p.2.2.2=0
    ·exact absurd ⟨ha,hb,hc,hd⟩ hp.ne
    ·exact key p.2.2.2 q.2.2.2 hd e9 (by rw[ZX p.2.2.2,ZX q.2.2.2];exact e3) (by rw[ZX p.2.2.2,ZX q.2.2.2];exact e6) (by rw[ZX p.2.2.2,ZX q.2.2.2];exact e8) e9
   ·exact key p.2.2.1 q.2.2.1 hc e7 (by rw[ZX p.2.2.1,ZX q.2.2.1];exact e2) (by rw[ZX p.2.2.1,ZX q.2.2.1];exact e5) e7 e8
  ·exact key p.2.1 q.2.1 hb e4 (by rw[ZX p.2.1,ZX q.2.1];exact e1) e4 e5 e6
 ·exact key p.1 q.1 ha e0 e0 e1 e2 e3
theorem mK{a b c d:Int}(hk:k≠0)(hl:l≠0)(h:k*a*(l*b)=k*c*(l*d)):a*b=c*d:=by
 have e:(k*l)*(a*b)=(k*l)*(c*d):=by
  rw[show(k*l)*(a*b)=k*a*(l*b) by simp only[ZU,Int.mul_left_comm,ZX],h]
  simp only[ZU,Int.mul_left_comm,ZX]
 exact Int.eq_of_mul_eq_mul_left (ak8 hk hl) e
theorem Jz(hp:fD p)(hq:fD q)(h1:p.2.1*q.1=p.1*q.2.1)(h2:p.2.2.1*q.1=p.1*q.2.2.1)(h3:p.2.2.1*q.2.1=p.2.1*q.2.2.1)(h4:p.2.2.2*q.1=p.1*q.2.2.2)(h5:p.2.2.2*q.2.1=p.2.1*q.2.2.2)(h6:p.2.2.2*q.2.2.1=p.2.2.1*q.2.2.2):p=q:=by
 obtain⟨a,b,c,d⟩:=p
 obtain⟨e,f,g,h⟩:=q
 simp only at h1 h2 h3 h4 h5 h6
 have key:∀x y:Int,x≠0->x*e=y*a->x*f=y*b->x*g=y*c->x*h=y*d->(a,b,c,d)=(e,f,g,h):=by
  intro x y hx e1 e2 e3 e4
  have hy:y≠0:=by
   intro z
   subst z
   rw[Int.zero_mul]at e1 e2 e3 e4
   exact hq.ne ⟨(ab0.mp e1).resolve_left hx,(ab0.mp e2).resolve_left hx,(ab0.mp e3).resolve_left hx,(ab0.mp e4).resolve_left hx⟩
  exact rP (p:=(a,b,c,d)) (q:=(e,f,g,h)) hy hx hp hq (by unfold kq;simp only;rw[e1,e2,e3,e4])
 by_cases ha:a=0
 ·by_cases hb:b=0
  ·by_cases hc:c=0
   ·have hd:d≠0:=fun z=>hp.ne ⟨ha,hb,hc,z⟩
    exact key d h hd (by rw[h4,ZX]) (by rw[h5,ZX]) (by rw[h6,ZX]) (ZX _ _)
   ·exact key c g hc (by rw[h2,ZX]) (by rw[h3,ZX]) (ZX _ _) (by rw[<- h6,ZX])
  ·exact key b f hb (by rw[h1,ZX]) (ZX _ _) (by rw[<- h3,ZX]) (by rw[<- h5,ZX])
 ·exact key a e ha (ZX _ _) (by rw[<- h1,ZX]) (by rw[<- h2,ZX]) (by rw[<- h4,ZX])
noncomputable def xQ(p q:Qd):Bool:=(List.range 4).all fun i=>(List.range i).all fun j=>decide (qa p i*qa q j=qa p j*qa q i)
theorem BY(p q:Qd):xQ p q=true↔(p.2.1*q.1=p.1*q.2.1)/\(p.2.2.1*q.1=p.1*q.2.2.1/\p.2.2.1*q.2.1=p.2.1*q.2.2.1)/\(p.2.2.2*q.1=p.1*q.2.2.2/\p.2.2.2*q.2.1=p.2.1*q.2.2.2/\p.2.2.2*q.2.2.1=p.2.2.1*q.2.2.2):=by
 have e:xQ p q=(true&&((decide (p.2.1*q.1=p.1*q.2.1)&&true)&&((decide (p.2.2.1*q.1=p.1*q.2.2.1)&&(decide (p.2.2.1*q.2.1=p.2.1*q.2.2.1)&&true))&&((decide (p.2.2.2*q.1=p.1*q.2.2.2)&&(decide (p.2.2.2*q.2.1=p.2.1*q.2.2.2)&&(decide (p.2.2.2*q.2.2.1=p.2.2.1*q.2.2.2)&&true)))&&true)))):=rfl
 rw[e]
 simp only[ZZ,decide_eq_true_eq,Bool.true_and,Bool.and_true]
theorem F1(hk:k≠0)(hl:l≠0)(hp:fD p)(hq:fD q):xQ (kq k p) (kq l q)=decide (p=q):=by
 rw[ah0,BY,decide_eq_true_eq]
 constructor
 ·rintro⟨h1,⟨h2,h3⟩,h4,h5,h6⟩
  exact Jz hp hq (mK hk hl h1) (mK hk hl h2) (mK hk hl h3) (mK hk hl h4) (mK hk hl h5) (mK hk hl h6)
 ·rintro rfl
  have c:∀a b:Int,k*a*(l*b)=k*b*(l*a):=fun a b=>by simp only[ZU,Int.mul_left_comm,ZX]
  exact⟨c _ _,⟨c _ _,c _ _⟩,c _ _,c _ _,c _ _⟩
section
variable{Φ:Fx}{sc:Scope}{ρ ρ1:am}{ss:List Stmt}
theorem Cy{x y:Str}(h:PyData.strOk x=true)(g:PyData.strOk y=true):kQ (.str x) (.str y)=true:=by
 have k:∀x:Str,PyData.strOk x=true->SeqAt.shaped (D.str x).py=true:=fun x h=>by
  rw[D.py];unfold SeqAt.shaped
  simp[PyData.canLay0,PyData.depth,h]
 unfold kQ
 rw[k x h,k y g];rfl
end
section
variable{Φ:Fx}{sc:Scope}{ρ ρ1:am}{ss:List Stmt}{P Q:am->Prop}
noncomputable def O9:Stmt->Expr
 | .For t _ _ _ _=>t
 | _=>.Name (Str.ofString "") ⟨0,0,0,0⟩
noncomputable def Ea:Stmt->Expr
 | .For _ i _ _ _=>i
 | _=>.Name (Str.ofString "") ⟨0,0,0,0⟩
noncomputable def mR:Stmt->List Stmt
 | .For _ _ b _ _=>b
 | _=>[]
theorem Pc{a:Expr}{p:Pos}{it:Bool}{b c:Bool}{k:Nat}(h:ag (aE Φ a false sc ρ) (.bl b,k))(e:(!b)=c):ag (aE Φ (.UnaryOp .Not a p) it sc ρ) (.bl c,0):=by
 subst e
 exact(show ag (Rs.bnd (aE Φ a false sc ρ) fun p=>(match zd .Not p.1 with|some d=>.ok (d,0) []|none=>.st)) (.bl (!b),0)from ag.bnd h cS)
end
end K
namespace Sp
open PySem PySem.Spec PyProof.Rows L2
variable{X:Cx}
section
variable{prog:Program}{w:World}{A:Around}{E:Value->Shared->Prop}{s:Shared}
end

def KQ(x:Int):List Int->List Int
 | []=>[x]
 | y::l=>if x<=y then x::y::l else y::KQ x l
def BG:List Int->List Int
 | []=>[]
 | x::l=>KQ x (BG l)
def VP(b:Bool)(n0:Nat)(p0 kp:Pos):List Keyword:=cond b [⟨some (Str.ofString "reverse"),.Constant (.bool true) n0 p0,kp⟩] []
def QG(b:Bool)(ns:List Int):List Int:=cond b (BG ns).reverse (BG ns)
section
variable{prog:Program}{w:World}{A:Around}{E:Value->Shared->Prop}{s:Shared}
end
inductive Xd(Φ:Fx)(sc:Scope)(ρ:am):Expr->D->Prop where
 | ev {e:Expr} {d:D} (h:ag (aE Φ e false sc ρ) (d,0)):Xd Φ sc ρ e d
 | lrev {e:Expr} {l:List D} {k:Nat} {f g:Str} {p q r t:Pos} (h:ag (ck Φ [e] sc ρ) ([.lst l],k)) (fl:aC l=true) (hf:f = "list" := by rfl) (hg:g = "reversed" := by rfl) (gf:sc.names.lookup f=some .globalImplicit:=by rfl) (gg:sc.names.lookup g=some .globalImplicit:=by rfl):Xd Φ sc ρ (.Call (.Name f p) [.Call (.Name g q) [e] [] r] [] t) (.lst l.reverse)
 | srt (b:Bool) {e:Expr} {ns:List Int} {k n0:Nat} {f:Str} {p t p0 kp:Pos} (h:ag (ck Φ [e] sc ρ) ([.lst (ns.map D.int)],k)) (hn:ns.length<64) (hf:f = "sorted" := by rfl) (gf:sc.names.lookup f=some .globalImplicit:=by rfl):Xd Φ sc ρ (.Call (.Name f p) [e] (VP b n0 p0 kp) t) (.lst ((QG b ns).map D.int))
 | short {e:Expr} {l:List D} {k:Nat} {f:Str} {p t:Pos} (h:ag (ck Φ [e] sc ρ) ([.lst l],k)) (hn:l.length<2) (fl:aC l=true) (hf:f = "sorted" := by rfl) (gf:sc.names.lookup f=some .globalImplicit:=by rfl):Xd Φ sc ρ (.Call (.Name f p) [e] [] t) (.lst l)
 | pick4 {e1 e2 e3 e4 i:Expr} {d1 d2 d3 d4 d:D} {j:Int} {k:Nat} {lp p:Pos} (h1:Xd Φ sc ρ e1 d1) (h2:Xd Φ sc ρ e2 d2) (h3:Xd Φ sc ρ e3 d3) (h4:Xd Φ sc ρ e4 d4) (hi:ag (aE Φ i false sc ρ) (.int j,k)) (ha:atI [d1,d2,d3,d4] j=some d):Xd Φ sc ρ (.Subscript (.List [e1,e2,e3,e4] lp) i p) d
inductive Rn(Φ:Fx)(sc:Scope):List Stmt->am->D->Prop where
 | fin {ss:List Stmt} {ρ:am} {r:D} (h:ag (aH Φ ss sc ρ) (.rt r)):Rn Φ sc ss ρ r
 | cut (n:Nat) {ss:List Stmt} {ρ ρ1:am} {r:D} (h:ag (aH Φ (ss.take n) sc ρ) (.nx ρ1)) (k:Rn Φ sc (ss.drop n) ρ1 r):Rn Φ sc ss ρ r
 | dem {ss:List Stmt} {ρ:am} {r:D} (k:Rn Φ sc ss (kh ρ) r):Rn Φ sc ss ρ r
 | set {x:Str} {e:Expr} {px q:Pos} {ss:List Stmt} {ρ:am} {d r:D} (h:Xd Φ sc ρ e d) (k:Rn Φ sc ss (bT ρ x (d,true)) r) (hx:dE sc x=true:=by rfl) (hc:jT e=false:=by rfl):Rn Φ sc (.Assign [.Name x px] e q::ss) ρ r
def Qe(l:List Int):D:=.lst (l.map D.int)
def Pj(ρ:am)(x:Str):am:=fun y=>if y=x then none else ρ y
def Bp(X:Cx)(H0:Hp)(tg:Expr)(body:List Stmt):List D->am->Fl->Prop
 | [],ρ,fl=>fl=.nx ρ
 | d::ds,ρ,fl => ∃ρ1,GD X ρ tg d ρ1/\((∃ρ2,iw X H0 ρ1 body (.nx ρ2)/\Bp X H0 tg body ds ρ2 fl)\/∃r,fl=.rt r/\iw X H0 ρ1 body (.rt r))
theorem FE{H0:Hp}{ρ:am}{tg iter:Expr}{body:List Stmt}{pos:Pos}{ds:List D}{k:Nat}{fl:Fl}(hp:PassesOwn (model X.prog X.w) X.A X.env X.xe)(hcalm:X.calm=true)
  (hi:IE X (demote iter ρ) tg iter ds k) (hk:k<=1) (h:Bp X H0 tg body ds (demote iter ρ) fl)
  (hs:∀x,foldedSetIterable iter X.env x=pure x):SD X H0 ρ (.For tg iter body [] pos) fl:=by
 intro pins s σ H D0 I ⟨ow0,E0,hl,B0,q0⟩
 obtain⟨ow,E,k0⟩:=pj (e:=iter) E0
 have B:=B0.keep k0
 have q:=q0.keep k0
 have pb:gM X body (fun D σ H => ∃ρ fl,iw X H0 ρ body fl/\zp X H0 ρ fl D σ H):=fun pins s σ H D I ⟨ρ1,fl1,h1,h2⟩=>h1 pins s σ H D I h2
 have pg:PG X tg (fun v σ H Q => ∃g:TG,PG X tg g/\g v σ H Q):=fun pins s σ H v u Q I r ⟨g,h1,h2⟩=>h1 pins s σ H v u Q I r h2
 refine zE hp hcalm (hi ow) pg pb hs pins s σ H D0 I ⟨E,fun J H1 s1 itd=>?_⟩
 refine⟨fun i m σ' H'=>m=ds.length-i/\i<=ds.length/\∃ow' ρ',bm X ow' H' σ' ρ'/\σ'.length=X.N.length/\d7 H0 ow' H'/\bH ow H1 ow' H'/\Bp X H0 tg body (ds.drop i) ρ' fl,
  ⟨ds.length,by simp,ZY _,ow,_,E.same s1,hl,B.keep (bH.same s1),bH.refl _ _,h⟩,?_⟩
 rintro i m σ' H' ⟨rfl,hile,ow',ρ',E',hl',B',k',hf⟩
 have q':oh X H0 ow' H' fl D0:=q.keep ((bH.same s1).trans k')
 have st:fz (Kd ow H k H1) (Kd ow H k H1) H1 H':=⟨fun a o ha hn=>k'.keep a o ha (.inl hn),fun a vs ha p=>k'.keep a _ ha (.inr (gm E.own hk p.1)),fun _ _ _ p=>p,fun _ p=>p⟩
 have it:=itd i H' st
 by_cases hlt:i<ds.length
 ·obtain⟨go,yl⟩:=it.1 ds[i] (aa3 hlt)
  have hdrop:ds.drop i=ds[i]::ds.drop (i+1):=List.drop_eq_getElem_cons hlt
  rw[hdrop]at hf
  refine .inr ⟨go,fun σ2 H2=>i+1<=ds.length/\∃ow2 ρ2,bm X ow2 H2 σ2 ρ2/\σ2.length=X.N.length/\d7 H0 ow2 H2/\bH ow H1 ow2 H2/\Bp X H0 tg body (ds.drop (i+1)) ρ2 fl,fun σ2 H2 n=>⟨ds.length-(i+1),by omega,rfl,n.1,n.2⟩,fun x H3 y3=>?_⟩
  obtain⟨sm3,rx⟩:=yl x H3 y3
  obtain⟨ρ1,⟨g,g1,g2⟩,hf⟩:=hf
  have rx':ao X.K H3 (fun a b=>b=true->ow' a=none) ds[i] x:=rx.impH (fun a o ha p _=>by
   obtain⟨o1,h1⟩:=p.2 rfl
   exact k'.low a o1 h1 (gm E.own hk p.1)) fun a _ z=>(by cases z)
  refine⟨g,g1,g2 ow' x σ' H3 _ hl' (E'.same sm3) rx' fun σ2 hl2 E2=>?_⟩
  have k3:bH ow' H' ow' H3:=bH.same sm3
  rcases hf with⟨ρ2,hb,hf⟩|⟨r,rfl,hb⟩
  ·exact⟨ρ1,.nx ρ2,hb,ow',E2,hl2,B'.keep k3,fun ow2 σ3 H4 a b c=>⟨hlt,ow2,ρ2,a,b,(B'.keep k3).keep c,k'.trans (k3.trans c),hf⟩⟩
  ·exact⟨ρ1,.rt r,hb,ow',E2,hl2,B'.keep k3,q'⟩
 ·have ei:i=ds.length:=by omega
  subst ei
  rw[List.drop_length]at hf
  cases (show fl=.nx ρ' from hf)
  exact .inl ⟨it.2 (ZP _),q' ow' σ' H' E' hl' (bH.refl _ _)⟩
inductive Rp(Φ:Fx)(sc:Scope)(tg c:Expr):List D->am->am->Prop where
 | nil {ρ:am}:Rp Φ sc tg c [] ρ ρ
 | cons {d:D} {ds:List D} {ρ ρ1 ρ':am} {k:Nat} (hb:bX sc tg d ρ=some ρ1) (hc:ag (aE Φ c false sc ρ1) (.bl false,k)) (h:Rp Φ sc tg c ds ρ1 ρ'):Rp Φ sc tg c (d::ds) ρ ρ'
inductive Xo(Φ:Fx)(sc:Scope)(ρ:am):Option Expr->Option Int->Prop where
 | no:Xo Φ sc ρ none none
 | yes {e:Expr} {i:Int} {k:Nat} (h:ag (aE Φ e false sc ρ) (.int i,k)):Xo Φ sc ρ (some e) (some i)
inductive vC(Φ:Fx)(sc:Scope)(ρ:am):Expr->D->Prop where
 | name {x:Str} {p:Pos} {m:List D} (h:ρ x=some (.lst m,false)) (hx:fR x=true):vC Φ sc ρ (.Name x p) (.lst m)
 | cut {e:Expr} {lo hi:Option Expr} {l h:Option Int} {m:List D} {p2 p:Pos} (he:vC Φ sc ρ e (.lst m)) (hl:Xo Φ sc ρ lo l) (hh:Xo Φ sc ρ hi h):vC Φ sc ρ (.Subscript e (.Slice lo hi none p2) p) (.lst (kT m l h))
 | cat {a b:Expr} {l m:List D} {p:Pos} (ha:vC Φ sc ρ a (.lst l)) (hb:vC Φ sc ρ b (.lst m)) (hn:l.length+m.length<=dw):vC Φ sc ρ (.BinOp a .Add b p) (.lst (l++m))
mutual
inductive Rf(Φ:Fx)(sc:Scope):List Stmt->am->Fl->Prop where
 | base {ss:List Stmt} {ρ:am} {fl:Fl} (h:ag (aH Φ ss sc ρ) fl):Rf Φ sc ss ρ fl
 | cut (n:Nat) {ss:List Stmt} {ρ ρ1:am} {fl:Fl} (h:ag (aH Φ (ss.take n) sc ρ) (.nx ρ1)) (k:Rf Φ sc (ss.drop n) ρ1 fl):Rf Φ sc ss ρ fl
 | seq {s:Stmt} {ss:List Stmt} {ρ ρ1:am} {fl:Fl} (h:nF Φ sc s ρ (.nx ρ1)) (k:Rf Φ sc ss ρ1 fl):Rf Φ sc (s::ss) ρ fl
 | stop {s:Stmt} {ss:List Stmt} {ρ:am} {r:D} (h:nF Φ sc s ρ (.rt r)):Rf Φ sc (s::ss) ρ (.rt r)
 | dem {ss:List Stmt} {ρ:am} {fl:Fl} (k:Rf Φ sc ss (kh ρ) fl):Rf Φ sc ss ρ fl
inductive nF(Φ:Fx)(sc:Scope):Stmt->am->Fl->Prop where
 | set {x:Str} {e:Expr} {px q:Pos} {ρ:am} {d:D} (h:Xd Φ sc ρ e d) (hx:dE sc x=true) (hc:jT e=false):nF Φ sc (.Assign [.Name x px] e q) ρ (.nx (bT ρ x (d,true)))
 | setS {x:Str} {e:Expr} {px q:Pos} {ρ:am} {d:D} (h:vC Φ sc ρ e d) (hx:dE sc x=true):nF Φ sc (.Assign [.Name x px] e q) ρ (.nx (bT ρ x (d,false)))
 | app1 {x m:Str} {M:List D->List D->Nat->Rs (List D)} {i e:Expr} {p1 p2 ap cp p4:Pos} {ρ:am} {dt l l':List D} {d:D} {j:Int} {k ki:Nat} (hM:Φ.mtt m=some M) (hx:ρ x=some (.tup dt,true)) (hi:ag (aE Φ i false sc ρ) (.int j,ki)) (hs:gp i) (hat:L2.atI dt j=some (.lst l)) (h:ag (ck Φ [e] sc ρ) ([d],k)) (hn:fR x=true) (hln:(ap.endLine==cp.line)=true) (hm:ag (M l [d] k) l') :
  nF Φ sc (.Expr (.Call (.Attribute (.Subscript (.Name x p1) i p2) m ap) [e] [] cp) p4) ρ (.nx (Pj ρ x))
 | sto2 {x:Str} {e i m:Expr} {p1 p2 p3 pos:Pos} {ρ:am} {Ls:List (List Int)} {l:List Int} {j jm v:Int} {n nm k k1 k2:Nat} (hx:ρ x=some (.lst (Ls.map Qe),true)) (h:ag (aE Φ e false sc ρ) (.int v,k)) (hi:ag (aE Φ i false sc ρ) (.int j,k1)) (hm:ag (aE Φ m false sc ρ) (.int jm,k2)) (hn:fR x=true)
  (h1:ixN Ls.length j=some n) (h2:Ls[n]?=some l) (h3:ixN l.length jm=some nm) (hd:∀a y,Ls[a]?=some y->a≠n->y≠l) (hs:gp i) (hsl:∀a b c p,m ≠ .Slice a b c p) :
  nF Φ sc (.Assign [.Subscript (.Subscript (.Name x p1) i p2) m p3] e pos) ρ (.nx (bT ρ x (.lst ((Ls.set n (l.set nm v)).map Qe),true)))
 | ret {e:Expr} {q:Pos} {ρ:am} {d:D} (h:Xd Φ sc ρ e d):nF Φ sc (.Return (some e) q) ρ (.rt d)
 | iff {c:Expr} {a b:List Stmt} {pos:Pos} {ρ:am} {t:Bool} {k:Nat} {fl:Fl} (hc:ag (aE Φ c false sc ρ) (.bl t,k)) (h:Rf Φ sc (cond t a b) ρ fl):nF Φ sc (.If c a b pos) ρ fl
 | forC {tg it:Expr} {body:List Stmt} {pos:Pos} {ρ:am} {d:D} {ds:List D} {k:Nat} {fl:Fl} (hi:ag (aE Φ it true sc (demote it ρ)) (d,k)) (hd:items d=some ds) (hk:k<=1) (ht:fF it tg=true) (h:Rc Φ sc tg body ds (demote it ρ) fl):nF Φ sc (.For tg it body [] pos) ρ fl
 | forP {tg it c:Expr} {a:List Stmt} {pos q:Pos} {ρ ρ':am} {d:D} {ds:List D} {k:Nat} (hi:ag (aE Φ it true sc ρ) (d,k)) (hd:items d=some ds) (hl:aC ds=true) (ht:fF it tg=true) (h:Rp Φ sc tg c ds ρ ρ'):nF Φ sc (.For tg it [.If c a [] q] [] pos) ρ (.nx ρ')
inductive Rc(Φ:Fx)(sc:Scope):Expr->List Stmt->List D->am->Fl->Prop where
 | nil {tg:Expr} {body:List Stmt} {ρ:am}:Rc Φ sc tg body [] ρ (.nx ρ)
 | cons {tg:Expr} {body:List Stmt} {d:D} {ds:List D} {ρ ρ1 ρ2:am} {fl:Fl} (hb:bX sc tg d ρ=some ρ1) (h:Rf Φ sc body ρ1 (.nx ρ2)) (k:Rc Φ sc tg body ds ρ2 fl):Rc Φ sc tg body (d::ds) ρ fl
 | stop {tg:Expr} {body:List Stmt} {d:D} {ds:List D} {ρ ρ1:am} {r:D} (hb:bX sc tg d ρ=some ρ1) (h:Rf Φ sc body ρ1 (.rt r)):Rc Φ sc tg body (d::ds) ρ (.rt r)
end
def CQ(ds:List D):R1 :=
 match ds with
 | [.int a,.int b]=>.ok (.int (if b<a then b else a),0) []
 | _=>.st
theorem Hd:ef "min" CQ:=by
 refine⟨by decide +kernel,by decide +kernel,by decide +kernel,rfl,fun X ds z l o hc h _=>.inl ⟨"min", by decide +kernel,?_⟩⟩
 unfold CQ at h
 split at h
 ·rename_i a b
  cases h
  refine⟨_,AZ hc,fun ow H0 H2 vs P Q o s rx q=>?_⟩
  rw[ar]at rx
  obtain⟨v,r,rfl,r1,r2⟩:=rx
  obtain⟨w,rfl,r3⟩:=r2.only
  rw[ao]at r1 r3
  subst r1 r3
  exact⟨a,b,rfl,q _ _ (aJ.refl _) (by rw[ao])⟩
 ·cases h
variable{X:Cx}
def yG(ds:List D):R1 :=
 match ds with
 | [.str x]=>.ok (.int x.length,0) [x.length<=1048576]
 | ds=>CU ds
theorem CT:ef "len" yG:=by
 refine⟨by decide +kernel,by decide +kernel,by decide +kernel,rfl,fun X ds z l o hc h hp=>?_⟩
 unfold yG at h
 split at h
 ·rename_i x
  refine .inl ⟨"len", by decide +kernel,?_⟩
  cases h
  refine⟨_,vt,fun ow H0 H2 vs P Q o s rx q=>?_⟩
  obtain⟨v,rfl,ry⟩:=rx.only
  rw[ao]at ry;subst ry
  exact⟨x,rfl,by rw[sizeLine_eq];have:=hp.1;omega,q _ _ (aJ.refl _) (by rw[ao])⟩
 ·exact He.2.2.2.2 X _ z l o hc h hp
def mZ(ds:List D):R1 :=
 match ds with
 | [.str x]=>(match intText? x with|some n=>.ok (.int n,0) [x.length<=640]|none=>.st)
 | ds=>CY ds
theorem A3:dN X (.type "int") (fun xs H Q => ∃x n,xs=[.str x]/\intText? x=some n/\x.length<=640/\Q (.int n) H):=by
 intro pins s σ H xs us Q I r h
 obtain⟨x,n,rfl,h1,h2,q⟩:=h
 obtain⟨u,rfl,t,rfl⟩:=dX r
 exact W.KIN.call_text h1 h2 ⟨.int n,H,I.tok _,⟨_,rfl⟩,q⟩
theorem CW:ef "int" mZ:=by
 refine⟨by decide +kernel,by decide +kernel,by decide +kernel,rfl,fun X ds z l o hc h hp=>?_⟩
 unfold mZ at h
 split at h
 ·rename_i x
  split at h
  ·rename_i n e
   refine .inr ⟨"int", by decide +kernel,?_⟩
   cases h
   refine⟨_,A3,fun ow H0 H2 vs P Q o s rx q=>?_⟩
   obtain⟨v,rfl,ry⟩:=rx.only
   rw[ao]at ry;subst ry
   exact⟨x,n,rfl,e,hp.1,q _ _ (aJ.refl _) (by rw[ao])⟩
  ·cases h
 ·exact Hg.2.2.2.2 X _ z l o hc h hp
theorem Ic:Ek X (fun x lo hi H Q => ∃y,x=.str y/\y.length<=sizeLine/\Q (.str (Txt.slice y lo hi)) H):=by
 intro pins s σ H x v vl vu lo hi sl Q I rx hs pl pu h
 obtain⟨y,rfl,hy,q⟩:=h
 obtain⟨t,rfl⟩:=rx
 refine⟨"str", "str.__getitem__", PySem.F.slot_str_getitem.lookup,typeIs_str s y t,?_⟩
 obtain⟨l,hl,el⟩:∃l:Option (Int×Tok),partValue l=vl/\l.map (·.1)=lo:=by
  cases pl with
  | none=>exact⟨none,rfl,rfl⟩
  | int i t=>exact⟨some (i,t),rfl,rfl⟩
 obtain⟨m,hm,em⟩:∃l:Option (Int×Tok),partValue l=vu/\l.map (·.1)=hi:=by
  cases pu with
  | none=>exact⟨none,rfl,rfl⟩
  | int i t=>exact⟨some (i,t),rfl,rfl⟩
 obtain⟨o,h1,h2,h3⟩:=hs
 refine wpAny_getItem_str_slice (l:=l) (u:=m) (st:=none) ⟨o,h1,h2,by rw[h3,hl,hm];rfl⟩ rfl ?_
 subst el em
 exact post_val_or_str ⟨ZN (Txt.slice_le y (l.map (·.1)) (m.map (·.1))) hy,fun t' k=>⟨.str (Txt.slice y (l.map (·.1)) (m.map (·.1))),H,I.tok _,⟨t',rfl⟩,q⟩⟩
def aN(x:D)(lo hi:Option Int):R1 :=
 match x with
 | .str y=>.ok (.str (Txt.slice y lo hi),0) [y.length<=1048576]
 | x=>t9 x lo hi
theorem ay:pS aN:=fun X ρ a lo hi p2 pos x z l h k j o ha hl hh e hp=>by
 unfold aN at e
 split at e
 ·rename_i y
  cases e
  refine fun ow=>bS (nO Ic (ha ow) (hl ow) (hh ow)) fun σ H Q ⟨E,q⟩=>⟨E,fun v H1 s1 r1=>⟨E.same s1,fun H2 s2=>⟨(E.same s1).same s2,fun H3 s3=>?_⟩⟩⟩
  rw[ao]at r1;subst r1
  exact⟨y,rfl,by rw[sizeLine_eq];have:=hp.1;omega,q _ H3 (s1.trans (s2.trans s3)) (by rw[ao])⟩
 ·exact CB ha hl hh e hp
theorem zx{prog:Program}{w:World}{A:Around}{E:Value->Shared->Prop}{s:Shared}{x y:Str}{t u:Tok}{Q:Value->Shared->Prop}(hy:(y.length==0)=false)(hsz:x.length+2<=sizeLine)
  (h:∀(l:List (Str×Tok)) (k:Nat),l.map (·.1)=Txt.split x y->Q (.ref s.heap.objs.size) { s with heap:=s.heap.push { cls:=.type "list", data:=.seq (strValues l).toArray },toks:=k }) :
  wpAny (model prog w) A (call (.builtin "str.split") [.str x t,.str y u]) Q E s:=by
 have e1:=(fact_split x y).2
 cases h1:(decide (x.length<y.length) || decide (Builtin.Str.strKind x<Builtin.Str.strKind y))with
 | true=>exact call_meets PySem.F.slot_str_split (typeIs_str s x t) PySem.F.entry_str_split (PySem.F.args_str_split_2 _ _) (meets_str_split_cannot_occur x y t u h1) (h [(x,t)] s.toks (by unfold Txt.split;rw[if_pos h1];rfl))
 | false =>
  cases hf:(Builtin.Str.occurrences x y 0 x.length (x.length+1)).isEmpty with
  | true=>exact call_meets PySem.F.slot_str_split (typeIs_str s x t) PySem.F.entry_str_split (PySem.F.args_str_split_2 _ _) (meets_str_split_not_found x y t u h1 hy hf) (h [(x,t)] s.toks (by unfold Txt.split;rw[if_neg (by rw[h1];decide),if_pos hf];rfl))
  | false =>
   have es:Txt.split x y=Builtin.Str.partsBetween x (Builtin.Str.occurrences x y 0 x.length (x.length+1)) y.length:=by unfold Txt.split;rw[if_neg (by rw[h1];decide),if_neg (by rw[hf];decide)]
   rw[es]at e1 h
   refine call_meets PySem.F.slot_str_split (typeIs_str s x t) PySem.F.entry_str_split (PySem.F.args_str_split_2 _ _) (meets_str_split_sep x y t u h1 hy hf (by omega) (by omega)) ?_
   rw[strsFrom_eq]
   exact h _ _ (numbered_texts _ _)
theorem rH:∀l:List (Str×Tok),aW (l.map fun p=>V.str p.1) (strValues l)
 | []=>.nil
 | p::l=>.cons ⟨p.2,rfl⟩ (rH l)
theorem uh{K:W.Frag}{P:bO}{H:Hp}:∀ys:List Str,ar K H P (ys.map D.str) (ys.map V.str)
 | []=>ar.nil
 | y::ys=>ar.cons (by rw[ao]) (uh ys)
theorem Cc:xi X "str.split" (fun x xs H Q => ∃a b,x=.str a/\xs=[.str b]/\(b.length==0)=false/\a.length+2<=sizeLine/\∀p,H p=none->Q (.ref p) (bv H p (.lst ((Txt.split a b).map V.str)))):=by
 intro pins s σ H x xs v us Q I rx rxs h
 obtain⟨a,b,rfl,rfl,h1,h2,q⟩:=h
 obtain⟨t,rfl⟩:=rx
 obtain⟨u,rfl,t',rfl⟩:=dX rxs
 refine zx h1 h2 fun l k hl=>?_
 have hz:l.length<=sizeLine:=by
  have e:=(fact_split a b).2
  have:=ad4 List.length hl
  rw[ab6]at this
  omega
 refine⟨.ref s.heap.objs.size,_,I.laid (t':=k) (o:=.lst ((Txt.split a b).map V.str)) (fun b ob q=>ZM _ q) (ZP _) ?_,rfl,q _ (I.hok.fresh (ZP _))⟩
 rw[<- hl,ah9]
 exact⟨by rw[ab6];exact hz,strValues l,0,rH l,ZQ _ rfl⟩
def oN(x:D)(ds:List D):R1 :=
 match x,ds with
 | .str a,[.str b]=>.ok (.lst ((Txt.split a b).map D.str),0) [(b.length==0)=false,a.length<=1048576]
 | _,_=>.st
theorem zY:nh "split" oN:=by
 intro X ρ a args ap cp x k ds j z l o hc hroom hea hes hst hlen hline hb h hp
 unfold oN at h
 split at h
 ·rename_i y b
  cases h
  obtain⟨e,rfl⟩:∃e,args=[e]:=by
   match args,hlen with
   | [e],_=>exact⟨e,rfl⟩
  intro ow
  refine bS (sU PySem.F.plainAttrs_str PySem.F.slot_str_split PySem.F.type_str_split Cc (hea ow) (hes ow) (base_of hb) (jZ hst (show 1<29 by decide)) hline (bN (hst e ZV)) rfl) fun σ H Q ⟨E,q⟩=>⟨E,fun v H1 s1 r1=>?_⟩
  rw[ao]at r1;subst r1
  refine⟨rfl,E.same s1,fun vs H2 s2 r2=>?_⟩
  obtain⟨v,rfl,r3⟩:=r2.only
  rw[ao]at r3;subst r3
  refine⟨y,b,rfl,rfl,hp.1,by rw[sizeLine_eq];have:=hp.2.1;omega,fun p hp'=>q _ _ ((s1.trans s2).trans (dR hp')) ?_⟩
  rw[ao]
  exact⟨p,_,true,rfl,bg,⟨rfl,(s1.trans s2).free hp'⟩,uh _⟩
 ·cases h
theorem Ov:xi X "str.startswith" (fun x xs H Q => ∃a b,x=.str a/\xs=[.str b]/\Q (.bl (Txt.startswith a b)) H):=by
 intro pins s σ H x xs v us Q I rx rxs h
 obtain⟨a,b,rfl,rfl,q⟩:=h
 obtain⟨t,rfl⟩:=rx
 obtain⟨u,rfl,t',rfl⟩:=dX rxs
 exact SC.startswith ⟨.bl _,H,I,rfl,q⟩
def Ki(x:D)(ds:List D):R1 :=
 match x,ds with
 | .str a,[.str b]=>.ok (.bl (Txt.startswith a b),0) []
 | _,_=>.st
theorem Kh:nh "startswith" Ki:=by
 intro X ρ a args ap cp x k ds j z l o hc hroom hea hes hst hlen hline hb h hp
 unfold Ki at h
 split at h
 ·rename_i y b
  cases h
  obtain⟨e,rfl⟩:∃e,args=[e]:=by
   match args,hlen with
   | [e],_=>exact⟨e,rfl⟩
  intro ow
  refine bS (sU PySem.F.plainAttrs_str PySem.F.slot_str_startswith PySem.F.type_str_startswith Ov (hea ow) (hes ow) (base_of hb) (jZ hst (show 1<29 by decide)) hline (bN (hst e ZV)) rfl) fun σ H Q ⟨E,q⟩=>⟨E,fun v H1 s1 r1=>?_⟩
  rw[ao]at r1;subst r1
  refine⟨rfl,E.same s1,fun vs H2 s2 r2=>?_⟩
  obtain⟨v,rfl,r3⟩:=r2.only
  rw[ao]at r3;subst r3
  exact⟨y,b,rfl,rfl,q _ _ (s1.trans s2) (by rw[ao])⟩
 ·cases h
end Sp
namespace K
open PySem L2 Sp Qm
variable{l:List Nat}{c k:Nat}{ws:List (List Nat)}{i:Int}{ns:List Int}
noncomputable abbrev sN(l:List Nat):Str:=⟨l.toArray⟩
theorem jK(x:Str):x=sN x.cps.toList:=by cases x;simp[sN]
theorem wH(s:String):Str.ofString s=sN (s.toList.map Char.toNat):=by rw[jK (Str.ofString s),PyProof.Rows.signs_ofString]
theorem dU(l:List Nat):(sN l).length=l.length:=by show l.toArray.size=_;simp
theorem jM(l m:List Nat):sN l++sN m=sN (l++m):=by show(⟨l.toArray++m.toArray⟩:Str)=_;simp
theorem zB{m:List Nat}(h:sN l=sN m):l=m:=by
 have:=ad4 (fun x:Str=>x.cps.toList) h
 simpa using this
theorem io(l:List Nat):(sN l).cps.toList=l:=by simp
noncomputable def ff(m:Nat):List Nat:=(Nat.toDigits 10 m).map Char.toNat
noncomputable def cG(i:Int):List Nat:=if i<0 then 45::ff i.natAbs else ff i.natAbs
theorem zf(m:Nat):Str.ofString (toString (m:Int))=sN (ff m):=by rw[jK (Str.ofString _),W.KIN.signs_num];rfl
theorem Nv(i:Int):Str.ofString (toString i)=sN (cG i):=by
 unfold cG
 by_cases h:i<0
 ·have e:(0-i)=((i.natAbs:Nat):Int):=by omega
  rw[if_pos h,PyProof.Rows.toString_neg h,e,wH,String.toList_append,List.map_append,<- jM]
  have h2:=zf i.natAbs
  rw[wH]at h2
  rw[h2,jM]
  rfl
 ·have e:i=((i.natAbs:Nat):Int):=by omega
  rw[if_neg h]
  conv=>lhs;rw[e]
  exact zf _
theorem iq(m:Nat):∀c∈ff m,48<=c/\c<=57:=by
 intro c hc
 obtain⟨d,hd,rfl⟩:=ae2.mp hc
 have:=Nat.isDigit_of_mem_toDigits (by decide) (by decide) hd
 simp only[Char.isDigit,ZZ,decide_eq_true_eq]at this
 obtain⟨h1,h2⟩:=this
 exact⟨UInt32.le_iff_toNat_le.mp h1,UInt32.le_iff_toNat_le.mp h2⟩
theorem pk(m:Nat):NumText.digitsVal (ff m)=m:=W.KIN.val_back m
theorem yp(m:Nat):ff m≠[]:=by
 intro z
 have:=(PyProof.Rows.digitsFacts10 m).ge1
 have e:=ad4 List.length z
 unfold ff at e
 rw[ab6]at e
 simp at e
 try omega
theorem AH{m:Nat}(h1:1<=k)(h:m<10 ^ k):(ff m).length<=k:=by unfold ff;rw[ab6];exact PyProof.Rows.digits10_le h1 h
theorem vQ(h:c<=57):(Char.ofNat c).toNat=c:=by
 have hv:c.isValidChar:=.inl (by omega)
 unfold Char.ofNat
 rw[dif_pos hv]
 first|done|rfl
theorem rY:∀{l:List Nat} {c:Nat} {r:List Nat},l.dropWhile (fun x=>x==48)=c::r->c≠48
 | [],c,r,h=>by cases h
 | a::l,c,r,h=>by
  rw[List.dropWhile_cons]at h
  split at h
  ·exact rY h
  ·rename_i hn
   cases h
   intro z;subst z;exact hn rfl
theorem G0(m:Nat):ff m=[48]\/∃c r,ff m=c::r/\c≠48:=by
 have h:=NumText.toDigits_all (ff m) (iq m)
 rw[pk]at h
 cases e:(ff m).dropWhile (fun x=>x==48)with
 | nil =>
  rw[e]at h
  left
  unfold ff
  rw[h];rfl
 | cons c r =>
  rw[e]at h
  right
  have hc:=rY e
  have hm:∀x∈c::r,x<=57:=fun x hx=>(iq m x ((List.dropWhile_sublist (fun x=>x==48)).subset (by rw[e];exact hx))).2
  refine⟨c,r,?_,hc⟩
  show(Nat.toDigits 10 m).map Char.toNat=_
  rw[h]
  show List.map Char.toNat (List.map Char.ofNat (c::r))=c::r
  rw[ah9]
  conv=>rhs;rw[<- List.map_id (c::r)]
  exact List.map_congr_left fun x hx=>vQ (hm x hx)
theorem wy(i:Int):∀c∈cG i,c=45\/48<=c/\c<=57:=by
 intro c hc
 unfold cG at hc
 split at hc
 ·rcases ZT.mp hc with z|z
  ·exact .inl z
  ·exact .inr (iq _ c z)
 ·exact .inr (iq _ c hc)
noncomputable def jn:List (List Nat)->List Nat
 | []=>[]
 | a::l=>a++l.flatMap fun p=>32::p
theorem GE(ws:List (List Nat)):Txt.join (sN [32]) (ws.map sN)=sN (jn ws):=by
 have key:∀(ws:List (List Nat)) (acc:Array Nat),List.foldl (fun(acc:Array Nat) (p:Str)=>acc++(sN [32]).cps++p.cps) acc (ws.map sN)=(acc.toList++ws.flatMap fun p=>32::p).toArray:=by
  intro ws
  induction ws with
  | nil=>intro acc;simp
  | cons w ws ih =>
   intro acc
   rw[ac4,List.foldl_cons,ih,ah4]
   simp
 show(⟨List.foldl _ ((ws.map sN).headD Str.empty).cps ((ws.map sN).drop 1)⟩:Str)=_
 cases ws with
 | nil=>rfl
 | cons w ws =>
  show(⟨List.foldl (fun(acc:Array Nat) (p:Str)=>acc++(sN [32]).cps++p.cps) (sN w).cps (ws.map sN)⟩:Str)=_
  rw[key]
  show sN ((sN w).cps.toList++_)=_
  rw[io];rfl
theorem wS:∀(ws:List (List Nat)),Str.join (sN [32]) (ws.map sN)=sN (jn ws)
 | []=>rfl
 | [w]=>by show sN w=sN (w++[]);rw[ad1]
 | w::v::ws=>by
  show sN w++sN [32]++Str.join (sN [32]) ((v::ws).map sN)=_
  rw[wS (v::ws),jM,jM]
  simp[jn]
noncomputable def fq(w:List Nat):Prop:=32∉w
theorem Dk{a:List Nat}{l:List (List Nat)}(h:fq a):(jn (a::l)).takeWhile (fun c=>c != 32)=a/\(jn (a::l)).dropWhile (fun c=>c != 32)=l.flatMap fun p=>32::p:=by
 unfold jn
 have ha:∀c∈a,(c != 32)=true:=fun c hc=>by
  have:c≠32:=fun z=>h (z ▸ hc)
  simpa using this
 cases l with
 | nil =>
  refine⟨?_,?_⟩
  ·show List.takeWhile _ (a++[])=a
   rw[List.takeWhile_append_of_pos ha];simp
  ·show List.dropWhile _ (a++[])=[]
   rw[List.dropWhile_append_of_pos ha];rfl
 | cons b l =>
  show List.takeWhile _ (a++List.flatMap _ (b::l))=a/\List.dropWhile _ (a++List.flatMap _ (b::l))=_
  rw[List.takeWhile_append_of_pos ha,List.dropWhile_append_of_pos ha,ah4]
  refine⟨?_,?_⟩
  ·show a++List.takeWhile _ (32::(b++_))=a
   rw[List.takeWhile_cons_of_neg (by decide),ad1]
  ·show List.dropWhile _ (32::(b++_))=_
   rw[List.dropWhile_cons_of_neg (by decide)];rfl
theorem Ah:∀{l m:List (List Nat)},l≠[]->m≠[]->(∀w∈l,fq w)->(∀w∈m,fq w)->jn l=jn m->l=m
 | [],m,h,_,_,_,_=>absurd rfl h
 | a::l,[],_,h,_,_,_=>absurd rfl h
 | a::l,b::m,_,_,hl,hm,e=>by
  obtain⟨a1,a2⟩:=Dk (l:=l) (hl a ZV)
  obtain⟨b1,b2⟩:=Dk (l:=m) (hm b ZV)
  rw[e]at a1 a2
  rw[b1]at a1
  rw[b2]at a2
  subst a1
  cases l with
  | nil =>
   cases m with
   | nil=>rfl
   | cons v m=>rw[List.flatMap_nil,ah4]at a2;cases a2
  | cons u l =>
   cases m with
   | nil=>rw[List.flatMap_nil,ah4]at a2;cases a2
   | cons v m =>
    rw[ah4,ah4]at a2
    have e2:jn (v::m)=jn (u::l):=by
     have:=ad4 List.tail a2
     exact this
    rw[Ah (by simp) (by simp) (fun w hw=>hl w (ZR _ hw)) (fun w hw=>hm w (ZR _ hw)) e2.symm]
theorem t6(h0:ws≠[])(h:∀w∈ws,fq w):Txt.split (sN (jn ws)) (sN [32])=ws.map sN:=by
 have hc:=PyProof.Rows.split_closes (sN (jn ws)) 32
 rw[ZZ]at hc
 obtain⟨h1,h2⟩:=hc
 have h1:Str.join (sN [32]) (Txt.split (sN (jn ws)) (sN [32]))=sN (jn ws):=by simpa using h1
 have hl:=(PyProof.Rows.fact_split (sN (jn ws)) (sN [32])).1
 generalize hP:Txt.split (sN (jn ws)) (sN [32])=ps at *
 obtain⟨qs,rfl⟩:∃qs:List (List Nat),ps=qs.map sN:=⟨ps.map fun p=>p.cps.toList,by
  rw[ah9]
  conv=>lhs;rw[<- List.map_id ps]
  exact List.map_congr_left fun p _=>jK p⟩
 rw[wS]at h1
 have h1:=zB h1
 have hq:∀w∈qs,fq w:=fun w hw z=>by
  have:=ai4.mp h2 (sN w) (ae2.mpr ⟨w,hw,rfl⟩)
  rw[PyProof.Rows.countIn_signs_decide,io,ad2 z]at this
  cases this
 rw[Ah (fun z=>by subst z;simp at hl) h0 hq h h1]
theorem Qc(l:List Nat)(c:Nat):Txt.startswith (sN l) (sN [c])=decide (l.head?=some c):=by
 unfold Txt.startswith Builtin.Str.subAt
 rw[dU,dU]
 cases l with
 | nil=>rfl
 | cons a l =>
  have e:((a::l).toArray.extract 0 (0+[c].length)==[c].toArray)=decide (a=c):=by
   rw[List.extract_toArray,ah0]
   simp
  show(decide (0+[c].length<=(a::l).length)&&((a::l).toArray.extract 0 (0+[c].length)==[c].toArray))=_
  rw[e,ad2 (by simp),Bool.true_and]
  simp
theorem Pz(c:Nat)(l:List Nat):Txt.slice (sN (c::l)) (some 1) none=sN l:=by
 have hl:(sN (c::l)).length=l.length+1:=by rw[dU];simp
 have:=PyProof.Rows.slice_from_eq (x:=sN (c::l)) (i:=1) (b:=l.length+1) (by decide) (by rw[hl];omega) (by rw[hl];omega)
 rw[io]at this
 rw[this]
 show sN _=sN _
 congr 1
 rw[show((l.length:Int)+1-1).toNat=l.length by omega]
 simp
noncomputable def WM:Str:=Str.ofString "0123456789"
theorem K7(h1:48<=c)(h2:c<=57):Txt.contains WM (sN [c])=true:=by
 have:c=48\/c=49\/c=50\/c=51\/c=52\/c=53\/c=54\/c=55\/c=56\/c=57:=by omega
 rcases this with rfl|rfl|rfl|rfl|rfl|rfl|rfl|rfl|rfl|rfl<;>decide +kernel
theorem Am(h:(cG i).length<=640):intText? (sN (cG i))=some i:=by
 unfold cG at h⊢
 by_cases hi:i<0
 ·rw[if_pos hi]at h⊢
  rw[intText_neg (cs:=ff i.natAbs) (io _) (iq _) (yp _) (by rw[dU];omega),pk]
  congr 1;omega
 ·rw[if_neg hi]at h⊢
  rw[intText_digits (by rw[io];exact iq _) (by rw[io];exact yp _) (by rw[dU];omega),io,pk]
  congr 1;omega
theorem Oc(h:∀c∈l,c<128):PyData.strOk (sN l)=true:=by
 unfold PyData.strOk
 rw[Array.all_eq_true']
 intro c hc
 have:=h c (by simpa using hc)
 exact ad2 (by omega)
theorem M2(h:∀c∈l,c<128):((sN l).cps.all fun c=>decide (c<128))=true:=by
 rw[Array.all_eq_true']
 intro c hc
 exact ad2 (h c (by simpa using hc))
theorem Iw(l:List Nat):Sp.sgs (sN l)=l.map fun c=>D.str (sN [c]):=by unfold Sp.sgs;rw[io]
theorem Cz(x y:Str):eqD (.str x) (.str y)=decide (x=y):=by
 show((x==y):Bool)=_
 by_cases h:x=y
 ·subst h;simp
 ·rw[aa1 h];simpa using h
theorem lB(h:i.natAbs<10 ^ 40):(cG i).length<=41:=by
 unfold cG
 have:=AH (m:=i.natAbs) (k:=40) (by decide) h
 split
 ·rw[ab1];omega
 ·omega
theorem P4(l:List Nat):ag (rh [.lst (l.map fun _=>D.bl true)]) (.bl true,0):=by
 have e:∀l:List Nat,dF (l.map fun _=>D.bl true)=some (l.map fun _=>true):=fun l=>by
  induction l with
  | nil=>rfl
  | cons b bs ih=>rw[ac4,dF,ih];rfl
 have z:(l.map fun _=>true).all id=true:=ai4.mpr fun x hx=>by
  obtain⟨_,_,rfl⟩:=ae2.mp hx;rfl
 unfold rh;dsimp only;rw[e]
 have h:ag (Rs.ok (D.bl ((l.map fun _=>true).all id),0) []:R1) (D.bl ((l.map fun _=>true).all id),0):=cS
 rw[z]at h
 dsimp only
 rw[z]
 exact h
noncomputable def ZI:Stmt->Expr
 | .If (.BoolOp _ (e::_) _) _ _ _=>e
 | _=>.Constant .none 0 ⟨0,0,0,0⟩
noncomputable def ZJ:Stmt->Expr
 | .Assign _ e _=>e
 | _=>.Constant .none 0 ⟨0,0,0,0⟩
theorem AB{Φ:Fx}{sc:Scope}{ρ:am}{a:Expr}{m:Str}{ap cp:Pos}{args:List Expr}{it:Bool}{y:Str}{ds:List D}{j:Nat}{M:D->List D->R1}{r:D×Nat}(ha:ag (aE Φ a false sc ρ) (.str y,k))(hs:ag (ck Φ args sc ρ) (ds,j))(hM:ag (M (.str y) ds) r)(hm:Φ.mth m=some M:=by rfl)(hp:(ap.endLine==cp.line)=true:=by rfl)(hb:gy a=true:=by rfl):ag (aE Φ (.Call (.Attribute a m ap) args [] cp) it sc ρ) r:=by
 rw[kP,if_pos hp]
 refine ha.bnd (hs.bnd ?_)
 show ag (if gy a=true then(match Φ.mth m with|some M=>M (.str y) ds|none=>.st)else .st) r
 rw[if_pos hb,hm]
 exact hM
theorem Km{n:Nat}(h:n<10 ^ 40):n<2 ^ 1900:=al7 h (ZW (show 10 ^ 40<2 ^ 200 by decide) (aa6 (by decide) (by decide)))
theorem tU(i:Int):(cG i).head?=some 45↔i<0:=by
 unfold cG
 split
 ·rename_i h;simp[h]
 ·rename_i h
  constructor
  ·intro e
   exfalso
   have hm:45∈ff i.natAbs:=List.mem_of_mem_head? e
   have:=iq _ 45 hm
   omega
  ·intro z;exact absurd z h
theorem EK(i:Int):sN (cG i)≠Str.ofString "-0" := by
 intro e
 rw[wH]at e
 have e:cG i=[45,48]:=zB e
 have hi:=(tU i).mp (by rw[e];rfl)
 unfold cG at e
 rw[if_pos hi]at e
 have e2:ff i.natAbs=[48]:=by injection e
 have:=pk i.natAbs
 rw[e2]at this
 have z:NumText.digitsVal [48]=0:=rfl
 rw[z]at this
 omega
theorem HC(i:Int):∀c∈cG i,c<128:=fun c hc=>by rcases wy i c hc with z|z<;>omega
theorem wA:∀ws:List (List Nat),gt (ws.map fun w=>D.str (sN w))=some (ws.map sN)
 | []=>rfl
 | w::ws=>by
  show(gt (ws.map fun w=>D.str (sN w))).map (sN w :: ·)=_
  rw[wA ws];rfl
theorem zt:∀{ws:List (List Nat)},(∀w∈ws,w.length<=43)->((ws.map sN).map fun y=>y.length).sum<=43*ws.length
 | [],_=>ZY _
 | w::ws,h=>by
  have h1:=h w ZV
  have h2:=zt (ws:=ws) fun v hv=>h v (ZR _ hv)
  rw[ac4,ac4,List.sum_cons,dU,ab1]
  omega
theorem xD:Str.ofString " " = sN [32]:=by rw[wH];rfl
theorem KK(hn:ws.length<=100)(h:∀w∈ws,w.length<=43):ag (oO (.str (Str.ofString " ")) [.lst (ws.map fun w=>D.str (sN w))]) (.str (sN (jn ws)),0):=by
 have h1:=zt h
 rw[xD]
 unfold oO
 dsimp only
 rw[wA]
 refine ag.eq ⟨_,rfl,by rw[dU];decide,by rw[ab6];omega,True.intro⟩ ?_
 rw[GE]
theorem Ax:∀{ws:List (List Nat)},(∀w∈ws,w.length<=43)->(ws.flatMap fun p=>32::p).length<=44*ws.length
 | [],_=>ZY _
 | w::ws,h=>by
  have h1:=h w ZV
  have h2:=Ax (ws:=ws) fun v hv=>h v (ZR _ hv)
  rw[ah4,ae1,ab1,ab1]
  omega
theorem DZ(h:∀w∈ws,w.length<=43):(jn ws).length<=44*ws.length:=by
 cases ws with
 | nil=>exact ZY _
 | cons w ws =>
  have h1:=h w ZV
  have h2:=Ax (ws:=ws) fun v hv=>h v (ZR _ hv)
  unfold jn
  rw[ae1,ab1]
  omega
theorem Fv(h0:ws≠[])(hf:∀w∈ws,fq w)(hn:ws.length<=100)(h:∀w∈ws,w.length<=43):ag (oN (.str (sN (jn ws))) [.str (Str.ofString " ")]) (.lst (ws.map fun w=>D.str (sN w)),0):=by
 have hz:(sN (jn ws)).length<=1048576:=by rw[dU];have:=DZ h;omega
 have hb:((Str.ofString " ").length==0)=false:=by decide +kernel
 have e:(ws.map fun w=>D.str (sN w))=(Txt.split (sN (jn ws)) (Str.ofString " ")).map D.str:=by rw[xD,t6 h0 hf,ah9];rfl
 rw[e]
 exact⟨_,rfl,hb,hz,True.intro⟩
theorem EJ(i:Int):fq (cG i):=fun h=>by rcases wy i 32 h with z|z<;>omega
theorem Qf(h:ns.length=3):∃a b c,ns=[a,b,c]:=by
 match ns,h with
 | [a,b,c],_=>exact⟨a,b,c,rfl⟩
theorem ZG(h:ns.length=4):∃a b c d,ns=[a,b,c,d]:=by
 match ns,h with
 | [a,b,c,d],_=>exact⟨a,b,c,d,rfl⟩
noncomputable def wE:List D->Option (List Int)
 | []=>some []
 | .str x::l=>(match intText? x,wE l with|some i,some is=>some (i::is)|_,_=>none)
 | _::_=>none
noncomputable def dl(n:Int):D:=.str (sN (cG n))
theorem ui:∀{ns:List Int},(∀n∈ns,n.natAbs<10 ^ 40)->wE (ns.map dl)=some ns
 | [],_=>rfl
 | n::ns,h=>by
  have h1:=lB (h n ZV)
  rw[ac4]
  unfold dl
  rw[wE,Am (by omega)]
  have:=ui (ns:=ns) fun v hv=>h v (ZR _ hv)
  unfold dl at this
  rw[this]
theorem tV:∀ns:List Int,aC (ns.map dl)=true
 | []=>rfl
 | n::ns=>by rw[ac4];exact tV ns
theorem LH(x:D):∀{ns:List Int},ns.length<=4->kT (x::ns.map dl) (some 1) none=ns.map dl
 | [],_=>rfl
 | [_],_=>rfl
 | [_,_],_=>rfl
 | [_,_,_],_=>rfl
 | [_,_,_,_],_=>rfl
 | _::_::_::_::_::_,h=>by simp only[ab1]at h;omega
theorem uO:∀ns:List Int,aC (ns.map D.int)=true
 | []=>rfl
 | n::ns=>by rw[ac4];exact uO ns
end K
namespace Sp
open PySem PySem.Spec PyProof.Rows L2
open AutoSeq1 (wpAny_loadPart')
variable{T nid:String}{ks:List (Str×Value)}{Q:Value->Shared->Prop}{it tu:Addr}{vs:Array Value}{e:Expr}{i k n1:Nat}{old:Value}{P:Program}{w:World}{K:W.Frag}{es:List Expr}{p pos q:Pos}{ρ:am}{mg:Str->Option Value}{d x:Str}{kvs:List (Str×Int)}{Φ:Fx}{sc:Scope}{H0:Hp}
variable{X:Cx}
abbrev oy:Str:=Str.ofString "start"
theorem GK(a b:Value):checkTypeCall "enumerate" ⟨[a],[(oy,b)]⟩=pure ():=by kernel_rfl
theorem Lh(a b:Value):checkBuiltinCall "enumerate.__new__" ⟨[.type "enumerate", a],[(oy,b)]⟩=pure ():=by kernel_rfl
theorem GN(o a b:Value):argsOk "object.__init__" ⟨[o,a],[(oy,b)]⟩:=by kernel_rfl
theorem GL(tu:Addr)(vs:Array Value)(n:Nat)(dc:Option Addr)(so:Array (Option Value))(tk:Tok) :
  Meets (Builtin.«enumerate.__new__» ⟨[.type "enumerate", .ref tu],[(oy,.int 1 tk)]⟩) (fun _ R st=>st.heap.get? tu=some { cls:=.type "list", dict:=dc,data:=.seq vs n,slots:=so } /\
   R (.ok (.ret (.ref (st.heap.push { cls:=.type "list_iterator", data:=.fields #[.ref tu,.int 0 0] }).objs.size)))
    { st with heap:=(st.heap.push { cls:=.type "list_iterator", data:=.fields #[.ref tu,.int 0 0] }).push { cls:=.type "enumerate", data:=.fields #[.none,.bool false,.ref st.heap.objs.size,rawInt 1,.none,.none] } }) :=
 .of_wp fun pg wd AA RR st hh=>by
  obtain⟨hp0,gg,dd,tk0,oo⟩:=st;obtain⟨htu,hh⟩:=hh
  have hsub0:=sub_enumerate
  have hTT:Heap.IsList (Shared.heap ⟨hp0,gg,dd,tk0,oo⟩) tu vs:=⟨_,htu,rfl,n,rfl⟩
  wp_walk using ae7 htu
  refine wpAny_stack_any fun stk0=>ZO ?_
  split
  ·rename_i c0 _ _ _ _ _
   cases (c0==Value.type "enumerate")
   ·wp_walk using ae7 htu,ah2 hTT
    exact⟨_,rfl,hh⟩
   ·wp_walk using ae7 htu,ah2 hTT
    exact⟨_,rfl,hh⟩
  ·wp_walk using ae7 htu,ah2 hTT
   exact⟨_,rfl,hh⟩
section
variable{prog:Program}{A:Around}{E:Value->Shared->Prop}{s:Shared}
theorem Lg{me:Value}{more:List Value}(h1:typeLookup (.type T) "__init__" = pure (some (.builtin "object.__init__")))(h2:Bind.madeBy (.type T)=pure (some nid))(h3:(some nid != some "object.__new__")=true) :
  Meets (Builtin.«object.__init__» ⟨me::more,ks⟩) (fun _ R st=>st.TypeIs me T/\R (.ok (.ret .none)) st):=.of_wp fun pg wd AA RR st hh=>by
 obtain⟨hT,hq⟩:=hh
 cases more with
 | nil =>
  cases ks with
  | nil=>exact ZO ⟨_,rfl,hq⟩
  | cons k ks =>
   repeat (any_goals (first|assumption|wp_step))
   exact⟨_,rfl,hq⟩
 | cons b more =>
  repeat (any_goals (first|assumption|wp_step))
  exact⟨_,rfl,hq⟩
theorem GO{Bn:Builtin}{as:List Value}{S:PySem.Spec}(tc:TypeCalled T nid "object.__init__")(h3:(some nid != some "object.__new__")=true)
  (c1:checkTypeCall T ⟨as,ks⟩=pure ()) (c2:checkBuiltinCall nid ⟨.type T::as,ks⟩=pure ()) (c3:∀o,argsOk "object.__init__" ⟨o::as,ks⟩) (en:entryFor table nid=some Bn) (mt:Meets (Bn ⟨.type T::as,ks⟩) S)
  (h:S A.in1 (wants (fun o s1=>s1.TypeIs o T/\Q o s1) E) s):wpAny (model prog w) A (call (.type T) as ks) Q E s:=by
 obtain⟨c,tl,hmr⟩:=tc.mro
 have hmk:=tc.made
 have hsb:=tc.sub
 have hnt:=tc.notType
 have hcc:=tc.canCreate
 refine wpAny_call (codeAny_of_tree (show wpAny _ _ (callAny (.type T) _) _ _ _ from ZO ⟨Code.quiet_builtin _ (by decide +kernel),codeAny_builtin F.entry_type_call ?_⟩))
 rw[Around.under_plain (show(Code.builtin "type.__call__" ⟨.type T::as,ks⟩).weight=0 from rfl) (show(Code.builtin "type.__call__" ⟨.type T::as,ks⟩).cUnits=1 from rfl)]
 repeat (any_goals (first|assumption|wp_step))
 refine aj5 (codeAny_call_builtin tc.plain en (wpAny_of_eq c2 (mt prog w A.in1 _ s h))) fun r s1 hr=>?_
 cases r with
 | error e=>exact hr
 | ok fl =>
  cases fl with
  | ret o =>
   obtain⟨hT,hq⟩:=hr
   have hli:=tc.init.lookup
   have hbi:=tc.init.bind o
   repeat (any_goals (first|assumption|wp_step))
   refine aj5 (codeAny_call_builtin tc.init.plain F.entry_object_init (tc.init.check _ _ _ _ _ _ _ _ hT (c3 o) (Lg tc.init.lookup tc.made h3 prog w A.in1 (wants (fun r s2=>r=.none/\Q o s2) E) s1 ⟨hT,rfl,hq⟩))) fun r2 s2 hr2=>?_
   cases r2 with
   | error e=>exact hr2
   | ok f2 =>
    cases f2 with
    | ret r =>
     obtain⟨rfl,hq⟩:=hr2
     repeat (any_goals (first|assumption|wp_step))
    | _=>exact hr2.elim
  | _=>exact hr.elim
theorem Cw{tk:Tok}(hT:s.heap.IsList tu vs)
  (go:∀h1,IsEnum h1 (s.heap.objs.size+1) s.heap.objs.size 1 .none->h1.IsListIter s.heap.objs.size tu 0->h1.objs.size=s.heap.objs.size+2->(∀b o,s.heap.get? b=some o->h1.get? b=some o)->Q (.ref (s.heap.objs.size+1)) { s with heap:=h1 }) :
  wpAny (model prog w) A (call (.type "enumerate") [.ref tu] [(oy,.int 1 tk)]) Q E s:=by
 obtain⟨⟨cc,dc,dt,so⟩,htu,hcc,n,hdd⟩:=hT
 replace hcc:cc=.type "list" := hcc
 replace hdd:dt=.seq vs n:=hdd
 subst hcc hdd
 refine GO F.called_enumerate (by decide) (GK _ _) (Lh _ _) (fun ob=>GN ob _ _) F.entry_enumerate_new (GL tu vs n dc so tk) ⟨htu,?_⟩
 have sz:(s.heap.push { cls:=.type "list_iterator", data:=.fields #[.ref tu,.int 0 0] }).objs.size=s.heap.objs.size+1:=ab8 ..
 show _/\_
 rw[sz]
 have isE:IsEnum ((s.heap.push { cls:=.type "list_iterator", data:=.fields #[.ref tu,.int 0 0] }).push { cls:=.type "enumerate", data:=.fields #[.none,.bool false,.ref s.heap.objs.size,rawInt 1,.none,.none] }) (s.heap.objs.size+1) s.heap.objs.size 1 .none:=by
  have q:=ZQ (s.heap.push { cls:=.type "list_iterator", data:=.fields #[.ref tu,.int 0 0] }) (o:={ cls:=.type "enumerate", data:=.fields #[.none,.bool false,.ref s.heap.objs.size,rawInt 1,.none,.none] }) rfl
  rw[sz]at q;exact q
 refine⟨⟨_,isE,rfl⟩,go _ isE ⟨_,ZM _ (ZQ _ rfl),rfl,rfl⟩ (by rw[ab8,sz]) fun b o z=>ZM _ (ZM _ z)⟩
theorem GM{e:Addr}{x:Value}{Q:Option Value->Shared->Prop}(isE:IsEnum s.heap e it ((i+1:Nat):Int) old)(hIt:s.heap.IsListIter it tu i)(hT:s.heap.IsList tu vs)(hx:vs[i]?=some x)(hne:e≠it)
  (go:∀h1,IsEnumOut h1 e it (((i+1:Nat):Int)+1) x s.heap.objs.size->h1.IsListIter it tu (i+1)->h1.get? s.heap.objs.size=some { cls:=.type "tuple", data:=.seq #[.int ((i+1:Nat):Int) s.toks,x] }->(∀b o,b≠e->b≠it->s.heap.get? b=some o->h1.get? b=some o)->Q (some (.ref s.heap.objs.size)) { s with heap:=h1,toks:=s.toks+1 }) :
  wpAny (model prog w) A (pyNext (.ref e)) Q E s:=by
 have tyE:s.TypeIs (.ref e) "enumerate" := ⟨_,isE,rfl⟩
 unfold pyNext
 refine ZL (ai9 (ac9 (name:=Str.ofString "__next__") tyE F.slot_enumerate_next (af3 F.slot_enumerate_next tyE F.entry_enumerate_next ?_ (F.args_enumerate_next_1 _))))
 exact GR (Kn:=fun h1=>h1.IsListIter it tu (i+1)) isE hne (fun h1 h2 k hk=>k.at hk) (fun Q1 q1=>wpAny_nextOf_list_item hIt hT hx q1) fun h1 a b c d=>ZO (go h1 a b c d)
theorem Li{e:Addr}{c:Int}{Q:Option Value->Shared->Prop}(hh:A.handled=none)(isE:IsEnum s.heap e it c old)(hIt:s.heap.IsListIter it tu i)(hT:s.heap.IsList tu vs)(hx:vs[i]?=none)
  (go:∀h1,Heap.ExtBut it s.heap h1->Q none { s with heap:=h1 }):wpAny (model prog w) A (pyNext (.ref e)) Q E s:=by
 have tyE:s.TypeIs (.ref e) "enumerate" := ⟨_,isE,rfl⟩
 unfold pyNext
 refine ZL (ai9 (ac9 (name:=Str.ofString "__next__") tyE F.slot_enumerate_next (af3 F.slot_enumerate_next tyE F.entry_enumerate_next ?_ (F.args_enumerate_next_1 _))))
 show wpAny _ _ (field (.ref e) 2 >>= _) _ _ _
 refine ZL (ab4 isE rfl (x:=Value.ref it) rfl (ZL (wpAny_nextOf_list_end hh hIt hT hx fun h1 xx eb hx'=>?_)))
 obtain⟨o,ho,hc⟩:=hx'
 exact ZL (wpAny_isInstance (T := "StopIteration") (b:=true) ⟨o,ho,hc⟩ isSubtype_stop (ZO (go _ eb)))
end
def Zp(K:W.Frag)(a:Addr):It :=
 ⟨fun i H => ∃xs x,de K H a xs/\xs[i]?=some x,fun i H x H' => ∃p v,x=.ref p/\H p=none/\H'=bv H p (.tup [.int ((i+1:Nat):Int),v])/\∀xs,de K H a xs->xs[i]?=some v,fun i H => ∃xs,de K H a xs/\xs.length<=i⟩
theorem xq(a e it:Addr)(hne:e≠it) :
  L2.Turn P w K (.Tuple es n1 pos) (Zp K a) [e,it] e (fun i h=>(∃old,IsEnum h e it ((i+1:Nat):Int) old)/\h.IsListIter it a i) where
 mem:=by simp
 obj:=fun i h st b hb=>by
  obtain⟨⟨old,q⟩,o,q2,c,d⟩:=st
  rcases ZT.mp hb with rfl|hb
  ·exact⟨_,q,fun v z=>by have z':Data.fields _=Data.cell v:=z;cases z'⟩
  ·have eb:b=it:=by simpa using hb
   subst eb
   exact⟨o,q2,fun v z=>by rw[d]at z;cases z⟩
 keep:=fun i h h' st k=>⟨let ⟨old,q⟩:=st.1;⟨old,k e (by simp) _ q⟩,st.2.at fun o q=>k it (by simp) o q⟩
 item:=by
  intro Y hP hw hK hc i pins s σ H E I hf st hg
  subst hP hw hK
  obtain⟨xs,x,hq,hx⟩:=hg
  obtain⟨its,rv,p,hz⟩:=I.list hq
  obtain⟨u,hu,ru⟩:=rv.get hx
  obtain⟨⟨old,isE⟩,hIt⟩:=st
  refine GM isE hIt (show s.heap.IsList a its.toArray from p.isList) (x:=u) (by simpa using hu) hne fun h1 eo it1 t1 k1=>?_
  refine⟨_,rfl,wpAny_letOwnedTupleGo_enum eo fun h2 e2 sb2=>?_⟩
  have sb2':Heap.SameBut e h1 h2:=sb2
  have elt:e<s.heap.objs.size:=ZS isE
  have k2:∀b o,b∉[e,it]->s.heap.get? b=some o->h2.get? b=some o:=fun b o nb q=>by
   have n1:b≠e:=fun z=>nb (by simp[z])
   have n2:b≠it:=fun z=>nb (by simp[z])
   exact sb2'.extBut b o n1 (k1 b o n1 n2 q)
  have t2:h2.get? s.heap.objs.size=some { cls:=.type "tuple", data:=.seq #[.int ((i+1:Nat):Int) s.toks,u] }:=sb2'.extBut _ _ (ag2 elt) t1
  have hn0:H s.heap.objs.size=none:=I.hok.fresh (ZP _)
  refine⟨.ref s.heap.objs.size,bv H s.heap.objs.size (.tup [.int ((i+1:Nat):Int),x]),rV (s:=s) (h2:=h2) (t2:=s.toks+1) I k2 (ZP _) hf ?_,rfl,⟨_,x,rfl,hn0,rfl,fun ys hy=>by rw[I.list_inj hy hq];exact hx⟩,⟨⟨u,?_⟩,it1.at fun o q=>sb2'.extBut it o (ai0 hne) q⟩,fun b hb=>?_⟩
  ·exact⟨by show 2<=sizeLine;decide,[.int ((i+1:Nat):Int) s.toks,u],.cons ⟨_,rfl⟩ (.cons ru .nil),⟨_,t2,rfl,_,rfl⟩⟩
  ·have q:=e2
   rw[show((i+1:Nat):Int)+1=((i+1+1:Nat):Int) by omega]at q
   exact q
  ·have hb':=hf b hb
   have lt:b<s.heap.objs.size:=by
    rcases ZT.mp hb with rfl|hb
    ·exact elt
    ·have eb:b=it:=by simpa using hb
     subst eb
     obtain⟨o,q,_⟩:=hIt
     exact ZS q
   rw[aK (ac1 lt)];exact hb'.1
 done:=by
  intro Y hP hw hK hc i pins s σ H E I hf st hg
  subst hP hw hK
  obtain⟨xs,hq,hx⟩:=hg
  obtain⟨its,rv,p,hz⟩:=I.list hq
  obtain⟨⟨old,isE⟩,hIt⟩:=st
  obtain⟨f0,f1,f2,f3,f4,f5⟩:=hf it (by simp)
  have hl:=rv.length
  exact Li (I.ok.hd hc) isE hIt (show s.heap.IsList a its.toArray from p.isList) (by simp;omega) fun h1 eb=>⟨rfl,I.turned (t':=s.toks) (fun b o hb q=>eb b o hb q) f0 f1 f3 f4 f5⟩
 self:=fun _ _ _ _ _ st h=>let ⟨old,q⟩:=st.1;wpAny_pyIter_enum q h
section
variable{M:Model}{A:Around}{E:Value->Shared->Prop}{s:Shared}{env:Env}
theorem Nx{rest:List Expr}{kws:List Keyword}
  (h:wpAny M A (spliced (backTo pos (starEach (e::rest) env))) (fun vs s1=>wpAny M A (evalAll ((backToKw pos (keywordEach kws env)).map (·.2))) (fun ks s2=>wpAny M A (call (.type T) vs (((backToKw pos (keywordEach kws env)).filterMap (·.1)).zip ks)) Q E s2) E s1) E s)
  (he:backTo pos (starEach (e::rest) env)=(false,eval e env)::backTo pos (starEach rest env)) (hp:(backTo pos (starEach (e::rest) env)).any (·.1)=false)
  (ha:(backToKw pos (keywordEach kws env)).all (·.1.isSome)=true:=by rfl) (hk:(backToKw pos (keywordEach kws env)).any (·.1.isNone)=false:=by rfl) :
  wpAny M A (callWith pos (.type T) [] (backTo pos (starEach (e::rest) env)) (backToKw pos (keywordEach kws env))) Q E s:=by
 have key:wpAny M A (evalArgs (.type T) true (backTo pos (starEach (e::rest) env)) (backToKw pos (keywordEach kws env))) (fun a s1=>wpAny M A (call (.type T) ([]++a.pos) a.kw) Q E s1) E s:=by
  rw[he]at h⊢
  exact evalArgs_kwB ha h
 unfold callWith
 refine ZL (af4 (be key fun a s1 h1=>ZL (wpAny_standAt ?_)))
 simp only[hp,hk,Bool.or_false]
 exact ZL (ZO (ZL (be h1 fun r s2 hr=>ZL (af4 (wpAny_point (ZO hr))))))
end
theorem Cr{n0:Nat}{tp p0 kp:Pos}{a:Expr}{l:List D}(hg:Gl X "enumerate")(hm0:X.mg "enumerate" = none)(ha:AD X ρ [a] [.lst l] k)(hst:∀y p,a ≠ .Starred y p)(hf:aC l=true) :
  IE X ρ (.Tuple es n1 tp) (.Call (.Name "enumerate" p) [a] [⟨some oy,.Constant (.int 1) n0 p0,kp⟩] pos) (l.mapIdx fun i x=>.tup [.int ((i+1:Nat):Int),x]) k:=by
 intro ow pins s σ H R I ⟨E,q⟩
 have n2:=bN (env:=X.env) (es:=[]) hst
 have key:∀(us:List Value) (s1:Shared) (t:Tok),(∃vs H1,Inv X pins σ H1 s1/\aW vs us/\aJ H H1/\ar X.K H1 (Kp ow H k) [.lst l] vs)->wpAny (model X.prog X.w) X.A (call (.type "enumerate") us [(oy,.int 1 t)]) (fun v s2=>wpAny (model X.prog X.w) X.A (pyIter v) (No X pins σ (.Tuple es n1 tp) R) X.xe s2) X.xe s1:=by
  rintro us s1 t ⟨vs,H1,I1,rv,sm,rp⟩
  obtain⟨v,rfl,rv1⟩:=rp.only
  obtain⟨ta,xs,rfl,hq,rl,hk1⟩:=HZ (κ:=false) rv1
  replace hq:de X.K H1 ta xs:=hq
  obtain⟨u,rfl,ru⟩:=dX rv
  cases (show u=Value.ref ta from ru)
  obtain⟨its,rvs,pt,hz⟩:=I1.list hq
  refine Cw (show s1.heap.IsList ta its.toArray from pt.isList) fun h2 isE hIt sz k2=>?_
  refine wpAny_pyIter_enum isE ?_
  have I2:Inv X pins σ H1 { s1 with heap:=h2 }:=I1.kept (t':=s1.toks) k2
  have f0:H1 s1.heap.objs.size=none:=I1.hok.fresh (ZP _)
  have f1:H1 (s1.heap.objs.size+1)=none:=I1.hok.fresh (Nat.le_succ _)
  refine⟨s1.heap.objs.size+1,[s1.heap.objs.size+1,s1.heap.objs.size],_,_,H1,rfl,I2,xq ta _ _ (ag2 (ac5 _)),⟨⟨_,isE⟩,hIt⟩,fun b hb=>?_,q _ H1 sm ?_⟩
  ·rcases ZT.mp hb with rfl|hb
   ·exact I1.fpOk (Nat.le_succ _) f1
   ·have eb:b=s1.heap.objs.size:=by simpa using hb
    subst eb
    exact I1.fpOk (ZP _) f0
  ·intro i H2 st
   have rl':ar X.K H1 (Kd ow H k H1) l xs:=rl.flat _ hf
   refine⟨fun d hd=>?_,fun hle=>?_⟩
   ·rw[List.getElem?_mapIdx]at hd
    cases e:l[i]? with
    | none=>rw[e]at hd;cases hd
    | some x =>
     rw[e]at hd;cases hd
     obtain⟨y,hy,ry⟩:=rl'.get e
     refine⟨⟨xs,y,hk1 st,hy⟩,fun x' H3 ⟨p',v',e1,e2,e3,e4⟩=>?_⟩
     have hv:=e4 xs (hk1 st)
     rw[hy]at hv;cases hv
     subst e1 e3
     have sm3:=dR (o:=HO.tup [.int ((i+1:Nat):Int),y]) e2
     refine⟨sm3,?_⟩
     rw[ao]
     exact⟨p',_,rfl,dh.of bg,ar.cons (by rw[ao]) (ar.one ((ry.mono st).same sm3))⟩
   ·rw[List.length_mapIdx]at hle
    exact⟨xs,hk1 st,by rw[<- rl.length];exact hle⟩
 refine af1 (gw I hg hm0 (show bootBuiltins "enumerate" = some (.type "enumerate") by decide +kernel) ?_ (by decide +kernel) (by decide +kernel))
 exact Nx (kws:=[⟨some oy,.Constant (.int 1) n0 p0,kp⟩]) (be (ha ow pos pins s σ H (fun vs H1=>aJ H H1/\ar X.K H1 (Kp ow H k) [.lst l] vs) I ⟨E,fun vs H1 s1 r1=>⟨s1,r1⟩⟩) fun us s1 ⟨vs,H1,I1,rv,sm,rp⟩=>kws_cons (wpAny_Constant_int (kws_nil (key us _ _ ⟨vs,H1,I1.tok _,rv,sm,rp⟩)))) (by rw[n2];rfl) (cV fun x hx=>by rw[List.mem_singleton.mp hx];exact hst)
def mD(P:Program)(w:World)(K:W.Frag)(mg:Str->Option Value)(d:Str)(kvs:List (Str×Int)):Prop:=∃a,mg d=some (.ref a)/\(a==sysModules)=false/\(d==("__debug__" : Str))=false/\∀h:Heap,K.In h->∃f,Heap.MapOf (strKind P w) h a f/\∀x,(kvs.lookup x=none->f x=none)/\∀i,kvs.lookup x=some i->∃t,f x=some (.int i t)
def ke(P:Params):List (Str×Int)->List (Tok×Tok)->List DictEntry
 | (x,i)::l,(t,u)::ts=>⟨PyData.keyHash P x,.str x t,.int i u⟩::ke P l ts
 | _,_=>[]
theorem w9{P:Program}{w:World}:∀(l:List (Str×Int)) (ts:List (Tok×Tok)),∀e∈ke w.params l ts,∃k,(strKind P w).is k e.key=true/\e.hash=(strKind P w).hash k
 | (x,i)::l,(t,u)::ts,e,h=>by
  rcases ZT.mp h with rfl|h
  ·exact⟨x,by show Value.isStrOf x (.str x t)=true;simp[Value.isStrOf],rfl⟩
  ·exact w9 l ts e h
 | [],_,e,h=>by unfold ke at h;cases h
 | _::_,[],e,h=>by unfold ke at h;cases h
theorem xa{P:Params}:∀(l:List (Str×Int)) (ts:List (Tok×Tok)) (x:Str),l.length=ts.length->(l.lookup x=none->(ke P l ts).find? (fun e=>Value.isStrOf x e.key)=none)/\∀i,l.lookup x=some i->∃e t,(ke P l ts).find? (fun e=>Value.isStrOf x e.key)=some e/\e.val=.int i t
 | [],[],x,_=>⟨fun _=>rfl,fun i h=>by cases h⟩
 | (y,j)::l,(t,u)::ts,x,hl=>by
  obtain⟨h1,h2⟩:=xa (P:=P) l ts x (by simpa using hl)
  have hd:Value.isStrOf x (.str y t)=decide (y=x):=by
   by_cases e:y=x
   ·subst e;rw[ad2 rfl];simp[Value.isStrOf]
   ·rw[aa1 e];simp[Value.isStrOf,e]
  rw[aa4]
  by_cases e:y=x
  ·subst e
   rw[beq_self_eq_true]
   refine⟨(fun z=>by cases z),fun i z=>?_⟩
   cases z
   exact⟨_,u,by rw[ke,ai2,show Value.isStrOf y (.str y t)=true by rw[hd,ad2 rfl]],rfl⟩
  ·have eb:(x==y)=false:=by
    rw[ai5];exact fun z=>e z.symm
   rw[eb]
   refine⟨fun z=>?_,fun i z=>?_⟩
   ·rw[ke,ai2,show Value.isStrOf x (.str y t)=false by rw[hd,aa1 e]]
    exact h1 z
   ·obtain⟨e',t',h3,h4⟩:=h2 i z
    exact⟨e',t',by rw[ke,ai2,show Value.isStrOf x (.str y t)=false by rw[hd,aa1 e]];exact h3,h4⟩
 | [],_::_,x,hl=>by cases hl
 | _::_,[],x,hl=>by cases hl
theorem Pk{a:Addr}{ts:List (Tok×Tok)}{n:Nat}(hm:mg d=some (.ref a))(hs:(a==sysModules)=false)(hd:(d==("__debug__" : Str))=false)(hl:kvs.length=ts.length)
  (hk:K.lookup a=some { cls:=.type "dict", dict:=none,data:=.dict (ke w.params kvs ts).toArray n,slots:=#[] }):mD P w K mg d kvs:=by
 refine⟨a,hm,hs,hd,fun h X=>⟨fun x=>findBy (strKind P w).is (ke w.params kvs ts).toArray x,⟨_,_,n,X a _ hk,⟨rfl,rfl,rfl⟩,rfl,fun e he=>w9 kvs ts e (by simpa using he),fun _=>rfl⟩,fun x=>?_⟩⟩
 obtain⟨h1,h2⟩:=xa (P:=w.params) kvs ts x hl
 have e0:findBy (strKind P w).is (ke w.params kvs ts).toArray x=((ke w.params kvs ts).find? fun e=>Value.isStrOf x e.key).map (·.val):=by
  show Option.map _ (Array.find? _ _)=_
  rw[List.find?_toArray]
  rfl
 refine⟨fun z=>e0.trans (by rw[h1 z];rfl),fun i z=>?_⟩
 obtain⟨e,t,h3,h4⟩:=h2 i z
 exact⟨t,e0.trans (by rw[h3];exact ad4 some h4)⟩
theorem HI(D:mD X.prog X.w X.K X.mg d kvs)(hg:Gl X d)(he:ED X ρ e (.str x) k):TD X ρ (.Compare e [.NotIn] [.Name d p] q) (kvs.lookup x).isNone:=by
 obtain⟨a,hm,hs,hdb,hf⟩:=D
 have op:dD X (compareOp .NotIn) (fun v u H Q=>v=.str x/\u=.ref a/\Q (.bl (kvs.lookup x).isNone) H):=by
  intro pins s σ H v u xv yu Q I rv ru ⟨e1,e2,q⟩
  subst e1 e2
  obtain⟨t,rfl⟩:=rv
  cases ru
  obtain⟨f,mo,hx⟩:=hf s.heap I.kIn
  refine wpAny_notIn_of (knd:=strKind X.prog X.w) (k:=x) (by show Value.isStrOf x (.str x t)=true;simp[Value.isStrOf]) hs mo ?_
  have e:(!(f x).isSome)=(kvs.lookup x).isNone:=by
   cases z:kvs.lookup x with
   | none=>rw[(hx x).1 z];rfl
   | some i=>obtain⟨t,ht⟩:=(hx x).2 i z;rw[ht];rfl
  rw[e]
  exact⟨.bl _,H,I.tok _,rfl,q⟩
 intro ow
 refine tL (FK op (he ow) (qy (v:=.ref a) hg hm rfl hdb) rfl) fun σ H Q ⟨E,q⟩=>⟨E,fun v H1 s1 r1=>?_⟩
 rw[ao]at r1
 exact⟨r1,rfl,_,rfl,q H1 s1⟩
theorem GW{i:Int}(D:mD X.prog X.w X.K X.mg d kvs)(hg:Gl X d)(he:ED X ρ e (.str x) k)(hs:gp e)(hx:kvs.lookup x=some i):ED X ρ (.Subscript (.Name d p) e q) (.int i) 0:=by
 obtain⟨a,hm,hs',hdb,hf⟩:=D
 have op:Ep X (fun v u H Q=>v=.ref a/\u=.str x/\Q (.int i) H):=by
  intro value slice pins s σ H v u xv yu Q I rv ru ⟨e1,e2,q⟩ hsub
  subst e1 e2
  obtain⟨t,rfl⟩:=ru
  cases rv
  obtain⟨f,mo,hx'⟩:=hf s.heap I.kIn
  obtain⟨t',ht⟩:=(hx' x).2 i hx
  obtain⟨o,es,ep,m1,m2,m3⟩:=id mo
  exact subscriptTail_builtinR (x:=.int i t') ⟨o,m1,m2.1⟩ PySem.F.slot_dict_getitem.lookup (wpAny_getItem_of (knd:=strKind X.prog X.w) (k:=x) (Q:=fun r s'=>r=.int i t'/\EP X pins σ Q r s') (by show Value.isStrOf x (.str x t)=true;simp[Value.isStrOf]) mo ht ⟨rfl,.int i,H,I.tok _,⟨_,rfl⟩,q⟩) hsub
 intro ow
 refine bS (xP op (qy (v:=.ref a) hg hm rfl hdb) (he ow) hs) fun σ H Q ⟨E,q⟩=>⟨E,fun v H1 s1 r1=>?_⟩
 rw[ao]at r1
 exact⟨rfl,r1,q _ H1 s1 (by rw[ao])⟩
abbrev rG:=Str->Option (List (Str×Int))
inductive xk(Φ:Fx)(sc:Scope)(tg:Expr)(body:List Stmt):List D->am->am->Prop where
 | nil {ρ:am}:xk Φ sc tg body [] ρ ρ
 | cons {d:D} {ds:List D} {ρ ρ1 ρ2 ρ3:am} (hb:bX sc tg d ρ=some ρ1) (h:ag (aH Φ body sc ρ1) (.nx ρ2)) (k:xk Φ sc tg body ds ρ2 ρ3):xk Φ sc tg body (d::ds) ρ ρ3
theorem K8{tg:Expr}{body:List Stmt}{ds:List D}{ρ':am}(G:bz Φ X sc)(hp:PassesOwn (model X.prog X.w) X.A X.env X.xe)(h:xk Φ sc tg body ds ρ ρ'):Bp X H0 tg body ds ρ (.nx ρ'):=by
 induction h with
 | nil=>exact rfl
 | cons hb h k ih=>exact⟨_,yn G hb,.inl ⟨_,lX _ h G hp,ih⟩⟩
inductive Rb(Φ:Fx)(sc:Scope)(ss:List Stmt)(ρ:am)(fl:Fl):Prop where
 | base (h:ag (aH Φ ss sc ρ) fl):Rb Φ sc ss ρ fl
inductive Rd(Φ:Fx)(Δ:rG)(sc:Scope):List Stmt->am->Fl->Prop where
 | rf {ss:List Stmt} {ρ:am} {fl:Fl} (h:Rb Φ sc ss ρ fl):Rd Φ Δ sc ss ρ fl
 | cut (n:Nat) {ss:List Stmt} {ρ ρ1:am} {fl:Fl} (h:ag (aH Φ (ss.take n) sc ρ) (.nx ρ1)) (k:Rd Φ Δ sc (ss.drop n) ρ1 fl):Rd Φ Δ sc ss ρ fl
 | ifK {e:Expr} {x d:Str} {kvs:List (Str×Int)} {k:Nat} {p q pos:Pos} {a b ss:List Stmt} {ρ ρ1:am} {t:Bool} {fl:Fl} (hΔ:Δ d=some kvs) (he:ag (aE Φ e false sc ρ) (.str x,k)) (ht:(kvs.lookup x).isNone=t) (gd:sc.names.lookup d=some .globalImplicit) (h:Rd Φ Δ sc (cond t a b) ρ (.nx ρ1)) (k:Rd Φ Δ sc ss ρ1 fl) :
  Rd Φ Δ sc (.If (.Compare e [.NotIn] [.Name d p] q) a b pos::ss) ρ fl
 | setK {e:Expr} {x d y:Str} {kvs:List (Str×Int)} {i c:Int} {k n:Nat} {p p1 p2 p3 py q:Pos} {ss:List Stmt} {ρ:am} {fl:Fl} (hΔ:Δ d=some kvs) (he:ag (aE Φ e false sc ρ) (.str x,k)) (hs:gp e) (hv:kvs.lookup x=some i) (gd:sc.names.lookup d=some .globalImplicit) (hy:dE sc y=true) (k:Rd Φ Δ sc ss (bT ρ y (.int (i+c),true)) fl) :
  Rd Φ Δ sc (.Assign [.Name y py] (.BinOp (.Subscript (.Name d p) e p1) .Add (.Constant (.int c) n p2) p3) q::ss) ρ fl
 | forE {es:List Expr} {n1 n0:Nat} {tp p pos ep p0 kp:Pos} {e:Expr} {f:Str} {body ss:List Stmt} {ρ ρ1:am} {l:List D} {k:Nat} {fl:Fl} (he:ag (ck Φ [e] sc (demL [e] ρ)) ([.lst l],k)) (hl:aC l=true) (hk:k<=1) (hf:f = "enumerate") (gf:sc.names.lookup f=some .globalImplicit) (h:xk Φ sc (.Tuple es n1 tp) body (qZ 1 l) (demL [e] ρ) ρ1) (k:Rd Φ Δ sc ss ρ1 fl) :
  Rd Φ Δ sc (.For (.Tuple es n1 tp) (.Call (.Name f p) [e] [⟨some oy,.Constant (.int 1) n0 p0,kp⟩] ep) body [] pos::ss) ρ fl
theorem NY{Δ:rG}{ss:List Stmt}{fl:Fl}(G:bz Φ X sc)(hp:PassesOwn (model X.prog X.w) X.A X.env X.xe)(hD:∀d kvs,Δ d=some kvs->mD X.prog X.w X.K X.mg d kvs)(h:Rd Φ Δ sc ss ρ fl):iw X H0 ρ ss fl:=by
 induction h with
 | rf h =>
  rename_i ss ρ fl
  cases h with|base h=>exact lX _ h G hp
 | cut n h k ih =>
  rename_i ss ρ ρ1 fl
  rw[<- List.take_append_drop n ss];exact qj G hp h ih
 | ifK hΔ he ht gd h k i1 i2 =>
  rename_i e x d kvs k p q pos a b ss ρ ρ1 t fl
  refine gO (DB (ht ▸ HI (hD _ _ hΔ) (G.gl _ gd) ((eU he G).ed rfl)) ?_) i2
  cases t with
  | true=>rw[if_pos rfl];exact i1
  | false=>rw[if_neg aa8];exact i1
 | setK hΔ he hs hv gd hy k ih =>
  rename_i e x d y kvs i c k n p p1 p2 p3 py q ss ρ fl
  exact gO (oA G hy (AF (GW (hD _ _ hΔ) (G.gl _ gd) ((eU he G).ed rfl) hs hv) (AE rfl) (show mi .Add (.int _) (.int _) 0 0=.ok (.int _,0) []from rfl) True.intro) (.inl ⟨rfl,rfl⟩) (jw rfl)) ih
 | forE he hl hk hf gf h k ih =>
  rename_i es n1 n0 tp p pos ep p0 kp e f body ss ρ ρ1 l k' fl
  subst hf
  obtain⟨l7,h7,p7⟩:=he
  obtain⟨hst,_⟩:=dJ h7 p7
  have hI:=Cr (X:=X) (es:=es) (n1:=n1) (n0:=n0) (tp:=tp) (p:=p) (pos:=ep) (p0:=p0) (kp:=kp) (G.gl _ gf) (G.bl _ (by decide +kernel)) (j7 [e] h7 p7 G) (hst e ZV) hl
  have el:(l.mapIdx fun i x=>D.tup [.int ((i+1:Nat):Int),x])=qZ 1 l:=by
   rw[wZ]
   congr 1
   funext i x
   rw[Nat.add_comm]
  rw[el]at hI
  exact gO (FE hp G.calm hI hk (K8 G hp h) fun x=>rfl) ih
theorem AG{l:List (Str×List (Str×Int))}(h:∀q∈l,mD P w K mg q.1 q.2):∀d kvs,(fun d:Str=>l.lookup d) d=some kvs->mD P w K mg d kvs:=fun d kvs e=>h (d,kvs) (aa0 e)
def yW(Φ:Fx)(Δ:rG)(sc:Scope)(ps:List Str)(ss:List Stmt)(ds:List D)(r:D):Prop:=ds.length=ps.length/\Rd Φ Δ sc ss (fj ps ds) (.rt r)
theorem wX{base:Heap}{g qual:Str}{st:Stmt}{f:Addr}{fd:FuncData}{ps:List Str}{Δ:rG}{F:List D->Rs D}(Fn:ky K g qual st f fd)
  (S:aA (au (ae st)) ps (ae st)) (hΦ:nG P w K mg base k Φ) (hD:∀d kvs,Δ d=some kvs->mD P w K mg d kvs) (hrun:∀ds r,ag (F ds) r->yW Φ Δ (ae st) ps (ak st) ds r):cu P w K mg base eO (k+1) f fd ps (lg K F):=by
 refine Fn.ok S (fun vs H Q E h=>?_) (fun cdv A outer s H vs Q E hr h=>?_)
 ·obtain⟨ds,r,l,h1,h2,hp,_⟩:=h
  rw[<- h1.length]
  exact(hrun ds r ⟨l,h2,hp⟩).1
 ·obtain⟨ds,r,l,h1,h2,hp,qq⟩:=h
  obtain⟨hl,hr'⟩:=hrun ds r ⟨l,h2,hp⟩
  have G:=jU (outer:=outer) (H:=H) (E:=E) S hΦ hr
  obtain⟨E0,hsl⟩:=ma (P:=P) (w:=w) (mg:=mg) (base:=base) (qual:=qual) (f:=f) (cdv:=cdv) (A:=A) (outer:=outer) (s:=s) (E:=E) S h1 hl
  have B0:d7 H (fun _=>none) H:=fun a o h=>⟨h,rfl⟩
  exact⟨_,NY (H0:=H) G PassesOwn.never hD hr',fun _=>none,E0,hsl,B0,fun v H' sm rp=>qq v H' sm rp⟩
end Sp
namespace Att
open PySem PySem.W PySem.Calls PyProof.Rows
theorem oq:∀(ns:List Int) (m:Int),m∈ns->Builtin.Int.intBits m<=WData.weightAll (ns.map WData.int)
 | n::ns,m,h=>by
  rw[ac4,WData.weightAll,WData.weight]
  rcases ZT.mp h with rfl|h
  ·unfold Builtin.Int.intBits;omega
  ·have:=oq ns m h;omega
theorem G6{ns:List Int}(h:WData.layableAll [WData.list (ns.map WData.int)]=true):∀m∈ns,Builtin.Int.intBits m<=2 ^ 20:=fun m hm=>by
 unfold WData.layableAll at h
 have h1:WData.layable (WData.list (ns.map WData.int))=true:=by simpa using h
 unfold WData.layable at h1
 have h2:=(Bool.and_eq_true_iff.mp h1).2
 have h3:=af9 h2
 rw[WData.weight]at h3
 exact ZN (oq ns m hm) h3
theorem attach_callB{l:OpenLaw}{n:Nat}{q:Program}{loose:List Str}{XP:(Str->Option Value)->Heap->Prop}{YP:World->Heap->Prop}{d:DefRec}
  (hn:l.most=some n) (hdf:d.params.defaults=[])
  (call:∀(w:World) (s₀ s₁:Shared) (mg mb:Str->Option Value) (fa:Addr) (o:Obj) (pm cd doc:Value) (a:Addr) (vs:List Value) (ns:List Int),
   Ground q loose [] XP w s₀ mg mb s₁.heap->YP w s₁.heap ->
   s₁.heap.get? fa=some o->o.data=.func (docDef d.name d.params d.body d.scope pm cd doc)->s₁.heap.CodeRec cd d.name->mg d.name=some (.ref fa) ->
   s₁.heap.get? a=some { cls:=.type "list", data:=.seq vs.toArray }->IntsAre vs ns->ns.length<=n->(∀m∈ns,Builtin.Int.intBits m<=2 ^ 20)->s₁.gens = #[] ->
   codeAny (model l.prog w) callerA (.call (.ref fa) ⟨[.ref a],[]⟩) (fun r s'=>r=.ok (.ret (.bool true))/\OldK s₁.heap s'.heap/\s'.os=s₁.os/\AllBare s'.gens) s₁) :
  WalkO q loose XP YP l.row.toRowW d [] (fun f vs=>PySem.call f vs):=by
 intro w s₀ s₁ mg mb G Y fa o pm cd doc dV kV ho hd hcd hD hmg hg args vals as hpre hlay hrd hwl hlo
 obtain rfl:dV=.none:=Dflts.none hD hdf
 obtain rfl:kV=.none:=Dflts.noKw hD
 obtain⟨a,vs,ns,rfl,rfl,hobj,hints,hlen⟩:=rN hn hpre hwl
 have hbits:=G6 hlay
 refine enter_call (aj5 (call w s₀ s₁ mg mb fa o pm cd doc a vs ns G Y ho (fd_plain hd) hcd hmg hobj hints hlen hbits hg) fun r s' hq=>?_)
 obtain⟨rfl,h2,h3,h4⟩:=hq
 exact⟨.inl ⟨.bool true,.bool true,[],rfl,fun _=>rfl,.bool true,rQ l _,fun _=>⟨List.Pairwise.nil,fun _ hm=>(nomatch hm)⟩⟩,h2,h3,h4⟩
end Att
namespace L2
open PySem PySem.Spec PyProof.Rows
theorem walk_ofB{l:W.OpenLaw}{n k:Nat}{q:Program}{loose:List Str}{XP:(Str->Option Value)->Heap->Prop}{YP:World->Heap->Prop}{d:DefRec}{K:Params->W.Frag}{CX:World->jv}{sp:World->Sp}{x:Str}
  (hn:l.most=some n) (hn2:n<=sizeLine) (hdf:d.params.defaults=[]) (hr:cA k callerA)
  (hY:∀(w:World) (h:Heap),YP w h->(K w.params).In h)
  (F:∀(w:World) (mg:Str->Option Value) (fa:Addr) (h:Heap),(K w.params).In h->h.Ns mainGlobals mg->mg d.name=some (.ref fa) ->
   ∃fd:FuncData,(∀(s:Shared) (u:Value),BindsTo s fd ⟨[u],[]⟩ [(x,u)]) /\
    ∀base:Heap,(K w.params).In base->base.Ns mainGlobals mg->cu l.prog w (K w.params) mg base (CX w) k fa fd [x] (sp w))
  (hsp:∀(w:World) (H:Hp) (a:Addr) (ns:List Int),ns.length<=n->(∀m∈ns,Builtin.Int.intBits m<=2 ^ 20)->vL H->de (K w.params) H a (ns.map V.int)->sp w [.ref a] H (fun v _=>v=.bl true) fun _ _ _=>False)
  (hCX:∀(w:World) (H:Hp) (s:Shared) (e:Value) (s':Shared),CX w [] H s (fun _ _ _=>False) e s'->False) :
  W.WalkO q loose XP YP l.row.toRowW d [] (fun f vs=>PySem.call f vs):=by
 refine Att.attach_callB hn hdf fun w s₀ s₁ mg mb fa o pm cd doc a vs ns G Y ho hd hcd hmg hobj hints hlen hbits hg=>?_
 have KX:=hY w _ Y
 obtain⟨fd,hb,hF⟩:=F w mg fa _ KX G.T.g hmg
 exact uL KX G.T.g G.T.b G.T.builtins G.T.nolimit hg hobj hints (ZN hlen hn2) hr hF hb (fun H hO hS=>hsp w H a ns hlen hbits hO hS) fun H e s'=>hCX w H s₁ e s'
end L2
namespace K
open PySem L2 Sp
variable{L:List D}{a b c d e f g h i k n r0 r1 r2 r3 r4 r5 r6 r7 r8 x y:Int}{Q p q:Qd}{s u v:V3}{j m:Nat}{t1 t2 w1 w2:D}{ns:List Int}{w:World}{P:Program}{k0:W.Frag}{mg:Str->Option Value}{base:Heap}{F:List D->Rs D}{l:List (Str×(List D->Rs D))}{loose:List Str}{XP:(Str->Option Value)->Heap->Prop}
noncomputable def ah(i:Nat):Stmt:=PySem.Challenge.pw_spaceturns_k58_whole_turns_and_numbers.main.body.getD i (.Pass ⟨0,0,0,0⟩)
local macro_rules | `(tactic| walk_at "leaf") => `(tactic| first | ((with_reducible apply Gg);decide) | ((with_reducible apply Gh);decide) | ((with_reducible apply GZ) <;> decide) | ((with_reducible apply cj) <;> (with_reducible assumption)) | ((with_reducible apply FP) <;> decide) | ((with_reducible refine Eq.trans ?_ rfl);exact rfl) | ((with_reducible apply CJ);(with_reducible assumption)) | ((with_reducible apply JJ);assumption) | exact ab2 rfl|exact Or.inl rfl|exact Or.inr rfl|exact Or.inr (ZP 1) | exact Or.inr (ZY 1) | decide|decide +kernel)
local macro_rules | `(tactic| walk_at "ob") => `(tactic| (repeat' (first|with_reducible exact True.intro|with_reducible exact C7|with_reducible apply yN|with_reducible apply C6|with_reducible apply v6|with_reducible assumption | ((with_reducible apply fM);intro hgd) | walk_at "leaf")))
local macro_rules | `(∅) => `(cQ rfl (by walk_at "ob"))
noncomputable def BL:List (Str×(List D->R1)):=[("len", yG),("tuple", vy),("list", tH),("abs", C3),("all", rh),("any", yH),("sum", CO),("isinstance", CV),("int", mZ),("str", CP),("min", CQ)]
noncomputable def IL:List (Str×(List D->Nat->R1)):=[("range", uS),("zip", yj)]
noncomputable def ML:List (Str×(D->List D->R1)):=[("join", oO),("split", oN),("startswith", Ki)]
noncomputable def TL:List (Str×(List D->List D->Nat->Rs (List D))):=[("append", qN)]
noncomputable def C9:Fx:=Tb [] [] BL IL ML TL aN
noncomputable def Dd:List D->Rs D:=bw C9 (ae (ah 60)) ["_law_script", "_law_k"] (ak (ah 60))
noncomputable def kX:List D->Rs D:=t7 dL dI fun l k=>.ok (.int (d6 l k)) [okL l]
theorem wm:∀ds r,ag (kX ds) r->ag (Dd ds) r:=by
 intro ds r h
 obtain⟨l,k,rfl,h⟩:=jL h
 obtain⟨rfl,⟨ns,rfl⟩,_⟩:=dZ h
 refine bC (dS 1 (cQ rfl True.intro) (xC (cQ rfl True.intro) (fun ht=>?_) (fun hf=>?_)))
 ·have hl:(ns.map D.int).length=ns.length:=by simp
  have hp:(0:Int)<((ns.map D.int).length:Nat):=by simpa using ht
  have hi:L2.atI (ns.map D.int) (k.fmod (((ns.map D.int).length:Nat):Int))=some (.int (fJ ns k)):=by
   rw[hl]at hp⊢
   have hne:ns≠[]:=by intro z;subst z;simp at hp
   unfold fJ
   rw[if_neg hne]
   exact Hm (aa9 _ hp) (ab7 _ hp)
  refine aX (bM (d:=.int (fJ ns k)) (fK (cQ rfl True.intro) (cQ rfl ⟨Int.ne_of_gt hp,True.intro⟩) rfl hi)) ?_
  refine ∅.eq ?_
  unfold d6 pD;rw[kA]
 ·have hp:ns=[]:=by
   cases ns with
   | nil=>rfl
   | cons n ns=>simp at hf
  subst hp
  refine ∅.eq ?_
  rfl
noncomputable def yU:Fx:=Tb [] [] BL IL ML TL aN
noncomputable def yX:List D->Rs D:=bw yU (ae (ah 63)) ["_law_cell_here", "_law_kind"] (ak (ah 63))
noncomputable def kW:List D->Rs D:=t7 dI dI fun c k=>.ok (.int (uu c k)) [Builtin.Int.intBits c<=2 ^ 21]
theorem sK:∀ds r,ag (kW ds) r->ag (yX ds) r:=by
 intro ds r h
 obtain⟨c,k,rfl,h'⟩:=jL h
 obtain⟨rfl,hb,_⟩:=dZ h'
 have hm:cD c (1000003 ^ Int.toNat 4):=Gf (ZN hb (by decide)) CM
 unfold uu
 by_cases h1:k.fmod 3=0
 ·rw[if_pos h1]
  exact bC (eD ∅ (lZ h1) ∅)
 ·rw[if_neg h1]
  by_cases h2:k.fmod 3=1
  ·rw[if_pos h2]
   exact bC (aM ∅ ((di _ _).trans (aa1 h1)) (eD ∅ (lZ h2) ∅))
  ·rw[if_neg h2]
   exact bC (aM ∅ ((di _ _).trans (aa1 h1)) (aM ∅ ((di _ _).trans (aa1 h2)) ∅))
noncomputable def ik:Fx:=Tb [("_law_cell", kX),("_law_number", kW)] [] BL IL ML TL aN
noncomputable def ge:List D->Rs D:=bw ik (ae (ah 64)) ["_law_script", "_law_at", "_law_many"] (ak (ah 64))
theorem DJ(hw:oG L)(k q:Int)(ha:ci a)(hb:ci b)(hc:ci c)(hd:ci d):∃x y z w:Int,(ci x/\ci y/\ci z/\ci w) /\ ¬ (x=0/\y=0/\z=0/\w=0)/\ag (aH ik ((ak (ah 64)).drop 4) (ae (ah 64)) (bE [("_law_script", .lst L,false),("_law_at", .int k,false),("_law_many", .int 4,false),("_law_kind", .int q,true),("_law_found", .lst [.int a,.int b,.int c,.int d],true)])) (.rt (.tup [.int x,.int y,.int z,.int w])):=by
 have i0:=aa9 (q.fdiv 9) (show(0:Int)<4 by decide)
 have i1:=ab7 (q.fdiv 9) (show(0:Int)<4 by decide)
 have j0:=aa9 (q.fdiv 36) (show(0:Int)<2 by decide)
 have j1:=ab7 (q.fdiv 36) (show(0:Int)<2 by decide)
 have an:=C5 a b c d
 by_cases h:a=0/\b=0/\c=0/\d=0
 ·rw[ad2 h]at an
  obtain⟨x,y,z,w,e,hp,hn⟩:=qo i0 i1 a b c d (1-2*(q.fdiv 36).fmod 2)
  refine⟨x,y,z,w,hp ci ha hb hc hd (by unfold ci;generalize (q.fdiv 36).fmod 2=t at *;omega),hn (by omega),?_⟩
  exact eD (∅.bl (c:=true) (by show(!(([a,b,c,d]:List Int).any fun n=>n != 0))=true;rw[an];rfl)) rfl (aX (j5 rfl ∅ ∅ e rfl rfl) ∅)
 ·rw[aa1 h]at an
  refine⟨a,b,c,d,⟨ha,hb,hc,hd⟩,h,?_⟩
  exact aM (∅.bl (c:=false) (by show(!(([a,b,c,d]:List Int).any fun n=>n != 0))=false;rw[an];rfl)) rfl ∅
theorem DK(hw:oG L)(k q:Int)(ha:ci a)(hb:ci b)(hc:ci c)(hd:ci d):∃x y z w:Int,(ci x/\ci y/\ci z/\ci w) /\ ¬ (x=0/\y=0/\z=0/\w=0)/\ag (aH ik ((ak (ah 64)).drop 3) (ae (ah 64)) (bE [("_law_script", .lst L,false),("_law_at", .int k,false),("_law_many", .int 4,false),("_law_kind", .int q,true),("_law_found", .lst [.int a,.int b,.int c,.int d],true)])) (.rt (.tup [.int x,.int y,.int z,.int w])):=by
 have hl:=hw.okL
 have i0:=aa9 (q.fdiv 9) (show(0:Int)<4 by decide)
 have i1:=ab7 (q.fdiv 9) (show(0:Int)<4 by decide)
 by_cases h:(q.fdiv 3).fmod 3=2
 ·obtain⟨x,y,z,w,e,hp,hn⟩:=qo i0 i1 a a a a (uu (d6 L (k+2)) q)
  obtain⟨hx,hy,hz,hw'⟩:=hp ci ha ha ha ha (lP _ _)
  obtain⟨x',y',z',w',h1,h2,h3⟩:=DJ hw k q hx hy hz hw'
  refine⟨x',y',z',w',h1,h2,?_⟩
  exact eD ∅ (lZ h) (dS 1 ∅ (aX (j5 rfl ∅ ∅ e rfl rfl) (cy (ai rfl (ai rfl (ai rfl (ai rfl (ai rfl aG))))) h3)))
 ·obtain⟨x',y',z',w',h1,h2,h3⟩:=DJ hw k q ha hb hc hd
  refine⟨x',y',z',w',h1,h2,?_⟩
  exact aM ∅ ((di _ _).trans (aa1 h)) h3
theorem Of(hw:oG L)(k q:Int)(ha:ci a)(hb:ci b)(hc:ci c)(hd:ci d):∃x y z w:Int,(ci x/\ci y/\ci z/\ci w) /\ ¬ (x=0/\y=0/\z=0/\w=0)/\ag (aH ik ((ak (ah 64)).drop 2) (ae (ah 64)) (bE [("_law_script", .lst L,false),("_law_at", .int k,false),("_law_many", .int 4,false),("_law_kind", .int q,true),("_law_found", .lst [.int a,.int b,.int c,.int d],true)])) (.rt (.tup [.int x,.int y,.int z,.int w])):=by
 have hl:=hw.okL
 have i0:=aa9 (q.fdiv 9) (show(0:Int)<4 by decide)
 have i1:=ab7 (q.fdiv 9) (show(0:Int)<4 by decide)
 by_cases h:(q.fdiv 3).fmod 3=1
 ·obtain⟨x,y,z,w,e,hp,hn⟩:=qo i0 i1 a b c d 0
  obtain⟨hx,hy,hz,hw'⟩:=hp ci ha hb hc hd (ZY _)
  obtain⟨x',y',z',w',h1,h2,h3⟩:=DK hw k q hx hy hz hw'
  refine⟨x',y',z',w',h1,h2,?_⟩
  exact eD ∅ (lZ h) (aX (j5 rfl ∅ ∅ e rfl rfl) (cy (ai rfl (ai rfl (ai rfl (ai rfl (ai rfl aG))))) h3))
 ·obtain⟨x',y',z',w',h1,h2,h3⟩:=DK hw k q ha hb hc hd
  refine⟨x',y',z',w',h1,h2,?_⟩
  exact aM ∅ ((di _ _).trans (aa1 h)) h3
theorem zS(hw:oG L)(k:Int):∃x y z w:Int,(ci x/\ci y/\ci z/\ci w) /\ ¬ (x=0/\y=0/\z=0/\w=0)/\ag (ge [.lst L,.int k,.int 4]) (.tup [.int x,.int y,.int z,.int w]):=by
 have hl:=hw.okL
 obtain⟨x',y',z',w',h1,h2,h3⟩:=Of hw k (d6 L k) (lP (d6 L (k+1+0)) (d6 L k)) (lP (d6 L (k+1+1)) (d6 L k)) (lP (d6 L (k+1+2)) (d6 L k)) (lP (d6 L (k+1+3)) (d6 L k))
 exact⟨x',y',z',w',h1,h2,bC (dS 2 ∅ (cy (ai rfl (ai rfl (ai rfl (ai rfl (ai rfl aG))))) h3))⟩
noncomputable def sx:Fx:=Tb [("_law_cell", kX),("_law_numbers", ge)] [] BL IL ML TL aN
noncomputable def jr:List D->Rs D:=bw sx (ae (ah 72)) ["_law_script", "_law_numbers_here"] (ak (ah 72))
noncomputable def fB(x:Int):Prop:=x.natAbs<=4*10 ^ 20
theorem Kj(h:ci x):fB x:=ZN h (by decide)
theorem zP(i0:0<=i)(i1:i<4)(ha:fB a)(hb:fB b)(hc:fB c)(hd:fB d):∃x y z w:Int,(fB x/\fB y/\fB z/\fB w) /\ ¬ (x=0/\y=0/\z=0/\w=0)/\ag (aH sx ((ak (ah 72)).drop 8) (ae (ah 72)) (bE [("_law_at", .int i,true),("_law_found", .lst [.int a,.int b,.int c,.int d],true)])) (.rt (t4 x y z w)):=by
 have an:=C5 a b c d
 by_cases h:a=0/\b=0/\c=0/\d=0
 ·rw[ad2 h]at an
  obtain⟨x,y,z,w,e,hp,hn⟩:=qo i0 i1 a b c d 1
  refine⟨x,y,z,w,hp fB ha hb hc hd (by unfold fB;decide),hn (by decide),?_⟩
  exact eD ((∅).bl (c:=true) (by show(!(([a,b,c,d]:List Int).any fun n=>n != 0))=true;rw[an];rfl)) rfl (aX (j5 rfl ∅ ∅ e rfl rfl) ∅)
 ·rw[aa1 h]at an
  refine⟨a,b,c,d,⟨ha,hb,hc,hd⟩,h,?_⟩
  exact aM ((∅).bl (c:=false) (by show(!(([a,b,c,d]:List Int).any fun n=>n != 0))=false;rw[an];rfl)) rfl ∅
theorem Yx(h0:0<=i)(h1:i<4)(a b c d:Int):∃x:Int,(x=a\/x=b\/x=c\/x=d)/\L2.atI [.int a,.int b,.int c,.int d] i=some (D.int x):=by
 have:i=0\/i=1\/i=2\/i=3:=by omega
 rcases this with rfl|rfl|rfl|rfl
 ·exact⟨a,.inl rfl,rfl⟩
 ·exact⟨b,.inr (.inl rfl),rfl⟩
 ·exact⟨c,.inr (.inr (.inl rfl)),rfl⟩
 ·exact⟨d,.inr (.inr (.inr rfl)),rfl⟩
theorem iI(h:x≠y):eqD (.int x) (.int y)=false:=by rw[di];exact aa1 h
theorem N7(hw:oG L)(ha:ci a)(hb:ci b)(hc:ci c)(hd:ci d):∃x y z w:Int,(fB x/\fB y/\fB z/\fB w) /\ ¬ (x=0/\y=0/\z=0/\w=0)/\ag (jr [.lst L,t4 a b c d]) (t4 x y z w):=by
 have hl:=hw.okL
 obtain⟨i,ei⟩:∃i,i=((d6 L 12).fdiv 6).fmod 4:=⟨_,rfl⟩
 have i0:0<=i:=by rw[ei];exact aa9 _ (by decide)
 have i1:i<4:=by rw[ei];exact ab7 _ (by decide)
 have q0:=aa9 (d6 L 12) (show(0:Int)<6 by decide)
 have q1:=ab7 (d6 L 12) (show(0:Int)<6 by decide)
 have hq:(d6 L 12).fmod 6=0\/(d6 L 12).fmod 6=1\/(d6 L 12).fmod 6=2\/(d6 L 12).fmod 6=3\/3<(d6 L 12).fmod 6:=by omega
 subst ei
 obtain⟨v,hv,hat⟩:=Yx i0 i1 a b c d
 have vb:ci v:=by rcases hv with rfl|rfl|rfl|rfl<;>assumption
 have up:∀{x:Int},ci x->fB x:=Kj
 have ng:∀{x:Int},ci x->fB (-x):=fun h=>by unfold ci at h;unfold fB;omega
 rcases hq with e|e|e|e|e
 ·have r0:=aa9 ((d6 L 12).fdiv 24) (show(0:Int)<7 by decide)
  have r1:=ab7 ((d6 L 12).fdiv 24) (show(0:Int)<7 by decide)
  have f4:(((d6 L 12).fdiv 24).fmod 7-3+bif eqD (.int (((d6 L 12).fdiv 24).fmod 7-3)) (.int 0)then 1 else 0).natAbs<=4:=by
   cases eqD (.int (((d6 L 12).fdiv 24).fmod 7-3)) (.int 0)
   ·show(_-3+0:Int).natAbs<=4;omega
   ·show(_-3+1:Int).natAbs<=4;omega
  have fm:∀x:Int,ci x->cD (((d6 L 12).fdiv 24).fmod 7-3+bif eqD (.int (((d6 L 12).fdiv 24).fmod 7-3)) (.int 0)then 1 else 0) x/\fB ((((d6 L 12).fdiv 24).fmod 7-3+bif eqD (.int (((d6 L 12).fdiv 24).fmod 7-3)) (.int 0)then 1 else 0)*x):=fun x h=>⟨cj (aQ (m:=2) f4 (by decide)) (aQ (m:=67) (ZN h (by decide)) (by decide)),by unfold fB;rw[ab9];exact ac6 f4 h⟩
  obtain⟨fa,ga⟩:=fm a ha
  obtain⟨fb,gb⟩:=fm b hb
  obtain⟨fc,gc⟩:=fm c hc
  obtain⟨fd,gd⟩:=fm d hd
  obtain⟨x',y',z',w',h1,h2,h3⟩:=zP i0 i1 ga gb gc gd
  refine⟨x',y',z',w',h1,h2,bC (dS 3 ∅ (eD ∅ (lZ e) (dS 2 ∅ (aM ∅ (iI (by omega)) (aM ∅ (iI (by omega)) (aM ∅ (iI (by omega)) (aM ∅ (aa1 (by omega)) (cy (ai rfl (ai rfl aG)) h3))))))))⟩
 ·obtain⟨x,y,z,w,es,hp,_⟩:=qo i0 i1 a b c d (-v)
  obtain⟨hx,hy,hz,hw'⟩:=hp fB (up ha) (up hb) (up hc) (up hd) (ng vb)
  obtain⟨x',y',z',w',h1,h2,h3⟩:=zP i0 i1 hx hy hz hw'
  refine⟨x',y',z',w',h1,h2,bC (dS 3 ∅ (aM ∅ (iI (by omega)) (eD ∅ (lZ e) (aX (j5 rfl (ag.bnd (fK ∅ ∅ rfl hat) cS) ∅ es rfl rfl) (aM ∅ (iI (by omega)) (aM ∅ (iI (by omega)) (aM ∅ (aa1 (by omega)) (cy (ai rfl (ai rfl aG)) h3))))))))⟩
 ·obtain⟨x',y',z',w',h1,h2,h3⟩:=zP i0 i1 (ng ha) (ng hb) (ng hc) (ng hd)
  refine⟨x',y',z',w',h1,h2,bC (dS 3 ∅ (aM ∅ (iI (by omega)) (aM ∅ (iI (by omega)) (eD ∅ (lZ e) (dS 1 ∅ (aM ∅ (iI (by omega)) (aM ∅ (aa1 (by omega)) (cy (ai rfl (ai rfl aG)) h3))))))))⟩
 ·obtain⟨x,y,z,w,es,hp,_⟩:=qo i0 i1 a b c d (v+1)
  obtain⟨hx,hy,hz,hw'⟩:=hp fB (up ha) (up hb) (up hc) (up hd) (by unfold ci at vb;unfold fB;omega)
  obtain⟨x',y',z',w',h1,h2,h3⟩:=zP i0 i1 hx hy hz hw'
  refine⟨x',y',z',w',h1,h2,bC (dS 3 ∅ (aM ∅ (iI (by omega)) (aM ∅ (iI (by omega)) (aM ∅ (iI (by omega)) (eD ∅ (lZ e) (aX (j5 rfl (gx (fK ∅ ∅ rfl hat) ∅ ∅) ∅ es rfl rfl) (aM ∅ (aa1 (by omega)) (cy (ai rfl (ai rfl aG)) h3))))))))⟩
 ·obtain⟨x,y,z,w,⟨n1,n2,n3,n4⟩,_,hN⟩:=zS hw 6
  obtain⟨x',y',z',w',h1,h2,h3⟩:=zP i0 i1 (up n1) (up n2) (up n3) (up n4)
  refine⟨x',y',z',w',h1,h2,bC (dS 3 ∅ (aM ∅ (iI (by omega)) (aM ∅ (iI (by omega)) (aM ∅ (iI (by omega)) (aM ∅ (iI (by omega)) (eD ∅ (ad2 e) (aX (bM (d:=.lst [.int x,.int y,.int z,.int w]) (vd (B:=tH) (aL (ax ∅ hN) bI) ∅)) (cy (ai rfl (ai rfl aG)) h3))))))))⟩
noncomputable def v8:Fx:=Tb [] [] BL IL ML TL aN
noncomputable def jE:List D->Rs D:=bw v8 (ae (ah 14)) ["one", "other"] (ak (ah 14))
theorem RD(a b:Nat)(ha:a<2 ^ 1000)(hb:b<2 ^ 1000):ag (jE [.int a,.int b]) (.int (Nat.gcd a b:Nat)):=by
 refine bC (zw (m:=2002) (fun m ρ => ∃(x y:Nat) (f g:Bool),sB x y m/\Nat.gcd x y=Nat.gcd a b/\Sub (bE [("one", .int x,f),("other", .int y,g)]) ρ) ⟨a,b,false,false,Lf ha hb,rfl,ai rfl (ai rfl aG)⟩ (by decide) ?_ ?_)
 ·rintro m ρ ⟨x,y,f,g,hm,hg,s⟩
  refine⟨!decide ((y:Int)=0),0,dC s (∅.bl (by show(!eqD (.int y) (.int 0))=_;rw[di])),fun ht=>?_⟩
  have h0:y≠0:=by
   intro z;subst z;exact absurd ht (by decide)
  have hn:(y:Int)≠0:=by omega
  obtain⟨m',hm',hE⟩:=qX hm h0
  have e:=uZ x y
  exact jJ hm' (bY s ∅ fun ρ' s'=>⟨y,x % y,true,true,hE,by rw[<- hg,Nat.gcd_comm x y,Nat.gcd_rec y x,Nat.gcd_comm],ai s'.get (ai (by rw[<- e];exact s'.get) aG)⟩)
 ·rintro m ρ ⟨x,y,f,g,hm,hg,s⟩ ⟨k,hk⟩
  have e:=hk.inj (dC s ∅)
  have h0:y=0:=by
   have e1:(!eqD (.int y) (.int 0))=false:=by injection e with e1 e2;injection e1 with e1;exact e1.symm
   rw[di]at e1
   have:(y:Int)=0:=by simpa using e1
   omega
  subst h0
  rw[<- hg,Nat.gcd_zero_right]
  exact cy s ∅
noncomputable def n6:Fx:=Tb [("shared_by", jE)] [] BL IL ML TL aN
noncomputable def n9:List D->Rs D:=bw n6 (ae (ah 13)) ["numbers"] (ak (ah 13))
noncomputable def df:List D->Rs D
 | [.tup l]=>.ok (.int (jB l)) [okT l]
 | _=>.st
theorem lA:∀ds r,ag (df ds) r->ag (n9 ds) r:=by
 intro ds r h
 unfold df at h
 split at h
 ·obtain⟨rfl,⟨ns,rfl,hl,hb⟩,_⟩:=dZ h
  rw[kJ]
  refine bC (dS 1 ∅ (ql (ds:=ns.map D.int) (fun rem ρ => ∃(r:List Int) (g:Nat),rem=r.map D.int/\(∀n∈r,n.natAbs<2 ^ 1000)/\bZ g r=bZ 0 ns/\g<2 ^ 1000/\Sub (bE [("reached", .int g,true)]) ρ) ∅ ⟨ns,0,rfl,hb,rfl,ak4 (by decide),ai rfl aG⟩ ?_ ?_ rfl (Af (.tup (ns.map D.int)))))
  ·rintro d l ρ ⟨r,g,hr,hb',hg,hlt,s⟩
   cases r with
   | nil=>cases hr
   | cons n r =>
    cases hr
    have hn:=hb' n ZV
    have ea:(if n<0 then -n else n)=((n.natAbs:Nat):Int):=by omega
    have k:=RD g n.natAbs hlt hn
    refine⟨_,rfl,bY (s.put _ _) (aX (bM (ax (v:=.int (Nat.gcd g n.natAbs:Nat)) (∅.eq (by rw[ea])) k)) fo) fun ρ' s'=>⟨r,Nat.gcd g n.natAbs,rfl,fun m hm=>hb' m (ZR _ hm),hg,?_,ai s'.get aG⟩⟩
    rcases ag8 g with z|z
    ·subst z;rw[Nat.gcd_zero_left];exact hn
    ·exact ac0 (Nat.le_of_dvd z (Nat.gcd_dvd_left _ _)) hlt
  ·rintro ρ ⟨r,g,hr,hb',hg,hlt,s⟩
   cases r with
   | nil =>
    rw[<- hg]
    exact cy s ∅
   | cons n r=>cases hr
 ·exact(aw h).elim
noncomputable def v7:Fx:=Tb [] [] BL IL ML TL aN
noncomputable def fZ:List D->Rs D:=bw v7 (ae (ah 15)) ["numbers", "divisor"] (ak (ah 15))
noncomputable def Bd:Fx:=Tb [("common_divisor", df),("shortened", fZ)] [] BL IL ML TL aN
noncomputable def fi:List D->Rs D:=bw Bd (ae (ah 16)) ["numbers"] (ak (ah 16))
theorem Fy(x y z w K:Int)(hK:fL K):ag (fZ [t4 x y z w,.int K]) (t4 (x.fdiv K) (y.fdiv K) (z.fdiv K) (w.fdiv K)):=cQ rfl (by walk_at "ob")
theorem xm(hk:k≠0)(p:Pm a b c d)(hT:okT (([k*a,k*b,k*c,k*d]:List Int).map D.int))(kb:k.natAbs<cH):ag (fi [t4 (k*a) (k*b) (k*c) (k*d)]) (t4 a b c d):=by
 have hn:¬ (k*a=0/\k*b=0/\k*c=0/\k*d=0):=fun z=>p.ne ⟨(ab0.mp z.1).resolve_left hk,(ab0.mp z.2.1).resolve_left hk,(ab0.mp z.2.2.1).resolve_left hk,(ab0.mp z.2.2.2).resolve_left hk⟩
 have hg:jB (([k*a,k*b,k*c,k*d]:List Int).map D.int)=k.natAbs:=by rw[jV];exact oS hk p
 have hl:=uK hn
 rw[gS _ _ _ _ hk]at hl
 have pos:=p.pos
 have fd:∀x:Int,(k*x).fdiv k=x:=fun x=>ah1 x hk
 have fin:=Fy (k*a) (k*b) (k*c) (k*d) k ⟨hk,kb⟩
 rw[fd,fd,fd,fd]at fin
 have hD:ag (df [t4 (k*a) (k*b) (k*c) (k*d)]) (.int (k.natAbs:Nat)):=⟨[okT (([k*a,k*b,k*c,k*d]:List Int).map D.int)],by rw[<- hg];rfl,hT,True.intro⟩
 have k0:¬ ((k.natAbs:Nat):Int)=0:=by omega
 refine bC (aX (bM (d:=.int (k.natAbs:Nat)) (ax ∅ hD)) (aM ∅ ((di _ _).trans (aa1 k0)) (aX (bM (d:=.int (k*cf a b c d)) (fK (k:=0) (j8 (out:=((([k*a,k*b,k*c,k*d]:List Int).filter fun t => !decide (t=0)).map D.int)) (j:=0) ∅ (ds:=([k*a,k*b,k*c,k*d]:List Int).map D.int) rfl ⟨ab2 rfl,.inl rfl⟩ (fI (g:=D.int) (f:=D.int) (c:=fun t => !decide (t=0)) (fun x _=>?_)) (ZY 1)) ∅ rfl hl)) ?_)))
 ·refine ag.bnd (a:=!decide (x=0)) (gU (b:=!decide (x=0)) (c:=!decide (x=0)) (∅.bl (by show(!eqD (.int x) (.int 0))=_;rw[di])) (fun h=>by rw[h];exact lY) id) ?_
  cases decide (x=0)
  ·exact ag.bnd ∅ cS
  ·exact cS
 ·refine bW (bP (ax (aL ∅ (aL (mT (r:=(.int k,0)) ∅ (fun ht=>?_) (fun hf=>?_)) bI)) fin))
  ·have hlt:0<k*cf a b c d:=af9 ht
   have kp:0<k:=by
    rcases af2 hk with q|q
    ·have:=ag9 q pos;omega
    ·exact q
   exact ag.eq ∅ (by rw[show((k.natAbs:Nat):Int)=k by omega];rfl)
  ·have hge:¬ 0<k*cf a b c d:=of_decide_eq_false hf
   have kp:k<0:=by
    rcases af2 hk with q|q
    ·exact q
    ·have:=ac8 q pos;omega
   exact ag.eq ∅ (by show(D.int (-((k.natAbs:Nat):Int)),0)=_;rw[show -((k.natAbs:Nat):Int)=k by omega])
noncomputable def vE:Fx:=Tb [("common_divisor", df),("shortened", fZ)] [] BL IL ML TL aN
noncomputable def kZ:List D->Rs D:=bw vE (ae (ah 20)) ["table"] (ak (ah 20))
theorem Cg(n a b c d e f g h i G:Int)(hG:fL G):ag (aH vE ((ak (ah 20)).drop 2) (ae (ah 20)) (bE [("n", .int n,false),("rows", .tup [d3 a b c,d3 d e f,d3 g h i],false),("common", .int G,true)])) (.rt (.tup [.int (n.fdiv G),.tup [d3 (a.fdiv G) (b.fdiv G) (c.fdiv G),d3 (d.fdiv G) (e.fdiv G) (f.fdiv G),d3 (g.fdiv G) (h.fdiv G) (i.fdiv G)]])):=cQ rfl (by walk_at "ob")
theorem DP(hn:0<n)(nb:n.natAbs<cH)(hT:okT ([n,a,b,c,d,e,f,g,h,i].map D.int)):ag (kZ [.tup [.int n,.tup [d3 a b c,d3 d e f,d3 g h i]]]) (.tup [.int (n.fdiv (gI [n,a,b,c,d,e,f,g,h,i])),.tup [d3 (a.fdiv (gI [n,a,b,c,d,e,f,g,h,i])) (b.fdiv (gI [n,a,b,c,d,e,f,g,h,i])) (c.fdiv (gI [n,a,b,c,d,e,f,g,h,i])),d3 (d.fdiv (gI [n,a,b,c,d,e,f,g,h,i])) (e.fdiv (gI [n,a,b,c,d,e,f,g,h,i])) (f.fdiv (gI [n,a,b,c,d,e,f,g,h,i])),d3 (g.fdiv (gI [n,a,b,c,d,e,f,g,h,i])) (h.fdiv (gI [n,a,b,c,d,e,f,g,h,i])) (i.fdiv (gI [n,a,b,c,d,e,f,g,h,i]))]]):=by
 have h0:0<gI [n,a,b,c,d,e,f,g,h,i]:=oZ (n:=n) (by simp) (by omega)
 have hd:fL (gI [n,a,b,c,d,e,f,g,h,i]):=⟨by omega,ac0 (O1 (n:=n) (by simp) (by omega)) nb⟩
 rw[<- jV]at hd⊢
 exact bC (dS 2 ∅ (cy (ai rfl (ai rfl (ai rfl aG))) (Cg n _ _ _ _ _ _ _ _ _ _ hd)))
noncomputable def yQ:Fx:=Tb [("upright", fi),("lowest", kZ)] [] BL IL ML TL aN
noncomputable def fQ:List D->Rs D:=bw yQ (ae (ah 22)) ["numbers"] (ak (ah 22))
theorem xt(hk:k≠0)(p:Pm a b c d)(hT:okT (([k*a,k*b,k*c,k*d]:List Int).map D.int))(kb:k.natAbs<cH)(ha:a.natAbs<=2 ^ 140)(hb:b.natAbs<=2 ^ 140)(hc:c.natAbs<=2 ^ 140)(hd:d.natAbs<=2 ^ 140):ag (fQ [t4 (k*a) (k*b) (k*c) (k*d)]) (xw a b c d):=by
 have aB:=aQ ha (by decide)
 have bB:=aQ hb (by decide)
 have cB:=aQ hc (by decide)
 have dB:=aQ hd (by decide)
 have dbl:∀{x:Int},x.natAbs<=2 ^ 140->(2*x).natAbs<cH:=fun {x} hx=>aQ (m:=141) (by rw[ab9,af5,aj7];exact Nat.mul_le_mul_right _ hx) (by decide)
 have a2:=dbl ha
 have b2:=dbl hb
 have c2:=dbl hc
 have hL:=DP (a:=dg a b c d) (b:=c9 a b c d) (c:=cZ a b c d) (d:=cP a b c d) (e:=cY a b c d) (f:=cK a b c d) (g:=cJ a b c d) (h:=cI a b c d) (i:=cX a b c d) (uw p.ne) (aQ (BA ha hb hc hd _ (by simp[cC])) (by decide)) (HF ha hb hc hd)
 exact bC (aX (o8 (ax ∅ (xm hk p hT kb)) rfl (.inl rfl) rfl) (aX (bM (d:=.tup [d3 (dg a b c d) (c9 a b c d) (cZ a b c d),d3 (cP a b c d) (cY a b c d) (cK a b c d),d3 (cJ a b c d) (cI a b c d) (cX a b c d)]) ∅) (bW (bP (ax ∅ hL)))))
noncomputable def mq:Fx:=Tb [] [] BL IL ML TL aN
noncomputable def vK:List D->Rs D:=bw mq (ae (ah 73)) ["_law_one", "_law_other_here"] (ak (ah 73))
noncomputable def gC:List D->Rs D:=t7 dQ dQ fun p q=>.ok (.bl (xQ p q)) [gn p,gn q]
theorem sT(p:Qd){i:Nat}(h:i<4):L2.atI [.int p.1,.int p.2.1,.int p.2.2.1,.int p.2.2.2] (i:Int)=some (D.int (qa p i)):=by
 have:i=0\/i=1\/i=2\/i=3:=by omega
 rcases this with rfl|rfl|rfl|rfl<;>rfl
theorem xJ(h:gn p)(i:Nat):(qa p i).natAbs<cH:=by
 unfold qa
 split
 ·exact h.1
 ·exact h.2.1
 ·exact h.2.2.1
 ·exact h.2.2.2
theorem pT:∀ds r,ag (gC ds) r->ag (vK ds) r:=by
 intro ds r h
 obtain⟨p,q,rfl,h'⟩:=jL h
 obtain⟨rfl,hp,hq,_⟩:=dZ h'
 refine bC (HY (Inv:=fun ρ=>Sub (bE [("_law_one", dq p,false),("_law_other_here", dq q,false)]) ρ) (Az (h:=fun i:Nat=>D.int (i:Nat)) (fun i=>(List.range i).all fun j=>decide (qa p i*qa q j=qa p j*qa q i)) _ (List.range 4) ∅ rfl (ai rfl (ai rfl aG)) fun i hi ρ s=>⟨_,rfl,?_⟩) fun ρ s=>cy s ∅)
 have hi:i<4:=af6.mp hi
 have s1:=s.put (Str.ofString "_law_k") (.int (i:Nat),false)
 have hrg:ag (aE mq (Ea ((mR ((ak (ah 73)).getD 0 (.Pass ⟨0,0,0,0⟩))).getD 0 (.Pass ⟨0,0,0,0⟩))) true (ae (ah 73)) (demote (Ea ((mR ((ak (ah 73)).getD 0 (.Pass ⟨0,0,0,0⟩))).getD 0 (.Pass ⟨0,0,0,0⟩))) (bT ρ (Str.ofString "_law_k") (.int (i:Nat),false)))) (.lst ((List.range i).map fun j:Nat=>D.int (j:Nat)),0):=by
  refine dC (s1.demote _) ?_
  have:i=0\/i=1\/i=2\/i=3:=by omega
  rcases this with rfl|rfl|rfl|rfl<;>exact ∅
 refine KS (Inv:=fun ρ=>Sub (bE [("_law_one", dq p,false),("_law_other_here", dq q,false),("_law_k", .int (i:Nat),false)]) ρ) (Az (h:=fun i:Nat=>D.int (i:Nat)) (fun j=>decide (qa p i*qa q j=qa p j*qa q i)) _ (List.range i) hrg rfl (ai (s1.demote _).get (ai (s1.demote _).get (ai (s1.demote _).get aG))) fun j hj ρ s=>⟨_,rfl,?_⟩) fun ρ s=>ai s.get (ai s.get aG)
 have hj:j<4:=al7 (af6.mp hj) hi
 have s2:=s.put (Str.ofString "_law_j") (.int (j:Nat),false)
 refine KT (cU (gx (fK (dC s2 ∅) (dC s2 ∅) rfl (sT p hi)) (fK (dC s2 ∅) (dC s2 ∅) rfl (sT q hj)) ⟨_,rfl,cj (xJ hp i) (xJ hq j),True.intro⟩) (gx (fK (dC s2 ∅) (dC s2 ∅) rfl (sT p hj)) (fK (dC s2 ∅) (dC s2 ∅) rfl (sT q hi)) ⟨_,rfl,cj (xJ hp j) (xJ hq i),True.intro⟩) ∅) (cy s2 ∅) rfl (ai s2.get (ai s2.get (ai s2.get aG)))
noncomputable def vJ:Fx:=jb [] [] BL IL ML TL aN [("Turn", ["fractions"]),("HalfTurn", ["fractions"]),("Mirror", ["fractions"])] []
noncomputable def aZ:List D->Rs D:=bw vJ (ae (aD (ah 37) 1)) ["self"] (ak (aD (ah 37) 1))
noncomputable def pL:Fx:=jb [] [] BL IL ML TL aN [] [("Turn", [("table", aZ)]),("HalfTurn", [("table", aZ)]),("Mirror", [("table", aZ)])]
noncomputable def eM:List D->Rs D:=bw pL (ae (ah 53)) ["turn"] (ak (ah 53))
theorem vi(a b c d:Int):ag (eM [kz a b c d]) (.int ((n4 a b c d).fdiv (gI (cC a b c d)))):=cQ rfl (by walk_at "ob")
noncomputable def rn:Fx:=Tb [] [] BL IL ML TL aN
noncomputable def rD:List D->Rs D:=bw rn (ae (ah 11)) ["four"] (ak (ah 11))
noncomputable def fO:List D->Rs D:=DA dQ fun p=>.ok (dq (Yw p)) []
theorem nq:∀ds r,ag (fO ds) r->ag (rD ds) r:=by
 intro ds r h
 obtain⟨p,rfl,h'⟩:=wD h
 obtain⟨rfl,_⟩:=dZ h'
 exact cQ rfl (by walk_at "ob")
noncomputable def n8:Fx:=Tb [] [] BL IL ML TL aN
noncomputable def fk:List D->Rs D:=bw n8 (ae (ah 17)) ["one", "other"] (ak (ah 17))
noncomputable def sG:Fx:=Tb [("added_products", fk)] [] BL IL ML TL aN
noncomputable def iD:List D->Rs D:=bw sG (ae (ah 24)) ["rows"] (ak (ah 24))
noncomputable def sF:Fx:=Tb [("added_products", fk),("determinant", iD)] [("PAIRS", .tup [.tup [.int 0,.int 0],.tup [.int 0,.int 1],.tup [.int 0,.int 2],.tup [.int 1,.int 1],.tup [.int 1,.int 2],.tup [.int 2,.int 2]])] BL IL ML TL aN
noncomputable def gi:List D->Rs D:=bw sF (ae (ah 23)) ["table"] (ak (ah 23))
theorem yq{p q r s:Int}(hp:p.natAbs<=2 ^ 294)(hq:q.natAbs<=2 ^ 294)(hr:r.natAbs<=2 ^ 294)(hs:s.natAbs<=2 ^ 294):(p*q-r*s).natAbs<cH:=by
 have h1:(p*q).natAbs<=2 ^ 588:=by rw[ab9];exact ZN (ac6 hp hq) (by rw[<- ae8];exact ZP _)
 have h2:(r*s).natAbs<=2 ^ 588:=by rw[ab9];exact ZN (ac6 hr hs) (by rw[<- ae8];exact ZP _)
 have h3:(p*q-r*s).natAbs<=2 ^ 588+2 ^ 588:=ZN (ad7 _ _) (Nat.add_le_add h1 h2)
 exact aQ (m:=589) (ZN h3 (by rw[af5];omega)) (by decide)
theorem GJ(nB:n.natAbs<cH)
  (b0:r0.natAbs<=2 ^ 294)
  (b1:r1.natAbs<=2 ^ 294)
  (b2:r2.natAbs<=2 ^ 294)
  (b3:r3.natAbs<=2 ^ 294)
  (b4:r4.natAbs<=2 ^ 294)
  (b5:r5.natAbs<=2 ^ 294)
  (b6:r6.natAbs<=2 ^ 294)
  (b7:r7.natAbs<=2 ^ 294)
  (b8:r8.natAbs<=2 ^ 294)
  (o00:bD r0 r1 r2 r0 r1 r2=n*n)
  (o01:bD r0 r1 r2 r3 r4 r5=0)
  (o02:bD r0 r1 r2 r6 r7 r8=0)
  (o11:bD r3 r4 r5 r3 r4 r5=n*n)
  (o12:bD r3 r4 r5 r6 r7 r8=0)
  (o22:bD r6 r7 r8 r6 r7 r8=n*n)
  (hd:¬ bD r0 r1 r2 (r4*r8-r5*r7) (r5*r6-r3*r8) (r3*r7-r4*r6)<0):ag (gi [.tup [.int n,.tup [d3 r0 r1 r2,d3 r3 r4 r5,d3 r6 r7 r8]]]) .non:=by
 have B0:=aQ b0 (by decide)
 have B1:=aQ b1 (by decide)
 have B2:=aQ b2 (by decide)
 have B3:=aQ b3 (by decide)
 have B4:=aQ b4 (by decide)
 have B5:=aQ b5 (by decide)
 have B6:=aQ b6 (by decide)
 have B7:=aQ b7 (by decide)
 have B8:=aQ b8 (by decide)
 have x0:=yq b4 b8 b5 b7
 have x1:=yq b5 b6 b3 b8
 have x2:=yq b3 b7 b4 b6
 refine bC (dS 1 ∅ (mI [.tup [.int 0,.int 0],.tup [.int 0,.int 1],.tup [.int 0,.int 2],.tup [.int 1,.int 1],.tup [.int 1,.int 2],.tup [.int 2,.int 2]] ∅ ?_))
 refine gT (C:=bE [("n", .int n,false),("rows", .tup [d3 r0 r1 r2,d3 r3 r4 r5,d3 r6 r7 r8],false)]) (P:=fun ρ=>vP _ _ _ _ _ _ _ ρ) (ai rfl (ai rfl aG)) fun ρ s=>?_
 refine⟨_,rfl,.inl (bY ((s.put _ _).put _ _) (aM ∅ (gj o00) ∅) fun ρ s'=>?_)⟩
 replace s:=(show Sub (bE [("n", .int n,false),("rows", .tup [d3 r0 r1 r2,d3 r3 r4 r5,d3 r6 r7 r8],false)]) ρ from ai s'.get (ai s'.get aG))
 clear s'
 refine⟨_,rfl,.inl (bY ((s.put _ _).put _ _) (aM ∅ (gj o01) ∅) fun ρ s'=>?_)⟩
 replace s:=(show Sub (bE [("n", .int n,false),("rows", .tup [d3 r0 r1 r2,d3 r3 r4 r5,d3 r6 r7 r8],false)]) ρ from ai s'.get (ai s'.get aG))
 clear s'
 refine⟨_,rfl,.inl (bY ((s.put _ _).put _ _) (aM ∅ (gj o02) ∅) fun ρ s'=>?_)⟩
 replace s:=(show Sub (bE [("n", .int n,false),("rows", .tup [d3 r0 r1 r2,d3 r3 r4 r5,d3 r6 r7 r8],false)]) ρ from ai s'.get (ai s'.get aG))
 clear s'
 refine⟨_,rfl,.inl (bY ((s.put _ _).put _ _) (aM ∅ (gj o11) ∅) fun ρ s'=>?_)⟩
 replace s:=(show Sub (bE [("n", .int n,false),("rows", .tup [d3 r0 r1 r2,d3 r3 r4 r5,d3 r6 r7 r8],false)]) ρ from ai s'.get (ai s'.get aG))
 clear s'
 refine⟨_,rfl,.inl (bY ((s.put _ _).put _ _) (aM ∅ (gj o12) ∅) fun ρ s'=>?_)⟩
 replace s:=(show Sub (bE [("n", .int n,false),("rows", .tup [d3 r0 r1 r2,d3 r3 r4 r5,d3 r6 r7 r8],false)]) ρ from ai s'.get (ai s'.get aG))
 clear s'
 refine⟨_,rfl,.inl (bY ((s.put _ _).put _ _) (aM ∅ (gj o22) ∅) fun ρ s'=>?_)⟩
 replace s:=(show Sub (bE [("n", .int n,false),("rows", .tup [d3 r0 r1 r2,d3 r3 r4 r5,d3 r6 r7 r8],false)]) ρ from ai s'.get (ai s'.get aG))
 clear s'
 have hA:ag (iD [.tup [d3 r0 r1 r2,d3 r3 r4 r5,d3 r6 r7 r8]]) (.int (bD r0 r1 r2 (r4*r8-r5*r7) (r5*r6-r3*r8) (r3*r7-r4*r6))):=cQ rfl (by walk_at "ob")
 refine cy s (bW (bP (mT (r:=(.non,0)) (cU (ax ∅ hA) ∅ ∅) (fun ht=>absurd (af9 ht) hd) (fun _=>∅))))
noncomputable def wa:Fx:=Tb [] [] BL IL ML TL aN
noncomputable def jF:List D->Rs D:=bw wa (ae (ah 26)) ["table"] (ak (ah 26))
theorem Kb{K:Int}(e00:n+r0+r4+r8=K*(a*a))(e01:r7-r5=K*(a*b))(e02:r2-r6=K*(a*c))(e03:r3-r1=K*(a*d))(e11:n+r0-r4-r8=K*(b*b))(e12:r1+r3=K*(b*c))(e13:r2+r6=K*(b*d))(e22:n-r0+r4-r8=K*(c*c))(e23:r5+r7=K*(c*d))(e33:n-r0-r4+r8=K*(d*d)):ag (jF [.tup [.int n,.tup [d3 r0 r1 r2,d3 r3 r4 r5,d3 r6 r7 r8]]]) (.lst (([a,b,c,d]:List Int).map fun x=>t4 (K*x*a) (K*x*b) (K*x*c) (K*x*d))):=by
 refine ag.eq ∅ ?_
 show D.lst [t4 (n+r0+r4+r8) (r7-r5) (r2-r6) (r3-r1),t4 (r7-r5) (n+r0-r4-r8) (r1+r3) (r2+r6),t4 (r2-r6) (r1+r3) (n-r0+r4-r8) (r5+r7),t4 (r3-r1) (r2+r6) (r5+r7) (n-r0-r4+r8)]=D.lst [t4 (K*a*a) (K*a*b) (K*a*c) (K*a*d),t4 (K*b*a) (K*b*b) (K*b*c) (K*b*d),t4 (K*c*a) (K*c*b) (K*c*c) (K*c*d),t4 (K*d*a) (K*d*b) (K*d*c) (K*d*d)]
 rw[e00,e01,e02,e03,e11,e12,e13,e22,e23,e33]
 have c00:K*a*a=K*(a*a):=by grind
 have c01:K*a*b=K*(a*b):=by grind
 have c02:K*a*c=K*(a*c):=by grind
 have c03:K*a*d=K*(a*d):=by grind
 have c10:K*b*a=K*(a*b):=by grind
 have c11:K*b*b=K*(b*b):=by grind
 have c12:K*b*c=K*(b*c):=by grind
 have c13:K*b*d=K*(b*d):=by grind
 have c20:K*c*a=K*(a*c):=by grind
 have c21:K*c*b=K*(b*c):=by grind
 have c22:K*c*c=K*(c*c):=by grind
 have c23:K*c*d=K*(c*d):=by grind
 have c30:K*d*a=K*(a*d):=by grind
 have c31:K*d*b=K*(b*d):=by grind
 have c32:K*d*c=K*(c*d):=by grind
 have c33:K*d*d=K*(d*d):=by grind
 rw[c00,c01,c02,c03,c10,c11,c12,c13,c20,c21,c22,c23,c30,c31,c32,c33]
noncomputable def v9:Fx:=Tb [("table_fault", gi),("upright", fi),("multiples", jF)] [] BL IL ML TL aN
noncomputable def dn:List D->Rs D:=bw v9 (ae (ah 25)) ["table"] (ak (ah 25))
theorem Ge{K:Int}(p:Pm a b c d)(hK:0<K)(e00:n+r0+r4+r8=K*(a*a))(e01:r7-r5=K*(a*b))(e02:r2-r6=K*(a*c))(e03:r3-r1=K*(a*d))(e11:n+r0-r4-r8=K*(b*b))(e12:r1+r3=K*(b*c))(e13:r2+r6=K*(b*d))(e22:n-r0+r4-r8=K*(c*c))(e23:r5+r7=K*(c*d))(e33:n-r0-r4+r8=K*(d*d))(hF:ag (gi [.tup [.int n,.tup [d3 r0 r1 r2,d3 r3 r4 r5,d3 r6 r7 r8]]]) .non)(hT:okT (([K*cf a b c d*a,K*cf a b c d*b,K*cf a b c d*c,K*cf a b c d*d]:List Int).map D.int))(kb:(K*cf a b c d).natAbs<cH):ag (dn [.tup [.int n,.tup [d3 r0 r1 r2,d3 r3 r4 r5,d3 r6 r7 r8]]]) (t4 a b c d):=by
 have pos:=p.pos
 have kp:0<K*cf a b c d:=ac8 (by omega) pos
 have hU:=xm (k:=K*cf a b c d) (by omega) p hT kb
 refine bC (aX (bM (ax ∅ hF)) (aM ∅ rfl ?_))
 refine bW (bP (ax (aL (fK (j8 (out:=(([a,b,c,d]:List Int).filter fun x => !decide (x=0)).map fun x=>t4 (K*x*a) (K*x*b) (K*x*c) (K*x*d)) (j:=0) (ax ∅ (Kb e00 e01 e02 e03 e11 e12 e13 e22 e23 e33)) (ds:=([a,b,c,d]:List Int).map fun x=>t4 (K*x*a) (K*x*b) (K*x*c) (K*x*d)) rfl ⟨ab2 rfl,.inl rfl⟩ (fI (g:=fun x=>t4 (K*x*a) (K*x*b) (K*x*c) (K*x*d)) (f:=fun x=>t4 (K*x*a) (K*x*b) (K*x*c) (K*x*d)) (c:=fun x => !decide (x=0)) (fun x _=>?_)) (ZY 1)) ∅ rfl (Go p.ne)) bI) hU))
 have ea:(([K*x*a,K*x*b,K*x*c,K*x*d]:List Int).any fun n=>n != 0) = !decide (x=0):=by
  rw[C5]
  congr 1
  apply decide_eq_decide.mpr
  constructor
  ·rintro⟨h1,h2,h3,h4⟩
   have q:∀y:Int,K*x*y=0->x=0\/y=0:=fun y h=>by
    rcases ab0.mp h with z|z
    ·rcases ab0.mp z with z|z
     ·omega
     ·exact .inl z
    ·exact .inr z
   rcases q _ h1 with z|z1
   ·exact z
   rcases q _ h2 with z|z2
   ·exact z
   rcases q _ h3 with z|z3
   ·exact z
   rcases q _ h4 with z|z4
   ·exact z
   exact absurd ⟨z1,z2,z3,z4⟩ p.ne
  ·intro h;subst h;simp
 refine ag.bnd (a:=!decide (x=0)) (gU (b:=!decide (x=0)) (c:=!decide (x=0)) (∅.bl (by exact ea)) (fun h=>by rw[h];exact lY) id) ?_
 cases decide (x=0)
 ·exact ag.bnd ∅ cS
 ·exact cS
theorem oI(p:Pm q.1 q.2.1 q.2.2.1 q.2.2.2)(hq:dG (2 ^ 70) q):ag (dn [(tq q).low.D]) (dq q):=by
 obtain⟨a,b,c,d⟩:=q
 obtain⟨h1,h2,h3,h4⟩:=hq
 have nB:=fV (q:=(a,b,c,d)) p.ne
 have up:∀{x:Int},x.natAbs<=2 ^ 70->x.natAbs<=2 ^ 140:=fun h=>ZN h (aa6 (by decide) (by decide))
 have tb:(tq (a,b,c,d)).bd 290:=BA (up h1) (up h2) (up h3) (up h4)
 have lb:=T9.bd_low nB tb
 have l9:∀x∈(tq (a,b,c,d)).low.l,x.natAbs<=2 ^ 294:=fun x hx=>ZN (lb x hx) (aa6 (by decide) (by decide))
 obtain⟨o00,o01,o02,o11,o12,o22,od⟩:=zZ (q:=(a,b,c,d)) p
 obtain⟨K,hK,e00,e01,e02,e03,e11,e12,e13,e22,e23,e33⟩:=nV (q:=(a,b,c,d)) p
 have hF:=GJ (aQ (lb _ (T9.mem_n _)) (by decide)) (l9 _ (by simp[T9.l])) (l9 _ (by simp[T9.l])) (l9 _ (by simp[T9.l])) (l9 _ (by simp[T9.l])) (l9 _ (by simp[T9.l])) (l9 _ (by simp[T9.l])) (l9 _ (by simp[T9.l])) (l9 _ (by simp[T9.l])) (l9 _ (by simp[T9.l])) o00 o01 o02 o11 o12 o22 od
 have ll:(cf a b c d).natAbs<=2 ^ 70:=by unfold cf;split;exact h1;split;exact h2;split;exact h3;exact h4
 have kl:(K*cf a b c d).natAbs<=2 ^ 72:=by
  rw[ab9,show(2:Nat) ^ 72=4*2 ^ 70 from rfl]
  exact ac6 (by omega) ll
 have kk:∀{x:Int},x.natAbs<=2 ^ 70->(K*cf a b c d*x).natAbs<=2 ^ 142:=fun h=>by
  rw[ab9,show(2:Nat) ^ 142=2 ^ 72*2 ^ 70 from rfl]
  exact ac6 kl h
 have hT:okT (([K*cf a b c d*a,K*cf a b c d*b,K*cf a b c d*c,K*cf a b c d*d]:List Int).map D.int):=DC (m:=142) (by decide) (by
  intro t ht
  simp only[ZT,ab3,ae5]at ht
  rcases ht with rfl|rfl|rfl|rfl
  ·exact kk h1
  ·exact kk h2
  ·exact kk h3
  ·exact kk h4)
 exact Ge (a:=a) (b:=b) (c:=c) (d:=d) p (by omega) e00 e01 e02 e03 e11 e12 e13 e22 e23 e33 hF hT (aQ kl (by decide))
noncomputable def pK:Fx:=Tb [] [] BL IL ML TL aN
noncomputable def pU:List D->Rs D:=bw pK (ae (ah 10)) ["one", "other"] (ak (ah 10))
noncomputable def dP:List D->Rs D:=t7 dQ dQ fun p q=>.ok (dq (aI p q)) [gn p,gn q]
theorem mv:∀ds r,ag (dP ds) r->ag (pU ds) r:=by
 intro ds r h
 obtain⟨p,q,rfl,h⟩:=jL h
 obtain⟨rfl,hp,hq,_⟩:=dZ h
 obtain⟨⟨a1,a2,a3,a4⟩,⟨b1,b2,b3,b4⟩,⟨c1,c2,c3,c4⟩,d1,d2,d3,d4⟩:=Ba hp hq
 exact cQ rfl (by walk_at "ob")
noncomputable def pJ:Fx:=jb [("corner_number", eM),("other_signed", fO),("number_of", dn),("plain_product", dP)] [("UNITS", .tup [.tup [.int 1,.int 0,.int 0,.int 0],.tup [.int 0,.int 1,.int 0,.int 0],.tup [.int 0,.int 0,.int 1,.int 0],.tup [.int 0,.int 0,.int 0,.int 1]])] BL IL ML TL aN [] [("Turn", [("table", aZ)]),("HalfTurn", [("table", aZ)]),("Mirror", [("table", aZ)])]
noncomputable def gD:List D->Rs D:=bw pJ (ae (ah 55)) ["turn"] (ak (ah 55))
theorem HS(p:Pm q.1 q.2.1 q.2.2.1 q.2.2.2)(hq:dG (2 ^ 70) q):ag (gD [kz q.1 q.2.1 q.2.2.1 q.2.2.2]) (.lst ((i5 q (tq q).low.n).map dv)):=by
 have hN:=oI p hq
 obtain⟨a,b,c,d⟩:=q
 obtain⟨h1,h2,h3,h4⟩:=hq
 have hC:=vi a b c d
 have aB:=aQ h1 (by decide)
 have bB:=aQ h2 (by decide)
 have cB:=aQ h3 (by decide)
 have dB:=aQ h4 (by decide)
 refine bC (aX (bM (ax ∅ hC)) (aX (bM (d:=t4 a (-b) (-c) (-d)) (ax (aL (ax (aL (cE ∅ ∅ rfl (d:=(tq (a,b,c,d)).low.D) ∅) bI) hN) bI) ∅)) ?_))
 have hbq:gn (a,-b,-c,-d):=⟨aB,by show(-b).natAbs<_;rw[ad6];exact bB,by show(-c).natAbs<_;rw[ad6];exact cB,by show(-d).natAbs<_;rw[ad6];exact dB⟩
 have e0:aI (a,-b,-c,-d) (1,0,0,0)=(a,-b,-c,-d):=(FT _).1
 have e1:aI (a,-b,-c,-d) (0,1,0,0)=(b,a,-d,c):=by simp[aI]
 have e2:aI (a,-b,-c,-d) (0,0,1,0)=(c,d,a,-b):=by simp[aI]
 have e3:aI (a,-b,-c,-d) (0,0,0,1)=(d,-c,b,a):=by simp[aI]
 refine bW (bP (k:=0) (ag.eq ∅ ?_))
 show(D.lst [dv (aI (a,-b,-c,-d) (1,0,0,0)).2,dv (aI (a,-b,-c,-d) (0,1,0,0)).2,dv (aI (a,-b,-c,-d) (0,0,1,0)).2,dv (aI (a,-b,-c,-d) (0,0,0,1)).2,d3 ((n4 a b c d).fdiv (gI (cC a b c d))) 0 0,d3 0 ((n4 a b c d).fdiv (gI (cC a b c d))) 0,d3 0 0 ((n4 a b c d).fdiv (gI (cC a b c d)))],0)=_
 rw[e0,e1,e2,e3]
 rfl
noncomputable def Nj:Fx:=Tb [] [] BL IL ML TL aN
noncomputable def Bo:List D->Rs D:=bw Nj (ae (ah 6)) ["one", "other"] (ak (ah 6))
noncomputable def vD:Fx:=Tb [] [] BL IL ML TL aN
noncomputable def mx:List D->Rs D:=bw vD (ae (ah 8)) ["one", "number"] (ak (ah 8))
noncomputable def pM:Fx:=Tb [("less", Bo),("many_times", mx)] [] BL IL ML TL aN
noncomputable def fC:List D->Rs D:=bw pM (ae (ah 57)) ["spot", "other", "place"] (ak (ah 57))
theorem vx{p:Nat}(hp:p<3)(h0:pr p v≠0)(hv:eh 8990 v)(hu:eh 8990 u):ag (fC [dv u,dv v,.int p]) (dv (sb u v ((pr p u).fdiv (pr p v)))):=by
 obtain⟨v1,v2,v3⟩:=hv.all
 have v1:=aQ v1 (by decide)
 have v2:=aQ v2 (by decide)
 have v3:=aQ v3 (by decide)
 have hd:fL (pr p v):=⟨h0,aQ (hv p) (by decide)⟩
 have hq:((pr p u).fdiv (pr p v)).natAbs<cH:=by
  have h1:=wY (pr p u) (pr p v) h0
  have h2:=hu p
  have h3:((pr p u).fdiv (pr p v)).natAbs<=(pr p u).natAbs+1:=by
   rcases Nat.lt_or_ge (pr p u).natAbs ((pr p u).fdiv (pr p v)).natAbs with q|q
   ·have h4:=ai6 (((pr p u).fdiv (pr p v)).natAbs-1) (show 1<=(pr p v).natAbs by omega)
    have h5:(((pr p u).fdiv (pr p v)).natAbs-1)*(pr p v).natAbs=((pr p u).fdiv (pr p v)).natAbs*(pr p v).natAbs-(pr p v).natAbs:=by rw[Nat.sub_mul,Nat.one_mul]
    omega
   ·omega
  refine aQ (m:=8991) (ZN h3 ?_) (by decide)
  rw[af5]
  have h6:1<=2 ^ 8990:=Nat.one_le_two_pow
  generalize 2 ^ 8990=M at *
  omega
 match p,hp with
 | 0,_ =>
  have hd:fL v.1:=hd
  have hq:(u.1.fdiv v.1).natAbs<cH:=hq
  exact cQ rfl (by walk_at "ob")
 | 1,_ =>
  have hd:fL v.2.1:=hd
  have hq:(u.2.1.fdiv v.2.1).natAbs<cH:=hq
  exact cQ rfl (by walk_at "ob")
 | 2,_ =>
  have hd:fL v.2.2:=hd
  have hq:(u.2.2.fdiv v.2.2).natAbs<cH:=hq
  exact cQ rfl (by walk_at "ob")
noncomputable def Bf:Fx:=Tb [("brought_below", fC)] [] BL IL ML TL aN
noncomputable def jp:List D->Rs D:=bw Bf (ae (ah 58)) ["base"] (ak (ah 58))
theorem NX{w:V3}(h1:pr 2 w≠0)(h2:pr 1 (sb v w ((pr 2 v).fdiv (pr 2 w)))≠0)(hu:eh 8990 u)(hv:eh 8990 v)(hw:eh 8990 w)(hs:eh 8990 (sb v w ((pr 2 v).fdiv (pr 2 w))))(ht:eh 8990 (sb u (sb v w ((pr 2 v).fdiv (pr 2 w))) ((pr 1 u).fdiv (pr 1 (sb v w ((pr 2 v).fdiv (pr 2 w))))))):ag (jp [.lst [dv u,dv v,dv w]]) (.tup [dv (sb (sb u (sb v w ((pr 2 v).fdiv (pr 2 w))) ((pr 1 u).fdiv (pr 1 (sb v w ((pr 2 v).fdiv (pr 2 w)))))) w ((pr 2 (sb u (sb v w ((pr 2 v).fdiv (pr 2 w))) ((pr 1 u).fdiv (pr 1 (sb v w ((pr 2 v).fdiv (pr 2 w))))))).fdiv (pr 2 w))),dv (sb v w ((pr 2 v).fdiv (pr 2 w))),dv w]):=by
 have k1:=vx (p:=2) (by decide) h1 hw hv
 have k2:=vx (p:=1) (by decide) h2 hs hu
 have k3:=vx (p:=2) (by decide) h1 hw ht
 generalize sb v w ((pr 2 v).fdiv (pr 2 w))=s at *
 generalize sb u s ((pr 1 u).fdiv (pr 1 s))=t at *
 generalize sb t w ((pr 2 t).fdiv (pr 2 w))=z at *
 exact bC (aX (o8 ∅ rfl (.inr (ZP 1)) rfl) (aX (bM (ax ∅ k1)) (aX (bM (ax (aL (ax ∅ k2) ∅) k3)) ∅)))
noncomputable def Hq:Fx:=Tb [("brought_below", fC)] [] BL IL ML TL aN
noncomputable def rC:List D->Rs D:=bw Hq (ae (ah 56)) ["spots", "place"] (ak (ah 56))
theorem qh{p:Nat}(hp:p<3){l:List V3}{bs:List Nat}(hbd:Ei bs l)(hok:Ca 0 bs)(hl:l.length<=100):∃r,ag (rC [.lst (l.map dv),.int p]) r/\∃L' os,iJ p 0 bs (0,0,0) l L' os/\r=.tup [dv L',.lst (os.map dv)]:=by
 refine NV (Py 2 ∅ (wC (ds:=l.map dv) (fun rem ρ => ∃(r os:List V3) (L:V3) (B:Nat) (bs':List Nat),rem=r.map dv/\eh B L/\Ei bs' r/\Ca B bs'/\os.length+r.length<=100/\(∀L' os',iJ p B bs' L r L' os'->iJ p 0 bs (0,0,0) l L' (os++os'))/\Sub (bE [("place", .int p,false),("others", .lst (os.map dv),true),("lead", dv L,true)]) ρ) _ ∅ ⟨l,[],(0,0,0),0,bs,rfl,eJ ⟨by decide,by decide,by decide⟩,hbd,hok,by simpa using hl,fun L' os' h=>h,ai rfl (ai rfl (ai rfl aG))⟩ ?_ ?_ rfl (Af (.lst (l.map dv)))))
 ·rintro d rem ρ ⟨r,os,L,B,bs',hr,hL,hbs,hk,hn,hch,s⟩
  cases r with
  | nil=>cases hr
  | cons S r =>
   cases hr
   cases bs' with
   | nil=>exact hbs.elim
   | cons b bs' =>
   obtain⟨hS,hbs⟩:=hbs
   obtain⟨hb,hB,hk⟩:=hk
   have up:nb B b<=8990:=hB
   have uB:B<=8990:=by unfold nb at hB;omega
   have ub:b<=8990:=by omega
   have hol:(os.map dv).length<dw:=by rw[ab6];unfold dw;simp only[ab1]at hn;omega
   refine⟨_,rfl,.inl (Oe (bM (d:=dv S) (dC (s.put _ _) ∅)) (J9 (P:=fun ρ => ∃L' R,Nm p B b L S L' R/\Sub (bE [("place", .int p,false),("others", .lst (os.map dv),true),("lead", dv L',true),("rest", dv R,true)]) ρ) (Nt (m:=3990) (fun m ρ => ∃lv rv:V3,Sub (bE [("place", .int p,false),("others", .lst (os.map dv),true),("lead", dv lv,true),("rest", dv rv,true)]) ρ/\(∀P,Sg P->((P L/\P S)↔(P lv/\P rv)))/\((m=3990/\lv=L/\rv=S)\/(mr p lv rv (2 ^ nb B b)/\sB (pr p lv).natAbs (pr p rv).natAbs m/\(0<pr p S->0<pr p lv)/\pr p S≠0))) ⟨L,S,ai ((s.put _ _).put _ _).get (ai ((s.put _ _).put _ _).get (ai ((s.put _ _).put _ _).get (ai ((s.put _ _).put _ _).get aG))),fun _ _=>Iff.rfl,.inl ⟨rfl,rfl,rfl⟩⟩ (by decide) ?_ ?_) ?_))⟩
   ·rintro m ρ ⟨lv,rv,sw,cl,hi⟩
    refine⟨!decide (pr p rv=0),0,dC sw (cU (x:=.int (pr p rv)) (y:=.int 0) (fK ∅ ∅ rfl (DG hp rv)) ∅ (ag.eq ∅ (by show(!eqD (.int (pr p rv)) (.int 0))=_;rw[di]))),fun ht=>?_⟩
    have h0:pr p rv≠0:=by simpa using ht
    have ncl:∀P,Sg P->((P L/\P S)↔(P rv/\P (sb lv rv ((pr p lv).fdiv (pr p rv))))):=fun P g=>(cl P g).trans ⟨fun⟨x,y⟩=>⟨y,g.step _ _ _ x y⟩,fun⟨y,x⟩=>⟨g.back x y,y⟩⟩
    rcases hi with⟨rfl,rfl,rfl⟩|⟨hw,hE,hps,hne⟩
    ·have hbb:=vx hp h0 (hS.mono ub) (hL.mono uB)
     have hw:=mr.first hL hS h0
     have hE:sB (pr p rv).natAbs (pr p (sb lv rv ((pr p lv).fdiv (pr p rv)))).natAbs 3980:=by
      obtain⟨sg,x,y,e1,e2,hlt⟩:=hw.sg
      have hx:=hS p
      rw[e1,eF]at hx
      rw[e2,e1,eF,eF]
      have h1:x*y<x*x:=Nat.mul_lt_mul_of_pos_left hlt (by omega)
      have h2:x*x<=2 ^ 1990*2 ^ 1990:=ac6 (ZN hx (aa6 (by decide) hb)) (ZN hx (aa6 (by decide) hb))
      rw[<- ae8]at h2
      exact .inl ⟨aj4 hlt,ZW h1 h2⟩
     exact jJ (m':=3980) (by decide) (bY sw (aX (bM (ax ∅ hbb)) ∅) fun ρ' s'=>⟨_,_,ai s'.get (ai s'.get (ai s'.get (ai s'.get aG))),ncl,.inr ⟨hw,hE,id,h0⟩⟩)
    ·have hbb:=vx hp h0 (fun c=>ZN (hw.br c) (aa6 (by decide) up)) (fun c=>ZN (hw.bl c) (aa6 (by decide) up))
     obtain⟨m',hm',hE'⟩:=qX hE (by omega)
     have hE'':sB (pr p rv).natAbs (pr p (sb lv rv ((pr p lv).fdiv (pr p rv)))).natAbs m':=by rw[hw.mod h0];exact hE'
     exact jJ hm' (bY sw (aX (bM (ax ∅ hbb)) ∅) fun ρ' s'=>⟨_,_,ai s'.get (ai s'.get (ai s'.get (ai s'.get aG))),ncl,.inr ⟨hw.next h0,hE'',fun q=>hw.pos (hps q) h0,hne⟩⟩)
   ·rintro m ρ ⟨lv,rv,s,cl,hi⟩ ⟨k,hk⟩
    have e:=hk.inj (dC s (cU (x:=.int (pr p rv)) (y:=.int 0) (fK ∅ ∅ rfl (DG hp rv)) ∅ (ag.eq ∅ (by show(!eqD (.int (pr p rv)) (.int 0)) = !decide (pr p rv=0);rw[di]))))
    have h0:pr p rv=0:=by
     have e1:(!decide (pr p rv=0))=false:=by injection e with e1 e2;injection e1 with e1;exact e1.symm
     simpa using e1
    refine⟨lv,rv,⟨h0,cl,?_,?_,?_⟩,s⟩
    ·rcases hi with⟨_,rfl,rfl⟩|⟨hw,_⟩
     ·exact⟨hL.mono (by unfold nb;omega),hS.mono (by unfold nb;omega)⟩
     ·exact⟨hw.bl,hw.br⟩
    ·rcases hi with⟨_,rfl,rfl⟩|⟨hw,_,q,_⟩
     ·intro q;omega
     ·exact q
    ·rcases hi with⟨_,rfl,rfl⟩|⟨hw,_,_,q⟩
     ·exact fun _=>⟨rfl,rfl⟩
     ·exact fun z=>absurd z q
   ·rintro ρ ⟨L',R,hS',s⟩
    refine bY s ∅ fun ρ' s'=>⟨r,os++[R],L',nb B b,bs',rfl,hS'.bd.1,hbs,hk,by simp only[ae1,ab1,List.length_nil]at *;omega,fun L2 os2 h2=>?_,ai s'.get (ai (by rw[List.map_append];exact s'.get) (ai s'.get aG))⟩
    rw[List.append_assoc]
    exact hch _ _ ⟨L',R,os2,hS',h2,rfl⟩
 ·rintro ρ ⟨r,os,L,B,bs',hr,hL,hbs,hk,hn,hch,s⟩
  cases r with
  | cons n r=>cases hr
  | nil =>
   cases bs' with
   | cons _ _=>exact hbs.elim
   | nil =>
   have h:=hch L [] ⟨rfl,rfl⟩
   rw[ad1]at h
   exact⟨_,cy s ∅,L,os,h,rfl⟩
noncomputable def Bl:Fx:=Tb [("staying_spots", gD),("reduced", jp),("swept", rC)] [] BL IL ML TL aN
noncomputable def js:List D->Rs D:=bw Bl (ae (ah 54)) ["turn"] (ak (ah 54))
structure Bs(q:Qd)(A B C E F G:Int):Prop where
 a0:0<A
 d0:0<E
 f0:0<G
 b1:0<=B/\B<E
 c1:0<=C/\C<G
 e1:0<=F/\F<G
 n:A*E*G=(tq q).low.n
 s1:St (tq q).low (A,B,C)
 s2:St (tq q).low (0,E,F)
 s3:St (tq q).low (0,0,G)
 all:∀v,St (tq q).low v->xg A B C E F G v
theorem MV{B K:Nat}(hu:eh B u)(hv:eh B v)(hk:k.natAbs<=2 ^ K):eh (B+K+1) (sb u v k):=fun p=>by
 rw[kC]
 refine ZN (ad7 _ _) ?_
 rw[ab9,af5,ae8]
 have h1:=hu p
 have h2:=ac6 (hv p) hk
 have h3:2 ^ B<=2 ^ B*2 ^ K:=Nat.le_mul_of_pos_right _ (ak4 (by decide))
 omega
theorem MW(p:Pm q.1 q.2.1 q.2.2.1 q.2.2.2)(hq:dG (2 ^ 70) q):∃A B C E F G:Int,Bs q A B C E F G/\ag (js [kz q.1 q.2.1 q.2.2.1 q.2.2.2]) (.tup [d3 A B C,d3 0 E F,d3 0 0 G]):=by
 obtain⟨g,hg,cut,en,ho,hn,g1⟩:=iR q p
 have hSt:=HS p hq
 have lb:(tq q).low.n.natAbs<=2 ^ 142:=by
  have h2:(tq q).n.natAbs<=2 ^ 142:=by
   obtain⟨h1,h2,h3,h4⟩:=hq
   have k:∀{x:Int},x.natAbs<=2 ^ 70->(x*x).natAbs<=2 ^ 140:=fun h=>by rw[ab9,show(2:Nat) ^ 140=2 ^ 70*2 ^ 70 from rfl];exact ac6 h h
   have k1:=k h1;have k2:=k h2;have k3:=k h3;have k4:=k h4
   show(n4 q.1 q.2.1 q.2.2.1 q.2.2.2).natAbs<=_
   unfold n4
   omega
  exact ZN (qS (T9.gpos (fV p.ne))) h2
 have bq:Ei [70,70,70,70,142,142,142] (i5 q (tq q).low.n):=by
  obtain⟨h1,h2,h3,h4⟩:=hq
  have z:∀{B:Nat},(0:Int).natAbs<=2 ^ B:=fun {B}=>ZY _
  have ng:∀{x:Int} {B:Nat},x.natAbs<=2 ^ B->(-x).natAbs<=2 ^ B:=fun h=>by rw[ad6];exact h
  exact⟨eJ ⟨ng h2,ng h3,ng h4⟩,eJ ⟨h1,ng h4,h3⟩,eJ ⟨h4,h1,ng h2⟩,eJ ⟨ng h3,h2,h1⟩,eJ ⟨lb,z,z⟩,eJ ⟨z,lb,z⟩,eJ ⟨z,z,lb⟩,True.intro⟩
 have clq:=fun(A B C D E F:Int) hA hD hF=>MX p (A:=A) (B:=B) (C:=C) (D:=D) (E:=E) (F:=F) hA hD hF
 have bn:eh 142 (0,(tq q).low.n,0)/\eh 142 (0,0,(tq q).low.n):=⟨eJ ⟨ZY _,lb,ZY _⟩,eJ ⟨ZY _,ZY _,lb⟩⟩
 generalize hnn:(tq q).low.n=n at *
 obtain⟨_,h0,L0,os0,w0,rfl⟩:=qh (p:=0) (by decide) bq ⟨by decide,by decide,by decide,by decide,by decide,by decide,by decide,by decide,by decide,by decide,by decide,by decide,by decide,by decide,True.intro⟩ (ab2 rfl)
 have cc0:=fun P (g:Sg P)=>iJ.cl g w0
 have z0:=iJ.z w0
 obtain⟨al0,ar0,_,a0,⟨al1,ar1,_,a1,⟨al2,ar2,_,a2,⟨al3,ar3,_,a3,⟨al4,ar4,_,a4,⟨al5,ar5,_,a5,⟨al6,ar6,_,a6,⟨rfl,rfl⟩,rfl⟩,rfl⟩,rfl⟩,rfl⟩,rfl⟩,rfl⟩,rfl⟩:=w0
 have e5:=(a5.nz rfl).2
 have e6:=(a6.nz rfl).2
 have f0:=(a6.nz rfl).1.trans (a5.nz rfl).1
 have p0:=a4.ps hn
 have B0:=a4.bd.1
 subst e5 e6 f0
 obtain⟨_,h1,L1,os1,w1,rfl⟩:=qh (p:=1) (by decide) (l:=[ar0,ar1,ar2,ar3,ar4,(0,n,0),(0,0,n)]) (bs:=[142,214,286,358,502,142,142]) ⟨a0.bd.2,a1.bd.2,a2.bd.2,a3.bd.2,a4.bd.2,bn.1,bn.2,True.intro⟩ ⟨by decide,by decide,by decide,by decide,by decide,by decide,by decide,by decide,by decide,by decide,by decide,by decide,by decide,by decide,True.intro⟩ (ab2 rfl)
 have cc1:=fun P (g:Sg P)=>iJ.cl g w1
 have z1:=iJ.z w1
 obtain⟨bl0,br0,_,b0,⟨bl1,br1,_,b1,⟨bl2,br2,_,b2,⟨bl3,br3,_,b3,⟨bl4,br4,_,b4,⟨bl5,br5,_,b5,⟨bl6,br6,_,b6,⟨rfl,rfl⟩,rfl⟩,rfl⟩,rfl⟩,rfl⟩,rfl⟩,rfl⟩,rfl⟩:=w1
 have e6:=(b6.nz rfl).2
 have f1:=(b6.nz rfl).1
 have p1:=b5.ps hn
 have B1:=b5.bd.1
 subst e6 f1
 obtain⟨_,h2,L2,os2,w2,rfl⟩:=qh (p:=2) (by decide) (l:=[br0,br1,br2,br3,br4,br5,(0,0,n)]) (bs:=[286,502,790,1150,1654,1798,142]) ⟨b0.bd.2,b1.bd.2,b2.bd.2,b3.bd.2,b4.bd.2,b5.bd.2,bn.2,True.intro⟩ ⟨by decide,by decide,by decide,by decide,by decide,by decide,by decide,by decide,by decide,by decide,by decide,by decide,by decide,by decide,True.intro⟩ (ab2 rfl)
 have cc2:=fun P (g:Sg P)=>iJ.cl g w2
 have z2:=iJ.z w2
 obtain⟨cl0,cr0,_,c0,⟨cl1,cr1,_,c1,⟨cl2,cr2,_,c2,⟨cl3,cr3,_,c3,⟨cl4,cr4,_,c4,⟨cl5,cr5,_,c5,⟨cl6,cr6,_,c6,⟨rfl,rfl⟩,rfl⟩,rfl⟩,rfl⟩,rfl⟩,rfl⟩,rfl⟩,rfl⟩:=w2
 have p2:=c6.ps hn
 have B2:=c6.bd.1
 have y0:=(cc1 _ (xE 0)).mp ⟨rfl,z0⟩
 have x0:=(cc2 _ (xE 0)).mp ⟨rfl,y0.2⟩
 have x1:=(cc2 _ (xE 1)).mp ⟨rfl,z1⟩
 clear a0 a1 a2 a3 a4 a5 a6 b0 b1 b2 b3 b4 b5 b6
 have run:∀{d:D},ag (jp [.lst [dv L0,dv L1,dv L2]]) d->ag (js [kz q.1 q.2.1 q.2.2.1 q.2.2.2]) d:=fun {d} hR=>by
  refine bC (aX (bM (ax ∅ hSt)) (aX (bM (d:=.lst []) ∅) (mI [.int 0,.int 1,.int 2] ∅ ?_)))
  refine gT (C:=bE [("spots", .lst ((i5 q n).map dv),true),("base", .lst [],true)]) (P:=fun ρ=>vP _ _ _ _ _ _ _ ρ) (ai rfl (ai rfl aG)) fun ρ s=>?_
  refine⟨_,rfl,.inl (bY (s.put _ _) (aX (u5 (ax ∅ h0) rfl) ∅) fun ρ s'=>?_)⟩
  replace s:=(show Sub (bE [("spots", .lst ([ar0,ar1,ar2,ar3,ar4,(0,n,0),(0,0,n)].map dv),true),("base", .lst [dv L0],true)]) ρ from ai s'.get (ai s'.get aG))
  clear s'
  refine⟨_,rfl,.inl (bY (s.put _ _) (aX (u5 (ax ∅ h1) rfl) ∅) fun ρ s'=>?_)⟩
  replace s:=(show Sub (bE [("spots", .lst ([br0,br1,br2,br3,br4,br5,(0,0,n)].map dv),true),("base", .lst [dv L0,dv L1],true)]) ρ from ai s'.get (ai s'.get aG))
  clear s'
  refine⟨_,rfl,.inl (bY (s.put _ _) (aX (u5 (ax ∅ h2) rfl) ∅) fun ρ s'=>?_)⟩
  exact cy (show Sub (bE [("base", .lst [dv L0,dv L1,dv L2],true)]) ρ from ai s'.get aG) (bW (bP (ax ∅ hR)))
 have zz:∀P,Sg P->∀s∈[cr0,cr1,cr2,cr3,cr4,cr5,cr6],P s:=fun P g s hs=>by
  have t0:s.1=0:=x0.2 s hs
  have t1:s.2.1=0:=x1.2 s hs
  have t2:s.2.2=0:=z2 s hs
  obtain⟨u,v,w⟩:=s
  cases t0;cases t1;cases t2
  exact g.zero
 have cl:∀P,Sg P->((∀s∈i5 q n,P s)↔(P L0/\P L1/\P L2)):=fun P g=>by
  constructor
  ·intro h
   have k0:=(cc0 P g).mp ⟨g.zero,h⟩
   have k1:=(cc1 P g).mp ⟨g.zero,k0.2⟩
   have k2:=(cc2 P g).mp ⟨g.zero,k1.2⟩
   exact⟨k0.1,k1.1,k2.1⟩
  ·rintro⟨k0,k1,k2⟩
   have j2:=(cc2 P g).mpr ⟨k2,zz P g⟩
   have j1:=(cc1 P g).mpr ⟨k1,j2.2⟩
   have j0:=(cc0 P g).mpr ⟨k0,j1.2⟩
   exact j0.2
 clear cc0 cc1 cc2 z0 z1 z2 zz h0 h1 h2
 obtain⟨A,B,C⟩:=L0
 obtain⟨x,E,F⟩:=L1
 obtain⟨x',y',G⟩:=L2
 have q0:x=0:=y0.1
 have q1:x'=0:=x0.1
 have q2:y'=0:=x1.1
 subst q0 q1 q2
 clear y0 x0 x1
 have pA:0<A:=p0
 have pE:0<E:=p1
 have pG:0<G:=p2
 have es:sb (0,E,F) (0,0,G) ((pr 2 (0,E,F)).fdiv (pr 2 (0,0,G)))=(0,E,F.fmod G):=by simp[sb,pr,kK]
 have et:sb (A,B,C) (0,E,F.fmod G) ((pr 1 (A,B,C)).fdiv (pr 1 (0,E,F.fmod G)))=(A,B.fmod E,C-F.fmod G*B.fdiv E):=by simp[sb,pr,kK B E]
 have ez:sb (A,B.fmod E,C-F.fmod G*B.fdiv E) (0,0,G) ((pr 2 (A,B.fmod E,C-F.fmod G*B.fdiv E)).fdiv (pr 2 (0,0,G)))=(A,B.fmod E,(C-F.fmod G*B.fdiv E).fmod G):=by simp[sb,pr,kK (C-F.fmod G*B.fdiv E) G]
 have f1:=aa9 F pG
 have f2:=ab7 F pG
 have g1:=aa9 B pE
 have g2:=ab7 B pE
 have i1:=aa9 (C-F.fmod G*B.fdiv E) pG
 have i2:=ab7 (C-F.fmod G*B.fdiv E) pG
 have bs:eh 6622 (0,E,F.fmod G):=eJ ⟨ZY _,ZN (B1 1) (aa6 (by decide) (by decide)),ZN (by show(F.fmod G).natAbs<=G.natAbs;omega) (B2 2)⟩
 have bt:eh 8990 (A,B.fmod E,C-F.fmod G*B.fdiv E):=by
  have h:=MV (u:=(A,B,C)) (v:=(0,E,F.fmod G)) (k:=B.fdiv E) (B:=6622) (K:=502) (B0.mono (by decide)) bs (ZN (qS pE) (B0 1))
  have e:sb (A,B,C) (0,E,F.fmod G) (B.fdiv E)=(A,B.fmod E,C-F.fmod G*B.fdiv E):=et
  rw[e]at h
  exact h.mono (by decide)
 have hR:=NX (u:=(A,B,C)) (v:=(0,E,F)) (w:=(0,0,G)) (show G≠0 by omega) (by rw[es];show E≠0;omega) (B0.mono (by decide)) (B1.mono (by decide)) (B2.mono (by decide)) (by rw[es];exact bs.mono (by decide)) (by rw[es,et];exact bt)
 rw[es,et,ez]at hR
 have clr:∀P,Sg P->((∀s∈i5 q n,P s)↔(P (A,B.fmod E,(C-F.fmod G*B.fdiv E).fmod G)/\P (0,E,F.fmod G)/\P (0,0,G))):=fun P g=>(cl P g).trans (by
  constructor
  ·rintro⟨k0,k1,k2⟩
   have j1:=g.step _ _ ((pr 2 (0,E,F)).fdiv (pr 2 (0,0,G))) k1 k2
   rw[es]at j1
   have j2:=g.step _ _ ((pr 1 (A,B,C)).fdiv (pr 1 (0,E,F.fmod G))) k0 j1
   rw[et]at j2
   have j3:=g.step _ _ ((pr 2 (A,B.fmod E,C-F.fmod G*B.fdiv E)).fdiv (pr 2 (0,0,G))) j2 k2
   rw[ez]at j3
   exact⟨j3,j1,k2⟩
  ·rintro⟨k0,k1,k2⟩
   rw[<- ez]at k0
   have j0:=g.back k0 k2
   rw[<- et]at j0
   have j1:=g.back j0 k1
   rw[<- es]at k1
   exact⟨j1,g.back k1 k2,k2⟩)
 obtain⟨r1,⟨r2,r3,r4⟩,r5⟩:=clq A (B.fmod E) ((C-F.fmod G*B.fdiv E).fmod G) E (F.fmod G) G pA pE pG clr
 exact⟨_,_,_,_,_,_,⟨pA,pE,pG,⟨g1,g2⟩,⟨i1,i2⟩,⟨f1,f2⟩,r1.trans hnn.symm,r2,r3,r4,r5⟩,run hR⟩
noncomputable def nD:Fx:=Tb [] [] BL IL ML TL aN
noncomputable def wq:List D->Rs D:=bw nD (ae (ah 65)) ["_law_numbers_here"] (ak (ah 65))
noncomputable def fw:List D->Rs D
 | [.lst l]=>.ok (.int (jB l)) [okT l]
 | [.tup l]=>.ok (.int (jB l)) [okT l]
 | _=>.st
theorem vg(g:Nat)(x:Int)(f:Bool)(hx:x.natAbs=g):ag (aH nD ((ak (ah 65)).drop 2) (ae (ah 65)) (bE [("_law_found", .int x,f)])) (.rt (.int g)):=by
 have e:(if x<0 then -x else x)=(g:Int):=by omega
 rw[<- e]
 exact cQ rfl (by walk_at "ob")
theorem rA:∀ds r,ag (fw ds) r->ag (wq ds) r:=by
 intro ds r h
 unfold fw at h
 split at h
 ·obtain⟨rfl,⟨ns,rfl,hl,hb⟩,_⟩:=dZ h
  rw[kJ]
  refine bC (dS 1 ∅ (ql (ds:=ns.map D.int) (fun rem ρ => ∃(r:List Int) (x:Int) (f:Bool),rem=r.map D.int/\(∀n∈r,n.natAbs<2 ^ 1000)/\bZ x.natAbs r=bZ 0 ns/\x.natAbs<2 ^ 1000/\Sub (bE [("_law_found", .int x,f)]) ρ) ∅ ⟨ns,0,true,rfl,hb,rfl,ak4 (by decide),ai rfl aG⟩ ?_ ?_ rfl (Af (.lst (ns.map D.int)))))
  ·rintro d l ρ ⟨r,x,f,hr,hb',hg,hlt,s⟩
   cases r with
   | nil=>cases hr
   | cons n r =>
    cases hr
    have hn:=hb' n ZV
    refine⟨_,rfl,Di (m:=3000) (fun m ρ => ∃(u v:Int) (f1 f2:Bool),EC u v m/\u.natAbs<2 ^ 1000/\v.natAbs<2 ^ 1000/\Nat.gcd u.natAbs v.natAbs=Nat.gcd x.natAbs n.natAbs/\Sub (bE [("_law_found", .int u,f1),("_law_other_here", .int v,f2)]) ρ) ⟨x,n,f,false,.inl rfl,hlt,hn,rfl,ai (s.put _ _).get (ai (s.put _ _).get aG)⟩ (by decide) ?_ ?_⟩
    ·rintro m ρ ⟨u,v,f1,f2,hm,hu,hv,hg',s⟩
     refine⟨!decide (v=0),0,dC s (∅.bl (by show(!eqD (.int v) (.int 0))=_;rw[di])),fun ht=>?_⟩
     have h0:v≠0:=by simpa using ht
     obtain⟨⟨m',hm',hE⟩,hgc,hlt'⟩:=ve hm h0 hv
     exact jJ hm' (bY s ∅ fun ρ' s'=>⟨v,u.fmod v,false,false,hE,hv,hlt',by rw[hgc,hg'],ai s'.get (ai s'.get aG)⟩)
    ·rintro m ρ ⟨u,v,f1,f2,hm,hu,hv,hg',s⟩ ⟨k,hk⟩
     have e:=hk.inj (dC s ∅)
     have h0:v=0:=by
      have e1:(!eqD (.int v) (.int 0))=false:=by injection e with e1 e2;injection e1 with e1;exact e1.symm
      rw[di]at e1
      simpa using e1
     subst h0
     have hg':u.natAbs=Nat.gcd x.natAbs n.natAbs:=by rw[<- hg'];simp
     exact⟨r,u,f1,rfl,fun m hm=>hb' m (ZR _ hm),by rw[hg'];exact hg,hu,ai s.get aG⟩
  ·rintro ρ ⟨r,x,f,hr,hb',hg,hlt,s⟩
   cases r with
   | nil =>
    rw[<- hg]
    exact cy s (vg _ _ _ rfl)
   | cons n r=>cases hr
 ·obtain⟨rfl,⟨ns,rfl,hl,hb⟩,_⟩:=dZ h
  rw[kJ]
  refine bC (dS 1 ∅ (ql (ds:=ns.map D.int) (fun rem ρ => ∃(r:List Int) (x:Int) (f:Bool),rem=r.map D.int/\(∀n∈r,n.natAbs<2 ^ 1000)/\bZ x.natAbs r=bZ 0 ns/\x.natAbs<2 ^ 1000/\Sub (bE [("_law_found", .int x,f)]) ρ) ∅ ⟨ns,0,true,rfl,hb,rfl,ak4 (by decide),ai rfl aG⟩ ?_ ?_ rfl (Af (.tup (ns.map D.int)))))
  ·rintro d l ρ ⟨r,x,f,hr,hb',hg,hlt,s⟩
   cases r with
   | nil=>cases hr
   | cons n r =>
    cases hr
    have hn:=hb' n ZV
    refine⟨_,rfl,Di (m:=3000) (fun m ρ => ∃(u v:Int) (f1 f2:Bool),EC u v m/\u.natAbs<2 ^ 1000/\v.natAbs<2 ^ 1000/\Nat.gcd u.natAbs v.natAbs=Nat.gcd x.natAbs n.natAbs/\Sub (bE [("_law_found", .int u,f1),("_law_other_here", .int v,f2)]) ρ) ⟨x,n,f,false,.inl rfl,hlt,hn,rfl,ai (s.put _ _).get (ai (s.put _ _).get aG)⟩ (by decide) ?_ ?_⟩
    ·rintro m ρ ⟨u,v,f1,f2,hm,hu,hv,hg',s⟩
     refine⟨!decide (v=0),0,dC s (∅.bl (by show(!eqD (.int v) (.int 0))=_;rw[di])),fun ht=>?_⟩
     have h0:v≠0:=by simpa using ht
     obtain⟨⟨m',hm',hE⟩,hgc,hlt'⟩:=ve hm h0 hv
     exact jJ hm' (bY s ∅ fun ρ' s'=>⟨v,u.fmod v,false,false,hE,hv,hlt',by rw[hgc,hg'],ai s'.get (ai s'.get aG)⟩)
    ·rintro m ρ ⟨u,v,f1,f2,hm,hu,hv,hg',s⟩ ⟨k,hk⟩
     have e:=hk.inj (dC s ∅)
     have h0:v=0:=by
      have e1:(!eqD (.int v) (.int 0))=false:=by injection e with e1 e2;injection e1 with e1;exact e1.symm
      rw[di]at e1
      simpa using e1
     subst h0
     have hg':u.natAbs=Nat.gcd x.natAbs n.natAbs:=by rw[<- hg'];simp
     exact⟨r,u,f1,rfl,fun m hm=>hb' m (ZR _ hm),by rw[hg'];exact hg,hu,ai s.get aG⟩
  ·rintro ρ ⟨r,x,f,hr,hb',hg,hlt,s⟩
   cases r with
   | nil =>
    rw[<- hg]
    exact cy s (vg _ _ _ rfl)
   | cons n r=>cases hr
 ·exact(aw h).elim
noncomputable def Bh:Fx:=Tb [] [] BL IL ML TL aN
noncomputable def my:List D->Rs D:=bw Bh (ae (ah 61)) ["_law_x"] (ak (ah 61))
noncomputable def Bi:Fx:=Tb [("_law_whole", my)] [] BL IL ML TL aN
noncomputable def sy:List D->Rs D:=bw Bi (ae (ah 62)) ["_law_found", "_law_many"] (ak (ah 62))
noncomputable def vG:Fx:=Tb [("_law_divisor", fw),("_law_whole", my),("_law_tuple", sy)] [] BL IL ML TL aN
noncomputable def jd:List D->Rs D:=bw vG (ae (ah 69)) ["_law_found"] (ak (ah 69))
theorem OT{m:Int}(hm:0<m)(h1:gI [m,a,b,c,d,e,f,g,h,i]=1)(hT:okT ([m,a,b,c,d,e,f,g,h,i].map D.int)):ag (jd [.tup [.int m,.tup [d3 a b c,d3 d e f,d3 g h i]]]) (.bl true):=by
 rw[<- jV]at h1
 refine bC (aM (fX (ee ∅ (ee ∅ (ee ∅ (ee (∅.bl (c:=false) (aa1 (show ¬ m<1 by omega))) ip))))) rfl (aM ∅ rfl (ag.eq ∅ ?_)))
 show Fl.rt (.bl (eqD (.int (jB ([m,a,b,c,d,e,f,g,h,i].map D.int))) (.int 1)))=_
 rw[h1];rfl
noncomputable def yT:Fx:=Tb [("_law_is_table", jd)] [] BL IL ML TL aN
noncomputable def iN:List D->Rs D:=bw yT (ae (ah 70)) ["_law_found", "_law_n", "_law_rows_here"] (ak (ah 70))
theorem BB{m p0 p1 p2 p3 p4 p5 p6 p7 p8 a0 a1 a2 a3 a4 a5 a6 a7 a8:Int}(hm:0<m)(h1:gI [m,p0,p1,p2,p3,p4,p5,p6,p7,p8]=1)(hT:okT ([m,p0,p1,p2,p3,p4,p5,p6,p7,p8].map D.int))(mb:m.natAbs<=2 ^ 400)(nb:n.natAbs<=2 ^ 400)
  (e0:p0*n=a0*m) (p0b:p0.natAbs<=2 ^ 400) (a0b:a0.natAbs<=2 ^ 400)
  (e1:p1*n=a1*m) (p1b:p1.natAbs<=2 ^ 400) (a1b:a1.natAbs<=2 ^ 400)
  (e2:p2*n=a2*m) (p2b:p2.natAbs<=2 ^ 400) (a2b:a2.natAbs<=2 ^ 400)
  (e3:p3*n=a3*m) (p3b:p3.natAbs<=2 ^ 400) (a3b:a3.natAbs<=2 ^ 400)
  (e4:p4*n=a4*m) (p4b:p4.natAbs<=2 ^ 400) (a4b:a4.natAbs<=2 ^ 400)
  (e5:p5*n=a5*m) (p5b:p5.natAbs<=2 ^ 400) (a5b:a5.natAbs<=2 ^ 400)
  (e6:p6*n=a6*m) (p6b:p6.natAbs<=2 ^ 400) (a6b:a6.natAbs<=2 ^ 400)
  (e7:p7*n=a7*m) (p7b:p7.natAbs<=2 ^ 400) (a7b:a7.natAbs<=2 ^ 400)
  (e8:p8*n=a8*m) (p8b:p8.natAbs<=2 ^ 400) (a8b:a8.natAbs<=2 ^ 400)
  : ag (iN [.tup [.int m,.tup [d3 p0 p1 p2,d3 p3 p4 p5,d3 p6 p7 p8]],.int n,.lst [.lst [.int a0,.int a1,.int a2],.lst [.int a3,.int a4,.int a5],.lst [.int a6,.int a7,.int a8]]]) (.bl true):=by
 have mB:=aQ mb (by decide)
 have nB:=aQ nb (by decide)
 have p0B:=aQ p0b (by decide)
 have a0B:=aQ a0b (by decide)
 have p1B:=aQ p1b (by decide)
 have a1B:=aQ a1b (by decide)
 have p2B:=aQ p2b (by decide)
 have a2B:=aQ a2b (by decide)
 have p3B:=aQ p3b (by decide)
 have a3B:=aQ a3b (by decide)
 have p4B:=aQ p4b (by decide)
 have a4B:=aQ a4b (by decide)
 have p5B:=aQ p5b (by decide)
 have a5B:=aQ a5b (by decide)
 have p6B:=aQ p6b (by decide)
 have a6B:=aQ a6b (by decide)
 have p7B:=aQ p7b (by decide)
 have a7B:=aQ a7b (by decide)
 have p8B:=aQ p8b (by decide)
 have a8B:=aQ a8b (by decide)
 refine bC (aM (u8 (ax ∅ (OT hm h1 hT))) rfl (mI [.int 0,.int 1,.int 2] ∅ ?_))
 refine gT (C:=bE [("_law_found", .tup [.int m,.tup [d3 p0 p1 p2,d3 p3 p4 p5,d3 p6 p7 p8]],false),("_law_n", .int n,false),("_law_rows_here", .lst [.lst [.int a0,.int a1,.int a2],.lst [.int a3,.int a4,.int a5],.lst [.int a6,.int a7,.int a8]],false)]) (P:=fun ρ=>vP _ _ _ _ _ _ _ ρ) (ai rfl (ai rfl (ai rfl aG))) fun ρ s=>?_
 refine⟨_,rfl,.inl (qQ [.int 0,.int 1,.int 2] ∅ ?_)⟩
 replace s:=(show Sub (bE [("_law_found", .tup [.int m,.tup [d3 p0 p1 p2,d3 p3 p4 p5,d3 p6 p7 p8]],false),("_law_n", .int n,false),("_law_rows_here", .lst [.lst [.int a0,.int a1,.int a2],.lst [.int a3,.int a4,.int a5],.lst [.int a6,.int a7,.int a8]],false),("_law_k", .int 0,false)]) (bT ρ _ _)from ai (s.put _ _).get (ai (s.put _ _).get (ai (s.put _ _).get (ai (s.put "_law_k" (.int 0,false)).get aG))))
 refine gT (C:=bE [("_law_found", .tup [.int m,.tup [d3 p0 p1 p2,d3 p3 p4 p5,d3 p6 p7 p8]],false),("_law_n", .int n,false),("_law_rows_here", .lst [.lst [.int a0,.int a1,.int a2],.lst [.int a3,.int a4,.int a5],.lst [.int a6,.int a7,.int a8]],false),("_law_k", .int 0,false)]) (P:=fun ρ=>xj _ _ _ _ _ _ ρ) s fun ρ s=>?_
 refine⟨_,rfl,bY (s.put _ _) (aM ∅ (gj e0) ∅) fun ρ s'=>?_⟩
 replace s:=(show Sub (bE [("_law_found", .tup [.int m,.tup [d3 p0 p1 p2,d3 p3 p4 p5,d3 p6 p7 p8]],false),("_law_n", .int n,false),("_law_rows_here", .lst [.lst [.int a0,.int a1,.int a2],.lst [.int a3,.int a4,.int a5],.lst [.int a6,.int a7,.int a8]],false),("_law_k", .int 0,false)]) ρ from ai s'.get (ai s'.get (ai s'.get (ai s'.get aG))))
 clear s'
 refine⟨_,rfl,bY (s.put _ _) (aM ∅ (gj e1) ∅) fun ρ s'=>?_⟩
 replace s:=(show Sub (bE [("_law_found", .tup [.int m,.tup [d3 p0 p1 p2,d3 p3 p4 p5,d3 p6 p7 p8]],false),("_law_n", .int n,false),("_law_rows_here", .lst [.lst [.int a0,.int a1,.int a2],.lst [.int a3,.int a4,.int a5],.lst [.int a6,.int a7,.int a8]],false),("_law_k", .int 0,false)]) ρ from ai s'.get (ai s'.get (ai s'.get (ai s'.get aG))))
 clear s'
 refine⟨_,rfl,bY (s.put _ _) (aM ∅ (gj e2) ∅) fun ρ s'=>?_⟩
 replace s:=(show Sub (bE [("_law_found", .tup [.int m,.tup [d3 p0 p1 p2,d3 p3 p4 p5,d3 p6 p7 p8]],false),("_law_n", .int n,false),("_law_rows_here", .lst [.lst [.int a0,.int a1,.int a2],.lst [.int a3,.int a4,.int a5],.lst [.int a6,.int a7,.int a8]],false),("_law_k", .int 0,false)]) ρ from ai s'.get (ai s'.get (ai s'.get (ai s'.get aG))))
 clear s'
 replace s:=(show Sub (bE [("_law_found", .tup [.int m,.tup [d3 p0 p1 p2,d3 p3 p4 p5,d3 p6 p7 p8]],false),("_law_n", .int n,false),("_law_rows_here", .lst [.lst [.int a0,.int a1,.int a2],.lst [.int a3,.int a4,.int a5],.lst [.int a6,.int a7,.int a8]],false)]) ρ from ai s.get (ai s.get (ai s.get aG)))
 refine⟨_,rfl,.inl (qQ [.int 0,.int 1,.int 2] ∅ ?_)⟩
 replace s:=(show Sub (bE [("_law_found", .tup [.int m,.tup [d3 p0 p1 p2,d3 p3 p4 p5,d3 p6 p7 p8]],false),("_law_n", .int n,false),("_law_rows_here", .lst [.lst [.int a0,.int a1,.int a2],.lst [.int a3,.int a4,.int a5],.lst [.int a6,.int a7,.int a8]],false),("_law_k", .int 1,false)]) (bT ρ _ _)from ai (s.put _ _).get (ai (s.put _ _).get (ai (s.put _ _).get (ai (s.put "_law_k" (.int 1,false)).get aG))))
 refine gT (C:=bE [("_law_found", .tup [.int m,.tup [d3 p0 p1 p2,d3 p3 p4 p5,d3 p6 p7 p8]],false),("_law_n", .int n,false),("_law_rows_here", .lst [.lst [.int a0,.int a1,.int a2],.lst [.int a3,.int a4,.int a5],.lst [.int a6,.int a7,.int a8]],false),("_law_k", .int 1,false)]) (P:=fun ρ=>xj _ _ _ _ _ _ ρ) s fun ρ s=>?_
 refine⟨_,rfl,bY (s.put _ _) (aM ∅ (gj e3) ∅) fun ρ s'=>?_⟩
 replace s:=(show Sub (bE [("_law_found", .tup [.int m,.tup [d3 p0 p1 p2,d3 p3 p4 p5,d3 p6 p7 p8]],false),("_law_n", .int n,false),("_law_rows_here", .lst [.lst [.int a0,.int a1,.int a2],.lst [.int a3,.int a4,.int a5],.lst [.int a6,.int a7,.int a8]],false),("_law_k", .int 1,false)]) ρ from ai s'.get (ai s'.get (ai s'.get (ai s'.get aG))))
 clear s'
 refine⟨_,rfl,bY (s.put _ _) (aM ∅ (gj e4) ∅) fun ρ s'=>?_⟩
 replace s:=(show Sub (bE [("_law_found", .tup [.int m,.tup [d3 p0 p1 p2,d3 p3 p4 p5,d3 p6 p7 p8]],false),("_law_n", .int n,false),("_law_rows_here", .lst [.lst [.int a0,.int a1,.int a2],.lst [.int a3,.int a4,.int a5],.lst [.int a6,.int a7,.int a8]],false),("_law_k", .int 1,false)]) ρ from ai s'.get (ai s'.get (ai s'.get (ai s'.get aG))))
 clear s'
 refine⟨_,rfl,bY (s.put _ _) (aM ∅ (gj e5) ∅) fun ρ s'=>?_⟩
 replace s:=(show Sub (bE [("_law_found", .tup [.int m,.tup [d3 p0 p1 p2,d3 p3 p4 p5,d3 p6 p7 p8]],false),("_law_n", .int n,false),("_law_rows_here", .lst [.lst [.int a0,.int a1,.int a2],.lst [.int a3,.int a4,.int a5],.lst [.int a6,.int a7,.int a8]],false),("_law_k", .int 1,false)]) ρ from ai s'.get (ai s'.get (ai s'.get (ai s'.get aG))))
 clear s'
 replace s:=(show Sub (bE [("_law_found", .tup [.int m,.tup [d3 p0 p1 p2,d3 p3 p4 p5,d3 p6 p7 p8]],false),("_law_n", .int n,false),("_law_rows_here", .lst [.lst [.int a0,.int a1,.int a2],.lst [.int a3,.int a4,.int a5],.lst [.int a6,.int a7,.int a8]],false)]) ρ from ai s.get (ai s.get (ai s.get aG)))
 refine⟨_,rfl,.inl (qQ [.int 0,.int 1,.int 2] ∅ ?_)⟩
 replace s:=(show Sub (bE [("_law_found", .tup [.int m,.tup [d3 p0 p1 p2,d3 p3 p4 p5,d3 p6 p7 p8]],false),("_law_n", .int n,false),("_law_rows_here", .lst [.lst [.int a0,.int a1,.int a2],.lst [.int a3,.int a4,.int a5],.lst [.int a6,.int a7,.int a8]],false),("_law_k", .int 2,false)]) (bT ρ _ _)from ai (s.put _ _).get (ai (s.put _ _).get (ai (s.put _ _).get (ai (s.put "_law_k" (.int 2,false)).get aG))))
 refine gT (C:=bE [("_law_found", .tup [.int m,.tup [d3 p0 p1 p2,d3 p3 p4 p5,d3 p6 p7 p8]],false),("_law_n", .int n,false),("_law_rows_here", .lst [.lst [.int a0,.int a1,.int a2],.lst [.int a3,.int a4,.int a5],.lst [.int a6,.int a7,.int a8]],false),("_law_k", .int 2,false)]) (P:=fun ρ=>xj _ _ _ _ _ _ ρ) s fun ρ s=>?_
 refine⟨_,rfl,bY (s.put _ _) (aM ∅ (gj e6) ∅) fun ρ s'=>?_⟩
 replace s:=(show Sub (bE [("_law_found", .tup [.int m,.tup [d3 p0 p1 p2,d3 p3 p4 p5,d3 p6 p7 p8]],false),("_law_n", .int n,false),("_law_rows_here", .lst [.lst [.int a0,.int a1,.int a2],.lst [.int a3,.int a4,.int a5],.lst [.int a6,.int a7,.int a8]],false),("_law_k", .int 2,false)]) ρ from ai s'.get (ai s'.get (ai s'.get (ai s'.get aG))))
 clear s'
 refine⟨_,rfl,bY (s.put _ _) (aM ∅ (gj e7) ∅) fun ρ s'=>?_⟩
 replace s:=(show Sub (bE [("_law_found", .tup [.int m,.tup [d3 p0 p1 p2,d3 p3 p4 p5,d3 p6 p7 p8]],false),("_law_n", .int n,false),("_law_rows_here", .lst [.lst [.int a0,.int a1,.int a2],.lst [.int a3,.int a4,.int a5],.lst [.int a6,.int a7,.int a8]],false),("_law_k", .int 2,false)]) ρ from ai s'.get (ai s'.get (ai s'.get (ai s'.get aG))))
 clear s'
 refine⟨_,rfl,bY (s.put _ _) (aM ∅ (gj e8) ∅) fun ρ s'=>?_⟩
 replace s:=(show Sub (bE [("_law_found", .tup [.int m,.tup [d3 p0 p1 p2,d3 p3 p4 p5,d3 p6 p7 p8]],false),("_law_n", .int n,false),("_law_rows_here", .lst [.lst [.int a0,.int a1,.int a2],.lst [.int a3,.int a4,.int a5],.lst [.int a6,.int a7,.int a8]],false),("_law_k", .int 2,false)]) ρ from ai s'.get (ai s'.get (ai s'.get (ai s'.get aG))))
 clear s'
 replace s:=(show Sub (bE [("_law_found", .tup [.int m,.tup [d3 p0 p1 p2,d3 p3 p4 p5,d3 p6 p7 p8]],false),("_law_n", .int n,false),("_law_rows_here", .lst [.lst [.int a0,.int a1,.int a2],.lst [.int a3,.int a4,.int a5],.lst [.int a6,.int a7,.int a8]],false)]) ρ from ai s.get (ai s.get (ai s.get aG)))
 exact cy s ∅
noncomputable def vF:Fx:=Tb [("_law_divisor", fw)] [] BL IL ML TL aN
noncomputable def ld:List D->Rs D:=bw vF (ae (ah 71)) ["_law_numbers_here"] (ak (ah 71))
theorem zk(x y z w K:Int)(hK:fL K):ag (aH vF ((ak (ah 71)).drop 3) (ae (ah 71)) (bE [("_law_numbers_here", t4 x y z w,false),("_law_by", .int K,true)])) (.rt (t4 (x.fdiv K) (y.fdiv K) (z.fdiv K) (w.fdiv K))):=cQ rfl (by walk_at "ob")
theorem HE(hk:k≠0)(p:Pm a b c d)(hT:okT (([k*a,k*b,k*c,k*d]:List Int).map D.int))(kb:k.natAbs<cH):ag (ld [t4 (k*a) (k*b) (k*c) (k*d)]) (t4 a b c d):=by
 have hn:¬ (k*a=0/\k*b=0/\k*c=0/\k*d=0):=fun z=>p.ne ⟨(ab0.mp z.1).resolve_left hk,(ab0.mp z.2.1).resolve_left hk,(ab0.mp z.2.2.1).resolve_left hk,(ab0.mp z.2.2.2).resolve_left hk⟩
 have hg:jB (([k*a,k*b,k*c,k*d]:List Int).map D.int)=k.natAbs:=by rw[jV];exact oS hk p
 have hl:=uK hn
 rw[gS _ _ _ _ hk]at hl
 have pos:=p.pos
 have fd:∀x:Int,(k*x).fdiv k=x:=fun x=>ah1 x hk
 have fin:=zk (k*a) (k*b) (k*c) (k*d) k ⟨hk,kb⟩
 rw[fd,fd,fd,fd]at fin
 have hD:ag (fw [t4 (k*a) (k*b) (k*c) (k*d)]) (.int (k.natAbs:Nat)):=⟨[okT (([k*a,k*b,k*c,k*d]:List Int).map D.int)],by rw[<- hg];rfl,hT,True.intro⟩
 refine bC (aX (bM (d:=.int (k.natAbs:Nat)) (ax ∅ hD)) (aX (bM (d:=.int (k*cf a b c d)) (fK (k:=0) (j8 (out:=((([k*a,k*b,k*c,k*d]:List Int).filter fun t => !decide (t=0)).map D.int)) (j:=0) ∅ (ds:=([k*a,k*b,k*c,k*d]:List Int).map D.int) rfl ⟨ab2 rfl,.inl rfl⟩ (fI (g:=D.int) (f:=D.int) (c:=fun t => !decide (t=0)) (fun x _=>?_)) (ZY 1)) ∅ rfl hl)) ?_))
 ·refine ag.bnd (a:=!decide (x=0)) (gU (b:=!decide (x=0)) (c:=!decide (x=0)) (∅.bl (by show(!eqD (.int x) (.int 0))=_;rw[di])) (fun h=>by rw[h];exact lY) id) ?_
  cases decide (x=0)
  ·exact ag.bnd ∅ cS
  ·exact cS
 ·rcases af2 hk with q|q
  ·have hlt:k*cf a b c d<0:=ag9 q pos
   refine eD ∅ (ad2 hlt) (aX (bM (d:=.int (0-(k.natAbs:Int))) ∅) ?_)
   have ek:0-(k.natAbs:Int)=k:=by omega
   rw[ek]
   exact cy (ai rfl (ai rfl aG)) fin
  ·have hge:¬ k*cf a b c d<0:=by have:=ac8 q pos;omega
   refine aM ∅ (aa1 hge) ?_
   have ek:(k.natAbs:Int)=k:=by omega
   rw[ek]
   exact cy (ai rfl (ai rfl aG)) fin
noncomputable def rk:Fx:=Tb [] [] BL IL ML TL aN
noncomputable def gZ:List D->Rs D:=bw rk (ae (ah 50)) ["number"] (ak (ah 50))
theorem Nu(q:Qd):ag (gZ [dq q]) (dv (eV q)):=by
 unfold eV
 by_cases h:q.2.1=0
 ·rw[if_pos h]
  exact bC (aX ∅ (bW (bP (mT ∅ (fun _=>∅) (fun z=>absurd (h:q.2.1=0) (by simpa [di]using z))))))
 ·rw[if_neg h]
  exact bC (aX ∅ (bW (bP (mT ∅ (fun z=>absurd (by simpa [di]using z) h) (fun _=>∅)))))
noncomputable def yP:Fx:=Tb [("upright_axis", gZ),("plain_product", dP)] [] BL IL ML TL aN
noncomputable def fP:List D->Rs D:=bw yP (ae (ah 49)) ["number"] (ak (ah 49))
theorem Nw(bq:gn q)(bu:gn (aq (eV q))):ag (fP [dq q]) (.tup [dv (eV q),dv (aI q (aq (eV q))).2]):=by
 have h:=Nu q
 generalize eV q=u at *
 exact bC (aX (bM (ax ∅ h)) (bW (bP ∅)))
noncomputable def vI:Fx:=Tb [("table_of", fQ)] [] BL IL ML TL aN
noncomputable def gH:List D->Rs D:=bw vI (ae (ah 41)) ["axis"] (ak (ah 41))
theorem KZ(hk:k≠0)(p:Pm 0 b c d)(hT:okT (([k*0,k*b,k*c,k*d]:List Int).map D.int))(kb:k.natAbs<cH)(hb:b.natAbs<=2 ^ 140)(hc:c.natAbs<=2 ^ 140)(hd:d.natAbs<=2 ^ 140):ag (gH [d3 (k*b) (k*c) (k*d)]) (xw 0 b c d):=by
 have h:=xt hk p hT kb (show(0:Int).natAbs<=2 ^ 140 from ZY _) hb hc hd
 rw[ae6]at h
 exact bC (bW (bP (ax ∅ h)))
theorem Iv(x y z K:Int)(hK:fL K):ag (fZ [d3 x y z,.int K]) (d3 (x.fdiv K) (y.fdiv K) (z.fdiv K)):=cQ rfl (by walk_at "ob")
theorem Hz(hk:k≠0)(p:Pm 0 b c d)(hT:okT (([k*b,k*c,k*d]:List Int).map D.int))(kb:k.natAbs<cH):ag (fi [d3 (k*b) (k*c) (k*d)]) (d3 b c d):=by
 have hn:¬ (k*b=0/\k*c=0/\k*d=0):=fun z=>p.ne ⟨rfl,(ab0.mp z.1).resolve_left hk,(ab0.mp z.2.1).resolve_left hk,(ab0.mp z.2.2).resolve_left hk⟩
 have hg:jB (([k*b,k*c,k*d]:List Int).map D.int)=k.natAbs:=by rw[jV];exact Kw hk p
 have hl:=Gp hk hn
 have pos:=p.pos
 have fd:∀x:Int,(k*x).fdiv k=x:=fun x=>ah1 x hk
 have fin:=Iv (k*b) (k*c) (k*d) k ⟨hk,kb⟩
 rw[fd,fd,fd]at fin
 have hD:ag (df [d3 (k*b) (k*c) (k*d)]) (.int (k.natAbs:Nat)):=⟨[okT (([k*b,k*c,k*d]:List Int).map D.int)],by rw[<- hg];rfl,hT,True.intro⟩
 have k0:¬ ((k.natAbs:Nat):Int)=0:=by omega
 refine bC (aX (bM (d:=.int (k.natAbs:Nat)) (ax ∅ hD)) (aM ∅ ((di _ _).trans (aa1 k0)) (aX (bM (d:=.int (k*cf 0 b c d)) (fK (k:=0) (j8 (out:=((([k*b,k*c,k*d]:List Int).filter fun t => !decide (t=0)).map D.int)) (j:=0) ∅ (ds:=([k*b,k*c,k*d]:List Int).map D.int) rfl ⟨ab2 rfl,.inl rfl⟩ (fI (g:=D.int) (f:=D.int) (c:=fun t => !decide (t=0)) (fun x _=>?_)) (ZY 1)) ∅ rfl hl)) ?_)))
 ·refine ag.bnd (a:=!decide (x=0)) (gU (b:=!decide (x=0)) (c:=!decide (x=0)) (∅.bl (by show(!eqD (.int x) (.int 0))=_;rw[di])) (fun h=>by rw[h];exact lY) id) ?_
  cases decide (x=0)
  ·exact ag.bnd ∅ cS
  ·exact cS
 ·refine bW (bP (ax (aL ∅ (aL (mT (r:=(.int k,0)) ∅ (fun ht=>?_) (fun hf=>?_)) bI)) fin))
  ·have hlt:0<k*cf 0 b c d:=af9 ht
   have kp:0<k:=by
    rcases af2 hk with q|q
    ·have:=ag9 q pos;omega
    ·exact q
   exact ag.eq ∅ (by rw[show((k.natAbs:Nat):Int)=k by omega];rfl)
  ·have hge:¬ 0<k*cf 0 b c d:=of_decide_eq_false hf
   have kp:k<0:=by
    rcases af2 hk with q|q
    ·exact q
    ·have:=ac8 q pos;omega
   exact ag.eq ∅ (by show(D.int (-((k.natAbs:Nat):Int)),0)=_;rw[show -((k.natAbs:Nat):Int)=k by omega])
noncomputable def ly:Fx:=Tb [("upright", fi),("half_table", gH)] [] BL IL ML TL aN
noncomputable def b9:List D->Rs D:=iM ly (ae (aD (ah 39) 0)) ["self", "axis"] (uP (aD (ah 39) 0)) "HalfTurn" ["word", "row", "fractions"]
theorem Au(hk:k≠0)(p:fD (aq u))(hT:okT (([k*u.1,k*u.2.1,k*u.2.2]:List Int).map D.int))(hT4:okT (([k*0,k*u.1,k*u.2.1,k*u.2.2]:List Int).map D.int))(kb:k.natAbs<cH)(hb:u.1.natAbs<=2 ^ 140)(hc:u.2.1.natAbs<=2 ^ 140)(hd:u.2.2.natAbs<=2 ^ 140):ag (b9 [d3 (k*u.1) (k*u.2.1) (k*u.2.2)]) (.obj "HalfTurn" ["word", "row", "fractions"] [.str "half", dv u,xw 0 u.1 u.2.1 u.2.2]) :=
 An rfl (aL ∅ (aL (ax ∅ (Hz hk p hT kb)) (aL (ax ∅ (KZ hk p hT4 kb hb hc hd)) bI))) rfl rfl rfl
noncomputable def vH:Fx:=jb [("two_axes", fP),("number_of", dn),("HalfTurn", b9)] [] BL IL ML TL aN [] [("Turn", [("table", aZ)]),("HalfTurn", [("table", aZ)]),("Mirror", [("table", aZ)])]
noncomputable def gF:List D->Rs D:=bw vH (ae (ah 47)) ["turn"] (ak (ah 47))
theorem O0{f:V3}{r1 r2:D}(hN:ag (dn [(tq Q).low.D]) (dq Q))(h2:ag (fP [dq Q]) (.tup [dv f,dv s]))(hH1:ag (b9 [dv f]) (.obj "HalfTurn" ["word", "row", "fractions"] [w1,r1,t1]))(hH2:ag (b9 [dv s]) (.obj "HalfTurn" ["word", "row", "fractions"] [w2,r2,t2])):ag (gF [gr Q]) (.tup [.obj "HalfTurn" ["word", "row", "fractions"] [w1,r1,t1],.obj "HalfTurn" ["word", "row", "fractions"] [w2,r2,t2]]) :=
 bC (aX (o8 (ax (aL (ax (aL (cE ∅ ∅ rfl (d:=(tq Q).low.D) ∅) bI) hN) bI) h2) rfl (.inl rfl) rfl) (bW (bP (u7 (aL (ax ∅ hH1) (aL (ax ∅ hH2) bI)) (ab2 rfl)))))
noncomputable def yS:Fx:=Tb [] [] BL IL ML TL aN
noncomputable def pV:List D->Rs D:=bw yS (ae (ah 7)) ["one"] (ak (ah 7))
noncomputable def np:Fx:=Tb [("half_table", gH),("upright", fi),("opposite", pV)] [] BL IL ML TL aN
noncomputable def cw:List D->Rs D:=iL np (ae (aD (ah 40) 0)) ["self", "axis"] "n" "rows" (WF ((ak (aD (ah 40) 0)).getD 0 (.Pass ⟨0,0,0,0⟩))) (Ao (aD (ah 40) 0)) "Mirror" ["word", "row", "fractions"]
theorem DO(hk:k≠0)(p:fD (aq u))(hT:okT (([k*u.1,k*u.2.1,k*u.2.2]:List Int).map D.int))(hT4:okT (([k*0,k*u.1,k*u.2.1,k*u.2.2]:List Int).map D.int))(kb:k.natAbs<cH)(hb:u.1.natAbs<=2 ^ 140)(hc:u.2.1.natAbs<=2 ^ 140)(hd:u.2.2.natAbs<=2 ^ 140):ag (cw [d3 (k*u.1) (k*u.2.1) (k*u.2.2)]) (.obj "Mirror" ["word", "row", "fractions"] [.str "mirror", dv u,.tup [.int (tq (aq u)).low.n,.tup [d3 (-(tq (aq u)).low.a) (-(tq (aq u)).low.b) (-(tq (aq u)).low.c),d3 (-(tq (aq u)).low.d) (-(tq (aq u)).low.e) (-(tq (aq u)).low.f),d3 (-(tq (aq u)).low.g) (-(tq (aq u)).low.h) (-(tq (aq u)).low.i)]]]) :=
 KR rfl (ax ∅ (KZ hk p hT4 kb hb hc hd)) rfl (aL ∅ (aL (ax ∅ (Hz hk p hT kb)) (aL ∅ bI))) rfl rfl rfl
noncomputable def Bg:Fx:=jb [("two_axes", fP),("number_of", dn),("Mirror", cw)] [] BL IL ML TL aN [] [("Turn", [("table", aZ)]),("HalfTurn", [("table", aZ)]),("Mirror", [("table", aZ)])]
noncomputable def jq:List D->Rs D:=bw Bg (ae (ah 48)) ["turn"] (ak (ah 48))
theorem Ox{f:V3}{r1 r2:D}(hN:ag (dn [(tq Q).low.D]) (dq Q))(h2:ag (fP [dq Q]) (.tup [dv f,dv s]))(hH1:ag (cw [dv f]) (.obj "Mirror" ["word", "row", "fractions"] [w1,r1,t1]))(hH2:ag (cw [dv s]) (.obj "Mirror" ["word", "row", "fractions"] [w2,r2,t2])):ag (jq [gr Q]) (.tup [.obj "Mirror" ["word", "row", "fractions"] [w1,r1,t1],.obj "Mirror" ["word", "row", "fractions"] [w2,r2,t2]]) :=
 bC (aX (o8 (ax (aL (ax (aL (cE ∅ ∅ rfl (d:=(tq Q).low.D) ∅) bI) hN) bI) h2) rfl (.inl rfl) rfl) (bW (bP (u7 (aL (ax ∅ hH1) (aL (ax ∅ hH2) bI)) (ab2 rfl)))))
noncomputable def wf:Fx:=Tb [("added_products", fk)] [] BL IL ML TL aN
noncomputable def nE:List D->Rs D:=bw wf (ae (ah 28)) ["rows", "other"] (ak (ah 28))
noncomputable def Da:Fx:=Tb [("lowest", kZ),("each_with", nE)] [] BL IL ML TL aN
noncomputable def og:List D->Rs D:=kB Da (ae (ah 27)) ["first", "second"] ((ak (ah 27)).take 2) (Kl ((ak (ah 27)).getD 2 (.Pass ⟨0,0,0,0⟩))) (Kk ((ak (ah 27)).getD 2 (.Pass ⟨0,0,0,0⟩))) ((ak (ah 27)).drop 3)
theorem Eg{A B:T9}{k:Nat}(ha:0<A.n)(hb:0<B.n)(bA:A.bd k)(bB:B.bd m)(hk:k+m<=990):ag (og [A.D,B.D]) (A.bh B).low.D:=by
 have hkm:∀{x:Int},x.natAbs<=2 ^ k->x.natAbs<cH:=fun h=>aQ h (by omega)
 have hmm:∀{x:Int},x.natAbs<=2 ^ m->x.natAbs<cH:=fun h=>aQ h (by omega)
 have An':=hkm (bA A.n (by simp[T9.l]))
 have Bn':=hmm (bB B.n (by simp[T9.l]))
 have Aa':=hkm (bA A.a (by simp[T9.l]))
 have Ba':=hmm (bB B.a (by simp[T9.l]))
 have Ab':=hkm (bA A.b (by simp[T9.l]))
 have Bb':=hmm (bB B.b (by simp[T9.l]))
 have Ac':=hkm (bA A.c (by simp[T9.l]))
 have Bc':=hmm (bB B.c (by simp[T9.l]))
 have Ad':=hkm (bA A.d (by simp[T9.l]))
 have Bd':=hmm (bB B.d (by simp[T9.l]))
 have Ae':=hkm (bA A.e (by simp[T9.l]))
 have Be':=hmm (bB B.e (by simp[T9.l]))
 have Af':=hkm (bA A.f (by simp[T9.l]))
 have Bf':=hmm (bB B.f (by simp[T9.l]))
 have Ag':=hkm (bA A.g (by simp[T9.l]))
 have Bg':=hmm (bB B.g (by simp[T9.l]))
 have Ah':=hkm (bA A.h (by simp[T9.l]))
 have Bh':=hmm (bB B.h (by simp[T9.l]))
 have Ai':=hkm (bA A.i (by simp[T9.l]))
 have Bi':=hmm (bB B.i (by simp[T9.l]))
 have hbd:=T9.bd_bh bA bB
 have hL:=DP (T9.bhn ha hb) (aQ (hbd _ (A.bh B).mem_n) (by omega)) (T9.okT (by omega) hbd)
 exact JI rfl ∅ ∅ (cQ rfl ⟨rfl,True.intro⟩) (bW (bP (ax ∅ hL)))
noncomputable def Bj:Fx:=jb [("half_turns", gF),("mirrors", jq),("behind", og)] [] BL IL ML TL aN [] [("Turn", [("table", aZ)]),("HalfTurn", [("table", aZ)]),("Mirror", [("table", aZ)])]
noncomputable def mz:List D->Rs D:=bw Bj (ae (ah 74)) ["_law_turn", "_law_table"] (ak (ah 74))
theorem QH(hx:x≠0):0<x*x:=by
 rcases af2 hx with z|z
 ·exact Int.mul_pos_of_neg_of_neg z z
 ·exact ac8 z z
theorem Aa(hc:c≠0){Z:Qd}(hZ:oH Z):(tq (kq c Z)).low=(tq Z).low:=by
 rw[show tq (kq c Z)=(tq Z).map (c*c * ·)from wz c Z,T9.low_mul (QH hc) (fV hZ)]
theorem Qa(hk:k≠0)(p:fD (aq u))(hm:m<=140)(h:eh m (k*u.1,k*u.2.1,k*u.2.2)):okT (([k*u.1,k*u.2.1,k*u.2.2]:List Int).map D.int)/\okT (([k*0,k*u.1,k*u.2.1,k*u.2.2]:List Int).map D.int)/\k.natAbs<cH/\eh m u:=by
 obtain⟨h1,h2,h3⟩:=h.all
 have e:dG (2 ^ m) (kq k (aq u)):=⟨by show(k*0).natAbs<=_;rw[ae6];exact ZY _,h1,h2,h3⟩
 refine⟨lO (k:=m) (by omega) (ab2 rfl) (by
  intro t ht
  simp only[ZT,ab3,ae5]at ht
  rcases ht with rfl|rfl|rfl
  ·exact h1
  ·exact h2
  ·exact h3),lT (by omega) e,aQ (yf p.ne e) (by omega),?_⟩
 have:=xK hk e
 exact eJ ⟨this.2.1,this.2.2.1,this.2.2.2⟩
theorem F2(pQ:fD Q)(lq:dG (2 ^ 67) Q):ag (mz [gr Q,(tq Q).low.D]) (.bl true):=by
 have up:∀{q:Qd} {m j:Nat},m<=j->dG (2 ^ m) q->dG (2 ^ j) q:=fun hm h=>uI h (aa6 (by decide) hm)
 have bQ:gn Q:=kr lq (ae4 (by decide) (by decide))
 have hNo:=oI pQ (up (by decide) lq)
 have lu:dG (2 ^ 67) (aq (eV Q)):=by
  obtain⟨h1,h2,h3,h4⟩:=lq
  unfold eV
  split
  ·exact⟨by decide,by decide,by decide,by decide⟩
  ·exact⟨ZY _,by show(-Q.2.2.1).natAbs<=_;rw[ad6];exact h3,h2,ZY _⟩
 have ls:dG (2 ^ 136) (aI Q (aq (eV Q))):=N2 lq lu
 have hTwo:=Nw bQ (kr lu (ae4 (by decide) (by decide)))
 obtain⟨k1,k2,u,v,hk1,hk2,eu,ev,pu,pv,c,l,hc,el⟩:=HD (q:=Q) pQ.ne
 have bu1:eh 67 (eV Q):=eJ ⟨lu.2.1,lu.2.2.1,lu.2.2.2⟩
 have bs1:eh 136 (aI Q (aq (eV Q))).2:=eJ ⟨ls.2.1,ls.2.2.1,ls.2.2.2⟩
 rw[eu]at bu1
 rw[ev]at bs1
 obtain⟨t1,t2,t3,t4⟩:=Qa hk1 pu (by decide) bu1
 obtain⟨s1,s2,s3,s4⟩:=Qa hk2 pv (by decide) bs1
 obtain⟨u1,u2,u3⟩:=(t4.mono (show 67<=140 by decide)).all
 obtain⟨v1,v2,v3⟩:=(s4.mono (show 136<=140 by decide)).all
 have hH1:=Au hk1 pu t1 t2 t3 u1 u2 u3
 rw[show d3 (k1*u.1) (k1*u.2.1) (k1*u.2.2)=dv (eV Q) by rw[eu]]at hH1
 have hH2:=Au hk2 pv s1 s2 s3 v1 v2 v3
 rw[show d3 (k2*v.1) (k2*v.2.1) (k2*v.2.2)=dv ((aI Q (aq (eV Q))).2) by rw[ev]]at hH2
 have hM1:=DO hk1 pu t1 t2 t3 u1 u2 u3
 rw[show d3 (k1*u.1) (k1*u.2.1) (k1*u.2.2)=dv (eV Q) by rw[eu]]at hM1
 have hM2:=DO hk2 pv s1 s2 s3 v1 v2 v3
 rw[show d3 (k2*v.1) (k2*v.2.1) (k2*v.2.2)=dv ((aI Q (aq (eV Q))).2) by rw[ev]]at hM2
 have hHs:=O0 hNo hTwo hH1 hH2
 have hMs:=Ox hNo hTwo hM1 hM2
 have lau:dG (2 ^ 67) (aq u):=⟨ZY _,(t4 0),(t4 1),(t4 2)⟩
 have lav:dG (2 ^ 136) (aq v):=⟨ZY _,(s4 0),(s4 1),(s4 2)⟩
 have pA:=fV pu.ne
 have pB:=fV pv.ne
 have nz:=zI pv.ne pu.ne
 have hl0:l≠0:=by
  intro z
  subst z
  apply nz
  have e:=el
  unfold kq at e
  simp only[Int.zero_mul,Prod.mk.injEq]at e
  obtain⟨e1,e2,e3,e4⟩:=e
  exact⟨(ab0.mp e1).resolve_left hc,(ab0.mp e2).resolve_left hc,(ab0.mp e3).resolve_left hc,(ab0.mp e4).resolve_left hc⟩
 have eL:((tq (aq u)).low.bh (tq (aq v)).low).low=(tq Q).low:=by
  rw[T9.lows pA pB,<- zj,<- Aa hc nz,el,Aa hl0 pQ.ne]
 have b1:(tq (aq u)).low.bd 137:=T9.bd_low pA (mG lau)
 have b2:(tq (aq v)).low.bd 275:=T9.bd_low pB (mG lav)
 have g1:=Eg (T9.lown pA) (T9.lown pB) b1 b2 (by decide)
 have g2:=Eg (A:=(tq (aq u)).low.mir) (B:=(tq (aq v)).low.mir) (T9.lown pA) (T9.lown pB) (T9.bd_mir b1) (T9.bd_mir b2) (by decide)
 rw[T9.bh_mir]at g2
 rw[eL]at g1 g2
 have cn:ag (fS .NotEq (tq Q).low.D (tq Q).low.D) false:=ag.eq ∅ (by show(!Sp.eqD (tq Q).low.D (tq Q).low.D)=false;rw[T9.eqD];rfl)
 have hHs:ag (gF [gr Q]) (.tup [.obj "HalfTurn" ["word", "row", "fractions"] [.str "half", dv u,(tq (aq u)).low.D],.obj "HalfTurn" ["word", "row", "fractions"] [.str "half", dv v,(tq (aq v)).low.D]]):=hHs
 have hMs:ag (jq [gr Q]) (.tup [.obj "Mirror" ["word", "row", "fractions"] [.str "mirror", dv u,(tq (aq u)).low.mir.D],.obj "Mirror" ["word", "row", "fractions"] [.str "mirror", dv v,(tq (aq v)).low.mir.D]]):=hMs
 generalize (tq (aq u)).low.D=A1 at *
 generalize (tq (aq v)).low.D=B1 at *
 generalize (tq (aq u)).low.mir.D=A2 at *
 generalize (tq (aq v)).low.mir.D=B2 at *
 generalize (tq Q).low.D=R at *
 refine bC (mI [.tup [.obj "HalfTurn" ["word", "row", "fractions"] [.str "half", dv u,A1],.obj "HalfTurn" ["word", "row", "fractions"] [.str "half", dv v,B1]],.tup [.obj "Mirror" ["word", "row", "fractions"] [.str "mirror", dv u,A2],.obj "Mirror" ["word", "row", "fractions"] [.str "mirror", dv v,B2]]] (u7 (aL (ax ∅ hHs) (aL (ax ∅ hMs) bI)) (ab2 rfl)) ?_)
 refine gT (C:=bE [("_law_table", R,false)]) (P:=fun ρ=>vP _ _ _ _ _ _ _ ρ) (ai rfl aG) fun ρ s=>?_
 refine⟨_,rfl,.inl (bY (s.put _ _) (aM (cU (ax (aL (cE ∅ ∅ rfl (d:=A1) ∅) (aL (cE ∅ ∅ rfl (d:=B1) ∅) bI)) g1) ∅ cn) rfl fo) fun ρ s'=>?_)⟩
 replace s:=(show Sub (bE [("_law_table", R,false)]) ρ from ai s'.get aG)
 clear s'
 refine⟨_,rfl,.inl (bY (s.put _ _) (aM (cU (ax (aL (cE ∅ ∅ rfl (d:=A2) ∅) (aL (cE ∅ ∅ rfl (d:=B2) ∅) bI)) g2) ∅ cn) rfl fo) fun ρ s'=>?_)⟩
 exact cy (show Sub (bE [("_law_table", R,false)]) ρ from ai s'.get aG) ∅
noncomputable def wb:Fx:=Tb [] [] BL IL ML TL aN
noncomputable def wn:List D->Rs D:=bw wb (ae (ah 68)) ["_law_numbers_here"] (ak (ah 68))
noncomputable def il:List D->Rs D:=DA dQ fun p=>.ok (.int (Ia p)) [gn p]
theorem rq:∀ds r,ag (il ds) r->ag (wn ds) r:=by
 intro ds r h
 obtain⟨p,rfl,h⟩:=wD h
 obtain⟨rfl,hp,_⟩:=dZ h
 obtain⟨h1,h2,h3,h4⟩:=hp
 exact cQ rfl (by walk_at "ob")
noncomputable def we:Fx:=Tb [] [] BL IL ML TL aN
noncomputable def wo:List D->Rs D:=bw we (ae (ah 66)) ["_law_one", "_law_other_here"] (ak (ah 66))
noncomputable def jD:List D->Rs D:=t7 dQ dQ fun p q=>.ok (dq (aI p q)) [gn p,gn q]
theorem rz:∀ds r,ag (jD ds) r->ag (wo ds) r:=by
 intro ds r h
 obtain⟨p,q,rfl,h⟩:=jL h
 obtain⟨rfl,hp,hq,_⟩:=dZ h
 obtain⟨⟨a1,a2,a3,a4⟩,⟨b1,b2,b3,b4⟩,⟨c1,c2,c3,c4⟩,d1,d2,d3,d4⟩:=Ba hp hq
 exact cQ rfl (by walk_at "ob")
noncomputable def C8:Fx:=Tb [("_law_product", jD)] [] BL IL ML TL aN
noncomputable def le:List D->Rs D:=bw C8 (ae (ah 67)) ["_law_numbers_here"] (ak (ah 67))
theorem IQ{z w:Int}(hx:ci x)(hy:ci y)(hz:ci z)(hw:ci w):ag (le [.tup [.int x,.int y,.int z,.int w]]) (.lst [.lst [.int (dg x y z w),.int (c9 x y z w),.int (cZ x y z w)],.lst [.int (cP x y z w),.int (cY x y z w),.int (cK x y z w)],.lst [.int (cJ x y z w),.int (cI x y z w),.int (cX x y z w)]]):=by
 have h67:∀t:Int,ci t->t.natAbs<2 ^ 67:=fun t h=>ac0 h (by decide)
 have wp:je 67 (x,y,z,w):=⟨h67 _ hx,h67 _ hy,h67 _ hz,h67 _ hw⟩
 have wc:je 67 (x,-y,-z,-w):=⟨h67 _ hx,by show(-y).natAbs<_;rw[ad6];exact h67 _ hy,by show(-z).natAbs<_;rw[ad6];exact h67 _ hz,by show(-w).natAbs<_;rw[ad6];exact h67 _ hw⟩
 have w1:je 1 (0,1,0,0):=⟨by decide,by decide,by decide,by decide⟩
 have w2:je 1 (0,0,1,0):=⟨by decide,by decide,by decide,by decide⟩
 have w3:je 1 (0,0,0,1):=⟨by decide,by decide,by decide,by decide⟩
 have bp:=wp.bd (by decide)
 have bc:=wc.bd (by decide)
 have b1:=w1.bd (by decide)
 have b2:=w2.bd (by decide)
 have b3:=w3.bd (by decide)
 have p1:=iP wp w1
 have p2:=iP wp w2
 have p3:=iP wp w3
 have c1:=p1.bd (by decide)
 have c2:=p2.bd (by decide)
 have c3:=p3.bd (by decide)
 have q1:=(iP p1 wc).mono (show _<=150 by decide)
 have q2:=(iP p2 wc).mono (show _<=150 by decide)
 have q3:=(iP p3 wc).mono (show _<=150 by decide)
 have e00:(aI (aI (x,y,z,w) (0,1,0,0)) (x,-y,-z,-w)).2.1=dg x y z w:=by simp only[aI,dg];grind
 have e01:(aI (aI (x,y,z,w) (0,0,1,0)) (x,-y,-z,-w)).2.1=c9 x y z w:=by simp only[aI,c9];grind
 have e02:(aI (aI (x,y,z,w) (0,0,0,1)) (x,-y,-z,-w)).2.1=cZ x y z w:=by simp only[aI,cZ];grind
 have e10:(aI (aI (x,y,z,w) (0,1,0,0)) (x,-y,-z,-w)).2.2.1=cP x y z w:=by simp only[aI,cP];grind
 have e11:(aI (aI (x,y,z,w) (0,0,1,0)) (x,-y,-z,-w)).2.2.1=cY x y z w:=by simp only[aI,cY];grind
 have e12:(aI (aI (x,y,z,w) (0,0,0,1)) (x,-y,-z,-w)).2.2.1=cK x y z w:=by simp only[aI,cK];grind
 have e20:(aI (aI (x,y,z,w) (0,1,0,0)) (x,-y,-z,-w)).2.2.2=cJ x y z w:=by simp only[aI,cJ];grind
 have e21:(aI (aI (x,y,z,w) (0,0,1,0)) (x,-y,-z,-w)).2.2.2=cI x y z w:=by simp only[aI,cI];grind
 have e22:(aI (aI (x,y,z,w) (0,0,0,1)) (x,-y,-z,-w)).2.2.2=cX x y z w:=by simp only[aI,cX];grind
 refine ag.eq ∅ ?_
 show D.lst [.lst [.int ((aI (aI (x,y,z,w) (0,1,0,0)) (x,-y,-z,-w)).2.1),.int ((aI (aI (x,y,z,w) (0,0,1,0)) (x,-y,-z,-w)).2.1),.int ((aI (aI (x,y,z,w) (0,0,0,1)) (x,-y,-z,-w)).2.1)],.lst [.int ((aI (aI (x,y,z,w) (0,1,0,0)) (x,-y,-z,-w)).2.2.1),.int ((aI (aI (x,y,z,w) (0,0,1,0)) (x,-y,-z,-w)).2.2.1),.int ((aI (aI (x,y,z,w) (0,0,0,1)) (x,-y,-z,-w)).2.2.1)],.lst [.int ((aI (aI (x,y,z,w) (0,1,0,0)) (x,-y,-z,-w)).2.2.2),.int ((aI (aI (x,y,z,w) (0,0,1,0)) (x,-y,-z,-w)).2.2.2),.int ((aI (aI (x,y,z,w) (0,0,0,1)) (x,-y,-z,-w)).2.2.2)]]=D.lst [.lst [.int (dg x y z w),.int (c9 x y z w),.int (cZ x y z w)],.lst [.int (cP x y z w),.int (cY x y z w),.int (cK x y z w)],.lst [.int (cJ x y z w),.int (cI x y z w),.int (cX x y z w)]]
 rw[e00,e01,e02,e10,e11,e12,e20,e21,e22]
noncomputable def lm:Fx:=Tb [] [("MOST_FIGURES", .int 40),("FIGURES", .str (Str.ofString "0123456789"))] BL IL ML TL aN
noncomputable def iE:List D->Rs D:=bw lm (ae (ah 34)) ["text"] (ak (ah 34))
theorem Zl{l:List Nat}(hd:∀c∈l,48<=c/\c<=57)(h0:l≠[])(h40:l.length<=40)(hh:l=[48]\/∃c r,l=c::r/\c≠48):ag (iE [.str (sN l)]) (.bl true):=by
 have hz:(sN l).length<=1048576:=by rw[dU];omega
 have hl:(sN l).length=l.length:=dU l
 have h1:1<=l.length:=by
  cases l with
  | nil=>exact absurd rfl h0
  | cons a l=>simp
 have hit:items (.str (sN l))=some (l.map fun c=>D.str (sN [c])):=by
  show(if ((sN l).cps.all fun c=>decide (c<128))=true then some (Sp.sgs (sN l))else none)=_
  rw[if_pos (M2 fun c hc=>by have:=hd c hc;omega),Iw]
 have hs:ag (aE lm (ZI ((ak (ah 34)).getD 1 (.Pass ⟨0,0,0,0⟩))) false (ae (ah 34)) (fj ["text"] [.str (sN l)])) (.bl (decide (l.head?=some 48)),0):=by
  refine ∅.bl ?_
  rw[show Str.ofString "0" = sN [48] by rw[wH];rfl]
  exact Qc l 48
 refine bC (aM (fX (ee (∅.bl (aa1 (by rw[hl];omega))) (ee (∅.bl (aa1 (by rw[hl];omega))) ip))) rfl (aM (t:=false) (k:=0) (fX (gU hs ?_ fun _=>rfl)) rfl ?_))
 ·intro ht
  have ht:=af9 ht
  have e:l=[48]:=by
   rcases hh with e|⟨c,r,rfl,hc⟩
   ·exact e
   ·exfalso;apply hc;simpa using ht
  subst e
  exact gU (∅.bl (aa1 (by rw[hl];decide))) (fun z=>by cases z) fun _=>rfl
 ·refine bW (bP (vd (B:=rh) (aL (u9 (l:=l) (g:=fun c=>D.str (sN [c])) (f:=fun _=>D.bl true) ∅ hit (by show _<=40000;omega) (.inr (Af _)) fun c hc=>?_) bI) (P4 l)))
  have hc:=hd c hc
  exact⟨_,rfl,∅.bl (K7 hc.1 hc.2)⟩
noncomputable def mm:Fx:=Tb [("are_figures", iE)] [] BL IL ML TL aN
noncomputable def jc:List D->Rs D:=bw mm (ae (ah 33)) ["word"] (ak (ah 33))
theorem Qr(h:i.natAbs<10 ^ 40):ag (jc [.str (sN (cG i))]) (.int i):=by
 have hl:=lB h
 have h2:(sN (cG i)).length<=1048576:=by rw[dU];omega
 have h3:(sN (cG i)).length<=640:=by rw[dU];omega
 have ei:=Am (i:=i) (by omega)
 have hd:=AH (m:=i.natAbs) (k:=40) (by decide) h
 have hf:=Zl (iq i.natAbs) (yp _) hd (G0 _)
 have sk:PyData.strOk (sN (cG i))=true:=Oc (HC i)
 have ek:kQ (.str (sN (cG i))) (.str (Str.ofString "-0"))=true:=Cy sk (by decide +kernel)
 have st:Txt.startswith (sN (cG i)) (Str.ofString "-")=decide (i<0):=by
  rw[show Str.ofString "-" = sN [45] by rw[wH];rfl,Qc]
  exact decide_eq_decide.mpr (tU i)
 have hfig:ag (aE mm (ZJ ((ak (ah 33)).getD 0 (.Pass ⟨0,0,0,0⟩))) false (ae (ah 33)) (fj ["word"] [.str (sN (cG i))])) (.str (sN (ff i.natAbs)),0):=by
  refine mT (∅.bl st) (fun z=>?_) (fun z=>?_)
  ·have hi:=af9 z
   refine ∅.eq ?_
   show(D.str (Txt.slice (sN (cG i)) (some 1) none),0)=_
   rw[show cG i=45::ff i.natAbs from if_pos hi,Pz]
  ·have hi:=of_decide_eq_false z
   refine ∅.eq ?_
   show(D.str (sN (cG i)),0)=_
   rw[show cG i=ff i.natAbs from if_neg hi]
 have hint:ag (mZ [.str (sN (cG i))]) (.int i,0):=by
  unfold mZ;dsimp only;rw[ei]
  exact⟨_,rfl,h3,True.intro⟩
 exact bC (aX (bM hfig) (aM (fX (ee (∅.bl (by rw[Cz];exact aa1 (EK i))) (ee (Pc (ax ∅ hf) rfl) ip))) rfl (bW (bP (vd (B:=mZ) ∅ hint)))))
noncomputable def fN:Fx:=Tb [("whole_read", jc)] [] BL IL ML TL aN
noncomputable def ju:rG:=fun g=>([]:List (Str×List (Str×Int))).lookup g
noncomputable def fg:List D->Rs D:=fun ds=>match ds with
 | [.lst (w::l)]=>(match wE l with|some ns=>.ok (.tup (ns.map D.int)) [∃x,w=.str x,l=ns.map dl,ns.length<=4,∀n∈ns,n.natAbs<10 ^ 40]|none=>.st)
 | _=>.st
theorem Vx{x:Str}(hn:ns.length<=4)(h:∀n∈ns,n.natAbs<10 ^ 40):ag (fg [.lst (.str x::ns.map dl)]) (.tup (ns.map D.int)):=by
 show ag (match wE (ns.map dl)with|some ms=>Rs.ok (D.tup (ms.map D.int)) _|none=>.st) _
 rw[ui h]
 exact⟨_,rfl,⟨x,rfl⟩,rfl,hn,h,True.intro⟩
theorem Og:∀(ns ms:List Int) (i:Nat) (ρ:am),ns.length+ms.length<=4->(∀n∈ns,n.natAbs<10 ^ 40)->Sub (bE [("numbers", .lst (ms.map D.int),true)]) ρ ->
  ∃ρ',xk fN (ae (ah 43)) (O9 ((ak (ah 43)).getD 1 (.Pass ⟨0,0,0,0⟩))) (mR ((ak (ah 43)).getD 1 (.Pass ⟨0,0,0,0⟩))) (qZ i (ns.map dl)) ρ ρ'/\Sub (bE [("numbers", .lst ((ms++ns).map D.int),true)]) ρ':=by
 intro ns
 induction ns with
 | nil=>intro ms i ρ _ _ s;exact⟨ρ,.nil,by rw[ad1];exact s⟩
 | cons n ns ih =>
  intro ms i ρ hl h s
  have hw:=Qr (h n ZV)
  rw[ab1]at hl
  have hm:(ms.map D.int).length<dw:=by rw[ab6];show _<40000;omega
  obtain⟨ρ2,h2,s2⟩:=bY ((s.put (Str.ofString "place") (.int (i:Nat),false)).put (Str.ofString "word") (dl n,false)) (ss:=mR ((ak (ah 43)).getD 1 (.Pass ⟨0,0,0,0⟩))) (Φ:=fN) (sc:=ae (ah 43)) (P:=fun ρ'=>Sub (bE [("numbers", .lst ((ms++[n]).map D.int),true)]) ρ') (aX (bM (ax ∅ hw)) (aM ∅ rfl ∅)) (fun ρ' z=>ai (by rw[List.map_append];exact z.get) aG)
  obtain⟨ρ3,w,s3⟩:=ih (ms++[n]) (i+1) ρ2 (by rw[ae1,List.length_singleton];omega) (fun v hv=>h v (ZR _ hv)) s2
  refine⟨ρ3,.cons rfl h2 w,?_⟩
  rw[List.append_assoc]at s3
  exact s3
theorem nr:∀ds r,ag (fg ds) r->yW fN ju (ae (ah 43)) ["words"] (ak (ah 43)) ds r:=by
 intro ds r h
 unfold fg at h
 split at h
 ·rename_i w l
  split at h
  ·rename_i ns e
   obtain⟨rfl,⟨x,rfl⟩,rfl,hn,hb,_⟩:=dZ h
   refine⟨rfl,?_⟩
   obtain⟨ρ',hf,s⟩:=Og ns [] 1 (demL [.Subscript (.Name (Str.ofString "words") ⟨0,0,0,0⟩) (.Constant .none 0 ⟨0,0,0,0⟩) ⟨0,0,0,0⟩] (bT (fj ["words"] [.lst (.str x::ns.map dl)]) (Str.ofString "numbers") (.lst [],true))) (by simpa using hn) hb (ai rfl aG)
   have hl1:aC (([]++ns).map D.int)=true:=uO ns
   have hl2:aC (.str x::ns.map dl)=true:=tV ns
   have hsl:ag (fN.slf (.lst (.str x::ns.map dl)) (some 1) none) (.lst (kT (.str x::ns.map dl) (some 1) none),0):=∅
   rw[LH _ hn]at hsl
   refine Rd.cut 1 ∅ (Rd.forE (l:=ns.map dl) (k:=0) ?_ (tV ns) (ZY 1) rfl rfl hf (Rd.rf (.base (cy s ∅))))
   exact aL (kM ∅ ∅ ∅ (r:=(.lst (ns.map dl),0)) hsl) bI
  ·exact(aw h).elim
 ·exact(aw h).elim
noncomputable def pN:Fx:=Tb [("upright", fi),("table_of", fQ)] [] BL IL ML TL aN
noncomputable def cg:List D->Rs D:=iM pN (ae (aD (ah 38) 0)) ["self", "numbers"] (uP (aD (ah 38) 0)) "Turn" ["word", "row", "fractions"]
theorem zg(hk:k≠0)(p:Pm a b c d)(hT:okT (([k*a,k*b,k*c,k*d]:List Int).map D.int))(kb:k.natAbs<cH)(ha:a.natAbs<=2 ^ 140)(hb:b.natAbs<=2 ^ 140)(hc:c.natAbs<=2 ^ 140)(hd:d.natAbs<=2 ^ 140):ag (cg [t4 (k*a) (k*b) (k*c) (k*d)]) (kz a b c d) :=
 An rfl (aL ∅ (aL (ax ∅ (xm hk p hT kb)) (aL (ax ∅ (xt hk p hT kb ha hb hc hd)) bI))) rfl rfl rfl
noncomputable def Bk:Fx:=Tb [("Turn", cg),("HalfTurn", b9),("Mirror", cw)] [] BL IL ML TL aN
noncomputable def iy:List D->Rs D:=bw Bk (ae (ah 44)) ["word", "numbers"] (ak (ah 44))
noncomputable def wg:Fx:=Tb [("numbers_read", fg),("deed_by", iy)] [] BL IL ML TL aN
noncomputable def mE:rG:=fun g=>([("WORDS", [("turn", 4),("half", 3),("mirror", 3)])]:List (Str×List (Str×Int))).lookup g
noncomputable def ww(w:Str)(n:Nat):Prop:=(w = "turn" /\ n=4)\/(w = "half" /\ n=3)\/(w = "mirror" /\ n=3)
theorem ww.len{w:Str}{n:Nat}(h:ww w n):n<=4/\n≠0/\w.cps.toList.length<=43/\fq w.cps.toList/\∀c∈w.cps.toList,c<128:=by
 rcases h with⟨rfl,rfl⟩|⟨rfl,rfl⟩|⟨rfl,rfl⟩
 ·exact⟨by decide,by decide,by decide +kernel,by unfold fq;decide +kernel,by decide +kernel⟩
 ·exact⟨by decide,by decide,by decide +kernel,by unfold fq;decide +kernel,by decide +kernel⟩
 ·exact⟨by decide,by decide,by decide +kernel,by unfold fq;decide +kernel,by decide +kernel⟩
noncomputable def fx:List D->Rs D:=fun ds=>match ds with
 | [.str x]=>(match Txt.split x (Str.ofString " ")with
  | w::ws=>(match wE (ws.map D.str)with
   | some ns=>(Rs.ok () [ww w ns.length,x=sN (jn (w.cps.toList::ns.map cG)),∀n∈ns,n.natAbs<10 ^ 40]).bnd fun _=>iy [.str w,.tup (ns.map D.int)]
   | none=>.st)
  | []=>.st)
 | _=>.st
theorem wv{w:Str}(hw:ww w ns.length):∀v∈w.cps.toList::ns.map cG,fq v:=by
 intro v hv
 rcases ZT.mp hv with rfl|hv
 ·exact hw.len.2.2.2.1
 ·obtain⟨n,hn,rfl⟩:=ae2.mp hv
  exact EJ n
theorem Hw{w:Str}(hw:ww w ns.length)(h:∀n∈ns,n.natAbs<10 ^ 40):∀v∈w.cps.toList::ns.map cG,v.length<=43:=by
 intro v hv
 rcases ZT.mp hv with rfl|hv
 ·exact hw.len.2.2.1
 ·obtain⟨n,hn,rfl⟩:=ae2.mp hv
  have:=lB (h n hn);omega
theorem WO{w:Str}{d:D}(hw:ww w ns.length)(h:∀n∈ns,n.natAbs<10 ^ 40)(hd:ag (iy [.str w,.tup (ns.map D.int)]) d):ag (fx [.str (sN (jn (w.cps.toList::ns.map cG)))]) d:=by
 unfold fx
 dsimp only
 rw[show Txt.split (sN (jn (w.cps.toList::ns.map cG))) (Str.ofString " ")=w::(ns.map cG).map sN by rw[xD,t6 (by intro z;cases z) (wv hw),ac4,<- jK]]
 dsimp only
 rw[show((ns.map cG).map sN).map D.str=ns.map dl by rw[ah9,ah9];rfl,ui h]
 dsimp only
 exact ag.bnd ⟨_,rfl,hw,rfl,h,True.intro⟩ hd
theorem rB:∀ds r,ag (fx ds) r->yW wg mE (ae (ah 42)) ["text"] (ak (ah 42)) ds r:=by
 intro ds r h
 unfold fx at h
 split at h
 ·rename_i x
  split at h
  ·rename_i w ws e1
   split at h
   ·rename_i ns e2
    obtain⟨u,h',hd⟩:=az h
    obtain⟨_,hw,rfl,hb,_⟩:=dZ h'
    clear h h' e1 e2
    have hs:=Fv (ws:=w.cps.toList::ns.map cG) (by intro z;cases z) (wv hw) (by rw[ab1,ab6];have:=hw.len.1;omega) (Hw hw hb)
    rw[ac4,<- jK,ah9]at hs
    have hn:=Vx (x:=w) hw.len.1 hb
    refine⟨rfl,Rd.cut 1 (aX (bM (AB ∅ ∅ hs)) fo) ?_⟩
    clear hs
    generalize sN (jn (w.cps.toList::ns.map cG))=x at *
    rcases hw with⟨rfl,hl⟩|⟨rfl,hl⟩|⟨rfl,hl⟩
    ·obtain⟨a,b,c,d,rfl⟩:=ZG hl
     have hll:aC [.str (Str.ofString "turn"),dl a,dl b,dl c,dl d]=true:=rfl
     refine Rd.ifK (x:=Str.ofString "turn") (t:=false) rfl ∅ (by decide +kernel) rfl (Rd.rf (.base fo)) (Rd.setK (x:=Str.ofString "turn") (i:=4) rfl ∅ (fun _ _=>rfl) (by decide +kernel) rfl rfl (Rd.rf (.base ?_)))
     exact aX (bM (ax (aL (kM ∅ ∅ ∅ (r:=(.lst [.str (Str.ofString "turn"),dl a,dl b,dl c,dl d],0)) ∅) bI) hn)) (aM ∅ rfl (bW (bP (ax ∅ hd))))
    ·obtain⟨a,b,c,rfl⟩:=Qf hl
     have hll:aC [.str (Str.ofString "half"),dl a,dl b,dl c]=true:=rfl
     refine Rd.ifK (x:=Str.ofString "half") (t:=false) rfl ∅ (by decide +kernel) rfl (Rd.rf (.base fo)) (Rd.setK (x:=Str.ofString "half") (i:=3) rfl ∅ (fun _ _=>rfl) (by decide +kernel) rfl rfl (Rd.rf (.base ?_)))
     exact aX (bM (ax (aL (kM ∅ ∅ ∅ (r:=(.lst [.str (Str.ofString "half"),dl a,dl b,dl c],0)) ∅) bI) hn)) (aM ∅ rfl (bW (bP (ax ∅ hd))))
    ·obtain⟨a,b,c,rfl⟩:=Qf hl
     have hll:aC [.str (Str.ofString "mirror"),dl a,dl b,dl c]=true:=rfl
     refine Rd.ifK (x:=Str.ofString "mirror") (t:=false) rfl ∅ (by decide +kernel) rfl (Rd.rf (.base fo)) (Rd.setK (x:=Str.ofString "mirror") (i:=3) rfl ∅ (fun _ _=>rfl) (by decide +kernel) rfl rfl (Rd.rf (.base ?_)))
     exact aX (bM (ax (aL (kM ∅ ∅ ∅ (r:=(.lst [.str (Str.ofString "mirror"),dl a,dl b,dl c],0)) ∅) bI) hn)) (aM ∅ rfl (bW (bP (ax ∅ hd))))
   ·exact(aw h).elim
  ·exact(aw h).elim
 ·exact(aw h).elim
noncomputable def Be:Fx:=Tb [("number_of", dn),("Turn", cg)] [] BL IL ML TL aN
noncomputable def mw:List D->Rs D:=bw Be (ae (ah 46)) ["table"] (ak (ah 46))
noncomputable def wl:Fx:=jb [] [] BL IL ML TL aN [("Turn", ["fractions"]),("HalfTurn", ["fractions"]),("Mirror", ["fractions"])] [("Turn", [("table", aZ)]),("HalfTurn", [("table", aZ)]),("Mirror", [("table", aZ)])]
noncomputable def dM:List D->Rs D:=bw wl (ae (aD (ah 37) 3)) ["self", "other"] (ak (aD (ah 37) 3))
noncomputable def sH:Fx:=jb [] [] BL IL ML TL aN [("Turn", ["row"]),("HalfTurn", ["row"]),("Mirror", ["row"])] []
noncomputable def iF:List D->Rs D:=bw sH (ae (aD (ah 38) 1)) ["self"] (ak (aD (ah 38) 1))
noncomputable def sI:Fx:=jb [("plain_product", dP),("Turn", cg)] [] BL IL ML TL aN [("Turn", ["row"]),("HalfTurn", ["row"]),("Mirror", ["row"])] [("Turn", [("number", iF)])]
noncomputable def iG:List D->Rs D:=bw sI (ae (aD (ah 38) 3)) ["self", "first"] (ak (aD (ah 38) 3))
theorem HK{r:Qd}{m:Int}(hm:m≠0)(e:aI p q=(m*r.1,m*r.2.1,m*r.2.2.1,m*r.2.2.2))(pr:Pm r.1 r.2.1 r.2.2.1 r.2.2.2)(mb:m.natAbs<cH)(bp:gn p)(bq:gn q)(hT:okT (([m*r.1,m*r.2.1,m*r.2.2.1,m*r.2.2.2]:List Int).map D.int))(h1:r.1.natAbs<=2 ^ 140)(h2:r.2.1.natAbs<=2 ^ 140)(h3:r.2.2.1.natAbs<=2 ^ 140)(h4:r.2.2.2.natAbs<=2 ^ 140):ag (iG [kz p.1 p.2.1 p.2.2.1 p.2.2.2,kz q.1 q.2.1 q.2.2.1 q.2.2.2]) (kz r.1 r.2.1 r.2.2.1 r.2.2.2):=by
 have hP:ag (dP [dq p,dq q]) (dq (aI p q)):=∅
 rw[e]at hP
 have hT':=zg hm pr hT mb h1 h2 h3 h4
 exact bC (bW (bP (ax (aL (ax (aL ∅ (aL (cE ∅ ∅ rfl (d:=dq q) ∅) bI)) hP) bI) hT')))
noncomputable def yR:Fx:=Tb [] [] BL IL ML TL aN
noncomputable def kY:List D->Rs D:=bw yR (ae (ah 32)) ["numbers"] (ak (ah 32))
theorem Sy(hn:ns.length<=4)(h:∀n∈ns,n.natAbs<10 ^ 40):ag (kY [.tup (ns.map D.int)]) (.str (sN (jn (ns.map cG)))):=by
 have hj:=KK (ws:=ns.map cG) (by rw[ab6];omega) (by
  intro v hv
  obtain⟨n,hn,rfl⟩:=ae2.mp hv
  have:=lB (h n hn);omega)
 rw[ah9]at hj
 refine bC (bW (bP (AB ∅ (aL (u9 (l:=ns) (g:=D.int) (f:=dl) (d:=.tup (ns.map D.int)) ∅ rfl (by show _<=40000;omega) (.inl (uO ns)) fun n hm=>?_) bI) hj)))
 have h1:=Km (h n hm)
 refine⟨_,rfl,(∅).eq ?_⟩
 show(D.str (Str.ofString (toString n)),0)=(dl n,0)
 rw[Nv];rfl
noncomputable def wk:Fx:=jb [("row_text", kY)] [] BL IL ML TL aN [("Turn", ["word", "row"]),("HalfTurn", ["word", "row"]),("Mirror", ["word", "row"])] []
noncomputable def eT:List D->Rs D:=bw wk (ae (aD (ah 37) 4)) ["self"] (ak (aD (ah 37) 4))
noncomputable abbrev Qg(C:Str)(w:List Nat)(r t:D):D:=.obj C ["word", "row", "fractions"] [.str (sN w),r,t]
theorem Gv(w:List Nat){ws:List (List Nat)}(h:ws≠[]):jn (w::ws)=w++(32::jn ws):=by
 cases ws with
 | nil=>exact absurd rfl h
 | cons a l=>show w++(32::a++_)=_;rfl
theorem Qs{C:Str}(hC:C = "Turn" \/ C = "Mirror" \/ C = "HalfTurn"){w:List Nat}(h0:ns≠[])(hw:w.length<=43)(hn:ns.length<=4)(h:∀n∈ns,n.natAbs<10 ^ 40)(t:D):ag (eT [Qg C w (.tup (ns.map D.int)) t]) (.str (sN (jn (w::ns.map cG)))):=by
 have hr:=Sy hn h
 have hj:=DZ (ws:=ns.map cG) (by
  intro v hv
  obtain⟨n,hn,rfl⟩:=ae2.mp hv
  have:=lB (h n hn);omega)
 rw[ab6]at hj
 have b1:ag (mi .Add (.str (sN w)) (.str (Str.ofString " ")) 0 0) (.str (sN (w++[32])),0):=by
  rw[xD]
  refine ag.eq ⟨_,rfl,by rw[dU,dU];show _+1<=40000;omega,True.intro⟩ ?_
  rw[jM]
 have b2:ag (mi .Add (.str (sN (w++[32]))) (.str (sN (jn (ns.map cG)))) 0 0) (.str (sN (jn (w::ns.map cG))),0):=by
  refine ag.eq ⟨_,rfl,by rw[dU,dU,ae1];show _+1+_<=40000;omega,True.intro⟩ ?_
  rw[jM,Gv w (by intro z;exact h0 (List.map_eq_nil_iff.mp z)),List.append_assoc];rfl
 rcases hC with rfl|rfl|rfl
 ·exact bC (bW (bP (gx (k:=0) (j:=0) (gx (k:=0) (j:=0) ∅ ∅ b1) (ax ∅ hr) b2)))
 ·exact bC (bW (bP (gx (k:=0) (j:=0) (gx (k:=0) (j:=0) ∅ ∅ b1) (ax ∅ hr) b2)))
 ·exact bC (bW (bP (gx (k:=0) (j:=0) (gx (k:=0) (j:=0) ∅ ∅ b1) (ax ∅ hr) b2)))
noncomputable def wj:Fx:=jb [("other_signed", fO),("Turn", cg)] [] BL IL ML TL aN [("Turn", ["row"]),("HalfTurn", ["row"]),("Mirror", ["row"])] []
noncomputable def jG:List D->Rs D:=bw wj (ae (aD (ah 38) 2)) ["self"] (ak (aD (ah 38) 2))
noncomputable def pP:Fx:=jb [("HalfTurn", b9)] [] BL IL ML TL aN [("Turn", ["row"]),("HalfTurn", ["row"]),("Mirror", ["row"])] []
noncomputable def jt:List D->Rs D:=bw pP (ae (aD (ah 39) 2)) ["self"] (ak (aD (ah 39) 2))
noncomputable def sJ:Fx:=jb [("Mirror", cw)] [] BL IL ML TL aN [("Turn", ["row"]),("HalfTurn", ["row"]),("Mirror", ["row"])] []
noncomputable def ln:List D->Rs D:=bw sJ (ae (aD (ah 40) 2)) ["self"] (ak (aD (ah 40) 2))
noncomputable def P5:Fx:=jb [("_law_numbers", ge),("_law_other", jr),("table_of", fQ),("_law_parallel", gC),("base_of", js),("_law_stands", iN),("number_of", dn),("_law_told", ld),("_law_pairs", mz),("corner_number", eM),("_law_squares", il),("_law_rows", le),("deed_read", fx),("turn_of", mw),("Turn", cg)] [] BL IL ML TL aN [] [("Turn", [("same", dM),("table", aZ),("number", iF),("behind", iG),("told", eT),("back", jG)]),("HalfTurn", [("same", dM),("table", aZ),("told", eT),("back", jt)]),("Mirror", [("same", dM),("table", aZ),("told", eT),("back", ln)])]
noncomputable def tJ:List D->Rs D:=bw P5 (ae (ah 75)) ["_law_script"] (ak (ah 75))
theorem lC(hk:k≠0)(p:fD q)(hm:m<=900)(h:dG (2 ^ m) (kq k q))(hq:dG (2 ^ 140) q):ag (cg [dq (kq k q)]) (gr q) :=
 zg hk p (lT (by omega) h) (aQ (yf p.ne h) (by omega)) hq.1 hq.2.1 hq.2.2.1 hq.2.2.2
theorem MY(p:fD q)(hq:dG (2 ^ 140) q):∃k:Int,(k=1\/k = -1)/\fD (kq k (sv q))/\dG (2 ^ 140) (kq k (sv q))/\ag (jG [gr q]) (gr (kq k (sv q))):=by
 obtain⟨a,b,c,d⟩:=q
 obtain⟨h1,h2,h3,h4⟩:=hq
 obtain⟨k,hk,p'⟩:=zF p
 have k0:k≠0:=by omega
 have ka:k.natAbs=1:=by rcases hk with rfl|rfl<;>rfl
 have kn:∀x:Int,(k*x).natAbs=x.natAbs:=fun x=>by rw[ab9,ka,Nat.one_mul]
 have nn:∀x:Int,(k * -x).natAbs=x.natAbs:=fun x=>by rw[kn,ad6]
 have lq:dG (2 ^ 140) (kq k (a,-b,-c,-d)):=⟨by show(k*a).natAbs<=_;rw[kn];exact h1,by show(k * -b).natAbs<=_;rw[nn];exact h2,by show(k * -c).natAbs<=_;rw[nn];exact h3,by show(k * -d).natAbs<=_;rw[nn];exact h4⟩
 have kk:kq k (kq k (a,-b,-c,-d))=(a,-b,-c,-d):=by
  rw[x9,show k*k=1 by rcases hk with rfl|rfl<;>rfl]
  unfold kq;simp
 have t:=(lC (q:=kq k (a,-b,-c,-d)) k0 p' (m:=140) (by decide) (by rw[kk];exact⟨h1,by show(-b).natAbs<=_;rw[ad6];exact h2,by show(-c).natAbs<=_;rw[ad6];exact h3,by show(-d).natAbs<=_;rw[ad6];exact h4⟩) lq)
 rw[kk]at t
 exact⟨k,hk,p',lq,bC (bW (bP (ax (aL (ax ∅ (v:=t4 a (-b) (-c) (-d)) ∅) bI) t)))⟩
theorem zm(hk:k≠0)(p:fD q)(hm:m<=900)(h:dG (2 ^ m) (kq k q)):ag (ld [dq (kq k q)]) (dq q):=HE hk p (lT (by omega) h) (aQ (yf p.ne h) (by omega))
theorem HG(hk:k≠0)(p:fD Q):∃c:Int,0<c/\tq (kq k Q)=(tq Q).low.map (c * ·):=by
 obtain⟨g,hg,cut,_⟩:=iR Q p
 refine⟨k*k*g,ac8 (lE hk) (by omega),?_⟩
 have t:tq (kq k Q)=(tq Q).map (k*k * ·):=wz k Q
 rw[t]
 conv=>lhs;rw[cut]
 show(tq Q).low.map (fun x=>k*k*(g*x))=_
 congr 1
 funext x
 exact(ZU (k*k) g x).symm
theorem NG(hk:k≠0)(p:fD Q)(l1:dG (2 ^ 67) (kq k Q)):ag (iN [(tq Q).low.D,.int (tq (kq k Q)).n,.lst [.lst [.int (tq (kq k Q)).a,.int (tq (kq k Q)).b,.int (tq (kq k Q)).c],.lst [.int (tq (kq k Q)).d,.int (tq (kq k Q)).e,.int (tq (kq k Q)).f],.lst [.int (tq (kq k Q)).g,.int (tq (kq k Q)).h,.int (tq (kq k Q)).i]]]) (.bl true):=by
 obtain⟨c,c0,tK⟩:=HG hk p
 obtain⟨g,hg,cut,en,_,ln0,g1⟩:=iR Q p
 have lq:=xK hk l1
 have tl:=T9.bd_low (fV p.ne) (mG lq)
 have tb:=mG l1
 rw[tK]at tb⊢
 have u4:∀{t:Int} {a:Nat},a<=400->t.natAbs<=2 ^ a->t.natAbs<=2 ^ 400:=fun h h'=>ZN h' (aa6 (by decide) h)
 have hT:okT ((tq Q).low.l.map D.int):=lO (k:=137) (by decide) (ab2 rfl) (fun t ht=>tl t ht)
 generalize (tq Q).low=T at *
 have sw:∀u:Int,u*(c*T.n)=c*u*T.n:=fun u=>by grind
 exact BB (m:=T.n) (n:=c*T.n) ln0 g1 hT (u4 (by decide) (tl _ (T9.mem_n _))) (u4 (by decide) (tb _ (T9.mem_n _))) (sw _) (u4 (by decide) (tl _ (by simp[T9.l]))) (u4 (by decide) (tb _ (by simp[T9.l,T9.map]))) (sw _) (u4 (by decide) (tl _ (by simp[T9.l]))) (u4 (by decide) (tb _ (by simp[T9.l,T9.map]))) (sw _) (u4 (by decide) (tl _ (by simp[T9.l]))) (u4 (by decide) (tb _ (by simp[T9.l,T9.map]))) (sw _) (u4 (by decide) (tl _ (by simp[T9.l]))) (u4 (by decide) (tb _ (by simp[T9.l,T9.map]))) (sw _) (u4 (by decide) (tl _ (by simp[T9.l]))) (u4 (by decide) (tb _ (by simp[T9.l,T9.map]))) (sw _) (u4 (by decide) (tl _ (by simp[T9.l]))) (u4 (by decide) (tb _ (by simp[T9.l,T9.map]))) (sw _) (u4 (by decide) (tl _ (by simp[T9.l]))) (u4 (by decide) (tb _ (by simp[T9.l,T9.map]))) (sw _) (u4 (by decide) (tl _ (by simp[T9.l]))) (u4 (by decide) (tb _ (by simp[T9.l,T9.map]))) (sw _) (u4 (by decide) (tl _ (by simp[T9.l]))) (u4 (by decide) (tb _ (by simp[T9.l,T9.map])))
theorem HL(hp:fD p)(hq:fD q):eqD (tq p).low.D (tq q).low.D=decide (p=q):=by
 by_cases h:p=q
 ·subst h;rw[T9.eqD];simp
 ·rw[aa1 h]
  cases hb:eqD (tq p).low.D (tq q).low.D with
  | false=>rfl
  | true =>
   exfalso
   refine h (Fq hp hq ?_)
   generalize (tq p).low=A at *
   generalize (tq q).low=B at *
   replace hb:(A.n==B.n&&(((A.a==B.a&&(A.b==B.b&&(A.c==B.c&&true)))&&((A.d==B.d&&(A.e==B.e&&(A.f==B.f&&true)))&&((A.g==B.g&&(A.h==B.h&&(A.i==B.i&&true)))&&true)))&&true))=true:=hb
   simp only[Bool.and_true,ZZ,aj8]at hb
   obtain⟨h0,⟨h1,h2,h3⟩,⟨h4,h5,h6⟩,h7,h8,h9⟩:=hb
   cases A;cases B
   simp only at *
   subst h0 h1 h2 h3 h4 h5 h6 h7 h8 h9
   rfl
theorem ZB(q:Qd):Ia q=(tq q).n:=by obtain⟨a,b,c,d⟩:=q;simp only[Ia,tq,n4];omega
theorem XF{d r:D}(h:ag (cg [d]) r):ag (iy [.str "turn", d]) r:=bC (eD ∅ rfl (bW (bP (ax ∅ h))))
theorem zy{n1:Str}{r1 r2:D}{b:Bool}(h1:n1 = "Turn" \/ n1 = "Mirror" \/ n1 = "HalfTurn")(hc:ag (fS .Eq t1 t2) b):ag (dM [.obj n1 ["word", "row", "fractions"] [w1,r1,t1],.obj n1 ["word", "row", "fractions"] [w2,r2,t2]]) (.bl b):=by
 rcases h1 with rfl|rfl|rfl
 ·exact bC (bW (bP (cU ∅ (cE ∅ ∅ rfl (d:=t2) ∅) hc)))
 ·exact bC (bW (bP (cU ∅ (cE ∅ ∅ rfl (d:=t2) ∅) hc)))
 ·exact bC (bW (bP (cU ∅ (cE ∅ ∅ rfl (d:=t2) ∅) hc)))
theorem xu(hk:k≠0)(p:fD q)(hm:m<=900)(h:dG (2 ^ m) (kq k q))(hq:dG (2 ^ 140) q):ag (fQ [dq (kq k q)]) (tq q).low.D :=
 xt hk p (lT (by omega) h) (aQ (yf p.ne h) (by omega)) hq.1 hq.2.1 hq.2.2.1 hq.2.2.2
theorem Cj(ns:List Int)(_:ns.length<=63)(hb:∀m∈ns,Builtin.Int.intBits m<=2 ^ 20):ag (tJ [.lst (ns.map D.int)]) (.bl true):=by
 have hw:oG (ns.map D.int):=⟨ns,rfl,hb⟩
 generalize ns.map D.int=L at *
 have hl:=hw.okL
 obtain⟨x0,y0,z0,w0,⟨n1,n2,n3,n4'⟩,h0,hN⟩:=zS hw 0
 have hR:=IQ n1 n2 n3 n4'
 obtain⟨x1,y1,z1,w1,⟨m1,m2,m3,m4⟩,g0,hM⟩:=N7 hw n1 n2 n3 n4'
 obtain⟨k,Q,hk,eQ,pQ,l1⟩:=Cb h0 n1 n2 n3 n4'
 obtain⟨j,a,b,c,d,hj,rfl,rfl,rfl,rfl,pB,_⟩:=qw g0
 obtain⟨B,eB⟩:∃B:Qd,B=(a,b,c,d):=⟨_,rfl⟩
 have u69:∀{t:Int},fB t->t.natAbs<=2 ^ 69:=fun h=>ZN h (by decide)
 have l2:dG (2 ^ 69) (kq j B):=by subst eB;exact⟨u69 m1,u69 m2,u69 m3,u69 m4⟩
 have hN:ag (ge [.lst L,.int 0,.int 4]) (dq (kq k Q)):=by rw[<- eQ];exact hN
 have hM:ag (jr [.lst L,dq (kq k Q)]) (dq (kq j B)):=by rw[<- eQ];subst eB;exact hM
 have hR:ag (le [dq (kq k Q)]) (.lst [.lst [.int (tq (kq k Q)).a,.int (tq (kq k Q)).b,.int (tq (kq k Q)).c],.lst [.int (tq (kq k Q)).d,.int (tq (kq k Q)).e,.int (tq (kq k Q)).f],.lst [.int (tq (kq k Q)).g,.int (tq (kq k Q)).h,.int (tq (kq k Q)).i]]):=by rw[<- eQ];exact hR
 have pB:fD B:=by subst eB;exact pB
 clear h0 g0 n1 n2 n3 n4' m1 m2 m3 m4 eQ eB
 have up:∀{q:Qd} {m j:Nat},m<=j->dG (2 ^ m) q->dG (2 ^ j) q:=fun hm h=>uI h (aa6 (by decide) hm)
 have lq:=xK hk l1
 have lb:=xK hj l2
 have bK:gn (kq k Q):=kr l1 (ae4 (by decide) (by decide))
 have bJ:gn (kq j B):=kr l2 (ae4 (by decide) (by decide))
 have hS1:ag (il [dq (kq k Q)]) (.int (tq (kq k Q)).n):=⟨[gn (kq k Q)],by rw[<- ZB];rfl,bK,True.intro⟩
 have hSt:=NG hk pQ l1
 have hT:=lC hk pQ (by decide) l1 (up (by decide) lq)
 have hO:=lC hj pB (by decide) l2 (up (by decide) lb)
 have hTa:=xu hk pQ (by decide) l1 (up (by decide) lq)
 have hTb:=xu hj pB (by decide) l2 (up (by decide) lb)
 have t1:=zm hk pQ (by decide) l1
 have t2:=zm hj pB (by decide) l2
 have hNo:=oI pQ (up (by decide) lq)
 have hNb:=oI pB (up (by decide) lb)
 have c1:=lC (k:=1) (m:=67) (by decide) pQ (by decide) (by rw[jS];exact lq) (up (by decide) lq)
 have c2:=lC (k:=1) (m:=69) (by decide) pB (by decide) (by rw[jS];exact lb) (up (by decide) lb)
 rw[jS]at c1 c2
 have hPa:=F2 pQ lq
 have hal:ag (gC [dq (kq k Q),dq (kq j B)]) (.bl (decide (Q=B))):=ag.eq ⟨_,rfl,bK,bJ,True.intro⟩ (by rw[F1 hk hj pQ pB])
 have b40:∀{t:Int},t.natAbs<=2 ^ 67->t.natAbs<10 ^ 40:=fun h=>ac0 h (by decide)
 have hb4:∀n∈[Q.1,Q.2.1,Q.2.2.1,Q.2.2.2],n.natAbs<10 ^ 40:=by
  intro n hn
  simp only[ZT,ab3,ae5]at hn
  rcases hn with rfl|rfl|rfl|rfl
  ·exact b40 lq.1
  ·exact b40 lq.2.1
  ·exact b40 lq.2.2.1
  ·exact b40 lq.2.2.2
 have tl:=Qs (C := "Turn") (w:=(Str.ofString "turn").cps.toList) (ns:=[Q.1,Q.2.1,Q.2.2.1,Q.2.2.2]) (.inl rfl) (by intro z;cases z) (by decide +kernel) (ZP 4) hb4 (tq Q).low.D
 unfold Qg at tl
 rw[<- jK]at tl
 have dr:=WO (w := "turn") (ns:=[Q.1,Q.2.1,Q.2.2.1,Q.2.2.2]) (.inl ⟨rfl,rfl⟩) hb4 (XF c1)
 generalize sN (jn ((Str.ofString "turn").cps.toList::[Q.1,Q.2.1,Q.2.2.1,Q.2.2.2].map cG))=S1 at *
 have tn:=fV pQ.ne
 obtain⟨e,he,pb,lbb,hBk⟩:=MY pQ (up (by decide) lq)
 have e0:e*(tq Q).n≠0:=ak8 (by omega) (by omega)
 have nb:=mG lq (tq Q).n (tq Q).mem_n
 have eb:(e*(tq Q).n).natAbs<=2 ^ 137:=by rcases he with rfl|rfl<;>simpa using nb
 have l1e:dG (2 ^ 137) (kq (e*(tq Q).n) (1,0,0,0)):=⟨by show(_*1:Int).natAbs<=_;rw[al9];exact eb,by show(_*0:Int).natAbs<=_;rw[ae6];exact ZY _,by show(_*0:Int).natAbs<=_;rw[ae6];exact ZY _,by show(_*0:Int).natAbs<=_;rw[ae6];exact ZY _⟩
 have hBe:=HK (p:=kq e (sv Q)) (q:=Q) (r:=(1,0,0,0)) e0 (Ha e Q).1 zH (aQ eb (by decide)) (kr lbb (ae4 (by decide) (by decide))) (kr lq (ae4 (by decide) (by decide))) (lT (q:=(1,0,0,0)) (by decide) l1e) (by decide) (by decide) (by decide) (by decide)
 have hT1:=xu (k:=1) (q:=(1,0,0,0)) (m:=1) (by decide) zH (by decide) (by rw[jS];exact⟨by decide,by decide,by decide,by decide⟩) ⟨by decide,by decide,by decide,by decide⟩
 rw[jS]at hT1
 obtain⟨A,B',C,E,F,G,hBs,hBa⟩:=MW pQ (up (by decide) lq)
 have cT:∀T:T9,ag (fS .NotEq T.D T.D) false:=fun T=>ag.eq ∅ (by show(!Sp.eqD T.D T.D)=false;rw[T9.eqD];rfl)
 have cb:∀t:Bool,ag (fS .NotEq (.bl t) (.bl t)) false:=fun t=>by cases t<;>exact ∅
 have cq:∀q:Qd,ag (fS .NotEq (dq q) (dq q)) false:=fun q=>ag.eq ∅ (by show(!eqD (dq q) (dq q))=false;rw[Ec];simp)
 have ceq:ag (fS .Eq (dq Q) (dq B)) (decide (Q=B)):=ag.eq ∅ (Ec Q B)
 have ctab:ag (fS .Eq (tq B).low.D (tq Q).low.D) (decide (Q=B)):=ag.eq ∅ (by show Sp.eqD (tq B).low.D (tq Q).low.D=_;rw[HL pB pQ];exact decide_eq_decide.mpr eq_comm)
 have sm:ag (dM [gr B,gr Q]) (.bl (decide (Q=B))):=zy (.inl rfl) ctab
 have smQ:ag (dM [gr Q,gr Q]) (.bl true):=zy (.inl rfl) (ag.eq ∅ (by show Sp.eqD (tq Q).low.D (tq Q).low.D=true;rw[T9.eqD]))
 have hTu:ag (mw [(tq B).low.D]) (gr B):=bC (bW (bP (ax (aL (ax ∅ hNb) bI) c2)))
 have hCo:ag (eM [gr Q]) (.int (tq Q).low.n):=vi Q.1 Q.2.1 Q.2.2.1 Q.2.2.2
 generalize decide (Q=B)=al at *
 refine bC (aX (bM (ax ∅ hN)) (aX (bM (ax ∅ hM)) (aX (bM (ax ∅ hT)) (aX (bM (ax ∅ hTa)) ?_))))
 refine aM (fX (ee (u8 (ax (aL ∅ (aL (ax ∅ hS1) (aL (ax ∅ hR) bI))) hSt)) (ee (cU (cE ∅ ∅ rfl (d:=(tq Q).low.D) ∅) ∅ (cT _)) ip))) rfl (aX (bM (ax ∅ hal)) ?_)
 refine aM (fX (ee (cU (cU (ax ∅ t1) (ax ∅ t2) ceq) ∅ (cb al)) (ee (cU (cU (ax ∅ hTb) ∅ ctab) ∅ (cb al)) ip))) rfl (aX (bM (cE (ax ∅ hO) ∅ rfl sm)) ?_)
 refine aM (fX (ee ∅ (ee (cU ∅ ∅ (cb al)) ip))) rfl ?_
 refine aM (fX (ee (cU (ax ∅ hNo) (ax ∅ t1) (cq Q)) (ee (cU (cE (ax (aL (ax ∅ hTb) bI) hTu) ∅ rfl (d:=dq B) ∅) (ax ∅ t2) (cq B)) ip))) rfl ?_
 refine aM (fX (ee (u8 (ax ∅ hPa)) (ee (cU (cE (cE (cE ∅ ∅ rfl hBk) ∅ rfl hBe) ∅ rfl (d:=(tq (1,0,0,0)).low.D) ∅) (ax ∅ hT1) (cT _)) ip))) rfl ?_
 refine aM (cU (cE (ax (aL (cE (ax (aL (ax ∅ t1) bI) c1) ∅ rfl tl) bI) dr) ∅ rfl smQ) ∅ ∅) rfl ?_
 have n0:=T9.lown tn
 have nB:(tq Q).low.n.natAbs<=2 ^ 137:=T9.bd_low tn (mG lq) _ (T9.mem_n _)
 have en:=hBs.n
 have dv1:∀{x y:Int},x*y=(tq Q).low.n->0<x->x.natAbs<cH:=fun {x y} h hx=>aQ (m:=137) (by have:=Int.le_of_dvd n0 ⟨y,h.symm⟩;omega) (by decide)
 have gA:A.natAbs<cH:=dv1 (y:=E*G) (by rw[<- ZU];exact en) hBs.a0
 have gE:E.natAbs<cH:=dv1 (y:=A*G) (by rw[<- en,<- ZU,ZX E A]) hBs.d0
 have gG:G.natAbs<cH:=dv1 (y:=A*E) (by rw[ZX];exact en) hBs.f0
 have gAE:(A*E).natAbs<cH:=dv1 (y:=G) en (ac8 hBs.a0 hBs.d0)
 have o1:=cj gA gE
 have o2:=cj gAE gG
 have ce1:ag (fS .Eq (.int (tq Q).low.n) (.int (tq Q).low.n)) true:=ag.eq ∅ ((di _ _).trans (ad2 rfl))
 have ce2:ag (fS .Eq (.int (A*E*G)) (.int (tq Q).low.n)) true:=ag.eq ∅ ((di _ _).trans (ad2 en))
 exact aX (bM (ax ∅ hBa)) (bW (bP (fX (Eb (cU (ax ∅ hCo) ∅ ce1) (Eb (cU ∅ ∅ ce2) lY)))))
theorem RU:aA (au (ae (ah 60))) ["_law_script", "_law_k"] (ae (ah 60)):=⟨rfl,rfl,rfl,by decide +kernel,by decide +kernel,by decide +kernel,by decide +kernel⟩
theorem RQ:aA (au (ae (ah 63))) ["_law_cell_here", "_law_kind"] (ae (ah 63)):=⟨rfl,rfl,rfl,by decide +kernel,by decide +kernel,by decide +kernel,by decide +kernel⟩
theorem RP:aA (au (ae (ah 64))) ["_law_script", "_law_at", "_law_many"] (ae (ah 64)):=⟨rfl,rfl,rfl,by decide +kernel,by decide +kernel,by decide +kernel,by decide +kernel⟩
theorem RH:aA (au (ae (ah 72))) ["_law_script", "_law_numbers_here"] (ae (ah 72)):=⟨rfl,rfl,rfl,by decide +kernel,by decide +kernel,by decide +kernel,by decide +kernel⟩
theorem Ss:aA (au (ae (ah 14))) ["one", "other"] (ae (ah 14)):=⟨rfl,rfl,rfl,by decide +kernel,by decide +kernel,by decide +kernel,by decide +kernel⟩
theorem Su:aA (au (ae (ah 13))) ["numbers"] (ae (ah 13)):=⟨rfl,rfl,rfl,by decide +kernel,by decide +kernel,by decide +kernel,by decide +kernel⟩
theorem Sr:aA (au (ae (ah 15))) ["numbers", "divisor"] (ae (ah 15)):=⟨rfl,rfl,rfl,by decide +kernel,by decide +kernel,by decide +kernel,by decide +kernel⟩
theorem Sq:aA (au (ae (ah 16))) ["numbers"] (ae (ah 16)):=⟨rfl,rfl,rfl,by decide +kernel,by decide +kernel,by decide +kernel,by decide +kernel⟩
theorem Sn:aA (au (ae (ah 20))) ["table"] (ae (ah 20)):=⟨rfl,rfl,rfl,by decide +kernel,by decide +kernel,by decide +kernel,by decide +kernel⟩
theorem Sm:aA (au (ae (ah 22))) ["numbers"] (ae (ah 22)):=⟨rfl,rfl,rfl,by decide +kernel,by decide +kernel,by decide +kernel,by decide +kernel⟩
theorem RG:aA (au (ae (ah 73))) ["_law_one", "_law_other_here"] (ae (ah 73)):=⟨rfl,rfl,rfl,by decide +kernel,by decide +kernel,by decide +kernel,by decide +kernel⟩
theorem ud:aA (au (ae (aD (ah 37) 1))) ["self"] (ae (aD (ah 37) 1)):=⟨rfl,rfl,rfl,by decide +kernel,by decide +kernel,by decide +kernel,by decide +kernel⟩
theorem R0:aA (au (ae (ah 53))) ["turn"] (ae (ah 53)):=⟨rfl,rfl,rfl,by decide +kernel,by decide +kernel,by decide +kernel,by decide +kernel⟩
theorem Sv:aA (au (ae (ah 11))) ["four"] (ae (ah 11)):=⟨rfl,rfl,rfl,by decide +kernel,by decide +kernel,by decide +kernel,by decide +kernel⟩
theorem So:aA (au (ae (ah 17))) ["one", "other"] (ae (ah 17)):=⟨rfl,rfl,rfl,by decide +kernel,by decide +kernel,by decide +kernel,by decide +kernel⟩
theorem Sk:aA (au (ae (ah 24))) ["rows"] (ae (ah 24)):=⟨rfl,rfl,rfl,by decide +kernel,by decide +kernel,by decide +kernel,by decide +kernel⟩
theorem Sl:aA (au (ae (ah 23))) ["table"] (ae (ah 23)):=⟨rfl,rfl,rfl,by decide +kernel,by decide +kernel,by decide +kernel,by decide +kernel⟩
theorem Si:aA (au (ae (ah 26))) ["table"] (ae (ah 26)):=⟨rfl,rfl,rfl,by decide +kernel,by decide +kernel,by decide +kernel,by decide +kernel⟩
theorem Sj:aA (au (ae (ah 25))) ["table"] (ae (ah 25)):=⟨rfl,rfl,rfl,by decide +kernel,by decide +kernel,by decide +kernel,by decide +kernel⟩
theorem Sw:aA (au (ae (ah 10))) ["one", "other"] (ae (ah 10)):=⟨rfl,rfl,rfl,by decide +kernel,by decide +kernel,by decide +kernel,by decide +kernel⟩
theorem RY:aA (au (ae (ah 55))) ["turn"] (ae (ah 55)):=⟨rfl,rfl,rfl,by decide +kernel,by decide +kernel,by decide +kernel,by decide +kernel⟩
theorem ZE:aA (au (ae (ah 6))) ["one", "other"] (ae (ah 6)):=⟨rfl,rfl,rfl,by decide +kernel,by decide +kernel,by decide +kernel,by decide +kernel⟩
theorem ZC:aA (au (ae (ah 8))) ["one", "number"] (ae (ah 8)):=⟨rfl,rfl,rfl,by decide +kernel,by decide +kernel,by decide +kernel,by decide +kernel⟩
theorem RW:aA (au (ae (ah 57))) ["spot", "other", "place"] (ae (ah 57)):=⟨rfl,rfl,rfl,by decide +kernel,by decide +kernel,by decide +kernel,by decide +kernel⟩
theorem RV:aA (au (ae (ah 58))) ["base"] (ae (ah 58)):=⟨rfl,rfl,rfl,by decide +kernel,by decide +kernel,by decide +kernel,by decide +kernel⟩
theorem RX:aA (au (ae (ah 56))) ["spots", "place"] (ae (ah 56)):=⟨rfl,rfl,rfl,by decide +kernel,by decide +kernel,by decide +kernel,by decide +kernel⟩
theorem RZ:aA (au (ae (ah 54))) ["turn"] (ae (ah 54)):=⟨rfl,rfl,rfl,by decide +kernel,by decide +kernel,by decide +kernel,by decide +kernel⟩
theorem RO:aA (au (ae (ah 65))) ["_law_numbers_here"] (ae (ah 65)):=⟨rfl,rfl,rfl,by decide +kernel,by decide +kernel,by decide +kernel,by decide +kernel⟩
theorem RT:aA (au (ae (ah 61))) ["_law_x"] (ae (ah 61)):=⟨rfl,rfl,rfl,by decide +kernel,by decide +kernel,by decide +kernel,by decide +kernel⟩
theorem RS:aA (au (ae (ah 62))) ["_law_found", "_law_many"] (ae (ah 62)):=⟨rfl,rfl,rfl,by decide +kernel,by decide +kernel,by decide +kernel,by decide +kernel⟩
theorem RK:aA (au (ae (ah 69))) ["_law_found"] (ae (ah 69)):=⟨rfl,rfl,rfl,by decide +kernel,by decide +kernel,by decide +kernel,by decide +kernel⟩
theorem RJ:aA (au (ae (ah 70))) ["_law_found", "_law_n", "_law_rows_here"] (ae (ah 70)):=⟨rfl,rfl,rfl,by decide +kernel,by decide +kernel,by decide +kernel,by decide +kernel⟩
theorem RI:aA (au (ae (ah 71))) ["_law_numbers_here"] (ae (ah 71)):=⟨rfl,rfl,rfl,by decide +kernel,by decide +kernel,by decide +kernel,by decide +kernel⟩
theorem R3:aA (au (ae (ah 50))) ["number"] (ae (ah 50)):=⟨rfl,rfl,rfl,by decide +kernel,by decide +kernel,by decide +kernel,by decide +kernel⟩
theorem R4:aA (au (ae (ah 49))) ["number"] (ae (ah 49)):=⟨rfl,rfl,rfl,by decide +kernel,by decide +kernel,by decide +kernel,by decide +kernel⟩
theorem Sb:aA (au (ae (ah 41))) ["axis"] (ae (ah 41)):=⟨rfl,rfl,rfl,by decide +kernel,by decide +kernel,by decide +kernel,by decide +kernel⟩
theorem IO:aA (au (ae (aD (ah 37) 0))) ["self", "word", "row", "fractions"] (ae (aD (ah 37) 0)):=⟨rfl,rfl,rfl,by decide +kernel,by decide +kernel,by decide +kernel,by decide +kernel⟩
theorem II:aA (au (ae (aD (ah 39) 0))) ["self", "axis"] (ae (aD (ah 39) 0)):=⟨rfl,rfl,rfl,by decide +kernel,by decide +kernel,by decide +kernel,by decide +kernel⟩
theorem R6:aA (au (ae (ah 47))) ["turn"] (ae (ah 47)):=⟨rfl,rfl,rfl,by decide +kernel,by decide +kernel,by decide +kernel,by decide +kernel⟩
theorem ZD:aA (au (ae (ah 7))) ["one"] (ae (ah 7)):=⟨rfl,rfl,rfl,by decide +kernel,by decide +kernel,by decide +kernel,by decide +kernel⟩
theorem IG:aA (au (ae (aD (ah 40) 0))) ["self", "axis"] (ae (aD (ah 40) 0)):=⟨rfl,rfl,rfl,by decide +kernel,by decide +kernel,by decide +kernel,by decide +kernel⟩
theorem R5:aA (au (ae (ah 48))) ["turn"] (ae (ah 48)):=⟨rfl,rfl,rfl,by decide +kernel,by decide +kernel,by decide +kernel,by decide +kernel⟩
theorem Sf:aA (au (ae (ah 28))) ["rows", "other"] (ae (ah 28)):=⟨rfl,rfl,rfl,by decide +kernel,by decide +kernel,by decide +kernel,by decide +kernel⟩
theorem Sh:aA (au (ae (ah 27))) ["first", "second"] (ae (ah 27)):=⟨rfl,rfl,rfl,by decide +kernel,by decide +kernel,by decide +kernel,by decide +kernel⟩
theorem RF:aA (au (ae (ah 74))) ["_law_turn", "_law_table"] (ae (ah 74)):=⟨rfl,rfl,rfl,by decide +kernel,by decide +kernel,by decide +kernel,by decide +kernel⟩
theorem RL:aA (au (ae (ah 68))) ["_law_numbers_here"] (ae (ah 68)):=⟨rfl,rfl,rfl,by decide +kernel,by decide +kernel,by decide +kernel,by decide +kernel⟩
theorem RN:aA (au (ae (ah 66))) ["_law_one", "_law_other_here"] (ae (ah 66)):=⟨rfl,rfl,rfl,by decide +kernel,by decide +kernel,by decide +kernel,by decide +kernel⟩
theorem RM:aA (au (ae (ah 67))) ["_law_numbers_here"] (ae (ah 67)):=⟨rfl,rfl,rfl,by decide +kernel,by decide +kernel,by decide +kernel,by decide +kernel⟩
theorem Sc:aA (au (ae (ah 34))) ["text"] (ae (ah 34)):=⟨rfl,rfl,rfl,by decide +kernel,by decide +kernel,by decide +kernel,by decide +kernel⟩
theorem Sd:aA (au (ae (ah 33))) ["word"] (ae (ah 33)):=⟨rfl,rfl,rfl,by decide +kernel,by decide +kernel,by decide +kernel,by decide +kernel⟩
theorem R9:aA (au (ae (ah 43))) ["words"] (ae (ah 43)):=⟨rfl,rfl,rfl,by decide +kernel,by decide +kernel,by decide +kernel,by decide +kernel⟩
theorem IN:aA (au (ae (aD (ah 38) 0))) ["self", "numbers"] (ae (aD (ah 38) 0)):=⟨rfl,rfl,rfl,by decide +kernel,by decide +kernel,by decide +kernel,by decide +kernel⟩
theorem R8:aA (au (ae (ah 44))) ["word", "numbers"] (ae (ah 44)):=⟨rfl,rfl,rfl,by decide +kernel,by decide +kernel,by decide +kernel,by decide +kernel⟩
theorem Sa:aA (au (ae (ah 42))) ["text"] (ae (ah 42)):=⟨rfl,rfl,rfl,by decide +kernel,by decide +kernel,by decide +kernel,by decide +kernel⟩
theorem R7:aA (au (ae (ah 46))) ["table"] (ae (ah 46)):=⟨rfl,rfl,rfl,by decide +kernel,by decide +kernel,by decide +kernel,by decide +kernel⟩
theorem uc:aA (au (ae (aD (ah 37) 3))) ["self", "other"] (ae (aD (ah 37) 3)):=⟨rfl,rfl,rfl,by decide +kernel,by decide +kernel,by decide +kernel,by decide +kernel⟩
theorem IM:aA (au (ae (aD (ah 38) 1))) ["self"] (ae (aD (ah 38) 1)):=⟨rfl,rfl,rfl,by decide +kernel,by decide +kernel,by decide +kernel,by decide +kernel⟩
theorem IJ:aA (au (ae (aD (ah 38) 3))) ["self", "first"] (ae (aD (ah 38) 3)):=⟨rfl,rfl,rfl,by decide +kernel,by decide +kernel,by decide +kernel,by decide +kernel⟩
theorem Se:aA (au (ae (ah 32))) ["numbers"] (ae (ah 32)):=⟨rfl,rfl,rfl,by decide +kernel,by decide +kernel,by decide +kernel,by decide +kernel⟩
theorem ua:aA (au (ae (aD (ah 37) 4))) ["self"] (ae (aD (ah 37) 4)):=⟨rfl,rfl,rfl,by decide +kernel,by decide +kernel,by decide +kernel,by decide +kernel⟩
theorem IK:aA (au (ae (aD (ah 38) 2))) ["self"] (ae (aD (ah 38) 2)):=⟨rfl,rfl,rfl,by decide +kernel,by decide +kernel,by decide +kernel,by decide +kernel⟩
theorem IH:aA (au (ae (aD (ah 39) 2))) ["self"] (ae (aD (ah 39) 2)):=⟨rfl,rfl,rfl,by decide +kernel,by decide +kernel,by decide +kernel,by decide +kernel⟩
theorem IF:aA (au (ae (aD (ah 40) 2))) ["self"] (ae (aD (ah 40) 2)):=⟨rfl,rfl,rfl,by decide +kernel,by decide +kernel,by decide +kernel,by decide +kernel⟩
theorem RE:aA (au (ae (ah 75))) ["_law_script"] (ae (ah 75)):=⟨rfl,rfl,rfl,by decide +kernel,by decide +kernel,by decide +kernel,by decide +kernel⟩
theorem aU:∀p∈BL,gJ p:=av (Pr:=gJ) (CT) (av (Pr:=gJ) (Bb) (av (Pr:=gJ) (CS) (av (Pr:=gJ) (Hj) (av (Pr:=gJ) (Hi) (av (Pr:=gJ) (CZ) (av (Pr:=gJ) (Hb) (av (Pr:=gJ) (Hf) (av (Pr:=gJ) (CW) (av (Pr:=gJ) (Hc) (av (Pr:=gJ) (Hd) (aj)))))))))))
theorem aT:∀p∈IL,vO p:=av (Pr:=vO) (Aq) (av (Pr:=vO) (Cs) (aj))
theorem aS:∀p∈ML,rE p:=av (Pr:=rE) (Ce) (av (Pr:=rE) (zY) (av (Pr:=rE) (Kh) (aj)))
theorem aR:∀p∈TL,yZ p:=av (Pr:=yZ) (x8) (aj)
theorem cL{k:Nat}{g:Str}(h:bV P w k0 mg base j g F)(t:∀p∈l,sA P w k0 mg base k p)(hj:j<=k:=by decide):∀p∈(g,F)::l,sA P w k0 mg base k p:=av (Pr:=sA P w k0 mg base k) (Or.inl (h.mono hj)) t
theorem cR{k:Nat}{g:Str}(h:pX P w k0 mg base j g F)(t:∀p∈l,sA P w k0 mg base k p)(hj:j<=k:=by decide):∀p∈(g,F)::l,sA P w k0 mg base k p:=av (Pr:=sA P w k0 mg base k) (Or.inr (h.mono hj)) t
theorem cN{n:Str}{l:List Str}(h:mg n=none)(t:∀m∈l,mg m=none):∀m∈n::l,mg m=none:=av (Pr:=fun n=>mg n=none) h t
theorem cM{K:W.Frag}{k:Nat}{c:Str}{q:Str×(List D->Rs D)}{qs:List (Str×(List D->Rs D))}(h:cW P w K mg base j c q.1 q.2)(hk:j<=k)(t:∀p∈qs,cW P w K mg base k c p.1 p.2):∀p∈q::qs,cW P w K mg base k c p.1 p.2:=av (Pr:=fun p:Str×(List D->Rs D)=>cW P w K mg base k c p.1 p.2) (h.mono hk) t
theorem cO{K:W.Frag}{k:Nat}{c:Str}{ms:List (Str×(List D->Rs D))}{r:List (Str×List (Str×(List D->Rs D)))}(h:∀q∈ms,cW P w K mg base k c q.1 q.2)(t:∀p∈r,yY P w K mg base k p):∀p∈(c,ms)::r,yY P w K mg base k p:=av (Pr:=yY P w K mg base k) h t
local macro_rules | `(tactic| walk_at "bn") => `(tactic| (intro _ _ _ _ _ _ us hl;first | (obtain ⟨x0,e⟩:=Kr hl;subst e;rfl) | (obtain ⟨x0,x1,e⟩:=Kq hl;subst e;rfl) | (obtain ⟨x0,x1,x2,e⟩:=Ko hl;subst e;rfl) | (obtain ⟨x0,x1,x2,x3,e⟩:=VO hl;subst e;rfl)))



theorem all_mk{l:W.OpenLaw}{K:W.Frag}{h:Heap}{fa f60 f63 f64 f72 f14 f13 f15 f16 f20 f22 f73 jo f53 f11 f17 f24 f23 f26 f25 f10 f55 f6 f8 f57 f58 f56 f54 f65 f61 f62 f69 f70 f71 f50 f49 f41 tG o3 f47 f7 o0 f48 f28 f27 f74 f68 f66 f67 f34 f33 f43 o7 f44 f42 f46 jl tF tz f32 jk tE tx tt f75 cv bG bR qe:Addr}(X:K.In h)(G:h.Ns mainGlobals mg)(hfa:mg "law" = some (.ref fa))
  {Ub YM TY YJ TX YI TK YA UG Zh UH Zi UF Zg UE Zf UC Zd UB Zc TJ Yz JU Nf Uh YT UI Zj UD Ze Uz Za UA Zb Ux Y8 Uy Y9 UJ Zk Uf YR od6 an6 od8 an8 Ud YO Uc YN Ue YQ Ug YS TW YH Ua YL TZ YK TQ YD TN YC TM YB Ui YU Uj YV Ur Y2 JV Ng JN M7 Ul YX od7 an7 JL M5 Uk YW Uv Y6 Uw Y7 TH Yy TR YE TV YG TU YF Us Y3 Ut Y4 Up Y0 JR Nb Uo YZ Uq Y1 Um YY JT Nd JQ Na JO M8 Uu Y5 JS Nc JP M9 JM M6 JK M4 TF M3:Option Addr} {QX QU QT QL Rz RA Ry Rx Rv Ru QK Ir Q4 RB Rw Rr Rt Ro Rq RC Q2 sl6 sl8 QZ QY Q0 Q3 QS QW QV QO QN QM Q5 Q6 Rh Iu Ii Q8 sl7 Ie Q7 Rl Rm QJ QP QR QQ Ri Rj Re Im Ra Rg Q9 Iq Il Ij Rk Io Ik Ig Id QI:Array (Option Value)} {UZ V6 W5 SV Mg XY UW V2 W0 SS Md XV UV V1 WZ SR Mc XU UN VT WR SI L4 XL Vt WB XB Ty MO Ys Vu WC XC Tz MP Yt Vs WA XA Tx MN Yr Vr Wz Xz Tw MM Yq Vp Wx Xx Tu MJ Yo Vo Ww Xw Tt MI Yn UM VS WQ SH L3 XJ J6 KI LF Jj AW LU U5 Wc Xb S4 Mn X4 Vv WD XD TB MQ Yu Vq Wy Xy Tv MK Yp Vm Wu Xu Tr MG Yl Vn Wv Xv Ts MH Ym Vk Ws Xs Tp ME Yj Vl Wt Xt Tq MF Yk Vw WE XE TC MR Yv U3 Wa W9 SZ Ml X2 oc6 kV6 dc6 pm6 cd6 ct6 oc8 kV8 dc8 pm8 cd8 ct8 U1 V8 W7 SX Mi X0 U0 V7 W6 SW Mh XZ U2 V9 W8 SY Mj X1 U4 Wb Xa S0 Mm X3 UU V0 WY SQ Mb XT UY V5 W4 SU Mf XX UX V4 W3 ST Me XW UQ VW WU SL L7 XO UP VV WT SK L6 XN UO VU WS SJ L5 XM U6 Wd Xc S6 Mp X5 U7 We Xe S8 Mq X6 Ve Wm Xl Tj Mx Yd J8 KJ LG Jk AX LV JZ KB Ly Jc AO LN U9 Wg Xg Tc Ms X8 oc7 kV7 dc7 pm7 cd7 ct7 JX Kz Lw Ja AM LL U8 Wf Xf Ta Mr X7 Vi Wq Xq Tn MC Yh Vj Wr Xr To MD Yi UL VR WP SG LZ XI UR VX WV SM L8 XQ UT VZ WX SO Ma XS US VY WW SN L9 XR Vf Wn Xm Tk Mz Ye Vg Wo Xn Tl MA Yf Vc Wj Xj Tg Mv Yb J3 KF LC Jg AT LR Vb Wi Xi Tf Mu Ya Vd Wl Xk Th Mw Yc Va Wh Xh Te Mt X9 J5 KH LE Ji AV LT J2 KE LB Jf AS LQ J0 KC Lz Jd AQ LO Vh Wp Xp Tm MB Yg J4 KG LD Jh AU LS J1 KD LA Je AR LP JY KA Lx Jb AN LM JW Ky Lv I0 AL LK UK Kx Lu IZ CK LJ:Value}
  (er:W.nsIn K mainGlobals "Turn" = some (some (.ref cv)))
  (FW:W.plainGet K cv Str.empty=true)
  (GB:W.hasDictIn K cv=true)
  (FS:W.plainOver K cv=true)
  (FH:W.findIn K (.ref cv) "__setattr__" = some (some (.builtin "object.__setattr__")))
  (Gm:W.makesIn K cv=true)
  (Co:W.findIn K (.ref cv) "__init__" = some (some (.ref o7)))
  (Cp:W.isFn K (.ref o7)=true)
  (CG:W.keepIn K (.ref cv)=true)
  (lQ:W.findIn K (.ref cv) "word" = some none)
  (jx:W.findIn K (.ref cv) "row" = some none)
  (iH:W.findIn K (.ref cv) "fractions" = some none)
  (dm:W.nsIn K mainGlobals "HalfTurn" = some (some (.ref bG)))
  (vU:W.plainGet K bG Str.empty=true)
  (vX:W.hasDictIn K bG=true)
  (vT:W.plainOver K bG=true)
  (vR:W.findIn K (.ref bG) "__setattr__" = some (some (.builtin "object.__setattr__")))
  (vV:W.makesIn K bG=true)
  (uQ:W.findIn K (.ref bG) "__init__" = some (some (.ref o3)))
  (uR:W.isFn K (.ref o3)=true)
  (vm:W.keepIn K (.ref bG)=true)
  (iW:W.findIn K (.ref bG) "word" = some none)
  (gv:W.findIn K (.ref bG) "row" = some none)
  (gk:W.findIn K (.ref bG) "fractions" = some none)
  (dY:W.nsIn K mainGlobals "Mirror" = some (some (.ref bR)))
  (zM:W.plainGet K bR Str.empty=true)
  (As:W.hasDictIn K bR=true)
  (zG:W.plainOver K bR=true)
  (zA:W.findIn K (.ref bR) "__setattr__" = some (some (.builtin "object.__setattr__")))
  (zX:W.makesIn K bR=true)
  (yh:W.findIn K (.ref bR) "__init__" = some (some (.ref o0)))
  (yi:W.isFn K (.ref o0)=true)
  (yr:W.keepIn K (.ref bR)=true)
  (jQ:W.findIn K (.ref bR) "word" = some none)
  (iA:W.findIn K (.ref bR) "row" = some none)
  (gL:W.findIn K (.ref bR) "fractions" = some none)
  (nR:W.findIn K (.ref bG) "back" = some (some (.ref tx))) (nU:W.isFn K (.ref tx)=true)
  (nQ:W.findIn K (.ref bG) "same" = some (some (.ref jl))) (nT:W.isFn K (.ref jl)=true)
  (nk:W.findIn K (.ref bG) "table" = some (some (.ref jo))) (nl:W.isFn K (.ref jo)=true)
  (nP:W.findIn K (.ref bG) "told" = some (some (.ref jk))) (nS:W.isFn K (.ref jk)=true)
  (qG:W.findIn K (.ref bR) "back" = some (some (.ref tt))) (qM:W.isFn K (.ref tt)=true)
  (qF:W.findIn K (.ref bR) "same" = some (some (.ref jl))) (qL:W.isFn K (.ref jl)=true)
  (oK:W.findIn K (.ref bR) "table" = some (some (.ref jo))) (oM:W.isFn K (.ref jo)=true)
  (qE:W.findIn K (.ref bR) "told" = some (some (.ref jk))) (qK:W.isFn K (.ref jk)=true)
  (uA:W.findIn K (.ref cv) "back" = some (some (.ref tE))) (uH:W.isFn K (.ref tE)=true)
  (qD:W.findIn K (.ref cv) "behind" = some (some (.ref tz))) (qJ:W.isFn K (.ref tz)=true)
  (qC:W.findIn K (.ref cv) "number" = some (some (.ref tF))) (qI:W.isFn K (.ref tF)=true)
  (uz:W.findIn K (.ref cv) "same" = some (some (.ref jl))) (uG:W.isFn K (.ref jl)=true)
  (sD:W.findIn K (.ref cv) "table" = some (some (.ref jo))) (sE:W.isFn K (.ref jo)=true)
  (uy:W.findIn K (.ref cv) "told" = some (some (.ref jk))) (uF:W.isFn K (.ref jk)=true)
  (q9:W.nsIn K mainGlobals "Deed" = some (some (.ref qe))) (qP:W.specialIn K (.ref qe) "__getattribute__" = some (some (.builtin "type.__getattribute__"))) (qr:W.readsIn K qe (.type "type")=true) (qT:W.findCls K (.ref qe) (.type "type") "__init__" = some (.val (.ref tG)))
  (a60:W.nsIn K mainGlobals "_law_cell" = some (some (.ref f60)))    (l60:K.lookup f60=some ⟨UZ,Ub,.func (W.fnOf "_law_cell" "_law_cell" (aF (ah 60)) (ak (ah 60)) (ae (ah 60)) .none V6 W5 SV YM Mg XY),QX⟩) (c60:W.codeIn K Mg "_law_cell" = true) (k60:W.keepIn K (.ref f60)=true)
  (a63:W.nsIn K mainGlobals "_law_number" = some (some (.ref f63)))    (l63:K.lookup f63=some ⟨UW,TY,.func (W.fnOf "_law_number" "_law_number" (aF (ah 63)) (ak (ah 63)) (ae (ah 63)) .none V2 W0 SS YJ Md XV),QU⟩) (c63:W.codeIn K Md "_law_number" = true) (k63:W.keepIn K (.ref f63)=true)
  (a64:W.nsIn K mainGlobals "_law_numbers" = some (some (.ref f64)))    (l64:K.lookup f64=some ⟨UV,TX,.func (W.fnOf "_law_numbers" "_law_numbers" (aF (ah 64)) (ak (ah 64)) (ae (ah 64)) .none V1 WZ SR YI Mc XU),QT⟩) (c64:W.codeIn K Mc "_law_numbers" = true) (k64:W.keepIn K (.ref f64)=true)
  (a72:W.nsIn K mainGlobals "_law_other" = some (some (.ref f72)))    (l72:K.lookup f72=some ⟨UN,TK,.func (W.fnOf "_law_other" "_law_other" (aF (ah 72)) (ak (ah 72)) (ae (ah 72)) .none VT WR SI YA L4 XL),QL⟩) (c72:W.codeIn K L4 "_law_other" = true) (k72:W.keepIn K (.ref f72)=true)
  (a14:W.nsIn K mainGlobals "shared_by" = some (some (.ref f14)))    (l14:K.lookup f14=some ⟨Vt,UG,.func (W.fnOf "shared_by" "shared_by" (aF (ah 14)) (ak (ah 14)) (ae (ah 14)) .none WB XB Ty Zh MO Ys),Rz⟩) (c14:W.codeIn K MO "shared_by" = true) (k14:W.keepIn K (.ref f14)=true)
  (a13:W.nsIn K mainGlobals "common_divisor" = some (some (.ref f13)))    (l13:K.lookup f13=some ⟨Vu,UH,.func (W.fnOf "common_divisor" "common_divisor" (aF (ah 13)) (ak (ah 13)) (ae (ah 13)) .none WC XC Tz Zi MP Yt),RA⟩) (c13:W.codeIn K MP "common_divisor" = true) (k13:W.keepIn K (.ref f13)=true)
  (a15:W.nsIn K mainGlobals "shortened" = some (some (.ref f15)))    (l15:K.lookup f15=some ⟨Vs,UF,.func (W.fnOf "shortened" "shortened" (aF (ah 15)) (ak (ah 15)) (ae (ah 15)) .none WA XA Tx Zg MN Yr),Ry⟩) (c15:W.codeIn K MN "shortened" = true) (k15:W.keepIn K (.ref f15)=true)
  (a16:W.nsIn K mainGlobals "upright" = some (some (.ref f16)))    (l16:K.lookup f16=some ⟨Vr,UE,.func (W.fnOf "upright" "upright" (aF (ah 16)) (ak (ah 16)) (ae (ah 16)) .none Wz Xz Tw Zf MM Yq),Rx⟩) (c16:W.codeIn K MM "upright" = true) (k16:W.keepIn K (.ref f16)=true)
  (a20:W.nsIn K mainGlobals "lowest" = some (some (.ref f20)))    (l20:K.lookup f20=some ⟨Vp,UC,.func (W.fnOf "lowest" "lowest" (aF (ah 20)) (ak (ah 20)) (ae (ah 20)) .none Wx Xx Tu Zd MJ Yo),Rv⟩) (c20:W.codeIn K MJ "lowest" = true) (k20:W.keepIn K (.ref f20)=true)
  (a22:W.nsIn K mainGlobals "table_of" = some (some (.ref f22)))    (l22:K.lookup f22=some ⟨Vo,UB,.func (W.fnOf "table_of" "table_of" (aF (ah 22)) (ak (ah 22)) (ae (ah 22)) .none Ww Xw Tt Zc MI Yn),Ru⟩) (c22:W.codeIn K MI "table_of" = true) (k22:W.keepIn K (.ref f22)=true)
  (a73:W.nsIn K mainGlobals "_law_parallel" = some (some (.ref f73)))    (l73:K.lookup f73=some ⟨UM,TJ,.func (W.fnOf "_law_parallel" "_law_parallel" (aF (ah 73)) (ak (ah 73)) (ae (ah 73)) .none VS WQ SH Yz L3 XJ),QK⟩) (c73:W.codeIn K L3 "_law_parallel" = true) (k73:W.keepIn K (.ref f73)=true)
  (OM:K.lookup jo=some ⟨J6,JU,.func (W.fnOf "table" "Deed.table" (aF (aD (ah 37) 1)) (ak (aD (ah 37) 1)) (ae (aD (ah 37) 1)) .none KI LF Jj Nf AW LU),Ir⟩) (PP:W.codeIn K AW "Deed.table" = true) (sZ:W.keepIn K (.ref jo)=true)
  (a53:W.nsIn K mainGlobals "corner_number" = some (some (.ref f53)))    (l53:K.lookup f53=some ⟨U5,Uh,.func (W.fnOf "corner_number" "corner_number" (aF (ah 53)) (ak (ah 53)) (ae (ah 53)) .none Wc Xb S4 YT Mn X4),Q4⟩) (c53:W.codeIn K Mn "corner_number" = true) (k53:W.keepIn K (.ref f53)=true)
  (a11:W.nsIn K mainGlobals "other_signed" = some (some (.ref f11)))    (l11:K.lookup f11=some ⟨Vv,UI,.func (W.fnOf "other_signed" "other_signed" (aF (ah 11)) (ak (ah 11)) (ae (ah 11)) .none WD XD TB Zj MQ Yu),RB⟩) (c11:W.codeIn K MQ "other_signed" = true) (k11:W.keepIn K (.ref f11)=true)
  (a17:W.nsIn K mainGlobals "added_products" = some (some (.ref f17)))    (l17:K.lookup f17=some ⟨Vq,UD,.func (W.fnOf "added_products" "added_products" (aF (ah 17)) (ak (ah 17)) (ae (ah 17)) .none Wy Xy Tv Ze MK Yp),Rw⟩) (c17:W.codeIn K MK "added_products" = true) (k17:W.keepIn K (.ref f17)=true)
  (a24:W.nsIn K mainGlobals "determinant" = some (some (.ref f24)))    (l24:K.lookup f24=some ⟨Vm,Uz,.func (W.fnOf "determinant" "determinant" (aF (ah 24)) (ak (ah 24)) (ae (ah 24)) .none Wu Xu Tr Za MG Yl),Rr⟩) (c24:W.codeIn K MG "determinant" = true) (k24:W.keepIn K (.ref f24)=true)
  (a23:W.nsIn K mainGlobals "table_fault" = some (some (.ref f23)))    (l23:K.lookup f23=some ⟨Vn,UA,.func (W.fnOf "table_fault" "table_fault" (aF (ah 23)) (ak (ah 23)) (ae (ah 23)) .none Wv Xv Ts Zb MH Ym),Rt⟩) (c23:W.codeIn K MH "table_fault" = true) (k23:W.keepIn K (.ref f23)=true)
  (a26:W.nsIn K mainGlobals "multiples" = some (some (.ref f26)))    (l26:K.lookup f26=some ⟨Vk,Ux,.func (W.fnOf "multiples" "multiples" (aF (ah 26)) (ak (ah 26)) (ae (ah 26)) .none Ws Xs Tp Y8 ME Yj),Ro⟩) (c26:W.codeIn K ME "multiples" = true) (k26:W.keepIn K (.ref f26)=true)
  (a25:W.nsIn K mainGlobals "number_of" = some (some (.ref f25)))    (l25:K.lookup f25=some ⟨Vl,Uy,.func (W.fnOf "number_of" "number_of" (aF (ah 25)) (ak (ah 25)) (ae (ah 25)) .none Wt Xt Tq Y9 MF Yk),Rq⟩) (c25:W.codeIn K MF "number_of" = true) (k25:W.keepIn K (.ref f25)=true)
  (a10:W.nsIn K mainGlobals "plain_product" = some (some (.ref f10)))    (l10:K.lookup f10=some ⟨Vw,UJ,.func (W.fnOf "plain_product" "plain_product" (aF (ah 10)) (ak (ah 10)) (ae (ah 10)) .none WE XE TC Zk MR Yv),RC⟩) (c10:W.codeIn K MR "plain_product" = true) (k10:W.keepIn K (.ref f10)=true)
  (a55:W.nsIn K mainGlobals "staying_spots" = some (some (.ref f55)))    (l55:K.lookup f55=some ⟨U3,Uf,.func (W.fnOf "staying_spots" "staying_spots" (aF (ah 55)) (ak (ah 55)) (ae (ah 55)) .none Wa W9 SZ YR Ml X2),Q2⟩) (c55:W.codeIn K Ml "staying_spots" = true) (k55:W.keepIn K (.ref f55)=true)
  (a6:W.nsIn K mainGlobals "less" = some (some (.ref f6)))    (l6:K.lookup f6=some ⟨oc6,od6,.func (W.fnOf "less" "less" (aF (ah 6)) (ak (ah 6)) (ae (ah 6)) .none kV6 dc6 pm6 an6 cd6 ct6),sl6⟩) (c6:W.codeIn K cd6 "less" = true) (k6:W.keepIn K (.ref f6)=true)
  (a8:W.nsIn K mainGlobals "many_times" = some (some (.ref f8)))    (l8:K.lookup f8=some ⟨oc8,od8,.func (W.fnOf "many_times" "many_times" (aF (ah 8)) (ak (ah 8)) (ae (ah 8)) .none kV8 dc8 pm8 an8 cd8 ct8),sl8⟩) (c8:W.codeIn K cd8 "many_times" = true) (k8:W.keepIn K (.ref f8)=true)
  (a57:W.nsIn K mainGlobals "brought_below" = some (some (.ref f57)))    (l57:K.lookup f57=some ⟨U1,Ud,.func (W.fnOf "brought_below" "brought_below" (aF (ah 57)) (ak (ah 57)) (ae (ah 57)) .none V8 W7 SX YO Mi X0),QZ⟩) (c57:W.codeIn K Mi "brought_below" = true) (k57:W.keepIn K (.ref f57)=true)
  (a58:W.nsIn K mainGlobals "reduced" = some (some (.ref f58)))    (l58:K.lookup f58=some ⟨U0,Uc,.func (W.fnOf "reduced" "reduced" (aF (ah 58)) (ak (ah 58)) (ae (ah 58)) .none V7 W6 SW YN Mh XZ),QY⟩) (c58:W.codeIn K Mh "reduced" = true) (k58:W.keepIn K (.ref f58)=true)
  (a56:W.nsIn K mainGlobals "swept" = some (some (.ref f56)))    (l56:K.lookup f56=some ⟨U2,Ue,.func (W.fnOf "swept" "swept" (aF (ah 56)) (ak (ah 56)) (ae (ah 56)) .none V9 W8 SY YQ Mj X1),Q0⟩) (c56:W.codeIn K Mj "swept" = true) (k56:W.keepIn K (.ref f56)=true)
  (a54:W.nsIn K mainGlobals "base_of" = some (some (.ref f54)))    (l54:K.lookup f54=some ⟨U4,Ug,.func (W.fnOf "base_of" "base_of" (aF (ah 54)) (ak (ah 54)) (ae (ah 54)) .none Wb Xa S0 YS Mm X3),Q3⟩) (c54:W.codeIn K Mm "base_of" = true) (k54:W.keepIn K (.ref f54)=true)
  (a65:W.nsIn K mainGlobals "_law_divisor" = some (some (.ref f65)))    (l65:K.lookup f65=some ⟨UU,TW,.func (W.fnOf "_law_divisor" "_law_divisor" (aF (ah 65)) (ak (ah 65)) (ae (ah 65)) .none V0 WY SQ YH Mb XT),QS⟩) (c65:W.codeIn K Mb "_law_divisor" = true) (k65:W.keepIn K (.ref f65)=true)
  (a61:W.nsIn K mainGlobals "_law_whole" = some (some (.ref f61)))    (l61:K.lookup f61=some ⟨UY,Ua,.func (W.fnOf "_law_whole" "_law_whole" (aF (ah 61)) (ak (ah 61)) (ae (ah 61)) .none V5 W4 SU YL Mf XX),QW⟩) (c61:W.codeIn K Mf "_law_whole" = true) (k61:W.keepIn K (.ref f61)=true)
  (a62:W.nsIn K mainGlobals "_law_tuple" = some (some (.ref f62)))    (l62:K.lookup f62=some ⟨UX,TZ,.func (W.fnOf "_law_tuple" "_law_tuple" (aF (ah 62)) (ak (ah 62)) (ae (ah 62)) .none V4 W3 ST YK Me XW),QV⟩) (c62:W.codeIn K Me "_law_tuple" = true) (k62:W.keepIn K (.ref f62)=true)
  (a69:W.nsIn K mainGlobals "_law_is_table" = some (some (.ref f69)))    (l69:K.lookup f69=some ⟨UQ,TQ,.func (W.fnOf "_law_is_table" "_law_is_table" (aF (ah 69)) (ak (ah 69)) (ae (ah 69)) .none VW WU SL YD L7 XO),QO⟩) (c69:W.codeIn K L7 "_law_is_table" = true) (k69:W.keepIn K (.ref f69)=true)
  (a70:W.nsIn K mainGlobals "_law_stands" = some (some (.ref f70)))    (l70:K.lookup f70=some ⟨UP,TN,.func (W.fnOf "_law_stands" "_law_stands" (aF (ah 70)) (ak (ah 70)) (ae (ah 70)) .none VV WT SK YC L6 XN),QN⟩) (c70:W.codeIn K L6 "_law_stands" = true) (k70:W.keepIn K (.ref f70)=true)
  (a71:W.nsIn K mainGlobals "_law_told" = some (some (.ref f71)))    (l71:K.lookup f71=some ⟨UO,TM,.func (W.fnOf "_law_told" "_law_told" (aF (ah 71)) (ak (ah 71)) (ae (ah 71)) .none VU WS SJ YB L5 XM),QM⟩) (c71:W.codeIn K L5 "_law_told" = true) (k71:W.keepIn K (.ref f71)=true)
  (a50:W.nsIn K mainGlobals "upright_axis" = some (some (.ref f50)))    (l50:K.lookup f50=some ⟨U6,Ui,.func (W.fnOf "upright_axis" "upright_axis" (aF (ah 50)) (ak (ah 50)) (ae (ah 50)) .none Wd Xc S6 YU Mp X5),Q5⟩) (c50:W.codeIn K Mp "upright_axis" = true) (k50:W.keepIn K (.ref f50)=true)
  (a49:W.nsIn K mainGlobals "two_axes" = some (some (.ref f49)))    (l49:K.lookup f49=some ⟨U7,Uj,.func (W.fnOf "two_axes" "two_axes" (aF (ah 49)) (ak (ah 49)) (ae (ah 49)) .none We Xe S8 YV Mq X6),Q6⟩) (c49:W.codeIn K Mq "two_axes" = true) (k49:W.keepIn K (.ref f49)=true)
  (a41:W.nsIn K mainGlobals "half_table" = some (some (.ref f41)))    (l41:K.lookup f41=some ⟨Ve,Ur,.func (W.fnOf "half_table" "half_table" (aF (ah 41)) (ak (ah 41)) (ae (ah 41)) .none Wm Xl Tj Y2 Mx Yd),Rh⟩) (c41:W.codeIn K Mx "half_table" = true) (k41:W.keepIn K (.ref f41)=true)
  (ON:K.lookup tG=some ⟨J8,JV,.func (W.fnOf "__init__" "Deed.__init__" (aF (aD (ah 37) 0)) (ak (aD (ah 37) 0)) (ae (aD (ah 37) 0)) .none KJ LG Jk Ng AX LV),Iu⟩) (PQ:W.codeIn K AX "Deed.__init__" = true) (tf:W.keepIn K (.ref tG)=true)
  (OF:K.lookup o3=some ⟨JZ,JN,.func (W.fnOf "__init__" "HalfTurn.__init__" (aF (aD (ah 39) 0)) (ak (aD (ah 39) 0)) (ae (aD (ah 39) 0)) .none KB Ly Jc M7 AO LN),Ii⟩) (PF:W.codeIn K AO "HalfTurn.__init__" = true) (OR:W.keepIn K (.ref o3)=true)
  (a47:W.nsIn K mainGlobals "half_turns" = some (some (.ref f47)))    (l47:K.lookup f47=some ⟨U9,Ul,.func (W.fnOf "half_turns" "half_turns" (aF (ah 47)) (ak (ah 47)) (ae (ah 47)) .none Wg Xg Tc YX Ms X8),Q8⟩) (c47:W.codeIn K Ms "half_turns" = true) (k47:W.keepIn K (.ref f47)=true)
  (a7:W.nsIn K mainGlobals "opposite" = some (some (.ref f7)))    (l7:K.lookup f7=some ⟨oc7,od7,.func (W.fnOf "opposite" "opposite" (aF (ah 7)) (ak (ah 7)) (ae (ah 7)) .none kV7 dc7 pm7 an7 cd7 ct7),sl7⟩) (c7:W.codeIn K cd7 "opposite" = true) (k7:W.keepIn K (.ref f7)=true)
  (OC:K.lookup o0=some ⟨JX,JL,.func (W.fnOf "__init__" "Mirror.__init__" (aF (aD (ah 40) 0)) (ak (aD (ah 40) 0)) (ae (aD (ah 40) 0)) .none Kz Lw Ja M5 AM LL),Ie⟩) (PC:W.codeIn K AM "Mirror.__init__" = true) (OQ:W.keepIn K (.ref o0)=true)
  (a48:W.nsIn K mainGlobals "mirrors" = some (some (.ref f48)))    (l48:K.lookup f48=some ⟨U8,Uk,.func (W.fnOf "mirrors" "mirrors" (aF (ah 48)) (ak (ah 48)) (ae (ah 48)) .none Wf Xf Ta YW Mr X7),Q7⟩) (c48:W.codeIn K Mr "mirrors" = true) (k48:W.keepIn K (.ref f48)=true)
  (a28:W.nsIn K mainGlobals "each_with" = some (some (.ref f28)))    (l28:K.lookup f28=some ⟨Vi,Uv,.func (W.fnOf "each_with" "each_with" (aF (ah 28)) (ak (ah 28)) (ae (ah 28)) .none Wq Xq Tn Y6 MC Yh),Rl⟩) (c28:W.codeIn K MC "each_with" = true) (k28:W.keepIn K (.ref f28)=true)
  (a27:W.nsIn K mainGlobals "behind" = some (some (.ref f27)))    (l27:K.lookup f27=some ⟨Vj,Uw,.func (W.fnOf "behind" "behind" (aF (ah 27)) (ak (ah 27)) (ae (ah 27)) .none Wr Xr To Y7 MD Yi),Rm⟩) (c27:W.codeIn K MD "behind" = true) (k27:W.keepIn K (.ref f27)=true)
  (a74:W.nsIn K mainGlobals "_law_pairs" = some (some (.ref f74)))    (l74:K.lookup f74=some ⟨UL,TH,.func (W.fnOf "_law_pairs" "_law_pairs" (aF (ah 74)) (ak (ah 74)) (ae (ah 74)) .none VR WP SG Yy LZ XI),QJ⟩) (c74:W.codeIn K LZ "_law_pairs" = true) (k74:W.keepIn K (.ref f74)=true)
  (a68:W.nsIn K mainGlobals "_law_squares" = some (some (.ref f68)))    (l68:K.lookup f68=some ⟨UR,TR,.func (W.fnOf "_law_squares" "_law_squares" (aF (ah 68)) (ak (ah 68)) (ae (ah 68)) .none VX WV SM YE L8 XQ),QP⟩) (c68:W.codeIn K L8 "_law_squares" = true) (k68:W.keepIn K (.ref f68)=true)
  (a66:W.nsIn K mainGlobals "_law_product" = some (some (.ref f66)))    (l66:K.lookup f66=some ⟨UT,TV,.func (W.fnOf "_law_product" "_law_product" (aF (ah 66)) (ak (ah 66)) (ae (ah 66)) .none VZ WX SO YG Ma XS),QR⟩) (c66:W.codeIn K Ma "_law_product" = true) (k66:W.keepIn K (.ref f66)=true)
  (a67:W.nsIn K mainGlobals "_law_rows" = some (some (.ref f67)))    (l67:K.lookup f67=some ⟨US,TU,.func (W.fnOf "_law_rows" "_law_rows" (aF (ah 67)) (ak (ah 67)) (ae (ah 67)) .none VY WW SN YF L9 XR),QQ⟩) (c67:W.codeIn K L9 "_law_rows" = true) (k67:W.keepIn K (.ref f67)=true)
  (a34:W.nsIn K mainGlobals "are_figures" = some (some (.ref f34)))    (l34:K.lookup f34=some ⟨Vf,Us,.func (W.fnOf "are_figures" "are_figures" (aF (ah 34)) (ak (ah 34)) (ae (ah 34)) .none Wn Xm Tk Y3 Mz Ye),Ri⟩) (c34:W.codeIn K Mz "are_figures" = true) (k34:W.keepIn K (.ref f34)=true)
  (a33:W.nsIn K mainGlobals "whole_read" = some (some (.ref f33)))    (l33:K.lookup f33=some ⟨Vg,Ut,.func (W.fnOf "whole_read" "whole_read" (aF (ah 33)) (ak (ah 33)) (ae (ah 33)) .none Wo Xn Tl Y4 MA Yf),Rj⟩) (c33:W.codeIn K MA "whole_read" = true) (k33:W.keepIn K (.ref f33)=true)
  (a43:W.nsIn K mainGlobals "numbers_read" = some (some (.ref f43)))    (l43:K.lookup f43=some ⟨Vc,Up,.func (W.fnOf "numbers_read" "numbers_read" (aF (ah 43)) (ak (ah 43)) (ae (ah 43)) .none Wj Xj Tg Y0 Mv Yb),Re⟩) (c43:W.codeIn K Mv "numbers_read" = true) (k43:W.keepIn K (.ref f43)=true)
  (OJ:K.lookup o7=some ⟨J3,JR,.func (W.fnOf "__init__" "Turn.__init__" (aF (aD (ah 38) 0)) (ak (aD (ah 38) 0)) (ae (aD (ah 38) 0)) .none KF LC Jg Nb AT LR),Im⟩) (PL:W.codeIn K AT "Turn.__init__" = true) (OS:W.keepIn K (.ref o7)=true)
  (a44:W.nsIn K mainGlobals "deed_by" = some (some (.ref f44)))    (l44:K.lookup f44=some ⟨Vb,Uo,.func (W.fnOf "deed_by" "deed_by" (aF (ah 44)) (ak (ah 44)) (ae (ah 44)) .none Wi Xi Tf YZ Mu Ya),Ra⟩) (c44:W.codeIn K Mu "deed_by" = true) (k44:W.keepIn K (.ref f44)=true)
  (a42:W.nsIn K mainGlobals "deed_read" = some (some (.ref f42)))    (l42:K.lookup f42=some ⟨Vd,Uq,.func (W.fnOf "deed_read" "deed_read" (aF (ah 42)) (ak (ah 42)) (ae (ah 42)) .none Wl Xk Th Y1 Mw Yc),Rg⟩) (c42:W.codeIn K Mw "deed_read" = true) (k42:W.keepIn K (.ref f42)=true)
  (a46:W.nsIn K mainGlobals "turn_of" = some (some (.ref f46)))    (l46:K.lookup f46=some ⟨Va,Um,.func (W.fnOf "turn_of" "turn_of" (aF (ah 46)) (ak (ah 46)) (ae (ah 46)) .none Wh Xh Te YY Mt X9),Q9⟩) (c46:W.codeIn K Mt "turn_of" = true) (k46:W.keepIn K (.ref f46)=true)
  (OL:K.lookup jl=some ⟨J5,JT,.func (W.fnOf "same" "Deed.same" (aF (aD (ah 37) 3)) (ak (aD (ah 37) 3)) (ae (aD (ah 37) 3)) .none KH LE Ji Nd AV LT),Iq⟩) (PN:W.codeIn K AV "Deed.same" = true) (sY:W.keepIn K (.ref jl)=true)
  (OI:K.lookup tF=some ⟨J2,JQ,.func (W.fnOf "number" "Turn.number" (aF (aD (ah 38) 1)) (ak (aD (ah 38) 1)) (ae (aD (ah 38) 1)) .none KE LB Jf Na AS LQ),Il⟩) (PK:W.codeIn K AS "Turn.number" = true) (DY:W.keepIn K (.ref tF)=true)
  (OG:K.lookup tz=some ⟨J0,JO,.func (W.fnOf "behind" "Turn.behind" (aF (aD (ah 38) 3)) (ak (aD (ah 38) 3)) (ae (aD (ah 38) 3)) .none KC Lz Jd M8 AQ LO),Ij⟩) (PH:W.codeIn K AQ "Turn.behind" = true) (DW:W.keepIn K (.ref tz)=true)
  (a32:W.nsIn K mainGlobals "row_text" = some (some (.ref f32)))    (l32:K.lookup f32=some ⟨Vh,Uu,.func (W.fnOf "row_text" "row_text" (aF (ah 32)) (ak (ah 32)) (ae (ah 32)) .none Wp Xp Tm Y5 MB Yg),Rk⟩) (c32:W.codeIn K MB "row_text" = true) (k32:W.keepIn K (.ref f32)=true)
  (OK:K.lookup jk=some ⟨J4,JS,.func (W.fnOf "told" "Deed.told" (aF (aD (ah 37) 4)) (ak (aD (ah 37) 4)) (ae (aD (ah 37) 4)) .none KG LD Jh Nc AU LS),Io⟩) (PM:W.codeIn K AU "Deed.told" = true) (sX:W.keepIn K (.ref jk)=true)
  (OH:K.lookup tE=some ⟨J1,JP,.func (W.fnOf "back" "Turn.back" (aF (aD (ah 38) 2)) (ak (aD (ah 38) 2)) (ae (aD (ah 38) 2)) .none KD LA Je M9 AR LP),Ik⟩) (PJ:W.codeIn K AR "Turn.back" = true) (DX:W.keepIn K (.ref tE)=true)
  (OE:K.lookup tx=some ⟨JY,JM,.func (W.fnOf "back" "HalfTurn.back" (aF (aD (ah 39) 2)) (ak (aD (ah 39) 2)) (ae (aD (ah 39) 2)) .none KA Lx Jb M6 AN LM),Ig⟩) (PD:W.codeIn K AN "HalfTurn.back" = true) (DV:W.keepIn K (.ref tx)=true)
  (OB:K.lookup tt=some ⟨JW,JK,.func (W.fnOf "back" "Mirror.back" (aF (aD (ah 40) 2)) (ak (aD (ah 40) 2)) (ae (aD (ah 40) 2)) .none Ky Lv I0 M4 AL LK),Id⟩) (PB:W.codeIn K AL "Mirror.back" = true) (DU:W.keepIn K (.ref tt)=true)
  (a75:W.nsIn K mainGlobals "law" = some (some (.ref f75)))    (l75:K.lookup f75=some ⟨UK,TF,.func (W.fnOf "law" "law" (aF (ah 75)) (ak (ah 75)) (ae (ah 75)) .none Kx Lu IZ M3 CK LJ),QI⟩) (c75:W.codeIn K CK "law" = true) (k75:W.keepIn K (.ref f75)=true)
  {tk0:Tok} (g0:W.nsIn K mainGlobals "FIGURES" = some (some (.str "0123456789" tk0)))
  {tk1:Tok} (g1:W.nsIn K mainGlobals "MOST_FIGURES" = some (some (.int (40) tk1)))
  {ca2 yD yC yB yA yz yy:Addr} {dd2:Option Addr} {ss2:Array (Option Value)} {nn2:Nat} (g2:W.nsIn K mainGlobals "PAIRS" = some (some (.ref ca2))) (m2:K.lookup ca2=some ⟨.type "tuple", dd2,.seq #[.ref yD,.ref yC,.ref yB,.ref yA,.ref yz,.ref yy] nn2,ss2⟩)
  {Ps:Option Addr} {NN:Array (Option Value)} {Om:Nat} {Fd Fc:Tok} (VH:K.lookup yy=some ⟨.type "tuple", Ps,.seq #[.int (2) Fd,.int (2) Fc] Om,NN⟩)
  {Pt:Option Addr} {NO:Array (Option Value)} {On:Nat} {Ff Fe:Tok} (VI:K.lookup yz=some ⟨.type "tuple", Pt,.seq #[.int (1) Ff,.int (2) Fe] On,NO⟩)
  {Pu:Option Addr} {NP:Array (Option Value)} {Oo:Nat} {Fh Fg:Tok} (VJ:K.lookup yA=some ⟨.type "tuple", Pu,.seq #[.int (1) Fh,.int (1) Fg] Oo,NP⟩)
  {Pv:Option Addr} {NQ:Array (Option Value)} {Op:Nat} {Fj Fi:Tok} (VL:K.lookup yB=some ⟨.type "tuple", Pv,.seq #[.int (0) Fj,.int (2) Fi] Op,NQ⟩)
  {Pw:Option Addr} {NR:Array (Option Value)} {Oq:Nat} {Fm Fk:Tok} (VM:K.lookup yC=some ⟨.type "tuple", Pw,.seq #[.int (0) Fm,.int (1) Fk] Oq,NR⟩)
  {Px:Option Addr} {NS:Array (Option Value)} {Os:Nat} {Fp Fo:Tok} (VN:K.lookup yD=some ⟨.type "tuple", Px,.seq #[.int (0) Fp,.int (0) Fo] Os,NS⟩)
  {ca3 yx yw yv yt:Addr} {dd3:Option Addr} {ss3:Array (Option Value)} {nn3:Nat} (g3:W.nsIn K mainGlobals "UNITS" = some (some (.ref ca3))) (m3:K.lookup ca3=some ⟨.type "tuple", dd3,.seq #[.ref yx,.ref yw,.ref yv,.ref yt] nn3,ss3⟩)
  {Pn:Option Addr} {NJ:Array (Option Value)} {Oh:Nat} {EQ EO EN EM:Tok} (VD:K.lookup yt=some ⟨.type "tuple", Pn,.seq #[.int (0) EQ,.int (0) EO,.int (0) EN,.int (1) EM] Oh,NJ⟩)
  {Po:Option Addr} {NK:Array (Option Value)} {Oi:Nat} {EU ET ES ER:Tok} (VE:K.lookup yv=some ⟨.type "tuple", Po,.seq #[.int (0) EU,.int (0) ET,.int (1) ES,.int (0) ER] Oi,NK⟩)
  {Pp:Option Addr} {NL:Array (Option Value)} {Oj:Nat} {EY EX EW EV:Tok} (VF:K.lookup yw=some ⟨.type "tuple", Pp,.seq #[.int (0) EY,.int (1) EX,.int (0) EW,.int (0) EV] Oj,NL⟩)
  {Pq:Option Addr} {NM:Array (Option Value)} {Ol:Nat} {Fb Fa E9 EZ:Tok} (VG:K.lookup yx=some ⟨.type "tuple", Pq,.seq #[.int (1) Fb,.int (0) Fa,.int (0) E9,.int (0) EZ] Ol,NM⟩)
  {ca4:Addr} {nn4:Nat} {Do Dr Dn Dq Dm Dp:Tok} (g4:W.nsIn K mainGlobals "WORDS" = some (some (.ref ca4))) (m4:K.lookup ca4=some ⟨.type "dict", none,.dict #[⟨PyData.keyHash w.params "turn", .str "turn" Do,.int 4 Dr⟩,⟨PyData.keyHash w.params "half", .str "half" Dn,.int 3 Dq⟩,⟨PyData.keyHash w.params "mirror", .str "mirror" Dm,.int 3 Dp⟩] nn4,#[]⟩) (e4:(ca4==sysModules)=false)
  (z0:W.nsIn K mainGlobals "len" = some none)    (z1:W.nsIn K mainGlobals "tuple" = some none)    (z2:W.nsIn K mainGlobals "list" = some none)    (z3:W.nsIn K mainGlobals "abs" = some none)    (z4:W.nsIn K mainGlobals "all" = some none)    (z5:W.nsIn K mainGlobals "sum" = some none)    (z6:W.nsIn K mainGlobals "isinstance" = some none)    (z7:W.nsIn K mainGlobals "set" = some none)    (z8:W.nsIn K mainGlobals "int" = some none)    (z9:W.nsIn K mainGlobals "bool" = some none)    (z10:W.nsIn K mainGlobals "str" = some none)    (z11:W.nsIn K mainGlobals "range" = some none)    (z12:W.nsIn K mainGlobals "zip" = some none)    (z13:W.nsIn K mainGlobals "enumerate" = some none)    (z14:W.nsIn K mainGlobals "any" = some none)    (z15:W.nsIn K mainGlobals "sorted" = some none)    (z16:W.nsIn K mainGlobals "min" = some none)    (z17:W.nsIn K mainGlobals "max" = some none)    (z18:W.nsIn K mainGlobals "reversed" = some none) :
  ∃fd:FuncData,(∀(s:Shared) (v:Value),BindsTo s fd ⟨[v],[]⟩ [("_law_script", v)])/\∀base:Heap,K.In base->base.Ns mainGlobals mg->cu l.prog w K mg base eO 10 fa fd ["_law_script"] (lg K tJ):=by
 have e:=hfa.symm.trans (aa5 X G a75)
 cases e
 have hbl:∀n∈iu,mg n=none:=cN (ad0 X G z0) (cN (ad0 X G z1) (cN (ad0 X G z2) (cN (ad0 X G z3) (cN (ad0 X G z4) (cN (ad0 X G z5) (cN (ad0 X G z6) (cN (ad0 X G z7) (cN (ad0 X G z8) (cN (ad0 X G z9) (cN (ad0 X G z10) (cN (ad0 X G z11) (cN (ad0 X G z12) (cN (ad0 X G z13) (cN (ad0 X G z14) (cN (ad0 X G z15) (cN (ad0 X G z16) (cN (ad0 X G z17) (cN (ad0 X G z18) (aj)))))))))))))))))))
 have gX:fE K cv:=⟨FW,GB,FS,FH⟩
 have fY:fE K bG:=⟨vU,vX,vT,vR⟩
 have ir:fE K bR:=⟨zM,As,zG,zA⟩
 have F60:=aO (st:=(ah 60)) l60 c60 k60
 have b60:=F60.binds (ps:=["_law_script", "_law_k"]) (by walk_at "bn")
 have F63:=aO (st:=(ah 63)) l63 c63 k63
 have b63:=F63.binds (ps:=["_law_cell_here", "_law_kind"]) (by walk_at "bn")
 have F64:=aO (st:=(ah 64)) l64 c64 k64
 have b64:=F64.binds (ps:=["_law_script", "_law_at", "_law_many"]) (by walk_at "bn")
 have F72:=aO (st:=(ah 72)) l72 c72 k72
 have b72:=F72.binds (ps:=["_law_script", "_law_numbers_here"]) (by walk_at "bn")
 have F14:=aO (st:=(ah 14)) l14 c14 k14
 have b14:=F14.binds (ps:=["one", "other"]) (by walk_at "bn")
 have F13:=aO (st:=(ah 13)) l13 c13 k13
 have b13:=F13.binds (ps:=["numbers"]) (by walk_at "bn")
 have F15:=aO (st:=(ah 15)) l15 c15 k15
 have b15:=F15.binds (ps:=["numbers", "divisor"]) (by walk_at "bn")
 have F16:=aO (st:=(ah 16)) l16 c16 k16
 have b16:=F16.binds (ps:=["numbers"]) (by walk_at "bn")
 have F20:=aO (st:=(ah 20)) l20 c20 k20
 have b20:=F20.binds (ps:=["table"]) (by walk_at "bn")
 have F22:=aO (st:=(ah 22)) l22 c22 k22
 have b22:=F22.binds (ps:=["numbers"]) (by walk_at "bn")
 have F73:=aO (st:=(ah 73)) l73 c73 k73
 have b73:=F73.binds (ps:=["_law_one", "_law_other_here"]) (by walk_at "bn")
 have tP:=aO (st:=(aD (ah 37) 1)) OM PP sZ
 have yK:=tP.binds (ps:=["self"]) (by walk_at "bn")
 have F53:=aO (st:=(ah 53)) l53 c53 k53
 have b53:=F53.binds (ps:=["turn"]) (by walk_at "bn")
 have F11:=aO (st:=(ah 11)) l11 c11 k11
 have b11:=F11.binds (ps:=["four"]) (by walk_at "bn")
 have F17:=aO (st:=(ah 17)) l17 c17 k17
 have b17:=F17.binds (ps:=["one", "other"]) (by walk_at "bn")
 have F24:=aO (st:=(ah 24)) l24 c24 k24
 have b24:=F24.binds (ps:=["rows"]) (by walk_at "bn")
 have F23:=aO (st:=(ah 23)) l23 c23 k23
 have b23:=F23.binds (ps:=["table"]) (by walk_at "bn")
 have F26:=aO (st:=(ah 26)) l26 c26 k26
 have b26:=F26.binds (ps:=["table"]) (by walk_at "bn")
 have F25:=aO (st:=(ah 25)) l25 c25 k25
 have b25:=F25.binds (ps:=["table"]) (by walk_at "bn")
 have F10:=aO (st:=(ah 10)) l10 c10 k10
 have b10:=F10.binds (ps:=["one", "other"]) (by walk_at "bn")
 have F55:=aO (st:=(ah 55)) l55 c55 k55
 have b55:=F55.binds (ps:=["turn"]) (by walk_at "bn")
 have F6:=aO (st:=(ah 6)) l6 c6 k6
 have b6:=F6.binds (ps:=["one", "other"]) (by walk_at "bn")
 have F8:=aO (st:=(ah 8)) l8 c8 k8
 have b8:=F8.binds (ps:=["one", "number"]) (by walk_at "bn")
 have F57:=aO (st:=(ah 57)) l57 c57 k57
 have b57:=F57.binds (ps:=["spot", "other", "place"]) (by walk_at "bn")
 have F58:=aO (st:=(ah 58)) l58 c58 k58
 have b58:=F58.binds (ps:=["base"]) (by walk_at "bn")
 have F56:=aO (st:=(ah 56)) l56 c56 k56
 have b56:=F56.binds (ps:=["spots", "place"]) (by walk_at "bn")
 have F54:=aO (st:=(ah 54)) l54 c54 k54
 have b54:=F54.binds (ps:=["turn"]) (by walk_at "bn")
 have F65:=aO (st:=(ah 65)) l65 c65 k65
 have b65:=F65.binds (ps:=["_law_numbers_here"]) (by walk_at "bn")
 have F61:=aO (st:=(ah 61)) l61 c61 k61
 have b61:=F61.binds (ps:=["_law_x"]) (by walk_at "bn")
 have F62:=aO (st:=(ah 62)) l62 c62 k62
 have b62:=F62.binds (ps:=["_law_found", "_law_many"]) (by walk_at "bn")
 have F69:=aO (st:=(ah 69)) l69 c69 k69
 have b69:=F69.binds (ps:=["_law_found"]) (by walk_at "bn")
 have F70:=aO (st:=(ah 70)) l70 c70 k70
 have b70:=F70.binds (ps:=["_law_found", "_law_n", "_law_rows_here"]) (by walk_at "bn")
 have F71:=aO (st:=(ah 71)) l71 c71 k71
 have b71:=F71.binds (ps:=["_law_numbers_here"]) (by walk_at "bn")
 have F50:=aO (st:=(ah 50)) l50 c50 k50
 have b50:=F50.binds (ps:=["number"]) (by walk_at "bn")
 have F49:=aO (st:=(ah 49)) l49 c49 k49
 have b49:=F49.binds (ps:=["number"]) (by walk_at "bn")
 have F41:=aO (st:=(ah 41)) l41 c41 k41
 have b41:=F41.binds (ps:=["axis"]) (by walk_at "bn")
 have EB:=aO (st:=(aD (ah 37) 0)) ON PQ tf
 have yL:=EB.binds (ps:=["self", "word", "row", "fractions"]) (by walk_at "bn")
 have Ew:=aO (st:=(aD (ah 39) 0)) OF PF OR
 have PX:=Ew.binds (ps:=["self", "axis"]) (by walk_at "bn")
 have F47:=aO (st:=(ah 47)) l47 c47 k47
 have b47:=F47.binds (ps:=["turn"]) (by walk_at "bn")
 have F7:=aO (st:=(ah 7)) l7 c7 k7
 have b7:=F7.binds (ps:=["one"]) (by walk_at "bn")
 have Eu:=aO (st:=(aD (ah 40) 0)) OC PC OQ
 have PU:=Eu.binds (ps:=["self", "axis"]) (by walk_at "bn")
 have F48:=aO (st:=(ah 48)) l48 c48 k48
 have b48:=F48.binds (ps:=["turn"]) (by walk_at "bn")
 have F28:=aO (st:=(ah 28)) l28 c28 k28
 have b28:=F28.binds (ps:=["rows", "other"]) (by walk_at "bn")
 have F27:=aO (st:=(ah 27)) l27 c27 k27
 have b27:=F27.binds (ps:=["first", "second"]) (by walk_at "bn")
 have F74:=aO (st:=(ah 74)) l74 c74 k74
 have b74:=F74.binds (ps:=["_law_turn", "_law_table"]) (by walk_at "bn")
 have F68:=aO (st:=(ah 68)) l68 c68 k68
 have b68:=F68.binds (ps:=["_law_numbers_here"]) (by walk_at "bn")
 have F66:=aO (st:=(ah 66)) l66 c66 k66
 have b66:=F66.binds (ps:=["_law_one", "_law_other_here"]) (by walk_at "bn")
 have F67:=aO (st:=(ah 67)) l67 c67 k67
 have b67:=F67.binds (ps:=["_law_numbers_here"]) (by walk_at "bn")
 have F34:=aO (st:=(ah 34)) l34 c34 k34
 have b34:=F34.binds (ps:=["text"]) (by walk_at "bn")
 have F33:=aO (st:=(ah 33)) l33 c33 k33
 have b33:=F33.binds (ps:=["word"]) (by walk_at "bn")
 have F43:=aO (st:=(ah 43)) l43 c43 k43
 have b43:=F43.binds (ps:=["words"]) (by walk_at "bn")
 have EA:=aO (st:=(aD (ah 38) 0)) OJ PL OS
 have P3:=EA.binds (ps:=["self", "numbers"]) (by walk_at "bn")
 have F44:=aO (st:=(ah 44)) l44 c44 k44
 have b44:=F44.binds (ps:=["word", "numbers"]) (by walk_at "bn")
 have F42:=aO (st:=(ah 42)) l42 c42 k42
 have b42:=F42.binds (ps:=["text"]) (by walk_at "bn")
 have F46:=aO (st:=(ah 46)) l46 c46 k46
 have b46:=F46.binds (ps:=["table"]) (by walk_at "bn")
 have tO:=aO (st:=(aD (ah 37) 3)) OL PN sY
 have yJ:=tO.binds (ps:=["self", "other"]) (by walk_at "bn")
 have Ez:=aO (st:=(aD (ah 38) 1)) OI PK DY
 have P0:=Ez.binds (ps:=["self"]) (by walk_at "bn")
 have Ex:=aO (st:=(aD (ah 38) 3)) OG PH DW
 have PY:=Ex.binds (ps:=["self", "first"]) (by walk_at "bn")
 have F32:=aO (st:=(ah 32)) l32 c32 k32
 have b32:=F32.binds (ps:=["numbers"]) (by walk_at "bn")
 have tN:=aO (st:=(aD (ah 37) 4)) OK PM sX
 have yI:=tN.binds (ps:=["self"]) (by walk_at "bn")
 have Ey:=aO (st:=(aD (ah 38) 2)) OH PJ DX
 have PZ:=Ey.binds (ps:=["self"]) (by walk_at "bn")
 have Ev:=aO (st:=(aD (ah 39) 2)) OE PD DV
 have PV:=Ev.binds (ps:=["self"]) (by walk_at "bn")
 have Et:=aO (st:=(aD (ah 40) 2)) OB PB DU
 have PR:=Et.binds (ps:=["self"]) (by walk_at "bn")
 have F75:=aO (st:=(ah 75)) l75 c75 k75
 refine⟨W.fnOf "law" "law" (aF (ah 75)) (ak (ah 75)) (ae (ah 75)) .none Kx Lu IZ M3 CK LJ,fun s v=>.of_eq rfl,fun base _ _=>?_⟩
 have nA0:∀C,W.nsIn K mainGlobals "Turn" = some (some (.ref C))->∀f∈[("fractions" : Str)],bj K C f:=by intro C hC;cases (er.symm.trans hC);exact av (Pr:=fun f=>bj K cv f) (iH) (aj)
 have nA1:∀C,W.nsIn K mainGlobals "HalfTurn" = some (some (.ref C))->∀f∈[("fractions" : Str)],bj K C f:=by intro C hC;cases (dm.symm.trans hC);exact av (Pr:=fun f=>bj K bG f) (gk) (aj)
 have nA2:∀C,W.nsIn K mainGlobals "Mirror" = some (some (.ref C))->∀f∈[("fractions" : Str)],bj K C f:=by intro C hC;cases (dY.symm.trans hC);exact av (Pr:=fun f=>bj K bR f) (gL) (aj)
 have fL0:∀p∈([("Turn", ["fractions"]),("HalfTurn", ["fractions"]),("Mirror", ["fractions"])]:List (Str×List Str)),hV K p:=av (Pr:=hV K) ((fun f hf C hC=>nA0 C hC f hf)) (av (Pr:=hV K) ((fun f hf C hC=>nA1 C hC f hf)) (av (Pr:=hV K) ((fun f hf C hC=>nA2 C hC f hf)) (aj)))
 have nA3:∀C,W.nsIn K mainGlobals "HalfTurn" = some (some (.ref C))->∀f∈[("word" : Str),("row" : Str),("fractions" : Str)],bj K C f:=by intro C hC;cases (dm.symm.trans hC);exact av (Pr:=fun f=>bj K bG f) (iW) (av (Pr:=fun f=>bj K bG f) (gv) (av (Pr:=fun f=>bj K bG f) (gk) (aj)))
 have nA4:∀C,W.nsIn K mainGlobals "Mirror" = some (some (.ref C))->∀f∈[("word" : Str),("row" : Str),("fractions" : Str)],bj K C f:=by intro C hC;cases (dY.symm.trans hC);exact av (Pr:=fun f=>bj K bR f) (jQ) (av (Pr:=fun f=>bj K bR f) (iA) (av (Pr:=fun f=>bj K bR f) (gL) (aj)))
 have nA5:∀C,W.nsIn K mainGlobals "Turn" = some (some (.ref C))->∀f∈[("word" : Str),("row" : Str),("fractions" : Str)],bj K C f:=by intro C hC;cases (er.symm.trans hC);exact av (Pr:=fun f=>bj K cv f) (lQ) (av (Pr:=fun f=>bj K cv f) (jx) (av (Pr:=fun f=>bj K cv f) (iH) (aj)))
 have nA6:∀C,W.nsIn K mainGlobals "Turn" = some (some (.ref C))->∀f∈[("row" : Str)],bj K C f:=by intro C hC;cases (er.symm.trans hC);exact av (Pr:=fun f=>bj K cv f) (jx) (aj)
 have nA7:∀C,W.nsIn K mainGlobals "HalfTurn" = some (some (.ref C))->∀f∈[("row" : Str)],bj K C f:=by intro C hC;cases (dm.symm.trans hC);exact av (Pr:=fun f=>bj K bG f) (gv) (aj)
 have nA8:∀C,W.nsIn K mainGlobals "Mirror" = some (some (.ref C))->∀f∈[("row" : Str)],bj K C f:=by intro C hC;cases (dY.symm.trans hC);exact av (Pr:=fun f=>bj K bR f) (iA) (aj)
 have fL1:∀p∈([("Turn", ["row"]),("HalfTurn", ["row"]),("Mirror", ["row"])]:List (Str×List Str)),hV K p:=av (Pr:=hV K) ((fun f hf C hC=>nA6 C hC f hf)) (av (Pr:=hV K) ((fun f hf C hC=>nA7 C hC f hf)) (av (Pr:=hV K) ((fun f hf C hC=>nA8 C hC f hf)) (aj)))
 have nA9:∀C,W.nsIn K mainGlobals "Turn" = some (some (.ref C))->∀f∈[("word" : Str),("row" : Str)],bj K C f:=by intro C hC;cases (er.symm.trans hC);exact av (Pr:=fun f=>bj K cv f) (lQ) (av (Pr:=fun f=>bj K cv f) (jx) (aj))
 have Vz:∀C,W.nsIn K mainGlobals "HalfTurn" = some (some (.ref C))->∀f∈[("word" : Str),("row" : Str)],bj K C f:=by intro C hC;cases (dm.symm.trans hC);exact av (Pr:=fun f=>bj K bG f) (iW) (av (Pr:=fun f=>bj K bG f) (gv) (aj))
 have Vy:∀C,W.nsIn K mainGlobals "Mirror" = some (some (.ref C))->∀f∈[("word" : Str),("row" : Str)],bj K C f:=by intro C hC;cases (dY.symm.trans hC);exact av (Pr:=fun f=>bj K bR f) (jQ) (av (Pr:=fun f=>bj K bR f) (iA) (aj))
 have fL2:∀p∈([("Turn", ["word", "row"]),("HalfTurn", ["word", "row"]),("Mirror", ["word", "row"])]:List (Str×List Str)),hV K p:=av (Pr:=hV K) ((fun f hf C hC=>nA9 C hC f hf)) (av (Pr:=hV K) ((fun f hf C hC=>Vz C hC f hf)) (av (Pr:=hV K) ((fun f hf C hC=>Vy C hC f hf)) (aj)))
 have D60:bV l.prog w K mg base 1 "_law_cell" kX:=bf F60 RU (aa5 X G a60) b60 (by decide +kernel) (aY (aj) (aj) aU aT aS aR ay hbl) wm
 have D63:bV l.prog w K mg base 1 "_law_number" kW:=bf F63 RQ (aa5 X G a63) b63 (by decide +kernel) (aY (aj) (aj) aU aT aS aR ay hbl) sK
 have D64:bV l.prog w K mg base 2 "_law_numbers" ge:=bf F64 RP (aa5 X G a64) b64 (by decide +kernel) (aY (cL D60 (cL D63 (aj))) (aj) aU aT aS aR ay hbl) bF.self
 have D72:bV l.prog w K mg base 3 "_law_other" jr:=bf F72 RH (aa5 X G a72) b72 (by decide +kernel) (aY (cL D60 (cL D64 (aj))) (aj) aU aT aS aR ay hbl) bF.self
 have D14:bV l.prog w K mg base 1 "shared_by" jE:=bf F14 Ss (aa5 X G a14) b14 (by decide +kernel) (aY (aj) (aj) aU aT aS aR ay hbl) bF.self
 have D13:bV l.prog w K mg base 2 "common_divisor" df:=bf F13 Su (aa5 X G a13) b13 (by decide +kernel) (aY (cL D14 (aj)) (aj) aU aT aS aR ay hbl) lA
 have D15:bV l.prog w K mg base 1 "shortened" fZ:=bf F15 Sr (aa5 X G a15) b15 (by decide +kernel) (aY (aj) (aj) aU aT aS aR ay hbl) bF.self
 have D16:bV l.prog w K mg base 3 "upright" fi:=bf F16 Sq (aa5 X G a16) b16 (by decide +kernel) (aY (cL D13 (cL D15 (aj))) (aj) aU aT aS aR ay hbl) bF.self
 have D20:bV l.prog w K mg base 3 "lowest" kZ:=bf F20 Sn (aa5 X G a20) b20 (by decide +kernel) (aY (cL D13 (cL D15 (aj))) (aj) aU aT aS aR ay hbl) bF.self
 have D22:bV l.prog w K mg base 4 "table_of" fQ:=bf F22 Sm (aa5 X G a22) b22 (by decide +kernel) (aY (cL D16 (cL D20 (aj))) (aj) aU aT aS aR ay hbl) bF.self
 have D73:bV l.prog w K mg base 1 "_law_parallel" gC:=bf F73 RG (aa5 X G a73) b73 (by decide +kernel) (aY (aj) (aj) aU aT aS aR ay hbl) pT
 have cm:cW l.prog w K mg base 1 "HalfTurn" "table" aZ:=du tP ud dm fY ⟨nk,nl,sZ⟩ yK (cx (aj) (aj) aU aT aS aR ay (fL0) (aj) hbl) bF.self
 have cF:cW l.prog w K mg base 1 "Mirror" "table" aZ:=du tP ud dY ir ⟨oK,oM,sZ⟩ yK (cx (aj) (aj) aU aT aS aR ay (fL0) (aj) hbl) bF.self
 have dA:cW l.prog w K mg base 1 "Turn" "table" aZ:=du tP ud er gX ⟨sD,sE,sZ⟩ yK (cx (aj) (aj) aU aT aS aR ay (fL0) (aj) hbl) bF.self
 have D53:bV l.prog w K mg base 2 "corner_number" eM:=bf F53 R0 (aa5 X G a53) b53 (by decide +kernel) (cx (aj) (aj) aU aT aS aR ay (aj) (cO (cM dA (by decide) (aj)) (cO (cM cm (by decide) (aj)) (cO (cM cF (by decide) (aj)) (aj)))) hbl) bF.self
 have D11:bV l.prog w K mg base 1 "other_signed" fO:=bf F11 Sv (aa5 X G a11) b11 (by decide +kernel) (aY (aj) (aj) aU aT aS aR ay hbl) nq
 have D17:bV l.prog w K mg base 1 "added_products" fk:=bf F17 So (aa5 X G a17) b17 (by decide +kernel) (aY (aj) (aj) aU aT aS aR ay hbl) bF.self
 have D24:bV l.prog w K mg base 2 "determinant" iD:=bf F24 Sk (aa5 X G a24) b24 (by decide +kernel) (aY (cL D17 (aj)) (aj) aU aT aS aR ay hbl) bF.self
 have D23:bV l.prog w K mg base 3 "table_fault" gi:=bf F23 Sl (aa5 X G a23) b23 (by decide +kernel) (aY (cL D17 (cL D24 (aj))) (av (Pr:=lf mg K) (vj (ds:=[.tup [.int 0,.int 0],.tup [.int 0,.int 1],.tup [.int 0,.int 2],.tup [.int 1,.int 1],.tup [.int 1,.int 2],.tup [.int 2,.int 2]]) (vs:=[.ref yD,.ref yC,.ref yB,.ref yA,.ref yz,.ref yy]) (aa5 X G g2) m2 (show 6<=sizeLine by decide) (.cons rfl (.cons rfl (.cons rfl (.cons rfl (.cons rfl (.cons rfl (.nil))))))) (fun H P=>ar.cons (fu (ns:=[0,0]) VN (show 2<=sizeLine by decide) (.cons ⟨_,rfl⟩ (.cons ⟨_,rfl⟩ (.nil))) H P) (ar.cons (fu (ns:=[0,1]) VM (show 2<=sizeLine by decide) (.cons ⟨_,rfl⟩ (.cons ⟨_,rfl⟩ (.nil))) H P) (ar.cons (fu (ns:=[0,2]) VL (show 2<=sizeLine by decide) (.cons ⟨_,rfl⟩ (.cons ⟨_,rfl⟩ (.nil))) H P) (ar.cons (fu (ns:=[1,1]) VJ (show 2<=sizeLine by decide) (.cons ⟨_,rfl⟩ (.cons ⟨_,rfl⟩ (.nil))) H P) (ar.cons (fu (ns:=[1,2]) VI (show 2<=sizeLine by decide) (.cons ⟨_,rfl⟩ (.cons ⟨_,rfl⟩ (.nil))) H P) (ar.cons (fu (ns:=[2,2]) VH (show 2<=sizeLine by decide) (.cons ⟨_,rfl⟩ (.cons ⟨_,rfl⟩ (.nil))) H P) (ar.nil)))))))) (aj)) aU aT aS aR ay hbl) bF.self
 have D26:bV l.prog w K mg base 1 "multiples" jF:=bf F26 Si (aa5 X G a26) b26 (by decide +kernel) (aY (aj) (aj) aU aT aS aR ay hbl) bF.self
 have D25:bV l.prog w K mg base 4 "number_of" dn:=bf F25 Sj (aa5 X G a25) b25 (by decide +kernel) (aY (cL D23 (cL D16 (cL D26 (aj)))) (aj) aU aT aS aR ay hbl) bF.self
 have D10:bV l.prog w K mg base 1 "plain_product" dP:=bf F10 Sw (aa5 X G a10) b10 (by decide +kernel) (aY (aj) (aj) aU aT aS aR ay hbl) mv
 have D55:bV l.prog w K mg base 5 "staying_spots" gD:=bf F55 RY (aa5 X G a55) b55 (by decide +kernel) (cx (cL D53 (cL D11 (cL D25 (cL D10 (aj))))) (av (Pr:=lf mg K) (vj (ds:=[.tup [.int 1,.int 0,.int 0,.int 0],.tup [.int 0,.int 1,.int 0,.int 0],.tup [.int 0,.int 0,.int 1,.int 0],.tup [.int 0,.int 0,.int 0,.int 1]]) (vs:=[.ref yx,.ref yw,.ref yv,.ref yt]) (aa5 X G g3) m3 (show 4<=sizeLine by decide) (.cons rfl (.cons rfl (.cons rfl (.cons rfl (.nil))))) (fun H P=>ar.cons (fu (ns:=[1,0,0,0]) VG (show 4<=sizeLine by decide) (.cons ⟨_,rfl⟩ (.cons ⟨_,rfl⟩ (.cons ⟨_,rfl⟩ (.cons ⟨_,rfl⟩ (.nil))))) H P) (ar.cons (fu (ns:=[0,1,0,0]) VF (show 4<=sizeLine by decide) (.cons ⟨_,rfl⟩ (.cons ⟨_,rfl⟩ (.cons ⟨_,rfl⟩ (.cons ⟨_,rfl⟩ (.nil))))) H P) (ar.cons (fu (ns:=[0,0,1,0]) VE (show 4<=sizeLine by decide) (.cons ⟨_,rfl⟩ (.cons ⟨_,rfl⟩ (.cons ⟨_,rfl⟩ (.cons ⟨_,rfl⟩ (.nil))))) H P) (ar.cons (fu (ns:=[0,0,0,1]) VD (show 4<=sizeLine by decide) (.cons ⟨_,rfl⟩ (.cons ⟨_,rfl⟩ (.cons ⟨_,rfl⟩ (.cons ⟨_,rfl⟩ (.nil))))) H P) (ar.nil)))))) (aj)) aU aT aS aR ay (aj) (cO (cM dA (by decide) (aj)) (cO (cM cm (by decide) (aj)) (cO (cM cF (by decide) (aj)) (aj)))) hbl) bF.self
 have D6:bV l.prog w K mg base 1 "less" Bo:=bf F6 ZE (aa5 X G a6) b6 (by decide +kernel) (aY (aj) (aj) aU aT aS aR ay hbl) bF.self
 have D8:bV l.prog w K mg base 1 "many_times" mx:=bf F8 ZC (aa5 X G a8) b8 (by decide +kernel) (aY (aj) (aj) aU aT aS aR ay hbl) bF.self
 have D57:bV l.prog w K mg base 2 "brought_below" fC:=bf F57 RW (aa5 X G a57) b57 (by decide +kernel) (aY (cL D6 (cL D8 (aj))) (aj) aU aT aS aR ay hbl) bF.self
 have D58:bV l.prog w K mg base 3 "reduced" jp:=bf F58 RV (aa5 X G a58) b58 (by decide +kernel) (aY (cL D57 (aj)) (aj) aU aT aS aR ay hbl) bF.self
 have D56:bV l.prog w K mg base 3 "swept" rC:=bf F56 RX (aa5 X G a56) b56 (by decide +kernel) (aY (cL D57 (aj)) (aj) aU aT aS aR ay hbl) bF.self
 have D54:bV l.prog w K mg base 6 "base_of" js:=bf F54 RZ (aa5 X G a54) b54 (by decide +kernel) (aY (cL D55 (cL D58 (cL D56 (aj)))) (aj) aU aT aS aR ay hbl) bF.self
 have D65:bV l.prog w K mg base 1 "_law_divisor" fw:=bf F65 RO (aa5 X G a65) b65 (by decide +kernel) (aY (aj) (aj) aU aT aS aR ay hbl) rA
 have D61:bV l.prog w K mg base 1 "_law_whole" my:=bf F61 RT (aa5 X G a61) b61 (by decide +kernel) (aY (aj) (aj) aU aT aS aR ay hbl) bF.self
 have D62:bV l.prog w K mg base 2 "_law_tuple" sy:=bf F62 RS (aa5 X G a62) b62 (by decide +kernel) (aY (cL D61 (aj)) (aj) aU aT aS aR ay hbl) bF.self
 have D69:bV l.prog w K mg base 3 "_law_is_table" jd:=bf F69 RK (aa5 X G a69) b69 (by decide +kernel) (aY (cL D65 (cL D61 (cL D62 (aj)))) (aj) aU aT aS aR ay hbl) bF.self
 have D70:bV l.prog w K mg base 4 "_law_stands" iN:=bf F70 RJ (aa5 X G a70) b70 (by decide +kernel) (aY (cL D69 (aj)) (aj) aU aT aS aR ay hbl) bF.self
 have D71:bV l.prog w K mg base 2 "_law_told" ld:=bf F71 RI (aa5 X G a71) b71 (by decide +kernel) (aY (cL D65 (aj)) (aj) aU aT aS aR ay hbl) bF.self
 have D50:bV l.prog w K mg base 1 "upright_axis" gZ:=bf F50 R3 (aa5 X G a50) b50 (by decide +kernel) (aY (aj) (aj) aU aT aS aR ay hbl) bF.self
 have D49:bV l.prog w K mg base 2 "two_axes" fP:=bf F49 R4 (aa5 X G a49) b49 (by decide +kernel) (aY (cL D50 (cL D10 (aj))) (aj) aU aT aS aR ay hbl) bF.self
 have D41:bV l.prog w K mg base 5 "half_table" gH:=bf F41 Sb (aa5 X G a41) b41 (by decide +kernel) (aY (cL D22 (aj)) (aj) aU aT aS aR ay hbl) bF.self
 have za:cu l.prog w K mg base eO 1 tG _ ["self", "word", "row", "fractions"] (Dz K ["word", "row", "fractions"]):=G9 EB rfl IO (av (Pr:=fun x=>gB (ae (aD (ah 37) 0)) x) (Or.inl rfl) (av (Pr:=fun x=>gB (ae (aD (ah 37) 0)) x) (Or.inl rfl) (av (Pr:=fun x=>gB (ae (aD (ah 37) 0)) x) (Or.inl rfl) (av (Pr:=fun x=>gB (ae (aD (ah 37) 0)) x) (Or.inl rfl) (aj))))) (av (Pr:=fun x=>fR x=true) (rfl) (av (Pr:=fun x=>fR x=true) (rfl) (av (Pr:=fun x=>fR x=true) (rfl) (av (Pr:=fun x=>fR x=true) (rfl) (aj))))) rfl (by decide) (by decide) (by decide)
 have P7:cu l.prog w K mg base eO 6 o3 _ ["self", "axis"] (rL K "HalfTurn" b9):=wU (n := "HalfTurn") (b := "Deed") Ew II (aY (cL D16 (cL D41 (aj))) (aj) aU aT aS aR ay hbl) (za.mono (by decide)) yL tf rfl (aa5 X G q9) qP qr qT rfl rfl rfl (by decide +kernel) rfl (by decide) nA3
 have y9:pX l.prog w K mg base 7 "HalfTurn" b9:=uE oW ⟨vV,uQ,uR,vm⟩ P7 (aa5 X G dm) dm fY PX (by decide +kernel)
 have D47:bV l.prog w K mg base 8 "half_turns" gF:=bf F47 R6 (aa5 X G a47) b47 (by decide +kernel) (cx (cL D49 (cL D25 (cR y9 (aj)))) (aj) aU aT aS aR ay (aj) (cO (cM dA (by decide) (aj)) (cO (cM cm (by decide) (aj)) (cO (cM cF (by decide) (aj)) (aj)))) hbl) bF.self
 have D7:bV l.prog w K mg base 1 "opposite" pV:=bf F7 ZD (aa5 X G a7) b7 (by decide +kernel) (aY (aj) (aj) aU aT aS aR ay hbl) bF.self
 have P6:cu l.prog w K mg base eO 6 o0 _ ["self", "axis"] (rL K "Mirror" cw):=Cn (n := "Mirror") (b := "Deed") Eu IG (aY (cL D41 (cL D16 (cL D7 (aj)))) (aj) aU aT aS aR ay hbl) (za.mono (by decide)) yL tf rfl (aa5 X G q9) qP qr qT rfl rfl rfl (by decide +kernel) rfl (by decide) rfl rfl (by decide) (by decide) rfl nA4
 have y8:pX l.prog w K mg base 7 "Mirror" cw:=uE vW ⟨zX,yh,yi,yr⟩ P6 (aa5 X G dY) dY ir PU (by decide +kernel)
 have D48:bV l.prog w K mg base 8 "mirrors" jq:=bf F48 R5 (aa5 X G a48) b48 (by decide +kernel) (cx (cL D49 (cL D25 (cR y8 (aj)))) (aj) aU aT aS aR ay (aj) (cO (cM dA (by decide) (aj)) (cO (cM cm (by decide) (aj)) (cO (cM cF (by decide) (aj)) (aj)))) hbl) bF.self
 have D28:bV l.prog w K mg base 2 "each_with" nE:=bf F28 Sf (aa5 X G a28) b28 (by decide +kernel) (aY (cL D17 (aj)) (aj) aU aT aS aR ay hbl) bF.self
 have D27:bV l.prog w K mg base 4 "behind" og:=uY (GH (pre:=(ak (ah 27)).take 2) (post:=(ak (ah 27)).drop 3) F27 Sh (aY (cL D20 (cL D28 (aj))) (aj) aU aT aS aR ay hbl) rfl rfl rfl rfl rfl rfl) (aa5 X G a27) k27 b27 (by decide +kernel)
 have D74:bV l.prog w K mg base 9 "_law_pairs" mz:=bf F74 RF (aa5 X G a74) b74 (by decide +kernel) (cx (cL D47 (cL D48 (cL D27 (aj)))) (aj) aU aT aS aR ay (aj) (cO (cM dA (by decide) (aj)) (cO (cM cm (by decide) (aj)) (cO (cM cF (by decide) (aj)) (aj)))) hbl) bF.self
 have D68:bV l.prog w K mg base 1 "_law_squares" il:=bf F68 RL (aa5 X G a68) b68 (by decide +kernel) (aY (aj) (aj) aU aT aS aR ay hbl) rq
 have D66:bV l.prog w K mg base 1 "_law_product" jD:=bf F66 RN (aa5 X G a66) b66 (by decide +kernel) (aY (aj) (aj) aU aT aS aR ay hbl) rz
 have D67:bV l.prog w K mg base 2 "_law_rows" le:=bf F67 RM (aa5 X G a67) b67 (by decide +kernel) (aY (cL D66 (aj)) (aj) aU aT aS aR ay hbl) bF.self
 have D34:bV l.prog w K mg base 1 "are_figures" iE:=bf F34 Sc (aa5 X G a34) b34 (by decide +kernel) (aY (aj) (av (Pr:=lf mg K) (G3 (aa5 X G g1)) (av (Pr:=lf mg K) (G2 (aa5 X G g0)) (aj))) aU aT aS aR ay hbl) bF.self
 have D33:bV l.prog w K mg base 2 "whole_read" jc:=bf F33 Sd (aa5 X G a33) b33 (by decide +kernel) (aY (cL D34 (aj)) (aj) aU aT aS aR ay hbl) bF.self
 have D43:bV l.prog w K mg base 3 "numbers_read" fg:=uY (wX (Δ:=ju) F43 R9 (aY (cL D33 (aj)) (aj) aU aT aS aR ay hbl) (AG (aj)) nr) (aa5 X G a43) k43 b43 (by decide +kernel)
 have P8:cu l.prog w K mg base eO 5 o7 _ ["self", "numbers"] (rL K "Turn" cg):=wU (n := "Turn") (b := "Deed") EA IN (aY (cL D16 (cL D22 (aj))) (aj) aU aT aS aR ay hbl) (za.mono (by decide)) yL tf rfl (aa5 X G q9) qP qr qT rfl rfl rfl (by decide +kernel) rfl (by decide) nA5
 have qd:pX l.prog w K mg base 6 "Turn" cg:=uE oW ⟨Gm,Co,Cp,CG⟩ P8 (aa5 X G er) er gX P3 (by decide +kernel)
 have D44:bV l.prog w K mg base 8 "deed_by" iy:=bf F44 R8 (aa5 X G a44) b44 (by decide +kernel) (aY (cR qd (cR y9 (cR y8 (aj)))) (aj) aU aT aS aR ay hbl) bF.self
 have D42:bV l.prog w K mg base 9 "deed_read" fx:=uY (wX (Δ:=mE) F42 Sa (aY (cL D43 (cL D44 (aj))) (aj) aU aT aS aR ay hbl) (AG (av (Pr:=fun q:Str×List (Str×Int)=>mD l.prog w K mg q.1 q.2) (Pk (kvs:=[("turn", 4),("half", 3),("mirror", 3)]) (ts:=[(Do,Dr),(Dn,Dq),(Dm,Dp)]) (aa5 X G g4) e4 (by decide +kernel) rfl m4) (aj))) rB) (aa5 X G a42) k42 b42 (by decide +kernel)
 have D46:bV l.prog w K mg base 7 "turn_of" mw:=bf F46 R7 (aa5 X G a46) b46 (by decide +kernel) (aY (cL D25 (cR qd (aj))) (aj) aU aT aS aR ay hbl) bF.self
 have pZ:cW l.prog w K mg base 2 "HalfTurn" "same" dM:=du tO uc dm fY ⟨nQ,nT,sY⟩ yJ (cx (aj) (aj) aU aT aS aR ay (fL0) (cO (cM dA (by decide) (aj)) (cO (cM cm (by decide) (aj)) (cO (cM cF (by decide) (aj)) (aj)))) hbl) bF.self
 have sO:cW l.prog w K mg base 2 "Mirror" "same" dM:=du tO uc dY ir ⟨qF,qL,sY⟩ yJ (cx (aj) (aj) aU aT aS aR ay (fL0) (cO (cM dA (by decide) (aj)) (cO (cM cm (by decide) (aj)) (cO (cM cF (by decide) (aj)) (aj)))) hbl) bF.self
 have wt:cW l.prog w K mg base 2 "Turn" "same" dM:=du tO uc er gX ⟨uz,uG,sY⟩ yJ (cx (aj) (aj) aU aT aS aR ay (fL0) (cO (cM dA (by decide) (aj)) (cO (cM cm (by decide) (aj)) (cO (cM cF (by decide) (aj)) (aj)))) hbl) bF.self
 have lw:cW l.prog w K mg base 1 "Turn" "number" iF:=du Ez IM er gX ⟨qC,qI,DY⟩ P0 (cx (aj) (aj) aU aT aS aR ay (fL1) (aj) hbl) bF.self
 have sL:cW l.prog w K mg base 7 "Turn" "behind" iG:=du Ex IJ er gX ⟨qD,qJ,DW⟩ PY (cx (cL D10 (cR qd (aj))) (aj) aU aT aS aR ay (fL1) (cO (cM lw (by decide) (aj)) (aj)) hbl) bF.self
 have D32:bV l.prog w K mg base 1 "row_text" kY:=bf F32 Se (aa5 X G a32) b32 (by decide +kernel) (aY (aj) (aj) aU aT aS aR ay hbl) bF.self
 have pY:cW l.prog w K mg base 2 "HalfTurn" "told" eT:=du tN ua dm fY ⟨nP,nS,sX⟩ yI (cx (cL D32 (aj)) (aj) aU aT aS aR ay (fL2) (aj) hbl) bF.self
 have sM:cW l.prog w K mg base 2 "Mirror" "told" eT:=du tN ua dY ir ⟨qE,qK,sX⟩ yI (cx (cL D32 (aj)) (aj) aU aT aS aR ay (fL2) (aj) hbl) bF.self
 have wr:cW l.prog w K mg base 2 "Turn" "told" eT:=du tN ua er gX ⟨uy,uF,sX⟩ yI (cx (cL D32 (aj)) (aj) aU aT aS aR ay (fL2) (aj) hbl) bF.self
 have wu:cW l.prog w K mg base 7 "Turn" "back" jG:=du Ey IK er gX ⟨uA,uH,DX⟩ PZ (cx (cL D11 (cR qd (aj))) (aj) aU aT aS aR ay (fL1) (aj) hbl) bF.self
 have p9:cW l.prog w K mg base 8 "HalfTurn" "back" jt:=du Ev IH dm fY ⟨nR,nU,DV⟩ PV (cx (cR y9 (aj)) (aj) aU aT aS aR ay (fL1) (aj) hbl) bF.self
 have sP:cW l.prog w K mg base 8 "Mirror" "back" ln:=du Et IF dY ir ⟨qG,qM,DU⟩ PR (cx (cR y8 (aj)) (aj) aU aT aS aR ay (fL1) (aj) hbl) bF.self
 exact qR F75 RE (cx (cL D64 (cL D72 (cL D22 (cL D73 (cL D54 (cL D70 (cL D25 (cL D71 (cL D74 (cL D53 (cL D68 (cL D67 (cL D42 (cL D46 (cR qd (aj)))))))))))))))) (aj) aU aT aS aR ay (aj) (cO (cM wt (by decide) (cM dA (by decide) (cM lw (by decide) (cM sL (by decide) (cM wr (by decide) (cM wu (by decide) (aj))))))) (cO (cM pZ (by decide) (cM cm (by decide) (cM pY (by decide) (cM p9 (by decide) (aj))))) (cO (cM sO (by decide) (cM cF (by decide) (cM sM (by decide) (cM sP (by decide) (aj))))) (aj)))) hbl) bF.self
theorem walkX{q:Program}{r:W.RowW}{d:DefRec}{kwd:List (Str×Expr)}{run:Value->List Value->Sem Value}{K:Params->W.Frag}{as:List Addr}{n t:Nat}
  (e:∀P,as=(K P).map (·.1)) (h:W.WalkO q loose XP (W.InK K) r d kwd run):W.WalkX q loose XP (W.X.obsZ as) (W.X.valZ K n t) r d kwd run :=
 fun w _ _ mg mb G y a o pm cd doc dV kV h1 h2 h3 h4 h5 h6 args vals as' L =>
  h w _ _ mg mb G (W.InK.keeps w _ _ (W.X.z_facts e y).2.1 L.keeps) a o pm cd doc dV kV h1 h2 h3 h4 h5 h6 args vals as'
theorem walk{l:W.OpenLaw}{q:Program}{YP:World->Heap->Prop}{d:DefRec}{K:Params->W.Frag}(hn:l.most=some 63)(hdf:d.params.defaults=[])
  (hY:∀(w:World) (h:Heap),YP w h->(K w.params).In h)
  (F:∀(w:World) (mg:Str->Option Value) (fa:Addr) (h:Heap),(K w.params).In h->h.Ns mainGlobals mg->mg d.name=some (.ref fa) ->
   ∃fd:FuncData,(∀(s:Shared) (u:Value),BindsTo s fd ⟨[u],[]⟩ [("_law_script", u)])/\∀base:Heap,(K w.params).In base->base.Ns mainGlobals mg->cu l.prog w (K w.params) mg base eO 10 fa fd ["_law_script"] (lg (K w.params) tJ)) :
  W.WalkO q loose XP YP l.row.toRowW d [] (fun f vs=>PySem.call f vs) :=
 L2.walk_ofB (n:=63) (k:=10) (x := "_law_script") (CX:=fun _=>eO) (sp:=fun w=>lg (K w.params) tJ) hn (by decide) hdf ⟨rfl,by decide,by decide⟩ hY F (fun _ _ a ns hl hb hO hS=>K1 hO hS (Cj ns hl hb)) fun _ _ _ _ _ z=>z
end K
namespace PySem.W.Fast
theorem tw2633029457902758706:True:=.intro
theorem tw9571156951276531154:True:=.intro
theorem tw7278373130543845947:True:=.intro
theorem tw2090430852469361356:True:=.intro
theorem tw17729632527198177015:True:=.intro
theorem tw13898447874880450715:True:=.intro
theorem tw1641037747978658250:True:=.intro
theorem tw11393490334712779278:True:=.intro
theorem tw4436070359069350099:True:=.intro
theorem tw16084878637057561279:True:=.intro
theorem tw8147115980790615426:True:=.intro
theorem tw522377085157746481:True:=.intro
theorem tw3254930736649903525:True:=.intro
theorem tw12404845975260443857:True:=.intro
theorem tw2840052970734382147:True:=.intro
theorem tw3590025140223897165:True:=.intro
theorem tw3149097638408452108:True:=.intro
theorem tw3408125773939681255:True:=.intro
theorem tw18386514807150790364:True:=.intro
theorem tw8789532985182104451:True:=.intro
theorem tw11519935295941073556:True:=.intro
theorem tw15343267497128145659:True:=.intro
theorem tw13698770948740311662:True:=.intro
theorem tw6281947525412211545:True:=.intro
theorem tw8138952862692647408:True:=.intro
theorem tw11493959512917660818:True:=.intro
theorem tw6864655940341890322:True:=.intro
theorem tw7185885661740754627:True:=.intro
theorem tw13880832666574474139:True:=.intro
theorem tw6982422495860587033:True:=.intro
theorem tw1574265150157359210:True:=.intro
theorem tw18204071907203719019:True:=.intro
theorem tw18401600530938020820:True:=.intro
theorem tw1295280282928455242:True:=.intro
theorem tw15433928890869512150:True:=.intro
theorem tw13458203325822344384:True:=.intro
theorem tw6960445812358237412:True:=.intro
theorem tw17042586905785027610:True:=.intro
theorem tw18002812943520035170:True:=.intro
theorem tw2881414918393547584:True:=.intro
theorem tw10919239733432559924:True:=.intro
theorem tw13444025654679600392:True:=.intro
theorem tw10726348889779077158:True:=.intro
theorem tw11721461320134630274:True:=.intro
theorem tw752147901008587257:True:=.intro
theorem tw11580059573629686566:True:=.intro
theorem tw6963043759954550198:True:=.intro
theorem tw3679695199445236411:True:=.intro
theorem tw4589016762387784273:True:=.intro
theorem tw7623102360185195122:True:=.intro
theorem tw4019341427678263858:True:=.intro
theorem tw4789289093275190586:True:=.intro
theorem tw10919125964195863600:True:=.intro
theorem tw1558233787456220312:True:=.intro
theorem tw8797926089089528492:True:=.intro
theorem tw2290925200746988732:True:=.intro
theorem tw5116312442483136083:True:=.intro
theorem tw9704504360627171911:True:=.intro
theorem tw15683462962419101341:True:=.intro
theorem tw2350830154769134358:True:=.intro
theorem tw13892084738290389513:True:=.intro
theorem tw1337667705070958890:True:=.intro
theorem tw16226778239749119287:True:=.intro
theorem tw12009246029472820503:True:=.intro
theorem tw15000428836641667112:True:=.intro
theorem tw1138964325157328524:True:=.intro
theorem tw14688364942296356733:True:=.intro
theorem tw1965279738800753630:True:=.intro
theorem tw8494412402340245443:True:=.intro
theorem tw3791826658776873821:True:=.intro
theorem tw1494658730917520499:True:=.intro
theorem tw13514154063336160500:True:=.intro
theorem tw3591783524603206267:True:=.intro
theorem tw8703963720177715730:True:=.intro
theorem tw4399017111657791110:True:=.intro
theorem tw9679269477993593965:True:=.intro
theorem tw17786664860862908855:True:=.intro
theorem tw14656703067826146362:True:=.intro
theorem tw3500508984896134443:True:=.intro
theorem tw3414448053751989624:True:=.intro
theorem tw18075738692610251702:True:=.intro
theorem tw2628971443572427417:True:=.intro
theorem tw1377967525649249489:True:=.intro
theorem tw6910347383568918345:True:=.intro
theorem tw5659898497817152110:True:=.intro
theorem tw15903638023275980386:True:=.intro
theorem tw14137702175587423969:True:=.intro
theorem tw4715171590683772776:True:=.intro
theorem tw6523472090645626060:True:=.intro
theorem tw736037674641453229:True:=.intro
theorem tw18038279657240723254:True:=.intro
theorem tw15423438463956685428:True:=.intro
theorem tw7850637449478513520:True:=.intro
theorem tw2233168159571267980:True:=.intro
theorem tw14193995079833626118:True:=.intro
theorem tw10826578822558403167:True:=.intro
theorem tw14464303440440519986:True:=.intro
theorem tw2455193453771307152:True:=.intro
theorem tw12187160037160371567:True:=.intro
theorem tw3153161182127530393:True:=.intro
theorem tw2036252208785817306:True:=.intro
theorem tw5469898116064860861:True:=.intro
theorem tw18347744943292183342:True:=.intro
theorem tw6837845539688102527:True:=.intro
theorem tw15066732704004697337:True:=.intro
theorem tw4429629416883222386:True:=.intro
theorem tw17192733147063842339:True:=.intro
theorem tw11482711369519902192:True:=.intro
theorem tw16504448108263621798:True:=.intro
theorem tw3735994618743063954:True:=.intro
theorem tw15110783323310016051:True:=.intro
theorem tw15105741965508763742:True:=.intro
theorem tw1973451564715815166:True:=.intro
theorem tw14124085979278199901:True:=.intro
theorem tw598511477605167018:True:=.intro
theorem tw4354202802090120343:True:=.intro
theorem tw6920017984704690559:True:=.intro
theorem tw7040198235284748874:True:=.intro
theorem tw7261448532647423256:True:=.intro
theorem tw16712902708088766828:True:=.intro
theorem tw17603024653990650856:True:=.intro
theorem tw11327760522579824144:True:=.intro
theorem tw15304947991050145580:True:=.intro
theorem tw16420724465548309685:True:=.intro
theorem tw16228752462515835877:True:=.intro
theorem tw2922296768039909153:True:=.intro
theorem tw8228379772806602413:True:=.intro
theorem tw2989609004711177649:True:=.intro
theorem tw15975069528925886764:True:=.intro
theorem tw290204963421400114:True:=.intro
theorem tw9186030668071956010:True:=.intro
theorem tw15098924103873497173:True:=.intro
theorem tw5066584178575951951:True:=.intro
theorem tw9210016792328611244:True:=.intro
theorem tw514219562458053005:True:=.intro
theorem tw6923337528670275576:True:=.intro
theorem tw2606413383612853622:True:=.intro
theorem tw391818434151148935:True:=.intro
theorem tw9839059580390611356:True:=.intro
theorem tw2043255809596896852:True:=.intro
theorem tw8277339059013085916:True:=.intro
theorem tw16288889439175008952:True:=.intro
theorem tw9790885116290401646:True:=.intro
theorem tw186758754652921785:True:=.intro
theorem tw8791819088421267295:True:=.intro
theorem tw11988769269033969944:True:=.intro
theorem tw13858616240954593912:True:=.intro
theorem tw15336066777578599030:True:=.intro
theorem tw9130551050128695748:True:=.intro
theorem tw8236711943388778372:True:=.intro
theorem tw9692205396903154784:True:=.intro
theorem tw8412164686289456546:True:=.intro
theorem tw8603126517216617249:True:=.intro
theorem tw18268921844537964814:True:=.intro
theorem tw675596001983391138:True:=.intro
theorem tw5724259957817558640:True:=.intro
theorem tw6962401474251734452:True:=.intro
theorem tw5327103195016248452:True:=.intro
theorem tw4123761295340775277:True:=.intro
theorem tw313764902532711976:True:=.intro
theorem tw9882752198663784806:True:=.intro
theorem tw9263226267557257134:True:=.intro
theorem tw4846369604090811972:True:=.intro
theorem tw5636648499721519997:True:=.intro
theorem tw6878626788915626020:True:=.intro
theorem tw11278384483363526768:True:=.intro
theorem tw6494125815179892515:True:=.intro
theorem tw7936568228992754914:True:=.intro
theorem tw11782700520481602405:True:=.intro
theorem tw13837944803645833533:True:=.intro
theorem tw8112604404566547108:True:=.intro
theorem tw12516277978174151738:True:=.intro
theorem tw6296831554453984009:True:=.intro
theorem tw2538909893988454610:True:=.intro
theorem tw1333470661948717083:True:=.intro
theorem tw2644475305432272095:True:=.intro
theorem tw12384761265520276413:True:=.intro
theorem tw13327560803799603149:True:=.intro
theorem tw10374137475398562876:True:=.intro
theorem tw8498852533889583948:True:=.intro
theorem tw11821734414424753035:True:=.intro
theorem tw15485386545858517803:True:=.intro
theorem tw6672109598006675080:True:=.intro
theorem tw4879292555564115798:True:=.intro
theorem tw3688707604157701823:True:=.intro
theorem tw7260713643254964822:True:=.intro
theorem tw6526197789284483116:True:=.intro
theorem tw11906870286959834994:True:=.intro
theorem tw15260420001954202004:True:=.intro
theorem tw6384531028895382365:True:=.intro
theorem tw6959948015947992710:True:=.intro
theorem tw39129662194992718:True:=.intro
theorem tw16728279823591744520:True:=.intro
theorem tw11612565334590726911:True:=.intro
theorem tw7971971968936514964:True:=.intro
theorem tw2572789947336949540:True:=.intro
theorem tw1678964051502549272:True:=.intro
theorem tw9730305749339607766:True:=.intro
theorem tw12255373570833936962:True:=.intro
theorem tw13233782899435948646:True:=.intro
theorem tw12082451548538657714:True:=.intro
theorem tw17841967335705122489:True:=.intro
theorem tw15786032823016237474:True:=.intro
theorem tw9619601317584182163:True:=.intro
theorem tw7055068780009673081:True:=.intro
theorem tw9921203190657398911:True:=.intro
theorem tw11509397130295086129:True:=.intro
theorem tw15737817943506783219:True:=.intro
theorem tw17979501870133365587:True:=.intro
theorem tw17669229277396155944:True:=.intro
theorem tw12439467267321886795:True:=.intro
theorem tw4312846618122582558:True:=.intro
theorem tw5145490613376623554:True:=.intro
theorem tw12811434721872440544:True:=.intro
theorem tw8636135925280423000:True:=.intro
theorem tw8082440064638913093:True:=.intro
theorem tw6694047417480921052:True:=.intro
theorem tw5315797145685586299:True:=.intro
theorem tw8299508998685327776:True:=.intro
theorem tw8653296074034604283:True:=.intro
theorem tw5859926080797281731:True:=.intro
theorem tw16732686237309324462:True:=.intro
theorem tw15078964234296730307:True:=.intro
theorem tw7736686196218403087:True:=.intro
theorem tw13801461095712564599:True:=.intro
theorem tw2846904224669182014:True:=.intro
theorem tw16608294264514204528:True:=.intro
theorem tw13294893336460601466:True:=.intro
theorem tw7662745484100731743:True:=.intro
theorem tw16464882713555315694:True:=.intro
theorem tw886087280738786506:True:=.intro
theorem tw11709478824828408951:True:=.intro
theorem tw7760441705023311375:True:=.intro
theorem tw3546660379468318645:True:=.intro
theorem tw7452644364084945983:True:=.intro
theorem tw11428249726799789572:True:=.intro
theorem tw8753883249285309070:True:=.intro
theorem tw12779233488639197277:True:=.intro
theorem tw17646754800020399381:True:=.intro
theorem tw8259421416997498204:True:=.intro
theorem tw2430933082196018632:True:=.intro
theorem tw7397144983996577080:True:=.intro
theorem tw7646483818915487390:True:=.intro
theorem tw14361479938053148622:True:=.intro
theorem tw4276837202761688367:True:=.intro
theorem tw13078275635501901728:True:=.intro
theorem tw16758137476976169517:True:=.intro
theorem tw11169328501048056756:True:=.intro
theorem tw6456370247925447178:True:=.intro
theorem tw6680070902859065042:True:=.intro
theorem tw8826254235922212925:True:=.intro
theorem tw3859055733120899225:True:=.intro
theorem tw12669498456775425272:True:=.intro
theorem tw8735816518610587937:True:=.intro
theorem tw9159586406487253350:True:=.intro
theorem tw17591254655214877487:True:=.intro
theorem tw175743860578454019:True:=.intro
theorem tw12659456254995575070:True:=.intro
theorem tw11232095061698011138:True:=.intro
theorem tw1260264094722706236:True:=.intro
theorem tw8721184541964813063:True:=.intro
theorem tw5587485282700607669:True:=.intro
theorem tw13362694800211641188:True:=.intro
theorem tw15150902284254853863:True:=.intro
theorem tw169013026214513309:True:=.intro
theorem tw2746553230743201725:True:=.intro
theorem tw4589748801183121035:True:=.intro
theorem tw11154581299784654518:True:=.intro
theorem tw15318658148551641434:True:=.intro
theorem tw7407690148800683384:True:=.intro
theorem tw15746509526582782099:True:=.intro
theorem tw9791812307433703668:True:=.intro
theorem tw3707646637321596345:True:=.intro
theorem tw16075653407013936545:True:=.intro
theorem tw6234331575423795123:True:=.intro
theorem tw11828695779045063677:True:=.intro
theorem tw9015528883621894555:True:=.intro
theorem tw16482592943342632549:True:=.intro
theorem tw7751006272274402047:True:=.intro
theorem tw7083006111033864411:True:=.intro
theorem tw7412525772719659464:True:=.intro
theorem tw2046209482329572009:True:=.intro
theorem tw14819992828010156992:True:=.intro
theorem tw15405103554101189210:True:=.intro
theorem tw17148544653624592024:True:=.intro
theorem tw7729008609339435483:True:=.intro
theorem tw3094435655358537163:True:=.intro
theorem tw8900700246941009645:True:=.intro
theorem tw6238051272924020851:True:=.intro
theorem tw17712584291788997300:True:=.intro
theorem tw7305674357773612630:True:=.intro
theorem tw8289559096637188141:True:=.intro
theorem tw612352228668553335:True:=.intro
theorem tw1401345065148443967:True:=.intro
theorem tw17697179806136348139:True:=.intro
theorem tw946318508801018033:True:=.intro
theorem tw12812487748944667222:True:=.intro
theorem tw14500385862538479321:True:=.intro
theorem tw11610890840473864292:True:=.intro
theorem tw8564791779918037577:True:=.intro
theorem tw13536984034238618331:True:=.intro
theorem tw1265066369725058472:True:=.intro
theorem tw3214620886648991186:True:=.intro
theorem tw11514516648642270875:True:=.intro
theorem tw9350880818212277881:True:=.intro
theorem tw4034998607251936558:True:=.intro
theorem tw6323776886836509169:True:=.intro
theorem tw978935475837657230:True:=.intro
theorem tw16951579106722418654:True:=.intro
theorem tw18285438390627990303:True:=.intro
theorem tw4560291704416723963:True:=.intro
theorem tw10675521182678053974:True:=.intro
theorem tw13228900202079500271:True:=.intro
theorem tw457225940337914691:True:=.intro
theorem tw5395204190816825800:True:=.intro
theorem tw14785008523967032022:True:=.intro
theorem tw5196500379573807197:True:=.intro
theorem tw9025699094268063810:True:=.intro
theorem tw7365327641061831412:True:=.intro
theorem tw9603069536072209982:True:=.intro
theorem tw16414557803211373122:True:=.intro
theorem tw6827630052287041952:True:=.intro
theorem tw765930003764467061:True:=.intro
theorem tw3754448888974630231:True:=.intro
theorem tw7415753893949056515:True:=.intro
theorem tw12912918401651599730:True:=.intro
theorem tw11353900624008132942:True:=.intro
theorem tw5439137528378004307:True:=.intro
theorem tw7812981435555492875:True:=.intro
theorem tw8490235314824600892:True:=.intro
theorem tw17518706425946019683:True:=.intro
theorem tw13136318214740373560:True:=.intro
theorem tw6156562736298588789:True:=.intro
theorem tw604778369144749911:True:=.intro
theorem tw17565526792864566570:True:=.intro
theorem tw3847780610394190852:True:=.intro
theorem tw11283060270788868425:True:=.intro
theorem tw13154220819704985294:True:=.intro
theorem tw13133159193781223496:True:=.intro
theorem tw13184294007243882085:True:=.intro
theorem tw2098188725913143138:True:=.intro
end PySem.W.Fast
namespace PySem.W.Fast
end PySem.W.Fast
open PySem PySem.W PyProof.Rows
set_option maxRecDepth 100000 in
set_option maxHeartbeats 0 in
theorem PySem.Challenge.cw_spaceturns_k58_whole_turns_and_numbers_holds : PySem.Challenge.rw_spaceturns_k58_whole_turns_and_numbers.Holds := by
 w_on;o_law;z_head;(case hw=>w_witness2)
 k_fill
 refine K.walkX (fun _=>rfl) (K.walk (l:=PySem.Challenge.rw_spaceturns_k58_whole_turns_and_numbers) rfl rfl (fun w h Y=>Y) ?F)
 case F =>
  intro w mg fa h KX G hmg
  refine' K.all_mk KX G hmg ?_ ?_ ?_ ?_ ?_ ?_ ?_ ?_ ?_ ?_ ?_ ?_ ?_ ?_ ?_ ?_ ?_ ?_ ?_ ?_ ?_ ?_ ?_ ?_ ?_ ?_ ?_ ?_ ?_ ?_ ?_ ?_ ?_ ?_ ?_ ?_ ?_ ?_ ?_ ?_ ?_ ?_ ?_ ?_ ?_ ?_ ?_ ?_ ?_ ?_ ?_ ?_ ?_ ?_ ?_ ?_ ?_ ?_ ?_ ?_ ?_ ?_ ?_ ?_ ?_ ?_ ?_ ?_ ?_ ?_ ?_ ?_ ?_ ?_ ?_ ?_ ?_ ?_ ?_ ?_ ?_ ?_ ?_ ?_ ?_ ?_ ?_ ?_ ?_ ?_ ?_ ?_ ?_ ?_ ?_ ?_ ?_ ?_ ?_ ?_ ?_ ?_ ?_ ?_ ?_ ?_ ?_ ?_ ?_ ?_ ?_ ?_ ?_ ?_ ?_ ?_ ?_ ?_ ?_ ?_ ?_ ?_ ?_ ?_ ?_ ?_ ?_ ?_ ?_ ?_ ?_ ?_ ?_ ?_ ?_ ?_ ?_ ?_ ?_ ?_ ?_ ?_ ?_ ?_ ?_ ?_ ?_ ?_ ?_ ?_ ?_ ?_ ?_ ?_ ?_ ?_ ?_ ?_ ?_ ?_ ?_ ?_ ?_ ?_ ?_ ?_ ?_ ?_ ?_ ?_ ?_ ?_ ?_ ?_ ?_ ?_ ?_ ?_ ?_ ?_ ?_ ?_ ?_ ?_ ?_ ?_ ?_ ?_ ?_ ?_ ?_ ?_ ?_ ?_ ?_ ?_ ?_ ?_ ?_ ?_ ?_ ?_ ?_ ?_ ?_ ?_ ?_ ?_ ?_ ?_ ?_ ?_ ?_ ?_ ?_ ?_ ?_ ?_ ?_ ?_ ?_ ?_ ?_ ?_ ?_ ?_ ?_ ?_ ?_ ?_ ?_ ?_ ?_ ?_ ?_ ?_ ?_ ?_ ?_ ?_ ?_ ?_ ?_ ?_ ?_ ?_ ?_ ?_ ?_ ?_ ?_ ?_ ?_ ?_ ?_ ?_ ?_ ?_ ?_ ?_ ?_ ?_ ?_ ?_ ?_ ?_ ?_ ?_ ?_ ?_ ?_ ?_ ?_ ?_ ?_ ?_ ?_ ?_ ?_ ?_ ?_ ?_ ?_ ?_ ?_ ?_ ?_ ?_ ?_ ?_ ?_ ?_ ?_ ?_ ?_ ?_ ?_ ?_ ?_ ?_ ?_ ?_ ?_ ?_ ?_ ?_ ?_ ?_ ?_ ?_ ?_ ?_ ?_ ?_ ?_ ?_ ?_ ?_ ?_ ?_ ?_ ?_ ?_ ?_ ?_ ?_ ?_ ?_ ?_ ?_ ?_ ?_ ?_ ?_ ?_ ?_ ?_ ?_ ?_ ?_ ?_ ?_ ?_ ?_ ?_ ?_ ?_ ?_ ?_ ?_
  all_goals try first|k_is|kernel_rfl
