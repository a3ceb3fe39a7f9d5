import PyProof.Rows.All
import Wide.All
import OpenK.AllK
import Wide.FinOn
import Lean
import PyProof.EqAt
import PyProof.EqKinds
import PyProof.TupleCall
import PySem.Challenge.RW_spaceturns_k41_texts_of_no_deed
set_option Elab.async false
set_option linter.all false
set_option maxRecDepth 100000
namespace L2
open PySem PySem.Spec PyProof.Rows
variable{us:List Value}{C a b dx it:Addr}{P:Program}{w:World}{base h:Heap}{o:Obj}{g':Array GenState}{ch fp:List Addr}{qual x:Str}{N ps:List Str}{i j k n:Nat}{M:Model}{A:Around}{E Q:Value->Shared->Prop}{u:Value}{s s':Shared}{c e l tg:Expr}{α:Type}{pins:List (Addr×Obj)}{p pos pos':Pos}{K:W.Frag}{es:List Expr}{op op':CmpOp}{body:List Stmt}{f:Value->Value->Sem Value}{g:Int->Int->Int}{mA mg:Str->Option Value}{pl:Sem Bool}{kw:List (Str×Value)}{fd:FuncData}{outer:List Env}{scope:Scope}
abbrev dz:=Sum Int Str
def Cp:dz->Value->Bool
 | .inl k,v=>Value.isInt k v
 | .inr x,v=>Value.isStrOf x v
def OP(w:World):dz->Int
 | .inl k=>hashInt k
 | .inr x=>hashStr w x
theorem cE:∀{k:dz} {v:Value},Cp k v=true->(∃i t,k=Sum.inl i/\v=Value.int i t)\/(∃x t,k=Sum.inr x/\v=Value.str x t)
 | .inl i,v,h=>by
  obtain⟨t,e⟩:=Value.isInt_shape (k:=i) (v:=v) h
  exact .inl ⟨i,t,rfl,e⟩
 | .inr x,v,h=>by
  obtain⟨t,e⟩:=Value.isStrOf_shape (x:=x) (v:=v) h
  exact .inr ⟨x,t,rfl,e⟩
theorem HH(a b:Int):decide ((Sum.inl a:dz)=Sum.inl b)=(a==b):=by
 by_cases e:a=b
 ·subst e;simp
 ·have h:¬ (Sum.inl a:dz)=Sum.inl b:=fun q=>e (Sum.inl.inj q)
  rw[decide_eq_false h]
  exact(beq_eq_false_iff_ne.mpr e).symm
theorem HE(a b:Str):decide ((Sum.inr a:dz)=Sum.inr b)=decide (a=b):=by
 by_cases e:a=b
 ·subst e;simp
 ·have h:¬ (Sum.inr a:dz)=Sum.inr b:=fun q=>e (Sum.inr.inj q)
  rw[decide_eq_false h,decide_eq_false e]
theorem HG(a:Int)(b:Str):decide ((Sum.inl a:dz)=Sum.inr b)=false:=decide_eq_false (fun q=>nomatch q)
theorem HF(a:Str)(b:Int):decide ((Sum.inr a:dz)=Sum.inl b)=false:=decide_eq_false (fun q=>nomatch q)
def vt(prog:Program)(w:World):PySem.KeyKind prog w dz where
 is:=Cp
 hash:=OP w
 inj:=fun v a b ha hb=>by
  rcases cE ha with⟨i,t,rfl,rfl⟩|⟨x,t,rfl,rfl⟩
  ·rcases cE hb with⟨j,u,rfl,e⟩|⟨y,u,rfl,e⟩
   ·injection e with e1 _;rw[e1]
   ·exact nomatch e
  ·rcases cE hb with⟨j,u,rfl,e⟩|⟨y,u,rfl,e⟩
   ·exact nomatch e
   ·injection e with e1 _;rw[e1]
 byValue:=fun k v h=>by
  rcases cE h with⟨i,t,rfl,rfl⟩|⟨x,t,rfl,rfl⟩<;>rfl
 pyHash:=fun hv h=>by
  rcases cE hv with⟨i,t,rfl,rfl⟩|⟨x,t,rfl,rfl⟩
  ·exact wpAny_pyHash_int h
  ·exact wpAny_pyHash_str h
 eqBool:=fun hu hv h=>by
  rcases cE hu with⟨i,t,rfl,rfl⟩|⟨x,t,rfl,rfl⟩
  ·rcases cE hv with⟨j,u,rfl,rfl⟩|⟨y,u,rfl,rfl⟩
   ·rw[HH]at h;exact wpAny_eqBool_int h
   ·rw[HG]at h;exact SeqAt.EqAt.int_str i t y u _ _ _ _ h
  ·rcases cE hv with⟨j,u,rfl,rfl⟩|⟨y,u,rfl,rfl⟩
   ·rw[HF]at h;exact SeqAt.EqAt.str_int x t j u _ _ _ _ h
   ·rw[HE]at h;exact wpAny_eqBool_str h
 «strs» := fun k x t v h=>by
  rcases cE h with⟨i,u,rfl,e⟩|⟨y,u,rfl,e⟩
  ·exact nomatch e
  ·injection e with e1 _
   subst e1
   cases v<;>rfl
inductive V where
 | non|bl (b:Bool)|int (i:Int)|str (x:Str)|byt (b:Array UInt8)|flt (b:UInt64)|ref (a:Addr)|ty (n:String)
 deriving DecidableEq
def aX:V->Value->Prop
 | .non,u=>u=Value.none
 | .bl b,u=>u=Value.bool b
 | .int i,u => ∃t,u=Value.int i t
 | .str x,u => ∃t,u=Value.str x t
 | .byt b,u => ∃t,u=Value.bytes b t
 | .flt b,u => ∃t,u=Value.float b t
 | .ref a,u=>u=Value.ref a
 | .ty n,u=>u=Value.type n
abbrev aL:List V->List Value->Prop:=Paired aX
theorem aL.length{xs:List V}(r:aL xs us):xs.length=us.length:=Paired.length r
theorem aL.get:∀{xs:List V} {us:List Value} {i:Nat} {x:V},aL xs us->xs[i]?=some x->∃u,us[i]?=some u/\aX x u
 | _,_,_,_,.nil,e=>by simp at e
 | _,_,0,_,.cons r _,e=>by simp at e;subst e;exact⟨_,rfl,r⟩
 | _,_,i+1,x,.cons _ t,e=>by
  obtain⟨u,h1,h2⟩:=aL.get (i:=i) (x:=x) t (by simpa using e)
  exact⟨u,by simpa using h1,h2⟩
theorem aL.set{x:V}{u:Value}(r:aX x u):∀{xs:List V} {us:List Value} (i:Nat),aL xs us->aL (xs.set i x) (us.set i u)
 | _,_,_,.nil=>.nil
 | _,_,0,.cons _ t=>.cons r t
 | _,_,i+1,.cons q t=>.cons q (aL.set r i t)
theorem aL.append:∀{xs ys:List V} {us ws:List Value},aL xs us->aL ys ws->aL (xs++ys) (us++ws)
 | _,_,_,_,.nil,s=>s
 | _,_,_,_,.cons r t,s=>.cons r (aL.append t s)
theorem aL.take:∀{xs:List V} {us:List Value} (n:Nat),aL xs us->aL (xs.take n) (us.take n)
 | _,_,0,_=>.nil
 | _,_,_+1,.nil=>.nil
 | _,_,n+1,.cons r t=>.cons r (aL.take n t)
theorem aL.drop:∀{xs:List V} {us:List Value} (n:Nat),aL xs us->aL (xs.drop n) (us.drop n)
 | _,_,0,r=>r
 | _,_,_+1,.nil=>.nil
 | _,_,n+1,.cons _ t=>aL.drop n t
theorem aL.none_of:∀{xs:List V} {us:List Value} {i:Nat},aL xs us->xs[i]?=none->us[i]?=none:=fun {xs us i} r e=>by
 have h1:=r.length
 have h2:xs.length<=i:=List.getElem?_eq_none_iff.mp e
 exact List.getElem?_eq_none_iff.mpr (by omega)
def gn:Option V->Option Value->Prop
 | some v,some u=>aX v u
 | none,none=>True
 | _,_=>False
def KV{κ:Type}:List (κ×V)->List (κ×Value)->Prop:=Paired fun(p:κ×V) (q:κ×Value)=>p.1=q.1/\aX p.2 q.2
def kV:dz->V
 | .inl i=>.int i
 | .inr x=>.str x
inductive HO where
  | lst (xs:List V)
  | tup (xs:List V)
  | dK (kvs:List (dz×V))|dT (kvs:List (List dz×V))
  | set (S:Int->Bool) (n:Nat)
  | ins (C dx:Addr) (fs:List (Str×V))
  | own (x:Addr)
  | xd (fs:List (Str×V))
  | met (f x:Addr)
  | rng (lo hi:Int)
  | frz (o:Obj) (u:HO)
  | tbl (ps:Array Value)
  | ext (φ:Heap->Prop)
abbrev Hp:=Addr->Option HO
def aM(H:Hp)(a:Addr)(o:HO):Hp:=fun b=>if b=a then some o else H b
theorem aI{H:Hp}{o:HO}:aM H a o a=some o:=by unfold aM;rw[if_pos rfl]
theorem ay{H:Hp}{o:HO}(h:b≠a):aM H a o b=H b:=by unfold aM;rw[if_neg h]
theorem lA{H:Hp}{o u:HO}:aM (aM H a o) a u=aM H a u:=by
 funext b;unfold aM;split<;>rfl
theorem iS{H:Hp}{o u:HO}(h:H a=some o)(h':H b=some u)(d:o≠u):a≠b:=by
 intro e;subst e;rw[h]at h';exact d (Option.some.inj h')
theorem aV{H:Hp}{o:HO}(h:H a=some o)(h':H b=none):a≠b:=by
 intro e;subst e;rw[h]at h';cases h'
section
variable(P:Program)(w:World)
def bU(H:Hp)(h:Heap)(a:Addr):HO->Prop
  | .lst xs=>xs.length<=sizeLine/\∃(its:List Value) (n:Nat),aL xs its/\h.get? a=some { cls:=.type "list", data:=.seq its.toArray n }
  | .tup xs=>xs.length<=sizeLine/\∃its:List Value,aL xs its/\IsTup h a its.toArray
  | .dK kvs=>kvs.length<=sizeLine/\(a==sysModules)=false/\∃vs,KV kvs vs/\h.DictOf (vt P w) a vs
  | .dT kvs=>kvs.length<=sizeLine/\(a==sysModules)=false/\∃xs:List (List dz×Addr×Value),
      Paired (fun(p:List dz×V) (q:List dz×Addr×Value)=>p.1=q.1/\H q.2.1=some (.tup (p.1.map kV))/\aX p.2 q.2.2) kvs xs /\
      ∃o es ep,h.get? a=some o/\o.ExactDict/\o.data=.dict es ep/\es.toList=xs.map (entryOfKey (tupleKind (vt P w)))/\(xs.map (·.1)).Nodup
  | .set S n=>h.SetOf (intKind P w) a S n
  | .ins C dx fs=>H dx=some (.own a)/\fs.length<=1000/\dx≠a/\h.get? a=some (W.instObj C dx) /\
      ∃mA,h.Ns1 dx mA/\(∀f,gn (fs.lookup f) (mA f))/\PySem.Within mA (fs.map (·.1))
  | .own _ => ∃o,h.get? a=some o
  | .xd fs => ∃mA,h.Ns1 a mA/\∀f,gn (fs.lookup f) (mA f)
  | .rng lo hi => ∃t u v,h.get? a=some { cls:=.type "range", data:=.fields #[.int lo t,.int hi u,.int 1 v] }
  | .frz o u=>h.get? a=some o/\bU H h a u
  | .tbl ps=>h.get? a=some { cls:=.none,data:=.fields ps }
  | .met f x=>h.get? a=some (W.methodObj (.ref f) (.ref x))
  | .ext φ=>φ h/\(∃o,h.get? a=some o)/\∀h1 h2:Heap,φ h1->(∀o,h1.get? a=some o->h2.get? a=some o)->φ h2
def cU(H:Hp)(h:Heap):Prop:=∀a o,H a=some o->bU P w H h a o
end
section
variable{H H':Hp}{h':Heap}{o:HO}
theorem bU.lt(x:bU P w H h a o):a<h.objs.size:=by
 cases o with
 | lst xs=>obtain⟨_,_,_,_,e⟩:=x;exact Heap.lt_size e
 | tup xs=>obtain⟨_,_,_,p⟩:=x;exact p.lt
 | dK kvs=>obtain⟨_,_,_,_,o,_,_,e,_⟩:=x;exact Heap.lt_size e
 | dT kvs=>obtain⟨_,_,_,_,o,_,_,e,_⟩:=x;exact Heap.lt_size e
 | set S n=>obtain⟨o,_,_,_,e,_⟩:=x;exact Heap.lt_size e
 | ins C dx fs=>obtain⟨_,_,_,e,_⟩:=x;exact Heap.lt_size e
 | own y=>obtain⟨_,e⟩:=x;exact Heap.lt_size e
 | xd fs=>obtain⟨_,⟨_,_,_,e,_⟩,_⟩:=x;exact Heap.lt_size e
 | rng lo hi=>obtain⟨_,_,_,e⟩:=x;exact Heap.lt_size e
 | frz ob u=>obtain⟨e,_⟩:=x;exact Heap.lt_size e
 | tbl ps=>exact Heap.lt_size (show h.get? a=some _ from x)
 | met f y=>exact Heap.lt_size (show h.get? a=some _ from x)
 | ext φ=>obtain⟨_,⟨_,e⟩,_⟩:=x;exact Heap.lt_size e
theorem Paired.mapP{α β:Type}{F G:α->β->Prop}:∀{l₁:List α} {l₂:List β},Paired F l₁ l₂->(∀a b,F a b->G a b)->Paired G l₁ l₂
 | _,_,.nil,_=>.nil
 | _,_,.cons r t,f=>.cons (f _ _ r) (Paired.mapP t f)
theorem bU.stay(x:bU P w H h a o)(k:∀b u,(b=a\/H b=some (.own a))->h.get? b=some u->h'.get? b=some u)
  (ho:∀b,H b=some (.own a)->H' b=some (.own a)) (ht:∀b xs,H b=some (.tup xs)->H' b=some (.tup xs)):bU P w H' h' a o:=by
 induction o with
 | lst xs=>obtain⟨z,its,n,r,e⟩:=x;exact⟨z,its,n,r,k _ _ (.inl rfl) e⟩
 | tup xs=>obtain⟨z,its,r,ob,e,c⟩:=x;exact⟨z,its,r,ob,k _ _ (.inl rfl) e,c⟩
 | dK kvs=>obtain⟨z,y,vs,r,ob,es,ep,e,c⟩:=x;exact⟨z,y,vs,r,ob,es,ep,k _ _ (.inl rfl) e,c⟩
 | dT kvs =>
  obtain⟨z,y,xs,r,ob,es,ep,e,c⟩:=x
  exact⟨z,y,xs,Paired.mapP r fun p q z=>⟨z.1,ht _ _ z.2.1,z.2.2⟩,ob,es,ep,k _ _ (.inl rfl) e,c⟩
 | set S n=>obtain⟨ob,es,ep,t,e,c⟩:=x;exact⟨ob,es,ep,t,k _ _ (.inl rfl) e,c⟩
 | ins C dx fs =>
  obtain⟨d,z,ne,e,mA,⟨od,es,ep,e2,c⟩,r⟩:=x
  exact⟨ho _ d,z,ne,k _ _ (.inl rfl) e,mA,⟨od,es,ep,k _ _ (.inr d) e2,c⟩,r⟩
 | own y=>obtain⟨ob,e⟩:=x;exact⟨ob,k _ _ (.inl rfl) e⟩
 | xd fs=>obtain⟨mA,⟨od,es,ep,e,c⟩,r⟩:=x;exact⟨mA,⟨od,es,ep,k _ _ (.inl rfl) e,c⟩,r⟩
 | rng lo hi=>obtain⟨t,u,v,e⟩:=x;exact⟨t,u,v,k _ _ (.inl rfl) e⟩
 | frz ob u ih=>obtain⟨e,q⟩:=x;exact⟨k _ _ (.inl rfl) e,ih q⟩
 | tbl ps =>
  have e:h.get? a=some { cls:=.none,data:=.fields ps }:=x
  show h'.get? a=some { cls:=.none,data:=.fields ps }
  exact k a _ (.inl rfl) e
 | met f y =>
  have e:h.get? a=some (W.methodObj (.ref f) (.ref y)):=x
  show h'.get? a=some (W.methodObj (.ref f) (.ref y))
  exact k a _ (.inl rfl) e
 | ext φ=>obtain⟨p,⟨o,e⟩,st⟩:=x;exact⟨st _ _ p fun o q=>k _ _ (.inl rfl) q,⟨o,k _ _ (.inl rfl) e⟩,st⟩
theorem cU.lt(x:cU P w H h)(e:H a=some o):a<h.objs.size:=(x a o e).lt
theorem cU.fresh(x:cU P w H h)(e:h.objs.size<=a):H a=none:=by
 cases q:H a with
 | none=>rfl
 | some u=>exact absurd (Nat.lt_of_lt_of_le (x.lt q) e) (Nat.lt_irrefl _)
theorem cU.kept(x:cU P w H h)(k:∀b u,h.get? b=some u->h'.get? b=some u):cU P w H h':=fun a o e =>
 (x a o e).stay (fun b u _ q=>k b u q) (fun _ q=>q) fun _ _ q=>q
theorem cU.laid(x:cU P w H h)(k:∀b u,h.get? b=some u->h'.get? b=some u)(hp:h.objs.size<=a)(new:bU P w (aM H a o) h' a o):cU P w (aM H a o) h':=fun b u e=>by
 have hn:=x.fresh hp
 by_cases hb:b=a
 ·subst hb;rw[aI]at e;cases e;exact new
 ·rw[ay hb]at e
  exact(x b u e).stay (fun c v _ q=>k c v q) (fun c q=>by rw[ay (aV q hn)];exact q) fun c xs q=>by rw[ay (aV q hn)];exact q
end
def Rd(H:Hp)(a:Addr)(u:HO):Prop:=H a=some u\/∃o,H a=some (.frz o u)
theorem Rd.ok{H:Hp}{u:HO}(r:Rd H a u)(x:cU P w H h):bU P w H h a u:=by
 rcases r with r|⟨o,r⟩
 ·exact x a u r
 ·obtain⟨_,q⟩:=x a _ r
  exact q
def Da:Option HO->Prop
 | some (.lst _)=>True
 | some (.dK _)=>True
 | some (.dT _)=>True
 | some (.set _ _)=>True
 | some (.ins _ _ _)=>True
 | some (.ext _)=>True
 | _=>False
section
variable{H:Hp}{h':Heap}{x e:Addr}{o':HO}
theorem cU.write(ok:cU P w H h)(mu:Da (H x))(he:e=x\/H e=some (.own x))(k:∀b u,b≠e->h.get? b=some u->h'.get? b=some u)(heo:∃u,h'.get? e=some u)
  (new:bU P w (aM H x o') h' x o'):cU P w (aM H x o') h':=fun b u q=>by
 have nown:∀c y,H c=some (.own y)->c≠x:=fun c y r z=>by subst z;rw[r]at mu;exact mu
 have ntup:∀c xs,H c=some (.tup xs)->c≠x:=fun c xs r z=>by subst z;rw[r]at mu;exact mu
 by_cases hb:b=x
 ·subst hb;rw[aI]at q;cases q;exact new
 ·rw[ay hb]at q
  by_cases hbe:b=e
  ·have q':H b=some (.own x):=by
    rcases he with z|z
    ·exact absurd (hbe.trans z) hb
    ·rw[hbe];exact z
   rw[q]at q';cases q'
   obtain⟨v,hv⟩:=heo
   exact⟨v,by rw[hbe];exact hv⟩
  ·refine(ok b u q).stay (fun c v hc r=>k c v ?_ r) (fun c r=>by rw[ay (nown c b r)];exact r) fun c xs r=>by rw[ay (ntup c xs r)];exact r
   rcases hc with rfl|hc
   ·exact hbe
   ·rintro rfl
    rcases he with z|z
    ·exact nown c b hc z
    ·rw[hc]at z;cases z;exact hb rfl
end
structure Un(fs ex:List Addr)(H H':Hp)(h h':Heap):Prop where
 keep:∀b o,h.get? b=some o->H b=none->b∉fs->b∉ex->h'.get? b=some o
 slot:∀b o,h.get? b=some o->H b=none->b∈fs->b∉ex->∃sl,h'.get? b=some { o with slots:=sl }
 free:∀b o,h.get? b=some o->H b=none->b∉ex->H' b=none
 there:∀b o,h.get? b=some o->b∉ex->∃o',h'.get? b=some o'
 tups:∀b xs,H b=some (.tup xs)->H' b=some (.tup xs)
 frzs:∀b o u,H b=some (.frz o u)->H' b=some (.frz o u)
 tbls:∀b ps,H b=some (.tbl ps)->∃more,H' b=some (.tbl (ps++more))
section
variable{fs fs' ex ex':List Addr}{H H1 H2:Hp}{h1 h2 h':Heap}{x e:Addr}{o:HO}
theorem Un.any(u:Un fs ex H H1 h h1){ob:Obj}(q:h.get? b=some ob)(n:H b=none)(hx:b∉ex):∃sl,h1.get? b=some { ob with slots:=sl }:=by
 by_cases hb:b∈fs
 ·exact u.slot b ob q n hb hx
 ·exact⟨ob.slots,u.keep b ob q n hb hx⟩
theorem Un.kept(k:∀b u,h.get? b=some u->h'.get? b=some u):Un fs ex H H h h' :=
 ⟨fun b ob q _ _ _=>k b ob q,fun b ob q _ _ _=>⟨ob.slots,k b ob q⟩,fun _ _ _ n _=>n,fun b ob q _=>⟨ob,k b ob q⟩,fun _ _ q=>q,fun _ _ _ q=>q,fun _ ps q=>⟨#[],by rw[q];simp⟩⟩
theorem Un.refl:Un fs ex H H h h:=Un.kept fun _ _ q=>q
theorem Un.laid(k:∀b u,h.get? b=some u->h'.get? b=some u)(hp:h.objs.size<=a)(hn:H a=none):Un fs ex H (aM H a o) h h' where
 keep:=fun b u q _ _ _=>k b u q
 slot:=fun b u q _ _ _=>⟨u.slots,k b u q⟩
 free:=fun b u q n _=>by rw[ay (Nat.ne_of_lt (Nat.lt_of_lt_of_le (Heap.lt_size q) hp))];exact n
 there:=fun b u q _=>⟨u,k b u q⟩
 tups:=fun b xs q=>by rw[ay (aV q hn)];exact q
 frzs:=fun b u xs q=>by rw[ay (aV q hn)];exact q
 tbls:=fun b ps q=>⟨#[],by rw[ay (aV q hn),q];simp⟩
theorem Un.write(mu:Da (H x))(he:e=x\/H e=some (.own x))(k:∀b u,b≠e->h.get? b=some u->h'.get? b=some u)(heo:∃u,h'.get? e=some u):Un fs ex H (aM H x o) h h':=by
 have hx:∀b,H b=none->b≠x:=fun b n z=>by subst z;rw[n]at mu;exact mu
 have hb:∀b,H b=none->b≠e:=fun b n z=>by
  subst z
  rcases he with r|r
  ·exact hx b n r
  ·rw[n]at r;cases r
 have hm:∀b u,H b=some u -> ¬ Da (some u)->b≠x:=fun b u q nm z=>by subst z;rw[q]at mu;exact nm mu
 refine⟨fun b u q n _ _=>k b u (hb b n) q,fun b u q n _ _=>⟨u.slots,k b u (hb b n) q⟩,fun b u q n _=>by rw[ay (hx b n)];exact n,fun b u q _=>?_,
  fun b xs q=>by rw[ay (hm b _ q fun z=>z)];exact q,fun b u xs q=>by rw[ay (hm b _ q fun z=>z)];exact q,fun b ps q=>⟨#[],by rw[ay (hm b _ q fun z=>z),q];simp⟩⟩
 by_cases hbe:b=e
 ·subst hbe;exact heo
 ·exact⟨u,k b u hbe q⟩
end
def BU(h:Heap)(H:Hp):List Addr:=(List.range h.objs.size).filter fun a=>(H a).isSome
def jS(h:Heap)(H:Hp):Heap:=W.hideAll h (BU h H)
theorem zi(h:Heap)(H:Hp):(jS h H).objs.size=h.objs.size:=W.hideAll_size _ _
theorem Bc{H:Hp}(e:h.get? b=some o)(n:H b=none):(jS h H).get? b=some o :=
 W.hideAll_get _ e fun hm=>by
  have q:(H b).isSome=true:=(List.mem_filter.mp hm).2
  rw[n]at q;simp at q
theorem D9{H:Hp}(e:(jS h H).get? b=some o):h.get? b=some o/\H b=none:=by
 have e':h.get? b=some o:=W.of_hideAll (BU h H) e
 refine⟨e',?_⟩
 cases q:H b with
 | none=>rfl
 | some x =>
  have hm:b∈BU h H:=List.mem_filter.mpr ⟨List.mem_range.mpr (Heap.lt_size e'),by simp[q]⟩
  have z:(jS h H).get? b=none:=W.hideAll_none (BU h H) hm
  rw[z]at e;cases e
def FD(g h:Heap)(L:Addr):List (Addr×Obj):=(List.range h.objs.size).filterMap fun a=>if a=L\/(g.get? a).isSome=true then none else(h.get? a).map fun o=>(a,o)
def rest(g h:Heap)(L d:Addr):List (Addr×Obj):=(FD g h L).filter fun p=>decide (p.1≠d)
variable{v y:V}{H:Hp}{R:V->V->Hp->Prop}{vs:List V}
structure Mod(K:W.Frag)(mg:Str->Option Value)(base:Heap):Prop where
 kin:K.In base
 glob:base.Ns mainGlobals mg
 blt:∃mb,base.Ns builtinsNs mb/\∀x:Str,x ≠ "__name__" -> mb x=bootBuiltins x
 nolimit:base.NoLimit
structure Cx where
 prog:Program
 w:World
 K:W.Frag
 mg:Str->Option Value
 base:Heap
 A:Around
 N:List Str
 s₀:Shared
 H₀:Hp
 env:Env
 outer:List Env
 stack:List Env
 ex:List Addr
 fn:Str->Bool
 calm:Bool
 pn:List (Addr×Obj)
 xe:Value->Shared->Prop
def bZ(l:List Env):List Addr:=l.filterMap (·.frame)
abbrev Cx.fs(X:Cx):List Addr:=bZ X.outer
def fy(sc:Scope)(x:Str):Prop:=sc.names.lookup x=some .local\/sc.names.lookup x=some .cell\/sc.names.lookup x=some .free
def uw(sc:Scope)(x:Str):Prop:=sc.names.lookup x=some .local\/sc.names.lookup x=some .cell
def QZ(env:Env)(h:Heap)(m:Str->Option Value)(x:Str)(u:Value):Prop :=
 (env.kindOf x=some .local/\m x=some u)\/((env.kindOf x=some .cell\/env.kindOf x=some .free)/\∃c,env.cells.lookup x=some c/\h.IsCell c (some u))
structure Cx.Ok(X:Cx):Prop where
 mod:Mod X.K X.mg X.base
 kind:X.env.scope.kind=.function
 glob:X.env.globals=mainGlobals
 blt:X.env.builtins=builtinsNs
 above:X.s₀.heap.objs.size<=X.env.locals
 inj:∀x y c,X.env.cells.lookup x=some c->X.env.cells.lookup y=some c->x=y
 has:∀x,(X.env.kindOf x=some .cell\/X.env.kindOf x=some .free)->∃c,X.env.cells.lookup x=some c
 cab:∀x c,X.fn x=true->X.env.cells.lookup x=some c->X.s₀.heap.objs.size<=c
 hd:X.calm=true->X.A.handled=none
 frames:X.A.frames=some X.stack
 stk:X.stack=X.outer\/(X.stack=X.env::X.outer/\X.env.frame=some X.env.locals)
 exf:∀b∈X.ex,b≠X.env.locals/\∀x c,X.env.cells.lookup x=some c->c≠b
 bs:∀b o,X.base.get? b=some o->X.s₀.heap.get? b=some o/\X.H₀ b=none
 bsz:X.base.objs.size<=X.s₀.heap.objs.size
 noex:∀b o,X.base.get? b=some o->b∉X.ex
 exfs:∀b∈X.ex,b∉X.fs
 funs:X.s₀.heap.FunFrames X.base X.outer
 frf:∀b∈X.fs,X.H₀ b=none
structure ah(X:Cx)(pins:List (Addr×Obj))(σ:List (Option V))(H:Hp)(s:Shared):Prop where
 ok:X.Ok
 os:s.os=X.s₀.os
 bare:AllBare s.gens
 base:Un X.fs X.ex X.H₀ H X.s₀.heap s.heap
 loc:∃m,s.heap.Ns X.env.locals m/\∀(i:Nat) (x:Str) (v:V),X.N[i]?=some x->σ[i]?=some (some v)->fy X.env.scope x->∃u,aX v u/\QZ X.env s.heap m x u
 cell:∀x c,X.env.cells.lookup x=some c->∃v,s.heap.IsCell c v
 free:H X.env.locals=none
 freeC:∀x c,X.env.cells.lookup x=some c->H c=none
 pin:∀p∈X.pn++pins,s.heap.get? p.1=some p.2/\H p.1=none/\p.1≠X.env.locals/\p.1∉X.fs/\∀v,p.2.data ≠ .cell v
 hok:cU X.prog X.w H s.heap
 len:σ.length=X.N.length
section
variable{X:Cx}{σ:List (Option V)}{H':Hp}{h':Heap}
theorem Cx.Ok.nofr(ok:X.Ok)(e:X.base.get? b=some o):b∉X.fs:=fun hb=>by
 have:=(ok.funs.mem hb).1
 rw[e]at this;cases this
theorem ah.bs(I:ah X pins σ H s):∀b o,X.base.get? b=some o->s.heap.get? b=some o/\H b=none:=fun b o e =>
 ⟨I.base.keep b o (I.ok.bs b o e).1 (I.ok.bs b o e).2 (I.ok.nofr e) (I.ok.noex b o e),I.base.free b o (I.ok.bs b o e).1 (I.ok.bs b o e).2 (I.ok.noex b o e)⟩
theorem ah.bk(I:ah X pins σ H s):∀b o,X.base.get? b=some o->s.heap.get? b=some o:=fun b o e=>(I.bs b o e).1
theorem ah.mod(I:ah X pins σ H s):Mod X.K X.mg X.base:=I.ok.mod
theorem ah.kIn(I:ah X pins σ H s):X.K.In s.heap:=I.ok.mod.kin.keeps I.bk
theorem ah.nolimit(I:ah X pins σ H s):s.heap.NoLimit:=I.ok.mod.nolimit.keeps I.bk
theorem ah.lt(I:ah X pins σ H s):X.env.locals<s.heap.objs.size:=let ⟨_,hn,_⟩:=I.loc;hn.lt
theorem ah.sz(I:ah X pins σ H s):X.s₀.heap.objs.size<=s.heap.objs.size:=Nat.le_trans I.ok.above (Nat.le_of_lt I.lt)
theorem ah.nofs(I:ah X pins σ H s)(h:s.heap.objs.size<=a):a∉X.fs:=fun hb=>by
 obtain⟨_,o,ho,_⟩:=I.ok.funs.mem hb
 exact absurd (Nat.lt_of_lt_of_le (Heap.lt_size ho) (Nat.le_trans I.sz h)) (Nat.lt_irrefl _)
theorem ah.cne(I:ah X pins σ H s):∀x c,X.env.cells.lookup x=some c->c≠X.env.locals:=fun x c e z=>by
 obtain⟨v,o,ho,hd⟩:=I.cell x c e
 obtain⟨m,⟨o',es,ep,ho',hd',_⟩,_⟩:=I.loc
 rw[z,ho']at ho;cases ho;rw[hd']at hd;cases hd
theorem ah.funs(I:ah X pins σ H s):s.heap.FunFrames X.base X.outer:=by
 have all:∀(l:List Env),(∀b∈bZ l,b∈X.fs)->X.s₀.heap.FunFrames X.base l->s.heap.FunFrames X.base l:=by
  intro l
  induction l with
  | nil=>intro _ _;trivial
  | cons env r ih =>
   intro hs hl
   obtain⟨hk,⟨L,o,hf,hn,ho,hd⟩,hr⟩:=hl
   have hL:L∈X.fs:=hs L (by unfold bZ;rw[List.filterMap_cons,hf];exact List.mem_cons_self)
   obtain⟨sl,e⟩:=I.base.slot L o ho (I.ok.frf L hL) hL fun z=>I.ok.exfs L z hL
   exact⟨hk,⟨L,_,hf,hn,e,hd⟩,ih (fun b hb=>hs b (by unfold bZ;rw[List.filterMap_cons,hf];exact List.mem_cons_of_mem _ hb)) hr⟩
 exact all X.outer (fun _ hb=>hb) I.ok.funs
theorem ah.stack(I:ah X pins σ H s):s.heap.FunFrames X.base X.stack:=by
 rcases I.ok.stk with e|⟨e,hf⟩
 ·rw[e];exact I.funs
 ·rw[e]
  obtain⟨m,hn,_⟩:=I.loc
  refine .cons (by rw[I.ok.kind];decide) hf hn ?_ I.funs
  exact Heap.get?_none_of_le (Nat.le_trans I.ok.bsz I.ok.above)
theorem ah.stkSub(I:ah X pins σ H s):∀b∈bZ X.stack,b∈X.env.locals::X.fs:=fun b hb=>by
 rcases I.ok.stk with e|⟨e,hf⟩
 ·rw[e]at hb;exact List.mem_cons_of_mem _ hb
 ·rw[e]at hb
  unfold bZ at hb
  rw[List.filterMap_cons,hf]at hb
  exact hb
theorem ah.stkFree(I:ah X pins σ H s):∀b∈bZ X.stack,H b=none:=fun b hb=>by
 rcases List.mem_cons.mp (I.stkSub b hb)with e|hb
 ·rw[e];exact I.free
 ·obtain⟨_,o,ho,_⟩:=I.ok.funs.mem hb
  exact I.base.free b o ho (I.ok.frf b hb) fun z=>I.ok.exfs b z hb
theorem ah.step{t':Nat}{d':Drawn}(I:ah X pins σ H s)
  (hch:∀b∈ch,(b∈X.ex\/X.s₀.heap.objs.size<=b)/\b≠X.env.locals/\(∀x c,X.env.cells.lookup x=some c->c≠b)/\∀p∈X.pn++pins,p.1≠b)
  (keep:∀b o,b≠X.env.locals->b∉X.fs->b∉ch->s.heap.get? b=some o->H b=none->h'.get? b=some o)
  (slot:∀b o,b≠X.env.locals->b∈X.fs->b∉ch->s.heap.get? b=some o->H b=none->∃sl,h'.get? b=some { o with slots:=sl }) (free:∀b o,b∉ch->s.heap.get? b=some o->H b=none->H' b=none)
  (there:∀b o,b∉ch->s.heap.get? b=some o->∃o',h'.get? b=some o')
  (tups:∀b xs,H b=some (.tup xs)->H' b=some (.tup xs)) (frzs:∀b o u,H b=some (.frz o u)->H' b=some (.frz o u)) (tbls:∀b ps,H b=some (.tbl ps)->∃more,H' b=some (.tbl (ps++more)))
  (ns:∀m,s.heap.Ns X.env.locals m->h'.Ns X.env.locals m) (hok:cU X.prog X.w H' h') (hg:AllBare g') :
  ah X pins σ H' { s with heap:=h',gens:=g',drawn:=d',toks:=t' }:=by
 have neL:∀b o,X.s₀.heap.get? b=some o->b≠X.env.locals:=fun b o e=>Nat.ne_of_lt (Nat.lt_of_lt_of_le (Heap.lt_size e) I.ok.above)
 have neC:∀b o,X.s₀.heap.get? b=some o->b∉X.ex->b∉ch:=fun b o e hx hb=>by
  rcases(hch b hb).1 with z|z
  ·exact hx z
  ·exact absurd (Nat.lt_of_lt_of_le (Heap.lt_size e) z) (Nat.lt_irrefl _)
 have cellK:∀x c,X.env.cells.lookup x=some c->∀v,s.heap.IsCell c v->h'.IsCell c v:=fun x c e v ⟨o,ho,hd⟩=>by
  have nch:c∉ch:=fun z=>(hch c z).2.2.1 x c e rfl
  by_cases hc:c∈X.fs
  ·obtain⟨sl,q⟩:=slot c o (I.cne x c e) hc nch ho (I.freeC x c e)
   exact⟨_,q,hd⟩
  ·exact⟨o,keep c o (I.cne x c e) hc nch ho (I.freeC x c e),hd⟩
 refine⟨I.ok,I.os,hg,⟨fun b o e n hb hx=>?_,fun b o e n hb hx=>?_,fun b o e n hx=>?_,fun b o e hx=>?_,fun b xs e=>tups b xs (I.base.tups b xs e),fun b o xs e=>frzs b o xs (I.base.frzs b o xs e),fun b ps e=>?_⟩,?_,fun x c e=>?_,?_,fun x c e=>?_,fun p hp=>?_,hok,I.len⟩
 ·exact keep b o (neL b o e) hb (neC b o e hx) (I.base.keep b o e n hb hx) (I.base.free b o e n hx)
 ·obtain⟨sl,e1⟩:=I.base.slot b o e n hb hx
  obtain⟨sl',e2⟩:=slot b _ (neL b o e) hb (neC b o e hx) e1 (I.base.free b o e n hx)
  exact⟨sl',e2⟩
 ·obtain⟨o',e1⟩:=I.base.there b o e hx
  exact free b o' (neC b o e hx) e1 (I.base.free b o e n hx)
 ·obtain⟨o',e1⟩:=I.base.there b o e hx
  exact there b o' (neC b o e hx) e1
 ·obtain⟨m1,e1⟩:=I.base.tbls b ps e
  obtain⟨m2,e2⟩:=tbls b _ e1
  exact⟨m1++m2,by rw[e2,Array.append_assoc]⟩
 ·obtain⟨m,hn,hl⟩:=I.loc
  refine⟨m,ns m hn,fun i x v e1 e2 e3=>?_⟩
  obtain⟨u,r,l⟩:=hl i x v e1 e2 e3
  refine⟨u,r,?_⟩
  rcases l with l|⟨k,c,e,z⟩
  ·exact .inl l
  ·exact .inr ⟨k,c,e,cellK x c e _ z⟩
 ·obtain⟨v,z⟩:=I.cell x c e
  exact⟨v,cellK x c e v z⟩
 ·obtain⟨m,⟨o,_,_,ho,_⟩,_⟩:=I.loc
  exact free _ o (fun z=>(hch _ z).2.1 rfl) ho I.free
 ·obtain⟨v,o,ho,hd⟩:=I.cell x c e
  exact free c o (fun z=>(hch c z).2.2.1 x c e rfl) ho (I.freeC x c e)
 ·obtain⟨e,n,ne,nf,d⟩:=I.pin p hp
  have nch:p.1∉ch:=fun z=>(hch p.1 z).2.2.2 p hp rfl
  exact⟨keep p.1 p.2 ne nf nch e n,free p.1 p.2 nch e n,ne,nf,d⟩
theorem ah.un{t':Nat}(I:ah X pins σ H s)(u:Un X.fs [] H H' s.heap h')(hok:cU X.prog X.w H' h'):ah X pins σ H' { s with heap:=h',toks:=t' }:=by
 obtain⟨m,⟨o,es,ep,ho,r⟩,_⟩:=id I.loc
 obtain⟨sl,hL⟩:=u.any ho I.free (by simp)
 exact I.step (g':=s.gens) (d':=s.drawn) (ch:=[]) (fun _ z=>nomatch z) (fun b o _ hb _ e n=>u.keep b o e n hb (by simp)) (fun b o _ hb _ e n=>u.slot b o e n hb (by simp)) (fun b o _ e n=>u.free b o e n (by simp)) (fun b o _ e=>u.there b o e (by simp)) u.tups u.frzs u.tbls (fun m' hm=>by
  obtain⟨o',es',ep',ho',r'⟩:=hm
  rw[ho]at ho';cases ho'
  exact⟨_,es',ep',hL,r'⟩) hok I.bare
theorem ah.call{t':Nat}{d':Drawn}(I:ah X pins σ H s)(u:Un (bZ X.stack) ch H H' s.heap h')(hok:cU X.prog X.w H' h')(hg:AllBare g')
  (hch:∀b∈ch,(b∈X.ex\/X.s₀.heap.objs.size<=b)/\b≠X.env.locals/\(∀x c,X.env.cells.lookup x=some c->c≠b)/\∀p∈X.pn++pins,p.1≠b) :
  ah X pins σ H' { s with heap:=h',gens:=g',drawn:=d',toks:=t' }:=by
 obtain⟨m,⟨o,es,ep,ho,r⟩,_⟩:=id I.loc
 obtain⟨sl,hL⟩:=u.any ho I.free fun z=>(hch _ z).2.1 rfl
 exact I.step (ch:=ch) hch (fun b o hL hb hc e n=>u.keep b o e n (fun z=>(List.mem_cons.mp (I.stkSub b z)).elim hL hb) hc) (fun b o _ _ hc e n=>u.any e n hc) (fun b o hc e n=>u.free b o e n hc) (fun b o hc e=>u.there b o e hc) u.tups u.frzs u.tbls (fun m' hm=>by
  obtain⟨o',es',ep',ho',r'⟩:=hm
  rw[ho]at ho';cases ho'
  exact⟨_,es',ep',hL,r'⟩) hok hg
theorem ah.turned{t':Nat}(I:ah X pins σ H s)(k:∀b o,b≠it->s.heap.get? b=some o->h'.get? b=some o)(hn:H it=none)(hL:it≠X.env.locals)
  (h1:it∈X.ex\/X.s₀.heap.objs.size<=it) (h2:∀x c,X.env.cells.lookup x=some c->c≠it) (h3:∀p∈X.pn++pins,p.1≠it):ah X pins σ H { s with heap:=h',toks:=t' }:=by
 have nit:∀b u,H b=some u->b≠it:=fun b u e z=>by rw[z,hn]at e;cases e
 refine I.step (g':=s.gens) (d':=s.drawn) (ch:=[it]) (fun b hb=>?_) (fun b o _ _ hc e _=>k b o (fun z=>hc (by simp[z])) e) (fun b o _ _ hc e _=>⟨o.slots,k b o (fun z=>hc (by simp[z])) e⟩) (fun _ _ _ _ n=>n)
  (fun b o hc e=>⟨o,k b o (fun z=>hc (by simp[z])) e⟩) (fun _ _ e=>e) (fun _ _ _ e=>e) (fun b ps e=>⟨#[],by rw[e];simp⟩) (fun m hm=>?_) (fun b u e=>?_) I.bare
 ·have e:b=it:=by simpa using hb
  subst e
  exact⟨h1,hL,h2,h3⟩
 ·obtain⟨o,es,ep,ho,r⟩:=hm
  exact⟨o,es,ep,k _ o (Ne.symm hL) ho,r⟩
 ·refine(I.hok b u e).stay (fun c v hc q=>k c v ?_ q) (fun _ q=>q) fun _ _ q=>q
  rcases hc with z|z
  ·rw[z];exact nit b u e
  ·exact nit c _ z
theorem ah.tok(I:ah X pins σ H s)(t:Nat):ah X pins σ H { s with toks:=t }:=I.un (h':=s.heap) (t':=t) Un.refl I.hok
theorem ah.kept{t':Nat}(I:ah X pins σ H s)(k:∀b u,s.heap.get? b=some u->h'.get? b=some u):ah X pins σ H { s with heap:=h',toks:=t' }:=I.un (Un.kept k) (I.hok.kept k)
theorem ah.laid{o:HO}{t':Nat}(I:ah X pins σ H s)(k:∀b u,s.heap.get? b=some u->h'.get? b=some u)(hp:s.heap.objs.size<=a)(new:bU X.prog X.w (aM H a o) h' a o) :
  ah X pins σ (aM H a o) { s with heap:=h',toks:=t' }:=I.un (Un.laid k hp (I.hok.fresh hp)) (I.hok.laid k hp new)
theorem ah.write{x e:Addr}{o:HO}{t':Nat}(I:ah X pins σ H s)(mu:Da (H x))(he:e=x\/H e=some (.own x))(k:∀b u,b≠e->s.heap.get? b=some u->h'.get? b=some u)(heo:∃u,h'.get? e=some u)
  (new:bU X.prog X.w (aM H x o) h' x o):ah X pins σ (aM H x o) { s with heap:=h',toks:=t' }:=I.un (Un.write mu he k heo) (I.hok.write mu he k heo new)
theorem ah.pins_of{pins':List (Addr×Obj)}(I:ah X pins σ H s)(h:∀p∈pins',s.heap.get? p.1=some p.2/\H p.1=none/\p.1≠X.env.locals/\p.1∉X.fs/\∀v,p.2.data ≠ .cell v):ah X pins' σ H s :=
 ⟨I.ok,I.os,I.bare,I.base,I.loc,I.cell,I.free,I.freeC,fun p hp=>(List.mem_append.mp hp).elim (fun z=>I.pin p (List.mem_append_left _ z)) (h p),I.hok,I.len⟩
theorem iw(hN:N.Nodup)(a:N[i]?=some x)(b:N[j]?=some x):i=j:=by
 obtain⟨h1,e1⟩:=List.getElem?_eq_some_iff.mp a
 obtain⟨h2,e2⟩:=List.getElem?_eq_some_iff.mp b
 exact(List.getElem_inj hN).mp (e1.trans e2.symm)
theorem yf{Q:Unit->Shared->Prop}(I:ah X pins σ H s)(hN:X.N.Nodup)(hi:X.N[i]?=some x)(hx:uw X.env.scope x)(r:aX v u)
  (h:∀s',ah X pins (σ.set i (some v)) H s'->(∃a,Heap.SameBut a s.heap s'.heap/\(a=X.env.locals\/X.env.cells.lookup x=some a))->Q () s') (hf:X.fn x=true\/X.env.scope.names.lookup x=some .local:=by first|exact .inl rfl|exact .inr rfl|assumption):wpAny M A (storeName X.env x u) Q E s:=by
 obtain⟨m,hn,hl⟩:=id I.loc
 have hcls:(X.env.scope.kind == .class || (X.env.scope.kind == .module&&X.env.locals != X.env.globals))=false:=by rw[I.ok.kind];rfl
 have hiσ:i<σ.length:=by rw[I.len];exact(List.getElem?_eq_some_iff.mp hi).1
 have cne:=I.cne
 have tracked:∀{a:Addr} {h':Heap},(∃o,s.heap.get? a=some o/\H a=none)->Heap.SameBut a s.heap h'->cU X.prog X.w H h':=fun {a h'} ha hs b ob e=>by
  obtain⟨_,_,hfree⟩:=ha
  refine(I.hok b ob e).stay (fun c w' hc q=>(hs.2 c ?_).trans q) (fun _ q=>q) fun _ _ q=>q
  rintro rfl
  rcases hc with rfl|hc
  ·rw[hfree]at e;cases e
  ·rw[hfree]at hc;cases hc
 rcases hx with hk|hk
 ·refine wpAny_storeName_local hk hn (fun h' hn' hs=>?_) hcls
  obtain⟨oL,_,_,hoL,_⟩:=id hn
  refine h _ ⟨I.ok,I.os,I.bare,⟨fun b o e n hb hx=>?_,fun b o e n hb hx=>?_,I.base.free,fun b o e hx=>?_,I.base.tups,I.base.frzs,I.base.tbls⟩,⟨_,hn',fun j y v' e1 e2 e3=>?_⟩,fun y c e=>?_,I.free,I.freeC,fun p hp=>?_,tracked ⟨oL,hoL,I.free⟩ hs,by simpa using I.len⟩ ⟨_,hs,.inl rfl⟩
  ·exact(hs.2 b (Nat.ne_of_lt (Nat.lt_of_lt_of_le (Heap.lt_size e) I.ok.above))).trans (I.base.keep b o e n hb hx)
  ·obtain⟨sl,e1⟩:=I.base.slot b o e n hb hx
   exact⟨sl,(hs.2 b (Nat.ne_of_lt (Nat.lt_of_lt_of_le (Heap.lt_size e) I.ok.above))).trans e1⟩
  ·obtain⟨o',e1⟩:=I.base.there b o e hx
   exact⟨o',(hs.2 b (Nat.ne_of_lt (Nat.lt_of_lt_of_le (Heap.lt_size e) I.ok.above))).trans e1⟩
  ·by_cases hj:j=i
   ·subst hj
    rw[hi]at e1;cases e1
    rw[List.getElem?_set_self hiσ]at e2
    cases e2
    exact⟨u,r,.inl ⟨hk,by simp⟩⟩
   ·rw[List.getElem?_set_ne (Ne.symm hj)]at e2
    obtain⟨u',r',q⟩:=hl j y v' e1 e2 e3
    refine⟨u',r',?_⟩
    rcases q with⟨k,e⟩|⟨k,c,e,z⟩
    ·refine .inl ⟨k,?_⟩
     have:y≠x:=fun e=>hj (iw hN e1 (e ▸ hi))
     simp[this,e]
    ·exact .inr ⟨k,c,e,z.sameBut hs (cne y c e)⟩
  ·obtain⟨w',z⟩:=I.cell y c e
   exact⟨w',z.sameBut hs (cne y c e)⟩
  ·obtain⟨e,n,ne,nf,d⟩:=I.pin p hp
   exact⟨(hs.2 p.1 ne).trans e,n,ne,nf,d⟩
 ·have hfn:X.fn x=true:=by
   rcases hf with z|z
   ·exact z
   ·rw[z]at hk;cases hk
  obtain⟨c,hc⟩:=I.ok.has x (.inl hk)
  obtain⟨w',z⟩:=I.cell x c hc
  refine wpAny_storeName_cell I.ok.kind hk hc z (fun h' hc' hs=>?_)
  obtain⟨oc,hoc,hocd⟩:=id z
  refine h { s with heap:=h' } ⟨I.ok,I.os,I.bare,⟨fun b o e n hb hx=>?_,fun b o e n hb hx=>?_,I.base.free,fun b o e hx=>?_,I.base.tups,I.base.frzs,I.base.tbls⟩,⟨m,hn.sameBut hs (Ne.symm (cne x c hc)),fun j y v' e1 e2 e3=>?_⟩,fun y c' e=>?_,I.free,I.freeC,fun p hp=>?_,tracked ⟨oc,hoc,I.freeC x c hc⟩ hs,by simpa using I.len⟩ ⟨c,hs,.inr hc⟩
  ·exact(hs.2 b (Nat.ne_of_lt (Nat.lt_of_lt_of_le (Heap.lt_size e) (I.ok.cab x c hfn hc)))).trans (I.base.keep b o e n hb hx)
  ·obtain⟨sl,e1⟩:=I.base.slot b o e n hb hx
   exact⟨sl,(hs.2 b (Nat.ne_of_lt (Nat.lt_of_lt_of_le (Heap.lt_size e) (I.ok.cab x c hfn hc)))).trans e1⟩
  ·obtain⟨o',e1⟩:=I.base.there b o e hx
   exact⟨o',(hs.2 b (Nat.ne_of_lt (Nat.lt_of_lt_of_le (Heap.lt_size e) (I.ok.cab x c hfn hc)))).trans e1⟩
  ·by_cases hj:j=i
   ·subst hj
    rw[hi]at e1;cases e1
    rw[List.getElem?_set_self hiσ]at e2
    cases e2
    exact⟨u,r,.inr ⟨.inl hk,c,hc,hc'⟩⟩
   ·rw[List.getElem?_set_ne (Ne.symm hj)]at e2
    obtain⟨u',r',q⟩:=hl j y v' e1 e2 e3
    refine⟨u',r',?_⟩
    rcases q with q|⟨k,c',e,z'⟩
    ·exact .inl q
    ·refine .inr ⟨k,c',e,z'.sameBut hs ?_⟩
     rintro rfl
     exact hj (iw hN e1 (I.ok.inj _ _ _ e hc ▸ hi))
  ·by_cases hcc:c'=c
   ·subst hcc;exact⟨_,hc'⟩
   ·obtain⟨w2,z2⟩:=I.cell y c' e
    exact⟨w2,z2.sameBut hs hcc⟩
  ·obtain⟨e,n,ne,nf,d⟩:=I.pin p hp
   refine⟨(hs.2 p.1 ?_).trans e,n,ne,nf,d⟩
   intro q
   rw[q,hoc]at e
   have q':oc=p.2:=Option.some.inj e
   exact d w' (by rw[<- q'];exact hocd)
theorem gu{Q:Unit->Shared->Prop}(I:ah X pins σ H s)(hN:X.N.Nodup)(hi:X.N[i]?=some x)(hx:uw X.env.scope x)(r:aX v u)
  (h:∀s',ah X pins (σ.set i (some v)) H s'->Q () s') (hf:X.fn x=true\/X.env.scope.names.lookup x=some .local:=by first|exact .inl rfl|exact .inr rfl|assumption):wpAny M A (storeName X.env x u) Q E s :=
 yf I hN hi hx r (fun s' I' _=>h s' I') hf
theorem ah.call'(I:ah X pins σ H s)(ho:s'.os=s.os)(u:Un (bZ X.stack) ch H H' s.heap s'.heap)(hok:cU X.prog X.w H' s'.heap)(hg:AllBare s'.gens)
  (hch:∀b∈ch,(b∈X.ex\/X.s₀.heap.objs.size<=b)/\b≠X.env.locals/\(∀x c,X.env.cells.lookup x=some c->c≠b)/\∀p∈X.pn++pins,p.1≠b):ah X pins σ H' s':=by
 obtain⟨h',g',d',t',o'⟩:=s'
 have e:o'=s.os:=ho
 subst e
 exact I.call (g':=g') (t':=t') (d':=d') u hok hg hch
end
abbrev XK:=Value->Option Addr->Hp->Prop
abbrev St:=List (Option V)
abbrev VK:=V->Hp->Prop
abbrev TE:=St->Hp->VK->Prop
abbrev TT:=St->Hp->(Bool->Hp->Prop)->Prop
abbrev TA:=St->Hp->(List V->Hp->Prop)->Prop
structure jh where
 nx:St->Hp->Prop
 rt:VK
 bk:St->Hp->Prop:=fun _ _=>False
 ct:St->Hp->Prop:=fun _ _=>False
abbrev TS:=jh->St->Hp->Prop
def EP(X:Cx)(pins:List (Addr×Obj))(σ:St)(Q:VK)(u:Value)(s':Shared):Prop:=∃v H',ah X pins σ H' s'/\aX v u/\Q v H'
def TP(X:Cx)(pins:List (Addr×Obj))(σ:St)(Q:Bool->Hp->Prop)(b:Bool)(s':Shared):Prop:=∃H',ah X pins σ H' s'/\Q b H'
def AP(X:Cx)(pins:List (Addr×Obj))(σ:St)(Q:List V->Hp->Prop)(us:List Value)(s':Shared):Prop:=∃vs H',ah X pins σ H' s'/\aL vs us/\Q vs H'
def SP(X:Cx)(pins:List (Addr×Obj))(D:jh)(f:Flow)(s':Shared):Prop :=
 match f with
 | .next => ∃σ' H',ah X pins σ' H' s'/\D.nx σ' H'
 | .brk => ∃σ' H',ah X pins σ' H' s'/\D.bk σ' H'
 | .cont => ∃σ' H',ah X pins σ' H' s'/\D.ct σ' H'
 | .ret u => ∃v σ' H',ah X pins σ' H' s'/\aX v u/\D.rt v H'
def PE(X:Cx)(e:Expr)(t:TE):Prop :=
 ∀(pins:List (Addr×Obj)) (s:Shared) (σ:St) (H:Hp) (Q:VK),ah X pins σ H s->t σ H Q->wpAny (model X.prog X.w) X.A (eval e X.env) (EP X pins σ Q) X.xe s
def PT(X:Cx)(e:Expr)(t:TT):Prop :=
 ∀(pins:List (Addr×Obj)) (s:Shared) (σ:St) (H:Hp) (Q:Bool->Hp->Prop),ah X pins σ H s->t σ H Q->wpAny (model X.prog X.w) X.A (isTrue e X.env (eval e X.env)) (TP X pins σ Q) X.xe s
def PW(X:Cx)(e:Expr)(t:TT):Prop :=
 ∀(whole:Sem Value) (pins:List (Addr×Obj)) (s:Shared) (σ:St) (H:Hp) (Q:Bool->Hp->Prop),ah X pins σ H s->t σ H Q->wpAny (model X.prog X.w) X.A (isTrue e X.env whole) (TP X pins σ Q) X.xe s
theorem PW.pt{X:Cx}{t:TT}(h:PW X e t):PT X e t:=h _
def PA(X:Cx)(es:List Expr)(t:TA):Prop :=
 ∀(pos:Pos) (pins:List (Addr×Obj)) (s:Shared) (σ:St) (H:Hp) (Q:List V->Hp->Prop),ah X pins σ H s->t σ H Q->wpAny (model X.prog X.w) X.A (spliced (backTo pos (starEach es X.env))) (AP X pins σ Q) X.xe s
def PS(X:Cx)(st:Stmt)(t:TS):Prop :=
 ∀(pins:List (Addr×Obj)) (s:Shared) (σ:St) (H:Hp) (D:jh),ah X pins σ H s->t D σ H->wpAny (model X.prog X.w) X.A (exec st X.env) (SP X pins D) X.xe s
def c5(X:Cx)(st:List Stmt)(t:TS):Prop :=
 ∀(pins:List (Addr×Obj)) (s:Shared) (σ:St) (H:Hp) (D:jh),ah X pins σ H s->t D σ H->wpAny (model X.prog X.w) X.A (execs st X.env) (SP X pins D) X.xe s
theorem aG{t:Sem α}{Q Q':α->Shared->Prop}(h:wpAny M A t Q E s)(hQ:∀a s,Q a s->Q' a s):wpAny M A t Q' E s:=wpAny_mono h hQ fun _ _ x=>x
variable{σ:St}{t te tl:TE}{X:Cx}{tc:TT}{ta:TA}{tb:TS}
section
theorem L5{a b:Expr}{ta tb:TE}(ha:PE X a ta)(hb:PE X b tb)(I:ah X pins σ H s)(h:ta σ H fun x H1=>tb σ H1 fun y H2=>R x y H2)
  {Q:α->Shared->Prop} {f:Value->Value->Sem α}
  (hf:∀v u s2 x y H2,ah X pins σ H2 s2->aX x v->aX y u->R x y H2->wpAny (model X.prog X.w) X.A (f v u) Q X.xe s2) :
  wpAny (model X.prog X.w) X.A (eval a X.env) (fun v s₁=>wpAny (model X.prog X.w) X.A (eval b X.env) (fun u s₂=>wpAny (model X.prog X.w) X.A (f v u) Q X.xe s₂) X.xe s₁) X.xe s:=by
 refine aG (ha pins s σ H _ I h) fun v s1 ⟨x,H1,I1,r1,q1⟩=>?_
 refine aG (hb pins s1 σ H1 _ I1 q1) fun u s2 ⟨y,H2,I2,r2,q2⟩=>?_
 exact hf v u s2 x y H2 I2 r1 r2 q2
def my(i:Nat):TE:=fun σ H Q => ∃v,σ[i]?=some (some v)/\Q v H
def tC(v:V):TE:=fun _ H Q=>Q v H
theorem fX(hN:X.N[i]?=some x)(hv:fy X.env.scope x)(hd:(x==("__debug__" : Str))=false:=by decide)(hcd:(x==("__classdict__" : Str))=false:=by decide):PE X (.Name x pos) (my i):=by
 intro pins s σ H Q I h
 obtain⟨v,e,h⟩:=h
 obtain⟨m,hn,hl⟩:=I.loc
 obtain⟨u,r,l⟩:=hl i x v hN e hv
 have fin:EP X pins σ Q u s:=⟨v,H,I,r,h⟩
 rcases l with⟨hk,hm⟩|⟨hk,c,hc,hcell⟩
 ·exact wpAny_Name (wpAny_loadName_local I.ok.kind hk hn hm fin) hd
 ·rcases hk with hk|hk
  ·exact wpAny_Name (wpAny_loadName_cell I.ok.kind hk hc hcell fin) hd
  ·exact wpAny_Name (wpAny_loadName_free I.ok.kind hk hc hcell fin hcd) hd
theorem GY{i j pos}:PE X (.Constant (.int i) j pos) (tC (.int i)):=fun _ _ _ H _ I h=>wpAny_Constant_int ⟨.int i,H,I.tok _,⟨_,rfl⟩,h⟩
theorem KK{b j pos}:PE X (.Constant (.bool b) j pos) (tC (.bl b)):=fun _ _ _ H _ I h=>Constant_bool ⟨.bl b,H,I,rfl,h⟩
theorem GW{j pos}:PE X (.Constant .none j pos) (tC .non):=fun _ _ _ H _ I h=>Constant_none ⟨.non,H,I,rfl,h⟩
theorem GT{x j pos}:PE X (.Constant (.str x) j pos) (tC (.str x)):=fun _ _ _ H _ I h=>Calls.Constant_str ⟨.str x,H,I.tok _,⟨_,rfl⟩,h⟩
def Gl(X:Cx)(x:Str):Prop:=X.env.kindOf x=some .globalImplicit
theorem cJ(I:ah X pins σ H s)(hg:Gl X x)(hm:X.mg x=some u)(h:Q u s)
  (hd:(x==("__debug__" : Str))=false:=by decide):wpAny (model X.prog X.w) X.A (eval (.Name x pos) X.env) Q E s :=
 Calls.Name_function_global I.ok.kind hg (Calls.loadGlobal_global (by rw[I.ok.glob];exact I.mod.glob.keeps I.bk) hm h) hd
theorem jz(I:ah X pins σ H s)(hg:Gl X x)(hm:X.mg x=none)(hv:bootBuiltins x=some u)(h:Q u s)
  (hn:x ≠ "__name__" := by decide) (hd:(x==("__debug__" : Str))=false:=by decide):wpAny (model X.prog X.w) X.A (eval (.Name x pos) X.env) Q E s:=by
 obtain⟨mb,h1,h2⟩:=I.mod.blt
 exact Calls.Name_function_global I.ok.kind hg (Calls.loadGlobal_builtin (by rw[I.ok.glob];exact I.mod.glob.keeps I.bk) hm (by rw[I.ok.blt];exact h1.keeps I.bk) ((h2 x hn).trans hv) h) hd
theorem pd(hg:Gl X x)(hm:X.mg x=some u)(r:aX v u)(hd:(x==("__debug__" : Str))=false:=by decide):PE X (.Name x pos) (tC v) :=
 fun _ _ _ H _ I h=>cJ I hg hm ⟨v,H,I,r,h⟩ hd
theorem D2(hg:Gl X x)(hm:X.mg x=none)(hv:bootBuiltins x=some u)(r:aX v u)(hn:x ≠ "__name__" := by decide)(hd:(x==("__debug__" : Str))=false:=by decide):PE X (.Name x pos) (tC v) :=
 fun _ _ _ H _ I h=>jz I hg hm hv ⟨v,H,I,r,h⟩ hn hd
variable{a b:Expr}{ta tb:TE}
def tB(t:TE):TT:=fun σ H Q=>t σ H fun x H1 => ∃c,x=.bl c/\Q c H1
theorem GE(h:PE X e t)(he:∀whole,isTrue e X.env whole=(do let v <- whole;standAt e.pos;holding [v] (truthy v)):=by intro _;rfl):PT X e (tB t):=by
 intro pins s σ H Q I hw
 refine isTrue_plain (aG (h pins s σ H _ I hw) fun v s1 ⟨x,H1,I1,r1,q1⟩=>?_) (he _)
 obtain⟨d,rfl,q⟩:=q1
 cases r1
 exact wpAny_truthy_bool ⟨H1,I1,q⟩
variable{tA tB':TT}{rest:List Expr}
def Mu(t u:TT):TT:=fun σ H Q=>t σ H fun c H1=>if c=true then u σ H1 Q else Q false H1
def Ra(t u:TT):TT:=fun σ H Q=>t σ H fun c H1=>if c=true then Q true H1 else u σ H1 Q
def Mn(t:TT):TT:=fun σ H Q=>t σ H fun c H1=>Q (!c) H1
theorem DK(ha:PT X a tA):PW X (.BoolOp .And [a] pos) tA:=by
 intro wh pins s σ H Q I h
 refine isTrue_and (aG (ha pins s σ H Q I h) fun c s1 e=>?_)
 cases c with
 | true=>exact isTrue_and_nil e
 | false=>exact e
theorem GC(ha:PT X a tA):PW X (.BoolOp .Or [a] pos) tA:=by
 intro wh pins s σ H Q I h
 refine isTrue_or (aG (ha pins s σ H Q I h) fun c s1 e=>?_)
 cases c with
 | false=>exact isTrue_or_nil e
 | true=>exact e
theorem yA(ha:PT X a tA)(hb:PW X (.BoolOp .And (b::rest) pos) tB'):PW X (.BoolOp .And (a::b::rest) pos) (Mu tA tB'):=by
 intro wh pins s σ H Q I h
 refine isTrue_and (aG (ha pins s σ H _ I h) fun c s1 ⟨H1,I1,q1⟩=>?_)
 cases c with
 | true=>exact hb wh pins s1 σ H1 Q I1 q1
 | false=>exact⟨H1,I1,q1⟩
theorem Cb(ha:PT X a tA)(hb:PW X (.BoolOp .Or (b::rest) pos) tB'):PW X (.BoolOp .Or (a::b::rest) pos) (Ra tA tB'):=by
 intro wh pins s σ H Q I h
 refine isTrue_or (aG (ha pins s σ H _ I h) fun c s1 ⟨H1,I1,q1⟩=>?_)
 cases c with
 | true=>exact⟨H1,I1,q1⟩
 | false=>exact hb wh pins s1 σ H1 Q I1 q1
theorem GF(ha:PT X a tA):PT X (.UnaryOp .Not a pos) (Mn tA):=by
 intro pins s σ H Q I h
 exact isTrue_not (ha pins s σ H (fun c H1=>Q (!c) H1) I h)
def Ku(ta tb:TE):TE:=fun σ H Q=>ta σ H fun x H1 => ∃c,x=.bl c/\if c=true then tb σ H1 Q else Q (.bl false) H1
def Mm(ta tb:TE):TE:=fun σ H Q=>ta σ H fun x H1 => ∃c,x=.bl c/\if c=true then Q (.bl true) H1 else tb σ H1 Q
def Kq(ta:TE):TE:=fun σ H Q=>ta σ H fun x H1 => ∃c,x=.bl c/\Q (.bl (!c)) H1
theorem GU{op}(h:PE X a t):PE X (.BoolOp op [a] pos) t:=fun pins s σ H Q I hw=>BoolOp_one (h pins s σ H Q I hw)
theorem yI(ha:PE X a ta)(hb:PE X (.BoolOp .And (b::rest) pos) tb):PE X (.BoolOp .And (a::b::rest) pos) (Ku ta tb):=by
 intro pins s σ H Q I h
 refine BoolOp_and (aG (ha pins s σ H _ I h) fun v s1 ⟨x,H1,I1,r1,q1⟩=>?_)
 obtain⟨c,rfl,q1⟩:=q1
 cases r1
 refine wpAny_truthy_bool ?_
 cases c with
 | true=>exact hb pins s1 σ H1 Q I1 q1
 | false=>exact⟨.bl false,H1,I1,rfl,q1⟩
theorem Cf(ha:PE X a ta)(hb:PE X (.BoolOp .Or (b::rest) pos) tb):PE X (.BoolOp .Or (a::b::rest) pos) (Mm ta tb):=by
 intro pins s σ H Q I h
 refine BoolOp_or (aG (ha pins s σ H _ I h) fun v s1 ⟨x,H1,I1,r1,q1⟩=>?_)
 obtain⟨c,rfl,q1⟩:=q1
 cases r1
 refine wpAny_truthy_bool ?_
 cases c with
 | false=>exact hb pins s1 σ H1 Q I1 q1
 | true=>exact⟨.bl true,H1,I1,rfl,q1⟩
theorem GV(ha:PE X a ta):PE X (.UnaryOp .Not a pos) (Kq ta):=by
 intro pins s σ H Q I h
 refine UnaryOp_ (aG (ha pins s σ H _ I h) fun v s1 ⟨x,H1,I1,r1,q1⟩=>?_)
 obtain⟨c,rfl,q1⟩:=q1
 cases r1
 exact not_of (wpAny_truthy_bool ⟨.bl (!c),H1,I1,rfl,q1⟩)
end
def cm(K:W.Frag)(H:Hp)(a:Addr)(xs:List V):Prop :=
 Rd H a (.lst xs) \/
  ∃(o:Obj) (its:Array Value) (n:Nat),K.lookup a=some o/\o.cls=.type "list" /\ o.dict=none/\o.data=.seq its n/\its.size<=sizeLine/\aL xs its.toList
def cZ(K:W.Frag)(H:Hp)(a:Addr)(xs:List V):Prop :=
 Rd H a (.tup xs) \/
  ∃(o:Obj) (its:Array Value) (n:Nat),K.lookup a=some o/\o.cls=.type "tuple" /\ o.data=.seq its n/\its.size<=sizeLine/\aL xs its.toList
def QW:Value->Option V
 | .none=>some .non
 | .bool b=>some (.bl b)
 | .int i _=>some (.int i)
 | .str x _=>some (.str x)
 | .bytes b _=>some (.byt b)
 | .float b _=>some (.flt b)
 | .ref a=>some (.ref a)
 | .type n=>some (.ty n)
 | _=>none
theorem aX.abs{x:V}(r:aX x u):QW u=some x:=by
 cases x with
 | non=>cases r;rfl
 | bl _=>cases r;rfl
 | int _=>obtain⟨t,rfl⟩:=r;rfl
 | str _=>obtain⟨t,rfl⟩:=r;rfl
 | byt _=>obtain⟨t,rfl⟩:=r;rfl
 | flt _=>obtain⟨t,rfl⟩:=r;rfl
 | ref _=>cases r;rfl
 | ty _=>cases r;rfl
theorem aX.inj{x:V}(r:aX x u)(q:aX y u):x=y:=Option.some.inj (r.abs.symm.trans q.abs)
theorem aL.inj:∀{xs ys:List V} {us:List Value},aL xs us->aL ys us->xs=ys
 | _,_,_,.nil,.nil=>rfl
 | _,_,_,.cons r t,.cons r' t'=>by rw[r.inj r',aL.inj t t']
section
variable{xs ys:List V}
theorem cm.of(h:H a=some (.lst xs)):cm K H a xs:=.inl (.inl h)
theorem cZ.of(h:H a=some (.tup xs)):cZ K H a xs:=.inl (.inl h)
theorem ah.list(I:ah X pins σ H s)(h:cm X.K H a xs):∃its:List Value,aL xs its/\PlainL s.heap a its.toArray/\xs.length<=sizeLine:=by
 rcases h with h|⟨o,its,n,hk,hc,hd,hs,hz,r⟩
 ·obtain⟨z,its,n,r,e⟩:=h.ok I.hok
  exact⟨its,r,⟨_,n,e,rfl,rfl,rfl⟩,z⟩
 ·refine⟨its.toList,r,⟨o,n,I.kIn a o hk,hc,hd,by simpa using hs⟩,?_⟩
  have e:=r.length
  simp only[Array.length_toList]at e
  omega
theorem ah.tuple(I:ah X pins σ H s)(h:cZ X.K H a xs):∃its:List Value,aL xs its/\IsTup s.heap a its.toArray/\xs.length<=sizeLine:=by
 rcases h with h|⟨o,its,n,hk,hc,hs,hz,r⟩
 ·obtain⟨z,its,r,p⟩:=h.ok I.hok
  exact⟨its,r,p,z⟩
 ·refine⟨its.toList,r,⟨o,I.kIn a o hk,hc,n,by simpa using hs⟩,?_⟩
  have e:=r.length
  simp only[Array.length_toList]at e
  omega
theorem ah.list_inj(I:ah X pins σ H s)(h:cm X.K H a xs)(h':cm X.K H a ys):xs=ys:=by
 obtain⟨its,r,⟨o,n,e,_,_,d⟩,_⟩:=I.list h
 obtain⟨its',r',⟨o',n',e',_,_,d'⟩,_⟩:=I.list h'
 rw[e]at e';cases e'
 rw[d]at d'
 injection d' with d1 _
 have:its=its':=by simpa using congrArg Array.toList d1
 subst this
 exact r.inj r'
theorem ah.tuple_inj(I:ah X pins σ H s)(h:cZ X.K H a xs)(h':cZ X.K H a ys):xs=ys:=by
 obtain⟨its,r,⟨o,e,_,n,d⟩,_⟩:=I.tuple h
 obtain⟨its',r',⟨o',e',_,n',d'⟩,_⟩:=I.tuple h'
 rw[e]at e';cases e'
 rw[d]at d'
 injection d' with d1 _
 have:its=its':=by simpa using congrArg Array.toList d1
 subst this
 exact r.inj r'
end
abbrev Cx.wish(X:Cx)(E:Value->Shared->Prop):Cx:={ X with xe:=E }
abbrev Cx.nox(X:Cx):Cx:=X.wish fun _ _=>False
theorem Cx.Ok.wish(ok:X.Ok)(E:Value->Shared->Prop):(X.wish E).Ok :=
 ⟨ok.mod,ok.kind,ok.glob,ok.blt,ok.above,ok.inj,ok.has,ok.cab,ok.hd,ok.frames,ok.stk,ok.exf,ok.bs,ok.bsz,ok.noex,ok.exfs,ok.funs,ok.frf⟩
theorem Cx.Ok.unwish(ok:(X.wish E).Ok):X.Ok :=
 ⟨ok.mod,ok.kind,ok.glob,ok.blt,ok.above,ok.inj,ok.has,ok.cab,ok.hd,ok.frames,ok.stk,ok.exf,ok.bs,ok.bsz,ok.noex,ok.exfs,ok.funs,ok.frf⟩
section
theorem ah.wish(I:ah X pins σ H s)(E:Value->Shared->Prop):ah (X.wish E) pins σ H s:=⟨I.ok.wish E,I.os,I.bare,I.base,I.loc,I.cell,I.free,I.freeC,I.pin,I.hok,I.len⟩
theorem ah.unwish(I:ah (X.wish E) pins σ H s):ah X pins σ H s:=⟨I.ok.unwish,I.os,I.bare,I.base,I.loc,I.cell,I.free,I.freeC,I.pin,I.hok,I.len⟩
theorem SP.unwish{D:jh}{f:Flow}(h:SP (X.wish E) pins D f s'):SP X pins D f s':=by
 cases f with
 | next=>obtain⟨σ',H',I,q⟩:=h;exact⟨σ',H',I.unwish,q⟩
 | brk=>obtain⟨σ',H',I,q⟩:=h;exact⟨σ',H',I.unwish,q⟩
 | cont=>obtain⟨σ',H',I,q⟩:=h;exact⟨σ',H',I.unwish,q⟩
 | ret u=>obtain⟨v,σ',H',I,r,q⟩:=h;exact⟨v,σ',H',I.unwish,r,q⟩
theorem PE.nox(h:PE X.nox e t):PE X e t:=fun pins s σ H Q I hw =>
 wpAny_mono (h pins s σ H Q (I.wish _) hw) (fun _ _ ⟨v,H',I',r,q⟩=>⟨v,H',I'.unwish,r,q⟩) fun _ _ z=>False.elim z
theorem PT.nox{t:TT}(h:PT X.nox e t):PT X e t:=fun pins s σ H Q I hw =>
 wpAny_mono (h pins s σ H Q (I.wish _) hw) (fun _ _ ⟨H',I',q⟩=>⟨H',I'.unwish,q⟩) fun _ _ z=>False.elim z
theorem c5.nox{st:List Stmt}{t:TS}(h:c5 X.nox st t):c5 X st t:=fun pins s σ H D I hw =>
 wpAny_mono (h pins s σ H D (I.wish _) hw) (fun _ _ q=>q.unwish) fun _ _ z=>False.elim z
end
section
variable{st:Stmt}{rest:List Stmt}{t u:TS}
def BZ:TS:=fun D σ H=>D.nx σ H
def Mi(t u:TS):TS:=fun D σ H=>t { D with nx:=u D } σ H
theorem DM:c5 X [] BZ:=fun _ _ σ H _ I h=>wpAny_execs_nil ⟨σ,H,I,h⟩
theorem cD(h1:PS X st t)(h2:c5 X rest u):c5 X (st::rest) (Mi t u):=by
 intro pins s σ H D I h
 refine wpAny_execs_cons (aG (h1 pins s σ H { D with nx:=u D } I h) fun f s1 q=>?_)
 cases f with
 | next =>
  obtain⟨σ',H',I',q⟩:=q
  exact h2 pins s1 σ' H' D I' q
 | ret v=>exact q
 | brk=>exact q
 | cont=>exact q
theorem ig(h1:PS X st t):c5 X [st] t:=by
 intro pins s σ H D I h
 refine wpAny_execs_cons (aG (h1 pins s σ H D I h) fun f s1 q=>?_)
 cases f with
 | next=>exact wpAny_execs_nil q
 | ret v=>exact q
 | brk=>exact q
 | cont=>exact q
def FZ:TS:=fun D σ H=>D.bk σ H
def Ks:TS:=fun D σ H=>D.ct σ H
theorem DP:PS X (.Pass pos) BZ:=fun _ _ σ H _ I h=>wpAny_Pass ⟨σ,H,I,h⟩
theorem AN:PS X (.Break pos) FZ:=fun _ _ σ H _ I h=>wpAny_Break ⟨σ,H,I,h⟩
theorem uC:PS X (.Continue pos) Ks:=fun _ _ σ H _ I h=>wpAny_Continue ⟨σ,H,I,h⟩
theorem ah.quiet(I:ah X pins σ H s):interactive X.env=false:=by simp[interactive,I.ok.kind]
def Kr(te:TE):TS:=fun D σ H=>te σ H fun _ H1=>D.nx σ H1
theorem ii(he:PE X e te)(hs:swapsWith e none pos.line X.env=pure false:=by rfl):PS X (.Expr e pos) (Kr te):=by
 intro pins s σ H D I h
 exact wpAny_Expr_any (aG (he pins s σ H _ I h) fun v s1 ⟨x,H1,I1,r1,q1⟩=>⟨σ,H1,I1,q1⟩) I.quiet hs
def Mj(te:TE):TS:=fun D σ H=>te σ H D.rt
theorem yB(he:PE X e te):PS X (.Return (some e) pos) (Mj te):=by
 intro pins s σ H D I h
 exact wpAny_Return_some (aG (he pins s σ H _ I h) fun v s1 ⟨x,H1,I1,r1,q1⟩=>⟨x,σ,H1,I1,r1,q1⟩)
def Km:TS:=fun D _ H=>D.rt .non H
theorem DO:PS X (.Return none pos) Km:=fun _ _ σ H _ I h=>wpAny_Return_none ⟨.non,σ,H,I,rfl,h⟩
def Mq(c:TT)(t u:TS):TS:=fun D σ H=>c σ H fun b H1=>if b=true then t D σ H1 else u D σ H1
theorem Cd{a b:List Stmt}(hc:PT X c tc)(ha:c5 X a t)(hb:c5 X b u):PS X (.If c a b pos) (Mq tc t u):=by
 intro pins s σ H D I h
 refine wpAny_If (aG (hc pins s σ H _ I h) fun d s1 ⟨H1,I1,q1⟩=>?_)
 cases d with
 | true=>exact ha pins s1 σ H1 D I1 q1
 | false=>exact hb pins s1 σ H1 D I1 q1
def FX:TS:=fun _ _ _=>False
theorem iR{sts:List Stmt}:c5 X sts FX:=fun _ _ _ _ _ _ h=>h.elim
end
abbrev TG:=V->St->Hp->(St->Hp->Prop)->Prop
abbrev oM:=List V->St->Hp->(St->Hp->Prop)->Prop
def PG(X:Cx)(target:Expr)(t:TG):Prop :=
 ∀(pins:List (Addr×Obj)) (s:Shared) (σ:St) (H:Hp) (v:V) (u:Value) (Q:St->Hp->Prop),ah X pins σ H s->aX v u->t v σ H Q ->
  wpAny (model X.prog X.w) X.A (assign target X.env u) (fun _ s' => ∃σ' H',ah X pins σ' H' s'/\Q σ' H') X.xe s
def v4(X:Cx)(ts:List Expr)(t:oM):Prop :=
 ∀(pins:List (Addr×Obj)) (s:Shared) (σ:St) (H:Hp) (vs:List V) (us:List Value) (Q:St->Hp->Prop),ah X pins σ H s->aL vs us->t vs σ H Q ->
  wpAny (model X.prog X.w) X.A (assignInOrder ((assignEach ts X.env).map (·.2)) us) (fun _ s' => ∃σ' H',ah X pins σ' H' s'/\Q σ' H') X.xe s
abbrev xn:=V->V->V->Hp->(Hp->Prop)->Prop
def J0(X:Cx)(t:xn):Prop :=
 ∀(pins:List (Addr×Obj)) (s:Shared) (σ:St) (H:Hp) (o i v:V) (ov iv u:Value) (Q:Hp->Prop),ah X pins σ H s->aX o ov->aX i iv->aX v u->t o i v H Q ->
  wpAny (model X.prog X.w) X.A (setItem ov iv u) (fun _ s' => ∃H',ah X pins σ H' s'/\Q H') X.xe s
abbrev JZ:=V->V->Hp->VK->Prop
def L7(X:Cx)(op:Operator)(t:JZ):Prop :=
 ∀(pins:List (Addr×Obj)) (s:Shared) (σ:St) (H:Hp) (x y:V) (v u:Value) (Q:VK),ah X pins σ H s->aX x v->aX y u->t x y H Q ->
  wpAny (model X.prog X.w) X.A (inplaceOp op v u) (EP X pins σ Q) X.xe s
section
def CC(i:Nat):TG:=fun v σ H Q=>Q (σ.set i (some v)) H
theorem gv(hN:X.N.Nodup)(hi:X.N[i]?=some x)(hx:uw X.env.scope x)(hf:X.fn x=true\/X.env.scope.names.lookup x=some .local:=by first|exact .inl rfl|exact .inr rfl|assumption):PG X (.Name x pos) (CC i):=by
 intro pins s σ H v u Q I r h
 exact wpAny_assign_Name (gu I hN hi hx r (fun s' I'=>⟨_,H,I',h⟩) hf)
def Pj:oM:=fun vs σ H Q=>vs=[]/\Q σ H
def Lo(t:TG)(u:oM):oM:=fun vs σ H Q => ∃v r,vs=v::r/\t v σ H fun σ' H'=>u r σ' H' Q
theorem o9:v4 X [] Pj:=by
 intro pins s σ H vs us Q I r h
 obtain⟨e,h⟩:=h
 subst e
 cases r
 exact assignInOrder_nil ⟨σ,H,I,h⟩
theorem iq{t:TG}{u:oM}(h1:PG X e t)(h2:v4 X es u)
  (hs:(assignEach (e::es) X.env).map (·.2)=assign e X.env::(assignEach es X.env).map (·.2):=by rfl):v4 X (e::es) (Lo t u):=by
 intro pins s σ H vs us Q I r h
 obtain⟨v,vr,e1,h⟩:=h
 subst e1
 cases r with
 | cons r rr =>
  rw[hs]
  refine assignInOrder_cons (aG (h1 pins s σ H _ _ _ I r h) fun _ s1 ⟨σ1,H1,I1,q1⟩=>?_)
  exact h2 pins s1 σ1 H1 _ _ Q I1 rr q1
def Ph(K:W.Frag)(n:Nat)(t:oM):TG:=fun v σ H Q => ∃a xs,v=.ref a/\cZ K H a xs/\xs.length=n/\t xs σ H Q
theorem nB{t:oM}(hc:X.calm=true)(h:v4 X es t)
  (hn:(assignEach es X.env).length=n:=by rfl) (hst:(assignEach es X.env).findIdx? (·.1)=none:=by rfl):PG X (.Tuple es k pos) (Ph X.K n t):=by
 intro pins s σ H v u Q I r hw
 obtain⟨a,xs,e1,hq,hl,hw⟩:=hw
 subst e1
 cases r
 obtain⟨its,rv,ht,hz⟩:=I.tuple hq
 refine assign_Tuple_tuple (I.ok.hd hc) ht (by simp[hn,<- hl,rv.length]) hst fun h' hx=>?_
 have I1:ah X pins σ H { s with heap:=h' }:=I.kept (t':=s.toks) fun b o e=>hx b o (Nat.ne_of_lt (Heap.lt_size e)) e
 exact h pins _ σ H xs _ Q I1 (by simpa using rv) hw
def Pi(to ti:TE)(t:xn):TG:=fun v σ H Q=>to σ H fun o H1=>ti σ H1 fun i H2=>t o i v H2 fun H3=>Q σ H3
theorem GP{o i:Expr}{to ti:TE}{t:xn}(ho:PE X o to)(hi:PE X i ti)(hs:J0 X t)
  (ha:∀v,assign (.Subscript o i pos) X.env v=(do
   let ov <- holding [v] (eval o X.env)
   let iv <- holding [v,ov] (eval i X.env)
   standAt pos
   holding [v,ov,iv] (setItem ov iv v)
   release [v,ov,iv] []):=by intro _;rfl):PG X (.Subscript o i pos) (Pi to ti t):=by
 intro pins s σ H v u Q I r h
 rw[ha]
 refine wpAny_bind (wpAny_holding (aG (ho pins s σ H _ I h) fun ov s1 ⟨x,H1,I1,r1,q1⟩=>?_))
 refine wpAny_bind (wpAny_holding (aG (hi pins s1 σ H1 _ I1 q1) fun iv s2 ⟨y,H2,I2,r2,q2⟩=>?_))
 refine wpAny_bind (wpAny_standAt (wpAny_bind (wpAny_holding (aG (hs pins s2 σ H2 x y v ov iv u _ I2 r1 r2 r q2) fun _ s3 ⟨H3,I3,q3⟩=>?_))))
 exact wpAny_release ⟨σ,H3,I3,q3⟩
def F0(te:TE)(g:TG):TS:=fun D σ H=>te σ H fun x H1=>g x σ H1 D.nx
theorem kK{g:TG}(he:PE X e te)(hg:PG X tg g)(hs:swapsWithSole [tg] e pos.line X.env=pure false:=by rfl)(hw:swappedStores [tg] e X.env=pure none:=by rfl)
  (h1:(assignEach [tg] X.env).map (·.2)=[assign tg X.env]:=by rfl):PS X (.Assign [tg] e pos) (F0 te g):=by
 intro pins s σ H D I h
 refine wpAny_Assign_stores (aG (he pins s σ H _ I h) fun v s1 ⟨x,H1,I1,r1,q1⟩=>?_) hs hw
 rw[h1]
 exact aG (hg pins s1 σ H1 x v _ I1 r1 q1) fun _ s2 q=>q
theorem ny(hN:X.N.Nodup)(hi:X.N[i]?=some x)(hx:uw X.env.scope x)(he:PE X e te)(hs:swapsWith e (some (.Name x pos')) pos.line X.env=pure false:=by rfl)(hf:X.fn x=true\/X.env.scope.names.lookup x=some .local:=by first|exact .inl rfl|exact .inr rfl|assumption) :
  PS X (.Assign [.Name x pos'] e pos) (F0 te (CC i)):=by
 intro pins s σ H D I h
 refine wpAny_Assign_Name (aG (he pins s σ H _ I h) fun v s1 ⟨y,H1,I1,r1,q1⟩=>?_) hs
 exact gu I1 hN hi hx r1 (fun s2 I2=>⟨_,H1,I2,q1⟩) hf
def Ml(i j:Nat)(ta:TA):TS:=fun D σ H=>ta σ H fun vs H1 => ∃v w,vs=[v,w]/\D.nx ((σ.set i (some v)).set j (some w)) H1
theorem GG{y:Str}{a b:Expr}{px py pt:Pos}{kt k2 pt2}(hc:X.calm=true)(hN:X.N.Nodup)(hi:X.N[i]?=some x)(hj:X.N[j]?=some y)(hij:i≠j)
  (hx:X.env.scope.names.lookup x=some .local) (hy:X.env.scope.names.lookup y=some .local) (ha:PA X [a,b] ta)
  (hw:swappedStores [.Tuple [.Name x px,.Name y py] kt pt] (.Tuple [a,b] k2 pt2) X.env=pure (some [x,y]))
  (hs:swapsWithSole [.Tuple [.Name x px,.Name y py] kt pt] (.Tuple [a,b] k2 pt2) pos.line X.env=pure false:=by rfl) :
  PS X (.Assign [.Tuple [.Name x px,.Name y py] kt pt] (.Tuple [a,b] k2 pt2) pos) (Ml i j ta):=by
 intro pins s σ H D I h
 rw[exec_Assign_arm]
 refine wpAny_bind (wpAny_standAt ?_)
 rw[hs]
 refine wpAny_bind (wpAny_pure ?_)
 rw[if_neg (by decide)]
 refine wpAny_bind (Tuple_ (aG (ha _ pins s σ H _ I h) fun us s1 ⟨vs,H1,I1,r1,q1⟩=>?_))
 obtain⟨v,w,e1,q1⟩:=q1
 subst e1
 obtain⟨u1,u2,rfl,rv,rw'⟩:∃u1 u2,us=[u1,u2]/\aX v u1/\aX w u2:=by
  cases r1 with
  | cons p q =>
   cases q with
   | cons p' q' =>
    cases q'
    exact⟨_,_,rfl,p,p'⟩
 refine wpAny_newObj_type ?_ (by show 2<=sizeLine;decide)
 have I2:ah X pins σ H1 { s1 with heap:=s1.heap.push { cls:=.type "tuple", data:=.seq [u1,u2].toArray } }:=I1.kept (t':=s1.toks) fun b o e=>Heap.get?_push_of_some _ e
 rw[hw]
 refine wpAny_bind (wpAny_pure ?_)
 show wpAny (model X.prog X.w) X.A (do rule "assign.swapped-stores"; let items <- unpackItems (.ref s1.heap.objs.size) 2 none;assignInOrder [fun v=>bindName X.env y v,fun v=>bindName X.env x v] items.reverse;pure Flow.next) _ _ _
 refine wpAny_bind (wpAny_rule (wpAny_bind (unpackItems_tuple (items:=#[u1,u2]) (I.ok.hd hc) (IsTup.new s1.heap _) fun h' hx'=>?_)))
 have I3:=I2.kept (h':=h') (t':=s1.toks) fun b o e=>hx' b o (Nat.ne_of_lt (Heap.lt_size e)) e
 show wpAny _ _ (assignInOrder [fun v=>bindName X.env y v,fun v=>bindName X.env x v] [u2,u1] >>= fun _=>pure Flow.next) _ _ _
 refine wpAny_bind (assignInOrder_cons (wpAny_bindName (gu I3 hN hj (.inl hy) rw' (fun s2 I4=>?_) (.inr hy))))
 refine assignInOrder_cons (wpAny_bindName (gu I4 hN hi (.inl hx) rv (fun s3 I5=>assignInOrder_nil (wpAny_pure ?_)) (.inr hx)))
 rw[List.set_comm _ _ (Ne.symm hij)]at I5
 exact⟨_,H1,I5,q1⟩
def Mt(i:Nat)(te:TE)(ti:JZ):TS:=fun D σ H => ∃x,σ[i]?=some (some x)/\te σ H fun y H1=>ti x y H1 fun z H2=>D.nx (σ.set i (some z)) H2
theorem GH{op:Operator}{ti:JZ}(hN:X.N.Nodup)(hi:X.N[i]?=some x)(hx:uw X.env.scope x)(he:PE X e te)(ho:L7 X op ti)(hf:X.fn x=true\/X.env.scope.names.lookup x=some .local:=by first|exact .inl rfl|exact .inr rfl|assumption) :
  PS X (.AugAssign (.Name x pos') op e pos) (Mt i te ti):=by
 intro pins s σ H D I h
 obtain⟨v,e1,h⟩:=h
 obtain⟨m,hn,hl⟩:=I.loc
 have vis:fy X.env.scope x:=by rcases hx with k|k;exact .inl k;exact .inr (.inl k)
 obtain⟨u,r,l⟩:=hl i x v hi e1 vis
 refine wpAny_AugAssign_Name ?_
 have go:wpAny (model X.prog X.w) X.A (eval e X.env) (fun w s₂=>wpAny (model X.prog X.w) X.A (inplaceOp op u w) (fun r s₃=>wpAny (model X.prog X.w) X.A (storeName X.env x r) (fun _=>SP X pins D .next) X.xe s₃) X.xe s₂) X.xe s:=by
  refine aG (he pins s σ H _ I h) fun w s1 ⟨y,H1,I1,r1,q1⟩=>?_
  refine aG (ho pins s1 σ H1 v y u w _ I1 r r1 q1) fun z s2 ⟨zv,H2,I2,r2,q2⟩=>?_
  exact gu I2 hN hi hx r2 (fun s3 I3=>⟨_,H2,I3,q2⟩) hf
 rcases l with⟨hk,hm⟩|⟨hk,c,hc,hcell⟩
 ·exact wpAny_loadName_local I.ok.kind hk hn hm go
 ·rcases hk with hk|hk
  ·exact wpAny_loadName_cell I.ok.kind hk hc hcell go
  ·rcases hx with k|k
   ·have:X.env.scope.names.lookup x=some .free:=hk
    rw[k]at this;cases this
   ·have:X.env.scope.names.lookup x=some .free:=hk
    rw[k]at this;cases this
end
section
def FW(c:TT)(tb:TS):TS:=fun D σ H => ∃W:Nat->St->Hp->Prop,(∃m,W m σ H)/\∀m σ H,W m σ H ->
 c σ H fun b H1=>if b=true then ∃N:St->Hp->Prop,(∀σ' H',N σ' H'->∃m',m' < m/\W m' σ' H')/\tb { D with nx:=N,ct:=N,bk:=D.nx } σ H1 else D.nx σ H1
theorem AM(hp:PassesOwn (model X.prog X.w) X.A X.env X.xe)(hc:PT X c tc)(hb:c5 X body tb):PS X (.While c body [] pos) (FW tc tb):=by
 intro pins s σ H D I h
 obtain⟨W,⟨m0,w0⟩,turn⟩:=h
 refine wpAny_While (codeAny_whileLoop (fun n s' => ∃σ' H',ah X pins σ' H' s'/\W n σ' H') ?_ m0 ⟨σ,H,I,w0⟩)
 rintro n s1 ⟨σ1,H1,I1,w1⟩
 refine wpAny_passesOwn hp (aG (hc pins s1 σ1 H1 _ I1 (turn n σ1 H1 w1)) fun b s2 ⟨H2,I2,q2⟩=>?_)
 cases b with
 | true =>
  obtain⟨N,hN,q2⟩:=q2
  rw[if_pos rfl]
  refine wpAny_passesOwn hp (aG (hb pins s2 σ1 H2 _ I2 q2) fun f s3 q3=>?_)
  cases f with
  | next =>
   obtain⟨σ3,H3,I3,n3⟩:=q3
   obtain⟨m',hm,w3⟩:=hN σ3 H3 n3
   exact⟨m',hm,σ3,H3,I3,w3⟩
  | cont =>
   obtain⟨σ3,H3,I3,n3⟩:=q3
   obtain⟨m',hm,w3⟩:=hN σ3 H3 n3
   exact⟨m',hm,σ3,H3,I3,w3⟩
  | brk=>exact q3
  | ret v=>exact q3
 | false =>
  rw[if_neg Bool.false_ne_true]
  exact wpAny_execs_nil ⟨σ1,H2,I2,q2⟩
end
structure It where
 go:Nat->Hp->Prop
 yld:Nat->Hp->V->Hp->Prop
 stop:Nat->Hp->Prop
def g7(X:Cx)(pins:List (Addr×Obj))(H:Hp)(b:Addr):Prop :=
 H b=none/\b≠X.env.locals/\b∉X.fs/\(b∈X.ex\/X.s₀.heap.objs.size<=b)/\(∀x c,X.env.cells.lookup x=some c->c≠b)/\∀p∈X.pn++pins,p.1≠b
theorem ah.fpOk{H':Hp}(I:ah X pins σ H s)(hb:s.heap.objs.size<=b)(hn:H' b=none):g7 X pins H' b:=by
 refine⟨hn,Nat.ne_of_gt (Nat.lt_of_lt_of_le I.lt hb),I.nofs hb,.inr (Nat.le_trans I.sz hb),fun x c e z=>?_,fun p hp z=>?_⟩
 ·obtain⟨v,q⟩:=I.cell x c e
  exact absurd (Nat.lt_of_lt_of_le q.lt (by rw[z];exact hb)) (Nat.lt_irrefl _)
 ·exact absurd (Nat.lt_of_lt_of_le (Heap.lt_size (I.pin p hp).1) (by rw[z];exact hb)) (Nat.lt_irrefl _)
structure Turn(P:Program)(w:World)(K:W.Frag)(tg:Expr)(J:It)(fp:List Addr)(it:Addr)(tn:Nat->Heap->Prop):Prop where
 mem:it∈fp
 obj:∀i h,tn i h->∀b∈fp,∃o,h.get? b=some o/\∀v,o.data ≠ .cell v
 keep:∀i h h',tn i h->(∀b∈fp,∀o,h.get? b=some o->h'.get? b=some o)->tn i h'
 item:∀(X:Cx),X.prog=P->X.w=w->X.K=K->X.calm=true->∀(i:Nat) (pins:List (Addr×Obj)) (s:Shared) (σ:St) (H:Hp) (E:Value->Shared->Prop),ah X pins σ H s->(∀b∈fp,g7 X pins H b)->tn i s.heap->J.go i H ->
  wpAny (model P w) X.A (pyNext (.ref it)) (fun r s1 => ∃u,r=some u /\
   wpAny (model P w) X.A (letOwnedTupleGo tg (.ref it) u) (fun _ s2 => ∃x H',ah X pins σ H' s2/\aX x u/\J.yld i H x H'/\tn (i+1) s2.heap/\∀b∈fp,H' b=none) E s1) E s
 done:∀(X:Cx),X.prog=P->X.w=w->X.K=K->X.calm=true->∀(i:Nat) (pins:List (Addr×Obj)) (s:Shared) (σ:St) (H:Hp) (E:Value->Shared->Prop),ah X pins σ H s->(∀b∈fp,g7 X pins H b)->tn i s.heap->J.stop i H ->
  wpAny (model P w) X.A (pyNext (.ref it)) (fun r s1=>r=none/\ah X pins σ H s1) E s
 self:∀(A:Around) (i:Nat) (s:Shared) (Q:Value->Shared->Prop) (E:Value->Shared->Prop),tn i s.heap->Q (.ref it) s->wpAny (model P w) A (pyIter (.ref it)) Q E s
abbrev TI:=St->Hp->(It->Hp->Prop)->Prop
def J8(X:Cx)(pins:List (Addr×Obj))(σ:St)(tg:Expr)(R:It->Hp->Prop)(itv:Value)(s2:Shared):Prop :=
 ∃(it:Addr) (fp:List Addr) (tn:Nat->Heap->Prop) (J:It) (H':Hp),itv=.ref it/\ah X pins σ H' s2/\Turn X.prog X.w X.K tg J fp it tn/\tn 0 s2.heap/\(∀b∈fp,g7 X pins H' b)/\R J H'
def PI(X:Cx)(tg iter:Expr)(wi:TI):Prop :=
 ∀(pins:List (Addr×Obj)) (s:Shared) (σ:St) (H:Hp) (R:It->Hp->Prop),ah X pins σ H s->wi σ H R ->
  wpAny (model X.prog X.w) X.A (eval iter X.env) (fun v s1=>wpAny (model X.prog X.w) X.A (pyIter v) (J8 X pins σ tg R) X.xe s1) X.xe s
theorem rA{n:String}{vs:Array Value}{Q:Unit->Shared->Prop}(ho:s.heap.get? it=some o)(hc:o.cls=.type n)(hd:o.data=.fields vs)
    (hn:["enumerate", "zip", "dict_itemiterator", "dict_reverseitemiterator", "odict_iterator", "itertools.zip_longest", "itertools.pairwise"].contains n=false) (hQ:Q () s):wpAny M A (letOwnedTupleGo tg (.ref it) u) Q E s:=by
  unfold letOwnedTupleGo
  cases tg<;>first
    | exact wpAny_pure hQ
    | (cases u<;>first
        | exact wpAny_pure hQ
        | (refine wpAny_bind (wpAny_load ho ?_)
           rw[hc,hd]
           show wpAny M A (if (["enumerate", "zip", "dict_itemiterator", "dict_reverseitemiterator", "odict_iterator", "itertools.zip_longest", "itertools.pairwise"].contains n&&vs[0]? == some (rawInt _))=true then _ else _) Q E s
           rw[if_neg (by intro h;rw[hn,Bool.false_and]at h;cases h)]
           exact wpAny_pure hQ))
def Ma(K:W.Frag)(a:Addr):It :=
 ⟨fun i H => ∃xs x,cm K H a xs/\xs[i]?=some x,fun i H x H'=>H'=H/\∀xs,cm K H a xs->xs[i]?=some x,fun i H => ∃xs,cm K H a xs/\xs.length<=i⟩
def L9(K:W.Frag)(a:Addr):It :=
 ⟨fun i H => ∃xs x,cZ K H a xs/\xs[i]?=some x,fun i H x H'=>H'=H/\∀xs,cZ K H a xs->xs[i]?=some x,fun i H => ∃xs,cZ K H a xs/\xs.length<=i⟩
def Dd(lo:Int)(n:Nat):It:=⟨fun i _=>i<n,fun i H x H'=>H'=H/\x=.int (lo+i),fun i _=>n<=i⟩
theorem xZ(a it:Addr):Turn P w K tg (Ma K a) [it] it (fun i h=>h.IsListIter it a i) where
 mem:=by simp
 obj:=fun i h st b hb=>by
  have e:b=it:=by simpa using hb
  subst e
  obtain⟨o,e,c,d⟩:=st
  exact⟨o,e,fun v z=>by rw[d]at z;cases z⟩
 keep:=fun i h h' st k=>st.at fun o e=>k it (by simp) o e
 item:=by
  intro X hP hw hK hc i pins s σ H E I hf st hg
  subst hP hw hK
  obtain⟨xs,x,hq,hx⟩:=hg
  obtain⟨its,rv,p,hz⟩:=I.list hq
  obtain⟨u,hu,ru⟩:=rv.get hx
  obtain⟨f0,f1,f2,f3,f4,f5⟩:=hf it (by simp)
  refine wpAny_pyNext_list_item st p.isList (x:=u) (by simpa using hu) fun h' st' sb=>?_
  have I1:ah X pins σ H { s with heap:=h' }:=I.turned (t':=s.toks) (fun b o hb e=>(sb.2 b hb).trans e) f0 f1 f3 f4 f5
  obtain⟨o,e,c,d⟩:=id st'
  exact⟨u,rfl,rA (s:={ s with heap:=h' }) e c d (by decide) ⟨x,H,I1,ru,⟨rfl,fun ys hy=>by rw[I.list_inj hy hq];exact hx⟩,st',fun b hb=>(hf b hb).1⟩⟩
 done:=by
  intro X hP hw hK hc i pins s σ H E I hf st hg
  subst hP hw hK
  obtain⟨xs,hq,hx⟩:=hg
  obtain⟨its,rv,p,hz⟩:=I.list hq
  obtain⟨f0,f1,f2,f3,f4,f5⟩:=hf it (by simp)
  have hl:=rv.length
  exact wpAny_pyNext_list_end (I.ok.hd hc) st p.isList (by simp;omega) fun h' eb=>⟨rfl,I.turned (t':=s.toks) (fun b o hb e=>eb b o hb e) f0 f1 f3 f4 f5⟩
 self:=fun _ _ _ _ _ st h=>wpAny_pyIter_listiter st h
theorem v8(a it:Addr):Turn P w K tg (L9 K a) [it] it (fun i h=>h.IsTupleIter it a i) where
 mem:=by simp
 obj:=fun i h st b hb=>by
  have e:b=it:=by simpa using hb
  subst e
  obtain⟨o,e,c,d⟩:=st
  exact⟨o,e,fun v z=>by rw[d]at z;cases z⟩
 keep:=fun i h h' st k=>st.at fun o e=>k it (by simp) o e
 item:=by
  intro X hP hw hK hc i pins s σ H E I hf st hg
  subst hP hw hK
  obtain⟨xs,x,hq,hx⟩:=hg
  obtain⟨its,rv,p,hz⟩:=I.tuple hq
  obtain⟨u,hu,ru⟩:=rv.get hx
  obtain⟨f0,f1,f2,f3,f4,f5⟩:=hf it (by simp)
  refine wpAny_pyNext_tuple_item st (show s.heap.IsTuple a its.toArray from p) (x:=u) (by simpa using hu) fun h' st' sb=>?_
  have I1:ah X pins σ H { s with heap:=h' }:=I.turned (t':=s.toks) (fun b o hb e=>(sb.2 b hb).trans e) f0 f1 f3 f4 f5
  obtain⟨o,e,c,d⟩:=id st'
  exact⟨u,rfl,rA (s:={ s with heap:=h' }) e c d (by decide) ⟨x,H,I1,ru,⟨rfl,fun ys hy=>by rw[I.tuple_inj hy hq];exact hx⟩,st',fun b hb=>(hf b hb).1⟩⟩
 done:=by
  intro X hP hw hK hc i pins s σ H E I hf st hg
  subst hP hw hK
  obtain⟨xs,hq,hx⟩:=hg
  obtain⟨its,rv,p,hz⟩:=I.tuple hq
  obtain⟨f0,f1,f2,f3,f4,f5⟩:=hf it (by simp)
  have hl:=rv.length
  exact wpAny_pyNext_tuple_end (I.ok.hd hc) st (show s.heap.IsTuple a its.toArray from p) (by simp;omega) fun h' eb=>⟨rfl,I.turned (t':=s.toks) (fun b o hb e=>eb b o hb e) f0 f1 f3 f4 f5⟩
 self:=fun _ _ _ _ _ st h=>wpAny_pyIter_tupleiter st h
theorem v9(it:Addr)(lo:Int)(n:Nat):Turn P w K tg (Dd lo n) [it] it (fun i h=>IsRangeIter h it (lo+(i:Nat)*1) ((n:Int)-(i:Nat)) 1) where
 mem:=by simp
 obj:=fun i h st b hb=>by
  have e:b=it:=by simpa using hb
  subst e
  exact⟨_,st,fun v z=>by
   have z':Data.fields _=Data.cell v:=z
   cases z'⟩
 keep:=fun i h h' st k=>k it (by simp) _ st
 item:=by
  intro X hP hw hK hc i pins s σ H E I hf st hg
  subst hP hw hK
  obtain⟨f0,f1,f2,f3,f4,f5⟩:=hf it (by simp)
  have W:=Walks.range (prog:=X.prog) (w:=X.w) (I.ok.hd hc) it lo 1 n
  refine W.item i s _ _ hg st fun v h' tk hv st' kk=>?_
  obtain⟨t,rfl⟩:=hv
  have I1:ah X pins σ H { s with heap:=h',toks:=tk }:=I.turned (fun b o hb e=>kk b o (by simpa using hb) e) f0 f1 f3 f4 f5
  refine⟨_,rfl,rA (s:={ s with heap:=h',toks:=tk }) (n := "range_iterator") st' rfl rfl (by decide) ⟨.int (lo+i),H,I1,⟨t,?_⟩,⟨rfl,rfl⟩,st',fun b hb=>(hf b hb).1⟩⟩
  rw[Int.mul_one]
 done:=by
  intro X hP hw hK hc i pins s σ H E I hf st hg
  subst hP hw hK
  obtain⟨f0,f1,f2,f3,f4,f5⟩:=hf it (by simp)
  exact wpAny_pyNext_range_end (I.ok.hd hc) st (by have:n<=i:=hg;omega) fun h' eb=>⟨rfl,I.turned (t':=s.toks) (fun b o hb e=>eb b o hb e) f0 f1 f3 f4 f5⟩
 self:=fun _ _ _ _ _ st h=>wpAny_pyIter_rangeiter st h
section
def Lm(K:W.Frag)(tl:TE):TI:=fun σ H R=>tl σ H fun x H1 => ∃a,x=.ref a/\(∃xs,cm K H1 a xs)/\R (Ma K a) H1
def Pg(K:W.Frag)(tl:TE):TI:=fun σ H R=>tl σ H fun x H1 => ∃a,x=.ref a/\(∃xs,cZ K H1 a xs)/\R (L9 K a) H1
theorem DW(hl:PE X l tl):PI X tg l (Lm X.K tl):=by
 intro pins s σ H R I h
 refine aG (hl pins s σ H _ I h) fun v s1 ⟨x,H1,I1,r1,q1⟩=>?_
 obtain⟨a,e,⟨xs,hq⟩,q⟩:=q1
 subst e
 cases r1
 obtain⟨its,rv,p,hz⟩:=I1.list hq
 refine wpAny_pyIter_list p.isList ?_
 refine⟨s1.heap.objs.size,[s1.heap.objs.size],_,_,H1,rfl,I1.kept (t':=s1.toks) fun b o e=>Heap.get?_push_of_some _ e,xZ a _,⟨_,Heap.get?_push_size _ rfl,rfl,rfl⟩,fun b hb=>?_,q⟩
 have e:b=s1.heap.objs.size:=by simpa using hb
 subst e
 exact I1.fpOk (Nat.le_refl _) (I1.hok.fresh (Nat.le_refl _))
theorem GO(hl:PE X l tl):PI X tg l (Pg X.K tl):=by
 intro pins s σ H R I h
 refine aG (hl pins s σ H _ I h) fun v s1 ⟨x,H1,I1,r1,q1⟩=>?_
 obtain⟨a,e,⟨xs,hq⟩,q⟩:=q1
 subst e
 cases r1
 obtain⟨its,rv,p,hz⟩:=I1.tuple hq
 refine wpAny_pyIter_tuple (show s1.heap.IsTuple a its.toArray from p) ?_
 refine⟨s1.heap.objs.size,[s1.heap.objs.size],_,_,H1,rfl,I1.kept (t':=s1.toks) fun b o e=>Heap.get?_push_of_some _ e,v8 a _,⟨_,Heap.get?_push_size _ rfl,rfl,rfl⟩,fun b hb=>?_,q⟩
 have e:b=s1.heap.objs.size:=by simpa using hb
 subst e
 exact I1.fpOk (Nat.le_refl _) (I1.hok.fresh (Nat.le_refl _))
theorem sD{R:It->Hp->Prop}{lo hi:Int}{t u v:Tok}{tk:Nat}(I:ah X pins σ H s)(h1:-(2 ^ 62)<=lo)(h2:lo<2 ^ 62)(h3:-(2 ^ 62)<=hi)(h4:hi<2 ^ 62)
  (q:R (Dd lo (hi-lo).toNat) H):wpAny (model X.prog X.w) X.A (pyIter (.ref s.heap.objs.size)) (J8 X pins σ tg R) E { s with heap:=s.heap.push { cls:=.type "range", data:=.fields #[.int lo t,.int hi u,.int 1 v] },toks:=tk }:=by
 refine wpAny_pyIter_range (IsRange.new ..) (small_one h1 h2 h3 h4) ?_
 have I1:ah X pins σ H { s with heap:=s.heap.push { cls:=.type "range", data:=.fields #[.int lo t,.int hi u,.int 1 v] },toks:=tk }:=I.kept fun b o e=>Heap.get?_push_of_some _ e
 refine⟨(s.heap.push { cls:=.type "range", data:=.fields #[.int lo t,.int hi u,.int 1 v] }).objs.size,[(s.heap.push { cls:=.type "range", data:=.fields #[.int lo t,.int hi u,.int 1 v] }).objs.size],_,_,H,rfl,
  I1.kept (t':=tk) fun b o e=>Heap.get?_push_of_some _ e,v9 _ lo (hi-lo).toNat,?_,fun b hb=>?_,q⟩
 ·have e1:lo+((0:Nat):Int)*1=lo:=by simp
  have e2:(((hi-lo).toNat:Nat):Int)-((0:Nat):Int)=Builtin.Range.rangeSize lo hi 1:=by rw[rangeSize_one];split<;>omega
  show IsRangeIter _ _ (lo+((0:Nat):Int)*1) ((((hi-lo).toNat:Nat):Int)-((0:Nat):Int)) 1
  rw[e1,e2]
  exact Heap.get?_push_size _ rfl
 ·have e:b=(s.heap.push { cls:=.type "range", data:=.fields #[.int lo t,.int hi u,.int 1 v] }).objs.size:=by simpa using hb
  subst e
  exact I1.fpOk (Nat.le_refl _) (I1.hok.fresh (Nat.le_refl _))
def Ll(ta:TA):TI:=fun σ H R=>ta σ H fun vs H1 => ∃j:Int,vs=[.int j] /\ -(2 ^ 62)<=j/\j<2 ^ 62/\R (Dd 0 j.toNat) H1
def Lk(ta:TA):TI:=fun σ H R=>ta σ H fun vs H1 => ∃i j:Int,vs=[.int i,.int j]/\(-(2 ^ 62)<=i/\i<2 ^ 62 /\ -(2 ^ 62)<=j/\j<2 ^ 62)/\R (Dd i (j-i).toNat) H1
theorem yF{a:Expr}(hg:Gl X "range")(hm:X.mg "range" = none)(ha:PA X [a] ta)(hs:starEach [a] X.env=[(false,eval a X.env)]:=by rfl):PI X tg (.Call (.Name "range" p) [a] [] pos) (Ll ta):=by
 intro pins s σ H R I h
 refine Call_ (jz I hg hm boot_range (PyProof.Rows.callWith_type1 (aG (ha pos pins s σ H _ I h) fun us s1 ⟨vs,H1,I1,r1,q1⟩=>?_) hs rfl))
 obtain⟨j,e,q1,q2,q⟩:=q1
 subst e
 cases r1 with
 | cons r rr =>
  cases rr
  obtain⟨t,rfl⟩:=r
  exact call_range_1 (sD I1 (by omega) (by omega) q1 q2 (by simpa using q))
theorem yE{a b:Expr}(hg:Gl X "range")(hm:X.mg "range" = none)(ha:PA X [a,b] ta)(hs:starEach [a,b] X.env=[(false,eval a X.env),(false,eval b X.env)]:=by rfl)(hs2:starEach [b] X.env=[(false,eval b X.env)]:=by rfl) :
  PI X tg (.Call (.Name "range" p) [a,b] [] pos) (Lk ta):=by
 intro pins s σ H R I h
 refine Call_ (jz I hg hm boot_range (PyProof.Rows.callWith_type1 (aG (ha pos pins s σ H _ I h) fun us s1 ⟨vs,H1,I1,r1,q1⟩=>?_) (by rw[hs,hs2]) (by rw[hs2];rfl)))
 obtain⟨i,j,e,⟨q1,q2,q3,q4⟩,q⟩:=q1
 subst e
 cases r1 with
 | cons r rr =>
  cases rr with
  | cons r' rr =>
   cases rr
   obtain⟨t,rfl⟩:=r
   obtain⟨t',rfl⟩:=r'
   exact call_range_2 (sD I1 q1 q2 q3 q4 q)
def FY(wi:TI)(g:TG)(tb:TS):TS:=fun D σ H=>wi σ H fun J H1 => ∃W:Nat->Nat->St->Hp->Prop,(∃m,W 0 m σ H1)/\∀i m σ H,W i m σ H ->
 (J.stop i H/\D.nx σ H)\/(J.go i H/\∃N:St->Hp->Prop,(∀σ' H',N σ' H'->∃m',m' < m/\W (i+1) m' σ' H')/\∀x H',J.yld i H x H'->g x σ H' fun σ2 H2=>tb { D with nx:=N,ct:=N,bk:=D.nx } σ2 H2)
def jr(fp:List Addr)(h:Heap):List (Addr×Obj):=fp.filterMap fun b=>(h.get? b).map fun o=>(b,o)
theorem fe(hb:b∈fp)(e:h.get? b=some o):(b,o)∈jr fp h:=List.mem_filterMap.mpr ⟨b,hb,by rw[e];rfl⟩
theorem yK{p:Addr×Obj}(hp:p∈jr fp h):p.1∈fp/\h.get? p.1=some p.2:=by
 obtain⟨b,hb,e⟩:=List.mem_filterMap.mp hp
 cases q:h.get? b with
 | none=>rw[q]at e;cases e
 | some o =>
  rw[q]at e
  have e':(b,o)=p:=Option.some.inj e
  subst e'
  exact⟨hb,q⟩
theorem ah.pinned(I:ah X pins σ H s)(hf:∀b∈fp,g7 X pins H b)(ho:∀b∈fp,∃o,s.heap.get? b=some o/\∀v,o.data ≠ .cell v):ah X (pins++jr fp s.heap) σ H s :=
 I.pins_of fun p hp=>(List.mem_append.mp hp).elim (fun z=>I.pin p (List.mem_append_right _ z)) fun z=>by
  obtain⟨hb,e⟩:=yK z
  obtain⟨f0,f1,f2,_⟩:=hf p.1 hb
  obtain⟨o,e',d⟩:=ho p.1 hb
  rw[e]at e';cases e'
  exact⟨e,f0,f1,f2,d⟩
theorem ah.unpinned{pl:List (Addr×Obj)}(I:ah X (pins++pl) σ H s):ah X pins σ H s:=I.pins_of fun p hp=>I.pin p (List.mem_append_right _ (List.mem_append_left _ hp))
theorem yC{iter:Expr}{wi:TI}{g:TG}(hp:PassesOwn (model X.prog X.w) X.A X.env X.xe)(hc:X.calm=true)(hi:PI X tg iter wi)(hg:PG X tg g)(hb:c5 X body tb)
  (hs:∀x,foldedSetIterable iter X.env x=pure x:=by intro _;rfl):PS X (.For tg iter body [] pos) (FY wi g tb):=by
 intro pins s σ H D I h
 refine wpAny_For (aG (hi pins s σ H _ I h) fun v s1 h1=>aG h1 fun itv s2 h2=>?_) hs
 obtain⟨it,fp,tn,J,H2,e,I2,T,st2,f2,W,⟨m0,w0⟩,turn⟩:=h2
 subst e
 have stat:∀{H':Hp},(∀b∈fp,H' b=none)->∀b∈fp,g7 X pins H' b:=fun hn b hb=>⟨hn b hb,(f2 b hb).2⟩
 refine codeAny_forLoop_any (fun n s' => ∃i σ' H',ah X pins σ' H' s'/\tn i s'.heap/\(∀b∈fp,H' b=none)/\W i n σ' H') ?_ m0 ⟨0,σ,H2,I2,st2,fun b hb=>(f2 b hb).1,w0⟩
 rintro n s3 ⟨i,σ3,H3,I3,st3,fr3,w3⟩
 rcases turn i n σ3 H3 w3 with⟨stop,qn⟩|⟨go,N,hN,step⟩
 ·refine wpAny_passesOwn hp (aG (T.done X rfl rfl rfl hc i pins s3 σ3 H3 X.xe I3 (stat fr3) st3 stop) fun r s4 ⟨hr,I4⟩=>?_)
  subst hr
  exact wpAny_execs_nil ⟨σ3,H3,I4,qn⟩
 ·refine wpAny_passesOwn hp (aG (T.item X rfl rfl rfl hc i pins s3 σ3 H3 X.xe I3 (stat fr3) st3 go) fun r s4 ⟨u,hr,h4⟩=>?_)
  subst hr
  refine wpAny_passesOwn hp (aG h4 fun _ s5 ⟨x,H5,I5,r5,y5,st5,fr5⟩=>?_)
  have I5':=I5.pinned (stat fr5) (T.obj _ _ st5)
  refine wpAny_passesOwn hp (aG (hg _ s5 σ3 H5 x u _ I5' r5 (step x H5 y5)) fun _ s6 ⟨σ6,H6,I6,q6⟩=>?_)
  refine wpAny_passesOwn hp (aG (hb _ s6 σ6 H6 _ I6 q6) fun f s7 q7=>?_)
  have again:∀{σ7:St} {H7:Hp},ah X (pins++jr fp s5.heap) σ7 H7 s7->N σ7 H7->∃m,m<n/\∃i σ' H',ah X pins σ' H' s7/\tn i s7.heap/\(∀b∈fp,H' b=none)/\W i m σ' H':=fun {σ7 H7} I7 n7=>by
   obtain⟨m',hm,w7⟩:=hN σ7 H7 n7
   refine⟨m',hm,i+1,σ7,H7,I7.unpinned,T.keep _ _ _ st5 fun b hb o e=>(I7.pin (b,o) (List.mem_append_right _ (List.mem_append_right _ (fe hb e)))).1,fun b hb=>?_,w7⟩
   obtain⟨o,e,d⟩:=T.obj _ _ st5 b hb
   exact(I7.pin (b,o) (List.mem_append_right _ (List.mem_append_right _ (fe hb e)))).2.1
  cases f with
  | next=>obtain⟨σ7,H7,I7,n7⟩:=q7;exact again I7 n7
  | cont=>obtain⟨σ7,H7,I7,n7⟩:=q7;exact again I7 n7
  | brk=>obtain⟨σ7,H7,I7,q7⟩:=q7;exact⟨σ7,H7,I7.unpinned,q7⟩
  | ret v=>obtain⟨x7,σ7,H7,I7,r7,q7⟩:=q7;exact⟨x7,σ7,H7,I7.unpinned,r7,q7⟩
end
abbrev R2:=V->V->Hp->VK->Prop
def cv(X:Cx)(f:Value->Value->Sem Value)(r:R2):Prop :=
 ∀(pins:List (Addr×Obj)) (s:Shared) (σ:St) (H:Hp) (x y:V) (v u:Value) (Q:VK),ah X pins σ H s->aX x v->aX y u->r x y H Q ->
  wpAny (model X.prog X.w) X.A (f v u) (EP X pins σ Q) X.xe s
def JX(X:Cx)(f:Value->Sem Value)(r:V->Hp->VK->Prop):Prop :=
 ∀(pins:List (Addr×Obj)) (s:Shared) (σ:St) (H:Hp) (x:V) (v:Value) (Q:VK),ah X pins σ H s->aX x v->r x H Q ->
  wpAny (model X.prog X.w) X.A (f v) (EP X pins σ Q) X.xe s
def cP(X:Cx)(f:Value)(r:List V->Hp->VK->Prop):Prop :=
 ∀(pins:List (Addr×Obj)) (s:Shared) (σ:St) (H:Hp) (xs:List V) (us:List Value) (Q:VK),ah X pins σ H s->aL xs us->r xs H Q ->
  wpAny (model X.prog X.w) X.A (call f us) (EP X pins σ Q) X.xe s
def BY(r:R2)(ta tb:TE):TE:=fun σ H Q=>ta σ H fun x H1=>tb σ H1 fun y H2=>r x y H2 Q
def Q8(r:V->Hp->VK->Prop)(ta:TE):TE:=fun σ H Q=>ta σ H fun x H1=>r x H1 Q
def rI(C:Int->Int->Prop)(g:Int->Int->V):R2:=fun x y H Q => ∃i j,x=.int i/\y=.int j/\C i j/\Q (g i j) H
def kl(g:Int->Int->V):R2:=fun x y H Q => ∃i j,x=.int i/\y=.int j/\Q (g i j) H
def rU(g:Int->V):V->Hp->VK->Prop:=fun x H Q => ∃i,x=.int i/\Q (g i) H
section
variable{a b:Expr}{ta tb tc:TE}
theorem Bv(ha:PE X a ta)(hb:PE X b tb)(I:ah X pins σ H s)
  (h:ta σ H fun x H1=>tb σ H1 fun y H2=>R x y H2)
  (hf:∀v u s2 x y H2,ah X pins σ H2 s2->aX x v->aX y u->R x y H2->wpAny (model X.prog X.w) X.A (f v u) Q X.xe s2) :
  wpAny (model X.prog X.w) X.A (eval a X.env) (fun v s₁=>wpAny (model X.prog X.w) X.A (eval b X.env) (fun u s₂=>wpAny (model X.prog X.w) X.A (f v u) Q X.xe s₂) X.xe s₁) X.xe s:=by
 refine aG (ha pins s σ H _ I h) fun v s1 ⟨x,H1,I1,r1,q1⟩=>?_
 refine aG (hb pins s1 σ H1 _ I1 q1) fun u s2 ⟨y,H2,I2,r2,q2⟩=>?_
 exact hf v u s2 x y H2 I2 r1 r2 q2
theorem Cg{op:Operator}{r:R2}(ho:cv X (binaryOp op) r)(ha:PE X a ta)(hb:PE X b tb):PE X (.BinOp a op b pos) (BY r ta tb):=by
 intro pins s σ H Q I h
 exact wpAny_BinOp (Bv ha hb I h fun v u s2 x y H2 I2 rx ry q=>ho pins s2 σ H2 x y v u Q I2 rx ry q)
theorem KJ{op:UnaryOp}{r:V->Hp->VK->Prop}(ho:JX X (unaryOp op) r)(ha:PE X a ta):PE X (.UnaryOp op a pos) (Q8 r ta):=by
 intro pins s σ H Q I h
 exact UnaryOp_ (aG (ha pins s σ H _ I h) fun v s1 ⟨x,H1,I1,r1,q1⟩=>ho pins s1 σ H1 x v Q I1 r1 q1)
theorem vn{C:Int->Int->Prop}
  (rule:∀(i j:Int) (t u:Tok) (s:Shared) (Q:Value->Shared->Prop) (E:Value->Shared->Prop),C i j->Q (.int (g i j) s.toks) { s with toks:=s.toks+1 }->wpAny (model X.prog X.w) X.A (f (.int i t) (.int j u)) Q E s) :
  cv X f (rI C fun i j=>.int (g i j)):=by
 intro pins s σ H x y v u Q I rx ry h
 obtain⟨i,j,rfl,rfl,hc,q⟩:=h
 obtain⟨t,rfl⟩:=rx
 obtain⟨t',rfl⟩:=ry
 exact rule i j t t' s _ _ hc ⟨.int (g i j),H,I.tok _,⟨_,rfl⟩,q⟩
theorem wE
  (rule:∀(i j:Int) (t u:Tok) (s:Shared) (Q:Value->Shared->Prop) (E:Value->Shared->Prop),Q (.int (g i j) s.toks) { s with toks:=s.toks+1 }->wpAny (model X.prog X.w) X.A (f (.int i t) (.int j u)) Q E s) :
  cv X f (kl fun i j=>.int (g i j)):=by
 intro pins s σ H x y v u Q I rx ry h
 obtain⟨i,j,rfl,rfl,q⟩:=h
 obtain⟨t,rfl⟩:=rx
 obtain⟨t',rfl⟩:=ry
 exact rule i j t t' s _ _ ⟨.int (g i j),H,I.tok _,⟨_,rfl⟩,q⟩
theorem wF{g:Int->Int->Bool}
  (rule:∀(i j:Int) (t u:Tok) (s:Shared) (Q:Value->Shared->Prop) (E:Value->Shared->Prop),Q (.bool (g i j)) s->wpAny (model X.prog X.w) X.A (f (.int i t) (.int j u)) Q E s) :
  cv X f (kl fun i j=>.bl (g i j)):=by
 intro pins s σ H x y v u Q I rx ry h
 obtain⟨i,j,rfl,rfl,q⟩:=h
 obtain⟨t,rfl⟩:=rx
 obtain⟨t',rfl⟩:=ry
 exact rule i j t t' s _ _ ⟨.bl (g i j),H,I,rfl,q⟩
def Q5(i j:Int):Prop:=0<=j/\j<=1000000/\i.natAbs<2 ^ 64
theorem Hb:cv X (binaryOp .Add) (kl fun i j=>.int (i+j)):=wE fun _ _ _ _ _ _ _ q=>add_int q
theorem G8:cv X (binaryOp .Sub) (kl fun i j=>.int (i-j)):=wE fun _ _ _ _ _ _ _ q=>sub_int q
theorem D6:cv X (binaryOp .Mod) (rI (fun _ j=>j≠0) fun i j=>.int (i.fmod j)):=vn fun _ _ _ _ _ _ _ hc q=>mod_int' hc q
theorem G9:cv X (binaryOp .Pow) (rI Q5 fun i j=>.int (i ^ j.toNat)):=vn fun _ _ _ _ _ _ _ hc q=>pow_int_small hc.1 hc.2.1 hc.2.2 q
theorem Ez:cv X (inplaceOp .Add) (kl fun i j=>.int (i+j)):=wE fun _ _ _ _ _ _ _ q=>iadd_int q
theorem Ey:cv X (inplaceOp .Sub) (kl fun i j=>.int (i-j)):=wE fun _ _ _ _ _ _ _ q=>isub_int q
theorem Q6{f:Value->Sem Value}{g:Int->Int}
  (rule:∀(i:Int) (t:Tok) (s:Shared) (Q:Value->Shared->Prop) (E:Value->Shared->Prop),Q (.int (g i) s.toks) { s with toks:=s.toks+1 }->wpAny (model X.prog X.w) X.A (f (.int i t)) Q E s) :
  JX X f (rU fun i=>.int (g i)):=by
 intro pins s σ H x v Q I rx h
 obtain⟨i,rfl,q⟩:=h
 obtain⟨t,rfl⟩:=rx
 exact rule i t s _ _ ⟨.int (g i),H,I.tok _,⟨_,rfl⟩,q⟩
theorem FO:JX X (unaryOp .USub) (rU fun i=>.int (-i)):=Q6 fun _ _ _ _ _ q=>neg_int q
end
section
variable{a b:Expr}{ta tb tc:TE}
theorem zp{Q:VK}{k k':Bool}(I:ah X pins σ H s)(q:Q (.bl k) H)(e:k=k'):EP X pins σ Q (.bool k') s:=by
 subst e
 exact⟨.bl k,H,I,rfl,q⟩
theorem KL:cv X (compareOp .Lt) (kl fun i j=>.bl (decide (i<j))):=wF fun _ _ _ _ _ _ _ q=>lt_int q
theorem KM:cv X (compareOp .LtE) (kl fun i j=>.bl (decide (i<=j))):=wF fun _ _ _ _ _ _ _ q=>le_int q
theorem KN:cv X (compareOp .Gt) (kl fun i j=>.bl (decide (j<i))):=wF fun _ _ _ _ _ _ _ q=>gt_int q
theorem KO:cv X (compareOp .GtE) (kl fun i j=>.bl (decide (j<=i))):=wF fun _ _ _ _ _ _ _ q=>ge_int q
theorem Ha:cv X (compareOp .Is) (fun x y H Q=>y=.non/\Q (.bl (decide (x=.non))) H):=by
 intro pins s σ H x y v u Q I rx ry h
 obtain⟨rfl,q⟩:=h
 cases ry
 refine is_none_gen (zp I q ?_)
 cases x<;>first
  | (cases rx;rfl)
  | (obtain⟨t,rfl⟩:=rx;rfl)
theorem D4:cv X (compareOp .IsNot) (fun x y H Q=>y=.non/\Q (.bl (!decide (x=.non))) H):=by
 intro pins s σ H x y v u Q I rx ry h
 obtain⟨rfl,q⟩:=h
 cases ry
 refine isnot_none_gen (zp I q ?_)
 cases x<;>first
  | (cases rx;rfl)
  | (obtain⟨t,rfl⟩:=rx;rfl)
def BW(t:TE):TT:=fun σ H Q=>t σ H fun x H' => ∃k,x=.bl k/\Q k H'
theorem DL{r:R2}(ho:cv X (compareOp op) r)(ha:PE X a ta)(hb:PE X b tb)(hm:behindInMarks op b=false):PT X (.Compare a [op] [b] pos) (BW (BY r ta tb)):=by
 intro pins s σ H Q I h
 refine wpAny_isTrue_Compare1 (aG (ha pins s σ H _ I h) fun v s1 ⟨x,H1,I1,r1,q1⟩=>aG (hb pins s1 σ H1 _ I1 q1) fun u s2 ⟨y,H2,I2,r2,q2⟩ =>
  aG (ho pins s2 σ H2 x y v u _ I2 r1 r2 q2) fun c s3 ⟨z,H3,I3,r3,k,e,q3⟩=>?_) hm
 subst e
 cases r3
 exact wpAny_truthy_bool ⟨H3,I3,q3⟩
def x6(r r':R2)(ta tb tc:TE):TE:=fun σ H Q=>ta σ H fun x H1=>tb σ H1 fun y H2=>r x y H2 fun z H3 => ∃k,z=.bl k /\
 (if k=true then tc σ H3 fun w' H4=>r' y w' H4 Q else Q (.bl false) H3)
theorem AS{r r':R2}(ho:cv X (compareOp op) r)(ho':cv X (compareOp op') r')(ha:PE X a ta)(hb:PE X b tb)(hc:PE X c tc)
  (hm:lastMarks [op,op'] [b,c]=false:=by with_unfolding_all rfl):PE X (.Compare a [op,op'] [b,c] pos) (x6 r r' ta tb tc):=by
 intro pins s σ H Q I h
 refine Compare_chain (aG (ha pins s σ H _ I h) fun v s1 ⟨x,H1,I1,r1,q1⟩=>chain_link (aG (hb pins s1 σ H1 _ I1 q1) fun u s2 ⟨y,H2,I2,r2,q2⟩ =>
  aG (ho pins s2 σ H2 x y v u _ I2 r1 r2 q2) fun d s3 ⟨z,H3,I3,r3,k,e,q3⟩=>?_)) hm
 subst e
 cases r3
 refine wpAny_truthy_bool ?_
 cases k with
 | false=>exact ite_ff ⟨.bl false,H3,I3,rfl,q3⟩
 | true=>exact ite_tt (chain_last (aG (hc pins s3 σ H3 _ I3 q3) fun w' s4 ⟨z',H4,I4,r4,q4⟩=>ho' pins s4 σ H4 y z' u w' Q I4 r2 r4 q4))
theorem AL{r r':R2}(ho:cv X (compareOp op) r)(ho':cv X (compareOp op') r')(ha:PE X a ta)(hb:PE X b tb)(hc:PE X c tc)
  (hm:lastMarks [op,op'] [b,c]=false:=by with_unfolding_all rfl):PT X (.Compare a [op,op'] [b,c] pos) (BW (x6 r r' ta tb tc)):=by
 intro pins s σ H Q I h
 refine isTrue_chain (aG (ha pins s σ H _ I h) fun v s1 ⟨x,H1,I1,r1,q1⟩=>test_link (aG (hb pins s1 σ H1 _ I1 q1) fun u s2 ⟨y,H2,I2,r2,q2⟩ =>
  aG (ho pins s2 σ H2 x y v u _ I2 r1 r2 q2) fun d s3 ⟨z,H3,I3,r3,k,e,q3⟩=>?_)) hm
 subst e
 cases r3
 refine wpAny_truthy_bool ?_
 cases k with
 | false =>
  obtain⟨k',e',q'⟩:=q3
  cases e'
  exact ite_ff ⟨H3,I3,q'⟩
 | true =>
  refine ite_tt (test_last (aG (hc pins s3 σ H3 _ I3 q3) fun w' s4 ⟨z',H4,I4,r4,q4⟩=>aG (ho' pins s4 σ H4 y z' u w' _ I4 r2 r4 q4) fun d' s5 ⟨z2,H5,I5,r5,k2,e2,q5⟩=>?_))
  subst e2
  cases r5
  exact wpAny_truthy_bool ⟨H5,I5,q5⟩
theorem kQ:(sizeLine:Nat)<2 ^ 63:=by rw[sizeLine_eq];decide
theorem wD:cv X (binaryOp .Add) (fun x y H Q => ∃i j,x=.str i/\y=.str j/\i.length+j.length<=sizeLine/\Q (.str (i++j)) H):=by
 intro pins s σ H x y v u Q I rx ry h
 obtain⟨i,j,rfl,rfl,hz,q⟩:=h
 obtain⟨t,rfl⟩:=rx
 obtain⟨t',rfl⟩:=ry
 exact add_str (fun t' tk=>⟨.str (i++j),H,I.tok _,⟨_,rfl⟩,q⟩) hz
def BO(b:Expr):Prop:=∀o i,subscripted b false o i=operate [o,i] (getItem o i)
theorem uF(ha:PE X a ta)(hb:PE X b tb)(hs:BO b) :
  PE X (.Subscript a b pos) (BY (fun x y H Q => ∃z i c,x=.str z/\y=.int i/\0<=i/\i<2 ^ 63/\i<z.length/\z.cps[i.toNat]?=some c/\Q (.str ⟨#[c]⟩) H) ta tb):=by
 intro pins s σ H Q I h
 refine Subscript_ (Bv ha hb I h fun v u s2 x y H2 I2 rx ry q=>?_)
 obtain⟨z,i,c,rfl,rfl,h0,h63,h1,hc,q⟩:=q
 obtain⟨t,rfl⟩:=rx
 obtain⟨t',rfl⟩:=ry
 have e:seqIndex? i z.length=some i.toNat:=PySem.StrLaws.seqIndex_nonneg h0 h1
 exact tail_any (typeIs_str s2 z t) slot_str_getitem.lookup (getItem_str (c:=c) (by
  have e1:decide (i < -(2 ^ 63:Int))=false:=decide_eq_false (by omega)
  have e2:decide (i >= 2 ^ 63)=false:=decide_eq_false (by omega)
  rw[e1,e2]<;>rfl) (by rw[e];exact hc) ⟨.str ⟨#[c]⟩,H2,I2.tok _,⟨_,rfl⟩,q⟩) (hs _ _)
theorem dl{x:V}(r:aL [x] us):∃u,us=[u]/\aX x u:=by
 cases r with
 | cons r1 r2=>cases r2;exact⟨_,rfl,r1⟩
theorem nk{x:V}(r:aL [x,y] us):∃u w',us=[u,w']/\aX x u/\aX y w':=by
 cases r with
 | cons r1 r2 =>
  cases r2 with
  | cons r3 r4=>cases r4;exact⟨_,_,rfl,r1,r3⟩
theorem Bs:cP X (.builtin "abs") (fun xs H Q => ∃i,xs=[.int i]/\Q (.int (if i<0 then -i else i)) H):=by
 intro pins s σ H xs us Q I r h
 obtain⟨i,rfl,q⟩:=h
 obtain⟨u,rfl,t,rfl⟩:=dl r
 exact call_abs_int fun u tk=>⟨.int (if i<0 then -i else i),H,I.tok _,⟨_,rfl⟩,q⟩
theorem zR(hc:X.calm=true):cP X (.builtin "min") (fun xs H Q => ∃i j,xs=[.int i,.int j]/\Q (.int (if j<i then j else i)) H):=by
 intro pins s σ H xs us Q I r h
 obtain⟨i,j,rfl,q⟩:=h
 obtain⟨u,w',rfl,⟨t,rfl⟩,⟨t',rfl⟩⟩:=nk r
 refine min_two_ints (I.ok.hd hc) fun h' tk k=>⟨_,H,I.kept k,?_,q⟩
 by_cases hj:j<i
 ·rw[if_pos hj,if_pos hj];exact⟨_,rfl⟩
 ·rw[if_neg hj,if_neg hj];exact⟨_,rfl⟩
theorem qI:cP X (.type "int") (fun xs H Q=>(∃i,xs=[.int i]/\Q (.int i) H)\/∃k,xs=[.bl k]/\Q (.int (if k then 1 else 0)) H):=by
 intro pins s σ H xs us Q I r h
 rcases h with⟨i,rfl,q⟩|⟨k,rfl,q⟩
 ·obtain⟨u,rfl,t,rfl⟩:=dl r
  exact call_int_int ⟨.int i,H,I,⟨_,rfl⟩,q⟩
 ·obtain⟨u,rfl,r1⟩:=dl r
  cases r1
  exact call_int_bool ⟨.int (if k then 1 else 0),H,I.tok _,⟨_,rfl⟩,q⟩
theorem t9:cP X (.type "str") (fun xs H Q => ∃i,xs=[.int i]/\i.natAbs.log2<1920/\Q (.str (toString i)) H):=by
 intro pins s σ H xs us Q I r h
 obtain⟨i,rfl,hz,q⟩:=h
 obtain⟨u,rfl,t,rfl⟩:=dl r
 exact PySem.P.str_of_int hz ⟨.str _,H,I.tok _,⟨_,rfl⟩,q⟩
end
structure m9(h:Heap)(x dx C:Addr)(mA:Str->Option Value):Prop where
 obj:h.get? x=some (W.instObj C dx)
 ns:h.Ns1 dx mA
 ne:dx≠x
theorem qu(n:h.Ns1 dx mA):∃od,h.get? dx=some od/\∀name,W.lookIn name od=some (mA name):=by
 obtain⟨o,es,ep,ho,hd,hk,_,hm⟩:=n
 refine⟨o,ho,fun name=>?_⟩
 have e:=hm name
 unfold nsFind findBy at e
 rw[<- Array.find?_toList]at e
 unfold W.lookIn
 rw[hd]
 dsimp only
 split
 ·rename_i y q
  rw[q]at e
  exact congrArg some e
 ·rename_i q
  rw[q]at e
  have a:es.toList.any (·.refKey)=false:=by
   rw[List.any_eq_false]
   intro y hy
   obtain⟨z,t,hkey⟩:=hk y (Array.mem_toList_iff.mp hy)
   simp[DictEntry.refKey,hkey]
  have a':¬ es.toList.any (·.refKey)=true:=by rw[a];exact Bool.false_ne_true
  rw[if_neg a']
  exact congrArg some e
theorem m9.look{x:Addr}(I:m9 h x dx C mA):∃od,W.InstAt h x (W.instObj C dx) C (some od)/\∀name,W.lookIn name od=some (mA name) :=
 let ⟨od,ho,hl⟩:=qu I.ns
 ⟨od,⟨I.obj,rfl,rfl,ho⟩,hl⟩
section
variable{prog:Program}{x f:Addr}{name:Str}{v:Value}
theorem EH{expr:Bool}(X:K.In s.heap)(I:m9 s.heap x dx C mA)(hg:W.plainGet K C name=true)(hh:W.hasDictIn K C=true)
  (ha:W.findIn K (.ref C) name=some none) (hv:mA name=some v) (hv':W.handedIn v=true) (h:Q v { s with toks:=s.toks+1 }) :
  wpAny (model prog w) A (getAttr (.ref x) name expr) Q E s:=by
 obtain⟨od,J,hl⟩:=I.look
 exact W.get_value X J (W.plainGet_of hg).1 (W.findObj_own hh ha rfl (by rw[hl,hv])) hv' h
theorem Bd{Q:Value×List Value->Shared->Prop}(X:K.In s.heap)(I:m9 s.heap x dx C mA)(hg:W.plainGet K C name=true)
  (hf:W.findIn K (.ref C) name=some (some (.ref f))) (ht:W.isFn K (.ref f)=true) (hv:mA name=none) (h:Q (.ref f,[.ref x]) s) :
  wpAny (model prog w) A (getMethod (.ref x) name pl) Q E s:=by
 obtain⟨od,J,hl⟩:=I.look
 exact W.method_fn X J (W.plainGet_of hg).1 (W.plainGet_of hg).2 hf (beq_iff_eq.mp ht) (by show(W.lookIn name od).map (·.isSome)=some false;rw[hl,hv];rfl) h
theorem Dz{ns:List Str}{Q:Unit->Shared->Prop}(X:K.In s.heap)(I:m9 s.heap x dx C mA)
  (hs:W.findIn K (.ref C) "__setattr__" = some (some (.builtin "object.__setattr__"))) (hp:W.plainOver K C=true) (ht:W.takerIn K C name=some none) (hh:W.hasDictIn K C=true)
  (hw:PySem.Within mA ns) (hsz:ns.length<=sizeLine)
  (h:∀h',m9 h' x dx C (fun y=>if y=name then some v else mA y)->Heap.SameBut dx s.heap h'->Q () { s with heap:=h',toks:=s.toks+2 }) :
  wpAny (model prog w) A (setAttr (.ref x) name v) Q E s:=by
 obtain⟨od,J,hl⟩:=I.look
 refine W.set_plain X J hs (W.osa_open (s:={ s with toks:=s.toks+1 }) (r:=none) X J hp ht fun b=>?_)
 obtain⟨cd,hc,hd'⟩:=W.any_some hh
 have hx:s.heap.get? x=some ⟨.ref C,some dx,.plain,#[]⟩:=I.obj
 refine wpAny_bind (wpAny_pure (wpAny_bind (wpAny_bind (wpAny_loadPart hx (wpAny_bind (W.Looks.here (s:={ s with toks:=s.toks+1 }) (W.looks_clsIn X hc) ?_))))))
 rw[hd']
 refine wpAny_pure (a:=some dx) (wpAny_bind (wpAny_pure (wpAny_bind ?_)))
 refine wpAny_nsSet1 (s:={ s with toks:=s.toks+1 }) I.ns fun h' hn2 hs2=>?_
 obtain⟨oD,esD,epD,hoD,hdD,hcD⟩:=hn2.count (PySem.Within.cons name v hw)
 refine wpAny_bind (wpAny_lookBehind hoD (by rw[hdD];exact pastItsLine_dict (Nat.le_trans hcD (by rw[List.length_cons];omega))) ?_)
 exact wpAny_pure (h _ ⟨(hs2.2 _ (Ne.symm I.ne)).trans I.obj,hn2,I.ne⟩ hs2)
theorem sS{R:Result->Shared->Prop}{vs:List Value}(X:K.In s.heap)(hm:W.makesIn K C=true)
  (hi:W.findIn K (.ref C) "__init__" = some (some (.ref f))) (hf:W.typeIn K (.ref f)=some (.type "function"))
  (h:codeAny (model prog w) (A.under (.builtin "type.__call__" ⟨.ref C::vs,kw⟩)) (.call (.ref f) ⟨.ref (s.heap.objs.size+1)::vs,kw⟩) (W.InitBack (s.heap.objs.size+1) R)
   { s with heap:=(s.heap.push W.emptyDict).push (W.instObj C s.heap.objs.size) }) :
  codeAny (model prog w) A (.call (.ref C) ⟨vs,kw⟩) R s:=by
 obtain⟨hh,g,d,t,os⟩:=s
 exact W.make_core (W.makes_of X hm) (W.looks_findIn X hi) (fun self=>W.bind_fn X self hf) (.inl rfl) h
end
def dh(f:Str)(v:V):List (Str×V)->List (Str×V)
 | []=>[(f,v)]
 | (g,x)::r=>if g=f then(g,v)::r else(g,x)::dh f v r
theorem mf(f g:Str)(v:V):∀fs:List (Str×V),(dh f v fs).lookup g=if g=f then some v else fs.lookup g
 | []=>by
  show List.lookup g [(f,v)]=_
  by_cases h:g=f
  ·have hb:(g==f)=true:=beq_iff_eq.mpr h
   simp only[List.lookup,hb,if_pos h]
  ·have hb:(g==f)=false:=beq_eq_false_iff_ne.mpr h
   simp only[List.lookup,hb,if_neg h]
 | (k,x)::r=>by
  have ih:=mf f g v r
  rw[show dh f v ((k,x)::r)=(if k=f then(k,v)::r else(k,x)::dh f v r)from rfl]
  by_cases hk:k=f
  ·rw[if_pos hk]
   by_cases h:g=k
   ·have hb:(g==k)=true:=beq_iff_eq.mpr h
    simp only[List.lookup,hb,if_pos (h.trans hk)]
   ·have hb:(g==k)=false:=beq_eq_false_iff_ne.mpr h
    simp only[List.lookup,hb,if_neg (fun e:g=f=>h (e.trans hk.symm))]
  ·rw[if_neg hk]
   by_cases h:g=k
   ·have hb:(g==k)=true:=beq_iff_eq.mpr h
    simp only[List.lookup,hb,if_neg (fun e:g=f=>hk (h.symm.trans e))]
   ·have hb:(g==k)=false:=beq_eq_false_iff_ne.mpr h
    simp only[List.lookup,hb]
    exact ih
theorem kR(f:Str)(v:V):∀fs:List (Str×V),f∈(dh f v fs).map (·.1)/\∀g,g∈fs.map (·.1)->g∈(dh f v fs).map (·.1)
 | []=>⟨by simp[dh],fun g h=>by simp at h⟩
 | (k,x)::r=>by
  obtain⟨i1,i2⟩:=kR f v r
  rw[show dh f v ((k,x)::r)=(if k=f then(k,v)::r else(k,x)::dh f v r)from rfl]
  by_cases hk:k=f
  ·rw[if_pos hk]
   subst hk
   exact⟨by simp,fun g h=>by simpa using h⟩
  ·rw[if_neg hk]
   refine⟨?_,fun g h=>?_⟩
   ·rw[List.map_cons]
    exact List.mem_cons_of_mem _ i1
   ·rw[List.map_cons]at h⊢
    rcases List.mem_cons.mp h with e|e
    ·exact List.mem_cons.mpr (.inl e)
    ·exact List.mem_cons_of_mem _ (i2 g e)
theorem gC(f:Str)(v:V):∀fs:List (Str×V),(dh f v fs).length<=fs.length+1
 | []=>by simp[dh]
 | (k,x)::r=>by
  have ih:=gC f v r
  rw[show dh f v ((k,x)::r)=(if k=f then(k,v)::r else(k,x)::dh f v r)from rfl]
  by_cases hk:k=f
  ·rw[if_pos hk,List.length_cons,List.length_cons];omega
  ·rw[if_neg hk,List.length_cons,List.length_cons];omega
theorem gn.some_of{o:Option Value}(r:gn (some v) o):∃u,o=some u/\aX v u:=by
 cases o with
 | none=>exact(show False from r).elim
 | some u=>exact⟨u,rfl,r⟩
theorem gn.none_of{o:Option Value}(r:gn none o):o=none:=by
 cases o with
 | none=>rfl
 | some u=>exact(show False from r).elim
theorem qx(r:aX v u):W.handedIn u=true:=by
 cases v with
 | non=>cases (show u=Value.none from r);rfl
 | bl b=>cases (show u=Value.bool b from r);rfl
 | int i=>obtain⟨t,e⟩:=(show ∃t,u=Value.int i t from r);cases e;rfl
 | str x=>obtain⟨t,e⟩:=(show ∃t,u=Value.str x t from r);cases e;rfl
 | byt b=>obtain⟨t,e⟩:=(show ∃t,u=Value.bytes b t from r);cases e;rfl
 | flt b=>obtain⟨t,e⟩:=(show ∃t,u=Value.float b t from r);cases e;rfl
 | ref a=>cases (show u=Value.ref a from r);rfl
 | ty n=>cases (show u=Value.type n from r);rfl
section
variable{H':Hp}{h':Heap}{fs fs':List (Str×V)}
theorem lK(hok:cU P w H h)(e:H a=some (.ins C dx fs)):∃mA,m9 h a dx C mA/\(∀f,gn (fs.lookup f) (mA f))/\PySem.Within mA (fs.map (·.1))/\fs.length<=1000/\H dx=some (.own a):=by
 obtain⟨d,z,ne,ob,mA,n,r,q⟩:=(show bU P w H h a (.ins C dx fs)from hok a _ e)
 exact⟨mA,⟨ob,n,ne⟩,r,q,z,d⟩
end
structure d5(K:W.Frag)(C:Addr):Prop where
 pg:W.plainGet K C Str.empty=true
 hd:W.hasDictIn K C=true
 po:W.plainOver K C=true
 sa:W.findIn K (.ref C) "__setattr__" = some (some (.builtin "object.__setattr__"))
theorem d5.get(c:d5 K C)(f:Str):W.plainGet K C f=true:=c.pg
def bn(K:W.Frag)(C:Addr)(f:Str):Prop:=W.findIn K (.ref C) f=some none
theorem bn.taker{f:Str}(n:bn K C f):W.takerIn K C f=some none:=by
 unfold W.takerIn
 rw[show W.findIn K (.ref C) f=some none from n]
 rfl
structure pV(K:W.Frag)(C:Addr)(m:Str)(f:Addr):Prop where
 at_:W.findIn K (.ref C) m=some (some (.ref f))
 fn:W.isFn K (.ref f)=true
 kp:W.keepIn K (.ref f)=true
section
variable{fs:List (Str×V)}{f:Str}
theorem wP{b:Bool}(I:ah X pins σ H s)(e:H a=some (.ins C dx fs))(c:d5 X.K C)(n:bn X.K C f)(l:fs.lookup f=some v)
  (h:∀u s',ah X pins σ H s'->aX v u->Q u s'):wpAny (model X.prog X.w) A (getAttr (.ref a) f b) Q E s:=by
 obtain⟨mA,O,r,_,_,_⟩:=lK I.hok e
 obtain⟨u,hu,ru⟩:=gn.some_of (v:=v) (o:=mA f) (by rw[<- l];exact r f)
 exact EH I.kIn O (c.get f) c.hd n hu (qx ru) (h u _ (I.tok _) ru)
theorem nU{m:Str}{g:Addr}{Q:Value×List Value->Shared->Prop}(I:ah X pins σ H s)(e:H a=some (.ins C dx fs))(c:d5 X.K C)(k:pV X.K C m g)(l:fs.lookup m=none)
  (h:Q (.ref g,[.ref a]) s):wpAny (model X.prog X.w) A (getMethod (.ref a) m pl) Q E s:=by
 obtain⟨mA,O,r,_,_,_⟩:=lK I.hok e
 have hn:mA m=none:=gn.none_of (by rw[<- l];exact r m)
 exact Bd I.kIn O (c.get m) k.at_ k.fn hn h
theorem wq{Q:Unit->Shared->Prop}(I:ah X pins σ H s)(e:H a=some (.ins C dx fs))(c:d5 X.K C)(n:bn X.K C f)(hl:fs.length<1000)(ry:aX y u)
  (h:∀s',ah X pins σ (aM H a (.ins C dx (dh f y fs))) s'->Q () s'):wpAny (model X.prog X.w) A (setAttr (.ref a) f u) Q E s:=by
 obtain⟨mA,O,r,wi,_,ho⟩:=lK I.hok e
 have hz:(fs.map (·.1)).length<=sizeLine:=by rw[List.length_map,sizeLine_eq];omega
 refine Dz I.kIn O c.sa c.po n.taker c.hd wi hz fun h' O' sb=>h _ ?_
 have hd:∃o,h'.get? dx=some o:=let ⟨o,_,_,e',_⟩:=O'.ns;⟨o,e'⟩
 refine I.write (x:=a) (e:=dx) (by rw[e];exact True.intro) (.inr ho) (fun b q hb z=>(sb.2 b hb).trans z) hd ?_
 refine⟨by rw[ay O.ne];exact ho,?_,O.ne,O'.obj,_,O'.ns,fun g=>?_,fun g hg=>?_⟩
 ·have:=gC f y fs;omega
 ·show gn ((dh f y fs).lookup g) (if g=f then some u else mA g)
  rw[mf]
  by_cases q:g=f
  ·rw[if_pos q,if_pos q];exact ry
  ·rw[if_neg q,if_neg q];exact r g
 ·by_cases q:g=f
  ·rw[q];exact(kR f y fs).1
  ·refine(kR f y fs).2 g (wi g fun z=>hg ?_)
   show(if g=f then some u else mA g)=none
   rw[if_neg q];exact z
theorem ah.made(I:ah X pins σ H s):ah X pins σ (aM (aM H s.heap.objs.size (.own (s.heap.objs.size+1))) (s.heap.objs.size+1) (.ins C s.heap.objs.size []))
  { s with heap:=(s.heap.push W.emptyDict).push (W.instObj C s.heap.objs.size) }:=by
 have e1:(s.heap.push W.emptyDict).get? s.heap.objs.size=some W.emptyDict:=Heap.get?_push_size s.heap rfl
 have e2:((s.heap.push W.emptyDict).push (W.instObj C s.heap.objs.size)).get? (s.heap.objs.size+1)=some (W.instObj C s.heap.objs.size):=by
  have:=Heap.get?_push_size (s.heap.push W.emptyDict) (o:=W.instObj C s.heap.objs.size) rfl
  rwa [Heap.size_push]at this
 have e3:(s.heap.push W.emptyDict).Ns s.heap.objs.size (fun _=>none):=⟨W.emptyDict,#[],_,e1,rfl,(fun e he=>absurd he (by simp)),fun _=>rfl⟩
 have I1:=I.laid (a:=s.heap.objs.size) (o:=.own (s.heap.objs.size+1)) (h':=s.heap.push W.emptyDict) (t':=s.toks) (fun b u q=>Heap.get?_push_of_some _ q) (Nat.le_refl _) ⟨_,e1⟩
 refine I1.laid (a:=s.heap.objs.size+1) (o:=.ins C s.heap.objs.size []) (t':=s.toks) (fun b u q=>Heap.get?_push_of_some _ q) (Nat.le_of_eq (Heap.size_push _ _)) ?_
 have ne:s.heap.objs.size≠s.heap.objs.size+1:=Nat.ne_of_lt (Nat.lt_succ_self _)
 refine⟨by rw[ay ne,aI],Nat.zero_le _,ne,e2,fun _=>none,(Heap.Ns1.of_empty e3).at fun o q=>Heap.get?_push_of_some _ q,fun _=>True.intro,fun y hy=>absurd rfl hy⟩
theorem vY{prog:Program}{env:Env}{f:Str}(hb:attributeBase e f env (eval e env)=eval e env)
  (h:wpAny (model prog w) A (eval e env) (fun o s₁=>wpAny (model prog w) A (getAttr o f true) Q E s₁) E s):wpAny (model prog w) A (eval (.Attribute e f pos) env) Q E s :=
 Attribute_any_ h (by rw[arm_eval_Attribute,hb])
end
def Mr(K:W.Frag)(ta:TE)(f:Str):TE:=fun σ H Q=>ta σ H fun x H1 => ∃a C dx fs v,x=.ref a/\H1 a=some (.ins C dx fs)/\d5 K C/\bn K C f/\fs.lookup f=some v/\Q v H1
def Nh(K:W.Frag)(ta tv:TE)(f:Str):TS:=fun D σ H=>tv σ H fun y H1=>ta σ H1 fun x H2 => ∃a C dx fs,x=.ref a/\H2 a=some (.ins C dx fs)/\d5 K C/\bn K C f/\fs.length<1000 /\
 D.nx σ (aM H2 a (.ins C dx (dh f y fs)))
section
variable{o value:Expr}{f:Str}{tpos:Pos}{ta tv:TE}
theorem G2(he:PE X e ta)(hb:attributeBase e f X.env (eval e X.env)=eval e X.env):PE X (.Attribute e f pos) (Mr X.K ta f):=by
 intro pins s σ H Q I h
 refine vY hb (aG (he pins s σ H _ I h) fun u s1 ⟨x,H1,I1,rx,a,C,dx,fs,v,ex,ea,c,n,l,q⟩=>?_)
 subst ex
 obtain rfl:u=Value.ref a:=rx
 exact wP I1 ea c n l fun u' s2 I2 ru=>⟨v,H1,I2,ru,q⟩
theorem sE(ha:PE X o ta)(hv:PE X value tv)(hs:swapsWith value (some (.Attribute o f pos')) pos.line X.env=pure false):PS X (.Assign [.Attribute o f pos'] value pos) (Nh X.K ta tv f):=by
 intro pins s σ H D I h
 refine plainObj_wpAny_Assign_Attribute (aG (hv pins s σ H _ I h) fun u s1 ⟨y,H1,I1,ry,q⟩=>aG (ha pins s1 σ H1 _ I1 q) fun ov s2 ⟨x,H2,I2,rx,a,C,dx,fs,ex,ea,c,n,l,q2⟩=>?_) hs
 subst ex
 obtain rfl:ov=Value.ref a:=rx
 exact wq I2 ea c n l ry fun s3 I3=>⟨σ,_,I3,q2⟩
end
section
variable{c:Value}{b:Bool}
inductive gY(K:W.Frag)(H:Hp):V->Value->Prop where
  | non:gY K H .non (.type "NoneType")
  | bl (x:Bool):gY K H (.bl x) (.type "bool")
  | int (i:Int):gY K H (.int i) (.type "int")
  | str (x:Str):gY K H (.str x) (.type "str")
  | flt (x:UInt64):gY K H (.flt x) (.type "float")
  | lst {a:Addr} {xs:List V} (e:H a=some (.lst xs)):gY K H (.ref a) (.type "list")
  | frz {a:Addr} {o:Obj} {xs:List V} (e:H a=some (.frz o (.lst xs))):gY K H (.ref a) (.type "list")
  | tup {a:Addr} {xs:List V} (e:H a=some (.tup xs)):gY K H (.ref a) (.type "tuple")
  | dK {a:Addr} {kvs:List (dz×V)} (e:H a=some (.dK kvs)):gY K H (.ref a) (.type "dict")
  | dT {a:Addr} {kvs:List (List dz×V)} (e:H a=some (.dT kvs)):gY K H (.ref a) (.type "dict")
  | ins {a C dx:Addr} {fs:List (Str×V)} (e:H a=some (.ins C dx fs)) (cl:d5 K C) (ha:W.findIn K (.ref C) "__class__" = some (some (.builtin "object.__class__")))
      (hn:W.specialIn K (.builtin "object.__class__") "__get__" = some (some (.builtin "getset_descriptor.__get__"))) (htk:W.takesIn K (.builtin "object.__class__")=some true)
      (hm:W.mroIn K C (.type "object")=some true):gY K H (.ref a) (.ref C)
theorem qw{x:V}{t:Value}(I:ah X pins σ H s)(rx:aX x u)(ty:gY X.K H x t)(e:W.kitOne X.K t c=some b)(h:∀tk,Q (.bool b) { s with toks:=tk }) :
  wpAny (model X.prog X.w) A (call (.builtin "isinstance") [u,c]) Q E s:=by
 cases ty with
 | non=>cases (show u=Value.none from rx);exact W.kia_one W.kitx_none I.kIn True.intro e (fun z=>nomatch z) h
 | bl y=>cases (show u=Value.bool y from rx);exact W.kia_one W.kitx_bool I.kIn True.intro e (fun z=>nomatch z) h
 | int i=>obtain⟨t,q⟩:=(show ∃t,u=Value.int i t from rx);cases q;exact W.kia_one W.kitx_int I.kIn True.intro e (fun z=>nomatch z) h
 | str y=>obtain⟨t,q⟩:=(show ∃t,u=Value.str y t from rx);cases q;exact W.kia_one W.kitx_str I.kIn True.intro e (fun z=>nomatch z) h
 | flt y=>obtain⟨t,q⟩:=(show ∃t,u=Value.float y t from rx);cases q;exact W.kia_one W.kitx_float I.kIn True.intro e (fun z=>nomatch z) h
 | @lst a xs ea =>
  cases (show u=Value.ref a from rx)
  obtain⟨_,_,n,_,h1⟩:=(show bU X.prog X.w H s.heap a (.lst xs)from I.hok a _ ea)
  exact W.kia_one W.kitx_list I.kIn ⟨_,h1,rfl⟩ e (fun z=>nomatch z) h
 | @frz a ob xs ea =>
  cases (show u=Value.ref a from rx)
  obtain⟨_,_,_,n,_,h1⟩:=(show bU X.prog X.w H s.heap a (.frz ob (.lst xs))from I.hok a _ ea)
  exact W.kia_one W.kitx_list I.kIn ⟨_,h1,rfl⟩ e (fun z=>nomatch z) h
 | @tup a xs ea =>
  cases (show u=Value.ref a from rx)
  obtain⟨_,_,_,p⟩:=(show bU X.prog X.w H s.heap a (.tup xs)from I.hok a _ ea)
  obtain⟨o,h1,h2,_⟩:=p
  exact W.kia_one W.kitx_tuple I.kIn ⟨o,h1,h2⟩ e (fun z=>nomatch z) h
 | @dK a kvs ea =>
  cases (show u=Value.ref a from rx)
  obtain⟨_,_,vs,_,p⟩:=(show bU X.prog X.w H s.heap a (.dK kvs)from I.hok a _ ea)
  obtain⟨o,es,ep,h1,h2,_⟩:=p
  exact W.kia_one W.kitx_dict I.kIn ⟨o,h1,h2.1⟩ e (fun z=>nomatch z) h
 | @dT a kvs ea =>
  cases (show u=Value.ref a from rx)
  obtain⟨_,_,xs,_,o,es,ep,h1,h2,_⟩:=(show bU X.prog X.w H s.heap a (.dT kvs)from I.hok a _ ea)
  exact W.kia_one W.kitx_dict I.kIn ⟨o,h1,h2.1⟩ e (fun z=>nomatch z) h
 | @ins a C dx fs ea cl ha hn htk hm =>
  cases (show u=Value.ref a from rx)
  obtain⟨mA,O,_⟩:=lK I.hok ea
  obtain⟨od,J,_⟩:=O.look
  exact W.kia_one (W.kitx_own (cl.get _) cl.hd ha hn htk hm) I.kIn J e (fun z=>nomatch z) h
end
structure bJ(k:Nat)(A:Around):Prop where
 hd:A.handled=none
 dp:A.depth+3*k+5<recursionLimit
 un:A.units+16*k+200<cLine
theorem bJ.mono(r:bJ k A)(h:j<=k):bJ j A:=⟨r.hd,by have:=r.dp;omega,by have:=r.un;omega⟩
theorem bJ.deeper(r:bJ (k+1) A)(env:Env):bJ k (A.deeper env) :=
 ⟨r.hd,by have:=r.dp;show A.depth+1+3*k+5<_;omega,by have:=r.un;show A.units+3+16*k+200<_;omega⟩
theorem bJ.in1(r:bJ (k+1) A):bJ k A.in1 :=
 ⟨r.hd,by have:=r.dp;show A.depth+3*k+5<_;omega,by have:=r.un;show A.units+1+16*k+200<_;omega⟩
theorem wL:(A.under (.builtin "type.__call__" ⟨.ref C::us,kw⟩)).depth=A.depth+1:=by
 first|rfl|simp[Around.under,Code.weight,Code.isCreation,Code.isGuard,Code.isCaller,Code.frames,Code.isFrame,guardIds]
theorem wK:(A.under (.builtin "type.__call__" ⟨.ref C::us,kw⟩)).units=A.units+1:=by
 first|rfl|simp[Around.under,Code.cUnits,Code.frames,Code.isFrame]
theorem bJ.make(r:bJ (k+1) A)(C:Addr)(us:List Value)(kw:List (Str×Value)):bJ k (A.under (.builtin "type.__call__" ⟨.ref C::us,kw⟩)) :=
 ⟨r.hd,by have:=r.dp;rw[wL];omega,by have:=r.un;rw[wK];omega⟩
theorem bJ.depth(r:bJ k A):A.depth<recursionLimit:=by have:=r.dp;omega
theorem bJ.units(r:bJ k A):A.units+64<cLine:=by have:=r.un;omega
def we:TA:=fun _ H Q=>Q [] H
def Kt(ta:TE)(tr:TA):TA:=fun σ H Q=>ta σ H fun x H1=>tr σ H1 fun xs H2=>Q (x::xs) H2
section
variable{t:TA}
theorem yJ:PA X [] we:=fun _ _ _ _ H Q I h=>Calls.spliced_nil ⟨[],H,I,.nil,h⟩
theorem fK(ha:PE X e te)(hr:PA X es t)(hs:starEach (e::es) X.env=(false,eval e X.env)::starEach es X.env:=by rfl):PA X (e::es) (Kt te t):=by
 intro pos pins s σ H Q I h
 rw[hs]
 show wpAny _ _ (spliced ((false,eval e X.env)::backTo pos (starEach es X.env))) _ _ s
 refine Calls.spliced_cons (aG (ha pins s σ H _ I h) fun u s1 ⟨x,H1,I1,r1,q1⟩=>?_)
 exact aG (hr pos pins s1 σ H1 _ I1 q1) fun us s2 ⟨xs,H2,I2,r2,q2⟩=>⟨x::xs,H2,I2,.cons r1 r2,q2⟩
def Mh(t:TA):TE:=fun σ H Q=>t σ H fun xs H1=>xs.length<=sizeLine/\∀p,H1 p=none->Q (.ref p) (aM H1 p (.tup xs))
def Mp(t:TA):TE:=fun σ H Q=>t σ H fun xs H1=>xs.length<=sizeLine/\∀p,H1 p=none->Q (.ref p) (aM H1 p (.lst xs))
theorem GS{x1}(h:PA X es t):PE X (.Tuple es x1 pos) (Mh t):=by
 intro pins s σ H Q I hq
 refine wpAny_Tuple_spliced (aG (h pos pins s σ H _ I hq) fun us s1 ⟨xs,H1,I1,r,z,q⟩=>⟨by rw[<- r.length];exact z,?_⟩)
 have hf:H1 s1.heap.objs.size=none:=I1.hok.fresh (Nat.le_refl _)
 refine⟨.ref s1.heap.objs.size,aM H1 s1.heap.objs.size (.tup xs),I1.laid (t':=s1.toks) (fun b u e=>Heap.get?_push_of_some _ e) (Nat.le_refl _) ?_,rfl,q _ hf⟩
 exact⟨z,us,r,⟨_,Heap.get?_push_size _ rfl,rfl,_,rfl⟩⟩
theorem GX(h:PA X es t):PE X (.List es pos) (Mp t):=by
 intro pins s σ H Q I hq
 refine wpAny_List_spliced (aG (h pos pins s σ H _ I hq) fun us s1 ⟨xs,H1,I1,r,z,q⟩=>⟨by rw[<- r.length];exact z,?_⟩)
 have hf:H1 s1.heap.objs.size=none:=I1.hok.fresh (Nat.le_refl _)
 refine⟨.ref s1.heap.objs.size,aM H1 s1.heap.objs.size (.lst xs),I1.laid (t':=s1.toks) (fun b u e=>Heap.get?_push_of_some _ e) (Nat.le_refl _) ?_,rfl,q _ hf⟩
 exact⟨z,us,0,r,Heap.get?_push_size _ rfl⟩
end
abbrev Sp:=List V->Hp->VK->XK->Prop
abbrev iO:=List Env->Hp->Shared->XK->Value->Shared->Prop
structure jg(P:Program)(w:World)(K:W.Frag)(mg:Str->Option Value)(base:Heap)(A:Around)(outer:List Env)(s:Shared)(H:Hp):Prop where
 frames:A.frames=some outer
 mod:Mod K mg base
 bs:∀b o,base.get? b=some o->s.heap.get? b=some o/\H b=none
 bsz:base.objs.size<=s.heap.objs.size
 funs:s.heap.FunFrames base outer
 frf:∀b∈bZ outer,H b=none
 hok:cU P w H s.heap
 bare:AllBare s.gens
def CE(outer:List Env)(P:Program)(w:World)(H:Hp)(s:Shared)(Q:VK)(u:Value)(s':Shared):Prop :=
 ∃v H',s'.os=s.os/\AllBare s'.gens/\Un (bZ outer) [] H H' s.heap s'.heap/\cU P w H' s'.heap/\aX v u/\Q v H'
def CR(CX:iO)(outer:List Env)(P:Program)(w:World)(H:Hp)(s:Shared)(Q:VK)(E:XK)(r:Result)(s':Shared):Prop :=
 match r with
 | .ok (.ret u)=>CE outer P w H s Q u s'
 | .ok _=>False
 | .error e=>CX outer H s E e s'
structure aZ(P:Program)(w:World)(K:W.Frag)(mg:Str->Option Value)(base:Heap)(CX:iO)(k:Nat)(f:Addr)(fd:FuncData)(ps:List Str)(sp:Sp):Prop where
 len:∀vs H Q E,sp vs H Q E->vs.length=ps.length
 run:∀(A:Around) (outer:List Env) (s:Shared) (H:Hp) (args:Args) (us:List Value) (vs:List V) (Q:VK) (E:XK),bJ k A->jg P w K mg base A outer s H->BindsTo s fd args (ps.zip us)->aL vs us->sp vs H Q E ->
  codeAny (model P w) A (.call (.ref f) args) (CR CX outer P w H s Q E) s
theorem aZ.mono{CX:iO}{f:Addr}{sp:Sp}(F:aZ P w K mg base CX j f fd ps sp)(h:j<=k) :
  aZ P w K mg base CX k f fd ps sp:=⟨F.len,fun A outer s H args us vs Q E hr=>F.run A outer s H args us vs Q E (hr.mono h)⟩
theorem jg.make(e:jg P w K mg base A outer s H)(C:Addr)(us:List Value)(kw:List (Str×Value)) :
  jg P w K mg base (A.under (.builtin "type.__call__" ⟨.ref C::us,kw⟩)) outer s H:=⟨by first|exact e.frames|(simpa [Around.under,Code.envs,Code.isFrame,pushEnvs]using e.frames),e.mod,e.bs,e.bsz,e.funs,e.frf,e.hok,e.bare⟩
theorem jg.in1(e:jg P w K mg base A outer s H) :
  jg P w K mg base A.in1 outer s H:=⟨e.frames,e.mod,e.bs,e.bsz,e.funs,e.frf,e.hok,e.bare⟩
section
theorem ah.env0(I:ah X pins σ H s):jg X.prog X.w X.K X.mg X.base X.A X.stack s H :=
 ⟨I.ok.frames,I.ok.mod,I.bs,Nat.le_trans I.ok.bsz I.sz,I.stack,I.stkFree,I.hok,I.bare⟩
theorem ah.after{Q:VK}(I:ah X pins σ H s)(h:CE X.stack X.prog X.w H s Q u s'):EP X pins σ Q u s':=by
 obtain⟨v,H',os,bare,un,hok,r,q⟩:=h
 obtain⟨hh,g,d,t,os'⟩:=s'
 obtain rfl:os'=s.os:=os
 exact⟨v,H',I.call (h':=hh) (g':=g) (d':=d) (t':=t) (ch:=[]) un hok bare (fun b z=>absurd z (by simp)),r,q⟩
end
def wf(sp:Sp)(dvs:List V)(E:XK)(t:TA):TE:=fun σ H Q=>t σ H fun vs H1=>sp (vs++dvs) H1 Q E
def B3(C:Addr)(m:Str)(sp:Sp)(dvs:List V)(E:XK)(ta:TE)(t:TA):TE:=fun σ H Q=>ta σ H fun x H1 => ∃a dx fs,x=.ref a/\H1 a=some (.ins C dx fs)/\fs.lookup m=none /\
 t σ H1 fun vs H2=>sp (x::(vs++dvs)) H2 Q E
def B4(C:Addr)(sp:Sp)(dvs:List V)(E:XK)(t:TA):TE:=fun σ H Q=>t σ H fun vs H1 => ∀x dx,H1 x=none->H1 dx=none->dx≠x ->
 sp (.ref x::(vs++dvs)) (aM (aM H1 dx (.own x)) x (.ins C dx [])) (fun v H2=>v=.non/\Q (.ref x) H2) E
def bH(K:W.Frag)(fd:FuncData)(ps:List Str)(ds:List Value):Prop :=
 ∀(s:Shared) (us:List Value),K.In s.heap->(us++ds).length=ps.length->BindsTo s fd ⟨us,[]⟩ (ps.zip (us++ds))
theorem bH.all(h:∀us:List Value,us.length=ps.length->bindArgs fd ⟨us,[]⟩=pure (ps.zip us)):bH K fd ps []:=fun s us _ hl=>by
 rw[List.append_nil]at hl⊢
 exact .of_eq (h us hl)
def fB(CX:iO)(X:Cx)(E:XK):Prop:=∀(pins:List (Addr×Obj)) (σ:St) (H:Hp) (s:Shared) (e:Value) (s':Shared),ah X pins σ H s->CX X.stack H s E e s'->X.xe e s'
section
variable{CX:iO}{f:Addr}{sp:Sp}{dvs:List V}{ds:List Value}{E:XK}{m:Str}{apos:Pos}{o:Expr}{ta:TE}{t:TA}
theorem kH{Q:VK}(F:aZ X.prog X.w X.K X.mg X.base CX k f fd ps sp)(hr:bJ k X.A)(hb:bH X.K fd ps ds)(hd:aL dvs ds)(hx:fB CX X E)
  (I:ah X pins σ H s) (r:aL vs us) (h:sp (vs++dvs) H Q E):wpAny (model X.prog X.w) X.A (call (.ref f) us) (EP X pins σ Q) X.xe s:=by
 have r2:aL (vs++dvs) (us++ds):=r.append hd
 have hl:(us++ds).length=ps.length:=by rw[<- r2.length];exact F.len _ _ _ _ h
 refine wpAny_call (codeAny_mono (F.run X.A X.stack s H ⟨us,[]⟩ (us++ds) (vs++dvs) Q E hr I.env0 (hb s us I.kIn hl) r2 h) fun r s' hq=>?_)
 cases r with
 | error e=>exact hx pins σ H s e s' I hq
 | ok fl =>
  cases fl with
  | ret u=>exact I.after hq
  | next=>exact False.elim hq
  | brk=>exact False.elim hq
  | cont=>exact False.elim hq
theorem D1(F:aZ X.prog X.w X.K X.mg X.base CX k f fd ps sp)(hr:bJ k X.A)(hg:Gl X x)(hm:X.mg x=some (.ref f))(hk:W.keepIn X.K (.ref f)=true)(hb:bH X.K fd ps ds)(hd:aL dvs ds)(hx:fB CX X E)
  (ha:PA X (e::es) t) (hdb:(x==("__debug__" : Str))=false:=by decide) (he:starEach (e::es) X.env=(false,eval e X.env)::starEach es X.env:=by rfl) (hpl:(backTo pos (starEach es X.env)).any (·.1)=false:=by rfl) :
  PE X (.Call (.Name x p) (e::es) [] pos) (wf sp dvs E t):=by
 intro pins s σ H Q I h
 refine wpAny_Call_Name_kw (cJ I hg hm ?_ hdb)
 refine W.callWith_K (h₀:=X.base) I.ok.mod.kin hk (aG (ha pos pins s σ H _ I h) fun us s1 ⟨vs,H1,I1,r,q⟩=>⟨I1.kIn,?_⟩) he hpl
 exact kH F hr hb hd hx I1 r q
theorem AU(F:aZ X.prog X.w X.K X.mg X.base CX k f fd ps sp)(hr:bJ k X.A)(hg:Gl X x)(hm:X.mg x=some (.ref f))(hk:W.keepIn X.K (.ref f)=true)(hb:bH X.K fd ps ds)(hd:aL dvs ds)(hx:fB CX X E)
  (hdb:(x==("__debug__" : Str))=false:=by decide):PE X (.Call (.Name x p) [] [] pos) (wf sp dvs E we):=by
 intro pins s σ H Q I h
 refine wpAny_Call_Name_kw (cJ I hg hm ?_ hdb)
 exact W.callWith_K0 I.kIn hk (kH (us:=[]) F hr hb hd hx I .nil h)
theorem DY(he:PE X o ta)(c:d5 X.K C)(hm:pV X.K C m f)(F:aZ X.prog X.w X.K X.mg X.base CX k f fd ps sp)(hr:bJ k X.A)(hb:bH X.K fd ps ds)(hd:aL dvs ds)(hx:fB CX X E)(ha:PA X (e::es) t)
  (hst:starEach (e::es) X.env=(false,eval e X.env)::starEach es X.env:=by rfl) (hpl:(backTo pos (starEach es X.env)).any (·.1)=false:=by rfl)
  (ht:eval (.Call (.Attribute o m apos) (e::es) [] pos) X.env=(do
   let ov <- eval o X.env
   standAt apos.atName
   let (f,first) <- holding [ov] (getMethod ov m pl)
   callWith pos f first (backTo pos (starEach (e::es) X.env)) (backToKw pos (keywordEach [] X.env))):=by rfl) :
  PE X (.Call (.Attribute o m apos) (e::es) [] pos) (B3 C m sp dvs E ta t):=by
 intro pins s σ H Q I h
 refine W.methodCall_KW (pl:=pl) (aG (he pins s σ H _ I h) fun u s1 ⟨x,H1,I1,rx,a,dx,fs,ex,ea,l,q⟩=>?_) ht
 subst ex
 obtain rfl:u=Value.ref a:=rx
 refine nU I1 ea c hm l ?_
 refine W.callWith_K (first:=[.ref a]) (h₀:=X.base) I.ok.mod.kin hm.kp (aG (ha pos pins s1 σ H1 _ I1 q) fun us s2 ⟨vs,H2,I2,r,q2⟩=>⟨I2.kIn,?_⟩) hst hpl
 exact kH (us:=.ref a::us) (vs:=.ref a::vs) F hr hb hd hx I2 (.cons rfl r) q2
theorem AQ(he:PE X o ta)(c:d5 X.K C)(hm:pV X.K C m f)(F:aZ X.prog X.w X.K X.mg X.base CX k f fd ps sp)(hr:bJ k X.A)(hb:bH X.K fd ps ds)(hd:aL dvs ds)(hx:fB CX X E)
  (ht:eval (.Call (.Attribute o m apos) [] [] pos) X.env=(do
   let ov <- eval o X.env
   standAt apos.atName
   let (f,first) <- holding [ov] (getMethod ov m pl)
   callWith pos f first (backTo pos (starEach [] X.env)) (backToKw pos (keywordEach [] X.env))):=by rfl) :
  PE X (.Call (.Attribute o m apos) [] [] pos) (B3 C m sp dvs E ta we):=by
 intro pins s σ H Q I h
 refine W.methodCall_KW (pl:=pl) (aG (he pins s σ H _ I h) fun u s1 ⟨x,H1,I1,rx,a,dx,fs,ex,ea,l,q⟩=>?_) ht
 subst ex
 obtain rfl:u=Value.ref a:=rx
 refine nU I1 ea c hm l ?_
 exact W.callWith_K0 (first:=[.ref a]) I1.kIn hm.kp (kH (us:=[.ref a]) (vs:=[.ref a]) F hr hb hd hx I1 (.cons rfl .nil) q)
structure Mk(K:W.Frag)(C f:Addr):Prop where
 makes:W.makesIn K C=true
 init:W.findIn K (.ref C) "__init__" = some (some (.ref f))
 fn:W.isFn K (.ref f)=true
 kp:W.keepIn K (.ref C)=true
theorem sx{Q:VK}(M:Mk X.K C f)(F:aZ X.prog X.w X.K X.mg X.base CX k f fd ps sp)(hr:bJ (k+1) X.A)(hb:bH X.K fd ps ds)(hd:aL dvs ds)
  (hx:fB CX X E) (I:ah X pins σ H s) (r:aL vs us)
  (h:∀x dx,H x=none->H dx=none->dx≠x->sp (.ref x::(vs++dvs)) (aM (aM H dx (.own x)) x (.ins C dx [])) (fun v H2=>v=.non/\Q (.ref x) H2) E) :
  wpAny (model X.prog X.w) X.A (call (.ref C) us) (EP X pins σ Q) X.xe s:=by
 have hq:=h (s.heap.objs.size+1) s.heap.objs.size (I.hok.fresh (Nat.le_succ _)) (I.hok.fresh (Nat.le_refl _)) (Nat.ne_of_lt (Nat.lt_succ_self _))
 have I2:=ah.made (C:=C) I
 have r2:aL (V.ref (s.heap.objs.size+1)::(vs++dvs)) (Value.ref (s.heap.objs.size+1)::(us++ds)):=.cons rfl (r.append hd)
 have hl:(Value.ref (s.heap.objs.size+1)::us++ds).length=ps.length:=by
  have e:=r2.length
  rw[F.len _ _ _ _ hq]at e
  exact e.symm
 refine wpAny_call (sS (f:=f) I.kIn M.makes M.init (beq_iff_eq.mp M.fn) (codeAny_mono (F.run _ X.stack _ _ ⟨Value.ref (s.heap.objs.size+1)::us,[]⟩ (Value.ref (s.heap.objs.size+1)::(us++ds)) _ _ E (hr.make C us [])
  (I2.env0.make C us []) (hb _ (Value.ref (s.heap.objs.size+1)::us) I2.kIn hl) r2 hq) fun r s' hq'=>?_))
 cases r with
 | error e=>exact hx pins σ _ _ e s' I2 hq'
 | ok fl =>
  cases fl with
  | ret u =>
   obtain⟨v,H',I3,rv,ev,q3⟩:=I2.after hq'
   subst ev
   exact⟨rv,⟨V.ref (s.heap.objs.size+1),H',I3,rfl,q3⟩⟩
  | next=>exact False.elim hq'
  | brk=>exact False.elim hq'
  | cont=>exact False.elim hq'
theorem DZ(M:Mk X.K C f)(F:aZ X.prog X.w X.K X.mg X.base CX k f fd ps sp)(hr:bJ (k+1) X.A)(hg:Gl X x)(hm:X.mg x=some (.ref C))(hb:bH X.K fd ps ds)(hd:aL dvs ds)(hx:fB CX X E)
  (ha:PA X (e::es) t) (hdb:(x==("__debug__" : Str))=false:=by decide) (he:starEach (e::es) X.env=(false,eval e X.env)::starEach es X.env:=by rfl) (hpl:(backTo pos (starEach es X.env)).any (·.1)=false:=by rfl) :
  PE X (.Call (.Name x p) (e::es) [] pos) (B4 C sp dvs E t):=by
 intro pins s σ H Q I h
 refine wpAny_Call_Name_kw (cJ I hg hm ?_ hdb)
 refine W.callWith_K (h₀:=X.base) I.ok.mod.kin M.kp (aG (ha pos pins s σ H _ I h) fun us s1 ⟨vs,H1,I1,r,q⟩=>⟨I1.kIn,?_⟩) he hpl
 exact sx M F hr hb hd hx I1 r q
theorem AR(M:Mk X.K C f)(F:aZ X.prog X.w X.K X.mg X.base CX k f fd ps sp)(hr:bJ (k+1) X.A)(hg:Gl X x)(hm:X.mg x=some (.ref C))(hb:bH X.K fd ps ds)(hd:aL dvs ds)(hx:fB CX X E)
  (hdb:(x==("__debug__" : Str))=false:=by decide):PE X (.Call (.Name x p) [] [] pos) (B4 C sp dvs E we):=by
 intro pins s σ H Q I h
 refine wpAny_Call_Name_kw (cJ I hg hm ?_ hdb)
 exact W.callWith_K0 I.kIn M.kp (sx (us:=[]) M F hr hb hd hx I .nil h)
end
section
variable{CX:iO}{f:Addr}{ks:List Str}{sp:Sp}{E:XK}{m:Str}{apos kpos:Pos}{o:Expr}{kws:List Keyword}{ta:TE}{t tk:TA}{nm:Option Str}
variable{g:List Value->List Value->List Value}{gV:List V->List V->List V}
end
structure aF(N P:List Str)(sc:Scope):Prop where
 kind:sc.kind=.function
 co:sc.isCoroutine=false
 gen:sc.isGenerator=false
 nd:N.Nodup
 pre:N.take P.length=P
 par:∀x∈P,sc.names.lookup x=some .local\/sc.names.lookup x=some .cell
 nofree:∀y∈sc.names,y.2 ≠ .free
theorem qJ{kindOf:Str->Option NameKind}{x:Str}:∀{binds:List (Str×Value)} {m:Str->Option Value},(∀v,(x,v)∉binds)->bindL kindOf binds m x=m x
 | [],_,_=>rfl
 | (n,v)::r,m,h=>by
  unfold bindL
  rw[qJ fun w hw=>h w (List.mem_cons_of_mem _ hw)]
  split
  ·have:x≠n:=by rintro rfl;exact h v List.mem_cons_self
   simp[this]
  ·rfl
theorem qL{kindOf:Str->Option NameKind}{x:Str}:∀{binds:List (Str×Value)} {m:Str->Option Value},(∀v,(x,v)∉binds)->bindC kindOf binds m x=m x
 | [],_,_=>rfl
 | (n,v)::r,m,h=>by
  unfold bindC
  rw[qL fun w hw=>h w (List.mem_cons_of_mem _ hw)]
  split
  ·rfl
  ·have:x≠n:=by rintro rfl;exact h v List.mem_cons_self
   simp[this]
theorem qK{kindOf:Str->Option NameKind}{x:Str}{v:Value}:∀{P:List Str} {vs:List Value} {i:Nat} {m:Str->Option Value},P.Nodup->P[i]?=some x->vs[i]?=some v->kindOf x=some .local ->
  bindL kindOf (P.zip vs) m x=some v
 | [],_,_,_,_,h,_,_=>by simp at h
 | _::_,[],_,_,_,_,h,_=>by simp at h
 | p::P,w::vs,0,m,nd,h1,h2,hk=>by
  simp at h1 h2;subst h1;subst h2
  show bindL kindOf ((p,w)::P.zip vs) m p=_
  unfold bindL
  rw[qJ fun v hv=>(List.nodup_cons.mp nd).1 (List.of_mem_zip hv).1,if_pos hk]
  simp
 | p::P,w::vs,i+1,m,nd,h1,h2,hk=>by
  show bindL kindOf ((p,w)::P.zip vs) m x=_
  unfold bindL
  exact qK (i:=i) (List.nodup_cons.mp nd).2 (by simpa using h1) (by simpa using h2) hk
theorem qM{kindOf:Str->Option NameKind}{x:Str}{v:Value}:∀{P:List Str} {vs:List Value} {i:Nat} {m:Str->Option Value},P.Nodup->P[i]?=some x->vs[i]?=some v->kindOf x≠some .local ->
  bindC kindOf (P.zip vs) m x=some v
 | [],_,_,_,_,h,_,_=>by simp at h
 | _::_,[],_,_,_,_,h,_=>by simp at h
 | p::P,w::vs,0,m,nd,h1,h2,hk=>by
  simp at h1 h2;subst h1;subst h2
  show bindC kindOf ((p,w)::P.zip vs) m p=_
  unfold bindC
  rw[qL fun v hv=>(List.nodup_cons.mp nd).1 (List.of_mem_zip hv).1,if_neg hk]
  simp
 | p::P,w::vs,i+1,m,nd,h1,h2,hk=>by
  show bindC kindOf ((p,w)::P.zip vs) m x=_
  unfold bindC
  exact qM (i:=i) (List.nodup_cons.mp nd).2 (by simpa using h1) (by simpa using h2) hk
def start(N:List Str)(vs:List V):St:=vs.map some++List.replicate (N.length-vs.length) none
def bV(CX:iO)(P:Program)(w:World)(K:W.Frag)(mg:Str->Option Value)(base:Heap)(N:List Str)(qual:Str)(scope:Scope)(f:Addr)(cd:Value)(A:Around)(outer:List Env)(s:Shared)(H:Hp)(E:XK):Cx where
 prog:=P
 w:=w
 K:=K
 mg:=mg
 base:=base
 A:=A.deeper (envOfC qual scope s.heap.objs.size f cd)
 N:=N
 s₀:=s
 H₀:=H
 env:=envOfC qual scope s.heap.objs.size f cd
 outer:=outer
 stack:=envOfC qual scope s.heap.objs.size f cd::outer
 ex:=[]
 calm:=true
 fn:=fun _=>true
 pn:=[]
 xe:=fun e s'=>wpAny (model P w) (A.deeper (envOfC qual scope s.heap.objs.size f cd)) (leaving (envOfC qual scope s.heap.objs.size f cd) e) (fun _ s''=>CX outer H s E e s'') (fun e' s''=>CX outer H s E e' s'') s'
theorem t7{sc:Scope}(h:sc.names.lookup x=some .cell):∃c,(cellsFrom n sc.names []).lookup x=some c:=by
 have q:=W.cellsFrom_some sc.names n [] (.inl h)
 exact Option.isSome_iff_exists.mp q
theorem zb{CX:iO}{f:Addr}{cd:Value}{s1:Shared}{E:XK}
  (S:aF N ps scope) (hd:A.handled=none) (e0:jg P w K mg base A outer s H) (hl:vs.length=ps.length) (r:aL vs us)
  (x:InCallC s s.heap.objs.size (bindL (envOfC qual scope s.heap.objs.size f cd).kindOf (ps.zip us) fun _=>none) (cellsFrom (s.heap.objs.size+1) scope.names []) (bindC (envOfC qual scope s.heap.objs.size f cd).kindOf (ps.zip us) fun _=>none) s1) :
  ah (bV CX P w K mg base N qual scope f cd A outer s H E) [] (start N vs) H s1:=by
 have hpl:ps.length<=N.length:=by have:=congrArg List.length S.pre;rw[List.length_take]at this;omega
 obtain⟨h1,tk,rfl,hk⟩:=x.done
 have noA:∀b:Addr,b∉(bV CX P w K mg base N qual scope f cd A outer s H E).ex:=fun b z=>absurd (show b∈([]:List Addr)from z) (by simp)
 refine⟨⟨e0.mod,S.kind,rfl,rfl,Nat.le_refl _,fun y z c h1 h2=>?_,fun y hy=>?_,fun y c _ h=>?_,fun _=>hd,Around.frames_deeper e0.frames,.inr ⟨rfl,rfl⟩,fun b z=>absurd z (noA b),e0.bs,e0.bsz,fun b _ _=>noA b,fun b z=>absurd z (noA b),e0.funs,e0.frf⟩,
  rfl,e0.bare,Un.kept hk,⟨_,x.toInCall.ns,fun i y v h1 h2 h3=>?_⟩,fun y c h=>⟨_,x.cell y c h⟩,e0.hok.fresh (Nat.le_refl _),fun y c h=>?_,fun p hp=>absurd (show p∈([]:List (Addr×Obj))from hp) (by simp),e0.hok.kept hk,?_⟩
 ·exact name_of_addr x.apart (PySem.mem_of_lookup h1) (PySem.mem_of_lookup h2)
 ·have hy:scope.names.lookup y=some .cell\/scope.names.lookup y=some .free:=hy
  rcases hy with hy|hy
  ·exact t7 hy
  ·exact absurd rfl (S.nofree _ (PySem.mem_of_lookup hy))
 ·exact Nat.le_of_lt (x.above y c (PySem.mem_of_lookup h))
 ·have hi:i<vs.length:=by
   unfold start at h2
   by_cases hi:i<vs.length
   ·exact hi
   ·rw[List.getElem?_append_right (by simpa using hi)]at h2
    rw[List.getElem?_replicate]at h2
    split at h2<;>cases h2
  have ha:vs[i]?=some v:=by
   unfold start at h2
   rw[List.getElem?_append_left (by simpa using hi),List.getElem?_map]at h2
   cases e:vs[i]? with
   | none=>rw[e]at h2;cases h2
   | some a=>rw[e]at h2;cases h2;rfl
  obtain⟨u,hu,rv⟩:=r.get ha
  have hp:ps[i]?=some y:=by
   rw[<- S.pre,List.getElem?_take_of_lt (by omega)];exact h1
  have ndP:ps.Nodup:=by rw[<- S.pre];exact S.nd.sublist (List.take_sublist _ _)
  refine⟨u,rv,?_⟩
  rcases S.par y (List.mem_of_getElem? hp)with k|k
  ·exact .inl ⟨k,qK ndP hp hu k⟩
  ·obtain⟨c,e⟩:=t7 (n:=s.heap.objs.size+1) k
   refine .inr ⟨.inl k,c,e,?_⟩
   have q:=x.cell y c e
   rw[qM ndP hp hu (by show scope.names.lookup y≠_;rw[k];decide)]at q
   exact q
 ·exact e0.hok.fresh (Nat.le_of_lt (x.above y c (PySem.mem_of_lookup h)))
 ·unfold start
  show _=N.length
  rw[List.length_append,List.length_map,List.length_replicate]
  omega
theorem rC{CX:iO}{f:Addr}{name:Str}{params:Arguments}{dV kV doc pm cdv ct oc:Value}{an od:Option Addr}
  {osl:Array (Option Value)} {sp:Sp} (lk:K.lookup f=some ⟨oc,od,.func (W.fnOf name qual params body scope dV kV doc pm an cdv ct),osl⟩) (hcd:W.codeIn K cdv qual=true) (S:aF N ps scope)
  (len:∀vs H Q E,sp vs H Q E->vs.length=ps.length)
  (hbody:∀(A:Around) (outer:List Env) (s:Shared) (H:Hp) (vs:List V) (Q:VK) (E:XK),bJ k (A.deeper (envOfC qual scope s.heap.objs.size f cdv))->sp vs H Q E ->
   ∃t,c5 (bV CX P w K mg base N qual scope f cdv A outer s H E) body t/\t { nx:=fun _ H'=>Q .non H',rt:=Q } (start N vs) H) :
  aZ P w K mg base CX (k+1) f (W.fnOf name qual params body scope dV kV doc pm an cdv ct) ps sp:=by
 refine⟨len,fun A outer s H args us vs Q E hr e0 hb r hsp=>?_⟩
 have hl:=len _ _ _ _ hsp
 have KX:K.In s.heap:=e0.mod.kin.keeps fun b o e=>(e0.bs b o e).1
 have lim:s.heap.NoLimit:=e0.mod.nolimit.keeps fun b o e=>(e0.bs b o e).1
 have hkind:∀y∈ps.zip us,scope.names.lookup y.1=some .local\/(scope.names.lookup y.1=some .cell/\((cellsFrom (s.heap.objs.size+1) scope.names []).lookup y.1).isSome=true):=fun⟨n,v⟩ hy=>by
  rcases S.par n (List.of_mem_zip hy).1 with q|q
  ·exact .inl q
  ·exact .inr ⟨q,W.cellsFrom_some _ _ _ (.inl q)⟩
 refine codeAny_call_function hr.depth (KX _ _ lk) rfl S.co S.gen rfl (W.codeRec_of KX hcd) (hb _ _ _ _ ?_)
 refine wpAny_newFunctionEnv_cells S.kind hkind fun env he s1 x=>?_
 subst he
 refine⟨lim.keeps x.toInCall.keep,codeAny_func ?_⟩
 obtain⟨t,ht,hq⟩:=hbody A outer s H vs Q E (hr.deeper _) hsp
 have I:ah (bV CX P w K mg base N qual scope f cdv A outer s H E) [] (start N vs) H s1:=zb S hr.hd e0 hl r x
 refine wpAny_mono (ht [] s1 (start N vs) H _ I hq) (fun fl s' hs=>?_) fun e s' hs=>hs
 have fin:∀{σ':St} {H':Hp} {v:V} {u:Value},ah (bV CX P w K mg base N qual scope f cdv A outer s H E) [] σ' H' s'->aX v u->Q v H'->CE outer P w H s Q u s' :=
  fun {σ' H' v u} J rv q=>⟨v,H',J.os,J.bare,J.base,J.hok,rv,q⟩
 cases fl with
 | ret u =>
  obtain⟨v,σ',H',J,rv,q⟩:=hs
  exact fin J rv q
 | next =>
  obtain⟨σ',H',J,q⟩:=hs
  exact fin (v:=V.non) (u:=Value.none) J rfl q
 | brk =>
  obtain⟨_,_,_,q⟩:=hs
  exact False.elim q
 | cont =>
  obtain⟨_,_,_,q⟩:=hs
  exact False.elim q
section
variable{t:TA}{id T:String}{r:List V->Hp->VK->Prop}
def LY(r:List V->Hp->VK->Prop)(t:TA):TE:=fun σ H Q=>t σ H fun vs H1=>r vs H1 Q
theorem AT(hc:cP X (.builtin id) r)(hg:Gl X x)(hm:X.mg x=none)(hv:bootBuiltins x=some (.builtin id))(ha:PA X (e::es) t)(hn:x ≠ "__name__" := by decide)(hdb:(x==("__debug__" : Str))=false:=by decide)
  (he:starEach (e::es) X.env=(false,eval e X.env)::starEach es X.env:=by rfl) (hpl:(backTo pos (starEach es X.env)).any (·.1)=false:=by rfl):PE X (.Call (.Name x p) (e::es) [] pos) (LY r t):=by
 intro pins s σ H Q I h
 refine wpAny_Call_Name_kw (jz I hg hm hv ?_ hn hdb)
 exact PyProof.Rows.callWith_builtin1 (aG (ha pos pins s σ H _ I h) fun us s1 ⟨vs,H1,I1,r1,q1⟩=>hc pins s1 σ H1 vs us Q I1 r1 q1) he hpl
theorem yH(hc:cP X (.type T) r)(hg:Gl X x)(hm:X.mg x=none)(hv:bootBuiltins x=some (.type T))(ha:PA X (e::es) t)(hn:x ≠ "__name__" := by decide)(hdb:(x==("__debug__" : Str))=false:=by decide)
  (he:starEach (e::es) X.env=(false,eval e X.env)::starEach es X.env:=by rfl) (hpl:(backTo pos (starEach es X.env)).any (·.1)=false:=by rfl):PE X (.Call (.Name x p) (e::es) [] pos) (LY r t):=by
 intro pins s σ H Q I h
 refine wpAny_Call_Name_kw (jz I hg hm hv ?_ hn hdb)
 exact PyProof.Rows.callWith_type1 (aG (ha pos pins s σ H _ I h) fun us s1 ⟨vs,H1,I1,r1,q1⟩=>hc pins s1 σ H1 vs us Q I1 r1 q1) he hpl
end
end L2
namespace HT
open PySem PyProof.Rows
variable{sl t:Addr}{Q:Value->Shared->Prop}{vl vu:Value}{hi lo:Option Int}
def lexLt:List Int->List Int->Bool
 | [],[]=>false
 | [],_::_=>true
 | _::_,[]=>false
 | x::xs,y::ys=>if x=y then lexLt xs ys else decide (x<y)
section
open PySem.SeqAt
open PySem.AutoSeq1 (wpAny_loadPart')
open PySem.MeetsSeq PySem.MeetsSeq2 PySem.MeetsSeq3
end
section
variable{prog:Program}{w:World}{A:Around}{E:Value->Shared->Prop}{s:Shared}
theorem cat_tup{b:Addr}{vs ws:List Value}(ht:IsTup s.heap t vs.toArray)(hb:IsTup s.heap b ws.toArray)(hv:vs≠[])
  (h1:ws=[]->Q (.ref t) s) (h2:ws≠[]->Q (.ref s.heap.objs.size) { s with heap:=s.heap.push { cls:=.type "tuple", data:=.seq (vs++ws).toArray } })
  (hsz:vs.length+ws.length<=sizeLine):wpAny (model prog w) A (binaryOp .Add (.ref t) (.ref b)) Q E s:=by
 obtain⟨⟨cls,dd,data,sl⟩,ho,hc,n,hd⟩:=id ht
 obtain⟨⟨cls2,dd2,data2,sl2⟩,ho2,hc2,n2,hd2⟩:=id hb
 simp only at hc hd hc2 hd2
 subst hc hd hc2 hd2
 have e:vs.toArray++ws.toArray=(vs++ws).toArray:=by simp
 by_cases hw:ws=[]
 ·exact concat_meets ⟨_,ho,rfl⟩ ⟨_,ho2,rfl⟩ noFill_tuple_add seq_tuple_add PySem.F.slot_tuple_add PySem.F.entry_tuple_add (PySem.F.args_tuple_add_2 _ _)
   (tuple_addW1 t b vs.toArray ws.toArray n n2 dd dd2 sl sl2 (by simpa using hv) (by simp[hw])) ⟨ho,ho2,h1 hw⟩
 ·refine concat_meets ⟨_,ho,rfl⟩ ⟨_,ho2,rfl⟩ noFill_tuple_add seq_tuple_add PySem.F.slot_tuple_add PySem.F.entry_tuple_add (PySem.F.args_tuple_add_2 _ _)
   (tuple_addW2 t b vs.toArray ws.toArray n n2 dd dd2 sl sl2 (by simpa using hv) (by simpa using hw) (by rw[List.size_toArray,List.size_toArray];exact hsz)) ⟨ho,ho2,?_⟩
  rw[e]
  exact h2 hw
def sIx(n d:Nat):Option Int->Nat
 | none=>d
 | some v=>if v<0 then(v+(n:Int)).toNat else min v.toNat n
theorem sIx_none(n d:Nat):sIx n d none=d:=rfl
theorem sIx_nat(n d k:Nat):sIx n d (some (k:Int))=min k n:=by
 show(if (k:Int)<0 then((k:Int)+(n:Int)).toNat else min (k:Int).toNat n)=min k n
 rw[if_neg (by omega),Int.toNat_natCast]
theorem Gz(n d:Nat)(hd:d<=n)(o:Option Int):sIx n d o<=n:=by
 cases o with
 | none=>exact hd
 | some v =>
  show(if v<0 then(v+(n:Int)).toNat else min v.toNat n)<=n
  by_cases hv:v<0
  ·rw[if_pos hv];omega
  ·rw[if_neg hv];exact Nat.min_le_right _ _
theorem vV(v:Int)(n d:Nat):(if v<0 then max (v+(n:Int)) 0 else min v (n:Int))=((sIx n d (some v):Nat):Int):=by
 show(if v<0 then max (v+(n:Int)) 0 else min v (n:Int))=(((if v<0 then(v+(n:Int)).toNat else min v.toNat n):Nat):Int)
 by_cases hv:v<0
 ·simp only[if_pos hv];omega
 ·simp only[if_neg hv];omega
theorem xi(lo hi:Option Int)(n:Nat):Builtin.Slice.sliceAdjust lo hi 1 (n:Int)=(((sIx n 0 lo:Nat):Int),((sIx n n hi:Nat):Int)):=by
 have h1:¬ ((1:Int)<0):=by omega
 unfold Builtin.Slice.sliceAdjust
 simp only[h1,if_false]
 refine Prod.ext ?_ ?_
 ·cases lo with
  | none=>rfl
  | some v=>exact vV v n 0
 ·cases hi with
  | none=>rfl
  | some v=>exact vV v n n
theorem wy(i j:Nat):Builtin.Slice.slicePlaces (i:Int) (j:Int) 1=j-i:=by
 unfold Builtin.Slice.slicePlaces
 have h1:(1:Int)>0:=by omega
 simp only[h1,if_true,Int.ediv_one]
 split<;>omega
theorem nu{v:Value}{o:Option Int}{Q:Option Int->Shared->Prop}(p:IsPart v o)(h:Q o s):wpAny (model prog w) A (Builtin.Slice.slicePartIndex v) Q E s:=by
 cases p with
 | none=>exact slicePart_none h
 | int i t=>exact slicePart_int h
theorem mC{n:Nat}{Q:Int×Int×Nat->Shared->Prop}(hs:s.heap.IsSliceOf sl vl vu .none)(pl:IsPart vl lo)(pu:IsPart vu hi)
  (h:Q (((sIx n 0 lo:Nat):Int),1,sIx n n hi-sIx n 0 lo) s):wpAny (model prog w) A (Builtin.Slice.sliceApplied (.ref sl) (pure (n:Int))) Q E s:=by
 obtain⟨os,hos,hcs,hds⟩:=id hs
 unfold Builtin.Slice.sliceApplied Builtin.Slice.sliceFields
 refine wpAny_bind (wpAny_bind (wpAny_field hos hds (x:=vl) rfl (wpAny_bind (wpAny_field hos hds (x:=vu) rfl (wpAny_bind (wpAny_field hos hds (x:=.none) rfl (wpAny_pure ?_)))))))
 refine wpAny_bind (slicePart_none ?_)
 show wpAny _ _ (if ((1:Int)==0)=true then _ else _) _ _ s
 rw[if_neg (by decide)]
 refine wpAny_bind (nu pl (wpAny_bind (nu pu (wpAny_bind (wpAny_pure ?_)))))
 show wpAny _ _ (match Builtin.Slice.sliceAdjust lo hi 1 (n:Int)with|(lo,hi)=>pure (lo,(1:Int),Builtin.Slice.slicePlaces lo hi 1)) _ _ s
 rw[xi lo hi n]
 show wpAny _ _ (pure (((sIx n 0 lo:Nat):Int),(1:Int),Builtin.Slice.slicePlaces ((sIx n 0 lo:Nat):Int) ((sIx n n hi:Nat):Int) 1)) _ _ s
 rw[wy]
 exact wpAny_pure h
theorem AO(xs:Array Value)(i k:Nat):((List.range k).filterMap fun(m:Nat)=>xs[((i:Int)+(m:Int)*1).toNat]?).toArray=((xs.toList.drop i).take k).toArray:=by
 have e:(fun(m:Nat)=>xs[((i:Int)+(m:Int)*1).toNat]?)=fun m=>xs[i+m]?:=by
  funext m
  have:((i:Int)+(m:Int)*1).toNat=i+m:=by omega
  rw[this]
 rw[e]
 have:=pick_run xs i k
 rw[List.filterMap_map]at this
 have e2:((fun x=>xs[x]?) ∘ fun x=>i+x)=fun m=>xs[i+m]?:=rfl
 rw[e2]at this
 rw[this]
theorem getItem_tuple_cut{items:Array Value}(ht:IsTup s.heap t items)(hs:s.heap.IsSliceOf sl vl vu .none)(pl:IsPart vl lo)(pu:IsPart vu hi)
  (hw:¬ (sIx items.size 0 lo=0/\sIx items.size items.size hi=items.size))
  (h:Q (.ref s.heap.objs.size) { s with heap:=s.heap.push { cls:=.type "tuple", data:=.seq ((items.toList.drop (sIx items.size 0 lo)).take (sIx items.size items.size hi-sIx items.size 0 lo)).toArray } })
  (hsz:items.size<=sizeLine):wpAny (model prog w) A (getItem (.ref t) (.ref sl)) Q E s:=by
 have htake:sizeOk (.seq ((items.toList.drop (sIx items.size 0 lo)).take (sIx items.size items.size hi-sIx items.size 0 lo)).toArray):=by
  show((items.toList.drop (sIx items.size 0 lo)).take (sIx items.size items.size hi-sIx items.size 0 lo)).toArray.size<=sizeLine
  rw[List.size_toArray,List.length_take,List.length_drop,Array.length_toList]
  omega
 have hj:sIx items.size items.size hi<=items.size:=Gz _ _ (Nat.le_refl _) hi
 obtain⟨os,hos,hcs,hds⟩:=id hs
 have hTs:s.TypeIs (.ref sl) "slice" := ⟨os,hos,hcs⟩
 unfold getItem
 try with_reducible refine wpAny_holding ?_
 first|refine wpAny_bind (wpAny_pure ?_)|skip
 refine wpAny_bind (wpAny_sequenceKey ht.typeIs (by decide) ?_)
 refine wpAny_bind (wpAny_callSpecial?_slot (name:=Str.ofString "__getitem__") ht.typeIs PyProof.Rows.slot_tuple_getitem
  (wpAny_call_entry PyProof.Rows.slot_tuple_getitem ht.typeIs entry_tuple_getitem ?_ (args_tuple_getitem _ _)))
 show wpAny _ _ (Builtin.Tuple.tupleItemsOf (.ref t) >>= _) _ _ s
 refine wpAny_bind (tupleItemsOf_ ht ?_)
 refine wpAny_bind (wpAny_typeOf hTs ?_)
 rw[if_pos (by decide)]
 refine wpAny_bind (mC hs pl pu ?_)
 have hno:¬ ((((sIx items.size 0 lo:Nat):Int)==0&&(1:Int)==1&&(sIx items.size items.size hi-sIx items.size 0 lo)==items.size)=true):=by
  intro q
  rw[Bool.and_eq_true,Bool.and_eq_true]at q
  have q1:((sIx items.size 0 lo:Nat):Int)=0:=eq_of_beq q.1.1
  have q2:sIx items.size items.size hi-sIx items.size 0 lo=items.size:=eq_of_beq q.2
  exact hw ⟨by omega,by omega⟩
 show wpAny _ _ (if (((sIx items.size 0 lo:Nat):Int)==0&&(1:Int)==1&&(sIx items.size items.size hi-sIx items.size 0 lo)==items.size)=true then _ else _) _ _ s
 rw[if_neg hno,AO]
 first
  | exact wpAny_bind (m:=Builtin.Tuple.tupleExact _) (wpAny_newObj_type (wpAny_pure ⟨_,rfl,wpAny_pure h⟩) htake)
  | exact wpAny_bind (m:=Builtin.Tuple.tupleExact _) (wpAny_newObj_type (wpAny_bind (wpAny_pure (wpAny_pure ⟨_,rfl,wpAny_pure h⟩))) htake)
  | exact wpAny_bind (wpAny_bind (m:=Builtin.Tuple.tupleExact _) (wpAny_newObj_type (wpAny_pure (wpAny_pure ⟨_,rfl,wpAny_pure h⟩)) htake))
  | exact wpAny_bind (wpAny_bind (m:=Builtin.Tuple.tupleExact _) (wpAny_newObj_type (wpAny_pure ⟨_,rfl,wpAny_pure h⟩) htake))
end
end HT
namespace L2
open PySem PySem.Spec PyProof.Rows
variable{xs:List V}{its its' us:List Value}{j n:Nat}{i:Int}{α:Type}{pins:List (Addr×Obj)}{σ:St}{H:Hp}{s:Shared}{p:Addr}
abbrev TO:=St->Hp->(Option Int->Hp->Prop)->Prop
def PO(X:Cx)(e:Option Expr)(t:TO):Prop :=
 ∀(pins:List (Addr×Obj)) (s:Shared) (σ:St) (H:Hp) (Q:Option Int->Hp->Prop),ah X pins σ H s->t σ H Q ->
  wpAny (model X.prog X.w) X.A (evalPart e X.env) (fun u s' => ∃o H',ah X pins σ H' s'/\IsPart u o/\Q o H') X.xe s
def Dq:TO:=fun _ H Q=>Q none H
def Ko(t:TE):TO:=fun σ H Q=>t σ H fun x H1 => ∃i,x=.int i/\Q (some i) H1
section
variable{X:Cx}{e:Expr}{te:TE}{lo hi:Option Expr}{tl th:TO}{pos p2:Pos}
theorem DU:PO X none Dq:=by
 intro pins s σ H Q I h
 rw[evalPart_none]
 exact wpAny_pure ⟨none,H,I,.none,h⟩
theorem DT(h:PE X e te):PO X (some e) (Ko te):=by
 intro pins s σ H Q I hw
 rw[evalPart_some]
 refine aG (h pins s σ H _ I hw) fun u s1 ⟨x,H1,I1,r1,q1⟩=>?_
 obtain⟨i,rfl,q⟩:=q1
 obtain⟨t,rfl⟩:=r1
 exact⟨some i,H1,I1,.int i t,q⟩
def C3(X:Cx)(r:V->Option Int->Option Int->Hp->VK->Prop):Prop :=
 ∀(pins:List (Addr×Obj)) (s:Shared) (σ:St) (H:Hp) (x:V) (v vl vu:Value) (lo hi:Option Int) (sl:Addr) (Q:VK),ah X pins σ H s->aX x v->s.heap.IsSliceOf sl vl vu .none->IsPart vl lo->IsPart vu hi->r x lo hi H Q ->
  ∃T id,typeLookup (.type T) "__getitem__" = pure (some (.builtin id))/\s.TypeIs v T/\wpAny (model X.prog X.w) X.A (getItem v (.ref sl)) (EP X pins σ Q) X.xe s
def Q9(r:V->Option Int->Option Int->Hp->VK->Prop)(te:TE)(tl th:TO):TE:=fun σ H Q=>te σ H fun x H1=>tl σ H1 fun l H2=>th σ H2 fun u H3=>r x l u H3 Q
theorem mH{r:V->Option Int->Option Int->Hp->VK->Prop}(hr:C3 X r)(he:PE X e te)(hl:PO X lo tl)(hu:PO X hi th):PE X (.Subscript e (.Slice lo hi none p2) pos) (Q9 r te tl th):=by
 intro pins s σ H Q I h
 refine Subscript_ (aG (he pins s σ H _ I h) fun v s1 ⟨x,H1,I1,r1,q1⟩=>?_)
 refine wpAny_Slice (aG (hl pins s1 σ H1 _ I1 q1) fun vl s2 ⟨l,H2,I2,pl,q2⟩=>aG (hu pins s2 σ H2 _ I2 q2) fun vu s3 ⟨u,H3,I3,pu,q3⟩=>?_)
 rw[evalPart_none]
 refine wpAny_pure ?_
 have I4:ah X pins σ H3 { s3 with heap:=s3.heap.push { cls:=.type "slice", data:=.fields #[vl,vu,.none] } }:=I3.kept (t':=s3.toks) fun b ob q=>Heap.get?_push_of_some _ q
 obtain⟨T,id,hT,ht,hg⟩:=hr pins { s3 with heap:=s3.heap.push { cls:=.type "slice", data:=.fields #[vl,vu,.none] } } σ H3 x v vl vu l u s3.heap.objs.size Q I4 r1 (Heap.IsSliceOf.new ..) pl pu q3
 show wpAny (model X.prog X.w) X.A (subscriptTail e (.Slice lo hi none p2) v (.ref s3.heap.objs.size)) (EP X pins σ Q) X.xe { s3 with heap:=s3.heap.push { cls:=.type "slice", data:=.fields #[vl,vu,.none] } }
 exact tail_any (ops:=[.ref s3.heap.objs.size,v]) ht hT hg (by with_unfolding_all rfl)
def i8(xs:List V)(lo hi:Option Int):List V:=(xs.drop (HT.sIx xs.length 0 lo)).take (HT.sIx xs.length xs.length hi-HT.sIx xs.length 0 lo)
theorem mm(xs:List V)(lo hi:Option Int):(i8 xs lo hi).length<=xs.length:=by
 unfold i8
 rw[List.length_take,List.length_drop]
 omega
def Nk(K:W.Frag):V->Option Int->Option Int->Hp->VK->Prop:=fun x lo hi H Q => ∃a xs,x=.ref a/\cZ K H a xs /\
 ¬ (HT.sIx xs.length 0 lo=0/\HT.sIx xs.length xs.length hi=xs.length)/\∀p,H p=none->Q (.ref p) (aM H p (.tup (i8 xs lo hi)))
theorem Ga:C3 X (Nk X.K):=by
 intro pins s σ H x v vl vu lo hi sl Q I rx hs pl pu h
 obtain⟨a,xs,rfl,hx,hw,q⟩:=h
 cases rx
 obtain⟨its,r,ht,hz⟩:=I.tuple hx
 have hlen:its.toArray.size=xs.length:=by rw[List.size_toArray];exact r.length.symm
 refine⟨"tuple", _,PyProof.Rows.slot_tuple_getitem.lookup,ht.typeIs,?_⟩
 refine HT.getItem_tuple_cut ht hs pl pu (by rw[hlen];exact hw) ?_ (by rw[hlen];exact hz)
 rw[hlen]
 refine⟨.ref s.heap.objs.size,_,I.laid (t':=s.toks) (o:=.tup (i8 xs lo hi)) (fun b ob q=>Heap.get?_push_of_some _ q) (Nat.le_refl _) ?_,rfl,q _ (I.hok.fresh (Nat.le_refl _))⟩
 exact⟨Nat.le_trans (mm xs lo hi) hz,_,(r.drop (HT.sIx xs.length 0 lo)).take (HT.sIx xs.length xs.length hi-HT.sIx xs.length 0 lo),IsTup.new _ _⟩
def rLtT(K:W.Frag):R2:=fun x y H Q => ∃a b ns ms,x=.ref a/\y=.ref b/\cZ K H a (ns.map V.int)/\cZ K H b (ms.map V.int)/\Q (.bl (HT.lexLt ns ms)) H
def KG(K:W.Frag):R2:=fun x y H Q => ∃a b xs ys,x=.ref a/\y=.ref b/\cZ K H a xs/\cZ K H b ys/\xs≠[]/\xs.length+ys.length<=sizeLine /\
 (ys=[]->Q (.ref a) H)/\(ys≠[]->∀p,H p=none->Q (.ref p) (aM H p (.tup (xs++ys))))
theorem aL.nil_iff(r:aL xs us):us=[]↔xs=[]:=by
 cases r with
 | nil=>simp
 | cons _ _=>simp
theorem D7:cv X (binaryOp .Add) (KG X.K):=by
 intro pins s σ H x y v u Q I rx ry h
 obtain⟨a,b,xs,ys,rfl,rfl,ha,hb,hx,hz,q1,q2⟩:=h
 cases rx
 cases ry
 obtain⟨its,r1,p1,_⟩:=I.tuple ha
 obtain⟨its2,r2,p2,_⟩:=I.tuple hb
 refine HT.cat_tup p1 p2 (fun z=>hx (r1.nil_iff.mp z)) (fun z=>⟨.ref a,H,I,rfl,q1 (r2.nil_iff.mp z)⟩) (fun z=>?_) (by rw[<- r1.length,<- r2.length];exact hz)
 refine⟨.ref s.heap.objs.size,_,I.laid (t':=s.toks) (o:=.tup (xs++ys)) (fun b ob q=>Heap.get?_push_of_some _ q) (Nat.le_refl _) ?_,rfl,q2 (fun w=>z (r2.nil_iff.mpr w)) _ (I.hok.fresh (Nat.le_refl _))⟩
 exact⟨by rw[List.length_append];exact hz,_,r1.append r2,IsTup.new _ _⟩
end
def ixN(n:Nat)(i:Int):Option Nat:=if 0<=i then(if i<n then some i.toNat else none)else if -(n:Int)<=i then some (i+n).toNat else none
def atI{α:Type}(xs:List α)(i:Int):Option α:=(ixN xs.length i).bind fun j=>xs[j]?
theorem vE(h:ixN n i=some j):seqIndex? i n=some j/\j<n /\ -(n:Int)<=i/\i<n:=by
 unfold ixN at h
 by_cases h0:0<=i
 ·rw[if_pos h0]at h
  by_cases h1:i<n
  ·rw[if_pos h1]at h
   have e:i.toNat=j:=Option.some.inj h
   exact⟨by rw[seqIndex_of h0 h1,e],by omega,by omega,h1⟩
  ·rw[if_neg h1]at h;cases h
 ·rw[if_neg h0]at h
  by_cases h1:-(n:Int)<=i
  ·rw[if_pos h1]at h
   have e:(i+n).toNat=j:=Option.some.inj h
   exact⟨by rw[seqIndex_neg (by omega) h1,e],by omega,h1,by omega⟩
  ·rw[if_neg h1]at h;cases h
theorem vZ{xs:List α}{v:α}(h:atI xs i=some v):∃j,seqIndex? i xs.length=some j/\xs[j]?=some v/\j<xs.length /\ -(xs.length:Int)<=i/\i<xs.length:=by
 unfold atI at h
 cases e:ixN xs.length i with
 | none=>rw[e]at h;cases h
 | some j =>
  rw[e]at h
  obtain⟨h1,h2,h3,h4⟩:=vE e
  exact⟨j,h1,h,h2,h3,h4⟩
theorem dS{xs:List α}{v:α}(h:xs[j]?=some v):atI xs (j:Int)=some v:=by
 have hj:j<xs.length:=(List.getElem?_eq_some_iff.mp h).1
 have e:ixN xs.length (j:Int)=some j:=by
  unfold ixN
  rw[if_pos (by omega),if_pos (by omega)];simp
 unfold atI;rw[e];exact h
def eg(b:Expr):Prop:=∀o i,subscripted b false o i=operate [o,i] (getItem o i)
def Db(X:Cx)(r:R2):Prop :=
 ∀(value slice:Expr) (pins:List (Addr×Obj)) (s:Shared) (σ:St) (H:Hp) (x y:V) (v u:Value) (Q:VK),ah X pins σ H s->aX x v->aX y u->r x y H Q ->
  subscripted slice false v u=operate [v,u] (getItem v u)->wpAny (model X.prog X.w) X.A (subscriptTail value slice v u) (EP X pins σ Q) X.xe s
def v5(X:Cx)(id:String)(r:V->List V->Hp->VK->Prop):Prop :=
 ∀(pins:List (Addr×Obj)) (s:Shared) (σ:St) (H:Hp) (x:V) (xs:List V) (v:Value) (us:List Value) (Q:VK),ah X pins σ H s->aX x v->aL xs us->r x xs H Q ->
  wpAny (model X.prog X.w) X.A (call (.builtin id) (v::us)) (EP X pins σ Q) X.xe s
section
variable{X:Cx}{a b:Expr}{ta tb:TE}{pos:Pos}
theorem wz{r:R2}(hr:Db X r)(ha:PE X a ta)(hb:PE X b tb)(hs:eg b):PE X (.Subscript a b pos) (BY r ta tb):=by
 intro pins s σ H Q I h
 exact Subscript_ (Bv ha hb I h fun v u s2 x y H2 I2 rx ry q=>hr a b pins s2 σ H2 x y v u Q I2 rx ry q (hs _ _))
def Nn(K:W.Frag):R2:=fun x y H Q => ∃p xs i v,x=.ref p/\y=.int i/\cm K H p xs/\atI xs i=some v/\Q v H
def Nm(K:W.Frag):R2:=fun x y H Q => ∃p xs i v,x=.ref p/\y=.int i/\cZ K H p xs/\atI xs i=some v/\Q v H
theorem Ev:Db X (Nn X.K):=by
 intro value slice pins s σ H x y v u Q I rx ry h hs
 obtain⟨p,xs,i,z,rfl,rfl,hq,he,q⟩:=h
 cases rx
 obtain⟨t,rfl⟩:=ry
 obtain⟨its,r,pl,hz⟩:=I.list hq
 obtain⟨j,h1,h2,h3,h4,h5⟩:=vZ he
 obtain⟨w,ew,rw'⟩:=r.get h2
 have hl:=r.length
 have hn:=kQ
 have fin:EP X pins σ Q w s:=⟨z,H,I,rw',q⟩
 by_cases h0:0<=i
 ·have hj:i.toNat=j:=by
   rw[seqIndex_of h0 h5]at h1
   exact Option.some.inj h1
  exact item_listR pl.isList h0 (by omega) (by rw[hj];simpa using ew) fin hs
 ·have hj:(i+(its.toArray.size:Int)).toNat=j:=by
   rw[seqIndex_neg (by omega) h4]at h1
   rw[List.size_toArray,<- hl]
   exact Option.some.inj h1
  exact subscriptTail_builtinR (x:=w) pl.isList.typeIs slot_list_getitem.lookup
   (wpAny_getItem_list_neg (Q:=fun r s'=>r=w/\EP X pins σ Q r s') pl.isList (by omega) (by rw[List.size_toArray]<;>omega) (by omega) (by rw[hj];simpa using ew) ⟨rfl,fin⟩) hs
theorem HR:Db X (Nm X.K):=by
 intro value slice pins s σ H x y v u Q I rx ry h hs
 obtain⟨p,xs,i,z,rfl,rfl,hq,he,q⟩:=h
 cases rx
 obtain⟨t,rfl⟩:=ry
 obtain⟨its,r,pl,hz⟩:=I.tuple hq
 obtain⟨j,h1,h2,h3,h4,h5⟩:=vZ he
 obtain⟨w,ew,rw'⟩:=r.get h2
 have hl:=r.length
 have hn:=kQ
 have fin:EP X pins σ Q w s:=⟨z,H,I,rw',q⟩
 exact subscriptTail_builtinR (x:=w) pl.typeIs slot_tuple_getitem.lookup
  (getItem_tuple (j:=j) (Q:=fun r s'=>r=w/\EP X pins σ Q r s') pl (by omega) (by omega) (by rw[List.size_toArray,<- hl];exact h1) (by simpa using ew) ⟨rfl,fin⟩) hs
theorem wJ(its:List Value)(n j:Nat)(u:Value):Obj.mapSeq (·.setIfInBounds j u) { cls:=.type "list", data:=.seq its.toArray n } = { cls:=.type "list", data:=.seq (its.set j u).toArray n }:=by
 simp[Obj.mapSeq]
theorem ah.lst(I:ah X pins σ H s)(h:H p=some (.lst xs)) :
  ∃(its:List Value) (n:Nat),aL xs its/\s.heap.get? p=some { cls:=.type "list", data:=.seq its.toArray n }/\xs.length<=sizeLine:=by
 obtain⟨z,its,n,r,e⟩:=I.hok p _ h
 exact⟨its,n,r,e,z⟩
theorem ah.lstUpd{ys:List V}{n':Nat}{f:Obj->Obj}(I:ah X pins σ H s)(h:H p=some (.lst xs))
  (ho:s.heap.get? p=some { cls:=.type "list", data:=.seq its.toArray n }) (hf:f { cls:=.type "list", data:=.seq its.toArray n } = { cls:=.type "list", data:=.seq its'.toArray n' }) (r:aL ys its') (hz:ys.length<=sizeLine) (t:Nat) :
  ah X pins σ (aM H p (.lst ys)) { s with heap:=s.heap.update p f,toks:=t }:=by
 have e:(s.heap.update p f).get? p=some { cls:=.type "list", data:=.seq its'.toArray n' }:=by
  rw[Heap.get?_update_self f ho (by rw[hf]<;>rfl),hf]
 refine I.write (x:=p) (e:=p) (by rw[h];trivial) (.inl rfl) (fun b u hb q=>(Heap.get?_update_other _ _ (Ne.symm hb)).trans q) ⟨_,e⟩ ?_
 exact⟨hz,its',n',r,e⟩
def KE:V->V->V->Hp->(Hp->Prop)->Prop:=fun o i v H Q => ∃p xs k j,o=.ref p/\i=.int k/\H p=some (.lst xs)/\ixN xs.length k=some j/\Q (aM H p (.lst (xs.set j v)))
theorem AC:J0 X KE:=by
 intro pins s σ H o i v ov iv u Q I ro ri rv h
 obtain⟨p,xs,k,j,rfl,rfl,hp,hj,q⟩:=h
 cases ro
 obtain⟨t,rfl⟩:=ri
 obtain⟨its,n,r,ho,hz⟩:=I.lst hp
 obtain⟨h1,h2,h3,h4⟩:=vE hj
 have hl:=r.length
 have hn:=kQ
 have I':ah X pins σ (aM H p (.lst (xs.set j v))) { s with heap:=s.heap.update p (Obj.mapSeq (·.setIfInBounds j u)) } :=
  I.lstUpd hp ho (wJ its n j u) (r.set rv j) (by rw[List.length_set];exact hz) s.toks
 by_cases h0:0<=k
 ·have hk:k.toNat=j:=by
   rw[seqIndex_of h0 h4]at h1
   exact Option.some.inj h1
  exact W.ki_setAt ho h0 (by omega) (by rw[List.size_toArray,<- hl];exact h4) (by rw[hk];exact⟨_,I',q⟩)
 ·have hk:(k+(its.toArray.size:Int)).toNat=j:=by
   rw[seqIndex_neg (by omega) h3]at h1
   rw[List.size_toArray,<- hl]
   exact Option.some.inj h1
  exact W.ki_setBack ho (by omega) (by rw[List.size_toArray,<- hl];exact h3) (by omega) (by rw[hk];exact⟨_,I',q⟩)
theorem si(lo hi:Option Int)(n:Nat):(sliceBounds lo hi none n).1=((HT.sIx n 0 lo:Nat):Int)/\(sliceBounds lo hi none n).2.1=((HT.sIx n n hi:Nat):Int)/\(sliceBounds lo hi none n).2.2=1:=by
 refine⟨?_,?_,rfl⟩
 ·cases lo with
  | none=>simp[sliceBounds,HT.sIx]
  | some i =>
   simp only[sliceBounds,HT.sIx,Option.getD_none,show(1:Int)>0 by decide,if_true]
   by_cases h:i<0
   ·simp only[h,if_true]<;>omega
   ·simp only[h,if_false]<;>omega
 ·cases hi with
  | none=>simp[sliceBounds,HT.sIx]
  | some i =>
   simp only[sliceBounds,HT.sIx,Option.getD_none,show(1:Int)>0 by decide,if_true]
   by_cases h:i<0
   ·simp only[h,if_true]<;>omega
   ·simp only[h,if_false]<;>omega
theorem qY(its:List Value)(lo hi:Option Int):slicePick its.toArray lo hi none=((its.drop (HT.sIx its.length 0 lo)).take (HT.sIx its.length its.length hi-HT.sIx its.length 0 lo)).toArray:=by
 obtain⟨h1,h2,h3⟩:=si lo hi its.toArray.size
 unfold slicePick
 rw[h1,h2,h3]
 simp only[sliceRange_one,pick_run,List.size_toArray]<;>rfl
def Nl(K:W.Frag):V->Option Int->Option Int->Hp->VK->Prop:=fun x lo hi H Q => ∃a xs,x=.ref a/\cm K H a xs/\∀p,H p=none->Q (.ref p) (aM H p (.lst (i8 xs lo hi)))
theorem Dx:C3 X (Nl X.K):=by
 intro pins s σ H x v vl vu lo hi sl Q I rx hs pl pu h
 obtain⟨a,xs,rfl,hx,q⟩:=h
 cases rx
 obtain⟨its,r,ht,hz⟩:=I.list hx
 have hlen:=r.length
 refine⟨"list", _,slot_list_getitem.lookup,ht.isList.typeIs,?_⟩
 refine wpAny_getItem_list_slice ht.isList hs pl pu .none (by simp) ?_ (by rw[List.size_toArray]<;>omega)
 rw[qY,<- hlen]
 refine⟨.ref s.heap.objs.size,_,I.laid (t':=s.toks) (o:=.lst (i8 xs lo hi)) (fun b ob q=>Heap.get?_push_of_some _ q) (Nat.le_refl _) ?_,rfl,q _ (I.hok.fresh (Nat.le_refl _))⟩
 exact⟨Nat.le_trans (mm xs lo hi) hz,_,0,(r.drop (HT.sIx xs.length 0 lo)).take (HT.sIx xs.length xs.length hi-HT.sIx xs.length 0 lo),Heap.get?_push_size _ rfl⟩
theorem li:cP X (.builtin "len") (fun xs H Q => ∃p ys,xs=[.ref p]/\(cm X.K H p ys\/cZ X.K H p ys)/\Q (.int ys.length) H):=by
 intro pins s σ H xs us Q I r h
 obtain⟨p,ys,rfl,hq,q⟩:=h
 obtain⟨u,rfl,rx⟩:=dl r
 cases rx
 have hn:=kQ
 rcases hq with hq|hq
 ·obtain⟨its,r',pl,hz⟩:=I.list hq
  have hlen:=r'.length
  exact Calls.call_len_list pl.isList (by simp only[List.size_toArray]<;>omega) ⟨.int ys.length,H,I.tok _,⟨s.toks+1,by rw[List.size_toArray,hlen]⟩,q⟩
 ·obtain⟨its,r',pl,hz⟩:=I.tuple hq
  have hlen:=r'.length
  exact len_tuple pl (by simp only[List.size_toArray]<;>omega) ⟨.int ys.length,H,I.tok _,⟨s.toks+1,by rw[List.size_toArray,hlen]⟩,q⟩
theorem ua:cP X (.builtin "len") (fun xs H Q => ∃z,xs=[.str z]/\z.length<=sizeLine/\Q (.int z.length) H):=by
 intro pins s σ H xs us Q I r h
 obtain⟨z,rfl,hz,q⟩:=h
 obtain⟨u,rfl,t,rfl⟩:=dl r
 have hn:=kQ
 exact len_str (by omega) ⟨.int z.length,H,I.tok _,⟨_,rfl⟩,q⟩
theorem ku:cP X (.type "tuple") (fun xs H Q => ∃p ys,xs=[.ref p]/\((cm X.K H p ys/\∀l,H l=none->Q (.ref l) (aM H l (.tup ys)))\/(cZ X.K H p ys/\Q (.ref p) H))):=by
 intro pins s σ H xs us Q I r h
 obtain⟨p,ys,rfl,h⟩:=h
 obtain⟨u,rfl,rx⟩:=dl r
 cases rx
 rcases h with⟨hq,q⟩|⟨hq,q⟩
 ·obtain⟨its,r',pl,hz⟩:=I.list hq
  have hlen:=r'.length
  refine call_tuple_list pl.isList (fun h' kp=>?_) (by simp only[List.size_toArray]<;>omega)
  have I1:ah X pins σ H { s with heap:=h' }:=I.kept (t':=s.toks) kp
  have I2:ah X pins σ (aM H h'.objs.size (.tup ys)) { s with heap:=h'.push { cls:=.type "tuple", data:=.seq its.toArray } } :=
   I1.laid (t':=s.toks) (fun b o e=>Heap.get?_push_of_some _ e) (Nat.le_refl _) (show bU X.prog X.w _ _ _ (.tup ys)from⟨hz,its,r',IsTup.new _ _⟩)
  exact⟨.ref h'.objs.size,_,I2,rfl,q _ (I1.hok.fresh (Nat.le_refl _))⟩
 ·obtain⟨its,r',pl,hz⟩:=I.tuple hq
  exact call_tuple_same pl ⟨.ref p,H,I,rfl,q⟩
def FP(K:W.Frag)(T:String)(x:V)(H:Hp):Prop:=match x with
  | .str _=>T = "str"
  | .int _=>T = "int"
  | .ref p=>(T = "list" /\ ∃xs,cm K H p xs)\/(T = "tuple" /\ ∃o,K.lookup p=some o/\o.cls=.type "tuple" /\ o.dict=none) \/
      (T = "dict" /\ ((∃kvs,H p=some (.dK kvs))\/∃kvs,H p=some (.dT kvs)))\/(T = "set" /\ ∃S n,H p=some (.set S n))
  | _=>False
theorem xW{T:String}{x:V}{v:Value}(I:ah X pins σ H s)(r:aX x v)(ty:FP X.K T x H) :
  s.TypeIs v T/\∀a,v=.ref a->∃ob,s.heap.get? a=some ob/\ob.dict=none:=by
 cases x with
 | str z =>
  obtain⟨t,rfl⟩:=r
  cases (show T = "str" from ty)
  exact⟨typeIs_str s z t,fun _ e=>nomatch e⟩
 | int i =>
  obtain⟨t,rfl⟩:=r
  cases (show T = "int" from ty)
  exact⟨typeIs_int s i t,fun _ e=>nomatch e⟩
 | ref p =>
  cases r
  rcases ty with⟨rfl,xs,hq⟩|⟨rfl,o,hk,hc,hd⟩|⟨rfl,hk⟩|⟨rfl,S,n,hk⟩
  ·obtain⟨its,_,pl,_⟩:=I.list hq
   refine⟨pl.isList.typeIs,fun a e=>?_⟩
   cases e
   obtain⟨o,n,e,c,hd,_⟩:=pl
   exact⟨o,e,hd⟩
  ·refine⟨⟨o,I.kIn p o hk,hc⟩,fun a e=>?_⟩
   cases e
   exact⟨o,I.kIn _ o hk,hd⟩
  ·have z:∃o,s.heap.get? p=some o/\o.ExactDict:=by
    rcases hk with⟨kvs,hk⟩|⟨kvs,hk⟩
    ·obtain⟨_,_,_,_,o,_,_,e,ex,_⟩:=I.hok p _ hk
     exact⟨o,e,ex⟩
    ·obtain⟨_,_,_,_,o,_,_,e,ex,_⟩:=I.hok p _ hk
     exact⟨o,e,ex⟩
   obtain⟨o,e,ex⟩:=z
   refine⟨⟨o,e,ex.1⟩,fun a e2=>?_⟩
   cases e2
   exact⟨o,e,ex.2.1⟩
  ·obtain⟨o,_,_,_,e,ex,_⟩:=I.hok p _ hk
   refine⟨⟨o,e,ex.1⟩,fun a e2=>?_⟩
   cases e2
   exact⟨o,e,ex.2.1⟩
 | _=>exact False.elim ty
def Ms(K:W.Frag)(T:String)(r:V->List V->Hp->VK->Prop)(to:TE):TE:=fun σ H Q=>to σ H fun x H1=>FP K T x H1/\r x [] H1 Q
def Rh(K:W.Frag)(T:String)(r:V->List V->Hp->VK->Prop)(to:TE)(t:TA):TE:=fun σ H Q=>to σ H fun x H1=>FP K T x H1/\t σ H1 fun xs H2=>r x xs H2 Q
variable{o e:Expr}{es:List Expr}{to:TE}{t:TA}{name:Str}{apos cpos:Pos}{T id:String}{r:V->List V->Hp->VK->Prop}
theorem G3(pa:PlainAttrs T)(slot:Slot T name id)(hty:typeOf (.builtin id)=pure (.type "method_descriptor"))(hm:v5 X id r)(ho:PE X o to)
  (hbase:attributeBase o name X.env (eval o X.env)=eval o X.env:=by rfl) (hline:(apos.endLine==cpos.line)=true:=by rfl):PE X (.Call (.Attribute o name apos) [] [] cpos) (Ms X.K T r to):=by
 intro pins s σ H Q I h
 refine wpAny_Call_method0_late hbase hline (aG (ho pins s σ H _ I h) fun v s1 ⟨x,H1,I1,r1,ty,q1⟩=>?_)
 obtain⟨h1,h2⟩:=xW I1 r1 ty
 exact⟨T,id,pa,slot,hty,h1,h2,Calls.callWith_builtin rfl (PySem.evalArgs_none (hm pins s1 σ H1 x [] v [] Q I1 r1 .nil q1))⟩
theorem rj(pa:PlainAttrs T)(slot:Slot T name id)(hty:typeOf (.builtin id)=pure (.type "method_descriptor"))(hm:v5 X id r)(ho:PE X o to)(ha:PA X (e::es) t)
  (hbase:attributeBase o name X.env (eval o X.env)=eval o X.env:=by rfl)
  (hfew:((backTo cpos (starEach (e::es) X.env)).all (fun x => !x.1)&&(backToKw cpos (keywordEach [] X.env)).all (fun x=>x.1.isSome)
   && decide ((e::es).length+([]:List Keyword).length+(if ([]:List Keyword).isEmpty then 0 else 1)<30))=true:=by rfl)
  (hline:(apos.endLine==cpos.line)=true:=by rfl) (hs:starEach (e::es) X.env=(false,eval e X.env)::starEach es X.env:=by rfl) (hplain:(backTo cpos (starEach es X.env)).any (·.1)=false:=by rfl) :
  PE X (.Call (.Attribute o name apos) (e::es) [] cpos) (Rh X.K T r to t):=by
 intro pins s σ H Q I h
 refine wpAny_Call_method_late hbase hfew hline rfl (aG (ho pins s σ H _ I h) fun v s1 ⟨x,H1,I1,r1,ty,q1⟩=>?_)
 obtain⟨h1,h2⟩:=xW I1 r1 ty
 refine⟨T,id,pa,slot,hty,h1,h2,?_⟩
 have hA:=ha cpos pins s1 σ H1 _ I1 q1
 rw[hs]at hA⊢
 refine Calls.callWith_builtin (by show(false || (backTo cpos (starEach es X.env)).any (·.1))=false;rw[hplain]<;>rfl) (Calls.evalArgs_plain ?_)
 exact aG hA fun us s2 ⟨vs,H2,I2,r2,q2⟩=>hm pins s2 σ H2 x vs v us Q I2 r1 r2 q2
/- xs.append(e),list.index on a module's tuple .. are v5 facts of 06m -/
end
def L8(X:Cx)(id:String)(r:V->List V->Hp->VK->Prop):Prop :=
 ∀(pins:List (Addr×Obj)) (s:Shared) (σ:St) (H:Hp) (x:V) (xs:List V) (v:Value) (us:List Value) (Q:VK),ah X pins σ H s->aX x v->aL xs us->r x xs H Q ->
  wpAny (model X.prog X.w) X.A (call (.builtin id) (v::us)) (EP X pins σ Q) X.xe s
theorem aL.one:∀{x:V} {us:List Value},aL [x] us->∃u,us=[u]/\aX x u
 | _,_,.cons r .nil=>⟨_,rfl,r⟩
theorem aL.zero:∀{us:List Value},aL [] us->us=[]
 | _,.nil=>rfl
theorem aL.reverse(h:aL xs us):aL xs.reverse us.reverse:=by
 induction h with
 | nil=>exact .nil
 | cons r t ih=>rw[List.reverse_cons,List.reverse_cons];exact aL.append ih (.cons r .nil)
section
variable{X:Cx}{l b:Addr}{ys zs:List V}
theorem ah.lset{f:Array Value->Array Value}{t':Nat}(I:ah X pins σ H s)(hH:H l=some (.lst xs))
  (e:s.heap.get? l=some { cls:=.type "list", data:=.seq its.toArray n }) (hf:f its.toArray=its'.toArray) (hv:aL ys its') (hz:ys.length<=sizeLine) :
  ah X pins σ (aM H l (.lst ys)) { s with heap:=s.heap.update l (Obj.mapSeq f),toks:=t' }:=by
 have q:=PySem.IsL.update e f
 rw[hf]at q
 refine I.write (x:=l) (e:=l) (by rw[hH];exact trivial) (.inl rfl) (fun b' u hb hu=>(Heap.get?_update_other s.heap (Obj.mapSeq f) (Ne.symm hb)).trans hu) ⟨_,q⟩ ?_
 exact⟨hz,its',_,hv,q⟩
theorem ah.lnew{t':Nat}(I:ah X pins σ H s)(hv:aL ys its)(hz:ys.length<=sizeLine) :
  ah X pins σ (aM H s.heap.objs.size (.lst ys)) { s with heap:=s.heap.push { cls:=.type "list", data:=.seq its.toArray },toks:=t' } :=
 I.laid (fun _ _ q=>Heap.get?_push_of_some _ q) (Nat.le_refl _) ⟨hz,its,0,hv,Heap.get?_push_size _ rfl⟩
theorem ah.fresh(I:ah X pins σ H s):H s.heap.objs.size=none:=I.hok.fresh (Nat.le_refl _)
theorem ah.lstM(I:ah X pins σ H s)(hH:H l=some (.lst xs)):xs.length<=sizeLine/\∃(its:List Value) (n:Nat),aL xs its/\xs.length=its.length/\s.heap.get? l=some { cls:=.type "list", data:=.seq its.toArray n }:=by
 obtain⟨z,its,n,r,e⟩:=I.hok l _ hH
 exact⟨z,its,n,r,r.length,e⟩
end
section
variable{X:Cx}
def DJ:V->List V->Hp->VK->Prop:=fun x vs H Q => ∃l xs y,x=.ref l/\vs=[y]/\H l=some (.lst xs)/\xs.length<sizeLine/\Q .non (aM H l (.lst (xs++[y])))
theorem qp:L8 X "list.append" DJ:=by
 intro pins s σ H x vs v us Q I rx rv h
 obtain⟨l,xs,y,rfl,rfl,hH,hz,q⟩:=h
 cases rx
 obtain⟨u,rfl,ru⟩:=rv.one
 obtain⟨z,its,n,r,hl,e⟩:=I.lstM hH
 refine call_meets F.slot_list_append ⟨_,e,rfl⟩ F.entry_list_append (F.args_list_append_2 _ _) (PySem.list_append l its.toArray n u (by rw[List.size_toArray];omega)) ⟨e,?_⟩
 refine⟨.non,_,I.lset (its':=its++[u]) hH e (by simp) (r.append (.cons ru .nil)) ?_,rfl,q⟩
 rw[List.length_append,List.length_singleton]
 omega
end
section
variable{prog:Program}{w:World}{A:Around}{E:Value->Shared->Prop}
set_option maxRecDepth 100000 in
end
section
variable{X:Cx}
end
end L2
namespace Att
open PySem PySem.W PySem.Calls PyProof.Rows
variable{P:Params}{h:Heap}{l:OpenLaw}{n:Nat}
theorem nM:∀(ns:List Int) (vs:List Value),WellAll P h vs (ns.map WData.int)->IntsAre vs ns:=by
 intro ns
 induction ns with
 | nil =>
  intro vs w
  rw[List.map_nil]at w
  cases w
  exact .nil
 | cons n ns ih =>
  intro vs w
  rw[List.map_cons]at w
  cases w with
  | cons a b =>
   cases a
   exact .cons _ _ (ih _ b)
theorem qk(hn:l.most=some n){args:List WData}{vals:List Value}
  (hpre:l.row.toRowW.claim.pre args=true) (hwl:WellAll P h vals args) :
  ∃a vs ns,vals=[Value.ref a]/\args=[WData.list (ns.map WData.int)]/\h.get? a=some { cls:=.type "list", data:=.seq vs.toArray }/\IntsAre vs ns/\ns.length<=n:=by
 have hsh:WShape.hasAll [] args [.list .int]=true:=(pre_splitW hpre).1
 have hc:l.pre.holds [] { args:=args }=true:=(pre_splitW hpre).2
 obtain⟨d,r,rfl,h1,h2⟩:=hasAllW_cons hsh
 obtain rfl:=hasAllW_nil h2
 obtain⟨xs,rfl,h3⟩:=hasW_list h1
 obtain⟨ns,rfl⟩:=items_int h3
 have hlen:ns.length<=n:=by
  unfold OpenLaw.pre at hc
  have h4:(WTm.not (.lt (.lit (.int (n:Int))) (.len (.arg 0)))).holds [] { args:=[.list (ns.map .int)] }=true:=by
   have h4:=(holds_andW hc).1
   rw[hn]at h4
   exact h4
  have h5:=condW_of h4 (w_not (w_lt w_lit (w_len_list (w_arg rfl))))
  rw[List.length_map]at h5
  refine Nat.le_of_not_lt fun q=>?_
  have q':(n:Int)<((ns.length:Nat):Int):=by omega
  first
   | (rw[decide_eq_true q']at h5;exact absurd h5 (by decide))
   | (simp at h5;omega)
 cases hwl with
 | cons w1 w2 =>
  cases w2
  cases w1 with
  | list ho hall=>exact⟨_,_,ns,rfl,rfl,ho,nM ns _ hall,hlen⟩
theorem qo(l:OpenLaw)(args:List WData):l.row.toRowW.claim.post args (.bool true) args=true :=
 postW_of (r:=l.row.toRowW) (X:=(true==true))
  (show WShape.has [] (.bool true) .bool=true by first|rfl|decide|simp[WShape.has,WShape.arms,WShape.armsAll])
  (show(WTm.eq .res (.lit (.bool true))).value [] { args:=args,res:=some (.bool true),after:=args }=some (.bool (true==true))from w_eq_bool (w_res rfl) w_lit) rfl
theorem attach_call{q:Program}{loose:List Str}{XP:(Str->Option Value)->Heap->Prop}{YP:World->Heap->Prop}{d:DefRec}
  (hn:l.most=some n) (hdf:d.params.defaults=[])
  (call:∀(w:World) (s₀ s₁:Shared) (mg mb:Str->Option Value) (fa:Addr) (o:Obj) (pm cd doc:Value) (a:Addr) (vs:List Value) (ns:List Int),
   Ground q loose [] XP w s₀ mg mb s₁.heap->YP w s₁.heap ->
   s₁.heap.get? fa=some o->o.data=.func (docDef d.name d.params d.body d.scope pm cd doc)->s₁.heap.CodeRec cd d.name->mg d.name=some (.ref fa) ->
   s₁.heap.get? a=some { cls:=.type "list", data:=.seq vs.toArray }->IntsAre vs ns->ns.length<=n->s₁.gens = #[] ->
   codeAny (model l.prog w) callerA (.call (.ref fa) ⟨[.ref a],[]⟩) (fun r s'=>r=.ok (.ret (.bool true))/\OldK s₁.heap s'.heap/\s'.os=s₁.os/\AllBare s'.gens) s₁) :
  WalkO q loose XP YP l.row.toRowW d [] (fun f vs=>PySem.call f vs):=by
 intro w s₀ s₁ mg mb G Y fa o pm cd doc dV kV ho hd hcd hD hmg hg args vals as hpre hlay hrd hwl hlo
 obtain rfl:dV=.none:=Dflts.none hD hdf
 obtain rfl:kV=.none:=Dflts.noKw hD
 obtain⟨a,vs,ns,rfl,rfl,hobj,hints,hlen⟩:=qk hn hpre hwl
 refine enter_call (codeAny_mono (call w s₀ s₁ mg mb fa o pm cd doc a vs ns G Y ho (fd_plain hd) hcd hmg hobj hints hlen hg) fun r s' hq=>?_)
 obtain⟨rfl,h2,h3,h4⟩:=hq
 exact⟨.inl ⟨.bool true,.bool true,[],rfl,fun _=>rfl,.bool true,qo l _,fun _=>⟨List.Pairwise.nil,fun _ hm=>(nomatch hm)⟩⟩,h2,h3,h4⟩
section
variable{prog:Program}{w:World}{A:Around}{E:Value->Shared->Prop}{s:Shared}{K:Frag}
end
end Att
namespace L2
open PySem PySem.Spec PyProof.Rows
variable{k:Nat}{x:Str}
theorem qf:∀{vs:List Value} {ns:List Int},IntsAre vs ns->aL (ns.map V.int) vs
 | _,_,.nil=>.nil
 | _,_,.cons n t h=>.cons ⟨t,rfl⟩ (qf h)
def uu(H:Hp):Prop:=∀b,H b=none\/∃o xs,H b=some (.frz o (.lst xs))
theorem sW{P:Program}{w:World}{K:W.Frag}{mg mb:Str->Option Value}{CX:iO}{fa a:Addr}{fd:FuncData}{sp:Sp}{s₁:Shared}{vs:List Value}{ns:List Int}
    (KX:K.In s₁.heap) (hns:s₁.heap.Ns mainGlobals mg) (hb:s₁.heap.Ns builtinsNs mb) (hbb:∀x:Str,x ≠ "__name__" -> mb x=bootBuiltins x) (hlim:s₁.heap.NoLimit) (hg:s₁.gens = #[])
    (ha:s₁.heap.get? a=some { cls:=.type "list", data:=.seq vs.toArray }) (hi:IntsAre vs ns) (hl:ns.length<=sizeLine) (hr:bJ k callerA)
    (F:∀base:Heap,K.In base->base.Ns mainGlobals mg->aZ P w K mg base CX k fa fd [x] sp) (hbind:∀(s:Shared) (u:Value),BindsTo s fd ⟨[u],[]⟩ [(x,u)])
    (hsp:∀H:Hp,uu H->cm K H a (ns.map V.int)->sp [.ref a] H (fun v _=>v=.bl true) fun _ _ _=>False)
    (hCX:∀H e s',CX [] H s₁ (fun _ _ _=>False) e s'->False) :
    codeAny (model P w) callerA (.call (.ref fa) ⟨[.ref a],[]⟩) (fun r s'=>r=.ok (.ret (.bool true))/\OldK s₁.heap s'.heap/\s'.os=s₁.os/\AllBare s'.gens) s₁:=by
  have rv:=qf hi
  have lenV:=hi.length
  have core:∀H:Hp,uu H->cm K H a (ns.map V.int)->cU P w H s₁.heap->(∀b,H b≠none->b=a)->(H a≠none->K.lookup a=none) ->
      codeAny (model P w) callerA (.call (.ref fa) ⟨[.ref a],[]⟩) (fun r s'=>r=.ok (.ret (.bool true))/\OldK s₁.heap s'.heap/\s'.os=s₁.os/\AllBare s'.gens) s₁:=by
    intro H hO hS hok hA hK
    have c6:∀{b:Addr} {o:Obj},s₁.heap.get? b=some o->H b=none->(jS s₁.heap H).get? b=some o:=fun e n=>Bc e n
    have noA:∀{b:Addr} {o:Obj} {es:Array DictEntry} {ep:Nat},s₁.heap.get? b=some o->o.data=.dict es ep->H b=none:=fun {b o es ep} e d=>by
      cases q:H b with
      | none=>rfl
      | some u =>
        have e':b=a:=hA b (by rw[q];simp)
        subst e'
        rw[ha]at e;cases e
        have d':Data.seq vs.toArray _=Data.dict es ep:=d
        cases d'
    have nsK:∀{b:Addr} {m:Str->Option Value},s₁.heap.Ns b m->(jS s₁.heap H).Ns b m:=fun {b m} ⟨o,es,ep,e,d,r⟩=>⟨o,es,ep,c6 e (noA e d),d,r⟩
    have hKb:K.In (jS s₁.heap H):=fun b o e=>c6 (KX b o e) (by
      cases q:H b with
      | none=>rfl
      | some u =>
        have e':b=a:=hA b (by rw[q];simp)
        subst e'
        rw[hK (by rw[q];simp)]at e;cases e)
    have hM:Mod K mg (jS s₁.heap H):=⟨hKb,nsK hns,⟨mb,nsK hb,hbb⟩,let ⟨mc,h1,h2⟩:=hlim;⟨mc,nsK h1,h2⟩⟩
    have e0:jg P w K mg (jS s₁.heap H) callerA [] s₁ H:=⟨rfl,hM,fun b o e=>D9 e,Nat.le_of_eq (zi _ _),trivial,fun b hb=>absurd (show b∈([]:List Addr)from hb) (by simp),hok,.of_eq hg⟩
    refine codeAny_mono ((F _ hKb (nsK hns)).run callerA [] s₁ H ⟨[.ref a],[]⟩ [.ref a] [.ref a] _ _ hr e0 (hbind s₁ (.ref a)) (.cons rfl .nil) (hsp H hO hS)) fun r s' h=>?_
    cases r with
    | error e=>exact(hCX H e s' h).elim
    | ok fl =>
      cases fl with
      | next=>exact False.elim h
      | brk=>exact False.elim h
      | cont=>exact False.elim h
      | ret u =>
        obtain⟨v,H',os,bare,un,hok',r',q⟩:=h
        have q':v=.bl true:=q
        subst q'
        obtain rfl:u=Value.bool true:=r'
        refine⟨rfl,OldK.of_keep fun b o e=>?_,os,bare⟩
        cases q:H b with
        | none=>exact un.keep b o e q (by intro z;exact absurd (show b∈([]:List Addr)from z) (by simp)) (by simp)
        | some u =>
          rcases hO b with z|⟨ob,xs,z⟩
          . rw[q]at z;cases z
          . have z2:=un.frzs b ob _ z
            obtain⟨e1,_⟩:=hok b _ z
            obtain⟨e2,_⟩:=hok' b _ z2
            rw[e]at e1;cases e1
            exact e2
  cases hk:K.lookup a with
  | some o =>
    have e:=KX a o hk
    rw[ha]at e
    cases e
    refine core (fun _=>none) (fun _=>.inl rfl) (.inr ⟨_,vs.toArray,_,hk,rfl,rfl,rfl,by rw[List.size_toArray,lenV];exact hl,by simpa using rv⟩) (fun b u z=>by have z':(none:Option HO)=some u:=z;cases z') (fun b z=>absurd rfl z) fun z=>absurd rfl z
  | none =>
    refine core (fun b=>if b=a then some (.frz { cls:=.type "list", data:=.seq vs.toArray } (.lst (ns.map V.int)))else none) (fun b=>?_) (.inl (.inr ⟨{ cls:=.type "list", data:=.seq vs.toArray },if_pos rfl⟩)) (fun b u z=>?_) (fun b z=>?_) fun _=>hk
    . by_cases hb:b=a
      . exact .inr ⟨_,_,if_pos hb⟩
      . exact .inl (if_neg hb)
    . by_cases hb:b=a
      . have z':=(if_pos hb).symm.trans z
        cases z'
        subst hb
        exact⟨ha,by rw[List.length_map];exact hl,vs,_,rv,ha⟩
      . have z':=(if_neg hb).symm.trans z
        cases z'
    . by_cases hb:b=a
      . exact hb
      . exact absurd (if_neg hb) z
abbrev KOf{K:W.Frag}{h:Heap}(_:K.In h):W.Frag:=K
theorem walk_of{l:W.OpenLaw}{n:Nat}{q:Program}{loose:List Str}{XP:(Str->Option Value)->Heap->Prop}{YP:World->Heap->Prop}{d:DefRec}{K:Params->W.Frag}{CX:World->iO}{sp:World->Sp}
  (hn:l.most=some n) (hn2:n<=sizeLine) (hdf:d.params.defaults=[]) (hr:bJ k callerA)
  (hY:∀(w:World) (h:Heap),YP w h->(K w.params).In h)
  (F:∀(w:World) (mg:Str->Option Value) (fa:Addr) (h:Heap),(K w.params).In h->h.Ns mainGlobals mg->mg d.name=some (.ref fa) ->
   ∃fd:FuncData,(∀(s:Shared) (u:Value),BindsTo s fd ⟨[u],[]⟩ [(x,u)]) /\
    ∀base:Heap,(K w.params).In base->base.Ns mainGlobals mg->aZ l.prog w (K w.params) mg base (CX w) k fa fd [x] (sp w))
  (hsp:∀(w:World) (H:Hp) (a:Addr) (ns:List Int),ns.length<=n->uu H->cm (K w.params) H a (ns.map V.int)->sp w [.ref a] H (fun v _=>v=.bl true) fun _ _ _=>False)
  (hCX:∀(w:World) (H:Hp) (s:Shared) (e:Value) (s':Shared),CX w [] H s (fun _ _ _=>False) e s'->False) :
  W.WalkO q loose XP YP l.row.toRowW d [] (fun f vs=>PySem.call f vs):=by
 refine Att.attach_call hn hdf fun w s₀ s₁ mg mb fa o pm cd doc a vs ns G Y ho hd hcd hmg hobj hints hlen hg=>?_
 have KX:=hY w _ Y
 obtain⟨fd,hb,hF⟩:=F w mg fa _ KX G.T.g hmg
 exact sW KX G.T.g G.T.b G.T.builtins G.T.nolimit hg hobj hints (Nat.le_trans hlen hn2) hr hF hb (fun H hO hS=>hsp w H a ns hlen hO hS) fun H e s'=>hCX w H s₁ e s'
end L2
/- THE LAST THEOREM (shape;LID,My.* are yours):
   My.Adr: a structure of the addresses that your layer names (classes,functions);My.Txt K t: a structure (Prop) of the equations over K;
   My.txt_mk:{K} {implicit addresses ..} (e1:nsIn K mainGlobals "law" = some (some (.ref f))) (e2:K.lookup f=some ⟨oc,od,.func (fnOf "law" "law" params body scope dV kV doc pm an cdv ct),sl⟩) (e3:codeIn K cdv "law" = true) ..:∃t,My.Txt K t
set_option maxRecDepth 100000 in
set_option maxHeartbeats 0 in
theorem PySem.Challenge.cw_LID_holds : PySem.Challenge.rw_LID.Holds := by
 w_on;o_law;k_head;(case hw=>w_witness2)
 k_fill
 refine L2.walk_of (l:=PySem.Challenge.rw_LID) (n:=63) (k:=40) (x := "script") (CX:=fun w=>..) (sp:=fun _=>My.sp_law) rfl (by decide) rfl ⟨rfl,by decide,by decide⟩ (fun w h Y=>PySem.W.kIn_of Y) ?F ?S ?C
 case F =>
  intro w mg fa h KX G hmg
  have T:∃t,My.Txt (L2.KOf KX) t:=by
   dsimp only[L2.KOf]                          -- K must stand as «<heap const> w.params» for k_is
   refine' My.txt_mk ?e1 ?e2 ?e3 ..
   (case e1=>PySem.W.k_is)                    -- in the order: a name->its address->its object->its parts
   (case e2=>PySem.W.k_is)
   ..
  obtain⟨t,T⟩:=T
  have e0:=hmg.symm.trans (PySem.W.mg_of KX G T.law)
  cases e0                                       -- fa is the law's own address
  exact⟨_,fun s u=>.of_eq rfl,fun base kb nb=>My.law_fn T kb nb⟩     -- if «.of_eq rfl» comes too early: refine' ⟨_,?b,fun base kb nb=>My.law_fn T kb nb⟩;exact fun s u=>.of_eq rfl
 case S=>exact fun w H a ns hl hO hS=>..
 case C=>exact ..
(the tactic k_is has no namespace: write k_is) -/
namespace L2
open PySem PySem.Spec PyProof.Rows
variable{qual x:Str}{st:Stmt}{f:Addr}{fd:FuncData}{ps:List Str}{H H':Hp}
def aU(s:Stmt):Arguments:=match s with
 | .FunctionDef _ a _ _ _ _ _ _ _ _=>a
 | _ => { posonlyargs:=[],args:=[],vararg:=none,kwonlyargs:=[],kw_defaults:=[],kwarg:=none,defaults:=[] }
def ak(s:Stmt):List Stmt:=match s with
 | .FunctionDef _ _ b _ _ _ _ _ _ _=>b
 | _=>[]
def aa(s:Stmt):Scope:=match s with
 | .FunctionDef _ _ _ _ _ _ sc _ _ _=>sc
 | _ => { kind:=.function,names:=[],isGenerator:=false,isCoroutine:=false }
abbrev cj:iO:=fun _ _ _ _ _ _=>False
abbrev E0:XK:=fun _ _ _=>False
theorem hV{X:Cx}:fB cj X E0:=fun _ _ _ _ _ _ _ h=>h.elim
structure gq(K:W.Frag)(x qual:Str)(st:Stmt)(f:Addr)(fd:FuncData):Prop where
 ex:∃(oc:Value) (od:Option Addr) (kV doc pm:Value) (an:Option Addr) (cdv ct:Value) (osl:Array (Option Value)),
  fd=W.fnOf x qual (aU st) (ak st) (aa st) .none kV doc pm an cdv ct/\K.lookup f=some ⟨oc,od,.func fd,osl⟩/\W.codeIn K cdv qual=true
 kp:W.keepIn K (.ref f)=true
section
variable{P:Program}{w:World}{K:W.Frag}{mg:Str->Option Value}{base:Heap}
theorem gq.ok{N:List Str}{k:Nat}{sp:Sp}(F:gq K x qual st f fd)(S:aF N ps (aa st))(len:∀vs H Q E,sp vs H Q E->vs.length=ps.length)
  (hbody:∀(cdv:Value) (A:Around) (outer:List Env) (s:Shared) (H:Hp) (vs:List V) (Q:VK) (E:XK),bJ k (A.deeper (envOfC qual (aa st) s.heap.objs.size f cdv))->sp vs H Q E ->
   ∃t,c5 (bV cj P w K mg base N qual (aa st) f cdv A outer s H E).nox (ak st) t/\t { nx:=fun _ H'=>Q .non H',rt:=Q } (start N vs) H):aZ P w K mg base cj (k+1) f fd ps sp:=by
 obtain⟨oc,od,kV,doc,pm,an,cdv,ct,osl,rfl,lk,hcd⟩:=F.ex
 refine rC lk hcd S len fun A outer s H vs Q E hr hsp=>?_
 obtain⟨t,h,q⟩:=hbody cdv A outer s H vs Q E hr hsp
 exact⟨t,h.nox,q⟩
theorem gq.binds(F:gq K x qual st f fd)
  (h:∀(kV doc pm:Value) (an:Option Addr) (cdv ct:Value) (us:List Value),us.length=ps.length->bindArgs (W.fnOf x qual (aU st) (ak st) (aa st) .none kV doc pm an cdv ct) ⟨us,[]⟩=pure (ps.zip us)):bH K fd ps []:=by
 obtain⟨oc,od,kV,doc,pm,an,cdv,ct,osl,rfl,lk,hcd⟩:=F.ex
 exact .all (h kV doc pm an cdv ct)
theorem bD{oc:Value}{od an:Option Addr}{osl:Array (Option Value)}{kV doc pm cdv ct:Value}(l:K.lookup f=some ⟨oc,od,.func (W.fnOf x qual (aU st) (ak st) (aa st) .none kV doc pm an cdv ct),osl⟩)
  (c:W.codeIn K cdv qual=true) (k:W.keepIn K (.ref f)=true):gq K x qual st f (W.fnOf x qual (aU st) (ak st) (aa st) .none kV doc pm an cdv ct):=⟨⟨oc,od,kV,doc,pm,an,cdv,ct,osl,rfl,l,c⟩,k⟩
end
section
variable{X:Cx}
end
def aw(H H':Hp):Prop:=∀b o,H b=some o->H' b=some o
theorem aw.refl(H:Hp):aw H H:=fun _ _ h=>h
theorem aw.trans{H1 H2:Hp}(a:aw H H1)(b:aw H1 H2):aw H H2:=fun c o h=>b c o (a c o h)
theorem aw.free(e:aw H H'){l:Addr}(h:H' l=Option.none):H l=Option.none:=by
 cases q:H l with
 | none=>rfl
 | some o =>
  rw[e l o q]at h
  cases h
theorem aw.seq{K:W.Frag}{a:Addr}{xs:List V}(e:aw H H')(h:cm K H a xs):cm K H' a xs:=by
 rcases h with(h|⟨o,h⟩)|h
 ·exact .inl (.inl (e _ _ h))
 ·exact .inl (.inr ⟨o,e _ _ h⟩)
 ·exact .inr h
end L2
set_option maxHeartbeats 4000000
namespace L2
open PySem PySem.Spec PyProof.Rows
variable{hid:List Addr}{H:Hp}{base h h1 h2:Heap}{P prog:Program}{w:World}{M:Model}{A:Around}{E R:Value->Shared->Prop}{s:Shared}{C L N S T e fI t0 x:Addr}{oI oe ox:Obj}{vs:Array Value}{Q:Unit->Shared->Prop}{env:Env}{outer:List Env}{dd od:Option Addr}{a0 v:Value}{K:W.Frag}{g:Array GenState}{d:Drawn}{os:OsState}{name q:Str}{bm bmB bs sub:List Value}{ab hdct:Bool}{sn:List Str}{col:Option Bool}{k0 k1 k2 k3 k5:Option Value}{B initId newId:String}{pos:Pos}{t:Nat}{mN:Str->Option Value}{cd:ClassData}
theorem rO{fs:List Addr}{H':Hp}(u:Un fs [] H H' h h1)(hh:∀b o,h.get? b=some o->b∈hid->b∈fs)(k:∀b o,h1.get? b=some o->b∉hid->h2.get? b=some o)
  (kf:∀b∈fs,∀o,h1.get? b=some o->∃sl,h2.get? b=some { o with slots:=sl }):Un fs [] H H' h h2:=by
 refine⟨fun b o e n hb hx=>?_,fun b o e n hb hx=>?_,u.free,fun b o e hx=>?_,u.tups,u.frzs,u.tbls⟩
 ·exact k b o (u.keep b o e n hb hx) fun z=>hb (hh b o e z)
 ·obtain⟨sl,e1⟩:=u.slot b o e n hb hx
  obtain⟨sl',e2⟩:=kf b hb _ e1
  exact⟨sl',e2⟩
 ·obtain⟨o',e1⟩:=u.there b o e hx
  by_cases z:b∈hid
  ·obtain⟨sl,e2⟩:=kf b (hh b o e z) _ e1
   exact⟨_,e2⟩
  ·exact⟨o',k b o' e1 z⟩
theorem pq(hk:cU P w H h1)(hn:∀b∈hid,H b=none)(k:∀b o,h1.get? b=some o->b∉hid->h2.get? b=some o):cU P w H h2:=fun a o e=>by
 have ne:∀b u,H b=some u->b∉hid:=fun b u e z=>by rw[hn b z]at e;cases e
 refine(hk a o e).stay (fun c v hc q=>k c v q ?_) (fun _ q=>q) fun _ _ q=>q
 rcases hc with z|z
 ·rw[z];exact ne a o e
 ·exact ne c _ z
theorem vJ{h base:Heap}:∀{l:List Env},h.FunFrames base l->∀b∈bZ l,∃o,h.get? b=some o/\∀vs,o.data ≠ .fields vs
 | [],_,b,hb=>by cases hb
 | env::l,hf,b,hb=>by
  obtain⟨h1,⟨L,o,e1,e2,e3,e4⟩,h2⟩:=hf
  unfold bZ at hb;rw[List.filterMap_cons,e1]at hb
  rcases List.mem_cons.mp hb with rfl|hb
  ·exact⟨o,e3,e4⟩
  ·exact vJ h2 b hb
def CZ(x C T:Addr)(od:Option Addr)(h:Heap):Prop:=∃oe vs oT ts a0,h.get? x=some oe/\oe.cls=.ref C/\oe.dict=od/\oe.data=.fields vs/\vs[0]?=some a0/\vs[1]?=some (.ref T)/\T≠x/\h.get? T=some oT/\oT.data=.fields ts/\ts[3]?=some .none
def bT(P:Program)(w:World):iO:=fun outer H s E e s' => ∃x C T od H',e=.ref x/\s.heap.get? x=none/\s.heap.get? T=none/\CZ x C T od s'.heap/\s'.os=s.os/\AllBare s'.gens /\
 Un (bZ outer) [] H H' s.heap s'.heap/\cU P w H' s'.heap/\H' x=none/\H' T=none/\E (.ref C) od H'
theorem yL{a:Addr}:∀{o:HO},bU P w H h a o->∃u,h.get? a=some u
 | .lst xs,x=>let ⟨_,_,_,_,e⟩:=x;⟨_,e⟩
 | .tup xs,x=>let ⟨_,_,_,o,e,_⟩:=x;⟨o,e⟩
 | .dK kvs,x=>let ⟨_,_,_,_,o,_,_,e,_⟩:=x;⟨_,e⟩
 | .dT kvs,x=>let ⟨_,_,_,_,o,_,_,e,_⟩:=x;⟨_,e⟩
 | .set S n,x=>let ⟨o,_,_,_,e,_⟩:=x;⟨_,e⟩
 | .ins C dx fs,x=>let ⟨_,_,_,e,_⟩:=x;⟨_,e⟩
 | .own y,x=>x
 | .xd fs,x=>let ⟨_,⟨_,_,_,e,_⟩,_⟩:=x;⟨_,e⟩
 | .rng lo hi,x=>let ⟨_,_,_,e⟩:=x;⟨_,e⟩
 | .frz ob u,x=>⟨_,x.1⟩
 | .tbl ps,x=>⟨_,(show h.get? a=some _ from x)⟩
 | .met f y,x=>⟨_,(show h.get? a=some _ from x)⟩
 | .ext φ,x=>x.2.1
theorem tJ{h h' base:Heap}:∀{l:List Env},h.FunFrames base l->(∀b∈bZ l,∀o,h.get? b=some o->∃sl,h'.get? b=some { o with slots:=sl })->h'.FunFrames base l
 | [],_,_=>True.intro
 | env::l,hf,hb=>by
  obtain⟨h1,⟨L,o,e1,e2,e3,e4⟩,h2⟩:=hf
  have hm:L∈bZ (env::l):=by unfold bZ;rw[List.filterMap_cons,e1];exact List.mem_cons_self
  obtain⟨sl,e5⟩:=hb L hm o e3
  refine⟨h1,⟨L,_,e1,e2,e5,e4⟩,tJ h2 fun b z=>hb b ?_⟩
  unfold bZ;rw[List.filterMap_cons,e1];exact List.mem_cons_of_mem _ z
theorem mR{oT:Obj}{ts:Array Value}(e1:s.heap.get? x=some oe)(e3:oe.data=.fields vs)(e5:vs[1]?=some (.ref T))(f1:s.heap.get? T=some oT)(f2:oT.data=.fields ts)(f3:3<ts.size)
  (h:Q () { s with heap:=s.heap.update T (Obj.mapFields fun v=>v.setIfInBounds 3 .none) }):wpAny M A (setFlight (.ref x) none) Q E s:=by
 unfold setFlight
 refine wpAny_bind (wpAny_field e1 e3 e5 ?_)
 rw[if_pos (by simp)]
 exact wpAny_setField f1 f2 f3 h
theorem yN(fs:A.frames=some (env::outer))(hf:s.heap.FunFrames base (env::outer))(hfr:env.frame=some L)
    (e1:s.heap.get? x=some oe) (e3:oe.data=.fields vs) (hsz:1<vs.size) (e5:vs[1]?=some .none\/∃T oT ts,vs[1]?=some (.ref T)/\T≠x/\s.heap.get? T=some oT/\oT.data=.fields ts/\ts[3]?=some .none)
    (h:∀h2 T',(∀b o,s.heap.get? b=some o->b≠x->vs[1]? ≠ some (.ref b)->b∉bZ (env::outer)->h2.get? b=some o)->(∀b∈bZ (env::outer),∀o,s.heap.get? b=some o->∃sl,h2.get? b=some { o with slots:=sl }) ->
      s.heap.get? T'=none->T'≠x->h2.get? x=some (Obj.mapFields (fun v=>v.setIfInBounds 1 (.ref T')) oe)->(∃oT ts,h2.get? T'=some oT/\oT.data=.fields ts/\ts[3]?=some (rawInt L))->Q () { s with heap:=h2 }):wpAny M A (noteFrame (.ref x) env) Q E s:=by
  have xf:x∉bZ (env::outer):=fun hm=>by
    obtain⟨_,o,ho,hn⟩:=Heap.FunFrames.mem hf hm
    rw[e1]at ho;cases ho
    exact hn vs e3
  have core:∀(s1:Shared) (head:Value) (hn:Bool),s1.gens=s.gens->s1.drawn=s.drawn->s1.toks=s.toks->s1.os=s.os->s1.heap.objs.size=s.heap.objs.size->s1.heap.get? x=some oe->s1.heap.FunFrames base (env::outer)->(∀b o,s.heap.get? b=some o->b≠x->vs[1]? ≠ some (.ref b)->s1.heap.get? b=some o)->(∀b∈bZ (env::outer),∀o,s.heap.get? b=some o->s1.heap.get? b=some o) ->
      wpAny M A (do
        let a <- PySem.frameOf env
        let pl <- entryPlaceOf L hn
        let b <- EntryCells.newEntry head a Value.none (rawInt L) Value.none pl
        setField (.ref x) 1 b) Q E s1:=fun s1 head hn g1 g2 g3 g4 g5 k1 k2 k3 k4=>by
    refine wpAny_bind (wpAny_frameOf_fun fs k2 hfr fun h1 so=>wpAny_bind (wpAny_entryPlaceOf fun pl hpl=>?_))
    unfold EntryCells.newEntry newFields
    refine wpAny_bind (wpAny_newObj_type ?_ (hd:=?_))
    rotate_left
    . show Array.size _<=sizeLine+2
      rw[sizeLine_eq]
      rcases hpl with rfl|⟨a,b,c,d,c9,b10,_,rfl⟩<;>simp
    have he1:h1.get? x=some oe:=(so.2.1 x xf).trans k1
    have he2:=Heap.get?_push_of_some { cls:=.type "traceback", data:=.fields ([head,.ref L,.none,rawInt L,.none]++(if pl.isEmpty then List.replicate 6 .none else pl)).toArray } he1
    have szT:h1.objs.size=s.heap.objs.size:=so.1.trans g5
    have nT:h1.objs.size≠x:=Nat.ne_of_gt (Heap.lt_size he1)
    refine wpAny_setField he2 e3 hsz ?_
    have st:(⟨s.heap,s.gens,s.drawn,s.toks,s.os⟩:Shared)=s:=rfl
    have key:=h ((h1.push { cls:=.type "traceback", data:=.fields ([head,.ref L,.none,rawInt L,.none]++(if pl.isEmpty then List.replicate 6 .none else pl)).toArray }).update x (Obj.mapFields fun v=>v.setIfInBounds 1 (.ref h1.objs.size))) h1.objs.size ?_ ?_ ?_ nT ?_ ?_
    . rw[<- g1,<- g2,<- g3,<- g4]at key;exact key
    . intro b o eb b1 b2 b3
      rw[Heap.get?_update_other _ _ (Ne.symm b1)]
      exact Heap.get?_push_of_some _ ((so.2.1 b b3).trans (k3 b o eb b1 b2))
    . intro b hb o eb
      obtain⟨sl,z⟩:=so.2.2 b o (k4 b hb o eb)
      refine⟨sl,?_⟩
      rw[Heap.get?_update_other _ _ (show x≠b from fun z=>xf (by rw[z];exact hb))]
      exact Heap.get?_push_of_some _ z
    . rw[szT]
      cases z:s.heap.get? s.heap.objs.size with
      | none=>rfl
      | some o=>exact absurd (Heap.lt_size z) (Nat.lt_irrefl _)
    . exact Heap.get?_update_self _ he2 (Obj.isFreed_of_fields (Obj.data_mapFields e3 _))
    . refine⟨{ cls:=.type "traceback", data:=.fields ([head,.ref L,.none,rawInt L,.none]++(if pl.isEmpty then List.replicate 6 .none else pl)).toArray },_,?_,rfl,by simp⟩
      rw[Heap.get?_update_other _ _ (Ne.symm nT)]
      exact Heap.get?_push_size _ rfl
  unfold noteFrame
  rw[hfr]
  dsimp only
  rcases e5 with e5|⟨T,oT,ts,e5,f0,f1,f2,f3⟩
  . refine wpAny_bind (wpAny_field e1 e3 e5 ?_)
    rw[if_neg (by simp)]
    exact core s _ _ rfl rfl rfl rfl rfl e1 hf (fun b o eb _ _=>eb) fun b _ o eb=>eb
  . refine wpAny_bind (wpAny_field e1 e3 e5 ?_)
    rw[if_pos (by simp)]
    refine wpAny_bind (wpAny_field f1 f2 f3 ?_)
    rw[if_neg (by simp[rawInt])]
    have f4:3<ts.size:=by
      rcases Nat.lt_or_ge 3 ts.size with z|z
      . exact z
      . rw[Array.getElem?_eq_none z]at f3;cases f3
    have Tf:T∉bZ (env::outer):=fun hm=>by
      obtain⟨_,o,ho,hn⟩:=Heap.FunFrames.mem hf hm
      rw[f1]at ho;cases ho
      exact hn ts f2
    refine wpAny_bind (wpAny_setField f1 f2 f4 ?_)
    refine core _ _ _ rfl rfl rfl rfl (Heap.size_update ..) ((Heap.get?_update_other _ _ f0).trans e1) ?_ ?_ ?_
    . exact tJ hf fun b hb o eb=>⟨o.slots,(Heap.get?_update_other _ _ (show T≠b from fun z=>Tf (by rw[z];exact hb))).trans eb⟩
    . intro b o eb b1 b2
      exact(Heap.get?_update_other _ _ (fun z=>b2 (by rw[e5,z]))).trans eb
    . intro b hb o eb
      exact(Heap.get?_update_other _ _ (show T≠b from fun z=>Tf (by rw[z];exact hb))).trans eb
section
variable{X:Cx}{pins:List (Addr×Obj)}{σ:St}{H':Hp}
theorem ah.frame(I:ah X pins σ H s)(hs:X.stack=X.env::X.outer):X.env.frame=some X.env.locals:=by
 rcases I.ok.stk with z|z
 ·have:=congrArg List.length (hs.symm.trans z)
  simp at this
 ·exact z.2
structure gZ(X:Cx)(hid:List Addr)(h1 h2:Heap):Prop where
 keep:∀b o,h1.get? b=some o->b∉hid->h2.get? b=some o
 up:∀b∈bZ X.stack,∀o,h1.get? b=some o->∃sl,h2.get? b=some { o with slots:=sl }
theorem gZ.trans{h3:Heap}(a:gZ X hid h1 h2)(b:gZ X hid h2 h3):gZ X hid h1 h3 :=
 ⟨fun c o e n=>b.keep c o (a.keep c o e n) n,fun c hc o e=>by
  obtain⟨sl,e1⟩:=a.up c hc o e
  obtain⟨sl',e2⟩:=b.up c hc _ e1
  exact⟨sl',e2⟩⟩
theorem qy{l:List Env}(h:env.frame=some L):bZ (env::l)=L::bZ l:=by unfold bZ;rw[List.filterMap_cons,h]
theorem oj{E:XK}(I:ah X pins σ H s)(hs:X.stack=X.env::X.outer)(hex:X.ex=[])(h1:∀b∈hid,b∈bZ X.stack\/X.s₀.heap.get? b=none)(h2n:∀b∈hid,H b=none)
  (ov:gZ X hid s.heap h2) (t:CZ x C T od h2) (hT:s.heap.get? T=none\/T∈hid) (hx:X.s₀.heap.get? x=none) (hxn:H x=none) (q:E (.ref C) od H):bT X.prog X.w X.outer X.H₀ X.s₀ E (.ref x) { s with heap:=h2 }:=by
 have hfr:=I.frame hs
 have nL:∀b o,X.s₀.heap.get? b=some o->b≠X.env.locals:=fun b o e=>Nat.ne_of_lt (Nat.lt_of_lt_of_le (Heap.lt_size e) I.ok.above)
 have ub:Un X.fs [] X.H₀ H X.s₀.heap s.heap:=by have:=I.base;rw[hex]at this;exact this
 have hf:=I.stack
 have dat:∀b∈bZ X.stack,b≠T:=fun b hb z=>by
  obtain⟨o,e,d⟩:=vJ hf b hb
  obtain⟨sl,e2⟩:=ov.up b hb o e
  obtain⟨oe,vs,oT,ts,a0,_,_,_,_,_,_,_,e7,e8,_⟩:=t
  rw[z,e7]at e2
  cases e2
  exact d ts e8
 have old:X.s₀.heap.get? T=none:=by
  cases z:X.s₀.heap.get? T with
  | none=>rfl
  | some o =>
   obtain⟨o',e⟩:=ub.there T o z (by simp)
   rcases hT with hT|hT
   ·rw[hT]at e;cases e
   ·rcases h1 T hT with h|h
    ·exact absurd rfl (dat T h)
    ·rw[h]at z;cases z
 refine⟨x,C,T,od,H,rfl,hx,old,t,I.os,I.bare,rO (hid:=hid) ub (fun b o e hb=>?_) ov.keep (fun b hb o e=>ov.up b (by rw[hs,qy hfr];exact List.mem_cons_of_mem _ hb) o e),pq I.hok h2n ov.keep,hxn,?_,q⟩
 ·rcases h1 b hb with h|h
  ·rw[hs,qy hfr]at h
   rcases List.mem_cons.mp h with h|h
   ·exact absurd h (nL b o e)
   ·exact h
  ·rw[h]at e;cases e
 ·cases z:H T with
  | none=>rfl
  | some o =>
   obtain⟨u,e⟩:=yL (I.hok T o z)
   rcases hT with hT|hT
   ·rw[hT]at e;cases e
   ·rw[h2n T hT]at z;cases z
theorem mO(fs:A.frames=some (env::outer))(hf:s.heap.FunFrames base (env::outer))(hfr:env.frame=some L)
  (e1:s.heap.get? x=some oe) (e2:oe.cls=.ref C) (e6:oe.dict=od) (e3:oe.data=.fields vs) (hsz:1<vs.size) (e4:vs[0]?=some a0) (e5:vs[1]?=some .none\/∃T oT ts,vs[1]?=some (.ref T)/\T≠x/\s.heap.get? T=some oT/\oT.data=.fields ts/\ts[3]?=some .none)
  (h:∀h2 T',(∀b o,s.heap.get? b=some o->b≠x->vs[1]? ≠ some (.ref b)->b∉bZ (env::outer)->h2.get? b=some o)->(∀b∈bZ (env::outer),∀o,s.heap.get? b=some o->∃sl,h2.get? b=some { o with slots:=sl }) ->
   s.heap.get? T'=none->CZ x C T' od h2->Q () { s with heap:=h2 }):wpAny M A (noteFrame (.ref x) env) (fun _ s2=>wpAny M A (setFlight (.ref x) none) Q E s2) E s:=by
 refine yN fs hf hfr e1 e3 hsz e5 fun h2 T' k1 k2 nT nTx ex ⟨oT,ts,f1,f2,f3⟩=>?_
 have d1:(Obj.mapFields (fun v=>v.setIfInBounds 1 (.ref T')) oe).data=.fields (vs.setIfInBounds 1 (.ref T')):=Obj.data_mapFields e3 _
 have v1:(vs.setIfInBounds 1 (.ref T'))[1]?=some (.ref T'):=by simp[hsz]
 have f4:3<ts.size:=by
  rcases Nat.lt_or_ge 3 ts.size with z|z
  ·exact z
  ·rw[Array.getElem?_eq_none z]at f3;cases f3
 refine mR (s:={ s with heap:=h2 }) ex d1 v1 f1 f2 f4 ?_
 have nT2:∀b o,s.heap.get? b=some o->T'≠b:=fun b o eb z=>by rw[<- z,nT]at eb;cases eb
 have ce:(Obj.mapFields (fun v=>v.setIfInBounds 1 (.ref T')) oe).cls=.ref C/\(Obj.mapFields (fun v=>v.setIfInBounds 1 (.ref T')) oe).dict=od:=by
  obtain⟨c,d,da,sl⟩:=oe
  simp only at e3 e2 e6
  subst e3
  exact⟨e2,e6⟩
 refine h (h2.update T' _) T' (fun b o eb b1 b2 b3=>(Heap.get?_update_other _ _ (nT2 b o eb)).trans (k1 b o eb b1 b2 b3)) (fun b hb o eb=>?_) nT ⟨_,_,_,_,a0,(Heap.get?_update_other _ _ nTx).trans ex,ce.1,ce.2,d1,?_,v1,nTx,Heap.get?_update_self _ f1 (Obj.isFreed_of_fields (Obj.data_mapFields f2 _)),Obj.data_mapFields f2 _,by simp[f4]⟩
 ·obtain⟨sl,z⟩:=k2 b hb o eb
  exact⟨sl,(Heap.get?_update_other _ _ (nT2 b o eb)).trans z⟩
 ·rw[Array.getElem?_setIfInBounds_ne (by decide)];exact e4
theorem iB{E:XK}(I:ah X pins σ H s)(hs:X.stack=X.env::X.outer)(hex:X.ex=[])(e1:s.heap.get? e=some oe)(e2:oe.cls=.ref C)(e6:oe.dict=od)(e3:oe.data=.fields vs)(hsz:1<vs.size)(e4:vs[0]?=some a0)(e5:vs[1]?=some .none)
  (n0:X.s₀.heap.get? e=none) (nH:H e=none) (q:E (.ref C) od H) :
  wpAny (model X.prog X.w) X.A (leaving X.env (.ref e)) (fun _ s''=>bT X.prog X.w X.outer X.H₀ X.s₀ E (.ref e) s'') R s:=by
 have hfr:=I.frame hs
 have fs:X.A.frames=some (X.env::X.outer):=by rw[<- hs];exact I.ok.frames
 have hf:=I.stack
 rw[hs]at hf
 refine wpAny_bind (mO (C:=C) (od:=od) fs hf hfr e1 e2 e6 e3 hsz e4 (.inl e5) fun h2 T' k1 k2 nT tr=>?_)
 have ov:gZ X (e::bZ X.stack) s.heap h2:=⟨fun b o eb nb=>k1 b o eb (fun z=>nb (by rw[z];exact List.mem_cons_self)) (by rw[e5];intro z;cases z) (fun z=>nb (List.mem_cons_of_mem _ (by rw[hs];exact z))),fun b hb o eb=>k2 b (by rw[<- hs];exact hb) o eb⟩
 refine oj (s:=s) I hs hex (fun b hb=>?_) (fun b hb=>?_) ov tr (.inl nT) n0 nH q
 ·rcases List.mem_cons.mp hb with rfl|hb
  ·exact .inr n0
  ·exact .inl hb
 ·rcases List.mem_cons.mp hb with rfl|hb
  ·exact nH
  ·exact I.stkFree b hb
theorem mh{h':Heap}{vs:List Value}{E:XK}(I:ah X pins σ H s)(hs:X.stack=X.env::X.outer)(hex:X.ex=[])(m:s.heap.MadeExcOf h' e (.ref C) vs)(q:E (.ref C) none H) :
  wpAny (model X.prog X.w) X.A (leaving X.env (.ref e)) (fun _ s''=>bT X.prog X.w X.outer X.H₀ X.s₀ E (.ref e) s'') R { s with heap:=h' }:=by
 have ub:Un X.fs [] X.H₀ H X.s₀.heap s.heap:=by have:=I.base;rw[hex]at this;exact this
 obtain⟨t,m1,m2,m3⟩:=m.there
 refine iB (s:={ s with heap:=h' }) (I.kept (t':=s.toks) m.keeps) hs hex m1 rfl rfl rfl (by simp) rfl rfl ?_ ?_ q
 ·cases z:X.s₀.heap.get? e with
  | none=>rfl
  | some o=>obtain⟨o',e'⟩:=ub.there e o z (by simp);rw[m.new]at e';cases e'
 ·cases z:H e with
  | none=>rfl
  | some o=>obtain⟨u,e'⟩:=yL (I.hok e o z);rw[m.new]at e';cases e'
theorem hW{E:XK}{e:Value}{s':Shared}(I:ah X pins σ H s)(hs:X.stack=X.env::X.outer)(hex:X.ex=[])(c:bT X.prog X.w X.stack H s E e s') :
  wpAny (model X.prog X.w) X.A (leaving X.env e) (fun _ s''=>bT X.prog X.w X.outer X.H₀ X.s₀ E e s'') R s':=by
 obtain⟨x,C,T,od,H',rfl,hx,hT,t,ho,hg,u,hk,nx,nT,q⟩:=c
 have J:ah X pins σ H' s':=I.call' (ch:=[]) ho u hk hg (fun b z=>absurd z (by simp))
 have hfr:=I.frame hs
 have ub:Un X.fs [] X.H₀ H X.s₀.heap s.heap:=by have:=I.base;rw[hex]at this;exact this
 have fs:X.A.frames=some (X.env::X.outer):=by rw[<- hs];exact I.ok.frames
 have hf:=J.stack
 rw[hs]at hf
 have old:∀b,s.heap.get? b=none->X.s₀.heap.get? b=none:=fun b hb=>by
  cases z:X.s₀.heap.get? b with
  | none=>rfl
  | some o=>obtain⟨o',e'⟩:=ub.there b o z (by simp);rw[hb]at e';cases e'
 obtain⟨oe,vs,oT,ts,a0,e1,e2,e6,e3,e4,e5,f0,f1,f2,f3⟩:=id t
 have hsz:1<vs.size:=by
  rcases Nat.lt_or_ge 1 vs.size with z|z
  ·exact z
  ·rw[Array.getElem?_eq_none z]at e5;cases e5
 refine wpAny_bind (mO (C:=C) (od:=od) fs hf hfr e1 e2 e6 e3 hsz e4 (.inr ⟨T,oT,ts,e5,f0,f1,f2,f3⟩) fun h2 T2 k1 k2 nT2 tr=>?_)
 have ov:gZ X (x::T::bZ X.stack) s'.heap h2:=⟨fun b o eb nb=>k1 b o eb (fun z=>nb (by rw[z];exact List.mem_cons_self)) (by rw[e5];intro z;injection z with z;injection z with z;exact nb (by rw[<- z];exact List.mem_cons_of_mem _ List.mem_cons_self)) (fun z=>nb (List.mem_cons_of_mem _ (List.mem_cons_of_mem _ (by rw[hs];exact z)))),fun b hb o eb=>k2 b (by rw[<- hs];exact hb) o eb⟩
 refine oj J hs hex (fun b hb=>?_) (fun b hb=>?_) ov tr (.inl nT2) (old x hx) nx q
 ·rcases List.mem_cons.mp hb with rfl|hb
  ·exact .inr (old _ hx)
  ·rcases List.mem_cons.mp hb with rfl|hb
   ·exact .inr (old _ hT)
   ·exact .inl hb
 ·rcases List.mem_cons.mp hb with rfl|hb
  ·exact nx
  ·rcases List.mem_cons.mp hb with rfl|hb
   ·exact nT
   ·exact J.stkFree b hb
end
abbrev fM:List Value:=[Value.type "ValueError", Value.type "Exception", Value.type "BaseException", Value.type "object"]
theorem im{D:Addr}(e1:h.get? x=some ox)(e2:ox.cls=.ref D):∀M,W.Looks M h (typeOf (.ref x)) (.ref D):=by
 intro M A Q E s hk hq
 unfold typeOf
 refine wpAny_bind (wpAny_loadPart (hk _ _ e1) ?_)
 rw[e2]
 exact wpAny_pure hq
theorem wR{D:Addr}{R:Result->Shared->Prop}{tp:Value}{tk:Nat}(KI:K.In h)(ty:∀M,W.Looks M h (typeOf (.ref x)) (.ref D))(hm:W.mroIn K D (.type "object")=some true)
  (hR:R (.ok (.ret (.ref D))) ⟨h,g,d,tk,os⟩):codeAny (model prog w) A (.call (.builtin "getset_descriptor.__get__") ⟨[.builtin "object.__class__", .ref x,tp],[]⟩) R ⟨h,g,d,tk,os⟩:=by
 refine codeAny_call_builtin W.KF.slot_gs.plain W.KF.entry_gs ?_
 refine W.KF.slot_gs.check _ _ _ _ _ _ _ _ ?_ (W.KF.args_gs _ _ _) ?_
 ·exact W.KF.type_class
 show wpAny _ _ (Builtin.Getset_descriptor.descrGet ⟨[.builtin "object.__class__", .ref x,tp],[]⟩) _ _ _
 unfold Builtin.Getset_descriptor.descrGet
 rw[W.dga_obj]
 refine wpAny_bind (wpAny_pure ?_)
 dsimp only
 unfold Builtin.Getset_descriptor.descrGetter
 dsimp only
 refine wpAny_bind ?_
 unfold Builtin.Getset_descriptor.descrCheckInstance
 refine wpAny_bind ?_
 unfold Builtin.Getset_descriptor.descrNameAndClass
 dsimp only
 rw[W.KF.owner_class]
 refine wpAny_pure ?_
 dsimp only
 refine wpAny_bind ?_
 unfold isInstance
 refine wpAny_bind (W.Looks.at (ty _) (W.Looks.at (W.looks_mroIn KI hm) ?_))
 rw[if_neg (by simp)]
 refine wpAny_pure ?_
 refine wpAny_pure ?_
 refine⟨Code.quiet_builtin _ (by decide +kernel),codeAny_builtin W.KF.entry_class ?_⟩
 show wpAny _ _ (Builtin.«object.__class__» ⟨[.ref x],[]⟩) _ _ _
 unfold Builtin.«object.__class__»
 dsimp only
 refine wpAny_bind ?_
 unfold shownTypeOf
 refine wpAny_bind (W.Looks.at (ty _) ?_)
 rw[if_neg (by simp)]
 refine wpAny_pure ?_
 exact wpAny_pure hR
theorem zr{D:Addr}{Q:Option Value->Shared->Prop}{nm:Str}
  (hga:W.findIn K (.ref D) "__getattribute__" = some (some (.builtin "BaseException.__getattribute__"))) (hgt:W.findIn K (.ref D) "__getattr__" = some none)
  (hf:W.findIn K (.ref D) "__class__" = some (some (.builtin "object.__class__"))) (hs:W.specialIn K (.builtin "object.__class__") "__get__" = some (some (.builtin "getset_descriptor.__get__"))) (ht:W.takesIn K (.builtin "object.__class__")=some true) (hm:W.mroIn K D (.type "object")=some true)
  (KI:K.In s.heap) (e1:s.heap.get? x=some ox) (e2:ox.cls=.ref D) (hD:s.heap.get? D=some (excClassObj nm q D N bs bm hdct sn sub ab col dd k0 k1 k2 k3 k5 newId)) (hT:OwnTailQ s.heap fM bm)
  (hq:Q (some (.ref D)) { s with toks:=s.toks+1 }):wpAny (model prog w) A (getAttr? (.ref x) "__class__") Q E s:=by
 obtain⟨h,g,d,tk,os⟩:=s
 have ty:=im e1 e2
 have lf:∀M,W.Looks M h (Builtin.ObjectAttr.find (.ref x) (.ref D) "__class__") (.bind (.builtin "getset_descriptor.__get__") (.builtin "object.__class__")):=by
  intro M A Q E s hk hq
  unfold Builtin.ObjectAttr.find
  refine wpAny_bind (W.looks_findIn KI hf A _ E s hk ?_)
  refine wpAny_bind ?_
  unfold Builtin.ObjectAttr.getOf
  refine W.looks_specialIn KI hs A _ E s hk ?_
  refine wpAny_bind ?_
  unfold Builtin.ObjectAttr.dataDescriptor?
  refine wpAny_bind (W.looks_takesIn KI ht A _ E s hk ?_)
  rw[if_pos rfl]
  refine wpAny_pure ?_
  exact W.Looks.tag (W.Looks.now) A _ E s hk hq
 unfold getAttr?
 refine wpAny_bind (wpAny_mkText ?_)
 unfold getAttrBy?
 refine wpAny_bind (wpAny_attempt ?_)
 unfold getAttrBy
 refine wpAny_holding (wpAny_bind (W.Looks.at (ty _) ?_))
 refine wpAny_bind (W.Looks.at (W.looks_findIn KI hga) ?_)
 dsimp only
 have e9:(onTheHeap (Value.ref D)&&Value.builtin "BaseException.__getattribute__" == Value.builtin "object.__getattribute__")=false:=by
  have e0:(Value.builtin "BaseException.__getattribute__" == Value.builtin "object.__getattribute__")=false:=by decide +kernel
  rw[e0,Bool.and_false]
 rw[e9]
 rw[if_neg (by simp)]
 unfold getAttrByItsOwn
 refine wpAny_bind (W.Looks.at (W.looks_hook KI (r:=none) (by show(if true=true then W.findIn K (.ref D) "__getattr__" else some none)=some none;rw[if_pos rfl];exact hgt)) ?_)
 refine wpAny_bind (wpAny_attempt (wpAny_holding ?_))
 unfold callGetattribute
 rw[if_neg (by simp)]
 unfold boundAndCalled
 rw[(PySem.F.attrBase_ValueError.toExcAttrFacts.ga).bind]
 refine wpAny_bind (wpAny_pure ?_)
 refine wpAny_call (codeAny_call_builtin (PySem.F.attrBase_ValueError.toExcAttrFacts.ga).plain PySem.F.entry_bexc_ga ?_)
 refine wpAny_check_ga_own PySem.F.attrBase_ValueError hD hT e1 e2 ?_
 show wpAny _ _ (Builtin.«object.__getattribute__» ⟨[Value.ref x,Value.str "__class__" tk],[]⟩) _ _ _
 unfold Builtin.«object.__getattribute__»
 refine wpAny_bind ?_
 unfold slotArgs
 dsimp only
 rw[if_neg (by simp),if_neg (by simp)]
 refine wpAny_pure ?_
 dsimp only
 refine wpAny_bind ?_
 unfold Builtin.ObjectAttr.attrName
 refine wpAny_pure ?_
 refine wpAny_bind (W.Looks.at (ty _) ?_)
 refine wpAny_bind (W.Looks.at (lf _) ?_)
 dsimp only
 unfold Builtin.ObjectAttr.bindTo
 dsimp only
 refine wpAny_bind (wpAny_holding (wpAny_call (wR KI ty hm ?_)))
 refine wpAny_pure ?_
 refine W.handed_on rfl ?_
 exact wpAny_pure hq
def F4:Value->Bool
 | .str _ _=>true
 | _=>false
def o7(K:W.Frag)(N:Addr):Bool :=
 match K.lookup N with
 | some ⟨_,_,.dict es _,_⟩=>es.toList.all (fun e=>F4 e.key)&&quietNames.all fun n=>(nsFind es n).isNone
 | _=>false
def mF(K:W.Frag)(N:Addr):Bool :=
 match K.lookup N with
 | some ⟨_,_,.dict es _,_⟩=>es.toList.all (fun e=>F4 e.key)
 | _=>false
def sJ(K:W.Frag)(N:Addr):Option Value :=
 match K.lookup N with
 | some ⟨_,_,.dict es _,_⟩=>nsFind es "__init__"
 | _=>none
def fC(K:W.Frag)(C:Addr):Option Value :=
 match K.lookup C with
 | some ⟨_,_,.cls cd,_⟩=>sJ K cd.ns
 | _=>none
def Hr(sl:Array (Option Value)):Bool :=
 match sl.toList with
 | [_,_,_,_,some (.builtin id),_]=>id == "ValueError.__new__"
 | _=>false
def i7(K:W.Frag)(C S:Addr):Bool :=
 match K.lookup C,K.lookup S with
 | some ⟨.type t,_,.cls cd,sl⟩,some ⟨_,_,.cls ce,_⟩=>t == "type" && Hr sl&&(cd.mro == .ref C :: .ref S::fM) && !cd.hasDel&&mF K cd.ns&&o7 K ce.ns
 | _,_=>false
theorem AI(q:o7 K N=true)(KI:K.In h):∃mN,h.Ns N mN/\∀n∈quietNames,mN n=none:=by
 unfold o7 at q
 split at q
 ·rename_i c d es ep sl e
  rw[Bool.and_eq_true]at q
  refine⟨nsFind es,⟨_,es,ep,KI _ _ e,rfl,fun x hx=>?_,fun _=>rfl⟩,fun n hn=>?_⟩
  ·have:=List.all_eq_true.mp q.1 x (by simpa using hx)
   cases hk:x.key with
   | str n t=>exact⟨n,t,rfl⟩
   | _=>rw[hk]at this;cases this
  ·have:=List.all_eq_true.mp q.2 n hn
   simpa using this
 ·cases q
theorem yz(q:mF K N=true)(KI:K.In h):∃mN,h.Ns N mN/\mN "__init__" = sJ K N:=by
 unfold mF at q
 unfold sJ
 split at q
 ·rename_i c d es ep sl e
  refine⟨nsFind es,⟨_,es,ep,KI _ _ e,rfl,fun x hx=>?_,fun _=>rfl⟩,rfl⟩
  have:=List.all_eq_true.mp q x (by simpa using hx)
  cases hk:x.key with
  | str n t=>exact⟨n,t,rfl⟩
  | _=>rw[hk]at this;cases this
 ·cases q
theorem fF(q:i7 K C S=true)(KI:K.In h) :
  ∃nm qn N bs hdct sn sub ab col dd k0 k1 k2 k3 k5 mN,h.get? C=some (excClassObj nm qn C N bs (.ref S::fM) hdct sn sub ab col dd k0 k1 k2 k3 k5 "ValueError.__new__")/\h.Ns N mN/\mN "__init__" = fC K C/\OwnTailQ h fM (.ref S::fM):=by
 unfold i7 at q
 split at q
 ·rename_i t d1 cd sl c2 d2 ce sl2 e1 e2
  simp only[Bool.and_eq_true]at q
  obtain⟨⟨⟨⟨⟨q1,q2⟩,q3⟩,q4⟩,q5⟩,q6⟩:=q
  have q1:t = "type" := by simpa using q1
  subst q1
  replace q3:cd.mro=.ref C :: .ref S::fM:=by simpa using q3
  replace q4:cd.hasDel=false:=by simpa using q4
  obtain⟨mN,n1,n2⟩:=yz q5 KI
  obtain⟨mS,m1,m2⟩:=AI q6 KI
  unfold Hr at q2
  split at q2
  ·rename_i k0 k1 k2 k3 id k5 es
   have q2:id = "ValueError.__new__" := by simpa using q2
   subst q2
   have es:sl = #[k0,k1,k2,k3,some (.builtin "ValueError.__new__"),k5]:=by
    have:=congrArg List.toArray es
    simpa using this
   subst es
   have g1:=KI _ _ e1
   have g2:=KI _ _ e2
   obtain⟨f1,f2,f3,f4,f5,f6,f7,f8,f9,f10,f11⟩:=cd
   simp only at q3 q4 n1
   subst q3 q4
   exact⟨_,_,_,_,_,_,_,_,_,_,_,_,_,_,_,mN,g1,n1,by rw[n2];unfold fC;rw[e1],.own g2 m1 m2 .base⟩
  ·cases q2
 ·cases q
structure gr(K:W.Frag)(C S:Addr):Prop where
 ex:i7 K C S=true
 ga:W.findIn K (.ref C) "__getattribute__" = some (some (.builtin "BaseException.__getattribute__"))
 gt:W.findIn K (.ref C) "__getattr__" = some none
 cl:W.findIn K (.ref C) "__class__" = some (some (.builtin "object.__class__"))
 sp:W.specialIn K (.builtin "object.__class__") "__get__" = some (some (.builtin "getset_descriptor.__get__"))
 tk:W.takesIn K (.builtin "object.__class__")=some true
 mo:W.mroIn K C (.type "object")=some true
theorem gr.is(e:gr K C S):∃cd,W.clsIn K C=some cd:=by
 have:=e.mo
 unfold W.mroIn at this
 cases h:W.clsIn K C with
 | none=>rw[h]at this;cases this
 | some cd=>exact⟨cd,rfl⟩
def JT(x C:Addr)(h:Heap):Prop:=∃o,h.get? x=some o/\o.cls=.ref C
theorem mP(e:gr K C S):W.KitX K (.ref x) (.ref C) (JT x C):=by
 obtain⟨cd,hcd⟩:=e.is
 refine⟨fun M h KI ⟨o,e1,e2⟩=>?_,fun M h KI _=>?_,fun h tp dd its n sl KI ht=>?_,fun {prog w A E Q s} KI ⟨o,e1,e2⟩ hq=>?_⟩
 ·exact im e1 e2 M
 ·obtain⟨nm,qn,N,bs,hdct,sn,sub,ab,col,dd,k0,k1,k2,k3,k5,mN,g1,g2,g3,g4⟩:=fF e.ex KI
  intro A Q E s hk hq
  unfold isType
  refine wpAny_bind (wpAny_loadPart (hk _ _ g1) ?_)
  exact wpAny_pure hq
 ·obtain⟨nm,qn,N,bs,hdct,sn,sub,ab,col,dd,k0,k1,k2,k3,k5,mN,g1,g2,g3,g4⟩:=fF e.ex KI
  rw[beq_eq_false_iff_ne]
  intro z
  injection z with z
  rw[<- z,g1]at ht
  injection ht with ht
  injection ht with h1
  injection h1 with h1
  exact absurd h1 (by decide)
 ·obtain⟨nm,qn,N,bs,hdct,sn,sub,ab,col,dd,k0,k1,k2,k3,k5,mN,g1,g2,g3,g4⟩:=fF e.ex KI
  exact zr e.ga e.gt e.cl e.sp e.tk e.mo KI e1 e2 g1 g4 hq
theorem zZ(S:Addr):(Value.ref S::fM).contains (.type "BaseException")=true:=by
 rw[List.contains_cons,show fM.contains (Value.type "BaseException")=true by decide +kernel,Bool.or_true]
section
variable{X:Cx}{pins:List (Addr×Obj)}{σ:St}
theorem mE{x:Str}{np cpos:Pos}{e:Expr}{t:TA}{Q:Flow->Shared->Prop}(I:ah X pins σ H s)(hc:X.calm=true)(hg:Gl X x)(hm:X.mg x=some (.ref C))(hx:gr X.K C S)(hin:fC X.K C=none)(hdb:(x==("__debug__" : Str))=false)
  (ha:PA X [e] t) (hn:(backTo cpos (starEach [e] X.env)).any (·.1)=false) (he:starEach [e] X.env=[(false,eval e X.env)])
  (h:t σ H fun vs H1=>vs.length<=sizeLine/\∀s1 h' a us,ah X pins σ H1 s1->s1.heap.MadeExcOf h' a (.ref C) us->X.xe (.ref a) { s1 with heap:=h' }) :
  wpAny (model X.prog X.w) X.A (exec (.Raise (some (.Call (.Name x np) [e] [] cpos)) none pos) X.env) Q X.xe s:=by
 obtain⟨nm,qn,N,bs,hdct,sn,sub,ab,col,dd,k0,k1,k2,k3,k5,mN,g1,g2,g3,g4⟩:=fF hx.ex I.ok.mod.kin
 refine wpAny_Raise_call_subT (nm:=nm) (q:=qn) (N:=N) (bs:=bs) (bm:=.ref S::fM) (hdct:=hdct) (sn:=sn) (sub:=sub) (ab:=ab) (col:=col) (dd:=dd) (k0:=k0) (k1:=k1) (k2:=k2) (k3:=k3) (k5:=k5) PySem.F.excBase_ValueError (zZ S) (I.ok.hd hc) hn (g3.trans hin) (cJ I hg hm ⟨rfl,?_⟩ hdb)
 have key:=ha cpos pins s σ H _ I h
 rw[he]at key⊢
 obtain⟨y,ey⟩:∃y,backTo cpos [(false,eval e X.env)]=[(false,y)]:=⟨_,rfl⟩
 rw[ey]at key⊢
 refine PySem.Calls.evalArgs_plain (aG key fun us s1 ⟨vs,H1,I1,r,hl,q⟩=>?_)
 obtain⟨o,es,ep,e1,e2,e3,e4⟩:=g2
 exact⟨rfl,by rw[<- r.length];exact hl,I1.bk _ _ g1,⟨o,es,ep,I1.bk _ _ e1,e2,e3,e4⟩,(OwnTailQ.tail g4).keeps I1.bk,fun h' a m=>q s1 h' a us I1 m⟩
end
section
variable{X:Cx}{pins:List (Addr×Obj)}{σ:St}{H':Hp}
theorem EE{i:Nat}{n:Str}(I:ah X pins σ H s)(hN:X.N.Nodup)(hi:X.N[i]?=some n)(hk:X.env.scope.names.lookup n=some .local)
  (h:∀s',ah X pins (σ.set i none) H s'->Q () s'):wpAny M A (do bindName X.env n .none;unbindBehindTheSuite X.env n pos) Q E s:=by
 obtain⟨m,hn,hl⟩:=id I.loc
 have hcls:(X.env.scope.kind == .class || (X.env.scope.kind == .module&&X.env.locals != X.env.globals))=false:=by rw[I.ok.kind];rfl
 have hiσ:i<σ.length:=by rw[I.len];exact(List.getElem?_eq_some_iff.mp hi).1
 have cne:=I.cne
 refine wpAny_nameGoes_keeps hk hn hcls fun h' v hn' hs=>?_
 obtain⟨oL,_,_,hoL,_⟩:=id hn
 refine h _ ⟨I.ok,I.os,I.bare,⟨fun b o e n hb hx=>?_,fun b o e n hb hx=>?_,I.base.free,fun b o e hx=>?_,I.base.tups,I.base.frzs,I.base.tbls⟩,⟨_,hn',fun j y v' e1 e2 e3=>?_⟩,fun y c e=>?_,I.free,I.freeC,fun p hp=>?_,fun b ob e=>?_,by simpa using I.len⟩
 ·exact(hs.2 b (Nat.ne_of_lt (Nat.lt_of_lt_of_le (Heap.lt_size e) I.ok.above))).trans (I.base.keep b o e n hb hx)
 ·obtain⟨sl,e1⟩:=I.base.slot b o e n hb hx
  exact⟨sl,(hs.2 b (Nat.ne_of_lt (Nat.lt_of_lt_of_le (Heap.lt_size e) I.ok.above))).trans e1⟩
 ·obtain⟨o',e1⟩:=I.base.there b o e hx
  exact⟨o',(hs.2 b (Nat.ne_of_lt (Nat.lt_of_lt_of_le (Heap.lt_size e) I.ok.above))).trans e1⟩
 ·by_cases hj:j=i
  ·subst hj
   rw[List.getElem?_set_self hiσ]at e2
   cases e2
  ·rw[List.getElem?_set_ne (Ne.symm hj)]at e2
   obtain⟨u',r',q⟩:=hl j y v' e1 e2 e3
   refine⟨u',r',?_⟩
   rcases q with⟨k,e⟩|⟨k,c,e,z⟩
   ·refine .inl ⟨k,?_⟩
    have:y≠n:=fun e=>hj (iw hN e1 (e ▸ hi))
    simp[this,e]
   ·exact .inr ⟨k,c,e,z.sameBut hs (cne y c e)⟩
 ·obtain⟨w',z⟩:=I.cell y c e
  exact⟨w',z.sameBut hs (cne y c e)⟩
 ·obtain⟨e,n,ne,nf,d⟩:=I.pin p hp
  exact⟨(hs.2 p.1 ne).trans e,n,ne,nf,d⟩
 ·refine(I.hok b ob e).stay (fun c w' hc q=>(hs.2 c ?_).trans q) (fun _ q=>q) fun _ _ q=>q
  rintro rfl
  rcases hc with rfl|hc
  ·rw[I.free]at e;cases e
  ·rw[I.free]at hc;cases hc
abbrev Cx.mark(X:Cx)(e:Value):Cx:={ X with A:=X.A.mark (some e),calm:=false,xe:=fun _ _=>False }
theorem Cx.Ok.mark(ok:X.Ok)(e:Value):(X.mark e).Ok:=⟨ok.mod,ok.kind,ok.glob,ok.blt,ok.above,ok.inj,ok.has,ok.cab,(fun z=>by cases z),ok.frames,ok.stk,ok.exf,ok.bs,ok.bsz,ok.noex,ok.exfs,ok.funs,ok.frf⟩
theorem ah.mark(I:ah X pins σ H s)(e:Value):ah (X.mark e) pins σ H s:=⟨I.ok.mark e,I.os,I.bare,I.base,I.loc,I.cell,I.free,I.freeC,I.pin,I.hok,I.len⟩
theorem ah.unmark{e:Value}(ok:X.Ok)(I:ah (X.mark e) pins σ H s):ah X pins σ H s:=⟨ok,I.os,I.bare,I.base,I.loc,I.cell,I.free,I.freeC,I.pin,I.hok,I.len⟩
abbrev iV(x C:Addr)(od:Option Addr):HO:=.ext (fun h => ∃o vs,h.get? x=some o/\o.cls=.ref C/\o.dict=od/\o.data=.fields vs)
theorem Iy{o:Obj}(e1:h.get? x=some o)(e2:o.cls=.ref C)(e3:o.dict=od)(e4:o.data=.fields vs):bU P w H h x (iV x C od) :=
 ⟨⟨o,vs,e1,e2,e3,e4⟩,⟨o,e1⟩,fun h1 h2 ⟨o',vs',a,b,c,d⟩ k=>⟨o',vs',k o' a,b,c,d⟩⟩
theorem Kj{o:HO}(hk:cU P w H h)(hn:H x=none)(ho:bU P w (aM H x o) h x o):cU P w (aM H x o) h:=fun a u e=>by
 by_cases z:a=x
 ·subst z
  rw[aI]at e;cases e
  exact ho
 ·rw[ay z]at e
  exact(hk a u e).stay (fun _ _ _ q=>q) (fun b q=>by rw[ay (aV q hn)];exact q) fun b xs q=>by rw[ay (aV q hn)];exact q
end
theorem nl{nm:Str}
  (F:ExcBaseFacts B newId initId bmB) (ht:OwnTail h bmB bm) {rest:List Value} {Q:PySem.Fin->Shared->Prop} (hC:h.get? C=some (excClassObj nm q C N bs bm hdct sn sub ab col dd k0 k1 k2 k3 k5 newId)) (hn:h.Ns N mN) (hi:mN "__init__" = some (.ref fI)) (hfI:h.get? fI=some oI) (hfc:oI.cls=.type "function")
  (hq:∀h' e,h.objs.size<=e->h.MadeExcOf h' e (.ref C) rest->wpAny (model prog w) A (call (.ref fI) (.ref e::rest)) (fun r s'=>r=.none/\Q (.done (.ret (.ref e))) s') E ⟨h',g,d,t,os⟩) (hrest:rest.length<=sizeLine) :
  wpAny (model prog w) A (Builtin.«type.__call__» ⟨.ref C::rest,[]⟩) Q E ⟨h,g,d,t,os⟩:=by
 unfold Builtin.«type.__call__»
 dsimp only
 refine wpAny_ite_false rfl ?_
 refine wpAny_bind ?_
 unfold mroOf
 refine wpAny_bind ?_
 unfold classData
 refine wpAny_bind (wpAny_load' hC (wpAny_pure (wpAny_pure ?_)))
 refine wpAny_ite_false rfl ?_
 refine wpAny_bind (wpAny_madeBy_exc hC ?_)
 refine wpAny_bind (wpAny_pure ?_)
 refine wpAny_bind (wpAny_holding (wpAny_call (codeAny_call_builtin_code (Code.quiet_builtin ⟨.ref C::rest,[]⟩ F.quiet) (wpAny_check_new_subT F ht hC (codeAny_exc_new_subT F ht hC ?_ hrest)))))
 have kp:∀b o,h.get? b=some o->((h.push { cls:=.type "tuple", data:=.seq rest.toArray }).push { cls:=.ref C,data:=.fields #[.ref h.objs.size,.none,.none,.none,.bool false,.none] }).get? b=some o:=fun b o e=>Heap.get?_push_of_some _ (Heap.get?_push_of_some _ e)
 have hget:((h.push { cls:=.type "tuple", data:=.seq rest.toArray }).push { cls:=.ref C,data:=.fields #[.ref h.objs.size,.none,.none,.none,.bool false,.none] }).get? (h.objs.size+1)=some { cls:=.ref C,data:=.fields #[.ref h.objs.size,.none,.none,.none,.bool false,.none] }:=Heap.get?_push_at (by simp) rfl
 have m:h.MadeExcOf ((h.push { cls:=.type "tuple", data:=.seq rest.toArray }).push { cls:=.ref C,data:=.fields #[.ref h.objs.size,.none,.none,.none,.bool false,.none] }) (h.objs.size+1) (.ref C) rest:=⟨kp,Heap.get?_none_of_le (Nat.le_succ _),h.objs.size,hget,Heap.get?_none_of_le (Nat.le_refl _),Heap.get?_push_of_some _ (Heap.get?_push_at rfl rfl)⟩
 have hcC:(Value.ref C::bm).contains (.ref C)=true:=by simp
 generalize hh:(h.push { cls:=.type "tuple", data:=.seq rest.toArray }).push { cls:=.ref C,data:=.fields #[.ref h.objs.size,.none,.none,.none,.bool false,.none] }=h1 at *
 refine wpAny_bind (E:=E) ?_
 unfold isInstance
 refine wpAny_bind ?_
 unfold typeOf
 refine wpAny_bind (wpAny_loadPart_at hget ?_)
 refine wpAny_pure ?_
 refine wpAny_isSubtype_exc (kp _ _ hC) ?_
 rw[hcC]
 refine wpAny_ite_false rfl ?_
 refine wpAny_bind (wpAny_holding ?_)
 unfold callSpecial?
 refine wpAny_bind ?_
 unfold specialOf
 refine wpAny_bind ?_
 unfold typeOf
 refine wpAny_bind (wpAny_loadPart_at hget ?_)
 refine wpAny_pure ?_
 have ht1:OwnTail h1 bmB bm:=ht.keeps kp
 have hn1:h1.Ns N mN:=by obtain⟨o,es,ep,a,b⟩:=hn;exact⟨o,es,ep,kp _ _ a,b⟩
 refine wpAny_typeLookup_tail (kp _ _ hC) hn1 ht1 F.mroIs F.init.lookup ?_
 rw[hi]
 dsimp only
 refine wpAny_holding (wpAny_bind ?_)
 unfold bindSpecial
 refine wpAny_bind (wpAny_typeOf ⟨oI,kp _ _ hfI,hfc⟩ ?_)
 rw[if_pos (by decide)]
 refine wpAny_pure (wpAny_bind (wpAny_mono (hq h1 _ (Nat.le_succ _) m) (fun r s' hr=>?_) (fun _ _ z=>z)))
 obtain⟨rfl,hQ⟩:=hr
 refine wpAny_pure ?_
 dsimp only
 rw[if_neg (by simp)]
 exact wpAny_pure hQ
theorem wV{nm:Str}
  (F:ExcBaseFacts B newId initId bmB) (ht:OwnTail h bmB bm) {rest:List Value} {Q:Value->Shared->Prop} (hC:h.get? C=some (excClassObj nm q C N bs bm hdct sn sub ab col dd k0 k1 k2 k3 k5 newId)) (hn:h.Ns N mN) (hi:mN "__init__" = some (.ref fI)) (hfI:h.get? fI=some oI) (hfc:oI.cls=.type "function")
  (hq:∀h' e,h.objs.size<=e->h.MadeExcOf h' e (.ref C) rest->wpAny (model prog w) (A.under (.builtin "type.__call__" ⟨.ref C::rest,[]⟩)) (call (.ref fI) (.ref e::rest)) (fun r s'=>r=.none/\Q (.ref e) s') E ⟨h',g,d,t,os⟩) (hrest:rest.length<=sizeLine) :
  wpAny (model prog w) A (call (.ref C) rest) Q E ⟨h,g,d,t,os⟩:=by
 have f1:=tc_lookup
 have f2:=tc_bind (.ref C)
 have hT:Shared.TypeIs ⟨h,g,d,t,os⟩ (.ref C) "type" := ⟨_,hC,rfl⟩
 refine wpAny_call (codeAny_of_tree ?_)
 refine wpAny_bind (wpAny_load' hC ?_)
 refine wpAny_bind (wpAny_specialOf hT f1 ?_)
 refine wpAny_bind (wpAny_of_eq f2 ?_)
 refine wpAny_bind ?_
 refine wpAny_pure (wpAny_ite_true rfl ?_)
 refine wpAny_pure ⟨rfl,codeAny_call_builtin_at (Code.quiet_builtin ⟨.ref C::rest,[]⟩ (by decide +kernel)) entry_typeCall (wpAny_check_type_call_sub hC (nl F ht hC hn hi hfI hfc (fun h' e hl hm=>hq h' e hl hm) hrest))⟩
theorem ww{nm:Str}{x:Sem Value}{Q:Flow->Shared->Prop}
  (hbase:bm.contains (.type "BaseException")=true) (hh:A.handled=none)
  (h:wpAny M A x (fun v s₁ => ∃e oe vs,v=.ref e/\s₁.heap.get? C=some (excClassObj nm q C N bs bm hdct sn sub ab col dd k0 k1 k2 k3 k5 newId)/\s₁.heap.get? e=some oe/\oe.cls=.ref C/\oe.data=.fields vs/\vs[1]?=some .none/\E (.ref e) s₁) E s):wpAny M A (raiseStmt env (some x) none) Q E s:=by
 have hcB:(Value.ref C::bm).contains (.type "BaseException")=true:=by rw[List.contains_cons,hbase,Bool.or_true]
 unfold raiseStmt
 dsimp only
 refine wpAny_bind (wpAny_mono h (fun v s1 h1=>?_) (fun _ _ z=>z))
 obtain⟨e,oe,vs,rfl,hC,he,e2,e3,e5,hE⟩:=h1
 obtain⟨hp,g,d,tk,os⟩:=s1
 obtain⟨oc,od,oda,osl⟩:=oe
 simp only at e2 e3
 subst e2 e3
 refine wpAny_bind (wpAny_pure ?_)
 refine wpAny_bind (wpAny_holding ?_)
 unfold excFromValue
 refine wpAny_bind ?_
 unfold isExcClass
 refine wpAny_bind ?_
 unfold isType
 refine wpAny_bind (wpAny_loadPart_at he (wpAny_pure ?_))
 refine wpAny_ite_false rfl (wpAny_pure ?_)
 refine wpAny_ite_false rfl ?_
 refine wpAny_bind ?_
 unfold isInstance
 refine wpAny_bind ?_
 unfold typeOf
 refine wpAny_bind (wpAny_loadPart_at he (wpAny_pure ?_))
 refine wpAny_isSubtype_exc hC ?_
 rw[hcB]
 refine wpAny_ite_true rfl (wpAny_pure ?_)
 dsimp only
 refine wpAny_bind ?_
 refine wpAny_bind (wpAny_loadPart_at he (wpAny_pure ?_))
 refine wpAny_ite_false rfl ?_
 refine wpAny_bind ?_
 unfold raisedInstance
 refine wpAny_bind ?_
 unfold typeOf
 refine wpAny_bind (wpAny_loadPart_at he (wpAny_pure ?_))
 refine wpAny_bind ?_
 refine wpAny_bind (wpAny_loadPart_at hC (wpAny_pure ?_))
 refine wpAny_ite_true rfl (wpAny_pure ?_)
 refine wpAny_bind ?_
 unfold setFlight
 refine wpAny_bind (wpAny_field he rfl e5 ?_)
 refine wpAny_ite_false rfl (wpAny_pure ?_)
 exact wpAny_raiseNew_none hh hE
theorem D3{R:Result->Shared->Prop}{od:Option Obj}{tk:Tok}(X:K.In s.heap)(I:W.InstAt s.heap x ox C od)(hc:W.clsIn K C=some cd)(hm:cd.mro=.ref C :: .ref S::fM)(ht:W.findIn K (.ref C) name=some none)
  (h:wpAny (model prog w) A.in1 (Builtin.ObjectAttr.storeInOwnDict (.ref x) (.ref C) (.str name tk) name v false) (fun fin s'=>match fin with | .done f=>R (.ok f) s' | .again c'=>c'.quiet=true/\codeAny (model prog w) A c' R s') (fun e s'=>R (.error e) s') s) :
  codeAny (model prog w) A (.call (.builtin "object.__setattr__") ⟨[.ref x,.str name tk,v],[]⟩) R s:=by
 have SF:=F.store_object
 have mi:W.mroIn K C (.type "object")=some true:=by
  unfold W.mroIn
  rw[hc,Option.bind_some,hm,if_neg (by simp)]
  simp[fM]
 have sub:W.Looks (model prog w) s.heap (isInstance (.ref x) (.type "object")) true:=W.Looks.andThen (W.InstAt.type I) (W.looks_mroIn X mi)
 refine codeAny_call_builtin SF.slot.plain SF.entry ?_
 have ao:argsOk "object.__setattr__" ⟨[.ref x,.str name tk,v],[]⟩:=SF.args (.ref x) (.str name tk) v
 refine W.check_slot (i := "object.__setattr__") (owner := "object") (n := "__setattr__") (self:=.ref x) (rest:=[.str name tk,v]) (kw:=[]) SF.kind SF.split sub ao ?_
 have hmr:W.Looks (model prog w) s.heap (mroOf (.ref C)) cd.mro:=W.Looks.andThen (W.looks_clsIn X hc) W.Looks.now
 rw[W.osa_eq,refuse_eq]
 refine wpAny_bind (wpAny_bind (W.Looks.here (W.InstAt.type I) (wpAny_bind (W.Looks.here hmr ?_))))
 rw[hm,refuseLoop_ref,refuseLoop_ref,F.store_ValueError.passes]
 refine wpAny_pure (wpAny_bind (W.Looks.here (W.InstAt.type I) (wpAny_bind (W.Looks.here (W.looks_findIn X ht) ?_))))
 refine wpAny_bind ?_
 unfold Builtin.ObjectAttr.storeTaker?
 refine wpAny_pure ?_
 exact h
theorem EL(X:K.In s.heap)(e1:s.heap.get? x=some ox)(e2:ox.cls=.ref C)(e3:ox.data=.fields vs)(e6:ox.dict=none)(hc:W.clsIn K C=some cd)(hm:cd.mro=.ref C :: .ref S::fM)(hd:cd.hasDict=true)
  (hs:W.findIn K (.ref C) "__setattr__" = some (some (.builtin "object.__setattr__"))) (ht:W.findIn K (.ref C) name=some none)
  (h:∀h' dx,s.heap.objs.size<=dx->(∀b o,b≠x->s.heap.get? b=some o->h'.get? b=some o)->h'.get? x=some { ox with dict:=some dx }->(h'.Ns1 dx fun y=>if y=name then some v else none)->Q () { s with heap:=h',toks:=s.toks+2 }) :
  wpAny (model prog w) A (setAttr (.ref x) name v) Q E s:=by
 obtain⟨oc,odd,oda,osl⟩:=ox
 simp only at e2 e3 e6
 subst e2 e3 e6
 have J:W.InstAt s.heap x ⟨.ref C,none,.fields vs,osl⟩ C none:=⟨e1,rfl,rfl,True.intro⟩
 refine W.set_plain X J hs (D3 (s:={ s with toks:=s.toks+1 }) X J hc hm ht ?_)
 unfold Builtin.ObjectAttr.storeInOwnDict
 refine wpAny_bind (wpAny_pure ?_)
 refine wpAny_ite_false rfl ?_
 refine wpAny_bind ?_
 unfold Builtin.ObjectAttr.ownDictForStores
 unfold instanceDict
 refine wpAny_bind (wpAny_loadPart_at e1 ?_)
 refine wpAny_bind (W.Looks.here (s:={ s with toks:=s.toks+1 }) (W.looks_clsIn X hc) ?_)
 rw[hd]
 refine wpAny_ite_false rfl ?_
 refine wpAny_ite_false rfl ?_
 dsimp only
 have e2:=Heap.get?_push_of_some { cls:=.type "dict", data:=.dict #[] } e1
 refine wpAny_bind (wpAny_alloc (wpAny_bind (wpAny_update e2 ?_)))
 unfold dictMade
 refine wpAny_pure ?_
 dsimp only
 have nx:s.heap.objs.size≠x:=Nat.ne_of_gt (Heap.lt_size e1)
 have e3:((s.heap.push { cls:=.type "dict", data:=.dict #[] }).update x fun o => { o with dict:=some s.heap.objs.size }).get? x=some ⟨.ref C,some s.heap.objs.size,.fields vs,osl⟩:=Heap.get?_update_self _ e2 rfl
 have e4:((s.heap.push { cls:=.type "dict", data:=.dict #[] }).update x fun o => { o with dict:=some s.heap.objs.size }).get? s.heap.objs.size=some { cls:=.type "dict", data:=.dict #[] }:=(Heap.get?_update_other _ _ (Ne.symm nx)).trans (Heap.get?_push_size _ rfl)
 have n1:((s.heap.push { cls:=.type "dict", data:=.dict #[] }).update x fun o => { o with dict:=some s.heap.objs.size }).Ns1 s.heap.objs.size (fun _=>none):=⟨_,#[],_,e4,rfl,fun e he=>absurd he (by simp),by simp[UniqKeys],fun _=>rfl⟩
 unfold Builtin.ObjectAttr.storeInDict
 refine wpAny_bind (wpAny_pure ?_)
 refine wpAny_bind (wpAny_nsSet1 n1 fun h' hn2 hs2=>?_)
 obtain⟨oD,esD,epD,hoD,hdD,hcD⟩:=hn2.count (PySem.Within.cons (ns:=[]) name v (fun y hy=>absurd rfl hy))
 refine wpAny_bind (wpAny_lookBehind hoD (by rw[hdD];exact pastItsLine_dict (Nat.le_trans hcD (by rw[sizeLine_eq];exact Nat.le_of_ble_eq_true rfl))) ?_)
 refine wpAny_pure (h h' s.heap.objs.size ?_ (fun b o hb eb=>?_) ?_ hn2)
 ·exact Nat.le_refl _
 ·refine(hs2.2 b (Nat.ne_of_lt (Heap.lt_size eb))).trans ?_
  rw[Heap.get?_update_other _ _ (Ne.symm hb)]
  exact Heap.get?_push_of_some _ eb
 ·exact(hs2.2 x (Ne.symm nx)).trans e3
theorem wY{E:Value->Shared->Prop}{ob:Obj}{Q:PySem.Fin->Shared->Prop}(he:s.heap.get? e=some ob)(hd:ob.data=.fields vs)(h0:vs[0]?=some (.ref t0))
  (h:Q (.done (.ret .none)) ⟨(s.heap.push { cls:=.type "tuple", data:=.seq #[v] }).update e (Obj.mapFields fun x=>x.setIfInBounds 0 (.ref s.heap.objs.size)),s.gens,s.drawn,s.toks,s.os⟩) :
  wpAny (model prog w) A (Builtin.«BaseException.__init__» { pos:=[.ref e,v] }) Q E s:=by
 unfold Builtin.«BaseException.__init__»
 dsimp only
 rw[if_neg (by simp)]
 have hsz:=(Array.getElem?_eq_some_iff.mp h0).1
 have he1:=Heap.get?_push_of_some { cls:=Value.type "tuple", data:=Data.seq #[v] } he
 refine wpAny_bind (wpAny_newTuple ?_)
 unfold Builtin.BaseException.bexcPut
 refine wpAny_bind (wpAny_bind (wpAny_field he1 hd h0 ?_))
 exact wpAny_bind (wpAny_setField he1 hd hsz (wpAny_letGo (wpAny_pure h)))
theorem wW{nm:Str}
  (F:ExcBaseFacts B newId initId bmB) (ht:OwnTail s.heap bmB bm) {Q:Value->Shared->Prop} (hq:(Code.builtin initId { pos:=[.ref e,v] }).quiet=true) (hC:s.heap.get? C=some (excClassObj nm q C N bs bm hdct sn sub ab col dd k0 k1 k2 k3 k5 newId)) (he:s.heap.get? e=some oe) (hc:oe.cls=.ref C) (hd:oe.data=.fields vs) (h0:vs[0]?=some (.ref t0))
  (h:∀h',(∀b o,b≠e->s.heap.get? b=some o->h'.get? b=some o)->h'.get? e=some { oe with data:=.fields (vs.setIfInBounds 0 (.ref s.heap.objs.size)) }->Q .none { s with heap:=h' }) :
  wpAny (model prog w) A (call (.builtin initId) [.ref e,v]) Q E s:=by
 obtain⟨oc,odd,oda,osl⟩:=oe
 simp only at hc hd
 subst hc hd
 refine wpAny_call (codeAny_call_builtin_at hq F.initEntry (wpAny_check_init_subT F ht hC he rfl (wY he rfl h0 ?_)))
 dsimp only
 refine h _ (fun b o hb eb=>?_) ?_
 ·rw[Heap.get?_update_other _ _ hb.symm];exact Heap.get?_push_of_some _ eb
 ·have e1:=Heap.get?_push_of_some { cls:=Value.type "tuple", data:=Data.seq #[v] } he
  exact Heap.get?_update_self _ e1 rfl
theorem EM{D dx:Addr}{b:Bool}{mA:Str->Option Value}{Q:Value->Shared->Prop}{nm:Str}
  (hga:W.findIn K (.ref D) "__getattribute__" = some (some (.builtin "BaseException.__getattribute__"))) (hgt:W.findIn K (.ref D) "__getattr__" = some none) (hf:W.findIn K (.ref D) name=some none) (hdi:W.hasDictIn K D=true)
  (KI:K.In s.heap) (e1:s.heap.get? x=some ox) (e2:ox.cls=.ref D) (e3:ox.data=.fields vs) (e4:ox.dict=some dx) (hn:s.heap.Ns1 dx mA) (hv:mA name=some v) (hh:W.handedIn v=true) (hD:s.heap.get? D=some (excClassObj nm q D N bs bm hdct sn sub ab col dd k0 k1 k2 k3 k5 newId)) (hT:OwnTailQ s.heap fM bm)
  (hq:Q v { s with toks:=s.toks+1 }):wpAny (model prog w) A (getAttr (.ref x) name b) Q E s:=by
 obtain⟨h,g,d,tk,os⟩:=s
 have ty:=im e1 e2
 obtain⟨od,ho,hl⟩:=qu hn
 have J:W.InstAt h x ox D (some od):=⟨e1,e2,by unfold W.notCls;rw[e3],by rw[e4];exact ho⟩
 have lf:∀M,W.Looks M h (Builtin.ObjectAttr.find (.ref x) (.ref D) name) (.value v):=fun M=>W.looks_find KI J (W.findObj_own hdi hf rfl (by rw[hl,hv]))
 unfold getAttr
 refine wpAny_bind (wpAny_mkText ?_)
 unfold getAttrBy
 refine wpAny_holding (wpAny_bind (W.Looks.at (ty _) ?_))
 refine wpAny_bind (W.Looks.at (W.looks_findIn KI hga) ?_)
 dsimp only
 have e9:(onTheHeap (Value.ref D)&&Value.builtin "BaseException.__getattribute__" == Value.builtin "object.__getattribute__")=false:=by
  have e0:(Value.builtin "BaseException.__getattribute__" == Value.builtin "object.__getattribute__")=false:=by decide +kernel
  rw[e0,Bool.and_false]
 rw[e9]
 rw[if_neg (by simp)]
 unfold getAttrByItsOwn
 refine wpAny_bind (W.Looks.at (W.looks_hook KI (r:=none) (by show(if true=true then W.findIn K (.ref D) "__getattr__" else some none)=some none;rw[if_pos rfl];exact hgt)) ?_)
 refine wpAny_bind (wpAny_attempt (wpAny_holding ?_))
 unfold callGetattribute
 rw[if_neg (by rw[show onTheHeap (Value.builtin "BaseException.__getattribute__")=false from rfl];simp)]
 unfold boundAndCalled
 rw[(PySem.F.attrBase_ValueError.toExcAttrFacts.ga).bind]
 refine wpAny_bind (wpAny_pure ?_)
 refine wpAny_call (codeAny_call_builtin (PySem.F.attrBase_ValueError.toExcAttrFacts.ga).plain PySem.F.entry_bexc_ga ?_)
 refine wpAny_check_ga_own PySem.F.attrBase_ValueError hD hT e1 e2 ?_
 show wpAny _ _ (Builtin.«object.__getattribute__» ⟨[Value.ref x,Value.str name tk],[]⟩) _ _ _
 unfold Builtin.«object.__getattribute__»
 refine wpAny_bind ?_
 unfold slotArgs
 dsimp only
 rw[if_neg (by simp),if_neg (by simp)]
 refine wpAny_pure ?_
 dsimp only
 refine wpAny_bind ?_
 unfold Builtin.ObjectAttr.attrName
 refine wpAny_pure ?_
 refine wpAny_bind (W.Looks.at (ty _) ?_)
 refine wpAny_bind (W.Looks.at (lf _) ?_)
 dsimp only
 refine wpAny_pure ?_
 exact W.handed_on hh hq
end L2
namespace Sp
open PySem PySem.Spec PyProof.Rows L2
variable{H:Hp}{K:W.Frag}{n:Str}{C S:Addr}
structure CY(K:W.Frag)(n:Str)(C:Addr):Prop where
 cl:((W.clsIn K C).isSome&&W.typeIn K (.ref C)==some (.type "type"))=true
 sole:∀m,W.nsIn K mainGlobals m=some (some (.ref C))->m=n
 obj:∃o,K.lookup C=some o/\o.cls=.type "type"
abbrev Xs:=Str×Str×List (Str×Int)
def nX(H:Hp)(od:Option Addr)(fs:List (Str×Int)):Prop:=∀f i,fs=[(f,i)]->∃dx,od=some dx/\H dx=some (.xd [(f,.int i)])
theorem nX.nil{od:Option Addr}:nX H od []:=fun _ _ z=>by cases z
structure na(K:W.Frag)(C:Addr)(f:Str):Prop where
 no:W.findIn K (.ref C) f=some none
 di:W.hasDictIn K C=true
def j9(K:W.Frag)(H:Hp)(n:Str):Option (Str×List (Str×Int))->V->Prop
 | none,v => ∃C,v=.ref C/\W.nsIn K mainGlobals n=some (some (.ref C))/\CY K n C
 | some (p,fs),v => ∃x C S od,v=.ref x/\W.nsIn K mainGlobals n=some (some (.ref C))/\W.nsIn K mainGlobals p=some (some (.ref S))/\gr K C S/\H x=some (iV x C od)/\nX H od fs/\∀f i,fs=[(f,i)]->na K C f
theorem j9.mono{H':Hp}(k:∀a C od,H a=some (iV a C od)->H' a=some (iV a C od))(kd:∀a fs,H a=some (.xd fs)->H' a=some (.xd fs)):∀{p:Option (Str×List (Str×Int))} {v:V},j9 K H n p v->j9 K H' n p v
 | none,_,h=>h
 | some (p,fs),_,⟨x,C,S,od,e,h1,h2,h3,h4,h5,h6⟩=>⟨x,C,S,od,e,h1,h2,h3,k _ _ _ h4,fun f i z=>let ⟨dx,a,b⟩:=h5 f i z;⟨dx,a,kd _ _ b⟩,h6⟩
theorem j9.ref:∀{p:Option (Str×List (Str×Int))} {v:V},j9 K H n p v->∃a,v=.ref a
 | none,_,⟨C,e,_⟩=>⟨C,e⟩
 | some (p,fs),_,⟨x,_,_,_,e,_⟩=>⟨x,e⟩
theorem j9.at:∀{p:Option (Str×List (Str×Int))} {a:Addr},j9 K H n p (.ref a)->(∃o,K.lookup a=some o/\o.cls=.type "type")\/∃C od,H a=some (iV a C od)
 | none,_,⟨C,e,_,h⟩=>by cases e;exact .inl h.obj
 | some (p,fs),_,⟨x,C,_,od,e,_,_,_,h,_⟩=>by cases e;exact .inr ⟨C,od,h⟩
theorem sM(e:i7 K C S=true):∃cd,W.clsIn K C=some cd/\cd.mro=.ref C :: .ref S::fM:=by
 unfold i7 at e
 split at e
 ·rename_i t d1 cd sl c2 d2 ce sl2 e1 e2
  simp only[Bool.and_eq_true]at e
  obtain⟨⟨⟨⟨⟨q1,q2⟩,q3⟩,q4⟩,q5⟩,q6⟩:=e
  exact⟨cd,by unfold W.clsIn;rw[e1],by simpa using q3⟩
 ·cases e
theorem yZ{Cm:Addr}{p m:Str}(e:gr K C S)(hn:W.nsIn K mainGlobals n=some (some (.ref C)))(hp:W.nsIn K mainGlobals p=some (some (.ref S)))(hm:W.nsIn K mainGlobals m=some (some (.ref Cm)))(x:CY K m Cm) :
  W.kitOne K (.ref C) (.ref Cm)=some (decide (m=n) || decide (m=p)):=by
 obtain⟨cd,h1,h2⟩:=sM e.ex
 have a1:(Value.ref Cm==Value.ref C)=decide (m=n):=by
  by_cases z:m=n
  ·subst z;rw[hm]at hn;cases hn;simp
  ·rw[decide_eq_false z]
   refine beq_eq_false_iff_ne.mpr fun y=>z ?_
   injection y with y
   subst y
   exact(x.sole n hn).symm
 have a2:(Value.ref Cm==Value.ref S)=decide (m=p):=by
  by_cases z:m=p
  ·subst z;rw[hm]at hp;cases hp;simp
  ·rw[decide_eq_false z]
   refine beq_eq_false_iff_ne.mpr fun y=>z ?_
   injection y with y
   subst y
   exact(x.sole p hp).symm
 unfold W.kitOne
 have a3:(Value.ref C==Value.ref Cm)=decide (m=n):=by
  by_cases z:m=n
  ·subst z;rw[hm]at hn;cases hn;simp
  ·rw[decide_eq_false z]
   refine beq_eq_false_iff_ne.mpr fun y=>z ?_
   injection y with y
   subst y
   exact(x.sole n hn).symm
 rw[a3]
 by_cases z:m=n
 ·rw[if_pos (decide_eq_true z),decide_eq_true z];rfl
 ·rw[decide_eq_false z,if_neg (by simp),Bool.false_or]
  unfold W.kitCls
  dsimp only
  rw[if_pos x.cl]
  unfold W.subIn W.mroIn
  dsimp only
  rw[h1,Option.bind_some,h2,if_neg (by simp)]
  rw[List.contains_cons,List.contains_cons,a1,a2,decide_eq_false z,Bool.false_or,show fM.contains (Value.ref Cm)=false by simp[fM],Bool.or_false]
theorem HD(e:gr K C S):W.kitOne K (.ref C) (.type "ValueError")=some true:=by
 obtain⟨cd,h1,h2⟩:=sM e.ex
 unfold W.kitOne
 rw[if_neg (by simp)]
 unfold W.kitCls
 dsimp only
 rw[if_pos (by decide +kernel)]
 unfold W.subIn W.mroIn
 dsimp only
 rw[h1,Option.bind_some,h2,if_neg (by simp)]
 simp[fM]
end Sp
namespace L2
open PySem PySem.Spec PyProof.Rows
variable{y:V}{u:Value}
section
variable{κ:Type}[DecidableEq κ]
def mx(kvs:List (κ×V))(k:κ):Option V:=(kvs.find? fun kv=>decide (kv.1=k)).map (·.2)
def AJ(kvs:List (κ×V))(k:κ)(v:V):List (κ×V) :=
 if (kvs.any fun kv=>decide (kv.1=k))=true then kvs.map (fun kv=>if kv.1=k then(kv.1,v)else kv)else kvs++[(k,v)]
def CJ(kvs:List (κ×V))(k:κ):List (κ×V):=kvs.filter fun kv=>decide (kv.1≠k)
theorem Ar{p:κ×V}{r:List (κ×V)}{k:κ}(e:p.1=k):mx (p::r) k=some p.2:=by simp[mx,List.find?_cons,e]
theorem As{p:κ×V}{r:List (κ×V)}{k:κ}(e:¬ p.1=k):mx (p::r) k=mx r k:=by simp[mx,List.find?_cons,e]
theorem gn.getD{o:Option V}{u:Option Value}{d:V}{d':Value}(r:gn o u)(rd:aX d d'):aX (o.getD d) (u.getD d'):=by
 cases o with
 | none=>cases u with
  | none=>exact rd
  | some _=>exact(show False from r).elim
 | some _=>cases u with
  | none=>exact(show False from r).elim
  | some _=>exact r
theorem KV.val{kvs:List (κ×V)}{vs:List (κ×Value)}(r:KV kvs vs)(k:κ):gn (mx kvs k) (valueAt vs k):=by
 unfold KV at r
 induction r with
 | nil=>exact True.intro
 | @cons p q ps qs h t ih =>
  obtain⟨h1,h2⟩:=h
  by_cases e:p.1=k
  ·have e':q.1=k:=h1.symm.trans e
   have b:valueAt (q::qs) k=some q.2:=by simp[valueAt,List.find?_cons,e']
   rw[Ar e,b];exact h2
  ·have e':¬ q.1=k:=fun z=>e (h1.trans z)
   have b:valueAt (q::qs) k=valueAt qs k:=by simp[valueAt,List.find?_cons,e']
   rw[As e,b];exact ih
theorem KV.any{kvs:List (κ×V)}{vs:List (κ×Value)}(r:KV kvs vs)(k:κ):(kvs.any fun kv=>decide (kv.1=k))=vs.any fun kv=>decide (kv.1=k):=by
 unfold KV at r
 induction r with
 | nil=>rfl
 | cons h t ih=>rw[List.any_cons,List.any_cons,ih,h.1]
theorem KV.repl{kvs:List (κ×V)}{vs:List (κ×Value)}(r:KV kvs vs)(k:κ)(ry:aX y u) :
  KV (kvs.map fun kv=>if kv.1=k then(kv.1,y)else kv) (vs.map fun kv=>if kv.1=k then(kv.1,u)else kv):=by
 unfold KV at r⊢
 induction r with
 | nil=>exact .nil
 | @cons p q ps qs h t ih =>
  rw[List.map_cons,List.map_cons]
  refine .cons ?_ ih
  obtain⟨h1,h2⟩:=h
  by_cases e:p.1=k
  ·rw[if_pos e,if_pos (h1.symm.trans e)];exact⟨h1,ry⟩
  ·rw[if_neg e,if_neg (fun z=>e (h1.trans z))];exact⟨h1,h2⟩
theorem KV.put{kvs:List (κ×V)}{vs:List (κ×Value)}(r:KV kvs vs)(k:κ)(ry:aX y u):KV (AJ kvs k y) (stored vs k u):=by
 unfold AJ stored
 rw[r.any k]
 by_cases e:(vs.any fun kv=>decide (kv.1=k))=true
 ·rw[if_pos e,if_pos e];exact r.repl k ry
 ·rw[if_neg e,if_neg e];exact Paired.snoc r ⟨rfl,ry⟩
theorem KV.drop{kvs:List (κ×V)}{vs:List (κ×Value)}(r:KV kvs vs)(k:κ):KV (CJ kvs k) (without vs k):=by
 unfold KV at r⊢
 unfold CJ without
 induction r with
 | nil=>exact .nil
 | @cons p q ps qs h t ih =>
  obtain⟨h1,h2⟩:=h
  rw[List.filter_cons,List.filter_cons]
  by_cases e:p.1=k
  ·have a:¬ decide (p.1≠k)=true:=by simp[e]
   have b:¬ decide (q.1≠k)=true:=by simp[h1.symm.trans e]
   rw[if_neg a,if_neg b];exact ih
  ·have e':¬ q.1=k:=fun z=>e (h1.trans z)
   have a:decide (p.1≠k)=true:=by simp[e]
   have b:decide (q.1≠k)=true:=by simp[e']
   rw[if_pos a,if_pos b];exact .cons ⟨h1,h2⟩ ih
theorem KV.length{kvs:List (κ×V)}{vs:List (κ×Value)}(r:KV kvs vs):kvs.length=vs.length:=Paired.length r
end
end L2
namespace Sp
open PySem PySem.Spec PyProof.Rows L2
variable{K:W.Frag}{H H' H0 H1:Hp}{a c e e2 elt iter tg:Expr}{vs vs':List V}{v:V}{X:Cx}{σ:L2.St}{b it r r2 t:Bool}{i j k k2 ko n n2:Nat}{env:Env}{sc scope:Scope}{M:Model}{A:Around}{E Q:Value->Shared->Prop}{s:Shared}{cl:List (Str×Addr)}{f g m qual s0 x:Str}{pins:List (Addr×Obj)}{N' fs ns ps:List Str}{fp:List Addr}{w:World}{args cs es ifs tgs:List Expr}{ap apos cp p p1 p2 p4 pos px py q:Pos}{op op2:CmpOp}{body els ss:List Stmt}{α β:Type}{l o:List Prop}{P:Program}{T:String}{hi lo:Option Expr}{h:Option Int}{st:Stmt}{mg:Str->Option Value}{base:Heap}{cdv mc:Value}{outer:List Env}{fd:FuncData}{us:List Value}
inductive D where
 | non|bl (b:Bool)|int (i:Int)|str (x:Str)|dct (ks:List dz) (ds:List D)|tup (l:List D)|lst (l:List D)|typ (n:String)|sn (n:Nat)|obj (n:Str) (ns:List Str) (ds:List D)|cls (n:Str)|xc (n:Str) (p:Option (Str×List (Str×Int)))
mutual
def D.lless:D->Bool
 | .lst _=>false
 | .dct _ _=>false
 | .tup l=>ax l
 | _=>true
def ax:List D->Bool
 | []=>true
 | d::l=>d.lless&&ax l
end
def uv(K:W.Frag)(H:Hp)(a:Addr)(vs:List V):Bool->Prop
 | true=>H a=some (.lst vs)
 | false=>(∃o,H a=some (.frz o (.lst vs)))\/∃(o:Obj) (its:Array Value) (n:Nat),K.lookup a=some o/\o.cls=.type "list" /\ o.dict=none/\o.data=.seq its n/\its.size<=sizeLine/\aL vs its.toList
theorem uv.sq{a:Addr}:∀{b:Bool},uv K H a vs b->cm K H a vs
 | true,h=>cm.of h
 | false,.inl ⟨o,h⟩=>.inl (.inr ⟨o,h⟩)
 | false,.inr h=>.inr h
structure rK(K:W.Frag)(C:Addr):Prop where
 ha:W.findIn K (.ref C) "__class__" = some (some (.builtin "object.__class__"))
 hn:W.specialIn K (.builtin "object.__class__") "__get__" = some (some (.builtin "getset_descriptor.__get__"))
 ht:W.takesIn K (.builtin "object.__class__")=some true
 hm:W.mroIn K C (.type "object")=some true
def Je:List Str:=["Deed", "Turn", "HalfTurn", "Mirror"]
def rZ(m n:Str):Bool:=decide (m=n) || (decide (n = "Deed")&&(decide (m = "Turn") || decide (m = "HalfTurn") || decide (m = "Mirror")))
structure LV(K:W.Frag)(C:Addr)(n:Str):Prop where
 all:∀m∈Je,∀Cm,W.nsIn K mainGlobals m=some (some (.ref Cm))->rK K Cm/\W.kitOne K (.ref Cm) (.ref C)=some (rZ m n)
abbrev bx:=Addr->Bool->Prop
mutual
def af(K:W.Frag)(H:Hp)(P:bx):D->V->Prop
 | .non,v=>v=.non
 | .bl b,v=>v=.bl b
 | .int i,v=>v=.int i
 | .str x,v=>v=.str x
 | .dct ks ds,v=>ax ds=true/\ks.length=ds.length/\∃a vs,v=.ref a/\H a=some (.dK (ks.zip vs))/\P a true/\ai K H P ds vs
 | .typ n,v=>v=.ty n
 | .sn n,v => ∃a S,v=.ref a/\H a=some (.set S n)
 | .xc n p,v=>j9 K H n p v
 | .cls n,v => ∃C o,v=.ref C/\W.nsIn K mainGlobals n=some (some (.ref C))/\K.lookup C=some o/\o.cls=.type "type" /\ rK K C/\LV K C n
 | .obj n ns ds,v=>ax ds=true/\ns.length=ds.length/\∃a C dx vs,v=.ref a/\W.nsIn K mainGlobals n=some (some (.ref C))/\d5 K C/\H a=some (.ins C dx (ns.zip vs))/\ai K H P ds vs
 | .tup l,v => ∃a vs,v=.ref a/\cZ K H a vs/\ai K H P l vs
 | .lst l,v => ∃a vs b,v=.ref a/\uv K H a vs b/\P a b/\ai K H P l vs
def ai(K:W.Frag)(H:Hp)(P:bx):List D->List V->Prop
 | [],vs=>vs=[]
 | d::l,vs => ∃v r,vs=v::r/\af K H P d v/\ai K H P l r
end
def nm:HO->Prop
 | .lst _=>False
 | .dK _=>False
 | _=>True
structure d7(P P':bx)(H H':Hp):Prop where
 oth:∀a o,H a=some o->nm o->H' a=some o
 lst:∀a o,H a=some o->P a true->H' a=some o
 impT:∀a o,H a=some o->P a true->P' a true
 impF:∀a,P a false->P' a false
theorem d7.sq{P P':bx}(s:d7 P P' H H'){a:Addr}(h:cZ K H a vs):cZ K H' a vs:=by
 rcases h with(h|⟨o,h⟩)|h
 ·exact .inl (.inl (s.oth _ _ h True.intro))
 ·exact .inl (.inr ⟨o,s.oth _ _ h True.intro⟩)
 ·exact .inr h
theorem d7.ls{P P':bx}(s:d7 P P' H H'){a:Addr}:∀{b:Bool},uv K H a vs b->P a b->uv K H' a vs b
 | true,h,p=>s.lst a _ h p
 | false,.inl ⟨o,h⟩,_=>.inl ⟨o,s.oth _ _ h True.intro⟩
 | false,.inr h,_=>.inr h
theorem d7.imp{P P':bx}(s:d7 P P' H H'){a:Addr}:∀{b:Bool},uv K H a vs b->P a b->P' a b
 | true,h,p=>s.impT a _ h p
 | false,_,p=>s.impF a p
mutual
theorem af.mono{K:W.Frag}{P P':bx}{H H':Hp}(s:d7 P P' H H'):∀{d:D} {v:V},af K H P d v->af K H' P' d v
 | .non,v,h=>by rw[af]at h⊢;exact h
 | .bl b,v,h=>by rw[af]at h⊢;exact h
 | .int i,v,h=>by rw[af]at h⊢;exact h
 | .str x,v,h=>by rw[af]at h⊢;exact h
 | .dct ks ds,v,h=>by
  rw[af]at h⊢
  obtain⟨f,e0,a,vs,e,h1,p,r⟩:=h
  exact⟨f,e0,a,vs,e,s.lst _ _ h1 p,s.impT _ _ h1 p,ai.mono s r⟩
 | .typ n,v,h=>by rw[af]at h⊢;exact h
 | .sn n,v,h=>by
  rw[af]at h⊢
  obtain⟨a,S,e,h⟩:=h
  exact⟨a,S,e,s.oth _ _ h True.intro⟩
 | .cls n,v,h=>by rw[af]at h⊢;exact h
 | .xc n p,v,h=>by rw[af]at h⊢;exact h.mono (fun a C od z=>s.oth _ _ z True.intro) (fun a fs z=>s.oth _ _ z True.intro)
 | .obj n ns ds,v,h=>by
  rw[af]at h⊢
  obtain⟨f,e0,a,C,dx,vs,e,h1,h2,h3,r⟩:=h
  exact⟨f,e0,a,C,dx,vs,e,h1,h2,s.oth _ _ h3 True.intro,ai.mono s r⟩
 | .tup l,v,h=>by
  rw[af]at h⊢
  obtain⟨a,vs,e,h,r⟩:=h
  exact⟨a,vs,e,s.sq h,ai.mono s r⟩
 | .lst l,v,h=>by
  rw[af]at h⊢
  obtain⟨a,vs,b,e,h,p,r⟩:=h
  exact⟨a,vs,b,e,s.ls h p,s.imp h p,ai.mono s r⟩
theorem ai.mono{K:W.Frag}{P P':bx}{H H':Hp}(s:d7 P P' H H'):∀{l:List D} {vs:List V},ai K H P l vs->ai K H' P' l vs
 | [],vs,h=>by rw[ai]at h⊢;exact h
 | d::l,vs,h=>by
  rw[ai]at h⊢
  obtain⟨v,r,e,h1,h2⟩:=h
  exact⟨v,r,e,af.mono s h1,ai.mono s h2⟩
end
theorem d7.same{P P':bx}(s:aw H H')(i:∀a b,P a b->P' a b):d7 P P' H H':=⟨fun a o h _=>s a o h,fun a vs h _=>s a _ h,fun a _ _ p=>i a true p,fun a p=>i a false p⟩
theorem af.same{P:bx}(s:aw H H'){d:D}(h:af K H P d v):af K H' P d v:=h.mono (.same s fun _ _ p=>p)
theorem ai.same{P:bx}(s:aw H H'){d:List D}{v:List V}(h:ai K H P d v):ai K H' P d v:=h.mono (.same s fun _ _ p=>p)
theorem af.imp{P P':bx}(i:∀a b,P a b->P' a b){d:D}(h:af K H P d v):af K H P' d v:=h.mono (.same (aw.refl _) i)
theorem ai.imp{P P':bx}(i:∀a b,P a b->P' a b){d:List D}{v:List V}(h:ai K H P d v):ai K H P' d v:=h.mono (.same (aw.refl _) i)
theorem af.impH{P P':bx}(i:∀a o,H a=some o->P a true->P' a true)(j:∀a,P a false->P' a false){d:D}(h:af K H P d v):af K H P' d v:=h.mono ⟨fun _ _ h _=>h,fun _ _ h _=>h,i,j⟩
theorem ai.impH{P P':bx}(i:∀a o,H a=some o->P a true->P' a true)(j:∀a,P a false->P' a false){d:List D}{v:List V}(h:ai K H P d v):ai K H P' d v:=h.mono ⟨fun _ _ h _=>h,fun _ _ h _=>h,i,j⟩
mutual
theorem af.flat{K:W.Frag}{P:bx}(P':bx){H:Hp}:∀{d:D} {v:V},d.lless=true->af K H P d v->af K H P' d v
 | .non,v,_,h=>by rw[af]at h⊢;exact h
 | .bl b,v,_,h=>by rw[af]at h⊢;exact h
 | .int i,v,_,h=>by rw[af]at h⊢;exact h
 | .str x,v,_,h=>by rw[af]at h⊢;exact h
 | .dct _ _,v,f,h=>by rw[D.lless]at f;cases f
 | .typ n,v,_,h=>by rw[af]at h⊢;exact h
 | .sn n,v,_,h=>by rw[af]at h⊢;exact h
 | .cls n,v,_,h=>by rw[af]at h⊢;exact h
 | .xc n p,v,_,h=>by rw[af]at h⊢;exact h
 | .obj n ns ds,v,_,h=>by
  rw[af]at h⊢
  obtain⟨f,e0,a,C,dx,vs,e,h1,h2,h3,r⟩:=h
  exact⟨f,e0,a,C,dx,vs,e,h1,h2,h3,ai.flat P' f r⟩
 | .tup l,v,f,h=>by
  rw[af]at h⊢
  obtain⟨a,vs,e,h,r⟩:=h
  exact⟨a,vs,e,h,ai.flat P' (by rw[D.lless]at f;exact f) r⟩
 | .lst l,v,f,h=>by rw[D.lless]at f;cases f
theorem ai.flat{K:W.Frag}{P:bx}(P':bx){H:Hp}:∀{l:List D} {vs:List V},ax l=true->ai K H P l vs->ai K H P' l vs
 | [],vs,_,h=>by rw[ai]at h⊢;exact h
 | d::l,vs,f,h=>by
  rw[ai]at h⊢
  rw[ax,Bool.and_eq_true]at f
  obtain⟨v,r,e,h1,h2⟩:=h
  exact⟨v,r,e,af.flat P' f.1 h1,ai.flat P' f.2 h2⟩
end
theorem ai.length{P:bx}:∀{l:List D} {vs:List V},ai K H P l vs->l.length=vs.length
 | [],vs,h=>by rw[ai]at h;subst h;rfl
 | d::l,vs,h=>by
  rw[ai]at h
  obtain⟨v,r,e,h1,h2⟩:=h
  subst e
  rw[List.length_cons,List.length_cons,h2.length]
theorem ai.get{K:W.Frag}{P:bx}{H:Hp}:∀{l:List D} {vs:List V} {i:Nat} {d:D},ai K H P l vs->l[i]?=some d->∃v,vs[i]?=some v/\af K H P d v
 | [],vs,i,d,h,e=>by simp at e
 | x::l,vs,0,d,h,e=>by
  rw[ai]at h
  obtain⟨v,r,rfl,h1,h2⟩:=h
  simp at e;subst e
  exact⟨v,by simp,h1⟩
 | x::l,vs,i+1,d,h,e=>by
  rw[ai]at h
  obtain⟨v,r,rfl,h1,h2⟩:=h
  obtain⟨u,h3,h4⟩:=ai.get (i:=i) h2 (by simpa using e)
  exact⟨u,by simpa using h3,h4⟩
theorem ai.append{K:W.Frag}{P:bx}{H:Hp}:∀{l m:List D} {vs ws:List V},ai K H P l vs->ai K H P m ws->ai K H P (l++m) (vs++ws)
 | [],m,vs,ws,h,g=>by rw[ai]at h;subst h;exact g
 | d::l,m,vs,ws,h,g=>by
  rw[ai]at h
  obtain⟨v,r,rfl,h1,h2⟩:=h
  show ai K H P (d::(l++m)) (v::(r++ws))
  rw[ai]
  exact⟨v,_,rfl,h1,ai.append h2 g⟩
theorem ai.one{P:bx}{d:D}(h:af K H P d v):ai K H P [d] [v]:=by
 rw[ai];exact⟨v,[],rfl,h,by rw[ai]⟩
theorem ai.nil{P:bx}:ai K H P [] []:=by rw[ai]
theorem ai.cons{P:bx}{d:D}{l:List D}(h:af K H P d v)(g:ai K H P l vs):ai K H P (d::l) (v::vs):=by
 rw[ai];exact⟨v,vs,rfl,h,g⟩
theorem ai.take{K:W.Frag}{P:bx}{H:Hp}:∀{l:List D} {vs:List V} (n:Nat),ai K H P l vs->ai K H P (l.take n) (vs.take n)
 | [],vs,n,h=>by rw[ai]at h;subst h;simp;exact ai.nil
 | d::l,vs,0,h=>by simp;exact ai.nil
 | d::l,vs,n+1,h=>by
  rw[ai]at h
  obtain⟨v,r,rfl,h1,h2⟩:=h
  exact ai.cons h1 (ai.take n h2)
theorem ai.drop{K:W.Frag}{P:bx}{H:Hp}:∀{l:List D} {vs:List V} (n:Nat),ai K H P l vs->ai K H P (l.drop n) (vs.drop n)
 | [],vs,n,h=>by rw[ai]at h;subst h;simp;exact ai.nil
 | d::l,vs,0,h=>h
 | d::l,vs,n+1,h=>by
  rw[ai]at h
  obtain⟨v,r,rfl,h1,h2⟩:=h
  exact ai.drop n h2
theorem ai.mapInt{K:W.Frag}{P:bx}{H:Hp}:∀{ns:List Int} {vs:List V},ai K H P (ns.map D.int) vs->vs=ns.map V.int
 | [],vs,h=>by rw[List.map_nil,ai]at h;exact h
 | n::ns,vs,h=>by
  rw[List.map_cons,ai]at h
  obtain⟨v,r,rfl,h1,h2⟩:=h
  rw[af]at h1
  rw[h1,ai.mapInt h2];rfl
theorem ai.ofInts{K:W.Frag}{P:bx}{H:Hp}:∀{ns:List Int},ai K H P (ns.map D.int) (ns.map V.int)
 | []=>ai.nil
 | n::ns=>ai.cons (by rw[af]) ai.ofInts
abbrev Ow:=Addr->Option (Option Str)
def Kp(ow:Ow)(H:Hp):Nat->bx
 | 0=>fun a b=>b=true/\H a=none
 | 1=>fun a b=>b=true->ow a=none
 | 2=>fun a b=>b=true/\(ow a≠none\/H a=none)
 | _=>fun _ _=>True
def kj:Nat->Nat->Nat
 | 0,k=>k
 | k,0=>k
 | 1,1=>1
 | 2,2=>2
 | _,_=>3
def kM(ow:Ow)(x:Str):Bool->bx
 | true=>fun a b=>b=true/\ow a=some (some x)
 | false=>fun a b=>b=true->ow a=none
def fi(ow:Ow)(H:Hp):Prop:=∀a,ow a≠none->∃o,H a=some o
theorem fi.same{ow:Ow}(o:fi ow H)(s:aw H H'):fi ow H':=fun a h=>let ⟨x,e⟩:=o a h;⟨x,s a x e⟩
theorem fi.free{ow:Ow}(o:fi ow H){a:Addr}(h:H a=none):ow a=none:=by
 cases e:ow a with
 | none=>rfl
 | some x=>obtain⟨y,q⟩:=o a (by rw[e];exact(fun z=>nomatch z));rw[h]at q;cases q
theorem Kp.back{ow:Ow}(s:aw H H'):∀(k:Nat) (a:Addr) (b:Bool),Kp ow H' k a b->Kp ow H k a b
 | 0,a,b,h=>⟨h.1,s.free h.2⟩
 | 1,a,b,h=>h
 | 2,a,b,h=>⟨h.1,h.2.imp id fun z=>s.free z⟩
 | _+3,a,b,h=>True.intro
theorem Kp.joinL{ow:Ow}(o:fi ow H):∀(k j:Nat) (a:Addr) (b:Bool),Kp ow H k a b->Kp ow H (kj k j) a b
 | 0,0,a,b,h=>h
 | 0,1,a,b,h=>fun _=>o.free h.2
 | 0,2,a,b,h=>⟨h.1,.inr h.2⟩
 | 0,_+3,a,b,h=>True.intro
 | 1,0,a,b,h=>h
 | 1,1,a,b,h=>h
 | 1,2,a,b,h=>True.intro
 | 1,_+3,a,b,h=>True.intro
 | 2,0,a,b,h=>h
 | 2,1,a,b,h=>True.intro
 | 2,2,a,b,h=>h
 | 2,_+3,a,b,h=>True.intro
 | _+3,0,a,b,h=>True.intro
 | _+3,1,a,b,h=>True.intro
 | _+3,2,a,b,h=>True.intro
 | _+3,_+3,a,b,h=>True.intro
theorem Es:∀k j,kj k j=kj j k
 | 0,0|0,1|0,2|0,_+3|1,0|1,1|1,2|1,_+3|2,0|2,1|2,2|2,_+3|_+3,0|_+3,1|_+3,2|_+3,_+3=>rfl
theorem Kp.joinR{ow:Ow}(o:fi ow H)(k j:Nat)(a:Addr)(b:Bool)(h:Kp ow H j a b):Kp ow H (kj k j) a b:=by
 rw[Es];exact Kp.joinL o j k a b h
abbrev ae:=Str->Option (D×Bool)
structure aH(X:Cx)(ow:Ow)(H:Hp)(σ:L2.St)(ρ:ae):Prop where
 get:∀x d o,ρ x=some (d,o)->∃(i:Nat) (v:V),X.N[i]?=some x/\fy X.env.scope x/\σ[i]?=some (some v)/\af X.K H (kM ow x o) d v
 own:fi ow H
theorem aH.same{ow:Ow}{ρ:ae}(e:aH X ow H σ ρ)(s:aw H H'):aH X ow H' σ ρ :=
 ⟨fun x d o h=>let ⟨i,v,h1,h2,h3,h4⟩:=e.get x d o h;⟨i,v,h1,h2,h3,h4.same s⟩,e.own.same s⟩
def tD(X:Cx)(ow:Ow)(ρ:ae)(d:D)(k:Nat):TE:=fun σ H Q=>aH X ow H σ ρ/\∀v H',aw H H'->af X.K H' (Kp ow H k) d v->Q v H'
def ED(X:Cx)(ρ:ae)(e:Expr)(d:D)(k:Nat):Prop:=∀ow,PE X e (tD X ow ρ d k)
def BX(X:Cx)(ow:Ow)(ρ:ae)(b:Bool):TT:=fun σ H Q=>aH X ow H σ ρ/\∀H',aw H H'->Q b H'
def TD(X:Cx)(ρ:ae)(e:Expr)(b:Bool):Prop:=∀ow,PT X e (BX X ow ρ b)
def Ri(X:Cx)(ow:Ow)(ρ:ae)(ds:List D)(k:Nat):TA:=fun σ H Q=>aH X ow H σ ρ/\∀vs H',aw H H'->ai X.K H' (Kp ow H k) ds vs->Q vs H'
def AD(X:Cx)(ρ:ae)(es:List Expr)(ds:List D)(k:Nat):Prop:=∀ow,PA X es (Ri X ow ρ ds k)
theorem bC{t t':TE}(h:PE X e t)(i:∀σ H Q,t' σ H Q->t σ H Q):PE X e t':=fun pins s σ H Q I q=>h pins s σ H Q I (i σ H Q q)
theorem rH{t t':TT}(h:PT X e t)(i:∀σ H Q,t' σ H Q->t σ H Q):PT X e t':=fun pins s σ H Q I q=>h pins s σ H Q I (i σ H Q q)
theorem C8{e:List Expr}{t t':TA}(h:PA X e t)(i:∀σ H Q,t' σ H Q->t σ H Q):PA X e t':=fun pos pins s σ H Q I q=>h pos pins s σ H Q I (i σ H Q q)
def kn(d:D)(k:Nat):Nat:=if d.lless=true then 0 else k
theorem ED.kn{ρ:ae}{d:D}(h:ED X ρ e d k):ED X ρ e d (Sp.kn d k):=by
 unfold Sp.kn
 by_cases f:d.lless=true
 ·rw[if_pos f]
  exact fun ow=>bC (h ow) fun σ H Q ⟨E,q⟩=>⟨E,fun v H' s r=>q v H' s (r.flat _ f)⟩
 ·rw[if_neg f];exact h
variable{C C' ρ ρ':ae}{d y z:D}{ow ow':Ow}{ds l':List D}
def Mc(K:W.Frag)(J:It)(ds:List D)(P:bx)(H1:Hp):Prop :=
 ∀(i:Nat) (H2:Hp),d7 P P H1 H2->(∀d,ds[i]?=some d->J.go i H2/\∀x H3,J.yld i H2 x H3->aw H2 H3/\af K H3 P d x)/\(ds.length<=i->J.stop i H2)
def Kd(ow:Ow)(H:Hp)(k:Nat)(H1:Hp):bx:=fun a b=>Kp ow H k a b/\(b=true->∃o,H1 a=some o)
def tI(X:Cx)(ow:Ow)(ρ:ae)(ds:List D)(k:Nat):TI:=fun σ H R=>aH X ow H σ ρ/\∀J H1,aw H H1->Mc X.K J ds (Kd ow H k H1) H1->R J H1
def IE(X:Cx)(ρ:ae)(tg iter:Expr)(ds:List D)(k:Nat):Prop:=∀ow,PI X tg iter (tI X ow ρ ds k)
def iF(ifs:List Expr)(env:Env):Sem Bool:=forIn ifs true fun c r=>if r=true then do let ok <- isTrue c env (eval c env);pure (ForInStep.yield ok)else pure (ForInStep.yield r)
def Ai(X:Cx)(ρ:ae)(ifs:List Expr)(b:Bool):Prop:=∀ow (pins:List (Addr×Obj)) (s:Shared) (σ:L2.St) (H:Hp) (Q:Bool->Hp->Prop),ah X pins σ H s->BX X ow ρ b σ H Q->wpAny (model X.prog X.w) X.A (iF ifs X.env) (TP X pins σ Q) X.xe s
def GD(X:Cx)(ρ:ae)(tg:Expr)(d:D)(ρ':ae):Prop:=∃g:TG,PG X tg g/\∀(ow:Ow) (v:V) (σ:L2.St) (H:Hp) (Q:L2.St->Hp->Prop),σ.length=X.N.length->aH X ow H σ ρ->af X.K H (fun a b=>b=true->ow a=none) d v->(∀σ',σ'.length=X.N.length->aH X ow H σ' ρ'->Q σ' H)->g v σ H Q
abbrev kW(X:Cx)(scope:Scope)(cl:List (Str×Addr))(C:Addr)(N':List Str)(s:Shared)(H:Hp)(fp:List Addr):Cx :=
 { X with N:=N',s₀:=s,H₀:=H,env:=compEnvC scope cl C X.env,outer:=X.stack,stack:=X.stack,ex:=fp,fn:=fun x=>decide (scope.names.lookup x=some .cell),pn:=[],xe:=fun _ _=>False }
theorem iJ{env:Env}:∀(names:List (Str×NameKind)) (cs:List (Str×Addr)),(∀n,(n,NameKind.free)∈names->∃c,env.cells.lookup n=some c) ->
  ∃cl,(forIn names cs (fun(x:Str×NameKind) (r:List (Str×Addr))=>(if (x.2==NameKind.free)=true then do let a <- cellOf env x.1;pure (ForInStep.yield ((x.1,a)::r))else pure (ForInStep.yield r):Sem (ForInStep (List (Str×Addr))))))=(pure cl:Sem (List (Str×Addr))) /\
   (∀x c,cl.lookup x=some c->(env.cells.lookup x=some c/\(x,NameKind.free)∈names)\/cs.lookup x=some c)/\(∀x,(x,NameKind.free)∈names->∃c,cl.lookup x=some c)/\(∀x c,cs.lookup x=some c->∃c',cl.lookup x=some c')
 | [],cs,_=>⟨cs,rfl,fun x c h=>.inr h,fun x h=>(by cases h),fun x c h=>⟨c,h⟩⟩
 | (n,k)::r,cs,h=>by
  have hr:∀n,(n,NameKind.free)∈r->∃c,env.cells.lookup n=some c:=fun m hm=>h m (List.mem_cons_of_mem _ hm)
  by_cases hk:k=.free
  ·subst hk
   obtain⟨c,hc⟩:=h n List.mem_cons_self
   obtain⟨cl,e,h1,h2,h3⟩:=iJ r ((n,c)::cs) hr
   refine⟨cl,?_,fun x c' hx=>?_,fun x hx=>?_,fun x c' hx=>?_⟩
   ·rw[List.forIn_cons]
    simp only[beq_self_eq_true,if_true,cellOf,hc]
    rw[pure_bind,pure_bind]
    exact e
   ·rcases h1 x c' hx with q|q
    ·exact .inl ⟨q.1,List.mem_cons_of_mem _ q.2⟩
    ·rw[List.lookup_cons]at q
     split at q
     ·rename_i hb
      have:x=n:=by simpa using hb
      subst this;cases q;exact .inl ⟨hc,List.mem_cons_self⟩
     ·exact .inr q
   ·rcases List.mem_cons.mp hx with q|q
    ·cases q
     exact h3 n c (by simp)
    ·exact h2 x q
   ·by_cases hb:x==n
    ·exact h3 x c (by rw[List.lookup_cons,hb])
    ·exact h3 x c' (by rw[List.lookup_cons];simp only[hb];exact hx)
  ·obtain⟨cl,e,h1,h2,h3⟩:=iJ r cs hr
   refine⟨cl,?_,fun x c hx=>(h1 x c hx).imp (fun q=>⟨q.1,List.mem_cons_of_mem _ q.2⟩) id,fun x hx=>?_,h3⟩
   ·rw[List.forIn_cons]
    have:(k==NameKind.free)=false:=by simpa using hk
    simp only[this,Bool.false_eq_true,if_false]
    rw[pure_bind]
    exact e
   ·rcases List.mem_cons.mp hx with q|q
    ·cases q;exact absurd rfl hk
    ·exact h2 x q
theorem uK(h:∀n,(n,NameKind.free)∈scope.names->∃c,env.cells.lookup n=some c) :
  ∃cl,closureFor scope env=pure cl/\(∀x c,cl.lookup x=some c->env.cells.lookup x=some c/\(x,NameKind.free)∈scope.names)/\(∀x,(x,NameKind.free)∈scope.names->∃c,cl.lookup x=some c):=by
 obtain⟨cl,e,h1,h2,_⟩:=iJ scope.names [] h
 refine⟨cl,?_,fun x c hx=>(h1 x c hx).resolve_right (by simp),h2⟩
 unfold closureFor
 rw[<- e,<- bind_pure (forIn scope.names _ _)]
theorem de{env:Env}:∀{names:List (Str×NameKind)} {x:Str},names.lookup x=some .free ->
  (names.map fun(n,k)=>if (k==NameKind.free&&env.scope.kind == .function&&env.kindOf n==some .cell)then(n,NameKind.cell)else(n,k)).lookup x=some .cell \/
  (names.map fun(n,k)=>if (k==NameKind.free&&env.scope.kind == .function&&env.kindOf n==some .cell)then(n,NameKind.cell)else(n,k)).lookup x=some .free
 | [],_,h=>by simp at h
 | (n,k)::r,x,h=>by
  have ih:=@de env r x
  show List.lookup x ((if (k==NameKind.free&&env.scope.kind == .function&&env.kindOf n==some .cell)=true then(n,NameKind.cell)else(n,k))::_)=_\/List.lookup x ((if (k==NameKind.free&&env.scope.kind == .function&&env.kindOf n==some .cell)=true then(n,NameKind.cell)else(n,k))::_)=_
  cases hx:x==n with
  | true =>
   simp only[List.lookup_cons,hx]at h
   cases h
   by_cases hc:(NameKind.free==NameKind.free&&env.scope.kind == .function&&env.kindOf n==some .cell)=true
   ·rw[if_pos hc];simp[List.lookup_cons,hx]
   ·rw[if_neg hc];simp[List.lookup_cons,hx]
  | false =>
   simp only[List.lookup_cons,hx]at h
   by_cases hc:(k==NameKind.free&&env.scope.kind == .function&&env.kindOf n==some .cell)=true
   ·rw[if_pos hc];simp only[List.lookup_cons,hx];exact ih h
   ·rw[if_neg hc];simp only[List.lookup_cons,hx];exact ih h
theorem gw{env:Env}:∀{names:List (Str×NameKind)} {x:Str} {k:NameKind},(names.map fun(n,k)=>if (k==NameKind.free&&env.scope.kind == .function&&env.kindOf n==some .cell)then(n,NameKind.cell)else(n,k)).lookup x=some k ->
  names.lookup x=some k\/(k=.cell/\names.lookup x=some .free)
 | [],_,_,h=>by simp at h
 | (n,j)::r,x,k,h=>by
  have ih:=@gw env r x k
  replace h:List.lookup x ((if (j==NameKind.free&&env.scope.kind == .function&&env.kindOf n==some .cell)=true then(n,NameKind.cell)else(n,j))::_)=some k:=h
  cases hx:x==n with
  | true =>
   simp only[List.lookup_cons,hx]
   by_cases hc:(j==NameKind.free&&env.scope.kind == .function&&env.kindOf n==some .cell)=true
   ·rw[if_pos hc]at h
    simp only[List.lookup_cons,hx]at h
    cases h
    have:j=.free:=by
     have:=(Bool.and_eq_true _ _).mp ((Bool.and_eq_true _ _).mp hc).1
     simpa using this.1
    exact .inr ⟨rfl,by rw[this]⟩
   ·rw[if_neg hc]at h
    simp only[List.lookup_cons,hx]at h
    exact .inl h
  | false =>
   simp only[List.lookup_cons,hx]
   by_cases hc:(j==NameKind.free&&env.scope.kind == .function&&env.kindOf n==some .cell)=true
   ·rw[if_pos hc]at h;simp only[List.lookup_cons,hx]at h;exact ih h
   ·rw[if_neg hc]at h;simp only[List.lookup_cons,hx]at h;exact ih h
structure gU(env:Env)(scope:Scope)(N':List Str):Prop where
 kind:scope.kind=.function
 nn:(scope.names.map (·.1)).Nodup
 names:∀y∈scope.names,y.2=.local->scope.names.lookup y.1=some .local
 nd:N'.Nodup
 fr:∀n,(n,NameKind.free)∈scope.names->env.kindOf n=some .cell\/env.kindOf n=some .free
theorem sT:∀{names:List (Str×NameKind)} {x:Str} {k:NameKind},(names.map (·.1)).Nodup->(x,k)∈names->names.lookup x=some k
 | [],_,_,_,h=>by cases h
 | (n,j)::r,x,k,nd,h=>by
  rw[List.map_cons,List.nodup_cons]at nd
  rcases List.mem_cons.mp h with e|h'
  ·cases e;simp
  ·have hx:(x==n)=false:=by
    cases q:x==n with
    | false=>rfl
    | true =>
     have:x=n:=by simpa using q
     subst this
     have hm:x∈r.map (·.1):=List.mem_map.mpr ⟨(x,k),h',rfl⟩
     exact absurd hm nd.1
   rw[List.lookup_cons,hx]
   exact sT nd.2 h'
theorem oA:∀(names:List (Str×NameKind)) (n:Nat) (acc:List (Str×Addr)) {x:Str} {c:Addr},(cellsFrom n names acc).lookup x=some c->acc.lookup x=some c\/(n<=c/\(x,NameKind.cell)∈names)
 | [],_,_,_,_,h=>.inl h
 | (y,k)::r,n,acc,x,c,h=>by
  unfold cellsFrom at h
  split at h
  ·rename_i hk
   have hk:k=.cell:=by simpa using hk
   subst hk
   rcases oA r (n+1) ((y,n)::acc) h with q|⟨q1,q2⟩
   ·rw[List.lookup_cons]at q
    split at q
    ·rename_i hb
     have:x=y:=by simpa using hb
     subst this
     cases q
     exact .inr ⟨Nat.le_refl _,List.mem_cons_self⟩
    ·exact .inl q
   ·exact .inr ⟨by omega,List.mem_cons_of_mem _ q2⟩
  ·rcases oA r n acc h with q|⟨q1,q2⟩
   ·exact .inl q
   ·exact .inr ⟨q1,List.mem_cons_of_mem _ q2⟩
theorem t6:∀(names:List (Str×NameKind)) (n:Nat) (acc:List (Str×Addr)),(∀x y c,acc.lookup x=some c->acc.lookup y=some c->x=y)->(∀x c,acc.lookup x=some c->c<n) ->
  ∀x y c,(cellsFrom n names acc).lookup x=some c->(cellsFrom n names acc).lookup y=some c->x=y
 | [],_,_,h,_,x,y,c,a,b=>h x y c a b
 | (z,k)::r,n,acc,h,hb,x,y,c,a,b=>by
  unfold cellsFrom at a b
  split at a
  ·rename_i hk
   rw[if_pos hk]at b
   refine t6 r (n+1) ((z,n)::acc) (fun u v d p q=>?_) (fun u d p=>?_) x y c a b
   ·rw[List.lookup_cons]at p q
    split at p
    ·rename_i e1
     split at q
     ·rename_i e2
      rw[show u=z by simpa using e1,show v=z by simpa using e2]
     ·cases p;exact absurd (hb v _ q) (Nat.lt_irrefl _)
    ·split at q
     ·cases q;exact absurd (hb u _ p) (Nat.lt_irrefl _)
     ·exact h u v d p q
   ·rw[List.lookup_cons]at p
    split at p
    ·cases p;exact Nat.lt_succ_self _
    ·exact Nat.lt_succ_of_lt (hb u d p)
  ·rename_i hk
   rw[if_neg hk]at b
   exact t6 r n acc h hb x y c a b
theorem pN:∀(names:List (Str×NameKind)) (h:Heap) (acc:List (Str×Addr)),(∀x c,acc.lookup x=some c->∃v,h.IsCell c v)->∀x c,(cellsFrom h.objs.size names acc).lookup x=some c->∃v,(pushCells h names).IsCell c v
 | [],_,_,h,x,c,a=>h x c a
 | (z,k)::r,h,acc,hc,x,c,a=>by
  unfold cellsFrom at a
  unfold pushCells
  split at a
  ·rename_i hk
   rw[if_pos hk]
   have:=pN r (h.push { cls:=.type "cell", data:=.cell none }) ((z,h.objs.size)::acc) (fun u d p=>?_) x c
   ·rw[Heap.size_push]at this
    exact this a
   ·rw[List.lookup_cons]at p
    split at p
    ·cases p;exact⟨none,_,Heap.get?_push_size _ rfl,rfl⟩
    ·obtain⟨v,q⟩:=hc u d p
     exact⟨v,q.keeps fun b o e=>Heap.get?_push_of_some _ e⟩
  ·rename_i hk
   rw[if_neg hk]
   exact pN r h acc hc x c a
theorem xU{globals:Addr}{Q:Env->Shared->Prop}(hcl:∀x c,cl.lookup x=some c->∃v,s.heap.IsCell c v)
  (h:∀h',h'.Ns s.heap.objs.size (fun _=>none)->(∀b o,s.heap.get? b=some o->h'.get? b=some o)->(∀x c,(cellsFrom (s.heap.objs.size+1) scope.names cl).lookup x=some c->∃v,h'.IsCell c v) ->
   Q (newEnv scope s.heap.objs.size globals (cellsFrom (s.heap.objs.size+1) scope.names cl) qual none .none (some env) builtinsNs) { s with heap:=h',toks:=s.toks+0 }) :
  wpAny M A (newFunctionEnv scope globals cl [] qual none .none (some env)) Q E s:=by
 simp only[newFunctionEnv,Option.isSome_some,if_true]
 refine wpAny_bind (wpAny_alloc ?_)
 refine wpAny_bind (wpAny_layCells _ (fun name kind cells=>by cases hkc:kind==NameKind.cell<;>simp[hkc]) _ _ _ _ ?_)
 rw[show({ s with heap:=s.heap.push { cls:=.type "dict", data:=.dict #[] } }:Shared).heap.objs.size=s.heap.objs.size+1 from Heap.size_push ..]
 rw[List.forIn_nil]
 refine wpAny_bind (wpAny_pure (wpAny_pure ?_))
 refine h _ ((Heap.Ns.new s.heap (.type "dict")).keeps (pushCells_keeps _ _)) (fun b o e=>pushCells_keeps _ _ b o (Heap.get?_push_of_some _ e)) fun x c hc=>?_
 have:=pN scope.names (s.heap.push { cls:=.type "dict", data:=.dict #[] }) cl (fun u d p=>by
  obtain⟨v,q⟩:=hcl u d p
  exact⟨v,q.keeps fun b o e=>Heap.get?_push_of_some _ e⟩) x c
 rw[Heap.size_push]at this
 exact this hc
structure lS(X:Cx)(scope:Scope)(cl:List (Str×Addr))(n:Nat):Prop where
 k1:∀x c,cl.lookup x=some c->X.env.cells.lookup x=some c\/(n<c/\scope.names.lookup x=some .cell)
 k2:∀x,scope.names.lookup x=some .free\/scope.names.lookup x=some .cell->∃c,cl.lookup x=some c
 k4:∀x y c,cl.lookup x=some c->cl.lookup y=some c->x=y
 k5:∀x c,scope.names.lookup x=some .cell->cl.lookup x=some c->n<=c
variable{X:Cx}
theorem Bo(I:ah X pins σ H s)(S:gU X.env scope N')
  (h1:∀x c,cl.lookup x=some c->X.env.cells.lookup x=some c/\(x,NameKind.free)∈scope.names) (h2:∀x,(x,NameKind.free)∈scope.names->∃c,cl.lookup x=some c) :
  lS X scope (cellsFrom (s.heap.objs.size+1) scope.names cl) s.heap.objs.size where
 k1:=fun x c h=>by
  rcases oA _ _ _ h with q|⟨q1,q2⟩
  ·exact .inl (h1 x c q).1
  ·exact .inr ⟨q1,sT S.nn q2⟩
 k2:=fun x h=>by
  refine Option.isSome_iff_exists.mp (W.cellsFrom_some scope.names _ cl ?_)
  rcases h with h|h
  ·obtain⟨c,hc⟩:=h2 x (PySem.mem_of_lookup h)
   exact .inr (by rw[hc];rfl)
  ·exact .inl h
 k4:=t6 scope.names _ cl (fun x y c a b=>I.ok.inj x y c (h1 x c a).1 (h1 y c b).1) fun x c a=>by
  obtain⟨v,hv⟩:=I.cell x c (h1 x c a).1
  exact Nat.lt_succ_of_lt hv.lt
 k5:=fun x c hx h=>by
  rcases oA _ _ _ h with q|⟨q1,q2⟩
  ·rw[sT S.nn (h1 x c q).2]at hx;cases hx
  ·omega
theorem KP{C:Addr}(I:ah X pins σ H s)(S:gU X.env scope N')
  (hC:s.heap.objs.size<=C) (k:lS X scope cl s.heap.objs.size)
  (hf:∀b∈fp,g7 X pins H b) (hfC:∀b∈fp,b<s.heap.objs.size):(kW X scope cl C N' s H fp).Ok where
 mod:=I.ok.mod
 kind:=by show(relabel scope X.env).kind=_;exact S.kind
 glob:=I.ok.glob
 blt:=I.ok.blt
 above:=hC
 inj:=k.k4
 has:=fun x hx=>by
  have hx:(relabel scope X.env).names.lookup x=some .cell\/(relabel scope X.env).names.lookup x=some .free:=hx
  rcases hx with hx|hx
  ·rcases gw hx with q|⟨_,q⟩
   ·exact k.k2 x (.inr q)
   ·exact k.k2 x (.inl q)
  ·rcases gw hx with q|⟨q,_⟩
   ·exact k.k2 x (.inl q)
   ·cases q
 cab:=fun x c h hc=>k.k5 x c (of_decide_eq_true h) hc
 hd:=I.ok.hd
 frames:=I.ok.frames
 stk:=.inl rfl
 exf:=fun b hb=>⟨by have:=hfC b hb;intro z;subst z;show False;exact absurd (Nat.lt_of_lt_of_le this hC) (Nat.lt_irrefl _),fun x c h=>by
  rcases k.k1 x c h with q|⟨q,_⟩
  ·exact(hf b hb).2.2.2.2.1 x c q
  ·have:=hfC b hb
   intro z;subst z;exact absurd (Nat.lt_trans q this) (Nat.lt_irrefl _)⟩
 bs:=I.bs
 bsz:=Nat.le_trans I.ok.bsz I.sz
 noex:=fun b o e hb=>by
  rcases(hf b hb).2.2.2.1 with q|q
  ·exact I.ok.noex b o e q
  ·exact absurd (Nat.lt_of_lt_of_le (Heap.lt_size e) (Nat.le_trans I.ok.bsz q)) (Nat.lt_irrefl _)
 exfs:=fun b hb z=>by
  rcases List.mem_cons.mp (I.stkSub b z)with q|q
  ·exact(hf b hb).2.1 q
  ·exact(hf b hb).2.2.1 q
 funs:=I.stack
 frf:=I.stkFree
def mD(X:Cx)(scope:Scope)(N':List Str)(σ:L2.St):L2.St:=N'.map fun x=>if scope.names.lookup x=some .free then(σ[X.N.idxOf x]?).join else none
theorem HW{s1:Shared}{m:Str->Option Value}(I:ah X pins σ H s)(S:gU X.env scope N')
  (k:lS X scope cl s.heap.objs.size) (k6:∀x c,cl.lookup x=some c->∃v,s1.heap.IsCell c v)
  (hf:∀b∈fp,g7 X pins H b) (hfC:∀b∈fp,b<s.heap.objs.size)
  (es:∃h t,s1 = { s with heap:=h,toks:=t }) (hns:s1.heap.Ns s.heap.objs.size m) (hk:∀b o,s.heap.get? b=some o->s1.heap.get? b=some o) :
  ah (kW X scope cl s.heap.objs.size N' s H fp) [] (mD X scope N' σ) H s1:=by
 obtain⟨h',t,rfl⟩:=es
 have I1:ah X pins σ H { s with heap:=h',toks:=t }:=I.kept hk
 refine⟨KP I S (Nat.le_refl _) k hf hfC,rfl,I.bare,Un.kept hk,⟨m,hns,fun i x v e1 e2 e3=>?_⟩,k6,I.hok.fresh (Nat.le_refl _),fun x c h=>(k.k1 x c h).elim (fun q=>I.freeC x c q) fun q=>I.hok.fresh (Nat.le_of_lt q.1),fun p hp=>absurd (show p∈([]:List (Addr×Obj))from hp) (by simp),I1.hok,?_⟩
 ·have hN:N'[i]?=some x:=e1
  unfold mD at e2
  rw[List.getElem?_map,hN]at e2
  simp only[Option.map_some,Option.some.injEq]at e2
  split at e2
  ·rename_i hfr
   have hj:σ[X.N.idxOf x]?=some (some v):=by
    cases q:σ[X.N.idxOf x]? with
    | none=>rw[q]at e2;cases e2
    | some y=>rw[q]at e2;rw[show y=some v from e2]
   have hlt:X.N.idxOf x<X.N.length:=by rw[<- I.len];exact(List.getElem?_eq_some_iff.mp hj).1
   have hx:X.N[X.N.idxOf x]?=some x:=by
    rw[List.getElem?_eq_getElem hlt,List.getElem_idxOf hlt]
   have kf:=S.fr x (PySem.mem_of_lookup hfr)
   have vis:fy X.env.scope x:=.inr (kf.imp id id)
   obtain⟨m1,hn1,hl1⟩:=I1.loc
   obtain⟨u,r,l⟩:=hl1 _ x v hx hj vis
   refine⟨u,r,.inr ⟨?_,?_⟩⟩
   ·exact de hfr
   ·rcases l with⟨hk',_⟩|⟨_,c,hc,hcell⟩
    ·rcases kf with q|q<;>rw[q]at hk'<;>cases hk'
    ·obtain⟨c',hc'⟩:=k.k2 x (.inl hfr)
     have:c'=c:=by
      rcases k.k1 x c' hc' with this|⟨_,this⟩
      ·rw[hc]at this;exact(Option.some.inj this).symm
      ·rw[hfr]at this;cases this
     subst this
     exact⟨c',hc',hcell⟩
  ·cases e2
 ·unfold mD;simp
def flt(scope:Scope)(ρ:ae):ae:=fun x=>if scope.names.lookup x=some .free then ρ x else none
theorem jV{y:D×Bool}(h:flt scope ρ x=some y):ρ x=some y/\scope.names.lookup x=some .free:=by
 unfold flt at h
 split at h
 ·rename_i e;exact⟨h,e⟩
 ·cases h
theorem IH{C:Addr}(E:aH X ow H σ ρ)(hN:X.N.Nodup)
  (hsub:∀x d o,flt scope ρ x=some (d,o)->x∈N') :
  aH (kW X scope cl C N' s H0 fp) ow H (mD X scope N' σ) (flt scope ρ):=by
 refine⟨fun x d o h=>?_,E.own⟩
 obtain⟨h1,h2⟩:=jV h
 obtain⟨i,v,e1,e2,e3,e4⟩:=E.get x d o h1
 have hx:x∈N':=hsub x d o h
 have hi:X.N.idxOf x=i:=by
  have hm:x∈X.N:=List.mem_of_getElem? e1
  have hlt:=List.idxOf_lt_length_iff.mpr hm
  exact iw hN (by rw[List.getElem?_eq_getElem hlt,List.getElem_idxOf hlt]) e1
 refine⟨N'.idxOf x,v,?_,?_,?_,e4⟩
 ·have hlt:=List.idxOf_lt_length_iff.mpr hx
  show N'[N'.idxOf x]?=some x
  rw[List.getElem?_eq_getElem hlt,List.getElem_idxOf hlt]
 ·exact .inr (de h2)
 ·have hlt:=List.idxOf_lt_length_iff.mpr hx
  unfold mD
  rw[List.getElem?_map,List.getElem?_eq_getElem hlt,List.getElem_idxOf hlt]
  simp only[Option.map_some]
  rw[if_pos h2,hi,e3];rfl
variable{X:Cx}
theorem zC{prog:Program}{R:Result->Shared->Prop}{target:Expr}{it acc:Value}(J:Nat->Shared->Prop)
    (turn:∀n s,J n s->wpAny (model prog w) A (pyNext it) (fun r s₁=>match r with
      | none=>R (.ok .next) s₁
      | some v=>wpAny (model prog w) A (letOwnedTupleGo target it v) (fun _ s₁=>wpAny (model prog w) A (assign target env v) (fun _ s₂ =>
          wpAny (model prog w) A (iF ifs env) (fun ok s₃ =>
            if ok=true then wpAny (model prog w) A (eval elt env) (fun x s₄ =>
              wpAny (model prog w) A (call (.builtin "list.append") [acc,x]) (fun _ s₅ => ∃m,m<n/\J m s₅) (fun _ _=>False) s₄) (fun _ _=>False) s₃
            else ∃m,m<n/\J m s₃) (fun _ _=>False) s₂) (fun _ _=>False) s₁) (fun _ _=>False) s₁) (fun _ _=>False) s)
    (n:Nat) (h:J n s):codeAny (model prog w) A (.compLoop (.ListComp elt [⟨target,iter,ifs,0⟩] scope pos) 0 it acc env) R s:=by
  refine codeAny_loop rfl J (fun n s hI=>?_) n h
  show wpAny _ A ((compTurn (.ListComp elt [⟨target,iter,ifs,0⟩] scope pos) 0 it acc env).onRaise (fun x=>do noteFrame x env;theTreesLotGoes x)) _ _ s
  refine wpAny_noted ?_
  rw[compTurn_list]
  refine wpAny_bind (wpAny_standAt (wpAny_bind (wpAny_mono (turn n s hI) (fun r s₁ h₁=>?_) fun _ _ h'=>h'.elim)))
  cases r with
  | none=>exact wpAny_pure h₁
  | some v =>
    refine wpAny_bind (wpAny_mono h₁ (fun _ s₁' h₁'=>?_) fun _ _ h'=>h'.elim)
    refine wpAny_bind (wpAny_mono h₁' (fun _ s₂ h₂=>wpAny_bind (wpAny_mono h₂ (fun ok s₃ h₃=>?_) fun _ _ h'=>h'.elim)) fun _ _ h'=>h'.elim)
    cases ok with
    | false=>exact wpAny_pure ⟨rfl,h₃⟩
    | true =>
      exact wpAny_bind (wpAny_bind (wpAny_mono h₃ (fun x s₄ h₄=>wpAny_bind (wpAny_mono h₄ (fun _ s₅ h₅=>wpAny_pure (wpAny_pure ⟨rfl,h₅⟩)) fun _ _ h'=>h'.elim)) fun _ _ h'=>h'.elim))
def lP(X:Cx)(ρ:ae)(tg:Expr)(ifs:List Expr)(elt:Expr)(k:Nat)(d:D)(r:Option D):Prop :=
 ∃ρ' b,GD X ρ tg d ρ'/\(∀x y,ρ x=some y->ρ' x=some y)/\Ai X ρ' ifs b/\match r with|some d'=>b=true/\ED X ρ' elt d' k|none=>b=false
theorem dY(o:fi ow H){a:Addr}:∀{k:Nat},k<=1->Kp ow H k a true->ow a=none
 | 0,_,p=>o.free p.2
 | 1,_,p=>p rfl
 | _+2,h,_=>absurd h (by omega)
theorem Er{H9:Hp}{D:Addr}{x:HO}(sm:aw H H9)(hD:H9 D=some x){a:Addr}:∀{k:Nat},k<=1->Kp (fun a=>if a=D then some none else ow a) H9 k a b->Kp ow H k a b/\(b=true->a≠D)
 | 0,_,p=>⟨⟨p.1,sm.free p.2⟩,fun _ z=>by subst z;have:=p.2;rw[hD]at this;cases this⟩
 | 1,_,p=>by
  have p:b=true->(if a=D then some none else ow a)=none:=p
  refine⟨fun hb=>?_,fun hb hz=>?_⟩
  ·have p:=p hb
   by_cases hz:a=D
   ·rw[if_pos hz]at p;cases p
   ·rw[if_neg hz]at p;exact p
  ·have p:=p hb
   rw[if_pos hz]at p;cases p
 | _+2,h,_=>absurd h (by omega)
theorem yY{D:Addr}(o:fi ow H)(hD:H D=none):∀{k:Nat},k<=1->Kp ow H k D true
 | 0,_=>⟨rfl,hD⟩
 | 1,_=>fun _=>o.free hD
 | _+2,h=>absurd h (by omega)
theorem nJ:∀{l:List D} {i:Nat} {d:D},ax l=true->l[i]?=some d->d.lless=true
 | [],_,_,_,h=>by simp at h
 | x::l,0,d,f,h=>by
  rw[ax,Bool.and_eq_true]at f
  simp at h;subst h;exact f.1
 | x::l,i+1,d,f,h=>by
  rw[ax,Bool.and_eq_true]at f
  exact nJ (i:=i) f.2 (by simpa using h)
structure lR(X:Cx)(pins:List (Addr×Obj))(σ:L2.St)(H5:Hp)(s6:Shared)(C:Addr)(m6:Str->Option Value):Prop where
 inv:ah X pins σ H5 s6
 ns:s6.heap.Ns C m6
 free:H5 C=none
 loc:C≠X.env.locals
 old:X.s₀.heap.objs.size<=C
 cell:∀x c,X.env.cells.lookup x=some c->c≠C
 pin:∀p∈X.pn++pins,p.1≠C
 fs:C∉X.fs
theorem qB{use:Option (Value->Sem Unit)}{Q':Value->Shared->Prop}{pos2:Pos}{f:D->Option D}
  (hcalm:X.calm=true) (hN:X.N.Nodup) (hk:ax ds=true\/k<=1) (hko:ko<=1) (hlen:ds.length<sizeLine) (S:gU X.env scope N') (hsub:∀x d o,flt scope ρ x=some (d,o)->x∈N')
  (hi:IE X ρ tg iter ds k)
  (turn:∀cl C s H fp,∀d∈ds,lP (kW X scope cl C N' s H fp) (flt scope ρ) tg ifs elt ko d (f d))
  (hs:∀x,foldedSetIterable iter X.env x=pure x) (I:ah X pins σ H s) (E:aH X ow H σ ρ)
  (fin:∀D C s6 H5 m6,lR X pins σ H5 s6 C m6->aw H H5->af X.K H5 (Kp ow H ko) (.lst (ds.filterMap f)) (.ref D)->compPost (model X.prog X.w) X.A X.xe use Q' (.ref D) C (.ok .next) s6) :
  wpAny (model X.prog X.w) X.A (comprehension (.ListComp elt [⟨tg,iter,ifs,0⟩] scope pos) scope X.env pos2 (newList []) false (eval iter X.env) use) Q' X.xe s:=by
 obtain⟨cl,hclos,h1,h2⟩:=uK (env:=X.env) (scope:=scope) fun n hn=>I.ok.has n (S.fr n hn)
 refine wpAny_comprehension_free rfl hs hclos S.kind S.names ?_
 refine aG (hi ow pins s σ H (fun J H1=>aw H H1/\Mc X.K J ds (Kd ow H k H1) H1) I ⟨E,fun J H1 a b=>⟨a,b⟩⟩) fun v s1 h1'=>aG h1' fun itv s2 h2'=>?_
 obtain⟨it,fp,tn,J,H2,rfl,I2,T,st2,f2,s12,itd⟩:=h2'
 have hD2:H2 s2.heap.objs.size=none:=I2.hok.fresh (Nat.le_refl _)
 refine wpAny_newObj_type (xU (fun x c hc=>(I2.cell x c (h1 x c hc).1).imp fun v q=>q.keeps fun b o e=>Heap.get?_push_of_some _ e) fun h₁ hns₁ kp0 k60=>?_)
 have I3:ah X pins σ (aM H2 s2.heap.objs.size (.lst [])) { s2 with heap:=s2.heap.push { cls:=.type "list", dict:=none,data:=.seq ([]:List Value).toArray } } :=
  I2.laid (t':=s2.toks) (fun b u e=>Heap.get?_push_of_some _ e) (Nat.le_refl _) ⟨Nat.zero_le _,[],0,.nil,Heap.get?_push_size _ rfl⟩
 generalize hD:s2.heap.objs.size=D at *
 generalize hs3:({ s2 with heap:=s2.heap.push { cls:=.type "list", dict:=none,data:=.seq ([]:List Value).toArray } }:Shared)=s3 at *
 have hsz3:s3.heap.objs.size=D+1:=by rw[<- hs3];show(s2.heap.push _).objs.size=_;rw[Heap.size_push,hD]
 have f3:∀b∈fp,g7 X pins (aM H2 D (.lst [])) b:=fun b hb=>by
  obtain⟨g0,g⟩:=f2 b hb
  obtain⟨o,e,_⟩:=T.obj _ _ st2 b hb
  have hlt:=Heap.lt_size e
  rw[hD]at hlt
  exact⟨by rw[ay (Nat.ne_of_lt hlt)];exact g0,g⟩
 have fl3:∀b∈fp,b<s3.heap.objs.size:=fun b hb=>by
  obtain⟨o,e,_⟩:=T.obj _ _ st2 b hb
  have hlt:=Heap.lt_size e
  rw[hD]at hlt
  rw[hsz3];exact Nat.lt_succ_of_lt hlt
 have kp:∀b o,s3.heap.get? b=some o->h₁.get? b=some o:=kp0
 have kc:lS X scope (cellsFrom (s3.heap.objs.size+1) scope.names cl) s3.heap.objs.size:=Bo I3 S h1 h2
 generalize hcl':cellsFrom (s3.heap.objs.size+1) scope.names cl=cl' at *
 have I4:=HW (s1:={ s3 with heap:=h₁,toks:=s3.toks+0 }) (N':=N') I3 S kc k60 f3 fl3 ⟨_,_,rfl⟩ hns₁ kp
 have sH2:∀vs,aw H2 (aM H2 D (.lst vs)):=fun vs b o e=>by rw[ay (aV e hD2)];exact e
 let ow':Ow:=fun a=>if a=D then some none else ow a
 have ow'D:ow' D=some none:=if_pos rfl
 have ow'n:∀a,a≠D->ow' a=ow a:=fun a h=>if_neg h
 have own':∀{H':Hp} (vs:List V),H' D=some (.lst vs)->aw H2 H'->fi ow' H':=fun {H'} vs hd sm a ha=>by
  by_cases hz:a=D
  ·subst hz;exact⟨_,hd⟩
  ·rw[ow'n a hz]at ha
   obtain⟨o,e⟩:=(E.same s12).own a ha
   exact⟨o,sm a o e⟩
 have E4:aH (kW X scope cl' s3.heap.objs.size N' s3 (aM H2 D (.lst [])) fp) ow' (aM H2 D (.lst [])) (mD X scope N' σ) (flt scope ρ):=by
  have E3:=IH (scope:=scope) (cl:=cl') (C:=s3.heap.objs.size) (N':=N') (s:=s3) (fp:=fp) (H0:=aM H2 D (.lst [])) (E.same s12) hN hsub
  refine⟨fun x d o h=>?_,own' [] aI (sH2 [])⟩
  obtain⟨i,v,e1,e2,e3,e4⟩:=E3.get x d o h
  refine⟨i,v,e1,e2,e3,af.same (sH2 []) (e4.impH (fun a ob ha p=>?_) fun a p=>?_)⟩
  ·have hz:a≠D:=aV ha hD2
   cases o with
   | true=>exact⟨p.1,(ow'n a hz).trans p.2⟩
   | false=>exact fun _=>(ow'n a hz).trans (p rfl)
  ·cases o with
   | true=>cases p.1
   | false=>exact fun z=>(by cases z)
 generalize hX':kW X scope cl' s3.heap.objs.size N' s3 (aM H2 D (.lst [])) fp=X' at *
 have turn':∀d∈ds,lP X' (flt scope ρ) tg ifs elt ko d (f d):=fun d hd=>by rw[<- hX'];exact turn _ _ _ _ _ d hd
 have eK:X'.K=X.K:=by rw[<- hX']
 have eP:X'.prog=X.prog:=by rw[<- hX']
 have eW:X'.w=X.w:=by rw[<- hX']
 have eA:X'.A=X.A:=by rw[<- hX']
 have eE:X'.env=compEnvC scope cl' s3.heap.objs.size X.env:=by rw[<- hX']
 have eX:X'.xe=fun _ _=>False:=by rw[<- hX']
 have eC:X'.calm=true:=by rw[<- hX'];exact hcalm
 have stat:∀{H':Hp},(∀b∈fp,H' b=none)->∀b∈fp,g7 X' [] H' b:=fun hn b hb=>by
  rw[<- hX']
  refine⟨hn b hb,?_,?_,.inl hb,fun x c h=>(kc.k1 x c h).elim (fun q=>(f3 b hb).2.2.2.2.1 x c q) (fun q z=>by subst z;exact absurd (Nat.lt_trans q.1 (fl3 _ hb)) (Nat.lt_irrefl _)),fun p hp=>absurd (show p∈([]:List (Addr×Obj))from hp) (by simp)⟩
  ·show b≠s3.heap.objs.size
   exact Nat.ne_of_lt (fl3 b hb)
  ·intro z
   rcases List.mem_cons.mp (I3.stkSub b z)with q|q
   ·exact(f3 b hb).2.1 q
   ·exact(f3 b hb).2.2.1 q
 let Pe:bx:=fun a b=>Kp ow H ko a b/\(b=true->a≠D)
 have loop:codeAny (model X.prog X.w) X.A (.compLoop (.ListComp elt [⟨tg,iter,ifs,0⟩] scope pos) 0 (.ref it) (.ref D) (compEnvC scope cl' s3.heap.objs.size X.env)) (compPost (model X.prog X.w) X.A X.xe use Q' (.ref D) s3.heap.objs.size) { s3 with heap:=h₁,toks:=s3.toks+0 }:=by
  refine zC (fun n s' => ∃(i:Nat) (σ':L2.St) (H':Hp) (vs:List V),ah X' [] σ' H' s'/\tn i s'.heap/\(∀b∈fp,H' b=none)/\aH X' ow' H' σ' (flt scope ρ)/\H' D=some (.lst vs)/\aw H2 H' /\
   ai X.K H' Pe ((ds.take i).filterMap f) vs/\i<=ds.length/\n=ds.length-i) ?_ ds.length
   ⟨0,mD X scope N' σ,aM H2 D (.lst []),[],I4,?_,fun b hb=>(f3 b hb).1,E4,aI,sH2 [],?_,Nat.zero_le _,rfl⟩
  ·rintro n s5 ⟨i,σ5,H5,vs,I5,st5,fr5,E5,hD5,sm5,rp5,hi5,rfl⟩
   have stay:d7 (Kd ow H k H2) (Kd ow H k H2) H2 H5:=.same sm5 fun _ _ p=>p
   have itd5:=itd i H5 stay
   by_cases hlt:i<ds.length
   ·obtain⟨go,yl⟩:=itd5.1 ds[i] (by simp[hlt])
    have Ti:=T.item X' eP eW eK eC i [] s5 σ5 H5 (fun _ _=>False) I5 (stat fr5) st5 go
    rw[eA]at Ti
    refine aG Ti fun r s6 ⟨u,hr,h6⟩=>?_
    subst hr
    refine aG h6 fun _ s7 ⟨x,H7,I7,r7,y7,st7,fr7⟩=>?_
    obtain⟨sm7,rx7⟩:=yl x H7 y7
    obtain⟨ρ',b,⟨g,hg,hgd⟩,hext,hts,hel⟩:=turn' ds[i] (List.getElem_mem hlt)
    have rx7':af X'.K H7 (fun a b=>b=true->ow' a=none) ds[i] x:=by
     rw[eK]
     rcases hk with hk|hk
     ·exact rx7.flat _ (nJ hk (List.getElem?_eq_getElem hlt))
     refine rx7.impH (fun a o ha p _=>?_) fun a _ z=>(by cases z)
     obtain⟨p,p2⟩:=p
     obtain⟨o2,ho2⟩:=p2 rfl
     show ow' a=none
     rw[ow'n a (aV ho2 hD2)]
     exact dY E.own hk p
    have E7:=E5.same sm7
    have I7':=I7.pinned (stat fr7) (T.obj _ _ st7)
    have hg':=hg _ s7 σ5 H7 x u (fun σ' H'=>aH X' ow' H' σ' ρ'/\H7=H') I7' r7 (hgd ow' x σ5 H7 _ I7.len E7 rx7' fun σ' _ e=>⟨e,rfl⟩)
    rw[eP,eW,eA,eE,eX]at hg'
    refine aG hg' fun _ s8 ⟨σ8,H8,I8,E8,eH8⟩=>?_
    subst eH8
    have ht':=hts ow' _ s8 σ8 H7 (fun c H'=>c=b/\aw H7 H') I8 ⟨E8,fun H' sm=>⟨rfl,sm⟩⟩
    rw[eP,eW,eA,eE,eX]at ht'
    refine aG ht' fun c s9 ⟨H9,I9,ec,sm9⟩=>?_
    subst ec
    have back:∀{H':Hp} {σ':L2.St} {s':Shared},ah X' ([]++jr fp s7.heap) σ' H' s'->ah X' [] σ' H' s'/\tn (i+1) s'.heap/\∀b∈fp,H' b=none:=fun {H' σ' s'} J7=>by
     refine⟨J7.unpinned,T.keep _ _ _ st7 fun b hb o e=>(J7.pin (b,o) (List.mem_append_right _ (List.mem_append_right _ (fe hb e)))).1,fun b hb=>?_⟩
     obtain⟨o,e,d⟩:=T.obj _ _ st7 b hb
     exact(J7.pin (b,o) (List.mem_append_right _ (List.mem_append_right _ (fe hb e)))).2.1
    have envf:∀{H':Hp} {σ':L2.St},aH X' ow' H' σ' ρ'->aH X' ow' H' σ' (flt scope ρ):=fun {H' σ'} e=>⟨fun x d o h=>e.get x d o (hext x _ h),e.own⟩
    have tk:(ds.take (i+1)).filterMap f=(ds.take i).filterMap f++(f ds[i]).toList:=by
     rw[List.take_add_one]
     simp only[List.getElem?_eq_getElem hlt,Option.toList_some,List.filterMap_append]
     congr 1
    have sm59:aw H5 H9:=sm7.trans sm9
    cases hc:c with
    | false =>
     rw[if_neg Bool.false_ne_true]
     subst hc
     obtain⟨I9',st9,fr9⟩:=back I9
     have fn:f ds[i]=none:=by
      cases hf:f ds[i]with
      | none=>rfl
      | some d'=>rw[hf]at hel;cases hel.1
     refine⟨ds.length-(i+1),by omega,i+1,σ8,H9,vs,I9',st9,fr9,envf (E8.same sm9),sm59 _ _ hD5,sm5.trans sm59,?_,hlt,rfl⟩
     rw[tk,fn,Option.toList_none,List.append_nil]
     exact rp5.same sm59
    | true =>
     rw[if_pos rfl]
     subst hc
     obtain⟨d',fs,hed⟩:∃d',f ds[i]=some d'/\ED X' ρ' elt d' ko:=by
      cases hf:f ds[i]with
      | none=>rw[hf]at hel;cases hel
      | some d'=>rw[hf]at hel;exact⟨d',rfl,hel.2⟩
     have he':=hed ow' _ s9 σ8 H9 (fun v H'=>aw H9 H'/\af X'.K H' (Kp ow' H9 ko) d' v) I9 ⟨E8.same sm9,fun v H' a r=>⟨a,r⟩⟩
     rw[eP,eW,eA,eE,eX]at he'
     refine aG he' fun y s10 ⟨v10,H10,I10,r10,sm10,rp10⟩=>?_
     have sm510:=sm59.trans sm10
     have hD10:=sm510 _ _ hD5
     have hlv:vs.length<sizeLine:=by
      rw[<- rp5.length]
      refine Nat.lt_of_le_of_lt (List.length_filterMap_le _ _) ?_
      rw[List.length_take];omega
     have ha':=qp (X:=X') _ s10 σ8 H10 (.ref D) [v10] (.ref D) [y] (fun w H'=>aM H10 D (.lst (vs++[v10]))=H') I10 rfl (.cons r10 .nil) ⟨D,vs,v10,rfl,rfl,hD10,hlv,rfl⟩
     rw[eP,eW,eA,eX]at ha'
     refine aG ha' fun _ s11 ⟨w11,H11,I11,_,eH11⟩=>?_
     subst eH11
     obtain⟨I11',st11,fr11⟩:=back I11
     have s2D:∀a o,H2 a=some o->a≠D:=fun a o e=>aV e hD2
     have stD:d7 Pe Pe H10 (aM H10 D (.lst (vs++[v10]))):=⟨fun a o h hn=>by rw[ay (fun z=>by subst z;rw[hD10]at h;cases h;exact hn)];exact h,fun a ws h p=>by rw[ay (p.2 rfl)];exact h,fun _ _ _ p=>p,fun _ p=>p⟩
     refine⟨ds.length-(i+1),by omega,i+1,σ8,_,vs++[v10],I11',st11,fr11,?_,aI,?_,?_,hlt,rfl⟩
     ·have E10:=envf ((E8.same sm9).same sm10)
      refine⟨fun x d o h=>?_,own' _ aI (fun a o e=>by rw[ay (s2D a o e)];exact(sm5.trans sm510) a o e)⟩
      obtain⟨i',v',e1,e2,e3,e4⟩:=E10.get x d o h
      refine⟨i',v',e1,e2,e3,e4.mono ⟨fun a o h hn=>by rw[ay (fun z=>by subst z;rw[hD10]at h;cases h;exact hn)];exact h,fun a ws h p=>?_,fun _ _ _ p=>p,fun _ p=>p⟩⟩
      have hz:a≠D:=by
       intro z;subst z
       cases o with
       | true=>have:=p.2;rw[ow'D]at this;cases this
       | false=>have:ow' a=none:=p rfl;rw[ow'D]at this;cases this
      rw[ay hz];exact h
     ·intro a o e
      rw[ay (s2D a o e)]
      exact(sm5.trans sm510) a o e
     ·rw[tk,fs,Option.toList_some]
      refine((rp5.same sm510).mono stD).append (ai.one (af.mono stD ?_))
      rw[eK]at rp10
      have sH9:aw H H9:=s12.trans (sm5.trans sm59)
      exact rp10.imp fun a b p=>Er sH9 (sm59 _ _ hD5) hko p
   ·have hstop:=itd5.2 (by omega)
    have Td:=T.done X' eP eW eK eC i [] s5 σ5 H5 (fun _ _=>False) I5 (stat fr5) st5 hstop
    rw[eA]at Td
    refine aG Td fun r s6 ⟨hr,I6⟩=>?_
    subst hr
    have ei:i=ds.length:=by omega
    subst ei
    rw[List.take_length]at rp5
    have hC:X'.env.locals=s3.heap.objs.size:=by rw[eE];rfl
    obtain⟨m6,hn6,_⟩:=I6.loc
    rw[hC]at hn6
    have hfree:H5 s3.heap.objs.size=none:=by have:=I6.free;rw[hC]at this;exact this
    have IX:ah X pins σ H5 s6:=by
     have b6:=I6.base
     have o6:=I6.os
     have k6:=I6.hok
     have g6:=I6.bare
     rw[<- hX']at b6 o6 k6
     exact I3.call' o6 b6 k6 g6 fun b hb=>⟨(f3 b hb).2.2.2.1,(f3 b hb).2.1,(f3 b hb).2.2.2.2.1,(f3 b hb).2.2.2.2.2⟩
    have hHD:H D=none:=s12.free hD2
    refine fin D _ s6 H5 m6 ⟨IX,hn6,hfree,Nat.ne_of_gt I3.lt,I3.sz,fun x c hc z=>?_,fun p hp z=>?_,I3.nofs (Nat.le_refl _)⟩ (s12.trans sm5) ?_
    ·obtain⟨v,hv⟩:=I3.cell x c hc
     have:=hv.lt
     rw[z]at this;exact absurd this (Nat.lt_irrefl _)
    ·have:=Heap.lt_size (I3.pin p hp).1
     rw[z]at this;exact absurd this (Nat.lt_irrefl _)
    ·rw[af]
     exact⟨D,vs,true,rfl,hD5,yY E.own hHD hko,rp5.imp fun _ _ p=>p.1⟩
  ·exact T.keep 0 s2.heap h₁ st2 fun b hb o e=>kp b o (by rw[<- hs3];exact Heap.get?_push_of_some _ e)
  ·exact ai.nil
 exact codeAny_compStart_list loop (T.self _ 0 _ _ _ (T.keep 0 s2.heap h₁ st2 fun b hb o e=>kp b o (by rw[<- hs3];exact Heap.get?_push_of_some _ e)) loop)
theorem lR.done{H5:Hp}{s6:Shared}{C:Addr}{m6:Str->Option Value}(e:lR X pins σ H5 s6 C m6){h':Heap}(sb:Heap.SameBut C s6.heap h'):ah X pins σ H5 { s6 with heap:=h' } :=
 e.inv.turned (t':=s6.toks) (it:=C) (fun b o hb e=>sb.extBut b o hb e) e.free e.loc (.inr e.old) e.cell e.pin
theorem Fc{f:D->Option D}
  (hcalm:X.calm=true) (hN:X.N.Nodup) (hk:ax ds=true\/k<=1) (hko:ko<=1) (hlen:ds.length<sizeLine) (S:gU X.env scope N') (hsub:∀x d o,flt scope ρ x=some (d,o)->x∈N')
  (hi:IE X ρ tg iter ds k)
  (turn:∀cl C s H fp,∀d∈ds,lP (kW X scope cl C N' s H fp) (flt scope ρ) tg ifs elt ko d (f d))
  (hs:∀x,foldedSetIterable iter X.env x=pure x:=by intro _;rfl) :
  ED X ρ (.ListComp elt [⟨tg,iter,ifs,0⟩] scope pos) (.lst (ds.filterMap f)) ko:=by
 intro ow pins s σ H Q I ⟨E,q⟩
 rw[eval_ListComp]
 refine qB hcalm hN hk hko hlen S hsub hi turn hs I E fun D C s6 H5 m6 ce sm rp=>?_
 exact⟨m6,ce.ns,fun h' sb=>⟨.ref D,H5,ce.done sb,rfl,q (.ref D) H5 sm rp⟩⟩
theorem DR{D0:jh}{spos:Pos}{f:D->Option D}
  (hcalm:X.calm=true) (hN:X.N.Nodup) (hk:ax ds=true\/k<=1) (hko:ko<=1) (hlen:ds.length<sizeLine) (S:gU X.env scope N') (hsub:∀x d o,flt scope ρ x=some (d,o)->x∈N')
  (hi:IE X ρ tg iter ds k)
  (turn:∀cl C s H fp,∀d∈ds,lP (kW X scope cl C N' s H fp) (flt scope ρ) tg ifs elt ko d (f d))
  (hs:∀x,foldedSetIterable iter X.env x=pure x) (I:ah X pins σ H s) (E:aH X ow H σ ρ)
  (hsw:swapsWith (.ListComp elt [⟨tg,iter,ifs,0⟩] scope pos) (some (.Name x px)) spos.line X.env=pure true)
  (hx:X.N[i]?=some x) (hl:uw X.env.scope x) (hf:X.fn x=true\/X.env.scope.names.lookup x=some .local)
  (q:∀v H',aw H H'->af X.K H' (Kp ow H ko) (.lst (ds.filterMap f)) v->D0.nx (σ.set i (some v)) H') :
  wpAny (model X.prog X.w) X.A (exec (.Assign [.Name x px] (.ListComp elt [⟨tg,iter,ifs,0⟩] scope pos) spos) X.env) (SP X pins D0) X.xe s:=by
 rw[exec_Assign_Name_used _ _ _ _ hsw]
 refine wpAny_bind (wpAny_standAt (wpAny_bind ?_))
 show wpAny _ X.A (do let _ <- comprehension (.ListComp elt [⟨tg,iter,ifs,0⟩] scope pos) scope X.env _ (newList []) false (eval iter X.env) (some (assign (.Name x px) X.env))) _ _ s
 refine wpAny_bind (wpAny_mono (qB (use:=some (assign (.Name x px) X.env)) (Q':=fun _ s'=>SP X pins D0 .next s') hcalm hN hk hko hlen S hsub hi turn hs I E fun D C s6 H5 m6 ce sm rp=>?_) (fun _ s' hq=>wpAny_pure (wpAny_pure hq)) fun _ _ e=>e)
 obtain⟨o,es,ep,ho,hd,hrest⟩:=id ce.ns
 have Ip:ah X (pins++[(C,o)]) σ H5 s6:=ce.inv.pins_of fun p hp=>by
  rcases List.mem_append.mp hp with z|z
  ·exact ce.inv.pin p (List.mem_append_right _ z)
  ·have e:p=(C,o):=by simpa using z
   subst e
   exact⟨ho,ce.free,ce.loc,ce.fs,fun v z=>by rw[hd]at z;cases z⟩
 show wpAny _ X.A (assign (.Name x px) X.env (.ref D)) _ _ _
 refine aG (gv (i:=i) hN hx hl hf (pins++[(C,o)]) s6 σ H5 (.ref D) (.ref D) (fun σ' H'=>σ.set i (some (.ref D))=σ'/\H5=H') Ip rfl ⟨rfl,rfl⟩) fun _ s7 ⟨σ7,H7,I7,e1,e2⟩=>?_
 subst e1 e2
 have pC:=(I7.pin (C,o) (List.mem_append_right _ (List.mem_append_right _ (by simp)))).1
 refine⟨m6,⟨o,es,ep,pC,hd,hrest⟩,fun h' sb=>?_⟩
 have ce':lR X pins (σ.set i (some (.ref D))) H5 s7 C m6:=⟨I7.unpinned,⟨o,es,ep,pC,hd,hrest⟩,ce.free,ce.loc,ce.old,ce.cell,ce.pin,ce.fs⟩
 exact⟨_,H5,ce'.done sb,q (.ref D) H5 sm rp⟩
mutual
def D.py:D->PyData
 | .non=>.none
 | .bl b=>.bool b
 | .int i=>.int i
 | .str x=>.str x
 | .dct _ _=>.dict []
 | .typ _=>.dict []
 | .sn _=>.dict []
 | .obj _ _ _=>.dict []
 | .cls _=>.dict []
 | .xc _ _=>.dict []
 | .tup l=>.tuple (g9 l)
 | .lst l=>.list (g9 l)
def g9:List D->List PyData
 | []=>[]
 | d::l=>d.py::g9 l
end
inductive Rs(α:Type) where
 | ok (a:α) (l:List Prop)
 | st
def aE:List Prop->Prop
 | []=>True
 | p::l=>p/\aE l
def Rs.bnd{α β:Type}(r:Rs α)(f:α->Rs β):Rs β :=
 match r with
 | .st=>.st
 | .ok a l=>match f a with
  | .st=>.st
  | .ok b m=>.ok b (l++m)
def Rj{α:Type}:Option α->Rs α
 | some a=>.ok a []
 | none=>.st
def gd(b:Bool):List Prop->List Prop
 | []=>[]
 | m=>[b=true->aE m]
abbrev R1:=Rs (D×Nat)
def mk(d:D)(k:Nat):R1:=.ok (d,kn d k) []
structure Fx where
 fn:Str->Option (List D->Rs D)
 con:Str->Option D
 blt:Str->Option (List D->R1)
 itr:Str->Option (List D->Nat->R1)
 mth:Str->Option (D->List D->R1)
 mtt:Str->Option (List D->List D->Nat->Rs (List D))
 slf:D->Option Int->Option Int->R1:=fun _ _ _=>.st
 fld:Str->Str->Bool:=fun _ _=>false
 omt:Str->Str->Option (List D->Rs D):=fun _ _=>none
def CN:Const->Option D
 | .none=>some .non
 | .bool b=>some (.bl b)
 | .int i=>some (.int i)
 | .str x=>some (.str x)
 | _=>none
def fO:Nat:=2 ^ 9000
def gB(a b:Int):Prop:=a.natAbs<2 ^ 64\/b.natAbs<2 ^ 64\/(a.natAbs<fO/\b.natAbs<fO)\/(Builtin.Int.intBits a<=2 ^ 22/\Builtin.Int.intBits b<=2 ^ 22)
def ib(b:Int):Prop:=b≠0/\b.natAbs<fO
def wx(a b:Int):Prop:=0<=b/\b<=1000/\a.natAbs<2 ^ 64
def b8:Nat:=40000
def Bw(op:Operator)(a b:Int):R1 :=
 match op with
 | .Add=>.ok (.int (a+b),0) []
 | .Sub=>.ok (.int (a-b),0) []
 | .Mult=>.ok (.int (a*b),0) [gB a b]
 | .FloorDiv=>.ok (.int (a.fdiv b),0) [ib b]
 | .Mod=>.ok (.int (a.fmod b),0) [b≠0]
 | .Pow=>.ok (.int (a ^ b.toNat),0) [wx a b]
 | _=>.st
def rq:Operator->Bool
 | .Add=>true
 | _=>false
def iK(op:Operator)(x y:D)(k j:Nat):R1 :=
 match x,y with
 | .int a,.int b=>Bw op a b
 | .str a,.str b=>if rq op=true then .ok (.str (a++b),0) [a.length+b.length<=b8]else .st
 | .tup a,.tup b=>if rq op=true then .ok (.tup (a++b),kn (.tup (a++b)) (kj k j)) [a.length+b.length<=b8]else .st
 | .lst a,.lst b=>if rq op=true then .ok (.lst (a++b),0) [ax (a++b)=true,a.length+b.length<=b8]else .st
 | _,_=>.st
def xV(op:UnaryOp)(x:D):Option D :=
 match op,x with
 | .USub,.int a=>some (.int (-a))
 | .Not,.bl b=>some (.bl (!b))
 | _,_=>none
def dR(x y:D):Bool:=SeqAt.shaped x.py&&SeqAt.shaped y.py
def eqD(x y:D):Bool:=PyData.eqv x.py y.py
def dr:List D->Option (List Int)
 | []=>some []
 | .int i::l=>(dr l).map (i :: ·)
 | _::_=>none
def wI(x:D)(l:List D):Rs Bool:=.ok (l.any fun y=>eqD y x) [dR (.tup l) x=true]
def D.isNon:D->Bool
 | .non=>true
 | _=>false
def hU:D->Option (List D)
 | .tup l=>some l
 | .lst l=>some l
 | _=>none
def gy(op:CmpOp)(a b:Int):Option Bool :=
 match op with
 | .Lt=>some (decide (a<b))
 | .LtE=>some (decide (a<=b))
 | .Gt=>some (decide (b<a))
 | .GtE=>some (decide (b<=a))
 | _=>none
def wB(op:CmpOp)(x y:D):Option Bool :=
 match x,y with
 | .int a,.int b=>gy op a b
 | _,_=>none
def Rs.nt:Rs Bool->Rs Bool
 | .ok b l=>.ok (!b) l
 | .st=>.st
def keyD:D->Option dz
 | .int i=>some (.inl i)
 | .str x=>some (.inr x)
 | _=>none
def dGet(ks:List dz)(ds:List D)(k:dz):Option D:=((ks.zip ds).find? fun p=>decide (p.1=k)).map (·.2)
def Ie(ks:List dz)(k:dz):Bool:=ks.any fun j=>decide (j=k)
def dPutK(ks:List dz)(k:dz):List dz:=cond (Ie ks k) ks (ks++[k])
def dPutV{α:Type}(ks:List dz)(ds:List α)(k:dz)(d:α):List α:=cond (Ie ks k) (List.zipWith (fun j e=>if j=k then d else e) ks ds) (ds++[d])
def Cy(x y:D):Rs Bool :=
 match y with
 | .tup l=>wI x l
 | .lst l=>wI x l
 | .dct _ _=>.st
 | .str b=>(match x with | .str a=>.ok (Txt.contains b a) []|_=>.st)
 | _=>.st
def gW(op:CmpOp)(x y:D):Rs Bool :=
 match op with
 | .Eq=>.ok (eqD x y) [dR x y=true]
 | .NotEq=>.ok (!eqD x y) [dR x y=true]
 | .In=>Cy x y
 | .NotIn=>(Cy x y).nt
 | .Is=>(match y with | .non=>.ok x.isNon [] | .bl c=>(match x with | .bl b=>.ok (b==c) []|_=>.st)|_=>.st)
 | .IsNot=>(match y with | .non=>.ok (!x.isNon) [] | .bl c=>(match x with | .bl b=>.ok (!(b==c)) []|_=>.st)|_=>.st)
 | op=>Rj (wB op x y)
def D.ty0:D->Option String
 | .non=>some "NoneType"
 | .bl _=>some "bool"
 | .int _=>some "int"
 | .str _=>some "str"
 | .dct _ _=>some "dict"
 | .tup _=>some "tuple"
 | .lst _=>some "list"
 | _=>none
def HV(x:D)(T:String):Option Bool:=x.ty0.map fun a=>decide (a=T) || decide (a = "bool" /\ T = "int")
def v7(x:Str):Option String :=
 if x = "int" then some "int" else if x = "bool" then some "bool" else if x = "str" then some "str" else if x = "tuple" then some "tuple" else if x = "list" then some "list" else if x = "ValueError" then some "ValueError" else none
def bR:List D->Option (List Bool)
 | []=>some []
 | .bl i::l=>(bR l).map (i :: ·)
 | _::_=>none
def gR:List Str:=["len", "tuple", "list", "abs", "all", "sum", "isinstance", "set", "int", "bool", "str", "range", "zip", "enumerate", "any", "sorted", "min", "max", "reversed", "ValueError"]
def nK:Expr->Bool
 | .Tuple .. => true
 | _=>false
def eL(e tg:Expr):Bool :=
 match e with
 | .Call (.Name f _) _ _ _=>if f = "enumerate" \/ f = "zip" then nK tg else true
 | _=>true
def sgs(x:Str):List D:=x.cps.toList.map fun c=>.str ⟨#[c]⟩
def items:D->Option (List D)
 | .lst l=>some l
 | .tup l=>some l
 | .str x=>if (x.cps.all fun c=>decide (c<128))=true then some (sgs x)else none
 | _=>none
def bz(ρ:ae)(x:Str)(y:D×Bool):ae:=fun z=>if z=x then some y else ρ z
def ck(sc:Scope)(x:Str):Bool:=sc.names.lookup x==some .local || sc.names.lookup x==some .cell
def aT(sc:Scope):List Expr->List D->ae->Option ae
 | [],[],ρ=>some ρ
 | .Name x _::es,d::ds,ρ=>if ck sc x=true then aT sc es ds (bz ρ x (d,false))else none
 | _,_,_=>none
def bF(sc:Scope)(tg:Expr)(d:D)(ρ:ae):Option ae :=
 match tg with
 | .Name x _=>if ck sc x=true then some (bz ρ x (d,false))else none
 | .Tuple es _ _=>(match d with | .tup ds=>aT sc es ds ρ|_=>none)
 | _=>none
def oC(sc scope:Scope):Bool :=
 decide (scope.kind=.function)&&scope.names.all (fun y=>decide (y.2 ≠ .local) || decide (scope.names.lookup y.1=some .local)) &&
 scope.names.all (fun y=>decide (y.2 ≠ .free) || ck sc y.1&&decide (sc.names.lookup y.1=some .cell) || decide (sc.names.lookup y.1=some .free))&&decide ((scope.names.map (·.1)).Nodup)
def gD(step:D->Rs (Option (D×Nat))):List D->Rs (List D×Nat)
 | []=>.ok ([],0) []
 | d::l=>(step d).bnd fun r=>(gD step l).bnd fun q=>match r with
  | none=>.ok q []
  | some p=>.ok (p.1::q.1,kj p.2 q.2) []
def sX(x:D)(i:Int)(k:Nat):R1 :=
 match hU x with
 | some l=>(match atI l i with|some d=>mk d k|none=>.st)
 | none=>.st
def jR(p:D×Nat)(f:Int->R1):R1 :=
 match p.1 with
 | .int j=>f j
 | _=>.st
def mz(p q:D×Nat):R1 :=
 match p.1 with
 | .dct _ _=>.st
 | x=>jR q fun j=>sX x j p.2
def fG(l:List D)(lo hi:Option Int):List D:=(l.drop (HT.sIx l.length 0 lo)).take (HT.sIx l.length l.length hi-HT.sIx l.length 0 lo)
def IY(l:List D)(lo hi:Option Int):Bool:=!(decide (HT.sIx l.length 0 lo=0)&&decide (HT.sIx l.length l.length hi=l.length))
def sj(x:D)(lo hi:Option Int):R1 :=
 match x with
 | .tup l=>.ok (.tup (fG l lo hi),0) [ax l=true,IY l lo hi=true]
 | .lst l=>.ok (.lst (fG l lo hi),0) [ax l=true]
 | _=>.st
def dP(x:Str):Bool:=decide ((x==("__debug__" : Str))=false)&&decide ((x==("__classdict__" : Str))=false)
def xg(b:Bool)(r:Rs Bool):Rs Bool :=
 match r with
 | .ok c m=>.ok (b&&c) (gd b m)
 | .st=>match b with|false=>.ok false []|true=>.st
def Ch(b:Bool)(r:Rs Bool):Rs Bool :=
 match r with
 | .ok c m=>.ok (b || c) (gd (!b) m)
 | .st=>match b with|true=>.ok true []|false=>.st
mutual
def pj(b:Bool):D->D->D
 | .int x,.int y=>.int (cond b x y)
 | .bl x,.bl y=>.bl (cond b x y)
 | .tup x,.tup y=>if x.length=y.length then .tup (kP b x y)else cond b (.tup x) (.tup y)
 | x,y=>cond b x y
def kP(b:Bool):List D->List D->List D
 | x::l,y::m=>pj b x y::kP b l m
 | l,m=>cond b l m
end
def y0(t:Bool)(k j:Nat):Nat:=if k=j then k else cond t k j
def CA(b:Bool)(r s:R1):R1 :=
 match r with
 | .st=>(match b with|true=>.st|false=>s)
 | .ok p m=>match s with
  | .st=>(match b with|true=>.ok p m|false=>.st)
  | .ok q n=>.ok (pj b p.1 q.1,y0 b p.2 q.2) (gd b m++gd (!b) n)
def jQ(Φ:Fx)(x:Str)(sc:Scope)(ρ:ae):R1 :=
 if dP x=true then
  (if sc.names.lookup x=some .globalImplicit then(match Φ.con x with|some d=>.ok (d,0) []|none=>match v7 x with|some T=>.ok (.typ T,0) []|none=>.st)
  else match ρ x with
   | some p=>mk p.1 (cond p.2 2 1)
   | none=>.st)
 else .st
def j5(Φ:Fx)(f:Str)(it:Bool)(ds:List D)(k:Nat):R1 :=
 match Φ.fn f with
 | some F=>(F ds).bnd fun d=>.ok (d,0) []
 | none=>match (if it=true then Φ.itr f else none)with
  | some B=>B ds k
  | none=>match Φ.blt f with
   | some B=>B ds
   | none=>.st
def jG{α:Type}(p:D×Nat)(f:Bool->Rs α):Rs α :=
 match p.1 with
 | .bl j=>f j
 | _=>.st
def Io(Φ:Fx)(x:D)(f:Str):R1 :=
 match x with
 | .obj n ns ds=>if Φ.fld n f=true then(match (ns.zip ds).lookup f with|some d=>.ok (d,0) []|none=>.st)else .st
 | .xc _ (some (_,[(g,i)]))=>if f=g then .ok (.int i,0) []else .st
 | _=>.st
def fx:Expr->Bool
 | .Call (.Name _ _) [] [] _=>false
 | _=>true
def wH(Φ:Fx)(a:Expr)(m:Str)(x:D)(ds:List D):R1 :=
 match x with
 | .obj n ns es=>if ns.contains m=false/\fx a=true/\ds.length<29 then(match Φ.omt n m with|some F=>(F (.obj n ns es::ds)).bnd fun d=>.ok (d,0) []|none=>.st)else .st
 | x=>if fx a=true then(match Φ.mth m with|some M=>M x ds|none=>.st)else .st
def Jf(op op2:CmpOp)(x y z:D):R1 :=
 match x,y,z with
 | .int a,.int b,.int c=>(match gy op a b,gy op2 b c with|some r,some r2=>.ok (.bl (r&&r2),0) []|_,_=>.st)
 | _,_,_=>.st
mutual
def au(Φ:Fx):Expr->Bool->Scope->ae->R1
  | .Constant c _ _,_,_,_=>(match CN c with|some d=>.ok (d,0) []|none=>.st)
  | .Name x _,_,sc,ρ=>jQ Φ x sc ρ
  | .BinOp a op b _,_,sc,ρ=>(au Φ a false sc ρ).bnd fun p=>(au Φ b false sc ρ).bnd fun q=>iK op p.1 q.1 p.2 q.2
  | .UnaryOp op a _,_,sc,ρ=>(au Φ a false sc ρ).bnd fun p=>(match xV op p.1 with|some d=>.ok (d,0) []|none=>.st)
  | .BoolOp op es _,_,sc,ρ=>if es.isEmpty=true then .st else(dQ Φ op es sc ρ).bnd fun b=>.ok (.bl b,0) []
  | .Compare a [op] [b] _,_,sc,ρ=>(au Φ a false sc ρ).bnd fun p=>(au Φ b false sc ρ).bnd fun q=>(gW op p.1 q.1).bnd fun r=>.ok (.bl r,0) []
  | .Compare a [op,op2] [b,c] _,_,sc,ρ=>(au Φ a false sc ρ).bnd fun p=>(au Φ b false sc ρ).bnd fun q=>(au Φ c false sc ρ).bnd fun t=>Jf op op2 p.1 q.1 t.1
  | .IfExp c a b _,_,sc,ρ=>(au Φ c false sc ρ).bnd fun p=>jG p fun t=>CA t (au Φ a false sc ρ) (au Φ b false sc ρ)
  | .Tuple es _ _,_,sc,ρ=>(bi Φ es sc ρ).bnd fun p=>if p.1.length<=b8 then mk (.tup p.1) p.2 else .st
  | .List es _,_,sc,ρ=>(bi Φ es sc ρ).bnd fun p=>if p.1.length<=b8/\p.2<=1 then .ok (.lst p.1,p.2) []else .st
  | .Subscript a (.Slice lo hi none _) _,_,sc,ρ=>(au Φ a false sc ρ).bnd fun p=>(k9 Φ lo sc ρ).bnd fun l=>(k9 Φ hi sc ρ).bnd fun h=>Φ.slf p.1 l h
  | .Subscript a i _,_,sc,ρ=>(au Φ a false sc ρ).bnd fun p=>(au Φ i false sc ρ).bnd fun q=>mz p q
  | .Call (.Name f _) args [] _,it,sc,ρ =>
    if sc.names.lookup f=some .globalImplicit then(bi Φ args sc ρ).bnd fun p=>j5 Φ f it p.1 p.2
    else .st
  | .Attribute (.Name x _) f _,_,sc,ρ=>(jQ Φ x sc ρ).bnd fun p=>Io Φ p.1 f
  | .Call (.Attribute a m ap) args [] cp,_,sc,ρ=>if (ap.endLine==cp.line)=true then(au Φ a false sc ρ).bnd fun p=>(bi Φ args sc ρ).bnd fun q=>wH Φ a m p.1 q.1 else .st
  | .ListComp elt [⟨tg,iter,ifs,0⟩] scope _,_,sc,ρ =>
    if oC sc scope=true then(au Φ iter true sc ρ).bnd fun p=>(match items p.1 with
      | some ds=>if eL iter tg=true then
          (Rs.ok () [ds.length<=b8,ax ds=true\/p.2<=1]).bnd fun _=>(gD (fun d=>match bF scope tg d (flt scope ρ)with
            | none=>.st
            | some ρ'=>(dQ Φ .And ifs scope ρ').bnd fun b=>cond b ((au Φ elt false scope ρ').bnd fun r=>.ok (some r) []) (.ok none [])) ds).bnd fun q=>if q.2<=1 then .ok (.lst q.1,q.2) []else .st
        else .st
      | none=>.st)
    else .st
  | _,_,_,_=>.st
def bi(Φ:Fx):List Expr->Scope->ae->Rs (List D×Nat)
 | [],_,_=>.ok ([],0) []
 | e::es,sc,ρ=>(au Φ e false sc ρ).bnd fun p=>(bi Φ es sc ρ).bnd fun q=>.ok (p.1::q.1,kj p.2 q.2) []
def dQ(Φ:Fx):BoolOp->List Expr->Scope->ae->Rs Bool
 | .And,[],_,_=>.ok true []
 | .Or,[],_,_=>.ok false []
 | .And,e::es,sc,ρ=>(au Φ e false sc ρ).bnd fun p=>jG p fun b=>xg b (dQ Φ .And es sc ρ)
 | .Or,e::es,sc,ρ=>(au Φ e false sc ρ).bnd fun p=>jG p fun b=>Ch b (dQ Φ .Or es sc ρ)
def k9(Φ:Fx):Option Expr->Scope->ae->Rs (Option Int)
 | none,_,_=>.ok none []
 | some e,sc,ρ=>(au Φ e false sc ρ).bnd fun p=>(match p.1 with | .int i=>.ok (some i) []|_=>.st)
end
theorem pI{Φ:Fx}{op:BoolOp}:au Φ (.BoolOp op es p) it sc ρ=(if es.isEmpty=true then .st else(dQ Φ op es sc ρ).bnd fun b=>.ok (.bl b,0) []):=rfl
theorem iH{Φ:Fx}{p:Pos}:au Φ (.Call (.Name f p) args [] q) it sc ρ=(if sc.names.lookup f=some .globalImplicit then(bi Φ args sc ρ).bnd fun p=>j5 Φ f it p.1 p.2 else .st):=rfl
theorem jX{Φ:Fx}:au Φ (.Call (.Attribute a m ap) args [] cp) it sc ρ=(if (ap.endLine==cp.line)=true then(au Φ a false sc ρ).bnd fun p=>(bi Φ args sc ρ).bnd fun q=>wH Φ a m p.1 q.1 else .st):=rfl
theorem pH{Φ:Fx}{q:Pos}:au Φ (.ListComp elt [⟨tg,iter,ifs,0⟩] scope q) it sc ρ=(if oC sc scope=true then(au Φ iter true sc ρ).bnd fun p=>(match items p.1 with
      | some ds=>if eL iter tg=true then
          (Rs.ok () [ds.length<=b8,ax ds=true\/p.2<=1]).bnd fun _=>(gD (fun d=>match bF scope tg d (flt scope ρ)with
            | none=>.st
            | some ρ'=>(dQ Φ .And ifs scope ρ').bnd fun b=>cond b ((au Φ elt false scope ρ').bnd fun r=>.ok (some r) []) (.ok none [])) ds).bnd fun q=>if q.2<=1 then .ok (.lst q.1,q.2) []else .st
        else .st
      | none=>.st)
    else .st):=rfl
variable{Φ:Fx}{F:List D->Rs D}{B:List D->R1}{sf:D->Option Int->Option Int->R1}
inductive Fl where
 | nx (ρ:ae)|rt (d:D)|bk (ρ:ae)|ct (ρ:ae)
def jA:Expr->Bool
 | .ListComp .. => true
 | .SetComp .. => true
 | .DictComp .. => true
 | _=>false
def wr(l:List D)(i:Int)(d:D):Option (List D):=(ixN l.length i).map fun j=>l.set j d
def l9(f:ae->Rs Fl):Fl->Rs Fl
 | .nx ρ=>f ρ
 | .ct ρ=>f ρ
 | .bk ρ=>.ok (.nx ρ) []
 | .rt d=>.ok (.rt d) []
def dF(bind:D->ae->Option ae)(body:ae->Rs Fl):List D->ae->Rs Fl
 | [],ρ=>.ok (.nx ρ) []
 | d::l,ρ=>match bind d ρ with
  | none=>.st
  | some ρ1=>(body ρ1).bnd (l9 (dF bind body l))
def lX(test:ae->Rs Bool)(body:ae->Rs Fl):Nat->ae->Rs Fl
 | 0,_=>.st
 | n+1,ρ=>(test ρ).bnd fun b=>cond b ((body ρ).bnd (l9 (lX test body n))) (.ok (.nx ρ) [])
def demX(x:Str)(ρ:ae):ae:=fun y=>if y=x then(ρ y).map fun p=>(p.1,false)else ρ y
def demA(x:Str)(ρ:ae):ae:=fun y=>if y=x then(ρ y).map fun p=>(p.1,p.2&&p.1.lless)else ρ y
def demL:List Expr->ae->ae
 | [],ρ=>ρ
 | .Name x _::es,ρ=>demL es (demA x ρ)
 | .Subscript (.Name x _) _ _::es,ρ=>demL es (demA x ρ)
 | _::es,ρ=>demL es ρ
def demote(e:Expr)(ρ:ae):ae :=
 match e with
 | .Name x _=>demX x ρ
 | .Subscript (.Name x _) _ _=>demX x ρ
 | .Call _ args _ _=>demL args ρ
 | _=>ρ
def o8(sc:Scope)(x:Str)(p:D×Nat)(ρ:ae):Rs Fl :=
 if ck sc x=true then
  match p.2 with
  | 0=>.ok (.nx (bz ρ x (p.1,true))) []
  | 1=>.ok (.nx (bz ρ x (p.1,false))) []
  | _=>.st
 else .st
def sH(ρ:ae)(x:Str)(f:List D->Rs Fl):Rs Fl :=
 match ρ x with
 | some (.lst l,true)=>if dP x=true then f l else .st
 | _=>.st
def nC(sc:Scope)(x y:Str)(px py:Pos)(a b:Expr):Bool :=
 sc.names.lookup x==some .local&&sc.names.lookup y==some .local&&(px.line==py.line) && !decide (x=y) && !([a,b].all (foldedForSure 8)) && !([a,b].all (constantsAlone 8))
def n6(Φ:Fx)(es:List Expr)(e:Expr)(sc:Scope)(ρ:ae):Rs Fl :=
  match es,e with
  | [.Name x px,.Name y py],.Tuple [a,b] _ _=>if nC sc x y px py a b=true then(bi Φ [a,b] sc ρ).bnd fun p=>(match p.1 with
      | [u,v]=>if ax [u,v]=true\/p.2<=1 then .ok (.nx (bz (bz ρ x (u,false)) y (v,false))) []else .st
      | _=>.st)else .st
  | _,_=>.st
def t8(sc:Scope)(es:List Expr)(e:Expr):Bool :=
 match es,e with
 | [.Name x _,.Name _ _],.Tuple [_,_] _ _=>sc.names.lookup x==some .cell
 | _,_=>false
def qg(sc:Scope)(es:List Expr)(e:Expr):Bool:=nK e && !t8 sc es e
def wA(sc:Scope)(es:List Expr)(p:D×Nat):Bool :=
 match es,p.1,p.2 with
 | [.Name x _,.Name y _],.tup [d1,d2],0=>d1.lless && !d2.lless && !decide (x=y)&&ck sc x&&ck sc y
 | _,_,_=>false
def AK(es:List Expr)(p:D×Nat)(ρ:ae):ae :=
 match es,p.1 with
 | [.Name x _,.Name y _],.tup [d1,d2]=>bz (bz ρ y (d2,true)) x (d1,false)
 | _,_=>ρ
def Mv(_:Expr):Bool:=true
def wk(ρ:ae)(x:Str)(i d:D):Rs Fl :=
 match ρ x with
 | some (.lst l,true)=>(match i with | .int j=>if dP x=true then(match wr l j d with|some l'=>.ok (.nx (bz ρ x (.lst l',true))) [ax l=true,d.lless=true]|none=>.st)else .st|_=>.st)
 | some (.dct _ _,true)=>.st
 | _=>.st
def n9(Φ:Fx)(tgs:List Expr)(e:Expr)(sc:Scope)(ρ:ae):Rs Fl :=
  match tgs with
  | [.Name x _]=>(au Φ e false sc ρ).bnd fun p=>o8 sc x p ρ
  | [.Tuple es _ _]=>if qg sc es e=true then n6 Φ es e sc ρ else(au Φ e false sc ρ).bnd fun p=>if wA sc es p=true then .ok (.nx (AK es p ρ)) []else(match hU p.1 with
      | some ds=>if ax ds=true\/p.2<=1 then(match aT sc es ds ρ with|some ρ'=>.ok (.nx ρ') []|none=>.st)else .st
      | none=>.st)
  | [.Subscript (.Name x _) i _]=>if Mv e=true then(au Φ e false sc ρ).bnd fun p=>(au Φ i false sc ρ).bnd fun q=>wk ρ x q.1 p.1
    else .st
  | _=>.st
def BF(op:Operator)(a b:Int):R1 :=
 match op with
 | .Add=>.ok (.int (a+b),0) []
 | .Sub=>.ok (.int (a-b),0) []
 | .Mult=>.ok (.int (a*b),0) [gB a b]
 | .FloorDiv=>.ok (.int (a.fdiv b),0) [ib b]
 | _=>.st
def n8(Φ:Fx)(t:Expr)(op:Operator)(e:Expr)(sc:Scope)(ρ:ae):Rs Fl :=
  match t with
  | .Name x _=>if ck sc x=true then(match ρ x with
      | some p=>jR (p.1,0) (fun a=>(au Φ e false sc ρ).bnd fun q=>jR q fun b=>BF op a b) |>.bnd fun r=>.ok (.nx (bz ρ x (r.1,true))) []
      | none=>.st)else .st
  | _=>.st
def jW(Φ:Fx)(e:Expr)(sc:Scope)(ρ:ae):Rs Fl :=
  match e with
  | .Call (.Attribute (.Name x _) m ap) args [] cp=>if (ap.endLine==cp.line)=true then(bi Φ args sc ρ).bnd fun p=>(match Φ.mtt m with
      | some M=>sH ρ x fun l=>(M l p.1 p.2).bnd fun l'=>.ok (.nx (bz ρ x (.lst l',true))) []
      | none=>.st)else .st
  | .Call (.Name f p) args ks cp=>(au Φ (.Call (.Name f p) args ks cp) false sc ρ).bnd fun _=>.ok (.nx ρ) []
  | _=>.st
def gj(ρ:ae):ae:=fun y=>(ρ y).map fun p=>(p.1,false)
def Ck:Expr->Bool
 | .ListComp elt _ _ _=>jA elt
 | _=>false
def rm:Expr->Bool
 | .Tuple es _ _=>es.any Ck
 | e=>Ck e
def sy(e:Expr)(ρ:ae):ae:=cond (rm e) (gj ρ) ρ
def wv(p:D×Nat):Rs Fl:=if p.2=0\/p.2=2 then .ok (.rt p.1) []else .st
mutual
def eR(Φ:Fx):Stmt->Scope->ae->Rs Fl
  | .Return (some e) _,sc,ρ=>(au Φ e false sc (sy e ρ)).bnd wv
  | .Return none _,_,_=>.ok (.rt .non) []
  | .Pass _,_,ρ=>.ok (.nx ρ) []
  | .Break _,_,ρ=>.ok (.bk ρ) []
  | .Continue _,_,ρ=>.ok (.ct ρ) []
  | .Assign tgs e _,sc,ρ=>n9 Φ tgs e sc ρ
  | .AugAssign t op e _,sc,ρ=>n8 Φ t op e sc ρ
  | .Expr e _,sc,ρ=>jW Φ e sc ρ
  | .If c a b _,sc,ρ=>(au Φ c false sc ρ).bnd fun p=>jG p fun t=>cond t (az Φ a sc ρ) (az Φ b sc ρ)
  | .For tg it body els _,sc,ρ=>if els.isEmpty=true then(au Φ it true sc (demote it ρ)).bnd fun p=>(match items p.1 with
      | some ds=>if p.2<=1/\eL it tg=true then dF (bF sc tg) (az Φ body sc) ds (demote it ρ)else .st
      | none=>.st)
    else .st
  | .While c body els _,sc,ρ=>if els.isEmpty=true then lX (fun ρ=>(au Φ c false sc ρ).bnd fun p=>jG p fun b=>.ok b []) (az Φ body sc) b8 ρ else .st
  | _,_,_=>.st
def az(Φ:Fx):List Stmt->Scope->ae->Rs Fl
 | [],_,ρ=>.ok (.nx ρ) []
 | s::ss,sc,ρ=>(eR Φ s sc ρ).bnd fun
  | .nx ρ'=>az Φ ss sc ρ'
  | f=>.ok f []
end
theorem pE{it:Expr}:eR Φ (.For tg it body els q) sc ρ=(if els.isEmpty=true then(au Φ it true sc (demote it ρ)).bnd fun p=>(match items p.1 with
      | some ds=>if p.2<=1/\eL it tg=true then dF (bF sc tg) (az Φ body sc) ds (demote it ρ)else .st
      | none=>.st)
    else .st):=rfl
theorem tN{ρ:ae}:eR Φ (.While c body els q) sc ρ=(if els.isEmpty=true then lX (fun ρ=>(au Φ c false sc ρ).bnd fun p=>jG p fun b=>.ok b []) (az Φ body sc) b8 ρ else .st):=rfl
def bI:List Str->List D->ae
 | p::ps,d::ds=>fun z=>if z=p then some (d,false)else bI ps ds z
 | _,_=>fun _=>none
def cG(Φ:Fx)(sc:Scope)(ps:List Str)(body:List Stmt)(ds:List D):Rs D :=
 if ds.length=ps.length then(az Φ body sc (bI ps ds)).bnd fun
  | .rt d=>.ok d []
  | .nx _=>.ok .non []
  | _=>.st
 else .st
def By(ds:List D):R1 :=
 match ds with
 | [.sn n]=>.ok (.int n,0) []
 | [x]=>(match hU x with|some l=>.ok (.int l.length,0) []|none=>.st)
 | _=>.st
def lB:List String:=["int", "bool", "str", "tuple", "list", "dict"]
def BA(ds:List D):R1 :=
 match ds with
 | [.obj m _ _,.cls n]=>if m=n then .ok (.bl true,0) []else if m∈Je then .ok (.bl (rZ m n),0) []else .st
 | [x,.typ T]=>if T∈lB then(match HV x T with|some b=>.ok (.bl b,0) []|none=>.st)else .st
 | _=>.st
def uf(ds:List D):R1 :=
 match ds with
 | [x]=>(match hU x with|some l=>.ok (.tup l,0) [ax l=true]|none=>.st)
 | _=>.st
def BE(ds:List D):R1 :=
 match ds with
 | [.int i]=>.ok (.int (if i<0 then -i else i),0) []
 | _=>.st
def gX(ds:List D):R1 :=
 match ds with
 | [.lst l]=>(match bR l with|some bs=>.ok (.bl (bs.all id),0) []|none=>.st)
 | _=>.st
def ug(ds:List D):R1 :=
 match ds with
 | [.lst l]=>(match dr l with
  | some ns=>.ok (.bl (ns.any fun n=>n != 0),0) []
  | none=>match bR l with|some bs=>.ok (.bl (bs.any id),0) []|none=>.st)
 | _=>.st
def BC(ds:List D):R1 :=
 match ds with
 | [.int i]=>.ok (.int i,0) []
 | [.bl b]=>.ok (.int (cond b 1 0),0) []
 | _=>.st
def mV(ds:List D):R1 :=
 match ds with
 | [.int i]=>.ok (.str (toString i),0) [i.natAbs<2 ^ 1900]
 | _=>.st
def nR(ds:List D)(_:Nat):R1 :=
 match ds with
 | [.int j]=>.ok (.lst ((List.range j.toNat).map fun i=>.int (i:Nat)),0) [-4611686018427387904<=j,j<=b8]
 | [.int i,.int j]=>.ok (.lst ((List.range (j-i).toNat).map fun m=>.int (i+(m:Nat))),0) [-4611686018427387904<=i,i<=4611686018427387000,-4611686018427387904<=j,j-i<=800]
 | _=>.st
def fh:Nat->List D->List D
 | _,[]=>[]
 | n,x::xs=>.tup [.int (n:Nat),x]::fh (n+1) xs
theorem pL:∀(l:List D) (n:Nat),fh n l=l.mapIdx fun i x=>.tup [.int ((n+i:Nat):Int),x]
 | [],_=>rfl
 | x::l,n=>by
  rw[fh,pL l (n+1),List.mapIdx_cons]
  simp only[Nat.add_zero]
  congr 1
  congr 1
  funext i y
  rw[show n+1+i=n+(i+1) by omega]
def lI(l ds:List D)(k:Nat):Rs (List D) :=
 match ds with
 | [d]=>.ok (l++[d]) [d.lless=true\/k=0,l.length<b8]
 | _=>.st
def Tb(l:List (Str×(List D->Rs D)))(c:List (Str×D))(b:List (Str×(List D->R1)))(i:List (Str×(List D->Nat->R1)))(m:List (Str×(D->List D->R1)))(t:List (Str×(List D->List D->Nat->Rs (List D))))(sf:D->Option Int->Option Int->R1):Fx :=
 { slf:=sf,fn:=fun g=>l.lookup g,con:=fun x=>c.lookup x,blt:=fun x=>b.lookup x,itr:=fun x=>i.lookup x,mth:=fun x=>m.lookup x,mtt:=fun x=>t.lookup x }
def JY(l:List (Str×(List D->Rs D)))(c:List (Str×D))(b:List (Str×(List D->R1)))(i:List (Str×(List D->Nat->R1)))(m:List (Str×(D->List D->R1)))(t:List (Str×(List D->List D->Nat->Rs (List D))))(sf:D->Option Int->Option Int->R1)(fl:List (Str×List Str))(om:List (Str×List (Str×(List D->Rs D)))):Fx :=
  { slf:=sf,fn:=fun g=>l.lookup g,con:=fun x=>c.lookup x,blt:=fun x=>b.lookup x,itr:=fun x=>i.lookup x,mth:=fun x=>m.lookup x,mtt:=fun x=>t.lookup x
    fld:=fun n f=>match fl.lookup n with|some fs=>fs.contains f|none=>false
    omt:=fun n x=>match om.lookup n with|some ms=>ms.lookup x|none=>none }
variable{fl:Fl}{bodyF:ae->Rs Fl}
variable{X:Cx}
theorem lF{k:Int}(h:k.natAbs<2 ^ n):Builtin.Int.intBits k<=n:=by
 unfold Builtin.Int.intBits
 split
 ·exact Nat.zero_le _
 ·rename_i h0
  have:k.natAbs.log2<n:=by
   rcases Nat.eq_zero_or_pos k.natAbs with h1|hp
   ·exact absurd (by simpa using h1) (by simpa using h0)
   ·exact(Nat.log2_lt (Nat.ne_of_gt hp)).mpr h
  omega
theorem dH:∀{l m:List Prop},aE (l++m)↔aE l/\aE m
 | [],m=>by simp[aE]
 | p::l,m=>by
  show p/\aE (l++m)↔(p/\aE l)/\aE m
  rw[dH,and_assoc]
theorem aQ{r:Rs α}{f:α->Rs β}{b:β}(h:r.bnd f=.ok b l)(hp:aE l):∃a l1 l2,r=.ok a l1/\aE l1/\f a=.ok b l2/\aE l2:=by
 unfold Rs.bnd at h
 split at h
 ·cases h
 ·rename_i a l1
  split at h
  ·cases h
  ·rename_i b' m e
   cases h
   obtain⟨h1,h2⟩:=dH.mp hp
   exact⟨a,l1,m,rfl,h1,e,h2⟩
theorem nV{m:List Prop}(h:aE (gd b m))(hb:b=true):aE m:=by
 cases m with
 | nil=>exact True.intro
 | cons p l=>exact h.1 hb
theorem KW{a b:Int}(h:Builtin.Int.intBits a<=2 ^ 22)(g:Builtin.Int.intBits b<=2 ^ 22):IntMulOk a b:=by
 have h':Builtin.Int.intTooBig (Builtin.Int.intBits a+Builtin.Int.intBits b)=false:=by
  unfold Builtin.Int.intTooBig bitsLine;exact decide_eq_false (by omega)
 unfold IntMulOk;rw[h'];simp
theorem sK{a b:Int}(h:gB a b):IntMulOk a b:=by
 rcases h with h|h|⟨h,g⟩|⟨h,g⟩
 ·exact .of_left (lF h)
 ·exact .of_right (lF h)
 ·exact IntMulOk.of_bits (Nat.le_trans (lF h) (by decide)) (Nat.le_trans (lF g) (by decide))
 ·exact KW h g
theorem D5:cv X (binaryOp .Mult) (rI (fun i j=>gB i j) fun i j=>.int (i*j)):=vn fun _ _ _ _ _ _ _ hc q=>mul_int q (sK hc)
theorem AW:cv X (binaryOp .FloorDiv) (rI (fun _ j=>j≠0/\j.natAbs<fO) fun i j=>.int (i.fdiv j)):=vn fun i j _ _ _ _ _ hc q=>floordiv_int hc.1 q (.inl (PyProof.noPylong_of_log2 (by
 rcases Nat.eq_zero_or_pos j.natAbs with h1|hp
 ·exact absurd (by simpa using h1) hc.1
 ·exact(Nat.log2_lt (Nat.ne_of_gt hp)).mpr hc.2)))
mutual
theorem dD{pins:List (Addr×Obj)}{σ:L2.St}{H:Hp}{s:Shared}(I:ah X pins σ H s){P:bx}:∀{d:D} {v:V} {u:Value},d.py.canLay0=true->af X.K H P d v->aX v u->∃as,Reads s.heap u d.py as
 | .non,v,u,_,h,r=>by
  rw[af]at h;subst h;cases (show u=Value.none from r);rw[D.py];exact⟨_,.none⟩
 | .bl b,v,u,_,h,r=>by rw[af]at h;subst h;cases (show u=Value.bool b from r);rw[D.py];exact⟨_,.bool b⟩
 | .int i,v,u,_,h,r=>by rw[af]at h;subst h;obtain⟨t,e⟩:=(show ∃t,u=Value.int i t from r);subst e;rw[D.py];exact⟨_,.int i t⟩
 | .str x,v,u,_,h,r=>by rw[af]at h;subst h;obtain⟨t,e⟩:=(show ∃t,u=Value.str x t from r);subst e;rw[D.py];exact⟨_,.str x t⟩
 | .dct _ _,v,u,c,h,r=>by rw[D.py]at c;simp[PyData.canLay0]at c
 | .typ _,v,u,c,h,r=>by rw[D.py]at c;simp[PyData.canLay0]at c
 | .sn _,v,u,c,h,r=>by rw[D.py]at c;simp[PyData.canLay0]at c
 | .obj _ _ _,v,u,c,h,r=>by rw[D.py]at c;simp[PyData.canLay0]at c
 | .cls _,v,u,c,h,r=>by rw[D.py]at c;simp[PyData.canLay0]at c
 | .xc _ _,v,u,c,h,r=>by rw[D.py]at c;simp[PyData.canLay0]at c
 | .tup l,v,u,c,h,r=>by
  rw[af]at h
  obtain⟨a,vs,rfl,h,q⟩:=h
  cases (show u=Value.ref a from r)
  obtain⟨its,rv,ht,_⟩:=I.tuple h
  obtain⟨o,e1,e2,n,e3⟩:=ht
  rw[D.py]at c⊢
  obtain⟨as,ra⟩:=kJ I (by simpa [PyData.canLay0]using c) q rv
  exact⟨as,.tuple e1 e2 e3 (by simpa using ra)⟩
 | .lst l,v,u,c,h,r=>by
  rw[af]at h
  obtain⟨a,vs,b,rfl,h,_,q⟩:=h
  cases (show u=Value.ref a from r)
  have hs:cm X.K H a vs:=h.sq
  obtain⟨its,rv,ht,_⟩:=I.list hs
  obtain⟨o,n,e1,e2,_,e3⟩:=ht
  rw[D.py]at c⊢
  obtain⟨as,ra⟩:=kJ I (by simpa [PyData.canLay0]using c) q rv
  exact⟨_,.list e1 e2 e3 (by simpa using ra)⟩
theorem kJ{pins:List (Addr×Obj)}{σ:L2.St}{H:Hp}{s:Shared}(I:ah X pins σ H s){P:bx}:∀{l:List D} {vs:List V} {us:List Value},PyData.canLayAll0 (g9 l)=true->ai X.K H P l vs->aL vs us->∃as,ReadsAll s.heap us (g9 l) as
 | [],vs,us,_,h,r=>by rw[ai]at h;subst h;cases r;rw[g9];exact⟨_,.nil⟩
 | d::l,vs,us,c,h,r=>by
  rw[ai]at h
  obtain⟨v,vr,rfl,h1,h2⟩:=h
  cases r with
  | cons r1 r2 =>
   rw[g9,PyData.canLayAll0,Bool.and_eq_true]at c
   obtain⟨as,ra⟩:=dD I c.1 h1 r1
   obtain⟨bs,rb⟩:=kJ I c.2 h2 r2
   rw[g9]
   exact⟨_,.cons ra rb⟩
end
def C9(X:Cx)(f:Value->Value->Sem Value)(x y z:D)(k j l:Nat):Prop :=
 ∃r:R2,cv X f r/\∀ow H0 H2 v u (Q:VK),fi ow H0->aw H0 H2->af X.K H2 (Kp ow H0 k) x v->af X.K H2 (Kp ow H0 j) y u->(∀w H',aw H2 H'->af X.K H' (Kp ow H0 l) z w->Q w H')->r v u H2 Q
theorem cQ{p:Addr}{o:HO}(h:H p=none):aw H (aM H p o):=fun b x e=>by rw[ay (aV e h)];exact e
theorem af.kn(h:af K H (Kp ow H0 k) d v):af K H (Kp ow H0 (Sp.kn d k)) d v:=by
 unfold Sp.kn
 by_cases f:d.lless=true
 ·rw[if_pos f];exact h.flat _ f
 ·rw[if_neg f];exact h
theorem eO:b8<=sizeLine:=by rw[sizeLine_eq];decide
theorem qt:b8<sizeLine:=by rw[sizeLine_eq];decide
theorem lE{f:Value->Value->Sem Value}{a b:Int}{g:Int->Int->Int}{C:Int->Int->Prop}(h:cv X f (rI C fun i j=>.int (g i j)))(hc:C a b):C9 X f (.int a) (.int b) (.int (g a b)) k j 0 :=
 ⟨_,h,fun ow H0 H2 v u Q o s rx ry q=>by
  rw[af]at rx ry;subst rx ry
  exact⟨a,b,rfl,rfl,hc,q _ _ (aw.refl _) (by rw[af])⟩⟩
theorem sI{f:Value->Value->Sem Value}{a b:Int}{g:Int->Int->Int}(h:cv X f (kl fun i j=>.int (g i j))):C9 X f (.int a) (.int b) (.int (g a b)) k j 0 :=
 ⟨_,h,fun ow H0 H2 v u Q o s rx ry q=>by
  rw[af]at rx ry;subst rx ry
  exact⟨a,b,rfl,rfl,q _ _ (aw.refl _) (by rw[af])⟩⟩
theorem kr:∀{a b:List D},ax (a++b)=(ax a&&ax b)
 | [],b=>by simp[ax]
 | x::a,b=>by rw[List.cons_append,ax,ax,kr,Bool.and_assoc]
theorem Fq{op:Operator}{a b:Int}{l:Nat}(h:Bw op a b=.ok (z,l) o)(hp:aE o):C9 X (binaryOp op) (.int a) (.int b) z k j l:=by
 unfold Bw at h
 split at h
 ·cases h;exact sI Hb
 ·cases h;exact sI G8
 ·cases h;exact lE D5 hp.1
 ·cases h;exact lE AW hp.1
 ·cases h;exact lE D6 hp.1
 ·cases h
  have c:wx a b:=hp.1
  exact lE G9 ⟨c.1,by have:=c.2.1;omega,c.2.2⟩
 ·cases h
theorem mQ{op:Operator}(h:rq op=true):op=.Add:=by cases op<;>first|rfl|cases h
theorem AX:cv X (binaryOp .Add) (fun x y H Q => ∃a b ys,x=.ref a/\y=.ref b/\cZ X.K H a []/\cZ X.K H b ys/\Q (.ref b) H):=by
 intro pins s σ H x y v u Q I rx ry h
 obtain⟨a,b,ys,rfl,rfl,ha,hb,q⟩:=h
 cases rx
 cases ry
 obtain⟨its,r1,p1,_⟩:=I.tuple ha
 obtain⟨its2,r2,p2,_⟩:=I.tuple hb
 cases r1
 obtain⟨⟨cls,dd,data,sl⟩,ho,hc,n,hd⟩:=id p1
 obtain⟨⟨cls2,dd2,data2,sl2⟩,ho2,hc2,n2,hd2⟩:=id p2
 simp only at hc hd hc2 hd2
 subst hc hd hc2 hd2
 exact concat_meets ⟨_,ho,rfl⟩ ⟨_,ho2,rfl⟩ noFill_tuple_add seq_tuple_add PySem.F.slot_tuple_add PySem.F.entry_tuple_add (PySem.F.args_tuple_add_2 _ _)
  (tuple_addW0 a b _ its2.toArray n n2 dd dd2 sl sl2 (by rfl)) ⟨ho,ho2,⟨.ref b,H,I,rfl,q⟩⟩
theorem D8:cv X (binaryOp .Add) (fun x y H Q => ∃l b xs zs,x=.ref l/\y=.ref b/\cm X.K H l xs/\cm X.K H b zs/\xs.length+zs.length<=sizeLine/\∀p,H p=none->Q (.ref p) (aM H p (.lst (xs++zs)))):=by
 intro pins s σ H x y v u Q I rx ry h
 obtain⟨l,b,xs,zs,rfl,rfl,hH,hB,hz,q⟩:=h
 cases rx
 cases ry
 obtain⟨its,r,⟨⟨cls,dd,data,sl⟩,n,ho,hc,_,hd⟩,z⟩:=I.list hH
 obtain⟨its2,r2,⟨⟨cls2,dd2,data2,sl2⟩,n2,ho2,hc2,_,hd2⟩,z2⟩:=I.list hB
 simp only at hc hd hc2 hd2
 subst hc hd hc2 hd2
 have l1:=r.length
 have l2:=r2.length
 refine concat_meets ⟨_,ho,rfl⟩ ⟨_,ho2,rfl⟩ noFill_list_add seq_list_add PySem.F.slot_list_add PySem.F.entry_list_add (PySem.F.args_list_add_2 _ _) (list_addW l b its.toArray its2.toArray n n2 dd dd2 sl sl2 (by rw[List.size_toArray,List.size_toArray];omega)) ⟨ho,ho2,?_⟩
 have ea:its.toArray++its2.toArray=(its++its2).toArray:=by simp
 rw[ea]
 exact⟨.ref _,_,I.lnew (t':=s.toks) (r.append r2) (by rw[List.length_append];omega),rfl,q _ I.fresh⟩
theorem JD{op:Operator}{x:D}{l:Nat}(h:iK op x y k j=.ok (z,l) o)(hp:aE o):C9 X (binaryOp op) x y z k j l:=by
 unfold iK at h
 split at h
 ·exact Fq h hp
 ·rename_i a b
  split at h
  ·rename_i c;cases h
   cases mQ c
   refine⟨_,wD,fun ow H0 H2 v u Q o s rx ry q=>?_⟩
   rw[af]at rx ry;subst rx ry
   exact⟨a,b,rfl,rfl,Nat.le_trans hp.1 eO,q _ _ (aw.refl _) (by rw[af])⟩
  ·cases h
 ·rename_i a b
  split at h
  ·rename_i c
   cases mQ c
   cases h
   cases a with
   | nil =>
    refine⟨_,AX,fun ow H0 H2 v u Q o s rx ry q=>?_⟩
    rw[af]at rx ry
    obtain⟨pa,va,rfl,ha,ra⟩:=rx
    obtain⟨pb,vb,rfl,hb,rb⟩:=ry
    have rb':=rb.imp (Kp.joinR o k j)
    cases ra
    refine⟨pa,pb,vb,rfl,rfl,ha,hb,q _ _ (aw.refl _) (af.kn ?_)⟩
    rw[af]
    exact⟨pb,vb,rfl,hb,rb'⟩
   | cons a0 a =>
    refine⟨_,D7,fun ow H0 H2 v u Q o s rx ry q=>?_⟩
    rw[af]at rx ry
    obtain⟨pa,va,rfl,ha,ra⟩:=rx
    obtain⟨pb,vb,rfl,hb,rb⟩:=ry
    have ra':=ra.imp (Kp.joinL o k j)
    have rb':=rb.imp (Kp.joinR o k j)
    have la:=ra.length
    have lb:=rb.length
    refine⟨pa,pb,va,vb,rfl,rfl,ha,hb,?_,?_,fun e=>?_,fun e p hp'=>?_⟩
    ·intro e;subst e;cases la
    ·rw[<- la,<- lb];exact Nat.le_trans hp.1 eO
    ·subst e
     have:b=[]:=List.length_eq_zero_iff.mp lb
     subst this
     refine q _ _ (aw.refl _) (af.kn ?_)
     rw[af]
     exact⟨pa,va,rfl,ha,by rw[List.append_nil];exact ra'⟩
    ·have sm:=cQ (o:=HO.tup (va++vb)) hp'
     refine q _ _ sm (af.kn ?_)
     rw[af]
     exact⟨p,_,rfl,cZ.of aI,(ra'.same sm).append (rb'.same sm)⟩
  ·cases h
 ·rename_i a b
  split at h
  ·rename_i c;cases h
   cases mQ c
   refine⟨_,D8,fun ow H0 H2 v u Q o s rx ry q=>?_⟩
   rw[af]at rx ry
   obtain⟨pa,va,b1,rfl,ha,qa,ra⟩:=rx
   obtain⟨pb,vb,b2,rfl,hb,qb,rb⟩:=ry
   have la:=ra.length
   have lb:=rb.length
   have fl:=hp.1
   rw[kr,Bool.and_eq_true]at fl
   refine⟨pa,pb,va,vb,rfl,rfl,ha.sq,hb.sq,by rw[<- la,<- lb];exact Nat.le_trans hp.2.1 eO,fun p hp'=>?_⟩
   have sm:=cQ (o:=HO.lst (va++vb)) hp'
   refine q _ _ sm ?_
   rw[af]
   exact⟨p,_,true,rfl,aI,⟨rfl,s.free hp'⟩,((ra.flat _ fl.1).same sm).append ((rb.flat _ fl.2).same sm)⟩
  ·cases h
 ·cases h
theorem A2{pins:List (Addr×Obj)}{σ:L2.St}{s:Shared}{P:bx}{l:List D}(h:af X.K H P (.lst l) v):∃a vs,v=.ref a/\cm X.K H a vs/\ai X.K H P l vs:=by
 rw[af]at h
 obtain⟨a,vs,b,rfl,h,_,q⟩:=h
 exact⟨a,vs,rfl,h.sq,q⟩
theorem kT:∀{l:List D} {ns:List Int},dr l=some ns->l=ns.map D.int
 | [],ns,h=>by rw[dr]at h;cases h;rfl
 | .int i::l,ns,h=>by
  rw[dr]at h
  cases e:dr l with
  | none=>rw[e]at h;cases h
  | some m=>rw[e]at h;cases h;rw[kT e];rfl
 | .non::l,ns,h=>by rw[dr]at h<;>first|cases h|(intro z;intro e;cases e)
 | .bl _::l,ns,h=>by rw[dr]at h<;>first|cases h|(intro z;intro e;cases e)
 | .str _::l,ns,h=>by rw[dr]at h<;>first|cases h|(intro z;intro e;cases e)
 | .dct _ _::l,ns,h=>by rw[dr]at h<;>first|cases h|(intro z;intro e;cases e)
 | .typ _::l,ns,h=>by cases h
 | .sn _::l,ns,h=>by cases h
 | .obj _ _ _::l,ns,h=>by cases h
 | .cls _::l,ns,h=>by cases h
 | .xc _ _::l,ns,h=>by cases h
 | .tup _::l,ns,h=>by rw[dr]at h<;>first|cases h|(intro z;intro e;cases e)
 | .lst _::l,ns,h=>by rw[dr]at h<;>first|cases h|(intro z;intro e;cases e)
theorem j6:∀{l:List D} {ns:List Bool},bR l=some ns->l=ns.map D.bl
 | [],ns,h=>by rw[bR]at h;cases h;rfl
 | .bl i::l,ns,h=>by
  rw[bR]at h
  cases e:bR l with
  | none=>rw[e]at h;cases h
  | some m=>rw[e]at h;cases h;rw[j6 e];rfl
 | .non::l,ns,h=>by rw[bR]at h<;>first|cases h|(intro z;intro e;cases e)
 | .int _::l,ns,h=>by rw[bR]at h<;>first|cases h|(intro z;intro e;cases e)
 | .str _::l,ns,h=>by rw[bR]at h<;>first|cases h|(intro z;intro e;cases e)
 | .dct _ _::l,ns,h=>by rw[bR]at h<;>first|cases h|(intro z;intro e;cases e)
 | .typ _::l,ns,h=>by cases h
 | .sn _::l,ns,h=>by cases h
 | .obj _ _ _::l,ns,h=>by cases h
 | .cls _::l,ns,h=>by cases h
 | .xc _ _::l,ns,h=>by cases h
 | .tup _::l,ns,h=>by rw[bR]at h<;>first|cases h|(intro z;intro e;cases e)
 | .lst _::l,ns,h=>by rw[bR]at h<;>first|cases h|(intro z;intro e;cases e)
def jj(X:Cx)(op:CmpOp)(x y:D)(r:Bool):Prop:=∀(P P':bx),cv X (compareOp op) (fun v u H Q=>af X.K H P x v/\af X.K H P' y u/\Q (.bl r) H)
theorem lj{x:D}:∀{l:List D},((g9 l).any fun y=>PyData.eqv y x.py)=l.any fun y=>eqD y x
 | []=>by rw[g9];rfl
 | y::l=>by rw[g9,List.any_cons,List.any_cons,lj];rfl
theorem lN{a b:Int}{g:Int->Int->Bool}(h:cv X (compareOp op) (kl fun i j=>.bl (g i j))):jj X op (.int a) (.int b) (g a b):=fun P P' pins s σ H v u xv yu Q I rx ry ⟨h1,h2,q⟩=>by
 rw[af]at h1 h2;subst h1 h2
 exact h pins s σ H _ _ xv yu Q I rx ry ⟨a,b,rfl,rfl,q⟩
theorem Ep{l:List D}(h:SeqAt.shaped (D.tup l).py=true):PyData.canLayAll0 (g9 l)=true:=by
 have:=SeqAt.canLay_of_shaped h
 rw[D.py]at this
 simpa [PyData.canLay0]using this
theorem vw{x:D}{l:List D}(hu:X.A.units+70<cLine)(h:wI x l=.ok r o)(hp:aE o):jj X .In x (.tup l) r/\jj X .In x (.lst l) r/\jj X .NotIn x (.tup l) (!r)/\jj X .NotIn x (.lst l) (!r):=by
 unfold wI at h
 cases h
 ·have c:=hp.1
  unfold dR at c
  rw[Bool.and_eq_true]at c
  have c1:=Ep c.1
  have c2:=SeqAt.canLay_of_shaped c.2
  have dx:=SeqAt.depth_of_shaped c.2
  have hm:min (PyData.depthAll (g9 l)) x.py.depth<=64:=Nat.le_trans (Nat.min_le_right _ _) dx
  have ct:(D.tup l).py.canLay0=true:=SeqAt.canLay_of_shaped c.1
  have cl:(D.lst l).py.canLay0=true:=by rw[D.py];simpa [PyData.canLay0]using c1
  have et:(D.tup l).py=.tuple (g9 l):=by rw[D.py]
  have el:(D.lst l).py=.list (g9 l):=by rw[D.py]
  refine⟨?_,?_,?_,?_⟩<;>intro P P' pins s σ H v u xv yu Q I rx ry ⟨h1,h2,q⟩<;>obtain⟨as,r1⟩:=dD I c2 h1 rx
  ·obtain⟨bs,r2⟩:=dD I ct h2 ry
   rw[et]at r2
   exact SeqAt.in_tuple_reads r2 r1 c1 c2 (by omega) ⟨.bl _,H,I,rfl,by rw[lj];exact q⟩
  ·obtain⟨bs,r2⟩:=dD I cl h2 ry
   rw[el]at r2
   exact SeqAt.in_list_reads r2 r1 c1 c2 (by omega) ⟨.bl _,H,I,rfl,by rw[lj];exact q⟩
  ·obtain⟨bs,r2⟩:=dD I ct h2 ry
   rw[et]at r2
   exact SeqAt.notIn_tuple_reads r2 r1 c1 c2 (by omega) ⟨.bl _,H,I,rfl,by rw[lj];exact q⟩
  ·obtain⟨bs,r2⟩:=dD I cl h2 ry
   rw[el]at r2
   exact SeqAt.notIn_list_reads r2 r1 c1 c2 (by omega) ⟨.bl _,H,I,rfl,by rw[lj];exact q⟩
theorem Ho{r:Rs Bool}(h:r.nt=.ok b o):r=.ok (!b) o:=by
 cases r with
 | st=>cases h
 | ok c l=>cases h;simp
theorem vo{P:bx}{x:D}(h:af X.K H P x v):decide (v=.non)=x.isNon:=by
 cases x with
 | non=>rw[af]at h;subst h;rfl
 | bl _=>rw[af]at h;subst h;rfl
 | int _=>rw[af]at h;subst h;rfl
 | str _=>rw[af]at h;subst h;rfl
 | dct _ _=>rw[af]at h;obtain⟨_,_,a,_,rfl,_⟩:=h;rfl
 | typ _=>rw[af]at h;subst h;rfl
 | sn _=>rw[af]at h;obtain⟨a,_,rfl,_⟩:=h;rfl
 | obj _ _ _=>rw[af]at h;obtain⟨_,_,a,_,_,_,rfl,_⟩:=h;rfl
 | cls _=>rw[af]at h;obtain⟨_,_,rfl,_⟩:=h;rfl
 | xc _ _=>rw[af]at h;obtain⟨_,rfl⟩:=h.ref;rfl
 | tup _=>rw[af]at h;obtain⟨a,_,rfl,_⟩:=h;rfl
 | lst _=>rw[af]at h;obtain⟨a,_,_,rfl,_⟩:=h;rfl
theorem ip{l:List D}(h:hU d=some l):d=.tup l\/d=.lst l:=by
 unfold hU at h
 split at h
 ·cases h;exact .inl rfl
 ·cases h;exact .inr rfl
 ·cases h
theorem Fi{a b:Int}(h:gy op a b=some r):jj X op (.int a) (.int b) r:=by
 unfold gy at h
 split at h
 ·cases h;exact lN KL
 ·cases h;exact lN KM
 ·cases h;exact lN KN
 ·cases h;exact lN KO
 ·cases h
theorem G7{x:D}(hu:X.A.units+70<cLine)(h:wB op x y=some r):jj X op x y r:=by
 unfold wB at h
 split at h
 ·exact Fi h
 ·cases h
theorem CS(b c:Bool):(Value.bool b==Value.bool c)=(b==c):=by cases b<;>cases c<;>rfl
theorem Cw{x:D}(hu:X.A.units+70<cLine)(h:Cy x y=.ok r o)(hp:aE o):jj X .In x y r/\jj X .NotIn x y (!r):=by
 unfold Cy at h
 split at h
 ·have m:=vw hu h hp;exact⟨m.1,m.2.2.1⟩
 ·have m:=vw hu h hp;exact⟨m.2.1,m.2.2.2⟩
 ·cases h
 ·rename_i b
  split at h
  ·rename_i a
   cases h
   refine⟨?_,?_⟩<;>intro P P' pins s σ H v u xv yu Q I rx ry ⟨h1,h2,q⟩<;>(rw[af]at h1 h2;subst h1 h2;obtain⟨t,rfl⟩:=rx;obtain⟨t',rfl⟩:=ry)
   ·exact SB.contains ⟨.bl _,H,I,rfl,q⟩
   ·exact SB.notContains ⟨.bl _,H,I,rfl,q⟩
  ·cases h
 ·cases h
theorem jF{x:D}(hu:X.A.units+70<cLine)(h:gW op x y=.ok r o)(hp:aE o):jj X op x y r:=by
 unfold gW at h
 split at h
 ·cases h
  have c:=hp.1
  unfold dR at c
  rw[Bool.and_eq_true]at c
  intro P P' pins s σ H v u xv yu Q I rx ry ⟨h1,h2,q⟩
  obtain⟨as,r1⟩:=dD I (SeqAt.canLay_of_shaped c.1) h1 rx
  obtain⟨bs,r2⟩:=dD I (SeqAt.canLay_of_shaped c.2) h2 ry
  exact eq_dataH r1 r2 c.1 c.2 (by omega) ⟨.bl _,H,I,rfl,q⟩
 ·cases h
  have c:=hp.1
  unfold dR at c
  rw[Bool.and_eq_true]at c
  intro P P' pins s σ H v u xv yu Q I rx ry ⟨h1,h2,q⟩
  obtain⟨as,r1⟩:=dD I (SeqAt.canLay_of_shaped c.1) h1 rx
  obtain⟨bs,r2⟩:=dD I (SeqAt.canLay_of_shaped c.2) h2 ry
  exact ne_dataH r1 r2 c.1 c.2 (by omega) ⟨.bl _,H,I,rfl,q⟩
 ·exact(Cw hu h hp).1
 ·have:=(Cw hu (Ho h) hp).2;rw[Bool.not_not]at this;exact this
 ·split at h
  ·cases h
   intro P P' pins s σ H v u xv yu Q I rx ry ⟨h1,h2,q⟩
   rw[af]at h2
   subst h2
   exact Ha pins s σ H v _ xv yu Q I rx ry ⟨rfl,by rw[vo h1];exact q⟩
  ·split at h
   ·cases h
    intro P P' pins s σ H v u xv yu Q I rx ry ⟨h1,h2,q⟩
    rw[af]at h1 h2
    subst h1 h2
    cases rx
    cases ry
    exact wpAny_is_plain rfl ⟨.bl _,H,I,rfl,by rw[CS];exact q⟩
   ·cases h
  ·cases h
 ·split at h
  ·cases h
   intro P P' pins s σ H v u xv yu Q I rx ry ⟨h1,h2,q⟩
   rw[af]at h2
   subst h2
   refine D4 pins s σ H v _ xv yu Q I rx ry ⟨rfl,?_⟩
   rw[vo h1]
   exact q
  ·split at h
   ·cases h
    intro P P' pins s σ H v u xv yu Q I rx ry ⟨h1,h2,q⟩
    rw[af]at h1 h2
    subst h1 h2
    cases rx
    cases ry
    exact wpAny_isNot_plain rfl ⟨.bl _,H,I,rfl,by rw[CS];exact q⟩
   ·cases h
  ·cases h
 ·cases e:wB op x y with
  | none=>rw[e]at h;cases h
  | some b=>rw[e]at h;cases h;exact G7 hu e
variable{X:Cx}
theorem vB(K:W.Frag){t:Value}:W.kitOne K t t=some true:=by unfold W.kitOne;rw[if_pos (beq_self_eq_true t)]
def D.ty:D->String
 | .non => "NoneType"
 | .bl _ => "bool"
 | .int _ => "int"
 | .str _ => "str"
 | .dct _ _ => "dict"
 | .tup _ => "tuple"
 | .lst _ => "list"
 | .typ _ => "type"
 | .sn _ => "set"
 | .obj _ _ _ => "object"
 | .cls _ => "type"
 | .xc _ _ => "type"
def D.plain:D->Bool
 | .typ _=>false
 | .sn _=>false
 | .obj _ _ _=>false
 | .cls _=>false
 | .xc _ _=>false
 | _=>true
theorem HS{x:D}{c:String}(hpl:x.plain=true)(e:∀K,W.kitOne K (.type x.ty) (.type c)=some b){u:Value}{P:bx}
  (I:ah X pins σ H s) (h:af X.K H P x v) (r:aX v u) (q:∀tk,Q (.bool b) { s with toks:=tk }):wpAny (model X.prog X.w) X.A (call (.builtin "isinstance") [u,.type c]) Q E s:=by
 have e:=e X.K
 cases x with
 | non=>rw[af]at h;subst h;cases (show u=Value.none from r);exact W.kia_one W.kitx_none I.kIn True.intro e (fun z=>nomatch z) q
 | bl y=>rw[af]at h;subst h;cases (show u=Value.bool y from r);exact W.kia_one W.kitx_bool I.kIn True.intro e (fun z=>nomatch z) q
 | int i=>rw[af]at h;subst h;obtain⟨t,z⟩:=(show ∃t,u=Value.int i t from r);cases z;exact W.kia_one W.kitx_int I.kIn True.intro e (fun z=>nomatch z) q
 | str y=>rw[af]at h;subst h;obtain⟨t,z⟩:=(show ∃t,u=Value.str y t from r);cases z;exact W.kia_one W.kitx_str I.kIn True.intro e (fun z=>nomatch z) q
 | dct ks ds =>
  rw[af]at h
  obtain⟨_,_,a,vs,rfl,ea,_⟩:=h
  cases (show u=Value.ref a from r)
  obtain⟨_,_,vs,_,p⟩:=(show bU X.prog X.w H s.heap a (.dK _)from I.hok a _ ea)
  obtain⟨o,es,ep,h1,h2,_⟩:=p
  exact W.kia_one W.kitx_dict I.kIn ⟨o,h1,h2.1⟩ e (fun z=>nomatch z) q
 | typ _=>cases hpl
 | sn _=>cases hpl
 | obj _ _ _=>cases hpl
 | cls _=>cases hpl
 | xc _ _=>cases hpl
 | tup l =>
  rw[af]at h
  obtain⟨a,vs,rfl,ea,_⟩:=h
  cases (show u=Value.ref a from r)
  obtain⟨_,_,⟨o,h1,h2,_⟩,_⟩:=I.tuple ea
  exact W.kia_one W.kitx_tuple I.kIn ⟨o,h1,h2⟩ e (fun z=>nomatch z) q
 | lst l =>
  obtain⟨a,vs,rfl,ea,_⟩:=A2 (pins:=pins) (σ:=σ) (s:=s) h
  cases (show u=Value.ref a from r)
  obtain⟨_,_,⟨o,n,h1,h2,_⟩,_⟩:=I.list ea
  exact W.kia_one W.kitx_list I.kIn ⟨o,h1,h2⟩ e (fun z=>nomatch z) q
theorem kt(K:W.Frag)(a b:String)(r:Bool)(h:(a==b)=false)(h2:W.kitCls K (.type a) (.type b)=some r):W.kitOne K (.type a) (.type b)=some r:=by
 unfold W.kitOne
 rw[if_neg (by
  intro z
  have:a=b:=by simpa using z
  subst this
  simp at h)]
 exact h2
theorem Et:∀a∈["NoneType", "bool", "int", "str", "dict", "tuple", "list"],∀T∈lB,(a==T)=false->∀K,W.kitCls K (.type a) (.type T)=some (decide (a = "bool" /\ T = "int")):=by
 intro a ha T hT
 simp only[List.mem_cons,List.not_mem_nil,or_false,lB]at ha hT
 rcases ha with rfl|rfl|rfl|rfl|rfl|rfl|rfl<;>rcases hT with rfl|rfl|rfl|rfl|rfl|rfl<;>intro h K<;>first|(exact absurd h (by decide))|kernel_rfl
theorem HU{x:D}(h:HV x T=some b)(hT:T∈lB):x.plain=true/\∀K,W.kitOne K (.type x.ty) (.type T)=some b:=by
 have key:∀(a:String),a∈["NoneType", "bool", "int", "str", "dict", "tuple", "list"]->∀K,W.kitOne K (.type a) (.type T)=some (decide (a=T) || decide (a = "bool" /\ T = "int")):=fun a ha K=>by
  by_cases e:a=T
  ·subst e;rw[vB];simp
  ·have e':(a==T)=false:=by simpa using e
   rw[kt K a T _ e' (Et a ha T hT e' K)];simp[e]
 unfold HV at h
 cases hx:x.ty0 with
 | none=>rw[hx]at h;cases h
 | some a =>
  rw[hx]at h
  cases h
  have hp:x.plain=true/\x.ty=a/\a∈["NoneType", "bool", "int", "str", "dict", "tuple", "list"]:=by
   cases x<;>cases hx<;>exact⟨rfl,rfl,by decide⟩
  refine⟨hp.1,fun K=>?_⟩
  rw[hp.2.1]
  exact key a hp.2.2 K
def kg(X:Cx)(f:Value)(ds:List D)(z:D)(l:Nat):Prop :=
 ∃r:List V->Hp->VK->Prop,cP X f r/\∀ow H0 H2 vs (P:bx) (Q:VK),fi ow H0->aw H0 H2->ai X.K H2 P ds vs->(∀w H',aw H2 H'->af X.K H' (Kp ow H0 l) z w->Q w H')->r vs H2 Q
theorem ai.only{P:bx}(h:ai K H P [d] vs):∃v,vs=[v]/\af K H P d v:=by
 rw[ai]at h
 obtain⟨v,r,rfl,h1,h2⟩:=h
 rw[ai]at h2;subst h2
 exact⟨v,rfl,h1⟩
theorem iQ{P:bx}{l:List D}(h:af X.K H P (.lst l) v):∃a vs,v=.ref a/\cm X.K H a vs/\ai X.K H P l vs:=by
 rw[af]at h
 obtain⟨a,vs,b,rfl,h,_,q⟩:=h
 exact⟨a,vs,rfl,h.sq,q⟩
theorem gF{P:bx}{l:List D}(h:af X.K H P (.tup l) v):∃a vs,v=.ref a/\cZ X.K H a vs/\ai X.K H P l vs:=by
 rw[af]at h;exact h
theorem yV{l:List D}:kg X (.builtin "len") [.tup l] (.int l.length) 0/\kg X (.builtin "len") [.lst l] (.int l.length) 0:=by
 constructor
 ·refine⟨_,li,fun ow H0 H2 vs P Q o s rx q=>?_⟩
  obtain⟨v,rfl,ry⟩:=rx.only
  obtain⟨a,ws,rfl,hs,rl⟩:=gF ry
  exact⟨a,ws,rfl,.inr hs,by rw[<- rl.length];exact q _ _ (aw.refl _) (by rw[af])⟩
 ·refine⟨_,li,fun ow H0 H2 vs P Q o s rx q=>?_⟩
  obtain⟨v,rfl,ry⟩:=rx.only
  obtain⟨a,ws,rfl,hs,rl⟩:=iQ ry
  exact⟨a,ws,rfl,.inl hs,by rw[<- rl.length];exact q _ _ (aw.refl _) (by rw[af])⟩
theorem rQ{l:List D}(f:ax l=true):kg X (.type "tuple") [.lst l] (.tup l) 0/\kg X (.type "tuple") [.tup l] (.tup l) 0:=by
 constructor
 ·refine⟨_,ku,fun ow H0 H2 vs P Q o s rx q=>?_⟩
  obtain⟨v,rfl,ry⟩:=rx.only
  obtain⟨a,ws,rfl,hs,rl⟩:=iQ ry
  refine⟨a,ws,rfl,.inl ⟨hs,fun p hp=>?_⟩⟩
  have sm:=cQ (o:=HO.tup ws) hp
  refine q _ _ sm ?_
  rw[af]
  exact⟨p,ws,rfl,cZ.of aI,(rl.flat _ f).same sm⟩
 ·refine⟨_,ku,fun ow H0 H2 vs P Q o s rx q=>?_⟩
  obtain⟨v,rfl,ry⟩:=rx.only
  obtain⟨a,ws,rfl,hs,rl⟩:=gF ry
  refine⟨a,ws,rfl,.inr ⟨hs,q _ _ (aw.refl _) ?_⟩⟩
  rw[af]
  exact⟨a,ws,rfl,hs,rl.flat _ f⟩
theorem JR{i:Int}:kg X (.builtin "abs") [.int i] (.int (if i<0 then -i else i)) 0:=by
 refine⟨_,Bs,fun ow H0 H2 vs P Q o s rx q=>?_⟩
 obtain⟨v,rfl,ry⟩:=rx.only
 rw[af]at ry;subst ry
 exact⟨i,rfl,q _ _ (aw.refl _) (by rw[af])⟩
theorem ai.mapBl{K:W.Frag}{P:bx}{H:Hp}:∀{ns:List Bool} {vs:List V},ai K H P (ns.map D.bl) vs->vs=ns.map V.bl
 | [],vs,h=>by rw[List.map_nil,ai]at h;exact h
 | n::ns,vs,h=>by
  rw[List.map_cons,ai]at h
  obtain⟨v,r,rfl,h1,h2⟩:=h
  rw[af]at h1
  rw[h1,ai.mapBl h2];rfl
theorem oY:∀{bs:List Bool} {us:List Value},aL (bs.map V.bl) us->us=bs.map Value.bool
 | [],us,h=>by cases h;rfl
 | b::bs,us,h=>by
  cases h with
  | cons h1 h2=>rw[show _=Value.bool b from h1,oY h2];rfl
theorem zX(hc:X.calm=true):cP X (.builtin "all") (fun xs H Q => ∃(p:Addr) (bs:List Bool),xs=[.ref p]/\cm X.K H p (bs.map V.bl)/\Q (.bl (bs.all id)) H):=by
 intro pins s σ H xs us Q I r h
 obtain⟨p,bs,rfl,hq,q⟩:=h
 obtain⟨u,rfl,rx⟩:=dl r
 cases rx
 obtain⟨its,rv,pl,hz⟩:=I.list hq
 have ei:=oY rv
 subst ei
 have hl:=pl.isList
 have hlt:p<s.heap.objs.size:=by obtain⟨_,e,_⟩:=hl;exact Heap.lt_size e
 refine call_all_walk (wpAny_pyIter_list hl ?_)
 refine⟨_,_,_,_,_,_,fun i=>bs.getD i true,rfl,Walks.list (A:=X.A.in1) (by exact I.ok.hd hc) _ p (Nat.ne_of_lt hlt) (bs.map Value.bool).toArray,⟨⟨_,Heap.get?_push_size _ rfl,rfl,rfl⟩,hl.push _⟩,?_,fun h' tk hk=>?_⟩
 ·intro i v s' Q' E' hP hQ
  have hP:((bs.map Value.bool).toArray)[i]?=some v:=hP
  simp only[List.getElem?_toArray,List.getElem?_map]at hP
  cases e:bs[i]? with
  | none=>rw[e]at hP;cases hP
  | some b =>
   rw[e]at hP;cases hP
   refine wpAny_truthy_bool ?_
   have:bs.getD i true=b:=by rw[List.getD_eq_getElem?_getD,e];rfl
   rw[<- this];exact hQ
 ·have:((List.range (bs.map Value.bool).toArray.size).all fun i=>bs.getD i true)=bs.all id:=by
   simp only[List.size_toArray,List.length_map]
   rw[Bool.eq_iff_iff,List.all_eq_true,List.all_eq_true]
   constructor
   ·intro h x hx
    obtain⟨i,hi,rfl⟩:=List.mem_iff_getElem.mp hx
    have:=h i (List.mem_range.mpr hi)
    rw[List.getD_eq_getElem?_getD,List.getElem?_eq_getElem hi]at this
    exact this
   ·intro h i hi
    have hi:=List.mem_range.mp hi
    rw[List.getD_eq_getElem?_getD,List.getElem?_eq_getElem hi]
    exact h _ (List.getElem_mem hi)
  rw[this]
  refine⟨.bl _,H,I.kept (fun b o e=>hk b o (fun hm=>?_) (Heap.get?_push_of_some _ e)),rfl,q⟩
  have hb:b=s.heap.objs.size:=by simpa using hm
  subst hb
  exact absurd (Heap.lt_size e) (Nat.lt_irrefl _)
theorem zW(hc:X.calm=true):cP X (.builtin "any") (fun xs H Q => ∃(p:Addr) (ns:List Int),xs=[.ref p]/\cm X.K H p (ns.map V.int)/\Q (.bl (ns.any fun n=>n != 0)) H):=by
 intro pins s σ H xs us Q I r h
 obtain⟨p,ns,rfl,hq,q⟩:=h
 obtain⟨u,rfl,rx⟩:=dl r
 cases rx
 obtain⟨its,rv,pl,hz⟩:=I.list hq
 have hlen:its.length=ns.length:=by have:=rv.length;simpa using this.symm
 have hl:=pl.isList
 have hlt:p<s.heap.objs.size:=by obtain⟨_,e,_⟩:=hl;exact Heap.lt_size e
 refine call_any_walk (wpAny_pyIter_list hl ?_)
 refine⟨_,_,_,_,_,_,fun i=>(ns.getD i 0 != 0),rfl,Walks.list (A:=X.A.in1) (by exact I.ok.hd hc) _ p (Nat.ne_of_lt hlt) its.toArray,⟨⟨_,Heap.get?_push_size _ rfl,rfl,rfl⟩,hl.push _⟩,?_,fun h' tk hk=>?_⟩
 ·intro i v s' Q' E' hP hQ
  have hP:(its.toArray)[i]?=some v:=hP
  simp only[List.getElem?_toArray]at hP
  have hi:i<ns.length:=by rw[<- hlen];exact(List.getElem?_eq_some_iff.mp hP).1
  obtain⟨w,hw,rw'⟩:=rv.get (i:=i) (x:=V.int ns[i]) (by simp[hi])
  rw[hP]at hw;cases hw
  obtain⟨t,rfl⟩:=rw'
  refine PyProof.Rows.truthy_int ?_
  have:ns.getD i 0=ns[i]:=by rw[List.getD_eq_getElem?_getD,List.getElem?_eq_getElem hi];rfl
  rw[<- this];exact hQ
 ·have:((List.range its.toArray.size).any fun i=>(ns.getD i 0 != 0))=ns.any fun n=>n != 0:=by
   simp only[List.size_toArray,hlen]
   rw[Bool.eq_iff_iff,List.any_eq_true,List.any_eq_true]
   constructor
   ·rintro⟨i,hi,h⟩
    have hi:=List.mem_range.mp hi
    rw[List.getD_eq_getElem?_getD,List.getElem?_eq_getElem hi]at h
    exact⟨_,List.getElem_mem hi,h⟩
   ·rintro⟨x,hx,h⟩
    obtain⟨i,hi,rfl⟩:=List.mem_iff_getElem.mp hx
    exact⟨i,List.mem_range.mpr hi,by rw[List.getD_eq_getElem?_getD,List.getElem?_eq_getElem hi];exact h⟩
  rw[this]
  refine⟨.bl _,H,I.kept (fun b o e=>hk b o (fun hm=>?_) (Heap.get?_push_of_some _ e)),rfl,q⟩
  have hb:b=s.heap.objs.size:=by simpa using hm
  subst hb
  exact absurd (Heap.lt_size e) (Nat.lt_irrefl _)
theorem zV(hc:X.calm=true):cP X (.builtin "any") (fun xs H Q => ∃(p:Addr) (bs:List Bool),xs=[.ref p]/\cm X.K H p (bs.map V.bl)/\Q (.bl (bs.any id)) H):=by
 intro pins s σ H xs us Q I r h
 obtain⟨p,bs,rfl,hq,q⟩:=h
 obtain⟨u,rfl,rx⟩:=dl r
 cases rx
 obtain⟨its,rv,pl,hz⟩:=I.list hq
 have ei:=oY rv
 subst ei
 have hl:=pl.isList
 have hlt:p<s.heap.objs.size:=by obtain⟨_,e,_⟩:=hl;exact Heap.lt_size e
 refine call_any_walk (wpAny_pyIter_list hl ?_)
 refine⟨_,_,_,_,_,_,fun i=>bs.getD i false,rfl,Walks.list (A:=X.A.in1) (by exact I.ok.hd hc) _ p (Nat.ne_of_lt hlt) (bs.map Value.bool).toArray,⟨⟨_,Heap.get?_push_size _ rfl,rfl,rfl⟩,hl.push _⟩,?_,fun h' tk hk=>?_⟩
 ·intro i v s' Q' E' hP hQ
  have hP:((bs.map Value.bool).toArray)[i]?=some v:=hP
  simp only[List.getElem?_toArray,List.getElem?_map]at hP
  cases e:bs[i]? with
  | none=>rw[e]at hP;cases hP
  | some b =>
   rw[e]at hP;cases hP
   refine wpAny_truthy_bool ?_
   have:bs.getD i false=b:=by rw[List.getD_eq_getElem?_getD,e];rfl
   rw[<- this];exact hQ
 ·have:((List.range (bs.map Value.bool).toArray.size).any fun i=>bs.getD i false)=bs.any id:=by
   simp only[List.size_toArray,List.length_map]
   rw[Bool.eq_iff_iff,List.any_eq_true,List.any_eq_true]
   constructor
   ·rintro⟨i,hi,h⟩
    have hi:=List.mem_range.mp hi
    rw[List.getD_eq_getElem?_getD,List.getElem?_eq_getElem hi]at h
    exact⟨_,List.getElem_mem hi,h⟩
   ·rintro⟨x,hx,h⟩
    obtain⟨i,hi,rfl⟩:=List.mem_iff_getElem.mp hx
    exact⟨i,List.mem_range.mpr hi,by rw[List.getD_eq_getElem?_getD,List.getElem?_eq_getElem hi];exact h⟩
  rw[this]
  refine⟨.bl _,H,I.kept (fun b o e=>hk b o (fun hm=>?_) (Heap.get?_push_of_some _ e)),rfl,q⟩
  have hb:b=s.heap.objs.size:=by simpa using hm
  subst hb
  exact absurd (Heap.lt_size e) (Nat.lt_irrefl _)
theorem zS:cP X (.builtin "len") (fun xs H Q => ∃(p:Addr) (S:Int->Bool) (n:Nat),xs=[.ref p]/\H p=some (.set S n)/\Q (.int n) H):=by
 intro pins s σ H xs us Q I r h
 obtain⟨p,S,n,rfl,hp,q⟩:=h
 obtain⟨u,rfl,rx⟩:=dl r
 cases rx
 obtain⟨o,es,ep,t,h1,h2,h3,_,_,h4,h5,rfl⟩:=(show s.heap.SetOf (intKind X.prog X.w) p S n from I.hok p _ hp)
 exact call_len_set h1 h2 h3 h5 (by unfold scanBound at h4;omega) ⟨.int _,H,I.tok _,⟨_,rfl⟩,q⟩
def dC(f:Str)(B:List D->R1):Prop:=f∈gR/\f ≠ "__name__" /\ (f==("__debug__" : Str))=false/\(B []=.st)/\∀(X:Cx) (ds:List D) (z:D) (l:Nat) (o:List Prop),X.calm=true->B ds=.ok (z,l) o->aE o ->
 ((∃id,bootBuiltins f=some (.builtin id)/\kg X (.builtin id) ds z l)\/∃T,bootBuiltins f=some (.type T)/\kg X (.type T) ds z l)
theorem Fu:dC "len" By:=by
 refine⟨by decide +kernel,by decide +kernel,by decide +kernel,rfl,fun X ds z l o hc h _=>.inl ⟨"len", by decide +kernel,?_⟩⟩
 unfold By at h
 split at h
 ·cases h
  refine⟨_,zS,fun ow H0 H2 vs P Q o s rx q=>?_⟩
  obtain⟨v,rfl,ry⟩:=rx.only
  rw[af]at ry
  obtain⟨a,S,rfl,ha⟩:=ry
  exact⟨a,S,_,rfl,ha,q _ _ (aw.refl _) (by rw[af])⟩
 ·split at h
  ·rename_i m e
   cases h
   rcases ip e with rfl|rfl
   ·exact yV.1
   ·exact yV.2
  ·cases h
 ·cases h
theorem Ab:dC "tuple" uf:=by
 refine⟨by decide +kernel,by decide +kernel,by decide +kernel,rfl,fun X ds z l o hc h hp=>.inr ⟨"tuple", by decide +kernel,?_⟩⟩
 unfold uf at h
 split at h
 ·split at h
  ·rename_i m e
   cases h
   have c:=hp.1
   rcases ip e with rfl|rfl
   ·exact(rQ c).2
   ·exact(rQ c).1
  ·cases h
 ·cases h
theorem FB:dC "abs" BE:=by
 refine⟨by decide +kernel,by decide +kernel,by decide +kernel,rfl,fun X ds z l o hc h _=>.inl ⟨"abs", by decide +kernel,?_⟩⟩
 unfold BE at h
 split at h
 ·cases h;exact JR
 ·cases h
theorem FA:dC "all" gX:=by
 refine⟨by decide +kernel,by decide +kernel,by decide +kernel,rfl,fun X ds z l o hc h _=>.inl ⟨"all", by decide +kernel,?_⟩⟩
 unfold gX at h
 split at h
 ·split at h
  ·rename_i bs e
   cases h
   cases j6 e
   refine⟨_,zX hc,fun ow H0 H2 vs P Q o s rx q=>?_⟩
   obtain⟨v,rfl,ry⟩:=rx.only
   obtain⟨a,ws,rfl,hs,rl⟩:=iQ ry
   exact⟨a,bs,rfl,by rw[<- rl.mapBl];exact hs,q _ _ (aw.refl _) (by rw[af])⟩
  ·cases h
 ·cases h
theorem Fz:dC "any" ug:=by
 refine⟨by decide +kernel,by decide +kernel,by decide +kernel,rfl,fun X ds z l o hc h _=>.inl ⟨"any", by decide +kernel,?_⟩⟩
 unfold ug at h
 split at h
 ·split at h
  ·rename_i ns e
   cases h
   cases kT e
   refine⟨_,zW hc,fun ow H0 H2 vs P Q o s rx q=>?_⟩
   obtain⟨v,rfl,ry⟩:=rx.only
   obtain⟨a,ws,rfl,hs,rl⟩:=iQ ry
   exact⟨a,ns,rfl,by rw[<- rl.mapInt];exact hs,q _ _ (aw.refl _) (by rw[af])⟩
  ·split at h
   ·rename_i bs e
    cases h
    cases j6 e
    refine⟨_,zV hc,fun ow H0 H2 vs P Q o s rx q=>?_⟩
    obtain⟨v,rfl,ry⟩:=rx.only
    obtain⟨a,ws,rfl,hs,rl⟩:=iQ ry
    exact⟨a,bs,rfl,by rw[<- rl.mapBl];exact hs,q _ _ (aw.refl _) (by rw[af])⟩
   ·cases h
 ·cases h
theorem Ew(b:Bool):(if b=true then(1:Int)else 0)=cond b 1 0:=by cases b<;>rfl
theorem Fy:dC "int" BC:=by
 refine⟨by decide +kernel,by decide +kernel,by decide +kernel,rfl,fun X ds z l o hc h hp=>.inr ⟨"int", by decide +kernel,?_⟩⟩
 unfold BC at h
 split at h
 ·cases h
  refine⟨_,qI,fun ow H0 H2 vs P Q o s rx q=>?_⟩
  obtain⟨v,rfl,ry⟩:=rx.only
  rw[af]at ry;subst ry
  exact .inl ⟨_,rfl,q _ _ (aw.refl _) (by rw[af])⟩
 ·cases h
  refine⟨_,qI,fun ow H0 H2 vs P Q o s rx q=>?_⟩
  obtain⟨v,rfl,ry⟩:=rx.only
  rw[af]at ry;subst ry
  exact .inr ⟨_,rfl,q _ _ (aw.refl _) (by rw[af,Ew])⟩
 ·cases h
theorem Fs:dC "str" mV:=by
 refine⟨by decide +kernel,by decide +kernel,by decide +kernel,rfl,fun X ds z l o hc h hp=>.inr ⟨"str", by decide +kernel,?_⟩⟩
 unfold mV at h
 split at h
 ·rename_i i
  cases h
  refine⟨_,t9,fun ow H0 H2 vs P Q o s rx q=>?_⟩
  obtain⟨v,rfl,ry⟩:=rx.only
  rw[af]at ry;subst ry
  refine⟨_,rfl,?_,q _ _ (aw.refl _) (by rw[af])⟩
  rcases Nat.eq_zero_or_pos i.natAbs with z|z
  ·rw[z];decide
  ·exact Nat.lt_of_lt_of_le ((Nat.log2_lt (Nat.ne_of_gt z)).mpr hp.1) (by decide)
 ·cases h
theorem Fw:dC "isinstance" BA:=by
 refine⟨by decide +kernel,by decide +kernel,by decide +kernel,rfl,fun X ds z l o hc h _=>.inl ⟨"isinstance", by decide +kernel,?_⟩⟩
 unfold BA at h
 split at h
 ·rename_i m ns es n
  split at h
  ·rename_i hmn
   subst hmn
   cases h
   have cr:cP X (.builtin "isinstance") (fun xs H Q => ∃a C dx fs,xs=[.ref a,.ref C]/\H a=some (.ins C dx fs)/\d5 X.K C/\rK X.K C/\Q (.bl true) H):=by
    intro pins s σ H xs us Q I r hh
    obtain⟨a,C,dx,fs,rfl,ea,hc,ho,q⟩:=hh
    obtain⟨u,u2,rfl,ru,ru2⟩:=nk r
    cases (show u2=Value.ref C from ru2)
    exact qw I ru (.ins ea hc ho.ha ho.hn ho.ht ho.hm) (vB _) fun tk=>⟨.bl true,H,I.tok tk,rfl,q⟩
   refine⟨_,cr,fun ow H0 H2 vs P Q o s rx q=>?_⟩
   rw[ai]at rx
   obtain⟨v,r,rfl,r1,r2⟩:=rx
   obtain⟨w,rfl,r3⟩:=r2.only
   rw[af]at r1
   rw[af]at r3
   obtain⟨_,_,a,C,dx,vs,rfl,h1,h2,h3,_⟩:=r1
   obtain⟨C',o',rfl,h4,_,_,h5,_⟩:=r3
   rw[h1]at h4;cases h4
   exact⟨a,C,dx,_,rfl,h3,h2,h5,q _ _ (aw.refl _) (by rw[af])⟩
  ·split at h
   ·rename_i hmn
    cases h
    have cr:cP X (.builtin "isinstance") (fun xs H Q => ∃a C C' dx fs,xs=[.ref a,.ref C']/\H a=some (.ins C dx fs)/\d5 X.K C/\rK X.K C/\W.kitOne X.K (.ref C) (.ref C')=some (rZ m n)/\Q (.bl (rZ m n)) H):=by
     intro pins s σ H xs us Q I r hh
     obtain⟨a,C,C',dx,fs,rfl,ea,hc,ho,hk,q⟩:=hh
     obtain⟨u,u2,rfl,ru,ru2⟩:=nk r
     cases (show u2=Value.ref C' from ru2)
     exact qw I ru (.ins ea hc ho.ha ho.hn ho.ht ho.hm) hk fun tk=>⟨.bl (rZ m n),H,I.tok tk,rfl,q⟩
    refine⟨_,cr,fun ow H0 H2 vs P Q o s rx q=>?_⟩
    rw[ai]at rx
    obtain⟨v,r,rfl,r1,r2⟩:=rx
    obtain⟨w,rfl,r3⟩:=r2.only
    rw[af]at r1
    rw[af]at r3
    obtain⟨_,_,a,C,dx,vs,rfl,h1,h2,h3,_⟩:=r1
    obtain⟨C',o',rfl,_,_,_,_,h5⟩:=r3
    obtain⟨h6,h7⟩:=h5.all m hmn C h1
    exact⟨a,C,C',dx,_,rfl,h3,h2,h6,h7,q _ _ (aw.refl _) (by rw[af])⟩
   ·cases h
 ·rename_i x T
  split at h
  ·rename_i hT
   split at h
   ·rename_i b hb
    cases h
    obtain⟨h1,h2⟩:=HU hb hT
    have cr:cP X (.builtin "isinstance") (fun xs H Q => ∃v P,xs=[v,.ty T]/\af X.K H P x v/\Q (.bl b) H):=by
     intro pins s σ H xs us Q I r hh
     obtain⟨v,P,rfl,rp,q⟩:=hh
     obtain⟨u,u2,rfl,ru,ru2⟩:=nk r
     cases (show u2=Value.type T from ru2)
     exact HS h1 h2 I rp ru fun tk=>⟨.bl b,H,I.tok tk,rfl,q⟩
    refine⟨_,cr,fun ow H0 H2 vs P Q o s rx q=>?_⟩
    rw[ai]at rx
    obtain⟨v,r,rfl,r1,r2⟩:=rx
    obtain⟨w,rfl,r3⟩:=r2.only
    rw[af]at r3;subst r3
    exact⟨v,P,rfl,r1,q _ _ (aw.refl _) (by rw[af])⟩
   ·cases h
  ·cases h
 ·cases h
def jo(K:W.Frag)(F:List D->Rs D):Sp:=fun vs H Q _ => ∃ds r l,ai K H (fun _ _=>True) ds vs/\F ds=.ok r l/\aE l/\∀v H',aw H H'->af K H' (fun a b=>b=true/\H a=none) r v->Q v H'
def De(X:Cx)(g:Str)(F:List D->Rs D):Prop:=∃k f fd ps,aZ X.prog X.w X.K X.mg X.base cj k f fd ps (jo X.K F)/\bJ k X.A/\X.mg g=some (.ref f)/\W.keepIn X.K (.ref f)=true/\bH X.K fd ps []/\(g==("__debug__" : Str))=false
def qi(K:W.Frag)(n:Str)(F:List D->Rs D):Sp:=fun vs H Q _ => ∃x ws C dx ds r l,vs=.ref x::ws/\H x=some (.ins C dx [])/\W.nsIn K mainGlobals n=some (some (.ref C))/\d5 K C/\ai K H (fun _ _=>True) ds ws/\F ds=.ok r l/\aE l/\r.lless=true /\
 ∀H',(∀a o,a≠x->H a=some o->H' a=some o)->af K H' (fun _ _=>True) r (.ref x)->Q .non H'
def Ka(X:Cx)(g:Str)(F:List D->Rs D):Prop:=∃k C f fd ps,(∀ds r l,F ds=.ok r l->r.lless=true)/\Mk X.K C f/\aZ X.prog X.w X.K X.mg X.base cj k f fd ps (qi X.K g F)/\bJ (k+1) X.A/\X.mg g=some (.ref C)/\W.nsIn X.K mainGlobals g=some (some (.ref C))/\d5 X.K C/\bH X.K fd ps []/\(g==("__debug__" : Str))=false
def Q4(X:Cx)(g:Str)(F:List D->Rs D):Prop:=De X g F\/Ka X g F
def Kb(X:Cx)(n m:Str)(F:List D->Rs D):Prop:=∃k C f fd ps,W.nsIn X.K mainGlobals n=some (some (.ref C))/\d5 X.K C/\pV X.K C m f/\aZ X.prog X.w X.K X.mg X.base cj k f fd ps (jo X.K F)/\bJ k X.A/\bH X.K fd ps []
def rJ(f:Str)(B:List D->Nat->R1):Prop:=f∈gR/\∀(X:Cx) (ρ:ae) (p pos:Pos) (args:List Expr) (ds:List D) (k:Nat) (d:D) (j:Nat) (l:List D) (tg:Expr) (o:List Prop),X.calm=true->Gl X f->X.mg f=none->AD X ρ args ds k ->
 (∀e∈args,∀x p,e ≠ .Starred x p)->args.length=ds.length->B ds k=.ok (d,j) o->aE o->items d=some l->eL (.Call (.Name f p) args [] pos) tg=true->IE X ρ tg (.Call (.Name f p) args [] pos) l j
def lQ(m:Str)(M:D->List D->R1):Prop:=∀(X:Cx) (ρ:ae) (a:Expr) (args:List Expr) (ap cp:Pos) (x:D) (k:Nat) (ds:List D) (j:Nat) (z:D) (l:Nat) (o:List Prop),X.calm=true->X.A.units+70<cLine->ED X ρ a x k->AD X ρ args ds j ->
 (∀e∈args,∀x p,e ≠ .Starred x p)->args.length=ds.length->(ap.endLine==cp.line)=true->fx a=true->M x ds=.ok (z,l) o->aE o->ED X ρ (.Call (.Attribute a m ap) args [] cp) z l
def oP(m:Str)(M:List D->List D->Nat->Rs (List D)):Prop:=∀X:Cx,X.calm=true->∃(id:String) (r:V->List V->Hp->VK->Prop),Slot "list" m id/\typeOf (.builtin id)=pure (.type "method_descriptor")/\L8 X id r /\
 ∀(ow:Ow) (H0 H:Hp) (l ds l':List D) (j:Nat) (o:List Prop) (a:Addr) (vs ws:List V),M l ds j=.ok l' o->aE o->ds.length<29/\(∀(P:bx) (Q:VK),(∀b c,Kp ow H0 0 b c->P b c)->fi ow H0->aw H0 H->H a=some (.lst vs)->ai X.K H P l vs->ai X.K H (Kp ow H0 j) ds ws ->
  (∀vs' w,ai X.K H P l' vs'->Q w (aM H a (.lst vs')))->r (.ref a) ws H Q)
def Re(X:Cx)(ow:Ow)(ρ:ae)(o:Option Int):TO:=fun σ H Q=>aH X ow H σ ρ/\∀H',aw H H'->Q o H'
def OD(X:Cx)(ρ:ae)(e:Option Expr)(o:Option Int):Prop:=∀ow,PO X e (Re X ow ρ o)
def oN(F:D->Option Int->Option Int->R1):Prop:=∀(X:Cx) (ρ:ae) (a:Expr) (lo hi:Option Expr) (p2 pos:Pos) (x z:D) (l h:Option Int) (k j:Nat) (o:List Prop),ED X ρ a x k->OD X ρ lo l->OD X ρ hi h->F x l h=.ok (z,j) o->aE o->ED X ρ (.Subscript a (.Slice lo hi none p2) pos) z j
structure aO(Φ:Fx)(X:Cx)(sc:Scope):Prop where
 calm:X.calm=true
 nd:X.N.Nodup
 gl:∀x,sc.names.lookup x=some .globalImplicit->Gl X x
 kc:∀x,(sc.names.lookup x=some .cell\/sc.names.lookup x=some .free)->X.env.kindOf x=some .cell\/X.env.kindOf x=some .free
 lc:∀x,sc.names.lookup x=some .local->X.env.scope.names.lookup x=some .local
 cc:∀x,sc.names.lookup x=some .cell->X.env.scope.names.lookup x=some .cell
 fn:∀g F,Φ.fn g=some F->Q4 X g F
 con:∀x d,Φ.con x=some d->∃v u,X.mg x=some u/\aX v u/\∀H P,af X.K H P d v
 blt:∀f B,Φ.blt f=some B->dC f B
 itr:∀f B,Φ.itr f=some B->rJ f B
 mth:∀m M,Φ.mth m=some M->lQ m M
 mtt:∀m M,Φ.mtt m=some M->oP m M
 slf:oN Φ.slf
 fld:∀n f,Φ.fld n f=true->∀C,W.nsIn X.K mainGlobals n=some (some (.ref C))->bn X.K C f
 omt:∀n m F,Φ.omt n m=some F->Kb X n m F
 bl:∀f∈gR,X.mg f=none
 room:X.A.units+70<cLine
 ns:∀x,ck sc x=true->x∈X.N
 ft:∀x,sc.names.lookup x=some .cell->X.fn x=true
variable{X:Cx}
theorem c8(h:dP x=true):(x==("__debug__" : Str))=false/\(x==("__classdict__" : Str))=false:=by
 unfold dP at h
 rw[Bool.and_eq_true]at h
 exact⟨of_decide_eq_true h.1,of_decide_eq_true h.2⟩
theorem vQ{o:Bool}(h:ρ x=some (d,o))(hx:dP x=true):ED X ρ (.Name x pos) d (kn d (cond o 2 1)):=by
 refine ED.kn fun ow pins s σ H Q I ⟨E,q⟩=>?_
 obtain⟨i,v,e1,e2,e3,e4⟩:=E.get x d o h
 refine fX (i:=i) e1 e2 (c8 hx).1 (c8 hx).2 pins s σ H Q I ⟨v,e3,q v H (aw.refl _) (e4.imp fun a b p=>?_)⟩
 cases o with
 | true=>exact⟨p.1,.inl (by rw[p.2];exact(fun z=>nomatch z))⟩
 | false=>exact p
theorem IN(G:aO Φ X sc)(h:Φ.con x=some d)(hg:sc.names.lookup x=some .globalImplicit)(hx:dP x=true):ED X ρ (.Name x pos) d 0:=by
 obtain⟨v,u,h1,h2,h3⟩:=G.con x d h
 exact fun ow=>bC (pd (G.gl x hg) h1 h2 (c8 hx).1) fun σ H Q ⟨E,q⟩=>q v H (aw.refl _) (h3 H _)
theorem Dn(h:v7 x=some T):bootBuiltins x=some (.type T)/\x ≠ "__name__" /\ (x==("__debug__" : Str))=false/\x∈gR:=by
 unfold v7 at h
 split at h
 ·rename_i e;subst e;cases h;exact⟨by decide +kernel,by decide +kernel,by decide +kernel,by decide +kernel⟩
 split at h
 ·rename_i e;subst e;cases h;exact⟨by decide +kernel,by decide +kernel,by decide +kernel,by decide +kernel⟩
 split at h
 ·rename_i e;subst e;cases h;exact⟨by decide +kernel,by decide +kernel,by decide +kernel,by decide +kernel⟩
 split at h
 ·rename_i e;subst e;cases h;exact⟨by decide +kernel,by decide +kernel,by decide +kernel,by decide +kernel⟩
 split at h
 ·rename_i e;subst e;cases h;exact⟨by decide +kernel,by decide +kernel,by decide +kernel,by decide +kernel⟩
 split at h
 ·rename_i e;subst e;cases h;exact⟨by decide +kernel,by decide +kernel,by decide +kernel,by decide +kernel⟩
 ·cases h
theorem II(G:aO Φ X sc)(h:v7 x=some T)(hg:sc.names.lookup x=some .globalImplicit):ED X ρ (.Name x pos) (.typ T) 0:=by
 obtain⟨h1,h2,h3,h4⟩:=Dn h
 exact fun ow=>bC (D2 (v:=.ty T) (G.gl x hg) (G.bl x h4) h1 rfl h2 h3) fun σ H Q ⟨E,q⟩=>q _ H (aw.refl _) (by rw[af])
theorem tS{c:Const}(h:CN c=some d):ED X ρ (.Constant c n pos) d 0:=by
 intro ow
 unfold CN at h
 split at h
 ·cases h;exact bC GW fun σ H Q ⟨E,q⟩=>q _ H (aw.refl _) (by rw[af])
 ·cases h;exact bC KK fun σ H Q ⟨E,q⟩=>q _ H (aw.refl _) (by rw[af])
 ·cases h;exact bC GY fun σ H Q ⟨E,q⟩=>q _ H (aw.refl _) (by rw[af])
 ·cases h;exact bC GT fun σ H Q ⟨E,q⟩=>q _ H (aw.refl _) (by rw[af])
 ·cases h
theorem oh{b:Expr}{op:Operator}{x:D}{l:Nat}(ha:ED X ρ a x k)(hb:ED X ρ b y j)(h:iK op x y k j=.ok (z,l) o)(hp:aE o):ED X ρ (.BinOp a op b pos) z l:=by
 obtain⟨r,h1,h2⟩:=JD (X:=X) h hp
 refine fun ow=>bC (Cg h1 (ha ow) (hb ow)) fun σ H Q ⟨E,q⟩=>⟨E,fun v H1 s1 r1=>⟨E.same s1,fun u H2 s2 r2=>?_⟩⟩
 exact h2 ow H H2 v u Q E.own (s1.trans s2) (r1.same s2) (r2.imp (Kp.back s1 j)) fun w H' s3 r3=>q w H' ((s1.trans s2).trans s3) r3
theorem Lw{op:UnaryOp}{x:D}(ha:ED X ρ a x k)(h:xV op x=some z):ED X ρ (.UnaryOp op a pos) z 0:=by
 unfold xV at h
 split at h
 ·cases h
  refine fun ow=>bC (KJ FO (ha ow)) fun σ H Q ⟨E,q⟩=>⟨E,fun v H1 s1 r1=>?_⟩
  rw[af]at r1;subst r1
  exact⟨_,rfl,q _ H1 s1 (by rw[af])⟩
 ·cases h
  refine fun ow=>bC (GV (ha ow)) fun σ H Q ⟨E,q⟩=>⟨E,fun v H1 s1 r1=>?_⟩
  rw[af]at r1;subst r1
  exact⟨_,rfl,q _ H1 s1 (by rw[af])⟩
 ·cases h
theorem zu{b:Expr}{x:D}(hu:X.A.units+70<cLine)(ha:ED X ρ a x k)(hb:ED X ρ b y j)(h:gW op x y=.ok r o)(hp:aE o)(hm:behindInMarks op b=false):ED X ρ (.Compare a [op] [b] pos) (.bl r) 0:=by
 have c:=jF hu h hp
 intro ow pins s σ H Q I ⟨E,q⟩
 refine wpAny_Compare1 (L5 (ha ow) (hb ow) I (R:=fun v u H2=>aw H H2/\af X.K H2 (fun _ _=>True) x v/\af X.K H2 (fun _ _=>True) y u) ⟨E,fun v H1 s1 r1=>⟨E.same s1,fun u H2 s2 r2=>⟨s1.trans s2,(r1.imp fun _ _ _=>True.intro).same s2,r2.imp fun _ _ _=>True.intro⟩⟩⟩ fun v u s2 x y H2 I2 rx ry ⟨sm,r1,r2⟩=>?_) hm
 exact c _ _ pins s2 σ H2 x y v u Q I2 rx ry ⟨r1,r2,q _ H2 sm (by rw[af])⟩
theorem Fj{x:D}{r:D×Nat}(h:Jf op op2 x y z=.ok r l):∃a b c r1 r2,x=.int a/\y=.int b/\z=.int c/\gy op a b=some r1/\gy op2 b c=some r2/\r=(.bl (r1&&r2),0):=by
 unfold Jf at h
 split at h
 ·split at h
  ·rename_i h1 h2;cases h;exact⟨_,_,_,_,_,rfl,rfl,rfl,h1,h2,rfl⟩
  ·cases h
 ·cases h
theorem ou{a b:Int}(h:gy op a b=some r):gW op (.int a) (.int b)=.ok r []:=by
 unfold gy at h
 split at h<;>first|(cases h;rfl)|cases h
theorem Bj{b:Expr}{x y z:Int}(hu:X.A.units+70<cLine)(ha:ED X ρ a (.int x) k)(hb:ED X ρ b (.int y) j)(hc:ED X ρ c (.int z) i)(h:gy op x y=some r)(h2:gy op2 y z=some r2)(hm:behindInMarks op2 c=false):ED X ρ (.Compare a [op,op2] [b,c] pos) (.bl (r&&r2)) 0:=by
 have c1:=jF (X:=X) hu (ou h) (show aE []from True.intro)
 have c2:=jF (X:=X) hu (ou h2) (show aE []from True.intro)
 refine fun ow=>bC (AS (c1 (fun _ _=>True) (fun _ _=>True)) (c2 (fun _ _=>True) (fun _ _=>True)) (ha ow) (hb ow) (hc ow) hm) fun σ H Q ⟨E,q⟩=>⟨E,fun v H1 s1 r1=>⟨E.same s1,fun u H2 s2 r2=>?_⟩⟩
 rw[af]at r1 r2
 subst r1 r2
 refine⟨by rw[af],by rw[af],r,rfl,?_⟩
 cases r with
 | false=>exact q _ H2 (s1.trans s2) (by rw[af];rfl)
 | true =>
  rw[if_pos rfl]
  refine⟨(E.same s1).same s2,fun w H3 s3 r3=>?_⟩
  rw[af]at r3
  subst r3
  exact⟨by rw[af],by rw[af],q _ H3 ((s1.trans s2).trans s3) (by rw[af];rfl)⟩
theorem Kk(h:ED X ρ e (.bl b) k)(he:∀whole,isTrue e X.env whole=(do let v <- whole;standAt e.pos;holding [v] (truthy v))):TD X ρ e b :=
 fun ow=>rH (GE (h ow) he) fun σ H Q ⟨E,q⟩=>⟨E,fun v H1 s1 r1=>by rw[af]at r1;exact⟨b,r1,q H1 s1⟩⟩
theorem lm:AD X ρ [] [] 0:=fun ow=>C8 yJ fun σ H Q ⟨E,q⟩=>q [] H (aw.refl _) ai.nil
theorem jI(h1:ED X ρ e d k)(h2:AD X ρ es ds j)(hs:starEach (e::es) X.env=(false,eval e X.env)::starEach es X.env):AD X ρ (e::es) (d::ds) (kj k j) :=
 fun ow=>C8 (fK (h1 ow) (h2 ow) hs) fun σ H Q ⟨E,q⟩=>⟨E,fun v H1 s1 r1=>⟨E.same s1,fun vs H2 s2 r2=>q _ H2 (s1.trans s2) (ai.cons ((r1.imp (Kp.joinL E.own k j)).same s2) (r2.imp fun a b p=>Kp.joinR E.own k j a b (Kp.back s1 j a b p)))⟩⟩
theorem Bh(h:AD X ρ es ds k)(hl:ds.length<=b8):ED X ρ (.Tuple es n pos) (.tup ds) (kn (.tup ds) k):=by
 refine ED.kn fun ow=>bC (GS (h ow)) fun σ H Q ⟨E,q⟩=>⟨E,fun vs H1 s1 r1=>⟨by rw[<- r1.length];exact Nat.le_trans hl eO,fun p hp=>?_⟩⟩
 have sm:=cQ (o:=HO.tup vs) hp
 refine q _ _ (s1.trans sm) ?_
 rw[af]
 exact⟨p,vs,rfl,cZ.of aI,r1.same sm⟩
theorem Fb(h:AD X ρ es ds k)(hk:k<=1)(hl:ds.length<=b8):ED X ρ (.List es pos) (.lst ds) k:=by
 refine fun ow=>bC (GX (h ow)) fun σ H Q ⟨E,q⟩=>⟨E,fun vs H1 s1 r1=>⟨by rw[<- r1.length];exact Nat.le_trans hl eO,fun p hp=>?_⟩⟩
 have sm:=cQ (o:=HO.lst vs) hp
 refine q _ _ (s1.trans sm) ?_
 rw[af]
 exact⟨p,vs,true,rfl,aI,yY E.own (s1.free hp) hk,r1.same sm⟩
theorem CI{b:Expr}(hc:TD X ρ c t)(h:if t=true then ED X ρ a d k else ED X ρ b d k):ED X ρ (.IfExp c a b pos) d k:=by
 cases t with
 | true =>
  intro ow pins s σ H Q I ⟨E,q⟩
  refine PyProof.Rows.IfExp_ (aG (hc ow pins s σ H (fun t H1=>t=true/\aw H H1) I ⟨E,fun H1 s1=>⟨rfl,s1⟩⟩) fun t s1 ⟨H1,I1,e1,s1'⟩=>?_)
  subst e1
  exact h ow pins s1 σ H1 Q I1 ⟨E.same s1',fun v H2 s2 r2=>q v H2 (s1'.trans s2) (r2.imp (Kp.back s1' k))⟩
 | false =>
  intro ow pins s σ H Q I ⟨E,q⟩
  refine PyProof.Rows.IfExp_ (aG (hc ow pins s σ H (fun t H1=>t=false/\aw H H1) I ⟨E,fun H1 s1=>⟨rfl,s1⟩⟩) fun t s1 ⟨H1,I1,e1,s1'⟩=>?_)
  subst e1
  exact h ow pins s1 σ H1 Q I1 ⟨E.same s1',fun v H2 s2 r2=>q v H2 (s1'.trans s2) (r2.imp (Kp.back s1' k))⟩
variable{X:Cx}
theorem ai.atI{P:bx}{l:List D}{i:Int}(h:ai K H P l vs)(e:L2.atI l i=some d):∃v,L2.atI vs i=some v/\af K H P d v:=by
 unfold L2.atI at e⊢
 rw[<- h.length]
 cases q:ixN l.length i with
 | none=>rw[q]at e;cases e
 | some j=>rw[q]at e;exact h.get e
theorem Lx{b:Expr}{x:D}{i:Int}{l:Nat}(ha:ED X ρ a x k)(hb:ED X ρ b (.int i) j)(hs:eg b)(h:sX x i k=.ok (z,l) o):ED X ρ (.Subscript a b pos) z l:=by
 unfold sX at h
 split at h
 ·rename_i m e0
  split at h
  ·rename_i d e
   unfold mk at h
   cases h
   rcases ip e0 with rfl|rfl
   ·refine ED.kn fun ow=>bC (wz HR (ha ow) (hb ow) hs) fun σ H Q ⟨E,q⟩=>⟨E,fun v H1 s1 r1=>⟨E.same s1,fun u H2 s2 r2=>?_⟩⟩
    obtain⟨p,vs,rfl,hq,rl⟩:=gF (r1.same s2)
    rw[af]at r2;subst r2
    obtain⟨w,h1,h2⟩:=rl.atI e
    exact⟨p,vs,i,w,rfl,rfl,hq,h1,q w H2 (s1.trans s2) h2⟩
   ·refine ED.kn fun ow=>bC (wz Ev (ha ow) (hb ow) hs) fun σ H Q ⟨E,q⟩=>⟨E,fun v H1 s1 r1=>⟨E.same s1,fun u H2 s2 r2=>?_⟩⟩
    obtain⟨p,vs,rfl,hq,rl⟩:=iQ (r1.same s2)
    rw[af]at r2;subst r2
    obtain⟨w,h1,h2⟩:=rl.atI e
    exact⟨p,vs,i,w,rfl,rfl,hq,h1,q w H2 (s1.trans s2) h2⟩
  ·cases h
 ·cases h
def rIxD:R2:=fun x y H Q => ∃p kvs k v,x=.ref p/\y=kV k/\H p=some (.dK kvs)/\mx kvs k=some v/\Q v H
theorem IJ{b:Expr}{p q r:D×Nat}(ha:ED X ρ a p.1 p.2)(hb:ED X ρ b q.1 q.2)(hs:eg b)(h:mz p q=.ok r o):ED X ρ (.Subscript a b pos) r.1 r.2:=by
 obtain⟨z,k⟩:=p
 unfold mz at h
 split at h
 ·cases h
 ·unfold jR at h
  split at h
  ·rename_i j hj
   rw[hj]at hb
   exact Lx ha hb hs h
  ·cases h
theorem C7{e:Option Expr}{t t':TO}(h:PO X e t)(i:∀σ H Q,t' σ H Q->t σ H Q):PO X e t':=fun pins s σ H Q I q=>h pins s σ H Q I (i σ H Q q)
theorem Eb:OD X ρ none none:=fun ow=>C7 DU fun σ H Q ⟨E,q⟩=>q H (aw.refl _)
theorem Ea{i:Int}(h:ED X ρ e (.int i) k):OD X ρ (some e) (some i):=fun ow=>C7 (DT (h ow)) fun σ H Q ⟨E,q⟩=>⟨E,fun v H1 s1 r1=>by rw[af]at r1;exact⟨i,r1,q H1 s1⟩⟩
theorem ai.cut{P:bx}{l:List D}{lo hi:Option Int}(h:ai K H P l vs):ai K H P (fG l lo hi) (i8 vs lo hi):=by
 unfold fG i8
 rw[<- h.length]
 exact(h.drop _).take _
theorem iZ:∀{l:List D} {n:Nat},ax l=true->ax (l.take n)=true
 | [],n,h=>by simp[ax]
 | d::l,0,h=>by simp[ax]
 | d::l,n+1,h=>by
  rw[ax,Bool.and_eq_true]at h
  rw[List.take_succ_cons,ax,Bool.and_eq_true];exact⟨h.1,iZ h.2⟩
theorem i5:∀{l:List D} {n:Nat},ax l=true->ax (l.drop n)=true
 | [],n,h=>by simp[ax]
 | d::l,0,h=>h
 | d::l,n+1,h=>by
  rw[ax,Bool.and_eq_true]at h
  exact i5 (n:=n) h.2
theorem Bi{x:D}{l:Option Int}(ha:ED X ρ a x k)(hl:OD X ρ lo l)(hh:OD X ρ hi h)(e:sj x l h=.ok (z,j) o)(hp:aE o):ED X ρ (.Subscript a (.Slice lo hi none p2) pos) z j:=by
 unfold sj at e
 split at e
 ·rename_i m
  ·cases e
   have c:ax m=true /\ ¬ (HT.sIx m.length 0 l=0/\HT.sIx m.length m.length h=m.length):=⟨hp.1,by have hx:=hp.2.1;unfold IY at hx;intro z;rw[decide_eq_true z.1,decide_eq_true z.2]at hx;cases hx⟩
   refine fun ow=>bC (mH Ga (ha ow) (hl ow) (hh ow)) fun σ H Q ⟨E,q⟩=>⟨E,fun v H1 s1 r1=>⟨E.same s1,fun H2 s2=>⟨(E.same s1).same s2,fun H3 s3=>?_⟩⟩⟩
   have s13:=s2.trans s3
   obtain⟨p,vs,rfl,hq,rl⟩:=gF (r1.same s13)
   refine⟨p,vs,rfl,hq,by rw[<- rl.length];exact c.2,fun p' hp'=>?_⟩
   have sm:=cQ (o:=HO.tup (i8 vs l h)) hp'
   refine q _ _ ((s1.trans s13).trans sm) ?_
   rw[af]
   exact⟨p',_,rfl,cZ.of aI,ai.flat _ (by unfold fG;exact iZ (i5 c.1)) (rl.cut.same sm)⟩
 ·rename_i m
  ·cases e
   have c:ax m=true:=hp.1
   refine fun ow=>bC (mH Dx (ha ow) (hl ow) (hh ow)) fun σ H Q ⟨E,q⟩=>⟨E,fun v H1 s1 r1=>⟨E.same s1,fun H2 s2=>⟨(E.same s1).same s2,fun H3 s3=>?_⟩⟩⟩
   have s13:=s2.trans s3
   obtain⟨p,vs,rfl,hq,rl⟩:=iQ (r1.same s13)
   refine⟨p,vs,rfl,hq,fun p' hp'=>?_⟩
   have sm:=cQ (o:=HO.lst (i8 vs l h)) hp'
   refine q _ _ ((s1.trans s13).trans sm) ?_
   rw[af]
   exact⟨p',_,true,rfl,aI,⟨rfl,(s1.trans s13).free hp'⟩,ai.flat _ (by unfold fG;exact iZ (i5 c)) (rl.cut.same sm)⟩
 ·cases e
theorem bG{env:Env}{pos:Pos}:∀{es:List Expr},(∀e∈es,∀x p,e ≠ .Starred x p)->(backTo pos (starEach es env)).any (·.1)=false
 | [],_=>rfl
 | e::es,h=>by
  have ih:=bG (env:=env) (es:=es) (pos:=pos) fun x hx=>h x (List.mem_cons_of_mem _ hx)
  have he:=h e List.mem_cons_self
  cases e<;>first|exact absurd rfl (he _ _)|exact ih
theorem aD(h:∀x p,e ≠ .Starred x p):starEach (e::es) env=(false,eval e env)::starEach es env:=by
 cases e<;>first|exact absurd rfl (h _ _)|rfl
theorem Bk{r:D}(G:aO Φ X sc)(hf:De X f F)(hg:sc.names.lookup f=some .globalImplicit)
  (ha:AD X ρ args ds k) (hst:∀e∈args,∀x p,e ≠ .Starred x p) (hnil:args=[]->ds=[]) (h:F ds=.ok r o) (hp:aE o):ED X ρ (.Call (.Name f p) args [] pos) r 0:=by
 obtain⟨n,fa,fd,ps,hF,hr,hm,hk,hb,hd⟩:=hf
 intro ow
 cases args with
 | nil =>
  refine bC (AU hF hr (G.gl f hg) hm hk hb .nil hV hd) fun σ H Q ⟨E,q⟩=>?_
  have hds:=hnil rfl
  subst hds
  exact⟨[],r,o,ai.nil,h,hp,fun v H' s1 r1=>q v H' s1 r1⟩
 | cons e es =>
  refine bC (D1 hF hr (G.gl f hg) hm hk hb .nil hV (ha ow) hd (aD (hst e List.mem_cons_self)) (bG fun x hx=>hst x (List.mem_cons_of_mem _ hx))) fun σ H Q ⟨E,q⟩=>⟨E,fun vs H1 s1 r1=>?_⟩
  refine⟨ds,r,o,by rw[List.append_nil];exact r1.imp fun _ _ _=>True.intro,h,hp,fun v H' s2 r2=>q v H' (s1.trans s2) (r2.imp fun a b p=>⟨p.1,s1.free p.2⟩)⟩
theorem gG{x dx C:Addr}(hx:H x=none)(hd:H dx=none):aw H (aM (aM H dx (.own x)) x (.ins C dx [])):=fun a o h=>by
 rw[ay (fun z=>by subst z;rw[hx]at h;cases h),ay (fun z=>by subst z;rw[hd]at h;cases h)]
 exact h
theorem Fa{r:D}(G:aO Φ X sc)(hf:Ka X f F)(hg:sc.names.lookup f=some .globalImplicit)
  (ha:AD X ρ args ds k) (hst:∀e∈args,∀x p,e ≠ .Starred x p) (hnil:args=[]->ds=[]) (h:F ds=.ok r o) (hp:aE o):ED X ρ (.Call (.Name f p) args [] pos) r 0:=by
 obtain⟨n,C,fa,fd,ps,hfl,hM,hF,hr,hm,hns,hc,hb,hd⟩:=hf
 have hl:=hfl ds r o h
 intro ow
 cases args with
 | nil =>
  refine bC (AR hM hF hr (G.gl f hg) hm hb .nil hV hd) fun σ H Q ⟨E,q⟩=>?_
  have hds:=hnil rfl
  subst hds
  intro x dx hx hdx ne
  refine⟨x,[],C,dx,[],r,o,rfl,aI,hns,hc,ai.nil,h,hp,hl,fun H' kp rr=>⟨rfl,q _ H' (fun a ob ha=>?_) (rr.flat _ hl)⟩⟩
  exact kp a ob (fun z=>by subst z;rw[hx]at ha;cases ha) (gG hx hdx a ob ha)
 | cons e es =>
  refine bC (DZ hM hF hr (G.gl f hg) hm hb .nil hV (ha ow) hd (aD (hst e List.mem_cons_self)) (bG fun x hx=>hst x (List.mem_cons_of_mem _ hx))) fun σ H Q ⟨E,q⟩=>⟨E,fun vs H1 s1 r1=>?_⟩
  intro x dx hx hdx ne
  refine⟨x,vs++[],C,dx,ds,r,o,rfl,aI,hns,hc,by rw[List.append_nil];exact(r1.same (gG hx hdx)).imp fun _ _ _=>True.intro,h,hp,hl,fun H' kp rr=>⟨rfl,q _ H' (s1.trans fun a ob ha=>?_) (rr.flat _ hl)⟩⟩
  exact kp a ob (fun z=>by subst z;rw[hx]at ha;cases ha) (gG hx hdx a ob ha)
theorem Fd{r:D}(G:aO Φ X sc)(hf:Φ.fn f=some F)(hg:sc.names.lookup f=some .globalImplicit)
  (ha:AD X ρ args ds k) (hst:∀e∈args,∀x p,e ≠ .Starred x p) (hnil:args=[]->ds=[]) (h:F ds=.ok r o) (hp:aE o):ED X ρ (.Call (.Name f p) args [] pos) r 0:=by
 rcases G.fn f F hf with z|z
 ·exact Bk G z hg ha hst hnil h hp
 ·exact Fa G z hg ha hst hnil h hp
theorem nS{o:Expr}{name:Str}(hb:attributeBase o name env (eval o env)=eval o env)(hf:methodCallForm (args.length+([]:List Keyword).length) (backTo pos (starEach args env)) (backToKw pos (keywordEach [] env))=true)
  (hl:(apos.endLine==pos.line)=true):eval (.Call (.Attribute o name apos) args [] pos) env=(do
   let ov <- eval o env
   standAt apos.atName
   let (f,first) <- holding [ov] (getMethod ov name (do return (<- importBound o env).getD true))
   callWith pos f first (backTo pos (starEach args env)) (backToKw pos (keywordEach [] env))):=by
 show(do
  let ov <- attributeBase o name env (eval o env)
  standAt apos.atName
  methodCall o name apos pos env ov (args.length+([]:List Keyword).length) (backTo pos (starEach args env)) (backToKw pos (keywordEach [] env)))=_
 rw[hb]
 unfold methodCall calleeOf methodCallPos
 rw[hf,hl]
 rfl
theorem c6{t:Sem Value}(h:fx a=true):attributeBase a m env t=t:=by
 unfold attributeBase
 split
 ·cases h
 ·rfl
theorem gJ(hst:∀e∈args,∀x p,e ≠ .Starred x p)(hn:args.length<29):methodCallForm (args.length+([]:List Keyword).length) (backTo pos (starEach args env)) (backToKw pos (keywordEach [] env))=true:=by
 unfold methodCallForm
 have e1:(backTo pos (starEach args env)).all (fun x => !x.1)=true:=by
  have:=bG (env:=env) (pos:=pos) hst
  rw[List.all_eq_true]
  intro x hx
  have h2:¬ (backTo pos (starEach args env)).any (·.1)=true:=by rw[this];exact Bool.false_ne_true
  cases hb:x.1 with
  | false=>rfl
  | true=>exact absurd (List.any_eq_true.mpr ⟨x,hx,hb⟩) h2
 rw[e1]
 show(true&&true&&decide (args.length+0+0<30))=true
 simp;omega
theorem rM:ns.contains m=false->(ns.zip vs).lookup m=none:=by
 induction ns generalizing vs with
 | nil=>intro _;rfl
 | cons a ns ih =>
  intro h
  cases vs with
  | nil=>rfl
  | cons v vs =>
   rw[List.contains_cons,Bool.or_eq_false_iff]at h
   show List.lookup m ((a,v)::ns.zip vs)=none
   rw[List.lookup_cons,h.1]
   exact ih h.2
theorem E9{n:Str}{es:List D}{r:D}(G:aO Φ X sc)(hf:Φ.omt n m=some F)(he:ED X ρ a (.obj n ns es) j)
  (ha:AD X ρ args ds k) (hst:∀e∈args,∀x p,e ≠ .Starred x p) (hlen:args.length=ds.length) (hn:ns.contains m=false) (hb:fx a=true) (hfew:ds.length<29) (hl:(ap.endLine==pos.line)=true) (h:F (.obj n ns es::ds)=.ok r o) (hp:aE o):ED X ρ (.Call (.Attribute a m ap) args [] pos) r 0:=by
 obtain⟨kk,C,fa,fd,ps,hns,hc,hm,hF,hr,hbd⟩:=G.omt n m F hf
 intro ow
 have ht:=nS (o:=a) (name:=m) (apos:=ap) (pos:=pos) (args:=args) (env:=X.env) (c6 hb) (gJ hst (by omega)) hl
 cases args with
 | nil =>
  refine bC (AQ (he ow) hc hm hF hr hbd .nil hV ht) fun σ H Q ⟨E,q⟩=>⟨E,fun v H1 s1 r1=>?_⟩
  have hds:ds=[]:=List.length_eq_zero_iff.mp hlen.symm
  subst hds
  have r0:=r1
  rw[af]at r1
  obtain⟨f,e0,x,C',dx,vs,rfl,h1,h2,h3,r2⟩:=r1
  rw[hns]at h1;cases h1
  refine⟨x,dx,_,rfl,h3,rM hn,[.obj n ns es],r,o,ai.one (r0.imp fun _ _ _=>True.intro),h,hp,fun v H' s2 r2=>q v H' (s1.trans s2) (r2.imp fun a b p=>⟨p.1,s1.free p.2⟩)⟩
 | cons e es' =>
  refine bC (DY (he ow) hc hm hF hr hbd .nil hV (ha ow) (aD (hst e List.mem_cons_self)) (bG fun x hx=>hst x (List.mem_cons_of_mem _ hx)) ht) fun σ H Q ⟨E,q⟩=>⟨E,fun v H1 s1 r1=>?_⟩
  have r0:=r1
  rw[af]at r1
  obtain⟨f,e0,x,C',dx,vs,rfl,h1,h2,h3,r2⟩:=r1
  rw[hns]at h1;cases h1
  refine⟨x,dx,_,rfl,h3,rM hn,E.same s1,fun ws H2 s2 rw2=>?_⟩
  refine⟨.obj n ns es::ds,r,o,by rw[List.append_nil];exact ai.cons ((r0.same s2).imp fun _ _ _=>True.intro) (rw2.imp fun _ _ _=>True.intro),h,hp,fun v H' s3 r3=>q v H' ((s1.trans s2).trans s3) (r3.imp fun a b p=>⟨p.1,s1.free (s2.free p.2)⟩)⟩
theorem rN{K:W.Frag}{H:Hp}{P:bx}{f:Str}{d:D}:∀{ns:List Str} {ds:List D} {vs:List V},ai K H P ds vs->(ns.zip ds).lookup f=some d->∃v,(ns.zip vs).lookup f=some v/\af K H P d v/\(ax ds=true->d.lless=true)
 | [],ds,vs,_,h=>by cases h
 | a::ns,[],vs,_,h=>by cases h
 | a::ns,e::ds,vs,r,h=>by
  rw[ai]at r
  obtain⟨v,ws,rfl,r1,r2⟩:=r
  replace h:List.lookup f ((a,e)::ns.zip ds)=some d:=h
  show ∃u,List.lookup f ((a,v)::ns.zip ws)=some u/\_
  rw[List.lookup_cons]at h⊢
  cases hb:f==a with
  | true =>
   rw[hb]at h;cases h
   exact⟨v,rfl,r1,fun z=>by rw[ax,Bool.and_eq_true]at z;exact z.1⟩
  | false =>
   rw[hb]at h
   obtain⟨u,u1,u2,u3⟩:=rN r2 h
   exact⟨u,u1,u2,fun z=>by rw[ax,Bool.and_eq_true]at z;exact u3 z.2⟩
theorem IM{n:Str}(G:aO Φ X sc)(hf:Φ.fld n f=true)(he:ED X ρ a (.obj n ns ds) j)(hb:fx a=true)(h:(ns.zip ds).lookup f=some d):ED X ρ (.Attribute a f pos) d 0:=by
 intro ow
 refine bC (G2 (he ow) (c6 hb)) fun σ H Q ⟨E,q⟩=>⟨E,fun v H1 s1 r1=>?_⟩
 rw[af]at r1
 obtain⟨fl,e0,x,C,dx,vs,rfl,h1,h2,h3,r2⟩:=r1
 obtain⟨u,u1,u2,u3⟩:=rN r2 h
 exact⟨x,C,dx,_,u,rfl,h3,h2,G.fld n f hf C h1,u1,q u H1 s1 (u2.flat _ (u3 fl))⟩
theorem vP{n p:Str}{i:Int}(he:ED X ρ a (.xc n (some (p,[(f,i)]))) j)(hb:fx a=true):ED X ρ (.Attribute a f pos) (.int i) 0:=by
 intro ow pins s σ H Q I ⟨E,q⟩
 refine vY (c6 hb) (aG (he ow pins s σ H (fun v H'=>aw H H'/\j9 X.K H' n (some (p,[(f,i)])) v) I ⟨E,fun v H' s1 r1=>⟨s1,by rw[af]at r1;exact r1⟩⟩) fun u s1 ⟨v,H1,I1,rx,sm,x,C,S,od,e,h1,h2,h3,h4,h5,h6⟩=>?_)
 subst e
 obtain rfl:u=Value.ref x:=rx
 obtain⟨dx,rfl,hdx⟩:=h5 f i rfl
 obtain⟨o,vs,e1,e2,e3,e4⟩:=(show bU X.prog X.w H1 s1.heap x (iV x C (some dx))from I1.hok x _ h4).1
 obtain⟨mA,hn,hr⟩:=(show bU X.prog X.w H1 s1.heap dx (.xd [(f,.int i)])from I1.hok dx _ hdx)
 obtain⟨u,hu,ru⟩:=gn.some_of (v:=.int i) (o:=mA f) (by have:=hr f;rw[List.lookup_cons,beq_self_eq_true]at this;exact this)
 obtain⟨nm,qn,N,bs,hdct,sn,sub,ab,col,dd,k0,k1,k2,k3,k5,mN,g1,g2,g3,g4⟩:=fF h3.ex I1.kIn
 exact EM h3.ga h3.gt (h6 f i rfl).no (h6 f i rfl).di I1.kIn e1 e2 e4 e3 hn hu (qx ru) g1 g4 ⟨.int i,H1,I1.tok _,ru,q _ _ sm (by rw[af])⟩
theorem IO{l:Nat}(G:aO Φ X sc)(hB:dC f B)(hg:sc.names.lookup f=some .globalImplicit)
  (ha:AD X ρ (e::es) ds k) (hst:∀x∈e::es,∀y p,x ≠ .Starred y p) (h:B ds=.ok (z,l) o) (hp:aE o):ED X ρ (.Call (.Name f p) (e::es) [] pos) z l:=by
 obtain⟨h3,h1,h2,_,h4⟩:=hB
 have h4:=h4 X ds z l o G.calm h hp
 intro ow
 have n1:=aD (env:=X.env) (es:=es) (hst e List.mem_cons_self)
 have n2:(backTo pos (starEach es X.env)).any (·.1)=false:=bG fun x hx=>hst x (List.mem_cons_of_mem _ hx)
 rcases h4 with⟨id,e1,r,e2,e3⟩|⟨T,e1,r,e2,e3⟩
 ·refine bC (AT e2 (G.gl f hg) (G.bl f h3) e1 (ha ow) h1 h2 n1 n2) fun σ H Q ⟨E,q⟩=>⟨E,fun vs H1 s1 r1=>?_⟩
  exact e3 ow H H1 vs _ Q E.own s1 r1 fun w H' s2 r2=>q w H' (s1.trans s2) r2
 ·refine bC (yH e2 (G.gl f hg) (G.bl f h3) e1 (ha ow) h1 h2 n1 n2) fun σ H Q ⟨E,q⟩=>⟨E,fun vs H1 s1 r1=>?_⟩
  exact e3 ow H H1 vs _ Q E.own s1 r1 fun w H' s2 r2=>q w H' (s1.trans s2) r2
theorem EA{l:List D}(h:ED X ρ e (.lst l) k):IE X ρ tg e l k:=by
 intro ow pins s σ H R I ⟨E,q⟩
 refine DW (tg:=tg) (h ow) pins s σ H R I ⟨E,fun v H1 s1 r1=>?_⟩
 rw[af]at r1
 obtain⟨a,vs,b,rfl,hl,hp,rl⟩:=r1
 have rl':ai X.K H1 (Kd ow H k H1) l vs:=rl.impH (fun a o ho p=>⟨p,fun _=>⟨o,ho⟩⟩) fun a p=>⟨p,fun z=>(by cases z)⟩
 have hp':Kd ow H k H1 a b:=⟨hp,fun hb=>by subst hb;exact⟨_,hl⟩⟩
 have sq:∀{H2:Hp},uv X.K H2 a vs b->cm X.K H2 a vs:=fun {H2} h=>h.sq
 refine⟨a,rfl,⟨vs,sq hl⟩,q _ H1 s1 fun i H2 st=>⟨fun d hd=>?_,fun hle=>?_⟩⟩
 ·have h2:=sq (st.ls hl hp')
  obtain⟨w,hw,rw'⟩:=rl'.get hd
  refine⟨⟨vs,w,h2,hw⟩,fun x H3 ⟨e3,y3⟩=>?_⟩
  subst e3
  have:=y3 vs h2
  rw[hw]at this;cases this
  exact⟨aw.refl _,rw'.mono st⟩
 ·exact⟨vs,sq (st.ls hl hp'),by rw[<- rl.length];exact hle⟩
theorem Ia{l:List D}(h:ED X ρ e (.tup l) k):IE X ρ tg e l k:=by
 intro ow pins s σ H R I ⟨E,q⟩
 refine GO (tg:=tg) (h ow) pins s σ H R I ⟨E,fun v H1 s1 r1=>?_⟩
 rw[af]at r1
 obtain⟨a,vs,rfl,hl,rl⟩:=r1
 have rl':ai X.K H1 (Kd ow H k H1) l vs:=rl.impH (fun a o ho p=>⟨p,fun _=>⟨o,ho⟩⟩) fun a p=>⟨p,fun z=>(by cases z)⟩
 refine⟨a,rfl,⟨vs,hl⟩,q _ H1 s1 fun i H2 st=>⟨fun d hd=>?_,fun hle=>?_⟩⟩
 ·have h2:=st.sq hl
  obtain⟨w,hw,rw'⟩:=rl'.get hd
  refine⟨⟨vs,w,h2,hw⟩,fun x H3 ⟨e3,y3⟩=>?_⟩
  subst e3
  have:=y3 vs h2
  rw[hw]at this;cases this
  exact⟨aw.refl _,rw'.mono st⟩
 ·exact⟨vs,st.sq hl,by rw[<- rl.length];exact hle⟩
def Mb(x:Str):It:=⟨fun i _=>i<x.cps.size,fun i H v H'=>H'=H/\∃c,x.cps[i]?=some c/\v=.str ⟨#[c]⟩,fun i _=>x.cps.size<=i⟩
theorem At(x:Str)(t:Tok)(it:Addr):Turn P w K tg (Mb x) [it] it (fun i h=>h.IsStrIter it "str_ascii_iterator" x t i) where
 mem:=by simp
 obj:=fun i h st b hb=>by
  have e:b=it:=by simpa using hb
  subst e
  obtain⟨o,e,c,d⟩:=st
  exact⟨o,e,fun v z=>by rw[d]at z;cases z⟩
 keep:=fun i h h' st k=>by
  obtain⟨o,e,c,d⟩:=st
  exact⟨o,k it (by simp) o e,c,d⟩
 item:=by
  intro X hP hw hK hc i pins s σ H E I hf st hg
  subst hP hw hK
  obtain⟨f0,f1,f2,f3,f4,f5⟩:=hf it (by simp)
  have hx:x.cps[i]?=some x.cps[i]:=Array.getElem?_eq_getElem hg
  refine wpAny_pyNext_ascii_item st hx fun h' st' sb=>?_
  have I1:ah X pins σ H { s with heap:=h',toks:=s.toks+1 }:=I.turned (t':=s.toks+1) (fun b o hb e=>(sb.2 b hb).trans e) f0 f1 f3 f4 f5
  obtain⟨o,e,c,d⟩:=id st'
  exact⟨_,rfl,rA (s:={ s with heap:=h',toks:=s.toks+1 }) e c d (by decide) ⟨.str ⟨#[x.cps[i]]⟩,H,I1,⟨_,rfl⟩,⟨rfl,_,hx,rfl⟩,st',fun b hb=>(hf b hb).1⟩⟩
 done:=by
  intro X hP hw hK hc i pins s σ H E I hf st hg
  subst hP hw hK
  obtain⟨f0,f1,f2,f3,f4,f5⟩:=hf it (by simp)
  exact wpAny_pyNext_ascii_end (I.ok.hd hc) st (Array.getElem?_eq_none hg) fun h' eb=>⟨rfl,I.turned (t':=s.toks) (fun b o hb e=>eb b o hb e) f0 f1 f3 f4 f5⟩
 self:=fun _ _ _ _ _ st h=>wpAny_pyIter_striter_ascii st h
theorem Ib(h:ED X ρ e (.str x) k)(ha:(x.cps.all fun c=>decide (c<128))=true):IE X ρ tg e (sgs x) k:=by
 intro ow pins s σ H R I ⟨E,q⟩
 refine aG (h ow pins s σ H _ I ⟨E,fun v H1 s1 r1=>(show(fun v H1=>aw H H1/\af X.K H1 (Kp ow H k) (.str x) v) v H1 from⟨s1,r1⟩)⟩) fun v s1 ⟨y,H1,I1,rel,sm,rp⟩=>?_
 rw[af]at rp;subst rp
 obtain⟨t,rfl⟩:=rel
 have ty:strIterType x = "str_ascii_iterator" := if_pos ha
 refine wpAny_pyIter_strU ?_
 rw[ty]
 refine⟨s1.heap.objs.size,[s1.heap.objs.size],_,Mb x,H1,rfl,I1.kept (t':=s1.toks) fun b o e=>Heap.get?_push_of_some _ e,At x t _,⟨_,Heap.get?_push_size _ rfl,rfl,rfl⟩,fun b hb=>?_,q _ H1 sm fun i H2 st=>⟨fun d hd=>?_,fun hle=>?_⟩⟩
 ·have e:b=s1.heap.objs.size:=by simpa using hb
  subst e
  exact I1.fpOk (Nat.le_refl _) (I1.hok.fresh (Nat.le_refl _))
 ·unfold sgs at hd
  rw[List.getElem?_map]at hd
  cases hc:x.cps.toList[i]? with
  | none=>rw[hc]at hd;cases hd
  | some c =>
   rw[hc]at hd;cases hd
   have hi:i<x.cps.size:=by simpa using (List.getElem?_eq_some_iff.mp hc).1
   refine⟨hi,fun z H3 ⟨e3,c',e4,e5⟩=>?_⟩
   subst e3 e5
   rw[Array.getElem?_toList]at hc
   rw[hc]at e4;cases e4
   exact⟨aw.refl _,by rw[af]⟩
 ·unfold sgs at hle
  rw[List.length_map,Array.length_toList]at hle
  exact hle
theorem Lj{l:List D}(h:ED X ρ e d k)(hi:items d=some l):IE X ρ tg e l k:=by
 unfold items at hi
 split at hi
 ·cases hi;exact EA h
 ·cases hi;exact Ia h
 ·split at hi
  ·rename_i ha;cases hi;exact Ib h ha
  ·cases hi
 ·cases hi
theorem Bb{j:Int}(hg:Gl X "range")(hm0:X.mg "range" = none)(ha:AD X ρ [a] [.int j] k)(hst:∀y p,a ≠ .Starred y p)(h1:-4611686018427387904<=j)(h2:j<=b8) :
  IE X ρ tg (.Call (.Name "range" p) [a] [] pos) ((List.range j.toNat).map fun i=>.int (i:Nat)) 0:=by
 intro ow pins s σ H R I ⟨E,q⟩
 refine yF (tg:=tg) hg hm0 (ha ow) (by rw[aD hst];rfl) pins s σ H R I ⟨E,fun vs H1 s1 r1=>?_⟩
 obtain⟨v,rfl,rv⟩:=r1.only
 rw[af]at rv;subst rv
 have hm:(b8:Int)<2 ^ 62:=by decide
 refine⟨j,rfl,h1,by omega,q _ H1 s1 fun i H2 st=>⟨fun d hd=>?_,fun hle=>?_⟩⟩
 ·rw[List.getElem?_map]at hd
  cases e:(List.range j.toNat)[i]? with
  | none=>rw[e]at hd;cases hd
  | some n =>
   rw[e]at hd;cases hd
   obtain⟨hi,hn⟩:=List.getElem?_eq_some_iff.mp e
   rw[List.getElem_range]at hn
   subst hn
   rw[List.length_range]at hi
   refine⟨hi,fun x H3 ⟨e3,y3⟩=>?_⟩
   subst e3 y3
   exact⟨aw.refl _,by rw[af,Int.zero_add]⟩
 ·rw[List.length_map,List.length_range]at hle
  exact hle
theorem zf{b:Expr}{j0 j:Int}(hg:Gl X "range")(hm0:X.mg "range" = none)(ha:AD X ρ [a,b] [.int j0,.int j] k)(hst:∀y p,a ≠ .Starred y p)(hst2:∀y p,b ≠ .Starred y p)(h1:-4611686018427387904<=j0)(h2:j0<=4611686018427387000)(h3:-4611686018427387904<=j)(h4:j-j0<=800) :
  IE X ρ tg (.Call (.Name "range" p) [a,b] [] pos) ((List.range (j-j0).toNat).map fun i=>.int (j0+(i:Nat))) 0:=by
 intro ow pins s σ H R I ⟨E,q⟩
 refine yE (tg:=tg) hg hm0 (ha ow) (by rw[aD hst,aD hst2];rfl) (by rw[aD hst2];rfl) pins s σ H R I ⟨E,fun vs H1 s1 r1=>?_⟩
 rw[ai]at r1
 obtain⟨v1,r,rfl,r2,r3⟩:=r1
 rw[ai]at r3
 obtain⟨v2,r',rfl,r4,r5⟩:=r3
 rw[ai]at r5
 rw[af]at r2 r4
 subst r2 r4 r5
 refine⟨j0,j,rfl,⟨h1,by omega,h3,by omega⟩,q _ H1 s1 fun i H2 st=>⟨fun d hd=>?_,fun hle=>?_⟩⟩
 ·rw[List.getElem?_map]at hd
  cases e:(List.range (j-j0).toNat)[i]? with
  | none=>rw[e]at hd;cases hd
  | some n =>
   rw[e]at hd;cases hd
   obtain⟨hi,hn⟩:=List.getElem?_eq_some_iff.mp e
   rw[List.getElem_range]at hn
   subst hn
   rw[List.length_range]at hi
   refine⟨hi,fun x H3 ⟨e3,y3⟩=>?_⟩
   subst e3 y3
   exact⟨aw.refl _,by rw[af]⟩
 ·rw[List.length_map,List.length_range]at hle
  exact hle
theorem zh:rJ "range" nR:=by
 refine⟨by decide +kernel,fun X ρ p pos args ds k d j l tg o hc hg hm ha hst hlen h hp hl ht=>?_⟩
 unfold nR at h
 split at h
 ·rename_i n
  cases h
  cases hl
  match args,hlen,ha,hst with
  | [a],_,ha,hst=>exact Bb hg hm ha (hst a List.mem_cons_self) hp.1 hp.2.1
 ·rename_i m n
  cases h
  cases hl
  match args,hlen,ha,hst with
  | [a,b],_,ha,hst=>exact zf hg hm ha (hst a List.mem_cons_self) (hst b (List.mem_cons_of_mem _ List.mem_cons_self)) hp.1 hp.2.1 hp.2.2.1 hp.2.2.2.1
 ·cases h
variable{X:Cx}
theorem ee{y:D×Bool}(z:Str):bz ρ x y z=if z=x then some y else ρ z:=rfl
theorem dj{o:Bool}(hN:X.N.Nodup)(hl:σ.length=X.N.length)(E:aH X ow H σ ρ)(hi:X.N[i]?=some x)(hv:fy X.env.scope x)(r:af X.K H (kM ow x o) d v) :
  aH X ow H (σ.set i (some v)) (bz ρ x (d,o)):=by
 have hil:i<σ.length:=by rw[hl];exact(List.getElem?_eq_some_iff.mp hi).1
 refine⟨fun y e o' h=>?_,E.own⟩
 rw[ee]at h
 by_cases hy:y=x
 ·subst hy
  rw[if_pos rfl]at h
  cases h
  exact⟨i,v,hi,hv,by rw[List.getElem?_set_self hil],r⟩
 ·rw[if_neg hy]at h
  obtain⟨j,w,e1,e2,e3,e4⟩:=E.get y e o' h
  have hij:i≠j:=by intro z;subst z;rw[hi]at e1;cases e1;exact hy rfl
  exact⟨j,w,e1,e2,by rw[List.getElem?_set_ne hij];exact e3,e4⟩
theorem eQ(G:aO Φ X sc)(h:ck sc x=true):uw X.env.scope x/\fy X.env.scope x/\(X.fn x=true\/X.env.scope.names.lookup x=some .local)/\∃i:Nat,X.N[i]?=some x:=by
 have hx:=G.ns x h
 have hlt:=List.idxOf_lt_length_iff.mpr hx
 have hi:∃i:Nat,X.N[i]?=some x:=⟨X.N.idxOf x,by rw[List.getElem?_eq_getElem hlt,List.getElem_idxOf hlt]⟩
 unfold ck at h
 rw[Bool.or_eq_true]at h
 rcases h with h|h
 ·have h:=G.lc x (by simpa using h)
  exact⟨.inl h,.inl h,.inr h,hi⟩
 ·have h0:sc.names.lookup x=some .cell:=by simpa using h
  have h:=G.cc x h0
  exact⟨.inr h,.inr (.inl h),.inl (G.ft x h0),hi⟩
theorem kL{Φ:Fx}{sc:Scope}(G:aO Φ X sc):∀{es:List Expr} {ds:List D} {ρ ρ':ae},aT sc es ds ρ=some ρ'->∃t,v4 X es t/\(assignEach es X.env).length=ds.length/\(assignEach es X.env).findIdx? (·.1)=none /\
  ∀(ow:Ow) (vs:List V) (σ:L2.St) (H:Hp) (Q:L2.St->Hp->Prop),σ.length=X.N.length->aH X ow H σ ρ->ai X.K H (fun a b=>b=true->ow a=none) ds vs->(∀σ',σ'.length=X.N.length->aH X ow H σ' ρ'->Q σ' H)->t vs σ H Q
 | [],[],ρ,ρ',h=>by
  rw[aT]at h;cases h
  refine⟨_,o9,rfl,rfl,fun ow vs σ H Q hl E r q=>?_⟩
  rw[ai]at r
  exact⟨r,q σ hl E⟩
 | .Name x p::es,d::ds,ρ,ρ',h=>by
  rw[aT]at h
  split at h
  ·rename_i hx
   obtain⟨t,h1,h2,h3,h4⟩:=kL G h
   obtain⟨g1,g2,g3,i,g4⟩:=eQ G hx
   refine⟨_,iq (gv (i:=i) G.nd g4 g1 g3) h1 rfl,?_,?_,fun ow vs σ H Q hl E r q=>?_⟩
   ·show(assignEach es X.env).length+1=ds.length+1
    rw[h2]
   ·show List.findIdx? (·.1) ((false,_)::assignEach es X.env)=none
    rw[List.findIdx?_cons,h3];rfl
   ·rw[ai]at r
    obtain⟨v,vr,rfl,r1,r2⟩:=r
    refine⟨v,vr,rfl,?_⟩
    exact h4 ow vr _ H Q (by rw[List.length_set];exact hl) (dj G.nd hl E g4 g2 r1) r2 q
  ·cases h
 | [],_::_,ρ,ρ',h=>by simp[aT]at h
 | .Name _ _::_,[],ρ,ρ',h=>by simp[aT]at h
 | .BoolOp .. :: _,ds,ρ,ρ',h=>by cases ds<;>simp[aT]at h
 | .NamedExpr .. :: _,ds,ρ,ρ',h=>by cases ds<;>simp[aT]at h
 | .BinOp .. :: _,ds,ρ,ρ',h=>by cases ds<;>simp[aT]at h
 | .UnaryOp .. :: _,ds,ρ,ρ',h=>by cases ds<;>simp[aT]at h
 | .Lambda .. :: _,ds,ρ,ρ',h=>by cases ds<;>simp[aT]at h
 | .IfExp .. :: _,ds,ρ,ρ',h=>by cases ds<;>simp[aT]at h
 | .Dict .. :: _,ds,ρ,ρ',h=>by cases ds<;>simp[aT]at h
 | .Set .. :: _,ds,ρ,ρ',h=>by cases ds<;>simp[aT]at h
 | .ListComp .. :: _,ds,ρ,ρ',h=>by cases ds<;>simp[aT]at h
 | .SetComp .. :: _,ds,ρ,ρ',h=>by cases ds<;>simp[aT]at h
 | .DictComp .. :: _,ds,ρ,ρ',h=>by cases ds<;>simp[aT]at h
 | .GeneratorExp .. :: _,ds,ρ,ρ',h=>by cases ds<;>simp[aT]at h
 | .Await .. :: _,ds,ρ,ρ',h=>by cases ds<;>simp[aT]at h
 | .Yield .. :: _,ds,ρ,ρ',h=>by cases ds<;>simp[aT]at h
 | .YieldFrom .. :: _,ds,ρ,ρ',h=>by cases ds<;>simp[aT]at h
 | .Compare .. :: _,ds,ρ,ρ',h=>by cases ds<;>simp[aT]at h
 | .Call .. :: _,ds,ρ,ρ',h=>by cases ds<;>simp[aT]at h
 | .FormattedValue .. :: _,ds,ρ,ρ',h=>by cases ds<;>simp[aT]at h
 | .JoinedStr .. :: _,ds,ρ,ρ',h=>by cases ds<;>simp[aT]at h
 | .Constant .. :: _,ds,ρ,ρ',h=>by cases ds<;>simp[aT]at h
 | .Attribute .. :: _,ds,ρ,ρ',h=>by cases ds<;>simp[aT]at h
 | .Subscript .. :: _,ds,ρ,ρ',h=>by cases ds<;>simp[aT]at h
 | .Starred .. :: _,ds,ρ,ρ',h=>by cases ds<;>simp[aT]at h
 | .List .. :: _,ds,ρ,ρ',h=>by cases ds<;>simp[aT]at h
 | .Tuple .. :: _,ds,ρ,ρ',h=>by cases ds<;>simp[aT]at h
 | .Slice .. :: _,ds,ρ,ρ',h=>by cases ds<;>simp[aT]at h
theorem rB(G:aO Φ X sc)(h:bF sc tg d ρ=some ρ'):GD X ρ tg d ρ':=by
 unfold bF at h
 split at h
 ·split at h
  ·rename_i x p hx
   cases h
   obtain⟨g1,g2,g3,i,g4⟩:=eQ G hx
   exact⟨_,gv (i:=i) G.nd g4 g1 g3,fun ow v σ H Q hl E r q=>q _ (by rw[List.length_set];exact hl) (dj G.nd hl E g4 g2 r)⟩
  ·cases h
 ·split at h
  ·obtain⟨t,h1,h2,h3,h4⟩:=kL G h
   refine⟨_,nB (n:=_) G.calm h1 h2 h3,fun ow v σ H Q hl E r q=>?_⟩
   obtain⟨a,vs,rfl,hs,rl⟩:=gF r
   exact⟨a,vs,rfl,hs,rl.length.symm,h4 ow vs σ H Q hl E rl q⟩
  ·cases h
 ·cases h
theorem wb{Q:Bool->Shared->Prop}
  (h:wpAny M A (isTrue c env (eval c env)) (fun b s'=>if b=true then wpAny M A (iF cs env) Q E s' else Q false s') E s):wpAny M A (iF (c::cs) env) Q E s:=by
 have no:∀(l:List Expr) (s:Shared),Q false s->wpAny M A (forIn l false fun c r=>if r=true then do let ok <- isTrue c env (eval c env);pure (ForInStep.yield ok)else pure (ForInStep.yield r)) Q E s:=by
  intro l
  induction l with
  | nil=>intro s h;exact wpAny_pure h
  | cons x l ih =>
   intro s h
   rw[List.forIn_cons]
   simp only[Bool.false_eq_true,if_false]
   exact wpAny_bind (wpAny_pure (ih s h))
 unfold iF
 rw[List.forIn_cons]
 simp only[if_true]
 refine wpAny_bind (wpAny_bind (wpAny_mono h (fun b s' hb=>wpAny_pure ?_) fun _ _ x=>x))
 cases b with
 | true=>exact hb
 | false=>exact no cs s' hb
theorem x4:Ai X ρ [] true:=fun ow pins s σ H Q I ⟨E,q⟩=>wpAny_pure ⟨H,I,q H (aw.refl _)⟩
theorem o0{b':Bool}(h:TD X ρ c b)(h':if b=true then Ai X ρ cs b' else b'=false):Ai X ρ (c::cs) b':=by
 intro ow pins s σ H Q I ⟨E,q⟩
 refine wb (aG (h ow pins s σ H (fun t H1=>t=b/\aw H H1) I ⟨E,fun H1 s1=>⟨rfl,s1⟩⟩) fun t s1 ⟨H1,I1,e,sm⟩=>?_)
 subst e
 cases t with
 | true =>
  rw[if_pos rfl]at h' ⊢
  exact h' ow pins s1 σ H1 Q I1 ⟨E.same sm,fun H2 s2=>q H2 (sm.trans s2)⟩
 | false =>
  rw[if_neg Bool.false_ne_true]at h' ⊢
  subst h'
  exact⟨H1,I1,q H1 sm⟩
variable{X:Cx}
structure fT(X:Cx)(ρ:ae)(e:Expr)(it:Bool)(d:D)(k:Nat):Prop where
 ed:it=false->ED X ρ e d k
 td:it=false->∀b,d=.bl b->TD X ρ e b
 ie:it=true->∀tg l,items d=some l->eL e tg=true->IE X ρ tg e l k
theorem fT.of(h:ED X ρ e d k)(t:∀b,d=.bl b->TD X ρ e b):fT X ρ e it d k:=⟨fun _=>h,fun _=>t,fun _ tg l hi _=>Lj h hi⟩
theorem ia{r:D×Nat}(h:au Φ e it sc ρ=.ok r l):∀x p,e ≠ .Starred x p:=by
 intro x p z;subst z;cases h
theorem b9{Φ:Fx}{sc:Scope}{ρ:ae}:∀{es:List Expr} {r:List D×Nat} {l:List Prop},bi Φ es sc ρ=.ok r l->aE l->(∀e∈es,∀x p,e ≠ .Starred x p)/\es.length=r.1.length
 | [],r,l,h,_=>by cases h;exact⟨fun e he=>(by cases he),rfl⟩
 | e::es,r,l,h,hp=>by
  obtain⟨p,l1,l2,h1,p1,h,p2⟩:=aQ h hp
  obtain⟨q,l3,l4,h2,p3,h,p4⟩:=aQ h p2
  cases h
  obtain⟨i1,i2⟩:=b9 h2 p3
  refine⟨fun e' he=>?_,by rw[List.length_cons,List.length_cons,i2]⟩
  rcases List.mem_cons.mp he with rfl|he
  ·exact ia h1
  ·exact i1 e' he
theorem Lb:kn d k=0\/kn d k=k:=by
 unfold kn;split
 ·exact .inl rfl
 ·exact .inr rfl
theorem zY(h:oC sc scope=true):scope.kind=.function/\(∀y∈scope.names,y.2=.local->scope.names.lookup y.1=some .local) /\
  (∀y∈scope.names,y.2=.free->sc.names.lookup y.1=some .cell\/sc.names.lookup y.1=some .free)/\(scope.names.map (·.1)).Nodup:=by
 unfold oC at h
 simp only[Bool.and_eq_true,List.all_eq_true,decide_eq_true_eq,Bool.or_eq_true]at h
 obtain⟨⟨⟨h1,h3⟩,h4⟩,h5⟩:=h
 refine⟨h1,fun y hy e=>(h3 y hy).resolve_left (fun z=>z e),fun y hy e=>?_,h5⟩
 rcases h4 y hy with(q|q)|q
 ·exact absurd e q
 ·exact .inl q.2
 ·exact .inr q
theorem db{env:Env}:∀{names:List (Str×NameKind)} {x:Str} {k0:NameKind},k0 ≠ .free->names.lookup x=some k0 ->
  (names.map fun(n,k)=>if (k==NameKind.free&&env.scope.kind == .function&&env.kindOf n==some .cell)then(n,NameKind.cell)else(n,k)).lookup x=some k0
 | [],_,_,_,h=>by simp at h
 | (n,k)::r,x,k0,hk,h=>by
  have ih:=@db env r x k0 hk
  show List.lookup x ((if (k==NameKind.free&&env.scope.kind == .function&&env.kindOf n==some .cell)=true then(n,NameKind.cell)else(n,k))::_)=_
  cases hx:x==n with
  | true =>
   simp only[List.lookup_cons,hx]at h
   cases h
   have:(k==NameKind.free)=false:=by simpa using hk
   simp[List.lookup_cons,hx,this]
  | false =>
   simp only[List.lookup_cons,hx]at h
   by_cases hc:(k==NameKind.free&&env.scope.kind == .function&&env.kindOf n==some .cell)=true
   ·rw[if_pos hc];simp only[List.lookup_cons,hx];exact ih h
   ·rw[if_neg hc];simp only[List.lookup_cons,hx];exact ih h
theorem nE{names:List (Str×NameKind)}:∀{x:Str} {k:NameKind},names.lookup x=some k->x∈names.map (·.1):=fun {x k} h=>List.mem_map.mpr ⟨_,PySem.mem_of_lookup h,rfl⟩
theorem EC{C:Addr}(G:aO Φ X sc)(h:oC sc scope=true):aO Φ (kW X scope cl C (scope.names.map (·.1)) s H fp) scope:=by
 obtain⟨h1,h3,h4,h5⟩:=zY h
 refine⟨G.calm,h5,fun x hx=>?_,fun x hx=>?_,fun x hx=>lookup_relabel_local hx,fun x hx=>db (by decide) hx,fun g F hg=>G.fn g F hg,G.con,G.blt,G.itr,G.mth,G.mtt,G.slf,G.fld,G.omt,G.bl,G.room,fun x hx=>?_,fun x hx=>decide_eq_true hx⟩
 ·exact db (by decide) hx
 ·rcases hx with hx|hx
  ·exact .inl (db (by decide) hx)
  ·exact de hx
 ·unfold ck at hx
  rw[Bool.or_eq_true]at hx
  rcases hx with hx|hx<;>exact nE (by simpa using hx)
theorem zB(G:aO Φ X sc)(h:oC sc scope=true):gU X.env scope (scope.names.map (·.1)):=by
 obtain⟨h1,h3,h4,h5⟩:=zY h
 exact⟨h1,h5,h3,h5,fun n hn=>G.kc n (h4 (n,.free) hn rfl)⟩
theorem Lc:∀{a b:Nat},kj a b<=1->a<=kj a b/\b<=kj a b
 | 0,0,_=>by decide
 | 0,1,_=>by decide
 | 0,2,h=>absurd h (by decide)
 | 0,_+3,h=>by rw[kj]at h;omega
 | 1,0,_=>by decide
 | 1,1,_=>by decide
 | 1,2,h=>absurd h (by decide)
 | 1,_+3,h=>absurd h (by rw[kj]<;>simp)
 | 2,0,h=>absurd h (by decide)
 | 2,1,h=>absurd h (by decide)
 | 2,2,h=>absurd h (by decide)
 | 2,_+3,h=>absurd h (by rw[kj]<;>simp)
 | _+3,0,h=>by rw[kj]at h<;>simp_all<;>omega
 | _+3,1,h=>absurd h (by rw[kj]<;>simp)
 | _+3,2,h=>absurd h (by rw[kj]<;>simp)
 | _+3,_+3,h=>absurd h (by rw[kj]<;>simp)
theorem Kp.up(o:fi ow H){a:Addr}:∀{i j:Nat},i<=j->j<=1->Kp ow H i a b->Kp ow H j a b
 | 0,0,_,_,p=>p
 | 0,1,_,_,p=>fun _=>o.free p.2
 | 1,1,_,_,p=>p
 | 1,0,h,_,_=>absurd h (by omega)
 | _+2,_,h,g,_=>absurd h (by omega)
 | 0,_+2,_,g,_=>absurd g (by omega)
 | 1,_+2,_,g,_=>absurd g (by omega)
theorem ED.up(h:ED X ρ e d i)(h1:i<=j)(h2:j<=1):ED X ρ e d j:=fun ow=>bC (h ow) fun σ H Q ⟨E,q⟩=>⟨E,fun v H' s r=>q v H' s (r.imp fun a b p=>Kp.up E.own h1 h2 p)⟩
def rk(step:D->Rs (Option (D×Nat)))(d:D):Option D:=match step d with | .ok (some p) _=>some p.1|_=>none
theorem t3{step:D->Rs (Option (D×Nat))}:∀{ds:List D} {r:List D×Nat} {l:List Prop},gD step ds=.ok r l->aE l ->
  (∀d∈ds,∃r l,step d=.ok r l/\aE l)/\r.1=ds.filterMap (rk step)/\(r.2<=1->∀d∈ds,∀p l,step d=.ok (some p) l->p.2<=r.2)
 | [],r,l,h,_=>by
  cases h
  exact⟨fun d hd=>(by cases hd),rfl,fun _ d hd=>(by cases hd)⟩
 | d::ds,r,l,h,hp=>by
  obtain⟨x,l1,l2,h1,p1,h,p2⟩:=aQ h hp
  obtain⟨q,l3,l4,h2,p3,h,p4⟩:=aQ h p2
  obtain⟨i1,i2,i3⟩:=t3 h2 p3
  have i1':∀y∈d::ds,∃r l,step y=.ok r l/\aE l:=fun y hy=>by
   rcases List.mem_cons.mp hy with rfl|hy
   ·exact⟨_,_,h1,p1⟩
   ·exact i1 y hy
  cases x with
  | none =>
   cases h
   refine⟨i1',?_,fun hj x hx y i e=>?_⟩
   ·rw[List.filterMap_cons_none (by unfold rk;rw[h1])];exact i2
   ·rcases List.mem_cons.mp hx with rfl|hx
    ·rw[h1]at e;cases e
    ·exact i3 hj x hx y i e
  | some p =>
   cases h
   refine⟨i1',?_,fun hj x hx y i e=>?_⟩
   ·rw[List.filterMap_cons_some (by unfold rk;rw[h1]),i2]
   ·obtain⟨a1,a2⟩:=Lc hj
    rcases List.mem_cons.mp hx with rfl|hx
    ·rw[h1]at e;cases e;exact a1
    ·exact Nat.le_trans (i3 (Nat.le_trans a2 hj) x hx y i e) a2
theorem bS(h:ED X ρ e d k)(he:∀whole,isTrue e X.env whole=(do let v <- whole;standAt e.pos;holding [v] (truthy v))):fT X ρ e it d k:=.of h fun b hb=>by subst hb;exact Kk h he
theorem x5{b:Expr}{x:D}(hu:X.A.units+70<cLine)(ha:ED X ρ a x k)(hb:ED X ρ b y j)(h:gW op x y=.ok r o)(hp:aE o)(hm:behindInMarks op b=false):TD X ρ (.Compare a [op] [b] pos) r:=by
 have c:=jF (X:=X) hu h hp
 intro ow pins s σ H Q I ⟨E,q⟩
 refine wpAny_isTrue_Compare1 (L5 (ha ow) (hb ow) I (R:=fun v u H2=>aw H H2/\af X.K H2 (fun _ _=>True) x v/\af X.K H2 (fun _ _=>True) y u) ⟨E,fun v H1 s1 r1=>⟨E.same s1,fun u H2 s2 r2=>⟨s1.trans s2,(r1.imp fun _ _ _=>True.intro).same s2,r2.imp fun _ _ _=>True.intro⟩⟩⟩ fun v u s2 x y H2 I2 rx ry ⟨sm,r1,r2⟩=>?_) hm
 refine aG (c _ _ pins s2 σ H2 x y v u (fun w H'=>w=.bl r/\H2=H') I2 rx ry ⟨r1,r2,rfl,rfl⟩) fun u' s3 ⟨w,H3,I3,r3,e1,e2⟩=>?_
 subst e1 e2
 cases (show u'=Value.bool r from r3)
 exact wpAny_truthy_bool ⟨H2,I3,q H2 sm⟩
theorem Av{b:Expr}{x y z:Int}(hu:X.A.units+70<cLine)(ha:ED X ρ a (.int x) k)(hb:ED X ρ b (.int y) j)(hc:ED X ρ c (.int z) i)(h:gy op x y=some r)(h2:gy op2 y z=some r2)(hm:behindInMarks op2 c=false):TD X ρ (.Compare a [op,op2] [b,c] pos) (r&&r2):=by
 have c1:=jF (X:=X) hu (ou h) (show aE []from True.intro)
 have c2:=jF (X:=X) hu (ou h2) (show aE []from True.intro)
 refine fun ow=>rH (AL (c1 (fun _ _=>True) (fun _ _=>True)) (c2 (fun _ _=>True) (fun _ _=>True)) (ha ow) (hb ow) (hc ow) hm) fun σ H Q ⟨E,q⟩=>⟨E,fun v H1 s1 r1=>⟨E.same s1,fun u H2 s2 r2=>?_⟩⟩
 rw[af]at r1 r2
 subst r1 r2
 refine⟨by rw[af],by rw[af],r,rfl,?_⟩
 cases r with
 | false=>exact⟨false,rfl,q H2 (s1.trans s2)⟩
 | true =>
  rw[if_pos rfl]
  refine⟨(E.same s1).same s2,fun w H3 s3 r3=>?_⟩
  rw[af]at r3
  subst r3
  exact⟨by rw[af],by rw[af],_,rfl,q H3 ((s1.trans s2).trans s3)⟩
theorem FU(h:TD X ρ a b):TD X ρ (.UnaryOp .Not a pos) (!b):=fun ow=>rH (GF (h ow)) fun σ H Q ⟨E,q⟩=>⟨E,fun H1 s1=>q H1 s1⟩
structure dk(X:Cx)(ρ:ae)(op:BoolOp)(es:List Expr)(b:Bool):Prop where
 ed:es≠[]->∀pos,ED X ρ (.BoolOp op es pos) (.bl b) 0
 tw:es≠[]->∀pos ow,PW X (.BoolOp op es pos) (BX X ow ρ b)
 ts:op=.And->Ai X ρ es b
theorem fw{op:BoolOp}(h:ED X ρ e (.bl b) k)(t:TD X ρ e b):dk X ρ op [e] b:=by
 have h0:ED X ρ e (.bl b) 0:=by
  have:=h.kn
  rw[show kn (.bl b) k=0 from rfl]at this
  exact this
 refine⟨fun _ pos ow=>GU (h0 ow),fun _ pos ow=>?_,fun _=>o0 t (by cases b;rfl;exact x4)⟩
 cases op with
 | And=>exact DK (t ow)
 | Or=>exact GC (t ow)
theorem uM(h:ED X ρ e (.bl true) k)(t:TD X ρ e true)(r:dk X ρ .And (e2::es) b):dk X ρ .And (e::e2::es) b:=by
 refine⟨fun _ pos ow=>?_,fun _ pos ow=>?_,fun _=>o0 t (by rw[if_pos rfl];exact r.ts rfl)⟩
 ·refine bC (yI (h ow) (r.ed (by simp) pos ow)) fun σ H Q ⟨E,q⟩=>⟨E,fun v H1 s1 r1=>?_⟩
  rw[af]at r1
  exact⟨true,r1,by rw[if_pos rfl];exact⟨E.same s1,fun w H2 s2 r2=>q w H2 (s1.trans s2) (r2.imp (Kp.back s1 0))⟩⟩
 ·intro wh pins s σ H Q I hq
  exact yA (t ow) (r.tw (by simp) pos ow) wh pins s σ H Q I ⟨hq.1,fun H1 s1=>by dsimp only;rw[if_pos rfl];exact⟨hq.1.same s1,fun H2 s2=>hq.2 H2 (s1.trans s2)⟩⟩
theorem uc(h:ED X ρ e (.bl false) k)(t:TD X ρ e false)(ne:∀pos,∃t,PE X (.BoolOp .And (e2::es) pos) t)(nw:∀pos,∃t,PW X (.BoolOp .And (e2::es) pos) t):dk X ρ .And (e::e2::es) false:=by
 refine⟨fun _ pos ow=>?_,fun _ pos ow=>?_,fun _=>o0 t (by rw[if_neg Bool.false_ne_true])⟩
 ·obtain⟨t2,h2⟩:=ne pos
  refine bC (yI (h ow) h2) fun σ H Q ⟨E,q⟩=>⟨E,fun v H1 s1 r1=>?_⟩
  rw[af]at r1
  exact⟨false,r1,by rw[if_neg Bool.false_ne_true];exact q _ H1 s1 (by rw[af])⟩
 ·obtain⟨t2,h2⟩:=nw pos
  intro wh pins s σ H Q I hq
  exact yA (t ow) h2 wh pins s σ H Q I ⟨hq.1,fun H1 s1=>by dsimp only;rw[if_neg Bool.false_ne_true];exact hq.2 H1 s1⟩
theorem oE(h:ED X ρ e (.bl false) k)(t:TD X ρ e false)(r:dk X ρ .Or (e2::es) b):dk X ρ .Or (e::e2::es) b:=by
 refine⟨fun _ pos ow=>?_,fun _ pos ow=>?_,fun z=>by cases z⟩
 ·refine bC (Cf (h ow) (r.ed (by simp) pos ow)) fun σ H Q ⟨E,q⟩=>⟨E,fun v H1 s1 r1=>?_⟩
  rw[af]at r1
  exact⟨false,r1,by rw[if_neg Bool.false_ne_true];exact⟨E.same s1,fun w H2 s2 r2=>q w H2 (s1.trans s2) (r2.imp (Kp.back s1 0))⟩⟩
 ·intro wh pins s σ H Q I hq
  exact Cb (t ow) (r.tw (by simp) pos ow) wh pins s σ H Q I ⟨hq.1,fun H1 s1=>by dsimp only;rw[if_neg Bool.false_ne_true];exact⟨hq.1.same s1,fun H2 s2=>hq.2 H2 (s1.trans s2)⟩⟩
theorem mq(h:ED X ρ e (.bl true) k)(t:TD X ρ e true)(ne:∀pos,∃t,PE X (.BoolOp .Or (e2::es) pos) t)(nw:∀pos,∃t,PW X (.BoolOp .Or (e2::es) pos) t):dk X ρ .Or (e::e2::es) true:=by
 refine⟨fun _ pos ow=>?_,fun _ pos ow=>?_,fun z=>by cases z⟩
 ·obtain⟨t2,h2⟩:=ne pos
  refine bC (Cf (h ow) h2) fun σ H Q ⟨E,q⟩=>⟨E,fun v H1 s1 r1=>?_⟩
  rw[af]at r1
  exact⟨true,r1,by rw[if_pos rfl];exact q _ H1 s1 (by rw[af])⟩
 ·obtain⟨t2,h2⟩:=nw pos
  intro wh pins s σ H Q I hq
  exact Cb (t ow) h2 wh pins s σ H Q I ⟨hq.1,fun H1 s1=>by dsimp only;rw[if_pos rfl];exact hq.2 H1 s1⟩
theorem mI:PE X e (fun _ _ _=>False):=fun _ _ _ _ _ _ h=>h.elim
theorem mG:PW X e (fun _ _ _=>False):=fun _ _ _ _ _ _ _ h=>h.elim
theorem CP{b:Expr}{r:D×Nat}(h:au Φ b it sc ρ=.ok r l):behindInMarks op b=false:=by
 cases b<;>first|rfl|cases h
theorem vA{z:Str}(h:ck sc z=true)(hx:sc.names.lookup x=some .free):x≠z:=by
 intro e;subst e
 unfold ck at h
 rw[hx]at h
 revert h;decide
theorem wX:∀{es:List Expr} {ds:List D} {ρ ρ':ae},aT sc es ds ρ=some ρ'->∀x y,sc.names.lookup x=some .free->ρ x=some y->ρ' x=some y:=by
 intro es
 induction es with
 | nil =>
  intro ds ρ ρ' h x y hx hl
  cases ds with
  | nil=>rw[aT]at h;cases h;exact hl
  | cons d ds=>cases h
 | cons e es ih =>
  intro ds ρ ρ' h x y hx hl
  cases ds with
  | nil=>cases e<;>cases h
  | cons d ds =>
   cases e with
   | Name z p =>
    rw[aT]at h
    split at h
    ·rename_i hz
     exact ih h x y hx (by rw[ee,if_neg (vA hz hx)];exact hl)
    ·cases h
   | _=>cases h
theorem Aa(h:bF sc tg d ρ=some ρ'):∀x y,sc.names.lookup x=some .free->ρ x=some y->ρ' x=some y:=by
 intro x y hx hl
 unfold bF at h
 split at h
 ·split at h
  ·rename_i hz
   cases h
   rw[ee,if_neg (vA hz hx)];exact hl
  ·cases h
 ·split at h
  ·exact wX h x y hx hl
  ·cases h
 ·cases h
theorem qz{r:D×Nat}(h:au Φ e it sc ρ=.ok r l)(x:Value):foldedSetIterable e env x=pure x:=by
 cases e<;>first|rfl|cases h
mutual
theorem sO:∀x y:D,pj true x y=x
 | .int _,.int _=>rfl
 | .bl _,.bl _=>rfl
 | .tup l,.tup m=>by
  show(if l.length=m.length then D.tup (kP true l m)else cond true (.tup l) (.tup m))=.tup l
  split
  ·rename_i h;rw[yO l m h]
  ·rfl
 | .non,_=>rfl
 | .str _,_=>rfl
 | .dct _ _,_=>rfl
 | .lst _,_=>rfl
 | .typ _,_=>rfl
 | .sn _,_=>rfl
 | .obj _ _ _,_=>rfl
 | .cls _,_=>rfl
 | .xc _ _,_=>rfl
 | .int _,.non=>rfl
 | .int _,.bl _=>rfl
 | .int _,.str _=>rfl
 | .int _,.dct _ _=>rfl
 | .int _,.typ _=>rfl
 | .int _,.sn _=>rfl
 | .int _,.obj _ _ _=>rfl
 | .int _,.cls _=>rfl
 | .int _,.xc _ _=>rfl
 | .int _,.tup _=>rfl
 | .int _,.lst _=>rfl
 | .bl _,.non=>rfl
 | .bl _,.int _=>rfl
 | .bl _,.str _=>rfl
 | .bl _,.dct _ _=>rfl
 | .bl _,.typ _=>rfl
 | .bl _,.sn _=>rfl
 | .bl _,.obj _ _ _=>rfl
 | .bl _,.cls _=>rfl
 | .bl _,.xc _ _=>rfl
 | .bl _,.tup _=>rfl
 | .bl _,.lst _=>rfl
 | .tup _,.non=>rfl
 | .tup _,.int _=>rfl
 | .tup _,.bl _=>rfl
 | .tup _,.str _=>rfl
 | .tup _,.dct _ _=>rfl
 | .tup _,.typ _=>rfl
 | .tup _,.sn _=>rfl
 | .tup _,.obj _ _ _=>rfl
 | .tup _,.cls _=>rfl
 | .tup _,.xc _ _=>rfl
 | .tup _,.lst _=>rfl
theorem yO:∀l m:List D,l.length=m.length->kP true l m=l
 | [],[],_=>rfl
 | x::l,y::m,h=>by
  show pj true x y::kP true l m=x::l
  rw[sO x y,yO l m (by simpa using h)]
 | [],_::_,h=>by cases h
 | _::_,[],h=>by cases h
end
mutual
theorem sP:∀x y:D,pj false x y=y
 | .int _,.int _=>rfl
 | .bl _,.bl _=>rfl
 | .tup l,.tup m=>by
  show(if l.length=m.length then D.tup (kP false l m)else cond false (.tup l) (.tup m))=.tup m
  split
  ·rename_i h;rw[yP l m h]
  ·rfl
 | .non,_=>rfl
 | .str _,_=>rfl
 | .dct _ _,_=>rfl
 | .lst _,_=>rfl
 | .typ _,_=>rfl
 | .sn _,_=>rfl
 | .obj _ _ _,_=>rfl
 | .cls _,_=>rfl
 | .xc _ _,_=>rfl
 | .int _,.non=>rfl
 | .int _,.bl _=>rfl
 | .int _,.str _=>rfl
 | .int _,.dct _ _=>rfl
 | .int _,.typ _=>rfl
 | .int _,.sn _=>rfl
 | .int _,.obj _ _ _=>rfl
 | .int _,.cls _=>rfl
 | .int _,.xc _ _=>rfl
 | .int _,.tup _=>rfl
 | .int _,.lst _=>rfl
 | .bl _,.non=>rfl
 | .bl _,.int _=>rfl
 | .bl _,.str _=>rfl
 | .bl _,.dct _ _=>rfl
 | .bl _,.typ _=>rfl
 | .bl _,.sn _=>rfl
 | .bl _,.obj _ _ _=>rfl
 | .bl _,.cls _=>rfl
 | .bl _,.xc _ _=>rfl
 | .bl _,.tup _=>rfl
 | .bl _,.lst _=>rfl
 | .tup _,.non=>rfl
 | .tup _,.int _=>rfl
 | .tup _,.bl _=>rfl
 | .tup _,.str _=>rfl
 | .tup _,.dct _ _=>rfl
 | .tup _,.typ _=>rfl
 | .tup _,.sn _=>rfl
 | .tup _,.obj _ _ _=>rfl
 | .tup _,.cls _=>rfl
 | .tup _,.xc _ _=>rfl
 | .tup _,.lst _=>rfl
theorem yP:∀l m:List D,l.length=m.length->kP false l m=m
 | [],[],_=>rfl
 | x::l,y::m,h=>by
  show pj false x y::kP false l m=y::m
  rw[sP x y,yP l m (by simpa using h)]
 | [],_::_,h=>by cases h
 | _::_,[],h=>by cases h
end
theorem Cr:y0 true k j=k:=by unfold y0;split<;>rfl
theorem Cs:y0 false k j=j:=by
 unfold y0;split
 ·assumption
 ·rfl
theorem vG{r s:R1}{d:D×Nat}(h:CA t r s=.ok d l)(hp:aE l):∃m,(if t=true then r else s)=.ok d m/\aE m:=by
 unfold CA at h
 split at h
 ·cases t with
  | true=>cases h
  | false=>exact⟨l,h,hp⟩
 ·rename_i p m
  split at h
  ·cases t with
   | true=>exact⟨l,h,hp⟩
   | false=>cases h
  ·rename_i q n
   cases h
   obtain⟨p1,p2⟩:=dH.mp hp
   cases t with
   | true=>exact⟨m,by rw[sO,Cr];rfl,nV p1 rfl⟩
   | false=>exact⟨n,by rw[sP,Cs];rfl,nV p2 rfl⟩
theorem lO{p:D×Nat}{f:Bool->Rs α}{a:α}(h:jG p f=.ok a l):∃b,p.1=.bl b/\f b=.ok a l:=by
 unfold jG at h
 split at h
 ·rename_i b e;exact⟨b,e,h⟩
 ·cases h
theorem A9{p:D×Nat}{f:Int->R1}{a:D×Nat}(h:jR p f=.ok a l):∃b,p.1=.int b/\f b=.ok a l:=by
 unfold jR at h
 split at h
 ·rename_i b e;exact⟨b,e,h⟩
 ·cases h
structure Ih(Φ:Fx)(n:Nat):Prop where
 e:∀(e:Expr) {it:Bool} {sc:Scope} {ρ:ae} {p:D×Nat} {l:List Prop} {X:Cx},sizeOf e<n->au Φ e it sc ρ=.ok p l->aE l->aO Φ X sc->fT X ρ e it p.1 p.2
 es:∀(es:List Expr) {sc:Scope} {ρ:ae} {p:List D×Nat} {l:List Prop} {X:Cx},sizeOf es<n->bi Φ es sc ρ=.ok p l->aE l->aO Φ X sc->AD X ρ es p.1 p.2
 b:∀(op:BoolOp) (es:List Expr) {sc:Scope} {ρ:ae} {b:Bool} {l:List Prop} {X:Cx},sizeOf es<n->dQ Φ op es sc ρ=.ok b l->aE l->aO Φ X sc->dk X ρ op es b
 o:∀(e:Option Expr) {sc:Scope} {ρ:ae} {o:Option Int} {l:List Prop} {X:Cx},sizeOf e<n->k9 Φ e sc ρ=.ok o l->aE l->aO Φ X sc->OD X ρ e o
theorem ba{a b:Nat}(h:a<b)(hs:b<n+1):a<n:=Nat.lt_of_lt_of_le h (Nat.le_of_lt_succ hs)
section
variable{Φ:Fx}{n:Nat}{it:Bool}{sc:Scope}{ρ:ae}{r:D×Nat}{l:List Prop}{X:Cx}
theorem Dr(h:jQ Φ x sc ρ=.ok r l)(G:aO Φ X sc):fT X ρ (.Name x pos) it r.1 r.2:=by
 unfold jQ at h
 split at h
 ·rename_i hx
  split at h
  ·rename_i hg
   split at h
   ·rename_i d hd;cases h;exact bS (IN G hd hg hx) (fun _=>rfl)
   ·split at h
    ·rename_i T hT;cases h;exact bS (II G hT hg) (fun _=>rfl)
    ·cases h
  ·split at h
   ·rename_i p hl
    unfold mk at h;cases h
    exact bS (vQ (o:=p.2) hl hx) (fun _=>rfl)
   ·cases h
 ·cases h
theorem F8(I:Ih Φ n){b:Expr}{op:Operator}(hs:sizeOf (Expr.BinOp a op b pos)<n+1)(h:au Φ (.BinOp a op b pos) it sc ρ=.ok r l)(hp:aE l)(G:aO Φ X sc):fT X ρ (.BinOp a op b pos) it r.1 r.2:=by
 obtain⟨p,l1,l2,h1,p1,h,p2⟩:=aQ (show Rs.bnd _ _=_ from h) hp
 obtain⟨q,l3,l4,h2,p3,h,p4⟩:=aQ h p2
 exact bS (oh ((I.e a (ba (by simp<;>omega) hs) h1 p1 G).ed rfl) ((I.e b (ba (by simp<;>omega) hs) h2 p3 G).ed rfl) h p4) (fun _=>rfl)
theorem Kv(I:Ih Φ n){op:UnaryOp}(hs:sizeOf (Expr.UnaryOp op a pos)<n+1)(h:au Φ (.UnaryOp op a pos) it sc ρ=.ok r l)(hp:aE l)(G:aO Φ X sc):fT X ρ (.UnaryOp op a pos) it r.1 r.2:=by
 obtain⟨p,l1,l2,h1,p1,h,p2⟩:=aQ (show Rs.bnd _ _=_ from h) hp
 split at h
 ·rename_i z hu
  cases h
  have c:=I.e a (ba (by simp<;>omega) hs) h1 p1 G
  refine .of (Lw (c.ed rfl) hu) fun b hb=>?_
  have hb:z=.bl b:=hb
  subst hb
  unfold xV at hu
  split at hu
  ·cases hu
  ·rename_i e;cases hu;exact FU (c.td rfl _ e)
  ·cases hu
 ·cases h
theorem F7(I:Ih Φ n){b:Expr}(hs:sizeOf (Expr.Compare a [op] [b] pos)<n+1)(h:au Φ (.Compare a [op] [b] pos) it sc ρ=.ok r l)(hp:aE l)(G:aO Φ X sc):fT X ρ (.Compare a [op] [b] pos) it r.1 r.2:=by
 obtain⟨p,l1,l2,h1,p1,h,p2⟩:=aQ (show Rs.bnd _ _=_ from h) hp
 obtain⟨q,l3,l4,h2,p3,h,p4⟩:=aQ h p2
 obtain⟨z,l5,l6,hc,p5,h,p6⟩:=aQ h p4
 cases h
 have ca:=(I.e a (ba (by simp<;>omega) hs) h1 p1 G).ed rfl
 have cb:=(I.e b (ba (by simp<;>omega) hs) h2 p3 G).ed rfl
 exact .of (zu G.room ca cb hc p5 (CP h2)) fun b' hb'=>by cases hb';exact x5 G.room ca cb hc p5 (CP h2)
theorem Ax(I:Ih Φ n){b:Expr}(hs:sizeOf (Expr.Compare a [op,op2] [b,c] pos)<n+1)(h:au Φ (.Compare a [op,op2] [b,c] pos) it sc ρ=.ok r l)(hp:aE l)(G:aO Φ X sc):fT X ρ (.Compare a [op,op2] [b,c] pos) it r.1 r.2:=by
 obtain⟨p,l1,l2,h1,p1,h,p2⟩:=aQ (show Rs.bnd _ _=_ from h) hp
 obtain⟨q,l3,l4,h2,p3,h,p4⟩:=aQ h p2
 obtain⟨t,l5,l6,h3,p5,h,p6⟩:=aQ h p4
 obtain⟨x,y,z,r1,r2,e1,e2,e3,k1,k2,rfl⟩:=Fj h
 have ca:=(I.e a (ba (by simp<;>omega) hs) h1 p1 G).ed rfl
 have cb:=(I.e b (ba (by simp<;>omega) hs) h2 p3 G).ed rfl
 have cc:=(I.e c (ba (by simp<;>omega) hs) h3 p5 G).ed rfl
 rw[e1]at ca
 rw[e2]at cb
 rw[e3]at cc
 exact .of (Bj G.room ca cb cc k1 k2 (CP h3)) fun b' hb'=>by cases hb';exact Av G.room ca cb cc k1 k2 (CP h3)
theorem Kw(I:Ih Φ n){b:Expr}(hs:sizeOf (Expr.IfExp c a b pos)<n+1)(h:au Φ (.IfExp c a b pos) it sc ρ=.ok r l)(hp:aE l)(G:aO Φ X sc):fT X ρ (.IfExp c a b pos) it r.1 r.2:=by
 obtain⟨p,l1,l2,h1,p1,h,p2⟩:=aQ (show Rs.bnd _ _=_ from h) hp
 obtain⟨t,ht,h⟩:=lO h
 obtain⟨m,he,hm⟩:=vG h p2
 have hc:=(I.e c (ba (by simp<;>omega) hs) h1 p1 G).td rfl t ht
 cases t with
 | true =>
  rw[if_pos rfl]at he
  have ha:=I.e a (ba (by simp<;>omega) hs) he hm G
  refine .of (CI hc (by rw[if_pos rfl];exact ha.ed rfl)) fun b' hb'=>?_
  intro ow pins s σ H Q I ⟨E,q⟩
  refine isTrue_IfExp (aG (hc ow pins s σ H (fun t H1=>t=true/\aw H H1) I ⟨E,fun H1 s1=>⟨rfl,s1⟩⟩) fun t s1 ⟨H1,I1,e1,s1'⟩=>?_)
  subst e1
  exact ha.td rfl b' hb' ow pins s1 σ H1 Q I1 ⟨E.same s1',fun H2 s2=>q H2 (s1'.trans s2)⟩
 | false =>
  rw[if_neg Bool.false_ne_true]at he
  have hb:=I.e b (ba (by simp<;>omega) hs) he hm G
  refine .of (CI hc (by rw[if_neg Bool.false_ne_true];exact hb.ed rfl)) fun b' hb'=>?_
  intro ow pins s σ H Q I ⟨E,q⟩
  refine isTrue_IfExp (aG (hc ow pins s σ H (fun t H1=>t=false/\aw H H1) I ⟨E,fun H1 s1=>⟨rfl,s1⟩⟩) fun t s1 ⟨H1,I1,e1,s1'⟩=>?_)
  subst e1
  exact hb.td rfl b' hb' ow pins s1 σ H1 Q I1 ⟨E.same s1',fun H2 s2=>q H2 (s1'.trans s2)⟩
theorem nA{r:D×Nat}(h:au Φ e it sc ρ=.ok r l):eg e:=by
 cases e<;>first|(intro _ _;rfl)|cases h
theorem B6(I:Ih Φ n){i:Expr}(hs:sizeOf (Expr.Subscript a i pos)<n+1)(h:((au Φ a false sc ρ).bnd fun p=>(au Φ i false sc ρ).bnd fun q=>mz p q)=.ok r l)(hp:aE l)(G:aO Φ X sc):fT X ρ (.Subscript a i pos) it r.1 r.2:=by
 obtain⟨p,l1,l2,h1,p1,h,p2⟩:=aQ h hp
 obtain⟨q,l3,l4,h2,p3,h,p4⟩:=aQ h p2
 exact bS (IJ ((I.e a (ba (by simp<;>omega) hs) h1 p1 G).ed rfl) ((I.e i (ba (by simp<;>omega) hs) h2 p3 G).ed rfl) (nA h2) h) (fun _=>rfl)
theorem Aw(I:Ih Φ n)(hs:sizeOf (Expr.Subscript a (.Slice lo hi none p2) pos)<n+1)(h:au Φ (.Subscript a (.Slice lo hi none p2) pos) it sc ρ=.ok r l)(hp:aE l)(G:aO Φ X sc):fT X ρ (.Subscript a (.Slice lo hi none p2) pos) it r.1 r.2:=by
 obtain⟨p,l1,l2,h1,p1,h,q2⟩:=aQ (show Rs.bnd _ _=_ from h) hp
 obtain⟨q,l3,l4,h2,p3,h,p4⟩:=aQ h q2
 obtain⟨q',l5,l6,h3,p5,h,p6⟩:=aQ h p4
 exact bS (G.slf X ρ a lo hi p2 pos p.1 r.1 q q' p.2 r.2 l6 ((I.e a (ba (by simp<;>omega) hs) h1 p1 G).ed rfl) (I.o lo (ba (by simp<;>omega) hs) h2 p3 G) (I.o hi (ba (by simp<;>omega) hs) h3 p5 G) h p6) (fun _=>rfl)
theorem F6(I:Ih Φ n){i:Expr}(hs:sizeOf (Expr.Subscript a i pos)<n+1)(h:au Φ (.Subscript a i pos) it sc ρ=.ok r l)(hp:aE l)(G:aO Φ X sc):fT X ρ (.Subscript a i pos) it r.1 r.2:=by
 cases i with
 | Slice lo hi st p2 =>
  cases st with
  | none=>exact Aw I hs h hp G
  | some e=>exact B6 I hs h hp G
 | _=>exact B6 I hs h hp G
theorem Ds(I:Ih Φ n)(hs:sizeOf args<n)(hf:sc.names.lookup f=some .globalImplicit)(h0:((bi Φ args sc ρ).bnd fun p=>j5 Φ f it p.1 p.2)=.ok r l)(hp:aE l)(G:aO Φ X sc):fT X ρ (.Call (.Name f p) args [] pos) it r.1 r.2:=by
 obtain⟨q,l1,l2,h1,p1,h,p2⟩:=aQ h0 hp
 clear h0
 have ha:=I.es args hs h1 p1 G
 obtain⟨hst,hlen⟩:=b9 h1 p1
 unfold j5 at h
 split at h
 ·rename_i F hF
  obtain⟨d,l3,l4,h2,p3,h,p4⟩:=aQ h p2
  cases h
  exact bS (Fd G hF hf ha hst (fun z=>by subst z;exact List.length_eq_zero_iff.mp hlen.symm) h2 p3) (fun _=>rfl)
 ·split at h
  ·rename_i B hB
   split at hB
   ·rename_i hit
    have hI:=G.itr f B hB
    refine⟨fun z=>(by rw[hit]at z;cases z),fun z=>(by rw[hit]at z;cases z),fun _ tg l' hl ht=>?_⟩
    exact hI.2 X ρ p pos args q.1 q.2 r.1 r.2 l' tg l2 G.calm (G.gl f hf) (G.bl f hI.1) ha hst hlen h p2 hl ht
   ·cases hB
  ·split at h
   ·rename_i B hB
    have hb:=G.blt f B hB
    cases args with
    | nil =>
     have e0:q.1=[]:=List.length_eq_zero_iff.mp hlen.symm
     rw[e0,hb.2.2.2.1]at h;cases h
    | cons e es=>exact bS (IO G hb hf ha hst h p2) (fun _=>rfl)
   ·cases h
theorem Ay(I:Ih Φ n)(hs:sizeOf (Expr.Call (.Name f p) args [] pos)<n+1)(h:au Φ (.Call (.Name f p) args [] pos) it sc ρ=.ok r l)(hp:aE l)(G:aO Φ X sc):fT X ρ (.Call (.Name f p) args [] pos) it r.1 r.2:=by
 rw[iH]at h
 split at h
 ·rename_i hf
  exact Ds I (ba (by simp<;>omega) hs) hf h hp G
 ·cases h
theorem Az(I:Ih Φ n)(hs:sizeOf (Expr.Call (.Attribute a m ap) args [] pos)<n+1)(h:au Φ (.Call (.Attribute a m ap) args [] pos) it sc ρ=.ok r l)(hp:aE l)(G:aO Φ X sc):fT X ρ (.Call (.Attribute a m ap) args [] pos) it r.1 r.2:=by
 rw[jX]at h
 split at h
 ·rename_i hln
  obtain⟨p,l1,l2,h1,p1,h,p2⟩:=aQ h hp
  obtain⟨q,l3,l4,h2,p3,h,p4⟩:=aQ h p2
  obtain⟨hst,hlen⟩:=b9 h2 p3
  have hea:=(I.e a (ba (by simp<;>omega) hs) h1 p1 G).ed rfl
  have hes:=I.es args (ba (by simp<;>omega) hs) h2 p3 G
  obtain⟨x,kx⟩:=p
  unfold wH at h
  dsimp only at h hea
  split at h
  ·rename_i n ns es
   split at h
   ·rename_i hc
    split at h
    ·rename_i F hF
     obtain⟨d,l5,l6,h3,p5,h,p6⟩:=aQ h p4
     cases h
     exact bS (E9 G hF hea hes hst hlen hc.1 hc.2.1 hc.2.2 hln h3 p5) (fun _=>rfl)
    ·cases h
   ·cases h
  ·split at h
   ·rename_i hb
    split at h
    ·rename_i M hM
     exact bS (G.mth m M hM X ρ a args ap pos x kx q.1 q.2 r.1 r.2 l4 G.calm G.room hea hes hst hlen hln hb h p4) (fun _=>rfl)
    ·cases h
   ·cases h
 ·cases h
theorem Dp{q:List D×Nat}{m:List Prop}(hE:∀{ρ:ae} {p:D×Nat} {l:List Prop} {X:Cx},au Φ elt false scope ρ=.ok p l->aE l->aO Φ X scope->fT X ρ elt false p.1 p.2)
    (hB:∀{ρ:ae} {b:Bool} {l:List Prop} {X:Cx},dQ Φ .And ifs scope ρ=.ok b l->aE l->aO Φ X scope->dk X ρ .And ifs b) (hc:oC sc scope=true) (G:aO Φ X sc)
    (h:gD (fun d=>match bF scope tg d (flt scope ρ)with
            | none=>.st
            | some ρ'=>(dQ Φ .And ifs scope ρ').bnd fun b=>cond b ((au Φ elt false scope ρ').bnd fun r=>.ok (some r) []) (.ok none [])) ds=.ok q m) (hp:aE m) (hj:q.2<=1) :
    ∃f:D->Option D,q.1=ds.filterMap f/\∀cl C s H fp,∀d∈ds,lP (kW X scope cl C (scope.names.map (·.1)) s H fp) (flt scope ρ) tg ifs elt q.2 d (f d):=by
  generalize hst:(fun d=>match bF scope tg d (flt scope ρ)with
            | none=>.st
            | some ρ'=>(dQ Φ .And ifs scope ρ').bnd fun b=>cond b ((au Φ elt false scope ρ').bnd fun r=>.ok (some r) []) (.ok none []):D->Rs (Option (D×Nat)))=step at h
  obtain⟨c1,c2,c3⟩:=t3 h hp
  refine⟨_,c2,fun cl C s H fp d hd=>?_⟩
  have G':=EC (cl:=cl) (C:=C) (s:=s) (H:=H) (fp:=fp) G hc
  obtain⟨x,lx,hx,px⟩:=c1 d hd
  have c3:=c3 hj d hd
  have hs:=congrFun hst d
  unfold rk
  rw[hx]
  split at hs
  . rw[<- hs]at hx;cases hx
  . rename_i ρ' hb
    have gd:=rB G' hb
    have ext:∀x y,flt scope ρ x=some y->ρ' x=some y:=fun x y hxy=>Aa hb x y (jV hxy).2 hxy
    have hx0:=hx
    rw[<- hs]at hx
    obtain⟨b,l3,l4,h2,p3,hx,p4⟩:=aQ hx px
    have ts:=(hB h2 p3 G').ts rfl
    cases b with
    | false =>
      cases hx
      exact⟨ρ',false,gd,ext,ts,rfl⟩
    | true =>
      rw[cond_true]at hx
      obtain⟨z,l5,l6,h3,p5,hx,p6⟩:=aQ hx p4
      cases hx
      exact⟨ρ',true,gd,ext,ts,rfl,((hE h3 p5 G').ed rfl).up (c3 z lx hx0) hj⟩
theorem vc(I:Ih Φ n)(hs:sizeOf (Expr.ListComp elt [⟨tg,iter,ifs,0⟩] scope pos)<n+1)(h:au Φ (.ListComp elt [⟨tg,iter,ifs,0⟩] scope pos) it sc ρ=.ok r l)(hp:aE l)(G:aO Φ X sc) :
  ∃ds f k,(ax ds=true\/k<=1)/\r.2<=1/\ds.length<sizeLine/\gU X.env scope (scope.names.map (·.1))/\(∀x d o,flt scope ρ x=some (d,o)->x∈scope.names.map (·.1))/\IE X ρ tg iter ds k /\
   (∀cl C s H fp,∀d∈ds,lP (kW X scope cl C (scope.names.map (·.1)) s H fp) (flt scope ρ) tg ifs elt r.2 d (f d))/\(∀x,foldedSetIterable iter X.env x=pure x)/\r.1=.lst (ds.filterMap f):=by
 rw[pH]at h
 split at h
 ·rename_i hc
  obtain⟨p,l1,l2,h1,p1,h,p2⟩:=aQ h hp
  split at h
  ·rename_i ds hd
   split at h
   ·rename_i ht
    obtain⟨u0,l7,l8,h7,p7,h,p8⟩:=aQ h p2
    cases h7
    have hl:=And.intro p7.1 p7.2.1
    obtain⟨q,l3,l4,h2,p3,h,p4⟩:=aQ h p8
    split at h
    ·rename_i hj
     cases h
     obtain⟨f,e1,t⟩:=Dp (fun a b c=>I.e elt (by first|omega|(simp at *;omega)) a b c) (fun a b c=>I.b .And ifs (by first|omega|(simp at *;omega)) a b c) hc G h2 p3 hj
     refine⟨ds,f,p.2,hl.2,hj,Nat.lt_of_le_of_lt hl.1 qt,zB G hc,fun x d o hx=>nE (jV hx).2,(I.e iter (by first|omega|(simp at *;omega)) h1 p1 G).ie rfl tg ds hd ht,t,qz h1,by rw[e1]⟩
    ·cases h
   ·cases h
  ·cases h
 ·cases h
theorem pw{gens:List Comprehension}(h:au Φ (.ListComp elt gens scope pos) it sc ρ=.ok r l):∃tg iter ifs,gens=[⟨tg,iter,ifs,0⟩]:=by
 match gens,h with
 | [⟨tg,iter,ifs,0⟩],h=>exact⟨_,_,_,rfl⟩
 | [],h=>cases h
 | ⟨_,_,_,.ofNat (n+1)⟩::r,h=>cases r<;>cases h
 | ⟨_,_,_,.negSucc n⟩::_,h=>cases h
 | ⟨_,_,_,0⟩::_::_,h=>cases h
theorem Lr(I:Ih Φ n)(e:Expr)(hs:sizeOf e<n+1)(h:au Φ e it sc ρ=.ok r l)(hp:aE l)(G:aO Φ X sc):fT X ρ e it r.1 r.2:=by
 cases e with
 | Constant c k p =>
  replace h:(match CN c with|some d=>.ok (d,0) []|none=>.st:R1)=.ok r l:=h
  split at h
  ·rename_i d hc;cases h;exact bS (tS hc) (fun _=>rfl)
  ·cases h
 | Name x p=>exact Dr h G
 | BinOp a op b p=>exact F8 I hs h hp G
 | UnaryOp op a p=>exact Kv I hs h hp G
 | BoolOp op es p =>
  rw[pI]at h
  split at h
  ·cases h
  ·rename_i hne
   obtain⟨b,l1,l2,h1,p1,h,p2⟩:=aQ h hp
   cases h
   have ne:es≠[]:=fun z=>hne (by rw[z];rfl)
   have c:=I.b op es (ba (by simp<;>omega) hs) h1 p1 G
   exact .of (c.ed ne p) fun b' hb'=>by cases hb';exact fun ow=>(c.tw ne p ow).pt
 | Compare a ops bs p =>
  match ops,bs,hs,h with
  | [op],[b],hs,h=>exact F7 I hs h hp G
  | [],bs,_,h=>cases h
  | [op],[],_,h=>cases h
  | [op],_::_::_,_,h=>cases h
  | [op,op2],[b,c],hs,h=>exact Ax I hs h hp G
  | [_,_],[],_,h=>cases h
  | [_,_],[_],_,h=>cases h
  | [_,_],_::_::_::_,_,h=>cases h
  | _::_::_::_,bs,_,h=>cases h
 | IfExp c a b p=>exact Kw I hs h hp G
 | Tuple es k p =>
  obtain⟨q,l1,l2,h1,p1,h,p2⟩:=aQ (show Rs.bnd _ _=_ from h) hp
  split at h
  ·rename_i hl
   unfold mk at h;cases h
   exact bS (Bh (I.es es (ba (by simp<;>omega) hs) h1 p1 G) hl) (fun _=>rfl)
  ·cases h
 | List es p =>
  obtain⟨q,l1,l2,h1,p1,h,p2⟩:=aQ (show Rs.bnd _ _=_ from h) hp
  split at h
  ·rename_i hl
   cases h
   exact bS (Fb (I.es es (ba (by simp<;>omega) hs) h1 p1 G) hl.2 hl.1) (fun _=>rfl)
  ·cases h
 | Attribute a f p =>
  cases a with
  | Name x pn =>
   obtain⟨q,l1,l2,h1,p1,h,p2⟩:=aQ (show Rs.bnd _ _=_ from h) hp
   have hea:=(I.e (.Name x pn) (ba (by simp<;>omega) hs) (it:=false) h1 p1 G).ed rfl
   obtain⟨d,kd⟩:=q
   unfold Io at h
   dsimp only at h hea
   split at h
   ·rename_i n ns ds
    split at h
    ·rename_i hf
     split at h
     ·rename_i e hl
      cases h
      exact bS (IM G hf hea rfl hl) (fun _=>rfl)
     ·cases h
    ·cases h
   ·split at h
    ·rename_i hf
     subst hf
     cases h
     exact bS (vP hea rfl) (fun _=>rfl)
    ·cases h
   ·cases h
  | _=>cases h
 | Dict ks vs p =>
  match ks,vs,h with
  | [],[],h=>cases h
  | _::_,_,h=>cases h
  | [],_::_,h=>cases h
 | Subscript a i p=>exact F6 I hs h hp G
 | Call f args kws p =>
  cases f with
  | Name f fp =>
   cases kws with
   | nil=>exact Ay I hs h hp G
   | cons _ _=>cases h
  | Attribute a m ap =>
   cases kws with
   | nil=>exact Az I hs h hp G
   | cons _ _=>cases h
  | _=>cases h
 | ListComp elt gens scope p =>
  obtain⟨tg,iter,ifs,rfl⟩:=pw h
  obtain⟨ds,f,k,a1,a2,a3,a4,a5,a6,a7,a8,a9⟩:=vc I hs h hp G
  rw[a9]
  exact bS (Fc G.calm G.nd a1 a2 a3 a4 a5 a6 a7 a8) (fun _=>rfl)
 | _=>cases h
theorem Iz(I:Ih Φ n)(es:List Expr){r:List D×Nat}(hs:sizeOf es<n+1)(h:bi Φ es sc ρ=.ok r l)(hp:aE l)(G:aO Φ X sc):AD X ρ es r.1 r.2:=by
 cases es with
 | nil=>cases h;exact lm
 | cons e es =>
  obtain⟨p,l1,l2,h1,p1,h,p2⟩:=aQ (show Rs.bnd _ _=_ from h) hp
  obtain⟨q,l3,l4,h2,p3,h,p4⟩:=aQ h p2
  cases h
  exact jI ((I.e e (ba (by simp<;>omega) hs) h1 p1 G).ed rfl) (I.es es (ba (by simp<;>omega) hs) h2 p3 G) (aD (ia h1))
theorem ui{c:Bool}{r:Rs Bool}(h:xg b r=.ok c l)(hp:aE l):(b=true/\∃m,r=.ok c m/\aE m)\/(b=false/\c=false):=by
 unfold xg at h
 split at h
 ·rename_i c' m
  cases h
  cases b with
  | true=>exact .inl ⟨rfl,m,rfl,nV hp rfl⟩
  | false=>exact .inr ⟨rfl,rfl⟩
 ·cases b with
  | true=>cases h
  | false=>cases h;exact .inr ⟨rfl,rfl⟩
theorem vm{c:Bool}{r:Rs Bool}(h:Ch b r=.ok c l)(hp:aE l):(b=false/\∃m,r=.ok c m/\aE m)\/(b=true/\c=true):=by
 unfold Ch at h
 split at h
 ·rename_i c' m
  cases h
  cases b with
  | false=>exact .inl ⟨rfl,m,rfl,nV hp rfl⟩
  | true=>exact .inr ⟨rfl,rfl⟩
 ·cases b with
  | false=>cases h
  | true=>cases h;exact .inr ⟨rfl,rfl⟩
theorem IB(I:Ih Φ n)(op:BoolOp)(es:List Expr)(hs:sizeOf es<n+1)(h:dQ Φ op es sc ρ=.ok b l)(hp:aE l)(G:aO Φ X sc):dk X ρ op es b:=by
 cases es with
 | nil =>
  cases op with
  | And=>cases h;exact⟨fun z=>absurd rfl z,fun z=>absurd rfl z,fun _=>x4⟩
  | Or=>cases h;exact⟨fun z=>absurd rfl z,fun z=>absurd rfl z,fun z=>(by cases z)⟩
 | cons e es =>
  cases op with
  | And =>
   obtain⟨p,l1,l2,h1,p1,h,p2⟩:=aQ (show Rs.bnd _ _=_ from h) hp
   obtain⟨b',hb,h⟩:=lO h
   have c:=I.e e (ba (by simp<;>omega) hs) h1 p1 G
   have ce:=c.ed rfl
   rw[hb]at ce
   have ct:=c.td rfl b' hb
   rcases ui h p2 with⟨rfl,m,h,pm⟩|⟨rfl,rfl⟩
   ·cases es with
    | nil=>cases h;exact fw ce ct
    | cons e2 es=>exact uM ce ct (I.b .And (e2::es) (ba (by simp<;>omega) hs) h pm G)
   ·cases es with
    | nil=>exact fw ce ct
    | cons e2 es=>exact uc ce ct (fun pos=>⟨_,mI⟩) (fun pos=>⟨_,mG⟩)
  | Or =>
   obtain⟨p,l1,l2,h1,p1,h,p2⟩:=aQ (show Rs.bnd _ _=_ from h) hp
   obtain⟨b',hb,h⟩:=lO h
   have c:=I.e e (ba (by simp<;>omega) hs) h1 p1 G
   have ce:=c.ed rfl
   rw[hb]at ce
   have ct:=c.td rfl b' hb
   rcases vm h p2 with⟨rfl,m,h,pm⟩|⟨rfl,rfl⟩
   ·cases es with
    | nil=>cases h;exact fw ce ct
    | cons e2 es=>exact oE ce ct (I.b .Or (e2::es) (ba (by simp<;>omega) hs) h pm G)
   ·cases es with
    | nil=>exact fw ce ct
    | cons e2 es=>exact mq ce ct (fun pos=>⟨_,mI⟩) (fun pos=>⟨_,mG⟩)
theorem IA(I:Ih Φ n)(e:Option Expr){o:Option Int}(hs:sizeOf e<n+1)(h:k9 Φ e sc ρ=.ok o l)(hp:aE l)(G:aO Φ X sc):OD X ρ e o:=by
 cases e with
 | none=>cases h;exact Eb
 | some e =>
  obtain⟨p,l1,l2,h1,p1,h,p2⟩:=aQ (show Rs.bnd _ _=_ from h) hp
  have c:=(I.e e (ba (by simp<;>omega) hs) h1 p1 G).ed rfl
  split at h
  ·rename_i i hi
   cases h
   rw[hi]at c
   exact Ea c
  ·cases h
end
theorem iD(Φ:Fx):∀n,Ih Φ n
 | 0=>⟨fun _ _ _ _ _ _ _ h=>absurd h (Nat.not_lt_zero _),fun _ _ _ _ _ _ h=>absurd h (Nat.not_lt_zero _),fun _ _ _ _ _ _ _ h=>absurd h (Nat.not_lt_zero _),fun _ _ _ _ _ _ h=>absurd h (Nat.not_lt_zero _)⟩
 | n+1=>⟨fun e _ _ _ _ _ _ hs h hp G=>Lr (iD Φ n) e hs h hp G,fun e _ _ _ _ _ hs h hp G=>Iz (iD Φ n) e hs h hp G,fun op e _ _ _ _ _ hs h hp G=>IB (iD Φ n) op e hs h hp G,fun e _ _ _ _ _ hs h hp G=>IA (iD Φ n) e hs h hp G⟩
theorem Lu(e:Expr){p:D×Nat}(h:au Φ e it sc ρ=.ok p l)(hp:aE l)(G:aO Φ X sc):fT X ρ e it p.1 p.2:=(iD Φ _).e e (Nat.lt_succ_self _) h hp G
theorem gM(es:List Expr){p:List D×Nat}(h:bi Φ es sc ρ=.ok p l)(hp:aE l)(G:aO Φ X sc):AD X ρ es p.1 p.2:=(iD Φ _).es es (Nat.lt_succ_self _) h hp G
structure aS(ow:Ow)(H:Hp)(ow':Ow)(H':Hp):Prop where
 keep:∀a o,H a=some o->(nm o\/ow a=none)->H' a=some o
 low:∀a o,H a=some o->ow a=none->ow' a=none
theorem aS.refl(ow:Ow)(H:Hp):aS ow H ow H:=⟨fun _ _ h _=>h,fun _ _ _ h=>h⟩
theorem aS.same(s:aw H H'):aS ow H ow H':=⟨fun a o h _=>s a o h,fun _ _ _ h=>h⟩
theorem aS.trans{ow1 ow2:Ow}{H2:Hp}(a:aS ow H ow1 H1)(b:aS ow1 H1 ow2 H2):aS ow H ow2 H2 :=
 ⟨fun x o h c=>b.keep x o (a.keep x o h c) (c.imp id fun z=>a.low x o h z),fun x o h z=>b.low x o (a.keep x o h (.inr z)) (a.low x o h z)⟩
def bL(H0:Hp)(ow:Ow)(H:Hp):Prop:=∀a o,H0 a=some o->H a=some o/\ow a=none
theorem bL.keep(b:bL H0 ow H)(k:aS ow H ow' H'):bL H0 ow' H':=fun a o h=>let ⟨h1,h2⟩:=b a o h;⟨k.keep a o h1 (.inr h2),k.low a o h1 h2⟩
theorem bL.sm(b:bL H0 ow H):aw H0 H:=fun a o h=>(b a o h).1
variable{X:Cx}
def m8(X:Cx)(H0:Hp)(ow:Ow)(H:Hp)(fl:Fl)(D:jh):Prop :=
 match fl with
 | .nx ρ => ∀ow' σ' H',aH X ow' H' σ' ρ->σ'.length=X.N.length->aS ow H ow' H'->D.nx σ' H'
 | .bk ρ => ∀ow' σ' H',aH X ow' H' σ' ρ->σ'.length=X.N.length->aS ow H ow' H'->D.bk σ' H'
 | .ct ρ => ∀ow' σ' H',aH X ow' H' σ' ρ->σ'.length=X.N.length->aS ow H ow' H'->D.ct σ' H'
 | .rt d => ∀v H',aw H0 H'->af X.K H' (fun a b=>b=true/\H0 a=none) d v->D.rt v H'
theorem m8.keep{D:jh}(p:m8 X H0 ow H fl D)(k:aS ow H ow' H'):m8 X H0 ow' H' fl D:=by
 cases fl with
 | nx ρ=>exact fun ow2 σ2 H2 a b c=>p ow2 σ2 H2 a b (k.trans c)
 | bk ρ=>exact fun ow2 σ2 H2 a b c=>p ow2 σ2 H2 a b (k.trans c)
 | ct ρ=>exact fun ow2 σ2 H2 a b c=>p ow2 σ2 H2 a b (k.trans c)
 | rt d=>exact p
def uX(X:Cx)(H0:Hp)(ρ:ae)(fl:Fl):TS:=fun D σ H => ∃ow,aH X ow H σ ρ/\σ.length=X.N.length/\bL H0 ow H/\m8 X H0 ow H fl D
def SD(X:Cx)(H0:Hp)(ρ:ae)(st:Stmt)(fl:Fl):Prop:=PS X st (uX X H0 ρ fl)
def fR(X:Cx)(H0:Hp)(ρ:ae)(st:List Stmt)(fl:Fl):Prop:=c5 X st (uX X H0 ρ fl)
theorem Dt:fR X H0 ρ [] (.nx ρ):=fun pins s σ H D I ⟨ow,E,hl,B,q⟩=>DM pins s σ H D I (q ow σ H E hl (aS.refl _ _))
theorem eM{ρ1:ae}(h1:SD X H0 ρ st (.nx ρ1))(h2:fR X H0 ρ1 ss fl):fR X H0 ρ (st::ss) fl:=fun pins s σ H D I ⟨ow,E,hl,B,q⟩ =>
 cD h1 h2 pins s σ H D I ⟨ow,E,hl,B,fun ow' σ' H' E' hl' k=>⟨ow',E',hl',B.keep k,q.keep k⟩⟩
theorem jP(h1:SD X H0 ρ st fl)(hf:∀ρ',fl ≠ .nx ρ'):fR X H0 ρ (st::ss) fl:=fun pins s σ H D I ⟨ow,E,hl,B,q⟩ =>
 cD h1 iR pins s σ H D I ⟨ow,E,hl,B,by
  cases fl with
  | nx ρ'=>exact absurd rfl (hf ρ')
  | bk ρ'=>exact q
  | ct ρ'=>exact q
  | rt d=>exact q⟩
theorem yr(h:ED X ρ e d k)(hk:k=0\/k=2):SD X H0 ρ (.Return (some e) pos) (.rt d):=fun pins s σ H D I ⟨ow,E,hl,B,q⟩ =>
 yB (h ow) pins s σ H D I ⟨E,fun v H1 s1 r1=>q v H1 (B.sm.trans s1) (r1.imp fun a b p=>by
  rcases hk with rfl|rfl
  ·exact⟨p.1,B.sm.free p.2⟩
  ·refine⟨p.1,p.2.elim (fun z=>?_) B.sm.free⟩
   cases e0:H0 a with
   | none=>rfl
   | some o=>exact absurd (B a o e0).2 z)⟩
theorem EW(E:aH X ow H σ ρ):aH X (fun _=>none) H σ (gj ρ):=by
 refine⟨fun x d o h=>?_,fun a z=>absurd rfl z⟩
 unfold gj at h
 cases e:ρ x with
 | none=>rw[e]at h;cases h
 | some y =>
  rw[e]at h
  cases h
  obtain⟨i,v,h1,h2,h3,h4⟩:=E.get x y.1 y.2 e
  exact⟨i,v,h1,h2,h3,h4.imp fun _ _ _ _=>rfl⟩
theorem DB(h:ED X (gj ρ) e d k)(hk:k=0\/k=2):SD X H0 ρ (.Return (some e) pos) (.rt d):=fun pins s σ H D I ⟨ow,E,hl,B,q⟩ =>
 yB (h fun _=>none) pins s σ H D I ⟨EW E,fun v H1 s1 r1=>q v H1 (B.sm.trans s1) (r1.imp fun a b p=>by
  rcases hk with rfl|rfl
  ·exact⟨p.1,B.sm.free p.2⟩
  ·exact⟨p.1,p.2.elim (fun z=>absurd rfl z) B.sm.free⟩)⟩
theorem DF(h:ED X ρ e d k)(hc:∃f p args ks cp,e=.Call (.Name f p) args ks cp):SD X H0 ρ (.Expr e pos) (.nx ρ):=fun pins s σ H D I ⟨ow,E,hl,B,q⟩=>by
 obtain⟨f,p,args,ks,cp,rfl⟩:=hc
 exact ii (h ow) rfl pins s σ H D I ⟨E,fun v H1 s1 r1=>q ow σ H1 (E.same s1) hl (aS.same s1)⟩
theorem DA:SD X H0 ρ (.Return none pos) (.rt .non):=fun pins s σ H D I ⟨ow,E,hl,B,q⟩=>DO pins s σ H D I (q .non H B.sm (by rw[af]))
theorem DC:SD X H0 ρ (.Pass pos) (.nx ρ):=fun pins s σ H D I ⟨ow,E,hl,B,q⟩=>DP pins s σ H D I (q ow σ H E hl (aS.refl _ _))
theorem AH:SD X H0 ρ (.Break pos) (.bk ρ):=fun pins s σ H D I ⟨ow,E,hl,B,q⟩=>AN pins s σ H D I (q ow σ H E hl (aS.refl _ _))
theorem DG:SD X H0 ρ (.Continue pos) (.ct ρ):=fun pins s σ H D I ⟨ow,E,hl,B,q⟩=>uC pins s σ H D I (q ow σ H E hl (aS.refl _ _))
theorem wt{a b:List Stmt}(hc:TD X ρ c t)(h:if t=true then fR X H0 ρ a fl else fR X H0 ρ b fl):SD X H0 ρ (.If c a b pos) fl:=by
 cases t with
 | true =>
  intro pins s σ H D I ⟨ow,E,hl,B,q⟩
  exact Cd (hc ow) h iR pins s σ H D I ⟨E,fun H1 s1=>by
   show if true=true then _ else _
   rw[if_pos rfl]
   exact⟨ow,E.same s1,hl,B.keep (aS.same s1),q.keep (aS.same s1)⟩⟩
 | false =>
  intro pins s σ H D I ⟨ow,E,hl,B,q⟩
  exact Cd (hc ow) iR h pins s σ H D I ⟨E,fun H1 s1=>by
   show if false=true then _ else _
   rw[if_neg Bool.false_ne_true]
   exact⟨ow,E.same s1,hl,B.keep (aS.same s1),q.keep (aS.same s1)⟩⟩
theorem pK(hN:X.N.Nodup)(hl:σ.length=X.N.length)(E:aH X ow H σ ρ)(sm:aw H H1)(hi:X.N[i]?=some x)(hv:fy X.env.scope x)(r:af X.K H1 (Kp ow H 0) d v) :
  ∃ow',aH X ow' H1 (σ.set i (some v)) (bz ρ x (d,true))/\aS ow H ow' H1:=by
 classical
 let ow':Ow:=fun a=>if H a=none/\∃o,H1 a=some o then some (some x)else ow a
 have o1:∀a o,H a=some o->ow' a=ow a:=fun a o h=>if_neg (fun z=>by rw[h]at z;cases z.1)
 have E1:aH X ow' H1 σ ρ:=⟨fun y e o h=>by
  obtain⟨j,w,e1,e2,e3,e4⟩:=E.get y e o h
  refine⟨j,w,e1,e2,e3,af.same sm (e4.impH (fun a ob ha p=>?_) fun a p=>?_)⟩
  ·cases o with
   | true=>exact⟨p.1,(o1 a ob ha).trans p.2⟩
   | false=>exact fun z=>(o1 a ob ha).trans (p z)
  ·cases o with
   | true=>cases p.1
   | false=>exact fun z=>(by cases z),fun a ha=>by
  by_cases hz:H a=none/\∃o,H1 a=some o
  ·exact hz.2
  ·have:ow' a=ow a:=if_neg hz
   rw[this]at ha
   exact(E.own.same sm) a ha⟩
 refine⟨ow',dj hN hl E1 hi hv (r.impH (fun a o ha p=>⟨rfl,if_pos ⟨p.2,o,ha⟩⟩) fun a p=>(by cases p.1)),fun a o h _=>sm a o h,fun a o h z=>(o1 a o h).trans z⟩
theorem d9{t:Option Expr}(h:jA e=false):swapsWith e t n env=pure false:=by
 cases e<;>first|rfl|cases h
theorem kG{o:Bool}(G:aO Φ X sc)(hx:ck sc x=true)(h:ED X ρ e d k)(ho:(k=0/\o=true)\/(k=1/\o=false))(hs:swapsWith e (some (.Name x p)) pos.line X.env=pure false) :
  SD X H0 ρ (.Assign [.Name x p] e pos) (.nx (bz ρ x (d,o))):=by
 obtain⟨g1,g2,g3,i,g4⟩:=eQ G hx
 intro pins s σ H D I ⟨ow,E,hl,B,q⟩
 refine ny (i:=i) G.nd g4 g1 (h ow) hs g3 pins s σ H D I ⟨E,fun v H1 s1 r1=>?_⟩
 show D.nx (σ.set i (some v)) H1
 rcases ho with⟨rfl,rfl⟩|⟨rfl,rfl⟩
 ·obtain⟨ow',E',k'⟩:=pK G.nd hl E s1 g4 g2 r1
  exact q ow' _ H1 E' (by rw[List.length_set];exact hl) k'
 ·exact q ow _ H1 (dj G.nd hl (E.same s1) g4 g2 r1) (by rw[List.length_set];exact hl) (aS.same s1)
theorem fH:swapsWithSole [.Tuple es n p] e k env=pure false:=by
 cases e<;>rfl
theorem yb{i:Expr}:swapsWithSole [.Subscript a i p] e k env=pure false:=by
 cases e<;>rfl
def Pk(K:W.Frag)(n:Nat)(t:oM):TG:=fun v σ H Q => ∃a xs,v=.ref a/\cm K H a xs/\xs.length=n/\t xs σ H Q
theorem GQ{t:oM}(hc:X.calm=true)(h:v4 X es t)
  (hn:(assignEach es X.env).length=n) (hst:(assignEach es X.env).findIdx? (·.1)=none):PG X (.Tuple es k pos) (Pk X.K n t):=by
 intro pins s σ H v u Q I r hw
 obtain⟨a,xs,e1,hq,hl,hw⟩:=hw
 subst e1
 cases r
 obtain⟨its,rv,pl,hz⟩:=I.list hq
 have hsz:(assignEach es X.env).length=its.toArray.size:=by simp[hn,<- hl,rv.length]
 rw[assign_Tuple]
 refine wpAny_bind (wpAny_standAt ?_)
 unfold unpack
 rw[hst,hsz]
 refine wpAny_bind (wpAny_holding (W.kun_itemsOf (I.ok.hd hc) pl.isList fun h' hx=>?_))
 have I1:ah X pins σ H { s with heap:=h' }:=I.kept (t':=s.toks) fun b o e=>hx b o (Nat.ne_of_lt (Heap.lt_size e)) e
 exact h pins _ σ H xs _ Q I1 (by simpa using rv) hw
theorem nv(o:fi ow H)(hf:ax ds=true\/k<=1)(r:ai X.K H1 (Kp ow H k) ds vs):ai X.K H1 (fun a b=>b=true->ow a=none) ds vs:=by
 rcases hf with hf|hf
 ·exact r.flat _ hf
 ·exact r.imp fun a b p hb=>by subst hb;exact dY o hf p
theorem lC(G:aO Φ X sc)(ht:qg sc es e=false):swappedStores [.Tuple es n p] e X.env=pure none:=by
 unfold qg at ht
 cases hte:nK e with
 | false=>cases e<;>first|rfl|cases hte
 | true =>
  rw[hte]at ht
  have hc:t8 sc es e=true:=by simpa using ht
  unfold t8 at hc
  split at hc
  ·rename_i x px y py a b m q
   have k1:X.env.kindOf x=some .cell:=G.cc x (by simpa using hc)
   unfold swappedStores
   dsimp only
   split
   ·rfl
   ·split
    ·rfl
    ·rw[if_pos]
     rw[List.filterMap_cons_none (by simp[k1])]
     have:∀l:List Str,l.length<=1->(l.length != [Expr.Name x px,Expr.Name y py].length || l.eraseDups.length != l.length)=true:=fun l hl=>by
      have:(l.length != [Expr.Name x px,Expr.Name y py].length)=true:=by simp;omega
      rw[this];rfl
     exact this _ (Nat.le_trans (List.length_filterMap_le _ _) (Nat.le_refl _))
  ·cases hc
theorem Gk(G:aO Φ X sc)(h:ED X ρ e d k)(hd:hU d=some ds)(hf:ax ds=true\/k<=1)(hb:aT sc es ds ρ=some ρ')(ht:qg sc es e=false) :
  SD X H0 ρ (.Assign [.Tuple es n p] e pos) (.nx ρ'):=by
 obtain⟨t,h1,h2,h3,h4⟩:=kL G hb
 intro pins s σ H D I ⟨ow,E,hl,B,q⟩
 have fin:∀H1 vs,aw H H1->ai X.K H1 (Kp ow H k) ds vs->t vs σ H1 D.nx:=fun H1 vs s1 rl=>h4 ow vs σ H1 D.nx hl (E.same s1) (nv E.own hf rl) fun σ' hl' E'=>q ow σ' H1 E' hl' (aS.same s1)
 rcases ip hd with rfl|rfl
 ·refine kK (h ow) (nB (n:=_) G.calm h1 h2 h3) fH (lC G ht) rfl pins s σ H D I ⟨E,fun v H1 s1 r1=>?_⟩
  obtain⟨a,vs,rfl,hs,rl⟩:=gF r1
  exact⟨a,vs,rfl,hs,rl.length.symm,fin H1 vs s1 rl⟩
 ·refine kK (h ow) (GQ (n:=_) G.calm h1 h2 h3) fH (lC G ht) rfl pins s σ H D I ⟨E,fun v H1 s1 r1=>?_⟩
  obtain⟨a,vs,rfl,hs,rl⟩:=iQ r1
  exact⟨a,vs,rfl,hs,rl.length.symm,fin H1 vs s1 rl⟩
theorem KB{P:bx}{a b:D}(h:ai K H P [a,b] vs):∃x y,vs=[x,y]/\af K H P a x/\af K H P b y:=by
 rw[ai]at h
 obtain⟨x,r,rfl,h1,h⟩:=h
 rw[ai]at h
 obtain⟨y,r,rfl,h2,h⟩:=h
 rw[ai]at h
 subst h
 exact⟨x,y,rfl,h1,h2⟩
theorem DD{pt:Pos}{p:D×Nat}(G:aO Φ X sc)(h:ED X ρ e p.1 p.2)(ho:wA sc es p=true)(ht:qg sc es e=false) :
  SD X H0 ρ (.Assign [.Tuple es n pt] e pos) (.nx (AK es p ρ)):=by
 obtain⟨d,k⟩:=p
 unfold wA at ho
 split at ho
 ·rename_i x px y py d1 d2 e0 e1
  have e0:d=_:=e0
  have e1:k=_:=e1
  subst e0 e1
  simp only[Bool.and_eq_true,Bool.not_eq_true',decide_eq_false_iff_not]at ho
  obtain⟨⟨⟨⟨f1,_⟩,hxy⟩,hx⟩,hy⟩:=ho
  obtain⟨g1,g2,g3,i,g4⟩:=eQ G hx
  obtain⟨j1,j2,j3,j,j4⟩:=eQ G hy
  have hij:i≠j:=fun z=>by subst z;rw[g4]at j4;exact hxy (Option.some.inj j4)
  intro pins s σ H D I ⟨ow,E,hl,B,q⟩
  refine kK (h ow) (nB (n:=2) G.calm (iq (gv (i:=i) G.nd g4 g1 g3) (iq (gv (i:=j) G.nd j4 j1 j3) o9 rfl) rfl) rfl rfl) fH (lC G ht) rfl pins s σ H D I ⟨E,fun v H1 s1 r1=>?_⟩
  obtain⟨a,vs,rfl,hs,rl⟩:=gF r1
  obtain⟨v1,v2,rfl,r2,r3⟩:=KB rl
  refine⟨a,[v1,v2],rfl,hs,rfl,v1,[v2],rfl,v2,[],rfl,rfl,?_⟩
  obtain⟨ow',E',k'⟩:=pK G.nd hl E s1 j4 j2 r3
  have hl':(σ.set j (some v2)).length=X.N.length:=by rw[List.length_set];exact hl
  have E2:=dj (o:=false) G.nd hl' E' g4 g2 (r2.flat _ f1)
  rw[List.set_comm _ _ hij]
  exact q ow' _ H1 E2 (by rw[List.length_set];exact hl') k'
 ·cases ho
theorem wg{y:Str}{b:Expr}(G:aO Φ X sc)(hk:X.env.scope.kind=.function)(h:nC sc x y px py a b=true)(ha:∀x p,a ≠ .Starred x p)(hb:∀x p,b ≠ .Starred x p) :
  swappedStores [.Tuple [.Name x px,.Name y py] n p] (.Tuple [a,b] n2 p2) X.env=pure (some [x,y]):=by
 unfold nC at h
 simp only[Bool.and_eq_true,Bool.not_eq_true',beq_iff_eq,decide_eq_false_iff_not]at h
 obtain⟨⟨⟨⟨⟨h1,h2⟩,h3⟩,h4⟩,h5⟩,h6⟩:=h
 have k1:X.env.kindOf x=some .local:=G.lc x h1
 have k2:X.env.kindOf y=some .local:=G.lc y h2
 have bk:X.env.blockKind=.function:=by unfold Env.blockKind;rw[hk];rfl
 have an:∀f:Expr->Bool,(∀e,(∀x p,e ≠ .Starred x p)->f e=false) -> ¬ ([a,b].any f=true):=fun f hf=>by simp[hf a ha,hf b hb]
 have fm:∀f:Expr->Option Str,f (.Name x px)=some x->f (.Name y py)=some y->[Expr.Name x px,Expr.Name y py].filterMap f=[x,y]:=fun f h1 h2=>by simp[h1,h2]
 have ed:[x,y].eraseDups=[x,y]:=by
  have e1:(!(y==x))=true:=by simp;exact fun z=>h4 z.symm
  rw[List.eraseDups_cons,List.filter_cons_of_pos (p:=fun b => !b==x) e1,List.filter_nil]
  rfl
 unfold swappedStores
 dsimp only
 rw[bk]
 refine(if_neg (by simp)).trans ?_
 refine(if_neg (an _ fun e he=>by cases e<;>first|rfl|exact absurd rfl (he _ _))).trans ?_
 rw[fm _ (by show(if (X.env.kindOf x==some NameKind.local&&px.line==px.line)=true then some x else none)=some x;rw[k1];simp) (by show(if (X.env.kindOf y==some NameKind.local&&py.line==px.line)=true then some y else none)=some y;rw[k2,h3];simp)]
 rw[ed]
 refine(if_neg (by simp)).trans ?_
 rw[h5,h6]
 rfl
theorem Gm{b:Expr}{y:Str}{u v:D}(G:aO Φ X sc)(h:AD X ρ [a,b] [u,v] k)(hf:ax [u,v]=true\/k<=1)(hp:nC sc x y px py a b=true)(ha:∀x p,a ≠ .Starred x p)(hb:∀x p,b ≠ .Starred x p) :
  SD X H0 ρ (.Assign [.Tuple [.Name x px,.Name y py] n p] (.Tuple [a,b] n2 p2) pos) (.nx (bz (bz ρ x (u,false)) y (v,false))):=by
 have hp0:=hp
 unfold nC at hp
 simp only[Bool.and_eq_true,Bool.not_eq_true',beq_iff_eq,decide_eq_false_iff_not]at hp
 obtain⟨⟨⟨⟨⟨l1,l2⟩,_⟩,hxy⟩,_⟩,_⟩:=hp
 obtain⟨g1,g2,g3,i,g4⟩:=eQ (x:=x) G (by unfold ck;rw[l1];rfl)
 obtain⟨j1,j2,j3,j,j4⟩:=eQ (x:=y) G (by unfold ck;rw[l2];rfl)
 have hij:i≠j:=by intro z;subst z;rw[g4]at j4;cases j4;exact hxy rfl
 intro pins s σ H D I ⟨ow,E,hl,B,q⟩
 refine GG (i:=i) (j:=j) G.calm G.nd g4 j4 hij (G.lc x l1) (G.lc y l2) (h ow) (wg G I.ok.kind hp0 ha hb) fH pins s σ H D I ⟨E,fun vs H1 s1 r1=>?_⟩
 have rs:=nv E.own hf r1
 rw[ai]at rs
 obtain⟨v1,r,rfl,rv1,rs⟩:=rs
 obtain⟨v2,rfl,rv2⟩:=rs.only
 refine⟨v1,v2,rfl,?_⟩
 have E1:=dj (o:=false) G.nd hl (E.same s1) g4 g2 rv1
 have hl1:(σ.set i (some v1)).length=X.N.length:=by rw[List.length_set];exact hl
 exact q ow _ H1 (dj (o:=false) G.nd hl1 E1 j4 j2 rv2) (by rw[List.length_set];exact hl1) (aS.same s1)
theorem zt{a:Addr}(E:aH X ow H1 σ ρ)(hi:X.N[i]?=some x)(hs:σ[i]?=some (some (.ref a)))
  (hv:fy X.env.scope x) (ha:H1 a=some (.lst vs)) (ho:ow a=some (some x)) (f:ax l'=true) (r:ai X.K H1 (fun _ _=>True) l' vs') :
  aH X ow (aM H1 a (.lst vs')) σ (bz ρ x (.lst l',true)):=by
 have st:∀{P:bx},(P a true->False)->d7 P P H1 (aM H1 a (.lst vs')):=fun {P} h=>⟨fun b o hb hn=>by rw[ay (fun z=>by subst z;rw[ha]at hb;cases hb;exact hn)];exact hb,fun b ws hb p=>by rw[ay (fun z=>by subst z;exact h p)];exact hb,fun _ _ _ p=>p,fun _ p=>p⟩
 have r':ai X.K (aM H1 a (.lst vs')) (kM ow x true) l' vs':=ai.flat _ f ((r.flat (fun _ _=>False) f).mono (st fun z=>z))
 refine⟨fun y e o h=>?_,fun b hb=>?_⟩
 ·rw[ee]at h
  by_cases hy:y=x
  ·subst hy
   rw[if_pos rfl]at h
   cases h
   exact⟨i,.ref a,hi,hv,hs,by rw[af];exact⟨a,vs',true,rfl,aI,⟨rfl,ho⟩,r'⟩⟩
  ·rw[if_neg hy]at h
   obtain⟨j,w,e1,e2,e3,e4⟩:=E.get y e o h
   refine⟨j,w,e1,e2,e3,e4.mono (st fun p=>?_)⟩
   cases o with
   | true=>have:=p.2;rw[ho]at this;cases this;exact hy rfl
   | false=>have:=p rfl;rw[ho]at this;cases this
 ·by_cases hz:b=a
  ·subst hz;exact⟨_,aI⟩
  ·rw[ay hz];exact E.own b hb
theorem G5{l:List D}(E:aH X ow H σ ρ)(h:ρ x=some (.lst l,true)):∃(i:Nat) (a:Addr) (vs:List V),X.N[i]?=some x/\fy X.env.scope x/\σ[i]?=some (some (.ref a))/\H a=some (.lst vs)/\ow a=some (some x)/\ai X.K H (fun _ _=>True) l vs:=by
 obtain⟨i,v,e1,e2,e3,e4⟩:=E.get x _ _ h
 rw[af]at e4
 obtain⟨a,vs,b,rfl,hl,hp,rl⟩:=e4
 cases hp.1
 exact⟨i,a,vs,e1,e2,e3,hl,hp.2,rl.imp fun _ _ _=>True.intro⟩
theorem wO{a:Addr}(sm:aw H H1)(h0:H a=some (.lst vs))(ho:ow a=some (some x)):aS ow H ow (aM H1 a (.lst vs')) :=
 ⟨fun b o h c=>by
  rw[ay (fun z=>by
   subst z
   rw[h0]at h;cases h
   rcases c with c|c
   ·exact c
   ·rw[ho]at c;cases c)]
  exact sm b o h,fun _ _ _ z=>z⟩
theorem gH(I:ah X pins σ H s){a:Addr}{o:Obj}(h:X.K.lookup a=some o):H a=none:=(I.bs a o (I.ok.mod.kin a o h)).2
mutual
def D.lsz:D->Nat
 | .lst l=>1+iY l
 | .tup l=>iY l
 | _=>0
def iY:List D->Nat
 | []=>0
 | d::l=>d.lsz+iY l
end
theorem A0(I:ah X pins σ H s){P:bx}{a:Addr}(ha:H a=some (.lst vs))(h:af X.K H P d (.ref a)):∃l,d=.lst l:=by
 cases d with
 | lst l=>exact⟨l,rfl⟩
 | tup l =>
  rw[af]at h
  obtain⟨a',vs',e,hs,_⟩:=h
  cases e
  rcases hs with(q|⟨o,q⟩)|⟨o,its,n,q,_⟩
  ·rw[ha]at q;cases q
  ·rw[ha]at q;cases q
  ·rw[gH I q]at ha;cases ha
 | dct _ _=>rw[af]at h;obtain⟨_,_,a',_,e,hl,_⟩:=h;cases e;rw[ha]at hl;cases hl
 | sn m=>rw[af]at h;obtain⟨a',S,e,hl⟩:=h;cases e;rw[ha]at hl;cases hl
 | obj n ns es=>rw[af]at h;obtain⟨_,_,a',C,dx,vs',e,_,_,hl,_⟩:=h;cases e;rw[ha]at hl;cases hl
 | cls n=>rw[af]at h;obtain⟨C,o',e,_,hl,_⟩:=h;cases e;rw[gH I hl]at ha;cases ha
 | xc n p =>
  rw[af]at h
  rcases h.at with⟨o',hl,_⟩|⟨C,od,hl⟩
  ·rw[gH I hl]at ha;cases ha
  ·rw[ha]at hl;cases hl
 | _=>rw[af]at h;cases h
theorem Au(I:ah X pins σ H s){P:bx}(hP:∀a b,P a b->b=true){a:Addr}(ha:cZ X.K H a vs)(h:af X.K H P d (.ref a)):∃l,d=.tup l/\ai X.K H P l vs:=by
 have no:∀o,H a=some o->(∀xs,o ≠ .tup xs)->(∀p q,o ≠ .frz p q)->False:=fun o e h1 h2=>by
  rcases ha with(q|⟨o',q⟩)|⟨o',its,n,q,_⟩
  ·rw[e]at q;cases q;exact h1 _ rfl
  ·rw[e]at q;cases q;exact h2 _ _ rfl
  ·rw[gH I q]at e;cases e
 cases d with
 | lst l =>
  rw[af]at h
  obtain⟨a',vs',b,e,hl,p,_⟩:=h
  cases e
  cases hP _ _ p
  exact(no _ hl (fun _ z=>nomatch z) fun _ _ z=>nomatch z).elim
 | tup l =>
  rw[af]at h
  obtain⟨a',vs',e,hs,rl⟩:=h
  cases e
  have:=I.tuple_inj ha hs
  subst this
  exact⟨l,rfl,rl⟩
 | dct _ _=>rw[af]at h;obtain⟨_,_,a',_,e,hl,_⟩:=h;cases e;exact(no _ hl (fun _ z=>nomatch z) fun _ _ z=>nomatch z).elim
 | sn m=>rw[af]at h;obtain⟨a',S,e,hl⟩:=h;cases e;exact(no _ hl (fun _ z=>nomatch z) fun _ _ z=>nomatch z).elim
 | obj n ns es=>rw[af]at h;obtain⟨_,_,a',C,dx,vs',e,_,_,hl,_⟩:=h;cases e;exact(no _ hl (fun _ z=>nomatch z) fun _ _ z=>nomatch z).elim
 | cls n =>
  rw[af]at h
  obtain⟨C,o',e,_,hl,ht,_⟩:=h
  cases e
  rcases ha with(q|⟨o,q⟩)|⟨o,its,n,q,hc,_⟩
  ·rw[gH I hl]at q;cases q
  ·rw[gH I hl]at q;cases q
  ·rw[hl]at q;cases q;rw[hc]at ht;injection ht with ht;exact absurd ht (by decide)
 | xc n p =>
  rw[af]at h
  rcases h.at with⟨o',hl,ht⟩|⟨C,od,hl⟩
  ·rcases ha with(q|⟨o,q⟩)|⟨o,its,n,q,hc,_⟩
   ·rw[gH I hl]at q;cases q
   ·rw[gH I hl]at q;cases q
   ·rw[hl]at q;cases q;rw[hc]at ht;injection ht with ht;exact absurd ht (by decide)
  ·exact(no _ hl (fun _ z=>nomatch z) fun _ _ z=>nomatch z).elim
 | _=>rw[af]at h;cases h
mutual
theorem sA{pins:List (Addr×Obj)}{σ:L2.St}{H:Hp}{s:Shared}(I:ah X pins σ H s){P:bx}(hP:∀a b,P a b->b=true):∀(d d':D) (v:V),af X.K H P d v->af X.K H P d' v->d.lsz<=d'.lsz
 | .tup l,d',v,h,h'=>by
  rw[af]at h
  obtain⟨a,vs,rfl,hs,rl⟩:=h
  obtain⟨l',rfl,rl'⟩:=Au I hP hs h'
  rw[D.lsz,D.lsz];exact kI I hP l l' vs rl rl'
 | .lst l,d',v,h,h'=>by
  rw[af]at h
  obtain⟨a,vs,b,rfl,hs,p,rl⟩:=h
  cases hP _ _ p
  replace hs:H a=some (.lst vs):=hs
  obtain⟨l',rfl⟩:=A0 I hs h'
  rw[af]at h'
  obtain⟨a',vs',b,e,hl,p',rl'⟩:=h'
  cases e
  cases hP _ _ p'
  replace hl:H a=some (.lst vs'):=hl
  rw[hs]at hl;cases hl
  rw[D.lsz,D.lsz]
  exact Nat.add_le_add_left (kI I hP l l' vs rl rl') 1
 | .non,_,_,_,_=>Nat.zero_le _
 | .bl _,_,_,_,_=>Nat.zero_le _
 | .int _,_,_,_,_=>Nat.zero_le _
 | .str _,_,_,_,_=>Nat.zero_le _
 | .dct _ _,_,_,_,_=>Nat.zero_le _
 | .typ _,_,_,_,_=>Nat.zero_le _
 | .sn _,_,_,_,_=>Nat.zero_le _
 | .obj _ _ _,_,_,_,_=>Nat.zero_le _
 | .cls _,_,_,_,_=>Nat.zero_le _
 | .xc _ _,_,_,_,_=>Nat.zero_le _
theorem kI{pins:List (Addr×Obj)}{σ:L2.St}{H:Hp}{s:Shared}(I:ah X pins σ H s){P:bx}(hP:∀a b,P a b->b=true):∀(l l':List D) (vs:List V),ai X.K H P l vs->ai X.K H P l' vs->iY l<=iY l'
 | [],l',vs,h,h'=>Nat.zero_le _
 | d::l,l',vs,h,h'=>by
  rw[ai]at h
  obtain⟨v,r,rfl,h1,h2⟩:=h
  cases l' with
  | nil=>rw[ai]at h';cases h'
  | cons d' l' =>
   rw[ai]at h'
   obtain⟨v',r',e,h1',h2'⟩:=h'
   cases e
   rw[iY,iY]
   exact Nat.add_le_add (sA I hP d d' v h1 h1') (kI I hP l l' r h2 h2')
end
mutual
theorem GB{pins:List (Addr×Obj)}{σ:L2.St}{H:Hp}{s:Shared}(I:ah X pins σ H s){P:bx}(hP:∀a b,P a b->b=true){A:Addr}{l:List D}(hA:af X.K H P (.lst l) (.ref A)):∀(d:D) (v:V),d.lsz<(D.lst l).lsz->af X.K H P d v->af X.K H (fun a b=>P a b/\a≠A) d v
 | .tup m,v,hs,h=>by
  rw[af]at h⊢
  obtain⟨a,vs,e,h1,h2⟩:=h
  exact⟨a,vs,e,h1,lD I hP hA m vs (by rw[D.lsz]at hs;exact hs) h2⟩
 | .lst m,v,hs,h=>by
  have h0:=h
  rw[af]at h⊢
  obtain⟨a,vs,b,e,h1,p,h2⟩:=h
  refine⟨a,vs,b,e,h1,⟨p,fun z=>?_⟩,lD I hP hA m vs (by rw[D.lsz]at hs;omega) h2⟩
  subst e z
  have:=sA I hP _ _ _ hA h0
  exact absurd (Nat.lt_of_lt_of_le hs this) (Nat.lt_irrefl _)
 | .non,v,_,h=>by rw[af]at h⊢;exact h
 | .bl _,v,_,h=>by rw[af]at h⊢;exact h
 | .int _,v,_,h=>by rw[af]at h⊢;exact h
 | .str _,v,_,h=>by rw[af]at h⊢;exact h
 | .dct ks es,v,_,h=>by
  rw[af]at h⊢
  obtain⟨f,e0,a,vs,e,h1,p,r⟩:=h
  refine⟨f,e0,a,vs,e,h1,⟨p,fun z=>?_⟩,r.flat _ f⟩
  subst z
  rw[af]at hA
  obtain⟨a2,vs2,b,e2,hl,p2,_⟩:=hA
  cases e2
  cases hP _ _ p2
  replace hl:H a=some (.lst vs2):=hl
  rw[h1]at hl;cases hl
 | .typ _,v,_,h=>by rw[af]at h⊢;exact h
 | .sn _,v,_,h=>by rw[af]at h⊢;exact h
 | .obj n ns es,v,_,h=>h.flat _ rfl
 | .cls n,v,_,h=>h.flat _ rfl
 | .xc n p,v,_,h=>h.flat _ rfl
theorem lD{pins:List (Addr×Obj)}{σ:L2.St}{H:Hp}{s:Shared}(I:ah X pins σ H s){P:bx}(hP:∀a b,P a b->b=true){A:Addr}{l:List D}(hA:af X.K H P (.lst l) (.ref A)):∀(m:List D) (vs:List V),iY m<(D.lst l).lsz->ai X.K H P m vs->ai X.K H (fun a b=>P a b/\a≠A) m vs
 | [],vs,_,h=>by rw[ai]at h⊢;exact h
 | d::m,vs,hs,h=>by
  rw[ai]at h⊢
  obtain⟨v,r,e,h1,h2⟩:=h
  exact⟨v,r,e,GB I hP hA d v (by rw[iY]at hs;omega) h1,lD I hP hA m r (by rw[iY]at hs;omega) h2⟩
end
theorem G6{l:List D}(I:ah X pins σ H s)(E:aH X ow H σ ρ)(h:ρ x=some (.lst l,true)):∃(i:Nat) (a:Addr) (vs:List V),X.N[i]?=some x/\fy X.env.scope x/\σ[i]?=some (some (.ref a))/\H a=some (.lst vs)/\ow a=some (some x)/\ai X.K H (fun b c=>kM ow x true b c/\b≠a) l vs:=by
 obtain⟨i,v,e1,e2,e3,e4⟩:=E.get x _ _ h
 have e5:=e4
 rw[af]at e4
 obtain⟨a,vs,b,rfl,hl,hp,rl⟩:=e4
 cases hp.1
 exact⟨i,a,vs,e1,e2,e3,hl,hp.2,lD I (fun _ _ p=>p.1) e5 l vs (by rw[D.lsz];omega) rl⟩
theorem EV{a:Addr}(E:aH X ow H σ ρ)(sm:aw H H1)(hi:X.N[i]?=some x)(hs:σ[i]?=some (some (.ref a)))
  (hv:fy X.env.scope x) (h0:H a=some (.lst vs)) (ho:ow a=some (some x)) (r:ai X.K H1 (fun b c=>(kM ow x true b c/\b≠a)\/Kp ow H 0 b c) l' vs') :
  ∃ow',aH X ow' (aM H1 a (.lst vs')) σ (bz ρ x (.lst l',true))/\aS ow H ow' (aM H1 a (.lst vs')):=by
 classical
 let ow':Ow:=fun a=>if H a=none/\∃o,H1 a=some o then some (some x)else ow a
 have o1:∀a o,H a=some o->ow' a=ow a:=fun a o h=>if_neg (fun z=>by rw[h]at z;cases z.1)
 have ha:H1 a=some (.lst vs):=sm _ _ h0
 have ho':ow' a=some (some x):=(o1 a _ h0).trans ho
 have E1:aH X ow' H1 σ ρ:=⟨fun y e o h=>by
  obtain⟨j,w,e1,e2,e3,e4⟩:=E.get y e o h
  refine⟨j,w,e1,e2,e3,af.same sm (e4.impH (fun a ob ha p=>?_) fun a p=>?_)⟩
  ·cases o with
   | true=>exact⟨p.1,(o1 a ob ha).trans p.2⟩
   | false=>exact fun z=>(o1 a ob ha).trans (p z)
  ·cases o with
   | true=>cases p.1
   | false=>exact fun z=>(by cases z),fun a ha=>by
  by_cases hz:H a=none/\∃o,H1 a=some o
  ·exact hz.2
  ·have:ow' a=ow a:=if_neg hz
   rw[this]at ha
   exact(E.own.same sm) a ha⟩
 have st:∀{P:bx},(P a true->False)->d7 P P H1 (aM H1 a (.lst vs')):=fun {P} h=>⟨fun b o hb hn=>by rw[ay (fun z=>by subst z;rw[ha]at hb;cases hb;exact hn)];exact hb,fun b ws hb p=>by rw[ay (fun z=>by subst z;exact h p)];exact hb,fun _ _ _ p=>p,fun _ p=>p⟩
 have r1:ai X.K H1 (fun b c=>kM ow' x true b c/\b≠a) l' vs':=r.impH (fun b o hb p=>by
  rcases p with⟨p,hne⟩|p
  ·refine⟨⟨rfl,?_⟩,hne⟩
   by_cases hz:H b=none/\∃o,H1 b=some o
   ·exact if_pos hz
   ·exact(if_neg hz).trans p.2
  ·exact⟨⟨rfl,if_pos ⟨p.2,o,hb⟩⟩,fun z=>by subst z;rw[p.2]at h0;cases h0⟩) fun b p=>by
  rcases p with⟨p,_⟩|p
  ·cases p.1
  ·cases p.1
 have r':ai X.K (aM H1 a (.lst vs')) (kM ow' x true) l' vs':=(r1.mono (st fun z=>z.2 rfl)).imp fun _ _ p=>p.1
 refine⟨ow',⟨fun y e o h=>?_,fun b hb=>?_⟩,fun b o h c=>?_,fun b o h z=>(o1 b o h).trans z⟩
 ·rw[ee]at h
  by_cases hy:y=x
  ·subst hy
   rw[if_pos rfl]at h
   cases h
   exact⟨i,.ref a,hi,hv,hs,by rw[af];exact⟨a,vs',true,rfl,aI,⟨rfl,ho'⟩,r'⟩⟩
  ·rw[if_neg hy]at h
   obtain⟨j,w,e1,e2,e3,e4⟩:=E1.get y e o h
   refine⟨j,w,e1,e2,e3,e4.mono (st fun p=>?_)⟩
   cases o with
   | true=>have:=p.2;rw[ho']at this;cases this;exact hy rfl
   | false=>have:=p rfl;rw[ho']at this;cases this
 ·by_cases hz:b=a
  ·subst hz;exact⟨_,aI⟩
  ·rw[ay hz];exact E1.own b hb
 ·rw[ay (fun z=>by
   subst z
   rw[h0]at h;cases h
   rcases c with c|c
   ·exact c
   ·rw[ho]at c;cases c)]
  exact sm b o h
theorem nD{env:Env}{pos:Pos}:∀{es:List Expr},(∀e∈es,∀x p,e ≠ .Starred x p)->(backTo pos (starEach es env)).all (fun x => !x.1)=true
 | [],_=>rfl
 | e::es,h=>by
  have ih:=nD (env:=env) (es:=es) (pos:=pos) fun x hx=>h x (List.mem_cons_of_mem _ hx)
  have he:=h e List.mem_cons_self
  cases e<;>first|exact absurd rfl (he _ _)|exact ih
theorem Gn{M:List D->List D->Nat->Rs (List D)}{l:List D}(hcalm:X.calm=true)(hM:oP m M)(hx:ρ x=some (.lst l,true))(h:AD X ρ args ds k)(hst:∀e∈args,∀y p,e ≠ .Starred y p)(hlen:args.length=ds.length)
  (hn:dP x=true) (hln:(ap.endLine==cp.line)=true) (hm:M l ds k=.ok l' o) (hp:aE o):SD X H0 ρ (.Expr (.Call (.Attribute (.Name x p1) m ap) args [] cp) p4) (.nx (bz ρ x (.lst l',true))):=by
 obtain⟨id,r,sl,ty,mt,hr⟩:=hM X hcalm
 intro pins s σ H D I ⟨ow,E,hl,B,q⟩
 obtain⟨i,a,vs,g1,g2,g3,g4,g5,g6⟩:=G6 I E hx
 have pn:PE X (.Name x p1) (my i):=fX g1 g2 (c8 hn).1 (c8 hn).2
 have fin:∀(H1:Hp) (ws:List V),aw H H1->ai X.K H1 (Kp ow H k) ds ws->r (.ref a) ws H1 fun _ H2=>D.nx σ H2:=fun H1 ws s1 r1 =>
  (hr ow H H1 l ds l' k o a vs ws hm hp).2 (fun b c=>(kM ow x true b c/\b≠a)\/Kp ow H 0 b c) _ (fun _ _ p=>.inr p) E.own s1 (s1 _ _ g4) ((g6.same s1).imp fun _ _ p=>.inl p) r1 fun vs' _ rv=>by
   obtain⟨ow',E',k'⟩:=EV E s1 g1 g3 g2 g4 g5 rv
   exact q ow' σ _ E' hl k'
 have few:ds.length<29:=(hr ow H H l ds l' k o a vs vs hm hp).1
 cases args with
 | nil =>
  have e0:ds=[]:=List.length_eq_zero_iff.mp hlen.symm
  refine ii (G3 PySem.F.plainAttrs_list sl ty mt pn rfl hln) rfl pins s σ H D I ⟨_,g3,.inl ⟨rfl,_,cm.of g4⟩,?_⟩
  exact fin H [] (aw.refl _) (by rw[e0];exact ai.nil)
 | cons e es =>
  have hfew:((backTo cp (starEach (e::es) X.env)).all (fun x => !x.1)&&(backToKw cp (keywordEach [] X.env)).all (fun x=>x.1.isSome)&&decide ((e::es).length+([]:List Keyword).length+(if ([]:List Keyword).isEmpty then 0 else 1)<30))=true:=by
   rw[nD hst,hlen]
   have:decide (ds.length+0+0<30)=true:=by simp;omega
   exact this
  refine ii (rj PySem.F.plainAttrs_list sl ty mt pn (h ow) rfl hfew hln (aD (hst e List.mem_cons_self)) (bG fun x hx=>hst x (List.mem_cons_of_mem _ hx))) rfl pins s σ H D I ⟨_,g3,.inl ⟨rfl,_,cm.of g4⟩,E,fun ws H1 s1 r1=>?_⟩
  exact fin H1 ws s1 r1
theorem nG:∀{l:List D} {j:Nat} {d:D},ax l=true->d.lless=true->ax (l.set j d)=true
 | [],j,d,h,f=>by simp[ax]
 | x::l,0,d,h,f=>by
  rw[ax,Bool.and_eq_true]at h
  rw[List.set_cons_zero,ax,Bool.and_eq_true];exact⟨f,h.2⟩
 | x::l,j+1,d,h,f=>by
  rw[ax,Bool.and_eq_true]at h
  rw[List.set_cons_succ,ax,Bool.and_eq_true];exact⟨h.1,nG h.2 f⟩
theorem ai.set{K:W.Frag}{P:bx}{H:Hp}{d:D}{v:V}(r:af K H P d v):∀{l:List D} {vs:List V} (j:Nat),ai K H P l vs->ai K H P (l.set j d) (vs.set j v)
 | [],vs,j,h=>by rw[ai]at h;subst h;simp;exact ai.nil
 | x::l,vs,0,h=>by
  rw[ai]at h
  obtain⟨w,u,rfl,h1,h2⟩:=h
  exact ai.cons r h2
 | x::l,vs,j+1,h=>by
  rw[ai]at h
  obtain⟨w,u,rfl,h1,h2⟩:=h
  exact ai.cons h1 (ai.set r j h2)
theorem AG{i:Expr}{l:List D}{j:Int}(hx:ρ x=some (.lst l,true))(h:ED X ρ e d k)(hi:ED X ρ i (.int j) k2)(f:ax l=true)(fd:d.lless=true)(hn:dP x=true)(hm:wr l j d=some l')(hsl:∀a b c p,i ≠ .Slice a b c p) :
  SD X H0 ρ (.Assign [.Subscript (.Name x p1) i p2] e pos) (.nx (bz ρ x (.lst l',true))):=by
 unfold wr at hm
 cases hj:ixN l.length j with
 | none=>rw[hj]at hm;cases hm
 | some n =>
  rw[hj]at hm;cases hm
  intro pins s σ H D I ⟨ow,E,hl,B,q⟩
  obtain⟨ix,a,vs,g1,g2,g3,g4,g5,g6⟩:=G5 E hx
  have pn:PE X (.Name x p1) (my ix):=fX g1 g2 (c8 hn).1 (c8 hn).2
  refine kK (h ow) (GP pn (hi ow) AC (fun v=>by cases i<;>first|rfl|exact absurd rfl (hsl _ _ _ _))) yb (by cases e<;>rfl) rfl pins s σ H D I ⟨E,fun v H1 s1 r1=>?_⟩
  refine⟨_,g3,E.same s1,fun u H2 s2 r2=>?_⟩
  rw[af]at r2;subst r2
  have s12:=s1.trans s2
  refine⟨a,vs,j,n,rfl,rfl,s12 _ _ g4,by rw[<- g6.length];exact hj,?_⟩
  exact q ow σ _ (zt (E.same s12) g1 g3 g2 (s12 _ _ g4) g5 (nG f fd) (ai.set ((r1.imp fun _ _ _=>True.intro).same s2) n (g6.same s12))) hl (wO s12 g4 g5)
def rSetD:xn:=fun o i v H Q => ∃p kvs k,o=.ref p/\i=kV k/\H p=some (.dK kvs)/\kvs.length<sizeLine/\Q (aM H p (.dK (AJ kvs k v)))
theorem Lh{op:Operator}{r:R2}(h:cv X (inplaceOp op) r):L7 X op r:=h
theorem A8:cv X (inplaceOp .Mult) (rI (fun i j=>gB i j) fun i j=>.int (i*j)):=vn fun _ _ _ _ _ _ _ hc q=>imul_int q (sK hc)
theorem za:cv X (inplaceOp .FloorDiv) (rI (fun _ j=>ib j) fun i j=>.int (i.fdiv j)):=vn fun i j _ _ _ _ _ hc q=>ifloordiv_int hc.1 q (.inl (PyProof.noPylong_of_log2 (by
 rcases Nat.eq_zero_or_pos j.natAbs with h1|hp
 ·exact absurd (by simpa using h1) hc.1
 ·exact(Nat.log2_lt (Nat.ne_of_gt hp)).mpr hc.2)))
theorem Gp{op:Operator}{a b:Int}{o:Bool}(G:aO Φ X sc)(hx:ck sc x=true)(ha:ρ x=some (.int a,o))(h:ED X ρ e (.int b) k)(hr:BF op a b=.ok (d,k2) l)(hp:aE l) :
  SD X H0 ρ (.AugAssign (.Name x p) op e pos) (.nx (bz ρ x (d,true))):=by
 obtain⟨g1,g2,g3,i,g4⟩:=eQ G hx
 obtain⟨r,hr1,hr2⟩:∃r:R2,cv X (inplaceOp op) r/\d.lless=true/\∀H (Q:VK),(∀v,af X.K H (fun _ _=>False) d v->Q v H)->r (.int a) (.int b) H Q:=by
  unfold BF at hr
  split at hr
  ·cases hr;exact⟨_,Ez,rfl,fun H Q q=>⟨a,b,rfl,rfl,q _ (by rw[af])⟩⟩
  ·cases hr;exact⟨_,Ey,rfl,fun H Q q=>⟨a,b,rfl,rfl,q _ (by rw[af])⟩⟩
  ·cases hr;exact⟨_,A8,rfl,fun H Q q=>⟨a,b,rfl,rfl,hp.1,q _ (by rw[af])⟩⟩
  ·cases hr;exact⟨_,za,rfl,fun H Q q=>⟨a,b,rfl,rfl,hp.1,q _ (by rw[af])⟩⟩
  ·cases hr
 intro pins s σ H D I ⟨ow,E,hl,B,q⟩
 obtain⟨i2,v,e1,e2,e3,e4⟩:=E.get x _ _ ha
 rw[af]at e4;subst e4
 have hi:i2=i:=iw G.nd e1 g4
 subst hi
 refine GH (i:=i2) G.nd g4 g1 (h ow) (Lh hr1) g3 pins s σ H D I ⟨.int a,e3,E,fun v H1 s1 r1=>?_⟩
 rw[af]at r1;subst r1
 refine hr2.2 H1 _ fun w rw'=>?_
 exact q ow _ H1 (dj G.nd hl (E.same s1) g4 g2 (rw'.flat _ hr2.1)) (by rw[List.length_set];exact hl) (aS.same s1)
theorem wM:oP "append" lI:=fun X hc=>⟨"list.append", _,PySem.F.slot_list_append,PySem.F.type_list_append,qp,fun ow H0 H l ds l' j o a vs ws h hp=>by
 unfold lI at h
 split at h
 ·rename_i d
  cases h
  have c:=hp.1
  refine⟨by simp,fun P Q hP oi sm ha rl rd q=>?_⟩
  obtain⟨w,rfl,rw'⟩:=rd.only
  refine⟨a,vs,w,rfl,rfl,ha,?_,q _ _ (rl.append (ai.one ?_))⟩
  ·rw[<- rl.length];exact Nat.lt_trans hp.2.1 qt
  ·rcases c with c|c
   ·exact rw'.flat _ c
   ·subst c;exact rw'.imp hP
 ·cases h⟩
variable{X:Cx}
theorem mU(x:Str)(E:aH X ow H σ ρ):∃ow',aH X ow' H σ (demX x ρ)/\aS ow H ow' H:=by
 classical
 unfold demX
 let ow':Ow:=fun a=>if ow a=some (some x)then none else ow a
 have o1:∀a,ow a=none->ow' a=none:=fun a h=>by show(if _ then _ else _)=_;split;rfl;exact h
 refine⟨ow',⟨fun y e o h=>?_,fun a ha=>?_⟩,fun a o h _=>h,fun a o h z=>o1 a z⟩
 ·by_cases hy:y=x
  ·subst hy
   simp only[if_true]at h
   cases hd:ρ y with
   | none=>rw[hd]at h;cases h
   | some q =>
    obtain⟨d,o'⟩:=q
    rw[hd]at h
    cases h
    obtain⟨j,w,e1,e2,e3,e4⟩:=E.get y _ _ hd
    refine⟨j,w,e1,e2,e3,e4.imp fun a b p z=>?_⟩
    cases o' with
    | true=>exact if_pos p.2
    | false=>exact o1 a (p z)
  ·simp only[if_neg hy]at h
   obtain⟨j,w,e1,e2,e3,e4⟩:=E.get y e o h
   refine⟨j,w,e1,e2,e3,e4.imp fun a b p=>?_⟩
   cases o with
   | true=>exact⟨p.1,by show(if _ then _ else _)=_;rw[if_neg (fun z=>by rw[p.2]at z;cases z;exact hy rfl)];exact p.2⟩
   | false=>exact fun z=>o1 a (p z)
 ·refine E.own a fun z=>ha (o1 a z)
theorem Ff(x:Str)(ρ:ae):demA x ρ=ρ\/demA x ρ=demX x ρ:=by
 cases h:ρ x with
 | none=>exact .inl (funext fun y=>by unfold demA;split;(rename_i e;subst e;rw[h];rfl);rfl)
 | some p =>
  cases hl:p.1.lless with
  | true=>exact .inl (funext fun y=>by unfold demA;split;(rename_i e;subst e;rw[h];show some (p.1,p.2&&p.1.lless)=_;rw[hl,Bool.and_true]);rfl)
  | false=>exact .inr (funext fun y=>by unfold demA demX;split;(rename_i e;subst e;rw[h];show some (p.1,p.2&&p.1.lless)=_;rw[hl,Bool.and_false];rfl);rfl)
theorem jZ:∀{es:List Expr} {ow:Ow} {H:Hp} {σ:L2.St} {ρ:ae},aH X ow H σ ρ->∃ow',aH X ow' H σ (demL es ρ)/\aS ow H ow' H
 | [],ow,H,σ,ρ,E=>⟨ow,E,aS.refl _ _⟩
 | e::es,ow,H,σ,ρ,E=>by
  have one:∀x,∃ow',aH X ow' H σ (demL es (demA x ρ))/\aS ow H ow' H:=fun x=>by
   rcases Ff x ρ with h|h
   ·rw[h];exact jZ E
   ·rw[h]
    obtain⟨ow1,E1,k1⟩:=mU x E
    obtain⟨ow2,E2,k2⟩:=jZ (es:=es) E1
    exact⟨ow2,E2,k1.trans k2⟩
  unfold demL
  split
  ·rename_i z;cases z
  ·rename_i z;cases z;exact one _
  ·rename_i z;cases z;exact one _
  ·rename_i z;cases z;exact jZ E
theorem jY(E:aH X ow H σ ρ):∃ow',aH X ow' H σ (demote e ρ)/\aS ow H ow' H:=by
 unfold demote
 split
 ·exact mU _ E
 ·exact mU _ E
 ·exact jZ E
 ·exact⟨ow,E,aS.refl _ _⟩
def ac{α:Type}(r:Rs α)(a:α):Prop:=∃l,r=.ok a l/\aE l
theorem av{r:Rs α}{f:α->Rs β}{b:β}(h:ac (r.bnd f) b):∃a,ac r a/\ac (f a) b:=by
 obtain⟨l,h,hp⟩:=h
 obtain⟨a,l1,l2,h1,p1,h2,p2⟩:=aQ h hp
 exact⟨a,⟨l1,h1,p1⟩,l2,h2,p2⟩
theorem ar{a:α}(h:ac (.st) a):False:=by obtain⟨l,h,_⟩:=h;cases h
theorem aC{a b:α}(h:ac (.ok a l) b):a=b:=by obtain⟨m,h,_⟩:=h;cases h;rfl
theorem Go{bind:D->ae->Option ae}(hp:PassesOwn (model X.prog X.w) X.A X.env X.xe)(hcalm:X.calm=true)
  (hi:IE X (demote iter ρ) tg iter ds k) (hk:k<=1) (hg:∀d ρ ρ',bind d ρ=some ρ'->GD X ρ tg d ρ') (hb:∀ρ fl,ac (bodyF ρ) fl->fR X H0 ρ body fl) (h:ac (dF bind bodyF ds (demote iter ρ)) fl)
  (hs:∀x,foldedSetIterable iter X.env x=pure x):SD X H0 ρ (.For tg iter body [] pos) fl:=by
 intro pins s σ H D0 I ⟨ow0,E0,hl,B0,q0⟩
 obtain⟨ow,E,k0⟩:=jY (e:=iter) E0
 have B:=B0.keep k0
 have q:=q0.keep k0
 have pb:c5 X body (fun D σ H => ∃ρ fl,ac (bodyF ρ) fl/\uX X H0 ρ fl D σ H):=fun pins s σ H D I ⟨ρ1,fl1,h1,h2⟩=>hb ρ1 fl1 h1 pins s σ H D I h2
 have pg:PG X tg (fun v σ H Q => ∃g:TG,PG X tg g/\g v σ H Q):=fun pins s σ H v u Q I r ⟨g,h1,h2⟩=>h1 pins s σ H v u Q I r h2
 refine yC hp hcalm (hi ow) pg pb hs pins s σ H D0 I ⟨E,fun J H1 s1 itd=>?_⟩
 refine⟨fun i m σ' H'=>m=ds.length-i/\i<=ds.length/\∃ow' ρ',aH X ow' H' σ' ρ'/\σ'.length=X.N.length/\bL H0 ow' H'/\aS ow H1 ow' H'/\ac (dF bind bodyF (ds.drop i) ρ') fl,
  ⟨ds.length,by simp,Nat.zero_le _,ow,_,E.same s1,hl,B.keep (aS.same s1),aS.refl _ _,h⟩,?_⟩
 rintro i m σ' H' ⟨rfl,hile,ow',ρ',E',hl',B',k',hf⟩
 have q':m8 X H0 ow' H' fl D0:=q.keep ((aS.same s1).trans k')
 have st:d7 (Kd ow H k H1) (Kd ow H k H1) H1 H':=⟨fun a o ha hn=>k'.keep a o ha (.inl hn),fun a vs ha p=>k'.keep a _ ha (.inr (dY E.own hk p.1)),fun _ _ _ p=>p,fun _ p=>p⟩
 have it:=itd i H' st
 by_cases hlt:i<ds.length
 ·obtain⟨go,yl⟩:=it.1 ds[i] (List.getElem?_eq_getElem hlt)
  have hdrop:ds.drop i=ds[i]::ds.drop (i+1):=List.drop_eq_getElem_cons hlt
  rw[hdrop,dF]at hf
  refine .inr ⟨go,fun σ2 H2=>i+1<=ds.length/\∃ow2 ρ2,aH X ow2 H2 σ2 ρ2/\σ2.length=X.N.length/\bL H0 ow2 H2/\aS ow H1 ow2 H2/\ac (dF bind bodyF (ds.drop (i+1)) ρ2) fl,fun σ2 H2 n=>⟨ds.length-(i+1),by omega,rfl,n.1,n.2⟩,fun x H3 y3=>?_⟩
  obtain⟨sm3,rx⟩:=yl x H3 y3
  cases hbd:bind ds[i] ρ' with
  | none=>rw[hbd]at hf;exact(ar hf).elim
  | some ρ1 =>
   rw[hbd]at hf
   dsimp only at hf
   obtain⟨g,g1,g2⟩:=hg _ _ _ hbd
   have rx':af X.K H3 (fun a b=>b=true->ow' a=none) ds[i] x:=rx.impH (fun a o ha p _=>by
    obtain⟨o1,h1⟩:=p.2 rfl
    exact k'.low a o1 h1 (dY E.own hk p.1)) fun a _ z=>(by cases z)
   refine⟨g,g1,g2 ow' x σ' H3 _ hl' (E'.same sm3) rx' fun σ2 hl2 E2=>?_⟩
   have k3:aS ow' H' ow' H3:=aS.same sm3
   obtain⟨f1,hbo,hf⟩:=av hf
   refine⟨ρ1,f1,hbo,ow',E2,hl2,B'.keep k3,?_⟩
   cases f1 with
   | nx ρ2=>exact fun ow2 σ3 H4 a b c=>⟨hlt,ow2,ρ2,a,b,(B'.keep k3).keep c,k'.trans (k3.trans c),hf⟩
   | ct ρ2=>exact fun ow2 σ3 H4 a b c=>⟨hlt,ow2,ρ2,a,b,(B'.keep k3).keep c,k'.trans (k3.trans c),hf⟩
   | bk ρ2=>cases aC hf;exact fun ow2 σ3 H4 a b c=>q' ow2 σ3 H4 a b (k3.trans c)
   | rt d=>cases aC hf;exact q'
 ·have ei:i=ds.length:=by omega
  subst ei
  rw[List.drop_length,dF]at hf
  cases aC hf
  exact .inl ⟨it.2 (Nat.le_refl _),q' ow' σ' H' E' hl' (aS.refl _ _)⟩
theorem AF{test:ae->Rs Bool}(hp:PassesOwn (model X.prog X.w) X.A X.env X.xe)
  (hc:∀ρ b,ac (test ρ) b->TD X ρ c b) (hb:∀ρ fl,ac (bodyF ρ) fl->fR X H0 ρ body fl) {n0:Nat} {ρ0:ae} (h:ac (lX test bodyF n0 ρ0) fl):SD X H0 ρ0 (.While c body [] pos) fl:=by
 intro pins s σ H D0 I ⟨ow,E,hl,B,q⟩
 have pc:PT X c (fun σ H Q => ∃ow ρ b,ac (test ρ) b/\BX X ow ρ b σ H Q):=fun pins s σ H Q I ⟨ow,ρ,b,h1,h2⟩=>hc ρ b h1 ow pins s σ H Q I h2
 have pb:c5 X body (fun D σ H => ∃ρ fl,ac (bodyF ρ) fl/\uX X H0 ρ fl D σ H):=fun pins s σ H D I ⟨ρ1,fl1,h1,h2⟩=>hb ρ1 fl1 h1 pins s σ H D I h2
 refine AM hp pc pb pins s σ H D0 I ?_
 refine⟨fun m σ' H' => ∃ow' ρ',aH X ow' H' σ' ρ'/\σ'.length=X.N.length/\bL H0 ow' H'/\aS ow H ow' H'/\ac (lX test bodyF m ρ') fl,⟨n0,ow,ρ0,E,hl,B,aS.refl _ _,h⟩,?_⟩
 rintro m σ' H' ⟨ow',ρ',E',hl',B',k',hw⟩
 have q':m8 X H0 ow' H' fl D0:=q.keep k'
 cases m with
 | zero=>exact(ar hw).elim
 | succ m =>
  rw[lX]at hw
  obtain⟨b,ht,hw⟩:=av hw
  refine⟨ow',ρ',b,ht,E',fun H1 s1=>?_⟩
  have k1:aS ow' H' ow' H1:=aS.same s1
  cases b with
  | false =>
   cases aC hw
   exact q' ow' σ' H1 (E'.same s1) hl' k1
  | true =>
   rw[cond_true]at hw
   show if true=true then _ else _
   rw[if_pos rfl]
   refine⟨fun σ2 H2 => ∃ow2 ρ2,aH X ow2 H2 σ2 ρ2/\σ2.length=X.N.length/\bL H0 ow2 H2/\aS ow H ow2 H2/\ac (lX test bodyF m ρ2) fl,fun σ2 H2 z=>⟨m,Nat.lt_succ_self _,z⟩,?_⟩
   obtain⟨f1,hbo,hw⟩:=av hw
   refine⟨ρ',f1,hbo,ow',E'.same s1,hl',B'.keep k1,?_⟩
   cases f1 with
   | nx ρ2=>exact fun ow2 σ3 H4 a b c=>⟨ow2,ρ2,a,b,(B'.keep k1).keep c,k'.trans (k1.trans c),hw⟩
   | ct ρ2=>exact fun ow2 σ3 H4 a b c=>⟨ow2,ρ2,a,b,(B'.keep k1).keep c,k'.trans (k1.trans c),hw⟩
   | bk ρ2=>cases aC hw;exact fun ow2 σ3 H4 a b c=>q' ow2 σ3 H4 a b (k1.trans c)
   | rt d=>cases aC hw;exact q'
theorem bE{p:D×Nat}(h:ac (au Φ e it sc ρ) p)(G:aO Φ X sc):fT X ρ e it p.1 p.2:=let ⟨_,h,hp⟩:=h;Lu e h hp G
theorem y9(h:jA e=true):(∃a b c d,e=.ListComp a b c d)\/∀(Φ:Fx) (sc:Scope) (ρ:ae),au Φ e false sc ρ=.st:=by
 cases e<;>first|exact .inl ⟨_,_,_,_,rfl⟩|exact .inr fun _ _ _=>rfl|cases h
theorem qj{r:D×Nat}{o:Bool}(G:aO Φ X sc)(hx:ck sc x=true)(h:ac (au Φ e false sc ρ) r)(ho:(r.2=0/\o=true)\/(r.2=1/\o=false)) :
  SD X H0 ρ (.Assign [.Name x p] e pos) (.nx (bz ρ x (r.1,o))):=by
 by_cases hc:jA e=true
 ·rcases y9 hc with⟨elt,gens,scope,q,rfl⟩|hno
  rotate_left
  ·rw[hno]at h;exact(ar h).elim
  ·clear hc
   have hsw:∃b,swapsWith (.ListComp elt gens scope q) (some (.Name x p)) pos.line X.env=pure b:=⟨_,rfl⟩
   obtain⟨b,hsw⟩:=hsw
   cases b with
   | false=>exact kG G hx ((bE h G).ed rfl) ho hsw
   | true =>
    obtain⟨l,h,hp⟩:=h
    obtain⟨tg,iter,ifs,rfl⟩:=pw h
    obtain⟨ds,f,k1,a1,a2,a3,a4,a5,a6,a7,a8,a9⟩:=vc (iD Φ _) (Nat.lt_succ_self _) h hp G
    obtain⟨g1,g2,g3,i,g4⟩:=eQ G hx
    rw[a9]
    intro pins s σ H D0 I ⟨ow,E,hl,B,q⟩
    refine DR (D0:=D0) (i:=i) G.calm G.nd a1 a2 a3 a4 a5 a6 a7 a8 I E hsw g4 g1 g3 fun v H1 s1 r1=>?_
    rcases ho with⟨ho,rfl⟩|⟨ho,rfl⟩<;>rw[ho]at r1
    ·obtain⟨ow',E',k'⟩:=pK G.nd hl E s1 g4 g2 r1
     exact q ow' _ H1 E' (by rw[List.length_set];exact hl) k'
    ·exact q ow _ H1 (dj G.nd hl (E.same s1) g4 g2 r1) (by rw[List.length_set];exact hl) (aS.same s1)
 ·exact kG G hx ((bE h G).ed rfl) ho (d9 (by simpa using hc))
theorem uJ{r:D×Nat}(h:ac (au Φ e it sc ρ) r):∀a b c p,e ≠ .Slice a b c p:=by
 intro a b c p z;subst z;exact(ar h).elim
theorem sG{f:List D->Rs Fl}(h:ac (sH ρ x f) fl):∃l,ρ x=some (.lst l,true)/\dP x=true/\ac (f l) fl:=by
 unfold sH at h
 split at h
 ·rename_i l e
  split at h
  ·rename_i c
   exact⟨l,e,c,h⟩
  ·exact(ar h).elim
 ·exact(ar h).elim
theorem fL{a b:α}(h:ac (.ok a l) b):a=b/\aE l:=by obtain⟨m,h,hp⟩:=h;cases h;exact⟨rfl,hp⟩
theorem r8{i:D}(h:ac (wk ρ x i d) fl):(∃l j l',ρ x=some (.lst l,true)/\ax l=true/\dP x=true/\i=.int j/\wr l j d=some l'/\d.lless=true/\fl=.nx (bz ρ x (.lst l',true)))\/False:=by
 unfold wk at h
 split at h
 ·rename_i l e
  split at h
  ·split at h
   ·rename_i hn
    split at h
    ·rename_i l' hs
     obtain⟨h9,h1,h2,_⟩:=fL h
     exact .inl ⟨l,_,l',e,h1,hn,rfl,hs,h2,h9.symm⟩
    ·exact(ar h).elim
   ·exact(ar h).elim
  ·exact(ar h).elim
 ·exact(ar h).elim
 ·exact(ar h).elim
theorem G4(h:ac (n6 Φ es e sc ρ) fl)(G:aO Φ X sc):SD X H0 ρ (.Assign [.Tuple es n p] e pos) fl:=by
 unfold n6 at h
 split at h
 ·split at h
  ·rename_i hp
   obtain⟨q,⟨lq,h1,hq⟩,h⟩:=av h
   split at h
   ·rename_i u v hd
    split at h
    ·rename_i hf
     cases aC h
     obtain⟨n1,_⟩:=b9 h1 hq
     have c:=gM _ h1 hq G
     rw[hd]at c
     exact Gm G c hf hp (n1 _ (by simp)) (n1 _ (by simp))
    ·exact(ar h).elim
   ·exact(ar h).elim
  ·exact(ar h).elim
 ·exact(ar h).elim
theorem JH(h:ac (n9 Φ tgs e sc ρ) fl)(G:aO Φ X sc):SD X H0 ρ (.Assign tgs e pos) fl:=by
 unfold n9 at h
 split at h
 ·obtain⟨p,h1,h⟩:=av h
  unfold o8 at h
  split at h
  ·rename_i hx
   split at h
   ·rename_i ho;cases aC h;exact qj G hx h1 (.inl ⟨ho,rfl⟩)
   ·rename_i ho;cases aC h;exact qj G hx h1 (.inr ⟨ho,rfl⟩)
   ·exact(ar h).elim
  ·exact(ar h).elim
 ·split at h
  ·exact G4 h G
  ·rename_i ht
   have ht:=Bool.eq_false_iff.mpr ht
   obtain⟨p,h1,h⟩:=av h
   split at h
   ·rename_i ho
    cases aC h
    exact DD G ((bE h1 G).ed rfl) ho ht
   split at h
   ·rename_i ds hd
    split at h
    ·rename_i hf
     split at h
     ·rename_i ρ' hb
      cases aC h
      exact Gk G ((bE h1 G).ed rfl) hd hf hb ht
     ·exact(ar h).elim
    ·exact(ar h).elim
   ·exact(ar h).elim
 ·split at h
  ·rename_i hc
   obtain⟨p,h1,h⟩:=av h
   obtain⟨q,h2,h⟩:=av h
   have c2:=(bE h2 G).ed rfl
   rcases r8 h with⟨l,j,l',a1,a2,a3,hj,hs,hf,rfl⟩|hF
   ·rw[hj]at c2
    exact AG a1 ((bE h1 G).ed rfl) c2 a2 hf a3 hs (uJ h2)
   ·exact hF.elim
  ·exact(ar h).elim
 ·exact(ar h).elim
theorem pe{p:D×Nat}{f:Int->R1}{a:D×Nat}(h:ac (jR p f) a):∃b,p.1=.int b/\ac (f b) a:=by
 obtain⟨l,h,hp⟩:=h
 obtain⟨b,h1,h2⟩:=A9 h
 exact⟨b,h1,l,h2,hp⟩
theorem JG{t:Expr}{op:Operator}(h:ac (n8 Φ t op e sc ρ) fl)(G:aO Φ X sc):SD X H0 ρ (.AugAssign t op e pos) fl:=by
 unfold n8 at h
 split at h
 ·split at h
  ·rename_i hx
   split at h
   ·rename_i p hp
    obtain⟨r,h1,h⟩:=av h
    cases aC h
    obtain⟨a,ha,h3⟩:=pe h1
    obtain⟨q,h2,h4⟩:=av h3
    obtain⟨b,hb,h5⟩:=pe h4
    obtain⟨l,h9,hpl⟩:=h5
    have c:=(bE h2 G).ed rfl
    rw[hb]at c
    obtain⟨p1,p2⟩:=p
    have ha:p1=.int a:=ha
    subst ha
    exact Gp G hx hp c h9 hpl
   ·exact(ar h).elim
  ·exact(ar h).elim
 ·exact(ar h).elim
theorem Iu(h:ac (jW Φ e sc ρ) fl)(G:aO Φ X sc):SD X H0 ρ (.Expr e pos) fl:=by
 unfold jW at h
 split at h
 ·split at h
  ·rename_i hln
   obtain⟨p,⟨lp,h1,hp1⟩,h⟩:=av h
   split at h
   ·rename_i M hM
    obtain⟨l,a1,a3,h⟩:=sG h
    obtain⟨l',⟨o,h2,hp2⟩,h⟩:=av h
    cases aC h
    obtain⟨n1,n2⟩:=b9 h1 hp1
    exact Gn G.calm (G.mtt _ M hM) a1 (gM _ h1 hp1 G) n1 n2 a3 hln h2 hp2
   ·exact(ar h).elim
  ·exact(ar h).elim
 ·obtain⟨p,h1,h⟩:=av h
  cases aC h
  exact DF ((bE h1 G).ed rfl) ⟨_,_,_,_,_,rfl⟩
 ·exact(ar h).elim
structure Is(Φ:Fx)(n:Nat):Prop where
 s:∀(st:Stmt) {sc:Scope} {ρ:ae} {fl:Fl} {X:Cx} {H0:Hp},sizeOf st<n->ac (eR Φ st sc ρ) fl->aO Φ X sc->PassesOwn (model X.prog X.w) X.A X.env X.xe->SD X H0 ρ st fl
 ss:∀(st:List Stmt) {sc:Scope} {ρ:ae} {fl:Fl} {X:Cx} {H0:Hp},sizeOf st<n->ac (az Φ st sc ρ) fl->aO Φ X sc->PassesOwn (model X.prog X.w) X.A X.env X.xe->fR X H0 ρ st fl
theorem ir{p:D×Nat}{f:Bool->Rs α}{a:α}(h:ac (jG p f) a):∃b,p.1=.bl b/\ac (f b) a:=by
 obtain⟨l,h,hp⟩:=h
 obtain⟨b,h1,h2⟩:=lO h
 exact⟨b,h1,l,h2,hp⟩
theorem Lp(I:Is Φ n)(st:Stmt)(hs:sizeOf st<n+1)(h:ac (eR Φ st sc ρ) fl)(G:aO Φ X sc)(hp:PassesOwn (model X.prog X.w) X.A X.env X.xe):SD X H0 ρ st fl:=by
 cases st with
 | Return e p =>
  cases e with
  | none=>cases aC h;exact DA
  | some e =>
   obtain⟨p,h1,h⟩:=av (show ac (Rs.bnd _ _) fl from h)
   unfold wv at h
   split at h
   ·rename_i hk
    cases aC h
    unfold sy at h1
    cases hn:rm e with
    | true=>rw[hn]at h1;exact DB ((bE h1 G).ed rfl) hk
    | false=>rw[hn]at h1;exact yr ((bE h1 G).ed rfl) hk
   ·exact(ar h).elim
 | Pass p=>cases aC h;exact DC
 | Break p=>cases aC h;exact AH
 | Continue p=>cases aC h;exact DG
 | Assign tgs e p=>exact JH h G
 | AugAssign t op e p=>exact JG h G
 | Expr e p=>exact Iu h G
 | If c a b p =>
  obtain⟨p,h1,h⟩:=av (show ac (Rs.bnd _ _) fl from h)
  obtain⟨t,ht,h⟩:=ir h
  refine wt ((bE h1 G).td rfl t ht) ?_
  cases t with
  | true=>rw[if_pos rfl];exact I.ss _ (ba (by simp<;>omega) hs) h G hp
  | false=>rw[if_neg Bool.false_ne_true];exact I.ss _ (ba (by simp<;>omega) hs) h G hp
 | For tg it body els p =>
  rw[pE]at h
  split at h
  ·rename_i he
   have he:=List.isEmpty_iff.mp he
   subst he
   obtain⟨p,h1,h⟩:=av h
   split at h
   ·rename_i ds hd
    split at h
    ·rename_i hk
     obtain⟨lq,h1',_⟩:=id h1
     exact Go hp G.calm ((bE h1 G).ie rfl _ ds hd hk.2) hk.1 (fun d ρ ρ' hb=>rB G hb) (fun ρ1 f1 h2=>I.ss _ (ba (by simp<;>omega) hs) h2 G hp) h (qz h1')
    ·exact(ar h).elim
   ·exact(ar h).elim
  ·exact(ar h).elim
 | While c body els p =>
  rw[tN]at h
  split at h
  ·rename_i he
   have he:=List.isEmpty_iff.mp he
   subst he
   refine AF hp (fun ρ b hb=>?_) (fun ρ1 f1 h2=>I.ss _ (ba (by simp<;>omega) hs) h2 G hp) h
   obtain⟨p,h1,hb⟩:=av hb
   obtain⟨t,ht,hb⟩:=ir hb
   cases aC hb
   exact(bE h1 G).td rfl _ ht
  ·exact(ar h).elim
 | _=>exact(ar h).elim
theorem Ir(I:Is Φ n)(ss:List Stmt)(hs:sizeOf ss<n+1)(h:ac (az Φ ss sc ρ) fl)(G:aO Φ X sc)(hp:PassesOwn (model X.prog X.w) X.A X.env X.xe):fR X H0 ρ ss fl:=by
 cases ss with
 | nil=>cases aC h;exact Dt
 | cons s ss =>
  obtain⟨f1,h1,h⟩:=av (show ac (Rs.bnd _ _) fl from h)
  have c:=I.s s (H0:=H0) (ba (by simp<;>omega) hs) h1 G hp
  cases f1 with
  | nx ρ'=>exact eM c (I.ss ss (ba (by simp<;>omega) hs) h G hp)
  | bk ρ'=>cases aC h;exact jP c (fun _ z=>(by cases z))
  | ct ρ'=>cases aC h;exact jP c (fun _ z=>(by cases z))
  | rt d=>cases aC h;exact jP c (fun _ z=>(by cases z))
theorem iC(Φ:Fx):∀n,Is Φ n
 | 0=>⟨fun _ _ _ _ _ _ h=>absurd h (Nat.not_lt_zero _),fun _ _ _ _ _ _ h=>absurd h (Nat.not_lt_zero _)⟩
 | n+1=>⟨fun e _ _ _ _ _ hs h G hp=>Lp (iC Φ n) e hs h G hp,fun e _ _ _ _ _ hs h G hp=>Ir (iC Φ n) e hs h G hp⟩
theorem gK(ss:List Stmt)(h:ac (az Φ ss sc ρ) fl)(G:aO Φ X sc)(hp:PassesOwn (model X.prog X.w) X.A X.env X.xe):fR X H0 ρ ss fl:=(iC Φ _).ss ss (Nat.lt_succ_self _) h G hp
def al(sc:Scope):List Str:=(sc.names.filter fun y=>y.2 == .local || y.2 == .cell).map (·.1)
def dg(P:Program)(w:World)(K:W.Frag)(mg:Str->Option Value)(base:Heap)(k:Nat)(g:Str)(F:List D->Rs D):Prop :=
 ∃f fd ps,aZ P w K mg base cj k f fd ps (jo K F)/\mg g=some (.ref f)/\W.keepIn K (.ref f)=true/\bH K fd ps []/\(g==("__debug__" : Str))=false
theorem dg.mono(h:dg P w K mg base j g F)(hjk:j<=k):dg P w K mg base k g F :=
 let ⟨f,fd,ps,h1,h2⟩:=h;⟨f,fd,ps,h1.mono hjk,h2⟩
def oQ(P:Program)(w:World)(K:W.Frag)(mg:Str->Option Value)(base:Heap)(k:Nat)(g:Str)(F:List D->Rs D):Prop :=
 ∃j C f fd ps,j+1<=k/\(∀ds r l,F ds=.ok r l->r.lless=true)/\Mk K C f/\aZ P w K mg base cj j f fd ps (qi K g F)/\mg g=some (.ref C)/\W.nsIn K mainGlobals g=some (some (.ref C))/\d5 K C/\bH K fd ps []/\(g==("__debug__" : Str))=false
theorem oQ.mono(h:oQ P w K mg base j g F)(hjk:j<=k):oQ P w K mg base k g F :=
 let ⟨i,C,f,fd,ps,h0,h1⟩:=h;⟨i,C,f,fd,ps,Nat.le_trans h0 hjk,h1⟩
def Md(P:Program)(w:World)(K:W.Frag)(mg:Str->Option Value)(base:Heap)(k:Nat)(g:Str)(F:List D->Rs D):Prop:=dg P w K mg base k g F\/oQ P w K mg base k g F
def eI(P:Program)(w:World)(K:W.Frag)(mg:Str->Option Value)(base:Heap)(k:Nat)(n m:Str)(F:List D->Rs D):Prop :=
 ∃C f fd ps,W.nsIn K mainGlobals n=some (some (.ref C))/\d5 K C/\pV K C m f/\aZ P w K mg base cj k f fd ps (jo K F)/\bH K fd ps []
theorem eI.mono{n:Str}(h:eI P w K mg base j n m F)(hjk:j<=k):eI P w K mg base k n m F :=
 let ⟨C,f,fd,ps,h1,h2,h3,h4,h5⟩:=h;⟨C,f,fd,ps,h1,h2,h3,h4.mono hjk,h5⟩
theorem uh:∀{ps:List Str} {ds:List D} {x:Str} {d:D} {o:Bool},bI ps ds x=some (d,o)->o=false/\∃i:Nat,ps[i]?=some x/\ds[i]?=some d
 | [],ds,x,d,o,h=>by cases ds<;>cases h
 | p::ps,[],x,d,o,h=>by cases h
 | p::ps,y::ds,x,d,o,h=>by
  replace h:(if x=p then some (y,false)else bI ps ds x)=some (d,o):=h
  by_cases e:x=p
  ·rw[if_pos e]at h
   cases h;subst e;exact⟨rfl,0,rfl,rfl⟩
  ·rw[if_neg e]at h
   obtain⟨h1,i,h2,h3⟩:=uh h
   exact⟨h1,i+1,by simpa using h2,by simpa using h3⟩
structure iX(P:Program)(w:World)(K:W.Frag)(mg:Str->Option Value)(base:Heap)(k:Nat)(Φ:Fx):Prop where
 fn:∀g F,Φ.fn g=some F->Md P w K mg base k g F
 con:∀x d,Φ.con x=some d->∃v u,mg x=some u/\aX v u/\∀H P,af K H P d v
 blt:∀f B,Φ.blt f=some B->dC f B
 itr:∀f B,Φ.itr f=some B->rJ f B
 mth:∀m M,Φ.mth m=some M->lQ m M
 mtt:∀m M,Φ.mtt m=some M->oP m M
 slf:oN Φ.slf
 fld:∀n f,Φ.fld n f=true->∀C,W.nsIn K mainGlobals n=some (some (.ref C))->bn K C f
 omt:∀n m F,Φ.omt n m=some F->eI P w K mg base k n m F
 bl:∀n∈gR,mg n=none
def cX(Φ:Fx)(sc:Scope)(ps:List Str)(body:List Stmt)(F:List D->Rs D):Prop:=∀ds r,ac (F ds) r->ac (cG Φ sc ps body ds) r
theorem cX.self:cX Φ sc ps body (cG Φ sc ps body):=fun _ _ h=>h
theorem ff{f:Addr}{E:XK}
  (S:aF (al (aa st)) ps (aa st)) (hΦ:iX P w K mg base k Φ) (hr:bJ k (A.deeper (envOfC qual (aa st) s.heap.objs.size f cdv))) :
  aO Φ (bV cj P w K mg base (al (aa st)) qual (aa st) f cdv A outer s H E).nox (aa st):=by
 have hun:=hr.un
 refine⟨rfl,S.nd,fun x hx=>hx,fun x hx=>hx,fun x hx=>hx,fun x hx=>hx,fun g' F' hg=>?_,hΦ.con,hΦ.blt,hΦ.itr,hΦ.mth,hΦ.mtt,hΦ.slf,hΦ.fld,fun n m F hF=>?_,hΦ.bl,?_,fun x hx=>?_,fun x _=>rfl⟩
 ·rcases hΦ.fn g' F' hg with z|z
  ·obtain⟨f',fd',ps',a1,a2,a3,a4,a5⟩:=z
   exact .inl ⟨k,f',fd',ps',a1,hr,a2,a3,a4,a5⟩
  ·obtain⟨j,C,f',fd',ps',a0,a1,a2,a3,a4⟩:=z
   exact .inr ⟨j,C,f',fd',ps',a1,a2,a3,hr.mono a0,a4⟩
 ·obtain⟨C,f',fd',ps',a1,a2,a3,a4,a5⟩:=hΦ.omt n m F hF
  exact⟨k,C,f',fd',ps',a1,a2,a3,a4,hr,a5⟩
 ·show(A.deeper _).units+70<cLine
  omega
 ·show x∈al (aa st)
  unfold al
  unfold ck at hx
  rw[Bool.or_eq_true]at hx
  rcases hx with hx|hx
  ·have hx:(aa st).names.lookup x=some .local:=by simpa using hx
   exact List.mem_map.mpr ⟨(x,.local),List.mem_filter.mpr ⟨PySem.mem_of_lookup hx,by simp⟩,rfl⟩
  ·have hx:(aa st).names.lookup x=some .cell:=by simpa using hx
   exact List.mem_map.mpr ⟨(x,.cell),List.mem_filter.mpr ⟨PySem.mem_of_lookup hx,by simp⟩,rfl⟩
theorem gc{f:Addr}{E:XK}
  (S:aF (al (aa st)) ps (aa st)) (h1:ai K H (fun _ _=>True) ds vs) (hl:ds.length=ps.length) :
  aH (bV cj P w K mg base (al (aa st)) qual (aa st) f cdv A outer s H E).nox (fun _=>none) H (start (al (aa st)) vs) (bI ps ds)/\(start (al (aa st)) vs).length=(al (aa st)).length:=by
 have hpl:ps.length<=(al (aa st)).length:=by have:=congrArg List.length S.pre;rw[List.length_take]at this;omega
 have hvl:vs.length=ps.length:=by rw[<- h1.length];exact hl
 refine⟨⟨fun x d o hx=>?_,fun a ha=>absurd rfl ha⟩,by unfold L2.start;rw[List.length_append,List.length_map,List.length_replicate];omega⟩
 obtain⟨rfl,i,i1,i2⟩:=uh hx
 obtain⟨v,i3,i4⟩:=h1.get i2
 have hi:i<ps.length:=(List.getElem?_eq_some_iff.mp i1).1
 refine⟨i,v,?_,?_,?_,i4.imp fun a b _ _=>rfl⟩
 ·show(al (aa st))[i]?=some x
  rw[<- S.pre,List.getElem?_take_of_lt hi]at i1
  exact i1
 ·rcases S.par x (List.mem_of_getElem? i1)with z|z
  ·exact .inl z
  ·exact .inr (.inl z)
 ·unfold L2.start
  rw[List.getElem?_append_left (by rw[List.length_map];omega),List.getElem?_map,i3];rfl
theorem pA{f:Addr}(Fn:gq K g qual st f fd)
  (S:aF (al (aa st)) ps (aa st)) (hΦ:iX P w K mg base k Φ)
  (hrun:cX Φ (aa st) ps (ak st) F):aZ P w K mg base cj (k+1) f fd ps (jo K F):=by
 refine Fn.ok S (fun vs H Q E h=>?_) (fun cdv A outer s H vs Q E hr h=>?_)
 ·obtain⟨ds,r,l,h1,h2,hp,_⟩:=h
  have:=hrun ds r ⟨l,h2,hp⟩
  unfold cG at this
  split at this
  ·rename_i hl;rw[<- h1.length];exact hl
  ·exact(ar this).elim
 ·obtain⟨ds,r,l,h1,h2,hp,q⟩:=h
  have hr1:=hrun ds r ⟨l,h2,hp⟩
  unfold cG at hr1
  split at hr1
  ·rename_i hl
   have G:=ff (outer:=outer) (H:=H) (E:=E) S hΦ hr
   obtain⟨E0,hsl⟩:=gc (P:=P) (w:=w) (mg:=mg) (base:=base) (qual:=qual) (f:=f) (cdv:=cdv) (A:=A) (outer:=outer) (s:=s) (E:=E) S h1 hl
   have B0:bL H (fun _=>none) H:=fun a o h=>⟨h,rfl⟩
   obtain⟨fl,hx,hr1⟩:=av hr1
   cases fl with
   | rt d =>
    cases aC hr1
    exact⟨_,gK _ (H0:=H) hx G PassesOwn.never,fun _=>none,E0,hsl,B0,fun v H' sm rp=>q v H' sm rp⟩
   | nx ρ' =>
    cases aC hr1
    exact⟨_,gK _ (H0:=H) hx G PassesOwn.never,fun _=>none,E0,hsl,B0,fun ow' σ' H' _ _ kp=>q .non H' (fun a o h=>kp.keep a o h (.inr rfl)) (by rw[af])⟩
   | bk ρ'=>exact(ar hr1).elim
   | ct ρ'=>exact(ar hr1).elim
  ·exact(ar hr1).elim
def B8(K:W.Frag)(fs:List Str):Sp:=fun vs H Q _ => ∃x ws C dx,vs=.ref x::ws/\ws.length=fs.length/\H x=some (.ins C dx [])/\d5 K C/\(∀f∈fs,bn K C f)/\Q .non (aM H x (.ins C dx (fs.zip ws)))
theorem Fr{f:Addr}(Fn:gq K g qual st f fd){a1 a2 a3 f1 f2 f3:Str}{p3 q1 q2 q3 q4 r1 r2 r3 r4:Pos}
  (hN:al (aa st)=[s0,a1,a2,a3]) (S:aF (al (aa st)) [s0,a1,a2,a3] (aa st)) (hv:∀x∈[s0,a1,a2,a3],fy (aa st) x) (hok:∀x∈[s0,a1,a2,a3],dP x=true)
  (hb:ak st=[.Assign [.Attribute (.Name s0 p1) f1 p2] (.Name a1 p3) p4,.Assign [.Attribute (.Name s0 q1) f2 q2] (.Name a2 q3) q4,.Assign [.Attribute (.Name s0 r1) f3 r2] (.Name a3 r3) r4]) (h12:f1≠f2) (h13:f1≠f3) (h23:f2≠f3) :
  aZ P w K mg base cj 1 f fd [s0,a1,a2,a3] (B8 K [f1,f2,f3]):=by
 refine Fn.ok (k:=0) S (fun vs H Q E h=>?_) (fun cdv A outer s H vs Q E hr h=>?_)
 ·obtain⟨x,ws,C,dx,rfl,hl,_⟩:=h
  rw[List.length_cons,hl];rfl
 ·obtain⟨x,ws,C,dx,rfl,hl,hx,hc,hn,q⟩:=h
  obtain⟨y1,ws,rfl⟩:∃y r,ws=y::r:=by cases ws with|nil=>cases hl|cons y r=>exact⟨y,r,rfl⟩
  obtain⟨y2,ws,rfl⟩:∃y r,ws=y::r:=by cases ws with|nil=>cases hl|cons y r=>exact⟨y,r,rfl⟩
  obtain⟨y3,ws,rfl⟩:∃y r,ws=y::r:=by cases ws with|nil=>cases hl|cons y r=>exact⟨y,r,rfl⟩
  obtain rfl:ws=[]:=by cases ws with|nil=>rfl|cons _ _=>cases hl
  have nm:∀(i:Nat) (x:Str) (p:Pos),[s0,a1,a2,a3][i]?=some x->PE (bV cj P w K mg base (al (aa st)) qual (aa st) f cdv A outer s H E).nox (.Name x p) (my i):=fun i x p hi =>
   fX (by show(al (aa st))[i]?=some x;rw[hN];exact hi) (hv x (List.mem_of_getElem? hi)) (c8 (hok x (List.mem_of_getElem? hi))).1 (c8 (hok x (List.mem_of_getElem? hi))).2
  rw[hb]
  refine⟨_,cD (sE (nm 0 s0 p1 rfl) (nm 1 a1 p3 rfl) rfl) (cD (sE (nm 0 s0 q1 rfl) (nm 2 a2 q3 rfl) rfl) (ig (sE (nm 0 s0 r1 rfl) (nm 3 a3 r3 rfl) rfl))),?_⟩
  rw[hN]
  refine⟨y1,rfl,.ref x,rfl,x,C,dx,_,rfl,hx,hc,hn f1 (by simp),by decide,?_⟩
  refine⟨y2,rfl,.ref x,rfl,x,C,dx,_,rfl,aI,hc,hn f2 (by simp),by simp[dh],?_⟩
  refine⟨y3,rfl,.ref x,rfl,x,C,dx,_,rfl,aI,hc,hn f3 (by simp),?_,?_⟩
  ·have:=gC f2 y2 (dh f1 y1 []);have:=gC f1 y1 [];simp at this;omega
  ·rw[lA,lA]
   have e:dh f3 y3 (dh f2 y2 (dh f1 y1 []))=[(f1,y1),(f2,y2),(f3,y3)]:=by simp[dh,h12,h13,h23]
   rw[e]
   exact q
theorem sF{CX:iO}{f C:Addr}{sp:Sp}{E:XK}{b:Str}{t:TA}(hg:Gl X b)(hm:X.mg b=some (.ref C))(hga:W.specialIn X.K (.ref C) "__getattribute__" = some (some (.builtin "type.__getattribute__")))
  (hrd:W.readsIn X.K C mc=true) (hfc:W.findCls X.K (.ref C) mc m=some (.val (.ref f))) (hk:W.keepIn X.K (.ref f)=true) (F:aZ X.prog X.w X.K X.mg X.base CX k f fd ps sp) (hr:bJ k X.A) (hb:bH X.K fd ps []) (hx:fB CX X E) (ha:PA X (e::es) t)
  (hst:starEach (e::es) X.env=(false,eval e X.env)::starEach es X.env) (hpl:(backTo pos (starEach es X.env)).any (·.1)=false) (hdb:(b==("__debug__" : Str))=false)
  (ht:eval (.Call (.Attribute (.Name b p) m apos) (e::es) [] pos) X.env=(do
   let ov <- eval (.Name b p) X.env
   standAt apos.atName
   let (f,first) <- holding [ov] (getMethod ov m (do return (<- importBound (.Name b p) X.env).getD true))
   callWith pos f first (backTo pos (starEach (e::es) X.env)) (backToKw pos (keywordEach [] X.env)))) :
  PE X (.Call (.Attribute (.Name b p) m apos) (e::es) [] pos) (wf sp [] E t):=by
 intro pins s σ H Q I h
 refine W.methodCall_KW (pl:=(do return (<- importBound (.Name b p) X.env).getD true)) (cJ I hg hm ?_ hdb) ht
 refine W.method_cls I.kIn hga (W.cls_value I.kIn hrd hfc rfl ?_)
 have I':=I.tok (s.toks+1)
 refine W.callWith_K (first:=[]) (h₀:=X.base) I.ok.mod.kin hk (aG (ha pos pins _ σ H _ I' h) fun us s2 ⟨vs,H2,I2,r,q2⟩=>⟨I2.kIn,?_⟩) hst hpl
 exact kH (us:=us) F hr hb .nil hx I2 r q2
mutual
def D.noObj:D->Bool
 | .obj _ _ _=>false
 | .tup l=>fu l
 | .lst l=>fu l
 | .dct _ l=>fu l
 | _=>true
def fu:List D->Bool
 | []=>true
 | d::l=>d.noObj&&fu l
end
mutual
theorem af.off{K:W.Frag}{P:bx}{H H':Hp}{x C dx:Addr}{fs:List (Str×V)}(hx:H x=some (.ins C dx fs))(s:∀a o,a≠x->H a=some o->H' a=some o):∀{d:D} {v:V},d.noObj=true->af K H P d v->af K H' P d v
 | .non,v,_,h=>by rw[af]at h⊢;exact h
 | .bl b,v,_,h=>by rw[af]at h⊢;exact h
 | .int i,v,_,h=>by rw[af]at h⊢;exact h
 | .str x,v,_,h=>by rw[af]at h⊢;exact h
 | .dct ks es,v,f,h=>by
  rw[af]at h⊢
  obtain⟨f0,e0,a,vs,e,h1,p,r⟩:=h
  exact⟨f0,e0,a,vs,e,s _ _ (iS h1 hx (fun z=>nomatch z)) h1,p,ai.off hx s (by rw[D.noObj]at f;exact f) r⟩
 | .typ n,v,_,h=>by rw[af]at h⊢;exact h
 | .sn n,v,_,h=>by
  rw[af]at h⊢
  obtain⟨a,S,e,h⟩:=h
  exact⟨a,S,e,s _ _ (iS h hx (fun z=>nomatch z)) h⟩
 | .obj n ns ds,v,f,h=>by rw[D.noObj]at f;cases f
 | .cls n,v,_,h=>by rw[af]at h⊢;exact h
 | .xc n p,v,_,h=>by rw[af]at h⊢;exact h.mono (fun a C od z=>s _ _ (iS z hx (fun z=>nomatch z)) z) (fun a fs z=>s _ _ (iS z hx (fun z=>nomatch z)) z)
 | .tup l,v,f,h=>by
  rw[af]at h⊢
  obtain⟨a,vs,e,h,r⟩:=h
  refine⟨a,vs,e,?_,ai.off hx s (by rw[D.noObj]at f;exact f) r⟩
  rcases h with(h|⟨o,h⟩)|h
  ·exact .inl (.inl (s _ _ (iS h hx (fun z=>nomatch z)) h))
  ·exact .inl (.inr ⟨o,s _ _ (iS h hx (fun z=>nomatch z)) h⟩)
  ·exact .inr h
 | .lst l,v,f,h=>by
  rw[af]at h⊢
  obtain⟨a,vs,b,e,h,p,r⟩:=h
  refine⟨a,vs,b,e,?_,p,ai.off hx s (by rw[D.noObj]at f;exact f) r⟩
  cases b with
  | true=>exact s _ _ (iS h hx (fun z=>nomatch z)) h
  | false =>
   rcases h with⟨o,h⟩|h
   ·exact .inl ⟨o,s _ _ (iS h hx (fun z=>nomatch z)) h⟩
   ·exact .inr h
theorem ai.off{K:W.Frag}{P:bx}{H H':Hp}{x C dx:Addr}{fs:List (Str×V)}(hx:H x=some (.ins C dx fs))(s:∀a o,a≠x->H a=some o->H' a=some o):∀{l:List D} {vs:List V},fu l=true->ai K H P l vs->ai K H' P l vs
 | [],vs,_,h=>by rw[ai]at h⊢;exact h
 | d::l,vs,f,h=>by
  rw[ai]at h⊢
  rw[fu,Bool.and_eq_true]at f
  obtain⟨v,r,e,h1,h2⟩:=h
  exact⟨v,r,e,af.off hx s f.1 h1,ai.off hx s f.2 h2⟩
end
def aN(s:Stmt)(j:Nat):Stmt:=(match s with | .ClassDef _ _ _ b _ _ _ _ _ _ _=>b|_=>[]).getD j (.Pass ⟨0,0,0,0⟩)
def tm(s:Stmt):List Expr:=match ak s with
 | [.Expr (.Call _ (_::args) _ _) _]=>args
 | _=>[]
def hZ(Φ:Fx)(sc:Scope)(ps:List Str)(args:List Expr)(n:Str)(fs:List Str)(ds:List D):Rs D :=
 if ds.length+1=ps.length then(bi Φ args sc (bI ps (.obj n [] []::ds))).bnd fun q=>if q.1.length=fs.length then .ok (.obj n fs q.1) [ax q.1=true,fu q.1=true]else .st else .st
theorem vF{f f0:Addr}{fd0:FuncData}{ps0:List Str}{n b:Str}{C0:Addr}{pb p0:Pos}(Fn:gq K g qual st f fd)
  (S:aF (al (aa st)) ps (aa st)) (hΦ:iX P w K mg base k Φ) (hF0:aZ P w K mg base cj k f0 fd0 ps0 (B8 K fs)) (hb0:bH K fd0 ps0 []) (hk0:W.keepIn K (.ref f0)=true)
  (hgb:(aa st).names.lookup b=some .globalImplicit) (hm:mg b=some (.ref C0)) (hga:W.specialIn K (.ref C0) "__getattribute__" = some (some (.builtin "type.__getattribute__"))) (hrd:W.readsIn K C0 mc=true) (hfc:W.findCls K (.ref C0) mc "__init__" = some (.val (.ref f0)))
  (hbody:ak st=[.Expr (.Call (.Attribute (.Name b pb) "__init__" ap) (.Name s0 p0::args) [] cp) p4]) (hs0:ps[0]?=some s0) (hok:dP s0=true) (hdb:(b==("__debug__" : Str))=false) (hln:(ap.endLine==cp.line)=true) (hfew:args.length<28)
  (hna:∀C,W.nsIn K mainGlobals n=some (some (.ref C))->∀x∈fs,bn K C x):aZ P w K mg base cj (k+1) f fd ps (qi K n (hZ Φ (aa st) ps args n fs)):=by
 refine Fn.ok S (fun vs H Q E h=>?_) (fun cdv A outer s H vs Q E hr h=>?_)
 ·obtain⟨x,ws,C,dx,ds,r,l,rfl,hx,hns,hc,r1,hF,_⟩:=h
  unfold hZ at hF
  split at hF
  ·rename_i hl;rw[List.length_cons,<- r1.length];exact hl
  ·cases hF
 ·obtain⟨x,ws,C,dx,ds,r,l,rfl,hx,hns,hc,r1,hF,hp,hl,q⟩:=h
  unfold hZ at hF
  split at hF
  ·rename_i hlen
   obtain⟨qv,l1,l2,h1,p1,hF,p2⟩:=aQ hF hp
   split at hF
   ·rename_i hfl
    cases hF
    have G:=ff (outer:=outer) (H:=H) (E:=E) S hΦ hr
    have r0:ai K H (fun _ _=>True) (.obj n [] []::ds) (.ref x::ws):=ai.cons (by rw[af];exact⟨rfl,rfl,x,C,dx,[],rfl,hns,hc,hx,ai.nil⟩) r1
    obtain⟨E0,hsl⟩:=gc (P:=P) (w:=w) (mg:=mg) (base:=base) (qual:=qual) (f:=f) (cdv:=cdv) (A:=A) (outer:=outer) (s:=s) (E:=E) S r0 hlen
    obtain⟨hst,hal⟩:=b9 h1 p1
    have ad:=gM args h1 p1 G
    have hi0:(al (aa st))[0]?=some s0:=by
     have hp0:=(List.getElem?_eq_some_iff.mp hs0).1
     have hs1:=hs0
     rw[<- S.pre,List.getElem?_take_of_lt hp0]at hs1
     exact hs1
    have hv0:fy (aa st) s0:=by
     rcases S.par s0 (List.mem_of_getElem? hs0)with z|z
     ·exact .inl z
     ·exact .inr (.inl z)
    have hst':∀e∈Expr.Name s0 p0::args,∀y p,e ≠ .Starred y p:=fun e he=>by
     rcases List.mem_cons.mp he with rfl|he
     ·intro _ _ z;cases z
     ·exact hst e he
    rw[hbody]
    refine⟨_,ig (ii (sF (G.gl b hgb) hm hga hrd hfc hk0 hF0 hr hb0 hV (fK (fX (i:=0) hi0 hv0 (c8 hok).1 (c8 hok).2) (ad (fun _=>none)) (aD fun _ _ z=>by cases z)) (aD fun _ _ z=>by cases z) (bG hst) hdb (nS (c6 rfl) (gJ hst' (by rw[List.length_cons];omega)) hln)) rfl),?_⟩
    refine⟨.ref x,?_,E0,fun vs H1 s1 rv=>?_⟩
    ·have hn:0<(al (aa st)).length:=(List.getElem?_eq_some_iff.mp hi0).1
     rfl
    ·refine⟨x,vs++[],C,dx,rfl,by rw[List.append_nil,<- rv.length];exact hfl,s1 _ _ hx,hc,hna C hns,q _ (fun a o ha h=>?_) ?_⟩
     ·rw[ay ha];exact s1 _ _ h
     ·rw[af,List.append_nil]
      exact⟨p2.1,hfl.symm,x,C,dx,vs,rfl,hns,hc,aI,((rv.off (s1 _ _ hx) (fun a o ha h=>by rw[ay ha];exact h) p2.2.1).imp fun _ _ _=>True.intro)⟩
   ·cases hF
  ·cases hF
theorem cy{f:Addr}(Fn:gq K g qual st f fd)
  (S:aF (al (aa st)) ps (aa st)) (hm:mg g=some (.ref f)) (hb:bH K fd ps []) (hd:(g==("__debug__" : Str))=false)
  (hΦ:iX P w K mg base k Φ) (hrun:cX Φ (aa st) ps (ak st) F):dg P w K mg base (k+1) g F :=
 ⟨f,fd,ps,pA Fn S hΦ hrun,hm,Fn.kp,hb,hd⟩
theorem aj{Pr:α->Prop}{x:α}{l:List α}(h1:Pr x)(h2:∀y∈l,Pr y):∀y∈x::l,Pr y:=fun y hy=>(List.mem_cons.mp hy).elim (fun e=>e ▸ h1) (h2 y)
theorem am{Pr:α->Prop}:∀y∈([]:List α),Pr y:=fun y hy=>by cases hy
theorem Id{a:Addr}{ns:List Int}(hO:uu H)(hS:cm K H a (ns.map V.int))(h:ac (F [.lst (ns.map D.int)]) (.bl true)):jo K F [.ref a] H (fun v _=>v=.bl true) fun _ _ _=>False:=by
 obtain⟨l,h,hp⟩:=h
 refine⟨[.lst (ns.map D.int)],.bl true,l,ai.one ?_,h,hp,fun v H' _ r=>by rw[af]at r;exact r⟩
 rw[af]
 rcases hS with(hS|hS)|hS
 ·rcases hO a with z|⟨o,xs,z⟩
  ·rw[z]at hS;cases hS
  ·rw[z]at hS;cases hS
 ·exact⟨a,_,false,rfl,.inl hS,True.intro,ai.ofInts⟩
 ·exact⟨a,_,false,rfl,.inr hS,True.intro,ai.ofInts⟩
abbrev qS(P:Program)(w:World)(K:W.Frag)(mg:Str->Option Value)(base:Heap)(k:Nat):Str×(List D->Rs D)->Prop:=fun p=>Md P w K mg base k p.1 p.2
abbrev eu(mg:Str->Option Value)(K:W.Frag):Str×D->Prop:=fun p => ∃v u,mg p.1=some u/\aX v u/\∀H P,af K H P p.2 v
abbrev g8:Str×(List D->R1)->Prop:=fun p=>dC p.1 p.2
abbrev xy:Str×(List D->Nat->R1)->Prop:=fun p=>rJ p.1 p.2
abbrev pU:Str×(D->List D->R1)->Prop:=fun p=>lQ p.1 p.2
abbrev xw:Str×(List D->List D->Nat->Rs (List D))->Prop:=fun p=>oP p.1 p.2
theorem be{l:List (Str×(List D->Rs D))}{c:List (Str×D)}{b:List (Str×(List D->R1))}{i:List (Str×(List D->Nat->R1))}{m:List (Str×(D->List D->R1))}{t:List (Str×(List D->List D->Nat->Rs (List D)))}
  (hl:∀p∈l,qS P w K mg base k p) (hc:∀p∈c,eu mg K p) (hb:∀p∈b,g8 p) (hi:∀p∈i,xy p) (hm:∀p∈m,pU p) (ht:∀p∈t,xw p) (hs:oN sf) (hn:∀n∈gR,mg n=none):iX P w K mg base k (Tb l c b i m t sf) :=
 ⟨fun g F h=>hl (g,F) (PySem.mem_of_lookup h),fun x d h=>hc (x,d) (PySem.mem_of_lookup h),fun f B h=>hb (f,B) (PySem.mem_of_lookup h),fun f B h=>hi (f,B) (PySem.mem_of_lookup h),fun f B h=>hm (f,B) (PySem.mem_of_lookup h),fun f B h=>ht (f,B) (PySem.mem_of_lookup h),hs,(fun _ _ h=>by cases h),(fun _ _ _ h=>by cases h),hn⟩
abbrev ux(K:W.Frag):Str×List Str->Prop:=fun p => ∀f∈p.2,∀C,W.nsIn K mainGlobals p.1=some (some (.ref C))->bn K C f
abbrev xu(P:Program)(w:World)(K:W.Frag)(mg:Str->Option Value)(base:Heap)(k:Nat):Str×List (Str×(List D->Rs D))->Prop:=fun p => ∀q∈p.2,eI P w K mg base k p.1 q.1 q.2
theorem lL{l:List (Str×(List D->Rs D))}{c:List (Str×D)}{b:List (Str×(List D->R1))}{i:List (Str×(List D->Nat->R1))}{m:List (Str×(D->List D->R1))}{t:List (Str×(List D->List D->Nat->Rs (List D)))}{fl:List (Str×List Str)}{om:List (Str×List (Str×(List D->Rs D)))}
  (hl:∀p∈l,qS P w K mg base k p) (hc:∀p∈c,eu mg K p) (hb:∀p∈b,g8 p) (hi:∀p∈i,xy p) (hm:∀p∈m,pU p) (ht:∀p∈t,xw p) (hs:oN sf) (hfl:∀p∈fl,ux K p) (hom:∀p∈om,xu P w K mg base k p) (hn:∀n∈gR,mg n=none):iX P w K mg base k (JY l c b i m t sf fl om) :=
 ⟨fun g F h=>hl (g,F) (PySem.mem_of_lookup h),fun x d h=>hc (x,d) (PySem.mem_of_lookup h),fun f B h=>hb (f,B) (PySem.mem_of_lookup h),fun f B h=>hi (f,B) (PySem.mem_of_lookup h),fun f B h=>hm (f,B) (PySem.mem_of_lookup h),fun f B h=>ht (f,B) (PySem.mem_of_lookup h),hs,
  (fun n f h C hC=>by
   replace h:(match fl.lookup n with|some fs=>fs.contains f|none=>false)=true:=h
   split at h
   ·rename_i fs e;exact hfl (n,fs) (PySem.mem_of_lookup e) f (List.contains_iff_mem.mp h) C hC
   ·cases h),
  (fun n x F h=>by
   replace h:(match om.lookup n with|some ms=>ms.lookup x|none=>none)=some F:=h
   split at h
   ·rename_i ms e;exact hom (n,ms) (PySem.mem_of_lookup e) (x,F) (PySem.mem_of_lookup h)
   ·cases h),hn⟩
theorem mL{n:Str}{f C:Addr}(Fn:gq K g qual st f fd)
  (S:aF (al (aa st)) ps (aa st)) (hn:W.nsIn K mainGlobals n=some (some (.ref C))) (hc:d5 K C) (hm:pV K C g f) (hb:bH K fd ps [])
  (hΦ:iX P w K mg base k Φ) (hrun:cX Φ (aa st) ps (ak st) F):eI P w K mg base (k+1) n g F :=
 ⟨C,f,fd,ps,hn,hc,hm,pA Fn S hΦ hrun,hb⟩
theorem sQ{n:Str}{C f:Addr}(hF:∀ds r l,F ds=.ok r l->r.lless=true)(hM:Mk K C f)(h:aZ P w K mg base cj k f fd ps (qi K n F))(hm:mg n=some (.ref C))
  (hn:W.nsIn K mainGlobals n=some (some (.ref C))) (hc:d5 K C) (hb:bH K fd ps []) (hd:(n==("__debug__" : Str))=false):oQ P w K mg base (k+1) n F:=⟨k,C,f,fd,ps,Nat.le_refl _,hF,hM,h,hm,hn,hc,hb,hd⟩
theorem nO{n:Str}:∀ds r l,hZ Φ sc ps args n fs ds=.ok r l->r.lless=true:=fun ds r l h=>by
 unfold hZ at h
 split at h
 ·unfold Rs.bnd at h
  split at h
  ·cases h
  ·split at h
   ·cases h
   ·rename_i e
    cases h
    dsimp only at e
    split at e
    ·cases e;rfl
    ·cases e
 ·cases h
theorem Fg{y:Str}{t:Tok}(hm:mg x=some (.str y t)):eu mg K (x,.str y):=⟨.str y,.str y t,hm,⟨t,rfl⟩,fun H P=>by rw[af]⟩
theorem Fh{y:Int}{t:Tok}(hm:mg x=some (.int y t)):eu mg K (x,.int y):=⟨.int y,.int y t,hm,⟨t,rfl⟩,fun H P=>by rw[af]⟩
open AutoSeq1 (wpAny_loadPart')
section
variable{prog:Program}{w:World}{A:Around}{E:Value->Shared->Prop}{s:Shared}
theorem EY{e it:Addr}{x old:Value}{Kn:Heap->Prop}(isE:IsEnum s.heap e it i old)(hne:e≠it)
  (stay:∀h1 h2:Heap,Kn h1->(∀o,h1.get? it=some o->h2.get? it=some o)->Kn h2)
  (inner:∀(Q1:Value->Shared->Prop),(∀h1,Kn h1->Heap.SameBut it s.heap h1->Q1 x { s with heap:=h1 })->wpAny (model prog w) A.in1 (Builtin.SmallTypes.nextOf (.ref it)) Q1 E s)
  (go:∀h1,IsEnumOut h1 e it ((i:Int)+1) x s.heap.objs.size->Kn h1->h1.get? s.heap.objs.size=some { cls:=.type "tuple", data:=.seq #[.int i s.toks,x] }->(∀b o,b≠e->b≠it->s.heap.get? b=some o->h1.get? b=some o)->Q (.ref s.heap.objs.size) { s with heap:=h1,toks:=s.toks+1 }) :
  wpAny (model prog w) A.in1 (Builtin.«enumerate.__next__» ⟨[.ref e],[]⟩) (fun fin s' => ∃v,fin=.done (.ret v)/\Q v s') E s:=by
 obtain⟨h0,gg,dd,t0,oo⟩:=s
 have elt:e<h0.objs.size:=Heap.lt_size isE
 show wpAny _ _ (field (.ref e) 2 >>= _) _ _ _
 refine wpAny_bind (wpAny_field isE rfl (x:=Value.ref it) rfl (wpAny_bind (inner _ fun h1 k1 b1=>?_)))
 have b1':Heap.SameBut it h0 h1:=b1
 have E1:IsEnum h1 e it i old:=(b1'.2 e hne).trans isE
 show wpAny _ _ (field (.ref e) 3 >>= _) _ _ ⟨h1,gg,dd,t0,oo⟩
 refine wpAny_bind (wpAny_field E1 rfl (x:=rawInt (i:Int)) rfl ?_)
 show wpAny _ _ (field (.ref e) 4 >>= _) _ _ ⟨h1,gg,dd,t0,oo⟩
 refine wpAny_bind (wpAny_field E1 rfl (x:=Value.none) rfl ?_)
 show wpAny _ _ (mkInt i >>= _) _ _ ⟨h1,gg,dd,t0,oo⟩
 refine wpAny_bind (wpAny_mkInt ?_)
 show wpAny _ _ (setField (.ref e) 3 (rawInt ((i:Int)+1)) >>= _) _ _ ⟨h1,gg,dd,t0+1,oo⟩
 refine wpAny_bind (wpAny_setField_rec E1 (by simp) fun h2 E2 b2=>?_)
 have b2':Heap.SameBut e h1 h2:=b2
 have E2':IsEnum h2 e it ((i:Int)+1) old:=E2
 show wpAny _ _ (setField (.ref e) 4 .none >>= _) _ _ ⟨h2,gg,dd,t0+1,oo⟩
 refine wpAny_bind (wpAny_setField_rec E2' (by simp) fun h3 E3 b3=>?_)
 have b3':Heap.SameBut e h2 h3:=b3
 have E3':IsEnum h3 e it ((i:Int)+1) old:=E3
 show wpAny _ _ (newTuple [.int i t0,x] >>= _) _ _ ⟨h3,gg,dd,t0+1,oo⟩
 refine wpAny_bind (wpAny_newTuple ?_)
 have z3:h3.objs.size=h0.objs.size:=by rw[b3'.1,b2'.1,b1'.1]
 have E4:IsEnum (h3.push { cls:=.type "tuple", data:=.seq #[.int i t0,x] }) e it ((i:Int)+1) old:=Heap.get?_push_of_some _ E3'
 have T4:(h3.push { cls:=.type "tuple", data:=.seq #[.int i t0,x] }).get? h0.objs.size=some { cls:=.type "tuple", data:=.seq #[.int i t0,x] }:=by rw[<- z3];exact Heap.get?_push_size _ rfl
 have K4:∀b o,b≠e->b≠it->h0.get? b=some o->(h3.push { cls:=.type "tuple", data:=.seq #[.int i t0,x] }).get? b=some o:=fun b o n1 n2 q=>Heap.get?_push_of_some _ (b3'.extBut b o n1 (b2'.extBut b o n1 (b1'.extBut b o n2 q)))
 have N4:Kn (h3.push { cls:=.type "tuple", data:=.seq #[.int i t0,x] }):=stay h1 _ k1 fun o q=>Heap.get?_push_of_some _ (b3'.extBut it o (Ne.symm hne) (b2'.extBut it o (Ne.symm hne) q))
 rw[z3]
 generalize h3.push { cls:=.type "tuple", data:=.seq #[.int i t0,x] }=h4 at E4 T4 K4 N4
 show wpAny _ _ (Builtin.SmallTypes.ownedTupleIsFree (.ref e) >>= _) _ _ ⟨h4,gg,dd,t0+1,oo⟩
 refine wpAny_bind ?_
 unfold Builtin.SmallTypes.ownedTupleIsFree
 refine wpAny_bind (wpAny_field E4 rfl (x:=Value.none) rfl (wpAny_pure ?_))
 simp only[if_true]
 refine wpAny_bind (wpAny_rule (wpAny_bind (wpAny_field E4 rfl (x:=old) rfl ?_)))
 refine wpAny_bind (wpAny_setField_rec E4 (by simp) fun h5 E5 b5=>?_)
 have b5':Heap.SameBut e h4 h5:=b5
 have E5':IsEnum h5 e it ((i:Int)+1) x:=E5
 show wpAny _ _ (Builtin.SmallTypes.ownedTupleHandOut (.ref e) (.ref h0.objs.size) >>= _) _ _ ⟨h5,gg,dd,t0+1,oo⟩
 refine wpAny_bind ?_
 unfold Builtin.SmallTypes.ownedTupleHandOut
 refine wpAny_bind (wpAny_setField_rec E5' (by simp) fun h6 E6 b6=>?_)
 have b6':Heap.SameBut e h5 h6:=b6
 have E6':IsEnumOut h6 e it ((i:Int)+1) x h0.objs.size:=E6
 refine wpAny_setField_rec E6' (by simp) fun h7 E7 b7=>?_
 have b7':Heap.SameBut e h6 h7:=b7
 have E7':IsEnumOut h7 e it ((i:Int)+1) x h0.objs.size:=E7
 have far:∀b o,b≠e->h4.get? b=some o->h7.get? b=some o:=fun b o n1 q=>b7'.extBut b o n1 (b6'.extBut b o n1 (b5'.extBut b o n1 q))
 refine wpAny_bind (wpAny_letGo (wpAny_pure ⟨_,rfl,go h7 E7' ?_ (far _ _ (Nat.ne_of_gt elt) T4) fun b o n1 n2 q=>far b o n1 (K4 b o n1 n2 q)⟩))
 exact stay h4 h7 N4 fun o q=>far it o (Ne.symm hne) q
end
variable{X:Cx}
theorem zc{h2:Heap}{t2:Nat}{ch:List Addr}{p:Addr}{o:HO}(I:ah X pins σ H s)
  (k:∀b u,b∉ch->s.heap.get? b=some u->h2.get? b=some u) (hp:s.heap.objs.size<=p) (hn:∀b∈ch,g7 X pins H b) (new:bU X.prog X.w (aM H p o) h2 p o):ah X pins σ (aM H p o) { s with heap:=h2,toks:=t2 }:=by
 have hH:H p=none:=I.hok.fresh hp
 have tr:∀b u,H b=some u->b∉ch:=fun b u e z=>by rw[(hn b z).1]at e;cases e
 have un:Un (bZ X.stack) ch H (aM H p o) s.heap h2:=by
  refine⟨fun b ob e n _ c=>k b ob c e,fun b ob e n _ c=>⟨ob.slots,k b ob c e⟩,fun b ob e n c=>?_,fun b ob e c=>⟨ob,k b ob c e⟩,fun b xs e=>?_,fun b ob u e=>?_,fun b ps e=>⟨#[],?_⟩⟩
  ·rw[ay (Nat.ne_of_lt (Nat.lt_of_lt_of_le (Heap.lt_size e) hp))];exact n
  ·rw[ay (aV e hH)];exact e
  ·rw[ay (aV e hH)];exact e
  ·rw[ay (aV e hH),e];simp
 refine I.call (g':=s.gens) (d':=s.drawn) un (fun b u e=>?_) I.bare fun b hb=>⟨(hn b hb).2.2.2.1,(hn b hb).2.1,(hn b hb).2.2.2.2.1,(hn b hb).2.2.2.2.2⟩
 by_cases hb:b=p
 ·subst hb;rw[aI]at e;cases e;exact new
 ·rw[ay hb]at e
  refine(I.hok b u e).stay (fun c v hc q=>k c v ?_ q) (fun c q=>by rw[ay (aV q hH)];exact q) fun c xs q=>by rw[ay (aV q hH)];exact q
  rcases hc with z|z
  ·rw[z];exact tr b u e
  ·exact tr c _ z
open AutoSeq1 (wpAny_loadPart')
section
variable{prog:Program}{w:World}{A:Around}{E:Value->Shared->Prop}{s:Shared}
variable{z TI TO i1 i2 l1 l2:Addr}{k1 k2:Nat}{P1 P2:Nat->Heap->Prop}{g1 g2:Nat->Option Value}{x y a b:Value}
end
variable{X:Cx}
variable{X:Cx}
def L6(κ:Bool)(K:W.Frag)(H:Hp)(a:Addr)(xs:List V):Prop:=match κ with|true=>cZ K H a xs|false=>cm K H a xs
def AE(κ:Bool)(l:List D):D:=match κ with|true=>.tup l|false=>.lst l
theorem F9{κ:Bool}{l:List D}(h:af X.K H1 (Kp ow H k) (AE κ l) v):∃a vs,v=.ref a/\L6 κ X.K H1 a vs/\ai X.K H1 (Kp ow H k) l vs/\∀{P':bx} {H2:Hp},d7 (Kd ow H k H1) P' H1 H2->L6 κ X.K H2 a vs:=by
 cases κ
 ·rw[show AE false l=.lst l from rfl,af]at h
  obtain⟨a,vs,b,rfl,hl,hp,rl⟩:=h
  have hp':Kd ow H k H1 a b:=⟨hp,fun hb=>by subst hb;exact⟨_,hl⟩⟩
  exact⟨a,vs,rfl,hl.sq,rl,fun st=>(st.ls hl hp').sq⟩
 ·rw[show AE true l=.tup l from rfl,af]at h
  obtain⟨a,vs,rfl,hl,rl⟩:=h
  exact⟨a,vs,rfl,hl,rl,fun st=>st.sq hl⟩
open AutoSeq1 (wpAny_loadPart')
variable{X:Cx}
section
variable{prog:Program}{w:World}{A:Around}{E:Value->Shared->Prop}{s:Shared}
end
open PySem.W (KasT kas_sort kas_ask KatLex KatTups kat_sorted kat_kind kat_lt kat_cons kat_nil kat_go kat_yes kat_no kat_one KasFin)
section
variable{prog:Program}{w:World}{A:Around}{E:Value->Shared->Prop}{s:Shared}
end
variable{X:Cx}
theorem fo{r:Rs α}{a:α}(h:r=.ok a l)(hp:aE l):ac r a:=⟨l,h,hp⟩
theorem ac.eq{r:Rs α}{a b:α}(h:ac r a)(e:a=b):ac r b:=e ▸ h
theorem ac.bnd{r:Rs α}{f:α->Rs β}{a:α}{b:β}(h1:ac r a)(h2:ac (f a) b):ac (r.bnd f) b:=by
 obtain⟨l,rfl,p1⟩:=h1
 obtain⟨m,h2,p2⟩:=h2
 refine⟨l++m,?_,dH.mpr ⟨p1,p2⟩⟩
 show(match f a with | .st=>(.st:Rs β) | .ok b m=>Rs.ok b (l++m))=_
 rw[h2]
theorem ac.inj{r:Rs α}{a b:α}(h:ac r a)(g:ac r b):a=b:=by
 obtain⟨l,h,_⟩:=h;obtain⟨m,g,_⟩:=g;rw[h]at g;cases g;rfl
section
variable{Φ:Fx}{sc:Scope}{ρ ρ':ae}{fl:Fl}{ss:List Stmt}
theorem bM(h:ac (az Φ body sc (bI ps ds)) (.rt d))(hl:ds.length=ps.length:=by rfl):ac (cG Φ sc ps body ds) d:=by
 unfold cG;rw[if_pos hl];exact h.bnd ⟨[],rfl,True.intro⟩
theorem dm:ac (az Φ [] sc ρ) (.nx ρ):=⟨[],rfl,True.intro⟩
theorem bA{s:Stmt}(h:ac (eR Φ s sc ρ) (.nx ρ'))(h2:ac (az Φ ss sc ρ') fl):ac (az Φ (s::ss) sc ρ) fl:=ac.bnd h h2
theorem kF{s:Stmt}(h:ac (eR Φ s sc ρ) fl)(hf:∀ρ,fl ≠ .nx ρ):ac (az Φ (s::ss) sc ρ) fl:=ac.bnd h (by
 cases fl with
 | nx ρ=>exact absurd rfl (hf ρ)
 | rt d=>exact⟨[],rfl,True.intro⟩
 | bk ρ=>exact⟨[],rfl,True.intro⟩
 | ct ρ=>exact⟨[],rfl,True.intro⟩)
theorem bf{s:Stmt}(h:ac (eR Φ s sc ρ) (.rt d)):ac (az Φ (s::ss) sc ρ) (.rt d):=kF h fun _ z=>by cases z
theorem r9{s:Stmt}(h:ac (az Φ (s::ss) sc ρ) fl):(∃ρ',ac (eR Φ s sc ρ) (.nx ρ')/\ac (az Φ ss sc ρ') fl)\/((∀ρ,fl ≠ .nx ρ)/\ac (eR Φ s sc ρ) fl):=by
 obtain⟨f,h1,h2⟩:=av (show ac (Rs.bnd _ _) fl from h)
 cases f with
 | nx ρ'=>exact .inl ⟨ρ',h1,h2⟩
 | rt d=>cases aC h2;exact .inr ⟨fun _ z=>(by cases z),h1⟩
 | bk ρ=>cases aC h2;exact .inr ⟨fun _ z=>(by cases z),h1⟩
 | ct ρ=>cases aC h2;exact .inr ⟨fun _ z=>(by cases z),h1⟩
theorem Ad:∀{a:List Stmt} {ρ:ae},ac (az Φ a sc ρ) (.nx ρ')->ac (az Φ ss sc ρ') fl->ac (az Φ (a++ss) sc ρ) fl
 | [],ρ,h,h2=>by cases aC h;exact h2
 | s::a,ρ,h,h2=>by
  rcases r9 h with⟨ρ1,h3,h4⟩|⟨h3,_⟩
  ·exact bA h3 (Ad h4 h2)
  ·exact absurd rfl (h3 _)
theorem pO:∀{a:List Stmt} {ρ:ae},ac (az Φ (a++ss) sc ρ) fl->(∃ρ',ac (az Φ a sc ρ) (.nx ρ')/\ac (az Φ ss sc ρ') fl)\/((∀ρ,fl ≠ .nx ρ)/\ac (az Φ a sc ρ) fl)
 | [],ρ,h=>.inl ⟨ρ,dm,h⟩
 | s::a,ρ,h=>by
  rcases r9 h with⟨ρ1,h3,h4⟩|⟨h3,h4⟩
  ·rcases pO h4 with⟨ρ2,h5,h6⟩|⟨h5,h6⟩
   ·exact .inl ⟨ρ2,bA h3 h5,h6⟩
   ·exact .inr ⟨h5,bA h3 h6⟩
  ·exact .inr ⟨h3,kF h4 h3⟩
theorem fV(n:Nat)(h:ac (az Φ (ss.take n) sc ρ) (.nx ρ'))(h2:ac (az Φ (ss.drop n) sc ρ') fl):ac (az Φ ss sc ρ) fl:=by
 rw[<- List.take_append_drop n ss];exact Ad h h2
theorem wl{a b:List Stmt}(hc:ac (au Φ c false sc ρ) (.bl t,k))(h1:t=true->ac (az Φ (a++ss) sc ρ) fl)(h2:t=false->ac (az Φ (b++ss) sc ρ) fl):ac (az Φ (.If c a b p::ss) sc ρ) fl:=by
 have key:∀x,ac (cond t (az Φ a sc ρ) (az Φ b sc ρ)) x->ac (eR Φ (.If c a b p) sc ρ) x:=fun x hx=>ac.bnd hc hx
 cases t with
 | true =>
  rcases pO (h1 rfl)with⟨ρ1,h3,h4⟩|⟨h3,h4⟩
  ·exact bA (key _ h3) h4
  ·exact kF (key _ h4) h3
 | false =>
  rcases pO (h2 rfl)with⟨ρ1,h3,h4⟩|⟨h3,h4⟩
  ·exact bA (key _ h3) h4
  ·exact kF (key _ h4) h3
theorem ci{a b:List Stmt}(hc:ac (au Φ c false sc ρ) (.bl t,k))(ht:t=true)(h1:ac (az Φ (a++ss) sc ρ) fl):ac (az Φ (.If c a b p::ss) sc ρ) fl:=wl hc (fun _=>h1) fun z=>by rw[ht]at z;cases z
theorem bg{a b:List Stmt}(hc:ac (au Φ c false sc ρ) (.bl t,k))(ht:t=false)(h1:ac (az Φ (b++ss) sc ρ) fl):ac (az Φ (.If c a b p::ss) sc ρ) fl:=wl hc (fun z=>by rw[ht]at z;cases z) fun _=>h1
theorem tM{it:Expr}(hi:ac (au Φ it true sc (demote it ρ)) (d,k))(hd:items d=some ds)(hk:k<=1)(ht:eL it tg=true)(h:ac (dF (bF sc tg) (az Φ body sc) ds (demote it ρ)) fl):ac (eR Φ (.For tg it body [] p) sc ρ) fl:=by
 rw[pE,if_pos (show List.isEmpty ([]:List Stmt)=true from rfl)]
 refine hi.bnd ?_
 dsimp only
 rw[hd]
 dsimp only
 rw[if_pos ⟨hk,ht⟩]
 exact h
theorem Bf(h:ac (lX (fun ρ=>(au Φ c false sc ρ).bnd fun p=>jG p fun b=>.ok b []) (az Φ body sc) b8 ρ) fl):ac (eR Φ (.While c body [] p) sc ρ) fl:=by
 rw[tN,if_pos (show List.isEmpty ([]:List Stmt)=true from rfl)];exact h
theorem aP{v:D}(ha:ac (bi Φ args sc ρ) (ds,k))(hv:ac (F ds) v)(hF:Φ.fn f=some F:=by rfl)(hg:sc.names.lookup f=some .globalImplicit:=by rfl):ac (au Φ (.Call (.Name f p) args [] q) it sc ρ) (v,0):=by
 rw[iH,if_pos hg]
 refine ha.bnd ?_
 unfold j5
 rw[hF]
 exact hv.bnd ⟨[],rfl,True.intro⟩
theorem dw{v:D×Nat}(ha:ac (bi Φ args sc ρ) (ds,k))(hv:ac (B ds) v)(hF:Φ.fn f=none:=by rfl)(hI:(if it=true then Φ.itr f else none)=none:=by rfl)(hB:Φ.blt f=some B:=by rfl)(hg:sc.names.lookup f=some .globalImplicit:=by rfl):ac (au Φ (.Call (.Name f p) args [] q) it sc ρ) v:=by
 rw[iH,if_pos hg]
 refine ha.bnd ?_
 unfold j5
 rw[hF];dsimp only
 rw[hI];dsimp only
 rw[hB];exact hv
theorem aY:ac (bi Φ [] sc ρ) ([],0):=⟨[],rfl,True.intro⟩
theorem aK(h:ac (au Φ e false sc ρ) (d,k))(h2:ac (bi Φ es sc ρ) (ds,j)):ac (bi Φ (e::es) sc ρ) (d::ds,kj k j):=ac.bnd h (ac.bnd h2 ⟨[],rfl,True.intro⟩)
theorem pG{out:List D}(hi:ac (au Φ iter true sc ρ) (d,k))(hd:items d=some ds)(hl:ds.length<=b8/\(ax ds=true\/k<=1))
    (h:ac (gD (fun d=>match bF scope tg d (flt scope ρ)with
            | none=>.st
            | some ρ'=>(dQ Φ .And ifs scope ρ').bnd fun b=>cond b ((au Φ elt false scope ρ').bnd fun r=>.ok (some r) []) (.ok none [])) ds) (out,j)) (hj:j<=1) (hc:oC sc scope=true:=by rfl) (ht:eL iter tg=true:=by rfl):ac (au Φ (.ListComp elt [⟨tg,iter,ifs,0⟩] scope p) it sc ρ) (.lst out,j):=by
  rw[pH,if_pos hc]
  refine hi.bnd ?_
  dsimp only
  rw[hd]
  dsimp only
  rw[if_pos ht]
  refine ac.bnd (a:=()) ⟨_,rfl,hl.1,hl.2,True.intro⟩ ?_
  refine h.bnd ?_
  rw[if_pos hj]
  exact⟨[],rfl,True.intro⟩
theorem cq{i:Expr}{x:D}{l:List D}{j:Int}(ha:ac (au Φ a false sc ρ) (x,k))(hi:ac (au Φ i false sc ρ) (.int j,k2))(hx:hU x=some l)(hd:L2.atI l j=some d):ac (au Φ (.Subscript a i p) it sc ρ) (d,kn d k):=by
 have key:ac ((au Φ a false sc ρ).bnd fun p=>(au Φ i false sc ρ).bnd fun q=>mz p q) (d,kn d k):=by
  refine ha.bnd (hi.bnd ?_)
  rcases ip hx with rfl|rfl
  ·show ac (sX (.tup l) j k) _
   unfold sX
   rw[hx];dsimp only
   rw[hd];exact⟨[],rfl,True.intro⟩
  ·show ac (sX (.lst l) j k) _
   unfold sX
   rw[hx];dsimp only
   rw[hd];exact⟨[],rfl,True.intro⟩
 cases i with
 | Slice lo hi st p2=>exact(ar hi).elim
 | _=>exact key
theorem bj(h:ac (au Φ e false sc ρ) (d,0))(hx:ck sc x=true:=by rfl):ac (eR Φ (.Assign [.Name x p] e q) sc ρ) (.nx (bz ρ x (d,true))):=by
 refine ac.bnd h ?_
 unfold o8
 rw[if_pos hx]
 exact⟨[],rfl,True.intro⟩
theorem aW(h:ac (au Φ e false sc ρ) (d,k))(hk:k=0\/k=2:=by exact .inl rfl)(hn:rm e=false:=by rfl):ac (eR Φ (.Return (some e) q) sc ρ) (.rt d):=by
 have h:ac (au Φ e false sc (sy e ρ)) (d,k):=by unfold sy;rw[hn];exact h
 refine ac.bnd h ?_
 unfold wv
 rw[if_pos hk]
 exact⟨[],rfl,True.intro⟩
end
theorem tK{bind:D->ae->Option ae}{body:ae->Rs Fl}(ah:List D->ae->Prop)(step:∀d l ρ,ah (d::l) ρ->∃ρ1 ρ2,bind d ρ=some ρ1/\(ac (body ρ1) (.nx ρ2)\/ac (body ρ1) (.ct ρ2))/\ah l ρ2):∀{ds:List D} {ρ:ae},ah ds ρ->∃ρ',ac (dF bind body ds ρ) (.nx ρ')/\ah [] ρ'
 | [],ρ,h=>⟨ρ,⟨[],rfl,True.intro⟩,h⟩
 | d::l,ρ,h=>by
  obtain⟨ρ1,ρ2,h1,h2,h3⟩:=step d l ρ h
  obtain⟨ρ',h4,h5⟩:=tK ah step h3
  refine⟨ρ',?_,h5⟩
  show ac (match bind d ρ with|none=>(.st:Rs Fl)|some ρ1=>(body ρ1).bnd (l9 (dF bind body l))) _
  rw[h1]
  rcases h2 with h2|h2
  ·exact h2.bnd h4
  ·exact h2.bnd h4
theorem vK{bind:D->ae->Option ae}{body:ae->Rs Fl}(ah:List D->ae->Prop)(R:D->Prop)(step:∀d l ρ,ah (d::l) ρ->∃ρ1,bind d ρ=some ρ1/\((∃ρ2,(ac (body ρ1) (.nx ρ2)\/ac (body ρ1) (.ct ρ2))/\ah l ρ2)\/∃r,ac (body ρ1) (.rt r)/\R r)):∀{ds:List D} {ρ:ae},ah ds ρ->(∃ρ',ac (dF bind body ds ρ) (.nx ρ')/\ah [] ρ')\/∃r,ac (dF bind body ds ρ) (.rt r)/\R r
 | [],ρ,h=>.inl ⟨ρ,⟨[],rfl,True.intro⟩,h⟩
 | d::l,ρ,h=>by
  obtain⟨ρ1,h1,h2⟩:=step d l ρ h
  have key:dF bind body (d::l) ρ=(body ρ1).bnd (l9 (dF bind body l)):=by
   show(match bind d ρ with|none=>(.st:Rs Fl)|some ρ1=>(body ρ1).bnd (l9 (dF bind body l)))=_
   rw[h1]
  rw[key]
  rcases h2 with⟨ρ2,h2,h3⟩|⟨r,h2,h3⟩
  ·have go:∀x,ac (dF bind body l ρ2) x->ac ((body ρ1).bnd (l9 (dF bind body l))) x:=fun x hx=>by
    rcases h2 with h2|h2
    ·exact h2.bnd hx
    ·exact h2.bnd hx
   rcases vK ah R step h3 with⟨ρ',h4,h5⟩|⟨r,h4,h5⟩
   ·exact .inl ⟨ρ',go _ h4,h5⟩
   ·exact .inr ⟨r,go _ h4,h5⟩
  ·exact .inr ⟨r,h2.bnd ⟨[],rfl,True.intro⟩,h3⟩
theorem qC{α:Type}{step:D->Rs (Option (D×Nat))}{g:α->D}{f:α->D}:∀{l:List α},(∀x∈l,ac (step (g x)) (some (f x,0)))->ac (gD step (l.map g)) (l.map f,0)
 | [],_=>⟨[],rfl,True.intro⟩
 | x::l,h=>ac.bnd (h x List.mem_cons_self) (ac.bnd (qC fun y hy=>h y (List.mem_cons_of_mem _ hy)) ⟨[],rfl,True.intro⟩)
theorem iI{α:Type}{step:D->Rs (Option (D×Nat))}{g:α->D}{f:α->D}{c:α->Bool}:∀{l:List α},(∀x∈l,ac (step (g x)) (cond (c x) (some (f x,0)) none))->ac (gD step (l.map g)) ((l.filter c).map f,0)
 | [],_=>⟨[],rfl,True.intro⟩
 | x::l,h=>by
  have h1:=h x List.mem_cons_self
  have h2:=iI (c:=c) fun y hy=>h y (List.mem_cons_of_mem _ hy)
  cases e:c x with
  | true =>
   rw[e]at h1
   rw[List.filter_cons_of_pos e]
   exact ac.bnd h1 (ac.bnd h2 ⟨[],rfl,True.intro⟩)
  | false =>
   rw[e]at h1
   rw[List.filter_cons_of_neg (by rw[e];decide)]
   exact ac.bnd h1 (ac.bnd h2 ⟨[],rfl,True.intro⟩)
theorem Ef{a b:Int}(h:a.natAbs<18446744073709551616):gB a b:=.inl h
theorem Ed{a b:Int}(h:b.natAbs<18446744073709551616):gB a b:=.inr (.inl h)
theorem Eg{a b:Int}(h:a.natAbs<fO)(g:b.natAbs<fO):gB a b:=.inr (.inr (.inl ⟨h,g⟩))
theorem Ec{a b:Int}(h:Builtin.Int.intBits a<=2 ^ 22)(g:Builtin.Int.intBits b<=2 ^ 22):gB a b:=.inr (.inr (.inr ⟨h,g⟩))
theorem ud(h:n<2 ^ 64):n<fO:=Nat.lt_of_lt_of_le h (Nat.pow_le_pow_right (by decide) (by decide))
theorem Fe{b:Int}(h0:b≠0)(h:b.natAbs<18446744073709551616):ib b:=⟨h0,ud h⟩
theorem FC{ns:List Int}{i:Int}(h0:0<=i)(h1:i<ns.length):L2.atI (ns.map D.int) i=some (.int (ns.getD i.toNat 0)):=by
 obtain⟨j,rfl⟩:=Int.eq_ofNat_of_zero_le h0
 have hj:j<ns.length:=by omega
 have:=dS (xs:=ns.map D.int) (j:=j) (v:=.int (ns.getD j 0)) (by simp[hj])
 simpa using this
theorem BH:aE []:=True.intro
theorem xh{m:List Prop}(h:aE l)(g:aE m):aE (l++m):=dH.mpr ⟨h,g⟩
theorem BG{p:Prop}(h:p):aE [p]:=⟨h,True.intro⟩
theorem uN{p:Prop}(h:p)(g:aE l):aE (p::l):=⟨h,g⟩
theorem DS{a b:Int}(h0:0<=b)(h1:b<=1000)(h2:a.natAbs<18446744073709551616):wx a b:=⟨h0,h1,h2⟩
def Sub(C ρ:ae):Prop:=∀x y,C x=some y->ρ x=some y
theorem Sub.refl(ρ:ae):Sub ρ ρ:=fun _ _ h=>h
theorem Sub.trans{a b c:ae}(h:Sub a b)(g:Sub b c):Sub a c:=fun x y e=>g x y (h x y e)
theorem Sub.put(h:Sub C ρ)(x:Str)(y:D×Bool):Sub (bz C x y) (bz ρ x y):=fun z w e=>by
 rw[ee]at e⊢
 by_cases hz:z=x
 ·rw[if_pos hz]at e⊢;exact e
 ·rw[if_neg hz]at e⊢;exact h z w e
theorem Sub.flt(h:Sub C ρ)(scope:Scope):Sub (flt scope C) (flt scope ρ):=fun z w e=>by
 obtain⟨e1,e2⟩:=jV e
 unfold Sp.flt
 rw[if_pos e2];exact h z w e1
theorem Sub.demX(h:Sub C ρ)(x:Str):Sub (demX x C) (demX x ρ):=by
 unfold Sp.demX
 intro z w hz
 by_cases hx:z=x
 ·simp only[if_pos hx]at hz⊢
  cases hc:C z with
  | none=>rw[hc]at hz;cases hz
  | some q=>rw[hc]at hz;rw[h z q hc];exact hz
 ·simp only[if_neg hx]at hz⊢;exact h z w hz
theorem Sub.demA(h:Sub C ρ)(x:Str):Sub (demA x C) (demA x ρ):=by
 intro z w hz
 unfold Sp.demA at hz⊢
 by_cases hx:z=x
 ·simp only[if_pos hx]at hz⊢
  cases hc:C z with
  | none=>rw[hc]at hz;cases hz
  | some q=>rw[hc]at hz;rw[h z q hc];exact hz
 ·simp only[if_neg hx]at hz⊢;exact h z w hz
theorem Sub.demL:∀{es:List Expr} {C ρ:ae},Sub C ρ->Sub (demL es C) (demL es ρ)
 | [],_,_,h=>h
 | e::es,C,ρ,h=>by
  cases e with
  | Name x p=>exact Sub.demL (es:=es) (h.demA x)
  | Subscript a i p =>
   cases a with
   | Name x q=>exact Sub.demL (es:=es) (h.demA x)
   | _=>exact Sub.demL (es:=es) h
  | _=>exact Sub.demL (es:=es) h
theorem Sub.demote(h:Sub C ρ)(e:Expr):Sub (demote e C) (demote e ρ):=by
 unfold Sp.demote
 split
 ·exact h.demX _
 ·exact h.demX _
 ·exact h.demL
 ·exact h
theorem qh:∀{es:List Expr} {ds:List D} {C C' ρ:ae},aT sc es ds C=some C'->Sub C ρ->∃ρ',aT sc es ds ρ=some ρ'/\Sub C' ρ':=by
 intro es
 induction es with
 | nil =>
  intro ds C C' ρ h s
  cases ds with
  | nil=>cases h;exact⟨ρ,rfl,s⟩
  | cons d ds=>cases h
 | cons e es ih =>
  intro ds C C' ρ h s
  cases ds with
  | nil=>cases e<;>cases h
  | cons d ds =>
   cases e with
   | Name z p =>
    rw[aT]at h⊢
    split at h
    ·rename_i hz
     rw[if_pos hz]
     exact ih h (s.put _ _)
    ·cases h
   | _=>cases h
theorem r6(h:bF sc tg d C=some C')(s:Sub C ρ):∃ρ',bF sc tg d ρ=some ρ'/\Sub C' ρ':=by
 unfold bF at h⊢
 split at h
 ·split at h
  ·rename_i hx;cases h;exact⟨_,if_pos hx,s.put _ _⟩
  ·cases h
 ·split at h
  ·exact qh h s
  ·cases h
 ·cases h
theorem fg{m:List Prop}(h:b=true->aE m):aE (gd b m):=by
 cases m with
 | nil=>exact True.intro
 | cons p l=>exact⟨h,True.intro⟩
theorem uj{c:Bool}{r:Rs Bool}(h:b=true->ac r c)(hf:b=false->c=false):ac (xg b r) c:=by
 cases b with
 | true =>
  obtain⟨m,rfl,hm⟩:=h rfl
  exact⟨_,rfl,fg fun _=>hm⟩
 | false =>
  rw[hf rfl]
  cases r with
  | ok c' m=>exact⟨_,rfl,fg fun z=>(by cases z)⟩
  | st=>exact⟨_,rfl,True.intro⟩
theorem wC{c:Bool}{r:Rs Bool}(h:b=false->ac r c)(hf:b=true->c=true):ac (Ch b r) c:=by
 cases b with
 | false =>
  obtain⟨m,rfl,hm⟩:=h rfl
  exact⟨_,rfl,fg fun _=>hm⟩
 | true =>
  rw[hf rfl]
  cases r with
  | ok c' m=>exact⟨_,rfl,fg fun z=>(by cases z)⟩
  | st=>exact⟨_,rfl,True.intro⟩
theorem Cz{r s:R1}{d:D×Nat}(h:ac (if t=true then r else s) d):ac (CA t r s) d:=by
 cases t with
 | true =>
  rw[if_pos rfl]at h
  obtain⟨m,rfl,hm⟩:=h
  cases s with
  | ok q n=>exact⟨_,by show Rs.ok _ _=Rs.ok _ _;rw[sO,Cr],dH.mpr ⟨fg fun _=>hm,fg fun z=>(by cases z)⟩⟩
  | st=>exact⟨m,rfl,hm⟩
 | false =>
  rw[if_neg Bool.false_ne_true]at h
  obtain⟨m,rfl,hm⟩:=h
  cases r with
  | ok q n=>exact⟨_,by show Rs.ok _ _=Rs.ok _ _;rw[sP,Cs],dH.mpr ⟨fg fun z=>(by cases z),fg fun _=>hm⟩⟩
  | st=>exact⟨m,rfl,hm⟩
theorem j7{p:D×Nat}{f:Bool->Rs α}{a:α}(h:p.1=.bl b)(h2:ac (f b) a):ac (jG p f) a:=by
 unfold jG;rw[h];exact h2
theorem Li{p:D×Nat}{f:Int->R1}{a:D×Nat}{b:Int}(h:p.1=.int b)(h2:ac (f b) a):ac (jR p f) a:=by
 unfold jR;rw[h];exact h2
structure Mo(Φ:Fx)(n:Nat):Prop where
 e:∀(e:Expr) {it:Bool} {sc:Scope} {C ρ:ae} {p:D×Nat},sizeOf e<n->ac (au Φ e it sc C) p->Sub C ρ->ac (au Φ e it sc ρ) p
 es:∀(es:List Expr) {sc:Scope} {C ρ:ae} {p:List D×Nat},sizeOf es<n->ac (bi Φ es sc C) p->Sub C ρ->ac (bi Φ es sc ρ) p
 b:∀(op:BoolOp) (es:List Expr) {sc:Scope} {C ρ:ae} {b:Bool},sizeOf es<n->ac (dQ Φ op es sc C) b->Sub C ρ->ac (dQ Φ op es sc ρ) b
 o:∀(e:Option Expr) {sc:Scope} {C ρ:ae} {o:Option Int},sizeOf e<n->ac (k9 Φ e sc C) o->Sub C ρ->ac (k9 Φ e sc ρ) o
theorem vp{step step2:D->Rs (Option (D×Nat))}(h:∀d r,ac (step d) r->ac (step2 d) r):∀{ds:List D} {q:List D×Nat},ac (gD step ds) q->ac (gD step2 ds) q
 | [],q,hq=>hq
 | d::ds,q,hq=>by
  obtain⟨r,h1,h2⟩:=av (show ac (Rs.bnd _ _) q from hq)
  obtain⟨q1,h3,h4⟩:=av h2
  exact ac.bnd (h _ _ h1) (ac.bnd (vp h h3) h4)
section
variable{Φ:Fx}{n:Nat}{it:Bool}{sc:Scope}{C ρ:ae}{p:D×Nat}
theorem Cn(I:Mo Φ n){i:Expr}(hs:sizeOf (Expr.Subscript a i pos)<n+1)(h:ac ((au Φ a false sc C).bnd fun p=>(au Φ i false sc C).bnd fun q=>mz p q) p)(s:Sub C ρ):ac ((au Φ a false sc ρ).bnd fun p=>(au Φ i false sc ρ).bnd fun q=>mz p q) p:=by
 obtain⟨x,h1,h⟩:=av h
 obtain⟨y,h2,h⟩:=av h
 exact ac.bnd (I.e a (ba (by simp<;>omega) hs) h1 s) (ac.bnd (I.e i (ba (by simp<;>omega) hs) h2 s) h)
theorem OJ(I:Mo Φ n)(e:Expr)(hs:sizeOf e<n+1)(h:ac (au Φ e it sc C) p)(s:Sub C ρ):ac (au Φ e it sc ρ) p:=by
 cases e with
 | Constant c k q=>exact h
 | Name x q =>
  replace h:ac (jQ Φ x sc C) p:=h
  show ac (jQ Φ x sc ρ) p
  unfold jQ at h⊢
  split at h
  ·rename_i hx
   rw[if_pos hx]
   split at h
   ·rename_i hg;rw[if_pos hg];exact h
   ·rename_i hg
    rw[if_neg hg]
    split at h
    ·rename_i y hy;rw[s x y hy];exact h
    ·exact(ar h).elim
  ·exact(ar h).elim
 | BinOp a op b q =>
  obtain⟨x,h1,h⟩:=av (show ac (Rs.bnd _ _) p from h)
  obtain⟨y,h2,h⟩:=av h
  exact ac.bnd (I.e a (ba (by simp<;>omega) hs) h1 s) (ac.bnd (I.e b (ba (by simp<;>omega) hs) h2 s) h)
 | UnaryOp op a q =>
  obtain⟨x,h1,h⟩:=av (show ac (Rs.bnd _ _) p from h)
  exact ac.bnd (I.e a (ba (by simp<;>omega) hs) h1 s) h
 | BoolOp op es q =>
  rw[pI]at h⊢
  split at h
  ·exact(ar h).elim
  ·rename_i hne
   rw[if_neg hne]
   obtain⟨b,h1,h⟩:=av h
   exact ac.bnd (I.b op es (ba (by simp<;>omega) hs) h1 s) h
 | Compare a ops bs q =>
  match ops,bs,hs,h with
  | [op],[b],hs,h =>
   obtain⟨x,h1,h⟩:=av (show ac (Rs.bnd _ _) p from h)
   obtain⟨y,h2,h⟩:=av h
   exact ac.bnd (I.e a (ba (by simp<;>omega) hs) h1 s) (ac.bnd (I.e b (ba (by simp<;>omega) hs) h2 s) h)
  | [],bs,_,h=>exact(ar h).elim
  | [op],[],_,h=>exact(ar h).elim
  | [op],_::_::_,_,h=>exact(ar h).elim
  | [op,op2],[b,c],hs,h =>
   obtain⟨x,h1,h⟩:=av (show ac (Rs.bnd _ _) p from h)
   obtain⟨y,h2,h⟩:=av h
   obtain⟨z,h3,h⟩:=av h
   exact ac.bnd (I.e a (ba (by simp<;>omega) hs) h1 s) (ac.bnd (I.e b (ba (by simp<;>omega) hs) h2 s) (ac.bnd (I.e c (ba (by simp<;>omega) hs) h3 s) h))
  | [_,_],[],_,h=>exact(ar h).elim
  | [_,_],[_],_,h=>exact(ar h).elim
  | [_,_],_::_::_::_,_,h=>exact(ar h).elim
  | _::_::_::_,bs,_,h=>exact(ar h).elim
 | IfExp c a b q =>
  obtain⟨x,h1,h⟩:=av (show ac (Rs.bnd _ _) p from h)
  obtain⟨t,ht,h⟩:=ir h
  obtain⟨l,h,hp⟩:=h
  obtain⟨m,h,hm⟩:=vG h hp
  refine ac.bnd (I.e c (ba (by simp<;>omega) hs) h1 s) (j7 ht (Cz ?_))
  cases t with
  | true=>exact I.e a (ba (by simp<;>omega) hs) ⟨m,h,hm⟩ s
  | false=>exact I.e b (ba (by simp<;>omega) hs) ⟨m,h,hm⟩ s
 | Tuple es k q =>
  obtain⟨x,h1,h⟩:=av (show ac (Rs.bnd _ _) p from h)
  exact ac.bnd (I.es es (ba (by simp<;>omega) hs) h1 s) h
 | List es q =>
  obtain⟨x,h1,h⟩:=av (show ac (Rs.bnd _ _) p from h)
  exact ac.bnd (I.es es (ba (by simp<;>omega) hs) h1 s) h
 | Attribute a f q =>
  cases a with
  | Name x pn =>
   obtain⟨y,h1,h⟩:=av (show ac (Rs.bnd _ _) p from h)
   exact ac.bnd (I.e (.Name x pn) (it:=false) (ba (by simp<;>omega) hs) h1 s) h
  | _=>exact(ar h).elim
 | Dict ks vs q =>
  match ks,vs,h with
  | [],[],h=>exact h
  | _::_,_,h=>exact(ar h).elim
  | [],_::_,h=>exact(ar h).elim
 | Subscript a i q =>
  cases i with
  | Slice lo hi st p2 =>
   cases st with
   | none =>
    obtain⟨x,h1,h⟩:=av (show ac (Rs.bnd _ _) p from h)
    obtain⟨y,h2,h⟩:=av h
    obtain⟨z,h3,h⟩:=av h
    exact ac.bnd (I.e a (ba (by simp<;>omega) hs) h1 s) (ac.bnd (I.o lo (ba (by simp<;>omega) hs) h2 s) (ac.bnd (I.o hi (ba (by simp<;>omega) hs) h3 s) h))
   | some e=>exact Cn I hs h s
  | _=>exact Cn I hs h s
 | Call f args kws q =>
  cases f with
  | Name f fp =>
   cases kws with
   | nil =>
    rw[iH]at h⊢
    split at h
    ·rename_i hf
     rw[if_pos hf]
     obtain⟨x,h1,h⟩:=av h
     exact ac.bnd (I.es args (ba (by simp<;>omega) hs) h1 s) h
    ·exact(ar h).elim
   | cons _ _=>exact(ar h).elim
  | Attribute a m ap =>
   cases kws with
   | nil =>
    rw[jX]at h⊢
    split at h
    ·rename_i hf
     rw[if_pos hf]
     obtain⟨x,h1,h⟩:=av h
     obtain⟨y,h2,h⟩:=av h
     exact ac.bnd (I.e a (ba (by simp<;>omega) hs) h1 s) (ac.bnd (I.es args (ba (by simp<;>omega) hs) h2 s) h)
    ·exact(ar h).elim
   | cons _ _=>exact(ar h).elim
  | _=>exact(ar h).elim
 | ListComp elt gens scope q =>
  obtain⟨l0,h0,_⟩:=id h
  obtain⟨tg,iter,ifs,rfl⟩:=pw h0
  rw[pH]at h⊢
  split at h
  ·rename_i hc
   rw[if_pos hc]
   obtain⟨x,h1,h⟩:=av h
   refine ac.bnd (I.e iter (by first|omega|(simp at *;omega)) h1 s) ?_
   split at h
   ·split at h
    ·rename_i hl
     rw[if_pos hl]
     obtain⟨u0,h0',h⟩:=av h
     obtain⟨y,h2,h⟩:=av h
     refine ac.bnd h0' (ac.bnd (vp (fun d r hr=>?_) h2) h)
     split at hr
     ·exact(ar hr).elim
     ·rename_i C' hb
      obtain⟨ρ',hb',s'⟩:=r6 hb (s.flt scope)
      rw[hb']
      obtain⟨b,h3,hr⟩:=av hr
      refine ac.bnd (I.b .And ifs (by first|omega|(simp at *;omega)) h3 s') ?_
      cases b with
      | false=>exact hr
      | true =>
       rw[cond_true]at hr⊢
       obtain⟨z,h4,hr⟩:=av hr
       exact ac.bnd (I.e elt (by first|omega|(simp at *;omega)) h4 s') hr
    ·exact(ar h).elim
   ·exact(ar h).elim
  ·exact(ar h).elim
 | _=>exact(ar h).elim
theorem K0(I:Mo Φ n)(es:List Expr){p:List D×Nat}(hs:sizeOf es<n+1)(h:ac (bi Φ es sc C) p)(s:Sub C ρ):ac (bi Φ es sc ρ) p:=by
 cases es with
 | nil=>exact h
 | cons e es =>
  obtain⟨x,h1,h⟩:=av (show ac (Rs.bnd _ _) p from h)
  obtain⟨y,h2,h⟩:=av h
  exact ac.bnd (I.e e (ba (by simp<;>omega) hs) h1 s) (ac.bnd (I.es es (ba (by simp<;>omega) hs) h2 s) h)
theorem OK(I:Mo Φ n)(op:BoolOp)(es:List Expr)(hs:sizeOf es<n+1)(h:ac (dQ Φ op es sc C) b)(s:Sub C ρ):ac (dQ Φ op es sc ρ) b:=by
 cases es with
 | nil=>cases op<;>exact h
 | cons e es =>
  cases op with
  | And =>
   obtain⟨x,h1,h⟩:=av (show ac (Rs.bnd _ _) b from h)
   obtain⟨t,ht,l,h,hp⟩:=ir h
   refine ac.bnd (I.e e (ba (by simp<;>omega) hs) h1 s) (j7 ht ?_)
   rcases ui h hp with⟨rfl,m,h,pm⟩|⟨rfl,rfl⟩
   ·exact uj (fun _=>I.b .And es (ba (by simp<;>omega) hs) ⟨m,h,pm⟩ s) fun z=>(by cases z)
   ·exact uj (fun z=>(by cases z)) fun _=>rfl
  | Or =>
   obtain⟨x,h1,h⟩:=av (show ac (Rs.bnd _ _) b from h)
   obtain⟨t,ht,l,h,hp⟩:=ir h
   refine ac.bnd (I.e e (ba (by simp<;>omega) hs) h1 s) (j7 ht ?_)
   rcases vm h hp with⟨rfl,m,h,pm⟩|⟨rfl,rfl⟩
   ·exact wC (fun _=>I.b .Or es (ba (by simp<;>omega) hs) ⟨m,h,pm⟩ s) fun z=>(by cases z)
   ·exact wC (fun z=>(by cases z)) fun _=>rfl
theorem OI(I:Mo Φ n)(e:Option Expr){o:Option Int}(hs:sizeOf e<n+1)(h:ac (k9 Φ e sc C) o)(s:Sub C ρ):ac (k9 Φ e sc ρ) o:=by
 cases e with
 | none=>exact h
 | some e =>
  obtain⟨x,h1,h⟩:=av (show ac (Rs.bnd _ _) o from h)
  exact ac.bnd (I.e e (ba (by simp<;>omega) hs) h1 s) h
end
theorem jx(Φ:Fx):∀n,Mo Φ n
 | 0=>⟨fun _ _ _ _ _ _ h=>absurd h (Nat.not_lt_zero _),fun _ _ _ _ _ h=>absurd h (Nat.not_lt_zero _),fun _ _ _ _ _ _ h=>absurd h (Nat.not_lt_zero _),fun _ _ _ _ _ h=>absurd h (Nat.not_lt_zero _)⟩
 | n+1=>⟨fun e _ _ _ _ _ hs h s=>OJ (jx Φ n) e hs h s,fun e _ _ _ _ hs h s=>K0 (jx Φ n) e hs h s,fun op e _ _ _ _ hs h s=>OK (jx Φ n) op e hs h s,fun e _ _ _ _ hs h s=>OI (jx Φ n) e hs h s⟩
theorem dn{p:D×Nat}(h:ac (au Φ e it sc C) p)(s:Sub C ρ):ac (au Φ e it sc ρ) p:=(jx Φ _).e e (Nat.lt_succ_self _) h s
theorem pk{e:List Expr}{p:List D×Nat}(h:ac (bi Φ e sc C) p)(s:Sub C ρ):ac (bi Φ e sc ρ) p:=(jx Φ _).es e (Nat.lt_succ_self _) h s
def BJ:Fl->Fl->Prop
 | .nx a,.nx b=>Sub a b
 | .bk a,.bk b=>Sub a b
 | .ct a,.ct b=>Sub a b
 | .rt a,.rt b=>a=b
 | _,_=>False
theorem cw{a:α}:ac (.ok a []) a:=⟨[],rfl,True.intro⟩
def kA(f:ae->Rs Fl):Prop:=∀C ρ fl,ac (f C) fl->Sub C ρ->∃fl',ac (f ρ) fl'/\BJ fl fl'
theorem yQ{f:ae->Rs Fl}(h:kA f){x y z:Fl}(hx:ac (l9 f x) z)(s:BJ x y):∃z',ac (l9 f y) z'/\BJ z z':=by
 cases x<;>cases y<;>first|exact s.elim|skip
 ·exact h _ _ _ hx s
 ·cases aC hx;cases s;exact⟨_,cw,rfl⟩
 ·cases aC hx;exact⟨_,cw,s⟩
 ·exact h _ _ _ hx s
theorem yR{sc:Scope}{tg:Expr}{body:ae->Rs Fl}(hb:kA body):∀ds,kA (dF (bF sc tg) body ds)
 | []=>fun C ρ fl h s=>by cases aC h;exact⟨_,cw,s⟩
 | d::ds=>fun C ρ fl h s=>by
  replace h:ac (match bF sc tg d C with|none=>(.st:Rs Fl)|some ρ1=>(body ρ1).bnd (l9 (dF (bF sc tg) body ds))) fl:=h
  split at h
  ·exact(ar h).elim
  ·rename_i C1 hC
   obtain⟨ρ1,hρ,s1⟩:=r6 hC s
   obtain⟨x,h1,h2⟩:=av h
   obtain⟨y,h3,s2⟩:=hb _ _ _ h1 s1
   obtain⟨z,h4,s3⟩:=yQ (yR hb ds) h2 s2
   refine⟨z,?_,s3⟩
   show ac (match bF sc tg d ρ with|none=>(.st:Rs Fl)|some ρ1=>(body ρ1).bnd (l9 (dF (bF sc tg) body ds))) z
   rw[hρ];exact ac.bnd h3 h4
theorem Cl{test:ae->Rs Bool}{body:ae->Rs Fl}(ht:∀C ρ b,ac (test C) b->Sub C ρ->ac (test ρ) b)(hb:kA body):∀n,kA (lX test body n)
 | 0=>fun C ρ fl h s=>(ar h).elim
 | n+1=>fun C ρ fl h s=>by
  obtain⟨b,h1,h2⟩:=av (show ac (Rs.bnd _ _) fl from h)
  have h1':=ht _ _ _ h1 s
  cases b with
  | false=>cases aC h2;exact⟨_,ac.bnd h1' cw,s⟩
  | true =>
   obtain⟨x,h3,h4⟩:=av (show ac (Rs.bnd _ _) fl from h2)
   obtain⟨y,h5,s2⟩:=hb _ _ _ h3 s
   obtain⟨z,h6,s3⟩:=yQ (Cl ht hb n) h4 s2
   exact⟨z,ac.bnd h1' (ac.bnd h5 h6),s3⟩
theorem Hx:kA (n9 Φ tgs e sc):=by
 intro C ρ fl h s
 unfold n9 at h⊢
 split at h
 ·obtain⟨p,h1,h⟩:=av h
  unfold o8 at h
  split at h
  ·rename_i hx
   split at h
   ·rename_i ho;cases aC h
    exact⟨.nx _,ac.bnd (dn h1 s) (by unfold o8;rw[if_pos hx,ho];exact cw),s.put _ _⟩
   ·rename_i ho;cases aC h
    exact⟨.nx _,ac.bnd (dn h1 s) (by unfold o8;rw[if_pos hx,ho];exact cw),s.put _ _⟩
   ·exact(ar h).elim
  ·exact(ar h).elim
 ·split at h
  ·rename_i ht
   rw[if_pos ht]
   unfold n6 at h⊢
   split at h
   ·split at h
    ·rename_i hp
     rw[if_pos hp]
     obtain⟨q,h1,h⟩:=av h
     split at h
     ·rename_i u v hd
      split at h
      ·rename_i hf
       cases aC h
       refine⟨.nx _,ac.bnd (pk h1 s) ?_,(s.put _ _).put _ _⟩
       rw[hd];dsimp only;rw[if_pos hf];exact cw
      ·exact(ar h).elim
     ·exact(ar h).elim
    ·exact(ar h).elim
   ·exact(ar h).elim
  ·rename_i ht
   rw[if_neg ht]
   obtain⟨p,h1,h⟩:=av h
   split at h
   ·rename_i ho
    cases aC h
    refine⟨.nx _,ac.bnd (dn h1 s) (by rw[if_pos ho];exact cw),?_⟩
    show Sub _ _
    unfold AK
    split
    ·exact(s.put _ _).put _ _
    ·exact s
   rename_i ho
   split at h
   ·rename_i ds hd
    split at h
    ·rename_i hf
     split at h
     ·rename_i C' hb
      cases aC h
      obtain⟨ρ',hb',s'⟩:=qh hb s
      refine⟨.nx _,ac.bnd (dn h1 s) ?_,s'⟩
      rw[if_neg ho,hd];dsimp only;rw[if_pos hf,hb'];exact cw
     ·exact(ar h).elim
    ·exact(ar h).elim
   ·exact(ar h).elim
 ·split at h
  ·rename_i hc
   rw[if_pos hc]
   obtain⟨p,h1,h⟩:=av h
   obtain⟨q,h2,h⟩:=av h
   rcases r8 h with⟨l,j,l',a1,a2,a3,hj,hs,hf,rfl⟩|hF
   ·refine⟨.nx _,ac.bnd (dn h1 s) (ac.bnd (dn h2 s) ?_),s.put _ _⟩
    rw[hj];unfold wk;rw[s _ _ a1];dsimp only;rw[if_pos a3,hs]
    exact⟨_,rfl,a2,hf,True.intro⟩
   ·exact hF.elim
  ·exact(ar h).elim
 ·exact(ar h).elim
theorem Hw{t:Expr}{op:Operator}:kA (n8 Φ t op e sc):=by
 intro C ρ fl h s
 unfold n8 at h⊢
 split at h
 ·split at h
  ·rename_i hx
   rw[if_pos hx]
   split at h
   ·rename_i p hp
    rw[s _ _ hp]
    obtain⟨r,h1,h⟩:=av h
    cases aC h
    obtain⟨a,ha,h3⟩:=pe h1
    obtain⟨q,h2,h4⟩:=av h3
    exact⟨.nx _,ac.bnd (Li ha (ac.bnd (dn h2 s) h4)) cw,s.put _ _⟩
   ·exact(ar h).elim
  ·exact(ar h).elim
 ·exact(ar h).elim
theorem Hv:kA (jW Φ e sc):=by
 intro C ρ fl h s
 unfold jW at h⊢
 split at h
 ·split at h
  ·rename_i hln
   rw[if_pos hln]
   obtain⟨p,h1,h⟩:=av h
   split at h
   ·rename_i M hM
    obtain⟨l,a1,a3,h⟩:=sG h
    obtain⟨l',h2,h⟩:=av h
    cases aC h
    refine⟨.nx _,ac.bnd (pk h1 s) ?_,s.put _ _⟩
    unfold sH;rw[s _ _ a1];dsimp only;rw[if_pos a3];exact ac.bnd h2 cw
   ·exact(ar h).elim
  ·exact(ar h).elim
 ·obtain⟨p,h1,h⟩:=av h
  cases aC h
  exact⟨.nx _,ac.bnd (dn h1 s) cw,s⟩
 ·exact(ar h).elim
structure J9(Φ:Fx)(n:Nat):Prop where
 s:∀(st:Stmt) (sc:Scope),sizeOf st<n->kA (eR Φ st sc)
 ss:∀(st:List Stmt) (sc:Scope),sizeOf st<n->kA (az Φ st sc)
theorem KZ(I:J9 Φ n)(st:Stmt)(sc:Scope)(hs:sizeOf st<n+1):kA (eR Φ st sc):=by
 intro C ρ fl h s
 cases st with
 | Return e p =>
  cases e with
  | none=>cases aC h;exact⟨_,cw,rfl⟩
  | some e =>
   obtain⟨p,h1,h⟩:=av (show ac (Rs.bnd _ _) fl from h)
   have s':Sub (sy e C) (sy e ρ):=by
    unfold sy
    cases rm e with
    | false=>exact s
    | true =>
     intro x y hx
     have hx:(C x).map (fun p=>(p.1,false))=some y:=hx
     show(ρ x).map (fun p=>(p.1,false))=some y
     cases e:C x with
     | none=>rw[e]at hx;cases hx
     | some z=>rw[e]at hx;rw[s x z e];exact hx
   refine⟨fl,ac.bnd (dn h1 s') h,?_⟩
   unfold wv at h
   split at h
   ·cases aC h;rfl
   ·exact(ar h).elim
 | Pass p=>cases aC h;exact⟨_,cw,s⟩
 | Break p=>cases aC h;exact⟨_,cw,s⟩
 | Continue p=>cases aC h;exact⟨_,cw,s⟩
 | Assign tgs e p=>exact Hx C ρ fl h s
 | AugAssign t op e p=>exact Hw C ρ fl h s
 | Expr e p=>exact Hv C ρ fl h s
 | If c a b p =>
  obtain⟨p,h1,h⟩:=av (show ac (Rs.bnd _ _) fl from h)
  obtain⟨t,ht,h⟩:=ir h
  cases t with
  | true =>
   obtain⟨z,h2,s2⟩:=I.ss a sc (ba (by simp<;>omega) hs) C ρ fl h s
   exact⟨z,ac.bnd (dn h1 s) (j7 ht h2),s2⟩
  | false =>
   obtain⟨z,h2,s2⟩:=I.ss b sc (ba (by simp<;>omega) hs) C ρ fl h s
   exact⟨z,ac.bnd (dn h1 s) (j7 ht h2),s2⟩
 | For tg it body els p =>
  rw[pE]at h⊢
  split at h
  ·rename_i he
   rw[if_pos he]
   obtain⟨p,h1,h⟩:=av h
   split at h
   ·rename_i ds hd
    split at h
    ·rename_i hk
     obtain⟨z,h2,s2⟩:=yR (I.ss body sc (ba (by simp<;>omega) hs)) ds _ _ fl h (s.demote it)
     refine⟨z,ac.bnd (dn h1 (s.demote it)) ?_,s2⟩
     rw[hd];dsimp only;rw[if_pos hk];exact h2
    ·exact(ar h).elim
   ·exact(ar h).elim
  ·exact(ar h).elim
 | While c body els p =>
  rw[tN]at h⊢
  split at h
  ·rename_i he
   rw[if_pos he]
   refine Cl (fun C ρ b hb s=>?_) (I.ss body sc (ba (by simp<;>omega) hs)) b8 C ρ fl h s
   obtain⟨q,h1,hb⟩:=av hb
   exact ac.bnd (dn h1 s) hb
  ·exact(ar h).elim
 | _=>exact(ar h).elim
theorem Hu(I:J9 Φ n)(ss:List Stmt)(sc:Scope)(hs:sizeOf ss<n+1):kA (az Φ ss sc):=by
 intro C ρ fl h s
 cases ss with
 | nil=>cases aC h;exact⟨_,cw,s⟩
 | cons st ss =>
  rcases r9 h with⟨C',h1,h2⟩|⟨h1,h2⟩
  ·obtain⟨x,h3,s2⟩:=I.s st sc (ba (by simp<;>omega) hs) C ρ _ h1 s
   cases x with
   | nx ρ' =>
    obtain⟨z,h4,s3⟩:=I.ss ss sc (ba (by simp<;>omega) hs) C' ρ' fl h2 s2
    exact⟨z,bA h3 h4,s3⟩
   | rt _=>exact s2.elim
   | bk _=>exact s2.elim
   | ct _=>exact s2.elim
  ·obtain⟨x,h3,s2⟩:=I.s st sc (ba (by simp<;>omega) hs) C ρ _ h2 s
   refine⟨x,kF h3 fun ρ' z=>?_,s2⟩
   subst z
   cases fl<;>first|exact h1 _ rfl|exact s2
theorem lG(Φ:Fx):∀n,J9 Φ n
 | 0=>⟨fun _ _ h=>absurd h (Nat.not_lt_zero _),fun _ _ h=>absurd h (Nat.not_lt_zero _)⟩
 | n+1=>⟨fun e sc hs=>KZ (lG Φ n) e sc hs,fun e sc hs=>Hu (lG Φ n) e sc hs⟩
theorem Ej(h:ac (az Φ ss sc C) (.nx C'))(s:Sub C ρ):∃ρ',ac (az Φ ss sc ρ) (.nx ρ')/\Sub C' ρ':=by
 obtain⟨z,h1,h2⟩:=(lG Φ _).ss ss sc (Nat.lt_succ_self _) C ρ _ h s
 cases z with
 | nx ρ'=>exact⟨ρ',h1,h2⟩
 | rt _=>exact h2.elim
 | bk _=>exact h2.elim
 | ct _=>exact h2.elim
theorem Ei(h:ac (az Φ ss sc C) (.rt d))(s:Sub C ρ):ac (az Φ ss sc ρ) (.rt d):=by
 obtain⟨z,h1,h2⟩:=(lG Φ _).ss ss sc (Nat.lt_succ_self _) C ρ _ h s
 cases z with
 | rt _=>cases h2;exact h1
 | nx _=>exact h2.elim
 | bk _=>exact h2.elim
 | ct _=>exact h2.elim
def cW:List (Str×D×Bool)->ae
 | []=>fun _=>none
 | p::l=>fun z=>if z=p.1 then some p.2 else cW l z
theorem bW:Sub (cW []) ρ:=fun _ _ h=>by cases h
theorem aJ{y:D×Bool}{l:List (Str×D×Bool)}(h:ρ x=some y)(g:Sub (cW l) ρ):Sub (cW ((x,y)::l)) ρ:=fun z w e=>by
 replace e:(if z=x then some y else cW l z)=some w:=e
 by_cases hz:z=x
 ·rw[if_pos hz]at e;cases e;rw[hz];exact h
 ·rw[if_neg hz]at e;exact g z w e
theorem Sub.get{y:D×Bool}(s:Sub C ρ)(h:C x=some y:=by rfl):ρ x=some y:=s x y h
section
variable{Φ:Fx}{sc:Scope}{ρ ρ':ae}{fl:Fl}{ss:List Stmt}
theorem iu{P:ae->Prop}(s:Sub C ρ)(h:ac (az Φ ss sc C) (.nx C'))(k:∀ρ',Sub C' ρ'->P ρ'):∃ρ',ac (az Φ ss sc ρ) (.nx ρ')/\P ρ' :=
 let ⟨ρ',h1,h2⟩:=Ej h s;⟨ρ',h1,k ρ' h2⟩
theorem cS(s:Sub C ρ)(h:ac (az Φ ss sc C) (.rt d)):ac (az Φ ss sc ρ) (.rt d):=Ei h s
theorem fv{p:D×Nat}(s:Sub C ρ)(h:ac (au Φ e it sc C) p):ac (au Φ e it sc ρ) p:=dn h s
theorem vd{it:Expr}(ah:List D->ae->Prop)(hi:ac (au Φ it true sc (demote it ρ)) (d,k))(h0:ah ds (demote it ρ))
  (step:∀d l ρ,ah (d::l) ρ->∃ρ1,bF sc tg d ρ=some ρ1/\∃ρ2,ac (az Φ body sc ρ1) (.nx ρ2)/\ah l ρ2) (rest:∀ρ',ah [] ρ'->ac (az Φ ss sc ρ') fl) (hd:items d=some ds:=by rfl) (hk:k<=1:=by first|exact Nat.le_refl 1|exact Nat.zero_le 1) (ht:eL it tg=true:=by rfl):ac (az Φ (.For tg it body [] p::ss) sc ρ) fl:=by
 obtain⟨ρ',h1,h2⟩:=tK (bind:=bF sc tg) (body:=az Φ body sc) ah (fun d l ρ h=>let ⟨ρ1,a,ρ2,b,c⟩:=step d l ρ h;⟨ρ1,ρ2,a,.inl b,c⟩) h0
 exact bA (tM hi hd hk ht h1) (rest ρ' h2)
theorem Du{it:Expr}(ah:List D->ae->Prop)(R:D->Prop)(hi:ac (au Φ it true sc (demote it ρ)) (d,k))(h0:ah ds (demote it ρ))
  (step:∀d l ρ,ah (d::l) ρ->∃ρ1,bF sc tg d ρ=some ρ1/\((∃ρ2,ac (az Φ body sc ρ1) (.nx ρ2)/\ah l ρ2)\/∃r,ac (az Φ body sc ρ1) (.rt r)/\R r)) (rest:∀ρ',ah [] ρ'->∃r,ac (az Φ ss sc ρ') (.rt r)/\R r) (hd:items d=some ds:=by rfl) (hk:k<=1:=by first|exact Nat.le_refl 1|exact Nat.zero_le 1) (ht:eL it tg=true:=by rfl):∃r,ac (az Φ (.For tg it body [] p::ss) sc ρ) (.rt r)/\R r:=by
 rcases vK (bind:=bF sc tg) (body:=az Φ body sc) ah R (fun d l ρ h=>by
  obtain⟨ρ1,a,b⟩:=step d l ρ h
  rcases b with⟨ρ2,b,c⟩|⟨r,b,c⟩
  ·exact⟨ρ1,a,.inl ⟨ρ2,.inl b,c⟩⟩
  ·exact⟨ρ1,a,.inr ⟨r,b,c⟩⟩) h0 with⟨ρ',h1,h2⟩|⟨r,h1,h2⟩
 ·obtain⟨r,h3,h4⟩:=rest ρ' h2
  exact⟨r,bA (tM hi hd hk ht h1) h3,h4⟩
 ·exact⟨r,bf (tM hi hd hk ht h1),h2⟩
theorem ve{it:Expr}(ah:Nat->ae->Prop)(hi:ac (au Φ it true sc (demote it ρ)) (.lst ((List.range n).map fun i=>.int (i:Nat)),0))(h0:ah 0 (demote it ρ))
  (step:∀i ρ,i<n->ah i ρ->∃ρ1,bF sc tg (.int (i:Nat)) ρ=some ρ1/\∃ρ2,ac (az Φ body sc ρ1) (.nx ρ2)/\ah (i+1) ρ2) (rest:∀ρ',ah n ρ'->ac (az Φ ss sc ρ') fl) (ht:eL it tg=true:=by rfl):ac (az Φ (.For tg it body [] p::ss) sc ρ) fl:=by
 refine vd (fun rem ρ => ∃i,i<=n/\rem=(List.range' i (n-i)).map (fun i=>D.int (i:Nat))/\ah i ρ) hi ⟨0,Nat.zero_le _,by rw[List.range_eq_range'];simp,h0⟩ ?_ ?_ rfl (Nat.zero_le 1) ht
 ·rintro d l ρ ⟨i,hi,e,h⟩
  have hlt:i<n:=by
   rcases Nat.lt_or_ge i n with h|h
   ·exact h
   ·rw[show n-i=0 by omega]at e;cases e
  obtain⟨m,hm⟩:∃m,n-i=m+1:=⟨n-i-1,by omega⟩
  rw[hm,List.range'_succ,List.map_cons]at e
  cases e
  obtain⟨ρ1,h1,ρ2,h2,h3⟩:=step i ρ hlt h
  exact⟨ρ1,h1,ρ2,h2,i+1,hlt,by rw[show n-(i+1)=m by omega],h3⟩
 ·rintro ρ ⟨i,hi,e,h⟩
  have:i=n:=by
   rcases Nat.lt_or_ge i n with h|h
   ·obtain⟨m,hm⟩:∃m,n-i=m+1:=⟨n-i-1,by omega⟩
    rw[hm,List.range'_succ]at e;cases e
   ·omega
  subst this
  exact rest ρ h
theorem gb{b:Expr}{x:D}(ha:ac (au Φ a false sc ρ) (x,k))(hb:ac (au Φ b false sc ρ) (y,j))(h:ac (gW op x y) r):ac (au Φ (.Compare a [op] [b] p) it sc ρ) (.bl r,0) :=
 ac.bnd ha (ac.bnd hb (ac.bnd h cw))
theorem tQ(ha:ac (au Φ a false sc ρ) (.bl b,k)):ac (au Φ (.UnaryOp .Not a p) it sc ρ) (.bl (!b),0):=ac.bnd ha cw
theorem cz{op:BoolOp}(h:ac (dQ Φ op (e::es) sc ρ) b):ac (au Φ (.BoolOp op (e::es) p) it sc ρ) (.bl b,0):=by
 rw[pI,if_neg (show ¬ (List.isEmpty (e::es)=true)from Bool.false_ne_true)];exact ac.bnd h cw
theorem ef{c:Bool}(h:ac (au Φ e false sc ρ) (.bl b,k))(h1:b=true->ac (dQ Φ .And es sc ρ) c)(h2:b=false->c=false):ac (dQ Φ .And (e::es) sc ρ) c:=ac.bnd h (j7 rfl (uj h1 h2))
theorem fZ{c:Bool}(h:ac (au Φ e false sc ρ) (.bl b,k))(h1:b=false->ac (dQ Φ .Or es sc ρ) c)(h2:b=true->c=true):ac (dQ Φ .Or (e::es) sc ρ) c:=ac.bnd h (j7 rfl (wC h1 h2))
theorem oa{c:Bool}(h:ac (au Φ e false sc ρ) (.bl true,k))(h1:ac (dQ Φ .And es sc ρ) c):ac (dQ Φ .And (e::es) sc ρ) c:=ef h (fun _=>h1) fun z=>by cases z
theorem fD{c:Bool}(h:ac (au Φ e false sc ρ) (.bl false,k))(h1:ac (dQ Φ .Or es sc ρ) c):ac (dQ Φ .Or (e::es) sc ρ) c:=fZ h (fun _=>h1) fun z=>by cases z
theorem og:ac (dQ Φ .And [] sc ρ) true:=cw
theorem k8:ac (dQ Φ .Or [] sc ρ) false:=cw
theorem ac.bl{r:R1}{c:Bool}(h:ac r (.bl b,k))(e:b=c):ac r (.bl c,k):=e ▸ h
theorem tR(h:ac (bi Φ es sc ρ) (ds,k))(hl:ds.length<=b8/\k<=1):ac (au Φ (.List es p) it sc ρ) (.lst ds,k):=ac.bnd h (by dsimp only;rw[if_pos hl];exact cw)
theorem cn{x:D}{l:Option Int}{r:D×Nat}(ha:ac (au Φ a false sc ρ) (x,k))(hl:ac (k9 Φ lo sc ρ) l)(hh:ac (k9 Φ hi sc ρ) h)(hr:ac (Φ.slf x l h) r):ac (au Φ (.Subscript a (.Slice lo hi none p2) p) it sc ρ) r:=ac.bnd ha (ac.bnd hl (ac.bnd hh hr))
theorem iG{g f:α->D}{l:List α}(hi:ac (au Φ iter true sc ρ) (d,k))(hd:items d=some (l.map g))(hl:l.length<=b8)(hk:ax (l.map g)=true\/k<=1)
  (h:∀x∈l,∃ρ',bF scope tg (g x) (flt scope ρ)=some ρ'/\ac (au Φ elt false scope ρ') (f x,0)) (hc:oC sc scope=true:=by rfl) (ht:eL iter tg=true:=by rfl):ac (au Φ (.ListComp elt [⟨tg,iter,[],0⟩] scope p) it sc ρ) (.lst (l.map f),0):=by
 refine pG hi hd ⟨by rw[List.length_map];exact hl,hk⟩ (qC fun x hx=>?_) (Nat.zero_le _) hc ht
 obtain⟨ρ',h1,h2⟩:=h x hx
 rw[h1]
 refine ac.bnd (a:=true) cw ?_
 rw[cond_true]
 exact ac.bnd h2 cw
end
theorem HC(h:us.length=1):∃a,us=[a]:=List.length_eq_one_iff.mp h
theorem A3(h:us.length=n+1):∃a r,us=a::r/\r.length=n:=by
 cases us with
 | nil=>cases h
 | cons a r=>exact⟨a,r,rfl,by simpa using h⟩
theorem A4(h:us.length=2):∃a b,us=[a,b]:=by
 obtain⟨a,r,e1,h1⟩:=A3 h;subst e1;obtain⟨b,rfl⟩:=HC h1;exact⟨a,b,rfl⟩
theorem ON(h:us.length=3):∃a b c,us=[a,b,c]:=by
 obtain⟨a,r,e1,h1⟩:=A3 h;subst e1;obtain⟨b,c,rfl⟩:=A4 h1;exact⟨a,b,c,rfl⟩
theorem OM(h:us.length=4):∃a b c d,us=[a,b,c,d]:=by
 obtain⟨a,r,e1,h1⟩:=A3 h;subst e1;obtain⟨b,c,d,rfl⟩:=ON h1;exact⟨a,b,c,d,rfl⟩
end Sp
namespace Qm
end Qm
namespace K
open PySem L2 Sp
variable{α β:Type}
structure Dc(α:Type) where
 dec:D->Option α
 enc:α->D
 ok:∀x a,dec x=some a->x=enc a
def dI:Dc Int:=⟨fun | .int i=>some i|_=>none,.int,fun x a h=>by cases x<;>cases h;rfl⟩
def dL:Dc (List D):=⟨fun | .lst i=>some i|_=>none,.lst,fun x a h=>by cases x<;>cases h;rfl⟩
def B9{α β:Type}(A:Dc α)(B:Dc β)(f:α->β->Rs D):List D->Rs D
 | [x,y]=>(match A.dec x with|some a=>(match B.dec y with|some b=>f a b|none=>.st)|none=>.st)
 | _=>.st
theorem zx{A:Dc α}{x:D}{f:α->Rs β}{r:β}(h:ac (match A.dec x with|some a=>f a|none=>.st) r):∃a,x=A.enc a/\ac (f a) r:=by
 split at h
 ·rename_i a e;exact⟨a,A.ok _ _ e,h⟩
 ·exact(ar h).elim
theorem vf{A:Dc α}{B:Dc β}{f:α->β->Rs D}{ds:List D}{r:D}(h:ac (B9 A B f ds) r):∃a b,ds=[A.enc a,B.enc b]/\ac (f a b) r:=by
 unfold B9 at h
 split at h
 ·obtain⟨a,e1,h1⟩:=zx h
  obtain⟨b,e2,h2⟩:=zx h1
  exact⟨a,b,by rw[e1,e2],h2⟩
 ·exact(ar h).elim
def Q7:D->Int
 | .int i=>i
 | _=>0
def nq(l:List D):List Int:=l.map Q7
theorem jO(ns:List Int):nq (ns.map D.int)=ns:=by
 induction ns with
 | nil=>rfl
 | cons n ns ih=>show n::nq (ns.map D.int)=_;rw[ih]
def okL(l:List D):Prop:=∃ns:List Int,l=ns.map D.int
def eV(ns:List Int)(k:Int):Int:=if ns=[]then 0 else ns.getD (k.fmod ns.length).toNat 0
def oB(ns:List Int)(k:Int):Int :=
 (eV ns k).fdiv 2147483647*2147483647+((((eV ns k).fmod 2147483647+7919*k+1)*48271).fmod 2147483647*69621+k).fmod 2147483647
def eY(l:List D)(k:Int):Int:=oB (nq l) k
abbrev t4(a b c d:Int):D:=.tup [.int a,.int b,.int c,.int d]
abbrev Qd:=Int×Int×Int×Int
def dq(q:Qd):D:=t4 q.1 q.2.1 q.2.2.1 q.2.2.2
theorem nI{α:Type}{G:α->D}(h:∀x,(G x).lless=true):∀l:List α,ax (l.map G)=true
 | []=>rfl
 | x::l=>by rw[List.map_cons,ax,h x,nI h l];rfl
@[simp] theorem cV(a b:Int):eqD (.int a) (.int b)=decide (a=b):=by
 show(a==b)=_
 rw[Bool.eq_iff_iff];simp
@[simp] theorem eqD_q(p q:Qd):eqD (dq p) (dq q)=decide (p=q):=by
 show(p.1==q.1&&(p.2.1==q.2.1&&(p.2.2.1==q.2.2.1&&(p.2.2.2==q.2.2.2&&true))))=_
 obtain⟨a,b,c,d⟩:=p;obtain⟨e,f,g,h⟩:=q
 rw[Bool.eq_iff_iff];simp
end K
namespace Sp
open PySem PySem.Spec PyProof.Rows L2
open AutoSeq1 (wpAny_loadPart')
variable{k m:Nat}{c:Expr}{p:Pos}
section
variable{prog:Program}{w:World}{A:Around}{E:Value->Shared->Prop}{s:Shared}
variable{n l1 l2 l3:Nat}{xs ys ws:Array Value}{x y u:Value}{f0 f1:Value}
end
open AutoSeq1 (wpAny_loadPart')
section
variable{prog:Program}{w:World}{A:Around}{E:Value->Shared->Prop}{s:Shared}
end
section
variable{prog:Program}{w:World}{A:Around}{E:Value->Shared->Prop}{s:Shared}
end
variable{X:Cx}
theorem o3{Φ:Fx}{sc:Scope}{H0:Hp}{fl:Fl}{rest:List Stmt}(G:aO Φ X sc)(hp:PassesOwn (model X.prog X.w) X.A X.env X.xe):∀{pre:List Stmt} {ρ ρ1:ae},ac (az Φ pre sc ρ) (.nx ρ1)->fR X H0 ρ1 rest fl->fR X H0 ρ (pre++rest) fl
 | [],ρ,ρ1,h,k=>by cases aC h;exact k
 | st::ss,ρ,ρ1,h,k=>by
  obtain⟨f1,h1,h2⟩:=av (show ac (Rs.bnd _ _) _ from h)
  cases f1 with
  | nx ρ'=>exact eM ((iC Φ _).s st (Nat.lt_succ_self _) h1 G hp) (o3 G hp h2 k)
  | rt d=>cases aC h2
  | bk ρ'=>cases aC h2
  | ct ρ'=>cases aC h2
theorem kZ{P:Program}{w:World}{K:W.Frag}{mg:Str->Option Value}{base:Heap}{g:Str}{f:Addr}{fd:FuncData}{ps:List Str}{F:List D->Rs D}(h:aZ P w K mg base cj k f fd ps (jo K F))(hm:mg g=some (.ref f))(hk:W.keepIn K (.ref f)=true)(hb:bH K fd ps [])(hd:(g==("__debug__" : Str))=false):dg P w K mg base k g F :=
 ⟨f,fd,ps,h,hm,hk,hb,hd⟩
theorem vj{Φ:Fx}{sc:Scope}{H0:Hp}{rest:List Stmt}{t:TS}(G:aO Φ X sc)(hp:PassesOwn (model X.prog X.w) X.A X.env X.xe)(hr:c5 X rest t):∀{pre:List Stmt} {ρ ρ1:ae},ac (az Φ pre sc ρ) (.nx ρ1) ->
  c5 X (pre++rest) (fun D σ H => ∃ow,aH X ow H σ ρ/\σ.length=X.N.length/\bL H0 ow H/\∀ow' σ' H',aH X ow' H' σ' ρ1->σ'.length=X.N.length->bL H0 ow' H'->t D σ' H')
 | [],ρ,ρ1,h=>by
  cases aC h
  exact fun pins s σ H D I ⟨ow,E,hl,B,q⟩=>hr pins s σ H D I (q ow σ H E hl B)
 | st::ss,ρ,ρ1,h=>by
  obtain⟨f1,h1,h2⟩:=av (show ac (Rs.bnd _ _) _ from h)
  cases f1 with
  | nx ρ' =>
   have sd:=(iC Φ _).s st (H0:=H0) (Nat.lt_succ_self _) h1 G hp
   have ih:=vj (H0:=H0) G hp hr h2
   exact fun pins s σ H D I ⟨ow,E,hl,B,q⟩=>cD sd ih pins s σ H D I ⟨ow,E,hl,B,fun ow' σ' H' E' hl' k=>⟨ow',E',hl',B.keep k,q⟩⟩
  | rt d=>cases aC h2
  | bk ρ'=>cases aC h2
  | ct ρ'=>cases aC h2
variable{Φ:Fx}{sc:Scope}{ρ ρ':ae}{fl:Fl}{ss:List Stmt}
theorem lM{a b:Expr}{it:Bool}{t:Bool}{r:D×Nat}(hc:ac (au Φ c false sc ρ) (.bl t,k))(h1:t=true->ac (au Φ a false sc ρ) r)(h2:t=false->ac (au Φ b false sc ρ) r):ac (au Φ (.IfExp c a b p) it sc ρ) r:=by
 refine ac.bnd hc (j7 rfl (Cz ?_))
 cases t with
 | true=>exact h1 rfl
 | false=>exact h2 rfl
theorem Aq{test:ae->Rs Bool}{body:ae->Rs Fl}(ah:Nat->ae->Prop)(step:∀m ρ,ah m ρ->∃b,ac (test ρ) b/\(b=true->∃m' ρ2,m' < m/\ac (body ρ) (.nx ρ2)/\ah m' ρ2)):∀{n m:Nat} {ρ:ae},ah m ρ->m<n->∃m' ρ',ac (lX test body n ρ) (.nx ρ')/\ah m' ρ'/\ac (test ρ') false:=by
 intro n
 induction n with
 | zero=>intro m ρ _ h;omega
 | succ n ih =>
  intro m ρ hi hm
  obtain⟨b,hb,h⟩:=step m ρ hi
  cases b with
  | false=>exact⟨m,ρ,ac.bnd hb cw,hi,hb⟩
  | true =>
   obtain⟨m',ρ2,h1,h2,h3⟩:=h rfl
   obtain⟨m2,ρ3,h4,h5,h6⟩:=ih h3 (show m' < n by omega)
   exact⟨m2,ρ3,ac.bnd hb (ac.bnd h2 h4),h5,h6⟩
theorem yg{body:List Stmt}(ah:Nat->ae->Prop)(h0:ah m ρ)(hm:m<b8)
  (step:∀m ρ,ah m ρ->∃b k,ac (au Φ c false sc ρ) (.bl b,k)/\(b=true->∃m' ρ2,m' < m/\ac (az Φ body sc ρ) (.nx ρ2)/\ah m' ρ2)) (rest:∀m ρ',ah m ρ'->(∃k,ac (au Φ c false sc ρ') (.bl false,k))->ac (az Φ ss sc ρ') fl):ac (az Φ (.While c body [] p::ss) sc ρ) fl:=by
 obtain⟨m',ρ',h1,h2,h3⟩:=Aq (test:=fun ρ=>(au Φ c false sc ρ).bnd fun p=>jG p fun b=>.ok b []) (body:=az Φ body sc) ah (fun m ρ h=>by
  obtain⟨b,k,a1,a2⟩:=step m ρ h
  exact⟨b,a1.bnd (j7 rfl cw),a2⟩) h0 hm
 obtain⟨q,h4,h5⟩:=av h3
 obtain⟨t,ht,h5⟩:=ir h5
 cases aC h5
 obtain⟨q1,q2⟩:=q
 have ht:q1=.bl false:=ht
 subst ht
 exact bA (Bf h1) (rest m' ρ' h2 ⟨q2,h4⟩)
theorem Dm{m':Nat}{A:ae->Prop}{P:Nat->ae->Prop}(h:m' < m)(k:∃ρ2,A ρ2/\P m' ρ2):∃m' ρ2,m' < m/\A ρ2/\P m' ρ2:=by
 obtain⟨ρ2,a,b⟩:=k
 exact⟨m',ρ2,h,a,b⟩
end Sp
namespace K
open PySem L2 Sp

end K
namespace K
open PySem L2 Sp Qm
variable{a b n x:Int}{Φ:Fx}{sc:Scope}{ρ:ae}{p:Pos}{k m:Nat}{d:D}{l:List D}{ns:List Int}
def vy(M:Nat)(q:Qd):Prop:=q.1.natAbs<=M/\q.2.1.natAbs<=M/\q.2.2.1.natAbs<=M/\q.2.2.2.natAbs<=M
def OF:Qd:=(0,0,0,0)
theorem rh(x:Int):0<=x*x:=by
 rcases Int.le_total 0 x with h|h
 ·exact Int.mul_nonneg h h
 ·have:=Int.mul_nonneg (show 0 <= -x by omega) (show 0 <= -x by omega);rwa [Int.neg_mul_neg]at this


theorem OH(h:a=b):(!eqD (.int a) (.int b))=false:=by rw[h];simp
theorem pJ(h:a=b):eqD (.int a) (.int b)=true:=by rw[h];simp

theorem cA{a b:Expr}{op:Operator}{it:Bool}{x y:D}{j:Nat}{r:D×Nat}(ha:ac (au Φ a false sc ρ) (x,k))(hb:ac (au Φ b false sc ρ) (y,j))(h:ac (iK op x y k j) r):ac (au Φ (.BinOp a op b p) it sc ρ) r:=ac.bnd ha (ac.bnd hb h)
theorem CW{α:Type}{f:α->D}{l:List α}{i:Int}(h0:0<=i)(h1:i<l.length):∃x∈l,L2.atI (l.map f) i=some (f x):=by
 obtain⟨j,rfl⟩:=Int.eq_ofNat_of_zero_le h0
 have hj:j<l.length:=by omega
 exact⟨l[j],List.getElem_mem _,dS (by simp[hj])⟩
def Al(Φ:Fx)(sc:Scope)(tg:Expr)(body ss:List Stmt)(r:D):List D->ae->Prop
 | [],ρ=>ac (az Φ ss sc ρ) (.rt r)
 | d::l,ρ => ∃ρ1,bF sc tg d ρ=some ρ1/\((∃ρ2,ac (az Φ body sc ρ1) (.nx ρ2)/\Al Φ sc tg body ss r l ρ2)\/ac (az Φ body sc ρ1) (.rt r))
theorem Dv{ss:List Stmt}{tg it:Expr}{body:List Stmt}{r:D}(ds:List D)(hi:ac (au Φ it true sc (demote it ρ)) (d,k))(h:Al Φ sc tg body ss r ds (demote it ρ))(hd:items d=some ds:=by rfl)(hk:k<=1:=by first|exact Nat.le_refl 1|exact Nat.zero_le 1)(ht:eL it tg=true:=by rfl):ac (az Φ (.For tg it body [] p::ss) sc ρ) (.rt r):=by
 obtain⟨r',h1,rfl⟩:=Du (ds:=ds) (fun ds ρ=>Al Φ sc tg body ss r ds ρ) (fun r'=>r'=r) hi h (fun d l ρ ⟨ρ1,h1,h2⟩=>⟨ρ1,h1,by
  rcases h2 with h2|h2
  ·exact .inl h2
  ·exact .inr ⟨r,h2,rfl⟩⟩) (fun ρ' h=>⟨r,h,rfl⟩) hd hk ht
 exact h1
def ph(c k:Int):Int:=if k.fmod 3=0 then(c*1000003 ^ 4).fmod (2*10 ^ 20+1)-10 ^ 20 else if k.fmod 3=1 then c.fmod 61-30 else c.fmod 7-3
theorem Hn(c k:Int):(ph c k).natAbs<=10 ^ 20:=by
 have h0:=Int.fmod_nonneg_of_pos (c*1000003 ^ 4) (show(0:Int)<2*10 ^ 20+1 by decide)
 have h1:=Int.fmod_lt_of_pos (c*1000003 ^ 4) (show(0:Int)<2*10 ^ 20+1 by decide)
 have g0:=Int.fmod_nonneg_of_pos c (show(0:Int)<61 by decide)
 have g1:=Int.fmod_lt_of_pos c (show(0:Int)<61 by decide)
 have f0:=Int.fmod_nonneg_of_pos c (show(0:Int)<7 by decide)
 have f1:=Int.fmod_lt_of_pos c (show(0:Int)<7 by decide)
 unfold ph
 generalize (c*1000003 ^ 4).fmod (2*10 ^ 20+1)=x at *
 split
 ·omega
 ·split<;>omega
abbrev d3(x y z:Int):D:=.tup [.int x,.int y,.int z]
theorem gS{n:Nat}(h:n<=2 ^ m)(hm:m<9000):n<fO:=Nat.lt_of_le_of_lt h (Nat.pow_lt_pow_right (by decide) hm)
open Builtin.Int (intBits)
theorem Fp(h:intBits x<=k):x.natAbs<2 ^ k:=by
 unfold intBits at h
 by_cases h0:x=0
 ·subst h0;exact Nat.pow_pos (by decide)
 ·rw[if_neg (by simpa using h0)]at h
  exact Nat.lt_of_lt_of_le Nat.lt_log2_self (Nat.pow_le_pow_right (by decide) h)
theorem El(h:x.natAbs<2 ^ k):intBits x<=k:=by
 unfold intBits
 by_cases h0:x=0
 ·rw[if_pos (by simpa using h0)];exact Nat.zero_le _
 ·rw[if_neg (by simpa using h0)]
  exact(Nat.log2_lt (by omega)).mpr h
def Ci(l:List D):Prop:=∃ns:List Int,l=ns.map D.int/\∀m∈ns,intBits m<=2 ^ 20
theorem Ci.okL(h:Ci l):okL l:=let ⟨ns,e,_⟩:=h;⟨ns,e⟩
theorem zF{n:Nat}(h:∀m∈ns,m.natAbs<2 ^ n)(k:Int):(eV ns k).natAbs<2 ^ n:=by
 unfold eV
 split
 ·exact Nat.pow_pos (by decide)
 ·rw[List.getD_eq_getElem?_getD]
  cases e:ns[(k.fmod ns.length).toNat]? with
  | none=>exact Nat.pow_pos (by decide)
  | some m=>exact h m (List.mem_of_getElem? e)
theorem Bp{n:Nat}(h:∀m∈ns,m.natAbs<2 ^ n)(k:Int):(oB ns k).natAbs<2 ^ (n+33):=by
 have hx:=zF h k
 unfold oB
 have r0:=Int.fmod_nonneg_of_pos ((((eV ns k).fmod 2147483647+7919*k+1)*48271).fmod 2147483647*69621+k) (show(0:Int)<2147483647 by decide)
 have r1:=Int.fmod_lt_of_pos ((((eV ns k).fmod 2147483647+7919*k+1)*48271).fmod 2147483647*69621+k) (show(0:Int)<2147483647 by decide)
 generalize ((((eV ns k).fmod 2147483647+7919*k+1)*48271).fmod 2147483647*69621+k).fmod 2147483647=r at *
 generalize eV ns k=x at *
 have e:=Int.mul_fdiv_add_fmod x 2147483647
 have f0:=Int.fmod_nonneg_of_pos x (show(0:Int)<2147483647 by decide)
 have f1:=Int.fmod_lt_of_pos x (show(0:Int)<2147483647 by decide)
 generalize x.fdiv 2147483647=q at *
 generalize x.fmod 2147483647=f at *
 have e2:2 ^ (n+33)=2 ^ n*8589934592:=by rw[Nat.pow_add]
 have p:1<=2 ^ n:=Nat.one_le_two_pow
 rw[e2]
 generalize 2 ^ n=N at *
 omega
theorem Bq(h:Ci l)(k:Int):intBits (eY l k)<=2 ^ 21:=by
 obtain⟨ns,rfl,hb⟩:=h
 unfold eY
 rw[jO]
 have key:∀n:Nat,(∀m∈ns,intBits m<=n)->intBits (oB ns k)<=n+33:=fun n hn=>El (Bp (fun m hm=>Fp (hn m hm)) k)
 exact Nat.le_trans (key _ hb) (by decide)
theorem EF{P:ae->Prop}{C:ae}(h:Sub C ρ)(k:∀ρ,Sub C ρ->P ρ):P ρ:=k ρ h
theorem Bu:intBits (1000003 ^ 4)<=2 ^ 22:=by decide
def bP:Nat->List Int->Nat
 | g,[]=>g
 | g,n::r=>bP (Nat.gcd g n.natAbs) r
@[irreducible] def i6(l:List D):Int:=(bP 0 (nq l):Nat)
def okT(l:List D):Prop:=∃ns:List Int,l=ns.map D.int/\ns.length<=100/\∀n∈ns,n.natAbs<2 ^ 1000
theorem Hc(h:okT l):okT l:=h
theorem jU(ns:List Int):i6 (ns.map D.int)=(bP 0 ns:Nat):=by unfold i6;rw[jO]
theorem iE:∀(ns:List Int) (g:Nat),bP g ns∣g/\∀n∈ns,bP g ns∣n.natAbs
 | [],g=>⟨Nat.dvd_refl _,fun n h=>by cases h⟩
 | n::r,g=>by
  obtain⟨h1,h2⟩:=iE r (Nat.gcd g n.natAbs)
  refine⟨Nat.dvd_trans h1 (Nat.gcd_dvd_left _ _),fun m hm=>?_⟩
  rcases List.mem_cons.mp hm with rfl|hm
  ·exact Nat.dvd_trans h1 (Nat.gcd_dvd_right _ _)
  ·exact h2 m hm
theorem tT{d:Nat}:∀(ns:List Int) (g:Nat),d∣g->(∀n∈ns,d∣n.natAbs)->d∣bP g ns
 | [],g,h,_=>h
 | n::r,g,h,k=>tT r _ (Nat.dvd_gcd h (k n List.mem_cons_self)) fun m hm=>k m (List.mem_cons_of_mem _ hm)
theorem zl(h:n∈ns):((bP 0 ns:Nat):Int)∣n:=Int.ofNat_dvd_left.mpr ((iE ns 0).2 n h)
theorem jT(h:n∈ns)(h0:n≠0):0<bP 0 ns:=by
 rcases Nat.eq_zero_or_pos (bP 0 ns)with e|e
 ·have:=(iE ns 0).2 n h
  rw[e]at this
  have:=Nat.eq_zero_of_zero_dvd this
  omega
 ·exact e
theorem Bm{m:Int}(h:n∈ns)(h0:n≠0)(hm:m∈ns):m=(bP 0 ns:Nat)*m.fdiv (bP 0 ns:Nat):=by
 obtain⟨u,e⟩:=zl hm
 have hp:=jT h h0
 generalize bP 0 ns=g at *
 rw[e,Int.mul_fdiv_cancel_left _ (by omega)]
theorem PZ(h:n∈ns)(h0:n≠0):bP 0 (ns.map fun m=>m.fdiv (bP 0 ns:Nat))=1:=by
 have hp:=jT h h0
 have key:((bP 0 (ns.map fun m=>m.fdiv (bP 0 ns:Nat)))*bP 0 ns)∣bP 0 ns:=by
  refine tT ns 0 (Nat.dvd_zero _) fun m hm=>?_
  obtain⟨u,e⟩:=(iE (ns.map fun m=>m.fdiv (bP 0 ns:Nat)) 0).2 _ (List.mem_map.mpr ⟨m,hm,rfl⟩)
  have e2:=congrArg Int.natAbs (Bm h h0 hm)
  rw[Int.natAbs_mul,Int.natAbs_natCast,e]at e2
  exact⟨u,by rw[e2];simp only[Nat.mul_comm,Nat.mul_left_comm,Nat.mul_assoc]⟩
 have:=Nat.le_of_dvd hp key
 have h1:bP 0 (ns.map fun m=>m.fdiv (bP 0 ns:Nat))<=1:=by
  rcases Nat.lt_or_ge 1 (bP 0 (ns.map fun m=>m.fdiv (bP 0 ns:Nat)))with q|q
  ·have:=Nat.mul_lt_mul_of_pos_right q hp
   omega
  ·exact q
 have h2:0<bP 0 (ns.map fun m=>m.fdiv (bP 0 ns:Nat)):=jT (n:=n.fdiv (bP 0 ns:Nat)) (List.mem_map.mpr ⟨n,h,rfl⟩) fun z=>by
  have:=Bm h h0 h
  rw[z,Int.mul_zero]at this
  exact h0 this
 omega
theorem tG(c:Nat):∀(ns:List Int) (g:Nat),bP (c*g) (ns.map fun m=>(c:Int)*m)=c*bP g ns
 | [],g=>rfl
 | n::r,g=>by
  show bP (Nat.gcd (c*g) ((c:Int)*n).natAbs) _=_
  rw[Int.natAbs_mul,Int.natAbs_natCast,Nat.gcd_mul_left]
  exact tG c r _
theorem EI(h:n∈ns)(h0:n≠0):bP 0 ns<=n.natAbs:=Nat.le_of_dvd (by omega) ((iE ns 0).2 n h)
theorem L3(d:D):kn d 1<=1:=by rcases Lb (d:=d) (k:=1)with q|q<;>omega
def Di(a b m:Nat):Prop:=(b<=a/\a*b<2 ^ m)\/(a<b/\a*b<2 ^ (m-1)/\1<=m)
theorem EO{a b:Nat}(h:Di a b m)(h0:b≠0):∃m',m' < m/\Di b (a % b) m':=by
 rcases h with⟨h1,h2⟩|⟨h1,h2,h3⟩
 ·have hm:1<=m:=by
   rcases Nat.eq_zero_or_pos m with e|e
   ·subst e
    have:1*1<=a*b:=Nat.mul_le_mul (by omega) (by omega)
    omega
   ·exact e
  refine⟨m-1,by omega,.inl ⟨Nat.le_of_lt (Nat.mod_lt _ (by omega)),?_⟩⟩
  have e:2 ^ m=2*2 ^ (m-1):=by rw[<- Nat.pow_succ'];congr 1;omega
  rw[e]at h2
  have hk:b+a % b<=a:=by
   have:=Nat.div_add_mod a b
   have q:1<=a / b:=(Nat.one_le_div_iff (by omega)).mpr h1
   have:=Nat.mul_le_mul_left b q
   omega
  have hlt:=Nat.mod_lt a (show 0<b by omega)
  have:b*(a % b)+b*(a % b)<=a*b:=by
   rw[<- Nat.mul_add,Nat.mul_comm a b]
   exact Nat.mul_le_mul_left b (by omega)
  omega
 ·refine⟨m-1,by omega,.inl ?_⟩
  rw[Nat.mod_eq_of_lt h1,Nat.mul_comm]
  exact⟨Nat.le_of_lt h1,h2⟩
theorem Pn{a b:Nat}(ha:a<2 ^ 1000)(hb:b<2 ^ 1000):Di a b 2002:=by
 have h:a*b<2 ^ 2001:=Nat.lt_of_lt_of_le (Nat.mul_lt_mul'' ha hb) (by rw[<- Nat.pow_add];exact Nat.pow_le_pow_right (by decide) (by decide))
 rcases Nat.lt_or_ge a b with q|q
 ·exact .inr ⟨q,h,by decide⟩
 ·exact .inl ⟨q,Nat.lt_trans h (Nat.pow_lt_pow_right (by decide) (by decide))⟩
theorem Il(a b:Nat):(a:Int).fmod b=((a % b:Nat):Int):=by
 rw[Int.fmod_eq_emod_of_nonneg _ (by omega)];rfl
theorem Iv{ρ':ae}{es:List Expr}{e:Expr}{n:Nat}{q:Pos}{ds:List D}(h:ac (au Φ e false sc ρ) (d,k))(hs:hU d=some ds)(hk:ax ds=true\/k<=1)(hb:aT sc es ds ρ=some ρ')(ht:nK e=false:=by rfl)(ho:wA sc es (d,k)=false:=by rfl):ac (eR Φ (.Assign [.Tuple es n p] e q) sc ρ) (.nx ρ'):=by
 show ac (if qg sc es e=true then n6 Φ es e sc ρ else _) _
 rw[if_neg (by unfold qg;rw[ht];exact Bool.false_ne_true)]
 refine ac.bnd h ?_
 rw[if_neg (by rw[ho];exact Bool.false_ne_true)]
 dsimp only
 rw[hs];dsimp only
 rw[if_pos hk,hb]
 exact cw
def gI(ns:List Int):Int:=(bP 0 ns:Nat)
theorem pz(ns:List Int):i6 (ns.map D.int)=gI ns:=jU ns
theorem zm(h:n∈ns)(h0:n≠0):0<gI ns:=by have:=jT h h0;unfold gI;omega
theorem kY{m:Int}(h:n∈ns)(h0:n≠0)(hm:m∈ns):m=gI ns*m.fdiv (gI ns):=Bm h h0 hm
theorem Ii(h:n∈ns)(h0:n≠0):gI (ns.map fun m=>m.fdiv (gI ns))=1:=by
 have:=PZ h h0
 unfold gI;rw[this];rfl
theorem Ij{c:Int}(hc:0<c)(ns:List Int):gI (ns.map fun m=>c*m)=c*gI ns:=by
 obtain⟨k,rfl⟩:=Int.eq_ofNat_of_zero_le (Int.le_of_lt hc)
 have:=tG k ns 0
 unfold gI
 rw[Nat.mul_zero]at this
 rw[this];simp
theorem Ln(h:n∈ns)(h0:n≠0):(gI ns).natAbs<=n.natAbs:=by
 have:=EI h h0
 unfold gI;omega
theorem kN(hk:k<=999)(hl:ns.length<=100)(h:∀n∈ns,n.natAbs<=2 ^ k):okT (ns.map D.int) :=
 ⟨ns,rfl,hl,fun n hn=>Nat.lt_of_le_of_lt (h n hn) (Nat.pow_lt_pow_right (by decide) (by omega))⟩
abbrev mj(a b c x y z:Int):Int:=a*x+(b*y+(c*z+0))

end K
namespace K
open PySem PySem.Spec PyProof.Rows L2 Sp Qm
variable{Φ:Fx}{sc:Scope}{args:List Expr}{n:Str}{ds:List D}{M N k m:Nat}{A B a b c d w x y z:Int}
theorem zd{ps fs:List Str}{q:List D}(hl:ds.length+1=ps.length)(h:ac (bi Φ args sc (bI ps (.obj n [] []::ds))) (q,k))(hq:q.length=fs.length)(h1:ax q=true)(h2:fu q=true):ac (hZ Φ sc ps args n fs ds) (.obj n fs q):=by
 unfold hZ
 rw[if_pos hl]
 refine ac.bnd h ?_
 dsimp only
 rw[if_pos hq]
 exact fo rfl ⟨h1,h2,True.intro⟩
theorem pF{ρ:ae}{a:Expr}{m:Str}{ap cp:Pos}{it:Bool}{ns:List Str}{es:List D}{j:Nat}{F:List D->Rs D}{d:D}(ha:ac (au Φ a false sc ρ) (.obj n ns es,k))(hs:ac (bi Φ args sc ρ) (ds,j))(hF:Φ.omt n m=some F)(h:ac (F (.obj n ns es::ds)) d)
  (hl:(ap.endLine==cp.line)=true:=by rfl) (hn:ns.contains m=false:=by rfl) (hb:fx a=true:=by rfl) (hf:ds.length<29:=by exact Nat.le_of_ble_eq_true rfl):ac (au Φ (.Call (.Attribute a m ap) args [] cp) it sc ρ) (d,0):=by
 rw[jX,if_pos hl]
 refine ac.bnd ha (ac.bnd hs ?_)
 unfold wH
 dsimp only
 rw[if_pos ⟨hn,hb,hf⟩,hF]
 exact ac.bnd h cw
theorem zU{X:Cx}(hc:X.calm=true):cP X (.builtin "any") (fun xs H Q => ∃(p:Addr) (ns:List Int),xs=[.ref p]/\cZ X.K H p (ns.map V.int)/\Q (.bl (ns.any fun n=>n != 0)) H):=by
 intro pins s σ H xs us Q I r h
 obtain⟨p,ns,rfl,hq,q⟩:=h
 obtain⟨u,rfl,rx⟩:=dl r
 cases rx
 obtain⟨its,rv,pl,hz⟩:=I.tuple hq
 have hlen:its.length=ns.length:=by have:=rv.length;simpa using this.symm
 have hl:s.heap.IsTuple p its.toArray:=by obtain⟨o,e,c,n,d⟩:=pl;exact⟨o,e,c,n,d⟩
 have hlt:p<s.heap.objs.size:=by obtain⟨_,e,_⟩:=hl;exact Heap.lt_size e
 refine call_any_walk (wpAny_pyIter_tuple hl ?_)
 refine⟨_,_,_,_,_,_,fun i=>(ns.getD i 0 != 0),rfl,Walks.tuple (A:=X.A.in1) (by exact I.ok.hd hc) _ p (Nat.ne_of_lt hlt) its.toArray,⟨⟨_,Heap.get?_push_size _ rfl,rfl,rfl⟩,hl.at fun o e=>Heap.get?_push_of_some _ e⟩,?_,fun h' tk hk=>?_⟩
 ·intro i v s' Q' E' hP hQ
  have hP:(its.toArray)[i]?=some v:=hP
  simp only[List.getElem?_toArray]at hP
  have hi:i<ns.length:=by rw[<- hlen];exact(List.getElem?_eq_some_iff.mp hP).1
  obtain⟨w,hw,rw'⟩:=rv.get (i:=i) (x:=V.int ns[i]) (by simp[hi])
  rw[hP]at hw;cases hw
  obtain⟨t,rfl⟩:=rw'
  refine PyProof.Rows.truthy_int ?_
  have:ns.getD i 0=ns[i]:=by rw[List.getD_eq_getElem?_getD,List.getElem?_eq_getElem hi];rfl
  rw[<- this];exact hQ
 ·have:((List.range its.toArray.size).any fun i=>(ns.getD i 0 != 0))=ns.any fun n=>n != 0:=by
   simp only[List.size_toArray,hlen]
   rw[Bool.eq_iff_iff,List.any_eq_true,List.any_eq_true]
   constructor
   ·rintro⟨i,hi,h⟩
    have hi:=List.mem_range.mp hi
    rw[List.getD_eq_getElem?_getD,List.getElem?_eq_getElem hi]at h
    exact⟨_,List.getElem_mem hi,h⟩
   ·rintro⟨x,hx,h⟩
    obtain⟨i,hi,rfl⟩:=List.mem_iff_getElem.mp hx
    exact⟨i,List.mem_range.mpr hi,by rw[List.getD_eq_getElem?_getD,List.getElem?_eq_getElem hi];exact h⟩
  rw[this]
  refine⟨.bl _,H,I.kept (fun b o e=>hk b o (fun hm=>?_) (Heap.get?_push_of_some _ e)),rfl,q⟩
  have hb:b=s.heap.objs.size:=by simpa using hm
  subst hb
  exact absurd (Heap.lt_size e) (Nat.lt_irrefl _)
def oF(ds:List D):R1 :=
 match ds with
 | [.tup l]=>(match dr l with|some ns=>.ok (.bl (ns.any fun n=>n != 0),0) []|none=>.st)
 | ds=>ug ds
theorem BD:dC "any" oF:=by
 refine⟨by decide +kernel,by decide +kernel,by decide +kernel,rfl,fun X ds z l o hc h hp=>?_⟩
 unfold oF at h
 split at h
 ·split at h
  ·rename_i ns e
   refine .inl ⟨"any", by decide +kernel,?_⟩
   cases h
   cases kT e
   refine⟨_,zU hc,fun ow H0 H2 vs P Q o s rx q=>?_⟩
   obtain⟨v,rfl,ry⟩:=rx.only
   rw[af]at ry
   obtain⟨a,ws,rfl,hs,rl⟩:=ry
   exact⟨a,ns,rfl,by rw[<- rl.mapInt];exact hs,q _ _ (aw.refl _) (by rw[af])⟩
  ·cases h
 ·exact Fz.2.2.2.2 X _ z l o hc h hp
theorem tH:∀(ns ms:List Int) (g:Nat),ns.map Int.natAbs=ms.map Int.natAbs->bP g ns=bP g ms
 | [],[],g,_=>rfl
 | [],_::_,g,h=>by cases h
 | _::_,[],g,h=>by cases h
 | n::ns,m::ms,g,h=>by
  have h1:n.natAbs=m.natAbs/\ns.map Int.natAbs=ms.map Int.natAbs:=by simpa using h
  show bP (Nat.gcd g n.natAbs) ns=bP (Nat.gcd g m.natAbs) ms
  rw[h1.1]
  exact tH ns ms _ h1.2
theorem zn{ns ms:List Int}(h:ns.map Int.natAbs=ms.map Int.natAbs):gI ns=gI ms:=by unfold gI;rw[tH ns ms 0 h]
theorem EJ(k a b c d:Int)(hk:k≠0):gI [k*a,k*b,k*c,k*d]=(k.natAbs:Int)*gI [a,b,c,d]:=by
 rw[<- Ij (c:=(k.natAbs:Int)) (by omega) [a,b,c,d]]
 apply zn
 simp[Int.natAbs_mul]
def ej(a b c d:Int):Int:=if a≠0 then a else if b≠0 then b else if c≠0 then c else d
theorem mM{k:Int}(a b c d:Int)(hk:k≠0):ej (k*a) (k*b) (k*c) (k*d)=k*ej a b c d:=by
 unfold ej
 have e:∀x:Int,(k*x≠0)=(x≠0):=fun x=>by
  apply propext
  constructor
  ·intro h z;subst z;simp at h
  ·intro h z;rcases Int.mul_eq_zero.mp z with q|q
   ·exact hk q
   ·exact h q
 simp only[e]
 by_cases ha:a≠0
 ·rw[if_pos ha,if_pos ha]
 ·rw[if_neg ha,if_neg ha]
  by_cases hb:b≠0
  ·rw[if_pos hb,if_pos hb]
  ·rw[if_neg hb,if_neg hb]
   by_cases hc:c≠0
   ·rw[if_pos hc,if_pos hc]
   ·rw[if_neg hc,if_neg hc]
theorem Eo(h:¬ (a=0/\b=0/\c=0/\d=0)):ej a b c d≠0:=by
 unfold ej
 split
 ·assumption
 ·split
  ·assumption
  ·split
   ·assumption
   ·intro z;apply h;omega
structure Pm(a b c d:Int):Prop where
 one:gI [a,b,c,d]=1
 pos:0<ej a b c d
theorem Pm.ne(h:Pm a b c d):¬ (a=0/\b=0/\c=0/\d=0):=by
 rintro⟨rfl,rfl,rfl,rfl⟩
 have:=h.pos
 simp[ej]at this
theorem vk(h:¬ (x=0/\y=0/\z=0/\w=0)):∃k a b c d:Int,k≠0/\x=k*a/\y=k*b/\z=k*c/\w=k*d/\Pm a b c d/\k.natAbs=(gI [x,y,z,w]).natAbs:=by
 obtain⟨v,hv,hv0⟩:∃v∈[x,y,z,w],v≠0:=by
  by_cases hx:x=0
  ·by_cases hy:y=0
   ·by_cases hz:z=0
    ·exact⟨w,by simp,fun q=>h ⟨hx,hy,hz,q⟩⟩
    ·exact⟨z,by simp,hz⟩
   ·exact⟨y,by simp,hy⟩
  ·exact⟨x,by simp,hx⟩
 have g0:=zm hv hv0
 have ex:=kY (m:=x) hv hv0 (by simp)
 have ey:=kY (m:=y) hv hv0 (by simp)
 have ez:=kY (m:=z) hv hv0 (by simp)
 have ew:=kY (m:=w) hv hv0 (by simp)
 have one:=Ii hv hv0
 simp only[List.map_cons,List.map_nil]at one
 generalize gI [x,y,z,w]=g at *
 generalize x.fdiv g=a at *
 generalize y.fdiv g=b at *
 generalize z.fdiv g=c at *
 generalize w.fdiv g=d at *
 have hn:¬ (a=0/\b=0/\c=0/\d=0):=by
  rintro⟨rfl,rfl,rfl,rfl⟩
  apply h
  simp at ex ey ez ew
  exact⟨ex,ey,ez,ew⟩
 have hl:=Eo hn
 rcases Int.lt_or_gt_of_ne hl with q|q
 ·refine⟨-g,-a,-b,-c,-d,by omega,by rw[Int.neg_mul_neg];exact ex,by rw[Int.neg_mul_neg];exact ey,by rw[Int.neg_mul_neg];exact ez,by rw[Int.neg_mul_neg];exact ew,⟨?_,?_⟩,by rw[Int.natAbs_neg]⟩
  ·rw[<- one];apply zn;simp
  ·have:=mM (k:=-1) a b c d (by decide)
   simp only[Int.neg_mul,Int.one_mul]at this
   rw[this];omega
 ·exact⟨g,a,b,c,d,by omega,ex,ey,ez,ew,⟨one,q⟩,rfl⟩
def n4(a b c d:Int):Int:=a*a+b*b+c*c+d*d
def ya(a b c d:Int):Int:=a*a+b*b-c*c-d*d
def u8(a b c d:Int):Int:=2*b*c-2*a*d
def u7(a b c d:Int):Int:=2*b*d+2*a*c
def u6(a b c d:Int):Int:=2*b*c+2*a*d
def x9(a b c d:Int):Int:=a*a-b*b+c*c-d*d
def u5(a b c d:Int):Int:=2*c*d-2*a*b
def uZ(a b c d:Int):Int:=2*b*d-2*a*c
def uY(a b c d:Int):Int:=2*c*d+2*a*b
def x8(a b c d:Int):Int:=a*a-b*b-c*c+d*d
def io(a b c d:Int):List Int:=[n4 a b c d,ya a b c d,u8 a b c d,u7 a b c d,u6 a b c d,x9 a b c d,u5 a b c d,uZ a b c d,uY a b c d,x8 a b c d]
theorem nr(h:x≠0):0<x*x:=by
 rcases Int.lt_or_gt_of_ne h with q|q
 ·exact Int.mul_pos_of_neg_of_neg q q
 ·exact Int.mul_pos q q
theorem Ht(h:¬ (a=0/\b=0/\c=0/\d=0)):0<n4 a b c d:=by
 unfold n4
 have h1:=rh a;have h2:=rh b;have h3:=rh c;have h4:=rh d
 by_cases ha:a=0
 ·by_cases hb:b=0
  ·by_cases hc:c=0
   ·have:=nr (x:=d) (fun q=>h ⟨ha,hb,hc,q⟩);omega
   ·have:=nr hc;omega
  ·have:=nr hb;omega
 ·have:=nr ha;omega
theorem yW(h:¬ (x=0/\y=0/\z=0/\w=0)):L2.atI ((([x,y,z,w]:List Int).filter fun t => !decide (t=0)).map D.int) 0=some (.int (ej x y z w)):=by
 unfold ej
 by_cases hx:x=0
 ·subst hx
  by_cases hy:y=0
  ·subst hy
   by_cases hz:z=0
   ·subst hz
    have hw:w≠0:=fun q=>h ⟨rfl,rfl,rfl,q⟩
    simp[hw,L2.atI,L2.ixN]
   ·simp[hz,L2.atI,L2.ixN]
  ·simp[hy,L2.atI,L2.ixN]
 ·simp[hx,L2.atI,L2.ixN]
theorem jK{n:Nat}(hx:x.natAbs<=m)(hy:y.natAbs<=n)(h:m+n<=k):(x+y).natAbs<=k:=Nat.le_trans (Int.natAbs_add_le _ _) (Nat.le_trans (Nat.add_le_add hx hy) h)
theorem jJ{n:Nat}(hx:x.natAbs<=m)(hy:y.natAbs<=n)(h:m+n<=k):(x-y).natAbs<=k:=Nat.le_trans (Int.natAbs_sub_le _ _) (Nat.le_trans (Nat.add_le_add hx hy) h)
theorem oG(hx:x.natAbs<=m):(2*x).natAbs<=2*m:=by rw[Int.natAbs_mul];exact Nat.mul_le_mul_left 2 hx
theorem KU{C E:Int}(h:8*M<=N)(ha:A.natAbs<=M)(hb:B.natAbs<=M)(hc:C.natAbs<=M)(he:E.natAbs<=M):(A+B+C+E).natAbs<=N/\(A+B-C-E).natAbs<=N/\(A-B+C-E).natAbs<=N/\(A-B-C+E).natAbs<=N:=by
 have h4:M+M+M+M<=N:=by omega
 have p2:=jK ha hb (Nat.le_refl _)
 have m2:=jJ ha hb (Nat.le_refl _)
 exact⟨jK (jK p2 hc (Nat.le_refl _)) he h4,jJ (jJ p2 hc (Nat.le_refl _)) he h4,jJ (jK m2 hc (Nat.le_refl _)) he h4,jK (jJ m2 hc (Nat.le_refl _)) he h4⟩
theorem wG(h:8*M<=N)(ha:A.natAbs<=M)(hb:B.natAbs<=M):(2*A-2*B).natAbs<=N/\(2*A+2*B).natAbs<=N:=by
 have h4:2*M+2*M<=N:=by omega
 exact⟨jJ (oG ha) (oG hb) h4,jK (oG ha) (oG hb) h4⟩
theorem Kl(hM:m*m<=M)(hN:8*M<=N)(ha:a.natAbs<=m)(hb:b.natAbs<=m)(hc:c.natAbs<=m)(hd:d.natAbs<=m):∀x∈io a b c d,x.natAbs<=N:=by
 have p:∀{x y:Int},x.natAbs<=m->y.natAbs<=m->(x*y).natAbs<=M:=fun hx hy=>by rw[Int.natAbs_mul];exact Nat.le_trans (Nat.mul_le_mul hx hy) hM
 obtain⟨h1,h2,h3,h4⟩:=KU hN (p ha ha) (p hb hb) (p hc hc) (p hd hd)
 have bc:=wG hN (p hb hc) (p ha hd)
 have bd:=wG hN (p hb hd) (p ha hc)
 have cd:=wG hN (p hc hd) (p ha hb)
 intro x hx
 simp only[io,List.mem_cons,List.not_mem_nil,or_false]at hx
 rcases hx with rfl|rfl|rfl|rfl|rfl|rfl|rfl|rfl|rfl|rfl
 ·exact h1
 ·exact h2
 ·unfold u8;rw[Int.mul_assoc,Int.mul_assoc];exact bc.1
 ·unfold u7;rw[Int.mul_assoc,Int.mul_assoc];exact bd.2
 ·unfold u6;rw[Int.mul_assoc,Int.mul_assoc];exact bc.2
 ·exact h3
 ·unfold u5;rw[Int.mul_assoc,Int.mul_assoc];exact cd.1
 ·unfold uZ;rw[Int.mul_assoc,Int.mul_assoc];exact bd.1
 ·unfold uY;rw[Int.mul_assoc,Int.mul_assoc];exact cd.2
 ·exact h4
theorem FV(ha:a.natAbs<=2 ^ 140)(hb:b.natAbs<=2 ^ 140)(hc:c.natAbs<=2 ^ 140)(hd:d.natAbs<=2 ^ 140):∀x∈io a b c d,x.natAbs<=2 ^ 290 :=
 Kl (M:=2 ^ 140*2 ^ 140) (Nat.le_refl _) (by rw[show(8:Nat)=2 ^ 3 from rfl,<- Nat.pow_add,<- Nat.pow_add];exact Nat.pow_le_pow_right (by decide) (by decide)) ha hb hc hd
theorem FT(ha:a.natAbs<=2 ^ 140)(hb:b.natAbs<=2 ^ 140)(hc:c.natAbs<=2 ^ 140)(hd:d.natAbs<=2 ^ 140):okT ((io a b c d).map D.int):=kN (k:=290) (by decide) (Nat.le_of_ble_eq_true rfl) (FV ha hb hc hd)
theorem Ca(hm:m<=999)(h:∀t∈[x,y,z,w],t.natAbs<=2 ^ m):okT (([x,y,z,w]:List Int).map D.int):=kN (k:=m) hm (Nat.le_of_ble_eq_true rfl) h
def wc(a b c d:Int):D:=.tup [.int ((n4 a b c d).fdiv (gI (io a b c d))),.tup [d3 ((ya a b c d).fdiv (gI (io a b c d))) ((u8 a b c d).fdiv (gI (io a b c d))) ((u7 a b c d).fdiv (gI (io a b c d))),d3 ((u6 a b c d).fdiv (gI (io a b c d))) ((x9 a b c d).fdiv (gI (io a b c d))) ((u5 a b c d).fdiv (gI (io a b c d))),d3 ((uZ a b c d).fdiv (gI (io a b c d))) ((uY a b c d).fdiv (gI (io a b c d))) ((x8 a b c d).fdiv (gI (io a b c d)))]]
def Mf(a b c d:Int):D:=.obj "Turn" ["word", "row", "fractions"] [.str "turn", t4 a b c d,wc a b c d]
theorem Cq{k:Int}(hk:k≠0)(p:Pm a b c d):gI [k*a,k*b,k*c,k*d]=k.natAbs:=by rw[EJ _ _ _ _ _ hk,p.one,Int.mul_one]
structure T9 where
 n:Int
 a:Int
 b:Int
 c:Int
 d:Int
 e:Int
 f:Int
 g:Int
 h:Int
 i:Int
def T9.l(T:T9):List Int:=[T.n,T.a,T.b,T.c,T.d,T.e,T.f,T.g,T.h,T.i]
def T9.D(T:T9):D:=.tup [.int T.n,.tup [d3 T.a T.b T.c,d3 T.d T.e T.f,d3 T.g T.h T.i]]
def T9.map(f:Int->Int)(T:T9):T9:=⟨f T.n,f T.a,f T.b,f T.c,f T.d,f T.e,f T.f,f T.g,f T.h,f T.i⟩
theorem T9.l_map(f:Int->Int)(T:T9):(T.map f).l=T.l.map f:=rfl
def T9.low(T:T9):T9:=T.map fun x=>x.fdiv (gI T.l)
def T9.bh(A B:T9):T9:=⟨A.n*B.n,mj A.a A.d A.g B.a B.b B.c,mj A.b A.e A.h B.a B.b B.c,mj A.c A.f A.i B.a B.b B.c,mj A.a A.d A.g B.d B.e B.f,mj A.b A.e A.h B.d B.e B.f,mj A.c A.f A.i B.d B.e B.f,mj A.a A.d A.g B.g B.h B.i,mj A.b A.e A.h B.g B.h B.i,mj A.c A.f A.i B.g B.h B.i⟩
theorem T9.ext{A B:T9}(h:A.l=B.l):A=B:=by
 cases A;cases B
 simp only[T9.l,List.cons.injEq,and_true]at h
 obtain⟨h0,h1,h2,h3,h4,h5,h6,h7,h8,h9⟩:=h
 subst h0 h1 h2 h3 h4 h5 h6 h7 h8 h9
 rfl
theorem T9.mem_n(T:T9):T.n∈T.l:=by simp[T9.l]
theorem T9.cut{T:T9}(h:0<T.n):T=T.low.map (gI T.l * ·):=by
 have k:=fun m hm=>kY (m:=m) T.mem_n (show T.n≠0 by omega) hm
 apply T9.ext
 show T.l=(T.low.map (gI T.l * ·)).l
 rw[T9.l_map,T9.low,T9.l_map,List.map_map]
 conv=>lhs;rw[<- List.map_id T.l]
 exact List.map_congr_left fun m hm=>k m hm
def T9.bd(k:Nat)(T:T9):Prop:=∀x∈T.l,x.natAbs<=2 ^ k
theorem T9.okT{T:T9}(hk:k<=999)(b:T.bd k):okT (T.l.map D.int):=kN (k:=k) hk (Nat.le_of_ble_eq_true rfl) b
theorem T9.eqD(T:T9):Sp.eqD T.D T.D=true:=by
 unfold T9.D
 show((_==_&&(((_==_&&(_==_&&(_==_&&true)))&&((_==_&&(_==_&&(_==_&&true)))&&((_==_&&(_==_&&(_==_&&true)))&&true)))&&true)):Bool)=true
 simp
end K
namespace K
open PySem L2 Sp Qm
variable{α:Type}
section
variable{Φ:Fx}{sc:Scope}{ρ ρ1:ae}{ss:List Stmt}
end
theorem LB{f:α->D}(l:List α)(c:Nat):fG (l.map f) none (some (c:Int))=(l.take c).map f:=by
 simp only[fG,HT.sIx_none,HT.sIx_nat,List.length_map,List.drop_zero,Nat.sub_zero,List.map_take]
 rcases Nat.le_total c l.length with h|h
 ·rw[Nat.min_eq_left h]
 ·rw[Nat.min_eq_right h,List.take_of_length_le (by simp),List.take_of_length_le (by simpa using h)]
theorem LC{f:α->D}(l:List α)(c:Nat):fG (l.map f) (some (c:Int)) none=(l.drop c).map f:=by
 simp only[fG,HT.sIx_none,HT.sIx_nat,List.length_map]
 rcases Nat.le_total c l.length with h|h
 ·rw[Nat.min_eq_left h,List.take_of_length_le (by simp),List.map_drop]
 ·rw[Nat.min_eq_right h,List.drop_of_length_le (by simp),List.drop_of_length_le h,List.take_nil];rfl
end K
namespace Sp
open PySem PySem.Spec PyProof.Rows L2
variable{X:Cx}
def fU:List D->Option (List Str)
 | []=>some []
 | .str i::l=>(fU l).map (i :: ·)
 | _::_=>none
def lH(x:D)(ds:List D):R1 :=
 match x,ds with
 | .str sep,[.lst l]=>(match fU l with
  | some ys=>.ok (.str (Txt.join sep ys),0) [sep.length<=16,(ys.map fun y=>y.length).sum+ys.length<=1048576]
  | none=>.st)
 | _,_=>.st
theorem ql{K:W.Frag}{H:Hp}{P:bx}:∀{l:List D} {ys:List Str} {vs:List V} {us:List Value},fU l=some ys->ai K H P l vs->aL vs us->StrsAre us ys
 | [],ys,vs,us,h,r,q=>by
  rw[fU]at h;cases h
  rw[ai]at r;subst r;cases q;exact .nil
 | .str x::l,ys,vs,us,h,r,q=>by
  rw[fU]at h
  cases e:fU l with
  | none=>rw[e]at h;cases h
  | some zs =>
   rw[e]at h;cases h
   rw[ai]at r
   obtain⟨v,vr,rfl,r1,r2⟩:=r
   rw[af]at r1;subst r1
   cases q with
   | cons q1 q2 =>
    obtain⟨t,rfl⟩:=q1
    exact .cons x t (ql e r2 q2)
 | .non::l,ys,vs,us,h,_,_=>by cases h
 | .bl _::l,ys,vs,us,h,_,_=>by cases h
 | .int _::l,ys,vs,us,h,_,_=>by cases h
 | .dct _ _::l,ys,vs,us,h,_,_=>by cases h
 | .typ _::l,ys,vs,us,h,_,_=>by cases h
 | .sn _::l,ys,vs,us,h,_,_=>by cases h
 | .obj _ _ _::l,ys,vs,us,h,_,_=>by cases h
 | .cls _::l,ys,vs,us,h,_,_=>by cases h
 | .xc _ _::l,ys,vs,us,h,_,_=>by cases h
 | .tup _::l,ys,vs,us,h,_,_=>by cases h
 | .lst _::l,ys,vs,us,h,_,_=>by cases h
theorem Eh:v5 X "str.join" (fun x xs H Q => ∃sep l ys P v,x=.str sep/\xs=[v]/\af X.K H P (.lst l) v/\fU l=some ys/\sep.length<=16/\(ys.map fun y=>y.length).sum+ys.length<=1048576/\Q (.str (Txt.join sep ys)) H):=by
 intro pins s σ H x xs v us Q I rx rxs h
 obtain⟨sep,l,ys,P,v1,rfl,rfl,r,hl,h1,h2,q⟩:=h
 obtain⟨t,rfl⟩:=rx
 obtain⟨u,rfl,ru⟩:=dl rxs
 rw[af]at r
 obtain⟨a,vs,b,rfl,ha,_,rl⟩:=r
 cases ru
 obtain⟨its,rv,⟨o,n,e1,e2,_,e3⟩,_⟩:=I.list ha.sq
 exact join_listW (D:=a) (items:=its.toArray) ⟨o,e1,e2,n,e3⟩ (by rw[List.toList_toArray];exact ql hl rl rv) h1 h2 fun t' k=>⟨.str _,H,I.tok _,⟨_,rfl⟩,q⟩
theorem AZ:lQ "join" lH:=by
 intro X ρ a args ap cp x k ds j z l o hc hroom hea hes hst hlen hline hb h hp
 unfold lH at h
 split at h
 ·rename_i sep l1
  split at h
  ·rename_i ys hy
   cases h
   obtain⟨e,rfl⟩:∃e,args=[e]:=by
    match args,hlen with
    | [e],_=>exact⟨e,rfl⟩
   intro ow
   refine bC (rj PySem.F.plainAttrs_str PySem.F.slot_str_join PySem.F.type_str_join Eh (hea ow) (hes ow) (c6 hb) (gJ hst (show 1<29 by decide)) hline (aD (hst e List.mem_cons_self)) rfl) fun σ H Q ⟨E,q⟩=>⟨E,fun v H1 s1 r1=>?_⟩
   rw[af]at r1;subst r1
   refine⟨rfl,E.same s1,fun vs H2 s2 r2=>?_⟩
   obtain⟨v,rfl,r3⟩:=r2.only
   exact⟨sep,l1,ys,_,v,rfl,rfl,r3,hy,hp.1,hp.2.1,q _ _ (s1.trans s2) (by rw[af])⟩
  ·cases h
 ·cases h
end Sp
namespace K
open PySem L2 Sp Qm
variable{p:Pos}{k:Nat}
section
variable{Φ:Fx}{sc:Scope}{ρ ρ1:ae}{ss:List Stmt}
theorem d6{x y:Str}(h:PyData.strOk x=true)(g:PyData.strOk y=true):dR (.str x) (.str y)=true:=by
 have k:∀x:Str,PyData.strOk x=true->SeqAt.shaped (D.str x).py=true:=fun x h=>by
  rw[D.py];unfold SeqAt.shaped
  simp[PyData.canLay0,PyData.depth,h]
 unfold dR
 rw[k x h,k y g];rfl
end
section
variable{Φ:Fx}{sc:Scope}{ρ ρ1:ae}{ss:List Stmt}{P Q:ae->Prop}
def CD:Stmt->Expr
 | .For t _ _ _ _=>t
 | _=>.Name (Str.ofString "") ⟨0,0,0,0⟩
def ij:Stmt->List Stmt
 | .For _ _ b _ _=>b
 | _=>[]
theorem CH{a:Expr}{it:Bool}{b c:Bool}(h:ac (au Φ a false sc ρ) (.bl b,k))(e:(!b)=c):ac (au Φ (.UnaryOp .Not a p) it sc ρ) (.bl c,0):=by
 subst e
 exact(show ac (Rs.bnd (au Φ a false sc ρ) fun p=>(match xV .Not p.1 with|some d=>.ok (d,0) []|none=>.st)) (.bl (!b),0)from ac.bnd h cw)
theorem Lv{f:Str}{q:Pos}{args:List Expr}{ds:List D}{B:List D->Nat->R1}{v:D×Nat}(ha:ac (bi Φ args sc ρ) (ds,k))(hv:ac (B ds k) v)(hF:Φ.fn f=none:=by rfl)(hI:Φ.itr f=some B:=by rfl)(hg:sc.names.lookup f=some .globalImplicit:=by rfl):ac (au Φ (.Call (.Name f p) args [] q) true sc ρ) v:=by
 rw[iH,if_pos hg]
 refine ac.bnd ha ?_
 unfold j5
 dsimp only
 rw[hF]
 dsimp only
 rw[if_pos rfl,hI]
 exact hv
theorem JJ{l:List D}{d:D}(h:l.length<b8)(hd:d.lless=true:=by rfl):ac (lI l [d] k) (l++[d]):=⟨_,rfl,.inl hd,h,True.intro⟩
end
end K
namespace Sp
open PySem PySem.Spec PyProof.Rows L2
variable{X:Cx}
section
variable{prog:Program}{w:World}{A:Around}{E:Value->Shared->Prop}{s:Shared}
end
def HZ:Stmt->Expr
 | .If c _ _ _=>c
 | _=>.Constant .none 0 ⟨0,0,0,0⟩

def HX(x:Int):List Int->List Int
 | []=>[x]
 | y::l=>if x<=y then x::y::l else y::HX x l
def AB:List Int->List Int
 | []=>[]
 | x::l=>HX x (AB l)
def OO(b:Bool)(n0:Nat)(p0 kp:Pos):List Keyword:=cond b [⟨some (Str.ofString "reverse"),.Constant (.bool true) n0 p0,kp⟩] []
def Mw(b:Bool)(ns:List Int):List Int:=cond b (AB ns).reverse (AB ns)
section
variable{prog:Program}{w:World}{A:Around}{E:Value->Shared->Prop}{s:Shared}
end
inductive Xd(Φ:Fx)(sc:Scope)(ρ:ae):Expr->D->Prop where
 | ev {e:Expr} {d:D} (h:ac (au Φ e false sc ρ) (d,0)):Xd Φ sc ρ e d
 | lrev {e:Expr} {l:List D} {k:Nat} {f g:Str} {p q r t:Pos} (h:ac (bi Φ [e] sc ρ) ([.lst l],k)) (fl:ax l=true) (hf:f = "list" := by rfl) (hg:g = "reversed" := by rfl) (gf:sc.names.lookup f=some .globalImplicit:=by rfl) (gg:sc.names.lookup g=some .globalImplicit:=by rfl):Xd Φ sc ρ (.Call (.Name f p) [.Call (.Name g q) [e] [] r] [] t) (.lst l.reverse)
 | srt (b:Bool) {e:Expr} {ns:List Int} {k n0:Nat} {f:Str} {p t p0 kp:Pos} (h:ac (bi Φ [e] sc ρ) ([.lst (ns.map D.int)],k)) (hn:ns.length<64) (hf:f = "sorted" := by rfl) (gf:sc.names.lookup f=some .globalImplicit:=by rfl):Xd Φ sc ρ (.Call (.Name f p) [e] (OO b n0 p0 kp) t) (.lst ((Mw b ns).map D.int))
 | short {e:Expr} {l:List D} {k:Nat} {f:Str} {p t:Pos} (h:ac (bi Φ [e] sc ρ) ([.lst l],k)) (hn:l.length<2) (fl:ax l=true) (hf:f = "sorted" := by rfl) (gf:sc.names.lookup f=some .globalImplicit:=by rfl):Xd Φ sc ρ (.Call (.Name f p) [e] [] t) (.lst l)
 | pick4 {e1 e2 e3 e4 i:Expr} {d1 d2 d3 d4 d:D} {j:Int} {k:Nat} {lp p:Pos} (h1:Xd Φ sc ρ e1 d1) (h2:Xd Φ sc ρ e2 d2) (h3:Xd Φ sc ρ e3 d3) (h4:Xd Φ sc ρ e4 d4) (hi:ac (au Φ i false sc ρ) (.int j,k)) (ha:atI [d1,d2,d3,d4] j=some d):Xd Φ sc ρ (.Subscript (.List [e1,e2,e3,e4] lp) i p) d
inductive Rn(Φ:Fx)(sc:Scope):List Stmt->ae->D->Prop where
 | fin {ss:List Stmt} {ρ:ae} {r:D} (h:ac (az Φ ss sc ρ) (.rt r)):Rn Φ sc ss ρ r
 | cut (n:Nat) {ss:List Stmt} {ρ ρ1:ae} {r:D} (h:ac (az Φ (ss.take n) sc ρ) (.nx ρ1)) (k:Rn Φ sc (ss.drop n) ρ1 r):Rn Φ sc ss ρ r
 | dem {ss:List Stmt} {ρ:ae} {r:D} (k:Rn Φ sc ss (gj ρ) r):Rn Φ sc ss ρ r
 | set {x:Str} {e:Expr} {px q:Pos} {ss:List Stmt} {ρ:ae} {d r:D} (h:Xd Φ sc ρ e d) (k:Rn Φ sc ss (bz ρ x (d,true)) r) (hx:ck sc x=true:=by rfl) (hc:jA e=false:=by rfl):Rn Φ sc (.Assign [.Name x px] e q::ss) ρ r
def L0(l:List Int):D:=.lst (l.map D.int)
def Lz(ρ:ae)(x:Str):ae:=fun y=>if y=x then none else ρ y
def qT(X:Cx)(H0:Hp)(tg:Expr)(body:List Stmt):List D->ae->Fl->Prop
 | [],ρ,fl=>fl=.nx ρ
 | d::ds,ρ,fl => ∃ρ1,GD X ρ tg d ρ1/\((∃ρ2,fR X H0 ρ1 body (.nx ρ2)/\qT X H0 tg body ds ρ2 fl)\/∃r,fl=.rt r/\fR X H0 ρ1 body (.rt r))
theorem DE{H0:Hp}{ρ:ae}{tg iter:Expr}{body:List Stmt}{pos:Pos}{ds:List D}{k:Nat}{fl:Fl}(hp:PassesOwn (model X.prog X.w) X.A X.env X.xe)(hcalm:X.calm=true)
  (hi:IE X (demote iter ρ) tg iter ds k) (hk:k<=1) (h:qT X H0 tg body ds (demote iter ρ) fl)
  (hs:∀x,foldedSetIterable iter X.env x=pure x):SD X H0 ρ (.For tg iter body [] pos) fl:=by
 intro pins s σ H D0 I ⟨ow0,E0,hl,B0,q0⟩
 obtain⟨ow,E,k0⟩:=jY (e:=iter) E0
 have B:=B0.keep k0
 have q:=q0.keep k0
 have pb:c5 X body (fun D σ H => ∃ρ fl,fR X H0 ρ body fl/\uX X H0 ρ fl D σ H):=fun pins s σ H D I ⟨ρ1,fl1,h1,h2⟩=>h1 pins s σ H D I h2
 have pg:PG X tg (fun v σ H Q => ∃g:TG,PG X tg g/\g v σ H Q):=fun pins s σ H v u Q I r ⟨g,h1,h2⟩=>h1 pins s σ H v u Q I r h2
 refine yC hp hcalm (hi ow) pg pb hs pins s σ H D0 I ⟨E,fun J H1 s1 itd=>?_⟩
 refine⟨fun i m σ' H'=>m=ds.length-i/\i<=ds.length/\∃ow' ρ',aH X ow' H' σ' ρ'/\σ'.length=X.N.length/\bL H0 ow' H'/\aS ow H1 ow' H'/\qT X H0 tg body (ds.drop i) ρ' fl,
  ⟨ds.length,by simp,Nat.zero_le _,ow,_,E.same s1,hl,B.keep (aS.same s1),aS.refl _ _,h⟩,?_⟩
 rintro i m σ' H' ⟨rfl,hile,ow',ρ',E',hl',B',k',hf⟩
 have q':m8 X H0 ow' H' fl D0:=q.keep ((aS.same s1).trans k')
 have st:d7 (Kd ow H k H1) (Kd ow H k H1) H1 H':=⟨fun a o ha hn=>k'.keep a o ha (.inl hn),fun a vs ha p=>k'.keep a _ ha (.inr (dY E.own hk p.1)),fun _ _ _ p=>p,fun _ p=>p⟩
 have it:=itd i H' st
 by_cases hlt:i<ds.length
 ·obtain⟨go,yl⟩:=it.1 ds[i] (List.getElem?_eq_getElem hlt)
  have hdrop:ds.drop i=ds[i]::ds.drop (i+1):=List.drop_eq_getElem_cons hlt
  rw[hdrop]at hf
  refine .inr ⟨go,fun σ2 H2=>i+1<=ds.length/\∃ow2 ρ2,aH X ow2 H2 σ2 ρ2/\σ2.length=X.N.length/\bL H0 ow2 H2/\aS ow H1 ow2 H2/\qT X H0 tg body (ds.drop (i+1)) ρ2 fl,fun σ2 H2 n=>⟨ds.length-(i+1),by omega,rfl,n.1,n.2⟩,fun x H3 y3=>?_⟩
  obtain⟨sm3,rx⟩:=yl x H3 y3
  obtain⟨ρ1,⟨g,g1,g2⟩,hf⟩:=hf
  have rx':af X.K H3 (fun a b=>b=true->ow' a=none) ds[i] x:=rx.impH (fun a o ha p _=>by
   obtain⟨o1,h1⟩:=p.2 rfl
   exact k'.low a o1 h1 (dY E.own hk p.1)) fun a _ z=>(by cases z)
  refine⟨g,g1,g2 ow' x σ' H3 _ hl' (E'.same sm3) rx' fun σ2 hl2 E2=>?_⟩
  have k3:aS ow' H' ow' H3:=aS.same sm3
  rcases hf with⟨ρ2,hb,hf⟩|⟨r,rfl,hb⟩
  ·exact⟨ρ1,.nx ρ2,hb,ow',E2,hl2,B'.keep k3,fun ow2 σ3 H4 a b c=>⟨hlt,ow2,ρ2,a,b,(B'.keep k3).keep c,k'.trans (k3.trans c),hf⟩⟩
  ·exact⟨ρ1,.rt r,hb,ow',E2,hl2,B'.keep k3,q'⟩
 ·have ei:i=ds.length:=by omega
  subst ei
  rw[List.drop_length]at hf
  cases (show fl=.nx ρ' from hf)
  exact .inl ⟨it.2 (Nat.le_refl _),q' ow' σ' H' E' hl' (aS.refl _ _)⟩
inductive Rp(Φ:Fx)(sc:Scope)(tg c:Expr):List D->ae->ae->Prop where
 | nil {ρ:ae}:Rp Φ sc tg c [] ρ ρ
 | cons {d:D} {ds:List D} {ρ ρ1 ρ':ae} {k:Nat} (hb:bF sc tg d ρ=some ρ1) (hc:ac (au Φ c false sc ρ1) (.bl false,k)) (h:Rp Φ sc tg c ds ρ1 ρ'):Rp Φ sc tg c (d::ds) ρ ρ'
inductive Xo(Φ:Fx)(sc:Scope)(ρ:ae):Option Expr->Option Int->Prop where
 | no:Xo Φ sc ρ none none
 | yes {e:Expr} {i:Int} {k:Nat} (h:ac (au Φ e false sc ρ) (.int i,k)):Xo Φ sc ρ (some e) (some i)
inductive uo(Φ:Fx)(sc:Scope)(ρ:ae):Expr->D->Prop where
 | name {x:Str} {p:Pos} {m:List D} (h:ρ x=some (.lst m,false)) (hx:dP x=true):uo Φ sc ρ (.Name x p) (.lst m)
 | cut {e:Expr} {lo hi:Option Expr} {l h:Option Int} {m:List D} {p2 p:Pos} (he:uo Φ sc ρ e (.lst m)) (hl:Xo Φ sc ρ lo l) (hh:Xo Φ sc ρ hi h):uo Φ sc ρ (.Subscript e (.Slice lo hi none p2) p) (.lst (fG m l h))
 | cat {a b:Expr} {l m:List D} {p:Pos} (ha:uo Φ sc ρ a (.lst l)) (hb:uo Φ sc ρ b (.lst m)) (hn:l.length+m.length<=b8):uo Φ sc ρ (.BinOp a .Add b p) (.lst (l++m))
mutual
inductive Rf(Φ:Fx)(sc:Scope):List Stmt->ae->Fl->Prop where
 | base {ss:List Stmt} {ρ:ae} {fl:Fl} (h:ac (az Φ ss sc ρ) fl):Rf Φ sc ss ρ fl
 | cut (n:Nat) {ss:List Stmt} {ρ ρ1:ae} {fl:Fl} (h:ac (az Φ (ss.take n) sc ρ) (.nx ρ1)) (k:Rf Φ sc (ss.drop n) ρ1 fl):Rf Φ sc ss ρ fl
 | seq {s:Stmt} {ss:List Stmt} {ρ ρ1:ae} {fl:Fl} (h:mw Φ sc s ρ (.nx ρ1)) (k:Rf Φ sc ss ρ1 fl):Rf Φ sc (s::ss) ρ fl
 | stop {s:Stmt} {ss:List Stmt} {ρ:ae} {r:D} (h:mw Φ sc s ρ (.rt r)):Rf Φ sc (s::ss) ρ (.rt r)
 | dem {ss:List Stmt} {ρ:ae} {fl:Fl} (k:Rf Φ sc ss (gj ρ) fl):Rf Φ sc ss ρ fl
inductive mw(Φ:Fx)(sc:Scope):Stmt->ae->Fl->Prop where
 | set {x:Str} {e:Expr} {px q:Pos} {ρ:ae} {d:D} (h:Xd Φ sc ρ e d) (hx:ck sc x=true) (hc:jA e=false):mw Φ sc (.Assign [.Name x px] e q) ρ (.nx (bz ρ x (d,true)))
 | setS {x:Str} {e:Expr} {px q:Pos} {ρ:ae} {d:D} (h:uo Φ sc ρ e d) (hx:ck sc x=true):mw Φ sc (.Assign [.Name x px] e q) ρ (.nx (bz ρ x (d,false)))
 | app1 {x m:Str} {M:List D->List D->Nat->Rs (List D)} {i e:Expr} {p1 p2 ap cp p4:Pos} {ρ:ae} {dt l l':List D} {d:D} {j:Int} {k ki:Nat} (hM:Φ.mtt m=some M) (hx:ρ x=some (.tup dt,true)) (hi:ac (au Φ i false sc ρ) (.int j,ki)) (hs:eg i) (hat:L2.atI dt j=some (.lst l)) (h:ac (bi Φ [e] sc ρ) ([d],k)) (hn:dP x=true) (hln:(ap.endLine==cp.line)=true) (hm:ac (M l [d] k) l') :
  mw Φ sc (.Expr (.Call (.Attribute (.Subscript (.Name x p1) i p2) m ap) [e] [] cp) p4) ρ (.nx (Lz ρ x))
 | sto2 {x:Str} {e i m:Expr} {p1 p2 p3 pos:Pos} {ρ:ae} {Ls:List (List Int)} {l:List Int} {j jm v:Int} {n nm k k1 k2:Nat} (hx:ρ x=some (.lst (Ls.map L0),true)) (h:ac (au Φ e false sc ρ) (.int v,k)) (hi:ac (au Φ i false sc ρ) (.int j,k1)) (hm:ac (au Φ m false sc ρ) (.int jm,k2)) (hn:dP x=true)
  (h1:ixN Ls.length j=some n) (h2:Ls[n]?=some l) (h3:ixN l.length jm=some nm) (hd:∀a y,Ls[a]?=some y->a≠n->y≠l) (hs:eg i) (hsl:∀a b c p,m ≠ .Slice a b c p) :
  mw Φ sc (.Assign [.Subscript (.Subscript (.Name x p1) i p2) m p3] e pos) ρ (.nx (bz ρ x (.lst ((Ls.set n (l.set nm v)).map L0),true)))
 | ret {e:Expr} {q:Pos} {ρ:ae} {d:D} (h:Xd Φ sc ρ e d):mw Φ sc (.Return (some e) q) ρ (.rt d)
 | iff {c:Expr} {a b:List Stmt} {pos:Pos} {ρ:ae} {t:Bool} {k:Nat} {fl:Fl} (hc:ac (au Φ c false sc ρ) (.bl t,k)) (h:Rf Φ sc (cond t a b) ρ fl):mw Φ sc (.If c a b pos) ρ fl
 | forC {tg it:Expr} {body:List Stmt} {pos:Pos} {ρ:ae} {d:D} {ds:List D} {k:Nat} {fl:Fl} (hi:ac (au Φ it true sc (demote it ρ)) (d,k)) (hd:items d=some ds) (hk:k<=1) (ht:eL it tg=true) (h:Rc Φ sc tg body ds (demote it ρ) fl):mw Φ sc (.For tg it body [] pos) ρ fl
 | forP {tg it c:Expr} {a:List Stmt} {pos q:Pos} {ρ ρ':ae} {d:D} {ds:List D} {k:Nat} (hi:ac (au Φ it true sc ρ) (d,k)) (hd:items d=some ds) (hl:ax ds=true) (ht:eL it tg=true) (h:Rp Φ sc tg c ds ρ ρ'):mw Φ sc (.For tg it [.If c a [] q] [] pos) ρ (.nx ρ')
inductive Rc(Φ:Fx)(sc:Scope):Expr->List Stmt->List D->ae->Fl->Prop where
 | nil {tg:Expr} {body:List Stmt} {ρ:ae}:Rc Φ sc tg body [] ρ (.nx ρ)
 | cons {tg:Expr} {body:List Stmt} {d:D} {ds:List D} {ρ ρ1 ρ2:ae} {fl:Fl} (hb:bF sc tg d ρ=some ρ1) (h:Rf Φ sc body ρ1 (.nx ρ2)) (k:Rc Φ sc tg body ds ρ2 fl):Rc Φ sc tg body (d::ds) ρ fl
 | stop {tg:Expr} {body:List Stmt} {d:D} {ds:List D} {ρ ρ1:ae} {r:D} (hb:bF sc tg d ρ=some ρ1) (h:Rf Φ sc body ρ1 (.rt r)):Rc Φ sc tg body (d::ds) ρ (.rt r)
end
def mW(ds:List D):R1 :=
 match ds with
 | [.int a,.int b]=>.ok (.int (if b<a then b else a),0) []
 | _=>.st
theorem Ft:dC "min" mW:=by
 refine⟨by decide +kernel,by decide +kernel,by decide +kernel,rfl,fun X ds z l o hc h _=>.inl ⟨"min", by decide +kernel,?_⟩⟩
 unfold mW at h
 split at h
 ·rename_i a b
  cases h
  refine⟨_,zR hc,fun ow H0 H2 vs P Q o s rx q=>?_⟩
  rw[ai]at rx
  obtain⟨v,r,rfl,r1,r2⟩:=rx
  obtain⟨w,rfl,r3⟩:=r2.only
  rw[af]at r1 r3
  subst r1 r3
  exact⟨a,b,rfl,q _ _ (aw.refl _) (by rw[af])⟩
 ·cases h
variable{X:Cx}
def wZ(ds:List D):R1 :=
 match ds with
 | [.str x]=>.ok (.int x.length,0) [x.length<=1048576]
 | ds=>By ds
theorem Bx:dC "len" wZ:=by
 refine⟨by decide +kernel,by decide +kernel,by decide +kernel,rfl,fun X ds z l o hc h hp=>?_⟩
 unfold wZ at h
 split at h
 ·rename_i x
  refine .inl ⟨"len", by decide +kernel,?_⟩
  cases h
  refine⟨_,ua,fun ow H0 H2 vs P Q o s rx q=>?_⟩
  obtain⟨v,rfl,ry⟩:=rx.only
  rw[af]at ry;subst ry
  exact⟨x,rfl,by rw[sizeLine_eq];have:=hp.1;omega,q _ _ (aw.refl _) (by rw[af])⟩
 ·exact Fu.2.2.2.2 X _ z l o hc h hp
def gk(ds:List D):R1 :=
 match ds with
 | [.str x]=>(match intText? x with|some n=>.ok (.int n,0) [x.length<=640]|none=>.st)
 | ds=>BC ds
theorem zT:cP X (.type "int") (fun xs H Q => ∃x n,xs=[.str x]/\intText? x=some n/\x.length<=640/\Q (.int n) H):=by
 intro pins s σ H xs us Q I r h
 obtain⟨x,n,rfl,h1,h2,q⟩:=h
 obtain⟨u,rfl,t,rfl⟩:=dl r
 exact W.KIN.call_text h1 h2 ⟨.int n,H,I.tok _,⟨_,rfl⟩,q⟩
theorem BB:dC "int" gk:=by
 refine⟨by decide +kernel,by decide +kernel,by decide +kernel,rfl,fun X ds z l o hc h hp=>?_⟩
 unfold gk at h
 split at h
 ·rename_i x
  split at h
  ·rename_i n e
   refine .inr ⟨"int", by decide +kernel,?_⟩
   cases h
   refine⟨_,zT,fun ow H0 H2 vs P Q o s rx q=>?_⟩
   obtain⟨v,rfl,ry⟩:=rx.only
   rw[af]at ry;subst ry
   exact⟨x,n,rfl,e,hp.1,q _ _ (aw.refl _) (by rw[af])⟩
  ·cases h
 ·exact Fy.2.2.2.2 X _ z l o hc h hp
theorem Gb:C3 X (fun x lo hi H Q => ∃y,x=.str y/\y.length<=sizeLine/\Q (.str (Txt.slice y lo hi)) H):=by
 intro pins s σ H x v vl vu lo hi sl Q I rx hs pl pu h
 obtain⟨y,rfl,hy,q⟩:=h
 obtain⟨t,rfl⟩:=rx
 refine⟨"str", "str.__getitem__", PySem.F.slot_str_getitem.lookup,typeIs_str s y t,?_⟩
 obtain⟨l,hl,el⟩:∃l:Option (Int×Tok),partValue l=vl/\l.map (·.1)=lo:=by
  cases pl with
  | none=>exact⟨none,rfl,rfl⟩
  | int i t=>exact⟨some (i,t),rfl,rfl⟩
 obtain⟨m,hm,em⟩:∃l:Option (Int×Tok),partValue l=vu/\l.map (·.1)=hi:=by
  cases pu with
  | none=>exact⟨none,rfl,rfl⟩
  | int i t=>exact⟨some (i,t),rfl,rfl⟩
 obtain⟨o,h1,h2,h3⟩:=hs
 refine wpAny_getItem_str_slice (l:=l) (u:=m) (st:=none) ⟨o,h1,h2,by rw[h3,hl,hm];rfl⟩ rfl ?_
 subst el em
 exact post_val_or_str ⟨Nat.le_trans (Txt.slice_le y (l.map (·.1)) (m.map (·.1))) hy,fun t' k=>⟨.str (Txt.slice y (l.map (·.1)) (m.map (·.1))),H,I.tok _,⟨t',rfl⟩,q⟩⟩
def bw(x:D)(lo hi:Option Int):R1 :=
 match x with
 | .str y=>.ok (.str (Txt.slice y lo hi),0) [y.length<=1048576]
 | x=>sj x lo hi
theorem aA:oN bw:=fun X ρ a lo hi p2 pos x z l h k j o ha hl hh e hp=>by
 unfold bw at e
 split at e
 ·rename_i y
  cases e
  refine fun ow=>bC (mH Gb (ha ow) (hl ow) (hh ow)) fun σ H Q ⟨E,q⟩=>⟨E,fun v H1 s1 r1=>⟨E.same s1,fun H2 s2=>⟨(E.same s1).same s2,fun H3 s3=>?_⟩⟩⟩
  rw[af]at r1;subst r1
  exact⟨y,rfl,by rw[sizeLine_eq];have:=hp.1;omega,q _ H3 (s1.trans (s2.trans s3)) (by rw[af])⟩
 ·exact Bi ha hl hh e hp
theorem yh{prog:Program}{w:World}{A:Around}{E:Value->Shared->Prop}{s:Shared}{x y:Str}{t u:Tok}{Q:Value->Shared->Prop}(hy:(y.length==0)=false)(hsz:x.length+2<=sizeLine)
  (h:∀(l:List (Str×Tok)) (k:Nat),l.map (·.1)=Txt.split x y->Q (.ref s.heap.objs.size) { s with heap:=s.heap.push { cls:=.type "list", data:=.seq (strValues l).toArray },toks:=k }) :
  wpAny (model prog w) A (call (.builtin "str.split") [.str x t,.str y u]) Q E s:=by
 have e1:=(fact_split x y).2
 cases h1:(decide (x.length<y.length) || decide (Builtin.Str.strKind x<Builtin.Str.strKind y))with
 | true=>exact call_meets PySem.F.slot_str_split (typeIs_str s x t) PySem.F.entry_str_split (PySem.F.args_str_split_2 _ _) (meets_str_split_cannot_occur x y t u h1) (h [(x,t)] s.toks (by unfold Txt.split;rw[if_pos h1];rfl))
 | false =>
  cases hf:(Builtin.Str.occurrences x y 0 x.length (x.length+1)).isEmpty with
  | true=>exact call_meets PySem.F.slot_str_split (typeIs_str s x t) PySem.F.entry_str_split (PySem.F.args_str_split_2 _ _) (meets_str_split_not_found x y t u h1 hy hf) (h [(x,t)] s.toks (by unfold Txt.split;rw[if_neg (by rw[h1];decide),if_pos hf];rfl))
  | false =>
   have es:Txt.split x y=Builtin.Str.partsBetween x (Builtin.Str.occurrences x y 0 x.length (x.length+1)) y.length:=by unfold Txt.split;rw[if_neg (by rw[h1];decide),if_neg (by rw[hf];decide)]
   rw[es]at e1 h
   refine call_meets PySem.F.slot_str_split (typeIs_str s x t) PySem.F.entry_str_split (PySem.F.args_str_split_2 _ _) (meets_str_split_sep x y t u h1 hy hf (by omega) (by omega)) ?_
   rw[strsFrom_eq]
   exact h _ _ (numbered_texts _ _)
theorem qe:∀l:List (Str×Tok),aL (l.map fun p=>V.str p.1) (strValues l)
 | []=>.nil
 | p::l=>.cons ⟨p.2,rfl⟩ (qe l)
theorem sB{K:W.Frag}{P:bx}{H:Hp}:∀ys:List Str,ai K H P (ys.map D.str) (ys.map V.str)
 | []=>ai.nil
 | y::ys=>ai.cons (by rw[af]) (sB ys)
theorem AY:v5 X "str.split" (fun x xs H Q => ∃a b,x=.str a/\xs=[.str b]/\(b.length==0)=false/\a.length+2<=sizeLine/\∀p,H p=none->Q (.ref p) (aM H p (.lst ((Txt.split a b).map V.str)))):=by
 intro pins s σ H x xs v us Q I rx rxs h
 obtain⟨a,b,rfl,rfl,h1,h2,q⟩:=h
 obtain⟨t,rfl⟩:=rx
 obtain⟨u,rfl,t',rfl⟩:=dl rxs
 refine yh h1 h2 fun l k hl=>?_
 have hz:l.length<=sizeLine:=by
  have e:=(fact_split a b).2
  have:=congrArg List.length hl
  rw[List.length_map]at this
  omega
 refine⟨.ref s.heap.objs.size,_,I.laid (t':=k) (o:=.lst ((Txt.split a b).map V.str)) (fun b ob q=>Heap.get?_push_of_some _ q) (Nat.le_refl _) ?_,rfl,q _ (I.hok.fresh (Nat.le_refl _))⟩
 rw[<- hl,List.map_map]
 exact⟨by rw[List.length_map];exact hz,strValues l,0,qe l,Heap.get?_push_size _ rfl⟩
def jy(x:D)(ds:List D):R1 :=
 match x,ds with
 | .str a,[.str b]=>.ok (.lst ((Txt.split a b).map D.str),0) [(b.length==0)=false,a.length<=1048576]
 | _,_=>.st
theorem yS:lQ "split" jy:=by
 intro X ρ a args ap cp x k ds j z l o hc hroom hea hes hst hlen hline hb h hp
 unfold jy at h
 split at h
 ·rename_i y b
  cases h
  obtain⟨e,rfl⟩:∃e,args=[e]:=by
   match args,hlen with
   | [e],_=>exact⟨e,rfl⟩
  intro ow
  refine bC (rj PySem.F.plainAttrs_str PySem.F.slot_str_split PySem.F.type_str_split AY (hea ow) (hes ow) (c6 hb) (gJ hst (show 1<29 by decide)) hline (aD (hst e List.mem_cons_self)) rfl) fun σ H Q ⟨E,q⟩=>⟨E,fun v H1 s1 r1=>?_⟩
  rw[af]at r1;subst r1
  refine⟨rfl,E.same s1,fun vs H2 s2 r2=>?_⟩
  obtain⟨v,rfl,r3⟩:=r2.only
  rw[af]at r3;subst r3
  refine⟨y,b,rfl,rfl,hp.1,by rw[sizeLine_eq];have:=hp.2.1;omega,fun p hp'=>q _ _ ((s1.trans s2).trans (cQ hp')) ?_⟩
  rw[af]
  exact⟨p,_,true,rfl,aI,⟨rfl,(s1.trans s2).free hp'⟩,sB _⟩
 ·cases h
theorem KY:v5 X "str.startswith" (fun x xs H Q => ∃a b,x=.str a/\xs=[.str b]/\Q (.bl (Txt.startswith a b)) H):=by
 intro pins s σ H x xs v us Q I rx rxs h
 obtain⟨a,b,rfl,rfl,q⟩:=h
 obtain⟨t,rfl⟩:=rx
 obtain⟨u,rfl,t',rfl⟩:=dl rxs
 exact SC.startswith ⟨.bl _,H,I,rfl,q⟩
def HA(x:D)(ds:List D):R1 :=
 match x,ds with
 | .str a,[.str b]=>.ok (.bl (Txt.startswith a b),0) []
 | _,_=>.st
theorem Hz:lQ "startswith" HA:=by
 intro X ρ a args ap cp x k ds j z l o hc hroom hea hes hst hlen hline hb h hp
 unfold HA at h
 split at h
 ·rename_i y b
  cases h
  obtain⟨e,rfl⟩:∃e,args=[e]:=by
   match args,hlen with
   | [e],_=>exact⟨e,rfl⟩
  intro ow
  refine bC (rj PySem.F.plainAttrs_str PySem.F.slot_str_startswith PySem.F.type_str_startswith KY (hea ow) (hes ow) (c6 hb) (gJ hst (show 1<29 by decide)) hline (aD (hst e List.mem_cons_self)) rfl) fun σ H Q ⟨E,q⟩=>⟨E,fun v H1 s1 r1=>?_⟩
  rw[af]at r1;subst r1
  refine⟨rfl,E.same s1,fun vs H2 s2 r2=>?_⟩
  obtain⟨v,rfl,r3⟩:=r2.only
  rw[af]at r3;subst r3
  exact⟨y,b,rfl,rfl,q _ _ (s1.trans s2) (by rw[af])⟩
 ·cases h
end Sp
namespace K
open PySem L2 Sp Qm
variable{l:List Nat}{c k:Nat}{i:Int}
abbrev sN(l:List Nat):Str:=⟨l.toArray⟩
theorem jk(x:Str):x=sN x.cps.toList:=by cases x;simp[sN]
theorem js(s:String):Str.ofString s=sN (s.toList.map Char.toNat):=by rw[jk (Str.ofString s),PyProof.Rows.signs_ofString]
theorem bO(l:List Nat):(sN l).length=l.length:=by show l.toArray.size=_;simp
theorem jp(l m:List Nat):sN l++sN m=sN (l++m):=by show(⟨l.toArray++m.toArray⟩:Str)=_;simp
theorem fW{m:List Nat}(h:sN l=sN m):l=m:=by
 have:=congrArg (fun x:Str=>x.cps.toList) h
 simpa using this
theorem fj(l:List Nat):(sN l).cps.toList=l:=by simp
def cH(m:Nat):List Nat:=(Nat.toDigits 10 m).map Char.toNat
def bb(i:Int):List Nat:=if i<0 then 45::cH i.natAbs else cH i.natAbs
theorem xX(m:Nat):Str.ofString (toString (m:Int))=sN (cH m):=by rw[jk (Str.ofString _),W.KIN.signs_num];rfl
theorem BS(i:Int):Str.ofString (toString i)=sN (bb i):=by
 unfold bb
 by_cases h:i<0
 ·have e:(0-i)=((i.natAbs:Nat):Int):=by omega
  rw[if_pos h,PyProof.Rows.toString_neg h,e,js,String.toList_append,List.map_append,<- jp]
  have h2:=xX i.natAbs
  rw[js]at h2
  rw[h2,jp]
  rfl
 ·have e:i=((i.natAbs:Nat):Int):=by omega
  rw[if_neg h]
  conv=>lhs;rw[e]
  exact xX _
theorem gi(m:Nat):∀c∈cH m,48<=c/\c<=57:=by
 intro c hc
 obtain⟨d,hd,rfl⟩:=List.mem_map.mp hc
 have:=Nat.isDigit_of_mem_toDigits (by decide) (by decide) hd
 simp only[Char.isDigit,Bool.and_eq_true,decide_eq_true_eq]at this
 obtain⟨h1,h2⟩:=this
 exact⟨UInt32.le_iff_toNat_le.mp h1,UInt32.le_iff_toNat_le.mp h2⟩
theorem le(m:Nat):NumText.digitsVal (cH m)=m:=W.KIN.val_back m
theorem rE(m:Nat):cH m≠[]:=by
 intro z
 have:=(PyProof.Rows.digitsFacts10 m).ge1
 have e:=congrArg List.length z
 unfold cH at e
 rw[List.length_map]at e
 simp at e
 try omega
theorem tY{m:Nat}(h1:1<=k)(h:m<10 ^ k):(cH m).length<=k:=by unfold cH;rw[List.length_map];exact PyProof.Rows.digits10_le h1 h
theorem uz(h:c<=57):(Char.ofNat c).toNat=c:=by
 have hv:c.isValidChar:=.inl (by omega)
 unfold Char.ofNat
 rw[dif_pos hv]
 first|done|rfl
theorem qA:∀{l:List Nat} {c:Nat} {r:List Nat},l.dropWhile (fun x=>x==48)=c::r->c≠48
 | [],c,r,h=>by cases h
 | a::l,c,r,h=>by
  rw[List.dropWhile_cons]at h
  split at h
  ·exact qA h
  ·rename_i hn
   cases h
   intro z;subst z;exact hn rfl
theorem vU(m:Nat):cH m=[48]\/∃c r,cH m=c::r/\c≠48:=by
 have h:=NumText.toDigits_all (cH m) (gi m)
 rw[le]at h
 cases e:(cH m).dropWhile (fun x=>x==48)with
 | nil =>
  rw[e]at h
  left
  unfold cH
  rw[h];rfl
 | cons c r =>
  rw[e]at h
  right
  have hc:=qA e
  have hm:∀x∈c::r,x<=57:=fun x hx=>(gi m x ((List.dropWhile_sublist (fun x=>x==48)).subset (by rw[e];exact hx))).2
  refine⟨c,r,?_,hc⟩
  show(Nat.toDigits 10 m).map Char.toNat=_
  rw[h]
  show List.map Char.toNat (List.map Char.ofNat (c::r))=c::r
  rw[List.map_map]
  conv=>rhs;rw[<- List.map_id (c::r)]
  exact List.map_congr_left fun x hx=>uz (hm x hx)
theorem uW(i:Int):∀c∈bb i,c=45\/48<=c/\c<=57:=by
 intro c hc
 unfold bb at hc
 split at hc
 ·rcases List.mem_cons.mp hc with z|z
  ·exact .inl z
  ·exact .inr (gi _ c z)
 ·exact .inr (gi _ c hc)
def jn:List (List Nat)->List Nat
 | []=>[]
 | a::l=>a++l.flatMap fun p=>32::p
theorem EG(ws:List (List Nat)):Txt.join (sN [32]) (ws.map sN)=sN (jn ws):=by
 have key:∀(ws:List (List Nat)) (acc:Array Nat),List.foldl (fun(acc:Array Nat) (p:Str)=>acc++(sN [32]).cps++p.cps) acc (ws.map sN)=(acc.toList++ws.flatMap fun p=>32::p).toArray:=by
  intro ws
  induction ws with
  | nil=>intro acc;simp
  | cons w ws ih =>
   intro acc
   rw[List.map_cons,List.foldl_cons,ih,List.flatMap_cons]
   simp
 show(⟨List.foldl _ ((ws.map sN).headD Str.empty).cps ((ws.map sN).drop 1)⟩:Str)=_
 cases ws with
 | nil=>rfl
 | cons w ws =>
  show(⟨List.foldl (fun(acc:Array Nat) (p:Str)=>acc++(sN [32]).cps++p.cps) (sN w).cps (ws.map sN)⟩:Str)=_
  rw[key]
  show sN ((sN w).cps.toList++_)=_
  rw[fj];rfl
theorem vC:∀(ws:List (List Nat)),Str.join (sN [32]) (ws.map sN)=sN (jn ws)
 | []=>rfl
 | [w]=>by show sN w=sN (w++[]);rw[List.append_nil]
 | w::v::ws=>by
  show sN w++sN [32]++Str.join (sN [32]) ((v::ws).map sN)=_
  rw[vC (v::ws),jp,jp]
  simp[jn]
def du(w:List Nat):Prop:=32∉w
theorem BT{a:List Nat}{l:List (List Nat)}(h:du a):(jn (a::l)).takeWhile (fun c=>c != 32)=a/\(jn (a::l)).dropWhile (fun c=>c != 32)=l.flatMap fun p=>32::p:=by
 unfold jn
 have ha:∀c∈a,(c != 32)=true:=fun c hc=>by
  have:c≠32:=fun z=>h (z ▸ hc)
  simpa using this
 cases l with
 | nil =>
  refine⟨?_,?_⟩
  ·show List.takeWhile _ (a++[])=a
   rw[List.takeWhile_append_of_pos ha];simp
  ·show List.dropWhile _ (a++[])=[]
   rw[List.dropWhile_append_of_pos ha];rfl
 | cons b l =>
  show List.takeWhile _ (a++List.flatMap _ (b::l))=a/\List.dropWhile _ (a++List.flatMap _ (b::l))=_
  rw[List.takeWhile_append_of_pos ha,List.dropWhile_append_of_pos ha,List.flatMap_cons]
  refine⟨?_,?_⟩
  ·show a++List.takeWhile _ (32::(b++_))=a
   rw[List.takeWhile_cons_of_neg (by decide),List.append_nil]
  ·show List.dropWhile _ (32::(b++_))=_
   rw[List.dropWhile_cons_of_neg (by decide)];rfl
theorem y6:∀{l m:List (List Nat)},l≠[]->m≠[]->(∀w∈l,du w)->(∀w∈m,du w)->jn l=jn m->l=m
 | [],m,h,_,_,_,_=>absurd rfl h
 | a::l,[],_,h,_,_,_=>absurd rfl h
 | a::l,b::m,_,_,hl,hm,e=>by
  obtain⟨a1,a2⟩:=BT (l:=l) (hl a List.mem_cons_self)
  obtain⟨b1,b2⟩:=BT (l:=m) (hm b List.mem_cons_self)
  rw[e]at a1 a2
  rw[b1]at a1
  rw[b2]at a2
  subst a1
  cases l with
  | nil =>
   cases m with
   | nil=>rfl
   | cons v m=>rw[List.flatMap_nil,List.flatMap_cons]at a2;cases a2
  | cons u l =>
   cases m with
   | nil=>rw[List.flatMap_nil,List.flatMap_cons]at a2;cases a2
   | cons v m =>
    rw[List.flatMap_cons,List.flatMap_cons]at a2
    have e2:jn (v::m)=jn (u::l):=by
     have:=congrArg List.tail a2
     exact this
    rw[y6 (by simp) (by simp) (fun w hw=>hl w (List.mem_cons_of_mem _ hw)) (fun w hw=>hm w (List.mem_cons_of_mem _ hw)) e2.symm]
theorem mB{ws:List (List Nat)}(h0:ws≠[])(h:∀w∈ws,du w):Txt.split (sN (jn ws)) (sN [32])=ws.map sN:=by
 have hc:=PyProof.Rows.split_closes (sN (jn ws)) 32
 rw[Bool.and_eq_true]at hc
 obtain⟨h1,h2⟩:=hc
 have h1:Str.join (sN [32]) (Txt.split (sN (jn ws)) (sN [32]))=sN (jn ws):=by simpa using h1
 have hl:=(PyProof.Rows.fact_split (sN (jn ws)) (sN [32])).1
 generalize hP:Txt.split (sN (jn ws)) (sN [32])=ps at *
 obtain⟨qs,rfl⟩:∃qs:List (List Nat),ps=qs.map sN:=⟨ps.map fun p=>p.cps.toList,by
  rw[List.map_map]
  conv=>lhs;rw[<- List.map_id ps]
  exact List.map_congr_left fun p _=>jk p⟩
 rw[vC]at h1
 have h1:=fW h1
 have hq:∀w∈qs,du w:=fun w hw z=>by
  have:=List.all_eq_true.mp h2 (sN w) (List.mem_map.mpr ⟨w,hw,rfl⟩)
  rw[PyProof.Rows.countIn_signs_decide,fj,decide_eq_true z]at this
  cases this
 rw[y6 (fun z=>by subst z;simp at hl) h0 hq h h1]
theorem B5(l:List Nat)(c:Nat):Txt.startswith (sN l) (sN [c])=decide (l.head?=some c):=by
 unfold Txt.startswith Builtin.Str.subAt
 rw[bO,bO]
 cases l with
 | nil=>rfl
 | cons a l =>
  have e:((a::l).toArray.extract 0 (0+[c].length)==[c].toArray)=decide (a=c):=by
   rw[List.extract_toArray,Bool.eq_iff_iff]
   simp
  show(decide (0+[c].length<=(a::l).length)&&((a::l).toArray.extract 0 (0+[c].length)==[c].toArray))=_
  rw[e,decide_eq_true (by simp),Bool.true_and]
  simp
theorem CM(c:Nat)(l:List Nat):Txt.slice (sN (c::l)) (some 1) none=sN l:=by
 have hl:(sN (c::l)).length=l.length+1:=by rw[bO];simp
 have:=PyProof.Rows.slice_from_eq (x:=sN (c::l)) (i:=1) (b:=l.length+1) (by decide) (by rw[hl];omega) (by rw[hl];omega)
 rw[fj]at this
 rw[this]
 show sN _=sN _
 congr 1
 rw[show((l.length:Int)+1-1).toNat=l.length by omega]
 simp
def Be:Str:=Str.ofString "0123456789"
theorem Iq(h1:48<=c)(h2:c<=57):Txt.contains Be (sN [c])=true:=by
 have:c=48\/c=49\/c=50\/c=51\/c=52\/c=53\/c=54\/c=55\/c=56\/c=57:=by omega
 rcases this with rfl|rfl|rfl|rfl|rfl|rfl|rfl|rfl|rfl|rfl<;>decide +kernel
theorem nN(h:(bb i).length<=640):intText? (sN (bb i))=some i:=by
 unfold bb at h⊢
 by_cases hi:i<0
 ·rw[if_pos hi]at h⊢
  rw[intText_neg (cs:=cH i.natAbs) (fj _) (gi _) (rE _) (by rw[bO];omega),le]
  congr 1;omega
 ·rw[if_neg hi]at h⊢
  rw[intText_digits (by rw[fj];exact gi _) (by rw[fj];exact rE _) (by rw[bO];omega),fj,le]
  congr 1;omega
theorem fY(h:∀c∈l,c<128):PyData.strOk (sN l)=true:=by
 unfold PyData.strOk
 rw[Array.all_eq_true']
 intro c hc
 have:=h c (by simpa using hc)
 exact decide_eq_true (by omega)
theorem Ac(h:∀c∈l,c<128):((sN l).cps.all fun c=>decide (c<128))=true:=by
 rw[Array.all_eq_true']
 intro c hc
 exact decide_eq_true (h c (by simpa using hc))
theorem yq(l:List Nat):Sp.sgs (sN l)=l.map fun c=>D.str (sN [c]):=by unfold Sp.sgs;rw[fj]
theorem eS(x y:Str):eqD (.str x) (.str y)=decide (x=y):=by
 show((x==y):Bool)=_
 by_cases h:x=y
 ·subst h;simp
 ·rw[decide_eq_false h];simpa using h
theorem gE(h:i.natAbs<10 ^ 40):(bb i).length<=41:=by
 unfold bb
 have:=tY (m:=i.natAbs) (k:=40) (by decide) h
 split
 ·rw[List.length_cons];omega
 ·omega
theorem LM(l:List Nat):ac (gX [.lst (l.map fun _=>D.bl true)]) (.bl true,0):=by
 have e:∀l:List Nat,bR (l.map fun _=>D.bl true)=some (l.map fun _=>true):=fun l=>by
  induction l with
  | nil=>rfl
  | cons b bs ih=>rw[List.map_cons,bR,ih];rfl
 have z:(l.map fun _=>true).all id=true:=List.all_eq_true.mpr fun x hx=>by
  obtain⟨_,_,rfl⟩:=List.mem_map.mp hx;rfl
 unfold gX;dsimp only;rw[e]
 have h:ac (Rs.ok (D.bl ((l.map fun _=>true).all id),0) []:R1) (D.bl ((l.map fun _=>true).all id),0):=cw
 rw[z]at h
 dsimp only
 rw[z]
 exact h
def L4:Stmt->Expr
 | .If (.BoolOp _ (e::_) _) _ _ _=>e
 | _=>.Constant .none 0 ⟨0,0,0,0⟩
def JI:Stmt->Expr
 | .Assign _ e _=>e
 | _=>.Constant .none 0 ⟨0,0,0,0⟩
theorem gO{Φ:Fx}{sc:Scope}{ρ:ae}{a:Expr}{m:Str}{ap cp:Pos}{args:List Expr}{it:Bool}{y:Str}{ds:List D}{j:Nat}{M:D->List D->R1}{r:D×Nat}(ha:ac (au Φ a false sc ρ) (.str y,k))(hs:ac (bi Φ args sc ρ) (ds,j))(hM:ac (M (.str y) ds) r)(hm:Φ.mth m=some M:=by rfl)(hp:(ap.endLine==cp.line)=true:=by rfl)(hb:fx a=true:=by rfl):ac (au Φ (.Call (.Attribute a m ap) args [] cp) it sc ρ) r:=by
 rw[jX,if_pos hp]
 refine ha.bnd (hs.bnd ?_)
 show ac (if fx a=true then(match Φ.mth m with|some M=>M (.str y) ds|none=>.st)else .st) r
 rw[if_pos hb,hm]
 exact hM
theorem yT{n:Nat}(h:n<10 ^ 40):n<2 ^ 1900:=Nat.lt_trans h (Nat.lt_of_lt_of_le (show 10 ^ 40<2 ^ 200 by decide) (Nat.pow_le_pow_right (by decide) (by decide)))
theorem jN(i:Int):(bb i).head?=some 45↔i<0:=by
 unfold bb
 split
 ·rename_i h;simp[h]
 ·rename_i h
  constructor
  ·intro e
   exfalso
   have hm:45∈cH i.natAbs:=List.mem_of_mem_head? e
   have:=gi _ 45 hm
   omega
  ·intro z;exact absurd z h
theorem Do(i:Int):sN (bb i)≠Str.ofString "-0" := by
 intro e
 rw[js]at e
 have e:bb i=[45,48]:=fW e
 have hi:=(jN i).mp (by rw[e];rfl)
 unfold bb at e
 rw[if_pos hi]at e
 have e2:cH i.natAbs=[48]:=by injection e
 have:=le i.natAbs
 rw[e2]at this
 have z:NumText.digitsVal [48]=0:=rfl
 rw[z]at this
 omega
theorem xY(i:Int):∀c∈bb i,c<128:=fun c hc=>by rcases uW i c hc with z|z<;>omega
end K
namespace Sp
open PySem PySem.Spec PyProof.Rows L2
variable{X:Cx}
end Sp
namespace K
open PySem L2 Sp Qm
variable{l:List Nat}{B m:Nat}{k:Int}{q:Qd}
theorem zA(l:List Nat):Txt.slice (sN l) none (some 1)=sN (l.take 1):=by
 have:=PyProof.Rows.slice_to_min_closes (x:=sN l) (n:=1) (m:=if (((sN l).length:Nat):Int)<1 then(((sN l).length:Nat):Int)else 1) (by decide) rfl
 have:=eq_of_beq this
 rw[this,fj]
 show sN _=sN _
 congr 1
 cases l with
 | nil=>rfl
 | cons a l =>
  rw[if_neg (by rw[bO,List.length_cons];omega)]
  rfl
def bY(s:String):List Nat:=s.toList.map Char.toNat
theorem eN(s:String):Str.ofString s=sN (bY s):=js s
def Qu:List (List Nat):=[bY "", bY "-", bY "-0", bY "00", bY "01", bY "+1", bY "1.0", bY "1/1", bY "1/", bY "a", bY "1/3", bY "--1", bY "1-", bY "1/02", bY "1e3", bY "1_0"]
def Qv:List (List Nat):=[bY "1/2", bY "", bY "03", bY "-01", bY "-", bY "--1"]
def JE:Nat:=10 ^ 42
inductive Wc:List Nat->Option Int->Prop where
 | tx (n:Int) (h:n.natAbs<JE):Wc (bb n) (if (n*2).natAbs<10 ^ 40 then some (n*2)else none)
 | hf (m:Int) (h:m.natAbs<JE) (ho:m.fmod 2≠0):Wc (bb m++[47,50]) (if m.natAbs<10 ^ 40 then some m else none)
 | he (m:Int) (h:m.natAbs<10 ^ 40) (ho:m.fmod 2=0):Wc (bb m++[47,50]) none
 | bd (w:List Nat) (h:w∈Qu):Wc w none
 | bh (w:List Nat) (h:w∈Qv):Wc (w++[47,50]) none
def gh(c:Nat):Bool:=decide (48<=c)&&decide (c<=57)
def dJ(l:List Nat):List Nat:=if l.head?=some 45 then l.tail else l
def k7(l:List Nat):Bool:=(decide (1<=l.length)&&decide (l.length<=40))&&(!(decide (l.head?=some 48)&&decide (1<l.length))&&l.all gh)
theorem JF{n:Nat}(h:n<10 ^ 40):n<JE:=Nat.lt_of_lt_of_le h (by decide)
theorem CF:∀c,c<128->Txt.contains Be (sN [c])=gh c:=by decide +kernel
theorem LN(g:Nat->Bool)(l:List Nat):ac (gX [.lst (l.map fun c=>D.bl (g c))]) (.bl (l.all g),0):=by
 have e:∀l:List Nat,bR (l.map fun c=>D.bl (g c))=some (l.map g):=fun l=>by
  induction l with
  | nil=>rfl
  | cons b bs ih=>rw[List.map_cons,bR,ih];rfl
 have z:(l.map g).all id=l.all g:=by rw[List.all_map];rfl
 unfold gX;dsimp only;rw[e]
 dsimp only
 rw[z]
 exact cw
theorem Cu(h:∀c∈l,c<128):items (.str (sN l))=some (l.map fun c=>D.str (sN [c])):=by
 show(if ((sN l).cps.all fun c=>decide (c<128))=true then some (Sp.sgs (sN l))else none)=_
 rw[if_pos (Ac h),yq]
theorem ye{l:List Nat}(h:∀c∈l,c<128):∀c∈dJ l,c<128:=fun c hc=>by
 unfold dJ at hc
 split at hc
 ·exact h c (List.mem_of_mem_tail hc)
 ·exact h c hc
theorem yd(l:List Nat):(dJ l).length<=l.length:=by
 unfold dJ
 split
 ·rw[List.length_tail];omega
 ·exact Nat.le_refl _
theorem F5(i:Int):dJ (bb i)=cH i.natAbs:=by
 unfold dJ
 by_cases hi:i<0
 ·rw[if_pos ((jN i).mpr hi),show bb i=45::cH i.natAbs from if_pos hi];rfl
 ·rw[if_neg fun z=>hi ((jN i).mp z),show bb i=cH i.natAbs from if_neg hi]
theorem zz(h:l.head?=some 45):Txt.slice (sN l) (some 1) none=sN l.tail:=by
 cases l with
 | nil=>cases h
 | cons c l=>exact CM c l
def fN:List (Option Int)->Option Nat
 | []=>none
 | none::_=>some 0
 | some _::l=>(fN l).map (· + 1)
theorem tL:∀{vs:List (Option Int)},fN vs=none->∃is:List Int,vs=is.map some
 | [],_=>⟨[],rfl⟩
 | none::vs,h=>by cases h
 | some i::vs,h=>by
  have h:(fN vs).map (· + 1)=none:=h
  obtain⟨is,e⟩:=tL (vs:=vs) (by cases e:fN vs with|none=>rfl|some j=>rw[e]at h;cases h)
  exact⟨i::is,by rw[e];rfl⟩
theorem CG:∀{vs:List (Option Int)} {j:Nat},fN vs=some j->j<vs.length/\vs[j]?=some none/\∃is:List Int,vs.take j=is.map some
 | none::vs,j,h=>by cases h;exact⟨by simp,rfl,[],rfl⟩
 | some i::vs,j,h=>by
  cases e:fN vs with
  | none=>rw[show fN (some i::vs)=(fN vs).map (· + 1)from rfl,e]at h;cases h
  | some k =>
   rw[show fN (some i::vs)=(fN vs).map (· + 1)from rfl,e]at h
   cases h
   obtain⟨h1,h2,is,h3⟩:=CG e
   exact⟨Nat.succ_lt_succ h1,h2,i::is,by show some i::vs.take k=_;rw[h3];rfl⟩
def tq(q:Qd):T9:=⟨n4 q.1 q.2.1 q.2.2.1 q.2.2.2,ya q.1 q.2.1 q.2.2.1 q.2.2.2,u8 q.1 q.2.1 q.2.2.1 q.2.2.2,u7 q.1 q.2.1 q.2.2.1 q.2.2.2,u6 q.1 q.2.1 q.2.2.1 q.2.2.2,x9 q.1 q.2.1 q.2.2.1 q.2.2.2,u5 q.1 q.2.1 q.2.2.1 q.2.2.2,uZ q.1 q.2.1 q.2.2.1 q.2.2.2,uY q.1 q.2.1 q.2.2.1 q.2.2.2,x8 q.1 q.2.1 q.2.2.1 q.2.2.2⟩
def kq(k:Int)(q:Qd):Qd:=(k*q.1,k*q.2.1,k*q.2.2.1,k*q.2.2.2)
def LZ(q:Qd):Prop:=¬ (q.1=0/\q.2.1=0/\q.2.2.1=0/\q.2.2.2=0)
def T9.dx(T:T9)(x y z:Int):Int:=mj T.a T.b T.c x y z
abbrev V3:=Int×Int×Int
abbrev dv(v:V3):D:=d3 v.1 v.2.1 v.2.2
def pr(p:Nat)(v:V3):Int:=match p with
 | 0=>v.1
 | 1=>v.2.1
 | _=>v.2.2
def qN(B:Nat)(v:V3):Prop:=∀p,(pr p v).natAbs<=2 ^ B
theorem qN.all{v:V3}(h:qN B v):v.1.natAbs<=2 ^ B/\v.2.1.natAbs<=2 ^ B/\v.2.2.natAbs<=2 ^ B:=⟨h 0,h 1,h 2⟩
theorem ue{v:V3}(h:v.1.natAbs<=2 ^ B/\v.2.1.natAbs<=2 ^ B/\v.2.2.natAbs<=2 ^ B):qN B v:=fun p=>by
 unfold pr;split
 ·exact h.1
 ·exact h.2.1
 ·exact h.2.2
theorem qN.mono{C:Nat}{v:V3}(h:qN B v)(g:B<=C):qN C v:=fun p=>Nat.le_trans (h p) (Nat.pow_le_pow_right (by decide) g)

abbrev C6(q:Qd):Prop:=Pm q.1 q.2.1 q.2.2.1 q.2.2.2
theorem HI(hq:LZ q)(h:vy (2 ^ m) (kq k q)):k.natAbs<=2 ^ m:=by
 obtain⟨h1,h2,h3,h4⟩:=h
 have key:∀t:Int,t≠0->(k*t).natAbs<=2 ^ m->k.natAbs<=2 ^ m:=fun t t0 ht=>by
  rw[Int.natAbs_mul]at ht
  exact Nat.le_trans (Nat.le_mul_of_pos_right _ (by omega)) ht
 by_cases q1:q.1=0
 ·by_cases q2:q.2.1=0
  ·by_cases q3:q.2.2.1=0
   ·exact key _ (fun q4=>hq ⟨q1,q2,q3,q4⟩) h4
   ·exact key _ q3 h3
  ·exact key _ q2 h2
 ·exact key _ q1 h1
theorem No(hk:k≠0)(h:vy (2 ^ m) (kq k q)):vy (2 ^ m) q:=by
 obtain⟨h1,h2,h3,h4⟩:=h
 have key:∀t:Int,(k*t).natAbs<=2 ^ m->t.natAbs<=2 ^ m:=fun t ht=>by
  rw[Int.natAbs_mul]at ht
  exact Nat.le_trans (Nat.le_mul_of_pos_left _ (by omega)) ht
 exact⟨key _ h1,key _ h2,key _ h3,key _ h4⟩
theorem yX(hm:m<=999)(h:vy (2 ^ m) (kq k q)):okT (([k*q.1,k*q.2.1,k*q.2.2.1,k*q.2.2.2]:List Int).map D.int):=Ca (m:=m) hm (by
 obtain⟨h1,h2,h3,h4⟩:=h
 intro t ht
 simp only[List.mem_cons,List.not_mem_nil,or_false]at ht
 rcases ht with rfl|rfl|rfl|rfl
 ·exact h1
 ·exact h2
 ·exact h3
 ·exact h4)
end K
namespace Sp
open PySem PySem.Spec PyProof.Rows L2
variable{Φ:Fx}{fs ps:List Str}{n x1 x2:Str}{e:Expr}{args:List Expr}
def Pf:Stmt->Expr
 | .Assign _ e _=>e
 | _=>.Constant .none 0 ⟨0,0,0,0⟩
def ze(s:Stmt):List Expr:=match ak s with
 | [_,.Expr (.Call _ (_::args) _ _) _]=>args
 | _=>[]
def hX(Φ:Fx)(sc:Scope)(ps:List Str)(x1 x2:Str)(e:Expr)(args:List Expr)(n:Str)(fs:List Str)(ds:List D):Rs D :=
 if ds.length+1=ps.length then(au Φ e false sc (bI ps (.obj n [] []::ds))).bnd fun p=>(match p.1 with
  | .tup [u,v]=>if ax [u,v]=true then(bi Φ args sc (bz (bz (bI ps (.obj n [] []::ds)) x1 (u,false)) x2 (v,false))).bnd fun q=>if q.1.length=fs.length then .ok (.obj n fs q.1) [ax q.1=true,fu q.1=true]else .st else .st
  | _=>.st)else .st
theorem vX{α β:Type}{r:Rs α}{f:α->Rs β}{b:β}{l:List Prop}(h:r.bnd f=.ok b l):∃a m,f a=.ok b m:=by
 unfold Rs.bnd at h
 split at h
 ·cases h
 ·split at h
  ·cases h
  ·rename_i e;cases h;exact⟨_,_,e⟩
theorem uH{sc:Scope}:∀ds r l,hX Φ sc ps x1 x2 e args n fs ds=.ok r l->r.lless=true:=fun ds r l h=>by
 unfold hX at h
 split at h
 ·obtain⟨a,m,h⟩:=vX h
  split at h
  ·split at h
   ·obtain⟨b,m',h⟩:=vX h
    split at h
    ·cases h;rfl
    ·cases h
   ·cases h
  ·cases h
 ·cases h
theorem Ba{P:Program}{w:World}{K:W.Frag}{mg:Str->Option Value}{base:Heap}{k:Nat}{g qual:Str}{st:Stmt}{f f0:Addr}{fd fd0:FuncData}{ps0:List Str}{b s0:Str}{C0:Addr}{mc:Value}{pb p0 ap cp p4 q1 q2 tp p5:Pos}{tn:Nat}(Fn:gq K g qual st f fd)
  (S:aF (al (aa st)) ps (aa st)) (hΦ:iX P w K mg base k Φ) (hF0:aZ P w K mg base cj k f0 fd0 ps0 (B8 K fs)) (hb0:bH K fd0 ps0 []) (hk0:W.keepIn K (.ref f0)=true)
  (hgb:(aa st).names.lookup b=some .globalImplicit) (hm:mg b=some (.ref C0)) (hga:W.specialIn K (.ref C0) "__getattribute__" = some (some (.builtin "type.__getattribute__"))) (hrd:W.readsIn K C0 mc=true) (hfc:W.findCls K (.ref C0) mc "__init__" = some (.val (.ref f0)))
  (hbody:ak st=[.Assign [.Tuple [.Name x1 q1,.Name x2 q2] tn tp] e p5,.Expr (.Call (.Attribute (.Name b pb) "__init__" ap) (.Name s0 p0::args) [] cp) p4]) (hs0:ps[0]?=some s0) (hok:dP s0=true) (hdb:(b==("__debug__" : Str))=false) (hln:(ap.endLine==cp.line)=true) (hfew:args.length<28)
  (hl1:ck (aa st) x1=true) (hl2:ck (aa st) x2=true) (hn1:x1≠s0) (hn2:x2≠s0) (hsw:qg (aa st) [.Name x1 q1,.Name x2 q2] e=false)
  (hna:∀C,W.nsIn K mainGlobals n=some (some (.ref C))->∀x∈fs,bn K C x):aZ P w K mg base cj (k+1) f fd ps (qi K n (hX Φ (aa st) ps x1 x2 e args n fs)):=by
 refine Fn.ok S (fun vs H Q E h=>?_) (fun cdv A outer s H vs Q E hr h=>?_)
 ·obtain⟨x,ws,C,dx,ds,r,l,rfl,hx,hns,hc,r1,hF,_⟩:=h
  unfold hX at hF
  split at hF
  ·rename_i hl;rw[List.length_cons,<- r1.length];exact hl
  ·cases hF
 ·obtain⟨x,ws,C,dx,ds,r,l,rfl,hx,hns,hc,r1,hF,hp,hl,q⟩:=h
  have hF:ac (hX Φ (aa st) ps x1 x2 e args n fs ds) r:=⟨l,hF,hp⟩
  unfold hX at hF
  split at hF
  ·rename_i hlen
   obtain⟨pv,h1,hF⟩:=av hF
   split at hF
   ·rename_i u v hpv
    split at hF
    ·rename_i hll
     obtain⟨qv,h2,hF⟩:=av hF
     split at hF
     ·rename_i hfl
      obtain⟨l3,e3,p3⟩:=hF
      cases e3
      have G:=ff (outer:=outer) (H:=H) (E:=E) S hΦ hr
      have r0:ai K H (fun _ _=>True) (.obj n [] []::ds) (.ref x::ws):=ai.cons (by rw[af];exact⟨rfl,rfl,x,C,dx,[],rfl,hns,hc,hx,ai.nil⟩) r1
      obtain⟨E0,hsl⟩:=gc (P:=P) (w:=w) (mg:=mg) (base:=base) (qual:=qual) (f:=f) (cdv:=cdv) (A:=A) (outer:=outer) (s:=s) (E:=E) S r0 hlen
      have ed:=(bE h1 G).ed rfl
      obtain⟨l2,h2,pp2⟩:=h2
      obtain⟨hst,hal⟩:=b9 h2 pp2
      have ad:=gM args h2 pp2 G
      have hi0:(al (aa st))[0]?=some s0:=by
       have hp0:=(List.getElem?_eq_some_iff.mp hs0).1
       have hs1:=hs0
       rw[<- S.pre,List.getElem?_take_of_lt hp0]at hs1
       exact hs1
      have hv0:fy (aa st) s0:=by
       rcases S.par s0 (List.mem_of_getElem? hs0)with z|z
       ·exact .inl z
       ·exact .inr (.inl z)
      have hst':∀e∈Expr.Name s0 p0::args,∀y p,e ≠ .Starred y p:=fun e he=>by
       rcases List.mem_cons.mp he with rfl|he
       ·intro _ _ z;cases z
       ·exact hst e he
      obtain⟨g1,g2,g3,i1,g4⟩:=eQ G hl1
      obtain⟨k1,k2,k3,i2,k4⟩:=eQ G hl2
      have ne1:i1≠0:=fun z=>by rw[z]at g4;exact hn1 (Option.some.inj (g4.symm.trans hi0))
      have ne2:i2≠0:=fun z=>by rw[z]at k4;exact hn2 (Option.some.inj (k4.symm.trans hi0))
      rw[hbody]
      refine⟨_,cD (kK (ed (fun _=>none)) (nB (n:=2) G.calm (iq (gv (i:=i1) G.nd g4 g1 g3) (iq (gv (i:=i2) G.nd k4 k1 k3) o9 rfl) rfl) rfl rfl) fH (lC G hsw) rfl) (ig (ii (sF (G.gl b hgb) hm hga hrd hfc hk0 hF0 hr hb0 hV (fK (fX (i:=0) hi0 hv0 (c8 hok).1 (c8 hok).2) (ad (fun _=>none)) (aD fun _ _ z=>by cases z)) (aD fun _ _ z=>by cases z) (bG hst) hdb (nS (c6 rfl) (gJ hst' (by rw[List.length_cons];omega)) hln)) rfl)),?_⟩
      refine⟨E0,fun vv H1 s1 rv=>?_⟩
      rw[hpv]at rv
      obtain⟨a,vs',rfl,hs,rl⟩:=gF rv
      rw[ai]at rl
      obtain⟨va,vr,rfl,ra,rl⟩:=rl
      rw[ai]at rl
      obtain⟨vb,vr',rfl,rb,rl⟩:=rl
      rw[ai]at rl
      subst rl
      have E1:=dj G.nd hsl (E0.same s1) g4 g2 (o:=false) (ra.imp fun _ _ _ _=>rfl)
      have E2:=dj G.nd (by rw[List.length_set];exact hsl) E1 k4 k2 (o:=false) (rb.imp fun _ _ _ _=>rfl)
      refine⟨a,[va,vb],rfl,hs,rfl,va,[vb],rfl,vb,[],rfl,rfl,.ref x,?_,E2,fun vs H2 s2 rv=>?_⟩
      ·rw[List.getElem?_set_ne ne2,List.getElem?_set_ne ne1]
       have hn:0<(al (aa st)).length:=(List.getElem?_eq_some_iff.mp hi0).1
       rfl
      ·have s12:=s1.trans s2
       refine⟨x,vs++[],C,dx,rfl,by rw[List.append_nil,<- rv.length];exact hfl,s12 _ _ hx,hc,hna C hns,q _ (fun a o ha h=>?_) ?_⟩
       ·rw[ay ha];exact s12 _ _ h
       ·rw[af,List.append_nil]
        exact⟨p3.1,hfl.symm,x,C,dx,vs,rfl,hns,hc,aI,((rv.off (s12 _ _ hx) (fun a o ha h=>by rw[ay ha];exact h) p3.2.1).imp fun _ _ _=>True.intro)⟩
     ·exact(ar hF).elim
    ·exact(ar hF).elim
   ·exact(ar hF).elim
  ·exact(ar hF).elim
end Sp
namespace K
open PySem L2 Sp Qm
variable{b c d k:Int}{ws:List (List Nat)}{ns:List Int}
theorem HY{Φ:Fx}{sc:Scope}{ps fs:List Str}{x1 x2:Str}{e:Expr}{args:List Expr}{n:Str}{ds q:List D}{u v:D}{k j:Nat}(hl:ds.length+1=ps.length)(h0:ac (au Φ e false sc (bI ps (.obj n [] []::ds))) (.tup [u,v],j))(hu:ax [u,v]=true)(h:ac (bi Φ args sc (bz (bz (bI ps (.obj n [] []::ds)) x1 (u,false)) x2 (v,false))) (q,k))(hq:q.length=fs.length)(h1:ax q=true)(h2:fu q=true):ac (hX Φ sc ps x1 x2 e args n fs ds) (.obj n fs q):=by
 unfold hX
 rw[if_pos hl]
 refine h0.bnd ?_
 dsimp only
 rw[if_pos hu]
 refine h.bnd ?_
 dsimp only
 rw[if_pos hq]
 exact⟨_,rfl,h1,h2,True.intro⟩
abbrev aq(u:V3):Qd:=(0,u.1,u.2.1,u.2.2)
theorem Ce{u:V3}(h:LZ (aq u)):∃(k:Int) (v:V3),k≠0/\u=(k*v.1,k*v.2.1,k*v.2.2)/\C6 (aq v):=by
 obtain⟨k,a,b,c,d,hk,e0,e1,e2,e3,p,_⟩:=vk h
 have a0:a=0:=(Int.mul_eq_zero.mp e0.symm).resolve_left hk
 subst a0
 obtain⟨x,y,z⟩:=u
 exact⟨k,(b,c,d),hk,by simp only[Prod.mk.injEq];exact⟨e1,e2,e3⟩,p⟩
theorem Pl(b c d:Int):gI [0,b,c,d]=gI [b,c,d]:=by unfold gI;simp[bP]
theorem HJ(hk:k≠0)(p:Pm 0 b c d):gI [k*b,k*c,k*d]=k.natAbs:=by
 rw[<- Pl]
 have:=Cq hk p
 rw[Int.mul_zero]at this
 exact this
theorem En(hk:k≠0)(h:¬ (k*b=0/\k*c=0/\k*d=0)):L2.atI ((([k*b,k*c,k*d]:List Int).filter fun t => !decide (t=0)).map D.int) 0=some (.int (k*ej 0 b c d)):=by
 have:=yW (x:=0) (y:=k*b) (z:=k*c) (w:=k*d) (fun z=>h z.2)
 rw[show ej 0 (k*b) (k*c) (k*d)=ej (k*0) (k*b) (k*c) (k*d) by rw[Int.mul_zero],mM _ _ _ _ hk]at this
 exact this
instance eqT9:DecidableEq T9:=fun a b=>decidable_of_iff (a.l=b.l) ⟨T9.ext,fun h=>by rw[h]⟩
theorem u9:∀ws:List (List Nat),fU (ws.map fun w=>D.str (sN w))=some (ws.map sN)
 | []=>rfl
 | w::ws=>by
  show(fU (ws.map fun w=>D.str (sN w))).map (sN w :: ·)=_
  rw[u9 ws];rfl
theorem yc:∀{ws:List (List Nat)},(∀w∈ws,w.length<=43)->((ws.map sN).map fun y=>y.length).sum<=43*ws.length
 | [],_=>Nat.zero_le _
 | w::ws,h=>by
  have h1:=h w List.mem_cons_self
  have h2:=yc (ws:=ws) fun v hv=>h v (List.mem_cons_of_mem _ hv)
  rw[List.map_cons,List.map_cons,List.sum_cons,bO,List.length_cons]
  omega
theorem sh:Str.ofString " " = sN [32]:=by rw[js];rfl
theorem y4(hn:ws.length<=100)(h:∀w∈ws,w.length<=43):ac (lH (.str (Str.ofString " ")) [.lst (ws.map fun w=>D.str (sN w))]) (.str (sN (jn ws)),0):=by
 have h1:=yc h
 rw[sh]
 unfold lH
 dsimp only
 rw[u9]
 refine ac.eq ⟨_,rfl,by rw[bO];decide,by rw[List.length_map];omega,True.intro⟩ ?_
 rw[EG]
theorem zo:∀{ws:List (List Nat)},(∀w∈ws,w.length<=43)->(ws.flatMap fun p=>32::p).length<=44*ws.length
 | [],_=>Nat.zero_le _
 | w::ws,h=>by
  have h1:=h w List.mem_cons_self
  have h2:=zo (ws:=ws) fun v hv=>h v (List.mem_cons_of_mem _ hv)
  rw[List.flatMap_cons,List.length_append,List.length_cons,List.length_cons]
  omega
theorem Ct(h:∀w∈ws,w.length<=43):(jn ws).length<=44*ws.length:=by
 cases ws with
 | nil=>exact Nat.zero_le _
 | cons w ws =>
  have h1:=h w List.mem_cons_self
  have h2:=zo (ws:=ws) fun v hv=>h v (List.mem_cons_of_mem _ hv)
  unfold jn
  rw[List.length_append,List.length_cons]
  omega
theorem o4(h0:ws≠[])(hf:∀w∈ws,du w)(hn:ws.length<=100)(h:∀w∈ws,w.length<=43):ac (jy (.str (sN (jn ws))) [.str (Str.ofString " ")]) (.lst (ws.map fun w=>D.str (sN w)),0):=by
 have hz:(sN (jn ws)).length<=1048576:=by rw[bO];have:=Ct h;omega
 have hb:((Str.ofString " ").length==0)=false:=by decide +kernel
 have e:(ws.map fun w=>D.str (sN w))=(Txt.split (sN (jn ws)) (Str.ofString " ")).map D.str:=by rw[sh,mB h0 hf,List.map_map];rfl
 rw[e]
 exact⟨_,rfl,hb,hz,True.intro⟩
theorem oZ(i:Int):du (bb i):=fun h=>by rcases uW i 32 h with z|z<;>omega
theorem Co(h:ns.length=3):∃a b c,ns=[a,b,c]:=by
 match ns,h with
 | [a,b,c],_=>exact⟨a,b,c,rfl⟩
theorem L1(h:ns.length=4):∃a b c d,ns=[a,b,c,d]:=by
 match ns,h with
 | [a,b,c,d],_=>exact⟨a,b,c,d,rfl⟩
def vi:List D->Option (List Int)
 | []=>some []
 | .str x::l=>(match intText? x,vi l with|some i,some is=>some (i::is)|_,_=>none)
 | _::_=>none
def bX(n:Int):D:=.str (sN (bb n))
theorem sC:∀{ns:List Int},(∀n∈ns,n.natAbs<10 ^ 40)->vi (ns.map bX)=some ns
 | [],_=>rfl
 | n::ns,h=>by
  have h1:=gE (h n List.mem_cons_self)
  rw[List.map_cons]
  unfold bX
  rw[vi,nN (by omega)]
  have:=sC (ns:=ns) fun v hv=>h v (List.mem_cons_of_mem _ hv)
  unfold bX at this
  rw[this]
theorem rP:∀ns:List Int,ax (ns.map bX)=true
 | []=>rfl
 | n::ns=>by rw[List.map_cons];exact rP ns
theorem IW(x:D):∀{ns:List Int},ns.length<=4->fG (x::ns.map bX) (some 1) none=ns.map bX
 | [],_=>rfl
 | [_],_=>rfl
 | [_,_],_=>rfl
 | [_,_,_],_=>rfl
 | [_,_,_,_],_=>rfl
 | _::_::_::_::_::_,h=>by simp only[List.length_cons]at h;omega
theorem tf:∀ns:List Int,ax (ns.map D.int)=true
 | []=>rfl
 | n::ns=>by rw[List.map_cons];exact tf ns
theorem eD{x:Int}(h:x.natAbs<10 ^ 40):x.natAbs<=2 ^ 140:=Nat.le_of_lt (Nat.lt_trans h (by decide))
end K
namespace K
open PySem L2 Sp
variable{w:List Nat}{v:Option Int}{i:Int}{p:List Nat×Option Int}
def CQ(w:List Nat):Bool:=(w.all (fun c=>decide (c≠32)&&decide (c<128))&&decide (w.length<=43))&&(decide (w=[45,48]) || !k7 (dJ w))
inductive Wk:List Nat->Option Int->Prop where
 | tx (i:Int) (h:i.natAbs<10 ^ 40):Wk (bb i) (some i)
 | bd (w:List Nat) (h:CQ w=true):Wk w none
abbrev Ws:=List (List Nat×Option Int)
abbrev dE(ws:Ws):Prop:=∀p∈ws,Wk p.1 p.2
theorem jH(h:CQ w=true):(∀c∈w,c≠32/\c<128)/\w.length<=43/\(decide (w=[45,48]) || !k7 (dJ w))=true:=by
 unfold CQ at h
 rw[Bool.and_eq_true,Bool.and_eq_true]at h
 refine⟨fun c hc=>?_,of_decide_eq_true h.1.2,h.2⟩
 have:=List.all_eq_true.mp h.1.1 c hc
 rw[Bool.and_eq_true]at this
 exact⟨of_decide_eq_true this.1,of_decide_eq_true this.2⟩
theorem v6(h:Wk w v):du w:=by
 cases h with
 | tx i _=>exact oZ i
 | bd _ h=>exact fun z=>((jH h).1 32 z).1 rfl
theorem lz(h:Wk w v):∀c∈w,c<128:=by
 cases h with
 | tx i _=>exact xY i
 | bd _ h=>exact fun c hc=>((jH h).1 c hc).2
theorem rg(h:Wk w v):w.length<=43:=by
 cases h with
 | tx i h=>have:=gE h;omega
 | bd _ h=>exact(jH h).2.1
theorem Ke(h:Wk w (some i)):w=bb i/\i.natAbs<10 ^ 40:=by
 cases h with
 | tx _ h=>exact⟨rfl,h⟩
theorem FQ:bb 0=[48]:=by decide +kernel
theorem Kh(h:i.natAbs<10 ^ 40)(e:bb i=[48]):i=0:=by
 have a:=nN (i:=i) (by have:=gE h;omega)
 have b:=nN (i:=0) (by decide +kernel)
 rw[e]at a
 rw[FQ,a]at b
 exact Option.some.inj b
theorem FK(h:Wk w v):w=[48]↔v=some 0:=by
 cases h with
 | tx i h=>exact⟨fun e=>by rw[Kh h e],fun e=>by cases e;exact FQ⟩
 | bd _ h=>exact⟨fun e=>by subst e;exact absurd h (by decide),fun e=>by cases e⟩
def vh(w:List Nat):Bool:=((decide (1<=(dJ w).length)&&decide ((dJ w).length<=40))&&(dJ w).all gh)&&(!decide ((dJ w).head?=some 48) || decide (w=[48]))
theorem Nj(h:Wk w v):vh w=v.isSome:=by
 cases h with
 | tx i h =>
  unfold vh
  rw[F5,decide_eq_true (tY (m:=i.natAbs) (k:=40) (by decide) h),decide_eq_true (show 1<=(cH i.natAbs).length by have:=rE i.natAbs;cases e:cH i.natAbs with|nil=>exact absurd e this|cons a l=>simp)]
  rw[show(cH i.natAbs).all gh=true from List.all_eq_true.mpr fun c hc=>by have:=gi _ c hc;unfold gh;rw[decide_eq_true this.1,decide_eq_true this.2];rfl]
  rcases vU i.natAbs with e|⟨c,r,e,hc⟩
  ·by_cases hi:i<0
   ·exfalso
    have:i.natAbs=0:=by have:=le i.natAbs;rw[e]at this;exact this.symm
    omega
   ·rw[show bb i=[48] by unfold bb;rw[if_neg hi,e]]
    simp
  ·rw[e]
   simp[hc]
 | bd _ h =>
  have h:=(jH h).2.2
  show vh w=false
  unfold vh
  rcases(Bool.or_eq_true _ _).mp h with h|h
  ·have:=of_decide_eq_true h;subst this;decide
  ·have h:k7 (dJ w)=false:=by simpa using h
   unfold k7 at h
   cases h1:(decide (1<=(dJ w).length)&&decide ((dJ w).length<=40))with
   | false=>simp
   | true =>
    rw[h1,Bool.true_and]at h
    cases h2:(dJ w).all gh with
    | false=>simp
    | true =>
     rw[h2,Bool.and_true]at h
     have h:(decide ((dJ w).head?=some 48)&&decide (1<(dJ w).length))=true:=by simpa using h
     rw[Bool.and_eq_true]at h
     rw[h.1]
     have hl:=of_decide_eq_true h.2
     have:w≠[48]:=fun z=>by subst z;revert hl;decide
     simp[this]
def iP(w:List Nat):Option Nat:=if w=bY "turn" then some 4 else if w=bY "half" then some 3 else if w=bY "mirror" then some 3 else none
def ge:Ws->Option (Option Nat)
 | []=>none
 | p::rest=>match iP p.1 with
  | none=>some (some 0)
  | some m=>match fN ((rest.map (·.2)).take m)with
   | some j=>some (some (j+1))
   | none=>if m<rest.length then some (some (m+1))else if rest.length<m then some (some (rest.length+1))else if (rest.all fun p=>decide (p.2=some 0))=true then some none else none
theorem tX{rest:Ws}(h:iP p.1=none):ge (p::rest)=some (some 0):=by unfold ge;dsimp only;rw[h]
theorem tV{rest:Ws}{m:Nat}(h:iP p.1=some m):ge (p::rest)=match fN ((rest.map (·.2)).take m)with
      | some j=>some (some (j+1))
      | none=>if m<rest.length then some (some (m+1))else if rest.length<m then some (some (rest.length+1))else if (rest.all fun p=>decide (p.2=some 0))=true then some none else none:=by
  unfold ge;dsimp only;rw[h]
abbrev tZ(i:Nat):D:=.tup [.lst [.str (Str.ofString "NoText")],.int (i:Nat)]
abbrev CL:D:=.tup [.lst [.str (Str.ofString "Nought")],.int (-1)]
def Bl(o:Option (Option Nat)):D:=match o with
 | none=>.non
 | some none=>CL
 | some (some i)=>tZ i
def vI(m:Nat):Nat->Ws->Option Nat
 | _,[]=>none
 | k,p::rest=>if m<=k\/p.2=none then some (k+1)else vI m (k+1) rest
theorem zk(m:Nat):∀(rest:Ws) (k:Nat),k<=m->vI m k rest=match fN ((rest.map (·.2)).take (m-k))with
  | some j=>some (k+j+1)
  | none=>if m-k<rest.length then some (m+1)else none
 | [],k,h=>by
  rw[List.map_nil,List.take_nil]
  show none=if m-k<0 then _ else none
  rw[if_neg (by omega)]
 | p::rest,k,h=>by
  unfold vI
  by_cases hk:k=m
  ·subst hk
   rw[if_pos (.inl (Nat.le_refl _)),Nat.sub_self,List.take_zero]
   show _=if 0<(p::rest).length then _ else none
   rw[if_pos (by simp)]
  ·have e:m-k=(m-(k+1))+1:=by omega
   rw[e,List.map_cons,List.take_succ_cons]
   cases hv:p.2 with
   | none=>rw[if_pos (.inr rfl)];rfl
   | some i =>
    rw[if_neg (by intro z;rcases z with z|z;omega;cases z),zk m rest (k+1) (by omega)]
    show _=match (fN ((rest.map (·.2)).take (m-(k+1)))).map (· + 1)with|some j=>some (k+j+1)|none=>if m-(k+1)+1<rest.length+1 then some (m+1)else none
    cases fN ((rest.map (·.2)).take (m-(k+1)))with
    | none =>
     show(if m-(k+1)<rest.length then some (m+1)else none)=if m-(k+1)+1<rest.length+1 then some (m+1)else none
     by_cases hq:m-(k+1)<rest.length
     ·rw[if_pos hq,if_pos (by omega)]
     ·rw[if_neg hq,if_neg (by omega)]
    | some j=>show some (k+1+j+1)=some (k+(j+1)+1);congr 1;omega
def Rr:Stmt->Expr
 | .If (.BoolOp _ (_::b::_) _) _ _ _=>b
 | _=>.Constant .none 0 ⟨0,0,0,0⟩
def Ru:Stmt->Expr
 | .Expr (.Call _ (e::_) _ _) _=>e
 | _=>.Constant .none 0 ⟨0,0,0,0⟩
def vH:Nat->Nat->List D
 | _,0=>[]
 | k,n+1=>.int ((k+1:Nat):Int)::vH (k+1) n
theorem zg:∀(n k:Nat),((List.range' k n).map fun m=>D.int (1+(m:Nat)))=vH k n
 | 0,_=>rfl
 | n+1,k=>by
  rw[List.range'_succ,List.map_cons,zg n (k+1),vH]
  congr 2
  omega
abbrev aR(ws:Ws):List D:=ws.map fun p=>D.str (sN p.1)
theorem dN(ws:Ws):ax (aR ws)=true:=nI (fun _=>rfl) _
end K
namespace Sp
open PySem PySem.Spec PyProof.Rows L2
variable{P:Program}{w:World}{H H' H0:Hp}{base h:Heap}{a b g n qual x:Str}{o:Obj}{X:Cx}{C S f z:Addr}{mc:Value}{p p0 p1 p2 p3 pos:Pos}{es:List Expr}{t:TA}{cd:ClassData}{e:Expr}{k kd:Nat}{K:W.Frag}{mg:Str->Option Value}{st:Stmt}{fd:FuncData}{pins:List (Addr×Obj)}{σ:L2.St}{s:Shared}{ps:List Str}{Q:Flow->Shared->Prop}{sp:L2.Sp}{E:XK}{ρ:ae}{ow:Ow}{Φ:Fx}{sc:Scope}{fs:List (Str×Int)}{G:List D->Option Xs}{ds:List D}{Ψ:Str->Option (List D->Option Xs)}{Ex:Str->Option (Str×Option Str)}{r:Xs}
abbrev gL(x:Addr)(o:Obj):HO:=.ext (fun h=>h.get? x=some o)
theorem tO{x:Addr}(e:h.get? x=some o):bU P w H h x (gL x o):=⟨e,⟨o,e⟩,fun h1 h2 a b=>b _ a⟩
theorem tP{x:Addr}(e:bU P w H h x (gL x o)):h.get? x=some o:=e.1
theorem AV{apos:Pos}{e1:Expr}(hg:Gl X b)(hm:X.mg b=some (.ref S))(hga:W.specialIn X.K (.ref S) "__getattribute__" = some (some (.builtin "type.__getattribute__")))
  (hrd:W.readsIn X.K S mc=true) (hfc:W.findCls X.K (.ref S) mc "__init__" = some (.val (.builtin "ValueError.__init__"))) (hex:i7 X.K C S=true) (ha:PA X (e1::es) t)
  (hst:starEach (e1::es) X.env=(false,eval e1 X.env)::starEach es X.env) (hpl:(backTo pos (starEach es X.env)).any (·.1)=false) (hdb:(b==("__debug__" : Str))=false)
  (ht:eval (.Call (.Attribute (.Name b p) "__init__" apos) (e1::es) [] pos) X.env=(do
   let ov <- eval (.Name b p) X.env
   standAt apos.atName
   let (f,first) <- holding [ov] (getMethod ov "__init__" (do return (<- importBound (.Name b p) X.env).getD true))
   callWith pos f first (backTo pos (starEach (e1::es) X.env)) (backToKw pos (keywordEach [] X.env)))) :
  PE X (.Call (.Attribute (.Name b p) "__init__" apos) (e1::es) [] pos) (fun σ H Q=>t σ H fun vs H1 => ∃x y o vv t0,vs=[.ref x,y]/\H1 x=some (gL x o)/\o.cls=.ref C/\o.data=.fields vv/\vv[0]?=some (.ref t0)/\∀t1,Q .non (aM H1 x (gL x { o with data:=.fields (vv.setIfInBounds 0 (.ref t1)) }))):=by
 intro pins s σ H Q I h
 obtain⟨nm,qn,N,bs,hdct,sn,sub,ab,col,dd,k0,k1,k2,k3,k5,mN,g1,g2,g3,g4⟩:=fF hex I.ok.mod.kin
 refine W.methodCall_KW (pl:=(do return (<- importBound (.Name b p) X.env).getD true)) (cJ I hg hm ?_ hdb) ht
 refine W.method_cls I.kIn hga (W.cls_value I.kIn hrd hfc rfl ?_)
 have I':=I.tok (s.toks+1)
 refine PyProof.Rows.callWith_builtin1 (aG (ha pos pins _ σ H _ I' h) fun us s2 ⟨vs,H2,I2,r,q2⟩=>?_) hst hpl
 obtain⟨x,y,o,vv,t0,rfl,hx,hc,hd,h0,q⟩:=q2
 have e0:=tP (I2.hok x _ hx)
 cases r with
 | cons r1 r =>
  cases r with
  | cons r2 r =>
   cases r
   cases r1
   refine wW PySem.F.excBase_ValueError ((OwnTailQ.tail g4).keeps I2.bk) (Code.quiet_builtin _ (by decide +kernel)) (I2.bk _ _ g1) e0 hc hd h0 (fun h' w1 w2=>?_)
   exact⟨.non,_,I2.write (x:=x) (e:=x) (by rw[hx];exact True.intro) (.inl rfl) w1 ⟨_,w2⟩ (tO w2),rfl,q _⟩
theorem DN{o value:Expr}{ta tv:TE}{f:Str}{pos':Pos}(hcd:W.clsIn X.K C=some cd)(hmro:cd.mro=.ref C :: .ref S::fM)(hdd:cd.hasDict=true)(hsa:W.findIn X.K (.ref C) "__setattr__" = some (some (.builtin "object.__setattr__")))(hff:W.findIn X.K (.ref C) f=some none)
  (ha:PE X o ta) (hv:PE X value tv) (hs:swapsWith value (some (.Attribute o f pos')) pos.line X.env=pure false):PS X (.Assign [.Attribute o f pos'] value pos) (fun D σ H=>tv σ H fun y H1=>ta σ H1 fun x H2 => ∃a ob vv,x=.ref a/\H2 a=some (gL a ob)/\ob.cls=.ref C/\ob.data=.fields vv/\ob.dict=none/\∀dx,H2 dx=none->D.nx σ (aM (aM H2 a (gL a { ob with dict:=some dx })) dx (.xd [(f,y)]))):=by
 intro pins s σ H D I h
 refine plainObj_wpAny_Assign_Attribute (aG (hv pins s σ H _ I h) fun u s1 ⟨y,H1,I1,ry,q⟩=>aG (ha pins s1 σ H1 _ I1 q) fun ov s2 ⟨x,H2,I2,rx,a,ob,vv,ex,ea,c1,c2,c3,q2⟩=>?_) hs
 subst ex
 obtain rfl:ov=Value.ref a:=rx
 have e0:=tP (I2.hok a _ ea)
 refine EL I2.kIn e0 c1 c2 c3 hcd hmro hdd hsa hff (fun h' dx w1 w2 w3 w4=>?_)
 have n1:H2 dx=none:=I2.hok.fresh w1
 have hne:a≠dx:=fun z=>by subst z;rw[n1]at ea;cases ea
 have up:(s2.heap.update a fun _ => { ob with dict:=some dx }).get? a=some { ob with dict:=some dx }:=Heap.get?_update_self _ e0 (by show Obj.isFreed _=false;unfold Obj.isFreed;rw[c2])
 have J1:ah X pins σ (aM H2 a (gL a { ob with dict:=some dx })) { s2 with heap:=s2.heap.update a fun _ => { ob with dict:=some dx },toks:=s2.toks }:=I2.write (x:=a) (e:=a) (by rw[ea];exact True.intro) (.inl rfl) (fun b u hb e=>(Heap.get?_update_other _ _ hb.symm).trans e) ⟨_,up⟩ (tO up)
 have J2:=J1.laid (a:=dx) (o:=.xd [(f,y)]) (h':=h') (t':=s2.toks+2) (fun b u e=>by
  by_cases hb:b=a
  ·subst hb
   have:some { ob with dict:=some dx }=some u:=up.symm.trans e
   rw[w3,this]
  ·exact w2 b u hb ((Heap.get?_update_other _ _ (Ne.symm hb)).symm.trans e)) (by show(s2.heap.update a _).objs.size<=dx;rw[Heap.size_update];exact w1) ⟨_,w4,fun g=>by
   by_cases hg:g=f
   ·subst hg;simp[List.lookup_cons];exact ry
   ·rw[if_neg hg,List.lookup_cons,show(g==f)=false from by simpa using hg];exact True.intro⟩
 exact⟨σ,_,J2,q2 dx n1⟩
theorem G1{te:TE}(he:PE X e te)(ha:a.length<=200):PE X (.JoinedStr [.Constant (.str a) kd p0,.FormattedValue e (-1) none p1] p3) (fun σ H Q=>te σ H fun v H1 => ∃i:Int,v=.int i/\i.natAbs<2 ^ 1900/\∀y,Q (.str y) H1):=by
 intro pins s σ H Q I h
 have hz:(2200:Nat)<=sizeLine:=by rw[sizeLine_eq];decide
 refine wpAny_JoinedStr ?_
 show wpAny _ _ (eval (.Constant (.str a) kd p0) X.env) (fun v s₁ => ∃y t',v=Value.str y t'/\(Str.empty++y).length<=sizeLine/\wpAny _ _ (eval (.FormattedValue e (-1) none p1) X.env) (fun v s₂ => ∃z t'',v=Value.str z t''/\(Str.empty++y++z).length<=sizeLine/\_) _ s₁) _ s
 refine wpAny_Constant_str ⟨_,_,rfl,?_,?_⟩
 ·rw[Str.empty_append];omega
 refine wpAny_FormattedValue_plain ?_
 refine aG (he pins _ σ H _ (I.tok _) h) fun u s1 ⟨v,H1,I1,r1,i,e1,hi,q⟩=>?_
 subst e1
 obtain⟨tk,rfl⟩:=r1
 have hl:i.natAbs.log2<1920:=by
  rcases Nat.eq_zero_or_pos i.natAbs with z|z
  ·rw[z];decide
  ·exact Nat.lt_of_lt_of_le ((Nat.log2_lt (Nat.ne_of_gt z)).mpr hi) (by decide)
 have tl:=int_text_len_1921 hl
 refine wpAny_formatField_int hl ⟨_,_,rfl,?_,?_⟩
 ·rw[Str.empty_append,Str.length_append];omega
 ·refine⟨?_,.str _,H1,(I1.tok _).tok _,⟨_,rfl⟩,q _⟩
  rw[Str.empty_append,Str.length_append];omega
def se(C:Addr)(f:Str):Sp:=fun vs H Q _ => ∃x i o vv t0,vs=[.ref x,.int i]/\i.natAbs<2 ^ 1900/\H x=some (gL x o)/\o.cls=.ref C/\o.data=.fields vv/\o.dict=none/\vv[0]?=some (.ref t0) /\
 ∀t1 dx,H dx=none->Q .non (aM (aM H x (gL x ⟨o.cls,some dx,.fields (vv.setIfInBounds 0 (.ref t1)),o.slots⟩)) dx (.xd [(f,.int i)]))
theorem Ao{S0:Addr}(Fn:gq K g qual st f fd){s0 a1 fl:Str}{p5 p6 p7 p8 p9 p10 q1 q2 q3 q4:Pos}
  (hN:al (aa st)=[s0,a1]) (S:aF (al (aa st)) [s0,a1] (aa st)) (hv:∀x∈[s0,a1],fy (aa st) x) (hok:∀x∈[s0,a1],dP x=true)
  (hgb:(aa st).names.lookup b=some .globalImplicit) (hm:mg b=some (.ref S0)) (hga:W.specialIn K (.ref S0) "__getattribute__" = some (some (.builtin "type.__getattribute__"))) (hrd:W.readsIn K S0 mc=true) (hfc:W.findCls K (.ref S0) mc "__init__" = some (.val (.builtin "ValueError.__init__"))) (hex:i7 K C S0=true)
  (hcd:W.clsIn K C=some cd) (hmro:cd.mro=.ref C :: .ref S0::fM) (hdd:cd.hasDict=true) (hsa:W.findIn K (.ref C) "__setattr__" = some (some (.builtin "object.__setattr__"))) (hff:W.findIn K (.ref C) fl=some none)
  (hb:ak st=[.Expr (.Call (.Attribute (.Name b p1) "__init__" p2) [.Name s0 p3,.JoinedStr [.Constant (.str a) kd p5,.FormattedValue (.Name a1 p6) (-1) none p7] p8] [] p9) p10,.Assign [.Attribute (.Name s0 q1) fl q2] (.Name a1 q3) q4]) (ha:a.length<=200) (hln:(p2.endLine==p9.line)=true) (hdb:(b==("__debug__" : Str))=false) :
  aZ P w K mg base cj 1 f fd [s0,a1] (se C fl):=by
 refine Fn.ok (k:=0) S (fun vs H Q E h=>?_) (fun cdv A outer s H vs Q E hr h=>?_)
 ·obtain⟨x,i,o,vv,t0,rfl,_⟩:=h
  rfl
 ·obtain⟨x,i,o,vv,t0,rfl,hi,hx,hc,hd,hdi,h0,q⟩:=h
  have nm:∀(i:Nat) (x:Str) (p:Pos),[s0,a1][i]?=some x->PE (bV cj P w K mg base (al (aa st)) qual (aa st) f cdv A outer s H E).nox (.Name x p) (my i):=fun i x p hi =>
   fX (by show(al (aa st))[i]?=some x;rw[hN];exact hi) (hv x (List.mem_of_getElem? hi)) (c8 (hok x (List.mem_of_getElem? hi))).1 (c8 (hok x (List.mem_of_getElem? hi))).2
  have ns:∀e∈[Expr.Name s0 p3,.JoinedStr [.Constant (.str a) kd p5,.FormattedValue (.Name a1 p6) (-1) none p7] p8],∀y p,e≠Expr.Starred y p:=fun e he=>by
   simp only[List.mem_cons,List.not_mem_nil,or_false]at he
   rcases he with rfl|rfl<;>(intro y p z;cases z)
  rw[hb]
  refine⟨_,cD (ii (AV (C:=C) hgb hm hga hrd hfc hex (fK (nm 0 s0 p3 rfl) (fK (G1 (nm 1 a1 p6 rfl) ha) yJ (aD fun _ _ z=>by cases z)) (aD fun _ _ z=>by cases z)) (aD fun _ _ z=>by cases z) (bG fun e he=>ns e (List.mem_cons_of_mem _ he)) hdb (nS (c6 rfl) (gJ ns (Nat.le_of_ble_eq_true rfl)) hln)) rfl) (ig (DN hcd hmro hdd hsa hff (nm 0 s0 q1 rfl) (nm 1 a1 q3 rfl) rfl)),?_⟩
  rw[hN]
  refine⟨.ref x,rfl,.int i,rfl,i,rfl,hi,fun y=>⟨x,.str y,o,vv,t0,rfl,hx,hc,hd,h0,fun t1=>?_⟩⟩
  refine⟨.int i,rfl,.ref x,rfl,x,_,_,rfl,aI,hc,rfl,hdi,fun dx hdx=>?_⟩
  rw[lA]
  have hne:dx≠x:=fun z=>by subst z;rw[aI]at hdx;cases hdx
  exact q t1 dx (by rw[ay hne]at hdx;exact hdx)
def hide(H:Hp)(z:Addr):Hp:=fun a=>if a=z then none else H a
theorem Un.hide{fs ex:List Addr}{h1 h2:Heap}{o:HO}(u:Un fs ex (aM H z o) H' h1 h2)(k:∀b q,h.get? b=some q->h1.get? b=some q)(hz:h.get? z=none)(nz:H z=none):Un fs ex H (Sp.hide H' z) h h2:=by
 have ne:∀b q,h.get? b=some q->b≠z:=fun b q e y=>by subst y;rw[hz]at e;cases e
 have up:∀b q,h.get? b=some q->H b=none->aM H z o b=none:=fun b q e n=>(ay (ne b q e)).trans n
 have nt:∀b q,H b=some q->b≠z:=fun b q e y=>by subst y;rw[nz]at e;cases e
 refine⟨fun b q e n hf hx=>u.keep b q (k b q e) (up b q e n) hf hx,fun b q e n hf hx=>u.slot b q (k b q e) (up b q e n) hf hx,fun b q e n hx=>?_,fun b q e hx=>u.there b q (k b q e) hx,fun b xs e=>?_,fun b q v e=>?_,fun b ps e=>?_⟩
 ·show(if b=z then none else H' b)=none
  rw[if_neg (ne b q e)];exact u.free b q (k b q e) (up b q e n) hx
 ·show(if b=z then none else H' b)=_
  rw[if_neg (nt b _ e)];exact u.tups b xs ((ay (nt b _ e)).trans e)
 ·show(if b=z then none else H' b)=_
  rw[if_neg (nt b _ e)];exact u.frzs b q v ((ay (nt b _ e)).trans e)
 ·show ∃more,(if b=z then none else H' b)=_
  rw[if_neg (nt b _ e)];exact u.tbls b ps ((ay (nt b _ e)).trans e)
theorem cU.hide{φ:Heap->Prop}(ok:cU P w H h)(hz:H z=some (.ext φ)):cU P w (Sp.hide H z) h:=fun b o e=>by
 have hb:b≠z:=fun y=>by subst y;unfold Sp.hide at e;rw[if_pos rfl]at e;cases e
 have e':H b=some o:=by unfold Sp.hide at e;rw[if_neg hb]at e;exact e
 have st:∀a q,H a=some q->(∀φ,q ≠ .ext φ)->Sp.hide H z a=some q:=fun a q ea hq=>by
  unfold Sp.hide
  rw[if_neg (fun y=>by subst y;rw[hz]at ea;cases ea;exact hq _ rfl)];exact ea
 exact(ok b o e').stay (fun c v _ q=>q) (fun x q=>st _ _ q (fun _ y=>by cases y)) (fun a xs q=>st _ _ q (fun _ y=>by cases y))
theorem yy{f:Str}{fI:Addr}{oI:Obj}{np cpos:Pos}(I:ah X pins σ H s)(hc:X.calm=true)(hg:Gl X x)(hm:X.mg x=some (.ref C))(hx:gr X.K C S)(hin:fC X.K C=some (.ref fI))
  (hfo:X.K.lookup fI=some oI) (hfc:oI.cls=.type "function") (hkC:W.keepIn X.K (.ref C)=true) (F:aZ X.prog X.w X.K X.mg X.base cj k fI fd ps (se C f)) (hr:bJ (k+1) X.A) (hb:bH X.K fd ps []) (hdb:(x==("__debug__" : Str))=false)
  (ha:PA X [e] t) (he:starEach [e] X.env=(false,eval e X.env)::starEach [] X.env)
  (h:t σ H fun vs H1 => ∃i:Int,vs=[.int i]/\i.natAbs<2 ^ 1900/\∀s1 z dx o vv a0,ah X pins σ (aM H1 dx (.xd [(f,.int i)])) s1->H1 dx=none->s1.heap.get? z=some o->o.cls=.ref C->o.dict=some dx->o.data=.fields vv->1<vv.size->vv[0]?=some a0->vv[1]?=some .none->(aM H1 dx (.xd [(f,.int i)])) z=none->X.s₀.heap.get? z=none->X.xe (.ref z) s1) :
  wpAny (model X.prog X.w) X.A (exec (.Raise (some (.Call (.Name x np) [e] [] cpos)) none pos) X.env) Q X.xe s:=by
 obtain⟨nm,qn,N,bs,hdct,sn,sub,ab,col,dd,k0,k1,k2,k3,k5,mN,g1,g2,g3,g4⟩:=fF hx.ex I.ok.mod.kin
 rw[arm_exec_Raise]
 refine wpAny_bind (wpAny_standAt ?_)
 refine ww (x:=(do let v <- eval (.Call (.Name x np) [e] [] cpos) X.env;standAt pos;pure v)) (C:=C) (nm:=nm) (q:=qn) (N:=N) (bs:=bs) (bm:=.ref S::fM) (hdct:=hdct) (sn:=sn) (sub:=sub) (ab:=ab) (col:=col) (dd:=dd) (k0:=k0) (k1:=k1) (k2:=k2) (k3:=k3) (k5:=k5) (newId := "ValueError.__new__") (zZ S) (I.ok.hd hc) ?_
 refine wpAny_bind (wpAny_Call_ofName (cJ I hg hm ?_ hdb))
 refine W.callWith_K (h₀:=X.base) I.ok.mod.kin hkC (aG (ha cpos pins s σ H _ I h) fun us s1 ⟨vs,H1,I1,r,i,ev,hi,q⟩=>⟨I1.kIn,?_⟩) he rfl
 subst ev
 cases r with
 | cons r1 r =>
 rename_i u0 us0
 cases r
 obtain⟨tk,rfl⟩:=r1
 obtain⟨hh,gg,d0,tt,oo⟩:=s1
 have gN:hh.Ns N mN:=by obtain⟨o,es,ep,e1,e2⟩:=g2;exact⟨o,es,ep,I1.bk _ _ e1,e2⟩
 refine wV PySem.F.excBase_ValueError ((OwnTailQ.tail g4).keeps I1.bk) (I1.bk _ _ g1) gN (g3.trans hin) (I1.kIn _ _ hfo) hfc (fun h' z hz m=>?_) (by rw[sizeLine_eq];exact Nat.le_of_ble_eq_true rfl)
 obtain⟨t0,w1,w2,w3⟩:=m.there
 have n1:H1 z=none:=I1.hok.fresh hz
 have I2:ah X pins σ (aM H1 z (gL z _)) ⟨h',gg,d0,tt,oo⟩:=I1.laid (a:=z) (h':=h') (t':=tt) m.keeps hz (tO w1)
 have hsp:se C f [.ref z,.int i] (aM H1 z (gL z { cls:=.ref C,data:=.fields #[.ref t0,.none,.none,.none,.bool false,.none] })) (fun v H'=>v=.non/\∃t1 dx,(aM H1 z (gL z { cls:=.ref C,data:=.fields #[.ref t0,.none,.none,.none,.bool false,.none] })) dx=none/\H'=aM (aM (aM H1 z (gL z { cls:=.ref C,data:=.fields #[.ref t0,.none,.none,.none,.bool false,.none] })) z (gL z ⟨.ref C,some dx,.fields (#[.ref t0,.none,.none,.none,.bool false,.none].setIfInBounds 0 (.ref t1)),#[]⟩)) dx (.xd [(f,.int i)])) (fun _ _ _=>False) :=
  ⟨z,i,_,_,t0,rfl,hi,aI,rfl,rfl,rfl,rfl,fun t1 dx hdx=>⟨rfl,t1,dx,hdx,rfl⟩⟩
 have r2:aL [.ref z,.int i] [.ref z,.int i tk]:=.cons rfl (.cons ⟨tk,rfl⟩ .nil)
 have hl:([Value.ref z,.int i tk]++[]).length=ps.length:=F.len _ _ _ _ hsp
 refine wpAny_call (codeAny_mono (F.run (X.A.under (.builtin "type.__call__" ⟨.ref C::([]++[.int i tk]),[]⟩)) X.stack ⟨h',gg,d0,tt,oo⟩ _ ⟨[.ref z,.int i tk],[]⟩ [.ref z,.int i tk] [.ref z,.int i] _ _ (hr.make C _ []) (I2.env0.make C _ []) (by have:=hb ⟨h',gg,d0,tt,oo⟩ [.ref z,.int i tk] I2.kIn hl;rw[List.append_nil]at this;exact this) r2 hsp) fun r s' hq=>?_)
 cases r with
 | error e=>exact hV pins σ _ _ e s' I2 hq
 | ok fl =>
  cases fl with
  | next=>exact False.elim hq
  | brk=>exact False.elim hq
  | cont=>exact False.elim hq
  | ret u =>
   obtain⟨v,H',os',bare,un,hok,ru,rfl,t1,dx,hdx,rfl⟩:=hq
   have hne:dx≠z:=fun y=>by subst y;rw[aI]at hdx;cases hdx
   rw[ay hne]at hdx
   rw[lA]at un hok
   have hzn:hh.get? z=none:=Heap.get?_none_of_le hz
   have un2:=Un.hide un m.keeps hzn n1
   have ez:(aM (aM H1 z (gL z ⟨.ref C,some dx,.fields (#[.ref t0,.none,.none,.none,.bool false,.none].setIfInBounds 0 (.ref t1)),#[]⟩)) dx (.xd [(f,.int i)])) z=some (gL z ⟨.ref C,some dx,.fields (#[.ref t0,.none,.none,.none,.bool false,.none].setIfInBounds 0 (.ref t1)),#[]⟩):=by rw[ay hne.symm];exact aI
   have hok2:=cU.hide hok ez
   have oz:=tP (hok z _ ez)
   have eH:Sp.hide (aM (aM H1 z (gL z ⟨.ref C,some dx,.fields (#[.ref t0,.none,.none,.none,.bool false,.none].setIfInBounds 0 (.ref t1)),#[]⟩)) dx (.xd [(f,.int i)])) z=aM H1 dx (.xd [(f,.int i)]):=by
    funext a
    unfold Sp.hide
    by_cases ha:a=z
    ·subst ha;rw[if_pos rfl,ay hne.symm,n1]
    ·rw[if_neg ha]
     by_cases hb:a=dx
     ·subst hb;rw[aI,aI]
     ·rw[ay hb,ay hb,ay ha]
   rw[eH]at un2 hok2
   obtain⟨hh',g',d',t',o'⟩:=s'
   obtain rfl:o'=oo:=os'
   have I3:=I1.call (h':=hh') (g':=g') (d':=d') (t':=t') (ch:=[]) un2 hok2 bare (fun b z=>absurd z (by simp))
   have ru:u=Value.none:=ru
   refine⟨ru,wpAny_bind (wpAny_standAt (wpAny_pure ⟨z,_,_,rfl,I3.bk _ _ g1,oz,rfl,rfl,by simp,q _ z dx _ _ _ I3 hdx oz rfl rfl rfl (by simp) (by simp;rfl) (by simp) (by rw[ay hne.symm];exact n1) (Heap.get?_none_of_le (Nat.le_trans I1.sz hz))⟩))⟩
theorem _root_.L2.PA.nox(h:PA X.nox es t):PA X es t:=fun pos pins s σ H Q I hw =>
 wpAny_mono (h pos pins s σ H Q (I.wish _) hw) (fun _ _ ⟨v,H',I',r,q⟩=>⟨v,H',I'.unwish,r,q⟩) fun _ _ z=>False.elim z
theorem _root_.L2.PS.nox{t:TS}(h:PS X.nox st t):PS X st t:=fun pins s σ H D I hw =>
 wpAny_mono (h pins s σ H D (I.wish _) hw) (fun _ _ q=>q.unwish) fun _ _ z=>False.elim z
theorem Fm{Q:Value->Shared->Prop}(F:aZ X.prog X.w X.K X.mg X.base (bT X.prog X.w) k f fd ps sp)(hr:bJ k X.A)(hg:Gl X x)(hm:X.mg x=some (.ref f))(hk:W.keepIn X.K (.ref f)=true)(hb:bH X.K fd ps [])
  (I:ah X pins σ H s) (hx:∀H1 s1 e s',ah X pins σ H1 s1->bT X.prog X.w X.stack H1 s1 E e s'->X.xe e s')
  (ha:PA X (e::es) t) (hdb:(x==("__debug__" : Str))=false) (he:starEach (e::es) X.env=(false,eval e X.env)::starEach es X.env) (hpl:(backTo pos (starEach es X.env)).any (·.1)=false)
  (h:t σ H fun vs H1=>sp vs H1 (fun _ _=>False) E):wpAny (model X.prog X.w) X.A (eval (.Call (.Name x p) (e::es) [] pos) X.env) Q X.xe s:=by
 refine wpAny_Call_Name_kw (cJ I hg hm ?_ hdb)
 refine W.callWith_K (h₀:=X.base) I.ok.mod.kin hk (aG (ha pos pins s σ H _ I h) fun us s1 ⟨vs,H1,I1,r,q⟩=>⟨I1.kIn,?_⟩) he hpl
 have hl:us.length=ps.length:=by rw[<- r.length];exact F.len _ _ _ _ q
 refine wpAny_call (codeAny_mono (F.run X.A X.stack s1 H1 ⟨us,[]⟩ us vs _ E hr I1.env0 (by have:=hb s1 us I1.kIn (by rw[List.append_nil];exact hl);rw[List.append_nil]at this;exact this) r q) fun r s' hq=>?_)
 cases r with
 | error e=>exact hx H1 s1 e s' I1 hq
 | ok fl =>
  cases fl with
  | ret u=>obtain⟨_,_,_,_,_,_,_,z⟩:=hq;exact z.elim
  | next=>exact False.elim hq
  | brk=>exact False.elim hq
  | cont=>exact False.elim hq
theorem Ek{Q:Value->Shared->Prop}(M:Mk X.K C f)(F:aZ X.prog X.w X.K X.mg X.base (bT X.prog X.w) k f fd ps sp)(hr:bJ (k+1) X.A)(hg:Gl X x)(hm:X.mg x=some (.ref C))(hb:bH X.K fd ps [])
  (I:ah X pins σ H s) (hx:∀H1 s1 e s',ah X pins σ H1 s1->bT X.prog X.w X.stack H1 s1 E e s'->X.xe e s')
  (ha:PA X (e::es) t) (hdb:(x==("__debug__" : Str))=false) (he:starEach (e::es) X.env=(false,eval e X.env)::starEach es X.env) (hpl:(backTo pos (starEach es X.env)).any (·.1)=false)
  (h:t σ H fun vs H1 => ∀x dx,H1 x=none->H1 dx=none->dx≠x->sp (.ref x::vs) (aM (aM H1 dx (.own x)) x (.ins C dx [])) (fun _ _=>False) E):wpAny (model X.prog X.w) X.A (eval (.Call (.Name x p) (e::es) [] pos) X.env) Q X.xe s:=by
 refine wpAny_Call_Name_kw (cJ I hg hm ?_ hdb)
 refine W.callWith_K (h₀:=X.base) I.ok.mod.kin M.kp (aG (ha pos pins s σ H _ I h) fun us s1 ⟨vs,H1,I1,r,q⟩=>⟨I1.kIn,?_⟩) he hpl
 have hq:=q (s1.heap.objs.size+1) s1.heap.objs.size (I1.hok.fresh (Nat.le_succ _)) (I1.hok.fresh (Nat.le_refl _)) (Nat.ne_of_lt (Nat.lt_succ_self _))
 have I2:=ah.made (C:=C) I1
 have r2:aL (V.ref (s1.heap.objs.size+1)::vs) (Value.ref (s1.heap.objs.size+1)::us):=.cons rfl r
 have hl:(Value.ref (s1.heap.objs.size+1)::us++[]).length=ps.length:=by
  have e:=r2.length
  rw[F.len _ _ _ _ hq]at e
  rw[List.append_nil]
  exact e.symm
 refine wpAny_call (sS (f:=f) I1.kIn M.makes M.init (beq_iff_eq.mp M.fn) (codeAny_mono (F.run _ X.stack _ _ ⟨Value.ref (s1.heap.objs.size+1)::us,[]⟩ (Value.ref (s1.heap.objs.size+1)::us) _ _ E (hr.make C us [])
  (I2.env0.make C us []) (by have:=hb _ (Value.ref (s1.heap.objs.size+1)::us) I2.kIn hl;rw[List.append_nil]at this;exact this) r2 hq) fun r s' hq'=>?_))
 cases r with
 | error e=>exact hx _ _ e s' I2 hq'
 | ok fl =>
  cases fl with
  | ret u=>obtain⟨_,_,_,_,_,_,_,z⟩:=hq';exact z.elim
  | next=>exact False.elim hq'
  | brk=>exact False.elim hq'
  | cont=>exact False.elim hq'
def sg(K:W.Frag)(G:List D->Option Xs):L2.Sp:=fun vs H _ E => ∃ds n p fs C S,ai K H (fun _ _=>True) ds vs/\G ds=some (n,p,fs)/\W.nsIn K mainGlobals n=some (some (.ref C))/\W.nsIn K mainGlobals p=some (some (.ref S))/\gr K C S/\∀od H',aw H H'->nX H' od fs->E (.ref C) od H'
def Am(H0:Hp)(C:Addr)(fs:List (Str×Int)):XK:=fun c od H'=>c=.ref C/\aw H0 H'/\nX H' od fs
def sr(g:Str)(G:List D->Option Xs):List D->Option Xs:=fun ds=>match ds with
 | .obj n [] []::l=>if n=g then G l else none
 | _=>none
def Q3(X:Cx)(g:Str)(G:List D->Option Xs):Prop:=∃k f fd ps,aZ X.prog X.w X.K X.mg X.base (bT X.prog X.w) k f fd ps (sg X.K G)/\bJ k X.A/\X.mg g=some (.ref f)/\W.keepIn X.K (.ref f)=true/\bH X.K fd ps []/\(g==("__debug__" : Str))=false
def QY(X:Cx)(g:Str)(G:List D->Option Xs):Prop:=∃k C f fd ps,Mk X.K C f/\aZ X.prog X.w X.K X.mg X.base (bT X.prog X.w) k f fd ps (sg X.K (sr g G))/\bJ (k+1) X.A/\X.mg g=some (.ref C)/\W.nsIn X.K mainGlobals g=some (some (.ref C))/\d5 X.K C/\bH X.K fd ps []/\(g==("__debug__" : Str))=false
def pW(X:Cx)(g:Str)(G:List D->Option Xs):Prop:=Q3 X g G\/QY X g G
theorem GZ{t:Str}(he:ED X ρ e (.str x) k)(hx:(reprText x).length<=1000)(ht:t.length<=64):ED X ρ (.JoinedStr [.FormattedValue e 114 none p1,.Constant (.str t) kd p2] p3) (.str (reprText x++t)) 0:=by
 intro ow pins s σ H Q I ⟨E,q⟩
 have hz:(1064:Nat)<=sizeLine:=by rw[sizeLine_eq];decide
 have hx':(reprText x).length<=sizeLine:=by omega
 refine wpAny_JoinedStr ?_
 show wpAny _ _ (eval (.FormattedValue e 114 none p1) X.env) (fun v s₁ => ∃y t',v=Value.str y t'/\(Str.empty++y).length<=sizeLine/\wpAny _ _ (eval (.Constant (.str t) kd p2) X.env) (fun v s₂ => ∃z t'',v=Value.str z t''/\(Str.empty++y++z).length<=sizeLine/\_) _ s₁) _ s
 rw[arm_eval_FormattedValue]
 refine wpAny_bind (aG (he ow pins s σ H (fun v H'=>v=.str x/\aw H H') I ⟨E,fun v H' s' r=>⟨by rw[af]at r;exact r,s'⟩⟩) fun u s1 ⟨v,H1,I1,r1,e1,s1'⟩=>?_)
 subst e1
 obtain⟨tk,rfl⟩:=r1
 refine wpAny_bind (wpAny_standAt ?_)
 refine wpAny_bind (wpAny_holding ?_)
 show wpAny _ _ (pyReprObj (Value.str x tk)) _ _ _
 refine wpAny_pyReprObj_str ?_ hx'
 show wpAny _ _ (formatField (Value.str (reprText x) s1.toks) Str.empty) _ _ _
 refine PyProof.Rows.formatField_str (fun t' tk'=>⟨_,_,rfl,?_,?_⟩) hx'
 ·rw[Str.empty_append];exact hx'
 ·refine wpAny_Constant_str ⟨_,_,rfl,?_,?_⟩
  ·rw[Str.empty_append,Str.length_append];omega
  ·refine⟨?_,.str _,H1,((I1.tok _).tok _).tok _,⟨_,rfl⟩,q _ _ s1' (by rw[af,Str.empty_append])⟩
   rw[Str.empty_append,Str.length_append];omega
theorem G0{i:Int}{t:Str}{kd0:Nat}(he:ED X ρ e (.int i) k)(hi:i.natAbs<2 ^ 1900)(ha:a.length<=200)(ht:t.length<=64):ED X ρ (.JoinedStr [.Constant (.str a) kd0 p0,.FormattedValue e (-1) none p1,.Constant (.str t) kd p2] p3) (.str (a++Str.ofString (toString i)++t)) 0:=by
 intro ow pins s σ H Q I ⟨E,q⟩
 have hl:i.natAbs.log2<1920:=by
  rcases Nat.eq_zero_or_pos i.natAbs with z|z
  ·rw[z];decide
  ·exact Nat.lt_of_lt_of_le ((Nat.log2_lt (Nat.ne_of_gt z)).mpr hi) (by decide)
 have tl:=int_text_len_1921 hl
 have hz:(2200:Nat)<=sizeLine:=by rw[sizeLine_eq];decide
 refine wpAny_JoinedStr ?_
 show wpAny _ _ (eval (.Constant (.str a) kd0 p0) X.env) (fun v s₁ => ∃y t',v=Value.str y t'/\(Str.empty++y).length<=sizeLine/\wpAny _ _ (eval (.FormattedValue e (-1) none p1) X.env) (fun v s₂ => ∃z t'',v=Value.str z t''/\(Str.empty++y++z).length<=sizeLine/\wpAny _ _ (eval (.Constant (.str t) kd p2) X.env) (fun v s₂ => ∃z' t'',v=Value.str z' t''/\(Str.empty++y++z++z').length<=sizeLine/\_) _ s₂) _ s₁) _ s
 refine wpAny_Constant_str ⟨_,_,rfl,?_,?_⟩
 ·rw[Str.empty_append];omega
 refine wpAny_FormattedValue_plain ?_
 refine aG (he ow pins _ σ H (fun v H'=>v=.int i/\aw H H') (I.tok _) ⟨E,fun v H' s' r=>⟨by rw[af]at r;exact r,s'⟩⟩) fun u s1 ⟨v,H1,I1,r1,e1,s1'⟩=>?_
 subst e1
 obtain⟨tk,rfl⟩:=r1
 refine wpAny_formatField_int hl ⟨_,_,rfl,?_,?_⟩
 ·rw[Str.empty_append,Str.length_append];omega
 ·refine wpAny_Constant_str ⟨_,_,rfl,?_,?_⟩
  ·rw[Str.empty_append,Str.length_append,Str.length_append];omega
  ·refine⟨?_,.str _,H1,(I1.tok _).tok _ |>.tok _,⟨_,rfl⟩,q _ _ s1' (by rw[af,Str.empty_append])⟩
   rw[Str.empty_append,Str.length_append,Str.length_append];omega
inductive Rz(Φ:Fx)(Ψ:Str->Option (List D->Option Xs))(Ex:Str->Option (Str×Option Str))(sc:Scope):List Stmt->ae->Xs->Prop where
 | raise {e:Expr} {d:D} {k:Nat} {x p:Str} {np cpos pos:Pos} {ss:List Stmt} {ρ:ae} (he:ac (au Φ e false sc ρ) (d,k)) (hx:sc.names.lookup x=some .globalImplicit) (hd:(x==("__debug__" : Str))=false) (hp:Ex x=some (p,none)):Rz Φ Ψ Ex sc (.Raise (some (.Call (.Name x np) [e] [] cpos)) none pos::ss) ρ (x,p,[])
 | raiseR {e:Expr} {y t:Str} {k kd:Nat} {x p:Str} {np cpos pos p1 p2 p3:Pos} {ss:List Stmt} {ρ:ae} (he:ac (au Φ e false sc ρ) (.str y,k)) (hy:(reprText y).length<=1000) (ht:t.length<=64) (hx:sc.names.lookup x=some .globalImplicit) (hd:(x==("__debug__" : Str))=false) (hp:Ex x=some (p,none)):Rz Φ Ψ Ex sc (.Raise (some (.Call (.Name x np) [.JoinedStr [.FormattedValue e 114 none p1,.Constant (.str t) kd p2] p3] [] cpos)) none pos::ss) ρ (x,p,[])
 | raiseM {e:Expr} {i:Int} {a t:Str} {k kd0 kd:Nat} {x p:Str} {np cpos pos p0 p1 p2 p3:Pos} {ss:List Stmt} {ρ:ae} (he:ac (au Φ e false sc ρ) (.int i,k)) (hi:i.natAbs<2 ^ 1900) (ha:a.length<=200) (ht:t.length<=64) (hx:sc.names.lookup x=some .globalImplicit) (hd:(x==("__debug__" : Str))=false) (hp:Ex x=some (p,none)):Rz Φ Ψ Ex sc (.Raise (some (.Call (.Name x np) [.JoinedStr [.Constant (.str a) kd0 p0,.FormattedValue e (-1) none p1,.Constant (.str t) kd p2] p3] [] cpos)) none pos::ss) ρ (x,p,[])
 | raiseF {e:Expr} {i:Int} {k:Nat} {x p f:Str} {np cpos pos:Pos} {ss:List Stmt} {ρ:ae} (he:ac (au Φ e false sc ρ) (.int i,k)) (hi:i.natAbs<2 ^ 1900) (hx:sc.names.lookup x=some .globalImplicit) (hd:(x==("__debug__" : Str))=false) (hp:Ex x=some (p,some f)):Rz Φ Ψ Ex sc (.Raise (some (.Call (.Name x np) [e] [] cpos)) none pos::ss) ρ (x,p,[(f,i)])
 | exp {f:Str} {G:List D->Option Xs} {e:Expr} {es:List Expr} {p q pos:Pos} {ds:List D} {k:Nat} {ss:List Stmt} {ρ:ae} {r:Xs} (ha:ac (bi Φ (e::es) sc ρ) (ds,k)) (hf:sc.names.lookup f=some .globalImplicit) (hG:Ψ f=some G) (h:G ds=some r):Rz Φ Ψ Ex sc (.Expr (.Call (.Name f p) (e::es) [] q) pos::ss) ρ r
 | asn {f:Str} {G:List D->Option Xs} {x:Str} {e:Expr} {es:List Expr} {p q pos px:Pos} {ds:List D} {k:Nat} {ss:List Stmt} {ρ:ae} {r:Xs} (ha:ac (bi Φ (e::es) sc ρ) (ds,k)) (hf:sc.names.lookup f=some .globalImplicit) (hG:Ψ f=some G) (h:G ds=some r):Rz Φ Ψ Ex sc (.Assign [.Name x px] (.Call (.Name f p) (e::es) [] q) pos::ss) ρ r
 | ast {f:Str} {G:List D->Option Xs} {ts:List Expr} {n:Nat} {e:Expr} {es:List Expr} {p q pos px:Pos} {ds:List D} {k:Nat} {ss:List Stmt} {ρ:ae} {r:Xs} (ha:ac (bi Φ (e::es) sc ρ) (ds,k)) (hf:sc.names.lookup f=some .globalImplicit) (hG:Ψ f=some G) (h:G ds=some r):Rz Φ Ψ Ex sc (.Assign [.Tuple ts n px] (.Call (.Name f p) (e::es) [] q) pos::ss) ρ r
 | ret {f:Str} {G:List D->Option Xs} {e:Expr} {es:List Expr} {p q pos:Pos} {ds:List D} {k:Nat} {ss:List Stmt} {ρ:ae} {r:Xs} (ha:ac (bi Φ (e::es) sc ρ) (ds,k)) (hf:sc.names.lookup f=some .globalImplicit) (hG:Ψ f=some G) (h:G ds=some r):Rz Φ Ψ Ex sc (.Return (some (.Call (.Name f p) (e::es) [] q)) pos::ss) ρ r
 | iff {c:Expr} {a b ss:List Stmt} {t:Bool} {k:Nat} {pos:Pos} {ρ:ae} {r:Xs} (hc:ac (au Φ c false sc ρ) (.bl t,k)) (h:Rz Φ Ψ Ex sc (cond t a b) ρ r):Rz Φ Ψ Ex sc (.If c a b pos::ss) ρ r
 | step {s:Stmt} {ss:List Stmt} {ρ ρ':ae} {r:Xs} (hs:ac (eR Φ s sc ρ) (.nx ρ')) (h:Rz Φ Ψ Ex sc ss ρ' r):Rz Φ Ψ Ex sc (s::ss) ρ r
def lY(X:Cx)(H0:Hp)(ρ:ae):TS:=fun _ σ H => ∃ow,aH X.nox ow H σ ρ/\σ.length=X.N.length/\bL H0 ow H
theorem bL.same(b:bL H0 ow H)(s:aw H H'):bL H0 ow H':=b.keep (aS.same s)
theorem dO{ss:List Stmt}(h:PS X st (lY X H0 ρ)):c5 X (st::ss) (lY X H0 ρ):=fun pins s σ H D I q=>cD h iR pins s σ H D I q
theorem fJ{p:Str}{f:Str}{fp q:Pos}{Q:Value->Shared->Prop}
  (Gd:aO Φ X.nox sc) (GR:pW X f G) (hcn:W.nsIn X.K mainGlobals n=some (some (.ref C))) (hcp:W.nsIn X.K mainGlobals p=some (some (.ref S))) (hex:gr X.K C S)
  (ha:ac (bi Φ (e::es) sc ρ) (ds,k)) (hf:sc.names.lookup f=some .globalImplicit) (h:G ds=some (n,p,fs)) (I:ah X pins σ H s) (E:aH X.nox ow H σ ρ) (B:aw H0 H)
  (hx:∀H1 s1 e s',ah X pins σ H1 s1->bT X.prog X.w X.stack H1 s1 (Am H0 C fs) e s'->X.xe e s'):wpAny (model X.prog X.w) X.A (eval (.Call (.Name f fp) (e::es) [] q) X.env) Q X.xe s:=by
 rcases GR with GR|GR
 ·obtain⟨k',fa,fd,ps,F,hr,hm,hk,hb,hdb⟩:=GR
  obtain⟨l,ha,hp⟩:=ha
  obtain⟨hst,_⟩:=b9 ha hp
  have ad:=gM (e::es) ha hp Gd
  refine Fm F hr (Gd.gl f hf) hm hk hb I hx (ad ow).nox hdb (aD (hst e List.mem_cons_self)) (bG fun x hx=>hst x (List.mem_cons_of_mem _ hx)) ⟨E,fun vs H1 s1 r1=>?_⟩
  exact⟨ds,n,p,fs,C,S,r1.imp fun _ _ _=>True.intro,h,hcn,hcp,hex,fun od H' s' fd=>⟨rfl,(B.trans s1).trans s',fd⟩⟩
 ·obtain⟨k',Cc,fa,fd,ps,hM,F,hr,hm,hns,hc,hb,hdb⟩:=GR
  obtain⟨l,ha,hp⟩:=ha
  obtain⟨hst,_⟩:=b9 ha hp
  have ad:=gM (e::es) ha hp Gd
  refine Ek hM F hr (Gd.gl f hf) hm hb I hx (ad ow).nox hdb (aD (hst e List.mem_cons_self)) (bG fun x hx=>hst x (List.mem_cons_of_mem _ hx)) ⟨E,fun vs H1 s1 r1=>?_⟩
  intro x dx hx0 hd0 ne
  exact⟨.obj f [] []::ds,n,p,fs,C,S,ai.cons (by rw[af];exact⟨rfl,rfl,x,Cc,dx,[],rfl,hns,hc,aI,ai.nil⟩) ((r1.same (gG hx0 hd0)).imp fun _ _ _=>True.intro),(if_pos rfl).trans h,hcn,hcp,hex,fun od H' s' fd=>⟨rfl,((B.trans s1).trans (gG hx0 hd0)).trans s',fd⟩⟩
def LU(X:Cx)(C:Addr)(f:Str):Prop:=∃j fI oI fd ps,fC X.K C=some (.ref fI)/\X.K.lookup fI=some oI/\oI.cls=.type "function" /\ W.keepIn X.K (.ref C)=true/\aZ X.prog X.w X.K X.mg X.base cj j fI fd ps (se C f)/\bJ (j+1) X.A/\bH X.K fd ps []
theorem wu{p:Str}(Gd:aO Φ X.nox sc)(GR:∀f G,Ψ f=some G->pW X f G)(hcn:W.nsIn X.K mainGlobals n=some (some (.ref C)))(hcp:W.nsIn X.K mainGlobals p=some (some (.ref S)))(hex:gr X.K C S)(hmn:X.mg n=some (.ref C))(hin:∀p',Ex n=some (p',none)->fC X.K C=none)(hif:∀p' f,Ex n=some (p',some f)->LU X C f)
  (hr:fs=[]->∀pins σ H s h' a us,ah X pins σ H s->aw H0 H->s.heap.MadeExcOf h' a (.ref C) us->X.xe (.ref a) { s with heap:=h' })
  (hr2:∀f i,fs=[(f,i)]->∀pins σ H1 s1 z dx o vv a0,aw H0 H1->ah X pins σ (aM H1 dx (.xd [(f,.int i)])) s1->H1 dx=none->s1.heap.get? z=some o->o.cls=.ref C->o.dict=some dx->o.data=.fields vv->1<vv.size->vv[0]?=some a0->vv[1]?=some .none->(aM H1 dx (.xd [(f,.int i)])) z=none->X.s₀.heap.get? z=none->X.xe (.ref z) s1)
  (hx:∀pins σ H1 s1 e s',ah X pins σ H1 s1->bT X.prog X.w X.stack H1 s1 (Am H0 C fs) e s'->X.xe e s'):∀{ss:List Stmt} {ρ:ae} {r:Xs},Rz Φ Ψ Ex sc ss ρ r->r=(n,p,fs)->c5 X ss (lY X H0 ρ):=by
 intro ss ρ r h
 induction h with
 | raise he hl hd hp =>
  rename_i e d k x p' np cpos pos ss ρ
  intro er
  cases er
  refine dO fun pins s σ H D I ⟨ow,E,hl',B⟩=>?_
  have ed:=(bE he Gd).ed rfl
  obtain⟨l,he',_⟩:=id he
  have ns:=ia he'
  have ad:AD X.nox ρ [e] [d] (kj k 0):=jI ed lm (aD ns)
  refine mE I Gd.calm (Gd.gl _ hl) hmn hex (hin _ hp) hd (ad ow).nox (bG fun y hy=>by rw[List.mem_singleton.mp hy];exact ns) (aD ns) ⟨E,fun vs H1 s1 r1=>⟨?_,fun s2 h' a us I2 m=>hr rfl pins σ H1 s2 h' a us I2 (B.sm.trans s1) m⟩⟩
  rw[<- r1.length]
  exact Nat.le_trans (show 1<=b8 by decide) eO
 | raiseR he hy ht hl hd hp =>
  rename_i e y t k kd x p' np cpos pos p1 p2 p3 ss ρ
  intro er
  cases er
  refine dO fun pins s σ H D I ⟨ow,E,hl',B⟩=>?_
  have ed:=GZ (p1:=p1) (p2:=p2) (p3:=p3) (kd:=kd) ((bE he Gd).ed rfl) hy ht
  have ns:∀(z:Expr) (p:Pos),Expr.JoinedStr [.FormattedValue e 114 none p1,.Constant (.str t) kd p2] p3 ≠ .Starred z p:=fun z p h=>by cases h
  have ad:AD X.nox ρ [Expr.JoinedStr [.FormattedValue e 114 none p1,.Constant (.str t) kd p2] p3] [.str (reprText y++t)] (kj 0 0):=jI ed lm (aD ns)
  refine mE I Gd.calm (Gd.gl _ hl) hmn hex (hin _ hp) hd (ad ow).nox (bG fun y hy=>by rw[List.mem_singleton.mp hy];exact ns) (aD ns) ⟨E,fun vs H1 s1 r1=>⟨?_,fun s2 h' a us I2 m=>hr rfl pins σ H1 s2 h' a us I2 (B.sm.trans s1) m⟩⟩
  rw[<- r1.length]
  exact Nat.le_trans (show 1<=b8 by decide) eO
 | raiseM he hi ha ht hl hd hp =>
  rename_i e i a t k kd0 kd x p' np cpos pos p0 p1 p2 p3 ss ρ
  intro er
  cases er
  refine dO fun pins s σ H D I ⟨ow,E,hl',B⟩=>?_
  have ed:=G0 (p0:=p0) (p1:=p1) (p2:=p2) (p3:=p3) (kd0:=kd0) (kd:=kd) ((bE he Gd).ed rfl) hi ha ht
  have ns:∀(z:Expr) (p:Pos),Expr.JoinedStr [.Constant (.str a) kd0 p0,.FormattedValue e (-1) none p1,.Constant (.str t) kd p2] p3 ≠ .Starred z p:=fun z p h=>by cases h
  have ad:AD X.nox ρ [Expr.JoinedStr [.Constant (.str a) kd0 p0,.FormattedValue e (-1) none p1,.Constant (.str t) kd p2] p3] [.str (a++Str.ofString (toString i)++t)] (kj 0 0):=jI ed lm (aD ns)
  refine mE I Gd.calm (Gd.gl _ hl) hmn hex (hin _ hp) hd (ad ow).nox (bG fun y hy=>by rw[List.mem_singleton.mp hy];exact ns) (aD ns) ⟨E,fun vs H1 s1 r1=>⟨?_,fun s2 h' a us I2 m=>hr rfl pins σ H1 s2 h' a us I2 (B.sm.trans s1) m⟩⟩
  rw[<- r1.length]
  exact Nat.le_trans (show 1<=b8 by decide) eO
 | raiseF he hi hl hd hp =>
  rename_i e i k x p' f np cpos pos ss ρ
  intro er
  cases er
  refine dO fun pins s σ H D I ⟨ow,E,hl',B⟩=>?_
  have ed:=(bE he Gd).ed rfl
  obtain⟨l,he',_⟩:=id he
  have ns:=ia he'
  have ad:AD X.nox ρ [e] [.int i] (kj k 0):=jI ed lm (aD ns)
  obtain⟨j,fI,oI,fd,ps,q1,q2,q3,q4,q5,q6,q7⟩:=hif _ _ hp
  refine yy I Gd.calm (Gd.gl _ hl) hmn hex q1 q2 q3 q4 q5 q6 q7 hd (ad ow).nox (aD ns) ⟨E,fun vs H1 s1 r1=>?_⟩
  obtain⟨v,rfl,rv⟩:=r1.only
  rw[af]at rv
  subst rv
  exact⟨i,rfl,hi,fun s2 z dx o vv a0 I2 w1 w2 w3 w4 w5 w6 w7 w8 w9 w10=>hr2 f i rfl pins σ H1 s2 z dx o vv a0 (B.sm.trans s1) I2 w1 w2 w3 w4 w5 w6 w7 w8 w9 w10⟩
 | exp ha hf hG h =>
  intro er
  subst er
  refine dO fun pins s σ H D I ⟨ow,E,hl',B⟩=>?_
  exact wpAny_Expr_any (fJ Gd (GR _ _ hG) hcn hcp hex ha hf h I E B.sm (hx pins σ)) I.quiet rfl
 | asn ha hf hG h =>
  intro er
  subst er
  refine dO fun pins s σ H D I ⟨ow,E,hl',B⟩=>?_
  exact wpAny_Assign_Name (fJ Gd (GR _ _ hG) hcn hcp hex ha hf h I E B.sm (hx pins σ)) (d9 rfl)
 | ast ha hf hG h =>
  intro er
  subst er
  refine dO fun pins s σ H D I ⟨ow,E,hl',B⟩=>?_
  exact wpAny_Assign_stores (fJ Gd (GR _ _ hG) hcn hcp hex ha hf h I E B.sm (hx pins σ)) fH rfl
 | ret ha hf hG h =>
  intro er
  subst er
  refine dO fun pins s σ H D I ⟨ow,E,hl',B⟩=>?_
  exact wpAny_Return_some (fJ Gd (GR _ _ hG) hcn hcp hex ha hf h I E B.sm (hx pins σ))
 | iff hc h ih =>
  rename_i c a b ss t k pos ρ r
  intro er
  refine dO fun pins s σ H D I ⟨ow,E,hl',B⟩=>?_
  have td:=((bE hc Gd).td rfl t rfl ow).nox
  refine wpAny_If (aG (td pins s σ H (fun b H'=>b=t/\aw H H') I ⟨E,fun H' sm=>⟨rfl,sm⟩⟩) fun d s1 ⟨H1,I1,e,sm⟩=>?_)
  subst e
  cases d with
  | true=>exact ih er pins s1 σ H1 _ I1 ⟨ow,E.same sm,hl',B.same sm⟩
  | false=>exact ih er pins s1 σ H1 _ I1 ⟨ow,E.same sm,hl',B.same sm⟩
 | step hs h ih =>
  rename_i st ss ρ ρ' r
  intro er
  have sd:=((iC Φ _).s st (H0:=H0) (Nat.lt_succ_self _) hs Gd PassesOwn.never)
  intro pins s σ H D I ⟨ow,E,hl',B⟩
  exact cD (L2.PS.nox sd) (ih er) pins s σ H D I ⟨ow,E,hl',B,fun ow' σ' H' E' hl2 k=>⟨ow',E',hl2,B.keep k⟩⟩
def Q2(P:Program)(w:World)(K:W.Frag)(mg:Str->Option Value)(base:Heap)(k:Nat)(g:Str)(G:List D->Option Xs):Prop:=∃f fd ps,aZ P w K mg base (bT P w) k f fd ps (sg K G)/\mg g=some (.ref f)/\W.keepIn K (.ref f)=true/\bH K fd ps []/\(g==("__debug__" : Str))=false
def Rv(P:Program)(w:World)(K:W.Frag)(mg:Str->Option Value)(base:Heap)(k:Nat)(g:Str)(G:List D->Option Xs):Prop:=∃j C f fd ps,j+1<=k/\Mk K C f/\aZ P w K mg base (bT P w) j f fd ps (sg K (sr g G))/\mg g=some (.ref C)/\W.nsIn K mainGlobals g=some (some (.ref C))/\d5 K C/\bH K fd ps []/\(g==("__debug__" : Str))=false
def fS(P:Program)(w:World)(K:W.Frag)(mg:Str->Option Value)(base:Heap)(k:Nat)(g:Str)(G:List D->Option Xs):Prop:=Q2 P w K mg base k g G\/Rv P w K mg base k g G
theorem fS.mono{j:Nat}(h:fS P w K mg base j g G)(hjk:j<=k):fS P w K mg base k g G:=by
 rcases h with⟨f,fd,ps,h1,h2⟩|⟨i,C,f,fd,ps,h0,h1⟩
 ·exact .inl ⟨f,fd,ps,h1.mono hjk,h2⟩
 ·exact .inr ⟨i,C,f,fd,ps,Nat.le_trans h0 hjk,h1⟩
theorem fS.at(h:fS X.prog X.w X.K X.mg X.base k g G)(hr:bJ k X.A):pW X g G:=by
 rcases h with⟨f',fd',ps',a1,a2,a3,a4,a5⟩|⟨j,C',f',fd',ps',a0,a1,a2,a3,a4,a5,a6,a7⟩
 ·exact .inl ⟨k,f',fd',ps',a1,hr,a2,a3,a4,a5⟩
 ·exact .inr ⟨j,C',f',fd',ps',a1,a2,hr.mono a0,a3,a4,a5,a6,a7⟩
def Dh(P:Program)(w:World)(K:W.Frag)(mg:Str->Option Value)(base:Heap)(k:Nat)(Ex:Str->Option (Str×Option Str)):Prop:=∀c C,W.nsIn K mainGlobals c=some (some (.ref C))->(∀p,Ex c=some (p,none)->fC K C=none) /\
 ∀p f,Ex c=some (p,some f)->∃j fI oI fd ps,j+1<=k/\fC K C=some (.ref fI)/\K.lookup fI=some oI/\oI.cls=.type "function" /\ W.keepIn K (.ref C)=true/\aZ P w K mg base cj j fI fd ps (se C f)/\bH K fd ps []
theorem nW(Fn:gq K g qual st f fd)
  (S:aF (al (aa st)) ps (aa st)) (hΦ:iX P w K mg base k Φ) (hΨ:∀g G,Ψ g=some G->fS P w K mg base k g G) (hmg:∀n C,W.nsIn K mainGlobals n=some (some (.ref C))->mg n=some (.ref C)) (hEI:Dh P w K mg base k Ex)
  (hrun:∀ds r,G ds=some r->ds.length=ps.length/\Rz Φ Ψ Ex (aa st) (ak st) (bI ps ds) r):aZ P w K mg base (bT P w) (k+1) f fd ps (sg K G):=by
 obtain⟨oc,od,kV,doc,pm,an,cdv,ct,osl,rfl,lk,hcd⟩:=Fn.ex
 refine rC lk hcd S (fun vs H Q E h=>?_) fun A outer s H vs Q E hr hsp=>?_
 ·obtain⟨ds,n,p,fs,C,S',h1,h2,_⟩:=h
  rw[<- h1.length];exact(hrun ds _ h2).1
 ·obtain⟨ds,n,p,fs,C,S',h1,h2,h3,h4,h5,h6⟩:=hsp
  obtain⟨hl,hz⟩:=hrun ds _ h2
  have Gd:=ff (outer:=outer) (H:=H) (E:=E) S hΦ hr
  obtain⟨E0,hsl⟩:=gc (P:=P) (w:=w) (mg:=mg) (base:=base) (qual:=qual) (f:=f) (cdv:=cdv) (A:=A) (outer:=outer) (s:=s) (E:=E) S h1 hl
  have B0:bL H (fun _=>none) H:=fun a o h=>⟨h,rfl⟩
  refine⟨_,wu (X:=bV (bT P w) P w K mg base (al (aa st)) qual (aa st) f cdv A outer s H E) (H0:=H) (C:=C) (S:=S') Gd (fun g' G' hG=>?_) h3 h4 h5 (hmg n C h3) (hEI n C h3).1 (fun p' f' hp'=>?_) (fun hfs pins σ H1 s1 h' a us I sm m=>?_) (fun f' i' hfs pins σ H1 s1 z dx o vv a0 sm I w1 w2 w3 w4 w5 w6 w7 w8 w9 w10=>?_) (fun pins σ H1 s1 e s' I c=>?_) hz rfl,fun _=>none,E0,hsl,B0⟩
  ·exact(hΨ g' G' hG).at hr
  ·obtain⟨j,fI,oI,fd',ps',q0,q1,q2,q3,q4,q5,q6⟩:=(hEI n C h3).2 p' f' hp'
   exact⟨j,fI,oI,fd',ps',q1,q2,q3,q4,q5,hr.mono q0,q6⟩
  ·subst hfs
   exact mh I rfl rfl m (h6 none H1 sm nX.nil)
  ·subst hfs
   exact iB I rfl rfl w2 w3 w4 w5 w6 w7 w8 w10 w9 (h6 _ _ (sm.trans (cQ w1)) (fun f i z=>by cases z;exact⟨dx,rfl,aI⟩))
  ·refine hW I rfl rfl ?_
   obtain⟨x,C',T,od,H',rfl,z1,z2,z3,z4,z5,z6,z7,z8,z9,⟨e1,e2,e3⟩⟩:=c
   cases e1
   exact⟨x,C,T,od,H',rfl,z1,z2,z3,z4,z5,z6,z7,z8,z9,h6 od H' e2 e3⟩
def mT(ρ:ae)(n y c B:Str)(fs:List (Str×Int)):ae:=fun z=>if z=n then none else if z=y then some (.xc c (some (B,fs)),true)else ρ z
inductive Rt(Φ:Fx)(Ψ:Str->Option (List D->Option Xs))(sc:Scope):List Stmt->ae->Xs->Prop where
 | exp {f:Str} {G:List D->Option Xs} {e:Expr} {es:List Expr} {p q pos:Pos} {ds:List D} {k:Nat} {ρ:ae} {r:Xs} (ha:ac (bi Φ (e::es) sc ρ) (ds,k)) (hf:sc.names.lookup f=some .globalImplicit) (hG:Ψ f=some G) (h:G ds=some r):Rt Φ Ψ sc [.Expr (.Call (.Name f p) (e::es) [] q) pos] ρ r
 | asn {f:Str} {G:List D->Option Xs} {x:Str} {e:Expr} {es:List Expr} {p q pos px:Pos} {ds:List D} {k:Nat} {ρ:ae} {r:Xs} (ha:ac (bi Φ (e::es) sc ρ) (ds,k)) (hf:sc.names.lookup f=some .globalImplicit) (hG:Ψ f=some G) (h:G ds=some r):Rt Φ Ψ sc [.Assign [.Name x px] (.Call (.Name f p) (e::es) [] q) pos] ρ r
 | iff {c:Expr} {a b:List Stmt} {t:Bool} {k:Nat} {pos:Pos} {ρ:ae} {r:Xs} (hc:ac (au Φ c false sc ρ) (.bl t,k)) (h:Rt Φ Ψ sc (cond t a b) ρ r):Rt Φ Ψ sc [.If c a b pos] ρ r
theorem kE{M:Model}{A:Around}{E:Value->Shared->Prop}{env:Env}(h:wpAny M A (exec st env) Q E s):wpAny M A (execs [st] env) Q E s :=
 wpAny_execs_cons (aG h fun f s1 q=>by
  cases f with
  | next=>exact wpAny_execs_nil q
  | ret v=>exact q
  | brk=>exact q
  | cont=>exact q)
theorem Kz{p:Str}(Gd:aO Φ X.nox sc)(GR:∀f G,Ψ f=some G->pW X f G)(hcn:W.nsIn X.K mainGlobals n=some (some (.ref C)))(hcp:W.nsIn X.K mainGlobals p=some (some (.ref S)))(hex:gr X.K C S)
  (hx:∀H1 s1 e s',ah X pins σ H1 s1->bT X.prog X.w X.stack H1 s1 (Am H0 C fs) e s'->X.xe e s'):∀{ss:List Stmt} {ρ:ae} {r:Xs},Rt Φ Ψ sc ss ρ r->r=(n,p,fs)->∀{s:Shared} {H:Hp},ah X pins σ H s->aH X.nox ow H σ ρ->aw H0 H->wpAny (model X.prog X.w) X.A (execs ss X.env) Q X.xe s:=by
 intro ss ρ r h
 induction h with
 | exp ha hf hG h =>
  intro er s H I E B
  subst er
  exact kE (wpAny_Expr_any (fJ Gd (GR _ _ hG) hcn hcp hex ha hf h I E B hx) I.quiet rfl)
 | asn ha hf hG h =>
  intro er s H I E B
  subst er
  exact kE (wpAny_Assign_Name (fJ Gd (GR _ _ hG) hcn hcp hex ha hf h I E B hx) (d9 rfl))
 | iff hc h ih =>
  rename_i c a b t k pos ρ r
  intro er s H I E B
  have td:=((bE hc Gd).td rfl t rfl ow).nox
  refine kE (wpAny_If (aG (td pins s σ H (fun b H'=>b=t/\aw H H') I ⟨E,fun H' sm=>⟨rfl,sm⟩⟩) fun d s1 ⟨H1,I1,e,sm⟩=>?_))
  subst e
  cases d with
  | true=>exact ih er I1 (E.same sm) (B.trans sm)
  | false=>exact ih er I1 (E.same sm) (B.trans sm)
theorem vN{x:Addr}{od:Option Addr}{c B y:Str}{ie iy:Nat}(E:aH X ow H σ ρ)(sm:aw H H')(nx:H' x=none)(hie:X.N[ie]?=some n)(hiy:X.N[iy]?=some y)(hv:fy X.env.scope y)(hne:iy≠ie)(hl:iy<σ.length)
  (hcn:W.nsIn X.K mainGlobals c=some (some (.ref C))) (hcp:W.nsIn X.K mainGlobals B=some (some (.ref S))) (hex:gr X.K C S) (hfd:nX H' od fs) (hfo:∀f i,fs=[(f,i)]->na X.K C f) :
  aH X ow (aM H' x (iV x C od)) (((σ.set ie (some (.ref x))).set iy (some (.ref x))).set ie none) (mT ρ n y c B fs):=by
 have sm':aw H (aM H' x (iV x C od)):=sm.trans fun a o h=>by rw[ay (aV h nx)];exact h
 refine⟨fun z d o h=>?_,(E.same sm').own⟩
 unfold mT at h
 by_cases hz:z=n
 ·rw[if_pos hz]at h;cases h
 ·rw[if_neg hz]at h
  by_cases hy:z=y
  ·rw[if_pos hy]at h
   cases h
   refine⟨iy,.ref x,by rw[hiy,hy],by rw[hy];exact hv,?_,?_⟩
   ·rw[List.getElem?_set_ne (Ne.symm hne),List.getElem?_set_self (by rw[List.length_set];exact hl)]
   ·rw[af]
    refine⟨x,C,S,od,rfl,hcn,hcp,hex,aI,fun f i z=>?_,hfo⟩
    obtain⟨dx,e1,e2⟩:=hfd f i z
    exact⟨dx,e1,by rw[ay (aV e2 nx)];exact e2⟩
  ·rw[if_neg hy]at h
   obtain⟨i,v,e1,e2,e3,e4⟩:=(E.same sm').get z d o h
   have n1:i≠ie:=fun q=>hz (by rw[q,hie]at e1;exact(Option.some.inj e1).symm)
   have n2:i≠iy:=fun q=>hy (by rw[q,hiy]at e1;exact(Option.some.inj e1).symm)
   exact⟨i,v,e1,e2,by rw[List.getElem?_set_ne (Ne.symm n1),List.getElem?_set_ne (Ne.symm n2),List.getElem?_set_ne (Ne.symm n1)];exact e3,e4⟩
def BP(K:W.Frag)(Ex:Str->Option (Str×Option Str)):Prop:=∀c p o,Ex c=some (p,o)->∃C S,W.nsIn K mainGlobals c=some (some (.ref C))/\W.nsIn K mainGlobals p=some (some (.ref S))/\gr K C S/\W.exmOne K (.ref C) (.ref S)=some true/\∀f,o=some f->na K C f
inductive Rw(Φ:Fx)(sc:Scope):List Stmt->ae->D->Prop where
 | fin {ss:List Stmt} {ρ:ae} {d:D} (h:Rf Φ sc ss ρ (.rt d)):Rw Φ sc ss ρ d
 | cut (n:Nat) {ss:List Stmt} {ρ ρ1:ae} {d:D} (h:ac (az Φ (ss.take n) sc ρ) (.nx ρ1)) (k:Rw Φ sc (ss.drop n) ρ1 d):Rw Φ sc ss ρ d
 | ret {e:Expr} {q:Pos} {ss:List Stmt} {ρ:ae} {d:D} {k:Nat} (h:ac (au Φ e false sc ρ) (d,k)):Rw Φ sc (.Return (some e) q::ss) ρ d
abbrev JW:=Str->Option (List D->Rs D)
abbrev pP:=Str->Option (List D->Option Xs)
mutual
inductive Rq(Φ:Fx)(Ψ:pP)(Ex:Str->Option (Str×Option Str))(Ω:JW)(sc:Scope):List Stmt->ae->Fl->Prop where
 | rf {ss:List Stmt} {ρ:ae} {fl:Fl} (h:Rf Φ sc ss ρ fl):Rq Φ Ψ Ex Ω sc ss ρ fl
 | cut (n:Nat) {ss:List Stmt} {ρ ρ1:ae} {fl:Fl} (h:ac (az Φ (ss.take n) sc ρ) (.nx ρ1)) (k:Rq Φ Ψ Ex Ω sc (ss.drop n) ρ1 fl):Rq Φ Ψ Ex Ω sc ss ρ fl
 | dem {ss:List Stmt} {ρ:ae} {fl:Fl} (k:Rq Φ Ψ Ex Ω sc ss (gj ρ) fl):Rq Φ Ψ Ex Ω sc ss ρ fl
 | callW {x f:Str} {F:List D->Rs D} {e:Expr} {es:List Expr} {p t px q:Pos} {ds:List D} {j:Nat} {d:D} {ss:List Stmt} {ρ:ae} {fl:Fl} (hF:Ω f=some F) (ha:ac (bi Φ (e::es) sc (gj ρ)) (ds,j)) (h:ac (F ds) d) (gf:sc.names.lookup f=some .globalImplicit) (hx:ck sc x=true) (k:Rq Φ Ψ Ex Ω sc ss (bz (gj ρ) x (d,false)) fl) :
  Rq Φ Ψ Ex Ω sc (.Assign [.Name x px] (.Call (.Name f p) (e::es) [] t) q::ss) ρ fl
 | forQ {tg it:Expr} {body ss:List Stmt} {pos:Pos} {ρ ρ1:ae} {d:D} {ds:List D} {k:Nat} {fl:Fl} (hi:ac (au Φ it true sc (demote it ρ)) (d,k)) (hd:items d=some ds) (hk:k<=1) (ht:eL it tg=true) (h:C5 Φ Ψ Ex Ω sc tg body ds (demote it ρ) ρ1) (k:Rq Φ Ψ Ex Ω sc ss ρ1 fl):Rq Φ Ψ Ex Ω sc (.For tg it body [] pos::ss) ρ fl
 | iff {c:Expr} {a b ss:List Stmt} {pos:Pos} {ρ ρ1:ae} {t:Bool} {k:Nat} {fl:Fl} (hc:ac (au Φ c false sc ρ) (.bl t,k)) (h:Rq Φ Ψ Ex Ω sc (cond t a b) ρ (.nx ρ1)) (k:Rq Φ Ψ Ex Ω sc ss ρ1 fl):Rq Φ Ψ Ex Ω sc (.If c a b pos::ss) ρ fl
 | tryN {tb ss:List Stmt} {hd:ExceptHandler} {tpos:Pos} {ρ ρ1:ae} {fl:Fl} (h:Rf Φ sc tb ρ (.nx ρ1)) (k:Rq Φ Ψ Ex Ω sc ss ρ1 fl):Rq Φ Ψ Ex Ω sc (.Try tb [hd] [] [] tpos::ss) ρ fl
 | tryX {tb ss:List Stmt} {c B n y:Str} {o:Option Str} {fs:List (Str×Int)} {bp hpos p1 p2 p3 tpos:Pos} {ρ:ae} {fl:Fl} (hE:Ex c=some (B,o)) (ho:∀f i,fs=[(f,i)]->o=some f) (h:Rt Φ Ψ sc tb ρ (c,B,fs)) (k:Rq Φ Ψ Ex Ω sc ss (mT ρ n y c B fs) fl)
  (hB:sc.names.lookup B=some .globalImplicit:=by rfl) (hdb:(B==("__debug__" : Str))=false:=by decide +kernel) (hn:sc.names.lookup n=some .local:=by rfl) (hy:sc.names.lookup y=some .local:=by rfl) (hny:n≠y:=by decide +kernel) (hd1:(n==("__debug__" : Str))=false:=by decide +kernel) (hd2:(n==("__classdict__" : Str))=false:=by decide +kernel) :
  Rq Φ Ψ Ex Ω sc (.Try tb [.ExceptHandler (some (.Name B bp)) (some n) [.Assign [.Name y p1] (.Name n p2) p3] hpos] [] [] tpos::ss) ρ fl
inductive C5(Φ:Fx)(Ψ:pP)(Ex:Str->Option (Str×Option Str))(Ω:JW)(sc:Scope):Expr->List Stmt->List D->ae->ae->Prop where
 | nil {tg:Expr} {body:List Stmt} {ρ:ae}:C5 Φ Ψ Ex Ω sc tg body [] ρ ρ
 | cons {tg:Expr} {body:List Stmt} {d:D} {ds:List D} {ρ ρ1 ρ2 ρ3:ae} (hb:bF sc tg d ρ=some ρ1) (h:Rq Φ Ψ Ex Ω sc body ρ1 (.nx ρ2)) (k:C5 Φ Ψ Ex Ω sc tg body ds ρ2 ρ3):C5 Φ Ψ Ex Ω sc tg body (d::ds) ρ ρ3
end
noncomputable def qH(f:List D->Option Xs)(P:List D->Xs->Prop):List D->Option Xs:=fun ds => @ite (Option Xs) (∃r,f ds=some r/\P ds r) (Classical.propDecidable _) (f ds) none
theorem vW{f:List D->Option Xs}{P:List D->Xs->Prop}(h:qH f P ds=some r):P ds r:=by
 unfold qH at h
 split at h
 ·rename_i k;obtain⟨r',e,p⟩:=k;rw[e]at h;cases h;exact p
 ·cases h
theorem zE{f:List D->Option Xs}{P:List D->Xs->Prop}(e:f ds=some r)(h:P ds r):qH f P ds=some r:=by
 unfold qH;rw[if_pos ⟨r,e,h⟩];exact e
end Sp
namespace L2
open PySem PySem.Spec PyProof.Rows
variable{F:Value->Shared->Prop}{C x:Addr}{od:Option Addr}{oe:Obj}{vs:Array Value}{a0:Value}{E:XK}
theorem sV{s:Shared}{M:Model}{A:Around}{E:Value->Shared->Prop}{base:Heap}{env:Env}{outer:List Env}{L:Addr}{Q:Unit->Shared->Prop}(fs:A.frames=some (env::outer))(hf:s.heap.FunFrames base (env::outer))(hfr:env.frame=some L)
  (e1:s.heap.get? x=some oe) (e2:oe.cls=.ref C) (e6:oe.dict=od) (e3:oe.data=.fields vs) (hsz:1<vs.size) (e4:vs[0]?=some a0) (e5:vs[1]?=some .none\/∃T oT ts,vs[1]?=some (.ref T)/\T≠x/\s.heap.get? T=some oT/\oT.data=.fields ts/\ts[3]?=some .none)
  (hF:∀s2,wpAny M A (noteFrame (.ref x) env) (fun _ s3=>wpAny M A (setFlight (.ref x) none) Q E s3) E s2->F (.ref x) s2)
  (h:∀h2 T',(∀b o,s.heap.get? b=some o->b≠x->vs[1]? ≠ some (.ref b)->b∉bZ (env::outer)->h2.get? b=some o)->(∀b∈bZ (env::outer),∀o,s.heap.get? b=some o->∃sl,h2.get? b=some { o with slots:=sl }) ->
   s.heap.get? T'=none->CZ x C T' od h2->Q () { s with heap:=h2 }):notedBy M A env (cameBackBy M A env F) (.ref x) s:=by
 unfold notedBy
 refine yN fs hf hfr e1 e3 hsz e5 fun h2 T' k1 k2 nT nTx ex ⟨oT,ts,f1,f2,f3⟩=>?_
 have d1:(Obj.mapFields (fun v=>v.setIfInBounds 1 (.ref T')) oe).data=.fields (vs.setIfInBounds 1 (.ref T')):=Obj.data_mapFields e3 _
 have v1:(vs.setIfInBounds 1 (.ref T'))[1]?=some (.ref T'):=by simp[hsz]
 have f4:3<ts.size:=by
  rcases Nat.lt_or_ge 3 ts.size with z|z
  ·exact z
  ·rw[Array.getElem?_eq_none z]at f3;cases f3
 have nT2:∀b o,s.heap.get? b=some o->T'≠b:=fun b o eb z=>by rw[<- z,nT]at eb;cases eb
 have ce:(Obj.mapFields (fun v=>v.setIfInBounds 1 (.ref T')) oe).cls=.ref C/\(Obj.mapFields (fun v=>v.setIfInBounds 1 (.ref T')) oe).dict=od:=by
  obtain⟨c,d,da,sl⟩:=oe
  simp only at e3 e2 e6
  subst e3
  exact⟨e2,e6⟩
 unfold cameBackBy
 refine wpAny_bind (wpAny_field (s:={ s with heap:=h2 }) ex d1 v1 ?_)
 rw[if_neg (by simp)]
 unfold setFlight
 refine wpAny_bind (wpAny_field (s:={ s with heap:=h2 }) ex d1 v1 ?_)
 rw[if_pos (by simp),hfr]
 refine wpAny_setField (s:={ s with heap:=h2 }) f1 f2 f4 ?_
 have g1:(h2.update T' (Obj.mapFields fun v=>v.setIfInBounds 3 (rawInt L))).get? x=some (Obj.mapFields (fun v=>v.setIfInBounds 1 (.ref T')) oe):=(Heap.get?_update_other _ _ nTx).trans ex
 have g2:(h2.update T' (Obj.mapFields fun v=>v.setIfInBounds 3 (rawInt L))).get? T'=some (Obj.mapFields (fun v=>v.setIfInBounds 3 (rawInt L)) oT):=Heap.get?_update_self _ f1 (Obj.isFreed_of_fields (Obj.data_mapFields f2 _))
 have g3:(Obj.mapFields (fun v=>v.setIfInBounds 3 (rawInt L)) oT).data=.fields (ts.setIfInBounds 3 (rawInt L)):=Obj.data_mapFields f2 _
 have g4:(ts.setIfInBounds 3 (rawInt L))[3]?=some (rawInt L):=by simp[f4]
 refine hF _ ?_
 unfold noteFrame
 rw[hfr]
 dsimp only
 refine wpAny_bind (wpAny_field (s:={ s with heap:=h2.update T' (Obj.mapFields fun v=>v.setIfInBounds 3 (rawInt L)) }) g1 d1 v1 ?_)
 rw[if_pos (by simp)]
 refine wpAny_bind (wpAny_field (s:={ s with heap:=h2.update T' (Obj.mapFields fun v=>v.setIfInBounds 3 (rawInt L)) }) g2 g3 g4 ?_)
 rw[if_pos (by simp[rawInt])]
 refine wpAny_pure ?_
 refine mR (s:={ s with heap:=h2.update T' (Obj.mapFields fun v=>v.setIfInBounds 3 (rawInt L)) }) g1 d1 v1 g2 g3 (by simp[f4]) ?_
 refine h ((h2.update T' (Obj.mapFields fun v=>v.setIfInBounds 3 (rawInt L))).update T' _) T' (fun b o eb b1 b2 b3=>(Heap.get?_update_other _ _ (nT2 b o eb)).trans ((Heap.get?_update_other _ _ (nT2 b o eb)).trans (k1 b o eb b1 b2 b3))) (fun b hb o eb=>?_) nT ⟨_,_,_,_,a0,(Heap.get?_update_other _ _ nTx).trans g1,ce.1,ce.2,d1,?_,v1,nTx,Heap.get?_update_self _ g2 (Obj.isFreed_of_fields (Obj.data_mapFields g3 _)),Obj.data_mapFields g3 _,by simp[f4]⟩
 ·obtain⟨sl,z⟩:=k2 b hb o eb
  exact⟨sl,(Heap.get?_update_other _ _ (nT2 b o eb)).trans ((Heap.get?_update_other _ _ (nT2 b o eb)).trans z)⟩
 ·rw[Array.getElem?_setIfInBounds_ne (by decide)];exact e4
section
variable{X:Cx}{pins:List (Addr×Obj)}{σ:St}{H H':Hp}{s:Shared}
def Ak(X:Cx)(E:XK)(F:Value->Shared->Prop):Prop:=∀e s2,wpAny (model X.prog X.w) X.A (leaving X.env e) (fun _ s''=>bT X.prog X.w X.outer X.H₀ X.s₀ E e s'') (fun _ _=>False) s2->F e s2
theorem Ak.two(h:Ak X E F)(s2:Shared)(k:wpAny (model X.prog X.w) X.A (noteFrame (.ref x) X.env) (fun _ s3=>wpAny (model X.prog X.w) X.A (setFlight (.ref x) none) (fun _ s''=>bT X.prog X.w X.outer X.H₀ X.s₀ E (.ref x) s'') (fun _ _=>False) s3) (fun _ _=>False) s2):F (.ref x) s2:=h _ _ (wpAny_bind k)
theorem uG{e:Addr}(I:ah X pins σ H s)(hs:X.stack=X.env::X.outer)(hex:X.ex=[])(e1:s.heap.get? e=some oe)(e2:oe.cls=.ref C)(e6:oe.dict=od)(e3:oe.data=.fields vs)(hsz:1<vs.size)(e4:vs[0]?=some a0)(e5:vs[1]?=some .none)
  (n0:X.s₀.heap.get? e=none) (nH:H e=none) (q:E (.ref C) od H) (hF:Ak X E F):notedBy (model X.prog X.w) X.A X.env (cameBackBy (model X.prog X.w) X.A X.env F) (.ref e) s:=by
 have hfr:=I.frame hs
 have fs:X.A.frames=some (X.env::X.outer):=by rw[<- hs];exact I.ok.frames
 have hf:=I.stack
 rw[hs]at hf
 refine sV (C:=C) (od:=od) (Q:=fun _ s''=>bT X.prog X.w X.outer X.H₀ X.s₀ E (.ref e) s'') (E:=fun _ _=>False) fs hf hfr e1 e2 e6 e3 hsz e4 (.inl e5) hF.two fun h2 T' k1 k2 nT tr=>?_
 have ov:gZ X (e::bZ X.stack) s.heap h2:=⟨fun b o eb nb=>k1 b o eb (fun z=>nb (by rw[z];exact List.mem_cons_self)) (by rw[e5];intro z;cases z) (fun z=>nb (List.mem_cons_of_mem _ (by rw[hs];exact z))),fun b hb o eb=>k2 b (by rw[<- hs];exact hb) o eb⟩
 refine oj (s:=s) I hs hex (fun b hb=>?_) (fun b hb=>?_) ov tr (.inl nT) n0 nH q
 ·rcases List.mem_cons.mp hb with rfl|hb
  ·exact .inr n0
  ·exact .inl hb
 ·rcases List.mem_cons.mp hb with rfl|hb
  ·exact nH
  ·exact I.stkFree b hb
theorem yU{e:Value}{s':Shared}(I:ah X pins σ H s)(hs:X.stack=X.env::X.outer)(hex:X.ex=[])(c:bT X.prog X.w X.stack H s E e s')(hF:Ak X E F) :
  notedBy (model X.prog X.w) X.A X.env (cameBackBy (model X.prog X.w) X.A X.env F) e s':=by
 obtain⟨x,C,T,od,H',rfl,hx,hT,t,ho,hg,u,hk,nx,nT,q⟩:=c
 have J:ah X pins σ H' s':=I.call' (ch:=[]) ho u hk hg (fun b z=>absurd z (by simp))
 have hfr:=I.frame hs
 have ub:Un X.fs [] X.H₀ H X.s₀.heap s.heap:=by have:=I.base;rw[hex]at this;exact this
 have fs:X.A.frames=some (X.env::X.outer):=by rw[<- hs];exact I.ok.frames
 have hf:=J.stack
 rw[hs]at hf
 have old:∀b,s.heap.get? b=none->X.s₀.heap.get? b=none:=fun b hb=>by
  cases z:X.s₀.heap.get? b with
  | none=>rfl
  | some o=>obtain⟨o',e'⟩:=ub.there b o z (by simp);rw[hb]at e';cases e'
 obtain⟨oe,vs,oT,ts,a0,e1,e2,e6,e3,e4,e5,f0,f1,f2,f3⟩:=id t
 have hsz:1<vs.size:=by
  rcases Nat.lt_or_ge 1 vs.size with z|z
  ·exact z
  ·rw[Array.getElem?_eq_none z]at e5;cases e5
 refine sV (C:=C) (od:=od) (Q:=fun _ s''=>bT X.prog X.w X.outer X.H₀ X.s₀ E (.ref x) s'') (E:=fun _ _=>False) fs hf hfr e1 e2 e6 e3 hsz e4 (.inr ⟨T,oT,ts,e5,f0,f1,f2,f3⟩) hF.two fun h2 T2 k1 k2 nT2 tr=>?_
 have ov:gZ X (x::T::bZ X.stack) s'.heap h2:=⟨fun b o eb nb=>k1 b o eb (fun z=>nb (by rw[z];exact List.mem_cons_self)) (by rw[e5];intro z;injection z with z;injection z with z;exact nb (by rw[<- z];exact List.mem_cons_of_mem _ List.mem_cons_self)) (fun z=>nb (List.mem_cons_of_mem _ (List.mem_cons_of_mem _ (by rw[hs];exact z)))),fun b hb o eb=>k2 b (by rw[<- hs];exact hb) o eb⟩
 refine oj J hs hex (fun b hb=>?_) (fun b hb=>?_) ov tr (.inl nT2) (old x hx) nx q
 ·rcases List.mem_cons.mp hb with rfl|hb
  ·exact .inr (old _ hx)
  ·rcases List.mem_cons.mp hb with rfl|hb
   ·exact .inr (old _ hT)
   ·exact .inl hb
 ·rcases List.mem_cons.mp hb with rfl|hb
  ·exact nx
  ·rcases List.mem_cons.mp hb with rfl|hb
   ·exact nT
   ·exact J.stkFree b hb
end
end L2
namespace Sp
open PySem PySem.Spec PyProof.Rows L2
variable{a e tg:Expr}{body ss:List Stmt}{p pos q:Pos}{Φ:Fx}{sc:Scope}{H0:Hp}{ρ:ae}{i k n1:Nat}{T nid:String}{ks:List (Str×Value)}{Q:Value->Shared->Prop}{it tu:Addr}{vs:Array Value}{old:Value}{P:Program}{w:World}{K:W.Frag}{es:List Expr}{mg:Str->Option Value}{d x:Str}{kvs:List (Str×Int)}
variable{X:Cx}
abbrev vz(X:Cx):Value->Shared->Prop:=notedBy (model X.prog X.w) X.A X.env (cameBackBy (model X.prog X.w) X.A X.env X.xe)
theorem DQ{iter:Expr}{wi:TI}{g:TG}{tb:TS}(hc:X.calm=true)(hi:PI X.nox tg iter wi)(hg:PG X.nox tg g)(hb:c5 (X.wish (vz X)) body tb)
  (hs:∀x,foldedSetIterable iter X.env x=pure x):PS X (.For tg iter body [] pos) (FY wi g tb):=by
 intro pins s σ H D I h
 refine wpAny_For (wpAny_mono (hi pins s σ H _ (I.wish _) h) (fun v s1 h1=>wpAny_mono h1 (fun itv s2 h2=>?_) fun _ _ z=>z.elim) fun _ _ z=>z.elim) hs
 obtain⟨it,fp,tn,J,H2,e,I2,T,st2,f2,W,⟨m0,w0⟩,turn⟩:=h2
 subst e
 have stat:∀{H':Hp},(∀b∈fp,H' b=none)->∀b∈fp,g7 X pins H' b:=fun hn b hb=>⟨hn b hb,(f2 b hb).2⟩
 refine codeAny_forLoop_any (fun n s' => ∃i σ' H',ah X pins σ' H' s'/\tn i s'.heap/\(∀b∈fp,H' b=none)/\W i n σ' H') ?_ m0 ⟨0,σ,H2,I2.unwish,st2,fun b hb=>(f2 b hb).1,w0⟩
 rintro n s3 ⟨i,σ3,H3,I3,st3,fr3,w3⟩
 rcases turn i n σ3 H3 w3 with⟨stop,qn⟩|⟨go,N,hN,step⟩
 ·refine aG (T.done X rfl rfl rfl hc i pins s3 σ3 H3 _ I3 (stat fr3) st3 stop) fun r s4 ⟨hr,I4⟩=>?_
  subst hr
  exact wpAny_execs_nil ⟨σ3,H3,I4,qn⟩
 ·refine aG (T.item X rfl rfl rfl hc i pins s3 σ3 H3 _ I3 (stat fr3) st3 go) fun r s4 ⟨u,hr,h4⟩=>?_
  subst hr
  refine aG h4 fun _ s5 ⟨x,H5,I5,r5,y5,st5,fr5⟩=>?_
  have I5':=I5.pinned (stat fr5) (T.obj _ _ st5)
  refine wpAny_mono (hg _ s5 σ3 H5 x u _ (I5'.wish _) r5 (step x H5 y5)) (fun _ s6 ⟨σ6,H6,I6,q6⟩=>?_) fun _ _ z=>z.elim
  refine wpAny_mono (hb _ s6 σ6 H6 _ (I6.unwish.wish _) q6) (fun f s7 q7=>?_) fun _ _ z=>z
  replace q7:=q7.unwish
  have again:∀{σ7:L2.St} {H7:Hp},ah X (pins++jr fp s5.heap) σ7 H7 s7->N σ7 H7->∃m,m<n/\∃i σ' H',ah X pins σ' H' s7/\tn i s7.heap/\(∀b∈fp,H' b=none)/\W i m σ' H':=fun {σ7 H7} I7 n7=>by
   obtain⟨m',hm,w7⟩:=hN σ7 H7 n7
   refine⟨m',hm,i+1,σ7,H7,I7.unpinned,T.keep _ _ _ st5 fun b hb o e=>(I7.pin (b,o) (List.mem_append_right _ (List.mem_append_right _ (fe hb e)))).1,fun b hb=>?_,w7⟩
   obtain⟨o,e,d⟩:=T.obj _ _ st5 b hb
   exact(I7.pin (b,o) (List.mem_append_right _ (List.mem_append_right _ (fe hb e)))).2.1
  cases f with
  | next=>obtain⟨σ7,H7,I7,n7⟩:=q7;exact again I7 n7
  | cont=>obtain⟨σ7,H7,I7,n7⟩:=q7;exact again I7 n7
  | brk=>obtain⟨σ7,H7,I7,q7⟩:=q7;exact⟨σ7,H7,I7.unpinned,q7⟩
  | ret v=>obtain⟨x7,σ7,H7,I7,r7,q7⟩:=q7;exact⟨x7,σ7,H7,I7.unpinned,r7,q7⟩
inductive Df(Φ:Fx)(sc:Scope)(tg:Expr)(body:List Stmt):List D->ae->ae->Prop where
 | nil {ρ:ae}:Df Φ sc tg body [] ρ ρ
 | cons {d:D} {ds:List D} {ρ ρ1 ρ2 ρ3:ae} (hb:bF sc tg d ρ=some ρ1) (h:ac (az Φ body sc ρ1) (.nx ρ2)) (k:Df Φ sc tg body ds ρ2 ρ3):Df Φ sc tg body (d::ds) ρ ρ3
theorem DI{it:Expr}{ρ1 ρ2:ae}{x:D}(pre:List D){post:List D}(Gd:aO Φ X.nox sc)(hI:IE X.nox (demote it ρ) tg it (pre++x::post) k)(hk:k<=1)(hF:qT X.nox H0 tg body pre (demote it ρ) (.nx ρ1))(hb:bF sc tg x ρ1=some ρ2)(hB:c5 (X.wish (vz X)) body (lY X H0 ρ2))(hs:∀x,foldedSetIterable it X.env x=pure x):c5 X (.For tg it body [] pos::ss) (lY X H0 ρ):=by
 have hG:=rB Gd hb
 refine dO fun pins s σ H D0 I ⟨ow0,E0,hl,B0⟩=>?_
 obtain⟨ow,E,k0⟩:=jY (e:=it) E0
 have B:=B0.keep k0
 have pb:c5 (X.wish (vz X)) body (fun D σ H=>(∃ρ fl,fR X.nox H0 ρ body fl/\uX X.nox H0 ρ fl D σ H)\/lY X H0 ρ2 D σ H):=fun pins s σ H D I h=>by
  rcases h with⟨ρ',fl,h1,h2⟩|h
  ·exact c5.nox (X:=X.wish (vz X)) h1 pins s σ H D I h2
  ·exact hB pins s σ H D I h
 have pg:PG X.nox tg (fun v σ H Q => ∃g:TG,PG X.nox tg g/\g v σ H Q):=fun pins s σ H v u Q I r ⟨g,h1,h2⟩=>h1 pins s σ H v u Q I r h2
 refine DQ (X:=X) Gd.calm (hI ow) pg pb hs pins s σ H D0 I ⟨E,fun J H1 s1 itd=>?_⟩
 refine⟨fun i m σ' H'=>m=pre.length+1-i/\i<=pre.length/\∃ow' ρ',aH X.nox ow' H' σ' ρ'/\σ'.length=X.N.length/\bL H0 ow' H'/\aS ow H1 ow' H'/\qT X.nox H0 tg body (pre.drop i) ρ' (.nx ρ1),
  ⟨pre.length+1,by simp,Nat.zero_le _,ow,_,E.same s1,hl,B.keep (aS.same s1),aS.refl _ _,hF⟩,?_⟩
 rintro i m σ' H' ⟨rfl,hile,ow',ρ',E',hl',B',k',hc⟩
 have st:d7 (Kd ow H k H1) (Kd ow H k H1) H1 H':=⟨fun a o ha hn=>k'.keep a o ha (.inl hn),fun a vs ha p=>k'.keep a _ ha (.inr (dY E.own hk p.1)),fun _ _ _ p=>p,fun _ p=>p⟩
 have it:=itd i H' st
 have hlt:i<(pre++x::post).length:=by rw[List.length_append,List.length_cons];omega
 obtain⟨go,yl⟩:=it.1 (pre++x::post)[i] (List.getElem?_eq_getElem hlt)
 have key:∀y H3,J.yld i H' y H3->aw H' H3/\af X.K H3 (fun a b=>b=true->ow' a=none) (pre++x::post)[i] y:=fun y H3 y3=>by
  obtain⟨sm3,rx⟩:=yl y H3 y3
  exact⟨sm3,rx.impH (fun a o ha p _=>by
   obtain⟨o1,h1⟩:=p.2 rfl
   exact k'.low a o1 h1 (dY E.own hk p.1)) fun a _ z=>(by cases z)⟩
 by_cases hp:i<pre.length
 ·have hdrop:pre.drop i=pre[i]::pre.drop (i+1):=List.drop_eq_getElem_cons hp
  rw[hdrop]at hc
  have ei:(pre++x::post)[i]=pre[i]:=List.getElem_append_left hp
  rw[ei]at key
  refine .inr ⟨go,fun σ2 H2=>i+1<=pre.length/\∃ow2 ρ2,aH X.nox ow2 H2 σ2 ρ2/\σ2.length=X.N.length/\bL H0 ow2 H2/\aS ow H1 ow2 H2/\qT X.nox H0 tg body (pre.drop (i+1)) ρ2 (.nx ρ1),fun σ2 H2 n=>⟨pre.length+1-(i+1),by omega,rfl,n.1,n.2⟩,fun y H3 y3=>?_⟩
  obtain⟨sm3,rx'⟩:=key y H3 y3
  obtain⟨ρ3,⟨g,g1,g2⟩,hc⟩:=hc
  refine⟨g,g1,g2 ow' y σ' H3 _ hl' (E'.same sm3) rx' fun σ2 hl2 E2=>?_⟩
  have k3:aS ow' H' ow' H3:=aS.same sm3
  rcases hc with⟨ρ4,hb4,hc⟩|⟨r,z,_⟩
  ·exact .inl ⟨ρ3,.nx ρ4,hb4,ow',E2,hl2,B'.keep k3,fun ow2 σ3 H4 a b c=>⟨hp,ow2,ρ4,a,b,(B'.keep k3).keep c,k'.trans (k3.trans c),hc⟩⟩
  ·cases z
 ·have ei:i=pre.length:=by omega
  subst ei
  rw[List.drop_length]at hc
  cases (show Fl.nx ρ1=.nx ρ' from hc)
  have ex:(pre++x::post)[pre.length]=x:=by rw[List.getElem_append_right (Nat.le_refl _)];simp
  rw[ex]at key
  refine .inr ⟨go,fun _ _=>False,fun _ _ z=>z.elim,fun y H3 y3=>?_⟩
  obtain⟨sm3,rx'⟩:=key y H3 y3
  obtain⟨g,g1,g2⟩:=hG
  exact⟨g,g1,g2 ow' y σ' H3 _ hl' (E'.same sm3) rx' fun σ2 hl2 E2=>.inr ⟨ow',E2,hl2,B'.keep (aS.same sm3)⟩⟩
inductive C4(Φ:Fx)(Ψ:pP)(Ex:Str->Option (Str×Option Str))(sc:Scope):List Stmt->ae->Xs->Prop where
 | rz {ss:List Stmt} {ρ:ae} {r:Xs} (h:Rz Φ Ψ Ex sc ss ρ r):C4 Φ Ψ Ex sc ss ρ r
 | step {s:Stmt} {ss:List Stmt} {ρ ρ':ae} {r:Xs} (hs:ac (eR Φ s sc ρ) (.nx ρ')) (h:C4 Φ Ψ Ex sc ss ρ' r):C4 Φ Ψ Ex sc (s::ss) ρ r
 | forR {tg it:Expr} {body ss:List Stmt} {pos:Pos} {ρ ρ1 ρ2:ae} {d x:D} (pre:List D) {post:List D} {k:Nat} {r:Xs} (hi:ac (au Φ it true sc (demote it ρ)) (d,k)) (hd:items d=some (pre++x::post)) (hk:k<=1) (ht:eL it tg=true) (hf:Df Φ sc tg body pre (demote it ρ) ρ1) (hb:bF sc tg x ρ1=some ρ2) (h:Rz Φ Ψ Ex sc body ρ2 r):C4 Φ Ψ Ex sc (.For tg it body [] pos::ss) ρ r
open AutoSeq1 (wpAny_loadPart')
abbrev lZ:Str:=Str.ofString "start"
theorem EQ(a b:Value):checkTypeCall "enumerate" ⟨[a],[(lZ,b)]⟩=pure ():=by kernel_rfl
theorem ID(a b:Value):checkBuiltinCall "enumerate.__new__" ⟨[.type "enumerate", a],[(lZ,b)]⟩=pure ():=by kernel_rfl
theorem ET(o a b:Value):argsOk "object.__init__" ⟨[o,a],[(lZ,b)]⟩:=by kernel_rfl
theorem ER(tu:Addr)(vs:Array Value)(n:Nat)(dc:Option Addr)(so:Array (Option Value))(tk:Tok) :
  Meets (Builtin.«enumerate.__new__» ⟨[.type "enumerate", .ref tu],[(lZ,.int 1 tk)]⟩) (fun _ R st=>st.heap.get? tu=some { cls:=.type "list", dict:=dc,data:=.seq vs n,slots:=so } /\
   R (.ok (.ret (.ref (st.heap.push { cls:=.type "list_iterator", data:=.fields #[.ref tu,.int 0 0] }).objs.size)))
    { st with heap:=(st.heap.push { cls:=.type "list_iterator", data:=.fields #[.ref tu,.int 0 0] }).push { cls:=.type "enumerate", data:=.fields #[.none,.bool false,.ref st.heap.objs.size,rawInt 1,.none,.none] } }) :=
 .of_wp fun pg wd AA RR st hh=>by
  obtain⟨hp0,gg,dd,tk0,oo⟩:=st;obtain⟨htu,hh⟩:=hh
  have hsub0:=sub_enumerate
  have hTT:Heap.IsList (Shared.heap ⟨hp0,gg,dd,tk0,oo⟩) tu vs:=⟨_,htu,rfl,n,rfl⟩
  wp_walk using wpAny_loadPart' htu
  refine wpAny_stack_any fun stk0=>wpAny_pure ?_
  split
  ·rename_i c0 _ _ _ _ _
   cases (c0==Value.type "enumerate")
   ·wp_walk using wpAny_loadPart' htu,wpAny_pyIter_list hTT
    exact⟨_,rfl,hh⟩
   ·wp_walk using wpAny_loadPart' htu,wpAny_pyIter_list hTT
    exact⟨_,rfl,hh⟩
  ·wp_walk using wpAny_loadPart' htu,wpAny_pyIter_list hTT
   exact⟨_,rfl,hh⟩
section
variable{prog:Program}{A:Around}{E:Value->Shared->Prop}{s:Shared}
theorem IC{me:Value}{more:List Value}(h1:typeLookup (.type T) "__init__" = pure (some (.builtin "object.__init__")))(h2:Bind.madeBy (.type T)=pure (some nid))(h3:(some nid != some "object.__new__")=true) :
  Meets (Builtin.«object.__init__» ⟨me::more,ks⟩) (fun _ R st=>st.TypeIs me T/\R (.ok (.ret .none)) st):=.of_wp fun pg wd AA RR st hh=>by
 obtain⟨hT,hq⟩:=hh
 cases more with
 | nil =>
  cases ks with
  | nil=>exact wpAny_pure ⟨_,rfl,hq⟩
  | cons k ks =>
   repeat (any_goals (first|assumption|wp_step))
   exact⟨_,rfl,hq⟩
 | cons b more =>
  repeat (any_goals (first|assumption|wp_step))
  exact⟨_,rfl,hq⟩
theorem EU{Bn:Builtin}{as:List Value}{S:PySem.Spec}(tc:TypeCalled T nid "object.__init__")(h3:(some nid != some "object.__new__")=true)
  (c1:checkTypeCall T ⟨as,ks⟩=pure ()) (c2:checkBuiltinCall nid ⟨.type T::as,ks⟩=pure ()) (c3:∀o,argsOk "object.__init__" ⟨o::as,ks⟩) (en:entryFor table nid=some Bn) (mt:Meets (Bn ⟨.type T::as,ks⟩) S)
  (h:S A.in1 (wants (fun o s1=>s1.TypeIs o T/\Q o s1) E) s):wpAny (model prog w) A (call (.type T) as ks) Q E s:=by
 obtain⟨c,tl,hmr⟩:=tc.mro
 have hmk:=tc.made
 have hsb:=tc.sub
 have hnt:=tc.notType
 have hcc:=tc.canCreate
 refine wpAny_call (codeAny_of_tree (show wpAny _ _ (callAny (.type T) _) _ _ _ from wpAny_pure ⟨Code.quiet_builtin _ (by decide +kernel),codeAny_builtin F.entry_type_call ?_⟩))
 rw[Around.under_plain (show(Code.builtin "type.__call__" ⟨.type T::as,ks⟩).weight=0 from rfl) (show(Code.builtin "type.__call__" ⟨.type T::as,ks⟩).cUnits=1 from rfl)]
 repeat (any_goals (first|assumption|wp_step))
 refine codeAny_mono (codeAny_call_builtin tc.plain en (wpAny_of_eq c2 (mt prog w A.in1 _ s h))) fun r s1 hr=>?_
 cases r with
 | error e=>exact hr
 | ok fl =>
  cases fl with
  | ret o =>
   obtain⟨hT,hq⟩:=hr
   have hli:=tc.init.lookup
   have hbi:=tc.init.bind o
   repeat (any_goals (first|assumption|wp_step))
   refine codeAny_mono (codeAny_call_builtin tc.init.plain F.entry_object_init (tc.init.check _ _ _ _ _ _ _ _ hT (c3 o) (IC tc.init.lookup tc.made h3 prog w A.in1 (wants (fun r s2=>r=.none/\Q o s2) E) s1 ⟨hT,rfl,hq⟩))) fun r2 s2 hr2=>?_
   cases r2 with
   | error e=>exact hr2
   | ok f2 =>
    cases f2 with
    | ret r =>
     obtain⟨rfl,hq⟩:=hr2
     repeat (any_goals (first|assumption|wp_step))
    | _=>exact hr2.elim
  | _=>exact hr.elim
theorem Bg{tk:Tok}(hT:s.heap.IsList tu vs)
  (go:∀h1,IsEnum h1 (s.heap.objs.size+1) s.heap.objs.size 1 .none->h1.IsListIter s.heap.objs.size tu 0->h1.objs.size=s.heap.objs.size+2->(∀b o,s.heap.get? b=some o->h1.get? b=some o)->Q (.ref (s.heap.objs.size+1)) { s with heap:=h1 }) :
  wpAny (model prog w) A (call (.type "enumerate") [.ref tu] [(lZ,.int 1 tk)]) Q E s:=by
 obtain⟨⟨cc,dc,dt,so⟩,htu,hcc,n,hdd⟩:=hT
 replace hcc:cc=.type "list" := hcc
 replace hdd:dt=.seq vs n:=hdd
 subst hcc hdd
 refine EU F.called_enumerate (by decide) (EQ _ _) (ID _ _) (fun ob=>ET ob _ _) F.entry_enumerate_new (ER tu vs n dc so tk) ⟨htu,?_⟩
 have sz:(s.heap.push { cls:=.type "list_iterator", data:=.fields #[.ref tu,.int 0 0] }).objs.size=s.heap.objs.size+1:=Heap.size_push ..
 show _/\_
 rw[sz]
 have isE:IsEnum ((s.heap.push { cls:=.type "list_iterator", data:=.fields #[.ref tu,.int 0 0] }).push { cls:=.type "enumerate", data:=.fields #[.none,.bool false,.ref s.heap.objs.size,rawInt 1,.none,.none] }) (s.heap.objs.size+1) s.heap.objs.size 1 .none:=by
  have q:=Heap.get?_push_size (s.heap.push { cls:=.type "list_iterator", data:=.fields #[.ref tu,.int 0 0] }) (o:={ cls:=.type "enumerate", data:=.fields #[.none,.bool false,.ref s.heap.objs.size,rawInt 1,.none,.none] }) rfl
  rw[sz]at q;exact q
 refine⟨⟨_,isE,rfl⟩,go _ isE ⟨_,Heap.get?_push_of_some _ (Heap.get?_push_size _ rfl),rfl,rfl⟩ (by rw[Heap.size_push,sz]) fun b o z=>Heap.get?_push_of_some _ (Heap.get?_push_of_some _ z)⟩
theorem ES{e:Addr}{x:Value}{Q:Option Value->Shared->Prop}(isE:IsEnum s.heap e it ((i+1:Nat):Int) old)(hIt:s.heap.IsListIter it tu i)(hT:s.heap.IsList tu vs)(hx:vs[i]?=some x)(hne:e≠it)
  (go:∀h1,IsEnumOut h1 e it (((i+1:Nat):Int)+1) x s.heap.objs.size->h1.IsListIter it tu (i+1)->h1.get? s.heap.objs.size=some { cls:=.type "tuple", data:=.seq #[.int ((i+1:Nat):Int) s.toks,x] }->(∀b o,b≠e->b≠it->s.heap.get? b=some o->h1.get? b=some o)->Q (some (.ref s.heap.objs.size)) { s with heap:=h1,toks:=s.toks+1 }) :
  wpAny (model prog w) A (pyNext (.ref e)) Q E s:=by
 have tyE:s.TypeIs (.ref e) "enumerate" := ⟨_,isE,rfl⟩
 unfold pyNext
 refine wpAny_bind (wpAny_attempt (wpAny_callSpecial?_slot (name:=Str.ofString "__next__") tyE F.slot_enumerate_next (wpAny_call_entry F.slot_enumerate_next tyE F.entry_enumerate_next ?_ (F.args_enumerate_next_1 _))))
 exact EY (Kn:=fun h1=>h1.IsListIter it tu (i+1)) isE hne (fun h1 h2 k hk=>k.at hk) (fun Q1 q1=>wpAny_nextOf_list_item hIt hT hx q1) fun h1 a b c d=>wpAny_pure (go h1 a b c d)
theorem IF{e:Addr}{c:Int}{Q:Option Value->Shared->Prop}(hh:A.handled=none)(isE:IsEnum s.heap e it c old)(hIt:s.heap.IsListIter it tu i)(hT:s.heap.IsList tu vs)(hx:vs[i]?=none)
  (go:∀h1,Heap.ExtBut it s.heap h1->Q none { s with heap:=h1 }):wpAny (model prog w) A (pyNext (.ref e)) Q E s:=by
 have tyE:s.TypeIs (.ref e) "enumerate" := ⟨_,isE,rfl⟩
 unfold pyNext
 refine wpAny_bind (wpAny_attempt (wpAny_callSpecial?_slot (name:=Str.ofString "__next__") tyE F.slot_enumerate_next (wpAny_call_entry F.slot_enumerate_next tyE F.entry_enumerate_next ?_ (F.args_enumerate_next_1 _))))
 show wpAny _ _ (field (.ref e) 2 >>= _) _ _ _
 refine wpAny_bind (wpAny_field isE rfl (x:=Value.ref it) rfl (wpAny_bind (wpAny_nextOf_list_end hh hIt hT hx fun h1 xx eb hx'=>?_)))
 obtain⟨o,ho,hc⟩:=hx'
 exact wpAny_bind (wpAny_isInstance (T := "StopIteration") (b:=true) ⟨o,ho,hc⟩ isSubtype_stop (wpAny_pure (go _ eb)))
end
def Q0(K:W.Frag)(a:Addr):It :=
 ⟨fun i H => ∃xs x,cm K H a xs/\xs[i]?=some x,fun i H x H' => ∃p v,x=.ref p/\H p=none/\H'=aM H p (.tup [.int ((i+1:Nat):Int),v])/\∀xs,cm K H a xs->xs[i]?=some v,fun i H => ∃xs,cm K H a xs/\xs.length<=i⟩
theorem wa(a e it:Addr)(hne:e≠it) :
  L2.Turn P w K (.Tuple es n1 pos) (Q0 K a) [e,it] e (fun i h=>(∃old,IsEnum h e it ((i+1:Nat):Int) old)/\h.IsListIter it a i) where
 mem:=by simp
 obj:=fun i h st b hb=>by
  obtain⟨⟨old,q⟩,o,q2,c,d⟩:=st
  rcases List.mem_cons.mp hb with rfl|hb
  ·exact⟨_,q,fun v z=>by have z':Data.fields _=Data.cell v:=z;cases z'⟩
  ·have eb:b=it:=by simpa using hb
   subst eb
   exact⟨o,q2,fun v z=>by rw[d]at z;cases z⟩
 keep:=fun i h h' st k=>⟨let ⟨old,q⟩:=st.1;⟨old,k e (by simp) _ q⟩,st.2.at fun o q=>k it (by simp) o q⟩
 item:=by
  intro Y hP hw hK hc i pins s σ H E I hf st hg
  subst hP hw hK
  obtain⟨xs,x,hq,hx⟩:=hg
  obtain⟨its,rv,p,hz⟩:=I.list hq
  obtain⟨u,hu,ru⟩:=rv.get hx
  obtain⟨⟨old,isE⟩,hIt⟩:=st
  refine ES isE hIt (show s.heap.IsList a its.toArray from p.isList) (x:=u) (by simpa using hu) hne fun h1 eo it1 t1 k1=>?_
  refine⟨_,rfl,wpAny_letOwnedTupleGo_enum eo fun h2 e2 sb2=>?_⟩
  have sb2':Heap.SameBut e h1 h2:=sb2
  have elt:e<s.heap.objs.size:=Heap.lt_size isE
  have k2:∀b o,b∉[e,it]->s.heap.get? b=some o->h2.get? b=some o:=fun b o nb q=>by
   have n1:b≠e:=fun z=>nb (by simp[z])
   have n2:b≠it:=fun z=>nb (by simp[z])
   exact sb2'.extBut b o n1 (k1 b o n1 n2 q)
  have t2:h2.get? s.heap.objs.size=some { cls:=.type "tuple", data:=.seq #[.int ((i+1:Nat):Int) s.toks,u] }:=sb2'.extBut _ _ (Nat.ne_of_gt elt) t1
  have hn0:H s.heap.objs.size=none:=I.hok.fresh (Nat.le_refl _)
  refine⟨.ref s.heap.objs.size,aM H s.heap.objs.size (.tup [.int ((i+1:Nat):Int),x]),zc (s:=s) (h2:=h2) (t2:=s.toks+1) I k2 (Nat.le_refl _) hf ?_,rfl,⟨_,x,rfl,hn0,rfl,fun ys hy=>by rw[I.list_inj hy hq];exact hx⟩,⟨⟨u,?_⟩,it1.at fun o q=>sb2'.extBut it o (Ne.symm hne) q⟩,fun b hb=>?_⟩
  ·exact⟨by show 2<=sizeLine;decide,[.int ((i+1:Nat):Int) s.toks,u],.cons ⟨_,rfl⟩ (.cons ru .nil),⟨_,t2,rfl,_,rfl⟩⟩
  ·have q:=e2
   rw[show((i+1:Nat):Int)+1=((i+1+1:Nat):Int) by omega]at q
   exact q
  ·have hb':=hf b hb
   have lt:b<s.heap.objs.size:=by
    rcases List.mem_cons.mp hb with rfl|hb
    ·exact elt
    ·have eb:b=it:=by simpa using hb
     subst eb
     obtain⟨o,q,_⟩:=hIt
     exact Heap.lt_size q
   rw[ay (Nat.ne_of_lt lt)];exact hb'.1
 done:=by
  intro Y hP hw hK hc i pins s σ H E I hf st hg
  subst hP hw hK
  obtain⟨xs,hq,hx⟩:=hg
  obtain⟨its,rv,p,hz⟩:=I.list hq
  obtain⟨⟨old,isE⟩,hIt⟩:=st
  obtain⟨f0,f1,f2,f3,f4,f5⟩:=hf it (by simp)
  have hl:=rv.length
  exact IF (I.ok.hd hc) isE hIt (show s.heap.IsList a its.toArray from p.isList) (by simp;omega) fun h1 eb=>⟨rfl,I.turned (t':=s.toks) (fun b o hb q=>eb b o hb q) f0 f1 f3 f4 f5⟩
 self:=fun _ _ _ _ _ st h=>let ⟨old,q⟩:=st.1;wpAny_pyIter_enum q h
section
variable{M:Model}{A:Around}{E:Value->Shared->Prop}{s:Shared}{env:Env}
theorem Ki{rest:List Expr}{kws:List Keyword}
  (h:wpAny M A (spliced (backTo pos (starEach (e::rest) env))) (fun vs s1=>wpAny M A (evalAll ((backToKw pos (keywordEach kws env)).map (·.2))) (fun ks s2=>wpAny M A (call (.type T) vs (((backToKw pos (keywordEach kws env)).filterMap (·.1)).zip ks)) Q E s2) E s1) E s)
  (he:backTo pos (starEach (e::rest) env)=(false,eval e env)::backTo pos (starEach rest env)) (hp:(backTo pos (starEach (e::rest) env)).any (·.1)=false)
  (ha:(backToKw pos (keywordEach kws env)).all (·.1.isSome)=true:=by rfl) (hk:(backToKw pos (keywordEach kws env)).any (·.1.isNone)=false:=by rfl) :
  wpAny M A (callWith pos (.type T) [] (backTo pos (starEach (e::rest) env)) (backToKw pos (keywordEach kws env))) Q E s:=by
 have key:wpAny M A (evalArgs (.type T) true (backTo pos (starEach (e::rest) env)) (backToKw pos (keywordEach kws env))) (fun a s1=>wpAny M A (call (.type T) ([]++a.pos) a.kw) Q E s1) E s:=by
  rw[he]at h⊢
  exact evalArgs_kwB ha h
 unfold callWith
 refine wpAny_bind (wpAny_holding (aG key fun a s1 h1=>wpAny_bind (wpAny_standAt ?_)))
 simp only[hp,hk,Bool.or_false]
 exact wpAny_bind (wpAny_pure (wpAny_bind (aG h1 fun r s2 hr=>wpAny_bind (wpAny_holding (wpAny_point (wpAny_pure hr))))))
end
theorem tF{n0:Nat}{tp p0 kp:Pos}{l:List D}(hg:Gl X "enumerate")(hm0:X.mg "enumerate" = none)(ha:AD X ρ [a] [.lst l] k)(hst:∀y p,a ≠ .Starred y p)(hf:ax l=true) :
  IE X ρ (.Tuple es n1 tp) (.Call (.Name "enumerate" p) [a] [⟨some lZ,.Constant (.int 1) n0 p0,kp⟩] pos) (l.mapIdx fun i x=>.tup [.int ((i+1:Nat):Int),x]) k:=by
 intro ow pins s σ H R I ⟨E,q⟩
 have n2:=aD (env:=X.env) (es:=[]) hst
 have key:∀(us:List Value) (s1:Shared) (t:Tok),(∃vs H1,ah X pins σ H1 s1/\aL vs us/\aw H H1/\ai X.K H1 (Kp ow H k) [.lst l] vs)->wpAny (model X.prog X.w) X.A (call (.type "enumerate") us [(lZ,.int 1 t)]) (fun v s2=>wpAny (model X.prog X.w) X.A (pyIter v) (J8 X pins σ (.Tuple es n1 tp) R) X.xe s2) X.xe s1:=by
  rintro us s1 t ⟨vs,H1,I1,rv,sm,rp⟩
  obtain⟨v,rfl,rv1⟩:=rp.only
  obtain⟨ta,xs,rfl,hq,rl,hk1⟩:=F9 (κ:=false) rv1
  replace hq:cm X.K H1 ta xs:=hq
  obtain⟨u,rfl,ru⟩:=dl rv
  cases (show u=Value.ref ta from ru)
  obtain⟨its,rvs,pt,hz⟩:=I1.list hq
  refine Bg (show s1.heap.IsList ta its.toArray from pt.isList) fun h2 isE hIt sz k2=>?_
  refine wpAny_pyIter_enum isE ?_
  have I2:ah X pins σ H1 { s1 with heap:=h2 }:=I1.kept (t':=s1.toks) k2
  have f0:H1 s1.heap.objs.size=none:=I1.hok.fresh (Nat.le_refl _)
  have f1:H1 (s1.heap.objs.size+1)=none:=I1.hok.fresh (Nat.le_succ _)
  refine⟨s1.heap.objs.size+1,[s1.heap.objs.size+1,s1.heap.objs.size],_,_,H1,rfl,I2,wa ta _ _ (Nat.ne_of_gt (Nat.lt_succ_self _)),⟨⟨_,isE⟩,hIt⟩,fun b hb=>?_,q _ H1 sm ?_⟩
  ·rcases List.mem_cons.mp hb with rfl|hb
   ·exact I1.fpOk (Nat.le_succ _) f1
   ·have eb:b=s1.heap.objs.size:=by simpa using hb
    subst eb
    exact I1.fpOk (Nat.le_refl _) f0
  ·intro i H2 st
   have rl':ai X.K H1 (Kd ow H k H1) l xs:=rl.flat _ hf
   refine⟨fun d hd=>?_,fun hle=>?_⟩
   ·rw[List.getElem?_mapIdx]at hd
    cases e:l[i]? with
    | none=>rw[e]at hd;cases hd
    | some x =>
     rw[e]at hd;cases hd
     obtain⟨y,hy,ry⟩:=rl'.get e
     refine⟨⟨xs,y,hk1 st,hy⟩,fun x' H3 ⟨p',v',e1,e2,e3,e4⟩=>?_⟩
     have hv:=e4 xs (hk1 st)
     rw[hy]at hv;cases hv
     subst e1 e3
     have sm3:=cQ (o:=HO.tup [.int ((i+1:Nat):Int),y]) e2
     refine⟨sm3,?_⟩
     rw[af]
     exact⟨p',_,rfl,cZ.of aI,ai.cons (by rw[af]) (ai.one ((ry.mono st).same sm3))⟩
   ·rw[List.length_mapIdx]at hle
    exact⟨xs,hk1 st,by rw[<- rl.length];exact hle⟩
 refine wpAny_Call_Name_kw (jz I hg hm0 (show bootBuiltins "enumerate" = some (.type "enumerate") by decide +kernel) ?_ (by decide +kernel) (by decide +kernel))
 exact Ki (kws:=[⟨some lZ,.Constant (.int 1) n0 p0,kp⟩]) (aG (ha ow pos pins s σ H (fun vs H1=>aw H H1/\ai X.K H1 (Kp ow H k) [.lst l] vs) I ⟨E,fun vs H1 s1 r1=>⟨s1,r1⟩⟩) fun us s1 ⟨vs,H1,I1,rv,sm,rp⟩=>kws_cons (wpAny_Constant_int (kws_nil (key us _ _ ⟨vs,H1,I1.tok _,rv,sm,rp⟩)))) (by rw[n2];rfl) (bG fun x hx=>by rw[List.mem_singleton.mp hx];exact hst)
def iN(P:Program)(w:World)(K:W.Frag)(mg:Str->Option Value)(d:Str)(kvs:List (Str×Int)):Prop:=∃a,mg d=some (.ref a)/\(a==sysModules)=false/\(d==("__debug__" : Str))=false/\∀h:Heap,K.In h->∃f,Heap.MapOf (strKind P w) h a f/\∀x,(kvs.lookup x=none->f x=none)/\∀i,kvs.lookup x=some i->∃t,f x=some (.int i t)
def jD(P:Params):List (Str×Int)->List (Tok×Tok)->List DictEntry
 | (x,i)::l,(t,u)::ts=>⟨PyData.keyHash P x,.str x t,.int i u⟩::jD P l ts
 | _,_=>[]
theorem vS{P:Program}{w:World}:∀(l:List (Str×Int)) (ts:List (Tok×Tok)),∀e∈jD w.params l ts,∃k,(strKind P w).is k e.key=true/\e.hash=(strKind P w).hash k
 | (x,i)::l,(t,u)::ts,e,h=>by
  rcases List.mem_cons.mp h with rfl|h
  ·exact⟨x,by show Value.isStrOf x (.str x t)=true;simp[Value.isStrOf],rfl⟩
  ·exact vS l ts e h
 | [],_,e,h=>by unfold jD at h;cases h
 | _::_,[],e,h=>by unfold jD at h;cases h
theorem vT{P:Params}:∀(l:List (Str×Int)) (ts:List (Tok×Tok)) (x:Str),l.length=ts.length->(l.lookup x=none->(jD P l ts).find? (fun e=>Value.isStrOf x e.key)=none)/\∀i,l.lookup x=some i->∃e t,(jD P l ts).find? (fun e=>Value.isStrOf x e.key)=some e/\e.val=.int i t
 | [],[],x,_=>⟨fun _=>rfl,fun i h=>by cases h⟩
 | (y,j)::l,(t,u)::ts,x,hl=>by
  obtain⟨h1,h2⟩:=vT (P:=P) l ts x (by simpa using hl)
  have hd:Value.isStrOf x (.str y t)=decide (y=x):=by
   by_cases e:y=x
   ·subst e;rw[decide_eq_true rfl];simp[Value.isStrOf]
   ·rw[decide_eq_false e];simp[Value.isStrOf,e]
  rw[List.lookup_cons]
  by_cases e:y=x
  ·subst e
   rw[beq_self_eq_true]
   refine⟨(fun z=>by cases z),fun i z=>?_⟩
   cases z
   exact⟨_,u,by rw[jD,List.find?_cons,show Value.isStrOf y (.str y t)=true by rw[hd,decide_eq_true rfl]],rfl⟩
  ·have eb:(x==y)=false:=by
    rw[beq_eq_false_iff_ne];exact fun z=>e z.symm
   rw[eb]
   refine⟨fun z=>?_,fun i z=>?_⟩
   ·rw[jD,List.find?_cons,show Value.isStrOf x (.str y t)=false by rw[hd,decide_eq_false e]]
    exact h1 z
   ·obtain⟨e',t',h3,h4⟩:=h2 i z
    exact⟨e',t',by rw[jD,List.find?_cons,show Value.isStrOf x (.str y t)=false by rw[hd,decide_eq_false e]];exact h3,h4⟩
 | [],_::_,x,hl=>by cases hl
 | _::_,[],x,hl=>by cases hl
theorem CK{a:Addr}{ts:List (Tok×Tok)}{n:Nat}(hm:mg d=some (.ref a))(hs:(a==sysModules)=false)(hd:(d==("__debug__" : Str))=false)(hl:kvs.length=ts.length)
  (hk:K.lookup a=some { cls:=.type "dict", dict:=none,data:=.dict (jD w.params kvs ts).toArray n,slots:=#[] }):iN P w K mg d kvs:=by
 refine⟨a,hm,hs,hd,fun h X=>⟨fun x=>findBy (strKind P w).is (jD w.params kvs ts).toArray x,⟨_,_,n,X a _ hk,⟨rfl,rfl,rfl⟩,rfl,fun e he=>vS kvs ts e (by simpa using he),fun _=>rfl⟩,fun x=>?_⟩⟩
 obtain⟨h1,h2⟩:=vT (P:=w.params) kvs ts x hl
 have e0:findBy (strKind P w).is (jD w.params kvs ts).toArray x=((jD w.params kvs ts).find? fun e=>Value.isStrOf x e.key).map (·.val):=by
  show Option.map _ (Array.find? _ _)=_
  rw[List.find?_toArray]
  rfl
 refine⟨fun z=>e0.trans (by rw[h1 z];rfl),fun i z=>?_⟩
 obtain⟨e,t,h3,h4⟩:=h2 i z
 exact⟨t,e0.trans (by rw[h3];exact congrArg some h4)⟩
theorem rV(D:iN X.prog X.w X.K X.mg d kvs)(hg:Gl X d)(he:ED X ρ e (.str x) k):TD X ρ (.Compare e [.NotIn] [.Name d p] q) (kvs.lookup x).isNone:=by
 obtain⟨a,hm,hs,hdb,hf⟩:=D
 have op:cv X (compareOp .NotIn) (fun v u H Q=>v=.str x/\u=.ref a/\Q (.bl (kvs.lookup x).isNone) H):=by
  intro pins s σ H v u xv yu Q I rv ru ⟨e1,e2,q⟩
  subst e1 e2
  obtain⟨t,rfl⟩:=rv
  cases ru
  obtain⟨f,mo,hx⟩:=hf s.heap I.kIn
  refine wpAny_notIn_of (knd:=strKind X.prog X.w) (k:=x) (by show Value.isStrOf x (.str x t)=true;simp[Value.isStrOf]) hs mo ?_
  have e:(!(f x).isSome)=(kvs.lookup x).isNone:=by
   cases z:kvs.lookup x with
   | none=>rw[(hx x).1 z];rfl
   | some i=>obtain⟨t,ht⟩:=(hx x).2 i z;rw[ht];rfl
  rw[e]
  exact⟨.bl _,H,I.tok _,rfl,q⟩
 intro ow
 refine rH (DL op (he ow) (pd (v:=.ref a) hg hm rfl hdb) rfl) fun σ H Q ⟨E,q⟩=>⟨E,fun v H1 s1 r1=>?_⟩
 rw[af]at r1
 exact⟨r1,rfl,_,rfl,q H1 s1⟩
theorem vR{i:Int}(D:iN X.prog X.w X.K X.mg d kvs)(hg:Gl X d)(he:ED X ρ e (.str x) k)(hs:eg e)(hx:kvs.lookup x=some i):ED X ρ (.Subscript (.Name d p) e q) (.int i) 0:=by
 obtain⟨a,hm,hs',hdb,hf⟩:=D
 have op:Db X (fun v u H Q=>v=.ref a/\u=.str x/\Q (.int i) H):=by
  intro value slice pins s σ H v u xv yu Q I rv ru ⟨e1,e2,q⟩ hsub
  subst e1 e2
  obtain⟨t,rfl⟩:=ru
  cases rv
  obtain⟨f,mo,hx'⟩:=hf s.heap I.kIn
  obtain⟨t',ht⟩:=(hx' x).2 i hx
  obtain⟨o,es,ep,m1,m2,m3⟩:=id mo
  exact subscriptTail_builtinR (x:=.int i t') ⟨o,m1,m2.1⟩ PySem.F.slot_dict_getitem.lookup (wpAny_getItem_of (knd:=strKind X.prog X.w) (k:=x) (Q:=fun r s'=>r=.int i t'/\EP X pins σ Q r s') (by show Value.isStrOf x (.str x t)=true;simp[Value.isStrOf]) mo ht ⟨rfl,.int i,H,I.tok _,⟨_,rfl⟩,q⟩) hsub
 intro ow
 refine bC (wz op (pd (v:=.ref a) hg hm rfl hdb) (he ow) hs) fun σ H Q ⟨E,q⟩=>⟨E,fun v H1 s1 r1=>?_⟩
 rw[af]at r1
 exact⟨rfl,r1,q _ H1 s1 (by rw[af])⟩
theorem IK{b:Expr}{z:Str}{i:Int}{c:Nat}{j:Nat}(ha:ED X ρ a (.str z) k)(hb:ED X ρ b (.int i) j)(hs:eg b)(h0:0<=i)(h6:i<2 ^ 63)(h1:i<z.length)(hc:z.cps[i.toNat]?=some c):ED X ρ (.Subscript a b pos) (.str ⟨#[c]⟩) 0:=by
 intro ow
 refine bC (uF (ha ow) (hb ow) hs) fun σ H Q ⟨E,q⟩=>⟨E,fun v H1 s1 r1=>⟨E.same s1,fun u H2 s2 r2=>?_⟩⟩
 rw[af]at r1
 rw[af]at r2
 subst r1 r2
 exact⟨z,i,c,rfl,rfl,h0,h6,h1,hc,q _ H2 (s1.trans s2) (by rw[af])⟩
abbrev ji:=Str->Option (List (Str×Int))
inductive uy(Φ:Fx)(sc:Scope)(tg:Expr)(body:List Stmt):List D->ae->ae->Prop where
 | nil {ρ:ae}:uy Φ sc tg body [] ρ ρ
 | cons {d:D} {ds:List D} {ρ ρ1 ρ2 ρ3:ae} (hb:bF sc tg d ρ=some ρ1) (h:ac (az Φ body sc ρ1) (.nx ρ2)) (k:uy Φ sc tg body ds ρ2 ρ3):uy Φ sc tg body (d::ds) ρ ρ3
theorem zq{ds:List D}{ρ':ae}(G:aO Φ X sc)(hp:PassesOwn (model X.prog X.w) X.A X.env X.xe)(h:uy Φ sc tg body ds ρ ρ'):qT X H0 tg body ds ρ (.nx ρ'):=by
 induction h with
 | nil=>exact rfl
 | cons hb h k ih=>exact⟨_,rB G hb,.inl ⟨_,gK _ h G hp,ih⟩⟩
inductive Rb(Φ:Fx)(sc:Scope)(ss:List Stmt)(ρ:ae)(fl:Fl):Prop where
 | base (h:ac (az Φ ss sc ρ) fl):Rb Φ sc ss ρ fl
inductive Rd(Φ:Fx)(Δ:ji)(sc:Scope):List Stmt->ae->Fl->Prop where
 | rf {ss:List Stmt} {ρ:ae} {fl:Fl} (h:Rb Φ sc ss ρ fl):Rd Φ Δ sc ss ρ fl
 | cut (n:Nat) {ss:List Stmt} {ρ ρ1:ae} {fl:Fl} (h:ac (az Φ (ss.take n) sc ρ) (.nx ρ1)) (k:Rd Φ Δ sc (ss.drop n) ρ1 fl):Rd Φ Δ sc ss ρ fl
 | ifK {e:Expr} {x d:Str} {kvs:List (Str×Int)} {k:Nat} {p q pos:Pos} {a b ss:List Stmt} {ρ ρ1:ae} {t:Bool} {fl:Fl} (hΔ:Δ d=some kvs) (he:ac (au Φ e false sc ρ) (.str x,k)) (ht:(kvs.lookup x).isNone=t) (gd:sc.names.lookup d=some .globalImplicit) (h:Rd Φ Δ sc (cond t a b) ρ (.nx ρ1)) (k:Rd Φ Δ sc ss ρ1 fl) :
  Rd Φ Δ sc (.If (.Compare e [.NotIn] [.Name d p] q) a b pos::ss) ρ fl
 | setK {e:Expr} {x d y:Str} {kvs:List (Str×Int)} {i c:Int} {k n:Nat} {p p1 p2 p3 py q:Pos} {ss:List Stmt} {ρ:ae} {fl:Fl} (hΔ:Δ d=some kvs) (he:ac (au Φ e false sc ρ) (.str x,k)) (hs:eg e) (hv:kvs.lookup x=some i) (gd:sc.names.lookup d=some .globalImplicit) (hy:ck sc y=true) (k:Rd Φ Δ sc ss (bz ρ y (.int (i+c),true)) fl) :
  Rd Φ Δ sc (.Assign [.Name y py] (.BinOp (.Subscript (.Name d p) e p1) .Add (.Constant (.int c) n p2) p3) q::ss) ρ fl
 | forE {es:List Expr} {n1 n0:Nat} {tp p pos ep p0 kp:Pos} {e:Expr} {f:Str} {body ss:List Stmt} {ρ ρ1:ae} {l:List D} {k:Nat} {fl:Fl} (he:ac (bi Φ [e] sc (demL [e] ρ)) ([.lst l],k)) (hl:ax l=true) (hk:k<=1) (hf:f = "enumerate") (gf:sc.names.lookup f=some .globalImplicit) (h:uy Φ sc (.Tuple es n1 tp) body (fh 1 l) (demL [e] ρ) ρ1) (k:Rd Φ Δ sc ss ρ1 fl) :
  Rd Φ Δ sc (.For (.Tuple es n1 tp) (.Call (.Name f p) [e] [⟨some lZ,.Constant (.int 1) n0 p0,kp⟩] ep) body [] pos::ss) ρ fl
theorem KD{Δ:ji}{fl:Fl}(G:aO Φ X sc)(hp:PassesOwn (model X.prog X.w) X.A X.env X.xe)(hD:∀d kvs,Δ d=some kvs->iN X.prog X.w X.K X.mg d kvs)(h:Rd Φ Δ sc ss ρ fl):fR X H0 ρ ss fl:=by
 induction h with
 | rf h =>
  rename_i ss ρ fl
  cases h with|base h=>exact gK _ h G hp
 | cut n h k ih =>
  rename_i ss ρ ρ1 fl
  rw[<- List.take_append_drop n ss];exact o3 G hp h ih
 | ifK hΔ he ht gd h k i1 i2 =>
  rename_i e x d kvs k p q pos a b ss ρ ρ1 t fl
  refine eM (wt (ht ▸ rV (hD _ _ hΔ) (G.gl _ gd) ((bE he G).ed rfl)) ?_) i2
  cases t with
  | true=>rw[if_pos rfl];exact i1
  | false=>rw[if_neg Bool.false_ne_true];exact i1
 | setK hΔ he hs hv gd hy k ih =>
  rename_i e x d y kvs i c k n p p1 p2 p3 py q ss ρ fl
  exact eM (kG G hy (oh (vR (hD _ _ hΔ) (G.gl _ gd) ((bE he G).ed rfl) hs hv) (tS rfl) (show iK .Add (.int _) (.int _) 0 0=.ok (.int _,0) []from rfl) True.intro) (.inl ⟨rfl,rfl⟩) (d9 rfl)) ih
 | forE he hl hk hf gf h k ih =>
  rename_i es n1 n0 tp p pos ep p0 kp e f body ss ρ ρ1 l k' fl
  subst hf
  obtain⟨l7,h7,p7⟩:=he
  obtain⟨hst,_⟩:=b9 h7 p7
  have hI:=tF (X:=X) (es:=es) (n1:=n1) (n0:=n0) (tp:=tp) (p:=p) (pos:=ep) (p0:=p0) (kp:=kp) (G.gl _ gf) (G.bl _ (by decide +kernel)) (gM [e] h7 p7 G) (hst e List.mem_cons_self) hl
  have el:(l.mapIdx fun i x=>D.tup [.int ((i+1:Nat):Int),x])=fh 1 l:=by
   rw[pL]
   congr 1
   funext i x
   rw[Nat.add_comm]
  rw[el]at hI
  exact eM (DE hp G.calm hI hk (zq G hp h) fun x=>rfl) ih
theorem ld{l:List (Str×List (Str×Int))}(h:∀q∈l,iN P w K mg q.1 q.2):∀d kvs,(fun d:Str=>l.lookup d) d=some kvs->iN P w K mg d kvs:=fun d kvs e=>h (d,kvs) (PySem.mem_of_lookup e)
def xr(Φ:Fx)(Δ:ji)(sc:Scope)(ps:List Str)(ss:List Stmt)(ds:List D)(r:D):Prop:=ds.length=ps.length/\Rd Φ Δ sc ss (bI ps ds) (.rt r)
theorem vM{base:Heap}{g qual:Str}{st:Stmt}{f:Addr}{fd:FuncData}{ps:List Str}{Δ:ji}{F:List D->Rs D}(Fn:gq K g qual st f fd)
  (S:aF (al (aa st)) ps (aa st)) (hΦ:iX P w K mg base k Φ) (hD:∀d kvs,Δ d=some kvs->iN P w K mg d kvs) (hrun:∀ds r,ac (F ds) r->xr Φ Δ (aa st) ps (ak st) ds r):aZ P w K mg base cj (k+1) f fd ps (jo K F):=by
 refine Fn.ok S (fun vs H Q E h=>?_) (fun cdv A outer s H vs Q E hr h=>?_)
 ·obtain⟨ds,r,l,h1,h2,hp,_⟩:=h
  rw[<- h1.length]
  exact(hrun ds r ⟨l,h2,hp⟩).1
 ·obtain⟨ds,r,l,h1,h2,hp,qq⟩:=h
  obtain⟨hl,hr'⟩:=hrun ds r ⟨l,h2,hp⟩
  have G:=ff (outer:=outer) (H:=H) (E:=E) S hΦ hr
  obtain⟨E0,hsl⟩:=gc (P:=P) (w:=w) (mg:=mg) (base:=base) (qual:=qual) (f:=f) (cdv:=cdv) (A:=A) (outer:=outer) (s:=s) (E:=E) S h1 hl
  have B0:bL H (fun _=>none) H:=fun a o h=>⟨h,rfl⟩
  exact⟨_,KD (H0:=H) G PassesOwn.never hD hr',fun _=>none,E0,hsl,B0,fun v H' sm rp=>qq v H' sm rp⟩
end Sp
namespace L2
open PySem PySem.Spec PyProof.Rows
section
variable{X:Cx}{pins:List (Addr×Obj)}{σ:St}{H H':Hp}{s:Shared}
abbrev Aj:=Str×Pos×Str×List Stmt×Pos
def yp(q:Aj):ExceptHandler:=.ExceptHandler (some (.Name q.1 q.2.1)) (some q.2.2.1) q.2.2.2.1 q.2.2.2.2
def BM(X:Cx)(C:Addr)(q:Aj):Prop:=∃C1,Gl X q.1/\X.mg q.1=some (.ref C1)/\(q.1==("__debug__" : Str))=false/\W.exmOne X.K (.ref C) (.ref C1)=some false
theorem su{x C:Addr}{ox:Obj}{rest:List ExceptHandler}{Q:Flow->Shared->Prop}(J2:ah X pins σ H s)(ex1:s.heap.get? x=some ox)(ex2:ox.cls=.ref C):∀(sk:List Aj),(∀q∈sk,BM X C q) ->
  wpAny (model X.prog X.w) X.A (handleBy (.ref x) X.env rest) Q X.xe s->wpAny (model X.prog X.w) X.A (handleBy (.ref x) X.env (sk.map yp++rest)) Q X.xe s
 | [],_,h=>h
 | q::sk,hs,h=>by
  obtain⟨C1,g1,g2,g3,g4⟩:=hs q List.mem_cons_self
  refine wpAny_handleBy_cons ?_ (by intro z;cases z)
  refine codeAny_handlers_test ?_
  refine cJ (X:=X.mark (.ref x)) (J2.mark (.ref x)) g1 g2 ?_ g3
  refine W.Looks.at (W.exm_one J2.kIn (im ex1 ex2 _) g4) ?_
  exact su J2 ex1 ex2 sk (fun p hp=>hs p (List.mem_cons_of_mem _ hp)) h
theorem Fk{E:XK}{e:Value}{s':Shared}{D:jh}{B n:Str}{ie:Nat}{C0:Addr}{bp hpos:Pos}{b0:Stmt}{body:List Stmt}{more:List ExceptHandler}(sk:List Aj)(I:ah X pins σ H s)(hs:X.stack=X.env::X.outer)(hN:X.N.Nodup)(c:bT X.prog X.w X.stack H s E e s')
  (hB:Gl X B) (hmB:X.mg B=some (.ref C0)) (hdb:(B==("__debug__" : Str))=false) (hie:X.N[ie]?=some n) (hen:X.env.scope.names.lookup n=some .local)
  (hE:∀C od H',E (.ref C) od H'->(∀q∈sk,BM X C q)/\W.exmOne X.K (.ref C) (.ref C0)=some true/\∀x,H' x=none->∃t,c5 (X.mark (.ref x)) (b0::body) t/\t ⟨fun σ' H''=>D.nx (σ'.set ie none) H'',fun _ _=>False,fun _ _=>False,fun _ _=>False⟩ (σ.set ie (some (.ref x))) (aM H' x (iV x C od))) :
  wpAny (model X.prog X.w) X.A (noteFrame e X.env) (fun _ s₂=>wpAny (model X.prog X.w) X.A (setFlight e none) (fun _ s₃=>wpAny (model X.prog X.w) X.A (handleBy e X.env (sk.map yp ++ .ExceptHandler (some (.Name B bp)) (some n) (b0::body) hpos::more)) (SP X pins D) X.xe s₃) X.xe s₂) X.xe s':=by
 obtain⟨x,C,T,od,H',rfl,hx,hT,t,ho,hg,u,hk,nx,nT,q⟩:=c
 have J:ah X pins σ H' s':=I.call' (ch:=[]) ho u hk hg (fun b z=>absurd z (by simp))
 have hfr:=I.frame hs
 have fs:X.A.frames=some (X.env::X.outer):=by rw[<- hs];exact I.ok.frames
 have hf:=J.stack
 rw[hs]at hf
 obtain⟨oe,vs,oT,ts,a0,e1,e2,e6,e3,e4,e5,f0,f1,f2,f3⟩:=id t
 have hsz:1<vs.size:=by
  rcases Nat.lt_or_ge 1 vs.size with z|z
  ·exact z
  ·rw[Array.getElem?_eq_none z]at e5;cases e5
 obtain⟨qs,qm,qn⟩:=hE C od H' q
 refine mO (C:=C) (od:=od) fs hf hfr e1 e2 e6 e3 hsz e4 (.inr ⟨T,oT,ts,e5,f0,f1,f2,f3⟩) fun h2 T2 k1 k2 nT2 tr=>?_
 have hidn:∀b∈x::T::bZ X.stack,H' b=none:=fun b hb=>by
  rcases List.mem_cons.mp hb with rfl|hb
  ·exact nx
  ·rcases List.mem_cons.mp hb with rfl|hb
   ·exact nT
   ·exact J.stkFree b hb
 have hidf:∀b o,s.heap.get? b=some o->b∈x::T::bZ X.stack->b∈bZ X.stack:=fun b o eb hb=>by
  rcases List.mem_cons.mp hb with rfl|hb
  ·rw[hx]at eb;cases eb
  ·rcases List.mem_cons.mp hb with rfl|hb
   ·rw[hT]at eb;cases eb
   ·exact hb
 have mkI:∀h3:Heap,gZ X (x::T::bZ X.stack) s'.heap h3->ah X pins σ H' { s' with heap:=h3 }:=fun h3 ov =>
  I.call' (s':={ s' with heap:=h3 }) (ch:=[]) ho (rO u hidf ov.keep ov.up) (pq hk hidn ov.keep) hg (fun b z=>absurd z (by simp))
 have ov2:gZ X (x::T::bZ X.stack) s'.heap h2:=⟨fun b o eb nb=>k1 b o eb (fun z=>nb (by rw[z];exact List.mem_cons_self)) (by rw[e5];intro z;injection z with z;injection z with z;exact nb (by rw[<- z];exact List.mem_cons_of_mem _ List.mem_cons_self)) (fun z=>nb (List.mem_cons_of_mem _ (List.mem_cons_of_mem _ (by rw[hs];exact z)))),fun b hb o eb=>k2 b (by rw[<- hs];exact hb) o eb⟩
 have J2:=mkI h2 ov2
 obtain⟨ox,vx,oU,us,a1,ex1,ex2,ex6,ex3,ex4,ex5,u0,u1,u2,u3⟩:=tr
 refine su J2 ex1 ex2 sk qs ?_
 refine wpAny_handleBy_cons ?_ (by intro z;cases z)
 refine codeAny_handlers_test ?_
 refine cJ (X:=X.mark (.ref x)) (J2.mark (.ref x)) hB hmB ?_ hdb
 refine W.Looks.at (W.exm_one J2.kIn (im ex1 ex2 _) qm) ?_
 show codeAny _ _ _ _ _
 refine codeAny_handlers_suite_as ?_
 have u4:3<us.size:=by
  rcases Nat.lt_or_ge 3 us.size with z|z
  ·exact z
  ·rw[Array.getElem?_eq_none z]at u3;cases u3
 have nT3:∀b o,s'.heap.get? b=some o->T2≠b:=fun b o eb z=>by rw[<- z,nT2]at eb;cases eb
 refine mR (s:={ s' with heap:=h2 }) ex1 ex3 ex5 u1 u2 u4 ?_
 obtain⟨h3,eh3⟩:∃h3,h2.update T2 (Obj.mapFields fun v=>v.setIfInBounds 3 .none)=h3:=⟨_,rfl⟩
 have oth:∀b,T2≠b->h3.get? b=h2.get? b:=fun b hb=>by rw[<- eh3];exact Heap.get?_update_other _ _ hb
 show wpAny _ _ _ _ _ { s' with heap:=h2.update T2 (Obj.mapFields fun v=>v.setIfInBounds 3 .none) }
 rw[eh3]
 have ov3:gZ X (x::T::bZ X.stack) s'.heap h3:=⟨fun b o eb nb=>(oth b (nT3 b o eb)).trans (ov2.keep b o eb nb),fun b hb o eb=>by
  obtain⟨sl,z⟩:=ov2.up b hb o eb
  exact⟨sl,(oth b (nT3 b o eb)).trans z⟩⟩
 have ey1:h3.get? x=some ox:=(oth x u0).trans ex1
 have J3:ah X pins σ (aM H' x (iV x C od)) { s' with heap:=h3 }:=by
  have u3:=rO u hidf ov3.keep ov3.up
  refine I.call' (s':={ s' with heap:=h3 }) (ch:=[]) ho ⟨u3.keep,u3.slot,fun b o eb n hb=>?_,u3.there,fun b xs eb=>?_,fun b o w eb=>?_,fun b ps eb=>?_⟩ (Kj (pq hk hidn ov3.keep) nx (Iy ey1 ex2 ex6 ex3)) hg (fun b z=>absurd z (by simp))
  ·have:b≠x:=fun z=>by rw[z,hx]at eb;cases eb
   rw[ay this];exact u3.free b o eb n hb
  ·have z:=u3.tups b xs eb
   rw[ay (aV z nx)];exact z
  ·have z:=u3.frzs b o w eb
   rw[ay (aV z nx)];exact z
  ·obtain⟨more,z⟩:=u3.tbls b ps eb
   exact⟨more,by rw[ay (aV z nx)];exact z⟩
 refine gu (X:=X) J3 hN hie (.inl hen) (v:=.ref x) rfl (fun s4 J4=>?_) (.inr hen)
 obtain⟨t,ps,ht⟩:=qn x nx
 refine wpAny_mono (ps pins s4 _ _ _ (J4.mark (.ref x)) ht) (fun f s5 hf=>?_) (fun _ _ z=>z.elim)
 cases f with
 | next =>
  obtain⟨σ',H'',J5,q5⟩:=hf
  refine EE (X:=X) (J5.unmark I.ok) hN hie hen fun s6 J6=>?_
  exact⟨_,_,J6,q5⟩
 | brk=>obtain⟨_,_,_,z⟩:=hf;exact z.elim
 | cont=>obtain⟨_,_,_,z⟩:=hf;exact z.elim
 | ret v=>obtain⟨_,_,_,_,_,z⟩:=hf;exact z.elim
end
end L2
namespace Sp
open PySem PySem.Spec PyProof.Rows L2
variable{mg:Str->Option Value}{K:W.Frag}{c g n p qual x y z:Str}{C C0 S f:Addr}{l:List (Str×Str×Option Str)}{P:Program}{w:World}{base:Heap}{ie k:Nat}{es:List Expr}{G:List D->Option Xs}{ps:List Str}{st:Stmt}{fd:FuncData}{Φ:Fx}{Ψ:Str->Option (List D->Option Xs)}{bp hpos p1 p2 p3 p4 p5 p6 p7 tpos:Pos}{Ex:Str->Option (Str×Option Str)}{Δ:ji}{sc:Scope}{H0:Hp}{Y:Cx}{fs:List (Str×Int)}{tb:List Stmt}{ρ:ae}{i:Int}{F:List D->Rs D}
variable{X:Cx}
def oW(n p:Str):List D->Option Bool
 | []=>some false
 | .xc m none::l=>(oW n p l).map fun b=>(decide (m=n) || decide (m=p)) || b
 | _=>none
def LW(n p:Str):D->Option Bool
 | .xc m none=>some (decide (m=n) || decide (m=p))
 | .typ T=>if T = "ValueError" then some true else none
 | .tup cs=>oW n p cs
 | _=>none
def Bz(ds:List D):R1 :=
 match ds with
 | [.xc n (some (p,_)),c]=>(match LW n p c with|some b=>.ok (.bl b,0) []|none=>.st)
 | ds=>BA ds
theorem Cv{K:W.Frag}{H:Hp}{P:bx}{n p:Str}{C S:Addr}(hn:W.nsIn K mainGlobals n=some (some (.ref C)))(hp:W.nsIn K mainGlobals p=some (some (.ref S)))(e:gr K C S):∀{cs:List D} {vs:List V} {us:List Value} {b:Bool},oW n p cs=some b->ai K H P cs vs->aL vs us->W.kitAny K (.ref C) us=some b
 | [],vs,us,b,h,r,q=>by
  rw[oW]at h;cases h
  rw[ai]at r;subst r;cases q;rfl
 | .xc m none::l,vs,us,b,h,r,q=>by
  rw[oW]at h
  cases hl:oW n p l with
  | none=>rw[hl]at h;cases h
  | some b' =>
   rw[hl]at h;cases h
   rw[ai]at r
   obtain⟨v,vr,rfl,r1,r2⟩:=r
   rw[af]at r1
   obtain⟨Cm,rfl,hm,hx⟩:=r1
   cases q with
   | cons q1 q2 =>
    cases q1
    have k1:=yZ e hn hp hm hx
    have k2:=Cv hn hp e hl r2 q2
    show(match W.kitOne K (.ref C) (.ref Cm)with|some true=>some true|some false=>W.kitAny K (.ref C) _|none=>none)=_
    rw[k1]
    cases hd:(decide (m=n) || decide (m=p))with
    | true=>rfl
    | false=>exact k2
theorem Fv:dC "isinstance" Bz:=by
 refine⟨by decide +kernel,by decide +kernel,by decide +kernel,rfl,fun X ds z l o hc h hp=>?_⟩
 unfold Bz at h
 split at h
 ·rename_i n p fs c
  split at h
  ·rename_i b hb
   cases h
   refine .inl ⟨"isinstance", by decide +kernel,?_⟩
   have cr:cP X (.builtin "isinstance") (fun xs H Q => ∃v w P,xs=[v,w]/\af X.K H P (.xc n (some (p,fs))) v/\af X.K H P c w/\Q (.bl b) H):=by
    intro pins s σ H xs us Q I r hh
    obtain⟨v,w,P,rfl,r1,r2,q⟩:=hh
    obtain⟨u,u2,rfl,ru,ru2⟩:=nk r
    rw[af]at r1
    obtain⟨x,C,S,od,rfl,h1,h2,h3,h4,_,_⟩:=r1
    cases ru
    have xo:JT x C s.heap:=let ⟨o,_,a,b,_⟩:=(show bU X.prog X.w H s.heap x (iV x C od)from I.hok x _ h4).1;⟨o,a,b⟩
    unfold LW at hb
    split at hb
    ·rename_i m
     cases hb
     rw[af]at r2
     obtain⟨Cm,rfl,hm,hx⟩:=r2
     cases ru2
     exact W.kia_one (mP h3) I.kIn xo (yZ h3 h1 h2 hm hx) (fun z=>nomatch z) fun tk=>⟨.bl _,H,I.tok tk,rfl,q⟩
    ·rename_i T
     split at hb
     ·rename_i hT
      subst hT
      cases hb
      rw[af]at r2
      subst r2
      cases ru2
      exact W.kia_one (mP h3) I.kIn xo (HD h3) (fun z=>nomatch z) fun tk=>⟨.bl _,H,I.tok tk,rfl,q⟩
     ·cases hb
    ·rename_i cs
     rw[af]at r2
     obtain⟨a,vs,rfl,sq,rl⟩:=r2
     cases ru2
     obtain⟨its,rv,⟨⟨c0,dd,data,sl⟩,e1,e2,n0,e3⟩,_⟩:=I.tuple sq
     simp only at e2 e3
     subst e2 e3
     exact W.kia_tup (mP h3) I.kIn xo e1 (Cv h1 h2 h3 hb rl rv) (fun z=>nomatch z) fun tk=>⟨.bl _,H,I.tok tk,rfl,q⟩
    ·cases hb
   refine⟨_,cr,fun ow H0 H2 vs P Q o s rx q=>?_⟩
   rw[ai]at rx
   obtain⟨v,r,rfl,r1,r2⟩:=rx
   obtain⟨w,rfl,r3⟩:=r2.only
   exact⟨v,w,P,rfl,r1,r3,q _ _ (aw.refl _) (by rw[af])⟩
  ·cases h
 ·exact Fw.2.2.2.2 X _ z l o hc h hp
theorem eT(hm:mg x=some (.ref C))(hn:W.nsIn K mainGlobals x=some (some (.ref C)))(hx:CY K x C):eu mg K (x,.xc x none) :=
 ⟨.ref C,.ref C,hm,rfl,fun H P=>by rw[af];exact⟨C,rfl,hn,hx⟩⟩
def fc(K:W.Frag)(n:Str)(C:Addr):Bool :=
 match K.lookup mainGlobals with
 | some ⟨_,_,.dict es _,_⟩=>es.toList.all fun e => !(e.val == .ref C) || (match e.key with | .str m _=>decide (m=n)|_=>false)
 | _=>false
def gz(K:W.Frag)(C:Addr):Bool :=
 match K.lookup C with
 | some ⟨.type t,_,.cls _,_⟩=>t == "type"
 | _=>false
theorem eJ(h1:fc K n C=true)(h2:gz K C=true):CY K n C:=by
 unfold gz at h2
 split at h2
 ·rename_i t d cd sl e
  have et:t = "type" := by simpa using h2
  subst et
  refine⟨?_,fun m hm=>?_,⟨_,e,rfl⟩⟩
  ·have c1:W.clsIn K C=some cd:=by unfold W.clsIn;rw[e]
   have c2:W.typeIn K (.ref C)=some (.type "type"):=by
    show Option.map (fun x=>x.cls) (List.lookup C K)=_
    rw[e];rfl
   rw[c1,c2];rfl
  ·unfold fc at h1
   unfold W.nsIn at hm
   split at h1
   ·rename_i a1 a2 es a3 a4 e1
    rw[e1]at hm
    dsimp only at hm
    split at hm
    ·rename_i x hf
     have hv:x.val=.ref C:=Option.some.inj (Option.some.inj hm)
     have hx:=List.mem_of_find?_eq_some hf
     have hk:x.key.isStr m=true:=List.find?_some (p:=fun x:DictEntry=>x.key.isStr m) hf
     have:=List.all_eq_true.mp h1 x hx
     rw[hv,show((Value.ref C==Value.ref C):Bool)=true by simp,Bool.not_true,Bool.false_or]at this
     cases hkk:x.key with
     | str k t =>
      rw[hkk]at this hk
      have a1:k=n:=of_decide_eq_true this
      have a2:k=m:=by simpa [Value.isStr]using hk
      rw[<- a2,a1]
     | _=>rw[hkk]at this;cases this
    ·split at hm<;>cases hm
   ·cases h1
 ·cases h2
abbrev JV(K:W.Frag):Str×Str×Option Str->Prop:=fun q => ∃C S,W.nsIn K mainGlobals q.1=some (some (.ref C))/\W.nsIn K mainGlobals q.2.1=some (some (.ref S))/\gr K C S/\W.exmOne K (.ref C) (.ref S)=some true/\∀f,q.2.2=some f->na K C f
theorem EN(h:∀q∈l,JV K q):BP K (fun c=>l.lookup c):=fun c p o e=>h (c,p,o) (PySem.mem_of_lookup e)
abbrev JU(P:Program)(w:World)(K:W.Frag)(mg:Str->Option Value)(base:Heap)(k:Nat):Str×Str×Option Str->Prop:=fun q => ∃C,W.nsIn K mainGlobals q.1=some (some (.ref C))/\(q.2.2=none->fC K C=none) /\
 ∀f,q.2.2=some f->∃j fI oI fd ps,j+1<=k/\fC K C=some (.ref fI)/\K.lookup fI=some oI/\oI.cls=.type "function" /\ W.keepIn K (.ref C)=true/\aZ P w K mg base cj j fI fd ps (se C f)/\bH K fd ps []
theorem Ix(h:∀q∈l,JU P w K mg base k q):Dh P w K mg base k (fun c=>l.lookup c):=fun c C hc =>
 ⟨fun p e=>by
  obtain⟨C',h1,h2,_⟩:=h (c,p,none) (PySem.mem_of_lookup e)
  rw[hc]at h1;cases h1;exact h2 rfl,fun p f e=>by
  obtain⟨C',h1,_,h3⟩:=h (c,p,some f) (PySem.mem_of_lookup e)
  rw[hc]at h1;cases h1;exact h3 f rfl⟩
abbrev iM(P:Program)(w:World)(K:W.Frag)(mg:Str->Option Value)(base:Heap)(k:Nat):Str×(List D->Option Xs)->Prop:=fun q=>fS P w K mg base k q.1 q.2
theorem fk{l:List (Str×(List D->Option Xs))}(h:∀q∈l,iM P w K mg base k q):∀g G,(fun g:Str=>l.lookup g) g=some G->fS P w K mg base k g G:=fun g G e=>h (g,G) (PySem.mem_of_lookup e)
def FS:Stmt->List Stmt
 | .Try b _ _ _ _=>b
 | _=>[]
def xz(Φ:Fx)(Ψ:Str->Option (List D->Option Xs))(sc:Scope)(s0 c:Expr)(u:Str)(es:List Expr)(ρ:ae)(r:Xs):Prop:=∃d0 kc0 d kc ds2 k2 Gu,ac (au Φ s0 false sc ρ) (d0,kc0)/\ac (au Φ c false sc ρ) (d,kc)/\ac (bi Φ es sc ρ) (ds2,k2)/\Ψ u=some Gu/\Gu ds2=some r
def wj:List Stmt->List Expr
 | [.Expr (.Call _ args _ _) _]=>args
 | _=>[]
def F1:List Stmt->List Expr
 | [.Expr (.Call _ (_::_ :: .Call _ es _ _::_) _ _) _]=>es
 | _=>[]
def Rk(es:List Expr):Bool:=es.all fun e=>match e with | .Starred _ _=>false|_=>true
theorem yM(h:Rk es=true):∀e∈es,∀y p,e ≠ .Starred y p:=fun e he y p z=>by
 have q:=List.all_eq_true.mp h e he
 subst z
 cases q
theorem Dw{ds:List D}{r:Xs}(h:sr g G ds=some r):∃l,ds=.obj g [] []::l/\G l=some r:=by
 unfold sr at h
 split at h
 ·split at h
  ·rename_i e;subst e;exact⟨_,rfl,h⟩
  ·cases h
 ·cases h
theorem o5{T:List D->Xs->Prop}(h:∀ds r,G ds=some r->ds.length+1=ps.length/\T (.obj g [] []::ds) r):∀ds r,sr g G ds=some r->ds.length=ps.length/\T ds r:=fun ds r q=>by
 obtain⟨l,rfl,q'⟩:=Dw q
 exact h l r q'
theorem tj{f0:Addr}{b u:Str}{mc:Value}{pb ap cp up uq:Pos}{s0 c e:Expr}{rest:List Expr}(Fn:gq K g qual st f fd)
  (S:aF (al (aa st)) ps (aa st)) (hΦ:iX P w K mg base k Φ) (hΨ:∀g G,Ψ g=some G->fS P w K mg base k g G) (hk0:W.keepIn K (.ref f0)=true)
  (hgb:(aa st).names.lookup b=some .globalImplicit) (hm:mg b=some (.ref C0)) (hga:W.specialIn K (.ref C0) "__getattribute__" = some (some (.builtin "type.__getattribute__"))) (hrd:W.readsIn K C0 mc=true) (hfc:W.findCls K (.ref C0) mc "__init__" = some (.val (.ref f0)))
  (hbody:ak st=[.Expr (.Call (.Attribute (.Name b pb) "__init__" ap) (s0::c :: .Call (.Name u up) (e::es) [] uq::rest) [] cp) p4]) (hdb:(b==("__debug__" : Str))=false) (hln:(ap.endLine==cp.line)=true) (hfew:rest.length<20) (hst:∀e∈s0::c::rest,∀y p,e ≠ .Starred y p) (hu:(aa st).names.lookup u=some .globalImplicit)
  (hrun:∀ds r,G ds=some r->ds.length=ps.length/\xz Φ Ψ (aa st) s0 c u (e::es) (bI ps ds) r):aZ P w K mg base (bT P w) (k+1) f fd ps (sg K G):=by
 obtain⟨oc,od,kV,doc,pm,an,cdv,ct,osl,rfl,lk,hcd⟩:=Fn.ex
 refine rC lk hcd S (fun vs H Q E h=>?_) fun A outer s H vs Q E hr hsp=>?_
 ·obtain⟨ds,n,p,fs,C,S',h1,h2,_⟩:=h
  rw[<- h1.length];exact(hrun ds _ h2).1
 ·obtain⟨ds,n,p,fs,C,S',h1,h2,h3,h4,h5,h6⟩:=hsp
  obtain⟨hl,d0,kc0,d,kc,ds2,k2,Gu,e0,e1,e2,e3,e4⟩:=hrun ds _ h2
  have Gd:aO Φ (bV (bT P w) P w K mg base (al (aa st)) qual (aa st) f cdv A outer s H E).nox (aa st):=ff (outer:=outer) (H:=H) (E:=E) S hΦ hr
  obtain⟨E0,hsl⟩:=gc (P:=P) (w:=w) (mg:=mg) (base:=base) (qual:=qual) (f:=f) (cdv:=cdv) (A:=A) (outer:=outer) (s:=s) (E:=E) S h1 hl
  have B0:bL H (fun _=>none) H:=fun a o h=>⟨h,rfl⟩
  have n0:=hst s0 List.mem_cons_self
  have n1:=hst c (List.mem_cons_of_mem _ List.mem_cons_self)
  have hst':∀e'∈s0::c :: .Call (.Name u up) (e::es) [] uq::rest,∀y p,e' ≠ .Starred y p:=fun e' he=>by
   rcases List.mem_cons.mp he with rfl|he
   ·exact n0
   ·rcases List.mem_cons.mp he with rfl|he
    ·exact n1
    ·rcases List.mem_cons.mp he with rfl|he
     ·intro _ _ z;cases z
     ·exact hst _ (List.mem_cons_of_mem _ (List.mem_cons_of_mem _ he))
  rw[hbody]
  refine⟨lY (bV (bT P w) P w K mg base (al (aa st)) qual (aa st) f cdv A outer s H E) H (bI ps ds),dO fun pins s1 σ H1 D I ⟨ow,E1,hl1,B1⟩=>?_,fun _=>none,E0,hsl,B0⟩
  have hx:∀pins σ H2 s2 e s',ah (bV (bT P w) P w K mg base (al (aa st)) qual (aa st) f cdv A outer s H E) pins σ H2 s2->bT P w (bV (bT P w) P w K mg base (al (aa st)) qual (aa st) f cdv A outer s H E).stack H2 s2 (Am H C fs) e s'->(bV (bT P w) P w K mg base (al (aa st)) qual (aa st) f cdv A outer s H E).xe e s':=fun pins σ H2 s2 e s' I2 cx=>by
   refine hW I2 rfl rfl ?_
   obtain⟨x,C',T,od,H',rfl,z1,z2,z3,z4,z5,z6,z7,z8,z9,⟨q1,q2,q3⟩⟩:=cx
   cases q1
   exact⟨x,C,T,od,H',rfl,z1,z2,z3,z4,z5,z6,z7,z8,z9,h6 od H' q2 q3⟩
  have P0:PE (bV (bT P w) P w K mg base (al (aa st)) qual (aa st) f cdv A outer s H E) s0 (tD (bV (bT P w) P w K mg base (al (aa st)) qual (aa st) f cdv A outer s H E).nox ow (bI ps ds) d0 kc0):=((bE e0 Gd).ed rfl ow).nox
  have P1:PE (bV (bT P w) P w K mg base (al (aa st)) qual (aa st) f cdv A outer s H E) c (tD (bV (bT P w) P w K mg base (al (aa st)) qual (aa st) f cdv A outer s H E).nox ow (bI ps ds) d kc):=((bE e1 Gd).ed rfl ow).nox
  have P2:PE (bV (bT P w) P w K mg base (al (aa st)) qual (aa st) f cdv A outer s H E) (.Call (.Name u up) (e::es) [] uq) (fun σ' H' _=>aH (bV (bT P w) P w K mg base (al (aa st)) qual (aa st) f cdv A outer s H E).nox ow H' σ' (bI ps ds)/\aw H H'):=fun pins' s' σ' H' Q' I' ⟨E',B'⟩ =>
   fJ Gd ((hΨ u Gu e3).at hr) h3 h4 h5 e2 hu e4 I' E' B' (hx pins' σ')
  have P3:PA (bV (bT P w) P w K mg base (al (aa st)) qual (aa st) f cdv A outer s H E) rest (fun _ _ _=>False):=fun _ _ _ _ _ _ _ z=>z.elim
  have PP:=fK P0 (fK P1 (fK P2 P3 (aD fun _ _ z=>by cases z)) (aD n1)) (aD n0)
  refine wpAny_Expr_any ?_ I.quiet rfl
  refine W.methodCall_KW (pl:=(do return (<- importBound (.Name b pb) (bV (bT P w) P w K mg base (al (aa st)) qual (aa st) f cdv A outer s H E).env).getD true)) (cJ I (Gd.gl b hgb) hm ?_ hdb) (nS (c6 rfl) (gJ hst' (by simp only[List.length_cons];omega)) hln)
  refine W.method_cls I.kIn hga (W.cls_value I.kIn hrd hfc rfl ?_)
  have I':=I.tok (s1.toks+1)
  refine W.callWith_K (first:=[]) (h₀:=base) I.ok.mod.kin hk0 (aG (PP cp pins _ σ H1 (fun _ _=>False) I' ⟨E1,fun v H2 s2 _=>⟨E1.same s2,fun v' H3 s3 _=>⟨(E1.same s2).same s3,(B1.sm.trans s2).trans s3⟩⟩⟩) fun us s2 ⟨vs,H2,I2,r,q2⟩=>q2.elim) (aD n0) (bG fun x hx=>hst' x (List.mem_cons_of_mem _ hx))
inductive cK(Φ:Fx)(Ψ:pP)(Ex:Str->Option (Str×Option Str))(Δ:ji)(sc:Scope):List Stmt->ae->Xs->Prop where
 | rz {ss:List Stmt} {ρ:ae} {r:Xs} (h:Rz Φ Ψ Ex sc ss ρ r):cK Φ Ψ Ex Δ sc ss ρ r
 | step {s:Stmt} {ss:List Stmt} {ρ ρ':ae} {r:Xs} (hs:ac (eR Φ s sc ρ) (.nx ρ')) (h:cK Φ Ψ Ex Δ sc ss ρ' r):cK Φ Ψ Ex Δ sc (s::ss) ρ r
 | ifK {e:Expr} {x d:Str} {kvs:List (Str×Int)} {k:Nat} {p q pos:Pos} {a b ss:List Stmt} {ρ:ae} {r:Xs} (hΔ:Δ d=some kvs) (he:ac (au Φ e false sc ρ) (.str x,k)) (ht:(kvs.lookup x).isNone=true) (gd:sc.names.lookup d=some .globalImplicit) (h:Rz Φ Ψ Ex sc a ρ r) :
  cK Φ Ψ Ex Δ sc (.If (.Compare e [.NotIn] [.Name d p] q) a b pos::ss) ρ r
 | ifN {e:Expr} {x d:Str} {kvs:List (Str×Int)} {k:Nat} {p q pos:Pos} {a ss:List Stmt} {ρ:ae} {r:Xs} (hΔ:Δ d=some kvs) (he:ac (au Φ e false sc ρ) (.str x,k)) (ht:(kvs.lookup x).isNone=false) (gd:sc.names.lookup d=some .globalImplicit) (h:cK Φ Ψ Ex Δ sc ss ρ r) :
  cK Φ Ψ Ex Δ sc (.If (.Compare e [.NotIn] [.Name d p] q) a [] pos::ss) ρ r
 | setK {e:Expr} {x d y:Str} {kvs:List (Str×Int)} {i c:Int} {k n:Nat} {p p1 p2 p3 py q:Pos} {ss:List Stmt} {ρ:ae} {r:Xs} (hΔ:Δ d=some kvs) (he:ac (au Φ e false sc ρ) (.str x,k)) (hs:eg e) (hv:kvs.lookup x=some i) (gd:sc.names.lookup d=some .globalImplicit) (hy:ck sc y=true) (h:cK Φ Ψ Ex Δ sc ss (bz ρ y (.int (i+c),true)) r) :
  cK Φ Ψ Ex Δ sc (.Assign [.Name y py] (.BinOp (.Subscript (.Name d p) e p1) .Add (.Constant (.int c) n p2) p3) q::ss) ρ r
 | forE {es:List Expr} {n1 n0:Nat} {tp p pos ep p0 kp:Pos} {e:Expr} {f:Str} {body ss:List Stmt} {ρ ρ1 ρ2:ae} {x:D} (pre:List D) {post l:List D} {k:Nat} {r:Xs} (hne:r.2.2≠[]) (he:ac (bi Φ [e] sc (demL [e] ρ)) ([.lst l],k)) (hl:ax l=true) (hk:k<=1) (hf:f = "enumerate") (gf:sc.names.lookup f=some .globalImplicit) (hd:fh 1 l=pre++x::post)
  (hc:uy Φ sc (.Tuple es n1 tp) body pre (demL [e] ρ) ρ1) (hb:bF sc (.Tuple es n1 tp) x ρ1=some ρ2) (h:Rz Φ Ψ Ex sc body ρ2 r) :
  cK Φ Ψ Ex Δ sc (.For (.Tuple es n1 tp) (.Call (.Name f p) [e] [⟨some lZ,.Constant (.int 1) n0 p0,kp⟩] ep) body [] pos::ss) ρ r
 | retI {c a b:Expr} {t:Bool} {k:Nat} {p q:Pos} {ss:List Stmt} {ρ:ae} {f:Str} {G:List D->Option Xs} {e:Expr} {es:List Expr} {fp fq:Pos} {ds:List D} {j:Nat} {r:Xs} (hc:ac (au Φ c false sc ρ) (.bl t,k)) (hab:(cond t a b)=.Call (.Name f fp) (e::es) [] fq) (ha:ac (bi Φ (e::es) sc ρ) (ds,j)) (hf:sc.names.lookup f=some .globalImplicit) (hG:Ψ f=some G) (h:G ds=some r) :
  cK Φ Ψ Ex Δ sc (.Return (some (.IfExp c a b p)) q::ss) ρ r
theorem GA{Ψ:pP}{r0:Xs}(Gd:aO Φ X.nox sc)(hD:∀d kvs,Δ d=some kvs->iN X.prog X.w X.K X.mg d kvs)
  (hz:∀{ss:List Stmt} {ρ:ae},Rz Φ Ψ Ex sc ss ρ r0->c5 X ss (lY X H0 ρ)) (hz':r0.2.2≠[]->∀{ss:List Stmt} {ρ:ae},Rz Φ Ψ Ex sc ss ρ r0->c5 (X.wish (vz X)) ss (lY X H0 ρ))
  (hc0:∀{f:Str} {G:List D->Option Xs} {e:Expr} {es:List Expr} {fp q:Pos} {ds:List D} {k:Nat} {ρ:ae} {pins:List (Addr×Obj)} {s:Shared} {σ:L2.St} {H:Hp} {ow:Ow} {Q:Value->Shared->Prop},Ψ f=some G->ac (bi Φ (e::es) sc ρ) (ds,k)->sc.names.lookup f=some .globalImplicit->G ds=some r0->ah X pins σ H s->aH X.nox ow H σ ρ->aw H0 H->wpAny (model X.prog X.w) X.A (eval (.Call (.Name f fp) (e::es) [] q) X.env) Q X.xe s) :
  ∀{ss:List Stmt} {ρ:ae} {r:Xs},cK Φ Ψ Ex Δ sc ss ρ r->r=r0->c5 X ss (lY X H0 ρ):=by
 intro ss ρ r h
 induction h with
 | rz h=>intro er;subst er;exact hz h
 | step hs h ih =>
  rename_i st ss ρ ρ' r
  intro er
  have sd:=((iC Φ _).s st (H0:=H0) (Nat.lt_succ_self _) hs Gd PassesOwn.never)
  intro pins s σ H D I ⟨ow,E,hl',B⟩
  exact cD (L2.PS.nox sd) (ih er) pins s σ H D I ⟨ow,E,hl',B,fun ow' σ' H' E' hl2 k=>⟨ow',E',hl2,B.keep k⟩⟩
 | ifK hΔ he ht gd h =>
  rename_i e x d kvs k p q pos a b ss ρ r
  intro er
  subst er
  refine dO fun pins s σ H D I ⟨ow,E,hl',B⟩=>?_
  have td:=((rV (X:=X.nox) (p:=p) (q:=q) (hD _ _ hΔ) (Gd.gl _ gd) ((bE he Gd).ed rfl)) ow).nox
  rw[ht]at td
  refine wpAny_If (aG (td pins s σ H (fun b H'=>b=true/\aw H H') I ⟨E,fun H' sm=>⟨rfl,sm⟩⟩) fun d s1 ⟨H1,I1,e,sm⟩=>?_)
  subst e
  exact hz h pins s1 σ H1 _ I1 ⟨ow,E.same sm,hl',B.same sm⟩
 | ifN hΔ he ht gd h ih =>
  rename_i e x d kvs k p q pos a ss ρ r
  intro er
  have td:=rV (X:=X.nox) (p:=p) (q:=q) (hD _ _ hΔ) (Gd.gl _ gd) ((bE he Gd).ed rfl)
  rw[ht]at td
  have sd:SD X.nox H0 ρ (.If (.Compare e [.NotIn] [.Name d p] q) a [] pos) (.nx ρ):=wt td (by rw[if_neg Bool.false_ne_true];exact gK [] (fo rfl True.intro) Gd PassesOwn.never)
  intro pins s σ H D I ⟨ow,E,hl',B⟩
  exact cD (L2.PS.nox sd) (ih er) pins s σ H D I ⟨ow,E,hl',B,fun ow' σ' H' E' hl2 k=>⟨ow',E',hl2,B.keep k⟩⟩
 | setK hΔ he hs hv gd hy h ih =>
  rename_i e x d y kvs i c k n p p1 p2 p3 py q ss ρ r
  intro er
  have sd:SD X.nox H0 ρ (.Assign [.Name y py] (.BinOp (.Subscript (.Name d p) e p1) .Add (.Constant (.int c) n p2) p3) q) (.nx (bz ρ y (.int (i+c),true))):=kG Gd hy (oh (vR (hD _ _ hΔ) (Gd.gl _ gd) ((bE he Gd).ed rfl) hs hv) (tS rfl) (show iK .Add (.int _) (.int _) 0 0=.ok (.int _,0) []from rfl) True.intro) (.inl ⟨rfl,rfl⟩) (d9 rfl)
  intro pins s σ H D I ⟨ow,E,hl',B⟩
  exact cD (L2.PS.nox sd) (ih er) pins s σ H D I ⟨ow,E,hl',B,fun ow' σ' H' E' hl2 k=>⟨ow',E',hl2,B.keep k⟩⟩
 | forE pre hne he hl hk hf gf hd hc hb h =>
  rename_i es n1 n0 tp p pos ep p0 kp e f body ss ρ ρ1 ρ2 x post l k r
  intro er
  subst er hf
  obtain⟨l7,h7,p7⟩:=he
  obtain⟨hst,_⟩:=b9 h7 p7
  have hI:=tF (X:=X.nox) (es:=es) (n1:=n1) (n0:=n0) (tp:=tp) (p:=p) (pos:=ep) (p0:=p0) (kp:=kp) (Gd.gl _ gf) (Gd.bl _ (by decide +kernel)) (gM [e] h7 p7 Gd) (hst e List.mem_cons_self) hl
  have el:(l.mapIdx fun i x=>D.tup [.int ((i+1:Nat):Int),x])=pre++x::post:=by
   rw[<- hd,pL]
   congr 1
   funext i x
   rw[Nat.add_comm]
  rw[el]at hI
  exact DI pre Gd hI hk (zq Gd PassesOwn.never hc) hb (hz' hne h) fun x=>rfl
 | retI hc hab ha hf hG h =>
  rename_i c a b t k p q ss ρ f G e es fp fq ds j r
  intro er
  subst er
  refine dO fun pins s σ H D I ⟨ow,E,hl',B⟩=>?_
  have td:=((bE hc Gd).td rfl t rfl ow).nox
  refine wpAny_Return_some (wpAny_IfExp (aG (td pins s σ H (fun b H'=>b=t/\aw H H') I ⟨E,fun H' sm=>⟨rfl,sm⟩⟩) fun d s1 ⟨H1,I1,e,sm⟩=>?_))
  subst e
  have key:=hc0 (fp:=fp) (q:=fq) (Q:=fun v s2=>SP X pins D (.ret v) s2) hG ha hf h I1 (E.same sm) (B.sm.trans sm)
  rw[<- hab]at key
  cases d with
  | true=>exact key
  | false=>exact key
theorem pB{Ψ:pP}(Fn:gq K g qual st f fd)
  (S:aF (al (aa st)) ps (aa st)) (hΦ:iX P w K mg base k Φ) (hD:∀d kvs,Δ d=some kvs->iN P w K mg d kvs) (hΨ:∀g G,Ψ g=some G->fS P w K mg base k g G) (hmg:∀n C,W.nsIn K mainGlobals n=some (some (.ref C))->mg n=some (.ref C)) (hEI:Dh P w K mg base k Ex)
  (hrun:∀ds r,G ds=some r->ds.length=ps.length/\cK Φ Ψ Ex Δ (aa st) (ak st) (bI ps ds) r):aZ P w K mg base (bT P w) (k+1) f fd ps (sg K G):=by
 obtain⟨oc,od,kV,doc,pm,an,cdv,ct,osl,rfl,lk,hcd⟩:=Fn.ex
 refine rC lk hcd S (fun vs H Q E h=>?_) fun A outer s H vs Q E hr hsp=>?_
 ·obtain⟨ds,n,p,fs,C,S',h1,h2,_⟩:=h
  rw[<- h1.length];exact(hrun ds _ h2).1
 ·obtain⟨ds,n,p,fs,C,S',h1,h2,h3,h4,h5,h6⟩:=hsp
  obtain⟨hl,hz⟩:=hrun ds _ h2
  have Gd:=ff (outer:=outer) (H:=H) (E:=E) S hΦ hr
  obtain⟨E0,hsl⟩:=gc (P:=P) (w:=w) (mg:=mg) (base:=base) (qual:=qual) (f:=f) (cdv:=cdv) (A:=A) (outer:=outer) (s:=s) (E:=E) S h1 hl
  have B0:bL H (fun _=>none) H:=fun a o h=>⟨h,rfl⟩
  have lv:Ak (bV (bT P w) P w K mg base (al (aa st)) qual (aa st) f cdv A outer s H E) E (bV (bT P w) P w K mg base (al (aa st)) qual (aa st) f cdv A outer s H E).xe:=fun e s2 k=>wpAny_mono k (fun _ _ z=>z) fun _ _ z=>z.elim
  have hcx:∀{e s' H1 s1},bT P w (bV (bT P w) P w K mg base (al (aa st)) qual (aa st) f cdv A outer s H E).stack H1 s1 (Am H C fs) e s'->bT P w (bV (bT P w) P w K mg base (al (aa st)) qual (aa st) f cdv A outer s H E).stack H1 s1 E e s':=fun {e s' H1 s1} c=>by
   obtain⟨x,C',T,od,H',rfl,z1,z2,z3,z4,z5,z6,z7,z8,z9,⟨e1,e2,e3⟩⟩:=c
   cases e1
   exact⟨x,C,T,od,H',rfl,z1,z2,z3,z4,z5,z6,z7,z8,z9,h6 od H' e2 e3⟩
  refine⟨_,GA (X:=bV (bT P w) P w K mg base (al (aa st)) qual (aa st) f cdv A outer s H E) (H0:=H) (r0:=(n,p,fs)) Gd hD (fun hz=>?_) (fun hne {_ _} hz=>?_) (fun {f' G' e es fp q ds k ρ pins s' σ H' ow Q'} hG ha hf h I E' B=>fJ Gd ((hΨ _ _ hG).at hr) h3 h4 h5 ha hf h I E' B fun H1 s1 e s' I c=>hW I rfl rfl (hcx c)) hz rfl,fun _=>none,E0,hsl,B0⟩
  ·refine wu (X:=bV (bT P w) P w K mg base (al (aa st)) qual (aa st) f cdv A outer s H E) (H0:=H) (C:=C) (S:=S') Gd (fun g' G' hG=>?_) h3 h4 h5 (hmg n C h3) (hEI n C h3).1 (fun p' f' hp'=>?_) (fun hfs pins σ H1 s1 h' a us I sm m=>?_) (fun f' i' hfs pins σ H1 s1 z dx o vv a0 sm I w1 w2 w3 w4 w5 w6 w7 w8 w9 w10=>?_) (fun pins σ H1 s1 e s' I c=>?_) hz rfl
   ·exact(hΨ g' G' hG).at hr
   ·obtain⟨j,fI,oI,fd',ps',q0,q1,q2,q3,q4,q5,q6⟩:=(hEI n C h3).2 p' f' hp'
    exact⟨j,fI,oI,fd',ps',q1,q2,q3,q4,q5,hr.mono q0,q6⟩
   ·subst hfs
    exact mh I rfl rfl m (h6 none H1 sm nX.nil)
   ·subst hfs
    exact iB I rfl rfl w2 w3 w4 w5 w6 w7 w8 w10 w9 (h6 _ _ (sm.trans (cQ w1)) (fun f i z=>by cases z;exact⟨dx,rfl,aI⟩))
   ·exact hW I rfl rfl (hcx c)
  ·refine wu (X:=(bV (bT P w) P w K mg base (al (aa st)) qual (aa st) f cdv A outer s H E).wish (vz (bV (bT P w) P w K mg base (al (aa st)) qual (aa st) f cdv A outer s H E))) (H0:=H) (C:=C) (S:=S') Gd (fun g' G' hG=>?_) h3 h4 h5 (hmg n C h3) (hEI n C h3).1 (fun p' f' hp'=>?_) (fun hfs pins σ H1 s1 h' a us I sm m=>?_) (fun f' i' hfs pins σ H1 s1 z dx o vv a0 sm I w1 w2 w3 w4 w5 w6 w7 w8 w9 w10=>?_) (fun pins σ H1 s1 e s' I c=>?_) hz rfl
   ·exact(hΨ g' G' hG).at hr
   ·obtain⟨j,fI,oI,fd',ps',q0,q1,q2,q3,q4,q5,q6⟩:=(hEI n C h3).2 p' f' hp'
    exact⟨j,fI,oI,fd',ps',q1,q2,q3,q4,q5,hr.mono q0,q6⟩
   ·exact absurd hfs hne
   ·subst hfs
    exact uG I.unwish rfl rfl w2 w3 w4 w5 w6 w7 w8 w10 w9 (h6 _ _ (sm.trans (cQ w1)) (fun f i z=>by cases z;exact⟨dx,rfl,aI⟩)) lv
   ·exact yU I.unwish rfl rfl (hcx c) lv
def BK(Y:Cx)(C:Addr)(ie:Nat)(fs:List (Str×Int))(ρ ρ':ae)(ss:List Stmt):Prop:=∀(x:Addr) (od:Option Addr) (σ:L2.St) (H H':Hp) (ow:Ow) (D:jh),aH Y.nox ow H σ ρ->σ.length=Y.N.length->aw H H'->H' x=none->nX H' od fs ->
 (∀ow' σ' H'',aH Y.nox ow' H'' σ' ρ'->σ'.length=Y.N.length->aS ow H ow' H''->D.nx σ' H'')->∃t,c5 (Y.nox.mark (.ref x)) ss t/\t ⟨fun σ' H''=>D.nx (σ'.set ie none) H'',fun _ _=>False,fun _ _=>False,fun _ _=>False⟩ (σ.set ie (some (.ref x))) (aM H' x (iV x C od))
theorem vg{B:Str}{ρ':ae}{b0:Stmt}{body:List Stmt}{more:List ExceptHandler}(sk:List Aj)(Gd:aO Φ Y.nox sc)(GR:∀f G,Ψ f=some G->pW Y.nox f G)(hst:Y.stack=Y.env::Y.outer)
  (hcn:W.nsIn Y.K mainGlobals c=some (some (.ref C))) (hcp:W.nsIn Y.K mainGlobals p=some (some (.ref S))) (hex:gr Y.K C S) (hsk:∀q∈sk,BM Y.nox C q) (hexm:W.exmOne Y.K (.ref C) (.ref C0)=some true) (hmB:Y.mg B=some (.ref C0))
  (hB:sc.names.lookup B=some .globalImplicit) (hdb:(B==("__debug__" : Str))=false) (hn:sc.names.lookup n=some .local) (hie:Y.N[ie]?=some n) (hS:BK Y C ie fs ρ ρ' (b0::body))
  (h:Rt Φ Ψ sc tb ρ (c,p,fs)):SD Y.nox H0 ρ (.Try tb (sk.map yp ++ .ExceptHandler (some (.Name B bp)) (some n) (b0::body) hpos::more) [] [] tpos) (.nx ρ'):=by
 intro pins s σ H D I ⟨ow,E,hl,B0,q⟩
 obtain⟨h0,hs,eh⟩:∃h0 hs,sk.map yp++ExceptHandler.ExceptHandler (some (.Name B bp)) (some n) (b0::body) hpos::more=h0::hs:=by
  cases sk with
  | nil=>exact⟨_,_,rfl⟩
  | cons a l=>exact⟨_,_,rfl⟩
 rw[eh]
 refine wpAny_Try_except ?_
 rw[<- eh]
 refine Kz (X:=Y.nox.wish fun e s₁=>wpAny (model Y.prog Y.w) Y.A (noteFrame e Y.env) (fun _ s₂=>wpAny (model Y.prog Y.w) Y.A (setFlight e none) (fun _ s₃=>wpAny (model Y.prog Y.w) Y.A (handleBy e Y.env (sk.map yp ++ .ExceptHandler (some (.Name B bp)) (some n) (b0::body) hpos::more)) (SP Y.nox pins D) Y.nox.xe s₃) Y.nox.xe s₂) Y.nox.xe s₁) (H0:=H) (n:=c) (p:=p) Gd GR hcn hcp hex (fun H1 s1 e s' I1 c1=>?_) h rfl (I.wish _) E (aw.refl _)
 refine Fk (X:=Y.nox) (ie:=ie) (C0:=C0) sk I1.unwish hst Gd.nd c1 (Gd.gl B hB) hmB hdb hie (Gd.lc n hn) fun C' od H' ⟨e1,sm,hfd⟩=>?_
 cases e1
 exact⟨hsk,hexm,fun x nx=>hS x od σ H H' ow D E hl sm nx hfd q⟩
theorem nF(Gd:aO Φ X sc)(hz:sc.names.lookup z=some .local):∃i:Nat,X.N[i]?=some z:=by
 have:=Gd.ns z (by unfold ck;rw[hz];rfl)
 obtain⟨i,hi,e⟩:=List.getElem_of_mem this
 exact⟨i,by rw[List.getElem?_eq_getElem hi];exact congrArg some e⟩
theorem sw{H H':Hp}{x:Addr}{od:Option Addr}(sm:aw H H')(nx:H' x=none):aw H (aM H' x (iV x C od)):=sm.trans fun a o h=>by rw[ay (aV h nx)];exact h
theorem F3(Gd:aO Φ Y.nox sc)(hcn:W.nsIn Y.K mainGlobals c=some (some (.ref C)))(hcp:W.nsIn Y.K mainGlobals p=some (some (.ref S)))(hex:gr Y.K C S)(hfo:∀f i,fs=[(f,i)]->na Y.K C f)
  (hn:sc.names.lookup n=some .local) (hy:sc.names.lookup y=some .local) (hny:n≠y) (hd1:(n==("__debug__" : Str))=false) (hd2:(n==("__classdict__" : Str))=false) (hie:Y.N[ie]?=some n):BK Y C ie fs ρ (mT ρ n y c p fs) [.Assign [.Name y p1] (.Name n p2) p3]:=by
 intro x od σ H H' ow D E hl sm nx hfd q
 obtain⟨iy,hiy⟩:=nF Gd hy
 have hiy:Y.N[iy]?=some y:=hiy
 have hne:iy≠ie:=fun z=>hny (by rw[z,hie]at hiy;exact Option.some.inj hiy)
 have hl2:iy<σ.length:=by rw[hl];exact(List.getElem?_eq_some_iff.mp hiy).1
 have hl1:ie<σ.length:=by rw[hl];exact(List.getElem?_eq_some_iff.mp hie).1
 have pv:PE (Y.nox.mark (.ref x)) (.Name n p2) (my ie):=fX (X:=Y.nox.mark (.ref x)) hie (.inl (Gd.lc n hn)) hd1 hd2
 refine⟨_,ig (ny (X:=Y.nox.mark (.ref x)) (pos:=p3) (pos':=p1) Gd.nd hiy (.inl (Gd.lc y hy)) pv rfl (.inr (Gd.lc y hy))),_,List.getElem?_set_self hl1,?_⟩
 exact q ow _ _ (vN (X:=Y.nox) E sm nx hie hiy (.inl (Gd.lc y hy)) hne hl2 hcn hcp hex hfd hfo) (by simpa using hl) (aS.same (sw sm nx))
theorem F2{f:Str}(Gd:aO Φ Y.nox sc)(hcn:W.nsIn Y.K mainGlobals c=some (some (.ref C)))(hcp:W.nsIn Y.K mainGlobals p=some (some (.ref S)))(hex:gr Y.K C S)(hfo:na Y.K C f)
  (hn:sc.names.lookup n=some .local) (hy:sc.names.lookup y=some .local) (hz:sc.names.lookup z=some .local) (hny:n≠y) (hnz:n≠z) (hyz:y≠z) (hd1:(n==("__debug__" : Str))=false) (hd2:(n==("__classdict__" : Str))=false) (hok:dP n=true) (hie:Y.N[ie]?=some n):BK Y C ie [(f,i)] ρ (bz (mT ρ n y c p [(f,i)]) z (.int i,true)) [.Assign [.Name y p1] (.Name n p2) p3,.Assign [.Name z p4] (.Attribute (.Name n p5) f p6) p7]:=by
 intro x od σ H H' ow D E hl sm nx hfd q
 obtain⟨iy,hiy⟩:=nF Gd hy
 obtain⟨iz,hiz⟩:=nF Gd hz
 have hiy:Y.N[iy]?=some y:=hiy
 have hiz:Y.N[iz]?=some z:=hiz
 have hne:iy≠ie:=fun w=>hny (by rw[w,hie]at hiy;exact Option.some.inj hiy)
 have hze:iz≠ie:=fun w=>hnz (by rw[w,hie]at hiz;exact Option.some.inj hiz)
 have hl2:iy<σ.length:=by rw[hl];exact(List.getElem?_eq_some_iff.mp hiy).1
 have hl1:ie<σ.length:=by rw[hl];exact(List.getElem?_eq_some_iff.mp hie).1
 have pv:PE (Y.nox.mark (.ref x)) (.Name n p2) (my ie):=fX (X:=Y.nox.mark (.ref x)) hie (.inl (Gd.lc n hn)) hd1 hd2
 have hfo':∀f' i',[(f,i)]=[(f',i')]->na Y.K C f':=fun f' i' e=>by cases e;exact hfo
 have Ee:=vN (X:=Y.nox) (c:=c) (B:=p) E sm nx hie hiy (.inl (Gd.lc y hy)) hne hl2 hcn hcp hex hfd hfo'
 have Em:aH (Y.nox.mark (.ref x)) ow (aM H' x (iV x C od)) ((σ.set ie (some (.ref x))).set iy (some (.ref x))) (fun w=>if w=n then some (.xc c (some (p,[(f,i)])),false)else none):=by
  refine⟨fun w d o h=>?_,Ee.own⟩
  by_cases hw:w=n
  ·rw[if_pos hw]at h
   cases h
   refine⟨ie,.ref x,by rw[hw];exact hie,by rw[hw];exact .inl (Gd.lc n hn),by rw[List.getElem?_set_ne hne];exact List.getElem?_set_self hl1,?_⟩
   rw[af]
   refine⟨x,C,S,od,rfl,hcn,hcp,hex,aI,fun f i w=>?_,hfo'⟩
   obtain⟨dx,e1,e2⟩:=hfd f i w
   exact⟨dx,e1,by rw[ay (aV e2 nx)];exact e2⟩
  ·rw[if_neg hw]at h;cases h
 have ed:ED (Y.nox.mark (.ref x)) (fun w=>if w=n then some (.xc c (some (p,[(f,i)])),false)else none) (.Attribute (.Name n p5) f p6) (.int i) 0:=vP (vQ (d:=.xc c (some (p,[(f,i)]))) (o:=false) (if_pos rfl) hok) rfl
 refine⟨_,cD (ny (X:=Y.nox.mark (.ref x)) (pos:=p3) (pos':=p1) Gd.nd hiy (.inl (Gd.lc y hy)) pv rfl (.inr (Gd.lc y hy))) (ig (ny (X:=Y.nox.mark (.ref x)) (pos:=p7) (pos':=p4) Gd.nd hiz (.inl (Gd.lc z hz)) (ed ow) rfl (.inr (Gd.lc z hz)))),_,List.getElem?_set_self hl1,Em,fun v H2 s2 r2=>?_⟩
 rw[af]at r2
 subst r2
 show D.nx ((((σ.set ie (some (.ref x))).set iy (some (.ref x))).set iz (some (.int i))).set ie none) H2
 rw[List.set_comm _ _ hze]
 refine q ow _ _ (dj (X:=Y.nox) Gd.nd (by simpa using hl) (Ee.same s2) hiz (.inl (Gd.lc z hz)) (by rw[af])) (by simpa using hl) (aS.same ((sw sm nx).trans s2))
def v0(Φ:Fx)(Ψ:Str->Option (List D->Option Xs))(Ex:Str->Option (Str×Option Str))(sc:Scope)(ps:List Str)(pre tb post:List Stmt)(B1 B2 n y z f:Str)(ds:List D)(r:D):Prop :=
 ds.length=ps.length/\∃ρ1,ac (az Φ pre sc (bI ps ds)) (.nx ρ1)/\((∃p i,Ex B1=some (p,some f)/\Rt Φ Ψ sc tb ρ1 (B1,p,[(f,i)])/\ac (az Φ post sc (bz (mT ρ1 n y B1 p [(f,i)]) z (.int i,true))) (.rt r)) \/
  ∃p,Ex B2=some (p,none)/\Rt Φ Ψ sc tb ρ1 (B2,p,[])/\ac (az Φ post sc (mT ρ1 n y B2 p [])) (.rt r))
theorem EK{pre post:List Stmt}{B1 B2 fl:Str}{C1 C2:Addr}{bp' hpos' q1 q2 q3:Pos}(Fn:gq K g qual st f fd)
  (S:aF (al (aa st)) ps (aa st)) (hΦ:iX P w K mg base k Φ) (hΨ:∀g G,Ψ g=some G->fS P w K mg base k g G) (hmg:∀n C,W.nsIn K mainGlobals n=some (some (.ref C))->mg n=some (.ref C)) (hEx:BP K Ex)
  (hb:ak st=pre ++ .Try tb [.ExceptHandler (some (.Name B1 bp)) (some n) [.Assign [.Name y p1] (.Name n p2) p3,.Assign [.Name z p4] (.Attribute (.Name n p5) fl p6) p7] hpos,.ExceptHandler (some (.Name B2 bp')) (some n) [.Assign [.Name y q1] (.Name n q2) q3] hpos'] [] [] tpos::post)
  (hB1:(aa st).names.lookup B1=some .globalImplicit) (hB2:(aa st).names.lookup B2=some .globalImplicit) (hdb1:(B1==("__debug__" : Str))=false) (hdb2:(B2==("__debug__" : Str))=false)
  (hn:(aa st).names.lookup n=some .local) (hy:(aa st).names.lookup y=some .local) (hz:(aa st).names.lookup z=some .local) (hny:n≠y) (hnz:n≠z) (hyz:y≠z) (hd1:(n==("__debug__" : Str))=false) (hd2:(n==("__classdict__" : Str))=false) (hok:dP n=true)
  (c1:W.nsIn K mainGlobals B1=some (some (.ref C1))) (c2:W.nsIn K mainGlobals B2=some (some (.ref C2))) (w1:W.exmOne K (.ref C1) (.ref C1)=some true) (w2:W.exmOne K (.ref C2) (.ref C1)=some false) (w3:W.exmOne K (.ref C2) (.ref C2)=some true)
  (hrun:∀ds r,ac (F ds) r->v0 Φ Ψ Ex (aa st) ps pre tb post B1 B2 n y z fl ds r):aZ P w K mg base cj (k+1) f fd ps (jo K F):=by
 refine Fn.ok S (fun vs H Q E h=>?_) (fun cdv A outer s H vs Q E hr h=>?_)
 ·obtain⟨ds,r,l,h1,h2,hp,_⟩:=h
  rw[<- h1.length];exact(hrun ds r ⟨l,h2,hp⟩).1
 ·obtain⟨ds,r,l,h1,h2,hp,qq⟩:=h
  obtain⟨hl,ρ1,h3,h4⟩:=hrun ds r ⟨l,h2,hp⟩
  have G:=ff (outer:=outer) (H:=H) (E:=E) S hΦ hr
  obtain⟨E0,hsl⟩:=gc (P:=P) (w:=w) (mg:=mg) (base:=base) (qual:=qual) (f:=f) (cdv:=cdv) (A:=A) (outer:=outer) (s:=s) (E:=E) S h1 hl
  have B0:bL H (fun _=>none) H:=fun a o h=>⟨h,rfl⟩
  obtain⟨ie,hie⟩:=nF G hn
  have GR:∀g' G',Ψ g'=some G'->pW (bV cj P w K mg base (al (aa st)) qual (aa st) f cdv A outer s H E).nox g' G':=fun g' G' hG=>(hΨ g' G' hG).at hr
  have key:fR (bV cj P w K mg base (al (aa st)) qual (aa st) f cdv A outer s H E).nox H ρ1 (.Try tb [.ExceptHandler (some (.Name B1 bp)) (some n) [.Assign [.Name y p1] (.Name n p2) p3,.Assign [.Name z p4] (.Attribute (.Name n p5) fl p6) p7] hpos,.ExceptHandler (some (.Name B2 bp')) (some n) [.Assign [.Name y q1] (.Name n q2) q3] hpos'] [] [] tpos::post) (.rt r):=by
   rcases h4 with⟨p,i,hc,h5,h6⟩|⟨p,hc,h5,h6⟩
   ·obtain⟨C,S',a1,a2,a3,_,a5⟩:=hEx B1 p _ hc
    rw[c1]at a1;cases a1
    exact eM (vg (Y:=bV cj P w K mg base (al (aa st)) qual (aa st) f cdv A outer s H E) [] G GR rfl c1 a2 a3 (fun q hq=>by cases hq) w1 (hmg _ _ c1) hB1 hdb1 hn hie (F2 G c1 a2 a3 (a5 _ rfl) hn hy hz hny hnz hyz hd1 hd2 hok hie) h5) (gK post (H0:=H) h6 G PassesOwn.never)
   ·obtain⟨C,S',a1,a2,a3,_,a5⟩:=hEx B2 p _ hc
    rw[c2]at a1;cases a1
    exact eM (vg (Y:=bV cj P w K mg base (al (aa st)) qual (aa st) f cdv A outer s H E) [(B1,bp,n,[.Assign [.Name y p1] (.Name n p2) p3,.Assign [.Name z p4] (.Attribute (.Name n p5) fl p6) p7],hpos)] G GR rfl c2 a2 a3 (fun q hq=>by cases List.mem_singleton.mp hq;exact⟨C1,G.gl B1 hB1,hmg _ _ c1,hdb1,w2⟩) w3 (hmg _ _ c2) hB2 hdb2 hn hie (F3 G c2 a2 a3 (fun f i e=>by cases e) hn hy hny hd1 hd2 hie) h5) (gK post (H0:=H) h6 G PassesOwn.never)
  rw[hb]
  exact⟨_,vj (H0:=H) G PassesOwn.never key h3,fun _=>none,E0,hsl,B0,fun ow' σ' H' E' hl' B'=>⟨ow',E',hl',B',fun v H2 s2 r2=>qq v H2 s2 r2⟩⟩
theorem EZ{a b:Expr}{pos:Pos}{j:Nat}(ha:ED X ρ a (.str x) k)(hb:ED X ρ b (.int i) j)(hok:MulOk x i):ED X ρ (.BinOp a .Mult b pos) (.str (Txt.mul x i)) 0:=by
 have op:cv X (binaryOp .Mult) (fun v u H Q=>v=.str x/\u=.int i/\Q (.str (Txt.mul x i)) H):=by
  intro pins s σ H v u xv yu Q I rv ru ⟨e1,e2,q⟩
  subst e1 e2
  obtain⟨t,rfl⟩:=rv
  obtain⟨t',rfl⟩:=ru
  exact SB.mul hok fun t' k=>⟨.str _,H,I.tok k,⟨_,rfl⟩,q⟩
 refine fun ow=>bC (Cg op (ha ow) (hb ow)) fun σ H Q ⟨E,q⟩=>⟨E,fun v H1 s1 r1=>⟨E.same s1,fun u H2 s2 r2=>?_⟩⟩
 rw[af]at r1
 rw[af]at r2
 exact⟨r1,r2,q _ H2 (s1.trans s2) (by rw[af])⟩
inductive Rg(Φ:Fx)(sc:Scope):List Stmt->ae->Fl->Prop where
 | base {ss:List Stmt} {ρ:ae} {fl:Fl} (h:ac (az Φ ss sc ρ) fl):Rg Φ sc ss ρ fl
 | cut (n:Nat) {ss:List Stmt} {ρ ρ1:ae} {fl:Fl} (h:ac (az Φ (ss.take n) sc ρ) (.nx ρ1)) (k:Rg Φ sc (ss.drop n) ρ1 fl):Rg Φ sc ss ρ fl
 | setM {z i e:Expr} {x:Str} {l m:Str} {j:Int} {k ki kz:Nat} {p1 p2 px q:Pos} {ss:List Stmt} {ρ:ae} {fl:Fl} (hz:ac (au Φ z false sc ρ) (.str l,kz)) (hi:ac (au Φ i false sc ρ) (.int j,ki)) (hok:MulOk l j) (he:ac (au Φ e false sc ρ) (.str m,k)) (hn:(Txt.mul l j).length+m.length<=1000) (hx:ck sc x=true) (k:Rg Φ sc ss (bz ρ x (.str (Txt.mul l j++m),true)) fl) :
  Rg Φ sc (.Assign [.Name x px] (.BinOp (.BinOp z .Mult i p1) .Add e p2) q::ss) ρ fl
 | retX {z i c e:Expr} {l m:Str} {j:Int} {ch:Nat} {k ki kz kc:Nat} {p1 p2 p3 q:Pos} {b2:Bool} {ρ:ae} {ss:List Stmt} (hz:ac (au Φ z false sc ρ) (.str l,kz)) (hi:ac (au Φ i false sc ρ) (.int j,ki)) (h0:0<=j) (h6:j<2 ^ 63) (h1:j<l.length) (hc:l.cps[j.toNat]?=some ch) (hm:ac (au Φ c false sc ρ) (.str m,kc)) (he:ac (au Φ e false sc ρ) (.bl b2,k)) (hk:dR (.str ⟨#[ch]⟩) (.str m)=true) (hb:behindInMarks .NotEq c=false) :
  Rg Φ sc (.Return (some (.BoolOp .Or [.Compare (.Subscript z i p1) [.NotEq] [c] p2,e] p3)) q::ss) ρ (.rt (.bl (!eqD (.str ⟨#[ch]⟩) (.str m) || b2)))
theorem KA{ss:List Stmt}{fl:Fl}(G:aO Φ X sc)(hp:PassesOwn (model X.prog X.w) X.A X.env X.xe)(h:Rg Φ sc ss ρ fl):fR X H0 ρ ss fl:=by
 induction h with
 | base h=>exact gK _ h G hp
 | cut n h k ih =>
  rename_i ss ρ ρ1 fl
  rw[<- List.take_append_drop n ss];exact o3 G hp h ih
 | setM hz hi hok he hn hx k ih =>
  exact eM (kG G hx (oh (EZ ((bE hz G).ed rfl) ((bE hi G).ed rfl) hok) ((bE he G).ed rfl) (show iK .Add (.str _) (.str _) 0 _=.ok (.str _,0) _ from rfl) ⟨Nat.le_trans hn (by decide),True.intro⟩) (.inl ⟨rfl,rfl⟩) (d9 rfl)) ih
 | retX hz hi h0 h6 h1 hc hm he hk hb =>
  rename_i z i c e l m j ch k ki kz kc p1 p2 p3 q b2 ρ ss
  obtain⟨l7,h7,p7⟩:=id hi
  have e1:=IK (pos:=p1) ((bE hz G).ed rfl) ((bE hi G).ed rfl) (nA h7) h0 h6 h1 hc
  have e2:=(bE hm G).ed rfl
  have hcm:gW .NotEq (.str ⟨#[ch]⟩) (.str m)=.ok (!eqD (.str ⟨#[ch]⟩) (.str m)) [dR (.str ⟨#[ch]⟩) (.str m)=true]:=rfl
  have ed:=zu (pos:=p2) G.room e1 e2 hcm ⟨hk,True.intro⟩ hb
  have td:=x5 (pos:=p2) G.room e1 e2 hcm ⟨hk,True.intro⟩ hb
  have b1:dk X ρ .Or [e] b2:=fw ((bE he G).ed rfl) ((bE he G).td rfl b2 rfl)
  have bc:dk X ρ .Or [.Compare (.Subscript z i p1) [.NotEq] [c] p2,e] (!eqD (.str ⟨#[ch]⟩) (.str m) || b2):=by
   cases hv:(!eqD (.str ⟨#[ch]⟩) (.str m))with
   | true=>rw[hv]at ed td;exact mq ed td (fun pos=>⟨_,mI⟩) fun pos=>⟨_,mG⟩
   | false=>rw[hv]at ed td;exact oE ed td b1
  exact jP (yr (bc.ed (by simp) p3) (.inl rfl)) (fun _ z=>by cases z)
def xq(Φ:Fx)(sc:Scope)(ps:List Str)(ss:List Stmt)(ds:List D)(r:D):Prop:=ds.length=ps.length/\Rg Φ sc ss (bI ps ds) (.rt r)
theorem vL(Fn:gq K g qual st f fd)
  (S:aF (al (aa st)) ps (aa st)) (hΦ:iX P w K mg base k Φ) (hrun:∀ds r,ac (F ds) r->xq Φ (aa st) ps (ak st) ds r):aZ P w K mg base cj (k+1) f fd ps (jo K F):=by
 refine Fn.ok S (fun vs H Q E h=>?_) (fun cdv A outer s H vs Q E hr h=>?_)
 ·obtain⟨ds,r,l,h1,h2,hp,_⟩:=h
  rw[<- h1.length]
  exact(hrun ds r ⟨l,h2,hp⟩).1
 ·obtain⟨ds,r,l,h1,h2,hp,qq⟩:=h
  obtain⟨hl,hr'⟩:=hrun ds r ⟨l,h2,hp⟩
  have G:=ff (outer:=outer) (H:=H) (E:=E) S hΦ hr
  obtain⟨E0,hsl⟩:=gc (P:=P) (w:=w) (mg:=mg) (base:=base) (qual:=qual) (f:=f) (cdv:=cdv) (A:=A) (outer:=outer) (s:=s) (E:=E) S h1 hl
  have B0:bL H (fun _=>none) H:=fun a o h=>⟨h,rfl⟩
  exact⟨_,KA (H0:=H) G PassesOwn.never hr',fun _=>none,E0,hsl,B0,fun v H' sm rp=>qq v H' sm rp⟩
end Sp
namespace K
open PySem L2 Sp Qm
section
variable{Φ:Fx}{sc:Scope}{ρ ρ1:ae}{ss:List Stmt}
abbrev pY:Xs:=(Str.ofString "Nought", Str.ofString "SpaceError", [])
def kS:D->Bool
 | .tup [.int a,.int b,.int c,.int d]=>decide (a=0/\b=0/\c=0/\d=0)
 | _=>false
theorem y8{d:D}(h:kS d=true):d=dq OF:=by
 unfold kS at h
 split at h
 ·obtain⟨rfl,rfl,rfl,rfl⟩:=of_decide_eq_true h;rfl
 ·cases h
end
end K
namespace Sp
open PySem PySem.Spec PyProof.Rows L2
variable{K:W.Frag}{f:Addr}
theorem Ik{o:Obj}(h:W.isFn K (.ref f)=true)(l:K.lookup f=some o):o.cls=.type "function" := by
 have:Option.map (fun x:Obj=>x.cls) (List.lookup f K)=some (.type "function"):=beq_iff_eq.mp h
 rw[show List.lookup f K=some o from l]at this
 exact Option.some.inj this
theorem Ap{P:Program}{w:World}{mg:Str->Option Value}{base:Heap}{g qual:Str}{st:Stmt}{C S0:Addr}{fd:FuncData}{mc:Value}(Fn:gq K g qual st f fd){s0 a1 fl b a:Str}{kd:Nat}{p1 p2 p3 p5 p6 p7 p8 p9 p10 q1 q2 q3 q4:Pos}
  (hN:al (aa st)=[s0,a1]) (S:aF (al (aa st)) [s0,a1] (aa st)) (hv:(aa st).names.lookup s0=some .local/\(aa st).names.lookup a1=some .local) (hok:dP s0=true/\dP a1=true)
  (hgb:(aa st).names.lookup b=some .globalImplicit) (hm:mg b=some (.ref S0)) (hga:W.specialIn K (.ref S0) "__getattribute__" = some (some (.builtin "type.__getattribute__"))) (hrd:W.readsIn K S0 mc=true) (hfc:W.findCls K (.ref S0) mc "__init__" = some (.val (.builtin "ValueError.__init__"))) (hex:i7 K C S0=true)
  (hdi:W.hasDictIn K C=true) (hsa:W.findIn K (.ref C) "__setattr__" = some (some (.builtin "object.__setattr__"))) (hff:W.findIn K (.ref C) fl=some none)
  (hb:ak st=[.Expr (.Call (.Attribute (.Name b p1) "__init__" p2) [.Name s0 p3,.JoinedStr [.Constant (.str a) kd p5,.FormattedValue (.Name a1 p6) (-1) none p7] p8] [] p9) p10,.Assign [.Attribute (.Name s0 q1) fl q2] (.Name a1 q3) q4]) (ha:a.length<=200) (hln:(p2.endLine==p9.line)=true) (hdb:(b==("__debug__" : Str))=false) :
  aZ P w K mg base cj 1 f fd [s0,a1] (se C fl):=by
 obtain⟨cd,h1,h2⟩:=sM hex
 have h3:cd.hasDict=true:=by
  unfold W.hasDictIn at hdi
  rw[h1]at hdi
  exact hdi
 refine Ao Fn hN S (fun x hx=>?_) (fun x hx=>?_) hgb hm hga hrd hfc hex h1 h2 h3 hsa hff hb ha hln hdb
 ·simp only[List.mem_cons,List.not_mem_nil,or_false]at hx
  rcases hx with rfl|rfl
  ·exact .inl hv.1
  ·exact .inl hv.2
 ·simp only[List.mem_cons,List.not_mem_nil,or_false]at hx
  rcases hx with rfl|rfl
  ·exact hok.1
  ·exact hok.2
end Sp
namespace K
open PySem L2 Sp Qm



end K
namespace Att
open PySem PySem.W PySem.Calls PyProof.Rows
theorem nj:∀(ns:List Int) (m:Int),m∈ns->Builtin.Int.intBits m<=WData.weightAll (ns.map WData.int)
 | n::ns,m,h=>by
  rw[List.map_cons,WData.weightAll,WData.weight]
  rcases List.mem_cons.mp h with rfl|h
  ·unfold Builtin.Int.intBits;omega
  ·have:=nj ns m h;omega
theorem Fo{ns:List Int}(h:WData.layableAll [WData.list (ns.map WData.int)]=true):∀m∈ns,Builtin.Int.intBits m<=2 ^ 20:=fun m hm=>by
 unfold WData.layableAll at h
 have h1:WData.layable (WData.list (ns.map WData.int))=true:=by simpa using h
 unfold WData.layable at h1
 have h2:=(Bool.and_eq_true_iff.mp h1).2
 have h3:=of_decide_eq_true h2
 rw[WData.weight]at h3
 exact Nat.le_trans (nj ns m hm) h3
theorem attach_callB{l:OpenLaw}{n:Nat}{q:Program}{loose:List Str}{XP:(Str->Option Value)->Heap->Prop}{YP:World->Heap->Prop}{d:DefRec}
  (hn:l.most=some n) (hdf:d.params.defaults=[])
  (call:∀(w:World) (s₀ s₁:Shared) (mg mb:Str->Option Value) (fa:Addr) (o:Obj) (pm cd doc:Value) (a:Addr) (vs:List Value) (ns:List Int),
   Ground q loose [] XP w s₀ mg mb s₁.heap->YP w s₁.heap ->
   s₁.heap.get? fa=some o->o.data=.func (docDef d.name d.params d.body d.scope pm cd doc)->s₁.heap.CodeRec cd d.name->mg d.name=some (.ref fa) ->
   s₁.heap.get? a=some { cls:=.type "list", data:=.seq vs.toArray }->IntsAre vs ns->ns.length<=n->(∀m∈ns,Builtin.Int.intBits m<=2 ^ 20)->s₁.gens = #[] ->
   codeAny (model l.prog w) callerA (.call (.ref fa) ⟨[.ref a],[]⟩) (fun r s'=>r=.ok (.ret (.bool true))/\OldK s₁.heap s'.heap/\s'.os=s₁.os/\AllBare s'.gens) s₁) :
  WalkO q loose XP YP l.row.toRowW d [] (fun f vs=>PySem.call f vs):=by
 intro w s₀ s₁ mg mb G Y fa o pm cd doc dV kV ho hd hcd hD hmg hg args vals as hpre hlay hrd hwl hlo
 obtain rfl:dV=.none:=Dflts.none hD hdf
 obtain rfl:kV=.none:=Dflts.noKw hD
 obtain⟨a,vs,ns,rfl,rfl,hobj,hints,hlen⟩:=qk hn hpre hwl
 have hbits:=Fo hlay
 refine enter_call (codeAny_mono (call w s₀ s₁ mg mb fa o pm cd doc a vs ns G Y ho (fd_plain hd) hcd hmg hobj hints hlen hbits hg) fun r s' hq=>?_)
 obtain⟨rfl,h2,h3,h4⟩:=hq
 exact⟨.inl ⟨.bool true,.bool true,[],rfl,fun _=>rfl,.bool true,qo l _,fun _=>⟨List.Pairwise.nil,fun _ hm=>(nomatch hm)⟩⟩,h2,h3,h4⟩
end Att
namespace L2
open PySem PySem.Spec PyProof.Rows
theorem walk_ofB{l:W.OpenLaw}{n k:Nat}{q:Program}{loose:List Str}{XP:(Str->Option Value)->Heap->Prop}{YP:World->Heap->Prop}{d:DefRec}{K:Params->W.Frag}{CX:World->iO}{sp:World->Sp}{x:Str}
  (hn:l.most=some n) (hn2:n<=sizeLine) (hdf:d.params.defaults=[]) (hr:bJ k callerA)
  (hY:∀(w:World) (h:Heap),YP w h->(K w.params).In h)
  (F:∀(w:World) (mg:Str->Option Value) (fa:Addr) (h:Heap),(K w.params).In h->h.Ns mainGlobals mg->mg d.name=some (.ref fa) ->
   ∃fd:FuncData,(∀(s:Shared) (u:Value),BindsTo s fd ⟨[u],[]⟩ [(x,u)]) /\
    ∀base:Heap,(K w.params).In base->base.Ns mainGlobals mg->aZ l.prog w (K w.params) mg base (CX w) k fa fd [x] (sp w))
  (hsp:∀(w:World) (H:Hp) (a:Addr) (ns:List Int),ns.length<=n->(∀m∈ns,Builtin.Int.intBits m<=2 ^ 20)->uu H->cm (K w.params) H a (ns.map V.int)->sp w [.ref a] H (fun v _=>v=.bl true) fun _ _ _=>False)
  (hCX:∀(w:World) (H:Hp) (s:Shared) (e:Value) (s':Shared),CX w [] H s (fun _ _ _=>False) e s'->False) :
  W.WalkO q loose XP YP l.row.toRowW d [] (fun f vs=>PySem.call f vs):=by
 refine Att.attach_callB hn hdf fun w s₀ s₁ mg mb fa o pm cd doc a vs ns G Y ho hd hcd hmg hobj hints hlen hbits hg=>?_
 have KX:=hY w _ Y
 obtain⟨fd,hb,hF⟩:=F w mg fa _ KX G.T.g hmg
 exact sW KX G.T.g G.T.b G.T.builtins G.T.nolimit hg hobj hints (Nat.le_trans hlen hn2) hr hF hb (fun H hO hS=>hsp w H a ns hlen hbits hO hS) fun H e s'=>hCX w H s₁ e s'
end L2
namespace K
open PySem L2 Sp
variable{l w:List Nat}{j m n:Nat}{p:List Nat×Option Int}{a b c d i k:Int}{ws:Ws}{C g x:Str}{ns:List Int}{ds:List D}{r:Xs}{u:V3}{Φ:Fx}{sc:Scope}{ρ:ae}{P q:Program}{k0:W.Frag}{mg:Str->Option Value}{base:Heap}{F:List D->Rs D}{loose:List Str}{XP:(Str->Option Value)->Heap->Prop}
def ag(i:Nat):Stmt:=PySem.Challenge.pw_spaceturns_k41_texts_of_no_deed.main.body.getD i (.Pass ⟨0,0,0,0⟩)
local macro_rules | `(tactic| walk_at "leaf") => `(tactic| first | ((with_reducible apply Ed);decide) | ((with_reducible apply Ef);decide) | ((with_reducible apply Fe) <;> decide) | ((with_reducible apply Eg) <;> (with_reducible assumption)) | ((with_reducible apply DS) <;> decide) | ((with_reducible refine Eq.trans ?_ rfl);exact rfl) | ((with_reducible apply Bq);(with_reducible assumption)) | ((with_reducible apply Hc);assumption) | exact Nat.le_of_ble_eq_true rfl|exact Or.inl rfl|exact Or.inr rfl|exact Or.inr (Nat.le_refl 1) | exact Or.inr (Nat.zero_le 1) | decide|decide +kernel)
local macro_rules | `(tactic| walk_at "ob") => `(tactic| (repeat' (first|with_reducible exact True.intro|with_reducible exact BH|with_reducible apply xh|with_reducible apply BG|with_reducible apply uN|with_reducible assumption | ((with_reducible apply fg);intro hgd) | walk_at "leaf")))
local macro_rules | `(decl_name%) => `(fo rfl (by walk_at "ob"))
def BL:List (Str×(List D->R1)):=[("len", wZ),("tuple", uf),("abs", BE),("all", gX),("any", oF),("isinstance", Bz),("int", gk),("str", mV),("min", mW)]
def IL:List (Str×(List D->Nat->R1)):=[("range", nR)]
def ML:List (Str×(D->List D->R1)):=[("join", lH),("split", jy),("startswith", HA)]
def TL:List (Str×(List D->List D->Nat->Rs (List D))):=[("append", lI)]
def EX:Str->Option (Str×Option Str):=fun c=>([("NoText", "SpaceError", some "at"),("Nought", "SpaceError", none)]:List (Str×Str×Option Str)).lookup c
def BI:Fx:=Tb [] [] BL IL ML TL bw
def BN:List D->Rs D:=cG BI (aa (ag 43)) ["_law_script", "_law_k"] (ak (ag 43))
def mZ:List D->Rs D:=B9 dL dI fun l k=>.ok (.int (eY l k)) [okL l]
theorem uS:∀ds r,ac (mZ ds) r->ac (BN ds) r:=by
 intro ds r h
 obtain⟨l,k,rfl,h⟩:=vf h
 obtain⟨rfl,⟨ns,rfl⟩,_⟩:=fL h
 refine bM (fV 1 (fo rfl True.intro) (wl (fo rfl True.intro) (fun ht=>?_) (fun hf=>?_)))
 ·have hl:(ns.map D.int).length=ns.length:=by simp
  have hp:(0:Int)<((ns.map D.int).length:Nat):=by simpa using ht
  have hi:L2.atI (ns.map D.int) (k.fmod (((ns.map D.int).length:Nat):Int))=some (.int (eV ns k)):=by
   rw[hl]at hp⊢
   have hne:ns≠[]:=by intro z;subst z;simp at hp
   unfold eV
   rw[if_neg hne]
   exact FC (Int.fmod_nonneg_of_pos _ hp) (Int.fmod_lt_of_pos _ hp)
  refine bA (bj (d:=.int (eV ns k)) (cq (fo rfl True.intro) (fo rfl ⟨Int.ne_of_gt hp,True.intro⟩) rfl hi)) ?_
  refine decl_name%.eq ?_
  unfold eY oB;rw[jO]
 ·have hp:ns=[]:=by
   cases ns with
   | nil=>rfl
   | cons n ns=>simp at hf
  subst hp
  refine decl_name%.eq ?_
  rfl
def fQ:Fx:=Tb [] [] BL IL ML TL bw
def gT:List D->Rs D:=fun ds=>match ds with
 | [.str x]=>.ok (.bl (vh x.cps.toList)) [x.cps.toList.length<=43,∀c∈x.cps.toList,c<128]
 | _=>.st
theorem Gc(ws:Ws)(a:Nat):ac (bw (.lst (aR ws)) none (some (a:Int))) (.lst (aR (ws.take a)),0):=ac.eq ⟨_,rfl,dN ws,True.intro⟩ (by rw[show fG (aR ws) none (some (a:Int))=aR (ws.take a)from LB ws a])
theorem wp(ws:Ws)(a:Nat):ac (bw (.lst (aR ws)) (some (a:Int)) none) (.lst (aR (ws.drop a)),0):=ac.eq ⟨_,rfl,dN ws,True.intro⟩ (by rw[show fG (aR ws) (some (a:Int)) none=aR (ws.drop a)from LC ws a])
theorem LK(g:Nat->Bool)(l:List Nat):ac (oF [.lst (l.map fun c=>D.bl (g c))]) (.bl (l.any g),0):=by
 have h:∀l:List Nat,bR (l.map fun c=>D.bl (g c))=some (l.map g):=by
  intro l
  induction l with
  | nil=>rfl
  | cons a l ih=>rw[List.map_cons,bR,ih];rfl
 have hi:∀(a:Nat) (l:List Nat),dr ((a::l).map fun c=>D.bl (g c))=none:=fun a l=>rfl
 cases l with
 | nil=>exact⟨_,rfl,True.intro⟩
 | cons a l =>
  show ac (ug [.lst ((a::l).map fun c=>D.bl (g c))]) _
  unfold ug
  dsimp only
  rw[hi,h]
  dsimp only
  refine⟨[],?_,True.intro⟩
  show Rs.ok (D.bl (((a::l).map g).any id),0) []=_
  rw[List.any_map];rfl
theorem ut:∀ds r,ac (gT ds) r->xq fQ (aa (ag 49)) ["_law_word"] (ak (ag 49)) ds r:=by
 intro ds r h
 unfold gT at h
 split at h
 ·rename_i x
  obtain⟨rfl,hz,asc,_⟩:=fL h
  clear h
  rw[jk x]at *
  generalize x.cps.toList=w at *
  have hl1:(sN w).length<=1048576:=by rw[bO];omega
  have e1:Str.ofString "-" = sN [45]:=by rw[js];rfl
  have ek:dR (.str (Txt.slice (sN w) none (some 1))) (.str (Str.ofString "-"))=true:=d6 (by rw[zA];exact fY fun c hc=>asc c (List.mem_of_mem_take hc)) (by decide +kernel)
  have eh:eqD (.str (Txt.slice (sN w) none (some 1))) (.str (Str.ofString "-"))=decide (w.head?=some 45):=by
   rw[eS,zA,e1]
   refine decide_eq_decide.mpr ⟨fun z=>?_,fun z=>?_⟩
   ·have z:=fW z
    cases w with
    | nil=>cases z
    | cons a l =>
     have:a=45:=by injection z
     rw[this];rfl
   ·cases w with
    | nil=>cases z
    | cons a l =>
     have:a=45:=by injection z
     rw[this];rfl
  have fig:∃ρ2,ac (az fQ ((ak (ag 49)).take 2) (aa (ag 49)) (bI ["_law_word"] [.str (sN w)])) (.nx ρ2)/\Sub (cW [("_law_word", .str (sN w),false),("_law_figures", .str (sN (dJ w)),true)]) ρ2:=by
   by_cases hh:w.head?=some 45
   ·have es:dJ w=w.tail:=if_pos hh
    rw[es]
    exact⟨_,bA (bj (d:=.str (sN w)) decl_name%) (ci (t:=true) (k:=0) ((decl_name%).bl (eh.trans (decide_eq_true hh))) rfl (bA (bj (d:=.str (sN w.tail)) ((decl_name%).eq (by rw[zz hh]))) dm)),aJ rfl (aJ rfl bW)⟩
   ·have es:dJ w=w:=if_neg hh
    rw[es]
    exact⟨_,bA (bj (d:=.str (sN w)) decl_name%) (bg (t:=false) (k:=0) ((decl_name%).bl (eh.trans (decide_eq_false hh))) rfl dm),aJ rfl (aJ rfl bW)⟩
  obtain⟨ρ2,h2,s2⟩:=fig
  refine⟨rfl,Rg.cut 2 h2 ?_⟩
  have hf:=yd w
  have fas:=ye asc
  have hf1:(sN (dJ w)).length<=1048576:=by rw[bO];omega
  have e48:Str.ofString "0" = sN [48]:=by rw[js];rfl
  unfold vh
  generalize hs:dJ w=f at *
  cases h1:(decide (1<=f.length)&&decide (f.length<=40))with
  | false =>
   refine Rg.base (cS s2 (ci (t:=true) (k:=0) (cz (fZ (b:=true) (tQ (b:=false) ((decl_name%).bl ?_)) (fun z=>by cases z) fun _=>rfl)) rfl (bf (aW decl_name%))))
   rw[<- h1,bO]
   congr 1
   ·exact decide_eq_decide.mpr (by omega)
   ·exact decide_eq_decide.mpr (by omega)
  | true =>
   have hn:ac (au fQ (L4 ((ak (ag 49)).getD 2 (.Pass ⟨0,0,0,0⟩))) false (aa (ag 49)) (cW [("_law_word", .str (sN w),false),("_law_figures", .str (sN f),true)])) (.bl false,0):=by
    refine tQ (b:=true) ((decl_name%).bl ?_)
    rw[<- h1,bO]
    congr 1
    ·exact decide_eq_decide.mpr (by omega)
    ·exact decide_eq_decide.mpr (by omega)
   have ha:ac (au fQ (Rr ((ak (ag 49)).getD 2 (.Pass ⟨0,0,0,0⟩))) false (aa (ag 49)) (cW [("_law_word", .str (sN w),false),("_law_figures", .str (sN f),true)])) (.bl (f.any fun c => !gh c),0):=by
    refine dw (B:=oF) (aK (iG (l:=f) (g:=fun c=>D.str (sN [c])) (f:=fun c=>D.bl (!gh c)) decl_name% (Cu fas) (by show _<=40000;omega) (.inr (Nat.zero_le 1)) fun c hc=>?_) aY) (LK _ f)
    exact⟨_,rfl,(decl_name%).bl (by show(!Txt.contains Be (sN [c]))=_;rw[CF c (fas c hc)])⟩
   have hq:(f.any fun c => !gh c) = !f.all gh:=by
    rw[List.not_all_eq_any_not]
   rw[hq]at ha
   cases h2:f.all gh with
   | false =>
    rw[h2]at ha
    exact Rg.base (cS s2 (ci (t:=true) (k:=0) (cz (fD hn (fZ (b:=true) ha (fun z=>by cases z) fun _=>rfl))) rfl (bf (aW decl_name%))))
   | true =>
    rw[h2]at ha
    rw[Bool.and_eq_true]at h1
    have hl:=of_decide_eq_true h1.1
    obtain⟨c0,f',rfl⟩:∃c0 f',f=c0::f':=by
     cases f with
     | nil=>simp at hl
     | cons a l=>exact⟨a,l,rfl⟩
    have kw:dR (.str (sN w)) (.str (Str.ofString "0"))=true:=d6 (fY asc) (by decide +kernel)
    have kc:dR (.str ⟨#[c0]⟩) (.str (Str.ofString "0"))=true:=d6 (fY (l:=[c0]) fun c hc=>by cases List.mem_singleton.mp hc;exact fas c0 List.mem_cons_self) (by decide +kernel)
    have ew:eqD (.str (sN w)) (.str (Str.ofString "0"))=decide (w=[48]):=by
     rw[eS,e48]
     exact decide_eq_decide.mpr ⟨fW,fun z=>by rw[z]⟩
    have ec:eqD (.str ⟨#[c0]⟩) (.str (Str.ofString "0"))=decide ((c0::f').head?=some 48):=by
     rw[show(⟨#[c0]⟩:Str)=sN [c0]from rfl,eS,e48]
     refine decide_eq_decide.mpr ⟨fun z=>?_,fun z=>?_⟩
     ·have z:=fW z;have:c0=48:=by injection z
      rw[this];rfl
     ·have:c0=48:=by injection z
      rw[this]
    obtain⟨ρ3,h3,s3⟩:=iu s2 (ss:=((ak (ag 49)).drop 2).take 1) (Φ:=fQ) (sc:=aa (ag 49)) (P:=fun ρ'=>Sub (cW [("_law_word", .str (sN w),false),("_law_figures", .str (sN (c0::f')),true)]) ρ') (bg (t:=false) (k:=0) (cz (fD hn (fD ha k8))) rfl dm) fun ρ' z=>z
    refine Rg.cut 1 h3 ?_
    have fin:Rg fQ (aa (ag 49)) (((ak (ag 49)).drop 2).drop 1) ρ3 (.rt (.bl (!eqD (.str ⟨#[c0]⟩) (.str (Str.ofString "0")) || eqD (.str (sN w)) (.str (Str.ofString "0"))))) :=
     Rg.retX (l:=sN (c0::f')) (j:=0) (fv s3 decl_name%) (fv s3 decl_name%) (by decide) (by decide) (by rw[bO];simp) rfl (fv s3 decl_name%) (fv s3 decl_name%) kc rfl
    rw[ec,ew]at fin
    exact fin
 ·exact(ar h).elim
def gA:Fx:=Tb [("_law_right", gT)] [] BL IL ML TL bw
def pT:List D->Rs D:=cG gA (aa (ag 50)) ["_law_words"] (ak (ag 50))
theorem JQ{α:Type}(g:α->Bool)(l:List α):ac (gX [.lst (l.map fun c=>D.bl (g c))]) (.bl (l.all g),0):=by
 have h:∀l:List α,bR (l.map fun c=>D.bl (g c))=some (l.map g):=by
  intro l
  induction l with
  | nil=>rfl
  | cons a l ih=>rw[List.map_cons,bR,ih];rfl
 unfold gX
 dsimp only
 rw[h]
 refine⟨[],?_,True.intro⟩
 show Rs.ok (D.bl ((l.map g).all id),0) []=_
 rw[List.all_map];rfl
theorem jM(h:iP w=some m):(w=bY "turn" /\ m=4)\/(w=bY "half" /\ m=3)\/(w=bY "mirror" /\ m=3):=by
 unfold iP at h
 split at h
 ·rename_i e;cases h;exact .inl ⟨e,rfl⟩
 ·split at h
  ·rename_i e;cases h;exact .inr (.inl ⟨e,rfl⟩)
  ·split at h
   ·rename_i e;cases h;exact .inr (.inr ⟨e,rfl⟩)
   ·cases h
theorem Kg(asc:∀c∈w,c<128):ac (gW .NotIn (.str (sN w)) (.tup [.str (Str.ofString "turn"),.str (Str.ofString "half"),.str (Str.ofString "mirror")])) (iP w).isNone:=by
 have sk:=d6 (fY asc) (fY asc)
 unfold dR at sk
 rw[Bool.and_eq_true]at sk
 refine ac.eq ⟨_,rfl,?_,True.intro⟩ ?_
 ·unfold dR
  rw[sk.1,Bool.and_true]
  decide +kernel
 ·show(!([D.str (Str.ofString "turn"),.str (Str.ofString "half"),.str (Str.ofString "mirror")].any fun y=>eqD y (.str (sN w))))=_
  have e:∀s:String,eqD (.str (Str.ofString s)) (.str (sN w))=decide (w=bY s):=fun s=>by
   rw[eS,eN]
   exact decide_eq_decide.mpr ⟨fun z=>(fW z).symm,fun z=>by rw[z]⟩
  rw[List.any_cons,List.any_cons,List.any_cons,List.any_nil,e,e,e]
  unfold iP
  by_cases h1:w=bY "turn"
  ·rw[if_pos h1,decide_eq_true h1];rfl
  ·rw[if_neg h1,decide_eq_false h1]
   by_cases h2:w=bY "half"
   ·rw[if_pos h2,decide_eq_true h2];rfl
   ·rw[if_neg h2,decide_eq_false h2]
    by_cases h3:w=bY "mirror"
    ·rw[if_pos h3,decide_eq_true h3];rfl
    ·rw[if_neg h3,decide_eq_false h3];rfl
abbrev tU(ws:Ws)(m:Nat):ae:=cW [("_law_words", .lst (aR ws),false),("_law_many", .int ((m+1:Nat):Int),true)]
theorem zw{ws:Ws}{m:Nat}{r:D}(hw:dE ws)(hl:ws.length<=20):∀(post:Ws) (k:Nat) (ρ:ae),ws.drop (k+1)=post->Sub (tU ws m) ρ->(∀i,vI m k post=some i->r=tZ i)->(vI m k post=none->∀ρ',Sub (tU ws m) ρ'->ac (az gA ((ak (ag 50)).drop 3) (aa (ag 50)) ρ') (.rt r)) ->
  Al gA (aa (ag 50)) (CD ((ak (ag 50)).getD 2 (.Pass ⟨0,0,0,0⟩))) (ij ((ak (ag 50)).getD 2 (.Pass ⟨0,0,0,0⟩))) ((ak (ag 50)).drop 3) r (vH k post.length) ρ
 | [],k,ρ,_,s,_,ht=>ht rfl ρ s
 | p::post,k,ρ,ed,s,hr,ht=>by
  have hk:k+1<ws.length:=by
   rcases Nat.lt_or_ge (k+1) ws.length with z|z
   ·exact z
   ·rw[List.drop_eq_nil_of_le z]at ed;cases ed
  rw[List.drop_eq_getElem_cons hk]at ed
  injection ed with e1 e2
  have hp:Wk p.1 p.2:=by rw[<- e1];exact hw _ (List.getElem_mem hk)
  have hat:L2.atI (aR ws) ((k+1:Nat):Int)=some (.str (sN p.1)):=dS (by rw[List.getElem?_map,List.getElem?_eq_getElem hk,e1];rfl)
  have hR:ac (gT [.str (sN p.1)]) (.bl p.2.isSome):=ac.eq ⟨_,rfl,rg hp,lz hp,True.intro⟩ (by rw[<- Nj hp])
  have s1:=s.put "_law_at" (.int ((k+1:Nat):Int),false)
  rw[List.length_cons,vH]
  refine⟨_,rfl,?_⟩
  unfold vI at hr ht
  by_cases hm:m<=k
  ·rw[if_pos (.inl hm)]at hr
   refine .inr ?_
   rw[hr _ rfl]
   exact cS s1 (ci (t:=true) (k:=0) (cz (fZ (b:=true) ((decl_name%).bl (decide_eq_true (by omega))) (fun z=>by cases z) fun _=>rfl)) rfl (bf (aW decl_name%)))
  ·have c1:∀{b:Bool},p.2.isSome=b->ac (au gA (HZ ((ij ((ak (ag 50)).getD 2 (.Pass ⟨0,0,0,0⟩))).getD 0 (.Pass ⟨0,0,0,0⟩))) false (aa (ag 50)) (bz (tU ws m) "_law_at" (.int ((k+1:Nat):Int),false))) (.bl (!b),0):=fun {b} hb=>by
    rw[hb]at hR
    exact cz (fD ((decl_name%).bl (decide_eq_false (by omega))) (fZ (b:=!b) (tQ (b:=b) (aP (aK (cq decl_name% decl_name% rfl hat) aY) hR)) (fun z=>by rw[z];exact k8) fun z=>by rw[z]))
   cases hv:p.2 with
   | none =>
    rw[hv,if_pos (.inr rfl)]at hr
    refine .inr ?_
    rw[hr _ rfl]
    exact cS s1 (ci (t:=true) (k:=0) (c1 (b:=false) (by rw[hv];rfl)) rfl (bf (aW decl_name%)))
   | some i =>
    rw[hv,if_neg (by intro z;rcases z with z|z;exact hm z;cases z)]at hr ht
    refine .inl ?_
    exact iu s1 (bg (t:=false) (k:=0) (c1 (b:=true) (by rw[hv];rfl)) rfl dm) fun ρ' s'=>zw hw hl post (k+1) ρ' e2 (aJ s'.get (aJ s'.get bW)) hr ht
theorem Ly{rest:Ws}(hw:dE (p::rest))(hl:rest.length<=19):ac (pT [.lst (aR (p::rest))]) (Bl (ge (p::rest))):=by
 have hp:=hw p List.mem_cons_self
 have hat:L2.atI (aR (p::rest)) 0=some (.str (sN p.1)):=dS (j:=0) rfl
 have hin:=Kg (lz hp)
 have ll:(aR (p::rest)).length=rest.length+1:=List.length_map _
 have hc:ac (au gA (HZ ((ak (ag 50)).getD 0 (.Pass ⟨0,0,0,0⟩))) false (aa (ag 50)) (bI ["_law_words"] [.lst (aR (p::rest))])) (.bl (iP p.1).isNone,0):=gb (cq decl_name% decl_name% rfl hat) decl_name% hin
 cases hd:iP p.1 with
 | none =>
  rw[hd]at hc
  rw[tX hd]
  exact bM (ci (t:=true) (k:=0) hc rfl (bf (aW decl_name%)))
 | some m =>
  rw[hd]at hc
  rw[tV hd]
  have hmany:ac (au gA (JI ((ak (ag 50)).getD 1 (.Pass ⟨0,0,0,0⟩))) false (aa (ag 50)) (bI ["_law_words"] [.lst (aR (p::rest))])) (.int ((m+1:Nat):Int),0):=by
   have ek:dR (.str (sN p.1)) (.str (Str.ofString "turn"))=true:=d6 (fY (lz hp)) (by decide +kernel)
   have hne:∀{b:Bool},(!eqD (.str (sN p.1)) (.str (Str.ofString "turn")))=b->ac (gW .NotEq (.str (sN p.1)) (.str (Str.ofString "turn"))) b:=fun {b} e=>ac.eq ⟨_,rfl,ek,True.intro⟩ e
   rcases jM hd with⟨e,rfl⟩|⟨e,rfl⟩|⟨e,rfl⟩
   ·exact cA (k:=0) (j:=0) decl_name% (dw (B:=gk) (aK (gb (cq decl_name% decl_name% rfl hat) decl_name% (hne (b:=false) (by rw[e];decide +kernel))) aY) decl_name%) decl_name%
   ·exact cA (k:=0) (j:=0) decl_name% (dw (B:=gk) (aK (gb (cq decl_name% decl_name% rfl hat) decl_name% (hne (b:=true) (by rw[e];decide +kernel))) aY) decl_name%) decl_name%
   ·exact cA (k:=0) (j:=0) decl_name% (dw (B:=gk) (aK (gb (cq decl_name% decl_name% rfl hat) decl_name% (hne (b:=true) (by rw[e];decide +kernel))) aY) decl_name%) decl_name%
  have sl:=wp (p::rest) 1
  have hlw:=dN (p::rest)
  have hg:=zk m rest 0 (Nat.zero_le m)
  rw[Nat.sub_zero]at hg
  have hb1:((aR (p::rest)).length:Int)-1<=800:=by rw[ll];omega
  have hb2:-4611686018427387904<=((aR (p::rest)).length:Int):=by omega
  refine bM (bg (t:=false) (k:=0) hc rfl (bA (bj (d:=.int ((m+1:Nat):Int)) hmany) (Dv (vH 0 rest.length) (d:=.lst ((List.range (((aR (p::rest)).length:Int)-1).toNat).map fun m=>.int (1+(m:Nat)))) (k:=0) decl_name% ?_ ?_)))
  ·refine EF (C:=tU (p::rest) m) (P:=fun ρ=>Al _ _ _ _ _ _ _ ρ) (aJ rfl (aJ rfl bW)) fun ρ s=>?_
   refine zw hw (by rw[List.length_cons];omega) rest 0 ρ rfl s (fun i hi=>?_) (fun hn ρ' s'=>?_)
   ·rw[hi]at hg
    cases hf:fN ((rest.map (·.2)).take m)with
    | some j=>rw[hf]at hg;cases hg;show tZ (j+1)=tZ (0+j+1);rw[Nat.zero_add]
    | none =>
     rw[hf]at hg
     dsimp only at hg⊢
     by_cases hq:m<rest.length
     ·rw[if_pos hq]at hg⊢;cases hg;rfl
     ·rw[if_neg hq]at hg;cases hg
   ·rw[hn]at hg
    cases hf:fN ((rest.map (·.2)).take m)with
    | some j=>rw[hf]at hg;cases hg
    | none =>
     rw[hf]at hg
     dsimp only at hg⊢
     by_cases hq:m<rest.length
     ·rw[if_pos hq]at hg;cases hg
     ·rw[if_neg hq]
      refine cS s' ?_
      by_cases hq2:rest.length<m
      ·rw[if_pos hq2]
       exact ci (t:=true) (k:=0) ((decl_name%).bl (decide_eq_true (by rw[ll];omega))) rfl (bf (aW ((decl_name%).eq (by rw[ll];rfl))))
      ·rw[if_neg hq2]
       have hall:ac (au gA (HZ ((ak (ag 50)).getD 4 (.Pass ⟨0,0,0,0⟩))) false (aa (ag 50)) (tU (p::rest) m)) (.bl (rest.all fun p=>decide (p.2=some 0)),0):=by
        refine dw (B:=gX) (aK (iG (l:=rest) (g:=fun p=>D.str (sN p.1)) (f:=fun p=>D.bl (decide (p.2=some 0))) (d:=.lst (aR rest)) (cn decl_name% decl_name% decl_name% sl) rfl (by show _<=40000;omega) (.inl (dN rest)) fun q hq=>?_) aY) (JQ _ rest)
        have hk:=hw q (List.mem_cons_of_mem _ hq)
        have ek:dR (.str (sN q.1)) (.str (Str.ofString "0"))=true:=d6 (fY (lz hk)) (by decide +kernel)
        refine⟨_,rfl,(decl_name%).bl ?_⟩
        rw[eS,show Str.ofString "0" = sN [48] by rw[js];rfl]
        exact decide_eq_decide.mpr ⟨fun z=>(FK hk).mp (fW z),fun z=>by rw[(FK hk).mpr z]⟩
       refine bg (t:=false) (k:=0) ((decl_name%).bl (decide_eq_false (by rw[ll];omega))) rfl ?_
       cases ha:(rest.all fun p=>decide (p.2=some 0))with
       | true =>
        rw[ha]at hall
        rw[if_pos rfl]
        exact ci (t:=true) (k:=0) hall rfl (bf (aW decl_name%))
       | false =>
        rw[ha]at hall
        rw[if_neg Bool.false_ne_true]
        exact bg (t:=false) (k:=0) hall rfl (bf (aW decl_name%))
  ·show some _=some _
   rw[ll,show((rest.length+1:Nat):Int)-1=(rest.length:Int) by omega,Int.toNat_natCast,List.range_eq_range',zg]
def xm:Fx:=Tb [] [] BL IL ML TL bw
def xt:List D->Rs D:=cG xm (aa (ag 45)) ["_law_cell_here", "_law_kind"] (ak (ag 45))
def ka:List D->Rs D:=B9 dI dI fun c k=>.ok (.int (ph c k)) [Builtin.Int.intBits c<=2 ^ 21]
theorem q9:∀ds r,ac (ka ds) r->ac (xt ds) r:=by
 intro ds r h
 obtain⟨c,k,rfl,h'⟩:=vf h
 obtain⟨rfl,hb,_⟩:=fL h'
 have hm:gB c (1000003 ^ Int.toNat 4):=Ec (Nat.le_trans hb (by decide)) Bu
 unfold ph
 by_cases h1:k.fmod 3=0
 ·rw[if_pos h1]
  exact bM (ci decl_name% (pJ h1) decl_name%)
 ·rw[if_neg h1]
  by_cases h2:k.fmod 3=1
  ·rw[if_pos h2]
   exact bM (bg decl_name% ((cV _ _).trans (decide_eq_false h1)) (ci decl_name% (pJ h2) decl_name%))
  ·rw[if_neg h2]
   exact bM (bg decl_name% ((cV _ _).trans (decide_eq_false h1)) (bg decl_name% ((cV _ _).trans (decide_eq_false h2)) decl_name%))
def FE:Fx:=Tb [] [] BL IL ML TL bw
def sU(j:Int):Str:=Txt.mul (Str.ofString "1") 39++Txt.slice (Str.ofString "23456") none (some j)
def pf(S:Str):List Str:=(["", "-0", "+1", "01", "-", "1/2", "1.0", "turn", "half", "mirror", "Turn", "--1", "1-", "0", "-7"]:List String).map Str.ofString++[S,Str.ofString "-" ++ S,Str.ofString "00"]
def ik:List D->Rs D:=fun ds=>match ds with
 | [.int c]=>(match (pf (sU ((c.fdiv 32).fmod 3)))[(c.fmod 18).toNat]? with|some x=>.ok (.str x) []|none=>.st)
 | _=>.st
theorem Im(c:Int):c.fmod 3=0\/c.fmod 3=1\/c.fmod 3=2:=by
 have k0:=Int.fmod_nonneg_of_pos c (show(0:Int)<3 by decide)
 have k1:=Int.fmod_lt_of_pos c (show(0:Int)<3 by decide)
 omega
theorem Rl(c:Int):c.fmod 4=0\/c.fmod 4=1\/c.fmod 4=2\/c.fmod 4=3:=by
 have k0:=Int.fmod_nonneg_of_pos c (show(0:Int)<4 by decide)
 have k1:=Int.fmod_lt_of_pos c (show(0:Int)<4 by decide)
 omega
theorem HB(c:Int):(Txt.mul (Str.ofString "1") 39).length+(Txt.slice (Str.ofString "23456") none (some (c.fmod 3))).length<=1000:=by
 rcases Im c with e|e|e<;>rw[e]<;>decide +kernel
theorem xp:∀ds r,ac (ik ds) r->xq FE (aa (ag 47)) ["_law_cell_here"] (ak (ag 47)) ds r:=by
 intro ds r h
 unfold ik at h
 split at h
 ·rename_i c
  split at h
  ·rename_i x e
   obtain⟨rfl,_⟩:=fL h
   have hl:=HB (c.fdiv 32)
   have i0:=Int.fmod_nonneg_of_pos c (show(0:Int)<18 by decide)
   refine⟨rfl,Rg.setM (l:=Str.ofString "1") (j:=39) (m:=Txt.slice (Str.ofString "23456") none (some ((c.fdiv 32).fmod 3))) decl_name% decl_name% ⟨by decide +kernel,by decide +kernel,by decide +kernel⟩ decl_name% hl rfl ?_⟩
   have hb:(Str.ofString "-").length+(sU ((c.fdiv 32).fmod 3)).length<=b8:=by
    have:(sU ((c.fdiv 32).fmod 3)).length=(Txt.mul (Str.ofString "1") 39).length+(Txt.slice (Str.ofString "23456") none (some ((c.fdiv 32).fmod 3))).length:=Str.length_append _ _
    rw[this]
    have h1:(Str.ofString "-").length=1:=by decide +kernel
    rw[h1]
    show _<=40000
    omega
   rw[show Txt.mul (Str.ofString "1") 39++Txt.slice (Str.ofString "23456") none (some ((c.fdiv 32).fmod 3))=sU ((c.fdiv 32).fmod 3)from rfl]
   generalize sU ((c.fdiv 32).fmod 3)=S at *
   refine Rg.base (cS (C:=cW [("_law_cell_here", .int c,false),("_law_long", .str S,true)]) (aJ rfl (aJ rfl bW)) (bA (bj (d:=.lst ((["", "-0", "+1", "01", "-", "1/2", "1.0", "turn", "half", "mirror", "Turn", "--1", "1-", "0", "-7"]:List String).map fun s=>D.str (Str.ofString s))) decl_name%) (bf (aW (cq (x:=.lst ((pf S).map D.str)) decl_name% decl_name% rfl ?_)))))
   have:=dS (xs:=(pf S).map D.str) (j:=(c.fmod 18).toNat) (v:=.str x) (by rw[List.getElem?_map,e];rfl)
   rw[Int.toNat_of_nonneg i0]at this
   exact this
  ·exact(ar h).elim
 ·exact(ar h).elim
theorem eF{s:String}(h:CQ (bY s)=true):∃w v,Str.ofString s=sN w/\Wk w v:=⟨bY s,none,eN s,Wk.bd _ h⟩
theorem KR(c:Int):∀x∈pf (sU (c.fmod 3)),∃w v,x=sN w/\Wk w v:=by
 intro x hx
 unfold pf at hx
 rcases List.mem_append.mp hx with hx|hx
 ·obtain⟨s,hs,rfl⟩:=List.mem_map.mp hx
  simp only[List.mem_cons,List.not_mem_nil,or_false]at hs
  rcases hs with rfl|rfl|rfl|rfl|rfl|rfl|rfl|rfl|rfl|rfl|rfl|rfl|rfl|rfl|rfl
  ·exact eF (by decide +kernel)
  ·exact eF (by decide +kernel)
  ·exact eF (by decide +kernel)
  ·exact eF (by decide +kernel)
  ·exact eF (by decide +kernel)
  ·exact eF (by decide +kernel)
  ·exact eF (by decide +kernel)
  ·exact eF (by decide +kernel)
  ·exact eF (by decide +kernel)
  ·exact eF (by decide +kernel)
  ·exact eF (by decide +kernel)
  ·exact eF (by decide +kernel)
  ·exact eF (by decide +kernel)
  ·exact⟨bb 0,some 0,by decide +kernel,Wk.tx 0 (by decide)⟩
  ·exact⟨bb (-7),some (-7),by decide +kernel,Wk.tx (-7) (by decide)⟩
 ·simp only[List.mem_cons,List.not_mem_nil,or_false]at hx
  have n39:(111111111111111111111111111111111111111:Int).natAbs<10 ^ 40:=by decide +kernel
  have n40:(1111111111111111111111111111111111111112:Int).natAbs<10 ^ 40:=by decide +kernel
  have m39:(-111111111111111111111111111111111111111:Int).natAbs<10 ^ 40:=by decide +kernel
  have m40:(-1111111111111111111111111111111111111112:Int).natAbs<10 ^ 40:=by decide +kernel
  rcases hx with rfl|rfl|rfl
  ·rcases Im c with e|e|e<;>rw[e]
   ·exact⟨bb 111111111111111111111111111111111111111,_,by decide +kernel,Wk.tx _ n39⟩
   ·exact⟨bb 1111111111111111111111111111111111111112,_,by decide +kernel,Wk.tx _ n40⟩
   ·exact⟨bY "11111111111111111111111111111111111111123", none,by decide +kernel,Wk.bd _ (by decide +kernel)⟩
  ·rcases Im c with e|e|e<;>rw[e]
   ·exact⟨bb (-111111111111111111111111111111111111111),_,by decide +kernel,Wk.tx _ m39⟩
   ·exact⟨bb (-1111111111111111111111111111111111111112),_,by decide +kernel,Wk.tx _ m40⟩
   ·exact⟨bY "-11111111111111111111111111111111111111123", none,by decide +kernel,Wk.bd _ (by decide +kernel)⟩
  ·exact eF (by decide +kernel)
theorem KQ(c:Int):∃w v,Wk w v/\ac (ik [.int c]) (.str (sN w)):=by
 have i0:=Int.fmod_nonneg_of_pos c (show(0:Int)<18 by decide)
 have i1:=Int.fmod_lt_of_pos c (show(0:Int)<18 by decide)
 have hl:(c.fmod 18).toNat<(pf (sU ((c.fdiv 32).fmod 3))).length:=by show _<18;omega
 obtain⟨w,v,e,hk⟩:=KR (c.fdiv 32) _ (List.getElem_mem hl)
 refine⟨w,v,hk,?_⟩
 unfold ik
 dsimp only
 rw[List.getElem?_eq_getElem hl,e]
 exact⟨_,rfl,True.intro⟩
def jc:Fx:=Tb [("_law_odd", ik)] [] BL IL ML TL bw
def jf:List D->Rs D:=cG jc (aa (ag 48)) ["_law_words", "_law_cell_here"] (ak (ag 48))
theorem mX{k:Nat}(a b:Ws)(h:a.length+b.length<=100):ac (iK .Add (.lst (aR a)) (.lst (aR b)) k 0) (.lst (aR (a++b)),0) :=
 ac.eq ⟨_,rfl,by rw[<- List.map_append];exact dN (a++b),by rw[List.length_map,List.length_map];show _<=40000;omega,True.intro⟩ (by rw[<- List.map_append])
theorem zD(hw:dE ws)(h0:ws≠[])(hl:ws.length<=20)(c:Int):∃ws',dE ws'/\ws'≠[]/\ws'.length<=ws.length+1/\ac (jf [.lst (aR ws),.int c]) (.lst (aR ws')):=by
 have hp:0<ws.length:=List.length_pos_iff.mpr h0
 have ll:(aR ws).length=ws.length:=List.length_map _
 have j0:=Int.fmod_nonneg_of_pos (c.fdiv 4) (show(0:Int)<(ws.length:Int) by omega)
 have j1:=Int.fmod_lt_of_pos (c.fdiv 4) (show(0:Int)<(ws.length:Int) by omega)
 obtain⟨a,ea⟩:∃a:Nat,(c.fdiv 4).fmod (ws.length:Int)=(a:Int):=⟨_,(Int.toNat_of_nonneg j0).symm⟩
 have ha:a<ws.length:=by omega
 obtain⟨w,v,hk,hO⟩:=KQ (c.fdiv 32)
 have dv:ib ((aR ws).length:Int):=⟨by rw[ll];omega,ud (by rw[ll];omega)⟩
 have hne:((aR ws).length:Int)≠0:=by rw[ll];omega
 have hbg:((aR ws).length:Int).natAbs<fO:=ud (by rw[ll];omega)
 have hllw:=dN ws
 have pre:∃ρ1,ac (az jc ((ak (ag 48)).take 2) (aa (ag 48)) (bI ["_law_words", "_law_cell_here"] [.lst (aR ws),.int c])) (.nx ρ1)/\Sub (cW [("_law_words", .lst (aR ws),false),("_law_cell_here", .int c,false),("_law_at", .int (a:Nat),true),("_law_word", .str (sN w),true)]) ρ1 :=
  ⟨_,bA (bj (d:=.int (a:Nat)) ((decl_name%).eq (by show(D.int ((c.fdiv 4).fmod ((aR ws).length:Int)),0)=_;rw[ll,ea]))) (bA (bj (d:=.str (sN w)) (aP decl_name% hO)) dm),aJ rfl (aJ rfl (aJ rfl (aJ rfl bW)))⟩
 obtain⟨ρ1,h1,s1⟩:=pre
 have e1:((a:Nat):Int)+1=((a+1:Nat):Int):=by omega
 have tk:dE (ws.take a):=fun p hp=>hw p (List.mem_of_mem_take hp)
 have dp:∀n,dE (ws.drop n):=fun n p hp=>hw p (List.mem_of_mem_drop hp)
 have one:dE [(w,v)]:=fun p hp=>by cases List.mem_singleton.mp hp;exact hk
 have lt:(ws.take a).length=a:=by rw[List.length_take];omega
 have ap:∀{x y:Ws},dE x->dE y->dE (x++y):=fun hx hy p hp=>by
  rcases List.mem_append.mp hp with z|z
  ·exact hx p z
  ·exact hy p z
 have hat:L2.atI (aR ws) (a:Int)=some (.str (sN ws[a].1)):=dS (by rw[List.getElem?_map,List.getElem?_eq_getElem ha];rfl)
 have sl1:=Gc ws a
 have sl2:=wp ws a
 have sl3:=wp ws (a+1)
 have eo:ac (k9 jc (some (.BinOp (.Name "_law_at" ⟨0,0,0,0⟩) .Add (.Constant (.int 1) 0 ⟨0,0,0,0⟩) ⟨0,0,0,0⟩)) (aa (ag 48)) (cW [("_law_words", .lst (aR ws),false),("_law_cell_here", .int c,false),("_law_at", .int (a:Nat),true),("_law_word", .str (sN w),true)])) (some ((a+1:Nat):Int)):=(decl_name%).eq (by rw[<- e1])
 rcases Rl c with e|e|e|e
 ·refine⟨ws.take a++[(w,v)]++ws.drop (a+1),ap (ap tk one) (dp _),by simp,by simp only[List.length_append,List.length_drop,lt,List.length_singleton];omega,?_⟩
  refine bM (fV 2 h1 (cS s1 (ci (t:=true) (k:=0) ((decl_name%).bl (pJ e)) rfl (bf (aW ?_)))))
  exact cA (k:=0) (j:=0) (cA (k:=0) (j:=0) (cn decl_name% decl_name% decl_name% sl1) decl_name% (mX (ws.take a) [(w,v)] (by rw[lt,List.length_singleton];omega))) (cn decl_name% eo decl_name% sl3) (mX _ (ws.drop (a+1)) (by simp only[List.length_append,List.length_drop,lt,List.length_singleton];omega))
 ·by_cases h2:1<ws.length
  ·refine⟨ws.take a++ws.drop (a+1),ap tk (dp _),fun z=>?_,by simp only[List.length_append,List.length_drop,lt];omega,?_⟩
   ·have:=congrArg List.length z
    simp only[List.length_append,List.length_drop,lt,List.length_nil]at this
    omega
   ·refine bM (fV 2 h1 (cS s1 (bg (t:=false) (k:=0) ((decl_name%).bl ((cV _ _).trans (decide_eq_false (by omega)))) rfl (ci (t:=true) (k:=0) (cz (oa ((decl_name%).bl (pJ e)) (oa ((decl_name%).bl (decide_eq_true (by show(1:Int)<((aR ws).length:Int);rw[ll];omega))) og))) rfl (bf (aW ?_))))))
    exact cA (k:=0) (j:=0) (cn decl_name% decl_name% decl_name% sl1) (cn decl_name% eo decl_name% sl3) (mX _ (ws.drop (a+1)) (by simp only[List.length_drop,lt];omega))
  ·refine⟨ws++[ws[a]],ap hw (fun p hp=>by cases List.mem_singleton.mp hp;exact hw _ (List.getElem_mem ha)),by simp,by simp,?_⟩
   refine bM (fV 2 h1 (cS s1 (bg (t:=false) (k:=0) ((decl_name%).bl ((cV _ _).trans (decide_eq_false (by omega)))) rfl (bg (t:=false) (k:=0) (cz (oa ((decl_name%).bl (pJ e)) (ef (b:=false) ((decl_name%).bl (decide_eq_false (by show ¬ (1:Int)<((aR ws).length:Int);rw[ll];omega))) (fun z=>by cases z) fun _=>rfl))) rfl (bg (t:=false) (k:=0) ((decl_name%).bl ((cV _ _).trans (decide_eq_false (by omega)))) rfl (bf (aW ?_)))))))
   exact cA (k:=1) (j:=0) decl_name% (by exact tR (k:=0) (aK (cq (k:=1) (k2:=0) decl_name% decl_name% rfl hat) aY) ⟨Nat.le_of_ble_eq_true rfl,Nat.zero_le 1⟩) (mX ws [ws[a]] (by rw[List.length_singleton];omega))
 ·refine⟨ws.take a++[(w,v)]++ws.drop a,ap (ap tk one) (dp _),by simp,by simp only[List.length_append,List.length_drop,lt,List.length_singleton];omega,?_⟩
  refine bM (fV 2 h1 (cS s1 (bg (t:=false) (k:=0) ((decl_name%).bl ((cV _ _).trans (decide_eq_false (by omega)))) rfl (bg (t:=false) (k:=0) (cz (ef (b:=false) ((decl_name%).bl ((cV _ _).trans (decide_eq_false (by omega)))) (fun z=>by cases z) fun _=>rfl)) rfl (ci (t:=true) (k:=0) ((decl_name%).bl (pJ e)) rfl (bf (aW ?_)))))))
  exact cA (k:=0) (j:=0) (cA (k:=0) (j:=0) (cn decl_name% decl_name% decl_name% sl1) decl_name% (mX (ws.take a) [(w,v)] (by rw[lt,List.length_singleton];omega))) (cn decl_name% decl_name% decl_name% sl2) (mX _ (ws.drop a) (by simp only[List.length_append,List.length_drop,lt,List.length_singleton];omega))
 ·refine⟨ws++[ws[a]],ap hw (fun p hp=>by cases List.mem_singleton.mp hp;exact hw _ (List.getElem_mem ha)),by simp,by simp,?_⟩
  refine bM (fV 2 h1 (cS s1 (bg (t:=false) (k:=0) ((decl_name%).bl ((cV _ _).trans (decide_eq_false (by omega)))) rfl (bg (t:=false) (k:=0) (cz (ef (b:=false) ((decl_name%).bl ((cV _ _).trans (decide_eq_false (by omega)))) (fun z=>by cases z) fun _=>rfl)) rfl (bg (t:=false) (k:=0) ((decl_name%).bl ((cV _ _).trans (decide_eq_false (by omega)))) rfl (bf (aW ?_)))))))
  exact cA (k:=1) (j:=0) decl_name% (by exact tR (k:=0) (aK (cq (k:=1) (k2:=0) decl_name% decl_name% rfl hat) aY) ⟨Nat.le_of_ble_eq_true rfl,Nat.zero_le 1⟩) (mX ws [ws[a]] (by rw[List.length_singleton];omega))
def ky:Fx:=Tb [] [("MOST_FIGURES", .int 40),("FIGURES", .str (Str.ofString "0123456789"))] BL IL ML TL bw
def fE:List D->Rs D:=cG ky (aa (ag 31)) ["text"] (ak (ag 31))
theorem QU(hd:∀c∈l,48<=c/\c<=57)(h0:l≠[])(h40:l.length<=40)(hh:l=[48]\/∃c r,l=c::r/\c≠48):ac (fE [.str (sN l)]) (.bl true):=by
 have hz:(sN l).length<=1048576:=by rw[bO];omega
 have hl:(sN l).length=l.length:=bO l
 have h1:1<=l.length:=by
  cases l with
  | nil=>exact absurd rfl h0
  | cons a l=>simp
 have hit:items (.str (sN l))=some (l.map fun c=>D.str (sN [c])):=by
  show(if ((sN l).cps.all fun c=>decide (c<128))=true then some (Sp.sgs (sN l))else none)=_
  rw[if_pos (Ac fun c hc=>by have:=hd c hc;omega),yq]
 have hs:ac (au ky (L4 ((ak (ag 31)).getD 1 (.Pass ⟨0,0,0,0⟩))) false (aa (ag 31)) (bI ["text"] [.str (sN l)])) (.bl (decide (l.head?=some 48)),0):=by
  refine decl_name%.bl ?_
  rw[show Str.ofString "0" = sN [48] by rw[js];rfl]
  exact B5 l 48
 refine bM (bg (cz (fD (decl_name%.bl (decide_eq_false (by rw[hl];omega))) (fD (decl_name%.bl (decide_eq_false (by rw[hl];omega))) k8))) rfl (bg (t:=false) (k:=0) (cz (ef hs ?_ fun _=>rfl)) rfl ?_))
 ·intro ht
  have ht:=of_decide_eq_true ht
  have e:l=[48]:=by
   rcases hh with e|⟨c,r,rfl,hc⟩
   ·exact e
   ·exfalso;apply hc;simpa using ht
  subst e
  exact ef (decl_name%.bl (decide_eq_false (by rw[hl];decide))) (fun z=>by cases z) fun _=>rfl
 ·refine bf (aW (dw (B:=gX) (aK (iG (l:=l) (g:=fun c=>D.str (sN [c])) (f:=fun _=>D.bl true) decl_name% hit (by show _<=40000;omega) (.inr (L3 _)) fun c hc=>?_) aY) (LM l)))
  have hc:=hd c hc
  exact⟨_,rfl,decl_name%.bl (Iq hc.1 hc.2)⟩
theorem QV(as:∀c∈l,c<128)(hn:l.length<=45):ac (fE [.str (sN l)]) (.bl (k7 l)):=by
 have hz:(sN l).length<=1048576:=by rw[bO];omega
 have hl:(sN l).length=l.length:=bO l
 have hs:Txt.startswith (sN l) (Str.ofString "0")=decide (l.head?=some 48):=by
  rw[show Str.ofString "0" = sN [48] by rw[js];rfl]
  exact B5 l 48
 unfold k7
 by_cases h1:1<=l.length
 ·by_cases h2:l.length<=40
  ·rw[decide_eq_true h1,decide_eq_true h2]
   refine bM (bg (t:=false) (k:=0) (cz (fD (decl_name%.bl (decide_eq_false (by rw[hl];omega))) (fD (decl_name%.bl (decide_eq_false (by rw[hl];omega))) k8))) rfl ?_)
   cases h3:(decide (l.head?=some 48)&&decide (1<l.length))with
   | true =>
    rw[Bool.and_eq_true]at h3
    exact ci (t:=true) (k:=0) (cz (oa (decl_name%.bl (hs.trans h3.1)) (oa (decl_name%.bl (decide_eq_true (by rw[hl];have:=of_decide_eq_true h3.2;omega))) og))) rfl (bf (aW decl_name%))
   | false =>
    refine bg (t:=false) (k:=0) (cz ?_) rfl ?_
    ·refine ef (decl_name%.bl hs) (fun z=>ef (b:=false) (decl_name%.bl (decide_eq_false ?_)) (fun z=>by cases z) fun _=>rfl) fun _=>rfl
     rw[z,Bool.true_and]at h3
     have:=of_decide_eq_false h3
     rw[hl];omega
    ·show ac _ (Fl.rt (.bl (l.all gh)))
     refine bf (aW (dw (B:=gX) (aK (iG (l:=l) (g:=fun c=>D.str (sN [c])) (f:=fun c=>D.bl (gh c)) decl_name% (Cu as) (by show _<=40000;omega) (.inr (Nat.zero_le 1)) fun c hc=>?_) aY) (LN gh l)))
     exact⟨_,rfl,decl_name%.bl (CF c (as c hc))⟩
  ·rw[decide_eq_false h2,Bool.and_false,Bool.false_and]
   exact bM (ci (t:=true) (k:=0) (cz (fD (decl_name%.bl (decide_eq_false (by rw[hl];omega))) (fZ (b:=true) (decl_name%.bl (decide_eq_true (by rw[hl];omega))) (fun z=>by cases z) fun _=>rfl))) rfl (bf (aW decl_name%)))
 ·rw[decide_eq_false h1,Bool.false_and,Bool.false_and]
  exact bM (ci (t:=true) (k:=0) (cz (fZ (b:=true) (decl_name%.bl (decide_eq_true (by rw[hl];omega))) (fun z=>by cases z) fun _=>rfl)) rfl (bf (aW decl_name%)))
def iL:Fx:=Tb [("are_figures", fE)] [] BL IL ML TL bw
def dX:List D->Rs D:=cG iL (aa (ag 30)) ["word"] (ak (ag 30))
theorem FI(h:i.natAbs<10 ^ 40):ac (dX [.str (sN (bb i))]) (.int i):=by
 have hl:=gE h
 have h2:(sN (bb i)).length<=1048576:=by rw[bO];omega
 have h3:(sN (bb i)).length<=640:=by rw[bO];omega
 have ei:=nN (i:=i) (by omega)
 have hd:=tY (m:=i.natAbs) (k:=40) (by decide) h
 have hf:=QU (gi i.natAbs) (rE _) hd (vU _)
 have sk:PyData.strOk (sN (bb i))=true:=fY (xY i)
 have ek:dR (.str (sN (bb i))) (.str (Str.ofString "-0"))=true:=d6 sk (by decide +kernel)
 have st:Txt.startswith (sN (bb i)) (Str.ofString "-")=decide (i<0):=by
  rw[show Str.ofString "-" = sN [45] by rw[js];rfl,B5]
  exact decide_eq_decide.mpr (jN i)
 have hfig:ac (au iL (JI ((ak (ag 30)).getD 0 (.Pass ⟨0,0,0,0⟩))) false (aa (ag 30)) (bI ["word"] [.str (sN (bb i))])) (.str (sN (cH i.natAbs)),0):=by
  refine lM (decl_name%.bl st) (fun z=>?_) (fun z=>?_)
  ·have hi:=of_decide_eq_true z
   refine decl_name%.eq ?_
   show(D.str (Txt.slice (sN (bb i)) (some 1) none),0)=_
   rw[show bb i=45::cH i.natAbs from if_pos hi,CM]
  ·have hi:=of_decide_eq_false z
   refine decl_name%.eq ?_
   show(D.str (sN (bb i)),0)=_
   rw[show bb i=cH i.natAbs from if_neg hi]
 have hint:ac (gk [.str (sN (bb i))]) (.int i,0):=by
  unfold gk;dsimp only;rw[ei]
  exact⟨_,rfl,h3,True.intro⟩
 exact bM (bA (bj hfig) (bg (cz (fD (decl_name%.bl (by rw[eS];exact decide_eq_false (Do i))) (fD (CH (aP decl_name% hf) rfl) k8))) rfl (bf (aW (dw (B:=gk) decl_name% hint)))))
theorem FJ(as:∀c∈l,c<128)(hn:l.length<=45)(h:(decide (l=[45,48]) || !k7 (dJ l))=true):ac (dX [.str (sN l)]) .non:=by
 have h2:(sN l).length<=1048576:=by rw[bO];omega
 have hf:=QV (ye as) (by have:=yd l;omega)
 have ek:dR (.str (sN l)) (.str (Str.ofString "-0"))=true:=d6 (fY as) (by decide +kernel)
 have ed:eqD (.str (sN l)) (.str (Str.ofString "-0"))=decide (l=[45,48]):=by
  rw[eS,show Str.ofString "-0" = sN [45,48] by rw[js];rfl]
  exact decide_eq_decide.mpr ⟨fW,fun z=>by rw[z]⟩
 have st:Txt.startswith (sN l) (Str.ofString "-")=decide (l.head?=some 45):=by
  rw[show Str.ofString "-" = sN [45] by rw[js];rfl,B5]
 have hfig:ac (au iL (JI ((ak (ag 30)).getD 0 (.Pass ⟨0,0,0,0⟩))) false (aa (ag 30)) (bI ["word"] [.str (sN l)])) (.str (sN (dJ l)),0):=by
  refine lM (decl_name%.bl st) (fun z=>?_) (fun z=>?_)
  ·have hi:=of_decide_eq_true z
   refine decl_name%.eq ?_
   show(D.str (Txt.slice (sN l) (some 1) none),0)=_
   rw[show dJ l=l.tail from if_pos hi,zz hi]
  ·have hi:=of_decide_eq_false z
   refine decl_name%.eq ?_
   show(D.str (sN l),0)=_
   rw[show dJ l=l from if_neg hi]
 refine bM (bA (bj hfig) (ci (t:=true) (k:=0) (cz ?_) rfl (bf (aW decl_name%))))
 by_cases h0:l=[45,48]
 ·exact fZ (b:=true) (decl_name%.bl (ed.trans (decide_eq_true h0))) (fun z=>by cases z) fun _=>rfl
 ·rw[decide_eq_false h0,Bool.false_or]at h
  have h:k7 (dJ l)=false:=by simpa using h
  rw[h]at hf
  exact fD (decl_name%.bl (ed.trans (decide_eq_false h0))) (fZ (b:=true) (CH (aP decl_name% hf) rfl) (fun z=>by cases z) fun _=>rfl)
def c7:Fx:=Tb [("whole_read", dX)] [] BL IL ML TL bw
noncomputable def jL:Str->Option (List D->Option Xs):=fun g=>([]:List (Str×(List D->Option Xs))).lookup g
def dA:ji:=fun g=>([]:List (Str×List (Str×Int))).lookup g
def dW:List D->Rs D:=fun ds=>match ds with
 | [.lst (w::l)]=>(match vi l with|some ns=>.ok (.tup (ns.map D.int)) [∃x,w=.str x,l=ns.map bX,ns.length<=4,∀n∈ns,n.natAbs<10 ^ 40]|none=>.st)
 | _=>.st
theorem Hq(hn:ns.length<=4)(h:∀n∈ns,n.natAbs<10 ^ 40):ac (dW [.lst (.str x::ns.map bX)]) (.tup (ns.map D.int)):=by
 show ac (match vi (ns.map bX)with|some ms=>Rs.ok (D.tup (ms.map D.int)) _|none=>.st) _
 rw[sC h]
 exact⟨_,rfl,⟨x,rfl⟩,rfl,hn,h,True.intro⟩
theorem Cj:∀(ns ms:List Int) (i:Nat) (ρ:ae),ns.length+ms.length<=4->(∀n∈ns,n.natAbs<10 ^ 40)->Sub (cW [("numbers", .lst (ms.map D.int),true)]) ρ ->
  ∃ρ',uy c7 (aa (ag 40)) (CD ((ak (ag 40)).getD 1 (.Pass ⟨0,0,0,0⟩))) (ij ((ak (ag 40)).getD 1 (.Pass ⟨0,0,0,0⟩))) (fh i (ns.map bX)) ρ ρ'/\Sub (cW [("numbers", .lst ((ms++ns).map D.int),true)]) ρ':=by
 intro ns
 induction ns with
 | nil=>intro ms i ρ _ _ s;exact⟨ρ,.nil,by rw[List.append_nil];exact s⟩
 | cons n ns ih =>
  intro ms i ρ hl h s
  have hw:=FI (h n List.mem_cons_self)
  rw[List.length_cons]at hl
  have hm:(ms.map D.int).length<b8:=by rw[List.length_map];show _<40000;omega
  obtain⟨ρ2,h2,s2⟩:=iu ((s.put (Str.ofString "place") (.int (i:Nat),false)).put (Str.ofString "word") (bX n,false)) (ss:=ij ((ak (ag 40)).getD 1 (.Pass ⟨0,0,0,0⟩))) (Φ:=c7) (sc:=aa (ag 40)) (P:=fun ρ'=>Sub (cW [("numbers", .lst ((ms++[n]).map D.int),true)]) ρ') (bA (bj (aP decl_name% hw)) (bg decl_name% rfl decl_name%)) (fun ρ' z=>aJ (by rw[List.map_append];exact z.get) bW)
  obtain⟨ρ3,w,s3⟩:=ih (ms++[n]) (i+1) ρ2 (by rw[List.length_append,List.length_singleton];omega) (fun v hv=>h v (List.mem_cons_of_mem _ hv)) s2
  refine⟨ρ3,.cons rfl h2 w,?_⟩
  rw[List.append_assoc]at s3
  exact s3
theorem lW:∀ds r,ac (dW ds) r->xr c7 dA (aa (ag 40)) ["words"] (ak (ag 40)) ds r:=by
 intro ds r h
 unfold dW at h
 split at h
 ·rename_i w l
  split at h
  ·rename_i ns e
   obtain⟨rfl,⟨x,rfl⟩,rfl,hn,hb,_⟩:=fL h
   refine⟨rfl,?_⟩
   obtain⟨ρ',hf,s⟩:=Cj ns [] 1 (demL [.Subscript (.Name (Str.ofString "words") ⟨0,0,0,0⟩) (.Constant .none 0 ⟨0,0,0,0⟩) ⟨0,0,0,0⟩] (bz (bI ["words"] [.lst (.str x::ns.map bX)]) (Str.ofString "numbers") (.lst [],true))) (by simpa using hn) hb (aJ rfl bW)
   have hl1:ax (([]++ns).map D.int)=true:=tf ns
   have hl2:ax (.str x::ns.map bX)=true:=rP ns
   have hsl:ac (c7.slf (.lst (.str x::ns.map bX)) (some 1) none) (.lst (fG (.str x::ns.map bX) (some 1) none),0):=decl_name%
   rw[IW _ hn]at hsl
   refine Rd.cut 1 decl_name% (Rd.forE (l:=ns.map bX) (k:=0) ?_ (rP ns) (Nat.zero_le 1) rfl rfl hf (Rd.rf (.base (cS s decl_name%))))
   exact aK (cn decl_name% decl_name% decl_name% (r:=(.lst (ns.map bX),0)) hsl) aY
  ·exact(ar h).elim
 ·exact(ar h).elim
abbrev BQ(i:Int):Xs:=(Str.ofString "NoText", Str.ofString "SpaceError", [(Str.ofString "at", i)])
def vD(d:D):Option Int:=match dX [d]with
 | .ok (.int i) _=>some i
 | _=>none
theorem FL{v:Option Int}(h:Wk w v):vD (.str (sN w))=v:=by
 unfold vD
 cases h with
 | tx i h=>obtain⟨l,e,_⟩:=FI h;rw[e]
 | bd _ h =>
  obtain⟨h1,h2,h3⟩:=jH h
  obtain⟨l,e,_⟩:=FJ (fun c hc=>(h1 c hc).2) (by omega) h3
  rw[e]
theorem FM:∀{ws:Ws},dE ws->(aR ws).map vD=ws.map (·.2)
 | [],_=>rfl
 | p::ws,h=>by
  show vD (.str (sN p.1))::(aR ws).map vD=p.2::ws.map (·.2)
  rw[FL (h p List.mem_cons_self),FM fun q hq=>h q (List.mem_cons_of_mem _ hq)]
theorem re:∀{ws:Ws} {is:List Int},dE ws->ws.map (·.2)=is.map some->aR ws=is.map bX/\∀n∈is,n.natAbs<10 ^ 40
 | [],[],_,_=>⟨rfl,fun n hn=>by cases hn⟩
 | [],i::is,_,e=>by cases e
 | p::ws,[],_,e=>by cases e
 | p::ws,i::is,hw,e=>by
  rw[List.map_cons,List.map_cons]at e
  injection e with e1 e2
  have e1:p.2=some i:=e1
  have hp:=hw p List.mem_cons_self
  rw[e1]at hp
  obtain⟨h1,h2⟩:=Ke hp
  obtain⟨h3,h4⟩:=re (fun q hq=>hw q (List.mem_cons_of_mem _ hq)) e2
  refine⟨?_,fun n hn=>?_⟩
  ·show D.str (sN p.1)::aR ws=bX i::is.map bX
   rw[h1,h3];rfl
  ·rcases List.mem_cons.mp hn with rfl|hn
   ·exact h2
   ·exact h4 n hn
theorem vO:∀(n:Nat) (a b:List D),fh n (a++b)=fh n a++fh (n+a.length) b
 | n,[],b=>rfl
 | n,x::a,b=>by
  show D.tup [.int (n:Nat),x]::fh (n+1) (a++b)=_::(fh (n+1) a++_)
  rw[vO (n+1) a b,List.length_cons,show n+1+a.length=n+(a.length+1) by omega]
def Rm:List D->Option Xs:=fun ds=>match ds with
 | [.lst (_::l)]=>(fN (l.map vD)).map fun j=>BQ ((j+1:Nat):Int)
 | _=>none
noncomputable def dU:List D->Option Xs:=qH Rm fun ds r=>ds.length=1/\cK c7 jL EX dA (aa (ag 40)) (ak (ag 40)) (bI ["words"] ds) r
theorem lU:∀ds r,dU ds=some r->ds.length=1/\cK c7 jL EX dA (aa (ag 40)) (ak (ag 40)) (bI ["words"] ds) r:=fun ds r h=>vW h
theorem CB{j:Int}(h:j.natAbs<=30):j.natAbs<2 ^ 1900:=Nat.lt_of_le_of_lt h (Nat.lt_of_lt_of_le (show 30<2 ^ 7 by decide) (Nat.pow_le_pow_right (by decide) (by decide)))
theorem QX(hw:dE ws)(hl:ws.length<=4)(e:fN (ws.map (·.2))=some j):dU [.lst (aR (p::ws))]=some (BQ ((j+1:Nat):Int)):=by
 have ll:=dN (p::ws)
 refine zE (by show(fN ((aR ws).map vD)).map _=_;rw[FM hw,e];rfl) ⟨rfl,?_⟩
 obtain⟨jl,ja,is,jt⟩:=CG e
 rw[List.length_map]at jl
 have hp:ws[j].2=none:=by
  rw[List.getElem?_map,List.getElem?_eq_getElem jl]at ja
  injection ja
 have ew:ws=ws.take j++ws[j]::ws.drop (j+1):=by rw[<- List.drop_eq_getElem_cons jl,List.take_append_drop]
 have lt:(ws.take j).length=j:=by rw[List.length_take];omega
 obtain⟨tx,tb⟩:=re (ws:=ws.take j) (is:=is) (fun p h=>hw p (List.mem_of_mem_take h)) (by rw[List.map_take];exact jt)
 have il:is.length=j:=by
  have:=congrArg List.length tx
  rw[List.length_map,List.length_map,lt]at this
  exact this.symm
 have hd:fh 1 (aR ws)=fh 1 (is.map bX)++D.tup [.int ((j+1:Nat):Int),.str (sN ws[j].1)]::fh (j+1+1) (aR (ws.drop (j+1))):=by
  rw[<- tx]
  conv=>lhs;rw[ew]
  rw[show aR (ws.take j++ws[j]::ws.drop (j+1))=aR (ws.take j)++(.str (sN ws[j].1)::aR (ws.drop (j+1)))from List.map_append,vO,List.length_map,lt,Nat.add_comm 1 j]
  rfl
 have hk:=hw ws[j] (List.getElem_mem jl)
 rw[hp]at hk
 have hpr:ac (dX [.str (sN ws[j].1)]) .non:=by
  generalize ws[j].1=w at *
  cases hk with
  | bd _ h =>
   obtain⟨h1,h2,h3⟩:=jH h
   exact FJ (fun c hc=>(h1 c hc).2) (by omega) h3
 obtain⟨ρ',h1,s1⟩:=Cj is [] 1 (demL [.Subscript (.Name (Str.ofString "words") ⟨0,0,0,0⟩) (.Constant .none 0 ⟨0,0,0,0⟩) ⟨0,0,0,0⟩] (bz (bI ["words"] [.lst (aR (p::ws))]) (Str.ofString "numbers") (.lst [],true))) (by simp;omega) tb (aJ rfl bW)
 have s2:=(s1.put (Str.ofString "place") (.int ((j+1:Nat):Int),false)).put (Str.ofString "word") (.str (sN ws[j].1),false)
 have s3:=s2.put (Str.ofString "number") (.non,true)
 have sl:=wp (p::ws) 1
 refine cK.step (bj (d:=.lst []) decl_name%) (cK.forE (l:=aR ws) (k:=0) (fh 1 (is.map bX)) (fun z=>by cases z) (by exact aK (cn decl_name% decl_name% decl_name% (r:=(.lst (aR ws),0)) sl) aY) (dN ws) (Nat.zero_le 1) rfl rfl hd h1 rfl (Rz.step (bj (d:=.non) (aP (pk decl_name% s2) hpr)) (Rz.iff (t:=true) (k:=0) (fv s3 decl_name%) (Rz.raiseF (i:=((j+1:Nat):Int)) (k:=0) (fv s3 decl_name%) (CB (by omega)) rfl (by decide +kernel) rfl))))
def uP:Fx:=Tb [] [] BL IL ML TL bw
def je:List D->Rs D:=cG uP (aa (ag 17)) ["one", "other"] (ak (ag 17))
theorem MX(a b:Nat)(ha:a<2 ^ 1000)(hb:b<2 ^ 1000):ac (je [.int a,.int b]) (.int (Nat.gcd a b:Nat)):=by
 refine bM (yg (m:=2002) (fun m ρ => ∃(x y:Nat) (f g:Bool),Di x y m/\Nat.gcd x y=Nat.gcd a b/\Sub (cW [("one", .int x,f),("other", .int y,g)]) ρ) ⟨a,b,false,false,Pn ha hb,rfl,aJ rfl (aJ rfl bW)⟩ (by decide) ?_ ?_)
 ·rintro m ρ ⟨x,y,f,g,hm,hg,s⟩
  refine⟨!decide ((y:Int)=0),0,fv s (decl_name%.bl (by show(!eqD (.int y) (.int 0))=_;rw[cV])),fun ht=>?_⟩
  have h0:y≠0:=by
   intro z;subst z;exact absurd ht (by decide)
  have hn:(y:Int)≠0:=by omega
  obtain⟨m',hm',hE⟩:=EO hm h0
  have e:=Il x y
  exact Dm hm' (iu s decl_name% fun ρ' s'=>⟨y,x % y,true,true,hE,by rw[<- hg,Nat.gcd_comm x y,Nat.gcd_rec y x,Nat.gcd_comm],aJ s'.get (aJ (by rw[<- e];exact s'.get) bW)⟩)
 ·rintro m ρ ⟨x,y,f,g,hm,hg,s⟩ ⟨k,hk⟩
  have e:=hk.inj (fv s decl_name%)
  have h0:y=0:=by
   have e1:(!eqD (.int y) (.int 0))=false:=by injection e with e1 e2;injection e1 with e1;exact e1.symm
   rw[cV]at e1
   have:(y:Int)=0:=by simpa using e1
   omega
  subst h0
  rw[<- hg,Nat.gcd_zero_right]
  exact cS s decl_name%
def mY:Fx:=Tb [("shared_by", je)] [] BL IL ML TL bw
def m7:List D->Rs D:=cG mY (aa (ag 16)) ["numbers"] (ak (ag 16))
def cf:List D->Rs D
 | [.tup l]=>.ok (.int (i6 l)) [okT l]
 | _=>.st
theorem kD:∀ds r,ac (cf ds) r->ac (m7 ds) r:=by
 intro ds r h
 unfold cf at h
 split at h
 ·obtain⟨rfl,⟨ns,rfl,hl,hb⟩,_⟩:=fL h
  rw[jU]
  refine bM (fV 1 decl_name% (vd (ds:=ns.map D.int) (fun rem ρ => ∃(r:List Int) (g:Nat),rem=r.map D.int/\(∀n∈r,n.natAbs<2 ^ 1000)/\bP g r=bP 0 ns/\g<2 ^ 1000/\Sub (cW [("reached", .int g,true)]) ρ) decl_name% ⟨ns,0,rfl,hb,rfl,Nat.pow_pos (by decide),aJ rfl bW⟩ ?_ ?_ rfl (L3 (.tup (ns.map D.int)))))
  ·rintro d l ρ ⟨r,g,hr,hb',hg,hlt,s⟩
   cases r with
   | nil=>cases hr
   | cons n r =>
    cases hr
    have hn:=hb' n List.mem_cons_self
    have ea:(if n<0 then -n else n)=((n.natAbs:Nat):Int):=by omega
    have k:=MX g n.natAbs hlt hn
    refine⟨_,rfl,iu (s.put _ _) (bA (bj (aP (v:=.int (Nat.gcd g n.natAbs:Nat)) (decl_name%.eq (by rw[ea])) k)) dm) fun ρ' s'=>⟨r,Nat.gcd g n.natAbs,rfl,fun m hm=>hb' m (List.mem_cons_of_mem _ hm),hg,?_,aJ s'.get bW⟩⟩
    rcases Nat.eq_zero_or_pos g with z|z
    ·subst z;rw[Nat.gcd_zero_left];exact hn
    ·exact Nat.lt_of_le_of_lt (Nat.le_of_dvd z (Nat.gcd_dvd_left _ _)) hlt
  ·rintro ρ ⟨r,g,hr,hb',hg,hlt,s⟩
   cases r with
   | nil =>
    rw[<- hg]
    exact cS s decl_name%
   | cons n r=>cases hr
 ·exact(ar h).elim
def uO:Fx:=Tb [] [] BL IL ML TL bw
def fA:List D->Rs D:=cG uO (aa (ag 18)) ["numbers", "divisor"] (ak (ag 18))
def qO:Fx:=Tb [("common_divisor", cf),("shortened", fA)] [] BL IL ML TL bw
noncomputable def Ae:Str->Option (List D->Option Xs):=fun g=>([]:List (Str×(List D->Option Xs))).lookup g
def eZ:List D->Rs D:=cG qO (aa (ag 19)) ["numbers"] (ak (ag 19))
theorem Dy(x y z w K:Int)(hK:ib K):ac (fA [t4 x y z w,.int K]) (t4 (x.fdiv K) (y.fdiv K) (z.fdiv K) (w.fdiv K)):=fo rfl (by walk_at "ob")
theorem BR(hk:k≠0)(p:Pm a b c d)(hT:okT (([k*a,k*b,k*c,k*d]:List Int).map D.int))(kb:k.natAbs<fO):ac (eZ [t4 (k*a) (k*b) (k*c) (k*d)]) (t4 a b c d):=by
 have hn:¬ (k*a=0/\k*b=0/\k*c=0/\k*d=0):=fun z=>p.ne ⟨(Int.mul_eq_zero.mp z.1).resolve_left hk,(Int.mul_eq_zero.mp z.2.1).resolve_left hk,(Int.mul_eq_zero.mp z.2.2.1).resolve_left hk,(Int.mul_eq_zero.mp z.2.2.2).resolve_left hk⟩
 have hg:i6 (([k*a,k*b,k*c,k*d]:List Int).map D.int)=k.natAbs:=by rw[pz];exact Cq hk p
 have hl:=yW hn
 rw[mM _ _ _ _ hk]at hl
 have pos:=p.pos
 have fd:∀x:Int,(k*x).fdiv k=x:=fun x=>Int.mul_fdiv_cancel_left x hk
 have fin:=Dy (k*a) (k*b) (k*c) (k*d) k ⟨hk,kb⟩
 rw[fd,fd,fd,fd]at fin
 have hD:ac (cf [t4 (k*a) (k*b) (k*c) (k*d)]) (.int (k.natAbs:Nat)):=⟨[okT (([k*a,k*b,k*c,k*d]:List Int).map D.int)],by rw[<- hg];rfl,hT,True.intro⟩
 have k0:¬ ((k.natAbs:Nat):Int)=0:=by omega
 refine bM (bA (bj (d:=.int (k.natAbs:Nat)) (aP decl_name% hD)) (bg decl_name% ((cV _ _).trans (decide_eq_false k0)) (bA (bj (d:=.int (k*ej a b c d)) (cq (k:=0) (pG (out:=((([k*a,k*b,k*c,k*d]:List Int).filter fun t => !decide (t=0)).map D.int)) (j:=0) decl_name% (ds:=([k*a,k*b,k*c,k*d]:List Int).map D.int) rfl ⟨Nat.le_of_ble_eq_true rfl,.inl rfl⟩ (iI (g:=D.int) (f:=D.int) (c:=fun t => !decide (t=0)) (fun x _=>?_)) (Nat.zero_le 1)) decl_name% rfl hl)) ?_)))
 ·refine ac.bnd (a:=!decide (x=0)) (ef (b:=!decide (x=0)) (c:=!decide (x=0)) (decl_name%.bl (by show(!eqD (.int x) (.int 0))=_;rw[cV])) (fun h=>by rw[h];exact og) id) ?_
  cases decide (x=0)
  ·exact ac.bnd decl_name% cw
  ·exact cw
 ·refine bf (aW (aP (aK decl_name% (aK (lM (r:=(.int k,0)) decl_name% (fun ht=>?_) (fun hf=>?_)) aY)) fin))
  ·have hlt:0<k*ej a b c d:=of_decide_eq_true ht
   have kp:0<k:=by
    rcases Int.lt_or_gt_of_ne hk with q|q
    ·have:=Int.mul_neg_of_neg_of_pos q pos;omega
    ·exact q
   exact ac.eq decl_name% (by rw[show((k.natAbs:Nat):Int)=k by omega];rfl)
  ·have hge:¬ 0<k*ej a b c d:=of_decide_eq_false hf
   have kp:k<0:=by
    rcases Int.lt_or_gt_of_ne hk with q|q
    ·exact q
    ·have:=Int.mul_pos q pos;omega
   exact ac.eq decl_name% (by show(D.int (-((k.natAbs:Nat):Int)),0)=_;rw[show -((k.natAbs:Nat):Int)=k by omega])
def sZ:D->Bool
 | .tup [.int a,.int b,.int c]=>decide (a=0/\b=0/\c=0)
 | _=>false
theorem sY{d:D}(h:sZ d=true):d=d3 0 0 0:=by
 unfold sZ at h
 split at h
 ·obtain⟨rfl,rfl,rfl⟩:=of_decide_eq_true h;rfl
 ·cases h
def b4:List D->Option Xs:=fun ds=>match ds with
 | [q]=>if (kS q || sZ q)=true then some pY else none
 | _=>none
theorem uk:∀ds r,b4 ds=some r->ds.length=1/\Rz qO Ae EX (aa (ag 19)) (ak (ag 19)) (bI ["numbers"] ds) r:=by
 intro ds r h
 unfold b4 at h
 split at h
 ·rename_i q
  split at h
  ·rename_i hq
   cases h
   have hq:kS q=true\/sZ q=true:=by
    cases h1:kS q with
    | true=>exact .inl rfl
    | false=>rw[h1]at hq;exact .inr hq
   rcases hq with hq|hq
   ·cases y8 hq
    have hT:okT (([0,0,0,0]:List Int).map D.int):=Ca (m:=1) (by decide) (by
     intro t ht
     simp only[List.mem_cons,List.not_mem_nil,or_false]at ht
     rcases ht with rfl|rfl|rfl|rfl<;>decide)
    have e0:i6 (([0,0,0,0]:List Int).map D.int)=0:=by rw[jU];rfl
    exact⟨rfl,Rz.step (bj (d:=.int 0) (ac.eq decl_name% (by show(D.int (i6 (([0,0,0,0]:List Int).map D.int)),0)=_;rw[e0]))) (Rz.iff (t:=true) (k:=0) decl_name% (Rz.raise decl_name% rfl (by decide +kernel) rfl))⟩
   ·cases sY hq
    have hT:okT (([0,0,0]:List Int).map D.int):=kN (k:=1) (by decide) (Nat.le_of_ble_eq_true rfl) (by
     intro t ht
     simp only[List.mem_cons,List.not_mem_nil,or_false]at ht
     rcases ht with rfl|rfl|rfl<;>decide)
    have e0:i6 (([0,0,0]:List Int).map D.int)=0:=by rw[jU];rfl
    exact⟨rfl,Rz.step (bj (d:=.int 0) (ac.eq decl_name% (by show(D.int (i6 (([0,0,0]:List Int).map D.int)),0)=_;rw[e0]))) (Rz.iff (t:=true) (k:=0) decl_name% (Rz.raise decl_name% rfl (by decide +kernel) rfl))⟩
  ·cases h
 ·cases h
def ur:Fx:=Tb [("common_divisor", cf),("shortened", fA)] [] BL IL ML TL bw
def m5:List D->Rs D:=cG ur (aa (ag 22)) ["table"] (ak (ag 22))
theorem A1(n a b c d e f g h i G:Int)(hG:ib G):ac (az ur ((ak (ag 22)).drop 2) (aa (ag 22)) (cW [("n", .int n,false),("rows", .tup [d3 a b c,d3 d e f,d3 g h i],false),("common", .int G,true)])) (.rt (.tup [.int (n.fdiv G),.tup [d3 (a.fdiv G) (b.fdiv G) (c.fdiv G),d3 (d.fdiv G) (e.fdiv G) (f.fdiv G),d3 (g.fdiv G) (h.fdiv G) (i.fdiv G)]])):=fo rfl (by walk_at "ob")
theorem K5{n e f g h:Int}(hn:0<n)(nb:n.natAbs<fO)(hT:okT ([n,a,b,c,d,e,f,g,h,i].map D.int)):ac (m5 [.tup [.int n,.tup [d3 a b c,d3 d e f,d3 g h i]]]) (.tup [.int (n.fdiv (gI [n,a,b,c,d,e,f,g,h,i])),.tup [d3 (a.fdiv (gI [n,a,b,c,d,e,f,g,h,i])) (b.fdiv (gI [n,a,b,c,d,e,f,g,h,i])) (c.fdiv (gI [n,a,b,c,d,e,f,g,h,i])),d3 (d.fdiv (gI [n,a,b,c,d,e,f,g,h,i])) (e.fdiv (gI [n,a,b,c,d,e,f,g,h,i])) (f.fdiv (gI [n,a,b,c,d,e,f,g,h,i])),d3 (g.fdiv (gI [n,a,b,c,d,e,f,g,h,i])) (h.fdiv (gI [n,a,b,c,d,e,f,g,h,i])) (i.fdiv (gI [n,a,b,c,d,e,f,g,h,i]))]]):=by
 have h0:0<gI [n,a,b,c,d,e,f,g,h,i]:=zm (n:=n) (by simp) (by omega)
 have hd:ib (gI [n,a,b,c,d,e,f,g,h,i]):=⟨by omega,Nat.lt_of_le_of_lt (Ln (n:=n) (by simp) (by omega)) nb⟩
 rw[<- pz]at hd⊢
 exact bM (fV 2 decl_name% (cS (aJ rfl (aJ rfl (aJ rfl bW))) (A1 n _ _ _ _ _ _ _ _ _ _ hd)))
def oK:Fx:=Tb [("upright", eZ),("lowest", m5)] [] BL IL ML TL bw
noncomputable def xj:Str->Option (List D->Option Xs):=fun g=>([("upright", b4)]:List (Str×(List D->Option Xs))).lookup g
def ic:List D->Rs D:=cG oK (aa (ag 24)) ["numbers"] (ak (ag 24))
theorem BV(hk:k≠0)(p:Pm a b c d)(hT:okT (([k*a,k*b,k*c,k*d]:List Int).map D.int))(kb:k.natAbs<fO)(ha:a.natAbs<=2 ^ 140)(hb:b.natAbs<=2 ^ 140)(hc:c.natAbs<=2 ^ 140)(hd:d.natAbs<=2 ^ 140):ac (ic [t4 (k*a) (k*b) (k*c) (k*d)]) (wc a b c d):=by
 have aB:=gS ha (by decide)
 have bB:=gS hb (by decide)
 have cB:=gS hc (by decide)
 have dB:=gS hd (by decide)
 have dbl:∀{x:Int},x.natAbs<=2 ^ 140->(2*x).natAbs<fO:=fun {x} hx=>gS (m:=141) (by rw[Int.natAbs_mul,Nat.pow_succ,Nat.mul_comm];exact Nat.mul_le_mul_right _ hx) (by decide)
 have a2:=dbl ha
 have b2:=dbl hb
 have c2:=dbl hc
 have hL:=K5 (a:=ya a b c d) (b:=u8 a b c d) (c:=u7 a b c d) (d:=u6 a b c d) (e:=x9 a b c d) (f:=u5 a b c d) (g:=uZ a b c d) (h:=uY a b c d) (i:=x8 a b c d) (Ht p.ne) (gS (FV ha hb hc hd _ (by simp[io])) (by decide)) (FT ha hb hc hd)
 exact bM (bA (Iv (aP decl_name% (BR hk p hT kb)) rfl (.inl rfl) rfl) (bA (bj (d:=.tup [d3 (ya a b c d) (u8 a b c d) (u7 a b c d),d3 (u6 a b c d) (x9 a b c d) (u5 a b c d),d3 (uZ a b c d) (uY a b c d) (x8 a b c d)]) decl_name%) (bf (aW (aP decl_name% hL)))))
def gm:List D->Option Xs:=b4
theorem FF(h:b4 ds=some r):∃q,ds=[q]:=by
 unfold b4 at h
 split at h
 ·exact⟨_,rfl⟩
 ·cases h
theorem q8:∀ds r,gm ds=some r->ds.length=1/\Rz oK xj EX (aa (ag 24)) (ak (ag 24)) (bI ["numbers"] ds) r:=by
 intro ds r h
 obtain⟨q,rfl⟩:=FF h
 exact⟨rfl,Rz.ast decl_name% rfl rfl h⟩
def iW:Fx:=Tb [("upright", eZ),("table_of", ic)] [] BL IL ML TL bw
noncomputable def oJ:Str->Option (List D->Option Xs):=fun g=>([("upright", b4),("table_of", gm)]:List (Str×(List D->Option Xs))).lookup g
def dy:List D->Rs D:=hZ iW (aa (aN (ag 35) 0)) ["self", "numbers"] (tm (aN (ag 35) 0)) "Turn" ["word", "row", "fractions"]
theorem FR(hk:k≠0)(p:Pm a b c d)(hT:okT (([k*a,k*b,k*c,k*d]:List Int).map D.int))(kb:k.natAbs<fO)(ha:a.natAbs<=2 ^ 140)(hb:b.natAbs<=2 ^ 140)(hc:c.natAbs<=2 ^ 140)(hd:d.natAbs<=2 ^ 140):ac (dy [t4 (k*a) (k*b) (k*c) (k*d)]) (Mf a b c d) :=
 zd rfl (aK decl_name% (aK (aP decl_name% (BR hk p hT kb)) (aK (aP decl_name% (BV hk p hT kb ha hb hc hd)) aY))) rfl rfl rfl
def eG:List D->Option Xs:=b4
theorem ln:∀ds r,eG ds=some r->ds.length+1=2/\xz iW oJ (aa (aN (ag 35) 0)) ((wj (ak (aN (ag 35) 0))).getD 0 (.Constant .none 0 ⟨0,0,0,0⟩)) ((wj (ak (aN (ag 35) 0))).getD 1 (.Constant .none 0 ⟨0,0,0,0⟩)) "upright" (F1 (ak (aN (ag 35) 0))) (bI ["self", "numbers"] (.obj "Turn" [] []::ds)) r:=by
 intro ds r h
 obtain⟨q,rfl⟩:=FF h
 exact⟨rfl,_,_,_,_,_,_,b4,decl_name%,decl_name%,decl_name%,rfl,h⟩
def lr:Fx:=Tb [("table_of", ic)] [] BL IL ML TL bw
noncomputable def um:Str->Option (List D->Option Xs):=fun g=>([("table_of", gm)]:List (Str×(List D->Option Xs))).lookup g
def gp:List D->Rs D:=cG lr (aa (ag 38)) ["axis"] (ak (ag 38))
theorem Ic(hk:k≠0)(p:Pm 0 b c d)(hT:okT (([k*0,k*b,k*c,k*d]:List Int).map D.int))(kb:k.natAbs<fO)(hb:b.natAbs<=2 ^ 140)(hc:c.natAbs<=2 ^ 140)(hd:d.natAbs<=2 ^ 140):ac (gp [d3 (k*b) (k*c) (k*d)]) (wc 0 b c d):=by
 have h:=BV hk p hT kb (show(0:Int).natAbs<=2 ^ 140 from Nat.zero_le _) hb hc hd
 rw[Int.mul_zero]at h
 exact bM (bf (aW (aP decl_name% h)))
theorem Gj(x y z K:Int)(hK:ib K):ac (fA [d3 x y z,.int K]) (d3 (x.fdiv K) (y.fdiv K) (z.fdiv K)):=fo rfl (by walk_at "ob")
theorem FN(hk:k≠0)(p:Pm 0 b c d)(hT:okT (([k*b,k*c,k*d]:List Int).map D.int))(kb:k.natAbs<fO):ac (eZ [d3 (k*b) (k*c) (k*d)]) (d3 b c d):=by
 have hn:¬ (k*b=0/\k*c=0/\k*d=0):=fun z=>p.ne ⟨rfl,(Int.mul_eq_zero.mp z.1).resolve_left hk,(Int.mul_eq_zero.mp z.2.1).resolve_left hk,(Int.mul_eq_zero.mp z.2.2).resolve_left hk⟩
 have hg:i6 (([k*b,k*c,k*d]:List Int).map D.int)=k.natAbs:=by rw[pz];exact HJ hk p
 have hl:=En hk hn
 have pos:=p.pos
 have fd:∀x:Int,(k*x).fdiv k=x:=fun x=>Int.mul_fdiv_cancel_left x hk
 have fin:=Gj (k*b) (k*c) (k*d) k ⟨hk,kb⟩
 rw[fd,fd,fd]at fin
 have hD:ac (cf [d3 (k*b) (k*c) (k*d)]) (.int (k.natAbs:Nat)):=⟨[okT (([k*b,k*c,k*d]:List Int).map D.int)],by rw[<- hg];rfl,hT,True.intro⟩
 have k0:¬ ((k.natAbs:Nat):Int)=0:=by omega
 refine bM (bA (bj (d:=.int (k.natAbs:Nat)) (aP decl_name% hD)) (bg decl_name% ((cV _ _).trans (decide_eq_false k0)) (bA (bj (d:=.int (k*ej 0 b c d)) (cq (k:=0) (pG (out:=((([k*b,k*c,k*d]:List Int).filter fun t => !decide (t=0)).map D.int)) (j:=0) decl_name% (ds:=([k*b,k*c,k*d]:List Int).map D.int) rfl ⟨Nat.le_of_ble_eq_true rfl,.inl rfl⟩ (iI (g:=D.int) (f:=D.int) (c:=fun t => !decide (t=0)) (fun x _=>?_)) (Nat.zero_le 1)) decl_name% rfl hl)) ?_)))
 ·refine ac.bnd (a:=!decide (x=0)) (ef (b:=!decide (x=0)) (c:=!decide (x=0)) (decl_name%.bl (by show(!eqD (.int x) (.int 0))=_;rw[cV])) (fun h=>by rw[h];exact og) id) ?_
  cases decide (x=0)
  ·exact ac.bnd decl_name% cw
  ·exact cw
 ·refine bf (aW (aP (aK decl_name% (aK (lM (r:=(.int k,0)) decl_name% (fun ht=>?_) (fun hf=>?_)) aY)) fin))
  ·have hlt:0<k*ej 0 b c d:=of_decide_eq_true ht
   have kp:0<k:=by
    rcases Int.lt_or_gt_of_ne hk with q|q
    ·have:=Int.mul_neg_of_neg_of_pos q pos;omega
    ·exact q
   exact ac.eq decl_name% (by rw[show((k.natAbs:Nat):Int)=k by omega];rfl)
  ·have hge:¬ 0<k*ej 0 b c d:=of_decide_eq_false hf
   have kp:k<0:=by
    rcases Int.lt_or_gt_of_ne hk with q|q
    ·exact q
    ·have:=Int.mul_pos q pos;omega
   exact ac.eq decl_name% (by show(D.int (-((k.natAbs:Nat):Int)),0)=_;rw[show -((k.natAbs:Nat):Int)=k by omega])
def cI:List D->Option Xs:=fun ds=>match ds with
 | [q]=>if sZ q=true then some pY else none
 | _=>none
theorem An(h:cI ds=some r):ds=[d3 0 0 0]/\r=pY:=by
 unfold cI at h
 split at h
 ·split at h
  ·rename_i hq
   cases h
   cases sY hq
   exact⟨rfl,rfl⟩
  ·cases h
 ·cases h
theorem oH:∀ds r,cI ds=some r->ds.length=1/\Rz lr um EX (aa (ag 38)) (ak (ag 38)) (bI ["axis"] ds) r:=by
 intro ds r h
 obtain⟨rfl,rfl⟩:=An h
 have hz:gm [t4 0 0 0 0]=some pY:=rfl
 exact⟨rfl,Rz.ret decl_name% rfl rfl hz⟩
def gs:Fx:=Tb [("upright", eZ),("half_table", gp)] [] BL IL ML TL bw
noncomputable def kC:Str->Option (List D->Option Xs):=fun g=>([("upright", b4),("half_table", cI)]:List (Str×(List D->Option Xs))).lookup g
def cC:List D->Rs D:=hZ gs (aa (aN (ag 36) 0)) ["self", "axis"] (tm (aN (ag 36) 0)) "HalfTurn" ["word", "row", "fractions"]
theorem Ig(hk:k≠0)(p:C6 (aq u))(hT:okT (([k*u.1,k*u.2.1,k*u.2.2]:List Int).map D.int))(hT4:okT (([k*0,k*u.1,k*u.2.1,k*u.2.2]:List Int).map D.int))(kb:k.natAbs<fO)(hb:u.1.natAbs<=2 ^ 140)(hc:u.2.1.natAbs<=2 ^ 140)(hd:u.2.2.natAbs<=2 ^ 140):ac (cC [d3 (k*u.1) (k*u.2.1) (k*u.2.2)]) (.obj "HalfTurn" ["word", "row", "fractions"] [.str "half", dv u,wc 0 u.1 u.2.1 u.2.2]) :=
 zd rfl (aK decl_name% (aK (aP decl_name% (FN hk p hT kb)) (aK (aP decl_name% (Ic hk p hT4 kb hb hc hd)) aY))) rfl rfl rfl
def df:List D->Option Xs:=cI
theorem jb:∀ds r,df ds=some r->ds.length+1=2/\xz gs kC (aa (aN (ag 36) 0)) ((wj (ak (aN (ag 36) 0))).getD 0 (.Constant .none 0 ⟨0,0,0,0⟩)) ((wj (ak (aN (ag 36) 0))).getD 1 (.Constant .none 0 ⟨0,0,0,0⟩)) "upright" (F1 (ak (aN (ag 36) 0))) (bI ["self", "axis"] (.obj "HalfTurn" [] []::ds)) r:=by
 intro ds r h
 obtain⟨rfl,rfl⟩:=An h
 have hz:b4 [d3 0 0 0]=some pY:=rfl
 exact⟨rfl,_,_,_,_,_,_,b4,decl_name%,decl_name%,decl_name%,rfl,hz⟩
def xl:Fx:=Tb [] [] BL IL ML TL bw
def oO:List D->Rs D:=cG xl (aa (ag 14)) ["one"] (ak (ag 14))
def hJ:Fx:=Tb [("half_table", gp),("upright", eZ),("opposite", oO)] [] BL IL ML TL bw
noncomputable def lV:Str->Option (List D->Option Xs):=fun g=>([("half_table", cI),("upright", b4)]:List (Str×(List D->Option Xs))).lookup g
def cT:List D->Rs D:=hX hJ (aa (aN (ag 37) 0)) ["self", "axis"] "n" "rows" (Pf ((ak (aN (ag 37) 0)).getD 0 (.Pass ⟨0,0,0,0⟩))) (ze (aN (ag 37) 0)) "Mirror" ["word", "row", "fractions"]
theorem K1(hk:k≠0)(p:C6 (aq u))(hT:okT (([k*u.1,k*u.2.1,k*u.2.2]:List Int).map D.int))(hT4:okT (([k*0,k*u.1,k*u.2.1,k*u.2.2]:List Int).map D.int))(kb:k.natAbs<fO)(hb:u.1.natAbs<=2 ^ 140)(hc:u.2.1.natAbs<=2 ^ 140)(hd:u.2.2.natAbs<=2 ^ 140):ac (cT [d3 (k*u.1) (k*u.2.1) (k*u.2.2)]) (.obj "Mirror" ["word", "row", "fractions"] [.str "mirror", dv u,.tup [.int (tq (aq u)).low.n,.tup [d3 (-(tq (aq u)).low.a) (-(tq (aq u)).low.b) (-(tq (aq u)).low.c),d3 (-(tq (aq u)).low.d) (-(tq (aq u)).low.e) (-(tq (aq u)).low.f),d3 (-(tq (aq u)).low.g) (-(tq (aq u)).low.h) (-(tq (aq u)).low.i)]]]) :=
 HY rfl (aP decl_name% (Ic hk p hT4 kb hb hc hd)) rfl (aK decl_name% (aK (aP decl_name% (FN hk p hT kb)) (aK decl_name% aY))) rfl rfl rfl
def dM:List D->Option Xs:=cI
theorem j8:∀ds r,dM ds=some r->ds.length+1=2/\Rz hJ lV EX (aa (aN (ag 37) 0)) (ak (aN (ag 37) 0)) (bI ["self", "axis"] (.obj "Mirror" [] []::ds)) r:=by
 intro ds r h
 obtain⟨rfl,rfl⟩:=An h
 exact⟨rfl,Rz.ast decl_name% rfl rfl h⟩
def qP:Fx:=Tb [("Turn", dy),("HalfTurn", cC),("Mirror", cT)] [] BL IL ML TL bw
noncomputable def Af:Str->Option (List D->Option Xs):=fun g=>([("Turn", eG),("HalfTurn", df),("Mirror", dM)]:List (Str×(List D->Option Xs))).lookup g
def oS:ji:=fun g=>([]:List (Str×List (Str×Int))).lookup g
def dZ:List D->Rs D:=cG qP (aa (ag 41)) ["word", "numbers"] (ak (ag 41))
theorem PY{d r:D}(h:ac (cC [d]) r):ac (dZ [.str "half", d]) r:=bM (bg decl_name% rfl (bf (aW (lM (t:=true) decl_name% (fun _=>aP decl_name% h) (fun z=>by cases z)))))
theorem PX{d r:D}(h:ac (cT [d]) r):ac (dZ [.str "mirror", d]) r:=bM (bg decl_name% rfl (bf (aW (lM (t:=false) decl_name% (fun z=>by cases z) (fun _=>aP decl_name% h)))))
theorem LX(hk:k≠0)(p:C6 (aq u))(hm:m<=140)(h:qN m (k*u.1,k*u.2.1,k*u.2.2)):okT (([k*u.1,k*u.2.1,k*u.2.2]:List Int).map D.int)/\okT (([k*0,k*u.1,k*u.2.1,k*u.2.2]:List Int).map D.int)/\k.natAbs<fO/\qN m u:=by
 obtain⟨h1,h2,h3⟩:=h.all
 have e:vy (2 ^ m) (kq k (aq u)):=⟨by show(k*0).natAbs<=_;rw[Int.mul_zero];exact Nat.zero_le _,h1,h2,h3⟩
 refine⟨kN (k:=m) (by omega) (Nat.le_of_ble_eq_true rfl) (by
  intro t ht
  simp only[List.mem_cons,List.not_mem_nil,or_false]at ht
  rcases ht with rfl|rfl|rfl
  ·exact h1
  ·exact h2
  ·exact h3),yX (by omega) e,gS (HI p.ne e) (by omega),?_⟩
 have:=No hk e
 exact ue ⟨this.2.1,this.2.2.1,this.2.2.2⟩
def fP:List D->Option Xs:=fun ds=>match ds with
 | [.str w,q]=>if w=Str.ofString "turn" then eG [q]else if w=Str.ofString "half" then df [q]else if w=Str.ofString "mirror" then dM [q]else none
 | _=>none
theorem ul:∀ds r,fP ds=some r->ds.length=2/\cK qP Af EX oS (aa (ag 41)) (ak (ag 41)) (bI ["word", "numbers"] ds) r:=by
 intro ds r h
 unfold fP at h
 split at h
 ·refine⟨rfl,?_⟩
  split at h
  ·rename_i e;subst e
   exact cK.rz (Rz.iff (t:=true) (k:=0) decl_name% (Rz.ret decl_name% rfl rfl h))
  ·split at h
   ·rename_i e;subst e
    exact cK.step decl_name% (cK.retI (t:=true) (k:=0) decl_name% rfl decl_name% rfl rfl h)
   ·split at h
    ·rename_i e;subst e
     exact cK.step decl_name% (cK.retI (t:=false) (k:=0) decl_name% rfl decl_name% rfl rfl h)
    ·cases h
 ·cases h
def jd:Fx:=Tb [("numbers_read", dW),("deed_by", dZ)] [] BL IL ML TL bw
noncomputable def mv:Str->Option (List D->Option Xs):=fun g=>([("numbers_read", dU),("deed_by", fP)]:List (Str×(List D->Option Xs))).lookup g
def fb:ji:=fun g=>([("WORDS", [("turn", 4),("half", 3),("mirror", 3)])]:List (Str×List (Str×Int))).lookup g
def qd(w:Str)(n:Nat):Prop:=(w = "turn" /\ n=4)\/(w = "half" /\ n=3)\/(w = "mirror" /\ n=3)
theorem qd.len{w:Str}(h:qd w n):n<=4/\n≠0/\w.cps.toList.length<=43/\du w.cps.toList/\∀c∈w.cps.toList,c<128:=by
 rcases h with⟨rfl,rfl⟩|⟨rfl,rfl⟩|⟨rfl,rfl⟩
 ·exact⟨by decide,by decide,by decide +kernel,by unfold du;decide +kernel,by decide +kernel⟩
 ·exact⟨by decide,by decide,by decide +kernel,by unfold du;decide +kernel,by decide +kernel⟩
 ·exact⟨by decide,by decide,by decide +kernel,by unfold du;decide +kernel,by decide +kernel⟩
def cF:List D->Rs D:=fun ds=>match ds with
 | [.str x]=>(match Txt.split x (Str.ofString " ")with
  | w::ws=>(match vi (ws.map D.str)with
   | some ns=>(Rs.ok () [qd w ns.length,x=sN (jn (w.cps.toList::ns.map bb)),∀n∈ns,n.natAbs<10 ^ 40]).bnd fun _=>dZ [.str w,.tup (ns.map D.int)]
   | none=>.st)
  | []=>.st)
 | _=>.st
theorem uV{w:Str}(hw:qd w ns.length):∀v∈w.cps.toList::ns.map bb,du v:=by
 intro v hv
 rcases List.mem_cons.mp hv with rfl|hv
 ·exact hw.len.2.2.2.1
 ·obtain⟨n,hn,rfl⟩:=List.mem_map.mp hv
  exact oZ n
theorem FG{w:Str}(hw:qd w ns.length)(h:∀n∈ns,n.natAbs<10 ^ 40):∀v∈w.cps.toList::ns.map bb,v.length<=43:=by
 intro v hv
 rcases List.mem_cons.mp hv with rfl|hv
 ·exact hw.len.2.2.1
 ·obtain⟨n,hn,rfl⟩:=List.mem_map.mp hv
  have:=gE (h n hn);omega
theorem Po{w:Str}{d:D}(hw:qd w ns.length)(h:∀n∈ns,n.natAbs<10 ^ 40)(hd:ac (dZ [.str w,.tup (ns.map D.int)]) d):ac (cF [.str (sN (jn (w.cps.toList::ns.map bb)))]) d:=by
 unfold cF
 dsimp only
 rw[show Txt.split (sN (jn (w.cps.toList::ns.map bb))) (Str.ofString " ")=w::(ns.map bb).map sN by rw[sh,mB (by intro z;cases z) (uV hw),List.map_cons,<- jk]]
 dsimp only
 rw[show((ns.map bb).map sN).map D.str=ns.map bX by rw[List.map_map,List.map_map];rfl,sC h]
 dsimp only
 exact ac.bnd ⟨_,rfl,hw,rfl,h,True.intro⟩ hd
theorem pS:∀ds r,ac (cF ds) r->xr jd fb (aa (ag 39)) ["text"] (ak (ag 39)) ds r:=by
 intro ds r h
 unfold cF at h
 split at h
 ·rename_i x
  split at h
  ·rename_i w ws e1
   split at h
   ·rename_i ns e2
    obtain⟨u,h',hd⟩:=av h
    obtain⟨_,hw,rfl,hb,_⟩:=fL h'
    clear h h' e1 e2
    have hs:=o4 (ws:=w.cps.toList::ns.map bb) (by intro z;cases z) (uV hw) (by rw[List.length_cons,List.length_map];have:=hw.len.1;omega) (FG hw hb)
    rw[List.map_cons,<- jk,List.map_map]at hs
    have hn:=Hq (x:=w) hw.len.1 hb
    refine⟨rfl,Rd.cut 1 (bA (bj (gO decl_name% decl_name% hs)) dm) ?_⟩
    clear hs
    generalize sN (jn (w.cps.toList::ns.map bb))=x at *
    rcases hw with⟨rfl,hl⟩|⟨rfl,hl⟩|⟨rfl,hl⟩
    ·obtain⟨a,b,c,d,rfl⟩:=L1 hl
     have hll:ax [.str (Str.ofString "turn"),bX a,bX b,bX c,bX d]=true:=rfl
     refine Rd.ifK (x:=Str.ofString "turn") (t:=false) rfl decl_name% (by decide +kernel) rfl (Rd.rf (.base dm)) (Rd.setK (x:=Str.ofString "turn") (i:=4) rfl decl_name% (fun _ _=>rfl) (by decide +kernel) rfl rfl (Rd.rf (.base ?_)))
     exact bA (bj (aP (aK (cn decl_name% decl_name% decl_name% (r:=(.lst [.str (Str.ofString "turn"),bX a,bX b,bX c,bX d],0)) decl_name%) aY) hn)) (bg decl_name% rfl (bf (aW (aP decl_name% hd))))
    ·obtain⟨a,b,c,rfl⟩:=Co hl
     have hll:ax [.str (Str.ofString "half"),bX a,bX b,bX c]=true:=rfl
     refine Rd.ifK (x:=Str.ofString "half") (t:=false) rfl decl_name% (by decide +kernel) rfl (Rd.rf (.base dm)) (Rd.setK (x:=Str.ofString "half") (i:=3) rfl decl_name% (fun _ _=>rfl) (by decide +kernel) rfl rfl (Rd.rf (.base ?_)))
     exact bA (bj (aP (aK (cn decl_name% decl_name% decl_name% (r:=(.lst [.str (Str.ofString "half"),bX a,bX b,bX c],0)) decl_name%) aY) hn)) (bg decl_name% rfl (bf (aW (aP decl_name% hd))))
    ·obtain⟨a,b,c,rfl⟩:=Co hl
     have hll:ax [.str (Str.ofString "mirror"),bX a,bX b,bX c]=true:=rfl
     refine Rd.ifK (x:=Str.ofString "mirror") (t:=false) rfl decl_name% (by decide +kernel) rfl (Rd.rf (.base dm)) (Rd.setK (x:=Str.ofString "mirror") (i:=3) rfl decl_name% (fun _ _=>rfl) (by decide +kernel) rfl rfl (Rd.rf (.base ?_)))
     exact bA (bj (aP (aK (cn decl_name% decl_name% decl_name% (r:=(.lst [.str (Str.ofString "mirror"),bX a,bX b,bX c],0)) decl_name%) aY) hn)) (bg decl_name% rfl (bf (aW (aP decl_name% hd))))
   ·exact(ar h).elim
  ·exact(ar h).elim
 ·exact(ar h).elim
def wQ(o:Option (Option Nat)):Option Xs:=match o with
 | none=>none
 | some none=>some pY
 | some (some i)=>some (BQ (i:Nat))
abbrev tW(ws:Ws):Str:=sN (jn (ws.map (·.1)))
def oX(x:Str):Ws:=(Txt.split x (Str.ofString " ")).map fun y=>(y.cps.toList,vD (.str y))
theorem FH(hw:dE ws)(h0:ws≠[]):oX (tW ws)=ws:=by
 unfold oX
 rw[sh,mB (by simpa using h0) (fun w h=>by
  obtain⟨p,hp,rfl⟩:=List.mem_map.mp h
  exact v6 (hw p hp)),List.map_map,List.map_map]
 refine(List.map_congr_left fun p hp=>?_).trans (List.map_id ws)
 show((sN p.1).cps.toList,vD (.str (sN p.1)))=p
 rw[FL (hw p hp)]
theorem B7(hw:dE ws)(h0:ws≠[])(hl:ws.length<=20):ac (jy (.str (tW ws)) [.str (Str.ofString " ")]) (.lst (aR ws),0):=by
 have:=o4 (ws:=ws.map (·.1)) (by simpa using h0) (fun w h=>by
  obtain⟨p,hp,rfl⟩:=List.mem_map.mp h
  exact v6 (hw p hp)) (by rw[List.length_map];omega) (fun w h=>by
  obtain⟨p,hp,rfl⟩:=List.mem_map.mp h
  exact rg (hw p hp))
 rw[List.map_map]at this
 exact this
def Ro:List D->Option Xs:=fun ds=>match ds with
 | [.str x]=>wQ (ge (oX x))
 | _=>none
noncomputable def cY:List D->Option Xs:=qH Ro fun ds r=>ds.length=1/\cK jd mv EX fb (aa (ag 39)) (ak (ag 39)) (bI ["text"] ds) r
theorem pQ:∀ds r,cY ds=some r->ds.length=1/\cK jd mv EX fb (aa (ag 39)) (ak (ag 39)) (bI ["text"] ds) r:=fun ds r h=>vW h
theorem wN:([(Str.ofString "turn", (4:Int)),(Str.ofString "half", 3),(Str.ofString "mirror", 3)]:List (Str×Int)).lookup (sN w)=(iP w).map fun m=>(m:Int):=by
 have e:∀s:String,((sN w==Str.ofString s):Bool)=decide (w=bY s):=fun s=>by
  by_cases h:w=bY s
  ·rw[decide_eq_true h,h,<- eN,beq_self_eq_true]
  ·rw[decide_eq_false h,beq_eq_false_iff_ne]
   intro z
   rw[eN]at z
   exact h (fW z)
 rw[List.lookup_cons,e,List.lookup_cons,e,List.lookup_cons,e]
 unfold iP
 by_cases h1:w=bY "turn"
 ·rw[if_pos h1,decide_eq_true h1];rfl
 ·rw[if_neg h1,decide_eq_false h1]
  by_cases h2:w=bY "half"
  ·rw[if_pos h2,decide_eq_true h2];rfl
  ·rw[if_neg h2,decide_eq_false h2]
   by_cases h3:w=bY "mirror"
   ·rw[if_pos h3,decide_eq_true h3];rfl
   ·rw[if_neg h3,decide_eq_false h3];rfl
theorem Kf(h:iP w=some m):m<=4/\3<=m:=by
 rcases jM h with⟨_,rfl⟩|⟨_,rfl⟩|⟨_,rfl⟩<;>decide
theorem uU:∀{rest:Ws} {is:List Int},rest.map (·.2)=is.map some->(rest.all fun p=>decide (p.2=some 0))=true->is=List.replicate rest.length 0
 | [],[],_,_=>rfl
 | [],_::_,e,_=>by cases e
 | _::_,[],e,_=>by cases e
 | p::rest,i::is,e,h=>by
  rw[List.map_cons,List.map_cons]at e
  injection e with e1 e2
  rw[List.all_cons,Bool.and_eq_true]at h
  have e1:p.2=some i:=e1
  rw[e1]at h
  have:=of_decide_eq_true h.1
  rw[uU e2 h.2,List.length_cons,List.replicate_succ]
  congr 1
  exact Option.some.inj this
theorem K2(h:b<a):ac (mW [.int a,.int b]) (.int b,0):=⟨[],by show Rs.ok (D.int (if b<a then b else a),0) []=_;rw[if_pos h],True.intro⟩
theorem K3(h:a<b):ac (mW [.int a,.int b]) (.int a,0):=⟨[],by show Rs.ok (D.int (if b<a then b else a),0) []=_;rw[if_neg (by omega)],True.intro⟩
theorem Iw{c:Expr}{a:List Stmt}{pos:Pos}{k:Nat}(h:ac (au Φ c false sc ρ) (.bl false,k)):ac (eR Φ (.If c a [] pos) sc ρ) (.nx ρ):=ac.bnd h ⟨[],rfl,True.intro⟩
theorem Hs(h:a≠b):(!eqD (.int a) (.int b))=true:=by rw[cV,decide_eq_false h];rfl
theorem JS{rest:Ws}(hw:dE (p::rest))(hl:rest.length<=19)(e:wQ (ge (p::rest))=some r):cY [.str (tW (p::rest))]=some r:=by
 refine zE (by show wQ (ge (oX (tW (p::rest))))=_;rw[FH hw (by simp)];exact e) ⟨rfl,?_⟩
 have hs:=B7 hw (by simp) (by rw[List.length_cons];omega)
 have hp:=hw p List.mem_cons_self
 have hat:L2.atI (aR (p::rest)) 0=some (.str (sN p.1)):=dS (j:=0) rfl
 have ll:(aR (p::rest)).length=rest.length+1:=List.length_map _
 have hlw:=dN (p::rest)
 refine cK.step (bj (d:=.lst (aR (p::rest))) (gO decl_name% decl_name% hs)) ?_
 clear hs
 generalize tW (p::rest)=T at *
 cases hd:iP p.1 with
 | none =>
  rw[tX hd]at e
  cases e
  exact cK.ifK (x:=sN p.1) rfl (cq decl_name% decl_name% rfl hat) (by rw[wN,hd];rfl) rfl (Rz.raiseF (i:=0) (k:=0) decl_name% (CB (by decide)) rfl (by decide +kernel) rfl)
 | some m =>
  rw[tV hd]at e
  obtain⟨m4,m3⟩:=Kf hd
  refine cK.ifN (x:=sN p.1) rfl (cq decl_name% decl_name% rfl hat) (by rw[wN,hd];rfl) rfl ?_
  refine cK.setK (x:=sN p.1) (i:=(m:Nat)) rfl (cq decl_name% decl_name% rfl hat) (fun _ _=>rfl) (by rw[wN,hd];rfl) rfl rfl ?_
  rw[show((m:Nat):Int)+1=((m+1:Nat):Int) by omega]
  have sl:=Gc (p::rest) (m+1)
  rw[List.take_succ_cons]at sl
  cases hf:fN ((rest.map (·.2)).take m)with
  | some j =>
   rw[hf]at e
   cases e
   exact cK.rz (Rz.asn (G:=dU) (ds:=[.lst (aR (p::rest.take m))]) (aK (cn decl_name% decl_name% decl_name% sl) aY) rfl rfl (QX (fun q hq=>hw q (List.mem_cons_of_mem _ (List.mem_of_mem_take hq))) (by rw[List.length_take];omega) (by rw[List.map_take];exact hf)))
  | none =>
   rw[hf]at e
   dsimp only at e
   obtain⟨is,ei⟩:=tL hf
   obtain⟨tx,tb⟩:=re (ws:=rest.take m) (is:=is) (fun q hq=>hw q (List.mem_cons_of_mem _ (List.mem_of_mem_take hq))) (by rw[List.map_take];exact ei)
   have il:is.length<=4:=by
    have:=congrArg List.length tx
    rw[List.length_map,List.length_map,List.length_take]at this
    omega
   have hn:=Hq (x:=sN p.1) il tb
   rw[<- tx]at hn
   refine cK.step (bj (d:=.tup (is.map D.int)) (aP (aK (cn decl_name% decl_name% decl_name% sl) aY) hn)) ?_
   by_cases h1:m<rest.length
   ·rw[if_pos h1]at e
    cases e
    exact cK.rz (Rz.iff (t:=true) (k:=0) ((decl_name%).bl (Hs (by rw[ll];omega))) (Rz.raiseF (i:=((m+1:Nat):Int)) (k:=0) (dw (B:=mW) decl_name% (K2 (by rw[ll];omega))) (CB (by omega)) rfl (by decide +kernel) rfl))
   rw[if_neg h1]at e
   by_cases h2:rest.length<m
   ·rw[if_pos h2]at e
    cases e
    refine cK.rz (Rz.iff (t:=true) (k:=0) ((decl_name%).bl (Hs (by rw[ll];omega))) (Rz.raiseF (i:=((rest.length+1:Nat):Int)) (k:=0) (dw (B:=mW) (ds:=[.int ((rest.length+1:Nat):Int),.int ((m+1:Nat):Int)]) ((decl_name%).eq (by rw[ll])) (K3 (by omega))) (CB (by omega)) rfl (by decide +kernel) rfl))
   rw[if_neg h2]at e
   cases ha:(rest.all fun p=>decide (p.2=some 0))with
   | false=>rw[ha]at e;cases e
   | true =>
    rw[ha,if_pos rfl]at e
    cases e
    have em:rest.length=m:=by omega
    rw[List.take_of_length_le (by rw[List.length_map];omega)]at ei
    have hz:=uU ei ha
    rw[em]at hz
    subst hz
    refine cK.step (Iw ((decl_name%).bl (OH (by rw[ll];omega)))) ?_
    have fin:fP [.str (sN p.1),.tup ((List.replicate m (0:Int)).map D.int)]=some pY:=by
     rcases jM hd with⟨ep,rfl⟩|⟨ep,rfl⟩|⟨ep,rfl⟩
     ·rw[ep,<- eN];decide +kernel
     ·rw[ep,<- eN];decide +kernel
     ·rw[ep,<- eN];decide +kernel
    exact cK.rz (Rz.ret (G:=fP) (ds:=[.str (sN p.1),.tup ((List.replicate m (0:Int)).map D.int)]) (aK (cq decl_name% decl_name% rfl hat) (aK decl_name% aY)) rfl rfl fin)
def Ah:Fx:=Tb [] [("NoSide", .xc "NoSide" none),("Nought", .xc "Nought" none),("TooGreat", .xc "TooGreat" none),("NoPrime", .xc "NoPrime" none),("NoLine", .xc "NoLine" none),("NoText", .xc "NoText" none),("NoOrder", .xc "NoOrder" none),("Divided", .xc "Divided" none),("NoTurn", .xc "NoTurn" none),("NoName", .xc "NoName" none),("SpaceError", .xc "SpaceError" none)] BL IL ML TL bw
def qR:List D->Rs D:=cG Ah (aa (ag 46)) ["_law_error"] (ak (ag 46))
def Ag:Fx:=Tb [] [] BL IL ML TL bw
def qQ:List D->Rs D:=cG Ag (aa (ag 44)) ["_law_x"] (ak (ag 44))
def uQ:Fx:=Tb [("deed_read", cF),("_law_kinds", qR),("_law_whole", qQ)] [] BL IL ML TL bw
noncomputable def mr:Str->Option (List D->Option Xs):=fun g=>([("deed_read", cY)]:List (Str×(List D->Option Xs))).lookup g
theorem LE{f:List D->Option Xs}{P:List D->Xs->Prop}(h:qH f P ds=some r):f ds=some r:=by
 unfold qH at h
 split at h
 ·exact h
 ·cases h
noncomputable def fz:List D->Rs D:=fun ds=>match ds with
 | [.str x]=>(match cY [.str x]with|some (_,_,[(_,i)])=>.ok (.tup [.lst [.str (Str.ofString "NoText")],.int i]) []|some (_,_,[])=>.ok CL []|_=>.st)
 | _=>.st
theorem pR:∀ds r,ac (fz ds) r->v0 uQ mr EX (aa (ag 51)) ["_law_text"] ((ak (ag 51)).take 2) (FS ((ak (ag 51)).getD 2 (.Pass ⟨0,0,0,0⟩))) ((ak (ag 51)).drop 3) "NoText" "Nought" "e" "_law_told" "_law_at" "at" ds r:=by
 intro ds r h
 unfold fz at h
 split at h
 ·rename_i x
  cases hz:cY [.str x]with
  | none=>rw[hz]at h;exact(ar h).elim
  | some q =>
   have hf:wQ (ge (oX x))=some q:=LE hz
   rw[hz]at h
   cases ed:ge (oX x)with
   | none=>rw[ed]at hf;cases hf
   | some o =>
    rw[ed]at hf
    cases o with
    | none =>
     cases hf
     cases aC h
     exact⟨rfl,_,decl_name%,.inr ⟨_,rfl,Rt.exp decl_name% rfl rfl hz,decl_name%⟩⟩
    | some i =>
     cases hf
     cases aC h
     exact⟨rfl,_,decl_name%,.inl ⟨_,_,rfl,Rt.exp decl_name% rfl rfl hz,decl_name%⟩⟩
 ·exact(ar h).elim
theorem KC{rest:Ws}{o:Option Nat}(hw:dE (p::rest))(hl:rest.length<=19)(e:ge (p::rest)=some o):ac (fz [.str (tW (p::rest))]) (Bl (some o)):=by
 cases o with
 | none =>
  refine⟨[],?_,True.intro⟩
  show(match cY [.str (tW (p::rest))]with|some (_,_,[(_,i)])=>Rs.ok (D.tup [.lst [.str (Str.ofString "NoText")],.int i]) []|some (_,_,[])=>.ok CL []|_=>.st)=_
  rw[JS (r:=pY) hw hl (by rw[e];rfl)]
  rfl
 | some i =>
  refine⟨[],?_,True.intro⟩
  show(match cY [.str (tW (p::rest))]with|some (_,_,[(_,i)])=>Rs.ok (D.tup [.lst [.str (Str.ofString "NoText")],.int i]) []|some (_,_,[])=>.ok CL []|_=>.st)=_
  rw[JS (r:=BQ (i:Nat)) hw hl (by rw[e];rfl)]
  rfl
def xk:Fx:=Tb [] [] BL IL ML TL bw
def ke:List D->Rs D:=cG xk (aa (ag 29)) ["numbers"] (ak (ag 29))
theorem Ni(hn:ns.length<=4)(h:∀n∈ns,n.natAbs<10 ^ 40):ac (ke [.tup (ns.map D.int)]) (.str (sN (jn (ns.map bb)))):=by
 have hj:=y4 (ws:=ns.map bb) (by rw[List.length_map];omega) (by
  intro v hv
  obtain⟨n,hn,rfl⟩:=List.mem_map.mp hv
  have:=gE (h n hn);omega)
 rw[List.map_map]at hj
 refine bM (bf (aW (gO decl_name% (aK (iG (l:=ns) (g:=D.int) (f:=bX) (d:=.tup (ns.map D.int)) decl_name% rfl (by show _<=40000;omega) (.inl (tf ns)) fun n hm=>?_) aY) hj)))
 have h1:=yT (h n hm)
 refine⟨_,rfl,(decl_name%).eq ?_⟩
 show(D.str (Str.ofString (toString n)),0)=(bX n,0)
 rw[BS];rfl
def uR:Fx:=JY [("row_text", ke)] [] BL IL ML TL bw [("Turn", ["word", "row"]),("HalfTurn", ["word", "row"]),("Mirror", ["word", "row"])] []
def c4:List D->Rs D:=cG uR (aa (aN (ag 34) 4)) ["self"] (ak (aN (ag 34) 4))
abbrev zy(C:Str)(w:List Nat)(r t:D):D:=.obj C ["word", "row", "fractions"] [.str (sN w),r,t]
theorem Eu(w:List Nat){ws:List (List Nat)}(h:ws≠[]):jn (w::ws)=w++(32::jn ws):=by
 cases ws with
 | nil=>exact absurd rfl h
 | cons a l=>show w++(32::a++_)=_;rfl
theorem Mg(hC:C = "Turn" \/ C = "Mirror" \/ C = "HalfTurn")(h0:ns≠[])(hw:w.length<=43)(hn:ns.length<=4)(h:∀n∈ns,n.natAbs<10 ^ 40)(t:D):ac (c4 [zy C w (.tup (ns.map D.int)) t]) (.str (sN (jn (w::ns.map bb)))):=by
 have hr:=Ni hn h
 have hj:=Ct (ws:=ns.map bb) (by
  intro v hv
  obtain⟨n,hn,rfl⟩:=List.mem_map.mp hv
  have:=gE (h n hn);omega)
 rw[List.length_map]at hj
 have b1:ac (iK .Add (.str (sN w)) (.str (Str.ofString " ")) 0 0) (.str (sN (w++[32])),0):=by
  rw[sh]
  refine ac.eq ⟨_,rfl,by rw[bO,bO];show _+1<=40000;omega,True.intro⟩ ?_
  rw[jp]
 have b2:ac (iK .Add (.str (sN (w++[32]))) (.str (sN (jn (ns.map bb)))) 0 0) (.str (sN (jn (w::ns.map bb))),0):=by
  refine ac.eq ⟨_,rfl,by rw[bO,bO,List.length_append];show _+1+_<=40000;omega,True.intro⟩ ?_
  rw[jp,Eu w (by intro z;exact h0 (List.map_eq_nil_iff.mp z)),List.append_assoc];rfl
 rcases hC with rfl|rfl|rfl
 ·exact bM (bf (aW (cA (k:=0) (j:=0) (cA (k:=0) (j:=0) decl_name% decl_name% b1) (aP decl_name% hr) b2)))
 ·exact bM (bf (aW (cA (k:=0) (j:=0) (cA (k:=0) (j:=0) decl_name% decl_name% b1) (aP decl_name% hr) b2)))
 ·exact bM (bf (aW (cA (k:=0) (j:=0) (cA (k:=0) (j:=0) decl_name% decl_name% b1) (aP decl_name% hr) b2)))
noncomputable def rF:Fx:=JY [("_law_cell", mZ),("_law_due", pT),("_law_number", ka),("_law_changed", jf),("_law_refused", fz),("deed_read", cF)] [] BL IL ML TL bw [] [("Turn", [("told", c4)]),("HalfTurn", [("told", c4)]),("Mirror", [("told", c4)])]
noncomputable def rG:List D->Rs D:=cG rF (aa (ag 52)) ["_law_script"] (ak (ag 52))
theorem eB{x:Int}(hk:k≠0)(h:(k*x).natAbs<10 ^ 40):x.natAbs<10 ^ 40:=by
 rw[Int.natAbs_mul]at h
 exact Nat.lt_of_le_of_lt (Nat.le_mul_of_pos_left _ (by omega)) h
theorem OL{P:Int->Prop}(h1:P a)(h2:P b)(h3:P c)(h4:P d):∀n∈[a,b,c,d],P n:=by
 intro n hn
 simp only[List.mem_cons,List.not_mem_nil,or_false]at hn
 rcases hn with rfl|rfl|rfl|rfl<;>assumption
theorem Hy{P:Int->Prop}(h1:P a)(h2:P b)(h3:P c):∀n∈[a,b,c],P n:=by
 intro n hn
 simp only[List.mem_cons,List.not_mem_nil,or_false]at hn
 rcases hn with rfl|rfl|rfl<;>assumption
theorem PV{d r:D}(h:ac (dy [d]) r):ac (dZ [.str "turn", d]) r:=bM (ci decl_name% rfl (bf (aW (aP decl_name% h))))
theorem Lq{m:Str}{p ap cp q:Pos}{args:List Expr}{M:List D->List D->Nat->Rs (List D)}{l l':List D}{k:Nat}(hp:(ap.endLine==cp.line)=true)(ha:ac (bi Φ args sc ρ) (ds,k))(hm:Φ.mtt m=some M)(hx:ρ x=some (.lst l,true))(hM:ac (M l ds k) l')(hn:dP x=true:=by rfl) :
  ac (eR Φ (.Expr (.Call (.Attribute (.Name x p) m ap) args [] cp) q) sc ρ) (.nx (bz ρ x (.lst l',true))):=by
 suffices key:ac (jW Φ (.Call (.Attribute (.Name x p) m ap) args [] cp) sc ρ) (.nx (bz ρ x (.lst l',true)))from key
 unfold jW
 dsimp only
 rw[if_pos hp]
 refine ac.bnd ha ?_
 rw[hm]
 unfold sH
 rw[hx]
 dsimp only
 rw[if_pos hn]
 exact hM.bnd cw
theorem IG(i:Nat):ac (gW .Eq (tZ i) (tZ i)) true:=by
 refine ac.eq ⟨_,rfl,?_,True.intro⟩ ?_
 ·have:SeqAt.shaped (tZ i).py=true:=by
   have h1:PyData.canLay0 (D.str (Str.ofString "NoText")).py=true:=by decide +kernel
   rw[D.py]at h1
   unfold SeqAt.shaped
   simp[D.py,g9,PyData.canLayAll0,PyData.canLay0,PyData.depthAll,PyData.depth]at h1⊢
   exact h1
  unfold dR;rw[this];rfl
 ·show(eqD (.lst [.str (Str.ofString "NoText")]) (.lst [.str (Str.ofString "NoText")])&&(eqD (.int (i:Nat)) (.int (i:Nat))&&true))=true
  rw[cV,decide_eq_true rfl]
  decide +kernel
theorem Me(hC:C = "Turn" \/ C = "Mirror" \/ C = "HalfTurn")(t:D)(h0:ns≠[])(hw:w.length<=43)(hf:du w)(hn:ns.length<=4)(h:∀n∈ns,n.natAbs<10 ^ 40):∃T:Str,ac (c4 [zy C w (.tup (ns.map D.int)) t]) (.str T)/\ac (jy (.str T) [.str (Str.ofString " ")]) (.lst (.str (sN w)::ns.map bX),0):=by
 refine⟨_,Mg hC h0 hw hn h t,?_⟩
 have:=o4 (ws:=w::ns.map bb) (by intro z;cases z) (fun v hv=>by
  rcases List.mem_cons.mp hv with rfl|hv
  ·exact hf
  ·obtain⟨n,_,rfl⟩:=List.mem_map.mp hv
   exact oZ n) (by rw[List.length_cons,List.length_map];omega) (fun v hv=>by
  rcases List.mem_cons.mp hv with rfl|hv
  ·exact hw
  ·obtain⟨n,hn,rfl⟩:=List.mem_map.mp hv
   have:=gE (h n hn);omega)
 rw[List.map_cons,List.map_map]at this
 exact this
theorem IP{w:Str}(hw:qd w ns.length)(h:∀n∈ns,n.natAbs<10 ^ 40)(h0:ns≠List.replicate ns.length 0):∃(C:Str) (ms:List Int) (t:D),(C = "Turn" \/ C = "Mirror" \/ C = "HalfTurn")/\ms.length=ns.length/\(∀n∈ms,n.natAbs<10 ^ 40)/\ac (dZ [.str w,.tup (ns.map D.int)]) (zy C w.cps.toList (.tup (ms.map D.int)) t):=by
 rcases hw with⟨rfl,hl⟩|⟨rfl,hl⟩|⟨rfl,hl⟩
 ·obtain⟨x,y,z,u,rfl⟩:=L1 hl
  obtain⟨k,a,b,c,d,hk,rfl,rfl,rfl,rfl,p,_⟩:=vk (fun q:x=0/\y=0/\z=0/\u=0=>h0 (by rw[q.1,q.2.1,q.2.2.1,q.2.2.2];rfl))
  have hx:=h (k*a) (by simp)
  have hy:=h (k*b) (by simp)
  have hz:=h (k*c) (by simp)
  have hu:=h (k*d) (by simp)
  have l4:vy (2 ^ 140) (kq k (a,b,c,d)):=⟨eD hx,eD hy,eD hz,eD hu⟩
  have kb:k.natAbs<fO:=gS (HI (q:=(a,b,c,d)) p.ne l4) (by decide)
  have hT:=yX (q:=(a,b,c,d)) (by decide) l4
  have t1:=FR hk p hT kb (eD (eB hk hx)) (eD (eB hk hy)) (eD (eB hk hz)) (eD (eB hk hu))
  exact⟨"Turn", [a,b,c,d],_,.inl rfl,rfl,OL (eB hk hx) (eB hk hy) (eB hk hz) (eB hk hu),PV t1⟩
 ·obtain⟨x,y,z,rfl⟩:=Co hl
  obtain⟨k,v,hk,e,p⟩:=Ce (u:=(x,y,z)) (fun q=>h0 (by rw[show x=0 from q.2.1,show y=0 from q.2.2.1,show z=0 from q.2.2.2];rfl))
  obtain⟨b,c,d⟩:=v
  cases e
  have hx:=h (k*b) (by simp)
  have hy:=h (k*c) (by simp)
  have hz:=h (k*d) (by simp)
  obtain⟨o1,o2,kb,bv⟩:=LX (u:=(b,c,d)) hk p (Nat.le_refl 140) (ue ⟨eD hx,eD hy,eD hz⟩)
  obtain⟨v1,v2,v3⟩:=bv.all
  exact⟨"HalfTurn", [b,c,d],_,.inr (.inr rfl),rfl,Hy (eB hk hx) (eB hk hy) (eB hk hz),PY (Ig hk p o1 o2 kb v1 v2 v3)⟩
 ·obtain⟨x,y,z,rfl⟩:=Co hl
  obtain⟨k,v,hk,e,p⟩:=Ce (u:=(x,y,z)) (fun q=>h0 (by rw[show x=0 from q.2.1,show y=0 from q.2.2.1,show z=0 from q.2.2.2];rfl))
  obtain⟨b,c,d⟩:=v
  cases e
  have hx:=h (k*b) (by simp)
  have hy:=h (k*c) (by simp)
  have hz:=h (k*d) (by simp)
  obtain⟨o1,o2,kb,bv⟩:=LX (u:=(b,c,d)) hk p (Nat.le_refl 140) (ue ⟨eD hx,eD hy,eD hz⟩)
  obtain⟨v1,v2,v3⟩:=bv.all
  exact⟨"Mirror", [b,c,d],_,.inr (.inl rfl),rfl,Hy (eB hk hx) (eB hk hy) (eB hk hz),PX (K1 hk p o1 o2 kb v1 v2 v3)⟩
theorem NN{rest:Ws}(hw:dE (p::rest))(hl:rest.length<=19)(e:ge (p::rest)=none):∃(C:Str) (ms:List Int) (t:D),(C = "Turn" \/ C = "Mirror" \/ C = "HalfTurn")/\ms≠[]/\ms.length<=4/\(∀n∈ms,n.natAbs<10 ^ 40)/\ac (cF [.str (tW (p::rest))]) (zy C p.1 (.tup (ms.map D.int)) t):=by
 cases hd:iP p.1 with
 | none=>rw[tX hd]at e;cases e
 | some m =>
  rw[tV hd]at e
  cases hf:fN ((rest.map (·.2)).take m)with
  | some j=>rw[hf]at e;cases e
  | none =>
   rw[hf]at e
   dsimp only at e
   by_cases h1:m<rest.length
   ·rw[if_pos h1]at e;cases e
   rw[if_neg h1]at e
   by_cases h2:rest.length<m
   ·rw[if_pos h2]at e;cases e
   rw[if_neg h2]at e
   have em:rest.length=m:=by omega
   rw[List.take_of_length_le (by rw[List.length_map];omega)]at hf
   obtain⟨is,ei⟩:=tL hf
   obtain⟨tx,tb⟩:=re (is:=is) (fun q hq=>hw q (List.mem_cons_of_mem _ hq)) ei
   have il:is.length=m:=by
    have:=congrArg List.length tx
    rw[List.length_map,List.length_map]at this
    omega
   have hne:is≠List.replicate is.length 0:=fun z=>by
    have:(rest.all fun p=>decide (p.2=some 0))=true:=by
     rw[List.all_eq_true]
     intro q hq
     have:q.2∈is.map some:=by rw[<- ei];exact List.mem_map.mpr ⟨q,hq,rfl⟩
     obtain⟨i,hi,hq2⟩:=List.mem_map.mp this
     rw[z]at hi
     rw[<- hq2,List.eq_of_mem_replicate hi]
     rfl
    rw[this,if_pos rfl]at e
    cases e
   have jw:(p::rest).map (·.1)=p.1::is.map bb:=by
    rw[List.map_cons]
    congr 1
    have e2:(aR rest).map (fun d=>match d with | .str x=>x.cps.toList|_=>[])=rest.map (·.1):=by rw[List.map_map];rfl
    rw[<- e2,tx,List.map_map]
    rfl
   have hk:qd (sN p.1) is.length:=by
    rcases jM hd with⟨ep,rfl⟩|⟨ep,rfl⟩|⟨ep,rfl⟩
    ·exact .inl ⟨by rw[ep];exact(eN "turn").symm,il⟩
    ·exact .inr (.inl ⟨by rw[ep];exact(eN "half").symm,il⟩)
    ·exact .inr (.inr ⟨by rw[ep];exact(eN "mirror").symm,il⟩)
   obtain⟨C,ms,t,hC,ml,mb,hd'⟩:=IP hk tb hne
   have m4:=hk.len
   refine⟨C,ms,t,hC,fun z=>m4.2.1 (by rw[<- ml,z];rfl),by rw[ml];exact m4.1,mb,?_⟩
   have:=Po hk tb hd'
   rw[fj]at this
   show ac (cF [.str (sN (jn ((p::rest).map (·.1))))]) _
   rw[jw]
   exact this
theorem A6(hw:dE ws)(h0:ws≠[])(hl:ws.length<=15)(s:Sub (cW [("_law_words", .lst (aR ws),true)]) ρ):ac (az rF ((ak (ag 52)).drop 4) (aa (ag 52)) ρ) (.rt (.bl true)):=by
 cases ws with
 | nil=>exact absurd rfl h0
 | cons p rest =>
  rw[List.length_cons]at hl
  have hj:=y4 (ws:=(p::rest).map (·.1)) (by rw[List.length_map,List.length_cons];omega) (fun w h=>by
   obtain⟨q,hq,rfl⟩:=List.mem_map.mp h
   exact rg (hw q hq))
  rw[List.map_map]at hj
  have hj:ac (lH (.str (Str.ofString " ")) [.lst (aR (p::rest))]) (.str (tW (p::rest)),0):=hj
  have hs:=B7 hw (by simp) (by rw[List.length_cons];omega)
  have hd:=Ly hw (by omega)
  have hlw:=dN (p::rest)
  have hat:L2.atI (aR (p::rest)) 0=some (.str (sN p.1)):=dS (j:=0) rfl
  refine cS s (bA (bj (d:=.str (tW (p::rest))) (gO decl_name% decl_name% hj)) (bA (bj (d:=Bl (ge (p::rest))) (aP (aK (gO decl_name% decl_name% hs) aY) hd)) ?_))
  cases e:ge (p::rest)with
  | some o =>
   have hr:=KC hw (by omega) e
   cases o with
   | none=>exact ci (t:=true) (k:=0) decl_name% rfl (bf (aW (gb (aP decl_name% hr) decl_name% decl_name%)))
   | some i=>exact ci (t:=true) (k:=0) decl_name% rfl (bf (aW (gb (aP decl_name% hr) decl_name% (IG i))))
  | none =>
   obtain⟨C,ms,t,hC,m0,m4,mb,hr⟩:=NN hw (by omega) e
   have hp:=hw p List.mem_cons_self
   obtain⟨T,h1,h2⟩:=Me (w:=p.1) hC t m0 (rg hp) (v6 hp) m4 mb
   have ek:=d6 (fY (lz hp)) (fY (lz hp))
   have ce:ac (gW .Eq (.str (sN p.1)) (.str (sN p.1))) true:=ac.eq ⟨_,rfl,ek,True.intro⟩ (by rw[eS,decide_eq_true rfl])
   have h1':=h1
   unfold zy at hr h1'
   rcases hC with rfl|rfl|rfl
   ·exact bg (t:=false) (k:=0) decl_name% rfl (bf (aW (gb (cq (k:=0) (gO (pF (aP decl_name% hr) decl_name% rfl h1') decl_name% h2) decl_name% rfl (dS (j:=0) rfl)) (cq decl_name% decl_name% rfl hat) ce)))
   ·exact bg (t:=false) (k:=0) decl_name% rfl (bf (aW (gb (cq (k:=0) (gO (pF (aP decl_name% hr) decl_name% rfl h1') decl_name% h2) decl_name% rfl (dS (j:=0) rfl)) (cq decl_name% decl_name% rfl hat) ce)))
   ·exact bg (t:=false) (k:=0) decl_name% rfl (bf (aW (gb (cq (k:=0) (gO (pF (aP decl_name% hr) decl_name% rfl h1') decl_name% h2) decl_name% rfl (dS (j:=0) rfl)) (cq decl_name% decl_name% rfl hat) ce)))
theorem A5(ns:List Int)(_:ns.length<=63)(hb:∀m∈ns,Builtin.Int.intBits m<=2 ^ 20):ac (rG [.lst (ns.map D.int)]) (.bl true):=by
 have hw:Ci (ns.map D.int):=⟨ns,rfl,hb⟩
 generalize ns.map D.int=L at *
 have hl:=hw.okL
 have k0:=Int.fmod_nonneg_of_pos (eY L 0) (show(0:Int)<3 by decide)
 have k1:=Int.fmod_lt_of_pos (eY L 0) (show(0:Int)<3 by decide)
 obtain⟨w0,hw0,hat0⟩:=CW (f:=fun s:String=>D.str (Str.ofString s)) (l:=["turn", "half", "mirror"]) k0 k1
 obtain⟨m',hm',hat⟩:=CW (f:=D.int) (l:=[4,3,3]) k0 k1
 obtain⟨m,rfl,m4⟩:∃m:Nat,m'=((m:Nat):Int)/\m<=4:=by
  simp only[List.mem_cons,List.not_mem_nil,or_false]at hm'
  rcases hm' with rfl|rfl|rfl
  ·exact⟨4,rfl,by decide⟩
  ·exact⟨3,rfl,by decide⟩
  ·exact⟨3,rfl,by decide⟩
 have hk0:Wk (bY w0) none:=by
  simp only[List.mem_cons,List.not_mem_nil,or_false]at hw0
  rcases hw0 with rfl|rfl|rfl<;>exact Wk.bd _ (by decide +kernel)
 have j0:=Int.fmod_nonneg_of_pos ((eY L 0).fdiv 36) (show(0:Int)<3 by decide)
 have j1:=Int.fmod_lt_of_pos ((eY L 0).fdiv 36) (show(0:Int)<3 by decide)
 have mb1:-4611686018427387904<=((m:Nat):Int):=by omega
 have mb2:((m:Nat):Int)<=b8:=by show _<=(40000:Int);omega
 have nb1:-4611686018427387904<=((eY L 0).fdiv 36).fmod 3:=by omega
 have nb2:((eY L 0).fdiv 36).fmod 3<=b8:=by show _<=(40000:Int);omega
 refine bM (bA (bj (d:=.int (eY L 0)) decl_name%) (bA (bj (d:=.lst (aR [(bY w0,none)])) (by exact tR (k:=0) (aK (cq (k:=0) (k2:=0) (d:=.str (sN (bY w0))) decl_name% decl_name% rfl (by rw[<- eN];exact hat0)) aY) ⟨Nat.le_of_ble_eq_true rfl,Nat.zero_le 1⟩)) (ve (n:=m) (fun i ρ => ∃ws:Ws,dE ws/\ws.length=i+1/\Sub (cW [("_law_script", .lst L,false),("_law_kind", .int (eY L 0),true),("_law_words", .lst (aR ws),true)]) ρ) (Lv (B:=nR) (aK (cq (k:=0) (k2:=0) decl_name% decl_name% rfl hat) aY) decl_name%) ⟨_,fun p hp=>by cases List.mem_singleton.mp hp;exact hk0,rfl,aJ rfl (aJ rfl (aJ rfl bW))⟩ ?_ ?_)))
 ·rintro i ρ hi ⟨ws,ok,hln,s⟩
  have s1:=s.put "_law_k" (.int (i:Nat),false)
  have nb:=Hn (eY L (3+((i:Nat):Int))) ((eY L 0).fdiv 3)
  generalize hx:ph (eY L (3+((i:Nat):Int))) ((eY L 0).fdiv 3)=x at *
  obtain⟨ρ1,h1,s2⟩:∃ρ1,ac (az rF ((ij ((ak (ag 52)).getD 2 (.Pass ⟨0,0,0,0⟩))).take 1) (aa (ag 52)) (bz ρ "_law_k" (.int (i:Nat),false))) (.nx ρ1)/\Sub (cW [("_law_script", .lst L,false),("_law_kind", .int (eY L 0),true),("_law_words", .lst (aR ws),true),("_law_number_here", .int x,true)]) ρ1:=iu s1 (bA (bj (d:=.int x) ((decl_name%).eq (by show(D.int (ph (eY L (3+((i:Nat):Int))) ((eY L 0).fdiv 3)),0)=_;rw[hx]))) dm) fun ρ' s'=>aJ s'.get (aJ s'.get (aJ s'.get (aJ s'.get bW)))
  obtain⟨y,hy,hv⟩:∃y:Int,y.natAbs<10 ^ 40/\ac (au rF (Ru ((ij ((ak (ag 52)).getD 2 (.Pass ⟨0,0,0,0⟩))).getD 1 (.Pass ⟨0,0,0,0⟩))) false (aa (ag 52)) (cW [("_law_script", .lst L,false),("_law_kind", .int (eY L 0),true),("_law_words", .lst (aR ws),true),("_law_number_here", .int x,true)])) (.str (sN (bb y)),0):=by
   have x40:x.natAbs<10 ^ 40:=by omega
   have st:∀y:Int,y.natAbs<10 ^ 40->ac (mV [.int y]) (.str (sN (bb y)),0):=fun y hy=>by
    have:=yT hy
    exact((decl_name%):ac (mV [.int y]) _).eq (by show(D.str (Str.ofString (toString y)),0)=_;rw[BS])
   by_cases hc:0<((eY L 0).fdiv 9).fmod 4
   ·refine⟨x,x40,dw (B:=mV) (aK (cA (k:=0) (j:=0) (r:=(.int x,0)) decl_name% (dw (B:=gk) (aK ((decl_name%).bl (decide_eq_true hc)) aY) decl_name%) ((decl_name%).eq ?_)) aY) (st x x40)⟩
    show(D.int (x*1),0)=_
    rw[Int.mul_one]
   ·refine⟨0,by decide,dw (B:=mV) (aK (cA (k:=0) (j:=0) (r:=(.int 0,0)) decl_name% (dw (B:=gk) (aK ((decl_name%).bl (decide_eq_false hc)) aY) decl_name%) ((decl_name%).eq ?_)) aY) (st 0 (by decide))⟩
    show(D.int (x*0),0)=_
    rw[Int.mul_zero]
  have s3:=s2.put "_law_words" (.lst (aR ws++[.str (sN (bb y))]),true)
  refine⟨_,rfl,_,fV 1 h1 (bA (Lq (l:=aR ws) (ds:=[.str (sN (bb y))]) (l':=aR ws++[.str (sN (bb y))]) (k:=0) rfl (aK (fv s2 hv) aY) rfl s2.get (JJ (by rw[List.length_map];show _<40000;omega))) dm),ws++[(bb y,some y)],?_,by rw[List.length_append,hln];rfl,?_⟩
  ·intro p hp
   rcases List.mem_append.mp hp with hp|hp
   ·exact ok p hp
   ·cases List.mem_singleton.mp hp;exact Wk.tx y hy
  ·rw[show aR (ws++[(bb y,some y)])=aR ws++[.str (sN (bb y))]from List.map_append]
   exact aJ s3.get (aJ s3.get (aJ s3.get bW))
 ·rintro ρ ⟨ws,ok,hln,s⟩
  refine ve (n:=(((eY L 0).fdiv 36).fmod 3).toNat) (fun i ρ => ∃ws:Ws,dE ws/\ws≠[]/\ws.length<=5+i/\Sub (cW [("_law_script", .lst L,false),("_law_words", .lst (aR ws),true)]) ρ) (fv s decl_name%) ⟨ws,ok,by intro z;rw[z]at hln;simp at hln,by omega,aJ s.get (aJ s.get bW)⟩ ?_ ?_
  ·rintro i ρ hi ⟨ws,ok,h0,hln,s⟩
   have s1:=s.put "_law_k" (.int (i:Nat),false)
   obtain⟨ws',ok',h0',hl',hc⟩:=zD ok h0 (by omega) (eY L (1+((i:Nat):Int)))
   have hlw:=dN ws
   refine⟨_,rfl,iu s1 (bA (bj (d:=.lst (aR ws')) (aP decl_name% hc)) dm) fun ρ' s'=>⟨ws',ok',h0',by omega,aJ s'.get (aJ s'.get bW)⟩⟩
  ·rintro ρ ⟨ws,ok,h0,hln,s⟩
   exact A6 ok h0 (by omega) (aJ s.get bW)
theorem M7:aF (al (aa (ag 43))) ["_law_script", "_law_k"] (aa (ag 43)):=⟨rfl,rfl,rfl,by decide +kernel,by decide +kernel,by decide +kernel,by decide +kernel⟩
theorem M1:aF (al (aa (ag 49))) ["_law_word"] (aa (ag 49)):=⟨rfl,rfl,rfl,by decide +kernel,by decide +kernel,by decide +kernel,by decide +kernel⟩
theorem M0:aF (al (aa (ag 50))) ["_law_words"] (aa (ag 50)):=⟨rfl,rfl,rfl,by decide +kernel,by decide +kernel,by decide +kernel,by decide +kernel⟩
theorem M5:aF (al (aa (ag 45))) ["_law_cell_here", "_law_kind"] (aa (ag 45)):=⟨rfl,rfl,rfl,by decide +kernel,by decide +kernel,by decide +kernel,by decide +kernel⟩
theorem M3:aF (al (aa (ag 47))) ["_law_cell_here"] (aa (ag 47)):=⟨rfl,rfl,rfl,by decide +kernel,by decide +kernel,by decide +kernel,by decide +kernel⟩
theorem M2:aF (al (aa (ag 48))) ["_law_words", "_law_cell_here"] (aa (ag 48)):=⟨rfl,rfl,rfl,by decide +kernel,by decide +kernel,by decide +kernel,by decide +kernel⟩
theorem M8:aF (al (aa (ag 31))) ["text"] (aa (ag 31)):=⟨rfl,rfl,rfl,by decide +kernel,by decide +kernel,by decide +kernel,by decide +kernel⟩
theorem M9:aF (al (aa (ag 30))) ["word"] (aa (ag 30)):=⟨rfl,rfl,rfl,by decide +kernel,by decide +kernel,by decide +kernel,by decide +kernel⟩
theorem Gr:aF (al (aa (ag 40))) ["words"] (aa (ag 40)):=⟨rfl,rfl,rfl,by decide +kernel,by decide +kernel,by decide +kernel,by decide +kernel⟩
theorem Nd:aF (al (aa (ag 17))) ["one", "other"] (aa (ag 17)):=⟨rfl,rfl,rfl,by decide +kernel,by decide +kernel,by decide +kernel,by decide +kernel⟩
theorem Nf:aF (al (aa (ag 16))) ["numbers"] (aa (ag 16)):=⟨rfl,rfl,rfl,by decide +kernel,by decide +kernel,by decide +kernel,by decide +kernel⟩
theorem Nc:aF (al (aa (ag 18))) ["numbers", "divisor"] (aa (ag 18)):=⟨rfl,rfl,rfl,by decide +kernel,by decide +kernel,by decide +kernel,by decide +kernel⟩
theorem Gy:aF (al (aa (ag 19))) ["numbers"] (aa (ag 19)):=⟨rfl,rfl,rfl,by decide +kernel,by decide +kernel,by decide +kernel,by decide +kernel⟩
theorem Nb:aF (al (aa (ag 22))) ["table"] (aa (ag 22)):=⟨rfl,rfl,rfl,by decide +kernel,by decide +kernel,by decide +kernel,by decide +kernel⟩
theorem Gx:aF (al (aa (ag 24))) ["numbers"] (aa (ag 24)):=⟨rfl,rfl,rfl,by decide +kernel,by decide +kernel,by decide +kernel,by decide +kernel⟩
theorem Gw:aF (al (aa (aN (ag 34) 0))) ["self", "word", "row", "fractions"] (aa (aN (ag 34) 0)):=⟨rfl,rfl,rfl,by decide +kernel,by decide +kernel,by decide +kernel,by decide +kernel⟩
theorem yw:aF (al (aa (aN (ag 35) 0))) ["self", "numbers"] (aa (aN (ag 35) 0)):=⟨rfl,rfl,rfl,by decide +kernel,by decide +kernel,by decide +kernel,by decide +kernel⟩
theorem Gv:aF (al (aa (ag 38))) ["axis"] (aa (ag 38)):=⟨rfl,rfl,rfl,by decide +kernel,by decide +kernel,by decide +kernel,by decide +kernel⟩
theorem yv:aF (al (aa (aN (ag 36) 0))) ["self", "axis"] (aa (aN (ag 36) 0)):=⟨rfl,rfl,rfl,by decide +kernel,by decide +kernel,by decide +kernel,by decide +kernel⟩
theorem Ng:aF (al (aa (ag 14))) ["one"] (aa (ag 14)):=⟨rfl,rfl,rfl,by decide +kernel,by decide +kernel,by decide +kernel,by decide +kernel⟩
theorem yt:aF (al (aa (aN (ag 37) 0))) ["self", "axis"] (aa (aN (ag 37) 0)):=⟨rfl,rfl,rfl,by decide +kernel,by decide +kernel,by decide +kernel,by decide +kernel⟩
theorem Gq:aF (al (aa (ag 41))) ["word", "numbers"] (aa (ag 41)):=⟨rfl,rfl,rfl,by decide +kernel,by decide +kernel,by decide +kernel,by decide +kernel⟩
theorem Gs:aF (al (aa (ag 39))) ["text"] (aa (ag 39)):=⟨rfl,rfl,rfl,by decide +kernel,by decide +kernel,by decide +kernel,by decide +kernel⟩
theorem M4:aF (al (aa (ag 46))) ["_law_error"] (aa (ag 46)):=⟨rfl,rfl,rfl,by decide +kernel,by decide +kernel,by decide +kernel,by decide +kernel⟩
theorem M6:aF (al (aa (ag 44))) ["_law_x"] (aa (ag 44)):=⟨rfl,rfl,rfl,by decide +kernel,by decide +kernel,by decide +kernel,by decide +kernel⟩
theorem MZ:aF (al (aa (ag 51))) ["_law_text"] (aa (ag 51)):=⟨rfl,rfl,rfl,by decide +kernel,by decide +kernel,by decide +kernel,by decide +kernel⟩
theorem Na:aF (al (aa (ag 29))) ["numbers"] (aa (ag 29)):=⟨rfl,rfl,rfl,by decide +kernel,by decide +kernel,by decide +kernel,by decide +kernel⟩
theorem sv:aF (al (aa (aN (ag 34) 4))) ["self"] (aa (aN (ag 34) 4)):=⟨rfl,rfl,rfl,by decide +kernel,by decide +kernel,by decide +kernel,by decide +kernel⟩
theorem MY:aF (al (aa (ag 52))) ["_law_script"] (aa (ag 52)):=⟨rfl,rfl,rfl,by decide +kernel,by decide +kernel,by decide +kernel,by decide +kernel⟩
theorem Ky:aF (al (aa (aN (ag 8) 0))) ["self", "at"] (aa (aN (ag 8) 0)):=⟨rfl,rfl,rfl,by decide +kernel,by decide +kernel,by decide +kernel,by decide +kernel⟩
theorem bu:∀p∈BL,g8 p:=aj (Pr:=g8) (Bx) (aj (Pr:=g8) (Ab) (aj (Pr:=g8) (FB) (aj (Pr:=g8) (FA) (aj (Pr:=g8) (BD) (aj (Pr:=g8) (Fv) (aj (Pr:=g8) (BB) (aj (Pr:=g8) (Fs) (aj (Pr:=g8) (Ft) (am)))))))))
theorem br:∀p∈IL,xy p:=aj (Pr:=xy) (zh) (am)
theorem bq:∀p∈ML,pU p:=aj (Pr:=pU) (AZ) (aj (Pr:=pU) (yS) (aj (Pr:=pU) (Hz) (am)))
theorem bo:∀p∈TL,xw p:=aj (Pr:=xw) (wM) (am)
theorem cL{w:World}{k:Nat}{l:List (Str×(List D->Rs D))}(h:dg P w k0 mg base j g F)(t:∀p∈l,qS P w k0 mg base k p)(hj:j<=k:=by decide):∀p∈(g,F)::l,qS P w k0 mg base k p:=aj (Pr:=qS P w k0 mg base k) (Or.inl (h.mono hj)) t
theorem cR{w:World}{k:Nat}{l:List (Str×(List D->Rs D))}(h:oQ P w k0 mg base j g F)(t:∀p∈l,qS P w k0 mg base k p)(hj:j<=k:=by decide):∀p∈(g,F)::l,qS P w k0 mg base k p:=aj (Pr:=qS P w k0 mg base k) (Or.inr (h.mono hj)) t
theorem cN{n:Str}{l:List Str}(h:mg n=none)(t:∀m∈l,mg m=none):∀m∈n::l,mg m=none:=aj (Pr:=fun n=>mg n=none) h t
theorem cM{w:World}{K:W.Frag}{k:Nat}{c:Str}{q:Str×(List D->Rs D)}{qs:List (Str×(List D->Rs D))}(h:eI P w K mg base j c q.1 q.2)(hk:j<=k)(t:∀p∈qs,eI P w K mg base k c p.1 p.2):∀p∈q::qs,eI P w K mg base k c p.1 p.2:=aj (Pr:=fun p:Str×(List D->Rs D)=>eI P w K mg base k c p.1 p.2) (h.mono hk) t
theorem cO{w:World}{K:W.Frag}{k:Nat}{c:Str}{ms:List (Str×(List D->Rs D))}{r:List (Str×List (Str×(List D->Rs D)))}(h:∀q∈ms,eI P w K mg base k c q.1 q.2)(t:∀p∈r,xu P w K mg base k p):∀p∈(c,ms)::r,xu P w K mg base k p:=aj (Pr:=xu P w K mg base k) h t
local macro_rules|`(tactic|walk_at "bn")=>`(tactic|(intro _ _ _ _ _ _ us hl;first|(obtain⟨x0,e⟩:=HC hl;subst e;rfl)|(obtain⟨x0,x1,e⟩:=A4 hl;subst e;rfl)|(obtain⟨x0,x1,x2,x3,e⟩:=OM hl;subst e;rfl)))
theorem all_mk{l:W.OpenLaw}{w:World}{K:W.Frag}{h:Heap}{fa f43 f49 f50 f45 f47 f48 f31 f30 f40 f17 f16 f18 f19 f22 f24 rD n5 f38 nZ f14 nY f41 f39 f46 f44 f51 f29 iU f52 pD cu bt bN oV:Addr}(X:K.In h)(G:h.Ns mainGlobals mg)(hfa:mg "law" = some (.ref fa))
  {NX QF NR Qz NQ Qy NV QD NT QB NS QA N2 QK N3 QL NZ QH Oa QR Ob QS N9 QQ N8 QP N7 QO N6 QN Hh JP Hf JN N1 QJ He JM Oc QT Hd JL NY QG N0 QI NU QC NW QE NP Qx N5 QM Hg JO NO JK KS LL:Option Addr} {MH MB MA MF MD MC MN MO MJ MU MV MT MS MR MQ Gi Gg MM Gf MW Ge MI MK ME MG Mz MP Gh Mx Kx:Array (Option Value)} {On OY Py Ny Jo Qc Og OS Ps Nr Ji P6 Of OR Pq Nq Jh P5 Ol OW Pw Nw Jm Qa Oi OU Pu Nu Jk P8 Oh OT Pt Nt Jj P7 Ot O3 PF ND Jt Qi Ou O4 PH NE Ju Qj Op O0 PB NA Jq Qf OB Pa PQ NK JA Qq OC Pb PR NL JB Qr OA O9 PN NJ Jz Qp Oz O8 PM NI Jy Qo Oy O7 PL NH Jx Qn Ox O6 PK NG Jw Ql Hm HQ IV GN zK Jd Hk HN IT GL zI Jb Os O2 PD NC Js Qh Hj HM IS GK zH Ja OE Pc PU NM JC Qs Hi HL IR GJ zG I0 Oo OZ Pz Nz Jp Qe Oq O1 PC NB Jr Qg Oj OV Pv Nv Jl P9 Om OX Px Nx Jn Qb Oe OQ Pp Np Jg P4 Ov O5 PJ NF Jv Qk Hl HP IU GM zJ Jc Od HK IQ GI Br IZ KT Ld LA KH CO LD:Value}
  (gx:W.nsIn K mainGlobals "Turn" = some (some (.ref cu)))
  (DX:W.plainGet K cu Str.empty=true)
  (EB:W.hasDictIn K cu=true)
  (DV:W.plainOver K cu=true)
  (DH:W.findIn K (.ref cu) "__setattr__" = some (some (.builtin "object.__setattr__")))
  (vq:W.makesIn K cu=true)
  (tz:W.findIn K (.ref cu) "__init__" = some (some (.ref n5)))
  (tE:W.isFn K (.ref n5)=true)
  (t5:W.keepIn K (.ref cu)=true)
  (kO:W.findIn K (.ref cu) "word" = some none)
  (ma:W.findIn K (.ref cu) "row" = some none)
  (lT:W.findIn K (.ref cu) "fractions" = some none)
  (dG:W.nsIn K mainGlobals "HalfTurn" = some (some (.ref bt)))
  (uE:W.plainGet K bt Str.empty=true)
  (uI:W.hasDictIn K bt=true)
  (uD:W.plainOver K bt=true)
  (uB:W.findIn K (.ref bt) "__setattr__" = some (some (.builtin "object.__setattr__")))
  (md:W.makesIn K bt=true)
  (kU:W.findIn K (.ref bt) "__init__" = some (some (.ref nZ)))
  (kX:W.isFn K (.ref nZ)=true)
  (lh:W.keepIn K (.ref bt)=true)
  (iA:W.findIn K (.ref bt) "word" = some none)
  (iT:W.findIn K (.ref bt) "row" = some none)
  (jv:W.findIn K (.ref bt) "fractions" = some none)
  (eU:W.nsIn K mainGlobals "Mirror" = some (some (.ref bN)))
  (yG:W.plainGet K bN Str.empty=true)
  (zj:W.hasDictIn K bN=true)
  (yD:W.plainOver K bN=true)
  (yx:W.findIn K (.ref bN) "__setattr__" = some (some (.builtin "object.__setattr__")))
  (qr:W.makesIn K bN=true)
  (nP:W.findIn K (.ref bN) "__init__" = some (some (.ref nY)))
  (nQ:W.isFn K (.ref nY)=true)
  (oy:W.keepIn K (.ref bN)=true)
  (ju:W.findIn K (.ref bN) "word" = some none)
  (km:W.findIn K (.ref bN) "row" = some none)
  (kB:W.findIn K (.ref bN) "fractions" = some none)
  (mJ:W.findIn K (.ref bt) "told" = some (some (.ref iU))) (mK:W.isFn K (.ref iU)=true)
  (pi:W.findIn K (.ref bN) "told" = some (some (.ref iU))) (pp:W.isFn K (.ref iU)=true)
  (sL:W.findIn K (.ref cu) "told" = some (some (.ref iU))) (sR:W.isFn K (.ref iU)=true)
  (jE:W.nsIn K mainGlobals "Deed" = some (some (.ref oV))) (jB:W.specialIn K (.ref oV) "__getattribute__" = some (some (.builtin "type.__getattribute__"))) (jq:W.readsIn K oV (.type "type")=true) (jC:W.findCls K (.ref oV) (.type "type") "__init__" = some (.val (.ref rD)))
  {bK:Addr} (gQ:W.nsIn K mainGlobals "NoText" = some (some (.ref bK))) (xi_NoText:W.findIn K (.ref bK) "__init__" = some (some (.ref pD)))
  (a43:W.nsIn K mainGlobals "_law_cell" = some (some (.ref f43)))    (l43:K.lookup f43=some ⟨On,NX,.func (W.fnOf "_law_cell" "_law_cell" (aU (ag 43)) (ak (ag 43)) (aa (ag 43)) .none OY Py Ny QF Jo Qc),MH⟩) (c43:W.codeIn K Jo "_law_cell" = true) (k43:W.keepIn K (.ref f43)=true)
  (a49:W.nsIn K mainGlobals "_law_right" = some (some (.ref f49)))    (l49:K.lookup f49=some ⟨Og,NR,.func (W.fnOf "_law_right" "_law_right" (aU (ag 49)) (ak (ag 49)) (aa (ag 49)) .none OS Ps Nr Qz Ji P6),MB⟩) (c49:W.codeIn K Ji "_law_right" = true) (k49:W.keepIn K (.ref f49)=true)
  (a50:W.nsIn K mainGlobals "_law_due" = some (some (.ref f50)))    (l50:K.lookup f50=some ⟨Of,NQ,.func (W.fnOf "_law_due" "_law_due" (aU (ag 50)) (ak (ag 50)) (aa (ag 50)) .none OR Pq Nq Qy Jh P5),MA⟩) (c50:W.codeIn K Jh "_law_due" = true) (k50:W.keepIn K (.ref f50)=true)
  (a45:W.nsIn K mainGlobals "_law_number" = some (some (.ref f45)))    (l45:K.lookup f45=some ⟨Ol,NV,.func (W.fnOf "_law_number" "_law_number" (aU (ag 45)) (ak (ag 45)) (aa (ag 45)) .none OW Pw Nw QD Jm Qa),MF⟩) (c45:W.codeIn K Jm "_law_number" = true) (k45:W.keepIn K (.ref f45)=true)
  (a47:W.nsIn K mainGlobals "_law_odd" = some (some (.ref f47)))    (l47:K.lookup f47=some ⟨Oi,NT,.func (W.fnOf "_law_odd" "_law_odd" (aU (ag 47)) (ak (ag 47)) (aa (ag 47)) .none OU Pu Nu QB Jk P8),MD⟩) (c47:W.codeIn K Jk "_law_odd" = true) (k47:W.keepIn K (.ref f47)=true)
  (a48:W.nsIn K mainGlobals "_law_changed" = some (some (.ref f48)))    (l48:K.lookup f48=some ⟨Oh,NS,.func (W.fnOf "_law_changed" "_law_changed" (aU (ag 48)) (ak (ag 48)) (aa (ag 48)) .none OT Pt Nt QA Jj P7),MC⟩) (c48:W.codeIn K Jj "_law_changed" = true) (k48:W.keepIn K (.ref f48)=true)
  (a31:W.nsIn K mainGlobals "are_figures" = some (some (.ref f31)))    (l31:K.lookup f31=some ⟨Ot,N2,.func (W.fnOf "are_figures" "are_figures" (aU (ag 31)) (ak (ag 31)) (aa (ag 31)) .none O3 PF ND QK Jt Qi),MN⟩) (c31:W.codeIn K Jt "are_figures" = true) (k31:W.keepIn K (.ref f31)=true)
  (a30:W.nsIn K mainGlobals "whole_read" = some (some (.ref f30)))    (l30:K.lookup f30=some ⟨Ou,N3,.func (W.fnOf "whole_read" "whole_read" (aU (ag 30)) (ak (ag 30)) (aa (ag 30)) .none O4 PH NE QL Ju Qj),MO⟩) (c30:W.codeIn K Ju "whole_read" = true) (k30:W.keepIn K (.ref f30)=true)
  (a40:W.nsIn K mainGlobals "numbers_read" = some (some (.ref f40)))    (l40:K.lookup f40=some ⟨Op,NZ,.func (W.fnOf "numbers_read" "numbers_read" (aU (ag 40)) (ak (ag 40)) (aa (ag 40)) .none O0 PB NA QH Jq Qf),MJ⟩) (c40:W.codeIn K Jq "numbers_read" = true) (k40:W.keepIn K (.ref f40)=true)
  (a17:W.nsIn K mainGlobals "shared_by" = some (some (.ref f17)))    (l17:K.lookup f17=some ⟨OB,Oa,.func (W.fnOf "shared_by" "shared_by" (aU (ag 17)) (ak (ag 17)) (aa (ag 17)) .none Pa PQ NK QR JA Qq),MU⟩) (c17:W.codeIn K JA "shared_by" = true) (k17:W.keepIn K (.ref f17)=true)
  (a16:W.nsIn K mainGlobals "common_divisor" = some (some (.ref f16)))    (l16:K.lookup f16=some ⟨OC,Ob,.func (W.fnOf "common_divisor" "common_divisor" (aU (ag 16)) (ak (ag 16)) (aa (ag 16)) .none Pb PR NL QS JB Qr),MV⟩) (c16:W.codeIn K JB "common_divisor" = true) (k16:W.keepIn K (.ref f16)=true)
  (a18:W.nsIn K mainGlobals "shortened" = some (some (.ref f18)))    (l18:K.lookup f18=some ⟨OA,N9,.func (W.fnOf "shortened" "shortened" (aU (ag 18)) (ak (ag 18)) (aa (ag 18)) .none O9 PN NJ QQ Jz Qp),MT⟩) (c18:W.codeIn K Jz "shortened" = true) (k18:W.keepIn K (.ref f18)=true)
  (a19:W.nsIn K mainGlobals "upright" = some (some (.ref f19)))    (l19:K.lookup f19=some ⟨Oz,N8,.func (W.fnOf "upright" "upright" (aU (ag 19)) (ak (ag 19)) (aa (ag 19)) .none O8 PM NI QP Jy Qo),MS⟩) (c19:W.codeIn K Jy "upright" = true) (k19:W.keepIn K (.ref f19)=true)
  (a22:W.nsIn K mainGlobals "lowest" = some (some (.ref f22)))    (l22:K.lookup f22=some ⟨Oy,N7,.func (W.fnOf "lowest" "lowest" (aU (ag 22)) (ak (ag 22)) (aa (ag 22)) .none O7 PL NH QO Jx Qn),MR⟩) (c22:W.codeIn K Jx "lowest" = true) (k22:W.keepIn K (.ref f22)=true)
  (a24:W.nsIn K mainGlobals "table_of" = some (some (.ref f24)))    (l24:K.lookup f24=some ⟨Ox,N6,.func (W.fnOf "table_of" "table_of" (aU (ag 24)) (ak (ag 24)) (aa (ag 24)) .none O6 PK NG QN Jw Ql),MQ⟩) (c24:W.codeIn K Jw "table_of" = true) (k24:W.keepIn K (.ref f24)=true)
  (La:K.lookup rD=some ⟨Hm,Hh,.func (W.fnOf "__init__" "Deed.__init__" (aU (aN (ag 34) 0)) (ak (aN (ag 34) 0)) (aa (aN (ag 34) 0)) .none HQ IV GN JP zK Jd),Gi⟩) (LJ:W.codeIn K zK "Deed.__init__" = true) (lJ:W.keepIn K (.ref rD)=true)
  (K8:K.lookup n5=some ⟨Hk,Hf,.func (W.fnOf "__init__" "Turn.__init__" (aU (aN (ag 35) 0)) (ak (aN (ag 35) 0)) (aa (aN (ag 35) 0)) .none HN IT GL JN zI Jb),Gg⟩) (LH:W.codeIn K zI "Turn.__init__" = true) (Lg:W.keepIn K (.ref n5)=true)
  (a38:W.nsIn K mainGlobals "half_table" = some (some (.ref f38)))    (l38:K.lookup f38=some ⟨Os,N1,.func (W.fnOf "half_table" "half_table" (aU (ag 38)) (ak (ag 38)) (aa (ag 38)) .none O2 PD NC QJ Js Qh),MM⟩) (c38:W.codeIn K Js "half_table" = true) (k38:W.keepIn K (.ref f38)=true)
  (K7:K.lookup nZ=some ⟨Hj,He,.func (W.fnOf "__init__" "HalfTurn.__init__" (aU (aN (ag 36) 0)) (ak (aN (ag 36) 0)) (aa (aN (ag 36) 0)) .none HM IS GK JM zH Ja),Gf⟩) (LG:W.codeIn K zH "HalfTurn.__init__" = true) (Lf:W.keepIn K (.ref nZ)=true)
  (a14:W.nsIn K mainGlobals "opposite" = some (some (.ref f14)))    (l14:K.lookup f14=some ⟨OE,Oc,.func (W.fnOf "opposite" "opposite" (aU (ag 14)) (ak (ag 14)) (aa (ag 14)) .none Pc PU NM QT JC Qs),MW⟩) (c14:W.codeIn K JC "opposite" = true) (k14:W.keepIn K (.ref f14)=true)
  (K6:K.lookup nY=some ⟨Hi,Hd,.func (W.fnOf "__init__" "Mirror.__init__" (aU (aN (ag 37) 0)) (ak (aN (ag 37) 0)) (aa (aN (ag 37) 0)) .none HL IR GJ JL zG I0),Ge⟩) (LF:W.codeIn K zG "Mirror.__init__" = true) (Le:W.keepIn K (.ref nY)=true)
  (a41:W.nsIn K mainGlobals "deed_by" = some (some (.ref f41)))    (l41:K.lookup f41=some ⟨Oo,NY,.func (W.fnOf "deed_by" "deed_by" (aU (ag 41)) (ak (ag 41)) (aa (ag 41)) .none OZ Pz Nz QG Jp Qe),MI⟩) (c41:W.codeIn K Jp "deed_by" = true) (k41:W.keepIn K (.ref f41)=true)
  (a39:W.nsIn K mainGlobals "deed_read" = some (some (.ref f39)))    (l39:K.lookup f39=some ⟨Oq,N0,.func (W.fnOf "deed_read" "deed_read" (aU (ag 39)) (ak (ag 39)) (aa (ag 39)) .none O1 PC NB QI Jr Qg),MK⟩) (c39:W.codeIn K Jr "deed_read" = true) (k39:W.keepIn K (.ref f39)=true)
  (a46:W.nsIn K mainGlobals "_law_kinds" = some (some (.ref f46)))    (l46:K.lookup f46=some ⟨Oj,NU,.func (W.fnOf "_law_kinds" "_law_kinds" (aU (ag 46)) (ak (ag 46)) (aa (ag 46)) .none OV Pv Nv QC Jl P9),ME⟩) (c46:W.codeIn K Jl "_law_kinds" = true) (k46:W.keepIn K (.ref f46)=true)
  (a44:W.nsIn K mainGlobals "_law_whole" = some (some (.ref f44)))    (l44:K.lookup f44=some ⟨Om,NW,.func (W.fnOf "_law_whole" "_law_whole" (aU (ag 44)) (ak (ag 44)) (aa (ag 44)) .none OX Px Nx QE Jn Qb),MG⟩) (c44:W.codeIn K Jn "_law_whole" = true) (k44:W.keepIn K (.ref f44)=true)
  (a51:W.nsIn K mainGlobals "_law_refused" = some (some (.ref f51)))    (l51:K.lookup f51=some ⟨Oe,NP,.func (W.fnOf "_law_refused" "_law_refused" (aU (ag 51)) (ak (ag 51)) (aa (ag 51)) .none OQ Pp Np Qx Jg P4),Mz⟩) (c51:W.codeIn K Jg "_law_refused" = true) (k51:W.keepIn K (.ref f51)=true)
  (a29:W.nsIn K mainGlobals "row_text" = some (some (.ref f29)))    (l29:K.lookup f29=some ⟨Ov,N5,.func (W.fnOf "row_text" "row_text" (aU (ag 29)) (ak (ag 29)) (aa (ag 29)) .none O5 PJ NF QM Jv Qk),MP⟩) (c29:W.codeIn K Jv "row_text" = true) (k29:W.keepIn K (.ref f29)=true)
  (K9:K.lookup iU=some ⟨Hl,Hg,.func (W.fnOf "told" "Deed.told" (aU (aN (ag 34) 4)) (ak (aN (ag 34) 4)) (aa (aN (ag 34) 4)) .none HP IU GM JO zJ Jc),Gh⟩) (LI:W.codeIn K zJ "Deed.told" = true) (rn:W.keepIn K (.ref iU)=true)
  (a52:W.nsIn K mainGlobals "law" = some (some (.ref f52)))    (l52:K.lookup f52=some ⟨Od,NO,.func (W.fnOf "law" "law" (aU (ag 52)) (ak (ag 52)) (aa (ag 52)) .none HK IQ GI JK Br IZ),Mx⟩) (c52:W.codeIn K Br "law" = true) (k52:W.keepIn K (.ref f52)=true)
  (A7:K.lookup pD=some ⟨KT,KS,.func (W.fnOf "__init__" "NoText.__init__" (aU (aN (ag 8) 0)) (ak (aN (ag 8) 0)) (aa (aN (ag 8) 0)) .none Ld LA KH LL CO LD),Kx⟩) (Qt:W.codeIn K CO "NoText.__init__" = true) (Pd:W.keepIn K (.ref pD)=true)
  {ly:Addr} (ot:W.nsIn K mainGlobals "Divided" = some (some (.ref ly)))
  {ni:Addr} (qG:W.nsIn K mainGlobals "NoLine" = some (some (.ref ni)))
  {nh:Addr} (qF:W.nsIn K mainGlobals "NoName" = some (some (.ref nh)))
  {lw:Addr} (oq:W.nsIn K mainGlobals "NoOrder" = some (some (.ref lw)))
  {lu:Addr} (ol:W.nsIn K mainGlobals "NoPrime" = some (some (.ref lu)))
  {ng:Addr} (qE:W.nsIn K mainGlobals "NoSide" = some (some (.ref ng)))
  {nc:Addr} (qD:W.nsIn K mainGlobals "NoTurn" = some (some (.ref nc)))
  {cg:Addr} (gP:W.nsIn K mainGlobals "Nought" = some (some (.ref cg)))
  {bQ:Addr} (d8:W.nsIn K mainGlobals "SpaceError" = some (some (.ref bQ)))
  {kh:Addr} (mn:W.nsIn K mainGlobals "TooGreat" = some (some (.ref kh)))
  (wo:fc K "Divided" ly=true) (wU:gz K ly=true)
  (yo:fc K "NoLine" ni=true) (zQ:gz K ni=true)
  (yn:fc K "NoName" nh=true) (zP:gz K nh=true)
  (wn:fc K "NoOrder" lw=true) (wT:gz K lw=true)
  (wm:fc K "NoPrime" lu=true) (wS:gz K lu=true)
  (ym:fc K "NoSide" ng=true) (zO:gz K ng=true)
  (yk:fc K "NoText" bK=true) (zN:gz K bK=true)
  (yj:fc K "NoTurn" nc=true) (zM:gz K nc=true)
  (yi:fc K "Nought" cg=true) (zL:gz K cg=true)
  (qX:fc K "SpaceError" bQ=true) (qZ:gz K bQ=true)
  (uA:fc K "TooGreat" kh=true) (uL:gz K kh=true)
  (xs0:W.specialIn K (.builtin "object.__class__") "__get__" = some (some (.builtin "getset_descriptor.__get__"))) (xt0:W.takesIn K (.builtin "object.__class__")=some true)
  (qc:i7 K bK bQ=true) (xS:W.findIn K (.ref bK) "__getattribute__" = some (some (.builtin "BaseException.__getattribute__"))) (xQ:W.findIn K (.ref bK) "__getattr__" = some none) (xO:W.findIn K (.ref bK) "__class__" = some (some (.builtin "object.__class__"))) (xM:W.mroIn K bK (.type "object")=some true) (xK:W.exmOne K (.ref bK) (.ref bQ)=some true) (xI:fC K bK=some (.ref pD))
  (xG:W.keepIn K (.ref bK)=true) (pZ:W.hasDictIn K bK=true) (xF:W.findIn K (.ref bK) "__setattr__" = some (some (.builtin "object.__setattr__"))) (pX:W.findIn K (.ref bK) "at" = some none) (xE:W.isFn K (.ref pD)=true)
  (xT:i7 K cg bQ=true) (xR:W.findIn K (.ref cg) "__getattribute__" = some (some (.builtin "BaseException.__getattribute__"))) (xP:W.findIn K (.ref cg) "__getattr__" = some none) (xN:W.findIn K (.ref cg) "__class__" = some (some (.builtin "object.__class__"))) (xL:W.mroIn K cg (.type "object")=some true) (xJ:W.exmOne K (.ref cg) (.ref bQ)=some true) (xH:fC K cg=none)
  (qV:W.specialIn K (.ref bQ) "__getattribute__" = some (some (.builtin "type.__getattribute__"))) (qU:W.readsIn K bQ (.type "type")=true) (qW:W.findCls K (.ref bQ) (.type "type") "__init__" = some (.val (.builtin "ValueError.__init__")))
  (v1:W.exmOne K (.ref bK) (.ref bK)=some true) (v2:W.exmOne K (.ref cg) (.ref bK)=some false) (v3:W.exmOne K (.ref cg) (.ref cg)=some true)
  {tk1:Tok} (g1:W.nsIn K mainGlobals "FIGURES" = some (some (.str "0123456789" tk1)))
  {tk2:Tok} (g2:W.nsIn K mainGlobals "MOST_FIGURES" = some (some (.int (40) tk2)))
  {Bt:Addr} {OG:Nat} {rT rY rS rX rR rW:Tok} (g13:W.nsIn K mainGlobals "WORDS" = some (some (.ref Bt))) (m13:K.lookup Bt=some ⟨.type "dict", none,.dict #[⟨PyData.keyHash w.params "turn", .str "turn" rT,.int 4 rY⟩,⟨PyData.keyHash w.params "half", .str "half" rS,.int 3 rX⟩,⟨PyData.keyHash w.params "mirror", .str "mirror" rR,.int 3 rW⟩] OG,#[]⟩) (e13:(Bt==sysModules)=false)
  (z0:W.nsIn K mainGlobals "len" = some none)    (z1:W.nsIn K mainGlobals "tuple" = some none)    (z2:W.nsIn K mainGlobals "list" = some none)    (z3:W.nsIn K mainGlobals "abs" = some none)    (z4:W.nsIn K mainGlobals "all" = some none)    (z5:W.nsIn K mainGlobals "sum" = some none)    (z6:W.nsIn K mainGlobals "isinstance" = some none)    (z7:W.nsIn K mainGlobals "set" = some none)    (z8:W.nsIn K mainGlobals "int" = some none)    (z9:W.nsIn K mainGlobals "bool" = some none)    (z10:W.nsIn K mainGlobals "str" = some none)    (z11:W.nsIn K mainGlobals "range" = some none)    (z12:W.nsIn K mainGlobals "zip" = some none)    (z13:W.nsIn K mainGlobals "enumerate" = some none)    (z14:W.nsIn K mainGlobals "any" = some none)    (z15:W.nsIn K mainGlobals "sorted" = some none)    (z16:W.nsIn K mainGlobals "min" = some none)    (z17:W.nsIn K mainGlobals "max" = some none)    (z18:W.nsIn K mainGlobals "reversed" = some none)    (z19:W.nsIn K mainGlobals "ValueError" = some none) :
  ∃fd:FuncData,(∀(s:Shared) (v:Value),BindsTo s fd ⟨[v],[]⟩ [("_law_script", v)])/\∀base:Heap,K.In base->base.Ns mainGlobals mg->aZ l.prog w K mg base cj 13 fa fd ["_law_script"] (jo K rG):=by
 have e:=hfa.symm.trans (W.mg_of X G a52)
 cases e
 have hbl:∀n∈gR,mg n=none:=cN (W.mg_none_of X G z0) (cN (W.mg_none_of X G z1) (cN (W.mg_none_of X G z2) (cN (W.mg_none_of X G z3) (cN (W.mg_none_of X G z4) (cN (W.mg_none_of X G z5) (cN (W.mg_none_of X G z6) (cN (W.mg_none_of X G z7) (cN (W.mg_none_of X G z8) (cN (W.mg_none_of X G z9) (cN (W.mg_none_of X G z10) (cN (W.mg_none_of X G z11) (cN (W.mg_none_of X G z12) (cN (W.mg_none_of X G z13) (cN (W.mg_none_of X G z14) (cN (W.mg_none_of X G z15) (cN (W.mg_none_of X G z16) (cN (W.mg_none_of X G z17) (cN (W.mg_none_of X G z18) (cN (W.mg_none_of X G z19) (am))))))))))))))))))))
 have hmg:∀n C,W.nsIn K mainGlobals n=some (some (.ref C))->mg n=some (.ref C):=fun n C h=>W.mg_of X G h
 have hEx:BP K EX:=EN (aj (Pr:=JV K) (⟨bK,bQ,gQ,d8,⟨qc,xS,xQ,xO,xs0,xt0,xM⟩,xK,fun _ z=>by cases z;exact⟨pX,pZ⟩⟩) (aj (Pr:=JV K) (⟨cg,bQ,gP,d8,⟨xT,xR,xP,xN,xs0,xt0,xL⟩,xJ,fun _ z=>by cases z⟩) (am)))
 have pM:d5 K cu:=⟨DX,EB,DV,DH⟩
 have i9:d5 K bt:=⟨uE,uI,uD,uB⟩
 have lg:d5 K bN:=⟨yG,zj,yD,yx⟩
 have F43:=bD (st:=(ag 43)) l43 c43 k43
 have b43:=F43.binds (ps:=["_law_script", "_law_k"]) (by walk_at "bn")
 have F49:=bD (st:=(ag 49)) l49 c49 k49
 have b49:=F49.binds (ps:=["_law_word"]) (by walk_at "bn")
 have F50:=bD (st:=(ag 50)) l50 c50 k50
 have b50:=F50.binds (ps:=["_law_words"]) (by walk_at "bn")
 have F45:=bD (st:=(ag 45)) l45 c45 k45
 have b45:=F45.binds (ps:=["_law_cell_here", "_law_kind"]) (by walk_at "bn")
 have F47:=bD (st:=(ag 47)) l47 c47 k47
 have b47:=F47.binds (ps:=["_law_cell_here"]) (by walk_at "bn")
 have F48:=bD (st:=(ag 48)) l48 c48 k48
 have b48:=F48.binds (ps:=["_law_words", "_law_cell_here"]) (by walk_at "bn")
 have F31:=bD (st:=(ag 31)) l31 c31 k31
 have b31:=F31.binds (ps:=["text"]) (by walk_at "bn")
 have F30:=bD (st:=(ag 30)) l30 c30 k30
 have b30:=F30.binds (ps:=["word"]) (by walk_at "bn")
 have F40:=bD (st:=(ag 40)) l40 c40 k40
 have JF:=F40.binds (ps:=["words"]) (by walk_at "bn")
 have F17:=bD (st:=(ag 17)) l17 c17 k17
 have b17:=F17.binds (ps:=["one", "other"]) (by walk_at "bn")
 have F16:=bD (st:=(ag 16)) l16 c16 k16
 have b16:=F16.binds (ps:=["numbers"]) (by walk_at "bn")
 have F18:=bD (st:=(ag 18)) l18 c18 k18
 have b18:=F18.binds (ps:=["numbers", "divisor"]) (by walk_at "bn")
 have F19:=bD (st:=(ag 19)) l19 c19 k19
 have b19:=F19.binds (ps:=["numbers"]) (by walk_at "bn")
 have F22:=bD (st:=(ag 22)) l22 c22 k22
 have b22:=F22.binds (ps:=["table"]) (by walk_at "bn")
 have F24:=bD (st:=(ag 24)) l24 c24 k24
 have b24:=F24.binds (ps:=["numbers"]) (by walk_at "bn")
 have Dg:=bD (st:=(aN (ag 34) 0)) La LJ lJ
 have xb:=Dg.binds (ps:=["self", "word", "row", "fractions"]) (by walk_at "bn")
 have xC:=bD (st:=(aN (ag 35) 0)) K8 LH Lg
 have CV:=xC.binds (ps:=["self", "numbers"]) (by walk_at "bn")
 have F38:=bD (st:=(ag 38)) l38 c38 k38
 have b38:=F38.binds (ps:=["axis"]) (by walk_at "bn")
 have xB:=bD (st:=(aN (ag 36) 0)) K7 LG Lf
 have CU:=xB.binds (ps:=["self", "axis"]) (by walk_at "bn")
 have F14:=bD (st:=(ag 14)) l14 c14 k14
 have b14:=F14.binds (ps:=["one"]) (by walk_at "bn")
 have xA:=bD (st:=(aN (ag 37) 0)) K6 LF Le
 have CT:=xA.binds (ps:=["self", "axis"]) (by walk_at "bn")
 have F41:=bD (st:=(ag 41)) l41 c41 k41
 have b41:=F41.binds (ps:=["word", "numbers"]) (by walk_at "bn")
 have F39:=bD (st:=(ag 39)) l39 c39 k39
 have b39:=F39.binds (ps:=["text"]) (by walk_at "bn")
 have F46:=bD (st:=(ag 46)) l46 c46 k46
 have b46:=F46.binds (ps:=["_law_error"]) (by walk_at "bn")
 have F44:=bD (st:=(ag 44)) l44 c44 k44
 have b44:=F44.binds (ps:=["_law_x"]) (by walk_at "bn")
 have F51:=bD (st:=(ag 51)) l51 c51 k51
 have b51:=F51.binds (ps:=["_law_text"]) (by walk_at "bn")
 have F29:=bD (st:=(ag 29)) l29 c29 k29
 have b29:=F29.binds (ps:=["numbers"]) (by walk_at "bn")
 have rL:=bD (st:=(aN (ag 34) 4)) K9 LI rn
 have xa:=rL.binds (ps:=["self"]) (by walk_at "bn")
 have F52:=bD (st:=(ag 52)) l52 c52 k52
 have Kc:=bD (st:=(aN (ag 8) 0)) A7 Qt Pd
 have Qw:=Kc.binds (ps:=["self", "at"]) fun _ _ _ _ _ _ us hl=>by obtain⟨x0,x1,rfl⟩:=A4 hl;rfl
 have hEI:∀base k,2<=k->Dh l.prog w K mg base k EX:=fun base k hk=>Ix (aj (Pr:=JU l.prog w K mg base k) (⟨bK,gQ,(fun z=>by cases z),fun _ z=>by cases z;exact⟨1,pD,_,_,["self", "at"],hk,xI,A7,Ik xE A7,xG,Ap Kc rfl Ky ⟨rfl,rfl⟩ ⟨by decide +kernel,by decide +kernel⟩ rfl (W.mg_of X G d8) qV qU qW qc pZ xF pX rfl (by decide +kernel) rfl (by decide +kernel),Qw⟩⟩) (aj (Pr:=JU l.prog w K mg base k) (⟨cg,gP,fun _=>xH,fun _ z=>by cases z⟩) (am)))
 refine⟨W.fnOf "law" "law" (aU (ag 52)) (ak (ag 52)) (aa (ag 52)) .none HK IQ GI JK Br IZ,fun s v=>.of_eq rfl,fun base _ _=>?_⟩
 have nA0:∀C,W.nsIn K mainGlobals "Turn" = some (some (.ref C))->∀f∈[("word" : Str),("row" : Str),("fractions" : Str)],bn K C f:=by intro C hC;cases (gx.symm.trans hC);exact aj (Pr:=fun f=>bn K cu f) (kO) (aj (Pr:=fun f=>bn K cu f) (ma) (aj (Pr:=fun f=>bn K cu f) (lT) (am)))
 have nA1:∀C,W.nsIn K mainGlobals "HalfTurn" = some (some (.ref C))->∀f∈[("word" : Str),("row" : Str),("fractions" : Str)],bn K C f:=by intro C hC;cases (dG.symm.trans hC);exact aj (Pr:=fun f=>bn K bt f) (iA) (aj (Pr:=fun f=>bn K bt f) (iT) (aj (Pr:=fun f=>bn K bt f) (jv) (am)))
 have nA2:∀C,W.nsIn K mainGlobals "Mirror" = some (some (.ref C))->∀f∈[("word" : Str),("row" : Str),("fractions" : Str)],bn K C f:=by intro C hC;cases (eU.symm.trans hC);exact aj (Pr:=fun f=>bn K bN f) (ju) (aj (Pr:=fun f=>bn K bN f) (km) (aj (Pr:=fun f=>bn K bN f) (kB) (am)))
 have nA3:∀C,W.nsIn K mainGlobals "Turn" = some (some (.ref C))->∀f∈[("word" : Str),("row" : Str)],bn K C f:=by intro C hC;cases (gx.symm.trans hC);exact aj (Pr:=fun f=>bn K cu f) (kO) (aj (Pr:=fun f=>bn K cu f) (ma) (am))
 have nA4:∀C,W.nsIn K mainGlobals "HalfTurn" = some (some (.ref C))->∀f∈[("word" : Str),("row" : Str)],bn K C f:=by intro C hC;cases (dG.symm.trans hC);exact aj (Pr:=fun f=>bn K bt f) (iA) (aj (Pr:=fun f=>bn K bt f) (iT) (am))
 have nA5:∀C,W.nsIn K mainGlobals "Mirror" = some (some (.ref C))->∀f∈[("word" : Str),("row" : Str)],bn K C f:=by intro C hC;cases (eU.symm.trans hC);exact aj (Pr:=fun f=>bn K bN f) (ju) (aj (Pr:=fun f=>bn K bN f) (km) (am))
 have fL0:∀p∈([("Turn", ["word", "row"]),("HalfTurn", ["word", "row"]),("Mirror", ["word", "row"])]:List (Str×List Str)),ux K p:=aj (Pr:=ux K) ((fun f hf C hC=>nA3 C hC f hf)) (aj (Pr:=ux K) ((fun f hf C hC=>nA4 C hC f hf)) (aj (Pr:=ux K) ((fun f hf C hC=>nA5 C hC f hf)) (am)))
 have D43:dg l.prog w K mg base 3 "_law_cell" mZ:=cy F43 M7 (W.mg_of X G a43) b43 (by decide +kernel) (be (am) (am) bu br bq bo aA hbl) uS
 have D49:dg l.prog w K mg base 3 "_law_right" gT:=kZ (vL F49 M1 (be (am) (am) bu br bq bo aA hbl) ut) (W.mg_of X G a49) k49 b49 (by decide +kernel)
 have D50:dg l.prog w K mg base 4 "_law_due" pT:=cy F50 M0 (W.mg_of X G a50) b50 (by decide +kernel) (be (cL D49 (am)) (am) bu br bq bo aA hbl) cX.self
 have D45:dg l.prog w K mg base 3 "_law_number" ka:=cy F45 M5 (W.mg_of X G a45) b45 (by decide +kernel) (be (am) (am) bu br bq bo aA hbl) q9
 have D47:dg l.prog w K mg base 3 "_law_odd" ik:=kZ (vL F47 M3 (be (am) (am) bu br bq bo aA hbl) xp) (W.mg_of X G a47) k47 b47 (by decide +kernel)
 have D48:dg l.prog w K mg base 4 "_law_changed" jf:=cy F48 M2 (W.mg_of X G a48) b48 (by decide +kernel) (be (cL D47 (am)) (am) bu br bq bo aA hbl) cX.self
 have D31:dg l.prog w K mg base 3 "are_figures" fE:=cy F31 M8 (W.mg_of X G a31) b31 (by decide +kernel) (be (am) (aj (Pr:=eu mg K) (Fh (W.mg_of X G g2)) (aj (Pr:=eu mg K) (Fg (W.mg_of X G g1)) (am))) bu br bq bo aA hbl) cX.self
 have D30:dg l.prog w K mg base 4 "whole_read" dX:=cy F30 M9 (W.mg_of X G a30) b30 (by decide +kernel) (be (cL D31 (am)) (am) bu br bq bo aA hbl) cX.self
 have Q40:fS l.prog w K mg base 5 "numbers_read" dU:=.inl ⟨_,_,["words"],pB (Δ:=dA) (Ex:=EX) F40 Gr (be (cL D30 (am)) (am) bu br bq bo aA hbl) (ld (am)) (fk (am)) hmg (hEI _ _ (by decide)) lU,W.mg_of X G a40,k40,JF,by decide +kernel⟩
 have D40:dg l.prog w K mg base 5 "numbers_read" dW:=kZ (vM (Δ:=dA) F40 Gr (be (cL D30 (am)) (am) bu br bq bo aA hbl) (ld (am)) lW) (W.mg_of X G a40) k40 JF (by decide +kernel)
 have D17:dg l.prog w K mg base 3 "shared_by" je:=cy F17 Nd (W.mg_of X G a17) b17 (by decide +kernel) (be (am) (am) bu br bq bo aA hbl) cX.self
 have D16:dg l.prog w K mg base 4 "common_divisor" cf:=cy F16 Nf (W.mg_of X G a16) b16 (by decide +kernel) (be (cL D17 (am)) (am) bu br bq bo aA hbl) kD
 have D18:dg l.prog w K mg base 3 "shortened" fA:=cy F18 Nc (W.mg_of X G a18) b18 (by decide +kernel) (be (am) (am) bu br bq bo aA hbl) cX.self
 have Q19:fS l.prog w K mg base 5 "upright" b4:=.inl ⟨_,_,["numbers"],nW (Ex:=EX) F19 Gy (be (cL D16 (cL D18 (am))) (am) bu br bq bo aA hbl) (fk (am)) hmg (hEI _ _ (by decide)) uk,W.mg_of X G a19,k19,b19,by decide +kernel⟩
 have D19:dg l.prog w K mg base 5 "upright" eZ:=cy F19 Gy (W.mg_of X G a19) b19 (by decide +kernel) (be (cL D16 (cL D18 (am))) (am) bu br bq bo aA hbl) cX.self
 have D22:dg l.prog w K mg base 5 "lowest" m5:=cy F22 Nb (W.mg_of X G a22) b22 (by decide +kernel) (be (cL D16 (cL D18 (am))) (am) bu br bq bo aA hbl) cX.self
 have Q24:fS l.prog w K mg base 6 "table_of" gm:=.inl ⟨_,_,["numbers"],nW (Ex:=EX) F24 Gx (be (cL D19 (cL D22 (am))) (am) bu br bq bo aA hbl) (fk (aj (Pr:=iM l.prog w K mg base 5) (Q19.mono (by decide)) (am))) hmg (hEI _ _ (by decide)) q8,W.mg_of X G a24,k24,b24,by decide +kernel⟩
 have D24:dg l.prog w K mg base 6 "table_of" ic:=cy F24 Gx (W.mg_of X G a24) b24 (by decide +kernel) (be (cL D19 (cL D22 (am))) (am) bu br bq bo aA hbl) cX.self
 have xD:aZ l.prog w K mg base cj 1 rD _ ["self", "word", "row", "fractions"] (B8 K ["word", "row", "fractions"]):=Fr Dg rfl Gw (aj (Pr:=fun x=>fy (aa (aN (ag 34) 0)) x) (Or.inl rfl) (aj (Pr:=fun x=>fy (aa (aN (ag 34) 0)) x) (Or.inl rfl) (aj (Pr:=fun x=>fy (aa (aN (ag 34) 0)) x) (Or.inl rfl) (aj (Pr:=fun x=>fy (aa (aN (ag 34) 0)) x) (Or.inl rfl) (am))))) (aj (Pr:=fun x=>dP x=true) (rfl) (aj (Pr:=fun x=>dP x=true) (rfl) (aj (Pr:=fun x=>dP x=true) (rfl) (aj (Pr:=fun x=>dP x=true) (rfl) (am))))) rfl (by decide) (by decide) (by decide)
 have LT:aZ l.prog w K mg base cj 7 n5 _ ["self", "numbers"] (qi K "Turn" dy):=vF (n := "Turn") (b := "Deed") xC yw (be (cL D19 (cL D24 (am))) (am) bu br bq bo aA hbl) (xD.mono (by decide)) xb lJ rfl (W.mg_of X G jE) jB jq jC rfl rfl rfl (by decide +kernel) rfl (by decide) nA0
 have Dl:oQ l.prog w K mg base 8 "Turn" dy:=sQ nO ⟨vq,tz,tE,t5⟩ LT (W.mg_of X G gx) gx pM CV (by decide +kernel)
 have LQ:fS l.prog w K mg base 8 "Turn" eG:=.inr ⟨7,cu,_,_,["self", "numbers"],by decide,⟨vq,tz,tE,t5⟩,tj (b := "Deed") xC yw (be (cL D19 (cL D24 (am))) (am) bu br bq bo aA hbl) (fk (aj (Pr:=iM l.prog w K mg base 6) (Q19.mono (by decide)) (aj (Pr:=iM l.prog w K mg base 6) (Q24.mono (by decide)) (am)))) lJ rfl (W.mg_of X G jE) jB jq jC rfl (by decide +kernel) rfl (by decide) (yM rfl) rfl (o5 ln),W.mg_of X G gx,gx,pM,CV,by decide +kernel⟩
 have Q38:fS l.prog w K mg base 7 "half_table" cI:=.inl ⟨_,_,["axis"],nW (Ex:=EX) F38 Gv (be (cL D24 (am)) (am) bu br bq bo aA hbl) (fk (aj (Pr:=iM l.prog w K mg base 6) (Q24.mono (by decide)) (am))) hmg (hEI _ _ (by decide)) oH,W.mg_of X G a38,k38,b38,by decide +kernel⟩
 have D38:dg l.prog w K mg base 7 "half_table" gp:=cy F38 Gv (W.mg_of X G a38) b38 (by decide +kernel) (be (cL D24 (am)) (am) bu br bq bo aA hbl) cX.self
 have LS:aZ l.prog w K mg base cj 8 nZ _ ["self", "axis"] (qi K "HalfTurn" cC):=vF (n := "HalfTurn") (b := "Deed") xB yv (be (cL D19 (cL D38 (am))) (am) bu br bq bo aA hbl) (xD.mono (by decide)) xb lJ rfl (W.mg_of X G jE) jB jq jC rfl rfl rfl (by decide +kernel) rfl (by decide) nA1
 have Dk:oQ l.prog w K mg base 9 "HalfTurn" cC:=sQ nO ⟨md,kU,kX,lh⟩ LS (W.mg_of X G dG) dG i9 CU (by decide +kernel)
 have LP:fS l.prog w K mg base 9 "HalfTurn" df:=.inr ⟨8,bt,_,_,["self", "axis"],by decide,⟨md,kU,kX,lh⟩,tj (b := "Deed") xB yv (be (cL D19 (cL D38 (am))) (am) bu br bq bo aA hbl) (fk (aj (Pr:=iM l.prog w K mg base 7) (Q19.mono (by decide)) (aj (Pr:=iM l.prog w K mg base 7) (Q38.mono (by decide)) (am)))) lJ rfl (W.mg_of X G jE) jB jq jC rfl (by decide +kernel) rfl (by decide) (yM rfl) rfl (o5 jb),W.mg_of X G dG,dG,i9,CU,by decide +kernel⟩
 have D14:dg l.prog w K mg base 3 "opposite" oO:=cy F14 Ng (W.mg_of X G a14) b14 (by decide +kernel) (be (am) (am) bu br bq bo aA hbl) cX.self
 have LR:aZ l.prog w K mg base cj 8 nY _ ["self", "axis"] (qi K "Mirror" cT):=Ba (n := "Mirror") (b := "Deed") xA yt (be (cL D38 (cL D19 (cL D14 (am)))) (am) bu br bq bo aA hbl) (xD.mono (by decide)) xb lJ rfl (W.mg_of X G jE) jB jq jC rfl rfl rfl (by decide +kernel) rfl (by decide) rfl rfl (by decide) (by decide) rfl nA2
 have Dj:oQ l.prog w K mg base 9 "Mirror" cT:=sQ uH ⟨qr,nP,nQ,oy⟩ LR (W.mg_of X G eU) eU lg CT (by decide +kernel)
 have LO:fS l.prog w K mg base 9 "Mirror" dM:=.inr ⟨8,bN,_,_,["self", "axis"],by decide,⟨qr,nP,nQ,oy⟩,nW (Ex:=EX) xA yt (be (cL D38 (cL D19 (cL D14 (am)))) (am) bu br bq bo aA hbl) (fk (aj (Pr:=iM l.prog w K mg base 7) (Q38.mono (by decide)) (aj (Pr:=iM l.prog w K mg base 7) (Q19.mono (by decide)) (am)))) hmg (hEI _ _ (by decide)) (o5 j8),W.mg_of X G eU,eU,lg,CT,by decide +kernel⟩
 have Q41:fS l.prog w K mg base 10 "deed_by" fP:=.inl ⟨_,_,["word", "numbers"],pB (Δ:=oS) (Ex:=EX) F41 Gq (be (cR Dl (cR Dk (cR Dj (am)))) (am) bu br bq bo aA hbl) (ld (am)) (fk (aj (Pr:=iM l.prog w K mg base 9) (LQ.mono (by decide)) (aj (Pr:=iM l.prog w K mg base 9) (LP.mono (by decide)) (aj (Pr:=iM l.prog w K mg base 9) (LO.mono (by decide)) (am))))) hmg (hEI _ _ (by decide)) ul,W.mg_of X G a41,k41,b41,by decide +kernel⟩
 have D41:dg l.prog w K mg base 10 "deed_by" dZ:=cy F41 Gq (W.mg_of X G a41) b41 (by decide +kernel) (be (cR Dl (cR Dk (cR Dj (am)))) (am) bu br bq bo aA hbl) cX.self
 have Q39:fS l.prog w K mg base 11 "deed_read" cY:=.inl ⟨_,_,["text"],pB (Δ:=fb) (Ex:=EX) F39 Gs (be (cL D40 (cL D41 (am))) (am) bu br bq bo aA hbl) (ld (aj (Pr:=fun q:Str×List (Str×Int)=>iN l.prog w K mg q.1 q.2) (CK (kvs:=[("turn", 4),("half", 3),("mirror", 3)]) (ts:=[(rT,rY),(rS,rX),(rR,rW)]) (W.mg_of X G g13) e13 (by decide +kernel) rfl m13) (am))) (fk (aj (Pr:=iM l.prog w K mg base 10) (Q40.mono (by decide)) (aj (Pr:=iM l.prog w K mg base 10) (Q41.mono (by decide)) (am)))) hmg (hEI _ _ (by decide)) pQ,W.mg_of X G a39,k39,b39,by decide +kernel⟩
 have D39:dg l.prog w K mg base 11 "deed_read" cF:=kZ (vM (Δ:=fb) F39 Gs (be (cL D40 (cL D41 (am))) (am) bu br bq bo aA hbl) (ld (aj (Pr:=fun q:Str×List (Str×Int)=>iN l.prog w K mg q.1 q.2) (CK (kvs:=[("turn", 4),("half", 3),("mirror", 3)]) (ts:=[(rT,rY),(rS,rX),(rR,rW)]) (W.mg_of X G g13) e13 (by decide +kernel) rfl m13) (am))) pS) (W.mg_of X G a39) k39 b39 (by decide +kernel)
 have D46:dg l.prog w K mg base 3 "_law_kinds" qR:=cy F46 M4 (W.mg_of X G a46) b46 (by decide +kernel) (be (am) (aj (Pr:=eu mg K) (eT (W.mg_of X G qE) qE (eJ ym zO)) (aj (Pr:=eu mg K) (eT (W.mg_of X G gP) gP (eJ yi zL)) (aj (Pr:=eu mg K) (eT (W.mg_of X G mn) mn (eJ uA uL)) (aj (Pr:=eu mg K) (eT (W.mg_of X G ol) ol (eJ wm wS)) (aj (Pr:=eu mg K) (eT (W.mg_of X G qG) qG (eJ yo zQ)) (aj (Pr:=eu mg K) (eT (W.mg_of X G gQ) gQ (eJ yk zN)) (aj (Pr:=eu mg K) (eT (W.mg_of X G oq) oq (eJ wn wT)) (aj (Pr:=eu mg K) (eT (W.mg_of X G ot) ot (eJ wo wU)) (aj (Pr:=eu mg K) (eT (W.mg_of X G qD) qD (eJ yj zM)) (aj (Pr:=eu mg K) (eT (W.mg_of X G qF) qF (eJ yn zP)) (aj (Pr:=eu mg K) (eT (W.mg_of X G d8) d8 (eJ qX qZ)) (am)))))))))))) bu br bq bo aA hbl) cX.self
 have D44:dg l.prog w K mg base 3 "_law_whole" qQ:=cy F44 M6 (W.mg_of X G a44) b44 (by decide +kernel) (be (am) (am) bu br bq bo aA hbl) cX.self
 have D51:dg l.prog w K mg base 12 "_law_refused" fz:=kZ (EK (pre:=(ak (ag 51)).take 2) (tb:=FS ((ak (ag 51)).getD 2 (.Pass ⟨0,0,0,0⟩))) (post:=(ak (ag 51)).drop 3) (Ψ:=mr) (Ex:=EX) F51 MZ (be (cL D39 (cL D46 (cL D44 (am)))) (am) bu br bq bo aA hbl) (fk (aj (Pr:=iM l.prog w K mg base 11) (Q39.mono (by decide)) (am))) hmg hEx rfl rfl rfl (by decide +kernel) (by decide +kernel) rfl rfl rfl (by decide +kernel) (by decide +kernel) (by decide +kernel) (by decide +kernel) (by decide +kernel) rfl gQ gP v1 v2 v3 pR) (W.mg_of X G a51) k51 b51 (by decide +kernel)
 have D29:dg l.prog w K mg base 3 "row_text" ke:=cy F29 Na (W.mg_of X G a29) b29 (by decide +kernel) (be (am) (am) bu br bq bo aA hbl) cX.self
 have oR:eI l.prog w K mg base 4 "HalfTurn" "told" c4:=mL rL sv dG i9 ⟨mJ,mK,rn⟩ xa (lL (cL D29 (am)) (am) bu br bq bo aA (fL0) (am) hbl) cX.self
 have rc:eI l.prog w K mg base 4 "Mirror" "told" c4:=mL rL sv eU lg ⟨pi,pp,rn⟩ xa (lL (cL D29 (am)) (am) bu br bq bo aA (fL0) (am) hbl) cX.self
 have uT:eI l.prog w K mg base 4 "Turn" "told" c4:=mL rL sv gx pM ⟨sL,sR,rn⟩ xa (lL (cL D29 (am)) (am) bu br bq bo aA (fL0) (am) hbl) cX.self
 exact pA F52 MY (lL (cL D43 (cL D50 (cL D45 (cL D48 (cL D51 (cL D39 (am))))))) (am) bu br bq bo aA (am) (cO (cM uT (by decide) (am)) (cO (cM oR (by decide) (am)) (cO (cM rc (by decide) (am)) (am)))) hbl) cX.self
theorem walkX{r:W.RowW}{d:DefRec}{kwd:List (Str×Expr)}{run:Value->List Value->Sem Value}{K:Params->W.Frag}{as:List Addr}{t:Nat}
  (e:∀P,as=(K P).map (·.1)) (h:W.WalkO q loose XP (W.InK K) r d kwd run):W.WalkX q loose XP (W.X.obsZ as) (W.X.valZ K n t) r d kwd run :=
 fun w _ _ mg mb G y a o pm cd doc dV kV h1 h2 h3 h4 h5 h6 args vals as' L =>
  h w _ _ mg mb G (W.InK.keeps w _ _ (W.X.z_facts e y).2.1 L.keeps) a o pm cd doc dV kV h1 h2 h3 h4 h5 h6 args vals as'
theorem walk{l:W.OpenLaw}{YP:World->Heap->Prop}{d:DefRec}{K:Params->W.Frag}(hn:l.most=some 63)(hdf:d.params.defaults=[])
  (hY:∀(w:World) (h:Heap),YP w h->(K w.params).In h)
  (F:∀(w:World) (mg:Str->Option Value) (fa:Addr) (h:Heap),(K w.params).In h->h.Ns mainGlobals mg->mg d.name=some (.ref fa) ->
   ∃fd:FuncData,(∀(s:Shared) (u:Value),BindsTo s fd ⟨[u],[]⟩ [("_law_script", u)])/\∀base:Heap,(K w.params).In base->base.Ns mainGlobals mg->aZ l.prog w (K w.params) mg base cj 13 fa fd ["_law_script"] (jo (K w.params) rG)) :
  W.WalkO q loose XP YP l.row.toRowW d [] (fun f vs=>PySem.call f vs) :=
 L2.walk_ofB (n:=63) (k:=13) (x := "_law_script") (CX:=fun _=>cj) (sp:=fun w=>jo (K w.params) rG) hn (by decide) hdf ⟨rfl,by decide,by decide⟩ hY F (fun _ _ a ns hl hb hO hS=>Id hO hS (A5 ns hl hb)) fun _ _ _ _ _ z=>z
end K
namespace PySem.W.Fast
theorem tw6548300812603453058:True:=.intro
theorem tw17648637251690257983:True:=.intro
theorem tw12732845914830973778:True:=.intro
theorem tw629537625145931718:True:=.intro
theorem tw17266811738737879894:True:=.intro
theorem tw15038764383621990050:True:=.intro
theorem tw15474527343765590781:True:=.intro
theorem tw16966595740047865371:True:=.intro
theorem tw18068569431615842725:True:=.intro
theorem tw11199235262347163903:True:=.intro
theorem tw10304412999898796810:True:=.intro
theorem tw1035379884051203698:True:=.intro
theorem tw15574745082753617965:True:=.intro
theorem tw8863303308016732076:True:=.intro
theorem tw16265379754594578880:True:=.intro
theorem tw17360159447769852190:True:=.intro
theorem tw579833133823878166:True:=.intro
theorem tw11511203575513066312:True:=.intro
theorem tw6747650669709022642:True:=.intro
theorem tw6253911524772174051:True:=.intro
theorem tw11316707836596563925:True:=.intro
theorem tw2851069781508775047:True:=.intro
theorem tw3884635114023697879:True:=.intro
theorem tw1976052549126661634:True:=.intro
theorem tw12933205670190285177:True:=.intro
theorem tw2841076000666142041:True:=.intro
theorem tw8355750912656624599:True:=.intro
theorem tw9677144305487284815:True:=.intro
theorem tw3247796687515731747:True:=.intro
theorem tw10111406765423316100:True:=.intro
theorem tw14081741802071513679:True:=.intro
theorem tw17994420375724800661:True:=.intro
theorem tw5104692015439153226:True:=.intro
theorem tw3587663785375372054:True:=.intro
theorem tw11381693889379325944:True:=.intro
theorem tw14476453485595585945:True:=.intro
theorem tw11056110440132972000:True:=.intro
theorem tw7317479424110205247:True:=.intro
theorem tw11815949532676651835:True:=.intro
theorem tw8309265889682411677:True:=.intro
theorem tw13403194760028474969:True:=.intro
theorem tw2175315040556983978:True:=.intro
theorem tw12601323803580223980:True:=.intro
theorem tw3784990467299699200:True:=.intro
theorem tw10114655439591496938:True:=.intro
theorem tw14897840248629812677:True:=.intro
theorem tw16426430757558915476:True:=.intro
theorem tw11252022064957013808:True:=.intro
theorem tw7596955975049551607:True:=.intro
theorem tw14032930956584999987:True:=.intro
theorem tw17632575538667106417:True:=.intro
theorem tw8143589656321310531:True:=.intro
theorem tw6883605275039101390:True:=.intro
theorem tw13214344685489193179:True:=.intro
theorem tw13181363768377844257:True:=.intro
theorem tw16839444078077920777:True:=.intro
theorem tw17706871780034886918:True:=.intro
theorem tw4299524358375209963:True:=.intro
theorem tw3418932951154954618:True:=.intro
theorem tw17473129191311224326:True:=.intro
theorem tw14788507239974898771:True:=.intro
theorem tw12134452206502042522:True:=.intro
theorem tw1128676565026552872:True:=.intro
theorem tw7402580041141129278:True:=.intro
theorem tw9978414695515798310:True:=.intro
theorem tw16706233374969911027:True:=.intro
theorem tw556789397983960333:True:=.intro
theorem tw18047642173547055110:True:=.intro
theorem tw8331972669924431498:True:=.intro
theorem tw8595928967181571652:True:=.intro
theorem tw15241651888572274092:True:=.intro
theorem tw3761318890970242506:True:=.intro
theorem tw9145696370517863458:True:=.intro
theorem tw1507420647327640743:True:=.intro
theorem tw17793242027301652578:True:=.intro
theorem tw4196482449880985302:True:=.intro
theorem tw17409866840874350800:True:=.intro
theorem tw13723119422559101304:True:=.intro
theorem tw10834719347682333422:True:=.intro
theorem tw8592089483805419124:True:=.intro
theorem tw2968151941402629146:True:=.intro
theorem tw852092318663814585:True:=.intro
theorem tw17091951208144077802:True:=.intro
theorem tw657480192617417710:True:=.intro
theorem tw16064057333738805253:True:=.intro
theorem tw2648744113418127693:True:=.intro
theorem tw429356432878912356:True:=.intro
theorem tw7332378475836901981:True:=.intro
theorem tw6667780074005492136:True:=.intro
theorem tw8598715514213203680:True:=.intro
theorem tw142754846451117070:True:=.intro
theorem tw14400895385344734375:True:=.intro
theorem tw129790661811151527:True:=.intro
theorem tw10728589119763769214:True:=.intro
theorem tw15364403662822882385:True:=.intro
theorem tw15324517387736960169:True:=.intro
theorem tw2464454776552775901:True:=.intro
theorem tw10302910452523331925:True:=.intro
theorem tw2790652124245092455:True:=.intro
theorem tw12650782590865044822:True:=.intro
theorem tw13729044863695599569:True:=.intro
theorem tw2474801069952471405:True:=.intro
theorem tw2216669170205952870:True:=.intro
theorem tw4877091322156868822:True:=.intro
theorem tw5749539451482857662:True:=.intro
theorem tw270320393149858501:True:=.intro
theorem tw13133546632540411600:True:=.intro
theorem tw79376527733528538:True:=.intro
theorem tw5199611275012679996:True:=.intro
theorem tw6783227562456842500:True:=.intro
theorem tw2330397158473939768:True:=.intro
theorem tw15536566901371450255:True:=.intro
theorem tw7473925065782273457:True:=.intro
theorem tw7601203132644415805:True:=.intro
theorem tw8543669325531622967:True:=.intro
theorem tw17103696726328396696:True:=.intro
theorem tw17162273907819342848:True:=.intro
theorem tw7905608930434139893:True:=.intro
theorem tw71681581714895572:True:=.intro
theorem tw4307116851434620392:True:=.intro
theorem tw4972957366460445304:True:=.intro
theorem tw11645945689108687517:True:=.intro
theorem tw4026814810806292607:True:=.intro
theorem tw10261290272864463669:True:=.intro
theorem tw3064163335968505993:True:=.intro
theorem tw8118651319304216903:True:=.intro
theorem tw14428479182228367405:True:=.intro
theorem tw14426152338618120658:True:=.intro
theorem tw11057912059698002938:True:=.intro
theorem tw6101927259184770783:True:=.intro
theorem tw11361879515384335303:True:=.intro
theorem tw6859967752228386384:True:=.intro
theorem tw15986924261241706516:True:=.intro
theorem tw9179673976028169364:True:=.intro
theorem tw13552997873397818033:True:=.intro
theorem tw9051596594731504952:True:=.intro
theorem tw15209689992191940629:True:=.intro
theorem tw12791157786784140586:True:=.intro
theorem tw173557025563490284:True:=.intro
theorem tw11363735303414530655:True:=.intro
theorem tw2993367767777053183:True:=.intro
theorem tw1607285103539365327:True:=.intro
theorem tw12174638793084783992:True:=.intro
theorem tw8651070849477635085:True:=.intro
theorem tw15485723665602453115:True:=.intro
theorem tw1235553060444470634:True:=.intro
theorem tw5007612780974349178:True:=.intro
theorem tw1203782961191914432:True:=.intro
theorem tw2527083752278745748:True:=.intro
theorem tw8591118578608391686:True:=.intro
theorem tw586222027183940127:True:=.intro
theorem tw12194918873540937469:True:=.intro
theorem tw10438275207039051749:True:=.intro
theorem tw11787928550224843905:True:=.intro
theorem tw12171934823199426885:True:=.intro
theorem tw1422204628575481001:True:=.intro
theorem tw6932504683411625547:True:=.intro
theorem tw1287256076810257144:True:=.intro
theorem tw9135464687424616467:True:=.intro
theorem tw326304945965401669:True:=.intro
theorem tw3263683138182386848:True:=.intro
theorem tw15478467588627577455:True:=.intro
theorem tw12425013041751166584:True:=.intro
theorem tw14002940852603252486:True:=.intro
theorem tw4685005961192791557:True:=.intro
theorem tw281570990309726611:True:=.intro
theorem tw10507910850526229210:True:=.intro
theorem tw7498426675291701213:True:=.intro
theorem tw14574621463822121325:True:=.intro
theorem tw16258366331212917492:True:=.intro
theorem tw825296941993729875:True:=.intro
theorem tw10737722520037710537:True:=.intro
theorem tw16624577895377557520:True:=.intro
theorem tw16510604872649254172:True:=.intro
theorem tw6239576609607721004:True:=.intro
theorem tw5774927852077842631:True:=.intro
theorem tw369081923373038183:True:=.intro
theorem tw5177655592079066488:True:=.intro
theorem tw12240462344939752788:True:=.intro
theorem tw9180503443918583285:True:=.intro
theorem tw3619242980507574663:True:=.intro
theorem tw6225623108309542857:True:=.intro
theorem tw5561030232542280925:True:=.intro
theorem tw14272507499365419240:True:=.intro
theorem tw9501523992647366361:True:=.intro
theorem tw8801621141425155287:True:=.intro
theorem tw4890320995944677476:True:=.intro
theorem tw3974842405268880832:True:=.intro
theorem tw1409140372212079978:True:=.intro
theorem tw10616324356620376612:True:=.intro
theorem tw10897681362619373400:True:=.intro
theorem tw2845216875657778305:True:=.intro
theorem tw2551987045479046926:True:=.intro
theorem tw15462691005103064961:True:=.intro
theorem tw8284761637560906817:True:=.intro
theorem tw13918177712769432074:True:=.intro
theorem tw16508816719494481766:True:=.intro
theorem tw7596700621204682995:True:=.intro
theorem tw13205282101086622265:True:=.intro
theorem tw16858222606497233849:True:=.intro
theorem tw15840838472534138838:True:=.intro
theorem tw12804321682174889579:True:=.intro
theorem tw13492055266121158496:True:=.intro
theorem tw4234932615530146501:True:=.intro
theorem tw1981427544147579804:True:=.intro
theorem tw1941411091953661277:True:=.intro
theorem tw6490854811320148653:True:=.intro
theorem tw12692518661850856553:True:=.intro
theorem tw3473214639414382555:True:=.intro
theorem tw6092072673275885506:True:=.intro
theorem tw15620581347022233269:True:=.intro
theorem tw1449868934646497058:True:=.intro
theorem tw4496871860566965579:True:=.intro
theorem tw12177971619552470854:True:=.intro
theorem tw15309600877403381374:True:=.intro
theorem tw1222155164156052308:True:=.intro
theorem tw9533871063514085805:True:=.intro
theorem tw12952908663332687095:True:=.intro
theorem tw10625139925522380247:True:=.intro
theorem tw2763485217911158317:True:=.intro
theorem tw9729451950786744469:True:=.intro
theorem tw197368751480635941:True:=.intro
theorem tw11164007478390684886:True:=.intro
theorem tw8212917487853219794:True:=.intro
theorem tw8333480917977298178:True:=.intro
theorem tw13745942224105373893:True:=.intro
theorem tw17453879971887943064:True:=.intro
theorem tw2781855254808999085:True:=.intro
theorem tw8521863758675319102:True:=.intro
theorem tw8688396092820414163:True:=.intro
theorem tw12930960833835694705:True:=.intro
theorem tw10525563313548122753:True:=.intro
theorem tw13532184343525652882:True:=.intro
theorem tw12217495840613334650:True:=.intro
theorem tw16364559189168140045:True:=.intro
theorem tw5832784294418384492:True:=.intro
theorem tw5648712488023464045:True:=.intro
theorem tw14789216151209592906:True:=.intro
theorem tw3576084838764987451:True:=.intro
theorem tw4579677049973274642:True:=.intro
theorem tw14312816291694325706:True:=.intro
theorem tw12190114480317031954:True:=.intro
theorem tw14382097024966589316:True:=.intro
theorem tw898071872105928225:True:=.intro
theorem tw14780700268482256995:True:=.intro
theorem tw17708495572676199699:True:=.intro
theorem tw14530982918360359392:True:=.intro
theorem tw11090287959484249497:True:=.intro
theorem tw502993846807839765:True:=.intro
theorem tw3549551111445515146:True:=.intro
theorem tw2268981792368846686:True:=.intro
theorem tw7303382240665951367:True:=.intro
theorem tw17253634902324026959:True:=.intro
theorem tw16044827568787194257:True:=.intro
theorem tw14012915768729841238:True:=.intro
theorem tw2690925421558023619:True:=.intro
theorem tw911050342800952130:True:=.intro
theorem tw10317621617701001017:True:=.intro
theorem tw4271944474378626240:True:=.intro
theorem tw3254320134728145247:True:=.intro
theorem tw15249489574601217377:True:=.intro
theorem tw6895486278230430549:True:=.intro
theorem tw9579019902989426314:True:=.intro
theorem tw15117505535638773402:True:=.intro
theorem tw15867013878773182388:True:=.intro
theorem tw11673939533276290906:True:=.intro
theorem tw7859969609555887528:True:=.intro
theorem tw3101485443755388754:True:=.intro
theorem tw14805485502094292316:True:=.intro
theorem tw4980807262200168003:True:=.intro
theorem tw11889310449019478315:True:=.intro
theorem tw10713861086404596910:True:=.intro
theorem tw5682077162755220704:True:=.intro
theorem tw14690645873789978250:True:=.intro
theorem tw9621653037863621618:True:=.intro
theorem tw17419880487794258889:True:=.intro
theorem tw18349461296960909784:True:=.intro
theorem tw3232464418889837483:True:=.intro
theorem tw11460487702539080896:True:=.intro
theorem tw12691114527328846802:True:=.intro
theorem tw11802715826735625843:True:=.intro
theorem tw4739001825719746603:True:=.intro
theorem tw11848450318763579061:True:=.intro
theorem tw7713262966233015485:True:=.intro
theorem tw16365554524405697118:True:=.intro
theorem tw3321063991712540802:True:=.intro
theorem tw10449998979797634874:True:=.intro
theorem tw2803239448855040015:True:=.intro
theorem tw18368703676720337592:True:=.intro
theorem tw2199907458575806538:True:=.intro
theorem tw2360171401363936552:True:=.intro
theorem tw17279545190045484828:True:=.intro
theorem tw16521186672063195489:True:=.intro
theorem tw7251557042881034328:True:=.intro
theorem tw13404153434690323556:True:=.intro
theorem tw2942624564461058509:True:=.intro
theorem tw16227047752018785696:True:=.intro
theorem tw7946903646303411104:True:=.intro
theorem tw18220811118369110798:True:=.intro
theorem tw15054316981299416121:True:=.intro
theorem tw8042500684093928051:True:=.intro
theorem tw3250763092139118388:True:=.intro
theorem tw7604152479711917164:True:=.intro
theorem tw8919875049187324284:True:=.intro
theorem tw3768567408184828032:True:=.intro
theorem tw2968469743111505681:True:=.intro
theorem tw9187085019118968904:True:=.intro
theorem tw16458898800538531843:True:=.intro
theorem tw10363051153265130520:True:=.intro
theorem tw13087735991811643869:True:=.intro
theorem tw3441523953206860005:True:=.intro
theorem tw8842914471749310025:True:=.intro
theorem tw9214794684031800176:True:=.intro
theorem tw12352822938866307925:True:=.intro
theorem tw299136397806067009:True:=.intro
end PySem.W.Fast
namespace PySem.W.Fast
end PySem.W.Fast
open PySem PySem.W PyProof.Rows
set_option maxRecDepth 100000 in
set_option maxHeartbeats 0 in
theorem PySem.Challenge.cw_spaceturns_k41_texts_of_no_deed_holds : PySem.Challenge.rw_spaceturns_k41_texts_of_no_deed.Holds := by
 w_on;o_law;z_head;(case hw=>w_witness2)
 k_fill
 refine K.walkX (fun _=>rfl) (K.walk (l:=PySem.Challenge.rw_spaceturns_k41_texts_of_no_deed) rfl rfl (fun w h Y=>Y) ?F)
 case F =>
  intro w mg fa h KX G hmg
  refine' K.all_mk KX G hmg ?_ ?_ ?_ ?_ ?_ ?_ ?_ ?_ ?_ ?_ ?_ ?_ ?_ ?_ ?_ ?_ ?_ ?_ ?_ ?_ ?_ ?_ ?_ ?_ ?_ ?_ ?_ ?_ ?_ ?_ ?_ ?_ ?_ ?_ ?_ ?_ ?_ ?_ ?_ ?_ ?_ ?_ ?_ ?_ ?_ ?_ ?_ ?_ ?_ ?_ ?_ ?_ ?_ ?_ ?_ ?_ ?_ ?_ ?_ ?_ ?_ ?_ ?_ ?_ ?_ ?_ ?_ ?_ ?_ ?_ ?_ ?_ ?_ ?_ ?_ ?_ ?_ ?_ ?_ ?_ ?_ ?_ ?_ ?_ ?_ ?_ ?_ ?_ ?_ ?_ ?_ ?_ ?_ ?_ ?_ ?_ ?_ ?_ ?_ ?_ ?_ ?_ ?_ ?_ ?_ ?_ ?_ ?_ ?_ ?_ ?_ ?_ ?_ ?_ ?_ ?_ ?_ ?_ ?_ ?_ ?_ ?_ ?_ ?_ ?_ ?_ ?_ ?_ ?_ ?_ ?_ ?_ ?_ ?_ ?_ ?_ ?_ ?_ ?_ ?_ ?_ ?_ ?_ ?_ ?_ ?_ ?_ ?_ ?_ ?_ ?_ ?_ ?_ ?_ ?_ ?_ ?_ ?_ ?_ ?_ ?_ ?_ ?_ ?_ ?_ ?_ ?_ ?_ ?_ ?_ ?_ ?_ ?_ ?_ ?_ ?_ ?_ ?_ ?_ ?_ ?_ ?_ ?_ ?_ ?_ ?_ ?_ ?_ ?_ ?_ ?_ ?_ ?_ ?_ ?_ ?_ ?_ ?_ ?_ ?_ ?_ ?_ ?_ ?_ ?_ ?_ ?_ ?_ ?_ ?_ ?_ ?_ ?_ ?_ ?_ ?_ ?_ ?_ ?_ ?_ ?_ ?_ ?_ ?_ ?_ ?_ ?_ ?_ ?_ ?_ ?_ ?_ ?_ ?_ ?_ ?_ ?_ ?_ ?_ ?_ ?_ ?_ ?_ ?_ ?_ ?_
  all_goals try first|k_is|kernel_rfl
