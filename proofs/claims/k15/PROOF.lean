import PyProof.Rows.All
import Wide.All
import OpenK.AllK
import Wide.FinOn
import Lean
import PyProof.EqAt
import PyProof.EqKinds
import PyProof.TupleCall
import PySem.Challenge.RW_spaceturns_k15_fours_of_a_size
set_option Elab.async false
set_option linter.all false
set_option maxRecDepth 100000
namespace L2
open PySem PySem.Spec PyProof.Rows
variable{us:List Value}{C a b dx it:Addr}{P:Program}{w:World}{base h:Heap}{o:Obj}{g':Array GenState}{ch fp:List Addr}{qual x:Str}{N ps:List Str}{i j k n:Nat}{M:Model}{A:Around}{E Q:Value->Shared->Prop}{u:Value}{s s':Shared}{c e l tg:Expr}{α:Type}{pins:List (Addr×Obj)}{p pos pos':Pos}{K:W.Frag}{es:List Expr}{op:Operator}{body:List Stmt}{f:Value->Value->Sem Value}{g:Int->Int->Int}{op':CmpOp}{mA mg:Str->Option Value}{pl:Sem Bool}{kw:List (Str×Value)}{fd:FuncData}{outer:List Env}{scope:Scope}
abbrev aV:=Sum Int Str
def i7:aV->Value->Bool
 | .inl k,v=>Value.isInt k v
 | .inr x,v=>Value.isStrOf x v
def F0(w:World):aV->Int
 | .inl k=>hashInt k
 | .inr x=>hashStr w x
theorem bA:∀{k:aV} {v:Value},i7 k v=true->(∃i t,k=Sum.inl i/\v=Value.int i t)\/(∃x t,k=Sum.inr x/\v=Value.str x t)
 | .inl i,v,h=>by
  obtain⟨t,e⟩:=Value.isInt_shape (k:=i) (v:=v) h
  exact .inl ⟨i,t,rfl,e⟩
 | .inr x,v,h=>by
  obtain⟨t,e⟩:=Value.isStrOf_shape (x:=x) (v:=v) h
  exact .inr ⟨x,t,rfl,e⟩
theorem uL(i:Int)(t:Tok):i7 (.inl i) (.int i t)=true:=by simp[i7,Value.isInt]
theorem uK(x:Str)(t:Tok):i7 (.inr x) (.str x t)=true:=by simp[i7,Value.isStrOf]
theorem BI(a b:Int):decide ((Sum.inl a:aV)=Sum.inl b)=(a==b):=by
 by_cases e:a=b
 ·subst e;simp
 ·have h:¬ (Sum.inl a:aV)=Sum.inl b:=fun q=>e (Sum.inl.inj q)
  rw[decide_eq_false h]
  exact(beq_eq_false_iff_ne.mpr e).symm
theorem BF(a b:Str):decide ((Sum.inr a:aV)=Sum.inr b)=decide (a=b):=by
 by_cases e:a=b
 ·subst e;simp
 ·have h:¬ (Sum.inr a:aV)=Sum.inr b:=fun q=>e (Sum.inr.inj q)
  rw[decide_eq_false h,decide_eq_false e]
theorem BH(a:Int)(b:Str):decide ((Sum.inl a:aV)=Sum.inr b)=false:=decide_eq_false (fun q=>nomatch q)
theorem BG(a:Str)(b:Int):decide ((Sum.inr a:aV)=Sum.inl b)=false:=decide_eq_false (fun q=>nomatch q)
def bV(prog:Program)(w:World):PySem.KeyKind prog w aV where
 is:=i7
 hash:=F0 w
 inj:=fun v a b ha hb=>by
  rcases bA ha with⟨i,t,rfl,rfl⟩|⟨x,t,rfl,rfl⟩
  ·rcases bA hb with⟨j,u,rfl,e⟩|⟨y,u,rfl,e⟩
   ·injection e with e1 _;rw[e1]
   ·exact nomatch e
  ·rcases bA hb with⟨j,u,rfl,e⟩|⟨y,u,rfl,e⟩
   ·exact nomatch e
   ·injection e with e1 _;rw[e1]
 byValue:=fun k v h=>by
  rcases bA h with⟨i,t,rfl,rfl⟩|⟨x,t,rfl,rfl⟩<;>rfl
 pyHash:=fun hv h=>by
  rcases bA hv with⟨i,t,rfl,rfl⟩|⟨x,t,rfl,rfl⟩
  ·exact wpAny_pyHash_int h
  ·exact wpAny_pyHash_str h
 eqBool:=fun hu hv h=>by
  rcases bA hu with⟨i,t,rfl,rfl⟩|⟨x,t,rfl,rfl⟩
  ·rcases bA hv with⟨j,u,rfl,rfl⟩|⟨y,u,rfl,rfl⟩
   ·rw[BI]at h;exact wpAny_eqBool_int h
   ·rw[BH]at h;exact SeqAt.EqAt.int_str i t y u _ _ _ _ h
  ·rcases bA hv with⟨j,u,rfl,rfl⟩|⟨y,u,rfl,rfl⟩
   ·rw[BG]at h;exact SeqAt.EqAt.str_int x t j u _ _ _ _ h
   ·rw[BF]at h;exact wpAny_eqBool_str h
 «strs» := fun k x t v h=>by
  rcases bA h with⟨i,u,rfl,e⟩|⟨y,u,rfl,e⟩
  ·exact nomatch e
  ·injection e with e1 _
   subst e1
   cases v<;>rfl
theorem qy(prog:Program)(w:World)(i:Int)(t:Tok):(bV prog w).is (.inl i) (.int i t)=true:=uL i t
theorem qx(prog:Program)(w:World)(x:Str)(t:Tok):(bV prog w).is (.inr x) (.str x t)=true:=uK x t
inductive V where
 | non|bl (b:Bool)|int (i:Int)|str (x:Str)|byt (b:Array UInt8)|flt (b:UInt64)|ref (a:Addr)|ty (n:String)
 deriving DecidableEq
def aJ:V->Value->Prop
 | .non,u=>u=Value.none
 | .bl b,u=>u=Value.bool b
 | .int i,u => ∃t,u=Value.int i t
 | .str x,u => ∃t,u=Value.str x t
 | .byt b,u => ∃t,u=Value.bytes b t
 | .flt b,u => ∃t,u=Value.float b t
 | .ref a,u=>u=Value.ref a
 | .ty n,u=>u=Value.type n
abbrev av:List V->List Value->Prop:=Paired aJ
theorem av.length{xs:List V}(r:av xs us):xs.length=us.length:=Paired.length r
theorem av.get:∀{xs:List V} {us:List Value} {i:Nat} {x:V},av xs us->xs[i]?=some x->∃u,us[i]?=some u/\aJ x u
 | _,_,_,_,.nil,e=>by simp at e
 | _,_,0,_,.cons r _,e=>by simp at e;subst e;exact⟨_,rfl,r⟩
 | _,_,i+1,x,.cons _ t,e=>by
  obtain⟨u,h1,h2⟩:=av.get (i:=i) (x:=x) t (by simpa using e)
  exact⟨u,by simpa using h1,h2⟩
theorem av.set{x:V}{u:Value}(r:aJ x u):∀{xs:List V} {us:List Value} (i:Nat),av xs us->av (xs.set i x) (us.set i u)
 | _,_,_,.nil=>.nil
 | _,_,0,.cons _ t=>.cons r t
 | _,_,i+1,.cons q t=>.cons q (av.set r i t)
theorem av.append:∀{xs ys:List V} {us ws:List Value},av xs us->av ys ws->av (xs++ys) (us++ws)
 | _,_,_,_,.nil,s=>s
 | _,_,_,_,.cons r t,s=>.cons r (av.append t s)
theorem av.take:∀{xs:List V} {us:List Value} (n:Nat),av xs us->av (xs.take n) (us.take n)
 | _,_,0,_=>.nil
 | _,_,_+1,.nil=>.nil
 | _,_,n+1,.cons r t=>.cons r (av.take n t)
theorem av.drop:∀{xs:List V} {us:List Value} (n:Nat),av xs us->av (xs.drop n) (us.drop n)
 | _,_,0,r=>r
 | _,_,_+1,.nil=>.nil
 | _,_,n+1,.cons _ t=>av.drop n t
theorem av.none_of:∀{xs:List V} {us:List Value} {i:Nat},av xs us->xs[i]?=none->us[i]?=none:=fun {xs us i} r e=>by
 have h1:=r.length
 have h2:xs.length<=i:=List.getElem?_eq_none_iff.mp e
 exact List.getElem?_eq_none_iff.mpr (by omega)
def cS:Option V->Option Value->Prop
 | some v,some u=>aJ v u
 | none,none=>True
 | _,_=>False
def KV{κ:Type}:List (κ×V)->List (κ×Value)->Prop:=Paired fun(p:κ×V) (q:κ×Value)=>p.1=q.1/\aJ p.2 q.2
def kV:aV->V
 | .inl i=>.int i
 | .inr x=>.str x
inductive HO where
  | lst (xs:List V)
  | tup (xs:List V)
  | dK (kvs:List (aV×V))|dT (kvs:List (List aV×V))
  | set (S:Int->Bool) (n:Nat)
  | ins (C dx:Addr) (fs:List (Str×V))
  | own (x:Addr)
  | xd (fs:List (Str×V))
  | met (f x:Addr)
  | rng (lo hi:Int)
  | frz (o:Obj) (u:HO)
  | tbl (ps:Array Value)
  | ext (φ:Heap->Prop)
abbrev Hp:=Addr->Option HO
def az(H:Hp)(a:Addr)(o:HO):Hp:=fun b=>if b=a then some o else H b
theorem aD{H:Hp}{o:HO}:az H a o a=some o:=by unfold az;rw[if_pos rfl]
theorem al{H:Hp}{o:HO}(h:b≠a):az H a o b=H b:=by unfold az;rw[if_neg h]
theorem yf{H:Hp}{o u:HO}:az (az H a o) a u=az H a u:=by
 funext b;unfold az;split<;>rfl
theorem dh{H:Hp}{o u:HO}(h:H a=some o)(h':H b=some u)(d:o≠u):a≠b:=by
 intro e;subst e;rw[h]at h';exact d (Option.some.inj h')
theorem aP{H:Hp}{o:HO}(h:H a=some o)(h':H b=none):a≠b:=by
 intro e;subst e;rw[h]at h';cases h'
section
variable(P:Program)(w:World)
def ly(h:Heap)(a:Addr)(items:Array Value):Prop:=IsTup h a items/\∃o,h.get? a=some o/\o.dict=none
theorem ly.new(h:Heap)(items:Array Value):ly (h.push { cls:=.type "tuple", data:=.seq items }) h.objs.size items:=⟨IsTup.new h items,_,Heap.get?_push_size _ rfl,rfl⟩
def aR(H:Hp)(h:Heap)(a:Addr):HO->Prop
  | .lst xs=>xs.length<=sizeLine/\∃(its:List Value) (n:Nat),av xs its/\h.get? a=some { cls:=.type "list", data:=.seq its.toArray n }
  | .tup xs=>xs.length<=sizeLine/\∃its:List Value,av xs its/\ly h a its.toArray
  | .dK kvs=>kvs.length<=sizeLine/\(a==sysModules)=false/\∃vs,KV kvs vs/\h.DictOf (bV P w) a vs
  | .dT kvs=>kvs.length<=sizeLine/\(a==sysModules)=false/\∃xs:List (List aV×Addr×Value),
      Paired (fun(p:List aV×V) (q:List aV×Addr×Value)=>p.1=q.1/\H q.2.1=some (.tup (p.1.map kV))/\aJ p.2 q.2.2) kvs xs /\
      ∃o es ep,h.get? a=some o/\o.ExactDict/\o.data=.dict es ep/\es.toList=xs.map (entryOfKey (tupleKind (bV P w)))/\(xs.map (·.1)).Nodup
  | .set S n=>h.SetOf (intKind P w) a S n
  | .ins C dx fs=>H dx=some (.own a)/\fs.length<=1000/\dx≠a/\h.get? a=some (W.instObj C dx) /\
      ∃mA,h.Ns1 dx mA/\(∀f,cS (fs.lookup f) (mA f))/\PySem.Within mA (fs.map (·.1))
  | .own _ => ∃o,h.get? a=some o
  | .xd fs => ∃mA,h.Ns1 a mA/\∀f,cS (fs.lookup f) (mA f)
  | .rng lo hi => ∃t u v,h.get? a=some { cls:=.type "range", data:=.fields #[.int lo t,.int hi u,.int 1 v] }
  | .frz o u=>h.get? a=some o/\aR H h a u
  | .tbl ps=>h.get? a=some { cls:=.none,data:=.fields ps }
  | .met f x=>h.get? a=some (W.methodObj (.ref f) (.ref x))
  | .ext φ=>φ h/\(∃o,h.get? a=some o)/\∀h1 h2:Heap,φ h1->(∀o,h1.get? a=some o->h2.get? a=some o)->φ h2
def bE(H:Hp)(h:Heap):Prop:=∀a o,H a=some o->aR P w H h a o
end
section
variable{H H':Hp}{h':Heap}{o:HO}
theorem aR.lt(x:aR P w H h a o):a<h.objs.size:=by
 cases o with
 | lst xs=>obtain⟨_,_,_,_,e⟩:=x;exact Heap.lt_size e
 | tup xs=>obtain⟨_,_,_,p⟩:=x;exact p.1.lt
 | dK kvs=>obtain⟨_,_,_,_,o,_,_,e,_⟩:=x;exact Heap.lt_size e
 | dT kvs=>obtain⟨_,_,_,_,o,_,_,e,_⟩:=x;exact Heap.lt_size e
 | set S n=>obtain⟨o,_,_,_,e,_⟩:=x;exact Heap.lt_size e
 | ins C dx fs=>obtain⟨_,_,_,e,_⟩:=x;exact Heap.lt_size e
 | own y=>obtain⟨_,e⟩:=x;exact Heap.lt_size e
 | xd fs=>obtain⟨_,⟨_,_,_,e,_⟩,_⟩:=x;exact Heap.lt_size e
 | rng lo hi=>obtain⟨_,_,_,e⟩:=x;exact Heap.lt_size e
 | frz ob u=>obtain⟨e,_⟩:=x;exact Heap.lt_size e
 | tbl ps=>exact Heap.lt_size (show h.get? a=some _ from x)
 | met f y=>exact Heap.lt_size (show h.get? a=some _ from x)
 | ext φ=>obtain⟨_,⟨_,e⟩,_⟩:=x;exact Heap.lt_size e
theorem Paired.mapP{α β:Type}{F G:α->β->Prop}:∀{l₁:List α} {l₂:List β},Paired F l₁ l₂->(∀a b,F a b->G a b)->Paired G l₁ l₂
 | _,_,.nil,_=>.nil
 | _,_,.cons r t,f=>.cons (f _ _ r) (Paired.mapP t f)
theorem aR.stay(x:aR P w H h a o)(k:∀b u,(b=a\/H b=some (.own a))->h.get? b=some u->h'.get? b=some u)
  (ho:∀b,H b=some (.own a)->H' b=some (.own a)) (ht:∀b xs,H b=some (.tup xs)->H' b=some (.tup xs)):aR P w H' h' a o:=by
 induction o with
 | lst xs=>obtain⟨z,its,n,r,e⟩:=x;exact⟨z,its,n,r,k _ _ (.inl rfl) e⟩
 | tup xs=>obtain⟨z,its,r,⟨ob,e,c⟩,o2,e2,d2⟩:=x;exact⟨z,its,r,⟨ob,k _ _ (.inl rfl) e,c⟩,o2,k _ _ (.inl rfl) e2,d2⟩
 | dK kvs=>obtain⟨z,y,vs,r,ob,es,ep,e,c⟩:=x;exact⟨z,y,vs,r,ob,es,ep,k _ _ (.inl rfl) e,c⟩
 | dT kvs =>
  obtain⟨z,y,xs,r,ob,es,ep,e,c⟩:=x
  exact⟨z,y,xs,Paired.mapP r fun p q z=>⟨z.1,ht _ _ z.2.1,z.2.2⟩,ob,es,ep,k _ _ (.inl rfl) e,c⟩
 | set S n=>obtain⟨ob,es,ep,t,e,c⟩:=x;exact⟨ob,es,ep,t,k _ _ (.inl rfl) e,c⟩
 | ins C dx fs =>
  obtain⟨d,z,ne,e,mA,⟨od,es,ep,e2,c⟩,r⟩:=x
  exact⟨ho _ d,z,ne,k _ _ (.inl rfl) e,mA,⟨od,es,ep,k _ _ (.inr d) e2,c⟩,r⟩
 | own y=>obtain⟨ob,e⟩:=x;exact⟨ob,k _ _ (.inl rfl) e⟩
 | xd fs=>obtain⟨mA,⟨od,es,ep,e,c⟩,r⟩:=x;exact⟨mA,⟨od,es,ep,k _ _ (.inl rfl) e,c⟩,r⟩
 | rng lo hi=>obtain⟨t,u,v,e⟩:=x;exact⟨t,u,v,k _ _ (.inl rfl) e⟩
 | frz ob u ih=>obtain⟨e,q⟩:=x;exact⟨k _ _ (.inl rfl) e,ih q⟩
 | tbl ps =>
  have e:h.get? a=some { cls:=.none,data:=.fields ps }:=x
  show h'.get? a=some { cls:=.none,data:=.fields ps }
  exact k a _ (.inl rfl) e
 | met f y =>
  have e:h.get? a=some (W.methodObj (.ref f) (.ref y)):=x
  show h'.get? a=some (W.methodObj (.ref f) (.ref y))
  exact k a _ (.inl rfl) e
 | ext φ=>obtain⟨p,⟨o,e⟩,st⟩:=x;exact⟨st _ _ p fun o q=>k _ _ (.inl rfl) q,⟨o,k _ _ (.inl rfl) e⟩,st⟩
theorem bE.lt(x:bE P w H h)(e:H a=some o):a<h.objs.size:=(x a o e).lt
theorem bE.fresh(x:bE P w H h)(e:h.objs.size<=a):H a=none:=by
 cases q:H a with
 | none=>rfl
 | some u=>exact absurd (Nat.lt_of_lt_of_le (x.lt q) e) (Nat.lt_irrefl _)
theorem bE.kept(x:bE P w H h)(k:∀b u,h.get? b=some u->h'.get? b=some u):bE P w H h':=fun a o e =>
 (x a o e).stay (fun b u _ q=>k b u q) (fun _ q=>q) fun _ _ q=>q
theorem bE.laid(x:bE P w H h)(k:∀b u,h.get? b=some u->h'.get? b=some u)(hp:h.objs.size<=a)(new:aR P w (az H a o) h' a o):bE P w (az H a o) h':=fun b u e=>by
 have hn:=x.fresh hp
 by_cases hb:b=a
 ·subst hb;rw[aD]at e;cases e;exact new
 ·rw[al hb]at e
  exact(x b u e).stay (fun c v _ q=>k c v q) (fun c q=>by rw[al (aP q hn)];exact q) fun c xs q=>by rw[al (aP q hn)];exact q
end
def Rd(H:Hp)(a:Addr)(u:HO):Prop:=H a=some u\/∃o,H a=some (.frz o u)
theorem Rd.ok{H:Hp}{u:HO}(r:Rd H a u)(x:bE P w H h):aR P w H h a u:=by
 rcases r with r|⟨o,r⟩
 ·exact x a u r
 ·obtain⟨_,q⟩:=x a _ r
  exact q
def x6:Option HO->Prop
 | some (.lst _)=>True
 | some (.dK _)=>True
 | some (.dT _)=>True
 | some (.set _ _)=>True
 | some (.ins _ _ _)=>True
 | some (.ext _)=>True
 | _=>False
section
variable{H:Hp}{h':Heap}{x e:Addr}{o':HO}
theorem bE.write(ok:bE P w H h)(mu:x6 (H x))(he:e=x\/H e=some (.own x))(k:∀b u,b≠e->h.get? b=some u->h'.get? b=some u)(heo:∃u,h'.get? e=some u)
  (new:aR P w (az H x o') h' x o'):bE P w (az H x o') h':=fun b u q=>by
 have nown:∀c y,H c=some (.own y)->c≠x:=fun c y r z=>by subst z;rw[r]at mu;exact mu
 have ntup:∀c xs,H c=some (.tup xs)->c≠x:=fun c xs r z=>by subst z;rw[r]at mu;exact mu
 by_cases hb:b=x
 ·subst hb;rw[aD]at q;cases q;exact new
 ·rw[al hb]at q
  by_cases hbe:b=e
  ·have q':H b=some (.own x):=by
    rcases he with z|z
    ·exact absurd (hbe.trans z) hb
    ·rw[hbe];exact z
   rw[q]at q';cases q'
   obtain⟨v,hv⟩:=heo
   exact⟨v,by rw[hbe];exact hv⟩
  ·refine(ok b u q).stay (fun c v hc r=>k c v ?_ r) (fun c r=>by rw[al (nown c b r)];exact r) fun c xs r=>by rw[al (ntup c xs r)];exact r
   rcases hc with rfl|hc
   ·exact hbe
   ·rintro rfl
    rcases he with z|z
    ·exact nown c b hc z
    ·rw[hc]at z;cases z;exact hb rfl
end
structure Un(fs ex:List Addr)(H H':Hp)(h h':Heap):Prop where
 keep:∀b o,h.get? b=some o->H b=none->b∉fs->b∉ex->h'.get? b=some o
 slot:∀b o,h.get? b=some o->H b=none->b∈fs->b∉ex->∃sl,h'.get? b=some { o with slots:=sl }
 free:∀b o,h.get? b=some o->H b=none->b∉ex->H' b=none
 there:∀b o,h.get? b=some o->b∉ex->∃o',h'.get? b=some o'
 tups:∀b xs,H b=some (.tup xs)->H' b=some (.tup xs)
 frzs:∀b o u,H b=some (.frz o u)->H' b=some (.frz o u)
 tbls:∀b ps,H b=some (.tbl ps)->∃more,H' b=some (.tbl (ps++more))
section
variable{fs fs' ex ex':List Addr}{H H1 H2:Hp}{h1 h2 h':Heap}{x e:Addr}{o:HO}
theorem Un.any(u:Un fs ex H H1 h h1){ob:Obj}(q:h.get? b=some ob)(n:H b=none)(hx:b∉ex):∃sl,h1.get? b=some { ob with slots:=sl }:=by
 by_cases hb:b∈fs
 ·exact u.slot b ob q n hb hx
 ·exact⟨ob.slots,u.keep b ob q n hb hx⟩
theorem Un.kept(k:∀b u,h.get? b=some u->h'.get? b=some u):Un fs ex H H h h' :=
 ⟨fun b ob q _ _ _=>k b ob q,fun b ob q _ _ _=>⟨ob.slots,k b ob q⟩,fun _ _ _ n _=>n,fun b ob q _=>⟨ob,k b ob q⟩,fun _ _ q=>q,fun _ _ _ q=>q,fun _ ps q=>⟨#[],by rw[q];simp⟩⟩
theorem Un.refl:Un fs ex H H h h:=Un.kept fun _ _ q=>q
theorem Un.laid(k:∀b u,h.get? b=some u->h'.get? b=some u)(hp:h.objs.size<=a)(hn:H a=none):Un fs ex H (az H a o) h h' where
 keep:=fun b u q _ _ _=>k b u q
 slot:=fun b u q _ _ _=>⟨u.slots,k b u q⟩
 free:=fun b u q n _=>by rw[al (Nat.ne_of_lt (Nat.lt_of_lt_of_le (Heap.lt_size q) hp))];exact n
 there:=fun b u q _=>⟨u,k b u q⟩
 tups:=fun b xs q=>by rw[al (aP q hn)];exact q
 frzs:=fun b u xs q=>by rw[al (aP q hn)];exact q
 tbls:=fun b ps q=>⟨#[],by rw[al (aP q hn),q];simp⟩
theorem Un.write(mu:x6 (H x))(he:e=x\/H e=some (.own x))(k:∀b u,b≠e->h.get? b=some u->h'.get? b=some u)(heo:∃u,h'.get? e=some u):Un fs ex H (az H x o) h h':=by
 have hx:∀b,H b=none->b≠x:=fun b n z=>by subst z;rw[n]at mu;exact mu
 have hb:∀b,H b=none->b≠e:=fun b n z=>by
  subst z
  rcases he with r|r
  ·exact hx b n r
  ·rw[n]at r;cases r
 have hm:∀b u,H b=some u -> ¬ x6 (some u)->b≠x:=fun b u q nm z=>by subst z;rw[q]at mu;exact nm mu
 refine⟨fun b u q n _ _=>k b u (hb b n) q,fun b u q n _ _=>⟨u.slots,k b u (hb b n) q⟩,fun b u q n _=>by rw[al (hx b n)];exact n,fun b u q _=>?_,
  fun b xs q=>by rw[al (hm b _ q fun z=>z)];exact q,fun b u xs q=>by rw[al (hm b _ q fun z=>z)];exact q,fun b ps q=>⟨#[],by rw[al (hm b _ q fun z=>z),q];simp⟩⟩
 by_cases hbe:b=e
 ·subst hbe;exact heo
 ·exact⟨u,k b u hbe q⟩
end
def wW(h:Heap)(H:Hp):List Addr:=(List.range h.objs.size).filter fun a=>(H a).isSome
def gM(h:Heap)(H:Hp):Heap:=W.hideAll h (wW h H)
theorem uW(h:Heap)(H:Hp):(gM h H).objs.size=h.objs.size:=W.hideAll_size _ _
theorem ww{H:Hp}(e:h.get? b=some o)(n:H b=none):(gM h H).get? b=some o :=
 W.hideAll_get _ e fun hm=>by
  have q:(H b).isSome=true:=(List.mem_filter.mp hm).2
  rw[n]at q;simp at q
theorem zb{H:Hp}(e:(gM h H).get? b=some o):h.get? b=some o/\H b=none:=by
 have e':h.get? b=some o:=W.of_hideAll (wW h H) e
 refine⟨e',?_⟩
 cases q:H b with
 | none=>rfl
 | some x =>
  have hm:b∈wW h H:=List.mem_filter.mpr ⟨List.mem_range.mpr (Heap.lt_size e'),by simp[q]⟩
  have z:(gM h H).get? b=none:=W.hideAll_none (wW h H) hm
  rw[z]at e;cases e
def Ad(g h:Heap)(L:Addr):List (Addr×Obj):=(List.range h.objs.size).filterMap fun a=>if a=L\/(g.get? a).isSome=true then none else(h.get? a).map fun o=>(a,o)
def aX(g h:Heap)(L d:Addr):List (Addr×Obj):=(Ad g h L).filter fun p=>decide (p.1≠d)
variable{v y:V}{H:Hp}{R:V->V->Hp->Prop}{vs:List V}
structure Mod(K:W.Frag)(mg:Str->Option Value)(base:Heap):Prop where
 kin:K.In base
 glob:base.Ns mainGlobals mg
 blt:∃mb,base.Ns builtinsNs mb/\∀x:Str,x ≠ "__name__" -> mb x=bootBuiltins x
 nolimit:base.NoLimit
structure Cx where
 prog:Program
 w:World
 K:W.Frag
 mg:Str->Option Value
 base:Heap
 A:Around
 N:List Str
 s₀:Shared
 H₀:Hp
 env:Env
 outer:List Env
 stack:List Env
 ex:List Addr
 fn:Str->Bool
 calm:Bool
 pn:List (Addr×Obj)
 xe:Value->Shared->Prop
def bB(l:List Env):List Addr:=l.filterMap (·.frame)
abbrev Cx.fs(X:Cx):List Addr:=bB X.outer
def fL(sc:Scope)(x:Str):Prop:=sc.names.lookup x=some .local\/sc.names.lookup x=some .cell\/sc.names.lookup x=some .free
def qe(sc:Scope)(x:Str):Prop:=sc.names.lookup x=some .local\/sc.names.lookup x=some .cell
def GE(env:Env)(h:Heap)(m:Str->Option Value)(x:Str)(u:Value):Prop :=
 (env.kindOf x=some .local/\m x=some u)\/((env.kindOf x=some .cell\/env.kindOf x=some .free)/\∃c,env.cells.lookup x=some c/\h.IsCell c (some u))
structure Cx.Ok(X:Cx):Prop where
 mod:Mod X.K X.mg X.base
 kind:X.env.scope.kind=.function
 glob:X.env.globals=mainGlobals
 blt:X.env.builtins=builtinsNs
 above:X.s₀.heap.objs.size<=X.env.locals
 inj:∀x y c,X.env.cells.lookup x=some c->X.env.cells.lookup y=some c->x=y
 has:∀x,(X.env.kindOf x=some .cell\/X.env.kindOf x=some .free)->∃c,X.env.cells.lookup x=some c
 cab:∀x c,X.fn x=true->X.env.cells.lookup x=some c->X.s₀.heap.objs.size<=c
 hd:X.calm=true->X.A.handled=none
 frames:X.A.frames=some X.stack
 stk:X.stack=X.outer\/(X.stack=X.env::X.outer/\X.env.frame=some X.env.locals)
 exf:∀b∈X.ex,b≠X.env.locals/\∀x c,X.env.cells.lookup x=some c->c≠b
 bs:∀b o,X.base.get? b=some o->X.s₀.heap.get? b=some o/\X.H₀ b=none
 bsz:X.base.objs.size<=X.s₀.heap.objs.size
 noex:∀b o,X.base.get? b=some o->b∉X.ex
 exfs:∀b∈X.ex,b∉X.fs
 funs:X.s₀.heap.FunFrames X.base X.outer
 frf:∀b∈X.fs,X.H₀ b=none
structure ai(X:Cx)(pins:List (Addr×Obj))(σ:List (Option V))(H:Hp)(s:Shared):Prop where
 ok:X.Ok
 os:s.os=X.s₀.os
 bare:AllBare s.gens
 base:Un X.fs X.ex X.H₀ H X.s₀.heap s.heap
 loc:∃m,s.heap.Ns X.env.locals m/\∀(i:Nat) (x:Str) (v:V),X.N[i]?=some x->σ[i]?=some (some v)->fL X.env.scope x->∃u,aJ v u/\GE X.env s.heap m x u
 cell:∀x c,X.env.cells.lookup x=some c->∃v,s.heap.IsCell c v
 free:H X.env.locals=none
 freeC:∀x c,X.env.cells.lookup x=some c->H c=none
 pin:∀p∈X.pn++pins,s.heap.get? p.1=some p.2/\H p.1=none/\p.1≠X.env.locals/\p.1∉X.fs/\∀v,p.2.data ≠ .cell v
 hok:bE X.prog X.w H s.heap
 len:σ.length=X.N.length
section
variable{X:Cx}{σ:List (Option V)}{H':Hp}{h':Heap}
theorem Cx.Ok.nofr(ok:X.Ok)(e:X.base.get? b=some o):b∉X.fs:=fun hb=>by
 have:=(ok.funs.mem hb).1
 rw[e]at this;cases this
theorem ai.bs(I:ai X pins σ H s):∀b o,X.base.get? b=some o->s.heap.get? b=some o/\H b=none:=fun b o e =>
 ⟨I.base.keep b o (I.ok.bs b o e).1 (I.ok.bs b o e).2 (I.ok.nofr e) (I.ok.noex b o e),I.base.free b o (I.ok.bs b o e).1 (I.ok.bs b o e).2 (I.ok.noex b o e)⟩
theorem ai.bk(I:ai X pins σ H s):∀b o,X.base.get? b=some o->s.heap.get? b=some o:=fun b o e=>(I.bs b o e).1
theorem ai.mod(I:ai X pins σ H s):Mod X.K X.mg X.base:=I.ok.mod
theorem ai.kIn(I:ai X pins σ H s):X.K.In s.heap:=I.ok.mod.kin.keeps I.bk
theorem ai.nolimit(I:ai X pins σ H s):s.heap.NoLimit:=I.ok.mod.nolimit.keeps I.bk
theorem ai.fr(I:ai X pins σ H s):∃m,Fr X.base X.env.locals s.heap m :=
 let ⟨m,hn,_⟩:=I.loc
 ⟨m,hn,I.bk,Nat.le_trans I.ok.bsz I.ok.above⟩
theorem ai.lt(I:ai X pins σ H s):X.env.locals<s.heap.objs.size:=let ⟨_,hn,_⟩:=I.loc;hn.lt
theorem ai.sz(I:ai X pins σ H s):X.s₀.heap.objs.size<=s.heap.objs.size:=Nat.le_trans I.ok.above (Nat.le_of_lt I.lt)
theorem ai.nofs(I:ai X pins σ H s)(h:s.heap.objs.size<=a):a∉X.fs:=fun hb=>by
 obtain⟨_,o,ho,_⟩:=I.ok.funs.mem hb
 exact absurd (Nat.lt_of_lt_of_le (Heap.lt_size ho) (Nat.le_trans I.sz h)) (Nat.lt_irrefl _)
theorem ai.cne(I:ai X pins σ H s):∀x c,X.env.cells.lookup x=some c->c≠X.env.locals:=fun x c e z=>by
 obtain⟨v,o,ho,hd⟩:=I.cell x c e
 obtain⟨m,⟨o',es,ep,ho',hd',_⟩,_⟩:=I.loc
 rw[z,ho']at ho;cases ho;rw[hd']at hd;cases hd
theorem ai.funs(I:ai X pins σ H s):s.heap.FunFrames X.base X.outer:=by
 have all:∀(l:List Env),(∀b∈bB l,b∈X.fs)->X.s₀.heap.FunFrames X.base l->s.heap.FunFrames X.base l:=by
  intro l
  induction l with
  | nil=>intro _ _;trivial
  | cons env r ih =>
   intro hs hl
   obtain⟨hk,⟨L,o,hf,hn,ho,hd⟩,hr⟩:=hl
   have hL:L∈X.fs:=hs L (by unfold bB;rw[List.filterMap_cons,hf];exact List.mem_cons_self)
   obtain⟨sl,e⟩:=I.base.slot L o ho (I.ok.frf L hL) hL fun z=>I.ok.exfs L z hL
   exact⟨hk,⟨L,_,hf,hn,e,hd⟩,ih (fun b hb=>hs b (by unfold bB;rw[List.filterMap_cons,hf];exact List.mem_cons_of_mem _ hb)) hr⟩
 exact all X.outer (fun _ hb=>hb) I.ok.funs
theorem ai.stack(I:ai X pins σ H s):s.heap.FunFrames X.base X.stack:=by
 rcases I.ok.stk with e|⟨e,hf⟩
 ·rw[e];exact I.funs
 ·rw[e]
  obtain⟨m,hn,_⟩:=I.loc
  refine .cons (by rw[I.ok.kind];decide) hf hn ?_ I.funs
  exact Heap.get?_none_of_le (Nat.le_trans I.ok.bsz I.ok.above)
theorem ai.stkSub(I:ai X pins σ H s):∀b∈bB X.stack,b∈X.env.locals::X.fs:=fun b hb=>by
 rcases I.ok.stk with e|⟨e,hf⟩
 ·rw[e]at hb;exact List.mem_cons_of_mem _ hb
 ·rw[e]at hb
  unfold bB at hb
  rw[List.filterMap_cons,hf]at hb
  exact hb
theorem ai.stkFree(I:ai X pins σ H s):∀b∈bB X.stack,H b=none:=fun b hb=>by
 rcases List.mem_cons.mp (I.stkSub b hb)with e|hb
 ·rw[e];exact I.free
 ·obtain⟨_,o,ho,_⟩:=I.ok.funs.mem hb
  exact I.base.free b o ho (I.ok.frf b hb) fun z=>I.ok.exfs b z hb
theorem ai.step{t':Nat}{d':Drawn}(I:ai X pins σ H s)
  (hch:∀b∈ch,(b∈X.ex\/X.s₀.heap.objs.size<=b)/\b≠X.env.locals/\(∀x c,X.env.cells.lookup x=some c->c≠b)/\∀p∈X.pn++pins,p.1≠b)
  (keep:∀b o,b≠X.env.locals->b∉X.fs->b∉ch->s.heap.get? b=some o->H b=none->h'.get? b=some o)
  (slot:∀b o,b≠X.env.locals->b∈X.fs->b∉ch->s.heap.get? b=some o->H b=none->∃sl,h'.get? b=some { o with slots:=sl }) (free:∀b o,b∉ch->s.heap.get? b=some o->H b=none->H' b=none)
  (there:∀b o,b∉ch->s.heap.get? b=some o->∃o',h'.get? b=some o')
  (tups:∀b xs,H b=some (.tup xs)->H' b=some (.tup xs)) (frzs:∀b o u,H b=some (.frz o u)->H' b=some (.frz o u)) (tbls:∀b ps,H b=some (.tbl ps)->∃more,H' b=some (.tbl (ps++more)))
  (ns:∀m,s.heap.Ns X.env.locals m->h'.Ns X.env.locals m) (hok:bE X.prog X.w H' h') (hg:AllBare g') :
  ai X pins σ H' { s with heap:=h',gens:=g',drawn:=d',toks:=t' }:=by
 have neL:∀b o,X.s₀.heap.get? b=some o->b≠X.env.locals:=fun b o e=>Nat.ne_of_lt (Nat.lt_of_lt_of_le (Heap.lt_size e) I.ok.above)
 have neC:∀b o,X.s₀.heap.get? b=some o->b∉X.ex->b∉ch:=fun b o e hx hb=>by
  rcases(hch b hb).1 with z|z
  ·exact hx z
  ·exact absurd (Nat.lt_of_lt_of_le (Heap.lt_size e) z) (Nat.lt_irrefl _)
 have cellK:∀x c,X.env.cells.lookup x=some c->∀v,s.heap.IsCell c v->h'.IsCell c v:=fun x c e v ⟨o,ho,hd⟩=>by
  have nch:c∉ch:=fun z=>(hch c z).2.2.1 x c e rfl
  by_cases hc:c∈X.fs
  ·obtain⟨sl,q⟩:=slot c o (I.cne x c e) hc nch ho (I.freeC x c e)
   exact⟨_,q,hd⟩
  ·exact⟨o,keep c o (I.cne x c e) hc nch ho (I.freeC x c e),hd⟩
 refine⟨I.ok,I.os,hg,⟨fun b o e n hb hx=>?_,fun b o e n hb hx=>?_,fun b o e n hx=>?_,fun b o e hx=>?_,fun b xs e=>tups b xs (I.base.tups b xs e),fun b o xs e=>frzs b o xs (I.base.frzs b o xs e),fun b ps e=>?_⟩,?_,fun x c e=>?_,?_,fun x c e=>?_,fun p hp=>?_,hok,I.len⟩
 ·exact keep b o (neL b o e) hb (neC b o e hx) (I.base.keep b o e n hb hx) (I.base.free b o e n hx)
 ·obtain⟨sl,e1⟩:=I.base.slot b o e n hb hx
  obtain⟨sl',e2⟩:=slot b _ (neL b o e) hb (neC b o e hx) e1 (I.base.free b o e n hx)
  exact⟨sl',e2⟩
 ·obtain⟨o',e1⟩:=I.base.there b o e hx
  exact free b o' (neC b o e hx) e1 (I.base.free b o e n hx)
 ·obtain⟨o',e1⟩:=I.base.there b o e hx
  exact there b o' (neC b o e hx) e1
 ·obtain⟨m1,e1⟩:=I.base.tbls b ps e
  obtain⟨m2,e2⟩:=tbls b _ e1
  exact⟨m1++m2,by rw[e2,Array.append_assoc]⟩
 ·obtain⟨m,hn,hl⟩:=I.loc
  refine⟨m,ns m hn,fun i x v e1 e2 e3=>?_⟩
  obtain⟨u,r,l⟩:=hl i x v e1 e2 e3
  refine⟨u,r,?_⟩
  rcases l with l|⟨k,c,e,z⟩
  ·exact .inl l
  ·exact .inr ⟨k,c,e,cellK x c e _ z⟩
 ·obtain⟨v,z⟩:=I.cell x c e
  exact⟨v,cellK x c e v z⟩
 ·obtain⟨m,⟨o,_,_,ho,_⟩,_⟩:=I.loc
  exact free _ o (fun z=>(hch _ z).2.1 rfl) ho I.free
 ·obtain⟨v,o,ho,hd⟩:=I.cell x c e
  exact free c o (fun z=>(hch c z).2.2.1 x c e rfl) ho (I.freeC x c e)
 ·obtain⟨e,n,ne,nf,d⟩:=I.pin p hp
  have nch:p.1∉ch:=fun z=>(hch p.1 z).2.2.2 p hp rfl
  exact⟨keep p.1 p.2 ne nf nch e n,free p.1 p.2 nch e n,ne,nf,d⟩
theorem ai.un{t':Nat}(I:ai X pins σ H s)(u:Un X.fs [] H H' s.heap h')(hok:bE X.prog X.w H' h'):ai X pins σ H' { s with heap:=h',toks:=t' }:=by
 obtain⟨m,⟨o,es,ep,ho,r⟩,_⟩:=id I.loc
 obtain⟨sl,hL⟩:=u.any ho I.free (by simp)
 exact I.step (g':=s.gens) (d':=s.drawn) (ch:=[]) (fun _ z=>nomatch z) (fun b o _ hb _ e n=>u.keep b o e n hb (by simp)) (fun b o _ hb _ e n=>u.slot b o e n hb (by simp)) (fun b o _ e n=>u.free b o e n (by simp)) (fun b o _ e=>u.there b o e (by simp)) u.tups u.frzs u.tbls (fun m' hm=>by
  obtain⟨o',es',ep',ho',r'⟩:=hm
  rw[ho]at ho';cases ho'
  exact⟨_,es',ep',hL,r'⟩) hok I.bare
theorem ai.call{t':Nat}{d':Drawn}(I:ai X pins σ H s)(u:Un (bB X.stack) ch H H' s.heap h')(hok:bE X.prog X.w H' h')(hg:AllBare g')
  (hch:∀b∈ch,(b∈X.ex\/X.s₀.heap.objs.size<=b)/\b≠X.env.locals/\(∀x c,X.env.cells.lookup x=some c->c≠b)/\∀p∈X.pn++pins,p.1≠b) :
  ai X pins σ H' { s with heap:=h',gens:=g',drawn:=d',toks:=t' }:=by
 obtain⟨m,⟨o,es,ep,ho,r⟩,_⟩:=id I.loc
 obtain⟨sl,hL⟩:=u.any ho I.free fun z=>(hch _ z).2.1 rfl
 exact I.step (ch:=ch) hch (fun b o hL hb hc e n=>u.keep b o e n (fun z=>(List.mem_cons.mp (I.stkSub b z)).elim hL hb) hc) (fun b o _ _ hc e n=>u.any e n hc) (fun b o hc e n=>u.free b o e n hc) (fun b o hc e=>u.there b o e hc) u.tups u.frzs u.tbls (fun m' hm=>by
  obtain⟨o',es',ep',ho',r'⟩:=hm
  rw[ho]at ho';cases ho'
  exact⟨_,es',ep',hL,r'⟩) hok hg
theorem ai.turned{t':Nat}(I:ai X pins σ H s)(k:∀b o,b≠it->s.heap.get? b=some o->h'.get? b=some o)(hn:H it=none)(hL:it≠X.env.locals)
  (h1:it∈X.ex\/X.s₀.heap.objs.size<=it) (h2:∀x c,X.env.cells.lookup x=some c->c≠it) (h3:∀p∈X.pn++pins,p.1≠it):ai X pins σ H { s with heap:=h',toks:=t' }:=by
 have nit:∀b u,H b=some u->b≠it:=fun b u e z=>by rw[z,hn]at e;cases e
 refine I.step (g':=s.gens) (d':=s.drawn) (ch:=[it]) (fun b hb=>?_) (fun b o _ _ hc e _=>k b o (fun z=>hc (by simp[z])) e) (fun b o _ _ hc e _=>⟨o.slots,k b o (fun z=>hc (by simp[z])) e⟩) (fun _ _ _ _ n=>n)
  (fun b o hc e=>⟨o,k b o (fun z=>hc (by simp[z])) e⟩) (fun _ _ e=>e) (fun _ _ _ e=>e) (fun b ps e=>⟨#[],by rw[e];simp⟩) (fun m hm=>?_) (fun b u e=>?_) I.bare
 ·have e:b=it:=by simpa using hb
  subst e
  exact⟨h1,hL,h2,h3⟩
 ·obtain⟨o,es,ep,ho,r⟩:=hm
  exact⟨o,es,ep,k _ o (Ne.symm hL) ho,r⟩
 ·refine(I.hok b u e).stay (fun c v hc q=>k c v ?_ q) (fun _ q=>q) fun _ _ q=>q
  rcases hc with z|z
  ·rw[z];exact nit b u e
  ·exact nit c _ z
theorem ai.tok(I:ai X pins σ H s)(t:Nat):ai X pins σ H { s with toks:=t }:=I.un (h':=s.heap) (t':=t) Un.refl I.hok
theorem ai.kept{t':Nat}(I:ai X pins σ H s)(k:∀b u,s.heap.get? b=some u->h'.get? b=some u):ai X pins σ H { s with heap:=h',toks:=t' }:=I.un (Un.kept k) (I.hok.kept k)
theorem ai.laid{o:HO}{t':Nat}(I:ai X pins σ H s)(k:∀b u,s.heap.get? b=some u->h'.get? b=some u)(hp:s.heap.objs.size<=a)(new:aR X.prog X.w (az H a o) h' a o) :
  ai X pins σ (az H a o) { s with heap:=h',toks:=t' }:=I.un (Un.laid k hp (I.hok.fresh hp)) (I.hok.laid k hp new)
theorem ai.write{x e:Addr}{o:HO}{t':Nat}(I:ai X pins σ H s)(mu:x6 (H x))(he:e=x\/H e=some (.own x))(k:∀b u,b≠e->s.heap.get? b=some u->h'.get? b=some u)(heo:∃u,h'.get? e=some u)
  (new:aR X.prog X.w (az H x o) h' x o):ai X pins σ (az H x o) { s with heap:=h',toks:=t' }:=I.un (Un.write mu he k heo) (I.hok.write mu he k heo new)
theorem ai.pins_of{pins':List (Addr×Obj)}(I:ai X pins σ H s)(h:∀p∈pins',s.heap.get? p.1=some p.2/\H p.1=none/\p.1≠X.env.locals/\p.1∉X.fs/\∀v,p.2.data ≠ .cell v):ai X pins' σ H s :=
 ⟨I.ok,I.os,I.bare,I.base,I.loc,I.cell,I.free,I.freeC,fun p hp=>(List.mem_append.mp hp).elim (fun z=>I.pin p (List.mem_append_left _ z)) (h p),I.hok,I.len⟩
theorem fy(hN:N.Nodup)(a:N[i]?=some x)(b:N[j]?=some x):i=j:=by
 obtain⟨h1,e1⟩:=List.getElem?_eq_some_iff.mp a
 obtain⟨h2,e2⟩:=List.getElem?_eq_some_iff.mp b
 exact(List.getElem_inj hN).mp (e1.trans e2.symm)
theorem tN{Q:Unit->Shared->Prop}(I:ai X pins σ H s)(hN:X.N.Nodup)(hi:X.N[i]?=some x)(hx:qe X.env.scope x)(r:aJ v u)
  (h:∀s',ai X pins (σ.set i (some v)) H s'->(∃a,Heap.SameBut a s.heap s'.heap/\(a=X.env.locals\/X.env.cells.lookup x=some a))->Q () s') (hf:X.fn x=true\/X.env.scope.names.lookup x=some .local:=by first|exact .inl rfl|exact .inr rfl|assumption):wpAny M A (storeName X.env x u) Q E s:=by
 obtain⟨m,hn,hl⟩:=id I.loc
 have hcls:(X.env.scope.kind == .class || (X.env.scope.kind == .module&&X.env.locals != X.env.globals))=false:=by rw[I.ok.kind];rfl
 have hiσ:i<σ.length:=by rw[I.len];exact(List.getElem?_eq_some_iff.mp hi).1
 have cne:=I.cne
 have tracked:∀{a:Addr} {h':Heap},(∃o,s.heap.get? a=some o/\H a=none)->Heap.SameBut a s.heap h'->bE X.prog X.w H h':=fun {a h'} ha hs b ob e=>by
  obtain⟨_,_,hfree⟩:=ha
  refine(I.hok b ob e).stay (fun c w' hc q=>(hs.2 c ?_).trans q) (fun _ q=>q) fun _ _ q=>q
  rintro rfl
  rcases hc with rfl|hc
  ·rw[hfree]at e;cases e
  ·rw[hfree]at hc;cases hc
 rcases hx with hk|hk
 ·refine wpAny_storeName_local hk hn (fun h' hn' hs=>?_) hcls
  obtain⟨oL,_,_,hoL,_⟩:=id hn
  refine h _ ⟨I.ok,I.os,I.bare,⟨fun b o e n hb hx=>?_,fun b o e n hb hx=>?_,I.base.free,fun b o e hx=>?_,I.base.tups,I.base.frzs,I.base.tbls⟩,⟨_,hn',fun j y v' e1 e2 e3=>?_⟩,fun y c e=>?_,I.free,I.freeC,fun p hp=>?_,tracked ⟨oL,hoL,I.free⟩ hs,by simpa using I.len⟩ ⟨_,hs,.inl rfl⟩
  ·exact(hs.2 b (Nat.ne_of_lt (Nat.lt_of_lt_of_le (Heap.lt_size e) I.ok.above))).trans (I.base.keep b o e n hb hx)
  ·obtain⟨sl,e1⟩:=I.base.slot b o e n hb hx
   exact⟨sl,(hs.2 b (Nat.ne_of_lt (Nat.lt_of_lt_of_le (Heap.lt_size e) I.ok.above))).trans e1⟩
  ·obtain⟨o',e1⟩:=I.base.there b o e hx
   exact⟨o',(hs.2 b (Nat.ne_of_lt (Nat.lt_of_lt_of_le (Heap.lt_size e) I.ok.above))).trans e1⟩
  ·by_cases hj:j=i
   ·subst hj
    rw[hi]at e1;cases e1
    rw[List.getElem?_set_self hiσ]at e2
    cases e2
    exact⟨u,r,.inl ⟨hk,by simp⟩⟩
   ·rw[List.getElem?_set_ne (Ne.symm hj)]at e2
    obtain⟨u',r',q⟩:=hl j y v' e1 e2 e3
    refine⟨u',r',?_⟩
    rcases q with⟨k,e⟩|⟨k,c,e,z⟩
    ·refine .inl ⟨k,?_⟩
     have:y≠x:=fun e=>hj (fy hN e1 (e ▸ hi))
     simp[this,e]
    ·exact .inr ⟨k,c,e,z.sameBut hs (cne y c e)⟩
  ·obtain⟨w',z⟩:=I.cell y c e
   exact⟨w',z.sameBut hs (cne y c e)⟩
  ·obtain⟨e,n,ne,nf,d⟩:=I.pin p hp
   exact⟨(hs.2 p.1 ne).trans e,n,ne,nf,d⟩
 ·have hfn:X.fn x=true:=by
   rcases hf with z|z
   ·exact z
   ·rw[z]at hk;cases hk
  obtain⟨c,hc⟩:=I.ok.has x (.inl hk)
  obtain⟨w',z⟩:=I.cell x c hc
  refine wpAny_storeName_cell I.ok.kind hk hc z (fun h' hc' hs=>?_)
  obtain⟨oc,hoc,hocd⟩:=id z
  refine h { s with heap:=h' } ⟨I.ok,I.os,I.bare,⟨fun b o e n hb hx=>?_,fun b o e n hb hx=>?_,I.base.free,fun b o e hx=>?_,I.base.tups,I.base.frzs,I.base.tbls⟩,⟨m,hn.sameBut hs (Ne.symm (cne x c hc)),fun j y v' e1 e2 e3=>?_⟩,fun y c' e=>?_,I.free,I.freeC,fun p hp=>?_,tracked ⟨oc,hoc,I.freeC x c hc⟩ hs,by simpa using I.len⟩ ⟨c,hs,.inr hc⟩
  ·exact(hs.2 b (Nat.ne_of_lt (Nat.lt_of_lt_of_le (Heap.lt_size e) (I.ok.cab x c hfn hc)))).trans (I.base.keep b o e n hb hx)
  ·obtain⟨sl,e1⟩:=I.base.slot b o e n hb hx
   exact⟨sl,(hs.2 b (Nat.ne_of_lt (Nat.lt_of_lt_of_le (Heap.lt_size e) (I.ok.cab x c hfn hc)))).trans e1⟩
  ·obtain⟨o',e1⟩:=I.base.there b o e hx
   exact⟨o',(hs.2 b (Nat.ne_of_lt (Nat.lt_of_lt_of_le (Heap.lt_size e) (I.ok.cab x c hfn hc)))).trans e1⟩
  ·by_cases hj:j=i
   ·subst hj
    rw[hi]at e1;cases e1
    rw[List.getElem?_set_self hiσ]at e2
    cases e2
    exact⟨u,r,.inr ⟨.inl hk,c,hc,hc'⟩⟩
   ·rw[List.getElem?_set_ne (Ne.symm hj)]at e2
    obtain⟨u',r',q⟩:=hl j y v' e1 e2 e3
    refine⟨u',r',?_⟩
    rcases q with q|⟨k,c',e,z'⟩
    ·exact .inl q
    ·refine .inr ⟨k,c',e,z'.sameBut hs ?_⟩
     rintro rfl
     exact hj (fy hN e1 (I.ok.inj _ _ _ e hc ▸ hi))
  ·by_cases hcc:c'=c
   ·subst hcc;exact⟨_,hc'⟩
   ·obtain⟨w2,z2⟩:=I.cell y c' e
    exact⟨w2,z2.sameBut hs hcc⟩
  ·obtain⟨e,n,ne,nf,d⟩:=I.pin p hp
   refine⟨(hs.2 p.1 ?_).trans e,n,ne,nf,d⟩
   intro q
   rw[q,hoc]at e
   have q':oc=p.2:=Option.some.inj e
   exact d w' (by rw[<- q'];exact hocd)
theorem dU{Q:Unit->Shared->Prop}(I:ai X pins σ H s)(hN:X.N.Nodup)(hi:X.N[i]?=some x)(hx:qe X.env.scope x)(r:aJ v u)
  (h:∀s',ai X pins (σ.set i (some v)) H s'->Q () s') (hf:X.fn x=true\/X.env.scope.names.lookup x=some .local:=by first|exact .inl rfl|exact .inr rfl|assumption):wpAny M A (storeName X.env x u) Q E s :=
 tN I hN hi hx r (fun s' I' _=>h s' I') hf
theorem ai.call'(I:ai X pins σ H s)(ho:s'.os=s.os)(u:Un (bB X.stack) ch H H' s.heap s'.heap)(hok:bE X.prog X.w H' s'.heap)(hg:AllBare s'.gens)
  (hch:∀b∈ch,(b∈X.ex\/X.s₀.heap.objs.size<=b)/\b≠X.env.locals/\(∀x c,X.env.cells.lookup x=some c->c≠b)/\∀p∈X.pn++pins,p.1≠b):ai X pins σ H' s':=by
 obtain⟨h',g',d',t',o'⟩:=s'
 have e:o'=s.os:=ho
 subst e
 exact I.call (g':=g') (t':=t') (d':=d') u hok hg hch
end
abbrev XK:=Value->Option Addr->Hp->Prop
abbrev St:=List (Option V)
abbrev VK:=V->Hp->Prop
abbrev TE:=St->Hp->VK->Prop
abbrev TT:=St->Hp->(Bool->Hp->Prop)->Prop
abbrev TA:=St->Hp->(List V->Hp->Prop)->Prop
structure gU where
 nx:St->Hp->Prop
 rt:VK
 bk:St->Hp->Prop:=fun _ _=>False
 ct:St->Hp->Prop:=fun _ _=>False
abbrev TS:=gU->St->Hp->Prop
def EP(X:Cx)(pins:List (Addr×Obj))(σ:St)(Q:VK)(u:Value)(s':Shared):Prop:=∃v H',ai X pins σ H' s'/\aJ v u/\Q v H'
def TP(X:Cx)(pins:List (Addr×Obj))(σ:St)(Q:Bool->Hp->Prop)(b:Bool)(s':Shared):Prop:=∃H',ai X pins σ H' s'/\Q b H'
def AP(X:Cx)(pins:List (Addr×Obj))(σ:St)(Q:List V->Hp->Prop)(us:List Value)(s':Shared):Prop:=∃vs H',ai X pins σ H' s'/\av vs us/\Q vs H'
def SP(X:Cx)(pins:List (Addr×Obj))(D:gU)(f:Flow)(s':Shared):Prop :=
 match f with
 | .next => ∃σ' H',ai X pins σ' H' s'/\D.nx σ' H'
 | .brk => ∃σ' H',ai X pins σ' H' s'/\D.bk σ' H'
 | .cont => ∃σ' H',ai X pins σ' H' s'/\D.ct σ' H'
 | .ret u => ∃v σ' H',ai X pins σ' H' s'/\aJ v u/\D.rt v H'
def PE(X:Cx)(e:Expr)(t:TE):Prop :=
 ∀(pins:List (Addr×Obj)) (s:Shared) (σ:St) (H:Hp) (Q:VK),ai X pins σ H s->t σ H Q->wpAny (model X.prog X.w) X.A (eval e X.env) (EP X pins σ Q) X.xe s
def PT(X:Cx)(e:Expr)(t:TT):Prop :=
 ∀(pins:List (Addr×Obj)) (s:Shared) (σ:St) (H:Hp) (Q:Bool->Hp->Prop),ai X pins σ H s->t σ H Q->wpAny (model X.prog X.w) X.A (isTrue e X.env (eval e X.env)) (TP X pins σ Q) X.xe s
def PW(X:Cx)(e:Expr)(t:TT):Prop :=
 ∀(whole:Sem Value) (pins:List (Addr×Obj)) (s:Shared) (σ:St) (H:Hp) (Q:Bool->Hp->Prop),ai X pins σ H s->t σ H Q->wpAny (model X.prog X.w) X.A (isTrue e X.env whole) (TP X pins σ Q) X.xe s
theorem PW.pt{X:Cx}{t:TT}(h:PW X e t):PT X e t:=h _
def PA(X:Cx)(es:List Expr)(t:TA):Prop :=
 ∀(pos:Pos) (pins:List (Addr×Obj)) (s:Shared) (σ:St) (H:Hp) (Q:List V->Hp->Prop),ai X pins σ H s->t σ H Q->wpAny (model X.prog X.w) X.A (spliced (backTo pos (starEach es X.env))) (AP X pins σ Q) X.xe s
def PS(X:Cx)(st:Stmt)(t:TS):Prop :=
 ∀(pins:List (Addr×Obj)) (s:Shared) (σ:St) (H:Hp) (D:gU),ai X pins σ H s->t D σ H->wpAny (model X.prog X.w) X.A (exec st X.env) (SP X pins D) X.xe s
def ck(X:Cx)(st:List Stmt)(t:TS):Prop :=
 ∀(pins:List (Addr×Obj)) (s:Shared) (σ:St) (H:Hp) (D:gU),ai X pins σ H s->t D σ H->wpAny (model X.prog X.w) X.A (execs st X.env) (SP X pins D) X.xe s
theorem aH{t:Sem α}{Q Q':α->Shared->Prop}(h:wpAny M A t Q E s)(hQ:∀a s,Q a s->Q' a s):wpAny M A t Q' E s:=wpAny_mono h hQ fun _ _ x=>x
variable{σ:St}{t te tl:TE}{X:Cx}{tc:TT}{ta:TA}{tb:TS}
section
theorem EE{a b:Expr}{ta tb:TE}(ha:PE X a ta)(hb:PE X b tb)(I:ai X pins σ H s)(h:ta σ H fun x H1=>tb σ H1 fun y H2=>R x y H2)
  {Q:α->Shared->Prop} {f:Value->Value->Sem α}
  (hf:∀v u s2 x y H2,ai X pins σ H2 s2->aJ x v->aJ y u->R x y H2->wpAny (model X.prog X.w) X.A (f v u) Q X.xe s2) :
  wpAny (model X.prog X.w) X.A (eval a X.env) (fun v s₁=>wpAny (model X.prog X.w) X.A (eval b X.env) (fun u s₂=>wpAny (model X.prog X.w) X.A (f v u) Q X.xe s₂) X.xe s₁) X.xe s:=by
 refine aH (ha pins s σ H _ I h) fun v s1 ⟨x,H1,I1,r1,q1⟩=>?_
 refine aH (hb pins s1 σ H1 _ I1 q1) fun u s2 ⟨y,H2,I2,r2,q2⟩=>?_
 exact hf v u s2 x y H2 I2 r1 r2 q2
def jD(i:Nat):TE:=fun σ H Q => ∃v,σ[i]?=some (some v)/\Q v H
def tC(v:V):TE:=fun _ H Q=>Q v H
theorem fw(hN:X.N[i]?=some x)(hv:fL X.env.scope x)(hd:(x==("__debug__" : Str))=false:=by decide)(hcd:(x==("__classdict__" : Str))=false:=by decide):PE X (.Name x pos) (jD i):=by
 intro pins s σ H Q I h
 obtain⟨v,e,h⟩:=h
 obtain⟨m,hn,hl⟩:=I.loc
 obtain⟨u,r,l⟩:=hl i x v hN e hv
 have fin:EP X pins σ Q u s:=⟨v,H,I,r,h⟩
 rcases l with⟨hk,hm⟩|⟨hk,c,hc,hcell⟩
 ·exact wpAny_Name (wpAny_loadName_local I.ok.kind hk hn hm fin) hd
 ·rcases hk with hk|hk
  ·exact wpAny_Name (wpAny_loadName_cell I.ok.kind hk hc hcell fin) hd
  ·exact wpAny_Name (wpAny_loadName_free I.ok.kind hk hc hcell fin hcd) hd
theorem A5{i j pos}:PE X (.Constant (.int i) j pos) (tC (.int i)):=fun _ _ _ H _ I h=>wpAny_Constant_int ⟨.int i,H,I.tok _,⟨_,rfl⟩,h⟩
theorem DE{b j pos}:PE X (.Constant (.bool b) j pos) (tC (.bl b)):=fun _ _ _ H _ I h=>Constant_bool ⟨.bl b,H,I,rfl,h⟩
theorem A3{j pos}:PE X (.Constant .none j pos) (tC .non):=fun _ _ _ H _ I h=>Constant_none ⟨.non,H,I,rfl,h⟩
theorem A0{x j pos}:PE X (.Constant (.str x) j pos) (tC (.str x)):=fun _ _ _ H _ I h=>Calls.Constant_str ⟨.str x,H,I.tok _,⟨_,rfl⟩,h⟩
def Gl(X:Cx)(x:Str):Prop:=X.env.kindOf x=some .globalImplicit
theorem cy(I:ai X pins σ H s)(hg:Gl X x)(hm:X.mg x=some u)(h:Q u s)
  (hd:(x==("__debug__" : Str))=false:=by decide):wpAny (model X.prog X.w) X.A (eval (.Name x pos) X.env) Q E s :=
 Calls.Name_function_global I.ok.kind hg (Calls.loadGlobal_global (by rw[I.ok.glob];exact I.mod.glob.keeps I.bk) hm h) hd
theorem gp(I:ai X pins σ H s)(hg:Gl X x)(hm:X.mg x=none)(hv:bootBuiltins x=some u)(h:Q u s)
  (hn:x ≠ "__name__" := by decide) (hd:(x==("__debug__" : Str))=false:=by decide):wpAny (model X.prog X.w) X.A (eval (.Name x pos) X.env) Q E s:=by
 obtain⟨mb,h1,h2⟩:=I.mod.blt
 exact Calls.Name_function_global I.ok.kind hg (Calls.loadGlobal_builtin (by rw[I.ok.glob];exact I.mod.glob.keeps I.bk) hm (by rw[I.ok.blt];exact h1.keeps I.bk) ((h2 x hn).trans hv) h) hd
theorem yV(hg:Gl X x)(hm:X.mg x=some u)(r:aJ v u)(hd:(x==("__debug__" : Str))=false:=by decide):PE X (.Name x pos) (tC v) :=
 fun _ _ _ H _ I h=>cy I hg hm ⟨v,H,I,r,h⟩ hd
theorem yX(hg:Gl X x)(hm:X.mg x=none)(hv:bootBuiltins x=some u)(r:aJ v u)(hn:x ≠ "__name__" := by decide)(hd:(x==("__debug__" : Str))=false:=by decide):PE X (.Name x pos) (tC v) :=
 fun _ _ _ H _ I h=>gp I hg hm hv ⟨v,H,I,r,h⟩ hn hd
variable{a b:Expr}{ta tb:TE}
def tB(t:TE):TT:=fun σ H Q=>t σ H fun x H1 => ∃c,x=.bl c/\Q c H1
theorem AR(h:PE X e t)(he:∀whole,isTrue e X.env whole=(do let v <- whole;standAt e.pos;holding [v] (truthy v)):=by intro _;rfl):PT X e (tB t):=by
 intro pins s σ H Q I hw
 refine isTrue_plain (aH (h pins s σ H _ I hw) fun v s1 ⟨x,H1,I1,r1,q1⟩=>?_) (he _)
 obtain⟨d,rfl,q⟩:=q1
 cases r1
 exact wpAny_truthy_bool ⟨H1,I1,q⟩
variable{tA tB':TT}{aX:List Expr}
def Fb(t u:TT):TT:=fun σ H Q=>t σ H fun c H1=>if c=true then u σ H1 Q else Q false H1
def GN(t u:TT):TT:=fun σ H Q=>t σ H fun c H1=>if c=true then Q true H1 else u σ H1 Q
def EV(t:TT):TT:=fun σ H Q=>t σ H fun c H1=>Q (!c) H1
theorem yF(ha:PT X a tA):PW X (.BoolOp .And [a] pos) tA:=by
 intro wh pins s σ H Q I h
 refine isTrue_and (aH (ha pins s σ H Q I h) fun c s1 e=>?_)
 cases c with
 | true=>exact isTrue_and_nil e
 | false=>exact e
theorem AQ(ha:PT X a tA):PW X (.BoolOp .Or [a] pos) tA:=by
 intro wh pins s σ H Q I h
 refine isTrue_or (aH (ha pins s σ H Q I h) fun c s1 e=>?_)
 cases c with
 | false=>exact isTrue_or_nil e
 | true=>exact e
theorem t6(ha:PT X a tA)(hb:PW X (.BoolOp .And (b::aX) pos) tB'):PW X (.BoolOp .And (a::b::aX) pos) (Fb tA tB'):=by
 intro wh pins s σ H Q I h
 refine isTrue_and (aH (ha pins s σ H _ I h) fun c s1 ⟨H1,I1,q1⟩=>?_)
 cases c with
 | true=>exact hb wh pins s1 σ H1 Q I1 q1
 | false=>exact⟨H1,I1,q1⟩
theorem xm(ha:PT X a tA)(hb:PW X (.BoolOp .Or (b::aX) pos) tB'):PW X (.BoolOp .Or (a::b::aX) pos) (GN tA tB'):=by
 intro wh pins s σ H Q I h
 refine isTrue_or (aH (ha pins s σ H _ I h) fun c s1 ⟨H1,I1,q1⟩=>?_)
 cases c with
 | true=>exact⟨H1,I1,q1⟩
 | false=>exact hb wh pins s1 σ H1 Q I1 q1
theorem AS(ha:PT X a tA):PT X (.UnaryOp .Not a pos) (EV tA):=by
 intro pins s σ H Q I h
 exact isTrue_not (ha pins s σ H (fun c H1=>Q (!c) H1) I h)
def Dr(ta tb:TE):TE:=fun σ H Q=>ta σ H fun x H1 => ∃c,x=.bl c/\if c=true then tb σ H1 Q else Q (.bl false) H1
def EU(ta tb:TE):TE:=fun σ H Q=>ta σ H fun x H1 => ∃c,x=.bl c/\if c=true then Q (.bl true) H1 else tb σ H1 Q
def Dn(ta:TE):TE:=fun σ H Q=>ta σ H fun x H1 => ∃c,x=.bl c/\Q (.bl (!c)) H1
theorem A1{op}(h:PE X a t):PE X (.BoolOp op [a] pos) t:=fun pins s σ H Q I hw=>BoolOp_one (h pins s σ H Q I hw)
theorem uk(ha:PE X a ta)(hb:PE X (.BoolOp .And (b::aX) pos) tb):PE X (.BoolOp .And (a::b::aX) pos) (Dr ta tb):=by
 intro pins s σ H Q I h
 refine BoolOp_and (aH (ha pins s σ H _ I h) fun v s1 ⟨x,H1,I1,r1,q1⟩=>?_)
 obtain⟨c,rfl,q1⟩:=q1
 cases r1
 refine wpAny_truthy_bool ?_
 cases c with
 | true=>exact hb pins s1 σ H1 Q I1 q1
 | false=>exact⟨.bl false,H1,I1,rfl,q1⟩
theorem xr(ha:PE X a ta)(hb:PE X (.BoolOp .Or (b::aX) pos) tb):PE X (.BoolOp .Or (a::b::aX) pos) (EU ta tb):=by
 intro pins s σ H Q I h
 refine BoolOp_or (aH (ha pins s σ H _ I h) fun v s1 ⟨x,H1,I1,r1,q1⟩=>?_)
 obtain⟨c,rfl,q1⟩:=q1
 cases r1
 refine wpAny_truthy_bool ?_
 cases c with
 | false=>exact hb pins s1 σ H1 Q I1 q1
 | true=>exact⟨.bl true,H1,I1,rfl,q1⟩
theorem A2(ha:PE X a ta):PE X (.UnaryOp .Not a pos) (Dn ta):=by
 intro pins s σ H Q I h
 refine UnaryOp_ (aH (ha pins s σ H _ I h) fun v s1 ⟨x,H1,I1,r1,q1⟩=>?_)
 obtain⟨c,rfl,q1⟩:=q1
 cases r1
 exact not_of (wpAny_truthy_bool ⟨.bl (!c),H1,I1,rfl,q1⟩)
end
def bM(K:W.Frag)(H:Hp)(a:Addr)(xs:List V):Prop :=
 Rd H a (.lst xs) \/
  ∃(o:Obj) (its:Array Value) (n:Nat),K.lookup a=some o/\o.cls=.type "list" /\ o.dict=none/\o.data=.seq its n/\its.size<=sizeLine/\av xs its.toList
def bg(K:W.Frag)(H:Hp)(a:Addr)(xs:List V):Prop :=
 Rd H a (.tup xs) \/
  ∃(o:Obj) (its:Array Value) (n:Nat),K.lookup a=some o/\o.cls=.type "tuple" /\ o.dict=none/\o.data=.seq its n/\its.size<=sizeLine/\av xs its.toList
def GB:Value->Option V
 | .none=>some .non
 | .bool b=>some (.bl b)
 | .int i _=>some (.int i)
 | .str x _=>some (.str x)
 | .bytes b _=>some (.byt b)
 | .float b _=>some (.flt b)
 | .ref a=>some (.ref a)
 | .type n=>some (.ty n)
 | _=>none
theorem aJ.abs{x:V}(r:aJ x u):GB u=some x:=by
 cases x with
 | non=>cases r;rfl
 | bl _=>cases r;rfl
 | int _=>obtain⟨t,rfl⟩:=r;rfl
 | str _=>obtain⟨t,rfl⟩:=r;rfl
 | byt _=>obtain⟨t,rfl⟩:=r;rfl
 | flt _=>obtain⟨t,rfl⟩:=r;rfl
 | ref _=>cases r;rfl
 | ty _=>cases r;rfl
theorem aJ.inj{x:V}(r:aJ x u)(q:aJ y u):x=y:=Option.some.inj (r.abs.symm.trans q.abs)
theorem av.inj:∀{xs ys:List V} {us:List Value},av xs us->av ys us->xs=ys
 | _,_,_,.nil,.nil=>rfl
 | _,_,_,.cons r t,.cons r' t'=>by rw[r.inj r',av.inj t t']
section
variable{xs ys:List V}
theorem bM.of(h:H a=some (.lst xs)):bM K H a xs:=.inl (.inl h)
theorem bg.of(h:H a=some (.tup xs)):bg K H a xs:=.inl (.inl h)
theorem ai.list(I:ai X pins σ H s)(h:bM X.K H a xs):∃its:List Value,av xs its/\PlainL s.heap a its.toArray/\xs.length<=sizeLine:=by
 rcases h with h|⟨o,its,n,hk,hc,hd,hs,hz,r⟩
 ·obtain⟨z,its,n,r,e⟩:=h.ok I.hok
  exact⟨its,r,⟨_,n,e,rfl,rfl,rfl⟩,z⟩
 ·refine⟨its.toList,r,⟨o,n,I.kIn a o hk,hc,hd,by simpa using hs⟩,?_⟩
  have e:=r.length
  simp only[Array.length_toList]at e
  omega
theorem ai.tuple(I:ai X pins σ H s)(h:bg X.K H a xs):∃its:List Value,av xs its/\IsTup s.heap a its.toArray/\xs.length<=sizeLine:=by
 rcases h with h|⟨o,its,n,hk,hc,hd,hs,hz,r⟩
 ·obtain⟨z,its,r,p⟩:=h.ok I.hok
  exact⟨its,r,p.1,z⟩
 ·refine⟨its.toList,r,⟨o,I.kIn a o hk,hc,n,by simpa using hs⟩,?_⟩
  have e:=r.length
  simp only[Array.length_toList]at e
  omega
theorem ai.tupN(I:ai X pins σ H s)(h:bg X.K H a xs):∃o,s.heap.get? a=some o/\o.cls=.type "tuple" /\ o.dict=none:=by
 obtain h|⟨o,_,_,hk,hc,hd,_⟩:=h
 ·obtain⟨z,its,r,⟨o,e,c,_⟩,o2,e2,d⟩:=h.ok I.hok
  rw[e]at e2;cases e2
  exact⟨o,e,c,d⟩
 ·exact⟨o,I.kIn a o hk,hc,hd⟩
theorem ai.list_inj(I:ai X pins σ H s)(h:bM X.K H a xs)(h':bM X.K H a ys):xs=ys:=by
 obtain⟨its,r,⟨o,n,e,_,_,d⟩,_⟩:=I.list h
 obtain⟨its',r',⟨o',n',e',_,_,d'⟩,_⟩:=I.list h'
 rw[e]at e';cases e'
 rw[d]at d'
 injection d' with d1 _
 have:its=its':=by simpa using congrArg Array.toList d1
 subst this
 exact r.inj r'
theorem ai.tuple_inj(I:ai X pins σ H s)(h:bg X.K H a xs)(h':bg X.K H a ys):xs=ys:=by
 obtain⟨its,r,⟨o,e,_,n,d⟩,_⟩:=I.tuple h
 obtain⟨its',r',⟨o',e',_,n',d'⟩,_⟩:=I.tuple h'
 rw[e]at e';cases e'
 rw[d]at d'
 injection d' with d1 _
 have:its=its':=by simpa using congrArg Array.toList d1
 subst this
 exact r.inj r'
end
abbrev Cx.wish(X:Cx)(E:Value->Shared->Prop):Cx:={ X with xe:=E }
abbrev Cx.nox(X:Cx):Cx:=X.wish fun _ _=>False
theorem Cx.Ok.wish(ok:X.Ok)(E:Value->Shared->Prop):(X.wish E).Ok :=
 ⟨ok.mod,ok.kind,ok.glob,ok.blt,ok.above,ok.inj,ok.has,ok.cab,ok.hd,ok.frames,ok.stk,ok.exf,ok.bs,ok.bsz,ok.noex,ok.exfs,ok.funs,ok.frf⟩
theorem Cx.Ok.unwish(ok:(X.wish E).Ok):X.Ok :=
 ⟨ok.mod,ok.kind,ok.glob,ok.blt,ok.above,ok.inj,ok.has,ok.cab,ok.hd,ok.frames,ok.stk,ok.exf,ok.bs,ok.bsz,ok.noex,ok.exfs,ok.funs,ok.frf⟩
section
theorem ai.wish(I:ai X pins σ H s)(E:Value->Shared->Prop):ai (X.wish E) pins σ H s:=⟨I.ok.wish E,I.os,I.bare,I.base,I.loc,I.cell,I.free,I.freeC,I.pin,I.hok,I.len⟩
theorem ai.unwish(I:ai (X.wish E) pins σ H s):ai X pins σ H s:=⟨I.ok.unwish,I.os,I.bare,I.base,I.loc,I.cell,I.free,I.freeC,I.pin,I.hok,I.len⟩
theorem SP.unwish{D:gU}{f:Flow}(h:SP (X.wish E) pins D f s'):SP X pins D f s':=by
 cases f with
 | next=>obtain⟨σ',H',I,q⟩:=h;exact⟨σ',H',I.unwish,q⟩
 | brk=>obtain⟨σ',H',I,q⟩:=h;exact⟨σ',H',I.unwish,q⟩
 | cont=>obtain⟨σ',H',I,q⟩:=h;exact⟨σ',H',I.unwish,q⟩
 | ret u=>obtain⟨v,σ',H',I,r,q⟩:=h;exact⟨v,σ',H',I.unwish,r,q⟩
theorem PE.nox(h:PE X.nox e t):PE X e t:=fun pins s σ H Q I hw =>
 wpAny_mono (h pins s σ H Q (I.wish _) hw) (fun _ _ ⟨v,H',I',r,q⟩=>⟨v,H',I'.unwish,r,q⟩) fun _ _ z=>False.elim z
theorem PT.nox{t:TT}(h:PT X.nox e t):PT X e t:=fun pins s σ H Q I hw =>
 wpAny_mono (h pins s σ H Q (I.wish _) hw) (fun _ _ ⟨H',I',q⟩=>⟨H',I'.unwish,q⟩) fun _ _ z=>False.elim z
theorem ck.nox{st:List Stmt}{t:TS}(h:ck X.nox st t):ck X st t:=fun pins s σ H D I hw =>
 wpAny_mono (h pins s σ H D (I.wish _) hw) (fun _ _ q=>q.unwish) fun _ _ z=>False.elim z
end
section
variable{st:Stmt}{aX:List Stmt}{t u:TS}
def xg:TS:=fun D σ H=>D.nx σ H
def ER(t u:TS):TS:=fun D σ H=>t { D with nx:=u D } σ H
theorem qS:ck X [] xg:=fun _ _ σ H _ I h=>wpAny_execs_nil ⟨σ,H,I,h⟩
theorem cO(h1:PS X st t)(h2:ck X aX u):ck X (st::aX) (ER t u):=by
 intro pins s σ H D I h
 refine wpAny_execs_cons (aH (h1 pins s σ H { D with nx:=u D } I h) fun f s1 q=>?_)
 cases f with
 | next =>
  obtain⟨σ',H',I',q⟩:=q
  exact h2 pins s1 σ' H' D I' q
 | ret v=>exact q
 | brk=>exact q
 | cont=>exact q
theorem yJ(h1:PS X st t):ck X [st] t:=by
 intro pins s σ H D I h
 refine wpAny_execs_cons (aH (h1 pins s σ H D I h) fun f s1 q=>?_)
 cases f with
 | next=>exact wpAny_execs_nil q
 | ret v=>exact q
 | brk=>exact q
 | cont=>exact q
def Ao:TS:=fun D σ H=>D.bk σ H
def Dp:TS:=fun D σ H=>D.ct σ H
theorem yL:PS X (.Pass pos) xg:=fun _ _ σ H _ I h=>wpAny_Pass ⟨σ,H,I,h⟩
theorem v7:PS X (.Break pos) Ao:=fun _ _ σ H _ I h=>wpAny_Break ⟨σ,H,I,h⟩
theorem qw:PS X (.Continue pos) Dp:=fun _ _ σ H _ I h=>wpAny_Continue ⟨σ,H,I,h⟩
theorem ai.quiet(I:ai X pins σ H s):interactive X.env=false:=by simp[interactive,I.ok.kind]
def Do(te:TE):TS:=fun D σ H=>te σ H fun _ H1=>D.nx σ H1
theorem iU(he:PE X e te)(hs:swapsWith e none pos.line X.env=pure false:=by rfl):PS X (.Expr e pos) (Do te):=by
 intro pins s σ H D I h
 exact wpAny_Expr_any (aH (he pins s σ H _ I h) fun v s1 ⟨x,H1,I1,r1,q1⟩=>⟨σ,H1,I1,q1⟩) I.quiet hs
def ES(te:TE):TS:=fun D σ H=>te σ H D.rt
theorem oG(he:PE X e te):PS X (.Return (some e) pos) (ES te):=by
 intro pins s σ H D I h
 exact wpAny_Return_some (aH (he pins s σ H _ I h) fun v s1 ⟨x,H1,I1,r1,q1⟩=>⟨x,σ,H1,I1,r1,q1⟩)
def Dl:TS:=fun D _ H=>D.rt .non H
theorem yK:PS X (.Return none pos) Dl:=fun _ _ σ H _ I h=>wpAny_Return_none ⟨.non,σ,H,I,rfl,h⟩
def EY(c:TT)(t u:TS):TS:=fun D σ H=>c σ H fun b H1=>if b=true then t D σ H1 else u D σ H1
theorem xq{a b:List Stmt}(hc:PT X c tc)(ha:ck X a t)(hb:ck X b u):PS X (.If c a b pos) (EY tc t u):=by
 intro pins s σ H D I h
 refine wpAny_If (aH (hc pins s σ H _ I h) fun d s1 ⟨H1,I1,q1⟩=>?_)
 cases d with
 | true=>exact ha pins s1 σ H1 D I1 q1
 | false=>exact hb pins s1 σ H1 D I1 q1
def An:TS:=fun _ _ _=>False
theorem eQ{sts:List Stmt}:ck X sts An:=fun _ _ _ _ _ _ h=>h.elim
end
abbrev TG:=V->St->Hp->(St->Hp->Prop)->Prop
abbrev lr:=List V->St->Hp->(St->Hp->Prop)->Prop
def PG(X:Cx)(target:Expr)(t:TG):Prop :=
 ∀(pins:List (Addr×Obj)) (s:Shared) (σ:St) (H:Hp) (v:V) (u:Value) (Q:St->Hp->Prop),ai X pins σ H s->aJ v u->t v σ H Q ->
  wpAny (model X.prog X.w) X.A (assign target X.env u) (fun _ s' => ∃σ' H',ai X pins σ' H' s'/\Q σ' H') X.xe s
def rK(X:Cx)(ts:List Expr)(t:lr):Prop :=
 ∀(pins:List (Addr×Obj)) (s:Shared) (σ:St) (H:Hp) (vs:List V) (us:List Value) (Q:St->Hp->Prop),ai X pins σ H s->av vs us->t vs σ H Q ->
  wpAny (model X.prog X.w) X.A (assignInOrder ((assignEach ts X.env).map (·.2)) us) (fun _ s' => ∃σ' H',ai X pins σ' H' s'/\Q σ' H') X.xe s
abbrev sW:=V->V->V->Hp->(Hp->Prop)->Prop
def wR(X:Cx)(t:sW):Prop :=
 ∀(pins:List (Addr×Obj)) (s:Shared) (σ:St) (H:Hp) (o i v:V) (ov iv u:Value) (Q:Hp->Prop),ai X pins σ H s->aJ o ov->aJ i iv->aJ v u->t o i v H Q ->
  wpAny (model X.prog X.w) X.A (setItem ov iv u) (fun _ s' => ∃H',ai X pins σ H' s'/\Q H') X.xe s
abbrev C8:=V->V->Hp->VK->Prop
def EH(X:Cx)(op:Operator)(t:C8):Prop :=
 ∀(pins:List (Addr×Obj)) (s:Shared) (σ:St) (H:Hp) (x y:V) (v u:Value) (Q:VK),ai X pins σ H s->aJ x v->aJ y u->t x y H Q ->
  wpAny (model X.prog X.w) X.A (inplaceOp op v u) (EP X pins σ Q) X.xe s
section
def xL(i:Nat):TG:=fun v σ H Q=>Q (σ.set i (some v)) H
theorem fj(hN:X.N.Nodup)(hi:X.N[i]?=some x)(hx:qe X.env.scope x)(hf:X.fn x=true\/X.env.scope.names.lookup x=some .local:=by first|exact .inl rfl|exact .inr rfl|assumption):PG X (.Name x pos) (xL i):=by
 intro pins s σ H v u Q I r h
 exact wpAny_assign_Name (dU I hN hi hx r (fun s' I'=>⟨_,H,I',h⟩) hf)
def Gc:lr:=fun vs σ H Q=>vs=[]/\Q σ H
def D2(t:TG)(u:lr):lr:=fun vs σ H Q => ∃v r,vs=v::r/\t v σ H fun σ' H'=>u r σ' H' Q
theorem qU:rK X [] Gc:=by
 intro pins s σ H vs us Q I r h
 obtain⟨e,h⟩:=h
 subst e
 cases r
 exact assignInOrder_nil ⟨σ,H,I,h⟩
theorem jN{t:TG}{u:lr}(h1:PG X e t)(h2:rK X es u)
  (hs:(assignEach (e::es) X.env).map (·.2)=assign e X.env::(assignEach es X.env).map (·.2):=by rfl):rK X (e::es) (D2 t u):=by
 intro pins s σ H vs us Q I r h
 obtain⟨v,vr,e1,h⟩:=h
 subst e1
 cases r with
 | cons r rr =>
  rw[hs]
  refine assignInOrder_cons (aH (h1 pins s σ H _ _ _ I r h) fun _ s1 ⟨σ1,H1,I1,q1⟩=>?_)
  exact h2 pins s1 σ1 H1 _ _ Q I1 rr q1
def Ga(K:W.Frag)(n:Nat)(t:lr):TG:=fun v σ H Q => ∃a xs,v=.ref a/\bg K H a xs/\xs.length=n/\t xs σ H Q
theorem oJ{t:lr}(hc:X.calm=true)(h:rK X es t)
  (hn:(assignEach es X.env).length=n:=by rfl) (hst:(assignEach es X.env).findIdx? (·.1)=none:=by rfl):PG X (.Tuple es k pos) (Ga X.K n t):=by
 intro pins s σ H v u Q I r hw
 obtain⟨a,xs,e1,hq,hl,hw⟩:=hw
 subst e1
 cases r
 obtain⟨its,rv,ht,hz⟩:=I.tuple hq
 refine assign_Tuple_tuple (I.ok.hd hc) ht (by simp[hn,<- hl,rv.length]) hst fun h' hx=>?_
 have I1:ai X pins σ H { s with heap:=h' }:=I.kept (t':=s.toks) fun b o e=>hx b o (Nat.ne_of_lt (Heap.lt_size e)) e
 exact h pins _ σ H xs _ Q I1 (by simpa using rv) hw
def Gb(to ti:TE)(t:sW):TG:=fun v σ H Q=>to σ H fun o H1=>ti σ H1 fun i H2=>t o i v H2 fun H3=>Q σ H3
theorem ui{o i:Expr}{to ti:TE}{t:sW}(ho:PE X o to)(hi:PE X i ti)(hs:wR X t)
  (ha:∀v,assign (.Subscript o i pos) X.env v=(do
   let ov <- holding [v] (eval o X.env)
   let iv <- holding [v,ov] (eval i X.env)
   standAt pos
   holding [v,ov,iv] (setItem ov iv v)
   release [v,ov,iv] []):=by intro _;rfl):PG X (.Subscript o i pos) (Gb to ti t):=by
 intro pins s σ H v u Q I r h
 rw[ha]
 refine wpAny_bind (wpAny_holding (aH (ho pins s σ H _ I h) fun ov s1 ⟨x,H1,I1,r1,q1⟩=>?_))
 refine wpAny_bind (wpAny_holding (aH (hi pins s1 σ H1 _ I1 q1) fun iv s2 ⟨y,H2,I2,r2,q2⟩=>?_))
 refine wpAny_bind (wpAny_standAt (wpAny_bind (wpAny_holding (aH (hs pins s2 σ H2 x y v ov iv u _ I2 r1 r2 r q2) fun _ s3 ⟨H3,I3,q3⟩=>?_))))
 exact wpAny_release ⟨σ,H3,I3,q3⟩
def Ap(te:TE)(g:TG):TS:=fun D σ H=>te σ H fun x H1=>g x σ H1 D.nx
theorem ij{g:TG}(he:PE X e te)(hg:PG X tg g)(hs:swapsWithSole [tg] e pos.line X.env=pure false:=by rfl)(hw:swappedStores [tg] e X.env=pure none:=by rfl)
  (h1:(assignEach [tg] X.env).map (·.2)=[assign tg X.env]:=by rfl):PS X (.Assign [tg] e pos) (Ap te g):=by
 intro pins s σ H D I h
 refine wpAny_Assign_stores (aH (he pins s σ H _ I h) fun v s1 ⟨x,H1,I1,r1,q1⟩=>?_) hs hw
 rw[h1]
 exact aH (hg pins s1 σ H1 x v _ I1 r1 q1) fun _ s2 q=>q
theorem uc(hN:X.N.Nodup)(hi:X.N[i]?=some x)(hx:qe X.env.scope x)(he:PE X e te)(hs:swapsWith e (some (.Name x pos')) pos.line X.env=pure false:=by rfl)(hf:X.fn x=true\/X.env.scope.names.lookup x=some .local:=by first|exact .inl rfl|exact .inr rfl|assumption) :
  PS X (.Assign [.Name x pos'] e pos) (Ap te (xL i)):=by
 intro pins s σ H D I h
 refine wpAny_Assign_Name (aH (he pins s σ H _ I h) fun v s1 ⟨y,H1,I1,r1,q1⟩=>?_) hs
 exact dU I1 hN hi hx r1 (fun s2 I2=>⟨_,H1,I2,q1⟩) hf
def ET(i j:Nat)(ta:TA):TS:=fun D σ H=>ta σ H fun vs H1 => ∃v w,vs=[v,w]/\D.nx ((σ.set i (some v)).set j (some w)) H1
theorem AT{y:Str}{a b:Expr}{px py pt:Pos}{kt k2 pt2}(hc:X.calm=true)(hN:X.N.Nodup)(hi:X.N[i]?=some x)(hj:X.N[j]?=some y)(hij:i≠j)
  (hx:X.env.scope.names.lookup x=some .local) (hy:X.env.scope.names.lookup y=some .local) (ha:PA X [a,b] ta)
  (hw:swappedStores [.Tuple [.Name x px,.Name y py] kt pt] (.Tuple [a,b] k2 pt2) X.env=pure (some [x,y]))
  (hs:swapsWithSole [.Tuple [.Name x px,.Name y py] kt pt] (.Tuple [a,b] k2 pt2) pos.line X.env=pure false:=by rfl) :
  PS X (.Assign [.Tuple [.Name x px,.Name y py] kt pt] (.Tuple [a,b] k2 pt2) pos) (ET i j ta):=by
 intro pins s σ H D I h
 rw[exec_Assign_arm]
 refine wpAny_bind (wpAny_standAt ?_)
 rw[hs]
 refine wpAny_bind (wpAny_pure ?_)
 rw[if_neg (by decide)]
 refine wpAny_bind (Tuple_ (aH (ha _ pins s σ H _ I h) fun us s1 ⟨vs,H1,I1,r1,q1⟩=>?_))
 obtain⟨v,w,e1,q1⟩:=q1
 subst e1
 obtain⟨u1,u2,rfl,rv,rw'⟩:∃u1 u2,us=[u1,u2]/\aJ v u1/\aJ w u2:=by
  cases r1 with
  | cons p q =>
   cases q with
   | cons p' q' =>
    cases q'
    exact⟨_,_,rfl,p,p'⟩
 refine wpAny_newObj_type ?_ (by show 2<=sizeLine;decide)
 have I2:ai X pins σ H1 { s1 with heap:=s1.heap.push { cls:=.type "tuple", data:=.seq [u1,u2].toArray } }:=I1.kept (t':=s1.toks) fun b o e=>Heap.get?_push_of_some _ e
 rw[hw]
 refine wpAny_bind (wpAny_pure ?_)
 show wpAny (model X.prog X.w) X.A (do rule "assign.swapped-stores"; let items <- unpackItems (.ref s1.heap.objs.size) 2 none;assignInOrder [fun v=>bindName X.env y v,fun v=>bindName X.env x v] items.reverse;pure Flow.next) _ _ _
 refine wpAny_bind (wpAny_rule (wpAny_bind (unpackItems_tuple (items:=#[u1,u2]) (I.ok.hd hc) (IsTup.new s1.heap _) fun h' hx'=>?_)))
 have I3:=I2.kept (h':=h') (t':=s1.toks) fun b o e=>hx' b o (Nat.ne_of_lt (Heap.lt_size e)) e
 show wpAny _ _ (assignInOrder [fun v=>bindName X.env y v,fun v=>bindName X.env x v] [u2,u1] >>= fun _=>pure Flow.next) _ _ _
 refine wpAny_bind (assignInOrder_cons (wpAny_bindName (dU I3 hN hj (.inl hy) rw' (fun s2 I4=>?_) (.inr hy))))
 refine assignInOrder_cons (wpAny_bindName (dU I4 hN hi (.inl hx) rv (fun s3 I5=>assignInOrder_nil (wpAny_pure ?_)) (.inr hx)))
 rw[List.set_comm _ _ (Ne.symm hij)]at I5
 exact⟨_,H1,I5,q1⟩
def Fa(i:Nat)(te:TE)(ti:C8):TS:=fun D σ H => ∃x,σ[i]?=some (some x)/\te σ H fun y H1=>ti x y H1 fun z H2=>D.nx (σ.set i (some z)) H2
theorem AU{ti:C8}(hN:X.N.Nodup)(hi:X.N[i]?=some x)(hx:qe X.env.scope x)(he:PE X e te)(ho:EH X op ti)(hf:X.fn x=true\/X.env.scope.names.lookup x=some .local:=by first|exact .inl rfl|exact .inr rfl|assumption) :
  PS X (.AugAssign (.Name x pos') op e pos) (Fa i te ti):=by
 intro pins s σ H D I h
 obtain⟨v,e1,h⟩:=h
 obtain⟨m,hn,hl⟩:=I.loc
 have vis:fL X.env.scope x:=by rcases hx with k|k;exact .inl k;exact .inr (.inl k)
 obtain⟨u,r,l⟩:=hl i x v hi e1 vis
 refine wpAny_AugAssign_Name ?_
 have go:wpAny (model X.prog X.w) X.A (eval e X.env) (fun w s₂=>wpAny (model X.prog X.w) X.A (inplaceOp op u w) (fun r s₃=>wpAny (model X.prog X.w) X.A (storeName X.env x r) (fun _=>SP X pins D .next) X.xe s₃) X.xe s₂) X.xe s:=by
  refine aH (he pins s σ H _ I h) fun w s1 ⟨y,H1,I1,r1,q1⟩=>?_
  refine aH (ho pins s1 σ H1 v y u w _ I1 r r1 q1) fun z s2 ⟨zv,H2,I2,r2,q2⟩=>?_
  exact dU I2 hN hi hx r2 (fun s3 I3=>⟨_,H2,I3,q2⟩) hf
 rcases l with⟨hk,hm⟩|⟨hk,c,hc,hcell⟩
 ·exact wpAny_loadName_local I.ok.kind hk hn hm go
 ·rcases hk with hk|hk
  ·exact wpAny_loadName_cell I.ok.kind hk hc hcell go
  ·rcases hx with k|k
   ·have:X.env.scope.names.lookup x=some .free:=hk
    rw[k]at this;cases this
   ·have:X.env.scope.names.lookup x=some .free:=hk
    rw[k]at this;cases this
end
section
def Al(c:TT)(tb:TS):TS:=fun D σ H => ∃W:Nat->St->Hp->Prop,(∃m,W m σ H)/\∀m σ H,W m σ H ->
 c σ H fun b H1=>if b=true then ∃N:St->Hp->Prop,(∀σ' H',N σ' H'->∃m',m' < m/\W m' σ' H')/\tb { D with nx:=N,ct:=N,bk:=D.nx } σ H1 else D.nx σ H1
theorem v6(hp:PassesOwn (model X.prog X.w) X.A X.env X.xe)(hc:PT X c tc)(hb:ck X body tb):PS X (.While c body [] pos) (Al tc tb):=by
 intro pins s σ H D I h
 obtain⟨W,⟨m0,w0⟩,turn⟩:=h
 refine wpAny_While (codeAny_whileLoop (fun n s' => ∃σ' H',ai X pins σ' H' s'/\W n σ' H') ?_ m0 ⟨σ,H,I,w0⟩)
 rintro n s1 ⟨σ1,H1,I1,w1⟩
 refine wpAny_passesOwn hp (aH (hc pins s1 σ1 H1 _ I1 (turn n σ1 H1 w1)) fun b s2 ⟨H2,I2,q2⟩=>?_)
 cases b with
 | true =>
  obtain⟨N,hN,q2⟩:=q2
  rw[if_pos rfl]
  refine wpAny_passesOwn hp (aH (hb pins s2 σ1 H2 _ I2 q2) fun f s3 q3=>?_)
  cases f with
  | next =>
   obtain⟨σ3,H3,I3,n3⟩:=q3
   obtain⟨m',hm,w3⟩:=hN σ3 H3 n3
   exact⟨m',hm,σ3,H3,I3,w3⟩
  | cont =>
   obtain⟨σ3,H3,I3,n3⟩:=q3
   obtain⟨m',hm,w3⟩:=hN σ3 H3 n3
   exact⟨m',hm,σ3,H3,I3,w3⟩
  | brk=>exact q3
  | ret v=>exact q3
 | false =>
  rw[if_neg Bool.false_ne_true]
  exact wpAny_execs_nil ⟨σ1,H2,I2,q2⟩
end
structure It where
 go:Nat->Hp->Prop
 yld:Nat->Hp->V->Hp->Prop
 stop:Nat->Hp->Prop
def gc(X:Cx)(pins:List (Addr×Obj))(H:Hp)(b:Addr):Prop :=
 H b=none/\b≠X.env.locals/\b∉X.fs/\(b∈X.ex\/X.s₀.heap.objs.size<=b)/\(∀x c,X.env.cells.lookup x=some c->c≠b)/\∀p∈X.pn++pins,p.1≠b
theorem ai.fpOk{H':Hp}(I:ai X pins σ H s)(hb:s.heap.objs.size<=b)(hn:H' b=none):gc X pins H' b:=by
 refine⟨hn,Nat.ne_of_gt (Nat.lt_of_lt_of_le I.lt hb),I.nofs hb,.inr (Nat.le_trans I.sz hb),fun x c e z=>?_,fun p hp z=>?_⟩
 ·obtain⟨v,q⟩:=I.cell x c e
  exact absurd (Nat.lt_of_lt_of_le q.lt (by rw[z];exact hb)) (Nat.lt_irrefl _)
 ·exact absurd (Nat.lt_of_lt_of_le (Heap.lt_size (I.pin p hp).1) (by rw[z];exact hb)) (Nat.lt_irrefl _)
structure Turn(P:Program)(w:World)(K:W.Frag)(tg:Expr)(J:It)(fp:List Addr)(it:Addr)(tn:Nat->Heap->Prop):Prop where
 mem:it∈fp
 obj:∀i h,tn i h->∀b∈fp,∃o,h.get? b=some o/\∀v,o.data ≠ .cell v
 keep:∀i h h',tn i h->(∀b∈fp,∀o,h.get? b=some o->h'.get? b=some o)->tn i h'
 item:∀(X:Cx),X.prog=P->X.w=w->X.K=K->X.calm=true->∀(i:Nat) (pins:List (Addr×Obj)) (s:Shared) (σ:St) (H:Hp) (E:Value->Shared->Prop),ai X pins σ H s->(∀b∈fp,gc X pins H b)->tn i s.heap->J.go i H ->
  wpAny (model P w) X.A (pyNext (.ref it)) (fun r s1 => ∃u,r=some u /\
   wpAny (model P w) X.A (letOwnedTupleGo tg (.ref it) u) (fun _ s2 => ∃x H',ai X pins σ H' s2/\aJ x u/\J.yld i H x H'/\tn (i+1) s2.heap/\∀b∈fp,H' b=none) E s1) E s
 done:∀(X:Cx),X.prog=P->X.w=w->X.K=K->X.calm=true->∀(i:Nat) (pins:List (Addr×Obj)) (s:Shared) (σ:St) (H:Hp) (E:Value->Shared->Prop),ai X pins σ H s->(∀b∈fp,gc X pins H b)->tn i s.heap->J.stop i H ->
  wpAny (model P w) X.A (pyNext (.ref it)) (fun r s1=>r=none/\ai X pins σ H s1) E s
 self:∀(A:Around) (i:Nat) (s:Shared) (Q:Value->Shared->Prop) (E:Value->Shared->Prop),tn i s.heap->Q (.ref it) s->wpAny (model P w) A (pyIter (.ref it)) Q E s
abbrev TI:=St->Hp->(It->Hp->Prop)->Prop
def C9(X:Cx)(pins:List (Addr×Obj))(σ:St)(tg:Expr)(R:It->Hp->Prop)(itv:Value)(s2:Shared):Prop :=
 ∃(it:Addr) (fp:List Addr) (tn:Nat->Heap->Prop) (J:It) (H':Hp),itv=.ref it/\ai X pins σ H' s2/\Turn X.prog X.w X.K tg J fp it tn/\tn 0 s2.heap/\(∀b∈fp,gc X pins H' b)/\R J H'
def PI(X:Cx)(tg iter:Expr)(wi:TI):Prop :=
 ∀(pins:List (Addr×Obj)) (s:Shared) (σ:St) (H:Hp) (R:It->Hp->Prop),ai X pins σ H s->wi σ H R ->
  wpAny (model X.prog X.w) X.A (eval iter X.env) (fun v s1=>wpAny (model X.prog X.w) X.A (pyIter v) (C9 X pins σ tg R) X.xe s1) X.xe s
theorem jc{n:String}{vs:Array Value}{Q:Unit->Shared->Prop}(ho:s.heap.get? it=some o)(hc:o.cls=.type n)(hd:o.data=.fields vs)
    (hn:["enumerate", "zip", "dict_itemiterator", "dict_reverseitemiterator", "odict_iterator", "itertools.zip_longest", "itertools.pairwise"].contains n=false) (hQ:Q () s):wpAny M A (letOwnedTupleGo tg (.ref it) u) Q E s:=by
  unfold letOwnedTupleGo
  cases tg<;>first
    | exact wpAny_pure hQ
    | (cases u<;>first
        | exact wpAny_pure hQ
        | (refine wpAny_bind (wpAny_load ho ?_)
           rw[hc,hd]
           show wpAny M A (if (["enumerate", "zip", "dict_itemiterator", "dict_reverseitemiterator", "odict_iterator", "itertools.zip_longest", "itertools.pairwise"].contains n&&vs[0]? == some (rawInt _))=true then _ else _) Q E s
           rw[if_neg (by intro h;rw[hn,Bool.false_and]at h;cases h)]
           exact wpAny_pure hQ))
def EJ(K:W.Frag)(a:Addr):It :=
 ⟨fun i H => ∃xs x,bM K H a xs/\xs[i]?=some x,fun i H x H'=>H'=H/\∀xs,bM K H a xs->xs[i]?=some x,fun i H => ∃xs,bM K H a xs/\xs.length<=i⟩
def EI(K:W.Frag)(a:Addr):It :=
 ⟨fun i H => ∃xs x,bg K H a xs/\xs[i]?=some x,fun i H x H'=>H'=H/\∀xs,bg K H a xs->xs[i]?=some x,fun i H => ∃xs,bg K H a xs/\xs.length<=i⟩
def ya(lo:Int)(n:Nat):It:=⟨fun i _=>i<n,fun i H x H'=>H'=H/\x=.int (lo+i),fun i _=>n<=i⟩
theorem tE(a it:Addr):Turn P w K tg (EJ K a) [it] it (fun i h=>h.IsListIter it a i) where
 mem:=by simp
 obj:=fun i h st b hb=>by
  have e:b=it:=by simpa using hb
  subst e
  obtain⟨o,e,c,d⟩:=st
  exact⟨o,e,fun v z=>by rw[d]at z;cases z⟩
 keep:=fun i h h' st k=>st.at fun o e=>k it (by simp) o e
 item:=by
  intro X hP hw hK hc i pins s σ H E I hf st hg
  subst hP hw hK
  obtain⟨xs,x,hq,hx⟩:=hg
  obtain⟨its,rv,p,hz⟩:=I.list hq
  obtain⟨u,hu,ru⟩:=rv.get hx
  obtain⟨f0,f1,f2,f3,f4,f5⟩:=hf it (by simp)
  refine wpAny_pyNext_list_item st p.isList (x:=u) (by simpa using hu) fun h' st' sb=>?_
  have I1:ai X pins σ H { s with heap:=h' }:=I.turned (t':=s.toks) (fun b o hb e=>(sb.2 b hb).trans e) f0 f1 f3 f4 f5
  obtain⟨o,e,c,d⟩:=id st'
  exact⟨u,rfl,jc (s:={ s with heap:=h' }) e c d (by decide) ⟨x,H,I1,ru,⟨rfl,fun ys hy=>by rw[I.list_inj hy hq];exact hx⟩,st',fun b hb=>(hf b hb).1⟩⟩
 done:=by
  intro X hP hw hK hc i pins s σ H E I hf st hg
  subst hP hw hK
  obtain⟨xs,hq,hx⟩:=hg
  obtain⟨its,rv,p,hz⟩:=I.list hq
  obtain⟨f0,f1,f2,f3,f4,f5⟩:=hf it (by simp)
  have hl:=rv.length
  exact wpAny_pyNext_list_end (I.ok.hd hc) st p.isList (by simp;omega) fun h' eb=>⟨rfl,I.turned (t':=s.toks) (fun b o hb e=>eb b o hb e) f0 f1 f3 f4 f5⟩
 self:=fun _ _ _ _ _ st h=>wpAny_pyIter_listiter st h
theorem rP(a it:Addr):Turn P w K tg (EI K a) [it] it (fun i h=>h.IsTupleIter it a i) where
 mem:=by simp
 obj:=fun i h st b hb=>by
  have e:b=it:=by simpa using hb
  subst e
  obtain⟨o,e,c,d⟩:=st
  exact⟨o,e,fun v z=>by rw[d]at z;cases z⟩
 keep:=fun i h h' st k=>st.at fun o e=>k it (by simp) o e
 item:=by
  intro X hP hw hK hc i pins s σ H E I hf st hg
  subst hP hw hK
  obtain⟨xs,x,hq,hx⟩:=hg
  obtain⟨its,rv,p,hz⟩:=I.tuple hq
  obtain⟨u,hu,ru⟩:=rv.get hx
  obtain⟨f0,f1,f2,f3,f4,f5⟩:=hf it (by simp)
  refine wpAny_pyNext_tuple_item st (show s.heap.IsTuple a its.toArray from p) (x:=u) (by simpa using hu) fun h' st' sb=>?_
  have I1:ai X pins σ H { s with heap:=h' }:=I.turned (t':=s.toks) (fun b o hb e=>(sb.2 b hb).trans e) f0 f1 f3 f4 f5
  obtain⟨o,e,c,d⟩:=id st'
  exact⟨u,rfl,jc (s:={ s with heap:=h' }) e c d (by decide) ⟨x,H,I1,ru,⟨rfl,fun ys hy=>by rw[I.tuple_inj hy hq];exact hx⟩,st',fun b hb=>(hf b hb).1⟩⟩
 done:=by
  intro X hP hw hK hc i pins s σ H E I hf st hg
  subst hP hw hK
  obtain⟨xs,hq,hx⟩:=hg
  obtain⟨its,rv,p,hz⟩:=I.tuple hq
  obtain⟨f0,f1,f2,f3,f4,f5⟩:=hf it (by simp)
  have hl:=rv.length
  exact wpAny_pyNext_tuple_end (I.ok.hd hc) st (show s.heap.IsTuple a its.toArray from p) (by simp;omega) fun h' eb=>⟨rfl,I.turned (t':=s.toks) (fun b o hb e=>eb b o hb e) f0 f1 f3 f4 f5⟩
 self:=fun _ _ _ _ _ st h=>wpAny_pyIter_tupleiter st h
theorem rQ(it:Addr)(lo:Int)(n:Nat):Turn P w K tg (ya lo n) [it] it (fun i h=>IsRangeIter h it (lo+(i:Nat)*1) ((n:Int)-(i:Nat)) 1) where
 mem:=by simp
 obj:=fun i h st b hb=>by
  have e:b=it:=by simpa using hb
  subst e
  exact⟨_,st,fun v z=>by
   have z':Data.fields _=Data.cell v:=z
   cases z'⟩
 keep:=fun i h h' st k=>k it (by simp) _ st
 item:=by
  intro X hP hw hK hc i pins s σ H E I hf st hg
  subst hP hw hK
  obtain⟨f0,f1,f2,f3,f4,f5⟩:=hf it (by simp)
  have W:=Walks.range (prog:=X.prog) (w:=X.w) (I.ok.hd hc) it lo 1 n
  refine W.item i s _ _ hg st fun v h' tk hv st' kk=>?_
  obtain⟨t,rfl⟩:=hv
  have I1:ai X pins σ H { s with heap:=h',toks:=tk }:=I.turned (fun b o hb e=>kk b o (by simpa using hb) e) f0 f1 f3 f4 f5
  refine⟨_,rfl,jc (s:={ s with heap:=h',toks:=tk }) (n := "range_iterator") st' rfl rfl (by decide) ⟨.int (lo+i),H,I1,⟨t,?_⟩,⟨rfl,rfl⟩,st',fun b hb=>(hf b hb).1⟩⟩
  rw[Int.mul_one]
 done:=by
  intro X hP hw hK hc i pins s σ H E I hf st hg
  subst hP hw hK
  obtain⟨f0,f1,f2,f3,f4,f5⟩:=hf it (by simp)
  exact wpAny_pyNext_range_end (I.ok.hd hc) st (by have:n<=i:=hg;omega) fun h' eb=>⟨rfl,I.turned (t':=s.toks) (fun b o hb e=>eb b o hb e) f0 f1 f3 f4 f5⟩
 self:=fun _ _ _ _ _ st h=>wpAny_pyIter_rangeiter st h
section
def DX(K:W.Frag)(tl:TE):TI:=fun σ H R=>tl σ H fun x H1 => ∃a,x=.ref a/\(∃xs,bM K H1 a xs)/\R (EJ K a) H1
def F7(K:W.Frag)(tl:TE):TI:=fun σ H R=>tl σ H fun x H1 => ∃a,x=.ref a/\(∃xs,bg K H1 a xs)/\R (EI K a) H1
theorem yS(hl:PE X l tl):PI X tg l (DX X.K tl):=by
 intro pins s σ H R I h
 refine aH (hl pins s σ H _ I h) fun v s1 ⟨x,H1,I1,r1,q1⟩=>?_
 obtain⟨a,e,⟨xs,hq⟩,q⟩:=q1
 subst e
 cases r1
 obtain⟨its,rv,p,hz⟩:=I1.list hq
 refine wpAny_pyIter_list p.isList ?_
 refine⟨s1.heap.objs.size,[s1.heap.objs.size],_,_,H1,rfl,I1.kept (t':=s1.toks) fun b o e=>Heap.get?_push_of_some _ e,tE a _,⟨_,Heap.get?_push_size _ rfl,rfl,rfl⟩,fun b hb=>?_,q⟩
 have e:b=s1.heap.objs.size:=by simpa using hb
 subst e
 exact I1.fpOk (Nat.le_refl _) (I1.hok.fresh (Nat.le_refl _))
theorem AW(hl:PE X l tl):PI X tg l (F7 X.K tl):=by
 intro pins s σ H R I h
 refine aH (hl pins s σ H _ I h) fun v s1 ⟨x,H1,I1,r1,q1⟩=>?_
 obtain⟨a,e,⟨xs,hq⟩,q⟩:=q1
 subst e
 cases r1
 obtain⟨its,rv,p,hz⟩:=I1.tuple hq
 refine wpAny_pyIter_tuple (show s1.heap.IsTuple a its.toArray from p) ?_
 refine⟨s1.heap.objs.size,[s1.heap.objs.size],_,_,H1,rfl,I1.kept (t':=s1.toks) fun b o e=>Heap.get?_push_of_some _ e,rP a _,⟨_,Heap.get?_push_size _ rfl,rfl,rfl⟩,fun b hb=>?_,q⟩
 have e:b=s1.heap.objs.size:=by simpa using hb
 subst e
 exact I1.fpOk (Nat.le_refl _) (I1.hok.fresh (Nat.le_refl _))
theorem oC{R:It->Hp->Prop}{lo hi:Int}{t u v:Tok}{tk:Nat}(I:ai X pins σ H s)(h1:-(2 ^ 62)<=lo)(h2:lo<2 ^ 62)(h3:-(2 ^ 62)<=hi)(h4:hi<2 ^ 62)
  (q:R (ya lo (hi-lo).toNat) H):wpAny (model X.prog X.w) X.A (pyIter (.ref s.heap.objs.size)) (C9 X pins σ tg R) E { s with heap:=s.heap.push { cls:=.type "range", data:=.fields #[.int lo t,.int hi u,.int 1 v] },toks:=tk }:=by
 refine wpAny_pyIter_range (IsRange.new ..) (small_one h1 h2 h3 h4) ?_
 have I1:ai X pins σ H { s with heap:=s.heap.push { cls:=.type "range", data:=.fields #[.int lo t,.int hi u,.int 1 v] },toks:=tk }:=I.kept fun b o e=>Heap.get?_push_of_some _ e
 refine⟨(s.heap.push { cls:=.type "range", data:=.fields #[.int lo t,.int hi u,.int 1 v] }).objs.size,[(s.heap.push { cls:=.type "range", data:=.fields #[.int lo t,.int hi u,.int 1 v] }).objs.size],_,_,H,rfl,
  I1.kept (t':=tk) fun b o e=>Heap.get?_push_of_some _ e,rQ _ lo (hi-lo).toNat,?_,fun b hb=>?_,q⟩
 ·have e1:lo+((0:Nat):Int)*1=lo:=by simp
  have e2:(((hi-lo).toNat:Nat):Int)-((0:Nat):Int)=Builtin.Range.rangeSize lo hi 1:=by rw[rangeSize_one];split<;>omega
  show IsRangeIter _ _ (lo+((0:Nat):Int)*1) ((((hi-lo).toNat:Nat):Int)-((0:Nat):Int)) 1
  rw[e1,e2]
  exact Heap.get?_push_size _ rfl
 ·have e:b=(s.heap.push { cls:=.type "range", data:=.fields #[.int lo t,.int hi u,.int 1 v] }).objs.size:=by simpa using hb
  subst e
  exact I1.fpOk (Nat.le_refl _) (I1.hok.fresh (Nat.le_refl _))
def DW(ta:TA):TI:=fun σ H R=>ta σ H fun vs H1 => ∃j:Int,vs=[.int j] /\ -(2 ^ 62)<=j/\j<2 ^ 62/\R (ya 0 j.toNat) H1
def DV(ta:TA):TI:=fun σ H R=>ta σ H fun vs H1 => ∃i j:Int,vs=[.int i,.int j]/\(-(2 ^ 62)<=i/\i<2 ^ 62 /\ -(2 ^ 62)<=j/\j<2 ^ 62)/\R (ya i (j-i).toNat) H1
theorem uh{a:Expr}(hg:Gl X "range")(hm:X.mg "range" = none)(ha:PA X [a] ta)(hs:starEach [a] X.env=[(false,eval a X.env)]:=by rfl):PI X tg (.Call (.Name "range" p) [a] [] pos) (DW ta):=by
 intro pins s σ H R I h
 refine Call_ (gp I hg hm boot_range (PyProof.Rows.callWith_type1 (aH (ha pos pins s σ H _ I h) fun us s1 ⟨vs,H1,I1,r1,q1⟩=>?_) hs rfl))
 obtain⟨j,e,q1,q2,q⟩:=q1
 subst e
 cases r1 with
 | cons r rr =>
  cases rr
  obtain⟨t,rfl⟩:=r
  exact call_range_1 (oC I1 (by omega) (by omega) q1 q2 (by simpa using q))
theorem ug{a b:Expr}(hg:Gl X "range")(hm:X.mg "range" = none)(ha:PA X [a,b] ta)(hs:starEach [a,b] X.env=[(false,eval a X.env),(false,eval b X.env)]:=by rfl)(hs2:starEach [b] X.env=[(false,eval b X.env)]:=by rfl) :
  PI X tg (.Call (.Name "range" p) [a,b] [] pos) (DV ta):=by
 intro pins s σ H R I h
 refine Call_ (gp I hg hm boot_range (PyProof.Rows.callWith_type1 (aH (ha pos pins s σ H _ I h) fun us s1 ⟨vs,H1,I1,r1,q1⟩=>?_) (by rw[hs,hs2]) (by rw[hs2];rfl)))
 obtain⟨i,j,e,⟨q1,q2,q3,q4⟩,q⟩:=q1
 subst e
 cases r1 with
 | cons r rr =>
  cases rr with
  | cons r' rr =>
   cases rr
   obtain⟨t,rfl⟩:=r
   obtain⟨t',rfl⟩:=r'
   exact call_range_2 (oC I1 q1 q2 q3 q4 q)
def EZ(wi:TI)(g:TG)(tb:TS):TS:=fun D σ H=>wi σ H fun J H1 => ∃W:Nat->Nat->St->Hp->Prop,(∃m,W 0 m σ H1)/\∀i m σ H,W i m σ H ->
 (J.stop i H/\D.nx σ H)\/(J.go i H/\∃N:St->Hp->Prop,(∀σ' H',N σ' H'->∃m',m' < m/\W (i+1) m' σ' H')/\∀x H',J.yld i H x H'->g x σ H' fun σ2 H2=>tb { D with nx:=N,ct:=N,bk:=D.nx } σ2 H2)
def ik(fp:List Addr)(h:Heap):List (Addr×Obj):=fp.filterMap fun b=>(h.get? b).map fun o=>(b,o)
theorem fe(hb:b∈fp)(e:h.get? b=some o):(b,o)∈ik fp h:=List.mem_filterMap.mpr ⟨b,hb,by rw[e];rfl⟩
theorem um{p:Addr×Obj}(hp:p∈ik fp h):p.1∈fp/\h.get? p.1=some p.2:=by
 obtain⟨b,hb,e⟩:=List.mem_filterMap.mp hp
 cases q:h.get? b with
 | none=>rw[q]at e;cases e
 | some o =>
  rw[q]at e
  have e':(b,o)=p:=Option.some.inj e
  subst e'
  exact⟨hb,q⟩
theorem ai.pinned(I:ai X pins σ H s)(hf:∀b∈fp,gc X pins H b)(ho:∀b∈fp,∃o,s.heap.get? b=some o/\∀v,o.data ≠ .cell v):ai X (pins++ik fp s.heap) σ H s :=
 I.pins_of fun p hp=>(List.mem_append.mp hp).elim (fun z=>I.pin p (List.mem_append_right _ z)) fun z=>by
  obtain⟨hb,e⟩:=um z
  obtain⟨f0,f1,f2,_⟩:=hf p.1 hb
  obtain⟨o,e',d⟩:=ho p.1 hb
  rw[e]at e';cases e'
  exact⟨e,f0,f1,f2,d⟩
theorem ai.unpinned{pl:List (Addr×Obj)}(I:ai X (pins++pl) σ H s):ai X pins σ H s:=I.pins_of fun p hp=>I.pin p (List.mem_append_right _ (List.mem_append_left _ hp))
theorem oH{iter:Expr}{wi:TI}{g:TG}(hp:PassesOwn (model X.prog X.w) X.A X.env X.xe)(hc:X.calm=true)(hi:PI X tg iter wi)(hg:PG X tg g)(hb:ck X body tb)
  (hs:∀x,foldedSetIterable iter X.env x=pure x:=by intro _;rfl):PS X (.For tg iter body [] pos) (EZ wi g tb):=by
 intro pins s σ H D I h
 refine wpAny_For (aH (hi pins s σ H _ I h) fun v s1 h1=>aH h1 fun itv s2 h2=>?_) hs
 obtain⟨it,fp,tn,J,H2,e,I2,T,st2,f2,W,⟨m0,w0⟩,turn⟩:=h2
 subst e
 have stat:∀{H':Hp},(∀b∈fp,H' b=none)->∀b∈fp,gc X pins H' b:=fun hn b hb=>⟨hn b hb,(f2 b hb).2⟩
 refine codeAny_forLoop_any (fun n s' => ∃i σ' H',ai X pins σ' H' s'/\tn i s'.heap/\(∀b∈fp,H' b=none)/\W i n σ' H') ?_ m0 ⟨0,σ,H2,I2,st2,fun b hb=>(f2 b hb).1,w0⟩
 rintro n s3 ⟨i,σ3,H3,I3,st3,fr3,w3⟩
 rcases turn i n σ3 H3 w3 with⟨stop,qn⟩|⟨go,N,hN,step⟩
 ·refine wpAny_passesOwn hp (aH (T.done X rfl rfl rfl hc i pins s3 σ3 H3 X.xe I3 (stat fr3) st3 stop) fun r s4 ⟨hr,I4⟩=>?_)
  subst hr
  exact wpAny_execs_nil ⟨σ3,H3,I4,qn⟩
 ·refine wpAny_passesOwn hp (aH (T.item X rfl rfl rfl hc i pins s3 σ3 H3 X.xe I3 (stat fr3) st3 go) fun r s4 ⟨u,hr,h4⟩=>?_)
  subst hr
  refine wpAny_passesOwn hp (aH h4 fun _ s5 ⟨x,H5,I5,r5,y5,st5,fr5⟩=>?_)
  have I5':=I5.pinned (stat fr5) (T.obj _ _ st5)
  refine wpAny_passesOwn hp (aH (hg _ s5 σ3 H5 x u _ I5' r5 (step x H5 y5)) fun _ s6 ⟨σ6,H6,I6,q6⟩=>?_)
  refine wpAny_passesOwn hp (aH (hb _ s6 σ6 H6 _ I6 q6) fun f s7 q7=>?_)
  have again:∀{σ7:St} {H7:Hp},ai X (pins++ik fp s5.heap) σ7 H7 s7->N σ7 H7->∃m,m<n/\∃i σ' H',ai X pins σ' H' s7/\tn i s7.heap/\(∀b∈fp,H' b=none)/\W i m σ' H':=fun {σ7 H7} I7 n7=>by
   obtain⟨m',hm,w7⟩:=hN σ7 H7 n7
   refine⟨m',hm,i+1,σ7,H7,I7.unpinned,T.keep _ _ _ st5 fun b hb o e=>(I7.pin (b,o) (List.mem_append_right _ (List.mem_append_right _ (fe hb e)))).1,fun b hb=>?_,w7⟩
   obtain⟨o,e,d⟩:=T.obj _ _ st5 b hb
   exact(I7.pin (b,o) (List.mem_append_right _ (List.mem_append_right _ (fe hb e)))).2.1
  cases f with
  | next=>obtain⟨σ7,H7,I7,n7⟩:=q7;exact again I7 n7
  | cont=>obtain⟨σ7,H7,I7,n7⟩:=q7;exact again I7 n7
  | brk=>obtain⟨σ7,H7,I7,q7⟩:=q7;exact⟨σ7,H7,I7.unpinned,q7⟩
  | ret v=>obtain⟨x7,σ7,H7,I7,r7,q7⟩:=q7;exact⟨x7,σ7,H7,I7.unpinned,r7,q7⟩
end
abbrev R2:=V->V->Hp->VK->Prop
def bC(X:Cx)(f:Value->Value->Sem Value)(r:R2):Prop :=
 ∀(pins:List (Addr×Obj)) (s:Shared) (σ:St) (H:Hp) (x y:V) (v u:Value) (Q:VK),ai X pins σ H s->aJ x v->aJ y u->r x y H Q ->
  wpAny (model X.prog X.w) X.A (f v u) (EP X pins σ Q) X.xe s
def C6(X:Cx)(f:Value->Sem Value)(r:V->Hp->VK->Prop):Prop :=
 ∀(pins:List (Addr×Obj)) (s:Shared) (σ:St) (H:Hp) (x:V) (v:Value) (Q:VK),ai X pins σ H s->aJ x v->r x H Q ->
  wpAny (model X.prog X.w) X.A (f v) (EP X pins σ Q) X.xe s
def dH(X:Cx)(f:Value)(r:List V->Hp->VK->Prop):Prop :=
 ∀(pins:List (Addr×Obj)) (s:Shared) (σ:St) (H:Hp) (xs:List V) (us:List Value) (Q:VK),ai X pins σ H s->av xs us->r xs H Q ->
  wpAny (model X.prog X.w) X.A (call f us) (EP X pins σ Q) X.xe s
def Et(r:R2)(ta tb:TE):TE:=fun σ H Q=>ta σ H fun x H1=>tb σ H1 fun y H2=>r x y H2 Q
def GM(r:V->Hp->VK->Prop)(ta:TE):TE:=fun σ H Q=>ta σ H fun x H1=>r x H1 Q
def rI(C:Int->Int->Prop)(g:Int->Int->V):R2:=fun x y H Q => ∃i j,x=.int i/\y=.int j/\C i j/\Q (g i j) H
def fP(g:Int->Int->V):R2:=fun x y H Q => ∃i j,x=.int i/\y=.int j/\Q (g i j) H
def rU(g:Int->V):V->Hp->VK->Prop:=fun x H Q => ∃i,x=.int i/\Q (g i) H
section
variable{a b:Expr}{ta tb tc:TE}
theorem CT(ha:PE X a ta)(hb:PE X b tb)(I:ai X pins σ H s)
  (h:ta σ H fun x H1=>tb σ H1 fun y H2=>R x y H2)
  (hf:∀v u s2 x y H2,ai X pins σ H2 s2->aJ x v->aJ y u->R x y H2->wpAny (model X.prog X.w) X.A (f v u) Q X.xe s2) :
  wpAny (model X.prog X.w) X.A (eval a X.env) (fun v s₁=>wpAny (model X.prog X.w) X.A (eval b X.env) (fun u s₂=>wpAny (model X.prog X.w) X.A (f v u) Q X.xe s₂) X.xe s₁) X.xe s:=by
 refine aH (ha pins s σ H _ I h) fun v s1 ⟨x,H1,I1,r1,q1⟩=>?_
 refine aH (hb pins s1 σ H1 _ I1 q1) fun u s2 ⟨y,H2,I2,r2,q2⟩=>?_
 exact hf v u s2 x y H2 I2 r1 r2 q2
theorem DD{r:R2}(ho:bC X (binaryOp op) r)(ha:PE X a ta)(hb:PE X b tb):PE X (.BinOp a op b pos) (Et r ta tb):=by
 intro pins s σ H Q I h
 exact wpAny_BinOp (CT ha hb I h fun v u s2 x y H2 I2 rx ry q=>ho pins s2 σ H2 x y v u Q I2 rx ry q)
theorem DC{op:UnaryOp}{r:V->Hp->VK->Prop}(ho:C6 X (unaryOp op) r)(ha:PE X a ta):PE X (.UnaryOp op a pos) (GM r ta):=by
 intro pins s σ H Q I h
 exact UnaryOp_ (aH (ha pins s σ H _ I h) fun v s1 ⟨x,H1,I1,r1,q1⟩=>ho pins s1 σ H1 x v Q I1 r1 q1)
theorem oN{C:Int->Int->Prop}
  (rule:∀(i j:Int) (t u:Tok) (s:Shared) (Q:Value->Shared->Prop) (E:Value->Shared->Prop),C i j->Q (.int (g i j) s.toks) { s with toks:=s.toks+1 }->wpAny (model X.prog X.w) X.A (f (.int i t) (.int j u)) Q E s) :
  bC X f (rI C fun i j=>.int (g i j)):=by
 intro pins s σ H x y v u Q I rx ry h
 obtain⟨i,j,rfl,rfl,hc,q⟩:=h
 obtain⟨t,rfl⟩:=rx
 obtain⟨t',rfl⟩:=ry
 exact rule i j t t' s _ _ hc ⟨.int (g i j),H,I.tok _,⟨_,rfl⟩,q⟩
theorem lL
  (rule:∀(i j:Int) (t u:Tok) (s:Shared) (Q:Value->Shared->Prop) (E:Value->Shared->Prop),Q (.int (g i j) s.toks) { s with toks:=s.toks+1 }->wpAny (model X.prog X.w) X.A (f (.int i t) (.int j u)) Q E s) :
  bC X f (fP fun i j=>.int (g i j)):=by
 intro pins s σ H x y v u Q I rx ry h
 obtain⟨i,j,rfl,rfl,q⟩:=h
 obtain⟨t,rfl⟩:=rx
 obtain⟨t',rfl⟩:=ry
 exact rule i j t t' s _ _ ⟨.int (g i j),H,I.tok _,⟨_,rfl⟩,q⟩
theorem sw{g:Int->Int->Bool}
  (rule:∀(i j:Int) (t u:Tok) (s:Shared) (Q:Value->Shared->Prop) (E:Value->Shared->Prop),Q (.bool (g i j)) s->wpAny (model X.prog X.w) X.A (f (.int i t) (.int j u)) Q E s) :
  bC X f (fP fun i j=>.bl (g i j)):=by
 intro pins s σ H x y v u Q I rx ry h
 obtain⟨i,j,rfl,rfl,q⟩:=h
 obtain⟨t,rfl⟩:=rx
 obtain⟨t',rfl⟩:=ry
 exact rule i j t t' s _ _ ⟨.bl (g i j),H,I,rfl,q⟩
def GI(i j:Int):Prop:=0<=j/\j<=1000000/\i.natAbs<2 ^ 64
theorem rO(k:Nat):(0:Int)<=2 ^ k:=by
 rw[two_pow_cast]
 exact Int.natCast_nonneg _
theorem Bm:bC X (binaryOp .Add) (fP fun i j=>.int (i+j)):=lL fun _ _ _ _ _ _ _ q=>add_int q
theorem Bi:bC X (binaryOp .Sub) (fP fun i j=>.int (i-j)):=lL fun _ _ _ _ _ _ _ q=>sub_int q
theorem y8:bC X (binaryOp .Mod) (rI (fun _ j=>j≠0) fun i j=>.int (i.fmod j)):=oN fun _ _ _ _ _ _ _ hc q=>mod_int' hc q
theorem Bj:bC X (binaryOp .Pow) (rI GI fun i j=>.int (i ^ j.toNat)):=oN fun _ _ _ _ _ _ _ hc q=>pow_int_small hc.1 hc.2.1 hc.2.2 q
theorem op_shr:bC X (binaryOp .RShift) (rI (fun _ j=>0<=j) fun i j=>.int (i / 2 ^ j.toNat)):=oN fun i j _ _ _ _ _ hc q =>
 rshift_int hc (by rw[Int.fdiv_eq_ediv_of_nonneg i (rO _)];exact q)
theorem op_and:bC X (binaryOp .BitAnd) (fP fun i j=>.int (Builtin.bitAnd i j)):=lL fun _ _ _ _ _ _ _ q=>and_int q
theorem op_xor:bC X (binaryOp .BitXor) (fP fun i j=>.int (Builtin.bitXor i j)):=lL fun _ _ _ _ _ _ _ q=>xor_int q
theorem zw:bC X (inplaceOp .Add) (fP fun i j=>.int (i+j)):=lL fun _ _ _ _ _ _ _ q=>iadd_int q
theorem zu:bC X (inplaceOp .Sub) (fP fun i j=>.int (i-j)):=lL fun _ _ _ _ _ _ _ q=>isub_int q
theorem GK{f:Value->Sem Value}{g:Int->Int}
  (rule:∀(i:Int) (t:Tok) (s:Shared) (Q:Value->Shared->Prop) (E:Value->Shared->Prop),Q (.int (g i) s.toks) { s with toks:=s.toks+1 }->wpAny (model X.prog X.w) X.A (f (.int i t)) Q E s) :
  C6 X f (rU fun i=>.int (g i)):=by
 intro pins s σ H x v Q I rx h
 obtain⟨i,rfl,q⟩:=h
 obtain⟨t,rfl⟩:=rx
 exact rule i t s _ _ ⟨.int (g i),H,I.tok _,⟨_,rfl⟩,q⟩
theorem Af:C6 X (unaryOp .USub) (rU fun i=>.int (-i)):=GK fun _ _ _ _ _ q=>neg_int q
end
section
variable{a b:Expr}{ta tb tc:TE}
theorem u5{Q:VK}{k k':Bool}(I:ai X pins σ H s)(q:Q (.bl k) H)(e:k=k'):EP X pins σ Q (.bool k') s:=by
 subst e
 exact⟨.bl k,H,I,rfl,q⟩
theorem DF:bC X (compareOp .Lt) (fP fun i j=>.bl (decide (i<j))):=sw fun _ _ _ _ _ _ _ q=>lt_int q
theorem DG:bC X (compareOp .LtE) (fP fun i j=>.bl (decide (i<=j))):=sw fun _ _ _ _ _ _ _ q=>le_int q
theorem DH:bC X (compareOp .Gt) (fP fun i j=>.bl (decide (j<i))):=sw fun _ _ _ _ _ _ _ q=>gt_int q
theorem DI:bC X (compareOp .GtE) (fP fun i j=>.bl (decide (j<=i))):=sw fun _ _ _ _ _ _ _ q=>ge_int q
theorem Bl:bC X (compareOp .Is) (fun x y H Q=>y=.non/\Q (.bl (decide (x=.non))) H):=by
 intro pins s σ H x y v u Q I rx ry h
 obtain⟨rfl,q⟩:=h
 cases ry
 refine is_none_gen (u5 I q ?_)
 cases x<;>first
  | (cases rx;rfl)
  | (obtain⟨t,rfl⟩:=rx;rfl)
theorem y4:bC X (compareOp .IsNot) (fun x y H Q=>y=.non/\Q (.bl (!decide (x=.non))) H):=by
 intro pins s σ H x y v u Q I rx ry h
 obtain⟨rfl,q⟩:=h
 cases ry
 refine isnot_none_gen (u5 I q ?_)
 cases x<;>first
  | (cases rx;rfl)
  | (obtain⟨t,rfl⟩:=rx;rfl)
def Dk(t:TE):TT:=fun σ H Q=>t σ H fun x H' => ∃k,x=.bl k/\Q k H'
def tK(r r':R2)(ta tb tc:TE):TE:=fun σ H Q=>ta σ H fun x H1=>tb σ H1 fun y H2=>r x y H2 fun z H3 => ∃k,z=.bl k /\
 (if k=true then tc σ H3 fun w' H4=>r' y w' H4 Q else Q (.bl false) H3)
theorem wa{op:CmpOp}{r r':R2}(ho:bC X (compareOp op) r)(ho':bC X (compareOp op') r')(ha:PE X a ta)(hb:PE X b tb)(hc:PE X c tc)
  (hm:lastMarks [op,op'] [b,c]=false:=by with_unfolding_all rfl):PE X (.Compare a [op,op'] [b,c] pos) (tK r r' ta tb tc):=by
 intro pins s σ H Q I h
 refine Compare_chain (aH (ha pins s σ H _ I h) fun v s1 ⟨x,H1,I1,r1,q1⟩=>chain_link (aH (hb pins s1 σ H1 _ I1 q1) fun u s2 ⟨y,H2,I2,r2,q2⟩ =>
  aH (ho pins s2 σ H2 x y v u _ I2 r1 r2 q2) fun d s3 ⟨z,H3,I3,r3,k,e,q3⟩=>?_)) hm
 subst e
 cases r3
 refine wpAny_truthy_bool ?_
 cases k with
 | false=>exact ite_ff ⟨.bl false,H3,I3,rfl,q3⟩
 | true=>exact ite_tt (chain_last (aH (hc pins s3 σ H3 _ I3 q3) fun w' s4 ⟨z',H4,I4,r4,q4⟩=>ho' pins s4 σ H4 y z' u w' Q I4 r2 r4 q4))
theorem v5{op:CmpOp}{r r':R2}(ho:bC X (compareOp op) r)(ho':bC X (compareOp op') r')(ha:PE X a ta)(hb:PE X b tb)(hc:PE X c tc)
  (hm:lastMarks [op,op'] [b,c]=false:=by with_unfolding_all rfl):PT X (.Compare a [op,op'] [b,c] pos) (Dk (tK r r' ta tb tc)):=by
 intro pins s σ H Q I h
 refine isTrue_chain (aH (ha pins s σ H _ I h) fun v s1 ⟨x,H1,I1,r1,q1⟩=>test_link (aH (hb pins s1 σ H1 _ I1 q1) fun u s2 ⟨y,H2,I2,r2,q2⟩ =>
  aH (ho pins s2 σ H2 x y v u _ I2 r1 r2 q2) fun d s3 ⟨z,H3,I3,r3,k,e,q3⟩=>?_)) hm
 subst e
 cases r3
 refine wpAny_truthy_bool ?_
 cases k with
 | false =>
  obtain⟨k',e',q'⟩:=q3
  cases e'
  exact ite_ff ⟨H3,I3,q'⟩
 | true =>
  refine ite_tt (test_last (aH (hc pins s3 σ H3 _ I3 q3) fun w' s4 ⟨z',H4,I4,r4,q4⟩=>aH (ho' pins s4 σ H4 y z' u w' _ I4 r2 r4 q4) fun d' s5 ⟨z2,H5,I5,r5,k2,e2,q5⟩=>?_))
  subst e2
  cases r5
  exact wpAny_truthy_bool ⟨H5,I5,q5⟩
theorem kK:(sizeLine:Nat)<2 ^ 63:=by rw[sizeLine_eq];decide
theorem sv:bC X (binaryOp .Add) (fun x y H Q => ∃i j,x=.str i/\y=.str j/\i.length+j.length<=sizeLine/\Q (.str (i++j)) H):=by
 intro pins s σ H x y v u Q I rx ry h
 obtain⟨i,j,rfl,rfl,hz,q⟩:=h
 obtain⟨t,rfl⟩:=rx
 obtain⟨t',rfl⟩:=ry
 exact add_str (fun t' tk=>⟨.str (i++j),H,I.tok _,⟨_,rfl⟩,q⟩) hz
theorem nC{x:V}(r:av [x] us):∃u,us=[u]/\aJ x u:=by
 cases r with
 | cons r1 r2=>cases r2;exact⟨_,rfl,r1⟩
theorem nB{x:V}(r:av [x,y] us):∃u w',us=[u,w']/\aJ x u/\aJ y w':=by
 cases r with
 | cons r1 r2 =>
  cases r2 with
  | cons r3 r4=>cases r4;exact⟨_,_,rfl,r1,r3⟩
end
structure pZ(h:Heap)(x dx C:Addr)(mA:Str->Option Value):Prop where
 obj:h.get? x=some (W.instObj C dx)
 ns:h.Ns1 dx mA
 ne:dx≠x
theorem mX(n:h.Ns1 dx mA):∃od,h.get? dx=some od/\∀name,W.lookIn name od=some (mA name):=by
 obtain⟨o,es,ep,ho,hd,hk,_,hm⟩:=n
 refine⟨o,ho,fun name=>?_⟩
 have e:=hm name
 unfold nsFind findBy at e
 rw[<- Array.find?_toList]at e
 unfold W.lookIn
 rw[hd]
 dsimp only
 split
 ·rename_i y q
  rw[q]at e
  exact congrArg some e
 ·rename_i q
  rw[q]at e
  have a:es.toList.any (·.refKey)=false:=by
   rw[List.any_eq_false]
   intro y hy
   obtain⟨z,t,hkey⟩:=hk y (Array.mem_toList_iff.mp hy)
   simp[DictEntry.refKey,hkey]
  have a':¬ es.toList.any (·.refKey)=true:=by rw[a];exact Bool.false_ne_true
  rw[if_neg a']
  exact congrArg some e
theorem pZ.look{x:Addr}(I:pZ h x dx C mA):∃od,W.InstAt h x (W.instObj C dx) C (some od)/\∀name,W.lookIn name od=some (mA name) :=
 let ⟨od,ho,hl⟩:=mX I.ns
 ⟨od,⟨I.obj,rfl,rfl,ho⟩,hl⟩
section
variable{prog:Program}{x f:Addr}{name:Str}{v:Value}
theorem zz{expr:Bool}(X:K.In s.heap)(I:pZ s.heap x dx C mA)(hg:W.plainGet K C name=true)(hh:W.hasDictIn K C=true)
  (ha:W.findIn K (.ref C) name=some none) (hv:mA name=some v) (hv':W.handedIn v=true) (h:Q v { s with toks:=s.toks+1 }) :
  wpAny (model prog w) A (getAttr (.ref x) name expr) Q E s:=by
 obtain⟨od,J,hl⟩:=I.look
 exact W.get_value X J (W.plainGet_of hg).1 (W.findObj_own hh ha rfl (by rw[hl,hv])) hv' h
theorem wx{Q:Value×List Value->Shared->Prop}(X:K.In s.heap)(I:pZ s.heap x dx C mA)(hg:W.plainGet K C name=true)
  (hf:W.findIn K (.ref C) name=some (some (.ref f))) (ht:W.isFn K (.ref f)=true) (hv:mA name=none) (h:Q (.ref f,[.ref x]) s) :
  wpAny (model prog w) A (getMethod (.ref x) name pl) Q E s:=by
 obtain⟨od,J,hl⟩:=I.look
 exact W.method_fn X J (W.plainGet_of hg).1 (W.plainGet_of hg).2 hf (beq_iff_eq.mp ht) (by show(W.lookIn name od).map (·.isSome)=some false;rw[hl,hv];rfl) h
theorem oW{R:Result->Shared->Prop}{vs:List Value}(X:K.In s.heap)(hm:W.makesIn K C=true)
  (hi:W.findIn K (.ref C) "__init__" = some (some (.ref f))) (hf:W.typeIn K (.ref f)=some (.type "function"))
  (h:codeAny (model prog w) (A.under (.builtin "type.__call__" ⟨.ref C::vs,kw⟩)) (.call (.ref f) ⟨.ref (s.heap.objs.size+1)::vs,kw⟩) (W.InitBack (s.heap.objs.size+1) R)
   { s with heap:=(s.heap.push W.emptyDict).push (W.instObj C s.heap.objs.size) }) :
  codeAny (model prog w) A (.call (.ref C) ⟨vs,kw⟩) R s:=by
 obtain⟨hh,g,d,t,os⟩:=s
 exact W.make_core (W.makes_of X hm) (W.looks_findIn X hi) (fun self=>W.bind_fn X self hf) (.inl rfl) h
end
theorem cS.some_of{o:Option Value}(r:cS (some v) o):∃u,o=some u/\aJ v u:=by
 cases o with
 | none=>exact(show False from r).elim
 | some u=>exact⟨u,rfl,r⟩
theorem cS.none_of{o:Option Value}(r:cS none o):o=none:=by
 cases o with
 | none=>rfl
 | some u=>exact(show False from r).elim
theorem m7(r:aJ v u):W.handedIn u=true:=by
 cases v with
 | non=>cases (show u=Value.none from r);rfl
 | bl b=>cases (show u=Value.bool b from r);rfl
 | int i=>obtain⟨t,e⟩:=(show ∃t,u=Value.int i t from r);cases e;rfl
 | str x=>obtain⟨t,e⟩:=(show ∃t,u=Value.str x t from r);cases e;rfl
 | byt b=>obtain⟨t,e⟩:=(show ∃t,u=Value.bytes b t from r);cases e;rfl
 | flt b=>obtain⟨t,e⟩:=(show ∃t,u=Value.float b t from r);cases e;rfl
 | ref a=>cases (show u=Value.ref a from r);rfl
 | ty n=>cases (show u=Value.type n from r);rfl
section
variable{H':Hp}{h':Heap}{fs fs':List (Str×V)}
theorem lZ(hok:bE P w H h)(e:H a=some (.ins C dx fs)):∃mA,pZ h a dx C mA/\(∀f,cS (fs.lookup f) (mA f))/\PySem.Within mA (fs.map (·.1))/\fs.length<=1000/\H dx=some (.own a):=by
 obtain⟨d,z,ne,ob,mA,n,r,q⟩:=(show aR P w H h a (.ins C dx fs)from hok a _ e)
 exact⟨mA,⟨ob,n,ne⟩,r,q,z,d⟩
end
structure dR(K:W.Frag)(C:Addr):Prop where
 pg:W.plainGet K C Str.empty=true
 hd:W.hasDictIn K C=true
 po:W.plainOver K C=true
 sa:W.findIn K (.ref C) "__setattr__" = some (some (.builtin "object.__setattr__"))
theorem dR.get(c:dR K C)(f:Str):W.plainGet K C f=true:=c.pg
def lu(K:W.Frag)(C:Addr)(f:Str):Prop:=W.findIn K (.ref C) f=some none
structure qc(K:W.Frag)(C:Addr)(m:Str)(f:Addr):Prop where
 at_:W.findIn K (.ref C) m=some (some (.ref f))
 fn:W.isFn K (.ref f)=true
 kp:W.keepIn K (.ref f)=true
section
variable{fs:List (Str×V)}{f:Str}
theorem sK{b:Bool}(I:ai X pins σ H s)(e:H a=some (.ins C dx fs))(c:dR X.K C)(n:lu X.K C f)(l:fs.lookup f=some v)
  (h:∀u s',ai X pins σ H s'->aJ v u->Q u s'):wpAny (model X.prog X.w) A (getAttr (.ref a) f b) Q E s:=by
 obtain⟨mA,O,r,_,_,_⟩:=lZ I.hok e
 obtain⟨u,hu,ru⟩:=cS.some_of (v:=v) (o:=mA f) (by rw[<- l];exact r f)
 exact zz I.kIn O (c.get f) c.hd n hu (m7 ru) (h u _ (I.tok _) ru)
theorem kP{m:Str}{g:Addr}{Q:Value×List Value->Shared->Prop}(I:ai X pins σ H s)(e:H a=some (.ins C dx fs))(c:dR X.K C)(k:qc X.K C m g)(l:fs.lookup m=none)
  (h:Q (.ref g,[.ref a]) s):wpAny (model X.prog X.w) A (getMethod (.ref a) m pl) Q E s:=by
 obtain⟨mA,O,r,_,_,_⟩:=lZ I.hok e
 have hn:mA m=none:=cS.none_of (by rw[<- l];exact r m)
 exact wx I.kIn O (c.get m) k.at_ k.fn hn h
theorem ai.made(I:ai X pins σ H s):ai X pins σ (az (az H s.heap.objs.size (.own (s.heap.objs.size+1))) (s.heap.objs.size+1) (.ins C s.heap.objs.size []))
  { s with heap:=(s.heap.push W.emptyDict).push (W.instObj C s.heap.objs.size) }:=by
 have e1:(s.heap.push W.emptyDict).get? s.heap.objs.size=some W.emptyDict:=Heap.get?_push_size s.heap rfl
 have e2:((s.heap.push W.emptyDict).push (W.instObj C s.heap.objs.size)).get? (s.heap.objs.size+1)=some (W.instObj C s.heap.objs.size):=by
  have:=Heap.get?_push_size (s.heap.push W.emptyDict) (o:=W.instObj C s.heap.objs.size) rfl
  rwa [Heap.size_push]at this
 have e3:(s.heap.push W.emptyDict).Ns s.heap.objs.size (fun _=>none):=⟨W.emptyDict,#[],_,e1,rfl,(fun e he=>absurd he (by simp)),fun _=>rfl⟩
 have I1:=I.laid (a:=s.heap.objs.size) (o:=.own (s.heap.objs.size+1)) (h':=s.heap.push W.emptyDict) (t':=s.toks) (fun b u q=>Heap.get?_push_of_some _ q) (Nat.le_refl _) ⟨_,e1⟩
 refine I1.laid (a:=s.heap.objs.size+1) (o:=.ins C s.heap.objs.size []) (t':=s.toks) (fun b u q=>Heap.get?_push_of_some _ q) (Nat.le_of_eq (Heap.size_push _ _)) ?_
 have ne:s.heap.objs.size≠s.heap.objs.size+1:=Nat.ne_of_lt (Nat.lt_succ_self _)
 refine⟨by rw[al ne,aD],Nat.zero_le _,ne,e2,fun _=>none,(Heap.Ns1.of_empty e3).at fun o q=>Heap.get?_push_of_some _ q,fun _=>True.intro,fun y hy=>absurd rfl hy⟩
theorem rF{prog:Program}{env:Env}{f:Str}(hb:attributeBase e f env (eval e env)=eval e env)
  (h:wpAny (model prog w) A (eval e env) (fun o s₁=>wpAny (model prog w) A (getAttr o f true) Q E s₁) E s):wpAny (model prog w) A (eval (.Attribute e f pos) env) Q E s :=
 Attribute_any_ h (by rw[arm_eval_Attribute,hb])
end
def E6(K:W.Frag)(ta:TE)(f:Str):TE:=fun σ H Q=>ta σ H fun x H1 => ∃a C dx fs v,x=.ref a/\H1 a=some (.ins C dx fs)/\dR K C/\lu K C f/\fs.lookup f=some v/\Q v H1
section
variable{o value:Expr}{f:Str}{tpos:Pos}{ta tv:TE}
theorem A8(he:PE X e ta)(hb:attributeBase e f X.env (eval e X.env)=eval e X.env):PE X (.Attribute e f pos) (E6 X.K ta f):=by
 intro pins s σ H Q I h
 refine rF hb (aH (he pins s σ H _ I h) fun u s1 ⟨x,H1,I1,rx,a,C,dx,fs,v,ex,ea,c,n,l,q⟩=>?_)
 subst ex
 obtain rfl:u=Value.ref a:=rx
 exact sK I1 ea c n l fun u' s2 I2 ru=>⟨v,H1,I2,ru,q⟩
end
section
variable{c:Value}{b:Bool}
inductive fb(K:W.Frag)(H:Hp):V->Value->Prop where
  | non:fb K H .non (.type "NoneType")
  | bl (x:Bool):fb K H (.bl x) (.type "bool")
  | int (i:Int):fb K H (.int i) (.type "int")
  | str (x:Str):fb K H (.str x) (.type "str")
  | flt (x:UInt64):fb K H (.flt x) (.type "float")
  | lst {a:Addr} {xs:List V} (e:H a=some (.lst xs)):fb K H (.ref a) (.type "list")
  | frz {a:Addr} {o:Obj} {xs:List V} (e:H a=some (.frz o (.lst xs))):fb K H (.ref a) (.type "list")
  | tup {a:Addr} {xs:List V} (e:H a=some (.tup xs)):fb K H (.ref a) (.type "tuple")
  | dK {a:Addr} {kvs:List (aV×V)} (e:H a=some (.dK kvs)):fb K H (.ref a) (.type "dict")
  | dT {a:Addr} {kvs:List (List aV×V)} (e:H a=some (.dT kvs)):fb K H (.ref a) (.type "dict")
  | ins {a C dx:Addr} {fs:List (Str×V)} (e:H a=some (.ins C dx fs)) (cl:dR K C) (ha:W.findIn K (.ref C) "__class__" = some (some (.builtin "object.__class__")))
      (hn:W.specialIn K (.builtin "object.__class__") "__get__" = some (some (.builtin "getset_descriptor.__get__"))) (htk:W.takesIn K (.builtin "object.__class__")=some true)
      (hm:W.mroIn K C (.type "object")=some true):fb K H (.ref a) (.ref C)
theorem mZ{x:V}{t:Value}(I:ai X pins σ H s)(rx:aJ x u)(ty:fb X.K H x t)(e:W.kitOne X.K t c=some b)(h:∀tk,Q (.bool b) { s with toks:=tk }) :
  wpAny (model X.prog X.w) A (call (.builtin "isinstance") [u,c]) Q E s:=by
 cases ty with
 | non=>cases (show u=Value.none from rx);exact W.kia_one W.kitx_none I.kIn True.intro e (fun z=>nomatch z) h
 | bl y=>cases (show u=Value.bool y from rx);exact W.kia_one W.kitx_bool I.kIn True.intro e (fun z=>nomatch z) h
 | int i=>obtain⟨t,q⟩:=(show ∃t,u=Value.int i t from rx);cases q;exact W.kia_one W.kitx_int I.kIn True.intro e (fun z=>nomatch z) h
 | str y=>obtain⟨t,q⟩:=(show ∃t,u=Value.str y t from rx);cases q;exact W.kia_one W.kitx_str I.kIn True.intro e (fun z=>nomatch z) h
 | flt y=>obtain⟨t,q⟩:=(show ∃t,u=Value.float y t from rx);cases q;exact W.kia_one W.kitx_float I.kIn True.intro e (fun z=>nomatch z) h
 | @lst a xs ea =>
  cases (show u=Value.ref a from rx)
  obtain⟨_,_,n,_,h1⟩:=(show aR X.prog X.w H s.heap a (.lst xs)from I.hok a _ ea)
  exact W.kia_one W.kitx_list I.kIn ⟨_,h1,rfl⟩ e (fun z=>nomatch z) h
 | @frz a ob xs ea =>
  cases (show u=Value.ref a from rx)
  obtain⟨_,_,_,n,_,h1⟩:=(show aR X.prog X.w H s.heap a (.frz ob (.lst xs))from I.hok a _ ea)
  exact W.kia_one W.kitx_list I.kIn ⟨_,h1,rfl⟩ e (fun z=>nomatch z) h
 | @tup a xs ea =>
  cases (show u=Value.ref a from rx)
  obtain⟨_,_,_,p⟩:=(show aR X.prog X.w H s.heap a (.tup xs)from I.hok a _ ea)
  obtain⟨o,h1,h2,_⟩:=p.1
  exact W.kia_one W.kitx_tuple I.kIn ⟨o,h1,h2⟩ e (fun z=>nomatch z) h
 | @dK a kvs ea =>
  cases (show u=Value.ref a from rx)
  obtain⟨_,_,vs,_,p⟩:=(show aR X.prog X.w H s.heap a (.dK kvs)from I.hok a _ ea)
  obtain⟨o,es,ep,h1,h2,_⟩:=p
  exact W.kia_one W.kitx_dict I.kIn ⟨o,h1,h2.1⟩ e (fun z=>nomatch z) h
 | @dT a kvs ea =>
  cases (show u=Value.ref a from rx)
  obtain⟨_,_,xs,_,o,es,ep,h1,h2,_⟩:=(show aR X.prog X.w H s.heap a (.dT kvs)from I.hok a _ ea)
  exact W.kia_one W.kitx_dict I.kIn ⟨o,h1,h2.1⟩ e (fun z=>nomatch z) h
 | @ins a C dx fs ea cl ha hn htk hm =>
  cases (show u=Value.ref a from rx)
  obtain⟨mA,O,_⟩:=lZ I.hok ea
  obtain⟨od,J,_⟩:=O.look
  exact W.kia_one (W.kitx_own (cl.get _) cl.hd ha hn htk hm) I.kIn J e (fun z=>nomatch z) h
end
structure bc(k:Nat)(A:Around):Prop where
 hd:A.handled=none
 dp:A.depth+3*k+5<recursionLimit
 un:A.units+16*k+200<cLine
theorem bc.mono(r:bc k A)(h:j<=k):bc j A:=⟨r.hd,by have:=r.dp;omega,by have:=r.un;omega⟩
theorem bc.deeper(r:bc (k+1) A)(env:Env):bc k (A.deeper env) :=
 ⟨r.hd,by have:=r.dp;show A.depth+1+3*k+5<_;omega,by have:=r.un;show A.units+3+16*k+200<_;omega⟩
theorem bc.in1(r:bc (k+1) A):bc k A.in1 :=
 ⟨r.hd,by have:=r.dp;show A.depth+3*k+5<_;omega,by have:=r.un;show A.units+1+16*k+200<_;omega⟩
theorem sE:(A.under (.builtin "type.__call__" ⟨.ref C::us,kw⟩)).depth=A.depth+1:=by
 first|rfl|simp[Around.under,Code.weight,Code.isCreation,Code.isGuard,Code.isCaller,Code.frames,Code.isFrame,guardIds]
theorem sD:(A.under (.builtin "type.__call__" ⟨.ref C::us,kw⟩)).units=A.units+1:=by
 first|rfl|simp[Around.under,Code.cUnits,Code.frames,Code.isFrame]
theorem bc.make(r:bc (k+1) A)(C:Addr)(us:List Value)(kw:List (Str×Value)):bc k (A.under (.builtin "type.__call__" ⟨.ref C::us,kw⟩)) :=
 ⟨r.hd,by have:=r.dp;rw[sE];omega,by have:=r.un;rw[sD];omega⟩
theorem bc.depth(r:bc k A):A.depth<recursionLimit:=by have:=r.dp;omega
theorem bc.units(r:bc k A):A.units+64<cLine:=by have:=r.un;omega
def rT:TA:=fun _ H Q=>Q [] H
def Dq(ta:TE)(tr:TA):TA:=fun σ H Q=>ta σ H fun x H1=>tr σ H1 fun xs H2=>Q (x::xs) H2
section
variable{t:TA}
theorem Bc:PA X [] rT:=fun _ _ _ _ H Q I h=>Calls.spliced_nil ⟨[],H,I,.nil,h⟩
theorem y0(ha:PE X e te)(hr:PA X es t)(hs:starEach (e::es) X.env=(false,eval e X.env)::starEach es X.env:=by rfl):PA X (e::es) (Dq te t):=by
 intro pos pins s σ H Q I h
 rw[hs]
 show wpAny _ _ (spliced ((false,eval e X.env)::backTo pos (starEach es X.env))) _ _ s
 refine Calls.spliced_cons (aH (ha pins s σ H _ I h) fun u s1 ⟨x,H1,I1,r1,q1⟩=>?_)
 exact aH (hr pos pins s1 σ H1 _ I1 q1) fun us s2 ⟨xs,H2,I2,r2,q2⟩=>⟨x::xs,H2,I2,.cons r1 r2,q2⟩
def EQ(t:TA):TE:=fun σ H Q=>t σ H fun xs H1=>xs.length<=sizeLine/\∀p,H1 p=none->Q (.ref p) (az H1 p (.tup xs))
def EW(t:TA):TE:=fun σ H Q=>t σ H fun xs H1=>xs.length<=sizeLine/\∀p,H1 p=none->Q (.ref p) (az H1 p (.lst xs))
theorem AZ{x1}(h:PA X es t):PE X (.Tuple es x1 pos) (EQ t):=by
 intro pins s σ H Q I hq
 refine wpAny_Tuple_spliced (aH (h pos pins s σ H _ I hq) fun us s1 ⟨xs,H1,I1,r,z,q⟩=>⟨by rw[<- r.length];exact z,?_⟩)
 have hf:H1 s1.heap.objs.size=none:=I1.hok.fresh (Nat.le_refl _)
 refine⟨.ref s1.heap.objs.size,az H1 s1.heap.objs.size (.tup xs),I1.laid (t':=s1.toks) (fun b u e=>Heap.get?_push_of_some _ e) (Nat.le_refl _) ?_,rfl,q _ hf⟩
 exact⟨z,us,r,⟨_,Heap.get?_push_size _ rfl,rfl,_,rfl⟩,_,Heap.get?_push_size _ rfl,rfl⟩
theorem A4(h:PA X es t):PE X (.List es pos) (EW t):=by
 intro pins s σ H Q I hq
 refine wpAny_List_spliced (aH (h pos pins s σ H _ I hq) fun us s1 ⟨xs,H1,I1,r,z,q⟩=>⟨by rw[<- r.length];exact z,?_⟩)
 have hf:H1 s1.heap.objs.size=none:=I1.hok.fresh (Nat.le_refl _)
 refine⟨.ref s1.heap.objs.size,az H1 s1.heap.objs.size (.lst xs),I1.laid (t':=s1.toks) (fun b u e=>Heap.get?_push_of_some _ e) (Nat.le_refl _) ?_,rfl,q _ hf⟩
 exact⟨z,us,0,r,Heap.get?_push_size _ rfl⟩
end
abbrev Sp:=List V->Hp->VK->XK->Prop
abbrev gE:=List Env->Hp->Shared->XK->Value->Shared->Prop
structure ge(P:Program)(w:World)(K:W.Frag)(mg:Str->Option Value)(base:Heap)(A:Around)(outer:List Env)(s:Shared)(H:Hp):Prop where
 frames:A.frames=some outer
 mod:Mod K mg base
 bs:∀b o,base.get? b=some o->s.heap.get? b=some o/\H b=none
 bsz:base.objs.size<=s.heap.objs.size
 funs:s.heap.FunFrames base outer
 frf:∀b∈bB outer,H b=none
 hok:bE P w H s.heap
 bare:AllBare s.gens
def CE(outer:List Env)(P:Program)(w:World)(H:Hp)(s:Shared)(Q:VK)(u:Value)(s':Shared):Prop :=
 ∃v H',s'.os=s.os/\AllBare s'.gens/\Un (bB outer) [] H H' s.heap s'.heap/\bE P w H' s'.heap/\aJ v u/\Q v H'
def CR(CX:gE)(outer:List Env)(P:Program)(w:World)(H:Hp)(s:Shared)(Q:VK)(E:XK)(r:Result)(s':Shared):Prop :=
 match r with
 | .ok (.ret u)=>CE outer P w H s Q u s'
 | .ok _=>False
 | .error e=>CX outer H s E e s'
structure be(P:Program)(w:World)(K:W.Frag)(mg:Str->Option Value)(base:Heap)(CX:gE)(k:Nat)(f:Addr)(fd:FuncData)(ps:List Str)(sp:Sp):Prop where
 len:∀vs H Q E,sp vs H Q E->vs.length=ps.length
 run:∀(A:Around) (outer:List Env) (s:Shared) (H:Hp) (args:Args) (us:List Value) (vs:List V) (Q:VK) (E:XK),bc k A->ge P w K mg base A outer s H->BindsTo s fd args (ps.zip us)->av vs us->sp vs H Q E ->
  codeAny (model P w) A (.call (.ref f) args) (CR CX outer P w H s Q E) s
theorem be.mono{CX:gE}{f:Addr}{sp:Sp}(F:be P w K mg base CX j f fd ps sp)(h:j<=k) :
  be P w K mg base CX k f fd ps sp:=⟨F.len,fun A outer s H args us vs Q E hr=>F.run A outer s H args us vs Q E (hr.mono h)⟩
theorem ge.make(e:ge P w K mg base A outer s H)(C:Addr)(us:List Value)(kw:List (Str×Value)) :
  ge P w K mg base (A.under (.builtin "type.__call__" ⟨.ref C::us,kw⟩)) outer s H:=⟨by first|exact e.frames|(simpa [Around.under,Code.envs,Code.isFrame,pushEnvs]using e.frames),e.mod,e.bs,e.bsz,e.funs,e.frf,e.hok,e.bare⟩
theorem ge.in1(e:ge P w K mg base A outer s H) :
  ge P w K mg base A.in1 outer s H:=⟨e.frames,e.mod,e.bs,e.bsz,e.funs,e.frf,e.hok,e.bare⟩
section
theorem ai.env0(I:ai X pins σ H s):ge X.prog X.w X.K X.mg X.base X.A X.stack s H :=
 ⟨I.ok.frames,I.ok.mod,I.bs,Nat.le_trans I.ok.bsz I.sz,I.stack,I.stkFree,I.hok,I.bare⟩
theorem ai.after{Q:VK}(I:ai X pins σ H s)(h:CE X.stack X.prog X.w H s Q u s'):EP X pins σ Q u s':=by
 obtain⟨v,H',os,bare,un,hok,r,q⟩:=h
 obtain⟨hh,g,d,t,os'⟩:=s'
 obtain rfl:os'=s.os:=os
 exact⟨v,H',I.call (h':=hh) (g':=g) (d':=d) (t':=t) (ch:=[]) un hok bare (fun b z=>absurd z (by simp)),r,q⟩
end
def xj(sp:Sp)(dvs:List V)(E:XK)(t:TA):TE:=fun σ H Q=>t σ H fun vs H1=>sp (vs++dvs) H1 Q E
def xh(C:Addr)(m:Str)(sp:Sp)(dvs:List V)(E:XK)(ta:TE)(t:TA):TE:=fun σ H Q=>ta σ H fun x H1 => ∃a dx fs,x=.ref a/\H1 a=some (.ins C dx fs)/\fs.lookup m=none /\
 t σ H1 fun vs H2=>sp (x::(vs++dvs)) H2 Q E
def xi(C:Addr)(sp:Sp)(dvs:List V)(E:XK)(t:TA):TE:=fun σ H Q=>t σ H fun vs H1 => ∀x dx,H1 x=none->H1 dx=none->dx≠x ->
 sp (.ref x::(vs++dvs)) (az (az H1 dx (.own x)) x (.ins C dx [])) (fun v H2=>v=.non/\Q (.ref x) H2) E
def bf(K:W.Frag)(fd:FuncData)(ps:List Str)(ds:List Value):Prop :=
 ∀(s:Shared) (us:List Value),K.In s.heap->(us++ds).length=ps.length->BindsTo s fd ⟨us,[]⟩ (ps.zip (us++ds))
theorem bf.all(h:∀us:List Value,us.length=ps.length->bindArgs fd ⟨us,[]⟩=pure (ps.zip us)):bf K fd ps []:=fun s us _ hl=>by
 rw[List.append_nil]at hl⊢
 exact .of_eq (h us hl)
def dE(CX:gE)(X:Cx)(E:XK):Prop:=∀(pins:List (Addr×Obj)) (σ:St) (H:Hp) (s:Shared) (e:Value) (s':Shared),ai X pins σ H s->CX X.stack H s E e s'->X.xe e s'
section
variable{CX:gE}{f:Addr}{sp:Sp}{dvs:List V}{ds:List Value}{E:XK}{m:Str}{apos:Pos}{o:Expr}{ta:TE}{t:TA}
theorem kl{Q:VK}(F:be X.prog X.w X.K X.mg X.base CX k f fd ps sp)(hr:bc k X.A)(hb:bf X.K fd ps ds)(hd:av dvs ds)(hx:dE CX X E)
  (I:ai X pins σ H s) (r:av vs us) (h:sp (vs++dvs) H Q E):wpAny (model X.prog X.w) X.A (call (.ref f) us) (EP X pins σ Q) X.xe s:=by
 have r2:av (vs++dvs) (us++ds):=r.append hd
 have hl:(us++ds).length=ps.length:=by rw[<- r2.length];exact F.len _ _ _ _ h
 refine wpAny_call (codeAny_mono (F.run X.A X.stack s H ⟨us,[]⟩ (us++ds) (vs++dvs) Q E hr I.env0 (hb s us I.kIn hl) r2 h) fun r s' hq=>?_)
 cases r with
 | error e=>exact hx pins σ H s e s' I hq
 | ok fl =>
  cases fl with
  | ret u=>exact I.after hq
  | next=>exact False.elim hq
  | brk=>exact False.elim hq
  | cont=>exact False.elim hq
theorem yW(F:be X.prog X.w X.K X.mg X.base CX k f fd ps sp)(hr:bc k X.A)(hg:Gl X x)(hm:X.mg x=some (.ref f))(hk:W.keepIn X.K (.ref f)=true)(hb:bf X.K fd ps ds)(hd:av dvs ds)(hx:dE CX X E)
  (ha:PA X (e::es) t) (hdb:(x==("__debug__" : Str))=false:=by decide) (he:starEach (e::es) X.env=(false,eval e X.env)::starEach es X.env:=by rfl) (hpl:(backTo pos (starEach es X.env)).any (·.1)=false:=by rfl) :
  PE X (.Call (.Name x p) (e::es) [] pos) (xj sp dvs E t):=by
 intro pins s σ H Q I h
 refine wpAny_Call_Name_kw (cy I hg hm ?_ hdb)
 refine W.callWith_K (h₀:=X.base) I.ok.mod.kin hk (aH (ha pos pins s σ H _ I h) fun us s1 ⟨vs,H1,I1,r,q⟩=>⟨I1.kIn,?_⟩) he hpl
 exact kl F hr hb hd hx I1 r q
theorem wc(F:be X.prog X.w X.K X.mg X.base CX k f fd ps sp)(hr:bc k X.A)(hg:Gl X x)(hm:X.mg x=some (.ref f))(hk:W.keepIn X.K (.ref f)=true)(hb:bf X.K fd ps ds)(hd:av dvs ds)(hx:dE CX X E)
  (hdb:(x==("__debug__" : Str))=false:=by decide):PE X (.Call (.Name x p) [] [] pos) (xj sp dvs E rT):=by
 intro pins s σ H Q I h
 refine wpAny_Call_Name_kw (cy I hg hm ?_ hdb)
 exact W.callWith_K0 I.kIn hk (kl (us:=[]) F hr hb hd hx I .nil h)
theorem yT(he:PE X o ta)(c:dR X.K C)(hm:qc X.K C m f)(F:be X.prog X.w X.K X.mg X.base CX k f fd ps sp)(hr:bc k X.A)(hb:bf X.K fd ps ds)(hd:av dvs ds)(hx:dE CX X E)(ha:PA X (e::es) t)
  (hst:starEach (e::es) X.env=(false,eval e X.env)::starEach es X.env:=by rfl) (hpl:(backTo pos (starEach es X.env)).any (·.1)=false:=by rfl)
  (ht:eval (.Call (.Attribute o m apos) (e::es) [] pos) X.env=(do
   let ov <- eval o X.env
   standAt apos.atName
   let (f,first) <- holding [ov] (getMethod ov m pl)
   callWith pos f first (backTo pos (starEach (e::es) X.env)) (backToKw pos (keywordEach [] X.env))):=by rfl) :
  PE X (.Call (.Attribute o m apos) (e::es) [] pos) (xh C m sp dvs E ta t):=by
 intro pins s σ H Q I h
 refine W.methodCall_KW (pl:=pl) (aH (he pins s σ H _ I h) fun u s1 ⟨x,H1,I1,rx,a,dx,fs,ex,ea,l,q⟩=>?_) ht
 subst ex
 obtain rfl:u=Value.ref a:=rx
 refine kP I1 ea c hm l ?_
 refine W.callWith_K (first:=[.ref a]) (h₀:=X.base) I.ok.mod.kin hm.kp (aH (ha pos pins s1 σ H1 _ I1 q) fun us s2 ⟨vs,H2,I2,r,q2⟩=>⟨I2.kIn,?_⟩) hst hpl
 exact kl (us:=.ref a::us) (vs:=.ref a::vs) F hr hb hd hx I2 (.cons rfl r) q2
theorem v8(he:PE X o ta)(c:dR X.K C)(hm:qc X.K C m f)(F:be X.prog X.w X.K X.mg X.base CX k f fd ps sp)(hr:bc k X.A)(hb:bf X.K fd ps ds)(hd:av dvs ds)(hx:dE CX X E)
  (ht:eval (.Call (.Attribute o m apos) [] [] pos) X.env=(do
   let ov <- eval o X.env
   standAt apos.atName
   let (f,first) <- holding [ov] (getMethod ov m pl)
   callWith pos f first (backTo pos (starEach [] X.env)) (backToKw pos (keywordEach [] X.env))):=by rfl) :
  PE X (.Call (.Attribute o m apos) [] [] pos) (xh C m sp dvs E ta rT):=by
 intro pins s σ H Q I h
 refine W.methodCall_KW (pl:=pl) (aH (he pins s σ H _ I h) fun u s1 ⟨x,H1,I1,rx,a,dx,fs,ex,ea,l,q⟩=>?_) ht
 subst ex
 obtain rfl:u=Value.ref a:=rx
 refine kP I1 ea c hm l ?_
 exact W.callWith_K0 (first:=[.ref a]) I1.kIn hm.kp (kl (us:=[.ref a]) (vs:=[.ref a]) F hr hb hd hx I1 (.cons rfl .nil) q)
structure Mk(K:W.Frag)(C f:Addr):Prop where
 makes:W.makesIn K C=true
 init:W.findIn K (.ref C) "__init__" = some (some (.ref f))
 fn:W.isFn K (.ref f)=true
 kp:W.keepIn K (.ref C)=true
theorem ou{Q:VK}(M:Mk X.K C f)(F:be X.prog X.w X.K X.mg X.base CX k f fd ps sp)(hr:bc (k+1) X.A)(hb:bf X.K fd ps ds)(hd:av dvs ds)
  (hx:dE CX X E) (I:ai X pins σ H s) (r:av vs us)
  (h:∀x dx,H x=none->H dx=none->dx≠x->sp (.ref x::(vs++dvs)) (az (az H dx (.own x)) x (.ins C dx [])) (fun v H2=>v=.non/\Q (.ref x) H2) E) :
  wpAny (model X.prog X.w) X.A (call (.ref C) us) (EP X pins σ Q) X.xe s:=by
 have hq:=h (s.heap.objs.size+1) s.heap.objs.size (I.hok.fresh (Nat.le_succ _)) (I.hok.fresh (Nat.le_refl _)) (Nat.ne_of_lt (Nat.lt_succ_self _))
 have I2:=ai.made (C:=C) I
 have r2:av (V.ref (s.heap.objs.size+1)::(vs++dvs)) (Value.ref (s.heap.objs.size+1)::(us++ds)):=.cons rfl (r.append hd)
 have hl:(Value.ref (s.heap.objs.size+1)::us++ds).length=ps.length:=by
  have e:=r2.length
  rw[F.len _ _ _ _ hq]at e
  exact e.symm
 refine wpAny_call (oW (f:=f) I.kIn M.makes M.init (beq_iff_eq.mp M.fn) (codeAny_mono (F.run _ X.stack _ _ ⟨Value.ref (s.heap.objs.size+1)::us,[]⟩ (Value.ref (s.heap.objs.size+1)::(us++ds)) _ _ E (hr.make C us [])
  (I2.env0.make C us []) (hb _ (Value.ref (s.heap.objs.size+1)::us) I2.kIn hl) r2 hq) fun r s' hq'=>?_))
 cases r with
 | error e=>exact hx pins σ _ _ e s' I2 hq'
 | ok fl =>
  cases fl with
  | ret u =>
   obtain⟨v,H',I3,rv,ev,q3⟩:=I2.after hq'
   subst ev
   exact⟨rv,⟨V.ref (s.heap.objs.size+1),H',I3,rfl,q3⟩⟩
  | next=>exact False.elim hq'
  | brk=>exact False.elim hq'
  | cont=>exact False.elim hq'
theorem yU(M:Mk X.K C f)(F:be X.prog X.w X.K X.mg X.base CX k f fd ps sp)(hr:bc (k+1) X.A)(hg:Gl X x)(hm:X.mg x=some (.ref C))(hb:bf X.K fd ps ds)(hd:av dvs ds)(hx:dE CX X E)
  (ha:PA X (e::es) t) (hdb:(x==("__debug__" : Str))=false:=by decide) (he:starEach (e::es) X.env=(false,eval e X.env)::starEach es X.env:=by rfl) (hpl:(backTo pos (starEach es X.env)).any (·.1)=false:=by rfl) :
  PE X (.Call (.Name x p) (e::es) [] pos) (xi C sp dvs E t):=by
 intro pins s σ H Q I h
 refine wpAny_Call_Name_kw (cy I hg hm ?_ hdb)
 refine W.callWith_K (h₀:=X.base) I.ok.mod.kin M.kp (aH (ha pos pins s σ H _ I h) fun us s1 ⟨vs,H1,I1,r,q⟩=>⟨I1.kIn,?_⟩) he hpl
 exact ou M F hr hb hd hx I1 r q
theorem v9(M:Mk X.K C f)(F:be X.prog X.w X.K X.mg X.base CX k f fd ps sp)(hr:bc (k+1) X.A)(hg:Gl X x)(hm:X.mg x=some (.ref C))(hb:bf X.K fd ps ds)(hd:av dvs ds)(hx:dE CX X E)
  (hdb:(x==("__debug__" : Str))=false:=by decide):PE X (.Call (.Name x p) [] [] pos) (xi C sp dvs E rT):=by
 intro pins s σ H Q I h
 refine wpAny_Call_Name_kw (cy I hg hm ?_ hdb)
 exact W.callWith_K0 I.kIn M.kp (ou (us:=[]) M F hr hb hd hx I .nil h)
end
section
variable{CX:gE}{f:Addr}{ks:List Str}{sp:Sp}{E:XK}{m:Str}{apos kpos:Pos}{o:Expr}{kws:List Keyword}{ta:TE}{t tk:TA}{nm:Option Str}
variable{g:List Value->List Value->List Value}{gV:List V->List V->List V}
end
structure bo(N P:List Str)(sc:Scope):Prop where
 kind:sc.kind=.function
 co:sc.isCoroutine=false
 gen:sc.isGenerator=false
 nd:N.Nodup
 pre:N.take P.length=P
 par:∀x∈P,sc.names.lookup x=some .local\/sc.names.lookup x=some .cell
 nofree:∀y∈sc.names,y.2 ≠ .free
theorem ni{kindOf:Str->Option NameKind}{x:Str}:∀{binds:List (Str×Value)} {m:Str->Option Value},(∀v,(x,v)∉binds)->bindL kindOf binds m x=m x
 | [],_,_=>rfl
 | (n,v)::r,m,h=>by
  unfold bindL
  rw[ni fun w hw=>h w (List.mem_cons_of_mem _ hw)]
  split
  ·have:x≠n:=by rintro rfl;exact h v List.mem_cons_self
   simp[this]
  ·rfl
theorem nk{kindOf:Str->Option NameKind}{x:Str}:∀{binds:List (Str×Value)} {m:Str->Option Value},(∀v,(x,v)∉binds)->bindC kindOf binds m x=m x
 | [],_,_=>rfl
 | (n,v)::r,m,h=>by
  unfold bindC
  rw[nk fun w hw=>h w (List.mem_cons_of_mem _ hw)]
  split
  ·rfl
  ·have:x≠n:=by rintro rfl;exact h v List.mem_cons_self
   simp[this]
theorem nj{kindOf:Str->Option NameKind}{x:Str}{v:Value}:∀{P:List Str} {vs:List Value} {i:Nat} {m:Str->Option Value},P.Nodup->P[i]?=some x->vs[i]?=some v->kindOf x=some .local ->
  bindL kindOf (P.zip vs) m x=some v
 | [],_,_,_,_,h,_,_=>by simp at h
 | _::_,[],_,_,_,_,h,_=>by simp at h
 | p::P,w::vs,0,m,nd,h1,h2,hk=>by
  simp at h1 h2;subst h1;subst h2
  show bindL kindOf ((p,w)::P.zip vs) m p=_
  unfold bindL
  rw[ni fun v hv=>(List.nodup_cons.mp nd).1 (List.of_mem_zip hv).1,if_pos hk]
  simp
 | p::P,w::vs,i+1,m,nd,h1,h2,hk=>by
  show bindL kindOf ((p,w)::P.zip vs) m x=_
  unfold bindL
  exact nj (i:=i) (List.nodup_cons.mp nd).2 (by simpa using h1) (by simpa using h2) hk
theorem nq{kindOf:Str->Option NameKind}{x:Str}{v:Value}:∀{P:List Str} {vs:List Value} {i:Nat} {m:Str->Option Value},P.Nodup->P[i]?=some x->vs[i]?=some v->kindOf x≠some .local ->
  bindC kindOf (P.zip vs) m x=some v
 | [],_,_,_,_,h,_,_=>by simp at h
 | _::_,[],_,_,_,_,h,_=>by simp at h
 | p::P,w::vs,0,m,nd,h1,h2,hk=>by
  simp at h1 h2;subst h1;subst h2
  show bindC kindOf ((p,w)::P.zip vs) m p=_
  unfold bindC
  rw[nk fun v hv=>(List.nodup_cons.mp nd).1 (List.of_mem_zip hv).1,if_neg hk]
  simp
 | p::P,w::vs,i+1,m,nd,h1,h2,hk=>by
  show bindC kindOf ((p,w)::P.zip vs) m x=_
  unfold bindC
  exact nq (i:=i) (List.nodup_cons.mp nd).2 (by simpa using h1) (by simpa using h2) hk
def start(N:List Str)(vs:List V):St:=vs.map some++List.replicate (N.length-vs.length) none
def fF(CX:gE)(P:Program)(w:World)(K:W.Frag)(mg:Str->Option Value)(base:Heap)(N:List Str)(qual:Str)(scope:Scope)(f:Addr)(cd:Value)(A:Around)(outer:List Env)(s:Shared)(H:Hp)(E:XK):Cx where
 prog:=P
 w:=w
 K:=K
 mg:=mg
 base:=base
 A:=A.deeper (envOfC qual scope s.heap.objs.size f cd)
 N:=N
 s₀:=s
 H₀:=H
 env:=envOfC qual scope s.heap.objs.size f cd
 outer:=outer
 stack:=envOfC qual scope s.heap.objs.size f cd::outer
 ex:=[]
 calm:=true
 fn:=fun _=>true
 pn:=[]
 xe:=fun e s'=>wpAny (model P w) (A.deeper (envOfC qual scope s.heap.objs.size f cd)) (leaving (envOfC qual scope s.heap.objs.size f cd) e) (fun _ s''=>CX outer H s E e s'') (fun e' s''=>CX outer H s E e' s'') s'
theorem pL{sc:Scope}(h:sc.names.lookup x=some .cell):∃c,(cellsFrom n sc.names []).lookup x=some c:=by
 have q:=W.cellsFrom_some sc.names n [] (.inl h)
 exact Option.isSome_iff_exists.mp q
theorem uQ{CX:gE}{f:Addr}{cd:Value}{s1:Shared}{E:XK}
  (S:bo N ps scope) (hd:A.handled=none) (e0:ge P w K mg base A outer s H) (hl:vs.length=ps.length) (r:av vs us)
  (x:InCallC s s.heap.objs.size (bindL (envOfC qual scope s.heap.objs.size f cd).kindOf (ps.zip us) fun _=>none) (cellsFrom (s.heap.objs.size+1) scope.names []) (bindC (envOfC qual scope s.heap.objs.size f cd).kindOf (ps.zip us) fun _=>none) s1) :
  ai (fF CX P w K mg base N qual scope f cd A outer s H E) [] (start N vs) H s1:=by
 have hpl:ps.length<=N.length:=by have:=congrArg List.length S.pre;rw[List.length_take]at this;omega
 obtain⟨h1,tk,rfl,hk⟩:=x.done
 have noA:∀b:Addr,b∉(fF CX P w K mg base N qual scope f cd A outer s H E).ex:=fun b z=>absurd (show b∈([]:List Addr)from z) (by simp)
 refine⟨⟨e0.mod,S.kind,rfl,rfl,Nat.le_refl _,fun y z c h1 h2=>?_,fun y hy=>?_,fun y c _ h=>?_,fun _=>hd,Around.frames_deeper e0.frames,.inr ⟨rfl,rfl⟩,fun b z=>absurd z (noA b),e0.bs,e0.bsz,fun b _ _=>noA b,fun b z=>absurd z (noA b),e0.funs,e0.frf⟩,
  rfl,e0.bare,Un.kept hk,⟨_,x.toInCall.ns,fun i y v h1 h2 h3=>?_⟩,fun y c h=>⟨_,x.cell y c h⟩,e0.hok.fresh (Nat.le_refl _),fun y c h=>?_,fun p hp=>absurd (show p∈([]:List (Addr×Obj))from hp) (by simp),e0.hok.kept hk,?_⟩
 ·exact name_of_addr x.apart (PySem.mem_of_lookup h1) (PySem.mem_of_lookup h2)
 ·have hy:scope.names.lookup y=some .cell\/scope.names.lookup y=some .free:=hy
  rcases hy with hy|hy
  ·exact pL hy
  ·exact absurd rfl (S.nofree _ (PySem.mem_of_lookup hy))
 ·exact Nat.le_of_lt (x.above y c (PySem.mem_of_lookup h))
 ·have hi:i<vs.length:=by
   unfold start at h2
   by_cases hi:i<vs.length
   ·exact hi
   ·rw[List.getElem?_append_right (by simpa using hi)]at h2
    rw[List.getElem?_replicate]at h2
    split at h2<;>cases h2
  have ha:vs[i]?=some v:=by
   unfold start at h2
   rw[List.getElem?_append_left (by simpa using hi),List.getElem?_map]at h2
   cases e:vs[i]? with
   | none=>rw[e]at h2;cases h2
   | some a=>rw[e]at h2;cases h2;rfl
  obtain⟨u,hu,rv⟩:=r.get ha
  have hp:ps[i]?=some y:=by
   rw[<- S.pre,List.getElem?_take_of_lt (by omega)];exact h1
  have ndP:ps.Nodup:=by rw[<- S.pre];exact S.nd.sublist (List.take_sublist _ _)
  refine⟨u,rv,?_⟩
  rcases S.par y (List.mem_of_getElem? hp)with k|k
  ·exact .inl ⟨k,nj ndP hp hu k⟩
  ·obtain⟨c,e⟩:=pL (n:=s.heap.objs.size+1) k
   refine .inr ⟨.inl k,c,e,?_⟩
   have q:=x.cell y c e
   rw[nq ndP hp hu (by show scope.names.lookup y≠_;rw[k];decide)]at q
   exact q
 ·exact e0.hok.fresh (Nat.le_of_lt (x.above y c (PySem.mem_of_lookup h)))
 ·unfold start
  show _=N.length
  rw[List.length_append,List.length_map,List.length_replicate]
  omega
theorem xM{CX:gE}{f:Addr}{name:Str}{params:Arguments}{dV kV doc pm cdv ct oc:Value}{an od:Option Addr}
  {osl:Array (Option Value)} {sp:Sp} (lk:K.lookup f=some ⟨oc,od,.func (W.fnOf name qual params body scope dV kV doc pm an cdv ct),osl⟩) (hcd:W.codeIn K cdv qual=true) (S:bo N ps scope)
  (len:∀vs H Q E,sp vs H Q E->vs.length=ps.length)
  (hbody:∀(A:Around) (outer:List Env) (s:Shared) (H:Hp) (vs:List V) (Q:VK) (E:XK),bc k (A.deeper (envOfC qual scope s.heap.objs.size f cdv))->sp vs H Q E ->
   ∃t,ck (fF CX P w K mg base N qual scope f cdv A outer s H E) body t/\t { nx:=fun _ H'=>Q .non H',rt:=Q } (start N vs) H) :
  be P w K mg base CX (k+1) f (W.fnOf name qual params body scope dV kV doc pm an cdv ct) ps sp:=by
 refine⟨len,fun A outer s H args us vs Q E hr e0 hb r hsp=>?_⟩
 have hl:=len _ _ _ _ hsp
 have KX:K.In s.heap:=e0.mod.kin.keeps fun b o e=>(e0.bs b o e).1
 have lim:s.heap.NoLimit:=e0.mod.nolimit.keeps fun b o e=>(e0.bs b o e).1
 have hkind:∀y∈ps.zip us,scope.names.lookup y.1=some .local\/(scope.names.lookup y.1=some .cell/\((cellsFrom (s.heap.objs.size+1) scope.names []).lookup y.1).isSome=true):=fun⟨n,v⟩ hy=>by
  rcases S.par n (List.of_mem_zip hy).1 with q|q
  ·exact .inl q
  ·exact .inr ⟨q,W.cellsFrom_some _ _ _ (.inl q)⟩
 refine codeAny_call_function hr.depth (KX _ _ lk) rfl S.co S.gen rfl (W.codeRec_of KX hcd) (hb _ _ _ _ ?_)
 refine wpAny_newFunctionEnv_cells S.kind hkind fun env he s1 x=>?_
 subst he
 refine⟨lim.keeps x.toInCall.keep,codeAny_func ?_⟩
 obtain⟨t,ht,hq⟩:=hbody A outer s H vs Q E (hr.deeper _) hsp
 have I:ai (fF CX P w K mg base N qual scope f cdv A outer s H E) [] (start N vs) H s1:=uQ S hr.hd e0 hl r x
 refine wpAny_mono (ht [] s1 (start N vs) H _ I hq) (fun fl s' hs=>?_) fun e s' hs=>hs
 have fin:∀{σ':St} {H':Hp} {v:V} {u:Value},ai (fF CX P w K mg base N qual scope f cdv A outer s H E) [] σ' H' s'->aJ v u->Q v H'->CE outer P w H s Q u s' :=
  fun {σ' H' v u} J rv q=>⟨v,H',J.os,J.bare,J.base,J.hok,rv,q⟩
 cases fl with
 | ret u =>
  obtain⟨v,σ',H',J,rv,q⟩:=hs
  exact fin J rv q
 | next =>
  obtain⟨σ',H',J,q⟩:=hs
  exact fin (v:=V.non) (u:=Value.none) J rfl q
 | brk =>
  obtain⟨_,_,_,q⟩:=hs
  exact False.elim q
 | cont =>
  obtain⟨_,_,_,q⟩:=hs
  exact False.elim q
section
variable{t:TA}{id T:String}{r:List V->Hp->VK->Prop}
def Eu(r:List V->Hp->VK->Prop)(t:TA):TE:=fun σ H Q=>t σ H fun vs H1=>r vs H1 Q
theorem wb(hc:dH X (.builtin id) r)(hg:Gl X x)(hm:X.mg x=none)(hv:bootBuiltins x=some (.builtin id))(ha:PA X (e::es) t)(hn:x ≠ "__name__" := by decide)(hdb:(x==("__debug__" : Str))=false:=by decide)
  (he:starEach (e::es) X.env=(false,eval e X.env)::starEach es X.env:=by rfl) (hpl:(backTo pos (starEach es X.env)).any (·.1)=false:=by rfl):PE X (.Call (.Name x p) (e::es) [] pos) (Eu r t):=by
 intro pins s σ H Q I h
 refine wpAny_Call_Name_kw (gp I hg hm hv ?_ hn hdb)
 exact PyProof.Rows.callWith_builtin1 (aH (ha pos pins s σ H _ I h) fun us s1 ⟨vs,H1,I1,r1,q1⟩=>hc pins s1 σ H1 vs us Q I1 r1 q1) he hpl
theorem uj(hc:dH X (.type T) r)(hg:Gl X x)(hm:X.mg x=none)(hv:bootBuiltins x=some (.type T))(ha:PA X (e::es) t)(hn:x ≠ "__name__" := by decide)(hdb:(x==("__debug__" : Str))=false:=by decide)
  (he:starEach (e::es) X.env=(false,eval e X.env)::starEach es X.env:=by rfl) (hpl:(backTo pos (starEach es X.env)).any (·.1)=false:=by rfl):PE X (.Call (.Name x p) (e::es) [] pos) (Eu r t):=by
 intro pins s σ H Q I h
 refine wpAny_Call_Name_kw (gp I hg hm hv ?_ hn hdb)
 exact PyProof.Rows.callWith_type1 (aH (ha pos pins s σ H _ I h) fun us s1 ⟨vs,H1,I1,r1,q1⟩=>hc pins s1 σ H1 vs us Q I1 r1 q1) he hpl
end
end L2
namespace HT
open PySem PyProof.Rows
variable{b:Addr}{Q:Value->Shared->Prop}
def lexLt:List Int->List Int->Bool
 | [],[]=>false
 | [],_::_=>true
 | _::_,[]=>false
 | x::xs,y::ys=>if x=y then lexLt xs ys else decide (x<y)
theorem lexLt_cons(x y:Int)(xs ys:List Int):lexLt (x::xs) (y::ys)=if x=y then lexLt xs ys else decide (x<y):=rfl
theorem ny:lexLt [] []=false:=rfl
theorem lW(y:Int)(ys:List Int):lexLt [] (y::ys)=true:=rfl
theorem lX(x:Int)(xs:List Int):lexLt (x::xs) []=false:=rfl
theorem wz(A:Around)(s:Shared)(a:Int)(t:Tok)(c:Int)(u:Tok):∃e,SeqAt.EqAt A s (.int a t) (.int c u) e/\(e=true↔a=c) :=
 ⟨(a==c),SeqAt.EqAt.int_int a t c u,by simp⟩
theorem vY(A:Around)(s:Shared)(a:Int)(t:Tok)(c:Int)(u:Tok)(prog:Program)(w:World)(E:Value->Shared->Prop)(Q:Value->Shared->Prop)(h:Q (.bool (decide (a<c))) s) :
  wpAny (model prog w) A (richCompare .Lt (.int a t) (.int c u)) Q E s :=
 (PyProof.Rows.lt_int h:wpAny (model prog w) A (compareOp .Lt (.int a t) (.int c u)) Q E s)
section
open PySem.SeqAt
open PySem.AutoSeq1 (wpAny_loadPart')
open PySem.MeetsSeq PySem.MeetsSeq2 PySem.MeetsSeq3
theorem nv(l b:Addr)(items items2:Array Value)(n n2:Nat)(dd dd2:Option Addr)(sl sl2:Array (Option Value))(ns ms:List Int)(hi:IntsAre items.toList ns)(hj:IntsAre items2.toList ms) :
  Meets (Builtin.«tuple.__lt__» ⟨[.ref l,.ref b],[]⟩)
   (fun _ R s=>s.heap.get? l=some { cls:=.type "tuple", dict:=dd,data:=.seq items n,slots:=sl }/\s.heap.get? b=some { cls:=.type "tuple", dict:=dd2,data:=.seq items2 n2,slots:=sl2 } /\
    R (.ok (.ret (.bool (lexLt ns ms)))) s) :=
 .of_wp fun prog w A R s h=>by
  obtain⟨hp,g,d,tk,os⟩:=s;obtain⟨hl,hb,h⟩:=h
  have f2:=AutoSeq1.sub_tuple_tuple
  have z1:items.size=ns.length:=by rw[<- hi.length];simp
  have z2:items2.size=ms.length:=by rw[<- hj.length];simp
  wp_walk using wpAny_loadPart' hl,wpAny_loadPart' hb,wpAny_forIn_list _ (fun aX b s'=>b.1=none/\s'=⟨hp,g,d,tk,os⟩/\∃(vs ws:List Value) (ns' ms':List Int),aX=vs.zip ws /\
   IntsAre vs ns'/\IntsAre ws ms'/\ns'.length+items2.size=ms'.length+items.size/\R (.ok (.ret (.bool (lexLt ns' ms')))) ⟨hp,g,d,tk,os⟩) _
  case turn =>
   rintro⟨y,x⟩ aX b s' ⟨hb',rfl,vs,ws,ns',ms',hz,hvi,hwi,hlen,hR⟩
   cases hvi with
   | nil=>rw[List.zip_nil_left]at hz;cases hz
   | cons a t hvi' =>
    cases hwi with
    | nil=>rw[List.zip_nil_right]at hz;cases hz
    | cons c u hwi' =>
     rw[List.zip_cons_cons]at hz
     injection hz with hyx hrest
     injection hyx with hy hx
     subst hy hx
     rw[lexLt_cons]at hR
     simp only[List.length_cons]at hlen
     obtain⟨e,he,hiff⟩:=wz A.in1 ⟨hp,g,d,tk,os⟩ a t c u
     refine wpAny_bind (he prog w _ _ ?_)
     cases e with
     | true =>
      rw[if_pos (hiff.mp rfl)]at hR
      wp_walk
      exact⟨rfl,rfl,_,_,_,_,hrest,hvi',hwi',by omega,hR⟩
     | false =>
      rw[if_neg (fun q=>absurd (hiff.mpr q) Bool.false_ne_true)]at hR
      have hri:=vY A.in1 ⟨hp,g,d,tk,os⟩ a t c u prog w
      wp_walk using hri
      exact⟨_,rfl,by simpa using hR⟩
  case fin =>
   rintro⟨b1,b2⟩ s' ⟨hb',rfl,vs,ws,ns',ms',hz,hvi,hwi,hlen,hR⟩
   simp only at hb'
   subst hb'
   have hv:lexLt ns' ms'=decide (items.size<items2.size):=by
    cases hvi with
    | nil =>
     cases hwi with
     | nil =>
      simp only[List.length_nil]at hlen
      rw[ny]
      exact(decide_eq_false (by omega)).symm
     | cons c u hw =>
      simp only[List.length_nil,List.length_cons]at hlen
      rw[lW]
      exact(decide_eq_true (by omega)).symm
    | cons a t hv =>
     cases hwi with
     | nil =>
      simp only[List.length_nil,List.length_cons]at hlen
      rw[lX]
      exact(decide_eq_false (by omega)).symm
     | cons c u hw =>
      rw[List.zip_cons_cons]at hz
      cases hz
   rw[hv]at hR
   wp_walk
   exact⟨_,rfl,by simpa [Builtin.Tuple.tupleCompareSizes]using hR⟩
  case h =>
   exact⟨rfl,rfl,items.toList,items2.toList,ns,ms,rfl,hi,hj,by omega,h⟩
end
section
variable{prog:Program}{w:World}{A:Around}{E:Value->Shared->Prop}{s:Shared}
theorem lt_tupInts{l:Addr}{items items2:Array Value}{ns ms:List Int}(hl:IsTup s.heap l items)(hb:IsTup s.heap b items2)(hi:IntsAre items.toList ns)(hj:IntsAre items2.toList ms)
  (hu:A.units<cLine) (h:Q (.bool (lexLt ns ms)) s):wpAny (model prog w) A (compareOp .Lt (.ref l) (.ref b)) Q E s:=by
 obtain⟨⟨cls,dd,data,sl⟩,ho,hc,n,hd⟩:=id hl
 obtain⟨⟨cls2,dd2,data2,sl2⟩,ho2,hc2,n2,hd2⟩:=id hb
 simp only at hc hd hc2 hd2
 subst hc hd hc2 hd2
 exact richCompare_meets_room (op:=.Lt) ⟨_,ho,rfl⟩ ⟨_,ho2,rfl⟩ PySem.F.slot_tuple_lt PySem.F.entry_tuple_lt (PySem.F.args_tuple_lt_2 _ _) (nv l b items items2 n n2 dd dd2 sl sl2 ns ms hi hj)
  ⟨ho,ho2,show Value.bool (lexLt ns ms)≠Value.notImplemented/\Q (.bool (lexLt ns ms)) s from⟨(fun x=>nomatch x),h⟩⟩ hu
theorem cat_tup{t:Addr}{vs ws:List Value}(ht:IsTup s.heap t vs.toArray)(hb:IsTup s.heap b ws.toArray)(hv:vs≠[])
  (h1:ws=[]->Q (.ref t) s) (h2:ws≠[]->Q (.ref s.heap.objs.size) { s with heap:=s.heap.push { cls:=.type "tuple", data:=.seq (vs++ws).toArray } })
  (hsz:vs.length+ws.length<=sizeLine):wpAny (model prog w) A (binaryOp .Add (.ref t) (.ref b)) Q E s:=by
 obtain⟨⟨cls,dd,data,sl⟩,ho,hc,n,hd⟩:=id ht
 obtain⟨⟨cls2,dd2,data2,sl2⟩,ho2,hc2,n2,hd2⟩:=id hb
 simp only at hc hd hc2 hd2
 subst hc hd hc2 hd2
 have e:vs.toArray++ws.toArray=(vs++ws).toArray:=by simp
 by_cases hw:ws=[]
 ·exact concat_meets ⟨_,ho,rfl⟩ ⟨_,ho2,rfl⟩ noFill_tuple_add seq_tuple_add PySem.F.slot_tuple_add PySem.F.entry_tuple_add (PySem.F.args_tuple_add_2 _ _)
   (tuple_addW1 t b vs.toArray ws.toArray n n2 dd dd2 sl sl2 (by simpa using hv) (by simp[hw])) ⟨ho,ho2,h1 hw⟩
 ·refine concat_meets ⟨_,ho,rfl⟩ ⟨_,ho2,rfl⟩ noFill_tuple_add seq_tuple_add PySem.F.slot_tuple_add PySem.F.entry_tuple_add (PySem.F.args_tuple_add_2 _ _)
   (tuple_addW2 t b vs.toArray ws.toArray n n2 dd dd2 sl sl2 (by simpa using hv) (by simpa using hw) (by rw[List.size_toArray,List.size_toArray];exact hsz)) ⟨ho,ho2,?_⟩
  rw[e]
  exact h2 hw
def sIx(n d:Nat):Option Int->Nat
 | none=>d
 | some v=>if v<0 then(v+(n:Int)).toNat else min v.toNat n
end
end HT
namespace L2
open PySem PySem.Spec PyProof.Rows
variable{xs:List V}{its its' us:List Value}{j n:Nat}{i:Int}{α:Type}{pins:List (Addr×Obj)}{σ:St}{H:Hp}{s:Shared}{p:Addr}
abbrev TO:=St->Hp->(Option Int->Hp->Prop)->Prop
def PO(X:Cx)(e:Option Expr)(t:TO):Prop :=
 ∀(pins:List (Addr×Obj)) (s:Shared) (σ:St) (H:Hp) (Q:Option Int->Hp->Prop),ai X pins σ H s->t σ H Q ->
  wpAny (model X.prog X.w) X.A (evalPart e X.env) (fun u s' => ∃o H',ai X pins σ H' s'/\IsPart u o/\Q o H') X.xe s
def yj:TO:=fun _ H Q=>Q none H
def Dm(t:TE):TO:=fun σ H Q=>t σ H fun x H1 => ∃i,x=.int i/\Q (some i) H1
theorem kO{ns:List Int}:∀{us:List Value},av (ns.map V.int) us->IntsAre us ns:=by
 induction ns with
 | nil=>intro us r;rw[List.map_nil]at r;cases r;exact .nil
 | cons n ns ih =>
  intro us r
  rw[List.map_cons]at r
  cases r with
  | cons r1 r2 =>
   obtain⟨t,e⟩:=r1
   subst e
   exact .cons n t (ih r2)
section
variable{X:Cx}{e:Expr}{te:TE}{lo hi:Option Expr}{tl th:TO}{pos p2:Pos}
theorem yR:PO X none yj:=by
 intro pins s σ H Q I h
 rw[evalPart_none]
 exact wpAny_pure ⟨none,H,I,.none,h⟩
theorem yQ(h:PE X e te):PO X (some e) (Dm te):=by
 intro pins s σ H Q I hw
 rw[evalPart_some]
 refine aH (h pins s σ H _ I hw) fun u s1 ⟨x,H1,I1,r1,q1⟩=>?_
 obtain⟨i,rfl,q⟩:=q1
 obtain⟨t,rfl⟩:=r1
 exact⟨some i,H1,I1,.int i t,q⟩
def Cz(xs:List V)(lo hi:Option Int):List V:=(xs.drop (HT.sIx xs.length 0 lo)).take (HT.sIx xs.length xs.length hi-HT.sIx xs.length 0 lo)
def Fv(K:W.Frag):R2:=fun x y H Q => ∃a b ns ms,x=.ref a/\y=.ref b/\bg K H a (ns.map V.int)/\bg K H b (ms.map V.int)/\Q (.bl (HT.lexLt ns ms)) H
theorem Bk(hu:X.A.units<cLine):bC X (compareOp .Lt) (Fv X.K):=by
 intro pins s σ H x y v u Q I rx ry h
 obtain⟨a,b,ns,ms,rfl,rfl,ha,hb,q⟩:=h
 cases rx
 cases ry
 obtain⟨its,r1,p1,_⟩:=I.tuple ha
 obtain⟨its2,r2,p2,_⟩:=I.tuple hb
 have i1:IntsAre its.toArray.toList ns:=kO r1
 have i2:IntsAre its2.toArray.toList ms:=kO r2
 exact HT.lt_tupInts p1 p2 i1 i2 hu ⟨.bl (HT.lexLt ns ms),H,I,rfl,q⟩
def DB(K:W.Frag):R2:=fun x y H Q => ∃a b xs ys,x=.ref a/\y=.ref b/\bg K H a xs/\bg K H b ys/\xs≠[]/\xs.length+ys.length<=sizeLine /\
 (ys=[]->Q (.ref a) H)/\(ys≠[]->∀p,H p=none->Q (.ref p) (az H p (.tup (xs++ys))))
theorem av.nil_iff(r:av xs us):us=[]↔xs=[]:=by
 cases r with
 | nil=>simp
 | cons _ _=>simp
theorem y9:bC X (binaryOp .Add) (DB X.K):=by
 intro pins s σ H x y v u Q I rx ry h
 obtain⟨a,b,xs,ys,rfl,rfl,ha,hb,hx,hz,q1,q2⟩:=h
 cases rx
 cases ry
 obtain⟨its,r1,p1,_⟩:=I.tuple ha
 obtain⟨its2,r2,p2,_⟩:=I.tuple hb
 refine HT.cat_tup p1 p2 (fun z=>hx (r1.nil_iff.mp z)) (fun z=>⟨.ref a,H,I,rfl,q1 (r2.nil_iff.mp z)⟩) (fun z=>?_) (by rw[<- r1.length,<- r2.length];exact hz)
 refine⟨.ref s.heap.objs.size,_,I.laid (t':=s.toks) (o:=.tup (xs++ys)) (fun b ob q=>Heap.get?_push_of_some _ q) (Nat.le_refl _) ?_,rfl,q2 (fun w=>z (r2.nil_iff.mpr w)) _ (I.hok.fresh (Nat.le_refl _))⟩
 exact⟨by rw[List.length_append];exact hz,_,r1.append r2,ly.new _ _⟩
end
def gZ(n:Nat)(i:Int):Option Nat:=if 0<=i then(if i<n then some i.toNat else none)else if -(n:Int)<=i then some (i+n).toNat else none
def atI{α:Type}(xs:List α)(i:Int):Option α:=(gZ xs.length i).bind fun j=>xs[j]?
theorem rm(h:gZ n i=some j):seqIndex? i n=some j/\j<n /\ -(n:Int)<=i/\i<n:=by
 unfold gZ at h
 by_cases h0:0<=i
 ·rw[if_pos h0]at h
  by_cases h1:i<n
  ·rw[if_pos h1]at h
   have e:i.toNat=j:=Option.some.inj h
   exact⟨by rw[seqIndex_of h0 h1,e],by omega,by omega,h1⟩
  ·rw[if_neg h1]at h;cases h
 ·rw[if_neg h0]at h
  by_cases h1:-(n:Int)<=i
  ·rw[if_pos h1]at h
   have e:(i+n).toNat=j:=Option.some.inj h
   exact⟨by rw[seqIndex_neg (by omega) h1,e],by omega,h1,by omega⟩
  ·rw[if_neg h1]at h;cases h
theorem rG{xs:List α}{v:α}(h:atI xs i=some v):∃j,seqIndex? i xs.length=some j/\xs[j]?=some v/\j<xs.length /\ -(xs.length:Int)<=i/\i<xs.length:=by
 unfold atI at h
 cases e:gZ xs.length i with
 | none=>rw[e]at h;cases h
 | some j =>
  rw[e]at h
  obtain⟨h1,h2,h3,h4⟩:=rm e
  exact⟨j,h1,h,h2,h3,h4⟩
theorem zZ{xs:List α}{v:α}(h:xs[j]?=some v):atI xs (j:Int)=some v:=by
 have hj:j<xs.length:=(List.getElem?_eq_some_iff.mp h).1
 have e:gZ xs.length (j:Int)=some j:=by
  unfold gZ
  rw[if_pos (by omega),if_pos (by omega)];simp
 unfold atI;rw[e];exact h
def d9(b:Expr):Prop:=∀o i,subscripted b false o i=operate [o,i] (getItem o i)
def vH(X:Cx)(r:R2):Prop :=
 ∀(value slice:Expr) (pins:List (Addr×Obj)) (s:Shared) (σ:St) (H:Hp) (x y:V) (v u:Value) (Q:VK),ai X pins σ H s->aJ x v->aJ y u->r x y H Q ->
  subscripted slice false v u=operate [v,u] (getItem v u)->wpAny (model X.prog X.w) X.A (subscriptTail value slice v u) (EP X pins σ Q) X.xe s
def rL(X:Cx)(id:String)(r:V->List V->Hp->VK->Prop):Prop :=
 ∀(pins:List (Addr×Obj)) (s:Shared) (σ:St) (H:Hp) (x:V) (xs:List V) (v:Value) (us:List Value) (Q:VK),ai X pins σ H s->aJ x v->av xs us->r x xs H Q ->
  wpAny (model X.prog X.w) X.A (call (.builtin id) (v::us)) (EP X pins σ Q) X.xe s
section
variable{X:Cx}{a b:Expr}{ta tb:TE}{pos:Pos}
theorem nE{r:R2}(hr:vH X r)(ha:PE X a ta)(hb:PE X b tb)(hs:d9 b):PE X (.Subscript a b pos) (Et r ta tb):=by
 intro pins s σ H Q I h
 exact Subscript_ (CT ha hb I h fun v u s2 x y H2 I2 rx ry q=>hr a b pins s2 σ H2 x y v u Q I2 rx ry q (hs _ _))
def Fy(K:W.Frag):R2:=fun x y H Q => ∃p xs i v,x=.ref p/\y=.int i/\bM K H p xs/\atI xs i=some v/\Q v H
def Fw(K:W.Frag):R2:=fun x y H Q => ∃p xs i v,x=.ref p/\y=.int i/\bg K H p xs/\atI xs i=some v/\Q v H
theorem zq:vH X (Fy X.K):=by
 intro value slice pins s σ H x y v u Q I rx ry h hs
 obtain⟨p,xs,i,z,rfl,rfl,hq,he,q⟩:=h
 cases rx
 obtain⟨t,rfl⟩:=ry
 obtain⟨its,r,pl,hz⟩:=I.list hq
 obtain⟨j,h1,h2,h3,h4,h5⟩:=rG he
 obtain⟨w,ew,rw'⟩:=r.get h2
 have hl:=r.length
 have hn:=kK
 have fin:EP X pins σ Q w s:=⟨z,H,I,rw',q⟩
 by_cases h0:0<=i
 ·have hj:i.toNat=j:=by
   rw[seqIndex_of h0 h5]at h1
   exact Option.some.inj h1
  exact item_listR pl.isList h0 (by omega) (by rw[hj];simpa using ew) fin hs
 ·have hj:(i+(its.toArray.size:Int)).toNat=j:=by
   rw[seqIndex_neg (by omega) h4]at h1
   rw[List.size_toArray,<- hl]
   exact Option.some.inj h1
  exact subscriptTail_builtinR (x:=w) pl.isList.typeIs slot_list_getitem.lookup
   (wpAny_getItem_list_neg (Q:=fun r s'=>r=w/\EP X pins σ Q r s') pl.isList (by omega) (by rw[List.size_toArray]<;>omega) (by omega) (by rw[hj];simpa using ew) ⟨rfl,fin⟩) hs
theorem BK:vH X (Fw X.K):=by
 intro value slice pins s σ H x y v u Q I rx ry h hs
 obtain⟨p,xs,i,z,rfl,rfl,hq,he,q⟩:=h
 cases rx
 obtain⟨t,rfl⟩:=ry
 obtain⟨its,r,pl,hz⟩:=I.tuple hq
 obtain⟨j,h1,h2,h3,h4,h5⟩:=rG he
 obtain⟨w,ew,rw'⟩:=r.get h2
 have hl:=r.length
 have hn:=kK
 have fin:EP X pins σ Q w s:=⟨z,H,I,rw',q⟩
 exact subscriptTail_builtinR (x:=w) pl.typeIs slot_tuple_getitem.lookup
  (getItem_tuple (j:=j) (Q:=fun r s'=>r=w/\EP X pins σ Q r s') pl (by omega) (by omega) (by rw[List.size_toArray,<- hl];exact h1) (by simpa using ew) ⟨rfl,fin⟩) hs
theorem sC(its:List Value)(n j:Nat)(u:Value):Obj.mapSeq (·.setIfInBounds j u) { cls:=.type "list", data:=.seq its.toArray n } = { cls:=.type "list", data:=.seq (its.set j u).toArray n }:=by
 simp[Obj.mapSeq]
theorem ai.lst(I:ai X pins σ H s)(h:H p=some (.lst xs)) :
  ∃(its:List Value) (n:Nat),av xs its/\s.heap.get? p=some { cls:=.type "list", data:=.seq its.toArray n }/\xs.length<=sizeLine:=by
 obtain⟨z,its,n,r,e⟩:=I.hok p _ h
 exact⟨its,n,r,e,z⟩
theorem ai.lstUpd{ys:List V}{n':Nat}{f:Obj->Obj}(I:ai X pins σ H s)(h:H p=some (.lst xs))
  (ho:s.heap.get? p=some { cls:=.type "list", data:=.seq its.toArray n }) (hf:f { cls:=.type "list", data:=.seq its.toArray n } = { cls:=.type "list", data:=.seq its'.toArray n' }) (r:av ys its') (hz:ys.length<=sizeLine) (t:Nat) :
  ai X pins σ (az H p (.lst ys)) { s with heap:=s.heap.update p f,toks:=t }:=by
 have e:(s.heap.update p f).get? p=some { cls:=.type "list", data:=.seq its'.toArray n' }:=by
  rw[Heap.get?_update_self f ho (by rw[hf]<;>rfl),hf]
 refine I.write (x:=p) (e:=p) (by rw[h];trivial) (.inl rfl) (fun b u hb q=>(Heap.get?_update_other _ _ (Ne.symm hb)).trans q) ⟨_,e⟩ ?_
 exact⟨hz,its',n',r,e⟩
def Dz:V->V->V->Hp->(Hp->Prop)->Prop:=fun o i v H Q => ∃p xs k j,o=.ref p/\i=.int k/\H p=some (.lst xs)/\gZ xs.length k=some j/\Q (az H p (.lst (xs.set j v)))
theorem vS:wR X Dz:=by
 intro pins s σ H o i v ov iv u Q I ro ri rv h
 obtain⟨p,xs,k,j,rfl,rfl,hp,hj,q⟩:=h
 cases ro
 obtain⟨t,rfl⟩:=ri
 obtain⟨its,n,r,ho,hz⟩:=I.lst hp
 obtain⟨h1,h2,h3,h4⟩:=rm hj
 have hl:=r.length
 have hn:=kK
 have I':ai X pins σ (az H p (.lst (xs.set j v))) { s with heap:=s.heap.update p (Obj.mapSeq (·.setIfInBounds j u)) } :=
  I.lstUpd hp ho (sC its n j u) (r.set rv j) (by rw[List.length_set];exact hz) s.toks
 by_cases h0:0<=k
 ·have hk:k.toNat=j:=by
   rw[seqIndex_of h0 h4]at h1
   exact Option.some.inj h1
  exact W.ki_setAt ho h0 (by omega) (by rw[List.size_toArray,<- hl];exact h4) (by rw[hk];exact⟨_,I',q⟩)
 ·have hk:(k+(its.toArray.size:Int)).toNat=j:=by
   rw[seqIndex_neg (by omega) h3]at h1
   rw[List.size_toArray,<- hl]
   exact Option.some.inj h1
  exact W.ki_setBack ho (by omega) (by rw[List.size_toArray,<- hl];exact h3) (by omega) (by rw[hk];exact⟨_,I',q⟩)
theorem iH:dH X (.builtin "len") (fun xs H Q => ∃p ys,xs=[.ref p]/\(bM X.K H p ys\/bg X.K H p ys)/\Q (.int ys.length) H):=by
 intro pins s σ H xs us Q I r h
 obtain⟨p,ys,rfl,hq,q⟩:=h
 obtain⟨u,rfl,rx⟩:=nC r
 cases rx
 have hn:=kK
 rcases hq with hq|hq
 ·obtain⟨its,r',pl,hz⟩:=I.list hq
  have hlen:=r'.length
  exact Calls.call_len_list pl.isList (by simp only[List.size_toArray]<;>omega) ⟨.int ys.length,H,I.tok _,⟨s.toks+1,by rw[List.size_toArray,hlen]⟩,q⟩
 ·obtain⟨its,r',pl,hz⟩:=I.tuple hq
  have hlen:=r'.length
  exact len_tuple pl (by simp only[List.size_toArray]<;>omega) ⟨.int ys.length,H,I.tok _,⟨s.toks+1,by rw[List.size_toArray,hlen]⟩,q⟩
def Ag(K:W.Frag)(T:String)(x:V)(H:Hp):Prop:=match x with
  | .str _=>T = "str"
  | .int _=>T = "int"
  | .ref p=>(T = "list" /\ ∃xs,bM K H p xs)\/(T = "tuple" /\ ∃xs,bg K H p xs) \/
      (T = "dict" /\ ((∃kvs,H p=some (.dK kvs))\/∃kvs,H p=some (.dT kvs)))\/(T = "set" /\ ∃S n,H p=some (.set S n))
  | _=>False
theorem tz{T:String}{x:V}{v:Value}(I:ai X pins σ H s)(r:aJ x v)(ty:Ag X.K T x H) :
  s.TypeIs v T/\∀a,v=.ref a->∃ob,s.heap.get? a=some ob/\ob.dict=none:=by
 cases x with
 | str z =>
  obtain⟨t,rfl⟩:=r
  cases (show T = "str" from ty)
  exact⟨typeIs_str s z t,fun _ e=>nomatch e⟩
 | int i =>
  obtain⟨t,rfl⟩:=r
  cases (show T = "int" from ty)
  exact⟨typeIs_int s i t,fun _ e=>nomatch e⟩
 | ref p =>
  cases r
  rcases ty with⟨rfl,xs,hq⟩|⟨rfl,xs,hk⟩|⟨rfl,hk⟩|⟨rfl,S,n,hk⟩
  ·obtain⟨its,_,pl,_⟩:=I.list hq
   refine⟨pl.isList.typeIs,fun a e=>?_⟩
   cases e
   obtain⟨o,n,e,c,hd,_⟩:=pl
   exact⟨o,e,hd⟩
  ·obtain⟨o,e0,hc,hd⟩:=I.tupN hk
   refine⟨⟨o,e0,hc⟩,fun a e=>?_⟩
   cases e
   exact⟨o,e0,hd⟩
  ·have z:∃o,s.heap.get? p=some o/\o.ExactDict:=by
    rcases hk with⟨kvs,hk⟩|⟨kvs,hk⟩
    ·obtain⟨_,_,_,_,o,_,_,e,ex,_⟩:=I.hok p _ hk
     exact⟨o,e,ex⟩
    ·obtain⟨_,_,_,_,o,_,_,e,ex,_⟩:=I.hok p _ hk
     exact⟨o,e,ex⟩
   obtain⟨o,e,ex⟩:=z
   refine⟨⟨o,e,ex.1⟩,fun a e2=>?_⟩
   cases e2
   exact⟨o,e,ex.2.1⟩
  ·obtain⟨o,_,_,_,e,ex,_⟩:=I.hok p _ hk
   refine⟨⟨o,e,ex.1⟩,fun a e2=>?_⟩
   cases e2
   exact⟨o,e,ex.2.1⟩
 | _=>exact False.elim ty
def E9(K:W.Frag)(T:String)(r:V->List V->Hp->VK->Prop)(to:TE):TE:=fun σ H Q=>to σ H fun x H1=>Ag K T x H1/\r x [] H1 Q
def GP(K:W.Frag)(T:String)(r:V->List V->Hp->VK->Prop)(to:TE)(t:TA):TE:=fun σ H Q=>to σ H fun x H1=>Ag K T x H1/\t σ H1 fun xs H2=>r x xs H2 Q
variable{o e:Expr}{es:List Expr}{to:TE}{t:TA}{name:Str}{apos cpos:Pos}{T id:String}{r:V->List V->Hp->VK->Prop}
theorem Ba(pa:PlainAttrs T)(slot:Slot T name id)(hty:typeOf (.builtin id)=pure (.type "method_descriptor"))(hm:rL X id r)(ho:PE X o to)
  (hbase:attributeBase o name X.env (eval o X.env)=eval o X.env:=by rfl) (hline:(apos.endLine==cpos.line)=true:=by rfl):PE X (.Call (.Attribute o name apos) [] [] cpos) (E9 X.K T r to):=by
 intro pins s σ H Q I h
 refine wpAny_Call_method0_late hbase hline (aH (ho pins s σ H _ I h) fun v s1 ⟨x,H1,I1,r1,ty,q1⟩=>?_)
 obtain⟨h1,h2⟩:=tz I1 r1 ty
 exact⟨T,id,pa,slot,hty,h1,h2,Calls.callWith_builtin rfl (PySem.evalArgs_none (hm pins s1 σ H1 x [] v [] Q I1 r1 .nil q1))⟩
theorem sk(pa:PlainAttrs T)(slot:Slot T name id)(hty:typeOf (.builtin id)=pure (.type "method_descriptor"))(hm:rL X id r)(ho:PE X o to)(ha:PA X (e::es) t)
  (hbase:attributeBase o name X.env (eval o X.env)=eval o X.env:=by rfl)
  (hfew:((backTo cpos (starEach (e::es) X.env)).all (fun x => !x.1)&&(backToKw cpos (keywordEach [] X.env)).all (fun x=>x.1.isSome)
   && decide ((e::es).length+([]:List Keyword).length+(if ([]:List Keyword).isEmpty then 0 else 1)<30))=true:=by rfl)
  (hline:(apos.endLine==cpos.line)=true:=by rfl) (hs:starEach (e::es) X.env=(false,eval e X.env)::starEach es X.env:=by rfl) (hplain:(backTo cpos (starEach es X.env)).any (·.1)=false:=by rfl) :
  PE X (.Call (.Attribute o name apos) (e::es) [] cpos) (GP X.K T r to t):=by
 intro pins s σ H Q I h
 refine wpAny_Call_method_late hbase hfew hline rfl (aH (ho pins s σ H _ I h) fun v s1 ⟨x,H1,I1,r1,ty,q1⟩=>?_)
 obtain⟨h1,h2⟩:=tz I1 r1 ty
 refine⟨T,id,pa,slot,hty,h1,h2,?_⟩
 have hA:=ha cpos pins s1 σ H1 _ I1 q1
 rw[hs]at hA⊢
 refine Calls.callWith_builtin (by show(false || (backTo cpos (starEach es X.env)).any (·.1))=false;rw[hplain]<;>rfl) (Calls.evalArgs_plain ?_)
 exact aH hA fun us s2 ⟨vs,H2,I2,r2,q2⟩=>hm pins s2 σ H2 x vs v us Q I2 r1 r2 q2
/- xs.append(e),list.index on a module's tuple .. are rL facts of 06m -/
end
def x8(X:Cx)(id:String)(r:V->List V->Hp->VK->Prop):Prop :=
 ∀(pins:List (Addr×Obj)) (s:Shared) (σ:St) (H:Hp) (x:V) (xs:List V) (v:Value) (us:List Value) (Q:VK),ai X pins σ H s->aJ x v->av xs us->r x xs H Q ->
  wpAny (model X.prog X.w) X.A (call (.builtin id) (v::us)) (EP X pins σ Q) X.xe s
theorem av.one:∀{x:V} {us:List Value},av [x] us->∃u,us=[u]/\aJ x u
 | _,_,.cons r .nil=>⟨_,rfl,r⟩
theorem av.two:∀{x y:V} {us:List Value},av [x,y] us->∃u v,us=[u,v]/\aJ x u/\aJ y v
 | _,_,_,.cons r (.cons q .nil)=>⟨_,_,rfl,r,q⟩
theorem av.zero:∀{us:List Value},av [] us->us=[]
 | _,.nil=>rfl
theorem av.reverse(h:av xs us):av xs.reverse us.reverse:=by
 induction h with
 | nil=>exact .nil
 | cons r t ih=>rw[List.reverse_cons,List.reverse_cons];exact av.append ih (.cons r .nil)
section
variable{X:Cx}{l b:Addr}{ys zs:List V}
theorem ai.lset{f:Array Value->Array Value}{t':Nat}(I:ai X pins σ H s)(hH:H l=some (.lst xs))
  (e:s.heap.get? l=some { cls:=.type "list", data:=.seq its.toArray n }) (hf:f its.toArray=its'.toArray) (hv:av ys its') (hz:ys.length<=sizeLine) :
  ai X pins σ (az H l (.lst ys)) { s with heap:=s.heap.update l (Obj.mapSeq f),toks:=t' }:=by
 have q:=PySem.IsL.update e f
 rw[hf]at q
 refine I.write (x:=l) (e:=l) (by rw[hH];exact trivial) (.inl rfl) (fun b' u hb hu=>(Heap.get?_update_other s.heap (Obj.mapSeq f) (Ne.symm hb)).trans hu) ⟨_,q⟩ ?_
 exact⟨hz,its',_,hv,q⟩
theorem ai.lnew{t':Nat}(I:ai X pins σ H s)(hv:av ys its)(hz:ys.length<=sizeLine) :
  ai X pins σ (az H s.heap.objs.size (.lst ys)) { s with heap:=s.heap.push { cls:=.type "list", data:=.seq its.toArray },toks:=t' } :=
 I.laid (fun _ _ q=>Heap.get?_push_of_some _ q) (Nat.le_refl _) ⟨hz,its,0,hv,Heap.get?_push_size _ rfl⟩
theorem ai.fresh(I:ai X pins σ H s):H s.heap.objs.size=none:=I.hok.fresh (Nat.le_refl _)
theorem ai.lstM(I:ai X pins σ H s)(hH:H l=some (.lst xs)):xs.length<=sizeLine/\∃(its:List Value) (n:Nat),av xs its/\xs.length=its.length/\s.heap.get? l=some { cls:=.type "list", data:=.seq its.toArray n }:=by
 obtain⟨z,its,n,r,e⟩:=I.hok l _ hH
 exact⟨z,its,n,r,r.length,e⟩
theorem wg(h:n<=sizeLine):Builtin.List.listTooLong n=false:=by
 unfold Builtin.List.listTooLong
 exact decide_eq_false (by omega)
end
section
variable{X:Cx}
def yE:V->List V->Hp->VK->Prop:=fun x vs H Q => ∃l xs y,x=.ref l/\vs=[y]/\H l=some (.lst xs)/\xs.length<sizeLine/\Q .non (az H l (.lst (xs++[y])))
theorem io:x8 X "list.append" yE:=by
 intro pins s σ H x vs v us Q I rx rv h
 obtain⟨l,xs,y,rfl,rfl,hH,hz,q⟩:=h
 cases rx
 obtain⟨u,rfl,ru⟩:=rv.one
 obtain⟨z,its,n,r,hl,e⟩:=I.lstM hH
 refine call_meets F.slot_list_append ⟨_,e,rfl⟩ F.entry_list_append (F.args_list_append_2 _ _) (PySem.list_append l its.toArray n u (by rw[List.size_toArray];omega)) ⟨e,?_⟩
 refine⟨.non,_,I.lset (its':=its++[u]) hH e (by simp) (r.append (.cons ru .nil)) ?_,rfl,q⟩
 rw[List.length_append,List.length_singleton]
 omega
def yD:V->List V->Hp->VK->Prop:=fun x vs H Q => ∃l b xs zs,x=.ref l/\vs=[.ref b]/\H l=some (.lst xs)/\H b=some (.lst zs)/\xs.length+zs.length<=sizeLine/\Q .non (az H l (.lst (xs++zs)))
theorem ur:x8 X "list.extend" yD:=by
 intro pins s σ H x vs v us Q I rx rv h
 obtain⟨l,b,xs,zs,rfl,rfl,hH,hB,hz,q⟩:=h
 cases rx
 obtain⟨u,rfl,ru⟩:=rv.one
 cases ru
 obtain⟨z,its,n,r,hl,e⟩:=I.lstM hH
 obtain⟨z2,its2,n2,r2,hl2,e2⟩:=I.lstM hB
 have hsz:its.toArray.size+its2.toArray.size<=sizeLine:=by rw[List.size_toArray,List.size_toArray];omega
 have hlong:¬ (!its.toArray.isEmpty&&Builtin.List.listTooLong (its.toArray.size+its2.toArray.size))=true:=by
  rw[wg hsz,Bool.and_false]
  exact Bool.false_ne_true
 refine call_meets F.slot_list_extend ⟨_,e,rfl⟩ F.entry_list_extend (F.args_list_extend_2 _ _)
  (AutoSeq1.list_extend_list_list_0 l its.toArray n b its2.toArray n2 hlong (by rw[List.size_toArray];omega) (by omega)) ⟨e,e2,?_⟩
 refine⟨.non,_,I.lset (its':=its++its2) hH e (by simp) (r.append r2) ?_,rfl,q⟩
 rw[List.length_append]
 omega
end
section
variable{prog:Program}{w:World}{A:Around}{E:Value->Shared->Prop}
set_option maxRecDepth 100000 in
end
section
variable{X:Cx}
end
end L2
namespace Att
open PySem PySem.W PySem.Calls PyProof.Rows
variable{P:Params}{h:Heap}{l:OpenLaw}{n:Nat}
theorem kM:∀(ns:List Int) (vs:List Value),WellAll P h vs (ns.map WData.int)->IntsAre vs ns:=by
 intro ns
 induction ns with
 | nil =>
  intro vs w
  rw[List.map_nil]at w
  cases w
  exact .nil
 | cons n ns ih =>
  intro vs w
  rw[List.map_cons]at w
  cases w with
  | cons a b =>
   cases a
   exact .cons _ _ (ih _ b)
theorem tV(hn:l.most=some n){args:List WData}{vals:List Value}
  (hpre:l.row.toRowW.claim.pre args=true) (hwl:WellAll P h vals args) :
  ∃a vs ns,vals=[Value.ref a]/\args=[WData.list (ns.map WData.int)]/\h.get? a=some { cls:=.type "list", data:=.seq vs.toArray }/\IntsAre vs ns/\ns.length<=n:=by
 have hsh:WShape.hasAll [] args [.list .int]=true:=(pre_splitW hpre).1
 have hc:l.pre.holds [] { args:=args }=true:=(pre_splitW hpre).2
 obtain⟨d,r,rfl,h1,h2⟩:=hasAllW_cons hsh
 obtain rfl:=hasAllW_nil h2
 obtain⟨xs,rfl,h3⟩:=hasW_list h1
 obtain⟨ns,rfl⟩:=items_int h3
 have hlen:ns.length<=n:=by
  unfold OpenLaw.pre at hc
  have h4:(WTm.not (.lt (.lit (.int (n:Int))) (.len (.arg 0)))).holds [] { args:=[.list (ns.map .int)] }=true:=by
   have h4:=(holds_andW hc).1
   rw[hn]at h4
   exact h4
  have h5:=condW_of h4 (w_not (w_lt w_lit (w_len_list (w_arg rfl))))
  rw[List.length_map]at h5
  refine Nat.le_of_not_lt fun q=>?_
  have q':(n:Int)<((ns.length:Nat):Int):=by omega
  first
   | (rw[decide_eq_true q']at h5;exact absurd h5 (by decide))
   | (simp at h5;omega)
 cases hwl with
 | cons w1 w2 =>
  cases w2
  cases w1 with
  | list ho hall=>exact⟨_,_,ns,rfl,rfl,ho,kM ns _ hall,hlen⟩
theorem ue(l:OpenLaw)(args:List WData):l.row.toRowW.claim.post args (.bool true) args=true :=
 postW_of (r:=l.row.toRowW) (X:=(true==true))
  (show WShape.has [] (.bool true) .bool=true by first|rfl|decide|simp[WShape.has,WShape.arms,WShape.armsAll])
  (show(WTm.eq .res (.lit (.bool true))).value [] { args:=args,res:=some (.bool true),after:=args }=some (.bool (true==true))from w_eq_bool (w_res rfl) w_lit) rfl
theorem attach_call{q:Program}{loose:List Str}{XP:(Str->Option Value)->Heap->Prop}{YP:World->Heap->Prop}{d:DefRec}
  (hn:l.most=some n) (hdf:d.params.defaults=[])
  (call:∀(w:World) (s₀ s₁:Shared) (mg mb:Str->Option Value) (fa:Addr) (o:Obj) (pm cd doc:Value) (a:Addr) (vs:List Value) (ns:List Int),
   Ground q loose [] XP w s₀ mg mb s₁.heap->YP w s₁.heap ->
   s₁.heap.get? fa=some o->o.data=.func (docDef d.name d.params d.body d.scope pm cd doc)->s₁.heap.CodeRec cd d.name->mg d.name=some (.ref fa) ->
   s₁.heap.get? a=some { cls:=.type "list", data:=.seq vs.toArray }->IntsAre vs ns->ns.length<=n->s₁.gens = #[] ->
   codeAny (model l.prog w) callerA (.call (.ref fa) ⟨[.ref a],[]⟩) (fun r s'=>r=.ok (.ret (.bool true))/\OldK s₁.heap s'.heap/\s'.os=s₁.os/\AllBare s'.gens) s₁) :
  WalkO q loose XP YP l.row.toRowW d [] (fun f vs=>PySem.call f vs):=by
 intro w s₀ s₁ mg mb G Y fa o pm cd doc dV kV ho hd hcd hD hmg hg args vals as hpre hlay hrd hwl hlo
 obtain rfl:dV=.none:=Dflts.none hD hdf
 obtain rfl:kV=.none:=Dflts.noKw hD
 obtain⟨a,vs,ns,rfl,rfl,hobj,hints,hlen⟩:=tV hn hpre hwl
 refine enter_call (codeAny_mono (call w s₀ s₁ mg mb fa o pm cd doc a vs ns G Y ho (fd_plain hd) hcd hmg hobj hints hlen hg) fun r s' hq=>?_)
 obtain⟨rfl,h2,h3,h4⟩:=hq
 exact⟨.inl ⟨.bool true,.bool true,[],rfl,fun _=>rfl,.bool true,ue l _,fun _=>⟨List.Pairwise.nil,fun _ hm=>(nomatch hm)⟩⟩,h2,h3,h4⟩
section
variable{prog:Program}{w:World}{A:Around}{E:Value->Shared->Prop}{s:Shared}{K:Frag}
end
end Att
namespace L2
open PySem PySem.Spec PyProof.Rows
variable{k:Nat}{x:Str}
theorem mL:∀{vs:List Value} {ns:List Int},IntsAre vs ns->av (ns.map V.int) vs
 | _,_,.nil=>.nil
 | _,_,.cons n t h=>.cons ⟨t,rfl⟩ (mL h)
def tf(H:Hp):Prop:=∀b,H b=none\/∃o xs,H b=some (.frz o (.lst xs))
theorem wq{P:Program}{w:World}{K:W.Frag}{mg mb:Str->Option Value}{CX:gE}{fa a:Addr}{fd:FuncData}{sp:Sp}{s₁:Shared}{vs:List Value}{ns:List Int}
    (KX:K.In s₁.heap) (hns:s₁.heap.Ns mainGlobals mg) (hb:s₁.heap.Ns builtinsNs mb) (hbb:∀x:Str,x ≠ "__name__" -> mb x=bootBuiltins x) (hlim:s₁.heap.NoLimit) (hg:s₁.gens = #[])
    (ha:s₁.heap.get? a=some { cls:=.type "list", data:=.seq vs.toArray }) (hi:IntsAre vs ns) (hl:ns.length<=sizeLine) (hr:bc k callerA)
    (F:∀base:Heap,K.In base->base.Ns mainGlobals mg->be P w K mg base CX k fa fd [x] sp) (hbind:∀(s:Shared) (u:Value),BindsTo s fd ⟨[u],[]⟩ [(x,u)])
    (hsp:∀H:Hp,tf H->bM K H a (ns.map V.int)->sp [.ref a] H (fun v _=>v=.bl true) fun _ _ _=>False)
    (hCX:∀H e s',CX [] H s₁ (fun _ _ _=>False) e s'->False) :
    codeAny (model P w) callerA (.call (.ref fa) ⟨[.ref a],[]⟩) (fun r s'=>r=.ok (.ret (.bool true))/\OldK s₁.heap s'.heap/\s'.os=s₁.os/\AllBare s'.gens) s₁:=by
  have rv:=mL hi
  have lenV:=hi.length
  have core:∀H:Hp,tf H->bM K H a (ns.map V.int)->bE P w H s₁.heap->(∀b,H b≠none->b=a)->(H a≠none->K.lookup a=none) ->
      codeAny (model P w) callerA (.call (.ref fa) ⟨[.ref a],[]⟩) (fun r s'=>r=.ok (.ret (.bool true))/\OldK s₁.heap s'.heap/\s'.os=s₁.os/\AllBare s'.gens) s₁:=by
    intro H hO hS hok hA hK
    have fo:∀{b:Addr} {o:Obj},s₁.heap.get? b=some o->H b=none->(gM s₁.heap H).get? b=some o:=fun e n=>ww e n
    have noA:∀{b:Addr} {o:Obj} {es:Array DictEntry} {ep:Nat},s₁.heap.get? b=some o->o.data=.dict es ep->H b=none:=fun {b o es ep} e d=>by
      cases q:H b with
      | none=>rfl
      | some u =>
        have e':b=a:=hA b (by rw[q];simp)
        subst e'
        rw[ha]at e;cases e
        have d':Data.seq vs.toArray _=Data.dict es ep:=d
        cases d'
    have nsK:∀{b:Addr} {m:Str->Option Value},s₁.heap.Ns b m->(gM s₁.heap H).Ns b m:=fun {b m} ⟨o,es,ep,e,d,r⟩=>⟨o,es,ep,fo e (noA e d),d,r⟩
    have hKb:K.In (gM s₁.heap H):=fun b o e=>fo (KX b o e) (by
      cases q:H b with
      | none=>rfl
      | some u =>
        have e':b=a:=hA b (by rw[q];simp)
        subst e'
        rw[hK (by rw[q];simp)]at e;cases e)
    have hM:Mod K mg (gM s₁.heap H):=⟨hKb,nsK hns,⟨mb,nsK hb,hbb⟩,let ⟨mc,h1,h2⟩:=hlim;⟨mc,nsK h1,h2⟩⟩
    have e0:ge P w K mg (gM s₁.heap H) callerA [] s₁ H:=⟨rfl,hM,fun b o e=>zb e,Nat.le_of_eq (uW _ _),trivial,fun b hb=>absurd (show b∈([]:List Addr)from hb) (by simp),hok,.of_eq hg⟩
    refine codeAny_mono ((F _ hKb (nsK hns)).run callerA [] s₁ H ⟨[.ref a],[]⟩ [.ref a] [.ref a] _ _ hr e0 (hbind s₁ (.ref a)) (.cons rfl .nil) (hsp H hO hS)) fun r s' h=>?_
    cases r with
    | error e=>exact(hCX H e s' h).elim
    | ok fl =>
      cases fl with
      | next=>exact False.elim h
      | brk=>exact False.elim h
      | cont=>exact False.elim h
      | ret u =>
        obtain⟨v,H',os,bare,un,hok',r',q⟩:=h
        have q':v=.bl true:=q
        subst q'
        obtain rfl:u=Value.bool true:=r'
        refine⟨rfl,OldK.of_keep fun b o e=>?_,os,bare⟩
        cases q:H b with
        | none=>exact un.keep b o e q (by intro z;exact absurd (show b∈([]:List Addr)from z) (by simp)) (by simp)
        | some u =>
          rcases hO b with z|⟨ob,xs,z⟩
          . rw[q]at z;cases z
          . have z2:=un.frzs b ob _ z
            obtain⟨e1,_⟩:=hok b _ z
            obtain⟨e2,_⟩:=hok' b _ z2
            rw[e]at e1;cases e1
            exact e2
  cases hk:K.lookup a with
  | some o =>
    have e:=KX a o hk
    rw[ha]at e
    cases e
    refine core (fun _=>none) (fun _=>.inl rfl) (.inr ⟨_,vs.toArray,_,hk,rfl,rfl,rfl,by rw[List.size_toArray,lenV];exact hl,by simpa using rv⟩) (fun b u z=>by have z':(none:Option HO)=some u:=z;cases z') (fun b z=>absurd rfl z) fun z=>absurd rfl z
  | none =>
    refine core (fun b=>if b=a then some (.frz { cls:=.type "list", data:=.seq vs.toArray } (.lst (ns.map V.int)))else none) (fun b=>?_) (.inl (.inr ⟨{ cls:=.type "list", data:=.seq vs.toArray },if_pos rfl⟩)) (fun b u z=>?_) (fun b z=>?_) fun _=>hk
    . by_cases hb:b=a
      . exact .inr ⟨_,_,if_pos hb⟩
      . exact .inl (if_neg hb)
    . by_cases hb:b=a
      . have z':=(if_pos hb).symm.trans z
        cases z'
        subst hb
        exact⟨ha,by rw[List.length_map];exact hl,vs,_,rv,ha⟩
      . have z':=(if_neg hb).symm.trans z
        cases z'
    . by_cases hb:b=a
      . exact hb
      . exact absurd (if_neg hb) z
abbrev KOf{K:W.Frag}{h:Heap}(_:K.In h):W.Frag:=K
theorem walk_of{l:W.OpenLaw}{n:Nat}{q:Program}{loose:List Str}{XP:(Str->Option Value)->Heap->Prop}{YP:World->Heap->Prop}{d:DefRec}{K:Params->W.Frag}{CX:World->gE}{sp:World->Sp}
  (hn:l.most=some n) (hn2:n<=sizeLine) (hdf:d.params.defaults=[]) (hr:bc k callerA)
  (hY:∀(w:World) (h:Heap),YP w h->(K w.params).In h)
  (F:∀(w:World) (mg:Str->Option Value) (fa:Addr) (h:Heap),(K w.params).In h->h.Ns mainGlobals mg->mg d.name=some (.ref fa) ->
   ∃fd:FuncData,(∀(s:Shared) (u:Value),BindsTo s fd ⟨[u],[]⟩ [(x,u)]) /\
    ∀base:Heap,(K w.params).In base->base.Ns mainGlobals mg->be l.prog w (K w.params) mg base (CX w) k fa fd [x] (sp w))
  (hsp:∀(w:World) (H:Hp) (a:Addr) (ns:List Int),ns.length<=n->tf H->bM (K w.params) H a (ns.map V.int)->sp w [.ref a] H (fun v _=>v=.bl true) fun _ _ _=>False)
  (hCX:∀(w:World) (H:Hp) (s:Shared) (e:Value) (s':Shared),CX w [] H s (fun _ _ _=>False) e s'->False) :
  W.WalkO q loose XP YP l.row.toRowW d [] (fun f vs=>PySem.call f vs):=by
 refine Att.attach_call hn hdf fun w s₀ s₁ mg mb fa o pm cd doc a vs ns G Y ho hd hcd hmg hobj hints hlen hg=>?_
 have KX:=hY w _ Y
 obtain⟨fd,hb,hF⟩:=F w mg fa _ KX G.T.g hmg
 exact wq KX G.T.g G.T.b G.T.builtins G.T.nolimit hg hobj hints (Nat.le_trans hlen hn2) hr hF hb (fun H hO hS=>hsp w H a ns hlen hO hS) fun H e s'=>hCX w H s₁ e s'
end L2
/- THE LAST THEOREM (shape;LID,My.* are yours):
   My.Adr: a structure of the addresses that your layer names (classes,functions);My.Txt K t: a structure (Prop) of the equations over K;
   My.txt_mk:{K} {implicit addresses ..} (e1:nsIn K mainGlobals "law" = some (some (.ref f))) (e2:K.lookup f=some ⟨oc,od,.func (fnOf "law" "law" params body scope dV kV doc pm an cdv ct),sl⟩) (e3:codeIn K cdv "law" = true) ..:∃t,My.Txt K t
set_option maxRecDepth 100000 in
set_option maxHeartbeats 0 in
theorem PySem.Challenge.cw_LID_holds : PySem.Challenge.rw_LID.Holds := by
 w_on;o_law;k_head;(case hw=>w_witness2)
 k_fill
 refine L2.walk_of (l:=PySem.Challenge.rw_LID) (n:=63) (k:=40) (x := "script") (CX:=fun w=>..) (sp:=fun _=>My.sp_law) rfl (by decide) rfl ⟨rfl,by decide,by decide⟩ (fun w h Y=>PySem.W.kIn_of Y) ?F ?S ?C
 case F =>
  intro w mg fa h KX G hmg
  have T:∃t,My.Txt (L2.KOf KX) t:=by
   dsimp only[L2.KOf]                          -- K must stand as «<heap const> w.params» for k_is
   refine' My.txt_mk ?e1 ?e2 ?e3 ..
   (case e1=>PySem.W.k_is)                    -- in the order: a name->its address->its object->its parts
   (case e2=>PySem.W.k_is)
   ..
  obtain⟨t,T⟩:=T
  have e0:=hmg.symm.trans (PySem.W.mg_of KX G T.law)
  cases e0                                       -- fa is the law's own address
  exact⟨_,fun s u=>.of_eq rfl,fun base kb nb=>My.law_fn T kb nb⟩     -- if «.of_eq rfl» comes too early: refine' ⟨_,?b,fun base kb nb=>My.law_fn T kb nb⟩;exact fun s u=>.of_eq rfl
 case S=>exact fun w H a ns hl hO hS=>..
 case C=>exact ..
(the tactic k_is has no namespace: write k_is) -/
namespace L2
open PySem PySem.Spec PyProof.Rows
variable{qual x:Str}{st:Stmt}{f:Addr}{fd:FuncData}{ps:List Str}{H H':Hp}
def bK(s:Stmt):Arguments:=match s with
 | .FunctionDef _ a _ _ _ _ _ _ _ _=>a
 | _ => { posonlyargs:=[],args:=[],vararg:=none,kwonlyargs:=[],kw_defaults:=[],kwarg:=none,defaults:=[] }
def au(s:Stmt):List Stmt:=match s with
 | .FunctionDef _ _ b _ _ _ _ _ _ _=>b
 | _=>[]
def aj(s:Stmt):Scope:=match s with
 | .FunctionDef _ _ _ _ _ _ sc _ _ _=>sc
 | _ => { kind:=.function,names:=[],isGenerator:=false,isCoroutine:=false }
abbrev cI:gE:=fun _ _ _ _ _ _=>False
abbrev E0:XK:=fun _ _ _=>False
theorem gI{X:Cx}:dE cI X E0:=fun _ _ _ _ _ _ _ h=>h.elim
structure jA(K:W.Frag)(x qual:Str)(st:Stmt)(f:Addr)(fd:FuncData):Prop where
 ex:∃(oc:Value) (od:Option Addr) (kV doc pm:Value) (an:Option Addr) (cdv ct:Value) (osl:Array (Option Value)),
  fd=W.fnOf x qual (bK st) (au st) (aj st) .none kV doc pm an cdv ct/\K.lookup f=some ⟨oc,od,.func fd,osl⟩/\W.codeIn K cdv qual=true
 kp:W.keepIn K (.ref f)=true
section
variable{P:Program}{w:World}{K:W.Frag}{mg:Str->Option Value}{base:Heap}
theorem jA.ok{N:List Str}{k:Nat}{sp:Sp}(F:jA K x qual st f fd)(S:bo N ps (aj st))(len:∀vs H Q E,sp vs H Q E->vs.length=ps.length)
  (hbody:∀(cdv:Value) (A:Around) (outer:List Env) (s:Shared) (H:Hp) (vs:List V) (Q:VK) (E:XK),bc k (A.deeper (envOfC qual (aj st) s.heap.objs.size f cdv))->sp vs H Q E ->
   ∃t,ck (fF cI P w K mg base N qual (aj st) f cdv A outer s H E).nox (au st) t/\t { nx:=fun _ H'=>Q .non H',rt:=Q } (start N vs) H):be P w K mg base cI (k+1) f fd ps sp:=by
 obtain⟨oc,od,kV,doc,pm,an,cdv,ct,osl,rfl,lk,hcd⟩:=F.ex
 refine xM lk hcd S len fun A outer s H vs Q E hr hsp=>?_
 obtain⟨t,h,q⟩:=hbody cdv A outer s H vs Q E hr hsp
 exact⟨t,h.nox,q⟩
theorem jA.binds(F:jA K x qual st f fd)
  (h:∀(kV doc pm:Value) (an:Option Addr) (cdv ct:Value) (us:List Value),us.length=ps.length->bindArgs (W.fnOf x qual (bK st) (au st) (aj st) .none kV doc pm an cdv ct) ⟨us,[]⟩=pure (ps.zip us)):bf K fd ps []:=by
 obtain⟨oc,od,kV,doc,pm,an,cdv,ct,osl,rfl,lk,hcd⟩:=F.ex
 exact .all (h kV doc pm an cdv ct)
theorem dw{oc:Value}{od an:Option Addr}{osl:Array (Option Value)}{kV doc pm cdv ct:Value}(l:K.lookup f=some ⟨oc,od,.func (W.fnOf x qual (bK st) (au st) (aj st) .none kV doc pm an cdv ct),osl⟩)
  (c:W.codeIn K cdv qual=true) (k:W.keepIn K (.ref f)=true):jA K x qual st f (W.fnOf x qual (bK st) (au st) (aj st) .none kV doc pm an cdv ct):=⟨⟨oc,od,kV,doc,pm,an,cdv,ct,osl,rfl,l,c⟩,k⟩
end
section
variable{X:Cx}
end
def ao(H H':Hp):Prop:=∀b o,H b=some o->H' b=some o
theorem ao.refl(H:Hp):ao H H:=fun _ _ h=>h
theorem ao.trans{H1 H2:Hp}(a:ao H H1)(b:ao H1 H2):ao H H2:=fun c o h=>b c o (a c o h)
theorem ao.free(e:ao H H'){l:Addr}(h:H' l=Option.none):H l=Option.none:=by
 cases q:H l with
 | none=>rfl
 | some o =>
  rw[e l o q]at h
  cases h
theorem ao.seq{K:W.Frag}{a:Addr}{xs:List V}(e:ao H H')(h:bM K H a xs):bM K H' a xs:=by
 rcases h with(h|⟨o,h⟩)|h
 ·exact .inl (.inl (e _ _ h))
 ·exact .inl (.inr ⟨o,e _ _ h⟩)
 ·exact .inr h
end L2
set_option maxHeartbeats 4000000
namespace L2
open PySem PySem.Spec PyProof.Rows
variable{hid:List Addr}{H:Hp}{base h h1 h2:Heap}{P prog:Program}{w:World}{M:Model}{A:Around}{E R:Value->Shared->Prop}{s s':Shared}{C L N S T fI x:Addr}{oI oe ox:Obj}{vs:Array Value}{Q:Unit->Shared->Prop}{env:Env}{outer:List Env}{dd od:Option Addr}{a0 e:Value}{K:W.Frag}{g:Array GenState}{d:Drawn}{os:OsState}{n q:Str}{bm bmB bs sub:List Value}{ab hdct:Bool}{sn:List Str}{col:Option Bool}{k0 k1 k2 k3 k5:Option Value}{B initId newId:String}{pos:Pos}{t:Nat}{mN:Str->Option Value}
theorem n4{fs:List Addr}{H':Hp}(u:Un fs [] H H' h h1)(hh:∀b o,h.get? b=some o->b∈hid->b∈fs)(k:∀b o,h1.get? b=some o->b∉hid->h2.get? b=some o)
  (kf:∀b∈fs,∀o,h1.get? b=some o->∃sl,h2.get? b=some { o with slots:=sl }):Un fs [] H H' h h2:=by
 refine⟨fun b o e n hb hx=>?_,fun b o e n hb hx=>?_,u.free,fun b o e hx=>?_,u.tups,u.frzs,u.tbls⟩
 ·exact k b o (u.keep b o e n hb hx) fun z=>hb (hh b o e z)
 ·obtain⟨sl,e1⟩:=u.slot b o e n hb hx
  obtain⟨sl',e2⟩:=kf b hb _ e1
  exact⟨sl',e2⟩
 ·obtain⟨o',e1⟩:=u.there b o e hx
  by_cases z:b∈hid
  ·obtain⟨sl,e2⟩:=kf b (hh b o e z) _ e1
   exact⟨_,e2⟩
  ·exact⟨o',k b o' e1 z⟩
theorem me(hk:bE P w H h1)(hn:∀b∈hid,H b=none)(k:∀b o,h1.get? b=some o->b∉hid->h2.get? b=some o):bE P w H h2:=fun a o e=>by
 have ne:∀b u,H b=some u->b∉hid:=fun b u e z=>by rw[hn b z]at e;cases e
 refine(hk a o e).stay (fun c v hc q=>k c v q ?_) (fun _ q=>q) fun _ _ q=>q
 rcases hc with z|z
 ·rw[z];exact ne a o e
 ·exact ne c _ z
theorem rq{h base:Heap}:∀{l:List Env},h.FunFrames base l->∀b∈bB l,∃o,h.get? b=some o/\∀vs,o.data ≠ .fields vs
 | [],_,b,hb=>by cases hb
 | env::l,hf,b,hb=>by
  obtain⟨h1,⟨L,o,e1,e2,e3,e4⟩,h2⟩:=hf
  unfold bB at hb;rw[List.filterMap_cons,e1]at hb
  rcases List.mem_cons.mp hb with rfl|hb
  ·exact⟨o,e3,e4⟩
  ·exact rq h2 b hb
def C7(x C T:Addr)(od:Option Addr)(h:Heap):Prop:=∃oe vs oT ts a0,h.get? x=some oe/\oe.cls=.ref C/\oe.dict=od/\oe.data=.fields vs/\vs[0]?=some a0/\vs[1]?=some (.ref T)/\T≠x/\h.get? T=some oT/\oT.data=.fields ts/\ts[3]?=some .none
def dM(P:Program)(w:World):gE:=fun outer H s E e s' => ∃x C T od H',e=.ref x/\s.heap.get? x=none/\s.heap.get? T=none/\C7 x C T od s'.heap/\s'.os=s.os/\AllBare s'.gens /\
 Un (bB outer) [] H H' s.heap s'.heap/\bE P w H' s'.heap/\H' x=none/\H' T=none/\E (.ref C) od H'
theorem uo{a:Addr}:∀{o:HO},aR P w H h a o->∃u,h.get? a=some u
 | .lst xs,x=>let ⟨_,_,_,_,e⟩:=x;⟨_,e⟩
 | .tup xs,x=>let ⟨_,_,_,⟨o,e,_⟩,_⟩:=x;⟨o,e⟩
 | .dK kvs,x=>let ⟨_,_,_,_,o,_,_,e,_⟩:=x;⟨_,e⟩
 | .dT kvs,x=>let ⟨_,_,_,_,o,_,_,e,_⟩:=x;⟨_,e⟩
 | .set S n,x=>let ⟨o,_,_,_,e,_⟩:=x;⟨_,e⟩
 | .ins C dx fs,x=>let ⟨_,_,_,e,_⟩:=x;⟨_,e⟩
 | .own y,x=>x
 | .xd fs,x=>let ⟨_,⟨_,_,_,e,_⟩,_⟩:=x;⟨_,e⟩
 | .rng lo hi,x=>let ⟨_,_,_,e⟩:=x;⟨_,e⟩
 | .frz ob u,x=>⟨_,x.1⟩
 | .tbl ps,x=>⟨_,(show h.get? a=some _ from x)⟩
 | .met f y,x=>⟨_,(show h.get? a=some _ from x)⟩
 | .ext φ,x=>x.2.1
theorem pd{h h' base:Heap}:∀{l:List Env},h.FunFrames base l->(∀b∈bB l,∀o,h.get? b=some o->∃sl,h'.get? b=some { o with slots:=sl })->h'.FunFrames base l
 | [],_,_=>True.intro
 | env::l,hf,hb=>by
  obtain⟨h1,⟨L,o,e1,e2,e3,e4⟩,h2⟩:=hf
  have hm:L∈bB (env::l):=by unfold bB;rw[List.filterMap_cons,e1];exact List.mem_cons_self
  obtain⟨sl,e5⟩:=hb L hm o e3
  refine⟨h1,⟨L,_,e1,e2,e5,e4⟩,pd h2 fun b z=>hb b ?_⟩
  unfold bB;rw[List.filterMap_cons,e1];exact List.mem_cons_of_mem _ z
theorem pj{oT:Obj}{ts:Array Value}(e1:s.heap.get? x=some oe)(e3:oe.data=.fields vs)(e5:vs[1]?=some (.ref T))(f1:s.heap.get? T=some oT)(f2:oT.data=.fields ts)(f3:3<ts.size)
  (h:Q () { s with heap:=s.heap.update T (Obj.mapFields fun v=>v.setIfInBounds 3 .none) }):wpAny M A (setFlight (.ref x) none) Q E s:=by
 unfold setFlight
 refine wpAny_bind (wpAny_field e1 e3 e5 ?_)
 rw[if_pos (by simp)]
 exact wpAny_setField f1 f2 f3 h
theorem Bo(fs:A.frames=some (env::outer))(hf:s.heap.FunFrames base (env::outer))(hfr:env.frame=some L)
    (e1:s.heap.get? x=some oe) (e3:oe.data=.fields vs) (hsz:1<vs.size) (e5:vs[1]?=some .none\/∃T oT ts,vs[1]?=some (.ref T)/\T≠x/\s.heap.get? T=some oT/\oT.data=.fields ts/\ts[3]?=some .none)
    (h:∀h2 T',(∀b o,s.heap.get? b=some o->b≠x->vs[1]? ≠ some (.ref b)->b∉bB (env::outer)->h2.get? b=some o)->(∀b∈bB (env::outer),∀o,s.heap.get? b=some o->∃sl,h2.get? b=some { o with slots:=sl }) ->
      s.heap.get? T'=none->T'≠x->h2.get? x=some (Obj.mapFields (fun v=>v.setIfInBounds 1 (.ref T')) oe)->(∃oT ts,h2.get? T'=some oT/\oT.data=.fields ts/\ts[3]?=some (rawInt L))->Q () { s with heap:=h2 }):wpAny M A (noteFrame (.ref x) env) Q E s:=by
  have xf:x∉bB (env::outer):=fun hm=>by
    obtain⟨_,o,ho,hn⟩:=Heap.FunFrames.mem hf hm
    rw[e1]at ho;cases ho
    exact hn vs e3
  have core:∀(s1:Shared) (head:Value) (hn:Bool),s1.gens=s.gens->s1.drawn=s.drawn->s1.toks=s.toks->s1.os=s.os->s1.heap.objs.size=s.heap.objs.size->s1.heap.get? x=some oe->s1.heap.FunFrames base (env::outer)->(∀b o,s.heap.get? b=some o->b≠x->vs[1]? ≠ some (.ref b)->s1.heap.get? b=some o)->(∀b∈bB (env::outer),∀o,s.heap.get? b=some o->s1.heap.get? b=some o) ->
      wpAny M A (do
        let a <- PySem.frameOf env
        let pl <- entryPlaceOf L hn
        let b <- EntryCells.newEntry head a Value.none (rawInt L) Value.none pl
        setField (.ref x) 1 b) Q E s1:=fun s1 head hn g1 g2 g3 g4 g5 k1 k2 k3 k4=>by
    refine wpAny_bind (wpAny_frameOf_fun fs k2 hfr fun h1 so=>wpAny_bind (wpAny_entryPlaceOf fun pl hpl=>?_))
    unfold EntryCells.newEntry newFields
    refine wpAny_bind (wpAny_newObj_type ?_ (hd:=?_))
    rotate_left
    . show Array.size _<=sizeLine+2
      rw[sizeLine_eq]
      rcases hpl with rfl|⟨a,b,c,d,c9,b10,_,rfl⟩<;>simp
    have he1:h1.get? x=some oe:=(so.2.1 x xf).trans k1
    have he2:=Heap.get?_push_of_some { cls:=.type "traceback", data:=.fields ([head,.ref L,.none,rawInt L,.none]++(if pl.isEmpty then List.replicate 6 .none else pl)).toArray } he1
    have szT:h1.objs.size=s.heap.objs.size:=so.1.trans g5
    have nT:h1.objs.size≠x:=Nat.ne_of_gt (Heap.lt_size he1)
    refine wpAny_setField he2 e3 hsz ?_
    have st:(⟨s.heap,s.gens,s.drawn,s.toks,s.os⟩:Shared)=s:=rfl
    have key:=h ((h1.push { cls:=.type "traceback", data:=.fields ([head,.ref L,.none,rawInt L,.none]++(if pl.isEmpty then List.replicate 6 .none else pl)).toArray }).update x (Obj.mapFields fun v=>v.setIfInBounds 1 (.ref h1.objs.size))) h1.objs.size ?_ ?_ ?_ nT ?_ ?_
    . rw[<- g1,<- g2,<- g3,<- g4]at key;exact key
    . intro b o eb b1 b2 b3
      rw[Heap.get?_update_other _ _ (Ne.symm b1)]
      exact Heap.get?_push_of_some _ ((so.2.1 b b3).trans (k3 b o eb b1 b2))
    . intro b hb o eb
      obtain⟨sl,z⟩:=so.2.2 b o (k4 b hb o eb)
      refine⟨sl,?_⟩
      rw[Heap.get?_update_other _ _ (show x≠b from fun z=>xf (by rw[z];exact hb))]
      exact Heap.get?_push_of_some _ z
    . rw[szT]
      cases z:s.heap.get? s.heap.objs.size with
      | none=>rfl
      | some o=>exact absurd (Heap.lt_size z) (Nat.lt_irrefl _)
    . exact Heap.get?_update_self _ he2 (Obj.isFreed_of_fields (Obj.data_mapFields e3 _))
    . refine⟨{ cls:=.type "traceback", data:=.fields ([head,.ref L,.none,rawInt L,.none]++(if pl.isEmpty then List.replicate 6 .none else pl)).toArray },_,?_,rfl,by simp⟩
      rw[Heap.get?_update_other _ _ (Ne.symm nT)]
      exact Heap.get?_push_size _ rfl
  unfold noteFrame
  rw[hfr]
  dsimp only
  rcases e5 with e5|⟨T,oT,ts,e5,f0,f1,f2,f3⟩
  . refine wpAny_bind (wpAny_field e1 e3 e5 ?_)
    rw[if_neg (by simp)]
    exact core s _ _ rfl rfl rfl rfl rfl e1 hf (fun b o eb _ _=>eb) fun b _ o eb=>eb
  . refine wpAny_bind (wpAny_field e1 e3 e5 ?_)
    rw[if_pos (by simp)]
    refine wpAny_bind (wpAny_field f1 f2 f3 ?_)
    rw[if_neg (by simp[rawInt])]
    have f4:3<ts.size:=by
      rcases Nat.lt_or_ge 3 ts.size with z|z
      . exact z
      . rw[Array.getElem?_eq_none z]at f3;cases f3
    have Tf:T∉bB (env::outer):=fun hm=>by
      obtain⟨_,o,ho,hn⟩:=Heap.FunFrames.mem hf hm
      rw[f1]at ho;cases ho
      exact hn ts f2
    refine wpAny_bind (wpAny_setField f1 f2 f4 ?_)
    refine core _ _ _ rfl rfl rfl rfl (Heap.size_update ..) ((Heap.get?_update_other _ _ f0).trans e1) ?_ ?_ ?_
    . exact pd hf fun b hb o eb=>⟨o.slots,(Heap.get?_update_other _ _ (show T≠b from fun z=>Tf (by rw[z];exact hb))).trans eb⟩
    . intro b o eb b1 b2
      exact(Heap.get?_update_other _ _ (fun z=>b2 (by rw[e5,z]))).trans eb
    . intro b hb o eb
      exact(Heap.get?_update_other _ _ (show T≠b from fun z=>Tf (by rw[z];exact hb))).trans eb
section
variable{X:Cx}{pins:List (Addr×Obj)}{σ:St}{H':Hp}
theorem ai.frame(I:ai X pins σ H s)(hs:X.stack=X.env::X.outer):X.env.frame=some X.env.locals:=by
 rcases I.ok.stk with z|z
 ·have:=congrArg List.length (hs.symm.trans z)
  simp at this
 ·exact z.2
structure gb(X:Cx)(hid:List Addr)(h1 h2:Heap):Prop where
 keep:∀b o,h1.get? b=some o->b∉hid->h2.get? b=some o
 up:∀b∈bB X.stack,∀o,h1.get? b=some o->∃sl,h2.get? b=some { o with slots:=sl }
theorem gb.trans{h3:Heap}(a:gb X hid h1 h2)(b:gb X hid h2 h3):gb X hid h1 h3 :=
 ⟨fun c o e n=>b.keep c o (a.keep c o e n) n,fun c hc o e=>by
  obtain⟨sl,e1⟩:=a.up c hc o e
  obtain⟨sl',e2⟩:=b.up c hc _ e1
  exact⟨sl',e2⟩⟩
theorem m8{l:List Env}(h:env.frame=some L):bB (env::l)=L::bB l:=by unfold bB;rw[List.filterMap_cons,h]
theorem vj{E:XK}(I:ai X pins σ H s)(hs:X.stack=X.env::X.outer)(hex:X.ex=[])(h1:∀b∈hid,b∈bB X.stack\/X.s₀.heap.get? b=none)(h2n:∀b∈hid,H b=none)
  (ov:gb X hid s.heap h2) (t:C7 x C T od h2) (hT:s.heap.get? T=none\/T∈hid) (hx:X.s₀.heap.get? x=none) (hxn:H x=none) (q:E (.ref C) od H):dM X.prog X.w X.outer X.H₀ X.s₀ E (.ref x) { s with heap:=h2 }:=by
 have hfr:=I.frame hs
 have nL:∀b o,X.s₀.heap.get? b=some o->b≠X.env.locals:=fun b o e=>Nat.ne_of_lt (Nat.lt_of_lt_of_le (Heap.lt_size e) I.ok.above)
 have ub:Un X.fs [] X.H₀ H X.s₀.heap s.heap:=by have:=I.base;rw[hex]at this;exact this
 have hf:=I.stack
 have dat:∀b∈bB X.stack,b≠T:=fun b hb z=>by
  obtain⟨o,e,d⟩:=rq hf b hb
  obtain⟨sl,e2⟩:=ov.up b hb o e
  obtain⟨oe,vs,oT,ts,a0,_,_,_,_,_,_,_,e7,e8,_⟩:=t
  rw[z,e7]at e2
  cases e2
  exact d ts e8
 have old:X.s₀.heap.get? T=none:=by
  cases z:X.s₀.heap.get? T with
  | none=>rfl
  | some o =>
   obtain⟨o',e⟩:=ub.there T o z (by simp)
   rcases hT with hT|hT
   ·rw[hT]at e;cases e
   ·rcases h1 T hT with h|h
    ·exact absurd rfl (dat T h)
    ·rw[h]at z;cases z
 refine⟨x,C,T,od,H,rfl,hx,old,t,I.os,I.bare,n4 (hid:=hid) ub (fun b o e hb=>?_) ov.keep (fun b hb o e=>ov.up b (by rw[hs,m8 hfr];exact List.mem_cons_of_mem _ hb) o e),me I.hok h2n ov.keep,hxn,?_,q⟩
 ·rcases h1 b hb with h|h
  ·rw[hs,m8 hfr]at h
   rcases List.mem_cons.mp h with h|h
   ·exact absurd h (nL b o e)
   ·exact h
  ·rw[h]at e;cases e
 ·cases z:H T with
  | none=>rfl
  | some o =>
   obtain⟨u,e⟩:=uo (I.hok T o z)
   rcases hT with hT|hT
   ·rw[hT]at e;cases e
   ·rw[h2n T hT]at z;cases z
theorem jO(fs:A.frames=some (env::outer))(hf:s.heap.FunFrames base (env::outer))(hfr:env.frame=some L)
  (e1:s.heap.get? x=some oe) (e2:oe.cls=.ref C) (e6:oe.dict=od) (e3:oe.data=.fields vs) (hsz:1<vs.size) (e4:vs[0]?=some a0) (e5:vs[1]?=some .none\/∃T oT ts,vs[1]?=some (.ref T)/\T≠x/\s.heap.get? T=some oT/\oT.data=.fields ts/\ts[3]?=some .none)
  (h:∀h2 T',(∀b o,s.heap.get? b=some o->b≠x->vs[1]? ≠ some (.ref b)->b∉bB (env::outer)->h2.get? b=some o)->(∀b∈bB (env::outer),∀o,s.heap.get? b=some o->∃sl,h2.get? b=some { o with slots:=sl }) ->
   s.heap.get? T'=none->C7 x C T' od h2->Q () { s with heap:=h2 }):wpAny M A (noteFrame (.ref x) env) (fun _ s2=>wpAny M A (setFlight (.ref x) none) Q E s2) E s:=by
 refine Bo fs hf hfr e1 e3 hsz e5 fun h2 T' k1 k2 nT nTx ex ⟨oT,ts,f1,f2,f3⟩=>?_
 have d1:(Obj.mapFields (fun v=>v.setIfInBounds 1 (.ref T')) oe).data=.fields (vs.setIfInBounds 1 (.ref T')):=Obj.data_mapFields e3 _
 have v1:(vs.setIfInBounds 1 (.ref T'))[1]?=some (.ref T'):=by simp[hsz]
 have f4:3<ts.size:=by
  rcases Nat.lt_or_ge 3 ts.size with z|z
  ·exact z
  ·rw[Array.getElem?_eq_none z]at f3;cases f3
 refine pj (s:={ s with heap:=h2 }) ex d1 v1 f1 f2 f4 ?_
 have nT2:∀b o,s.heap.get? b=some o->T'≠b:=fun b o eb z=>by rw[<- z,nT]at eb;cases eb
 have ce:(Obj.mapFields (fun v=>v.setIfInBounds 1 (.ref T')) oe).cls=.ref C/\(Obj.mapFields (fun v=>v.setIfInBounds 1 (.ref T')) oe).dict=od:=by
  obtain⟨c,d,da,sl⟩:=oe
  simp only at e3 e2 e6
  subst e3
  exact⟨e2,e6⟩
 refine h (h2.update T' _) T' (fun b o eb b1 b2 b3=>(Heap.get?_update_other _ _ (nT2 b o eb)).trans (k1 b o eb b1 b2 b3)) (fun b hb o eb=>?_) nT ⟨_,_,_,_,a0,(Heap.get?_update_other _ _ nTx).trans ex,ce.1,ce.2,d1,?_,v1,nTx,Heap.get?_update_self _ f1 (Obj.isFreed_of_fields (Obj.data_mapFields f2 _)),Obj.data_mapFields f2 _,by simp[f4]⟩
 ·obtain⟨sl,z⟩:=k2 b hb o eb
  exact⟨sl,(Heap.get?_update_other _ _ (nT2 b o eb)).trans z⟩
 ·rw[Array.getElem?_setIfInBounds_ne (by decide)];exact e4
theorem iw{e:Addr}{E:XK}(I:ai X pins σ H s)(hs:X.stack=X.env::X.outer)(hex:X.ex=[])(e1:s.heap.get? e=some oe)(e2:oe.cls=.ref C)(e6:oe.dict=od)(e3:oe.data=.fields vs)(hsz:1<vs.size)(e4:vs[0]?=some a0)(e5:vs[1]?=some .none)
  (n0:X.s₀.heap.get? e=none) (nH:H e=none) (q:E (.ref C) od H) :
  wpAny (model X.prog X.w) X.A (leaving X.env (.ref e)) (fun _ s''=>dM X.prog X.w X.outer X.H₀ X.s₀ E (.ref e) s'') R s:=by
 have hfr:=I.frame hs
 have fs:X.A.frames=some (X.env::X.outer):=by rw[<- hs];exact I.ok.frames
 have hf:=I.stack
 rw[hs]at hf
 refine wpAny_bind (jO (C:=C) (od:=od) fs hf hfr e1 e2 e6 e3 hsz e4 (.inl e5) fun h2 T' k1 k2 nT tr=>?_)
 have ov:gb X (e::bB X.stack) s.heap h2:=⟨fun b o eb nb=>k1 b o eb (fun z=>nb (by rw[z];exact List.mem_cons_self)) (by rw[e5];intro z;cases z) (fun z=>nb (List.mem_cons_of_mem _ (by rw[hs];exact z))),fun b hb o eb=>k2 b (by rw[<- hs];exact hb) o eb⟩
 refine vj (s:=s) I hs hex (fun b hb=>?_) (fun b hb=>?_) ov tr (.inl nT) n0 nH q
 ·rcases List.mem_cons.mp hb with rfl|hb
  ·exact .inr n0
  ·exact .inl hb
 ·rcases List.mem_cons.mp hb with rfl|hb
  ·exact nH
  ·exact I.stkFree b hb
theorem qz{h':Heap}{e:Addr}{vs:List Value}{E:XK}(I:ai X pins σ H s)(hs:X.stack=X.env::X.outer)(hex:X.ex=[])(m:s.heap.MadeExcOf h' e (.ref C) vs)(q:E (.ref C) none H) :
  wpAny (model X.prog X.w) X.A (leaving X.env (.ref e)) (fun _ s''=>dM X.prog X.w X.outer X.H₀ X.s₀ E (.ref e) s'') R { s with heap:=h' }:=by
 have ub:Un X.fs [] X.H₀ H X.s₀.heap s.heap:=by have:=I.base;rw[hex]at this;exact this
 obtain⟨t,m1,m2,m3⟩:=m.there
 refine iw (s:={ s with heap:=h' }) (I.kept (t':=s.toks) m.keeps) hs hex m1 rfl rfl rfl (by simp) rfl rfl ?_ ?_ q
 ·cases z:X.s₀.heap.get? e with
  | none=>rfl
  | some o=>obtain⟨o',e'⟩:=ub.there e o z (by simp);rw[m.new]at e';cases e'
 ·cases z:H e with
  | none=>rfl
  | some o=>obtain⟨u,e'⟩:=uo (I.hok e o z);rw[m.new]at e';cases e'
theorem sH{E:XK}(I:ai X pins σ H s)(hs:X.stack=X.env::X.outer)(hex:X.ex=[])(c:dM X.prog X.w X.stack H s E e s') :
  wpAny (model X.prog X.w) X.A (leaving X.env e) (fun _ s''=>dM X.prog X.w X.outer X.H₀ X.s₀ E e s'') R s':=by
 obtain⟨x,C,T,od,H',rfl,hx,hT,t,ho,hg,u,hk,nx,nT,q⟩:=c
 have J:ai X pins σ H' s':=I.call' (ch:=[]) ho u hk hg (fun b z=>absurd z (by simp))
 have hfr:=I.frame hs
 have ub:Un X.fs [] X.H₀ H X.s₀.heap s.heap:=by have:=I.base;rw[hex]at this;exact this
 have fs:X.A.frames=some (X.env::X.outer):=by rw[<- hs];exact I.ok.frames
 have hf:=J.stack
 rw[hs]at hf
 have old:∀b,s.heap.get? b=none->X.s₀.heap.get? b=none:=fun b hb=>by
  cases z:X.s₀.heap.get? b with
  | none=>rfl
  | some o=>obtain⟨o',e'⟩:=ub.there b o z (by simp);rw[hb]at e';cases e'
 obtain⟨oe,vs,oT,ts,a0,e1,e2,e6,e3,e4,e5,f0,f1,f2,f3⟩:=id t
 have hsz:1<vs.size:=by
  rcases Nat.lt_or_ge 1 vs.size with z|z
  ·exact z
  ·rw[Array.getElem?_eq_none z]at e5;cases e5
 refine wpAny_bind (jO (C:=C) (od:=od) fs hf hfr e1 e2 e6 e3 hsz e4 (.inr ⟨T,oT,ts,e5,f0,f1,f2,f3⟩) fun h2 T2 k1 k2 nT2 tr=>?_)
 have ov:gb X (x::T::bB X.stack) s'.heap h2:=⟨fun b o eb nb=>k1 b o eb (fun z=>nb (by rw[z];exact List.mem_cons_self)) (by rw[e5];intro z;injection z with z;injection z with z;exact nb (by rw[<- z];exact List.mem_cons_of_mem _ List.mem_cons_self)) (fun z=>nb (List.mem_cons_of_mem _ (List.mem_cons_of_mem _ (by rw[hs];exact z)))),fun b hb o eb=>k2 b (by rw[<- hs];exact hb) o eb⟩
 refine vj J hs hex (fun b hb=>?_) (fun b hb=>?_) ov tr (.inl nT2) (old x hx) nx q
 ·rcases List.mem_cons.mp hb with rfl|hb
  ·exact .inr (old _ hx)
  ·rcases List.mem_cons.mp hb with rfl|hb
   ·exact .inr (old _ hT)
   ·exact .inl hb
 ·rcases List.mem_cons.mp hb with rfl|hb
  ·exact nx
  ·rcases List.mem_cons.mp hb with rfl|hb
   ·exact nT
   ·exact J.stkFree b hb
end
abbrev fJ:List Value:=[Value.type "ValueError", Value.type "Exception", Value.type "BaseException", Value.type "object"]
theorem gF{D:Addr}(e1:h.get? x=some ox)(e2:ox.cls=.ref D):∀M,W.Looks M h (typeOf (.ref x)) (.ref D):=by
 intro M A Q E s hk hq
 unfold typeOf
 refine wpAny_bind (wpAny_loadPart (hk _ _ e1) ?_)
 rw[e2]
 exact wpAny_pure hq
theorem sO{D:Addr}{R:Result->Shared->Prop}{tp:Value}{tk:Nat}(KI:K.In h)(ty:∀M,W.Looks M h (typeOf (.ref x)) (.ref D))(hm:W.mroIn K D (.type "object")=some true)
  (hR:R (.ok (.ret (.ref D))) ⟨h,g,d,tk,os⟩):codeAny (model prog w) A (.call (.builtin "getset_descriptor.__get__") ⟨[.builtin "object.__class__", .ref x,tp],[]⟩) R ⟨h,g,d,tk,os⟩:=by
 refine codeAny_call_builtin W.KF.slot_gs.plain W.KF.entry_gs ?_
 refine W.KF.slot_gs.check _ _ _ _ _ _ _ _ ?_ (W.KF.args_gs _ _ _) ?_
 ·exact W.KF.type_class
 show wpAny _ _ (Builtin.Getset_descriptor.descrGet ⟨[.builtin "object.__class__", .ref x,tp],[]⟩) _ _ _
 unfold Builtin.Getset_descriptor.descrGet
 rw[W.dga_obj]
 refine wpAny_bind (wpAny_pure ?_)
 dsimp only
 unfold Builtin.Getset_descriptor.descrGetter
 dsimp only
 refine wpAny_bind ?_
 unfold Builtin.Getset_descriptor.descrCheckInstance
 refine wpAny_bind ?_
 unfold Builtin.Getset_descriptor.descrNameAndClass
 dsimp only
 rw[W.KF.owner_class]
 refine wpAny_pure ?_
 dsimp only
 refine wpAny_bind ?_
 unfold isInstance
 refine wpAny_bind (W.Looks.at (ty _) (W.Looks.at (W.looks_mroIn KI hm) ?_))
 rw[if_neg (by simp)]
 refine wpAny_pure ?_
 refine wpAny_pure ?_
 refine⟨Code.quiet_builtin _ (by decide +kernel),codeAny_builtin W.KF.entry_class ?_⟩
 show wpAny _ _ (Builtin.«object.__class__» ⟨[.ref x],[]⟩) _ _ _
 unfold Builtin.«object.__class__»
 dsimp only
 refine wpAny_bind ?_
 unfold shownTypeOf
 refine wpAny_bind (W.Looks.at (ty _) ?_)
 rw[if_neg (by simp)]
 refine wpAny_pure ?_
 exact wpAny_pure hR
theorem u6{D:Addr}{Q:Option Value->Shared->Prop}{nm:Str}
  (hga:W.findIn K (.ref D) "__getattribute__" = some (some (.builtin "BaseException.__getattribute__"))) (hgt:W.findIn K (.ref D) "__getattr__" = some none)
  (hf:W.findIn K (.ref D) "__class__" = some (some (.builtin "object.__class__"))) (hs:W.specialIn K (.builtin "object.__class__") "__get__" = some (some (.builtin "getset_descriptor.__get__"))) (ht:W.takesIn K (.builtin "object.__class__")=some true) (hm:W.mroIn K D (.type "object")=some true)
  (KI:K.In s.heap) (e1:s.heap.get? x=some ox) (e2:ox.cls=.ref D) (hD:s.heap.get? D=some (excClassObj nm q D N bs bm hdct sn sub ab col dd k0 k1 k2 k3 k5 newId)) (hT:OwnTailQ s.heap fJ bm)
  (hq:Q (some (.ref D)) { s with toks:=s.toks+1 }):wpAny (model prog w) A (getAttr? (.ref x) "__class__") Q E s:=by
 obtain⟨h,g,d,tk,os⟩:=s
 have ty:=gF e1 e2
 have lf:∀M,W.Looks M h (Builtin.ObjectAttr.find (.ref x) (.ref D) "__class__") (.bind (.builtin "getset_descriptor.__get__") (.builtin "object.__class__")):=by
  intro M A Q E s hk hq
  unfold Builtin.ObjectAttr.find
  refine wpAny_bind (W.looks_findIn KI hf A _ E s hk ?_)
  refine wpAny_bind ?_
  unfold Builtin.ObjectAttr.getOf
  refine W.looks_specialIn KI hs A _ E s hk ?_
  refine wpAny_bind ?_
  unfold Builtin.ObjectAttr.dataDescriptor?
  refine wpAny_bind (W.looks_takesIn KI ht A _ E s hk ?_)
  rw[if_pos rfl]
  refine wpAny_pure ?_
  exact W.Looks.tag (W.Looks.now) A _ E s hk hq
 unfold getAttr?
 refine wpAny_bind (wpAny_mkText ?_)
 unfold getAttrBy?
 refine wpAny_bind (wpAny_attempt ?_)
 unfold getAttrBy
 refine wpAny_holding (wpAny_bind (W.Looks.at (ty _) ?_))
 refine wpAny_bind (W.Looks.at (W.looks_findIn KI hga) ?_)
 dsimp only
 have e9:(onTheHeap (Value.ref D)&&Value.builtin "BaseException.__getattribute__" == Value.builtin "object.__getattribute__")=false:=by
  have e0:(Value.builtin "BaseException.__getattribute__" == Value.builtin "object.__getattribute__")=false:=by decide +kernel
  rw[e0,Bool.and_false]
 rw[e9]
 rw[if_neg (by simp)]
 unfold getAttrByItsOwn
 refine wpAny_bind (W.Looks.at (W.looks_hook KI (r:=none) (by show(if true=true then W.findIn K (.ref D) "__getattr__" else some none)=some none;rw[if_pos rfl];exact hgt)) ?_)
 refine wpAny_bind (wpAny_attempt (wpAny_holding ?_))
 unfold callGetattribute
 rw[if_neg (by simp)]
 unfold boundAndCalled
 rw[(PySem.F.attrBase_ValueError.toExcAttrFacts.ga).bind]
 refine wpAny_bind (wpAny_pure ?_)
 refine wpAny_call (codeAny_call_builtin (PySem.F.attrBase_ValueError.toExcAttrFacts.ga).plain PySem.F.entry_bexc_ga ?_)
 refine wpAny_check_ga_own PySem.F.attrBase_ValueError hD hT e1 e2 ?_
 show wpAny _ _ (Builtin.«object.__getattribute__» ⟨[Value.ref x,Value.str "__class__" tk],[]⟩) _ _ _
 unfold Builtin.«object.__getattribute__»
 refine wpAny_bind ?_
 unfold slotArgs
 dsimp only
 rw[if_neg (by simp),if_neg (by simp)]
 refine wpAny_pure ?_
 dsimp only
 refine wpAny_bind ?_
 unfold Builtin.ObjectAttr.attrName
 refine wpAny_pure ?_
 refine wpAny_bind (W.Looks.at (ty _) ?_)
 refine wpAny_bind (W.Looks.at (lf _) ?_)
 dsimp only
 unfold Builtin.ObjectAttr.bindTo
 dsimp only
 refine wpAny_bind (wpAny_holding (wpAny_call (sO KI ty hm ?_)))
 refine wpAny_pure ?_
 refine W.handed_on rfl ?_
 exact wpAny_pure hq
def Ar:Value->Bool
 | .str _ _=>true
 | _=>false
def lH(K:W.Frag)(N:Addr):Bool :=
 match K.lookup N with
 | some ⟨_,_,.dict es _,_⟩=>es.toList.all (fun e=>Ar e.key)&&quietNames.all fun n=>(nsFind es n).isNone
 | _=>false
def jL(K:W.Frag)(N:Addr):Bool :=
 match K.lookup N with
 | some ⟨_,_,.dict es _,_⟩=>es.toList.all (fun e=>Ar e.key)
 | _=>false
def oQ(K:W.Frag)(N:Addr):Option Value :=
 match K.lookup N with
 | some ⟨_,_,.dict es _,_⟩=>nsFind es "__init__"
 | _=>none
def du(K:W.Frag)(C:Addr):Option Value :=
 match K.lookup C with
 | some ⟨_,_,.cls cd,_⟩=>oQ K cd.ns
 | _=>none
def Bp(sl:Array (Option Value)):Bool :=
 match sl.toList with
 | [_,_,_,_,some (.builtin id),_]=>id == "ValueError.__new__"
 | _=>false
def ml(K:W.Frag)(C S:Addr):Bool :=
 match K.lookup C,K.lookup S with
 | some ⟨.type t,_,.cls cd,sl⟩,some ⟨_,_,.cls ce,_⟩=>t == "type" && Bp sl&&(cd.mro == .ref C :: .ref S::fJ) && !cd.hasDel&&jL K cd.ns&&lH K ce.ns
 | _,_=>false
theorem vZ(q:lH K N=true)(KI:K.In h):∃mN,h.Ns N mN/\∀n∈quietNames,mN n=none:=by
 unfold lH at q
 split at q
 ·rename_i c d es ep sl e
  rw[Bool.and_eq_true]at q
  refine⟨nsFind es,⟨_,es,ep,KI _ _ e,rfl,fun x hx=>?_,fun _=>rfl⟩,fun n hn=>?_⟩
  ·have:=List.all_eq_true.mp q.1 x (by simpa using hx)
   cases hk:x.key with
   | str n t=>exact⟨n,t,rfl⟩
   | _=>rw[hk]at this;cases this
  ·have:=List.all_eq_true.mp q.2 n hn
   simpa using this
 ·cases q
theorem t3(q:jL K N=true)(KI:K.In h):∃mN,h.Ns N mN/\mN "__init__" = oQ K N:=by
 unfold jL at q
 unfold oQ
 split at q
 ·rename_i c d es ep sl e
  refine⟨nsFind es,⟨_,es,ep,KI _ _ e,rfl,fun x hx=>?_,fun _=>rfl⟩,rfl⟩
  have:=List.all_eq_true.mp q x (by simpa using hx)
  cases hk:x.key with
  | str n t=>exact⟨n,t,rfl⟩
  | _=>rw[hk]at this;cases this
 ·cases q
theorem dY(q:ml K C S=true)(KI:K.In h) :
  ∃nm qn N bs hdct sn sub ab col dd k0 k1 k2 k3 k5 mN,h.get? C=some (excClassObj nm qn C N bs (.ref S::fJ) hdct sn sub ab col dd k0 k1 k2 k3 k5 "ValueError.__new__")/\h.Ns N mN/\mN "__init__" = du K C/\OwnTailQ h fJ (.ref S::fJ):=by
 unfold ml at q
 split at q
 ·rename_i t d1 cd sl c2 d2 ce sl2 e1 e2
  simp only[Bool.and_eq_true]at q
  obtain⟨⟨⟨⟨⟨q1,q2⟩,q3⟩,q4⟩,q5⟩,q6⟩:=q
  have q1:t = "type" := by simpa using q1
  subst q1
  replace q3:cd.mro=.ref C :: .ref S::fJ:=by simpa using q3
  replace q4:cd.hasDel=false:=by simpa using q4
  obtain⟨mN,n1,n2⟩:=t3 q5 KI
  obtain⟨mS,m1,m2⟩:=vZ q6 KI
  unfold Bp at q2
  split at q2
  ·rename_i k0 k1 k2 k3 id k5 es
   have q2:id = "ValueError.__new__" := by simpa using q2
   subst q2
   have es:sl = #[k0,k1,k2,k3,some (.builtin "ValueError.__new__"),k5]:=by
    have:=congrArg List.toArray es
    simpa using this
   subst es
   have g1:=KI _ _ e1
   have g2:=KI _ _ e2
   obtain⟨f1,f2,f3,f4,f5,f6,f7,f8,f9,f10,f11⟩:=cd
   simp only at q3 q4 n1
   subst q3 q4
   exact⟨_,_,_,_,_,_,_,_,_,_,_,_,_,_,_,mN,g1,n1,by rw[n2];unfold du;rw[e1],.own g2 m1 m2 .base⟩
  ·cases q2
 ·cases q
structure eV(K:W.Frag)(C S:Addr):Prop where
 ex:ml K C S=true
 ga:W.findIn K (.ref C) "__getattribute__" = some (some (.builtin "BaseException.__getattribute__"))
 gt:W.findIn K (.ref C) "__getattr__" = some none
 cl:W.findIn K (.ref C) "__class__" = some (some (.builtin "object.__class__"))
 sp:W.specialIn K (.builtin "object.__class__") "__get__" = some (some (.builtin "getset_descriptor.__get__"))
 tk:W.takesIn K (.builtin "object.__class__")=some true
 mo:W.mroIn K C (.type "object")=some true
theorem eV.is(e:eV K C S):∃cd,W.clsIn K C=some cd:=by
 have:=e.mo
 unfold W.mroIn at this
 cases h:W.clsIn K C with
 | none=>rw[h]at this;cases this
 | some cd=>exact⟨cd,rfl⟩
def C5(x C:Addr)(h:Heap):Prop:=∃o,h.get? x=some o/\o.cls=.ref C
theorem jP(e:eV K C S):W.KitX K (.ref x) (.ref C) (C5 x C):=by
 obtain⟨cd,hcd⟩:=e.is
 refine⟨fun M h KI ⟨o,e1,e2⟩=>?_,fun M h KI _=>?_,fun h tp dd its n sl KI ht=>?_,fun {prog w A E Q s} KI ⟨o,e1,e2⟩ hq=>?_⟩
 ·exact gF e1 e2 M
 ·obtain⟨nm,qn,N,bs,hdct,sn,sub,ab,col,dd,k0,k1,k2,k3,k5,mN,g1,g2,g3,g4⟩:=dY e.ex KI
  intro A Q E s hk hq
  unfold isType
  refine wpAny_bind (wpAny_loadPart (hk _ _ g1) ?_)
  exact wpAny_pure hq
 ·obtain⟨nm,qn,N,bs,hdct,sn,sub,ab,col,dd,k0,k1,k2,k3,k5,mN,g1,g2,g3,g4⟩:=dY e.ex KI
  rw[beq_eq_false_iff_ne]
  intro z
  injection z with z
  rw[<- z,g1]at ht
  injection ht with ht
  injection ht with h1
  injection h1 with h1
  exact absurd h1 (by decide)
 ·obtain⟨nm,qn,N,bs,hdct,sn,sub,ab,col,dd,k0,k1,k2,k3,k5,mN,g1,g2,g3,g4⟩:=dY e.ex KI
  exact u6 e.ga e.gt e.cl e.sp e.tk e.mo KI e1 e2 g1 g4 hq
theorem vt(S:Addr):(Value.ref S::fJ).contains (.type "BaseException")=true:=by
 rw[List.contains_cons,show fJ.contains (Value.type "BaseException")=true by decide +kernel,Bool.or_true]
section
variable{X:Cx}{pins:List (Addr×Obj)}{σ:St}
theorem jK{x:Str}{np cpos:Pos}{e:Expr}{t:TA}{Q:Flow->Shared->Prop}(I:ai X pins σ H s)(hc:X.calm=true)(hg:Gl X x)(hm:X.mg x=some (.ref C))(hx:eV X.K C S)(hin:du X.K C=none)(hdb:(x==("__debug__" : Str))=false)
  (ha:PA X [e] t) (hn:(backTo cpos (starEach [e] X.env)).any (·.1)=false) (he:starEach [e] X.env=[(false,eval e X.env)])
  (h:t σ H fun vs H1=>vs.length<=sizeLine/\∀s1 h' a us,ai X pins σ H1 s1->s1.heap.MadeExcOf h' a (.ref C) us->X.xe (.ref a) { s1 with heap:=h' }) :
  wpAny (model X.prog X.w) X.A (exec (.Raise (some (.Call (.Name x np) [e] [] cpos)) none pos) X.env) Q X.xe s:=by
 obtain⟨nm,qn,N,bs,hdct,sn,sub,ab,col,dd,k0,k1,k2,k3,k5,mN,g1,g2,g3,g4⟩:=dY hx.ex I.ok.mod.kin
 refine wpAny_Raise_call_subT (nm:=nm) (q:=qn) (N:=N) (bs:=bs) (bm:=.ref S::fJ) (hdct:=hdct) (sn:=sn) (sub:=sub) (ab:=ab) (col:=col) (dd:=dd) (k0:=k0) (k1:=k1) (k2:=k2) (k3:=k3) (k5:=k5) PySem.F.excBase_ValueError (vt S) (I.ok.hd hc) hn (g3.trans hin) (cy I hg hm ⟨rfl,?_⟩ hdb)
 have key:=ha cpos pins s σ H _ I h
 rw[he]at key⊢
 obtain⟨y,ey⟩:∃y,backTo cpos [(false,eval e X.env)]=[(false,y)]:=⟨_,rfl⟩
 rw[ey]at key⊢
 refine PySem.Calls.evalArgs_plain (aH key fun us s1 ⟨vs,H1,I1,r,hl,q⟩=>?_)
 obtain⟨o,es,ep,e1,e2,e3,e4⟩:=g2
 exact⟨rfl,by rw[<- r.length];exact hl,I1.bk _ _ g1,⟨o,es,ep,I1.bk _ _ e1,e2,e3,e4⟩,(OwnTailQ.tail g4).keeps I1.bk,fun h' a m=>q s1 h' a us I1 m⟩
end
section
variable{X:Cx}{pins:List (Addr×Obj)}{σ:St}{H':Hp}
theorem zy{i:Nat}(I:ai X pins σ H s)(hN:X.N.Nodup)(hi:X.N[i]?=some n)(hk:X.env.scope.names.lookup n=some .local)
  (h:∀s',ai X pins (σ.set i none) H s'->Q () s'):wpAny M A (do bindName X.env n .none;unbindBehindTheSuite X.env n pos) Q E s:=by
 obtain⟨m,hn,hl⟩:=id I.loc
 have hcls:(X.env.scope.kind == .class || (X.env.scope.kind == .module&&X.env.locals != X.env.globals))=false:=by rw[I.ok.kind];rfl
 have hiσ:i<σ.length:=by rw[I.len];exact(List.getElem?_eq_some_iff.mp hi).1
 have cne:=I.cne
 refine wpAny_nameGoes_keeps hk hn hcls fun h' v hn' hs=>?_
 obtain⟨oL,_,_,hoL,_⟩:=id hn
 refine h _ ⟨I.ok,I.os,I.bare,⟨fun b o e n hb hx=>?_,fun b o e n hb hx=>?_,I.base.free,fun b o e hx=>?_,I.base.tups,I.base.frzs,I.base.tbls⟩,⟨_,hn',fun j y v' e1 e2 e3=>?_⟩,fun y c e=>?_,I.free,I.freeC,fun p hp=>?_,fun b ob e=>?_,by simpa using I.len⟩
 ·exact(hs.2 b (Nat.ne_of_lt (Nat.lt_of_lt_of_le (Heap.lt_size e) I.ok.above))).trans (I.base.keep b o e n hb hx)
 ·obtain⟨sl,e1⟩:=I.base.slot b o e n hb hx
  exact⟨sl,(hs.2 b (Nat.ne_of_lt (Nat.lt_of_lt_of_le (Heap.lt_size e) I.ok.above))).trans e1⟩
 ·obtain⟨o',e1⟩:=I.base.there b o e hx
  exact⟨o',(hs.2 b (Nat.ne_of_lt (Nat.lt_of_lt_of_le (Heap.lt_size e) I.ok.above))).trans e1⟩
 ·by_cases hj:j=i
  ·subst hj
   rw[List.getElem?_set_self hiσ]at e2
   cases e2
  ·rw[List.getElem?_set_ne (Ne.symm hj)]at e2
   obtain⟨u',r',q⟩:=hl j y v' e1 e2 e3
   refine⟨u',r',?_⟩
   rcases q with⟨k,e⟩|⟨k,c,e,z⟩
   ·refine .inl ⟨k,?_⟩
    have:y≠n:=fun e=>hj (fy hN e1 (e ▸ hi))
    simp[this,e]
   ·exact .inr ⟨k,c,e,z.sameBut hs (cne y c e)⟩
 ·obtain⟨w',z⟩:=I.cell y c e
  exact⟨w',z.sameBut hs (cne y c e)⟩
 ·obtain⟨e,n,ne,nf,d⟩:=I.pin p hp
  exact⟨(hs.2 p.1 ne).trans e,n,ne,nf,d⟩
 ·refine(I.hok b ob e).stay (fun c w' hc q=>(hs.2 c ?_).trans q) (fun _ q=>q) fun _ _ q=>q
  rintro rfl
  rcases hc with rfl|hc
  ·rw[I.free]at e;cases e
  ·rw[I.free]at hc;cases hc
abbrev Cx.mark(X:Cx)(e:Value):Cx:={ X with A:=X.A.mark (some e),calm:=false,xe:=fun _ _=>False }
theorem Cx.Ok.mark(ok:X.Ok)(e:Value):(X.mark e).Ok:=⟨ok.mod,ok.kind,ok.glob,ok.blt,ok.above,ok.inj,ok.has,ok.cab,(fun z=>by cases z),ok.frames,ok.stk,ok.exf,ok.bs,ok.bsz,ok.noex,ok.exfs,ok.funs,ok.frf⟩
theorem ai.mark(I:ai X pins σ H s)(e:Value):ai (X.mark e) pins σ H s:=⟨I.ok.mark e,I.os,I.bare,I.base,I.loc,I.cell,I.free,I.freeC,I.pin,I.hok,I.len⟩
theorem ai.unmark(ok:X.Ok)(I:ai (X.mark e) pins σ H s):ai X pins σ H s:=⟨ok,I.os,I.bare,I.base,I.loc,I.cell,I.free,I.freeC,I.pin,I.hok,I.len⟩
abbrev g8(x C:Addr)(od:Option Addr):HO:=.ext (fun h => ∃o vs,h.get? x=some o/\o.cls=.ref C/\o.dict=od/\o.data=.fields vs)
theorem Ce{o:Obj}(e1:h.get? x=some o)(e2:o.cls=.ref C)(e3:o.dict=od)(e4:o.data=.fields vs):aR P w H h x (g8 x C od) :=
 ⟨⟨o,vs,e1,e2,e3,e4⟩,⟨o,e1⟩,fun h1 h2 ⟨o',vs',a,b,c,d⟩ k=>⟨o',vs',k o' a,b,c,d⟩⟩
theorem Dh{o:HO}(hk:bE P w H h)(hn:H x=none)(ho:aR P w (az H x o) h x o):bE P w (az H x o) h:=fun a u e=>by
 by_cases z:a=x
 ·subst z
  rw[aD]at e;cases e
  exact ho
 ·rw[al z]at e
  exact(hk a u e).stay (fun _ _ _ q=>q) (fun b q=>by rw[al (aP q hn)];exact q) fun b xs q=>by rw[al (aP q hn)];exact q
theorem CK{E:XK}{D:gU}{B y:Str}{ie iy:Nat}{C0:Addr}{bp hpos p1 p2 p3:Pos}(I:ai X pins σ H s)(hs:X.stack=X.env::X.outer)(hN:X.N.Nodup)(c:dM X.prog X.w X.stack H s E e s')
  (hB:Gl X B) (hmB:X.mg B=some (.ref C0)) (hdb:(B==("__debug__" : Str))=false) (hie:X.N[ie]?=some n) (hen:X.env.scope.names.lookup n=some .local) (hiy:X.N[iy]?=some y) (hyn:X.env.scope.names.lookup y=some .local) (hne:iy≠ie)
  (hd1:(n==("__debug__" : Str))=false) (hd2:(n==("__classdict__" : Str))=false)
  (hE:∀C od H',E (.ref C) od H'->W.exmOne X.K (.ref C) (.ref C0)=some true/\∀x,H' x=none->D.nx (((σ.set ie (some (.ref x))).set iy (some (.ref x))).set ie none) (az H' x (g8 x C od))) :
  wpAny (model X.prog X.w) X.A (noteFrame e X.env) (fun _ s₂=>wpAny (model X.prog X.w) X.A (setFlight e none) (fun _ s₃=>wpAny (model X.prog X.w) X.A (handleBy e X.env [.ExceptHandler (some (.Name B bp)) (some n) [.Assign [.Name y p1] (.Name n p2) p3] hpos]) (SP X pins D) X.xe s₃) X.xe s₂) X.xe s':=by
 obtain⟨x,C,T,od,H',rfl,hx,hT,t,ho,hg,u,hk,nx,nT,q⟩:=c
 have J:ai X pins σ H' s':=I.call' (ch:=[]) ho u hk hg (fun b z=>absurd z (by simp))
 have hfr:=I.frame hs
 have fs:X.A.frames=some (X.env::X.outer):=by rw[<- hs];exact I.ok.frames
 have hf:=J.stack
 rw[hs]at hf
 obtain⟨oe,vs,oT,ts,a0,e1,e2,e6,e3,e4,e5,f0,f1,f2,f3⟩:=id t
 have hsz:1<vs.size:=by
  rcases Nat.lt_or_ge 1 vs.size with z|z
  ·exact z
  ·rw[Array.getElem?_eq_none z]at e5;cases e5
 obtain⟨qm,qn⟩:=hE C od H' q
 refine jO (C:=C) (od:=od) fs hf hfr e1 e2 e6 e3 hsz e4 (.inr ⟨T,oT,ts,e5,f0,f1,f2,f3⟩) fun h2 T2 k1 k2 nT2 tr=>?_
 have hidn:∀b∈x::T::bB X.stack,H' b=none:=fun b hb=>by
  rcases List.mem_cons.mp hb with rfl|hb
  ·exact nx
  ·rcases List.mem_cons.mp hb with rfl|hb
   ·exact nT
   ·exact J.stkFree b hb
 have hidf:∀b o,s.heap.get? b=some o->b∈x::T::bB X.stack->b∈bB X.stack:=fun b o eb hb=>by
  rcases List.mem_cons.mp hb with rfl|hb
  ·rw[hx]at eb;cases eb
  ·rcases List.mem_cons.mp hb with rfl|hb
   ·rw[hT]at eb;cases eb
   ·exact hb
 have mkI:∀h3:Heap,gb X (x::T::bB X.stack) s'.heap h3->ai X pins σ H' { s' with heap:=h3 }:=fun h3 ov =>
  I.call' (s':={ s' with heap:=h3 }) (ch:=[]) ho (n4 u hidf ov.keep ov.up) (me hk hidn ov.keep) hg (fun b z=>absurd z (by simp))
 have ov2:gb X (x::T::bB X.stack) s'.heap h2:=⟨fun b o eb nb=>k1 b o eb (fun z=>nb (by rw[z];exact List.mem_cons_self)) (by rw[e5];intro z;injection z with z;injection z with z;exact nb (by rw[<- z];exact List.mem_cons_of_mem _ List.mem_cons_self)) (fun z=>nb (List.mem_cons_of_mem _ (List.mem_cons_of_mem _ (by rw[hs];exact z)))),fun b hb o eb=>k2 b (by rw[<- hs];exact hb) o eb⟩
 have J2:=mkI h2 ov2
 obtain⟨ox,vx,oU,us,a1,ex1,ex2,ex6,ex3,ex4,ex5,u0,u1,u2,u3⟩:=tr
 refine wpAny_handleBy_cons ?_ (by intro z;cases z)
 refine codeAny_handlers_test ?_
 refine cy (X:=X.mark (.ref x)) (J2.mark (.ref x)) hB hmB ?_ hdb
 refine W.Looks.at (W.exm_one J2.kIn (gF ex1 ex2 _) qm) ?_
 show codeAny _ _ _ _ _
 refine codeAny_handlers_suite_as ?_
 have u4:3<us.size:=by
  rcases Nat.lt_or_ge 3 us.size with z|z
  ·exact z
  ·rw[Array.getElem?_eq_none z]at u3;cases u3
 have nT3:∀b o,s'.heap.get? b=some o->T2≠b:=fun b o eb z=>by rw[<- z,nT2]at eb;cases eb
 refine pj (s:={ s' with heap:=h2 }) ex1 ex3 ex5 u1 u2 u4 ?_
 obtain⟨h3,eh3⟩:∃h3,h2.update T2 (Obj.mapFields fun v=>v.setIfInBounds 3 .none)=h3:=⟨_,rfl⟩
 have oth:∀b,T2≠b->h3.get? b=h2.get? b:=fun b hb=>by rw[<- eh3];exact Heap.get?_update_other _ _ hb
 show wpAny _ _ _ _ _ { s' with heap:=h2.update T2 (Obj.mapFields fun v=>v.setIfInBounds 3 .none) }
 rw[eh3]
 have ov3:gb X (x::T::bB X.stack) s'.heap h3:=⟨fun b o eb nb=>(oth b (nT3 b o eb)).trans (ov2.keep b o eb nb),fun b hb o eb=>by
  obtain⟨sl,z⟩:=ov2.up b hb o eb
  exact⟨sl,(oth b (nT3 b o eb)).trans z⟩⟩
 have ey1:h3.get? x=some ox:=(oth x u0).trans ex1
 have J3:ai X pins σ (az H' x (g8 x C od)) { s' with heap:=h3 }:=by
  have u3:=n4 u hidf ov3.keep ov3.up
  refine I.call' (s':={ s' with heap:=h3 }) (ch:=[]) ho ⟨u3.keep,u3.slot,fun b o eb n hb=>?_,u3.there,fun b xs eb=>?_,fun b o w eb=>?_,fun b ps eb=>?_⟩ (Dh (me hk hidn ov3.keep) nx (Ce ey1 ex2 ex6 ex3)) hg (fun b z=>absurd z (by simp))
  ·have:b≠x:=fun z=>by rw[z,hx]at eb;cases eb
   rw[al this];exact u3.free b o eb n hb
  ·have z:=u3.tups b xs eb
   rw[al (aP z nx)];exact z
  ·have z:=u3.frzs b o w eb
   rw[al (aP z nx)];exact z
  ·obtain⟨more,z⟩:=u3.tbls b ps eb
   exact⟨more,by rw[al (aP z nx)];exact z⟩
 refine dU (X:=X) J3 hN hie (.inl hen) (v:=.ref x) rfl (fun s4 J4=>?_) (.inr hen)
 have hl:ie<σ.length:=by rw[I.len];exact(List.getElem?_eq_some_iff.mp hie).1
 have pv:PE (X.mark (.ref x)) (.Name n p2) (jD ie):=fw (X:=X.mark (.ref x)) hie (.inl hen) hd1 hd2
 have ps:=uc (X:=X.mark (.ref x)) (pos:=p3) (pos':=p1) hN hiy (.inl hyn) pv rfl (.inr hyn)
 refine wpAny_mono (yJ ps pins s4 _ _ ⟨fun σ' H''=>σ'=(σ.set ie (some (.ref x))).set iy (some (.ref x))/\H''=az H' x (g8 x C od),fun _ _=>False,fun _ _=>False,fun _ _=>False⟩ (J4.mark (.ref x)) ⟨_,List.getElem?_set_self hl,rfl,rfl⟩) (fun f s5 hf=>?_) (fun _ _ z=>z.elim)
 cases f with
 | next =>
  obtain⟨σ',H'',J5,rfl,rfl⟩:=hf
  refine zy (X:=X) (J5.unmark I.ok) hN hie hen fun s6 J6=>?_
  exact⟨_,_,J6,qn x nx⟩
 | brk=>obtain⟨_,_,_,z⟩:=hf;exact z.elim
 | cont=>obtain⟨_,_,_,z⟩:=hf;exact z.elim
 | ret v=>obtain⟨_,_,_,_,_,z⟩:=hf;exact z.elim
end
theorem j9{nm:Str}
  (F:ExcBaseFacts B newId initId bmB) (ht:OwnTail h bmB bm) {aX:List Value} {Q:PySem.Fin->Shared->Prop} (hC:h.get? C=some (excClassObj nm q C N bs bm hdct sn sub ab col dd k0 k1 k2 k3 k5 newId)) (hn:h.Ns N mN) (hi:mN "__init__" = some (.ref fI)) (hfI:h.get? fI=some oI) (hfc:oI.cls=.type "function")
  (hq:∀h' e,h.objs.size<=e->h.MadeExcOf h' e (.ref C) aX->wpAny (model prog w) A (call (.ref fI) (.ref e::aX)) (fun r s'=>r=.none/\Q (.done (.ret (.ref e))) s') E ⟨h',g,d,t,os⟩) (hrest:aX.length<=sizeLine) :
  wpAny (model prog w) A (Builtin.«type.__call__» ⟨.ref C::aX,[]⟩) Q E ⟨h,g,d,t,os⟩:=by
 unfold Builtin.«type.__call__»
 dsimp only
 refine wpAny_ite_false rfl ?_
 refine wpAny_bind ?_
 unfold mroOf
 refine wpAny_bind ?_
 unfold classData
 refine wpAny_bind (wpAny_load' hC (wpAny_pure (wpAny_pure ?_)))
 refine wpAny_ite_false rfl ?_
 refine wpAny_bind (wpAny_madeBy_exc hC ?_)
 refine wpAny_bind (wpAny_pure ?_)
 refine wpAny_bind (wpAny_holding (wpAny_call (codeAny_call_builtin_code (Code.quiet_builtin ⟨.ref C::aX,[]⟩ F.quiet) (wpAny_check_new_subT F ht hC (codeAny_exc_new_subT F ht hC ?_ hrest)))))
 have kp:∀b o,h.get? b=some o->((h.push { cls:=.type "tuple", data:=.seq aX.toArray }).push { cls:=.ref C,data:=.fields #[.ref h.objs.size,.none,.none,.none,.bool false,.none] }).get? b=some o:=fun b o e=>Heap.get?_push_of_some _ (Heap.get?_push_of_some _ e)
 have hget:((h.push { cls:=.type "tuple", data:=.seq aX.toArray }).push { cls:=.ref C,data:=.fields #[.ref h.objs.size,.none,.none,.none,.bool false,.none] }).get? (h.objs.size+1)=some { cls:=.ref C,data:=.fields #[.ref h.objs.size,.none,.none,.none,.bool false,.none] }:=Heap.get?_push_at (by simp) rfl
 have m:h.MadeExcOf ((h.push { cls:=.type "tuple", data:=.seq aX.toArray }).push { cls:=.ref C,data:=.fields #[.ref h.objs.size,.none,.none,.none,.bool false,.none] }) (h.objs.size+1) (.ref C) aX:=⟨kp,Heap.get?_none_of_le (Nat.le_succ _),h.objs.size,hget,Heap.get?_none_of_le (Nat.le_refl _),Heap.get?_push_of_some _ (Heap.get?_push_at rfl rfl)⟩
 have hcC:(Value.ref C::bm).contains (.ref C)=true:=by simp
 generalize hh:(h.push { cls:=.type "tuple", data:=.seq aX.toArray }).push { cls:=.ref C,data:=.fields #[.ref h.objs.size,.none,.none,.none,.bool false,.none] }=h1 at *
 refine wpAny_bind (E:=E) ?_
 unfold isInstance
 refine wpAny_bind ?_
 unfold typeOf
 refine wpAny_bind (wpAny_loadPart_at hget ?_)
 refine wpAny_pure ?_
 refine wpAny_isSubtype_exc (kp _ _ hC) ?_
 rw[hcC]
 refine wpAny_ite_false rfl ?_
 refine wpAny_bind (wpAny_holding ?_)
 unfold callSpecial?
 refine wpAny_bind ?_
 unfold specialOf
 refine wpAny_bind ?_
 unfold typeOf
 refine wpAny_bind (wpAny_loadPart_at hget ?_)
 refine wpAny_pure ?_
 have ht1:OwnTail h1 bmB bm:=ht.keeps kp
 have hn1:h1.Ns N mN:=by obtain⟨o,es,ep,a,b⟩:=hn;exact⟨o,es,ep,kp _ _ a,b⟩
 refine wpAny_typeLookup_tail (kp _ _ hC) hn1 ht1 F.mroIs F.init.lookup ?_
 rw[hi]
 dsimp only
 refine wpAny_holding (wpAny_bind ?_)
 unfold bindSpecial
 refine wpAny_bind (wpAny_typeOf ⟨oI,kp _ _ hfI,hfc⟩ ?_)
 rw[if_pos (by decide)]
 refine wpAny_pure (wpAny_bind (wpAny_mono (hq h1 _ (Nat.le_succ _) m) (fun r s' hr=>?_) (fun _ _ z=>z)))
 obtain⟨rfl,hQ⟩:=hr
 refine wpAny_pure ?_
 dsimp only
 rw[if_neg (by simp)]
 exact wpAny_pure hQ
theorem sQ{nm:Str}
  (F:ExcBaseFacts B newId initId bmB) (ht:OwnTail h bmB bm) {aX:List Value} {Q:Value->Shared->Prop} (hC:h.get? C=some (excClassObj nm q C N bs bm hdct sn sub ab col dd k0 k1 k2 k3 k5 newId)) (hn:h.Ns N mN) (hi:mN "__init__" = some (.ref fI)) (hfI:h.get? fI=some oI) (hfc:oI.cls=.type "function")
  (hq:∀h' e,h.objs.size<=e->h.MadeExcOf h' e (.ref C) aX->wpAny (model prog w) (A.under (.builtin "type.__call__" ⟨.ref C::aX,[]⟩)) (call (.ref fI) (.ref e::aX)) (fun r s'=>r=.none/\Q (.ref e) s') E ⟨h',g,d,t,os⟩) (hrest:aX.length<=sizeLine) :
  wpAny (model prog w) A (call (.ref C) aX) Q E ⟨h,g,d,t,os⟩:=by
 have f1:=tc_lookup
 have f2:=tc_bind (.ref C)
 have hT:Shared.TypeIs ⟨h,g,d,t,os⟩ (.ref C) "type" := ⟨_,hC,rfl⟩
 refine wpAny_call (codeAny_of_tree ?_)
 refine wpAny_bind (wpAny_load' hC ?_)
 refine wpAny_bind (wpAny_specialOf hT f1 ?_)
 refine wpAny_bind (wpAny_of_eq f2 ?_)
 refine wpAny_bind ?_
 refine wpAny_pure (wpAny_ite_true rfl ?_)
 refine wpAny_pure ⟨rfl,codeAny_call_builtin_at (Code.quiet_builtin ⟨.ref C::aX,[]⟩ (by decide +kernel)) entry_typeCall (wpAny_check_type_call_sub hC (j9 F ht hC hn hi hfI hfc (fun h' e hl hm=>hq h' e hl hm) hrest))⟩
theorem se{nm:Str}{x:Sem Value}{Q:Flow->Shared->Prop}
  (hbase:bm.contains (.type "BaseException")=true) (hh:A.handled=none)
  (h:wpAny M A x (fun v s₁ => ∃e oe vs,v=.ref e/\s₁.heap.get? C=some (excClassObj nm q C N bs bm hdct sn sub ab col dd k0 k1 k2 k3 k5 newId)/\s₁.heap.get? e=some oe/\oe.cls=.ref C/\oe.data=.fields vs/\vs[1]?=some .none/\E (.ref e) s₁) E s):wpAny M A (raiseStmt env (some x) none) Q E s:=by
 have hcB:(Value.ref C::bm).contains (.type "BaseException")=true:=by rw[List.contains_cons,hbase,Bool.or_true]
 unfold raiseStmt
 dsimp only
 refine wpAny_bind (wpAny_mono h (fun v s1 h1=>?_) (fun _ _ z=>z))
 obtain⟨e,oe,vs,rfl,hC,he,e2,e3,e5,hE⟩:=h1
 obtain⟨hp,g,d,tk,os⟩:=s1
 obtain⟨oc,od,oda,osl⟩:=oe
 simp only at e2 e3
 subst e2 e3
 refine wpAny_bind (wpAny_pure ?_)
 refine wpAny_bind (wpAny_holding ?_)
 unfold excFromValue
 refine wpAny_bind ?_
 unfold isExcClass
 refine wpAny_bind ?_
 unfold isType
 refine wpAny_bind (wpAny_loadPart_at he (wpAny_pure ?_))
 refine wpAny_ite_false rfl (wpAny_pure ?_)
 refine wpAny_ite_false rfl ?_
 refine wpAny_bind ?_
 unfold isInstance
 refine wpAny_bind ?_
 unfold typeOf
 refine wpAny_bind (wpAny_loadPart_at he (wpAny_pure ?_))
 refine wpAny_isSubtype_exc hC ?_
 rw[hcB]
 refine wpAny_ite_true rfl (wpAny_pure ?_)
 dsimp only
 refine wpAny_bind ?_
 refine wpAny_bind (wpAny_loadPart_at he (wpAny_pure ?_))
 refine wpAny_ite_false rfl ?_
 refine wpAny_bind ?_
 unfold raisedInstance
 refine wpAny_bind ?_
 unfold typeOf
 refine wpAny_bind (wpAny_loadPart_at he (wpAny_pure ?_))
 refine wpAny_bind ?_
 refine wpAny_bind (wpAny_loadPart_at hC (wpAny_pure ?_))
 refine wpAny_ite_true rfl (wpAny_pure ?_)
 refine wpAny_bind ?_
 unfold setFlight
 refine wpAny_bind (wpAny_field he rfl e5 ?_)
 refine wpAny_ite_false rfl (wpAny_pure ?_)
 exact wpAny_raiseNew_none hh hE


theorem zA{D dx:Addr}{name:Str}{v:Value}{b:Bool}{mA:Str->Option Value}{Q:Value->Shared->Prop}{nm:Str}
  (hga:W.findIn K (.ref D) "__getattribute__" = some (some (.builtin "BaseException.__getattribute__"))) (hgt:W.findIn K (.ref D) "__getattr__" = some none) (hf:W.findIn K (.ref D) name=some none) (hdi:W.hasDictIn K D=true)
  (KI:K.In s.heap) (e1:s.heap.get? x=some ox) (e2:ox.cls=.ref D) (e3:ox.data=.fields vs) (e4:ox.dict=some dx) (hn:s.heap.Ns1 dx mA) (hv:mA name=some v) (hh:W.handedIn v=true) (hD:s.heap.get? D=some (excClassObj nm q D N bs bm hdct sn sub ab col dd k0 k1 k2 k3 k5 newId)) (hT:OwnTailQ s.heap fJ bm)
  (hq:Q v { s with toks:=s.toks+1 }):wpAny (model prog w) A (getAttr (.ref x) name b) Q E s:=by
 obtain⟨h,g,d,tk,os⟩:=s
 have ty:=gF e1 e2
 obtain⟨od,ho,hl⟩:=mX hn
 have J:W.InstAt h x ox D (some od):=⟨e1,e2,by unfold W.notCls;rw[e3],by rw[e4];exact ho⟩
 have lf:∀M,W.Looks M h (Builtin.ObjectAttr.find (.ref x) (.ref D) name) (.value v):=fun M=>W.looks_find KI J (W.findObj_own hdi hf rfl (by rw[hl,hv]))
 unfold getAttr
 refine wpAny_bind (wpAny_mkText ?_)
 unfold getAttrBy
 refine wpAny_holding (wpAny_bind (W.Looks.at (ty _) ?_))
 refine wpAny_bind (W.Looks.at (W.looks_findIn KI hga) ?_)
 dsimp only
 have e9:(onTheHeap (Value.ref D)&&Value.builtin "BaseException.__getattribute__" == Value.builtin "object.__getattribute__")=false:=by
  have e0:(Value.builtin "BaseException.__getattribute__" == Value.builtin "object.__getattribute__")=false:=by decide +kernel
  rw[e0,Bool.and_false]
 rw[e9]
 rw[if_neg (by simp)]
 unfold getAttrByItsOwn
 refine wpAny_bind (W.Looks.at (W.looks_hook KI (r:=none) (by show(if true=true then W.findIn K (.ref D) "__getattr__" else some none)=some none;rw[if_pos rfl];exact hgt)) ?_)
 refine wpAny_bind (wpAny_attempt (wpAny_holding ?_))
 unfold callGetattribute
 rw[if_neg (by rw[show onTheHeap (Value.builtin "BaseException.__getattribute__")=false from rfl];simp)]
 unfold boundAndCalled
 rw[(PySem.F.attrBase_ValueError.toExcAttrFacts.ga).bind]
 refine wpAny_bind (wpAny_pure ?_)
 refine wpAny_call (codeAny_call_builtin (PySem.F.attrBase_ValueError.toExcAttrFacts.ga).plain PySem.F.entry_bexc_ga ?_)
 refine wpAny_check_ga_own PySem.F.attrBase_ValueError hD hT e1 e2 ?_
 show wpAny _ _ (Builtin.«object.__getattribute__» ⟨[Value.ref x,Value.str name tk],[]⟩) _ _ _
 unfold Builtin.«object.__getattribute__»
 refine wpAny_bind ?_
 unfold slotArgs
 dsimp only
 rw[if_neg (by simp),if_neg (by simp)]
 refine wpAny_pure ?_
 dsimp only
 refine wpAny_bind ?_
 unfold Builtin.ObjectAttr.attrName
 refine wpAny_pure ?_
 refine wpAny_bind (W.Looks.at (ty _) ?_)
 refine wpAny_bind (W.Looks.at (lf _) ?_)
 dsimp only
 refine wpAny_pure ?_
 exact W.handed_on hh hq
end L2
namespace Sp
open PySem PySem.Spec PyProof.Rows L2
variable{H:Hp}{K:W.Frag}{n:Str}{C S:Addr}
structure x2(K:W.Frag)(n:Str)(C:Addr):Prop where
 cl:((W.clsIn K C).isSome&&W.typeIn K (.ref C)==some (.type "type"))=true
 sole:∀m,W.nsIn K mainGlobals m=some (some (.ref C))->m=n
 obj:∃o,K.lookup C=some o/\o.cls=.type "type"
abbrev Xs:=Str×Str×List (Str×Int)
def pq(H:Hp)(od:Option Addr)(fs:List (Str×Int)):Prop:=∀f i,fs=[(f,i)]->∃dx,od=some dx/\H dx=some (.xd [(f,.int i)])
theorem pq.nil{od:Option Addr}:pq H od []:=fun _ _ z=>by cases z
structure qh(K:W.Frag)(C:Addr)(f:Str):Prop where
 no:W.findIn K (.ref C) f=some none
 di:W.hasDictIn K C=true
def gS(K:W.Frag)(H:Hp)(n:Str):Option (Str×List (Str×Int))->V->Prop
 | none,v => ∃C,v=.ref C/\W.nsIn K mainGlobals n=some (some (.ref C))/\x2 K n C
 | some (p,fs),v => ∃x C S od,v=.ref x/\W.nsIn K mainGlobals n=some (some (.ref C))/\W.nsIn K mainGlobals p=some (some (.ref S))/\eV K C S/\H x=some (g8 x C od)/\pq H od fs/\∀f i,fs=[(f,i)]->qh K C f
theorem gS.mono{H':Hp}(k:∀a C od,H a=some (g8 a C od)->H' a=some (g8 a C od))(kd:∀a fs,H a=some (.xd fs)->H' a=some (.xd fs)):∀{p:Option (Str×List (Str×Int))} {v:V},gS K H n p v->gS K H' n p v
 | none,_,h=>h
 | some (p,fs),_,⟨x,C,S,od,e,h1,h2,h3,h4,h5,h6⟩=>⟨x,C,S,od,e,h1,h2,h3,k _ _ _ h4,fun f i z=>let ⟨dx,a,b⟩:=h5 f i z;⟨dx,a,kd _ _ b⟩,h6⟩
theorem gS.ref:∀{p:Option (Str×List (Str×Int))} {v:V},gS K H n p v->∃a,v=.ref a
 | none,_,⟨C,e,_⟩=>⟨C,e⟩
 | some (p,fs),_,⟨x,_,_,_,e,_⟩=>⟨x,e⟩
theorem gS.at:∀{p:Option (Str×List (Str×Int))} {a:Addr},gS K H n p (.ref a)->(∃o,K.lookup a=some o/\o.cls=.type "type")\/∃C od,H a=some (g8 a C od)
 | none,_,⟨C,e,_,h⟩=>by cases e;exact .inl h.obj
 | some (p,fs),_,⟨x,C,_,od,e,_,_,_,h,_⟩=>by cases e;exact .inr ⟨C,od,h⟩
theorem ut(e:ml K C S=true):∃cd,W.clsIn K C=some cd/\cd.mro=.ref C :: .ref S::fJ:=by
 unfold ml at e
 split at e
 ·rename_i t d1 cd sl c2 d2 ce sl2 e1 e2
  simp only[Bool.and_eq_true]at e
  obtain⟨⟨⟨⟨⟨q1,q2⟩,q3⟩,q4⟩,q5⟩,q6⟩:=e
  exact⟨cd,by unfold W.clsIn;rw[e1],by simpa using q3⟩
 ·cases e
theorem uJ{Cm:Addr}{p m:Str}(e:eV K C S)(hn:W.nsIn K mainGlobals n=some (some (.ref C)))(hp:W.nsIn K mainGlobals p=some (some (.ref S)))(hm:W.nsIn K mainGlobals m=some (some (.ref Cm)))(x:x2 K m Cm) :
  W.kitOne K (.ref C) (.ref Cm)=some (decide (m=n) || decide (m=p)):=by
 obtain⟨cd,h1,h2⟩:=ut e.ex
 have a1:(Value.ref Cm==Value.ref C)=decide (m=n):=by
  by_cases z:m=n
  ·subst z;rw[hm]at hn;cases hn;simp
  ·rw[decide_eq_false z]
   refine beq_eq_false_iff_ne.mpr fun y=>z ?_
   injection y with y
   subst y
   exact(x.sole n hn).symm
 have a2:(Value.ref Cm==Value.ref S)=decide (m=p):=by
  by_cases z:m=p
  ·subst z;rw[hm]at hp;cases hp;simp
  ·rw[decide_eq_false z]
   refine beq_eq_false_iff_ne.mpr fun y=>z ?_
   injection y with y
   subst y
   exact(x.sole p hp).symm
 unfold W.kitOne
 have a3:(Value.ref C==Value.ref Cm)=decide (m=n):=by
  by_cases z:m=n
  ·subst z;rw[hm]at hn;cases hn;simp
  ·rw[decide_eq_false z]
   refine beq_eq_false_iff_ne.mpr fun y=>z ?_
   injection y with y
   subst y
   exact(x.sole n hn).symm
 rw[a3]
 by_cases z:m=n
 ·rw[if_pos (decide_eq_true z),decide_eq_true z];rfl
 ·rw[decide_eq_false z,if_neg (by simp),Bool.false_or]
  unfold W.kitCls
  dsimp only
  rw[if_pos x.cl]
  unfold W.subIn W.mroIn
  dsimp only
  rw[h1,Option.bind_some,h2,if_neg (by simp)]
  rw[List.contains_cons,List.contains_cons,a1,a2,decide_eq_false z,Bool.false_or,show fJ.contains (Value.ref Cm)=false by simp[fJ],Bool.or_false]
theorem BE(e:eV K C S):W.kitOne K (.ref C) (.type "ValueError")=some true:=by
 obtain⟨cd,h1,h2⟩:=ut e.ex
 unfold W.kitOne
 rw[if_neg (by simp)]
 unfold W.kitCls
 dsimp only
 rw[if_pos (by decide +kernel)]
 unfold W.subIn W.mroIn
 dsimp only
 rw[h1,Option.bind_some,h2,if_neg (by simp)]
 simp[fJ]
end Sp
namespace L2
open PySem PySem.Spec PyProof.Rows
variable{o:Option V}{u:Value}{y:V}
section
variable{κ:Type}[DecidableEq κ]
def bU(kvs:List (κ×V))(k:κ):Option V:=(kvs.find? fun kv=>decide (kv.1=k)).map (·.2)
def cY(kvs:List (κ×V))(k:κ)(v:V):List (κ×V) :=
 if (kvs.any fun kv=>decide (kv.1=k))=true then kvs.map (fun kv=>if kv.1=k then(kv.1,v)else kv)else kvs++[(k,v)]
def xU(kvs:List (κ×V))(k:κ):List (κ×V):=kvs.filter fun kv=>decide (kv.1≠k)
theorem dj{p:κ×V}{r:List (κ×V)}{k:κ}(e:p.1=k):bU (p::r) k=some p.2:=by simp[bU,List.find?_cons,e]
theorem dk{p:κ×V}{r:List (κ×V)}{k:κ}(e:¬ p.1=k):bU (p::r) k=bU r k:=by simp[bU,List.find?_cons,e]
theorem jC(k:κ):∀kvs:List (κ×V),(kvs.any fun kv=>decide (kv.1=k))=(bU kvs k).isSome
 | []=>rfl
 | p::r=>by
  rw[List.any_cons]
  by_cases e:p.1=k
  ·simp only[dj e,decide_eq_true e,Bool.true_or,Option.isSome_some]
  ·rw[dk e,decide_eq_false e,Bool.false_or];exact jC k r
theorem jt(kvs:List (κ×V))(k:κ)(v:V):(cY kvs k v).length<=kvs.length+1:=by
 unfold cY
 split
 ·rw[List.length_map];omega
 ·rw[List.length_append,List.length_cons,List.length_nil];omega
theorem cS.isSome_eq{u:Option Value}(r:cS o u):o.isSome=u.isSome:=by
 cases o with
 | none=>cases u with
  | none=>rfl
  | some _=>exact(show False from r).elim
 | some _=>cases u with
  | none=>exact(show False from r).elim
  | some _=>rfl
theorem cS.getD{u:Option Value}{d:V}{d':Value}(r:cS o u)(rd:aJ d d'):aJ (o.getD d) (u.getD d'):=by
 cases o with
 | none=>cases u with
  | none=>exact rd
  | some _=>exact(show False from r).elim
 | some _=>cases u with
  | none=>exact(show False from r).elim
  | some _=>exact r
theorem KV.val{kvs:List (κ×V)}{vs:List (κ×Value)}(r:KV kvs vs)(k:κ):cS (bU kvs k) (valueAt vs k):=by
 unfold KV at r
 induction r with
 | nil=>exact True.intro
 | @cons p q ps qs h t ih =>
  obtain⟨h1,h2⟩:=h
  by_cases e:p.1=k
  ·have e':q.1=k:=h1.symm.trans e
   have b:valueAt (q::qs) k=some q.2:=by simp[valueAt,List.find?_cons,e']
   rw[dj e,b];exact h2
  ·have e':¬ q.1=k:=fun z=>e (h1.trans z)
   have b:valueAt (q::qs) k=valueAt qs k:=by simp[valueAt,List.find?_cons,e']
   rw[dk e,b];exact ih
theorem KV.any{kvs:List (κ×V)}{vs:List (κ×Value)}(r:KV kvs vs)(k:κ):(kvs.any fun kv=>decide (kv.1=k))=vs.any fun kv=>decide (kv.1=k):=by
 unfold KV at r
 induction r with
 | nil=>rfl
 | cons h t ih=>rw[List.any_cons,List.any_cons,ih,h.1]
theorem KV.repl{kvs:List (κ×V)}{vs:List (κ×Value)}(r:KV kvs vs)(k:κ)(ry:aJ y u) :
  KV (kvs.map fun kv=>if kv.1=k then(kv.1,y)else kv) (vs.map fun kv=>if kv.1=k then(kv.1,u)else kv):=by
 unfold KV at r⊢
 induction r with
 | nil=>exact .nil
 | @cons p q ps qs h t ih =>
  rw[List.map_cons,List.map_cons]
  refine .cons ?_ ih
  obtain⟨h1,h2⟩:=h
  by_cases e:p.1=k
  ·rw[if_pos e,if_pos (h1.symm.trans e)];exact⟨h1,ry⟩
  ·rw[if_neg e,if_neg (fun z=>e (h1.trans z))];exact⟨h1,h2⟩
theorem KV.put{kvs:List (κ×V)}{vs:List (κ×Value)}(r:KV kvs vs)(k:κ)(ry:aJ y u):KV (cY kvs k y) (stored vs k u):=by
 unfold cY stored
 rw[r.any k]
 by_cases e:(vs.any fun kv=>decide (kv.1=k))=true
 ·rw[if_pos e,if_pos e];exact r.repl k ry
 ·rw[if_neg e,if_neg e];exact Paired.snoc r ⟨rfl,ry⟩
theorem KV.drop{kvs:List (κ×V)}{vs:List (κ×Value)}(r:KV kvs vs)(k:κ):KV (xU kvs k) (without vs k):=by
 unfold KV at r⊢
 unfold xU without
 induction r with
 | nil=>exact .nil
 | @cons p q ps qs h t ih =>
  obtain⟨h1,h2⟩:=h
  rw[List.filter_cons,List.filter_cons]
  by_cases e:p.1=k
  ·have a:¬ decide (p.1≠k)=true:=by simp[e]
   have b:¬ decide (q.1≠k)=true:=by simp[h1.symm.trans e]
   rw[if_neg a,if_neg b];exact ih
  ·have e':¬ q.1=k:=fun z=>e (h1.trans z)
   have a:decide (p.1≠k)=true:=by simp[e]
   have b:decide (q.1≠k)=true:=by simp[e']
   rw[if_pos a,if_pos b];exact .cons ⟨h1,h2⟩ ih
theorem KV.keys{kvs:List (κ×V)}{vs:List (κ×Value)}(r:KV kvs vs):kvs.map (·.1)=vs.map (·.1):=by
 unfold KV at r
 induction r with
 | nil=>rfl
 | cons h t ih=>rw[List.map_cons,List.map_cons,ih,h.1]
theorem KV.length{kvs:List (κ×V)}{vs:List (κ×Value)}(r:KV kvs vs):kvs.length=vs.length:=Paired.length r
end
theorem i8{P:Program}{w:World}{k:aV}(r:aJ (kV k) u):(bV P w).is k u=true:=by
 cases k with
 | inl i=>obtain⟨t,e⟩:=(show ∃t,u=Value.int i t from r);subst e;exact qy P w i t
 | inr x=>obtain⟨t,e⟩:=(show ∃t,u=Value.str x t from r);subst e;exact qx P w x t
end L2
namespace Sp
open PySem PySem.Spec PyProof.Rows L2
variable{K:W.Frag}{H H':Hp}{a c e e2 elt iter tg:Expr}{vs vs':List V}{v:V}{X:Cx}{σ:L2.St}{i j k k2 ko n n2:Nat}{env:Env}{sc scope:Scope}{M:Model}{A:Around}{E:Value->Shared->Prop}{s:Shared}{cl:List (Str×Addr)}{f g m qual x:Str}{pins:List (Addr×Obj)}{N' ns ps:List Str}{fp:List Addr}{w:World}{args cs es ifs tgs:List Expr}{ap cp p p1 p2 pos px py q:Pos}{b it r r2 t:Bool}{op op2:CmpOp}{body els ss:List Stmt}{α β:Type}{l o:List Prop}{ks:List aV}{T:String}{Q:Bool->Shared->Prop}{st:Stmt}{mg:Str->Option Value}{base:Heap}{cdv:Value}{outer:List Env}{fd:FuncData}{us:List Value}
inductive D where
 | non|bl (b:Bool)|int (i:Int)|str (x:Str)|dct (ks:List aV) (ds:List D)|tup (l:List D)|lst (l:List D)|typ (n:String)|sn (n:Nat)|obj (n:Str) (ns:List Str) (ds:List D)|cls (n:Str)|xc (n:Str) (p:Option (Str×List (Str×Int)))|dcf (ks:List Int) (ls:List (List (List Int)))
mutual
def D.lless:D->Bool
 | .lst _=>false
 | .dct _ _=>false
 | .tup l=>aq l
 | _=>true
def aq:List D->Bool
 | []=>true
 | d::l=>d.lless&&aq l
end
def qd(K:W.Frag)(H:Hp)(a:Addr)(vs:List V):Bool->Prop
 | true=>H a=some (.lst vs)
 | false=>(∃o,H a=some (.frz o (.lst vs)))\/∃(o:Obj) (its:Array Value) (n:Nat),K.lookup a=some o/\o.cls=.type "list" /\ o.dict=none/\o.data=.seq its n/\its.size<=sizeLine/\av vs its.toList
theorem qd.sq{a:Addr}:∀{b:Bool},qd K H a vs b->bM K H a vs
 | true,h=>bM.of h
 | false,.inl ⟨o,h⟩=>.inl (.inr ⟨o,h⟩)
 | false,.inr h=>.inr h
structure nS(K:W.Frag)(C:Addr):Prop where
 ha:W.findIn K (.ref C) "__class__" = some (some (.builtin "object.__class__"))
 hn:W.specialIn K (.builtin "object.__class__") "__get__" = some (some (.builtin "getset_descriptor.__get__"))
 ht:W.takesIn K (.builtin "object.__class__")=some true
 hm:W.mroIn K C (.type "object")=some true
def CB:List Str:=["Deed", "Turn", "HalfTurn", "Mirror"]
def oh(m n:Str):Bool:=decide (m=n) || (decide (n = "Deed")&&(decide (m = "Turn") || decide (m = "HalfTurn") || decide (m = "Mirror")))
structure Er(K:W.Frag)(C:Addr)(n:Str):Prop where
 all:∀m∈CB,∀Cm,W.nsIn K mainGlobals m=some (some (.ref Cm))->nS K Cm/\W.kitOne K (.ref Cm) (.ref C)=some (oh m n)
abbrev aQ:=Addr->Bool->Prop
def bj(K:W.Frag)(H:Hp):List V->List (List Int)->Prop
 | [],[]=>True
 | v::vs,ns::r=>(∃a,v=.ref a/\bg K H a (ns.map V.int)/\ns≠[])/\bj K H vs r
 | _,_=>False
def iM(K:W.Frag)(H:Hp):List (List (List Int))->List V->Prop
 | [],[]=>True
 | l::ls,v::r=>(∃a o ts,v=.ref a/\H a=some (.frz o (.lst ts))/\bj K H ts l)/\iM K H ls r
 | _,_=>False
theorem bj.keep{K:W.Frag}{H H':Hp}(k:∀a vs,bg K H a vs->bg K H' a vs):∀{bs:List V} {nss:List (List Int)},bj K H bs nss->bj K H' bs nss
 | [],[],_=>trivial
 | v::bs,ns::nss,h=>let ⟨a,e,hq,hn⟩:=h.1;⟨⟨a,e,k _ _ hq,hn⟩,bj.keep k h.2⟩
 | [],_::_,h=>h.elim
 | _::_,[],h=>h.elim
theorem iM.keep{K:W.Frag}{H H':Hp}(k:∀a vs,bg K H a vs->bg K H' a vs)(f:∀a o u,H a=some (.frz o u)->H' a=some (.frz o u)):∀{ls:List (List (List Int))} {vs:List V},iM K H ls vs->iM K H' ls vs
 | [],[],_=>trivial
 | l::ls,v::vs,h=>let ⟨a,o,ts,e,h1,h2⟩:=h.1;⟨⟨a,o,ts,e,f _ _ _ h1,h2.keep k⟩,iM.keep k f h.2⟩
 | [],_::_,h=>h.elim
 | _::_,[],h=>h.elim
mutual
def ae(K:W.Frag)(H:Hp)(P:aQ):D->V->Prop
 | .non,v=>v=.non
 | .bl b,v=>v=.bl b
 | .int i,v=>v=.int i
 | .str x,v=>v=.str x
 | .dct ks ds,v=>aq ds=true/\ks.length=ds.length/\∃a vs,v=.ref a/\H a=some (.dK (ks.zip vs))/\P a true/\ah K H P ds vs
 | .typ n,v=>v=.ty n
 | .dcf ks ls,v=>ks.length=ls.length/\∃a o vs,v=.ref a/\H a=some (.frz o (.dK ((ks.map Sum.inl).zip vs)))/\iM K H ls vs
 | .sn n,v => ∃a S,v=.ref a/\H a=some (.set S n)
 | .xc n p,v=>gS K H n p v
 | .cls n,v => ∃C o,v=.ref C/\W.nsIn K mainGlobals n=some (some (.ref C))/\K.lookup C=some o/\o.cls=.type "type" /\ nS K C/\Er K C n
 | .obj n ns ds,v=>aq ds=true/\ns.length=ds.length/\∃a C dx vs,v=.ref a/\W.nsIn K mainGlobals n=some (some (.ref C))/\dR K C/\H a=some (.ins C dx (ns.zip vs))/\ah K H P ds vs
 | .tup l,v => ∃a vs,v=.ref a/\bg K H a vs/\ah K H P l vs
 | .lst l,v => ∃a vs b,v=.ref a/\qd K H a vs b/\P a b/\ah K H P l vs
def ah(K:W.Frag)(H:Hp)(P:aQ):List D->List V->Prop
 | [],vs=>vs=[]
 | d::l,vs => ∃v r,vs=v::r/\ae K H P d v/\ah K H P l r
end
def nm:HO->Prop
 | .lst _=>False
 | .dK _=>False
 | _=>True
structure cu(P P':aQ)(H H':Hp):Prop where
 oth:∀a o,H a=some o->nm o->H' a=some o
 lst:∀a o,H a=some o->P a true->H' a=some o
 impT:∀a o,H a=some o->P a true->P' a true
 impF:∀a,P a false->P' a false
theorem cu.sq{P P':aQ}(s:cu P P' H H'){a:Addr}(h:bg K H a vs):bg K H' a vs:=by
 rcases h with(h|⟨o,h⟩)|h
 ·exact .inl (.inl (s.oth _ _ h True.intro))
 ·exact .inl (.inr ⟨o,s.oth _ _ h True.intro⟩)
 ·exact .inr h
theorem cu.ls{P P':aQ}(s:cu P P' H H'){a:Addr}:∀{b:Bool},qd K H a vs b->P a b->qd K H' a vs b
 | true,h,p=>s.lst a _ h p
 | false,.inl ⟨o,h⟩,_=>.inl ⟨o,s.oth _ _ h True.intro⟩
 | false,.inr h,_=>.inr h
theorem cu.imp{P P':aQ}(s:cu P P' H H'){a:Addr}:∀{b:Bool},qd K H a vs b->P a b->P' a b
 | true,h,p=>s.impT a _ h p
 | false,_,p=>s.impF a p
mutual
theorem ae.mono{K:W.Frag}{P P':aQ}{H H':Hp}(s:cu P P' H H'):∀{d:D} {v:V},ae K H P d v->ae K H' P' d v
 | .non,v,h=>by rw[ae]at h⊢;exact h
 | .bl b,v,h=>by rw[ae]at h⊢;exact h
 | .int i,v,h=>by rw[ae]at h⊢;exact h
 | .str x,v,h=>by rw[ae]at h⊢;exact h
 | .dct ks ds,v,h=>by
  rw[ae]at h⊢
  obtain⟨f,e0,a,vs,e,h1,p,r⟩:=h
  exact⟨f,e0,a,vs,e,s.lst _ _ h1 p,s.impT _ _ h1 p,ah.mono s r⟩
 | .typ n,v,h=>by rw[ae]at h⊢;exact h
 | .dcf ks ls,v,h=>by
  rw[ae]at h⊢
  obtain⟨e0,a,o,vs,e,h1,r⟩:=h
  exact⟨e0,a,o,vs,e,s.oth _ _ h1 True.intro,r.keep (fun _ _ z=>s.sq z) fun _ _ _ z=>s.oth _ _ z True.intro⟩
 | .sn n,v,h=>by
  rw[ae]at h⊢
  obtain⟨a,S,e,h⟩:=h
  exact⟨a,S,e,s.oth _ _ h True.intro⟩
 | .cls n,v,h=>by rw[ae]at h⊢;exact h
 | .xc n p,v,h=>by rw[ae]at h⊢;exact h.mono (fun a C od z=>s.oth _ _ z True.intro) (fun a fs z=>s.oth _ _ z True.intro)
 | .obj n ns ds,v,h=>by
  rw[ae]at h⊢
  obtain⟨f,e0,a,C,dx,vs,e,h1,h2,h3,r⟩:=h
  exact⟨f,e0,a,C,dx,vs,e,h1,h2,s.oth _ _ h3 True.intro,ah.mono s r⟩
 | .tup l,v,h=>by
  rw[ae]at h⊢
  obtain⟨a,vs,e,h,r⟩:=h
  exact⟨a,vs,e,s.sq h,ah.mono s r⟩
 | .lst l,v,h=>by
  rw[ae]at h⊢
  obtain⟨a,vs,b,e,h,p,r⟩:=h
  exact⟨a,vs,b,e,s.ls h p,s.imp h p,ah.mono s r⟩
theorem ah.mono{K:W.Frag}{P P':aQ}{H H':Hp}(s:cu P P' H H'):∀{l:List D} {vs:List V},ah K H P l vs->ah K H' P' l vs
 | [],vs,h=>by rw[ah]at h⊢;exact h
 | d::l,vs,h=>by
  rw[ah]at h⊢
  obtain⟨v,r,e,h1,h2⟩:=h
  exact⟨v,r,e,ae.mono s h1,ah.mono s h2⟩
end
theorem cu.same{P P':aQ}(s:ao H H')(i:∀a b,P a b->P' a b):cu P P' H H':=⟨fun a o h _=>s a o h,fun a vs h _=>s a _ h,fun a _ _ p=>i a true p,fun a p=>i a false p⟩
theorem ae.same{P:aQ}(s:ao H H'){d:D}(h:ae K H P d v):ae K H' P d v:=h.mono (.same s fun _ _ p=>p)
theorem ah.same{P:aQ}(s:ao H H'){d:List D}{v:List V}(h:ah K H P d v):ah K H' P d v:=h.mono (.same s fun _ _ p=>p)
theorem ae.imp{P P':aQ}(i:∀a b,P a b->P' a b){d:D}(h:ae K H P d v):ae K H P' d v:=h.mono (.same (ao.refl _) i)
theorem ah.imp{P P':aQ}(i:∀a b,P a b->P' a b){d:List D}{v:List V}(h:ah K H P d v):ah K H P' d v:=h.mono (.same (ao.refl _) i)
theorem ae.impH{P P':aQ}(i:∀a o,H a=some o->P a true->P' a true)(j:∀a,P a false->P' a false){d:D}(h:ae K H P d v):ae K H P' d v:=h.mono ⟨fun _ _ h _=>h,fun _ _ h _=>h,i,j⟩
theorem ah.impH{P P':aQ}(i:∀a o,H a=some o->P a true->P' a true)(j:∀a,P a false->P' a false){d:List D}{v:List V}(h:ah K H P d v):ah K H P' d v:=h.mono ⟨fun _ _ h _=>h,fun _ _ h _=>h,i,j⟩
mutual
theorem ae.flat{K:W.Frag}{P:aQ}(P':aQ){H:Hp}:∀{d:D} {v:V},d.lless=true->ae K H P d v->ae K H P' d v
 | .non,v,_,h=>by rw[ae]at h⊢;exact h
 | .bl b,v,_,h=>by rw[ae]at h⊢;exact h
 | .int i,v,_,h=>by rw[ae]at h⊢;exact h
 | .str x,v,_,h=>by rw[ae]at h⊢;exact h
 | .dct _ _,v,f,h=>by rw[D.lless]at f;cases f
 | .typ n,v,_,h=>by rw[ae]at h⊢;exact h
 | .dcf _ _,v,_,h=>by rw[ae]at h⊢;exact h
 | .sn n,v,_,h=>by rw[ae]at h⊢;exact h
 | .cls n,v,_,h=>by rw[ae]at h⊢;exact h
 | .xc n p,v,_,h=>by rw[ae]at h⊢;exact h
 | .obj n ns ds,v,_,h=>by
  rw[ae]at h⊢
  obtain⟨f,e0,a,C,dx,vs,e,h1,h2,h3,r⟩:=h
  exact⟨f,e0,a,C,dx,vs,e,h1,h2,h3,ah.flat P' f r⟩
 | .tup l,v,f,h=>by
  rw[ae]at h⊢
  obtain⟨a,vs,e,h,r⟩:=h
  exact⟨a,vs,e,h,ah.flat P' (by rw[D.lless]at f;exact f) r⟩
 | .lst l,v,f,h=>by rw[D.lless]at f;cases f
theorem ah.flat{K:W.Frag}{P:aQ}(P':aQ){H:Hp}:∀{l:List D} {vs:List V},aq l=true->ah K H P l vs->ah K H P' l vs
 | [],vs,_,h=>by rw[ah]at h⊢;exact h
 | d::l,vs,f,h=>by
  rw[ah]at h⊢
  rw[aq,Bool.and_eq_true]at f
  obtain⟨v,r,e,h1,h2⟩:=h
  exact⟨v,r,e,ae.flat P' f.1 h1,ah.flat P' f.2 h2⟩
end
theorem ah.length{P:aQ}:∀{l:List D} {vs:List V},ah K H P l vs->l.length=vs.length
 | [],vs,h=>by rw[ah]at h;subst h;rfl
 | d::l,vs,h=>by
  rw[ah]at h
  obtain⟨v,r,e,h1,h2⟩:=h
  subst e
  rw[List.length_cons,List.length_cons,h2.length]
theorem ah.get{K:W.Frag}{P:aQ}{H:Hp}:∀{l:List D} {vs:List V} {i:Nat} {d:D},ah K H P l vs->l[i]?=some d->∃v,vs[i]?=some v/\ae K H P d v
 | [],vs,i,d,h,e=>by simp at e
 | x::l,vs,0,d,h,e=>by
  rw[ah]at h
  obtain⟨v,r,rfl,h1,h2⟩:=h
  simp at e;subst e
  exact⟨v,by simp,h1⟩
 | x::l,vs,i+1,d,h,e=>by
  rw[ah]at h
  obtain⟨v,r,rfl,h1,h2⟩:=h
  obtain⟨u,h3,h4⟩:=ah.get (i:=i) h2 (by simpa using e)
  exact⟨u,by simpa using h3,h4⟩
theorem ah.append{K:W.Frag}{P:aQ}{H:Hp}:∀{l m:List D} {vs ws:List V},ah K H P l vs->ah K H P m ws->ah K H P (l++m) (vs++ws)
 | [],m,vs,ws,h,g=>by rw[ah]at h;subst h;exact g
 | d::l,m,vs,ws,h,g=>by
  rw[ah]at h
  obtain⟨v,r,rfl,h1,h2⟩:=h
  show ah K H P (d::(l++m)) (v::(r++ws))
  rw[ah]
  exact⟨v,_,rfl,h1,ah.append h2 g⟩
theorem ah.one{P:aQ}{d:D}(h:ae K H P d v):ah K H P [d] [v]:=by
 rw[ah];exact⟨v,[],rfl,h,by rw[ah]⟩
theorem ah.nil{P:aQ}:ah K H P [] []:=by rw[ah]
theorem ah.cons{P:aQ}{d:D}{l:List D}(h:ae K H P d v)(g:ah K H P l vs):ah K H P (d::l) (v::vs):=by
 rw[ah];exact⟨v,vs,rfl,h,g⟩
theorem ah.take{K:W.Frag}{P:aQ}{H:Hp}:∀{l:List D} {vs:List V} (n:Nat),ah K H P l vs->ah K H P (l.take n) (vs.take n)
 | [],vs,n,h=>by rw[ah]at h;subst h;simp;exact ah.nil
 | d::l,vs,0,h=>by simp;exact ah.nil
 | d::l,vs,n+1,h=>by
  rw[ah]at h
  obtain⟨v,r,rfl,h1,h2⟩:=h
  exact ah.cons h1 (ah.take n h2)
theorem ah.drop{K:W.Frag}{P:aQ}{H:Hp}:∀{l:List D} {vs:List V} (n:Nat),ah K H P l vs->ah K H P (l.drop n) (vs.drop n)
 | [],vs,n,h=>by rw[ah]at h;subst h;simp;exact ah.nil
 | d::l,vs,0,h=>h
 | d::l,vs,n+1,h=>by
  rw[ah]at h
  obtain⟨v,r,rfl,h1,h2⟩:=h
  exact ah.drop n h2
theorem ah.mapInt{K:W.Frag}{P:aQ}{H:Hp}:∀{ns:List Int} {vs:List V},ah K H P (ns.map D.int) vs->vs=ns.map V.int
 | [],vs,h=>by rw[List.map_nil,ah]at h;exact h
 | n::ns,vs,h=>by
  rw[List.map_cons,ah]at h
  obtain⟨v,r,rfl,h1,h2⟩:=h
  rw[ae]at h1
  rw[h1,ah.mapInt h2];rfl
theorem ah.ofInts{K:W.Frag}{P:aQ}{H:Hp}:∀{ns:List Int},ah K H P (ns.map D.int) (ns.map V.int)
 | []=>ah.nil
 | n::ns=>ah.cons (by rw[ae]) ah.ofInts
abbrev Ow:=Addr->Option (Option Str)
def Kp(ow:Ow)(H:Hp):Nat->aQ
 | 0=>fun a b=>b=true/\H a=none
 | 1=>fun a b=>b=true->ow a=none
 | 2=>fun a b=>b=true/\(ow a≠none\/H a=none)
 | _=>fun _ _=>True
def kj:Nat->Nat->Nat
 | 0,k=>k
 | k,0=>k
 | 1,1=>1
 | 2,2=>2
 | _,_=>3
def im(ow:Ow)(x:Str):Bool->aQ
 | true=>fun a b=>b=true/\ow a=some (some x)
 | false=>fun a b=>b=true->ow a=none
def b7(ow:Ow)(H:Hp):Prop:=∀a,ow a≠none->∃o,H a=some o
theorem b7.same{ow:Ow}(o:b7 ow H)(s:ao H H'):b7 ow H':=fun a h=>let ⟨x,e⟩:=o a h;⟨x,s a x e⟩
theorem b7.free{ow:Ow}(o:b7 ow H){a:Addr}(h:H a=none):ow a=none:=by
 cases e:ow a with
 | none=>rfl
 | some x=>obtain⟨y,q⟩:=o a (by rw[e];exact(fun z=>nomatch z));rw[h]at q;cases q
theorem Kp.back{ow:Ow}(s:ao H H'):∀(k:Nat) (a:Addr) (b:Bool),Kp ow H' k a b->Kp ow H k a b
 | 0,a,b,h=>⟨h.1,s.free h.2⟩
 | 1,a,b,h=>h
 | 2,a,b,h=>⟨h.1,h.2.imp id fun z=>s.free z⟩
 | _+3,a,b,h=>True.intro
theorem Kp.joinL{ow:Ow}(o:b7 ow H):∀(k j:Nat) (a:Addr) (b:Bool),Kp ow H k a b->Kp ow H (kj k j) a b
 | 0,0,a,b,h=>h
 | 0,1,a,b,h=>fun _=>o.free h.2
 | 0,2,a,b,h=>⟨h.1,.inr h.2⟩
 | 0,_+3,a,b,h=>True.intro
 | 1,0,a,b,h=>h
 | 1,1,a,b,h=>h
 | 1,2,a,b,h=>True.intro
 | 1,_+3,a,b,h=>True.intro
 | 2,0,a,b,h=>h
 | 2,1,a,b,h=>True.intro
 | 2,2,a,b,h=>h
 | 2,_+3,a,b,h=>True.intro
 | _+3,0,a,b,h=>True.intro
 | _+3,1,a,b,h=>True.intro
 | _+3,2,a,b,h=>True.intro
 | _+3,_+3,a,b,h=>True.intro
theorem zn:∀k j,kj k j=kj j k
 | 0,0|0,1|0,2|0,_+3|1,0|1,1|1,2|1,_+3|2,0|2,1|2,2|2,_+3|_+3,0|_+3,1|_+3,2|_+3,_+3=>rfl
theorem Kp.joinR{ow:Ow}(o:b7 ow H)(k j:Nat)(a:Addr)(b:Bool)(h:Kp ow H j a b):Kp ow H (kj k j) a b:=by
 rw[zn];exact Kp.joinL o j k a b h
abbrev ac:=Str->Option (D×Bool)
structure ax(X:Cx)(ow:Ow)(H:Hp)(σ:L2.St)(ρ:ac):Prop where
 get:∀x d o,ρ x=some (d,o)->∃(i:Nat) (v:V),X.N[i]?=some x/\fL X.env.scope x/\σ[i]?=some (some v)/\ae X.K H (im ow x o) d v
 own:b7 ow H
theorem ax.same{ow:Ow}{ρ:ac}(e:ax X ow H σ ρ)(s:ao H H'):ax X ow H' σ ρ :=
 ⟨fun x d o h=>let ⟨i,v,h1,h2,h3,h4⟩:=e.get x d o h;⟨i,v,h1,h2,h3,h4.same s⟩,e.own.same s⟩
def tD(X:Cx)(ow:Ow)(ρ:ac)(d:D)(k:Nat):TE:=fun σ H Q=>ax X ow H σ ρ/\∀v H',ao H H'->ae X.K H' (Kp ow H k) d v->Q v H'
def ED(X:Cx)(ρ:ac)(e:Expr)(d:D)(k:Nat):Prop:=∀ow,PE X e (tD X ow ρ d k)
def wZ(X:Cx)(ow:Ow)(ρ:ac)(b:Bool):TT:=fun σ H Q=>ax X ow H σ ρ/\∀H',ao H H'->Q b H'
def TD(X:Cx)(ρ:ac)(e:Expr)(b:Bool):Prop:=∀ow,PT X e (wZ X ow ρ b)
def GQ(X:Cx)(ow:Ow)(ρ:ac)(ds:List D)(k:Nat):TA:=fun σ H Q=>ax X ow H σ ρ/\∀vs H',ao H H'->ah X.K H' (Kp ow H k) ds vs->Q vs H'
def AD(X:Cx)(ρ:ac)(es:List Expr)(ds:List D)(k:Nat):Prop:=∀ow,PA X es (GQ X ow ρ ds k)
theorem aZ{t t':TE}(h:PE X e t)(i:∀σ H Q,t' σ H Q->t σ H Q):PE X e t':=fun pins s σ H Q I q=>h pins s σ H Q I (i σ H Q q)
theorem s0{t t':TT}(h:PT X e t)(i:∀σ H Q,t' σ H Q->t σ H Q):PT X e t':=fun pins s σ H Q I q=>h pins s σ H Q I (i σ H Q q)
theorem x4{e:List Expr}{t t':TA}(h:PA X e t)(i:∀σ H Q,t' σ H Q->t σ H Q):PA X e t':=fun pos pins s σ H Q I q=>h pos pins s σ H Q I (i σ H Q q)
def kn(d:D)(k:Nat):Nat:=if d.lless=true then 0 else k
theorem ED.kn{ρ:ac}{d:D}(h:ED X ρ e d k):ED X ρ e d (Sp.kn d k):=by
 unfold Sp.kn
 by_cases f:d.lless=true
 ·rw[if_pos f]
  exact fun ow=>aZ (h ow) fun σ H Q ⟨E,q⟩=>⟨E,fun v H' s r=>q v H' s (r.flat _ f)⟩
 ·rw[if_neg f];exact h
variable{C C' ρ ρ':ac}{d y z:D}{ow ow':Ow}{ds l':List D}{P:aQ}
def EM(K:W.Frag)(J:It)(ds:List D)(P:aQ)(H1:Hp):Prop :=
 ∀(i:Nat) (H2:Hp),cu P P H1 H2->(∀d,ds[i]?=some d->J.go i H2/\∀x H3,J.yld i H2 x H3->ao H2 H3/\ae K H3 P d x)/\(ds.length<=i->J.stop i H2)
def Kd(ow:Ow)(H:Hp)(k:Nat)(H1:Hp):aQ:=fun a b=>Kp ow H k a b/\(b=true->∃o,H1 a=some o)
def tI(X:Cx)(ow:Ow)(ρ:ac)(ds:List D)(k:Nat):TI:=fun σ H R=>ax X ow H σ ρ/\∀J H1,ao H H1->EM X.K J ds (Kd ow H k H1) H1->R J H1
def IE(X:Cx)(ρ:ac)(tg iter:Expr)(ds:List D)(k:Nat):Prop:=∀ow,PI X tg iter (tI X ow ρ ds k)
def fB(ifs:List Expr)(env:Env):Sem Bool:=forIn ifs true fun c r=>if r=true then do let ok <- isTrue c env (eval c env);pure (ForInStep.yield ok)else pure (ForInStep.yield r)
def vF(X:Cx)(ρ:ac)(ifs:List Expr)(b:Bool):Prop:=∀ow (pins:List (Addr×Obj)) (s:Shared) (σ:L2.St) (H:Hp) (Q:Bool->Hp->Prop),ai X pins σ H s->wZ X ow ρ b σ H Q->wpAny (model X.prog X.w) X.A (fB ifs X.env) (TP X pins σ Q) X.xe s
def GD(X:Cx)(ρ:ac)(tg:Expr)(d:D)(ρ':ac):Prop:=∃g:TG,PG X tg g/\∀(ow:Ow) (v:V) (σ:L2.St) (H:Hp) (Q:L2.St->Hp->Prop),σ.length=X.N.length->ax X ow H σ ρ->ae X.K H (fun a b=>b=true->ow a=none) d v->(∀σ',σ'.length=X.N.length->ax X ow H σ' ρ'->Q σ' H)->g v σ H Q
abbrev iB(X:Cx)(scope:Scope)(cl:List (Str×Addr))(C:Addr)(N':List Str)(s:Shared)(H:Hp)(fp:List Addr):Cx :=
 { X with N:=N',s₀:=s,H₀:=H,env:=compEnvC scope cl C X.env,outer:=X.stack,stack:=X.stack,ex:=fp,fn:=fun x=>decide (scope.names.lookup x=some .cell),pn:=[],xe:=fun _ _=>False }
theorem fG{env:Env}:∀(names:List (Str×NameKind)) (cs:List (Str×Addr)),(∀n,(n,NameKind.free)∈names->∃c,env.cells.lookup n=some c) ->
  ∃cl,(forIn names cs (fun(x:Str×NameKind) (r:List (Str×Addr))=>(if (x.2==NameKind.free)=true then do let a <- cellOf env x.1;pure (ForInStep.yield ((x.1,a)::r))else pure (ForInStep.yield r):Sem (ForInStep (List (Str×Addr))))))=(pure cl:Sem (List (Str×Addr))) /\
   (∀x c,cl.lookup x=some c->(env.cells.lookup x=some c/\(x,NameKind.free)∈names)\/cs.lookup x=some c)/\(∀x,(x,NameKind.free)∈names->∃c,cl.lookup x=some c)/\(∀x c,cs.lookup x=some c->∃c',cl.lookup x=some c')
 | [],cs,_=>⟨cs,rfl,fun x c h=>.inr h,fun x h=>(by cases h),fun x c h=>⟨c,h⟩⟩
 | (n,k)::r,cs,h=>by
  have hr:∀n,(n,NameKind.free)∈r->∃c,env.cells.lookup n=some c:=fun m hm=>h m (List.mem_cons_of_mem _ hm)
  by_cases hk:k=.free
  ·subst hk
   obtain⟨c,hc⟩:=h n List.mem_cons_self
   obtain⟨cl,e,h1,h2,h3⟩:=fG r ((n,c)::cs) hr
   refine⟨cl,?_,fun x c' hx=>?_,fun x hx=>?_,fun x c' hx=>?_⟩
   ·rw[List.forIn_cons]
    simp only[beq_self_eq_true,if_true,cellOf,hc]
    rw[pure_bind,pure_bind]
    exact e
   ·rcases h1 x c' hx with q|q
    ·exact .inl ⟨q.1,List.mem_cons_of_mem _ q.2⟩
    ·rw[List.lookup_cons]at q
     split at q
     ·rename_i hb
      have:x=n:=by simpa using hb
      subst this;cases q;exact .inl ⟨hc,List.mem_cons_self⟩
     ·exact .inr q
   ·rcases List.mem_cons.mp hx with q|q
    ·cases q
     exact h3 n c (by simp)
    ·exact h2 x q
   ·by_cases hb:x==n
    ·exact h3 x c (by rw[List.lookup_cons,hb])
    ·exact h3 x c' (by rw[List.lookup_cons];simp only[hb];exact hx)
  ·obtain⟨cl,e,h1,h2,h3⟩:=fG r cs hr
   refine⟨cl,?_,fun x c hx=>(h1 x c hx).imp (fun q=>⟨q.1,List.mem_cons_of_mem _ q.2⟩) id,fun x hx=>?_,h3⟩
   ·rw[List.forIn_cons]
    have:(k==NameKind.free)=false:=by simpa using hk
    simp only[this,Bool.false_eq_true,if_false]
    rw[pure_bind]
    exact e
   ·rcases List.mem_cons.mp hx with q|q
    ·cases q;exact absurd rfl hk
    ·exact h2 x q
theorem qA(h:∀n,(n,NameKind.free)∈scope.names->∃c,env.cells.lookup n=some c) :
  ∃cl,closureFor scope env=pure cl/\(∀x c,cl.lookup x=some c->env.cells.lookup x=some c/\(x,NameKind.free)∈scope.names)/\(∀x,(x,NameKind.free)∈scope.names->∃c,cl.lookup x=some c):=by
 obtain⟨cl,e,h1,h2,_⟩:=fG scope.names [] h
 refine⟨cl,?_,fun x c hx=>(h1 x c hx).resolve_right (by simp),h2⟩
 unfold closureFor
 rw[<- e,<- bind_pure (forIn scope.names _ _)]
theorem bS{env:Env}:∀{names:List (Str×NameKind)} {x:Str},names.lookup x=some .free ->
  (names.map fun(n,k)=>if (k==NameKind.free&&env.scope.kind == .function&&env.kindOf n==some .cell)then(n,NameKind.cell)else(n,k)).lookup x=some .cell \/
  (names.map fun(n,k)=>if (k==NameKind.free&&env.scope.kind == .function&&env.kindOf n==some .cell)then(n,NameKind.cell)else(n,k)).lookup x=some .free
 | [],_,h=>by simp at h
 | (n,k)::r,x,h=>by
  have ih:=@bS env r x
  show List.lookup x ((if (k==NameKind.free&&env.scope.kind == .function&&env.kindOf n==some .cell)=true then(n,NameKind.cell)else(n,k))::_)=_\/List.lookup x ((if (k==NameKind.free&&env.scope.kind == .function&&env.kindOf n==some .cell)=true then(n,NameKind.cell)else(n,k))::_)=_
  cases hx:x==n with
  | true =>
   simp only[List.lookup_cons,hx]at h
   cases h
   by_cases hc:(NameKind.free==NameKind.free&&env.scope.kind == .function&&env.kindOf n==some .cell)=true
   ·rw[if_pos hc];simp[List.lookup_cons,hx]
   ·rw[if_neg hc];simp[List.lookup_cons,hx]
  | false =>
   simp only[List.lookup_cons,hx]at h
   by_cases hc:(k==NameKind.free&&env.scope.kind == .function&&env.kindOf n==some .cell)=true
   ·rw[if_pos hc];simp only[List.lookup_cons,hx];exact ih h
   ·rw[if_neg hc];simp only[List.lookup_cons,hx];exact ih h
theorem dX{env:Env}:∀{names:List (Str×NameKind)} {x:Str} {k:NameKind},(names.map fun(n,k)=>if (k==NameKind.free&&env.scope.kind == .function&&env.kindOf n==some .cell)then(n,NameKind.cell)else(n,k)).lookup x=some k ->
  names.lookup x=some k\/(k=.cell/\names.lookup x=some .free)
 | [],_,_,h=>by simp at h
 | (n,j)::r,x,k,h=>by
  have ih:=@dX env r x k
  replace h:List.lookup x ((if (j==NameKind.free&&env.scope.kind == .function&&env.kindOf n==some .cell)=true then(n,NameKind.cell)else(n,j))::_)=some k:=h
  cases hx:x==n with
  | true =>
   simp only[List.lookup_cons,hx]
   by_cases hc:(j==NameKind.free&&env.scope.kind == .function&&env.kindOf n==some .cell)=true
   ·rw[if_pos hc]at h
    simp only[List.lookup_cons,hx]at h
    cases h
    have:j=.free:=by
     have:=(Bool.and_eq_true _ _).mp ((Bool.and_eq_true _ _).mp hc).1
     simpa using this.1
    exact .inr ⟨rfl,by rw[this]⟩
   ·rw[if_neg hc]at h
    simp only[List.lookup_cons,hx]at h
    exact .inl h
  | false =>
   simp only[List.lookup_cons,hx]
   by_cases hc:(j==NameKind.free&&env.scope.kind == .function&&env.kindOf n==some .cell)=true
   ·rw[if_pos hc]at h;simp only[List.lookup_cons,hx]at h;exact ih h
   ·rw[if_neg hc]at h;simp only[List.lookup_cons,hx]at h;exact ih h
structure eZ(env:Env)(scope:Scope)(N':List Str):Prop where
 kind:scope.kind=.function
 nn:(scope.names.map (·.1)).Nodup
 names:∀y∈scope.names,y.2=.local->scope.names.lookup y.1=some .local
 nd:N'.Nodup
 fr:∀n,(n,NameKind.free)∈scope.names->env.kindOf n=some .cell\/env.kindOf n=some .free
theorem oZ:∀{names:List (Str×NameKind)} {x:Str} {k:NameKind},(names.map (·.1)).Nodup->(x,k)∈names->names.lookup x=some k
 | [],_,_,_,h=>by cases h
 | (n,j)::r,x,k,nd,h=>by
  rw[List.map_cons,List.nodup_cons]at nd
  rcases List.mem_cons.mp h with e|h'
  ·cases e;simp
  ·have hx:(x==n)=false:=by
    cases q:x==n with
    | false=>rfl
    | true =>
     have:x=n:=by simpa using q
     subst this
     have hm:x∈r.map (·.1):=List.mem_map.mpr ⟨(x,k),h',rfl⟩
     exact absurd hm nd.1
   rw[List.lookup_cons,hx]
   exact oZ nd.2 h'
theorem ll:∀(names:List (Str×NameKind)) (n:Nat) (acc:List (Str×Addr)) {x:Str} {c:Addr},(cellsFrom n names acc).lookup x=some c->acc.lookup x=some c\/(n<=c/\(x,NameKind.cell)∈names)
 | [],_,_,_,_,h=>.inl h
 | (y,k)::r,n,acc,x,c,h=>by
  unfold cellsFrom at h
  split at h
  ·rename_i hk
   have hk:k=.cell:=by simpa using hk
   subst hk
   rcases ll r (n+1) ((y,n)::acc) h with q|⟨q1,q2⟩
   ·rw[List.lookup_cons]at q
    split at q
    ·rename_i hb
     have:x=y:=by simpa using hb
     subst this
     cases q
     exact .inr ⟨Nat.le_refl _,List.mem_cons_self⟩
    ·exact .inl q
   ·exact .inr ⟨by omega,List.mem_cons_of_mem _ q2⟩
  ·rcases ll r n acc h with q|⟨q1,q2⟩
   ·exact .inl q
   ·exact .inr ⟨q1,List.mem_cons_of_mem _ q2⟩
theorem pK:∀(names:List (Str×NameKind)) (n:Nat) (acc:List (Str×Addr)),(∀x y c,acc.lookup x=some c->acc.lookup y=some c->x=y)->(∀x c,acc.lookup x=some c->c<n) ->
  ∀x y c,(cellsFrom n names acc).lookup x=some c->(cellsFrom n names acc).lookup y=some c->x=y
 | [],_,_,h,_,x,y,c,a,b=>h x y c a b
 | (z,k)::r,n,acc,h,hb,x,y,c,a,b=>by
  unfold cellsFrom at a b
  split at a
  ·rename_i hk
   rw[if_pos hk]at b
   refine pK r (n+1) ((z,n)::acc) (fun u v d p q=>?_) (fun u d p=>?_) x y c a b
   ·rw[List.lookup_cons]at p q
    split at p
    ·rename_i e1
     split at q
     ·rename_i e2
      rw[show u=z by simpa using e1,show v=z by simpa using e2]
     ·cases p;exact absurd (hb v _ q) (Nat.lt_irrefl _)
    ·split at q
     ·cases q;exact absurd (hb u _ p) (Nat.lt_irrefl _)
     ·exact h u v d p q
   ·rw[List.lookup_cons]at p
    split at p
    ·cases p;exact Nat.lt_succ_self _
    ·exact Nat.lt_succ_of_lt (hb u d p)
  ·rename_i hk
   rw[if_neg hk]at b
   exact pK r n acc h hb x y c a b
theorem mC:∀(names:List (Str×NameKind)) (h:Heap) (acc:List (Str×Addr)),(∀x c,acc.lookup x=some c->∃v,h.IsCell c v)->∀x c,(cellsFrom h.objs.size names acc).lookup x=some c->∃v,(pushCells h names).IsCell c v
 | [],_,_,h,x,c,a=>h x c a
 | (z,k)::r,h,acc,hc,x,c,a=>by
  unfold cellsFrom at a
  unfold pushCells
  split at a
  ·rename_i hk
   rw[if_pos hk]
   have:=mC r (h.push { cls:=.type "cell", data:=.cell none }) ((z,h.objs.size)::acc) (fun u d p=>?_) x c
   ·rw[Heap.size_push]at this
    exact this a
   ·rw[List.lookup_cons]at p
    split at p
    ·cases p;exact⟨none,_,Heap.get?_push_size _ rfl,rfl⟩
    ·obtain⟨v,q⟩:=hc u d p
     exact⟨v,q.keeps fun b o e=>Heap.get?_push_of_some _ e⟩
  ·rename_i hk
   rw[if_neg hk]
   exact mC r h acc hc x c a
theorem tm{globals:Addr}{Q:Env->Shared->Prop}(hcl:∀x c,cl.lookup x=some c->∃v,s.heap.IsCell c v)
  (h:∀h',h'.Ns s.heap.objs.size (fun _=>none)->(∀b o,s.heap.get? b=some o->h'.get? b=some o)->(∀x c,(cellsFrom (s.heap.objs.size+1) scope.names cl).lookup x=some c->∃v,h'.IsCell c v) ->
   Q (newEnv scope s.heap.objs.size globals (cellsFrom (s.heap.objs.size+1) scope.names cl) qual none .none (some env) builtinsNs) { s with heap:=h',toks:=s.toks+0 }) :
  wpAny M A (newFunctionEnv scope globals cl [] qual none .none (some env)) Q E s:=by
 simp only[newFunctionEnv,Option.isSome_some,if_true]
 refine wpAny_bind (wpAny_alloc ?_)
 refine wpAny_bind (wpAny_layCells _ (fun name kind cells=>by cases hkc:kind==NameKind.cell<;>simp[hkc]) _ _ _ _ ?_)
 rw[show({ s with heap:=s.heap.push { cls:=.type "dict", data:=.dict #[] } }:Shared).heap.objs.size=s.heap.objs.size+1 from Heap.size_push ..]
 rw[List.forIn_nil]
 refine wpAny_bind (wpAny_pure (wpAny_pure ?_))
 refine h _ ((Heap.Ns.new s.heap (.type "dict")).keeps (pushCells_keeps _ _)) (fun b o e=>pushCells_keeps _ _ b o (Heap.get?_push_of_some _ e)) fun x c hc=>?_
 have:=mC scope.names (s.heap.push { cls:=.type "dict", data:=.dict #[] }) cl (fun u d p=>by
  obtain⟨v,q⟩:=hcl u d p
  exact⟨v,q.keeps fun b o e=>Heap.get?_push_of_some _ e⟩) x c
 rw[Heap.size_push]at this
 exact this hc
structure jp(X:Cx)(scope:Scope)(cl:List (Str×Addr))(n:Nat):Prop where
 k1:∀x c,cl.lookup x=some c->X.env.cells.lookup x=some c\/(n<c/\scope.names.lookup x=some .cell)
 k2:∀x,scope.names.lookup x=some .free\/scope.names.lookup x=some .cell->∃c,cl.lookup x=some c
 k4:∀x y c,cl.lookup x=some c->cl.lookup y=some c->x=y
 k5:∀x c,scope.names.lookup x=some .cell->cl.lookup x=some c->n<=c
variable{X:Cx}
theorem wE(I:ai X pins σ H s)(S:eZ X.env scope N')
  (h1:∀x c,cl.lookup x=some c->X.env.cells.lookup x=some c/\(x,NameKind.free)∈scope.names) (h2:∀x,(x,NameKind.free)∈scope.names->∃c,cl.lookup x=some c) :
  jp X scope (cellsFrom (s.heap.objs.size+1) scope.names cl) s.heap.objs.size where
 k1:=fun x c h=>by
  rcases ll _ _ _ h with q|⟨q1,q2⟩
  ·exact .inl (h1 x c q).1
  ·exact .inr ⟨q1,oZ S.nn q2⟩
 k2:=fun x h=>by
  refine Option.isSome_iff_exists.mp (W.cellsFrom_some scope.names _ cl ?_)
  rcases h with h|h
  ·obtain⟨c,hc⟩:=h2 x (PySem.mem_of_lookup h)
   exact .inr (by rw[hc];rfl)
  ·exact .inl h
 k4:=pK scope.names _ cl (fun x y c a b=>I.ok.inj x y c (h1 x c a).1 (h1 y c b).1) fun x c a=>by
  obtain⟨v,hv⟩:=I.cell x c (h1 x c a).1
  exact Nat.lt_succ_of_lt hv.lt
 k5:=fun x c hx h=>by
  rcases ll _ _ _ h with q|⟨q1,q2⟩
  ·rw[oZ S.nn (h1 x c q).2]at hx;cases hx
  ·omega
theorem DJ{C:Addr}(I:ai X pins σ H s)(S:eZ X.env scope N')
  (hC:s.heap.objs.size<=C) (k:jp X scope cl s.heap.objs.size)
  (hf:∀b∈fp,gc X pins H b) (hfC:∀b∈fp,b<s.heap.objs.size):(iB X scope cl C N' s H fp).Ok where
 mod:=I.ok.mod
 kind:=by show(relabel scope X.env).kind=_;exact S.kind
 glob:=I.ok.glob
 blt:=I.ok.blt
 above:=hC
 inj:=k.k4
 has:=fun x hx=>by
  have hx:(relabel scope X.env).names.lookup x=some .cell\/(relabel scope X.env).names.lookup x=some .free:=hx
  rcases hx with hx|hx
  ·rcases dX hx with q|⟨_,q⟩
   ·exact k.k2 x (.inr q)
   ·exact k.k2 x (.inl q)
  ·rcases dX hx with q|⟨q,_⟩
   ·exact k.k2 x (.inl q)
   ·cases q
 cab:=fun x c h hc=>k.k5 x c (of_decide_eq_true h) hc
 hd:=I.ok.hd
 frames:=I.ok.frames
 stk:=.inl rfl
 exf:=fun b hb=>⟨by have:=hfC b hb;intro z;subst z;show False;exact absurd (Nat.lt_of_lt_of_le this hC) (Nat.lt_irrefl _),fun x c h=>by
  rcases k.k1 x c h with q|⟨q,_⟩
  ·exact(hf b hb).2.2.2.2.1 x c q
  ·have:=hfC b hb
   intro z;subst z;exact absurd (Nat.lt_trans q this) (Nat.lt_irrefl _)⟩
 bs:=I.bs
 bsz:=Nat.le_trans I.ok.bsz I.sz
 noex:=fun b o e hb=>by
  rcases(hf b hb).2.2.2.1 with q|q
  ·exact I.ok.noex b o e q
  ·exact absurd (Nat.lt_of_lt_of_le (Heap.lt_size e) (Nat.le_trans I.ok.bsz q)) (Nat.lt_irrefl _)
 exfs:=fun b hb z=>by
  rcases List.mem_cons.mp (I.stkSub b z)with q|q
  ·exact(hf b hb).2.1 q
  ·exact(hf b hb).2.2.1 q
 funs:=I.stack
 frf:=I.stkFree
def jI(X:Cx)(scope:Scope)(N':List Str)(σ:L2.St):L2.St:=N'.map fun x=>if scope.names.lookup x=some .free then(σ[X.N.idxOf x]?).join else none
theorem BQ{s1:Shared}{m:Str->Option Value}(I:ai X pins σ H s)(S:eZ X.env scope N')
  (k:jp X scope cl s.heap.objs.size) (k6:∀x c,cl.lookup x=some c->∃v,s1.heap.IsCell c v)
  (hf:∀b∈fp,gc X pins H b) (hfC:∀b∈fp,b<s.heap.objs.size)
  (es:∃h t,s1 = { s with heap:=h,toks:=t }) (hns:s1.heap.Ns s.heap.objs.size m) (hk:∀b o,s.heap.get? b=some o->s1.heap.get? b=some o) :
  ai (iB X scope cl s.heap.objs.size N' s H fp) [] (jI X scope N' σ) H s1:=by
 obtain⟨h',t,rfl⟩:=es
 have I1:ai X pins σ H { s with heap:=h',toks:=t }:=I.kept hk
 refine⟨DJ I S (Nat.le_refl _) k hf hfC,rfl,I.bare,Un.kept hk,⟨m,hns,fun i x v e1 e2 e3=>?_⟩,k6,I.hok.fresh (Nat.le_refl _),fun x c h=>(k.k1 x c h).elim (fun q=>I.freeC x c q) fun q=>I.hok.fresh (Nat.le_of_lt q.1),fun p hp=>absurd (show p∈([]:List (Addr×Obj))from hp) (by simp),I1.hok,?_⟩
 ·have hN:N'[i]?=some x:=e1
  unfold jI at e2
  rw[List.getElem?_map,hN]at e2
  simp only[Option.map_some,Option.some.injEq]at e2
  split at e2
  ·rename_i hfr
   have hj:σ[X.N.idxOf x]?=some (some v):=by
    cases q:σ[X.N.idxOf x]? with
    | none=>rw[q]at e2;cases e2
    | some y=>rw[q]at e2;rw[show y=some v from e2]
   have hlt:X.N.idxOf x<X.N.length:=by rw[<- I.len];exact(List.getElem?_eq_some_iff.mp hj).1
   have hx:X.N[X.N.idxOf x]?=some x:=by
    rw[List.getElem?_eq_getElem hlt,List.getElem_idxOf hlt]
   have kf:=S.fr x (PySem.mem_of_lookup hfr)
   have vis:fL X.env.scope x:=.inr (kf.imp id id)
   obtain⟨m1,hn1,hl1⟩:=I1.loc
   obtain⟨u,r,l⟩:=hl1 _ x v hx hj vis
   refine⟨u,r,.inr ⟨?_,?_⟩⟩
   ·exact bS hfr
   ·rcases l with⟨hk',_⟩|⟨_,c,hc,hcell⟩
    ·rcases kf with q|q<;>rw[q]at hk'<;>cases hk'
    ·obtain⟨c',hc'⟩:=k.k2 x (.inl hfr)
     have:c'=c:=by
      rcases k.k1 x c' hc' with this|⟨_,this⟩
      ·rw[hc]at this;exact(Option.some.inj this).symm
      ·rw[hfr]at this;cases this
     subst this
     exact⟨c',hc',hcell⟩
  ·cases e2
 ·unfold jI;simp
def flt(scope:Scope)(ρ:ac):ac:=fun x=>if scope.names.lookup x=some .free then ρ x else none
theorem gO{y:D×Bool}(h:flt scope ρ x=some y):ρ x=some y/\scope.names.lookup x=some .free:=by
 unfold flt at h
 split at h
 ·rename_i e;exact⟨h,e⟩
 ·cases h
theorem Cj{C:Addr}{H0:Hp}(E:ax X ow H σ ρ)(hN:X.N.Nodup)
  (hsub:∀x d o,flt scope ρ x=some (d,o)->x∈N') :
  ax (iB X scope cl C N' s H0 fp) ow H (jI X scope N' σ) (flt scope ρ):=by
 refine⟨fun x d o h=>?_,E.own⟩
 obtain⟨h1,h2⟩:=gO h
 obtain⟨i,v,e1,e2,e3,e4⟩:=E.get x d o h1
 have hx:x∈N':=hsub x d o h
 have hi:X.N.idxOf x=i:=by
  have hm:x∈X.N:=List.mem_of_getElem? e1
  have hlt:=List.idxOf_lt_length_iff.mpr hm
  exact fy hN (by rw[List.getElem?_eq_getElem hlt,List.getElem_idxOf hlt]) e1
 refine⟨N'.idxOf x,v,?_,?_,?_,e4⟩
 ·have hlt:=List.idxOf_lt_length_iff.mpr hx
  show N'[N'.idxOf x]?=some x
  rw[List.getElem?_eq_getElem hlt,List.getElem_idxOf hlt]
 ·exact .inr (bS h2)
 ·have hlt:=List.idxOf_lt_length_iff.mpr hx
  unfold jI
  rw[List.getElem?_map,List.getElem?_eq_getElem hlt,List.getElem_idxOf hlt]
  simp only[Option.map_some]
  rw[if_pos h2,hi,e3];rfl
variable{X:Cx}
theorem vl{prog:Program}{R:Result->Shared->Prop}{target:Expr}{it acc:Value}(J:Nat->Shared->Prop)
    (turn:∀n s,J n s->wpAny (model prog w) A (pyNext it) (fun r s₁=>match r with
      | none=>R (.ok .next) s₁
      | some v=>wpAny (model prog w) A (letOwnedTupleGo target it v) (fun _ s₁=>wpAny (model prog w) A (assign target env v) (fun _ s₂ =>
          wpAny (model prog w) A (fB ifs env) (fun ok s₃ =>
            if ok=true then wpAny (model prog w) A (eval elt env) (fun x s₄ =>
              wpAny (model prog w) A (call (.builtin "list.append") [acc,x]) (fun _ s₅ => ∃m,m<n/\J m s₅) (fun _ _=>False) s₄) (fun _ _=>False) s₃
            else ∃m,m<n/\J m s₃) (fun _ _=>False) s₂) (fun _ _=>False) s₁) (fun _ _=>False) s₁) (fun _ _=>False) s)
    (n:Nat) (h:J n s):codeAny (model prog w) A (.compLoop (.ListComp elt [⟨target,iter,ifs,0⟩] scope pos) 0 it acc env) R s:=by
  refine codeAny_loop rfl J (fun n s hI=>?_) n h
  show wpAny _ A ((compTurn (.ListComp elt [⟨target,iter,ifs,0⟩] scope pos) 0 it acc env).onRaise (fun x=>do noteFrame x env;theTreesLotGoes x)) _ _ s
  refine wpAny_noted ?_
  rw[compTurn_list]
  refine wpAny_bind (wpAny_standAt (wpAny_bind (wpAny_mono (turn n s hI) (fun r s₁ h₁=>?_) fun _ _ h'=>h'.elim)))
  cases r with
  | none=>exact wpAny_pure h₁
  | some v =>
    refine wpAny_bind (wpAny_mono h₁ (fun _ s₁' h₁'=>?_) fun _ _ h'=>h'.elim)
    refine wpAny_bind (wpAny_mono h₁' (fun _ s₂ h₂=>wpAny_bind (wpAny_mono h₂ (fun ok s₃ h₃=>?_) fun _ _ h'=>h'.elim)) fun _ _ h'=>h'.elim)
    cases ok with
    | false=>exact wpAny_pure ⟨rfl,h₃⟩
    | true =>
      exact wpAny_bind (wpAny_bind (wpAny_mono h₃ (fun x s₄ h₄=>wpAny_bind (wpAny_mono h₄ (fun _ s₅ h₅=>wpAny_pure (wpAny_pure ⟨rfl,h₅⟩)) fun _ _ h'=>h'.elim)) fun _ _ h'=>h'.elim))
def jn(X:Cx)(ρ:ac)(tg:Expr)(ifs:List Expr)(elt:Expr)(k:Nat)(d:D)(r:Option D):Prop :=
 ∃ρ' b,GD X ρ tg d ρ'/\(∀x y,ρ x=some y->ρ' x=some y)/\vF X ρ' ifs b/\match r with|some d'=>b=true/\ED X ρ' elt d' k|none=>b=false
theorem cP(o:b7 ow H){a:Addr}:∀{k:Nat},k<=1->Kp ow H k a true->ow a=none
 | 0,_,p=>o.free p.2
 | 1,_,p=>p rfl
 | _+2,h,_=>absurd h (by omega)
theorem zm{H9:Hp}{D:Addr}{x:HO}(sm:ao H H9)(hD:H9 D=some x){a:Addr}:∀{k:Nat},k<=1->Kp (fun a=>if a=D then some none else ow a) H9 k a b->Kp ow H k a b/\(b=true->a≠D)
 | 0,_,p=>⟨⟨p.1,sm.free p.2⟩,fun _ z=>by subst z;have:=p.2;rw[hD]at this;cases this⟩
 | 1,_,p=>by
  have p:b=true->(if a=D then some none else ow a)=none:=p
  refine⟨fun hb=>?_,fun hb hz=>?_⟩
  ·have p:=p hb
   by_cases hz:a=D
   ·rw[if_pos hz]at p;cases p
   ·rw[if_neg hz]at p;exact p
  ·have p:=p hb
   rw[if_pos hz]at p;cases p
 | _+2,h,_=>absurd h (by omega)
theorem uI{D:Addr}(o:b7 ow H)(hD:H D=none):∀{k:Nat},k<=1->Kp ow H k D true
 | 0,_=>⟨rfl,hD⟩
 | 1,_=>fun _=>o.free hD
 | _+2,h=>absurd h (by omega)
theorem kH:∀{l:List D} {i:Nat} {d:D},aq l=true->l[i]?=some d->d.lless=true
 | [],_,_,_,h=>by simp at h
 | x::l,0,d,f,h=>by
  rw[aq,Bool.and_eq_true]at f
  simp at h;subst h;exact f.1
 | x::l,i+1,d,f,h=>by
  rw[aq,Bool.and_eq_true]at f
  exact kH (i:=i) f.2 (by simpa using h)
structure jo(X:Cx)(pins:List (Addr×Obj))(σ:L2.St)(H5:Hp)(s6:Shared)(C:Addr)(m6:Str->Option Value):Prop where
 inv:ai X pins σ H5 s6
 ns:s6.heap.Ns C m6
 free:H5 C=none
 loc:C≠X.env.locals
 old:X.s₀.heap.objs.size<=C
 cell:∀x c,X.env.cells.lookup x=some c->c≠C
 pin:∀p∈X.pn++pins,p.1≠C
 fs:C∉X.fs
theorem nc{use:Option (Value->Sem Unit)}{Q':Value->Shared->Prop}{pos2:Pos}{f:D->Option D}
  (hcalm:X.calm=true) (hN:X.N.Nodup) (hk:aq ds=true\/k<=1) (hko:ko<=1) (hlen:ds.length<sizeLine) (S:eZ X.env scope N') (hsub:∀x d o,flt scope ρ x=some (d,o)->x∈N')
  (hi:IE X ρ tg iter ds k)
  (turn:∀cl C s H fp,∀d∈ds,jn (iB X scope cl C N' s H fp) (flt scope ρ) tg ifs elt ko d (f d))
  (hs:∀x,foldedSetIterable iter X.env x=pure x) (I:ai X pins σ H s) (E:ax X ow H σ ρ)
  (fin:∀D C s6 H5 m6,jo X pins σ H5 s6 C m6->ao H H5->ae X.K H5 (Kp ow H ko) (.lst (ds.filterMap f)) (.ref D)->compPost (model X.prog X.w) X.A X.xe use Q' (.ref D) C (.ok .next) s6) :
  wpAny (model X.prog X.w) X.A (comprehension (.ListComp elt [⟨tg,iter,ifs,0⟩] scope pos) scope X.env pos2 (newList []) false (eval iter X.env) use) Q' X.xe s:=by
 obtain⟨cl,hclos,h1,h2⟩:=qA (env:=X.env) (scope:=scope) fun n hn=>I.ok.has n (S.fr n hn)
 refine wpAny_comprehension_free rfl hs hclos S.kind S.names ?_
 refine aH (hi ow pins s σ H (fun J H1=>ao H H1/\EM X.K J ds (Kd ow H k H1) H1) I ⟨E,fun J H1 a b=>⟨a,b⟩⟩) fun v s1 h1'=>aH h1' fun itv s2 h2'=>?_
 obtain⟨it,fp,tn,J,H2,rfl,I2,T,st2,f2,s12,itd⟩:=h2'
 have hD2:H2 s2.heap.objs.size=none:=I2.hok.fresh (Nat.le_refl _)
 refine wpAny_newObj_type (tm (fun x c hc=>(I2.cell x c (h1 x c hc).1).imp fun v q=>q.keeps fun b o e=>Heap.get?_push_of_some _ e) fun h₁ hns₁ kp0 k60=>?_)
 have I3:ai X pins σ (az H2 s2.heap.objs.size (.lst [])) { s2 with heap:=s2.heap.push { cls:=.type "list", dict:=none,data:=.seq ([]:List Value).toArray } } :=
  I2.laid (t':=s2.toks) (fun b u e=>Heap.get?_push_of_some _ e) (Nat.le_refl _) ⟨Nat.zero_le _,[],0,.nil,Heap.get?_push_size _ rfl⟩
 generalize hD:s2.heap.objs.size=D at *
 generalize hs3:({ s2 with heap:=s2.heap.push { cls:=.type "list", dict:=none,data:=.seq ([]:List Value).toArray } }:Shared)=s3 at *
 have hsz3:s3.heap.objs.size=D+1:=by rw[<- hs3];show(s2.heap.push _).objs.size=_;rw[Heap.size_push,hD]
 have f3:∀b∈fp,gc X pins (az H2 D (.lst [])) b:=fun b hb=>by
  obtain⟨g0,g⟩:=f2 b hb
  obtain⟨o,e,_⟩:=T.obj _ _ st2 b hb
  have hlt:=Heap.lt_size e
  rw[hD]at hlt
  exact⟨by rw[al (Nat.ne_of_lt hlt)];exact g0,g⟩
 have fl3:∀b∈fp,b<s3.heap.objs.size:=fun b hb=>by
  obtain⟨o,e,_⟩:=T.obj _ _ st2 b hb
  have hlt:=Heap.lt_size e
  rw[hD]at hlt
  rw[hsz3];exact Nat.lt_succ_of_lt hlt
 have kp:∀b o,s3.heap.get? b=some o->h₁.get? b=some o:=kp0
 have kc:jp X scope (cellsFrom (s3.heap.objs.size+1) scope.names cl) s3.heap.objs.size:=wE I3 S h1 h2
 generalize hcl':cellsFrom (s3.heap.objs.size+1) scope.names cl=cl' at *
 have I4:=BQ (s1:={ s3 with heap:=h₁,toks:=s3.toks+0 }) (N':=N') I3 S kc k60 f3 fl3 ⟨_,_,rfl⟩ hns₁ kp
 have sH2:∀vs,ao H2 (az H2 D (.lst vs)):=fun vs b o e=>by rw[al (aP e hD2)];exact e
 let ow':Ow:=fun a=>if a=D then some none else ow a
 have ow'D:ow' D=some none:=if_pos rfl
 have ow'n:∀a,a≠D->ow' a=ow a:=fun a h=>if_neg h
 have own':∀{H':Hp} (vs:List V),H' D=some (.lst vs)->ao H2 H'->b7 ow' H':=fun {H'} vs hd sm a ha=>by
  by_cases hz:a=D
  ·subst hz;exact⟨_,hd⟩
  ·rw[ow'n a hz]at ha
   obtain⟨o,e⟩:=(E.same s12).own a ha
   exact⟨o,sm a o e⟩
 have E4:ax (iB X scope cl' s3.heap.objs.size N' s3 (az H2 D (.lst [])) fp) ow' (az H2 D (.lst [])) (jI X scope N' σ) (flt scope ρ):=by
  have E3:=Cj (scope:=scope) (cl:=cl') (C:=s3.heap.objs.size) (N':=N') (s:=s3) (fp:=fp) (H0:=az H2 D (.lst [])) (E.same s12) hN hsub
  refine⟨fun x d o h=>?_,own' [] aD (sH2 [])⟩
  obtain⟨i,v,e1,e2,e3,e4⟩:=E3.get x d o h
  refine⟨i,v,e1,e2,e3,ae.same (sH2 []) (e4.impH (fun a ob ha p=>?_) fun a p=>?_)⟩
  ·have hz:a≠D:=aP ha hD2
   cases o with
   | true=>exact⟨p.1,(ow'n a hz).trans p.2⟩
   | false=>exact fun _=>(ow'n a hz).trans (p rfl)
  ·cases o with
   | true=>cases p.1
   | false=>exact fun z=>(by cases z)
 generalize hX':iB X scope cl' s3.heap.objs.size N' s3 (az H2 D (.lst [])) fp=X' at *
 have turn':∀d∈ds,jn X' (flt scope ρ) tg ifs elt ko d (f d):=fun d hd=>by rw[<- hX'];exact turn _ _ _ _ _ d hd
 have eK:X'.K=X.K:=by rw[<- hX']
 have eP:X'.prog=X.prog:=by rw[<- hX']
 have eW:X'.w=X.w:=by rw[<- hX']
 have eA:X'.A=X.A:=by rw[<- hX']
 have eE:X'.env=compEnvC scope cl' s3.heap.objs.size X.env:=by rw[<- hX']
 have eX:X'.xe=fun _ _=>False:=by rw[<- hX']
 have eC:X'.calm=true:=by rw[<- hX'];exact hcalm
 have stat:∀{H':Hp},(∀b∈fp,H' b=none)->∀b∈fp,gc X' [] H' b:=fun hn b hb=>by
  rw[<- hX']
  refine⟨hn b hb,?_,?_,.inl hb,fun x c h=>(kc.k1 x c h).elim (fun q=>(f3 b hb).2.2.2.2.1 x c q) (fun q z=>by subst z;exact absurd (Nat.lt_trans q.1 (fl3 _ hb)) (Nat.lt_irrefl _)),fun p hp=>absurd (show p∈([]:List (Addr×Obj))from hp) (by simp)⟩
  ·show b≠s3.heap.objs.size
   exact Nat.ne_of_lt (fl3 b hb)
  ·intro z
   rcases List.mem_cons.mp (I3.stkSub b z)with q|q
   ·exact(f3 b hb).2.1 q
   ·exact(f3 b hb).2.2.1 q
 let Pe:aQ:=fun a b=>Kp ow H ko a b/\(b=true->a≠D)
 have loop:codeAny (model X.prog X.w) X.A (.compLoop (.ListComp elt [⟨tg,iter,ifs,0⟩] scope pos) 0 (.ref it) (.ref D) (compEnvC scope cl' s3.heap.objs.size X.env)) (compPost (model X.prog X.w) X.A X.xe use Q' (.ref D) s3.heap.objs.size) { s3 with heap:=h₁,toks:=s3.toks+0 }:=by
  refine vl (fun n s' => ∃(i:Nat) (σ':L2.St) (H':Hp) (vs:List V),ai X' [] σ' H' s'/\tn i s'.heap/\(∀b∈fp,H' b=none)/\ax X' ow' H' σ' (flt scope ρ)/\H' D=some (.lst vs)/\ao H2 H' /\
   ah X.K H' Pe ((ds.take i).filterMap f) vs/\i<=ds.length/\n=ds.length-i) ?_ ds.length
   ⟨0,jI X scope N' σ,az H2 D (.lst []),[],I4,?_,fun b hb=>(f3 b hb).1,E4,aD,sH2 [],?_,Nat.zero_le _,rfl⟩
  ·rintro n s5 ⟨i,σ5,H5,vs,I5,st5,fr5,E5,hD5,sm5,rp5,hi5,rfl⟩
   have stay:cu (Kd ow H k H2) (Kd ow H k H2) H2 H5:=.same sm5 fun _ _ p=>p
   have itd5:=itd i H5 stay
   by_cases hlt:i<ds.length
   ·obtain⟨go,yl⟩:=itd5.1 ds[i] (by simp[hlt])
    have Ti:=T.item X' eP eW eK eC i [] s5 σ5 H5 (fun _ _=>False) I5 (stat fr5) st5 go
    rw[eA]at Ti
    refine aH Ti fun r s6 ⟨u,hr,h6⟩=>?_
    subst hr
    refine aH h6 fun _ s7 ⟨x,H7,I7,r7,y7,st7,fr7⟩=>?_
    obtain⟨sm7,rx7⟩:=yl x H7 y7
    obtain⟨ρ',b,⟨g,hg,hgd⟩,hext,hts,hel⟩:=turn' ds[i] (List.getElem_mem hlt)
    have rx7':ae X'.K H7 (fun a b=>b=true->ow' a=none) ds[i] x:=by
     rw[eK]
     rcases hk with hk|hk
     ·exact rx7.flat _ (kH hk (List.getElem?_eq_getElem hlt))
     refine rx7.impH (fun a o ha p _=>?_) fun a _ z=>(by cases z)
     obtain⟨p,p2⟩:=p
     obtain⟨o2,ho2⟩:=p2 rfl
     show ow' a=none
     rw[ow'n a (aP ho2 hD2)]
     exact cP E.own hk p
    have E7:=E5.same sm7
    have I7':=I7.pinned (stat fr7) (T.obj _ _ st7)
    have hg':=hg _ s7 σ5 H7 x u (fun σ' H'=>ax X' ow' H' σ' ρ'/\H7=H') I7' r7 (hgd ow' x σ5 H7 _ I7.len E7 rx7' fun σ' _ e=>⟨e,rfl⟩)
    rw[eP,eW,eA,eE,eX]at hg'
    refine aH hg' fun _ s8 ⟨σ8,H8,I8,E8,eH8⟩=>?_
    subst eH8
    have ht':=hts ow' _ s8 σ8 H7 (fun c H'=>c=b/\ao H7 H') I8 ⟨E8,fun H' sm=>⟨rfl,sm⟩⟩
    rw[eP,eW,eA,eE,eX]at ht'
    refine aH ht' fun c s9 ⟨H9,I9,ec,sm9⟩=>?_
    subst ec
    have back:∀{H':Hp} {σ':L2.St} {s':Shared},ai X' ([]++ik fp s7.heap) σ' H' s'->ai X' [] σ' H' s'/\tn (i+1) s'.heap/\∀b∈fp,H' b=none:=fun {H' σ' s'} J7=>by
     refine⟨J7.unpinned,T.keep _ _ _ st7 fun b hb o e=>(J7.pin (b,o) (List.mem_append_right _ (List.mem_append_right _ (fe hb e)))).1,fun b hb=>?_⟩
     obtain⟨o,e,d⟩:=T.obj _ _ st7 b hb
     exact(J7.pin (b,o) (List.mem_append_right _ (List.mem_append_right _ (fe hb e)))).2.1
    have envf:∀{H':Hp} {σ':L2.St},ax X' ow' H' σ' ρ'->ax X' ow' H' σ' (flt scope ρ):=fun {H' σ'} e=>⟨fun x d o h=>e.get x d o (hext x _ h),e.own⟩
    have tk:(ds.take (i+1)).filterMap f=(ds.take i).filterMap f++(f ds[i]).toList:=by
     rw[List.take_add_one]
     simp only[List.getElem?_eq_getElem hlt,Option.toList_some,List.filterMap_append]
     congr 1
    have sm59:ao H5 H9:=sm7.trans sm9
    cases hc:c with
    | false =>
     rw[if_neg Bool.false_ne_true]
     subst hc
     obtain⟨I9',st9,fr9⟩:=back I9
     have fn:f ds[i]=none:=by
      cases hf:f ds[i]with
      | none=>rfl
      | some d'=>rw[hf]at hel;cases hel.1
     refine⟨ds.length-(i+1),by omega,i+1,σ8,H9,vs,I9',st9,fr9,envf (E8.same sm9),sm59 _ _ hD5,sm5.trans sm59,?_,hlt,rfl⟩
     rw[tk,fn,Option.toList_none,List.append_nil]
     exact rp5.same sm59
    | true =>
     rw[if_pos rfl]
     subst hc
     obtain⟨d',fs,hed⟩:∃d',f ds[i]=some d'/\ED X' ρ' elt d' ko:=by
      cases hf:f ds[i]with
      | none=>rw[hf]at hel;cases hel
      | some d'=>rw[hf]at hel;exact⟨d',rfl,hel.2⟩
     have he':=hed ow' _ s9 σ8 H9 (fun v H'=>ao H9 H'/\ae X'.K H' (Kp ow' H9 ko) d' v) I9 ⟨E8.same sm9,fun v H' a r=>⟨a,r⟩⟩
     rw[eP,eW,eA,eE,eX]at he'
     refine aH he' fun y s10 ⟨v10,H10,I10,r10,sm10,rp10⟩=>?_
     have sm510:=sm59.trans sm10
     have hD10:=sm510 _ _ hD5
     have hlv:vs.length<sizeLine:=by
      rw[<- rp5.length]
      refine Nat.lt_of_le_of_lt (List.length_filterMap_le _ _) ?_
      rw[List.length_take];omega
     have ha':=io (X:=X') _ s10 σ8 H10 (.ref D) [v10] (.ref D) [y] (fun w H'=>az H10 D (.lst (vs++[v10]))=H') I10 rfl (.cons r10 .nil) ⟨D,vs,v10,rfl,rfl,hD10,hlv,rfl⟩
     rw[eP,eW,eA,eX]at ha'
     refine aH ha' fun _ s11 ⟨w11,H11,I11,_,eH11⟩=>?_
     subst eH11
     obtain⟨I11',st11,fr11⟩:=back I11
     have s2D:∀a o,H2 a=some o->a≠D:=fun a o e=>aP e hD2
     have stD:cu Pe Pe H10 (az H10 D (.lst (vs++[v10]))):=⟨fun a o h hn=>by rw[al (fun z=>by subst z;rw[hD10]at h;cases h;exact hn)];exact h,fun a ws h p=>by rw[al (p.2 rfl)];exact h,fun _ _ _ p=>p,fun _ p=>p⟩
     refine⟨ds.length-(i+1),by omega,i+1,σ8,_,vs++[v10],I11',st11,fr11,?_,aD,?_,?_,hlt,rfl⟩
     ·have E10:=envf ((E8.same sm9).same sm10)
      refine⟨fun x d o h=>?_,own' _ aD (fun a o e=>by rw[al (s2D a o e)];exact(sm5.trans sm510) a o e)⟩
      obtain⟨i',v',e1,e2,e3,e4⟩:=E10.get x d o h
      refine⟨i',v',e1,e2,e3,e4.mono ⟨fun a o h hn=>by rw[al (fun z=>by subst z;rw[hD10]at h;cases h;exact hn)];exact h,fun a ws h p=>?_,fun _ _ _ p=>p,fun _ p=>p⟩⟩
      have hz:a≠D:=by
       intro z;subst z
       cases o with
       | true=>have:=p.2;rw[ow'D]at this;cases this
       | false=>have:ow' a=none:=p rfl;rw[ow'D]at this;cases this
      rw[al hz];exact h
     ·intro a o e
      rw[al (s2D a o e)]
      exact(sm5.trans sm510) a o e
     ·rw[tk,fs,Option.toList_some]
      refine((rp5.same sm510).mono stD).append (ah.one (ae.mono stD ?_))
      rw[eK]at rp10
      have sH9:ao H H9:=s12.trans (sm5.trans sm59)
      exact rp10.imp fun a b p=>zm sH9 (sm59 _ _ hD5) hko p
   ·have hstop:=itd5.2 (by omega)
    have Td:=T.done X' eP eW eK eC i [] s5 σ5 H5 (fun _ _=>False) I5 (stat fr5) st5 hstop
    rw[eA]at Td
    refine aH Td fun r s6 ⟨hr,I6⟩=>?_
    subst hr
    have ei:i=ds.length:=by omega
    subst ei
    rw[List.take_length]at rp5
    have hC:X'.env.locals=s3.heap.objs.size:=by rw[eE];rfl
    obtain⟨m6,hn6,_⟩:=I6.loc
    rw[hC]at hn6
    have hfree:H5 s3.heap.objs.size=none:=by have:=I6.free;rw[hC]at this;exact this
    have IX:ai X pins σ H5 s6:=by
     have b6:=I6.base
     have o6:=I6.os
     have k6:=I6.hok
     have g6:=I6.bare
     rw[<- hX']at b6 o6 k6
     exact I3.call' o6 b6 k6 g6 fun b hb=>⟨(f3 b hb).2.2.2.1,(f3 b hb).2.1,(f3 b hb).2.2.2.2.1,(f3 b hb).2.2.2.2.2⟩
    have hHD:H D=none:=s12.free hD2
    refine fin D _ s6 H5 m6 ⟨IX,hn6,hfree,Nat.ne_of_gt I3.lt,I3.sz,fun x c hc z=>?_,fun p hp z=>?_,I3.nofs (Nat.le_refl _)⟩ (s12.trans sm5) ?_
    ·obtain⟨v,hv⟩:=I3.cell x c hc
     have:=hv.lt
     rw[z]at this;exact absurd this (Nat.lt_irrefl _)
    ·have:=Heap.lt_size (I3.pin p hp).1
     rw[z]at this;exact absurd this (Nat.lt_irrefl _)
    ·rw[ae]
     exact⟨D,vs,true,rfl,hD5,uI E.own hHD hko,rp5.imp fun _ _ p=>p.1⟩
  ·exact T.keep 0 s2.heap h₁ st2 fun b hb o e=>kp b o (by rw[<- hs3];exact Heap.get?_push_of_some _ e)
  ·exact ah.nil
 exact codeAny_compStart_list loop (T.self _ 0 _ _ _ (T.keep 0 s2.heap h₁ st2 fun b hb o e=>kp b o (by rw[<- hs3];exact Heap.get?_push_of_some _ e)) loop)
theorem jo.done{H5:Hp}{s6:Shared}{C:Addr}{m6:Str->Option Value}(e:jo X pins σ H5 s6 C m6){h':Heap}(sb:Heap.SameBut C s6.heap h'):ai X pins σ H5 { s6 with heap:=h' } :=
 e.inv.turned (t':=s6.toks) (it:=C) (fun b o hb e=>sb.extBut b o hb e) e.free e.loc (.inr e.old) e.cell e.pin
theorem zI{f:D->Option D}
  (hcalm:X.calm=true) (hN:X.N.Nodup) (hk:aq ds=true\/k<=1) (hko:ko<=1) (hlen:ds.length<sizeLine) (S:eZ X.env scope N') (hsub:∀x d o,flt scope ρ x=some (d,o)->x∈N')
  (hi:IE X ρ tg iter ds k)
  (turn:∀cl C s H fp,∀d∈ds,jn (iB X scope cl C N' s H fp) (flt scope ρ) tg ifs elt ko d (f d))
  (hs:∀x,foldedSetIterable iter X.env x=pure x:=by intro _;rfl) :
  ED X ρ (.ListComp elt [⟨tg,iter,ifs,0⟩] scope pos) (.lst (ds.filterMap f)) ko:=by
 intro ow pins s σ H Q I ⟨E,q⟩
 rw[eval_ListComp]
 refine nc hcalm hN hk hko hlen S hsub hi turn hs I E fun D C s6 H5 m6 ce sm rp=>?_
 exact⟨m6,ce.ns,fun h' sb=>⟨.ref D,H5,ce.done sb,rfl,q (.ref D) H5 sm rp⟩⟩
theorem yM{D0:gU}{spos:Pos}{f:D->Option D}
  (hcalm:X.calm=true) (hN:X.N.Nodup) (hk:aq ds=true\/k<=1) (hko:ko<=1) (hlen:ds.length<sizeLine) (S:eZ X.env scope N') (hsub:∀x d o,flt scope ρ x=some (d,o)->x∈N')
  (hi:IE X ρ tg iter ds k)
  (turn:∀cl C s H fp,∀d∈ds,jn (iB X scope cl C N' s H fp) (flt scope ρ) tg ifs elt ko d (f d))
  (hs:∀x,foldedSetIterable iter X.env x=pure x) (I:ai X pins σ H s) (E:ax X ow H σ ρ)
  (hsw:swapsWith (.ListComp elt [⟨tg,iter,ifs,0⟩] scope pos) (some (.Name x px)) spos.line X.env=pure true)
  (hx:X.N[i]?=some x) (hl:qe X.env.scope x) (hf:X.fn x=true\/X.env.scope.names.lookup x=some .local)
  (q:∀v H',ao H H'->ae X.K H' (Kp ow H ko) (.lst (ds.filterMap f)) v->D0.nx (σ.set i (some v)) H') :
  wpAny (model X.prog X.w) X.A (exec (.Assign [.Name x px] (.ListComp elt [⟨tg,iter,ifs,0⟩] scope pos) spos) X.env) (SP X pins D0) X.xe s:=by
 rw[exec_Assign_Name_used _ _ _ _ hsw]
 refine wpAny_bind (wpAny_standAt (wpAny_bind ?_))
 show wpAny _ X.A (do let _ <- comprehension (.ListComp elt [⟨tg,iter,ifs,0⟩] scope pos) scope X.env _ (newList []) false (eval iter X.env) (some (assign (.Name x px) X.env))) _ _ s
 refine wpAny_bind (wpAny_mono (nc (use:=some (assign (.Name x px) X.env)) (Q':=fun _ s'=>SP X pins D0 .next s') hcalm hN hk hko hlen S hsub hi turn hs I E fun D C s6 H5 m6 ce sm rp=>?_) (fun _ s' hq=>wpAny_pure (wpAny_pure hq)) fun _ _ e=>e)
 obtain⟨o,es,ep,ho,hd,hrest⟩:=id ce.ns
 have Ip:ai X (pins++[(C,o)]) σ H5 s6:=ce.inv.pins_of fun p hp=>by
  rcases List.mem_append.mp hp with z|z
  ·exact ce.inv.pin p (List.mem_append_right _ z)
  ·have e:p=(C,o):=by simpa using z
   subst e
   exact⟨ho,ce.free,ce.loc,ce.fs,fun v z=>by rw[hd]at z;cases z⟩
 show wpAny _ X.A (assign (.Name x px) X.env (.ref D)) _ _ _
 refine aH (fj (i:=i) hN hx hl hf (pins++[(C,o)]) s6 σ H5 (.ref D) (.ref D) (fun σ' H'=>σ.set i (some (.ref D))=σ'/\H5=H') Ip rfl ⟨rfl,rfl⟩) fun _ s7 ⟨σ7,H7,I7,e1,e2⟩=>?_
 subst e1 e2
 have pC:=(I7.pin (C,o) (List.mem_append_right _ (List.mem_append_right _ (by simp)))).1
 refine⟨m6,⟨o,es,ep,pC,hd,hrest⟩,fun h' sb=>?_⟩
 have ce':jo X pins (σ.set i (some (.ref D))) H5 s7 C m6:=⟨I7.unpinned,⟨o,es,ep,pC,hd,hrest⟩,ce.free,ce.loc,ce.old,ce.cell,ce.pin,ce.fs⟩
 exact⟨_,H5,ce'.done sb,q (.ref D) H5 sm rp⟩
mutual
def D.py:D->PyData
 | .non=>.none
 | .bl b=>.bool b
 | .int i=>.int i
 | .str x=>.str x
 | .dct _ _=>.dict []
 | .typ _=>.dict []
 | .dcf _ _=>.dict []
 | .sn _=>.dict []
 | .obj _ _ _=>.dict []
 | .cls _=>.dict []
 | .xc _ _=>.dict []
 | .tup l=>.tuple (fv l)
 | .lst l=>.list (fv l)
def fv:List D->List PyData
 | []=>[]
 | d::l=>d.py::fv l
end
inductive Rs(α:Type) where
 | ok (a:α) (l:List Prop)
 | st
def ay:List Prop->Prop
 | []=>True
 | p::l=>p/\ay l
def Rs.bnd{α β:Type}(r:Rs α)(f:α->Rs β):Rs β :=
 match r with
 | .st=>.st
 | .ok a l=>match f a with
  | .st=>.st
  | .ok b m=>.ok b (l++m)
def GU{α:Type}:Option α->Rs α
 | some a=>.ok a []
 | none=>.st
def gd(b:Bool):List Prop->List Prop
 | []=>[]
 | m=>[b=true->ay m]
abbrev R1:=Rs (D×Nat)
def mk(d:D)(k:Nat):R1:=.ok (d,kn d k) []
structure Fx where
 fn:Str->Option (List D->Rs D)
 con:Str->Option D
 blt:Str->Option (List D->R1)
 itr:Str->Option (List D->Nat->R1)
 mth:Str->Option (D->List D->R1)
 mtt:Str->Option (List D->List D->Nat->Rs (List D))
 slf:D->Option Int->Option Int->R1:=fun _ _ _=>.st
 fld:Str->Str->Bool:=fun _ _=>false
 omt:Str->Str->Option (List D->Rs D):=fun _ _=>none
def xW:Const->Option D
 | .none=>some .non
 | .bool b=>some (.bl b)
 | .int i=>some (.int i)
 | .str x=>some (.str x)
 | _=>none
def vw:Nat:=2 ^ 9000
def cq(a b:Int):Prop:=a.natAbs<2 ^ 64\/b.natAbs<2 ^ 64\/(a.natAbs<vw/\b.natAbs<vw)\/(Builtin.Int.intBits a<=2 ^ 22/\Builtin.Int.intBits b<=2 ^ 22)
def ld(b:Int):Prop:=b≠0/\b.natAbs<vw
def si(a b:Int):Prop:=0<=b/\b<=1000/\a.natAbs<2 ^ 64
def bh:Nat:=40000
def wG(op:Operator)(a b:Int):R1 :=
 match op with
 | .Add=>.ok (.int (a+b),0) []
 | .Sub=>.ok (.int (a-b),0) []
 | .Mult=>.ok (.int (a*b),0) [cq a b]
 | .FloorDiv=>.ok (.int (a.fdiv b),0) [ld b]
 | .Mod=>.ok (.int (a.fmod b),0) [b≠0]
 | .Pow=>.ok (.int (a ^ b.toNat),0) [si a b]
 | _=>.st
def nI:Operator->Bool
 | .Add=>true
 | _=>false
def pQ(op:Operator)(x y:D)(k j:Nat):R1 :=
 match x,y with
 | .int a,.int b=>wG op a b
 | .str a,.str b=>if nI op=true then .ok (.str (a++b),0) [a.length+b.length<=bh]else .st
 | .tup a,.tup b=>if nI op=true then .ok (.tup (a++b),kn (.tup (a++b)) (kj k j)) [a.length+b.length<=bh]else .st
 | .lst a,.lst b=>if nI op=true then .ok (.lst (a++b),0) [aq (a++b)=true,a.length+b.length<=bh]else .st
 | _,_=>.st
def tu(op:UnaryOp)(x:D):Option D :=
 match op,x with
 | .USub,.int a=>some (.int (-a))
 | .Not,.bl b=>some (.bl (!b))
 | _,_=>none
def mq(x y:D):Bool:=SeqAt.shaped x.py&&SeqAt.shaped y.py
def pB(x y:D):Bool:=PyData.eqv x.py y.py
def bH:List D->Option (List Int)
 | []=>some []
 | .int i::l=>(bH l).map (i :: ·)
 | _::_=>none
def sB(x:D)(l:List D):Rs Bool:=.ok (l.any fun y=>pB y x) [mq (.tup l) x=true]
def D.isNon:D->Bool
 | .non=>true
 | _=>false
def gH:D->Option (List D)
 | .tup l=>some l
 | .lst l=>some l
 | _=>none
def d5(op:CmpOp)(a b:Int):Option Bool :=
 match op with
 | .Lt=>some (decide (a<b))
 | .LtE=>some (decide (a<=b))
 | .Gt=>some (decide (b<a))
 | .GtE=>some (decide (b<=a))
 | _=>none
def sr(op:CmpOp)(x y:D):Option Bool :=
 match x,y with
 | .int a,.int b=>d5 op a b
 | .tup a,.tup b=>(match op,bH a,bH b with | .Lt,some m,some n=>some (HT.lexLt m n)|_,_,_=>none)
 | _,_=>none
def Rs.nt:Rs Bool->Rs Bool
 | .ok b l=>.ok (!b) l
 | .st=>.st
def lY:D->Option aV
 | .int i=>some (.inl i)
 | .str x=>some (.inr x)
 | _=>none
def pF(ks:List aV)(ds:List D)(k:aV):Option D:=((ks.zip ds).find? fun p=>decide (p.1=k)).map (·.2)
def fW(ks:List aV)(k:aV):Bool:=ks.any fun j=>decide (j=k)
def gQ(ks:List aV)(k:aV):List aV:=cond (fW ks k) ks (ks++[k])
def cG{α:Type}(ks:List aV)(ds:List α)(k:aV)(d:α):List α:=cond (fW ks k) (List.zipWith (fun j e=>if j=k then d else e) ks ds) (ds++[d])
def EC(x y:D):Rs Bool :=
 match y with
 | .tup l=>sB x l
 | .lst l=>sB x l
 | .dct ks _=>(match lY x with|some k=>.ok (fW ks k) []|none=>.st)
 | .str b=>(match x with | .str a=>.ok (Txt.contains b a) []|_=>.st)
 | _=>.st
def iF(op:CmpOp)(x y:D):Rs Bool :=
 match op with
 | .Eq=>.ok (pB x y) [mq x y=true]
 | .NotEq=>.ok (!pB x y) [mq x y=true]
 | .Is=>(match y with | .non=>.ok x.isNon []|_=>.st)
 | .IsNot=>(match y with | .non=>.ok (!x.isNon) []|_=>.st)
 | op=>GU (sr op x y)
def D.ty0:D->Option String
 | .non=>some "NoneType"
 | .bl _=>some "bool"
 | .int _=>some "int"
 | .str _=>some "str"
 | .dct _ _=>some "dict"
 | .tup _=>some "tuple"
 | .lst _=>some "list"
 | _=>none
def BP(x:D)(T:String):Option Bool:=x.ty0.map fun a=>decide (a=T) || decide (a = "bool" /\ T = "int")
def rN(x:Str):Option String :=
 if x = "int" then some "int" else if x = "bool" then some "bool" else if x = "str" then some "str" else if x = "tuple" then some "tuple" else if x = "list" then some "list" else if x = "ValueError" then some "ValueError" else none
def fH:List Str:=["len", "tuple", "list", "abs", "all", "sum", "isinstance", "set", "int", "bool", "str", "range", "zip", "enumerate", "any", "sorted", "min", "max", "reversed", "ValueError"]
def o7:Expr->Bool
 | .Tuple .. => true
 | _=>false
def dS(e tg:Expr):Bool :=
 match e with
 | .Call (.Name f _) _ _ _=>if f = "enumerate" \/ f = "zip" then o7 tg else true
 | _=>true
def xl(x:Str):List D:=x.cps.toList.map fun c=>.str ⟨#[c]⟩
def items:D->Option (List D)
 | .lst l=>some l
 | .tup l=>some l
 | .str x=>if (x.cps.all fun c=>decide (c<128))=true then some (xl x)else none
 | _=>none
def aL(ρ:ac)(x:Str)(y:D×Bool):ac:=fun z=>if z=x then some y else ρ z
def bD(sc:Scope)(x:Str):Bool:=sc.names.lookup x==some .local || sc.names.lookup x==some .cell
def aK(sc:Scope):List Expr->List D->ac->Option ac
 | [],[],ρ=>some ρ
 | .Name x _::es,d::ds,ρ=>if bD sc x=true then aK sc es ds (aL ρ x (d,false))else none
 | _,_,_=>none
def bi(sc:Scope)(tg:Expr)(d:D)(ρ:ac):Option ac :=
 match tg with
 | .Name x _=>if bD sc x=true then some (aL ρ x (d,false))else none
 | .Tuple es _ _=>(match d with | .tup ds=>aK sc es ds ρ|_=>none)
 | _=>none
def jw(sc scope:Scope):Bool :=
 decide (scope.kind=.function)&&scope.names.all (fun y=>decide (y.2 ≠ .local) || decide (scope.names.lookup y.1=some .local)) &&
 scope.names.all (fun y=>decide (y.2 ≠ .free) || bD sc y.1&&decide (sc.names.lookup y.1=some .cell) || decide (sc.names.lookup y.1=some .free))&&decide ((scope.names.map (·.1)).Nodup)
def eg(step:D->Rs (Option (D×Nat))):List D->Rs (List D×Nat)
 | []=>.ok ([],0) []
 | d::l=>(step d).bnd fun r=>(eg step l).bnd fun q=>match r with
  | none=>.ok q []
  | some p=>.ok (p.1::q.1,kj p.2 q.2) []
def o5(x:D)(i:Int)(k:Nat):R1 :=
 match gH x with
 | some l=>(match atI l i with|some d=>mk d k|none=>.st)
 | none=>.st
def gL(p:D×Nat)(f:Int->R1):R1 :=
 match p.1 with
 | .int j=>f j
 | _=>.st
def jE(p q:D×Nat):R1 :=
 match p.1 with
 | .dct ks ds=>(match lY q.1 with|some k=>(match pF ks ds k with|some d=>.ok (d,0) []|none=>.st)|none=>.st)
 | x=>gL q fun j=>o5 x j p.2
def wD(l:List D)(lo hi:Option Int):List D:=(l.drop (HT.sIx l.length 0 lo)).take (HT.sIx l.length l.length hi-HT.sIx l.length 0 lo)
def cW(x:Str):Bool:=decide ((x==("__debug__" : Str))=false)&&decide ((x==("__classdict__" : Str))=false)
def sU(b:Bool)(r:Rs Bool):Rs Bool :=
 match r with
 | .ok c m=>.ok (b&&c) (gd b m)
 | .st=>match b with|false=>.ok false []|true=>.st
def xu(b:Bool)(r:Rs Bool):Rs Bool :=
 match r with
 | .ok c m=>.ok (b || c) (gd (!b) m)
 | .st=>match b with|true=>.ok true []|false=>.st
mutual
def lQ(b:Bool):D->D->D
 | .int x,.int y=>.int (cond b x y)
 | .bl x,.bl y=>.bl (cond b x y)
 | .tup x,.tup y=>if x.length=y.length then .tup (iq b x y)else cond b (.tup x) (.tup y)
 | x,y=>cond b x y
def iq(b:Bool):List D->List D->List D
 | x::l,y::m=>lQ b x y::iq b l m
 | l,m=>cond b l m
end
def uM(t:Bool)(k j:Nat):Nat:=if k=j then k else cond t k j
def xF(b:Bool)(r s:R1):R1 :=
 match r with
 | .st=>(match b with|true=>.st|false=>s)
 | .ok p m=>match s with
  | .st=>(match b with|true=>.ok p m|false=>.st)
  | .ok q n=>.ok (lQ b p.1 q.1,uM b p.2 q.2) (gd b m++gd (!b) n)
def iY(Φ:Fx)(x:Str)(sc:Scope)(ρ:ac):R1 :=
 if cW x=true then
  (if sc.names.lookup x=some .globalImplicit then(match Φ.con x with|some d=>.ok (d,0) []|none=>match rN x with|some T=>.ok (.typ T,0) []|none=>.st)
  else match ρ x with
   | some p=>mk p.1 (cond p.2 2 1)
   | none=>.st)
 else .st
def gR(Φ:Fx)(f:Str)(it:Bool)(ds:List D)(k:Nat):R1 :=
 match Φ.fn f with
 | some F=>(F ds).bnd fun d=>.ok (d,0) []
 | none=>match (if it=true then Φ.itr f else none)with
  | some B=>B ds k
  | none=>match Φ.blt f with
   | some B=>B ds
   | none=>.st
def iI{α:Type}(p:D×Nat)(f:Bool->Rs α):Rs α :=
 match p.1 with
 | .bl j=>f j
 | _=>.st
def fldD(Φ:Fx)(x:D)(f:Str):R1 :=
 match x with
 | .obj n ns ds=>if Φ.fld n f=true then(match (ns.zip ds).lookup f with|some d=>.ok (d,0) []|none=>.st)else .st
 | .xc _ (some (_,[(g,i)]))=>if f=g then .ok (.int i,0) []else .st
 | _=>.st
def gB:Expr->Bool
 | .Call (.Name _ _) [] [] _=>false
 | _=>true
def wj(Φ:Fx)(a:Expr)(m:Str)(x:D)(ds:List D):R1 :=
 if gB a=true then(match Φ.mth m with|some M=>M x ds|none=>.st)else .st
def CC(op op2:CmpOp)(x y z:D):R1 :=
 match x,y,z with
 | .int a,.int b,.int c=>(match d5 op a b,d5 op2 b c with|some r,some r2=>.ok (.bl (r&&r2),0) []|_,_=>.st)
 | _,_,_=>.st
mutual
def ar(Φ:Fx):Expr->Bool->Scope->ac->R1
  | .Constant c _ _,_,_,_=>(match xW c with|some d=>.ok (d,0) []|none=>.st)
  | .Name x _,_,sc,ρ=>iY Φ x sc ρ
  | .BinOp a op b _,_,sc,ρ=>(ar Φ a false sc ρ).bnd fun p=>(ar Φ b false sc ρ).bnd fun q=>pQ op p.1 q.1 p.2 q.2
  | .UnaryOp op a _,_,sc,ρ=>(ar Φ a false sc ρ).bnd fun p=>(match tu op p.1 with|some d=>.ok (d,0) []|none=>.st)
  | .BoolOp op es _,_,sc,ρ=>if es.isEmpty=true then .st else(cj Φ op es sc ρ).bnd fun b=>.ok (.bl b,0) []
  | .Compare a [op] [b] _,_,sc,ρ=>(ar Φ a false sc ρ).bnd fun p=>(ar Φ b false sc ρ).bnd fun q=>(iF op p.1 q.1).bnd fun r=>.ok (.bl r,0) []
  | .Compare a [op,op2] [b,c] _,_,sc,ρ=>(ar Φ a false sc ρ).bnd fun p=>(ar Φ b false sc ρ).bnd fun q=>(ar Φ c false sc ρ).bnd fun t=>CC op op2 p.1 q.1 t.1
  | .IfExp c a b _,_,sc,ρ=>(ar Φ c false sc ρ).bnd fun p=>iI p fun t=>xF t (ar Φ a false sc ρ) (ar Φ b false sc ρ)
  | .Tuple es _ _,_,sc,ρ=>(ba Φ es sc ρ).bnd fun p=>if p.1.length<=bh then mk (.tup p.1) p.2 else .st
  | .Dict [] [] _,_,_,_=>.ok (.dct [] [],0) []
  | .List es _,_,sc,ρ=>(ba Φ es sc ρ).bnd fun p=>if p.1.length<=bh/\p.2<=1 then .ok (.lst p.1,p.2) []else .st
  | .Subscript a i _,_,sc,ρ=>(ar Φ a false sc ρ).bnd fun p=>(ar Φ i false sc ρ).bnd fun q=>jE p q
  | .Call (.Name f _) args [] _,it,sc,ρ =>
    if sc.names.lookup f=some .globalImplicit then(ba Φ args sc ρ).bnd fun p=>gR Φ f it p.1 p.2
    else .st
  | .Call (.Attribute a m ap) args [] cp,_,sc,ρ=>if (ap.endLine==cp.line)=true then(ar Φ a false sc ρ).bnd fun p=>(ba Φ args sc ρ).bnd fun q=>wj Φ a m p.1 q.1 else .st
  | .ListComp elt [⟨tg,iter,ifs,0⟩] scope _,_,sc,ρ =>
    if jw sc scope=true then(ar Φ iter true sc ρ).bnd fun p=>(match items p.1 with
      | some ds=>if dS iter tg=true then
          (Rs.ok () [ds.length<=bh,aq ds=true\/p.2<=1]).bnd fun _=>(eg (fun d=>match bi scope tg d (flt scope ρ)with
            | none=>.st
            | some ρ'=>(cj Φ .And ifs scope ρ').bnd fun b=>cond b ((ar Φ elt false scope ρ').bnd fun r=>.ok (some r) []) (.ok none [])) ds).bnd fun q=>if q.2<=1 then .ok (.lst q.1,q.2) []else .st
        else .st
      | none=>.st)
    else .st
  | _,_,_,_=>.st
def ba(Φ:Fx):List Expr->Scope->ac->Rs (List D×Nat)
 | [],_,_=>.ok ([],0) []
 | e::es,sc,ρ=>(ar Φ e false sc ρ).bnd fun p=>(ba Φ es sc ρ).bnd fun q=>.ok (p.1::q.1,kj p.2 q.2) []
def cj(Φ:Fx):BoolOp->List Expr->Scope->ac->Rs Bool
 | .And,[],_,_=>.ok true []
 | .Or,[],_,_=>.ok false []
 | .And,e::es,sc,ρ=>(ar Φ e false sc ρ).bnd fun p=>iI p fun b=>sU b (cj Φ .And es sc ρ)
 | .Or,e::es,sc,ρ=>(ar Φ e false sc ρ).bnd fun p=>iI p fun b=>xu b (cj Φ .Or es sc ρ)
def rE(Φ:Fx):Option Expr->Scope->ac->Rs (Option Int)
 | none,_,_=>.ok none []
 | some e,sc,ρ=>(ar Φ e false sc ρ).bnd fun p=>(match p.1 with | .int i=>.ok (some i) []|_=>.st)
end
theorem mn{Φ:Fx}{op:BoolOp}:ar Φ (.BoolOp op es p) it sc ρ=(if es.isEmpty=true then .st else(cj Φ op es sc ρ).bnd fun b=>.ok (.bl b,0) []):=rfl
theorem fE{Φ:Fx}{p:Pos}:ar Φ (.Call (.Name f p) args [] q) it sc ρ=(if sc.names.lookup f=some .globalImplicit then(ba Φ args sc ρ).bnd fun p=>gR Φ f it p.1 p.2 else .st):=rfl
theorem pA{Φ:Fx}:ar Φ (.Call (.Attribute a m ap) args [] cp) it sc ρ=(if (ap.endLine==cp.line)=true then(ar Φ a false sc ρ).bnd fun p=>(ba Φ args sc ρ).bnd fun q=>wj Φ a m p.1 q.1 else .st):=rfl
theorem mm{Φ:Fx}{q:Pos}:ar Φ (.ListComp elt [⟨tg,iter,ifs,0⟩] scope q) it sc ρ=(if jw sc scope=true then(ar Φ iter true sc ρ).bnd fun p=>(match items p.1 with
      | some ds=>if dS iter tg=true then
          (Rs.ok () [ds.length<=bh,aq ds=true\/p.2<=1]).bnd fun _=>(eg (fun d=>match bi scope tg d (flt scope ρ)with
            | none=>.st
            | some ρ'=>(cj Φ .And ifs scope ρ').bnd fun b=>cond b ((ar Φ elt false scope ρ').bnd fun r=>.ok (some r) []) (.ok none [])) ds).bnd fun q=>if q.2<=1 then .ok (.lst q.1,q.2) []else .st
        else .st
      | none=>.st)
    else .st):=rfl
variable{Φ:Fx}{F:List D->Rs D}{B:List D->R1}
inductive Fl where
 | nx (ρ:ac)|rt (d:D)|bk (ρ:ac)|ct (ρ:ac)
def gr:Expr->Bool
 | .ListComp .. => true
 | .SetComp .. => true
 | .DictComp .. => true
 | _=>false
def rY(l:List D)(i:Int)(d:D):Option (List D):=(gZ l.length i).map fun j=>l.set j d
def oP(f:ac->Rs Fl):Fl->Rs Fl
 | .nx ρ=>f ρ
 | .ct ρ=>f ρ
 | .bk ρ=>.ok (.nx ρ) []
 | .rt d=>.ok (.rt d) []
def dy(bind:D->ac->Option ac)(body:ac->Rs Fl):List D->ac->Rs Fl
 | [],ρ=>.ok (.nx ρ) []
 | d::l,ρ=>match bind d ρ with
  | none=>.st
  | some ρ1=>(body ρ1).bnd (oP (dy bind body l))
def mJ(test:ac->Rs Bool)(body:ac->Rs Fl):Nat->ac->Rs Fl
 | 0,_=>.st
 | n+1,ρ=>(test ρ).bnd fun b=>cond b ((body ρ).bnd (oP (mJ test body n))) (.ok (.nx ρ) [])
def demX(x:Str)(ρ:ac):ac:=fun y=>if y=x then(ρ y).map fun p=>(p.1,false)else ρ y
def demA(x:Str)(ρ:ac):ac:=fun y=>if y=x then(ρ y).map fun p=>(p.1,p.2&&p.1.lless)else ρ y
def demL:List Expr->ac->ac
 | [],ρ=>ρ
 | .Name x _::es,ρ=>demL es (demA x ρ)
 | .Subscript (.Name x _) _ _::es,ρ=>demL es (demA x ρ)
 | _::es,ρ=>demL es ρ
def demote(e:Expr)(ρ:ac):ac :=
 match e with
 | .Name x _=>demX x ρ
 | .Subscript (.Name x _) _ _=>demX x ρ
 | .Call _ args _ _=>demL args ρ
 | _=>ρ
def lI(sc:Scope)(x:Str)(p:D×Nat)(ρ:ac):Rs Fl :=
 if bD sc x=true then
  match p.2 with
  | 0=>.ok (.nx (aL ρ x (p.1,true))) []
  | 1=>.ok (.nx (aL ρ x (p.1,false))) []
  | _=>.st
 else .st
def lK(ρ:ac)(x:Str)(f:List D->Rs Fl):Rs Fl :=
 match ρ x with
 | some (.lst l,true)=>if cW x=true then f l else .st
 | _=>.st
def kB(sc:Scope)(x y:Str)(px py:Pos)(a b:Expr):Bool :=
 sc.names.lookup x==some .local&&sc.names.lookup y==some .local&&(px.line==py.line) && !decide (x=y) && !([a,b].all (foldedForSure 8)) && !([a,b].all (constantsAlone 8))
def nK(Φ:Fx)(es:List Expr)(e:Expr)(sc:Scope)(ρ:ac):Rs Fl :=
  match es,e with
  | [.Name x px,.Name y py],.Tuple [a,b] _ _=>if kB sc x y px py a b=true then(ba Φ [a,b] sc ρ).bnd fun p=>(match p.1 with
      | [u,v]=>if aq [u,v]=true\/p.2<=1 then .ok (.nx (aL (aL ρ x (u,false)) y (v,false))) []else .st
      | _=>.st)else .st
  | _,_=>.st
def pM(sc:Scope)(es:List Expr)(e:Expr):Bool :=
 match es,e with
 | [.Name x _,.Name _ _],.Tuple [_,_] _ _=>sc.names.lookup x==some .cell
 | _,_=>false
def tM(sc:Scope)(es:List Expr)(e:Expr):Bool:=o7 e && !pM sc es e
def wd(sc:Scope)(es:List Expr)(p:D×Nat):Bool :=
 match es,p.1,p.2 with
 | [.Name x _,.Name y _],.tup [d1,d2],0=>d1.lless && !d2.lless && !decide (x=y)&&bD sc x&&bD sc y
 | _,_,_=>false
def v4(es:List Expr)(p:D×Nat)(ρ:ac):ac :=
 match es,p.1 with
 | [.Name x _,.Name y _],.tup [d1,d2]=>aL (aL ρ y (d2,true)) x (d1,false)
 | _,_=>ρ
def stOk(_:Expr):Bool:=true
def As(ρ:ac)(x:Str)(i d:D):Rs Fl :=
 match ρ x with
 | some (.lst l,true)=>(match i with | .int j=>if cW x=true then(match rY l j d with|some l'=>.ok (.nx (aL ρ x (.lst l',true))) [aq l=true,d.lless=true]|none=>.st)else .st|_=>.st)
 | some (.dct ks ds,true)=>(match lY i with|some k=>if cW x=true then .ok (.nx (aL ρ x (.dct (gQ ks k) (cG ks ds k d),true))) [d.lless=true,ks.length<bh]else .st|none=>.st)
 | _=>.st
def kW(Φ:Fx)(tgs:List Expr)(e:Expr)(sc:Scope)(ρ:ac):Rs Fl :=
  match tgs with
  | [.Name x _]=>(ar Φ e false sc ρ).bnd fun p=>lI sc x p ρ
  | [.Tuple es _ _]=>if tM sc es e=true then nK Φ es e sc ρ else(ar Φ e false sc ρ).bnd fun p=>if wd sc es p=true then .ok (.nx (v4 es p ρ)) []else(match gH p.1 with
      | some ds=>if aq ds=true\/p.2<=1 then(match aK sc es ds ρ with|some ρ'=>.ok (.nx ρ') []|none=>.st)else .st
      | none=>.st)
  | _=>.st
def wK(op:Operator)(a b:Int):R1 :=
 match op with
 | .Add=>.ok (.int (a+b),0) []
 | .Sub=>.ok (.int (a-b),0) []
 | .Mult=>.ok (.int (a*b),0) [cq a b]
 | .FloorDiv=>.ok (.int (a.fdiv b),0) [ld b]
 | _=>.st
def nM(Φ:Fx)(t:Expr)(op:Operator)(e:Expr)(sc:Scope)(ρ:ac):Rs Fl :=
  match t with
  | .Name x _=>if bD sc x=true then(match ρ x with
      | some p=>gL (p.1,0) (fun a=>(ar Φ e false sc ρ).bnd fun q=>gL q fun b=>wK op a b) |>.bnd fun r=>.ok (.nx (aL ρ x (r.1,true))) []
      | none=>.st)else .st
  | _=>.st
def kU(Φ:Fx)(e:Expr)(sc:Scope)(ρ:ac):Rs Fl :=
  match e with
  | .Call (.Attribute (.Name x _) m ap) args [] cp=>if (ap.endLine==cp.line)=true then(ba Φ args sc ρ).bnd fun p=>(match Φ.mtt m with
      | some M=>lK ρ x fun l=>(M l p.1 p.2).bnd fun l'=>.ok (.nx (aL ρ x (.lst l',true))) []
      | none=>.st)else .st
  | .Call (.Name f p) args ks cp=>(ar Φ (.Call (.Name f p) args ks cp) false sc ρ).bnd fun _=>.ok (.nx ρ) []
  | _=>.st
def gz(ρ:ac):ac:=fun y=>(ρ y).map fun p=>(p.1,false)
def xw:Expr->Bool
 | .ListComp elt _ _ _=>gr elt
 | _=>false
def nG:Expr->Bool
 | .Tuple es _ _=>es.any xw
 | e=>xw e
def oA(e:Expr)(ρ:ac):ac:=cond (nG e) (gz ρ) ρ
def rZ(p:D×Nat):Rs Fl:=if p.2=0\/p.2=2 then .ok (.rt p.1) []else .st
mutual
def dN(Φ:Fx):Stmt->Scope->ac->Rs Fl
  | .Return (some e) _,sc,ρ=>(ar Φ e false sc (oA e ρ)).bnd rZ
  | .Return none _,_,_=>.ok (.rt .non) []
  | .Pass _,_,ρ=>.ok (.nx ρ) []
  | .Break _,_,ρ=>.ok (.bk ρ) []
  | .Continue _,_,ρ=>.ok (.ct ρ) []
  | .Assign tgs e _,sc,ρ=>kW Φ tgs e sc ρ
  | .Expr e _,sc,ρ=>kU Φ e sc ρ
  | .If c a b _,sc,ρ=>(ar Φ c false sc ρ).bnd fun p=>iI p fun t=>cond t (aI Φ a sc ρ) (aI Φ b sc ρ)
  | .For tg it body els _,sc,ρ=>if els.isEmpty=true then(ar Φ it true sc (demote it ρ)).bnd fun p=>(match items p.1 with
      | some ds=>if p.2<=1/\dS it tg=true then dy (bi sc tg) (aI Φ body sc) ds (demote it ρ)else .st
      | none=>.st)
    else .st
  | .While c body els _,sc,ρ=>if els.isEmpty=true then mJ (fun ρ=>(ar Φ c false sc ρ).bnd fun p=>iI p fun b=>.ok b []) (aI Φ body sc) bh ρ else .st
  | _,_,_=>.st
def aI(Φ:Fx):List Stmt->Scope->ac->Rs Fl
 | [],_,ρ=>.ok (.nx ρ) []
 | s::ss,sc,ρ=>(dN Φ s sc ρ).bnd fun
  | .nx ρ'=>aI Φ ss sc ρ'
  | f=>.ok f []
end
theorem mj{it:Expr}:dN Φ (.For tg it body els q) sc ρ=(if els.isEmpty=true then(ar Φ it true sc (demote it ρ)).bnd fun p=>(match items p.1 with
      | some ds=>if p.2<=1/\dS it tg=true then dy (bi sc tg) (aI Φ body sc) ds (demote it ρ)else .st
      | none=>.st)
    else .st):=rfl
theorem u9{ρ:ac}:dN Φ (.While c body els q) sc ρ=(if els.isEmpty=true then mJ (fun ρ=>(ar Φ c false sc ρ).bnd fun p=>iI p fun b=>.ok b []) (aI Φ body sc) bh ρ else .st):=rfl
def d7:List Str->List D->ac
 | p::ps,d::ds=>fun z=>if z=p then some (d,false)else d7 ps ds z
 | _,_=>fun _=>none
def fu(Φ:Fx)(sc:Scope)(ps:List Str)(body:List Stmt)(ds:List D):Rs D :=
 if ds.length=ps.length then(aI Φ body sc (d7 ps ds)).bnd fun
  | .rt d=>.ok d []
  | .nx _=>.ok .non []
  | _=>.st
 else .st
def wH(ds:List D):R1 :=
 match ds with
 | [.sn n]=>.ok (.int n,0) []
 | [x]=>(match gH x with|some l=>.ok (.int l.length,0) []|none=>.st)
 | _=>.st
def iP:List String:=["int", "bool", "str", "tuple", "list", "dict"]
def wJ(ds:List D):R1 :=
 match ds with
 | [.obj m _ _,.cls n]=>if m=n then .ok (.bl true,0) []else if m∈CB then .ok (.bl (oh m n),0) []else .st
 | [x,.typ T]=>if T∈iP then(match BP x T with|some b=>.ok (.bl b,0) []|none=>.st)else .st
 | _=>.st
def mD(ds:List D):R1 :=
 match ds with
 | [.lst l]=>(match bH l with|some ns=>.ok (.int ns.sum,0) []|none=>.st)
 | _=>.st
def o9(ds:List D)(_:Nat):R1 :=
 match ds with
 | [.int j]=>.ok (.lst ((List.range j.toNat).map fun i=>.int (i:Nat)),0) [-4611686018427387904<=j,j<=bh]
 | [.int i,.int j]=>.ok (.lst ((List.range (j-i).toNat).map fun m=>.int (i+(m:Nat))),0) [-4611686018427387904<=i,i<=4611686018427387000,-4611686018427387904<=j,j-i<=800]
 | _=>.st
def fU(_:D)(_ _:Option Int):R1:=.st
def lT(l ds:List D)(k:Nat):Rs (List D) :=
 match ds with
 | [d]=>.ok (l++[d]) [d.lless=true\/k=0,l.length<bh]
 | _=>.st
def lS(l ds:List D)(k:Nat):Rs (List D) :=
 match ds,k with
 | [.lst d],0=>.ok (l++d) [l.length+d.length<=bh]
 | _,_=>.st
def Tb(l:List (Str×(List D->Rs D)))(c:List (Str×D))(b:List (Str×(List D->R1)))(i:List (Str×(List D->Nat->R1)))(m:List (Str×(D->List D->R1)))(t:List (Str×(List D->List D->Nat->Rs (List D))))(sf:D->Option Int->Option Int->R1):Fx :=
 { slf:=sf,fn:=fun g=>l.lookup g,con:=fun x=>c.lookup x,blt:=fun x=>b.lookup x,itr:=fun x=>i.lookup x,mth:=fun x=>m.lookup x,mtt:=fun x=>t.lookup x }
variable{fl:Fl}{bodyF:ac->Rs Fl}
variable{X:Cx}
theorem iX{k:Int}(h:k.natAbs<2 ^ n):Builtin.Int.intBits k<=n:=by
 unfold Builtin.Int.intBits
 split
 ·exact Nat.zero_le _
 ·rename_i h0
  have:k.natAbs.log2<n:=by
   rcases Nat.eq_zero_or_pos k.natAbs with h1|hp
   ·exact absurd (by simpa using h1) (by simpa using h0)
   ·exact(Nat.log2_lt (Nat.ne_of_gt hp)).mpr h
  omega
theorem bY:∀{l m:List Prop},ay (l++m)↔ay l/\ay m
 | [],m=>by simp[ay]
 | p::l,m=>by
  show p/\ay (l++m)↔(p/\ay l)/\ay m
  rw[bY,and_assoc]
theorem aM{r:Rs α}{f:α->Rs β}{b:β}(h:r.bnd f=.ok b l)(hp:ay l):∃a l1 l2,r=.ok a l1/\ay l1/\f a=.ok b l2/\ay l2:=by
 unfold Rs.bnd at h
 split at h
 ·cases h
 ·rename_i a l1
  split at h
  ·cases h
  ·rename_i b' m e
   cases h
   obtain⟨h1,h2⟩:=bY.mp hp
   exact⟨a,l1,m,rfl,h1,e,h2⟩
theorem kR{m:List Prop}(h:ay (gd b m))(hb:b=true):ay m:=by
 cases m with
 | nil=>exact True.intro
 | cons p l=>exact h.1 hb
theorem DK{a b:Int}(h:Builtin.Int.intBits a<=2 ^ 22)(g:Builtin.Int.intBits b<=2 ^ 22):IntMulOk a b:=by
 have h':Builtin.Int.intTooBig (Builtin.Int.intBits a+Builtin.Int.intBits b)=false:=by
  unfold Builtin.Int.intTooBig bitsLine;exact decide_eq_false (by omega)
 unfold IntMulOk;rw[h'];simp
theorem oR{a b:Int}(h:cq a b):IntMulOk a b:=by
 rcases h with h|h|⟨h,g⟩|⟨h,g⟩
 ·exact .of_left (iX h)
 ·exact .of_right (iX h)
 ·exact IntMulOk.of_bits (Nat.le_trans (iX h) (by decide)) (Nat.le_trans (iX g) (by decide))
 ·exact DK h g
theorem y6:bC X (binaryOp .Mult) (rI (fun i j=>cq i j) fun i j=>.int (i*j)):=oN fun _ _ _ _ _ _ _ hc q=>mul_int q (oR hc)
theorem we:bC X (binaryOp .FloorDiv) (rI (fun _ j=>j≠0/\j.natAbs<vw) fun i j=>.int (i.fdiv j)):=oN fun i j _ _ _ _ _ hc q=>floordiv_int hc.1 q (.inl (PyProof.noPylong_of_log2 (by
 rcases Nat.eq_zero_or_pos j.natAbs with h1|hp
 ·exact absurd (by simpa using h1) hc.1
 ·exact(Nat.log2_lt (Nat.ne_of_gt hp)).mpr hc.2)))
mutual
theorem bW{pins:List (Addr×Obj)}{σ:L2.St}{H:Hp}{s:Shared}(I:ai X pins σ H s){P:aQ}:∀{d:D} {v:V} {u:Value},d.py.canLay0=true->ae X.K H P d v->aJ v u->∃as,Reads s.heap u d.py as
 | .non,v,u,_,h,r=>by
  rw[ae]at h;subst h;cases (show u=Value.none from r);rw[D.py];exact⟨_,.none⟩
 | .bl b,v,u,_,h,r=>by rw[ae]at h;subst h;cases (show u=Value.bool b from r);rw[D.py];exact⟨_,.bool b⟩
 | .int i,v,u,_,h,r=>by rw[ae]at h;subst h;obtain⟨t,e⟩:=(show ∃t,u=Value.int i t from r);subst e;rw[D.py];exact⟨_,.int i t⟩
 | .str x,v,u,_,h,r=>by rw[ae]at h;subst h;obtain⟨t,e⟩:=(show ∃t,u=Value.str x t from r);subst e;rw[D.py];exact⟨_,.str x t⟩
 | .dct _ _,v,u,c,h,r=>by rw[D.py]at c;simp[PyData.canLay0]at c
 | .typ _,v,u,c,h,r=>by rw[D.py]at c;simp[PyData.canLay0]at c
 | .dcf _ _,v,u,c,h,r=>by rw[D.py]at c;simp[PyData.canLay0]at c
 | .sn _,v,u,c,h,r=>by rw[D.py]at c;simp[PyData.canLay0]at c
 | .obj _ _ _,v,u,c,h,r=>by rw[D.py]at c;simp[PyData.canLay0]at c
 | .cls _,v,u,c,h,r=>by rw[D.py]at c;simp[PyData.canLay0]at c
 | .xc _ _,v,u,c,h,r=>by rw[D.py]at c;simp[PyData.canLay0]at c
 | .tup l,v,u,c,h,r=>by
  rw[ae]at h
  obtain⟨a,vs,rfl,h,q⟩:=h
  cases (show u=Value.ref a from r)
  obtain⟨its,rv,ht,_⟩:=I.tuple h
  obtain⟨o,e1,e2,n,e3⟩:=ht
  rw[D.py]at c⊢
  obtain⟨as,ra⟩:=ii I (by simpa [PyData.canLay0]using c) q rv
  exact⟨as,.tuple e1 e2 e3 (by simpa using ra)⟩
 | .lst l,v,u,c,h,r=>by
  rw[ae]at h
  obtain⟨a,vs,b,rfl,h,_,q⟩:=h
  cases (show u=Value.ref a from r)
  have hs:bM X.K H a vs:=h.sq
  obtain⟨its,rv,ht,_⟩:=I.list hs
  obtain⟨o,n,e1,e2,_,e3⟩:=ht
  rw[D.py]at c⊢
  obtain⟨as,ra⟩:=ii I (by simpa [PyData.canLay0]using c) q rv
  exact⟨_,.list e1 e2 e3 (by simpa using ra)⟩
theorem ii{pins:List (Addr×Obj)}{σ:L2.St}{H:Hp}{s:Shared}(I:ai X pins σ H s){P:aQ}:∀{l:List D} {vs:List V} {us:List Value},PyData.canLayAll0 (fv l)=true->ah X.K H P l vs->av vs us->∃as,ReadsAll s.heap us (fv l) as
 | [],vs,us,_,h,r=>by rw[ah]at h;subst h;cases r;rw[fv];exact⟨_,.nil⟩
 | d::l,vs,us,c,h,r=>by
  rw[ah]at h
  obtain⟨v,vr,rfl,h1,h2⟩:=h
  cases r with
  | cons r1 r2 =>
   rw[fv,PyData.canLayAll0,Bool.and_eq_true]at c
   obtain⟨as,ra⟩:=bW I c.1 h1 r1
   obtain⟨bs,rb⟩:=ii I c.2 h2 r2
   rw[fv]
   exact⟨_,.cons ra rb⟩
end
def x5(X:Cx)(f:Value->Value->Sem Value)(x y z:D)(k j l:Nat):Prop :=
 ∃r:R2,bC X f r/\∀ow H0 H2 v u (Q:VK),b7 ow H0->ao H0 H2->ae X.K H2 (Kp ow H0 k) x v->ae X.K H2 (Kp ow H0 j) y u->(∀w H',ao H2 H'->ae X.K H' (Kp ow H0 l) z w->Q w H')->r v u H2 Q
theorem cM{p:Addr}{o:HO}(h:H p=none):ao H (az H p o):=fun b x e=>by rw[al (aP e h)];exact e
theorem ae.kn{H0:Hp}(h:ae K H (Kp ow H0 k) d v):ae K H (Kp ow H0 (Sp.kn d k)) d v:=by
 unfold Sp.kn
 by_cases f:d.lless=true
 ·rw[if_pos f];exact h.flat _ f
 ·rw[if_neg f];exact h
theorem bP:bh<=sizeLine:=by rw[sizeLine_eq];decide
theorem ir:bh<sizeLine:=by rw[sizeLine_eq];decide
theorem iW{f:Value->Value->Sem Value}{a b:Int}{g:Int->Int->Int}{C:Int->Int->Prop}(h:bC X f (rI C fun i j=>.int (g i j)))(hc:C a b):x5 X f (.int a) (.int b) (.int (g a b)) k j 0 :=
 ⟨_,h,fun ow H0 H2 v u Q o s rx ry q=>by
  rw[ae]at rx ry;subst rx ry
  exact⟨a,b,rfl,rfl,hc,q _ _ (ao.refl _) (by rw[ae])⟩⟩
theorem oO{f:Value->Value->Sem Value}{a b:Int}{g:Int->Int->Int}(h:bC X f (fP fun i j=>.int (g i j))):x5 X f (.int a) (.int b) (.int (g a b)) k j 0 :=
 ⟨_,h,fun ow H0 H2 v u Q o s rx ry q=>by
  rw[ae]at rx ry;subst rx ry
  exact⟨a,b,rfl,rfl,q _ _ (ao.refl _) (by rw[ae])⟩⟩
theorem gY:∀{a b:List D},aq (a++b)=(aq a&&aq b)
 | [],b=>by simp[aq]
 | x::a,b=>by rw[List.cons_append,aq,aq,gY,Bool.and_assoc]
theorem zR{op:Operator}{a b:Int}{l:Nat}(h:wG op a b=.ok (z,l) o)(hp:ay o):x5 X (binaryOp op) (.int a) (.int b) z k j l:=by
 unfold wG at h
 split at h
 ·cases h;exact oO Bm
 ·cases h;exact oO Bi
 ·cases h;exact iW y6 hp.1
 ·cases h;exact iW we hp.1
 ·cases h;exact iW y8 hp.1
 ·cases h
  have c:si a b:=hp.1
  exact iW Bj ⟨c.1,by have:=c.2.1;omega,c.2.2⟩
 ·cases h
theorem jR{op:Operator}(h:nI op=true):op=.Add:=by cases op<;>first|rfl|cases h
theorem wf:bC X (binaryOp .Add) (fun x y H Q => ∃a b ys,x=.ref a/\y=.ref b/\bg X.K H a []/\bg X.K H b ys/\Q (.ref b) H):=by
 intro pins s σ H x y v u Q I rx ry h
 obtain⟨a,b,ys,rfl,rfl,ha,hb,q⟩:=h
 cases rx
 cases ry
 obtain⟨its,r1,p1,_⟩:=I.tuple ha
 obtain⟨its2,r2,p2,_⟩:=I.tuple hb
 cases r1
 obtain⟨⟨cls,dd,data,sl⟩,ho,hc,n,hd⟩:=id p1
 obtain⟨⟨cls2,dd2,data2,sl2⟩,ho2,hc2,n2,hd2⟩:=id p2
 simp only at hc hd hc2 hd2
 subst hc hd hc2 hd2
 exact concat_meets ⟨_,ho,rfl⟩ ⟨_,ho2,rfl⟩ noFill_tuple_add seq_tuple_add PySem.F.slot_tuple_add PySem.F.entry_tuple_add (PySem.F.args_tuple_add_2 _ _)
  (tuple_addW0 a b _ its2.toArray n n2 dd dd2 sl sl2 (by rfl)) ⟨ho,ho2,⟨.ref b,H,I,rfl,q⟩⟩
theorem za:bC X (binaryOp .Add) (fun x y H Q => ∃l b xs zs,x=.ref l/\y=.ref b/\bM X.K H l xs/\bM X.K H b zs/\xs.length+zs.length<=sizeLine/\∀p,H p=none->Q (.ref p) (az H p (.lst (xs++zs)))):=by
 intro pins s σ H x y v u Q I rx ry h
 obtain⟨l,b,xs,zs,rfl,rfl,hH,hB,hz,q⟩:=h
 cases rx
 cases ry
 obtain⟨its,r,⟨⟨cls,dd,data,sl⟩,n,ho,hc,_,hd⟩,z⟩:=I.list hH
 obtain⟨its2,r2,⟨⟨cls2,dd2,data2,sl2⟩,n2,ho2,hc2,_,hd2⟩,z2⟩:=I.list hB
 simp only at hc hd hc2 hd2
 subst hc hd hc2 hd2
 have l1:=r.length
 have l2:=r2.length
 refine concat_meets ⟨_,ho,rfl⟩ ⟨_,ho2,rfl⟩ noFill_list_add seq_list_add PySem.F.slot_list_add PySem.F.entry_list_add (PySem.F.args_list_add_2 _ _) (list_addW l b its.toArray its2.toArray n n2 dd dd2 sl sl2 (by rw[List.size_toArray,List.size_toArray];omega)) ⟨ho,ho2,?_⟩
 have ea:its.toArray++its2.toArray=(its++its2).toArray:=by simp
 rw[ea]
 exact⟨.ref _,_,I.lnew (t':=s.toks) (r.append r2) (by rw[List.length_append];omega),rfl,q _ I.fresh⟩
theorem CS{op:Operator}{x:D}{l:Nat}(h:pQ op x y k j=.ok (z,l) o)(hp:ay o):x5 X (binaryOp op) x y z k j l:=by
 unfold pQ at h
 split at h
 ·exact zR h hp
 ·rename_i a b
  split at h
  ·rename_i c;cases h
   cases jR c
   refine⟨_,sv,fun ow H0 H2 v u Q o s rx ry q=>?_⟩
   rw[ae]at rx ry;subst rx ry
   exact⟨a,b,rfl,rfl,Nat.le_trans hp.1 bP,q _ _ (ao.refl _) (by rw[ae])⟩
  ·cases h
 ·rename_i a b
  split at h
  ·rename_i c
   cases jR c
   cases h
   cases a with
   | nil =>
    refine⟨_,wf,fun ow H0 H2 v u Q o s rx ry q=>?_⟩
    rw[ae]at rx ry
    obtain⟨pa,va,rfl,ha,ra⟩:=rx
    obtain⟨pb,vb,rfl,hb,rb⟩:=ry
    have rb':=rb.imp (Kp.joinR o k j)
    cases ra
    refine⟨pa,pb,vb,rfl,rfl,ha,hb,q _ _ (ao.refl _) (ae.kn ?_)⟩
    rw[ae]
    exact⟨pb,vb,rfl,hb,rb'⟩
   | cons a0 a =>
    refine⟨_,y9,fun ow H0 H2 v u Q o s rx ry q=>?_⟩
    rw[ae]at rx ry
    obtain⟨pa,va,rfl,ha,ra⟩:=rx
    obtain⟨pb,vb,rfl,hb,rb⟩:=ry
    have ra':=ra.imp (Kp.joinL o k j)
    have rb':=rb.imp (Kp.joinR o k j)
    have la:=ra.length
    have lb:=rb.length
    refine⟨pa,pb,va,vb,rfl,rfl,ha,hb,?_,?_,fun e=>?_,fun e p hp'=>?_⟩
    ·intro e;subst e;cases la
    ·rw[<- la,<- lb];exact Nat.le_trans hp.1 bP
    ·subst e
     have:b=[]:=List.length_eq_zero_iff.mp lb
     subst this
     refine q _ _ (ao.refl _) (ae.kn ?_)
     rw[ae]
     exact⟨pa,va,rfl,ha,by rw[List.append_nil];exact ra'⟩
    ·have sm:=cM (o:=HO.tup (va++vb)) hp'
     refine q _ _ sm (ae.kn ?_)
     rw[ae]
     exact⟨p,_,rfl,bg.of aD,(ra'.same sm).append (rb'.same sm)⟩
  ·cases h
 ·rename_i a b
  split at h
  ·rename_i c;cases h
   cases jR c
   refine⟨_,za,fun ow H0 H2 v u Q o s rx ry q=>?_⟩
   rw[ae]at rx ry
   obtain⟨pa,va,b1,rfl,ha,qa,ra⟩:=rx
   obtain⟨pb,vb,b2,rfl,hb,qb,rb⟩:=ry
   have la:=ra.length
   have lb:=rb.length
   have fl:=hp.1
   rw[gY,Bool.and_eq_true]at fl
   refine⟨pa,pb,va,vb,rfl,rfl,ha.sq,hb.sq,by rw[<- la,<- lb];exact Nat.le_trans hp.2.1 bP,fun p hp'=>?_⟩
   have sm:=cM (o:=HO.lst (va++vb)) hp'
   refine q _ _ sm ?_
   rw[ae]
   exact⟨p,_,true,rfl,aD,⟨rfl,s.free hp'⟩,((ra.flat _ fl.1).same sm).append ((rb.flat _ fl.2).same sm)⟩
  ·cases h
 ·cases h
theorem wo{pins:List (Addr×Obj)}{σ:L2.St}{s:Shared}{l:List D}(h:ae X.K H P (.lst l) v):∃a vs,v=.ref a/\bM X.K H a vs/\ah X.K H P l vs:=by
 rw[ae]at h
 obtain⟨a,vs,b,rfl,h,_,q⟩:=h
 exact⟨a,vs,rfl,h.sq,q⟩
theorem eS:∀{l:List D} {ns:List Int},bH l=some ns->l=ns.map D.int
 | [],ns,h=>by rw[bH]at h;cases h;rfl
 | .int i::l,ns,h=>by
  rw[bH]at h
  cases e:bH l with
  | none=>rw[e]at h;cases h
  | some m=>rw[e]at h;cases h;rw[eS e];rfl
 | .non::l,ns,h=>by rw[bH]at h<;>first|cases h|(intro z;intro e;cases e)
 | .bl _::l,ns,h=>by rw[bH]at h<;>first|cases h|(intro z;intro e;cases e)
 | .str _::l,ns,h=>by rw[bH]at h<;>first|cases h|(intro z;intro e;cases e)
 | .dct _ _::l,ns,h=>by rw[bH]at h<;>first|cases h|(intro z;intro e;cases e)
 | .typ _::l,ns,h=>by cases h
 | .dcf _ _::l,ns,h=>by cases h
 | .sn _::l,ns,h=>by cases h
 | .obj _ _ _::l,ns,h=>by cases h
 | .cls _::l,ns,h=>by cases h
 | .xc _ _::l,ns,h=>by cases h
 | .tup _::l,ns,h=>by rw[bH]at h<;>first|cases h|(intro z;intro e;cases e)
 | .lst _::l,ns,h=>by rw[bH]at h<;>first|cases h|(intro z;intro e;cases e)
def gh(X:Cx)(op:CmpOp)(x y:D)(r:Bool):Prop:=∀(P P':aQ),bC X (compareOp op) (fun v u H Q=>ae X.K H P x v/\ae X.K H P' y u/\Q (.bl r) H)
theorem iJ{x:D}:∀{l:List D},((fv l).any fun y=>PyData.eqv y x.py)=l.any fun y=>pB y x
 | []=>by rw[fv];rfl
 | y::l=>by rw[fv,List.any_cons,List.any_cons,iJ];rfl
theorem ji{a b:Int}{g:Int->Int->Bool}(h:bC X (compareOp op) (fP fun i j=>.bl (g i j))):gh X op (.int a) (.int b) (g a b):=fun P P' pins s σ H v u xv yu Q I rx ry ⟨h1,h2,q⟩=>by
 rw[ae]at h1 h2;subst h1 h2
 exact h pins s σ H _ _ xv yu Q I rx ry ⟨a,b,rfl,rfl,q⟩
theorem zk{l:List D}(h:SeqAt.shaped (D.tup l).py=true):PyData.canLayAll0 (fv l)=true:=by
 have:=SeqAt.canLay_of_shaped h
 rw[D.py]at this
 simpa [PyData.canLay0]using this
theorem qY{x:D}{l:List D}(hu:X.A.units+70<cLine)(h:sB x l=.ok r o)(hp:ay o):gh X .In x (.tup l) r/\gh X .In x (.lst l) r/\gh X .NotIn x (.tup l) (!r)/\gh X .NotIn x (.lst l) (!r):=by
 unfold sB at h
 cases h
 ·have c:=hp.1
  unfold mq at c
  rw[Bool.and_eq_true]at c
  have c1:=zk c.1
  have c2:=SeqAt.canLay_of_shaped c.2
  have dx:=SeqAt.depth_of_shaped c.2
  have hm:min (PyData.depthAll (fv l)) x.py.depth<=64:=Nat.le_trans (Nat.min_le_right _ _) dx
  have ct:(D.tup l).py.canLay0=true:=SeqAt.canLay_of_shaped c.1
  have cl:(D.lst l).py.canLay0=true:=by rw[D.py];simpa [PyData.canLay0]using c1
  have et:(D.tup l).py=.tuple (fv l):=by rw[D.py]
  have el:(D.lst l).py=.list (fv l):=by rw[D.py]
  refine⟨?_,?_,?_,?_⟩<;>intro P P' pins s σ H v u xv yu Q I rx ry ⟨h1,h2,q⟩<;>obtain⟨as,r1⟩:=bW I c2 h1 rx
  ·obtain⟨bs,r2⟩:=bW I ct h2 ry
   rw[et]at r2
   exact SeqAt.in_tuple_reads r2 r1 c1 c2 (by omega) ⟨.bl _,H,I,rfl,by rw[iJ];exact q⟩
  ·obtain⟨bs,r2⟩:=bW I cl h2 ry
   rw[el]at r2
   exact SeqAt.in_list_reads r2 r1 c1 c2 (by omega) ⟨.bl _,H,I,rfl,by rw[iJ];exact q⟩
  ·obtain⟨bs,r2⟩:=bW I ct h2 ry
   rw[et]at r2
   exact SeqAt.notIn_tuple_reads r2 r1 c1 c2 (by omega) ⟨.bl _,H,I,rfl,by rw[iJ];exact q⟩
  ·obtain⟨bs,r2⟩:=bW I cl h2 ry
   rw[el]at r2
   exact SeqAt.notIn_list_reads r2 r1 c1 c2 (by omega) ⟨.bl _,H,I,rfl,by rw[iJ];exact q⟩
theorem nt_inv{r:Rs Bool}(h:r.nt=.ok b o):r=.ok (!b) o:=by
 cases r with
 | st=>cases h
 | ok c l=>cases h;simp
theorem qW{x:D}(h:ae X.K H P x v):decide (v=.non)=x.isNon:=by
 cases x with
 | non=>rw[ae]at h;subst h;rfl
 | bl _=>rw[ae]at h;subst h;rfl
 | int _=>rw[ae]at h;subst h;rfl
 | str _=>rw[ae]at h;subst h;rfl
 | dct _ _=>rw[ae]at h;obtain⟨_,_,a,_,rfl,_⟩:=h;rfl
 | typ _=>rw[ae]at h;subst h;rfl
 | dcf _ _=>rw[ae]at h;obtain⟨_,a,_,_,rfl,_⟩:=h;rfl
 | sn _=>rw[ae]at h;obtain⟨a,_,rfl,_⟩:=h;rfl
 | obj _ _ _=>rw[ae]at h;obtain⟨_,_,a,_,_,_,rfl,_⟩:=h;rfl
 | cls _=>rw[ae]at h;obtain⟨_,_,rfl,_⟩:=h;rfl
 | xc _ _=>rw[ae]at h;obtain⟨_,rfl⟩:=h.ref;rfl
 | tup _=>rw[ae]at h;obtain⟨a,_,rfl,_⟩:=h;rfl
 | lst _=>rw[ae]at h;obtain⟨a,_,_,rfl,_⟩:=h;rfl
theorem gG{l:List D}(h:gH d=some l):d=.tup l\/d=.lst l:=by
 unfold gH at h
 split at h
 ·cases h;exact .inl rfl
 ·cases h;exact .inr rfl
 ·cases h
theorem zM{a b:Int}(h:d5 op a b=some r):gh X op (.int a) (.int b) r:=by
 unfold d5 at h
 split at h
 ·cases h;exact ji DF
 ·cases h;exact ji DG
 ·cases h;exact ji DH
 ·cases h;exact ji DI
 ·cases h
theorem Bh{x:D}(hu:X.A.units+70<cLine)(h:sr op x y=some r):gh X op x y r:=by
 unfold sr at h
 split at h
 ·exact zM h
 ·rename_i a b
  split at h
  ·rename_i m n e1 e2
   cases h
   have f1:=eS e1
   have f2:=eS e2
   subst f1 f2
   intro P P' pins s σ H v u xv yu Q I rx ry ⟨h1,h2,q⟩
   rw[ae]at h1 h2
   obtain⟨pa,va,rfl,ha,ra⟩:=h1
   obtain⟨pb,vb,rfl,hb,rb⟩:=h2
   exact Bk (by omega) pins s σ H _ _ xv yu Q I rx ry ⟨pa,pb,m,n,rfl,rfl,by rw[<- ra.mapInt];exact ha,by rw[<- rb.mapInt];exact hb,q⟩
  ·cases h
 ·cases h
theorem bb_eq(b c:Bool):(Value.bool b==Value.bool c)=(b==c):=by cases b<;>cases c<;>rfl
theorem jQ{k:aV}(e:lY d=some k)(h:ae X.K H P d v):v=kV k:=by
 cases d<;>first|(cases e;done)|(rw[ae]at h;subst h;injection e with e;subst e;rfl)
theorem qI{k:aV}:∀{vs:List V},ks.length=vs.length->((ks.zip vs).any fun p=>decide (p.1=k))=fW ks k:=by
 induction ks with
 | nil=>intro vs _;rfl
 | cons j ks ih =>
  intro vs h
  cases vs with
  | nil=>cases h
  | cons v vs =>
   show(decide (j=k) || (ks.zip vs).any _)=(decide (j=k) || fW ks k)
   rw[ih (by simpa using h)]
theorem in_ok{x:D}(hu:X.A.units+70<cLine)(h:EC x y=.ok r o)(hp:ay o):gh X .In x y r/\gh X .NotIn x y (!r):=by
 unfold EC at h
 split at h
 ·have m:=qY hu h hp;exact⟨m.1,m.2.2.1⟩
 ·have m:=qY hu h hp;exact⟨m.2.1,m.2.2.2⟩
 ·rename_i ks ds
  split at h
  ·rename_i k e
   cases h
   have key:∀{P P':aQ} {pins:List (Addr×Obj)} {s:Shared} {σ:L2.St} {H:Hp} {v u:V} {xv yu:Value},ai X pins σ H s->aJ v xv->aJ u yu->ae X.K H P x v->ae X.K H P' (.dct ks ds) u->∃a vs,yu=.ref a/\(bV X.prog X.w).is k xv=true/\(a==sysModules)=false/\s.heap.DictOf (bV X.prog X.w) a vs/\(valueAt vs k).isSome=fW ks k:=fun {P P' pins s σ H v u xv yu} I rx ry h1 h2=>by
    have hk:=jQ e h1
    subst hk
    rw[ae]at h2
    obtain⟨_,e0,a,vs,rfl,ha,_,rl⟩:=h2
    obtain⟨z,hd,ws,bt,dd⟩:=(show aR X.prog X.w H s.heap a (.dK (ks.zip vs))from I.hok a _ ha)
    refine⟨a,ws,ry,i8 rx,hd,dd,?_⟩
    rw[<- (bt.val k).isSome_eq,<- jC,qI (e0.trans rl.length)]
   refine⟨?_,?_⟩<;>intro P P' pins s σ H v u xv yu Q I rx ry ⟨h1,h2,q⟩<;>obtain⟨a,vs,rfl,kk,hd,dd,ev⟩:=key I rx ry h1 h2
   ·refine wpAny_in_of kk hd dd.mapOf ?_
    rw[ev]
    exact⟨.bl _,H,I.tok _,rfl,q⟩
   ·refine wpAny_notIn_of kk hd dd.mapOf ?_
    rw[ev]
    exact⟨.bl _,H,I.tok _,rfl,q⟩
  ·cases h
 ·rename_i b
  split at h
  ·rename_i a
   cases h
   refine⟨?_,?_⟩<;>intro P P' pins s σ H v u xv yu Q I rx ry ⟨h1,h2,q⟩<;>(rw[ae]at h1 h2;subst h1 h2;obtain⟨t,rfl⟩:=rx;obtain⟨t',rfl⟩:=ry)
   ·exact SB.contains ⟨.bl _,H,I,rfl,q⟩
   ·exact SB.notContains ⟨.bl _,H,I,rfl,q⟩
  ·cases h
 ·cases h
theorem gA{x:D}(hu:X.A.units+70<cLine)(h:iF op x y=.ok r o)(hp:ay o):gh X op x y r:=by
 unfold iF at h
 split at h
 ·cases h
  have c:=hp.1
  unfold mq at c
  rw[Bool.and_eq_true]at c
  intro P P' pins s σ H v u xv yu Q I rx ry ⟨h1,h2,q⟩
  obtain⟨as,r1⟩:=bW I (SeqAt.canLay_of_shaped c.1) h1 rx
  obtain⟨bs,r2⟩:=bW I (SeqAt.canLay_of_shaped c.2) h2 ry
  exact eq_dataH r1 r2 c.1 c.2 (by omega) ⟨.bl _,H,I,rfl,q⟩
 ·cases h
  have c:=hp.1
  unfold mq at c
  rw[Bool.and_eq_true]at c
  intro P P' pins s σ H v u xv yu Q I rx ry ⟨h1,h2,q⟩
  obtain⟨as,r1⟩:=bW I (SeqAt.canLay_of_shaped c.1) h1 rx
  obtain⟨bs,r2⟩:=bW I (SeqAt.canLay_of_shaped c.2) h2 ry
  exact ne_dataH r1 r2 c.1 c.2 (by omega) ⟨.bl _,H,I,rfl,q⟩
 ·split at h
  ·cases h
   intro P P' pins s σ H v u xv yu Q I rx ry ⟨h1,h2,q⟩
   rw[ae]at h2
   subst h2
   exact Bl pins s σ H v _ xv yu Q I rx ry ⟨rfl,by rw[qW h1];exact q⟩
  ·cases h
 ·split at h
  ·cases h
   intro P P' pins s σ H v u xv yu Q I rx ry ⟨h1,h2,q⟩
   rw[ae]at h2
   subst h2
   refine y4 pins s σ H v _ xv yu Q I rx ry ⟨rfl,?_⟩
   rw[qW h1]
   exact q
  ·cases h
 ·cases e:sr op x y with
  | none=>rw[e]at h;cases h
  | some b=>rw[e]at h;cases h;exact Bh hu e
variable{X:Cx}
theorem rh(K:W.Frag){t:Value}:W.kitOne K t t=some true:=by unfold W.kitOne;rw[if_pos (beq_self_eq_true t)]
def D.ty:D->String
 | .non => "NoneType"
 | .bl _ => "bool"
 | .int _ => "int"
 | .str _ => "str"
 | .dct _ _ => "dict"
 | .tup _ => "tuple"
 | .lst _ => "list"
 | .typ _ => "type"
 | .dcf _ _ => "dict"
 | .sn _ => "set"
 | .obj _ _ _ => "object"
 | .cls _ => "type"
 | .xc _ _ => "type"
def D.plain:D->Bool
 | .typ _=>false
 | .dcf _ _=>false
 | .sn _=>false
 | .obj _ _ _=>false
 | .cls _=>false
 | .xc _ _=>false
 | _=>true
theorem BN{x:D}{c:String}(hpl:x.plain=true)(e:∀K,W.kitOne K (.type x.ty) (.type c)=some b){u:Value}{Q:Value->Shared->Prop}
  (I:ai X pins σ H s) (h:ae X.K H P x v) (r:aJ v u) (q:∀tk,Q (.bool b) { s with toks:=tk }):wpAny (model X.prog X.w) X.A (call (.builtin "isinstance") [u,.type c]) Q E s:=by
 have e:=e X.K
 cases x with
 | non=>rw[ae]at h;subst h;cases (show u=Value.none from r);exact W.kia_one W.kitx_none I.kIn True.intro e (fun z=>nomatch z) q
 | bl y=>rw[ae]at h;subst h;cases (show u=Value.bool y from r);exact W.kia_one W.kitx_bool I.kIn True.intro e (fun z=>nomatch z) q
 | int i=>rw[ae]at h;subst h;obtain⟨t,z⟩:=(show ∃t,u=Value.int i t from r);cases z;exact W.kia_one W.kitx_int I.kIn True.intro e (fun z=>nomatch z) q
 | str y=>rw[ae]at h;subst h;obtain⟨t,z⟩:=(show ∃t,u=Value.str y t from r);cases z;exact W.kia_one W.kitx_str I.kIn True.intro e (fun z=>nomatch z) q
 | dct ks ds =>
  rw[ae]at h
  obtain⟨_,_,a,vs,rfl,ea,_⟩:=h
  cases (show u=Value.ref a from r)
  obtain⟨_,_,vs,_,p⟩:=(show aR X.prog X.w H s.heap a (.dK _)from I.hok a _ ea)
  obtain⟨o,es,ep,h1,h2,_⟩:=p
  exact W.kia_one W.kitx_dict I.kIn ⟨o,h1,h2.1⟩ e (fun z=>nomatch z) q
 | typ _=>cases hpl
 | dcf _ _=>cases hpl
 | sn _=>cases hpl
 | obj _ _ _=>cases hpl
 | cls _=>cases hpl
 | xc _ _=>cases hpl
 | tup l =>
  rw[ae]at h
  obtain⟨a,vs,rfl,ea,_⟩:=h
  cases (show u=Value.ref a from r)
  obtain⟨_,_,⟨o,h1,h2,_⟩,_⟩:=I.tuple ea
  exact W.kia_one W.kitx_tuple I.kIn ⟨o,h1,h2⟩ e (fun z=>nomatch z) q
 | lst l =>
  obtain⟨a,vs,rfl,ea,_⟩:=wo (pins:=pins) (σ:=σ) (s:=s) h
  cases (show u=Value.ref a from r)
  obtain⟨_,_,⟨o,n,h1,h2,_⟩,_⟩:=I.list ea
  exact W.kia_one W.kitx_list I.kIn ⟨o,h1,h2⟩ e (fun z=>nomatch z) q
theorem kt(K:W.Frag)(a b:String)(r:Bool)(h:(a==b)=false)(h2:W.kitCls K (.type a) (.type b)=some r):W.kitOne K (.type a) (.type b)=some r:=by
 unfold W.kitOne
 rw[if_neg (by
  intro z
  have:a=b:=by simpa using z
  subst this
  simp at h)]
 exact h2
theorem zo:∀a∈["NoneType", "bool", "int", "str", "dict", "tuple", "list"],∀T∈iP,(a==T)=false->∀K,W.kitCls K (.type a) (.type T)=some (decide (a = "bool" /\ T = "int")):=by
 intro a ha T hT
 simp only[List.mem_cons,List.not_mem_nil,or_false,iP]at ha hT
 rcases ha with rfl|rfl|rfl|rfl|rfl|rfl|rfl<;>rcases hT with rfl|rfl|rfl|rfl|rfl|rfl<;>intro h K<;>first|(exact absurd h (by decide))|kernel_rfl
theorem BO{x:D}(h:BP x T=some b)(hT:T∈iP):x.plain=true/\∀K,W.kitOne K (.type x.ty) (.type T)=some b:=by
 have key:∀(a:String),a∈["NoneType", "bool", "int", "str", "dict", "tuple", "list"]->∀K,W.kitOne K (.type a) (.type T)=some (decide (a=T) || decide (a = "bool" /\ T = "int")):=fun a ha K=>by
  by_cases e:a=T
  ·subst e;rw[rh];simp
  ·have e':(a==T)=false:=by simpa using e
   rw[kt K a T _ e' (zo a ha T hT e' K)];simp[e]
 unfold BP at h
 cases hx:x.ty0 with
 | none=>rw[hx]at h;cases h
 | some a =>
  rw[hx]at h
  cases h
  have hp:x.plain=true/\x.ty=a/\a∈["NoneType", "bool", "int", "str", "dict", "tuple", "list"]:=by
   cases x<;>cases hx<;>exact⟨rfl,rfl,by decide⟩
  refine⟨hp.1,fun K=>?_⟩
  rw[hp.2.1]
  exact key a hp.2.2 K
def nU(X:Cx)(f:Value)(ds:List D)(z:D)(l:Nat):Prop :=
 ∃r:List V->Hp->VK->Prop,dH X f r/\∀ow H0 H2 vs (P:aQ) (Q:VK),b7 ow H0->ao H0 H2->ah X.K H2 P ds vs->(∀w H',ao H2 H'->ae X.K H' (Kp ow H0 l) z w->Q w H')->r vs H2 Q
theorem ah.only(h:ah K H P [d] vs):∃v,vs=[v]/\ae K H P d v:=by
 rw[ah]at h
 obtain⟨v,r,rfl,h1,h2⟩:=h
 rw[ah]at h2;subst h2
 exact⟨v,rfl,h1⟩
theorem ka{l:List D}(h:ae X.K H P (.lst l) v):∃a vs,v=.ref a/\bM X.K H a vs/\ah X.K H P l vs:=by
 rw[ae]at h
 obtain⟨a,vs,b,rfl,h,_,q⟩:=h
 exact⟨a,vs,rfl,h.sq,q⟩
theorem hZ{l:List D}(h:ae X.K H P (.tup l) v):∃a vs,v=.ref a/\bg X.K H a vs/\ah X.K H P l vs:=by
 rw[ae]at h;exact h
theorem uF{l:List D}:nU X (.builtin "len") [.tup l] (.int l.length) 0/\nU X (.builtin "len") [.lst l] (.int l.length) 0:=by
 constructor
 ·refine⟨_,iH,fun ow H0 H2 vs P Q o s rx q=>?_⟩
  obtain⟨v,rfl,ry⟩:=rx.only
  obtain⟨a,ws,rfl,hs,rl⟩:=hZ ry
  exact⟨a,ws,rfl,.inr hs,by rw[<- rl.length];exact q _ _ (ao.refl _) (by rw[ae])⟩
 ·refine⟨_,iH,fun ow H0 H2 vs P Q o s rx q=>?_⟩
  obtain⟨v,rfl,ry⟩:=rx.only
  obtain⟨a,ws,rfl,hs,rl⟩:=ka ry
  exact⟨a,ws,rfl,.inl hs,by rw[<- rl.length];exact q _ _ (ao.refl _) (by rw[ae])⟩
theorem nY:∀{ns:List Int} {us:List Value},av (ns.map V.int) us->(∀v,v∈us->∃a t,v=Value.int a t)/\numsOf us=ns
 | [],us,h=>by cases h;exact⟨fun _ h=>(by cases h),rfl⟩
 | n::ns,us,h=>by
  cases h with
  | cons h1 h2 =>
   obtain⟨t,rfl⟩:=(show ∃t,_=Value.int n t from h1)
   obtain⟨i1,i2⟩:=nY h2
   refine⟨fun v hv=>?_,by simp only[numsOf];rw[i2]⟩
   rcases List.mem_cons.mp hv with rfl|hv
   ·exact⟨_,_,rfl⟩
   ·exact i1 v hv
theorem vn(hc:X.calm=true):dH X (.builtin "sum") (fun xs H Q => ∃(p:Addr) (ns:List Int),xs=[.ref p]/\bM X.K H p (ns.map V.int)/\Q (.int ns.sum) H):=by
 intro pins s σ H xs us Q I r h
 obtain⟨p,ns,rfl,hq,q⟩:=h
 obtain⟨u,rfl,rx⟩:=nC r
 cases rx
 obtain⟨its,rv,pl,hz⟩:=I.list hq
 obtain⟨hall,hnum⟩:=nY rv
 obtain⟨xs,e⟩:=AllInts.items (vs:=its.toArray) (fun v hv=>hall v (by simpa using hv))
 have hl:=pl.isList
 rw[e]at hl
 refine sum_intListG (I.ok.hd hc) hl fun h' tk t' hk=>?_
 refine⟨.int ns.sum,H,I.kept hk,⟨t',?_⟩,q⟩
 congr 1
 rw[preSum_eq,List.take_of_length_le (by simp),<- nums_intItems,<- e]
 simp[hnum]
theorem vo:dH X (.builtin "len") (fun xs H Q => ∃(p:Addr) (S:Int->Bool) (n:Nat),xs=[.ref p]/\H p=some (.set S n)/\Q (.int n) H):=by
 intro pins s σ H xs us Q I r h
 obtain⟨p,S,n,rfl,hp,q⟩:=h
 obtain⟨u,rfl,rx⟩:=nC r
 cases rx
 obtain⟨o,es,ep,t,h1,h2,h3,_,_,h4,h5,rfl⟩:=(show s.heap.SetOf (intKind X.prog X.w) p S n from I.hok p _ hp)
 exact call_len_set h1 h2 h3 h5 (by unfold scanBound at h4;omega) ⟨.int _,H,I.tok _,⟨_,rfl⟩,q⟩
def fg(f:Str)(B:List D->R1):Prop:=f∈fH/\f ≠ "__name__" /\ (f==("__debug__" : Str))=false/\(B []=.st)/\∀(X:Cx) (ds:List D) (z:D) (l:Nat) (o:List Prop),X.calm=true->B ds=.ok (z,l) o->ay o ->
 ((∃id,bootBuiltins f=some (.builtin id)/\nU X (.builtin id) ds z l)\/∃T,bootBuiltins f=some (.type T)/\nU X (.type T) ds z l)
theorem zU:fg "len" wH:=by
 refine⟨by decide +kernel,by decide +kernel,by decide +kernel,rfl,fun X ds z l o hc h _=>.inl ⟨"len", by decide +kernel,?_⟩⟩
 unfold wH at h
 split at h
 ·cases h
  refine⟨_,vo,fun ow H0 H2 vs P Q o s rx q=>?_⟩
  obtain⟨v,rfl,ry⟩:=rx.only
  rw[ae]at ry
  obtain⟨a,S,rfl,ha⟩:=ry
  exact⟨a,S,_,rfl,ha,q _ _ (ao.refl _) (by rw[ae])⟩
 ·split at h
  ·rename_i m e
   cases h
   rcases gG e with rfl|rfl
   ·exact uF.1
   ·exact uF.2
  ·cases h
 ·cases h
theorem zT:fg "sum" mD:=by
 refine⟨by decide +kernel,by decide +kernel,by decide +kernel,rfl,fun X ds z l o hc h _=>.inl ⟨"sum", by decide +kernel,?_⟩⟩
 unfold mD at h
 split at h
 ·split at h
  ·rename_i bs e
   cases h
   cases eS e
   refine⟨_,vn hc,fun ow H0 H2 vs P Q o s rx q=>?_⟩
   obtain⟨v,rfl,ry⟩:=rx.only
   obtain⟨a,ws,rfl,hs,rl⟩:=ka ry
   exact⟨a,bs,rfl,by rw[<- rl.mapInt];exact hs,q _ _ (ao.refl _) (by rw[ae])⟩
  ·cases h
 ·cases h
theorem zW:fg "isinstance" wJ:=by
 refine⟨by decide +kernel,by decide +kernel,by decide +kernel,rfl,fun X ds z l o hc h _=>.inl ⟨"isinstance", by decide +kernel,?_⟩⟩
 unfold wJ at h
 split at h
 ·rename_i m ns es n
  split at h
  ·rename_i hmn
   subst hmn
   cases h
   have cr:dH X (.builtin "isinstance") (fun xs H Q => ∃a C dx fs,xs=[.ref a,.ref C]/\H a=some (.ins C dx fs)/\dR X.K C/\nS X.K C/\Q (.bl true) H):=by
    intro pins s σ H xs us Q I r hh
    obtain⟨a,C,dx,fs,rfl,ea,hc,ho,q⟩:=hh
    obtain⟨u,u2,rfl,ru,ru2⟩:=nB r
    cases (show u2=Value.ref C from ru2)
    exact mZ I ru (.ins ea hc ho.ha ho.hn ho.ht ho.hm) (rh _) fun tk=>⟨.bl true,H,I.tok tk,rfl,q⟩
   refine⟨_,cr,fun ow H0 H2 vs P Q o s rx q=>?_⟩
   rw[ah]at rx
   obtain⟨v,r,rfl,r1,r2⟩:=rx
   obtain⟨w,rfl,r3⟩:=r2.only
   rw[ae]at r1
   rw[ae]at r3
   obtain⟨_,_,a,C,dx,vs,rfl,h1,h2,h3,_⟩:=r1
   obtain⟨C',o',rfl,h4,_,_,h5,_⟩:=r3
   rw[h1]at h4;cases h4
   exact⟨a,C,dx,_,rfl,h3,h2,h5,q _ _ (ao.refl _) (by rw[ae])⟩
  ·split at h
   ·rename_i hmn
    cases h
    have cr:dH X (.builtin "isinstance") (fun xs H Q => ∃a C C' dx fs,xs=[.ref a,.ref C']/\H a=some (.ins C dx fs)/\dR X.K C/\nS X.K C/\W.kitOne X.K (.ref C) (.ref C')=some (oh m n)/\Q (.bl (oh m n)) H):=by
     intro pins s σ H xs us Q I r hh
     obtain⟨a,C,C',dx,fs,rfl,ea,hc,ho,hk,q⟩:=hh
     obtain⟨u,u2,rfl,ru,ru2⟩:=nB r
     cases (show u2=Value.ref C' from ru2)
     exact mZ I ru (.ins ea hc ho.ha ho.hn ho.ht ho.hm) hk fun tk=>⟨.bl (oh m n),H,I.tok tk,rfl,q⟩
    refine⟨_,cr,fun ow H0 H2 vs P Q o s rx q=>?_⟩
    rw[ah]at rx
    obtain⟨v,r,rfl,r1,r2⟩:=rx
    obtain⟨w,rfl,r3⟩:=r2.only
    rw[ae]at r1
    rw[ae]at r3
    obtain⟨_,_,a,C,dx,vs,rfl,h1,h2,h3,_⟩:=r1
    obtain⟨C',o',rfl,_,_,_,_,h5⟩:=r3
    obtain⟨h6,h7⟩:=h5.all m hmn C h1
    exact⟨a,C,C',dx,_,rfl,h3,h2,h6,h7,q _ _ (ao.refl _) (by rw[ae])⟩
   ·cases h
 ·rename_i x T
  split at h
  ·rename_i hT
   split at h
   ·rename_i b hb
    cases h
    obtain⟨h1,h2⟩:=BO hb hT
    have cr:dH X (.builtin "isinstance") (fun xs H Q => ∃v P,xs=[v,.ty T]/\ae X.K H P x v/\Q (.bl b) H):=by
     intro pins s σ H xs us Q I r hh
     obtain⟨v,P,rfl,rp,q⟩:=hh
     obtain⟨u,u2,rfl,ru,ru2⟩:=nB r
     cases (show u2=Value.type T from ru2)
     exact BN h1 h2 I rp ru fun tk=>⟨.bl b,H,I.tok tk,rfl,q⟩
    refine⟨_,cr,fun ow H0 H2 vs P Q o s rx q=>?_⟩
    rw[ah]at rx
    obtain⟨v,r,rfl,r1,r2⟩:=rx
    obtain⟨w,rfl,r3⟩:=r2.only
    rw[ae]at r3;subst r3
    exact⟨v,P,rfl,r1,q _ _ (ao.refl _) (by rw[ae])⟩
   ·cases h
  ·cases h
 ·cases h
def gX(K:W.Frag)(F:List D->Rs D):Sp:=fun vs H Q _ => ∃ds r l,ah K H (fun _ _=>True) ds vs/\F ds=.ok r l/\ay l/\∀v H',ao H H'->ae K H' (fun a b=>b=true/\H a=none) r v->Q v H'
def yc(X:Cx)(g:Str)(F:List D->Rs D):Prop:=∃k f fd ps,be X.prog X.w X.K X.mg X.base cI k f fd ps (gX X.K F)/\bc k X.A/\X.mg g=some (.ref f)/\W.keepIn X.K (.ref f)=true/\bf X.K fd ps []/\(g==("__debug__" : Str))=false
def Ew(K:W.Frag)(n:Str)(F:List D->Rs D):Sp:=fun vs H Q _ => ∃x ws C dx ds r l,vs=.ref x::ws/\H x=some (.ins C dx [])/\W.nsIn K mainGlobals n=some (some (.ref C))/\dR K C/\ah K H (fun _ _=>True) ds ws/\F ds=.ok r l/\ay l/\r.lless=true /\
 ∀H',(∀a o,a≠x->H a=some o->H' a=some o)->ae K H' (fun _ _=>True) r (.ref x)->Q .non H'
def Dd(X:Cx)(g:Str)(F:List D->Rs D):Prop:=∃k C f fd ps,(∀ds r l,F ds=.ok r l->r.lless=true)/\Mk X.K C f/\be X.prog X.w X.K X.mg X.base cI k f fd ps (Ew X.K g F)/\bc (k+1) X.A/\X.mg g=some (.ref C)/\W.nsIn X.K mainGlobals g=some (some (.ref C))/\dR X.K C/\bf X.K fd ps []/\(g==("__debug__" : Str))=false
def GH(X:Cx)(g:Str)(F:List D->Rs D):Prop:=yc X g F\/Dd X g F
def De(X:Cx)(n m:Str)(F:List D->Rs D):Prop:=∃k C f fd ps,W.nsIn X.K mainGlobals n=some (some (.ref C))/\dR X.K C/\qc X.K C m f/\be X.prog X.w X.K X.mg X.base cI k f fd ps (gX X.K F)/\bc k X.A/\bf X.K fd ps []
def lw(f:Str)(B:List D->Nat->R1):Prop:=f∈fH/\∀(X:Cx) (ρ:ac) (p pos:Pos) (args:List Expr) (ds:List D) (k:Nat) (d:D) (j:Nat) (l:List D) (tg:Expr) (o:List Prop),X.calm=true->Gl X f->X.mg f=none->AD X ρ args ds k ->
 (∀e∈args,∀x p,e ≠ .Starred x p)->args.length=ds.length->B ds k=.ok (d,j) o->ay o->items d=some l->dS (.Call (.Name f p) args [] pos) tg=true->IE X ρ tg (.Call (.Name f p) args [] pos) l j
def tj(m:Str)(M:D->List D->R1):Prop:=∀(X:Cx) (ρ:ac) (a:Expr) (args:List Expr) (ap cp:Pos) (x:D) (k:Nat) (ds:List D) (j:Nat) (z:D) (l:Nat) (o:List Prop),X.calm=true->X.A.units+70<cLine->ED X ρ a x k->AD X ρ args ds j ->
 (∀e∈args,∀x p,e ≠ .Starred x p)->args.length=ds.length->(ap.endLine==cp.line)=true->gB a=true->M x ds=.ok (z,l) o->ay o->ED X ρ (.Call (.Attribute a m ap) args [] cp) z l
def gT(m:Str)(M:List D->List D->Nat->Rs (List D)):Prop:=∀X:Cx,X.calm=true->∃(id:String) (r:V->List V->Hp->VK->Prop),Slot "list" m id/\typeOf (.builtin id)=pure (.type "method_descriptor")/\x8 X id r /\
 ∀(ow:Ow) (H0 H:Hp) (l ds l':List D) (j:Nat) (o:List Prop) (a:Addr) (vs ws:List V),M l ds j=.ok l' o->ay o->ds.length<29/\(∀(P:aQ) (Q:VK),(∀b c,Kp ow H0 0 b c->P b c)->b7 ow H0->ao H0 H->H a=some (.lst vs)->ah X.K H P l vs->ah X.K H (Kp ow H0 j) ds ws ->
  (∀vs' w,ah X.K H P l' vs'->Q w (az H a (.lst vs')))->r (.ref a) ws H Q)
def GO(X:Cx)(ow:Ow)(ρ:ac)(o:Option Int):TO:=fun σ H Q=>ax X ow H σ ρ/\∀H',ao H H'->Q o H'
def OD(X:Cx)(ρ:ac)(e:Option Expr)(o:Option Int):Prop:=∀ow,PO X e (GO X ow ρ o)
def nP(F:D->Option Int->Option Int->R1):Prop:=∀(X:Cx) (ρ:ac) (a:Expr) (lo hi:Option Expr) (p2 pos:Pos) (x z:D) (l h:Option Int) (k j:Nat) (o:List Prop),ED X ρ a x k->OD X ρ lo l->OD X ρ hi h->F x l h=.ok (z,j) o->ay o->ED X ρ (.Subscript a (.Slice lo hi none p2) pos) z j
structure aG(Φ:Fx)(X:Cx)(sc:Scope):Prop where
 calm:X.calm=true
 nd:X.N.Nodup
 gl:∀x,sc.names.lookup x=some .globalImplicit->Gl X x
 kc:∀x,(sc.names.lookup x=some .cell\/sc.names.lookup x=some .free)->X.env.kindOf x=some .cell\/X.env.kindOf x=some .free
 lc:∀x,sc.names.lookup x=some .local->X.env.scope.names.lookup x=some .local
 cc:∀x,sc.names.lookup x=some .cell->X.env.scope.names.lookup x=some .cell
 fn:∀g F,Φ.fn g=some F->GH X g F
 con:∀x d,Φ.con x=some d->∃v u,X.mg x=some u/\aJ v u/\∀H P,ae X.K H P d v
 blt:∀f B,Φ.blt f=some B->fg f B
 itr:∀f B,Φ.itr f=some B->lw f B
 mth:∀m M,Φ.mth m=some M->tj m M
 mtt:∀m M,Φ.mtt m=some M->gT m M
 slf:nP Φ.slf
 fld:∀n f,Φ.fld n f=true->∀C,W.nsIn X.K mainGlobals n=some (some (.ref C))->lu X.K C f
 omt:∀n m F,Φ.omt n m=some F->De X n m F
 bl:∀f∈fH,X.mg f=none
 room:X.A.units+70<cLine
 ns:∀x,bD sc x=true->x∈X.N
 ft:∀x,sc.names.lookup x=some .cell->X.fn x=true
variable{X:Cx}
theorem cg(h:cW x=true):(x==("__debug__" : Str))=false/\(x==("__classdict__" : Str))=false:=by
 unfold cW at h
 rw[Bool.and_eq_true]at h
 exact⟨of_decide_eq_true h.1,of_decide_eq_true h.2⟩
theorem dZ{o:Bool}(h:ρ x=some (d,o))(hx:cW x=true):ED X ρ (.Name x pos) d (kn d (cond o 2 1)):=by
 refine ED.kn fun ow pins s σ H Q I ⟨E,q⟩=>?_
 obtain⟨i,v,e1,e2,e3,e4⟩:=E.get x d o h
 refine fw (i:=i) e1 e2 (cg hx).1 (cg hx).2 pins s σ H Q I ⟨v,e3,q v H (ao.refl _) (e4.imp fun a b p=>?_)⟩
 cases o with
 | true=>exact⟨p.1,.inl (by rw[p.2];exact(fun z=>nomatch z))⟩
 | false=>exact p
theorem Cr(G:aG Φ X sc)(h:Φ.con x=some d)(hg:sc.names.lookup x=some .globalImplicit)(hx:cW x=true):ED X ρ (.Name x pos) d 0:=by
 obtain⟨v,u,h1,h2,h3⟩:=G.con x d h
 exact fun ow=>aZ (yV (G.gl x hg) h1 h2 (cg hx).1) fun σ H Q ⟨E,q⟩=>q v H (ao.refl _) (h3 H _)
theorem yh(h:rN x=some T):bootBuiltins x=some (.type T)/\x ≠ "__name__" /\ (x==("__debug__" : Str))=false/\x∈fH:=by
 unfold rN at h
 split at h
 ·rename_i e;subst e;cases h;exact⟨by decide +kernel,by decide +kernel,by decide +kernel,by decide +kernel⟩
 split at h
 ·rename_i e;subst e;cases h;exact⟨by decide +kernel,by decide +kernel,by decide +kernel,by decide +kernel⟩
 split at h
 ·rename_i e;subst e;cases h;exact⟨by decide +kernel,by decide +kernel,by decide +kernel,by decide +kernel⟩
 split at h
 ·rename_i e;subst e;cases h;exact⟨by decide +kernel,by decide +kernel,by decide +kernel,by decide +kernel⟩
 split at h
 ·rename_i e;subst e;cases h;exact⟨by decide +kernel,by decide +kernel,by decide +kernel,by decide +kernel⟩
 split at h
 ·rename_i e;subst e;cases h;exact⟨by decide +kernel,by decide +kernel,by decide +kernel,by decide +kernel⟩
 ·cases h
theorem Ck(G:aG Φ X sc)(h:rN x=some T)(hg:sc.names.lookup x=some .globalImplicit):ED X ρ (.Name x pos) (.typ T) 0:=by
 obtain⟨h1,h2,h3,h4⟩:=yh h
 exact fun ow=>aZ (yX (v:=.ty T) (G.gl x hg) (G.bl x h4) h1 rfl h2 h3) fun σ H Q ⟨E,q⟩=>q _ H (ao.refl _) (by rw[ae])
theorem Cq{c:Const}(h:xW c=some d):ED X ρ (.Constant c n pos) d 0:=by
 intro ow
 unfold xW at h
 split at h
 ·cases h;exact aZ A3 fun σ H Q ⟨E,q⟩=>q _ H (ao.refl _) (by rw[ae])
 ·cases h;exact aZ DE fun σ H Q ⟨E,q⟩=>q _ H (ao.refl _) (by rw[ae])
 ·cases h;exact aZ A5 fun σ H Q ⟨E,q⟩=>q _ H (ao.refl _) (by rw[ae])
 ·cases h;exact aZ A0 fun σ H Q ⟨E,q⟩=>q _ H (ao.refl _) (by rw[ae])
 ·cases h
theorem Cu{b:Expr}{op:Operator}{x:D}{l:Nat}(ha:ED X ρ a x k)(hb:ED X ρ b y j)(h:pQ op x y k j=.ok (z,l) o)(hp:ay o):ED X ρ (.BinOp a op b pos) z l:=by
 obtain⟨r,h1,h2⟩:=CS (X:=X) h hp
 refine fun ow=>aZ (DD h1 (ha ow) (hb ow)) fun σ H Q ⟨E,q⟩=>⟨E,fun v H1 s1 r1=>⟨E.same s1,fun u H2 s2 r2=>?_⟩⟩
 exact h2 ow H H2 v u Q E.own (s1.trans s2) (r1.same s2) (r2.imp (Kp.back s1 j)) fun w H' s3 r3=>q w H' ((s1.trans s2).trans s3) r3
theorem D7{op:UnaryOp}{x:D}(ha:ED X ρ a x k)(h:tu op x=some z):ED X ρ (.UnaryOp op a pos) z 0:=by
 unfold tu at h
 split at h
 ·cases h
  refine fun ow=>aZ (DC Af (ha ow)) fun σ H Q ⟨E,q⟩=>⟨E,fun v H1 s1 r1=>?_⟩
  rw[ae]at r1;subst r1
  exact⟨_,rfl,q _ H1 s1 (by rw[ae])⟩
 ·cases h
  refine fun ow=>aZ (A2 (ha ow)) fun σ H Q ⟨E,q⟩=>⟨E,fun v H1 s1 r1=>?_⟩
  rw[ae]at r1;subst r1
  exact⟨_,rfl,q _ H1 s1 (by rw[ae])⟩
 ·cases h
theorem Cs{b:Expr}{x:D}(hu:X.A.units+70<cLine)(ha:ED X ρ a x k)(hb:ED X ρ b y j)(h:iF op x y=.ok r o)(hp:ay o)(hm:behindInMarks op b=false):ED X ρ (.Compare a [op] [b] pos) (.bl r) 0:=by
 have c:=gA hu h hp
 intro ow pins s σ H Q I ⟨E,q⟩
 refine wpAny_Compare1 (EE (ha ow) (hb ow) I (R:=fun v u H2=>ao H H2/\ae X.K H2 (fun _ _=>True) x v/\ae X.K H2 (fun _ _=>True) y u) ⟨E,fun v H1 s1 r1=>⟨E.same s1,fun u H2 s2 r2=>⟨s1.trans s2,(r1.imp fun _ _ _=>True.intro).same s2,r2.imp fun _ _ _=>True.intro⟩⟩⟩ fun v u s2 x y H2 I2 rx ry ⟨sm,r1,r2⟩=>?_) hm
 exact c _ _ pins s2 σ H2 x y v u Q I2 rx ry ⟨r1,r2,q _ H2 sm (by rw[ae])⟩
theorem zO{x:D}{r:D×Nat}(h:CC op op2 x y z=.ok r l):∃a b c r1 r2,x=.int a/\y=.int b/\z=.int c/\d5 op a b=some r1/\d5 op2 b c=some r2/\r=(.bl (r1&&r2),0):=by
 unfold CC at h
 split at h
 ·split at h
  ·rename_i h1 h2;cases h;exact⟨_,_,_,_,_,rfl,rfl,rfl,h1,h2,rfl⟩
  ·cases h
 ·cases h
theorem lj{a b:Int}(h:d5 op a b=some r):iF op (.int a) (.int b)=.ok r []:=by
 unfold d5 at h
 split at h<;>first|(cases h;rfl)|cases h
theorem wB{b:Expr}{x y z:Int}(hu:X.A.units+70<cLine)(ha:ED X ρ a (.int x) k)(hb:ED X ρ b (.int y) j)(hc:ED X ρ c (.int z) i)(h:d5 op x y=some r)(h2:d5 op2 y z=some r2)(hm:behindInMarks op2 c=false):ED X ρ (.Compare a [op,op2] [b,c] pos) (.bl (r&&r2)) 0:=by
 have c1:=gA (X:=X) hu (lj h) (show ay []from True.intro)
 have c2:=gA (X:=X) hu (lj h2) (show ay []from True.intro)
 refine fun ow=>aZ (wa (c1 (fun _ _=>True) (fun _ _=>True)) (c2 (fun _ _=>True) (fun _ _=>True)) (ha ow) (hb ow) (hc ow) hm) fun σ H Q ⟨E,q⟩=>⟨E,fun v H1 s1 r1=>⟨E.same s1,fun u H2 s2 r2=>?_⟩⟩
 rw[ae]at r1 r2
 subst r1 r2
 refine⟨by rw[ae],by rw[ae],r,rfl,?_⟩
 cases r with
 | false=>exact q _ H2 (s1.trans s2) (by rw[ae];rfl)
 | true =>
  rw[if_pos rfl]
  refine⟨(E.same s1).same s2,fun w H3 s3 r3=>?_⟩
  rw[ae]at r3
  subst r3
  exact⟨by rw[ae],by rw[ae],q _ H3 ((s1.trans s2).trans s3) (by rw[ae];rfl)⟩
theorem Dj(h:ED X ρ e (.bl b) k)(he:∀whole,isTrue e X.env whole=(do let v <- whole;standAt e.pos;holding [v] (truthy v))):TD X ρ e b :=
 fun ow=>s0 (AR (h ow) he) fun σ H Q ⟨E,q⟩=>⟨E,fun v H1 s1 r1=>by rw[ae]at r1;exact⟨b,r1,q H1 s1⟩⟩
theorem dB:AD X ρ [] [] 0:=fun ow=>x4 Bc fun σ H Q ⟨E,q⟩=>q [] H (ao.refl _) ah.nil
theorem cV(h1:ED X ρ e d k)(h2:AD X ρ es ds j)(hs:starEach (e::es) X.env=(false,eval e X.env)::starEach es X.env):AD X ρ (e::es) (d::ds) (kj k j) :=
 fun ow=>x4 (y0 (h1 ow) (h2 ow) hs) fun σ H Q ⟨E,q⟩=>⟨E,fun v H1 s1 r1=>⟨E.same s1,fun vs H2 s2 r2=>q _ H2 (s1.trans s2) (ah.cons ((r1.imp (Kp.joinL E.own k j)).same s2) (r2.imp fun a b p=>Kp.joinR E.own k j a b (Kp.back s1 j a b p)))⟩⟩
theorem wA(h:AD X ρ es ds k)(hl:ds.length<=bh):ED X ρ (.Tuple es n pos) (.tup ds) (kn (.tup ds) k):=by
 refine ED.kn fun ow=>aZ (AZ (h ow)) fun σ H Q ⟨E,q⟩=>⟨E,fun vs H1 s1 r1=>⟨by rw[<- r1.length];exact Nat.le_trans hl bP,fun p hp=>?_⟩⟩
 have sm:=cM (o:=HO.tup vs) hp
 refine q _ _ (s1.trans sm) ?_
 rw[ae]
 exact⟨p,vs,rfl,bg.of aD,r1.same sm⟩
theorem Co:ED X ρ (.Dict [] [] pos) (.dct [] []) 0:=by
 intro ow pins s σ H Q I ⟨E,q⟩
 refine wpAny_Dict_empty ⟨.ref s.heap.objs.size,_,I.laid (t':=s.toks) (o:=.dK []) (fun b ob q=>Heap.get?_push_of_some _ q) (Nat.le_refl _) ?_,rfl,q _ _ (cM (I.hok.fresh (Nat.le_refl _))) ?_⟩
 ·exact⟨Nat.zero_le _,beq_eq_false_iff_ne.mpr (Nat.ne_of_gt (modules_low I.nolimit)),[],.nil,Heap.DictOf.new _⟩
 ·rw[ae];exact⟨rfl,rfl,_,[],rfl,aD,⟨rfl,I.hok.fresh (Nat.le_refl _)⟩,ah.nil⟩
theorem mw(h:AD X ρ es ds k)(hk:k<=1)(hl:ds.length<=bh):ED X ρ (.List es pos) (.lst ds) k:=by
 refine fun ow=>aZ (A4 (h ow)) fun σ H Q ⟨E,q⟩=>⟨E,fun vs H1 s1 r1=>⟨by rw[<- r1.length];exact Nat.le_trans hl bP,fun p hp=>?_⟩⟩
 have sm:=cM (o:=HO.lst vs) hp
 refine q _ _ (s1.trans sm) ?_
 rw[ae]
 exact⟨p,vs,true,rfl,aD,uI E.own (s1.free hp) hk,r1.same sm⟩
theorem xT{b:Expr}(hc:TD X ρ c t)(h:if t=true then ED X ρ a d k else ED X ρ b d k):ED X ρ (.IfExp c a b pos) d k:=by
 cases t with
 | true =>
  intro ow pins s σ H Q I ⟨E,q⟩
  refine PyProof.Rows.IfExp_ (aH (hc ow pins s σ H (fun t H1=>t=true/\ao H H1) I ⟨E,fun H1 s1=>⟨rfl,s1⟩⟩) fun t s1 ⟨H1,I1,e1,s1'⟩=>?_)
  subst e1
  exact h ow pins s1 σ H1 Q I1 ⟨E.same s1',fun v H2 s2 r2=>q v H2 (s1'.trans s2) (r2.imp (Kp.back s1' k))⟩
 | false =>
  intro ow pins s σ H Q I ⟨E,q⟩
  refine PyProof.Rows.IfExp_ (aH (hc ow pins s σ H (fun t H1=>t=false/\ao H H1) I ⟨E,fun H1 s1=>⟨rfl,s1⟩⟩) fun t s1 ⟨H1,I1,e1,s1'⟩=>?_)
  subst e1
  exact h ow pins s1 σ H1 Q I1 ⟨E.same s1',fun v H2 s2 r2=>q v H2 (s1'.trans s2) (r2.imp (Kp.back s1' k))⟩
variable{X:Cx}
theorem ah.atI{l:List D}{i:Int}(h:ah K H P l vs)(e:L2.atI l i=some d):∃v,L2.atI vs i=some v/\ae K H P d v:=by
 unfold L2.atI at e⊢
 rw[<- h.length]
 cases q:gZ l.length i with
 | none=>rw[q]at e;cases e
 | some j=>rw[q]at e;exact h.get e
theorem Ea{b:Expr}{x:D}{i:Int}{l:Nat}(ha:ED X ρ a x k)(hb:ED X ρ b (.int i) j)(hs:d9 b)(h:o5 x i k=.ok (z,l) o):ED X ρ (.Subscript a b pos) z l:=by
 unfold o5 at h
 split at h
 ·rename_i m e0
  split at h
  ·rename_i d e
   unfold mk at h
   cases h
   rcases gG e0 with rfl|rfl
   ·refine ED.kn fun ow=>aZ (nE BK (ha ow) (hb ow) hs) fun σ H Q ⟨E,q⟩=>⟨E,fun v H1 s1 r1=>⟨E.same s1,fun u H2 s2 r2=>?_⟩⟩
    obtain⟨p,vs,rfl,hq,rl⟩:=hZ (r1.same s2)
    rw[ae]at r2;subst r2
    obtain⟨w,h1,h2⟩:=rl.atI e
    exact⟨p,vs,i,w,rfl,rfl,hq,h1,q w H2 (s1.trans s2) h2⟩
   ·refine ED.kn fun ow=>aZ (nE zq (ha ow) (hb ow) hs) fun σ H Q ⟨E,q⟩=>⟨E,fun v H1 s1 r1=>⟨E.same s1,fun u H2 s2 r2=>?_⟩⟩
    obtain⟨p,vs,rfl,hq,rl⟩:=ka (r1.same s2)
    rw[ae]at r2;subst r2
    obtain⟨w,h1,h2⟩:=rl.atI e
    exact⟨p,vs,i,w,rfl,rfl,hq,h1,q w H2 (s1.trans s2) h2⟩
  ·cases h
 ·cases h
def Fz:R2:=fun x y H Q => ∃p kvs k v,x=.ref p/\y=kV k/\H p=some (.dK kvs)/\bU kvs k=some v/\Q v H
theorem zt:vH X Fz:=by
 intro value slice pins s σ H x y v u Q I rx ry h hs
 obtain⟨p,kvs,k,z,rfl,rfl,hq,he,q⟩:=h
 cases rx
 obtain⟨_,hd,vs,bt,dd⟩:=(show aR X.prog X.w H s.heap p (.dK kvs)from I.hok p _ hq)
 obtain⟨w,hw,rw'⟩:=cS.some_of (v:=z) (o:=valueAt vs k) (by rw[<- he];exact bt.val k)
 exact subscriptTail_builtinR (x:=w) dd.typeIs PySem.F.slot_dict_getitem.lookup (wpAny_getItem_of (Q:=fun r s'=>r=w/\EP X pins σ Q r s') (i8 ry) dd.mapOf hw ⟨rfl,z,H,I.tok _,rw',q⟩) hs
theorem pE{K:W.Frag}{P:aQ}{H:Hp}{k:aV}{d:D}:∀{ks:List aV} {ds:List D} {vs:List V},ah K H P ds vs->pF ks ds k=some d->∃v,bU (ks.zip vs) k=some v/\ae K H P d v/\d∈ds
 | [],ds,vs,_,e=>by cases e
 | j::ks,[],vs,_,e=>by cases e
 | j::ks,x::ds,vs,h,e=>by
  rw[ah]at h
  obtain⟨v,r,rfl,h1,h2⟩:=h
  by_cases hj:j=k
  ·have e':some x=some d:=by rw[<- e];simp[pF,List.find?_cons,hj]
   cases e'
   exact⟨v,dj hj,h1,List.mem_cons_self⟩
  ·have e':pF ks ds k=some d:=by rw[<- e];simp[pF,List.find?_cons,hj]
   obtain⟨w,g1,g2,g3⟩:=pE h2 e'
   exact⟨w,(dk hj).trans g1,g2,List.mem_cons_of_mem _ g3⟩
theorem iu:∀{l:List D} {d:D},aq l=true->d∈l->d.lless=true
 | x::l,d,h,m=>by
  rw[aq,Bool.and_eq_true]at h
  rcases List.mem_cons.mp m with rfl|m
  ·exact h.1
  ·exact iu h.2 m
theorem Cl{b:Expr}{p q r:D×Nat}(ha:ED X ρ a p.1 p.2)(hb:ED X ρ b q.1 q.2)(hs:d9 b)(h:jE p q=.ok r o):ED X ρ (.Subscript a b pos) r.1 r.2:=by
 obtain⟨z,k⟩:=p
 unfold jE at h
 split at h
 ·rename_i ks ds e0
  have e0:z=_:=e0
  subst e0
  split at h
  ·rename_i key e
   split at h
   ·rename_i d e2
    cases h
    refine fun ow=>aZ (nE zt (ha ow) (hb ow) hs) fun σ H Q ⟨E,qq⟩=>⟨E,fun v H1 s1 r1=>⟨E.same s1,fun u H2 s2 r2=>?_⟩⟩
    have r1':=r1.same s2
    rw[ae]at r1'
    obtain⟨f,e1,p,vs,rfl,hq,_,rl⟩:=r1'
    have hk:=jQ (X:=X) e r2
    obtain⟨w,g1,g2,g3⟩:=pE rl e2
    exact⟨p,_,key,w,rfl,hk,hq,g1,qq w H2 (s1.trans s2) (g2.flat _ (iu f g3))⟩
   ·cases h
  ·cases h
 ·unfold gL at h
  split at h
  ·rename_i j hj
   rw[hj]at hb
   exact Ea ha hb hs h
  ·cases h
theorem x3{e:Option Expr}{t t':TO}(h:PO X e t)(i:∀σ H Q,t' σ H Q->t σ H Q):PO X e t':=fun pins s σ H Q I q=>h pins s σ H Q I (i σ H Q q)
theorem zd:OD X ρ none none:=fun ow=>x3 yR fun σ H Q ⟨E,q⟩=>q H (ao.refl _)
theorem zc{i:Int}(h:ED X ρ e (.int i) k):OD X ρ (some e) (some i):=fun ow=>x3 (yQ (h ow)) fun σ H Q ⟨E,q⟩=>⟨E,fun v H1 s1 r1=>by rw[ae]at r1;exact⟨i,r1,q H1 s1⟩⟩
theorem ah.cut{l:List D}{lo hi:Option Int}(h:ah K H P l vs):ah K H P (wD l lo hi) (Cz vs lo hi):=by
 unfold wD Cz
 rw[<- h.length]
 exact(h.drop _).take _
theorem cx:nP fU:=fun X ρ a lo hi p2 pos x z l h k j o ha hl hh e hp=>by cases e
theorem bd{env:Env}{pos:Pos}:∀{es:List Expr},(∀e∈es,∀x p,e ≠ .Starred x p)->(backTo pos (starEach es env)).any (·.1)=false
 | [],_=>rfl
 | e::es,h=>by
  have ih:=bd (env:=env) (es:=es) (pos:=pos) fun x hx=>h x (List.mem_cons_of_mem _ hx)
  have he:=h e List.mem_cons_self
  cases e<;>first|exact absurd rfl (he _ _)|exact ih
theorem aE(h:∀x p,e ≠ .Starred x p):starEach (e::es) env=(false,eval e env)::starEach es env:=by
 cases e<;>first|exact absurd rfl (h _ _)|rfl
theorem wC{r:D}(G:aG Φ X sc)(hf:yc X f F)(hg:sc.names.lookup f=some .globalImplicit)
  (ha:AD X ρ args ds k) (hst:∀e∈args,∀x p,e ≠ .Starred x p) (hnil:args=[]->ds=[]) (h:F ds=.ok r o) (hp:ay o):ED X ρ (.Call (.Name f p) args [] pos) r 0:=by
 obtain⟨n,fa,fd,ps,hF,hr,hm,hk,hb,hd⟩:=hf
 intro ow
 cases args with
 | nil =>
  refine aZ (wc hF hr (G.gl f hg) hm hk hb .nil gI hd) fun σ H Q ⟨E,q⟩=>?_
  have hds:=hnil rfl
  subst hds
  exact⟨[],r,o,ah.nil,h,hp,fun v H' s1 r1=>q v H' s1 r1⟩
 | cons e es =>
  refine aZ (yW hF hr (G.gl f hg) hm hk hb .nil gI (ha ow) hd (aE (hst e List.mem_cons_self)) (bd fun x hx=>hst x (List.mem_cons_of_mem _ hx))) fun σ H Q ⟨E,q⟩=>⟨E,fun vs H1 s1 r1=>?_⟩
  refine⟨ds,r,o,by rw[List.append_nil];exact r1.imp fun _ _ _=>True.intro,h,hp,fun v H' s2 r2=>q v H' (s1.trans s2) (r2.imp fun a b p=>⟨p.1,s1.free p.2⟩)⟩
theorem eL{x dx C:Addr}(hx:H x=none)(hd:H dx=none):ao H (az (az H dx (.own x)) x (.ins C dx [])):=fun a o h=>by
 rw[al (fun z=>by subst z;rw[hx]at h;cases h),al (fun z=>by subst z;rw[hd]at h;cases h)]
 exact h
theorem zH{r:D}(G:aG Φ X sc)(hf:Dd X f F)(hg:sc.names.lookup f=some .globalImplicit)
  (ha:AD X ρ args ds k) (hst:∀e∈args,∀x p,e ≠ .Starred x p) (hnil:args=[]->ds=[]) (h:F ds=.ok r o) (hp:ay o):ED X ρ (.Call (.Name f p) args [] pos) r 0:=by
 obtain⟨n,C,fa,fd,ps,hfl,hM,hF,hr,hm,hns,hc,hb,hd⟩:=hf
 have hl:=hfl ds r o h
 intro ow
 cases args with
 | nil =>
  refine aZ (v9 hM hF hr (G.gl f hg) hm hb .nil gI hd) fun σ H Q ⟨E,q⟩=>?_
  have hds:=hnil rfl
  subst hds
  intro x dx hx hdx ne
  refine⟨x,[],C,dx,[],r,o,rfl,aD,hns,hc,ah.nil,h,hp,hl,fun H' kp rr=>⟨rfl,q _ H' (fun a ob ha=>?_) (rr.flat _ hl)⟩⟩
  exact kp a ob (fun z=>by subst z;rw[hx]at ha;cases ha) (eL hx hdx a ob ha)
 | cons e es =>
  refine aZ (yU hM hF hr (G.gl f hg) hm hb .nil gI (ha ow) hd (aE (hst e List.mem_cons_self)) (bd fun x hx=>hst x (List.mem_cons_of_mem _ hx))) fun σ H Q ⟨E,q⟩=>⟨E,fun vs H1 s1 r1=>?_⟩
  intro x dx hx hdx ne
  refine⟨x,vs++[],C,dx,ds,r,o,rfl,aD,hns,hc,by rw[List.append_nil];exact(r1.same (eL hx hdx)).imp fun _ _ _=>True.intro,h,hp,hl,fun H' kp rr=>⟨rfl,q _ H' (s1.trans fun a ob ha=>?_) (rr.flat _ hl)⟩⟩
  exact kp a ob (fun z=>by subst z;rw[hx]at ha;cases ha) (eL hx hdx a ob ha)
theorem zJ{r:D}(G:aG Φ X sc)(hf:Φ.fn f=some F)(hg:sc.names.lookup f=some .globalImplicit)
  (ha:AD X ρ args ds k) (hst:∀e∈args,∀x p,e ≠ .Starred x p) (hnil:args=[]->ds=[]) (h:F ds=.ok r o) (hp:ay o):ED X ρ (.Call (.Name f p) args [] pos) r 0:=by
 rcases G.fn f F hf with z|z
 ·exact wC G z hg ha hst hnil h hp
 ·exact zH G z hg ha hst hnil h hp
theorem DY{o:Expr}{name:Str}{apos:Pos}(hb:attributeBase o name env (eval o env)=eval o env)(hf:methodCallForm (args.length+([]:List Keyword).length) (backTo pos (starEach args env)) (backToKw pos (keywordEach [] env))=true)
  (hl:(apos.endLine==pos.line)=true):eval (.Call (.Attribute o name apos) args [] pos) env=(do
   let ov <- eval o env
   standAt apos.atName
   let (f,first) <- holding [ov] (getMethod ov name (do return (<- importBound o env).getD true))
   callWith pos f first (backTo pos (starEach args env)) (backToKw pos (keywordEach [] env))):=by
 show(do
  let ov <- attributeBase o name env (eval o env)
  standAt apos.atName
  methodCall o name apos pos env ov (args.length+([]:List Keyword).length) (backTo pos (starEach args env)) (backToKw pos (keywordEach [] env)))=_
 rw[hb]
 unfold methodCall calleeOf methodCallPos
 rw[hf,hl]
 rfl
theorem fo{t:Sem Value}(h:gB a=true):attributeBase a m env t=t:=by
 unfold attributeBase
 split
 ·cases h
 ·rfl
theorem B6(hst:∀e∈args,∀x p,e ≠ .Starred x p)(hn:args.length<29):methodCallForm (args.length+([]:List Keyword).length) (backTo pos (starEach args env)) (backToKw pos (keywordEach [] env))=true:=by
 unfold methodCallForm
 have e1:(backTo pos (starEach args env)).all (fun x => !x.1)=true:=by
  have:=bd (env:=env) (pos:=pos) hst
  rw[List.all_eq_true]
  intro x hx
  have h2:¬ (backTo pos (starEach args env)).any (·.1)=true:=by rw[this];exact Bool.false_ne_true
  cases hb:x.1 with
  | false=>rfl
  | true=>exact absurd (List.any_eq_true.mpr ⟨x,hx,hb⟩) h2
 rw[e1]
 show(true&&true&&decide (args.length+0+0<30))=true
 simp;omega
theorem nV:ns.contains m=false->(ns.zip vs).lookup m=none:=by
 induction ns generalizing vs with
 | nil=>intro _;rfl
 | cons a ns ih =>
  intro h
  cases vs with
  | nil=>rfl
  | cons v vs =>
   rw[List.contains_cons,Bool.or_eq_false_iff]at h
   show List.lookup m ((a,v)::ns.zip vs)=none
   rw[List.lookup_cons,h.1]
   exact ih h.2
theorem ed_meth{n:Str}{es:List D}{r:D}(G:aG Φ X sc)(hf:Φ.omt n m=some F)(he:ED X ρ a (.obj n ns es) j)
  (ha:AD X ρ args ds k) (hst:∀e∈args,∀x p,e ≠ .Starred x p) (hlen:args.length=ds.length) (hn:ns.contains m=false) (hb:gB a=true) (hfew:ds.length<29) (hl:(ap.endLine==pos.line)=true) (h:F (.obj n ns es::ds)=.ok r o) (hp:ay o):ED X ρ (.Call (.Attribute a m ap) args [] pos) r 0:=by
 obtain⟨kk,C,fa,fd,ps,hns,hc,hm,hF,hr,hbd⟩:=G.omt n m F hf
 intro ow
 have ht:=DY (o:=a) (name:=m) (apos:=ap) (pos:=pos) (args:=args) (env:=X.env) (fo hb) (B6 hst (by omega)) hl
 cases args with
 | nil =>
  refine aZ (v8 (he ow) hc hm hF hr hbd .nil gI ht) fun σ H Q ⟨E,q⟩=>⟨E,fun v H1 s1 r1=>?_⟩
  have hds:ds=[]:=List.length_eq_zero_iff.mp hlen.symm
  subst hds
  have r0:=r1
  rw[ae]at r1
  obtain⟨f,e0,x,C',dx,vs,rfl,h1,h2,h3,r2⟩:=r1
  rw[hns]at h1;cases h1
  refine⟨x,dx,_,rfl,h3,nV hn,[.obj n ns es],r,o,ah.one (r0.imp fun _ _ _=>True.intro),h,hp,fun v H' s2 r2=>q v H' (s1.trans s2) (r2.imp fun a b p=>⟨p.1,s1.free p.2⟩)⟩
 | cons e es' =>
  refine aZ (yT (he ow) hc hm hF hr hbd .nil gI (ha ow) (aE (hst e List.mem_cons_self)) (bd fun x hx=>hst x (List.mem_cons_of_mem _ hx)) ht) fun σ H Q ⟨E,q⟩=>⟨E,fun v H1 s1 r1=>?_⟩
  have r0:=r1
  rw[ae]at r1
  obtain⟨f,e0,x,C',dx,vs,rfl,h1,h2,h3,r2⟩:=r1
  rw[hns]at h1;cases h1
  refine⟨x,dx,_,rfl,h3,nV hn,E.same s1,fun ws H2 s2 rw2=>?_⟩
  refine⟨.obj n ns es::ds,r,o,by rw[List.append_nil];exact ah.cons ((r0.same s2).imp fun _ _ _=>True.intro) (rw2.imp fun _ _ _=>True.intro),h,hp,fun v H' s3 r3=>q v H' ((s1.trans s2).trans s3) (r3.imp fun a b p=>⟨p.1,s1.free (s2.free p.2)⟩)⟩
theorem nW{K:W.Frag}{H:Hp}{P:aQ}{f:Str}{d:D}:∀{ns:List Str} {ds:List D} {vs:List V},ah K H P ds vs->(ns.zip ds).lookup f=some d->∃v,(ns.zip vs).lookup f=some v/\ae K H P d v/\(aq ds=true->d.lless=true)
 | [],ds,vs,_,h=>by cases h
 | a::ns,[],vs,_,h=>by cases h
 | a::ns,e::ds,vs,r,h=>by
  rw[ah]at r
  obtain⟨v,ws,rfl,r1,r2⟩:=r
  replace h:List.lookup f ((a,e)::ns.zip ds)=some d:=h
  show ∃u,List.lookup f ((a,v)::ns.zip ws)=some u/\_
  rw[List.lookup_cons]at h⊢
  cases hb:f==a with
  | true =>
   rw[hb]at h;cases h
   exact⟨v,rfl,r1,fun z=>by rw[aq,Bool.and_eq_true]at z;exact z.1⟩
  | false =>
   rw[hb]at h
   obtain⟨u,u1,u2,u3⟩:=nW r2 h
   exact⟨u,u1,u2,fun z=>by rw[aq,Bool.and_eq_true]at z;exact u3 z.2⟩
theorem ed_fld{n:Str}(G:aG Φ X sc)(hf:Φ.fld n f=true)(he:ED X ρ a (.obj n ns ds) j)(hb:gB a=true)(h:(ns.zip ds).lookup f=some d):ED X ρ (.Attribute a f pos) d 0:=by
 intro ow
 refine aZ (A8 (he ow) (fo hb)) fun σ H Q ⟨E,q⟩=>⟨E,fun v H1 s1 r1=>?_⟩
 rw[ae]at r1
 obtain⟨fl,e0,x,C,dx,vs,rfl,h1,h2,h3,r2⟩:=r1
 obtain⟨u,u1,u2,u3⟩:=nW r2 h
 exact⟨x,C,dx,_,u,rfl,h3,h2,G.fld n f hf C h1,u1,q u H1 s1 (u2.flat _ (u3 fl))⟩
theorem ed_xfld{n p:Str}{i:Int}(he:ED X ρ a (.xc n (some (p,[(f,i)]))) j)(hb:gB a=true):ED X ρ (.Attribute a f pos) (.int i) 0:=by
 intro ow pins s σ H Q I ⟨E,q⟩
 refine rF (fo hb) (aH (he ow pins s σ H (fun v H'=>ao H H'/\gS X.K H' n (some (p,[(f,i)])) v) I ⟨E,fun v H' s1 r1=>⟨s1,by rw[ae]at r1;exact r1⟩⟩) fun u s1 ⟨v,H1,I1,rx,sm,x,C,S,od,e,h1,h2,h3,h4,h5,h6⟩=>?_)
 subst e
 obtain rfl:u=Value.ref x:=rx
 obtain⟨dx,rfl,hdx⟩:=h5 f i rfl
 obtain⟨o,vs,e1,e2,e3,e4⟩:=(show aR X.prog X.w H1 s1.heap x (g8 x C (some dx))from I1.hok x _ h4).1
 obtain⟨mA,hn,hr⟩:=(show aR X.prog X.w H1 s1.heap dx (.xd [(f,.int i)])from I1.hok dx _ hdx)
 obtain⟨u,hu,ru⟩:=cS.some_of (v:=.int i) (o:=mA f) (by have:=hr f;rw[List.lookup_cons,beq_self_eq_true]at this;exact this)
 obtain⟨nm,qn,N,bs,hdct,sn,sub,ab,col,dd,k0,k1,k2,k3,k5,mN,g1,g2,g3,g4⟩:=dY h3.ex I1.kIn
 exact zA h3.ga h3.gt (h6 f i rfl).no (h6 f i rfl).di I1.kIn e1 e2 e4 e3 hn hu (m7 ru) g1 g4 ⟨.int i,H1,I1.tok _,ru,q _ _ sm (by rw[ae])⟩
theorem Ct{l:Nat}(G:aG Φ X sc)(hB:fg f B)(hg:sc.names.lookup f=some .globalImplicit)
  (ha:AD X ρ (e::es) ds k) (hst:∀x∈e::es,∀y p,x ≠ .Starred y p) (h:B ds=.ok (z,l) o) (hp:ay o):ED X ρ (.Call (.Name f p) (e::es) [] pos) z l:=by
 obtain⟨h3,h1,h2,_,h4⟩:=hB
 have h4:=h4 X ds z l o G.calm h hp
 intro ow
 have n1:=aE (env:=X.env) (es:=es) (hst e List.mem_cons_self)
 have n2:(backTo pos (starEach es X.env)).any (·.1)=false:=bd fun x hx=>hst x (List.mem_cons_of_mem _ hx)
 rcases h4 with⟨id,e1,r,e2,e3⟩|⟨T,e1,r,e2,e3⟩
 ·refine aZ (wb e2 (G.gl f hg) (G.bl f h3) e1 (ha ow) h1 h2 n1 n2) fun σ H Q ⟨E,q⟩=>⟨E,fun vs H1 s1 r1=>?_⟩
  exact e3 ow H H1 vs _ Q E.own s1 r1 fun w H' s2 r2=>q w H' (s1.trans s2) r2
 ·refine aZ (uj e2 (G.gl f hg) (G.bl f h3) e1 (ha ow) h1 h2 n1 n2) fun σ H Q ⟨E,q⟩=>⟨E,fun vs H1 s1 r1=>?_⟩
  exact e3 ow H H1 vs _ Q E.own s1 r1 fun w H' s2 r2=>q w H' (s1.trans s2) r2
theorem ja{l:List D}(h:ED X ρ e (.lst l) k):IE X ρ tg e l k:=by
 intro ow pins s σ H R I ⟨E,q⟩
 refine yS (tg:=tg) (h ow) pins s σ H R I ⟨E,fun v H1 s1 r1=>?_⟩
 rw[ae]at r1
 obtain⟨a,vs,b,rfl,hl,hp,rl⟩:=r1
 have rl':ah X.K H1 (Kd ow H k H1) l vs:=rl.impH (fun a o ho p=>⟨p,fun _=>⟨o,ho⟩⟩) fun a p=>⟨p,fun z=>(by cases z)⟩
 have hp':Kd ow H k H1 a b:=⟨hp,fun hb=>by subst hb;exact⟨_,hl⟩⟩
 have sq:∀{H2:Hp},qd X.K H2 a vs b->bM X.K H2 a vs:=fun {H2} h=>h.sq
 refine⟨a,rfl,⟨vs,sq hl⟩,q _ H1 s1 fun i H2 st=>⟨fun d hd=>?_,fun hle=>?_⟩⟩
 ·have h2:=sq (st.ls hl hp')
  obtain⟨w,hw,rw'⟩:=rl'.get hd
  refine⟨⟨vs,w,h2,hw⟩,fun x H3 ⟨e3,y3⟩=>?_⟩
  subst e3
  have:=y3 vs h2
  rw[hw]at this;cases this
  exact⟨ao.refl _,rw'.mono st⟩
 ·exact⟨vs,sq (st.ls hl hp'),by rw[<- rl.length];exact hle⟩
theorem BS{l:List D}(h:ED X ρ e (.tup l) k):IE X ρ tg e l k:=by
 intro ow pins s σ H R I ⟨E,q⟩
 refine AW (tg:=tg) (h ow) pins s σ H R I ⟨E,fun v H1 s1 r1=>?_⟩
 rw[ae]at r1
 obtain⟨a,vs,rfl,hl,rl⟩:=r1
 have rl':ah X.K H1 (Kd ow H k H1) l vs:=rl.impH (fun a o ho p=>⟨p,fun _=>⟨o,ho⟩⟩) fun a p=>⟨p,fun z=>(by cases z)⟩
 refine⟨a,rfl,⟨vs,hl⟩,q _ H1 s1 fun i H2 st=>⟨fun d hd=>?_,fun hle=>?_⟩⟩
 ·have h2:=st.sq hl
  obtain⟨w,hw,rw'⟩:=rl'.get hd
  refine⟨⟨vs,w,h2,hw⟩,fun x H3 ⟨e3,y3⟩=>?_⟩
  subst e3
  have:=y3 vs h2
  rw[hw]at this;cases this
  exact⟨ao.refl _,rw'.mono st⟩
 ·exact⟨vs,st.sq hl,by rw[<- rl.length];exact hle⟩
def EL(x:Str):It:=⟨fun i _=>i<x.cps.size,fun i H v H'=>H'=H/\∃c,x.cps[i]?=some c/\v=.str ⟨#[c]⟩,fun i _=>x.cps.size<=i⟩
theorem vJ{P:Program}(x:Str)(t:Tok)(it:Addr):Turn P w K tg (EL x) [it] it (fun i h=>h.IsStrIter it "str_ascii_iterator" x t i) where
 mem:=by simp
 obj:=fun i h st b hb=>by
  have e:b=it:=by simpa using hb
  subst e
  obtain⟨o,e,c,d⟩:=st
  exact⟨o,e,fun v z=>by rw[d]at z;cases z⟩
 keep:=fun i h h' st k=>by
  obtain⟨o,e,c,d⟩:=st
  exact⟨o,k it (by simp) o e,c,d⟩
 item:=by
  intro X hP hw hK hc i pins s σ H E I hf st hg
  subst hP hw hK
  obtain⟨f0,f1,f2,f3,f4,f5⟩:=hf it (by simp)
  have hx:x.cps[i]?=some x.cps[i]:=Array.getElem?_eq_getElem hg
  refine wpAny_pyNext_ascii_item st hx fun h' st' sb=>?_
  have I1:ai X pins σ H { s with heap:=h',toks:=s.toks+1 }:=I.turned (t':=s.toks+1) (fun b o hb e=>(sb.2 b hb).trans e) f0 f1 f3 f4 f5
  obtain⟨o,e,c,d⟩:=id st'
  exact⟨_,rfl,jc (s:={ s with heap:=h',toks:=s.toks+1 }) e c d (by decide) ⟨.str ⟨#[x.cps[i]]⟩,H,I1,⟨_,rfl⟩,⟨rfl,_,hx,rfl⟩,st',fun b hb=>(hf b hb).1⟩⟩
 done:=by
  intro X hP hw hK hc i pins s σ H E I hf st hg
  subst hP hw hK
  obtain⟨f0,f1,f2,f3,f4,f5⟩:=hf it (by simp)
  exact wpAny_pyNext_ascii_end (I.ok.hd hc) st (Array.getElem?_eq_none hg) fun h' eb=>⟨rfl,I.turned (t':=s.toks) (fun b o hb e=>eb b o hb e) f0 f1 f3 f4 f5⟩
 self:=fun _ _ _ _ _ st h=>wpAny_pyIter_striter_ascii st h
theorem BT(h:ED X ρ e (.str x) k)(ha:(x.cps.all fun c=>decide (c<128))=true):IE X ρ tg e (xl x) k:=by
 intro ow pins s σ H R I ⟨E,q⟩
 refine aH (h ow pins s σ H _ I ⟨E,fun v H1 s1 r1=>(show(fun v H1=>ao H H1/\ae X.K H1 (Kp ow H k) (.str x) v) v H1 from⟨s1,r1⟩)⟩) fun v s1 ⟨y,H1,I1,bt,sm,rp⟩=>?_
 rw[ae]at rp;subst rp
 obtain⟨t,rfl⟩:=bt
 have ty:strIterType x = "str_ascii_iterator" := if_pos ha
 refine wpAny_pyIter_strU ?_
 rw[ty]
 refine⟨s1.heap.objs.size,[s1.heap.objs.size],_,EL x,H1,rfl,I1.kept (t':=s1.toks) fun b o e=>Heap.get?_push_of_some _ e,vJ x t _,⟨_,Heap.get?_push_size _ rfl,rfl,rfl⟩,fun b hb=>?_,q _ H1 sm fun i H2 st=>⟨fun d hd=>?_,fun hle=>?_⟩⟩
 ·have e:b=s1.heap.objs.size:=by simpa using hb
  subst e
  exact I1.fpOk (Nat.le_refl _) (I1.hok.fresh (Nat.le_refl _))
 ·unfold xl at hd
  rw[List.getElem?_map]at hd
  cases hc:x.cps.toList[i]? with
  | none=>rw[hc]at hd;cases hd
  | some c =>
   rw[hc]at hd;cases hd
   have hi:i<x.cps.size:=by simpa using (List.getElem?_eq_some_iff.mp hc).1
   refine⟨hi,fun z H3 ⟨e3,c',e4,e5⟩=>?_⟩
   subst e3 e5
   rw[Array.getElem?_toList]at hc
   rw[hc]at e4;cases e4
   exact⟨ao.refl _,by rw[ae]⟩
 ·unfold xl at hle
  rw[List.length_map,Array.length_toList]at hle
  exact hle
theorem DT{l:List D}(h:ED X ρ e d k)(hi:items d=some l):IE X ρ tg e l k:=by
 unfold items at hi
 split at hi
 ·cases hi;exact ja h
 ·cases hi;exact BS h
 ·split at hi
  ·rename_i ha;cases hi;exact BT h ha
  ·cases hi
 ·cases hi
theorem wu{j:Int}(hg:Gl X "range")(hm0:X.mg "range" = none)(ha:AD X ρ [a] [.int j] k)(hst:∀y p,a ≠ .Starred y p)(h1:-4611686018427387904<=j)(h2:j<=bh) :
  IE X ρ tg (.Call (.Name "range" p) [a] [] pos) ((List.range j.toNat).map fun i=>.int (i:Nat)) 0:=by
 intro ow pins s σ H R I ⟨E,q⟩
 refine uh (tg:=tg) hg hm0 (ha ow) (by rw[aE hst];rfl) pins s σ H R I ⟨E,fun vs H1 s1 r1=>?_⟩
 obtain⟨v,rfl,rv⟩:=r1.only
 rw[ae]at rv;subst rv
 have hm:(bh:Int)<2 ^ 62:=by decide
 refine⟨j,rfl,h1,by omega,q _ H1 s1 fun i H2 st=>⟨fun d hd=>?_,fun hle=>?_⟩⟩
 ·rw[List.getElem?_map]at hd
  cases e:(List.range j.toNat)[i]? with
  | none=>rw[e]at hd;cases hd
  | some n =>
   rw[e]at hd;cases hd
   obtain⟨hi,hn⟩:=List.getElem?_eq_some_iff.mp e
   rw[List.getElem_range]at hn
   subst hn
   rw[List.length_range]at hi
   refine⟨hi,fun x H3 ⟨e3,y3⟩=>?_⟩
   subst e3 y3
   exact⟨ao.refl _,by rw[ae,Int.zero_add]⟩
 ·rw[List.length_map,List.length_range]at hle
  exact hle
theorem uS{b:Expr}{j0 j:Int}(hg:Gl X "range")(hm0:X.mg "range" = none)(ha:AD X ρ [a,b] [.int j0,.int j] k)(hst:∀y p,a ≠ .Starred y p)(hst2:∀y p,b ≠ .Starred y p)(h1:-4611686018427387904<=j0)(h2:j0<=4611686018427387000)(h3:-4611686018427387904<=j)(h4:j-j0<=800) :
  IE X ρ tg (.Call (.Name "range" p) [a,b] [] pos) ((List.range (j-j0).toNat).map fun i=>.int (j0+(i:Nat))) 0:=by
 intro ow pins s σ H R I ⟨E,q⟩
 refine ug (tg:=tg) hg hm0 (ha ow) (by rw[aE hst,aE hst2];rfl) (by rw[aE hst2];rfl) pins s σ H R I ⟨E,fun vs H1 s1 r1=>?_⟩
 rw[ah]at r1
 obtain⟨v1,r,rfl,r2,r3⟩:=r1
 rw[ah]at r3
 obtain⟨v2,r',rfl,r4,r5⟩:=r3
 rw[ah]at r5
 rw[ae]at r2 r4
 subst r2 r4 r5
 refine⟨j0,j,rfl,⟨h1,by omega,h3,by omega⟩,q _ H1 s1 fun i H2 st=>⟨fun d hd=>?_,fun hle=>?_⟩⟩
 ·rw[List.getElem?_map]at hd
  cases e:(List.range (j-j0).toNat)[i]? with
  | none=>rw[e]at hd;cases hd
  | some n =>
   rw[e]at hd;cases hd
   obtain⟨hi,hn⟩:=List.getElem?_eq_some_iff.mp e
   rw[List.getElem_range]at hn
   subst hn
   rw[List.length_range]at hi
   refine⟨hi,fun x H3 ⟨e3,y3⟩=>?_⟩
   subst e3 y3
   exact⟨ao.refl _,by rw[ae]⟩
 ·rw[List.length_map,List.length_range]at hle
  exact hle
theorem uT:lw "range" o9:=by
 refine⟨by decide +kernel,fun X ρ p pos args ds k d j l tg o hc hg hm ha hst hlen h hp hl ht=>?_⟩
 unfold o9 at h
 split at h
 ·rename_i n
  cases h
  cases hl
  match args,hlen,ha,hst with
  | [a],_,ha,hst=>exact wu hg hm ha (hst a List.mem_cons_self) hp.1 hp.2.1
 ·rename_i m n
  cases h
  cases hl
  match args,hlen,ha,hst with
  | [a,b],_,ha,hst=>exact uS hg hm ha (hst a List.mem_cons_self) (hst b (List.mem_cons_of_mem _ List.mem_cons_self)) hp.1 hp.2.1 hp.2.2.1 hp.2.2.2.1
 ·cases h
variable{X:Cx}
theorem bq{y:D×Bool}(z:Str):aL ρ x y z=if z=x then some y else ρ z:=rfl
theorem cD{o:Bool}(hN:X.N.Nodup)(hl:σ.length=X.N.length)(E:ax X ow H σ ρ)(hi:X.N[i]?=some x)(hv:fL X.env.scope x)(r:ae X.K H (im ow x o) d v) :
  ax X ow H (σ.set i (some v)) (aL ρ x (d,o)):=by
 have hil:i<σ.length:=by rw[hl];exact(List.getElem?_eq_some_iff.mp hi).1
 refine⟨fun y e o' h=>?_,E.own⟩
 rw[bq]at h
 by_cases hy:y=x
 ·subst hy
  rw[if_pos rfl]at h
  cases h
  exact⟨i,v,hi,hv,by rw[List.getElem?_set_self hil],r⟩
 ·rw[if_neg hy]at h
  obtain⟨j,w,e1,e2,e3,e4⟩:=E.get y e o' h
  have hij:i≠j:=by intro z;subst z;rw[hi]at e1;cases e1;exact hy rfl
  exact⟨j,w,e1,e2,by rw[List.getElem?_set_ne hij];exact e3,e4⟩
theorem db(G:aG Φ X sc)(h:bD sc x=true):qe X.env.scope x/\fL X.env.scope x/\(X.fn x=true\/X.env.scope.names.lookup x=some .local)/\∃i:Nat,X.N[i]?=some x:=by
 have hx:=G.ns x h
 have hlt:=List.idxOf_lt_length_iff.mpr hx
 have hi:∃i:Nat,X.N[i]?=some x:=⟨X.N.idxOf x,by rw[List.getElem?_eq_getElem hlt,List.getElem_idxOf hlt]⟩
 unfold bD at h
 rw[Bool.or_eq_true]at h
 rcases h with h|h
 ·have h:=G.lc x (by simpa using h)
  exact⟨.inl h,.inl h,.inr h,hi⟩
 ·have h0:sc.names.lookup x=some .cell:=by simpa using h
  have h:=G.cc x h0
  exact⟨.inr h,.inr (.inl h),.inl (G.ft x h0),hi⟩
theorem il{Φ:Fx}{sc:Scope}(G:aG Φ X sc):∀{es:List Expr} {ds:List D} {ρ ρ':ac},aK sc es ds ρ=some ρ'->∃t,rK X es t/\(assignEach es X.env).length=ds.length/\(assignEach es X.env).findIdx? (·.1)=none /\
  ∀(ow:Ow) (vs:List V) (σ:L2.St) (H:Hp) (Q:L2.St->Hp->Prop),σ.length=X.N.length->ax X ow H σ ρ->ah X.K H (fun a b=>b=true->ow a=none) ds vs->(∀σ',σ'.length=X.N.length->ax X ow H σ' ρ'->Q σ' H)->t vs σ H Q
 | [],[],ρ,ρ',h=>by
  rw[aK]at h;cases h
  refine⟨_,qU,rfl,rfl,fun ow vs σ H Q hl E r q=>?_⟩
  rw[ah]at r
  exact⟨r,q σ hl E⟩
 | .Name x p::es,d::ds,ρ,ρ',h=>by
  rw[aK]at h
  split at h
  ·rename_i hx
   obtain⟨t,h1,h2,h3,h4⟩:=il G h
   obtain⟨g1,g2,g3,i,g4⟩:=db G hx
   refine⟨_,jN (fj (i:=i) G.nd g4 g1 g3) h1 rfl,?_,?_,fun ow vs σ H Q hl E r q=>?_⟩
   ·show(assignEach es X.env).length+1=ds.length+1
    rw[h2]
   ·show List.findIdx? (·.1) ((false,_)::assignEach es X.env)=none
    rw[List.findIdx?_cons,h3];rfl
   ·rw[ah]at r
    obtain⟨v,vr,rfl,r1,r2⟩:=r
    refine⟨v,vr,rfl,?_⟩
    exact h4 ow vr _ H Q (by rw[List.length_set];exact hl) (cD G.nd hl E g4 g2 r1) r2 q
  ·cases h
 | [],_::_,ρ,ρ',h=>by simp[aK]at h
 | .Name _ _::_,[],ρ,ρ',h=>by simp[aK]at h
 | .BoolOp .. :: _,ds,ρ,ρ',h=>by cases ds<;>simp[aK]at h
 | .NamedExpr .. :: _,ds,ρ,ρ',h=>by cases ds<;>simp[aK]at h
 | .BinOp .. :: _,ds,ρ,ρ',h=>by cases ds<;>simp[aK]at h
 | .UnaryOp .. :: _,ds,ρ,ρ',h=>by cases ds<;>simp[aK]at h
 | .Lambda .. :: _,ds,ρ,ρ',h=>by cases ds<;>simp[aK]at h
 | .IfExp .. :: _,ds,ρ,ρ',h=>by cases ds<;>simp[aK]at h
 | .Dict .. :: _,ds,ρ,ρ',h=>by cases ds<;>simp[aK]at h
 | .Set .. :: _,ds,ρ,ρ',h=>by cases ds<;>simp[aK]at h
 | .ListComp .. :: _,ds,ρ,ρ',h=>by cases ds<;>simp[aK]at h
 | .SetComp .. :: _,ds,ρ,ρ',h=>by cases ds<;>simp[aK]at h
 | .DictComp .. :: _,ds,ρ,ρ',h=>by cases ds<;>simp[aK]at h
 | .GeneratorExp .. :: _,ds,ρ,ρ',h=>by cases ds<;>simp[aK]at h
 | .Await .. :: _,ds,ρ,ρ',h=>by cases ds<;>simp[aK]at h
 | .Yield .. :: _,ds,ρ,ρ',h=>by cases ds<;>simp[aK]at h
 | .YieldFrom .. :: _,ds,ρ,ρ',h=>by cases ds<;>simp[aK]at h
 | .Compare .. :: _,ds,ρ,ρ',h=>by cases ds<;>simp[aK]at h
 | .Call .. :: _,ds,ρ,ρ',h=>by cases ds<;>simp[aK]at h
 | .FormattedValue .. :: _,ds,ρ,ρ',h=>by cases ds<;>simp[aK]at h
 | .JoinedStr .. :: _,ds,ρ,ρ',h=>by cases ds<;>simp[aK]at h
 | .Constant .. :: _,ds,ρ,ρ',h=>by cases ds<;>simp[aK]at h
 | .Attribute .. :: _,ds,ρ,ρ',h=>by cases ds<;>simp[aK]at h
 | .Subscript .. :: _,ds,ρ,ρ',h=>by cases ds<;>simp[aK]at h
 | .Starred .. :: _,ds,ρ,ρ',h=>by cases ds<;>simp[aK]at h
 | .List .. :: _,ds,ρ,ρ',h=>by cases ds<;>simp[aK]at h
 | .Tuple .. :: _,ds,ρ,ρ',h=>by cases ds<;>simp[aK]at h
 | .Slice .. :: _,ds,ρ,ρ',h=>by cases ds<;>simp[aK]at h
theorem kQ(G:aG Φ X sc)(h:bi sc tg d ρ=some ρ'):GD X ρ tg d ρ':=by
 unfold bi at h
 split at h
 ·split at h
  ·rename_i x p hx
   cases h
   obtain⟨g1,g2,g3,i,g4⟩:=db G hx
   exact⟨_,fj (i:=i) G.nd g4 g1 g3,fun ow v σ H Q hl E r q=>q _ (by rw[List.length_set];exact hl) (cD G.nd hl E g4 g2 r)⟩
  ·cases h
 ·split at h
  ·obtain⟨t,h1,h2,h3,h4⟩:=il G h
   refine⟨_,oJ (n:=_) G.calm h1 h2 h3,fun ow v σ H Q hl E r q=>?_⟩
   obtain⟨a,vs,rfl,hs,rl⟩:=hZ r
   exact⟨a,vs,rfl,hs,rl.length.symm,h4 ow vs σ H Q hl E rl q⟩
  ·cases h
 ·cases h
theorem rS
  (h:wpAny M A (isTrue c env (eval c env)) (fun b s'=>if b=true then wpAny M A (fB cs env) Q E s' else Q false s') E s):wpAny M A (fB (c::cs) env) Q E s:=by
 have no:∀(l:List Expr) (s:Shared),Q false s->wpAny M A (forIn l false fun c r=>if r=true then do let ok <- isTrue c env (eval c env);pure (ForInStep.yield ok)else pure (ForInStep.yield r)) Q E s:=by
  intro l
  induction l with
  | nil=>intro s h;exact wpAny_pure h
  | cons x l ih =>
   intro s h
   rw[List.forIn_cons]
   simp only[Bool.false_eq_true,if_false]
   exact wpAny_bind (wpAny_pure (ih s h))
 unfold fB
 rw[List.forIn_cons]
 simp only[if_true]
 refine wpAny_bind (wpAny_bind (wpAny_mono h (fun b s' hb=>wpAny_pure ?_) fun _ _ x=>x))
 cases b with
 | true=>exact hb
 | false=>exact no cs s' hb
theorem tF:vF X ρ [] true:=fun ow pins s σ H Q I ⟨E,q⟩=>wpAny_pure ⟨H,I,q H (ao.refl _)⟩
theorem lC{b':Bool}(h:TD X ρ c b)(h':if b=true then vF X ρ cs b' else b'=false):vF X ρ (c::cs) b':=by
 intro ow pins s σ H Q I ⟨E,q⟩
 refine rS (aH (h ow pins s σ H (fun t H1=>t=b/\ao H H1) I ⟨E,fun H1 s1=>⟨rfl,s1⟩⟩) fun t s1 ⟨H1,I1,e,sm⟩=>?_)
 subst e
 cases t with
 | true =>
  rw[if_pos rfl]at h' ⊢
  exact h' ow pins s1 σ H1 Q I1 ⟨E.same sm,fun H2 s2=>q H2 (sm.trans s2)⟩
 | false =>
  rw[if_neg Bool.false_ne_true]at h' ⊢
  subst h'
  exact⟨H1,I1,q H1 sm⟩
variable{X:Cx}
structure dG(X:Cx)(ρ:ac)(e:Expr)(it:Bool)(d:D)(k:Nat):Prop where
 ed:it=false->ED X ρ e d k
 td:it=false->∀b,d=.bl b->TD X ρ e b
 ie:it=true->∀tg l,items d=some l->dS e tg=true->IE X ρ tg e l k
theorem dG.of(h:ED X ρ e d k)(t:∀b,d=.bl b->TD X ρ e b):dG X ρ e it d k:=⟨fun _=>h,fun _=>t,fun _ tg l hi _=>DT h hi⟩
theorem ff{r:D×Nat}(h:ar Φ e it sc ρ=.ok r l):∀x p,e ≠ .Starred x p:=by
 intro x p z;subst z;cases h
theorem bX{Φ:Fx}{sc:Scope}{ρ:ac}:∀{es:List Expr} {r:List D×Nat} {l:List Prop},ba Φ es sc ρ=.ok r l->ay l->(∀e∈es,∀x p,e ≠ .Starred x p)/\es.length=r.1.length
 | [],r,l,h,_=>by cases h;exact⟨fun e he=>(by cases he),rfl⟩
 | e::es,r,l,h,hp=>by
  obtain⟨p,l1,l2,h1,p1,h,p2⟩:=aM h hp
  obtain⟨q,l3,l4,h2,p3,h,p4⟩:=aM h p2
  cases h
  obtain⟨i1,i2⟩:=bX h2 p3
  refine⟨fun e' he=>?_,by rw[List.length_cons,List.length_cons,i2]⟩
  rcases List.mem_cons.mp he with rfl|he
  ·exact ff h1
  ·exact i1 e' he
theorem vq(h:jw sc scope=true):scope.kind=.function/\(∀y∈scope.names,y.2=.local->scope.names.lookup y.1=some .local) /\
  (∀y∈scope.names,y.2=.free->sc.names.lookup y.1=some .cell\/sc.names.lookup y.1=some .free)/\(scope.names.map (·.1)).Nodup:=by
 unfold jw at h
 simp only[Bool.and_eq_true,List.all_eq_true,decide_eq_true_eq,Bool.or_eq_true]at h
 obtain⟨⟨⟨h1,h3⟩,h4⟩,h5⟩:=h
 refine⟨h1,fun y hy e=>(h3 y hy).resolve_left (fun z=>z e),fun y hy e=>?_,h5⟩
 rcases h4 y hy with(q|q)|q
 ·exact absurd e q
 ·exact .inl q.2
 ·exact .inr q
theorem bR{env:Env}:∀{names:List (Str×NameKind)} {x:Str} {k0:NameKind},k0 ≠ .free->names.lookup x=some k0 ->
  (names.map fun(n,k)=>if (k==NameKind.free&&env.scope.kind == .function&&env.kindOf n==some .cell)then(n,NameKind.cell)else(n,k)).lookup x=some k0
 | [],_,_,_,h=>by simp at h
 | (n,k)::r,x,k0,hk,h=>by
  have ih:=@bR env r x k0 hk
  show List.lookup x ((if (k==NameKind.free&&env.scope.kind == .function&&env.kindOf n==some .cell)=true then(n,NameKind.cell)else(n,k))::_)=_
  cases hx:x==n with
  | true =>
   simp only[List.lookup_cons,hx]at h
   cases h
   have:(k==NameKind.free)=false:=by simpa using hk
   simp[List.lookup_cons,hx,this]
  | false =>
   simp only[List.lookup_cons,hx]at h
   by_cases hc:(k==NameKind.free&&env.scope.kind == .function&&env.kindOf n==some .cell)=true
   ·rw[if_pos hc];simp only[List.lookup_cons,hx];exact ih h
   ·rw[if_neg hc];simp only[List.lookup_cons,hx];exact ih h
theorem kF{names:List (Str×NameKind)}:∀{x:Str} {k:NameKind},names.lookup x=some k->x∈names.map (·.1):=fun {x k} h=>List.mem_map.mpr ⟨_,PySem.mem_of_lookup h,rfl⟩
theorem zx{C:Addr}(G:aG Φ X sc)(h:jw sc scope=true):aG Φ (iB X scope cl C (scope.names.map (·.1)) s H fp) scope:=by
 obtain⟨h1,h3,h4,h5⟩:=vq h
 refine⟨G.calm,h5,fun x hx=>?_,fun x hx=>?_,fun x hx=>lookup_relabel_local hx,fun x hx=>bR (by decide) hx,fun g F hg=>G.fn g F hg,G.con,G.blt,G.itr,G.mth,G.mtt,G.slf,G.fld,G.omt,G.bl,G.room,fun x hx=>?_,fun x hx=>decide_eq_true hx⟩
 ·exact bR (by decide) hx
 ·rcases hx with hx|hx
  ·exact .inl (bR (by decide) hx)
  ·exact bS hx
 ·unfold bD at hx
  rw[Bool.or_eq_true]at hx
  rcases hx with hx|hx<;>exact kF (by simpa using hx)
theorem vk(G:aG Φ X sc)(h:jw sc scope=true):eZ X.env scope (scope.names.map (·.1)):=by
 obtain⟨h1,h3,h4,h5⟩:=vq h
 exact⟨h1,h5,h3,h5,fun n hn=>G.kc n (h4 (n,.free) hn rfl)⟩
theorem DP:∀{a b:Nat},kj a b<=1->a<=kj a b/\b<=kj a b
 | 0,0,_=>by decide
 | 0,1,_=>by decide
 | 0,2,h=>absurd h (by decide)
 | 0,_+3,h=>by rw[kj]at h;omega
 | 1,0,_=>by decide
 | 1,1,_=>by decide
 | 1,2,h=>absurd h (by decide)
 | 1,_+3,h=>absurd h (by rw[kj]<;>simp)
 | 2,0,h=>absurd h (by decide)
 | 2,1,h=>absurd h (by decide)
 | 2,2,h=>absurd h (by decide)
 | 2,_+3,h=>absurd h (by rw[kj]<;>simp)
 | _+3,0,h=>by rw[kj]at h<;>simp_all<;>omega
 | _+3,1,h=>absurd h (by rw[kj]<;>simp)
 | _+3,2,h=>absurd h (by rw[kj]<;>simp)
 | _+3,_+3,h=>absurd h (by rw[kj]<;>simp)
theorem Kp.up(o:b7 ow H){a:Addr}:∀{i j:Nat},i<=j->j<=1->Kp ow H i a b->Kp ow H j a b
 | 0,0,_,_,p=>p
 | 0,1,_,_,p=>fun _=>o.free p.2
 | 1,1,_,_,p=>p
 | 1,0,h,_,_=>absurd h (by omega)
 | _+2,_,h,g,_=>absurd h (by omega)
 | 0,_+2,_,g,_=>absurd g (by omega)
 | 1,_+2,_,g,_=>absurd g (by omega)
theorem ED.up(h:ED X ρ e d i)(h1:i<=j)(h2:j<=1):ED X ρ e d j:=fun ow=>aZ (h ow) fun σ H Q ⟨E,q⟩=>⟨E,fun v H' s r=>q v H' s (r.imp fun a b p=>Kp.up E.own h1 h2 p)⟩
def nF(step:D->Rs (Option (D×Nat)))(d:D):Option D:=match step d with | .ok (some p) _=>some p.1|_=>none
theorem pI{step:D->Rs (Option (D×Nat))}:∀{ds:List D} {r:List D×Nat} {l:List Prop},eg step ds=.ok r l->ay l ->
  (∀d∈ds,∃r l,step d=.ok r l/\ay l)/\r.1=ds.filterMap (nF step)/\(r.2<=1->∀d∈ds,∀p l,step d=.ok (some p) l->p.2<=r.2)
 | [],r,l,h,_=>by
  cases h
  exact⟨fun d hd=>(by cases hd),rfl,fun _ d hd=>(by cases hd)⟩
 | d::ds,r,l,h,hp=>by
  obtain⟨x,l1,l2,h1,p1,h,p2⟩:=aM h hp
  obtain⟨q,l3,l4,h2,p3,h,p4⟩:=aM h p2
  obtain⟨i1,i2,i3⟩:=pI h2 p3
  have i1':∀y∈d::ds,∃r l,step y=.ok r l/\ay l:=fun y hy=>by
   rcases List.mem_cons.mp hy with rfl|hy
   ·exact⟨_,_,h1,p1⟩
   ·exact i1 y hy
  cases x with
  | none =>
   cases h
   refine⟨i1',?_,fun hj x hx y i e=>?_⟩
   ·rw[List.filterMap_cons_none (by unfold nF;rw[h1])];exact i2
   ·rcases List.mem_cons.mp hx with rfl|hx
    ·rw[h1]at e;cases e
    ·exact i3 hj x hx y i e
  | some p =>
   cases h
   refine⟨i1',?_,fun hj x hx y i e=>?_⟩
   ·rw[List.filterMap_cons_some (by unfold nF;rw[h1]),i2]
   ·obtain⟨a1,a2⟩:=DP hj
    rcases List.mem_cons.mp hx with rfl|hx
    ·rw[h1]at e;cases e;exact a1
    ·exact Nat.le_trans (i3 (Nat.le_trans a2 hj) x hx y i e) a2
theorem bv(h:ED X ρ e d k)(he:∀whole,isTrue e X.env whole=(do let v <- whole;standAt e.pos;holding [v] (truthy v))):dG X ρ e it d k:=.of h fun b hb=>by subst hb;exact Dj h he
theorem Ak{b:Expr}{x:D}(hu:X.A.units+70<cLine)(ha:ED X ρ a x k)(hb:ED X ρ b y j)(h:iF op x y=.ok r o)(hp:ay o)(hm:behindInMarks op b=false):TD X ρ (.Compare a [op] [b] pos) r:=by
 have c:=gA (X:=X) hu h hp
 intro ow pins s σ H Q I ⟨E,q⟩
 refine wpAny_isTrue_Compare1 (EE (ha ow) (hb ow) I (R:=fun v u H2=>ao H H2/\ae X.K H2 (fun _ _=>True) x v/\ae X.K H2 (fun _ _=>True) y u) ⟨E,fun v H1 s1 r1=>⟨E.same s1,fun u H2 s2 r2=>⟨s1.trans s2,(r1.imp fun _ _ _=>True.intro).same s2,r2.imp fun _ _ _=>True.intro⟩⟩⟩ fun v u s2 x y H2 I2 rx ry ⟨sm,r1,r2⟩=>?_) hm
 refine aH (c _ _ pins s2 σ H2 x y v u (fun w H'=>w=.bl r/\H2=H') I2 rx ry ⟨r1,r2,rfl,rfl⟩) fun u' s3 ⟨w,H3,I3,r3,e1,e2⟩=>?_
 subst e1 e2
 cases (show u'=Value.bool r from r3)
 exact wpAny_truthy_bool ⟨H2,I3,q H2 sm⟩
theorem vM{b:Expr}{x y z:Int}(hu:X.A.units+70<cLine)(ha:ED X ρ a (.int x) k)(hb:ED X ρ b (.int y) j)(hc:ED X ρ c (.int z) i)(h:d5 op x y=some r)(h2:d5 op2 y z=some r2)(hm:behindInMarks op2 c=false):TD X ρ (.Compare a [op,op2] [b,c] pos) (r&&r2):=by
 have c1:=gA (X:=X) hu (lj h) (show ay []from True.intro)
 have c2:=gA (X:=X) hu (lj h2) (show ay []from True.intro)
 refine fun ow=>s0 (v5 (c1 (fun _ _=>True) (fun _ _=>True)) (c2 (fun _ _=>True) (fun _ _=>True)) (ha ow) (hb ow) (hc ow) hm) fun σ H Q ⟨E,q⟩=>⟨E,fun v H1 s1 r1=>⟨E.same s1,fun u H2 s2 r2=>?_⟩⟩
 rw[ae]at r1 r2
 subst r1 r2
 refine⟨by rw[ae],by rw[ae],r,rfl,?_⟩
 cases r with
 | false=>exact⟨false,rfl,q H2 (s1.trans s2)⟩
 | true =>
  rw[if_pos rfl]
  refine⟨(E.same s1).same s2,fun w H3 s3 r3=>?_⟩
  rw[ae]at r3
  subst r3
  exact⟨by rw[ae],by rw[ae],_,rfl,q H3 ((s1.trans s2).trans s3)⟩
theorem Aj(h:TD X ρ a b):TD X ρ (.UnaryOp .Not a pos) (!b):=fun ow=>s0 (AS (h ow)) fun σ H Q ⟨E,q⟩=>⟨E,fun H1 s1=>q H1 s1⟩
structure cE(X:Cx)(ρ:ac)(op:BoolOp)(es:List Expr)(b:Bool):Prop where
 ed:es≠[]->∀pos,ED X ρ (.BoolOp op es pos) (.bl b) 0
 tw:es≠[]->∀pos ow,PW X (.BoolOp op es pos) (wZ X ow ρ b)
 ts:op=.And->vF X ρ es b
theorem ej{op:BoolOp}(h:ED X ρ e (.bl b) k)(t:TD X ρ e b):cE X ρ op [e] b:=by
 have h0:ED X ρ e (.bl b) 0:=by
  have:=h.kn
  rw[show kn (.bl b) k=0 from rfl]at this
  exact this
 refine⟨fun _ pos ow=>A1 (h0 ow),fun _ pos ow=>?_,fun _=>lC t (by cases b;rfl;exact tF)⟩
 cases op with
 | And=>exact yF (t ow)
 | Or=>exact AQ (t ow)
theorem qD(h:ED X ρ e (.bl true) k)(t:TD X ρ e true)(r:cE X ρ .And (e2::es) b):cE X ρ .And (e::e2::es) b:=by
 refine⟨fun _ pos ow=>?_,fun _ pos ow=>?_,fun _=>lC t (by rw[if_pos rfl];exact r.ts rfl)⟩
 ·refine aZ (uk (h ow) (r.ed (by simp) pos ow)) fun σ H Q ⟨E,q⟩=>⟨E,fun v H1 s1 r1=>?_⟩
  rw[ae]at r1
  exact⟨true,r1,by rw[if_pos rfl];exact⟨E.same s1,fun w H2 s2 r2=>q w H2 (s1.trans s2) (r2.imp (Kp.back s1 0))⟩⟩
 ·intro wh pins s σ H Q I hq
  exact t6 (t ow) (r.tw (by simp) pos ow) wh pins s σ H Q I ⟨hq.1,fun H1 s1=>by dsimp only;rw[if_pos rfl];exact⟨hq.1.same s1,fun H2 s2=>hq.2 H2 (s1.trans s2)⟩⟩
theorem pO(h:ED X ρ e (.bl false) k)(t:TD X ρ e false)(ne:∀pos,∃t,PE X (.BoolOp .And (e2::es) pos) t)(nw:∀pos,∃t,PW X (.BoolOp .And (e2::es) pos) t):cE X ρ .And (e::e2::es) false:=by
 refine⟨fun _ pos ow=>?_,fun _ pos ow=>?_,fun _=>lC t (by rw[if_neg Bool.false_ne_true])⟩
 ·obtain⟨t2,h2⟩:=ne pos
  refine aZ (uk (h ow) h2) fun σ H Q ⟨E,q⟩=>⟨E,fun v H1 s1 r1=>?_⟩
  rw[ae]at r1
  exact⟨false,r1,by rw[if_neg Bool.false_ne_true];exact q _ H1 s1 (by rw[ae])⟩
 ·obtain⟨t2,h2⟩:=nw pos
  intro wh pins s σ H Q I hq
  exact t6 (t ow) h2 wh pins s σ H Q I ⟨hq.1,fun H1 s1=>by dsimp only;rw[if_neg Bool.false_ne_true];exact hq.2 H1 s1⟩
theorem sR(h:ED X ρ e (.bl false) k)(t:TD X ρ e false)(r:cE X ρ .Or (e2::es) b):cE X ρ .Or (e::e2::es) b:=by
 refine⟨fun _ pos ow=>?_,fun _ pos ow=>?_,fun z=>by cases z⟩
 ·refine aZ (xr (h ow) (r.ed (by simp) pos ow)) fun σ H Q ⟨E,q⟩=>⟨E,fun v H1 s1 r1=>?_⟩
  rw[ae]at r1
  exact⟨false,r1,by rw[if_neg Bool.false_ne_true];exact⟨E.same s1,fun w H2 s2 r2=>q w H2 (s1.trans s2) (r2.imp (Kp.back s1 0))⟩⟩
 ·intro wh pins s σ H Q I hq
  exact xm (t ow) (r.tw (by simp) pos ow) wh pins s σ H Q I ⟨hq.1,fun H1 s1=>by dsimp only;rw[if_neg Bool.false_ne_true];exact⟨hq.1.same s1,fun H2 s2=>hq.2 H2 (s1.trans s2)⟩⟩
theorem qC(h:ED X ρ e (.bl true) k)(t:TD X ρ e true)(ne:∀pos,∃t,PE X (.BoolOp .Or (e2::es) pos) t)(nw:∀pos,∃t,PW X (.BoolOp .Or (e2::es) pos) t):cE X ρ .Or (e::e2::es) true:=by
 refine⟨fun _ pos ow=>?_,fun _ pos ow=>?_,fun z=>by cases z⟩
 ·obtain⟨t2,h2⟩:=ne pos
  refine aZ (xr (h ow) h2) fun σ H Q ⟨E,q⟩=>⟨E,fun v H1 s1 r1=>?_⟩
  rw[ae]at r1
  exact⟨true,r1,by rw[if_pos rfl];exact q _ H1 s1 (by rw[ae])⟩
 ·obtain⟨t2,h2⟩:=nw pos
  intro wh pins s σ H Q I hq
  exact xm (t ow) h2 wh pins s σ H Q I ⟨hq.1,fun H1 s1=>by dsimp only;rw[if_pos rfl];exact hq.2 H1 s1⟩
theorem oK:PE X e (fun _ _ _=>False):=fun _ _ _ _ _ _ h=>h.elim
theorem oD:PW X e (fun _ _ _=>False):=fun _ _ _ _ _ _ _ h=>h.elim
theorem xZ{b:Expr}{r:D×Nat}(h:ar Φ b it sc ρ=.ok r l):behindInMarks op b=false:=by
 cases b<;>first|rfl|cases h
theorem q8{z:Str}(h:bD sc z=true)(hx:sc.names.lookup x=some .free):x≠z:=by
 intro e;subst e
 unfold bD at h
 rw[hx]at h
 revert h;decide
theorem sS:∀{es:List Expr} {ds:List D} {ρ ρ':ac},aK sc es ds ρ=some ρ'->∀x y,sc.names.lookup x=some .free->ρ x=some y->ρ' x=some y:=by
 intro es
 induction es with
 | nil =>
  intro ds ρ ρ' h x y hx hl
  cases ds with
  | nil=>rw[aK]at h;cases h;exact hl
  | cons d ds=>cases h
 | cons e es ih =>
  intro ds ρ ρ' h x y hx hl
  cases ds with
  | nil=>cases e<;>cases h
  | cons d ds =>
   cases e with
   | Name z p =>
    rw[aK]at h
    split at h
    ·rename_i hz
     exact ih h x y hx (by rw[bq,if_neg (q8 hz hx)];exact hl)
    ·cases h
   | _=>cases h
theorem vu(h:bi sc tg d ρ=some ρ'):∀x y,sc.names.lookup x=some .free->ρ x=some y->ρ' x=some y:=by
 intro x y hx hl
 unfold bi at h
 split at h
 ·split at h
  ·rename_i hz
   cases h
   rw[bq,if_neg (q8 hz hx)];exact hl
  ·cases h
 ·split at h
  ·exact sS h x y hx hl
  ·cases h
 ·cases h
theorem m9{r:D×Nat}(h:ar Φ e it sc ρ=.ok r l)(x:Value):foldedSetIterable e env x=pure x:=by
 cases e<;>first|rfl|cases h
mutual
theorem oS:∀x y:D,lQ true x y=x
 | .int _,.int _=>rfl
 | .bl _,.bl _=>rfl
 | .tup l,.tup m=>by
  show(if l.length=m.length then D.tup (iq true l m)else cond true (.tup l) (.tup m))=.tup l
  split
  ·rename_i h;rw[uu l m h]
  ·rfl
 | .non,_=>rfl
 | .str _,_=>rfl
 | .dct _ _,_=>rfl
 | .lst _,_=>rfl
 | .typ _,_=>rfl
 | .dcf _ _,_=>rfl
 | .sn _,_=>rfl
 | .obj _ _ _,_=>rfl
 | .cls _,_=>rfl
 | .xc _ _,_=>rfl
 | .int _,.non=>rfl
 | .int _,.bl _=>rfl
 | .int _,.str _=>rfl
 | .int _,.dct _ _=>rfl
 | .int _,.typ _=>rfl
 | .int _,.dcf _ _=>rfl
 | .int _,.sn _=>rfl
 | .int _,.obj _ _ _=>rfl
 | .int _,.cls _=>rfl
 | .int _,.xc _ _=>rfl
 | .int _,.tup _=>rfl
 | .int _,.lst _=>rfl
 | .bl _,.non=>rfl
 | .bl _,.int _=>rfl
 | .bl _,.str _=>rfl
 | .bl _,.dct _ _=>rfl
 | .bl _,.typ _=>rfl
 | .bl _,.dcf _ _=>rfl
 | .bl _,.sn _=>rfl
 | .bl _,.obj _ _ _=>rfl
 | .bl _,.cls _=>rfl
 | .bl _,.xc _ _=>rfl
 | .bl _,.tup _=>rfl
 | .bl _,.lst _=>rfl
 | .tup _,.non=>rfl
 | .tup _,.int _=>rfl
 | .tup _,.bl _=>rfl
 | .tup _,.str _=>rfl
 | .tup _,.dct _ _=>rfl
 | .tup _,.typ _=>rfl
 | .tup _,.dcf _ _=>rfl
 | .tup _,.sn _=>rfl
 | .tup _,.obj _ _ _=>rfl
 | .tup _,.cls _=>rfl
 | .tup _,.xc _ _=>rfl
 | .tup _,.lst _=>rfl
theorem uu:∀l m:List D,l.length=m.length->iq true l m=l
 | [],[],_=>rfl
 | x::l,y::m,h=>by
  show lQ true x y::iq true l m=x::l
  rw[oS x y,uu l m (by simpa using h)]
 | [],_::_,h=>by cases h
 | _::_,[],h=>by cases h
end
mutual
theorem oV:∀x y:D,lQ false x y=y
 | .int _,.int _=>rfl
 | .bl _,.bl _=>rfl
 | .tup l,.tup m=>by
  show(if l.length=m.length then D.tup (iq false l m)else cond false (.tup l) (.tup m))=.tup m
  split
  ·rename_i h;rw[uv l m h]
  ·rfl
 | .non,_=>rfl
 | .str _,_=>rfl
 | .dct _ _,_=>rfl
 | .lst _,_=>rfl
 | .typ _,_=>rfl
 | .dcf _ _,_=>rfl
 | .sn _,_=>rfl
 | .obj _ _ _,_=>rfl
 | .cls _,_=>rfl
 | .xc _ _,_=>rfl
 | .int _,.non=>rfl
 | .int _,.bl _=>rfl
 | .int _,.str _=>rfl
 | .int _,.dct _ _=>rfl
 | .int _,.typ _=>rfl
 | .int _,.dcf _ _=>rfl
 | .int _,.sn _=>rfl
 | .int _,.obj _ _ _=>rfl
 | .int _,.cls _=>rfl
 | .int _,.xc _ _=>rfl
 | .int _,.tup _=>rfl
 | .int _,.lst _=>rfl
 | .bl _,.non=>rfl
 | .bl _,.int _=>rfl
 | .bl _,.str _=>rfl
 | .bl _,.dct _ _=>rfl
 | .bl _,.typ _=>rfl
 | .bl _,.dcf _ _=>rfl
 | .bl _,.sn _=>rfl
 | .bl _,.obj _ _ _=>rfl
 | .bl _,.cls _=>rfl
 | .bl _,.xc _ _=>rfl
 | .bl _,.tup _=>rfl
 | .bl _,.lst _=>rfl
 | .tup _,.non=>rfl
 | .tup _,.int _=>rfl
 | .tup _,.bl _=>rfl
 | .tup _,.str _=>rfl
 | .tup _,.dct _ _=>rfl
 | .tup _,.typ _=>rfl
 | .tup _,.dcf _ _=>rfl
 | .tup _,.sn _=>rfl
 | .tup _,.obj _ _ _=>rfl
 | .tup _,.cls _=>rfl
 | .tup _,.xc _ _=>rfl
 | .tup _,.lst _=>rfl
theorem uv:∀l m:List D,l.length=m.length->iq false l m=m
 | [],[],_=>rfl
 | x::l,y::m,h=>by
  show lQ false x y::iq false l m=y::m
  rw[oV x y,uv l m (by simpa using h)]
 | [],_::_,h=>by cases h
 | _::_,[],h=>by cases h
end
theorem xC:uM true k j=k:=by unfold uM;split<;>rfl
theorem xD:uM false k j=j:=by
 unfold uM;split
 ·assumption
 ·rfl
theorem rn{r s:R1}{d:D×Nat}(h:xF t r s=.ok d l)(hp:ay l):∃m,(if t=true then r else s)=.ok d m/\ay m:=by
 unfold xF at h
 split at h
 ·cases t with
  | true=>cases h
  | false=>exact⟨l,h,hp⟩
 ·rename_i p m
  split at h
  ·cases t with
   | true=>exact⟨l,h,hp⟩
   | false=>cases h
  ·rename_i q n
   cases h
   obtain⟨p1,p2⟩:=bY.mp hp
   cases t with
   | true=>exact⟨m,by rw[oS,xC];rfl,kR p1 rfl⟩
   | false=>exact⟨n,by rw[oV,xD];rfl,kR p2 rfl⟩
theorem jk{p:D×Nat}{f:Bool->Rs α}{a:α}(h:iI p f=.ok a l):∃b,p.1=.bl b/\f b=.ok a l:=by
 unfold iI at h
 split at h
 ·rename_i b e;exact⟨b,e,h⟩
 ·cases h
theorem wt{p:D×Nat}{f:Int->R1}{a:D×Nat}(h:gL p f=.ok a l):∃b,p.1=.int b/\f b=.ok a l:=by
 unfold gL at h
 split at h
 ·rename_i b e;exact⟨b,e,h⟩
 ·cases h
structure Ih(Φ:Fx)(n:Nat):Prop where
 e:∀(e:Expr) {it:Bool} {sc:Scope} {ρ:ac} {p:D×Nat} {l:List Prop} {X:Cx},sizeOf e<n->ar Φ e it sc ρ=.ok p l->ay l->aG Φ X sc->dG X ρ e it p.1 p.2
 es:∀(es:List Expr) {sc:Scope} {ρ:ac} {p:List D×Nat} {l:List Prop} {X:Cx},sizeOf es<n->ba Φ es sc ρ=.ok p l->ay l->aG Φ X sc->AD X ρ es p.1 p.2
 b:∀(op:BoolOp) (es:List Expr) {sc:Scope} {ρ:ac} {b:Bool} {l:List Prop} {X:Cx},sizeOf es<n->cj Φ op es sc ρ=.ok b l->ay l->aG Φ X sc->cE X ρ op es b
 o:∀(e:Option Expr) {sc:Scope} {ρ:ac} {o:Option Int} {l:List Prop} {X:Cx},sizeOf e<n->rE Φ e sc ρ=.ok o l->ay l->aG Φ X sc->OD X ρ e o
theorem aS{a b:Nat}(h:a<b)(hs:b<n+1):a<n:=Nat.lt_of_lt_of_le h (Nat.le_of_lt_succ hs)
section
variable{Φ:Fx}{n:Nat}{it:Bool}{sc:Scope}{ρ:ac}{r:D×Nat}{l:List Prop}{X:Cx}
theorem yk(h:iY Φ x sc ρ=.ok r l)(G:aG Φ X sc):dG X ρ (.Name x pos) it r.1 r.2:=by
 unfold iY at h
 split at h
 ·rename_i hx
  split at h
  ·rename_i hg
   split at h
   ·rename_i d hd;cases h;exact bv (Cr G hd hg hx) (fun _=>rfl)
   ·split at h
    ·rename_i T hT;cases h;exact bv (Ck G hT hg) (fun _=>rfl)
    ·cases h
  ·split at h
   ·rename_i p hl
    unfold mk at h;cases h
    exact bv (dZ (o:=p.2) hl hx) (fun _=>rfl)
   ·cases h
 ·cases h
theorem Aw(I:Ih Φ n){b:Expr}{op:Operator}(hs:sizeOf (Expr.BinOp a op b pos)<n+1)(h:ar Φ (.BinOp a op b pos) it sc ρ=.ok r l)(hp:ay l)(G:aG Φ X sc):dG X ρ (.BinOp a op b pos) it r.1 r.2:=by
 obtain⟨p,l1,l2,h1,p1,h,p2⟩:=aM (show Rs.bnd _ _=_ from h) hp
 obtain⟨q,l3,l4,h2,p3,h,p4⟩:=aM h p2
 exact bv (Cu ((I.e a (aS (by simp<;>omega) hs) h1 p1 G).ed rfl) ((I.e b (aS (by simp<;>omega) hs) h2 p3 G).ed rfl) h p4) (fun _=>rfl)
theorem Ds(I:Ih Φ n){op:UnaryOp}(hs:sizeOf (Expr.UnaryOp op a pos)<n+1)(h:ar Φ (.UnaryOp op a pos) it sc ρ=.ok r l)(hp:ay l)(G:aG Φ X sc):dG X ρ (.UnaryOp op a pos) it r.1 r.2:=by
 obtain⟨p,l1,l2,h1,p1,h,p2⟩:=aM (show Rs.bnd _ _=_ from h) hp
 split at h
 ·rename_i z hu
  cases h
  have c:=I.e a (aS (by simp<;>omega) hs) h1 p1 G
  refine .of (D7 (c.ed rfl) hu) fun b hb=>?_
  have hb:z=.bl b:=hb
  subst hb
  unfold tu at hu
  split at hu
  ·cases hu
  ·rename_i e;cases hu;exact Aj (c.td rfl _ e)
  ·cases hu
 ·cases h
theorem Av(I:Ih Φ n){b:Expr}(hs:sizeOf (Expr.Compare a [op] [b] pos)<n+1)(h:ar Φ (.Compare a [op] [b] pos) it sc ρ=.ok r l)(hp:ay l)(G:aG Φ X sc):dG X ρ (.Compare a [op] [b] pos) it r.1 r.2:=by
 obtain⟨p,l1,l2,h1,p1,h,p2⟩:=aM (show Rs.bnd _ _=_ from h) hp
 obtain⟨q,l3,l4,h2,p3,h,p4⟩:=aM h p2
 obtain⟨z,l5,l6,hc,p5,h,p6⟩:=aM h p4
 cases h
 have ca:=(I.e a (aS (by simp<;>omega) hs) h1 p1 G).ed rfl
 have cb:=(I.e b (aS (by simp<;>omega) hs) h2 p3 G).ed rfl
 exact .of (Cs G.room ca cb hc p5 (xZ h2)) fun b' hb'=>by cases hb';exact Ak G.room ca cb hc p5 (xZ h2)
theorem vN(I:Ih Φ n){b:Expr}(hs:sizeOf (Expr.Compare a [op,op2] [b,c] pos)<n+1)(h:ar Φ (.Compare a [op,op2] [b,c] pos) it sc ρ=.ok r l)(hp:ay l)(G:aG Φ X sc):dG X ρ (.Compare a [op,op2] [b,c] pos) it r.1 r.2:=by
 obtain⟨p,l1,l2,h1,p1,h,p2⟩:=aM (show Rs.bnd _ _=_ from h) hp
 obtain⟨q,l3,l4,h2,p3,h,p4⟩:=aM h p2
 obtain⟨t,l5,l6,h3,p5,h,p6⟩:=aM h p4
 obtain⟨x,y,z,r1,r2,e1,e2,e3,k1,k2,rfl⟩:=zO h
 have ca:=(I.e a (aS (by simp<;>omega) hs) h1 p1 G).ed rfl
 have cb:=(I.e b (aS (by simp<;>omega) hs) h2 p3 G).ed rfl
 have cc:=(I.e c (aS (by simp<;>omega) hs) h3 p5 G).ed rfl
 rw[e1]at ca
 rw[e2]at cb
 rw[e3]at cc
 exact .of (wB G.room ca cb cc k1 k2 (xZ h3)) fun b' hb'=>by cases hb';exact vM G.room ca cb cc k1 k2 (xZ h3)
theorem Du(I:Ih Φ n){b:Expr}(hs:sizeOf (Expr.IfExp c a b pos)<n+1)(h:ar Φ (.IfExp c a b pos) it sc ρ=.ok r l)(hp:ay l)(G:aG Φ X sc):dG X ρ (.IfExp c a b pos) it r.1 r.2:=by
 obtain⟨p,l1,l2,h1,p1,h,p2⟩:=aM (show Rs.bnd _ _=_ from h) hp
 obtain⟨t,ht,h⟩:=jk h
 obtain⟨m,he,hm⟩:=rn h p2
 have hc:=(I.e c (aS (by simp<;>omega) hs) h1 p1 G).td rfl t ht
 cases t with
 | true =>
  rw[if_pos rfl]at he
  have ha:=I.e a (aS (by simp<;>omega) hs) he hm G
  refine .of (xT hc (by rw[if_pos rfl];exact ha.ed rfl)) fun b' hb'=>?_
  intro ow pins s σ H Q I ⟨E,q⟩
  refine isTrue_IfExp (aH (hc ow pins s σ H (fun t H1=>t=true/\ao H H1) I ⟨E,fun H1 s1=>⟨rfl,s1⟩⟩) fun t s1 ⟨H1,I1,e1,s1'⟩=>?_)
  subst e1
  exact ha.td rfl b' hb' ow pins s1 σ H1 Q I1 ⟨E.same s1',fun H2 s2=>q H2 (s1'.trans s2)⟩
 | false =>
  rw[if_neg Bool.false_ne_true]at he
  have hb:=I.e b (aS (by simp<;>omega) hs) he hm G
  refine .of (xT hc (by rw[if_neg Bool.false_ne_true];exact hb.ed rfl)) fun b' hb'=>?_
  intro ow pins s σ H Q I ⟨E,q⟩
  refine isTrue_IfExp (aH (hc ow pins s σ H (fun t H1=>t=false/\ao H H1) I ⟨E,fun H1 s1=>⟨rfl,s1⟩⟩) fun t s1 ⟨H1,I1,e1,s1'⟩=>?_)
  subst e1
  exact hb.td rfl b' hb' ow pins s1 σ H1 Q I1 ⟨E.same s1',fun H2 s2=>q H2 (s1'.trans s2)⟩
theorem sj{r:D×Nat}(h:ar Φ e it sc ρ=.ok r l):d9 e:=by
 cases e<;>first|(intro _ _;rfl)|cases h
theorem Dt(I:Ih Φ n){i:Expr}(hs:sizeOf (Expr.Subscript a i pos)<n+1)(h:((ar Φ a false sc ρ).bnd fun p=>(ar Φ i false sc ρ).bnd fun q=>jE p q)=.ok r l)(hp:ay l)(G:aG Φ X sc):dG X ρ (.Subscript a i pos) it r.1 r.2:=by
 obtain⟨p,l1,l2,h1,p1,h,p2⟩:=aM h hp
 obtain⟨q,l3,l4,h2,p3,h,p4⟩:=aM h p2
 exact bv (Cl ((I.e a (aS (by simp<;>omega) hs) h1 p1 G).ed rfl) ((I.e i (aS (by simp<;>omega) hs) h2 p3 G).ed rfl) (sj h2) h) (fun _=>rfl)
theorem Au(I:Ih Φ n){i:Expr}(hs:sizeOf (Expr.Subscript a i pos)<n+1)(h:ar Φ (.Subscript a i pos) it sc ρ=.ok r l)(hp:ay l)(G:aG Φ X sc):dG X ρ (.Subscript a i pos) it r.1 r.2:=by
 exact Dt I hs h hp G
theorem ym(I:Ih Φ n)(hs:sizeOf args<n)(hf:sc.names.lookup f=some .globalImplicit)(h0:((ba Φ args sc ρ).bnd fun p=>gR Φ f it p.1 p.2)=.ok r l)(hp:ay l)(G:aG Φ X sc):dG X ρ (.Call (.Name f p) args [] pos) it r.1 r.2:=by
 obtain⟨q,l1,l2,h1,p1,h,p2⟩:=aM h0 hp
 clear h0
 have ha:=I.es args hs h1 p1 G
 obtain⟨hst,hlen⟩:=bX h1 p1
 unfold gR at h
 split at h
 ·rename_i F hF
  obtain⟨d,l3,l4,h2,p3,h,p4⟩:=aM h p2
  cases h
  exact bv (zJ G hF hf ha hst (fun z=>by subst z;exact List.length_eq_zero_iff.mp hlen.symm) h2 p3) (fun _=>rfl)
 ·split at h
  ·rename_i B hB
   split at hB
   ·rename_i hit
    have hI:=G.itr f B hB
    refine⟨fun z=>(by rw[hit]at z;cases z),fun z=>(by rw[hit]at z;cases z),fun _ tg l' hl ht=>?_⟩
    exact hI.2 X ρ p pos args q.1 q.2 r.1 r.2 l' tg l2 G.calm (G.gl f hf) (G.bl f hI.1) ha hst hlen h p2 hl ht
   ·cases hB
  ·split at h
   ·rename_i B hB
    have hb:=G.blt f B hB
    cases args with
    | nil =>
     have e0:q.1=[]:=List.length_eq_zero_iff.mp hlen.symm
     rw[e0,hb.2.2.2.1]at h;cases h
    | cons e es=>exact bv (Ct G hb hf ha hst h p2) (fun _=>rfl)
   ·cases h
theorem vO(I:Ih Φ n)(hs:sizeOf (Expr.Call (.Name f p) args [] pos)<n+1)(h:ar Φ (.Call (.Name f p) args [] pos) it sc ρ=.ok r l)(hp:ay l)(G:aG Φ X sc):dG X ρ (.Call (.Name f p) args [] pos) it r.1 r.2:=by
 rw[fE]at h
 split at h
 ·rename_i hf
  exact ym I (aS (by simp<;>omega) hs) hf h hp G
 ·cases h
theorem vP(I:Ih Φ n)(hs:sizeOf (Expr.Call (.Attribute a m ap) args [] pos)<n+1)(h:ar Φ (.Call (.Attribute a m ap) args [] pos) it sc ρ=.ok r l)(hp:ay l)(G:aG Φ X sc):dG X ρ (.Call (.Attribute a m ap) args [] pos) it r.1 r.2:=by
 rw[pA]at h
 split at h
 ·rename_i hln
  obtain⟨p,l1,l2,h1,p1,h,p2⟩:=aM h hp
  obtain⟨q,l3,l4,h2,p3,h,p4⟩:=aM h p2
  obtain⟨hst,hlen⟩:=bX h2 p3
  have hea:=(I.e a (aS (by simp<;>omega) hs) h1 p1 G).ed rfl
  have hes:=I.es args (aS (by simp<;>omega) hs) h2 p3 G
  obtain⟨x,kx⟩:=p
  unfold wj at h
  dsimp only at h hea
  split at h
  ·rename_i hb
   split at h
   ·rename_i M hM
    exact bv (G.mth m M hM X ρ a args ap pos x kx q.1 q.2 r.1 r.2 l4 G.calm G.room hea hes hst hlen hln hb h p4) (fun _=>rfl)
   ·cases h
  ·cases h
 ·cases h
theorem yi{q:List D×Nat}{m:List Prop}(hE:∀{ρ:ac} {p:D×Nat} {l:List Prop} {X:Cx},ar Φ elt false scope ρ=.ok p l->ay l->aG Φ X scope->dG X ρ elt false p.1 p.2)
    (hB:∀{ρ:ac} {b:Bool} {l:List Prop} {X:Cx},cj Φ .And ifs scope ρ=.ok b l->ay l->aG Φ X scope->cE X ρ .And ifs b) (hc:jw sc scope=true) (G:aG Φ X sc)
    (h:eg (fun d=>match bi scope tg d (flt scope ρ)with
            | none=>.st
            | some ρ'=>(cj Φ .And ifs scope ρ').bnd fun b=>cond b ((ar Φ elt false scope ρ').bnd fun r=>.ok (some r) []) (.ok none [])) ds=.ok q m) (hp:ay m) (hj:q.2<=1) :
    ∃f:D->Option D,q.1=ds.filterMap f/\∀cl C s H fp,∀d∈ds,jn (iB X scope cl C (scope.names.map (·.1)) s H fp) (flt scope ρ) tg ifs elt q.2 d (f d):=by
  generalize hst:(fun d=>match bi scope tg d (flt scope ρ)with
            | none=>.st
            | some ρ'=>(cj Φ .And ifs scope ρ').bnd fun b=>cond b ((ar Φ elt false scope ρ').bnd fun r=>.ok (some r) []) (.ok none []):D->Rs (Option (D×Nat)))=step at h
  obtain⟨c1,c2,c3⟩:=pI h hp
  refine⟨_,c2,fun cl C s H fp d hd=>?_⟩
  have G':=zx (cl:=cl) (C:=C) (s:=s) (H:=H) (fp:=fp) G hc
  obtain⟨x,lx,hx,px⟩:=c1 d hd
  have c3:=c3 hj d hd
  have hs:=congrFun hst d
  unfold nF
  rw[hx]
  split at hs
  . rw[<- hs]at hx;cases hx
  . rename_i ρ' hb
    have gd:=kQ G' hb
    have ext:∀x y,flt scope ρ x=some y->ρ' x=some y:=fun x y hxy=>vu hb x y (gO hxy).2 hxy
    have hx0:=hx
    rw[<- hs]at hx
    obtain⟨b,l3,l4,h2,p3,hx,p4⟩:=aM hx px
    have ts:=(hB h2 p3 G').ts rfl
    cases b with
    | false =>
      cases hx
      exact⟨ρ',false,gd,ext,ts,rfl⟩
    | true =>
      rw[cond_true]at hx
      obtain⟨z,l5,l6,h3,p5,hx,p6⟩:=aM hx p4
      cases hx
      exact⟨ρ',true,gd,ext,ts,rfl,((hE h3 p5 G').ed rfl).up (c3 z lx hx0) hj⟩
theorem qN(I:Ih Φ n)(hs:sizeOf (Expr.ListComp elt [⟨tg,iter,ifs,0⟩] scope pos)<n+1)(h:ar Φ (.ListComp elt [⟨tg,iter,ifs,0⟩] scope pos) it sc ρ=.ok r l)(hp:ay l)(G:aG Φ X sc) :
  ∃ds f k,(aq ds=true\/k<=1)/\r.2<=1/\ds.length<sizeLine/\eZ X.env scope (scope.names.map (·.1))/\(∀x d o,flt scope ρ x=some (d,o)->x∈scope.names.map (·.1))/\IE X ρ tg iter ds k /\
   (∀cl C s H fp,∀d∈ds,jn (iB X scope cl C (scope.names.map (·.1)) s H fp) (flt scope ρ) tg ifs elt r.2 d (f d))/\(∀x,foldedSetIterable iter X.env x=pure x)/\r.1=.lst (ds.filterMap f):=by
 rw[mm]at h
 split at h
 ·rename_i hc
  obtain⟨p,l1,l2,h1,p1,h,p2⟩:=aM h hp
  split at h
  ·rename_i ds hd
   split at h
   ·rename_i ht
    obtain⟨u0,l7,l8,h7,p7,h,p8⟩:=aM h p2
    cases h7
    have hl:=And.intro p7.1 p7.2.1
    obtain⟨q,l3,l4,h2,p3,h,p4⟩:=aM h p8
    split at h
    ·rename_i hj
     cases h
     obtain⟨f,e1,t⟩:=yi (fun a b c=>I.e elt (by first|omega|(simp at *;omega)) a b c) (fun a b c=>I.b .And ifs (by first|omega|(simp at *;omega)) a b c) hc G h2 p3 hj
     refine⟨ds,f,p.2,hl.2,hj,Nat.lt_of_le_of_lt hl.1 ir,vk G hc,fun x d o hx=>kF (gO hx).2,(I.e iter (by first|omega|(simp at *;omega)) h1 p1 G).ie rfl tg ds hd ht,t,m9 h1,by rw[e1]⟩
    ·cases h
   ·cases h
  ·cases h
 ·cases h
theorem mf{gens:List Comprehension}(h:ar Φ (.ListComp elt gens scope pos) it sc ρ=.ok r l):∃tg iter ifs,gens=[⟨tg,iter,ifs,0⟩]:=by
 match gens,h with
 | [⟨tg,iter,ifs,0⟩],h=>exact⟨_,_,_,rfl⟩
 | [],h=>cases h
 | ⟨_,_,_,.ofNat (n+1)⟩::r,h=>cases r<;>cases h
 | ⟨_,_,_,.negSucc n⟩::_,h=>cases h
 | ⟨_,_,_,0⟩::_::_,h=>cases h
theorem D5(I:Ih Φ n)(e:Expr)(hs:sizeOf e<n+1)(h:ar Φ e it sc ρ=.ok r l)(hp:ay l)(G:aG Φ X sc):dG X ρ e it r.1 r.2:=by
 cases e with
 | Constant c k p =>
  replace h:(match xW c with|some d=>.ok (d,0) []|none=>.st:R1)=.ok r l:=h
  split at h
  ·rename_i d hc;cases h;exact bv (Cq hc) (fun _=>rfl)
  ·cases h
 | Name x p=>exact yk h G
 | BinOp a op b p=>exact Aw I hs h hp G
 | UnaryOp op a p=>exact Ds I hs h hp G
 | BoolOp op es p =>
  rw[mn]at h
  split at h
  ·cases h
  ·rename_i hne
   obtain⟨b,l1,l2,h1,p1,h,p2⟩:=aM h hp
   cases h
   have ne:es≠[]:=fun z=>hne (by rw[z];rfl)
   have c:=I.b op es (aS (by simp<;>omega) hs) h1 p1 G
   exact .of (c.ed ne p) fun b' hb'=>by cases hb';exact fun ow=>(c.tw ne p ow).pt
 | Compare a ops bs p =>
  match ops,bs,hs,h with
  | [op],[b],hs,h=>exact Av I hs h hp G
  | [],bs,_,h=>cases h
  | [op],[],_,h=>cases h
  | [op],_::_::_,_,h=>cases h
  | [op,op2],[b,c],hs,h=>exact vN I hs h hp G
  | [_,_],[],_,h=>cases h
  | [_,_],[_],_,h=>cases h
  | [_,_],_::_::_::_,_,h=>cases h
  | _::_::_::_,bs,_,h=>cases h
 | IfExp c a b p=>exact Du I hs h hp G
 | Tuple es k p =>
  obtain⟨q,l1,l2,h1,p1,h,p2⟩:=aM (show Rs.bnd _ _=_ from h) hp
  split at h
  ·rename_i hl
   unfold mk at h;cases h
   exact bv (wA (I.es es (aS (by simp<;>omega) hs) h1 p1 G) hl) (fun _=>rfl)
  ·cases h
 | List es p =>
  obtain⟨q,l1,l2,h1,p1,h,p2⟩:=aM (show Rs.bnd _ _=_ from h) hp
  split at h
  ·rename_i hl
   cases h
   exact bv (mw (I.es es (aS (by simp<;>omega) hs) h1 p1 G) hl.2 hl.1) (fun _=>rfl)
  ·cases h
 | Attribute a f p=>cases h
 | Dict ks vs p =>
  match ks,vs,h with
  | [],[],h=>cases h;exact bv Co (fun _=>rfl)
  | _::_,_,h=>cases h
  | [],_::_,h=>cases h
 | Subscript a i p=>exact Au I hs h hp G
 | Call f args kws p =>
  cases f with
  | Name f fp =>
   cases kws with
   | nil=>exact vO I hs h hp G
   | cons _ _=>cases h
  | Attribute a m ap =>
   cases kws with
   | nil=>exact vP I hs h hp G
   | cons _ _=>cases h
  | _=>cases h
 | ListComp elt gens scope p =>
  obtain⟨tg,iter,ifs,rfl⟩:=mf h
  obtain⟨ds,f,k,a1,a2,a3,a4,a5,a6,a7,a8,a9⟩:=qN I hs h hp G
  rw[a9]
  exact bv (zI G.calm G.nd a1 a2 a3 a4 a5 a6 a7 a8) (fun _=>rfl)
 | _=>cases h
theorem Cf(I:Ih Φ n)(es:List Expr){r:List D×Nat}(hs:sizeOf es<n+1)(h:ba Φ es sc ρ=.ok r l)(hp:ay l)(G:aG Φ X sc):AD X ρ es r.1 r.2:=by
 cases es with
 | nil=>cases h;exact dB
 | cons e es =>
  obtain⟨p,l1,l2,h1,p1,h,p2⟩:=aM (show Rs.bnd _ _=_ from h) hp
  obtain⟨q,l3,l4,h2,p3,h,p4⟩:=aM h p2
  cases h
  exact cV ((I.e e (aS (by simp<;>omega) hs) h1 p1 G).ed rfl) (I.es es (aS (by simp<;>omega) hs) h2 p3 G) (aE (ff h1))
theorem pT{c:Bool}{r:Rs Bool}(h:sU b r=.ok c l)(hp:ay l):(b=true/\∃m,r=.ok c m/\ay m)\/(b=false/\c=false):=by
 unfold sU at h
 split at h
 ·rename_i c' m
  cases h
  cases b with
  | true=>exact .inl ⟨rfl,m,rfl,kR hp rfl⟩
  | false=>exact .inr ⟨rfl,rfl⟩
 ·cases b with
  | true=>cases h
  | false=>cases h;exact .inr ⟨rfl,rfl⟩
theorem qV{c:Bool}{r:Rs Bool}(h:xu b r=.ok c l)(hp:ay l):(b=false/\∃m,r=.ok c m/\ay m)\/(b=true/\c=true):=by
 unfold xu at h
 split at h
 ·rename_i c' m
  cases h
  cases b with
  | false=>exact .inl ⟨rfl,m,rfl,kR hp rfl⟩
  | true=>exact .inr ⟨rfl,rfl⟩
 ·cases b with
  | false=>cases h
  | true=>cases h;exact .inr ⟨rfl,rfl⟩
theorem Ch(I:Ih Φ n)(op:BoolOp)(es:List Expr)(hs:sizeOf es<n+1)(h:cj Φ op es sc ρ=.ok b l)(hp:ay l)(G:aG Φ X sc):cE X ρ op es b:=by
 cases es with
 | nil =>
  cases op with
  | And=>cases h;exact⟨fun z=>absurd rfl z,fun z=>absurd rfl z,fun _=>tF⟩
  | Or=>cases h;exact⟨fun z=>absurd rfl z,fun z=>absurd rfl z,fun z=>(by cases z)⟩
 | cons e es =>
  cases op with
  | And =>
   obtain⟨p,l1,l2,h1,p1,h,p2⟩:=aM (show Rs.bnd _ _=_ from h) hp
   obtain⟨b',hb,h⟩:=jk h
   have c:=I.e e (aS (by simp<;>omega) hs) h1 p1 G
   have ce:=c.ed rfl
   rw[hb]at ce
   have ct:=c.td rfl b' hb
   rcases pT h p2 with⟨rfl,m,h,pm⟩|⟨rfl,rfl⟩
   ·cases es with
    | nil=>cases h;exact ej ce ct
    | cons e2 es=>exact qD ce ct (I.b .And (e2::es) (aS (by simp<;>omega) hs) h pm G)
   ·cases es with
    | nil=>exact ej ce ct
    | cons e2 es=>exact pO ce ct (fun pos=>⟨_,oK⟩) (fun pos=>⟨_,oD⟩)
  | Or =>
   obtain⟨p,l1,l2,h1,p1,h,p2⟩:=aM (show Rs.bnd _ _=_ from h) hp
   obtain⟨b',hb,h⟩:=jk h
   have c:=I.e e (aS (by simp<;>omega) hs) h1 p1 G
   have ce:=c.ed rfl
   rw[hb]at ce
   have ct:=c.td rfl b' hb
   rcases qV h p2 with⟨rfl,m,h,pm⟩|⟨rfl,rfl⟩
   ·cases es with
    | nil=>cases h;exact ej ce ct
    | cons e2 es=>exact sR ce ct (I.b .Or (e2::es) (aS (by simp<;>omega) hs) h pm G)
   ·cases es with
    | nil=>exact ej ce ct
    | cons e2 es=>exact qC ce ct (fun pos=>⟨_,oK⟩) (fun pos=>⟨_,oD⟩)
theorem Cg(I:Ih Φ n)(e:Option Expr){o:Option Int}(hs:sizeOf e<n+1)(h:rE Φ e sc ρ=.ok o l)(hp:ay l)(G:aG Φ X sc):OD X ρ e o:=by
 cases e with
 | none=>cases h;exact zd
 | some e =>
  obtain⟨p,l1,l2,h1,p1,h,p2⟩:=aM (show Rs.bnd _ _=_ from h) hp
  have c:=(I.e e (aS (by simp<;>omega) hs) h1 p1 G).ed rfl
  split at h
  ·rename_i i hi
   cases h
   rw[hi]at c
   exact zc c
  ·cases h
end
theorem fA(Φ:Fx):∀n,Ih Φ n
 | 0=>⟨fun _ _ _ _ _ _ _ h=>absurd h (Nat.not_lt_zero _),fun _ _ _ _ _ _ h=>absurd h (Nat.not_lt_zero _),fun _ _ _ _ _ _ _ h=>absurd h (Nat.not_lt_zero _),fun _ _ _ _ _ _ h=>absurd h (Nat.not_lt_zero _)⟩
 | n+1=>⟨fun e _ _ _ _ _ _ hs h hp G=>D5 (fA Φ n) e hs h hp G,fun e _ _ _ _ _ hs h hp G=>Cf (fA Φ n) e hs h hp G,fun op e _ _ _ _ _ hs h hp G=>Ch (fA Φ n) op e hs h hp G,fun e _ _ _ _ _ hs h hp G=>Cg (fA Φ n) e hs h hp G⟩
theorem D6(e:Expr){p:D×Nat}(h:ar Φ e it sc ρ=.ok p l)(hp:ay l)(G:aG Φ X sc):dG X ρ e it p.1 p.2:=(fA Φ _).e e (Nat.lt_succ_self _) h hp G
theorem iD(es:List Expr){p:List D×Nat}(h:ba Φ es sc ρ=.ok p l)(hp:ay l)(G:aG Φ X sc):AD X ρ es p.1 p.2:=(fA Φ _).es es (Nat.lt_succ_self _) h hp G
structure aF(ow:Ow)(H:Hp)(ow':Ow)(H':Hp):Prop where
 keep:∀a o,H a=some o->(nm o\/ow a=none)->H' a=some o
 low:∀a o,H a=some o->ow a=none->ow' a=none
theorem aF.refl(ow:Ow)(H:Hp):aF ow H ow H:=⟨fun _ _ h _=>h,fun _ _ _ h=>h⟩
theorem aF.same(s:ao H H'):aF ow H ow H':=⟨fun a o h _=>s a o h,fun _ _ _ h=>h⟩
theorem aF.trans{ow1 ow2:Ow}{H1 H2:Hp}(a:aF ow H ow1 H1)(b:aF ow1 H1 ow2 H2):aF ow H ow2 H2 :=
 ⟨fun x o h c=>b.keep x o (a.keep x o h c) (c.imp id fun z=>a.low x o h z),fun x o h z=>b.low x o (a.keep x o h (.inr z)) (a.low x o h z)⟩
def aY(H0:Hp)(ow:Ow)(H:Hp):Prop:=∀a o,H0 a=some o->H a=some o/\ow a=none
theorem aY.keep{H0:Hp}(b:aY H0 ow H)(k:aF ow H ow' H'):aY H0 ow' H':=fun a o h=>let ⟨h1,h2⟩:=b a o h;⟨k.keep a o h1 (.inr h2),k.low a o h1 h2⟩
theorem aY.sm{H0:Hp}(b:aY H0 ow H):ao H0 H:=fun a o h=>(b a o h).1
variable{X:Cx}
def jZ(X:Cx)(H0:Hp)(ow:Ow)(H:Hp)(fl:Fl)(D:gU):Prop :=
 match fl with
 | .nx ρ => ∀ow' σ' H',ax X ow' H' σ' ρ->σ'.length=X.N.length->aF ow H ow' H'->D.nx σ' H'
 | .bk ρ => ∀ow' σ' H',ax X ow' H' σ' ρ->σ'.length=X.N.length->aF ow H ow' H'->D.bk σ' H'
 | .ct ρ => ∀ow' σ' H',ax X ow' H' σ' ρ->σ'.length=X.N.length->aF ow H ow' H'->D.ct σ' H'
 | .rt d => ∀v H',ao H0 H'->ae X.K H' (fun a b=>b=true/\H0 a=none) d v->D.rt v H'
theorem jZ.keep{H0:Hp}{D:gU}(p:jZ X H0 ow H fl D)(k:aF ow H ow' H'):jZ X H0 ow' H' fl D:=by
 cases fl with
 | nx ρ=>exact fun ow2 σ2 H2 a b c=>p ow2 σ2 H2 a b (k.trans c)
 | bk ρ=>exact fun ow2 σ2 H2 a b c=>p ow2 σ2 H2 a b (k.trans c)
 | ct ρ=>exact fun ow2 σ2 H2 a b c=>p ow2 σ2 H2 a b (k.trans c)
 | rt d=>exact p
def tJ(X:Cx)(H0:Hp)(ρ:ac)(fl:Fl):TS:=fun D σ H => ∃ow,ax X ow H σ ρ/\σ.length=X.N.length/\aY H0 ow H/\jZ X H0 ow H fl D
def SD(X:Cx)(H0:Hp)(ρ:ac)(st:Stmt)(fl:Fl):Prop:=PS X st (tJ X H0 ρ fl)
def cw(X:Cx)(H0:Hp)(ρ:ac)(st:List Stmt)(fl:Fl):Prop:=ck X st (tJ X H0 ρ fl)
theorem qO{H0:Hp}:cw X H0 ρ [] (.nx ρ):=fun pins s σ H D I ⟨ow,E,hl,B,q⟩=>qS pins s σ H D I (q ow σ H E hl (aF.refl _ _))
theorem cJ{H0:Hp}{ρ1:ac}(h1:SD X H0 ρ st (.nx ρ1))(h2:cw X H0 ρ1 ss fl):cw X H0 ρ (st::ss) fl:=fun pins s σ H D I ⟨ow,E,hl,B,q⟩ =>
 cO h1 h2 pins s σ H D I ⟨ow,E,hl,B,fun ow' σ' H' E' hl' k=>⟨ow',E',hl',B.keep k,q.keep k⟩⟩
theorem jF{H0:Hp}(h1:SD X H0 ρ st fl)(hf:∀ρ',fl ≠ .nx ρ'):cw X H0 ρ (st::ss) fl:=fun pins s σ H D I ⟨ow,E,hl,B,q⟩ =>
 cO h1 eQ pins s σ H D I ⟨ow,E,hl,B,by
  cases fl with
  | nx ρ'=>exact absurd rfl (hf ρ')
  | bk ρ'=>exact q
  | ct ρ'=>exact q
  | rt d=>exact q⟩
theorem AH{H0:Hp}(h:ED X ρ e d k)(hk:k=0\/k=2):SD X H0 ρ (.Return (some e) pos) (.rt d):=fun pins s σ H D I ⟨ow,E,hl,B,q⟩ =>
 oG (h ow) pins s σ H D I ⟨E,fun v H1 s1 r1=>q v H1 (B.sm.trans s1) (r1.imp fun a b p=>by
  rcases hk with rfl|rfl
  ·exact⟨p.1,B.sm.free p.2⟩
  ·refine⟨p.1,p.2.elim (fun z=>?_) B.sm.free⟩
   cases e0:H0 a with
   | none=>rfl
   | some o=>exact absurd (B a o e0).2 z)⟩
theorem zG(E:ax X ow H σ ρ):ax X (fun _=>none) H σ (gz ρ):=by
 refine⟨fun x d o h=>?_,fun a z=>absurd rfl z⟩
 unfold gz at h
 cases e:ρ x with
 | none=>rw[e]at h;cases h
 | some y =>
  rw[e]at h
  cases h
  obtain⟨i,v,h1,h2,h3,h4⟩:=E.get x y.1 y.2 e
  exact⟨i,v,h1,h2,h3,h4.imp fun _ _ _ _=>rfl⟩
theorem yw{H0:Hp}(h:ED X (gz ρ) e d k)(hk:k=0\/k=2):SD X H0 ρ (.Return (some e) pos) (.rt d):=fun pins s σ H D I ⟨ow,E,hl,B,q⟩ =>
 oG (h fun _=>none) pins s σ H D I ⟨zG E,fun v H1 s1 r1=>q v H1 (B.sm.trans s1) (r1.imp fun a b p=>by
  rcases hk with rfl|rfl
  ·exact⟨p.1,B.sm.free p.2⟩
  ·exact⟨p.1,p.2.elim (fun z=>absurd rfl z) B.sm.free⟩)⟩
theorem yz{H0:Hp}(h:ED X ρ e d k)(hc:∃f p args ks cp,e=.Call (.Name f p) args ks cp):SD X H0 ρ (.Expr e pos) (.nx ρ):=fun pins s σ H D I ⟨ow,E,hl,B,q⟩=>by
 obtain⟨f,p,args,ks,cp,rfl⟩:=hc
 exact iU (h ow) rfl pins s σ H D I ⟨E,fun v H1 s1 r1=>q ow σ H1 (E.same s1) hl (aF.same s1)⟩
theorem yv{H0:Hp}:SD X H0 ρ (.Return none pos) (.rt .non):=fun pins s σ H D I ⟨ow,E,hl,B,q⟩=>yK pins s σ H D I (q .non H B.sm (by rw[ae]))
theorem yx{H0:Hp}:SD X H0 ρ (.Pass pos) (.nx ρ):=fun pins s σ H D I ⟨ow,E,hl,B,q⟩=>yL pins s σ H D I (q ow σ H E hl (aF.refl _ _))
theorem vW{H0:Hp}:SD X H0 ρ (.Break pos) (.bk ρ):=fun pins s σ H D I ⟨ow,E,hl,B,q⟩=>v7 pins s σ H D I (q ow σ H E hl (aF.refl _ _))
theorem yA{H0:Hp}:SD X H0 ρ (.Continue pos) (.ct ρ):=fun pins s σ H D I ⟨ow,E,hl,B,q⟩=>qw pins s σ H D I (q ow σ H E hl (aF.refl _ _))
theorem Dv{H0:Hp}{a b:List Stmt}(hc:TD X ρ c t)(h:if t=true then cw X H0 ρ a fl else cw X H0 ρ b fl):SD X H0 ρ (.If c a b pos) fl:=by
 cases t with
 | true =>
  intro pins s σ H D I ⟨ow,E,hl,B,q⟩
  exact xq (hc ow) h eQ pins s σ H D I ⟨E,fun H1 s1=>by
   show if true=true then _ else _
   rw[if_pos rfl]
   exact⟨ow,E.same s1,hl,B.keep (aF.same s1),q.keep (aF.same s1)⟩⟩
 | false =>
  intro pins s σ H D I ⟨ow,E,hl,B,q⟩
  exact xq (hc ow) eQ h pins s σ H D I ⟨E,fun H1 s1=>by
   show if false=true then _ else _
   rw[if_neg Bool.false_ne_true]
   exact⟨ow,E.same s1,hl,B.keep (aF.same s1),q.keep (aF.same s1)⟩⟩
theorem mv{H1:Hp}(hN:X.N.Nodup)(hl:σ.length=X.N.length)(E:ax X ow H σ ρ)(sm:ao H H1)(hi:X.N[i]?=some x)(hv:fL X.env.scope x)(r:ae X.K H1 (Kp ow H 0) d v) :
  ∃ow',ax X ow' H1 (σ.set i (some v)) (aL ρ x (d,true))/\aF ow H ow' H1:=by
 classical
 let ow':Ow:=fun a=>if H a=none/\∃o,H1 a=some o then some (some x)else ow a
 have o1:∀a o,H a=some o->ow' a=ow a:=fun a o h=>if_neg (fun z=>by rw[h]at z;cases z.1)
 have E1:ax X ow' H1 σ ρ:=⟨fun y e o h=>by
  obtain⟨j,w,e1,e2,e3,e4⟩:=E.get y e o h
  refine⟨j,w,e1,e2,e3,ae.same sm (e4.impH (fun a ob ha p=>?_) fun a p=>?_)⟩
  ·cases o with
   | true=>exact⟨p.1,(o1 a ob ha).trans p.2⟩
   | false=>exact fun z=>(o1 a ob ha).trans (p z)
  ·cases o with
   | true=>cases p.1
   | false=>exact fun z=>(by cases z),fun a ha=>by
  by_cases hz:H a=none/\∃o,H1 a=some o
  ·exact hz.2
  ·have:ow' a=ow a:=if_neg hz
   rw[this]at ha
   exact(E.own.same sm) a ha⟩
 refine⟨ow',cD hN hl E1 hi hv (r.impH (fun a o ha p=>⟨rfl,if_pos ⟨p.2,o,ha⟩⟩) fun a p=>(by cases p.1)),fun a o h _=>sm a o h,fun a o h z=>(o1 a o h).trans z⟩
theorem ef{t:Option Expr}(h:gr e=false):swapsWith e t n env=pure false:=by
 cases e<;>first|rfl|cases h
theorem oq{H0:Hp}{o:Bool}(G:aG Φ X sc)(hx:bD sc x=true)(h:ED X ρ e d k)(ho:(k=0/\o=true)\/(k=1/\o=false))(hs:swapsWith e (some (.Name x p)) pos.line X.env=pure false) :
  SD X H0 ρ (.Assign [.Name x p] e pos) (.nx (aL ρ x (d,o))):=by
 obtain⟨g1,g2,g3,i,g4⟩:=db G hx
 intro pins s σ H D I ⟨ow,E,hl,B,q⟩
 refine uc (i:=i) G.nd g4 g1 (h ow) hs g3 pins s σ H D I ⟨E,fun v H1 s1 r1=>?_⟩
 show D.nx (σ.set i (some v)) H1
 rcases ho with⟨rfl,rfl⟩|⟨rfl,rfl⟩
 ·obtain⟨ow',E',k'⟩:=mv G.nd hl E s1 g4 g2 r1
  exact q ow' _ H1 E' (by rw[List.length_set];exact hl) k'
 ·exact q ow _ H1 (cD G.nd hl (E.same s1) g4 g2 r1) (by rw[List.length_set];exact hl) (aF.same s1)
theorem eG:swapsWithSole [.Tuple es n p] e k env=pure false:=by
 cases e<;>rfl
theorem mQ{i:Expr}:swapsWithSole [.Subscript a i p] e k env=pure false:=by
 cases e<;>rfl
def Ge(K:W.Frag)(n:Nat)(t:lr):TG:=fun v σ H Q => ∃a xs,v=.ref a/\bM K H a xs/\xs.length=n/\t xs σ H Q
theorem AY{t:lr}(hc:X.calm=true)(h:rK X es t)
  (hn:(assignEach es X.env).length=n) (hst:(assignEach es X.env).findIdx? (·.1)=none):PG X (.Tuple es k pos) (Ge X.K n t):=by
 intro pins s σ H v u Q I r hw
 obtain⟨a,xs,e1,hq,hl,hw⟩:=hw
 subst e1
 cases r
 obtain⟨its,rv,pl,hz⟩:=I.list hq
 have hsz:(assignEach es X.env).length=its.toArray.size:=by simp[hn,<- hl,rv.length]
 rw[assign_Tuple]
 refine wpAny_bind (wpAny_standAt ?_)
 unfold unpack
 rw[hst,hsz]
 refine wpAny_bind (wpAny_holding (W.kun_itemsOf (I.ok.hd hc) pl.isList fun h' hx=>?_))
 have I1:ai X pins σ H { s with heap:=h' }:=I.kept (t':=s.toks) fun b o e=>hx b o (Nat.ne_of_lt (Heap.lt_size e)) e
 exact h pins _ σ H xs _ Q I1 (by simpa using rv) hw
theorem km{H1:Hp}(o:b7 ow H)(hf:aq ds=true\/k<=1)(r:ah X.K H1 (Kp ow H k) ds vs):ah X.K H1 (fun a b=>b=true->ow a=none) ds vs:=by
 rcases hf with hf|hf
 ·exact r.flat _ hf
 ·exact r.imp fun a b p hb=>by subst hb;exact cP o hf p
theorem lD(G:aG Φ X sc)(ht:tM sc es e=false):swappedStores [.Tuple es n p] e X.env=pure none:=by
 unfold tM at ht
 cases hte:o7 e with
 | false=>cases e<;>first|rfl|cases hte
 | true =>
  rw[hte]at ht
  have hc:pM sc es e=true:=by simpa using ht
  unfold pM at hc
  split at hc
  ·rename_i x px y py a b m q
   have k1:X.env.kindOf x=some .cell:=G.cc x (by simpa using hc)
   unfold swappedStores
   dsimp only
   split
   ·rfl
   ·split
    ·rfl
    ·rw[if_pos]
     rw[List.filterMap_cons_none (by simp[k1])]
     have:∀l:List Str,l.length<=1->(l.length != [Expr.Name x px,Expr.Name y py].length || l.eraseDups.length != l.length)=true:=fun l hl=>by
      have:(l.length != [Expr.Name x px,Expr.Name y py].length)=true:=by simp;omega
      rw[this];rfl
     exact this _ (Nat.le_trans (List.length_filterMap_le _ _) (Nat.le_refl _))
  ·cases hc
theorem AF{H0:Hp}(G:aG Φ X sc)(h:ED X ρ e d k)(hd:gH d=some ds)(hf:aq ds=true\/k<=1)(hb:aK sc es ds ρ=some ρ')(ht:tM sc es e=false) :
  SD X H0 ρ (.Assign [.Tuple es n p] e pos) (.nx ρ'):=by
 obtain⟨t,h1,h2,h3,h4⟩:=il G hb
 intro pins s σ H D I ⟨ow,E,hl,B,q⟩
 have fin:∀H1 vs,ao H H1->ah X.K H1 (Kp ow H k) ds vs->t vs σ H1 D.nx:=fun H1 vs s1 rl=>h4 ow vs σ H1 D.nx hl (E.same s1) (km E.own hf rl) fun σ' hl' E'=>q ow σ' H1 E' hl' (aF.same s1)
 rcases gG hd with rfl|rfl
 ·refine ij (h ow) (oJ (n:=_) G.calm h1 h2 h3) eG (lD G ht) rfl pins s σ H D I ⟨E,fun v H1 s1 r1=>?_⟩
  obtain⟨a,vs,rfl,hs,rl⟩:=hZ r1
  exact⟨a,vs,rfl,hs,rl.length.symm,fin H1 vs s1 rl⟩
 ·refine ij (h ow) (AY (n:=_) G.calm h1 h2 h3) eG (lD G ht) rfl pins s σ H D I ⟨E,fun v H1 s1 r1=>?_⟩
  obtain⟨a,vs,rfl,hs,rl⟩:=ka r1
  exact⟨a,vs,rfl,hs,rl.length.symm,fin H1 vs s1 rl⟩
theorem Dy{a b:D}(h:ah K H P [a,b] vs):∃x y,vs=[x,y]/\ae K H P a x/\ae K H P b y:=by
 rw[ah]at h
 obtain⟨x,r,rfl,h1,h⟩:=h
 rw[ah]at h
 obtain⟨y,r,rfl,h2,h⟩:=h
 rw[ah]at h
 subst h
 exact⟨x,y,rfl,h1,h2⟩
theorem yy{H0:Hp}{pt:Pos}{p:D×Nat}(G:aG Φ X sc)(h:ED X ρ e p.1 p.2)(ho:wd sc es p=true)(ht:tM sc es e=false) :
  SD X H0 ρ (.Assign [.Tuple es n pt] e pos) (.nx (v4 es p ρ)):=by
 obtain⟨d,k⟩:=p
 unfold wd at ho
 split at ho
 ·rename_i x px y py d1 d2 e0 e1
  have e0:d=_:=e0
  have e1:k=_:=e1
  subst e0 e1
  simp only[Bool.and_eq_true,Bool.not_eq_true',decide_eq_false_iff_not]at ho
  obtain⟨⟨⟨⟨f1,_⟩,hxy⟩,hx⟩,hy⟩:=ho
  obtain⟨g1,g2,g3,i,g4⟩:=db G hx
  obtain⟨j1,j2,j3,j,j4⟩:=db G hy
  have hij:i≠j:=fun z=>by subst z;rw[g4]at j4;exact hxy (Option.some.inj j4)
  intro pins s σ H D I ⟨ow,E,hl,B,q⟩
  refine ij (h ow) (oJ (n:=2) G.calm (jN (fj (i:=i) G.nd g4 g1 g3) (jN (fj (i:=j) G.nd j4 j1 j3) qU rfl) rfl) rfl rfl) eG (lD G ht) rfl pins s σ H D I ⟨E,fun v H1 s1 r1=>?_⟩
  obtain⟨a,vs,rfl,hs,rl⟩:=hZ r1
  obtain⟨v1,v2,rfl,r2,r3⟩:=Dy rl
  refine⟨a,[v1,v2],rfl,hs,rfl,v1,[v2],rfl,v2,[],rfl,rfl,?_⟩
  obtain⟨ow',E',k'⟩:=mv G.nd hl E s1 j4 j2 r3
  have hl':(σ.set j (some v2)).length=X.N.length:=by rw[List.length_set];exact hl
  have E2:=cD (o:=false) G.nd hl' E' g4 g2 (r2.flat _ f1)
  rw[List.set_comm _ _ hij]
  exact q ow' _ H1 E2 (by rw[List.length_set];exact hl') k'
 ·cases ho
theorem rV{y:Str}{b:Expr}(G:aG Φ X sc)(hk:X.env.scope.kind=.function)(h:kB sc x y px py a b=true)(ha:∀x p,a ≠ .Starred x p)(hb:∀x p,b ≠ .Starred x p) :
  swappedStores [.Tuple [.Name x px,.Name y py] n p] (.Tuple [a,b] n2 p2) X.env=pure (some [x,y]):=by
 unfold kB at h
 simp only[Bool.and_eq_true,Bool.not_eq_true',beq_iff_eq,decide_eq_false_iff_not]at h
 obtain⟨⟨⟨⟨⟨h1,h2⟩,h3⟩,h4⟩,h5⟩,h6⟩:=h
 have k1:X.env.kindOf x=some .local:=G.lc x h1
 have k2:X.env.kindOf y=some .local:=G.lc y h2
 have bk:X.env.blockKind=.function:=by unfold Env.blockKind;rw[hk];rfl
 have an:∀f:Expr->Bool,(∀e,(∀x p,e ≠ .Starred x p)->f e=false) -> ¬ ([a,b].any f=true):=fun f hf=>by simp[hf a ha,hf b hb]
 have fm:∀f:Expr->Option Str,f (.Name x px)=some x->f (.Name y py)=some y->[Expr.Name x px,Expr.Name y py].filterMap f=[x,y]:=fun f h1 h2=>by simp[h1,h2]
 have ed:[x,y].eraseDups=[x,y]:=by
  have e1:(!(y==x))=true:=by simp;exact fun z=>h4 z.symm
  rw[List.eraseDups_cons,List.filter_cons_of_pos (p:=fun b => !b==x) e1,List.filter_nil]
  rfl
 unfold swappedStores
 dsimp only
 rw[bk]
 refine(if_neg (by simp)).trans ?_
 refine(if_neg (an _ fun e he=>by cases e<;>first|rfl|exact absurd rfl (he _ _))).trans ?_
 rw[fm _ (by show(if (X.env.kindOf x==some NameKind.local&&px.line==px.line)=true then some x else none)=some x;rw[k1];simp) (by show(if (X.env.kindOf y==some NameKind.local&&py.line==px.line)=true then some y else none)=some y;rw[k2,h3];simp)]
 rw[ed]
 refine(if_neg (by simp)).trans ?_
 rw[h5,h6]
 rfl
theorem AI{H0:Hp}{b:Expr}{y:Str}{u v:D}(G:aG Φ X sc)(h:AD X ρ [a,b] [u,v] k)(hf:aq [u,v]=true\/k<=1)(hp:kB sc x y px py a b=true)(ha:∀x p,a ≠ .Starred x p)(hb:∀x p,b ≠ .Starred x p) :
  SD X H0 ρ (.Assign [.Tuple [.Name x px,.Name y py] n p] (.Tuple [a,b] n2 p2) pos) (.nx (aL (aL ρ x (u,false)) y (v,false))):=by
 have hp0:=hp
 unfold kB at hp
 simp only[Bool.and_eq_true,Bool.not_eq_true',beq_iff_eq,decide_eq_false_iff_not]at hp
 obtain⟨⟨⟨⟨⟨l1,l2⟩,_⟩,hxy⟩,_⟩,_⟩:=hp
 obtain⟨g1,g2,g3,i,g4⟩:=db (x:=x) G (by unfold bD;rw[l1];rfl)
 obtain⟨j1,j2,j3,j,j4⟩:=db (x:=y) G (by unfold bD;rw[l2];rfl)
 have hij:i≠j:=by intro z;subst z;rw[g4]at j4;cases j4;exact hxy rfl
 intro pins s σ H D I ⟨ow,E,hl,B,q⟩
 refine AT (i:=i) (j:=j) G.calm G.nd g4 j4 hij (G.lc x l1) (G.lc y l2) (h ow) (rV G I.ok.kind hp0 ha hb) eG pins s σ H D I ⟨E,fun vs H1 s1 r1=>?_⟩
 have rs:=km E.own hf r1
 rw[ah]at rs
 obtain⟨v1,r,rfl,rv1,rs⟩:=rs
 obtain⟨v2,rfl,rv2⟩:=rs.only
 refine⟨v1,v2,rfl,?_⟩
 have E1:=cD (o:=false) G.nd hl (E.same s1) g4 g2 rv1
 have hl1:(σ.set i (some v1)).length=X.N.length:=by rw[List.length_set];exact hl
 exact q ow _ H1 (cD (o:=false) G.nd hl1 E1 j4 j2 rv2) (by rw[List.length_set];exact hl1) (aF.same s1)
theorem vf{H1:Hp}{a:Addr}(E:ax X ow H1 σ ρ)(hi:X.N[i]?=some x)(hs:σ[i]?=some (some (.ref a)))
  (hv:fL X.env.scope x) (ha:H1 a=some (.lst vs)) (ho:ow a=some (some x)) (f:aq l'=true) (r:ah X.K H1 (fun _ _=>True) l' vs') :
  ax X ow (az H1 a (.lst vs')) σ (aL ρ x (.lst l',true)):=by
 have st:∀{P:aQ},(P a true->False)->cu P P H1 (az H1 a (.lst vs')):=fun {P} h=>⟨fun b o hb hn=>by rw[al (fun z=>by subst z;rw[ha]at hb;cases hb;exact hn)];exact hb,fun b ws hb p=>by rw[al (fun z=>by subst z;exact h p)];exact hb,fun _ _ _ p=>p,fun _ p=>p⟩
 have r':ah X.K (az H1 a (.lst vs')) (im ow x true) l' vs':=ah.flat _ f ((r.flat (fun _ _=>False) f).mono (st fun z=>z))
 refine⟨fun y e o h=>?_,fun b hb=>?_⟩
 ·rw[bq]at h
  by_cases hy:y=x
  ·subst hy
   rw[if_pos rfl]at h
   cases h
   exact⟨i,.ref a,hi,hv,hs,by rw[ae];exact⟨a,vs',true,rfl,aD,⟨rfl,ho⟩,r'⟩⟩
  ·rw[if_neg hy]at h
   obtain⟨j,w,e1,e2,e3,e4⟩:=E.get y e o h
   refine⟨j,w,e1,e2,e3,e4.mono (st fun p=>?_)⟩
   cases o with
   | true=>have:=p.2;rw[ho]at this;cases this;exact hy rfl
   | false=>have:=p rfl;rw[ho]at this;cases this
 ·by_cases hz:b=a
  ·subst hz;exact⟨_,aD⟩
  ·rw[al hz];exact E.own b hb
theorem Be{l:List D}(E:ax X ow H σ ρ)(h:ρ x=some (.lst l,true)):∃(i:Nat) (a:Addr) (vs:List V),X.N[i]?=some x/\fL X.env.scope x/\σ[i]?=some (some (.ref a))/\H a=some (.lst vs)/\ow a=some (some x)/\ah X.K H (fun _ _=>True) l vs:=by
 obtain⟨i,v,e1,e2,e3,e4⟩:=E.get x _ _ h
 rw[ae]at e4
 obtain⟨a,vs,b,rfl,hl,hp,rl⟩:=e4
 cases hp.1
 exact⟨i,a,vs,e1,e2,e3,hl,hp.2,rl.imp fun _ _ _=>True.intro⟩
theorem sI{H1:Hp}{a:Addr}(sm:ao H H1)(h0:H a=some (.lst vs))(ho:ow a=some (some x)):aF ow H ow (az H1 a (.lst vs')) :=
 ⟨fun b o h c=>by
  rw[al (fun z=>by
   subst z
   rw[h0]at h;cases h
   rcases c with c|c
   ·exact c
   ·rw[ho]at c;cases c)]
  exact sm b o h,fun _ _ _ z=>z⟩
theorem dn(I:ai X pins σ H s){a:Addr}{o:Obj}(h:X.K.lookup a=some o):H a=none:=(I.bs a o (I.ok.mod.kin a o h)).2
mutual
def D.lsz:D->Nat
 | .lst l=>1+fV l
 | .tup l=>fV l
 | _=>0
def fV:List D->Nat
 | []=>0
 | d::l=>d.lsz+fV l
end
theorem wm(I:ai X pins σ H s){a:Addr}(ha:H a=some (.lst vs))(h:ae X.K H P d (.ref a)):∃l,d=.lst l:=by
 cases d with
 | lst l=>exact⟨l,rfl⟩
 | tup l =>
  rw[ae]at h
  obtain⟨a',vs',e,hs,_⟩:=h
  cases e
  rcases hs with(q|⟨o,q⟩)|⟨o,its,n,q,_⟩
  ·rw[ha]at q;cases q
  ·rw[ha]at q;cases q
  ·rw[dn I q]at ha;cases ha
 | dct _ _=>rw[ae]at h;obtain⟨_,_,a',_,e,hl,_⟩:=h;cases e;rw[ha]at hl;cases hl
 | dcf _ _=>rw[ae]at h;obtain⟨_,a',_,_,e,hl,_⟩:=h;cases e;rw[ha]at hl;cases hl
 | sn m=>rw[ae]at h;obtain⟨a',S,e,hl⟩:=h;cases e;rw[ha]at hl;cases hl
 | obj n ns es=>rw[ae]at h;obtain⟨_,_,a',C,dx,vs',e,_,_,hl,_⟩:=h;cases e;rw[ha]at hl;cases hl
 | cls n=>rw[ae]at h;obtain⟨C,o',e,_,hl,_⟩:=h;cases e;rw[dn I hl]at ha;cases ha
 | xc n p =>
  rw[ae]at h
  rcases h.at with⟨o',hl,_⟩|⟨C,od,hl⟩
  ·rw[dn I hl]at ha;cases ha
  ·rw[ha]at hl;cases hl
 | _=>rw[ae]at h;cases h
theorem vL(I:ai X pins σ H s)(hP:∀a b,P a b->b=true){a:Addr}(ha:bg X.K H a vs)(h:ae X.K H P d (.ref a)):∃l,d=.tup l/\ah X.K H P l vs:=by
 have no:∀o,H a=some o->(∀xs,o ≠ .tup xs)->(∀p q,o ≠ .frz p q)->False:=fun o e h1 h2=>by
  rcases ha with(q|⟨o',q⟩)|⟨o',its,n,q,_⟩
  ·rw[e]at q;cases q;exact h1 _ rfl
  ·rw[e]at q;cases q;exact h2 _ _ rfl
  ·rw[dn I q]at e;cases e
 cases d with
 | lst l =>
  rw[ae]at h
  obtain⟨a',vs',b,e,hl,p,_⟩:=h
  cases e
  cases hP _ _ p
  exact(no _ hl (fun _ z=>nomatch z) fun _ _ z=>nomatch z).elim
 | tup l =>
  rw[ae]at h
  obtain⟨a',vs',e,hs,rl⟩:=h
  cases e
  have:=I.tuple_inj ha hs
  subst this
  exact⟨l,rfl,rl⟩
 | dct _ _=>rw[ae]at h;obtain⟨_,_,a',_,e,hl,_⟩:=h;cases e;exact(no _ hl (fun _ z=>nomatch z) fun _ _ z=>nomatch z).elim
 | dcf _ _ =>
  rw[ae]at h
  obtain⟨_,a',o2,_,e,hl,_⟩:=h
  cases e
  rcases ha with(q|⟨o',q⟩)|⟨o',its,n,q,_⟩
  ·rw[q]at hl;cases hl
  ·rw[q]at hl;cases hl
  ·rw[dn I q]at hl;cases hl
 | sn m=>rw[ae]at h;obtain⟨a',S,e,hl⟩:=h;cases e;exact(no _ hl (fun _ z=>nomatch z) fun _ _ z=>nomatch z).elim
 | obj n ns es=>rw[ae]at h;obtain⟨_,_,a',C,dx,vs',e,_,_,hl,_⟩:=h;cases e;exact(no _ hl (fun _ z=>nomatch z) fun _ _ z=>nomatch z).elim
 | cls n =>
  rw[ae]at h
  obtain⟨C,o',e,_,hl,ht,_⟩:=h
  cases e
  rcases ha with(q|⟨o,q⟩)|⟨o,its,n,q,hc,_⟩
  ·rw[dn I hl]at q;cases q
  ·rw[dn I hl]at q;cases q
  ·rw[hl]at q;cases q;rw[hc]at ht;injection ht with ht;exact absurd ht (by decide)
 | xc n p =>
  rw[ae]at h
  rcases h.at with⟨o',hl,ht⟩|⟨C,od,hl⟩
  ·rcases ha with(q|⟨o,q⟩)|⟨o,its,n,q,hc,_⟩
   ·rw[dn I hl]at q;cases q
   ·rw[dn I hl]at q;cases q
   ·rw[hl]at q;cases q;rw[hc]at ht;injection ht with ht;exact absurd ht (by decide)
  ·exact(no _ hl (fun _ z=>nomatch z) fun _ _ z=>nomatch z).elim
 | _=>rw[ae]at h;cases h
mutual
theorem oB{pins:List (Addr×Obj)}{σ:L2.St}{H:Hp}{s:Shared}(I:ai X pins σ H s){P:aQ}(hP:∀a b,P a b->b=true):∀(d d':D) (v:V),ae X.K H P d v->ae X.K H P d' v->d.lsz<=d'.lsz
 | .tup l,d',v,h,h'=>by
  rw[ae]at h
  obtain⟨a,vs,rfl,hs,rl⟩:=h
  obtain⟨l',rfl,rl'⟩:=vL I hP hs h'
  rw[D.lsz,D.lsz];exact ib I hP l l' vs rl rl'
 | .lst l,d',v,h,h'=>by
  rw[ae]at h
  obtain⟨a,vs,b,rfl,hs,p,rl⟩:=h
  cases hP _ _ p
  replace hs:H a=some (.lst vs):=hs
  obtain⟨l',rfl⟩:=wm I hs h'
  rw[ae]at h'
  obtain⟨a',vs',b,e,hl,p',rl'⟩:=h'
  cases e
  cases hP _ _ p'
  replace hl:H a=some (.lst vs'):=hl
  rw[hs]at hl;cases hl
  rw[D.lsz,D.lsz]
  exact Nat.add_le_add_left (ib I hP l l' vs rl rl') 1
 | .non,_,_,_,_=>Nat.zero_le _
 | .bl _,_,_,_,_=>Nat.zero_le _
 | .int _,_,_,_,_=>Nat.zero_le _
 | .str _,_,_,_,_=>Nat.zero_le _
 | .dct _ _,_,_,_,_=>Nat.zero_le _
 | .typ _,_,_,_,_=>Nat.zero_le _
 | .dcf _ _,_,_,_,_=>Nat.zero_le _
 | .sn _,_,_,_,_=>Nat.zero_le _
 | .obj _ _ _,_,_,_,_=>Nat.zero_le _
 | .cls _,_,_,_,_=>Nat.zero_le _
 | .xc _ _,_,_,_,_=>Nat.zero_le _
theorem ib{pins:List (Addr×Obj)}{σ:L2.St}{H:Hp}{s:Shared}(I:ai X pins σ H s){P:aQ}(hP:∀a b,P a b->b=true):∀(l l':List D) (vs:List V),ah X.K H P l vs->ah X.K H P l' vs->fV l<=fV l'
 | [],l',vs,h,h'=>Nat.zero_le _
 | d::l,l',vs,h,h'=>by
  rw[ah]at h
  obtain⟨v,r,rfl,h1,h2⟩:=h
  cases l' with
  | nil=>rw[ah]at h';cases h'
  | cons d' l' =>
   rw[ah]at h'
   obtain⟨v',r',e,h1',h2'⟩:=h'
   cases e
   rw[fV,fV]
   exact Nat.add_le_add (oB I hP d d' v h1 h1') (ib I hP l l' r h2 h2')
end
mutual
theorem AN{pins:List (Addr×Obj)}{σ:L2.St}{H:Hp}{s:Shared}(I:ai X pins σ H s){P:aQ}(hP:∀a b,P a b->b=true){A:Addr}{l:List D}(hA:ae X.K H P (.lst l) (.ref A)):∀(d:D) (v:V),d.lsz<(D.lst l).lsz->ae X.K H P d v->ae X.K H (fun a b=>P a b/\a≠A) d v
 | .tup m,v,hs,h=>by
  rw[ae]at h⊢
  obtain⟨a,vs,e,h1,h2⟩:=h
  exact⟨a,vs,e,h1,iT I hP hA m vs (by rw[D.lsz]at hs;exact hs) h2⟩
 | .lst m,v,hs,h=>by
  have h0:=h
  rw[ae]at h⊢
  obtain⟨a,vs,b,e,h1,p,h2⟩:=h
  refine⟨a,vs,b,e,h1,⟨p,fun z=>?_⟩,iT I hP hA m vs (by rw[D.lsz]at hs;omega) h2⟩
  subst e z
  have:=oB I hP _ _ _ hA h0
  exact absurd (Nat.lt_of_lt_of_le hs this) (Nat.lt_irrefl _)
 | .non,v,_,h=>by rw[ae]at h⊢;exact h
 | .bl _,v,_,h=>by rw[ae]at h⊢;exact h
 | .int _,v,_,h=>by rw[ae]at h⊢;exact h
 | .str _,v,_,h=>by rw[ae]at h⊢;exact h
 | .dct ks es,v,_,h=>by
  rw[ae]at h⊢
  obtain⟨f,e0,a,vs,e,h1,p,r⟩:=h
  refine⟨f,e0,a,vs,e,h1,⟨p,fun z=>?_⟩,r.flat _ f⟩
  subst z
  rw[ae]at hA
  obtain⟨a2,vs2,b,e2,hl,p2,_⟩:=hA
  cases e2
  cases hP _ _ p2
  replace hl:H a=some (.lst vs2):=hl
  rw[h1]at hl;cases hl
 | .typ _,v,_,h=>by rw[ae]at h⊢;exact h
 | .dcf _ _,v,_,h=>by rw[ae]at h⊢;exact h
 | .sn _,v,_,h=>by rw[ae]at h⊢;exact h
 | .obj n ns es,v,_,h=>h.flat _ rfl
 | .cls n,v,_,h=>h.flat _ rfl
 | .xc n p,v,_,h=>h.flat _ rfl
theorem iT{pins:List (Addr×Obj)}{σ:L2.St}{H:Hp}{s:Shared}(I:ai X pins σ H s){P:aQ}(hP:∀a b,P a b->b=true){A:Addr}{l:List D}(hA:ae X.K H P (.lst l) (.ref A)):∀(m:List D) (vs:List V),fV m<(D.lst l).lsz->ah X.K H P m vs->ah X.K H (fun a b=>P a b/\a≠A) m vs
 | [],vs,_,h=>by rw[ah]at h⊢;exact h
 | d::m,vs,hs,h=>by
  rw[ah]at h⊢
  obtain⟨v,r,e,h1,h2⟩:=h
  exact⟨v,r,e,AN I hP hA d v (by rw[fV]at hs;omega) h1,iT I hP hA m r (by rw[fV]at hs;omega) h2⟩
end
theorem Bf{l:List D}(I:ai X pins σ H s)(E:ax X ow H σ ρ)(h:ρ x=some (.lst l,true)):∃(i:Nat) (a:Addr) (vs:List V),X.N[i]?=some x/\fL X.env.scope x/\σ[i]?=some (some (.ref a))/\H a=some (.lst vs)/\ow a=some (some x)/\ah X.K H (fun b c=>im ow x true b c/\b≠a) l vs:=by
 obtain⟨i,v,e1,e2,e3,e4⟩:=E.get x _ _ h
 have e5:=e4
 rw[ae]at e4
 obtain⟨a,vs,b,rfl,hl,hp,rl⟩:=e4
 cases hp.1
 exact⟨i,a,vs,e1,e2,e3,hl,hp.2,iT I (fun _ _ p=>p.1) e5 l vs (by rw[D.lsz];omega) rl⟩
theorem zE{H1:Hp}{a:Addr}(E:ax X ow H σ ρ)(sm:ao H H1)(hi:X.N[i]?=some x)(hs:σ[i]?=some (some (.ref a)))
  (hv:fL X.env.scope x) (h0:H a=some (.lst vs)) (ho:ow a=some (some x)) (r:ah X.K H1 (fun b c=>(im ow x true b c/\b≠a)\/Kp ow H 0 b c) l' vs') :
  ∃ow',ax X ow' (az H1 a (.lst vs')) σ (aL ρ x (.lst l',true))/\aF ow H ow' (az H1 a (.lst vs')):=by
 classical
 let ow':Ow:=fun a=>if H a=none/\∃o,H1 a=some o then some (some x)else ow a
 have o1:∀a o,H a=some o->ow' a=ow a:=fun a o h=>if_neg (fun z=>by rw[h]at z;cases z.1)
 have ha:H1 a=some (.lst vs):=sm _ _ h0
 have ho':ow' a=some (some x):=(o1 a _ h0).trans ho
 have E1:ax X ow' H1 σ ρ:=⟨fun y e o h=>by
  obtain⟨j,w,e1,e2,e3,e4⟩:=E.get y e o h
  refine⟨j,w,e1,e2,e3,ae.same sm (e4.impH (fun a ob ha p=>?_) fun a p=>?_)⟩
  ·cases o with
   | true=>exact⟨p.1,(o1 a ob ha).trans p.2⟩
   | false=>exact fun z=>(o1 a ob ha).trans (p z)
  ·cases o with
   | true=>cases p.1
   | false=>exact fun z=>(by cases z),fun a ha=>by
  by_cases hz:H a=none/\∃o,H1 a=some o
  ·exact hz.2
  ·have:ow' a=ow a:=if_neg hz
   rw[this]at ha
   exact(E.own.same sm) a ha⟩
 have st:∀{P:aQ},(P a true->False)->cu P P H1 (az H1 a (.lst vs')):=fun {P} h=>⟨fun b o hb hn=>by rw[al (fun z=>by subst z;rw[ha]at hb;cases hb;exact hn)];exact hb,fun b ws hb p=>by rw[al (fun z=>by subst z;exact h p)];exact hb,fun _ _ _ p=>p,fun _ p=>p⟩
 have r1:ah X.K H1 (fun b c=>im ow' x true b c/\b≠a) l' vs':=r.impH (fun b o hb p=>by
  rcases p with⟨p,hne⟩|p
  ·refine⟨⟨rfl,?_⟩,hne⟩
   by_cases hz:H b=none/\∃o,H1 b=some o
   ·exact if_pos hz
   ·exact(if_neg hz).trans p.2
  ·exact⟨⟨rfl,if_pos ⟨p.2,o,hb⟩⟩,fun z=>by subst z;rw[p.2]at h0;cases h0⟩) fun b p=>by
  rcases p with⟨p,_⟩|p
  ·cases p.1
  ·cases p.1
 have r':ah X.K (az H1 a (.lst vs')) (im ow' x true) l' vs':=(r1.mono (st fun z=>z.2 rfl)).imp fun _ _ p=>p.1
 refine⟨ow',⟨fun y e o h=>?_,fun b hb=>?_⟩,fun b o h c=>?_,fun b o h z=>(o1 b o h).trans z⟩
 ·rw[bq]at h
  by_cases hy:y=x
  ·subst hy
   rw[if_pos rfl]at h
   cases h
   exact⟨i,.ref a,hi,hv,hs,by rw[ae];exact⟨a,vs',true,rfl,aD,⟨rfl,ho'⟩,r'⟩⟩
  ·rw[if_neg hy]at h
   obtain⟨j,w,e1,e2,e3,e4⟩:=E1.get y e o h
   refine⟨j,w,e1,e2,e3,e4.mono (st fun p=>?_)⟩
   cases o with
   | true=>have:=p.2;rw[ho']at this;cases this;exact hy rfl
   | false=>have:=p rfl;rw[ho']at this;cases this
 ·by_cases hz:b=a
  ·subst hz;exact⟨_,aD⟩
  ·rw[al hz];exact E1.own b hb
 ·rw[al (fun z=>by
   subst z
   rw[h0]at h;cases h
   rcases c with c|c
   ·exact c
   ·rw[ho]at c;cases c)]
  exact sm b o h
theorem dm{env:Env}{pos:Pos}:∀{es:List Expr},(∀e∈es,∀x p,e ≠ .Starred x p)->(backTo pos (starEach es env)).all (fun x => !x.1)=true
 | [],_=>rfl
 | e::es,h=>by
  have ih:=dm (env:=env) (es:=es) (pos:=pos) fun x hx=>h x (List.mem_cons_of_mem _ hx)
  have he:=h e List.mem_cons_self
  cases e<;>first|exact absurd rfl (he _ _)|exact ih
theorem AJ{H0:Hp}{M:List D->List D->Nat->Rs (List D)}{p4:Pos}{l:List D}(hcalm:X.calm=true)(hM:gT m M)(hx:ρ x=some (.lst l,true))(h:AD X ρ args ds k)(hst:∀e∈args,∀y p,e ≠ .Starred y p)(hlen:args.length=ds.length)
  (hn:cW x=true) (hln:(ap.endLine==cp.line)=true) (hm:M l ds k=.ok l' o) (hp:ay o):SD X H0 ρ (.Expr (.Call (.Attribute (.Name x p1) m ap) args [] cp) p4) (.nx (aL ρ x (.lst l',true))):=by
 obtain⟨id,r,sl,ty,mt,hr⟩:=hM X hcalm
 intro pins s σ H D I ⟨ow,E,hl,B,q⟩
 obtain⟨i,a,vs,g1,g2,g3,g4,g5,g6⟩:=Bf I E hx
 have pn:PE X (.Name x p1) (jD i):=fw g1 g2 (cg hn).1 (cg hn).2
 have fin:∀(H1:Hp) (ws:List V),ao H H1->ah X.K H1 (Kp ow H k) ds ws->r (.ref a) ws H1 fun _ H2=>D.nx σ H2:=fun H1 ws s1 r1 =>
  (hr ow H H1 l ds l' k o a vs ws hm hp).2 (fun b c=>(im ow x true b c/\b≠a)\/Kp ow H 0 b c) _ (fun _ _ p=>.inr p) E.own s1 (s1 _ _ g4) ((g6.same s1).imp fun _ _ p=>.inl p) r1 fun vs' _ rv=>by
   obtain⟨ow',E',k'⟩:=zE E s1 g1 g3 g2 g4 g5 rv
   exact q ow' σ _ E' hl k'
 have few:ds.length<29:=(hr ow H H l ds l' k o a vs vs hm hp).1
 cases args with
 | nil =>
  have e0:ds=[]:=List.length_eq_zero_iff.mp hlen.symm
  refine iU (Ba PySem.F.plainAttrs_list sl ty mt pn rfl hln) rfl pins s σ H D I ⟨_,g3,.inl ⟨rfl,_,bM.of g4⟩,?_⟩
  exact fin H [] (ao.refl _) (by rw[e0];exact ah.nil)
 | cons e es =>
  have hfew:((backTo cp (starEach (e::es) X.env)).all (fun x => !x.1)&&(backToKw cp (keywordEach [] X.env)).all (fun x=>x.1.isSome)&&decide ((e::es).length+([]:List Keyword).length+(if ([]:List Keyword).isEmpty then 0 else 1)<30))=true:=by
   rw[dm hst,hlen]
   have:decide (ds.length+0+0<30)=true:=by simp;omega
   exact this
  refine iU (sk PySem.F.plainAttrs_list sl ty mt pn (h ow) rfl hfew hln (aE (hst e List.mem_cons_self)) (bd fun x hx=>hst x (List.mem_cons_of_mem _ hx))) rfl pins s σ H D I ⟨_,g3,.inl ⟨rfl,_,bM.of g4⟩,E,fun ws H1 s1 r1=>?_⟩
  exact fin H1 ws s1 r1
theorem kG:∀{l:List D} {j:Nat} {d:D},aq l=true->d.lless=true->aq (l.set j d)=true
 | [],j,d,h,f=>by simp[aq]
 | x::l,0,d,h,f=>by
  rw[aq,Bool.and_eq_true]at h
  rw[List.set_cons_zero,aq,Bool.and_eq_true];exact⟨f,h.2⟩
 | x::l,j+1,d,h,f=>by
  rw[aq,Bool.and_eq_true]at h
  rw[List.set_cons_succ,aq,Bool.and_eq_true];exact⟨h.1,kG h.2 f⟩
theorem ah.set{K:W.Frag}{P:aQ}{H:Hp}{d:D}{v:V}(r:ae K H P d v):∀{l:List D} {vs:List V} (j:Nat),ah K H P l vs->ah K H P (l.set j d) (vs.set j v)
 | [],vs,j,h=>by rw[ah]at h;subst h;simp;exact ah.nil
 | x::l,vs,0,h=>by
  rw[ah]at h
  obtain⟨w,u,rfl,h1,h2⟩:=h
  exact ah.cons r h2
 | x::l,vs,j+1,h=>by
  rw[ah]at h
  obtain⟨w,u,rfl,h1,h2⟩:=h
  exact ah.cons h1 (ah.set r j h2)
theorem sd_store{H0:Hp}{i:Expr}{l:List D}{j:Int}(hx:ρ x=some (.lst l,true))(h:ED X ρ e d k)(hi:ED X ρ i (.int j) k2)(f:aq l=true)(fd:d.lless=true)(hn:cW x=true)(hm:rY l j d=some l')(hsl:∀a b c p,i ≠ .Slice a b c p) :
  SD X H0 ρ (.Assign [.Subscript (.Name x p1) i p2] e pos) (.nx (aL ρ x (.lst l',true))):=by
 unfold rY at hm
 cases hj:gZ l.length j with
 | none=>rw[hj]at hm;cases hm
 | some n =>
  rw[hj]at hm;cases hm
  intro pins s σ H D I ⟨ow,E,hl,B,q⟩
  obtain⟨ix,a,vs,g1,g2,g3,g4,g5,g6⟩:=Be E hx
  have pn:PE X (.Name x p1) (jD ix):=fw g1 g2 (cg hn).1 (cg hn).2
  refine ij (h ow) (ui pn (hi ow) vS (fun v=>by cases i<;>first|rfl|exact absurd rfl (hsl _ _ _ _))) mQ (by cases e<;>rfl) rfl pins s σ H D I ⟨E,fun v H1 s1 r1=>?_⟩
  refine⟨_,g3,E.same s1,fun u H2 s2 r2=>?_⟩
  rw[ae]at r2;subst r2
  have s12:=s1.trans s2
  refine⟨a,vs,j,n,rfl,rfl,s12 _ _ g4,by rw[<- g6.length];exact hj,?_⟩
  exact q ow σ _ (vf (E.same s12) g1 g3 g2 (s12 _ _ g4) g5 (kG f fd) (ah.set ((r1.imp fun _ _ _=>True.intro).same s2) n (g6.same s12))) hl (sI s12 g4 g5)
def DA:sW:=fun o i v H Q => ∃p kvs k,o=.ref p/\i=kV k/\H p=some (.dK kvs)/\kvs.length<sizeLine/\Q (az H p (.dK (cY kvs k v)))
theorem vT:wR X DA:=by
 intro pins s σ H o i v ov iv u Q I ro ri rv h
 obtain⟨p,kvs,k,rfl,rfl,hp,hz,q⟩:=h
 cases ro
 obtain⟨z,hd,vs,bt,dd⟩:=(show aR X.prog X.w H s.heap p (.dK kvs)from I.hok p _ hp)
 have hz':vs.length<=sizeLine:=by rw[<- bt.length];exact z
 have hl:(cY kvs k v).length<=sizeLine:=by have:=jt kvs k v;omega
 refine wpAny_setItem_pairs (hsz:=hz') (i8 ri) dd fun h' dd' hs=>?_
 have he:∃q,h'.get? p=some q:=let ⟨q,_,_,hq,_⟩:=dd';⟨q,hq⟩
 exact⟨_,I.write (x:=p) (e:=p) (by rw[hp];exact True.intro) (.inl rfl) (fun b q hb z=>(hs.2 b hb).trans z) he (show aR X.prog X.w (az H p (.dK (cY kvs k v))) h' p (.dK (cY kvs k v))from⟨hl,hd,_,bt.put k rv,dd'⟩),q⟩
theorem yd{k:aV}(h:ks.length=vs.length):(gQ ks k).zip (cG ks vs k v)=cY (ks.zip vs) k v:=by
 unfold gQ cG cY
 rw[qI h]
 cases fW ks k with
 | true =>
  rw[if_pos rfl]
  show ks.zip (List.zipWith _ ks vs)=_
  induction ks generalizing vs with
  | nil=>rfl
  | cons j ks ih =>
   cases vs with
   | nil=>cases h
   | cons w vs =>
    show(j,if j=k then v else w)::ks.zip (List.zipWith _ ks vs)=(if j=k then(j,v)else(j,w))::(ks.zip vs).map _
    rw[ih (by simpa using h)]
    split<;>rfl
 | false =>
  rw[if_neg Bool.false_ne_true]
  show(ks++[k]).zip (vs++[v])=_
  rw[List.zip_append h];rfl
theorem yI{k:aV}{v:α}{vs:List α}(h:ks.length=vs.length):(gQ ks k).length=(cG ks vs k v).length:=by
 unfold gQ cG
 cases fW ks k with
 | true=>show ks.length=(List.zipWith _ ks vs).length;rw[List.length_zipWith,<- h,Nat.min_self]
 | false=>show(ks++[k]).length=(vs++[v]).length;rw[List.length_append,List.length_append,h];rfl
theorem yG{k:aV}(r:ae K H P d v)(rl:ah K H P ds vs)(h:ks.length=ds.length):ah K H P (cG ks ds k d) (cG ks vs k v):=by
 unfold cG
 cases fW ks k with
 | true =>
  show ah K H P (List.zipWith _ ks ds) (List.zipWith _ ks vs)
  induction ks generalizing ds vs with
  | nil=>exact ah.nil
  | cons j ks ih =>
   cases ds with
   | nil=>cases h
   | cons x ds =>
    rw[ah]at rl
    obtain⟨w,u,rfl,h1,h2⟩:=rl
    refine ah.cons ?_ (ih h2 (by simpa using h))
    by_cases hj:j=k
    ·simp only[if_pos hj];exact r
    ·simp only[if_neg hj];exact h1
 | false=>exact rl.append (ah.one r)
theorem oE{k:aV}(f:aq ds=true)(fd:d.lless=true):aq (cG ks ds k d)=true:=by
 unfold cG
 cases fW ks k with
 | true =>
  show aq (List.zipWith _ ks ds)=true
  induction ks generalizing ds with
  | nil=>rfl
  | cons j ks ih =>
   cases ds with
   | nil=>rfl
   | cons x ds =>
    rw[aq,Bool.and_eq_true]at f
    show aq ((if j=k then d else x)::List.zipWith _ ks ds)=true
    rw[aq,Bool.and_eq_true]
    refine⟨?_,ih f.2⟩
    split
    ·exact fd
    ·exact f.1
 | false =>
  show aq (ds++[d])=true
  induction ds with
  | nil=>show aq [d]=true;rw[aq,fd];rfl
  | cons x ds ih =>
   rw[aq,Bool.and_eq_true]at f
   show aq (x::(ds++[d]))=true
   rw[aq,f.1,ih f.2];rfl
theorem sd_dput{H0:Hp}{i:Expr}{di:D}{key:aV}(hx:ρ x=some (.dct ks ds,true))(h:ED X ρ e d k)(hi:ED X ρ i di k2)(hk:lY di=some key)(fd:d.lless=true)(hz:ks.length<bh)(hn:cW x=true)(hsl:∀a b c p,i ≠ .Slice a b c p) :
  SD X H0 ρ (.Assign [.Subscript (.Name x p1) i p2] e pos) (.nx (aL ρ x (.dct (gQ ks key) (cG ks ds key d),true))):=by
 intro pins s σ H D I ⟨ow,E,hl,B,q⟩
 obtain⟨ix,v0,g1,g2,g3,g4⟩:=E.get x _ _ hx
 rw[ae]at g4
 obtain⟨f,e0,a,vs,rfl,ha,hp,rl⟩:=g4
 have ho:ow a=some (some x):=hp.2
 have pn:PE X (.Name x p1) (jD ix):=fw g1 g2 (cg hn).1 (cg hn).2
 refine ij (h ow) (ui pn (hi ow) vT (fun v=>by cases i<;>first|rfl|exact absurd rfl (hsl _ _ _ _))) mQ (by cases e<;>rfl) rfl pins s σ H D I ⟨E,fun v H1 s1 r1=>?_⟩
 refine⟨_,g3,E.same s1,fun u H2 s2 r2=>?_⟩
 have s12:=s1.trans s2
 have el:ks.length=vs.length:=e0.trans rl.length
 refine⟨a,_,key,rfl,jQ hk r2,s12 _ _ ha,?_,?_⟩
 ·rw[List.length_zip,<- el,Nat.min_self];exact Nat.lt_of_lt_of_le hz bP
 rw[<- yd el]
 have ha2:=s12 _ _ ha
 have st:∀{P:aQ} {o':HO},(P a true->False)->cu P P H2 (az H2 a o'):=fun {P o'} h=>⟨fun b o hb hn=>by rw[al (fun z=>by subst z;rw[ha2]at hb;cases hb;exact hn)];exact hb,fun b ws hb p=>by rw[al (fun z=>by subst z;exact h p)];exact hb,fun _ _ _ p=>p,fun _ p=>p⟩
 have rr:ah X.K H2 (fun _ _=>False) (cG ks ds key d) (cG ks vs key v):=yG ((r1.same s2).flat _ fd) ((rl.same s12).flat _ f) e0
 refine q ow σ _ ⟨fun y e o h=>?_,fun b hb=>?_⟩ hl ⟨fun b o h c=>?_,fun _ _ _ z=>z⟩
 ·rw[bq]at h
  by_cases hy:y=x
  ·subst hy
   rw[if_pos rfl]at h
   cases h
   exact⟨ix,.ref a,g1,g2,g3,by rw[ae];exact⟨oE f fd,yI e0,a,_,rfl,aD,⟨rfl,ho⟩,(rr.mono (st fun z=>z)).flat _ (oE f fd)⟩⟩
  ·rw[if_neg hy]at h
   obtain⟨j,w,e1,e2,e3,e4⟩:=(E.same s12).get y e o h
   refine⟨j,w,e1,e2,e3,e4.mono (st fun p=>?_)⟩
   cases o with
   | true=>have:=p.2;rw[ho]at this;cases this;exact hy rfl
   | false=>have:=p rfl;rw[ho]at this;cases this
 ·by_cases hz:b=a
  ·subst hz;exact⟨_,aD⟩
  ·rw[al hz];exact(E.same s12).own b hb
 ·rw[al (fun z=>by
   subst z
   rw[ha]at h;cases h
   rcases c with c|c
   ·exact c
   ·rw[ho]at c;cases c)]
  exact s12 b o h
theorem DQ{op:Operator}{r:R2}(h:bC X (inplaceOp op) r):EH X op r:=h
theorem wr:bC X (inplaceOp .Mult) (rI (fun i j=>cq i j) fun i j=>.int (i*j)):=oN fun _ _ _ _ _ _ _ hc q=>imul_int q (oR hc)
theorem uP:bC X (inplaceOp .FloorDiv) (rI (fun _ j=>ld j) fun i j=>.int (i.fdiv j)):=oN fun i j _ _ _ _ _ hc q=>ifloordiv_int hc.1 q (.inl (PyProof.noPylong_of_log2 (by
 rcases Nat.eq_zero_or_pos j.natAbs with h1|hp
 ·exact absurd (by simpa using h1) hc.1
 ·exact(Nat.log2_lt (Nat.ne_of_gt hp)).mpr hc.2)))
theorem AL{H0:Hp}{op:Operator}{a b:Int}{o:Bool}(G:aG Φ X sc)(hx:bD sc x=true)(ha:ρ x=some (.int a,o))(h:ED X ρ e (.int b) k)(hr:wK op a b=.ok (d,k2) l)(hp:ay l) :
  SD X H0 ρ (.AugAssign (.Name x p) op e pos) (.nx (aL ρ x (d,true))):=by
 obtain⟨g1,g2,g3,i,g4⟩:=db G hx
 obtain⟨r,hr1,hr2⟩:∃r:R2,bC X (inplaceOp op) r/\d.lless=true/\∀H (Q:VK),(∀v,ae X.K H (fun _ _=>False) d v->Q v H)->r (.int a) (.int b) H Q:=by
  unfold wK at hr
  split at hr
  ·cases hr;exact⟨_,zw,rfl,fun H Q q=>⟨a,b,rfl,rfl,q _ (by rw[ae])⟩⟩
  ·cases hr;exact⟨_,zu,rfl,fun H Q q=>⟨a,b,rfl,rfl,q _ (by rw[ae])⟩⟩
  ·cases hr;exact⟨_,wr,rfl,fun H Q q=>⟨a,b,rfl,rfl,hp.1,q _ (by rw[ae])⟩⟩
  ·cases hr;exact⟨_,uP,rfl,fun H Q q=>⟨a,b,rfl,rfl,hp.1,q _ (by rw[ae])⟩⟩
  ·cases hr
 intro pins s σ H D I ⟨ow,E,hl,B,q⟩
 obtain⟨i2,v,e1,e2,e3,e4⟩:=E.get x _ _ ha
 rw[ae]at e4;subst e4
 have hi:i2=i:=fy G.nd e1 g4
 subst hi
 refine AU (i:=i2) G.nd g4 g1 (h ow) (DQ hr1) g3 pins s σ H D I ⟨.int a,e3,E,fun v H1 s1 r1=>?_⟩
 rw[ae]at r1;subst r1
 refine hr2.2 H1 _ fun w rw'=>?_
 exact q ow _ H1 (cD G.nd hl (E.same s1) g4 g2 (rw'.flat _ hr2.1)) (by rw[List.length_set];exact hl) (aF.same s1)
theorem sG:gT "append" lT:=fun X hc=>⟨"list.append", _,PySem.F.slot_list_append,PySem.F.type_list_append,io,fun ow H0 H l ds l' j o a vs ws h hp=>by
 unfold lT at h
 split at h
 ·rename_i d
  cases h
  have c:=hp.1
  refine⟨by simp,fun P Q hP oi sm ha rl rd q=>?_⟩
  obtain⟨w,rfl,rw'⟩:=rd.only
  refine⟨a,vs,w,rfl,rfl,ha,?_,q _ _ (rl.append (ah.one ?_))⟩
  ·rw[<- rl.length];exact Nat.lt_trans hp.2.1 ir
  ·rcases c with c|c
   ·exact rw'.flat _ c
   ·subst c;exact rw'.imp hP
 ·cases h⟩
theorem sF:gT "extend" lS:=fun X hc=>⟨"list.extend", _,PySem.F.slot_list_extend,PySem.F.type_list_extend,ur,fun ow H0 H l ds l' j o a vs ws h hp=>by
 unfold lS at h
 split at h
 ·rename_i d
  cases h
  refine⟨by simp,fun P Q hP oi sm ha rl rd q=>?_⟩
  obtain⟨w,rfl,rw'⟩:=rd.only
  rw[ae]at rw'
  obtain⟨b,zs,bb,rfl,hb,pb,rz⟩:=rw'
  have hbb:bb=true:=pb.1
  subst hbb
  refine⟨a,b,vs,zs,rfl,rfl,ha,hb,?_,q _ _ (rl.append (rz.imp hP))⟩
  rw[<- rl.length,<- rz.length];exact Nat.le_trans hp.1 (Nat.le_of_lt ir)
 ·cases h⟩
variable{X:Cx}
theorem jT(x:Str)(E:ax X ow H σ ρ):∃ow',ax X ow' H σ (demX x ρ)/\aF ow H ow' H:=by
 classical
 unfold demX
 let ow':Ow:=fun a=>if ow a=some (some x)then none else ow a
 have o1:∀a,ow a=none->ow' a=none:=fun a h=>by show(if _ then _ else _)=_;split;rfl;exact h
 refine⟨ow',⟨fun y e o h=>?_,fun a ha=>?_⟩,fun a o h _=>h,fun a o h z=>o1 a z⟩
 ·by_cases hy:y=x
  ·subst hy
   simp only[if_true]at h
   cases hd:ρ y with
   | none=>rw[hd]at h;cases h
   | some q =>
    obtain⟨d,o'⟩:=q
    rw[hd]at h
    cases h
    obtain⟨j,w,e1,e2,e3,e4⟩:=E.get y _ _ hd
    refine⟨j,w,e1,e2,e3,e4.imp fun a b p z=>?_⟩
    cases o' with
    | true=>exact if_pos p.2
    | false=>exact o1 a (p z)
  ·simp only[if_neg hy]at h
   obtain⟨j,w,e1,e2,e3,e4⟩:=E.get y e o h
   refine⟨j,w,e1,e2,e3,e4.imp fun a b p=>?_⟩
   cases o with
   | true=>exact⟨p.1,by show(if _ then _ else _)=_;rw[if_neg (fun z=>by rw[p.2]at z;cases z;exact hy rfl)];exact p.2⟩
   | false=>exact fun z=>o1 a (p z)
 ·refine E.own a fun z=>ha (o1 a z)
theorem zL(x:Str)(ρ:ac):demA x ρ=ρ\/demA x ρ=demX x ρ:=by
 cases h:ρ x with
 | none=>exact .inl (funext fun y=>by unfold demA;split;(rename_i e;subst e;rw[h];rfl);rfl)
 | some p =>
  cases hl:p.1.lless with
  | true=>exact .inl (funext fun y=>by unfold demA;split;(rename_i e;subst e;rw[h];show some (p.1,p.2&&p.1.lless)=_;rw[hl,Bool.and_true]);rfl)
  | false=>exact .inr (funext fun y=>by unfold demA demX;split;(rename_i e;subst e;rw[h];show some (p.1,p.2&&p.1.lless)=_;rw[hl,Bool.and_false];rfl);rfl)
theorem gP:∀{es:List Expr} {ow:Ow} {H:Hp} {σ:L2.St} {ρ:ac},ax X ow H σ ρ->∃ow',ax X ow' H σ (demL es ρ)/\aF ow H ow' H
 | [],ow,H,σ,ρ,E=>⟨ow,E,aF.refl _ _⟩
 | e::es,ow,H,σ,ρ,E=>by
  have one:∀x,∃ow',ax X ow' H σ (demL es (demA x ρ))/\aF ow H ow' H:=fun x=>by
   rcases zL x ρ with h|h
   ·rw[h];exact gP E
   ·rw[h]
    obtain⟨ow1,E1,k1⟩:=jT x E
    obtain⟨ow2,E2,k2⟩:=gP (es:=es) E1
    exact⟨ow2,E2,k1.trans k2⟩
  unfold demL
  split
  ·rename_i z;cases z
  ·rename_i z;cases z;exact one _
  ·rename_i z;cases z;exact one _
  ·rename_i z;cases z;exact gP E
theorem k7(E:ax X ow H σ ρ):∃ow',ax X ow' H σ (demote e ρ)/\aF ow H ow' H:=by
 unfold demote
 split
 ·exact jT _ E
 ·exact jT _ E
 ·exact gP E
 ·exact⟨ow,E,aF.refl _ _⟩
def aa{α:Type}(r:Rs α)(a:α):Prop:=∃l,r=.ok a l/\ay l
theorem am{r:Rs α}{f:α->Rs β}{b:β}(h:aa (r.bnd f) b):∃a,aa r a/\aa (f a) b:=by
 obtain⟨l,h,hp⟩:=h
 obtain⟨a,l1,l2,h1,p1,h2,p2⟩:=aM h hp
 exact⟨a,⟨l1,h1,p1⟩,l2,h2,p2⟩
theorem ak{a:α}(h:aa (.st) a):False:=by obtain⟨l,h,_⟩:=h;cases h
theorem aC{a b:α}(h:aa (.ok a l) b):a=b:=by obtain⟨m,h,_⟩:=h;cases h;rfl
theorem AK{H0:Hp}{bind:D->ac->Option ac}(hp:PassesOwn (model X.prog X.w) X.A X.env X.xe)(hcalm:X.calm=true)
  (hi:IE X (demote iter ρ) tg iter ds k) (hk:k<=1) (hg:∀d ρ ρ',bind d ρ=some ρ'->GD X ρ tg d ρ') (hb:∀ρ fl,aa (bodyF ρ) fl->cw X H0 ρ body fl) (h:aa (dy bind bodyF ds (demote iter ρ)) fl)
  (hs:∀x,foldedSetIterable iter X.env x=pure x):SD X H0 ρ (.For tg iter body [] pos) fl:=by
 intro pins s σ H D0 I ⟨ow0,E0,hl,B0,q0⟩
 obtain⟨ow,E,k0⟩:=k7 (e:=iter) E0
 have B:=B0.keep k0
 have q:=q0.keep k0
 have pb:ck X body (fun D σ H => ∃ρ fl,aa (bodyF ρ) fl/\tJ X H0 ρ fl D σ H):=fun pins s σ H D I ⟨ρ1,fl1,h1,h2⟩=>hb ρ1 fl1 h1 pins s σ H D I h2
 have pg:PG X tg (fun v σ H Q => ∃g:TG,PG X tg g/\g v σ H Q):=fun pins s σ H v u Q I r ⟨g,h1,h2⟩=>h1 pins s σ H v u Q I r h2
 refine oH hp hcalm (hi ow) pg pb hs pins s σ H D0 I ⟨E,fun J H1 s1 itd=>?_⟩
 refine⟨fun i m σ' H'=>m=ds.length-i/\i<=ds.length/\∃ow' ρ',ax X ow' H' σ' ρ'/\σ'.length=X.N.length/\aY H0 ow' H'/\aF ow H1 ow' H'/\aa (dy bind bodyF (ds.drop i) ρ') fl,
  ⟨ds.length,by simp,Nat.zero_le _,ow,_,E.same s1,hl,B.keep (aF.same s1),aF.refl _ _,h⟩,?_⟩
 rintro i m σ' H' ⟨rfl,hile,ow',ρ',E',hl',B',k',hf⟩
 have q':jZ X H0 ow' H' fl D0:=q.keep ((aF.same s1).trans k')
 have st:cu (Kd ow H k H1) (Kd ow H k H1) H1 H':=⟨fun a o ha hn=>k'.keep a o ha (.inl hn),fun a vs ha p=>k'.keep a _ ha (.inr (cP E.own hk p.1)),fun _ _ _ p=>p,fun _ p=>p⟩
 have it:=itd i H' st
 by_cases hlt:i<ds.length
 ·obtain⟨go,yl⟩:=it.1 ds[i] (List.getElem?_eq_getElem hlt)
  have hdrop:ds.drop i=ds[i]::ds.drop (i+1):=List.drop_eq_getElem_cons hlt
  rw[hdrop,dy]at hf
  refine .inr ⟨go,fun σ2 H2=>i+1<=ds.length/\∃ow2 ρ2,ax X ow2 H2 σ2 ρ2/\σ2.length=X.N.length/\aY H0 ow2 H2/\aF ow H1 ow2 H2/\aa (dy bind bodyF (ds.drop (i+1)) ρ2) fl,fun σ2 H2 n=>⟨ds.length-(i+1),by omega,rfl,n.1,n.2⟩,fun x H3 y3=>?_⟩
  obtain⟨sm3,rx⟩:=yl x H3 y3
  cases hbd:bind ds[i] ρ' with
  | none=>rw[hbd]at hf;exact(ak hf).elim
  | some ρ1 =>
   rw[hbd]at hf
   dsimp only at hf
   obtain⟨g,g1,g2⟩:=hg _ _ _ hbd
   have rx':ae X.K H3 (fun a b=>b=true->ow' a=none) ds[i] x:=rx.impH (fun a o ha p _=>by
    obtain⟨o1,h1⟩:=p.2 rfl
    exact k'.low a o1 h1 (cP E.own hk p.1)) fun a _ z=>(by cases z)
   refine⟨g,g1,g2 ow' x σ' H3 _ hl' (E'.same sm3) rx' fun σ2 hl2 E2=>?_⟩
   have k3:aF ow' H' ow' H3:=aF.same sm3
   obtain⟨f1,hbo,hf⟩:=am hf
   refine⟨ρ1,f1,hbo,ow',E2,hl2,B'.keep k3,?_⟩
   cases f1 with
   | nx ρ2=>exact fun ow2 σ3 H4 a b c=>⟨hlt,ow2,ρ2,a,b,(B'.keep k3).keep c,k'.trans (k3.trans c),hf⟩
   | ct ρ2=>exact fun ow2 σ3 H4 a b c=>⟨hlt,ow2,ρ2,a,b,(B'.keep k3).keep c,k'.trans (k3.trans c),hf⟩
   | bk ρ2=>cases aC hf;exact fun ow2 σ3 H4 a b c=>q' ow2 σ3 H4 a b (k3.trans c)
   | rt d=>cases aC hf;exact q'
 ·have ei:i=ds.length:=by omega
  subst ei
  rw[List.drop_length,dy]at hf
  cases aC hf
  exact .inl ⟨it.2 (Nat.le_refl _),q' ow' σ' H' E' hl' (aF.refl _ _)⟩
theorem vV{H0:Hp}{test:ac->Rs Bool}(hp:PassesOwn (model X.prog X.w) X.A X.env X.xe)
  (hc:∀ρ b,aa (test ρ) b->TD X ρ c b) (hb:∀ρ fl,aa (bodyF ρ) fl->cw X H0 ρ body fl) {n0:Nat} {ρ0:ac} (h:aa (mJ test bodyF n0 ρ0) fl):SD X H0 ρ0 (.While c body [] pos) fl:=by
 intro pins s σ H D0 I ⟨ow,E,hl,B,q⟩
 have pc:PT X c (fun σ H Q => ∃ow ρ b,aa (test ρ) b/\wZ X ow ρ b σ H Q):=fun pins s σ H Q I ⟨ow,ρ,b,h1,h2⟩=>hc ρ b h1 ow pins s σ H Q I h2
 have pb:ck X body (fun D σ H => ∃ρ fl,aa (bodyF ρ) fl/\tJ X H0 ρ fl D σ H):=fun pins s σ H D I ⟨ρ1,fl1,h1,h2⟩=>hb ρ1 fl1 h1 pins s σ H D I h2
 refine v6 hp pc pb pins s σ H D0 I ?_
 refine⟨fun m σ' H' => ∃ow' ρ',ax X ow' H' σ' ρ'/\σ'.length=X.N.length/\aY H0 ow' H'/\aF ow H ow' H'/\aa (mJ test bodyF m ρ') fl,⟨n0,ow,ρ0,E,hl,B,aF.refl _ _,h⟩,?_⟩
 rintro m σ' H' ⟨ow',ρ',E',hl',B',k',hw⟩
 have q':jZ X H0 ow' H' fl D0:=q.keep k'
 cases m with
 | zero=>exact(ak hw).elim
 | succ m =>
  rw[mJ]at hw
  obtain⟨b,ht,hw⟩:=am hw
  refine⟨ow',ρ',b,ht,E',fun H1 s1=>?_⟩
  have k1:aF ow' H' ow' H1:=aF.same s1
  cases b with
  | false =>
   cases aC hw
   exact q' ow' σ' H1 (E'.same s1) hl' k1
  | true =>
   rw[cond_true]at hw
   show if true=true then _ else _
   rw[if_pos rfl]
   refine⟨fun σ2 H2 => ∃ow2 ρ2,ax X ow2 H2 σ2 ρ2/\σ2.length=X.N.length/\aY H0 ow2 H2/\aF ow H ow2 H2/\aa (mJ test bodyF m ρ2) fl,fun σ2 H2 z=>⟨m,Nat.lt_succ_self _,z⟩,?_⟩
   obtain⟨f1,hbo,hw⟩:=am hw
   refine⟨ρ',f1,hbo,ow',E'.same s1,hl',B'.keep k1,?_⟩
   cases f1 with
   | nx ρ2=>exact fun ow2 σ3 H4 a b c=>⟨ow2,ρ2,a,b,(B'.keep k1).keep c,k'.trans (k1.trans c),hw⟩
   | ct ρ2=>exact fun ow2 σ3 H4 a b c=>⟨ow2,ρ2,a,b,(B'.keep k1).keep c,k'.trans (k1.trans c),hw⟩
   | bk ρ2=>cases aC hw;exact fun ow2 σ3 H4 a b c=>q' ow2 σ3 H4 a b (k1.trans c)
   | rt d=>cases aC hw;exact q'
theorem bQ{p:D×Nat}(h:aa (ar Φ e it sc ρ) p)(G:aG Φ X sc):dG X ρ e it p.1 p.2:=let ⟨_,h,hp⟩:=h;D6 e h hp G
theorem uO(h:gr e=true):(∃a b c d,e=.ListComp a b c d)\/∀(Φ:Fx) (sc:Scope) (ρ:ac),ar Φ e false sc ρ=.st:=by
 cases e<;>first|exact .inl ⟨_,_,_,_,rfl⟩|exact .inr fun _ _ _=>rfl|cases h
theorem mV{H0:Hp}{r:D×Nat}{o:Bool}(G:aG Φ X sc)(hx:bD sc x=true)(h:aa (ar Φ e false sc ρ) r)(ho:(r.2=0/\o=true)\/(r.2=1/\o=false)) :
  SD X H0 ρ (.Assign [.Name x p] e pos) (.nx (aL ρ x (r.1,o))):=by
 by_cases hc:gr e=true
 ·rcases uO hc with⟨elt,gens,scope,q,rfl⟩|hno
  rotate_left
  ·rw[hno]at h;exact(ak h).elim
  ·clear hc
   have hsw:∃b,swapsWith (.ListComp elt gens scope q) (some (.Name x p)) pos.line X.env=pure b:=⟨_,rfl⟩
   obtain⟨b,hsw⟩:=hsw
   cases b with
   | false=>exact oq G hx ((bQ h G).ed rfl) ho hsw
   | true =>
    obtain⟨l,h,hp⟩:=h
    obtain⟨tg,iter,ifs,rfl⟩:=mf h
    obtain⟨ds,f,k1,a1,a2,a3,a4,a5,a6,a7,a8,a9⟩:=qN (fA Φ _) (Nat.lt_succ_self _) h hp G
    obtain⟨g1,g2,g3,i,g4⟩:=db G hx
    rw[a9]
    intro pins s σ H D0 I ⟨ow,E,hl,B,q⟩
    refine yM (D0:=D0) (i:=i) G.calm G.nd a1 a2 a3 a4 a5 a6 a7 a8 I E hsw g4 g1 g3 fun v H1 s1 r1=>?_
    rcases ho with⟨ho,rfl⟩|⟨ho,rfl⟩<;>rw[ho]at r1
    ·obtain⟨ow',E',k'⟩:=mv G.nd hl E s1 g4 g2 r1
     exact q ow' _ H1 E' (by rw[List.length_set];exact hl) k'
    ·exact q ow _ H1 (cD G.nd hl (E.same s1) g4 g2 r1) (by rw[List.length_set];exact hl) (aF.same s1)
 ·exact oq G hx ((bQ h G).ed rfl) ho (ef (by simpa using hc))
theorem evE_noslice{r:D×Nat}(h:aa (ar Φ e it sc ρ) r):∀a b c p,e ≠ .Slice a b c p:=by
 intro a b c p z;subst z;exact(ak h).elim
theorem oM{f:List D->Rs Fl}(h:aa (lK ρ x f) fl):∃l,ρ x=some (.lst l,true)/\cW x=true/\aa (f l) fl:=by
 unfold lK at h
 split at h
 ·rename_i l e
  split at h
  ·rename_i c
   exact⟨l,e,c,h⟩
  ·exact(ak h).elim
 ·exact(ak h).elim
theorem lN{a b:α}(h:aa (.ok a l) b):a=b/\ay l:=by obtain⟨m,h,hp⟩:=h;cases h;exact⟨rfl,hp⟩
theorem stoD_inv{i:D}(h:aa (As ρ x i d) fl):(∃l j l',ρ x=some (.lst l,true)/\aq l=true/\cW x=true/\i=.int j/\rY l j d=some l'/\d.lless=true/\fl=.nx (aL ρ x (.lst l',true)))\/∃ks ds k,ρ x=some (.dct ks ds,true)/\lY i=some k/\cW x=true/\d.lless=true/\ks.length<bh/\fl=.nx (aL ρ x (.dct (gQ ks k) (cG ks ds k d),true)):=by
 unfold As at h
 split at h
 ·rename_i l e
  split at h
  ·split at h
   ·rename_i hn
    split at h
    ·rename_i l' hs
     obtain⟨h9,h1,h2,_⟩:=lN h
     exact .inl ⟨l,_,l',e,h1,hn,rfl,hs,h2,h9.symm⟩
    ·exact(ak h).elim
   ·exact(ak h).elim
  ·exact(ak h).elim
 ·rename_i ks ds e
  split at h
  ·rename_i k hk
   split at h
   ·rename_i hn
    obtain⟨h9,h1,h2,_⟩:=lN h
    exact .inr ⟨ks,ds,k,e,hk,hn,h1,h2,h9.symm⟩
   ·exact(ak h).elim
  ·exact(ak h).elim
 ·exact(ak h).elim
theorem Bb{H0:Hp}(h:aa (nK Φ es e sc ρ) fl)(G:aG Φ X sc):SD X H0 ρ (.Assign [.Tuple es n p] e pos) fl:=by
 unfold nK at h
 split at h
 ·split at h
  ·rename_i hp
   obtain⟨q,⟨lq,h1,hq⟩,h⟩:=am h
   split at h
   ·rename_i u v hd
    split at h
    ·rename_i hf
     cases aC h
     obtain⟨n1,_⟩:=bX h1 hq
     have c:=iD _ h1 hq G
     rw[hd]at c
     exact AI G c hf hp (n1 _ (by simp)) (n1 _ (by simp))
    ·exact(ak h).elim
   ·exact(ak h).elim
  ·exact(ak h).elim
 ·exact(ak h).elim
theorem CW{H0:Hp}(h:aa (kW Φ tgs e sc ρ) fl)(G:aG Φ X sc):SD X H0 ρ (.Assign tgs e pos) fl:=by
 unfold kW at h
 split at h
 ·obtain⟨p,h1,h⟩:=am h
  unfold lI at h
  split at h
  ·rename_i hx
   split at h
   ·rename_i ho;cases aC h;exact mV G hx h1 (.inl ⟨ho,rfl⟩)
   ·rename_i ho;cases aC h;exact mV G hx h1 (.inr ⟨ho,rfl⟩)
   ·exact(ak h).elim
  ·exact(ak h).elim
 ·split at h
  ·exact Bb h G
  ·rename_i ht
   have ht:=Bool.eq_false_iff.mpr ht
   obtain⟨p,h1,h⟩:=am h
   split at h
   ·rename_i ho
    cases aC h
    exact yy G ((bQ h1 G).ed rfl) ho ht
   split at h
   ·rename_i ds hd
    split at h
    ·rename_i hf
     split at h
     ·rename_i ρ' hb
      cases aC h
      exact AF G ((bQ h1 G).ed rfl) hd hf hb ht
     ·exact(ak h).elim
    ·exact(ak h).elim
   ·exact(ak h).elim
 ·exact(ak h).elim
theorem lO{p:D×Nat}{f:Int->R1}{a:D×Nat}(h:aa (gL p f) a):∃b,p.1=.int b/\aa (f b) a:=by
 obtain⟨l,h,hp⟩:=h
 obtain⟨b,h1,h2⟩:=wt h
 exact⟨b,h1,l,h2,hp⟩
theorem aug_ok{t:Expr}{op:Operator}{H0:Hp}(h:aa (nM Φ t op e sc ρ) fl)(G:aG Φ X sc):SD X H0 ρ (.AugAssign t op e pos) fl:=by
 unfold nM at h
 split at h
 ·split at h
  ·rename_i hx
   split at h
   ·rename_i p hp
    obtain⟨r,h1,h⟩:=am h
    cases aC h
    obtain⟨a,ha,h3⟩:=lO h1
    obtain⟨q,h2,h4⟩:=am h3
    obtain⟨b,hb,h5⟩:=lO h4
    obtain⟨l,h9,hpl⟩:=h5
    have c:=(bQ h2 G).ed rfl
    rw[hb]at c
    obtain⟨p1,p2⟩:=p
    have ha:p1=.int a:=ha
    subst ha
    exact AL G hx hp c h9 hpl
   ·exact(ak h).elim
  ·exact(ak h).elim
 ·exact(ak h).elim
theorem B8{H0:Hp}(h:aa (kU Φ e sc ρ) fl)(G:aG Φ X sc):SD X H0 ρ (.Expr e pos) fl:=by
 unfold kU at h
 split at h
 ·split at h
  ·rename_i hln
   obtain⟨p,⟨lp,h1,hp1⟩,h⟩:=am h
   split at h
   ·rename_i M hM
    obtain⟨l,a1,a3,h⟩:=oM h
    obtain⟨l',⟨o,h2,hp2⟩,h⟩:=am h
    cases aC h
    obtain⟨n1,n2⟩:=bX h1 hp1
    exact AJ G.calm (G.mtt _ M hM) a1 (iD _ h1 hp1 G) n1 n2 a3 hln h2 hp2
   ·exact(ak h).elim
  ·exact(ak h).elim
 ·obtain⟨p,h1,h⟩:=am h
  cases aC h
  exact yz ((bQ h1 G).ed rfl) ⟨_,_,_,_,_,rfl⟩
 ·exact(ak h).elim
structure Is(Φ:Fx)(n:Nat):Prop where
 s:∀(st:Stmt) {sc:Scope} {ρ:ac} {fl:Fl} {X:Cx} {H0:Hp},sizeOf st<n->aa (dN Φ st sc ρ) fl->aG Φ X sc->PassesOwn (model X.prog X.w) X.A X.env X.xe->SD X H0 ρ st fl
 ss:∀(st:List Stmt) {sc:Scope} {ρ:ac} {fl:Fl} {X:Cx} {H0:Hp},sizeOf st<n->aa (aI Φ st sc ρ) fl->aG Φ X sc->PassesOwn (model X.prog X.w) X.A X.env X.xe->cw X H0 ρ st fl
theorem gk{p:D×Nat}{f:Bool->Rs α}{a:α}(h:aa (iI p f) a):∃b,p.1=.bl b/\aa (f b) a:=by
 obtain⟨l,h,hp⟩:=h
 obtain⟨b,h1,h2⟩:=jk h
 exact⟨b,h1,l,h2,hp⟩
theorem D4(I:Is Φ n)(st:Stmt){H0:Hp}(hs:sizeOf st<n+1)(h:aa (dN Φ st sc ρ) fl)(G:aG Φ X sc)(hp:PassesOwn (model X.prog X.w) X.A X.env X.xe):SD X H0 ρ st fl:=by
 cases st with
 | Return e p =>
  cases e with
  | none=>cases aC h;exact yv
  | some e =>
   obtain⟨p,h1,h⟩:=am (show aa (Rs.bnd _ _) fl from h)
   unfold rZ at h
   split at h
   ·rename_i hk
    cases aC h
    unfold oA at h1
    cases hn:nG e with
    | true=>rw[hn]at h1;exact yw ((bQ h1 G).ed rfl) hk
    | false=>rw[hn]at h1;exact AH ((bQ h1 G).ed rfl) hk
   ·exact(ak h).elim
 | Pass p=>cases aC h;exact yx
 | Break p=>cases aC h;exact vW
 | Continue p=>cases aC h;exact yA
 | Assign tgs e p=>exact CW h G
 | AugAssign t op e p=>exact(ak h).elim
 | Expr e p=>exact B8 h G
 | If c a b p =>
  obtain⟨p,h1,h⟩:=am (show aa (Rs.bnd _ _) fl from h)
  obtain⟨t,ht,h⟩:=gk h
  refine Dv ((bQ h1 G).td rfl t ht) ?_
  cases t with
  | true=>rw[if_pos rfl];exact I.ss _ (aS (by simp<;>omega) hs) h G hp
  | false=>rw[if_neg Bool.false_ne_true];exact I.ss _ (aS (by simp<;>omega) hs) h G hp
 | For tg it body els p =>
  rw[mj]at h
  split at h
  ·rename_i he
   have he:=List.isEmpty_iff.mp he
   subst he
   obtain⟨p,h1,h⟩:=am h
   split at h
   ·rename_i ds hd
    split at h
    ·rename_i hk
     obtain⟨lq,h1',_⟩:=id h1
     exact AK hp G.calm ((bQ h1 G).ie rfl _ ds hd hk.2) hk.1 (fun d ρ ρ' hb=>kQ G hb) (fun ρ1 f1 h2=>I.ss _ (aS (by simp<;>omega) hs) h2 G hp) h (m9 h1')
    ·exact(ak h).elim
   ·exact(ak h).elim
  ·exact(ak h).elim
 | While c body els p =>
  rw[u9]at h
  split at h
  ·rename_i he
   have he:=List.isEmpty_iff.mp he
   subst he
   refine vV hp (fun ρ b hb=>?_) (fun ρ1 f1 h2=>I.ss _ (aS (by simp<;>omega) hs) h2 G hp) h
   obtain⟨p,h1,hb⟩:=am hb
   obtain⟨t,ht,hb⟩:=gk hb
   cases aC hb
   exact(bQ h1 G).td rfl _ ht
  ·exact(ak h).elim
 | _=>exact(ak h).elim
theorem B7(I:Is Φ n)(ss:List Stmt){H0:Hp}(hs:sizeOf ss<n+1)(h:aa (aI Φ ss sc ρ) fl)(G:aG Φ X sc)(hp:PassesOwn (model X.prog X.w) X.A X.env X.xe):cw X H0 ρ ss fl:=by
 cases ss with
 | nil=>cases aC h;exact qO
 | cons s ss =>
  obtain⟨f1,h1,h⟩:=am (show aa (Rs.bnd _ _) fl from h)
  have c:=I.s s (H0:=H0) (aS (by simp<;>omega) hs) h1 G hp
  cases f1 with
  | nx ρ'=>exact cJ c (I.ss ss (aS (by simp<;>omega) hs) h G hp)
  | bk ρ'=>cases aC h;exact jF c (fun _ z=>(by cases z))
  | ct ρ'=>cases aC h;exact jF c (fun _ z=>(by cases z))
  | rt d=>cases aC h;exact jF c (fun _ z=>(by cases z))
theorem gq(Φ:Fx):∀n,Is Φ n
 | 0=>⟨fun _ _ _ _ _ _ h=>absurd h (Nat.not_lt_zero _),fun _ _ _ _ _ _ h=>absurd h (Nat.not_lt_zero _)⟩
 | n+1=>⟨fun e _ _ _ _ _ hs h G hp=>D4 (gq Φ n) e hs h G hp,fun e _ _ _ _ _ hs h G hp=>B7 (gq Φ n) e hs h G hp⟩
theorem dz(ss:List Stmt){H0:Hp}(h:aa (aI Φ ss sc ρ) fl)(G:aG Φ X sc)(hp:PassesOwn (model X.prog X.w) X.A X.env X.xe):cw X H0 ρ ss fl:=(gq Φ _).ss ss (Nat.lt_succ_self _) h G hp
def aN(sc:Scope):List Str:=(sc.names.filter fun y=>y.2 == .local || y.2 == .cell).map (·.1)
def fM(P:Program)(w:World)(K:W.Frag)(mg:Str->Option Value)(base:Heap)(k:Nat)(g:Str)(F:List D->Rs D):Prop :=
 ∃f fd ps,be P w K mg base cI k f fd ps (gX K F)/\mg g=some (.ref f)/\W.keepIn K (.ref f)=true/\bf K fd ps []/\(g==("__debug__" : Str))=false
theorem fM.mono{P:Program}(h:fM P w K mg base j g F)(hjk:j<=k):fM P w K mg base k g F :=
 let ⟨f,fd,ps,h1,h2⟩:=h;⟨f,fd,ps,h1.mono hjk,h2⟩
def x9(P:Program)(w:World)(K:W.Frag)(mg:Str->Option Value)(base:Heap)(k:Nat)(g:Str)(F:List D->Rs D):Prop :=
 ∃j C f fd ps,j+1<=k/\(∀ds r l,F ds=.ok r l->r.lless=true)/\Mk K C f/\be P w K mg base cI j f fd ps (Ew K g F)/\mg g=some (.ref C)/\W.nsIn K mainGlobals g=some (some (.ref C))/\dR K C/\bf K fd ps []/\(g==("__debug__" : Str))=false
theorem x9.mono{P:Program}(h:x9 P w K mg base j g F)(hjk:j<=k):x9 P w K mg base k g F :=
 let ⟨i,C,f,fd,ps,h0,h1⟩:=h;⟨i,C,f,fd,ps,Nat.le_trans h0 hjk,h1⟩
def EN(P:Program)(w:World)(K:W.Frag)(mg:Str->Option Value)(base:Heap)(k:Nat)(g:Str)(F:List D->Rs D):Prop:=fM P w K mg base k g F\/x9 P w K mg base k g F
def nR(P:Program)(w:World)(K:W.Frag)(mg:Str->Option Value)(base:Heap)(k:Nat)(n m:Str)(F:List D->Rs D):Prop :=
 ∃C f fd ps,W.nsIn K mainGlobals n=some (some (.ref C))/\dR K C/\qc K C m f/\be P w K mg base cI k f fd ps (gX K F)/\bf K fd ps []
theorem nR.mono{P:Program}{n:Str}(h:nR P w K mg base j n m F)(hjk:j<=k):nR P w K mg base k n m F :=
 let ⟨C,f,fd,ps,h1,h2,h3,h4,h5⟩:=h;⟨C,f,fd,ps,h1,h2,h3,h4.mono hjk,h5⟩
theorem pS:∀{ps:List Str} {ds:List D} {x:Str} {d:D} {o:Bool},d7 ps ds x=some (d,o)->o=false/\∃i:Nat,ps[i]?=some x/\ds[i]?=some d
 | [],ds,x,d,o,h=>by cases ds<;>cases h
 | p::ps,[],x,d,o,h=>by cases h
 | p::ps,y::ds,x,d,o,h=>by
  replace h:(if x=p then some (y,false)else d7 ps ds x)=some (d,o):=h
  by_cases e:x=p
  ·rw[if_pos e]at h
   cases h;subst e;exact⟨rfl,0,rfl,rfl⟩
  ·rw[if_neg e]at h
   obtain⟨h1,i,h2,h3⟩:=pS h
   exact⟨h1,i+1,by simpa using h2,by simpa using h3⟩
structure qf(P:Program)(w:World)(K:W.Frag)(mg:Str->Option Value)(base:Heap)(k:Nat)(Φ:Fx):Prop where
 fn:∀g F,Φ.fn g=some F->EN P w K mg base k g F
 con:∀x d,Φ.con x=some d->∃v u,mg x=some u/\aJ v u/\∀H P,ae K H P d v
 blt:∀f B,Φ.blt f=some B->fg f B
 itr:∀f B,Φ.itr f=some B->lw f B
 mth:∀m M,Φ.mth m=some M->tj m M
 mtt:∀m M,Φ.mtt m=some M->gT m M
 slf:nP Φ.slf
 fld:∀n f,Φ.fld n f=true->∀C,W.nsIn K mainGlobals n=some (some (.ref C))->lu K C f
 omt:∀n m F,Φ.omt n m=some F->nR P w K mg base k n m F
 bl:∀n∈fH,mg n=none
def jY(Φ:Fx)(sc:Scope)(ps:List Str)(body:List Stmt)(F:List D->Rs D):Prop:=∀ds r,aa (F ds) r->aa (fu Φ sc ps body ds) r
theorem jY.self:jY Φ sc ps body (fu Φ sc ps body):=fun _ _ h=>h
theorem jb{P:Program}{f:Addr}{E:XK}
  (S:bo (aN (aj st)) ps (aj st)) (hΦ:qf P w K mg base k Φ) (hr:bc k (A.deeper (envOfC qual (aj st) s.heap.objs.size f cdv))) :
  aG Φ (fF cI P w K mg base (aN (aj st)) qual (aj st) f cdv A outer s H E).nox (aj st):=by
 have hun:=hr.un
 refine⟨rfl,S.nd,fun x hx=>hx,fun x hx=>hx,fun x hx=>hx,fun x hx=>hx,fun g' F' hg=>?_,hΦ.con,hΦ.blt,hΦ.itr,hΦ.mth,hΦ.mtt,hΦ.slf,hΦ.fld,fun n m F hF=>?_,hΦ.bl,?_,fun x hx=>?_,fun x _=>rfl⟩
 ·rcases hΦ.fn g' F' hg with z|z
  ·obtain⟨f',fd',ps',a1,a2,a3,a4,a5⟩:=z
   exact .inl ⟨k,f',fd',ps',a1,hr,a2,a3,a4,a5⟩
  ·obtain⟨j,C,f',fd',ps',a0,a1,a2,a3,a4⟩:=z
   exact .inr ⟨j,C,f',fd',ps',a1,a2,a3,hr.mono a0,a4⟩
 ·obtain⟨C,f',fd',ps',a1,a2,a3,a4,a5⟩:=hΦ.omt n m F hF
  exact⟨k,C,f',fd',ps',a1,a2,a3,a4,hr,a5⟩
 ·show(A.deeper _).units+70<cLine
  omega
 ·show x∈aN (aj st)
  unfold aN
  unfold bD at hx
  rw[Bool.or_eq_true]at hx
  rcases hx with hx|hx
  ·have hx:(aj st).names.lookup x=some .local:=by simpa using hx
   exact List.mem_map.mpr ⟨(x,.local),List.mem_filter.mpr ⟨PySem.mem_of_lookup hx,by simp⟩,rfl⟩
  ·have hx:(aj st).names.lookup x=some .cell:=by simpa using hx
   exact List.mem_map.mpr ⟨(x,.cell),List.mem_filter.mpr ⟨PySem.mem_of_lookup hx,by simp⟩,rfl⟩
theorem kZ{P:Program}{f:Addr}{E:XK}
  (S:bo (aN (aj st)) ps (aj st)) (h1:ah K H (fun _ _=>True) ds vs) (hl:ds.length=ps.length) :
  ax (fF cI P w K mg base (aN (aj st)) qual (aj st) f cdv A outer s H E).nox (fun _=>none) H (start (aN (aj st)) vs) (d7 ps ds)/\(start (aN (aj st)) vs).length=(aN (aj st)).length:=by
 have hpl:ps.length<=(aN (aj st)).length:=by have:=congrArg List.length S.pre;rw[List.length_take]at this;omega
 have hvl:vs.length=ps.length:=by rw[<- h1.length];exact hl
 refine⟨⟨fun x d o hx=>?_,fun a ha=>absurd rfl ha⟩,by unfold L2.start;rw[List.length_append,List.length_map,List.length_replicate];omega⟩
 obtain⟨rfl,i,i1,i2⟩:=pS hx
 obtain⟨v,i3,i4⟩:=h1.get i2
 have hi:i<ps.length:=(List.getElem?_eq_some_iff.mp i1).1
 refine⟨i,v,?_,?_,?_,i4.imp fun a b _ _=>rfl⟩
 ·show(aN (aj st))[i]?=some x
  rw[<- S.pre,List.getElem?_take_of_lt hi]at i1
  exact i1
 ·rcases S.par x (List.mem_of_getElem? i1)with z|z
  ·exact .inl z
  ·exact .inr (.inl z)
 ·unfold L2.start
  rw[List.getElem?_append_left (by rw[List.length_map];omega),List.getElem?_map,i3];rfl
theorem rC{P:Program}{f:Addr}(Fn:jA K g qual st f fd)
  (S:bo (aN (aj st)) ps (aj st)) (hΦ:qf P w K mg base k Φ)
  (hrun:jY Φ (aj st) ps (au st) F):be P w K mg base cI (k+1) f fd ps (gX K F):=by
 refine Fn.ok S (fun vs H Q E h=>?_) (fun cdv A outer s H vs Q E hr h=>?_)
 ·obtain⟨ds,r,l,h1,h2,hp,_⟩:=h
  have:=hrun ds r ⟨l,h2,hp⟩
  unfold fu at this
  split at this
  ·rename_i hl;rw[<- h1.length];exact hl
  ·exact(ak this).elim
 ·obtain⟨ds,r,l,h1,h2,hp,q⟩:=h
  have hr1:=hrun ds r ⟨l,h2,hp⟩
  unfold fu at hr1
  split at hr1
  ·rename_i hl
   have G:=jb (outer:=outer) (H:=H) (E:=E) S hΦ hr
   obtain⟨E0,hsl⟩:=kZ (P:=P) (w:=w) (mg:=mg) (base:=base) (qual:=qual) (f:=f) (cdv:=cdv) (A:=A) (outer:=outer) (s:=s) (E:=E) S h1 hl
   have B0:aY H (fun _=>none) H:=fun a o h=>⟨h,rfl⟩
   obtain⟨fl,hx,hr1⟩:=am hr1
   cases fl with
   | rt d =>
    cases aC hr1
    exact⟨_,dz _ (H0:=H) hx G PassesOwn.never,fun _=>none,E0,hsl,B0,fun v H' sm rp=>q v H' sm rp⟩
   | nx ρ' =>
    cases aC hr1
    exact⟨_,dz _ (H0:=H) hx G PassesOwn.never,fun _=>none,E0,hsl,B0,fun ow' σ' H' _ _ kp=>q .non H' (fun a o h=>kp.keep a o h (.inr rfl)) (by rw[ae])⟩
   | bk ρ'=>exact(ak hr1).elim
   | ct ρ'=>exact(ak hr1).elim
  ·exact(ak hr1).elim
mutual
def D.noObj:D->Bool
 | .obj _ _ _=>false
 | .tup l=>gm l
 | .lst l=>gm l
 | .dct _ l=>gm l
 | _=>true
def gm:List D->Bool
 | []=>true
 | d::l=>d.noObj&&gm l
end
mutual
theorem ae.off{K:W.Frag}{P:aQ}{H H':Hp}{x C dx:Addr}{fs:List (Str×V)}(hx:H x=some (.ins C dx fs))(s:∀a o,a≠x->H a=some o->H' a=some o):∀{d:D} {v:V},d.noObj=true->ae K H P d v->ae K H' P d v
 | .non,v,_,h=>by rw[ae]at h⊢;exact h
 | .bl b,v,_,h=>by rw[ae]at h⊢;exact h
 | .int i,v,_,h=>by rw[ae]at h⊢;exact h
 | .str x,v,_,h=>by rw[ae]at h⊢;exact h
 | .dct ks es,v,f,h=>by
  rw[ae]at h⊢
  obtain⟨f0,e0,a,vs,e,h1,p,r⟩:=h
  exact⟨f0,e0,a,vs,e,s _ _ (dh h1 hx (fun z=>nomatch z)) h1,p,ah.off hx s (by rw[D.noObj]at f;exact f) r⟩
 | .typ n,v,_,h=>by rw[ae]at h⊢;exact h
 | .dcf ks es,v,f,h=>by
  rw[ae]at h⊢
  obtain⟨e0,a,o,vs,e,h1,r⟩:=h
  refine⟨e0,a,o,vs,e,s _ _ (dh h1 hx (fun z=>nomatch z)) h1,r.keep (fun a vs h=>?_) fun a o u z=>s _ _ (dh z hx (fun z=>nomatch z)) z⟩
  rcases h with(h|⟨o,h⟩)|h
  ·exact .inl (.inl (s _ _ (dh h hx (fun z=>nomatch z)) h))
  ·exact .inl (.inr ⟨o,s _ _ (dh h hx (fun z=>nomatch z)) h⟩)
  ·exact .inr h
 | .sn n,v,_,h=>by
  rw[ae]at h⊢
  obtain⟨a,S,e,h⟩:=h
  exact⟨a,S,e,s _ _ (dh h hx (fun z=>nomatch z)) h⟩
 | .obj n ns ds,v,f,h=>by rw[D.noObj]at f;cases f
 | .cls n,v,_,h=>by rw[ae]at h⊢;exact h
 | .xc n p,v,_,h=>by rw[ae]at h⊢;exact h.mono (fun a C od z=>s _ _ (dh z hx (fun z=>nomatch z)) z) (fun a fs z=>s _ _ (dh z hx (fun z=>nomatch z)) z)
 | .tup l,v,f,h=>by
  rw[ae]at h⊢
  obtain⟨a,vs,e,h,r⟩:=h
  refine⟨a,vs,e,?_,ah.off hx s (by rw[D.noObj]at f;exact f) r⟩
  rcases h with(h|⟨o,h⟩)|h
  ·exact .inl (.inl (s _ _ (dh h hx (fun z=>nomatch z)) h))
  ·exact .inl (.inr ⟨o,s _ _ (dh h hx (fun z=>nomatch z)) h⟩)
  ·exact .inr h
 | .lst l,v,f,h=>by
  rw[ae]at h⊢
  obtain⟨a,vs,b,e,h,p,r⟩:=h
  refine⟨a,vs,b,e,?_,p,ah.off hx s (by rw[D.noObj]at f;exact f) r⟩
  cases b with
  | true=>exact s _ _ (dh h hx (fun z=>nomatch z)) h
  | false =>
   rcases h with⟨o,h⟩|h
   ·exact .inl ⟨o,s _ _ (dh h hx (fun z=>nomatch z)) h⟩
   ·exact .inr h
theorem ah.off{K:W.Frag}{P:aQ}{H H':Hp}{x C dx:Addr}{fs:List (Str×V)}(hx:H x=some (.ins C dx fs))(s:∀a o,a≠x->H a=some o->H' a=some o):∀{l:List D} {vs:List V},gm l=true->ah K H P l vs->ah K H' P l vs
 | [],vs,_,h=>by rw[ah]at h⊢;exact h
 | d::l,vs,f,h=>by
  rw[ah]at h⊢
  rw[gm,Bool.and_eq_true]at f
  obtain⟨v,r,e,h1,h2⟩:=h
  exact⟨v,r,e,ae.off hx s f.1 h1,ah.off hx s f.2 h2⟩
end
theorem kS{P:Program}{f:Addr}(Fn:jA K g qual st f fd)
  (S:bo (aN (aj st)) ps (aj st)) (hm:mg g=some (.ref f)) (hb:bf K fd ps []) (hd:(g==("__debug__" : Str))=false)
  (hΦ:qf P w K mg base k Φ) (hrun:jY Φ (aj st) ps (au st) F):fM P w K mg base (k+1) g F :=
 ⟨f,fd,ps,rC Fn S hΦ hrun,hm,Fn.kp,hb,hd⟩
theorem aO{Pr:α->Prop}{x:α}{l:List α}(h1:Pr x)(h2:∀y∈l,Pr y):∀y∈x::l,Pr y:=fun y hy=>(List.mem_cons.mp hy).elim (fun e=>e ▸ h1) (h2 y)
theorem aU{Pr:α->Prop}:∀y∈([]:List α),Pr y:=fun y hy=>by cases hy
theorem BV{a:Addr}{ns:List Int}(hO:tf H)(hS:bM K H a (ns.map V.int))(h:aa (F [.lst (ns.map D.int)]) (.bl true)):gX K F [.ref a] H (fun v _=>v=.bl true) fun _ _ _=>False:=by
 obtain⟨l,h,hp⟩:=h
 refine⟨[.lst (ns.map D.int)],.bl true,l,ah.one ?_,h,hp,fun v H' _ r=>by rw[ae]at r;exact r⟩
 rw[ae]
 rcases hS with(hS|hS)|hS
 ·rcases hO a with z|⟨o,xs,z⟩
  ·rw[z]at hS;cases hS
  ·rw[z]at hS;cases hS
 ·exact⟨a,_,false,rfl,.inl hS,True.intro,ah.ofInts⟩
 ·exact⟨a,_,false,rfl,.inr hS,True.intro,ah.ofInts⟩
abbrev yb(P:Program)(w:World)(K:W.Frag)(mg:Str->Option Value)(base:Heap)(k:Nat):Str×(List D->Rs D)->Prop:=fun p=>EN P w K mg base k p.1 p.2
abbrev gW(mg:Str->Option Value)(K:W.Frag):Str×D->Prop:=fun p => ∃v u,mg p.1=some u/\aJ v u/\∀H P,ae K H P p.2 v
abbrev mI:Str×(List D->R1)->Prop:=fun p=>fg p.1 p.2
abbrev wS:Str×(List D->Nat->R1)->Prop:=fun p=>lw p.1 p.2
abbrev Da:Str×(D->List D->R1)->Prop:=fun p=>tj p.1 p.2
abbrev p9:Str×(List D->List D->Nat->Rs (List D))->Prop:=fun p=>gT p.1 p.2
theorem de{P:Program}{l:List (Str×(List D->Rs D))}{c:List (Str×D)}{b:List (Str×(List D->R1))}{i:List (Str×(List D->Nat->R1))}{m:List (Str×(D->List D->R1))}{t:List (Str×(List D->List D->Nat->Rs (List D)))}{sf:D->Option Int->Option Int->R1}
  (hl:∀p∈l,yb P w K mg base k p) (hc:∀p∈c,gW mg K p) (hb:∀p∈b,mI p) (hi:∀p∈i,wS p) (hm:∀p∈m,Da p) (ht:∀p∈t,p9 p) (hs:nP sf) (hn:∀n∈fH,mg n=none):qf P w K mg base k (Tb l c b i m t sf) :=
 ⟨fun g F h=>hl (g,F) (PySem.mem_of_lookup h),fun x d h=>hc (x,d) (PySem.mem_of_lookup h),fun f B h=>hb (f,B) (PySem.mem_of_lookup h),fun f B h=>hi (f,B) (PySem.mem_of_lookup h),fun f B h=>hm (f,B) (PySem.mem_of_lookup h),fun f B h=>ht (f,B) (PySem.mem_of_lookup h),hs,(fun _ _ h=>by cases h),(fun _ _ _ h=>by cases h),hn⟩
theorem mB{y:Int}{t:Tok}(hm:mg x=some (.int y t)):gW mg K (x,.int y):=⟨.int y,.int y t,hm,⟨t,rfl⟩,fun H P=>by rw[ae]⟩
open AutoSeq1 (wpAny_loadPart')
section
variable{prog:Program}{w:World}{A:Around}{E:Value->Shared->Prop}{s:Shared}
end
variable{X:Cx}
open AutoSeq1 (wpAny_loadPart')
section
variable{prog:Program}{w:World}{A:Around}{E:Value->Shared->Prop}{s:Shared}
variable{z TI TO i1 i2 l1 l2:Addr}{k1 k2:Nat}{P1 P2:Nat->Heap->Prop}{g1 g2:Nat->Option Value}{x y a b:Value}
end
variable{X:Cx}
variable{X:Cx}
open AutoSeq1 (wpAny_loadPart')
variable{X:Cx}
section
variable{prog:Program}{w:World}{A:Around}{E:Value->Shared->Prop}{s:Shared}
end
open PySem.W (KasT kas_sort kas_ask KatLex KatTups kat_sorted kat_kind kat_lt kat_cons kat_nil kat_go kat_yes kat_no kat_one KasFin)
def lx(fin:Bool):List Int->List Int->Bool
 | x::xs,y::ys=>if x=y then lx fin xs ys else decide (x<y)
 | _,_=>fin
theorem uA:∀xs ys:List Int,lx (decide (xs.length<ys.length)) xs ys=HT.lexLt xs ys
 | [],[]=>rfl
 | [],_::_=>rfl
 | _::_,[]=>rfl
 | x::xs,y::ys=>by
  rw[HT.lexLt_cons,lx]
  have:decide ((x::xs).length<(y::ys).length)=decide (xs.length<ys.length):=by simp
  rw[this,uA xs ys]
section
variable{prog:Program}{w:World}{A:Around}{E:Value->Shared->Prop}{s:Shared}
theorem sx{x y:Int}{t u:Tok}(h:Q (decide (x<y)) s):wpAny (model prog w) A (oneLt' b (.int x t) (.int y u)) Q E s:=by
 cases b with
 | true=>exact oneLt_int h
 | false=>exact kat_one _ _ (lt_int h)
theorem o3{b fin:Bool}{Q:Bool->Shared->Prop}:∀(xs ys:List Int) (us vs:List Value) (i:Nat),av (xs.map V.int) us->av (ys.map V.int) vs->Q (lx fin xs ys) s->KatLex prog w A b fin Q (us.zip vs) i s
 | [],ys,us,vs,i,r1,r2,q=>by
  cases r1
  exact kat_nil (by cases ys<;>exact q)
 | x::xs,[],us,vs,i,r1,r2,q=>by
  cases r2
  rw[List.zip_nil_right]
  exact kat_nil q
 | x::xs,y::ys,us,vs,i,r1,r2,q=>by
  cases r1 with
  | cons a1 b1 =>
   cases r2 with
   | cons a2 b2 =>
    obtain⟨t,rfl⟩:=a1
    obtain⟨u,rfl⟩:=a2
    refine kat_cons (wpAny_eqBool_int ?_)
    refine kat_go (fun e=>kat_yes ?_) fun e=>kat_no ?_
    ·have e:x=y:=by simpa using e
     refine o3 xs ys _ _ (i+1) b1 b2 ?_
     rw[lx,if_pos e]at q;exact q
    ·have e:x≠y:=by simpa using e
     rw[lx,if_neg e]at q
     exact sx q
end
theorem bj.length:∀{vs:List V} {r:List (List Int)},bj K H vs r->vs.length=r.length
 | [],[],_=>rfl
 | v::vs,ns::r,h=>by rw[List.length_cons,List.length_cons,h.2.length]
 | [],_::_,h=>h.elim
 | _::_,[],h=>h.elim
theorem bj.get{K:W.Frag}{H:Hp}:∀{vs:List V} {r:List (List Int)} {i:Nat},bj K H vs r->i<vs.length->∃a,vs[i]?=some (.ref a)/\bg K H a ((r.getD i []).map V.int)/\r.getD i []≠[]
 | [],_,_,_,h=>by cases h
 | v::vs,[],_,h,_=>h.elim
 | v::vs,ns::r,0,h,_=>by
  obtain⟨a,e,h1,h2⟩:=h.1
  exact⟨a,by rw[e];rfl,h1,h2⟩
 | v::vs,ns::r,i+1,h,hi=>by
  obtain⟨a,h1,h2,h3⟩:=bj.get (i:=i) h.2 (by simpa using hi)
  exact⟨a,by simpa using h1,by simpa using h2,by simpa using h3⟩
variable{X:Cx}
def fN:List D->Option (List (List Int))
 | []=>some []
 | .tup l::r=>(match bH l,fN r with
  | some (n::ns),some q=>some ((n::ns)::q)
  | _,_=>none)
 | _=>none
theorem n6{K:W.Frag}{P:aQ}{H:Hp}:∀{l:List D} {nss:List (List Int)} {ts:List V},fN l=some nss->ah K H P l ts->bj K H ts nss/\aq l=true
 | [],nss,ts,h,r=>by
  rw[fN]at h;cases h
  rw[ah]at r;subst r
  exact⟨trivial,rfl⟩
 | d::l,nss,ts,h,r=>by
  rw[ah]at r
  obtain⟨v,vs,rfl,r1,r2⟩:=r
  cases d with
  | tup m =>
   rw[fN]at h
   split at h
   ·rename_i n ns q e1 e2
    cases h
    obtain⟨h1,h2⟩:=n6 e2 r2
    cases eS e1
    rw[ae]at r1
    obtain⟨a,ws,rfl,hs,rl⟩:=r1
    refine⟨⟨⟨a,rfl,by rw[<- rl.mapInt];exact hs,by simp⟩,h1⟩,?_⟩
    rw[aq,h2,D.lless]
    have:∀ns:List Int,aq (ns.map D.int)=true:=by
     intro ns
     induction ns with
     | nil=>rfl
     | cons n ns ih=>rw[List.map_cons,aq,ih];rfl
    rw[this];rfl
   ·cases h
  | _=>cases h
theorem fx{r:Rs α}{a:α}(h:r=.ok a l)(hp:ay l):aa r a:=⟨l,h,hp⟩
theorem aa.eq{r:Rs α}{a b:α}(h:aa r a)(e:a=b):aa r b:=e ▸ h
theorem aa.bnd{r:Rs α}{f:α->Rs β}{a:α}{b:β}(h1:aa r a)(h2:aa (f a) b):aa (r.bnd f) b:=by
 obtain⟨l,rfl,p1⟩:=h1
 obtain⟨m,h2,p2⟩:=h2
 refine⟨l++m,?_,bY.mpr ⟨p1,p2⟩⟩
 show(match f a with | .st=>(.st:Rs β) | .ok b m=>Rs.ok b (l++m))=_
 rw[h2]
theorem aa.inj{r:Rs α}{a b:α}(h:aa r a)(g:aa r b):a=b:=by
 obtain⟨l,h,_⟩:=h;obtain⟨m,g,_⟩:=g;rw[h]at g;cases g;rfl
section
variable{Φ:Fx}{sc:Scope}{ρ ρ':ac}{fl:Fl}{ss:List Stmt}
theorem nD(h:aa (aI Φ body sc (d7 ps ds)) (.rt d))(hl:ds.length=ps.length:=by rfl):aa (fu Φ sc ps body ds) d:=by
 unfold fu;rw[if_pos hl];exact h.bnd ⟨[],rfl,True.intro⟩
theorem eI:aa (aI Φ [] sc ρ) (.nx ρ):=⟨[],rfl,True.intro⟩
theorem bF{s:Stmt}(h:aa (dN Φ s sc ρ) (.nx ρ'))(h2:aa (aI Φ ss sc ρ') fl):aa (aI Φ (s::ss) sc ρ) fl:=aa.bnd h h2
theorem hV{s:Stmt}(h:aa (dN Φ s sc ρ) fl)(hf:∀ρ,fl ≠ .nx ρ):aa (aI Φ (s::ss) sc ρ) fl:=aa.bnd h (by
 cases fl with
 | nx ρ=>exact absurd rfl (hf ρ)
 | rt d=>exact⟨[],rfl,True.intro⟩
 | bk ρ=>exact⟨[],rfl,True.intro⟩
 | ct ρ=>exact⟨[],rfl,True.intro⟩)
theorem xk{s:Stmt}(h:aa (dN Φ s sc ρ) (.rt d)):aa (aI Φ (s::ss) sc ρ) (.rt d):=hV h fun _ z=>by cases z
theorem ol{s:Stmt}(h:aa (aI Φ (s::ss) sc ρ) fl):(∃ρ',aa (dN Φ s sc ρ) (.nx ρ')/\aa (aI Φ ss sc ρ') fl)\/((∀ρ,fl ≠ .nx ρ)/\aa (dN Φ s sc ρ) fl):=by
 obtain⟨f,h1,h2⟩:=am (show aa (Rs.bnd _ _) fl from h)
 cases f with
 | nx ρ'=>exact .inl ⟨ρ',h1,h2⟩
 | rt d=>cases aC h2;exact .inr ⟨fun _ z=>(by cases z),h1⟩
 | bk ρ=>cases aC h2;exact .inr ⟨fun _ z=>(by cases z),h1⟩
 | ct ρ=>cases aC h2;exact .inr ⟨fun _ z=>(by cases z),h1⟩
theorem vA:∀{a:List Stmt} {ρ:ac},aa (aI Φ a sc ρ) (.nx ρ')->aa (aI Φ ss sc ρ') fl->aa (aI Φ (a++ss) sc ρ) fl
 | [],ρ,h,h2=>by cases aC h;exact h2
 | s::a,ρ,h,h2=>by
  rcases ol h with⟨ρ1,h3,h4⟩|⟨h3,_⟩
  ·exact bF h3 (vA h4 h2)
  ·exact absurd rfl (h3 _)
theorem mE:∀{a:List Stmt} {ρ:ac},aa (aI Φ (a++ss) sc ρ) fl->(∃ρ',aa (aI Φ a sc ρ) (.nx ρ')/\aa (aI Φ ss sc ρ') fl)\/((∀ρ,fl ≠ .nx ρ)/\aa (aI Φ a sc ρ) fl)
 | [],ρ,h=>.inl ⟨ρ,eI,h⟩
 | s::a,ρ,h=>by
  rcases ol h with⟨ρ1,h3,h4⟩|⟨h3,h4⟩
  ·rcases mE h4 with⟨ρ2,h5,h6⟩|⟨h5,h6⟩
   ·exact .inl ⟨ρ2,bF h3 h5,h6⟩
   ·exact .inr ⟨h5,bF h3 h6⟩
  ·exact .inr ⟨h3,hV h4 h3⟩
theorem tP(n:Nat)(h:aa (aI Φ (ss.take n) sc ρ) (.nx ρ'))(h2:aa (aI Φ (ss.drop n) sc ρ') fl):aa (aI Φ ss sc ρ) fl:=by
 rw[<- List.take_append_drop n ss];exact vA h h2
theorem rW{a b:List Stmt}(hc:aa (ar Φ c false sc ρ) (.bl t,k))(h1:t=true->aa (aI Φ (a++ss) sc ρ) fl)(h2:t=false->aa (aI Φ (b++ss) sc ρ) fl):aa (aI Φ (.If c a b p::ss) sc ρ) fl:=by
 have key:∀x,aa (cond t (aI Φ a sc ρ) (aI Φ b sc ρ)) x->aa (dN Φ (.If c a b p) sc ρ) x:=fun x hx=>aa.bnd hc hx
 cases t with
 | true =>
  rcases mE (h1 rfl)with⟨ρ1,h3,h4⟩|⟨h3,h4⟩
  ·exact bF (key _ h3) h4
  ·exact hV (key _ h4) h3
 | false =>
  rcases mE (h2 rfl)with⟨ρ1,h3,h4⟩|⟨h3,h4⟩
  ·exact bF (key _ h3) h4
  ·exact hV (key _ h4) h3
theorem cZ{a b:List Stmt}(hc:aa (ar Φ c false sc ρ) (.bl t,k))(ht:t=false)(h1:aa (aI Φ (b++ss) sc ρ) fl):aa (aI Φ (.If c a b p::ss) sc ρ) fl:=rW hc (fun z=>by rw[ht]at z;cases z) fun _=>h1
theorem B9{it:Expr}(hi:aa (ar Φ it true sc (demote it ρ)) (d,k))(hd:items d=some ds)(hk:k<=1)(ht:dS it tg=true)(h:aa (dy (bi sc tg) (aI Φ body sc) ds (demote it ρ)) fl):aa (dN Φ (.For tg it body [] p) sc ρ) fl:=by
 rw[mj,if_pos (show List.isEmpty ([]:List Stmt)=true from rfl)]
 refine hi.bnd ?_
 dsimp only
 rw[hd]
 dsimp only
 rw[if_pos ⟨hk,ht⟩]
 exact h
theorem cC{v:D}(ha:aa (ba Φ args sc ρ) (ds,k))(hv:aa (F ds) v)(hF:Φ.fn f=some F:=by rfl)(hg:sc.names.lookup f=some .globalImplicit:=by rfl):aa (ar Φ (.Call (.Name f p) args [] q) it sc ρ) (v,0):=by
 rw[fE,if_pos hg]
 refine ha.bnd ?_
 unfold gR
 rw[hF]
 exact hv.bnd ⟨[],rfl,True.intro⟩
theorem vd{v:D×Nat}(ha:aa (ba Φ args sc ρ) (ds,k))(hv:aa (B ds) v)(hF:Φ.fn f=none:=by rfl)(hI:(if it=true then Φ.itr f else none)=none:=by rfl)(hB:Φ.blt f=some B:=by rfl)(hg:sc.names.lookup f=some .globalImplicit:=by rfl):aa (ar Φ (.Call (.Name f p) args [] q) it sc ρ) v:=by
 rw[fE,if_pos hg]
 refine ha.bnd ?_
 unfold gR
 rw[hF];dsimp only
 rw[hI];dsimp only
 rw[hB];exact hv
theorem gw:aa (ba Φ [] sc ρ) ([],0):=⟨[],rfl,True.intro⟩
theorem fC(h:aa (ar Φ e false sc ρ) (d,k))(h2:aa (ba Φ es sc ρ) (ds,j)):aa (ba Φ (e::es) sc ρ) (d::ds,kj k j):=aa.bnd h (aa.bnd h2 ⟨[],rfl,True.intro⟩)
theorem rD{out:List D}(hi:aa (ar Φ iter true sc ρ) (d,k))(hd:items d=some ds)(hl:ds.length<=bh/\(aq ds=true\/k<=1))
    (h:aa (eg (fun d=>match bi scope tg d (flt scope ρ)with
            | none=>.st
            | some ρ'=>(cj Φ .And ifs scope ρ').bnd fun b=>cond b ((ar Φ elt false scope ρ').bnd fun r=>.ok (some r) []) (.ok none [])) ds) (out,j)) (hj:j<=1) (hc:jw sc scope=true:=by rfl) (ht:dS iter tg=true:=by rfl):aa (ar Φ (.ListComp elt [⟨tg,iter,ifs,0⟩] scope p) it sc ρ) (.lst out,j):=by
  rw[mm,if_pos hc]
  refine hi.bnd ?_
  dsimp only
  rw[hd]
  dsimp only
  rw[if_pos ht]
  refine aa.bnd (a:=()) ⟨_,rfl,hl.1,hl.2,True.intro⟩ ?_
  refine h.bnd ?_
  rw[if_pos hj]
  exact⟨[],rfl,True.intro⟩
theorem xO{i:Expr}{x:D}{l:List D}{j:Int}(ha:aa (ar Φ a false sc ρ) (x,k))(hi:aa (ar Φ i false sc ρ) (.int j,k2))(hx:gH x=some l)(hd:L2.atI l j=some d):aa (ar Φ (.Subscript a i p) it sc ρ) (d,kn d k):=by
 have key:aa ((ar Φ a false sc ρ).bnd fun p=>(ar Φ i false sc ρ).bnd fun q=>jE p q) (d,kn d k):=by
  refine ha.bnd (hi.bnd ?_)
  rcases gG hx with rfl|rfl
  ·show aa (o5 (.tup l) j k) _
   unfold o5
   rw[hx];dsimp only
   rw[hd];exact⟨[],rfl,True.intro⟩
  ·show aa (o5 (.lst l) j k) _
   unfold o5
   rw[hx];dsimp only
   rw[hd];exact⟨[],rfl,True.intro⟩
 cases i with
 | Slice lo hi st p2=>exact(ak hi).elim
 | _=>exact key
theorem iC(h:aa (ar Φ e false sc ρ) (d,0))(hx:bD sc x=true:=by rfl):aa (dN Φ (.Assign [.Name x p] e q) sc ρ) (.nx (aL ρ x (d,true))):=by
 refine aa.bnd h ?_
 unfold lI
 rw[if_pos hx]
 exact⟨[],rfl,True.intro⟩
theorem u7(h:aa (ar Φ e false sc ρ) (d,k))(hk:k=0\/k=2:=by exact .inl rfl)(hn:nG e=false:=by rfl):aa (dN Φ (.Return (some e) q) sc ρ) (.rt d):=by
 have h:aa (ar Φ e false sc (oA e ρ)) (d,k):=by unfold oA;rw[hn];exact h
 refine aa.bnd h ?_
 unfold rZ
 rw[if_pos hk]
 exact⟨[],rfl,True.intro⟩
end
theorem ph{bind:D->ac->Option ac}{body:ac->Rs Fl}(ai:List D->ac->Prop)(step:∀d l ρ,ai (d::l) ρ->∃ρ1 ρ2,bind d ρ=some ρ1/\(aa (body ρ1) (.nx ρ2)\/aa (body ρ1) (.ct ρ2))/\ai l ρ2):∀{ds:List D} {ρ:ac},ai ds ρ->∃ρ',aa (dy bind body ds ρ) (.nx ρ')/\ai [] ρ'
 | [],ρ,h=>⟨ρ,⟨[],rfl,True.intro⟩,h⟩
 | d::l,ρ,h=>by
  obtain⟨ρ1,ρ2,h1,h2,h3⟩:=step d l ρ h
  obtain⟨ρ',h4,h5⟩:=ph ai step h3
  refine⟨ρ',?_,h5⟩
  show aa (match bind d ρ with|none=>(.st:Rs Fl)|some ρ1=>(body ρ1).bnd (oP (dy bind body l))) _
  rw[h1]
  rcases h2 with h2|h2
  ·exact h2.bnd h4
  ·exact h2.bnd h4
theorem ng{α:Type}{step:D->Rs (Option (D×Nat))}{g:α->D}{f:α->D}:∀{l:List α},(∀x∈l,aa (step (g x)) (some (f x,0)))->aa (eg step (l.map g)) (l.map f,0)
 | [],_=>⟨[],rfl,True.intro⟩
 | x::l,h=>aa.bnd (h x List.mem_cons_self) (aa.bnd (ng fun y hy=>h y (List.mem_cons_of_mem _ hy)) ⟨[],rfl,True.intro⟩)
theorem iE{α:Type}{step:D->Rs (Option (D×Nat))}{g:α->D}{f:α->D}{c:α->Bool}:∀{l:List α},(∀x∈l,aa (step (g x)) (cond (c x) (some (f x,0)) none))->aa (eg step (l.map g)) ((l.filter c).map f,0)
 | [],_=>⟨[],rfl,True.intro⟩
 | x::l,h=>by
  have h1:=h x List.mem_cons_self
  have h2:=iE (c:=c) fun y hy=>h y (List.mem_cons_of_mem _ hy)
  cases e:c x with
  | true =>
   rw[e]at h1
   rw[List.filter_cons_of_pos e]
   exact aa.bnd h1 (aa.bnd h2 ⟨[],rfl,True.intro⟩)
  | false =>
   rw[e]at h1
   rw[List.filter_cons_of_neg (by rw[e];decide)]
   exact aa.bnd h1 (aa.bnd h2 ⟨[],rfl,True.intro⟩)
theorem cT{a b:Int}(h:a.natAbs<18446744073709551616):cq a b:=.inl h
theorem ze{a b:Int}(h:b.natAbs<18446744073709551616):cq a b:=.inr (.inl h)
theorem CU(h:n<2 ^ 64):n<vw:=Nat.lt_of_lt_of_le h (Nat.pow_le_pow_right (by decide) (by decide))
theorem zK{b:Int}(h0:b≠0)(h:b.natAbs<18446744073709551616):ld b:=⟨h0,CU h⟩
theorem Aa{ns:List Int}{i:Int}(h0:0<=i)(h1:i<ns.length):L2.atI (ns.map D.int) i=some (.int (ns.getD i.toNat 0)):=by
 obtain⟨j,rfl⟩:=Int.eq_ofNat_of_zero_le h0
 have hj:j<ns.length:=by omega
 have:=zZ (xs:=ns.map D.int) (j:=j) (v:=.int (ns.getD j 0)) (by simp[hj])
 simpa using this
theorem kN(ns:List Int):bH (ns.map D.int)=some ns:=by
 induction ns with
 | nil=>rfl
 | cons n ns ih=>rw[List.map_cons,bH,ih];rfl
theorem wM:ay []:=True.intro
theorem sV{m:List Prop}(h:ay l)(g:ay m):ay (l++m):=bY.mpr ⟨h,g⟩
theorem wL{p:Prop}(h:p):ay [p]:=⟨h,True.intro⟩
theorem qE{p:Prop}(h:p)(g:ay l):ay (p::l):=⟨h,g⟩
theorem yP{a b:Int}(h0:0<=b)(h1:b<=1000)(h2:a.natAbs<18446744073709551616):si a b:=⟨h0,h1,h2⟩
def Sub(C ρ:ac):Prop:=∀x y,C x=some y->ρ x=some y
theorem Sub.refl(ρ:ac):Sub ρ ρ:=fun _ _ h=>h
theorem Sub.trans{a b c:ac}(h:Sub a b)(g:Sub b c):Sub a c:=fun x y e=>g x y (h x y e)
theorem Sub.put(h:Sub C ρ)(x:Str)(y:D×Bool):Sub (aL C x y) (aL ρ x y):=fun z w e=>by
 rw[bq]at e⊢
 by_cases hz:z=x
 ·rw[if_pos hz]at e⊢;exact e
 ·rw[if_neg hz]at e⊢;exact h z w e
theorem Sub.flt(h:Sub C ρ)(scope:Scope):Sub (flt scope C) (flt scope ρ):=fun z w e=>by
 obtain⟨e1,e2⟩:=gO e
 unfold Sp.flt
 rw[if_pos e2];exact h z w e1
theorem Sub.demX(h:Sub C ρ)(x:Str):Sub (demX x C) (demX x ρ):=by
 unfold Sp.demX
 intro z w hz
 by_cases hx:z=x
 ·simp only[if_pos hx]at hz⊢
  cases hc:C z with
  | none=>rw[hc]at hz;cases hz
  | some q=>rw[hc]at hz;rw[h z q hc];exact hz
 ·simp only[if_neg hx]at hz⊢;exact h z w hz
theorem Sub.demA(h:Sub C ρ)(x:Str):Sub (demA x C) (demA x ρ):=by
 intro z w hz
 unfold Sp.demA at hz⊢
 by_cases hx:z=x
 ·simp only[if_pos hx]at hz⊢
  cases hc:C z with
  | none=>rw[hc]at hz;cases hz
  | some q=>rw[hc]at hz;rw[h z q hc];exact hz
 ·simp only[if_neg hx]at hz⊢;exact h z w hz
theorem Sub.demL:∀{es:List Expr} {C ρ:ac},Sub C ρ->Sub (demL es C) (demL es ρ)
 | [],_,_,h=>h
 | e::es,C,ρ,h=>by
  cases e with
  | Name x p=>exact Sub.demL (es:=es) (h.demA x)
  | Subscript a i p =>
   cases a with
   | Name x q=>exact Sub.demL (es:=es) (h.demA x)
   | _=>exact Sub.demL (es:=es) h
  | _=>exact Sub.demL (es:=es) h
theorem Sub.demote(h:Sub C ρ)(e:Expr):Sub (demote e C) (demote e ρ):=by
 unfold Sp.demote
 split
 ·exact h.demX _
 ·exact h.demX _
 ·exact h.demL
 ·exact h
theorem mR:∀{es:List Expr} {ds:List D} {C C' ρ:ac},aK sc es ds C=some C'->Sub C ρ->∃ρ',aK sc es ds ρ=some ρ'/\Sub C' ρ':=by
 intro es
 induction es with
 | nil =>
  intro ds C C' ρ h s
  cases ds with
  | nil=>cases h;exact⟨ρ,rfl,s⟩
  | cons d ds=>cases h
 | cons e es ih =>
  intro ds C C' ρ h s
  cases ds with
  | nil=>cases e<;>cases h
  | cons d ds =>
   cases e with
   | Name z p =>
    rw[aK]at h⊢
    split at h
    ·rename_i hz
     rw[if_pos hz]
     exact ih h (s.put _ _)
    ·cases h
   | _=>cases h
theorem oj(h:bi sc tg d C=some C')(s:Sub C ρ):∃ρ',bi sc tg d ρ=some ρ'/\Sub C' ρ':=by
 unfold bi at h⊢
 split at h
 ·split at h
  ·rename_i hx;cases h;exact⟨_,if_pos hx,s.put _ _⟩
  ·cases h
 ·split at h
  ·exact mR h s
  ·cases h
 ·cases h
theorem cU{m:List Prop}(h:b=true->ay m):ay (gd b m):=by
 cases m with
 | nil=>exact True.intro
 | cons p l=>exact⟨h,True.intro⟩
theorem pU{c:Bool}{r:Rs Bool}(h:b=true->aa r c)(hf:b=false->c=false):aa (sU b r) c:=by
 cases b with
 | true =>
  obtain⟨m,rfl,hm⟩:=h rfl
  exact⟨_,rfl,cU fun _=>hm⟩
 | false =>
  rw[hf rfl]
  cases r with
  | ok c' m=>exact⟨_,rfl,cU fun z=>(by cases z)⟩
  | st=>exact⟨_,rfl,True.intro⟩
theorem su{c:Bool}{r:Rs Bool}(h:b=false->aa r c)(hf:b=true->c=true):aa (xu b r) c:=by
 cases b with
 | false =>
  obtain⟨m,rfl,hm⟩:=h rfl
  exact⟨_,rfl,cU fun _=>hm⟩
 | true =>
  rw[hf rfl]
  cases r with
  | ok c' m=>exact⟨_,rfl,cU fun z=>(by cases z)⟩
  | st=>exact⟨_,rfl,True.intro⟩
theorem DS{r s:R1}{d:D×Nat}(h:aa (if t=true then r else s) d):aa (xF t r s) d:=by
 cases t with
 | true =>
  rw[if_pos rfl]at h
  obtain⟨m,rfl,hm⟩:=h
  cases s with
  | ok q n=>exact⟨_,by show Rs.ok _ _=Rs.ok _ _;rw[oS,xC],bY.mpr ⟨cU fun _=>hm,cU fun z=>(by cases z)⟩⟩
  | st=>exact⟨m,rfl,hm⟩
 | false =>
  rw[if_neg Bool.false_ne_true]at h
  obtain⟨m,rfl,hm⟩:=h
  cases r with
  | ok q n=>exact⟨_,by show Rs.ok _ _=Rs.ok _ _;rw[oV,xD],bY.mpr ⟨cU fun z=>(by cases z),cU fun _=>hm⟩⟩
  | st=>exact⟨m,rfl,hm⟩
theorem jV{p:D×Nat}{f:Bool->Rs α}{a:α}(h:p.1=.bl b)(h2:aa (f b) a):aa (iI p f) a:=by
 unfold iI;rw[h];exact h2
theorem DR{p:D×Nat}{f:Int->R1}{a:D×Nat}{b:Int}(h:p.1=.int b)(h2:aa (f b) a):aa (gL p f) a:=by
 unfold gL;rw[h];exact h2
structure Mo(Φ:Fx)(n:Nat):Prop where
 e:∀(e:Expr) {it:Bool} {sc:Scope} {C ρ:ac} {p:D×Nat},sizeOf e<n->aa (ar Φ e it sc C) p->Sub C ρ->aa (ar Φ e it sc ρ) p
 es:∀(es:List Expr) {sc:Scope} {C ρ:ac} {p:List D×Nat},sizeOf es<n->aa (ba Φ es sc C) p->Sub C ρ->aa (ba Φ es sc ρ) p
 b:∀(op:BoolOp) (es:List Expr) {sc:Scope} {C ρ:ac} {b:Bool},sizeOf es<n->aa (cj Φ op es sc C) b->Sub C ρ->aa (cj Φ op es sc ρ) b
 o:∀(e:Option Expr) {sc:Scope} {C ρ:ac} {o:Option Int},sizeOf e<n->aa (rE Φ e sc C) o->Sub C ρ->aa (rE Φ e sc ρ) o
theorem qX{step step2:D->Rs (Option (D×Nat))}(h:∀d r,aa (step d) r->aa (step2 d) r):∀{ds:List D} {q:List D×Nat},aa (eg step ds) q->aa (eg step2 ds) q
 | [],q,hq=>hq
 | d::ds,q,hq=>by
  obtain⟨r,h1,h2⟩:=am (show aa (Rs.bnd _ _) q from hq)
  obtain⟨q1,h3,h4⟩:=am h2
  exact aa.bnd (h _ _ h1) (aa.bnd (qX h h3) h4)
section
variable{Φ:Fx}{n:Nat}{it:Bool}{sc:Scope}{C ρ:ac}{p:D×Nat}
theorem DN(I:Mo Φ n){i:Expr}(hs:sizeOf (Expr.Subscript a i pos)<n+1)(h:aa ((ar Φ a false sc C).bnd fun p=>(ar Φ i false sc C).bnd fun q=>jE p q) p)(s:Sub C ρ):aa ((ar Φ a false sc ρ).bnd fun p=>(ar Φ i false sc ρ).bnd fun q=>jE p q) p:=by
 obtain⟨x,h1,h⟩:=am h
 obtain⟨y,h2,h⟩:=am h
 exact aa.bnd (I.e a (aS (by simp<;>omega) hs) h1 s) (aa.bnd (I.e i (aS (by simp<;>omega) hs) h2 s) h)
theorem FV(I:Mo Φ n)(e:Expr)(hs:sizeOf e<n+1)(h:aa (ar Φ e it sc C) p)(s:Sub C ρ):aa (ar Φ e it sc ρ) p:=by
 cases e with
 | Constant c k q=>exact h
 | Name x q =>
  replace h:aa (iY Φ x sc C) p:=h
  show aa (iY Φ x sc ρ) p
  unfold iY at h⊢
  split at h
  ·rename_i hx
   rw[if_pos hx]
   split at h
   ·rename_i hg;rw[if_pos hg];exact h
   ·rename_i hg
    rw[if_neg hg]
    split at h
    ·rename_i y hy;rw[s x y hy];exact h
    ·exact(ak h).elim
  ·exact(ak h).elim
 | BinOp a op b q =>
  obtain⟨x,h1,h⟩:=am (show aa (Rs.bnd _ _) p from h)
  obtain⟨y,h2,h⟩:=am h
  exact aa.bnd (I.e a (aS (by simp<;>omega) hs) h1 s) (aa.bnd (I.e b (aS (by simp<;>omega) hs) h2 s) h)
 | UnaryOp op a q =>
  obtain⟨x,h1,h⟩:=am (show aa (Rs.bnd _ _) p from h)
  exact aa.bnd (I.e a (aS (by simp<;>omega) hs) h1 s) h
 | BoolOp op es q =>
  rw[mn]at h⊢
  split at h
  ·exact(ak h).elim
  ·rename_i hne
   rw[if_neg hne]
   obtain⟨b,h1,h⟩:=am h
   exact aa.bnd (I.b op es (aS (by simp<;>omega) hs) h1 s) h
 | Compare a ops bs q =>
  match ops,bs,hs,h with
  | [op],[b],hs,h =>
   obtain⟨x,h1,h⟩:=am (show aa (Rs.bnd _ _) p from h)
   obtain⟨y,h2,h⟩:=am h
   exact aa.bnd (I.e a (aS (by simp<;>omega) hs) h1 s) (aa.bnd (I.e b (aS (by simp<;>omega) hs) h2 s) h)
  | [],bs,_,h=>exact(ak h).elim
  | [op],[],_,h=>exact(ak h).elim
  | [op],_::_::_,_,h=>exact(ak h).elim
  | [op,op2],[b,c],hs,h =>
   obtain⟨x,h1,h⟩:=am (show aa (Rs.bnd _ _) p from h)
   obtain⟨y,h2,h⟩:=am h
   obtain⟨z,h3,h⟩:=am h
   exact aa.bnd (I.e a (aS (by simp<;>omega) hs) h1 s) (aa.bnd (I.e b (aS (by simp<;>omega) hs) h2 s) (aa.bnd (I.e c (aS (by simp<;>omega) hs) h3 s) h))
  | [_,_],[],_,h=>exact(ak h).elim
  | [_,_],[_],_,h=>exact(ak h).elim
  | [_,_],_::_::_::_,_,h=>exact(ak h).elim
  | _::_::_::_,bs,_,h=>exact(ak h).elim
 | IfExp c a b q =>
  obtain⟨x,h1,h⟩:=am (show aa (Rs.bnd _ _) p from h)
  obtain⟨t,ht,h⟩:=gk h
  obtain⟨l,h,hp⟩:=h
  obtain⟨m,h,hm⟩:=rn h hp
  refine aa.bnd (I.e c (aS (by simp<;>omega) hs) h1 s) (jV ht (DS ?_))
  cases t with
  | true=>exact I.e a (aS (by simp<;>omega) hs) ⟨m,h,hm⟩ s
  | false=>exact I.e b (aS (by simp<;>omega) hs) ⟨m,h,hm⟩ s
 | Tuple es k q =>
  obtain⟨x,h1,h⟩:=am (show aa (Rs.bnd _ _) p from h)
  exact aa.bnd (I.es es (aS (by simp<;>omega) hs) h1 s) h
 | List es q =>
  obtain⟨x,h1,h⟩:=am (show aa (Rs.bnd _ _) p from h)
  exact aa.bnd (I.es es (aS (by simp<;>omega) hs) h1 s) h
 | Attribute a f q=>exact(ak h).elim
 | Dict ks vs q =>
  match ks,vs,h with
  | [],[],h=>exact h
  | _::_,_,h=>exact(ak h).elim
  | [],_::_,h=>exact(ak h).elim
 | Subscript a i q=>exact DN I hs h s
 | Call f args kws q =>
  cases f with
  | Name f fp =>
   cases kws with
   | nil =>
    rw[fE]at h⊢
    split at h
    ·rename_i hf
     rw[if_pos hf]
     obtain⟨x,h1,h⟩:=am h
     exact aa.bnd (I.es args (aS (by simp<;>omega) hs) h1 s) h
    ·exact(ak h).elim
   | cons _ _=>exact(ak h).elim
  | Attribute a m ap =>
   cases kws with
   | nil =>
    rw[pA]at h⊢
    split at h
    ·rename_i hf
     rw[if_pos hf]
     obtain⟨x,h1,h⟩:=am h
     obtain⟨y,h2,h⟩:=am h
     exact aa.bnd (I.e a (aS (by simp<;>omega) hs) h1 s) (aa.bnd (I.es args (aS (by simp<;>omega) hs) h2 s) h)
    ·exact(ak h).elim
   | cons _ _=>exact(ak h).elim
  | _=>exact(ak h).elim
 | ListComp elt gens scope q =>
  obtain⟨l0,h0,_⟩:=id h
  obtain⟨tg,iter,ifs,rfl⟩:=mf h0
  rw[mm]at h⊢
  split at h
  ·rename_i hc
   rw[if_pos hc]
   obtain⟨x,h1,h⟩:=am h
   refine aa.bnd (I.e iter (by first|omega|(simp at *;omega)) h1 s) ?_
   split at h
   ·split at h
    ·rename_i hl
     rw[if_pos hl]
     obtain⟨u0,h0',h⟩:=am h
     obtain⟨y,h2,h⟩:=am h
     refine aa.bnd h0' (aa.bnd (qX (fun d r hr=>?_) h2) h)
     split at hr
     ·exact(ak hr).elim
     ·rename_i C' hb
      obtain⟨ρ',hb',s'⟩:=oj hb (s.flt scope)
      rw[hb']
      obtain⟨b,h3,hr⟩:=am hr
      refine aa.bnd (I.b .And ifs (by first|omega|(simp at *;omega)) h3 s') ?_
      cases b with
      | false=>exact hr
      | true =>
       rw[cond_true]at hr⊢
       obtain⟨z,h4,hr⟩:=am hr
       exact aa.bnd (I.e elt (by first|omega|(simp at *;omega)) h4 s') hr
    ·exact(ak h).elim
   ·exact(ak h).elim
  ·exact(ak h).elim
 | _=>exact(ak h).elim
theorem DO(I:Mo Φ n)(es:List Expr){p:List D×Nat}(hs:sizeOf es<n+1)(h:aa (ba Φ es sc C) p)(s:Sub C ρ):aa (ba Φ es sc ρ) p:=by
 cases es with
 | nil=>exact h
 | cons e es =>
  obtain⟨x,h1,h⟩:=am (show aa (Rs.bnd _ _) p from h)
  obtain⟨y,h2,h⟩:=am h
  exact aa.bnd (I.e e (aS (by simp<;>omega) hs) h1 s) (aa.bnd (I.es es (aS (by simp<;>omega) hs) h2 s) h)
theorem FW(I:Mo Φ n)(op:BoolOp)(es:List Expr)(hs:sizeOf es<n+1)(h:aa (cj Φ op es sc C) b)(s:Sub C ρ):aa (cj Φ op es sc ρ) b:=by
 cases es with
 | nil=>cases op<;>exact h
 | cons e es =>
  cases op with
  | And =>
   obtain⟨x,h1,h⟩:=am (show aa (Rs.bnd _ _) b from h)
   obtain⟨t,ht,l,h,hp⟩:=gk h
   refine aa.bnd (I.e e (aS (by simp<;>omega) hs) h1 s) (jV ht ?_)
   rcases pT h hp with⟨rfl,m,h,pm⟩|⟨rfl,rfl⟩
   ·exact pU (fun _=>I.b .And es (aS (by simp<;>omega) hs) ⟨m,h,pm⟩ s) fun z=>(by cases z)
   ·exact pU (fun z=>(by cases z)) fun _=>rfl
  | Or =>
   obtain⟨x,h1,h⟩:=am (show aa (Rs.bnd _ _) b from h)
   obtain⟨t,ht,l,h,hp⟩:=gk h
   refine aa.bnd (I.e e (aS (by simp<;>omega) hs) h1 s) (jV ht ?_)
   rcases qV h hp with⟨rfl,m,h,pm⟩|⟨rfl,rfl⟩
   ·exact su (fun _=>I.b .Or es (aS (by simp<;>omega) hs) ⟨m,h,pm⟩ s) fun z=>(by cases z)
   ·exact su (fun z=>(by cases z)) fun _=>rfl
theorem FU(I:Mo Φ n)(e:Option Expr){o:Option Int}(hs:sizeOf e<n+1)(h:aa (rE Φ e sc C) o)(s:Sub C ρ):aa (rE Φ e sc ρ) o:=by
 cases e with
 | none=>exact h
 | some e =>
  obtain⟨x,h1,h⟩:=am (show aa (Rs.bnd _ _) o from h)
  exact aa.bnd (I.e e (aS (by simp<;>omega) hs) h1 s) h
end
theorem gn(Φ:Fx):∀n,Mo Φ n
 | 0=>⟨fun _ _ _ _ _ _ h=>absurd h (Nat.not_lt_zero _),fun _ _ _ _ _ h=>absurd h (Nat.not_lt_zero _),fun _ _ _ _ _ _ h=>absurd h (Nat.not_lt_zero _),fun _ _ _ _ _ h=>absurd h (Nat.not_lt_zero _)⟩
 | n+1=>⟨fun e _ _ _ _ _ hs h s=>FV (gn Φ n) e hs h s,fun e _ _ _ _ hs h s=>DO (gn Φ n) e hs h s,fun op e _ _ _ _ hs h s=>FW (gn Φ n) op e hs h s,fun e _ _ _ _ hs h s=>FU (gn Φ n) e hs h s⟩
theorem cv{p:D×Nat}(h:aa (ar Φ e it sc C) p)(s:Sub C ρ):aa (ar Φ e it sc ρ) p:=(gn Φ _).e e (Nat.lt_succ_self _) h s
theorem lR{e:List Expr}{p:List D×Nat}(h:aa (ba Φ e sc C) p)(s:Sub C ρ):aa (ba Φ e sc ρ) p:=(gn Φ _).es e (Nat.lt_succ_self _) h s
def wP:Fl->Fl->Prop
 | .nx a,.nx b=>Sub a b
 | .bk a,.bk b=>Sub a b
 | .ct a,.ct b=>Sub a b
 | .rt a,.rt b=>a=b
 | _,_=>False
theorem ci{a:α}:aa (.ok a []) a:=⟨[],rfl,True.intro⟩
def g9(f:ac->Rs Fl):Prop:=∀C ρ fl,aa (f C) fl->Sub C ρ->∃fl',aa (f ρ) fl'/\wP fl fl'
theorem uw{f:ac->Rs Fl}(h:g9 f){x y z:Fl}(hx:aa (oP f x) z)(s:wP x y):∃z',aa (oP f y) z'/\wP z z':=by
 cases x<;>cases y<;>first|exact s.elim|skip
 ·exact h _ _ _ hx s
 ·cases aC hx;cases s;exact⟨_,ci,rfl⟩
 ·cases aC hx;exact⟨_,ci,s⟩
 ·exact h _ _ _ hx s
theorem ux{sc:Scope}{tg:Expr}{body:ac->Rs Fl}(hb:g9 body):∀ds,g9 (dy (bi sc tg) body ds)
 | []=>fun C ρ fl h s=>by cases aC h;exact⟨_,ci,s⟩
 | d::ds=>fun C ρ fl h s=>by
  replace h:aa (match bi sc tg d C with|none=>(.st:Rs Fl)|some ρ1=>(body ρ1).bnd (oP (dy (bi sc tg) body ds))) fl:=h
  split at h
  ·exact(ak h).elim
  ·rename_i C1 hC
   obtain⟨ρ1,hρ,s1⟩:=oj hC s
   obtain⟨x,h1,h2⟩:=am h
   obtain⟨y,h3,s2⟩:=hb _ _ _ h1 s1
   obtain⟨z,h4,s3⟩:=uw (ux hb ds) h2 s2
   refine⟨z,?_,s3⟩
   show aa (match bi sc tg d ρ with|none=>(.st:Rs Fl)|some ρ1=>(body ρ1).bnd (oP (dy (bi sc tg) body ds))) z
   rw[hρ];exact aa.bnd h3 h4
theorem xx{test:ac->Rs Bool}{body:ac->Rs Fl}(ht:∀C ρ b,aa (test C) b->Sub C ρ->aa (test ρ) b)(hb:g9 body):∀n,g9 (mJ test body n)
 | 0=>fun C ρ fl h s=>(ak h).elim
 | n+1=>fun C ρ fl h s=>by
  obtain⟨b,h1,h2⟩:=am (show aa (Rs.bnd _ _) fl from h)
  have h1':=ht _ _ _ h1 s
  cases b with
  | false=>cases aC h2;exact⟨_,aa.bnd h1' ci,s⟩
  | true =>
   obtain⟨x,h3,h4⟩:=am (show aa (Rs.bnd _ _) fl from h2)
   obtain⟨y,h5,s2⟩:=hb _ _ _ h3 s
   obtain⟨z,h6,s3⟩:=uw (xx ht hb n) h4 s2
   exact⟨z,aa.bnd h1' (aa.bnd h5 h6),s3⟩
theorem Bt:g9 (kW Φ tgs e sc):=by
 intro C ρ fl h s
 unfold kW at h⊢
 split at h
 ·obtain⟨p,h1,h⟩:=am h
  unfold lI at h
  split at h
  ·rename_i hx
   split at h
   ·rename_i ho;cases aC h
    exact⟨.nx _,aa.bnd (cv h1 s) (by unfold lI;rw[if_pos hx,ho];exact ci),s.put _ _⟩
   ·rename_i ho;cases aC h
    exact⟨.nx _,aa.bnd (cv h1 s) (by unfold lI;rw[if_pos hx,ho];exact ci),s.put _ _⟩
   ·exact(ak h).elim
  ·exact(ak h).elim
 ·split at h
  ·rename_i ht
   rw[if_pos ht]
   unfold nK at h⊢
   split at h
   ·split at h
    ·rename_i hp
     rw[if_pos hp]
     obtain⟨q,h1,h⟩:=am h
     split at h
     ·rename_i u v hd
      split at h
      ·rename_i hf
       cases aC h
       refine⟨.nx _,aa.bnd (lR h1 s) ?_,(s.put _ _).put _ _⟩
       rw[hd];dsimp only;rw[if_pos hf];exact ci
      ·exact(ak h).elim
     ·exact(ak h).elim
    ·exact(ak h).elim
   ·exact(ak h).elim
  ·rename_i ht
   rw[if_neg ht]
   obtain⟨p,h1,h⟩:=am h
   split at h
   ·rename_i ho
    cases aC h
    refine⟨.nx _,aa.bnd (cv h1 s) (by rw[if_pos ho];exact ci),?_⟩
    show Sub _ _
    unfold v4
    split
    ·exact(s.put _ _).put _ _
    ·exact s
   rename_i ho
   split at h
   ·rename_i ds hd
    split at h
    ·rename_i hf
     split at h
     ·rename_i C' hb
      cases aC h
      obtain⟨ρ',hb',s'⟩:=mR hb s
      refine⟨.nx _,aa.bnd (cv h1 s) ?_,s'⟩
      rw[if_neg ho,hd];dsimp only;rw[if_pos hf,hb'];exact ci
     ·exact(ak h).elim
    ·exact(ak h).elim
   ·exact(ak h).elim
 ·exact(ak h).elim
theorem mo_aug{t:Expr}{op:Operator}:g9 (nM Φ t op e sc):=by
 intro C ρ fl h s
 unfold nM at h⊢
 split at h
 ·split at h
  ·rename_i hx
   rw[if_pos hx]
   split at h
   ·rename_i p hp
    rw[s _ _ hp]
    obtain⟨r,h1,h⟩:=am h
    cases aC h
    obtain⟨a,ha,h3⟩:=lO h1
    obtain⟨q,h2,h4⟩:=am h3
    exact⟨.nx _,aa.bnd (DR ha (aa.bnd (cv h2 s) h4)) ci,s.put _ _⟩
   ·exact(ak h).elim
  ·exact(ak h).elim
 ·exact(ak h).elim
theorem Bs:g9 (kU Φ e sc):=by
 intro C ρ fl h s
 unfold kU at h⊢
 split at h
 ·split at h
  ·rename_i hln
   rw[if_pos hln]
   obtain⟨p,h1,h⟩:=am h
   split at h
   ·rename_i M hM
    obtain⟨l,a1,a3,h⟩:=oM h
    obtain⟨l',h2,h⟩:=am h
    cases aC h
    refine⟨.nx _,aa.bnd (lR h1 s) ?_,s.put _ _⟩
    unfold lK;rw[s _ _ a1];dsimp only;rw[if_pos a3];exact aa.bnd h2 ci
   ·exact(ak h).elim
  ·exact(ak h).elim
 ·obtain⟨p,h1,h⟩:=am h
  cases aC h
  exact⟨.nx _,aa.bnd (cv h1 s) ci,s⟩
 ·exact(ak h).elim
structure Db(Φ:Fx)(n:Nat):Prop where
 s:∀(st:Stmt) (sc:Scope),sizeOf st<n->g9 (dN Φ st sc)
 ss:∀(st:List Stmt) (sc:Scope),sizeOf st<n->g9 (aI Φ st sc)
theorem DM(I:Db Φ n)(st:Stmt)(sc:Scope)(hs:sizeOf st<n+1):g9 (dN Φ st sc):=by
 intro C ρ fl h s
 cases st with
 | Return e p =>
  cases e with
  | none=>cases aC h;exact⟨_,ci,rfl⟩
  | some e =>
   obtain⟨p,h1,h⟩:=am (show aa (Rs.bnd _ _) fl from h)
   have s':Sub (oA e C) (oA e ρ):=by
    unfold oA
    cases nG e with
    | false=>exact s
    | true =>
     intro x y hx
     have hx:(C x).map (fun p=>(p.1,false))=some y:=hx
     show(ρ x).map (fun p=>(p.1,false))=some y
     cases e:C x with
     | none=>rw[e]at hx;cases hx
     | some z=>rw[e]at hx;rw[s x z e];exact hx
   refine⟨fl,aa.bnd (cv h1 s') h,?_⟩
   unfold rZ at h
   split at h
   ·cases aC h;rfl
   ·exact(ak h).elim
 | Pass p=>cases aC h;exact⟨_,ci,s⟩
 | Break p=>cases aC h;exact⟨_,ci,s⟩
 | Continue p=>cases aC h;exact⟨_,ci,s⟩
 | Assign tgs e p=>exact Bt C ρ fl h s
 | AugAssign t op e p=>exact(ak h).elim
 | Expr e p=>exact Bs C ρ fl h s
 | If c a b p =>
  obtain⟨p,h1,h⟩:=am (show aa (Rs.bnd _ _) fl from h)
  obtain⟨t,ht,h⟩:=gk h
  cases t with
  | true =>
   obtain⟨z,h2,s2⟩:=I.ss a sc (aS (by simp<;>omega) hs) C ρ fl h s
   exact⟨z,aa.bnd (cv h1 s) (jV ht h2),s2⟩
  | false =>
   obtain⟨z,h2,s2⟩:=I.ss b sc (aS (by simp<;>omega) hs) C ρ fl h s
   exact⟨z,aa.bnd (cv h1 s) (jV ht h2),s2⟩
 | For tg it body els p =>
  rw[mj]at h⊢
  split at h
  ·rename_i he
   rw[if_pos he]
   obtain⟨p,h1,h⟩:=am h
   split at h
   ·rename_i ds hd
    split at h
    ·rename_i hk
     obtain⟨z,h2,s2⟩:=ux (I.ss body sc (aS (by simp<;>omega) hs)) ds _ _ fl h (s.demote it)
     refine⟨z,aa.bnd (cv h1 (s.demote it)) ?_,s2⟩
     rw[hd];dsimp only;rw[if_pos hk];exact h2
    ·exact(ak h).elim
   ·exact(ak h).elim
  ·exact(ak h).elim
 | While c body els p =>
  rw[u9]at h⊢
  split at h
  ·rename_i he
   rw[if_pos he]
   refine xx (fun C ρ b hb s=>?_) (I.ss body sc (aS (by simp<;>omega) hs)) bh C ρ fl h s
   obtain⟨q,h1,hb⟩:=am hb
   exact aa.bnd (cv h1 s) hb
  ·exact(ak h).elim
 | _=>exact(ak h).elim
theorem Br(I:Db Φ n)(ss:List Stmt)(sc:Scope)(hs:sizeOf ss<n+1):g9 (aI Φ ss sc):=by
 intro C ρ fl h s
 cases ss with
 | nil=>cases aC h;exact⟨_,ci,s⟩
 | cons st ss =>
  rcases ol h with⟨C',h1,h2⟩|⟨h1,h2⟩
  ·obtain⟨x,h3,s2⟩:=I.s st sc (aS (by simp<;>omega) hs) C ρ _ h1 s
   cases x with
   | nx ρ' =>
    obtain⟨z,h4,s3⟩:=I.ss ss sc (aS (by simp<;>omega) hs) C' ρ' fl h2 s2
    exact⟨z,bF h3 h4,s3⟩
   | rt _=>exact s2.elim
   | bk _=>exact s2.elim
   | ct _=>exact s2.elim
  ·obtain⟨x,h3,s2⟩:=I.s st sc (aS (by simp<;>omega) hs) C ρ _ h2 s
   refine⟨x,hV h3 fun ρ' z=>?_,s2⟩
   subst z
   cases fl<;>first|exact h1 _ rfl|exact s2
theorem iZ(Φ:Fx):∀n,Db Φ n
 | 0=>⟨fun _ _ h=>absurd h (Nat.not_lt_zero _),fun _ _ h=>absurd h (Nat.not_lt_zero _)⟩
 | n+1=>⟨fun e sc hs=>DM (iZ Φ n) e sc hs,fun e sc hs=>Br (iZ Φ n) e sc hs⟩
theorem zg(h:aa (aI Φ ss sc C) (.nx C'))(s:Sub C ρ):∃ρ',aa (aI Φ ss sc ρ) (.nx ρ')/\Sub C' ρ':=by
 obtain⟨z,h1,h2⟩:=(iZ Φ _).ss ss sc (Nat.lt_succ_self _) C ρ _ h s
 cases z with
 | nx ρ'=>exact⟨ρ',h1,h2⟩
 | rt _=>exact h2.elim
 | bk _=>exact h2.elim
 | ct _=>exact h2.elim
theorem zf(h:aa (aI Φ ss sc C) (.rt d))(s:Sub C ρ):aa (aI Φ ss sc ρ) (.rt d):=by
 obtain⟨z,h1,h2⟩:=(iZ Φ _).ss ss sc (Nat.lt_succ_self _) C ρ _ h s
 cases z with
 | rt _=>cases h2;exact h1
 | nx _=>exact h2.elim
 | bk _=>exact h2.elim
 | ct _=>exact h2.elim
def bO:List (Str×D×Bool)->ac
 | []=>fun _=>none
 | p::l=>fun z=>if z=p.1 then some p.2 else bO l z
theorem bu:Sub (bO []) ρ:=fun _ _ h=>by cases h
theorem aB{y:D×Bool}{l:List (Str×D×Bool)}(h:ρ x=some y)(g:Sub (bO l) ρ):Sub (bO ((x,y)::l)) ρ:=fun z w e=>by
 replace e:(if z=x then some y else bO l z)=some w:=e
 by_cases hz:z=x
 ·rw[if_pos hz]at e;cases e;rw[hz];exact h
 ·rw[if_neg hz]at e;exact g z w e
theorem Sub.get{y:D×Bool}(s:Sub C ρ)(h:C x=some y:=by rfl):ρ x=some y:=s x y h
section
variable{Φ:Fx}{sc:Scope}{ρ ρ':ac}{fl:Fl}{ss:List Stmt}
theorem kC{P:ac->Prop}(s:Sub C ρ)(h:aa (aI Φ ss sc C) (.nx C'))(k:∀ρ',Sub C' ρ'->P ρ'):∃ρ',aa (aI Φ ss sc ρ) (.nx ρ')/\P ρ' :=
 let ⟨ρ',h1,h2⟩:=zg h s;⟨ρ',h1,k ρ' h2⟩
theorem h8(s:Sub C ρ)(h:aa (aI Φ ss sc C) (.rt d)):aa (aI Φ ss sc ρ) (.rt d):=zf h s
theorem vc{p:D×Nat}(s:Sub C ρ)(h:aa (ar Φ e it sc C) p):aa (ar Φ e it sc ρ) p:=cv h s
theorem yn{it:Expr}(ai:List D->ac->Prop)(hi:aa (ar Φ it true sc (demote it ρ)) (d,k))(h0:ai ds (demote it ρ))
  (step:∀d l ρ,ai (d::l) ρ->∃ρ1,bi sc tg d ρ=some ρ1/\∃ρ2,aa (aI Φ body sc ρ1) (.nx ρ2)/\ai l ρ2) (aX:∀ρ',ai [] ρ'->aa (aI Φ ss sc ρ') fl) (hd:items d=some ds:=by rfl) (hk:k<=1:=by first|exact Nat.le_refl 1|exact Nat.zero_le 1) (ht:dS it tg=true:=by rfl):aa (aI Φ (.For tg it body [] p::ss) sc ρ) fl:=by
 obtain⟨ρ',h1,h2⟩:=ph (bind:=bi sc tg) (body:=aI Φ body sc) ai (fun d l ρ h=>let ⟨ρ1,a,ρ2,b,c⟩:=step d l ρ h;⟨ρ1,ρ2,a,.inl b,c⟩) h0
 exact bF (B9 hi hd hk ht h1) (aX ρ' h2)
theorem Ci{b:Expr}{x:D}(ha:aa (ar Φ a false sc ρ) (x,k))(hb:aa (ar Φ b false sc ρ) (y,j))(h:aa (iF op x y) r):aa (ar Φ (.Compare a [op] [b] p) it sc ρ) (.bl r,0) :=
 aa.bnd ha (aa.bnd hb (aa.bnd h ci))
theorem fD{op:BoolOp}(h:aa (cj Φ op (e::es) sc ρ) b):aa (ar Φ (.BoolOp op (e::es) p) it sc ρ) (.bl b,0):=by
 rw[mn,if_neg (show ¬ (List.isEmpty (e::es)=true)from Bool.false_ne_true)];exact aa.bnd h ci
theorem je{c:Bool}(h:aa (ar Φ e false sc ρ) (.bl b,k))(h1:b=true->aa (cj Φ .And es sc ρ) c)(h2:b=false->c=false):aa (cj Φ .And (e::es) sc ρ) c:=aa.bnd h (jV rfl (pU h1 h2))
theorem kX{c:Bool}(h:aa (ar Φ e false sc ρ) (.bl b,k))(h1:b=false->aa (cj Φ .Or es sc ρ) c)(h2:b=true->c=true):aa (cj Φ .Or (e::es) sc ρ) c:=aa.bnd h (jV rfl (su h1 h2))
theorem xN{c:Bool}(h:aa (ar Φ e false sc ρ) (.bl true,k))(h1:aa (cj Φ .And es sc ρ) c):aa (cj Φ .And (e::es) sc ρ) c:=je h (fun _=>h1) fun z=>by cases z
theorem fR{c:Bool}(h:aa (ar Φ e false sc ρ) (.bl false,k))(h1:aa (cj Φ .Or es sc ρ) c):aa (cj Φ .Or (e::es) sc ρ) c:=kX h (fun _=>h1) fun z=>by cases z
theorem pu:aa (cj Φ .And [] sc ρ) true:=ci
theorem kY:aa (cj Φ .Or [] sc ρ) false:=ci
theorem aa.bl{r:R1}{c:Bool}(h:aa r (.bl b,k))(e:b=c):aa r (.bl c,k):=e ▸ h
theorem wy{g f:α->D}{l:List α}(hi:aa (ar Φ iter true sc ρ) (d,k))(hd:items d=some (l.map g))(hl:l.length<=bh)(hk:aq (l.map g)=true\/k<=1)
  (h:∀x∈l,∃ρ',bi scope tg (g x) (flt scope ρ)=some ρ'/\aa (ar Φ elt false scope ρ') (f x,0)) (hc:jw sc scope=true:=by rfl) (ht:dS iter tg=true:=by rfl):aa (ar Φ (.ListComp elt [⟨tg,iter,[],0⟩] scope p) it sc ρ) (.lst (l.map f),0):=by
 refine rD hi hd ⟨by rw[List.length_map];exact hl,hk⟩ (ng fun x hx=>?_) (Nat.zero_le _) hc ht
 obtain⟨ρ',h1,h2⟩:=h x hx
 rw[h1]
 refine aa.bnd (a:=true) ci ?_
 rw[cond_true]
 exact aa.bnd h2 ci
end
theorem BB(h:us.length=1):∃a,us=[a]:=List.length_eq_one_iff.mp h
theorem FX(h:us.length=n+1):∃a r,us=a::r/\r.length=n:=by
 cases us with
 | nil=>cases h
 | cons a r=>exact⟨a,r,rfl,by simpa using h⟩
theorem FY(h:us.length=2):∃a b,us=[a,b]:=by
 obtain⟨a,r,e1,h1⟩:=FX h;subst e1;obtain⟨b,rfl⟩:=BB h1;exact⟨a,b,rfl⟩
end Sp
namespace Qm
end Qm
namespace K
open PySem L2 Sp
variable{α β:Type}
structure Dc(α:Type) where
 dec:D->Option α
 enc:α->D
 ok:∀x a,dec x=some a->x=enc a
def dI:Dc Int:=⟨fun | .int i=>some i|_=>none,.int,fun x a h=>by cases x<;>cases h;rfl⟩
def dL:Dc (List D):=⟨fun | .lst i=>some i|_=>none,.lst,fun x a h=>by cases x<;>cases h;rfl⟩
def AA{α β:Type}(A:Dc α)(B:Dc β)(f:α->β->Rs D):List D->Rs D
 | [x,y]=>(match A.dec x with|some a=>(match B.dec y with|some b=>f a b|none=>.st)|none=>.st)
 | _=>.st
theorem vi{A:Dc α}{x:D}{f:α->Rs β}{r:β}(h:aa (match A.dec x with|some a=>f a|none=>.st) r):∃a,x=A.enc a/\aa (f a) r:=by
 split at h
 ·rename_i a e;exact⟨a,A.ok _ _ e,h⟩
 ·exact(ak h).elim
theorem yp{A:Dc α}{B:Dc β}{f:α->β->Rs D}{ds:List D}{r:D}(h:aa (AA A B f ds) r):∃a b,ds=[A.enc a,B.enc b]/\aa (f a b) r:=by
 unfold AA at h
 split at h
 ·obtain⟨a,e1,h1⟩:=vi h
  obtain⟨b,e2,h2⟩:=vi h1
  exact⟨a,b,by rw[e1,e2],h2⟩
 ·exact(ak h).elim
def GL:D->Int
 | .int i=>i
 | _=>0
def n9(l:List D):List Int:=l.map GL
theorem rR(ns:List Int):n9 (ns.map D.int)=ns:=by
 induction ns with
 | nil=>rfl
 | cons n ns ih=>show n::n9 (ns.map D.int)=_;rw[ih]
def Ez(l:List D):Prop:=∃ns:List Int,l=ns.map D.int
def iG(ns:List Int)(k:Int):Int:=if ns=[]then 0 else ns.getD (k.fmod ns.length).toNat 0
def xX(ns:List Int)(k:Int):Int :=
 (iG ns k).fdiv 2147483647*2147483647+((((iG ns k).fmod 2147483647+7919*k+1)*48271).fmod 2147483647*69621+k).fmod 2147483647
def xY(l:List D)(k:Int):Int:=xX (n9 l) k
abbrev t4(a b c d:Int):D:=.tup [.int a,.int b,.int c,.int d]
abbrev Qd:=Int×Int×Int×Int
def dq(q:Qd):D:=t4 q.1 q.2.1 q.2.2.1 q.2.2.2
@[simp] theorem xQ(a b:Int):pB (.int a) (.int b)=decide (a=b):=by
 show(a==b)=_
 rw[Bool.eq_iff_iff];simp
@[simp] theorem eqD_q(p q:Qd):pB (dq p) (dq q)=decide (p=q):=by
 show(p.1==q.1&&(p.2.1==q.2.1&&(p.2.2.1==q.2.2.1&&(p.2.2.2==q.2.2.2&&true))))=_
 obtain⟨a,b,c,d⟩:=p;obtain⟨e,f,g,h⟩:=q
 rw[Bool.eq_iff_iff];simp
end K
namespace Sp
open PySem PySem.Spec PyProof.Rows L2
open AutoSeq1 (wpAny_loadPart')
variable{P:Program}{w:World}{H:Hp}{h:Heap}{k:Nat}
section
variable{prog:Program}{A:Around}{E:Value->Shared->Prop}{s:Shared}
variable{n l1 l2 l3:Nat}{xs ys ws:Array Value}{x y u:Value}{f0 f1:Value}
end
open AutoSeq1 (wpAny_loadPart')
section
variable{prog:Program}{A:Around}{E:Value->Shared->Prop}{s:Shared}
end
section
variable{prog:Program}{A:Around}{E:Value->Shared->Prop}{s:Shared}
end
variable{X:Cx}
theorem wv{b:Addr}{o:HO}(x:bE P w H h)(hb:H b=none)(new:aR P w (az H b o) h b o):bE P w (az H b o) h:=fun c u e=>by
 by_cases hc:c=b
 ·subst hc;rw[aD]at e;cases e;exact new
 ·rw[al hc]at e
  exact(x c u e).stay (fun d v _ r=>r) (fun d r=>by rw[al (aP r hb)];exact r) (fun d xs r=>by rw[al (aP r hb)];exact r)
theorem yg{fs ex:List Addr}{H':Hp}{h':Heap}(k:∀b u,h.get? b=some u->h'.get? b=some u)(hH:∀c,c<h.objs.size->H' c=H c)(hin:∀c o,H c=some o->c<h.objs.size):Un fs ex H H' h h' where
 keep:=fun b u q _ _ _=>k b u q
 slot:=fun b u q _ _ _=>⟨u.slots,k b u q⟩
 free:=fun b u q n _=>(hH b (Heap.lt_size q)).trans n
 there:=fun b u q _=>⟨u,k b u q⟩
 tups:=fun b xs r=>(hH b (hin b _ r)).trans r
 frzs:=fun b o u r=>(hH b (hin b _ r)).trans r
 tbls:=fun b ps r=>⟨#[],by rw[Array.append_empty];exact(hH b (hin b _ r)).trans r⟩
theorem qP{Φ:Fx}{sc:Scope}{H0:Hp}{fl:Fl}{aX:List Stmt}(G:aG Φ X sc)(hp:PassesOwn (model X.prog X.w) X.A X.env X.xe):∀{pre:List Stmt} {ρ ρ1:ac},aa (aI Φ pre sc ρ) (.nx ρ1)->cw X H0 ρ1 aX fl->cw X H0 ρ (pre++aX) fl
 | [],ρ,ρ1,h,k=>by cases aC h;exact k
 | st::ss,ρ,ρ1,h,k=>by
  obtain⟨f1,h1,h2⟩:=am (show aa (Rs.bnd _ _) _ from h)
  cases f1 with
  | nx ρ'=>exact cJ ((gq Φ _).s st (Nat.lt_succ_self _) h1 G hp) (qP G hp h2 k)
  | rt d=>cases aC h2
  | bk ρ'=>cases aC h2
  | ct ρ'=>cases aC h2
theorem kT{K:W.Frag}{mg:Str->Option Value}{base:Heap}{g:Str}{f:Addr}{fd:FuncData}{ps:List Str}{F:List D->Rs D}(h:be P w K mg base cI k f fd ps (gX K F))(hm:mg g=some (.ref f))(hk:W.keepIn K (.ref f)=true)(hb:bf K fd ps [])(hd:(g==("__debug__" : Str))=false):fM P w K mg base k g F :=
 ⟨f,fd,ps,h,hm,hk,hb,hd⟩
section
variable{prog:Program}{A:Around}{E:Value->Shared->Prop}{s:Shared}
end
theorem qT{Φ:Fx}{sc:Scope}{H0:Hp}{aX:List Stmt}{t:TS}(G:aG Φ X sc)(hp:PassesOwn (model X.prog X.w) X.A X.env X.xe)(hr:ck X aX t):∀{pre:List Stmt} {ρ ρ1:ac},aa (aI Φ pre sc ρ) (.nx ρ1) ->
  ck X (pre++aX) (fun D σ H => ∃ow,ax X ow H σ ρ/\σ.length=X.N.length/\aY H0 ow H/\∀ow' σ' H',ax X ow' H' σ' ρ1->σ'.length=X.N.length->aY H0 ow' H'->t D σ' H')
 | [],ρ,ρ1,h=>by
  cases aC h
  exact fun pins s σ H D I ⟨ow,E,hl,B,q⟩=>hr pins s σ H D I (q ow σ H E hl B)
 | st::ss,ρ,ρ1,h=>by
  obtain⟨f1,h1,h2⟩:=am (show aa (Rs.bnd _ _) _ from h)
  cases f1 with
  | nx ρ' =>
   have sd:=(gq Φ _).s st (H0:=H0) (Nat.lt_succ_self _) h1 G hp
   have ih:=qT (H0:=H0) G hp hr h2
   exact fun pins s σ H D I ⟨ow,E,hl,B,q⟩=>cO sd ih pins s σ H D I ⟨ow,E,hl,B,fun ow' σ' H' E' hl' k=>⟨ow',E',hl',B.keep k,q⟩⟩
  | rt d=>cases aC h2
  | bk ρ'=>cases aC h2
  | ct ρ'=>cases aC h2
variable{Φ:Fx}{sc:Scope}{ρ ρ':ac}{fl:Fl}{ss:List Stmt}

def BR(x:Int):List Int->List Int
 | []=>[x]
 | y::l=>if x<=y then x::y::l else y::BR x l
def vR:List Int->List Int
 | []=>[]
 | x::l=>BR x (vR l)
theorem ic{K:W.Frag}{H:Hp}{P:aQ}:∀{ns:List Int} {vs:List V},ah K H P (ns.map D.int) vs->vs=ns.map V.int
 | [],vs,h=>by rw[List.map_nil,ah]at h;exact h
 | n::ns,vs,h=>by
  rw[List.map_cons,ah]at h
  obtain⟨v,r,rfl,h1,h2⟩:=h
  rw[ae]at h1
  rw[ic h2,h1];rfl
def FZ(b:Bool)(n0:Nat)(p0 kp:Pos):List Keyword:=cond b [⟨some (Str.ofString "reverse"),.Constant (.bool true) n0 p0,kp⟩] []
def Fc(b:Bool)(ns:List Int):List Int:=cond b (vR ns).reverse (vR ns)
section
variable{prog:Program}{A:Around}{E:Value->Shared->Prop}{s:Shared}
end
inductive Xd(Φ:Fx)(sc:Scope)(ρ:ac):Expr->D->Prop where
 | ev {e:Expr} {d:D} (h:aa (ar Φ e false sc ρ) (d,0)):Xd Φ sc ρ e d
 | lrev {e:Expr} {l:List D} {k:Nat} {f g:Str} {p q r t:Pos} (h:aa (ba Φ [e] sc ρ) ([.lst l],k)) (fl:aq l=true) (hf:f = "list" := by rfl) (hg:g = "reversed" := by rfl) (gf:sc.names.lookup f=some .globalImplicit:=by rfl) (gg:sc.names.lookup g=some .globalImplicit:=by rfl):Xd Φ sc ρ (.Call (.Name f p) [.Call (.Name g q) [e] [] r] [] t) (.lst l.reverse)
 | srt (b:Bool) {e:Expr} {ns:List Int} {k n0:Nat} {f:Str} {p t p0 kp:Pos} (h:aa (ba Φ [e] sc ρ) ([.lst (ns.map D.int)],k)) (hn:ns.length<64) (hf:f = "sorted" := by rfl) (gf:sc.names.lookup f=some .globalImplicit:=by rfl):Xd Φ sc ρ (.Call (.Name f p) [e] (FZ b n0 p0 kp) t) (.lst ((Fc b ns).map D.int))
 | short {e:Expr} {l:List D} {k:Nat} {f:Str} {p t:Pos} (h:aa (ba Φ [e] sc ρ) ([.lst l],k)) (hn:l.length<2) (fl:aq l=true) (hf:f = "sorted" := by rfl) (gf:sc.names.lookup f=some .globalImplicit:=by rfl):Xd Φ sc ρ (.Call (.Name f p) [e] [] t) (.lst l)
 | pick4 {e1 e2 e3 e4 i:Expr} {d1 d2 d3 d4 d:D} {j:Int} {k:Nat} {lp p:Pos} (h1:Xd Φ sc ρ e1 d1) (h2:Xd Φ sc ρ e2 d2) (h3:Xd Φ sc ρ e3 d3) (h4:Xd Φ sc ρ e4 d4) (hi:aa (ar Φ i false sc ρ) (.int j,k)) (ha:atI [d1,d2,d3,d4] j=some d):Xd Φ sc ρ (.Subscript (.List [e1,e2,e3,e4] lp) i p) d
inductive Rn(Φ:Fx)(sc:Scope):List Stmt->ac->D->Prop where
 | fin {ss:List Stmt} {ρ:ac} {r:D} (h:aa (aI Φ ss sc ρ) (.rt r)):Rn Φ sc ss ρ r
 | cut (n:Nat) {ss:List Stmt} {ρ ρ1:ac} {r:D} (h:aa (aI Φ (ss.take n) sc ρ) (.nx ρ1)) (k:Rn Φ sc (ss.drop n) ρ1 r):Rn Φ sc ss ρ r
 | dem {ss:List Stmt} {ρ:ac} {r:D} (k:Rn Φ sc ss (gz ρ) r):Rn Φ sc ss ρ r
 | set {x:Str} {e:Expr} {px q:Pos} {ss:List Stmt} {ρ:ac} {d r:D} (h:Xd Φ sc ρ e d) (k:Rn Φ sc ss (aL ρ x (d,true)) r) (hx:bD sc x=true:=by rfl) (hc:gr e=false:=by rfl):Rn Φ sc (.Assign [.Name x px] e q::ss) ρ r
def EA(l:List Int):D:=.lst (l.map D.int)
def Eb(ρ:ac)(x:Str):ac:=fun y=>if y=x then none else ρ y
def vI(X:Cx)(H0:Hp)(tg:Expr)(body:List Stmt):List D->ac->Fl->Prop
 | [],ρ,fl=>fl=.nx ρ
 | d::ds,ρ,fl => ∃ρ1,GD X ρ tg d ρ1/\((∃ρ2,cw X H0 ρ1 body (.nx ρ2)/\vI X H0 tg body ds ρ2 fl)\/∃r,fl=.rt r/\cw X H0 ρ1 body (.rt r))
theorem lF{H0:Hp}{ρ:ac}{tg iter:Expr}{body:List Stmt}{pos:Pos}{ds:List D}{fl:Fl}(hp:PassesOwn (model X.prog X.w) X.A X.env X.xe)(hcalm:X.calm=true)
  (hi:IE X (demote iter ρ) tg iter ds k) (hk:k<=1) (h:vI X H0 tg body ds (demote iter ρ) fl)
  (hs:∀x,foldedSetIterable iter X.env x=pure x):SD X H0 ρ (.For tg iter body [] pos) fl:=by
 intro pins s σ H D0 I ⟨ow0,E0,hl,B0,q0⟩
 obtain⟨ow,E,k0⟩:=k7 (e:=iter) E0
 have B:=B0.keep k0
 have q:=q0.keep k0
 have pb:ck X body (fun D σ H => ∃ρ fl,cw X H0 ρ body fl/\tJ X H0 ρ fl D σ H):=fun pins s σ H D I ⟨ρ1,fl1,h1,h2⟩=>h1 pins s σ H D I h2
 have pg:PG X tg (fun v σ H Q => ∃g:TG,PG X tg g/\g v σ H Q):=fun pins s σ H v u Q I r ⟨g,h1,h2⟩=>h1 pins s σ H v u Q I r h2
 refine oH hp hcalm (hi ow) pg pb hs pins s σ H D0 I ⟨E,fun J H1 s1 itd=>?_⟩
 refine⟨fun i m σ' H'=>m=ds.length-i/\i<=ds.length/\∃ow' ρ',ax X ow' H' σ' ρ'/\σ'.length=X.N.length/\aY H0 ow' H'/\aF ow H1 ow' H'/\vI X H0 tg body (ds.drop i) ρ' fl,
  ⟨ds.length,by simp,Nat.zero_le _,ow,_,E.same s1,hl,B.keep (aF.same s1),aF.refl _ _,h⟩,?_⟩
 rintro i m σ' H' ⟨rfl,hile,ow',ρ',E',hl',B',k',hf⟩
 have q':jZ X H0 ow' H' fl D0:=q.keep ((aF.same s1).trans k')
 have st:cu (Kd ow H k H1) (Kd ow H k H1) H1 H':=⟨fun a o ha hn=>k'.keep a o ha (.inl hn),fun a vs ha p=>k'.keep a _ ha (.inr (cP E.own hk p.1)),fun _ _ _ p=>p,fun _ p=>p⟩
 have it:=itd i H' st
 by_cases hlt:i<ds.length
 ·obtain⟨go,yl⟩:=it.1 ds[i] (List.getElem?_eq_getElem hlt)
  have hdrop:ds.drop i=ds[i]::ds.drop (i+1):=List.drop_eq_getElem_cons hlt
  rw[hdrop]at hf
  refine .inr ⟨go,fun σ2 H2=>i+1<=ds.length/\∃ow2 ρ2,ax X ow2 H2 σ2 ρ2/\σ2.length=X.N.length/\aY H0 ow2 H2/\aF ow H1 ow2 H2/\vI X H0 tg body (ds.drop (i+1)) ρ2 fl,fun σ2 H2 n=>⟨ds.length-(i+1),by omega,rfl,n.1,n.2⟩,fun x H3 y3=>?_⟩
  obtain⟨sm3,rx⟩:=yl x H3 y3
  obtain⟨ρ1,⟨g,g1,g2⟩,hf⟩:=hf
  have rx':ae X.K H3 (fun a b=>b=true->ow' a=none) ds[i] x:=rx.impH (fun a o ha p _=>by
   obtain⟨o1,h1⟩:=p.2 rfl
   exact k'.low a o1 h1 (cP E.own hk p.1)) fun a _ z=>(by cases z)
  refine⟨g,g1,g2 ow' x σ' H3 _ hl' (E'.same sm3) rx' fun σ2 hl2 E2=>?_⟩
  have k3:aF ow' H' ow' H3:=aF.same sm3
  rcases hf with⟨ρ2,hb,hf⟩|⟨r,rfl,hb⟩
  ·exact⟨ρ1,.nx ρ2,hb,ow',E2,hl2,B'.keep k3,fun ow2 σ3 H4 a b c=>⟨hlt,ow2,ρ2,a,b,(B'.keep k3).keep c,k'.trans (k3.trans c),hf⟩⟩
  ·exact⟨ρ1,.rt r,hb,ow',E2,hl2,B'.keep k3,q'⟩
 ·have ei:i=ds.length:=by omega
  subst ei
  rw[List.drop_length]at hf
  cases (show fl=.nx ρ' from hf)
  exact .inl ⟨it.2 (Nat.le_refl _),q' ow' σ' H' E' hl' (aF.refl _ _)⟩
inductive Rp(Φ:Fx)(sc:Scope)(tg c:Expr):List D->ac->ac->Prop where
 | nil {ρ:ac}:Rp Φ sc tg c [] ρ ρ
 | cons {d:D} {ds:List D} {ρ ρ1 ρ':ac} {k:Nat} (hb:bi sc tg d ρ=some ρ1) (hc:aa (ar Φ c false sc ρ1) (.bl false,k)) (h:Rp Φ sc tg c ds ρ1 ρ'):Rp Φ sc tg c (d::ds) ρ ρ'
inductive Xo(Φ:Fx)(sc:Scope)(ρ:ac):Option Expr->Option Int->Prop where
 | no:Xo Φ sc ρ none none
 | yes {e:Expr} {i:Int} {k:Nat} (h:aa (ar Φ e false sc ρ) (.int i,k)):Xo Φ sc ρ (some e) (some i)
inductive pW(Φ:Fx)(sc:Scope)(ρ:ac):Expr->D->Prop where
 | name {x:Str} {p:Pos} {m:List D} (h:ρ x=some (.lst m,false)) (hx:cW x=true):pW Φ sc ρ (.Name x p) (.lst m)
 | cut {e:Expr} {lo hi:Option Expr} {l h:Option Int} {m:List D} {p2 p:Pos} (he:pW Φ sc ρ e (.lst m)) (hl:Xo Φ sc ρ lo l) (hh:Xo Φ sc ρ hi h):pW Φ sc ρ (.Subscript e (.Slice lo hi none p2) p) (.lst (wD m l h))
 | cat {a b:Expr} {l m:List D} {p:Pos} (ha:pW Φ sc ρ a (.lst l)) (hb:pW Φ sc ρ b (.lst m)) (hn:l.length+m.length<=bh):pW Φ sc ρ (.BinOp a .Add b p) (.lst (l++m))
mutual
inductive Rf(Φ:Fx)(sc:Scope):List Stmt->ac->Fl->Prop where
 | base {ss:List Stmt} {ρ:ac} {fl:Fl} (h:aa (aI Φ ss sc ρ) fl):Rf Φ sc ss ρ fl
 | cut (n:Nat) {ss:List Stmt} {ρ ρ1:ac} {fl:Fl} (h:aa (aI Φ (ss.take n) sc ρ) (.nx ρ1)) (k:Rf Φ sc (ss.drop n) ρ1 fl):Rf Φ sc ss ρ fl
 | seq {s:Stmt} {ss:List Stmt} {ρ ρ1:ac} {fl:Fl} (h:jz Φ sc s ρ (.nx ρ1)) (k:Rf Φ sc ss ρ1 fl):Rf Φ sc (s::ss) ρ fl
 | stop {s:Stmt} {ss:List Stmt} {ρ:ac} {r:D} (h:jz Φ sc s ρ (.rt r)):Rf Φ sc (s::ss) ρ (.rt r)
 | dem {ss:List Stmt} {ρ:ac} {fl:Fl} (k:Rf Φ sc ss (gz ρ) fl):Rf Φ sc ss ρ fl
inductive jz(Φ:Fx)(sc:Scope):Stmt->ac->Fl->Prop where
 | set {x:Str} {e:Expr} {px q:Pos} {ρ:ac} {d:D} (h:Xd Φ sc ρ e d) (hx:bD sc x=true) (hc:gr e=false):jz Φ sc (.Assign [.Name x px] e q) ρ (.nx (aL ρ x (d,true)))
 | setS {x:Str} {e:Expr} {px q:Pos} {ρ:ac} {d:D} (h:pW Φ sc ρ e d) (hx:bD sc x=true):jz Φ sc (.Assign [.Name x px] e q) ρ (.nx (aL ρ x (d,false)))
 | app1 {x m:Str} {M:List D->List D->Nat->Rs (List D)} {i e:Expr} {p1 p2 ap cp p4:Pos} {ρ:ac} {dt l l':List D} {d:D} {j:Int} {k ki:Nat} (hM:Φ.mtt m=some M) (hx:ρ x=some (.tup dt,true)) (hi:aa (ar Φ i false sc ρ) (.int j,ki)) (hs:d9 i) (hat:L2.atI dt j=some (.lst l)) (h:aa (ba Φ [e] sc ρ) ([d],k)) (hn:cW x=true) (hln:(ap.endLine==cp.line)=true) (hm:aa (M l [d] k) l') :
  jz Φ sc (.Expr (.Call (.Attribute (.Subscript (.Name x p1) i p2) m ap) [e] [] cp) p4) ρ (.nx (Eb ρ x))
 | sto2 {x:Str} {e i m:Expr} {p1 p2 p3 pos:Pos} {ρ:ac} {Ls:List (List Int)} {l:List Int} {j jm v:Int} {n nm k k1 k2:Nat} (hx:ρ x=some (.lst (Ls.map EA),true)) (h:aa (ar Φ e false sc ρ) (.int v,k)) (hi:aa (ar Φ i false sc ρ) (.int j,k1)) (hm:aa (ar Φ m false sc ρ) (.int jm,k2)) (hn:cW x=true)
  (h1:gZ Ls.length j=some n) (h2:Ls[n]?=some l) (h3:gZ l.length jm=some nm) (hd:∀a y,Ls[a]?=some y->a≠n->y≠l) (hs:d9 i) (hsl:∀a b c p,m ≠ .Slice a b c p) :
  jz Φ sc (.Assign [.Subscript (.Subscript (.Name x p1) i p2) m p3] e pos) ρ (.nx (aL ρ x (.lst ((Ls.set n (l.set nm v)).map EA),true)))
 | ret {e:Expr} {q:Pos} {ρ:ac} {d:D} (h:Xd Φ sc ρ e d):jz Φ sc (.Return (some e) q) ρ (.rt d)
 | iff {c:Expr} {a b:List Stmt} {pos:Pos} {ρ:ac} {t:Bool} {k:Nat} {fl:Fl} (hc:aa (ar Φ c false sc ρ) (.bl t,k)) (h:Rf Φ sc (cond t a b) ρ fl):jz Φ sc (.If c a b pos) ρ fl
 | forC {tg it:Expr} {body:List Stmt} {pos:Pos} {ρ:ac} {d:D} {ds:List D} {k:Nat} {fl:Fl} (hi:aa (ar Φ it true sc (demote it ρ)) (d,k)) (hd:items d=some ds) (hk:k<=1) (ht:dS it tg=true) (h:Rc Φ sc tg body ds (demote it ρ) fl):jz Φ sc (.For tg it body [] pos) ρ fl
 | forP {tg it c:Expr} {a:List Stmt} {pos q:Pos} {ρ ρ':ac} {d:D} {ds:List D} {k:Nat} (hi:aa (ar Φ it true sc ρ) (d,k)) (hd:items d=some ds) (hl:aq ds=true) (ht:dS it tg=true) (h:Rp Φ sc tg c ds ρ ρ'):jz Φ sc (.For tg it [.If c a [] q] [] pos) ρ (.nx ρ')
inductive Rc(Φ:Fx)(sc:Scope):Expr->List Stmt->List D->ac->Fl->Prop where
 | nil {tg:Expr} {body:List Stmt} {ρ:ac}:Rc Φ sc tg body [] ρ (.nx ρ)
 | cons {tg:Expr} {body:List Stmt} {d:D} {ds:List D} {ρ ρ1 ρ2:ac} {fl:Fl} (hb:bi sc tg d ρ=some ρ1) (h:Rf Φ sc body ρ1 (.nx ρ2)) (k:Rc Φ sc tg body ds ρ2 fl):Rc Φ sc tg body (d::ds) ρ fl
 | stop {tg:Expr} {body:List Stmt} {d:D} {ds:List D} {ρ ρ1:ac} {r:D} (hb:bi sc tg d ρ=some ρ1) (h:Rf Φ sc body ρ1 (.rt r)):Rc Φ sc tg body (d::ds) ρ (.rt r)
end
end Sp
namespace TS
open PySem PyProof.Rows
abbrev SM:=StateT SortSt Sem
def fc:Bool->Keyed->Array Keyed->Nat->Nat->Nat->SM (Option Nat):=sortPriv% PySem.Builtin.gallop
def pR(lf:Bool)(ke:Keyed)(xs:Array Keyed)(b i:Nat):SM (Option Bool):=do
 let x <- elem' xs (b+i)
 if lf then lt' x ke else return (<- lt' ke x).map (!·)
theorem B3(lf:Bool)(ke:Keyed)(xs:Array Keyed)(b n hh:Nat):fc lf ke xs b n hh=(do
 let mut lo1:=0
 let mut of1:=1
 let mut l:=0
 let mut h:=0
 let some rg <- pR lf ke xs b hh|return none
 if rg then
  let mx:=n-hh
  for _ in [0:n] do
   if of1 >= mx then break
   let some mo <- pR lf ke xs b (hh+of1)|return none
   if !mo then break
   lo1:=of1
   of1:=2*of1+1
  l:=hh+lo1+1
  h:=hh+min of1 mx
 else
  let mx:=hh+1
  for _ in [0:n] do
   if of1 >= mx then break
   let some fd <- pR lf ke xs b (hh-of1)|return none
   if fd then break
   lo1:=of1
   of1:=2*of1+1
  l:=hh+1-min of1 mx
  h:=hh-lo1
 for _ in [0:n] do
  if l >= h then break
  let m:=l+(h-l) / 2
  let some mo <- pR lf ke xs b m|return none
  if mo then l:=m+1 else h:=m
 return some h):=rfl
section
variable{M:Model}{A:Around}{E:Value->Shared->Prop}{s:Shared}
theorem B2{lf:Bool}{ke:Keyed}{xs:Array Keyed}{b n hh:Nat}{st:SortSt}{Q:Option Nat->SortSt->Prop}(B:Nat->Bool)(hb:∀i,i<n->∀Q:Option Bool->SortSt->Prop,Q (some (B i)) st->wpS M A E s (pR lf ke xs b i) Q st)
  (hm:∀i j,i<=j->j<n->B j=true->B i=true) (hn:hh<n) (h:∀k,k<=n->(∀i,i<k->B i=true)->(∀i,k<=i->i<n->B i=false)->Q (some k) st):wpS M A E s (fc lf ke xs b n hh) Q st:=by
 have hf:∀i j,i<=j->j<n->B i=false->B j=false:=fun i j h1 h2 h3=>by
  cases e:B j with
  | false=>rfl
  | true=>rw[hm i j h1 h2 e]at h3;cases h3
 rw[B3]
 refine wpS_bind (hb hh hn _ ?_)
 cases e:B hh with
 | true =>
  dsimp only
  rw[if_pos rfl]
  refine wpS_bind (wpS_mono (wpS_forRange (I:=fun x c st'=>st'=st/\∃l o,c=(none,l,o)/\l<o/\x<o/\hh+l<n/\B (hh+l)=true)
   (Q:=fun c st'=>st'=st/\∃l o,c=(none,l,o)/\l<o/\hh+l<n/\B (hh+l)=true/\(n-hh<=o\/(hh+o<n/\B (hh+o)=false))) ?_ ?_ ⟨rfl,0,1,rfl,by omega,by omega,by omega,e⟩) ?_)
  ·rintro x c st' _ hx ⟨rfl,l,o,rfl,h1,h2,h3,h4⟩
   dsimp only
   by_cases hge:o >= n-hh
   ·rw[if_pos hge]
    exact wpS_pure ⟨rfl,l,o,rfl,h1,h3,h4,.inl hge⟩
   ·rw[if_neg hge]
    refine wpS_bind (hb _ (by omega) _ ?_)
    cases e2:B (hh+o)with
    | true =>
     dsimp only
     rw[if_neg (by simp)]
     exact wpS_pure ⟨rfl,o,2*o+1,rfl,by omega,by omega,by omega,e2⟩
    | false =>
     dsimp only
     rw[if_pos (by simp)]
     exact wpS_pure ⟨rfl,l,o,rfl,h1,h3,h4,.inr ⟨by omega,e2⟩⟩
  ·rintro c st' ⟨rfl,l,o,rfl,h1,h2,h3,h4⟩
   exact⟨rfl,l,o,rfl,h1,h3,h4,.inl (by omega)⟩
  ·rintro c st'' ⟨rfl,l,o,rfl,h1,h3,h4,h5⟩
   dsimp only
   have p3:∀i,i<hh+l+1->B i=true:=fun i hi=>hm i _ (by omega) h3 h4
   have p4:∀i,hh+min o (n-hh)<=i->i<n->B i=false:=fun i hi hi2=>by
    rcases h5 with h5|⟨h5,h6⟩
    ·omega
    ·exact hf _ i (by omega) hi2 h6
   refine wpS_bind (wpS_mono (wpS_forRange (I:=fun x c st'=>st'=st''/\∃l r,c=(none,l,r)/\l<=r/\r<=n/\r-l<=n-x/\(∀i,i<l->B i=true)/\(∀i,r<=i->i<n->B i=false))
    (Q:=fun c st'=>st'=st''/\∃l,c=(none,l,l)/\l<=n/\(∀i,i<l->B i=true)/\(∀i,l<=i->i<n->B i=false)) ?_ ?_ ⟨rfl,hh+l+1,hh+min o (n-hh),rfl,by omega,by omega,by omega,p3,p4⟩) ?_)
   ·rintro x c st' _ hx ⟨rfl,l,r,rfl,h1,h2,h5,h3,h4⟩
    dsimp only
    by_cases hge:l >= r
    ·rw[if_pos hge]
     have:l=r:=by omega
     subst this
     exact wpS_pure ⟨rfl,l,rfl,h2,h3,h4⟩
    ·rw[if_neg hge]
     refine wpS_bind (hb _ (by omega) _ ?_)
     cases e:B (l+(r-l) / 2)with
     | true =>
      dsimp only
      rw[if_pos rfl]
      exact wpS_pure ⟨rfl,_,r,rfl,by omega,h2,by omega,fun i hi=>hm i _ (by omega) (by omega) e,h4⟩
     | false =>
      dsimp only
      rw[if_neg (by simp)]
      exact wpS_pure ⟨rfl,l,_,rfl,by omega,by omega,by omega,h3,fun i hi hi2=>hf _ i hi hi2 e⟩
   ·rintro c st' ⟨rfl,l,r,rfl,h1,h2,h5,h3,h4⟩
    have:l=r:=by omega
    subst this
    exact⟨rfl,l,rfl,h2,h3,h4⟩
   ·rintro c st' ⟨rfl,l,rfl,h2,h3,h4⟩
    exact wpS_pure (h l h2 h3 h4)
 | false =>
  dsimp only
  rw[if_neg (by simp)]
  refine wpS_bind (wpS_mono (wpS_forRange (I:=fun x c st'=>st'=st/\∃l o,c=(none,l,o)/\l<o/\x<o/\l<=hh/\B (hh-l)=false)
   (Q:=fun c st'=>st'=st/\∃l o,c=(none,l,o)/\l<o/\l<=hh/\B (hh-l)=false/\(hh+1<=o\/(o<=hh/\B (hh-o)=true))) ?_ ?_ ⟨rfl,0,1,rfl,by omega,by omega,by omega,e⟩) ?_)
  ·rintro x c st' _ hx ⟨rfl,l,o,rfl,h1,h2,h3,h4⟩
   dsimp only
   by_cases hge:o >= hh+1
   ·rw[if_pos hge]
    exact wpS_pure ⟨rfl,l,o,rfl,h1,h3,h4,.inl hge⟩
   ·rw[if_neg hge]
    refine wpS_bind (hb _ (by omega) _ ?_)
    cases e2:B (hh-o)with
    | true =>
     dsimp only
     rw[if_pos rfl]
     exact wpS_pure ⟨rfl,l,o,rfl,h1,h3,h4,.inr ⟨by omega,e2⟩⟩
    | false =>
     dsimp only
     rw[if_neg (by simp)]
     exact wpS_pure ⟨rfl,o,2*o+1,rfl,by omega,by omega,by omega,e2⟩
  ·rintro c st' ⟨rfl,l,o,rfl,h1,h2,h3,h4⟩
   exact⟨rfl,l,o,rfl,h1,h3,h4,.inl (by omega)⟩
  ·rintro c st'' ⟨rfl,l,o,rfl,h1,h3,h4,h5⟩
   dsimp only
   have p3:∀i,i<hh+1-min o (hh+1)->B i=true:=fun i hi=>by
    rcases h5 with h5|⟨h5,h6⟩
    ·omega
    ·exact hm i _ (by omega) (by omega) h6
   have p4:∀i,hh-l<=i->i<n->B i=false:=fun i hi hi2=>hf _ i hi hi2 h4
   refine wpS_bind (wpS_mono (wpS_forRange (I:=fun x c st'=>st'=st''/\∃l r,c=(none,l,r)/\l<=r/\r<=n/\r-l<=n-x/\(∀i,i<l->B i=true)/\(∀i,r<=i->i<n->B i=false))
    (Q:=fun c st'=>st'=st''/\∃l,c=(none,l,l)/\l<=n/\(∀i,i<l->B i=true)/\(∀i,l<=i->i<n->B i=false)) ?_ ?_ ⟨rfl,hh+1-min o (hh+1),hh-l,rfl,by omega,by omega,by omega,p3,p4⟩) ?_)
   ·rintro x c st' _ hx ⟨rfl,l,r,rfl,h1,h2,h5,h3,h4⟩
    dsimp only
    by_cases hge:l >= r
    ·rw[if_pos hge]
     have:l=r:=by omega
     subst this
     exact wpS_pure ⟨rfl,l,rfl,h2,h3,h4⟩
    ·rw[if_neg hge]
     refine wpS_bind (hb _ (by omega) _ ?_)
     cases e:B (l+(r-l) / 2)with
     | true =>
      dsimp only
      rw[if_pos rfl]
      exact wpS_pure ⟨rfl,_,r,rfl,by omega,h2,by omega,fun i hi=>hm i _ (by omega) (by omega) e,h4⟩
     | false =>
      dsimp only
      rw[if_neg (by simp)]
      exact wpS_pure ⟨rfl,l,_,rfl,by omega,by omega,by omega,h3,fun i hi hi2=>hf _ i hi hi2 e⟩
   ·rintro c st' ⟨rfl,l,r,rfl,h1,h2,h5,h3,h4⟩
    have:l=r:=by omega
    subst this
    exact⟨rfl,l,rfl,h2,h3,h4⟩
   ·rintro c st' ⟨rfl,l,rfl,h2,h3,h4⟩
    exact wpS_pure (h l h2 h3 h4)
end
end TS
namespace TS
open PySem PyProof.Rows
section
variable{O:KeyOrd}(ky:Keyed->O.α)
def bT(l:List Keyed):Prop:=l.Pairwise fun x y=>O.kle (ky x) (ky y)
def bJ(l m:List Keyed):Prop:=∀x∈l,∀y∈m,O.kle (ky x) (ky y)
structure bz(T out A B:List Keyed):Prop where
 pm:(out++A++B).Perm T
 so:bT ky out
 sa:bT ky A
 sb:bT ky B
 oa:bJ ky out A
 ob:bJ ky out B
end
section
variable{O:KeyOrd}{ky:Keyed->O.α}{T out A B X:List Keyed}
theorem cf:bT ky (A++B)↔bT ky A/\bT ky B/\bJ ky A B:=List.pairwise_append
theorem bz.goA(h:bz ky T out (X++A) B)(hx:bJ ky X B):bz ky T (out++X) A B:=by
 obtain⟨pm,so,sa,sb,oa,ob⟩:=h
 obtain⟨s1,s2,s3⟩:=cf.mp sa
 refine⟨by simpa [List.append_assoc]using pm,cf.mpr ⟨so,s1,fun x hx y hy=>oa x hx y (List.mem_append_left _ hy)⟩,s2,sb,fun x hx' y hy=>?_,fun x hx' y hy=>?_⟩
 ·rcases List.mem_append.mp hx' with z|z
  ·exact oa x z y (List.mem_append_right _ hy)
  ·exact s3 x z y hy
 ·rcases List.mem_append.mp hx' with z|z
  ·exact ob x z y hy
  ·exact hx x z y hy
theorem bz.goB(h:bz ky T out A (X++B))(hx:bJ ky X A):bz ky T (out++X) A B:=by
 obtain⟨pm,so,sa,sb,oa,ob⟩:=h
 obtain⟨s1,s2,s3⟩:=cf.mp sb
 refine⟨?_,cf.mpr ⟨so,s1,fun x hx y hy=>ob x hx y (List.mem_append_left _ hy)⟩,sa,s2,fun x hx' y hy=>?_,fun x hx' y hy=>?_⟩
 ·refine List.Perm.trans ?_ pm
  have:(X++A).Perm (A++X):=List.perm_append_comm
  have:=(this.append_right B).append_left out
  simpa [List.append_assoc]using this
 ·rcases List.mem_append.mp hx' with z|z
  ·exact oa x z y hy
  ·exact hx x z y hy
 ·rcases List.mem_append.mp hx' with z|z
  ·exact ob x z y (List.mem_append_right _ hy)
  ·exact s3 x z y hy
abbrev cF(ky:Keyed->O.α)(T l:List Keyed):Prop:=l.Perm T/\bT ky l
theorem bz.endA(h:bz ky T out A []):cF ky T (out++A):=⟨by simpa using h.pm,cf.mpr ⟨h.so,h.sa,h.oa⟩⟩
theorem bz.endB(h:bz ky T out [] B):cF ky T (out++B):=⟨by simpa using h.pm,cf.mpr ⟨h.so,h.sb,h.ob⟩⟩
theorem bz.last(h:bz ky T out A B)(hz:bJ ky B A):cF ky T (out++B++A):=(bz.goB (X:=B) (B:=[]) (by rw[List.append_nil];exact h) hz).endA
theorem tQ{x:Keyed}{l:List Keyed}(h:bT ky (x::l)):bJ ky [x] (x::l):=fun a ha y hy=>by
 rw[List.mem_singleton]at ha;subst ha
 rcases List.mem_cons.mp hy with rfl|hy
 ·exact KeyOrd.kle_refl _
 ·exact(List.pairwise_cons.mp h).1 y hy
end
def xy:Array Keyed->Array Keyed->SM (Array Keyed):=sortPriv% PySem.Builtin.mergeLo
def jr:Nat->SM Unit:=sortPriv% PySem.Builtin.setMinGallop
abbrev dQ(a b out:Array Keyed)(i j:Nat):Array Keyed:=out++a.extract i a.size++b.extract j b.size
abbrev ju(a b out:Array Keyed)(i j:Nat):Array Keyed:=out++b.extract j b.size++a.extract i a.size
abbrev L1:=Option (Array Keyed)×Array Keyed×Nat×Nat×Nat×Nat
abbrev L2:=Option (Array Keyed)×Array Keyed×Nat×Nat×Nat×Nat×Nat
abbrev L0:=Option (Array Keyed)×Array Keyed×Nat×Nat×Nat
def Az(a b:Array Keyed)(g:Nat)(t:L1):SM (ForInStep L1):=do
 let y <- elem' b t.2.2.2.1
 let z <- elem' a t.2.2.1
 let x <- lt' y z
 match x with
 | some bw =>
  if bw=true then do
   let y <- elem' b t.2.2.2.1
   if (t.2.2.2.1+1==b.size)=true then pure (.done (some (dQ a b (t.2.1.push y) t.2.2.1 (t.2.2.2.1+1)),t.2.1.push y,t.2.2.1,t.2.2.2.1+1,0,t.2.2.2.2.2+1))
   else if t.2.2.2.2.2+1 >= g then pure (.done (none,t.2.1.push y,t.2.2.1,t.2.2.2.1+1,0,t.2.2.2.2.2+1))
   else pure (.yield (none,t.2.1.push y,t.2.2.1,t.2.2.2.1+1,0,t.2.2.2.2.2+1))
  else do
   let y <- elem' a t.2.2.1
   if (t.2.2.1+1+1==a.size)=true then pure (.done (some (ju a b (t.2.1.push y) (t.2.2.1+1) t.2.2.2.1),t.2.1.push y,t.2.2.1+1,t.2.2.2.1,t.2.2.2.2.1+1,0))
   else if t.2.2.2.2.1+1 >= g then pure (.done (none,t.2.1.push y,t.2.2.1+1,t.2.2.2.1,t.2.2.2.2.1+1,0))
   else pure (.yield (none,t.2.1.push y,t.2.2.1+1,t.2.2.2.1,t.2.2.2.2.1+1,0))
 | _=>pure (.done (some (dQ a b t.2.1 t.2.2.1 t.2.2.2.1),t.2.1,t.2.2.1,t.2.2.2.1,t.2.2.2.2.1,t.2.2.2.2.2))
def xR(a b o:Array Keyed)(i j g c d:Nat):SM (ForInStep L2):=do
 let y <- elem' a i
 if (i+1+1==a.size)=true then pure (.done (some (ju a b (o.push y) (i+1) j),o.push y,i+1,j,g,c,d))
 else if (decide (c<7)&&decide (d<7))=true then pure (.done (none,o.push y,i+1,j,g,c,d))
 else pure (.yield (none,o.push y,i+1,j,g,c,d))
def xz(a b o:Array Keyed)(i j g c d:Nat):SM (ForInStep L2):=do
 let y <- elem' b j
 if (j+1==b.size)=true then pure (.done (some (dQ a b (o.push y) i (j+1)),o.push y,i,j+1,g,c,d))
 else do
  let z <- elem' a i
  let x <- fc true z b (j+1) (b.size-(j+1)) 0
  match x with
  | some k =>
   if k>0 then
    if (j+1+k==b.size)=true then pure (.done (some (dQ a b (o.push y++b.extract (j+1) (j+1+k)) i (j+1+k)),o.push y++b.extract (j+1) (j+1+k),i,j+1+k,g,c,k))
    else xR a b (o.push y++b.extract (j+1) (j+1+k)) i (j+1+k) g c k
   else xR a b (o.push y) i (j+1) g c k
  | _=>pure (.done (some (dQ a b (o.push y) i (j+1)),o.push y,i,j+1,g,c,d))
def wX(a b o:Array Keyed)(i j g c d:Nat):SM (ForInStep L2):=do
 jr g
 let y <- elem' b j
 let x <- fc false y a i (a.size-i) 0
 match x with
 | some k =>
  if k>0 then
   if (i+k+1==a.size)=true then pure (.done (some (ju a b (o++a.extract i (i+k)) (i+k) j),o++a.extract i (i+k),i+k,j,g,k,d))
   else if (i+k==a.size)=true then pure (.done (some (dQ a b (o++a.extract i (i+k)) (i+k) j),o++a.extract i (i+k),i+k,j,g,k,d))
   else xz a b (o++a.extract i (i+k)) (i+k) j g k d
  else xz a b o i j g k d
 | _=>pure (.done (some (dQ a b o i j),o,i,j,g,c,d))
def Ax(a b:Array Keyed)(t:L2):SM (ForInStep L2) :=
 if t.2.2.2.2.1>1 then wX a b t.2.1 t.2.2.1 t.2.2.2.1 (t.2.2.2.2.1-1) t.2.2.2.2.2.1 t.2.2.2.2.2.2
 else wX a b t.2.1 t.2.2.1 t.2.2.2.1 t.2.2.2.2.1 t.2.2.2.2.2.1 t.2.2.2.2.2.2
def xt(a b:Array Keyed)(c:L0):SM (ForInStep L0):=do
 let t <- forIn [0:a.size+b.size] ((none,c.2.1,c.2.2.1,c.2.2.2.1,0,0):L1) fun _ t=>Az a b c.2.2.2.2 t
 match t.1 with
 | some r=>pure (.done (some r,t.2.1,t.2.2.1,t.2.2.2.1,c.2.2.2.2))
 | none=>do
  liftM (rule "list.sort.gallop")
  let u <- forIn [0:a.size+b.size] ((none,t.2.1,t.2.2.1,t.2.2.2.1,c.2.2.2.2+1,t.2.2.2.2.1,t.2.2.2.2.2):L2) fun _ u=>Ax a b u
  match u.1 with
  | some r=>pure (.done (some r,u.2.1,u.2.2.1,u.2.2.2.1,u.2.2.2.2.1))
  | none=>do
   jr (u.2.2.2.2.1+1)
   pure (.yield (none,u.2.1,u.2.2.1,u.2.2.2.1,u.2.2.2.2.1+1))
theorem zh(a b:Array Keyed):xy a b=(do
 rule "list.sort.merge-lo"
 let mut o:Array Keyed:=#[<- elem' b 0]
 let mut i:=0
 let mut j:=1
 if j==b.size then return dQ a b o i j
 if i+1==a.size then return ju a b o i j
 let mut g:=gallopOf (<- get)
 for _ in [0:a.size+b.size] do
  let mut c:=0
  let mut d:=0
  for _ in [0:a.size+b.size] do
   let some bw <- lt' (<- elem' b j) (<- elem' a i)|return dQ a b o i j
   if bw then
    o:=o.push (<- elem' b j);j:=j+1;d:=d+1;c:=0
    if j==b.size then return dQ a b o i j
    if d >= g then break
   else
    o:=o.push (<- elem' a i);i:=i+1;c:=c+1;d:=0
    if i+1==a.size then return ju a b o i j
    if c >= g then break
  rule "list.sort.gallop"
  g:=g+1
  for _ in [0:a.size+b.size] do
   if g>1 then g:=g-1
   jr g
   let some k <- fc false (<- elem' b j) a i (a.size-i) 0|return dQ a b o i j
   c:=k
   if k>0 then
    o:=o++a.extract i (i+k);i:=i+k
    if i+1==a.size then return ju a b o i j
    if i==a.size then return dQ a b o i j
   o:=o.push (<- elem' b j);j:=j+1
   if j==b.size then return dQ a b o i j
   let some k <- fc true (<- elem' a i) b j (b.size-j) 0|return dQ a b o i j
   d:=k
   if k>0 then
    o:=o++b.extract j (j+k);j:=j+k
    if j==b.size then return dQ a b o i j
   o:=o.push (<- elem' a i);i:=i+1
   if i+1==a.size then return ju a b o i j
   if c<7&&d<7 then break
  g:=g+1
  jr g
 unsupported "internal:list.sort.merge-bound"):=rfl
theorem Bv(a b:Array Keyed):xy a b=(do
  liftM (rule "list.sort.merge-lo")
  let y <- elem' b 0
  if (1==b.size)=true then pure (dQ a b #[y] 0 1)
  else if (0+1==a.size)=true then pure (ju a b #[y] 0 1)
  else do
   let st <- get
   let c <- forIn [0:a.size+b.size] ((none,#[y],0,1,gallopOf st):L0) fun _ c=>xt a b c
   match c.1 with
   | some r=>pure r
   | none=>liftM (unsupported "internal:list.sort.merge-bound" : Sem (Array Keyed))):=by
 rw[zh]
 unfold xt Ax
 dsimp only
 congr 1;funext _;congr 1;funext y
 refine ite_congr rfl (fun _=>rfl) fun _=>ite_congr rfl (fun _=>rfl) fun _=>?_
 congr 1;funext st
 congr 1
 ·congr 1
  funext _ c
  congr 1
  funext t
  obtain⟨t1,t2⟩:=t
  cases t1 with
  | some r=>rfl
  | none =>
   dsimp only
   congr 1;funext _
   congr 1
   funext u
   obtain⟨u1,u2⟩:=u
   cases u1<;>rfl
 ·funext c
  obtain⟨c1,c2⟩:=c
  cases c1<;>rfl
theorem AB(g:Nat):jr g=modify fun st=>SortSt.mk' (kindOf st) (arrOf st) (pendingOf st) g (failedOf st):=rfl
end TS
namespace TS
open PySem PyProof.Rows
section
variable{O:KeyOrd}{ky:Keyed->O.α}{M:Model}{A:Around}{E:Value->Shared->Prop}{s:Shared}{U:List Keyed}{kd:SortKind}
def Lts(ky:Keyed->O.α)(M:Model)(A:Around)(E:Value->Shared->Prop)(s:Shared)(kd:SortKind)(U:List Keyed):Prop :=
 ∀x∈U,∀y∈U,∀(st:SortSt) (Q:Option Bool->SortSt->Prop),kindOf st=kd->Q (some (O.blt (ky x) (ky y))) st->wpS M A E s (lt' x y) Q st
def bN(st:SortSt)(g:Nat):SortSt:=SortSt.mk' (kindOf st) (arrOf st) (pendingOf st) g (failedOf st)
theorem aT{xs:Array Keyed}{i:Nat}{st:SortSt}{Q:Keyed->SortSt->Prop}(hi:i<xs.size)(h:Q xs[i] st):wpS M A E s (elem' xs i) Q st:=by
 rw[elem'_eq,getElem?_pos xs i hi];exact wpS_pure h
def bt(ky:Keyed->O.α)(lf:Bool)(ke x:Keyed):Bool:=if lf then O.blt (ky x) (ky ke)else !O.blt (ky ke) (ky x)
theorem vX{lf:Bool}{ke x y:Keyed}(h:O.kle (ky x) (ky y))(hy:bt ky lf ke y=true):bt ky lf ke x=true:=by
 cases lf with
 | true=>exact KeyOrd.klt_of_kle_of_klt h hy
 | false =>
  unfold bt at *
  simp only[Bool.false_eq_true,if_false,Bool.not_eq_true']at *
  exact KeyOrd.kle_trans h hy
theorem CV(hL:Lts ky M A E s kd U){lf:Bool}{ke:Keyed}{xs:Array Keyed}{b i:Nat}{st:SortSt}{Q:Option Bool->SortSt->Prop}(hk:kindOf st=kd)(hU:∀x∈xs.toList,x∈U)(hke:ke∈U)(hi:b+i<xs.size)
  (h:Q (some (bt ky lf ke xs[b+i])) st):wpS M A E s (pR lf ke xs b i) Q st:=by
 unfold pR
 refine wpS_bind (aT hi ?_)
 have hx:xs[b+i]∈U:=hU _ (Array.getElem_mem_toList hi)
 unfold bt at h
 cases lf with
 | true =>
  rw[if_pos rfl]at h⊢
  exact hL _ hx _ hke st Q hk h
 | false =>
  rw[if_neg (by simp)]at h⊢
  exact wpS_bind (hL _ hke _ hx st _ hk (wpS_pure h))
theorem gv(hL:Lts ky M A E s kd U){lf:Bool}{ke:Keyed}{xs:Array Keyed}{b n hh:Nat}{st:SortSt}{Q:Option Nat->SortSt->Prop}(hk:kindOf st=kd)(hU:∀x∈xs.toList,x∈U)(hke:ke∈U)(hs:bT ky ((xs.toList.drop b).take n))(hz:b+n<=xs.size)(hn:hh<n)
  (h:∀k,k<=n->(∀x∈((xs.toList.drop b).take n).take k,bt ky lf ke x=true)->(∀x∈((xs.toList.drop b).take n).drop k,bt ky lf ke x=false)->Q (some k) st):wpS M A E s (fc lf ke xs b n hh) Q st:=by
 have ln:((xs.toList.drop b).take n).length=n:=by rw[List.length_take,List.length_drop,Array.length_toList];omega
 have gt:∀i (hi:i<n),((xs.toList.drop b).take n)[i]'(by rw[ln];exact hi)=xs[b+i]'(by omega):=fun i hi=>by simp
 have hB:∀i (hi:i<n),bt ky lf ke (xs.getD (b+i) (.none,.none))=bt ky lf ke (xs[b+i]'(by omega)):=fun i hi=>by
  congr 1;exact Array.getElem_eq_getD _ |>.symm
 refine B2 (fun i=>bt ky lf ke (xs.getD (b+i) (.none,.none))) (fun i hi Q hQ=>CV hL hk hU hke (by omega) (by rw[<- hB i hi];exact hQ)) (fun i j hij hj e=>?_) hn fun k hk2 h1 h2=>h k hk2 (fun x hx=>?_) fun x hx=>?_
 ·rw[hB j hj]at e
  rw[hB i (by omega)]
  rcases Nat.lt_or_ge i j with z|z
  ·have:=List.pairwise_iff_getElem.mp hs i j (by rw[ln];omega) (by rw[ln];exact hj) z
   rw[gt i (by omega),gt j hj]at this
   exact vX this e
  ·have:i=j:=by omega
   subst this;exact e
 ·obtain⟨i,hi,rfl⟩:=List.mem_iff_getElem.mp hx
  rw[List.length_take,ln]at hi
  rw[List.getElem_take,gt i (by omega),<- hB i (by omega)]
  exact h1 i (by omega)
 ·obtain⟨i,hi,rfl⟩:=List.mem_iff_getElem.mp hx
  rw[List.length_drop,ln]at hi
  rw[List.getElem_drop,gt (k+i) (by omega),<- hB (k+i) (by omega)]
  exact h2 (k+i) (by omega) (by omega)
theorem kr{ke x:Keyed}(h:bt ky false ke x=true):O.kle (ky x) (ky ke):=by
 unfold bt at h
 simp only[Bool.false_eq_true,if_false,Bool.not_eq_true']at h
 exact h
theorem kq{ke x:Keyed}(h:bt ky false ke x=false):O.kle (ky ke) (ky x):=by
 unfold bt at h
 simp only[Bool.false_eq_true,if_false,Bool.not_eq_false']at h
 exact KeyOrd.kle_of_klt h
theorem r9{ke x:Keyed}(h:bt ky true ke x=true):O.kle (ky x) (ky ke):=KeyOrd.kle_of_klt h
theorem ig{ke x:Keyed}(h:bt ky true ke x=false):O.kle (ky ke) (ky x):=h
theorem fh(a:Array Keyed)(i k:Nat):(a.extract i (i+k)).toList=(a.toList.drop i).take k:=by
 rw[Array.toList_extract];simp[List.extract_eq_take_drop]
theorem iQ(a:Array Keyed)(i:Nat):(a.extract i a.size).toList=a.toList.drop i:=by
 rw[Array.toList_extract];simp[List.extract_eq_take_drop,List.take_of_length_le]
theorem fk{a:Array Keyed}{i:Nat}(h:i<a.size):a.toList.drop i=a[i]::a.toList.drop (i+1):=by
 rw[List.drop_eq_getElem_cons (by simpa using h)];simp
theorem pD(a:Array Keyed)(i k:Nat):a.toList.drop i=(a.toList.drop i).take k++a.toList.drop (i+k):=by
 rw[<- List.drop_drop,List.take_append_drop]
variable{T:List Keyed}{a b o:Array Keyed}{i j:Nat}
theorem gy(h:bz ky T o.toList (a.toList.drop i) (b.toList.drop j))(e:j=b.size\/i=a.size):cF ky T (dQ a b o i j).toList:=by
 have e1:(dQ a b o i j).toList=o.toList++a.toList.drop i++b.toList.drop j:=by
  rw[Array.toList_append,Array.toList_append,iQ,iQ]
 rw[e1]
 rcases e with rfl|rfl
 ·have e2:b.toList.drop b.size=[]:=List.drop_eq_nil_of_le (by simp)
  rw[e2]at h⊢
  rw[List.append_nil]
  exact h.endA
 ·have e2:a.toList.drop a.size=[]:=List.drop_eq_nil_of_le (by simp)
  rw[e2]at h⊢
  rw[List.append_nil]
  exact h.endB
theorem jg(h:bz ky T o.toList (a.toList.drop i) (b.toList.drop j))(e:i+1=a.size)(hz:bJ ky b.toList (a.toList.drop (a.size-1))):cF ky T (ju a b o i j).toList:=by
 have e1:(ju a b o i j).toList=o.toList++b.toList.drop j++a.toList.drop i:=by
  rw[Array.toList_append,Array.toList_append,iQ,iQ]
 rw[e1]
 rw[show a.size-1=i by omega]at hz
 exact h.last fun x hx y hy=>hz x (List.mem_of_mem_drop hx) y hy
theorem xn(h:bz ky T o.toList (a.toList.drop i) (b.toList.drop j))(hi:i<a.size)(hx:bJ ky [a[i]] (b.toList.drop j)):bz ky T (o.push a[i]).toList (a.toList.drop (i+1)) (b.toList.drop j):=by
 rw[Array.toList_push]
 rw[fk hi]at h
 exact bz.goA (X:=[a[i]]) h hx
theorem sh(h:bz ky T o.toList (a.toList.drop i) (b.toList.drop j))(hj:j<b.size)(hx:bJ ky [b[j]] (a.toList.drop i)):bz ky T (o.push b[j]).toList (a.toList.drop i) (b.toList.drop (j+1)):=by
 rw[Array.toList_push]
 rw[fk hj]at h
 exact bz.goB (X:=[b[j]]) h hx
theorem Gu(k:Nat)(h:bz ky T o.toList (a.toList.drop i) (b.toList.drop j))(hx:bJ ky ((a.toList.drop i).take k) (b.toList.drop j)):bz ky T (o++a.extract i (i+k)).toList (a.toList.drop (i+k)) (b.toList.drop j):=by
 rw[Array.toList_append,fh]
 rw[pD a i k]at h
 exact bz.goA h hx
theorem Gs(k:Nat)(h:bz ky T o.toList (a.toList.drop i) (b.toList.drop j))(hx:bJ ky ((b.toList.drop j).take k) (a.toList.drop i)):bz ky T (o++b.extract j (j+k)).toList (a.toList.drop i) (b.toList.drop (j+k)):=by
 rw[Array.toList_append,fh]
 rw[pD b j k]at h
 exact bz.goB h hx
theorem nJ{x y:Keyed}(hi:i<a.size)(hs:bT ky (a.toList.drop i))(hx:O.kle (ky x) (ky a[i]))(hy:y∈a.toList.drop i):O.kle (ky x) (ky y):=by
 rw[fk hi]at hs hy
 exact KeyOrd.kle_trans hx (tQ hs _ (List.mem_singleton.mpr rfl) y hy)
theorem iS(a:Array Keyed)(i:Nat):(a.toList.drop i).take (a.size-i)=a.toList.drop i:=List.take_of_length_le (by rw[List.length_drop,Array.length_toList];exact Nat.le_refl _)
theorem eR(h:i<a.size):a[i]∈a.toList:=Array.getElem_mem_toList h
theorem DZ(hL:Lts ky M A E s kd U){ke:Keyed}{st:SortSt}{Q:Option Nat->SortSt->Prop}(hk:kindOf st=kd)(hU:∀x∈a.toList,x∈U)(hke:ke∈U)(hs:bT ky (a.toList.drop i))(hi:i<a.size)
  (h:∀k,i+k<=a.size->bJ ky ((a.toList.drop i).take k) [ke]->bJ ky [ke] (a.toList.drop (i+k))->Q (some k) st):wpS M A E s (fc false ke a i (a.size-i) 0) Q st:=by
 refine gv hL hk hU hke (by rw[iS];exact hs) (by omega) (by omega) fun k hk2 h1 h2=>?_
 rw[iS]at h1 h2
 rw[List.drop_drop]at h2
 exact h k (by omega) (fun x hx y hy=>by rw[List.mem_singleton]at hy;subst hy;exact kr (h1 x hx)) fun x hx y hy=>by rw[List.mem_singleton]at hx;subst hx;exact kq (h2 y hy)
theorem D1(hL:Lts ky M A E s kd U){ke:Keyed}{st:SortSt}{Q:Option Nat->SortSt->Prop}(hk:kindOf st=kd)(hU:∀x∈a.toList,x∈U)(hke:ke∈U)(hs:bT ky (a.toList.drop i))(hi:i<a.size)
  (h:∀k,i+k<=a.size->bJ ky ((a.toList.drop i).take k) [ke]->bJ ky [ke] (a.toList.drop (i+k))->Q (some k) st):wpS M A E s (fc true ke a i (a.size-i) 0) Q st:=by
 refine gv hL hk hU hke (by rw[iS];exact hs) (by omega) (by omega) fun k hk2 h1 h2=>?_
 rw[iS]at h1 h2
 rw[List.drop_drop]at h2
 exact h k (by omega) (fun x hx y hy=>by rw[List.mem_singleton]at hy;subst hy;exact r9 (h1 x hx)) fun x hx y hy=>by rw[List.mem_singleton]at hx;subst hx;exact ig (h2 y hy)
structure At(ky:Keyed->O.α)(T:List Keyed)(a b o:Array Keyed)(i j:Nat):Prop where
 m:bz ky T o.toList (a.toList.drop i) (b.toList.drop j)
 hi:i+1<a.size
 hj:j<b.size
structure jy(ky:Keyed->O.α)(M:Model)(A:Around)(E:Value->Shared->Prop)(s:Shared)(kd:SortKind)(U:List Keyed)(a b:Array Keyed)(st:SortSt):Prop where
 lt:Lts ky M A E s kd U
 ua:∀x∈a.toList,x∈U
 ub:∀x∈b.toList,x∈U
 hz:bJ ky b.toList (a.toList.drop (a.size-1))
 kd:kindOf st=kd
abbrev mH(ky:Keyed->O.α)(T:List Keyed)(a b:Array Keyed)(n0:Nat)(r:Option (Array Keyed))(o:Array Keyed)(i j:Nat):Prop :=
 match r with
 | some r=>cF ky T r.toList
 | none=>At ky T a b o i j/\n0<i+j
theorem vg{st:SortSt}(W:jy ky M A E s kd U a b st){g c d n0:Nat}{Q:ForInStep L2->SortSt->Prop}(h:At ky T a b o i j)(hn:n0<i+j)(hx:bJ ky [a[i]'(by have:=h.hi;omega)] (b.toList.drop j))
  (q1:∀r o i j,mH ky T a b n0 r o i j->Q (.done (r,o,i,j,g,c,d)) st) (q2:∀o i j,At ky T a b o i j->n0<i+j->Q (.yield (none,o,i,j,g,c,d)) st):wpS M A E s (xR a b o i j g c d) Q st:=by
 obtain⟨m,hi,hj⟩:=h
 unfold xR
 refine wpS_bind (aT (by omega) ?_)
 have m2:=xn m (by omega) hx
 by_cases e:i+1+1=a.size
 ·rw[if_pos (by simpa using e)]
  exact wpS_pure (q1 _ _ _ _ (jg m2 e W.hz))
 ·rw[if_neg (by simpa using e)]
  split
  ·exact wpS_pure (q1 _ _ _ _ ⟨⟨m2,by omega,hj⟩,by omega⟩)
  ·exact wpS_pure (q2 _ _ _ ⟨m2,by omega,hj⟩ (by omega))
theorem uy{st:SortSt}(W:jy ky M A E s kd U a b st){g c d n0:Nat}{Q:ForInStep L2->SortSt->Prop}(h:At ky T a b o i j)(hn:n0<i+j)(hx:bJ ky [b[j]'h.hj] (a.toList.drop i))
  (q1:∀r o i j c d,mH ky T a b n0 r o i j->Q (.done (r,o,i,j,g,c,d)) st) (q2:∀o i j c d,At ky T a b o i j->n0<i+j->Q (.yield (none,o,i,j,g,c,d)) st):wpS M A E s (xz a b o i j g c d) Q st:=by
 obtain⟨m,hi,hj⟩:=h
 unfold xz
 refine wpS_bind (aT hj ?_)
 have m2:=sh m hj hx
 by_cases e:j+1=b.size
 ·rw[if_pos (by simpa using e)]
  exact wpS_pure (q1 _ _ _ _ _ _ (gy m2 (.inl e)))
 ·rw[if_neg (by simpa using e)]
  refine wpS_bind (aT (by omega) ?_)
  refine wpS_bind (D1 W.lt W.kd W.ub (W.ua _ (eR (by omega))) m2.sb (by omega) fun k hk h1 h2=>?_)
  dsimp only
  by_cases k0:k>0
  ·rw[if_pos k0]
   have m3:=Gs k m2 fun x hx y hy=>nJ (by omega) m2.sa (h1 x hx _ (List.mem_singleton.mpr rfl)) hy
   by_cases e2:j+1+k=b.size
   ·rw[if_pos (by simpa using e2)]
    exact wpS_pure (q1 _ _ _ _ _ _ (gy m3 (.inl e2)))
   ·rw[if_neg (by simpa using e2)]
    exact vg W ⟨m3,hi,by omega⟩ (by omega) h2 (fun _ _ _ _ z=>q1 _ _ _ _ _ _ z) fun _ _ _ z z2=>q2 _ _ _ _ _ z z2
  ·rw[if_neg k0]
   have:k=0:=by omega
   subst this
   exact vg W ⟨m2,hi,by omega⟩ (by omega) h2 (fun _ _ _ _ z=>q1 _ _ _ _ _ _ z) fun _ _ _ z z2=>q2 _ _ _ _ _ z z2
theorem iO{st:SortSt}{g:Nat}{Q:Unit->SortSt->Prop}(h:Q () (bN st g)):wpS M A E s (jr g) Q st:=by
 rw[AB];exact wpS_modify h
theorem jy.set{st:SortSt}(W:jy ky M A E s kd U a b st)(g:Nat):jy ky M A E s kd U a b (bN st g):=⟨W.lt,W.ua,W.ub,W.hz,W.kd⟩
theorem tG{st:SortSt}(W:jy ky M A E s kd U a b st){g c d n0:Nat}{Q:ForInStep L2->SortSt->Prop}(h:At ky T a b o i j)(hn:n0<i+j)
  (q1:∀r o i j c d,mH ky T a b n0 r o i j->Q (.done (r,o,i,j,g,c,d)) (bN st g)) (q2:∀o i j c d,At ky T a b o i j->n0<i+j->Q (.yield (none,o,i,j,g,c,d)) (bN st g)):wpS M A E s (wX a b o i j g c d) Q st:=by
 obtain⟨m,hi,hj⟩:=h
 unfold wX
 refine wpS_bind (iO ?_)
 have W:=W.set g
 refine wpS_bind (aT hj ?_)
 refine wpS_bind (DZ W.lt W.kd W.ua (W.ub _ (eR (by omega))) m.sa (by omega) fun k hk h1 h2=>?_)
 dsimp only
 by_cases k0:k>0
 ·rw[if_pos k0]
  have m2:=Gu k m fun x hx y hy=>nJ hj m.sb (h1 x hx _ (List.mem_singleton.mpr rfl)) hy
  by_cases e:i+k+1=a.size
  ·rw[if_pos (by simpa using e)]
   exact wpS_pure (q1 _ _ _ _ _ _ (jg m2 e W.hz))
  ·rw[if_neg (by simpa using e)]
   by_cases e2:i+k=a.size
   ·rw[if_pos (by simpa using e2)]
    exact wpS_pure (q1 _ _ _ _ _ _ (gy m2 (.inr e2)))
   ·rw[if_neg (by simpa using e2)]
    exact uy W ⟨m2,by omega,hj⟩ (by omega) h2 q1 q2
 ·rw[if_neg k0]
  have:k=0:=by omega
  subst this
  exact uy W ⟨m,hi,hj⟩ hn h2 q1 q2
theorem Ay{st:SortSt}(W:jy ky M A E s kd U a b st){g c d n0:Nat}{Q:ForInStep L1->SortSt->Prop}(h:At ky T a b o i j)(hn:n0<=i+j)
  (q1:∀r o i j c d,mH ky T a b n0 r o i j->Q (.done (r,o,i,j,c,d)) st) (q2:∀o i j c d,At ky T a b o i j->n0<i+j->Q (.yield (none,o,i,j,c,d)) st):wpS M A E s (Az a b g (none,o,i,j,c,d)) Q st:=by
 obtain⟨m,hi,hj⟩:=h
 unfold Az
 dsimp only
 refine wpS_bind (aT hj (wpS_bind (aT (by omega) ?_)))
 refine wpS_bind (W.lt _ (W.ub _ (eR hj)) _ (W.ua _ (eR (by omega))) st _ W.kd ?_)
 cases e:O.blt (ky b[j]) (ky a[i])with
 | true =>
  dsimp only
  rw[if_pos rfl]
  refine wpS_bind (aT hj ?_)
  have m2:=sh m hj fun x hx y hy=>by
   rw[List.mem_singleton]at hx;subst hx
   exact nJ (by omega) m.sa (KeyOrd.kle_of_klt e) hy
  by_cases e2:j+1=b.size
  ·rw[if_pos (by simpa using e2)]
   exact wpS_pure (q1 _ _ _ _ _ _ (gy m2 (.inl e2)))
  ·rw[if_neg (by simpa using e2)]
   split
   ·exact wpS_pure (q1 _ _ _ _ _ _ ⟨⟨m2,hi,by omega⟩,by omega⟩)
   ·exact wpS_pure (q2 _ _ _ _ _ ⟨m2,hi,by omega⟩ (by omega))
 | false =>
  dsimp only
  rw[if_neg (by simp)]
  refine wpS_bind (aT (by omega) ?_)
  have m2:=xn m (by omega) fun x hx y hy=>by
   rw[List.mem_singleton]at hx;subst hx
   exact nJ hj m.sb e hy
  by_cases e2:i+1+1=a.size
  ·rw[if_pos (by simpa using e2)]
   exact wpS_pure (q1 _ _ _ _ _ _ (jg m2 e2 W.hz))
  ·rw[if_neg (by simpa using e2)]
   split
   ·exact wpS_pure (q1 _ _ _ _ _ _ ⟨⟨m2,by omega,hj⟩,by omega⟩)
   ·exact wpS_pure (q2 _ _ _ _ _ ⟨m2,by omega,hj⟩ (by omega))
theorem Bg{st:SortSt}(W:jy ky M A E s kd U a b st){g:Nat}{Q:ForInStep L0->SortSt->Prop}(h:At ky T a b o i j)
  (q1:∀r o' i' j' g' g2,cF ky T r.toList->Q (.done (some r,o',i',j',g')) (bN st g2)) (q2:∀o' i' j' g',At ky T a b o' i' j'->i+j<i'+j'->Q (.yield (none,o',i',j',g')) (bN st g')):wpS M A E s (xt a b (none,o,i,j,g)) Q st:=by
 unfold xt
 dsimp only
 have tot:0<a.size+b.size:=by have:=h.hi;omega
 refine wpS_bind (wpS_mono (wpS_forRange (I:=fun x c st'=>st'=st/\∃o' i' j' p q,c=((none,o',i',j',p,q):L1)/\At ky T a b o' i' j'/\i+j+x<=i'+j')
  (Q:=fun c st'=>st'=st/\mH ky T a b (i+j) c.1 c.2.1 c.2.2.1 c.2.2.2.1) ?_ ?_ ⟨rfl,o,i,j,0,0,rfl,h,by omega⟩) ?_)
 ·rintro x c st' _ hx ⟨rfl,o',i',j',p,q,rfl,h',hn⟩
  exact Ay W (n0:=i+j+x) h' hn (fun r o i j c d z=>⟨rfl,by
   cases r with
   | some r=>exact z
   | none=>exact⟨z.1,Nat.lt_of_le_of_lt (Nat.le_add_right _ _) z.2⟩⟩) fun o i j c d z z2=>⟨rfl,_,_,_,_,_,rfl,z,by omega⟩
 ·rintro c st' ⟨rfl,o',i',j',p,q,rfl,h',hn⟩
  exact⟨rfl,h',show i+j<i'+j' by omega⟩
 ·rintro⟨r,o',i',j',p,q⟩ st' ⟨rfl,h'⟩
  cases r with
  | some r=>exact wpS_pure (q1 r _ _ _ _ (gallopOf st') h')
  | none =>
   dsimp only
   refine wpS_bind (wpS_lift (wpAny_rule ⟨rfl,?_⟩))
   refine wpS_bind (wpS_mono (wpS_forRange (I:=fun x c st2=>(∃g2,st2=bN st' g2)/\∃o' i' j' g' p q,c=((none,o',i',j',g',p,q):L2)/\At ky T a b o' i' j'/\i+j<i'+j')
    (Q:=fun c st2=>(∃g2,st2=bN st' g2)/\mH ky T a b (i+j) c.1 c.2.1 c.2.2.1 c.2.2.2.1) ?_ ?_ ⟨⟨gallopOf st',rfl⟩,o',i',j',_,p,q,rfl,h'.1,h'.2⟩) ?_)
   ·rintro x c st2 _ hx ⟨⟨g2,rfl⟩,o',i',j',g',p,q,rfl,h',hn⟩
    unfold Ax
    dsimp only
    split
    ·exact tG (W.set g2) h' hn (fun r o i j c d z=>⟨⟨_,rfl⟩,z⟩) fun o i j c d z z2=>⟨⟨_,rfl⟩,_,_,_,_,_,_,rfl,z,z2⟩
    ·exact tG (W.set g2) h' hn (fun r o i j c d z=>⟨⟨_,rfl⟩,z⟩) fun o i j c d z z2=>⟨⟨_,rfl⟩,_,_,_,_,_,_,rfl,z,z2⟩
   ·rintro c st2 ⟨hg,o',i',j',g',p,q,rfl,h',hn⟩
    exact⟨hg,h',hn⟩
   ·rintro⟨r,o',i',j',g',p,q⟩ st2 ⟨⟨g2,rfl⟩,h'⟩
    cases r with
    | some r=>exact wpS_pure (q1 r _ _ _ _ g2 h')
    | none=>exact wpS_bind (iO (wpS_pure (q2 _ _ _ _ h'.1 h'.2)))
theorem Bu{st:SortSt}(W:jy ky M A E s kd U a b st){Q:Array Keyed->SortSt->Prop}(sa:bT ky a.toList)(sb:bT ky b.toList)(na:1<=a.size)(nb:1<=b.size)(h1:bJ ky [b[0]] a.toList)
  (h:∀r g,cF ky (a.toList++b.toList) r.toList->Q r (bN st g)):wpS M A E s (xy a b) Q st:=by
 rw[Bv]
 refine wpS_bind (wpS_lift (wpAny_rule ⟨rfl,?_⟩))
 refine wpS_bind (aT (by omega) ?_)
 have m0:bz ky (a.toList++b.toList) (#[]:Array Keyed).toList (a.toList.drop 0) (b.toList.drop 0):=⟨by simp,List.Pairwise.nil,sa,sb,fun x hx=>(by cases hx),fun x hx=>(by cases hx)⟩
 have m1:=sh m0 (by omega) h1
 rw[show(#[]:Array Keyed).push b[0] = #[b[0]]from rfl]at m1
 by_cases e:1=b.size
 ·rw[if_pos (by simpa using e)]
  exact wpS_pure (h _ (gallopOf st) (gy m1 (.inl e)))
 ·rw[if_neg (by simpa using e)]
  by_cases e2:0+1=a.size
  ·rw[if_pos (by simpa using e2)]
   exact wpS_pure (h _ (gallopOf st) (jg m1 e2 W.hz))
  ·rw[if_neg (by simpa using e2)]
   refine wpS_bind (wpS_get ?_)
   refine wpS_bind (wpS_mono (wpS_forRange (I:=fun x c st'=>(∃g2,st'=bN st g2)/\∃o' i' j' g',c=((none,o',i',j',g'):L0)/\At ky (a.toList++b.toList) a b o' i' j'/\x<i'+j')
    (Q:=fun c st'=>(∃g2,st'=bN st g2)/\∃r,c.1=some r/\cF ky (a.toList++b.toList) r.toList) ?_ ?_ ⟨⟨gallopOf st,rfl⟩,_,_,_,_,rfl,⟨m1,by omega,by omega⟩,by omega⟩) ?_)
   ·rintro x c st' _ hx ⟨⟨g2,rfl⟩,o',i',j',g',rfl,h',hn⟩
    exact Bg (W.set g2) h' (fun r _ _ _ _ _ z=>⟨⟨_,rfl⟩,r,rfl,z⟩) fun _ _ _ _ z z2=>⟨⟨_,rfl⟩,_,_,_,_,rfl,z,by omega⟩
   ·rintro c st' ⟨hg,o',i',j',g',rfl,h',hn⟩
    have:=h'.hi
    have:=h'.hj
    omega
   ·rintro⟨r,c2⟩ st' ⟨⟨g2,rfl⟩,r',e3,hr⟩
    cases (show r=some r' from e3)
    exact wpS_pure (h r' g2 hr)
end
end TS
namespace TS
open PySem PyProof.Rows
def xA:Array Keyed->Array Keyed->SM (Array Keyed):=sortPriv% PySem.Builtin.mergeHi
abbrev dO(a b o:Array Keyed)(m n:Nat):Array Keyed:=a.extract 0 m++b.extract 0 n++o.reverse
abbrev jv(a b o:Array Keyed)(m n:Nat):Array Keyed:=b.extract 0 n++a.extract 0 m++o.reverse
theorem zi(a b:Array Keyed):xA a b=(do
 rule "list.sort.merge-hi"
 let mut m:=a.size-1
 let mut n:=b.size
 let mut o:Array Keyed:=#[<- elem' a m]
 if m==0 then return dO a b o m n
 if n==1 then return jv a b o m n
 let mut g:=gallopOf (<- get)
 for _ in [0:a.size+b.size] do
  let mut c:=0
  let mut d:=0
  for _ in [0:a.size+b.size] do
   let some aw <- lt' (<- elem' b (n-1)) (<- elem' a (m-1))|return dO a b o m n
   if aw then
    m:=m-1;o:=o.push (<- elem' a m);c:=c+1;d:=0
    if m==0 then return dO a b o m n
    if c >= g then break
   else
    n:=n-1;o:=o.push (<- elem' b n);d:=d+1;c:=0
    if n==1 then return jv a b o m n
    if d >= g then break
  rule "list.sort.gallop"
  g:=g+1
  for _ in [0:a.size+b.size] do
   if g>1 then g:=g-1
   jr g
   let some p <- fc false (<- elem' b (n-1)) a 0 m (m-1)|return dO a b o m n
   let k:=m-p
   c:=k
   if k>0 then
    o:=o++(a.extract p m).reverse;m:=p
    if m==0 then return dO a b o m n
   n:=n-1;o:=o.push (<- elem' b n)
   if n==1 then return jv a b o m n
   let some p <- fc true (<- elem' a (m-1)) b 0 n (n-1)|return dO a b o m n
   let k:=n-p
   d:=k
   if k>0 then
    o:=o++(b.extract p n).reverse;n:=p
    if n==1 then return jv a b o m n
    if n==0 then return dO a b o m n
   m:=m-1;o:=o.push (<- elem' a m)
   if m==0 then return dO a b o m n
   if c<7&&d<7 then break
  g:=g+1
  jr g
 unsupported "internal:list.sort.merge-bound"):=rfl
abbrev H1:=Option (Array Keyed)×Nat×Nat×Array Keyed×Nat×Nat
abbrev H2:=Option (Array Keyed)×Nat×Nat×Array Keyed×Nat×Nat×Nat
abbrev H0:=Option (Array Keyed)×Nat×Nat×Array Keyed×Nat
def BZ(a b:Array Keyed)(g:Nat)(t:H1):SM (ForInStep H1):=do
 let y <- elem' b (t.2.2.1-1)
 let z <- elem' a (t.2.1-1)
 let x <- lt' y z
 match x with
 | some aw =>
  if aw=true then do
   let y <- elem' a (t.2.1-1)
   if (t.2.1-1==0)=true then pure (.done (some (dO a b (t.2.2.2.1.push y) (t.2.1-1) t.2.2.1),t.2.1-1,t.2.2.1,t.2.2.2.1.push y,t.2.2.2.2.1+1,0))
   else if t.2.2.2.2.1+1 >= g then pure (.done (none,t.2.1-1,t.2.2.1,t.2.2.2.1.push y,t.2.2.2.2.1+1,0))
   else pure (.yield (none,t.2.1-1,t.2.2.1,t.2.2.2.1.push y,t.2.2.2.2.1+1,0))
  else do
   let y <- elem' b (t.2.2.1-1)
   if (t.2.2.1-1==1)=true then pure (.done (some (jv a b (t.2.2.2.1.push y) t.2.1 (t.2.2.1-1)),t.2.1,t.2.2.1-1,t.2.2.2.1.push y,0,t.2.2.2.2.2+1))
   else if t.2.2.2.2.2+1 >= g then pure (.done (none,t.2.1,t.2.2.1-1,t.2.2.2.1.push y,0,t.2.2.2.2.2+1))
   else pure (.yield (none,t.2.1,t.2.2.1-1,t.2.2.2.1.push y,0,t.2.2.2.2.2+1))
 | _=>pure (.done (some (dO a b t.2.2.2.1 t.2.1 t.2.2.1),t.2.1,t.2.2.1,t.2.2.2.1,t.2.2.2.2.1,t.2.2.2.2.2))
def xJ(a b:Array Keyed)(m n:Nat)(o:Array Keyed)(g c d:Nat):SM (ForInStep H2):=do
 let y <- elem' a (m-1)
 if (m-1==0)=true then pure (.done (some (dO a b (o.push y) (m-1) n),m-1,n,o.push y,g,c,d))
 else if (decide (c<7)&&decide (d<7))=true then pure (.done (none,m-1,n,o.push y,g,c,d))
 else pure (.yield (none,m-1,n,o.push y,g,c,d))
def xI(a b:Array Keyed)(m n:Nat)(o:Array Keyed)(g c d:Nat):SM (ForInStep H2):=do
 let y <- elem' b (n-1)
 if (n-1==1)=true then pure (.done (some (jv a b (o.push y) m (n-1)),m,n-1,o.push y,g,c,d))
 else do
  let z <- elem' a (m-1)
  let x <- fc true z b 0 (n-1) (n-1-1)
  match x with
  | some p =>
   if n-1-p>0 then
    if (p==1)=true then pure (.done (some (jv a b (o.push y++(b.extract p (n-1)).reverse) m p),m,p,o.push y++(b.extract p (n-1)).reverse,g,c,n-1-p))
    else if (p==0)=true then pure (.done (some (dO a b (o.push y++(b.extract p (n-1)).reverse) m p),m,p,o.push y++(b.extract p (n-1)).reverse,g,c,n-1-p))
    else xJ a b m p (o.push y++(b.extract p (n-1)).reverse) g c (n-1-p)
   else xJ a b m (n-1) (o.push y) g c (n-1-p)
  | _=>pure (.done (some (dO a b (o.push y) m (n-1)),m,n-1,o.push y,g,c,d))
def xG(a b:Array Keyed)(m n:Nat)(o:Array Keyed)(g c d:Nat):SM (ForInStep H2):=do
 jr g
 let y <- elem' b (n-1)
 let x <- fc false y a 0 m (m-1)
 match x with
 | some p =>
  if m-p>0 then
   if (p==0)=true then pure (.done (some (dO a b (o++(a.extract p m).reverse) p n),p,n,o++(a.extract p m).reverse,g,m-p,d))
   else xI a b p n (o++(a.extract p m).reverse) g (m-p) d
  else xI a b m n o g (m-p) d
 | _=>pure (.done (some (dO a b o m n),m,n,o,g,c,d))
def BW(a b:Array Keyed)(t:H2):SM (ForInStep H2) :=
 if t.2.2.2.2.1>1 then xG a b t.2.1 t.2.2.1 t.2.2.2.1 (t.2.2.2.2.1-1) t.2.2.2.2.2.1 t.2.2.2.2.2.2
 else xG a b t.2.1 t.2.2.1 t.2.2.2.1 t.2.2.2.2.1 t.2.2.2.2.2.1 t.2.2.2.2.2.2
def xH(a b:Array Keyed)(c:H0):SM (ForInStep H0):=do
 let t <- forIn [0:a.size+b.size] ((none,c.2.1,c.2.2.1,c.2.2.2.1,0,0):H1) fun _ t=>BZ a b c.2.2.2.2 t
 match t.1 with
 | some r=>pure (.done (some r,t.2.1,t.2.2.1,t.2.2.2.1,c.2.2.2.2))
 | none=>do
  liftM (rule "list.sort.gallop")
  let u <- forIn [0:a.size+b.size] ((none,t.2.1,t.2.2.1,t.2.2.2.1,c.2.2.2.2+1,t.2.2.2.2.1,t.2.2.2.2.2):H2) fun _ u=>BW a b u
  match u.1 with
  | some r=>pure (.done (some r,u.2.1,u.2.2.1,u.2.2.2.1,u.2.2.2.2.1))
  | none=>do
   jr (u.2.2.2.2.1+1)
   pure (.yield (none,u.2.1,u.2.2.1,u.2.2.2.1,u.2.2.2.2.1+1))
theorem Bx(a b:Array Keyed):xA a b=(do
  liftM (rule "list.sort.merge-hi")
  let y <- elem' a (a.size-1)
  if (a.size-1==0)=true then pure (dO a b #[y] (a.size-1) b.size)
  else if (b.size==1)=true then pure (jv a b #[y] (a.size-1) b.size)
  else do
   let st <- get
   let c <- forIn [0:a.size+b.size] ((none,a.size-1,b.size,#[y],gallopOf st):H0) fun _ c=>xH a b c
   match c.1 with
   | some r=>pure r
   | none=>liftM (unsupported "internal:list.sort.merge-bound" : Sem (Array Keyed))):=by
 rw[zi]
 unfold xH BW
 dsimp only
 congr 1;funext _;congr 1;funext y
 refine ite_congr rfl (fun _=>rfl) fun _=>ite_congr rfl (fun _=>rfl) fun _=>?_
 congr 1;funext st
 congr 1
 ·congr 1
  funext _ c
  congr 1
  funext t
  obtain⟨t1,t2⟩:=t
  cases t1 with
  | some r=>rfl
  | none =>
   dsimp only
   congr 1;funext _
   congr 1
   funext u
   obtain⟨u1,u2⟩:=u
   cases u1<;>rfl
 ·funext c
  obtain⟨c1,c2⟩:=c
  cases c1<;>rfl
def jU(O:KeyOrd):KeyOrd:=⟨O.α,fun x y=>O.blt y x,O.irrefl,fun a b c h1 h2=>O.trans c b a h2 h1,fun a b c h=>(O.negTrans c b a h).symm,fun a b h1 h2=>(O.total b a h1 h2).symm⟩
section
variable{O:KeyOrd}{ky:Keyed->O.α}{M:Model}{A:Around}{E:Value->Shared->Prop}{s:Shared}{U:List Keyed}{kd:SortKind}
abbrev rj(ky:Keyed->O.α):Keyed->(jU O).α:=ky
theorem jG{l:List Keyed}:bT (O:=jU O) (rj ky) l↔bT ky l.reverse:=by
 unfold bT
 rw[List.pairwise_reverse];rfl
theorem fK{l m:List Keyed}:bJ (O:=jU O) (rj ky) l m↔bJ ky m l:=⟨fun h x hx y hy=>h y hy x hx,fun h x hx y hy=>h y hy x hx⟩
abbrev dg(ky:Keyed->O.α)(T:List Keyed)(a b o:Array Keyed)(m n:Nat):Prop:=bz (O:=jU O) (rj ky) T o.toList (a.toList.take m).reverse (b.toList.take n).reverse
variable{T:List Keyed}{a b o:Array Keyed}{m n:Nat}
theorem pk{l:List Keyed}(h:cF (O:=jU O) (rj ky) T l):cF ky T l.reverse:=⟨(List.reverse_perm l).trans h.1,jG.mp h.2⟩
theorem qK(a:Array Keyed)(m:Nat):(a.extract 0 m).toList=a.toList.take m:=by
 rw[Array.toList_extract];simp[List.extract_eq_take_drop]
theorem gx(h:dg ky T a b o m n)(e:m=0\/n=0):cF ky T (dO a b o m n).toList:=by
 have e1:(dO a b o m n).toList=(o.toList++(b.toList.take n).reverse++(a.toList.take m).reverse).reverse:=by
  simp only[Array.toList_append,qK,Array.toList_reverse,List.reverse_append,List.reverse_reverse,List.append_assoc]
 rw[e1]
 refine pk ?_
 rcases e with rfl|rfl
 ·rw[List.take_zero,List.reverse_nil,List.append_nil]
  exact bz.endB (show bz (O:=jU O) (rj ky) T o.toList [] _ from h)
 ·rw[List.take_zero,List.reverse_nil,List.append_nil]
  exact bz.endA (show bz (O:=jU O) (rj ky) T o.toList _ []from h)
theorem jh(h:dg ky T a b o m n)(e:n=1)(hb:1<=b.size)(hz:bJ ky [b[0]] a.toList):cF ky T (jv a b o m n).toList:=by
 have e1:(jv a b o m n).toList=(o.toList++(a.toList.take m).reverse++(b.toList.take n).reverse).reverse:=by
  simp only[Array.toList_append,qK,Array.toList_reverse,List.reverse_append,List.reverse_reverse,List.append_assoc]
 rw[e1]
 refine pk ?_
 subst e
 refine bz.endB (bz.goA (A:=[]) (by rw[List.append_nil];exact h) (fK.mpr fun x hx y hy=>?_))
 have:b.toList.take 1=[b[0]]:=by
  rw[List.take_one,List.head?_eq_getElem?];simp[hb]
 rw[this]at hx
 exact hz x (by simpa using hx) y (List.mem_of_mem_take (List.mem_reverse.mp hy))
theorem qM(h1:1<=m)(h2:m<=a.size):(a.toList.take m).reverse=a[m-1]::(a.toList.take (m-1)).reverse:=by
 obtain⟨k,rfl⟩:∃k,m=k+1:=⟨m-1,by omega⟩
 rw[List.take_succ,List.getElem?_eq_getElem (by rw[Array.length_toList];omega)]
 simp
theorem og{p:Nat}(hp:p<=m):(a.toList.take m).reverse=(a.extract p m).reverse.toList++(a.toList.take p).reverse:=by
 rw[Array.toList_reverse,<- List.reverse_append]
 congr 1
 obtain⟨k,rfl⟩:∃k,m=p+k:=⟨m-p,by omega⟩
 rw[fh,List.take_add]
theorem oF(h:dg ky T a b o m n)(h1:1<=m)(h2:m<=a.size)(hx:bJ ky (b.toList.take n) [a[m-1]]):dg ky T a b (o.push a[m-1]) (m-1) n:=by
 unfold dg
 rw[Array.toList_push]
 unfold dg at h
 rw[qM h1 h2]at h
 exact bz.goA (X:=[a[m-1]]) h (fK.mpr fun x hx' y hy=>hx x (List.mem_reverse.mp hx') y hy)
theorem t8(h:dg ky T a b o m n)(h1:1<=n)(h2:n<=b.size)(hx:bJ ky (a.toList.take m) [b[n-1]]):dg ky T a b (o.push b[n-1]) m (n-1):=by
 unfold dg
 rw[Array.toList_push]
 unfold dg at h
 rw[qM h1 h2]at h
 exact bz.goB (X:=[b[n-1]]) h (fK.mpr fun x hx' y hy=>hx x (List.mem_reverse.mp hx') y hy)
theorem El{p:Nat}(h:dg ky T a b o m n)(hp:p<=m)(hx:bJ ky (b.toList.take n) (a.extract p m).toList):dg ky T a b (o++(a.extract p m).reverse) p n:=by
 unfold dg
 rw[Array.toList_append]
 unfold dg at h
 rw[og hp]at h
 exact bz.goA h (fK.mpr fun x hx' y hy=>hx x (List.mem_reverse.mp hx') y (by rw[Array.toList_reverse]at hy;exact List.mem_reverse.mp hy))
theorem Ek{p:Nat}(h:dg ky T a b o m n)(hp:p<=n)(hx:bJ ky (a.toList.take m) (b.extract p n).toList):dg ky T a b (o++(b.extract p n).reverse) m p:=by
 unfold dg
 rw[Array.toList_append]
 unfold dg at h
 rw[og hp]at h
 exact bz.goB h (fK.mpr fun x hx' y hy=>hx x (List.mem_reverse.mp hx') y (by rw[Array.toList_reverse]at hy;exact List.mem_reverse.mp hy))
theorem vQ(h:bT ky a.toList):bT ky (a.toList.take m):=List.Pairwise.sublist (List.take_sublist _ _) h
theorem i6{x y:Keyed}(hs:bT ky a.toList)(h1:1<=m)(h2:m<=a.size)(hx:x∈a.toList.take m)(hy:O.kle (ky a[m-1]) (ky y)):O.kle (ky x) (ky y):=by
 refine KeyOrd.kle_trans ?_ hy
 obtain⟨i,hi,rfl⟩:=List.mem_iff_getElem.mp hx
 rw[List.length_take,Array.length_toList]at hi
 rw[List.getElem_take]
 rcases Nat.lt_or_ge i (m-1)with z|z
 ·have:=List.pairwise_iff_getElem.mp hs i (m-1) (by rw[Array.length_toList];omega) (by rw[Array.length_toList];omega) z
  simpa using this
 ·have:i=m-1:=by omega
  subst this
  rw[Array.getElem_toList];exact KeyOrd.kle_refl _
theorem xK(hL:Lts ky M A E s kd U){lf:Bool}{ke:Keyed}{st:SortSt}{Q:Option Nat->SortSt->Prop}(hk:kindOf st=kd)(hU:∀x∈a.toList,x∈U)(hke:ke∈U)(hs:bT ky a.toList)(h1:1<=m)(h2:m<=a.size)
  (h:∀p,p<=m->bJ ky (a.toList.take p) [ke]->bJ ky [ke] (a.extract p m).toList->Q (some p) st):wpS M A E s (fc lf ke a 0 m (m-1)) Q st:=by
 refine gv hL hk hU hke (by rw[List.drop_zero];exact vQ hs) (by omega) (by omega) fun k hk2 g1 g2=>?_
 rw[List.drop_zero]at g1 g2
 refine h k hk2 (fun x hx y hy=>?_) fun x hx y hy=>?_
 ·rw[List.mem_singleton]at hy;subst hy
  have:=g1 x (by rw[List.take_take,Nat.min_eq_left hk2];exact hx)
  cases lf with
  | true=>exact r9 this
  | false=>exact kr this
 ·rw[List.mem_singleton]at hx;subst hx
  have e:(a.extract k m).toList=(a.toList.take m).drop k:=by
   obtain⟨q,rfl⟩:∃q,m=k+q:=⟨m-k,by omega⟩
   rw[fh,List.drop_take]
   congr 1;omega
  rw[e]at hy
  have:=g2 y hy
  cases lf with
  | true=>exact ig this
  | false=>exact kq this
structure fT(ky:Keyed->O.α)(T:List Keyed)(a b o:Array Keyed)(m n:Nat):Prop where
 r:dg ky T a b o m n
 m1:1<=m
 m2:m<=a.size
 n1:2<=n
 n2:n<=b.size
structure fZ(ky:Keyed->O.α)(M:Model)(A:Around)(E:Value->Shared->Prop)(s:Shared)(kd:SortKind)(U:List Keyed)(a b:Array Keyed)(st:SortSt):Prop where
 lt:Lts ky M A E s kd U
 ua:∀x∈a.toList,x∈U
 ub:∀x∈b.toList,x∈U
 nb:1<=b.size
 hz:bJ ky [b[0]] a.toList
 sa:bT ky a.toList
 sb:bT ky b.toList
 kd:kindOf st=kd
theorem fZ.set{st:SortSt}(W:fZ ky M A E s kd U a b st)(g:Nat):fZ ky M A E s kd U a b (bN st g):=⟨W.lt,W.ua,W.ub,W.nb,W.hz,W.sa,W.sb,W.kd⟩
abbrev mG(ky:Keyed->O.α)(T:List Keyed)(a b:Array Keyed)(n0:Nat)(r:Option (Array Keyed))(o:Array Keyed)(m n:Nat):Prop :=
 match r with
 | some r=>cF ky T r.toList
 | none=>fT ky T a b o m n/\m+n<n0
theorem uZ{st:SortSt}(W:fZ ky M A E s kd U a b st){g c d n0:Nat}{Q:ForInStep H2->SortSt->Prop}(h:fT ky T a b o m n)(hn:m+n<n0)(hx:bJ ky (b.toList.take n) [a[m-1]'(by have:=h.m1;have:=h.m2;omega)])
  (q1:∀r o m n,mG ky T a b n0 r o m n->Q (.done (r,m,n,o,g,c,d)) st) (q2:∀o m n,fT ky T a b o m n->m+n<n0->Q (.yield (none,m,n,o,g,c,d)) st):wpS M A E s (xJ a b m n o g c d) Q st:=by
 obtain⟨r,m1,m2,n1,n2⟩:=h
 unfold xJ
 refine wpS_bind (aT (by omega) ?_)
 have r2:=oF r m1 m2 hx
 by_cases e:m-1=0
 ·rw[if_pos (by simpa using e)]
  exact wpS_pure (q1 _ _ _ _ (gx r2 (.inl e)))
 ·rw[if_neg (by simpa using e)]
  split
  ·exact wpS_pure (q1 _ _ _ _ ⟨⟨r2,by omega,by omega,n1,n2⟩,by omega⟩)
  ·exact wpS_pure (q2 _ _ _ ⟨r2,by omega,by omega,n1,n2⟩ (by omega))
theorem uV{st:SortSt}(W:fZ ky M A E s kd U a b st){g c d n0:Nat}{Q:ForInStep H2->SortSt->Prop}(h:fT ky T a b o m n)(hn:m+n<=n0)(hx:bJ ky (a.toList.take m) [b[n-1]'(by have:=h.n1;have:=h.n2;omega)])
  (q1:∀r o m n c d,mG ky T a b n0 r o m n->Q (.done (r,m,n,o,g,c,d)) st) (q2:∀o m n c d,fT ky T a b o m n->m+n<n0->Q (.yield (none,m,n,o,g,c,d)) st):wpS M A E s (xI a b m n o g c d) Q st:=by
 obtain⟨r,m1,m2,n1,n2⟩:=h
 unfold xI
 refine wpS_bind (aT (by omega) ?_)
 have r2:=t8 r (by omega) n2 hx
 by_cases e:n-1=1
 ·rw[if_pos (by simpa using e)]
  exact wpS_pure (q1 _ _ _ _ _ _ (jh r2 e W.nb W.hz))
 ·rw[if_neg (by simpa using e)]
  refine wpS_bind (aT (by omega) ?_)
  refine wpS_bind (xK W.lt W.kd W.ub (W.ua _ (eR (by omega))) W.sb (by omega) (by omega) fun p hp h1 h2=>?_)
  dsimp only
  by_cases k0:n-1-p>0
  ·rw[if_pos k0]
   have r3:=Ek r2 hp fun x hx y hy=>i6 W.sa m1 m2 hx (h2 _ (List.mem_singleton.mpr rfl) y hy)
   by_cases e2:p=1
   ·rw[if_pos (by simpa using e2)]
    exact wpS_pure (q1 _ _ _ _ _ _ (jh r3 e2 W.nb W.hz))
   ·rw[if_neg (by simpa using e2)]
    by_cases e3:p=0
    ·rw[if_pos (by simpa using e3)]
     exact wpS_pure (q1 _ _ _ _ _ _ (gx r3 (.inr e3)))
    ·rw[if_neg (by simpa using e3)]
     exact uZ W ⟨r3,m1,m2,by omega,by omega⟩ (by omega) h1 (fun _ _ _ _ z=>q1 _ _ _ _ _ _ z) fun _ _ _ z z2=>q2 _ _ _ _ _ z z2
  ·rw[if_neg k0]
   have:p=n-1:=by omega
   subst this
   exact uZ W ⟨r2,m1,m2,by omega,by omega⟩ (by omega) h1 (fun _ _ _ _ z=>q1 _ _ _ _ _ _ z) fun _ _ _ z z2=>q2 _ _ _ _ _ z z2
theorem uU{st:SortSt}(W:fZ ky M A E s kd U a b st){g c d n0:Nat}{Q:ForInStep H2->SortSt->Prop}(h:fT ky T a b o m n)(hn:m+n<=n0)
  (q1:∀r o m n c d,mG ky T a b n0 r o m n->Q (.done (r,m,n,o,g,c,d)) (bN st g)) (q2:∀o m n c d,fT ky T a b o m n->m+n<n0->Q (.yield (none,m,n,o,g,c,d)) (bN st g)):wpS M A E s (xG a b m n o g c d) Q st:=by
 obtain⟨r,m1,m2,n1,n2⟩:=h
 unfold xG
 refine wpS_bind (iO ?_)
 have W:=W.set g
 refine wpS_bind (aT (by omega) ?_)
 refine wpS_bind (xK W.lt W.kd W.ua (W.ub _ (eR (by omega))) W.sa m1 m2 fun p hp h1 h2=>?_)
 dsimp only
 by_cases k0:m-p>0
 ·rw[if_pos k0]
  have r2:=El r hp fun x hx y hy=>i6 W.sb (by omega) n2 hx (h2 _ (List.mem_singleton.mpr rfl) y hy)
  by_cases e:p=0
  ·rw[if_pos (by simpa using e)]
   exact wpS_pure (q1 _ _ _ _ _ _ (gx r2 (.inl e)))
  ·rw[if_neg (by simpa using e)]
   exact uV W ⟨r2,by omega,by omega,n1,n2⟩ (by omega) h1 q1 q2
 ·rw[if_neg k0]
  have:p=m:=by omega
  subst this
  exact uV W ⟨r,m1,m2,n1,n2⟩ hn h1 q1 q2
theorem BY{st:SortSt}(W:fZ ky M A E s kd U a b st){g c d n0:Nat}{Q:ForInStep H1->SortSt->Prop}(h:fT ky T a b o m n)(hn:m+n<=n0)
  (q1:∀r o m n c d,mG ky T a b n0 r o m n->Q (.done (r,m,n,o,c,d)) st) (q2:∀o m n c d,fT ky T a b o m n->m+n<n0->Q (.yield (none,m,n,o,c,d)) st):wpS M A E s (BZ a b g (none,m,n,o,c,d)) Q st:=by
 obtain⟨r,m1,m2,n1,n2⟩:=h
 unfold BZ
 dsimp only
 refine wpS_bind (aT (by omega) (wpS_bind (aT (by omega) ?_)))
 refine wpS_bind (W.lt _ (W.ub _ (eR (by omega))) _ (W.ua _ (eR (by omega))) st _ W.kd ?_)
 cases e:O.blt (ky b[n-1]) (ky a[m-1])with
 | true =>
  dsimp only
  rw[if_pos rfl]
  refine wpS_bind (aT (by omega) ?_)
  have r2:=oF r m1 m2 fun x hx y hy=>by
   rw[List.mem_singleton]at hy;subst hy
   exact i6 W.sb (by omega) n2 hx (KeyOrd.kle_of_klt e)
  by_cases e2:m-1=0
  ·rw[if_pos (by simpa using e2)]
   exact wpS_pure (q1 _ _ _ _ _ _ (gx r2 (.inl e2)))
  ·rw[if_neg (by simpa using e2)]
   split
   ·exact wpS_pure (q1 _ _ _ _ _ _ ⟨⟨r2,by omega,by omega,n1,n2⟩,by omega⟩)
   ·exact wpS_pure (q2 _ _ _ _ _ ⟨r2,by omega,by omega,n1,n2⟩ (by omega))
 | false =>
  dsimp only
  rw[if_neg (by simp)]
  refine wpS_bind (aT (by omega) ?_)
  have r2:=t8 r (by omega) n2 fun x hx y hy=>by
   rw[List.mem_singleton]at hy;subst hy
   exact i6 W.sa m1 m2 hx e
  by_cases e2:n-1=1
  ·rw[if_pos (by simpa using e2)]
   exact wpS_pure (q1 _ _ _ _ _ _ (jh r2 e2 W.nb W.hz))
  ·rw[if_neg (by simpa using e2)]
   split
   ·exact wpS_pure (q1 _ _ _ _ _ _ ⟨⟨r2,m1,m2,by omega,by omega⟩,by omega⟩)
   ·exact wpS_pure (q2 _ _ _ _ _ ⟨r2,m1,m2,by omega,by omega⟩ (by omega))
theorem BX{st:SortSt}(W:fZ ky M A E s kd U a b st){g:Nat}{Q:ForInStep H0->SortSt->Prop}(h:fT ky T a b o m n)
  (q1:∀r o' i' j' g' g2,cF ky T r.toList->Q (.done (some r,i',j',o',g')) (bN st g2)) (q2:∀o' i' j' g',fT ky T a b o' i' j'->i'+j' < m+n->Q (.yield (none,i',j',o',g')) (bN st g')):wpS M A E s (xH a b (none,m,n,o,g)) Q st:=by
 unfold xH
 dsimp only
 have tot:0<a.size+b.size:=by have:=h.m1;have:=h.m2;omega
 refine wpS_bind (wpS_mono (wpS_forRange (I:=fun x c st'=>st'=st/\∃o' i' j' p q,c=((none,i',j',o',p,q):H1)/\fT ky T a b o' i' j'/\i'+j'+x<=m+n)
  (Q:=fun c st'=>st'=st/\mG ky T a b (m+n) c.1 c.2.2.2.1 c.2.1 c.2.2.1) ?_ ?_ ⟨rfl,o,m,n,0,0,rfl,h,by omega⟩) ?_)
 ·rintro x c st' _ hx ⟨rfl,o',i',j',p,q,rfl,h',hn⟩
  exact BY W (n0:=m+n-x) h' (by omega) (fun r o i j c d z=>⟨rfl,by
   cases r with
   | some r=>exact z
   | none=>exact⟨z.1,Nat.lt_of_lt_of_le z.2 (Nat.sub_le _ _)⟩⟩) fun o i j c d z z2=>⟨rfl,_,_,_,_,_,rfl,z,by omega⟩
 ·rintro c st' ⟨rfl,o',i',j',p,q,rfl,h',hn⟩
  exact⟨rfl,h',show i'+j' < m+n by omega⟩
 ·rintro⟨r,i',j',o',p,q⟩ st' ⟨rfl,h'⟩
  cases r with
  | some r=>exact wpS_pure (q1 r _ _ _ _ (gallopOf st') h')
  | none =>
   dsimp only
   refine wpS_bind (wpS_lift (wpAny_rule ⟨rfl,?_⟩))
   refine wpS_bind (wpS_mono (wpS_forRange (I:=fun x c st2=>(∃g2,st2=bN st' g2)/\∃o' i' j' g' p q,c=((none,i',j',o',g',p,q):H2)/\fT ky T a b o' i' j'/\i'+j' < m+n)
    (Q:=fun c st2=>(∃g2,st2=bN st' g2)/\mG ky T a b (m+n) c.1 c.2.2.2.1 c.2.1 c.2.2.1) ?_ ?_ ⟨⟨gallopOf st',rfl⟩,o',i',j',_,p,q,rfl,h'.1,h'.2⟩) ?_)
   ·rintro x c st2 _ hx ⟨⟨g2,rfl⟩,o',i',j',g',p,q,rfl,h',hn⟩
    unfold BW
    dsimp only
    split
    ·exact uU (W.set g2) h' (Nat.le_of_lt hn) (fun r o i j c d z=>⟨⟨_,rfl⟩,z⟩) fun o i j c d z z2=>⟨⟨_,rfl⟩,_,_,_,_,_,_,rfl,z,z2⟩
    ·exact uU (W.set g2) h' (Nat.le_of_lt hn) (fun r o i j c d z=>⟨⟨_,rfl⟩,z⟩) fun o i j c d z z2=>⟨⟨_,rfl⟩,_,_,_,_,_,_,rfl,z,z2⟩
   ·rintro c st2 ⟨hg,o',i',j',g',p,q,rfl,h',hn⟩
    exact⟨hg,h',hn⟩
   ·rintro⟨r,i',j',o',g',p,q⟩ st2 ⟨⟨g2,rfl⟩,h'⟩
    cases r with
    | some r=>exact wpS_pure (q1 r _ _ _ _ g2 h')
    | none=>exact wpS_bind (iO (wpS_pure (q2 _ _ _ _ h'.1 h'.2)))
theorem Bw{st:SortSt}(W:fZ ky M A E s kd U a b st){Q:Array Keyed->SortSt->Prop}(na:1<=a.size)(h1:bJ ky b.toList [a[a.size-1]])
  (h:∀r g,cF ky (a.toList++b.toList) r.toList->Q r (bN st g)):wpS M A E s (xA a b) Q st:=by
 rw[Bx]
 refine wpS_bind (wpS_lift (wpAny_rule ⟨rfl,?_⟩))
 refine wpS_bind (aT (by omega) ?_)
 have nb:=W.nb
 have ea:a.toList.take a.size=a.toList:=List.take_of_length_le (by rw[Array.length_toList];exact Nat.le_refl _)
 have eb:b.toList.take b.size=b.toList:=List.take_of_length_le (by rw[Array.length_toList];exact Nat.le_refl _)
 have r0:dg ky (a.toList++b.toList) a b #[] a.size b.size:=by
  unfold dg
  rw[ea,eb]
  exact⟨by simpa using (List.reverse_perm a.toList).append (List.reverse_perm b.toList),List.Pairwise.nil,jG.mpr (by rw[List.reverse_reverse];exact W.sa),jG.mpr (by rw[List.reverse_reverse];exact W.sb),fun x hx=>(by cases hx),fun x hx=>(by cases hx)⟩
 have r1:=oF r0 na (Nat.le_refl _) (by rw[eb];exact h1)
 rw[show(#[]:Array Keyed).push a[a.size-1] = #[a[a.size-1]]from rfl]at r1
 by_cases e:a.size-1=0
 ·rw[if_pos (by simpa using e)]
  exact wpS_pure (h _ (gallopOf st) (gx r1 (.inl e)))
 ·rw[if_neg (by simpa using e)]
  by_cases e2:b.size=1
  ·rw[if_pos (by simpa using e2)]
   exact wpS_pure (h _ (gallopOf st) (jh r1 e2 W.nb W.hz))
  ·rw[if_neg (by simpa using e2)]
   refine wpS_bind (wpS_get ?_)
   refine wpS_bind (wpS_mono (wpS_forRange (I:=fun x c st'=>(∃g2,st'=bN st g2)/\∃o' i' j' g',c=((none,i',j',o',g'):H0)/\fT ky (a.toList++b.toList) a b o' i' j'/\i'+j'+x<a.size+b.size)
    (Q:=fun c st'=>(∃g2,st'=bN st g2)/\∃r,c.1=some r/\cF ky (a.toList++b.toList) r.toList) ?_ ?_ ⟨⟨gallopOf st,rfl⟩,_,_,_,_,rfl,⟨r1,by omega,by omega,by omega,Nat.le_refl _⟩,by omega⟩) ?_)
   ·rintro x c st' _ hx ⟨⟨g2,rfl⟩,o',i',j',g',rfl,h',hn⟩
    exact BX (W.set g2) h' (fun r _ _ _ _ _ z=>⟨⟨_,rfl⟩,r,rfl,z⟩) fun _ _ _ _ z z2=>⟨⟨_,rfl⟩,_,_,_,_,rfl,z,by omega⟩
   ·rintro c st' ⟨hg,o',i',j',g',rfl,h',hn⟩
    omega
   ·rintro⟨r,c2⟩ st' ⟨⟨g2,rfl⟩,r',e3,hr⟩
    cases (show r=some r' from e3)
    exact wpS_pure (h r' g2 hr)
end
end TS
namespace TS
open PySem PyProof.Rows
abbrev C1:=Option (Option Nat)×Nat
abbrev C2:=Option (Option Nat)×Nat×Nat
def jq(lo a w:Nat):SM C1 :=
 forIn [a:w] ((none,a):C1) fun _ c=>do
  let x <- ltAt' (lo+c.2) (lo+c.2-1)
  match x with
  | some sm=>if sm=true then pure (.done (none,c.2))else pure (.yield (none,c.2+1))
  | _=>pure (.done (some none,c.2))
def qL(lo n w:Nat):SM (Option Nat):=do
 reverseSlice' lo (lo+n)
 let c <- jq lo n w
 match c.1 with
 | some r=>pure r
 | none=>pure (some c.2)
def sN(lo n w:Nat):SM C2 :=
 forIn [n:w] ((none,n,0):C2) fun _ c=>do
  let x <- ltAt' (lo+c.2.1) (lo+c.2.1-1)
  match x with
  | some sm =>
   if sm=true then
    if c.2.2>0 then do
     reverseSlice' (lo+c.2.1-(c.2.2+1)) (lo+c.2.1)
     pure (.yield (none,c.2.1+1,0))
    else pure (.yield (none,c.2.1+1,0))
   else do
    let y <- ltAt' (lo+c.2.1-1) (lo+c.2.1)
    match y with
    | some lg=>if lg=true then pure (.done (none,c.2.1,c.2.2))else pure (.yield (none,c.2.1+1,c.2.2+1))
    | _=>pure (.done (some none,c.2.1,c.2.2))
  | _=>pure (.done (some none,c.2.1,c.2.2))
def vh(lo n w:Nat):SM (Option Nat):=do
 liftM (rule "list.sort.descending-run")
 let c <- sN lo (n+1) w
 match c.1 with
 | some r=>pure r
 | none =>
  if c.2.2>0 then do
   reverseSlice' (lo+c.2.1-(c.2.2+1)) (lo+c.2.1)
   qL lo c.2.1 w
  else qL lo c.2.1 w
theorem Di{lo n w:Nat}{f:C1->SM (Option Nat)}(h:∀n,f (none,n)=pure (some n))(g:∀r n,f (some r,n)=pure r):(do
  reverseSlice' lo (lo+n)
  let c <- jq lo n w
  f c)=qL lo n w:=by
 unfold qL
 congr 1;funext _;congr 1;funext c
 obtain⟨c1,c2⟩:=c
 cases c1 with
 | some r=>exact g r c2
 | none=>exact h c2
theorem Eh(lo w:Nat):countRun' lo w=(do
    let c <- jq lo 1 w
    match c.1 with
    | some r=>pure r
    | none =>
      if (c.2==w)=true then pure (some c.2)
      else if c.2>1 then do
        let x <- ltAt' lo (lo+c.2-1)
        match x with
        | some ro=>if ro=true then pure (some c.2)else do
            reverseSlice' lo (lo+c.2)
            vh lo c.2 w
        | _=>pure none
      else vh lo c.2 w):=by
  rw[countRun'_eq]
  unfold vh sN jq
  dsimp only
  congr 1
  funext c
  obtain⟨c1,c2⟩:=c
  cases c1 with
  | some r=>rfl
  | none =>
    have dp:∀k:Nat,_:=fun(k:Nat)=>Di (lo:=lo) (n:=k) (w:=w) (f:=fun c=>match c.1 with|some r=>pure r|none=>pure (some c.2)) (fun _=>rfl) fun _ _=>rfl
    dsimp only
    refine ite_congr rfl (fun _=>rfl) fun _=>ite_congr rfl (fun _=>?_) fun _=>?_
    . congr 1
      funext x
      cases x with
      | none=>rfl
      | some ro =>
        dsimp only
        refine ite_congr rfl (fun _=>rfl) fun _=>?_
        congr 1;funext _;congr 1;funext _;congr 1;funext d
        obtain⟨d1,d2,d3⟩:=d
        cases d1 with
        | some r=>rfl
        | none =>
          dsimp only
          refine ite_congr rfl (fun _=>?_) fun _=>?_
          . congr 1;funext _
            rw[<- dp];unfold jq
            congr 1;funext _;congr 1;funext e
            obtain⟨e1,e2⟩:=e
            cases e1<;>rfl
          . rw[<- dp];unfold jq
            congr 1;funext _;congr 1;funext e
            obtain⟨e1,e2⟩:=e
            cases e1<;>rfl
    . congr 1;funext _;congr 1;funext d
      obtain⟨d1,d2,d3⟩:=d
      cases d1 with
      | some r=>rfl
      | none =>
        dsimp only
        refine ite_congr rfl (fun _=>?_) fun _=>?_
        . congr 1;funext _
          rw[<- dp];unfold jq
          congr 1;funext _;congr 1;funext e
          obtain⟨e1,e2⟩:=e
          cases e1<;>rfl
        . rw[<- dp];unfold jq
          congr 1;funext _;congr 1;funext e
          obtain⟨e1,e2⟩:=e
          cases e1<;>rfl
end TS
namespace TS
open PySem PyProof.Rows
section
variable{O:KeyOrd}{ky:Keyed->O.α}{prog:Program}{w:World}{A:Around}{E:Value->Shared->Prop}{s:Shared}{kd:SortKind}{a₀:Array Keyed}{p:Array (Nat×Nat×Nat)}
def kA(ky:Keyed->O.α)(xs:Array Keyed)(i:Nat):O.α:=ky (xs[i]?.getD (.none,.none))
theorem gK{xs ys:Array Keyed}{i j:Nat}(h:xs[i]?=ys[j]?):kA ky xs i=kA ky ys j:=by unfold kA;rw[h]
theorem kA_at{xs:Array Keyed}{i:Nat}(h:i<xs.size):kA ky xs i=ky xs[i]:=by unfold kA;rw[getElem?_pos xs i h];rfl
def Seg(ky:Keyed->O.α)(xs:Array Keyed)(lo hi:Nat):Prop:=∀i j,lo<=i->i<=j->j<hi->O.kle (kA ky xs i) (kA ky xs j)
def j7(ky:Keyed->O.α)(xs:Array Keyed)(lo hi:Nat):Prop:=∀i j,lo<=i->i<=j->j<hi->O.kle (kA ky xs j) (kA ky xs i)
def fS(lo:Nat)(xs ys:Array Keyed):Prop:=∀i,i<lo->xs[i]?=ys[i]?
structure SB(a₀:Array Keyed)(kd:SortKind)(p:Array (Nat×Nat×Nat))(st:SortSt):Prop where
 perm:(arrOf st).Perm a₀
 kind:kindOf st=kd
 failed:failedOf st=none
 pend:pendingOf st=p
theorem SB.size{st:SortSt}(h:SB a₀ kd p st):(arrOf st).size=a₀.size:=h.perm.size_eq
theorem SB.set{st:SortSt}(h:SB a₀ kd p st){xs:Array Keyed}(hp:xs.Perm (arrOf st)):SB a₀ kd p (setArr st xs):=⟨hp.trans h.perm,h.kind,h.failed,h.pend⟩
theorem SB.mem{st:SortSt}(h:SB a₀ kd p st){i:Nat}(hi:i<(arrOf st).size):(arrOf st)[i]∈a₀.toList:=(Array.perm_iff_toList_perm.mp h.perm).mem_iff.mp (Array.getElem_mem_toList hi)
abbrev iL(ky:Keyed->O.α)(prog:Program)(w:World)(A:Around)(E:Value->Shared->Prop)(s:Shared)(kd:SortKind)(a₀:Array Keyed):Prop:=Lts ky (model prog w) A E s kd a₀.toList
theorem kE(hL:iL ky prog w A E s kd a₀){st:SortSt}(hB:SB a₀ kd p st){i j:Nat}{Q:Option Bool->SortSt->Prop}(hi:i<a₀.size)(hj:j<a₀.size)(h:Q (some (O.blt (kA ky (arrOf st) i) (kA ky (arrOf st) j))) st):wpS (model prog w) A E s (ltAt' i j) Q st:=by
 have z:=hB.size
 rw[ltAt'_eq]
 refine wpS_bind (wpS_get (wpS_bind (aT (by omega) (wpS_bind (aT (by omega) ?_)))))
 rw[kA_at (by omega),kA_at (by omega)]at h
 exact hL _ (hB.mem (by omega)) _ (hB.mem (by omega)) st Q hB.kind h
theorem uN{xs:Array Keyed}{src d:Nat}(hs:src<xs.size)(hd:d<=src)(k:Nat):kA ky (bubble xs src d) k=if k=src-d then kA ky xs src else if src-d<k/\k<=src then kA ky xs (k-1)else kA ky xs k:=by
 have e:=getElem?_bubble hs d hd k
 by_cases h1:k=src-d
 ·rw[if_pos h1]at e⊢;exact gK e
 ·rw[if_neg h1]at e⊢
  by_cases h2:src-d<k/\k<=src
  ·rw[if_pos h2]at e⊢;exact gK e
  ·rw[if_neg h2]at e⊢;exact gK e
theorem o4{xs:Array Keyed}{i j:Nat}(hj:j<=xs.size)(k:Nat):kA ky (mirror xs i j ((j-i) / 2)) k=if i<=k/\k<j then kA ky xs (i+j-1-k)else kA ky xs k:=by
 have e:=getElem?_mirror_all (i:=i) hj k
 by_cases h1:i<=k/\k<j
 ·rw[if_pos h1]at e⊢;exact gK e
 ·rw[if_neg h1]at e⊢;exact gK e
theorem cm{xs:Array Keyed}{i j:Nat}(hj:j<=xs.size)(he:∀k,i<=k->k<j->kA ky xs k=kA ky xs (j-1))(k:Nat):kA ky (mirror xs i j ((j-i) / 2)) k=kA ky xs k:=by
 rw[o4 hj]
 split
 ·rw[he _ (by omega) (by omega),he k (by omega) (by omega)]
 ·rfl
theorem iV{xs:Array Keyed}{lo i j:Nat}(hj:j<=xs.size)(hi:lo<=i):fS lo xs (mirror xs i j ((j-i) / 2)):=fun k hk=>by
 rw[getElem?_mirror_all hj,if_neg (by omega)]
theorem yO{xs:Array Keyed}{lo src d:Nat}(hs:src<xs.size)(hd:lo+d<=src):fS lo xs (bubble xs src d):=fun k hk=>by
 rw[getElem?_bubble hs d (by omega),if_neg (by omega),if_neg (by omega)]
theorem fS.trans{lo:Nat}{xs ys zs:Array Keyed}(h1:fS lo xs ys)(h2:fS lo ys zs):fS lo xs zs:=fun i hi=>(h1 i hi).trans (h2 i hi)
theorem vU{xs:Array Keyed}{lo x:Nat}(h:Seg ky xs lo x)(hx:lo<x)(hl:O.kle (kA ky xs (x-1)) (kA ky xs x)):Seg ky xs lo (x+1):=fun i j hi hij hj=>by
 by_cases hjx:j<x
 ·exact h i j hi hij hjx
 ·have:j=x:=by omega
  subst this
  by_cases e:i=j
  ·subst e;exact KeyOrd.kle_refl _
  ·exact KeyOrd.kle_trans (h i (j-1) hi (by omega) (by omega)) hl
theorem fQ{xs:Array Keyed}{lo x:Nat}(h:j7 ky xs lo x)(hx:lo<x)(hl:O.kle (kA ky xs x) (kA ky xs (x-1))):j7 ky xs lo (x+1):=fun i j hi hij hj=>by
 by_cases hjx:j<x
 ·exact h i j hi hij hjx
 ·have:j=x:=by omega
  subst this
  by_cases e:i=j
  ·subst e;exact KeyOrd.kle_refl _
  ·exact KeyOrd.kle_trans hl (h i (j-1) hi (by omega) (by omega))
theorem yr{xs:Array Keyed}{lo:Nat}:Seg ky xs lo (lo+1):=fun i j hi hij hj=>by
 have:i=j:=by omega
 subst this;exact KeyOrd.kle_refl _
theorem wV(hL:iL ky prog w A E s kd a₀){st:SortSt}{lo a n:Nat}{Q:C1->SortSt->Prop}(hn:lo+n<=a₀.size)(ha:1<=a)(han:a<=n)(hB:SB a₀ kd p st)(hs:Seg ky (arrOf st) lo (lo+a))
  (h:∀m,a<=m->m<=n->Seg ky (arrOf st) lo (lo+m)->(m=n\/O.klt (kA ky (arrOf st) (lo+m)) (kA ky (arrOf st) (lo+m-1)))->Q (none,m) st):wpS (model prog w) A E s (jq lo a n) Q st:=by
 unfold jq
 refine wpS_forRange (I:=fun x c st'=>st'=st/\c=(none,x)/\Seg ky (arrOf st) lo (lo+x)) ?_ ?_ ⟨rfl,rfl,hs⟩
 ·rintro x c st' hx hxn ⟨rfl,rfl,hs'⟩
  dsimp only
  refine wpS_bind (kE hL hB (by omega) (by omega) ?_)
  cases e:O.blt (kA ky (arrOf st') (lo+x)) (kA ky (arrOf st') (lo+x-1))with
  | true =>
   dsimp only
   rw[if_pos rfl]
   exact wpS_pure (h x hx (by omega) hs' (.inr e))
  | false =>
   dsimp only
   rw[if_neg (by simp)]
   exact wpS_pure ⟨rfl,rfl,vU (x:=lo+x) hs' (by omega) e⟩
 ·rintro c st' ⟨rfl,rfl,hs'⟩
  rw[show max a n=n by omega]at hs' ⊢
  exact h n han (Nat.le_refl _) hs' (.inl rfl)
theorem wY(hL:iL ky prog w A E s kd a₀){st:SortSt}{lo m n:Nat}{Q:Option Nat->SortSt->Prop}(hn:lo+n<=a₀.size)(h1:1<=m)(hm:m<=n)(hB:SB a₀ kd p st)(hs:j7 ky (arrOf st) lo (lo+m))
  (h:∀k st',SB a₀ kd p st'->fS lo (arrOf st) (arrOf st')->1<=k->k<=n->Seg ky (arrOf st') lo (lo+k)->Q (some k) st'):wpS (model prog w) A E s (qL lo m n) Q st:=by
 unfold qL
 have hz:lo+m<=(arrOf st).size:=by rw[hB.size];omega
 refine wpS_bind (wpS_reverse ?_)
 have hB':=hB.set (mirror_perm (arrOf st) lo (lo+m) ((lo+m-lo) / 2))
 refine wpS_bind (wV hL hn h1 hm hB' (fun i j hi hij hj=>?_) fun k hk1 hk2 hsk _=>wpS_pure (h k _ hB' (iV hz (Nat.le_refl _)) (by omega) hk2 hsk))
 show O.kle (kA ky (mirror (arrOf st) lo (lo+m) ((lo+m-lo) / 2)) i) (kA ky (mirror (arrOf st) lo (lo+m) ((lo+m-lo) / 2)) j)
 rw[o4 hz,o4 hz,if_pos (by omega),if_pos (by omega)]
 exact hs _ _ (by omega) (by omega) (by omega)
theorem Ec(hL:iL ky prog w A E s kd a₀){st:SortSt}{lo m n:Nat}{Q:C2->SortSt->Prop}(hn:lo+n<=a₀.size)(h1:1<=m)(hm:m<=n)(hB:SB a₀ kd p st)(hs:j7 ky (arrOf st) lo (lo+m))
  (h:∀k e st',SB a₀ kd p st'->fS lo (arrOf st) (arrOf st')->m<=k->k<=n->j7 ky (arrOf st') lo (lo+k)->e+1<=k->(∀i,lo+k-(e+1)<=i->i<lo+k->kA ky (arrOf st') i=kA ky (arrOf st') (lo+k-1))->Q (none,k,e) st'):wpS (model prog w) A E s (sN lo m n) Q st:=by
 unfold sN
 refine wpS_forRange (I:=fun x c st' => ∃e,c=(none,x,e)/\SB a₀ kd p st'/\fS lo (arrOf st) (arrOf st')/\j7 ky (arrOf st') lo (lo+x)/\e+1<=x/\(∀i,lo+x-(e+1)<=i->i<lo+x->kA ky (arrOf st') i=kA ky (arrOf st') (lo+x-1))) ?_ ?_
  ⟨0,rfl,hB,fun _ _=>rfl,hs,by omega,fun i h1 h2=>by congr 1;omega⟩
 ·rintro x c st' hx hxn ⟨e,rfl,hB',hp,hs',hq,he⟩
  dsimp only
  have hz:lo+x<=(arrOf st').size:=by rw[hB'.size];omega
  refine wpS_bind (kE hL hB' (by omega) (by omega) ?_)
  cases hl:O.blt (kA ky (arrOf st') (lo+x)) (kA ky (arrOf st') (lo+x-1))with
  | true =>
   dsimp only
   rw[if_pos rfl]
   have s1:=fQ hs' (by omega) (KeyOrd.kle_of_klt hl)
   by_cases e0:e>0
   ·rw[if_pos e0]
    refine wpS_bind (wpS_reverse (wpS_pure ⟨0,rfl,hB'.set (mirror_perm _ _ _ _),hp.trans (iV hz (by omega)),fun i j hi hij hj=>?_,by omega,fun i h1 h2=>by congr 1;omega⟩))
    show O.kle (kA ky (mirror (arrOf st') _ _ _) j) (kA ky (mirror (arrOf st') _ _ _) i)
    rw[cm hz he,cm hz he]
    exact s1 i j hi hij hj
   ·rw[if_neg e0]
    exact wpS_pure ⟨0,rfl,hB',hp,s1,by omega,fun i h1 h2=>by congr 1;omega⟩
  | false =>
   dsimp only
   rw[if_neg (by simp)]
   refine wpS_bind (kE hL hB' (by omega) (by omega) ?_)
   cases hg:O.blt (kA ky (arrOf st') (lo+x-1)) (kA ky (arrOf st') (lo+x))with
   | true =>
    dsimp only
    rw[if_pos rfl]
    exact wpS_pure (h x e st' hB' hp hx (by omega) hs' hq he)
   | false =>
    dsimp only
    rw[if_neg (by simp)]
    have hx':kA ky (arrOf st') (lo+x)=kA ky (arrOf st') (lo+x-1):=KeyOrd.kle_antisymm hg hl
    refine wpS_pure ⟨e+1,rfl,hB',hp,fQ (x:=lo+x) hs' (by omega) hg,by omega,fun i h1 h2=>?_⟩
    rw[show lo+(x+1)-1=lo+x by omega]
    by_cases hix:i=lo+x
    ·subst hix;rfl
    ·rw[hx'];exact he i (by omega) (by omega)
 ·rintro c st' ⟨e,rfl,hB',hp,hs',hq,he⟩
  rw[show max m n=n by omega]at hs' hq he⊢
  exact h n e st' hB' hp hm (Nat.le_refl _) hs' hq he
theorem xV(hL:iL ky prog w A E s kd a₀){st:SortSt}{lo m n:Nat}{Q:Option Nat->SortSt->Prop}(hn:lo+n<=a₀.size)(hm:m+1<=n)(hB:SB a₀ kd p st)(hs:j7 ky (arrOf st) lo (lo+(m+1)))
  (h:∀k st',SB a₀ kd p st'->fS lo (arrOf st) (arrOf st')->1<=k->k<=n->Seg ky (arrOf st') lo (lo+k)->Q (some k) st'):wpS (model prog w) A E s (vh lo m n) Q st:=by
 unfold vh
 refine wpS_bind (wpS_lift (wpAny_rule ⟨rfl,?_⟩))
 refine wpS_bind (Ec hL hn (by omega) hm hB hs fun k e st' hB' hp hk1 hk2 hs' hq he=>?_)
 dsimp only
 have hz:lo+k<=(arrOf st').size:=by rw[hB'.size];omega
 by_cases e0:e>0
 ·rw[if_pos e0]
  refine wpS_bind (wpS_reverse (wY hL hn (by omega) hk2 (hB'.set (mirror_perm _ _ _ _)) (fun i j hi hij hj=>?_) fun k st2 b1 b2 b3 b4 b5=>h k st2 b1 ((hp.trans (iV hz (by omega))).trans b2) b3 b4 b5))
  show O.kle (kA ky (mirror (arrOf st') _ _ _) j) (kA ky (mirror (arrOf st') _ _ _) i)
  rw[cm hz he,cm hz he]
  exact hs' i j hi hij hj
 ·rw[if_neg e0]
  exact wY hL hn (by omega) hk2 hB' hs' fun k st2 b1 b2 b3 b4 b5=>h k st2 b1 (hp.trans b2) b3 b4 b5
theorem Eg(hL:iL ky prog w A E s kd a₀){st:SortSt}{lo n:Nat}{Q:Option Nat->SortSt->Prop}(hn:lo+n<=a₀.size)(h1:1<=n)(hB:SB a₀ kd p st)
  (h:∀k st',SB a₀ kd p st'->fS lo (arrOf st) (arrOf st')->1<=k->k<=n->Seg ky (arrOf st') lo (lo+k)->Q (some k) st'):wpS (model prog w) A E s (countRun' lo n) Q st:=by
 rw[Eh]
 refine wpS_bind (wV hL hn (Nat.le_refl 1) h1 hB yr fun m hm1 hm2 hsm hor=>?_)
 dsimp only
 by_cases hmn:m=n
 ·rw[if_pos (by simpa using hmn)]
  exact wpS_pure (h m st hB (fun _ _=>rfl) hm1 hm2 hsm)
 ·rw[if_neg (by simpa using hmn)]
  have hlt:O.klt (kA ky (arrOf st) (lo+m)) (kA ky (arrOf st) (lo+m-1)):=hor.resolve_left hmn
  by_cases hgt:m>1
  ·rw[if_pos hgt]
   refine wpS_bind (kE hL hB (by omega) (by omega) ?_)
   cases hr:O.blt (kA ky (arrOf st) lo) (kA ky (arrOf st) (lo+m-1))with
   | true =>
    dsimp only
    rw[if_pos rfl]
    exact wpS_pure (h m st hB (fun _ _=>rfl) hm1 hm2 hsm)
   | false =>
    dsimp only
    rw[if_neg (by simp)]
    have hz:lo+m<=(arrOf st).size:=by rw[hB.size];omega
    have hall:∀k,lo<=k->k<lo+m->kA ky (arrOf st) k=kA ky (arrOf st) (lo+m-1):=fun k hk0 hk=>by
     have a1:=hsm lo k (Nat.le_refl _) hk0 hk
     have a2:=hsm k (lo+m-1) hk0 (by omega) (by omega)
     exact KeyOrd.kle_antisymm a2 (KeyOrd.kle_trans hr a1)
    refine wpS_bind (wpS_reverse (xV hL hn (by omega) (hB.set (mirror_perm _ _ _ _)) (fQ (x:=lo+m) (fun i j hi hij hj=>?_) (by omega) ?_) fun k st2 b1 b2 b3 b4 b5=>h k st2 b1 ((iV hz (Nat.le_refl _)).trans b2) b3 b4 b5))
    ·show O.kle (kA ky (mirror (arrOf st) _ _ _) j) (kA ky (mirror (arrOf st) _ _ _) i)
     rw[cm hz hall,cm hz hall,hall i hi (by omega),hall j (by omega) hj]
     exact KeyOrd.kle_refl _
    ·show O.kle (kA ky (mirror (arrOf st) _ _ _) _) (kA ky (mirror (arrOf st) _ _ _) _)
     rw[cm hz hall,cm hz hall]
     exact KeyOrd.kle_of_klt hlt
  ·rw[if_neg hgt]
   have:m=1:=by omega
   subst this
   exact xV hL hn (by omega) hB (fQ (x:=lo+1) (fun i j hi hij hj=>by
    have:i=j:=by omega
    subst this;exact KeyOrd.kle_refl _) (by omega) (KeyOrd.kle_of_klt hlt)) h
theorem Ej(hL:iL ky prog w A E s kd a₀){st:SortSt}{lo n ok:Nat}{Q:Bool->SortSt->Prop}(hn:lo+n<=a₀.size)(hok:ok<=n)(hB:SB a₀ kd p st)(hs:Seg ky (arrOf st) lo (lo+ok))
  (h:∀st',SB a₀ kd p st'->fS lo (arrOf st) (arrOf st')->Seg ky (arrOf st') lo (lo+n)->Q true st'):wpS (model prog w) A E s (binarySort' lo n ok) Q st:=by
 rw[binarySort'_eq]
 refine wpS_bind (wpS_mono (wpS_forRange (I:=fun k c st'=>c=(none,())/\SB a₀ kd p st'/\fS lo (arrOf st) (arrOf st')/\Seg ky (arrOf st') lo (lo+min k n))
  (Q:=fun c st'=>c=(none,())/\SB a₀ kd p st'/\fS lo (arrOf st) (arrOf st')/\Seg ky (arrOf st') lo (lo+n)) ?_ ?_ ⟨rfl,hB,fun _ _=>rfl,fun i j hi hij hj=>?_⟩) ?_)
 ·rintro k c st' hak hkn ⟨rfl,hB',hp,hs'⟩
  rw[show min k n=k by omega]at hs'
  have hk:lo+k<a₀.size:=by omega
  refine wpS_bind (wpS_mono (wpS_forRange (I:=fun x c st2=>st2=st'/\∃l r,c=(none,l,r)/\l<=r/\r<=k/\r-l<=k-x/\(∀i,i<l->O.kle (kA ky (arrOf st') (lo+i)) (kA ky (arrOf st') (lo+k)))/\(∀i,r<=i->i<k->O.klt (kA ky (arrOf st') (lo+k)) (kA ky (arrOf st') (lo+i))))
   (Q:=fun c st2=>st2=st'/\∃l r,c=(none,l,r)/\l<=k/\(∀i,i<l->O.kle (kA ky (arrOf st') (lo+i)) (kA ky (arrOf st') (lo+k)))/\(∀i,l<=i->i<k->O.klt (kA ky (arrOf st') (lo+k)) (kA ky (arrOf st') (lo+i)))) ?_ ?_ ?_) ?_)
  ·rintro x c st2 _ hxk ⟨rfl,l,r,rfl,hlr,hrk,hm,hlo,hhi⟩
   dsimp only
   by_cases hge:l >= r
   ·rw[if_pos hge]
    have:l=r:=by omega
    subst this
    exact wpS_pure ⟨rfl,l,l,rfl,hrk,hlo,hhi⟩
   ·rw[if_neg hge]
    refine wpS_bind (kE hL hB' hk (by omega) ?_)
    cases hl:O.blt (kA ky (arrOf st2) (lo+k)) (kA ky (arrOf st2) (lo+(l+r) / 2))with
    | true =>
     dsimp only
     rw[if_pos rfl]
     exact wpS_pure ⟨rfl,l,(l+r) / 2,rfl,by omega,by omega,by omega,hlo,fun i g1 g2=>KeyOrd.klt_of_klt_of_kle hl (hs' _ _ (by omega) (by omega) (by omega))⟩
    | false =>
     dsimp only
     rw[if_neg (by simp)]
     exact wpS_pure ⟨rfl,(l+r) / 2+1,r,rfl,by omega,by omega,by omega,fun i g1=>KeyOrd.kle_trans (hs' (lo+i) (lo+(l+r) / 2) (by omega) (by omega) (by omega)) hl,hhi⟩
  ·rintro c st2 ⟨rfl,l,r,rfl,hlr,hrk,hm,hlo,hhi⟩
   have:l=r:=by omega
   subst this
   exact⟨rfl,l,l,rfl,hrk,hlo,hhi⟩
  ·exact⟨rfl,0,k,rfl,by omega,by omega,by omega,fun i hi=>by omega,fun i g1 g2=>by omega⟩
  ·rintro c st2 ⟨rfl,l,r,rfl,hlk,hlo,hhi⟩
   have hks:lo+k<(arrOf st2).size:=by rw[hB'.size];exact hk
   dsimp only
   rw[moveDown'_eq]
   refine wpS_bind (wpS_modify (wpS_pure ⟨rfl,hB'.set (bubble_perm _ _ _),hp.trans (yO hks (by omega)),?_⟩))
   rw[show min (k+1) n=k+1 by omega]
   intro i j hi hij hj
   show O.kle (kA ky (bubble (arrOf st2) (lo+k) (lo+k-(lo+l))) i) (kA ky (bubble (arrOf st2) (lo+k) (lo+k-(lo+l))) j)
   rw[uN hks (by omega),uN hks (by omega),show lo+k-(lo+k-(lo+l))=lo+l by omega]
   have q1:∀i,lo<=i->i<lo+l->O.kle (kA ky (arrOf st2) i) (kA ky (arrOf st2) (lo+k)):=fun i g1 g2=>by
    have:=hlo (i-lo) (by omega)
    rwa [show lo+(i-lo)=i by omega]at this
   have q2:∀i,lo+l<=i->i<lo+k->O.klt (kA ky (arrOf st2) (lo+k)) (kA ky (arrOf st2) i):=fun i g1 g2=>by
    have:=hhi (i-lo) (by omega) (by omega)
    rwa [show lo+(i-lo)=i by omega]at this
   repeat' split
   all_goals first
    | (exfalso;omega)
    | exact KeyOrd.kle_refl _
    | exact q1 _ (by omega) (by omega)
    | exact KeyOrd.kle_of_klt (q2 _ (by omega) (by omega))
    | exact hs' _ _ (by omega) (by omega) (by omega)
 ·rintro c st' ⟨hc,hB',hp,hs'⟩
  rw[show min (max (max ok 1) n) n=n by omega]at hs'
  exact⟨hc,hB',hp,hs'⟩
 ·by_cases h1:ok=0
  ·have:i=j:=by omega
   subst this;exact KeyOrd.kle_refl _
  ·exact hs i j hi hij (by omega)
 ·rintro c st' ⟨rfl,hB',hp,hs'⟩
  exact wpS_pure (h st' hB' hp hs')
end
end TS
namespace TS
open PySem PyProof.Rows
def jM(xs:Array Keyed)(c:Nat)(r:Array Keyed):Array Keyed:=r.toList.zipIdx.foldl (fun a (q,j)=>a.setIfInBounds (c+j) q) xs
abbrev jJ(st:SortSt)(p:Array (Nat×Nat×Nat)):SortSt:=SortSt.mk' (kindOf st) (arrOf st) p (gallopOf st) (failedOf st)
theorem Bz(i:Nat):mergeAt' i=(do
 let st <- get
 let (some (sa,na,pw),some (sb,nb,_)):=((pendingOf st)[i]?,(pendingOf st)[i+1]?)|unsupported "internal:list.sort.pending"
 set (jJ st (((pendingOf st).setIfInBounds i (sa,na+nb,pw)).eraseIdxIfInBounds (i+1)))
 let some k <- fc false (<- elem' (arrOf st) sb) (arrOf st) sa na 0|return false
 let (sa,na):=(sa+k,na-k)
 if na==0 then return true
 let some nb <- fc true (<- elem' (arrOf st) (sa+na-1)) (arrOf st) sb nb (nb-1)|return false
 if nb==0 then return true
 let r <- if na<=nb then xy ((arrOf st).extract sa sb) ((arrOf st).extract sb (sb+nb))else xA ((arrOf st).extract sa sb) ((arrOf st).extract sb (sb+nb))
 modify fun st=>setArr st (jM (arrOf st) sa r)
 return (failedOf (<- get)).isNone):=rfl
theorem pi(c:Nat):∀(l:List Keyed) (n:Nat) (xs:Array Keyed),c+n+l.length<=xs.size->((l.zipIdx n).foldl (fun a (q,j)=>a.setIfInBounds (c+j) q) xs).toList=xs.toList.take (c+n)++l++xs.toList.drop (c+n+l.length)
 | [],n,xs,h=>by simp
 | x::l,n,xs,h=>by
  rw[List.length_cons]at h
  rw[List.zipIdx_cons,List.foldl_cons,pi c l (n+1) _ (by rw[Array.size_setIfInBounds];omega),Array.toList_setIfInBounds,List.length_cons]
  have h1:c+n<xs.toList.length:=by rw[Array.length_toList];omega
  rw[show c+(n+1)=c+n+1 by omega,show c+n+(l.length+1)=c+n+1+l.length by omega]
  rw[List.drop_set_of_lt (by omega),List.take_set,List.take_succ,List.getElem?_eq_getElem h1]
  have e:(xs.toList.take (c+n)++(some xs.toList[c+n]).toList).set (c+n) x=xs.toList.take (c+n)++[x]:=by
   rw[List.set_append_right _ _ (by rw[List.length_take];omega),List.length_take,Nat.min_eq_left (by omega),Nat.sub_self];rfl
  rw[e]
  simp
theorem t7{xs r:Array Keyed}{c:Nat}(h:c+r.size<=xs.size):(jM xs c r).toList=xs.toList.take c++r.toList++xs.toList.drop (c+r.size):=by
 have:=pi c r.toList 0 xs (by rw[Array.length_toList];omega)
 rw[Array.length_toList]at this
 exact this
section
variable{O:KeyOrd}{ky:Keyed->O.α}
theorem iR{xs:Array Keyed}{lo n:Nat}(h:lo+n<=xs.size):Seg ky xs lo (lo+n)↔bT ky ((xs.toList.drop lo).take n):=by
 have ln:((xs.toList.drop lo).take n).length=n:=by rw[List.length_take,List.length_drop,Array.length_toList];omega
 unfold bT
 rw[List.pairwise_iff_getElem]
 constructor
 ·intro hs i j hi hj hij
  rw[ln]at hi hj
  have:=hs (lo+i) (lo+j) (by omega) (by omega) (by omega)
  rw[kA_at (by omega),kA_at (by omega)]at this
  simpa using this
 ·intro hs i j hi hij hj
  rw[kA_at (by omega),kA_at (by omega)]
  rcases Nat.lt_or_ge i j with z|z
  ·have:=hs (i-lo) (j-lo) (by rw[ln];omega) (by rw[ln];omega) (by omega)
   simp only[List.getElem_take,List.getElem_drop,Array.getElem_toList]at this
   have e1:lo+(i-lo)=i:=by omega
   have e2:lo+(j-lo)=j:=by omega
   simpa only[e1,e2]using this
  ·have:i=j:=by omega
   subst this;exact KeyOrd.kle_refl _
variable{prog:Program}{w:World}{A:Around}{E:Value->Shared->Prop}{s:Shared}{kd:SortKind}{a₀:Array Keyed}{p:Array (Nat×Nat×Nat)}
theorem ye{M:Model}{σ:Type}{x:σ}{Q:PUnit->σ->Prop}{st:σ}(h:Q ⟨⟩ x):wpS M A E s (set x:StateT σ Sem PUnit) Q st:=by
 unfold wpS;exact wpAny_pure ⟨rfl,h⟩
theorem mP{α:Type}(l:List α)(a m n:Nat):(l.drop a).take (m+n)=(l.drop a).take m++(l.drop (a+m)).take n:=by
 rw[List.take_add,List.drop_drop]
theorem By(hL:iL ky prog w A E s kd a₀){st:SortSt}(hB:SB a₀ kd p st){i sa na nb pw pw2:Nat}{Q:Bool->SortSt->Prop}(e1:p[i]?=some (sa,na,pw))(e2:p[i+1]?=some (sa+na,nb,pw2))(n1:1<=na)(n2:1<=nb)(hz:sa+na+nb<=a₀.size)
    (s1:Seg ky (arrOf st) sa (sa+na)) (s2:Seg ky (arrOf st) (sa+na) (sa+na+nb))
    (h:∀st',SB a₀ kd ((p.setIfInBounds i (sa,na+nb,pw)).eraseIdxIfInBounds (i+1)) st'->(∀t,t<sa\/sa+na+nb<=t->(arrOf st')[t]?=(arrOf st)[t]?)->Seg ky (arrOf st') sa (sa+na+nb)->Q true st'):wpS (model prog w) A E s (mergeAt' i) Q st:=by
  have sz:=hB.size
  have hU:∀x∈(arrOf st).toList,x∈a₀.toList:=fun x hx=>(Array.perm_iff_toList_perm.mp hB.perm).mem_iff.mp hx
  have hf:=hB.failed
  rw[Bz]
  refine wpS_bind (wpS_get ?_)
  rw[hB.pend,e1,e2]
  dsimp only
  refine wpS_bind (ye ?_)
  have hB2:SB a₀ kd ((p.setIfInBounds i (sa,na+nb,pw)).eraseIdxIfInBounds (i+1)) (jJ st ((p.setIfInBounds i (sa,na+nb,pw)).eraseIdxIfInBounds (i+1))):=⟨hB.perm,hB.kind,hf,rfl⟩
  generalize (p.setIfInBounds i (sa,na+nb,pw)).eraseIdxIfInBounds (i+1)=p' at *
  obtain⟨X0,hX⟩:∃X0,arrOf st=X0:=⟨_,rfl⟩
  have kk:kindOf (jJ st p')=kd:=hB.kind
  rw[hX]at s1 s2 sz hU
  have S1:=(iR (ky:=ky) (xs:=X0) (lo:=sa) (n:=na) (by omega)).mp s1
  have S2:=(iR (ky:=ky) (xs:=X0) (lo:=sa+na) (n:=nb) (by omega)).mp s2
  have hy0:X0[sa+na]'(by omega)∈(X0.toList.drop (sa+na)).take nb:=by
    rw[fk (by omega)]
    obtain⟨k,rfl⟩:∃k,nb=k+1:=⟨nb-1,by omega⟩
    rw[List.take_succ_cons];exact List.mem_cons_self
  have y0S2:∀y∈(X0.toList.drop (sa+na)).take nb,O.kle (ky (X0[sa+na]'(by omega))) (ky y):=fun y hy=>by
    rw[fk (by omega)]at S2 hy
    obtain⟨k,rfl⟩:∃k,nb=k+1:=⟨nb-1,by omega⟩
    rw[List.take_succ_cons]at S2 hy
    exact tQ S2 _ (List.mem_singleton.mpr rfl) y hy
  have S1z:∀x∈(X0.toList.drop sa).take na,O.kle (ky x) (ky (X0[sa+na-1]'(by omega))):=fun x hx=>by
    obtain⟨j,hj,rfl⟩:=List.mem_iff_getElem.mp hx
    rw[List.length_take,List.length_drop,Array.length_toList]at hj
    have:=s1 (sa+j) (sa+na-1) (by omega) (by omega) (by omega)
    rw[kA_at (by omega),kA_at (by omega)]at this
    simpa using this
  rw[hX]
  have plain:bT ky ((X0.toList.drop sa).take na++(X0.toList.drop (sa+na)).take nb)->wpS (model prog w) A E s (pure true:SM Bool) Q (jJ st p'):=fun hs=>wpS_pure (h _ hB2 (fun t _=>rfl) (by
    show Seg ky (arrOf st) sa (sa+na+nb)
    rw[hX,Nat.add_assoc]
    exact(iR (by omega)).mpr (by rw[mP];exact hs)))
  refine wpS_bind (aT (by omega) ?_)
  refine wpS_bind (gv hL kk hU (hU _ (Array.getElem_mem_toList _)) S1 (by omega) (by omega) fun k hk g1 g2=>?_)
  dsimp only
  by_cases k0:na-k=0
  . rw[if_pos (by simpa using k0)]
    have:k=na:=by omega
    subst this
    refine plain (cf.mpr ⟨S1,S2,fun x hx y hy=>KeyOrd.kle_trans (kr (g1 x ?_)) (y0S2 y hy)⟩)
    rw[List.take_take,Nat.min_self];exact hx
  . rw[if_neg (by simpa using k0)]
    refine wpS_bind (aT (by omega) ?_)
    have ez:sa+k+(na-k)-1=sa+na-1:=by omega
    refine wpS_bind (gv hL kk hU (hU _ (Array.getElem_mem_toList _)) S2 (by omega) (by omega) fun q hq f1 f2=>?_)
    simp only[ez]at f1 f2
    dsimp only
    by_cases q0:q=0
    . rw[if_pos (by simpa using q0)]
      subst q0
      exact plain (cf.mpr ⟨S1,S2,fun x hx y hy=>KeyOrd.kle_trans (S1z x hx) (ig (f2 y hy))⟩)
    . rw[if_neg (by simpa using q0)]
      have eX:(X0.extract (sa+k) (sa+na)).toList=((X0.toList.drop sa).take na).drop k:=by
        have:=fh X0 (sa+k) (na-k)
        rw[show sa+k+(na-k)=sa+na by omega]at this
        rw[this,List.drop_take,List.drop_drop]
      have eY:(X0.extract (sa+na) (sa+na+q)).toList=((X0.toList.drop (sa+na)).take nb).take q:=by
        rw[fh,List.take_take,Nat.min_eq_left hq]
      have zX:(X0.extract (sa+k) (sa+na)).size=na-k:=by rw[Array.size_extract];omega
      have zY:(X0.extract (sa+na) (sa+na+q)).size=q:=by rw[Array.size_extract];omega
      have sX:bT ky (X0.extract (sa+k) (sa+na)).toList:=by rw[eX];exact List.Pairwise.sublist (List.drop_sublist _ _) S1
      have sY:bT ky (X0.extract (sa+na) (sa+na+q)).toList:=by rw[eY];exact List.Pairwise.sublist (List.take_sublist _ _) S2
      have uX:∀x∈(X0.extract (sa+k) (sa+na)).toList,x∈a₀.toList:=fun x hx=>hU x (by rw[eX]at hx;exact List.mem_of_mem_drop (List.mem_of_mem_take (List.mem_of_mem_drop hx)))
      have uY:∀x∈(X0.extract (sa+na) (sa+na+q)).toList,x∈a₀.toList:=fun x hx=>hU x (by rw[eY]at hx;exact List.mem_of_mem_drop (List.mem_of_mem_take (List.mem_of_mem_take hx)))
      have hy:(X0.extract (sa+na) (sa+na+q))[0]'(by omega)=X0[sa+na]'(by omega):=by simp
      have b1:bJ ky [(X0.extract (sa+na) (sa+na+q))[0]'(by omega)] (X0.extract (sa+k) (sa+na)).toList:=fun x hx y hy'=>by
        rw[List.mem_singleton]at hx
        subst hx
        rw[hy]
        rw[eX]at hy'
        exact kq (g2 y hy')
      have hx:(X0.extract (sa+k) (sa+na))[(X0.extract (sa+k) (sa+na)).size-1]'(by omega)=X0[sa+na-1]'(by omega):=by
        simp only[Array.getElem_extract]
        congr 1
        rw[zX];omega
      have b2:bJ ky (X0.extract (sa+na) (sa+na+q)).toList [(X0.extract (sa+k) (sa+na))[(X0.extract (sa+k) (sa+na)).size-1]'(by omega)]:=fun x hx' y hy'=>by
        rw[List.mem_singleton]at hy'
        subst hy'
        rw[hx]
        rw[eY]at hx'
        exact r9 (f1 x hx')
      have fin:∀r g,cF ky ((X0.extract (sa+k) (sa+na)).toList++(X0.extract (sa+na) (sa+na+q)).toList) r.toList->wpS (model prog w) A E s (do
          modify fun st=>setArr st (jM (arrOf st) (sa+k) r)
          let st <- get
          pure (failedOf st).isNone) Q (bN (jJ st p') g):=by
        rintro r g ⟨rp,rs⟩
        have zr:r.size=na-k+q:=by
          have:=rp.length_eq
          rw[List.length_append,Array.length_toList,Array.length_toList,Array.length_toList,zX,zY]at this
          exact this
        refine wpS_bind (wpS_modify (wpS_bind (wpS_get (wpS_pure ?_))))
        show Q (failedOf st).isNone _
        rw[hf]
        have eT:X0.toList.take (sa+k)=X0.toList.take sa++((X0.toList.drop sa).take na).take k:=by
          rw[List.take_add,List.take_take,Nat.min_eq_left hk]
        have eD:X0.toList.drop (sa+k+r.size)=((X0.toList.drop (sa+na)).take nb).drop q++X0.toList.drop (sa+na+nb):=by
          rw[zr,show sa+k+(na-k+q)=sa+na+q by omega,List.drop_take]
          obtain⟨u,rfl⟩:∃u,nb=q+u:=⟨nb-q,by omega⟩
          rw[show q+u-q=u by omega,List.drop_drop,show sa+na+(q+u)=sa+na+q+u by omega,<- List.drop_drop (i:=u),List.take_append_drop]
        have eN:(jM X0 (sa+k) r).toList=X0.toList.take sa++(((X0.toList.drop sa).take na).take k++r.toList++((X0.toList.drop (sa+na)).take nb).drop q)++X0.toList.drop (sa+na+nb):=by
          rw[t7 (by omega),eT,eD]
          simp only[List.append_assoc]
        have eO:X0.toList=X0.toList.take sa++((X0.toList.drop sa).take na++(X0.toList.drop (sa+na)).take nb)++X0.toList.drop (sa+na+nb):=by
          rw[<- mP,Nat.add_assoc,<- List.drop_drop (i:=na+nb),List.append_assoc,List.take_append_drop,List.take_append_drop]
        have lP:(X0.toList.take sa).length=sa:=by rw[List.length_take,Array.length_toList];omega
        have l1:((X0.toList.drop sa).take na).length=na:=by rw[List.length_take,List.length_drop,Array.length_toList];omega
        have l2:((X0.toList.drop (sa+na)).take nb).length=nb:=by rw[List.length_take,List.length_drop,Array.length_toList];omega
        have lM:(((X0.toList.drop sa).take na).take k++r.toList++((X0.toList.drop (sa+na)).take nb).drop q).length=na+nb:=by
          rw[List.length_append,List.length_append,List.length_take,List.length_drop,l1,l2,Array.length_toList,zr];omega
        have mid:(((X0.toList.drop sa).take na).take k++r.toList++((X0.toList.drop (sa+na)).take nb).drop q).Perm ((X0.toList.drop sa).take na++(X0.toList.drop (sa+na)).take nb):=by
          have h3:(((X0.toList.drop sa).take na).take k++(((X0.toList.drop sa).take na).drop k++((X0.toList.drop (sa+na)).take nb).take q)++((X0.toList.drop (sa+na)).take nb).drop q)=(X0.toList.drop sa).take na++(X0.toList.drop (sa+na)).take nb:=by
            rw[<- List.append_assoc,List.take_append_drop,List.append_assoc,List.take_append_drop]
          rw[<- h3]
          rw[eX,eY]at rp
          exact(rp.append_left _).append_right _
        have srtM:bT ky (((X0.toList.drop sa).take na).take k++r.toList++((X0.toList.drop (sa+na)).take nb).drop q):=by
          have memr:∀x∈r.toList,x∈((X0.toList.drop sa).take na).drop k\/x∈((X0.toList.drop (sa+na)).take nb).take q:=fun x hx=>by
            have:=rp.mem_iff.mp hx
            rw[eX,eY]at this
            exact List.mem_append.mp this
          have S2':=cf.mp (show bT ky (((X0.toList.drop (sa+na)).take nb).take q++((X0.toList.drop (sa+na)).take nb).drop q) by rw[List.take_append_drop];exact S2)
          refine cf.mpr ⟨cf.mpr ⟨List.Pairwise.sublist (List.take_sublist _ _) S1,rs,fun x hx y hy=>?_⟩,S2'.2.1,fun x hx y hy=>?_⟩
          . rcases memr y hy with z|z
            . exact KeyOrd.kle_trans (kr (g1 x hx)) (kq (g2 y z))
            . exact KeyOrd.kle_trans (kr (g1 x hx)) (y0S2 y (List.mem_of_mem_take z))
          . rcases List.mem_append.mp hx with z|z
            . exact KeyOrd.kle_trans (S1z x (List.mem_of_mem_take z)) (ig (f2 y hy))
            . rcases memr x z with z|z
              . exact KeyOrd.kle_trans (S1z x (List.mem_of_mem_drop z)) (ig (f2 y hy))
              . exact S2'.2.2 x z y hy
        have arr:arrOf (setArr (bN (jJ st p') g) (jM (arrOf (bN (jJ st p') g)) (sa+k) r))=jM X0 (sa+k) r:=by rw[<- hX];rfl
        have zN:(jM X0 (sa+k) r).size=X0.size:=by
          rw[<- Array.length_toList,eN,List.length_append,List.length_append,lM,lP,List.length_drop,Array.length_toList];omega
        refine h _ ⟨?_,hB.kind,hf,rfl⟩ (fun t ht=>?_) ?_
        . rw[arr]
          refine Array.Perm.trans ?_ hB.perm
          rw[hX]
          refine Array.perm_iff_toList_perm.mpr ?_
          rw[eN]
          exact((mid.append_left _).append_right _).trans (List.Perm.of_eq eO.symm)
        . rw[arr,hX,<- Array.getElem?_toList,<- Array.getElem?_toList,eN]
          conv=>rhs;rw[eO]
          rcases ht with ht|ht
          . have hl:∀m r:List Keyed,(X0.toList.take sa++m++r)[t]?=(X0.toList.take sa)[t]?:=fun m r=>by
              rw[List.append_assoc,List.getElem?_append_left (by omega)]
            rw[hl,hl]
          . have hr:∀m r:List Keyed,m.length=na+nb->(X0.toList.take sa++m++r)[t]?=r[t-(sa+(na+nb))]?:=fun m r hm=>by
              rw[List.getElem?_append_right (by rw[List.length_append,lP,hm];omega),List.length_append,lP,hm]
            rw[hr _ _ lM,hr _ _ (by rw[List.length_append,l1,l2])]
        . rw[arr,Nat.add_assoc]
          refine(iR (by omega)).mpr ?_
          rw[eN,List.append_assoc,List.drop_append_of_le_length (by omega),List.drop_of_length_le (by omega),List.nil_append,List.take_append_of_le_length (by omega),List.take_of_length_le (by omega)]
          exact srtM
      by_cases hle:na-k<=q
      . rw[if_pos hle]
        exact wpS_bind (Bu (jy.mk hL uX uY (fun x hx' y hy'=>by
          rw[fk (i:=(X0.extract (sa+k) (sa+na)).size-1) (by omega),List.drop_of_length_le (by rw[Array.length_toList];omega)]at hy'
          exact b2 x hx' y hy') kk) sX sY (by omega) (by omega) b1 fin)
      . rw[if_neg hle]
        exact wpS_bind (Bw (fZ.mk hL uX uY (by omega) b1 sX sY kk) (by omega) b2 fin)
end
end TS
namespace TS
open PySem PyProof.Rows
section
variable{O:KeyOrd}{ky:Keyed->O.α}{prog:Program}{w:World}{A:Around}{E:Value->Shared->Prop}{s:Shared}{kd:SortKind}{a₀:Array Keyed}{p:Array (Nat×Nat×Nat)}
def cH(ky:Keyed->O.α)(xs:Array Keyed):List (Nat×Nat×Nat)->Nat->Nat->Prop
 | [],a,b=>a=b
 | r::l,a,b=>r.1=a/\1<=r.2.1/\Seg ky xs a (a+r.2.1)/\cH ky xs l (a+r.2.1) b
theorem ia{xs:Array Keyed}:∀{l:List (Nat×Nat×Nat)} {a b:Nat},cH ky xs l a b->a+l.length<=b
 | [],a,b,h=>by cases (show a=b from h);exact Nat.le_refl _
 | r::l,a,b,⟨_,h1,_,h2⟩=>by have:=ia h2;rw[List.length_cons];omega
theorem gj{xs:Array Keyed}{m:List (Nat×Nat×Nat)}:∀{l:List (Nat×Nat×Nat)} {a b:Nat},cH ky xs (l++m) a b↔∃c,cH ky xs l a c/\cH ky xs m c b
 | [],a,b=>⟨fun h=>⟨a,rfl,h⟩,fun⟨c,h1,h2⟩=>by cases (show a=c from h1);exact h2⟩
 | r::l,a,b=>by
  rw[List.cons_append]
  constructor
  ·rintro⟨h1,h2,h3,h4⟩
   obtain⟨c,h5,h6⟩:=gj.mp h4
   exact⟨c,⟨h1,h2,h3,h5⟩,h6⟩
  ·rintro⟨c,⟨h1,h2,h3,h5⟩,h6⟩
   exact⟨h1,h2,h3,gj.mpr ⟨c,h5,h6⟩⟩
theorem mU{xs ys:Array Keyed}{a b:Nat}(h:∀t,a<=t->t<b->xs[t]?=ys[t]?)(hs:Seg ky xs a b):Seg ky ys a b:=fun i j hi hij hj=>by
 rw[<- gK (h i hi (by omega)),<- gK (h j (by omega) hj)]
 exact hs i j hi hij hj
theorem eM{xs ys:Array Keyed}:∀{l:List (Nat×Nat×Nat)} {a b:Nat},(∀t,a<=t->t<b->xs[t]?=ys[t]?)->cH ky xs l a b->cH ky ys l a b
 | [],a,b,_,h=>h
 | r::l,a,b,e,⟨h1,h2,h3,h4⟩=>by
  have:=ia h4
  exact⟨h1,h2,mU (fun t z1 z2=>e t z1 (by omega)) h3,eM (fun t z1 z2=>e t (by omega) z2) h4⟩
theorem qZ(hL:iL ky prog w A E s kd a₀){st:SortSt}(hB:SB a₀ kd p st){i lo:Nat}{Q:Bool->SortSt->Prop}(hi:i+1<p.size)(hR:cH ky (arrOf st) p.toList 0 lo)(hl:lo<=a₀.size)
  (h:∀p' st',SB a₀ kd p' st'->p'.size+1=p.size->cH ky (arrOf st') p'.toList 0 lo->(∀t,lo<=t->(arrOf st')[t]?=(arrOf st)[t]?)->Q true st'):wpS (model prog w) A E s (mergeAt' i) Q st:=by
 obtain⟨⟨sa,na,pw⟩,e1⟩:∃r,p[i]=r:=⟨_,rfl⟩
 obtain⟨⟨sb,nb,pw2⟩,e2⟩:∃r,p[i+1]=r:=⟨_,rfl⟩
 have d1:p.toList=p.toList.take i++((sa,na,pw)::(sb,nb,pw2)::p.toList.drop (i+2)):=by
  rw[<- e1,<- e2]
  have z1:i<p.toList.length:=by rw[Array.length_toList];omega
  have z2:i+1<p.toList.length:=by rw[Array.length_toList];omega
  have:=List.drop_eq_getElem_cons z1
  rw[List.drop_eq_getElem_cons z2]at this
  rw[<- Array.getElem_toList,<- Array.getElem_toList,<- this,List.take_append_drop]
 have hR':=hR
 rw[d1]at hR'
 obtain⟨c,r1,r2,n1,g1,r3,n2,g2,r4⟩:=gj.mp hR'
 simp only at r2 n1 g1 r3 n2 g2 r4
 subst r2 r3
 have le4:=ia r4
 have le1:=ia r1
 have el:((p.setIfInBounds i (sa,na+nb,pw)).eraseIdxIfInBounds (i+1)).toList=p.toList.take i++((sa,na+nb,pw)::p.toList.drop (i+2)):=by
  rw[Array.toList_eraseIdxIfInBounds,Array.toList_setIfInBounds]
  conv=>lhs;rw[d1]
  have lt:(p.toList.take i).length=i:=by rw[List.length_take,Array.length_toList];omega
  rw[List.set_append_right _ _ (by omega),lt,Nat.sub_self,List.set_cons_zero,List.eraseIdx_append_of_length_le (by omega),lt,show i+1-i=1 by omega]
  rfl
 refine By hL hB (by rw[getElem?_pos p i (by omega),e1]) (by rw[getElem?_pos p (i+1) hi,e2]) n1 n2 (by omega) g1 g2 fun st' hB' ag sg=>h _ st' hB' ?_ ?_ fun t ht=>ag t (.inr (by omega))
 ·have:=congrArg List.length el
  rw[Array.length_toList,List.length_append,List.length_cons,List.length_take,List.length_drop,Array.length_toList]at this
  omega
 ·rw[el]
  refine gj.mpr ⟨sa,eM (fun t _ z=>(ag t (.inl z)).symm) r1,rfl,by show 1<=na+nb;omega,by show Seg ky _ sa (sa+(na+nb));rw[<- Nat.add_assoc];exact sg,?_⟩
  show cH ky _ _ (sa+(na+nb)) lo
  rw[<- Nat.add_assoc]
  exact eM (fun t z _=>(ag t (.inr z)).symm) r4
def qR(size lo n:Nat):SM (ForInStep (Option Unit×Nat)):=do
 let st <- get
 match (pendingOf st).back? with
 | some (s1,n1,_)=>do
  let c <- forIn [0:size] ((none,()):Option Unit×Unit) fun _ _=>do
   let st <- get
   match (if (pendingOf st).size>1 then(pendingOf st)[(pendingOf st).size-2]? else none)with
   | some (_,_,od) =>
    if od<=power' size (2*s1+n1) (2*s1+n1+n1+n) size then pure (.done (none,()))
    else do
     let b <- mergeAt' ((pendingOf st).size-2)
     if (!b)=true then pure (.done (some (),()))else pure (.yield (none,()))
   | _=>pure (.done (none,()))
  match c.1 with
  | some r=>pure (.done (some r,lo))
  | none=>do
   modify fun s=>setPending s ((pendingOf s).modify ((pendingOf s).size-1) fun x=>(x.1,x.2.1,power' size (2*s1+n1) (2*s1+n1+n1+n) size))
   modify fun s=>setPending s ((pendingOf s).push (lo,n,0))
   pure (.yield (none,lo+n))
 | _=>do
  modify fun s=>setPending s ((pendingOf s).push (lo,n,0))
  pure (.yield (none,lo+n))
theorem yB{xs:Array Keyed}(v:Nat){a b:Nat}(h:cH ky xs p.toList a b):cH ky xs (p.modify (p.size-1) fun x=>(x.1,x.2.1,v)).toList a b:=by
 have key:∀(l:List (Nat×Nat×Nat)) (k:Nat) (a b:Nat),cH ky xs l a b->cH ky xs (l.modify k fun x=>(x.1,x.2.1,v)) a b:=by
  intro l
  induction l with
  | nil=>intro k a b h;cases k<;>exact h
  | cons r l ih =>
   intro k a b ⟨h1,h2,h3,h4⟩
   cases k with
   | zero=>exact⟨h1,h2,h3,h4⟩
   | succ k=>exact⟨h1,h2,h3,ih k _ _ h4⟩
 rw[Array.toList_modify]
 exact key _ _ _ _ h
theorem tW(hL:iL ky prog w A E s kd a₀){st:SortSt}{lo n:Nat}{Q:ForInStep (Option Unit×Nat)->SortSt->Prop}(hB:SB a₀ kd p st)(hR:cH ky (arrOf st) p.toList 0 lo)(hn:1<=n)(hz:lo+n<=a₀.size)(hs:Seg ky (arrOf st) lo (lo+n))
  (h:∀p' st',SB a₀ kd p' st'->cH ky (arrOf st') p'.toList 0 (lo+n)->Q (.yield (none,lo+n)) st'):wpS (model prog w) A E s (qR a₀.size lo n) Q st:=by
 have push:∀p' st',SB a₀ kd p' st'->cH ky (arrOf st') p'.toList 0 lo->Seg ky (arrOf st') lo (lo+n)->Q (.yield (none,lo+n)) (setPending st' (p'.push (lo,n,0))):=fun p' st' b r g=>h (p'.push (lo,n,0)) _ ⟨b.perm,b.kind,b.failed,rfl⟩ (by
  rw[Array.toList_push]
  exact gj.mpr ⟨lo,r,rfl,hn,g,rfl⟩)
 unfold qR
 refine wpS_bind (wpS_get ?_)
 rw[hB.pend]
 cases eb:p.back? with
 | none =>
  dsimp only
  refine wpS_bind (wpS_modify (wpS_pure ?_))
  rw[hB.pend]
  exact push p st hB hR hs
 | some r =>
  obtain⟨s1,n1,_⟩:=r
  dsimp only
  refine wpS_bind (wpS_mono (wpS_forRange (I:=fun x c st'=>c=(none,())/\∃p',SB a₀ kd p' st'/\cH ky (arrOf st') p'.toList 0 lo/\Seg ky (arrOf st') lo (lo+n)) (Q:=fun c st'=>c=(none,())/\∃p',SB a₀ kd p' st'/\cH ky (arrOf st') p'.toList 0 lo/\Seg ky (arrOf st') lo (lo+n)) ?_ (fun _ _ z=>z) ⟨rfl,p,hB,hR,hs⟩) ?_)
  ·rintro x c st' _ hx ⟨rfl,p',hB',hR',hs'⟩
   refine wpS_bind (wpS_get ?_)
   rw[hB'.pend]
   by_cases h1:p'.size>1
   ·rw[if_pos h1,getElem?_pos p' (p'.size-2) (by omega)]
    obtain⟨⟨q1,q2,od⟩,eq⟩:∃r,p'[p'.size-2]=r:=⟨_,rfl⟩
    rw[eq]
    dsimp only
    split
    ·exact wpS_pure ⟨rfl,p',hB',hR',hs'⟩
    ·refine wpS_bind (qZ hL hB' (by omega) hR' (by omega) fun p2 st2 b1 b2 b3 b4=>?_)
     exact wpS_pure ⟨rfl,p2,b1,b3,mU (fun t z _=>(b4 t z).symm) hs'⟩
   ·rw[if_neg h1]
    exact wpS_pure ⟨rfl,p',hB',hR',hs'⟩
  ·rintro c st' ⟨rfl,p',hB',hR',hs'⟩
   dsimp only
   refine wpS_bind (wpS_modify (wpS_bind (wpS_modify (wpS_pure ?_))))
   rw[hB'.pend]
   exact push _ (setPending st' _) ⟨hB'.perm,hB'.kind,hB'.failed,rfl⟩ (yB _ hR') hs'
theorem tq{M:Model}{α σ:Type}{m m':StateT σ Sem α}{Q:α->σ->Prop}{st:σ}(e:m=m')(h:wpS M A E s m' Q st):wpS M A E s m Q st:=e ▸ h
theorem runs_ok(hL:iL ky prog w A E s kd a₀){st:SortSt}{Q:Unit->SortSt->Prop}(hB:SB a₀ kd #[] st)(h2:1<=a₀.size)
    (h:∀st',(arrOf st').Perm a₀->failedOf st'=none->Seg ky (arrOf st') 0 a₀.size->Q () st'):wpS (model prog w) A E s sortRuns' Q st:=by
  rw[sortRuns'_eq]
  refine wpS_bind (wpS_get ?_)
  dsimp only
  simp only[hB.size]
  generalize minRun' a₀.size a₀.size 0=mr
  refine wpS_bind (wpS_mono (wpS_forRange (I:=fun x c st' => ∃lo p,c=(none,lo)/\SB a₀ kd p st'/\cH ky (arrOf st') p.toList 0 lo/\lo<=a₀.size/\x<=lo)
    (Q:=fun c st' => ∃p,c=(none,a₀.size)/\SB a₀ kd p st'/\cH ky (arrOf st') p.toList 0 a₀.size) ?_ ?_ ⟨0,#[],rfl,hB,rfl,Nat.zero_le _,Nat.le_refl _⟩) ?_)
  . rintro x c st' _ hx ⟨lo,p,rfl,hB',hR,hlo,hxl⟩
    dsimp only
    by_cases hge:lo >= a₀.size
    . rw[if_pos hge]
      have:lo=a₀.size:=by omega
      subst this
      exact wpS_pure ⟨p,rfl,hB',hR⟩
    . rw[if_neg hge]
      refine wpS_bind (Eg hL (n:=a₀.size-lo) (by omega) (by omega) hB' fun m st2 hB2 hP2 hm1 hm2 hs2=>?_)
      dsimp only
      by_cases hlt:m<mr
      . rw[if_pos hlt]
        refine wpS_bind (wpS_lift (wpAny_rule ⟨rfl,?_⟩))
        refine wpS_bind (Ej hL (n:=min (a₀.size-lo) mr) (by omega) (by omega) hB2 hs2 fun st3 hB3 hP3 hs3=>?_)
        rw[if_neg (by simp)]
        refine tq (m':=qR a₀.size lo (min (a₀.size-lo) mr)) ?_ ?_
        . unfold qR
          congr 1;funext st5
          generalize (pendingOf st5).back?=ob
          cases ob with
          | none=>rfl
          | some r5 =>
            obtain⟨u1,u2,u3⟩:=r5
            dsimp only
            congr 1
            funext c5
            obtain⟨c6,c7⟩:=c5
            cases c6<;>rfl
        . exact tW hL hB3 (eM (fun t _ z=>(hP2.trans hP3) t z) hR) (by omega) (by omega) hs3 fun p' st' b1 b2=>⟨_,p',rfl,b1,b2,by omega,by omega⟩
      . rw[if_neg hlt]
        refine tq (m':=qR a₀.size lo (m)) ?_ ?_
        . unfold qR
          congr 1;funext st5
          generalize (pendingOf st5).back?=ob
          cases ob with
          | none=>rfl
          | some r5 =>
            obtain⟨u1,u2,u3⟩:=r5
            dsimp only
            congr 1
            funext c5
            obtain⟨c6,c7⟩:=c5
            cases c6<;>rfl
        . exact tW hL hB2 (eM (fun t _ z=>hP2 t z) hR) hm1 (by omega) hs2 fun p' st' b1 b2=>⟨_,p',rfl,b1,b2,by omega,by omega⟩
  . rintro c st' ⟨lo,p,rfl,hB',hR,hlo,hxl⟩
    have:lo=a₀.size:=by omega
    subst this
    exact⟨p,rfl,hB',hR⟩
  . rintro c st' ⟨p,rfl,hB',hR⟩
    dsimp only
    have p0:1<=p.size:=by
      rcases Nat.lt_or_ge 0 p.size with z|z
      . exact z
      . have:p.toList=[]:=List.eq_nil_of_length_eq_zero (by rw[Array.length_toList];omega)
        rw[this]at hR
        have:0=a₀.size:=hR
        omega
    have ple:=ia hR
    rw[Array.length_toList]at ple
    refine wpS_bind (wpS_mono (wpS_forRange (I:=fun x c st2=>c=(none,())/\∃p',SB a₀ kd p' st2/\cH ky (arrOf st2) p'.toList 0 a₀.size/\1<=p'.size/\(p'.size<=1\/p'.size+x<=a₀.size))
      (Q:=fun c st2=>c=(none,())/\∃p',SB a₀ kd p' st2/\cH ky (arrOf st2) p'.toList 0 a₀.size/\p'.size=1) ?_ ?_ ⟨rfl,p,hB',hR,p0,.inr (by omega)⟩) ?_)
    . rintro x c st2 _ hx ⟨rfl,p',hB2,hR2,g1,g2⟩
      refine wpS_bind (wpS_get ?_)
      simp only[hB2.pend]
      by_cases h1:p'.size<=1
      . rw[if_pos h1]
        exact wpS_pure ⟨rfl,p',hB2,hR2,by omega⟩
      . rw[if_neg h1]
        have go:∀(i:Nat) (R:ForInStep (Option Unit×Unit)->SortSt->Prop),i+1<p'.size->(∀p3 st3,SB a₀ kd p3 st3->p3.size+1=p'.size->cH ky (arrOf st3) p3.toList 0 a₀.size->R (.yield (none,())) st3)->wpS (model prog w) A E s (do
            let b <- mergeAt' i
            if (!b)=true then pure (ForInStep.done (some (),()))else pure (ForInStep.yield (none,()))) R st2:=fun i R hi q =>
          wpS_bind (qZ hL hB2 hi hR2 (Nat.le_refl _) fun p3 st3 b1 b2 b3 _=>wpS_pure (q p3 st3 b1 b2 b3))
        refine go _ _ ?_ fun p3 st3 b1 b2 b3=>⟨rfl,p3,b1,b3,by omega,by omega⟩
        have sm:∀b:Bool,(if b=true then p'.size-2-1 else p'.size-2)+1<p'.size:=fun b=>by
          cases b with
          | true=>rw[if_pos rfl];omega
          | false=>rw[if_neg (by simp)];omega
        exact sm _
    . rintro c st2 ⟨rfl,p',hB2,hR2,g1,g2⟩
      exact⟨rfl,p',hB2,hR2,by omega⟩
    . rintro c st2 ⟨rfl,p',hB2,hR2,e⟩
      refine wpS_pure (h st2 hB2.perm hB2.failed ?_)
      obtain⟨r,er⟩:∃r,p'.toList=[r]:=List.length_eq_one_iff.mp (by rw[Array.length_toList];exact e)
      rw[er]at hR2
      obtain⟨r1,r2,r3,r4⟩:=hR2
      have r4:0+r.2.1=a₀.size:=r4
      rw[r4]at r3
      exact r3
end
end TS
namespace Sp
open PySem PySem.Spec PyProof.Rows L2
open PySem.W (KatLex KatTups kat_kind kat_lt)
variable{b ks ns t:List Int}{h:Heap}{v:V}{a:Addr}{vs:List V}{ix k n:Nat}{ow ow':Ow}{H H':Hp}{σ:L2.St}{ρ ρ1:ac}{x:Str}{d:D}{Φ:Fx}{sc:Scope}{ap ap1 ap2 cp cp1 cp2 lp p p1 p4 pos r1 r2:Pos}{ds:List D}{K:W.Frag}{l:List (List Int)}{N j key o:Int}{o':HO}{ls:List (List (List Int))}{kvs:List (aV×V)}{c e e1 e2 tg:Expr}{f:Int->Int->Int}{ss:List Stmt}{st:Stmt}{pins:List (Addr×Obj)}{s:Shared}{P:Program}{w:World}{es:List Expr}{X:Cx}
theorem rf:∀a:List Int,HT.lexLt a a=false
 | []=>rfl
 | x::xs=>by rw[HT.lexLt_cons,if_pos rfl,rf xs]
theorem mY:∀a b c:List Int,HT.lexLt a b=true->HT.lexLt b c=true->HT.lexLt a c=true
 | [],[],c,h,_=>by cases h
 | [],y::ys,[],_,h=>by cases h
 | [],y::ys,z::zs,_,_=>rfl
 | x::xs,[],c,h,_=>by cases h
 | x::xs,y::ys,[],_,h=>by cases h
 | x::xs,y::ys,z::zs,h1,h2=>by
  rw[HT.lexLt_cons]at h1 h2⊢
  by_cases e1:x=y
  ·rw[if_pos e1]at h1
   by_cases e2:y=z
   ·rw[if_pos e2]at h2
    rw[if_pos (e1.trans e2)]
    exact mY xs ys zs h1 h2
   ·rw[if_neg e2]at h2
    rw[if_neg (e1 ▸ e2),e1];exact h2
  ·rw[if_neg e1,decide_eq_true_eq]at h1
   by_cases e2:y=z
   ·rw[if_neg (fun e=>e1 (e.trans e2.symm)),decide_eq_true_eq];omega
   ·rw[if_neg e2,decide_eq_true_eq]at h2
    rw[if_neg (by omega),decide_eq_true_eq];omega
theorem re:∀a b c:List Int,HT.lexLt a c=true->HT.lexLt a b=true\/HT.lexLt b c=true
 | [],b,[],h=>by cases h
 | x::xs,b,[],h=>by cases h
 | [],[],z::zs,_=>.inr rfl
 | [],y::ys,z::zs,_=>.inl rfl
 | x::xs,[],z::zs,_=>.inr rfl
 | x::xs,y::ys,z::zs,h=>by
  rw[HT.lexLt_cons]at h⊢
  rw[HT.lexLt_cons y z]
  by_cases e:x=z
  ·rw[if_pos e]at h
   by_cases e1:x=y
   ·rw[if_pos e1,if_pos (e1 ▸ e)];exact re xs ys zs h
   ·rw[if_neg e1,if_neg (fun q=>e1 (e.trans q.symm)),decide_eq_true_eq,decide_eq_true_eq];omega
  ·rw[if_neg e,decide_eq_true_eq]at h
   by_cases e1:x=y
   ·right;rw[if_neg (by omega),decide_eq_true_eq];omega
   ·rw[if_neg e1]
    by_cases e2:y=z
    ·left;rw[decide_eq_true_eq];omega
    ·rw[if_neg e2,decide_eq_true_eq,decide_eq_true_eq];omega
theorem lV:∀a b:List Int,HT.lexLt a b=false->HT.lexLt b a=false->a=b
 | [],[],_,_=>rfl
 | [],y::ys,h,_=>by cases h
 | x::xs,[],_,h=>by cases h
 | x::xs,y::ys,h1,h2=>by
  rw[HT.lexLt_cons]at h1 h2
  by_cases e:x=y
  ·rw[if_pos e]at h1
   rw[if_pos e.symm]at h2
   rw[e,lV xs ys h1 h2]
  ·rw[if_neg e,decide_eq_false_iff_not]at h1
   rw[if_neg (Ne.symm e),decide_eq_false_iff_not]at h2
   omega
def gJ:KeyOrd:=⟨List Int,HT.lexLt,rf,mY,re,lV⟩
def md(x:List Int):List (List Int)->List (List Int)
 | []=>[x]
 | y::l=>if HT.lexLt y x=true then y::md x l else x::y::l
def hW:List (List Int)->List (List Int)
 | []=>[]
 | x::l=>md x (hW l)
theorem iA(x:List Int):∀l,(md x l).Perm (x::l)
 | []=>List.Perm.refl _
 | y::l=>by
  rw[md]
  split
  ·exact((iA x l).cons y).trans (List.Perm.swap x y l)
  ·exact List.Perm.refl _
theorem eJ:∀l,(hW l).Perm l
 | []=>List.Perm.refl _
 | x::l=>(iA x _).trans ((eJ l).cons x)
abbrev iz(a b:List Int):Prop:=HT.lexLt b a=false
theorem uH{a c:List Int}(h1:iz a b)(h2:iz b c):iz a c:=KeyOrd.kle_trans (O:=gJ) h1 h2
theorem o8(x:List Int):∀{l},l.Pairwise iz->(md x l).Pairwise iz
 | [],_=>List.pairwise_singleton _ _
 | y::l,h=>by
  rw[md]
  obtain⟨h1,h2⟩:=List.pairwise_cons.mp h
  split
  ·rename_i e
   refine List.pairwise_cons.mpr ⟨fun z hz=>?_,o8 x h2⟩
   rcases List.mem_cons.mp ((iA x l).mem_iff.mp hz)with rfl|hz
   ·exact KeyOrd.kle_of_klt (O:=gJ) e
   ·exact h1 z hz
  ·rename_i e
   have e:iz x y:=by simpa using e
   exact List.pairwise_cons.mpr ⟨fun z hz=>by
    rcases List.mem_cons.mp hz with rfl|hz
    ·exact e
    ·exact uH e (h1 z hz),h⟩
theorem jH:∀l,(hW l).Pairwise iz
 | []=>List.Pairwise.nil
 | x::l=>o8 x (jH l)
theorem mT:∀{a b:List (List Int)},a.Perm b->a.Pairwise iz->b.Pairwise iz->a=b
 | [],b,p,_,_=>by rw[List.nil_perm.mp p]
 | x::a,[],p,_,_=>by have:=p.length_eq;cases this
 | x::a,y::b,p,ha,hb=>by
  obtain⟨a1,a2⟩:=List.pairwise_cons.mp ha
  obtain⟨b1,b2⟩:=List.pairwise_cons.mp hb
  have e:x=y:=by
   rcases List.mem_cons.mp (p.mem_iff.mp List.mem_cons_self)with z|z
   ·exact z
   ·rcases List.mem_cons.mp (p.symm.mem_iff.mp List.mem_cons_self)with w|w
    ·exact w.symm
    ·exact KeyOrd.kle_antisymm (O:=gJ) (a1 y w) (b1 x z)
  subst e
  rw[mT p.cons_inv a2 b2]
def cX(h:Heap)(v:Value):List Int:=match v with
 | .ref b=>(match h.get? b with
  | some o=>(match o.data with | .seq its _=>its.toList.map numOf|_=>[])
  | none=>[])
 | _=>[]
def dD(h:Heap)(v:Value)(ns:List Int):Prop:=∃b o its m,v=.ref b/\h.get? b=some o/\o.cls=.type "tuple" /\ o.data=.seq its m/\av (ns.map V.int) its.toList/\ns≠[]
theorem mK:∀{ns:List Int} {us:List Value},av (ns.map V.int) us->us.map numOf=ns
 | [],_,.nil=>rfl
 | n::ns,_,.cons r t=>by
  obtain⟨k,rfl⟩:=r
  rw[List.map_cons,mK t];rfl
theorem dD.kv{v:Value}(t:dD h v ns):cX h v=ns:=by
 obtain⟨b,o,its,m,rfl,ho,_,hd,hv,_⟩:=t
 unfold cX
 dsimp only
 rw[ho]
 dsimp only
 rw[hd]
 exact mK hv
theorem dD.mono{h':Heap}{v:Value}(k:∀b o,o.cls=.type "tuple" -> h.get? b=some o->h'.get? b=some o)(t:dD h v ns):dD h' v ns:=by
 obtain⟨b,o,its,m,e,ho,hc,r⟩:=t
 exact⟨b,o,its,m,e,k b o hc ho,hc,r⟩
theorem rk{h:Heap}:∀{vs:List Value},(∀v∈vs,∃ns,dD h v ns)->∃fs,KatTups h vs fs/\fs.length=vs.length/\∀v∈fs,∃n t,v=Value.int n t
 | [],_=>⟨[],trivial,rfl,fun v hv=>by cases hv⟩
 | v::vs,ht=>by
  obtain⟨fs,h1,h2,h3⟩:=rk fun v hv=>ht v (List.mem_cons_of_mem _ hv)
  obtain⟨ns,b,o,its,m,rfl,ho,hc,hd,hv,hn⟩:=ht v List.mem_cons_self
  cases ns with
  | nil=>exact absurd rfl hn
  | cons n ns =>
   obtain⟨i0⟩:=its
   cases hv with
   | cons q1 q2 =>
    obtain⟨t,rfl⟩:=q1
    exact⟨.int n t::fs,W.KatTups.cons ho hc hd rfl h1,by rw[List.length_cons,List.length_cons,h2],fun v hv=>by
     rcases List.mem_cons.mp hv with rfl|hv
     ·exact⟨n,t,rfl⟩
     ·exact h3 v hv⟩
section
variable{prog:Program}{A:Around}{E:Value->Shared->Prop}
theorem wl{b:Bool}{U:List Keyed}(hU:∀x∈U,∃ns,dD s.heap x.1 ns):TS.Lts (O:=gJ) (fun x=>cX s.heap x.1) (model prog w) A E s (tuples' b) U:=by
 intro x hx y hy st Q hk h
 obtain⟨ns,tx⟩:=hU x hx
 obtain⟨ms,ty⟩:=hU y hy
 have e1:=tx.kv
 have e2:=ty.kv
 obtain⟨bx,ox,ix,mx,ex,hox,hcx,hdx,hvx,_⟩:=tx
 obtain⟨by',oy,iy,my,ey,hoy,hcy,hdy,hvy,_⟩:=ty
 rw[lt'_eq]
 refine wpS_bind (wpS_get ?_)
 rw[hk,ex,ey]
 refine wpS_bind (wpS_lift (wpAny_attempt (kat_lt hox hdx hoy hdy (o3 ns ms _ _ 0 hvx hvy ⟨rfl,?_⟩))))
 have l1:ns.length=ix.size:=by simpa using hvx.length
 have l2:ms.length=iy.size:=by simpa using hvy.length
 rw[<- l1,<- l2,uA]
 replace h:Q (some (HT.lexLt (cX s.heap x.1) (cX s.heap y.1))) st:=h
 rw[e1,e2]at h
 exact wpS_pure h
theorem lU{vs:List Value}{P:PySem.Fin->Shared->Prop}(ho:s.heap.get? a=some (seqObj "list" vs.toArray n))(h2:2<=vs.length)(hz:vs.length<=sizeLine)(ht:∀v∈vs,∃ns,dD s.heap v ns)
  (h:∀out:Array Value,out.toList.Perm vs->out.toList.Pairwise (fun u v=>iz (cX s.heap u) (cX s.heap v))->P (.done (.ret .none)) { s with heap:=sortedHeap s.heap a vs out }):wpAny (model prog w) A (Builtin.«list.sort» ⟨[.ref a],[]⟩) P E s:=by
 rw[list_sort_plain]
 have ha:a<s.heap.objs.size:=Heap.lt_size ho
 refine wpAny_bind (listItems_at ho rfl ?_)
 refine wpAny_bind (listUpdate_at ho rfl ?_ (by rw[List.size_toArray];exact hz) (Nat.zero_le _))
 obtain⟨e1,ho1⟩:∃e1,(s.heap.update a (Obj.mapSeq fun _ => #[])).get? a=some (seqObj "list" #[] e1):=⟨_,get?_update_seq ho fun _ => #[]⟩
 refine wpAny_bind (seqEpoch_at ho1 rfl ?_)
 refine wpAny_bind (wpAny_newTuple ?_ (by show vs.length<=_;exact hz))
 refine wpAny_bind (wpAny_newList ?_ (Nat.zero_le _))
 refine wpAny_holding ?_
 have sz1:(s.heap.update a (Obj.mapSeq fun _=>(#[]:Array Value))).objs.size=s.heap.objs.size:=Heap.size_update _ _ _
 have ke:∀b o,b≠a->s.heap.get? b=some o->(((s.heap.update a (Obj.mapSeq fun _ => #[])).push (seqObj "tuple" vs.toArray 0)).push (seqObj "list" #[] 0)).get? b=some o:=fun b o hb e=>by
  refine Heap.get?_push_of_some _ (Heap.get?_push_of_some _ ?_)
  rw[Heap.get?_update_ne _ _ _ _ hb];exact e
 have ho6:(((s.heap.update a (Obj.mapSeq fun _ => #[])).push (seqObj "tuple" vs.toArray 0)).push (seqObj "list" #[] 0)).get? a=some (seqObj "list" #[] e1):=Heap.get?_push_of_some _ (Heap.get?_push_of_some _ ho1)
 have kt:∀b o,o.cls=.type "tuple" -> s.heap.get? b=some o->(((s.heap.update a (Obj.mapSeq fun _ => #[])).push (seqObj "tuple" vs.toArray 0)).push (seqObj "list" #[] 0)).get? b=some o:=fun b o hc e=>ke b o (fun z=>by
  subst z;rw[ho]at e;cases e;injection hc with hc;exact absurd hc (by decide)) e
 show wpAny (model prog w) A _ P E { s with heap:=((s.heap.update a (Obj.mapSeq fun _ => #[])).push (seqObj "tuple" vs.toArray 0)).push (seqObj "list" #[] 0) }
 dsimp only
 have hf:∀out,sortedHeap s.heap a vs out=(((s.heap.update a (Obj.mapSeq fun _ => #[])).push (seqObj "tuple" vs.toArray 0)).push (seqObj "list" #[] 0)).update a (Obj.mapSeq fun _=>out):=fun out=>rfl
 generalize ((s.heap.update a (Obj.mapSeq fun _ => #[])).push (seqObj "tuple" vs.toArray 0)).push (seqObj "list" #[] 0)=h6 at *
 have ht6:∀v∈vs,dD h6 v (cX s.heap v):=fun v hv=>by
  obtain⟨ns,t⟩:=ht v hv
  rw[t.kv];exact t.mono kt
 have kv6:∀v∈vs,cX h6 v=cX s.heap v:=fun v hv=>(ht6 v hv).kv
 have hn2:¬ vs.toArray.size<2:=by rw[List.size_toArray];omega
 rw[if_neg hn2,if_neg hn2]
 obtain⟨fs,k1,k2,k3⟩:=rk (h:=h6) (vs:=vs) fun v hv=>⟨_,ht6 v hv⟩
 refine wpAny_bind (kat_kind (T:=.type "int") (s:={ s with heap:=h6 }) k1 (by omega) (fun v hv=>?_) rfl ?_)
 ·obtain⟨n,t,rfl⟩:=k3 v hv
  exact W.Looks.of_pure rfl
 have mz:∀x∈(pairsOf vs).toList,x.1=x.2/\x.1∈vs:=fun x hx=>mem_zip_self (by rw[<- pairsOf_toList];exact hx)
 refine wpAny_bind (wpAny_mono (TS.runs_ok (O:=gJ) (ky:=fun x=>cX h6 x.1) (s:={ s with heap:=h6 }) (a₀:=pairsOf vs) (kd:=tuples' (Value.type "int" != Value.type "tuple")) (st:=SortSt.mk' (tuples' (Value.type "int" != Value.type "tuple")) (vs.toArray.zip vs.toArray) #[] 7 none)
  (Q:=fun _ st'=>(arrOf st').Perm (pairsOf vs)/\failedOf st'=none/\TS.Seg (O:=gJ) (fun x=>cX h6 x.1) (arrOf st') 0 (pairsOf vs).size)
  (wl (s:={ s with heap:=h6 }) fun x hx=>⟨_,ht6 _ (mz x hx).2⟩) ⟨Array.Perm.refl _,rfl,rfl,rfl⟩ (by rw[pairsOf_size];omega) fun st' a1 a2 a3=>⟨a1,a2,a3⟩) ?_ fun _ _ e=>e)
 rintro⟨⟨⟩,st'⟩ s' ⟨rfl,hp,hfl,hs⟩
 dsimp only
 have hl:(arrOf st').toList.Perm (vs.zip vs):=by rw[<- pairsOf_toList];exact Array.perm_iff_toList_perm.mp hp
 have hm:∀x∈(arrOf st').toList,x.1=x.2/\x.1∈vs:=fun x hx=>mem_zip_self (hl.mem_iff.mp hx)
 refine wpAny_bind (seqEpoch_at ho6 rfl ?_)
 refine wpAny_bind (listUpdate_at ho6 rfl ?_ (Nat.zero_le _) (by refine Nat.le_trans (Nat.le_of_eq ((Array.size_map ..).trans (hp.size_eq.trans (pairsOf_size _)))) (Nat.le_succ_of_le hz)))
 rw[hfl]
 simp only[bne_self_eq_false,Bool.false_eq_true,if_false]
 refine wpAny_pure ?_
 have:=h ((arrOf st').map (·.2)) ?_ ?_
 ·rw[hf]at this;exact this
 ·rw[Array.toList_map]
  have:=hl.map Prod.snd
  rw[List.map_snd_zip (Nat.le_refl _)]at this
  exact this
 ·rw[Array.toList_map,List.pairwise_map,List.pairwise_iff_getElem]
  intro i j hi hj hij
  have hi':i<(arrOf st').size:=by simpa using hi
  have hj':j<(arrOf st').size:=by simpa using hj
  replace hs:TS.Seg (O:=gJ) (fun x=>cX h6 x.1) (arrOf st') 0 (pairsOf vs).size:=hs
  have q:=hs i j (Nat.zero_le _) (Nat.le_of_lt hij) (by rw[<- hp.size_eq];exact hj')
  rw[TS.kA_at (O:=gJ) (ky:=fun x=>cX h6 x.1) hi',TS.kA_at (O:=gJ) (ky:=fun x=>cX h6 x.1) hj']at q
  obtain⟨m1,m2⟩:=hm _ (Array.getElem_mem_toList hi')
  obtain⟨m3,m4⟩:=hm _ (Array.getElem_mem_toList hj')
  rw[Array.getElem_toList,Array.getElem_toList,<- m1,<- m3,<- kv6 _ m2,<- kv6 _ m4]
  exact q
theorem qu{l:Addr}{vs:List Value}{Q:Value->Shared->Prop}(hl:s.heap.IsList l vs.toArray)(h2:2<=vs.length)(hz:vs.length<=sizeLine)(ht:∀v∈vs,∃ns,dD s.heap v ns)
  (h:∀out:Array Value,out.toList.Perm vs->out.toList.Pairwise (fun u v=>iz (cX s.heap u) (cX s.heap v))->Q (.ref (s.heap.objs.size+1)) { s with heap:=sortedAll s.heap vs out }):wpAny (model prog w) A (call (.builtin "sorted") [.ref l]) Q E s:=by
 refine Calls.call_function_entry kind_sorted plain_sorted entry_sorted (args_sorted1 _) ?_
 unfold Builtin.«sorted»
 refine wpAny_bind (m:=checkCount "sorted" 1 1 _) (wpAny_pure ?_)
 refine wpAny_bind (collect_list hl ?_ hz)
 refine wpAny_bind (wpAny_newList ?_ hz)
 have hsz:((s.heap.push (seqObj "list" #[] 0)).update s.heap.objs.size (Obj.mapSeq (· ++ vs.toArray))).objs.size=s.heap.objs.size+1:=by
  rw[Heap.size_update,size_push']
 have hoL:(((s.heap.push (seqObj "list" #[] 0)).update s.heap.objs.size (Obj.mapSeq (· ++ vs.toArray))).push (seqObj "list" vs.toArray 0)).get? (s.heap.objs.size+1)=some (seqObj "list" vs.toArray 0):=by
  rw[<- hsz];exact Heap.get?_push_size _ rfl
 have ke:∀b o,s.heap.get? b=some o->(((s.heap.push (seqObj "list" #[] 0)).update s.heap.objs.size (Obj.mapSeq (· ++ vs.toArray))).push (seqObj "list" vs.toArray 0)).get? b=some o:=fun b o e=>by
  have hlt:b<s.heap.objs.size:=Heap.lt_size e
  refine Heap.get?_push_of_some _ ?_
  rw[Heap.get?_update_ne _ _ _ _ (Nat.ne_of_lt hlt)]
  exact Heap.get?_push_of_some _ e
 have sA:∀out,sortedAll s.heap vs out=sortedHeap (((s.heap.push (seqObj "list" #[] 0)).update s.heap.objs.size (Obj.mapSeq (· ++ vs.toArray))).push (seqObj "list" vs.toArray 0)) (s.heap.objs.size+1) vs out:=fun _=>rfl
 show wpAny _ _ _ _ _ { s with heap:=((s.heap.push (seqObj "list" #[] 0)).update s.heap.objs.size (Obj.mapSeq (· ++ vs.toArray))).push (seqObj "list" vs.toArray 0) }
 rw[hsz]
 generalize ((s.heap.push (seqObj "list" #[] 0)).update s.heap.objs.size (Obj.mapSeq (· ++ vs.toArray))).push (seqObj "list" vs.toArray 0)=h5 at *
 have t5:∀v∈vs,dD h5 v (cX s.heap v):=fun v hv=>by
  obtain⟨ns,t⟩:=ht v hv
  rw[t.kv];exact t.mono fun b o _ e=>ke b o e
 refine wpAny_bind (wpAny_holding (wpAny_call_entry slot_list_sort ⟨_,hoL,rfl⟩ entry_list_sort (lU (s:={ s with heap:=h5 }) hoL h2 hz (fun v hv=>⟨_,t5 v hv⟩) fun out p1 p2=>⟨_,rfl,?_⟩) (args_list_sort _)))
 refine wpAny_pure ⟨_,rfl,?_⟩
 have:=h out p1 (p2.imp_of_mem fun {u v} hu hv q=>by
  rw[<- (t5 u (p1.mem_iff.mp hu)).kv,<- (t5 v (p1.mem_iff.mp hv)).kv];exact q)
 rw[sA]at this
 exact this
end
abbrev aW(ns:List Int):D:=.tup (ns.map D.int)
def qJ:Value->V
 | .ref b=>.ref b
 | _=>.non
theorem n8{pins:List (Addr×Obj)}{σ:L2.St}{H:Hp}{s:Shared}(I:ai X pins σ H s):∀{ts:List V} {nss:List (List Int)} {its:List Value},bj X.K H ts nss->av ts its->its.map (cX s.heap)=nss/\∀v∈its,∃b ns,v=.ref b/\dD s.heap v ns/\bg X.K H b (ns.map V.int)
 | [],[],its,h,r=>by cases r;exact⟨rfl,fun v hv=>by cases hv⟩
 | v::ts,ns::nss,its,h,r=>by
  cases r with
  | cons r1 r2 =>
   obtain⟨h1,h2⟩:=n8 I h.2 r2
   obtain⟨a,rfl,hq,hn⟩:=h.1
   cases r1
   obtain⟨jts,rv,⟨o,ho,hc,m,hd⟩,hz⟩:=I.tuple hq
   have t:dD s.heap (.ref a) ns:=⟨a,o,jts.toArray,m,rfl,ho,hc,hd,rv,hn⟩
   refine⟨by rw[List.map_cons,h1,t.kv],fun v hv=>?_⟩
   rcases List.mem_cons.mp hv with rfl|hv
   ·exact⟨a,ns,rfl,t,hq⟩
   ·exact h2 v hv
 | [],_::_,_,h,_=>h.elim
 | _::_,[],_,h,_=>h.elim
theorem mM{K:W.Frag}{H:Hp}{h:Heap}:∀{us:List Value},(∀v∈us,∃b ns,v=.ref b/\dD h v ns/\bg K H b (ns.map V.int))->bj K H (us.map qJ) (us.map (cX h))/\av (us.map qJ) us
 | [],_=>⟨trivial,.nil⟩
 | v::us,hu=>by
  obtain⟨h1,h2⟩:=mM (us:=us) fun v hv=>hu v (List.mem_cons_of_mem _ hv)
  obtain⟨b,ns,rfl,t,hq⟩:=hu v List.mem_cons_self
  have e:=t.kv
  obtain⟨_,_,_,_,_,_,_,_,_,hn⟩:=t
  exact⟨⟨⟨b,rfl,by rw[e];exact hq,by rw[e];exact hn⟩,h1⟩,.cons rfl h2⟩
theorem pN:dH X (.builtin "sorted") (fun xs H Q => ∃(p:Addr) (ts:List V) (nss:List (List Int)),xs=[.ref p]/\bM X.K H p ts/\bj X.K H ts nss/\2<=ts.length/\∀D bs,H D=none->bj X.K H bs (hW nss)->Q (.ref D) (az H D (.lst bs))):=by
 intro pins s σ H xs us Q I r h
 obtain⟨p,ts,nss,rfl,hq,ht,h2,q⟩:=h
 obtain⟨u,rfl,rx⟩:=nC r
 cases rx
 obtain⟨its,rv,pl,hz⟩:=I.list hq
 have el:its.length=ts.length:=rv.length.symm
 obtain⟨t1,t2⟩:=n8 I ht rv
 refine qu pl.isList (by omega) (by omega) (fun v hv=>by obtain⟨b,ns,_,t,_⟩:=t2 v hv;exact⟨ns,t⟩) fun out p1 p2=>?_
 obtain⟨b1,b2⟩:=mM (K:=X.K) (H:=H) (h:=s.heap) (us:=out.toList) fun v hv=>t2 v (p1.mem_iff.mp hv)
 have ek:out.toList.map (cX s.heap)=hW nss:=mT ((by rw[<- t1];exact p1.map _:(out.toList.map (cX s.heap)).Perm nss).trans (eJ nss).symm) (List.pairwise_map.mpr p2) (jH nss)
 rw[ek]at b1
 have ob0:out.toList.length=ts.length:=p1.length_eq.trans el
 obtain⟨hp,gs,dr,tk,os⟩:=s
 obtain⟨m,S3⟩:=sortedAll_at hp its out
 have kk:∀b o,hp.get? b=some o->(sortedAll hp its out).get? b=some o:=fun b o e=>sortedAll_old e
 dsimp only
 generalize sortedAll hp its out=h3 at *
 have fr:∀j:Nat,H (hp.objs.size+j)=none:=fun j=>I.hok.fresh (Nat.le_add_right _ _)
 generalize hn':hp.objs.size=n at *
 have hk0:bE X.prog X.w H h3:=I.hok.kept kk
 have ob:aR X.prog X.w (az H (n+1) (.lst (out.toList.map qJ))) h3 (n+1) (.lst (out.toList.map qJ)):=⟨by rw[List.length_map,ob0];exact hz,out.toList,m,b2,by rw[Array.toArray_toList];exact S3⟩
 have hk1:=wv hk0 (fr 1) ob
 have old:∀c:Nat,c<n->az H (n+1) (.lst (out.toList.map qJ)) c=H c:=fun c hc=>by rw[al (by show(c:Nat)≠n+1;omega)]
 have inn:∀(c:Nat) o,H c=some o->c<n:=fun c o e=>by
  rcases Nat.lt_or_ge c n with z|z
  ·exact z
  ·have:=fr (c-n);rw[Nat.add_sub_cancel' z]at this;rw[this]at e;cases e
 have I4:ai X pins σ (az H (n+1) (.lst (out.toList.map qJ))) ⟨h3,gs,dr,tk,os⟩:=I.un (t':=tk) (yg kk (fun c hc=>old c (by rw[<- hn'];exact hc)) fun c o e=>by rw[hn'];exact inn c o e) hk1
 exact⟨.ref (n+1),_,I4,rfl,q (n+1) _ (fr 1) b1⟩
def gC(ds:List D):R1 :=
 match ds with
 | [.lst l]=>(match fN l with
  | some nss=>.ok (.lst ((hW nss).map aW),0) [2<=l.length]
  | none=>.st)
 | _=>.st
theorem fO{K:W.Frag}{P:aQ}{H:Hp}:∀{bs:List V} {nss:List (List Int)},bj K H bs nss->ah K H P (nss.map aW) bs
 | [],[],_=>ah.nil
 | v::bs,ns::nss,h=>by
  obtain⟨a,rfl,hq,_⟩:=h.1
  exact ah.cons (by rw[ae];exact⟨a,_,rfl,hq,ah.ofInts⟩) (fO h.2)
 | [],_::_,h=>h.elim
 | _::_,[],h=>h.elim
theorem bj.same{K:W.Frag}{H H':Hp}(s:ao H H'):∀{bs:List V} {nss:List (List Int)},bj K H bs nss->bj K H' bs nss
 | [],[],_=>trivial
 | v::bs,ns::nss,h=>by
  obtain⟨a,e,hq,hn⟩:=h.1
  refine⟨⟨a,e,?_,hn⟩,bj.same s h.2⟩
  rcases hq with(h|⟨o,h⟩)|h
  ·exact .inl (.inl (s _ _ h))
  ·exact .inl (.inr ⟨o,s _ _ h⟩)
  ·exact .inr h
 | [],_::_,h=>h.elim
 | _::_,[],h=>h.elim
theorem vz:fg "sorted" gC:=by
 refine⟨by decide +kernel,by decide +kernel,by decide +kernel,rfl,fun X ds z l o hc h hp=>.inl ⟨"sorted", by decide +kernel,?_⟩⟩
 unfold gC at h
 split at h
 ·split at h
  ·rename_i m _ nss e
   cases h
   obtain⟨p1,_⟩:=hp
   refine⟨_,pN,fun ow H0 H2 vs P Q o s rx q=>?_⟩
   obtain⟨v,rfl,ry⟩:=rx.only
   obtain⟨a,ws,rfl,hs,rl⟩:=ka ry
   obtain⟨t1,t2⟩:=n6 e rl
   have hl:=rl.length
   refine⟨a,ws,nss,rfl,hs,t1,by omega,fun D bs hD hT=>q _ _ (cM hD) ?_⟩
   rw[ae]
   exact⟨D,bs,true,rfl,aD,⟨rfl,s.free hD⟩,fO (hT.same (cM hD))⟩
  ·cases h
 ·cases h
theorem uq:rL X "dict.setdefault" (fun x xs H Q => ∃p kvs k v,x=.ref p/\xs=[kV k,v]/\H p=some (.dK kvs)/\kvs.length<sizeLine/\(∀u,bU kvs k=some u->Q u H)/\(bU kvs k=none->Q v (az H p (.dK (cY kvs k v))))):=by
 intro pins s σ H x xs v us Q I rx rxs h
 obtain⟨p,kvs,k,dv,rfl,rfl,hp,hz,q1,q2⟩:=h
 cases rx
 obtain⟨u1,u2,rfl,r1,r2⟩:=av.two rxs
 obtain⟨z,hd,vs,bt,dd⟩:=(show aR X.prog X.w H s.heap p (.dK kvs)from I.hok p _ hp)
 have hz':vs.length<=sizeLine:=by rw[<- bt.length];exact z
 have hl:(cY kvs k dv).length<=sizeLine:=by have:=jt kvs k dv;omega
 have rv:=bt.val k
 refine call_meetsIn PySem.F.slot_dict_setdefault dd.typeIs PySem.F.entry_dict_setdefault (PySem.F.args_dict_setdefault_3 _ _ _) (kt_meets_setdefault _ p (i8 r1) hd u2) ⟨vs,dd,hz',fun w hw=>?_,fun hn h' dd' hs=>?_⟩
 ·rw[hw]at rv
  cases e:bU kvs k with
  | none=>rw[e]at rv;exact rv.elim
  | some u=>rw[e]at rv;exact⟨u,H,I.tok _,rv,q1 u e⟩
 ·rw[hn]at rv
  cases e:bU kvs k with
  | some u=>rw[e]at rv;exact rv.elim
  | none =>
   have he:∃q,h'.get? p=some q:=let ⟨q,_,_,hq,_⟩:=dd';⟨q,hq⟩
   exact⟨dv,_,I.write (x:=p) (e:=p) (by rw[hp];exact True.intro) (.inl rfl) (fun b q hb z=>(hs.2 b hb).trans z) he (show aR X.prog X.w (az H p (.dK (cY kvs k dv))) h' p (.dK (cY kvs k dv))from⟨hl,hd,_,bt.put k r2,dd'⟩),r2,q2 e⟩
def Sh(ρ:ac):Prop:=∀x d o,ρ x=some (d,o)->o=false
theorem jS(hs:Sh ρ)(E:ax X ow H σ ρ)(k:aF ow H ow' H')(o:b7 ow' H'):ax X ow' H' σ ρ :=
 ⟨fun x d o h=>by
  cases hs x d o h
  obtain⟨i,v,e1,e2,e3,e4⟩:=E.get x d false h
  exact⟨i,v,e1,e2,e3,e4.mono ⟨fun a o ha hn=>k.keep a o ha (.inl hn),fun a o ha p=>k.keep a o ha (.inr (p rfl)),fun a o ha p _=>k.low a o ha (p rfl),fun a p z=>by cases z⟩⟩,o⟩
abbrev GJ:=Ow->L2.St->Hp->Prop
def tX(X:Cx)(H0:Hp)(ρ:ac)(J:GJ)(ρ':ac)(J':GJ):TS:=fun D σ H => ∃ow,ax X ow H σ ρ/\σ.length=X.N.length/\aY H0 ow H/\J ow σ H/\∀ow' σ' H',ax X ow' H' σ' ρ'->σ'.length=X.N.length->aF ow H ow' H'->J' ow' σ' H'->D.nx σ' H'
theorem om(h:Sh ρ):Sh (aL ρ x (d,false)):=fun y e o hy=>by
 rw[bq]at hy
 by_cases z:y=x
 ·rw[if_pos z]at hy;cases hy;rfl
 ·rw[if_neg z]at hy;exact h y e o hy
theorem tL{H0:Hp}{px:Pos}{iter:Expr}{body:List Stmt}{Jn:Nat->GJ}(G:aG Φ X sc)(hp:PassesOwn (model X.prog X.w) X.A X.env X.xe)(hx:bD sc x=true)
  (hi:IE X ρ (.Name x px) iter ds k) (hk:k<=1) (hll:aq ds=true) (hstep:∀i d,ds[i]?=some d->ck X body (tX X H0 (aL ρ x (d,false)) (Jn i) ρ (Jn (i+1))))
  (hJs:∀i ow σ H H',ao H H'->Jn i ow σ H->Jn i ow σ H') (hJx:∀i ow σ H v j,X.N[j]?=some x->Jn i ow σ H->Jn i ow (σ.set j (some v)) H) (hs:∀x,foldedSetIterable iter X.env x=pure x):PS X (.For (.Name x px) iter body [] pos) (tX X H0 ρ (Jn 0) ρ (Jn ds.length)):=by
 intro pins s σ H D0 I ⟨ow,E,hl,B,j0,q⟩
 obtain⟨g1,g2,g3,ix,g4⟩:=db G hx
 have pb:ck X body (fun D σ H => ∃i d,ds[i]?=some d/\tX X H0 (aL ρ x (d,false)) (Jn i) ρ (Jn (i+1)) D σ H):=fun pins s σ H D I ⟨i,d,h1,h2⟩=>hstep i d h1 pins s σ H D I h2
 refine oH hp G.calm (hi ow) (fj (i:=ix) G.nd g4 g1 g3) pb hs pins s σ H D0 I ⟨E,fun J H1 s1 itd=>?_⟩
 refine⟨fun i m σ' H'=>m=ds.length-i/\i<=ds.length/\∃ow',ax X ow' H' σ' ρ/\σ'.length=X.N.length/\aY H0 ow' H'/\aF ow H1 ow' H'/\Jn i ow' σ' H',
  ⟨ds.length,by simp,Nat.zero_le _,ow,E.same s1,hl,B.keep (aF.same s1),aF.refl _ _,hJs _ _ _ _ _ s1 j0⟩,?_⟩
 rintro i m σ' H' ⟨rfl,hile,ow',E',hl',B',k',jf⟩
 have st:cu (Kd ow H k H1) (Kd ow H k H1) H1 H':=⟨fun a o ha hn=>k'.keep a o ha (.inl hn),fun a vs ha p=>k'.keep a _ ha (.inr (cP E.own hk p.1)),fun _ _ _ p=>p,fun _ p=>p⟩
 have it:=itd i H' st
 by_cases hlt:i<ds.length
 ·obtain⟨go,yl⟩:=it.1 ds[i] (List.getElem?_eq_getElem hlt)
  refine .inr ⟨go,fun σ2 H2=>i+1<=ds.length/\∃ow2,ax X ow2 H2 σ2 ρ/\σ2.length=X.N.length/\aY H0 ow2 H2/\aF ow H1 ow2 H2/\Jn (i+1) ow2 σ2 H2,fun σ2 H2 n=>⟨ds.length-(i+1),by omega,rfl,n.1,n.2⟩,fun y H3 y3=>?_⟩
  obtain⟨sm3,rx⟩:=yl y H3 y3
  have li:ds[i].lless=true:=iu hll (List.getElem_mem hlt)
  have k3:aF ow' H' ow' H3:=aF.same sm3
  exact⟨i,ds[i],List.getElem?_eq_getElem hlt,ow',cD G.nd hl' (E'.same sm3) g4 g2 (rx.flat _ li),by rw[List.length_set];exact hl',B'.keep k3,hJx i ow' σ' H3 y ix g4 (hJs _ _ _ _ _ sm3 jf),fun ow2 σ3 H4 a b c d=>⟨hlt,ow2,a,b,(B'.keep k3).keep c,k'.trans (k3.trans c),d⟩⟩
 ·have ei:i=ds.length:=by omega
  subst ei
  exact .inl ⟨it.2 (Nat.le_refl _),q ow' σ' H' E' hl' ((aF.same s1).trans k') jf⟩
def mW(ks:List Int)(k:Int):List Int:=if k∈ks then ks else ks++[k]
def gi:List Int->List (List (List Int))->Int->List Int->List (List (List Int))
 | j::ks,l::ls,k,t=>if j=k then(l++[t])::ls else l::gi ks ls k t
 | _,_,_,t=>[[t]]
def dF(K:W.Frag)(ow:Ow)(H:Hp):List (List (List Int))->List V->Prop
 | [],[]=>True
 | l::ls,v::r=>(∃a ts,v=.ref a/\H a=some (.lst ts)/\ow a=some none/\bj K H ts l)/\dF K ow H ls r
 | _,_=>False
theorem dF.length:∀{ls:List (List (List Int))} {vs:List V},dF K ow H ls vs->ls.length=vs.length
 | [],[],_=>rfl
 | l::ls,v::vs,h=>by rw[List.length_cons,List.length_cons,h.2.length]
 | [],_::_,h=>h.elim
 | _::_,[],h=>h.elim
theorem dF.mem:∀{ls:List (List (List Int))} {vs:List V} {v:V},dF K ow H ls vs->v∈vs->∃a ts,v=.ref a/\H a=some (.lst ts)/\ow a=some none
 | [],[],_,_,m=>by cases m
 | l::ls,u::vs,v,h,m=>by
  rcases List.mem_cons.mp m with rfl|m
  ·obtain⟨a,ts,e,h1,h2,_⟩:=h.1
   exact⟨a,ts,e,h1,h2⟩
  ·exact h.2.mem m
 | [],_::_,_,h,_=>h.elim
 | _::_,[],_,h,_=>h.elim
theorem dF.keep(kt:∀a vs,bg K H a vs->bg K H' a vs):∀{ls:List (List (List Int))} {vs:List V},dF K ow H ls vs->(∀a ts,.ref a∈vs->H a=some (.lst ts)->ow a=some none->H' a=some (.lst ts)/\ow' a=some none)->dF K ow' H' ls vs
 | [],[],_,_=>trivial
 | l::ls,v::vs,h,k=>by
  obtain⟨a,ts,rfl,h1,h2,h3⟩:=h.1
  obtain⟨k1,k2⟩:=k a ts List.mem_cons_self h1 h2
  exact⟨⟨a,ts,rfl,k1,k2,h3.keep kt⟩,h.2.keep kt fun a ts m=>k a ts (List.mem_cons_of_mem _ m)⟩
 | [],_::_,h,_=>h.elim
 | _::_,[],h,_=>h.elim
theorem dF.app:∀{ls:List (List (List Int))} {vs:List V},dF K ow H ls vs->dF K ow H [l] [v]->dF K ow H (ls++[l]) (vs++[v])
 | [],[],_,h=>h
 | m::ls,u::vs,h,g=>⟨h.1,h.2.app g⟩
 | [],_::_,h,_=>h.elim
 | _::_,[],h,_=>h.elim
theorem mO{K:W.Frag}{H:Hp}{ns:List Int}{v:V}:∀{ts:List V} {l:List (List Int)},bj K H ts l->bj K H [v] [ns]->bj K H (ts++[v]) (l++[ns])
 | [],[],_,h=>h
 | u::ts,m::l,h,g=>⟨h.1,mO h.2 g⟩
 | [],_::_,h,_=>h.elim
 | _::_,[],h,_=>h.elim
theorem dW{o:HO}(ha:H a=some o)(ho:¬ nm o){b:Addr}(h:bg K H b vs):bg K (az H a o') b vs:=by
 have ne:∀{u:HO},H b=some u->nm u->b≠a:=fun hb hn z=>by subst z;rw[ha]at hb;cases hb;exact ho hn
 rcases h with(h|⟨p,h⟩)|h
 ·exact .inl (.inl (by rw[al (ne h True.intro)];exact h))
 ·exact .inl (.inr ⟨p,by rw[al (ne h True.intro)];exact h⟩)
 ·exact .inr h
theorem nZ{k:Int}:∀{ks:List Int},ks.length=vs.length->(bU ((ks.map (Sum.inl:Int->aV)).zip vs) (.inl k)=none↔k∉ks):=by
 intro ks
 induction ks generalizing vs with
 | nil=>intro _;exact⟨fun _=>List.not_mem_nil,fun _=>rfl⟩
 | cons j ks ih =>
  intro h
  cases vs with
  | nil=>cases h
  | cons v vs =>
   rw[List.map_cons,List.zip_cons_cons]
   by_cases e:j=k
   ·subst e
    rw[dj (by rfl)]
    exact⟨fun z=>(by cases z),fun z=>absurd List.mem_cons_self z⟩
   ·rw[dk (by intro z;injection z with z;exact e z),ih (by simpa using h),List.mem_cons,not_or]
    exact⟨fun z=>⟨fun y=>e y.symm,z⟩,fun z=>z.2⟩
theorem lG{k:Int}{t:List Int}:∀{ks:List Int} {ls:List (List (List Int))},ks.length=ls.length->k∉ks->gi ks ls k t=ls++[[t]]
 | [],[],_,_=>rfl
 | j::ks,l::ls,h,n=>by
  rw[List.mem_cons,not_or]at n
  rw[gi,if_neg (fun e=>n.1 e.symm),lG (by simpa using h) n.2];rfl
 | [],_::_,h,_=>by cases h
 | _::_,[],h,_=>by cases h
theorem qQ{K:W.Frag}{ow:Ow}{H:Hp}{k:Int}{ns:List Int}{u w:V}:∀{ks:List Int} {ls:List (List (List Int))} {vs:List V},ks.length=ls.length->dF K ow H ls vs->vs.Nodup->bU ((ks.map (Sum.inl:Int->aV)).zip vs) (.inl k)=some u->bj K H [w] [ns] ->
  ∃a ts,u=.ref a /\ .ref a∈vs/\H a=some (.lst ts)/\ow a=some none/\dF K ow (az H a (.lst (ts++[w]))) (gi ks ls k ns) vs/\(gi ks ls k ns).length=ls.length/\∃l∈ls,ts.length=l.length
 | [],ls,vs,_,_,_,h,_=>by cases h
 | j::ks,[],vs,h,_,_,_,_=>by cases h
 | j::ks,l::ls,[],_,h,_,_,_=>h.elim
 | j::ks,l::ls,v::vs,hl,h,nd,e,hw=>by
  obtain⟨n1,n2⟩:=List.nodup_cons.mp nd
  rw[List.map_cons,List.zip_cons_cons]at e
  by_cases hj:j=k
  ·subst hj
   rw[dj (by rfl)]at e
   cases e
   obtain⟨a,ts,rfl,h1,h2,h3⟩:=h.1
   have kt:∀b vs,bg K H b vs->bg K (az H a (.lst (ts++[w]))) b vs:=fun b vs hb=>dW h1 (fun z=>z) hb
   refine⟨a,ts,rfl,List.mem_cons_self,h1,h2,?_,by rw[gi,if_pos rfl];rfl,l,List.mem_cons_self,h3.length⟩
   rw[gi,if_pos rfl]
   exact⟨⟨a,_,rfl,aD,h2,(mO h3 hw).keep kt⟩,h.2.keep kt fun b us m hb ho=>⟨by rw[al (fun z=>by subst z;exact n1 m)];exact hb,ho⟩⟩
  ·rw[dk (by intro z;injection z with z;exact hj z)]at e
   obtain⟨a,ts,r1,r2,r3,r4,r5,r6,l',r7,r8⟩:=qQ (by simpa using hl) h.2 n2 e hw
   refine⟨a,ts,r1,List.mem_cons_of_mem _ r2,r3,r4,?_,by rw[gi,if_neg hj,List.length_cons,r6];rfl,l',List.mem_cons_of_mem _ r7,r8⟩
   rw[gi,if_neg hj]
   obtain⟨b,us,rfl,h1,h2,h3⟩:=h.1
   exact⟨⟨b,us,rfl,by rw[al (fun z=>by subst z;exact n1 r2)];exact h1,h2,h3.keep fun c vs hb=>dW r3 (fun z=>z) hb⟩,r5⟩
theorem ot{K:W.Frag}{ow:Ow}{H:Hp}{k:Int}{u:V}:∀{ks:List Int} {ls:List (List (List Int))} {vs:List V},ks.length=ls.length->dF K ow H ls vs->bU ((ks.map (Sum.inl:Int->aV)).zip vs) (.inl k)=some u ->
  ∃a ts,u=.ref a/\H a=some (.lst ts)/\ow a=some none/\∃l∈ls,ts.length=l.length
 | [],ls,vs,_,_,h=>by cases h
 | j::ks,[],vs,h,_,_=>by cases h
 | j::ks,l::ls,[],_,h,_=>h.elim
 | j::ks,l::ls,v::vs,hl,h,e=>by
  rw[List.map_cons,List.zip_cons_cons]at e
  by_cases hj:j=k
  ·subst hj
   rw[dj (by rfl)]at e
   cases e
   obtain⟨a,ts,rfl,h1,h2,h3⟩:=h.1
   exact⟨a,ts,rfl,h1,h2,l,List.mem_cons_self,h3.length⟩
  ·rw[dk (by intro z;injection z with z;exact hj z)]at e
   obtain⟨a,ts,r1,r3,r4,l',r7,r8⟩:=ot (by simpa using hl) h.2 e
   exact⟨a,ts,r1,r3,r4,l',List.mem_cons_of_mem _ r7,r8⟩
theorem kg(s:ao H H')(h:bg K H a vs):bg K H' a vs:=by
 rcases h with(h|⟨o,h⟩)|h
 ·exact .inl (.inl (s _ _ h))
 ·exact .inl (.inr ⟨o,s _ _ h⟩)
 ·exact .inr h
def JD(X:Cx)(ix:Nat)(a:Addr)(ks:List Int)(ls:List (List (List Int))):GJ:=fun ow σ H=>σ[ix]?=some (some (.ref a))/\ow a=some none/\ks.length=ls.length/\∃vs,vs.Nodup/\H a=some (.dK ((ks.map Sum.inl).zip vs))/\dF X.K ow H ls vs
theorem JD.same(s:ao H H')(h:JD X ix a ks ls ow σ H):JD X ix a ks ls ow σ H':=by
 obtain⟨h1,h2,h3,vs,h4,h5,h6⟩:=h
 refine⟨h1,h2,h3,vs,h4,s _ _ h5,h6.keep (fun b us hb=>?_) fun b ts _ hb ho=>⟨s _ _ hb,ho⟩⟩
 rcases hb with(h|⟨o,h⟩)|h
 ·exact .inl (.inl (s _ _ h))
 ·exact .inl (.inr ⟨o,s _ _ h⟩)
 ·exact .inr h
theorem yH{k:aV}(h:bU kvs k=none):cY kvs k v=kvs++[(k,v)]:=by
 unfold cY
 rw[jC,h];rfl
theorem lJ{o:HO}(h:b7 ow H):b7 ow (az H a o):=fun b hb=>by
 by_cases z:b=a
 ·subst z;exact⟨_,aD⟩
 ·rw[al z];exact h b hb
theorem kL{o:HO}(ha:H a=some o)(hn:¬ nm o)(ho:ow a=some none):aF ow H ow (az H a o'):=⟨fun b u hb c=>by
 rw[al (fun z=>by
  subst z
  rw[ha]at hb;cases hb
  rcases c with c|c
  ·exact hn c
  ·rw[ho]at c;cases c)]
 exact hb,fun _ _ _ h=>h⟩
theorem Aq{H0:Hp}(hx:X.N[ix]?=some x)(hv:fL X.env.scope x)(hn:cW x=true)(hsh:Sh ρ)
  (he1:ED X ρ e1 (.int key) 0) (he2:AD X ρ [e2] [aW ns] 0) (hns:ns≠[]) (hs1:∀y p,e1 ≠ .Starred y p) (hs2:∀y p,e2 ≠ .Starred y p) (hl1:(ap1.endLine==cp1.line)=true) (hl2:(ap2.endLine==cp2.line)=true) (hz:ks.length<bh) (hb:∀l∈ls,l.length<bh) :
  PS X (.Expr (.Call (.Attribute (.Call (.Attribute (.Name x p1) "setdefault" ap1) [e1,.List [] lp] [] cp1) "append" ap2) [e2] [] cp2) p4) (tX X H0 ρ (JD X ix a ks ls) ρ (JD X ix a (mW ks key) (gi ks ls key ns))):=by
 intro pins s σ H D I ⟨ow,E,hl,B,⟨j1,j2,j3,vs,j4,j5,j6⟩,q⟩
 have pn:PE X (.Name x p1) (jD ix):=fw hx hv (cg hn).1 (cg hn).2
 have nl:∀y p,(Expr.List [] lp) ≠ .Starred y p:=fun y p z=>nomatch z
 have args1:AD X ρ [e1,.List [] lp] [.int key,.lst []] 0:=cV he1 (cV (mw dB (Nat.zero_le _) (Nat.zero_le _)) dB (aE nl)) (aE hs1)
 have f1:((backTo cp1 (starEach [e1,.List [] lp] X.env)).all (fun x => !x.1)&&(backToKw cp1 (keywordEach [] X.env)).all (fun x=>x.1.isSome)&&decide ([e1,Expr.List [] lp].length+([]:List Keyword).length+(if ([]:List Keyword).isEmpty then 0 else 1)<30))=true:=by
  rw[dm (fun z hz=>by
   rcases List.mem_cons.mp hz with rfl|hz
   ·exact hs1
   ·rw[List.mem_singleton.mp hz];exact nl)];rfl
 have f2:((backTo cp2 (starEach [e2] X.env)).all (fun x => !x.1)&&(backToKw cp2 (keywordEach [] X.env)).all (fun x=>x.1.isSome)&&decide ([e2].length+([]:List Keyword).length+(if ([]:List Keyword).isEmpty then 0 else 1)<30))=true:=by
  rw[dm (fun z hz=>by rw[List.mem_singleton.mp hz];exact hs2)];rfl
 refine iU (sk PySem.F.plainAttrs_list PySem.F.slot_list_append PySem.F.type_list_append io (sk PySem.F.plainAttrs_dict PySem.F.slot_dict_setdefault PySem.F.type_dict_setdefault uq pn (args1 ow) rfl f1 hl1 (aE hs1) (bd fun z hz=>by rw[List.mem_singleton.mp hz];exact nl)) (he2 ow) rfl f2 hl2 (aE hs2) (bd fun z hz=>by cases hz)) rfl pins s σ H D I ⟨_,j1,.inr (.inr (.inl ⟨rfl,.inl ⟨_,j5⟩⟩)),E,fun ws H2 s2 r2=>?_⟩
 rw[ah]at r2
 obtain⟨v1,r,rfl,q1,r2⟩:=r2
 rw[ae]at q1;subst q1
 obtain⟨v2,rfl,q2⟩:=r2.only
 rw[ae]at q2
 obtain⟨L0,us,b,rfl,q3,q4,q5⟩:=q2
 rw[ah]at q5;subst q5
 obtain⟨rfl,q6⟩:=q4
 replace q3:H2 L0=some (.lst []):=q3
 have el:=j6.length
 have J2:JD X ix a ks ls ow σ H2:=JD.same s2 ⟨j1,j2,j3,vs,j4,j5,j6⟩
 obtain⟨_,_,_,vs',j4',j5',j6'⟩:=J2
 have ev:vs'=vs:=by
  have:=j5'.symm.trans (s2 _ _ j5)
  injection this with this
  injection this with this
  have e1:=congrArg (List.map Prod.snd) this
  rwa [List.map_snd_zip (by rw[List.length_map,j3,j6'.length];exact Nat.le_refl _),List.map_snd_zip (by rw[List.length_map,j3,el];exact Nat.le_refl _)]at e1
 subst ev
 clear j4' j5'
 refine⟨a,_,.inl key,.ref L0,rfl,rfl,s2 _ _ j5,?_,fun u hu=>?_,fun hnone=>?_⟩
 ·rw[List.length_zip,List.length_map,<- el,<- j3,Nat.min_self];exact Nat.lt_of_lt_of_le hz bP
 ·obtain⟨la,ts,rfl,h1,h2,l,hl',hlen⟩:=ot j3 j6' hu
  refine⟨.inl ⟨rfl,ts,bM.of h1⟩,E.same s2,fun zs H3 s3 r3=>?_⟩
  obtain⟨w,rfl,r4⟩:=r3.only
  rw[ae]at r4
  obtain⟨tt,us,rfl,hq,rl⟩:=r4
  have ex:=ic rl
  subst ex
  have J3:dF X.K ow H3 ls vs':=j6'.keep (fun _ _ z=>kg s3 z) fun b ts _ hb ho=>⟨s3 _ _ hb,ho⟩
  obtain⟨la',ts',e,hm',h1',h2',h5,h6,_⟩:=qQ (w:=.ref tt) (ns:=ns) j3 J3 j4 hu ⟨⟨tt,rfl,hq,hns⟩,trivial⟩
  cases e
  have e2:ts'=ts:=by
   rw[s3 _ _ h1]at h1';cases h1';rfl
  subst e2
  refine⟨la,ts',.ref tt,rfl,rfl,h1',by rw[hlen];exact Nat.lt_of_lt_of_le (hb l hl') bP,?_⟩
  have s23:=s2.trans s3
  have K:=(aF.same s23).trans (kL (o':=.lst (ts'++[.ref tt])) h1' (fun z=>z) h2')
  have hin:key∈ks:=Classical.not_not.mp fun z=>by
   rw[(nZ (by rw[j3,el])).mpr z]at hu;cases hu
  refine q ow σ _ (jS hsh E K (lJ (E.own.same s23))) hl K ⟨j1,j2,?_,vs',j4,?_,h5⟩
  ·rw[mW,if_pos hin,h6,j3]
  ·rw[mW,if_pos hin,al (fun z=>by subst z;rw[s23 _ _ j5]at h1';cases h1')]
   exact s23 _ _ j5
 ·have hk:key∉ks:=(nZ (by rw[j3,el])).mp hnone
  have ne:L0≠a:=fun z=>by subst z;rw[q6]at j5;cases j5
  rw[yH hnone]
  have kA:aF ow H ow (az H2 a (.dK ((ks.map Sum.inl).zip vs'++[(.inl key,.ref L0)]))):=(aF.same s2).trans (kL (s2 _ _ j5) (fun z=>z) j2)
  have lA:az H2 a (.dK ((ks.map Sum.inl).zip vs'++[(.inl key,.ref L0)])) L0=some (.lst []):=by rw[al ne];exact q3
  refine⟨.inl ⟨rfl,[],bM.of lA⟩,jS hsh E kA (lJ (E.own.same s2)),fun zs H3 s3 r3=>?_⟩
  obtain⟨w,rfl,r4⟩:=r3.only
  rw[ae]at r4
  obtain⟨tt,us,rfl,hq,rl⟩:=r4
  have ex:=ic rl
  subst ex
  refine⟨L0,[],.ref tt,rfl,rfl,s3 _ _ lA,by rw[sizeLine_eq];decide,?_⟩
  have nL:∀{b:Addr} {u:HO},H b=some u->b≠L0:=fun hb z=>by subst z;rw[q6]at hb;cases hb
  have K:aF ow H (fun b=>if b=L0 then some none else ow b) (az H3 L0 (.lst ([]++[.ref tt]))):=⟨fun b u hb c=>by
   rw[al (nL hb)];exact s3 _ _ (kA.keep b u hb c),fun b u hb c=>by
   show(if b=L0 then some none else ow b)=none
   rw[if_neg (nL hb)];exact c⟩
  have oi:b7 (fun b=>if b=L0 then some none else ow b) (az H3 L0 (.lst ([]++[.ref tt]))):=fun b hb'=>by
   by_cases z:b=L0
   ·subst z;exact⟨_,aD⟩
   ·replace hb':(if b=L0 then some none else ow b)≠none:=hb'
    rw[if_neg z]at hb'
    rw[al z]
    obtain⟨o,ho⟩:=lJ (a:=a) (o:=.dK ((ks.map Sum.inl).zip vs'++[(.inl key,.ref L0)])) (E.own.same s2) b hb'
    exact⟨o,s3 _ _ ho⟩
  have kt:∀b us,bg X.K H b us->bg X.K (az H3 L0 (.lst ([]++[.ref tt]))) b us:=fun b us z=>dW (s3 _ _ lA) (fun z=>z) (kg s3 (dW (s2 _ _ j5) (fun z=>z) (kg s2 z)))
  refine q _ σ _ (jS hsh E K oi) hl K ⟨j1,by show(if a=L0 then some none else ow a)=_;rw[if_neg (Ne.symm ne)];exact j2,?_,vs'++[.ref L0],?_,?_,?_⟩
  ·rw[mW,if_neg hk,lG j3 hk,List.length_append,List.length_append,j3];rfl
  ·refine List.nodup_append.mpr ⟨j4,by simp,fun v hv' u hu z=>?_⟩
   rw[List.mem_singleton]at hu
   subst hu z
   obtain⟨b,ts,e,hb',_⟩:=j6.mem hv'
   cases e
   rw[q6]at hb';cases hb'
  ·rw[al (Ne.symm ne),mW,if_neg hk,List.map_append,List.map_cons,List.map_nil,List.zip_append (by rw[List.length_map,j3,el])]
   exact s3 _ _ aD
  ·rw[lG j3 hk]
   refine dF.app (j6.keep kt fun b ts hm hb' ho=>⟨?_,by show(if b=L0 then some none else ow b)=_;rw[if_neg (nL hb')];exact ho⟩) ⟨⟨L0,_,rfl,aD,if_pos rfl,⟨tt,rfl,dW (s3 _ _ lA) (fun z=>z) hq,hns⟩,trivial⟩,trivial⟩
   rw[al (nL hb')]
   refine s3 _ _ ?_
   rw[al (fun z=>by subst z;rw[j5]at hb';cases hb')]
   exact s2 _ _ hb'
theorem rB{pins:List (Addr×Obj)}{σ:L2.St}{s:Shared}{ow:Ow}:∀{ls:List (List (List Int))} {vs:List V} {H:Hp},ai X pins σ H s->dF X.K ow H ls vs->vs.Nodup->∃Hf,ai X pins σ Hf s/\iM X.K Hf ls vs/\∀b,(∀a,V.ref a∈vs->b≠a)->Hf b=H b
 | [],[],H,I,_,_=>⟨H,I,trivial,fun _ _=>rfl⟩
 | l::ls,v::vs,H,I,h,nd=>by
  obtain⟨n1,n2⟩:=List.nodup_cons.mp nd
  obtain⟨a,ts,rfl,h1,h2,h3⟩:=h.1
  have ob:=(show aR X.prog X.w H s.heap a (.lst ts)from I.hok a _ h1)
  obtain⟨z,its,n,rv,e⟩:=ob
  obtain⟨oo,eo⟩:∃oo,s.heap.get? a=some oo:=⟨_,e⟩
  have I1:ai X pins σ (az H a (.frz oo (.lst ts))) s:=I.write (t':=s.toks) (x:=a) (e:=a) (h':=s.heap) (by rw[h1];exact True.intro) (.inl rfl) (fun b u _ q=>q) ⟨_,eo⟩ (show aR X.prog X.w (az H a (.frz oo (.lst ts))) s.heap a (.frz oo (.lst ts))from⟨eo,z,its,n,rv,e⟩)
  have kt:∀b us,bg X.K H b us->bg X.K (az H a (.frz oo (.lst ts))) b us:=fun b us hb=>dW h1 (fun z=>z) hb
  obtain⟨Hf,If,Ff,af⟩:=rB I1 (h.2.keep kt fun b us m hb ho=>⟨by rw[al (fun z=>by subst z;exact n1 m)];exact hb,ho⟩) n2
  have nm':∀b u,H b=some u->nm u->∀c,V.ref c∈V.ref a::vs->b≠c:=fun b u hb hn c m z=>by
   subst z
   obtain⟨c',ts',e',hc,_⟩:=h.mem m
   cases e'
   rw[hc]at hb;cases hb;exact hn
  refine⟨Hf,If,⟨⟨a,oo,ts,rfl,?_,h3.keep fun b us hb=>?_⟩,Ff⟩,fun b hb=>?_⟩
  ·rw[af a (fun c m z=>by subst z;exact n1 m)];exact aD
  ·have go:∀u,H b=some u->nm u->Hf b=some u:=fun u hu hn=>by
    rw[af b (fun c m=>nm' b u hu hn c (List.mem_cons_of_mem _ m)),al (nm' b u hu hn a List.mem_cons_self)];exact hu
   rcases hb with(hb|⟨o,hb⟩)|hb
   ·exact .inl (.inl (go _ hb True.intro))
   ·exact .inl (.inr ⟨o,go _ hb True.intro⟩)
   ·exact .inr hb
  ·rw[af b (fun c m=>hb c (List.mem_cons_of_mem _ m)),al (hb a List.mem_cons_self)]
 | [],_::_,_,_,h,_=>h.elim
 | _::_,[],_,_,h,_=>h.elim
theorem yC{H0:Hp}{ρ:ac}{a:Addr}(hx:X.N[ix]?=some x)(hv:fL X.env.scope x)(hn:cW x=true) :
  PS X (.Return (some (.Name x r1)) r2) (fun D σ H => ∃ow,aY H0 ow H/\JD X ix a ks ls ow σ H/\∀v H',ao H0 H'->ae X.K H' (fun a b=>b=true/\H0 a=none) (.dcf ks ls) v->D.rt v H'):=by
 have pn:PE X (.Name x r1) (jD ix):=fw hx hv (cg hn).1 (cg hn).2
 have pf:PE X (.Name x r1) (fun σ H Q => ∃ow,aY H0 ow H/\JD X ix a ks ls ow σ H/\∀v H',ao H0 H'->ae X.K H' (fun a b=>b=true/\H0 a=none) (.dcf ks ls) v->Q v H'):=by
  intro pins s σ H Q I ⟨ow,B,⟨j1,j2,j3,vs,j4,j5,j6⟩,q⟩
  refine aH (pn pins s σ H (fun v H'=>v=.ref a/\H'=H) I ⟨_,j1,rfl,rfl⟩) fun u s1 ⟨v,H1,I1,ru,e1,e2⟩=>?_
  subst e1 e2
  obtain⟨Hf,If,Ff,af⟩:=rB I1 j6 j4
  have no:∀b,ow b≠some none->∀c,V.ref c∈vs->b≠c:=fun b hb c m z=>by
   subst z
   obtain⟨c',ts',e',_,ho⟩:=j6.mem m
   cases e'
   exact hb ho
  have ha:Hf a=some (.dK ((ks.map Sum.inl).zip vs)):=by
   rw[af a (fun c m z=>by
    subst z
    obtain⟨c',ts',e',hc,_⟩:=j6.mem m
    cases e'
    rw[hc]at j5;cases j5)]
   exact j5
  have ob:=(show aR X.prog X.w Hf s1.heap a (.dK ((ks.map Sum.inl).zip vs))from If.hok a _ ha)
  obtain⟨z1,z2,ws,z3,oo,es,ep,eo,z4⟩:=id ob
  have I2:ai X pins σ (az Hf a (.frz oo (.dK ((ks.map Sum.inl).zip vs)))) s1:=If.write (t':=s1.toks) (x:=a) (e:=a) (h':=s1.heap) (by rw[ha];exact True.intro) (.inl rfl) (fun b u _ q=>q) ⟨_,eo⟩ (show aR X.prog X.w (az Hf a (.frz oo (.dK ((ks.map Sum.inl).zip vs)))) s1.heap a (.frz oo (.dK ((ks.map Sum.inl).zip vs)))from⟨eo,z1,z2,ws,z3,oo,es,ep,eo,z4⟩)
  have na:∀b,ow b≠some none->b≠a:=fun b hb z=>by subst z;exact hb j2
  refine⟨.ref a,_,I2,ru,q _ _ (fun b o hb=>?_) ?_⟩
  ·obtain⟨h1,h2⟩:=B b o hb
   have hb':ow b≠some none:=by rw[h2];exact fun z=>nomatch z
   rw[al (na b hb'),af b (no b hb')];exact h1
  ·rw[ae]
   exact⟨j3,a,oo,vs,rfl,aD,Ff.keep (fun b us hb=>dW ha (fun z=>z) hb) fun b o u hb=>by rw[al (fun z=>by subst z;rw[ha]at hb;cases hb)];exact hb⟩
 exact oG pf
abbrev DL:=List Int×List (List (List Int))
def fX(f:Int->Int->Int)(a:Int)(st:DL)(b:Int):DL:=(mW st.1 (f a b),gi st.1 st.2 (f a b) [a,b])
def d6(f:Int->Int->Int)(ps:List Int)(st:DL)(a:Int):DL:=ps.foldl (fX f a) st
def pP(f:Int->Int->Int)(ps:List Int):DL:=ps.foldl (d6 f ps) ([],[])
def Bd(n:Nat)(st:DL):Prop:=st.1.length<=n/\∀l∈st.2,l.length<=n
theorem tU{n:Nat}{k:Int}{t:List Int}:∀{ks:List Int} {ls:List (List (List Int))},(∀l∈ls,l.length<=n)->∀l∈gi ks ls k t,l.length<=n+1
 | j::ks,l::ls,h,m,hm=>by
  rw[gi]at hm
  split at hm
  ·rcases List.mem_cons.mp hm with rfl|hm
   ·rw[List.length_append];have:=h l List.mem_cons_self;simp only[List.length_cons,List.length_nil];omega
   ·exact Nat.le_succ_of_le (h m (List.mem_cons_of_mem _ hm))
  ·rcases List.mem_cons.mp hm with rfl|hm
   ·exact Nat.le_succ_of_le (h _ List.mem_cons_self)
   ·exact tU (fun l hl=>h l (List.mem_cons_of_mem _ hl)) m hm
 | [],ls,h,m,hm=>by
  have:m∈[[t]]:=by cases ls<;>exact hm
  rw[List.mem_singleton.mp this];exact Nat.le_add_left _ _
 | _::_,[],h,m,hm=>by
  rw[List.mem_singleton.mp (show m∈[[t]]from hm)];exact Nat.le_add_left _ _
theorem zS{st:DL}{a b:Int}(h:Bd n st):Bd (n+1) (fX f a st b):=by
 refine⟨?_,tU h.2⟩
 show(mW st.1 (f a b)).length<=_
 unfold mW
 split
 ·exact Nat.le_succ_of_le h.1
 ·rw[List.length_append];exact Nat.succ_le_succ h.1
theorem sT{f:Int->Int->Int}{a:Int}:∀(l:List Int) {n:Nat} {st:DL},Bd n st->Bd (n+l.length) (l.foldl (fX f a) st)
 | [],n,st,h=>h
 | b::l,n,st,h=>by
  have:=sT (f:=f) (a:=a) l (zS (f:=f) (a:=a) (b:=b) h)
  rw[List.length_cons,show n+(l.length+1)=n+1+l.length by omega];exact this
theorem vy{f:Int->Int->Int}{ps:List Int}:∀(l:List Int) {n:Nat} {st:DL},Bd n st->Bd (n+l.length*ps.length) (l.foldl (d6 f ps) st)
 | [],n,st,h=>by simpa using h
 | a::l,n,st,h=>by
  have:=vy (f:=f) (ps:=ps) l (sT (f:=f) (a:=a) ps h)
  rw[List.length_cons,Nat.succ_mul,show n+(l.length*ps.length+ps.length)=n+ps.length+l.length*ps.length by omega];exact this
theorem zD{ρ':ac}(h:∀y p,ρ y=some p->ρ' y=some p)(E:ax X ow H σ ρ'):ax X ow H σ ρ:=⟨fun x d o hx=>E.get x d o (h x _ hx),E.own⟩
theorem tH{H0:Hp}{ρ2:ac}{J J':GJ}(h:∀y p,ρ2 y=some p->ρ1 y=some p)(g:ck X ss (tX X H0 ρ J ρ1 J')):ck X ss (tX X H0 ρ J ρ2 J'):=fun pins s σ H D I ⟨ow,E,hl,B,j,q⟩ =>
 g pins s σ H D I ⟨ow,E,hl,B,j,fun ow' σ' H' E'=>q ow' σ' H' (zD h E')⟩
theorem ul{t:TS}(h:PS X st t):ck X [st] t:=cO h qS
theorem JD.set{y:Str}{j:Nat}(hx:X.N[ix]?=some x)(hy:X.N[j]?=some y)(hn:y≠x)(h:JD X ix a ks ls ow σ H):JD X ix a ks ls ow (σ.set j (some v)) H:=by
 obtain⟨h1,h2⟩:=h
 refine⟨?_,h2⟩
 rw[List.getElem?_set_ne (fun z=>by subst z;rw[hx]at hy;injection hy with hy;exact hn hy.symm)];exact h1
theorem i9:∀ns:List Int,aq (ns.map D.int)=true
 | []=>rfl
 | n::ns=>by rw[List.map_cons,aq,i9 ns];rfl
theorem tO{H0:Hp}{xa xb xp:Str}{pa pb q1 q2 f1 f2:Pos}{ps:List Int}{o:Bool}(G:aG Φ X sc)(hp:PassesOwn (model X.prog X.w) X.A X.env X.xe)
    (hx:bD sc x=true) (hxa:bD sc xa=true) (hxb:bD sc xb=true) (nax:xa≠x) (nbx:xb≠x) (npx:xp≠x) (nba:xb≠xa) (npa:xp≠xa) (npb:xp≠xb) (hn:cW x=true) (hnp:cW xp=true)
    (h1:ρ xp=some (.lst (ps.map D.int),o)) (h2:ρ x=some (.dct [] [],true))
    (he:∀a b ρ',ρ' xa=some (.int a,false)->ρ' xb=some (.int b,false)->a∈ps->b∈ps->ED X ρ' e1 (.int (f a b)) 0/\AD X ρ' [e2] [aW [a,b]] 0)
    (hs1:∀y p,e1 ≠ .Starred y p) (hs2:∀y p,e2 ≠ .Starred y p) (hl1:(ap1.endLine==cp1.line)=true) (hl2:(ap2.endLine==cp2.line)=true) (hlen:ps.length<=100) :
    cw X H0 ρ [.For (.Name xa pa) (.Name xp q1) [.For (.Name xb pb) (.Name xp q2) [.Expr (.Call (.Attribute (.Call (.Attribute (.Name x p1) "setdefault" ap1) [e1,.List [] lp] [] cp1) "append" ap2) [e2] [] cp2) p4] [] f2] [] f1,.Return (some (.Name x r1)) r2] (.rt (.dcf (pP f ps).1 (pP f ps).2)):=by
  intro pins s σ H D0 I ⟨ow,E,hl,B,q⟩
  obtain⟨ix,v,g1,g2,g3,g4⟩:=E.get x _ _ h2
  rw[ae]at g4
  obtain⟨_,_,ad,vs,rfl,hA,hP,rl⟩:=g4
  rw[ah]at rl
  subst rl
  have hoA:ow ad=some (some x):=hP.2
  obtain⟨ip,vp,k1,k2,k3,k4⟩:=E.get xp _ _ h1
  let ow1:Ow:=fun b=>if b=ad then some none else if ow b=some (some xp)then none else ow b
  have w1:ow1 ad=some none:=if_pos rfl
  have w2:∀b,b≠ad->ow1 b=if ow b=some (some xp)then none else ow b:=fun b hb=>if_neg hb
  have K1:aF ow H ow1 H:=⟨fun _ _ h _=>h,fun b _ _ hb=>by
    have nb:b≠ad:=fun z=>by subst z;rw[hoA]at hb;cases hb
    rw[w2 b nb,hb];rfl⟩
  have oi:b7 ow1 H:=fun b hb=>by
    by_cases z:b=ad
    . subst z;exact⟨_,hA⟩
    . rw[w2 b z]at hb
      exact E.own b fun e=>hb (by rw[e];rfl)
  have Ep:ax X ow1 H σ (aL (fun _=>none) xp (.lst (ps.map D.int),false)):=⟨fun y d o' hy=>by
    rw[bq]at hy
    by_cases z:y=xp
    . subst z
      rw[if_pos rfl]at hy
      cases hy
      refine⟨ip,vp,k1,k2,k3,k4.impH (fun b u hb p _=>?_) fun b p z=>(by cases z)⟩
      have hb':ow b=some (some y)\/ow b=none:=by
        cases o with
        | true=>exact .inl p.2
        | false=>exact .inr (p rfl)
      have nb:b≠ad:=fun z=>by
        subst z
        rw[hoA]at hb'
        rcases hb' with w|w
        . injection w with w;injection w with w;exact npx w.symm
        . cases w
      rw[w2 b nb]
      rcases hb' with w|w
      . rw[if_pos w]
      . rw[w];rfl
    . rw[if_neg z]at hy;exact(nomatch hy),oi⟩
  clear_value ow1
  have shp:Sh (aL (fun _=>none) xp (.lst (ps.map D.int),false)):=om (fun _ _ _ z=>(by cases z))
  have getp:∀ρ':ac,ρ' xp=some (.lst (ps.map D.int),false)->∀{tg:Expr} {pos:Pos},IE X ρ' tg (.Name xp pos) (ps.map D.int) 1:=fun ρ' h' tg pos=>ja (by have:=dZ (X:=X) (pos:=pos) h' hnp;exact this)
  have put_x:∀(ρ':ac) (y:Str) (p:D×Bool),aL ρ' y p y=some p:=fun ρ' y p=>by rw[bq,if_pos rfl]
  have put_o:∀(ρ':ac) (y z:Str) (p:D×Bool),z≠y->aL ρ' y p z=ρ' z:=fun ρ' y z p h=>by rw[bq,if_neg h]
  have bd0:Bd 0 (([],[]):DL):=⟨Nat.le_refl _,fun _ z=>(by cases z)⟩
  have outer:PS X (.For (.Name xa pa) (.Name xp q1) [.For (.Name xb pb) (.Name xp q2) [.Expr (.Call (.Attribute (.Call (.Attribute (.Name x p1) "setdefault" ap1) [e1,.List [] lp] [] cp1) "append" ap2) [e2] [] cp2) p4] [] f2] [] f1)
      (tX X H0 (aL (fun _=>none) xp (.lst (ps.map D.int),false)) (JD X ix ad ((ps.take 0).foldl (d6 f ps) ([],[])).1 ((ps.take 0).foldl (d6 f ps) ([],[])).2) (aL (fun _=>none) xp (.lst (ps.map D.int),false)) (JD X ix ad ((ps.take (ps.map D.int).length).foldl (d6 f ps) ([],[])).1 ((ps.take (ps.map D.int).length).foldl (d6 f ps) ([],[])).2)):=by
    refine tL (Jn:=fun i=>JD X ix ad ((ps.take i).foldl (d6 f ps) ([],[])).1 ((ps.take i).foldl (d6 f ps) ([],[])).2) G hp hxa (getp _ (put_x _ _ _)) (Nat.le_refl 1) (i9 ps) (fun i d hd=>?_) (fun _ _ _ _ _ sm j=>JD.same sm j) (fun _ _ _ _ _ j hj z=>JD.set g1 hj nax z) (fun _=>rfl)
    rw[List.getElem?_map]at hd
    obtain⟨a,ha,rfl⟩:=Option.map_eq_some_iff.mp hd
    have hia:i<ps.length:=(List.getElem?_eq_some_iff.mp ha).1
    have ea:(ps.take (i+1)).foldl (d6 f ps) ([],[])=d6 f ps ((ps.take i).foldl (d6 f ps) ([],[])) a:=by
      rw[List.take_succ,ha,List.foldl_append];rfl
    have bdi:Bd (i*ps.length) ((ps.take i).foldl (d6 f ps) ([],[])):=by
      have:=vy (f:=f) (ps:=ps) (ps.take i) bd0
      rw[List.length_take,Nat.min_eq_left (by omega),Nat.zero_add]at this;exact this
    rw[ea]
    generalize (ps.take i).foldl (d6 f ps) ([],[])=st0 at bdi
    have xpa:aL (aL (fun _=>none) xp (.lst (ps.map D.int),false)) xa (.int a,false) xp=some (.lst (ps.map D.int),false):=by rw[put_o _ _ _ _ npa,put_x]
    refine tH (ρ1:=aL (aL (fun _=>none) xp (.lst (ps.map D.int),false)) xa (.int a,false)) (fun y pp hy=>?_) (ul ?_)
    . by_cases z:y=xa
      . subst z
        rw[put_o _ _ _ _ (Ne.symm npa)]at hy;cases hy
      . rw[put_o _ _ _ _ z];exact hy
    have inner:=tL (X:=X) (H0:=H0) (Φ:=Φ) (sc:=sc) (ρ:=aL (aL (fun _=>none) xp (.lst (ps.map D.int),false)) xa (.int a,false)) (x:=xb) (px:=pb) (pos:=f2) (iter:=.Name xp q2) (body:=[.Expr (.Call (.Attribute (.Call (.Attribute (.Name x p1) "setdefault" ap1) [e1,.List [] lp] [] cp1) "append" ap2) [e2] [] cp2) p4]) (Jn:=fun j=>JD X ix ad ((ps.take j).foldl (fX f a) st0).1 ((ps.take j).foldl (fX f a) st0).2) G hp hxb (getp _ xpa) (Nat.le_refl 1) (i9 ps) (fun j d hd=>?_) (fun _ _ _ _ _ sm j=>JD.same sm j) (fun _ _ _ _ _ j hj z=>JD.set g1 hj nbx z) (fun _=>rfl)
    . rw[List.length_map,List.take_length]at inner
      exact inner
    rw[List.getElem?_map]at hd
    obtain⟨b,hb,rfl⟩:=Option.map_eq_some_iff.mp hd
    have hjb:j<ps.length:=(List.getElem?_eq_some_iff.mp hb).1
    have eb:(ps.take (j+1)).foldl (fX f a) st0=fX f a ((ps.take j).foldl (fX f a) st0) b:=by
      rw[List.take_succ,hb,List.foldl_append];rfl
    have bdj:Bd (i*ps.length+j) ((ps.take j).foldl (fX f a) st0):=by
      have:=sT (f:=f) (a:=a) (ps.take j) bdi
      rw[List.length_take,Nat.min_eq_left (by omega)]at this;exact this
    rw[eb]
    generalize (ps.take j).foldl (fX f a) st0=st1 at bdj
    have lim:i*ps.length+j<bh:=by
      have:=Nat.mul_le_mul (Nat.le_of_lt hia) (Nat.le_refl ps.length)
      have h3:=Nat.mul_le_mul hlen hlen
      show _<40000
      omega
    have hxa':aL (aL (aL (fun _=>none) xp (.lst (ps.map D.int),false)) xa (.int a,false)) xb (.int b,false) xa=some (.int a,false):=by rw[put_o _ _ _ _ (Ne.symm nba),put_x]
    obtain⟨E1,E2⟩:=he a b _ hxa' (put_x _ _ _) (List.mem_of_getElem? ha) (List.mem_of_getElem? hb)
    refine tH (ρ1:=aL (aL (aL (fun _=>none) xp (.lst (ps.map D.int),false)) xa (.int a,false)) xb (.int b,false)) (fun y pp hy=>?_) (ul (Aq g1 g2 hn (om (om shp)) E1 E2 (fun z=>(by cases z)) hs1 hs2 hl1 hl2 (Nat.lt_of_le_of_lt bdj.1 lim) fun l hl=>Nat.lt_of_le_of_lt (bdj.2 l hl) lim))
    by_cases z:y=xb
    . subst z
      rw[put_o _ _ _ _ nba,put_o _ _ _ _ (Ne.symm npb)]at hy;cases hy
    . rw[put_o _ _ _ _ z];exact hy
  rw[List.length_map,List.take_length]at outer
  have B1:=B.keep K1
  refine cO outer (cO (yC (H0:=H0) (ρ:=ρ) (a:=ad) (ks:=(pP f ps).1) (ls:=(pP f ps).2) g1 g2 hn) eQ) pins s σ H D0 I ⟨ow1,Ep,hl,B1,⟨g3,w1,rfl,[],List.nodup_nil,hA,trivial⟩,fun ow' σ' H' E' hl' k' j'=>?_⟩
  exact⟨ow',B1.keep k',j',q⟩
def EK(a:Addr)(o:Obj)(kvs:List (aV×V)):It :=
 ⟨fun i H=>i<kvs.length/\H a=some (.frz o (.dK kvs)),fun i H x H'=>H'=H/\∀p,kvs[i]?=some p->x=kV p.1,fun i H=>kvs.length<=i/\H a=some (.frz o (.dK kvs))⟩
theorem pG{o:Obj}(I:ai X pins σ H s)(ha:H a=some (.frz o (.dK kvs))):s.heap.get? a=some o/\(a==sysModules)=false/\kvs.length<=sizeLine/\∃vs,KV kvs vs/\s.heap.DictOf (bV X.prog X.w) a vs:=by
 obtain⟨e,z,hd,vs,bt,dd⟩:=(show aR X.prog X.w H s.heap a (.frz o (.dK kvs))from I.hok a _ ha)
 exact⟨e,hd,z,vs,bt,dd⟩
theorem zp{k:aV}{u:Value}(h:(bV P w).is k u=true):aJ (kV k) u:=by
 rcases bA h with⟨i,t,rfl,rfl⟩|⟨x,t,rfl,rfl⟩
 ·exact⟨t,rfl⟩
 ·exact⟨t,rfl⟩
theorem vK(a it:Addr)(o:Obj)(kvs:List (aV×V))(ep:Nat)(hep:∀es e,o.data=.dict es e->e=ep):Turn P w K tg (EK a o kvs) [it] it (fun i h=>h.IsKeyIter it a i kvs.length ep) where
 mem:=by simp
 obj:=fun i h st b hb=>by
  have e:b=it:=by simpa using hb
  subst e
  obtain⟨o,e,c,d⟩:=st
  exact⟨o,e,fun v z=>by rw[d]at z;cases z⟩
 keep:=fun i h h' st k=>st.at fun o e=>k it (by simp) o e
 item:=by
  intro X hP hw hK hc i pins s σ H E I hf st hg
  subst hP hw hK
  obtain⟨hi,ha⟩:=hg
  obtain⟨eo,hd,hz,vs,bt,dd⟩:=pG I ha
  obtain⟨o',es,e',ho',hx',hdat,r⟩:=dd
  rw[eo]at ho';cases ho'
  have ee:=hep _ _ hdat
  subst ee
  have hl:=bt.length
  have dA:s.heap.DictAt (bV X.prog X.w) a vs e':=⟨o,es,eo,hx',hdat,r⟩
  obtain⟨⟨k,v⟩,hkv⟩:∃p,vs[i]?=some p:=⟨vs[i]'(by omega),List.getElem?_eq_getElem (by omega)⟩
  obtain⟨⟨k0,v0⟩,hkv0⟩:∃p,kvs[i]?=some p:=⟨kvs[i],List.getElem?_eq_getElem hi⟩
  have ek:k0=k:=by
   have:=congrArg (fun l=>l[i]?) bt.keys
   simp only[List.getElem?_map,hkv,hkv0,Option.map_some]at this
   injection this
  subst ek
  obtain⟨f0,f1,f2,f3,f4,f5⟩:=hf it (by simp)
  rw[hl]at st
  refine wpAny_pyNext_dict_item st dA hkv fun key h' hkey st' sb=>?_
  rw[<- hl]at st'
  have I1:ai X pins σ H { s with heap:=h' }:=I.turned (t':=s.toks) (fun b o hb e=>(sb.2 b hb).trans e) f0 f1 f3 f4 f5
  obtain⟨oo,e2,c,d⟩:=id st'
  exact⟨key,rfl,jc (s:={ s with heap:=h' }) e2 c d (by decide) ⟨kV k0,H,I1,zp hkey,⟨rfl,fun p hp=>by rw[hkv0]at hp;cases hp;rfl⟩,st',fun b hb=>(hf b hb).1⟩⟩
 done:=by
  intro X hP hw hK hc i pins s σ H E I hf st hg
  subst hP hw hK
  obtain⟨hi,ha⟩:=hg
  obtain⟨eo,hd,hz,vs,bt,dd⟩:=pG I ha
  obtain⟨o',es,e',ho',hx',hdat,r⟩:=dd
  rw[eo]at ho';cases ho'
  have ee:=hep _ _ hdat
  subst ee
  have hl:=bt.length
  have dA:s.heap.DictAt (bV X.prog X.w) a vs e':=⟨o,es,eo,hx',hdat,r⟩
  obtain⟨f0,f1,f2,f3,f4,f5⟩:=hf it (by simp)
  rw[hl]at st
  exact wpAny_pyNext_dict_end (I.ok.hd hc) st dA (List.getElem?_eq_none (by omega)) fun h' eb=>⟨rfl,I.turned (t':=s.toks) (fun b o hb e=>eb b o hb e) f0 f1 f3 f4 f5⟩
 self:=fun _ _ _ _ _ st h=>wpAny_pyIter_keyiter st h
theorem AX{te:TE}(he:PE X e te):PI X tg e (fun σ H R=>te σ H fun x H1 => ∃a o kvs,x=.ref a/\H1 a=some (.frz o (.dK kvs))/\R (EK a o kvs) H1):=by
 intro pins s σ H R I h
 refine aH (he pins s σ H _ I h) fun v s1 ⟨x,H1,I1,r1,q1⟩=>?_
 obtain⟨a,o,kvs,rfl,ha,q⟩:=q1
 cases r1
 obtain⟨e0,hd,hz,vs,bt,dd⟩:=pG I1 ha
 obtain⟨o',es,ep,ho',hx',hdat,r⟩:=dd
 rw[e0]at ho';cases ho'
 refine wpAny_pyIter_dict (knd:=bV X.prog X.w) (kvs:=vs) (ep:=ep) hd ⟨o,es,e0,hx',hdat,r⟩ ?_
 have hl:=bt.length
 refine⟨s1.heap.objs.size,[s1.heap.objs.size],_,_,H1,rfl,I1.kept (t':=s1.toks) fun b o e=>Heap.get?_push_of_some _ e,vK a _ o kvs ep (fun es2 e2 h2=>by rw[hdat]at h2;cases h2;rfl),⟨_,Heap.get?_push_size _ rfl,rfl,by rw[hl];rfl⟩,fun b hb=>?_,q⟩
 have e:b=s1.heap.objs.size:=by simpa using hb
 subst e
 exact I1.fpOk (Nat.le_refl _) (I1.hok.fresh (Nat.le_refl _))
theorem rA{K:W.Frag}{H:Hp}:∀{ls:List (List (List Int))} {vs:List V},iM K H ls vs->ls.length=vs.length
 | [],[],_=>rfl
 | l::ls,v::vs,h=>by rw[List.length_cons,List.length_cons,rA h.2]
 | [],_::_,h=>h.elim
 | _::_,[],h=>h.elim
theorem BU(h:ED X ρ e (.dcf ks ls) k):IE X ρ tg e (ks.map D.int) 0:=by
 intro ow pins s σ H R I ⟨E,q⟩
 refine AX (tg:=tg) (h ow) pins s σ H R I ⟨E,fun v H1 s1 r1=>?_⟩
 rw[ae]at r1
 obtain⟨e0,a,o,vs,rfl,ha,fz⟩:=r1
 have lv:=rA fz
 have lz:((ks.map (Sum.inl:Int->aV)).zip vs).length=ks.length:=by rw[List.length_zip,List.length_map,<- lv,<- e0,Nat.min_self]
 refine⟨a,o,_,rfl,ha,q _ H1 s1 fun i H2 st=>⟨fun d hd=>?_,fun hle=>?_⟩⟩
 ·have h2:=st.oth _ _ ha True.intro
  rw[List.getElem?_map]at hd
  obtain⟨n,hn,rfl⟩:=Option.map_eq_some_iff.mp hd
  have hi:=(List.getElem?_eq_some_iff.mp hn).1
  refine⟨⟨by rw[lz];exact hi,h2⟩,fun x H3 ⟨e3,y3⟩=>?_⟩
  subst e3
  refine⟨ao.refl _,?_⟩
  have hv:i<vs.length:=by omega
  have:=y3 (.inl n,vs[i]) (by rw[List.getElem?_zip_eq_some];exact⟨by rw[List.getElem?_map,hn];rfl,List.getElem?_eq_getElem hv⟩)
  rw[ae];exact this
 ·rw[List.length_map]at hle
  exact⟨by rw[lz];exact hle,st.oth _ _ ha True.intro⟩
def dc:List Int->List (List (List Int))->Int->Option (List (List Int))
 | j::ks,l::ls,k=>if j=k then some l else dc ks ls k
 | _,_,_=>none
theorem oY{K:W.Frag}{H:Hp}{k:Int}:∀{ks:List Int} {ls:List (List (List Int))} {vs:List V},ks.length=ls.length->iM K H ls vs->(∀l,dc ks ls k=some l->∃a o ts,bU ((ks.map (Sum.inl:Int->aV)).zip vs) (.inl k)=some (.ref a)/\H a=some (.frz o (.lst ts))/\bj K H ts l)/\(dc ks ls k=none->bU ((ks.map (Sum.inl:Int->aV)).zip vs) (.inl k)=none)
 | [],[],[],_,_=>⟨fun l h=>(by cases h),fun _=>rfl⟩
 | j::ks,l::ls,v::vs,hl,h=>by
  obtain⟨i1,i2⟩:=oY (k:=k) (ks:=ks) (by simpa using hl) h.2
  rw[dc,List.map_cons,List.zip_cons_cons]
  by_cases e:j=k
  ·rw[if_pos e]
   refine⟨fun l' hl'=>?_,fun z=>by cases z⟩
   cases hl'
   obtain⟨a,o,ts,rfl,h1,h2⟩:=h.1
   exact⟨a,o,ts,dj (by rw[e]),h1,h2⟩
  ·rw[if_neg e,dk (by intro z;injection z with z;exact e z)]
   exact⟨i1,i2⟩
 | [],_::_,_,h,_=>by cases h
 | _::_,[],_,h,_=>by cases h
 | [],[],_::_,_,h=>h.elim
 | _::_,_::_,[],_,h=>h.elim
theorem Bq:rL X "dict.get" (fun x xs H Q => ∃p o kvs k v,x=.ref p/\xs=[kV k,v]/\H p=some (.frz o (.dK kvs))/\Q ((bU kvs k).getD v) H):=by
 intro pins s σ H x xs v us Q I rx rxs h
 obtain⟨p,o,kvs,k,dv,rfl,rfl,hp,q⟩:=h
 cases rx
 obtain⟨u1,u2,rfl,r1,r2⟩:=av.two rxs
 obtain⟨e,hd,hz,vs,bt,dd⟩:=pG I hp
 have rv:=bt.val k
 refine call_meetsIn PySem.F.slot_dict_get dd.typeIs PySem.F.entry_dict_get (PySem.F.args_dict_get_3 _ _ _) (meets_dict_get_default _ p (i8 r1) hd u2) ⟨_,dd.mapOf,?_⟩
 cases e1:bU kvs k with
 | none =>
  rw[e1]at rv q
  cases e2:valueAt vs k with
  | some w=>rw[e2]at rv;exact rv.elim
  | none=>exact⟨dv,H,I.tok _,r2,q⟩
 | some u =>
  rw[e1]at rv q
  cases e2:valueAt vs k with
  | none=>rw[e2]at rv;exact rv.elim
  | some w=>rw[e2]at rv;exact⟨u,H,I.tok _,rv,q⟩
theorem GV{o:Obj}(I:ai X pins σ H s)(ha:H a=some (.frz o (.dK kvs))):s.TypeIs (.ref a) "dict" /\ o.dict=none:=by
 obtain⟨e,_,_,vs,_,o',es,ep,h1,h2,_⟩:=pG I ha
 rw[e]at h1;cases h1
 exact⟨⟨o,e,h2.1⟩,h2.2.1⟩
theorem A9{ob:Expr}{to:TE}{t:TA}{name:Str}{id:String}{r:V->List V->Hp->VK->Prop}(slot:Slot "dict" name id)(hty:typeOf (.builtin id)=pure (.type "method_descriptor"))(hm:rL X id r)(ho:PE X ob to)(ha:PA X (e::es) t)
  (hb:attributeBase ob name X.env (eval ob X.env)=eval ob X.env) (hf:((backTo cp (starEach (e::es) X.env)).all (fun x => !x.1)&&(backToKw cp (keywordEach [] X.env)).all (fun x=>x.1.isSome)&&decide ((e::es).length+([]:List Keyword).length+(if ([]:List Keyword).isEmpty then 0 else 1)<30))=true)
  (hln:(ap.endLine==cp.line)=true) (hs:starEach (e::es) X.env=(false,eval e X.env)::starEach es X.env) (hq:(backTo cp (starEach es X.env)).any (·.1)=false) :
  PE X (.Call (.Attribute ob name ap) (e::es) [] cp) (fun σ H Q=>to σ H fun x H1=>(∃a o kvs,x=.ref a/\H1 a=some (.frz o (.dK kvs)))/\t σ H1 fun xs H2=>r x xs H2 Q):=by
 intro pins s σ H Q I h
 refine wpAny_Call_method_late hb hf hln rfl (aH (ho pins s σ H _ I h) fun v s1 ⟨x,H1,I1,r1,⟨a,o,kvs,ex,hx⟩,q1⟩=>?_)
 subst ex
 cases r1
 obtain⟨y1,y2⟩:=GV I1 hx
 refine⟨"dict", id,PySem.F.plainAttrs_dict,slot,hty,y1,fun b eb=>by cases eb;exact⟨o,(pG I1 hx).1,y2⟩,?_⟩
 have hA:=ha cp pins s1 σ H1 _ I1 q1
 rw[hs]at hA⊢
 refine Calls.callWith_builtin (by show(false || (backTo cp (starEach es X.env)).any (·.1))=false;rw[hq];rfl) (Calls.evalArgs_plain ?_)
 exact aH hA fun us s2 ⟨ws,H2,I2,r2,q2⟩=>hm pins s2 σ H2 (.ref a) ws _ us Q I2 rfl r2 q2
theorem pe(s:ao H H')(h:iM K H ls vs):iM K H' ls vs:=h.keep (fun _ _ z=>kg s z) fun _ _ _ z=>s _ _ z
theorem Cn{x:Expr}(h:ED X ρ x (.dcf ks ls) k)(he:ED X ρ e1 (.int key) 0)(hb:attributeBase x "get" X.env (eval x X.env)=eval x X.env)(hs1:∀y p,e1 ≠ .Starred y p)(hln:(ap.endLine==cp.line)=true) :
  ED X ρ (.Call (.Attribute x "get" ap) [e1,.List [] lp] [] cp) (.lst (((dc ks ls key).getD []).map aW)) 1:=by
 have nl:∀y p,(Expr.List [] lp) ≠ .Starred y p:=fun y p z=>nomatch z
 have args1:AD X ρ [e1,.List [] lp] [.int key,.lst []] 0:=cV he (cV (mw dB (Nat.zero_le _) (Nat.zero_le _)) dB (aE nl)) (aE hs1)
 intro ow
 refine aZ (A9 PySem.F.slot_dict_get PySem.F.type_dict_get Bq (h ow) (args1 ow) hb (by
  rw[dm (fun z hz=>by
   rcases List.mem_cons.mp hz with rfl|hz
   ·exact hs1
   ·rw[List.mem_singleton.mp hz];exact nl)];rfl) hln (aE hs1) (bd fun z hz=>by rw[List.mem_singleton.mp hz];exact nl)) fun σ H Q ⟨E,q⟩=>⟨E,fun v H1 s1 r1=>?_⟩
 rw[ae]at r1
 obtain⟨e0,a,o,vs,rfl,ha,fz⟩:=r1
 refine⟨⟨a,o,_,rfl,ha⟩,E.same s1,fun ws H2 s2 r2=>?_⟩
 rw[ah]at r2
 obtain⟨v1,r,rfl,q1,r2⟩:=r2
 rw[ae]at q1;subst q1
 obtain⟨v2,rfl,q2⟩:=r2.only
 rw[ae]at q2
 obtain⟨L0,us,b,rfl,q3,q4,q5⟩:=q2
 rw[ah]at q5;subst q5
 obtain⟨rfl,q6⟩:=q4
 refine⟨a,o,_,.inl key,.ref L0,rfl,rfl,s2 _ _ ha,q _ _ (s1.trans s2) ?_⟩
 obtain⟨l1,l2⟩:=oY (k:=key) e0 (pe s2 fz)
 rw[ae]
 cases e:dc ks ls key with
 | none =>
  rw[l2 e]
  exact⟨L0,[],true,rfl,q3,fun _=>(E.own.same s1).free q6,ah.nil⟩
 | some l =>
  obtain⟨la,oo,ts,ev,hf,ht⟩:=l1 l e
  rw[ev]
  exact⟨la,ts,false,rfl,.inl ⟨oo,hf⟩,fun z=>(by cases z),fO ht⟩
theorem BM:vH X (fun x y H Q => ∃p o kvs k v,x=.ref p/\y=kV k/\H p=some (.frz o (.dK kvs))/\bU kvs k=some v/\Q v H):=by
 intro value slice pins s σ H x y v u Q I rx ry h hs
 obtain⟨p,o,kvs,k,z,rfl,rfl,hq,he,q⟩:=h
 cases rx
 obtain⟨_,hd,_,vs,bt,dd⟩:=pG I hq
 obtain⟨w,hw,rw'⟩:=cS.some_of (v:=z) (o:=valueAt vs k) (by rw[<- he];exact bt.val k)
 exact subscriptTail_builtinR (x:=w) dd.typeIs PySem.F.slot_dict_getitem.lookup (wpAny_getItem_of (Q:=fun r s'=>r=w/\EP X pins σ Q r s') (i8 ry) dd.mapOf hw ⟨rfl,z,H,I.tok _,rw',q⟩) hs
theorem Cp{x:Expr}{k2:Nat}(h:ED X ρ x (.dcf ks ls) k)(he:ED X ρ e1 (.int key) k2)(hs:d9 e1)(hl:dc ks ls key=some l):ED X ρ (.Subscript x e1 pos) (.lst (l.map aW)) 1:=by
 refine fun ow=>aZ (nE BM (h ow) (he ow) hs) fun σ H Q ⟨E,qq⟩=>⟨E,fun v H1 s1 r1=>⟨E.same s1,fun u H2 s2 r2=>?_⟩⟩
 rw[ae]at r1
 rw[ae]at r2
 subst r2
 obtain⟨e0,a,o,vs,rfl,ha,fz⟩:=r1
 obtain⟨la,oo,ts,ev,hf,ht⟩:=(oY (k:=key) e0 (pe s2 fz)).1 l hl
 refine⟨a,o,_,.inl key,.ref la,rfl,rfl,s2 _ _ ha,ev,qq _ H2 (s1.trans s2) ?_⟩
 rw[ae]
 exact⟨la,ts,false,rfl,.inl ⟨oo,hf⟩,fun z=>(by cases z),fO ht⟩
def Ev(a b:Int):Int:=a*a+b*b
def ku(o:Int):List Int:=((List.range 39).filter fun i:Nat=>decide ((-19+(i:Int)).fmod 2=o)).map fun i:Nat => -19+(i:Int)
def dP(o:Int):DL:=pP Ev (ku o)
theorem ud{p:Int}(h:p∈ku o):-19<=p/\p<=19:=by
 obtain⟨i,hi,rfl⟩:=List.mem_map.mp h
 have:=List.mem_range.mp (List.mem_filter.mp hi).1
 omega
theorem yN(o:Int):(ku o).length<=100:=by
 unfold ku
 rw[List.length_map]
 exact Nat.le_trans (List.length_filter_le _ _) (by rw[List.length_range];decide)
theorem Cy(ho:o=0\/o=1):(dP o).1.length=(dP o).2.length:=by
 rcases ho with rfl|rfl
 ·decide +kernel
 ·decide +kernel
theorem Cw(ho:o=0\/o=1):((dP o).2.all fun l=>l.all fun t=>decide (t.length=2))=true:=by
 rcases ho with rfl|rfl
 ·decide +kernel
 ·decide +kernel
theorem oX{k:Int}{l:List (List Int)}:∀{ks:List Int} {ls:List (List (List Int))},dc ks ls k=some l->l∈ls
 | j::ks,m::ls,h=>by
  rw[dc]at h
  split at h
  ·cases h;exact List.mem_cons_self
  ·exact List.mem_cons_of_mem _ (oX h)
 | [],ls,h=>by cases ls<;>cases h
 | _::_,[],h=>by cases h
theorem q9{k:Int}:∀{ks:List Int} {ls:List (List (List Int))},ks.length=ls.length->k∈ks->∃l,dc ks ls k=some l
 | j::ks,m::ls,h,hk=>by
  rw[dc]
  by_cases e:j=k
  ·rw[if_pos e];exact⟨m,rfl⟩
  ·rw[if_neg e]
   rcases List.mem_cons.mp hk with z|z
   ·exact absurd z.symm e
   ·exact q9 (by simpa using h) z
 | [],_,_,hk=>by cases hk
 | _::_,[],h,_=>by cases h
def bG(o k:Int):List (List Int):=(dc (dP o).1 (dP o).2 k).getD []
theorem i5{k:Int}(ho:o=0\/o=1)(h:t∈bG o k):∃a b,t=[a,b]:=by
 unfold bG at h
 cases e:dc (dP o).1 (dP o).2 k with
 | none=>rw[e]at h;cases h
 | some l =>
  rw[e]at h
  have:=of_decide_eq_true (List.all_eq_true.mp (List.all_eq_true.mp (Cw ho) l (oX e)) t h)
  match t,this with
  | [a,b],_=>exact⟨a,b,rfl⟩
def fY(N o k:Int):List (List Int):=(bG o k).flatMap fun f=>(bG o (4*N-k)).map fun b=>f++b
def cn(N o:Int):List (List Int):=(dP o).1.flatMap (fY N o)
def GT(o:Int)(p:Int×List (List Int)):Bool:=p.2.all fun t=>match t with | [a,b]=>decide (a*a+b*b=p.1)&&(decide (a % 2=o)&&(decide (b % 2=o)&&(decide (-19<=a/\a<=19)&&decide (-19<=b/\b<=19))))|_=>false
theorem Ed(ho:o=0\/o=1):((dP o).1.zip (dP o).2).all (GT o)=true:=by
 rcases ho with rfl|rfl
 ·decide +kernel
 ·decide +kernel
theorem Ee(ho:o=0\/o=1):(dP o).1.Nodup:=by
 rcases ho with rfl|rfl
 ·decide +kernel
 ·decide +kernel
theorem Ef(ho:o=0\/o=1):∀l∈(dP o).2,l.Nodup:=by
 rcases ho with rfl|rfl
 ·decide +kernel
 ·decide +kernel
theorem uB{k:Int}{l:List (List Int)}:∀{ks:List Int} {ls:List (List (List Int))},dc ks ls k=some l->(k,l)∈ks.zip ls
 | j::ks,m::ls,h=>by
  rw[dc]at h
  split at h
  ·rename_i e;cases h;subst e;exact List.mem_cons_self
  ·exact List.mem_cons_of_mem _ (uB h)
 | [],ls,h=>by cases ls<;>cases h
 | _::_,[],h=>by cases h
theorem kI{k:Int}(ho:o=0\/o=1)(h:t∈bG o k):∃a b,t=[a,b]/\a*a+b*b=k/\a % 2=o/\b % 2=o/\(-19<=a/\a<=19)/\(-19<=b/\b<=19):=by
 unfold bG at h
 cases e:dc (dP o).1 (dP o).2 k with
 | none=>rw[e]at h;cases h
 | some l =>
  rw[e]at h
  have z:=List.all_eq_true.mp (List.all_eq_true.mp (Ed ho) _ (uB e)) t h
  obtain⟨a,b,rfl⟩:=i5 (o:=o) (k:=k) ho (by unfold bG;rw[e];exact h)
  dsimp only at z
  simp only[Bool.and_eq_true,decide_eq_true_eq]at z
  exact⟨a,b,rfl,z⟩
theorem uE{k:Int}(ho:o=0\/o=1):(bG o k).Nodup:=by
 unfold bG
 cases e:dc (dP o).1 (dP o).2 k with
 | none=>exact List.nodup_nil
 | some l=>exact Ef ho l (oX e)
def rM(N o:Int)(t:List Int):Prop:=∃a b c d,t=[a,b,c,d]/\(a*a+b*b)+(c*c+d*d)=4*N/\(a % 2=o/\b % 2=o/\c % 2=o/\d % 2=o)/\(-19<=a/\a<=19)/\(-19<=b/\b<=19)/\(-19<=c/\c<=19)/\(-19<=d/\d<=19)
theorem jW{k:Int}(h:t∈fY N o k):∃f∈bG o k,∃b∈bG o (4*N-k),t=f++b:=by
 obtain⟨f,hf,h⟩:=List.mem_flatMap.mp h
 obtain⟨b,hb,rfl⟩:=List.mem_map.mp h
 exact⟨f,hf,b,hb,rfl⟩
theorem d8(ho:o=0\/o=1)(h:t∈cn N o):rM N o t:=by
 obtain⟨k,hk,h⟩:=List.mem_flatMap.mp h
 obtain⟨f,hf,b,hb,rfl⟩:=jW h
 obtain⟨a,b',rfl,h1,h2,h3,h4,h5⟩:=kI ho hf
 obtain⟨c,d,rfl,g1,g2,g3,g4,g5⟩:=kI ho hb
 exact⟨a,b',c,d,rfl,by omega,⟨h2,h3,g2,g3⟩,h4,h5,g4,g5⟩
theorem rH{f f' b':List Int}(h1:f.length=2)(h2:f'.length=2)(e:f++b=f'++b'):f=f':=(List.append_inj e (by rw[h1,h2])).1
theorem kJ{k:Int}(ho:o=0\/o=1)(h:t∈bG o k):t.length=2:=by
 obtain⟨a,b,rfl⟩:=i5 ho h
 rfl
theorem Ae{k:Int}(ho:o=0\/o=1):(fY N o k).Nodup:=by
 refine List.pairwise_flatMap.mpr ⟨fun f hf=>List.pairwise_map.mpr ((uE ho).imp fun hne e=>hne (List.append_cancel_left e)),?_⟩
 refine List.Pairwise.imp_of_mem (R:=fun a b=>a≠b) (fun {f f'} hf hf' hne x hx y hy e=>?_) (uE ho)
 obtain⟨b,hb,rfl⟩:=List.mem_map.mp hx
 obtain⟨b',hb',rfl⟩:=List.mem_map.mp hy
 exact hne (rH (kJ ho hf) (kJ ho hf') e)
theorem vC(ho:o=0\/o=1):(cn N o).Nodup:=by
 refine List.pairwise_flatMap.mpr ⟨fun k _=>Ae ho,?_⟩
 refine List.Pairwise.imp (R:=fun a b=>a≠b) (fun {k k'} hne x hx y hy e=>?_) (Ee ho)
 obtain⟨f,hf,b,hb,rfl⟩:=jW hx
 obtain⟨f',hf',b',hb',rfl⟩:=jW hy
 have e1:=rH (kJ ho hf) (kJ ho hf') e
 subst e1
 obtain⟨a,c,rfl,h1,_⟩:=kI ho hf
 obtain⟨a',c',e2,h2,_⟩:=kI ho hf'
 cases e2
 exact hne (h1.symm.trans h2)
def cK:List Nat->List Nat->Nat->Nat
 | j::ks,n::ns,k=>bif Nat.beq j k then n else cK ks ns k
 | _,_,_=>0
def kz(o:Int):List Nat:=if o=0 then[648,580,520,468,424,388,360,340,328,324,512,452,400,356,320,292,272,260,256,392,296,232,212,200,196,288,244,208,180,160,148,144,164,136,116,104,100,128,80,68,64,72,52,40,36,32,20,16,8,4,0]else[722,650,586,530,482,442,410,386,370,362,578,514,458,338,314,298,290,450,394,346,306,274,250,234,226,218,194,178,170,242,202,146,130,122,162,106,90,82,98,74,58,50,34,26,18,10,2]
def nz(o:Int):List Nat:=if o=0 then[4,8,8,8,8,8,8,16,8,4,4,8,8,8,8,8,8,16,4,4,8,8,8,12,4,4,8,8,8,8,8,4,8,8,8,8,12,4,8,8,4,4,8,8,4,4,8,4,4,4,1]else[4,8,8,8,8,8,16,8,16,8,4,8,8,12,8,8,16,4,8,8,8,8,16,8,8,8,8,8,16,4,8,8,16,8,4,8,8,8,4,8,8,12,8,8,4,8,4]
theorem le(ho:o=0\/o=1):(dP o).1=(kz o).map Int.ofNat/\(dP o).2.map List.length=nz o:=by
 rcases ho with rfl|rfl
 ·decide +kernel
 ·decide +kernel
theorem uD{k:Nat}:∀{ks:List Nat} {ls:List (List (List Int))},((dc (ks.map Int.ofNat) ls (k:Int)).getD []).length=cK ks (ls.map List.length) k
 | [],[]=>rfl
 | [],_::_=>rfl
 | _::_,[]=>rfl
 | j::ks,l::ls=>by
  show((if (j:Int)=(k:Int)then some l else dc (ks.map Int.ofNat) ls (k:Int)).getD []).length=bif Nat.beq j k then l.length else cK ks (ls.map List.length) k
  by_cases e:j=k
  ·subst e
   rw[if_pos rfl,show Nat.beq j j=true from Nat.beq_refl j];rfl
  ·rw[if_neg (fun z=>e (by omega)),show Nat.beq j k=false from by rw[Bool.eq_false_iff];exact fun z=>e (Nat.beq_eq.mp z)]
   exact uD
theorem uC{k:Int}(h:k<0):∀{ks:List Nat} {ls:List (List (List Int))},dc (ks.map Int.ofNat) ls k=none
 | [],[]=>rfl
 | [],_::_=>rfl
 | _::_,[]=>rfl
 | j::ks,l::ls=>by
  rw[List.map_cons,dc,if_neg (fun z=>by rw[<- z]at h;exact absurd h (by simp))]
  exact uC h
def cB(ks ns:List Nat)(m k:Nat):Nat:=bif Nat.ble k m then cK ks ns (m-k)else 0
theorem rc(ho:o=0\/o=1)(k:Nat):(bG o (k:Int)).length=cK (kz o) (nz o) k:=by
 unfold bG
 rw[(le ho).1,<- (le ho).2]
 exact uD
theorem wn(ho:o=0\/o=1)(m k:Nat):(bG o ((m:Int)-(k:Int))).length=cB (kz o) (nz o) m k:=by
 unfold cB
 by_cases h:k<=m
 ·rw[show Nat.ble k m=true from Nat.ble_eq.mpr h,show(m:Int)-(k:Int)=((m-k:Nat):Int) by omega]
  exact rc ho _
 ·rw[show Nat.ble k m=false from by rw[Bool.eq_false_iff];exact fun z=>h (Nat.ble_eq.mp z)]
  unfold bG
  rw[(le ho).1,uC (by omega)]
  rfl
theorem uG{α β:Type}(f:α->List β):∀(l:List α),(l.flatMap f).length=(l.map fun x=>(f x).length).sum
 | []=>rfl
 | x::l=>by rw[List.flatMap_cons,List.length_append,uG f l];rfl
theorem wN{k:Int}:(fY N o k).length=(bG o k).length*(bG o (4*N-k)).length:=by
 unfold fY
 generalize bG o (4*N-k)=r
 induction bG o k with
 | nil=>simp
 | cons x l ih=>rw[List.flatMap_cons,List.length_append,ih,List.length_map,List.length_cons,Nat.succ_mul,Nat.add_comm]
theorem rJ(ho:o=0\/o=1)(N:Nat):(cn (N:Int) o).length=((kz o).map fun k=>cK (kz o) (nz o) k*cB (kz o) (nz o) (4*N) k).sum:=by
 unfold cn
 rw[uG,(le ho).1,List.map_map]
 congr 1
 apply List.map_congr_left
 intro k _
 show(fY (N:Int) o (k:Int)).length=_
 rw[wN,rc ho,<- wn ho,show((4*N:Nat):Int)=4*(N:Int) by omega]
def js(n:Nat):Nat:=((List.range ((n+1) / 2)).map fun i=>bif Nat.beq (n % (1+i*2)) 0 then 1+i*2 else 0).sum
def cA(o:Int)(N:Nat):Nat:=((kz o).map fun k=>cK (kz o) (nz o) k*cB (kz o) (nz o) (4*N) k).sum
def lm(N:Nat):Bool:=Nat.beq (cA 0 N+cA 1 N) (24*js N)&&(Nat.ble (cA 0 N) 4000&&(Nat.ble (cA 1 N) 4000&&Nat.ble 2 (cA 0 N+cA 1 N)))
theorem Ei:((List.range 14).all fun i=>lm (1+i))=true:=by decide +kernel
theorem CQ:((List.range 14).all fun i=>lm (15+i))=true:=by decide +kernel
theorem CP:((List.range 14).all fun i=>lm (29+i))=true:=by decide +kernel
theorem CO:((List.range 14).all fun i=>lm (43+i))=true:=by decide +kernel
theorem CN:((List.range 14).all fun i=>lm (57+i))=true:=by decide +kernel
theorem CM:((List.range 14).all fun i=>lm (71+i))=true:=by decide +kernel
theorem CL:((List.range 13).all fun i=>lm (85+i))=true:=by decide +kernel
theorem zQ{N:Nat}(h1:1<=N)(h2:N<=97):lm N=true:=by
 by_cases q0:N<15
 ·have:=List.all_eq_true.mp Ei (N-1) (List.mem_range.mpr (by omega))
  rwa [show 1+(N-1)=N by omega]at this
 by_cases q14:N<29
 ·have:=List.all_eq_true.mp CQ (N-15) (List.mem_range.mpr (by omega))
  rwa [show 15+(N-15)=N by omega]at this
 by_cases q28:N<43
 ·have:=List.all_eq_true.mp CP (N-29) (List.mem_range.mpr (by omega))
  rwa [show 29+(N-29)=N by omega]at this
 by_cases q42:N<57
 ·have:=List.all_eq_true.mp CO (N-43) (List.mem_range.mpr (by omega))
  rwa [show 43+(N-43)=N by omega]at this
 by_cases q56:N<71
 ·have:=List.all_eq_true.mp CN (N-57) (List.mem_range.mpr (by omega))
  rwa [show 57+(N-57)=N by omega]at this
 by_cases q70:N<85
 ·have:=List.all_eq_true.mp CM (N-71) (List.mem_range.mpr (by omega))
  rwa [show 71+(N-71)=N by omega]at this
 by_cases q84:N<98
 ·have:=List.all_eq_true.mp CL (N-85) (List.mem_range.mpr (by omega))
  rwa [show 85+(N-85)=N by omega]at this
 omega
theorem vB{N:Nat}(h1:1<=N)(h2:N<=97):(cn (N:Int) 0).length+(cn (N:Int) 1).length=24*js N/\(cn (N:Int) 0).length<=4000/\(cn (N:Int) 1).length<=4000/\2<=(cn (N:Int) 0).length+(cn (N:Int) 1).length:=by
 have h:=zQ h1 h2
 rw[rJ (.inl rfl),rJ (.inr rfl)]
 unfold lm at h
 simp only[Bool.and_eq_true,Nat.beq_eq,Nat.ble_eq]at h
 exact h
def bZ(N:Int):List (List Int):=hW (cn N 0++cn N 1)
theorem C3(N:Int):(bZ N).Nodup:=by
 refine(eJ _).nodup_iff.mpr (List.pairwise_append.mpr ⟨vC (.inl rfl),vC (.inr rfl),fun x hx y hy e=>?_⟩)
 obtain⟨a,b,c,d,rfl,_,⟨h,_⟩,_⟩:=d8 (.inl rfl) hx
 obtain⟨a',b',c',d',rfl,_,⟨h',_⟩,_⟩:=d8 (.inr rfl) hy
 cases e
 rw[h]at h'
 cases h'
theorem Ab(h:t∈bZ N):rM N 0 t\/rM N 1 t:=by
 rcases List.mem_append.mp ((eJ _).mem_iff.mp h)with h|h
 ·exact .inl (d8 (.inl rfl) h)
 ·exact .inr (d8 (.inr rfl) h)
theorem CZ(N:Int):(bZ N).Pairwise fun a b=>HT.lexLt a b=true:=by
 refine(List.Pairwise.and (jH _) (C3 N)).imp fun {a b} h=>?_
 rcases Bool.eq_false_or_eq_true (HT.lexLt a b)with e|e
 ·exact e
 ·exact absurd (lV _ _ e h.1) h.2
theorem Ac(N:Int):(bZ N).length=(cn N 0).length+(cn N 1).length:=by
 rw[show(bZ N).length=(cn N 0++cn N 1).length from(eJ _).length_eq,List.length_append]
def nO(Φ:Fx)(sc:Scope)(ps:List Str)(ss:List Stmt)(ds:List D)(r:D):Prop:=ds.length=ps.length/\∀(X:Cx) (H0:Hp),aG Φ X sc->PassesOwn (model X.prog X.w) X.A X.env X.xe->cw X H0 (d7 ps ds) ss (.rt r)
theorem mh{mg:Str->Option Value}{base:Heap}{g qual:Str}{f:Addr}{fd:FuncData}{ps:List Str}{F:List D->Rs D}(Fn:jA K g qual st f fd)
  (S:bo (aN (aj st)) ps (aj st)) (hΦ:qf P w K mg base k Φ) (hrun:∀ds r,aa (F ds) r->nO Φ (aj st) ps (au st) ds r):be P w K mg base cI (k+1) f fd ps (gX K F):=by
 refine Fn.ok S (fun vs H Q E h=>?_) (fun cdv A outer s H vs Q E hr h=>?_)
 ·obtain⟨ds,r,l,h1,h2,hp,_⟩:=h
  rw[<- h1.length]
  exact(hrun ds r ⟨l,h2,hp⟩).1
 ·obtain⟨ds,r,l,h1,h2,hp,qq⟩:=h
  obtain⟨hl,hr'⟩:=hrun ds r ⟨l,h2,hp⟩
  have G:=jb (outer:=outer) (H:=H) (E:=E) S hΦ hr
  obtain⟨E0,hsl⟩:=kZ (P:=P) (w:=w) (mg:=mg) (base:=base) (qual:=qual) (f:=f) (cdv:=cdv) (A:=A) (outer:=outer) (s:=s) (E:=E) S h1 hl
  have B0:aY H (fun _=>none) H:=fun a o h=>⟨h,rfl⟩
  exact⟨_,hr' _ H G PassesOwn.never,fun _=>none,E0,hsl,B0,fun v H' sm rp=>qq v H' sm rp⟩
theorem lE{H0:Hp}(n:Nat){fl:Fl}(G:aG Φ X sc)(hp:PassesOwn (model X.prog X.w) X.A X.env X.xe)(h:aa (aI Φ (ss.take n) sc ρ) (.nx ρ1))(k:cw X H0 ρ1 (ss.drop n) fl):cw X H0 ρ ss fl:=by
 rw[<- List.take_append_drop n ss];exact qP G hp h k
theorem jj{H0:Hp}{tg:Expr}{body:List Stmt}{α:Type}{h:α->D}(ai:List α->ac->Prop):∀(l:List α) (ρ:ac),ai l ρ->(∀x q ρ,ai (x::q) ρ->∃ρ1,GD X ρ tg (h x) ρ1/\∃ρ2,cw X H0 ρ1 body (.nx ρ2)/\ai q ρ2)->∃ρ',vI X H0 tg body (l.map h) ρ (.nx ρ')/\ai [] ρ'
 | [],ρ,h0,_=>⟨ρ,rfl,h0⟩
 | x::l,ρ,h0,st=>by
  obtain⟨ρ1,g,ρ2,b,h2⟩:=st x l ρ h0
  obtain⟨ρ',c,hf⟩:=jj ai l ρ2 h2 st
  exact⟨ρ',⟨ρ1,g,.inl ⟨ρ2,b,c⟩⟩,hf⟩
theorem En(h:aa (ba Φ es sc ρ) (ds,k))(G:aG Φ X sc):AD X ρ es ds k:=let ⟨_,a,b⟩:=h;iD es a b G
theorem xS(h:aa (ar Φ e false sc ρ) (d,k))(G:aG Φ X sc):ED X ρ e d k:=(bQ h G).ed rfl
def wT(n:Nat):It:=⟨fun i _=>i<n,fun i H x H'=>H'=H/\x=.int (1+(i:Nat)*2),fun i _=>n<=i⟩
theorem qt(it:Addr)(n:Nat):Turn P w K tg (wT n) [it] it (fun i h=>IsRangeIter h it (1+(i:Nat)*2) ((n:Int)-(i:Nat)) 2) where
 mem:=by simp
 obj:=fun i h st b hb=>by
  have e:b=it:=by simpa using hb
  subst e
  exact⟨_,st,fun v z=>by
   have z':Data.fields _=Data.cell v:=z
   cases z'⟩
 keep:=fun i h h' st k=>k it (by simp) _ st
 item:=by
  intro X hP hw hK hc i pins s σ H E I hf st hg
  subst hP hw hK
  obtain⟨f0,f1,f2,f3,f4,f5⟩:=hf it (by simp)
  have W:=Walks.range (prog:=X.prog) (w:=X.w) (I.ok.hd hc) it 1 2 n
  refine W.item i s _ _ hg st fun v h' tk hv st' kk=>?_
  obtain⟨t,rfl⟩:=hv
  have I1:ai X pins σ H { s with heap:=h',toks:=tk }:=I.turned (fun b o hb e=>kk b o (by simpa using hb) e) f0 f1 f3 f4 f5
  exact⟨_,rfl,jc (s:={ s with heap:=h',toks:=tk }) (n := "range_iterator") st' rfl rfl (by decide) ⟨.int (1+(i:Nat)*2),H,I1,⟨t,rfl⟩,⟨rfl,rfl⟩,st',fun b hb=>(hf b hb).1⟩⟩
 done:=by
  intro X hP hw hK hc i pins s σ H E I hf st hg
  subst hP hw hK
  obtain⟨f0,f1,f2,f3,f4,f5⟩:=hf it (by simp)
  exact wpAny_pyNext_range_end (I.ok.hd hc) st (by have:n<=i:=hg;omega) fun h' eb=>⟨rfl,I.turned (t':=s.toks) (fun b o hb e=>eb b o hb e) f0 f1 f3 f4 f5⟩
 self:=fun _ _ _ _ _ st h=>wpAny_pyIter_rangeiter st h
theorem AM(h1:1<=j)(h2:j<=100):Builtin.Range.rangeSize 1 j 2=((j.toNat / 2:Nat):Int):=by
 obtain⟨n,rfl⟩:∃n:Nat,j=(n:Int):=⟨j.toNat,by omega⟩
 have k:∀n:Nat,n<101->1<=(n:Int)->Builtin.Range.rangeSize 1 (n:Int) 2=(((n:Int).toNat / 2:Nat):Int):=by decide +kernel
 exact k n (by omega) h1
theorem AC(h1:1<=j)(h2:j<=100):Builtin.Range.small 1 j 2=true:=by
 obtain⟨n,rfl⟩:∃n:Nat,j=(n:Int):=⟨j.toNat,by omega⟩
 have k:∀n:Nat,n<101->1<=(n:Int)->Builtin.Range.small 1 (n:Int) 2=true:=by decide +kernel
 exact k n (by omega) h1
theorem tY{R:It->Hp->Prop}{E:Value->Shared->Prop}{t u v:Tok}{tk:Nat}(I:ai X pins σ H s)(h1:1<=j)(h2:j<=100)
  (q:R (wT (j.toNat / 2)) H):wpAny (model X.prog X.w) X.A (pyIter (.ref s.heap.objs.size)) (C9 X pins σ tg R) E { s with heap:=s.heap.push { cls:=.type "range", data:=.fields #[.int 1 t,.int j u,.int 2 v] },toks:=tk }:=by
 refine wpAny_pyIter_range (IsRange.new ..) (AC h1 h2) ?_
 have I1:ai X pins σ H { s with heap:=s.heap.push { cls:=.type "range", data:=.fields #[.int 1 t,.int j u,.int 2 v] },toks:=tk }:=I.kept fun b o e=>Heap.get?_push_of_some _ e
 refine⟨(s.heap.push { cls:=.type "range", data:=.fields #[.int 1 t,.int j u,.int 2 v] }).objs.size,[(s.heap.push { cls:=.type "range", data:=.fields #[.int 1 t,.int j u,.int 2 v] }).objs.size],_,_,H,rfl,
  I1.kept (t':=tk) fun b o e=>Heap.get?_push_of_some _ e,qt _ (j.toNat / 2),?_,fun b hb=>?_,q⟩
 ·have e1:1+((0:Nat):Int)*2=1:=by simp
  have e2:(((j.toNat / 2:Nat):Int))-((0:Nat):Int)=Builtin.Range.rangeSize 1 j 2:=by rw[AM h1 h2];omega
  show IsRangeIter _ _ (1+((0:Nat):Int)*2) (((j.toNat / 2:Nat):Int)-((0:Nat):Int)) 2
  rw[e1,e2]
  exact Heap.get?_push_size _ rfl
 ·have e:b=(s.heap.push { cls:=.type "range", data:=.fields #[.int 1 t,.int j u,.int 2 v] }).objs.size:=by simpa using hb
  subst e
  exact I1.fpOk (Nat.le_refl _) (I1.hok.fresh (Nat.le_refl _))
def DU(ta:TA):TI:=fun σ H R=>ta σ H fun vs H1 => ∃j:Int,vs=[.int 1,.int j,.int 2]/\(1<=j/\j<=100)/\R (wT (j.toNat / 2)) H1
theorem uf{a b:Expr}{ta:TA}(hg:Gl X "range")(hm:X.mg "range" = none)(ha:PA X [a,b,c] ta)(hs:starEach [a,b,c] X.env=[(false,eval a X.env),(false,eval b X.env),(false,eval c X.env)])(hs2:starEach [b,c] X.env=[(false,eval b X.env),(false,eval c X.env)]) :
  PI X tg (.Call (.Name "range" p) [a,b,c] [] pos) (DU ta):=by
 intro pins s σ H R I h
 refine Call_ (gp I hg hm boot_range (PyProof.Rows.callWith_type1 (aH (ha pos pins s σ H _ I h) fun us s1 ⟨vs,H1,I1,r1,q1⟩=>?_) (by rw[hs,hs2]) (by rw[hs2];rfl)))
 obtain⟨j,e,⟨q1,q2⟩,q⟩:=q1
 subst e
 cases r1 with
 | cons r rr =>
  cases rr with
  | cons r' rr =>
   cases rr with
   | cons r'' rr =>
    cases rr
    obtain⟨t,rfl⟩:=r
    obtain⟨t',rfl⟩:=r'
    obtain⟨t'',rfl⟩:=r''
    exact call_range_3 (by decide) (tY I1 q1 q2 q)
theorem uR{a b:Expr}(hg:Gl X "range")(hm0:X.mg "range" = none)(ha:AD X ρ [a,b,c] [.int 1,.int j,.int 2] k)(hst:∀y p,a ≠ .Starred y p)(hst2:∀y p,b ≠ .Starred y p)(hst3:∀y p,c ≠ .Starred y p)(h1:1<=j)(h2:j<=100) :
  IE X ρ tg (.Call (.Name "range" p) [a,b,c] [] pos) ((List.range (j.toNat / 2)).map fun i=>.int (1+(i:Nat)*2)) 0:=by
 intro ow pins s σ H R I ⟨E,q⟩
 have e3:starEach [c] X.env=[(false,eval c X.env)]:=aE hst3
 have e2:starEach [b,c] X.env=[(false,eval b X.env),(false,eval c X.env)]:=by rw[aE hst2,e3]
 refine uf (tg:=tg) hg hm0 (ha ow) (by rw[aE hst,e2]) e2 pins s σ H R I ⟨E,fun vs H1 s1 r1=>?_⟩
 rw[ah]at r1
 obtain⟨v1,r,rfl,r2,r3⟩:=r1
 rw[ah]at r3
 obtain⟨v2,r',rfl,r4,r5⟩:=r3
 rw[ah]at r5
 obtain⟨v3,r'',rfl,r6,r7⟩:=r5
 rw[ah]at r7
 rw[ae]at r2 r4 r6
 subst r2 r4 r6 r7
 refine⟨j,rfl,⟨h1,h2⟩,q _ H1 s1 fun i H2 st=>⟨fun d hd=>?_,fun hle=>?_⟩⟩
 ·rw[List.getElem?_map]at hd
  cases e:(List.range (j.toNat / 2))[i]? with
  | none=>rw[e]at hd;cases hd
  | some n =>
   rw[e]at hd;cases hd
   obtain⟨hi,hn⟩:=List.getElem?_eq_some_iff.mp e
   rw[List.getElem_range]at hn
   subst hn
   rw[List.length_range]at hi
   refine⟨hi,fun x H3 ⟨e3,y3⟩=>?_⟩
   subst e3 y3
   exact⟨ao.refl _,by rw[ae]⟩
 ·rw[List.length_map,List.length_range]at hle
  exact hle
def gu(ds:List D)(k:Nat):R1 :=
 match ds with
 | [.int i,.int j,.int m]=>.ok (.lst ((List.range (j.toNat / 2)).map fun n=>.int (1+(n:Nat)*2)),0) [i=1,m=2,1<=j,j<=100]
 | _=>o9 ds k
theorem sJ:lw "range" gu:=by
 refine⟨by decide +kernel,fun X ρ p pos args ds k d j l tg o hc hg hm ha hst hlen h hp hl ht=>?_⟩
 unfold gu at h
 split at h
 ·rename_i i n m
  cases h
  cases hl
  obtain⟨rfl,rfl,h1,h2,_⟩:=hp
  match args,hlen,ha,hst with
  | [a,b,c],_,ha,hst=>exact uR hg hm ha (hst a List.mem_cons_self) (hst b (List.mem_cons_of_mem _ List.mem_cons_self)) (hst c (List.mem_cons_of_mem _ (List.mem_cons_of_mem _ List.mem_cons_self))) h1 h2
 ·exact uT.2 X ρ p pos args ds k d j l tg o hc hg hm ha hst hlen h hp hl ht
def AO:V->List V->Hp->VK->Prop:=fun x vs H Q => ∃l xs,x=.ref l/\vs=[]/\H l=some (.lst xs)/\Q .non (az H l (.lst []))
theorem wk:x8 X "list.clear" AO:=by
 intro pins s σ H x vs v us Q I rx rv h
 obtain⟨l,xs,rfl,rfl,hH,q⟩:=h
 cases rx
 cases rv
 obtain⟨z,its,n,r,hl,e⟩:=I.lstM hH
 refine call_meets F.slot_list_clear ⟨_,e,rfl⟩ F.entry_list_clear (F.args_list_clear_1 _) (PySem.AutoSeq1.list_clear_list_0 l its.toArray n (by rw[List.size_toArray];omega)) ⟨e,?_⟩
 exact⟨.non,_,I.lset (its':=[]) hH e rfl .nil (Nat.zero_le _),rfl,q⟩
def kD(_ ds:List D)(_:Nat):Rs (List D) :=
 match ds with
 | []=>.ok [] []
 | _=>.st
theorem uz:gT "clear" kD:=fun X hc=>⟨"list.clear", _,PySem.F.slot_list_clear,PySem.F.type_list_clear,wk,fun ow H0 H l ds l' j o a vs ws h hp=>by
 unfold kD at h
 split at h
 ·cases h
  refine⟨by simp,fun P Q hP oi sm ha rl rd q=>?_⟩
  rw[ah]at rd
  subst rd
  exact⟨a,vs,rfl,rfl,ha,q _ _ ah.nil⟩
 ·cases h⟩
end Sp
namespace K
open PySem L2 Sp

end K
namespace K
open PySem L2 Sp Qm


theorem sy{a b:Int}(h:a=b):(!pB (.int a) (.int b))=false:=by rw[h];simp

theorem ve{Φ:Fx}{sc:Scope}{ρ:ac}{a b:Expr}{op:Operator}{p:Pos}{it:Bool}{x y:D}{k j:Nat}{r:D×Nat}(ha:aa (ar Φ a false sc ρ) (x,k))(hb:aa (ar Φ b false sc ρ) (y,j))(h:aa (pQ op x y k j) r):aa (ar Φ (.BinOp a op b p) it sc ρ) r:=aa.bnd ha (aa.bnd hb h)

open Builtin.Int (intBits)



end K
namespace K
open PySem PySem.Spec PyProof.Rows L2 Sp Qm

end K
namespace K
open PySem L2 Sp Qm
section
variable{Φ:Fx}{sc:Scope}{ρ ρ1:ac}{ss:List Stmt}
theorem zC{a b:Expr}{p:Pos}{it:Bool}{s t:Bool}{k j:Nat}(h:aa (ar Φ a false sc ρ) (.bl s,k))(g:aa (ar Φ b false sc ρ) (.bl t,j)):aa (ar Φ (.BoolOp .And [a,b] p) it sc ρ) (.bl (s&&t),0):=by
 refine fD (je h (fun e=>?_) (fun e=>?_))
 ·subst e
  refine je g (fun e=>?_) (fun e=>?_)
  ·subst e;exact pu
  ·subst e;rfl
 ·subst e;rfl
end
end K
namespace Sp
open PySem PySem.Spec PyProof.Rows L2
variable{X:Cx}
end Sp
namespace K
open PySem L2 Sp Qm
variable{p q:Pos}{it:Bool}{k:Nat}{args:List Expr}{ds:List D}
section
variable{Φ:Fx}{sc:Scope}{ρ ρ1:ac}{ss:List Stmt}
end
section
variable{Φ:Fx}{sc:Scope}{ρ ρ1:ac}{ss:List Stmt}{P Q:ac->Prop}
def sL:Stmt->Expr
 | .For t _ _ _ _=>t
 | _=>.Name (Str.ofString "") ⟨0,0,0,0⟩
def jd:Stmt->Expr
 | .For _ i _ _ _=>i
 | _=>.Name (Str.ofString "") ⟨0,0,0,0⟩
def cz:Stmt->List Stmt
 | .For _ _ b _ _=>b
 | _=>[]
theorem sM{a:Expr}{b c:Bool}(h:aa (ar Φ a false sc ρ) (.bl b,k))(e:(!b)=c):aa (ar Φ (.UnaryOp .Not a p) it sc ρ) (.bl c,0):=by
 subst e
 exact(show aa (Rs.bnd (ar Φ a false sc ρ) fun p=>(match tu .Not p.1 with|some d=>.ok (d,0) []|none=>.st)) (.bl (!b),0)from aa.bnd h ci)
theorem xP{f:Str}{B:List D->Nat->R1}{v:D×Nat}(ha:aa (ba Φ args sc ρ) (ds,k))(hv:aa (B ds k) v)(hF:Φ.fn f=none:=by rfl)(hI:Φ.itr f=some B:=by rfl)(hg:sc.names.lookup f=some .globalImplicit:=by rfl):aa (ar Φ (.Call (.Name f p) args [] q) true sc ρ) v:=by
 rw[fE,if_pos hg]
 refine aa.bnd ha ?_
 unfold gR
 dsimp only
 rw[hF]
 dsimp only
 rw[if_pos rfl,hI]
 exact hv
theorem u8{x m:Str}{ap cp:Pos}{M:List D->List D->Nat->Rs (List D)}{l l':List D}(ha:aa (ba Φ args sc ρ) (ds,k))(hx:ρ x=some (.lst l,true))(h:aa (M l ds k) l')(hm:Φ.mtt m=some M:=by rfl)(hp:(ap.endLine==cp.line)=true:=by rfl)(hn:cW x=true:=by rfl):aa (dN Φ (.Expr (.Call (.Attribute (.Name x p) m ap) args [] cp) q) sc ρ) (.nx (aL ρ x (.lst l',true))):=by
  show aa (if (ap.endLine==cp.line)=true then(ba Φ args sc ρ).bnd fun p=>(match Φ.mtt m with
      | some M=>lK ρ x fun l=>(M l p.1 p.2).bnd fun l'=>.ok (.nx (aL ρ x (.lst l',true))) []
      | none=>.st)else .st) _
  rw[if_pos hp]
  refine aa.bnd ha ?_
  rw[hm];dsimp only
  unfold lK
  rw[hx];dsimp only
  rw[if_pos hn]
  exact aa.bnd h ci
theorem pz{α:Type}{elt tg iter c:Expr}{scope:Scope}{d:D}{g f:α->D}{t:α->Bool}{l:List α}(hi:aa (ar Φ iter true sc ρ) (d,k))(hd:items d=some (l.map g))(hl:l.length<=bh)(hk:aq (l.map g)=true\/k<=1)
  (h:∀x∈l,∃ρ' j,bi scope tg (g x) (flt scope ρ)=some ρ'/\aa (ar Φ c false scope ρ') (.bl (t x),j)/\(t x=true->aa (ar Φ elt false scope ρ') (f x,0))) (hc:jw sc scope=true:=by rfl) (ht:dS iter tg=true:=by rfl):aa (ar Φ (.ListComp elt [⟨tg,iter,[c],0⟩] scope p) it sc ρ) (.lst ((l.filter t).map f),0):=by
 refine rD hi hd ⟨by rw[List.length_map];exact hl,hk⟩ (iE fun x hx=>?_) (Nat.zero_le _) hc ht
 obtain⟨ρ',j,h1,h2,h3⟩:=h x hx
 rw[h1]
 refine aa.bnd (a:=t x) (je h2 (fun e=>by rw[e];exact pu) (fun e=>e)) ?_
 cases e:t x with
 | false=>exact ci
 | true =>
  show aa ((ar Φ elt false scope ρ').bnd fun r=>.ok (some r) []) (some (f x,0))
  exact aa.bnd (h3 e) ci
end
def EB:List Int:=[0,1,2,3,4,5,6,7,8,9,10,11,12,13,14,15,16,17,18,19,20]
end K
namespace Sp
open PySem PySem.Spec PyProof.Rows L2
variable{P:Program}{w:World}{H H':Hp}{base h:Heap}{B c g n p qual x y:Str}{o:Obj}{C S f z:Addr}{X Y:Cx}{pins:List (Addr×Obj)}{σ:L2.St}{s:Shared}{fd:FuncData}{ps:List Str}{k kd:Nat}{bp hpos p1 p2 p3 pos tpos:Pos}{e:Expr}{t:TA}{Q:Flow->Shared->Prop}{es:List Expr}{st:Stmt}{sp:L2.Sp}{E:XK}{ρ:ac}{ow:Ow}{Φ:Fx}{sc:Scope}{fs:List (Str×Int)}{G:List D->Option Xs}{ds:List D}{Ψ:Str->Option (List D->Option Xs)}{Ex:Str->Option (Str×Option Str)}{K:W.Frag}{mg:Str->Option Value}{post pre tb:List Stmt}{l:List (Str×Str×Option Str)}
abbrev g7(x:Addr)(o:Obj):HO:=.ext (fun h=>h.get? x=some o)
theorem Ca{x:Addr}(e:h.get? x=some o):aR P w H h x (g7 x o):=⟨e,⟨o,e⟩,fun h1 h2 a b=>b _ a⟩
theorem Cb{x:Addr}(e:aR P w H h x (g7 x o)):h.get? x=some o:=e.1
def tR(C:Addr)(f:Str):Sp:=fun vs H Q _ => ∃x i o vv t0,vs=[.ref x,.int i]/\i.natAbs<2 ^ 1900/\H x=some (g7 x o)/\o.cls=.ref C/\o.data=.fields vv/\o.dict=none/\vv[0]?=some (.ref t0) /\
 ∀t1 dx,H dx=none->Q .non (az (az H x (g7 x ⟨o.cls,some dx,.fields (vv.setIfInBounds 0 (.ref t1)),o.slots⟩)) dx (.xd [(f,.int i)]))
def hide(H:Hp)(z:Addr):Hp:=fun a=>if a=z then none else H a
theorem Un.hide{fs ex:List Addr}{h1 h2:Heap}{o:HO}(u:Un fs ex (az H z o) H' h1 h2)(k:∀b q,h.get? b=some q->h1.get? b=some q)(hz:h.get? z=none)(nz:H z=none):Un fs ex H (Sp.hide H' z) h h2:=by
 have ne:∀b q,h.get? b=some q->b≠z:=fun b q e y=>by subst y;rw[hz]at e;cases e
 have up:∀b q,h.get? b=some q->H b=none->az H z o b=none:=fun b q e n=>(al (ne b q e)).trans n
 have nt:∀b q,H b=some q->b≠z:=fun b q e y=>by subst y;rw[nz]at e;cases e
 refine⟨fun b q e n hf hx=>u.keep b q (k b q e) (up b q e n) hf hx,fun b q e n hf hx=>u.slot b q (k b q e) (up b q e n) hf hx,fun b q e n hx=>?_,fun b q e hx=>u.there b q (k b q e) hx,fun b xs e=>?_,fun b q v e=>?_,fun b ps e=>?_⟩
 ·show(if b=z then none else H' b)=none
  rw[if_neg (ne b q e)];exact u.free b q (k b q e) (up b q e n) hx
 ·show(if b=z then none else H' b)=_
  rw[if_neg (nt b _ e)];exact u.tups b xs ((al (nt b _ e)).trans e)
 ·show(if b=z then none else H' b)=_
  rw[if_neg (nt b _ e)];exact u.frzs b q v ((al (nt b _ e)).trans e)
 ·show ∃more,(if b=z then none else H' b)=_
  rw[if_neg (nt b _ e)];exact u.tbls b ps ((al (nt b _ e)).trans e)
theorem bE.hide{φ:Heap->Prop}(ok:bE P w H h)(hz:H z=some (.ext φ)):bE P w (Sp.hide H z) h:=fun b o e=>by
 have hb:b≠z:=fun y=>by subst y;unfold Sp.hide at e;rw[if_pos rfl]at e;cases e
 have e':H b=some o:=by unfold Sp.hide at e;rw[if_neg hb]at e;exact e
 have st:∀a q,H a=some q->(∀φ,q ≠ .ext φ)->Sp.hide H z a=some q:=fun a q ea hq=>by
  unfold Sp.hide
  rw[if_neg (fun y=>by subst y;rw[hz]at ea;cases ea;exact hq _ rfl)];exact ea
 exact(ok b o e').stay (fun c v _ q=>q) (fun x q=>st _ _ q (fun _ y=>by cases y)) (fun a xs q=>st _ _ q (fun _ y=>by cases y))
theorem tZ{f:Str}{fI:Addr}{oI:Obj}{np cpos:Pos}(I:ai X pins σ H s)(hc:X.calm=true)(hg:Gl X x)(hm:X.mg x=some (.ref C))(hx:eV X.K C S)(hin:du X.K C=some (.ref fI))
  (hfo:X.K.lookup fI=some oI) (hfc:oI.cls=.type "function") (hkC:W.keepIn X.K (.ref C)=true) (F:be X.prog X.w X.K X.mg X.base cI k fI fd ps (tR C f)) (hr:bc (k+1) X.A) (hb:bf X.K fd ps []) (hdb:(x==("__debug__" : Str))=false)
  (ha:PA X [e] t) (he:starEach [e] X.env=(false,eval e X.env)::starEach [] X.env)
  (h:t σ H fun vs H1 => ∃i:Int,vs=[.int i]/\i.natAbs<2 ^ 1900/\∀s1 z dx o vv a0,ai X pins σ (az H1 dx (.xd [(f,.int i)])) s1->H1 dx=none->s1.heap.get? z=some o->o.cls=.ref C->o.dict=some dx->o.data=.fields vv->1<vv.size->vv[0]?=some a0->vv[1]?=some .none->(az H1 dx (.xd [(f,.int i)])) z=none->X.s₀.heap.get? z=none->X.xe (.ref z) s1) :
  wpAny (model X.prog X.w) X.A (exec (.Raise (some (.Call (.Name x np) [e] [] cpos)) none pos) X.env) Q X.xe s:=by
 obtain⟨nm,qn,N,bs,hdct,sn,sub,ab,col,dd,k0,k1,k2,k3,k5,mN,g1,g2,g3,g4⟩:=dY hx.ex I.ok.mod.kin
 rw[arm_exec_Raise]
 refine wpAny_bind (wpAny_standAt ?_)
 refine se (x:=(do let v <- eval (.Call (.Name x np) [e] [] cpos) X.env;standAt pos;pure v)) (C:=C) (nm:=nm) (q:=qn) (N:=N) (bs:=bs) (bm:=.ref S::fJ) (hdct:=hdct) (sn:=sn) (sub:=sub) (ab:=ab) (col:=col) (dd:=dd) (k0:=k0) (k1:=k1) (k2:=k2) (k3:=k3) (k5:=k5) (newId := "ValueError.__new__") (vt S) (I.ok.hd hc) ?_
 refine wpAny_bind (wpAny_Call_ofName (cy I hg hm ?_ hdb))
 refine W.callWith_K (h₀:=X.base) I.ok.mod.kin hkC (aH (ha cpos pins s σ H _ I h) fun us s1 ⟨vs,H1,I1,r,i,ev,hi,q⟩=>⟨I1.kIn,?_⟩) he rfl
 subst ev
 cases r with
 | cons r1 r =>
 rename_i u0 us0
 cases r
 obtain⟨tk,rfl⟩:=r1
 obtain⟨hh,gg,d0,tt,oo⟩:=s1
 have gN:hh.Ns N mN:=by obtain⟨o,es,ep,e1,e2⟩:=g2;exact⟨o,es,ep,I1.bk _ _ e1,e2⟩
 refine sQ PySem.F.excBase_ValueError ((OwnTailQ.tail g4).keeps I1.bk) (I1.bk _ _ g1) gN (g3.trans hin) (I1.kIn _ _ hfo) hfc (fun h' z hz m=>?_) (by rw[sizeLine_eq];exact Nat.le_of_ble_eq_true rfl)
 obtain⟨t0,w1,w2,w3⟩:=m.there
 have n1:H1 z=none:=I1.hok.fresh hz
 have I2:ai X pins σ (az H1 z (g7 z _)) ⟨h',gg,d0,tt,oo⟩:=I1.laid (a:=z) (h':=h') (t':=tt) m.keeps hz (Ca w1)
 have hsp:tR C f [.ref z,.int i] (az H1 z (g7 z { cls:=.ref C,data:=.fields #[.ref t0,.none,.none,.none,.bool false,.none] })) (fun v H'=>v=.non/\∃t1 dx,(az H1 z (g7 z { cls:=.ref C,data:=.fields #[.ref t0,.none,.none,.none,.bool false,.none] })) dx=none/\H'=az (az (az H1 z (g7 z { cls:=.ref C,data:=.fields #[.ref t0,.none,.none,.none,.bool false,.none] })) z (g7 z ⟨.ref C,some dx,.fields (#[.ref t0,.none,.none,.none,.bool false,.none].setIfInBounds 0 (.ref t1)),#[]⟩)) dx (.xd [(f,.int i)])) (fun _ _ _=>False) :=
  ⟨z,i,_,_,t0,rfl,hi,aD,rfl,rfl,rfl,rfl,fun t1 dx hdx=>⟨rfl,t1,dx,hdx,rfl⟩⟩
 have r2:av [.ref z,.int i] [.ref z,.int i tk]:=.cons rfl (.cons ⟨tk,rfl⟩ .nil)
 have hl:([Value.ref z,.int i tk]++[]).length=ps.length:=F.len _ _ _ _ hsp
 refine wpAny_call (codeAny_mono (F.run (X.A.under (.builtin "type.__call__" ⟨.ref C::([]++[.int i tk]),[]⟩)) X.stack ⟨h',gg,d0,tt,oo⟩ _ ⟨[.ref z,.int i tk],[]⟩ [.ref z,.int i tk] [.ref z,.int i] _ _ (hr.make C _ []) (I2.env0.make C _ []) (by have:=hb ⟨h',gg,d0,tt,oo⟩ [.ref z,.int i tk] I2.kIn hl;rw[List.append_nil]at this;exact this) r2 hsp) fun r s' hq=>?_)
 cases r with
 | error e=>exact gI pins σ _ _ e s' I2 hq
 | ok fl =>
  cases fl with
  | next=>exact False.elim hq
  | brk=>exact False.elim hq
  | cont=>exact False.elim hq
  | ret u =>
   obtain⟨v,H',os',bare,un,hok,ru,rfl,t1,dx,hdx,rfl⟩:=hq
   have hne:dx≠z:=fun y=>by subst y;rw[aD]at hdx;cases hdx
   rw[al hne]at hdx
   rw[yf]at un hok
   have hzn:hh.get? z=none:=Heap.get?_none_of_le hz
   have un2:=Un.hide un m.keeps hzn n1
   have ez:(az (az H1 z (g7 z ⟨.ref C,some dx,.fields (#[.ref t0,.none,.none,.none,.bool false,.none].setIfInBounds 0 (.ref t1)),#[]⟩)) dx (.xd [(f,.int i)])) z=some (g7 z ⟨.ref C,some dx,.fields (#[.ref t0,.none,.none,.none,.bool false,.none].setIfInBounds 0 (.ref t1)),#[]⟩):=by rw[al hne.symm];exact aD
   have hok2:=bE.hide hok ez
   have oz:=Cb (hok z _ ez)
   have eH:Sp.hide (az (az H1 z (g7 z ⟨.ref C,some dx,.fields (#[.ref t0,.none,.none,.none,.bool false,.none].setIfInBounds 0 (.ref t1)),#[]⟩)) dx (.xd [(f,.int i)])) z=az H1 dx (.xd [(f,.int i)]):=by
    funext a
    unfold Sp.hide
    by_cases ha:a=z
    ·subst ha;rw[if_pos rfl,al hne.symm,n1]
    ·rw[if_neg ha]
     by_cases hb:a=dx
     ·subst hb;rw[aD,aD]
     ·rw[al hb,al hb,al ha]
   rw[eH]at un2 hok2
   obtain⟨hh',g',d',t',o'⟩:=s'
   obtain rfl:o'=oo:=os'
   have I3:=I1.call (h':=hh') (g':=g') (d':=d') (t':=t') (ch:=[]) un2 hok2 bare (fun b z=>absurd z (by simp))
   have ru:u=Value.none:=ru
   refine⟨ru,wpAny_bind (wpAny_standAt (wpAny_pure ⟨z,_,_,rfl,I3.bk _ _ g1,oz,rfl,rfl,by simp,q _ z dx _ _ _ I3 hdx oz rfl rfl rfl (by simp) (by simp;rfl) (by simp) (by rw[al hne.symm];exact n1) (Heap.get?_none_of_le (Nat.le_trans I1.sz hz))⟩))⟩
theorem _root_.L2.PA.nox(h:PA X.nox es t):PA X es t:=fun pos pins s σ H Q I hw =>
 wpAny_mono (h pos pins s σ H Q (I.wish _) hw) (fun _ _ ⟨v,H',I',r,q⟩=>⟨v,H',I'.unwish,r,q⟩) fun _ _ z=>False.elim z
theorem _root_.L2.PS.nox{t:TS}(h:PS X.nox st t):PS X st t:=fun pins s σ H D I hw =>
 wpAny_mono (h pins s σ H D (I.wish _) hw) (fun _ _ q=>q.unwish) fun _ _ z=>False.elim z
theorem zP{Q:Value->Shared->Prop}{p:Pos}(F:be X.prog X.w X.K X.mg X.base (dM X.prog X.w) k f fd ps sp)(hr:bc k X.A)(hg:Gl X x)(hm:X.mg x=some (.ref f))(hk:W.keepIn X.K (.ref f)=true)(hb:bf X.K fd ps [])
  (I:ai X pins σ H s) (hx:∀H1 s1 e s',ai X pins σ H1 s1->dM X.prog X.w X.stack H1 s1 E e s'->X.xe e s')
  (ha:PA X (e::es) t) (hdb:(x==("__debug__" : Str))=false) (he:starEach (e::es) X.env=(false,eval e X.env)::starEach es X.env) (hpl:(backTo pos (starEach es X.env)).any (·.1)=false)
  (h:t σ H fun vs H1=>sp vs H1 (fun _ _=>False) E):wpAny (model X.prog X.w) X.A (eval (.Call (.Name x p) (e::es) [] pos) X.env) Q X.xe s:=by
 refine wpAny_Call_Name_kw (cy I hg hm ?_ hdb)
 refine W.callWith_K (h₀:=X.base) I.ok.mod.kin hk (aH (ha pos pins s σ H _ I h) fun us s1 ⟨vs,H1,I1,r,q⟩=>⟨I1.kIn,?_⟩) he hpl
 have hl:us.length=ps.length:=by rw[<- r.length];exact F.len _ _ _ _ q
 refine wpAny_call (codeAny_mono (F.run X.A X.stack s1 H1 ⟨us,[]⟩ us vs _ E hr I1.env0 (by have:=hb s1 us I1.kIn (by rw[List.append_nil];exact hl);rw[List.append_nil]at this;exact this) r q) fun r s' hq=>?_)
 cases r with
 | error e=>exact hx H1 s1 e s' I1 hq
 | ok fl =>
  cases fl with
  | ret u=>obtain⟨_,_,_,_,_,_,_,z⟩:=hq;exact z.elim
  | next=>exact False.elim hq
  | brk=>exact False.elim hq
  | cont=>exact False.elim hq
theorem zj{Q:Value->Shared->Prop}{p:Pos}(M:Mk X.K C f)(F:be X.prog X.w X.K X.mg X.base (dM X.prog X.w) k f fd ps sp)(hr:bc (k+1) X.A)(hg:Gl X x)(hm:X.mg x=some (.ref C))(hb:bf X.K fd ps [])
  (I:ai X pins σ H s) (hx:∀H1 s1 e s',ai X pins σ H1 s1->dM X.prog X.w X.stack H1 s1 E e s'->X.xe e s')
  (ha:PA X (e::es) t) (hdb:(x==("__debug__" : Str))=false) (he:starEach (e::es) X.env=(false,eval e X.env)::starEach es X.env) (hpl:(backTo pos (starEach es X.env)).any (·.1)=false)
  (h:t σ H fun vs H1 => ∀x dx,H1 x=none->H1 dx=none->dx≠x->sp (.ref x::vs) (az (az H1 dx (.own x)) x (.ins C dx [])) (fun _ _=>False) E):wpAny (model X.prog X.w) X.A (eval (.Call (.Name x p) (e::es) [] pos) X.env) Q X.xe s:=by
 refine wpAny_Call_Name_kw (cy I hg hm ?_ hdb)
 refine W.callWith_K (h₀:=X.base) I.ok.mod.kin M.kp (aH (ha pos pins s σ H _ I h) fun us s1 ⟨vs,H1,I1,r,q⟩=>⟨I1.kIn,?_⟩) he hpl
 have hq:=q (s1.heap.objs.size+1) s1.heap.objs.size (I1.hok.fresh (Nat.le_succ _)) (I1.hok.fresh (Nat.le_refl _)) (Nat.ne_of_lt (Nat.lt_succ_self _))
 have I2:=ai.made (C:=C) I1
 have r2:av (V.ref (s1.heap.objs.size+1)::vs) (Value.ref (s1.heap.objs.size+1)::us):=.cons rfl r
 have hl:(Value.ref (s1.heap.objs.size+1)::us++[]).length=ps.length:=by
  have e:=r2.length
  rw[F.len _ _ _ _ hq]at e
  rw[List.append_nil]
  exact e.symm
 refine wpAny_call (oW (f:=f) I1.kIn M.makes M.init (beq_iff_eq.mp M.fn) (codeAny_mono (F.run _ X.stack _ _ ⟨Value.ref (s1.heap.objs.size+1)::us,[]⟩ (Value.ref (s1.heap.objs.size+1)::us) _ _ E (hr.make C us [])
  (I2.env0.make C us []) (by have:=hb _ (Value.ref (s1.heap.objs.size+1)::us) I2.kIn hl;rw[List.append_nil]at this;exact this) r2 hq) fun r s' hq'=>?_))
 cases r with
 | error e=>exact hx _ _ e s' I2 hq'
 | ok fl =>
  cases fl with
  | ret u=>obtain⟨_,_,_,_,_,_,_,z⟩:=hq';exact z.elim
  | next=>exact False.elim hq'
  | brk=>exact False.elim hq'
  | cont=>exact False.elim hq'
def tS(K:W.Frag)(G:List D->Option Xs):L2.Sp:=fun vs H _ E => ∃ds n p fs C S,ah K H (fun _ _=>True) ds vs/\G ds=some (n,p,fs)/\W.nsIn K mainGlobals n=some (some (.ref C))/\W.nsIn K mainGlobals p=some (some (.ref S))/\eV K C S/\∀od H',ao H H'->pq H' od fs->E (.ref C) od H'
def Dg(H0:Hp)(C:Addr)(fs:List (Str×Int)):XK:=fun c od H'=>c=.ref C/\ao H0 H'/\pq H' od fs
def AE(g:Str)(G:List D->Option Xs):List D->Option Xs:=fun ds=>match ds with
 | .obj n [] []::l=>if n=g then G l else none
 | _=>none
def GG(X:Cx)(g:Str)(G:List D->Option Xs):Prop:=∃k f fd ps,be X.prog X.w X.K X.mg X.base (dM X.prog X.w) k f fd ps (tS X.K G)/\bc k X.A/\X.mg g=some (.ref f)/\W.keepIn X.K (.ref f)=true/\bf X.K fd ps []/\(g==("__debug__" : Str))=false
def GC(X:Cx)(g:Str)(G:List D->Option Xs):Prop:=∃k C f fd ps,Mk X.K C f/\be X.prog X.w X.K X.mg X.base (dM X.prog X.w) k f fd ps (tS X.K (AE g G))/\bc (k+1) X.A/\X.mg g=some (.ref C)/\W.nsIn X.K mainGlobals g=some (some (.ref C))/\dR X.K C/\bf X.K fd ps []/\(g==("__debug__" : Str))=false
def qg(X:Cx)(g:Str)(G:List D->Option Xs):Prop:=GG X g G\/GC X g G
theorem A6{t:Str}(he:ED X ρ e (.str x) k)(hx:(reprText x).length<=1000)(ht:t.length<=64):ED X ρ (.JoinedStr [.FormattedValue e 114 none p1,.Constant (.str t) kd p2] p3) (.str (reprText x++t)) 0:=by
 intro ow pins s σ H Q I ⟨E,q⟩
 have hz:(1064:Nat)<=sizeLine:=by rw[sizeLine_eq];decide
 have hx':(reprText x).length<=sizeLine:=by omega
 refine wpAny_JoinedStr ?_
 show wpAny _ _ (eval (.FormattedValue e 114 none p1) X.env) (fun v s₁ => ∃y t',v=Value.str y t'/\(Str.empty++y).length<=sizeLine/\wpAny _ _ (eval (.Constant (.str t) kd p2) X.env) (fun v s₂ => ∃z t'',v=Value.str z t''/\(Str.empty++y++z).length<=sizeLine/\_) _ s₁) _ s
 rw[arm_eval_FormattedValue]
 refine wpAny_bind (aH (he ow pins s σ H (fun v H'=>v=.str x/\ao H H') I ⟨E,fun v H' s' r=>⟨by rw[ae]at r;exact r,s'⟩⟩) fun u s1 ⟨v,H1,I1,r1,e1,s1'⟩=>?_)
 subst e1
 obtain⟨tk,rfl⟩:=r1
 refine wpAny_bind (wpAny_standAt ?_)
 refine wpAny_bind (wpAny_holding ?_)
 show wpAny _ _ (pyReprObj (Value.str x tk)) _ _ _
 refine wpAny_pyReprObj_str ?_ hx'
 show wpAny _ _ (formatField (Value.str (reprText x) s1.toks) Str.empty) _ _ _
 refine PyProof.Rows.formatField_str (fun t' tk'=>⟨_,_,rfl,?_,?_⟩) hx'
 ·rw[Str.empty_append];exact hx'
 ·refine wpAny_Constant_str ⟨_,_,rfl,?_,?_⟩
  ·rw[Str.empty_append,Str.length_append];omega
  ·refine⟨?_,.str _,H1,((I1.tok _).tok _).tok _,⟨_,rfl⟩,q _ _ s1' (by rw[ae,Str.empty_append])⟩
   rw[Str.empty_append,Str.length_append];omega
theorem A7{i:Int}{a t:Str}{p0:Pos}{kd0:Nat}(he:ED X ρ e (.int i) k)(hi:i.natAbs<2 ^ 1900)(ha:a.length<=200)(ht:t.length<=64):ED X ρ (.JoinedStr [.Constant (.str a) kd0 p0,.FormattedValue e (-1) none p1,.Constant (.str t) kd p2] p3) (.str (a++Str.ofString (toString i)++t)) 0:=by
 intro ow pins s σ H Q I ⟨E,q⟩
 have hl:i.natAbs.log2<1920:=by
  rcases Nat.eq_zero_or_pos i.natAbs with z|z
  ·rw[z];decide
  ·exact Nat.lt_of_lt_of_le ((Nat.log2_lt (Nat.ne_of_gt z)).mpr hi) (by decide)
 have tl:=int_text_len_1921 hl
 have hz:(2200:Nat)<=sizeLine:=by rw[sizeLine_eq];decide
 refine wpAny_JoinedStr ?_
 show wpAny _ _ (eval (.Constant (.str a) kd0 p0) X.env) (fun v s₁ => ∃y t',v=Value.str y t'/\(Str.empty++y).length<=sizeLine/\wpAny _ _ (eval (.FormattedValue e (-1) none p1) X.env) (fun v s₂ => ∃z t'',v=Value.str z t''/\(Str.empty++y++z).length<=sizeLine/\wpAny _ _ (eval (.Constant (.str t) kd p2) X.env) (fun v s₂ => ∃z' t'',v=Value.str z' t''/\(Str.empty++y++z++z').length<=sizeLine/\_) _ s₂) _ s₁) _ s
 refine wpAny_Constant_str ⟨_,_,rfl,?_,?_⟩
 ·rw[Str.empty_append];omega
 refine wpAny_FormattedValue_plain ?_
 refine aH (he ow pins _ σ H (fun v H'=>v=.int i/\ao H H') (I.tok _) ⟨E,fun v H' s' r=>⟨by rw[ae]at r;exact r,s'⟩⟩) fun u s1 ⟨v,H1,I1,r1,e1,s1'⟩=>?_
 subst e1
 obtain⟨tk,rfl⟩:=r1
 refine wpAny_formatField_int hl ⟨_,_,rfl,?_,?_⟩
 ·rw[Str.empty_append,Str.length_append];omega
 ·refine wpAny_Constant_str ⟨_,_,rfl,?_,?_⟩
  ·rw[Str.empty_append,Str.length_append,Str.length_append];omega
  ·refine⟨?_,.str _,H1,(I1.tok _).tok _ |>.tok _,⟨_,rfl⟩,q _ _ s1' (by rw[ae,Str.empty_append])⟩
   rw[Str.empty_append,Str.length_append,Str.length_append];omega
inductive Rz(Φ:Fx)(Ψ:Str->Option (List D->Option Xs))(Ex:Str->Option (Str×Option Str))(sc:Scope):List Stmt->ac->Xs->Prop where
 | raise {e:Expr} {d:D} {k:Nat} {x p:Str} {np cpos pos:Pos} {ss:List Stmt} {ρ:ac} (he:aa (ar Φ e false sc ρ) (d,k)) (hx:sc.names.lookup x=some .globalImplicit) (hd:(x==("__debug__" : Str))=false) (hp:Ex x=some (p,none)):Rz Φ Ψ Ex sc (.Raise (some (.Call (.Name x np) [e] [] cpos)) none pos::ss) ρ (x,p,[])
 | raiseR {e:Expr} {y t:Str} {k kd:Nat} {x p:Str} {np cpos pos p1 p2 p3:Pos} {ss:List Stmt} {ρ:ac} (he:aa (ar Φ e false sc ρ) (.str y,k)) (hy:(reprText y).length<=1000) (ht:t.length<=64) (hx:sc.names.lookup x=some .globalImplicit) (hd:(x==("__debug__" : Str))=false) (hp:Ex x=some (p,none)):Rz Φ Ψ Ex sc (.Raise (some (.Call (.Name x np) [.JoinedStr [.FormattedValue e 114 none p1,.Constant (.str t) kd p2] p3] [] cpos)) none pos::ss) ρ (x,p,[])
 | raiseM {e:Expr} {i:Int} {a t:Str} {k kd0 kd:Nat} {x p:Str} {np cpos pos p0 p1 p2 p3:Pos} {ss:List Stmt} {ρ:ac} (he:aa (ar Φ e false sc ρ) (.int i,k)) (hi:i.natAbs<2 ^ 1900) (ha:a.length<=200) (ht:t.length<=64) (hx:sc.names.lookup x=some .globalImplicit) (hd:(x==("__debug__" : Str))=false) (hp:Ex x=some (p,none)):Rz Φ Ψ Ex sc (.Raise (some (.Call (.Name x np) [.JoinedStr [.Constant (.str a) kd0 p0,.FormattedValue e (-1) none p1,.Constant (.str t) kd p2] p3] [] cpos)) none pos::ss) ρ (x,p,[])
 | raiseF {e:Expr} {i:Int} {k:Nat} {x p f:Str} {np cpos pos:Pos} {ss:List Stmt} {ρ:ac} (he:aa (ar Φ e false sc ρ) (.int i,k)) (hi:i.natAbs<2 ^ 1900) (hx:sc.names.lookup x=some .globalImplicit) (hd:(x==("__debug__" : Str))=false) (hp:Ex x=some (p,some f)):Rz Φ Ψ Ex sc (.Raise (some (.Call (.Name x np) [e] [] cpos)) none pos::ss) ρ (x,p,[(f,i)])
 | exp {f:Str} {G:List D->Option Xs} {e:Expr} {es:List Expr} {p q pos:Pos} {ds:List D} {k:Nat} {ss:List Stmt} {ρ:ac} {r:Xs} (ha:aa (ba Φ (e::es) sc ρ) (ds,k)) (hf:sc.names.lookup f=some .globalImplicit) (hG:Ψ f=some G) (h:G ds=some r):Rz Φ Ψ Ex sc (.Expr (.Call (.Name f p) (e::es) [] q) pos::ss) ρ r
 | asn {f:Str} {G:List D->Option Xs} {x:Str} {e:Expr} {es:List Expr} {p q pos px:Pos} {ds:List D} {k:Nat} {ss:List Stmt} {ρ:ac} {r:Xs} (ha:aa (ba Φ (e::es) sc ρ) (ds,k)) (hf:sc.names.lookup f=some .globalImplicit) (hG:Ψ f=some G) (h:G ds=some r):Rz Φ Ψ Ex sc (.Assign [.Name x px] (.Call (.Name f p) (e::es) [] q) pos::ss) ρ r
 | ast {f:Str} {G:List D->Option Xs} {ts:List Expr} {n:Nat} {e:Expr} {es:List Expr} {p q pos px:Pos} {ds:List D} {k:Nat} {ss:List Stmt} {ρ:ac} {r:Xs} (ha:aa (ba Φ (e::es) sc ρ) (ds,k)) (hf:sc.names.lookup f=some .globalImplicit) (hG:Ψ f=some G) (h:G ds=some r):Rz Φ Ψ Ex sc (.Assign [.Tuple ts n px] (.Call (.Name f p) (e::es) [] q) pos::ss) ρ r
 | ret {f:Str} {G:List D->Option Xs} {e:Expr} {es:List Expr} {p q pos:Pos} {ds:List D} {k:Nat} {ss:List Stmt} {ρ:ac} {r:Xs} (ha:aa (ba Φ (e::es) sc ρ) (ds,k)) (hf:sc.names.lookup f=some .globalImplicit) (hG:Ψ f=some G) (h:G ds=some r):Rz Φ Ψ Ex sc (.Return (some (.Call (.Name f p) (e::es) [] q)) pos::ss) ρ r
 | iff {c:Expr} {a b ss:List Stmt} {t:Bool} {k:Nat} {pos:Pos} {ρ:ac} {r:Xs} (hc:aa (ar Φ c false sc ρ) (.bl t,k)) (h:Rz Φ Ψ Ex sc (cond t a b) ρ r):Rz Φ Ψ Ex sc (.If c a b pos::ss) ρ r
 | step {s:Stmt} {ss:List Stmt} {ρ ρ':ac} {r:Xs} (hs:aa (dN Φ s sc ρ) (.nx ρ')) (h:Rz Φ Ψ Ex sc ss ρ' r):Rz Φ Ψ Ex sc (s::ss) ρ r
def Am(X:Cx)(H0:Hp)(ρ:ac):TS:=fun _ σ H => ∃ow,ax X.nox ow H σ ρ/\σ.length=X.N.length/\aY H0 ow H
theorem aY.same{H0:Hp}(b:aY H0 ow H)(s:ao H H'):aY H0 ow H':=b.keep (aF.same s)
theorem dl{H0:Hp}{ss:List Stmt}(h:PS X st (Am X H0 ρ)):ck X (st::ss) (Am X H0 ρ):=fun pins s σ H D I q=>cO h eQ pins s σ H D I q
theorem fi{H0:Hp}{f:Str}{fp q:Pos}{Q:Value->Shared->Prop}
  (Gd:aG Φ X.nox sc) (GR:qg X f G) (hcn:W.nsIn X.K mainGlobals n=some (some (.ref C))) (hcp:W.nsIn X.K mainGlobals p=some (some (.ref S))) (hex:eV X.K C S)
  (ha:aa (ba Φ (e::es) sc ρ) (ds,k)) (hf:sc.names.lookup f=some .globalImplicit) (h:G ds=some (n,p,fs)) (I:ai X pins σ H s) (E:ax X.nox ow H σ ρ) (B:ao H0 H)
  (hx:∀H1 s1 e s',ai X pins σ H1 s1->dM X.prog X.w X.stack H1 s1 (Dg H0 C fs) e s'->X.xe e s'):wpAny (model X.prog X.w) X.A (eval (.Call (.Name f fp) (e::es) [] q) X.env) Q X.xe s:=by
 rcases GR with GR|GR
 ·obtain⟨k',fa,fd,ps,F,hr,hm,hk,hb,hdb⟩:=GR
  obtain⟨l,ha,hp⟩:=ha
  obtain⟨hst,_⟩:=bX ha hp
  have ad:=iD (e::es) ha hp Gd
  refine zP F hr (Gd.gl f hf) hm hk hb I hx (ad ow).nox hdb (aE (hst e List.mem_cons_self)) (bd fun x hx=>hst x (List.mem_cons_of_mem _ hx)) ⟨E,fun vs H1 s1 r1=>?_⟩
  exact⟨ds,n,p,fs,C,S,r1.imp fun _ _ _=>True.intro,h,hcn,hcp,hex,fun od H' s' fd=>⟨rfl,(B.trans s1).trans s',fd⟩⟩
 ·obtain⟨k',Cc,fa,fd,ps,hM,F,hr,hm,hns,hc,hb,hdb⟩:=GR
  obtain⟨l,ha,hp⟩:=ha
  obtain⟨hst,_⟩:=bX ha hp
  have ad:=iD (e::es) ha hp Gd
  refine zj hM F hr (Gd.gl f hf) hm hb I hx (ad ow).nox hdb (aE (hst e List.mem_cons_self)) (bd fun x hx=>hst x (List.mem_cons_of_mem _ hx)) ⟨E,fun vs H1 s1 r1=>?_⟩
  intro x dx hx0 hd0 ne
  exact⟨.obj f [] []::ds,n,p,fs,C,S,ah.cons (by rw[ae];exact⟨rfl,rfl,x,Cc,dx,[],rfl,hns,hc,aD,ah.nil⟩) ((r1.same (eL hx0 hd0)).imp fun _ _ _=>True.intro),(if_pos rfl).trans h,hcn,hcp,hex,fun od H' s' fd=>⟨rfl,((B.trans s1).trans (eL hx0 hd0)).trans s',fd⟩⟩
def Eo(X:Cx)(C:Addr)(f:Str):Prop:=∃j fI oI fd ps,du X.K C=some (.ref fI)/\X.K.lookup fI=some oI/\oI.cls=.type "function" /\ W.keepIn X.K (.ref C)=true/\be X.prog X.w X.K X.mg X.base cI j fI fd ps (tR C f)/\bc (j+1) X.A/\bf X.K fd ps []
theorem Dw{H0:Hp}(Gd:aG Φ X.nox sc)(GR:∀f G,Ψ f=some G->qg X f G)(hcn:W.nsIn X.K mainGlobals n=some (some (.ref C)))(hcp:W.nsIn X.K mainGlobals p=some (some (.ref S)))(hex:eV X.K C S)(hmn:X.mg n=some (.ref C))(hin:∀p',Ex n=some (p',none)->du X.K C=none)(hif:∀p' f,Ex n=some (p',some f)->Eo X C f)
  (hr:fs=[]->∀pins σ H s h' a us,ai X pins σ H s->ao H0 H->s.heap.MadeExcOf h' a (.ref C) us->X.xe (.ref a) { s with heap:=h' })
  (hr2:∀f i,fs=[(f,i)]->∀pins σ H1 s1 z dx o vv a0,ao H0 H1->ai X pins σ (az H1 dx (.xd [(f,.int i)])) s1->H1 dx=none->s1.heap.get? z=some o->o.cls=.ref C->o.dict=some dx->o.data=.fields vv->1<vv.size->vv[0]?=some a0->vv[1]?=some .none->(az H1 dx (.xd [(f,.int i)])) z=none->X.s₀.heap.get? z=none->X.xe (.ref z) s1)
  (hx:∀pins σ H1 s1 e s',ai X pins σ H1 s1->dM X.prog X.w X.stack H1 s1 (Dg H0 C fs) e s'->X.xe e s'):∀{ss:List Stmt} {ρ:ac} {r:Xs},Rz Φ Ψ Ex sc ss ρ r->r=(n,p,fs)->ck X ss (Am X H0 ρ):=by
 intro ss ρ r h
 induction h with
 | raise he hl hd hp =>
  rename_i e d k x p' np cpos pos ss ρ
  intro er
  cases er
  refine dl fun pins s σ H D I ⟨ow,E,hl',B⟩=>?_
  have ed:=(bQ he Gd).ed rfl
  obtain⟨l,he',_⟩:=id he
  have ns:=ff he'
  have ad:AD X.nox ρ [e] [d] (kj k 0):=cV ed dB (aE ns)
  refine jK I Gd.calm (Gd.gl _ hl) hmn hex (hin _ hp) hd (ad ow).nox (bd fun y hy=>by rw[List.mem_singleton.mp hy];exact ns) (aE ns) ⟨E,fun vs H1 s1 r1=>⟨?_,fun s2 h' a us I2 m=>hr rfl pins σ H1 s2 h' a us I2 (B.sm.trans s1) m⟩⟩
  rw[<- r1.length]
  exact Nat.le_trans (show 1<=bh by decide) bP
 | raiseR he hy ht hl hd hp =>
  rename_i e y t k kd x p' np cpos pos p1 p2 p3 ss ρ
  intro er
  cases er
  refine dl fun pins s σ H D I ⟨ow,E,hl',B⟩=>?_
  have ed:=A6 (p1:=p1) (p2:=p2) (p3:=p3) (kd:=kd) ((bQ he Gd).ed rfl) hy ht
  have ns:∀(z:Expr) (p:Pos),Expr.JoinedStr [.FormattedValue e 114 none p1,.Constant (.str t) kd p2] p3 ≠ .Starred z p:=fun z p h=>by cases h
  have ad:AD X.nox ρ [Expr.JoinedStr [.FormattedValue e 114 none p1,.Constant (.str t) kd p2] p3] [.str (reprText y++t)] (kj 0 0):=cV ed dB (aE ns)
  refine jK I Gd.calm (Gd.gl _ hl) hmn hex (hin _ hp) hd (ad ow).nox (bd fun y hy=>by rw[List.mem_singleton.mp hy];exact ns) (aE ns) ⟨E,fun vs H1 s1 r1=>⟨?_,fun s2 h' a us I2 m=>hr rfl pins σ H1 s2 h' a us I2 (B.sm.trans s1) m⟩⟩
  rw[<- r1.length]
  exact Nat.le_trans (show 1<=bh by decide) bP
 | raiseM he hi ha ht hl hd hp =>
  rename_i e i a t k kd0 kd x p' np cpos pos p0 p1 p2 p3 ss ρ
  intro er
  cases er
  refine dl fun pins s σ H D I ⟨ow,E,hl',B⟩=>?_
  have ed:=A7 (p0:=p0) (p1:=p1) (p2:=p2) (p3:=p3) (kd0:=kd0) (kd:=kd) ((bQ he Gd).ed rfl) hi ha ht
  have ns:∀(z:Expr) (p:Pos),Expr.JoinedStr [.Constant (.str a) kd0 p0,.FormattedValue e (-1) none p1,.Constant (.str t) kd p2] p3 ≠ .Starred z p:=fun z p h=>by cases h
  have ad:AD X.nox ρ [Expr.JoinedStr [.Constant (.str a) kd0 p0,.FormattedValue e (-1) none p1,.Constant (.str t) kd p2] p3] [.str (a++Str.ofString (toString i)++t)] (kj 0 0):=cV ed dB (aE ns)
  refine jK I Gd.calm (Gd.gl _ hl) hmn hex (hin _ hp) hd (ad ow).nox (bd fun y hy=>by rw[List.mem_singleton.mp hy];exact ns) (aE ns) ⟨E,fun vs H1 s1 r1=>⟨?_,fun s2 h' a us I2 m=>hr rfl pins σ H1 s2 h' a us I2 (B.sm.trans s1) m⟩⟩
  rw[<- r1.length]
  exact Nat.le_trans (show 1<=bh by decide) bP
 | raiseF he hi hl hd hp =>
  rename_i e i k x p' f np cpos pos ss ρ
  intro er
  cases er
  refine dl fun pins s σ H D I ⟨ow,E,hl',B⟩=>?_
  have ed:=(bQ he Gd).ed rfl
  obtain⟨l,he',_⟩:=id he
  have ns:=ff he'
  have ad:AD X.nox ρ [e] [.int i] (kj k 0):=cV ed dB (aE ns)
  obtain⟨j,fI,oI,fd,ps,q1,q2,q3,q4,q5,q6,q7⟩:=hif _ _ hp
  refine tZ I Gd.calm (Gd.gl _ hl) hmn hex q1 q2 q3 q4 q5 q6 q7 hd (ad ow).nox (aE ns) ⟨E,fun vs H1 s1 r1=>?_⟩
  obtain⟨v,rfl,rv⟩:=r1.only
  rw[ae]at rv
  subst rv
  exact⟨i,rfl,hi,fun s2 z dx o vv a0 I2 w1 w2 w3 w4 w5 w6 w7 w8 w9 w10=>hr2 f i rfl pins σ H1 s2 z dx o vv a0 (B.sm.trans s1) I2 w1 w2 w3 w4 w5 w6 w7 w8 w9 w10⟩
 | exp ha hf hG h =>
  intro er
  subst er
  refine dl fun pins s σ H D I ⟨ow,E,hl',B⟩=>?_
  exact wpAny_Expr_any (fi Gd (GR _ _ hG) hcn hcp hex ha hf h I E B.sm (hx pins σ)) I.quiet rfl
 | asn ha hf hG h =>
  intro er
  subst er
  refine dl fun pins s σ H D I ⟨ow,E,hl',B⟩=>?_
  exact wpAny_Assign_Name (fi Gd (GR _ _ hG) hcn hcp hex ha hf h I E B.sm (hx pins σ)) (ef rfl)
 | ast ha hf hG h =>
  intro er
  subst er
  refine dl fun pins s σ H D I ⟨ow,E,hl',B⟩=>?_
  exact wpAny_Assign_stores (fi Gd (GR _ _ hG) hcn hcp hex ha hf h I E B.sm (hx pins σ)) eG rfl
 | ret ha hf hG h =>
  intro er
  subst er
  refine dl fun pins s σ H D I ⟨ow,E,hl',B⟩=>?_
  exact wpAny_Return_some (fi Gd (GR _ _ hG) hcn hcp hex ha hf h I E B.sm (hx pins σ))
 | iff hc h ih =>
  rename_i c a b ss t k pos ρ r
  intro er
  refine dl fun pins s σ H D I ⟨ow,E,hl',B⟩=>?_
  have td:=((bQ hc Gd).td rfl t rfl ow).nox
  refine wpAny_If (aH (td pins s σ H (fun b H'=>b=t/\ao H H') I ⟨E,fun H' sm=>⟨rfl,sm⟩⟩) fun d s1 ⟨H1,I1,e,sm⟩=>?_)
  subst e
  cases d with
  | true=>exact ih er pins s1 σ H1 _ I1 ⟨ow,E.same sm,hl',B.same sm⟩
  | false=>exact ih er pins s1 σ H1 _ I1 ⟨ow,E.same sm,hl',B.same sm⟩
 | step hs h ih =>
  rename_i st ss ρ ρ' r
  intro er
  have sd:=((gq Φ _).s st (H0:=H0) (Nat.lt_succ_self _) hs Gd PassesOwn.never)
  intro pins s σ H D I ⟨ow,E,hl',B⟩
  exact cO (L2.PS.nox sd) (ih er) pins s σ H D I ⟨ow,E,hl',B,fun ow' σ' H' E' hl2 k=>⟨ow',E',hl2,B.keep k⟩⟩
def GF(P:Program)(w:World)(K:W.Frag)(mg:Str->Option Value)(base:Heap)(k:Nat)(g:Str)(G:List D->Option Xs):Prop:=∃f fd ps,be P w K mg base (dM P w) k f fd ps (tS K G)/\mg g=some (.ref f)/\W.keepIn K (.ref f)=true/\bf K fd ps []/\(g==("__debug__" : Str))=false
def GW(P:Program)(w:World)(K:W.Frag)(mg:Str->Option Value)(base:Heap)(k:Nat)(g:Str)(G:List D->Option Xs):Prop:=∃j C f fd ps,j+1<=k/\Mk K C f/\be P w K mg base (dM P w) j f fd ps (tS K (AE g G))/\mg g=some (.ref C)/\W.nsIn K mainGlobals g=some (some (.ref C))/\dR K C/\bf K fd ps []/\(g==("__debug__" : Str))=false
def jB(P:Program)(w:World)(K:W.Frag)(mg:Str->Option Value)(base:Heap)(k:Nat)(g:Str)(G:List D->Option Xs):Prop:=GF P w K mg base k g G\/GW P w K mg base k g G
theorem jB.mono{j:Nat}(h:jB P w K mg base j g G)(hjk:j<=k):jB P w K mg base k g G:=by
 rcases h with⟨f,fd,ps,h1,h2⟩|⟨i,C,f,fd,ps,h0,h1⟩
 ·exact .inl ⟨f,fd,ps,h1.mono hjk,h2⟩
 ·exact .inr ⟨i,C,f,fd,ps,Nat.le_trans h0 hjk,h1⟩
theorem jB.at(h:jB X.prog X.w X.K X.mg X.base k g G)(hr:bc k X.A):qg X g G:=by
 rcases h with⟨f',fd',ps',a1,a2,a3,a4,a5⟩|⟨j,C',f',fd',ps',a0,a1,a2,a3,a4,a5,a6,a7⟩
 ·exact .inl ⟨k,f',fd',ps',a1,hr,a2,a3,a4,a5⟩
 ·exact .inr ⟨j,C',f',fd',ps',a1,a2,hr.mono a0,a3,a4,a5,a6,a7⟩
def Df(P:Program)(w:World)(K:W.Frag)(mg:Str->Option Value)(base:Heap)(k:Nat)(Ex:Str->Option (Str×Option Str)):Prop:=∀c C,W.nsIn K mainGlobals c=some (some (.ref C))->(∀p,Ex c=some (p,none)->du K C=none) /\
 ∀p f,Ex c=some (p,some f)->∃j fI oI fd ps,j+1<=k/\du K C=some (.ref fI)/\K.lookup fI=some oI/\oI.cls=.type "function" /\ W.keepIn K (.ref C)=true/\be P w K mg base cI j fI fd ps (tR C f)/\bf K fd ps []
theorem B5(Fn:jA K g qual st f fd)
  (S:bo (aN (aj st)) ps (aj st)) (hΦ:qf P w K mg base k Φ) (hΨ:∀g G,Ψ g=some G->jB P w K mg base k g G) (hmg:∀n C,W.nsIn K mainGlobals n=some (some (.ref C))->mg n=some (.ref C)) (hEI:Df P w K mg base k Ex)
  (hrun:∀ds r,G ds=some r->ds.length=ps.length/\Rz Φ Ψ Ex (aj st) (au st) (d7 ps ds) r):be P w K mg base (dM P w) (k+1) f fd ps (tS K G):=by
 obtain⟨oc,od,kV,doc,pm,an,cdv,ct,osl,rfl,lk,hcd⟩:=Fn.ex
 refine xM lk hcd S (fun vs H Q E h=>?_) fun A outer s H vs Q E hr hsp=>?_
 ·obtain⟨ds,n,p,fs,C,S',h1,h2,_⟩:=h
  rw[<- h1.length];exact(hrun ds _ h2).1
 ·obtain⟨ds,n,p,fs,C,S',h1,h2,h3,h4,h5,h6⟩:=hsp
  obtain⟨hl,hz⟩:=hrun ds _ h2
  have Gd:=jb (outer:=outer) (H:=H) (E:=E) S hΦ hr
  obtain⟨E0,hsl⟩:=kZ (P:=P) (w:=w) (mg:=mg) (base:=base) (qual:=qual) (f:=f) (cdv:=cdv) (A:=A) (outer:=outer) (s:=s) (E:=E) S h1 hl
  have B0:aY H (fun _=>none) H:=fun a o h=>⟨h,rfl⟩
  refine⟨_,Dw (X:=fF (dM P w) P w K mg base (aN (aj st)) qual (aj st) f cdv A outer s H E) (H0:=H) (C:=C) (S:=S') Gd (fun g' G' hG=>?_) h3 h4 h5 (hmg n C h3) (hEI n C h3).1 (fun p' f' hp'=>?_) (fun hfs pins σ H1 s1 h' a us I sm m=>?_) (fun f' i' hfs pins σ H1 s1 z dx o vv a0 sm I w1 w2 w3 w4 w5 w6 w7 w8 w9 w10=>?_) (fun pins σ H1 s1 e s' I c=>?_) hz rfl,fun _=>none,E0,hsl,B0⟩
  ·exact(hΨ g' G' hG).at hr
  ·obtain⟨j,fI,oI,fd',ps',q0,q1,q2,q3,q4,q5,q6⟩:=(hEI n C h3).2 p' f' hp'
   exact⟨j,fI,oI,fd',ps',q1,q2,q3,q4,q5,hr.mono q0,q6⟩
  ·subst hfs
   exact qz I rfl rfl m (h6 none H1 sm pq.nil)
  ·subst hfs
   exact iw I rfl rfl w2 w3 w4 w5 w6 w7 w8 w10 w9 (h6 _ _ (sm.trans (cM w1)) (fun f i z=>by cases z;exact⟨dx,rfl,aD⟩))
  ·refine sH I rfl rfl ?_
   obtain⟨x,C',T,od,H',rfl,z1,z2,z3,z4,z5,z6,z7,z8,z9,⟨e1,e2,e3⟩⟩:=c
   cases e1
   exact⟨x,C,T,od,H',rfl,z1,z2,z3,z4,z5,z6,z7,z8,z9,h6 od H' e2 e3⟩
def pr(ρ:ac)(n y c B:Str)(fs:List (Str×Int)):ac:=fun z=>if z=n then none else if z=y then some (.xc c (some (B,fs)),true)else ρ z
inductive Rt(Φ:Fx)(Ψ:Str->Option (List D->Option Xs))(sc:Scope):List Stmt->ac->Xs->Prop where
 | exp {f:Str} {G:List D->Option Xs} {e:Expr} {es:List Expr} {p q pos:Pos} {ds:List D} {k:Nat} {ρ:ac} {r:Xs} (ha:aa (ba Φ (e::es) sc ρ) (ds,k)) (hf:sc.names.lookup f=some .globalImplicit) (hG:Ψ f=some G) (h:G ds=some r):Rt Φ Ψ sc [.Expr (.Call (.Name f p) (e::es) [] q) pos] ρ r
 | asn {f:Str} {G:List D->Option Xs} {x:Str} {e:Expr} {es:List Expr} {p q pos px:Pos} {ds:List D} {k:Nat} {ρ:ac} {r:Xs} (ha:aa (ba Φ (e::es) sc ρ) (ds,k)) (hf:sc.names.lookup f=some .globalImplicit) (hG:Ψ f=some G) (h:G ds=some r):Rt Φ Ψ sc [.Assign [.Name x px] (.Call (.Name f p) (e::es) [] q) pos] ρ r
 | iff {c:Expr} {a b:List Stmt} {t:Bool} {k:Nat} {pos:Pos} {ρ:ac} {r:Xs} (hc:aa (ar Φ c false sc ρ) (.bl t,k)) (h:Rt Φ Ψ sc (cond t a b) ρ r):Rt Φ Ψ sc [.If c a b pos] ρ r
theorem hJ{M:Model}{A:Around}{E:Value->Shared->Prop}{env:Env}(h:wpAny M A (exec st env) Q E s):wpAny M A (execs [st] env) Q E s :=
 wpAny_execs_cons (aH h fun f s1 q=>by
  cases f with
  | next=>exact wpAny_execs_nil q
  | ret v=>exact q
  | brk=>exact q
  | cont=>exact q)
theorem Dx{H0:Hp}(Gd:aG Φ X.nox sc)(GR:∀f G,Ψ f=some G->qg X f G)(hcn:W.nsIn X.K mainGlobals n=some (some (.ref C)))(hcp:W.nsIn X.K mainGlobals p=some (some (.ref S)))(hex:eV X.K C S)
  (hx:∀H1 s1 e s',ai X pins σ H1 s1->dM X.prog X.w X.stack H1 s1 (Dg H0 C fs) e s'->X.xe e s'):∀{ss:List Stmt} {ρ:ac} {r:Xs},Rt Φ Ψ sc ss ρ r->r=(n,p,fs)->∀{s:Shared} {H:Hp},ai X pins σ H s->ax X.nox ow H σ ρ->ao H0 H->wpAny (model X.prog X.w) X.A (execs ss X.env) Q X.xe s:=by
 intro ss ρ r h
 induction h with
 | exp ha hf hG h =>
  intro er s H I E B
  subst er
  exact hJ (wpAny_Expr_any (fi Gd (GR _ _ hG) hcn hcp hex ha hf h I E B hx) I.quiet rfl)
 | asn ha hf hG h =>
  intro er s H I E B
  subst er
  exact hJ (wpAny_Assign_Name (fi Gd (GR _ _ hG) hcn hcp hex ha hf h I E B hx) (ef rfl))
 | iff hc h ih =>
  rename_i c a b t k pos ρ r
  intro er s H I E B
  have td:=((bQ hc Gd).td rfl t rfl ow).nox
  refine hJ (wpAny_If (aH (td pins s σ H (fun b H'=>b=t/\ao H H') I ⟨E,fun H' sm=>⟨rfl,sm⟩⟩) fun d s1 ⟨H1,I1,e,sm⟩=>?_))
  subst e
  cases d with
  | true=>exact ih er I1 (E.same sm) (B.trans sm)
  | false=>exact ih er I1 (E.same sm) (B.trans sm)
theorem zF{x:Addr}{od:Option Addr}{ie iy:Nat}(E:ax X ow H σ ρ)(sm:ao H H')(nx:H' x=none)(hie:X.N[ie]?=some n)(hiy:X.N[iy]?=some y)(hv:fL X.env.scope y)(hne:iy≠ie)(hl:iy<σ.length)
  (hcn:W.nsIn X.K mainGlobals c=some (some (.ref C))) (hcp:W.nsIn X.K mainGlobals B=some (some (.ref S))) (hex:eV X.K C S) (hfd:pq H' od fs) (hfo:∀f i,fs=[(f,i)]->qh X.K C f) :
  ax X ow (az H' x (g8 x C od)) (((σ.set ie (some (.ref x))).set iy (some (.ref x))).set ie none) (pr ρ n y c B fs):=by
 have sm':ao H (az H' x (g8 x C od)):=sm.trans fun a o h=>by rw[al (aP h nx)];exact h
 refine⟨fun z d o h=>?_,(E.same sm').own⟩
 unfold pr at h
 by_cases hz:z=n
 ·rw[if_pos hz]at h;cases h
 ·rw[if_neg hz]at h
  by_cases hy:z=y
  ·rw[if_pos hy]at h
   cases h
   refine⟨iy,.ref x,by rw[hiy,hy],by rw[hy];exact hv,?_,?_⟩
   ·rw[List.getElem?_set_ne (Ne.symm hne),List.getElem?_set_self (by rw[List.length_set];exact hl)]
   ·rw[ae]
    refine⟨x,C,S,od,rfl,hcn,hcp,hex,aD,fun f i z=>?_,hfo⟩
    obtain⟨dx,e1,e2⟩:=hfd f i z
    exact⟨dx,e1,by rw[al (aP e2 nx)];exact e2⟩
  ·rw[if_neg hy]at h
   obtain⟨i,v,e1,e2,e3,e4⟩:=(E.same sm').get z d o h
   have n1:i≠ie:=fun q=>hz (by rw[q,hie]at e1;exact(Option.some.inj e1).symm)
   have n2:i≠iy:=fun q=>hy (by rw[q,hiy]at e1;exact(Option.some.inj e1).symm)
   exact⟨i,v,e1,e2,by rw[List.getElem?_set_ne (Ne.symm n1),List.getElem?_set_ne (Ne.symm n2),List.getElem?_set_ne (Ne.symm n1)];exact e3,e4⟩
theorem AG{H0:Hp}(Gd:aG Φ Y.nox sc)(GR:∀f G,Ψ f=some G->qg Y.nox f G)(hst:Y.stack=Y.env::Y.outer)
  (hcn:W.nsIn Y.K mainGlobals c=some (some (.ref C))) (hcp:W.nsIn Y.K mainGlobals B=some (some (.ref S))) (hex:eV Y.K C S) (hexm:W.exmOne Y.K (.ref C) (.ref S)=some true) (hmB:Y.mg B=some (.ref S))
  (hB:sc.names.lookup B=some .globalImplicit) (hdb:(B==("__debug__" : Str))=false) (hn:sc.names.lookup n=some .local) (hy:sc.names.lookup y=some .local) (hny:n≠y) (hd1:(n==("__debug__" : Str))=false) (hd2:(n==("__classdict__" : Str))=false)
  (hfo:∀f i,fs=[(f,i)]->qh Y.K C f) (h:Rt Φ Ψ sc tb ρ (c,B,fs)):SD Y.nox H0 ρ (.Try tb [.ExceptHandler (some (.Name B bp)) (some n) [.Assign [.Name y p1] (.Name n p2) p3] hpos] [] [] tpos) (.nx (pr ρ n y c B fs)):=by
 intro pins s σ H D I ⟨ow,E,hl,B0,q⟩
 have lk:∀z,sc.names.lookup z=some .local->∃i,Y.N[i]?=some z:=fun z hz=>by
  have:=Gd.ns z (by unfold bD;rw[hz];rfl)
  obtain⟨i,hi,e⟩:=List.getElem_of_mem this
  exact⟨i,by rw[List.getElem?_eq_getElem hi];exact congrArg some e⟩
 obtain⟨ie,hie⟩:=lk n hn
 obtain⟨iy,hiy⟩:=lk y hy
 have hne:iy≠ie:=fun z=>hny (by rw[z,hie]at hiy;exact Option.some.inj hiy)
 refine wpAny_Try_except ?_
 refine Dx (X:=Y.nox.wish fun e s₁=>wpAny (model Y.prog Y.w) Y.A (noteFrame e Y.env) (fun _ s₂=>wpAny (model Y.prog Y.w) Y.A (setFlight e none) (fun _ s₃=>wpAny (model Y.prog Y.w) Y.A (handleBy e Y.env [.ExceptHandler (some (.Name B bp)) (some n) [.Assign [.Name y p1] (.Name n p2) p3] hpos]) (SP Y.nox pins D) Y.nox.xe s₃) Y.nox.xe s₂) Y.nox.xe s₁) (H0:=H) (n:=c) (p:=B) Gd GR hcn hcp hex (fun H1 s1 e s' I1 c1=>?_) h rfl (I.wish _) E (ao.refl _)
 refine CK (X:=Y.nox) (ie:=ie) (iy:=iy) (C0:=S) I1.unwish hst Gd.nd c1 (Gd.gl B hB) hmB hdb hie (Gd.lc n hn) hiy (Gd.lc y hy) hne hd1 hd2 fun C' od H' ⟨e1,sm,hfd⟩=>?_
 cases e1
 refine⟨hexm,fun x nx=>?_⟩
 have hl2:iy<σ.length:=by rw[hl];exact(List.getElem?_eq_some_iff.mp hiy).1
 refine q ow _ _ (zF (X:=Y.nox) E sm nx hie hiy (.inl (Gd.lc y hy)) hne hl2 hcn hcp hex hfd hfo) (by simpa using hl) (aF.same (sm.trans fun a o h=>by rw[al (aP h nx)];exact h))
theorem yt{H0:Hp}{hd:ExceptHandler}{ρ2:ac}(Gd:aG Φ Y.nox sc)(h:aa (aI Φ tb sc ρ) (.nx ρ2)):SD Y.nox H0 ρ (.Try tb [hd] [] [] tpos) (.nx ρ2):=by
 intro pins s σ H D I hq
 refine wpAny_Try_except ?_
 refine wpAny_mono (dz tb (H0:=H0) h Gd PassesOwn.never pins s σ H D I hq) (fun f s1 q=>?_) (fun _ _ z=>z.elim)
 cases f with
 | next=>exact wpAny_execs_nil q
 | ret v=>exact q
 | brk=>exact q
 | cont=>exact q
def pX(Φ:Fx)(Ψ:Str->Option (List D->Option Xs))(Ex:Str->Option (Str×Option Str))(sc:Scope)(ps:List Str)(pre tb post:List Stmt)(B n y:Str)(ds:List D)(r:D):Prop :=
 ds.length=ps.length/\∃ρ1,aa (aI Φ pre sc (d7 ps ds)) (.nx ρ1)/\((∃ρ2,aa (aI Φ tb sc ρ1) (.nx ρ2)/\aa (aI Φ post sc ρ2) (.rt r))\/∃c o fs,Ex c=some (B,o)/\(∀f i,fs=[(f,i)]->o=some f)/\Rt Φ Ψ sc tb ρ1 (c,B,fs)/\aa (aI Φ post sc (pr ρ1 n y c B fs)) (.rt r))
def wU(K:W.Frag)(Ex:Str->Option (Str×Option Str)):Prop:=∀c p o,Ex c=some (p,o)->∃C S,W.nsIn K mainGlobals c=some (some (.ref C))/\W.nsIn K mainGlobals p=some (some (.ref S))/\eV K C S/\W.exmOne K (.ref C) (.ref S)=some true/\∀f,o=some f->qh K C f
theorem B4{F:List D->Rs D}(Fn:jA K g qual st f fd)
  (S:bo (aN (aj st)) ps (aj st)) (hΦ:qf P w K mg base k Φ) (hΨ:∀g G,Ψ g=some G->jB P w K mg base k g G) (hmg:∀n C,W.nsIn K mainGlobals n=some (some (.ref C))->mg n=some (.ref C)) (hEx:wU K Ex)
  (hb:au st=pre ++ .Try tb [.ExceptHandler (some (.Name B bp)) (some n) [.Assign [.Name y p1] (.Name n p2) p3] hpos] [] [] tpos::post)
  (hB:(aj st).names.lookup B=some .globalImplicit) (hdb:(B==("__debug__" : Str))=false) (hn:(aj st).names.lookup n=some .local) (hy:(aj st).names.lookup y=some .local) (hny:n≠y) (hd1:(n==("__debug__" : Str))=false) (hd2:(n==("__classdict__" : Str))=false)
  (hrun:∀ds r,aa (F ds) r->pX Φ Ψ Ex (aj st) ps pre tb post B n y ds r):be P w K mg base cI (k+1) f fd ps (gX K F):=by
 refine Fn.ok S (fun vs H Q E h=>?_) (fun cdv A outer s H vs Q E hr h=>?_)
 ·obtain⟨ds,r,l,h1,h2,hp,_⟩:=h
  rw[<- h1.length];exact(hrun ds r ⟨l,h2,hp⟩).1
 ·obtain⟨ds,r,l,h1,h2,hp,qq⟩:=h
  obtain⟨hl,ρ1,h3,h4⟩:=hrun ds r ⟨l,h2,hp⟩
  have G:=jb (outer:=outer) (H:=H) (E:=E) S hΦ hr
  obtain⟨E0,hsl⟩:=kZ (P:=P) (w:=w) (mg:=mg) (base:=base) (qual:=qual) (f:=f) (cdv:=cdv) (A:=A) (outer:=outer) (s:=s) (E:=E) S h1 hl
  have B0:aY H (fun _=>none) H:=fun a o h=>⟨h,rfl⟩
  have key:cw (fF cI P w K mg base (aN (aj st)) qual (aj st) f cdv A outer s H E).nox H ρ1 (.Try tb [.ExceptHandler (some (.Name B bp)) (some n) [.Assign [.Name y p1] (.Name n p2) p3] hpos] [] [] tpos::post) (.rt r):=by
   rcases h4 with⟨ρ2,h5,h6⟩|⟨c,o,fs,hc,hco,h5,h6⟩
   ·exact cJ (yt G h5) (dz post (H0:=H) h6 G PassesOwn.never)
   ·obtain⟨C,S',c1,c2,c3,c4,c5⟩:=hEx c B o hc
    refine cJ (AG (Y:=fF cI P w K mg base (aN (aj st)) qual (aj st) f cdv A outer s H E) (Ψ:=Ψ) G (fun g' G' hG=>?_) rfl c1 c2 c3 c4 (hmg B S' c2) hB hdb hn hy hny hd1 hd2 (fun f i z=>c5 f (hco f i z)) h5) (dz post (H0:=H) h6 G PassesOwn.never)
    exact(hΨ g' G' hG).at hr
  rw[hb]
  exact⟨_,qT (H0:=H) G PassesOwn.never key h3,fun _=>none,E0,hsl,B0,fun ow' σ' H' E' hl' B'=>⟨ow',E',hl',B',fun v H2 s2 r2=>qq v H2 s2 r2⟩⟩
def lB(n p:Str):List D->Option Bool
 | []=>some false
 | .xc m none::l=>(lB n p l).map fun b=>(decide (m=n) || decide (m=p)) || b
 | _=>none
def Es(n p:Str):D->Option Bool
 | .xc m none=>some (decide (m=n) || decide (m=p))
 | .typ T=>if T = "ValueError" then some true else none
 | .tup cs=>lB n p cs
 | _=>none
def wI(ds:List D):R1 :=
 match ds with
 | [.xc n (some (p,_)),c]=>(match Es n p c with|some b=>.ok (.bl b,0) []|none=>.st)
 | ds=>wJ ds
theorem xE{K:W.Frag}{H:Hp}{P:aQ}{n p:Str}{C S:Addr}(hn:W.nsIn K mainGlobals n=some (some (.ref C)))(hp:W.nsIn K mainGlobals p=some (some (.ref S)))(e:eV K C S):∀{cs:List D} {vs:List V} {us:List Value} {b:Bool},lB n p cs=some b->ah K H P cs vs->av vs us->W.kitAny K (.ref C) us=some b
 | [],vs,us,b,h,r,q=>by
  rw[lB]at h;cases h
  rw[ah]at r;subst r;cases q;rfl
 | .xc m none::l,vs,us,b,h,r,q=>by
  rw[lB]at h
  cases hl:lB n p l with
  | none=>rw[hl]at h;cases h
  | some b' =>
   rw[hl]at h;cases h
   rw[ah]at r
   obtain⟨v,vr,rfl,r1,r2⟩:=r
   rw[ae]at r1
   obtain⟨Cm,rfl,hm,hx⟩:=r1
   cases q with
   | cons q1 q2 =>
    cases q1
    have k1:=uJ e hn hp hm hx
    have k2:=xE hn hp e hl r2 q2
    show(match W.kitOne K (.ref C) (.ref Cm)with|some true=>some true|some false=>W.kitAny K (.ref C) _|none=>none)=_
    rw[k1]
    cases hd:(decide (m=n) || decide (m=p))with
    | true=>rfl
    | false=>exact k2
theorem zV:fg "isinstance" wI:=by
 refine⟨by decide +kernel,by decide +kernel,by decide +kernel,rfl,fun X ds z l o hc h hp=>?_⟩
 unfold wI at h
 split at h
 ·rename_i n p fs c
  split at h
  ·rename_i b hb
   cases h
   refine .inl ⟨"isinstance", by decide +kernel,?_⟩
   have cr:dH X (.builtin "isinstance") (fun xs H Q => ∃v w P,xs=[v,w]/\ae X.K H P (.xc n (some (p,fs))) v/\ae X.K H P c w/\Q (.bl b) H):=by
    intro pins s σ H xs us Q I r hh
    obtain⟨v,w,P,rfl,r1,r2,q⟩:=hh
    obtain⟨u,u2,rfl,ru,ru2⟩:=nB r
    rw[ae]at r1
    obtain⟨x,C,S,od,rfl,h1,h2,h3,h4,_,_⟩:=r1
    cases ru
    have xo:C5 x C s.heap:=let ⟨o,_,a,b,_⟩:=(show aR X.prog X.w H s.heap x (g8 x C od)from I.hok x _ h4).1;⟨o,a,b⟩
    unfold Es at hb
    split at hb
    ·rename_i m
     cases hb
     rw[ae]at r2
     obtain⟨Cm,rfl,hm,hx⟩:=r2
     cases ru2
     exact W.kia_one (jP h3) I.kIn xo (uJ h3 h1 h2 hm hx) (fun z=>nomatch z) fun tk=>⟨.bl _,H,I.tok tk,rfl,q⟩
    ·rename_i T
     split at hb
     ·rename_i hT
      subst hT
      cases hb
      rw[ae]at r2
      subst r2
      cases ru2
      exact W.kia_one (jP h3) I.kIn xo (BE h3) (fun z=>nomatch z) fun tk=>⟨.bl _,H,I.tok tk,rfl,q⟩
     ·cases hb
    ·rename_i cs
     rw[ae]at r2
     obtain⟨a,vs,rfl,sq,rl⟩:=r2
     cases ru2
     obtain⟨its,rv,⟨⟨c0,dd,data,sl⟩,e1,e2,n0,e3⟩,_⟩:=I.tuple sq
     simp only at e2 e3
     subst e2 e3
     exact W.kia_tup (jP h3) I.kIn xo e1 (xE h1 h2 h3 hb rl rv) (fun z=>nomatch z) fun tk=>⟨.bl _,H,I.tok tk,rfl,q⟩
    ·cases hb
   refine⟨_,cr,fun ow H0 H2 vs P Q o s rx q=>?_⟩
   rw[ah]at rx
   obtain⟨v,r,rfl,r1,r2⟩:=rx
   obtain⟨w,rfl,r3⟩:=r2.only
   exact⟨v,w,P,rfl,r1,r3,q _ _ (ao.refl _) (by rw[ae])⟩
  ·cases h
 ·exact zW.2.2.2.2 X _ z l o hc h hp
theorem pH(hm:mg x=some (.ref C))(hn:W.nsIn K mainGlobals x=some (some (.ref C)))(hx:x2 K x C):gW mg K (x,.xc x none) :=
 ⟨.ref C,.ref C,hm,rfl,fun H P=>by rw[ae];exact⟨C,rfl,hn,hx⟩⟩
def kh(K:W.Frag)(n:Str)(C:Addr):Bool :=
 match K.lookup mainGlobals with
 | some ⟨_,_,.dict es _,_⟩=>es.toList.all fun e => !(e.val == .ref C) || (match e.key with | .str m _=>decide (m=n)|_=>false)
 | _=>false
def pJ(K:W.Frag)(C:Addr):Bool :=
 match K.lookup C with
 | some ⟨.type t,_,.cls _,_⟩=>t == "type"
 | _=>false
theorem nX(h1:kh K n C=true)(h2:pJ K C=true):x2 K n C:=by
 unfold pJ at h2
 split at h2
 ·rename_i t d cd sl e
  have et:t = "type" := by simpa using h2
  subst et
  refine⟨?_,fun m hm=>?_,⟨_,e,rfl⟩⟩
  ·have c1:W.clsIn K C=some cd:=by unfold W.clsIn;rw[e]
   have c2:W.typeIn K (.ref C)=some (.type "type"):=by
    show Option.map (fun x=>x.cls) (List.lookup C K)=_
    rw[e];rfl
   rw[c1,c2];rfl
  ·unfold kh at h1
   unfold W.nsIn at hm
   split at h1
   ·rename_i a1 a2 es a3 a4 e1
    rw[e1]at hm
    dsimp only at hm
    split at hm
    ·rename_i x hf
     have hv:x.val=.ref C:=Option.some.inj (Option.some.inj hm)
     have hx:=List.mem_of_find?_eq_some hf
     have hk:x.key.isStr m=true:=List.find?_some (p:=fun x:DictEntry=>x.key.isStr m) hf
     have:=List.all_eq_true.mp h1 x hx
     rw[hv,show((Value.ref C==Value.ref C):Bool)=true by simp,Bool.not_true,Bool.false_or]at this
     cases hkk:x.key with
     | str k t =>
      rw[hkk]at this hk
      have a1:k=n:=of_decide_eq_true this
      have a2:k=m:=by simpa [Value.isStr]using hk
      rw[<- a2,a1]
     | _=>rw[hkk]at this;cases this
    ·split at hm<;>cases hm
   ·cases h1
 ·cases h2
abbrev EG(K:W.Frag):Str×Str×Option Str->Prop:=fun q => ∃C S,W.nsIn K mainGlobals q.1=some (some (.ref C))/\W.nsIn K mainGlobals q.2.1=some (some (.ref S))/\eV K C S/\W.exmOne K (.ref C) (.ref S)=some true/\∀f,q.2.2=some f->qh K C f
theorem zB(h:∀q∈l,EG K q):wU K (fun c=>l.lookup c):=fun c p o e=>h (c,p,o) (PySem.mem_of_lookup e)
abbrev EF(P:Program)(w:World)(K:W.Frag)(mg:Str->Option Value)(base:Heap)(k:Nat):Str×Str×Option Str->Prop:=fun q => ∃C,W.nsIn K mainGlobals q.1=some (some (.ref C))/\(q.2.2=none->du K C=none) /\
 ∀f,q.2.2=some f->∃j fI oI fd ps,j+1<=k/\du K C=some (.ref fI)/\K.lookup fI=some oI/\oI.cls=.type "function" /\ W.keepIn K (.ref C)=true/\be P w K mg base cI j fI fd ps (tR C f)/\bf K fd ps []
theorem Cd(h:∀q∈l,EF P w K mg base k q):Df P w K mg base k (fun c=>l.lookup c):=fun c C hc =>
 ⟨fun p e=>by
  obtain⟨C',h1,h2,_⟩:=h (c,p,none) (PySem.mem_of_lookup e)
  rw[hc]at h1;cases h1;exact h2 rfl,fun p f e=>by
  obtain⟨C',h1,_,h3⟩:=h (c,p,some f) (PySem.mem_of_lookup e)
  rw[hc]at h1;cases h1;exact h3 f rfl⟩
abbrev EO(P:Program)(w:World)(K:W.Frag)(mg:Str->Option Value)(base:Heap)(k:Nat):Str×(List D->Option Xs)->Prop:=fun q=>jB P w K mg base k q.1 q.2
theorem t9{l:List (Str×(List D->Option Xs))}(h:∀q∈l,EO P w K mg base k q):∀g G,(fun g:Str=>l.lookup g) g=some G->jB P w K mg base k g G:=fun g G e=>h (g,G) (PySem.mem_of_lookup e)
def Ai:Stmt->List Stmt
 | .Try b _ _ _ _=>b
 | _=>[]
theorem Ah{r:D}{ρ1:ac}{o:Option Str}(h1:aa (aI Φ pre sc (d7 ps ds)) (.nx ρ1))(h2:Rt Φ Ψ sc tb ρ1 (c,B,fs))(h3:aa (aI Φ post sc (pr ρ1 n y c B fs)) (.rt r))(hc:Ex c=some (B,o):=by rfl)(ho:∀f i,fs=[(f,i)]->o=some f:=by(intro f i z;cases z<;>rfl))(hl:ds.length=ps.length:=by rfl):pX Φ Ψ Ex sc ps pre tb post B n y ds r:=⟨hl,ρ1,h1,.inr ⟨c,o,fs,hc,ho,h2,h3⟩⟩
end Sp
namespace K
open PySem L2 Sp Qm
section
variable{Φ:Fx}{sc:Scope}{ρ ρ1:ac}{ss:List Stmt}
end
end K
namespace K
open PySem L2 Sp
variable{N a b o:Int}{ρ:ac}{P:ac->Prop}{f1 f2:Bool}{n:Nat}{w:World}{mg:Str->Option Value}{l:W.OpenLaw}{q:Program}{loose:List Str}{XP:(Str->Option Value)->Heap->Prop}{d:DefRec}
def aA(i:Nat):Stmt:=PySem.Challenge.pw_spaceturns_k15_fours_of_a_size.main.body.getD i (.Pass ⟨0,0,0,0⟩)
local macro_rules | `(tactic| walk_at "leaf") => `(tactic| first | ((with_reducible apply ze);decide) | ((with_reducible apply cT);decide) | ((with_reducible apply zK) <;> decide) | ((with_reducible apply mulOk_b) <;> (with_reducible assumption)) | ((with_reducible apply yP) <;> decide) | ((with_reducible refine Eq.trans ?_ rfl);exact rfl) | ((with_reducible apply cel_bits);(with_reducible assumption)) | ((with_reducible apply okT_id);assumption) | exact Nat.le_of_ble_eq_true rfl|exact Or.inl rfl|exact Or.inr rfl|exact Or.inr (Nat.le_refl 1) | exact Or.inr (Nat.zero_le 1) | decide|decide +kernel)
local macro_rules | `(tactic| walk_at "ob") => `(tactic| (repeat' (first|with_reducible exact True.intro|with_reducible exact wM|with_reducible apply sV|with_reducible apply wL|with_reducible apply qE|with_reducible assumption | ((with_reducible apply cU);intro hgd) | walk_at "leaf")))
local macro_rules | `(decl_name%) => `(fx rfl (by walk_at "ob"))
def BL:List (Str×(List D->R1)):=[("len", wH),("sum", mD),("isinstance", wI),("sorted", gC)]
def IL:List (Str×(List D->Nat->R1)):=[("range", gu)]
def ML:List (Str×(D->List D->R1)):=[]
def TL:List (Str×(List D->List D->Nat->Rs (List D))):=[("append", lT),("extend", lS),("clear", kD)]
def EX:Str->Option (Str×Option Str):=fun c=>([("TooGreat", "SpaceError", none)]:List (Str×Str×Option Str)).lookup c
def wO:Fx:=Tb [] [] BL IL ML TL fU
def wQ:List D->Rs D:=fu wO (aj (aA 12)) ["_law_script", "_law_k"] (au (aA 12))
def jX:List D->Rs D:=AA dL dI fun l k=>.ok (.int (xY l k)) [Ez l]
theorem qH:∀ds r,aa (jX ds) r->aa (wQ ds) r:=by
 intro ds r h
 obtain⟨l,k,rfl,h⟩:=yp h
 obtain⟨rfl,⟨ns,rfl⟩,_⟩:=lN h
 refine nD (tP 1 (fx rfl True.intro) (rW (fx rfl True.intro) (fun ht=>?_) (fun hf=>?_)))
 ·have hl:(ns.map D.int).length=ns.length:=by simp
  have hp:(0:Int)<((ns.map D.int).length:Nat):=by simpa using ht
  have hi:L2.atI (ns.map D.int) (k.fmod (((ns.map D.int).length:Nat):Int))=some (.int (iG ns k)):=by
   rw[hl]at hp⊢
   have hne:ns≠[]:=by intro z;subst z;simp at hp
   unfold iG
   rw[if_neg hne]
   exact Aa (Int.fmod_nonneg_of_pos _ hp) (Int.fmod_lt_of_pos _ hp)
  refine bF (iC (d:=.int (iG ns k)) (xO (fx rfl True.intro) (fx rfl ⟨Int.ne_of_gt hp,True.intro⟩) rfl hi)) ?_
  refine decl_name%.eq ?_
  unfold xY xX;rw[rR]
 ·have hp:ns=[]:=by
   cases ns with
   | nil=>rfl
   | cons n ns=>simp at hf
  subst hp
  refine decl_name%.eq ?_
  rfl
def cQ:Fx:=Tb [] [("MOST_PART", .int 19)] BL IL ML TL fU
def bI:List D->Rs D:=fun ds=>match ds with
 | [.int o]=>.ok (.dcf (dP o).1 (dP o).2) [o=0\/o=1]
 | _=>.st
theorem yY(h1:ρ (Str.ofString "parts")=some (.lst ((ku o).map D.int),true))(h2:ρ (Str.ofString "pairs")=some (.dct [] [],true))(X:Cx)(H0:Hp)(G:aG cQ X (aj (aA 10)))(hp:PassesOwn (model X.prog X.w) X.A X.env X.xe):cw X H0 ρ ((au (aA 10)).drop 2) (.rt (.dcf (dP o).1 (dP o).2)):=by
 refine tO (f:=Ev) (ps:=ku o) G hp rfl rfl rfl (by decide) (by decide) (by decide) (by decide) (by decide) (by decide) rfl rfl h1 h2 (fun a b ρ' ha hb ma mb=>?_) (fun y p z=>nomatch z) (fun y p z=>nomatch z) rfl rfl (yN o)
 have s:Sub (bO [("a", .int a,false),("b", .int b,false)]) ρ':=aB ha (aB hb bu)
 have l1:=ud ma
 have l2:=ud mb
 have m1:cq a a:=cT (by omega)
 have m2:cq b b:=cT (by omega)
 exact⟨xS (vc s decl_name%) G,En (lR (C:=bO [("a", .int a,false),("b", .int b,false)]) decl_name% s) G⟩
theorem yZ(o:Int):∃ρ',aa (aI cQ ((au (aA 10)).take 2) (aj (aA 10)) (d7 ["odd"] [.int o])) (.nx ρ')/\Sub (bO [("parts", .lst ((ku o).map D.int),true),("pairs", .dct [] [],true)]) ρ':=by
 have e:(ku o).map D.int=((List.range 39).filter fun i:Nat=>decide ((-19+(i:Int)).fmod 2=o)).map fun i:Nat=>D.int (-19+(i:Int)):=by unfold ku;rw[List.map_map];rfl
 rw[e]
 refine⟨_,bF (iC (pz (l:=List.range 39) (g:=fun i:Nat=>D.int (-19+(i:Int))) (f:=fun i:Nat=>D.int (-19+(i:Int))) (t:=fun i:Nat=>decide ((-19+(i:Int)).fmod 2=o)) (xP (B:=gu) decl_name% ⟨_,rfl,by decide,by decide,by decide,by decide,True.intro⟩) rfl (by decide) (.inr (Nat.zero_le 1)) fun i hi=>⟨_,0,rfl,decl_name%.bl (xQ _ _),fun _=>fx rfl (by walk_at "ob")⟩)) (bF decl_name% eI),aB rfl (aB rfl bu)⟩
theorem gD:∀ds r,aa (bI ds) r->nO cQ (aj (aA 10)) ["odd"] (au (aA 10)) ds r:=by
 rintro ds r ⟨l,h,hp⟩
 unfold bI at h
 split at h
 ·rename_i o
  cases h
  refine⟨rfl,fun X H0 G hps=>?_⟩
  obtain⟨ρ',h1,s⟩:=yZ o
  exact lE 2 G hps h1 (yY s.get s.get X H0 G hps)
 ·cases h
def dC:Fx:=Tb [("pairs_by_squares", bI)] [] BL IL ML TL fU
def bL:List D->Rs D:=fun ds=>match ds with
 | [.int N,.int o]=>.ok (.lst ((cn N o).map aW)) [o=0\/o=1,(cn N o).length<=4000]
 | _=>.st
theorem Em{k:Int}{fr:List Int}{acc:List (List Int)}{f3:Bool}(ho:o=0\/o=1)(hf:∃a b,fr=[a,b])(hl:acc.length+(bG o (4*N-k)).length<=bh)(s:Sub (bO [("n", .int N,f1),("pairs", .dcf (dP o).1 (dP o).2,f2),("told", .lst (acc.map aW),true),("squares", .int k,f3),("backs", .lst ((bG o (4*N-k)).map aW),false)]) ρ)
  (fin:∀ρ',Sub (bO [("n", .int N,f1),("pairs", .dcf (dP o).1 (dP o).2,f2),("told", .lst ((acc++(bG o (4*N-k)).map fun b=>fr++b).map aW),true),("squares", .int k,f3),("backs", .lst ((bG o (4*N-k)).map aW),false)]) ρ'->P ρ') :
  ∃ρ2,aa (aI dC (cz ((cz ((au (aA 9)).getD 2 (.Pass ⟨0,0,0,0⟩))).getD 1 (.Pass ⟨0,0,0,0⟩))) (aj (aA 9)) (aL ρ "front" (aW fr,false))) (.nx ρ2)/\P ρ2:=by
 obtain⟨a,b,rfl⟩:=hf
 have hm:∀t∈bG o (4*N-k),∃c d,t=[c,d]:=fun t ht=>i5 ho ht
 generalize bG o (4*N-k)=bk at *
 have e:((bk.map fun b'=>[a,b]++b').map aW)=bk.map fun b'=>aW ([a,b]++b'):=by rw[List.map_map];rfl
 refine kC (s.put _ _) (bF (u8 (l:=acc.map aW) (l':=acc.map aW++bk.map fun b'=>aW ([a,b]++b')) (fC (wy (l:=bk) (g:=aW) (f:=fun b'=>aW ([a,b]++b')) decl_name% rfl (by omega) (.inr (Nat.le_refl 1)) fun t ht=>?_) gw) rfl ?_) eI) fun ρ' s'=>fin ρ' ?_
 ·obtain⟨c,d,rfl⟩:=hm t ht
  exact⟨_,rfl,fx rfl (by walk_at "ob")⟩
 ·exact⟨_,rfl,by rw[List.length_map,List.length_map];exact hl,True.intro⟩
 ·rw[List.map_append,e]
  exact aB s'.get (aB s'.get (aB s'.get (aB s'.get (aB s'.get bu))))
theorem C4(ho:o=0\/o=1)(hN:(cn N o).length<=4000)(X:Cx)(H0:Hp)(G:aG dC X (aj (aA 9)))(hp:PassesOwn (model X.prog X.w) X.A X.env X.xe)(s:Sub (bO [("n", .int N,f1),("pairs", .dcf (dP o).1 (dP o).2,f2),("told", .lst [],true)]) ρ):cw X H0 ρ ((au (aA 9)).drop 2) (.rt (.lst ((cn N o).map aW))):=by
 have sd:=s.demote (jd ((au (aA 9)).getD 2 (.Pass ⟨0,0,0,0⟩)))
 obtain⟨ρ',hch,acc,f3,hacc,_,s3⟩:=jj (X:=X) (H0:=H0) (tg:=sL ((au (aA 9)).getD 2 (.Pass ⟨0,0,0,0⟩))) (body:=cz ((au (aA 9)).getD 2 (.Pass ⟨0,0,0,0⟩))) (h:=D.int) (fun q ρ => ∃(acc:List (List Int)) (f3:Bool),acc++q.flatMap (fY N o)=cn N o/\(∀k∈q,k∈(dP o).1)/\Sub (bO [("n", .int N,f1),("pairs", .dcf (dP o).1 (dP o).2,false),("told", .lst (acc.map aW),true)]) ρ) (dP o).1 (demote (jd ((au (aA 9)).getD 2 (.Pass ⟨0,0,0,0⟩))) ρ) ⟨[],false,rfl,fun k hk=>hk,aB sd.get (aB sd.get (aB sd.get bu))⟩ (by
  rintro k q ρ ⟨acc,f3,he,hk,s⟩
  have hkk:=hk k List.mem_cons_self
  obtain⟨l,hl⟩:=q9 (Cy ho) hkk
  have s1:=s.put (Str.ofString "squares") (.int k,false)
  refine⟨_,kQ G rfl,?_⟩
  have eD:bG o k=l:=by unfold bG;rw[hl];rfl
  have s2:=s1.put (Str.ofString "backs") (.lst ((bG o (4*N-k)).map aW),false)
  have sd2:=s2.demote (jd ((cz ((au (aA 9)).getD 2 (.Pass ⟨0,0,0,0⟩))).getD 1 (.Pass ⟨0,0,0,0⟩)))
  rw[List.flatMap_cons,<- List.append_assoc]at he
  obtain⟨ρ3,hch2,acc2,he2,_,s3⟩:=jj (X:=X) (H0:=H0) (tg:=sL ((cz ((au (aA 9)).getD 2 (.Pass ⟨0,0,0,0⟩))).getD 1 (.Pass ⟨0,0,0,0⟩))) (body:=cz ((cz ((au (aA 9)).getD 2 (.Pass ⟨0,0,0,0⟩))).getD 1 (.Pass ⟨0,0,0,0⟩))) (h:=aW) (fun q2 ρ => ∃acc2:List (List Int),acc2++(q2.flatMap fun f=>(bG o (4*N-k)).map fun b=>f++b)++q.flatMap (fY N o)=cn N o/\(∀f∈q2,f∈l)/\Sub (bO [("n", .int N,f1),("pairs", .dcf (dP o).1 (dP o).2,false),("told", .lst (acc2.map aW),true),("squares", .int k,false),("backs", .lst ((bG o (4*N-k)).map aW),false)]) ρ) l (demote (jd ((cz ((au (aA 9)).getD 2 (.Pass ⟨0,0,0,0⟩))).getD 1 (.Pass ⟨0,0,0,0⟩))) (aL (aL ρ (Str.ofString "squares") (.int k,false)) (Str.ofString "backs") (.lst ((bG o (4*N-k)).map aW),false))) ⟨acc,by rw[<- he];unfold fY;rw[eD],fun f h=>h,aB sd2.get (aB sd2.get (aB sd2.get (aB sd2.get (aB sd2.get bu))))⟩ (by
   rintro fr q2 ρ4 ⟨acc2,he2,hm2,s4⟩
   have hfr:=hm2 fr List.mem_cons_self
   rw[<- eD]at hfr
   have lim:acc2.length+(bG o (4*N-k)).length<=bh:=by
    have:=congrArg List.length he2
    simp only[List.flatMap_cons,List.length_append,List.length_map]at this
    show _<=40000
    omega
   obtain⟨ρ5,h5,hI⟩:=Em (P:=fun ρ' => ∃acc2:List (List Int),acc2++(q2.flatMap fun f=>(bG o (4*N-k)).map fun b=>f++b)++q.flatMap (fY N o)=cn N o/\(∀f∈q2,f∈l)/\Sub (bO [("n", .int N,f1),("pairs", .dcf (dP o).1 (dP o).2,false),("told", .lst (acc2.map aW),true),("squares", .int k,false),("backs", .lst ((bG o (4*N-k)).map aW),false)]) ρ') ho (i5 ho hfr) lim s4 fun ρ' s'=>⟨_,by rw[<- he2,List.flatMap_cons,<- List.append_assoc],fun f hf=>hm2 f (List.mem_cons_of_mem _ hf),s'⟩
   exact⟨_,kQ G rfl,ρ5,dz _ h5 G hp,hI⟩)
  refine⟨_,cJ (oq G rfl (Cn (k:=0) (dZ (o:=false) s1.get rfl) (xS (vc s1 decl_name%) G) rfl (fun _ _ z=>nomatch z) rfl) (.inr ⟨rfl,rfl⟩) (ef rfl)) (cJ (lF hp G.calm (ja (Cp (k:=0) (k2:=0) (dZ (o:=false) sd2.get rfl) (dZ (o:=false) sd2.get rfl) (fun _ _=>rfl) hl)) (Nat.le_refl 1) hch2 fun _=>rfl) qO),acc2,false,by simpa using he2,fun k hk'=>hk k (List.mem_cons_of_mem _ hk'),aB s3.get (aB s3.get (aB s3.get bu))⟩)
 refine cJ (lF hp G.calm (BU (ls:=(dP o).2) (k:=0) ?_) (Nat.zero_le 1) hch fun _=>rfl) ?_
 ·exact dZ (o:=false) sd.get rfl
 ·have e:acc=cn N o:=by simpa using hacc
  rw[<- e]
  exact dz _ (h8 s3 decl_name%) G hp
theorem iK:∀ds r,aa (bL ds) r->nO dC (aj (aA 9)) ["n", "odd"] (au (aA 9)) ds r:=by
 rintro ds r ⟨l,h,hp⟩
 unfold bL at h
 split at h
 ·rename_i N o
  cases h
  obtain⟨ho,hN,_⟩:=hp
  refine⟨rfl,fun X H0 G hps=>?_⟩
  have hS:aa (bI [.int o]) (.dcf (dP o).1 (dP o).2):=⟨_,rfl,ho,True.intro⟩
  exact lE 2 G hps (bF (iC (cC decl_name% hS)) (bF decl_name% eI)) (C4 (f1:=false) (f2:=true) ho hN X H0 G hps (aB rfl (aB rfl (aB rfl bu))))
 ·cases h
def nr:Fx:=Tb [("alike_of_size", bL)] [("MOST_SIZE", .int 97)] BL IL ML TL fU
def vD:Str->Option (List D->Option Xs):=fun g=>([]:List (Str×(List D->Option Xs))).lookup g
def vG:List D->Rs D:=fu nr (aj (aA 8)) ["n"] (au (aA 8))
def cR:List D->Rs D:=fun ds=>match ds with
 | [.int N]=>.ok (.lst ((bZ N).map aW)) [1<=N,N<=97]
 | _=>.st
theorem n5:∀l:List (List Int),(∀t∈l,t≠[])->fN (l.map aW)=some l
 | [],_=>rfl
 | []::l,h=>absurd rfl (h [] List.mem_cons_self)
 | (y::x)::l,h=>by
  have e:fN (l.map fun ns=>D.tup (ns.map D.int))=some l:=n5 l fun t ht=>h t (List.mem_cons_of_mem _ ht)
  rw[List.map_cons]
  unfold aW fN
  rw[kN,e]
theorem xB:∀l:List (List Int),aq (l.map aW)=true
 | []=>rfl
 | x::l=>by
  rw[List.map_cons]
  show(aq (x.map D.int)&&aq (l.map aW))=true
  rw[xB l,i9 x];rfl
theorem yo{a b:List (List Int)}(hn:∀t∈a++b,t≠[])(h:2<=a.length+b.length):aa (gC [.lst (a.map aW++b.map aW)]) (.lst ((hW (a++b)).map aW),0):=by
 unfold gC
 rw[<- List.map_append]
 dsimp only
 rw[n5 _ hn]
 exact⟨_,rfl,by rw[List.length_map,List.length_append];exact h,True.intro⟩
theorem pY:∀ds r,aa (cR ds) r->aa (vG ds) r:=by
 rintro ds r ⟨l,h,hp⟩
 unfold cR at h
 split at h
 ·rename_i N
  cases h
  obtain⟨h1,h2,_⟩:=hp
  obtain⟨n,rfl⟩:∃n:Nat,N=(n:Int):=⟨N.toNat,by omega⟩
  obtain⟨_,l0,l1,l2⟩:=vB (N:=n) (by omega) (by omega)
  have hA0:aa (bL [.int (n:Int),.int 0]) (.lst ((cn (n:Int) 0).map aW)):=⟨_,rfl,.inl rfl,l0,True.intro⟩
  have hA1:aa (bL [.int (n:Int),.int 1]) (.lst ((cn (n:Int) 1).map aW)):=⟨_,rfl,.inr rfl,l1,True.intro⟩
  refine nD (cZ (fD (fR ((decl_name%).bl (decide_eq_false (by omega))) (fR ((decl_name%).bl (decide_eq_false (by show ¬ (n:Int)>97;omega))) kY))) rfl (xk (u7 (vd (B:=gC) (fC (ve (cC decl_name% hA0) (cC decl_name% hA1) ⟨_,rfl,?_,?_,True.intro⟩) gw) (yo (fun t ht=>?_) l2)))))
  ·rw[<- List.map_append];exact xB _
  ·rw[List.length_map,List.length_map];show _<=40000;omega
  ·rcases List.mem_append.mp ht with ht|ht
   ·obtain⟨a,b,c,d,rfl,_⟩:=d8 (.inl rfl) ht;exact List.cons_ne_nil _ _
   ·obtain⟨a,b,c,d,rfl,_⟩:=d8 (.inr rfl) ht;exact List.cons_ne_nil _ _
 ·cases h
def eU:List D->Option Xs:=fun ds=>match ds with
 | [.int N]=>if N<1\/97<N then some (Str.ofString "TooGreat", Str.ofString "SpaceError", [])else none
 | _=>none
theorem pV:∀ds r,eU ds=some r->ds.length=1/\Rz nr vD EX (aj (aA 8)) (au (aA 8)) (d7 ["n"] ds) r:=by
 intro ds r h
 unfold eU at h
 split at h
 ·rename_i N
  split at h
  ·rename_i hN
   cases h
   refine⟨rfl,Rz.iff (t:=true) (k:=0) (fD ?_) (Rz.raiseM (i:=97) decl_name% (by decide) (by decide +kernel) (by decide +kernel) rfl (by decide +kernel) rfl)⟩
   by_cases h1:N<1
   ·exact kX ((decl_name%).bl (decide_eq_true h1)) (fun z=>nomatch z) fun _=>rfl
   ·exact kX ((decl_name%).bl (decide_eq_false h1)) (fun _=>kX ((decl_name%).bl (decide_eq_true (show N>97 by omega))) (fun z=>nomatch z) fun _=>rfl) (fun z=>nomatch z)
  ·cases h
 ·cases h
def vE:Fx:=Tb [] [] BL IL ML TL fU
def nu:List D->Rs D:=fu vE (aj (aA 13)) ["_law_x"] (au (aA 13))
def qG:Fx:=Tb [("_law_whole", nu)] [] BL IL ML TL fU
def en:List D->Rs D:=fu qG (aj (aA 14)) ["_law_thing"] (au (aA 14))
theorem BA{c d:Int}(hb:b.fmod 2=a.fmod 2)(hc:c.fmod 2=a.fmod 2)(hd:d.fmod 2=a.fmod 2):aa (en [t4 a b c d]) (.bl true):=by
 refine nD (cZ decl_name% rfl (yn (ds:=[.int a,.int b,.int c,.int d]) (fun rem ρ=>(∀x∈rem,∃t:Int,x=.int t/\t.fmod 2=a.fmod 2)/\Sub (bO [("_law_thing", t4 a b c d,false)]) ρ) decl_name% ⟨?_,aB rfl bu⟩ ?_ ?_))
 ·intro x hx
  simp only[List.mem_cons,List.not_mem_nil,or_false]at hx
  rcases hx with rfl|rfl|rfl|rfl
  ·exact⟨_,rfl,rfl⟩
  ·exact⟨_,rfl,hb⟩
  ·exact⟨_,rfl,hc⟩
  ·exact⟨_,rfl,hd⟩
 ·rintro x l ρ ⟨hh,s⟩
  obtain⟨t,rfl,ht⟩:=hh x List.mem_cons_self
  exact⟨_,rfl,kC (s.put _ _) (cZ (fD (fR decl_name% (fR (decl_name%.bl (sy ht)) kY))) rfl eI) fun ρ' s'=>⟨fun y hy=>hh y (List.mem_cons_of_mem _ hy),aB s'.get bu⟩⟩
 ·rintro ρ ⟨_,s⟩
  exact h8 s decl_name%
def jl:Fx:=Tb [("_law_is_four", en)] [] BL IL ML TL fU
def fq:List D->Rs D:=fun ds=>match ds with
 | [.lst l,.int N]=>.ok (.bl true) [1<=N,N<=97,l=(bZ N).map aW]
 | _=>.st
theorem mi{t:Nat->Bool}{g:Nat->Nat}:∀l:List Nat,((l.filter t).map fun i=>(g i:Int)).sum=(((l.map fun i=>bif t i then g i else 0).sum:Nat):Int)
 | []=>rfl
 | x::l=>by
  rw[List.filter_cons]
  cases e:t x
  ·simp only[Bool.false_eq_true,if_false,List.map_cons,List.sum_cons,e,cond_false,Nat.zero_add]
   exact mi l
  ·simp only[if_true,List.map_cons,List.sum_cons,e,cond_true]
   rw[mi l];omega
theorem yq:(((List.range ((n+1) / 2)).filter fun i:Nat=>decide ((n:Int).fmod (1+(i:Nat)*2)=0)).map fun i:Nat=>(1+(i:Nat)*2:Int)).sum=((js n:Nat):Int):=by
 have:=mi (t:=fun i:Nat=>decide ((n:Int).fmod (1+(i:Nat)*2)=0)) (g:=fun i=>1+i*2) (List.range ((n+1) / 2))
 have e:(fun i:Nat=>(1+(i:Nat)*2:Int))=fun i:Nat=>((1+i*2:Nat):Int):=by funext i;omega
 rw[e,this]
 unfold js
 congr 3
 funext i
 have:decide ((n:Int).fmod (1+(i:Nat)*2)=0)=Nat.beq (n % (1+i*2)) 0:=by
  rw[Int.fmod_eq_emod_of_nonneg _ (by omega)]
  rw[Bool.eq_iff_iff,decide_eq_true_eq,Nat.beq_eq]
  have:(n:Int) % (1+(i:Int)*2)=((n % (1+i*2):Nat):Int):=by
   rw[Int.natCast_emod];congr 1
  rw[this];omega
 rw[this]
theorem Bn(h:a=b):aa (iF .NotEq (.int a) (.int b)) false:=by
 subst h
 exact decl_name%.eq (sy rfl)
theorem BD(h1:1<=n)(h2:n<=97):∃ρ',aa (aI jl ((au (aA 20)).take 3) (aj (aA 20)) (d7 ["_law_found", "_law_n"] [.lst ((bZ n).map aW),.int (n:Int)])) (.nx ρ')/\Sub (bO [("_law_found", .lst ((bZ n).map aW),false),("_law_n", .int (n:Int),false),("_law_ahead", .non,true)]) ρ':=by
 obtain⟨hc,_⟩:=vB h1 h2
 have hlen:((((bZ n).map aW).length:Nat):Int)=24*((js n:Nat):Int):=by rw[List.length_map,Ac,hc];omega
 have hj:((n:Int)+1).toNat / 2=(n+1) / 2:=by omega
 have hs:aa (mD [.lst (((List.range ((n+1) / 2)).filter fun i:Nat=>decide ((n:Int).fmod (1+(i:Nat)*2)=0)).map fun i:Nat=>D.int (1+(i:Nat)*2))]) (.int ((js n:Nat):Int),0):=by
  rw[<- yq]
  unfold mD
  have e:(((List.range ((n+1) / 2)).filter fun i:Nat=>decide ((n:Int).fmod (1+(i:Nat)*2)=0)).map fun i:Nat=>D.int (1+(i:Nat)*2))=(((List.range ((n+1) / 2)).filter fun i:Nat=>decide ((n:Int).fmod (1+(i:Nat)*2)=0)).map fun i:Nat=>(1+(i:Nat)*2:Int)).map D.int:=by rw[List.map_map];rfl
  rw[e]
  dsimp only
  rw[kN]
  exact⟨_,rfl,True.intro⟩
 have hsg:js n<=400:=by have:=hc;omega
 generalize (bZ n).map aW=F at *
 have m24:cq 24 ((js n:Nat):Int):=cT (by omega)
 refine⟨_,cZ decl_name% rfl (cZ (Ci (y:=.int (24*((js n:Nat):Int))) (j:=0) (r:=false) decl_name% (ve (r:=(.int (24*((js n:Nat):Int)),0)) decl_name% (vd (B:=mD) (fC (pz (l:=List.range ((n+1) / 2)) (g:=fun i:Nat=>D.int (1+(i:Nat)*2)) (f:=fun i:Nat=>D.int (1+(i:Nat)*2)) (t:=fun i:Nat=>decide ((n:Int).fmod (1+(i:Nat)*2)=0)) (xP (B:=gu) decl_name% ⟨_,rfl,rfl,rfl,by omega,by omega,True.intro⟩) (by rw[<- hj];rfl) ?_ (.inr (Nat.zero_le 1)) ?_) gw) hs) decl_name%) ?_) rfl (bF decl_name% eI)),aB rfl (aB rfl (aB rfl bu))⟩
 ·rw[List.length_range];show _<=40000;omega
 ·intro i hi
  have hd:ld (1+(i:Int)*2):=⟨(by omega:1+(i:Int)*2≠0),by have:=List.mem_range.mp hi;exact Nat.lt_of_le_of_lt (show _<=200 by omega) (by decide)⟩
  obtain⟨hd1,hd2⟩:=hd
  exact⟨_,0,rfl,(decl_name%).bl (xQ _ _),fun _=>decl_name%⟩
 ·exact Bn hlen
theorem zl{t:List Int}{x:D}{f:Bool}(hN:1<=N/\N<=97)(ht:rM N 0 t\/rM N 1 t)(hx:x=.non\/∃u,x=aW u/\u.length=4/\HT.lexLt u t=true)(s:Sub (bO [("_law_n", .int N,false),("_law_ahead", x,f)]) ρ)
  (fin:∀ρ' f',Sub (bO [("_law_n", .int N,false),("_law_ahead", aW t,f')]) ρ'->P ρ') :
  ∃ρ2,aa (aI jl (cz ((au (aA 20)).getD 3 (.Pass ⟨0,0,0,0⟩))) (aj (aA 20)) (aL ρ "_law_four" (aW t,false))) (.nx ρ2)/\P ρ2:=by
 have hq:∃o,rM N o t:=by rcases ht with h|h<;>exact⟨_,h⟩
 obtain⟨o,a,b,c,d,rfl,hs,⟨p1,p2,p3,p4⟩,b1,b2,b3,b4⟩:=hq
 have hf:aa (en [t4 a b c d]) (.bl true):=BA (by rw[Int.fmod_eq_emod_of_nonneg _ (by decide),Int.fmod_eq_emod_of_nonneg _ (by decide),p1,p2]) (by rw[Int.fmod_eq_emod_of_nonneg _ (by decide),Int.fmod_eq_emod_of_nonneg _ (by decide),p1,p3]) (by rw[Int.fmod_eq_emod_of_nonneg _ (by decide),Int.fmod_eq_emod_of_nonneg _ (by decide),p1,p4])
 have m1:cq a a:=cT (by omega)
 have m2:cq b b:=cT (by omega)
 have m3:cq c c:=cT (by omega)
 have m4:cq d d:=cT (by omega)
 have m5:cq 4 N:=cT (by omega)
 have hsum:a*a+(b*b+(c*c+(d*d+0)))=4*N:=by omega
 clear hs p1 p2 p3 p4 b1 b2 b3 b4 ht
 rcases hx with rfl|⟨u,rfl,hl,hlt⟩
 ·exact kC (s.put _ _) (cZ (fD (fR (sM (cC decl_name% hf) rfl) (fR ((decl_name%).bl (sy hsum)) kY))) rfl (cZ decl_name% rfl (bF decl_name% eI))) fun ρ' s'=>fin ρ' _ (aB s'.get (aB s'.get bu))
 ·match u,hl,s,hlt with
  | [a',b',c',d'],_,s,hlt =>
   have hn:(true && !HT.lexLt [a',b',c',d'] [a,b,c,d])=false:=by rw[hlt];rfl
   exact kC (s.put _ _) (cZ (fD (fR (sM (cC decl_name% hf) rfl) (fR ((decl_name%).bl (sy hsum)) kY))) rfl (cZ ((zC decl_name% decl_name%).bl hn) rfl (bF decl_name% eI))) fun ρ' s'=>fin ρ' _ (aB s'.get (aB s'.get bu))
theorem BC(h1:1<=n)(h2:n<=97)(X:Cx)(H0:Hp)(G:aG jl X (aj (aA 20)))(hp:PassesOwn (model X.prog X.w) X.A X.env X.xe)(s:Sub (bO [("_law_found", .lst ((bZ n).map aW),false),("_law_n", .int (n:Int),false),("_law_ahead", .non,true)]) ρ):cw X H0 ρ ((au (aA 20)).drop 3) (.rt (.bl true)):=by
 have sd:=s.demote (jd ((au (aA 20)).getD 3 (.Pass ⟨0,0,0,0⟩)))
 obtain⟨ρ',hch,x,f,_,_,s3⟩:=jj (X:=X) (H0:=H0) (tg:=sL ((au (aA 20)).getD 3 (.Pass ⟨0,0,0,0⟩))) (body:=cz ((au (aA 20)).getD 3 (.Pass ⟨0,0,0,0⟩))) (h:=aW) (fun q ρ => ∃(x:D) (f:Bool),(x=.non\/∃u,x=aW u/\u.length=4/\∀t∈q,HT.lexLt u t=true)/\((∀t∈q,t∈bZ n)/\q.Pairwise fun a b=>HT.lexLt a b=true)/\Sub (bO [("_law_n", .int (n:Int),false),("_law_ahead", x,f)]) ρ) (bZ n) (demote (jd ((au (aA 20)).getD 3 (.Pass ⟨0,0,0,0⟩))) ρ) ⟨.non,true,.inl rfl,⟨fun t h=>h,CZ n⟩,aB sd.get (aB sd.get bu)⟩ (by
  rintro t q ρ ⟨x,f,hx,⟨hm,hw⟩,s⟩
  have hF:=Ab (hm t List.mem_cons_self)
  obtain⟨ρ2,h5,hI⟩:=zl (P:=fun ρ => ∃(x:D) (f:Bool),(x=.non\/∃u,x=aW u/\u.length=4/\∀t∈q,HT.lexLt u t=true)/\((∀t∈q,t∈bZ n)/\q.Pairwise fun a b=>HT.lexLt a b=true)/\Sub (bO [("_law_n", .int (n:Int),false),("_law_ahead", x,f)]) ρ) (N:=(n:Int)) (t:=t) (x:=x) (f:=f) ⟨by omega,by omega⟩ hF (by
   rcases hx with h|⟨u,e,hl,h⟩
   ·exact .inl h
   ·exact .inr ⟨u,e,hl,h t List.mem_cons_self⟩) s fun ρ' f' s'=>⟨aW t,f',.inr ⟨t,rfl,by rcases hF with⟨a,b,c,d,rfl,_⟩|⟨a,b,c,d,rfl,_⟩<;>rfl,(List.pairwise_cons.mp hw).1⟩,⟨fun t h=>hm t (List.mem_cons_of_mem _ h),(List.pairwise_cons.mp hw).2⟩,s'⟩
  exact⟨_,kQ G rfl,ρ2,dz _ h5 G hp,hI⟩)
 refine cJ (lF hp G.calm (ja (k:=1) (dZ (o:=false) sd.get rfl)) (Nat.le_refl 1) hch fun _=>rfl) ?_
 exact dz _ decl_name% G hp
theorem sZ:∀ds r,aa (fq ds) r->nO jl (aj (aA 20)) ["_law_found", "_law_n"] (au (aA 20)) ds r:=by
 rintro ds r ⟨l,h,hp⟩
 unfold fq at h
 split at h
 ·rename_i l N
  cases h
  obtain⟨h1,h2,rfl,_⟩:=hp
  obtain⟨n,rfl⟩:∃n:Nat,N=(n:Int):=⟨N.toNat,by omega⟩
  refine⟨rfl,fun X H0 G hps=>?_⟩
  obtain⟨ρ',h3,s⟩:=BD (n:=n) (by omega) (by omega)
  exact lE 3 G hps h3 (BC (by omega) (by omega) X H0 G hps s)
 ·cases h
def qF:Fx:=Tb [("of_size", cR)] [("TooGreat", .xc "TooGreat" none),("NoPrime", .xc "NoPrime" none),("Nought", .xc "Nought" none)] BL IL ML TL fU
def jx:Str->Option (List D->Option Xs):=fun g=>([("of_size", eU)]:List (Str×(List D->Option Xs))).lookup g
def df:List D->Rs D:=fun ds=>match ds with
 | [.int N]=>.ok (.bl true) [N<1\/97<N]
 | _=>.st
theorem mF:∀ds r,aa (df ds) r->pX qF jx EX (aj (aA 19)) ["_law_n"] ((au (aA 19)).take 1) (Ai ((au (aA 19)).getD 1 (.Pass ⟨0,0,0,0⟩))) ((au (aA 19)).drop 2) "SpaceError" "_law_e" "_law_error" ds r:=by
 rintro ds r ⟨l,h,hp⟩
 unfold df at h
 split at h
 ·rename_i N
  cases h
  have hz:eU [.int N]=some (Str.ofString "TooGreat", Str.ofString "SpaceError", []):=if_pos hp.1
  exact Ah decl_name% (Rt.exp decl_name% rfl rfl hz) decl_name%
 ·cases h
def nN:Fx:=Tb [("_law_cell", jX),("of_size", cR),("_law_all", fq),("_law_refused", df)] [] BL IL ML TL fU
def nQ:List D->Rs D:=fu nN (aj (aA 21)) ["_law_script"] (au (aA 21))
theorem D3(hN:1<=N/\N<=97)(s:Sub (bO [("_law_n", .int N,f1),("_law_other", .int o,f2)]) ρ):aa (aI nN ((au (aA 21)).drop 7) (aj (aA 21)) ρ) (.rt (.bl true)):=by
 have hS:aa (cR [.int N]) (.lst ((bZ N).map aW)):=⟨_,rfl,hN.1,hN.2,True.intro⟩
 have hA:aa (fq [.lst ((bZ N).map aW),.int N]) (.bl true):=⟨_,rfl,hN.1,hN.2,rfl,True.intro⟩
 generalize (bZ N).map aW=F at *
 have fin:∀(w:Int) (f3:Bool),(w<1\/97<w)->∀ρ,Sub (bO [("_law_n", .int N,f1),("_law_far", .int w,f3)]) ρ->aa (aI nN ((au (aA 21)).drop 8) (aj (aA 21)) ρ) (.rt (.bl true)):=fun w f3 hw ρ s=>by
  have hR:aa (df [.int w]) (.bl true):=⟨_,rfl,hw,True.intro⟩
  exact h8 s (xk (u7 (fD (xN (cC decl_name% hR) (xN (cC (fC (cC decl_name% hS) (fC decl_name% gw)) hA) pu)))))
 have o0:=Int.fmod_nonneg_of_pos o (show(0:Int)<4 by decide)
 have o1:=Int.fmod_lt_of_pos o (show(0:Int)<4 by decide)
 have w0:=Int.fmod_nonneg_of_pos (o.fdiv 4) (show(0:Int)<10 ^ 39 by decide)
 have hw:∃w:Int,(w<1\/97<w)/\L2.atI [D.int 0,.int 98,.int (98+(o.fdiv 4).fmod (10 ^ Int.toNat 39)),.int (0-(o.fdiv 4).fmod (10 ^ Int.toNat 39))] (o.fmod 4)=some (.int w):=by
  rcases(by omega:o.fmod 4=0\/o.fmod 4=1\/o.fmod 4=2\/o.fmod 4=3)with e|e|e|e
  ·exact⟨0,by omega,by rw[e];rfl⟩
  ·exact⟨98,by omega,by rw[e];rfl⟩
  ·exact⟨_,.inr (show(97:Int)<98+(o.fdiv 4).fmod (10 ^ 39) by omega),by rw[e];rfl⟩
  ·exact⟨_,.inl (show 0-(o.fdiv 4).fmod (10 ^ 39)<(1:Int) by omega),by rw[e];rfl⟩
 obtain⟨w,hw,hat⟩:=hw
 refine h8 s (bF (iC (d:=.int w) (xO decl_name% decl_name% rfl hat)) ?_)
 exact fin w _ hw _ (aB rfl (aB rfl bu))
theorem wp(ns:List Int)(_:ns.length<=63):aa (nQ [.lst (ns.map D.int)]) (.bl true):=by
 have hl:Ez (ns.map D.int):=⟨ns,rfl⟩
 generalize ns.map D.int=L at *
 have tail:∀(N:Int) (f1 f2:Bool) (ρ:ac),(1<=N/\N<=97)->Sub (bO [("_law_script", .lst L,f1),("_law_n", .int N,f2)]) ρ->aa (aI nN ((au (aA 21)).drop 3) (aj (aA 21)) ρ) (.rt (.bl true)):=fun N f1 f2 ρ hN s=>by
  have hS:aa (cR [.int N]) (.lst ((bZ N).map aW)):=⟨_,rfl,hN.1,hN.2,True.intro⟩
  have hA:aa (fq [.lst ((bZ N).map aW),.int N]) (.bl true):=⟨_,rfl,hN.1,hN.2,rfl,True.intro⟩
  generalize (bZ N).map aW=F at *
  exact h8 s (bF (iC (cC decl_name% hS)) (cZ (sM (cC decl_name% hA) rfl) rfl (bF (u8 (M:=kD) (l:=F) (l':=[]) gw rfl ⟨_,rfl,True.intro⟩) (bF decl_name% (D3 (o:=xY L 1) hN (aB rfl (aB rfl bu)))))))
 refine nD (tP 2 decl_name% ?_)
 generalize xY L 0=c at *
 have a0:=Int.fmod_nonneg_of_pos (c.fdiv 8) (show(0:Int)<14 by decide)
 have a1:=Int.fmod_lt_of_pos (c.fdiv 8) (show(0:Int)<14 by decide)
 have b0:=Int.fmod_nonneg_of_pos (c.fdiv 8) (show(0:Int)<97 by decide)
 have b1:=Int.fmod_lt_of_pos (c.fdiv 8) (show(0:Int)<97 by decide)
 refine rW decl_name% (fun ht=>?_) (fun hf=>?_)
 ·exact bF decl_name% (tail _ _ _ _ (by omega) (aB rfl (aB rfl bu)))
 ·exact tail _ _ _ _ (by omega) (aB rfl (aB rfl bu))
theorem Ft:bo (aN (aj (aA 12))) ["_law_script", "_law_k"] (aj (aA 12)):=⟨rfl,rfl,rfl,by decide +kernel,by decide +kernel,by decide +kernel,by decide +kernel⟩
theorem Fu:bo (aN (aj (aA 10))) ["odd"] (aj (aA 10)):=⟨rfl,rfl,rfl,by decide +kernel,by decide +kernel,by decide +kernel,by decide +kernel⟩
theorem GS:bo (aN (aj (aA 9))) ["n", "odd"] (aj (aA 9)):=⟨rfl,rfl,rfl,by decide +kernel,by decide +kernel,by decide +kernel,by decide +kernel⟩
theorem Ey:bo (aN (aj (aA 8))) ["n"] (aj (aA 8)):=⟨rfl,rfl,rfl,by decide +kernel,by decide +kernel,by decide +kernel,by decide +kernel⟩
theorem Fs:bo (aN (aj (aA 13))) ["_law_x"] (aj (aA 13)):=⟨rfl,rfl,rfl,by decide +kernel,by decide +kernel,by decide +kernel,by decide +kernel⟩
theorem Fq:bo (aN (aj (aA 14))) ["_law_thing"] (aj (aA 14)):=⟨rfl,rfl,rfl,by decide +kernel,by decide +kernel,by decide +kernel,by decide +kernel⟩
theorem Fo:bo (aN (aj (aA 20))) ["_law_found", "_law_n"] (aj (aA 20)):=⟨rfl,rfl,rfl,by decide +kernel,by decide +kernel,by decide +kernel,by decide +kernel⟩
theorem Fp:bo (aN (aj (aA 19))) ["_law_n"] (aj (aA 19)):=⟨rfl,rfl,rfl,by decide +kernel,by decide +kernel,by decide +kernel,by decide +kernel⟩
theorem Fm:bo (aN (aj (aA 21))) ["_law_script"] (aj (aA 21)):=⟨rfl,rfl,rfl,by decide +kernel,by decide +kernel,by decide +kernel,by decide +kernel⟩
theorem eF:∀p∈BL,mI p:=aO (Pr:=mI) (zU) (aO (Pr:=mI) (zT) (aO (Pr:=mI) (zV) (aO (Pr:=mI) (vz) (aU))))
theorem eB:∀p∈IL,wS p:=aO (Pr:=wS) (sJ) (aU)
theorem eu:∀p∈ML,Da p:=aU
theorem em:∀p∈TL,p9 p:=aO (Pr:=p9) (sG) (aO (Pr:=p9) (sF) (aO (Pr:=p9) (uz) (aU)))
theorem cL{P:Program}{k0:W.Frag}{base:Heap}{j k:Nat}{g:Str}{F:List D->Rs D}{l:List (Str×(List D->Rs D))}(h:fM P w k0 mg base j g F)(t:∀p∈l,yb P w k0 mg base k p)(hj:j<=k:=by decide):∀p∈(g,F)::l,yb P w k0 mg base k p:=aO (Pr:=yb P w k0 mg base k) (Or.inl (h.mono hj)) t
theorem cN{n:Str}{l:List Str}(h:mg n=none)(t:∀m∈l,mg m=none):∀m∈n::l,mg m=none:=aO (Pr:=fun n=>mg n=none) h t
local macro_rules | `(tactic| walk_at "bn") => `(tactic| (intro _ _ _ _ _ _ us hl;first | (obtain ⟨x0,e⟩:=BB hl;subst e;rfl) | (obtain ⟨x0,x1,e⟩:=FY hl;subst e;rfl)))
theorem all_mk{K:W.Frag}{h:Heap}{fa f12 f10 f9 f8 f13 f14 f20 f19 f21:Addr}(X:K.In h)(G:h.Ns mainGlobals mg)(hfa:mg "law" = some (.ref fa))
  {FL Gz FM GA od9 an9 od8 an8 FK Gy FJ Gx FH Gv FI Gw FG CY:Option Addr} {Fj Fk sl9 sl8 Fi Fh Fe Fg Fd:Array (Option Value)} {FS F5 Gj FE CI Gq FT F6 Gk FF CJ Gr oc9 kV9 dc9 pm9 cd9 ct9 oc8 kV8 dc8 pm8 cd8 ct8 FR F4 Gi FD CH Gp FQ F3 Gh FC CG Go FO F1 Gf FA CD Gm FP F2 Gg FB CF Gn FN BJ Cv AV wF CA:Value}
  (a12:W.nsIn K mainGlobals "_law_cell" = some (some (.ref f12)))    (l12:K.lookup f12=some ⟨FS,FL,.func (W.fnOf "_law_cell" "_law_cell" (bK (aA 12)) (au (aA 12)) (aj (aA 12)) .none F5 Gj FE Gz CI Gq),Fj⟩) (c12:W.codeIn K CI "_law_cell" = true) (k12:W.keepIn K (.ref f12)=true)
  (a10:W.nsIn K mainGlobals "pairs_by_squares" = some (some (.ref f10)))    (l10:K.lookup f10=some ⟨FT,FM,.func (W.fnOf "pairs_by_squares" "pairs_by_squares" (bK (aA 10)) (au (aA 10)) (aj (aA 10)) .none F6 Gk FF GA CJ Gr),Fk⟩) (c10:W.codeIn K CJ "pairs_by_squares" = true) (k10:W.keepIn K (.ref f10)=true)
  (a9:W.nsIn K mainGlobals "alike_of_size" = some (some (.ref f9)))    (l9:K.lookup f9=some ⟨oc9,od9,.func (W.fnOf "alike_of_size" "alike_of_size" (bK (aA 9)) (au (aA 9)) (aj (aA 9)) .none kV9 dc9 pm9 an9 cd9 ct9),sl9⟩) (c9:W.codeIn K cd9 "alike_of_size" = true) (k9:W.keepIn K (.ref f9)=true)
  (a8:W.nsIn K mainGlobals "of_size" = some (some (.ref f8)))    (l8:K.lookup f8=some ⟨oc8,od8,.func (W.fnOf "of_size" "of_size" (bK (aA 8)) (au (aA 8)) (aj (aA 8)) .none kV8 dc8 pm8 an8 cd8 ct8),sl8⟩) (c8:W.codeIn K cd8 "of_size" = true) (k8:W.keepIn K (.ref f8)=true)
  (a13:W.nsIn K mainGlobals "_law_whole" = some (some (.ref f13)))    (l13:K.lookup f13=some ⟨FR,FK,.func (W.fnOf "_law_whole" "_law_whole" (bK (aA 13)) (au (aA 13)) (aj (aA 13)) .none F4 Gi FD Gy CH Gp),Fi⟩) (c13:W.codeIn K CH "_law_whole" = true) (k13:W.keepIn K (.ref f13)=true)
  (a14:W.nsIn K mainGlobals "_law_is_four" = some (some (.ref f14)))    (l14:K.lookup f14=some ⟨FQ,FJ,.func (W.fnOf "_law_is_four" "_law_is_four" (bK (aA 14)) (au (aA 14)) (aj (aA 14)) .none F3 Gh FC Gx CG Go),Fh⟩) (c14:W.codeIn K CG "_law_is_four" = true) (k14:W.keepIn K (.ref f14)=true)
  (a20:W.nsIn K mainGlobals "_law_all" = some (some (.ref f20)))    (l20:K.lookup f20=some ⟨FO,FH,.func (W.fnOf "_law_all" "_law_all" (bK (aA 20)) (au (aA 20)) (aj (aA 20)) .none F1 Gf FA Gv CD Gm),Fe⟩) (c20:W.codeIn K CD "_law_all" = true) (k20:W.keepIn K (.ref f20)=true)
  (a19:W.nsIn K mainGlobals "_law_refused" = some (some (.ref f19)))    (l19:K.lookup f19=some ⟨FP,FI,.func (W.fnOf "_law_refused" "_law_refused" (bK (aA 19)) (au (aA 19)) (aj (aA 19)) .none F2 Gg FB Gw CF Gn),Fg⟩) (c19:W.codeIn K CF "_law_refused" = true) (k19:W.keepIn K (.ref f19)=true)
  (a21:W.nsIn K mainGlobals "law" = some (some (.ref f21)))    (EB:K.lookup f21=some ⟨FN,FG,.func (W.fnOf "law" "law" (bK (aA 21)) (au (aA 21)) (aj (aA 21)) .none BJ Cv AV CY wF CA),Fd⟩) (c21:W.codeIn K wF "law" = true) (k21:W.keepIn K (.ref f21)=true)
  {iN:Addr} (lh:W.nsIn K mainGlobals "NoPrime" = some (some (.ref iN)))
  {j8:Addr} (nh:W.nsIn K mainGlobals "Nought" = some (some (.ref j8)))
  {dJ:Addr} (nA:W.nsIn K mainGlobals "SpaceError" = some (some (.ref dJ)))
  {br:Addr} (eh:W.nsIn K mainGlobals "TooGreat" = some (some (.ref br)))
  (rX:kh K "NoPrime" iN=true) (sP:pJ K iN=true)
  (tT:kh K "Nought" j8=true) (vm:pJ K j8=true)
  (qv:kh K "TooGreat" br=true) (qB:pJ K br=true)
  (xs0:W.specialIn K (.builtin "object.__class__") "__get__" = some (some (.builtin "getset_descriptor.__get__"))) (xt0:W.takesIn K (.builtin "object.__class__")=some true)
  (qr:ml K br dJ=true) (qp:W.findIn K (.ref br) "__getattribute__" = some (some (.builtin "BaseException.__getattribute__"))) (qo:W.findIn K (.ref br) "__getattr__" = some none) (ql:W.findIn K (.ref br) "__class__" = some (some (.builtin "object.__class__"))) (qk:W.mroIn K br (.type "object")=some true) (qj:W.exmOne K (.ref br) (.ref dJ)=some true) (qi:du K br=none)
  {tk0:Tok} (g0:W.nsIn K mainGlobals "MOST_PART" = some (some (.int (19) tk0)))
  {tk1:Tok} (g1:W.nsIn K mainGlobals "MOST_SIZE" = some (some (.int (97) tk1)))
  (z0:W.nsIn K mainGlobals "len" = some none)    (z1:W.nsIn K mainGlobals "tuple" = some none)    (z2:W.nsIn K mainGlobals "list" = some none)    (z3:W.nsIn K mainGlobals "abs" = some none)    (z4:W.nsIn K mainGlobals "all" = some none)    (z5:W.nsIn K mainGlobals "sum" = some none)    (z6:W.nsIn K mainGlobals "isinstance" = some none)    (z7:W.nsIn K mainGlobals "set" = some none)    (z8:W.nsIn K mainGlobals "int" = some none)    (z9:W.nsIn K mainGlobals "bool" = some none)    (z10:W.nsIn K mainGlobals "str" = some none)    (z11:W.nsIn K mainGlobals "range" = some none)    (z12:W.nsIn K mainGlobals "zip" = some none)    (z13:W.nsIn K mainGlobals "enumerate" = some none)    (z14:W.nsIn K mainGlobals "any" = some none)    (z15:W.nsIn K mainGlobals "sorted" = some none)    (z16:W.nsIn K mainGlobals "min" = some none)    (z17:W.nsIn K mainGlobals "max" = some none)    (z18:W.nsIn K mainGlobals "reversed" = some none)    (z19:W.nsIn K mainGlobals "ValueError" = some none) :
  ∃fd:FuncData,(∀(s:Shared) (v:Value),BindsTo s fd ⟨[v],[]⟩ [("_law_script", v)])/\∀base:Heap,K.In base->base.Ns mainGlobals mg->be l.prog w K mg base cI 5 fa fd ["_law_script"] (gX K nQ):=by
 have e:=hfa.symm.trans (W.mg_of X G a21)
 cases e
 have hbl:∀n∈fH,mg n=none:=cN (W.mg_none_of X G z0) (cN (W.mg_none_of X G z1) (cN (W.mg_none_of X G z2) (cN (W.mg_none_of X G z3) (cN (W.mg_none_of X G z4) (cN (W.mg_none_of X G z5) (cN (W.mg_none_of X G z6) (cN (W.mg_none_of X G z7) (cN (W.mg_none_of X G z8) (cN (W.mg_none_of X G z9) (cN (W.mg_none_of X G z10) (cN (W.mg_none_of X G z11) (cN (W.mg_none_of X G z12) (cN (W.mg_none_of X G z13) (cN (W.mg_none_of X G z14) (cN (W.mg_none_of X G z15) (cN (W.mg_none_of X G z16) (cN (W.mg_none_of X G z17) (cN (W.mg_none_of X G z18) (cN (W.mg_none_of X G z19) (aU))))))))))))))))))))
 have hmg:∀n C,W.nsIn K mainGlobals n=some (some (.ref C))->mg n=some (.ref C):=fun n C h=>W.mg_of X G h
 have hEx:wU K EX:=zB (aO (Pr:=EG K) (⟨br,dJ,eh,nA,⟨qr,qp,qo,ql,xs0,xt0,qk⟩,qj,fun _ z=>by cases z⟩) (aU))
 have F12:=dw (st:=(aA 12)) l12 c12 k12
 have b12:=F12.binds (ps:=["_law_script", "_law_k"]) (by walk_at "bn")
 have F10:=dw (st:=(aA 10)) l10 c10 k10
 have b10:=F10.binds (ps:=["odd"]) (by walk_at "bn")
 have F9:=dw (st:=(aA 9)) l9 c9 k9
 have b9:=F9.binds (ps:=["n", "odd"]) (by walk_at "bn")
 have F8:=dw (st:=(aA 8)) l8 c8 k8
 have b8:=F8.binds (ps:=["n"]) (by walk_at "bn")
 have F13:=dw (st:=(aA 13)) l13 c13 k13
 have b13:=F13.binds (ps:=["_law_x"]) (by walk_at "bn")
 have F14:=dw (st:=(aA 14)) l14 c14 k14
 have b14:=F14.binds (ps:=["_law_thing"]) (by walk_at "bn")
 have F20:=dw (st:=(aA 20)) l20 c20 k20
 have b20:=F20.binds (ps:=["_law_found", "_law_n"]) (by walk_at "bn")
 have F19:=dw (st:=(aA 19)) l19 c19 k19
 have b19:=F19.binds (ps:=["_law_n"]) (by walk_at "bn")
 have F21:=dw (st:=(aA 21)) EB c21 k21
 have hEI:∀base k,0<=k->Df l.prog w K mg base k EX:=fun base k hk=>Cd (aO (Pr:=EF l.prog w K mg base k) (⟨br,eh,fun _=>qi,fun _ z=>by cases z⟩) (aU))
 refine⟨W.fnOf "law" "law" (bK (aA 21)) (au (aA 21)) (aj (aA 21)) .none BJ Cv AV CY wF CA,fun s v=>.of_eq rfl,fun base _ _=>?_⟩
 have D12:fM l.prog w K mg base 1 "_law_cell" jX:=kS F12 Ft (W.mg_of X G a12) b12 (by decide +kernel) (de (aU) (aU) eF eB eu em cx hbl) qH
 have D10:fM l.prog w K mg base 1 "pairs_by_squares" bI:=kT (mh F10 Fu (de (aU) (aO (Pr:=gW mg K) (mB (W.mg_of X G g0)) (aU)) eF eB eu em cx hbl) gD) (W.mg_of X G a10) k10 b10 (by decide +kernel)
 have D9:fM l.prog w K mg base 2 "alike_of_size" bL:=kT (mh F9 GS (de (cL D10 (aU)) (aU) eF eB eu em cx hbl) iK) (W.mg_of X G a9) k9 b9 (by decide +kernel)
 have Q8:jB l.prog w K mg base 3 "of_size" eU:=.inl ⟨_,_,["n"],B5 (Ex:=EX) F8 Ey (de (cL D9 (aU)) (aO (Pr:=gW mg K) (mB (W.mg_of X G g1)) (aU)) eF eB eu em cx hbl) (t9 (aU)) hmg (hEI _ _ (by decide)) pV,W.mg_of X G a8,k8,b8,by decide +kernel⟩
 have D8:fM l.prog w K mg base 3 "of_size" cR:=kS F8 Ey (W.mg_of X G a8) b8 (by decide +kernel) (de (cL D9 (aU)) (aO (Pr:=gW mg K) (mB (W.mg_of X G g1)) (aU)) eF eB eu em cx hbl) pY
 have D13:fM l.prog w K mg base 1 "_law_whole" nu:=kS F13 Fs (W.mg_of X G a13) b13 (by decide +kernel) (de (aU) (aU) eF eB eu em cx hbl) jY.self
 have D14:fM l.prog w K mg base 2 "_law_is_four" en:=kS F14 Fq (W.mg_of X G a14) b14 (by decide +kernel) (de (cL D13 (aU)) (aU) eF eB eu em cx hbl) jY.self
 have D20:fM l.prog w K mg base 3 "_law_all" fq:=kT (mh F20 Fo (de (cL D14 (aU)) (aU) eF eB eu em cx hbl) sZ) (W.mg_of X G a20) k20 b20 (by decide +kernel)
 have D19:fM l.prog w K mg base 4 "_law_refused" df:=kT (B4 (pre:=(au (aA 19)).take 1) (tb:=Ai ((au (aA 19)).getD 1 (.Pass ⟨0,0,0,0⟩))) (post:=(au (aA 19)).drop 2) (Ψ:=jx) (Ex:=EX) F19 Fp (de (cL D8 (aU)) (aO (Pr:=gW mg K) (pH (W.mg_of X G eh) eh (nX qv qB)) (aO (Pr:=gW mg K) (pH (W.mg_of X G lh) lh (nX rX sP)) (aO (Pr:=gW mg K) (pH (W.mg_of X G nh) nh (nX tT vm)) (aU)))) eF eB eu em cx hbl) (t9 (aO (Pr:=EO l.prog w K mg base 3) (Q8.mono (by decide)) (aU))) hmg hEx rfl rfl (by decide +kernel) rfl rfl (by decide +kernel) (by decide +kernel) (by decide +kernel) mF) (W.mg_of X G a19) k19 b19 (by decide +kernel)
 exact rC F21 Fm (de (cL D12 (cL D8 (cL D20 (cL D19 (aU))))) (aU) eF eB eu em cx hbl) jY.self
theorem walkX{r:W.RowW}{kwd:List (Str×Expr)}{run:Value->List Value->Sem Value}{K:Params->W.Frag}{as:List Addr}{t:Nat}
  (e:∀P,as=(K P).map (·.1)) (h:W.WalkO q loose XP (W.InK K) r d kwd run):W.WalkX q loose XP (W.X.obsZ as) (W.X.valZ K n t) r d kwd run :=
 fun w _ _ mg mb G y a o pm cd doc dV kV h1 h2 h3 h4 h5 h6 args vals as' L =>
  h w _ _ mg mb G (W.InK.keeps w _ _ (W.X.z_facts e y).2.1 L.keeps) a o pm cd doc dV kV h1 h2 h3 h4 h5 h6 args vals as'
theorem walk{YP:World->Heap->Prop}{K:Params->W.Frag}(hn:l.most=some 63)(hdf:d.params.defaults=[])
  (hY:∀(w:World) (h:Heap),YP w h->(K w.params).In h)
  (F:∀(w:World) (mg:Str->Option Value) (fa:Addr) (h:Heap),(K w.params).In h->h.Ns mainGlobals mg->mg d.name=some (.ref fa) ->
   ∃fd:FuncData,(∀(s:Shared) (u:Value),BindsTo s fd ⟨[u],[]⟩ [("_law_script", u)])/\∀base:Heap,(K w.params).In base->base.Ns mainGlobals mg->be l.prog w (K w.params) mg base cI 5 fa fd ["_law_script"] (gX (K w.params) nQ)) :
  W.WalkO q loose XP YP l.row.toRowW d [] (fun f vs=>PySem.call f vs) :=
 L2.walk_of (n:=63) (k:=5) (x := "_law_script") (CX:=fun _=>cI) (sp:=fun w=>gX (K w.params) nQ) hn (by decide) hdf ⟨rfl,by decide,by decide⟩ hY F (fun _ _ a ns hl hO hS=>BV hO hS (wp ns hl)) fun _ _ _ _ _ z=>z
end K
namespace PySem.W.Fast
theorem tw15742630536632506962:True:=.intro
theorem tw17397907831829367602:True:=.intro
theorem tw6774451364924617131:True:=.intro
theorem tw13093097807105319255:True:=.intro
theorem tw8026763781723633450:True:=.intro
theorem tw17865068130591506722:True:=.intro
theorem tw9581602723130434105:True:=.intro
theorem tw8025625673015700085:True:=.intro
theorem tw16537955700878711022:True:=.intro
theorem tw16962892292956112092:True:=.intro
theorem tw1330784833733914111:True:=.intro
theorem tw7903758864403237610:True:=.intro
theorem tw1094534449205056932:True:=.intro
theorem tw3019273130452031835:True:=.intro
theorem tw16424233338962044888:True:=.intro
theorem tw14315948110267443609:True:=.intro
theorem tw5424535090777184818:True:=.intro
theorem tw15620867192772497835:True:=.intro
theorem tw15184315355756279305:True:=.intro
theorem tw6109970588682758143:True:=.intro
theorem tw15129289779091866603:True:=.intro
theorem tw10638088927932415901:True:=.intro
theorem tw17165306476349741312:True:=.intro
theorem tw4561348558293078166:True:=.intro
theorem tw10526508065302200427:True:=.intro
theorem tw7971491442138931640:True:=.intro
theorem tw9058195929236243971:True:=.intro
theorem tw2947930621245285853:True:=.intro
theorem tw16722286076277838882:True:=.intro
theorem tw9801505348179488022:True:=.intro
theorem tw187257181493645330:True:=.intro
theorem tw12023189789423032881:True:=.intro
theorem tw13520471498378032165:True:=.intro
theorem tw3640528136467895871:True:=.intro
theorem tw2636312587840956742:True:=.intro
theorem tw10545030700589877960:True:=.intro
theorem tw1964962600142944533:True:=.intro
theorem tw12330857409117598039:True:=.intro
theorem tw14931200662014357107:True:=.intro
theorem tw7987672058561333685:True:=.intro
theorem tw7468086371749388565:True:=.intro
theorem tw2120256163516465821:True:=.intro
theorem tw18063303612671924367:True:=.intro
theorem tw13185717999554742379:True:=.intro
theorem tw9231674925910252323:True:=.intro
theorem tw5846839199480091650:True:=.intro
theorem tw12729549352447457294:True:=.intro
theorem tw1165166977364576294:True:=.intro
theorem tw3475309250874515437:True:=.intro
theorem tw16971507520612759397:True:=.intro
theorem tw4479186873138877920:True:=.intro
theorem tw4175766968160796404:True:=.intro
theorem tw2264639037980241664:True:=.intro
theorem tw13322054175528223836:True:=.intro
theorem tw26376251847464740:True:=.intro
theorem tw1335382964983630285:True:=.intro
theorem tw6074097351699744576:True:=.intro
theorem tw1536808690290675055:True:=.intro
theorem tw6085127905126308958:True:=.intro
theorem tw5822121440300426093:True:=.intro
theorem tw6464275885932364923:True:=.intro
theorem tw8354169853401988585:True:=.intro
theorem tw7370415195835991539:True:=.intro
theorem tw8386707624240727266:True:=.intro
theorem tw1945420339940576937:True:=.intro
theorem tw11455224718195234001:True:=.intro
theorem tw11785213105022227925:True:=.intro
theorem tw11518127521056352362:True:=.intro
theorem tw11500561914501428893:True:=.intro
theorem tw4822774148217560491:True:=.intro
theorem tw1132886615898989246:True:=.intro
theorem tw7612957125964087332:True:=.intro
theorem tw7261306764620459445:True:=.intro
theorem tw990596139687333316:True:=.intro
theorem tw15806372834612895750:True:=.intro
theorem tw7071061516240753153:True:=.intro
theorem tw328213859991304571:True:=.intro
theorem tw333281492664428832:True:=.intro
theorem tw6738320328637384365:True:=.intro
theorem tw15934433973836807970:True:=.intro
theorem tw9372172090295867699:True:=.intro
theorem tw18178897223680564363:True:=.intro
theorem tw14855294012396548306:True:=.intro
theorem tw7122189332848414553:True:=.intro
theorem tw5491094825275067098:True:=.intro
theorem tw11478889136783441651:True:=.intro
theorem tw16127350291467970473:True:=.intro
theorem tw12455454994580750967:True:=.intro
end PySem.W.Fast
open PySem PySem.W PyProof.Rows
set_option maxRecDepth 100000 in
set_option maxHeartbeats 0 in
theorem PySem.Challenge.cw_spaceturns_k15_fours_of_a_size_holds : PySem.Challenge.rw_spaceturns_k15_fours_of_a_size.Holds := by
 w_on;o_law;z_head;(case hw=>w_witness2)
 k_fill
 refine K.walkX (fun _=>rfl) (K.walk (l:=PySem.Challenge.rw_spaceturns_k15_fours_of_a_size) rfl rfl (fun w h Y=>Y) ?F)
 case F =>
  intro w mg fa h KX G hmg
  refine' K.all_mk KX G hmg ?_ ?_ ?_ ?_ ?_ ?_ ?_ ?_ ?_ ?_ ?_ ?_ ?_ ?_ ?_ ?_ ?_ ?_ ?_ ?_ ?_ ?_ ?_ ?_ ?_ ?_ ?_ ?_ ?_ ?_ ?_ ?_ ?_ ?_ ?_ ?_ ?_ ?_ ?_ ?_ ?_ ?_ ?_ ?_ ?_ ?_ ?_ ?_ ?_ ?_ ?_ ?_ ?_ ?_ ?_ ?_ ?_ ?_ ?_ ?_ ?_ ?_ ?_ ?_ ?_ ?_ ?_ ?_ ?_ ?_ ?_ ?_ ?_ ?_ ?_ ?_ ?_
  all_goals try first|k_is|kernel_rfl
