import PyProof.Rows.All
import Wide.All
import OpenK.AllK
import Wide.FinOn
import Lean
import PyProof.EqAt
import PyProof.EqKinds
import PyProof.TupleCall
import PySem.Challenge.RW_spaceturns_k20_taken_apart
set_option Elab.async false
set_option linter.all false
set_option maxRecDepth 100000
namespace L2
open PySem PySem.Spec PyProof.Rows
variable{us:List Value}{C a b dx it:Addr}{P:Program}{w:World}{base h:Heap}{o:Obj}{g':Array GenState}{qual x:Str}{N ps:List Str}{i j k n:Nat}{M:Model}{A:Around}{E Q:Value->Shared->Prop}{u:Value}{s s':Shared}{c e l tg:Expr}{α:Type}{pins:List (Addr×Obj)}{p pos pos':Pos}{K:W.Frag}{es:List Expr}{op:Operator}{body:List Stmt}{fp:List Addr}{f:Value->Value->Sem Value}{g:Int->Int->Int}{op':CmpOp}{mA mg:Str->Option Value}{pl:Sem Bool}{kw:List (Str×Value)}{fd:FuncData}{outer:List Env}{scope:Scope}
abbrev bU:=Sum Int Str
def ni:bU->Value->Bool
 | .inl k,v=>Value.isInt k v
 | .inr x,v=>Value.isStrOf x v
def P0(w:World):bU->Int
 | .inl k=>hashInt k
 | .inr x=>hashStr w x
theorem cH:∀{k:bU} {v:Value},ni k v=true->(∃i t,k=Sum.inl i/\v=Value.int i t)\/(∃x t,k=Sum.inr x/\v=Value.str x t)
 | .inl i,v,h=>by
  obtain⟨t,e⟩:=Value.isInt_shape (k:=i) (v:=v) h
  exact .inl ⟨i,t,rfl,e⟩
 | .inr x,v,h=>by
  obtain⟨t,e⟩:=Value.isStrOf_shape (x:=x) (v:=v) h
  exact .inr ⟨x,t,rfl,e⟩
theorem Ab(i:Int)(t:Tok):ni (.inl i) (.int i t)=true:=by simp[ni,Value.isInt]
theorem Aa(x:Str)(t:Tok):ni (.inr x) (.str x t)=true:=by simp[ni,Value.isStrOf]
theorem IH(a b:Int):decide ((Sum.inl a:bU)=Sum.inl b)=(a==b):=by
 by_cases e:a=b
 ·subst e;simp
 ·have h:¬ (Sum.inl a:bU)=Sum.inl b:=fun q=>e (Sum.inl.inj q)
  rw[decide_eq_false h]
  exact(beq_eq_false_iff_ne.mpr e).symm
theorem ID(a b:Str):decide ((Sum.inr a:bU)=Sum.inr b)=decide (a=b):=by
 by_cases e:a=b
 ·subst e;simp
 ·have h:¬ (Sum.inr a:bU)=Sum.inr b:=fun q=>e (Sum.inr.inj q)
  rw[decide_eq_false h,decide_eq_false e]
theorem IG(a:Int)(b:Str):decide ((Sum.inl a:bU)=Sum.inr b)=false:=decide_eq_false (fun q=>nomatch q)
theorem IF(a:Str)(b:Int):decide ((Sum.inr a:bU)=Sum.inl b)=false:=decide_eq_false (fun q=>nomatch q)
def gi(prog:Program)(w:World):PySem.KeyKind prog w bU where
 is:=ni
 hash:=P0 w
 inj:=fun v a b ha hb=>by
  rcases cH ha with⟨i,t,rfl,rfl⟩|⟨x,t,rfl,rfl⟩
  ·rcases cH hb with⟨j,u,rfl,e⟩|⟨y,u,rfl,e⟩
   ·injection e with e1 _;rw[e1]
   ·exact nomatch e
  ·rcases cH hb with⟨j,u,rfl,e⟩|⟨y,u,rfl,e⟩
   ·exact nomatch e
   ·injection e with e1 _;rw[e1]
 byValue:=fun k v h=>by
  rcases cH h with⟨i,t,rfl,rfl⟩|⟨x,t,rfl,rfl⟩<;>rfl
 pyHash:=fun hv h=>by
  rcases cH hv with⟨i,t,rfl,rfl⟩|⟨x,t,rfl,rfl⟩
  ·exact wpAny_pyHash_int h
  ·exact wpAny_pyHash_str h
 eqBool:=fun hu hv h=>by
  rcases cH hu with⟨i,t,rfl,rfl⟩|⟨x,t,rfl,rfl⟩
  ·rcases cH hv with⟨j,u,rfl,rfl⟩|⟨y,u,rfl,rfl⟩
   ·rw[IH]at h;exact wpAny_eqBool_int h
   ·rw[IG]at h;exact SeqAt.EqAt.int_str i t y u _ _ _ _ h
  ·rcases cH hv with⟨j,u,rfl,rfl⟩|⟨y,u,rfl,rfl⟩
   ·rw[IF]at h;exact SeqAt.EqAt.str_int x t j u _ _ _ _ h
   ·rw[ID]at h;exact wpAny_eqBool_str h
 «strs» := fun k x t v h=>by
  rcases cH h with⟨i,u,rfl,e⟩|⟨y,u,rfl,e⟩
  ·exact nomatch e
  ·injection e with e1 _
   subst e1
   cases v<;>rfl
theorem vA(prog:Program)(w:World)(i:Int)(t:Tok):(gi prog w).is (.inl i) (.int i t)=true:=Ab i t
theorem vz(prog:Program)(w:World)(x:Str)(t:Tok):(gi prog w).is (.inr x) (.str x t)=true:=Aa x t
inductive V where
 | non|bl (b:Bool)|int (i:Int)|str (x:Str)|byt (b:Array UInt8)|flt (b:UInt64)|ref (a:Addr)|ty (n:String)
 deriving DecidableEq
def aU:V->Value->Prop
 | .non,u=>u=Value.none
 | .bl b,u=>u=Value.bool b
 | .int i,u => ∃t,u=Value.int i t
 | .str x,u => ∃t,u=Value.str x t
 | .byt b,u => ∃t,u=Value.bytes b t
 | .flt b,u => ∃t,u=Value.float b t
 | .ref a,u=>u=Value.ref a
 | .ty n,u=>u=Value.type n
abbrev aK:List V->List Value->Prop:=Paired aU
theorem aK.length{xs:List V}(r:aK xs us):xs.length=us.length:=Paired.length r
theorem aK.get:∀{xs:List V} {us:List Value} {i:Nat} {x:V},aK xs us->xs[i]?=some x->∃u,us[i]?=some u/\aU x u
 | _,_,_,_,.nil,e=>by simp at e
 | _,_,0,_,.cons r _,e=>by simp at e;subst e;exact⟨_,rfl,r⟩
 | _,_,i+1,x,.cons _ t,e=>by
  obtain⟨u,h1,h2⟩:=aK.get (i:=i) (x:=x) t (by simpa using e)
  exact⟨u,by simpa using h1,h2⟩
theorem aK.set{x:V}{u:Value}(r:aU x u):∀{xs:List V} {us:List Value} (i:Nat),aK xs us->aK (xs.set i x) (us.set i u)
 | _,_,_,.nil=>.nil
 | _,_,0,.cons _ t=>.cons r t
 | _,_,i+1,.cons q t=>.cons q (aK.set r i t)
theorem aK.append:∀{xs ys:List V} {us ws:List Value},aK xs us->aK ys ws->aK (xs++ys) (us++ws)
 | _,_,_,_,.nil,s=>s
 | _,_,_,_,.cons r t,s=>.cons r (aK.append t s)
theorem aK.take:∀{xs:List V} {us:List Value} (n:Nat),aK xs us->aK (xs.take n) (us.take n)
 | _,_,0,_=>.nil
 | _,_,_+1,.nil=>.nil
 | _,_,n+1,.cons r t=>.cons r (aK.take n t)
theorem aK.drop:∀{xs:List V} {us:List Value} (n:Nat),aK xs us->aK (xs.drop n) (us.drop n)
 | _,_,0,r=>r
 | _,_,_+1,.nil=>.nil
 | _,_,n+1,.cons _ t=>aK.drop n t
theorem aK.none_of:∀{xs:List V} {us:List Value} {i:Nat},aK xs us->xs[i]?=none->us[i]?=none:=fun {xs us i} r e=>by
 have h1:=r.length
 have h2:xs.length<=i:=List.getElem?_eq_none_iff.mp e
 exact List.getElem?_eq_none_iff.mpr (by omega)
def fg:Option V->Option Value->Prop
 | some v,some u=>aU v u
 | none,none=>True
 | _,_=>False
def KV{κ:Type}:List (κ×V)->List (κ×Value)->Prop:=Paired fun(p:κ×V) (q:κ×Value)=>p.1=q.1/\aU p.2 q.2
def kV:bU->V
 | .inl i=>.int i
 | .inr x=>.str x
inductive HO where
  | lst (xs:List V)
  | tup (xs:List V)
  | dK (kvs:List (bU×V))|dT (kvs:List (List bU×V))
  | set (S:Int->Bool) (n:Nat)
  | ins (C dx:Addr) (fs:List (Str×V))
  | own (x:Addr)
  | xd (fs:List (Str×V))
  | met (f x:Addr)
  | rng (lo hi:Int)
  | frz (o:Obj) (u:HO)
  | tbl (ps:Array Value)
  | ext (φ:Heap->Prop)
abbrev Hp:=Addr->Option HO
def aG(H:Hp)(a:Addr)(o:HO):Hp:=fun b=>if b=a then some o else H b
theorem aE{H:Hp}{o:HO}:aG H a o a=some o:=by unfold aG;rw[if_pos rfl]
theorem ax{H:Hp}{o:HO}(h:b≠a):aG H a o b=H b:=by unfold aG;rw[if_neg h]
theorem vR{H:Hp}{o u:HO}:aG (aG H a o) a u=aG H a u:=by
 funext b;unfold aG;split<;>rfl
theorem i8{H:Hp}{o u:HO}(h:H a=some o)(h':H b=some u)(d:o≠u):a≠b:=by
 intro e;subst e;rw[h]at h';exact d (Option.some.inj h')
theorem aV{H:Hp}{o:HO}(h:H a=some o)(h':H b=none):a≠b:=by
 intro e;subst e;rw[h]at h';cases h'
section
variable(P:Program)(w:World)
def bw(H:Hp)(h:Heap)(a:Addr):HO->Prop
  | .lst xs=>xs.length<=sizeLine/\∃(its:List Value) (n:Nat),aK xs its/\h.get? a=some { cls:=.type "list", data:=.seq its.toArray n }
  | .tup xs=>xs.length<=sizeLine/\∃its:List Value,aK xs its/\IsTup h a its.toArray
  | .dK kvs=>kvs.length<=sizeLine/\(a==sysModules)=false/\∃vs,KV kvs vs/\h.DictOf (gi P w) a vs
  | .dT kvs=>kvs.length<=sizeLine/\(a==sysModules)=false/\∃xs:List (List bU×Addr×Value),
      Paired (fun(p:List bU×V) (q:List bU×Addr×Value)=>p.1=q.1/\H q.2.1=some (.tup (p.1.map kV))/\aU p.2 q.2.2) kvs xs /\
      ∃o es ep,h.get? a=some o/\o.ExactDict/\o.data=.dict es ep/\es.toList=xs.map (entryOfKey (tupleKind (gi P w)))/\(xs.map (·.1)).Nodup
  | .set S n=>h.SetOf (intKind P w) a S n
  | .ins C dx fs=>H dx=some (.own a)/\fs.length<=1000/\dx≠a/\h.get? a=some (W.instObj C dx) /\
      ∃mA,h.Ns1 dx mA/\(∀f,fg (fs.lookup f) (mA f))/\PySem.Within mA (fs.map (·.1))
  | .own _ => ∃o,h.get? a=some o
  | .xd fs => ∃mA,h.Ns1 a mA/\∀f,fg (fs.lookup f) (mA f)
  | .rng lo hi => ∃t u v,h.get? a=some { cls:=.type "range", data:=.fields #[.int lo t,.int hi u,.int 1 v] }
  | .frz o u=>h.get? a=some o/\bw H h a u
  | .tbl ps=>h.get? a=some { cls:=.none,data:=.fields ps }
  | .met f x=>h.get? a=some (W.methodObj (.ref f) (.ref x))
  | .ext φ=>φ h/\(∃o,h.get? a=some o)/\∀h1 h2:Heap,φ h1->(∀o,h1.get? a=some o->h2.get? a=some o)->φ h2
def cz(H:Hp)(h:Heap):Prop:=∀a o,H a=some o->bw P w H h a o
end
section
variable{H H':Hp}{h':Heap}{o:HO}
theorem bw.lt(x:bw P w H h a o):a<h.objs.size:=by
 cases o with
 | lst xs=>obtain⟨_,_,_,_,e⟩:=x;exact Heap.lt_size e
 | tup xs=>obtain⟨_,_,_,p⟩:=x;exact p.lt
 | dK kvs=>obtain⟨_,_,_,_,o,_,_,e,_⟩:=x;exact Heap.lt_size e
 | dT kvs=>obtain⟨_,_,_,_,o,_,_,e,_⟩:=x;exact Heap.lt_size e
 | set S n=>obtain⟨o,_,_,_,e,_⟩:=x;exact Heap.lt_size e
 | ins C dx fs=>obtain⟨_,_,_,e,_⟩:=x;exact Heap.lt_size e
 | own y=>obtain⟨_,e⟩:=x;exact Heap.lt_size e
 | xd fs=>obtain⟨_,⟨_,_,_,e,_⟩,_⟩:=x;exact Heap.lt_size e
 | rng lo hi=>obtain⟨_,_,_,e⟩:=x;exact Heap.lt_size e
 | frz ob u=>obtain⟨e,_⟩:=x;exact Heap.lt_size e
 | tbl ps=>exact Heap.lt_size (show h.get? a=some _ from x)
 | met f y=>exact Heap.lt_size (show h.get? a=some _ from x)
 | ext φ=>obtain⟨_,⟨_,e⟩,_⟩:=x;exact Heap.lt_size e
theorem Paired.mapP{α β:Type}{F G:α->β->Prop}:∀{l₁:List α} {l₂:List β},Paired F l₁ l₂->(∀a b,F a b->G a b)->Paired G l₁ l₂
 | _,_,.nil,_=>.nil
 | _,_,.cons r t,f=>.cons (f _ _ r) (Paired.mapP t f)
theorem bw.stay(x:bw P w H h a o)(k:∀b u,(b=a\/H b=some (.own a))->h.get? b=some u->h'.get? b=some u)
  (ho:∀b,H b=some (.own a)->H' b=some (.own a)) (ht:∀b xs,H b=some (.tup xs)->H' b=some (.tup xs)):bw P w H' h' a o:=by
 induction o with
 | lst xs=>obtain⟨z,its,n,r,e⟩:=x;exact⟨z,its,n,r,k _ _ (.inl rfl) e⟩
 | tup xs=>obtain⟨z,its,r,ob,e,c⟩:=x;exact⟨z,its,r,ob,k _ _ (.inl rfl) e,c⟩
 | dK kvs=>obtain⟨z,y,vs,r,ob,es,ep,e,c⟩:=x;exact⟨z,y,vs,r,ob,es,ep,k _ _ (.inl rfl) e,c⟩
 | dT kvs =>
  obtain⟨z,y,xs,r,ob,es,ep,e,c⟩:=x
  exact⟨z,y,xs,Paired.mapP r fun p q z=>⟨z.1,ht _ _ z.2.1,z.2.2⟩,ob,es,ep,k _ _ (.inl rfl) e,c⟩
 | set S n=>obtain⟨ob,es,ep,t,e,c⟩:=x;exact⟨ob,es,ep,t,k _ _ (.inl rfl) e,c⟩
 | ins C dx fs =>
  obtain⟨d,z,ne,e,mA,⟨od,es,ep,e2,c⟩,r⟩:=x
  exact⟨ho _ d,z,ne,k _ _ (.inl rfl) e,mA,⟨od,es,ep,k _ _ (.inr d) e2,c⟩,r⟩
 | own y=>obtain⟨ob,e⟩:=x;exact⟨ob,k _ _ (.inl rfl) e⟩
 | xd fs=>obtain⟨mA,⟨od,es,ep,e,c⟩,r⟩:=x;exact⟨mA,⟨od,es,ep,k _ _ (.inl rfl) e,c⟩,r⟩
 | rng lo hi=>obtain⟨t,u,v,e⟩:=x;exact⟨t,u,v,k _ _ (.inl rfl) e⟩
 | frz ob u ih=>obtain⟨e,q⟩:=x;exact⟨k _ _ (.inl rfl) e,ih q⟩
 | tbl ps =>
  have e:h.get? a=some { cls:=.none,data:=.fields ps }:=x
  show h'.get? a=some { cls:=.none,data:=.fields ps }
  exact k a _ (.inl rfl) e
 | met f y =>
  have e:h.get? a=some (W.methodObj (.ref f) (.ref y)):=x
  show h'.get? a=some (W.methodObj (.ref f) (.ref y))
  exact k a _ (.inl rfl) e
 | ext φ=>obtain⟨p,⟨o,e⟩,st⟩:=x;exact⟨st _ _ p fun o q=>k _ _ (.inl rfl) q,⟨o,k _ _ (.inl rfl) e⟩,st⟩
theorem cz.lt(x:cz P w H h)(e:H a=some o):a<h.objs.size:=(x a o e).lt
theorem cz.fresh(x:cz P w H h)(e:h.objs.size<=a):H a=none:=by
 cases q:H a with
 | none=>rfl
 | some u=>exact absurd (Nat.lt_of_lt_of_le (x.lt q) e) (Nat.lt_irrefl _)
theorem cz.kept(x:cz P w H h)(k:∀b u,h.get? b=some u->h'.get? b=some u):cz P w H h':=fun a o e =>
 (x a o e).stay (fun b u _ q=>k b u q) (fun _ q=>q) fun _ _ q=>q
theorem cz.laid(x:cz P w H h)(k:∀b u,h.get? b=some u->h'.get? b=some u)(hp:h.objs.size<=a)(new:bw P w (aG H a o) h' a o):cz P w (aG H a o) h':=fun b u e=>by
 have hn:=x.fresh hp
 by_cases hb:b=a
 ·subst hb;rw[aE]at e;cases e;exact new
 ·rw[ax hb]at e
  exact(x b u e).stay (fun c v _ q=>k c v q) (fun c q=>by rw[ax (aV q hn)];exact q) fun c xs q=>by rw[ax (aV q hn)];exact q
end
def Rd(H:Hp)(a:Addr)(u:HO):Prop:=H a=some u\/∃o,H a=some (.frz o u)
theorem Rd.ok{H:Hp}{u:HO}(r:Rd H a u)(x:cz P w H h):bw P w H h a u:=by
 rcases r with r|⟨o,r⟩
 ·exact x a u r
 ·obtain⟨_,q⟩:=x a _ r
  exact q
def Eb:Option HO->Prop
 | some (.lst _)=>True
 | some (.dK _)=>True
 | some (.dT _)=>True
 | some (.set _ _)=>True
 | some (.ins _ _ _)=>True
 | some (.ext _)=>True
 | _=>False
section
variable{H:Hp}{h':Heap}{x e:Addr}{o':HO}
theorem cz.write(ok:cz P w H h)(mu:Eb (H x))(he:e=x\/H e=some (.own x))(k:∀b u,b≠e->h.get? b=some u->h'.get? b=some u)(heo:∃u,h'.get? e=some u)
  (new:bw P w (aG H x o') h' x o'):cz P w (aG H x o') h':=fun b u q=>by
 have nown:∀c y,H c=some (.own y)->c≠x:=fun c y r z=>by subst z;rw[r]at mu;exact mu
 have ntup:∀c xs,H c=some (.tup xs)->c≠x:=fun c xs r z=>by subst z;rw[r]at mu;exact mu
 by_cases hb:b=x
 ·subst hb;rw[aE]at q;cases q;exact new
 ·rw[ax hb]at q
  by_cases hbe:b=e
  ·have q':H b=some (.own x):=by
    rcases he with z|z
    ·exact absurd (hbe.trans z) hb
    ·rw[hbe];exact z
   rw[q]at q';cases q'
   obtain⟨v,hv⟩:=heo
   exact⟨v,by rw[hbe];exact hv⟩
  ·refine(ok b u q).stay (fun c v hc r=>k c v ?_ r) (fun c r=>by rw[ax (nown c b r)];exact r) fun c xs r=>by rw[ax (ntup c xs r)];exact r
   rcases hc with rfl|hc
   ·exact hbe
   ·rintro rfl
    rcases he with z|z
    ·exact nown c b hc z
    ·rw[hc]at z;cases z;exact hb rfl
end
structure Un(fs ex:List Addr)(H H':Hp)(h h':Heap):Prop where
 keep:∀b o,h.get? b=some o->H b=none->b∉fs->b∉ex->h'.get? b=some o
 slot:∀b o,h.get? b=some o->H b=none->b∈fs->b∉ex->∃sl,h'.get? b=some { o with slots:=sl }
 free:∀b o,h.get? b=some o->H b=none->b∉ex->H' b=none
 there:∀b o,h.get? b=some o->b∉ex->∃o',h'.get? b=some o'
 tups:∀b xs,H b=some (.tup xs)->H' b=some (.tup xs)
 frzs:∀b o u,H b=some (.frz o u)->H' b=some (.frz o u)
 tbls:∀b ps,H b=some (.tbl ps)->∃more,H' b=some (.tbl (ps++more))
section
variable{fs fs' ex ex':List Addr}{H H1 H2:Hp}{h1 h2 h':Heap}{x e:Addr}{o:HO}
theorem Un.any(u:Un fs ex H H1 h h1){ob:Obj}(q:h.get? b=some ob)(n:H b=none)(hx:b∉ex):∃sl,h1.get? b=some { ob with slots:=sl }:=by
 by_cases hb:b∈fs
 ·exact u.slot b ob q n hb hx
 ·exact⟨ob.slots,u.keep b ob q n hb hx⟩
theorem Un.kept(k:∀b u,h.get? b=some u->h'.get? b=some u):Un fs ex H H h h' :=
 ⟨fun b ob q _ _ _=>k b ob q,fun b ob q _ _ _=>⟨ob.slots,k b ob q⟩,fun _ _ _ n _=>n,fun b ob q _=>⟨ob,k b ob q⟩,fun _ _ q=>q,fun _ _ _ q=>q,fun _ ps q=>⟨#[],by rw[q];simp⟩⟩
theorem Un.refl:Un fs ex H H h h:=Un.kept fun _ _ q=>q
theorem Un.laid(k:∀b u,h.get? b=some u->h'.get? b=some u)(hp:h.objs.size<=a)(hn:H a=none):Un fs ex H (aG H a o) h h' where
 keep:=fun b u q _ _ _=>k b u q
 slot:=fun b u q _ _ _=>⟨u.slots,k b u q⟩
 free:=fun b u q n _=>by rw[ax (Nat.ne_of_lt (Nat.lt_of_lt_of_le (Heap.lt_size q) hp))];exact n
 there:=fun b u q _=>⟨u,k b u q⟩
 tups:=fun b xs q=>by rw[ax (aV q hn)];exact q
 frzs:=fun b u xs q=>by rw[ax (aV q hn)];exact q
 tbls:=fun b ps q=>⟨#[],by rw[ax (aV q hn),q];simp⟩
theorem Un.write(mu:Eb (H x))(he:e=x\/H e=some (.own x))(k:∀b u,b≠e->h.get? b=some u->h'.get? b=some u)(heo:∃u,h'.get? e=some u):Un fs ex H (aG H x o) h h':=by
 have hx:∀b,H b=none->b≠x:=fun b n z=>by subst z;rw[n]at mu;exact mu
 have hb:∀b,H b=none->b≠e:=fun b n z=>by
  subst z
  rcases he with r|r
  ·exact hx b n r
  ·rw[n]at r;cases r
 have hm:∀b u,H b=some u -> ¬ Eb (some u)->b≠x:=fun b u q nm z=>by subst z;rw[q]at mu;exact nm mu
 refine⟨fun b u q n _ _=>k b u (hb b n) q,fun b u q n _ _=>⟨u.slots,k b u (hb b n) q⟩,fun b u q n _=>by rw[ax (hx b n)];exact n,fun b u q _=>?_,
  fun b xs q=>by rw[ax (hm b _ q fun z=>z)];exact q,fun b u xs q=>by rw[ax (hm b _ q fun z=>z)];exact q,fun b ps q=>⟨#[],by rw[ax (hm b _ q fun z=>z),q];simp⟩⟩
 by_cases hbe:b=e
 ·subst hbe;exact heo
 ·exact⟨u,k b u hbe q⟩
end
def Dh(h:Heap)(H:Hp):List Addr:=(List.range h.objs.size).filter fun a=>(H a).isSome
def ke(h:Heap)(H:Hp):Heap:=W.hideAll h (Dh h H)
theorem Aj(h:Heap)(H:Hp):(ke h H).objs.size=h.objs.size:=W.hideAll_size _ _
theorem Cf{H:Hp}(e:h.get? b=some o)(n:H b=none):(ke h H).get? b=some o :=
 W.hideAll_get _ e fun hm=>by
  have q:(H b).isSome=true:=(List.mem_filter.mp hm).2
  rw[n]at q;simp at q
theorem Fk{H:Hp}(e:(ke h H).get? b=some o):h.get? b=some o/\H b=none:=by
 have e':h.get? b=some o:=W.of_hideAll (Dh h H) e
 refine⟨e',?_⟩
 cases q:H b with
 | none=>rfl
 | some x =>
  have hm:b∈Dh h H:=List.mem_filter.mpr ⟨List.mem_range.mpr (Heap.lt_size e'),by simp[q]⟩
  have z:(ke h H).get? b=none:=W.hideAll_none (Dh h H) hm
  rw[z]at e;cases e
def GE(g h:Heap)(L:Addr):List (Addr×Obj):=(List.range h.objs.size).filterMap fun a=>if a=L\/(g.get? a).isSome=true then none else(h.get? a).map fun o=>(a,o)
def rest(g h:Heap)(L d:Addr):List (Addr×Obj):=(GE g h L).filter fun p=>decide (p.1≠d)
variable{v y:V}{H:Hp}{R:V->V->Hp->Prop}{vs:List V}
structure Mod(K:W.Frag)(mg:Str->Option Value)(base:Heap):Prop where
 kin:K.In base
 glob:base.Ns mainGlobals mg
 blt:∃mb,base.Ns builtinsNs mb/\∀x:Str,x ≠ "__name__" -> mb x=bootBuiltins x
 nolimit:base.NoLimit
structure Cx where
 prog:Program
 w:World
 K:W.Frag
 mg:Str->Option Value
 base:Heap
 A:Around
 N:List Str
 s₀:Shared
 H₀:Hp
 env:Env
 outer:List Env
 stack:List Env
 ex:List Addr
 fn:Str->Bool
 calm:Bool
 pn:List (Addr×Obj)
 xe:Value->Shared->Prop
def cx(l:List Env):List Addr:=l.filterMap (·.frame)
abbrev Cx.fs(X:Cx):List Addr:=cx X.outer
def iS(sc:Scope)(x:Str):Prop:=sc.names.lookup x=some .local\/sc.names.lookup x=some .cell\/sc.names.lookup x=some .free
def vp(sc:Scope)(x:Str):Prop:=sc.names.lookup x=some .local\/sc.names.lookup x=some .cell
def Sz(env:Env)(h:Heap)(m:Str->Option Value)(x:Str)(u:Value):Prop :=
 (env.kindOf x=some .local/\m x=some u)\/((env.kindOf x=some .cell\/env.kindOf x=some .free)/\∃c,env.cells.lookup x=some c/\h.IsCell c (some u))
structure Cx.Ok(X:Cx):Prop where
 mod:Mod X.K X.mg X.base
 kind:X.env.scope.kind=.function
 glob:X.env.globals=mainGlobals
 blt:X.env.builtins=builtinsNs
 above:X.s₀.heap.objs.size<=X.env.locals
 inj:∀x y c,X.env.cells.lookup x=some c->X.env.cells.lookup y=some c->x=y
 has:∀x,(X.env.kindOf x=some .cell\/X.env.kindOf x=some .free)->∃c,X.env.cells.lookup x=some c
 cab:∀x c,X.fn x=true->X.env.cells.lookup x=some c->X.s₀.heap.objs.size<=c
 hd:X.calm=true->X.A.handled=none
 frames:X.A.frames=some X.stack
 stk:X.stack=X.outer\/(X.stack=X.env::X.outer/\X.env.frame=some X.env.locals)
 exf:∀b∈X.ex,b≠X.env.locals/\∀x c,X.env.cells.lookup x=some c->c≠b
 bs:∀b o,X.base.get? b=some o->X.s₀.heap.get? b=some o/\X.H₀ b=none
 bsz:X.base.objs.size<=X.s₀.heap.objs.size
 noex:∀b o,X.base.get? b=some o->b∉X.ex
 exfs:∀b∈X.ex,b∉X.fs
 funs:X.s₀.heap.FunFrames X.base X.outer
 frf:∀b∈X.fs,X.H₀ b=none
structure aj(X:Cx)(pins:List (Addr×Obj))(σ:List (Option V))(H:Hp)(s:Shared):Prop where
 ok:X.Ok
 os:s.os=X.s₀.os
 bare:AllBare s.gens
 base:Un X.fs X.ex X.H₀ H X.s₀.heap s.heap
 loc:∃m,s.heap.Ns X.env.locals m/\∀(i:Nat) (x:Str) (v:V),X.N[i]?=some x->σ[i]?=some (some v)->iS X.env.scope x->∃u,aU v u/\Sz X.env s.heap m x u
 cell:∀x c,X.env.cells.lookup x=some c->∃v,s.heap.IsCell c v
 free:H X.env.locals=none
 freeC:∀x c,X.env.cells.lookup x=some c->H c=none
 pin:∀p∈X.pn++pins,s.heap.get? p.1=some p.2/\H p.1=none/\p.1≠X.env.locals/\p.1∉X.fs/\∀v,p.2.data ≠ .cell v
 hok:cz X.prog X.w H s.heap
 len:σ.length=X.N.length
section
variable{X:Cx}{σ:List (Option V)}{H':Hp}{h':Heap}
theorem Cx.Ok.nofr(ok:X.Ok)(e:X.base.get? b=some o):b∉X.fs:=fun hb=>by
 have:=(ok.funs.mem hb).1
 rw[e]at this;cases this
theorem aj.bs(I:aj X pins σ H s):∀b o,X.base.get? b=some o->s.heap.get? b=some o/\H b=none:=fun b o e =>
 ⟨I.base.keep b o (I.ok.bs b o e).1 (I.ok.bs b o e).2 (I.ok.nofr e) (I.ok.noex b o e),I.base.free b o (I.ok.bs b o e).1 (I.ok.bs b o e).2 (I.ok.noex b o e)⟩
theorem aj.bk(I:aj X pins σ H s):∀b o,X.base.get? b=some o->s.heap.get? b=some o:=fun b o e=>(I.bs b o e).1
theorem aj.mod(I:aj X pins σ H s):Mod X.K X.mg X.base:=I.ok.mod
theorem aj.kIn(I:aj X pins σ H s):X.K.In s.heap:=I.ok.mod.kin.keeps I.bk
theorem aj.nolimit(I:aj X pins σ H s):s.heap.NoLimit:=I.ok.mod.nolimit.keeps I.bk
theorem aj.lt(I:aj X pins σ H s):X.env.locals<s.heap.objs.size:=let ⟨_,hn,_⟩:=I.loc;hn.lt
theorem aj.sz(I:aj X pins σ H s):X.s₀.heap.objs.size<=s.heap.objs.size:=Nat.le_trans I.ok.above (Nat.le_of_lt I.lt)
theorem aj.nofs(I:aj X pins σ H s)(h:s.heap.objs.size<=a):a∉X.fs:=fun hb=>by
 obtain⟨_,o,ho,_⟩:=I.ok.funs.mem hb
 exact absurd (Nat.lt_of_lt_of_le (Heap.lt_size ho) (Nat.le_trans I.sz h)) (Nat.lt_irrefl _)
theorem aj.cne(I:aj X pins σ H s):∀x c,X.env.cells.lookup x=some c->c≠X.env.locals:=fun x c e z=>by
 obtain⟨v,o,ho,hd⟩:=I.cell x c e
 obtain⟨m,⟨o',es,ep,ho',hd',_⟩,_⟩:=I.loc
 rw[z,ho']at ho;cases ho;rw[hd']at hd;cases hd
theorem aj.funs(I:aj X pins σ H s):s.heap.FunFrames X.base X.outer:=by
 have all:∀(l:List Env),(∀b∈cx l,b∈X.fs)->X.s₀.heap.FunFrames X.base l->s.heap.FunFrames X.base l:=by
  intro l
  induction l with
  | nil=>intro _ _;trivial
  | cons env r ih =>
   intro hs hl
   obtain⟨hk,⟨L,o,hf,hn,ho,hd⟩,hr⟩:=hl
   have hL:L∈X.fs:=hs L (by unfold cx;rw[List.filterMap_cons,hf];exact List.mem_cons_self)
   obtain⟨sl,e⟩:=I.base.slot L o ho (I.ok.frf L hL) hL fun z=>I.ok.exfs L z hL
   exact⟨hk,⟨L,_,hf,hn,e,hd⟩,ih (fun b hb=>hs b (by unfold cx;rw[List.filterMap_cons,hf];exact List.mem_cons_of_mem _ hb)) hr⟩
 exact all X.outer (fun _ hb=>hb) I.ok.funs
theorem aj.stack(I:aj X pins σ H s):s.heap.FunFrames X.base X.stack:=by
 rcases I.ok.stk with e|⟨e,hf⟩
 ·rw[e];exact I.funs
 ·rw[e]
  obtain⟨m,hn,_⟩:=I.loc
  refine .cons (by rw[I.ok.kind];decide) hf hn ?_ I.funs
  exact Heap.get?_none_of_le (Nat.le_trans I.ok.bsz I.ok.above)
theorem aj.stkSub(I:aj X pins σ H s):∀b∈cx X.stack,b∈X.env.locals::X.fs:=fun b hb=>by
 rcases I.ok.stk with e|⟨e,hf⟩
 ·rw[e]at hb;exact List.mem_cons_of_mem _ hb
 ·rw[e]at hb
  unfold cx at hb
  rw[List.filterMap_cons,hf]at hb
  exact hb
theorem aj.stkFree(I:aj X pins σ H s):∀b∈cx X.stack,H b=none:=fun b hb=>by
 rcases List.mem_cons.mp (I.stkSub b hb)with e|hb
 ·rw[e];exact I.free
 ·obtain⟨_,o,ho,_⟩:=I.ok.funs.mem hb
  exact I.base.free b o ho (I.ok.frf b hb) fun z=>I.ok.exfs b z hb
theorem aj.step{t':Nat}{d':Drawn}{ch:List Addr}(I:aj X pins σ H s)
  (hch:∀b∈ch,(b∈X.ex\/X.s₀.heap.objs.size<=b)/\b≠X.env.locals/\(∀x c,X.env.cells.lookup x=some c->c≠b)/\∀p∈X.pn++pins,p.1≠b)
  (keep:∀b o,b≠X.env.locals->b∉X.fs->b∉ch->s.heap.get? b=some o->H b=none->h'.get? b=some o)
  (slot:∀b o,b≠X.env.locals->b∈X.fs->b∉ch->s.heap.get? b=some o->H b=none->∃sl,h'.get? b=some { o with slots:=sl }) (free:∀b o,b∉ch->s.heap.get? b=some o->H b=none->H' b=none)
  (there:∀b o,b∉ch->s.heap.get? b=some o->∃o',h'.get? b=some o')
  (tups:∀b xs,H b=some (.tup xs)->H' b=some (.tup xs)) (frzs:∀b o u,H b=some (.frz o u)->H' b=some (.frz o u)) (tbls:∀b ps,H b=some (.tbl ps)->∃more,H' b=some (.tbl (ps++more)))
  (ns:∀m,s.heap.Ns X.env.locals m->h'.Ns X.env.locals m) (hok:cz X.prog X.w H' h') (hg:AllBare g') :
  aj X pins σ H' { s with heap:=h',gens:=g',drawn:=d',toks:=t' }:=by
 have neL:∀b o,X.s₀.heap.get? b=some o->b≠X.env.locals:=fun b o e=>Nat.ne_of_lt (Nat.lt_of_lt_of_le (Heap.lt_size e) I.ok.above)
 have neC:∀b o,X.s₀.heap.get? b=some o->b∉X.ex->b∉ch:=fun b o e hx hb=>by
  rcases(hch b hb).1 with z|z
  ·exact hx z
  ·exact absurd (Nat.lt_of_lt_of_le (Heap.lt_size e) z) (Nat.lt_irrefl _)
 have cellK:∀x c,X.env.cells.lookup x=some c->∀v,s.heap.IsCell c v->h'.IsCell c v:=fun x c e v ⟨o,ho,hd⟩=>by
  have nch:c∉ch:=fun z=>(hch c z).2.2.1 x c e rfl
  by_cases hc:c∈X.fs
  ·obtain⟨sl,q⟩:=slot c o (I.cne x c e) hc nch ho (I.freeC x c e)
   exact⟨_,q,hd⟩
  ·exact⟨o,keep c o (I.cne x c e) hc nch ho (I.freeC x c e),hd⟩
 refine⟨I.ok,I.os,hg,⟨fun b o e n hb hx=>?_,fun b o e n hb hx=>?_,fun b o e n hx=>?_,fun b o e hx=>?_,fun b xs e=>tups b xs (I.base.tups b xs e),fun b o xs e=>frzs b o xs (I.base.frzs b o xs e),fun b ps e=>?_⟩,?_,fun x c e=>?_,?_,fun x c e=>?_,fun p hp=>?_,hok,I.len⟩
 ·exact keep b o (neL b o e) hb (neC b o e hx) (I.base.keep b o e n hb hx) (I.base.free b o e n hx)
 ·obtain⟨sl,e1⟩:=I.base.slot b o e n hb hx
  obtain⟨sl',e2⟩:=slot b _ (neL b o e) hb (neC b o e hx) e1 (I.base.free b o e n hx)
  exact⟨sl',e2⟩
 ·obtain⟨o',e1⟩:=I.base.there b o e hx
  exact free b o' (neC b o e hx) e1 (I.base.free b o e n hx)
 ·obtain⟨o',e1⟩:=I.base.there b o e hx
  exact there b o' (neC b o e hx) e1
 ·obtain⟨m1,e1⟩:=I.base.tbls b ps e
  obtain⟨m2,e2⟩:=tbls b _ e1
  exact⟨m1++m2,by rw[e2,Array.append_assoc]⟩
 ·obtain⟨m,hn,hl⟩:=I.loc
  refine⟨m,ns m hn,fun i x v e1 e2 e3=>?_⟩
  obtain⟨u,r,l⟩:=hl i x v e1 e2 e3
  refine⟨u,r,?_⟩
  rcases l with l|⟨k,c,e,z⟩
  ·exact .inl l
  ·exact .inr ⟨k,c,e,cellK x c e _ z⟩
 ·obtain⟨v,z⟩:=I.cell x c e
  exact⟨v,cellK x c e v z⟩
 ·obtain⟨m,⟨o,_,_,ho,_⟩,_⟩:=I.loc
  exact free _ o (fun z=>(hch _ z).2.1 rfl) ho I.free
 ·obtain⟨v,o,ho,hd⟩:=I.cell x c e
  exact free c o (fun z=>(hch c z).2.2.1 x c e rfl) ho (I.freeC x c e)
 ·obtain⟨e,n,ne,nf,d⟩:=I.pin p hp
  have nch:p.1∉ch:=fun z=>(hch p.1 z).2.2.2 p hp rfl
  exact⟨keep p.1 p.2 ne nf nch e n,free p.1 p.2 nch e n,ne,nf,d⟩
theorem aj.un{t':Nat}(I:aj X pins σ H s)(u:Un X.fs [] H H' s.heap h')(hok:cz X.prog X.w H' h'):aj X pins σ H' { s with heap:=h',toks:=t' }:=by
 obtain⟨m,⟨o,es,ep,ho,r⟩,_⟩:=id I.loc
 obtain⟨sl,hL⟩:=u.any ho I.free (by simp)
 exact I.step (g':=s.gens) (d':=s.drawn) (ch:=[]) (fun _ z=>nomatch z) (fun b o _ hb _ e n=>u.keep b o e n hb (by simp)) (fun b o _ hb _ e n=>u.slot b o e n hb (by simp)) (fun b o _ e n=>u.free b o e n (by simp)) (fun b o _ e=>u.there b o e (by simp)) u.tups u.frzs u.tbls (fun m' hm=>by
  obtain⟨o',es',ep',ho',r'⟩:=hm
  rw[ho]at ho';cases ho'
  exact⟨_,es',ep',hL,r'⟩) hok I.bare
theorem aj.call{t':Nat}{d':Drawn}{ch:List Addr}(I:aj X pins σ H s)(u:Un (cx X.stack) ch H H' s.heap h')(hok:cz X.prog X.w H' h')(hg:AllBare g')
  (hch:∀b∈ch,(b∈X.ex\/X.s₀.heap.objs.size<=b)/\b≠X.env.locals/\(∀x c,X.env.cells.lookup x=some c->c≠b)/\∀p∈X.pn++pins,p.1≠b) :
  aj X pins σ H' { s with heap:=h',gens:=g',drawn:=d',toks:=t' }:=by
 obtain⟨m,⟨o,es,ep,ho,r⟩,_⟩:=id I.loc
 obtain⟨sl,hL⟩:=u.any ho I.free fun z=>(hch _ z).2.1 rfl
 exact I.step (ch:=ch) hch (fun b o hL hb hc e n=>u.keep b o e n (fun z=>(List.mem_cons.mp (I.stkSub b z)).elim hL hb) hc) (fun b o _ _ hc e n=>u.any e n hc) (fun b o hc e n=>u.free b o e n hc) (fun b o hc e=>u.there b o e hc) u.tups u.frzs u.tbls (fun m' hm=>by
  obtain⟨o',es',ep',ho',r'⟩:=hm
  rw[ho]at ho';cases ho'
  exact⟨_,es',ep',hL,r'⟩) hok hg
theorem aj.turned{t':Nat}(I:aj X pins σ H s)(k:∀b o,b≠it->s.heap.get? b=some o->h'.get? b=some o)(hn:H it=none)(hL:it≠X.env.locals)
  (h1:it∈X.ex\/X.s₀.heap.objs.size<=it) (h2:∀x c,X.env.cells.lookup x=some c->c≠it) (h3:∀p∈X.pn++pins,p.1≠it):aj X pins σ H { s with heap:=h',toks:=t' }:=by
 have nit:∀b u,H b=some u->b≠it:=fun b u e z=>by rw[z,hn]at e;cases e
 refine I.step (g':=s.gens) (d':=s.drawn) (ch:=[it]) (fun b hb=>?_) (fun b o _ _ hc e _=>k b o (fun z=>hc (by simp[z])) e) (fun b o _ _ hc e _=>⟨o.slots,k b o (fun z=>hc (by simp[z])) e⟩) (fun _ _ _ _ n=>n)
  (fun b o hc e=>⟨o,k b o (fun z=>hc (by simp[z])) e⟩) (fun _ _ e=>e) (fun _ _ _ e=>e) (fun b ps e=>⟨#[],by rw[e];simp⟩) (fun m hm=>?_) (fun b u e=>?_) I.bare
 ·have e:b=it:=by simpa using hb
  subst e
  exact⟨h1,hL,h2,h3⟩
 ·obtain⟨o,es,ep,ho,r⟩:=hm
  exact⟨o,es,ep,k _ o (Ne.symm hL) ho,r⟩
 ·refine(I.hok b u e).stay (fun c v hc q=>k c v ?_ q) (fun _ q=>q) fun _ _ q=>q
  rcases hc with z|z
  ·rw[z];exact nit b u e
  ·exact nit c _ z
theorem aj.tok(I:aj X pins σ H s)(t:Nat):aj X pins σ H { s with toks:=t }:=I.un (h':=s.heap) (t':=t) Un.refl I.hok
theorem aj.kept{t':Nat}(I:aj X pins σ H s)(k:∀b u,s.heap.get? b=some u->h'.get? b=some u):aj X pins σ H { s with heap:=h',toks:=t' }:=I.un (Un.kept k) (I.hok.kept k)
theorem aj.laid{o:HO}{t':Nat}(I:aj X pins σ H s)(k:∀b u,s.heap.get? b=some u->h'.get? b=some u)(hp:s.heap.objs.size<=a)(new:bw X.prog X.w (aG H a o) h' a o) :
  aj X pins σ (aG H a o) { s with heap:=h',toks:=t' }:=I.un (Un.laid k hp (I.hok.fresh hp)) (I.hok.laid k hp new)
theorem aj.write{x e:Addr}{o:HO}{t':Nat}(I:aj X pins σ H s)(mu:Eb (H x))(he:e=x\/H e=some (.own x))(k:∀b u,b≠e->s.heap.get? b=some u->h'.get? b=some u)(heo:∃u,h'.get? e=some u)
  (new:bw X.prog X.w (aG H x o) h' x o):aj X pins σ (aG H x o) { s with heap:=h',toks:=t' }:=I.un (Un.write mu he k heo) (I.hok.write mu he k heo new)
theorem aj.pins_of{pins':List (Addr×Obj)}(I:aj X pins σ H s)(h:∀p∈pins',s.heap.get? p.1=some p.2/\H p.1=none/\p.1≠X.env.locals/\p.1∉X.fs/\∀v,p.2.data ≠ .cell v):aj X pins' σ H s :=
 ⟨I.ok,I.os,I.bare,I.base,I.loc,I.cell,I.free,I.freeC,fun p hp=>(List.mem_append.mp hp).elim (fun z=>I.pin p (List.mem_append_left _ z)) (h p),I.hok,I.len⟩
theorem iF(hN:N.Nodup)(a:N[i]?=some x)(b:N[j]?=some x):i=j:=by
 obtain⟨h1,e1⟩:=List.getElem?_eq_some_iff.mp a
 obtain⟨h2,e2⟩:=List.getElem?_eq_some_iff.mp b
 exact(List.getElem_inj hN).mp (e1.trans e2.symm)
theorem zf{Q:Unit->Shared->Prop}(I:aj X pins σ H s)(hN:X.N.Nodup)(hi:X.N[i]?=some x)(hx:vp X.env.scope x)(r:aU v u)
  (h:∀s',aj X pins (σ.set i (some v)) H s'->(∃a,Heap.SameBut a s.heap s'.heap/\(a=X.env.locals\/X.env.cells.lookup x=some a))->Q () s') (hf:X.fn x=true\/X.env.scope.names.lookup x=some .local:=by first|exact .inl rfl|exact .inr rfl|assumption):wpAny M A (storeName X.env x u) Q E s:=by
 obtain⟨m,hn,hl⟩:=id I.loc
 have hcls:(X.env.scope.kind == .class || (X.env.scope.kind == .module&&X.env.locals != X.env.globals))=false:=by rw[I.ok.kind];rfl
 have hiσ:i<σ.length:=by rw[I.len];exact(List.getElem?_eq_some_iff.mp hi).1
 have cne:=I.cne
 have tracked:∀{a:Addr} {h':Heap},(∃o,s.heap.get? a=some o/\H a=none)->Heap.SameBut a s.heap h'->cz X.prog X.w H h':=fun {a h'} ha hs b ob e=>by
  obtain⟨_,_,hfree⟩:=ha
  refine(I.hok b ob e).stay (fun c w' hc q=>(hs.2 c ?_).trans q) (fun _ q=>q) fun _ _ q=>q
  rintro rfl
  rcases hc with rfl|hc
  ·rw[hfree]at e;cases e
  ·rw[hfree]at hc;cases hc
 rcases hx with hk|hk
 ·refine wpAny_storeName_local hk hn (fun h' hn' hs=>?_) hcls
  obtain⟨oL,_,_,hoL,_⟩:=id hn
  refine h _ ⟨I.ok,I.os,I.bare,⟨fun b o e n hb hx=>?_,fun b o e n hb hx=>?_,I.base.free,fun b o e hx=>?_,I.base.tups,I.base.frzs,I.base.tbls⟩,⟨_,hn',fun j y v' e1 e2 e3=>?_⟩,fun y c e=>?_,I.free,I.freeC,fun p hp=>?_,tracked ⟨oL,hoL,I.free⟩ hs,by simpa using I.len⟩ ⟨_,hs,.inl rfl⟩
  ·exact(hs.2 b (Nat.ne_of_lt (Nat.lt_of_lt_of_le (Heap.lt_size e) I.ok.above))).trans (I.base.keep b o e n hb hx)
  ·obtain⟨sl,e1⟩:=I.base.slot b o e n hb hx
   exact⟨sl,(hs.2 b (Nat.ne_of_lt (Nat.lt_of_lt_of_le (Heap.lt_size e) I.ok.above))).trans e1⟩
  ·obtain⟨o',e1⟩:=I.base.there b o e hx
   exact⟨o',(hs.2 b (Nat.ne_of_lt (Nat.lt_of_lt_of_le (Heap.lt_size e) I.ok.above))).trans e1⟩
  ·by_cases hj:j=i
   ·subst hj
    rw[hi]at e1;cases e1
    rw[List.getElem?_set_self hiσ]at e2
    cases e2
    exact⟨u,r,.inl ⟨hk,by simp⟩⟩
   ·rw[List.getElem?_set_ne (Ne.symm hj)]at e2
    obtain⟨u',r',q⟩:=hl j y v' e1 e2 e3
    refine⟨u',r',?_⟩
    rcases q with⟨k,e⟩|⟨k,c,e,z⟩
    ·refine .inl ⟨k,?_⟩
     have:y≠x:=fun e=>hj (iF hN e1 (e ▸ hi))
     simp[this,e]
    ·exact .inr ⟨k,c,e,z.sameBut hs (cne y c e)⟩
  ·obtain⟨w',z⟩:=I.cell y c e
   exact⟨w',z.sameBut hs (cne y c e)⟩
  ·obtain⟨e,n,ne,nf,d⟩:=I.pin p hp
   exact⟨(hs.2 p.1 ne).trans e,n,ne,nf,d⟩
 ·have hfn:X.fn x=true:=by
   rcases hf with z|z
   ·exact z
   ·rw[z]at hk;cases hk
  obtain⟨c,hc⟩:=I.ok.has x (.inl hk)
  obtain⟨w',z⟩:=I.cell x c hc
  refine wpAny_storeName_cell I.ok.kind hk hc z (fun h' hc' hs=>?_)
  obtain⟨oc,hoc,hocd⟩:=id z
  refine h { s with heap:=h' } ⟨I.ok,I.os,I.bare,⟨fun b o e n hb hx=>?_,fun b o e n hb hx=>?_,I.base.free,fun b o e hx=>?_,I.base.tups,I.base.frzs,I.base.tbls⟩,⟨m,hn.sameBut hs (Ne.symm (cne x c hc)),fun j y v' e1 e2 e3=>?_⟩,fun y c' e=>?_,I.free,I.freeC,fun p hp=>?_,tracked ⟨oc,hoc,I.freeC x c hc⟩ hs,by simpa using I.len⟩ ⟨c,hs,.inr hc⟩
  ·exact(hs.2 b (Nat.ne_of_lt (Nat.lt_of_lt_of_le (Heap.lt_size e) (I.ok.cab x c hfn hc)))).trans (I.base.keep b o e n hb hx)
  ·obtain⟨sl,e1⟩:=I.base.slot b o e n hb hx
   exact⟨sl,(hs.2 b (Nat.ne_of_lt (Nat.lt_of_lt_of_le (Heap.lt_size e) (I.ok.cab x c hfn hc)))).trans e1⟩
  ·obtain⟨o',e1⟩:=I.base.there b o e hx
   exact⟨o',(hs.2 b (Nat.ne_of_lt (Nat.lt_of_lt_of_le (Heap.lt_size e) (I.ok.cab x c hfn hc)))).trans e1⟩
  ·by_cases hj:j=i
   ·subst hj
    rw[hi]at e1;cases e1
    rw[List.getElem?_set_self hiσ]at e2
    cases e2
    exact⟨u,r,.inr ⟨.inl hk,c,hc,hc'⟩⟩
   ·rw[List.getElem?_set_ne (Ne.symm hj)]at e2
    obtain⟨u',r',q⟩:=hl j y v' e1 e2 e3
    refine⟨u',r',?_⟩
    rcases q with q|⟨k,c',e,z'⟩
    ·exact .inl q
    ·refine .inr ⟨k,c',e,z'.sameBut hs ?_⟩
     rintro rfl
     exact hj (iF hN e1 (I.ok.inj _ _ _ e hc ▸ hi))
  ·by_cases hcc:c'=c
   ·subst hcc;exact⟨_,hc'⟩
   ·obtain⟨w2,z2⟩:=I.cell y c' e
    exact⟨w2,z2.sameBut hs hcc⟩
  ·obtain⟨e,n,ne,nf,d⟩:=I.pin p hp
   refine⟨(hs.2 p.1 ?_).trans e,n,ne,nf,d⟩
   intro q
   rw[q,hoc]at e
   have q':oc=p.2:=Option.some.inj e
   exact d w' (by rw[<- q'];exact hocd)
theorem fZ{Q:Unit->Shared->Prop}(I:aj X pins σ H s)(hN:X.N.Nodup)(hi:X.N[i]?=some x)(hx:vp X.env.scope x)(r:aU v u)
  (h:∀s',aj X pins (σ.set i (some v)) H s'->Q () s') (hf:X.fn x=true\/X.env.scope.names.lookup x=some .local:=by first|exact .inl rfl|exact .inr rfl|assumption):wpAny M A (storeName X.env x u) Q E s :=
 zf I hN hi hx r (fun s' I' _=>h s' I') hf
theorem aj.call'{ch:List Addr}(I:aj X pins σ H s)(ho:s'.os=s.os)(u:Un (cx X.stack) ch H H' s.heap s'.heap)(hok:cz X.prog X.w H' s'.heap)(hg:AllBare s'.gens)
  (hch:∀b∈ch,(b∈X.ex\/X.s₀.heap.objs.size<=b)/\b≠X.env.locals/\(∀x c,X.env.cells.lookup x=some c->c≠b)/\∀p∈X.pn++pins,p.1≠b):aj X pins σ H' s':=by
 obtain⟨h',g',d',t',o'⟩:=s'
 have e:o'=s.os:=ho
 subst e
 exact I.call (g':=g') (t':=t') (d':=d') u hok hg hch
end
abbrev XK:=Value->Option Addr->Hp->Prop
abbrev St:=List (Option V)
abbrev VK:=V->Hp->Prop
abbrev TE:=St->Hp->VK->Prop
abbrev TT:=St->Hp->(Bool->Hp->Prop)->Prop
abbrev TA:=St->Hp->(List V->Hp->Prop)->Prop
structure kG where
 nx:St->Hp->Prop
 rt:VK
 bk:St->Hp->Prop:=fun _ _=>False
 ct:St->Hp->Prop:=fun _ _=>False
abbrev TS:=kG->St->Hp->Prop
def EP(X:Cx)(pins:List (Addr×Obj))(σ:St)(Q:VK)(u:Value)(s':Shared):Prop:=∃v H',aj X pins σ H' s'/\aU v u/\Q v H'
def TP(X:Cx)(pins:List (Addr×Obj))(σ:St)(Q:Bool->Hp->Prop)(b:Bool)(s':Shared):Prop:=∃H',aj X pins σ H' s'/\Q b H'
def AP(X:Cx)(pins:List (Addr×Obj))(σ:St)(Q:List V->Hp->Prop)(us:List Value)(s':Shared):Prop:=∃vs H',aj X pins σ H' s'/\aK vs us/\Q vs H'
def SP(X:Cx)(pins:List (Addr×Obj))(D:kG)(f:Flow)(s':Shared):Prop :=
 match f with
 | .next => ∃σ' H',aj X pins σ' H' s'/\D.nx σ' H'
 | .brk => ∃σ' H',aj X pins σ' H' s'/\D.bk σ' H'
 | .cont => ∃σ' H',aj X pins σ' H' s'/\D.ct σ' H'
 | .ret u => ∃v σ' H',aj X pins σ' H' s'/\aU v u/\D.rt v H'
def PE(X:Cx)(e:Expr)(t:TE):Prop :=
 ∀(pins:List (Addr×Obj)) (s:Shared) (σ:St) (H:Hp) (Q:VK),aj X pins σ H s->t σ H Q->wpAny (model X.prog X.w) X.A (eval e X.env) (EP X pins σ Q) X.xe s
def PT(X:Cx)(e:Expr)(t:TT):Prop :=
 ∀(pins:List (Addr×Obj)) (s:Shared) (σ:St) (H:Hp) (Q:Bool->Hp->Prop),aj X pins σ H s->t σ H Q->wpAny (model X.prog X.w) X.A (isTrue e X.env (eval e X.env)) (TP X pins σ Q) X.xe s
def PW(X:Cx)(e:Expr)(t:TT):Prop :=
 ∀(whole:Sem Value) (pins:List (Addr×Obj)) (s:Shared) (σ:St) (H:Hp) (Q:Bool->Hp->Prop),aj X pins σ H s->t σ H Q->wpAny (model X.prog X.w) X.A (isTrue e X.env whole) (TP X pins σ Q) X.xe s
theorem PW.pt{X:Cx}{t:TT}(h:PW X e t):PT X e t:=h _
def PA(X:Cx)(es:List Expr)(t:TA):Prop :=
 ∀(pos:Pos) (pins:List (Addr×Obj)) (s:Shared) (σ:St) (H:Hp) (Q:List V->Hp->Prop),aj X pins σ H s->t σ H Q->wpAny (model X.prog X.w) X.A (spliced (backTo pos (starEach es X.env))) (AP X pins σ Q) X.xe s
def PS(X:Cx)(st:Stmt)(t:TS):Prop :=
 ∀(pins:List (Addr×Obj)) (s:Shared) (σ:St) (H:Hp) (D:kG),aj X pins σ H s->t D σ H->wpAny (model X.prog X.w) X.A (exec st X.env) (SP X pins D) X.xe s
def eQ(X:Cx)(st:List Stmt)(t:TS):Prop :=
 ∀(pins:List (Addr×Obj)) (s:Shared) (σ:St) (H:Hp) (D:kG),aj X pins σ H s->t D σ H->wpAny (model X.prog X.w) X.A (execs st X.env) (SP X pins D) X.xe s
theorem aN{t:Sem α}{Q Q':α->Shared->Prop}{s:Shared}(h:wpAny M A t Q E s)(hQ:∀a s,Q a s->Q' a s):wpAny M A t Q' E s:=wpAny_mono h hQ fun _ _ x=>x
variable{σ:St}{t te tl:TE}{X:Cx}{tc:TT}{ta:TA}{tb:TS}
section
theorem MB{a b:Expr}{ta tb:TE}(ha:PE X a ta)(hb:PE X b tb)(I:aj X pins σ H s)(h:ta σ H fun x H1=>tb σ H1 fun y H2=>R x y H2)
  {Q:α->Shared->Prop} {f:Value->Value->Sem α}
  (hf:∀v u s2 x y H2,aj X pins σ H2 s2->aU x v->aU y u->R x y H2->wpAny (model X.prog X.w) X.A (f v u) Q X.xe s2) :
  wpAny (model X.prog X.w) X.A (eval a X.env) (fun v s₁=>wpAny (model X.prog X.w) X.A (eval b X.env) (fun u s₂=>wpAny (model X.prog X.w) X.A (f v u) Q X.xe s₂) X.xe s₁) X.xe s:=by
 refine aN (ha pins s σ H _ I h) fun v s1 ⟨x,H1,I1,r1,q1⟩=>?_
 refine aN (hb pins s1 σ H1 _ I1 q1) fun u s2 ⟨y,H2,I2,r2,q2⟩=>?_
 exact hf v u s2 x y H2 I2 r1 r2 q2
def lr(i:Nat):TE:=fun σ H Q => ∃v,σ[i]?=some (some v)/\Q v H
def tC(v:V):TE:=fun _ H Q=>Q v H
theorem gH(hN:X.N[i]?=some x)(hv:iS X.env.scope x)(hd:(x==("__debug__" : Str))=false:=by decide)(hcd:(x==("__classdict__" : Str))=false:=by decide):PE X (.Name x pos) (lr i):=by
 intro pins s σ H Q I h
 obtain⟨v,e,h⟩:=h
 obtain⟨m,hn,hl⟩:=I.loc
 obtain⟨u,r,l⟩:=hl i x v hN e hv
 have fin:EP X pins σ Q u s:=⟨v,H,I,r,h⟩
 rcases l with⟨hk,hm⟩|⟨hk,c,hc,hcell⟩
 ·exact wpAny_Name (wpAny_loadName_local I.ok.kind hk hn hm fin) hd
 ·rcases hk with hk|hk
  ·exact wpAny_Name (wpAny_loadName_cell I.ok.kind hk hc hcell fin) hd
  ·exact wpAny_Name (wpAny_loadName_free I.ok.kind hk hc hcell fin hcd) hd
theorem HR{i j pos}:PE X (.Constant (.int i) j pos) (tC (.int i)):=fun _ _ _ H _ I h=>wpAny_Constant_int ⟨.int i,H,I.tok _,⟨_,rfl⟩,h⟩
theorem LF{b j pos}:PE X (.Constant (.bool b) j pos) (tC (.bl b)):=fun _ _ _ H _ I h=>Constant_bool ⟨.bl b,H,I,rfl,h⟩
theorem HP{j pos}:PE X (.Constant .none j pos) (tC .non):=fun _ _ _ H _ I h=>Constant_none ⟨.non,H,I,rfl,h⟩
theorem HL{x j pos}:PE X (.Constant (.str x) j pos) (tC (.str x)):=fun _ _ _ H _ I h=>Calls.Constant_str ⟨.str x,H,I.tok _,⟨_,rfl⟩,h⟩
def Gl(X:Cx)(x:Str):Prop:=X.env.kindOf x=some .globalImplicit
theorem dG(I:aj X pins σ H s)(hg:Gl X x)(hm:X.mg x=some u)(h:Q u s)
  (hd:(x==("__debug__" : Str))=false:=by decide):wpAny (model X.prog X.w) X.A (eval (.Name x pos) X.env) Q E s :=
 Calls.Name_function_global I.ok.kind hg (Calls.loadGlobal_global (by rw[I.ok.glob];exact I.mod.glob.keeps I.bk) hm h) hd
theorem dA(I:aj X pins σ H s)(hg:Gl X x)(hm:X.mg x=none)(hv:bootBuiltins x=some u)(h:Q u s)
  (hn:x ≠ "__name__" := by decide) (hd:(x==("__debug__" : Str))=false:=by decide):wpAny (model X.prog X.w) X.A (eval (.Name x pos) X.env) Q E s:=by
 obtain⟨mb,h1,h2⟩:=I.mod.blt
 exact Calls.Name_function_global I.ok.kind hg (Calls.loadGlobal_builtin (by rw[I.ok.glob];exact I.mod.glob.keeps I.bk) hm (by rw[I.ok.blt];exact h1.keeps I.bk) ((h2 x hn).trans hv) h) hd
theorem Fb(hg:Gl X x)(hm:X.mg x=some u)(r:aU v u)(hd:(x==("__debug__" : Str))=false:=by decide):PE X (.Name x pos) (tC v) :=
 fun _ _ _ H _ I h=>dG I hg hm ⟨v,H,I,r,h⟩ hd
theorem Fd(hg:Gl X x)(hm:X.mg x=none)(hv:bootBuiltins x=some u)(r:aU v u)(hn:x ≠ "__name__" := by decide)(hd:(x==("__debug__" : Str))=false:=by decide):PE X (.Name x pos) (tC v) :=
 fun _ _ _ H _ I h=>dA I hg hm hv ⟨v,H,I,r,h⟩ hn hd
variable{a b:Expr}{ta tb:TE}
def tB(t:TE):TT:=fun σ H Q=>t σ H fun x H1 => ∃c,x=.bl c/\Q c H1
theorem HA(h:PE X e t)(he:∀whole,isTrue e X.env whole=(do let v <- whole;standAt e.pos;holding [v] (truthy v)):=by intro _;rfl):PT X e (tB t):=by
 intro pins s σ H Q I hw
 refine isTrue_plain (aN (h pins s σ H _ I hw) fun v s1 ⟨x,H1,I1,r1,q1⟩=>?_) (he _)
 obtain⟨d,rfl,q⟩:=q1
 cases r1
 exact wpAny_truthy_bool ⟨H1,I1,q⟩
variable{tA tB':TT}{rest:List Expr}
def MZ(t u:TT):TT:=fun σ H Q=>t σ H fun c H1=>if c=true then u σ H1 Q else Q false H1
def SN(t u:TT):TT:=fun σ H Q=>t σ H fun c H1=>if c=true then Q true H1 else u σ H1 Q
def MS(t:TT):TT:=fun σ H Q=>t σ H fun c H1=>Q (!c) H1
theorem EO(ha:PT X a tA):PW X (.BoolOp .And [a] pos) tA:=by
 intro wh pins s σ H Q I h
 refine isTrue_and (aN (ha pins s σ H Q I h) fun c s1 e=>?_)
 cases c with
 | true=>exact isTrue_and_nil e
 | false=>exact e
theorem Hz(ha:PT X a tA):PW X (.BoolOp .Or [a] pos) tA:=by
 intro wh pins s σ H Q I h
 refine isTrue_or (aN (ha pins s σ H Q I h) fun c s1 e=>?_)
 cases c with
 | false=>exact isTrue_or_nil e
 | true=>exact e
theorem zn(ha:PT X a tA)(hb:PW X (.BoolOp .And (b::rest) pos) tB'):PW X (.BoolOp .And (a::b::rest) pos) (MZ tA tB'):=by
 intro wh pins s σ H Q I h
 refine isTrue_and (aN (ha pins s σ H _ I h) fun c s1 ⟨H1,I1,q1⟩=>?_)
 cases c with
 | true=>exact hb wh pins s1 σ H1 Q I1 q1
 | false=>exact⟨H1,I1,q1⟩
theorem Du(ha:PT X a tA)(hb:PW X (.BoolOp .Or (b::rest) pos) tB'):PW X (.BoolOp .Or (a::b::rest) pos) (SN tA tB'):=by
 intro wh pins s σ H Q I h
 refine isTrue_or (aN (ha pins s σ H _ I h) fun c s1 ⟨H1,I1,q1⟩=>?_)
 cases c with
 | true=>exact⟨H1,I1,q1⟩
 | false=>exact hb wh pins s1 σ H1 Q I1 q1
theorem HB(ha:PT X a tA):PT X (.UnaryOp .Not a pos) (MS tA):=by
 intro pins s σ H Q I h
 exact isTrue_not (ha pins s σ H (fun c H1=>Q (!c) H1) I h)
def Lj(ta tb:TE):TE:=fun σ H Q=>ta σ H fun x H1 => ∃c,x=.bl c/\if c=true then tb σ H1 Q else Q (.bl false) H1
def MR(ta tb:TE):TE:=fun σ H Q=>ta σ H fun x H1 => ∃c,x=.bl c/\if c=true then Q (.bl true) H1 else tb σ H1 Q
def Lf(ta:TE):TE:=fun σ H Q=>ta σ H fun x H1 => ∃c,x=.bl c/\Q (.bl (!c)) H1
theorem HM{op}(h:PE X a t):PE X (.BoolOp op [a] pos) t:=fun pins s σ H Q I hw=>BoolOp_one (h pins s σ H Q I hw)
theorem zA(ha:PE X a ta)(hb:PE X (.BoolOp .And (b::rest) pos) tb):PE X (.BoolOp .And (a::b::rest) pos) (Lj ta tb):=by
 intro pins s σ H Q I h
 refine BoolOp_and (aN (ha pins s σ H _ I h) fun v s1 ⟨x,H1,I1,r1,q1⟩=>?_)
 obtain⟨c,rfl,q1⟩:=q1
 cases r1
 refine wpAny_truthy_bool ?_
 cases c with
 | true=>exact hb pins s1 σ H1 Q I1 q1
 | false=>exact⟨.bl false,H1,I1,rfl,q1⟩
theorem DA(ha:PE X a ta)(hb:PE X (.BoolOp .Or (b::rest) pos) tb):PE X (.BoolOp .Or (a::b::rest) pos) (MR ta tb):=by
 intro pins s σ H Q I h
 refine BoolOp_or (aN (ha pins s σ H _ I h) fun v s1 ⟨x,H1,I1,r1,q1⟩=>?_)
 obtain⟨c,rfl,q1⟩:=q1
 cases r1
 refine wpAny_truthy_bool ?_
 cases c with
 | false=>exact hb pins s1 σ H1 Q I1 q1
 | true=>exact⟨.bl true,H1,I1,rfl,q1⟩
theorem HN(ha:PE X a ta):PE X (.UnaryOp .Not a pos) (Lf ta):=by
 intro pins s σ H Q I h
 refine UnaryOp_ (aN (ha pins s σ H _ I h) fun v s1 ⟨x,H1,I1,r1,q1⟩=>?_)
 obtain⟨c,rfl,q1⟩:=q1
 cases r1
 exact not_of (wpAny_truthy_bool ⟨.bl (!c),H1,I1,rfl,q1⟩)
end
def cf(K:W.Frag)(H:Hp)(a:Addr)(xs:List V):Prop :=
 Rd H a (.lst xs) \/
  ∃(o:Obj) (its:Array Value) (n:Nat),K.lookup a=some o/\o.cls=.type "list" /\ o.dict=none/\o.data=.seq its n/\its.size<=sizeLine/\aK xs its.toList
def cu(K:W.Frag)(H:Hp)(a:Addr)(xs:List V):Prop :=
 Rd H a (.tup xs) \/
  ∃(o:Obj) (its:Array Value) (n:Nat),K.lookup a=some o/\o.cls=.type "tuple" /\ o.data=.seq its n/\its.size<=sizeLine/\aK xs its.toList
def Sw:Value->Option V
 | .none=>some .non
 | .bool b=>some (.bl b)
 | .int i _=>some (.int i)
 | .str x _=>some (.str x)
 | .bytes b _=>some (.byt b)
 | .float b _=>some (.flt b)
 | .ref a=>some (.ref a)
 | .type n=>some (.ty n)
 | _=>none
theorem aU.abs{x:V}(r:aU x u):Sw u=some x:=by
 cases x with
 | non=>cases r;rfl
 | bl _=>cases r;rfl
 | int _=>obtain⟨t,rfl⟩:=r;rfl
 | str _=>obtain⟨t,rfl⟩:=r;rfl
 | byt _=>obtain⟨t,rfl⟩:=r;rfl
 | flt _=>obtain⟨t,rfl⟩:=r;rfl
 | ref _=>cases r;rfl
 | ty _=>cases r;rfl
theorem aU.inj{x:V}(r:aU x u)(q:aU y u):x=y:=Option.some.inj (r.abs.symm.trans q.abs)
theorem aK.inj:∀{xs ys:List V} {us:List Value},aK xs us->aK ys us->xs=ys
 | _,_,_,.nil,.nil=>rfl
 | _,_,_,.cons r t,.cons r' t'=>by rw[r.inj r',aK.inj t t']
section
variable{xs ys:List V}
theorem cf.of(h:H a=some (.lst xs)):cf K H a xs:=.inl (.inl h)
theorem cu.of(h:H a=some (.tup xs)):cu K H a xs:=.inl (.inl h)
theorem aj.list(I:aj X pins σ H s)(h:cf X.K H a xs):∃its:List Value,aK xs its/\PlainL s.heap a its.toArray/\xs.length<=sizeLine:=by
 rcases h with h|⟨o,its,n,hk,hc,hd,hs,hz,r⟩
 ·obtain⟨z,its,n,r,e⟩:=h.ok I.hok
  exact⟨its,r,⟨_,n,e,rfl,rfl,rfl⟩,z⟩
 ·refine⟨its.toList,r,⟨o,n,I.kIn a o hk,hc,hd,by simpa using hs⟩,?_⟩
  have e:=r.length
  simp only[Array.length_toList]at e
  omega
theorem aj.tuple(I:aj X pins σ H s)(h:cu X.K H a xs):∃its:List Value,aK xs its/\IsTup s.heap a its.toArray/\xs.length<=sizeLine:=by
 rcases h with h|⟨o,its,n,hk,hc,hs,hz,r⟩
 ·obtain⟨z,its,r,p⟩:=h.ok I.hok
  exact⟨its,r,p,z⟩
 ·refine⟨its.toList,r,⟨o,I.kIn a o hk,hc,n,by simpa using hs⟩,?_⟩
  have e:=r.length
  simp only[Array.length_toList]at e
  omega
theorem aj.list_inj(I:aj X pins σ H s)(h:cf X.K H a xs)(h':cf X.K H a ys):xs=ys:=by
 obtain⟨its,r,⟨o,n,e,_,_,d⟩,_⟩:=I.list h
 obtain⟨its',r',⟨o',n',e',_,_,d'⟩,_⟩:=I.list h'
 rw[e]at e';cases e'
 rw[d]at d'
 injection d' with d1 _
 have:its=its':=by simpa using congrArg Array.toList d1
 subst this
 exact r.inj r'
theorem aj.tuple_inj(I:aj X pins σ H s)(h:cu X.K H a xs)(h':cu X.K H a ys):xs=ys:=by
 obtain⟨its,r,⟨o,e,_,n,d⟩,_⟩:=I.tuple h
 obtain⟨its',r',⟨o',e',_,n',d'⟩,_⟩:=I.tuple h'
 rw[e]at e';cases e'
 rw[d]at d'
 injection d' with d1 _
 have:its=its':=by simpa using congrArg Array.toList d1
 subst this
 exact r.inj r'
end
abbrev Cx.wish(X:Cx)(E:Value->Shared->Prop):Cx:={ X with xe:=E }
abbrev Cx.nox(X:Cx):Cx:=X.wish fun _ _=>False
theorem Cx.Ok.wish(ok:X.Ok)(E:Value->Shared->Prop):(X.wish E).Ok :=
 ⟨ok.mod,ok.kind,ok.glob,ok.blt,ok.above,ok.inj,ok.has,ok.cab,ok.hd,ok.frames,ok.stk,ok.exf,ok.bs,ok.bsz,ok.noex,ok.exfs,ok.funs,ok.frf⟩
theorem Cx.Ok.unwish(ok:(X.wish E).Ok):X.Ok :=
 ⟨ok.mod,ok.kind,ok.glob,ok.blt,ok.above,ok.inj,ok.has,ok.cab,ok.hd,ok.frames,ok.stk,ok.exf,ok.bs,ok.bsz,ok.noex,ok.exfs,ok.funs,ok.frf⟩
section
theorem aj.wish(I:aj X pins σ H s)(E:Value->Shared->Prop):aj (X.wish E) pins σ H s:=⟨I.ok.wish E,I.os,I.bare,I.base,I.loc,I.cell,I.free,I.freeC,I.pin,I.hok,I.len⟩
theorem aj.unwish(I:aj (X.wish E) pins σ H s):aj X pins σ H s:=⟨I.ok.unwish,I.os,I.bare,I.base,I.loc,I.cell,I.free,I.freeC,I.pin,I.hok,I.len⟩
theorem SP.unwish{D:kG}{f:Flow}(h:SP (X.wish E) pins D f s'):SP X pins D f s':=by
 cases f with
 | next=>obtain⟨σ',H',I,q⟩:=h;exact⟨σ',H',I.unwish,q⟩
 | brk=>obtain⟨σ',H',I,q⟩:=h;exact⟨σ',H',I.unwish,q⟩
 | cont=>obtain⟨σ',H',I,q⟩:=h;exact⟨σ',H',I.unwish,q⟩
 | ret u=>obtain⟨v,σ',H',I,r,q⟩:=h;exact⟨v,σ',H',I.unwish,r,q⟩
theorem PE.nox(h:PE X.nox e t):PE X e t:=fun pins s σ H Q I hw =>
 wpAny_mono (h pins s σ H Q (I.wish _) hw) (fun _ _ ⟨v,H',I',r,q⟩=>⟨v,H',I'.unwish,r,q⟩) fun _ _ z=>False.elim z
theorem PT.nox{t:TT}(h:PT X.nox e t):PT X e t:=fun pins s σ H Q I hw =>
 wpAny_mono (h pins s σ H Q (I.wish _) hw) (fun _ _ ⟨H',I',q⟩=>⟨H',I'.unwish,q⟩) fun _ _ z=>False.elim z
theorem eQ.nox{st:List Stmt}{t:TS}(h:eQ X.nox st t):eQ X st t:=fun pins s σ H D I hw =>
 wpAny_mono (h pins s σ H D (I.wish _) hw) (fun _ _ q=>q.unwish) fun _ _ z=>False.elim z
end
section
variable{st:Stmt}{rest:List Stmt}{t u:TS}
def Dj:TS:=fun D σ H=>D.nx σ H
def MO(t u:TS):TS:=fun D σ H=>t { D with nx:=u D } σ H
theorem qK:eQ X [] Dj:=fun _ _ σ H _ I h=>wpAny_execs_nil ⟨σ,H,I,h⟩
theorem fz(h1:PS X st t)(h2:eQ X rest u):eQ X (st::rest) (MO t u):=by
 intro pins s σ H D I h
 refine wpAny_execs_cons (aN (h1 pins s σ H { D with nx:=u D } I h) fun f s1 q=>?_)
 cases f with
 | next =>
  obtain⟨σ',H',I',q⟩:=q
  exact h2 pins s1 σ' H' D I' q
 | ret v=>exact q
 | brk=>exact q
 | cont=>exact q
theorem v6(h1:PS X st t):eQ X [st] t:=by
 intro pins s σ H D I h
 refine wpAny_execs_cons (aN (h1 pins s σ H D I h) fun f s1 q=>?_)
 cases f with
 | next=>exact wpAny_execs_nil q
 | ret v=>exact q
 | brk=>exact q
 | cont=>exact q
def Hb:TS:=fun D σ H=>D.bk σ H
def Lh:TS:=fun D σ H=>D.ct σ H
theorem EU:PS X (.Pass pos) Dj:=fun _ _ σ H _ I h=>wpAny_Pass ⟨σ,H,I,h⟩
theorem BC:PS X (.Break pos) Hb:=fun _ _ σ H _ I h=>wpAny_Break ⟨σ,H,I,h⟩
theorem vy:PS X (.Continue pos) Lh:=fun _ _ σ H _ I h=>wpAny_Continue ⟨σ,H,I,h⟩
theorem aj.quiet(I:aj X pins σ H s):interactive X.env=false:=by simp[interactive,I.ok.kind]
def Lg(te:TE):TS:=fun D σ H=>te σ H fun _ H1=>D.nx σ H1
theorem jz(he:PE X e te)(hs:swapsWith e none pos.line X.env=pure false:=by rfl):PS X (.Expr e pos) (Lg te):=by
 intro pins s σ H D I h
 exact wpAny_Expr_any (aN (he pins s σ H _ I h) fun v s1 ⟨x,H1,I1,r1,q1⟩=>⟨σ,H1,I1,q1⟩) I.quiet hs
def MP(te:TE):TS:=fun D σ H=>te σ H D.rt
theorem zq(he:PE X e te):PS X (.Return (some e) pos) (MP te):=by
 intro pins s σ H D I h
 exact wpAny_Return_some (aN (he pins s σ H _ I h) fun v s1 ⟨x,H1,I1,r1,q1⟩=>⟨x,σ,H1,I1,r1,q1⟩)
def Ld:TS:=fun D _ H=>D.rt .non H
theorem ET:PS X (.Return none pos) Ld:=fun _ _ σ H _ I h=>wpAny_Return_none ⟨.non,σ,H,I,rfl,h⟩
def MU(c:TT)(t u:TS):TS:=fun D σ H=>c σ H fun b H1=>if b=true then t D σ H1 else u D σ H1
theorem xE{a b:List Stmt}(hc:PT X c tc)(ha:eQ X a t)(hb:eQ X b u):PS X (.If c a b pos) (MU tc t u):=by
 intro pins s σ H D I h
 refine wpAny_If (aN (hc pins s σ H _ I h) fun d s1 ⟨H1,I1,q1⟩=>?_)
 cases d with
 | true=>exact ha pins s1 σ H1 D I1 q1
 | false=>exact hb pins s1 σ H1 D I1 q1
def Ha:TS:=fun _ _ _=>False
theorem gG{sts:List Stmt}:eQ X sts Ha:=fun _ _ _ _ _ _ h=>h.elim
end
abbrev TG:=V->St->Hp->(St->Hp->Prop)->Prop
abbrev qt:=List V->St->Hp->(St->Hp->Prop)->Prop
def PG(X:Cx)(target:Expr)(t:TG):Prop :=
 ∀(pins:List (Addr×Obj)) (s:Shared) (σ:St) (H:Hp) (v:V) (u:Value) (Q:St->Hp->Prop),aj X pins σ H s->aU v u->t v σ H Q ->
  wpAny (model X.prog X.w) X.A (assign target X.env u) (fun _ s' => ∃σ' H',aj X pins σ' H' s'/\Q σ' H') X.xe s
def wP(X:Cx)(ts:List Expr)(t:qt):Prop :=
 ∀(pins:List (Addr×Obj)) (s:Shared) (σ:St) (H:Hp) (vs:List V) (us:List Value) (Q:St->Hp->Prop),aj X pins σ H s->aK vs us->t vs σ H Q ->
  wpAny (model X.prog X.w) X.A (assignInOrder ((assignEach ts X.env).map (·.2)) us) (fun _ s' => ∃σ' H',aj X pins σ' H' s'/\Q σ' H') X.xe s
abbrev yy:=V->V->V->Hp->(Hp->Prop)->Prop
def C2(X:Cx)(t:yy):Prop :=
 ∀(pins:List (Addr×Obj)) (s:Shared) (σ:St) (H:Hp) (o i v:V) (ov iv u:Value) (Q:Hp->Prop),aj X pins σ H s->aU o ov->aU i iv->aU v u->t o i v H Q ->
  wpAny (model X.prog X.w) X.A (setItem ov iv u) (fun _ s' => ∃H',aj X pins σ H' s'/\Q H') X.xe s
abbrev Kv:=V->V->Hp->VK->Prop
def MD(X:Cx)(op:Operator)(t:Kv):Prop :=
 ∀(pins:List (Addr×Obj)) (s:Shared) (σ:St) (H:Hp) (x y:V) (v u:Value) (Q:VK),aj X pins σ H s->aU x v->aU y u->t x y H Q ->
  wpAny (model X.prog X.w) X.A (inplaceOp op v u) (EP X pins σ Q) X.xe s
section
def DS(i:Nat):TG:=fun v σ H Q=>Q (σ.set i (some v)) H
theorem jB(hN:X.N.Nodup)(hi:X.N[i]?=some x)(hx:vp X.env.scope x)(hf:X.fn x=true\/X.env.scope.names.lookup x=some .local:=by first|exact .inl rfl|exact .inr rfl|assumption):PG X (.Name x pos) (DS i):=by
 intro pins s σ H v u Q I r h
 exact wpAny_assign_Name (fZ I hN hi hx r (fun s' I'=>⟨_,H,I',h⟩) hf)
def QF:qt:=fun vs σ H Q=>vs=[]/\Q σ H
def L7(t:TG)(u:qt):qt:=fun vs σ H Q => ∃v r,vs=v::r/\t v σ H fun σ' H'=>u r σ' H' Q
theorem wc:wP X [] QF:=by
 intro pins s σ H vs us Q I r h
 obtain⟨e,h⟩:=h
 subst e
 cases r
 exact assignInOrder_nil ⟨σ,H,I,h⟩
theorem oj{t:TG}{u:qt}(h1:PG X e t)(h2:wP X es u)
  (hs:(assignEach (e::es) X.env).map (·.2)=assign e X.env::(assignEach es X.env).map (·.2):=by rfl):wP X (e::es) (L7 t u):=by
 intro pins s σ H vs us Q I r h
 obtain⟨v,vr,e1,h⟩:=h
 subst e1
 cases r with
 | cons r rr =>
  rw[hs]
  refine assignInOrder_cons (aN (h1 pins s σ H _ _ _ I r h) fun _ s1 ⟨σ1,H1,I1,q1⟩=>?_)
  exact h2 pins s1 σ1 H1 _ _ Q I1 rr q1
def QD(K:W.Frag)(n:Nat)(t:qt):TG:=fun v σ H Q => ∃a xs,v=.ref a/\cu K H a xs/\xs.length=n/\t xs σ H Q
theorem tQ{t:qt}(hc:X.calm=true)(h:wP X es t)
  (hn:(assignEach es X.env).length=n:=by rfl) (hst:(assignEach es X.env).findIdx? (·.1)=none:=by rfl):PG X (.Tuple es k pos) (QD X.K n t):=by
 intro pins s σ H v u Q I r hw
 obtain⟨a,xs,e1,hq,hl,hw⟩:=hw
 subst e1
 cases r
 obtain⟨its,rv,ht,hz⟩:=I.tuple hq
 refine assign_Tuple_tuple (I.ok.hd hc) ht (by simp[hn,<- hl,rv.length]) hst fun h' hx=>?_
 have I1:aj X pins σ H { s with heap:=h' }:=I.kept (t':=s.toks) fun b o e=>hx b o (Nat.ne_of_lt (Heap.lt_size e)) e
 exact h pins _ σ H xs _ Q I1 (by simpa using rv) hw
def QE(to ti:TE)(t:yy):TG:=fun v σ H Q=>to σ H fun o H1=>ti σ H1 fun i H2=>t o i v H2 fun H3=>Q σ H3
theorem tR{o i:Expr}{to ti:TE}{t:yy}(ho:PE X o to)(hi:PE X i ti)(hs:C2 X t)
  (ha:∀v,assign (.Subscript o i pos) X.env v=(do
   let ov <- holding [v] (eval o X.env)
   let iv <- holding [v,ov] (eval i X.env)
   standAt pos
   holding [v,ov,iv] (setItem ov iv v)
   release [v,ov,iv] []):=by intro _;rfl):PG X (.Subscript o i pos) (QE to ti t):=by
 intro pins s σ H v u Q I r h
 rw[ha]
 refine wpAny_bind (wpAny_holding (aN (ho pins s σ H _ I h) fun ov s1 ⟨x,H1,I1,r1,q1⟩=>?_))
 refine wpAny_bind (wpAny_holding (aN (hi pins s1 σ H1 _ I1 q1) fun iv s2 ⟨y,H2,I2,r2,q2⟩=>?_))
 refine wpAny_bind (wpAny_standAt (wpAny_bind (wpAny_holding (aN (hs pins s2 σ H2 x y v ov iv u _ I2 r1 r2 r q2) fun _ s3 ⟨H3,I3,q3⟩=>?_))))
 exact wpAny_release ⟨σ,H3,I3,q3⟩
def Hc(te:TE)(g:TG):TS:=fun D σ H=>te σ H fun x H1=>g x σ H1 D.nx
theorem jA{g:TG}(he:PE X e te)(hg:PG X tg g)(hs:swapsWithSole [tg] e pos.line X.env=pure false:=by rfl)(hw:swappedStores [tg] e X.env=pure none:=by rfl)
  (h1:(assignEach [tg] X.env).map (·.2)=[assign tg X.env]:=by rfl):PS X (.Assign [tg] e pos) (Hc te g):=by
 intro pins s σ H D I h
 refine wpAny_Assign_stores (aN (he pins s σ H _ I h) fun v s1 ⟨x,H1,I1,r1,q1⟩=>?_) hs hw
 rw[h1]
 exact aN (hg pins s1 σ H1 x v _ I1 r1 q1) fun _ s2 q=>q
theorem zp(hN:X.N.Nodup)(hi:X.N[i]?=some x)(hx:vp X.env.scope x)(he:PE X e te)(hs:swapsWith e (some (.Name x pos')) pos.line X.env=pure false:=by rfl)(hf:X.fn x=true\/X.env.scope.names.lookup x=some .local:=by first|exact .inl rfl|exact .inr rfl|assumption) :
  PS X (.Assign [.Name x pos'] e pos) (Hc te (DS i)):=by
 intro pins s σ H D I h
 refine wpAny_Assign_Name (aN (he pins s σ H _ I h) fun v s1 ⟨y,H1,I1,r1,q1⟩=>?_) hs
 exact fZ I1 hN hi hx r1 (fun s2 I2=>⟨_,H1,I2,q1⟩) hf
def MQ(i j:Nat)(ta:TA):TS:=fun D σ H=>ta σ H fun vs H1 => ∃v w,vs=[v,w]/\D.nx ((σ.set i (some v)).set j (some w)) H1
theorem HC{y:Str}{a b:Expr}{px py pt:Pos}{kt k2 pt2}(hc:X.calm=true)(hN:X.N.Nodup)(hi:X.N[i]?=some x)(hj:X.N[j]?=some y)(hij:i≠j)
  (hx:X.env.scope.names.lookup x=some .local) (hy:X.env.scope.names.lookup y=some .local) (ha:PA X [a,b] ta)
  (hw:swappedStores [.Tuple [.Name x px,.Name y py] kt pt] (.Tuple [a,b] k2 pt2) X.env=pure (some [x,y]))
  (hs:swapsWithSole [.Tuple [.Name x px,.Name y py] kt pt] (.Tuple [a,b] k2 pt2) pos.line X.env=pure false:=by rfl) :
  PS X (.Assign [.Tuple [.Name x px,.Name y py] kt pt] (.Tuple [a,b] k2 pt2) pos) (MQ i j ta):=by
 intro pins s σ H D I h
 rw[exec_Assign_arm]
 refine wpAny_bind (wpAny_standAt ?_)
 rw[hs]
 refine wpAny_bind (wpAny_pure ?_)
 rw[if_neg (by decide)]
 refine wpAny_bind (Tuple_ (aN (ha _ pins s σ H _ I h) fun us s1 ⟨vs,H1,I1,r1,q1⟩=>?_))
 obtain⟨v,w,e1,q1⟩:=q1
 subst e1
 obtain⟨u1,u2,rfl,rv,rw'⟩:∃u1 u2,us=[u1,u2]/\aU v u1/\aU w u2:=by
  cases r1 with
  | cons p q =>
   cases q with
   | cons p' q' =>
    cases q'
    exact⟨_,_,rfl,p,p'⟩
 refine wpAny_newObj_type ?_ (by show 2<=sizeLine;decide)
 have I2:aj X pins σ H1 { s1 with heap:=s1.heap.push { cls:=.type "tuple", data:=.seq [u1,u2].toArray } }:=I1.kept (t':=s1.toks) fun b o e=>Heap.get?_push_of_some _ e
 rw[hw]
 refine wpAny_bind (wpAny_pure ?_)
 show wpAny (model X.prog X.w) X.A (do rule "assign.swapped-stores"; let items <- unpackItems (.ref s1.heap.objs.size) 2 none;assignInOrder [fun v=>bindName X.env y v,fun v=>bindName X.env x v] items.reverse;pure Flow.next) _ _ _
 refine wpAny_bind (wpAny_rule (wpAny_bind (unpackItems_tuple (items:=#[u1,u2]) (I.ok.hd hc) (IsTup.new s1.heap _) fun h' hx'=>?_)))
 have I3:=I2.kept (h':=h') (t':=s1.toks) fun b o e=>hx' b o (Nat.ne_of_lt (Heap.lt_size e)) e
 show wpAny _ _ (assignInOrder [fun v=>bindName X.env y v,fun v=>bindName X.env x v] [u2,u1] >>= fun _=>pure Flow.next) _ _ _
 refine wpAny_bind (assignInOrder_cons (wpAny_bindName (fZ I3 hN hj (.inl hy) rw' (fun s2 I4=>?_) (.inr hy))))
 refine assignInOrder_cons (wpAny_bindName (fZ I4 hN hi (.inl hx) rv (fun s3 I5=>assignInOrder_nil (wpAny_pure ?_)) (.inr hx)))
 rw[List.set_comm _ _ (Ne.symm hij)]at I5
 exact⟨_,H1,I5,q1⟩
def MY(i:Nat)(te:TE)(ti:Kv):TS:=fun D σ H => ∃x,σ[i]?=some (some x)/\te σ H fun y H1=>ti x y H1 fun z H2=>D.nx (σ.set i (some z)) H2
theorem HD{ti:Kv}(hN:X.N.Nodup)(hi:X.N[i]?=some x)(hx:vp X.env.scope x)(he:PE X e te)(ho:MD X op ti)(hf:X.fn x=true\/X.env.scope.names.lookup x=some .local:=by first|exact .inl rfl|exact .inr rfl|assumption) :
  PS X (.AugAssign (.Name x pos') op e pos) (MY i te ti):=by
 intro pins s σ H D I h
 obtain⟨v,e1,h⟩:=h
 obtain⟨m,hn,hl⟩:=I.loc
 have vis:iS X.env.scope x:=by rcases hx with k|k;exact .inl k;exact .inr (.inl k)
 obtain⟨u,r,l⟩:=hl i x v hi e1 vis
 refine wpAny_AugAssign_Name ?_
 have go:wpAny (model X.prog X.w) X.A (eval e X.env) (fun w s₂=>wpAny (model X.prog X.w) X.A (inplaceOp op u w) (fun r s₃=>wpAny (model X.prog X.w) X.A (storeName X.env x r) (fun _=>SP X pins D .next) X.xe s₃) X.xe s₂) X.xe s:=by
  refine aN (he pins s σ H _ I h) fun w s1 ⟨y,H1,I1,r1,q1⟩=>?_
  refine aN (ho pins s1 σ H1 v y u w _ I1 r r1 q1) fun z s2 ⟨zv,H2,I2,r2,q2⟩=>?_
  exact fZ I2 hN hi hx r2 (fun s3 I3=>⟨_,H2,I3,q2⟩) hf
 rcases l with⟨hk,hm⟩|⟨hk,c,hc,hcell⟩
 ·exact wpAny_loadName_local I.ok.kind hk hn hm go
 ·rcases hk with hk|hk
  ·exact wpAny_loadName_cell I.ok.kind hk hc hcell go
  ·rcases hx with k|k
   ·have:X.env.scope.names.lookup x=some .free:=hk
    rw[k]at this;cases this
   ·have:X.env.scope.names.lookup x=some .free:=hk
    rw[k]at this;cases this
end
section
def G8(c:TT)(tb:TS):TS:=fun D σ H => ∃W:Nat->St->Hp->Prop,(∃m,W m σ H)/\∀m σ H,W m σ H ->
 c σ H fun b H1=>if b=true then ∃N:St->Hp->Prop,(∀σ' H',N σ' H'->∃m',m' < m/\W m' σ' H')/\tb { D with nx:=N,ct:=N,bk:=D.nx } σ H1 else D.nx σ H1
theorem BB(hp:PassesOwn (model X.prog X.w) X.A X.env X.xe)(hc:PT X c tc)(hb:eQ X body tb):PS X (.While c body [] pos) (G8 tc tb):=by
 intro pins s σ H D I h
 obtain⟨W,⟨m0,w0⟩,turn⟩:=h
 refine wpAny_While (codeAny_whileLoop (fun n s' => ∃σ' H',aj X pins σ' H' s'/\W n σ' H') ?_ m0 ⟨σ,H,I,w0⟩)
 rintro n s1 ⟨σ1,H1,I1,w1⟩
 refine wpAny_passesOwn hp (aN (hc pins s1 σ1 H1 _ I1 (turn n σ1 H1 w1)) fun b s2 ⟨H2,I2,q2⟩=>?_)
 cases b with
 | true =>
  obtain⟨N,hN,q2⟩:=q2
  rw[if_pos rfl]
  refine wpAny_passesOwn hp (aN (hb pins s2 σ1 H2 _ I2 q2) fun f s3 q3=>?_)
  cases f with
  | next =>
   obtain⟨σ3,H3,I3,n3⟩:=q3
   obtain⟨m',hm,w3⟩:=hN σ3 H3 n3
   exact⟨m',hm,σ3,H3,I3,w3⟩
  | cont =>
   obtain⟨σ3,H3,I3,n3⟩:=q3
   obtain⟨m',hm,w3⟩:=hN σ3 H3 n3
   exact⟨m',hm,σ3,H3,I3,w3⟩
  | brk=>exact q3
  | ret v=>exact q3
 | false =>
  rw[if_neg Bool.false_ne_true]
  exact wpAny_execs_nil ⟨σ1,H2,I2,q2⟩
end
structure It where
 go:Nat->Hp->Prop
 yld:Nat->Hp->V->Hp->Prop
 stop:Nat->Hp->Prop
def fU(X:Cx)(pins:List (Addr×Obj))(H:Hp)(b:Addr):Prop :=
 H b=none/\b≠X.env.locals/\b∉X.fs/\(b∈X.ex\/X.s₀.heap.objs.size<=b)/\(∀x c,X.env.cells.lookup x=some c->c≠b)/\∀p∈X.pn++pins,p.1≠b
theorem aj.fpOk{H':Hp}(I:aj X pins σ H s)(hb:s.heap.objs.size<=b)(hn:H' b=none):fU X pins H' b:=by
 refine⟨hn,Nat.ne_of_gt (Nat.lt_of_lt_of_le I.lt hb),I.nofs hb,.inr (Nat.le_trans I.sz hb),fun x c e z=>?_,fun p hp z=>?_⟩
 ·obtain⟨v,q⟩:=I.cell x c e
  exact absurd (Nat.lt_of_lt_of_le q.lt (by rw[z];exact hb)) (Nat.lt_irrefl _)
 ·exact absurd (Nat.lt_of_lt_of_le (Heap.lt_size (I.pin p hp).1) (by rw[z];exact hb)) (Nat.lt_irrefl _)
structure Turn(P:Program)(w:World)(K:W.Frag)(tg:Expr)(J:It)(fp:List Addr)(it:Addr)(tn:Nat->Heap->Prop):Prop where
 mem:it∈fp
 obj:∀i h,tn i h->∀b∈fp,∃o,h.get? b=some o/\∀v,o.data ≠ .cell v
 keep:∀i h h',tn i h->(∀b∈fp,∀o,h.get? b=some o->h'.get? b=some o)->tn i h'
 item:∀(X:Cx),X.prog=P->X.w=w->X.K=K->X.calm=true->∀(i:Nat) (pins:List (Addr×Obj)) (s:Shared) (σ:St) (H:Hp) (E:Value->Shared->Prop),aj X pins σ H s->(∀b∈fp,fU X pins H b)->tn i s.heap->J.go i H ->
  wpAny (model P w) X.A (pyNext (.ref it)) (fun r s1 => ∃u,r=some u /\
   wpAny (model P w) X.A (letOwnedTupleGo tg (.ref it) u) (fun _ s2 => ∃x H',aj X pins σ H' s2/\aU x u/\J.yld i H x H'/\tn (i+1) s2.heap/\∀b∈fp,H' b=none) E s1) E s
 done:∀(X:Cx),X.prog=P->X.w=w->X.K=K->X.calm=true->∀(i:Nat) (pins:List (Addr×Obj)) (s:Shared) (σ:St) (H:Hp) (E:Value->Shared->Prop),aj X pins σ H s->(∀b∈fp,fU X pins H b)->tn i s.heap->J.stop i H ->
  wpAny (model P w) X.A (pyNext (.ref it)) (fun r s1=>r=none/\aj X pins σ H s1) E s
 self:∀(A:Around) (i:Nat) (s:Shared) (Q:Value->Shared->Prop) (E:Value->Shared->Prop),tn i s.heap->Q (.ref it) s->wpAny (model P w) A (pyIter (.ref it)) Q E s
abbrev TI:=St->Hp->(It->Hp->Prop)->Prop
def ME(X:Cx)(pins:List (Addr×Obj))(σ:St)(tg:Expr)(R:It->Hp->Prop)(itv:Value)(s2:Shared):Prop :=
 ∃(it:Addr) (fp:List Addr) (tn:Nat->Heap->Prop) (J:It) (H':Hp),itv=.ref it/\aj X pins σ H' s2/\Turn X.prog X.w X.K tg J fp it tn/\tn 0 s2.heap/\(∀b∈fp,fU X pins H' b)/\R J H'
def PI(X:Cx)(tg iter:Expr)(wi:TI):Prop :=
 ∀(pins:List (Addr×Obj)) (s:Shared) (σ:St) (H:Hp) (R:It->Hp->Prop),aj X pins σ H s->wi σ H R ->
  wpAny (model X.prog X.w) X.A (eval iter X.env) (fun v s1=>wpAny (model X.prog X.w) X.A (pyIter v) (ME X pins σ tg R) X.xe s1) X.xe s
theorem pP{n:String}{vs:Array Value}{Q:Unit->Shared->Prop}(ho:s.heap.get? it=some o)(hc:o.cls=.type n)(hd:o.data=.fields vs)
    (hn:["enumerate", "zip", "dict_itemiterator", "dict_reverseitemiterator", "odict_iterator", "itertools.zip_longest", "itertools.pairwise"].contains n=false) (hQ:Q () s):wpAny M A (letOwnedTupleGo tg (.ref it) u) Q E s:=by
  unfold letOwnedTupleGo
  cases tg<;>first
    | exact wpAny_pure hQ
    | (cases u<;>first
        | exact wpAny_pure hQ
        | (refine wpAny_bind (wpAny_load ho ?_)
           rw[hc,hd]
           show wpAny M A (if (["enumerate", "zip", "dict_itemiterator", "dict_reverseitemiterator", "odict_iterator", "itertools.zip_longest", "itertools.pairwise"].contains n&&vs[0]? == some (rawInt _))=true then _ else _) Q E s
           rw[if_neg (by intro h;rw[hn,Bool.false_and]at h;cases h)]
           exact wpAny_pure hQ))
def MG(K:W.Frag)(a:Addr):It :=
 ⟨fun i H => ∃xs x,cf K H a xs/\xs[i]?=some x,fun i H x H'=>H'=H/\∀xs,cf K H a xs->xs[i]?=some x,fun i H => ∃xs,cf K H a xs/\xs.length<=i⟩
def MF(K:W.Frag)(a:Addr):It :=
 ⟨fun i H => ∃xs x,cu K H a xs/\xs[i]?=some x,fun i H x H'=>H'=H/\∀xs,cu K H a xs->xs[i]?=some x,fun i H => ∃xs,cu K H a xs/\xs.length<=i⟩
def Ee(lo:Int)(n:Nat):It:=⟨fun i _=>i<n,fun i H x H'=>H'=H/\x=.int (lo+i),fun i _=>n<=i⟩
theorem y6(a it:Addr):Turn P w K tg (MG K a) [it] it (fun i h=>h.IsListIter it a i) where
 mem:=by simp
 obj:=fun i h st b hb=>by
  have e:b=it:=by simpa using hb
  subst e
  obtain⟨o,e,c,d⟩:=st
  exact⟨o,e,fun v z=>by rw[d]at z;cases z⟩
 keep:=fun i h h' st k=>st.at fun o e=>k it (by simp) o e
 item:=by
  intro X hP hw hK hc i pins s σ H E I hf st hg
  subst hP hw hK
  obtain⟨xs,x,hq,hx⟩:=hg
  obtain⟨its,rv,p,hz⟩:=I.list hq
  obtain⟨u,hu,ru⟩:=rv.get hx
  obtain⟨f0,f1,f2,f3,f4,f5⟩:=hf it (by simp)
  refine wpAny_pyNext_list_item st p.isList (x:=u) (by simpa using hu) fun h' st' sb=>?_
  have I1:aj X pins σ H { s with heap:=h' }:=I.turned (t':=s.toks) (fun b o hb e=>(sb.2 b hb).trans e) f0 f1 f3 f4 f5
  obtain⟨o,e,c,d⟩:=id st'
  exact⟨u,rfl,pP (s:={ s with heap:=h' }) e c d (by decide) ⟨x,H,I1,ru,⟨rfl,fun ys hy=>by rw[I.list_inj hy hq];exact hx⟩,st',fun b hb=>(hf b hb).1⟩⟩
 done:=by
  intro X hP hw hK hc i pins s σ H E I hf st hg
  subst hP hw hK
  obtain⟨xs,hq,hx⟩:=hg
  obtain⟨its,rv,p,hz⟩:=I.list hq
  obtain⟨f0,f1,f2,f3,f4,f5⟩:=hf it (by simp)
  have hl:=rv.length
  exact wpAny_pyNext_list_end (I.ok.hd hc) st p.isList (by simp;omega) fun h' eb=>⟨rfl,I.turned (t':=s.toks) (fun b o hb e=>eb b o hb e) f0 f1 f3 f4 f5⟩
 self:=fun _ _ _ _ _ st h=>wpAny_pyIter_listiter st h
theorem xp(a it:Addr):Turn P w K tg (MF K a) [it] it (fun i h=>h.IsTupleIter it a i) where
 mem:=by simp
 obj:=fun i h st b hb=>by
  have e:b=it:=by simpa using hb
  subst e
  obtain⟨o,e,c,d⟩:=st
  exact⟨o,e,fun v z=>by rw[d]at z;cases z⟩
 keep:=fun i h h' st k=>st.at fun o e=>k it (by simp) o e
 item:=by
  intro X hP hw hK hc i pins s σ H E I hf st hg
  subst hP hw hK
  obtain⟨xs,x,hq,hx⟩:=hg
  obtain⟨its,rv,p,hz⟩:=I.tuple hq
  obtain⟨u,hu,ru⟩:=rv.get hx
  obtain⟨f0,f1,f2,f3,f4,f5⟩:=hf it (by simp)
  refine wpAny_pyNext_tuple_item st (show s.heap.IsTuple a its.toArray from p) (x:=u) (by simpa using hu) fun h' st' sb=>?_
  have I1:aj X pins σ H { s with heap:=h' }:=I.turned (t':=s.toks) (fun b o hb e=>(sb.2 b hb).trans e) f0 f1 f3 f4 f5
  obtain⟨o,e,c,d⟩:=id st'
  exact⟨u,rfl,pP (s:={ s with heap:=h' }) e c d (by decide) ⟨x,H,I1,ru,⟨rfl,fun ys hy=>by rw[I.tuple_inj hy hq];exact hx⟩,st',fun b hb=>(hf b hb).1⟩⟩
 done:=by
  intro X hP hw hK hc i pins s σ H E I hf st hg
  subst hP hw hK
  obtain⟨xs,hq,hx⟩:=hg
  obtain⟨its,rv,p,hz⟩:=I.tuple hq
  obtain⟨f0,f1,f2,f3,f4,f5⟩:=hf it (by simp)
  have hl:=rv.length
  exact wpAny_pyNext_tuple_end (I.ok.hd hc) st (show s.heap.IsTuple a its.toArray from p) (by simp;omega) fun h' eb=>⟨rfl,I.turned (t':=s.toks) (fun b o hb e=>eb b o hb e) f0 f1 f3 f4 f5⟩
 self:=fun _ _ _ _ _ st h=>wpAny_pyIter_tupleiter st h
theorem xq(it:Addr)(lo:Int)(n:Nat):Turn P w K tg (Ee lo n) [it] it (fun i h=>IsRangeIter h it (lo+(i:Nat)*1) ((n:Int)-(i:Nat)) 1) where
 mem:=by simp
 obj:=fun i h st b hb=>by
  have e:b=it:=by simpa using hb
  subst e
  exact⟨_,st,fun v z=>by
   have z':Data.fields _=Data.cell v:=z
   cases z'⟩
 keep:=fun i h h' st k=>k it (by simp) _ st
 item:=by
  intro X hP hw hK hc i pins s σ H E I hf st hg
  subst hP hw hK
  obtain⟨f0,f1,f2,f3,f4,f5⟩:=hf it (by simp)
  have W:=Walks.range (prog:=X.prog) (w:=X.w) (I.ok.hd hc) it lo 1 n
  refine W.item i s _ _ hg st fun v h' tk hv st' kk=>?_
  obtain⟨t,rfl⟩:=hv
  have I1:aj X pins σ H { s with heap:=h',toks:=tk }:=I.turned (fun b o hb e=>kk b o (by simpa using hb) e) f0 f1 f3 f4 f5
  refine⟨_,rfl,pP (s:={ s with heap:=h',toks:=tk }) (n := "range_iterator") st' rfl rfl (by decide) ⟨.int (lo+i),H,I1,⟨t,?_⟩,⟨rfl,rfl⟩,st',fun b hb=>(hf b hb).1⟩⟩
  rw[Int.mul_one]
 done:=by
  intro X hP hw hK hc i pins s σ H E I hf st hg
  subst hP hw hK
  obtain⟨f0,f1,f2,f3,f4,f5⟩:=hf it (by simp)
  exact wpAny_pyNext_range_end (I.ok.hd hc) st (by have:n<=i:=hg;omega) fun h' eb=>⟨rfl,I.turned (t':=s.toks) (fun b o hb e=>eb b o hb e) f0 f1 f3 f4 f5⟩
 self:=fun _ _ _ _ _ st h=>wpAny_pyIter_rangeiter st h
section
def L5(K:W.Frag)(tl:TE):TI:=fun σ H R=>tl σ H fun x H1 => ∃a,x=.ref a/\(∃xs,cf K H1 a xs)/\R (MG K a) H1
def QC(K:W.Frag)(tl:TE):TI:=fun σ H R=>tl σ H fun x H1 => ∃a,x=.ref a/\(∃xs,cu K H1 a xs)/\R (MF K a) H1
theorem EZ(hl:PE X l tl):PI X tg l (L5 X.K tl):=by
 intro pins s σ H R I h
 refine aN (hl pins s σ H _ I h) fun v s1 ⟨x,H1,I1,r1,q1⟩=>?_
 obtain⟨a,e,⟨xs,hq⟩,q⟩:=q1
 subst e
 cases r1
 obtain⟨its,rv,p,hz⟩:=I1.list hq
 refine wpAny_pyIter_list p.isList ?_
 refine⟨s1.heap.objs.size,[s1.heap.objs.size],_,_,H1,rfl,I1.kept (t':=s1.toks) fun b o e=>Heap.get?_push_of_some _ e,y6 a _,⟨_,Heap.get?_push_size _ rfl,rfl,rfl⟩,fun b hb=>?_,q⟩
 have e:b=s1.heap.objs.size:=by simpa using hb
 subst e
 exact I1.fpOk (Nat.le_refl _) (I1.hok.fresh (Nat.le_refl _))
theorem HI(hl:PE X l tl):PI X tg l (QC X.K tl):=by
 intro pins s σ H R I h
 refine aN (hl pins s σ H _ I h) fun v s1 ⟨x,H1,I1,r1,q1⟩=>?_
 obtain⟨a,e,⟨xs,hq⟩,q⟩:=q1
 subst e
 cases r1
 obtain⟨its,rv,p,hz⟩:=I1.tuple hq
 refine wpAny_pyIter_tuple (show s1.heap.IsTuple a its.toArray from p) ?_
 refine⟨s1.heap.objs.size,[s1.heap.objs.size],_,_,H1,rfl,I1.kept (t':=s1.toks) fun b o e=>Heap.get?_push_of_some _ e,xp a _,⟨_,Heap.get?_push_size _ rfl,rfl,rfl⟩,fun b hb=>?_,q⟩
 have e:b=s1.heap.objs.size:=by simpa using hb
 subst e
 exact I1.fpOk (Nat.le_refl _) (I1.hok.fresh (Nat.le_refl _))
theorem tM{R:It->Hp->Prop}{lo hi:Int}{t u v:Tok}{tk:Nat}(I:aj X pins σ H s)(h1:-(2 ^ 62)<=lo)(h2:lo<2 ^ 62)(h3:-(2 ^ 62)<=hi)(h4:hi<2 ^ 62)
  (q:R (Ee lo (hi-lo).toNat) H):wpAny (model X.prog X.w) X.A (pyIter (.ref s.heap.objs.size)) (ME X pins σ tg R) E { s with heap:=s.heap.push { cls:=.type "range", data:=.fields #[.int lo t,.int hi u,.int 1 v] },toks:=tk }:=by
 refine wpAny_pyIter_range (IsRange.new ..) (small_one h1 h2 h3 h4) ?_
 have I1:aj X pins σ H { s with heap:=s.heap.push { cls:=.type "range", data:=.fields #[.int lo t,.int hi u,.int 1 v] },toks:=tk }:=I.kept fun b o e=>Heap.get?_push_of_some _ e
 refine⟨(s.heap.push { cls:=.type "range", data:=.fields #[.int lo t,.int hi u,.int 1 v] }).objs.size,[(s.heap.push { cls:=.type "range", data:=.fields #[.int lo t,.int hi u,.int 1 v] }).objs.size],_,_,H,rfl,
  I1.kept (t':=tk) fun b o e=>Heap.get?_push_of_some _ e,xq _ lo (hi-lo).toNat,?_,fun b hb=>?_,q⟩
 ·have e1:lo+((0:Nat):Int)*1=lo:=by simp
  have e2:(((hi-lo).toNat:Nat):Int)-((0:Nat):Int)=Builtin.Range.rangeSize lo hi 1:=by rw[rangeSize_one];split<;>omega
  show IsRangeIter _ _ (lo+((0:Nat):Int)*1) ((((hi-lo).toNat:Nat):Int)-((0:Nat):Int)) 1
  rw[e1,e2]
  exact Heap.get?_push_size _ rfl
 ·have e:b=(s.heap.push { cls:=.type "range", data:=.fields #[.int lo t,.int hi u,.int 1 v] }).objs.size:=by simpa using hb
  subst e
  exact I1.fpOk (Nat.le_refl _) (I1.hok.fresh (Nat.le_refl _))
def L4(ta:TA):TI:=fun σ H R=>ta σ H fun vs H1 => ∃j:Int,vs=[.int j] /\ -(2 ^ 62)<=j/\j<2 ^ 62/\R (Ee 0 j.toNat) H1
def L3(ta:TA):TI:=fun σ H R=>ta σ H fun vs H1 => ∃i j:Int,vs=[.int i,.int j]/\(-(2 ^ 62)<=i/\i<2 ^ 62 /\ -(2 ^ 62)<=j/\j<2 ^ 62)/\R (Ee i (j-i).toNat) H1
theorem zx{a:Expr}(hg:Gl X "range")(hm:X.mg "range" = none)(ha:PA X [a] ta)(hs:starEach [a] X.env=[(false,eval a X.env)]:=by rfl):PI X tg (.Call (.Name "range" p) [a] [] pos) (L4 ta):=by
 intro pins s σ H R I h
 refine Call_ (dA I hg hm boot_range (PyProof.Rows.callWith_type1 (aN (ha pos pins s σ H _ I h) fun us s1 ⟨vs,H1,I1,r1,q1⟩=>?_) hs rfl))
 obtain⟨j,e,q1,q2,q⟩:=q1
 subst e
 cases r1 with
 | cons r rr =>
  cases rr
  obtain⟨t,rfl⟩:=r
  exact call_range_1 (tM I1 (by omega) (by omega) q1 q2 (by simpa using q))
theorem zw{a b:Expr}(hg:Gl X "range")(hm:X.mg "range" = none)(ha:PA X [a,b] ta)(hs:starEach [a,b] X.env=[(false,eval a X.env),(false,eval b X.env)]:=by rfl)(hs2:starEach [b] X.env=[(false,eval b X.env)]:=by rfl) :
  PI X tg (.Call (.Name "range" p) [a,b] [] pos) (L3 ta):=by
 intro pins s σ H R I h
 refine Call_ (dA I hg hm boot_range (PyProof.Rows.callWith_type1 (aN (ha pos pins s σ H _ I h) fun us s1 ⟨vs,H1,I1,r1,q1⟩=>?_) (by rw[hs,hs2]) (by rw[hs2];rfl)))
 obtain⟨i,j,e,⟨q1,q2,q3,q4⟩,q⟩:=q1
 subst e
 cases r1 with
 | cons r rr =>
  cases rr with
  | cons r' rr =>
   cases rr
   obtain⟨t,rfl⟩:=r
   obtain⟨t',rfl⟩:=r'
   exact call_range_2 (tM I1 q1 q2 q3 q4 q)
def MV(wi:TI)(g:TG)(tb:TS):TS:=fun D σ H=>wi σ H fun J H1 => ∃W:Nat->Nat->St->Hp->Prop,(∃m,W 0 m σ H1)/\∀i m σ H,W i m σ H ->
 (J.stop i H/\D.nx σ H)\/(J.go i H/\∃N:St->Hp->Prop,(∀σ' H',N σ' H'->∃m',m' < m/\W (i+1) m' σ' H')/\∀x H',J.yld i H x H'->g x σ H' fun σ2 H2=>tb { D with nx:=N,ct:=N,bk:=D.nx } σ2 H2)
def lE(fp:List Addr)(h:Heap):List (Addr×Obj):=fp.filterMap fun b=>(h.get? b).map fun o=>(b,o)
theorem hZ(hb:b∈fp)(e:h.get? b=some o):(b,o)∈lE fp h:=List.mem_filterMap.mpr ⟨b,hb,by rw[e];rfl⟩
theorem zH{p:Addr×Obj}(hp:p∈lE fp h):p.1∈fp/\h.get? p.1=some p.2:=by
 obtain⟨b,hb,e⟩:=List.mem_filterMap.mp hp
 cases q:h.get? b with
 | none=>rw[q]at e;cases e
 | some o =>
  rw[q]at e
  have e':(b,o)=p:=Option.some.inj e
  subst e'
  exact⟨hb,q⟩
theorem aj.pinned{fp:List Addr}(I:aj X pins σ H s)(hf:∀b∈fp,fU X pins H b)(ho:∀b∈fp,∃o,s.heap.get? b=some o/\∀v,o.data ≠ .cell v):aj X (pins++lE fp s.heap) σ H s :=
 I.pins_of fun p hp=>(List.mem_append.mp hp).elim (fun z=>I.pin p (List.mem_append_right _ z)) fun z=>by
  obtain⟨hb,e⟩:=zH z
  obtain⟨f0,f1,f2,_⟩:=hf p.1 hb
  obtain⟨o,e',d⟩:=ho p.1 hb
  rw[e]at e';cases e'
  exact⟨e,f0,f1,f2,d⟩
theorem aj.unpinned{pl:List (Addr×Obj)}(I:aj X (pins++pl) σ H s):aj X pins σ H s:=I.pins_of fun p hp=>I.pin p (List.mem_append_right _ (List.mem_append_left _ hp))
theorem tP{iter:Expr}{wi:TI}{g:TG}(hp:PassesOwn (model X.prog X.w) X.A X.env X.xe)(hc:X.calm=true)(hi:PI X tg iter wi)(hg:PG X tg g)(hb:eQ X body tb)
  (hs:∀x,foldedSetIterable iter X.env x=pure x:=by intro _;rfl):PS X (.For tg iter body [] pos) (MV wi g tb):=by
 intro pins s σ H D I h
 refine wpAny_For (aN (hi pins s σ H _ I h) fun v s1 h1=>aN h1 fun itv s2 h2=>?_) hs
 obtain⟨it,fp,tn,J,H2,e,I2,T,st2,f2,W,⟨m0,w0⟩,turn⟩:=h2
 subst e
 have stat:∀{H':Hp},(∀b∈fp,H' b=none)->∀b∈fp,fU X pins H' b:=fun hn b hb=>⟨hn b hb,(f2 b hb).2⟩
 refine codeAny_forLoop_any (fun n s' => ∃i σ' H',aj X pins σ' H' s'/\tn i s'.heap/\(∀b∈fp,H' b=none)/\W i n σ' H') ?_ m0 ⟨0,σ,H2,I2,st2,fun b hb=>(f2 b hb).1,w0⟩
 rintro n s3 ⟨i,σ3,H3,I3,st3,fr3,w3⟩
 rcases turn i n σ3 H3 w3 with⟨stop,qn⟩|⟨go,N,hN,step⟩
 ·refine wpAny_passesOwn hp (aN (T.done X rfl rfl rfl hc i pins s3 σ3 H3 X.xe I3 (stat fr3) st3 stop) fun r s4 ⟨hr,I4⟩=>?_)
  subst hr
  exact wpAny_execs_nil ⟨σ3,H3,I4,qn⟩
 ·refine wpAny_passesOwn hp (aN (T.item X rfl rfl rfl hc i pins s3 σ3 H3 X.xe I3 (stat fr3) st3 go) fun r s4 ⟨u,hr,h4⟩=>?_)
  subst hr
  refine wpAny_passesOwn hp (aN h4 fun _ s5 ⟨x,H5,I5,r5,y5,st5,fr5⟩=>?_)
  have I5':=I5.pinned (stat fr5) (T.obj _ _ st5)
  refine wpAny_passesOwn hp (aN (hg _ s5 σ3 H5 x u _ I5' r5 (step x H5 y5)) fun _ s6 ⟨σ6,H6,I6,q6⟩=>?_)
  refine wpAny_passesOwn hp (aN (hb _ s6 σ6 H6 _ I6 q6) fun f s7 q7=>?_)
  have again:∀{σ7:St} {H7:Hp},aj X (pins++lE fp s5.heap) σ7 H7 s7->N σ7 H7->∃m,m<n/\∃i σ' H',aj X pins σ' H' s7/\tn i s7.heap/\(∀b∈fp,H' b=none)/\W i m σ' H':=fun {σ7 H7} I7 n7=>by
   obtain⟨m',hm,w7⟩:=hN σ7 H7 n7
   refine⟨m',hm,i+1,σ7,H7,I7.unpinned,T.keep _ _ _ st5 fun b hb o e=>(I7.pin (b,o) (List.mem_append_right _ (List.mem_append_right _ (hZ hb e)))).1,fun b hb=>?_,w7⟩
   obtain⟨o,e,d⟩:=T.obj _ _ st5 b hb
   exact(I7.pin (b,o) (List.mem_append_right _ (List.mem_append_right _ (hZ hb e)))).2.1
  cases f with
  | next=>obtain⟨σ7,H7,I7,n7⟩:=q7;exact again I7 n7
  | cont=>obtain⟨σ7,H7,I7,n7⟩:=q7;exact again I7 n7
  | brk=>obtain⟨σ7,H7,I7,q7⟩:=q7;exact⟨σ7,H7,I7.unpinned,q7⟩
  | ret v=>obtain⟨x7,σ7,H7,I7,r7,q7⟩:=q7;exact⟨x7,σ7,H7,I7.unpinned,r7,q7⟩
end
abbrev R2:=V->V->Hp->VK->Prop
def cQ(X:Cx)(f:Value->Value->Sem Value)(r:R2):Prop :=
 ∀(pins:List (Addr×Obj)) (s:Shared) (σ:St) (H:Hp) (x y:V) (v u:Value) (Q:VK),aj X pins σ H s->aU x v->aU y u->r x y H Q ->
  wpAny (model X.prog X.w) X.A (f v u) (EP X pins σ Q) X.xe s
def Kt(X:Cx)(f:Value->Sem Value)(r:V->Hp->VK->Prop):Prop :=
 ∀(pins:List (Addr×Obj)) (s:Shared) (σ:St) (H:Hp) (x:V) (v:Value) (Q:VK),aj X pins σ H s->aU x v->r x H Q ->
  wpAny (model X.prog X.w) X.A (f v) (EP X pins σ Q) X.xe s
def d7(X:Cx)(f:Value)(r:List V->Hp->VK->Prop):Prop :=
 ∀(pins:List (Addr×Obj)) (s:Shared) (σ:St) (H:Hp) (xs:List V) (us:List Value) (Q:VK),aj X pins σ H s->aK xs us->r xs H Q ->
  wpAny (model X.prog X.w) X.A (call f us) (EP X pins σ Q) X.xe s
def Mx(r:R2)(ta tb:TE):TE:=fun σ H Q=>ta σ H fun x H1=>tb σ H1 fun y H2=>r x y H2 Q
def SL(r:V->Hp->VK->Prop)(ta:TE):TE:=fun σ H Q=>ta σ H fun x H1=>r x H1 Q
def rI(C:Int->Int->Prop)(g:Int->Int->V):R2:=fun x y H Q => ∃i j,x=.int i/\y=.int j/\C i j/\Q (g i j) H
def kK(g:Int->Int->V):R2:=fun x y H Q => ∃i j,x=.int i/\y=.int j/\Q (g i j) H
def rU(g:Int->V):V->Hp->VK->Prop:=fun x H Q => ∃i,x=.int i/\Q (g i) H
section
variable{a b:Expr}{ta tb tc:TE}
theorem Kh(ha:PE X a ta)(hb:PE X b tb)(I:aj X pins σ H s)
  (h:ta σ H fun x H1=>tb σ H1 fun y H2=>R x y H2)
  (hf:∀v u s2 x y H2,aj X pins σ H2 s2->aU x v->aU y u->R x y H2->wpAny (model X.prog X.w) X.A (f v u) Q X.xe s2) :
  wpAny (model X.prog X.w) X.A (eval a X.env) (fun v s₁=>wpAny (model X.prog X.w) X.A (eval b X.env) (fun u s₂=>wpAny (model X.prog X.w) X.A (f v u) Q X.xe s₂) X.xe s₁) X.xe s:=by
 refine aN (ha pins s σ H _ I h) fun v s1 ⟨x,H1,I1,r1,q1⟩=>?_
 refine aN (hb pins s1 σ H1 _ I1 q1) fun u s2 ⟨y,H2,I2,r2,q2⟩=>?_
 exact hf v u s2 x y H2 I2 r1 r2 q2
theorem DB{r:R2}(ho:cQ X (binaryOp op) r)(ha:PE X a ta)(hb:PE X b tb):PE X (.BinOp a op b pos) (Mx r ta tb):=by
 intro pins s σ H Q I h
 exact wpAny_BinOp (Kh ha hb I h fun v u s2 x y H2 I2 rx ry q=>ho pins s2 σ H2 x y v u Q I2 rx ry q)
theorem LE{op:UnaryOp}{r:V->Hp->VK->Prop}(ho:Kt X (unaryOp op) r)(ha:PE X a ta):PE X (.UnaryOp op a pos) (SL r ta):=by
 intro pins s σ H Q I h
 exact UnaryOp_ (aN (ha pins s σ H _ I h) fun v s1 ⟨x,H1,I1,r1,q1⟩=>ho pins s1 σ H1 x v Q I1 r1 q1)
theorem wg{C:Int->Int->Prop}
  (rule:∀(i j:Int) (t u:Tok) (s:Shared) (Q:Value->Shared->Prop) (E:Value->Shared->Prop),C i j->Q (.int (g i j) s.toks) { s with toks:=s.toks+1 }->wpAny (model X.prog X.w) X.A (f (.int i t) (.int j u)) Q E s) :
  cQ X f (rI C fun i j=>.int (g i j)):=by
 intro pins s σ H x y v u Q I rx ry h
 obtain⟨i,j,rfl,rfl,hc,q⟩:=h
 obtain⟨t,rfl⟩:=rx
 obtain⟨t',rfl⟩:=ry
 exact rule i j t t' s _ _ hc ⟨.int (g i j),H,I.tok _,⟨_,rfl⟩,q⟩
theorem xK
  (rule:∀(i j:Int) (t u:Tok) (s:Shared) (Q:Value->Shared->Prop) (E:Value->Shared->Prop),Q (.int (g i j) s.toks) { s with toks:=s.toks+1 }->wpAny (model X.prog X.w) X.A (f (.int i t) (.int j u)) Q E s) :
  cQ X f (kK fun i j=>.int (g i j)):=by
 intro pins s σ H x y v u Q I rx ry h
 obtain⟨i,j,rfl,rfl,q⟩:=h
 obtain⟨t,rfl⟩:=rx
 obtain⟨t',rfl⟩:=ry
 exact rule i j t t' s _ _ ⟨.int (g i j),H,I.tok _,⟨_,rfl⟩,q⟩
theorem xL{g:Int->Int->Bool}
  (rule:∀(i j:Int) (t u:Tok) (s:Shared) (Q:Value->Shared->Prop) (E:Value->Shared->Prop),Q (.bool (g i j)) s->wpAny (model X.prog X.w) X.A (f (.int i t) (.int j u)) Q E s) :
  cQ X f (kK fun i j=>.bl (g i j)):=by
 intro pins s σ H x y v u Q I rx ry h
 obtain⟨i,j,rfl,rfl,q⟩:=h
 obtain⟨t,rfl⟩:=rx
 obtain⟨t',rfl⟩:=ry
 exact rule i j t t' s _ _ ⟨.bl (g i j),H,I,rfl,q⟩
def SI(i j:Int):Prop:=0<=j/\j<=1000000/\i.natAbs<2 ^ 64
theorem Ig:cQ X (binaryOp .Add) (kK fun i j=>.int (i+j)):=xK fun _ _ _ _ _ _ _ q=>add_int q
theorem Ic:cQ X (binaryOp .Sub) (kK fun i j=>.int (i-j)):=xK fun _ _ _ _ _ _ _ q=>sub_int q
theorem Fi:cQ X (binaryOp .Mod) (rI (fun _ j=>j≠0) fun i j=>.int (i.fmod j)):=wg fun _ _ _ _ _ _ _ hc q=>mod_int' hc q
theorem Id:cQ X (binaryOp .Pow) (rI SI fun i j=>.int (i ^ j.toNat)):=wg fun _ _ _ _ _ _ _ hc q=>pow_int_small hc.1 hc.2.1 hc.2.2 q
theorem FF:cQ X (inplaceOp .Add) (kK fun i j=>.int (i+j)):=xK fun _ _ _ _ _ _ _ q=>iadd_int q
theorem FE:cQ X (inplaceOp .Sub) (kK fun i j=>.int (i-j)):=xK fun _ _ _ _ _ _ _ q=>isub_int q
theorem SJ{f:Value->Sem Value}{g:Int->Int}
  (rule:∀(i:Int) (t:Tok) (s:Shared) (Q:Value->Shared->Prop) (E:Value->Shared->Prop),Q (.int (g i) s.toks) { s with toks:=s.toks+1 }->wpAny (model X.prog X.w) X.A (f (.int i t)) Q E s) :
  Kt X f (rU fun i=>.int (g i)):=by
 intro pins s σ H x v Q I rx h
 obtain⟨i,rfl,q⟩:=h
 obtain⟨t,rfl⟩:=rx
 exact rule i t s _ _ ⟨.int (g i),H,I.tok _,⟨_,rfl⟩,q⟩
theorem GM:Kt X (unaryOp .USub) (rU fun i=>.int (-i)):=SJ fun _ _ _ _ _ q=>neg_int q
end
section
variable{a b:Expr}{ta tb tc:TE}
theorem Aq{Q:VK}{k k':Bool}(I:aj X pins σ H s)(q:Q (.bl k) H)(e:k=k'):EP X pins σ Q (.bool k') s:=by
 subst e
 exact⟨.bl k,H,I,rfl,q⟩
theorem LG:cQ X (compareOp .Lt) (kK fun i j=>.bl (decide (i<j))):=xL fun _ _ _ _ _ _ _ q=>lt_int q
theorem LH:cQ X (compareOp .LtE) (kK fun i j=>.bl (decide (i<=j))):=xL fun _ _ _ _ _ _ _ q=>le_int q
theorem LI:cQ X (compareOp .Gt) (kK fun i j=>.bl (decide (j<i))):=xL fun _ _ _ _ _ _ _ q=>gt_int q
theorem LJ:cQ X (compareOp .GtE) (kK fun i j=>.bl (decide (j<=i))):=xL fun _ _ _ _ _ _ _ q=>ge_int q
theorem Ie:cQ X (compareOp .Is) (fun x y H Q=>y=.non/\Q (.bl (decide (x=.non))) H):=by
 intro pins s σ H x y v u Q I rx ry h
 obtain⟨rfl,q⟩:=h
 cases ry
 refine is_none_gen (Aq I q ?_)
 cases x<;>first
  | (cases rx;rfl)
  | (obtain⟨t,rfl⟩:=rx;rfl)
theorem Fg:cQ X (compareOp .IsNot) (fun x y H Q=>y=.non/\Q (.bl (!decide (x=.non))) H):=by
 intro pins s σ H x y v u Q I rx ry h
 obtain⟨rfl,q⟩:=h
 cases ry
 refine isnot_none_gen (Aq I q ?_)
 cases x<;>first
  | (cases rx;rfl)
  | (obtain⟨t,rfl⟩:=rx;rfl)
def Lc(t:TE):TT:=fun σ H Q=>t σ H fun x H' => ∃k,x=.bl k/\Q k H'
def zd(r r':R2)(ta tb tc:TE):TE:=fun σ H Q=>ta σ H fun x H1=>tb σ H1 fun y H2=>r x y H2 fun z H3 => ∃k,z=.bl k /\
 (if k=true then tc σ H3 fun w' H4=>r' y w' H4 Q else Q (.bl false) H3)
theorem BH{op:CmpOp}{r r':R2}(ho:cQ X (compareOp op) r)(ho':cQ X (compareOp op') r')(ha:PE X a ta)(hb:PE X b tb)(hc:PE X c tc)
  (hm:lastMarks [op,op'] [b,c]=false:=by with_unfolding_all rfl):PE X (.Compare a [op,op'] [b,c] pos) (zd r r' ta tb tc):=by
 intro pins s σ H Q I h
 refine Compare_chain (aN (ha pins s σ H _ I h) fun v s1 ⟨x,H1,I1,r1,q1⟩=>chain_link (aN (hb pins s1 σ H1 _ I1 q1) fun u s2 ⟨y,H2,I2,r2,q2⟩ =>
  aN (ho pins s2 σ H2 x y v u _ I2 r1 r2 q2) fun d s3 ⟨z,H3,I3,r3,k,e,q3⟩=>?_)) hm
 subst e
 cases r3
 refine wpAny_truthy_bool ?_
 cases k with
 | false=>exact ite_ff ⟨.bl false,H3,I3,rfl,q3⟩
 | true=>exact ite_tt (chain_last (aN (hc pins s3 σ H3 _ I3 q3) fun w' s4 ⟨z',H4,I4,r4,q4⟩=>ho' pins s4 σ H4 y z' u w' Q I4 r2 r4 q4))
theorem BA{op:CmpOp}{r r':R2}(ho:cQ X (compareOp op) r)(ho':cQ X (compareOp op') r')(ha:PE X a ta)(hb:PE X b tb)(hc:PE X c tc)
  (hm:lastMarks [op,op'] [b,c]=false:=by with_unfolding_all rfl):PT X (.Compare a [op,op'] [b,c] pos) (Lc (zd r r' ta tb tc)):=by
 intro pins s σ H Q I h
 refine isTrue_chain (aN (ha pins s σ H _ I h) fun v s1 ⟨x,H1,I1,r1,q1⟩=>test_link (aN (hb pins s1 σ H1 _ I1 q1) fun u s2 ⟨y,H2,I2,r2,q2⟩ =>
  aN (ho pins s2 σ H2 x y v u _ I2 r1 r2 q2) fun d s3 ⟨z,H3,I3,r3,k,e,q3⟩=>?_)) hm
 subst e
 cases r3
 refine wpAny_truthy_bool ?_
 cases k with
 | false =>
  obtain⟨k',e',q'⟩:=q3
  cases e'
  exact ite_ff ⟨H3,I3,q'⟩
 | true =>
  refine ite_tt (test_last (aN (hc pins s3 σ H3 _ I3 q3) fun w' s4 ⟨z',H4,I4,r4,q4⟩=>aN (ho' pins s4 σ H4 y z' u w' _ I4 r2 r4 q4) fun d' s5 ⟨z2,H5,I5,r5,k2,e2,q5⟩=>?_))
  subst e2
  cases r5
  exact wpAny_truthy_bool ⟨H5,I5,q5⟩
theorem lM:(sizeLine:Nat)<2 ^ 63:=by rw[sizeLine_eq];decide
theorem dP{x:V}(r:aK [x] us):∃u,us=[u]/\aU x u:=by
 cases r with
 | cons r1 r2=>cases r2;exact⟨_,rfl,r1⟩
theorem mP{x:V}(r:aK [x,y] us):∃u w',us=[u,w']/\aU x u/\aU y w':=by
 cases r with
 | cons r1 r2 =>
  cases r2 with
  | cons r3 r4=>cases r4;exact⟨_,_,rfl,r1,r3⟩
theorem Cz:d7 X (.builtin "abs") (fun xs H Q => ∃i,xs=[.int i]/\Q (.int (if i<0 then -i else i)) H):=by
 intro pins s σ H xs us Q I r h
 obtain⟨i,rfl,q⟩:=h
 obtain⟨u,rfl,t,rfl⟩:=dP r
 exact call_abs_int fun u tk=>⟨.int (if i<0 then -i else i),H,I.tok _,⟨_,rfl⟩,q⟩
theorem rW:d7 X (.type "int") (fun xs H Q=>(∃i,xs=[.int i]/\Q (.int i) H)\/∃k,xs=[.bl k]/\Q (.int (if k then 1 else 0)) H):=by
 intro pins s σ H xs us Q I r h
 rcases h with⟨i,rfl,q⟩|⟨k,rfl,q⟩
 ·obtain⟨u,rfl,t,rfl⟩:=dP r
  exact call_int_int ⟨.int i,H,I,⟨_,rfl⟩,q⟩
 ·obtain⟨u,rfl,r1⟩:=dP r
  cases r1
  exact call_int_bool ⟨.int (if k then 1 else 0),H,I.tok _,⟨_,rfl⟩,q⟩
end
structure vm(h:Heap)(x dx C:Addr)(mA:Str->Option Value):Prop where
 obj:h.get? x=some (W.instObj C dx)
 ns:h.Ns1 dx mA
 ne:dx≠x
theorem rK(n:h.Ns1 dx mA):∃od,h.get? dx=some od/\∀name,W.lookIn name od=some (mA name):=by
 obtain⟨o,es,ep,ho,hd,hk,_,hm⟩:=n
 refine⟨o,ho,fun name=>?_⟩
 have e:=hm name
 unfold nsFind findBy at e
 rw[<- Array.find?_toList]at e
 unfold W.lookIn
 rw[hd]
 dsimp only
 split
 ·rename_i y q
  rw[q]at e
  exact congrArg some e
 ·rename_i q
  rw[q]at e
  have a:es.toList.any (·.refKey)=false:=by
   rw[List.any_eq_false]
   intro y hy
   obtain⟨z,t,hkey⟩:=hk y (Array.mem_toList_iff.mp hy)
   simp[DictEntry.refKey,hkey]
  have a':¬ es.toList.any (·.refKey)=true:=by rw[a];exact Bool.false_ne_true
  rw[if_neg a']
  exact congrArg some e
theorem vm.look{x:Addr}(I:vm h x dx C mA):∃od,W.InstAt h x (W.instObj C dx) C (some od)/\∀name,W.lookIn name od=some (mA name) :=
 let ⟨od,ho,hl⟩:=rK I.ns
 ⟨od,⟨I.obj,rfl,rfl,ho⟩,hl⟩
section
variable{prog:Program}{x f:Addr}{name:Str}{v:Value}
theorem FN{expr:Bool}(X:K.In s.heap)(I:vm s.heap x dx C mA)(hg:W.plainGet K C name=true)(hh:W.hasDictIn K C=true)
  (ha:W.findIn K (.ref C) name=some none) (hv:mA name=some v) (hv':W.handedIn v=true) (h:Q v { s with toks:=s.toks+1 }) :
  wpAny (model prog w) A (getAttr (.ref x) name expr) Q E s:=by
 obtain⟨od,J,hl⟩:=I.look
 exact W.get_value X J (W.plainGet_of hg).1 (W.findObj_own hh ha rfl (by rw[hl,hv])) hv' h
theorem Ch{Q:Value×List Value->Shared->Prop}(X:K.In s.heap)(I:vm s.heap x dx C mA)(hg:W.plainGet K C name=true)
  (hf:W.findIn K (.ref C) name=some (some (.ref f))) (ht:W.isFn K (.ref f)=true) (hv:mA name=none) (h:Q (.ref f,[.ref x]) s) :
  wpAny (model prog w) A (getMethod (.ref x) name pl) Q E s:=by
 obtain⟨od,J,hl⟩:=I.look
 exact W.method_fn X J (W.plainGet_of hg).1 (W.plainGet_of hg).2 hf (beq_iff_eq.mp ht) (by show(W.lookIn name od).map (·.isSome)=some false;rw[hl,hv];rfl) h
theorem ua{R:Result->Shared->Prop}{vs:List Value}(X:K.In s.heap)(hm:W.makesIn K C=true)
  (hi:W.findIn K (.ref C) "__init__" = some (some (.ref f))) (hf:W.typeIn K (.ref f)=some (.type "function"))
  (h:codeAny (model prog w) (A.under (.builtin "type.__call__" ⟨.ref C::vs,kw⟩)) (.call (.ref f) ⟨.ref (s.heap.objs.size+1)::vs,kw⟩) (W.InitBack (s.heap.objs.size+1) R)
   { s with heap:=(s.heap.push W.emptyDict).push (W.instObj C s.heap.objs.size) }) :
  codeAny (model prog w) A (.call (.ref C) ⟨vs,kw⟩) R s:=by
 obtain⟨hh,g,d,t,os⟩:=s
 exact W.make_core (W.makes_of X hm) (W.looks_findIn X hi) (fun self=>W.bind_fn X self hf) (.inl rfl) h
end
theorem fg.some_of{o:Option Value}(r:fg (some v) o):∃u,o=some u/\aU v u:=by
 cases o with
 | none=>exact(show False from r).elim
 | some u=>exact⟨u,rfl,r⟩
theorem fg.none_of{o:Option Value}(r:fg none o):o=none:=by
 cases o with
 | none=>rfl
 | some u=>exact(show False from r).elim
theorem rQ(r:aU v u):W.handedIn u=true:=by
 cases v with
 | non=>cases (show u=Value.none from r);rfl
 | bl b=>cases (show u=Value.bool b from r);rfl
 | int i=>obtain⟨t,e⟩:=(show ∃t,u=Value.int i t from r);cases e;rfl
 | str x=>obtain⟨t,e⟩:=(show ∃t,u=Value.str x t from r);cases e;rfl
 | byt b=>obtain⟨t,e⟩:=(show ∃t,u=Value.bytes b t from r);cases e;rfl
 | flt b=>obtain⟨t,e⟩:=(show ∃t,u=Value.float b t from r);cases e;rfl
 | ref a=>cases (show u=Value.ref a from r);rfl
 | ty n=>cases (show u=Value.type n from r);rfl
section
variable{H':Hp}{h':Heap}{fs fs':List (Str×V)}
theorem qV(hok:cz P w H h)(e:H a=some (.ins C dx fs)):∃mA,vm h a dx C mA/\(∀f,fg (fs.lookup f) (mA f))/\PySem.Within mA (fs.map (·.1))/\fs.length<=1000/\H dx=some (.own a):=by
 obtain⟨d,z,ne,ob,mA,n,r,q⟩:=(show bw P w H h a (.ins C dx fs)from hok a _ e)
 exact⟨mA,⟨ob,n,ne⟩,r,q,z,d⟩
end
structure fW(K:W.Frag)(C:Addr):Prop where
 pg:W.plainGet K C Str.empty=true
 hd:W.hasDictIn K C=true
 po:W.plainOver K C=true
 sa:W.findIn K (.ref C) "__setattr__" = some (some (.builtin "object.__setattr__"))
theorem fW.get(c:fW K C)(f:Str):W.plainGet K C f=true:=c.pg
def qz(K:W.Frag)(C:Addr)(f:Str):Prop:=W.findIn K (.ref C) f=some none
structure vn(K:W.Frag)(C:Addr)(m:Str)(f:Addr):Prop where
 at_:W.findIn K (.ref C) m=some (some (.ref f))
 fn:W.isFn K (.ref f)=true
 kp:W.keepIn K (.ref f)=true
section
variable{fs:List (Str×V)}{f:Str}
theorem x9{b:Bool}(I:aj X pins σ H s)(e:H a=some (.ins C dx fs))(c:fW X.K C)(n:qz X.K C f)(l:fs.lookup f=some v)
  (h:∀u s',aj X pins σ H s'->aU v u->Q u s'):wpAny (model X.prog X.w) A (getAttr (.ref a) f b) Q E s:=by
 obtain⟨mA,O,r,_,_,_⟩:=qV I.hok e
 obtain⟨u,hu,ru⟩:=fg.some_of (v:=v) (o:=mA f) (by rw[<- l];exact r f)
 exact FN I.kIn O (c.get f) c.hd n hu (rQ ru) (h u _ (I.tok _) ru)
theorem pQ{m:Str}{g:Addr}{Q:Value×List Value->Shared->Prop}(I:aj X pins σ H s)(e:H a=some (.ins C dx fs))(c:fW X.K C)(k:vn X.K C m g)(l:fs.lookup m=none)
  (h:Q (.ref g,[.ref a]) s):wpAny (model X.prog X.w) A (getMethod (.ref a) m pl) Q E s:=by
 obtain⟨mA,O,r,_,_,_⟩:=qV I.hok e
 have hn:mA m=none:=fg.none_of (by rw[<- l];exact r m)
 exact Ch I.kIn O (c.get m) k.at_ k.fn hn h
theorem aj.made(I:aj X pins σ H s):aj X pins σ (aG (aG H s.heap.objs.size (.own (s.heap.objs.size+1))) (s.heap.objs.size+1) (.ins C s.heap.objs.size []))
  { s with heap:=(s.heap.push W.emptyDict).push (W.instObj C s.heap.objs.size) }:=by
 have e1:(s.heap.push W.emptyDict).get? s.heap.objs.size=some W.emptyDict:=Heap.get?_push_size s.heap rfl
 have e2:((s.heap.push W.emptyDict).push (W.instObj C s.heap.objs.size)).get? (s.heap.objs.size+1)=some (W.instObj C s.heap.objs.size):=by
  have:=Heap.get?_push_size (s.heap.push W.emptyDict) (o:=W.instObj C s.heap.objs.size) rfl
  rwa [Heap.size_push]at this
 have e3:(s.heap.push W.emptyDict).Ns s.heap.objs.size (fun _=>none):=⟨W.emptyDict,#[],_,e1,rfl,(fun e he=>absurd he (by simp)),fun _=>rfl⟩
 have I1:=I.laid (a:=s.heap.objs.size) (o:=.own (s.heap.objs.size+1)) (h':=s.heap.push W.emptyDict) (t':=s.toks) (fun b u q=>Heap.get?_push_of_some _ q) (Nat.le_refl _) ⟨_,e1⟩
 refine I1.laid (a:=s.heap.objs.size+1) (o:=.ins C s.heap.objs.size []) (t':=s.toks) (fun b u q=>Heap.get?_push_of_some _ q) (Nat.le_of_eq (Heap.size_push _ _)) ?_
 have ne:s.heap.objs.size≠s.heap.objs.size+1:=Nat.ne_of_lt (Nat.lt_succ_self _)
 refine⟨by rw[ax ne,aE],Nat.zero_le _,ne,e2,fun _=>none,(Heap.Ns1.of_empty e3).at fun o q=>Heap.get?_push_of_some _ q,fun _=>True.intro,fun y hy=>absurd rfl hy⟩
theorem wL{prog:Program}{env:Env}{f:Str}(hb:attributeBase e f env (eval e env)=eval e env)
  (h:wpAny (model prog w) A (eval e env) (fun o s₁=>wpAny (model prog w) A (getAttr o f true) Q E s₁) E s):wpAny (model prog w) A (eval (.Attribute e f pos) env) Q E s :=
 Attribute_any_ h (by rw[arm_eval_Attribute,hb])
end
def MW(K:W.Frag)(ta:TE)(f:Str):TE:=fun σ H Q=>ta σ H fun x H1 => ∃a C dx fs v,x=.ref a/\H1 a=some (.ins C dx fs)/\fW K C/\qz K C f/\fs.lookup f=some v/\Q v H1
section
variable{o value:Expr}{f:Str}{tpos:Pos}{ta tv:TE}
theorem HW(he:PE X e ta)(hb:attributeBase e f X.env (eval e X.env)=eval e X.env):PE X (.Attribute e f pos) (MW X.K ta f):=by
 intro pins s σ H Q I h
 refine wL hb (aN (he pins s σ H _ I h) fun u s1 ⟨x,H1,I1,rx,a,C,dx,fs,v,ex,ea,c,n,l,q⟩=>?_)
 subst ex
 obtain rfl:u=Value.ref a:=rx
 exact x9 I1 ea c n l fun u' s2 I2 ru=>⟨v,H1,I2,ru,q⟩
end
section
variable{c:Value}{b:Bool}
inductive g8(K:W.Frag)(H:Hp):V->Value->Prop where
  | non:g8 K H .non (.type "NoneType")
  | bl (x:Bool):g8 K H (.bl x) (.type "bool")
  | int (i:Int):g8 K H (.int i) (.type "int")
  | str (x:Str):g8 K H (.str x) (.type "str")
  | flt (x:UInt64):g8 K H (.flt x) (.type "float")
  | lst {a:Addr} {xs:List V} (e:H a=some (.lst xs)):g8 K H (.ref a) (.type "list")
  | frz {a:Addr} {o:Obj} {xs:List V} (e:H a=some (.frz o (.lst xs))):g8 K H (.ref a) (.type "list")
  | tup {a:Addr} {xs:List V} (e:H a=some (.tup xs)):g8 K H (.ref a) (.type "tuple")
  | dK {a:Addr} {kvs:List (bU×V)} (e:H a=some (.dK kvs)):g8 K H (.ref a) (.type "dict")
  | dT {a:Addr} {kvs:List (List bU×V)} (e:H a=some (.dT kvs)):g8 K H (.ref a) (.type "dict")
  | ins {a C dx:Addr} {fs:List (Str×V)} (e:H a=some (.ins C dx fs)) (cl:fW K C) (ha:W.findIn K (.ref C) "__class__" = some (some (.builtin "object.__class__")))
      (hn:W.specialIn K (.builtin "object.__class__") "__get__" = some (some (.builtin "getset_descriptor.__get__"))) (htk:W.takesIn K (.builtin "object.__class__")=some true)
      (hm:W.mroIn K C (.type "object")=some true):g8 K H (.ref a) (.ref C)
theorem rM{x:V}{t:Value}(I:aj X pins σ H s)(rx:aU x u)(ty:g8 X.K H x t)(e:W.kitOne X.K t c=some b)(h:∀tk,Q (.bool b) { s with toks:=tk }) :
  wpAny (model X.prog X.w) A (call (.builtin "isinstance") [u,c]) Q E s:=by
 cases ty with
 | non=>cases (show u=Value.none from rx);exact W.kia_one W.kitx_none I.kIn True.intro e (fun z=>nomatch z) h
 | bl y=>cases (show u=Value.bool y from rx);exact W.kia_one W.kitx_bool I.kIn True.intro e (fun z=>nomatch z) h
 | int i=>obtain⟨t,q⟩:=(show ∃t,u=Value.int i t from rx);cases q;exact W.kia_one W.kitx_int I.kIn True.intro e (fun z=>nomatch z) h
 | str y=>obtain⟨t,q⟩:=(show ∃t,u=Value.str y t from rx);cases q;exact W.kia_one W.kitx_str I.kIn True.intro e (fun z=>nomatch z) h
 | flt y=>obtain⟨t,q⟩:=(show ∃t,u=Value.float y t from rx);cases q;exact W.kia_one W.kitx_float I.kIn True.intro e (fun z=>nomatch z) h
 | @lst a xs ea =>
  cases (show u=Value.ref a from rx)
  obtain⟨_,_,n,_,h1⟩:=(show bw X.prog X.w H s.heap a (.lst xs)from I.hok a _ ea)
  exact W.kia_one W.kitx_list I.kIn ⟨_,h1,rfl⟩ e (fun z=>nomatch z) h
 | @frz a ob xs ea =>
  cases (show u=Value.ref a from rx)
  obtain⟨_,_,_,n,_,h1⟩:=(show bw X.prog X.w H s.heap a (.frz ob (.lst xs))from I.hok a _ ea)
  exact W.kia_one W.kitx_list I.kIn ⟨_,h1,rfl⟩ e (fun z=>nomatch z) h
 | @tup a xs ea =>
  cases (show u=Value.ref a from rx)
  obtain⟨_,_,_,p⟩:=(show bw X.prog X.w H s.heap a (.tup xs)from I.hok a _ ea)
  obtain⟨o,h1,h2,_⟩:=p
  exact W.kia_one W.kitx_tuple I.kIn ⟨o,h1,h2⟩ e (fun z=>nomatch z) h
 | @dK a kvs ea =>
  cases (show u=Value.ref a from rx)
  obtain⟨_,_,vs,_,p⟩:=(show bw X.prog X.w H s.heap a (.dK kvs)from I.hok a _ ea)
  obtain⟨o,es,ep,h1,h2,_⟩:=p
  exact W.kia_one W.kitx_dict I.kIn ⟨o,h1,h2.1⟩ e (fun z=>nomatch z) h
 | @dT a kvs ea =>
  cases (show u=Value.ref a from rx)
  obtain⟨_,_,xs,_,o,es,ep,h1,h2,_⟩:=(show bw X.prog X.w H s.heap a (.dT kvs)from I.hok a _ ea)
  exact W.kia_one W.kitx_dict I.kIn ⟨o,h1,h2.1⟩ e (fun z=>nomatch z) h
 | @ins a C dx fs ea cl ha hn htk hm =>
  cases (show u=Value.ref a from rx)
  obtain⟨mA,O,_⟩:=qV I.hok ea
  obtain⟨od,J,_⟩:=O.look
  exact W.kia_one (W.kitx_own (cl.get _) cl.hd ha hn htk hm) I.kIn J e (fun z=>nomatch z) h
end
structure bL(k:Nat)(A:Around):Prop where
 hd:A.handled=none
 dp:A.depth+3*k+5<recursionLimit
 un:A.units+16*k+200<cLine
theorem bL.mono(r:bL k A)(h:j<=k):bL j A:=⟨r.hd,by have:=r.dp;omega,by have:=r.un;omega⟩
theorem bL.deeper(r:bL (k+1) A)(env:Env):bL k (A.deeper env) :=
 ⟨r.hd,by have:=r.dp;show A.depth+1+3*k+5<_;omega,by have:=r.un;show A.units+3+16*k+200<_;omega⟩
theorem bL.in1(r:bL (k+1) A):bL k A.in1 :=
 ⟨r.hd,by have:=r.dp;show A.depth+3*k+5<_;omega,by have:=r.un;show A.units+1+16*k+200<_;omega⟩
theorem xT:(A.under (.builtin "type.__call__" ⟨.ref C::us,kw⟩)).depth=A.depth+1:=by
 first|rfl|simp[Around.under,Code.weight,Code.isCreation,Code.isGuard,Code.isCaller,Code.frames,Code.isFrame,guardIds]
theorem xS:(A.under (.builtin "type.__call__" ⟨.ref C::us,kw⟩)).units=A.units+1:=by
 first|rfl|simp[Around.under,Code.cUnits,Code.frames,Code.isFrame]
theorem bL.make(r:bL (k+1) A)(C:Addr)(us:List Value)(kw:List (Str×Value)):bL k (A.under (.builtin "type.__call__" ⟨.ref C::us,kw⟩)) :=
 ⟨r.hd,by have:=r.dp;rw[xT];omega,by have:=r.un;rw[xS];omega⟩
theorem bL.depth(r:bL k A):A.depth<recursionLimit:=by have:=r.dp;omega
theorem bL.units(r:bL k A):A.units+64<cLine:=by have:=r.un;omega
def xu:TA:=fun _ H Q=>Q [] H
def Li(ta:TE)(tr:TA):TA:=fun σ H Q=>ta σ H fun x H1=>tr σ H1 fun xs H2=>Q (x::xs) H2
section
variable{t:TA}
theorem zB:PA X [] xu:=fun _ _ _ _ H Q I h=>Calls.spliced_nil ⟨[],H,I,.nil,h⟩
theorem qN(ha:PE X e te)(hr:PA X es t)(hs:starEach (e::es) X.env=(false,eval e X.env)::starEach es X.env:=by rfl):PA X (e::es) (Li te t):=by
 intro pos pins s σ H Q I h
 rw[hs]
 show wpAny _ _ (spliced ((false,eval e X.env)::backTo pos (starEach es X.env))) _ _ s
 refine Calls.spliced_cons (aN (ha pins s σ H _ I h) fun u s1 ⟨x,H1,I1,r1,q1⟩=>?_)
 exact aN (hr pos pins s1 σ H1 _ I1 q1) fun us s2 ⟨xs,H2,I2,r2,q2⟩=>⟨x::xs,H2,I2,.cons r1 r2,q2⟩
def MN(t:TA):TE:=fun σ H Q=>t σ H fun xs H1=>xs.length<=sizeLine/\∀p,H1 p=none->Q (.ref p) (aG H1 p (.tup xs))
def MT(t:TA):TE:=fun σ H Q=>t σ H fun xs H1=>xs.length<=sizeLine/\∀p,H1 p=none->Q (.ref p) (aG H1 p (.lst xs))
theorem HK{x1}(h:PA X es t):PE X (.Tuple es x1 pos) (MN t):=by
 intro pins s σ H Q I hq
 refine wpAny_Tuple_spliced (aN (h pos pins s σ H _ I hq) fun us s1 ⟨xs,H1,I1,r,z,q⟩=>⟨by rw[<- r.length];exact z,?_⟩)
 have hf:H1 s1.heap.objs.size=none:=I1.hok.fresh (Nat.le_refl _)
 refine⟨.ref s1.heap.objs.size,aG H1 s1.heap.objs.size (.tup xs),I1.laid (t':=s1.toks) (fun b u e=>Heap.get?_push_of_some _ e) (Nat.le_refl _) ?_,rfl,q _ hf⟩
 exact⟨z,us,r,⟨_,Heap.get?_push_size _ rfl,rfl,_,rfl⟩⟩
theorem HQ(h:PA X es t):PE X (.List es pos) (MT t):=by
 intro pins s σ H Q I hq
 refine wpAny_List_spliced (aN (h pos pins s σ H _ I hq) fun us s1 ⟨xs,H1,I1,r,z,q⟩=>⟨by rw[<- r.length];exact z,?_⟩)
 have hf:H1 s1.heap.objs.size=none:=I1.hok.fresh (Nat.le_refl _)
 refine⟨.ref s1.heap.objs.size,aG H1 s1.heap.objs.size (.lst xs),I1.laid (t':=s1.toks) (fun b u e=>Heap.get?_push_of_some _ e) (Nat.le_refl _) ?_,rfl,q _ hf⟩
 exact⟨z,us,0,r,Heap.get?_push_size _ rfl⟩
end
abbrev Sp:=List V->Hp->VK->XK->Prop
abbrev jR:=List Env->Hp->Shared->XK->Value->Shared->Prop
structure js(P:Program)(w:World)(K:W.Frag)(mg:Str->Option Value)(base:Heap)(A:Around)(outer:List Env)(s:Shared)(H:Hp):Prop where
 frames:A.frames=some outer
 mod:Mod K mg base
 bs:∀b o,base.get? b=some o->s.heap.get? b=some o/\H b=none
 bsz:base.objs.size<=s.heap.objs.size
 funs:s.heap.FunFrames base outer
 frf:∀b∈cx outer,H b=none
 hok:cz P w H s.heap
 bare:AllBare s.gens
def CE(outer:List Env)(P:Program)(w:World)(H:Hp)(s:Shared)(Q:VK)(u:Value)(s':Shared):Prop :=
 ∃v H',s'.os=s.os/\AllBare s'.gens/\Un (cx outer) [] H H' s.heap s'.heap/\cz P w H' s'.heap/\aU v u/\Q v H'
def CR(CX:jR)(outer:List Env)(P:Program)(w:World)(H:Hp)(s:Shared)(Q:VK)(E:XK)(r:Result)(s':Shared):Prop :=
 match r with
 | .ok (.ret u)=>CE outer P w H s Q u s'
 | .ok _=>False
 | .error e=>CX outer H s E e s'
structure bH(P:Program)(w:World)(K:W.Frag)(mg:Str->Option Value)(base:Heap)(CX:jR)(k:Nat)(f:Addr)(fd:FuncData)(ps:List Str)(sp:Sp):Prop where
 len:∀vs H Q E,sp vs H Q E->vs.length=ps.length
 run:∀(A:Around) (outer:List Env) (s:Shared) (H:Hp) (args:Args) (us:List Value) (vs:List V) (Q:VK) (E:XK),bL k A->js P w K mg base A outer s H->BindsTo s fd args (ps.zip us)->aK vs us->sp vs H Q E ->
  codeAny (model P w) A (.call (.ref f) args) (CR CX outer P w H s Q E) s
theorem bH.mono{CX:jR}{f:Addr}{sp:Sp}(F:bH P w K mg base CX j f fd ps sp)(h:j<=k) :
  bH P w K mg base CX k f fd ps sp:=⟨F.len,fun A outer s H args us vs Q E hr=>F.run A outer s H args us vs Q E (hr.mono h)⟩
theorem js.make(e:js P w K mg base A outer s H)(C:Addr)(us:List Value)(kw:List (Str×Value)) :
  js P w K mg base (A.under (.builtin "type.__call__" ⟨.ref C::us,kw⟩)) outer s H:=⟨by first|exact e.frames|(simpa [Around.under,Code.envs,Code.isFrame,pushEnvs]using e.frames),e.mod,e.bs,e.bsz,e.funs,e.frf,e.hok,e.bare⟩
theorem js.in1(e:js P w K mg base A outer s H) :
  js P w K mg base A.in1 outer s H:=⟨e.frames,e.mod,e.bs,e.bsz,e.funs,e.frf,e.hok,e.bare⟩
section
theorem aj.env0(I:aj X pins σ H s):js X.prog X.w X.K X.mg X.base X.A X.stack s H :=
 ⟨I.ok.frames,I.ok.mod,I.bs,Nat.le_trans I.ok.bsz I.sz,I.stack,I.stkFree,I.hok,I.bare⟩
theorem aj.after{Q:VK}(I:aj X pins σ H s)(h:CE X.stack X.prog X.w H s Q u s'):EP X pins σ Q u s':=by
 obtain⟨v,H',os,bare,un,hok,r,q⟩:=h
 obtain⟨hh,g,d,t,os'⟩:=s'
 obtain rfl:os'=s.os:=os
 exact⟨v,H',I.call (h':=hh) (g':=g) (d':=d) (t':=t) (ch:=[]) un hok bare (fun b z=>absurd z (by simp)),r,q⟩
end
def Dm(sp:Sp)(dvs:List V)(E:XK)(t:TA):TE:=fun σ H Q=>t σ H fun vs H1=>sp (vs++dvs) H1 Q E
def Dk(C:Addr)(m:Str)(sp:Sp)(dvs:List V)(E:XK)(ta:TE)(t:TA):TE:=fun σ H Q=>ta σ H fun x H1 => ∃a dx fs,x=.ref a/\H1 a=some (.ins C dx fs)/\fs.lookup m=none /\
 t σ H1 fun vs H2=>sp (x::(vs++dvs)) H2 Q E
def Dl(C:Addr)(sp:Sp)(dvs:List V)(E:XK)(t:TA):TE:=fun σ H Q=>t σ H fun vs H1 => ∀x dx,H1 x=none->H1 dx=none->dx≠x ->
 sp (.ref x::(vs++dvs)) (aG (aG H1 dx (.own x)) x (.ins C dx [])) (fun v H2=>v=.non/\Q (.ref x) H2) E
def bY(K:W.Frag)(fd:FuncData)(ps:List Str)(ds:List Value):Prop :=
 ∀(s:Shared) (us:List Value),K.In s.heap->(us++ds).length=ps.length->BindsTo s fd ⟨us,[]⟩ (ps.zip (us++ds))
theorem bY.all(h:∀us:List Value,us.length=ps.length->bindArgs fd ⟨us,[]⟩=pure (ps.zip us)):bY K fd ps []:=fun s us _ hl=>by
 rw[List.append_nil]at hl⊢
 exact .of_eq (h us hl)
def fS(CX:jR)(X:Cx)(E:XK):Prop:=∀(pins:List (Addr×Obj)) (σ:St) (H:Hp) (s:Shared) (e:Value) (s':Shared),aj X pins σ H s->CX X.stack H s E e s'->X.xe e s'
section
variable{CX:jR}{f:Addr}{sp:Sp}{dvs:List V}{ds:List Value}{E:XK}{m:Str}{apos:Pos}{o:Expr}{ta:TE}{t:TA}
theorem pp{Q:VK}(F:bH X.prog X.w X.K X.mg X.base CX k f fd ps sp)(hr:bL k X.A)(hb:bY X.K fd ps ds)(hd:aK dvs ds)(hx:fS CX X E)
  (I:aj X pins σ H s) (r:aK vs us) (h:sp (vs++dvs) H Q E):wpAny (model X.prog X.w) X.A (call (.ref f) us) (EP X pins σ Q) X.xe s:=by
 have r2:aK (vs++dvs) (us++ds):=r.append hd
 have hl:(us++ds).length=ps.length:=by rw[<- r2.length];exact F.len _ _ _ _ h
 refine wpAny_call (codeAny_mono (F.run X.A X.stack s H ⟨us,[]⟩ (us++ds) (vs++dvs) Q E hr I.env0 (hb s us I.kIn hl) r2 h) fun r s' hq=>?_)
 cases r with
 | error e=>exact hx pins σ H s e s' I hq
 | ok fl =>
  cases fl with
  | ret u=>exact I.after hq
  | next=>exact False.elim hq
  | brk=>exact False.elim hq
  | cont=>exact False.elim hq
theorem Fc(F:bH X.prog X.w X.K X.mg X.base CX k f fd ps sp)(hr:bL k X.A)(hg:Gl X x)(hm:X.mg x=some (.ref f))(hk:W.keepIn X.K (.ref f)=true)(hb:bY X.K fd ps ds)(hd:aK dvs ds)(hx:fS CX X E)
  (ha:PA X (e::es) t) (hdb:(x==("__debug__" : Str))=false:=by decide) (he:starEach (e::es) X.env=(false,eval e X.env)::starEach es X.env:=by rfl) (hpl:(backTo pos (starEach es X.env)).any (·.1)=false:=by rfl) :
  PE X (.Call (.Name x p) (e::es) [] pos) (Dm sp dvs E t):=by
 intro pins s σ H Q I h
 refine wpAny_Call_Name_kw (dG I hg hm ?_ hdb)
 refine W.callWith_K (h₀:=X.base) I.ok.mod.kin hk (aN (ha pos pins s σ H _ I h) fun us s1 ⟨vs,H1,I1,r,q⟩=>⟨I1.kIn,?_⟩) he hpl
 exact pp F hr hb hd hx I1 r q
theorem BJ(F:bH X.prog X.w X.K X.mg X.base CX k f fd ps sp)(hr:bL k X.A)(hg:Gl X x)(hm:X.mg x=some (.ref f))(hk:W.keepIn X.K (.ref f)=true)(hb:bY X.K fd ps ds)(hd:aK dvs ds)(hx:fS CX X E)
  (hdb:(x==("__debug__" : Str))=false:=by decide):PE X (.Call (.Name x p) [] [] pos) (Dm sp dvs E xu):=by
 intro pins s σ H Q I h
 refine wpAny_Call_Name_kw (dG I hg hm ?_ hdb)
 exact W.callWith_K0 I.kIn hk (pp (us:=[]) F hr hb hd hx I .nil h)
theorem E9(he:PE X o ta)(c:fW X.K C)(hm:vn X.K C m f)(F:bH X.prog X.w X.K X.mg X.base CX k f fd ps sp)(hr:bL k X.A)(hb:bY X.K fd ps ds)(hd:aK dvs ds)(hx:fS CX X E)(ha:PA X (e::es) t)
  (hst:starEach (e::es) X.env=(false,eval e X.env)::starEach es X.env:=by rfl) (hpl:(backTo pos (starEach es X.env)).any (·.1)=false:=by rfl)
  (ht:eval (.Call (.Attribute o m apos) (e::es) [] pos) X.env=(do
   let ov <- eval o X.env
   standAt apos.atName
   let (f,first) <- holding [ov] (getMethod ov m pl)
   callWith pos f first (backTo pos (starEach (e::es) X.env)) (backToKw pos (keywordEach [] X.env))):=by rfl) :
  PE X (.Call (.Attribute o m apos) (e::es) [] pos) (Dk C m sp dvs E ta t):=by
 intro pins s σ H Q I h
 refine W.methodCall_KW (pl:=pl) (aN (he pins s σ H _ I h) fun u s1 ⟨x,H1,I1,rx,a,dx,fs,ex,ea,l,q⟩=>?_) ht
 subst ex
 obtain rfl:u=Value.ref a:=rx
 refine pQ I1 ea c hm l ?_
 refine W.callWith_K (first:=[.ref a]) (h₀:=X.base) I.ok.mod.kin hm.kp (aN (ha pos pins s1 σ H1 _ I1 q) fun us s2 ⟨vs,H2,I2,r,q2⟩=>⟨I2.kIn,?_⟩) hst hpl
 exact pp (us:=.ref a::us) (vs:=.ref a::vs) F hr hb hd hx I2 (.cons rfl r) q2
theorem BF(he:PE X o ta)(c:fW X.K C)(hm:vn X.K C m f)(F:bH X.prog X.w X.K X.mg X.base CX k f fd ps sp)(hr:bL k X.A)(hb:bY X.K fd ps ds)(hd:aK dvs ds)(hx:fS CX X E)
  (ht:eval (.Call (.Attribute o m apos) [] [] pos) X.env=(do
   let ov <- eval o X.env
   standAt apos.atName
   let (f,first) <- holding [ov] (getMethod ov m pl)
   callWith pos f first (backTo pos (starEach [] X.env)) (backToKw pos (keywordEach [] X.env))):=by rfl) :
  PE X (.Call (.Attribute o m apos) [] [] pos) (Dk C m sp dvs E ta xu):=by
 intro pins s σ H Q I h
 refine W.methodCall_KW (pl:=pl) (aN (he pins s σ H _ I h) fun u s1 ⟨x,H1,I1,rx,a,dx,fs,ex,ea,l,q⟩=>?_) ht
 subst ex
 obtain rfl:u=Value.ref a:=rx
 refine pQ I1 ea c hm l ?_
 exact W.callWith_K0 (first:=[.ref a]) I1.kIn hm.kp (pp (us:=[.ref a]) (vs:=[.ref a]) F hr hb hd hx I1 (.cons rfl .nil) q)
structure Mk(K:W.Frag)(C f:Addr):Prop where
 makes:W.makesIn K C=true
 init:W.findIn K (.ref C) "__init__" = some (some (.ref f))
 fn:W.isFn K (.ref f)=true
 kp:W.keepIn K (.ref C)=true
theorem tH{Q:VK}(M:Mk X.K C f)(F:bH X.prog X.w X.K X.mg X.base CX k f fd ps sp)(hr:bL (k+1) X.A)(hb:bY X.K fd ps ds)(hd:aK dvs ds)
  (hx:fS CX X E) (I:aj X pins σ H s) (r:aK vs us)
  (h:∀x dx,H x=none->H dx=none->dx≠x->sp (.ref x::(vs++dvs)) (aG (aG H dx (.own x)) x (.ins C dx [])) (fun v H2=>v=.non/\Q (.ref x) H2) E) :
  wpAny (model X.prog X.w) X.A (call (.ref C) us) (EP X pins σ Q) X.xe s:=by
 have hq:=h (s.heap.objs.size+1) s.heap.objs.size (I.hok.fresh (Nat.le_succ _)) (I.hok.fresh (Nat.le_refl _)) (Nat.ne_of_lt (Nat.lt_succ_self _))
 have I2:=aj.made (C:=C) I
 have r2:aK (V.ref (s.heap.objs.size+1)::(vs++dvs)) (Value.ref (s.heap.objs.size+1)::(us++ds)):=.cons rfl (r.append hd)
 have hl:(Value.ref (s.heap.objs.size+1)::us++ds).length=ps.length:=by
  have e:=r2.length
  rw[F.len _ _ _ _ hq]at e
  exact e.symm
 refine wpAny_call (ua (f:=f) I.kIn M.makes M.init (beq_iff_eq.mp M.fn) (codeAny_mono (F.run _ X.stack _ _ ⟨Value.ref (s.heap.objs.size+1)::us,[]⟩ (Value.ref (s.heap.objs.size+1)::(us++ds)) _ _ E (hr.make C us [])
  (I2.env0.make C us []) (hb _ (Value.ref (s.heap.objs.size+1)::us) I2.kIn hl) r2 hq) fun r s' hq'=>?_))
 cases r with
 | error e=>exact hx pins σ _ _ e s' I2 hq'
 | ok fl =>
  cases fl with
  | ret u =>
   obtain⟨v,H',I3,rv,ev,q3⟩:=I2.after hq'
   subst ev
   exact⟨rv,⟨V.ref (s.heap.objs.size+1),H',I3,rfl,q3⟩⟩
  | next=>exact False.elim hq'
  | brk=>exact False.elim hq'
  | cont=>exact False.elim hq'
theorem Fa(M:Mk X.K C f)(F:bH X.prog X.w X.K X.mg X.base CX k f fd ps sp)(hr:bL (k+1) X.A)(hg:Gl X x)(hm:X.mg x=some (.ref C))(hb:bY X.K fd ps ds)(hd:aK dvs ds)(hx:fS CX X E)
  (ha:PA X (e::es) t) (hdb:(x==("__debug__" : Str))=false:=by decide) (he:starEach (e::es) X.env=(false,eval e X.env)::starEach es X.env:=by rfl) (hpl:(backTo pos (starEach es X.env)).any (·.1)=false:=by rfl) :
  PE X (.Call (.Name x p) (e::es) [] pos) (Dl C sp dvs E t):=by
 intro pins s σ H Q I h
 refine wpAny_Call_Name_kw (dG I hg hm ?_ hdb)
 refine W.callWith_K (h₀:=X.base) I.ok.mod.kin M.kp (aN (ha pos pins s σ H _ I h) fun us s1 ⟨vs,H1,I1,r,q⟩=>⟨I1.kIn,?_⟩) he hpl
 exact tH M F hr hb hd hx I1 r q
theorem BG(M:Mk X.K C f)(F:bH X.prog X.w X.K X.mg X.base CX k f fd ps sp)(hr:bL (k+1) X.A)(hg:Gl X x)(hm:X.mg x=some (.ref C))(hb:bY X.K fd ps ds)(hd:aK dvs ds)(hx:fS CX X E)
  (hdb:(x==("__debug__" : Str))=false:=by decide):PE X (.Call (.Name x p) [] [] pos) (Dl C sp dvs E xu):=by
 intro pins s σ H Q I h
 refine wpAny_Call_Name_kw (dG I hg hm ?_ hdb)
 exact W.callWith_K0 I.kIn M.kp (tH (us:=[]) M F hr hb hd hx I .nil h)
end
section
variable{CX:jR}{f:Addr}{ks:List Str}{sp:Sp}{E:XK}{m:Str}{apos kpos:Pos}{o:Expr}{kws:List Keyword}{ta:TE}{t tk:TA}{nm:Option Str}
variable{g:List Value->List Value->List Value}{gV:List V->List V->List V}
end
structure aM(N P:List Str)(sc:Scope):Prop where
 kind:sc.kind=.function
 co:sc.isCoroutine=false
 gen:sc.isGenerator=false
 nd:N.Nodup
 pre:N.take P.length=P
 par:∀x∈P,sc.names.lookup x=some .local\/sc.names.lookup x=some .cell
 nofree:∀y∈sc.names,y.2 ≠ .free
theorem rX{kindOf:Str->Option NameKind}{x:Str}:∀{binds:List (Str×Value)} {m:Str->Option Value},(∀v,(x,v)∉binds)->bindL kindOf binds m x=m x
 | [],_,_=>rfl
 | (n,v)::r,m,h=>by
  unfold bindL
  rw[rX fun w hw=>h w (List.mem_cons_of_mem _ hw)]
  split
  ·have:x≠n:=by rintro rfl;exact h v List.mem_cons_self
   simp[this]
  ·rfl
theorem rZ{kindOf:Str->Option NameKind}{x:Str}:∀{binds:List (Str×Value)} {m:Str->Option Value},(∀v,(x,v)∉binds)->bindC kindOf binds m x=m x
 | [],_,_=>rfl
 | (n,v)::r,m,h=>by
  unfold bindC
  rw[rZ fun w hw=>h w (List.mem_cons_of_mem _ hw)]
  split
  ·rfl
  ·have:x≠n:=by rintro rfl;exact h v List.mem_cons_self
   simp[this]
theorem rY{kindOf:Str->Option NameKind}{x:Str}{v:Value}:∀{P:List Str} {vs:List Value} {i:Nat} {m:Str->Option Value},P.Nodup->P[i]?=some x->vs[i]?=some v->kindOf x=some .local ->
  bindL kindOf (P.zip vs) m x=some v
 | [],_,_,_,_,h,_,_=>by simp at h
 | _::_,[],_,_,_,_,h,_=>by simp at h
 | p::P,w::vs,0,m,nd,h1,h2,hk=>by
  simp at h1 h2;subst h1;subst h2
  show bindL kindOf ((p,w)::P.zip vs) m p=_
  unfold bindL
  rw[rX fun v hv=>(List.nodup_cons.mp nd).1 (List.of_mem_zip hv).1,if_pos hk]
  simp
 | p::P,w::vs,i+1,m,nd,h1,h2,hk=>by
  show bindL kindOf ((p,w)::P.zip vs) m x=_
  unfold bindL
  exact rY (i:=i) (List.nodup_cons.mp nd).2 (by simpa using h1) (by simpa using h2) hk
theorem r6{kindOf:Str->Option NameKind}{x:Str}{v:Value}:∀{P:List Str} {vs:List Value} {i:Nat} {m:Str->Option Value},P.Nodup->P[i]?=some x->vs[i]?=some v->kindOf x≠some .local ->
  bindC kindOf (P.zip vs) m x=some v
 | [],_,_,_,_,h,_,_=>by simp at h
 | _::_,[],_,_,_,_,h,_=>by simp at h
 | p::P,w::vs,0,m,nd,h1,h2,hk=>by
  simp at h1 h2;subst h1;subst h2
  show bindC kindOf ((p,w)::P.zip vs) m p=_
  unfold bindC
  rw[rZ fun v hv=>(List.nodup_cons.mp nd).1 (List.of_mem_zip hv).1,if_neg hk]
  simp
 | p::P,w::vs,i+1,m,nd,h1,h2,hk=>by
  show bindC kindOf ((p,w)::P.zip vs) m x=_
  unfold bindC
  exact r6 (i:=i) (List.nodup_cons.mp nd).2 (by simpa using h1) (by simpa using h2) hk
def start(N:List Str)(vs:List V):St:=vs.map some++List.replicate (N.length-vs.length) none
def g7(CX:jR)(P:Program)(w:World)(K:W.Frag)(mg:Str->Option Value)(base:Heap)(N:List Str)(qual:Str)(scope:Scope)(f:Addr)(cd:Value)(A:Around)(outer:List Env)(s:Shared)(H:Hp)(E:XK):Cx where
 prog:=P
 w:=w
 K:=K
 mg:=mg
 base:=base
 A:=A.deeper (envOfC qual scope s.heap.objs.size f cd)
 N:=N
 s₀:=s
 H₀:=H
 env:=envOfC qual scope s.heap.objs.size f cd
 outer:=outer
 stack:=envOfC qual scope s.heap.objs.size f cd::outer
 ex:=[]
 calm:=true
 fn:=fun _=>true
 pn:=[]
 xe:=fun e s'=>wpAny (model P w) (A.deeper (envOfC qual scope s.heap.objs.size f cd)) (leaving (envOfC qual scope s.heap.objs.size f cd) e) (fun _ s''=>CX outer H s E e s'') (fun e' s''=>CX outer H s E e' s'') s'
theorem uU{sc:Scope}(h:sc.names.lookup x=some .cell):∃c,(cellsFrom n sc.names []).lookup x=some c:=by
 have q:=W.cellsFrom_some sc.names n [] (.inl h)
 exact Option.isSome_iff_exists.mp q
theorem Ag{CX:jR}{f:Addr}{cd:Value}{s1:Shared}{E:XK}
  (S:aM N ps scope) (hd:A.handled=none) (e0:js P w K mg base A outer s H) (hl:vs.length=ps.length) (r:aK vs us)
  (x:InCallC s s.heap.objs.size (bindL (envOfC qual scope s.heap.objs.size f cd).kindOf (ps.zip us) fun _=>none) (cellsFrom (s.heap.objs.size+1) scope.names []) (bindC (envOfC qual scope s.heap.objs.size f cd).kindOf (ps.zip us) fun _=>none) s1) :
  aj (g7 CX P w K mg base N qual scope f cd A outer s H E) [] (start N vs) H s1:=by
 have hpl:ps.length<=N.length:=by have:=congrArg List.length S.pre;rw[List.length_take]at this;omega
 obtain⟨h1,tk,rfl,hk⟩:=x.done
 have noA:∀b:Addr,b∉(g7 CX P w K mg base N qual scope f cd A outer s H E).ex:=fun b z=>absurd (show b∈([]:List Addr)from z) (by simp)
 refine⟨⟨e0.mod,S.kind,rfl,rfl,Nat.le_refl _,fun y z c h1 h2=>?_,fun y hy=>?_,fun y c _ h=>?_,fun _=>hd,Around.frames_deeper e0.frames,.inr ⟨rfl,rfl⟩,fun b z=>absurd z (noA b),e0.bs,e0.bsz,fun b _ _=>noA b,fun b z=>absurd z (noA b),e0.funs,e0.frf⟩,
  rfl,e0.bare,Un.kept hk,⟨_,x.toInCall.ns,fun i y v h1 h2 h3=>?_⟩,fun y c h=>⟨_,x.cell y c h⟩,e0.hok.fresh (Nat.le_refl _),fun y c h=>?_,fun p hp=>absurd (show p∈([]:List (Addr×Obj))from hp) (by simp),e0.hok.kept hk,?_⟩
 ·exact name_of_addr x.apart (PySem.mem_of_lookup h1) (PySem.mem_of_lookup h2)
 ·have hy:scope.names.lookup y=some .cell\/scope.names.lookup y=some .free:=hy
  rcases hy with hy|hy
  ·exact uU hy
  ·exact absurd rfl (S.nofree _ (PySem.mem_of_lookup hy))
 ·exact Nat.le_of_lt (x.above y c (PySem.mem_of_lookup h))
 ·have hi:i<vs.length:=by
   unfold start at h2
   by_cases hi:i<vs.length
   ·exact hi
   ·rw[List.getElem?_append_right (by simpa using hi)]at h2
    rw[List.getElem?_replicate]at h2
    split at h2<;>cases h2
  have ha:vs[i]?=some v:=by
   unfold start at h2
   rw[List.getElem?_append_left (by simpa using hi),List.getElem?_map]at h2
   cases e:vs[i]? with
   | none=>rw[e]at h2;cases h2
   | some a=>rw[e]at h2;cases h2;rfl
  obtain⟨u,hu,rv⟩:=r.get ha
  have hp:ps[i]?=some y:=by
   rw[<- S.pre,List.getElem?_take_of_lt (by omega)];exact h1
  have ndP:ps.Nodup:=by rw[<- S.pre];exact S.nd.sublist (List.take_sublist _ _)
  refine⟨u,rv,?_⟩
  rcases S.par y (List.mem_of_getElem? hp)with k|k
  ·exact .inl ⟨k,rY ndP hp hu k⟩
  ·obtain⟨c,e⟩:=uU (n:=s.heap.objs.size+1) k
   refine .inr ⟨.inl k,c,e,?_⟩
   have q:=x.cell y c e
   rw[r6 ndP hp hu (by show scope.names.lookup y≠_;rw[k];decide)]at q
   exact q
 ·exact e0.hok.fresh (Nat.le_of_lt (x.above y c (PySem.mem_of_lookup h)))
 ·unfold start
  show _=N.length
  rw[List.length_append,List.length_map,List.length_replicate]
  omega
theorem DU{CX:jR}{f:Addr}{name:Str}{params:Arguments}{dV kV doc pm cdv ct oc:Value}{an od:Option Addr}
  {osl:Array (Option Value)} {sp:Sp} (lk:K.lookup f=some ⟨oc,od,.func (W.fnOf name qual params body scope dV kV doc pm an cdv ct),osl⟩) (hcd:W.codeIn K cdv qual=true) (S:aM N ps scope)
  (len:∀vs H Q E,sp vs H Q E->vs.length=ps.length)
  (hbody:∀(A:Around) (outer:List Env) (s:Shared) (H:Hp) (vs:List V) (Q:VK) (E:XK),bL k (A.deeper (envOfC qual scope s.heap.objs.size f cdv))->sp vs H Q E ->
   ∃t,eQ (g7 CX P w K mg base N qual scope f cdv A outer s H E) body t/\t { nx:=fun _ H'=>Q .non H',rt:=Q } (start N vs) H) :
  bH P w K mg base CX (k+1) f (W.fnOf name qual params body scope dV kV doc pm an cdv ct) ps sp:=by
 refine⟨len,fun A outer s H args us vs Q E hr e0 hb r hsp=>?_⟩
 have hl:=len _ _ _ _ hsp
 have KX:K.In s.heap:=e0.mod.kin.keeps fun b o e=>(e0.bs b o e).1
 have lim:s.heap.NoLimit:=e0.mod.nolimit.keeps fun b o e=>(e0.bs b o e).1
 have hkind:∀y∈ps.zip us,scope.names.lookup y.1=some .local\/(scope.names.lookup y.1=some .cell/\((cellsFrom (s.heap.objs.size+1) scope.names []).lookup y.1).isSome=true):=fun⟨n,v⟩ hy=>by
  rcases S.par n (List.of_mem_zip hy).1 with q|q
  ·exact .inl q
  ·exact .inr ⟨q,W.cellsFrom_some _ _ _ (.inl q)⟩
 refine codeAny_call_function hr.depth (KX _ _ lk) rfl S.co S.gen rfl (W.codeRec_of KX hcd) (hb _ _ _ _ ?_)
 refine wpAny_newFunctionEnv_cells S.kind hkind fun env he s1 x=>?_
 subst he
 refine⟨lim.keeps x.toInCall.keep,codeAny_func ?_⟩
 obtain⟨t,ht,hq⟩:=hbody A outer s H vs Q E (hr.deeper _) hsp
 have I:aj (g7 CX P w K mg base N qual scope f cdv A outer s H E) [] (start N vs) H s1:=Ag S hr.hd e0 hl r x
 refine wpAny_mono (ht [] s1 (start N vs) H _ I hq) (fun fl s' hs=>?_) fun e s' hs=>hs
 have fin:∀{σ':St} {H':Hp} {v:V} {u:Value},aj (g7 CX P w K mg base N qual scope f cdv A outer s H E) [] σ' H' s'->aU v u->Q v H'->CE outer P w H s Q u s' :=
  fun {σ' H' v u} J rv q=>⟨v,H',J.os,J.bare,J.base,J.hok,rv,q⟩
 cases fl with
 | ret u =>
  obtain⟨v,σ',H',J,rv,q⟩:=hs
  exact fin J rv q
 | next =>
  obtain⟨σ',H',J,q⟩:=hs
  exact fin (v:=V.non) (u:=Value.none) J rfl q
 | brk =>
  obtain⟨_,_,_,q⟩:=hs
  exact False.elim q
 | cont =>
  obtain⟨_,_,_,q⟩:=hs
  exact False.elim q
section
variable{t:TA}{id T:String}{r:List V->Hp->VK->Prop}
def Mz(r:List V->Hp->VK->Prop)(t:TA):TE:=fun σ H Q=>t σ H fun vs H1=>r vs H1 Q
theorem BI(hc:d7 X (.builtin id) r)(hg:Gl X x)(hm:X.mg x=none)(hv:bootBuiltins x=some (.builtin id))(ha:PA X (e::es) t)(hn:x ≠ "__name__" := by decide)(hdb:(x==("__debug__" : Str))=false:=by decide)
  (he:starEach (e::es) X.env=(false,eval e X.env)::starEach es X.env:=by rfl) (hpl:(backTo pos (starEach es X.env)).any (·.1)=false:=by rfl):PE X (.Call (.Name x p) (e::es) [] pos) (Mz r t):=by
 intro pins s σ H Q I h
 refine wpAny_Call_Name_kw (dA I hg hm hv ?_ hn hdb)
 exact PyProof.Rows.callWith_builtin1 (aN (ha pos pins s σ H _ I h) fun us s1 ⟨vs,H1,I1,r1,q1⟩=>hc pins s1 σ H1 vs us Q I1 r1 q1) he hpl
theorem zy(hc:d7 X (.type T) r)(hg:Gl X x)(hm:X.mg x=none)(hv:bootBuiltins x=some (.type T))(ha:PA X (e::es) t)(hn:x ≠ "__name__" := by decide)(hdb:(x==("__debug__" : Str))=false:=by decide)
  (he:starEach (e::es) X.env=(false,eval e X.env)::starEach es X.env:=by rfl) (hpl:(backTo pos (starEach es X.env)).any (·.1)=false:=by rfl):PE X (.Call (.Name x p) (e::es) [] pos) (Mz r t):=by
 intro pins s σ H Q I h
 refine wpAny_Call_Name_kw (dA I hg hm hv ?_ hn hdb)
 exact PyProof.Rows.callWith_type1 (aN (ha pos pins s σ H _ I h) fun us s1 ⟨vs,H1,I1,r1,q1⟩=>hc pins s1 σ H1 vs us Q I1 r1 q1) he hpl
end
end L2
namespace HT
open PySem PyProof.Rows
def lexLt:List Int->List Int->Bool
 | [],[]=>false
 | [],_::_=>true
 | _::_,[]=>false
 | x::xs,y::ys=>if x=y then lexLt xs ys else decide (x<y)
section
open PySem.SeqAt
open PySem.AutoSeq1 (wpAny_loadPart')
open PySem.MeetsSeq PySem.MeetsSeq2 PySem.MeetsSeq3
end
section
variable{prog:Program}{w:World}{A:Around}{E:Value->Shared->Prop}{s:Shared}
theorem cat_tup{t b:Addr}{vs ws:List Value}{Q:Value->Shared->Prop}(ht:IsTup s.heap t vs.toArray)(hb:IsTup s.heap b ws.toArray)(hv:vs≠[])
  (h1:ws=[]->Q (.ref t) s) (h2:ws≠[]->Q (.ref s.heap.objs.size) { s with heap:=s.heap.push { cls:=.type "tuple", data:=.seq (vs++ws).toArray } })
  (hsz:vs.length+ws.length<=sizeLine):wpAny (model prog w) A (binaryOp .Add (.ref t) (.ref b)) Q E s:=by
 obtain⟨⟨cls,dd,data,sl⟩,ho,hc,n,hd⟩:=id ht
 obtain⟨⟨cls2,dd2,data2,sl2⟩,ho2,hc2,n2,hd2⟩:=id hb
 simp only at hc hd hc2 hd2
 subst hc hd hc2 hd2
 have e:vs.toArray++ws.toArray=(vs++ws).toArray:=by simp
 by_cases hw:ws=[]
 ·exact concat_meets ⟨_,ho,rfl⟩ ⟨_,ho2,rfl⟩ noFill_tuple_add seq_tuple_add PySem.F.slot_tuple_add PySem.F.entry_tuple_add (PySem.F.args_tuple_add_2 _ _)
   (tuple_addW1 t b vs.toArray ws.toArray n n2 dd dd2 sl sl2 (by simpa using hv) (by simp[hw])) ⟨ho,ho2,h1 hw⟩
 ·refine concat_meets ⟨_,ho,rfl⟩ ⟨_,ho2,rfl⟩ noFill_tuple_add seq_tuple_add PySem.F.slot_tuple_add PySem.F.entry_tuple_add (PySem.F.args_tuple_add_2 _ _)
   (tuple_addW2 t b vs.toArray ws.toArray n n2 dd dd2 sl sl2 (by simpa using hv) (by simpa using hw) (by rw[List.size_toArray,List.size_toArray];exact hsz)) ⟨ho,ho2,?_⟩
  rw[e]
  exact h2 hw
def sIx(n d:Nat):Option Int->Nat
 | none=>d
 | some v=>if v<0 then(v+(n:Int)).toNat else min v.toNat n
end
end HT
namespace L2
open PySem PySem.Spec PyProof.Rows
variable{xs:List V}{its its' us:List Value}{j n:Nat}{i:Int}{α:Type}{pins:List (Addr×Obj)}{σ:St}{H:Hp}{s:Shared}{p:Addr}
abbrev TO:=St->Hp->(Option Int->Hp->Prop)->Prop
def PO(X:Cx)(e:Option Expr)(t:TO):Prop :=
 ∀(pins:List (Addr×Obj)) (s:Shared) (σ:St) (H:Hp) (Q:Option Int->Hp->Prop),aj X pins σ H s->t σ H Q ->
  wpAny (model X.prog X.w) X.A (evalPart e X.env) (fun u s' => ∃o H',aj X pins σ H' s'/\IsPart u o/\Q o H') X.xe s
def Ep:TO:=fun _ H Q=>Q none H
def Le(t:TE):TO:=fun σ H Q=>t σ H fun x H1 => ∃i,x=.int i/\Q (some i) H1
section
variable{X:Cx}{e:Expr}{te:TE}{lo hi:Option Expr}{tl th:TO}{pos p2:Pos}
theorem EY:PO X none Ep:=by
 intro pins s σ H Q I h
 rw[evalPart_none]
 exact wpAny_pure ⟨none,H,I,.none,h⟩
theorem EW(h:PE X e te):PO X (some e) (Le te):=by
 intro pins s σ H Q I hw
 rw[evalPart_some]
 refine aN (h pins s σ H _ I hw) fun u s1 ⟨x,H1,I1,r1,q1⟩=>?_
 obtain⟨i,rfl,q⟩:=q1
 obtain⟨t,rfl⟩:=r1
 exact⟨some i,H1,I1,.int i t,q⟩
def MC(X:Cx)(r:V->Option Int->Option Int->Hp->VK->Prop):Prop :=
 ∀(pins:List (Addr×Obj)) (s:Shared) (σ:St) (H:Hp) (x:V) (v vl vu:Value) (lo hi:Option Int) (sl:Addr) (Q:VK),aj X pins σ H s->aU x v->s.heap.IsSliceOf sl vl vu .none->IsPart vl lo->IsPart vu hi->r x lo hi H Q ->
  ∃T id,typeLookup (.type T) "__getitem__" = pure (some (.builtin id))/\s.TypeIs v T/\wpAny (model X.prog X.w) X.A (getItem v (.ref sl)) (EP X pins σ Q) X.xe s
def SM(r:V->Option Int->Option Int->Hp->VK->Prop)(te:TE)(tl th:TO):TE:=fun σ H Q=>te σ H fun x H1=>tl σ H1 fun l H2=>th σ H2 fun u H3=>r x l u H3 Q
theorem BE{r:V->Option Int->Option Int->Hp->VK->Prop}(hr:MC X r)(he:PE X e te)(hl:PO X lo tl)(hu:PO X hi th):PE X (.Subscript e (.Slice lo hi none p2) pos) (SM r te tl th):=by
 intro pins s σ H Q I h
 refine Subscript_ (aN (he pins s σ H _ I h) fun v s1 ⟨x,H1,I1,r1,q1⟩=>?_)
 refine wpAny_Slice (aN (hl pins s1 σ H1 _ I1 q1) fun vl s2 ⟨l,H2,I2,pl,q2⟩=>aN (hu pins s2 σ H2 _ I2 q2) fun vu s3 ⟨u,H3,I3,pu,q3⟩=>?_)
 rw[evalPart_none]
 refine wpAny_pure ?_
 have I4:aj X pins σ H3 { s3 with heap:=s3.heap.push { cls:=.type "slice", data:=.fields #[vl,vu,.none] } }:=I3.kept (t':=s3.toks) fun b ob q=>Heap.get?_push_of_some _ q
 obtain⟨T,id,hT,ht,hg⟩:=hr pins { s3 with heap:=s3.heap.push { cls:=.type "slice", data:=.fields #[vl,vu,.none] } } σ H3 x v vl vu l u s3.heap.objs.size Q I4 r1 (Heap.IsSliceOf.new ..) pl pu q3
 show wpAny (model X.prog X.w) X.A (subscriptTail e (.Slice lo hi none p2) v (.ref s3.heap.objs.size)) (EP X pins σ Q) X.xe { s3 with heap:=s3.heap.push { cls:=.type "slice", data:=.fields #[vl,vu,.none] } }
 exact tail_any (ops:=[.ref s3.heap.objs.size,v]) ht hT hg (by with_unfolding_all rfl)
def oJ(xs:List V)(lo hi:Option Int):List V:=(xs.drop (HT.sIx xs.length 0 lo)).take (HT.sIx xs.length xs.length hi-HT.sIx xs.length 0 lo)
theorem vD(xs:List V)(lo hi:Option Int):(oJ xs lo hi).length<=xs.length:=by
 unfold oJ
 rw[List.length_take,List.length_drop]
 omega
def rLtT(K:W.Frag):R2:=fun x y H Q => ∃a b ns ms,x=.ref a/\y=.ref b/\cu K H a (ns.map V.int)/\cu K H b (ms.map V.int)/\Q (.bl (HT.lexLt ns ms)) H
def LA(K:W.Frag):R2:=fun x y H Q => ∃a b xs ys,x=.ref a/\y=.ref b/\cu K H a xs/\cu K H b ys/\xs≠[]/\xs.length+ys.length<=sizeLine /\
 (ys=[]->Q (.ref a) H)/\(ys≠[]->∀p,H p=none->Q (.ref p) (aG H p (.tup (xs++ys))))
theorem aK.nil_iff(r:aK xs us):us=[]↔xs=[]:=by
 cases r with
 | nil=>simp
 | cons _ _=>simp
theorem Fj:cQ X (binaryOp .Add) (LA X.K):=by
 intro pins s σ H x y v u Q I rx ry h
 obtain⟨a,b,xs,ys,rfl,rfl,ha,hb,hx,hz,q1,q2⟩:=h
 cases rx
 cases ry
 obtain⟨its,r1,p1,_⟩:=I.tuple ha
 obtain⟨its2,r2,p2,_⟩:=I.tuple hb
 refine HT.cat_tup p1 p2 (fun z=>hx (r1.nil_iff.mp z)) (fun z=>⟨.ref a,H,I,rfl,q1 (r2.nil_iff.mp z)⟩) (fun z=>?_) (by rw[<- r1.length,<- r2.length];exact hz)
 refine⟨.ref s.heap.objs.size,_,I.laid (t':=s.toks) (o:=.tup (xs++ys)) (fun b ob q=>Heap.get?_push_of_some _ q) (Nat.le_refl _) ?_,rfl,q2 (fun w=>z (r2.nil_iff.mpr w)) _ (I.hok.fresh (Nat.le_refl _))⟩
 exact⟨by rw[List.length_append];exact hz,_,r1.append r2,IsTup.new _ _⟩
end
def ja(n:Nat)(i:Int):Option Nat:=if 0<=i then(if i<n then some i.toNat else none)else if -(n:Int)<=i then some (i+n).toNat else none
def atI{α:Type}(xs:List α)(i:Int):Option α:=(ja xs.length i).bind fun j=>xs[j]?
theorem wx(h:ja n i=some j):seqIndex? i n=some j/\j<n /\ -(n:Int)<=i/\i<n:=by
 unfold ja at h
 by_cases h0:0<=i
 ·rw[if_pos h0]at h
  by_cases h1:i<n
  ·rw[if_pos h1]at h
   have e:i.toNat=j:=Option.some.inj h
   exact⟨by rw[seqIndex_of h0 h1,e],by omega,by omega,h1⟩
  ·rw[if_neg h1]at h;cases h
 ·rw[if_neg h0]at h
  by_cases h1:-(n:Int)<=i
  ·rw[if_pos h1]at h
   have e:(i+n).toNat=j:=Option.some.inj h
   exact⟨by rw[seqIndex_neg (by omega) h1,e],by omega,h1,by omega⟩
  ·rw[if_neg h1]at h;cases h
theorem wN{xs:List α}{v:α}(h:atI xs i=some v):∃j,seqIndex? i xs.length=some j/\xs[j]?=some v/\j<xs.length /\ -(xs.length:Int)<=i/\i<xs.length:=by
 unfold atI at h
 cases e:ja xs.length i with
 | none=>rw[e]at h;cases h
 | some j =>
  rw[e]at h
  obtain⟨h1,h2,h3,h4⟩:=wx e
  exact⟨j,h1,h,h2,h3,h4⟩
theorem wM{xs:List α}{v:α}(h:xs[j]?=some v):atI xs (j:Int)=some v:=by
 have hj:j<xs.length:=(List.getElem?_eq_some_iff.mp h).1
 have e:ja xs.length (j:Int)=some j:=by
  unfold ja
  rw[if_pos (by omega),if_pos (by omega)];simp
 unfold atI;rw[e];exact h
def fJ(b:Expr):Prop:=∀o i,subscripted b false o i=operate [o,i] (getItem o i)
def Ed(X:Cx)(r:R2):Prop :=
 ∀(value slice:Expr) (pins:List (Addr×Obj)) (s:Shared) (σ:St) (H:Hp) (x y:V) (v u:Value) (Q:VK),aj X pins σ H s->aU x v->aU y u->r x y H Q ->
  subscripted slice false v u=operate [v,u] (getItem v u)->wpAny (model X.prog X.w) X.A (subscriptTail value slice v u) (EP X pins σ Q) X.xe s
def Kz(X:Cx)(id:String)(r:V->List V->Hp->VK->Prop):Prop :=
 ∀(pins:List (Addr×Obj)) (s:Shared) (σ:St) (H:Hp) (x:V) (xs:List V) (v:Value) (us:List Value) (Q:VK),aj X pins σ H s->aU x v->aK xs us->r x xs H Q ->
  wpAny (model X.prog X.w) X.A (call (.builtin id) (v::us)) (EP X pins σ Q) X.xe s
section
variable{X:Cx}{a b:Expr}{ta tb:TE}{pos:Pos}
theorem pA{r:R2}(hr:Ed X r)(ha:PE X a ta)(hb:PE X b tb)(hs:fJ b):PE X (.Subscript a b pos) (Mx r ta tb):=by
 intro pins s σ H Q I h
 exact Subscript_ (Kh ha hb I h fun v u s2 x y H2 I2 rx ry q=>hr a b pins s2 σ H2 x y v u Q I2 rx ry q (hs _ _))
def N6(K:W.Frag):R2:=fun x y H Q => ∃p xs i v,x=.ref p/\y=.int i/\cf K H p xs/\atI xs i=some v/\Q v H
def N5(K:W.Frag):R2:=fun x y H Q => ∃p xs i v,x=.ref p/\y=.int i/\cu K H p xs/\atI xs i=some v/\Q v H
theorem ww:Ed X (N6 X.K):=by
 intro value slice pins s σ H x y v u Q I rx ry h hs
 obtain⟨p,xs,i,z,rfl,rfl,hq,he,q⟩:=h
 cases rx
 obtain⟨t,rfl⟩:=ry
 obtain⟨its,r,pl,hz⟩:=I.list hq
 obtain⟨j,h1,h2,h3,h4,h5⟩:=wN he
 obtain⟨w,ew,rw'⟩:=r.get h2
 have hl:=r.length
 have hn:=lM
 have fin:EP X pins σ Q w s:=⟨z,H,I,rw',q⟩
 by_cases h0:0<=i
 ·have hj:i.toNat=j:=by
   rw[seqIndex_of h0 h5]at h1
   exact Option.some.inj h1
  exact item_listR pl.isList h0 (by omega) (by rw[hj];simpa using ew) fin hs
 ·have hj:(i+(its.toArray.size:Int)).toNat=j:=by
   rw[seqIndex_neg (by omega) h4]at h1
   rw[List.size_toArray,<- hl]
   exact Option.some.inj h1
  exact subscriptTail_builtinR (x:=w) pl.isList.typeIs slot_list_getitem.lookup
   (wpAny_getItem_list_neg (Q:=fun r s'=>r=w/\EP X pins σ Q r s') pl.isList (by omega) (by rw[List.size_toArray]<;>omega) (by omega) (by rw[hj];simpa using ew) ⟨rfl,fin⟩) hs
theorem Ad:Ed X (N5 X.K):=by
 intro value slice pins s σ H x y v u Q I rx ry h hs
 obtain⟨p,xs,i,z,rfl,rfl,hq,he,q⟩:=h
 cases rx
 obtain⟨t,rfl⟩:=ry
 obtain⟨its,r,pl,hz⟩:=I.tuple hq
 obtain⟨j,h1,h2,h3,h4,h5⟩:=wN he
 obtain⟨w,ew,rw'⟩:=r.get h2
 have hl:=r.length
 have hn:=lM
 have fin:EP X pins σ Q w s:=⟨z,H,I,rw',q⟩
 exact subscriptTail_builtinR (x:=w) pl.typeIs slot_tuple_getitem.lookup
  (getItem_tuple (j:=j) (Q:=fun r s'=>r=w/\EP X pins σ Q r s') pl (by omega) (by omega) (by rw[List.size_toArray,<- hl];exact h1) (by simpa using ew) ⟨rfl,fin⟩) hs
theorem xR(its:List Value)(n j:Nat)(u:Value):Obj.mapSeq (·.setIfInBounds j u) { cls:=.type "list", data:=.seq its.toArray n } = { cls:=.type "list", data:=.seq (its.set j u).toArray n }:=by
 simp[Obj.mapSeq]
theorem aj.lst(I:aj X pins σ H s)(h:H p=some (.lst xs)) :
  ∃(its:List Value) (n:Nat),aK xs its/\s.heap.get? p=some { cls:=.type "list", data:=.seq its.toArray n }/\xs.length<=sizeLine:=by
 obtain⟨z,its,n,r,e⟩:=I.hok p _ h
 exact⟨its,n,r,e,z⟩
theorem aj.lstUpd{ys:List V}{n':Nat}{f:Obj->Obj}(I:aj X pins σ H s)(h:H p=some (.lst xs))
  (ho:s.heap.get? p=some { cls:=.type "list", data:=.seq its.toArray n }) (hf:f { cls:=.type "list", data:=.seq its.toArray n } = { cls:=.type "list", data:=.seq its'.toArray n' }) (r:aK ys its') (hz:ys.length<=sizeLine) (t:Nat) :
  aj X pins σ (aG H p (.lst ys)) { s with heap:=s.heap.update p f,toks:=t }:=by
 have e:(s.heap.update p f).get? p=some { cls:=.type "list", data:=.seq its'.toArray n' }:=by
  rw[Heap.get?_update_self f ho (by rw[hf]<;>rfl),hf]
 refine I.write (x:=p) (e:=p) (by rw[h];trivial) (.inl rfl) (fun b u hb q=>(Heap.get?_update_other _ _ (Ne.symm hb)).trans q) ⟨_,e⟩ ?_
 exact⟨hz,its',n',r,e⟩
def Ly:V->V->V->Hp->(Hp->Prop)->Prop:=fun o i v H Q => ∃p xs k j,o=.ref p/\i=.int k/\H p=some (.lst xs)/\ja xs.length k=some j/\Q (aG H p (.lst (xs.set j v)))
theorem tE:C2 X Ly:=by
 intro pins s σ H o i v ov iv u Q I ro ri rv h
 obtain⟨p,xs,k,j,rfl,rfl,hp,hj,q⟩:=h
 cases ro
 obtain⟨t,rfl⟩:=ri
 obtain⟨its,n,r,ho,hz⟩:=I.lst hp
 obtain⟨h1,h2,h3,h4⟩:=wx hj
 have hl:=r.length
 have hn:=lM
 have I':aj X pins σ (aG H p (.lst (xs.set j v))) { s with heap:=s.heap.update p (Obj.mapSeq (·.setIfInBounds j u)) } :=
  I.lstUpd hp ho (xR its n j u) (r.set rv j) (by rw[List.length_set];exact hz) s.toks
 by_cases h0:0<=k
 ·have hk:k.toNat=j:=by
   rw[seqIndex_of h0 h4]at h1
   exact Option.some.inj h1
  exact W.ki_setAt ho h0 (by omega) (by rw[List.size_toArray,<- hl];exact h4) (by rw[hk];exact⟨_,I',q⟩)
 ·have hk:(k+(its.toArray.size:Int)).toNat=j:=by
   rw[seqIndex_neg (by omega) h3]at h1
   rw[List.size_toArray,<- hl]
   exact Option.some.inj h1
  exact W.ki_setBack ho (by omega) (by rw[List.size_toArray,<- hl];exact h3) (by omega) (by rw[hk];exact⟨_,I',q⟩)
theorem tz(lo hi:Option Int)(n:Nat):(sliceBounds lo hi none n).1=((HT.sIx n 0 lo:Nat):Int)/\(sliceBounds lo hi none n).2.1=((HT.sIx n n hi:Nat):Int)/\(sliceBounds lo hi none n).2.2=1:=by
 refine⟨?_,?_,rfl⟩
 ·cases lo with
  | none=>simp[sliceBounds,HT.sIx]
  | some i =>
   simp only[sliceBounds,HT.sIx,Option.getD_none,show(1:Int)>0 by decide,if_true]
   by_cases h:i<0
   ·simp only[h,if_true]<;>omega
   ·simp only[h,if_false]<;>omega
 ·cases hi with
  | none=>simp[sliceBounds,HT.sIx]
  | some i =>
   simp only[sliceBounds,HT.sIx,Option.getD_none,show(1:Int)>0 by decide,if_true]
   by_cases h:i<0
   ·simp only[h,if_true]<;>omega
   ·simp only[h,if_false]<;>omega
theorem si(its:List Value)(lo hi:Option Int):slicePick its.toArray lo hi none=((its.drop (HT.sIx its.length 0 lo)).take (HT.sIx its.length its.length hi-HT.sIx its.length 0 lo)).toArray:=by
 obtain⟨h1,h2,h3⟩:=tz lo hi its.toArray.size
 unfold slicePick
 rw[h1,h2,h3]
 simp only[sliceRange_one,pick_run,List.size_toArray]<;>rfl
def N3(K:W.Frag):V->Option Int->Option Int->Hp->VK->Prop:=fun x lo hi H Q => ∃a xs,x=.ref a/\cf K H a xs/\∀p,H p=none->Q (.ref p) (aG H p (.lst (oJ xs lo hi)))
theorem Ew:MC X (N3 X.K):=by
 intro pins s σ H x v vl vu lo hi sl Q I rx hs pl pu h
 obtain⟨a,xs,rfl,hx,q⟩:=h
 cases rx
 obtain⟨its,r,ht,hz⟩:=I.list hx
 have hlen:=r.length
 refine⟨"list", _,slot_list_getitem.lookup,ht.isList.typeIs,?_⟩
 refine wpAny_getItem_list_slice ht.isList hs pl pu .none (by simp) ?_ (by rw[List.size_toArray]<;>omega)
 rw[si,<- hlen]
 refine⟨.ref s.heap.objs.size,_,I.laid (t':=s.toks) (o:=.lst (oJ xs lo hi)) (fun b ob q=>Heap.get?_push_of_some _ q) (Nat.le_refl _) ?_,rfl,q _ (I.hok.fresh (Nat.le_refl _))⟩
 exact⟨Nat.le_trans (vD xs lo hi) hz,_,0,(r.drop (HT.sIx xs.length 0 lo)).take (HT.sIx xs.length xs.length hi-HT.sIx xs.length 0 lo),Heap.get?_push_size _ rfl⟩
theorem mq:d7 X (.builtin "len") (fun xs H Q => ∃p ys,xs=[.ref p]/\(cf X.K H p ys\/cu X.K H p ys)/\Q (.int ys.length) H):=by
 intro pins s σ H xs us Q I r h
 obtain⟨p,ys,rfl,hq,q⟩:=h
 obtain⟨u,rfl,rx⟩:=dP r
 cases rx
 have hn:=lM
 rcases hq with hq|hq
 ·obtain⟨its,r',pl,hz⟩:=I.list hq
  have hlen:=r'.length
  exact Calls.call_len_list pl.isList (by simp only[List.size_toArray]<;>omega) ⟨.int ys.length,H,I.tok _,⟨s.toks+1,by rw[List.size_toArray,hlen]⟩,q⟩
 ·obtain⟨its,r',pl,hz⟩:=I.tuple hq
  have hlen:=r'.length
  exact len_tuple pl (by simp only[List.size_toArray]<;>omega) ⟨.int ys.length,H,I.tok _,⟨s.toks+1,by rw[List.size_toArray,hlen]⟩,q⟩
theorem ml:d7 X (.type "list") (fun xs H Q => ∃p ys,xs=[.ref p]/\(cf X.K H p ys\/cu X.K H p ys)/\∀l,H l=none->Q (.ref l) (aG H l (.lst ys))):=by
  intro pins s σ H xs us Q I r h
  obtain⟨p,ys,rfl,hq,q⟩:=h
  obtain⟨u,rfl,rx⟩:=dP r
  cases rx
  have fin:∀(its:List Value),aK ys its->ys.length<=sizeLine->∀(h':Heap) (c':Nat),(∀b o',s.heap.get? b=some o'->h'.get? b=some o') ->
      h'.get? s.heap.objs.size=some { cls:=.type "list", dict:=none,data:=.seq its.toArray c',slots:=#[] }->EP X pins σ Q (.ref s.heap.objs.size) { s with heap:=h' }:=fun its r' hz h' c' kp e =>
    ⟨.ref s.heap.objs.size,_,I.laid (t':=s.toks) kp (Nat.le_refl _) (show bw X.prog X.w _ h' _ (.lst ys)from⟨hz,its,c',r',e⟩),rfl,q _ (I.hok.fresh (Nat.le_refl _))⟩
  rcases hq with hq|hq
  . obtain⟨its,r',pl,hz⟩:=I.list hq
    have hlen:=r'.length
    obtain⟨o,ho,hc,n,hd⟩:=pl.isList
    exact call_list_seq p (.inl rfl) ho hc hd (fun h' c' kp e=>fin its r' hz h' c' kp e) (by simp only[List.size_toArray]<;>omega)
  . obtain⟨its,r',pl,hz⟩:=I.tuple hq
    have hlen:=r'.length
    obtain⟨o,ho,hc,n,hd⟩:=pl
    exact call_list_seq p (.inr rfl) ho hc hd (fun h' c' kp e=>fin its r' hz h' c' kp e) (by simp only[List.size_toArray]<;>omega)
theorem kN:d7 X (.type "tuple") (fun xs H Q => ∃p ys,xs=[.ref p]/\((cf X.K H p ys/\∀l,H l=none->Q (.ref l) (aG H l (.tup ys)))\/(cu X.K H p ys/\Q (.ref p) H))):=by
 intro pins s σ H xs us Q I r h
 obtain⟨p,ys,rfl,h⟩:=h
 obtain⟨u,rfl,rx⟩:=dP r
 cases rx
 rcases h with⟨hq,q⟩|⟨hq,q⟩
 ·obtain⟨its,r',pl,hz⟩:=I.list hq
  have hlen:=r'.length
  refine call_tuple_list pl.isList (fun h' kp=>?_) (by simp only[List.size_toArray]<;>omega)
  have I1:aj X pins σ H { s with heap:=h' }:=I.kept (t':=s.toks) kp
  have I2:aj X pins σ (aG H h'.objs.size (.tup ys)) { s with heap:=h'.push { cls:=.type "tuple", data:=.seq its.toArray } } :=
   I1.laid (t':=s.toks) (fun b o e=>Heap.get?_push_of_some _ e) (Nat.le_refl _) (show bw X.prog X.w _ _ _ (.tup ys)from⟨hz,its,r',IsTup.new _ _⟩)
  exact⟨.ref h'.objs.size,_,I2,rfl,q _ (I1.hok.fresh (Nat.le_refl _))⟩
 ·obtain⟨its,r',pl,hz⟩:=I.tuple hq
  exact call_tuple_same pl ⟨.ref p,H,I,rfl,q⟩
def GN(K:W.Frag)(T:String)(x:V)(H:Hp):Prop:=match x with
  | .str _=>T = "str"
  | .int _=>T = "int"
  | .ref p=>(T = "list" /\ ∃xs,cf K H p xs)\/(T = "tuple" /\ ∃o,K.lookup p=some o/\o.cls=.type "tuple" /\ o.dict=none) \/
      (T = "dict" /\ ((∃kvs,H p=some (.dK kvs))\/∃kvs,H p=some (.dT kvs)))\/(T = "set" /\ ∃S n,H p=some (.set S n))
  | _=>False
theorem yY{T:String}{x:V}{v:Value}(I:aj X pins σ H s)(r:aU x v)(ty:GN X.K T x H) :
  s.TypeIs v T/\∀a,v=.ref a->∃ob,s.heap.get? a=some ob/\ob.dict=none:=by
 cases x with
 | str z =>
  obtain⟨t,rfl⟩:=r
  cases (show T = "str" from ty)
  exact⟨typeIs_str s z t,fun _ e=>nomatch e⟩
 | int i =>
  obtain⟨t,rfl⟩:=r
  cases (show T = "int" from ty)
  exact⟨typeIs_int s i t,fun _ e=>nomatch e⟩
 | ref p =>
  cases r
  rcases ty with⟨rfl,xs,hq⟩|⟨rfl,o,hk,hc,hd⟩|⟨rfl,hk⟩|⟨rfl,S,n,hk⟩
  ·obtain⟨its,_,pl,_⟩:=I.list hq
   refine⟨pl.isList.typeIs,fun a e=>?_⟩
   cases e
   obtain⟨o,n,e,c,hd,_⟩:=pl
   exact⟨o,e,hd⟩
  ·refine⟨⟨o,I.kIn p o hk,hc⟩,fun a e=>?_⟩
   cases e
   exact⟨o,I.kIn _ o hk,hd⟩
  ·have z:∃o,s.heap.get? p=some o/\o.ExactDict:=by
    rcases hk with⟨kvs,hk⟩|⟨kvs,hk⟩
    ·obtain⟨_,_,_,_,o,_,_,e,ex,_⟩:=I.hok p _ hk
     exact⟨o,e,ex⟩
    ·obtain⟨_,_,_,_,o,_,_,e,ex,_⟩:=I.hok p _ hk
     exact⟨o,e,ex⟩
   obtain⟨o,e,ex⟩:=z
   refine⟨⟨o,e,ex.1⟩,fun a e2=>?_⟩
   cases e2
   exact⟨o,e,ex.2.1⟩
  ·obtain⟨o,_,_,_,e,ex,_⟩:=I.hok p _ hk
   refine⟨⟨o,e,ex.1⟩,fun a e2=>?_⟩
   cases e2
   exact⟨o,e,ex.2.1⟩
 | _=>exact False.elim ty
def MX(K:W.Frag)(T:String)(r:V->List V->Hp->VK->Prop)(to:TE):TE:=fun σ H Q=>to σ H fun x H1=>GN K T x H1/\r x [] H1 Q
def SQ(K:W.Frag)(T:String)(r:V->List V->Hp->VK->Prop)(to:TE)(t:TA):TE:=fun σ H Q=>to σ H fun x H1=>GN K T x H1/\t σ H1 fun xs H2=>r x xs H2 Q
variable{o e:Expr}{es:List Expr}{to:TE}{t:TA}{name:Str}{apos cpos:Pos}{T id:String}{r:V->List V->Hp->VK->Prop}
theorem HX(pa:PlainAttrs T)(slot:Slot T name id)(hty:typeOf (.builtin id)=pure (.type "method_descriptor"))(hm:Kz X id r)(ho:PE X o to)
  (hbase:attributeBase o name X.env (eval o X.env)=eval o X.env:=by rfl) (hline:(apos.endLine==cpos.line)=true:=by rfl):PE X (.Call (.Attribute o name apos) [] [] cpos) (MX X.K T r to):=by
 intro pins s σ H Q I h
 refine wpAny_Call_method0_late hbase hline (aN (ho pins s σ H _ I h) fun v s1 ⟨x,H1,I1,r1,ty,q1⟩=>?_)
 obtain⟨h1,h2⟩:=yY I1 r1 ty
 exact⟨T,id,pa,slot,hty,h1,h2,Calls.callWith_builtin rfl (PySem.evalArgs_none (hm pins s1 σ H1 x [] v [] Q I1 r1 .nil q1))⟩
theorem DC(pa:PlainAttrs T)(slot:Slot T name id)(hty:typeOf (.builtin id)=pure (.type "method_descriptor"))(hm:Kz X id r)(ho:PE X o to)(ha:PA X (e::es) t)
  (hbase:attributeBase o name X.env (eval o X.env)=eval o X.env:=by rfl)
  (hfew:((backTo cpos (starEach (e::es) X.env)).all (fun x => !x.1)&&(backToKw cpos (keywordEach [] X.env)).all (fun x=>x.1.isSome)
   && decide ((e::es).length+([]:List Keyword).length+(if ([]:List Keyword).isEmpty then 0 else 1)<30))=true:=by rfl)
  (hline:(apos.endLine==cpos.line)=true:=by rfl) (hs:starEach (e::es) X.env=(false,eval e X.env)::starEach es X.env:=by rfl) (hplain:(backTo cpos (starEach es X.env)).any (·.1)=false:=by rfl) :
  PE X (.Call (.Attribute o name apos) (e::es) [] cpos) (SQ X.K T r to t):=by
 intro pins s σ H Q I h
 refine wpAny_Call_method_late hbase hfew hline rfl (aN (ho pins s σ H _ I h) fun v s1 ⟨x,H1,I1,r1,ty,q1⟩=>?_)
 obtain⟨h1,h2⟩:=yY I1 r1 ty
 refine⟨T,id,pa,slot,hty,h1,h2,?_⟩
 have hA:=ha cpos pins s1 σ H1 _ I1 q1
 rw[hs]at hA⊢
 refine Calls.callWith_builtin (by show(false || (backTo cpos (starEach es X.env)).any (·.1))=false;rw[hplain]<;>rfl) (Calls.evalArgs_plain ?_)
 exact aN hA fun us s2 ⟨vs,H2,I2,r2,q2⟩=>hm pins s2 σ H2 x vs v us Q I2 r1 r2 q2
/- xs.append(e),list.index on a module's tuple .. are Kz facts of 06m -/
end
def KA(X:Cx)(id:String)(r:V->List V->Hp->VK->Prop):Prop :=
 ∀(pins:List (Addr×Obj)) (s:Shared) (σ:St) (H:Hp) (x:V) (xs:List V) (v:Value) (us:List Value) (Q:VK),aj X pins σ H s->aU x v->aK xs us->r x xs H Q ->
  wpAny (model X.prog X.w) X.A (call (.builtin id) (v::us)) (EP X pins σ Q) X.xe s
theorem aK.one:∀{x:V} {us:List Value},aK [x] us->∃u,us=[u]/\aU x u
 | _,_,.cons r .nil=>⟨_,rfl,r⟩
theorem aK.zero:∀{us:List Value},aK [] us->us=[]
 | _,.nil=>rfl
theorem aK.reverse(h:aK xs us):aK xs.reverse us.reverse:=by
 induction h with
 | nil=>exact .nil
 | cons r t ih=>rw[List.reverse_cons,List.reverse_cons];exact aK.append ih (.cons r .nil)
section
variable{X:Cx}{l b:Addr}{ys zs:List V}
theorem aj.lset{f:Array Value->Array Value}{t':Nat}(I:aj X pins σ H s)(hH:H l=some (.lst xs))
  (e:s.heap.get? l=some { cls:=.type "list", data:=.seq its.toArray n }) (hf:f its.toArray=its'.toArray) (hv:aK ys its') (hz:ys.length<=sizeLine) :
  aj X pins σ (aG H l (.lst ys)) { s with heap:=s.heap.update l (Obj.mapSeq f),toks:=t' }:=by
 have q:=PySem.IsL.update e f
 rw[hf]at q
 refine I.write (x:=l) (e:=l) (by rw[hH];exact trivial) (.inl rfl) (fun b' u hb hu=>(Heap.get?_update_other s.heap (Obj.mapSeq f) (Ne.symm hb)).trans hu) ⟨_,q⟩ ?_
 exact⟨hz,its',_,hv,q⟩
theorem aj.lnew{t':Nat}(I:aj X pins σ H s)(hv:aK ys its)(hz:ys.length<=sizeLine) :
  aj X pins σ (aG H s.heap.objs.size (.lst ys)) { s with heap:=s.heap.push { cls:=.type "list", data:=.seq its.toArray },toks:=t' } :=
 I.laid (fun _ _ q=>Heap.get?_push_of_some _ q) (Nat.le_refl _) ⟨hz,its,0,hv,Heap.get?_push_size _ rfl⟩
theorem aj.fresh(I:aj X pins σ H s):H s.heap.objs.size=none:=I.hok.fresh (Nat.le_refl _)
theorem aj.lstM(I:aj X pins σ H s)(hH:H l=some (.lst xs)):xs.length<=sizeLine/\∃(its:List Value) (n:Nat),aK xs its/\xs.length=its.length/\s.heap.get? l=some { cls:=.type "list", data:=.seq its.toArray n }:=by
 obtain⟨z,its,n,r,e⟩:=I.hok l _ hH
 exact⟨z,its,n,r,r.length,e⟩
end
section
variable{X:Cx}
def EN:V->List V->Hp->VK->Prop:=fun x vs H Q => ∃l xs y,x=.ref l/\vs=[y]/\H l=some (.lst xs)/\xs.length<sizeLine/\Q .non (aG H l (.lst (xs++[y])))
theorem rJ:KA X "list.append" EN:=by
 intro pins s σ H x vs v us Q I rx rv h
 obtain⟨l,xs,y,rfl,rfl,hH,hz,q⟩:=h
 cases rx
 obtain⟨u,rfl,ru⟩:=rv.one
 obtain⟨z,its,n,r,hl,e⟩:=I.lstM hH
 refine call_meets F.slot_list_append ⟨_,e,rfl⟩ F.entry_list_append (F.args_list_append_2 _ _) (PySem.list_append l its.toArray n u (by rw[List.size_toArray];omega)) ⟨e,?_⟩
 refine⟨.non,_,I.lset (its':=its++[u]) hH e (by simp) (r.append (.cons ru .nil)) ?_,rfl,q⟩
 rw[List.length_append,List.length_singleton]
 omega
end
section
variable{prog:Program}{w:World}{A:Around}{E:Value->Shared->Prop}
set_option maxRecDepth 100000 in
end
section
variable{X:Cx}
end
end L2
namespace Att
open PySem PySem.W PySem.Calls PyProof.Rows
variable{P:Params}{h:Heap}{l:OpenLaw}{n:Nat}
theorem pM:∀(ns:List Int) (vs:List Value),WellAll P h vs (ns.map WData.int)->IntsAre vs ns:=by
 intro ns
 induction ns with
 | nil =>
  intro vs w
  rw[List.map_nil]at w
  cases w
  exact .nil
 | cons n ns ih =>
  intro vs w
  rw[List.map_cons]at w
  cases w with
  | cons a b =>
   cases a
   exact .cons _ _ (ih _ b)
theorem zi(hn:l.most=some n){args:List WData}{vals:List Value}
  (hpre:l.row.toRowW.claim.pre args=true) (hwl:WellAll P h vals args) :
  ∃a vs ns,vals=[Value.ref a]/\args=[WData.list (ns.map WData.int)]/\h.get? a=some { cls:=.type "list", data:=.seq vs.toArray }/\IntsAre vs ns/\ns.length<=n:=by
 have hsh:WShape.hasAll [] args [.list .int]=true:=(pre_splitW hpre).1
 have hc:l.pre.holds [] { args:=args }=true:=(pre_splitW hpre).2
 obtain⟨d,r,rfl,h1,h2⟩:=hasAllW_cons hsh
 obtain rfl:=hasAllW_nil h2
 obtain⟨xs,rfl,h3⟩:=hasW_list h1
 obtain⟨ns,rfl⟩:=items_int h3
 have hlen:ns.length<=n:=by
  unfold OpenLaw.pre at hc
  have h4:(WTm.not (.lt (.lit (.int (n:Int))) (.len (.arg 0)))).holds [] { args:=[.list (ns.map .int)] }=true:=by
   have h4:=(holds_andW hc).1
   rw[hn]at h4
   exact h4
  have h5:=condW_of h4 (w_not (w_lt w_lit (w_len_list (w_arg rfl))))
  rw[List.length_map]at h5
  refine Nat.le_of_not_lt fun q=>?_
  have q':(n:Int)<((ns.length:Nat):Int):=by omega
  first
   | (rw[decide_eq_true q']at h5;exact absurd h5 (by decide))
   | (simp at h5;omega)
 cases hwl with
 | cons w1 w2 =>
  cases w2
  cases w1 with
  | list ho hall=>exact⟨_,_,ns,rfl,rfl,ho,pM ns _ hall,hlen⟩
theorem zu(l:OpenLaw)(args:List WData):l.row.toRowW.claim.post args (.bool true) args=true :=
 postW_of (r:=l.row.toRowW) (X:=(true==true))
  (show WShape.has [] (.bool true) .bool=true by first|rfl|decide|simp[WShape.has,WShape.arms,WShape.armsAll])
  (show(WTm.eq .res (.lit (.bool true))).value [] { args:=args,res:=some (.bool true),after:=args }=some (.bool (true==true))from w_eq_bool (w_res rfl) w_lit) rfl
theorem attach_call{q:Program}{loose:List Str}{XP:(Str->Option Value)->Heap->Prop}{YP:World->Heap->Prop}{d:DefRec}
  (hn:l.most=some n) (hdf:d.params.defaults=[])
  (call:∀(w:World) (s₀ s₁:Shared) (mg mb:Str->Option Value) (fa:Addr) (o:Obj) (pm cd doc:Value) (a:Addr) (vs:List Value) (ns:List Int),
   Ground q loose [] XP w s₀ mg mb s₁.heap->YP w s₁.heap ->
   s₁.heap.get? fa=some o->o.data=.func (docDef d.name d.params d.body d.scope pm cd doc)->s₁.heap.CodeRec cd d.name->mg d.name=some (.ref fa) ->
   s₁.heap.get? a=some { cls:=.type "list", data:=.seq vs.toArray }->IntsAre vs ns->ns.length<=n->s₁.gens = #[] ->
   codeAny (model l.prog w) callerA (.call (.ref fa) ⟨[.ref a],[]⟩) (fun r s'=>r=.ok (.ret (.bool true))/\OldK s₁.heap s'.heap/\s'.os=s₁.os/\AllBare s'.gens) s₁) :
  WalkO q loose XP YP l.row.toRowW d [] (fun f vs=>PySem.call f vs):=by
 intro w s₀ s₁ mg mb G Y fa o pm cd doc dV kV ho hd hcd hD hmg hg args vals as hpre hlay hrd hwl hlo
 obtain rfl:dV=.none:=Dflts.none hD hdf
 obtain rfl:kV=.none:=Dflts.noKw hD
 obtain⟨a,vs,ns,rfl,rfl,hobj,hints,hlen⟩:=zi hn hpre hwl
 refine enter_call (codeAny_mono (call w s₀ s₁ mg mb fa o pm cd doc a vs ns G Y ho (fd_plain hd) hcd hmg hobj hints hlen hg) fun r s' hq=>?_)
 obtain⟨rfl,h2,h3,h4⟩:=hq
 exact⟨.inl ⟨.bool true,.bool true,[],rfl,fun _=>rfl,.bool true,zu l _,fun _=>⟨List.Pairwise.nil,fun _ hm=>(nomatch hm)⟩⟩,h2,h3,h4⟩
section
variable{prog:Program}{w:World}{A:Around}{E:Value->Shared->Prop}{s:Shared}{K:Frag}
end
end Att
namespace L2
open PySem PySem.Spec PyProof.Rows
variable{k:Nat}
theorem rE:∀{vs:List Value} {ns:List Int},IntsAre vs ns->aK (ns.map V.int) vs
 | _,_,.nil=>.nil
 | _,_,.cons n t h=>.cons ⟨t,rfl⟩ (rE h)
def yD(H:Hp):Prop:=∀b,H b=none\/∃o xs,H b=some (.frz o (.lst xs))
theorem B4{P:Program}{w:World}{K:W.Frag}{mg mb:Str->Option Value}{CX:jR}{fa a:Addr}{fd:FuncData}{x:Str}{sp:Sp}{s₁:Shared}{vs:List Value}{ns:List Int}
    (KX:K.In s₁.heap) (hns:s₁.heap.Ns mainGlobals mg) (hb:s₁.heap.Ns builtinsNs mb) (hbb:∀x:Str,x ≠ "__name__" -> mb x=bootBuiltins x) (hlim:s₁.heap.NoLimit) (hg:s₁.gens = #[])
    (ha:s₁.heap.get? a=some { cls:=.type "list", data:=.seq vs.toArray }) (hi:IntsAre vs ns) (hl:ns.length<=sizeLine) (hr:bL k callerA)
    (F:∀base:Heap,K.In base->base.Ns mainGlobals mg->bH P w K mg base CX k fa fd [x] sp) (hbind:∀(s:Shared) (u:Value),BindsTo s fd ⟨[u],[]⟩ [(x,u)])
    (hsp:∀H:Hp,yD H->cf K H a (ns.map V.int)->sp [.ref a] H (fun v _=>v=.bl true) fun _ _ _=>False)
    (hCX:∀H e s',CX [] H s₁ (fun _ _ _=>False) e s'->False) :
    codeAny (model P w) callerA (.call (.ref fa) ⟨[.ref a],[]⟩) (fun r s'=>r=.ok (.ret (.bool true))/\OldK s₁.heap s'.heap/\s'.os=s₁.os/\AllBare s'.gens) s₁:=by
  have rv:=rE hi
  have lenV:=hi.length
  have core:∀H:Hp,yD H->cf K H a (ns.map V.int)->cz P w H s₁.heap->(∀b,H b≠none->b=a)->(H a≠none->K.lookup a=none) ->
      codeAny (model P w) callerA (.call (.ref fa) ⟨[.ref a],[]⟩) (fun r s'=>r=.ok (.ret (.bool true))/\OldK s₁.heap s'.heap/\s'.os=s₁.os/\AllBare s'.gens) s₁:=by
    intro H hO hS hok hA hK
    have gp:∀{b:Addr} {o:Obj},s₁.heap.get? b=some o->H b=none->(ke s₁.heap H).get? b=some o:=fun e n=>Cf e n
    have noA:∀{b:Addr} {o:Obj} {es:Array DictEntry} {ep:Nat},s₁.heap.get? b=some o->o.data=.dict es ep->H b=none:=fun {b o es ep} e d=>by
      cases q:H b with
      | none=>rfl
      | some u =>
        have e':b=a:=hA b (by rw[q];simp)
        subst e'
        rw[ha]at e;cases e
        have d':Data.seq vs.toArray _=Data.dict es ep:=d
        cases d'
    have nsK:∀{b:Addr} {m:Str->Option Value},s₁.heap.Ns b m->(ke s₁.heap H).Ns b m:=fun {b m} ⟨o,es,ep,e,d,r⟩=>⟨o,es,ep,gp e (noA e d),d,r⟩
    have hKb:K.In (ke s₁.heap H):=fun b o e=>gp (KX b o e) (by
      cases q:H b with
      | none=>rfl
      | some u =>
        have e':b=a:=hA b (by rw[q];simp)
        subst e'
        rw[hK (by rw[q];simp)]at e;cases e)
    have hM:Mod K mg (ke s₁.heap H):=⟨hKb,nsK hns,⟨mb,nsK hb,hbb⟩,let ⟨mc,h1,h2⟩:=hlim;⟨mc,nsK h1,h2⟩⟩
    have e0:js P w K mg (ke s₁.heap H) callerA [] s₁ H:=⟨rfl,hM,fun b o e=>Fk e,Nat.le_of_eq (Aj _ _),trivial,fun b hb=>absurd (show b∈([]:List Addr)from hb) (by simp),hok,.of_eq hg⟩
    refine codeAny_mono ((F _ hKb (nsK hns)).run callerA [] s₁ H ⟨[.ref a],[]⟩ [.ref a] [.ref a] _ _ hr e0 (hbind s₁ (.ref a)) (.cons rfl .nil) (hsp H hO hS)) fun r s' h=>?_
    cases r with
    | error e=>exact(hCX H e s' h).elim
    | ok fl =>
      cases fl with
      | next=>exact False.elim h
      | brk=>exact False.elim h
      | cont=>exact False.elim h
      | ret u =>
        obtain⟨v,H',os,bare,un,hok',r',q⟩:=h
        have q':v=.bl true:=q
        subst q'
        obtain rfl:u=Value.bool true:=r'
        refine⟨rfl,OldK.of_keep fun b o e=>?_,os,bare⟩
        cases q:H b with
        | none=>exact un.keep b o e q (by intro z;exact absurd (show b∈([]:List Addr)from z) (by simp)) (by simp)
        | some u =>
          rcases hO b with z|⟨ob,xs,z⟩
          . rw[q]at z;cases z
          . have z2:=un.frzs b ob _ z
            obtain⟨e1,_⟩:=hok b _ z
            obtain⟨e2,_⟩:=hok' b _ z2
            rw[e]at e1;cases e1
            exact e2
  cases hk:K.lookup a with
  | some o =>
    have e:=KX a o hk
    rw[ha]at e
    cases e
    refine core (fun _=>none) (fun _=>.inl rfl) (.inr ⟨_,vs.toArray,_,hk,rfl,rfl,rfl,by rw[List.size_toArray,lenV];exact hl,by simpa using rv⟩) (fun b u z=>by have z':(none:Option HO)=some u:=z;cases z') (fun b z=>absurd rfl z) fun z=>absurd rfl z
  | none =>
    refine core (fun b=>if b=a then some (.frz { cls:=.type "list", data:=.seq vs.toArray } (.lst (ns.map V.int)))else none) (fun b=>?_) (.inl (.inr ⟨{ cls:=.type "list", data:=.seq vs.toArray },if_pos rfl⟩)) (fun b u z=>?_) (fun b z=>?_) fun _=>hk
    . by_cases hb:b=a
      . exact .inr ⟨_,_,if_pos hb⟩
      . exact .inl (if_neg hb)
    . by_cases hb:b=a
      . have z':=(if_pos hb).symm.trans z
        cases z'
        subst hb
        exact⟨ha,by rw[List.length_map];exact hl,vs,_,rv,ha⟩
      . have z':=(if_neg hb).symm.trans z
        cases z'
    . by_cases hb:b=a
      . exact hb
      . exact absurd (if_neg hb) z
abbrev KOf{K:W.Frag}{h:Heap}(_:K.In h):W.Frag:=K
theorem walk_of{l:W.OpenLaw}{n:Nat}{q:Program}{loose:List Str}{XP:(Str->Option Value)->Heap->Prop}{YP:World->Heap->Prop}{d:DefRec}{K:Params->W.Frag}{CX:World->jR}{sp:World->Sp}{x:Str}
  (hn:l.most=some n) (hn2:n<=sizeLine) (hdf:d.params.defaults=[]) (hr:bL k callerA)
  (hY:∀(w:World) (h:Heap),YP w h->(K w.params).In h)
  (F:∀(w:World) (mg:Str->Option Value) (fa:Addr) (h:Heap),(K w.params).In h->h.Ns mainGlobals mg->mg d.name=some (.ref fa) ->
   ∃fd:FuncData,(∀(s:Shared) (u:Value),BindsTo s fd ⟨[u],[]⟩ [(x,u)]) /\
    ∀base:Heap,(K w.params).In base->base.Ns mainGlobals mg->bH l.prog w (K w.params) mg base (CX w) k fa fd [x] (sp w))
  (hsp:∀(w:World) (H:Hp) (a:Addr) (ns:List Int),ns.length<=n->yD H->cf (K w.params) H a (ns.map V.int)->sp w [.ref a] H (fun v _=>v=.bl true) fun _ _ _=>False)
  (hCX:∀(w:World) (H:Hp) (s:Shared) (e:Value) (s':Shared),CX w [] H s (fun _ _ _=>False) e s'->False) :
  W.WalkO q loose XP YP l.row.toRowW d [] (fun f vs=>PySem.call f vs):=by
 refine Att.attach_call hn hdf fun w s₀ s₁ mg mb fa o pm cd doc a vs ns G Y ho hd hcd hmg hobj hints hlen hg=>?_
 have KX:=hY w _ Y
 obtain⟨fd,hb,hF⟩:=F w mg fa _ KX G.T.g hmg
 exact B4 KX G.T.g G.T.b G.T.builtins G.T.nolimit hg hobj hints (Nat.le_trans hlen hn2) hr hF hb (fun H hO hS=>hsp w H a ns hlen hO hS) fun H e s'=>hCX w H s₁ e s'
end L2
/- THE LAST THEOREM (shape;LID,My.* are yours):
   My.Adr: a structure of the addresses that your layer names (classes,functions);My.Txt K t: a structure (Prop) of the equations over K;
   My.txt_mk:{K} {implicit addresses ..} (e1:nsIn K mainGlobals "law" = some (some (.ref f))) (e2:K.lookup f=some ⟨oc,od,.func (fnOf "law" "law" params body scope dV kV doc pm an cdv ct),sl⟩) (e3:codeIn K cdv "law" = true) ..:∃t,My.Txt K t
set_option maxRecDepth 100000 in
set_option maxHeartbeats 0 in
theorem PySem.Challenge.cw_LID_holds : PySem.Challenge.rw_LID.Holds := by
 w_on;o_law;k_head;(case hw=>w_witness2)
 k_fill
 refine L2.walk_of (l:=PySem.Challenge.rw_LID) (n:=63) (k:=40) (x := "script") (CX:=fun w=>..) (sp:=fun _=>My.sp_law) rfl (by decide) rfl ⟨rfl,by decide,by decide⟩ (fun w h Y=>PySem.W.kIn_of Y) ?F ?S ?C
 case F =>
  intro w mg fa h KX G hmg
  have T:∃t,My.Txt (L2.KOf KX) t:=by
   dsimp only[L2.KOf]                          -- K must stand as «<heap const> w.params» for k_is
   refine' My.txt_mk ?e1 ?e2 ?e3 ..
   (case e1=>PySem.W.k_is)                    -- in the order: a name->its address->its object->its parts
   (case e2=>PySem.W.k_is)
   ..
  obtain⟨t,T⟩:=T
  have e0:=hmg.symm.trans (PySem.W.mg_of KX G T.law)
  cases e0                                       -- fa is the law's own address
  exact⟨_,fun s u=>.of_eq rfl,fun base kb nb=>My.law_fn T kb nb⟩     -- if «.of_eq rfl» comes too early: refine' ⟨_,?b,fun base kb nb=>My.law_fn T kb nb⟩;exact fun s u=>.of_eq rfl
 case S=>exact fun w H a ns hl hO hS=>..
 case C=>exact ..
(the tactic k_is has no namespace: write k_is) -/
namespace L2
open PySem PySem.Spec PyProof.Rows
variable{qual x:Str}{st:Stmt}{f:Addr}{fd:FuncData}{ps:List Str}{H H':Hp}
def aR(s:Stmt):Arguments:=match s with
 | .FunctionDef _ a _ _ _ _ _ _ _ _=>a
 | _ => { posonlyargs:=[],args:=[],vararg:=none,kwonlyargs:=[],kw_defaults:=[],kwarg:=none,defaults:=[] }
def ak(s:Stmt):List Stmt:=match s with
 | .FunctionDef _ _ b _ _ _ _ _ _ _=>b
 | _=>[]
def aa(s:Stmt):Scope:=match s with
 | .FunctionDef _ _ _ _ _ _ sc _ _ _=>sc
 | _ => { kind:=.function,names:=[],isGenerator:=false,isCoroutine:=false }
abbrev dF:jR:=fun _ _ _ _ _ _=>False
abbrev E0:XK:=fun _ _ _=>False
theorem jY{X:Cx}:fS dF X E0:=fun _ _ _ _ _ _ _ h=>h.elim
structure jQ(K:W.Frag)(x qual:Str)(st:Stmt)(f:Addr)(fd:FuncData):Prop where
 ex:∃(oc:Value) (od:Option Addr) (kV doc pm:Value) (an:Option Addr) (cdv ct:Value) (osl:Array (Option Value)),
  fd=W.fnOf x qual (aR st) (ak st) (aa st) .none kV doc pm an cdv ct/\K.lookup f=some ⟨oc,od,.func fd,osl⟩/\W.codeIn K cdv qual=true
 kp:W.keepIn K (.ref f)=true
section
variable{P:Program}{w:World}{K:W.Frag}{mg:Str->Option Value}{base:Heap}
theorem jQ.ok{N:List Str}{k:Nat}{sp:Sp}(F:jQ K x qual st f fd)(S:aM N ps (aa st))(len:∀vs H Q E,sp vs H Q E->vs.length=ps.length)
  (hbody:∀(cdv:Value) (A:Around) (outer:List Env) (s:Shared) (H:Hp) (vs:List V) (Q:VK) (E:XK),bL k (A.deeper (envOfC qual (aa st) s.heap.objs.size f cdv))->sp vs H Q E ->
   ∃t,eQ (g7 dF P w K mg base N qual (aa st) f cdv A outer s H E).nox (ak st) t/\t { nx:=fun _ H'=>Q .non H',rt:=Q } (start N vs) H):bH P w K mg base dF (k+1) f fd ps sp:=by
 obtain⟨oc,od,kV,doc,pm,an,cdv,ct,osl,rfl,lk,hcd⟩:=F.ex
 refine DU lk hcd S len fun A outer s H vs Q E hr hsp=>?_
 obtain⟨t,h,q⟩:=hbody cdv A outer s H vs Q E hr hsp
 exact⟨t,h.nox,q⟩
theorem jQ.binds(F:jQ K x qual st f fd)
  (h:∀(kV doc pm:Value) (an:Option Addr) (cdv ct:Value) (us:List Value),us.length=ps.length->bindArgs (W.fnOf x qual (aR st) (ak st) (aa st) .none kV doc pm an cdv ct) ⟨us,[]⟩=pure (ps.zip us)):bY K fd ps []:=by
 obtain⟨oc,od,kV,doc,pm,an,cdv,ct,osl,rfl,lk,hcd⟩:=F.ex
 exact .all (h kV doc pm an cdv ct)
theorem bg{oc:Value}{od an:Option Addr}{osl:Array (Option Value)}{kV doc pm cdv ct:Value}(l:K.lookup f=some ⟨oc,od,.func (W.fnOf x qual (aR st) (ak st) (aa st) .none kV doc pm an cdv ct),osl⟩)
  (c:W.codeIn K cdv qual=true) (k:W.keepIn K (.ref f)=true):jQ K x qual st f (W.fnOf x qual (aR st) (ak st) (aa st) .none kV doc pm an cdv ct):=⟨⟨oc,od,kV,doc,pm,an,cdv,ct,osl,rfl,l,c⟩,k⟩
end
section
variable{X:Cx}
end
def ay(H H':Hp):Prop:=∀b o,H b=some o->H' b=some o
theorem ay.refl(H:Hp):ay H H:=fun _ _ h=>h
theorem ay.trans{H1 H2:Hp}(a:ay H H1)(b:ay H1 H2):ay H H2:=fun c o h=>b c o (a c o h)
theorem ay.free(e:ay H H'){l:Addr}(h:H' l=Option.none):H l=Option.none:=by
 cases q:H l with
 | none=>rfl
 | some o =>
  rw[e l o q]at h
  cases h
theorem ay.seq{K:W.Frag}{a:Addr}{xs:List V}(e:ay H H')(h:cf K H a xs):cf K H' a xs:=by
 rcases h with(h|⟨o,h⟩)|h
 ·exact .inl (.inl (e _ _ h))
 ·exact .inl (.inr ⟨o,e _ _ h⟩)
 ·exact .inr h
end L2
set_option maxHeartbeats 4000000
namespace L2
open PySem PySem.Spec PyProof.Rows
variable{hid:List Addr}{H:Hp}{base h h1 h2:Heap}{P prog:Program}{w:World}{M:Model}{A:Around}{E R:Value->Shared->Prop}{s s':Shared}{C L N S T e fI t0 x:Addr}{oI oe ox:Obj}{vs:Array Value}{Q:Unit->Shared->Prop}{env:Env}{dd od:Option Addr}{a0 v:Value}{K:W.Frag}{g:Array GenState}{d:Drawn}{os:OsState}{n name q:Str}{bm bmB bs sub:List Value}{ab hdct:Bool}{sn:List Str}{col:Option Bool}{k0 k1 k2 k3 k5:Option Value}{B initId newId:String}{pos:Pos}{t:Nat}{mN:Str->Option Value}{cd:ClassData}
theorem sS{fs:List Addr}{H':Hp}(u:Un fs [] H H' h h1)(hh:∀b o,h.get? b=some o->b∈hid->b∈fs)(k:∀b o,h1.get? b=some o->b∉hid->h2.get? b=some o)
  (kf:∀b∈fs,∀o,h1.get? b=some o->∃sl,h2.get? b=some { o with slots:=sl }):Un fs [] H H' h h2:=by
 refine⟨fun b o e n hb hx=>?_,fun b o e n hb hx=>?_,u.free,fun b o e hx=>?_,u.tups,u.frzs,u.tbls⟩
 ·exact k b o (u.keep b o e n hb hx) fun z=>hb (hh b o e z)
 ·obtain⟨sl,e1⟩:=u.slot b o e n hb hx
  obtain⟨sl',e2⟩:=kf b hb _ e1
  exact⟨sl',e2⟩
 ·obtain⟨o',e1⟩:=u.there b o e hx
  by_cases z:b∈hid
  ·obtain⟨sl,e2⟩:=kf b (hh b o e z) _ e1
   exact⟨_,e2⟩
  ·exact⟨o',k b o' e1 z⟩
theorem qX{hid:List Addr}(hk:cz P w H h1)(hn:∀b∈hid,H b=none)(k:∀b o,h1.get? b=some o->b∉hid->h2.get? b=some o):cz P w H h2:=fun a o e=>by
 have ne:∀b u,H b=some u->b∉hid:=fun b u e z=>by rw[hn b z]at e;cases e
 refine(hk a o e).stay (fun c v hc q=>k c v q ?_) (fun _ q=>q) fun _ _ q=>q
 rcases hc with z|z
 ·rw[z];exact ne a o e
 ·exact ne c _ z
theorem wA{h base:Heap}:∀{l:List Env},h.FunFrames base l->∀b∈cx l,∃o,h.get? b=some o/\∀vs,o.data ≠ .fields vs
 | [],_,b,hb=>by cases hb
 | env::l,hf,b,hb=>by
  obtain⟨h1,⟨L,o,e1,e2,e3,e4⟩,h2⟩:=hf
  unfold cx at hb;rw[List.filterMap_cons,e1]at hb
  rcases List.mem_cons.mp hb with rfl|hb
  ·exact⟨o,e3,e4⟩
  ·exact wA h2 b hb
def Ku(x C T:Addr)(od:Option Addr)(h:Heap):Prop:=∃oe vs oT ts a0,h.get? x=some oe/\oe.cls=.ref C/\oe.dict=od/\oe.data=.fields vs/\vs[0]?=some a0/\vs[1]?=some (.ref T)/\T≠x/\h.get? T=some oT/\oT.data=.fields ts/\ts[3]?=some .none
def fV(P:Program)(w:World):jR:=fun outer H s E e s' => ∃x C T od H',e=.ref x/\s.heap.get? x=none/\s.heap.get? T=none/\Ku x C T od s'.heap/\s'.os=s.os/\AllBare s'.gens /\
 Un (cx outer) [] H H' s.heap s'.heap/\cz P w H' s'.heap/\H' x=none/\H' T=none/\E (.ref C) od H'
theorem zI{a:Addr}:∀{o:HO},bw P w H h a o->∃u,h.get? a=some u
 | .lst xs,x=>let ⟨_,_,_,_,e⟩:=x;⟨_,e⟩
 | .tup xs,x=>let ⟨_,_,_,o,e,_⟩:=x;⟨o,e⟩
 | .dK kvs,x=>let ⟨_,_,_,_,o,_,_,e,_⟩:=x;⟨_,e⟩
 | .dT kvs,x=>let ⟨_,_,_,_,o,_,_,e,_⟩:=x;⟨_,e⟩
 | .set S n,x=>let ⟨o,_,_,_,e,_⟩:=x;⟨_,e⟩
 | .ins C dx fs,x=>let ⟨_,_,_,e,_⟩:=x;⟨_,e⟩
 | .own y,x=>x
 | .xd fs,x=>let ⟨_,⟨_,_,_,e,_⟩,_⟩:=x;⟨_,e⟩
 | .rng lo hi,x=>let ⟨_,_,_,e⟩:=x;⟨_,e⟩
 | .frz ob u,x=>⟨_,x.1⟩
 | .tbl ps,x=>⟨_,(show h.get? a=some _ from x)⟩
 | .met f y,x=>⟨_,(show h.get? a=some _ from x)⟩
 | .ext φ,x=>x.2.1
theorem uz{h h' base:Heap}:∀{l:List Env},h.FunFrames base l->(∀b∈cx l,∀o,h.get? b=some o->∃sl,h'.get? b=some { o with slots:=sl })->h'.FunFrames base l
 | [],_,_=>True.intro
 | env::l,hf,hb=>by
  obtain⟨h1,⟨L,o,e1,e2,e3,e4⟩,h2⟩:=hf
  have hm:L∈cx (env::l):=by unfold cx;rw[List.filterMap_cons,e1];exact List.mem_cons_self
  obtain⟨sl,e5⟩:=hb L hm o e3
  refine⟨h1,⟨L,_,e1,e2,e5,e4⟩,uz h2 fun b z=>hb b ?_⟩
  unfold cx;rw[List.filterMap_cons,e1];exact List.mem_cons_of_mem _ z
theorem uC{oT:Obj}{ts:Array Value}(e1:s.heap.get? x=some oe)(e3:oe.data=.fields vs)(e5:vs[1]?=some (.ref T))(f1:s.heap.get? T=some oT)(f2:oT.data=.fields ts)(f3:3<ts.size)
  (h:Q () { s with heap:=s.heap.update T (Obj.mapFields fun v=>v.setIfInBounds 3 .none) }):wpAny M A (setFlight (.ref x) none) Q E s:=by
 unfold setFlight
 refine wpAny_bind (wpAny_field e1 e3 e5 ?_)
 rw[if_pos (by simp)]
 exact wpAny_setField f1 f2 f3 h
theorem Im{env:Env}{outer:List Env}(fs:A.frames=some (env::outer))(hf:s.heap.FunFrames base (env::outer))(hfr:env.frame=some L)
    (e1:s.heap.get? x=some oe) (e3:oe.data=.fields vs) (hsz:1<vs.size) (e5:vs[1]?=some .none\/∃T oT ts,vs[1]?=some (.ref T)/\T≠x/\s.heap.get? T=some oT/\oT.data=.fields ts/\ts[3]?=some .none)
    (h:∀h2 T',(∀b o,s.heap.get? b=some o->b≠x->vs[1]? ≠ some (.ref b)->b∉cx (env::outer)->h2.get? b=some o)->(∀b∈cx (env::outer),∀o,s.heap.get? b=some o->∃sl,h2.get? b=some { o with slots:=sl }) ->
      s.heap.get? T'=none->T'≠x->h2.get? x=some (Obj.mapFields (fun v=>v.setIfInBounds 1 (.ref T')) oe)->(∃oT ts,h2.get? T'=some oT/\oT.data=.fields ts/\ts[3]?=some (rawInt L))->Q () { s with heap:=h2 }):wpAny M A (noteFrame (.ref x) env) Q E s:=by
  have xf:x∉cx (env::outer):=fun hm=>by
    obtain⟨_,o,ho,hn⟩:=Heap.FunFrames.mem hf hm
    rw[e1]at ho;cases ho
    exact hn vs e3
  have core:∀(s1:Shared) (head:Value) (hn:Bool),s1.gens=s.gens->s1.drawn=s.drawn->s1.toks=s.toks->s1.os=s.os->s1.heap.objs.size=s.heap.objs.size->s1.heap.get? x=some oe->s1.heap.FunFrames base (env::outer)->(∀b o,s.heap.get? b=some o->b≠x->vs[1]? ≠ some (.ref b)->s1.heap.get? b=some o)->(∀b∈cx (env::outer),∀o,s.heap.get? b=some o->s1.heap.get? b=some o) ->
      wpAny M A (do
        let a <- PySem.frameOf env
        let pl <- entryPlaceOf L hn
        let b <- EntryCells.newEntry head a Value.none (rawInt L) Value.none pl
        setField (.ref x) 1 b) Q E s1:=fun s1 head hn g1 g2 g3 g4 g5 k1 k2 k3 k4=>by
    refine wpAny_bind (wpAny_frameOf_fun fs k2 hfr fun h1 so=>wpAny_bind (wpAny_entryPlaceOf fun pl hpl=>?_))
    unfold EntryCells.newEntry newFields
    refine wpAny_bind (wpAny_newObj_type ?_ (hd:=?_))
    rotate_left
    . show Array.size _<=sizeLine+2
      rw[sizeLine_eq]
      rcases hpl with rfl|⟨a,b,c,d,c9,b10,_,rfl⟩<;>simp
    have he1:h1.get? x=some oe:=(so.2.1 x xf).trans k1
    have he2:=Heap.get?_push_of_some { cls:=.type "traceback", data:=.fields ([head,.ref L,.none,rawInt L,.none]++(if pl.isEmpty then List.replicate 6 .none else pl)).toArray } he1
    have szT:h1.objs.size=s.heap.objs.size:=so.1.trans g5
    have nT:h1.objs.size≠x:=Nat.ne_of_gt (Heap.lt_size he1)
    refine wpAny_setField he2 e3 hsz ?_
    have st:(⟨s.heap,s.gens,s.drawn,s.toks,s.os⟩:Shared)=s:=rfl
    have key:=h ((h1.push { cls:=.type "traceback", data:=.fields ([head,.ref L,.none,rawInt L,.none]++(if pl.isEmpty then List.replicate 6 .none else pl)).toArray }).update x (Obj.mapFields fun v=>v.setIfInBounds 1 (.ref h1.objs.size))) h1.objs.size ?_ ?_ ?_ nT ?_ ?_
    . rw[<- g1,<- g2,<- g3,<- g4]at key;exact key
    . intro b o eb b1 b2 b3
      rw[Heap.get?_update_other _ _ (Ne.symm b1)]
      exact Heap.get?_push_of_some _ ((so.2.1 b b3).trans (k3 b o eb b1 b2))
    . intro b hb o eb
      obtain⟨sl,z⟩:=so.2.2 b o (k4 b hb o eb)
      refine⟨sl,?_⟩
      rw[Heap.get?_update_other _ _ (show x≠b from fun z=>xf (by rw[z];exact hb))]
      exact Heap.get?_push_of_some _ z
    . rw[szT]
      cases z:s.heap.get? s.heap.objs.size with
      | none=>rfl
      | some o=>exact absurd (Heap.lt_size z) (Nat.lt_irrefl _)
    . exact Heap.get?_update_self _ he2 (Obj.isFreed_of_fields (Obj.data_mapFields e3 _))
    . refine⟨{ cls:=.type "traceback", data:=.fields ([head,.ref L,.none,rawInt L,.none]++(if pl.isEmpty then List.replicate 6 .none else pl)).toArray },_,?_,rfl,by simp⟩
      rw[Heap.get?_update_other _ _ (Ne.symm nT)]
      exact Heap.get?_push_size _ rfl
  unfold noteFrame
  rw[hfr]
  dsimp only
  rcases e5 with e5|⟨T,oT,ts,e5,f0,f1,f2,f3⟩
  . refine wpAny_bind (wpAny_field e1 e3 e5 ?_)
    rw[if_neg (by simp)]
    exact core s _ _ rfl rfl rfl rfl rfl e1 hf (fun b o eb _ _=>eb) fun b _ o eb=>eb
  . refine wpAny_bind (wpAny_field e1 e3 e5 ?_)
    rw[if_pos (by simp)]
    refine wpAny_bind (wpAny_field f1 f2 f3 ?_)
    rw[if_neg (by simp[rawInt])]
    have f4:3<ts.size:=by
      rcases Nat.lt_or_ge 3 ts.size with z|z
      . exact z
      . rw[Array.getElem?_eq_none z]at f3;cases f3
    have Tf:T∉cx (env::outer):=fun hm=>by
      obtain⟨_,o,ho,hn⟩:=Heap.FunFrames.mem hf hm
      rw[f1]at ho;cases ho
      exact hn ts f2
    refine wpAny_bind (wpAny_setField f1 f2 f4 ?_)
    refine core _ _ _ rfl rfl rfl rfl (Heap.size_update ..) ((Heap.get?_update_other _ _ f0).trans e1) ?_ ?_ ?_
    . exact uz hf fun b hb o eb=>⟨o.slots,(Heap.get?_update_other _ _ (show T≠b from fun z=>Tf (by rw[z];exact hb))).trans eb⟩
    . intro b o eb b1 b2
      exact(Heap.get?_update_other _ _ (fun z=>b2 (by rw[e5,z]))).trans eb
    . intro b hb o eb
      exact(Heap.get?_update_other _ _ (show T≠b from fun z=>Tf (by rw[z];exact hb))).trans eb
section
variable{X:Cx}{pins:List (Addr×Obj)}{σ:St}{H':Hp}
theorem aj.frame(I:aj X pins σ H s)(hs:X.stack=X.env::X.outer):X.env.frame=some X.env.locals:=by
 rcases I.ok.stk with z|z
 ·have:=congrArg List.length (hs.symm.trans z)
  simp at this
 ·exact z.2
structure jr(X:Cx)(hid:List Addr)(h1 h2:Heap):Prop where
 keep:∀b o,h1.get? b=some o->b∉hid->h2.get? b=some o
 up:∀b∈cx X.stack,∀o,h1.get? b=some o->∃sl,h2.get? b=some { o with slots:=sl }
theorem jr.trans{h3:Heap}(a:jr X hid h1 h2)(b:jr X hid h2 h3):jr X hid h1 h3 :=
 ⟨fun c o e n=>b.keep c o (a.keep c o e n) n,fun c hc o e=>by
  obtain⟨sl,e1⟩:=a.up c hc o e
  obtain⟨sl',e2⟩:=b.up c hc _ e1
  exact⟨sl',e2⟩⟩
theorem rR{l:List Env}(h:env.frame=some L):cx (env::l)=L::cx l:=by unfold cx;rw[List.filterMap_cons,h]
theorem Az{hid:List Addr}{E:XK}(I:aj X pins σ H s)(hs:X.stack=X.env::X.outer)(hex:X.ex=[])(h1:∀b∈hid,b∈cx X.stack\/X.s₀.heap.get? b=none)(h2n:∀b∈hid,H b=none)
  (ov:jr X hid s.heap h2) (t:Ku x C T od h2) (hT:s.heap.get? T=none\/T∈hid) (hx:X.s₀.heap.get? x=none) (hxn:H x=none) (q:E (.ref C) od H):fV X.prog X.w X.outer X.H₀ X.s₀ E (.ref x) { s with heap:=h2 }:=by
 have hfr:=I.frame hs
 have nL:∀b o,X.s₀.heap.get? b=some o->b≠X.env.locals:=fun b o e=>Nat.ne_of_lt (Nat.lt_of_lt_of_le (Heap.lt_size e) I.ok.above)
 have ub:Un X.fs [] X.H₀ H X.s₀.heap s.heap:=by have:=I.base;rw[hex]at this;exact this
 have hf:=I.stack
 have dat:∀b∈cx X.stack,b≠T:=fun b hb z=>by
  obtain⟨o,e,d⟩:=wA hf b hb
  obtain⟨sl,e2⟩:=ov.up b hb o e
  obtain⟨oe,vs,oT,ts,a0,_,_,_,_,_,_,_,e7,e8,_⟩:=t
  rw[z,e7]at e2
  cases e2
  exact d ts e8
 have old:X.s₀.heap.get? T=none:=by
  cases z:X.s₀.heap.get? T with
  | none=>rfl
  | some o =>
   obtain⟨o',e⟩:=ub.there T o z (by simp)
   rcases hT with hT|hT
   ·rw[hT]at e;cases e
   ·rcases h1 T hT with h|h
    ·exact absurd rfl (dat T h)
    ·rw[h]at z;cases z
 refine⟨x,C,T,od,H,rfl,hx,old,t,I.os,I.bare,sS (hid:=hid) ub (fun b o e hb=>?_) ov.keep (fun b hb o e=>ov.up b (by rw[hs,rR hfr];exact List.mem_cons_of_mem _ hb) o e),qX I.hok h2n ov.keep,hxn,?_,q⟩
 ·rcases h1 b hb with h|h
  ·rw[hs,rR hfr]at h
   rcases List.mem_cons.mp h with h|h
   ·exact absurd h (nL b o e)
   ·exact h
  ·rw[h]at e;cases e
 ·cases z:H T with
  | none=>rfl
  | some o =>
   obtain⟨u,e⟩:=zI (I.hok T o z)
   rcases hT with hT|hT
   ·rw[hT]at e;cases e
   ·rw[h2n T hT]at z;cases z
theorem oy{env:Env}{outer:List Env}(fs:A.frames=some (env::outer))(hf:s.heap.FunFrames base (env::outer))(hfr:env.frame=some L)
  (e1:s.heap.get? x=some oe) (e2:oe.cls=.ref C) (e6:oe.dict=od) (e3:oe.data=.fields vs) (hsz:1<vs.size) (e4:vs[0]?=some a0) (e5:vs[1]?=some .none\/∃T oT ts,vs[1]?=some (.ref T)/\T≠x/\s.heap.get? T=some oT/\oT.data=.fields ts/\ts[3]?=some .none)
  (h:∀h2 T',(∀b o,s.heap.get? b=some o->b≠x->vs[1]? ≠ some (.ref b)->b∉cx (env::outer)->h2.get? b=some o)->(∀b∈cx (env::outer),∀o,s.heap.get? b=some o->∃sl,h2.get? b=some { o with slots:=sl }) ->
   s.heap.get? T'=none->Ku x C T' od h2->Q () { s with heap:=h2 }):wpAny M A (noteFrame (.ref x) env) (fun _ s2=>wpAny M A (setFlight (.ref x) none) Q E s2) E s:=by
 refine Im fs hf hfr e1 e3 hsz e5 fun h2 T' k1 k2 nT nTx ex ⟨oT,ts,f1,f2,f3⟩=>?_
 have d1:(Obj.mapFields (fun v=>v.setIfInBounds 1 (.ref T')) oe).data=.fields (vs.setIfInBounds 1 (.ref T')):=Obj.data_mapFields e3 _
 have v1:(vs.setIfInBounds 1 (.ref T'))[1]?=some (.ref T'):=by simp[hsz]
 have f4:3<ts.size:=by
  rcases Nat.lt_or_ge 3 ts.size with z|z
  ·exact z
  ·rw[Array.getElem?_eq_none z]at f3;cases f3
 refine uC (s:={ s with heap:=h2 }) ex d1 v1 f1 f2 f4 ?_
 have nT2:∀b o,s.heap.get? b=some o->T'≠b:=fun b o eb z=>by rw[<- z,nT]at eb;cases eb
 have ce:(Obj.mapFields (fun v=>v.setIfInBounds 1 (.ref T')) oe).cls=.ref C/\(Obj.mapFields (fun v=>v.setIfInBounds 1 (.ref T')) oe).dict=od:=by
  obtain⟨c,d,da,sl⟩:=oe
  simp only at e3 e2 e6
  subst e3
  exact⟨e2,e6⟩
 refine h (h2.update T' _) T' (fun b o eb b1 b2 b3=>(Heap.get?_update_other _ _ (nT2 b o eb)).trans (k1 b o eb b1 b2 b3)) (fun b hb o eb=>?_) nT ⟨_,_,_,_,a0,(Heap.get?_update_other _ _ nTx).trans ex,ce.1,ce.2,d1,?_,v1,nTx,Heap.get?_update_self _ f1 (Obj.isFreed_of_fields (Obj.data_mapFields f2 _)),Obj.data_mapFields f2 _,by simp[f4]⟩
 ·obtain⟨sl,z⟩:=k2 b hb o eb
  exact⟨sl,(Heap.get?_update_other _ _ (nT2 b o eb)).trans z⟩
 ·rw[Array.getElem?_setIfInBounds_ne (by decide)];exact e4
theorem lT{E:XK}(I:aj X pins σ H s)(hs:X.stack=X.env::X.outer)(hex:X.ex=[])(e1:s.heap.get? e=some oe)(e2:oe.cls=.ref C)(e6:oe.dict=od)(e3:oe.data=.fields vs)(hsz:1<vs.size)(e4:vs[0]?=some a0)(e5:vs[1]?=some .none)
  (n0:X.s₀.heap.get? e=none) (nH:H e=none) (q:E (.ref C) od H) :
  wpAny (model X.prog X.w) X.A (leaving X.env (.ref e)) (fun _ s''=>fV X.prog X.w X.outer X.H₀ X.s₀ E (.ref e) s'') R s:=by
 have hfr:=I.frame hs
 have fs:X.A.frames=some (X.env::X.outer):=by rw[<- hs];exact I.ok.frames
 have hf:=I.stack
 rw[hs]at hf
 refine wpAny_bind (oy (C:=C) (od:=od) fs hf hfr e1 e2 e6 e3 hsz e4 (.inl e5) fun h2 T' k1 k2 nT tr=>?_)
 have ov:jr X (e::cx X.stack) s.heap h2:=⟨fun b o eb nb=>k1 b o eb (fun z=>nb (by rw[z];exact List.mem_cons_self)) (by rw[e5];intro z;cases z) (fun z=>nb (List.mem_cons_of_mem _ (by rw[hs];exact z))),fun b hb o eb=>k2 b (by rw[<- hs];exact hb) o eb⟩
 refine Az (s:=s) I hs hex (fun b hb=>?_) (fun b hb=>?_) ov tr (.inl nT) n0 nH q
 ·rcases List.mem_cons.mp hb with rfl|hb
  ·exact .inr n0
  ·exact .inl hb
 ·rcases List.mem_cons.mp hb with rfl|hb
  ·exact nH
  ·exact I.stkFree b hb
theorem vC{h':Heap}{vs:List Value}{E:XK}(I:aj X pins σ H s)(hs:X.stack=X.env::X.outer)(hex:X.ex=[])(m:s.heap.MadeExcOf h' e (.ref C) vs)(q:E (.ref C) none H) :
  wpAny (model X.prog X.w) X.A (leaving X.env (.ref e)) (fun _ s''=>fV X.prog X.w X.outer X.H₀ X.s₀ E (.ref e) s'') R { s with heap:=h' }:=by
 have ub:Un X.fs [] X.H₀ H X.s₀.heap s.heap:=by have:=I.base;rw[hex]at this;exact this
 obtain⟨t,m1,m2,m3⟩:=m.there
 refine lT (s:={ s with heap:=h' }) (I.kept (t':=s.toks) m.keeps) hs hex m1 rfl rfl rfl (by simp) rfl rfl ?_ ?_ q
 ·cases z:X.s₀.heap.get? e with
  | none=>rfl
  | some o=>obtain⟨o',e'⟩:=ub.there e o z (by simp);rw[m.new]at e';cases e'
 ·cases z:H e with
  | none=>rfl
  | some o=>obtain⟨u,e'⟩:=zI (I.hok e o z);rw[m.new]at e';cases e'
theorem xX{E:XK}{e:Value}(I:aj X pins σ H s)(hs:X.stack=X.env::X.outer)(hex:X.ex=[])(c:fV X.prog X.w X.stack H s E e s') :
  wpAny (model X.prog X.w) X.A (leaving X.env e) (fun _ s''=>fV X.prog X.w X.outer X.H₀ X.s₀ E e s'') R s':=by
 obtain⟨x,C,T,od,H',rfl,hx,hT,t,ho,hg,u,hk,nx,nT,q⟩:=c
 have J:aj X pins σ H' s':=I.call' (ch:=[]) ho u hk hg (fun b z=>absurd z (by simp))
 have hfr:=I.frame hs
 have ub:Un X.fs [] X.H₀ H X.s₀.heap s.heap:=by have:=I.base;rw[hex]at this;exact this
 have fs:X.A.frames=some (X.env::X.outer):=by rw[<- hs];exact I.ok.frames
 have hf:=J.stack
 rw[hs]at hf
 have old:∀b,s.heap.get? b=none->X.s₀.heap.get? b=none:=fun b hb=>by
  cases z:X.s₀.heap.get? b with
  | none=>rfl
  | some o=>obtain⟨o',e'⟩:=ub.there b o z (by simp);rw[hb]at e';cases e'
 obtain⟨oe,vs,oT,ts,a0,e1,e2,e6,e3,e4,e5,f0,f1,f2,f3⟩:=id t
 have hsz:1<vs.size:=by
  rcases Nat.lt_or_ge 1 vs.size with z|z
  ·exact z
  ·rw[Array.getElem?_eq_none z]at e5;cases e5
 refine wpAny_bind (oy (C:=C) (od:=od) fs hf hfr e1 e2 e6 e3 hsz e4 (.inr ⟨T,oT,ts,e5,f0,f1,f2,f3⟩) fun h2 T2 k1 k2 nT2 tr=>?_)
 have ov:jr X (x::T::cx X.stack) s'.heap h2:=⟨fun b o eb nb=>k1 b o eb (fun z=>nb (by rw[z];exact List.mem_cons_self)) (by rw[e5];intro z;injection z with z;injection z with z;exact nb (by rw[<- z];exact List.mem_cons_of_mem _ List.mem_cons_self)) (fun z=>nb (List.mem_cons_of_mem _ (List.mem_cons_of_mem _ (by rw[hs];exact z)))),fun b hb o eb=>k2 b (by rw[<- hs];exact hb) o eb⟩
 refine Az J hs hex (fun b hb=>?_) (fun b hb=>?_) ov tr (.inl nT2) (old x hx) nx q
 ·rcases List.mem_cons.mp hb with rfl|hb
  ·exact .inr (old _ hx)
  ·rcases List.mem_cons.mp hb with rfl|hb
   ·exact .inr (old _ hT)
   ·exact .inl hb
 ·rcases List.mem_cons.mp hb with rfl|hb
  ·exact nx
  ·rcases List.mem_cons.mp hb with rfl|hb
   ·exact nT
   ·exact J.stkFree b hb
end
abbrev fH:List Value:=[Value.type "ValueError", Value.type "Exception", Value.type "BaseException", Value.type "object"]
theorem jT{D:Addr}(e1:h.get? x=some ox)(e2:ox.cls=.ref D):∀M,W.Looks M h (typeOf (.ref x)) (.ref D):=by
 intro M A Q E s hk hq
 unfold typeOf
 refine wpAny_bind (wpAny_loadPart (hk _ _ e1) ?_)
 rw[e2]
 exact wpAny_pure hq
theorem yh{D:Addr}{R:Result->Shared->Prop}{tp:Value}{tk:Nat}(KI:K.In h)(ty:∀M,W.Looks M h (typeOf (.ref x)) (.ref D))(hm:W.mroIn K D (.type "object")=some true)
  (hR:R (.ok (.ret (.ref D))) ⟨h,g,d,tk,os⟩):codeAny (model prog w) A (.call (.builtin "getset_descriptor.__get__") ⟨[.builtin "object.__class__", .ref x,tp],[]⟩) R ⟨h,g,d,tk,os⟩:=by
 refine codeAny_call_builtin W.KF.slot_gs.plain W.KF.entry_gs ?_
 refine W.KF.slot_gs.check _ _ _ _ _ _ _ _ ?_ (W.KF.args_gs _ _ _) ?_
 ·exact W.KF.type_class
 show wpAny _ _ (Builtin.Getset_descriptor.descrGet ⟨[.builtin "object.__class__", .ref x,tp],[]⟩) _ _ _
 unfold Builtin.Getset_descriptor.descrGet
 rw[W.dga_obj]
 refine wpAny_bind (wpAny_pure ?_)
 dsimp only
 unfold Builtin.Getset_descriptor.descrGetter
 dsimp only
 refine wpAny_bind ?_
 unfold Builtin.Getset_descriptor.descrCheckInstance
 refine wpAny_bind ?_
 unfold Builtin.Getset_descriptor.descrNameAndClass
 dsimp only
 rw[W.KF.owner_class]
 refine wpAny_pure ?_
 dsimp only
 refine wpAny_bind ?_
 unfold isInstance
 refine wpAny_bind (W.Looks.at (ty _) (W.Looks.at (W.looks_mroIn KI hm) ?_))
 rw[if_neg (by simp)]
 refine wpAny_pure ?_
 refine wpAny_pure ?_
 refine⟨Code.quiet_builtin _ (by decide +kernel),codeAny_builtin W.KF.entry_class ?_⟩
 show wpAny _ _ (Builtin.«object.__class__» ⟨[.ref x],[]⟩) _ _ _
 unfold Builtin.«object.__class__»
 dsimp only
 refine wpAny_bind ?_
 unfold shownTypeOf
 refine wpAny_bind (W.Looks.at (ty _) ?_)
 rw[if_neg (by simp)]
 refine wpAny_pure ?_
 exact wpAny_pure hR
theorem As{D:Addr}{Q:Option Value->Shared->Prop}{nm:Str}
  (hga:W.findIn K (.ref D) "__getattribute__" = some (some (.builtin "BaseException.__getattribute__"))) (hgt:W.findIn K (.ref D) "__getattr__" = some none)
  (hf:W.findIn K (.ref D) "__class__" = some (some (.builtin "object.__class__"))) (hs:W.specialIn K (.builtin "object.__class__") "__get__" = some (some (.builtin "getset_descriptor.__get__"))) (ht:W.takesIn K (.builtin "object.__class__")=some true) (hm:W.mroIn K D (.type "object")=some true)
  (KI:K.In s.heap) (e1:s.heap.get? x=some ox) (e2:ox.cls=.ref D) (hD:s.heap.get? D=some (excClassObj nm q D N bs bm hdct sn sub ab col dd k0 k1 k2 k3 k5 newId)) (hT:OwnTailQ s.heap fH bm)
  (hq:Q (some (.ref D)) { s with toks:=s.toks+1 }):wpAny (model prog w) A (getAttr? (.ref x) "__class__") Q E s:=by
 obtain⟨h,g,d,tk,os⟩:=s
 have ty:=jT e1 e2
 have lf:∀M,W.Looks M h (Builtin.ObjectAttr.find (.ref x) (.ref D) "__class__") (.bind (.builtin "getset_descriptor.__get__") (.builtin "object.__class__")):=by
  intro M A Q E s hk hq
  unfold Builtin.ObjectAttr.find
  refine wpAny_bind (W.looks_findIn KI hf A _ E s hk ?_)
  refine wpAny_bind ?_
  unfold Builtin.ObjectAttr.getOf
  refine W.looks_specialIn KI hs A _ E s hk ?_
  refine wpAny_bind ?_
  unfold Builtin.ObjectAttr.dataDescriptor?
  refine wpAny_bind (W.looks_takesIn KI ht A _ E s hk ?_)
  rw[if_pos rfl]
  refine wpAny_pure ?_
  exact W.Looks.tag (W.Looks.now) A _ E s hk hq
 unfold getAttr?
 refine wpAny_bind (wpAny_mkText ?_)
 unfold getAttrBy?
 refine wpAny_bind (wpAny_attempt ?_)
 unfold getAttrBy
 refine wpAny_holding (wpAny_bind (W.Looks.at (ty _) ?_))
 refine wpAny_bind (W.Looks.at (W.looks_findIn KI hga) ?_)
 dsimp only
 have e9:(onTheHeap (Value.ref D)&&Value.builtin "BaseException.__getattribute__" == Value.builtin "object.__getattribute__")=false:=by
  have e0:(Value.builtin "BaseException.__getattribute__" == Value.builtin "object.__getattribute__")=false:=by decide +kernel
  rw[e0,Bool.and_false]
 rw[e9]
 rw[if_neg (by simp)]
 unfold getAttrByItsOwn
 refine wpAny_bind (W.Looks.at (W.looks_hook KI (r:=none) (by show(if true=true then W.findIn K (.ref D) "__getattr__" else some none)=some none;rw[if_pos rfl];exact hgt)) ?_)
 refine wpAny_bind (wpAny_attempt (wpAny_holding ?_))
 unfold callGetattribute
 rw[if_neg (by simp)]
 unfold boundAndCalled
 rw[(PySem.F.attrBase_ValueError.toExcAttrFacts.ga).bind]
 refine wpAny_bind (wpAny_pure ?_)
 refine wpAny_call (codeAny_call_builtin (PySem.F.attrBase_ValueError.toExcAttrFacts.ga).plain PySem.F.entry_bexc_ga ?_)
 refine wpAny_check_ga_own PySem.F.attrBase_ValueError hD hT e1 e2 ?_
 show wpAny _ _ (Builtin.«object.__getattribute__» ⟨[Value.ref x,Value.str "__class__" tk],[]⟩) _ _ _
 unfold Builtin.«object.__getattribute__»
 refine wpAny_bind ?_
 unfold slotArgs
 dsimp only
 rw[if_neg (by simp),if_neg (by simp)]
 refine wpAny_pure ?_
 dsimp only
 refine wpAny_bind ?_
 unfold Builtin.ObjectAttr.attrName
 refine wpAny_pure ?_
 refine wpAny_bind (W.Looks.at (ty _) ?_)
 refine wpAny_bind (W.Looks.at (lf _) ?_)
 dsimp only
 unfold Builtin.ObjectAttr.bindTo
 dsimp only
 refine wpAny_bind (wpAny_holding (wpAny_call (yh KI ty hm ?_)))
 refine wpAny_pure ?_
 refine W.handed_on rfl ?_
 exact wpAny_pure hq
def Hd:Value->Bool
 | .str _ _=>true
 | _=>false
def qI(K:W.Frag)(N:Addr):Bool :=
 match K.lookup N with
 | some ⟨_,_,.dict es _,_⟩=>es.toList.all (fun e=>Hd e.key)&&quietNames.all fun n=>(nsFind es n).isNone
 | _=>false
def oh(K:W.Frag)(N:Addr):Bool :=
 match K.lookup N with
 | some ⟨_,_,.dict es _,_⟩=>es.toList.all (fun e=>Hd e.key)
 | _=>false
def tZ(K:W.Frag)(N:Addr):Option Value :=
 match K.lookup N with
 | some ⟨_,_,.dict es _,_⟩=>nsFind es "__init__"
 | _=>none
def eD(K:W.Frag)(C:Addr):Option Value :=
 match K.lookup C with
 | some ⟨_,_,.cls cd,_⟩=>tZ K cd.ns
 | _=>none
def Io(sl:Array (Option Value)):Bool :=
 match sl.toList with
 | [_,_,_,_,some (.builtin id),_]=>id == "ValueError.__new__"
 | _=>false
def gY(K:W.Frag)(C S:Addr):Bool :=
 match K.lookup C,K.lookup S with
 | some ⟨.type t,_,.cls cd,sl⟩,some ⟨_,_,.cls ce,_⟩=>t == "type" && Io sl&&(cd.mro == .ref C :: .ref S::fH) && !cd.hasDel&&oh K cd.ns&&qI K ce.ns
 | _,_=>false
theorem By(q:qI K N=true)(KI:K.In h):∃mN,h.Ns N mN/\∀n∈quietNames,mN n=none:=by
 unfold qI at q
 split at q
 ·rename_i c d es ep sl e
  rw[Bool.and_eq_true]at q
  refine⟨nsFind es,⟨_,es,ep,KI _ _ e,rfl,fun x hx=>?_,fun _=>rfl⟩,fun n hn=>?_⟩
  ·have:=List.all_eq_true.mp q.1 x (by simpa using hx)
   cases hk:x.key with
   | str n t=>exact⟨n,t,rfl⟩
   | _=>rw[hk]at this;cases this
  ·have:=List.all_eq_true.mp q.2 n hn
   simpa using this
 ·cases q
theorem zm(q:oh K N=true)(KI:K.In h):∃mN,h.Ns N mN/\mN "__init__" = tZ K N:=by
 unfold oh at q
 unfold tZ
 split at q
 ·rename_i c d es ep sl e
  refine⟨nsFind es,⟨_,es,ep,KI _ _ e,rfl,fun x hx=>?_,fun _=>rfl⟩,rfl⟩
  have:=List.all_eq_true.mp q x (by simpa using hx)
  cases hk:x.key with
  | str n t=>exact⟨n,t,rfl⟩
  | _=>rw[hk]at this;cases this
 ·cases q
theorem fC(q:gY K C S=true)(KI:K.In h) :
  ∃nm qn N bs hdct sn sub ab col dd k0 k1 k2 k3 k5 mN,h.get? C=some (excClassObj nm qn C N bs (.ref S::fH) hdct sn sub ab col dd k0 k1 k2 k3 k5 "ValueError.__new__")/\h.Ns N mN/\mN "__init__" = eD K C/\OwnTailQ h fH (.ref S::fH):=by
 unfold gY at q
 split at q
 ·rename_i t d1 cd sl c2 d2 ce sl2 e1 e2
  simp only[Bool.and_eq_true]at q
  obtain⟨⟨⟨⟨⟨q1,q2⟩,q3⟩,q4⟩,q5⟩,q6⟩:=q
  have q1:t = "type" := by simpa using q1
  subst q1
  replace q3:cd.mro=.ref C :: .ref S::fH:=by simpa using q3
  replace q4:cd.hasDel=false:=by simpa using q4
  obtain⟨mN,n1,n2⟩:=zm q5 KI
  obtain⟨mS,m1,m2⟩:=By q6 KI
  unfold Io at q2
  split at q2
  ·rename_i k0 k1 k2 k3 id k5 es
   have q2:id = "ValueError.__new__" := by simpa using q2
   subst q2
   have es:sl = #[k0,k1,k2,k3,some (.builtin "ValueError.__new__"),k5]:=by
    have:=congrArg List.toArray es
    simpa using this
   subst es
   have g1:=KI _ _ e1
   have g2:=KI _ _ e2
   obtain⟨f1,f2,f3,f4,f5,f6,f7,f8,f9,f10,f11⟩:=cd
   simp only at q3 q4 n1
   subst q3 q4
   exact⟨_,_,_,_,_,_,_,_,_,_,_,_,_,_,_,mN,g1,n1,by rw[n2];unfold eD;rw[e1],.own g2 m1 m2 .base⟩
  ·cases q2
 ·cases q
structure gW(K:W.Frag)(C S:Addr):Prop where
 ex:gY K C S=true
 ga:W.findIn K (.ref C) "__getattribute__" = some (some (.builtin "BaseException.__getattribute__"))
 gt:W.findIn K (.ref C) "__getattr__" = some none
 cl:W.findIn K (.ref C) "__class__" = some (some (.builtin "object.__class__"))
 sp:W.specialIn K (.builtin "object.__class__") "__get__" = some (some (.builtin "getset_descriptor.__get__"))
 tk:W.takesIn K (.builtin "object.__class__")=some true
 mo:W.mroIn K C (.type "object")=some true
theorem gW.is(e:gW K C S):∃cd,W.clsIn K C=some cd:=by
 have:=e.mo
 unfold W.mroIn at this
 cases h:W.clsIn K C with
 | none=>rw[h]at this;cases this
 | some cd=>exact⟨cd,rfl⟩
def Ks(x C:Addr)(h:Heap):Prop:=∃o,h.get? x=some o/\o.cls=.ref C
theorem oA(e:gW K C S):W.KitX K (.ref x) (.ref C) (Ks x C):=by
 obtain⟨cd,hcd⟩:=e.is
 refine⟨fun M h KI ⟨o,e1,e2⟩=>?_,fun M h KI _=>?_,fun h tp dd its n sl KI ht=>?_,fun {prog w A E Q s} KI ⟨o,e1,e2⟩ hq=>?_⟩
 ·exact jT e1 e2 M
 ·obtain⟨nm,qn,N,bs,hdct,sn,sub,ab,col,dd,k0,k1,k2,k3,k5,mN,g1,g2,g3,g4⟩:=fC e.ex KI
  intro A Q E s hk hq
  unfold isType
  refine wpAny_bind (wpAny_loadPart (hk _ _ g1) ?_)
  exact wpAny_pure hq
 ·obtain⟨nm,qn,N,bs,hdct,sn,sub,ab,col,dd,k0,k1,k2,k3,k5,mN,g1,g2,g3,g4⟩:=fC e.ex KI
  rw[beq_eq_false_iff_ne]
  intro z
  injection z with z
  rw[<- z,g1]at ht
  injection ht with ht
  injection ht with h1
  injection h1 with h1
  exact absurd h1 (by decide)
 ·obtain⟨nm,qn,N,bs,hdct,sn,sub,ab,col,dd,k0,k1,k2,k3,k5,mN,g1,g2,g3,g4⟩:=fC e.ex KI
  exact As e.ga e.gt e.cl e.sp e.tk e.mo KI e1 e2 g1 g4 hq
theorem AJ(S:Addr):(Value.ref S::fH).contains (.type "BaseException")=true:=by
 rw[List.contains_cons,show fH.contains (Value.type "BaseException")=true by decide +kernel,Bool.or_true]
section
variable{X:Cx}{pins:List (Addr×Obj)}{σ:St}
theorem og{x:Str}{np cpos:Pos}{e:Expr}{t:TA}{Q:Flow->Shared->Prop}(I:aj X pins σ H s)(hc:X.calm=true)(hg:Gl X x)(hm:X.mg x=some (.ref C))(hx:gW X.K C S)(hin:eD X.K C=none)(hdb:(x==("__debug__" : Str))=false)
  (ha:PA X [e] t) (hn:(backTo cpos (starEach [e] X.env)).any (·.1)=false) (he:starEach [e] X.env=[(false,eval e X.env)])
  (h:t σ H fun vs H1=>vs.length<=sizeLine/\∀s1 h' a us,aj X pins σ H1 s1->s1.heap.MadeExcOf h' a (.ref C) us->X.xe (.ref a) { s1 with heap:=h' }) :
  wpAny (model X.prog X.w) X.A (exec (.Raise (some (.Call (.Name x np) [e] [] cpos)) none pos) X.env) Q X.xe s:=by
 obtain⟨nm,qn,N,bs,hdct,sn,sub,ab,col,dd,k0,k1,k2,k3,k5,mN,g1,g2,g3,g4⟩:=fC hx.ex I.ok.mod.kin
 refine wpAny_Raise_call_subT (nm:=nm) (q:=qn) (N:=N) (bs:=bs) (bm:=.ref S::fH) (hdct:=hdct) (sn:=sn) (sub:=sub) (ab:=ab) (col:=col) (dd:=dd) (k0:=k0) (k1:=k1) (k2:=k2) (k3:=k3) (k5:=k5) PySem.F.excBase_ValueError (AJ S) (I.ok.hd hc) hn (g3.trans hin) (dG I hg hm ⟨rfl,?_⟩ hdb)
 have key:=ha cpos pins s σ H _ I h
 rw[he]at key⊢
 obtain⟨y,ey⟩:∃y,backTo cpos [(false,eval e X.env)]=[(false,y)]:=⟨_,rfl⟩
 rw[ey]at key⊢
 refine PySem.Calls.evalArgs_plain (aN key fun us s1 ⟨vs,H1,I1,r,hl,q⟩=>?_)
 obtain⟨o,es,ep,e1,e2,e3,e4⟩:=g2
 exact⟨rfl,by rw[<- r.length];exact hl,I1.bk _ _ g1,⟨o,es,ep,I1.bk _ _ e1,e2,e3,e4⟩,(OwnTailQ.tail g4).keeps I1.bk,fun h' a m=>q s1 h' a us I1 m⟩
end
section
variable{X:Cx}{pins:List (Addr×Obj)}{σ:St}{H':Hp}
theorem FM{i:Nat}(I:aj X pins σ H s)(hN:X.N.Nodup)(hi:X.N[i]?=some n)(hk:X.env.scope.names.lookup n=some .local)
  (h:∀s',aj X pins (σ.set i none) H s'->Q () s'):wpAny M A (do bindName X.env n .none;unbindBehindTheSuite X.env n pos) Q E s:=by
 obtain⟨m,hn,hl⟩:=id I.loc
 have hcls:(X.env.scope.kind == .class || (X.env.scope.kind == .module&&X.env.locals != X.env.globals))=false:=by rw[I.ok.kind];rfl
 have hiσ:i<σ.length:=by rw[I.len];exact(List.getElem?_eq_some_iff.mp hi).1
 have cne:=I.cne
 refine wpAny_nameGoes_keeps hk hn hcls fun h' v hn' hs=>?_
 obtain⟨oL,_,_,hoL,_⟩:=id hn
 refine h _ ⟨I.ok,I.os,I.bare,⟨fun b o e n hb hx=>?_,fun b o e n hb hx=>?_,I.base.free,fun b o e hx=>?_,I.base.tups,I.base.frzs,I.base.tbls⟩,⟨_,hn',fun j y v' e1 e2 e3=>?_⟩,fun y c e=>?_,I.free,I.freeC,fun p hp=>?_,fun b ob e=>?_,by simpa using I.len⟩
 ·exact(hs.2 b (Nat.ne_of_lt (Nat.lt_of_lt_of_le (Heap.lt_size e) I.ok.above))).trans (I.base.keep b o e n hb hx)
 ·obtain⟨sl,e1⟩:=I.base.slot b o e n hb hx
  exact⟨sl,(hs.2 b (Nat.ne_of_lt (Nat.lt_of_lt_of_le (Heap.lt_size e) I.ok.above))).trans e1⟩
 ·obtain⟨o',e1⟩:=I.base.there b o e hx
  exact⟨o',(hs.2 b (Nat.ne_of_lt (Nat.lt_of_lt_of_le (Heap.lt_size e) I.ok.above))).trans e1⟩
 ·by_cases hj:j=i
  ·subst hj
   rw[List.getElem?_set_self hiσ]at e2
   cases e2
  ·rw[List.getElem?_set_ne (Ne.symm hj)]at e2
   obtain⟨u',r',q⟩:=hl j y v' e1 e2 e3
   refine⟨u',r',?_⟩
   rcases q with⟨k,e⟩|⟨k,c,e,z⟩
   ·refine .inl ⟨k,?_⟩
    have:y≠n:=fun e=>hj (iF hN e1 (e ▸ hi))
    simp[this,e]
   ·exact .inr ⟨k,c,e,z.sameBut hs (cne y c e)⟩
 ·obtain⟨w',z⟩:=I.cell y c e
  exact⟨w',z.sameBut hs (cne y c e)⟩
 ·obtain⟨e,n,ne,nf,d⟩:=I.pin p hp
  exact⟨(hs.2 p.1 ne).trans e,n,ne,nf,d⟩
 ·refine(I.hok b ob e).stay (fun c w' hc q=>(hs.2 c ?_).trans q) (fun _ q=>q) fun _ _ q=>q
  rintro rfl
  rcases hc with rfl|hc
  ·rw[I.free]at e;cases e
  ·rw[I.free]at hc;cases hc
abbrev Cx.mark(X:Cx)(e:Value):Cx:={ X with A:=X.A.mark (some e),calm:=false,xe:=fun _ _=>False }
theorem Cx.Ok.mark(ok:X.Ok)(e:Value):(X.mark e).Ok:=⟨ok.mod,ok.kind,ok.glob,ok.blt,ok.above,ok.inj,ok.has,ok.cab,(fun z=>by cases z),ok.frames,ok.stk,ok.exf,ok.bs,ok.bsz,ok.noex,ok.exfs,ok.funs,ok.frf⟩
theorem aj.mark(I:aj X pins σ H s)(e:Value):aj (X.mark e) pins σ H s:=⟨I.ok.mark e,I.os,I.bare,I.base,I.loc,I.cell,I.free,I.freeC,I.pin,I.hok,I.len⟩
theorem aj.unmark{e:Value}(ok:X.Ok)(I:aj (X.mark e) pins σ H s):aj X pins σ H s:=⟨ok,I.os,I.bare,I.base,I.loc,I.cell,I.free,I.freeC,I.pin,I.hok,I.len⟩
abbrev kM(x C:Addr)(od:Option Addr):HO:=.ext (fun h => ∃o vs,h.get? x=some o/\o.cls=.ref C/\o.dict=od/\o.data=.fields vs)
theorem Jd{o:Obj}(e1:h.get? x=some o)(e2:o.cls=.ref C)(e3:o.dict=od)(e4:o.data=.fields vs):bw P w H h x (kM x C od) :=
 ⟨⟨o,vs,e1,e2,e3,e4⟩,⟨o,e1⟩,fun h1 h2 ⟨o',vs',a,b,c,d⟩ k=>⟨o',vs',k o' a,b,c,d⟩⟩
theorem KP{o:HO}(hk:cz P w H h)(hn:H x=none)(ho:bw P w (aG H x o) h x o):cz P w (aG H x o) h:=fun a u e=>by
 by_cases z:a=x
 ·subst z
  rw[aE]at e;cases e
  exact ho
 ·rw[ax z]at e
  exact(hk a u e).stay (fun _ _ _ q=>q) (fun b q=>by rw[ax (aV q hn)];exact q) fun b xs q=>by rw[ax (aV q hn)];exact q
theorem Kf{E:XK}{e:Value}{D:kG}{B y:Str}{ie iy:Nat}{C0:Addr}{bp hpos p1 p2 p3:Pos}(I:aj X pins σ H s)(hs:X.stack=X.env::X.outer)(hN:X.N.Nodup)(c:fV X.prog X.w X.stack H s E e s')
  (hB:Gl X B) (hmB:X.mg B=some (.ref C0)) (hdb:(B==("__debug__" : Str))=false) (hie:X.N[ie]?=some n) (hen:X.env.scope.names.lookup n=some .local) (hiy:X.N[iy]?=some y) (hyn:X.env.scope.names.lookup y=some .local) (hne:iy≠ie)
  (hd1:(n==("__debug__" : Str))=false) (hd2:(n==("__classdict__" : Str))=false)
  (hE:∀C od H',E (.ref C) od H'->W.exmOne X.K (.ref C) (.ref C0)=some true/\∀x,H' x=none->D.nx (((σ.set ie (some (.ref x))).set iy (some (.ref x))).set ie none) (aG H' x (kM x C od))) :
  wpAny (model X.prog X.w) X.A (noteFrame e X.env) (fun _ s₂=>wpAny (model X.prog X.w) X.A (setFlight e none) (fun _ s₃=>wpAny (model X.prog X.w) X.A (handleBy e X.env [.ExceptHandler (some (.Name B bp)) (some n) [.Assign [.Name y p1] (.Name n p2) p3] hpos]) (SP X pins D) X.xe s₃) X.xe s₂) X.xe s':=by
 obtain⟨x,C,T,od,H',rfl,hx,hT,t,ho,hg,u,hk,nx,nT,q⟩:=c
 have J:aj X pins σ H' s':=I.call' (ch:=[]) ho u hk hg (fun b z=>absurd z (by simp))
 have hfr:=I.frame hs
 have fs:X.A.frames=some (X.env::X.outer):=by rw[<- hs];exact I.ok.frames
 have hf:=J.stack
 rw[hs]at hf
 obtain⟨oe,vs,oT,ts,a0,e1,e2,e6,e3,e4,e5,f0,f1,f2,f3⟩:=id t
 have hsz:1<vs.size:=by
  rcases Nat.lt_or_ge 1 vs.size with z|z
  ·exact z
  ·rw[Array.getElem?_eq_none z]at e5;cases e5
 obtain⟨qm,qn⟩:=hE C od H' q
 refine oy (C:=C) (od:=od) fs hf hfr e1 e2 e6 e3 hsz e4 (.inr ⟨T,oT,ts,e5,f0,f1,f2,f3⟩) fun h2 T2 k1 k2 nT2 tr=>?_
 have hidn:∀b∈x::T::cx X.stack,H' b=none:=fun b hb=>by
  rcases List.mem_cons.mp hb with rfl|hb
  ·exact nx
  ·rcases List.mem_cons.mp hb with rfl|hb
   ·exact nT
   ·exact J.stkFree b hb
 have hidf:∀b o,s.heap.get? b=some o->b∈x::T::cx X.stack->b∈cx X.stack:=fun b o eb hb=>by
  rcases List.mem_cons.mp hb with rfl|hb
  ·rw[hx]at eb;cases eb
  ·rcases List.mem_cons.mp hb with rfl|hb
   ·rw[hT]at eb;cases eb
   ·exact hb
 have mkI:∀h3:Heap,jr X (x::T::cx X.stack) s'.heap h3->aj X pins σ H' { s' with heap:=h3 }:=fun h3 ov =>
  I.call' (s':={ s' with heap:=h3 }) (ch:=[]) ho (sS u hidf ov.keep ov.up) (qX hk hidn ov.keep) hg (fun b z=>absurd z (by simp))
 have ov2:jr X (x::T::cx X.stack) s'.heap h2:=⟨fun b o eb nb=>k1 b o eb (fun z=>nb (by rw[z];exact List.mem_cons_self)) (by rw[e5];intro z;injection z with z;injection z with z;exact nb (by rw[<- z];exact List.mem_cons_of_mem _ List.mem_cons_self)) (fun z=>nb (List.mem_cons_of_mem _ (List.mem_cons_of_mem _ (by rw[hs];exact z)))),fun b hb o eb=>k2 b (by rw[<- hs];exact hb) o eb⟩
 have J2:=mkI h2 ov2
 obtain⟨ox,vx,oU,us,a1,ex1,ex2,ex6,ex3,ex4,ex5,u0,u1,u2,u3⟩:=tr
 refine wpAny_handleBy_cons ?_ (by intro z;cases z)
 refine codeAny_handlers_test ?_
 refine dG (X:=X.mark (.ref x)) (J2.mark (.ref x)) hB hmB ?_ hdb
 refine W.Looks.at (W.exm_one J2.kIn (jT ex1 ex2 _) qm) ?_
 show codeAny _ _ _ _ _
 refine codeAny_handlers_suite_as ?_
 have u4:3<us.size:=by
  rcases Nat.lt_or_ge 3 us.size with z|z
  ·exact z
  ·rw[Array.getElem?_eq_none z]at u3;cases u3
 have nT3:∀b o,s'.heap.get? b=some o->T2≠b:=fun b o eb z=>by rw[<- z,nT2]at eb;cases eb
 refine uC (s:={ s' with heap:=h2 }) ex1 ex3 ex5 u1 u2 u4 ?_
 obtain⟨h3,eh3⟩:∃h3,h2.update T2 (Obj.mapFields fun v=>v.setIfInBounds 3 .none)=h3:=⟨_,rfl⟩
 have oth:∀b,T2≠b->h3.get? b=h2.get? b:=fun b hb=>by rw[<- eh3];exact Heap.get?_update_other _ _ hb
 show wpAny _ _ _ _ _ { s' with heap:=h2.update T2 (Obj.mapFields fun v=>v.setIfInBounds 3 .none) }
 rw[eh3]
 have ov3:jr X (x::T::cx X.stack) s'.heap h3:=⟨fun b o eb nb=>(oth b (nT3 b o eb)).trans (ov2.keep b o eb nb),fun b hb o eb=>by
  obtain⟨sl,z⟩:=ov2.up b hb o eb
  exact⟨sl,(oth b (nT3 b o eb)).trans z⟩⟩
 have ey1:h3.get? x=some ox:=(oth x u0).trans ex1
 have J3:aj X pins σ (aG H' x (kM x C od)) { s' with heap:=h3 }:=by
  have u3:=sS u hidf ov3.keep ov3.up
  refine I.call' (s':={ s' with heap:=h3 }) (ch:=[]) ho ⟨u3.keep,u3.slot,fun b o eb n hb=>?_,u3.there,fun b xs eb=>?_,fun b o w eb=>?_,fun b ps eb=>?_⟩ (KP (qX hk hidn ov3.keep) nx (Jd ey1 ex2 ex6 ex3)) hg (fun b z=>absurd z (by simp))
  ·have:b≠x:=fun z=>by rw[z,hx]at eb;cases eb
   rw[ax this];exact u3.free b o eb n hb
  ·have z:=u3.tups b xs eb
   rw[ax (aV z nx)];exact z
  ·have z:=u3.frzs b o w eb
   rw[ax (aV z nx)];exact z
  ·obtain⟨more,z⟩:=u3.tbls b ps eb
   exact⟨more,by rw[ax (aV z nx)];exact z⟩
 refine fZ (X:=X) J3 hN hie (.inl hen) (v:=.ref x) rfl (fun s4 J4=>?_) (.inr hen)
 have hl:ie<σ.length:=by rw[I.len];exact(List.getElem?_eq_some_iff.mp hie).1
 have pv:PE (X.mark (.ref x)) (.Name n p2) (lr ie):=gH (X:=X.mark (.ref x)) hie (.inl hen) hd1 hd2
 have ps:=zp (X:=X.mark (.ref x)) (pos:=p3) (pos':=p1) hN hiy (.inl hyn) pv rfl (.inr hyn)
 refine wpAny_mono (v6 ps pins s4 _ _ ⟨fun σ' H''=>σ'=(σ.set ie (some (.ref x))).set iy (some (.ref x))/\H''=aG H' x (kM x C od),fun _ _=>False,fun _ _=>False,fun _ _=>False⟩ (J4.mark (.ref x)) ⟨_,List.getElem?_set_self hl,rfl,rfl⟩) (fun f s5 hf=>?_) (fun _ _ z=>z.elim)
 cases f with
 | next =>
  obtain⟨σ',H'',J5,rfl,rfl⟩:=hf
  refine FM (X:=X) (J5.unmark I.ok) hN hie hen fun s6 J6=>?_
  exact⟨_,_,J6,qn x nx⟩
 | brk=>obtain⟨_,_,_,z⟩:=hf;exact z.elim
 | cont=>obtain⟨_,_,_,z⟩:=hf;exact z.elim
 | ret v=>obtain⟨_,_,_,_,_,z⟩:=hf;exact z.elim
end
theorem o0{nm:Str}
  (F:ExcBaseFacts B newId initId bmB) (ht:OwnTail h bmB bm) {rest:List Value} {Q:PySem.Fin->Shared->Prop} (hC:h.get? C=some (excClassObj nm q C N bs bm hdct sn sub ab col dd k0 k1 k2 k3 k5 newId)) (hn:h.Ns N mN) (hi:mN "__init__" = some (.ref fI)) (hfI:h.get? fI=some oI) (hfc:oI.cls=.type "function")
  (hq:∀h' e,h.objs.size<=e->h.MadeExcOf h' e (.ref C) rest->wpAny (model prog w) A (call (.ref fI) (.ref e::rest)) (fun r s'=>r=.none/\Q (.done (.ret (.ref e))) s') E ⟨h',g,d,t,os⟩) (hrest:rest.length<=sizeLine) :
  wpAny (model prog w) A (Builtin.«type.__call__» ⟨.ref C::rest,[]⟩) Q E ⟨h,g,d,t,os⟩:=by
 unfold Builtin.«type.__call__»
 dsimp only
 refine wpAny_ite_false rfl ?_
 refine wpAny_bind ?_
 unfold mroOf
 refine wpAny_bind ?_
 unfold classData
 refine wpAny_bind (wpAny_load' hC (wpAny_pure (wpAny_pure ?_)))
 refine wpAny_ite_false rfl ?_
 refine wpAny_bind (wpAny_madeBy_exc hC ?_)
 refine wpAny_bind (wpAny_pure ?_)
 refine wpAny_bind (wpAny_holding (wpAny_call (codeAny_call_builtin_code (Code.quiet_builtin ⟨.ref C::rest,[]⟩ F.quiet) (wpAny_check_new_subT F ht hC (codeAny_exc_new_subT F ht hC ?_ hrest)))))
 have kp:∀b o,h.get? b=some o->((h.push { cls:=.type "tuple", data:=.seq rest.toArray }).push { cls:=.ref C,data:=.fields #[.ref h.objs.size,.none,.none,.none,.bool false,.none] }).get? b=some o:=fun b o e=>Heap.get?_push_of_some _ (Heap.get?_push_of_some _ e)
 have hget:((h.push { cls:=.type "tuple", data:=.seq rest.toArray }).push { cls:=.ref C,data:=.fields #[.ref h.objs.size,.none,.none,.none,.bool false,.none] }).get? (h.objs.size+1)=some { cls:=.ref C,data:=.fields #[.ref h.objs.size,.none,.none,.none,.bool false,.none] }:=Heap.get?_push_at (by simp) rfl
 have m:h.MadeExcOf ((h.push { cls:=.type "tuple", data:=.seq rest.toArray }).push { cls:=.ref C,data:=.fields #[.ref h.objs.size,.none,.none,.none,.bool false,.none] }) (h.objs.size+1) (.ref C) rest:=⟨kp,Heap.get?_none_of_le (Nat.le_succ _),h.objs.size,hget,Heap.get?_none_of_le (Nat.le_refl _),Heap.get?_push_of_some _ (Heap.get?_push_at rfl rfl)⟩
 have hcC:(Value.ref C::bm).contains (.ref C)=true:=by simp
 generalize hh:(h.push { cls:=.type "tuple", data:=.seq rest.toArray }).push { cls:=.ref C,data:=.fields #[.ref h.objs.size,.none,.none,.none,.bool false,.none] }=h1 at *
 refine wpAny_bind (E:=E) ?_
 unfold isInstance
 refine wpAny_bind ?_
 unfold typeOf
 refine wpAny_bind (wpAny_loadPart_at hget ?_)
 refine wpAny_pure ?_
 refine wpAny_isSubtype_exc (kp _ _ hC) ?_
 rw[hcC]
 refine wpAny_ite_false rfl ?_
 refine wpAny_bind (wpAny_holding ?_)
 unfold callSpecial?
 refine wpAny_bind ?_
 unfold specialOf
 refine wpAny_bind ?_
 unfold typeOf
 refine wpAny_bind (wpAny_loadPart_at hget ?_)
 refine wpAny_pure ?_
 have ht1:OwnTail h1 bmB bm:=ht.keeps kp
 have hn1:h1.Ns N mN:=by obtain⟨o,es,ep,a,b⟩:=hn;exact⟨o,es,ep,kp _ _ a,b⟩
 refine wpAny_typeLookup_tail (kp _ _ hC) hn1 ht1 F.mroIs F.init.lookup ?_
 rw[hi]
 dsimp only
 refine wpAny_holding (wpAny_bind ?_)
 unfold bindSpecial
 refine wpAny_bind (wpAny_typeOf ⟨oI,kp _ _ hfI,hfc⟩ ?_)
 rw[if_pos (by decide)]
 refine wpAny_pure (wpAny_bind (wpAny_mono (hq h1 _ (Nat.le_succ _) m) (fun r s' hr=>?_) (fun _ _ z=>z)))
 obtain⟨rfl,hQ⟩:=hr
 refine wpAny_pure ?_
 dsimp only
 rw[if_neg (by simp)]
 exact wpAny_pure hQ
theorem yk{nm:Str}
  (F:ExcBaseFacts B newId initId bmB) (ht:OwnTail h bmB bm) {rest:List Value} {Q:Value->Shared->Prop} (hC:h.get? C=some (excClassObj nm q C N bs bm hdct sn sub ab col dd k0 k1 k2 k3 k5 newId)) (hn:h.Ns N mN) (hi:mN "__init__" = some (.ref fI)) (hfI:h.get? fI=some oI) (hfc:oI.cls=.type "function")
  (hq:∀h' e,h.objs.size<=e->h.MadeExcOf h' e (.ref C) rest->wpAny (model prog w) (A.under (.builtin "type.__call__" ⟨.ref C::rest,[]⟩)) (call (.ref fI) (.ref e::rest)) (fun r s'=>r=.none/\Q (.ref e) s') E ⟨h',g,d,t,os⟩) (hrest:rest.length<=sizeLine) :
  wpAny (model prog w) A (call (.ref C) rest) Q E ⟨h,g,d,t,os⟩:=by
 have f1:=tc_lookup
 have f2:=tc_bind (.ref C)
 have hT:Shared.TypeIs ⟨h,g,d,t,os⟩ (.ref C) "type" := ⟨_,hC,rfl⟩
 refine wpAny_call (codeAny_of_tree ?_)
 refine wpAny_bind (wpAny_load' hC ?_)
 refine wpAny_bind (wpAny_specialOf hT f1 ?_)
 refine wpAny_bind (wpAny_of_eq f2 ?_)
 refine wpAny_bind ?_
 refine wpAny_pure (wpAny_ite_true rfl ?_)
 refine wpAny_pure ⟨rfl,codeAny_call_builtin_at (Code.quiet_builtin ⟨.ref C::rest,[]⟩ (by decide +kernel)) entry_typeCall (wpAny_check_type_call_sub hC (o0 F ht hC hn hi hfI hfc (fun h' e hl hm=>hq h' e hl hm) hrest))⟩
theorem xD{nm:Str}{x:Sem Value}{Q:Flow->Shared->Prop}
  (hbase:bm.contains (.type "BaseException")=true) (hh:A.handled=none)
  (h:wpAny M A x (fun v s₁ => ∃e oe vs,v=.ref e/\s₁.heap.get? C=some (excClassObj nm q C N bs bm hdct sn sub ab col dd k0 k1 k2 k3 k5 newId)/\s₁.heap.get? e=some oe/\oe.cls=.ref C/\oe.data=.fields vs/\vs[1]?=some .none/\E (.ref e) s₁) E s):wpAny M A (raiseStmt env (some x) none) Q E s:=by
 have hcB:(Value.ref C::bm).contains (.type "BaseException")=true:=by rw[List.contains_cons,hbase,Bool.or_true]
 unfold raiseStmt
 dsimp only
 refine wpAny_bind (wpAny_mono h (fun v s1 h1=>?_) (fun _ _ z=>z))
 obtain⟨e,oe,vs,rfl,hC,he,e2,e3,e5,hE⟩:=h1
 obtain⟨hp,g,d,tk,os⟩:=s1
 obtain⟨oc,od,oda,osl⟩:=oe
 simp only at e2 e3
 subst e2 e3
 refine wpAny_bind (wpAny_pure ?_)
 refine wpAny_bind (wpAny_holding ?_)
 unfold excFromValue
 refine wpAny_bind ?_
 unfold isExcClass
 refine wpAny_bind ?_
 unfold isType
 refine wpAny_bind (wpAny_loadPart_at he (wpAny_pure ?_))
 refine wpAny_ite_false rfl (wpAny_pure ?_)
 refine wpAny_ite_false rfl ?_
 refine wpAny_bind ?_
 unfold isInstance
 refine wpAny_bind ?_
 unfold typeOf
 refine wpAny_bind (wpAny_loadPart_at he (wpAny_pure ?_))
 refine wpAny_isSubtype_exc hC ?_
 rw[hcB]
 refine wpAny_ite_true rfl (wpAny_pure ?_)
 dsimp only
 refine wpAny_bind ?_
 refine wpAny_bind (wpAny_loadPart_at he (wpAny_pure ?_))
 refine wpAny_ite_false rfl ?_
 refine wpAny_bind ?_
 unfold raisedInstance
 refine wpAny_bind ?_
 unfold typeOf
 refine wpAny_bind (wpAny_loadPart_at he (wpAny_pure ?_))
 refine wpAny_bind ?_
 refine wpAny_bind (wpAny_loadPart_at hC (wpAny_pure ?_))
 refine wpAny_ite_true rfl (wpAny_pure ?_)
 refine wpAny_bind ?_
 unfold setFlight
 refine wpAny_bind (wpAny_field he rfl e5 ?_)
 refine wpAny_ite_false rfl (wpAny_pure ?_)
 exact wpAny_raiseNew_none hh hE
theorem Ff{R:Result->Shared->Prop}{od:Option Obj}{tk:Tok}(X:K.In s.heap)(I:W.InstAt s.heap x ox C od)(hc:W.clsIn K C=some cd)(hm:cd.mro=.ref C :: .ref S::fH)(ht:W.findIn K (.ref C) name=some none)
  (h:wpAny (model prog w) A.in1 (Builtin.ObjectAttr.storeInOwnDict (.ref x) (.ref C) (.str name tk) name v false) (fun fin s'=>match fin with | .done f=>R (.ok f) s' | .again c'=>c'.quiet=true/\codeAny (model prog w) A c' R s') (fun e s'=>R (.error e) s') s) :
  codeAny (model prog w) A (.call (.builtin "object.__setattr__") ⟨[.ref x,.str name tk,v],[]⟩) R s:=by
 have SF:=F.store_object
 have mi:W.mroIn K C (.type "object")=some true:=by
  unfold W.mroIn
  rw[hc,Option.bind_some,hm,if_neg (by simp)]
  simp[fH]
 have sub:W.Looks (model prog w) s.heap (isInstance (.ref x) (.type "object")) true:=W.Looks.andThen (W.InstAt.type I) (W.looks_mroIn X mi)
 refine codeAny_call_builtin SF.slot.plain SF.entry ?_
 have ao:argsOk "object.__setattr__" ⟨[.ref x,.str name tk,v],[]⟩:=SF.args (.ref x) (.str name tk) v
 refine W.check_slot (i := "object.__setattr__") (owner := "object") (n := "__setattr__") (self:=.ref x) (rest:=[.str name tk,v]) (kw:=[]) SF.kind SF.split sub ao ?_
 have hmr:W.Looks (model prog w) s.heap (mroOf (.ref C)) cd.mro:=W.Looks.andThen (W.looks_clsIn X hc) W.Looks.now
 rw[W.osa_eq,refuse_eq]
 refine wpAny_bind (wpAny_bind (W.Looks.here (W.InstAt.type I) (wpAny_bind (W.Looks.here hmr ?_))))
 rw[hm,refuseLoop_ref,refuseLoop_ref,F.store_ValueError.passes]
 refine wpAny_pure (wpAny_bind (W.Looks.here (W.InstAt.type I) (wpAny_bind (W.Looks.here (W.looks_findIn X ht) ?_))))
 refine wpAny_bind ?_
 unfold Builtin.ObjectAttr.storeTaker?
 refine wpAny_pure ?_
 exact h
theorem FU(X:K.In s.heap)(e1:s.heap.get? x=some ox)(e2:ox.cls=.ref C)(e3:ox.data=.fields vs)(e6:ox.dict=none)(hc:W.clsIn K C=some cd)(hm:cd.mro=.ref C :: .ref S::fH)(hd:cd.hasDict=true)
  (hs:W.findIn K (.ref C) "__setattr__" = some (some (.builtin "object.__setattr__"))) (ht:W.findIn K (.ref C) name=some none)
  (h:∀h' dx,s.heap.objs.size<=dx->(∀b o,b≠x->s.heap.get? b=some o->h'.get? b=some o)->h'.get? x=some { ox with dict:=some dx }->(h'.Ns1 dx fun y=>if y=name then some v else none)->Q () { s with heap:=h',toks:=s.toks+2 }) :
  wpAny (model prog w) A (setAttr (.ref x) name v) Q E s:=by
 obtain⟨oc,odd,oda,osl⟩:=ox
 simp only at e2 e3 e6
 subst e2 e3 e6
 have J:W.InstAt s.heap x ⟨.ref C,none,.fields vs,osl⟩ C none:=⟨e1,rfl,rfl,True.intro⟩
 refine W.set_plain X J hs (Ff (s:={ s with toks:=s.toks+1 }) X J hc hm ht ?_)
 unfold Builtin.ObjectAttr.storeInOwnDict
 refine wpAny_bind (wpAny_pure ?_)
 refine wpAny_ite_false rfl ?_
 refine wpAny_bind ?_
 unfold Builtin.ObjectAttr.ownDictForStores
 unfold instanceDict
 refine wpAny_bind (wpAny_loadPart_at e1 ?_)
 refine wpAny_bind (W.Looks.here (s:={ s with toks:=s.toks+1 }) (W.looks_clsIn X hc) ?_)
 rw[hd]
 refine wpAny_ite_false rfl ?_
 refine wpAny_ite_false rfl ?_
 dsimp only
 have e2:=Heap.get?_push_of_some { cls:=.type "dict", data:=.dict #[] } e1
 refine wpAny_bind (wpAny_alloc (wpAny_bind (wpAny_update e2 ?_)))
 unfold dictMade
 refine wpAny_pure ?_
 dsimp only
 have nx:s.heap.objs.size≠x:=Nat.ne_of_gt (Heap.lt_size e1)
 have e3:((s.heap.push { cls:=.type "dict", data:=.dict #[] }).update x fun o => { o with dict:=some s.heap.objs.size }).get? x=some ⟨.ref C,some s.heap.objs.size,.fields vs,osl⟩:=Heap.get?_update_self _ e2 rfl
 have e4:((s.heap.push { cls:=.type "dict", data:=.dict #[] }).update x fun o => { o with dict:=some s.heap.objs.size }).get? s.heap.objs.size=some { cls:=.type "dict", data:=.dict #[] }:=(Heap.get?_update_other _ _ (Ne.symm nx)).trans (Heap.get?_push_size _ rfl)
 have n1:((s.heap.push { cls:=.type "dict", data:=.dict #[] }).update x fun o => { o with dict:=some s.heap.objs.size }).Ns1 s.heap.objs.size (fun _=>none):=⟨_,#[],_,e4,rfl,fun e he=>absurd he (by simp),by simp[UniqKeys],fun _=>rfl⟩
 unfold Builtin.ObjectAttr.storeInDict
 refine wpAny_bind (wpAny_pure ?_)
 refine wpAny_bind (wpAny_nsSet1 n1 fun h' hn2 hs2=>?_)
 obtain⟨oD,esD,epD,hoD,hdD,hcD⟩:=hn2.count (PySem.Within.cons (ns:=[]) name v (fun y hy=>absurd rfl hy))
 refine wpAny_bind (wpAny_lookBehind hoD (by rw[hdD];exact pastItsLine_dict (Nat.le_trans hcD (by rw[sizeLine_eq];exact Nat.le_of_ble_eq_true rfl))) ?_)
 refine wpAny_pure (h h' s.heap.objs.size ?_ (fun b o hb eb=>?_) ?_ hn2)
 ·exact Nat.le_refl _
 ·refine(hs2.2 b (Nat.ne_of_lt (Heap.lt_size eb))).trans ?_
  rw[Heap.get?_update_other _ _ (Ne.symm hb)]
  exact Heap.get?_push_of_some _ eb
 ·exact(hs2.2 x (Ne.symm nx)).trans e3
theorem yp{E:Value->Shared->Prop}{ob:Obj}{Q:PySem.Fin->Shared->Prop}(he:s.heap.get? e=some ob)(hd:ob.data=.fields vs)(h0:vs[0]?=some (.ref t0))
  (h:Q (.done (.ret .none)) ⟨(s.heap.push { cls:=.type "tuple", data:=.seq #[v] }).update e (Obj.mapFields fun x=>x.setIfInBounds 0 (.ref s.heap.objs.size)),s.gens,s.drawn,s.toks,s.os⟩) :
  wpAny (model prog w) A (Builtin.«BaseException.__init__» { pos:=[.ref e,v] }) Q E s:=by
 unfold Builtin.«BaseException.__init__»
 dsimp only
 rw[if_neg (by simp)]
 have hsz:=(Array.getElem?_eq_some_iff.mp h0).1
 have he1:=Heap.get?_push_of_some { cls:=Value.type "tuple", data:=Data.seq #[v] } he
 refine wpAny_bind (wpAny_newTuple ?_)
 unfold Builtin.BaseException.bexcPut
 refine wpAny_bind (wpAny_bind (wpAny_field he1 hd h0 ?_))
 exact wpAny_bind (wpAny_setField he1 hd hsz (wpAny_letGo (wpAny_pure h)))
theorem ym{nm:Str}
  (F:ExcBaseFacts B newId initId bmB) (ht:OwnTail s.heap bmB bm) {Q:Value->Shared->Prop} (hq:(Code.builtin initId { pos:=[.ref e,v] }).quiet=true) (hC:s.heap.get? C=some (excClassObj nm q C N bs bm hdct sn sub ab col dd k0 k1 k2 k3 k5 newId)) (he:s.heap.get? e=some oe) (hc:oe.cls=.ref C) (hd:oe.data=.fields vs) (h0:vs[0]?=some (.ref t0))
  (h:∀h',(∀b o,b≠e->s.heap.get? b=some o->h'.get? b=some o)->h'.get? e=some { oe with data:=.fields (vs.setIfInBounds 0 (.ref s.heap.objs.size)) }->Q .none { s with heap:=h' }) :
  wpAny (model prog w) A (call (.builtin initId) [.ref e,v]) Q E s:=by
 obtain⟨oc,odd,oda,osl⟩:=oe
 simp only at hc hd
 subst hc hd
 refine wpAny_call (codeAny_call_builtin_at hq F.initEntry (wpAny_check_init_subT F ht hC he rfl (yp he rfl h0 ?_)))
 dsimp only
 refine h _ (fun b o hb eb=>?_) ?_
 ·rw[Heap.get?_update_other _ _ hb.symm];exact Heap.get?_push_of_some _ eb
 ·have e1:=Heap.get?_push_of_some { cls:=Value.type "tuple", data:=Data.seq #[v] } he
  exact Heap.get?_update_self _ e1 rfl
theorem FV{D dx:Addr}{b:Bool}{mA:Str->Option Value}{Q:Value->Shared->Prop}{nm:Str}
  (hga:W.findIn K (.ref D) "__getattribute__" = some (some (.builtin "BaseException.__getattribute__"))) (hgt:W.findIn K (.ref D) "__getattr__" = some none) (hf:W.findIn K (.ref D) name=some none) (hdi:W.hasDictIn K D=true)
  (KI:K.In s.heap) (e1:s.heap.get? x=some ox) (e2:ox.cls=.ref D) (e3:ox.data=.fields vs) (e4:ox.dict=some dx) (hn:s.heap.Ns1 dx mA) (hv:mA name=some v) (hh:W.handedIn v=true) (hD:s.heap.get? D=some (excClassObj nm q D N bs bm hdct sn sub ab col dd k0 k1 k2 k3 k5 newId)) (hT:OwnTailQ s.heap fH bm)
  (hq:Q v { s with toks:=s.toks+1 }):wpAny (model prog w) A (getAttr (.ref x) name b) Q E s:=by
 obtain⟨h,g,d,tk,os⟩:=s
 have ty:=jT e1 e2
 obtain⟨od,ho,hl⟩:=rK hn
 have J:W.InstAt h x ox D (some od):=⟨e1,e2,by unfold W.notCls;rw[e3],by rw[e4];exact ho⟩
 have lf:∀M,W.Looks M h (Builtin.ObjectAttr.find (.ref x) (.ref D) name) (.value v):=fun M=>W.looks_find KI J (W.findObj_own hdi hf rfl (by rw[hl,hv]))
 unfold getAttr
 refine wpAny_bind (wpAny_mkText ?_)
 unfold getAttrBy
 refine wpAny_holding (wpAny_bind (W.Looks.at (ty _) ?_))
 refine wpAny_bind (W.Looks.at (W.looks_findIn KI hga) ?_)
 dsimp only
 have e9:(onTheHeap (Value.ref D)&&Value.builtin "BaseException.__getattribute__" == Value.builtin "object.__getattribute__")=false:=by
  have e0:(Value.builtin "BaseException.__getattribute__" == Value.builtin "object.__getattribute__")=false:=by decide +kernel
  rw[e0,Bool.and_false]
 rw[e9]
 rw[if_neg (by simp)]
 unfold getAttrByItsOwn
 refine wpAny_bind (W.Looks.at (W.looks_hook KI (r:=none) (by show(if true=true then W.findIn K (.ref D) "__getattr__" else some none)=some none;rw[if_pos rfl];exact hgt)) ?_)
 refine wpAny_bind (wpAny_attempt (wpAny_holding ?_))
 unfold callGetattribute
 rw[if_neg (by rw[show onTheHeap (Value.builtin "BaseException.__getattribute__")=false from rfl];simp)]
 unfold boundAndCalled
 rw[(PySem.F.attrBase_ValueError.toExcAttrFacts.ga).bind]
 refine wpAny_bind (wpAny_pure ?_)
 refine wpAny_call (codeAny_call_builtin (PySem.F.attrBase_ValueError.toExcAttrFacts.ga).plain PySem.F.entry_bexc_ga ?_)
 refine wpAny_check_ga_own PySem.F.attrBase_ValueError hD hT e1 e2 ?_
 show wpAny _ _ (Builtin.«object.__getattribute__» ⟨[Value.ref x,Value.str name tk],[]⟩) _ _ _
 unfold Builtin.«object.__getattribute__»
 refine wpAny_bind ?_
 unfold slotArgs
 dsimp only
 rw[if_neg (by simp),if_neg (by simp)]
 refine wpAny_pure ?_
 dsimp only
 refine wpAny_bind ?_
 unfold Builtin.ObjectAttr.attrName
 refine wpAny_pure ?_
 refine wpAny_bind (W.Looks.at (ty _) ?_)
 refine wpAny_bind (W.Looks.at (lf _) ?_)
 dsimp only
 refine wpAny_pure ?_
 exact W.handed_on hh hq
end L2
namespace Sp
open PySem PySem.Spec PyProof.Rows L2
variable{H:Hp}{K:W.Frag}{n:Str}{C S:Addr}
structure D5(K:W.Frag)(n:Str)(C:Addr):Prop where
 cl:((W.clsIn K C).isSome&&W.typeIn K (.ref C)==some (.type "type"))=true
 sole:∀m,W.nsIn K mainGlobals m=some (some (.ref C))->m=n
 obj:∃o,K.lookup C=some o/\o.cls=.type "type"
abbrev Xs:=Str×Str×List (Str×Int)
def uD(H:Hp)(od:Option Addr)(fs:List (Str×Int)):Prop:=∀f i,fs=[(f,i)]->∃dx,od=some dx/\H dx=some (.xd [(f,.int i)])
theorem uD.nil{od:Option Addr}:uD H od []:=fun _ _ z=>by cases z
structure vt(K:W.Frag)(C:Addr)(f:Str):Prop where
 no:W.findIn K (.ref C) f=some none
 di:W.hasDictIn K C=true
def kB(K:W.Frag)(H:Hp)(n:Str):Option (Str×List (Str×Int))->V->Prop
 | none,v => ∃C,v=.ref C/\W.nsIn K mainGlobals n=some (some (.ref C))/\D5 K n C
 | some (p,fs),v => ∃x C S od,v=.ref x/\W.nsIn K mainGlobals n=some (some (.ref C))/\W.nsIn K mainGlobals p=some (some (.ref S))/\gW K C S/\H x=some (kM x C od)/\uD H od fs/\∀f i,fs=[(f,i)]->vt K C f
theorem kB.mono{H':Hp}(k:∀a C od,H a=some (kM a C od)->H' a=some (kM a C od))(kd:∀a fs,H a=some (.xd fs)->H' a=some (.xd fs)):∀{p:Option (Str×List (Str×Int))} {v:V},kB K H n p v->kB K H' n p v
 | none,_,h=>h
 | some (p,fs),_,⟨x,C,S,od,e,h1,h2,h3,h4,h5,h6⟩=>⟨x,C,S,od,e,h1,h2,h3,k _ _ _ h4,fun f i z=>let ⟨dx,a,b⟩:=h5 f i z;⟨dx,a,kd _ _ b⟩,h6⟩
theorem kB.ref:∀{p:Option (Str×List (Str×Int))} {v:V},kB K H n p v->∃a,v=.ref a
 | none,_,⟨C,e,_⟩=>⟨C,e⟩
 | some (p,fs),_,⟨x,_,_,_,e,_⟩=>⟨x,e⟩
theorem kB.at:∀{p:Option (Str×List (Str×Int))} {a:Addr},kB K H n p (.ref a)->(∃o,K.lookup a=some o/\o.cls=.type "type")\/∃C od,H a=some (kM a C od)
 | none,_,⟨C,e,_,h⟩=>by cases e;exact .inl h.obj
 | some (p,fs),_,⟨x,C,_,od,e,_,_,_,h,_⟩=>by cases e;exact .inr ⟨C,od,h⟩
theorem t6(e:gY K C S=true):∃cd,W.clsIn K C=some cd/\cd.mro=.ref C :: .ref S::fH:=by
 unfold gY at e
 split at e
 ·rename_i t d1 cd sl c2 d2 ce sl2 e1 e2
  simp only[Bool.and_eq_true]at e
  obtain⟨⟨⟨⟨⟨q1,q2⟩,q3⟩,q4⟩,q5⟩,q6⟩:=e
  exact⟨cd,by unfold W.clsIn;rw[e1],by simpa using q3⟩
 ·cases e
theorem zZ{Cm:Addr}{p m:Str}(e:gW K C S)(hn:W.nsIn K mainGlobals n=some (some (.ref C)))(hp:W.nsIn K mainGlobals p=some (some (.ref S)))(hm:W.nsIn K mainGlobals m=some (some (.ref Cm)))(x:D5 K m Cm) :
  W.kitOne K (.ref C) (.ref Cm)=some (decide (m=n) || decide (m=p)):=by
 obtain⟨cd,h1,h2⟩:=t6 e.ex
 have a1:(Value.ref Cm==Value.ref C)=decide (m=n):=by
  by_cases z:m=n
  ·subst z;rw[hm]at hn;cases hn;simp
  ·rw[decide_eq_false z]
   refine beq_eq_false_iff_ne.mpr fun y=>z ?_
   injection y with y
   subst y
   exact(x.sole n hn).symm
 have a2:(Value.ref Cm==Value.ref S)=decide (m=p):=by
  by_cases z:m=p
  ·subst z;rw[hm]at hp;cases hp;simp
  ·rw[decide_eq_false z]
   refine beq_eq_false_iff_ne.mpr fun y=>z ?_
   injection y with y
   subst y
   exact(x.sole p hp).symm
 unfold W.kitOne
 have a3:(Value.ref C==Value.ref Cm)=decide (m=n):=by
  by_cases z:m=n
  ·subst z;rw[hm]at hn;cases hn;simp
  ·rw[decide_eq_false z]
   refine beq_eq_false_iff_ne.mpr fun y=>z ?_
   injection y with y
   subst y
   exact(x.sole n hn).symm
 rw[a3]
 by_cases z:m=n
 ·rw[if_pos (decide_eq_true z),decide_eq_true z];rfl
 ·rw[decide_eq_false z,if_neg (by simp),Bool.false_or]
  unfold W.kitCls
  dsimp only
  rw[if_pos x.cl]
  unfold W.subIn W.mroIn
  dsimp only
  rw[h1,Option.bind_some,h2,if_neg (by simp)]
  rw[List.contains_cons,List.contains_cons,a1,a2,decide_eq_false z,Bool.false_or,show fH.contains (Value.ref Cm)=false by simp[fH],Bool.or_false]
theorem IC(e:gW K C S):W.kitOne K (.ref C) (.type "ValueError")=some true:=by
 obtain⟨cd,h1,h2⟩:=t6 e.ex
 unfold W.kitOne
 rw[if_neg (by simp)]
 unfold W.kitCls
 dsimp only
 rw[if_pos (by decide +kernel)]
 unfold W.subIn W.mroIn
 dsimp only
 rw[h1,Option.bind_some,h2,if_neg (by simp)]
 simp[fH]
end Sp
namespace L2
open PySem PySem.Spec PyProof.Rows
variable{o:Option V}{u:Value}{y:V}
section
variable{κ:Type}[DecidableEq κ]
def jS(kvs:List (κ×V))(k:κ):Option V:=(kvs.find? fun kv=>decide (kv.1=k)).map (·.2)
def jl(kvs:List (κ×V))(k:κ)(v:V):List (κ×V) :=
 if (kvs.any fun kv=>decide (kv.1=k))=true then kvs.map (fun kv=>if kv.1=k then(kv.1,v)else kv)else kvs++[(k,v)]
def DY(kvs:List (κ×V))(k:κ):List (κ×V):=kvs.filter fun kv=>decide (kv.1≠k)
theorem n6{p:κ×V}{r:List (κ×V)}{k:κ}(e:p.1=k):jS (p::r) k=some p.2:=by simp[jS,List.find?_cons,e]
theorem n8{p:κ×V}{r:List (κ×V)}{k:κ}(e:¬ p.1=k):jS (p::r) k=jS r k:=by simp[jS,List.find?_cons,e]
theorem sR(k:κ):∀kvs:List (κ×V),(kvs.any fun kv=>decide (kv.1=k))=(jS kvs k).isSome
 | []=>rfl
 | p::r=>by
  rw[List.any_cons]
  by_cases e:p.1=k
  ·simp only[n6 e,decide_eq_true e,Bool.true_or,Option.isSome_some]
  ·rw[n8 e,decide_eq_false e,Bool.false_or];exact sR k r
theorem vB(kvs:List (κ×V))(k:κ)(v:V):(jl kvs k v).length<=kvs.length+1:=by
 unfold jl
 split
 ·rw[List.length_map];omega
 ·rw[List.length_append,List.length_cons,List.length_nil];omega
theorem fg.isSome_eq{u:Option Value}(r:fg o u):o.isSome=u.isSome:=by
 cases o with
 | none=>cases u with
  | none=>rfl
  | some _=>exact(show False from r).elim
 | some _=>cases u with
  | none=>exact(show False from r).elim
  | some _=>rfl
theorem fg.getD{u:Option Value}{d:V}{d':Value}(r:fg o u)(rd:aU d d'):aU (o.getD d) (u.getD d'):=by
 cases o with
 | none=>cases u with
  | none=>exact rd
  | some _=>exact(show False from r).elim
 | some _=>cases u with
  | none=>exact(show False from r).elim
  | some _=>exact r
theorem KV.val{kvs:List (κ×V)}{vs:List (κ×Value)}(r:KV kvs vs)(k:κ):fg (jS kvs k) (valueAt vs k):=by
 unfold KV at r
 induction r with
 | nil=>exact True.intro
 | @cons p q ps qs h t ih =>
  obtain⟨h1,h2⟩:=h
  by_cases e:p.1=k
  ·have e':q.1=k:=h1.symm.trans e
   have b:valueAt (q::qs) k=some q.2:=by simp[valueAt,List.find?_cons,e']
   rw[n6 e,b];exact h2
  ·have e':¬ q.1=k:=fun z=>e (h1.trans z)
   have b:valueAt (q::qs) k=valueAt qs k:=by simp[valueAt,List.find?_cons,e']
   rw[n8 e,b];exact ih
theorem KV.any{kvs:List (κ×V)}{vs:List (κ×Value)}(r:KV kvs vs)(k:κ):(kvs.any fun kv=>decide (kv.1=k))=vs.any fun kv=>decide (kv.1=k):=by
 unfold KV at r
 induction r with
 | nil=>rfl
 | cons h t ih=>rw[List.any_cons,List.any_cons,ih,h.1]
theorem KV.repl{kvs:List (κ×V)}{vs:List (κ×Value)}(r:KV kvs vs)(k:κ)(ry:aU y u) :
  KV (kvs.map fun kv=>if kv.1=k then(kv.1,y)else kv) (vs.map fun kv=>if kv.1=k then(kv.1,u)else kv):=by
 unfold KV at r⊢
 induction r with
 | nil=>exact .nil
 | @cons p q ps qs h t ih =>
  rw[List.map_cons,List.map_cons]
  refine .cons ?_ ih
  obtain⟨h1,h2⟩:=h
  by_cases e:p.1=k
  ·rw[if_pos e,if_pos (h1.symm.trans e)];exact⟨h1,ry⟩
  ·rw[if_neg e,if_neg (fun z=>e (h1.trans z))];exact⟨h1,h2⟩
theorem KV.put{kvs:List (κ×V)}{vs:List (κ×Value)}(r:KV kvs vs)(k:κ)(ry:aU y u):KV (jl kvs k y) (stored vs k u):=by
 unfold jl stored
 rw[r.any k]
 by_cases e:(vs.any fun kv=>decide (kv.1=k))=true
 ·rw[if_pos e,if_pos e];exact r.repl k ry
 ·rw[if_neg e,if_neg e];exact Paired.snoc r ⟨rfl,ry⟩
theorem KV.drop{kvs:List (κ×V)}{vs:List (κ×Value)}(r:KV kvs vs)(k:κ):KV (DY kvs k) (without vs k):=by
 unfold KV at r⊢
 unfold DY without
 induction r with
 | nil=>exact .nil
 | @cons p q ps qs h t ih =>
  obtain⟨h1,h2⟩:=h
  rw[List.filter_cons,List.filter_cons]
  by_cases e:p.1=k
  ·have a:¬ decide (p.1≠k)=true:=by simp[e]
   have b:¬ decide (q.1≠k)=true:=by simp[h1.symm.trans e]
   rw[if_neg a,if_neg b];exact ih
  ·have e':¬ q.1=k:=fun z=>e (h1.trans z)
   have a:decide (p.1≠k)=true:=by simp[e]
   have b:decide (q.1≠k)=true:=by simp[e']
   rw[if_pos a,if_pos b];exact .cons ⟨h1,h2⟩ ih
theorem KV.length{kvs:List (κ×V)}{vs:List (κ×Value)}(r:KV kvs vs):kvs.length=vs.length:=Paired.length r
end
theorem xY{P:Program}{w:World}{k:bU}(r:aU (kV k) u):(gi P w).is k u=true:=by
 cases k with
 | inl i=>obtain⟨t,e⟩:=(show ∃t,u=Value.int i t from r);subst e;exact vA P w i t
 | inr x=>obtain⟨t,e⟩:=(show ∃t,u=Value.str x t from r);subst e;exact vz P w x t
end L2
namespace Sp
open PySem PySem.Spec PyProof.Rows L2
variable{K:W.Frag}{H H' H0 H1:Hp}{a c e e2 elt iter tg:Expr}{vs vs':List V}{v:V}{X:Cx}{σ:L2.St}{i j k k2 ko n n1 n2:Nat}{env:Env}{sc scope:Scope}{M:Model}{A:Around}{E Q:Value->Shared->Prop}{s:Shared}{cl:List (Str×Addr)}{f g m qual x:Str}{pins:List (Addr×Obj)}{N' ns ps:List Str}{fp:List Addr}{prog:Program}{w:World}{args cs es ifs tgs:List Expr}{ap cp p p1 p2 pos px py q tp:Pos}{b it r r2 t κ κ':Bool}{base h h' h2:Heap}{op op2:CmpOp}{body els ss:List Stmt}{α β:Type}{o:List Prop}{ks:List bU}{T:String}{st:Stmt}{mg:Str->Option Value}{cdv old:Value}{outer:List Env}{fd:FuncData}{tu:Addr}{xs ys:Array Value}{us:List Value}
inductive D where
 | non|bl (b:Bool)|int (i:Int)|str (x:Str)|dct (ks:List bU) (ds:List D)|tup (l:List D)|lst (l:List D)|typ (n:String)|sn (n:Nat)|obj (n:Str) (ns:List Str) (ds:List D)|cls (n:Str)|xc (n:Str) (p:Option (Str×List (Str×Int)))
mutual
def D.lless:D->Bool
 | .lst _=>false
 | .dct _ _=>false
 | .tup l=>ar l
 | _=>true
def ar:List D->Bool
 | []=>true
 | d::l=>d.lless&&ar l
end
def vo(K:W.Frag)(H:Hp)(a:Addr)(vs:List V):Bool->Prop
 | true=>H a=some (.lst vs)
 | false=>(∃o,H a=some (.frz o (.lst vs)))\/∃(o:Obj) (its:Array Value) (n:Nat),K.lookup a=some o/\o.cls=.type "list" /\ o.dict=none/\o.data=.seq its n/\its.size<=sizeLine/\aK vs its.toList
theorem vo.sq{a:Addr}:∀{b:Bool},vo K H a vs b->cf K H a vs
 | true,h=>cf.of h
 | false,.inl ⟨o,h⟩=>.inl (.inr ⟨o,h⟩)
 | false,.inr h=>.inr h
structure sJ(K:W.Frag)(C:Addr):Prop where
 ha:W.findIn K (.ref C) "__class__" = some (some (.builtin "object.__class__"))
 hn:W.specialIn K (.builtin "object.__class__") "__get__" = some (some (.builtin "getset_descriptor.__get__"))
 ht:W.takesIn K (.builtin "object.__class__")=some true
 hm:W.mroIn K C (.type "object")=some true
def JB:List Str:=["Deed", "Turn", "HalfTurn", "Mirror"]
def sW(m n:Str):Bool:=decide (m=n) || (decide (n = "Deed")&&(decide (m = "Turn") || decide (m = "HalfTurn") || decide (m = "Mirror")))
structure Mv(K:W.Frag)(C:Addr)(n:Str):Prop where
 all:∀m∈JB,∀Cm,W.nsIn K mainGlobals m=some (some (.ref Cm))->sJ K Cm/\W.kitOne K (.ref Cm) (.ref C)=some (sW m n)
abbrev be:=Addr->Bool->Prop
mutual
def ah(K:W.Frag)(H:Hp)(P:be):D->V->Prop
 | .non,v=>v=.non
 | .bl b,v=>v=.bl b
 | .int i,v=>v=.int i
 | .str x,v=>v=.str x
 | .dct ks ds,v=>ar ds=true/\ks.length=ds.length/\∃a vs,v=.ref a/\H a=some (.dK (ks.zip vs))/\P a true/\ag K H P ds vs
 | .typ n,v=>v=.ty n
 | .sn n,v => ∃a S,v=.ref a/\H a=some (.set S n)
 | .xc n p,v=>kB K H n p v
 | .cls n,v => ∃C o,v=.ref C/\W.nsIn K mainGlobals n=some (some (.ref C))/\K.lookup C=some o/\o.cls=.type "type" /\ sJ K C/\Mv K C n
 | .obj n ns ds,v=>ar ds=true/\ns.length=ds.length/\∃a C dx vs,v=.ref a/\W.nsIn K mainGlobals n=some (some (.ref C))/\fW K C/\H a=some (.ins C dx (ns.zip vs))/\ag K H P ds vs
 | .tup l,v => ∃a vs,v=.ref a/\cu K H a vs/\ag K H P l vs
 | .lst l,v => ∃a vs b,v=.ref a/\vo K H a vs b/\P a b/\ag K H P l vs
def ag(K:W.Frag)(H:Hp)(P:be):List D->List V->Prop
 | [],vs=>vs=[]
 | d::l,vs => ∃v r,vs=v::r/\ah K H P d v/\ag K H P l r
end
def nm:HO->Prop
 | .lst _=>False
 | .dK _=>False
 | _=>True
structure dl(P P':be)(H H':Hp):Prop where
 oth:∀a o,H a=some o->nm o->H' a=some o
 lst:∀a o,H a=some o->P a true->H' a=some o
 impT:∀a o,H a=some o->P a true->P' a true
 impF:∀a,P a false->P' a false
theorem dl.sq{P P':be}(s:dl P P' H H'){a:Addr}(h:cu K H a vs):cu K H' a vs:=by
 rcases h with(h|⟨o,h⟩)|h
 ·exact .inl (.inl (s.oth _ _ h True.intro))
 ·exact .inl (.inr ⟨o,s.oth _ _ h True.intro⟩)
 ·exact .inr h
theorem dl.ls{P P':be}(s:dl P P' H H'){a:Addr}:∀{b:Bool},vo K H a vs b->P a b->vo K H' a vs b
 | true,h,p=>s.lst a _ h p
 | false,.inl ⟨o,h⟩,_=>.inl ⟨o,s.oth _ _ h True.intro⟩
 | false,.inr h,_=>.inr h
theorem dl.imp{P P':be}(s:dl P P' H H'){a:Addr}:∀{b:Bool},vo K H a vs b->P a b->P' a b
 | true,h,p=>s.impT a _ h p
 | false,_,p=>s.impF a p
mutual
theorem ah.mono{K:W.Frag}{P P':be}{H H':Hp}(s:dl P P' H H'):∀{d:D} {v:V},ah K H P d v->ah K H' P' d v
 | .non,v,h=>by rw[ah]at h⊢;exact h
 | .bl b,v,h=>by rw[ah]at h⊢;exact h
 | .int i,v,h=>by rw[ah]at h⊢;exact h
 | .str x,v,h=>by rw[ah]at h⊢;exact h
 | .dct ks ds,v,h=>by
  rw[ah]at h⊢
  obtain⟨f,e0,a,vs,e,h1,p,r⟩:=h
  exact⟨f,e0,a,vs,e,s.lst _ _ h1 p,s.impT _ _ h1 p,ag.mono s r⟩
 | .typ n,v,h=>by rw[ah]at h⊢;exact h
 | .sn n,v,h=>by
  rw[ah]at h⊢
  obtain⟨a,S,e,h⟩:=h
  exact⟨a,S,e,s.oth _ _ h True.intro⟩
 | .cls n,v,h=>by rw[ah]at h⊢;exact h
 | .xc n p,v,h=>by rw[ah]at h⊢;exact h.mono (fun a C od z=>s.oth _ _ z True.intro) (fun a fs z=>s.oth _ _ z True.intro)
 | .obj n ns ds,v,h=>by
  rw[ah]at h⊢
  obtain⟨f,e0,a,C,dx,vs,e,h1,h2,h3,r⟩:=h
  exact⟨f,e0,a,C,dx,vs,e,h1,h2,s.oth _ _ h3 True.intro,ag.mono s r⟩
 | .tup l,v,h=>by
  rw[ah]at h⊢
  obtain⟨a,vs,e,h,r⟩:=h
  exact⟨a,vs,e,s.sq h,ag.mono s r⟩
 | .lst l,v,h=>by
  rw[ah]at h⊢
  obtain⟨a,vs,b,e,h,p,r⟩:=h
  exact⟨a,vs,b,e,s.ls h p,s.imp h p,ag.mono s r⟩
theorem ag.mono{K:W.Frag}{P P':be}{H H':Hp}(s:dl P P' H H'):∀{l:List D} {vs:List V},ag K H P l vs->ag K H' P' l vs
 | [],vs,h=>by rw[ag]at h⊢;exact h
 | d::l,vs,h=>by
  rw[ag]at h⊢
  obtain⟨v,r,e,h1,h2⟩:=h
  exact⟨v,r,e,ah.mono s h1,ag.mono s h2⟩
end
theorem dl.same{P P':be}(s:ay H H')(i:∀a b,P a b->P' a b):dl P P' H H':=⟨fun a o h _=>s a o h,fun a vs h _=>s a _ h,fun a _ _ p=>i a true p,fun a p=>i a false p⟩
theorem ah.same{P:be}(s:ay H H'){d:D}(h:ah K H P d v):ah K H' P d v:=h.mono (.same s fun _ _ p=>p)
theorem ag.same{P:be}(s:ay H H'){d:List D}{v:List V}(h:ag K H P d v):ag K H' P d v:=h.mono (.same s fun _ _ p=>p)
theorem ah.imp{P P':be}(i:∀a b,P a b->P' a b){d:D}(h:ah K H P d v):ah K H P' d v:=h.mono (.same (ay.refl _) i)
theorem ag.imp{P P':be}(i:∀a b,P a b->P' a b){d:List D}{v:List V}(h:ag K H P d v):ag K H P' d v:=h.mono (.same (ay.refl _) i)
theorem ah.impH{P P':be}(i:∀a o,H a=some o->P a true->P' a true)(j:∀a,P a false->P' a false){d:D}(h:ah K H P d v):ah K H P' d v:=h.mono ⟨fun _ _ h _=>h,fun _ _ h _=>h,i,j⟩
theorem ag.impH{P P':be}(i:∀a o,H a=some o->P a true->P' a true)(j:∀a,P a false->P' a false){d:List D}{v:List V}(h:ag K H P d v):ag K H P' d v:=h.mono ⟨fun _ _ h _=>h,fun _ _ h _=>h,i,j⟩
mutual
theorem ah.flat{K:W.Frag}{P:be}(P':be){H:Hp}:∀{d:D} {v:V},d.lless=true->ah K H P d v->ah K H P' d v
 | .non,v,_,h=>by rw[ah]at h⊢;exact h
 | .bl b,v,_,h=>by rw[ah]at h⊢;exact h
 | .int i,v,_,h=>by rw[ah]at h⊢;exact h
 | .str x,v,_,h=>by rw[ah]at h⊢;exact h
 | .dct _ _,v,f,h=>by rw[D.lless]at f;cases f
 | .typ n,v,_,h=>by rw[ah]at h⊢;exact h
 | .sn n,v,_,h=>by rw[ah]at h⊢;exact h
 | .cls n,v,_,h=>by rw[ah]at h⊢;exact h
 | .xc n p,v,_,h=>by rw[ah]at h⊢;exact h
 | .obj n ns ds,v,_,h=>by
  rw[ah]at h⊢
  obtain⟨f,e0,a,C,dx,vs,e,h1,h2,h3,r⟩:=h
  exact⟨f,e0,a,C,dx,vs,e,h1,h2,h3,ag.flat P' f r⟩
 | .tup l,v,f,h=>by
  rw[ah]at h⊢
  obtain⟨a,vs,e,h,r⟩:=h
  exact⟨a,vs,e,h,ag.flat P' (by rw[D.lless]at f;exact f) r⟩
 | .lst l,v,f,h=>by rw[D.lless]at f;cases f
theorem ag.flat{K:W.Frag}{P:be}(P':be){H:Hp}:∀{l:List D} {vs:List V},ar l=true->ag K H P l vs->ag K H P' l vs
 | [],vs,_,h=>by rw[ag]at h⊢;exact h
 | d::l,vs,f,h=>by
  rw[ag]at h⊢
  rw[ar,Bool.and_eq_true]at f
  obtain⟨v,r,e,h1,h2⟩:=h
  exact⟨v,r,e,ah.flat P' f.1 h1,ag.flat P' f.2 h2⟩
end
theorem ag.length{P:be}:∀{l:List D} {vs:List V},ag K H P l vs->l.length=vs.length
 | [],vs,h=>by rw[ag]at h;subst h;rfl
 | d::l,vs,h=>by
  rw[ag]at h
  obtain⟨v,r,e,h1,h2⟩:=h
  subst e
  rw[List.length_cons,List.length_cons,h2.length]
theorem ag.get{K:W.Frag}{P:be}{H:Hp}:∀{l:List D} {vs:List V} {i:Nat} {d:D},ag K H P l vs->l[i]?=some d->∃v,vs[i]?=some v/\ah K H P d v
 | [],vs,i,d,h,e=>by simp at e
 | x::l,vs,0,d,h,e=>by
  rw[ag]at h
  obtain⟨v,r,rfl,h1,h2⟩:=h
  simp at e;subst e
  exact⟨v,by simp,h1⟩
 | x::l,vs,i+1,d,h,e=>by
  rw[ag]at h
  obtain⟨v,r,rfl,h1,h2⟩:=h
  obtain⟨u,h3,h4⟩:=ag.get (i:=i) h2 (by simpa using e)
  exact⟨u,by simpa using h3,h4⟩
theorem ag.append{K:W.Frag}{P:be}{H:Hp}:∀{l m:List D} {vs ws:List V},ag K H P l vs->ag K H P m ws->ag K H P (l++m) (vs++ws)
 | [],m,vs,ws,h,g=>by rw[ag]at h;subst h;exact g
 | d::l,m,vs,ws,h,g=>by
  rw[ag]at h
  obtain⟨v,r,rfl,h1,h2⟩:=h
  show ag K H P (d::(l++m)) (v::(r++ws))
  rw[ag]
  exact⟨v,_,rfl,h1,ag.append h2 g⟩
theorem ag.one{P:be}{d:D}(h:ah K H P d v):ag K H P [d] [v]:=by
 rw[ag];exact⟨v,[],rfl,h,by rw[ag]⟩
theorem ag.nil{P:be}:ag K H P [] []:=by rw[ag]
theorem ag.cons{P:be}{d:D}{l:List D}(h:ah K H P d v)(g:ag K H P l vs):ag K H P (d::l) (v::vs):=by
 rw[ag];exact⟨v,vs,rfl,h,g⟩
theorem ag.take{K:W.Frag}{P:be}{H:Hp}:∀{l:List D} {vs:List V} (n:Nat),ag K H P l vs->ag K H P (l.take n) (vs.take n)
 | [],vs,n,h=>by rw[ag]at h;subst h;simp;exact ag.nil
 | d::l,vs,0,h=>by simp;exact ag.nil
 | d::l,vs,n+1,h=>by
  rw[ag]at h
  obtain⟨v,r,rfl,h1,h2⟩:=h
  exact ag.cons h1 (ag.take n h2)
theorem ag.drop{K:W.Frag}{P:be}{H:Hp}:∀{l:List D} {vs:List V} (n:Nat),ag K H P l vs->ag K H P (l.drop n) (vs.drop n)
 | [],vs,n,h=>by rw[ag]at h;subst h;simp;exact ag.nil
 | d::l,vs,0,h=>h
 | d::l,vs,n+1,h=>by
  rw[ag]at h
  obtain⟨v,r,rfl,h1,h2⟩:=h
  exact ag.drop n h2
theorem ag.mapInt{K:W.Frag}{P:be}{H:Hp}:∀{ns:List Int} {vs:List V},ag K H P (ns.map D.int) vs->vs=ns.map V.int
 | [],vs,h=>by rw[List.map_nil,ag]at h;exact h
 | n::ns,vs,h=>by
  rw[List.map_cons,ag]at h
  obtain⟨v,r,rfl,h1,h2⟩:=h
  rw[ah]at h1
  rw[h1,ag.mapInt h2];rfl
theorem ag.ofInts{K:W.Frag}{P:be}{H:Hp}:∀{ns:List Int},ag K H P (ns.map D.int) (ns.map V.int)
 | []=>ag.nil
 | n::ns=>ag.cons (by rw[ah]) ag.ofInts
abbrev Ow:=Addr->Option (Option Str)
def Kp(ow:Ow)(H:Hp):Nat->be
 | 0=>fun a b=>b=true/\H a=none
 | 1=>fun a b=>b=true->ow a=none
 | 2=>fun a b=>b=true/\(ow a≠none\/H a=none)
 | _=>fun _ _=>True
def kj:Nat->Nat->Nat
 | 0,k=>k
 | k,0=>k
 | 1,1=>1
 | 2,2=>2
 | _,_=>3
def j5(ow:Ow)(x:Str):Bool->be
 | true=>fun a b=>b=true/\ow a=some (some x)
 | false=>fun a b=>b=true->ow a=none
def fh(ow:Ow)(H:Hp):Prop:=∀a,ow a≠none->∃o,H a=some o
theorem fh.same{ow:Ow}(o:fh ow H)(s:ay H H'):fh ow H':=fun a h=>let ⟨x,e⟩:=o a h;⟨x,s a x e⟩
theorem fh.free{ow:Ow}(o:fh ow H){a:Addr}(h:H a=none):ow a=none:=by
 cases e:ow a with
 | none=>rfl
 | some x=>obtain⟨y,q⟩:=o a (by rw[e];exact(fun z=>nomatch z));rw[h]at q;cases q
theorem Kp.back{ow:Ow}(s:ay H H'):∀(k:Nat) (a:Addr) (b:Bool),Kp ow H' k a b->Kp ow H k a b
 | 0,a,b,h=>⟨h.1,s.free h.2⟩
 | 1,a,b,h=>h
 | 2,a,b,h=>⟨h.1,h.2.imp id fun z=>s.free z⟩
 | _+3,a,b,h=>True.intro
theorem Kp.joinL{ow:Ow}(o:fh ow H):∀(k j:Nat) (a:Addr) (b:Bool),Kp ow H k a b->Kp ow H (kj k j) a b
 | 0,0,a,b,h=>h
 | 0,1,a,b,h=>fun _=>o.free h.2
 | 0,2,a,b,h=>⟨h.1,.inr h.2⟩
 | 0,_+3,a,b,h=>True.intro
 | 1,0,a,b,h=>h
 | 1,1,a,b,h=>h
 | 1,2,a,b,h=>True.intro
 | 1,_+3,a,b,h=>True.intro
 | 2,0,a,b,h=>h
 | 2,1,a,b,h=>True.intro
 | 2,2,a,b,h=>h
 | 2,_+3,a,b,h=>True.intro
 | _+3,0,a,b,h=>True.intro
 | _+3,1,a,b,h=>True.intro
 | _+3,2,a,b,h=>True.intro
 | _+3,_+3,a,b,h=>True.intro
theorem FA:∀k j,kj k j=kj j k
 | 0,0|0,1|0,2|0,_+3|1,0|1,1|1,2|1,_+3|2,0|2,1|2,2|2,_+3|_+3,0|_+3,1|_+3,2|_+3,_+3=>rfl
theorem Kp.joinR{ow:Ow}(o:fh ow H)(k j:Nat)(a:Addr)(b:Bool)(h:Kp ow H j a b):Kp ow H (kj k j) a b:=by
 rw[FA];exact Kp.joinL o j k a b h
abbrev af:=Str->Option (D×Bool)
structure aL(X:Cx)(ow:Ow)(H:Hp)(σ:L2.St)(ρ:af):Prop where
 get:∀x d o,ρ x=some (d,o)->∃(i:Nat) (v:V),X.N[i]?=some x/\iS X.env.scope x/\σ[i]?=some (some v)/\ah X.K H (j5 ow x o) d v
 own:fh ow H
theorem aL.same{ow:Ow}{ρ:af}(e:aL X ow H σ ρ)(s:ay H H'):aL X ow H' σ ρ :=
 ⟨fun x d o h=>let ⟨i,v,h1,h2,h3,h4⟩:=e.get x d o h;⟨i,v,h1,h2,h3,h4.same s⟩,e.own.same s⟩
def tD(X:Cx)(ow:Ow)(ρ:af)(d:D)(k:Nat):TE:=fun σ H Q=>aL X ow H σ ρ/\∀v H',ay H H'->ah X.K H' (Kp ow H k) d v->Q v H'
def ED(X:Cx)(ρ:af)(e:Expr)(d:D)(k:Nat):Prop:=∀ow,PE X e (tD X ow ρ d k)
def Di(X:Cx)(ow:Ow)(ρ:af)(b:Bool):TT:=fun σ H Q=>aL X ow H σ ρ/\∀H',ay H H'->Q b H'
def TD(X:Cx)(ρ:af)(e:Expr)(b:Bool):Prop:=∀ow,PT X e (Di X ow ρ b)
def SR(X:Cx)(ow:Ow)(ρ:af)(ds:List D)(k:Nat):TA:=fun σ H Q=>aL X ow H σ ρ/\∀vs H',ay H H'->ag X.K H' (Kp ow H k) ds vs->Q vs H'
def AD(X:Cx)(ρ:af)(es:List Expr)(ds:List D)(k:Nat):Prop:=∀ow,PA X es (SR X ow ρ ds k)
theorem bK{t t':TE}(h:PE X e t)(i:∀σ H Q,t' σ H Q->t σ H Q):PE X e t':=fun pins s σ H Q I q=>h pins s σ H Q I (i σ H Q q)
theorem yC{t t':TT}(h:PT X e t)(i:∀σ H Q,t' σ H Q->t σ H Q):PT X e t':=fun pins s σ H Q I q=>h pins s σ H Q I (i σ H Q q)
theorem D7{e:List Expr}{t t':TA}(h:PA X e t)(i:∀σ H Q,t' σ H Q->t σ H Q):PA X e t':=fun pos pins s σ H Q I q=>h pos pins s σ H Q I (i σ H Q q)
def kn(d:D)(k:Nat):Nat:=if d.lless=true then 0 else k
theorem ED.kn{ρ:af}{d:D}(h:ED X ρ e d k):ED X ρ e d (Sp.kn d k):=by
 unfold Sp.kn
 by_cases f:d.lless=true
 ·rw[if_pos f]
  exact fun ow=>bK (h ow) fun σ H Q ⟨E,q⟩=>⟨E,fun v H' s r=>q v H' s (r.flat _ f)⟩
 ·rw[if_neg f];exact h
variable{C C' ρ ρ':af}{d y z:D}{ow ow':Ow}{ds l l':List D}{P:be}
def MI(K:W.Frag)(J:It)(ds:List D)(P:be)(H1:Hp):Prop :=
 ∀(i:Nat) (H2:Hp),dl P P H1 H2->(∀d,ds[i]?=some d->J.go i H2/\∀x H3,J.yld i H2 x H3->ay H2 H3/\ah K H3 P d x)/\(ds.length<=i->J.stop i H2)
def Kd(ow:Ow)(H:Hp)(k:Nat)(H1:Hp):be:=fun a b=>Kp ow H k a b/\(b=true->∃o,H1 a=some o)
def tI(X:Cx)(ow:Ow)(ρ:af)(ds:List D)(k:Nat):TI:=fun σ H R=>aL X ow H σ ρ/\∀J H1,ay H H1->MI X.K J ds (Kd ow H k H1) H1->R J H1
def IE(X:Cx)(ρ:af)(tg iter:Expr)(ds:List D)(k:Nat):Prop:=∀ow,PI X tg iter (tI X ow ρ ds k)
def iK(ifs:List Expr)(env:Env):Sem Bool:=forIn ifs true fun c r=>if r=true then do let ok <- isTrue c env (eval c env);pure (ForInStep.yield ok)else pure (ForInStep.yield r)
def A0(X:Cx)(ρ:af)(ifs:List Expr)(b:Bool):Prop:=∀ow (pins:List (Addr×Obj)) (s:Shared) (σ:L2.St) (H:Hp) (Q:Bool->Hp->Prop),aj X pins σ H s->Di X ow ρ b σ H Q->wpAny (model X.prog X.w) X.A (iK ifs X.env) (TP X pins σ Q) X.xe s
def GD(X:Cx)(ρ:af)(tg:Expr)(d:D)(ρ':af):Prop:=∃g:TG,PG X tg g/\∀(ow:Ow) (v:V) (σ:L2.St) (H:Hp) (Q:L2.St->Hp->Prop),σ.length=X.N.length->aL X ow H σ ρ->ah X.K H (fun a b=>b=true->ow a=none) d v->(∀σ',σ'.length=X.N.length->aL X ow H σ' ρ'->Q σ' H)->g v σ H Q
abbrev lW(X:Cx)(scope:Scope)(cl:List (Str×Addr))(C:Addr)(N':List Str)(s:Shared)(H:Hp)(fp:List Addr):Cx :=
 { X with N:=N',s₀:=s,H₀:=H,env:=compEnvC scope cl C X.env,outer:=X.stack,stack:=X.stack,ex:=fp,fn:=fun x=>decide (scope.names.lookup x=some .cell),pn:=[],xe:=fun _ _=>False }
theorem iM{env:Env}:∀(names:List (Str×NameKind)) (cs:List (Str×Addr)),(∀n,(n,NameKind.free)∈names->∃c,env.cells.lookup n=some c) ->
  ∃cl,(forIn names cs (fun(x:Str×NameKind) (r:List (Str×Addr))=>(if (x.2==NameKind.free)=true then do let a <- cellOf env x.1;pure (ForInStep.yield ((x.1,a)::r))else pure (ForInStep.yield r):Sem (ForInStep (List (Str×Addr))))))=(pure cl:Sem (List (Str×Addr))) /\
   (∀x c,cl.lookup x=some c->(env.cells.lookup x=some c/\(x,NameKind.free)∈names)\/cs.lookup x=some c)/\(∀x,(x,NameKind.free)∈names->∃c,cl.lookup x=some c)/\(∀x c,cs.lookup x=some c->∃c',cl.lookup x=some c')
 | [],cs,_=>⟨cs,rfl,fun x c h=>.inr h,fun x h=>(by cases h),fun x c h=>⟨c,h⟩⟩
 | (n,k)::r,cs,h=>by
  have hr:∀n,(n,NameKind.free)∈r->∃c,env.cells.lookup n=some c:=fun m hm=>h m (List.mem_cons_of_mem _ hm)
  by_cases hk:k=.free
  ·subst hk
   obtain⟨c,hc⟩:=h n List.mem_cons_self
   obtain⟨cl,e,h1,h2,h3⟩:=iM r ((n,c)::cs) hr
   refine⟨cl,?_,fun x c' hx=>?_,fun x hx=>?_,fun x c' hx=>?_⟩
   ·rw[List.forIn_cons]
    simp only[beq_self_eq_true,if_true,cellOf,hc]
    rw[pure_bind,pure_bind]
    exact e
   ·rcases h1 x c' hx with q|q
    ·exact .inl ⟨q.1,List.mem_cons_of_mem _ q.2⟩
    ·rw[List.lookup_cons]at q
     split at q
     ·rename_i hb
      have:x=n:=by simpa using hb
      subst this;cases q;exact .inl ⟨hc,List.mem_cons_self⟩
     ·exact .inr q
   ·rcases List.mem_cons.mp hx with q|q
    ·cases q
     exact h3 n c (by simp)
    ·exact h2 x q
   ·by_cases hb:x==n
    ·exact h3 x c (by rw[List.lookup_cons,hb])
    ·exact h3 x c' (by rw[List.lookup_cons];simp only[hb];exact hx)
  ·obtain⟨cl,e,h1,h2,h3⟩:=iM r cs hr
   refine⟨cl,?_,fun x c hx=>(h1 x c hx).imp (fun q=>⟨q.1,List.mem_cons_of_mem _ q.2⟩) id,fun x hx=>?_,h3⟩
   ·rw[List.forIn_cons]
    have:(k==NameKind.free)=false:=by simpa using hk
    simp only[this,Bool.false_eq_true,if_false]
    rw[pure_bind]
    exact e
   ·rcases List.mem_cons.mp hx with q|q
    ·cases q;exact absurd rfl hk
    ·exact h2 x q
theorem vE(h:∀n,(n,NameKind.free)∈scope.names->∃c,env.cells.lookup n=some c) :
  ∃cl,closureFor scope env=pure cl/\(∀x c,cl.lookup x=some c->env.cells.lookup x=some c/\(x,NameKind.free)∈scope.names)/\(∀x,(x,NameKind.free)∈scope.names->∃c,cl.lookup x=some c):=by
 obtain⟨cl,e,h1,h2,_⟩:=iM scope.names [] h
 refine⟨cl,?_,fun x c hx=>(h1 x c hx).resolve_right (by simp),h2⟩
 unfold closureFor
 rw[<- e,<- bind_pure (forIn scope.names _ _)]
theorem dh{env:Env}:∀{names:List (Str×NameKind)} {x:Str},names.lookup x=some .free ->
  (names.map fun(n,k)=>if (k==NameKind.free&&env.scope.kind == .function&&env.kindOf n==some .cell)then(n,NameKind.cell)else(n,k)).lookup x=some .cell \/
  (names.map fun(n,k)=>if (k==NameKind.free&&env.scope.kind == .function&&env.kindOf n==some .cell)then(n,NameKind.cell)else(n,k)).lookup x=some .free
 | [],_,h=>by simp at h
 | (n,k)::r,x,h=>by
  have ih:=@dh env r x
  show List.lookup x ((if (k==NameKind.free&&env.scope.kind == .function&&env.kindOf n==some .cell)=true then(n,NameKind.cell)else(n,k))::_)=_\/List.lookup x ((if (k==NameKind.free&&env.scope.kind == .function&&env.kindOf n==some .cell)=true then(n,NameKind.cell)else(n,k))::_)=_
  cases hx:x==n with
  | true =>
   simp only[List.lookup_cons,hx]at h
   cases h
   by_cases hc:(NameKind.free==NameKind.free&&env.scope.kind == .function&&env.kindOf n==some .cell)=true
   ·rw[if_pos hc];simp[List.lookup_cons,hx]
   ·rw[if_neg hc];simp[List.lookup_cons,hx]
  | false =>
   simp only[List.lookup_cons,hx]at h
   by_cases hc:(k==NameKind.free&&env.scope.kind == .function&&env.kindOf n==some .cell)=true
   ·rw[if_pos hc];simp only[List.lookup_cons,hx];exact ih h
   ·rw[if_neg hc];simp only[List.lookup_cons,hx];exact ih h
theorem gj{env:Env}:∀{names:List (Str×NameKind)} {x:Str} {k:NameKind},(names.map fun(n,k)=>if (k==NameKind.free&&env.scope.kind == .function&&env.kindOf n==some .cell)then(n,NameKind.cell)else(n,k)).lookup x=some k ->
  names.lookup x=some k\/(k=.cell/\names.lookup x=some .free)
 | [],_,_,h=>by simp at h
 | (n,j)::r,x,k,h=>by
  have ih:=@gj env r x k
  replace h:List.lookup x ((if (j==NameKind.free&&env.scope.kind == .function&&env.kindOf n==some .cell)=true then(n,NameKind.cell)else(n,j))::_)=some k:=h
  cases hx:x==n with
  | true =>
   simp only[List.lookup_cons,hx]
   by_cases hc:(j==NameKind.free&&env.scope.kind == .function&&env.kindOf n==some .cell)=true
   ·rw[if_pos hc]at h
    simp only[List.lookup_cons,hx]at h
    cases h
    have:j=.free:=by
     have:=(Bool.and_eq_true _ _).mp ((Bool.and_eq_true _ _).mp hc).1
     simpa using this.1
    exact .inr ⟨rfl,by rw[this]⟩
   ·rw[if_neg hc]at h
    simp only[List.lookup_cons,hx]at h
    exact .inl h
  | false =>
   simp only[List.lookup_cons,hx]
   by_cases hc:(j==NameKind.free&&env.scope.kind == .function&&env.kindOf n==some .cell)=true
   ·rw[if_pos hc]at h;simp only[List.lookup_cons,hx]at h;exact ih h
   ·rw[if_neg hc]at h;simp only[List.lookup_cons,hx]at h;exact ih h
structure gX(env:Env)(scope:Scope)(N':List Str):Prop where
 kind:scope.kind=.function
 nn:(scope.names.map (·.1)).Nodup
 names:∀y∈scope.names,y.2=.local->scope.names.lookup y.1=some .local
 nd:N'.Nodup
 fr:∀n,(n,NameKind.free)∈scope.names->env.kindOf n=some .cell\/env.kindOf n=some .free
theorem ue:∀{names:List (Str×NameKind)} {x:Str} {k:NameKind},(names.map (·.1)).Nodup->(x,k)∈names->names.lookup x=some k
 | [],_,_,_,h=>by cases h
 | (n,j)::r,x,k,nd,h=>by
  rw[List.map_cons,List.nodup_cons]at nd
  rcases List.mem_cons.mp h with e|h'
  ·cases e;simp
  ·have hx:(x==n)=false:=by
    cases q:x==n with
    | false=>rfl
    | true =>
     have:x=n:=by simpa using q
     subst this
     have hm:x∈r.map (·.1):=List.mem_map.mpr ⟨(x,k),h',rfl⟩
     exact absurd hm nd.1
   rw[List.lookup_cons,hx]
   exact ue nd.2 h'
theorem qf:∀(names:List (Str×NameKind)) (n:Nat) (acc:List (Str×Addr)) {x:Str} {c:Addr},(cellsFrom n names acc).lookup x=some c->acc.lookup x=some c\/(n<=c/\(x,NameKind.cell)∈names)
 | [],_,_,_,_,h=>.inl h
 | (y,k)::r,n,acc,x,c,h=>by
  unfold cellsFrom at h
  split at h
  ·rename_i hk
   have hk:k=.cell:=by simpa using hk
   subst hk
   rcases qf r (n+1) ((y,n)::acc) h with q|⟨q1,q2⟩
   ·rw[List.lookup_cons]at q
    split at q
    ·rename_i hb
     have:x=y:=by simpa using hb
     subst this
     cases q
     exact .inr ⟨Nat.le_refl _,List.mem_cons_self⟩
    ·exact .inl q
   ·exact .inr ⟨by omega,List.mem_cons_of_mem _ q2⟩
  ·rcases qf r n acc h with q|⟨q1,q2⟩
   ·exact .inl q
   ·exact .inr ⟨q1,List.mem_cons_of_mem _ q2⟩
theorem uT:∀(names:List (Str×NameKind)) (n:Nat) (acc:List (Str×Addr)),(∀x y c,acc.lookup x=some c->acc.lookup y=some c->x=y)->(∀x c,acc.lookup x=some c->c<n) ->
  ∀x y c,(cellsFrom n names acc).lookup x=some c->(cellsFrom n names acc).lookup y=some c->x=y
 | [],_,_,h,_,x,y,c,a,b=>h x y c a b
 | (z,k)::r,n,acc,h,hb,x,y,c,a,b=>by
  unfold cellsFrom at a b
  split at a
  ·rename_i hk
   rw[if_pos hk]at b
   refine uT r (n+1) ((z,n)::acc) (fun u v d p q=>?_) (fun u d p=>?_) x y c a b
   ·rw[List.lookup_cons]at p q
    split at p
    ·rename_i e1
     split at q
     ·rename_i e2
      rw[show u=z by simpa using e1,show v=z by simpa using e2]
     ·cases p;exact absurd (hb v _ q) (Nat.lt_irrefl _)
    ·split at q
     ·cases q;exact absurd (hb u _ p) (Nat.lt_irrefl _)
     ·exact h u v d p q
   ·rw[List.lookup_cons]at p
    split at p
    ·cases p;exact Nat.lt_succ_self _
    ·exact Nat.lt_succ_of_lt (hb u d p)
  ·rename_i hk
   rw[if_neg hk]at b
   exact uT r n acc h hb x y c a b
theorem rk:∀(names:List (Str×NameKind)) (h:Heap) (acc:List (Str×Addr)),(∀x c,acc.lookup x=some c->∃v,h.IsCell c v)->∀x c,(cellsFrom h.objs.size names acc).lookup x=some c->∃v,(pushCells h names).IsCell c v
 | [],_,_,h,x,c,a=>h x c a
 | (z,k)::r,h,acc,hc,x,c,a=>by
  unfold cellsFrom at a
  unfold pushCells
  split at a
  ·rename_i hk
   rw[if_pos hk]
   have:=rk r (h.push { cls:=.type "cell", data:=.cell none }) ((z,h.objs.size)::acc) (fun u d p=>?_) x c
   ·rw[Heap.size_push]at this
    exact this a
   ·rw[List.lookup_cons]at p
    split at p
    ·cases p;exact⟨none,_,Heap.get?_push_size _ rfl,rfl⟩
    ·obtain⟨v,q⟩:=hc u d p
     exact⟨v,q.keeps fun b o e=>Heap.get?_push_of_some _ e⟩
  ·rename_i hk
   rw[if_neg hk]
   exact rk r h acc hc x c a
theorem yW{globals:Addr}{Q:Env->Shared->Prop}(hcl:∀x c,cl.lookup x=some c->∃v,s.heap.IsCell c v)
  (h:∀h',h'.Ns s.heap.objs.size (fun _=>none)->(∀b o,s.heap.get? b=some o->h'.get? b=some o)->(∀x c,(cellsFrom (s.heap.objs.size+1) scope.names cl).lookup x=some c->∃v,h'.IsCell c v) ->
   Q (newEnv scope s.heap.objs.size globals (cellsFrom (s.heap.objs.size+1) scope.names cl) qual none .none (some env) builtinsNs) { s with heap:=h',toks:=s.toks+0 }) :
  wpAny M A (newFunctionEnv scope globals cl [] qual none .none (some env)) Q E s:=by
 simp only[newFunctionEnv,Option.isSome_some,if_true]
 refine wpAny_bind (wpAny_alloc ?_)
 refine wpAny_bind (wpAny_layCells _ (fun name kind cells=>by cases hkc:kind==NameKind.cell<;>simp[hkc]) _ _ _ _ ?_)
 rw[show({ s with heap:=s.heap.push { cls:=.type "dict", data:=.dict #[] } }:Shared).heap.objs.size=s.heap.objs.size+1 from Heap.size_push ..]
 rw[List.forIn_nil]
 refine wpAny_bind (wpAny_pure (wpAny_pure ?_))
 refine h _ ((Heap.Ns.new s.heap (.type "dict")).keeps (pushCells_keeps _ _)) (fun b o e=>pushCells_keeps _ _ b o (Heap.get?_push_of_some _ e)) fun x c hc=>?_
 have:=rk scope.names (s.heap.push { cls:=.type "dict", data:=.dict #[] }) cl (fun u d p=>by
  obtain⟨v,q⟩:=hcl u d p
  exact⟨v,q.keeps fun b o e=>Heap.get?_push_of_some _ e⟩) x c
 rw[Heap.size_push]at this
 exact this hc
structure nJ(X:Cx)(scope:Scope)(cl:List (Str×Addr))(n:Nat):Prop where
 k1:∀x c,cl.lookup x=some c->X.env.cells.lookup x=some c\/(n<c/\scope.names.lookup x=some .cell)
 k2:∀x,scope.names.lookup x=some .free\/scope.names.lookup x=some .cell->∃c,cl.lookup x=some c
 k4:∀x y c,cl.lookup x=some c->cl.lookup y=some c->x=y
 k5:∀x c,scope.names.lookup x=some .cell->cl.lookup x=some c->n<=c
variable{X:Cx}
theorem Cw(I:aj X pins σ H s)(S:gX X.env scope N')
  (h1:∀x c,cl.lookup x=some c->X.env.cells.lookup x=some c/\(x,NameKind.free)∈scope.names) (h2:∀x,(x,NameKind.free)∈scope.names->∃c,cl.lookup x=some c) :
  nJ X scope (cellsFrom (s.heap.objs.size+1) scope.names cl) s.heap.objs.size where
 k1:=fun x c h=>by
  rcases qf _ _ _ h with q|⟨q1,q2⟩
  ·exact .inl (h1 x c q).1
  ·exact .inr ⟨q1,ue S.nn q2⟩
 k2:=fun x h=>by
  refine Option.isSome_iff_exists.mp (W.cellsFrom_some scope.names _ cl ?_)
  rcases h with h|h
  ·obtain⟨c,hc⟩:=h2 x (PySem.mem_of_lookup h)
   exact .inr (by rw[hc];rfl)
  ·exact .inl h
 k4:=uT scope.names _ cl (fun x y c a b=>I.ok.inj x y c (h1 x c a).1 (h1 y c b).1) fun x c a=>by
  obtain⟨v,hv⟩:=I.cell x c (h1 x c a).1
  exact Nat.lt_succ_of_lt hv.lt
 k5:=fun x c hx h=>by
  rcases qf _ _ _ h with q|⟨q1,q2⟩
  ·rw[ue S.nn (h1 x c q).2]at hx;cases hx
  ·omega
theorem LK{C:Addr}{fp:List Addr}(I:aj X pins σ H s)(S:gX X.env scope N')
  (hC:s.heap.objs.size<=C) (k:nJ X scope cl s.heap.objs.size)
  (hf:∀b∈fp,fU X pins H b) (hfC:∀b∈fp,b<s.heap.objs.size):(lW X scope cl C N' s H fp).Ok where
 mod:=I.ok.mod
 kind:=by show(relabel scope X.env).kind=_;exact S.kind
 glob:=I.ok.glob
 blt:=I.ok.blt
 above:=hC
 inj:=k.k4
 has:=fun x hx=>by
  have hx:(relabel scope X.env).names.lookup x=some .cell\/(relabel scope X.env).names.lookup x=some .free:=hx
  rcases hx with hx|hx
  ·rcases gj hx with q|⟨_,q⟩
   ·exact k.k2 x (.inr q)
   ·exact k.k2 x (.inl q)
  ·rcases gj hx with q|⟨q,_⟩
   ·exact k.k2 x (.inl q)
   ·cases q
 cab:=fun x c h hc=>k.k5 x c (of_decide_eq_true h) hc
 hd:=I.ok.hd
 frames:=I.ok.frames
 stk:=.inl rfl
 exf:=fun b hb=>⟨by have:=hfC b hb;intro z;subst z;show False;exact absurd (Nat.lt_of_lt_of_le this hC) (Nat.lt_irrefl _),fun x c h=>by
  rcases k.k1 x c h with q|⟨q,_⟩
  ·exact(hf b hb).2.2.2.2.1 x c q
  ·have:=hfC b hb
   intro z;subst z;exact absurd (Nat.lt_trans q this) (Nat.lt_irrefl _)⟩
 bs:=I.bs
 bsz:=Nat.le_trans I.ok.bsz I.sz
 noex:=fun b o e hb=>by
  rcases(hf b hb).2.2.2.1 with q|q
  ·exact I.ok.noex b o e q
  ·exact absurd (Nat.lt_of_lt_of_le (Heap.lt_size e) (Nat.le_trans I.ok.bsz q)) (Nat.lt_irrefl _)
 exfs:=fun b hb z=>by
  rcases List.mem_cons.mp (I.stkSub b z)with q|q
  ·exact(hf b hb).2.1 q
  ·exact(hf b hb).2.2.1 q
 funs:=I.stack
 frf:=I.stkFree
def n9(X:Cx)(scope:Scope)(N':List Str)(σ:L2.St):L2.St:=N'.map fun x=>if scope.names.lookup x=some .free then(σ[X.N.idxOf x]?).join else none
theorem IO{s1:Shared}{fp:List Addr}{m:Str->Option Value}(I:aj X pins σ H s)(S:gX X.env scope N')
  (k:nJ X scope cl s.heap.objs.size) (k6:∀x c,cl.lookup x=some c->∃v,s1.heap.IsCell c v)
  (hf:∀b∈fp,fU X pins H b) (hfC:∀b∈fp,b<s.heap.objs.size)
  (es:∃h t,s1 = { s with heap:=h,toks:=t }) (hns:s1.heap.Ns s.heap.objs.size m) (hk:∀b o,s.heap.get? b=some o->s1.heap.get? b=some o) :
  aj (lW X scope cl s.heap.objs.size N' s H fp) [] (n9 X scope N' σ) H s1:=by
 obtain⟨h',t,rfl⟩:=es
 have I1:aj X pins σ H { s with heap:=h',toks:=t }:=I.kept hk
 refine⟨LK I S (Nat.le_refl _) k hf hfC,rfl,I.bare,Un.kept hk,⟨m,hns,fun i x v e1 e2 e3=>?_⟩,k6,I.hok.fresh (Nat.le_refl _),fun x c h=>(k.k1 x c h).elim (fun q=>I.freeC x c q) fun q=>I.hok.fresh (Nat.le_of_lt q.1),fun p hp=>absurd (show p∈([]:List (Addr×Obj))from hp) (by simp),I1.hok,?_⟩
 ·have hN:N'[i]?=some x:=e1
  unfold n9 at e2
  rw[List.getElem?_map,hN]at e2
  simp only[Option.map_some,Option.some.injEq]at e2
  split at e2
  ·rename_i hfr
   have hj:σ[X.N.idxOf x]?=some (some v):=by
    cases q:σ[X.N.idxOf x]? with
    | none=>rw[q]at e2;cases e2
    | some y=>rw[q]at e2;rw[show y=some v from e2]
   have hlt:X.N.idxOf x<X.N.length:=by rw[<- I.len];exact(List.getElem?_eq_some_iff.mp hj).1
   have hx:X.N[X.N.idxOf x]?=some x:=by
    rw[List.getElem?_eq_getElem hlt,List.getElem_idxOf hlt]
   have kf:=S.fr x (PySem.mem_of_lookup hfr)
   have vis:iS X.env.scope x:=.inr (kf.imp id id)
   obtain⟨m1,hn1,hl1⟩:=I1.loc
   obtain⟨u,r,l⟩:=hl1 _ x v hx hj vis
   refine⟨u,r,.inr ⟨?_,?_⟩⟩
   ·exact dh hfr
   ·rcases l with⟨hk',_⟩|⟨_,c,hc,hcell⟩
    ·rcases kf with q|q<;>rw[q]at hk'<;>cases hk'
    ·obtain⟨c',hc'⟩:=k.k2 x (.inl hfr)
     have:c'=c:=by
      rcases k.k1 x c' hc' with this|⟨_,this⟩
      ·rw[hc]at this;exact(Option.some.inj this).symm
      ·rw[hfr]at this;cases this
     subst this
     exact⟨c',hc',hcell⟩
  ·cases e2
 ·unfold n9;simp
def flt(scope:Scope)(ρ:af):af:=fun x=>if scope.names.lookup x=some .free then ρ x else none
theorem km{y:D×Bool}(h:flt scope ρ x=some y):ρ x=some y/\scope.names.lookup x=some .free:=by
 unfold flt at h
 split at h
 ·rename_i e;exact⟨h,e⟩
 ·cases h
theorem Jm{C:Addr}(E:aL X ow H σ ρ)(hN:X.N.Nodup)
  (hsub:∀x d o,flt scope ρ x=some (d,o)->x∈N') :
  aL (lW X scope cl C N' s H0 fp) ow H (n9 X scope N' σ) (flt scope ρ):=by
 refine⟨fun x d o h=>?_,E.own⟩
 obtain⟨h1,h2⟩:=km h
 obtain⟨i,v,e1,e2,e3,e4⟩:=E.get x d o h1
 have hx:x∈N':=hsub x d o h
 have hi:X.N.idxOf x=i:=by
  have hm:x∈X.N:=List.mem_of_getElem? e1
  have hlt:=List.idxOf_lt_length_iff.mpr hm
  exact iF hN (by rw[List.getElem?_eq_getElem hlt,List.getElem_idxOf hlt]) e1
 refine⟨N'.idxOf x,v,?_,?_,?_,e4⟩
 ·have hlt:=List.idxOf_lt_length_iff.mpr hx
  show N'[N'.idxOf x]?=some x
  rw[List.getElem?_eq_getElem hlt,List.getElem_idxOf hlt]
 ·exact .inr (dh h2)
 ·have hlt:=List.idxOf_lt_length_iff.mpr hx
  unfold n9
  rw[List.getElem?_map,List.getElem?_eq_getElem hlt,List.getElem_idxOf hlt]
  simp only[Option.map_some]
  rw[if_pos h2,hi,e3];rfl
variable{X:Cx}
theorem AC{R:Result->Shared->Prop}{s:Shared}{target:Expr}{it acc:Value}(J:Nat->Shared->Prop)
    (turn:∀n s,J n s->wpAny (model prog w) A (pyNext it) (fun r s₁=>match r with
      | none=>R (.ok .next) s₁
      | some v=>wpAny (model prog w) A (letOwnedTupleGo target it v) (fun _ s₁=>wpAny (model prog w) A (assign target env v) (fun _ s₂ =>
          wpAny (model prog w) A (iK ifs env) (fun ok s₃ =>
            if ok=true then wpAny (model prog w) A (eval elt env) (fun x s₄ =>
              wpAny (model prog w) A (call (.builtin "list.append") [acc,x]) (fun _ s₅ => ∃m,m<n/\J m s₅) (fun _ _=>False) s₄) (fun _ _=>False) s₃
            else ∃m,m<n/\J m s₃) (fun _ _=>False) s₂) (fun _ _=>False) s₁) (fun _ _=>False) s₁) (fun _ _=>False) s)
    (n:Nat) (h:J n s):codeAny (model prog w) A (.compLoop (.ListComp elt [⟨target,iter,ifs,0⟩] scope pos) 0 it acc env) R s:=by
  refine codeAny_loop rfl J (fun n s hI=>?_) n h
  show wpAny _ A ((compTurn (.ListComp elt [⟨target,iter,ifs,0⟩] scope pos) 0 it acc env).onRaise (fun x=>do noteFrame x env;theTreesLotGoes x)) _ _ s
  refine wpAny_noted ?_
  rw[compTurn_list]
  refine wpAny_bind (wpAny_standAt (wpAny_bind (wpAny_mono (turn n s hI) (fun r s₁ h₁=>?_) fun _ _ h'=>h'.elim)))
  cases r with
  | none=>exact wpAny_pure h₁
  | some v =>
    refine wpAny_bind (wpAny_mono h₁ (fun _ s₁' h₁'=>?_) fun _ _ h'=>h'.elim)
    refine wpAny_bind (wpAny_mono h₁' (fun _ s₂ h₂=>wpAny_bind (wpAny_mono h₂ (fun ok s₃ h₃=>?_) fun _ _ h'=>h'.elim)) fun _ _ h'=>h'.elim)
    cases ok with
    | false=>exact wpAny_pure ⟨rfl,h₃⟩
    | true =>
      exact wpAny_bind (wpAny_bind (wpAny_mono h₃ (fun x s₄ h₄=>wpAny_bind (wpAny_mono h₄ (fun _ s₅ h₅=>wpAny_pure (wpAny_pure ⟨rfl,h₅⟩)) fun _ _ h'=>h'.elim)) fun _ _ h'=>h'.elim))
def nE(X:Cx)(ρ:af)(tg:Expr)(ifs:List Expr)(elt:Expr)(k:Nat)(d:D)(r:Option D):Prop :=
 ∃ρ' b,GD X ρ tg d ρ'/\(∀x y,ρ x=some y->ρ' x=some y)/\A0 X ρ' ifs b/\match r with|some d'=>b=true/\ED X ρ' elt d' k|none=>b=false
theorem fF(o:fh ow H){a:Addr}:∀{k:Nat},k<=1->Kp ow H k a true->ow a=none
 | 0,_,p=>o.free p.2
 | 1,_,p=>p rfl
 | _+2,h,_=>absurd h (by omega)
theorem Fz{H9:Hp}{D:Addr}{x:HO}(sm:ay H H9)(hD:H9 D=some x){a:Addr}:∀{k:Nat},k<=1->Kp (fun a=>if a=D then some none else ow a) H9 k a b->Kp ow H k a b/\(b=true->a≠D)
 | 0,_,p=>⟨⟨p.1,sm.free p.2⟩,fun _ z=>by subst z;have:=p.2;rw[hD]at this;cases this⟩
 | 1,_,p=>by
  have p:b=true->(if a=D then some none else ow a)=none:=p
  refine⟨fun hb=>?_,fun hb hz=>?_⟩
  ·have p:=p hb
   by_cases hz:a=D
   ·rw[if_pos hz]at p;cases p
   ·rw[if_neg hz]at p;exact p
  ·have p:=p hb
   rw[if_pos hz]at p;cases p
 | _+2,h,_=>absurd h (by omega)
theorem zY{D:Addr}(o:fh ow H)(hD:H D=none):∀{k:Nat},k<=1->Kp ow H k D true
 | 0,_=>⟨rfl,hD⟩
 | 1,_=>fun _=>o.free hD
 | _+2,h=>absurd h (by omega)
theorem pJ:∀{l:List D} {i:Nat} {d:D},ar l=true->l[i]?=some d->d.lless=true
 | [],_,_,_,h=>by simp at h
 | x::l,0,d,f,h=>by
  rw[ar,Bool.and_eq_true]at f
  simp at h;subst h;exact f.1
 | x::l,i+1,d,f,h=>by
  rw[ar,Bool.and_eq_true]at f
  exact pJ (i:=i) f.2 (by simpa using h)
structure nI(X:Cx)(pins:List (Addr×Obj))(σ:L2.St)(H5:Hp)(s6:Shared)(C:Addr)(m6:Str->Option Value):Prop where
 inv:aj X pins σ H5 s6
 ns:s6.heap.Ns C m6
 free:H5 C=none
 loc:C≠X.env.locals
 old:X.s₀.heap.objs.size<=C
 cell:∀x c,X.env.cells.lookup x=some c->c≠C
 pin:∀p∈X.pn++pins,p.1≠C
 fs:C∉X.fs
theorem rT{use:Option (Value->Sem Unit)}{Q':Value->Shared->Prop}{s:Shared}{H:Hp}{pos2:Pos}{ds:List D}{f:D->Option D}
  (hcalm:X.calm=true) (hN:X.N.Nodup) (hk:ar ds=true\/k<=1) (hko:ko<=1) (hlen:ds.length<sizeLine) (S:gX X.env scope N') (hsub:∀x d o,flt scope ρ x=some (d,o)->x∈N')
  (hi:IE X ρ tg iter ds k)
  (turn:∀cl C s H fp,∀d∈ds,nE (lW X scope cl C N' s H fp) (flt scope ρ) tg ifs elt ko d (f d))
  (hs:∀x,foldedSetIterable iter X.env x=pure x) (I:aj X pins σ H s) (E:aL X ow H σ ρ)
  (fin:∀D C s6 H5 m6,nI X pins σ H5 s6 C m6->ay H H5->ah X.K H5 (Kp ow H ko) (.lst (ds.filterMap f)) (.ref D)->compPost (model X.prog X.w) X.A X.xe use Q' (.ref D) C (.ok .next) s6) :
  wpAny (model X.prog X.w) X.A (comprehension (.ListComp elt [⟨tg,iter,ifs,0⟩] scope pos) scope X.env pos2 (newList []) false (eval iter X.env) use) Q' X.xe s:=by
 obtain⟨cl,hclos,h1,h2⟩:=vE (env:=X.env) (scope:=scope) fun n hn=>I.ok.has n (S.fr n hn)
 refine wpAny_comprehension_free rfl hs hclos S.kind S.names ?_
 refine aN (hi ow pins s σ H (fun J H1=>ay H H1/\MI X.K J ds (Kd ow H k H1) H1) I ⟨E,fun J H1 a b=>⟨a,b⟩⟩) fun v s1 h1'=>aN h1' fun itv s2 h2'=>?_
 obtain⟨it,fp,tn,J,H2,rfl,I2,T,st2,f2,s12,itd⟩:=h2'
 have hD2:H2 s2.heap.objs.size=none:=I2.hok.fresh (Nat.le_refl _)
 refine wpAny_newObj_type (yW (fun x c hc=>(I2.cell x c (h1 x c hc).1).imp fun v q=>q.keeps fun b o e=>Heap.get?_push_of_some _ e) fun h₁ hns₁ kp0 k60=>?_)
 have I3:aj X pins σ (aG H2 s2.heap.objs.size (.lst [])) { s2 with heap:=s2.heap.push { cls:=.type "list", dict:=none,data:=.seq ([]:List Value).toArray } } :=
  I2.laid (t':=s2.toks) (fun b u e=>Heap.get?_push_of_some _ e) (Nat.le_refl _) ⟨Nat.zero_le _,[],0,.nil,Heap.get?_push_size _ rfl⟩
 generalize hD:s2.heap.objs.size=D at *
 generalize hs3:({ s2 with heap:=s2.heap.push { cls:=.type "list", dict:=none,data:=.seq ([]:List Value).toArray } }:Shared)=s3 at *
 have hsz3:s3.heap.objs.size=D+1:=by rw[<- hs3];show(s2.heap.push _).objs.size=_;rw[Heap.size_push,hD]
 have f3:∀b∈fp,fU X pins (aG H2 D (.lst [])) b:=fun b hb=>by
  obtain⟨g0,g⟩:=f2 b hb
  obtain⟨o,e,_⟩:=T.obj _ _ st2 b hb
  have hlt:=Heap.lt_size e
  rw[hD]at hlt
  exact⟨by rw[ax (Nat.ne_of_lt hlt)];exact g0,g⟩
 have fl3:∀b∈fp,b<s3.heap.objs.size:=fun b hb=>by
  obtain⟨o,e,_⟩:=T.obj _ _ st2 b hb
  have hlt:=Heap.lt_size e
  rw[hD]at hlt
  rw[hsz3];exact Nat.lt_succ_of_lt hlt
 have kp:∀b o,s3.heap.get? b=some o->h₁.get? b=some o:=kp0
 have kc:nJ X scope (cellsFrom (s3.heap.objs.size+1) scope.names cl) s3.heap.objs.size:=Cw I3 S h1 h2
 generalize hcl':cellsFrom (s3.heap.objs.size+1) scope.names cl=cl' at *
 have I4:=IO (s1:={ s3 with heap:=h₁,toks:=s3.toks+0 }) (N':=N') I3 S kc k60 f3 fl3 ⟨_,_,rfl⟩ hns₁ kp
 have sH2:∀vs,ay H2 (aG H2 D (.lst vs)):=fun vs b o e=>by rw[ax (aV e hD2)];exact e
 let ow':Ow:=fun a=>if a=D then some none else ow a
 have ow'D:ow' D=some none:=if_pos rfl
 have ow'n:∀a,a≠D->ow' a=ow a:=fun a h=>if_neg h
 have own':∀{H':Hp} (vs:List V),H' D=some (.lst vs)->ay H2 H'->fh ow' H':=fun {H'} vs hd sm a ha=>by
  by_cases hz:a=D
  ·subst hz;exact⟨_,hd⟩
  ·rw[ow'n a hz]at ha
   obtain⟨o,e⟩:=(E.same s12).own a ha
   exact⟨o,sm a o e⟩
 have E4:aL (lW X scope cl' s3.heap.objs.size N' s3 (aG H2 D (.lst [])) fp) ow' (aG H2 D (.lst [])) (n9 X scope N' σ) (flt scope ρ):=by
  have E3:=Jm (scope:=scope) (cl:=cl') (C:=s3.heap.objs.size) (N':=N') (s:=s3) (fp:=fp) (H0:=aG H2 D (.lst [])) (E.same s12) hN hsub
  refine⟨fun x d o h=>?_,own' [] aE (sH2 [])⟩
  obtain⟨i,v,e1,e2,e3,e4⟩:=E3.get x d o h
  refine⟨i,v,e1,e2,e3,ah.same (sH2 []) (e4.impH (fun a ob ha p=>?_) fun a p=>?_)⟩
  ·have hz:a≠D:=aV ha hD2
   cases o with
   | true=>exact⟨p.1,(ow'n a hz).trans p.2⟩
   | false=>exact fun _=>(ow'n a hz).trans (p rfl)
  ·cases o with
   | true=>cases p.1
   | false=>exact fun z=>(by cases z)
 generalize hX':lW X scope cl' s3.heap.objs.size N' s3 (aG H2 D (.lst [])) fp=X' at *
 have turn':∀d∈ds,nE X' (flt scope ρ) tg ifs elt ko d (f d):=fun d hd=>by rw[<- hX'];exact turn _ _ _ _ _ d hd
 have eK:X'.K=X.K:=by rw[<- hX']
 have eP:X'.prog=X.prog:=by rw[<- hX']
 have eW:X'.w=X.w:=by rw[<- hX']
 have eA:X'.A=X.A:=by rw[<- hX']
 have eE:X'.env=compEnvC scope cl' s3.heap.objs.size X.env:=by rw[<- hX']
 have eX:X'.xe=fun _ _=>False:=by rw[<- hX']
 have eC:X'.calm=true:=by rw[<- hX'];exact hcalm
 have stat:∀{H':Hp},(∀b∈fp,H' b=none)->∀b∈fp,fU X' [] H' b:=fun hn b hb=>by
  rw[<- hX']
  refine⟨hn b hb,?_,?_,.inl hb,fun x c h=>(kc.k1 x c h).elim (fun q=>(f3 b hb).2.2.2.2.1 x c q) (fun q z=>by subst z;exact absurd (Nat.lt_trans q.1 (fl3 _ hb)) (Nat.lt_irrefl _)),fun p hp=>absurd (show p∈([]:List (Addr×Obj))from hp) (by simp)⟩
  ·show b≠s3.heap.objs.size
   exact Nat.ne_of_lt (fl3 b hb)
  ·intro z
   rcases List.mem_cons.mp (I3.stkSub b z)with q|q
   ·exact(f3 b hb).2.1 q
   ·exact(f3 b hb).2.2.1 q
 let Pe:be:=fun a b=>Kp ow H ko a b/\(b=true->a≠D)
 have loop:codeAny (model X.prog X.w) X.A (.compLoop (.ListComp elt [⟨tg,iter,ifs,0⟩] scope pos) 0 (.ref it) (.ref D) (compEnvC scope cl' s3.heap.objs.size X.env)) (compPost (model X.prog X.w) X.A X.xe use Q' (.ref D) s3.heap.objs.size) { s3 with heap:=h₁,toks:=s3.toks+0 }:=by
  refine AC (fun n s' => ∃(i:Nat) (σ':L2.St) (H':Hp) (vs:List V),aj X' [] σ' H' s'/\tn i s'.heap/\(∀b∈fp,H' b=none)/\aL X' ow' H' σ' (flt scope ρ)/\H' D=some (.lst vs)/\ay H2 H' /\
   ag X.K H' Pe ((ds.take i).filterMap f) vs/\i<=ds.length/\n=ds.length-i) ?_ ds.length
   ⟨0,n9 X scope N' σ,aG H2 D (.lst []),[],I4,?_,fun b hb=>(f3 b hb).1,E4,aE,sH2 [],?_,Nat.zero_le _,rfl⟩
  ·rintro n s5 ⟨i,σ5,H5,vs,I5,st5,fr5,E5,hD5,sm5,rp5,hi5,rfl⟩
   have stay:dl (Kd ow H k H2) (Kd ow H k H2) H2 H5:=.same sm5 fun _ _ p=>p
   have itd5:=itd i H5 stay
   by_cases hlt:i<ds.length
   ·obtain⟨go,yl⟩:=itd5.1 ds[i] (by simp[hlt])
    have Ti:=T.item X' eP eW eK eC i [] s5 σ5 H5 (fun _ _=>False) I5 (stat fr5) st5 go
    rw[eA]at Ti
    refine aN Ti fun r s6 ⟨u,hr,h6⟩=>?_
    subst hr
    refine aN h6 fun _ s7 ⟨x,H7,I7,r7,y7,st7,fr7⟩=>?_
    obtain⟨sm7,rx7⟩:=yl x H7 y7
    obtain⟨ρ',b,⟨g,hg,hgd⟩,hext,hts,hel⟩:=turn' ds[i] (List.getElem_mem hlt)
    have rx7':ah X'.K H7 (fun a b=>b=true->ow' a=none) ds[i] x:=by
     rw[eK]
     rcases hk with hk|hk
     ·exact rx7.flat _ (pJ hk (List.getElem?_eq_getElem hlt))
     refine rx7.impH (fun a o ha p _=>?_) fun a _ z=>(by cases z)
     obtain⟨p,p2⟩:=p
     obtain⟨o2,ho2⟩:=p2 rfl
     show ow' a=none
     rw[ow'n a (aV ho2 hD2)]
     exact fF E.own hk p
    have E7:=E5.same sm7
    have I7':=I7.pinned (stat fr7) (T.obj _ _ st7)
    have hg':=hg _ s7 σ5 H7 x u (fun σ' H'=>aL X' ow' H' σ' ρ'/\H7=H') I7' r7 (hgd ow' x σ5 H7 _ I7.len E7 rx7' fun σ' _ e=>⟨e,rfl⟩)
    rw[eP,eW,eA,eE,eX]at hg'
    refine aN hg' fun _ s8 ⟨σ8,H8,I8,E8,eH8⟩=>?_
    subst eH8
    have ht':=hts ow' _ s8 σ8 H7 (fun c H'=>c=b/\ay H7 H') I8 ⟨E8,fun H' sm=>⟨rfl,sm⟩⟩
    rw[eP,eW,eA,eE,eX]at ht'
    refine aN ht' fun c s9 ⟨H9,I9,ec,sm9⟩=>?_
    subst ec
    have back:∀{H':Hp} {σ':L2.St} {s':Shared},aj X' ([]++lE fp s7.heap) σ' H' s'->aj X' [] σ' H' s'/\tn (i+1) s'.heap/\∀b∈fp,H' b=none:=fun {H' σ' s'} J7=>by
     refine⟨J7.unpinned,T.keep _ _ _ st7 fun b hb o e=>(J7.pin (b,o) (List.mem_append_right _ (List.mem_append_right _ (hZ hb e)))).1,fun b hb=>?_⟩
     obtain⟨o,e,d⟩:=T.obj _ _ st7 b hb
     exact(J7.pin (b,o) (List.mem_append_right _ (List.mem_append_right _ (hZ hb e)))).2.1
    have envf:∀{H':Hp} {σ':L2.St},aL X' ow' H' σ' ρ'->aL X' ow' H' σ' (flt scope ρ):=fun {H' σ'} e=>⟨fun x d o h=>e.get x d o (hext x _ h),e.own⟩
    have tk:(ds.take (i+1)).filterMap f=(ds.take i).filterMap f++(f ds[i]).toList:=by
     rw[List.take_add_one]
     simp only[List.getElem?_eq_getElem hlt,Option.toList_some,List.filterMap_append]
     congr 1
    have sm59:ay H5 H9:=sm7.trans sm9
    cases hc:c with
    | false =>
     rw[if_neg Bool.false_ne_true]
     subst hc
     obtain⟨I9',st9,fr9⟩:=back I9
     have fn:f ds[i]=none:=by
      cases hf:f ds[i]with
      | none=>rfl
      | some d'=>rw[hf]at hel;cases hel.1
     refine⟨ds.length-(i+1),by omega,i+1,σ8,H9,vs,I9',st9,fr9,envf (E8.same sm9),sm59 _ _ hD5,sm5.trans sm59,?_,hlt,rfl⟩
     rw[tk,fn,Option.toList_none,List.append_nil]
     exact rp5.same sm59
    | true =>
     rw[if_pos rfl]
     subst hc
     obtain⟨d',fs,hed⟩:∃d',f ds[i]=some d'/\ED X' ρ' elt d' ko:=by
      cases hf:f ds[i]with
      | none=>rw[hf]at hel;cases hel
      | some d'=>rw[hf]at hel;exact⟨d',rfl,hel.2⟩
     have he':=hed ow' _ s9 σ8 H9 (fun v H'=>ay H9 H'/\ah X'.K H' (Kp ow' H9 ko) d' v) I9 ⟨E8.same sm9,fun v H' a r=>⟨a,r⟩⟩
     rw[eP,eW,eA,eE,eX]at he'
     refine aN he' fun y s10 ⟨v10,H10,I10,r10,sm10,rp10⟩=>?_
     have sm510:=sm59.trans sm10
     have hD10:=sm510 _ _ hD5
     have hlv:vs.length<sizeLine:=by
      rw[<- rp5.length]
      refine Nat.lt_of_le_of_lt (List.length_filterMap_le _ _) ?_
      rw[List.length_take];omega
     have ha':=rJ (X:=X') _ s10 σ8 H10 (.ref D) [v10] (.ref D) [y] (fun w H'=>aG H10 D (.lst (vs++[v10]))=H') I10 rfl (.cons r10 .nil) ⟨D,vs,v10,rfl,rfl,hD10,hlv,rfl⟩
     rw[eP,eW,eA,eX]at ha'
     refine aN ha' fun _ s11 ⟨w11,H11,I11,_,eH11⟩=>?_
     subst eH11
     obtain⟨I11',st11,fr11⟩:=back I11
     have s2D:∀a o,H2 a=some o->a≠D:=fun a o e=>aV e hD2
     have stD:dl Pe Pe H10 (aG H10 D (.lst (vs++[v10]))):=⟨fun a o h hn=>by rw[ax (fun z=>by subst z;rw[hD10]at h;cases h;exact hn)];exact h,fun a ws h p=>by rw[ax (p.2 rfl)];exact h,fun _ _ _ p=>p,fun _ p=>p⟩
     refine⟨ds.length-(i+1),by omega,i+1,σ8,_,vs++[v10],I11',st11,fr11,?_,aE,?_,?_,hlt,rfl⟩
     ·have E10:=envf ((E8.same sm9).same sm10)
      refine⟨fun x d o h=>?_,own' _ aE (fun a o e=>by rw[ax (s2D a o e)];exact(sm5.trans sm510) a o e)⟩
      obtain⟨i',v',e1,e2,e3,e4⟩:=E10.get x d o h
      refine⟨i',v',e1,e2,e3,e4.mono ⟨fun a o h hn=>by rw[ax (fun z=>by subst z;rw[hD10]at h;cases h;exact hn)];exact h,fun a ws h p=>?_,fun _ _ _ p=>p,fun _ p=>p⟩⟩
      have hz:a≠D:=by
       intro z;subst z
       cases o with
       | true=>have:=p.2;rw[ow'D]at this;cases this
       | false=>have:ow' a=none:=p rfl;rw[ow'D]at this;cases this
      rw[ax hz];exact h
     ·intro a o e
      rw[ax (s2D a o e)]
      exact(sm5.trans sm510) a o e
     ·rw[tk,fs,Option.toList_some]
      refine((rp5.same sm510).mono stD).append (ag.one (ah.mono stD ?_))
      rw[eK]at rp10
      have sH9:ay H H9:=s12.trans (sm5.trans sm59)
      exact rp10.imp fun a b p=>Fz sH9 (sm59 _ _ hD5) hko p
   ·have hstop:=itd5.2 (by omega)
    have Td:=T.done X' eP eW eK eC i [] s5 σ5 H5 (fun _ _=>False) I5 (stat fr5) st5 hstop
    rw[eA]at Td
    refine aN Td fun r s6 ⟨hr,I6⟩=>?_
    subst hr
    have ei:i=ds.length:=by omega
    subst ei
    rw[List.take_length]at rp5
    have hC:X'.env.locals=s3.heap.objs.size:=by rw[eE];rfl
    obtain⟨m6,hn6,_⟩:=I6.loc
    rw[hC]at hn6
    have hfree:H5 s3.heap.objs.size=none:=by have:=I6.free;rw[hC]at this;exact this
    have IX:aj X pins σ H5 s6:=by
     have b6:=I6.base
     have o6:=I6.os
     have k6:=I6.hok
     have g6:=I6.bare
     rw[<- hX']at b6 o6 k6
     exact I3.call' o6 b6 k6 g6 fun b hb=>⟨(f3 b hb).2.2.2.1,(f3 b hb).2.1,(f3 b hb).2.2.2.2.1,(f3 b hb).2.2.2.2.2⟩
    have hHD:H D=none:=s12.free hD2
    refine fin D _ s6 H5 m6 ⟨IX,hn6,hfree,Nat.ne_of_gt I3.lt,I3.sz,fun x c hc z=>?_,fun p hp z=>?_,I3.nofs (Nat.le_refl _)⟩ (s12.trans sm5) ?_
    ·obtain⟨v,hv⟩:=I3.cell x c hc
     have:=hv.lt
     rw[z]at this;exact absurd this (Nat.lt_irrefl _)
    ·have:=Heap.lt_size (I3.pin p hp).1
     rw[z]at this;exact absurd this (Nat.lt_irrefl _)
    ·rw[ah]
     exact⟨D,vs,true,rfl,hD5,zY E.own hHD hko,rp5.imp fun _ _ p=>p.1⟩
  ·exact T.keep 0 s2.heap h₁ st2 fun b hb o e=>kp b o (by rw[<- hs3];exact Heap.get?_push_of_some _ e)
  ·exact ag.nil
 exact codeAny_compStart_list loop (T.self _ 0 _ _ _ (T.keep 0 s2.heap h₁ st2 fun b hb o e=>kp b o (by rw[<- hs3];exact Heap.get?_push_of_some _ e)) loop)
theorem nI.done{H5:Hp}{s6:Shared}{C:Addr}{m6:Str->Option Value}(e:nI X pins σ H5 s6 C m6)(sb:Heap.SameBut C s6.heap h'):aj X pins σ H5 { s6 with heap:=h' } :=
 e.inv.turned (t':=s6.toks) (it:=C) (fun b o hb e=>sb.extBut b o hb e) e.free e.loc (.inr e.old) e.cell e.pin
theorem Gi{ds:List D}{f:D->Option D}
  (hcalm:X.calm=true) (hN:X.N.Nodup) (hk:ar ds=true\/k<=1) (hko:ko<=1) (hlen:ds.length<sizeLine) (S:gX X.env scope N') (hsub:∀x d o,flt scope ρ x=some (d,o)->x∈N')
  (hi:IE X ρ tg iter ds k)
  (turn:∀cl C s H fp,∀d∈ds,nE (lW X scope cl C N' s H fp) (flt scope ρ) tg ifs elt ko d (f d))
  (hs:∀x,foldedSetIterable iter X.env x=pure x:=by intro _;rfl) :
  ED X ρ (.ListComp elt [⟨tg,iter,ifs,0⟩] scope pos) (.lst (ds.filterMap f)) ko:=by
 intro ow pins s σ H Q I ⟨E,q⟩
 rw[eval_ListComp]
 refine rT hcalm hN hk hko hlen S hsub hi turn hs I E fun D C s6 H5 m6 ce sm rp=>?_
 exact⟨m6,ce.ns,fun h' sb=>⟨.ref D,H5,ce.done sb,rfl,q (.ref D) H5 sm rp⟩⟩
theorem EV{D0:kG}{x:Str}{spos:Pos}{s:Shared}{H:Hp}{ds:List D}{f:D->Option D}
  (hcalm:X.calm=true) (hN:X.N.Nodup) (hk:ar ds=true\/k<=1) (hko:ko<=1) (hlen:ds.length<sizeLine) (S:gX X.env scope N') (hsub:∀x d o,flt scope ρ x=some (d,o)->x∈N')
  (hi:IE X ρ tg iter ds k)
  (turn:∀cl C s H fp,∀d∈ds,nE (lW X scope cl C N' s H fp) (flt scope ρ) tg ifs elt ko d (f d))
  (hs:∀x,foldedSetIterable iter X.env x=pure x) (I:aj X pins σ H s) (E:aL X ow H σ ρ)
  (hsw:swapsWith (.ListComp elt [⟨tg,iter,ifs,0⟩] scope pos) (some (.Name x px)) spos.line X.env=pure true)
  (hx:X.N[i]?=some x) (hl:vp X.env.scope x) (hf:X.fn x=true\/X.env.scope.names.lookup x=some .local)
  (q:∀v H',ay H H'->ah X.K H' (Kp ow H ko) (.lst (ds.filterMap f)) v->D0.nx (σ.set i (some v)) H') :
  wpAny (model X.prog X.w) X.A (exec (.Assign [.Name x px] (.ListComp elt [⟨tg,iter,ifs,0⟩] scope pos) spos) X.env) (SP X pins D0) X.xe s:=by
 rw[exec_Assign_Name_used _ _ _ _ hsw]
 refine wpAny_bind (wpAny_standAt (wpAny_bind ?_))
 show wpAny _ X.A (do let _ <- comprehension (.ListComp elt [⟨tg,iter,ifs,0⟩] scope pos) scope X.env _ (newList []) false (eval iter X.env) (some (assign (.Name x px) X.env))) _ _ s
 refine wpAny_bind (wpAny_mono (rT (use:=some (assign (.Name x px) X.env)) (Q':=fun _ s'=>SP X pins D0 .next s') hcalm hN hk hko hlen S hsub hi turn hs I E fun D C s6 H5 m6 ce sm rp=>?_) (fun _ s' hq=>wpAny_pure (wpAny_pure hq)) fun _ _ e=>e)
 obtain⟨o,es,ep,ho,hd,hrest⟩:=id ce.ns
 have Ip:aj X (pins++[(C,o)]) σ H5 s6:=ce.inv.pins_of fun p hp=>by
  rcases List.mem_append.mp hp with z|z
  ·exact ce.inv.pin p (List.mem_append_right _ z)
  ·have e:p=(C,o):=by simpa using z
   subst e
   exact⟨ho,ce.free,ce.loc,ce.fs,fun v z=>by rw[hd]at z;cases z⟩
 show wpAny _ X.A (assign (.Name x px) X.env (.ref D)) _ _ _
 refine aN (jB (i:=i) hN hx hl hf (pins++[(C,o)]) s6 σ H5 (.ref D) (.ref D) (fun σ' H'=>σ.set i (some (.ref D))=σ'/\H5=H') Ip rfl ⟨rfl,rfl⟩) fun _ s7 ⟨σ7,H7,I7,e1,e2⟩=>?_
 subst e1 e2
 have pC:=(I7.pin (C,o) (List.mem_append_right _ (List.mem_append_right _ (by simp)))).1
 refine⟨m6,⟨o,es,ep,pC,hd,hrest⟩,fun h' sb=>?_⟩
 have ce':nI X pins (σ.set i (some (.ref D))) H5 s7 C m6:=⟨I7.unpinned,⟨o,es,ep,pC,hd,hrest⟩,ce.free,ce.loc,ce.old,ce.cell,ce.pin,ce.fs⟩
 exact⟨_,H5,ce'.done sb,q (.ref D) H5 sm rp⟩
mutual
def D.py:D->PyData
 | .non=>.none
 | .bl b=>.bool b
 | .int i=>.int i
 | .str x=>.str x
 | .dct _ _=>.dict []
 | .typ _=>.dict []
 | .sn _=>.dict []
 | .obj _ _ _=>.dict []
 | .cls _=>.dict []
 | .xc _ _=>.dict []
 | .tup l=>.tuple (eB l)
 | .lst l=>.list (eB l)
def eB:List D->List PyData
 | []=>[]
 | d::l=>d.py::eB l
end
inductive Rs(α:Type) where
 | ok (a:α) (l:List Prop)
 | st
def aJ:List Prop->Prop
 | []=>True
 | p::l=>p/\aJ l
def Rs.bnd{α β:Type}(r:Rs α)(f:α->Rs β):Rs β :=
 match r with
 | .st=>.st
 | .ok a l=>match f a with
  | .st=>.st
  | .ok b m=>.ok b (l++m)
def S4{α:Type}:Option α->Rs α
 | some a=>.ok a []
 | none=>.st
def gd(b:Bool):List Prop->List Prop
 | []=>[]
 | m=>[b=true->aJ m]
abbrev R1:=Rs (D×Nat)
def mk(d:D)(k:Nat):R1:=.ok (d,kn d k) []
structure Fx where
 fn:Str->Option (List D->Rs D)
 con:Str->Option D
 blt:Str->Option (List D->R1)
 itr:Str->Option (List D->Nat->R1)
 mth:Str->Option (D->List D->R1)
 mtt:Str->Option (List D->List D->Nat->Rs (List D))
 slf:D->Option Int->Option Int->R1:=fun _ _ _=>.st
 fld:Str->Str->Bool:=fun _ _=>false
 omt:Str->Str->Option (List D->Rs D):=fun _ _=>none
def DZ:Const->Option D
 | .none=>some .non
 | .bool b=>some (.bl b)
 | .int i=>some (.int i)
 | .str x=>some (.str x)
 | _=>none
def c6:Nat:=2 ^ 9000
def bJ(a b:Int):Prop:=a.natAbs<2 ^ 64\/b.natAbs<2 ^ 64\/(a.natAbs<c6/\b.natAbs<c6)\/(Builtin.Int.intBits a<=2 ^ 22/\Builtin.Int.intBits b<=2 ^ 22)
def gA(b:Int):Prop:=b≠0/\b.natAbs<c6
def Dw(a b:Int):Prop:=0<=b/\b<=1000/\a.natAbs<2 ^ 64
def bA:Nat:=40000
def CA(op:Operator)(a b:Int):R1 :=
 match op with
 | .Add=>.ok (.int (a+b),0) []
 | .Sub=>.ok (.int (a-b),0) []
 | .Mult=>.ok (.int (a*b),0) [bJ a b]
 | .FloorDiv=>.ok (.int (a.fdiv b),0) [gA b]
 | .Mod=>.ok (.int (a.fmod b),0) [b≠0]
 | .Pow=>.ok (.int (a ^ b.toNat),0) [Dw a b]
 | _=>.st
def xZ:Operator->Bool
 | .Add=>true
 | _=>false
def uY(op:Operator)(x y:D)(k j:Nat):R1 :=
 match x,y with
 | .int a,.int b=>CA op a b
 | .tup a,.tup b=>if xZ op=true then .ok (.tup (a++b),kn (.tup (a++b)) (kj k j)) [a.length+b.length<=bA]else .st
 | .lst a,.lst b=>if xZ op=true then .ok (.lst (a++b),0) [ar (a++b)=true,a.length+b.length<=bA]else .st
 | _,_=>.st
def yX(op:UnaryOp)(x:D):Option D :=
 match op,x with
 | .USub,.int a=>some (.int (-a))
 | .Not,.bl b=>some (.bl (!b))
 | _,_=>none
def gm(x y:D):Bool:=SeqAt.shaped x.py&&SeqAt.shaped y.py
def cG(x y:D):Bool:=PyData.eqv x.py y.py
def cW:List D->Option (List Int)
 | []=>some []
 | .int i::l=>(cW l).map (i :: ·)
 | _::_=>none
def xQ(x:D)(l:List D):Rs Bool:=.ok (l.any fun y=>cG y x) [gm (.tup l) x=true]
def D.isNon:D->Bool
 | .non=>true
 | _=>false
def eU:D->Option (List D)
 | .tup l=>some l
 | .lst l=>some l
 | _=>none
def gn(op:CmpOp)(a b:Int):Option Bool :=
 match op with
 | .Lt=>some (decide (a<b))
 | .LtE=>some (decide (a<=b))
 | .Gt=>some (decide (b<a))
 | .GtE=>some (decide (b<=a))
 | _=>none
def xI(op:CmpOp)(x y:D):Option Bool :=
 match x,y with
 | .int a,.int b=>gn op a b
 | _,_=>none
def Rs.nt:Rs Bool->Rs Bool
 | .ok b l=>.ok (!b) l
 | .st=>.st
def oC:D->Option bU
 | .int i=>some (.inl i)
 | .str x=>some (.inr x)
 | _=>none
def me(ks:List bU)(ds:List D)(k:bU):Option D:=((ks.zip ds).find? fun p=>decide (p.1=k)).map (·.2)
def fB(ks:List bU)(k:bU):Bool:=ks.any fun j=>decide (j=k)
def ky(ks:List bU)(k:bU):List bU:=cond (fB ks k) ks (ks++[k])
def eF{α:Type}(ks:List bU)(ds:List α)(k:bU)(d:α):List α:=cond (fB ks k) (List.zipWith (fun j e=>if j=k then d else e) ks ds) (ds++[d])
def DO(x y:D):Rs Bool :=
 match y with
 | .tup l=>xQ x l
 | .lst l=>xQ x l
 | .dct ks _=>(match oC x with|some k=>.ok (fB ks k) []|none=>.st)
 | .str b=>(match x with | .str a=>.ok (Txt.contains b a) []|_=>.st)
 | _=>.st
def iL(op:CmpOp)(x y:D):Rs Bool :=
 match op with
 | .Eq=>.ok (cG x y) [gm x y=true]
 | .NotEq=>.ok (!cG x y) [gm x y=true]
 | .In=>DO x y
 | .NotIn=>(DO x y).nt
 | .Is=>(match y with | .non=>.ok x.isNon []|_=>.st)
 | .IsNot=>(match y with | .non=>.ok (!x.isNon) []|_=>.st)
 | op=>S4 (xI op x y)
def D.ty0:D->Option String
 | .non=>some "NoneType"
 | .bl _=>some "bool"
 | .int _=>some "int"
 | .str _=>some "str"
 | .dct _ _=>some "dict"
 | .tup _=>some "tuple"
 | .lst _=>some "list"
 | _=>none
def IN(x:D)(T:String):Option Bool:=x.ty0.map fun a=>decide (a=T) || decide (a = "bool" /\ T = "int")
def xn(x:Str):Option String :=
 if x = "int" then some "int" else if x = "bool" then some "bool" else if x = "str" then some "str" else if x = "tuple" then some "tuple" else if x = "list" then some "list" else if x = "ValueError" then some "ValueError" else none
def du:List D->Option (List Bool)
 | []=>some []
 | .bl i::l=>(du l).map (i :: ·)
 | _::_=>none
def iN:List Str:=["len", "tuple", "list", "abs", "all", "sum", "isinstance", "set", "int", "bool", "str", "range", "zip", "enumerate", "any", "sorted", "min", "max", "reversed", "ValueError"]
def iH:Expr->Bool
 | .Tuple .. => true
 | _=>false
def fc(e tg:Expr):Bool :=
 match e with
 | .Call (.Name f _) _ _ _=>if f = "enumerate" \/ f = "zip" then iH tg else true
 | _=>true
def Dq(x:Str):List D:=x.cps.toList.map fun c=>.str ⟨#[c]⟩
def items:D->Option (List D)
 | .lst l=>some l
 | .tup l=>some l
 | .str x=>if (x.cps.all fun c=>decide (c<128))=true then some (Dq x)else none
 | _=>none
def bc(ρ:af)(x:Str)(y:D×Bool):af:=fun z=>if z=x then some y else ρ z
def cY(sc:Scope)(x:Str):Bool:=sc.names.lookup x==some .local || sc.names.lookup x==some .cell
def aW(sc:Scope):List Expr->List D->af->Option af
 | [],[],ρ=>some ρ
 | .Name x _::es,d::ds,ρ=>if cY sc x=true then aW sc es ds (bc ρ x (d,false))else none
 | _,_,_=>none
def bQ(sc:Scope)(tg:Expr)(d:D)(ρ:af):Option af :=
 match tg with
 | .Name x _=>if cY sc x=true then some (bc ρ x (d,false))else none
 | .Tuple es _ _=>(match d with | .tup ds=>aW sc es ds ρ|_=>none)
 | _=>none
def qg(sc scope:Scope):Bool :=
 decide (scope.kind=.function)&&scope.names.all (fun y=>decide (y.2 ≠ .local) || decide (scope.names.lookup y.1=some .local)) &&
 scope.names.all (fun y=>decide (y.2 ≠ .free) || cY sc y.1&&decide (sc.names.lookup y.1=some .cell) || decide (sc.names.lookup y.1=some .free))&&decide ((scope.names.map (·.1)).Nodup)
def ig(step:D->Rs (Option (D×Nat))):List D->Rs (List D×Nat)
 | []=>.ok ([],0) []
 | d::l=>(step d).bnd fun r=>(ig step l).bnd fun q=>match r with
  | none=>.ok q []
  | some p=>.ok (p.1::q.1,kj p.2 q.2) []
def uh(x:D)(i:Int)(k:Nat):R1 :=
 match eU x with
 | some l=>(match atI l i with|some d=>mk d k|none=>.st)
 | none=>.st
def j9(p:D×Nat)(f:Int->R1):R1 :=
 match p.1 with
 | .int j=>f j
 | _=>.st
def jU(p q:D×Nat):R1 :=
 match p.1 with
 | .dct ks ds=>(match oC q.1 with|some k=>(match me ks ds k with|some d=>.ok (d,0) []|none=>.st)|none=>.st)
 | x=>j9 q fun j=>uh x j p.2
def yg(l:List D)(lo hi:Option Int):List D:=(l.drop (HT.sIx l.length 0 lo)).take (HT.sIx l.length l.length hi-HT.sIx l.length 0 lo)
def eM(x:Str):Bool:=decide ((x==("__debug__" : Str))=false)&&decide ((x==("__classdict__" : Str))=false)
def yr(b:Bool)(r:Rs Bool):Rs Bool :=
 match r with
 | .ok c m=>.ok (b&&c) (gd b m)
 | .st=>match b with|false=>.ok false []|true=>.st
def DE(b:Bool)(r:Rs Bool):Rs Bool :=
 match r with
 | .ok c m=>.ok (b || c) (gd (!b) m)
 | .st=>match b with|true=>.ok true []|false=>.st
mutual
def qT(b:Bool):D->D->D
 | .int x,.int y=>.int (cond b x y)
 | .bl x,.bl y=>.bl (cond b x y)
 | .tup x,.tup y=>if x.length=y.length then .tup (lI b x y)else cond b (.tup x) (.tup y)
 | x,y=>cond b x y
def lI(b:Bool):List D->List D->List D
 | x::l,y::m=>qT b x y::lI b l m
 | l,m=>cond b l m
end
def Ac(t:Bool)(k j:Nat):Nat:=if k=j then k else cond t k j
def DQ(b:Bool)(r s:R1):R1 :=
 match r with
 | .st=>(match b with|true=>.st|false=>s)
 | .ok p m=>match s with
  | .st=>(match b with|true=>.ok p m|false=>.st)
  | .ok q n=>.ok (qT b p.1 q.1,Ac b p.2 q.2) (gd b m++gd (!b) n)
def j7(Φ:Fx)(x:Str)(sc:Scope)(ρ:af):R1 :=
 if eM x=true then
  (if sc.names.lookup x=some .globalImplicit then(match Φ.con x with|some d=>.ok (d,0) []|none=>match xn x with|some T=>.ok (.typ T,0) []|none=>.st)
  else match ρ x with
   | some p=>mk p.1 (cond p.2 2 1)
   | none=>.st)
 else .st
def nB(Φ:Fx)(f:Str)(it:Bool)(ds:List D)(k:Nat):R1 :=
 match Φ.fn f with
 | some F=>(F ds).bnd fun d=>.ok (d,0) []
 | none=>match (if it=true then Φ.itr f else none)with
  | some B=>B ds k
  | none=>match Φ.blt f with
   | some B=>B ds
   | none=>.st
def ji{α:Type}(p:D×Nat)(f:Bool->Rs α):Rs α :=
 match p.1 with
 | .bl j=>f j
 | _=>.st
def I0(Φ:Fx)(x:D)(f:Str):R1 :=
 match x with
 | .obj n ns ds=>if Φ.fld n f=true then(match (ns.zip ds).lookup f with|some d=>.ok (d,0) []|none=>.st)else .st
 | .xc _ (some (_,[(g,i)]))=>if f=g then .ok (.int i,0) []else .st
 | _=>.st
def iO:Expr->Bool
 | .Call (.Name _ _) [] [] _=>false
 | _=>true
def BT(Φ:Fx)(a:Expr)(m:Str)(x:D)(ds:List D):R1 :=
 match x with
 | .obj n ns es=>if ns.contains m=false/\iO a=true/\ds.length<29 then(match Φ.omt n m with|some F=>(F (.obj n ns es::ds)).bnd fun d=>.ok (d,0) []|none=>.st)else .st
 | x=>if iO a=true then(match Φ.mth m with|some M=>M x ds|none=>.st)else .st
def JC(op op2:CmpOp)(x y z:D):R1 :=
 match x,y,z with
 | .int a,.int b,.int c=>(match gn op a b,gn op2 b c with|some r,some r2=>.ok (.bl (r&&r2),0) []|_,_=>.st)
 | _,_,_=>.st
mutual
def aA(Φ:Fx):Expr->Bool->Scope->af->R1
  | .Constant c _ _,_,_,_=>(match DZ c with|some d=>.ok (d,0) []|none=>.st)
  | .Name x _,_,sc,ρ=>j7 Φ x sc ρ
  | .BinOp a op b _,_,sc,ρ=>(aA Φ a false sc ρ).bnd fun p=>(aA Φ b false sc ρ).bnd fun q=>uY op p.1 q.1 p.2 q.2
  | .UnaryOp op a _,_,sc,ρ=>(aA Φ a false sc ρ).bnd fun p=>(match yX op p.1 with|some d=>.ok (d,0) []|none=>.st)
  | .BoolOp op es _,_,sc,ρ=>if es.isEmpty=true then .st else(dM Φ op es sc ρ).bnd fun b=>.ok (.bl b,0) []
  | .Compare a [op] [b] _,_,sc,ρ=>(aA Φ a false sc ρ).bnd fun p=>(aA Φ b false sc ρ).bnd fun q=>(iL op p.1 q.1).bnd fun r=>.ok (.bl r,0) []
  | .Compare a [op,op2] [b,c] _,_,sc,ρ=>(aA Φ a false sc ρ).bnd fun p=>(aA Φ b false sc ρ).bnd fun q=>(aA Φ c false sc ρ).bnd fun t=>JC op op2 p.1 q.1 t.1
  | .IfExp c a b _,_,sc,ρ=>(aA Φ c false sc ρ).bnd fun p=>ji p fun t=>DQ t (aA Φ a false sc ρ) (aA Φ b false sc ρ)
  | .Tuple es _ _,_,sc,ρ=>(bG Φ es sc ρ).bnd fun p=>if p.1.length<=bA then mk (.tup p.1) p.2 else .st
  | .Dict [] [] _,_,_,_=>.ok (.dct [] [],0) []
  | .List es _,_,sc,ρ=>(bG Φ es sc ρ).bnd fun p=>if p.1.length<=bA/\p.2<=1 then .ok (.lst p.1,p.2) []else .st
  | .Subscript a (.Slice lo hi none _) _,_,sc,ρ=>(aA Φ a false sc ρ).bnd fun p=>(rS Φ lo sc ρ).bnd fun l=>(rS Φ hi sc ρ).bnd fun h=>Φ.slf p.1 l h
  | .Subscript a i _,_,sc,ρ=>(aA Φ a false sc ρ).bnd fun p=>(aA Φ i false sc ρ).bnd fun q=>jU p q
  | .Call (.Name f _) args [] _,it,sc,ρ =>
    if sc.names.lookup f=some .globalImplicit then(bG Φ args sc ρ).bnd fun p=>nB Φ f it p.1 p.2
    else .st
  | .Attribute (.Name x _) f _,_,sc,ρ=>(j7 Φ x sc ρ).bnd fun p=>I0 Φ p.1 f
  | .Call (.Attribute a m ap) args [] cp,_,sc,ρ=>if (ap.endLine==cp.line)=true then(aA Φ a false sc ρ).bnd fun p=>(bG Φ args sc ρ).bnd fun q=>BT Φ a m p.1 q.1 else .st
  | .ListComp elt [⟨tg,iter,ifs,0⟩] scope _,_,sc,ρ =>
    if qg sc scope=true then(aA Φ iter true sc ρ).bnd fun p=>(match items p.1 with
      | some ds=>if fc iter tg=true then
          (Rs.ok () [ds.length<=bA,ar ds=true\/p.2<=1]).bnd fun _=>(ig (fun d=>match bQ scope tg d (flt scope ρ)with
            | none=>.st
            | some ρ'=>(dM Φ .And ifs scope ρ').bnd fun b=>cond b ((aA Φ elt false scope ρ').bnd fun r=>.ok (some r) []) (.ok none [])) ds).bnd fun q=>if q.2<=1 then .ok (.lst q.1,q.2) []else .st
        else .st
      | none=>.st)
    else .st
  | _,_,_,_=>.st
def bG(Φ:Fx):List Expr->Scope->af->Rs (List D×Nat)
 | [],_,_=>.ok ([],0) []
 | e::es,sc,ρ=>(aA Φ e false sc ρ).bnd fun p=>(bG Φ es sc ρ).bnd fun q=>.ok (p.1::q.1,kj p.2 q.2) []
def dM(Φ:Fx):BoolOp->List Expr->Scope->af->Rs Bool
 | .And,[],_,_=>.ok true []
 | .Or,[],_,_=>.ok false []
 | .And,e::es,sc,ρ=>(aA Φ e false sc ρ).bnd fun p=>ji p fun b=>yr b (dM Φ .And es sc ρ)
 | .Or,e::es,sc,ρ=>(aA Φ e false sc ρ).bnd fun p=>ji p fun b=>DE b (dM Φ .Or es sc ρ)
def rS(Φ:Fx):Option Expr->Scope->af->Rs (Option Int)
 | none,_,_=>.ok none []
 | some e,sc,ρ=>(aA Φ e false sc ρ).bnd fun p=>(match p.1 with | .int i=>.ok (some i) []|_=>.st)
end
theorem rg{Φ:Fx}{op:BoolOp}:aA Φ (.BoolOp op es p) it sc ρ=(if es.isEmpty=true then .st else(dM Φ op es sc ρ).bnd fun b=>.ok (.bl b,0) []):=rfl
theorem kr{Φ:Fx}{p:Pos}:aA Φ (.Call (.Name f p) args [] q) it sc ρ=(if sc.names.lookup f=some .globalImplicit then(bG Φ args sc ρ).bnd fun p=>nB Φ f it p.1 p.2 else .st):=rfl
theorem uM{Φ:Fx}:aA Φ (.Call (.Attribute a m ap) args [] cp) it sc ρ=(if (ap.endLine==cp.line)=true then(aA Φ a false sc ρ).bnd fun p=>(bG Φ args sc ρ).bnd fun q=>BT Φ a m p.1 q.1 else .st):=rfl
theorem rf{Φ:Fx}{q:Pos}:aA Φ (.ListComp elt [⟨tg,iter,ifs,0⟩] scope q) it sc ρ=(if qg sc scope=true then(aA Φ iter true sc ρ).bnd fun p=>(match items p.1 with
      | some ds=>if fc iter tg=true then
          (Rs.ok () [ds.length<=bA,ar ds=true\/p.2<=1]).bnd fun _=>(ig (fun d=>match bQ scope tg d (flt scope ρ)with
            | none=>.st
            | some ρ'=>(dM Φ .And ifs scope ρ').bnd fun b=>cond b ((aA Φ elt false scope ρ').bnd fun r=>.ok (some r) []) (.ok none [])) ds).bnd fun q=>if q.2<=1 then .ok (.lst q.1,q.2) []else .st
        else .st
      | none=>.st)
    else .st):=rfl
variable{Φ:Fx}{F:List D->Rs D}
inductive Fl where
 | nx (ρ:af)|rt (d:D)|bk (ρ:af)|ct (ρ:af)
def iI:Expr->Bool
 | .ListComp .. => true
 | .SetComp .. => true
 | .DictComp .. => true
 | _=>false
def xB(l:List D)(i:Int)(d:D):Option (List D):=(ja l.length i).map fun j=>l.set j d
def lH(f:af->Rs Fl):Fl->Rs Fl
 | .nx ρ=>f ρ
 | .ct ρ=>f ρ
 | .bk ρ=>.ok (.nx ρ) []
 | .rt d=>.ok (.rt d) []
def ff(bind:D->af->Option af)(body:af->Rs Fl):List D->af->Rs Fl
 | [],ρ=>.ok (.nx ρ) []
 | d::l,ρ=>match bind d ρ with
  | none=>.st
  | some ρ1=>(body ρ1).bnd (lH (ff bind body l))
def nO(test:af->Rs Bool)(body:af->Rs Fl):Nat->af->Rs Fl
 | 0,_=>.st
 | n+1,ρ=>(test ρ).bnd fun b=>cond b ((body ρ).bnd (lH (nO test body n))) (.ok (.nx ρ) [])
def demX(x:Str)(ρ:af):af:=fun y=>if y=x then(ρ y).map fun p=>(p.1,false)else ρ y
def demA(x:Str)(ρ:af):af:=fun y=>if y=x then(ρ y).map fun p=>(p.1,p.2&&p.1.lless)else ρ y
def demL:List Expr->af->af
 | [],ρ=>ρ
 | .Name x _::es,ρ=>demL es (demA x ρ)
 | .Subscript (.Name x _) _ _::es,ρ=>demL es (demA x ρ)
 | _::es,ρ=>demL es ρ
def demote(e:Expr)(ρ:af):af :=
 match e with
 | .Name x _=>demX x ρ
 | .Subscript (.Name x _) _ _=>demX x ρ
 | .Call _ args _ _=>demL args ρ
 | _=>ρ
def qJ(sc:Scope)(x:Str)(p:D×Nat)(ρ:af):Rs Fl :=
 if cY sc x=true then
  match p.2 with
  | 0=>.ok (.nx (bc ρ x (p.1,true))) []
  | 1=>.ok (.nx (bc ρ x (p.1,false))) []
  | _=>.st
 else .st
def qO(ρ:af)(x:Str)(f:List D->Rs Fl):Rs Fl :=
 match ρ x with
 | some (.lst l,true)=>if eM x=true then f l else .st
 | _=>.st
def pB(sc:Scope)(x y:Str)(px py:Pos)(a b:Expr):Bool :=
 sc.names.lookup x==some .local&&sc.names.lookup y==some .local&&(px.line==py.line) && !decide (x=y) && !([a,b].all (foldedForSure 8)) && !([a,b].all (constantsAlone 8))
def pV(Φ:Fx)(es:List Expr)(e:Expr)(sc:Scope)(ρ:af):Rs Fl :=
  match es,e with
  | [.Name x px,.Name y py],.Tuple [a,b] _ _=>if pB sc x y px py a b=true then(bG Φ [a,b] sc ρ).bnd fun p=>(match p.1 with
      | [u,v]=>if ar [u,v]=true\/p.2<=1 then .ok (.nx (bc (bc ρ x (u,false)) y (v,false))) []else .st
      | _=>.st)else .st
  | _,_=>.st
def uV(sc:Scope)(es:List Expr)(e:Expr):Bool :=
 match es,e with
 | [.Name x _,.Name _ _],.Tuple [_,_] _ _=>sc.names.lookup x==some .cell
 | _,_=>false
def sV(sc:Scope)(es:List Expr)(e:Expr):Bool:=iH e && !uV sc es e
def xH(sc:Scope)(es:List Expr)(p:D×Nat):Bool :=
 match es,p.1,p.2 with
 | [.Name x _,.Name y _],.tup [d1,d2],0=>d1.lless && !d2.lless && !decide (x=y)&&cY sc x&&cY sc y
 | _,_,_=>false
def Bz(es:List Expr)(p:D×Nat)(ρ:af):af :=
 match es,p.1 with
 | [.Name x _,.Name y _],.tup [d1,d2]=>bc (bc ρ y (d2,true)) x (d1,false)
 | _,_=>ρ
def M1(_:Expr):Bool:=true
def sZ(ρ:af)(x:Str)(i d:D):Rs Fl :=
 match ρ x with
 | some (.lst l,true)=>(match i with | .int j=>if eM x=true then(match xB l j d with|some l'=>.ok (.nx (bc ρ x (.lst l',true))) [ar l=true,d.lless=true]|none=>.st)else .st|_=>.st)
 | some (.dct ks ds,true)=>(match oC i with|some k=>if eM x=true then .ok (.nx (bc ρ x (.dct (ky ks k) (eF ks ds k d),true))) [d.lless=true,ks.length<bA]else .st|none=>.st)
 | _=>.st
def pY(Φ:Fx)(tgs:List Expr)(e:Expr)(sc:Scope)(ρ:af):Rs Fl :=
  match tgs with
  | [.Name x _]=>(aA Φ e false sc ρ).bnd fun p=>qJ sc x p ρ
  | [.Tuple es _ _]=>if sV sc es e=true then pV Φ es e sc ρ else(aA Φ e false sc ρ).bnd fun p=>if xH sc es p=true then .ok (.nx (Bz es p ρ)) []else(match eU p.1 with
      | some ds=>if ar ds=true\/p.2<=1 then(match aW sc es ds ρ with|some ρ'=>.ok (.nx ρ') []|none=>.st)else .st
      | none=>.st)
  | [.Subscript (.Name x _) i _]=>if M1 e=true then(aA Φ e false sc ρ).bnd fun p=>(aA Φ i false sc ρ).bnd fun q=>sZ ρ x q.1 p.1
    else .st
  | _=>.st
def CN(op:Operator)(a b:Int):R1 :=
 match op with
 | .Add=>.ok (.int (a+b),0) []
 | .Sub=>.ok (.int (a-b),0) []
 | .Mult=>.ok (.int (a*b),0) [bJ a b]
 | .FloorDiv=>.ok (.int (a.fdiv b),0) [gA b]
 | _=>.st
def pX(Φ:Fx)(t:Expr)(op:Operator)(e:Expr)(sc:Scope)(ρ:af):Rs Fl :=
  match t with
  | .Name x _=>if cY sc x=true then(match ρ x with
      | some p=>j9 (p.1,0) (fun a=>(aA Φ e false sc ρ).bnd fun q=>j9 q fun b=>CN op a b) |>.bnd fun r=>.ok (.nx (bc ρ x (r.1,true))) []
      | none=>.st)else .st
  | _=>.st
def pW(Φ:Fx)(e:Expr)(sc:Scope)(ρ:af):Rs Fl :=
  match e with
  | .Call (.Attribute (.Name x _) m ap) args [] cp=>if (ap.endLine==cp.line)=true then(bG Φ args sc ρ).bnd fun p=>(match Φ.mtt m with
      | some M=>qO ρ x fun l=>(M l p.1 p.2).bnd fun l'=>.ok (.nx (bc ρ x (.lst l',true))) []
      | none=>.st)else .st
  | .Call (.Name f p) args ks cp=>(aA Φ (.Call (.Name f p) args ks cp) false sc ρ).bnd fun _=>.ok (.nx ρ) []
  | _=>.st
def fP(ρ:af):af:=fun y=>(ρ y).map fun p=>(p.1,false)
def DG:Expr->Bool
 | .ListComp elt _ _ _=>iI elt
 | _=>false
def sB:Expr->Bool
 | .Tuple es _ _=>es.any DG
 | e=>DG e
def tJ(e:Expr)(ρ:af):af:=cond (sB e) (fP ρ) ρ
def xC(p:D×Nat):Rs Fl:=if p.2=0\/p.2=2 then .ok (.rt p.1) []else .st
mutual
def dJ(Φ:Fx):Stmt->Scope->af->Rs Fl
  | .Return (some e) _,sc,ρ=>(aA Φ e false sc (tJ e ρ)).bnd xC
  | .Return none _,_,_=>.ok (.rt .non) []
  | .Pass _,_,ρ=>.ok (.nx ρ) []
  | .Break _,_,ρ=>.ok (.bk ρ) []
  | .Continue _,_,ρ=>.ok (.ct ρ) []
  | .Assign tgs e _,sc,ρ=>pY Φ tgs e sc ρ
  | .AugAssign t op e _,sc,ρ=>pX Φ t op e sc ρ
  | .Expr e _,sc,ρ=>pW Φ e sc ρ
  | .If c a b _,sc,ρ=>(aA Φ c false sc ρ).bnd fun p=>ji p fun t=>cond t (aC Φ a sc ρ) (aC Φ b sc ρ)
  | .For tg it body els _,sc,ρ=>if els.isEmpty=true then(aA Φ it true sc (demote it ρ)).bnd fun p=>(match items p.1 with
      | some ds=>if p.2<=1/\fc it tg=true then ff (bQ sc tg) (aC Φ body sc) ds (demote it ρ)else .st
      | none=>.st)
    else .st
  | .While c body els _,sc,ρ=>if els.isEmpty=true then nO (fun ρ=>(aA Φ c false sc ρ).bnd fun p=>ji p fun b=>.ok b []) (aC Φ body sc) bA ρ else .st
  | _,_,_=>.st
def aC(Φ:Fx):List Stmt->Scope->af->Rs Fl
 | [],_,ρ=>.ok (.nx ρ) []
 | s::ss,sc,ρ=>(dJ Φ s sc ρ).bnd fun
  | .nx ρ'=>aC Φ ss sc ρ'
  | f=>.ok f []
end
theorem re{it:Expr}:dJ Φ (.For tg it body els q) sc ρ=(if els.isEmpty=true then(aA Φ it true sc (demote it ρ)).bnd fun p=>(match items p.1 with
      | some ds=>if p.2<=1/\fc it tg=true then ff (bQ sc tg) (aC Φ body sc) ds (demote it ρ)else .st
      | none=>.st)
    else .st):=rfl
theorem uH{ρ:af}:dJ Φ (.While c body els q) sc ρ=(if els.isEmpty=true then nO (fun ρ=>(aA Φ c false sc ρ).bnd fun p=>ji p fun b=>.ok b []) (aC Φ body sc) bA ρ else .st):=rfl
def cD:List Str->List D->af
 | p::ps,d::ds=>fun z=>if z=p then some (d,false)else cD ps ds z
 | _,_=>fun _=>none
def bZ(Φ:Fx)(sc:Scope)(ps:List Str)(body:List Stmt)(ds:List D):Rs D :=
 if ds.length=ps.length then(aC Φ body sc (cD ps ds)).bnd fun
  | .rt d=>.ok d []
  | .nx _=>.ok .non []
  | _=>.st
 else .st
def CH(ds:List D):R1 :=
 match ds with
 | [.sn n]=>.ok (.int n,0) []
 | [x]=>(match eU x with|some l=>.ok (.int l.length,0) []|none=>.st)
 | _=>.st
def mQ:List String:=["int", "bool", "str", "tuple", "list", "dict"]
def CJ(ds:List D):R1 :=
 match ds with
 | [.obj m _ _,.cls n]=>if m=n then .ok (.bl true,0) []else if m∈JB then .ok (.bl (sW m n),0) []else .st
 | [x,.typ T]=>if T∈mQ then(match IN x T with|some b=>.ok (.bl b,0) []|none=>.st)else .st
 | _=>.st
def u5(ds:List D):R1 :=
 match ds with
 | [x]=>(match eU x with|some l=>.ok (.tup l,0) [ar l=true]|none=>.st)
 | _=>.st
def yq(ds:List D):R1 :=
 match ds with
 | [x]=>(match eU x with|some l=>.ok (.lst l,0) [ar l=true]|none=>.st)
 | _=>.st
def CM(ds:List D):R1 :=
 match ds with
 | [.int i]=>.ok (.int (if i<0 then -i else i),0) []
 | _=>.st
def CL(ds:List D):R1 :=
 match ds with
 | [.lst l]=>(match du l with|some bs=>.ok (.bl (bs.all id),0) []|none=>.st)
 | _=>.st
def CF(ds:List D):R1 :=
 match ds with
 | [.lst l]=>(match cW l with|some ns=>.ok (.int ns.sum,0) []|none=>.st)
 | _=>.st
def CK(ds:List D):R1 :=
 match ds with
 | [.int i]=>.ok (.int i,0) []
 | [.bl b]=>.ok (.int (cond b 1 0),0) []
 | _=>.st
def lX(ds:List D)(_:Nat):R1 :=
 match ds with
 | [.int j]=>.ok (.lst ((List.range j.toNat).map fun i=>.int (i:Nat)),0) [-4611686018427387904<=j,j<=bA]
 | [.int i,.int j]=>.ok (.lst ((List.range (j-i).toNat).map fun m=>.int (i+(m:Nat))),0) [-4611686018427387904<=i,i<=4611686018427387000,-4611686018427387904<=j,j-i<=800]
 | _=>.st
def gZ:Nat->List D->List D
 | _,[]=>[]
 | n,x::xs=>.tup [.int (n:Nat),x]::gZ (n+1) xs
theorem nu:∀(l:List D) (n:Nat),gZ n l=l.mapIdx fun i x=>.tup [.int ((n+i:Nat):Int),x]
 | [],_=>rfl
 | x::l,n=>by
  rw[gZ,nu l (n+1),List.mapIdx_cons]
  simp only[Nat.add_zero]
  congr 1
  congr 1
  funext i y
  rw[show n+1+i=n+(i+1) by omega]
def x8(ds:List D)(k:Nat):R1 :=
 match ds with
 | [.tup a]=>.ok (.lst (gZ 0 a),0) [ar a=true]
 | [.lst a]=>.ok (.lst (gZ 0 a),k) [ar a=true]
 | _=>.st
def Cb(ds:List D)(k:Nat):R1 :=
 match ds with
 | [.tup a,.tup b]=>.ok (.lst (List.zipWith (fun x y=>.tup [x,y]) a b),0) [ar a=true,ar b=true]
 | [x,y]=>(match eU x,eU y with|some a,some b=>.ok (.lst (List.zipWith (fun x y=>.tup [x,y]) a b),k) [ar a=true,ar b=true]|_,_=>.st)
 | _=>.st
def cm(_:D)(_ _:Option Int):R1:=.st
def jG(l ds:List D)(k:Nat):Rs (List D) :=
 match ds with
 | [d]=>.ok (l++[d]) [d.lless=true\/k=0,l.length<bA]
 | _=>.st
def Tb(l:List (Str×(List D->Rs D)))(c:List (Str×D))(b:List (Str×(List D->R1)))(i:List (Str×(List D->Nat->R1)))(m:List (Str×(D->List D->R1)))(t:List (Str×(List D->List D->Nat->Rs (List D))))(sf:D->Option Int->Option Int->R1):Fx :=
 { slf:=sf,fn:=fun g=>l.lookup g,con:=fun x=>c.lookup x,blt:=fun x=>b.lookup x,itr:=fun x=>i.lookup x,mth:=fun x=>m.lookup x,mtt:=fun x=>t.lookup x }
variable{fl:Fl}{bodyF:af->Rs Fl}
variable{X:Cx}
theorem mZ{k:Int}(h:k.natAbs<2 ^ n):Builtin.Int.intBits k<=n:=by
 unfold Builtin.Int.intBits
 split
 ·exact Nat.zero_le _
 ·rename_i h0
  have:k.natAbs.log2<n:=by
   rcases Nat.eq_zero_or_pos k.natAbs with h1|hp
   ·exact absurd (by simpa using h1) (by simpa using h0)
   ·exact(Nat.log2_lt (Nat.ne_of_gt hp)).mpr h
  omega
theorem dD:∀{l m:List Prop},aJ (l++m)↔aJ l/\aJ m
 | [],m=>by simp[aJ]
 | p::l,m=>by
  show p/\aJ (l++m)↔(p/\aJ l)/\aJ m
  rw[dD,and_assoc]
theorem aT{r:Rs α}{f:α->Rs β}{b:β}{l:List Prop}(h:r.bnd f=.ok b l)(hp:aJ l):∃a l1 l2,r=.ok a l1/\aJ l1/\f a=.ok b l2/\aJ l2:=by
 unfold Rs.bnd at h
 split at h
 ·cases h
 ·rename_i a l1
  split at h
  ·cases h
  ·rename_i b' m e
   cases h
   obtain⟨h1,h2⟩:=dD.mp hp
   exact⟨a,l1,m,rfl,h1,e,h2⟩
theorem pS{m:List Prop}(h:aJ (gd b m))(hb:b=true):aJ m:=by
 cases m with
 | nil=>exact True.intro
 | cons p l=>exact h.1 hb
theorem LP{a b:Int}(h:Builtin.Int.intBits a<=2 ^ 22)(g:Builtin.Int.intBits b<=2 ^ 22):IntMulOk a b:=by
 have h':Builtin.Int.intTooBig (Builtin.Int.intBits a+Builtin.Int.intBits b)=false:=by
  unfold Builtin.Int.intTooBig bitsLine;exact decide_eq_false (by omega)
 unfold IntMulOk;rw[h'];simp
theorem t5{a b:Int}(h:bJ a b):IntMulOk a b:=by
 rcases h with h|h|⟨h,g⟩|⟨h,g⟩
 ·exact .of_left (mZ h)
 ·exact .of_right (mZ h)
 ·exact IntMulOk.of_bits (Nat.le_trans (mZ h) (by decide)) (Nat.le_trans (mZ g) (by decide))
 ·exact LP h g
theorem Fh:cQ X (binaryOp .Mult) (rI (fun i j=>bJ i j) fun i j=>.int (i*j)):=wg fun _ _ _ _ _ _ _ hc q=>mul_int q (t5 hc)
theorem BN:cQ X (binaryOp .FloorDiv) (rI (fun _ j=>j≠0/\j.natAbs<c6) fun i j=>.int (i.fdiv j)):=wg fun i j _ _ _ _ _ hc q=>floordiv_int hc.1 q (.inl (PyProof.noPylong_of_log2 (by
 rcases Nat.eq_zero_or_pos j.natAbs with h1|hp
 ·exact absurd (by simpa using h1) hc.1
 ·exact(Nat.log2_lt (Nat.ne_of_gt hp)).mpr hc.2)))
mutual
theorem dC{pins:List (Addr×Obj)}{σ:L2.St}{H:Hp}{s:Shared}(I:aj X pins σ H s){P:be}:∀{d:D} {v:V} {u:Value},d.py.canLay0=true->ah X.K H P d v->aU v u->∃as,Reads s.heap u d.py as
 | .non,v,u,_,h,r=>by
  rw[ah]at h;subst h;cases (show u=Value.none from r);rw[D.py];exact⟨_,.none⟩
 | .bl b,v,u,_,h,r=>by rw[ah]at h;subst h;cases (show u=Value.bool b from r);rw[D.py];exact⟨_,.bool b⟩
 | .int i,v,u,_,h,r=>by rw[ah]at h;subst h;obtain⟨t,e⟩:=(show ∃t,u=Value.int i t from r);subst e;rw[D.py];exact⟨_,.int i t⟩
 | .str x,v,u,_,h,r=>by rw[ah]at h;subst h;obtain⟨t,e⟩:=(show ∃t,u=Value.str x t from r);subst e;rw[D.py];exact⟨_,.str x t⟩
 | .dct _ _,v,u,c,h,r=>by rw[D.py]at c;simp[PyData.canLay0]at c
 | .typ _,v,u,c,h,r=>by rw[D.py]at c;simp[PyData.canLay0]at c
 | .sn _,v,u,c,h,r=>by rw[D.py]at c;simp[PyData.canLay0]at c
 | .obj _ _ _,v,u,c,h,r=>by rw[D.py]at c;simp[PyData.canLay0]at c
 | .cls _,v,u,c,h,r=>by rw[D.py]at c;simp[PyData.canLay0]at c
 | .xc _ _,v,u,c,h,r=>by rw[D.py]at c;simp[PyData.canLay0]at c
 | .tup l,v,u,c,h,r=>by
  rw[ah]at h
  obtain⟨a,vs,rfl,h,q⟩:=h
  cases (show u=Value.ref a from r)
  obtain⟨its,rv,ht,_⟩:=I.tuple h
  obtain⟨o,e1,e2,n,e3⟩:=ht
  rw[D.py]at c⊢
  obtain⟨as,ra⟩:=lD I (by simpa [PyData.canLay0]using c) q rv
  exact⟨as,.tuple e1 e2 e3 (by simpa using ra)⟩
 | .lst l,v,u,c,h,r=>by
  rw[ah]at h
  obtain⟨a,vs,b,rfl,h,_,q⟩:=h
  cases (show u=Value.ref a from r)
  have hs:cf X.K H a vs:=h.sq
  obtain⟨its,rv,ht,_⟩:=I.list hs
  obtain⟨o,n,e1,e2,_,e3⟩:=ht
  rw[D.py]at c⊢
  obtain⟨as,ra⟩:=lD I (by simpa [PyData.canLay0]using c) q rv
  exact⟨_,.list e1 e2 e3 (by simpa using ra)⟩
theorem lD{pins:List (Addr×Obj)}{σ:L2.St}{H:Hp}{s:Shared}(I:aj X pins σ H s){P:be}:∀{l:List D} {vs:List V} {us:List Value},PyData.canLayAll0 (eB l)=true->ag X.K H P l vs->aK vs us->∃as,ReadsAll s.heap us (eB l) as
 | [],vs,us,_,h,r=>by rw[ag]at h;subst h;cases r;rw[eB];exact⟨_,.nil⟩
 | d::l,vs,us,c,h,r=>by
  rw[ag]at h
  obtain⟨v,vr,rfl,h1,h2⟩:=h
  cases r with
  | cons r1 r2 =>
   rw[eB,PyData.canLayAll0,Bool.and_eq_true]at c
   obtain⟨as,ra⟩:=dC I c.1 h1 r1
   obtain⟨bs,rb⟩:=lD I c.2 h2 r2
   rw[eB]
   exact⟨_,.cons ra rb⟩
end
def Ea(X:Cx)(f:Value->Value->Sem Value)(x y z:D)(k j l:Nat):Prop :=
 ∃r:R2,cQ X f r/\∀ow H0 H2 v u (Q:VK),fh ow H0->ay H0 H2->ah X.K H2 (Kp ow H0 k) x v->ah X.K H2 (Kp ow H0 j) y u->(∀w H',ay H2 H'->ah X.K H' (Kp ow H0 l) z w->Q w H')->r v u H2 Q
theorem cw{p:Addr}{o:HO}(h:H p=none):ay H (aG H p o):=fun b x e=>by rw[ax (aV e h)];exact e
theorem ah.kn(h:ah K H (Kp ow H0 k) d v):ah K H (Kp ow H0 (Sp.kn d k)) d v:=by
 unfold Sp.kn
 by_cases f:d.lless=true
 ·rw[if_pos f];exact h.flat _ f
 ·rw[if_neg f];exact h
theorem dX:bA<=sizeLine:=by rw[sizeLine_eq];decide
theorem lJ:bA<sizeLine:=by rw[sizeLine_eq];decide
theorem mY{f:Value->Value->Sem Value}{a b:Int}{g:Int->Int->Int}{C:Int->Int->Prop}{j:Nat}(h:cQ X f (rI C fun i j=>.int (g i j)))(hc:C a b):Ea X f (.int a) (.int b) (.int (g a b)) k j 0 :=
 ⟨_,h,fun ow H0 H2 v u Q o s rx ry q=>by
  rw[ah]at rx ry;subst rx ry
  exact⟨a,b,rfl,rfl,hc,q _ _ (ay.refl _) (by rw[ah])⟩⟩
theorem tW{f:Value->Value->Sem Value}{a b:Int}{g:Int->Int->Int}{j:Nat}(h:cQ X f (kK fun i j=>.int (g i j))):Ea X f (.int a) (.int b) (.int (g a b)) k j 0 :=
 ⟨_,h,fun ow H0 H2 v u Q o s rx ry q=>by
  rw[ah]at rx ry;subst rx ry
  exact⟨a,b,rfl,rfl,q _ _ (ay.refl _) (by rw[ah])⟩⟩
theorem kL:∀{a b:List D},ar (a++b)=(ar a&&ar b)
 | [],b=>by simp[ar]
 | x::a,b=>by rw[List.cons_append,ar,ar,kL,Bool.and_assoc]
theorem Gs{op:Operator}{a b:Int}{l:Nat}(h:CA op a b=.ok (z,l) o)(hp:aJ o):Ea X (binaryOp op) (.int a) (.int b) z k j l:=by
 unfold CA at h
 split at h
 ·cases h;exact tW Ig
 ·cases h;exact tW Ic
 ·cases h;exact mY Fh hp.1
 ·cases h;exact mY BN hp.1
 ·cases h;exact mY Fi hp.1
 ·cases h
  have c:Dw a b:=hp.1
  exact mY Id ⟨c.1,by have:=c.2.1;omega,c.2.2⟩
 ·cases h
theorem uq{op:Operator}(h:xZ op=true):op=.Add:=by cases op<;>first|rfl|cases h
theorem BO:cQ X (binaryOp .Add) (fun x y H Q => ∃a b ys,x=.ref a/\y=.ref b/\cu X.K H a []/\cu X.K H b ys/\Q (.ref b) H):=by
 intro pins s σ H x y v u Q I rx ry h
 obtain⟨a,b,ys,rfl,rfl,ha,hb,q⟩:=h
 cases rx
 cases ry
 obtain⟨its,r1,p1,_⟩:=I.tuple ha
 obtain⟨its2,r2,p2,_⟩:=I.tuple hb
 cases r1
 obtain⟨⟨cls,dd,data,sl⟩,ho,hc,n,hd⟩:=id p1
 obtain⟨⟨cls2,dd2,data2,sl2⟩,ho2,hc2,n2,hd2⟩:=id p2
 simp only at hc hd hc2 hd2
 subst hc hd hc2 hd2
 exact concat_meets ⟨_,ho,rfl⟩ ⟨_,ho2,rfl⟩ noFill_tuple_add seq_tuple_add PySem.F.slot_tuple_add PySem.F.entry_tuple_add (PySem.F.args_tuple_add_2 _ _)
  (tuple_addW0 a b _ its2.toArray n n2 dd dd2 sl sl2 (by rfl)) ⟨ho,ho2,⟨.ref b,H,I,rfl,q⟩⟩
theorem wf:cQ X (binaryOp .Add) (fun x y H Q => ∃l b xs zs,x=.ref l/\y=.ref b/\cf X.K H l xs/\cf X.K H b zs/\xs.length+zs.length<=sizeLine/\∀p,H p=none->Q (.ref p) (aG H p (.lst (xs++zs)))):=by
 intro pins s σ H x y v u Q I rx ry h
 obtain⟨l,b,xs,zs,rfl,rfl,hH,hB,hz,q⟩:=h
 cases rx
 cases ry
 obtain⟨its,r,⟨⟨cls,dd,data,sl⟩,n,ho,hc,_,hd⟩,z⟩:=I.list hH
 obtain⟨its2,r2,⟨⟨cls2,dd2,data2,sl2⟩,n2,ho2,hc2,_,hd2⟩,z2⟩:=I.list hB
 simp only at hc hd hc2 hd2
 subst hc hd hc2 hd2
 have l1:=r.length
 have l2:=r2.length
 refine concat_meets ⟨_,ho,rfl⟩ ⟨_,ho2,rfl⟩ noFill_list_add seq_list_add PySem.F.slot_list_add PySem.F.entry_list_add (PySem.F.args_list_add_2 _ _) (list_addW l b its.toArray its2.toArray n n2 dd dd2 sl sl2 (by rw[List.size_toArray,List.size_toArray];omega)) ⟨ho,ho2,?_⟩
 have ea:its.toArray++its2.toArray=(its++its2).toArray:=by simp
 rw[ea]
 exact⟨.ref _,_,I.lnew (t':=s.toks) (r.append r2) (by rw[List.length_append];omega),rfl,q _ I.fresh⟩
theorem Kg{op:Operator}{x:D}{l:Nat}(h:uY op x y k j=.ok (z,l) o)(hp:aJ o):Ea X (binaryOp op) x y z k j l:=by
 unfold uY at h
 split at h
 ·exact Gs h hp
 ·rename_i a b
  split at h
  ·rename_i c
   cases uq c
   cases h
   cases a with
   | nil =>
    refine⟨_,BO,fun ow H0 H2 v u Q o s rx ry q=>?_⟩
    rw[ah]at rx ry
    obtain⟨pa,va,rfl,ha,ra⟩:=rx
    obtain⟨pb,vb,rfl,hb,rb⟩:=ry
    have rb':=rb.imp (Kp.joinR o k j)
    cases ra
    refine⟨pa,pb,vb,rfl,rfl,ha,hb,q _ _ (ay.refl _) (ah.kn ?_)⟩
    rw[ah]
    exact⟨pb,vb,rfl,hb,rb'⟩
   | cons a0 a =>
    refine⟨_,Fj,fun ow H0 H2 v u Q o s rx ry q=>?_⟩
    rw[ah]at rx ry
    obtain⟨pa,va,rfl,ha,ra⟩:=rx
    obtain⟨pb,vb,rfl,hb,rb⟩:=ry
    have ra':=ra.imp (Kp.joinL o k j)
    have rb':=rb.imp (Kp.joinR o k j)
    have la:=ra.length
    have lb:=rb.length
    refine⟨pa,pb,va,vb,rfl,rfl,ha,hb,?_,?_,fun e=>?_,fun e p hp'=>?_⟩
    ·intro e;subst e;cases la
    ·rw[<- la,<- lb];exact Nat.le_trans hp.1 dX
    ·subst e
     have:b=[]:=List.length_eq_zero_iff.mp lb
     subst this
     refine q _ _ (ay.refl _) (ah.kn ?_)
     rw[ah]
     exact⟨pa,va,rfl,ha,by rw[List.append_nil];exact ra'⟩
    ·have sm:=cw (o:=HO.tup (va++vb)) hp'
     refine q _ _ sm (ah.kn ?_)
     rw[ah]
     exact⟨p,_,rfl,cu.of aE,(ra'.same sm).append (rb'.same sm)⟩
  ·cases h
 ·rename_i a b
  split at h
  ·rename_i c;cases h
   cases uq c
   refine⟨_,wf,fun ow H0 H2 v u Q o s rx ry q=>?_⟩
   rw[ah]at rx ry
   obtain⟨pa,va,b1,rfl,ha,qa,ra⟩:=rx
   obtain⟨pb,vb,b2,rfl,hb,qb,rb⟩:=ry
   have la:=ra.length
   have lb:=rb.length
   have fl:=hp.1
   rw[kL,Bool.and_eq_true]at fl
   refine⟨pa,pb,va,vb,rfl,rfl,ha.sq,hb.sq,by rw[<- la,<- lb];exact Nat.le_trans hp.2.1 dX,fun p hp'=>?_⟩
   have sm:=cw (o:=HO.lst (va++vb)) hp'
   refine q _ _ sm ?_
   rw[ah]
   exact⟨p,_,true,rfl,aE,⟨rfl,s.free hp'⟩,((ra.flat _ fl.1).same sm).append ((rb.flat _ fl.2).same sm)⟩
  ·cases h
 ·cases h
theorem BY{pins:List (Addr×Obj)}{σ:L2.St}{s:Shared}(h:ah X.K H P (.lst l) v):∃a vs,v=.ref a/\cf X.K H a vs/\ag X.K H P l vs:=by
 rw[ah]at h
 obtain⟨a,vs,b,rfl,h,_,q⟩:=h
 exact⟨a,vs,rfl,h.sq,q⟩
theorem lU:∀{l:List D} {ns:List Int},cW l=some ns->l=ns.map D.int
 | [],ns,h=>by rw[cW]at h;cases h;rfl
 | .int i::l,ns,h=>by
  rw[cW]at h
  cases e:cW l with
  | none=>rw[e]at h;cases h
  | some m=>rw[e]at h;cases h;rw[lU e];rfl
 | .non::l,ns,h=>by rw[cW]at h<;>first|cases h|(intro z;intro e;cases e)
 | .bl _::l,ns,h=>by rw[cW]at h<;>first|cases h|(intro z;intro e;cases e)
 | .str _::l,ns,h=>by rw[cW]at h<;>first|cases h|(intro z;intro e;cases e)
 | .dct _ _::l,ns,h=>by rw[cW]at h<;>first|cases h|(intro z;intro e;cases e)
 | .typ _::l,ns,h=>by cases h
 | .sn _::l,ns,h=>by cases h
 | .obj _ _ _::l,ns,h=>by cases h
 | .cls _::l,ns,h=>by cases h
 | .xc _ _::l,ns,h=>by cases h
 | .tup _::l,ns,h=>by rw[cW]at h<;>first|cases h|(intro z;intro e;cases e)
 | .lst _::l,ns,h=>by rw[cW]at h<;>first|cases h|(intro z;intro e;cases e)
theorem qh:∀{l:List D} {ns:List Bool},du l=some ns->l=ns.map D.bl
 | [],ns,h=>by rw[du]at h;cases h;rfl
 | .bl i::l,ns,h=>by
  rw[du]at h
  cases e:du l with
  | none=>rw[e]at h;cases h
  | some m=>rw[e]at h;cases h;rw[qh e];rfl
 | .non::l,ns,h=>by rw[du]at h<;>first|cases h|(intro z;intro e;cases e)
 | .int _::l,ns,h=>by rw[du]at h<;>first|cases h|(intro z;intro e;cases e)
 | .str _::l,ns,h=>by rw[du]at h<;>first|cases h|(intro z;intro e;cases e)
 | .dct _ _::l,ns,h=>by rw[du]at h<;>first|cases h|(intro z;intro e;cases e)
 | .typ _::l,ns,h=>by cases h
 | .sn _::l,ns,h=>by cases h
 | .obj _ _ _::l,ns,h=>by cases h
 | .cls _::l,ns,h=>by cases h
 | .xc _ _::l,ns,h=>by cases h
 | .tup _::l,ns,h=>by rw[du]at h<;>first|cases h|(intro z;intro e;cases e)
 | .lst _::l,ns,h=>by rw[du]at h<;>first|cases h|(intro z;intro e;cases e)
def jt(X:Cx)(op:CmpOp)(x y:D)(r:Bool):Prop:=∀(P P':be),cQ X (compareOp op) (fun v u H Q=>ah X.K H P x v/\ah X.K H P' y u/\Q (.bl r) H)
theorem mr{x:D}:∀{l:List D},((eB l).any fun y=>PyData.eqv y x.py)=l.any fun y=>cG y x
 | []=>by rw[eB];rfl
 | y::l=>by rw[eB,List.any_cons,List.any_cons,mr];rfl
theorem nA{a b:Int}{g:Int->Int->Bool}(h:cQ X (compareOp op) (kK fun i j=>.bl (g i j))):jt X op (.int a) (.int b) (g a b):=fun P P' pins s σ H v u xv yu Q I rx ry ⟨h1,h2,q⟩=>by
 rw[ah]at h1 h2;subst h1 h2
 exact h pins s σ H _ _ xv yu Q I rx ry ⟨a,b,rfl,rfl,q⟩
theorem Fy(h:SeqAt.shaped (D.tup l).py=true):PyData.canLayAll0 (eB l)=true:=by
 have:=SeqAt.canLay_of_shaped h
 rw[D.py]at this
 simpa [PyData.canLay0]using this
theorem wp{x:D}(hu:X.A.units+70<cLine)(h:xQ x l=.ok r o)(hp:aJ o):jt X .In x (.tup l) r/\jt X .In x (.lst l) r/\jt X .NotIn x (.tup l) (!r)/\jt X .NotIn x (.lst l) (!r):=by
 unfold xQ at h
 cases h
 ·have c:=hp.1
  unfold gm at c
  rw[Bool.and_eq_true]at c
  have c1:=Fy c.1
  have c2:=SeqAt.canLay_of_shaped c.2
  have dx:=SeqAt.depth_of_shaped c.2
  have hm:min (PyData.depthAll (eB l)) x.py.depth<=64:=Nat.le_trans (Nat.min_le_right _ _) dx
  have ct:(D.tup l).py.canLay0=true:=SeqAt.canLay_of_shaped c.1
  have cl:(D.lst l).py.canLay0=true:=by rw[D.py];simpa [PyData.canLay0]using c1
  have et:(D.tup l).py=.tuple (eB l):=by rw[D.py]
  have el:(D.lst l).py=.list (eB l):=by rw[D.py]
  refine⟨?_,?_,?_,?_⟩<;>intro P P' pins s σ H v u xv yu Q I rx ry ⟨h1,h2,q⟩<;>obtain⟨as,r1⟩:=dC I c2 h1 rx
  ·obtain⟨bs,r2⟩:=dC I ct h2 ry
   rw[et]at r2
   exact SeqAt.in_tuple_reads r2 r1 c1 c2 (by omega) ⟨.bl _,H,I,rfl,by rw[mr];exact q⟩
  ·obtain⟨bs,r2⟩:=dC I cl h2 ry
   rw[el]at r2
   exact SeqAt.in_list_reads r2 r1 c1 c2 (by omega) ⟨.bl _,H,I,rfl,by rw[mr];exact q⟩
  ·obtain⟨bs,r2⟩:=dC I ct h2 ry
   rw[et]at r2
   exact SeqAt.notIn_tuple_reads r2 r1 c1 c2 (by omega) ⟨.bl _,H,I,rfl,by rw[mr];exact q⟩
  ·obtain⟨bs,r2⟩:=dC I cl h2 ry
   rw[el]at r2
   exact SeqAt.notIn_list_reads r2 r1 c1 c2 (by omega) ⟨.bl _,H,I,rfl,by rw[mr];exact q⟩
theorem Il{r:Rs Bool}(h:r.nt=.ok b o):r=.ok (!b) o:=by
 cases r with
 | st=>cases h
 | ok c l=>cases h;simp
theorem wl{x:D}(h:ah X.K H P x v):decide (v=.non)=x.isNon:=by
 cases x with
 | non=>rw[ah]at h;subst h;rfl
 | bl _=>rw[ah]at h;subst h;rfl
 | int _=>rw[ah]at h;subst h;rfl
 | str _=>rw[ah]at h;subst h;rfl
 | dct _ _=>rw[ah]at h;obtain⟨_,_,a,_,rfl,_⟩:=h;rfl
 | typ _=>rw[ah]at h;subst h;rfl
 | sn _=>rw[ah]at h;obtain⟨a,_,rfl,_⟩:=h;rfl
 | obj _ _ _=>rw[ah]at h;obtain⟨_,_,a,_,_,_,rfl,_⟩:=h;rfl
 | cls _=>rw[ah]at h;obtain⟨_,_,rfl,_⟩:=h;rfl
 | xc _ _=>rw[ah]at h;obtain⟨_,rfl⟩:=h.ref;rfl
 | tup _=>rw[ah]at h;obtain⟨a,_,rfl,_⟩:=h;rfl
 | lst _=>rw[ah]at h;obtain⟨a,_,_,rfl,_⟩:=h;rfl
theorem fy(h:eU d=some l):d=.tup l\/d=.lst l:=by
 unfold eU at h
 split at h
 ·cases h;exact .inl rfl
 ·cases h;exact .inr rfl
 ·cases h
theorem Gn{a b:Int}(h:gn op a b=some r):jt X op (.int a) (.int b) r:=by
 unfold gn at h
 split at h
 ·cases h;exact nA LG
 ·cases h;exact nA LH
 ·cases h;exact nA LI
 ·cases h;exact nA LJ
 ·cases h
theorem Ib{x:D}(hu:X.A.units+70<cLine)(h:xI op x y=some r):jt X op x y r:=by
 unfold xI at h
 split at h
 ·exact Gn h
 ·cases h
theorem oB{k:bU}(e:oC d=some k)(h:ah X.K H P d v):v=kV k:=by
 cases d<;>first|(cases e;done)|(rw[ah]at h;subst h;injection e with e;subst e;rfl)
theorem vO{k:bU}:∀{vs:List V},ks.length=vs.length->((ks.zip vs).any fun p=>decide (p.1=k))=fB ks k:=by
 induction ks with
 | nil=>intro vs _;rfl
 | cons j ks ih =>
  intro vs h
  cases vs with
  | nil=>cases h
  | cons v vs =>
   show(decide (j=k) || (ks.zip vs).any _)=(decide (j=k) || fB ks k)
   rw[ih (by simpa using h)]
theorem DN{x:D}(hu:X.A.units+70<cLine)(h:DO x y=.ok r o)(hp:aJ o):jt X .In x y r/\jt X .NotIn x y (!r):=by
 unfold DO at h
 split at h
 ·have m:=wp hu h hp;exact⟨m.1,m.2.2.1⟩
 ·have m:=wp hu h hp;exact⟨m.2.1,m.2.2.2⟩
 ·rename_i ks ds
  split at h
  ·rename_i k e
   cases h
   have key:∀{P P':be} {pins:List (Addr×Obj)} {s:Shared} {σ:L2.St} {H:Hp} {v u:V} {xv yu:Value},aj X pins σ H s->aU v xv->aU u yu->ah X.K H P x v->ah X.K H P' (.dct ks ds) u->∃a vs,yu=.ref a/\(gi X.prog X.w).is k xv=true/\(a==sysModules)=false/\s.heap.DictOf (gi X.prog X.w) a vs/\(valueAt vs k).isSome=fB ks k:=fun {P P' pins s σ H v u xv yu} I rx ry h1 h2=>by
    have hk:=oB e h1
    subst hk
    rw[ah]at h2
    obtain⟨_,e0,a,vs,rfl,ha,_,rl⟩:=h2
    obtain⟨z,hd,ws,rel,dd⟩:=(show bw X.prog X.w H s.heap a (.dK (ks.zip vs))from I.hok a _ ha)
    refine⟨a,ws,ry,xY rx,hd,dd,?_⟩
    rw[<- (rel.val k).isSome_eq,<- sR,vO (e0.trans rl.length)]
   refine⟨?_,?_⟩<;>intro P P' pins s σ H v u xv yu Q I rx ry ⟨h1,h2,q⟩<;>obtain⟨a,vs,rfl,kk,hd,dd,ev⟩:=key I rx ry h1 h2
   ·refine wpAny_in_of kk hd dd.mapOf ?_
    rw[ev]
    exact⟨.bl _,H,I.tok _,rfl,q⟩
   ·refine wpAny_notIn_of kk hd dd.mapOf ?_
    rw[ev]
    exact⟨.bl _,H,I.tok _,rfl,q⟩
  ·cases h
 ·rename_i b
  split at h
  ·rename_i a
   cases h
   refine⟨?_,?_⟩<;>intro P P' pins s σ H v u xv yu Q I rx ry ⟨h1,h2,q⟩<;>(rw[ah]at h1 h2;subst h1 h2;obtain⟨t,rfl⟩:=rx;obtain⟨t',rfl⟩:=ry)
   ·exact SB.contains ⟨.bl _,H,I,rfl,q⟩
   ·exact SB.notContains ⟨.bl _,H,I,rfl,q⟩
  ·cases h
 ·cases h
theorem jN{x:D}(hu:X.A.units+70<cLine)(h:iL op x y=.ok r o)(hp:aJ o):jt X op x y r:=by
 unfold iL at h
 split at h
 ·cases h
  have c:=hp.1
  unfold gm at c
  rw[Bool.and_eq_true]at c
  intro P P' pins s σ H v u xv yu Q I rx ry ⟨h1,h2,q⟩
  obtain⟨as,r1⟩:=dC I (SeqAt.canLay_of_shaped c.1) h1 rx
  obtain⟨bs,r2⟩:=dC I (SeqAt.canLay_of_shaped c.2) h2 ry
  exact eq_dataH r1 r2 c.1 c.2 (by omega) ⟨.bl _,H,I,rfl,q⟩
 ·cases h
  have c:=hp.1
  unfold gm at c
  rw[Bool.and_eq_true]at c
  intro P P' pins s σ H v u xv yu Q I rx ry ⟨h1,h2,q⟩
  obtain⟨as,r1⟩:=dC I (SeqAt.canLay_of_shaped c.1) h1 rx
  obtain⟨bs,r2⟩:=dC I (SeqAt.canLay_of_shaped c.2) h2 ry
  exact ne_dataH r1 r2 c.1 c.2 (by omega) ⟨.bl _,H,I,rfl,q⟩
 ·exact(DN hu h hp).1
 ·have:=(DN hu (Il h) hp).2;rw[Bool.not_not]at this;exact this
 ·split at h
  ·cases h
   intro P P' pins s σ H v u xv yu Q I rx ry ⟨h1,h2,q⟩
   rw[ah]at h2
   subst h2
   exact Ie pins s σ H v _ xv yu Q I rx ry ⟨rfl,by rw[wl h1];exact q⟩
  ·cases h
 ·split at h
  ·cases h
   intro P P' pins s σ H v u xv yu Q I rx ry ⟨h1,h2,q⟩
   rw[ah]at h2
   subst h2
   refine Fg pins s σ H v _ xv yu Q I rx ry ⟨rfl,?_⟩
   rw[wl h1]
   exact q
  ·cases h
 ·cases e:xI op x y with
  | none=>rw[e]at h;cases h
  | some b=>rw[e]at h;cases h;exact Ib hu e
variable{X:Cx}
theorem wv(K:W.Frag){t:Value}:W.kitOne K t t=some true:=by unfold W.kitOne;rw[if_pos (beq_self_eq_true t)]
def D.ty:D->String
 | .non => "NoneType"
 | .bl _ => "bool"
 | .int _ => "int"
 | .str _ => "str"
 | .dct _ _ => "dict"
 | .tup _ => "tuple"
 | .lst _ => "list"
 | .typ _ => "type"
 | .sn _ => "set"
 | .obj _ _ _ => "object"
 | .cls _ => "type"
 | .xc _ _ => "type"
def D.plain:D->Bool
 | .typ _=>false
 | .sn _=>false
 | .obj _ _ _=>false
 | .cls _=>false
 | .xc _ _=>false
 | _=>true
theorem IK{x:D}{c:String}(hpl:x.plain=true)(e:∀K,W.kitOne K (.type x.ty) (.type c)=some b){u:Value}
  (I:aj X pins σ H s) (h:ah X.K H P x v) (r:aU v u) (q:∀tk,Q (.bool b) { s with toks:=tk }):wpAny (model X.prog X.w) X.A (call (.builtin "isinstance") [u,.type c]) Q E s:=by
 have e:=e X.K
 cases x with
 | non=>rw[ah]at h;subst h;cases (show u=Value.none from r);exact W.kia_one W.kitx_none I.kIn True.intro e (fun z=>nomatch z) q
 | bl y=>rw[ah]at h;subst h;cases (show u=Value.bool y from r);exact W.kia_one W.kitx_bool I.kIn True.intro e (fun z=>nomatch z) q
 | int i=>rw[ah]at h;subst h;obtain⟨t,z⟩:=(show ∃t,u=Value.int i t from r);cases z;exact W.kia_one W.kitx_int I.kIn True.intro e (fun z=>nomatch z) q
 | str y=>rw[ah]at h;subst h;obtain⟨t,z⟩:=(show ∃t,u=Value.str y t from r);cases z;exact W.kia_one W.kitx_str I.kIn True.intro e (fun z=>nomatch z) q
 | dct ks ds =>
  rw[ah]at h
  obtain⟨_,_,a,vs,rfl,ea,_⟩:=h
  cases (show u=Value.ref a from r)
  obtain⟨_,_,vs,_,p⟩:=(show bw X.prog X.w H s.heap a (.dK _)from I.hok a _ ea)
  obtain⟨o,es,ep,h1,h2,_⟩:=p
  exact W.kia_one W.kitx_dict I.kIn ⟨o,h1,h2.1⟩ e (fun z=>nomatch z) q
 | typ _=>cases hpl
 | sn _=>cases hpl
 | obj _ _ _=>cases hpl
 | cls _=>cases hpl
 | xc _ _=>cases hpl
 | tup l =>
  rw[ah]at h
  obtain⟨a,vs,rfl,ea,_⟩:=h
  cases (show u=Value.ref a from r)
  obtain⟨_,_,⟨o,h1,h2,_⟩,_⟩:=I.tuple ea
  exact W.kia_one W.kitx_tuple I.kIn ⟨o,h1,h2⟩ e (fun z=>nomatch z) q
 | lst l =>
  obtain⟨a,vs,rfl,ea,_⟩:=BY (pins:=pins) (σ:=σ) (s:=s) h
  cases (show u=Value.ref a from r)
  obtain⟨_,_,⟨o,n,h1,h2,_⟩,_⟩:=I.list ea
  exact W.kia_one W.kitx_list I.kIn ⟨o,h1,h2⟩ e (fun z=>nomatch z) q
theorem kt(K:W.Frag)(a b:String)(r:Bool)(h:(a==b)=false)(h2:W.kitCls K (.type a) (.type b)=some r):W.kitOne K (.type a) (.type b)=some r:=by
 unfold W.kitOne
 rw[if_neg (by
  intro z
  have:a=b:=by simpa using z
  subst this
  simp at h)]
 exact h2
theorem FB:∀a∈["NoneType", "bool", "int", "str", "dict", "tuple", "list"],∀T∈mQ,(a==T)=false->∀K,W.kitCls K (.type a) (.type T)=some (decide (a = "bool" /\ T = "int")):=by
 intro a ha T hT
 simp only[List.mem_cons,List.not_mem_nil,or_false,mQ]at ha hT
 rcases ha with rfl|rfl|rfl|rfl|rfl|rfl|rfl<;>rcases hT with rfl|rfl|rfl|rfl|rfl|rfl<;>intro h K<;>first|(exact absurd h (by decide))|kernel_rfl
theorem IM{x:D}(h:IN x T=some b)(hT:T∈mQ):x.plain=true/\∀K,W.kitOne K (.type x.ty) (.type T)=some b:=by
 have key:∀(a:String),a∈["NoneType", "bool", "int", "str", "dict", "tuple", "list"]->∀K,W.kitOne K (.type a) (.type T)=some (decide (a=T) || decide (a = "bool" /\ T = "int")):=fun a ha K=>by
  by_cases e:a=T
  ·subst e;rw[wv];simp
  ·have e':(a==T)=false:=by simpa using e
   rw[kt K a T _ e' (FB a ha T hT e' K)];simp[e]
 unfold IN at h
 cases hx:x.ty0 with
 | none=>rw[hx]at h;cases h
 | some a =>
  rw[hx]at h
  cases h
  have hp:x.plain=true/\x.ty=a/\a∈["NoneType", "bool", "int", "str", "dict", "tuple", "list"]:=by
   cases x<;>cases hx<;>exact⟨rfl,rfl,by decide⟩
  refine⟨hp.1,fun K=>?_⟩
  rw[hp.2.1]
  exact key a hp.2.2 K
def io(X:Cx)(f:Value)(ds:List D)(z:D)(l:Nat):Prop :=
 ∃r:List V->Hp->VK->Prop,d7 X f r/\∀ow H0 H2 vs (P:be) (Q:VK),fh ow H0->ay H0 H2->ag X.K H2 P ds vs->(∀w H',ay H2 H'->ah X.K H' (Kp ow H0 l) z w->Q w H')->r vs H2 Q
theorem ag.only(h:ag K H P [d] vs):∃v,vs=[v]/\ah K H P d v:=by
 rw[ag]at h
 obtain⟨v,r,rfl,h1,h2⟩:=h
 rw[ag]at h2;subst h2
 exact⟨v,rfl,h1⟩
theorem iZ(h:ah X.K H P (.lst l) v):∃a vs,v=.ref a/\cf X.K H a vs/\ag X.K H P l vs:=by
 rw[ah]at h
 obtain⟨a,vs,b,rfl,h,_,q⟩:=h
 exact⟨a,vs,rfl,h.sq,q⟩
theorem eJ(h:ah X.K H P (.tup l) v):∃a vs,v=.ref a/\cu X.K H a vs/\ag X.K H P l vs:=by
 rw[ah]at h;exact h
theorem zV:io X (.builtin "len") [.tup l] (.int l.length) 0/\io X (.builtin "len") [.lst l] (.int l.length) 0:=by
 constructor
 ·refine⟨_,mq,fun ow H0 H2 vs P Q o s rx q=>?_⟩
  obtain⟨v,rfl,ry⟩:=rx.only
  obtain⟨a,ws,rfl,hs,rl⟩:=eJ ry
  exact⟨a,ws,rfl,.inr hs,by rw[<- rl.length];exact q _ _ (ay.refl _) (by rw[ah])⟩
 ·refine⟨_,mq,fun ow H0 H2 vs P Q o s rx q=>?_⟩
  obtain⟨v,rfl,ry⟩:=rx.only
  obtain⟨a,ws,rfl,hs,rl⟩:=iZ ry
  exact⟨a,ws,rfl,.inl hs,by rw[<- rl.length];exact q _ _ (ay.refl _) (by rw[ah])⟩
theorem sT(f:ar l=true):io X (.type "tuple") [.lst l] (.tup l) 0/\io X (.type "tuple") [.tup l] (.tup l) 0:=by
 constructor
 ·refine⟨_,kN,fun ow H0 H2 vs P Q o s rx q=>?_⟩
  obtain⟨v,rfl,ry⟩:=rx.only
  obtain⟨a,ws,rfl,hs,rl⟩:=iZ ry
  refine⟨a,ws,rfl,.inl ⟨hs,fun p hp=>?_⟩⟩
  have sm:=cw (o:=HO.tup ws) hp
  refine q _ _ sm ?_
  rw[ah]
  exact⟨p,ws,rfl,cu.of aE,(rl.flat _ f).same sm⟩
 ·refine⟨_,kN,fun ow H0 H2 vs P Q o s rx q=>?_⟩
  obtain⟨v,rfl,ry⟩:=rx.only
  obtain⟨a,ws,rfl,hs,rl⟩:=eJ ry
  refine⟨a,ws,rfl,.inr ⟨hs,q _ _ (ay.refl _) ?_⟩⟩
  rw[ah]
  exact⟨a,ws,rfl,hs,rl.flat _ f⟩
theorem wu(f:ar l=true):io X (.type "list") [.lst l] (.lst l) 0/\io X (.type "list") [.tup l] (.lst l) 0:=by
 constructor
 ·refine⟨_,ml,fun ow H0 H2 vs P Q o s rx q=>?_⟩
  obtain⟨v,rfl,ry⟩:=rx.only
  obtain⟨a,ws,rfl,hs,rl⟩:=iZ ry
  refine⟨a,ws,rfl,.inl hs,fun p hp=>?_⟩
  have sm:=cw (o:=HO.lst ws) hp
  refine q _ _ sm ?_
  rw[ah]
  exact⟨p,ws,true,rfl,aE,⟨rfl,s.free hp⟩,(rl.flat _ f).same sm⟩
 ·refine⟨_,ml,fun ow H0 H2 vs P Q o s rx q=>?_⟩
  obtain⟨v,rfl,ry⟩:=rx.only
  obtain⟨a,ws,rfl,hs,rl⟩:=eJ ry
  refine⟨a,ws,rfl,.inr hs,fun p hp=>?_⟩
  have sm:=cw (o:=HO.lst ws) hp
  refine q _ _ sm ?_
  rw[ah]
  exact⟨p,ws,true,rfl,aE,⟨rfl,s.free hp⟩,(rl.flat _ f).same sm⟩
theorem Ko{i:Int}:io X (.builtin "abs") [.int i] (.int (if i<0 then -i else i)) 0:=by
 refine⟨_,Cz,fun ow H0 H2 vs P Q o s rx q=>?_⟩
 obtain⟨v,rfl,ry⟩:=rx.only
 rw[ah]at ry;subst ry
 exact⟨i,rfl,q _ _ (ay.refl _) (by rw[ah])⟩
theorem ag.mapBl{K:W.Frag}{P:be}{H:Hp}:∀{ns:List Bool} {vs:List V},ag K H P (ns.map D.bl) vs->vs=ns.map V.bl
 | [],vs,h=>by rw[List.map_nil,ag]at h;exact h
 | n::ns,vs,h=>by
  rw[List.map_cons,ag]at h
  obtain⟨v,r,rfl,h1,h2⟩:=h
  rw[ah]at h1
  rw[h1,ag.mapBl h2];rfl
theorem vQ:∀{bs:List Bool} {us:List Value},aK (bs.map V.bl) us->us=bs.map Value.bool
 | [],us,h=>by cases h;rfl
 | b::bs,us,h=>by
  cases h with
  | cons h1 h2=>rw[show _=Value.bool b from h1,vQ h2];rfl
theorem sQ:∀{ns:List Int} {us:List Value},aK (ns.map V.int) us->(∀v,v∈us->∃a t,v=Value.int a t)/\numsOf us=ns
 | [],us,h=>by cases h;exact⟨fun _ h=>(by cases h),rfl⟩
 | n::ns,us,h=>by
  cases h with
  | cons h1 h2 =>
   obtain⟨t,rfl⟩:=(show ∃t,_=Value.int n t from h1)
   obtain⟨i1,i2⟩:=sQ h2
   refine⟨fun v hv=>?_,by simp only[numsOf];rw[i2]⟩
   rcases List.mem_cons.mp hv with rfl|hv
   ·exact⟨_,_,rfl⟩
   ·exact i1 v hv
theorem AF(hc:X.calm=true):d7 X (.builtin "sum") (fun xs H Q => ∃(p:Addr) (ns:List Int),xs=[.ref p]/\cf X.K H p (ns.map V.int)/\Q (.int ns.sum) H):=by
 intro pins s σ H xs us Q I r h
 obtain⟨p,ns,rfl,hq,q⟩:=h
 obtain⟨u,rfl,rx⟩:=dP r
 cases rx
 obtain⟨its,rv,pl,hz⟩:=I.list hq
 obtain⟨hall,hnum⟩:=sQ rv
 obtain⟨xs,e⟩:=AllInts.items (vs:=its.toArray) (fun v hv=>hall v (by simpa using hv))
 have hl:=pl.isList
 rw[e]at hl
 refine sum_intListG (I.ok.hd hc) hl fun h' tk t' hk=>?_
 refine⟨.int ns.sum,H,I.kept hk,⟨t',?_⟩,q⟩
 congr 1
 rw[preSum_eq,List.take_of_length_le (by simp),<- nums_intItems,<- e]
 simp[hnum]
theorem AH(hc:X.calm=true):d7 X (.builtin "all") (fun xs H Q => ∃(p:Addr) (bs:List Bool),xs=[.ref p]/\cf X.K H p (bs.map V.bl)/\Q (.bl (bs.all id)) H):=by
 intro pins s σ H xs us Q I r h
 obtain⟨p,bs,rfl,hq,q⟩:=h
 obtain⟨u,rfl,rx⟩:=dP r
 cases rx
 obtain⟨its,rv,pl,hz⟩:=I.list hq
 have ei:=vQ rv
 subst ei
 have hl:=pl.isList
 have hlt:p<s.heap.objs.size:=by obtain⟨_,e,_⟩:=hl;exact Heap.lt_size e
 refine call_all_walk (wpAny_pyIter_list hl ?_)
 refine⟨_,_,_,_,_,_,fun i=>bs.getD i true,rfl,Walks.list (A:=X.A.in1) (by exact I.ok.hd hc) _ p (Nat.ne_of_lt hlt) (bs.map Value.bool).toArray,⟨⟨_,Heap.get?_push_size _ rfl,rfl,rfl⟩,hl.push _⟩,?_,fun h' tk hk=>?_⟩
 ·intro i v s' Q' E' hP hQ
  have hP:((bs.map Value.bool).toArray)[i]?=some v:=hP
  simp only[List.getElem?_toArray,List.getElem?_map]at hP
  cases e:bs[i]? with
  | none=>rw[e]at hP;cases hP
  | some b =>
   rw[e]at hP;cases hP
   refine wpAny_truthy_bool ?_
   have:bs.getD i true=b:=by rw[List.getD_eq_getElem?_getD,e];rfl
   rw[<- this];exact hQ
 ·have:((List.range (bs.map Value.bool).toArray.size).all fun i=>bs.getD i true)=bs.all id:=by
   simp only[List.size_toArray,List.length_map]
   rw[Bool.eq_iff_iff,List.all_eq_true,List.all_eq_true]
   constructor
   ·intro h x hx
    obtain⟨i,hi,rfl⟩:=List.mem_iff_getElem.mp hx
    have:=h i (List.mem_range.mpr hi)
    rw[List.getD_eq_getElem?_getD,List.getElem?_eq_getElem hi]at this
    exact this
   ·intro h i hi
    have hi:=List.mem_range.mp hi
    rw[List.getD_eq_getElem?_getD,List.getElem?_eq_getElem hi]
    exact h _ (List.getElem_mem hi)
  rw[this]
  refine⟨.bl _,H,I.kept (fun b o e=>hk b o (fun hm=>?_) (Heap.get?_push_of_some _ e)),rfl,q⟩
  have hb:b=s.heap.objs.size:=by simpa using hm
  subst hb
  exact absurd (Heap.lt_size e) (Nat.lt_irrefl _)
theorem AG:d7 X (.builtin "len") (fun xs H Q => ∃(p:Addr) (S:Int->Bool) (n:Nat),xs=[.ref p]/\H p=some (.set S n)/\Q (.int n) H):=by
 intro pins s σ H xs us Q I r h
 obtain⟨p,S,n,rfl,hp,q⟩:=h
 obtain⟨u,rfl,rx⟩:=dP r
 cases rx
 obtain⟨o,es,ep,t,h1,h2,h3,_,_,h4,h5,rfl⟩:=(show s.heap.SetOf (intKind X.prog X.w) p S n from I.hok p _ hp)
 exact call_len_set h1 h2 h3 h5 (by unfold scanBound at h4;omega) ⟨.int _,H,I.tok _,⟨_,rfl⟩,q⟩
def fb(f:Str)(B:List D->R1):Prop:=f∈iN/\f ≠ "__name__" /\ (f==("__debug__" : Str))=false/\(B []=.st)/\∀(X:Cx) (ds:List D) (z:D) (l:Nat) (o:List Prop),X.calm=true->B ds=.ok (z,l) o->aJ o ->
 ((∃id,bootBuiltins f=some (.builtin id)/\io X (.builtin id) ds z l)\/∃T,bootBuiltins f=some (.type T)/\io X (.type T) ds z l)
theorem Gv:fb "len" CH:=by
 refine⟨by decide +kernel,by decide +kernel,by decide +kernel,rfl,fun X ds z l o hc h _=>.inl ⟨"len", by decide +kernel,?_⟩⟩
 unfold CH at h
 split at h
 ·cases h
  refine⟨_,AG,fun ow H0 H2 vs P Q o s rx q=>?_⟩
  obtain⟨v,rfl,ry⟩:=rx.only
  rw[ah]at ry
  obtain⟨a,S,rfl,ha⟩:=ry
  exact⟨a,S,_,rfl,ha,q _ _ (ay.refl _) (by rw[ah])⟩
 ·split at h
  ·rename_i m e
   cases h
   rcases fy e with rfl|rfl
   ·exact zV.1
   ·exact zV.2
  ·cases h
 ·cases h
theorem AL:fb "tuple" u5:=by
 refine⟨by decide +kernel,by decide +kernel,by decide +kernel,rfl,fun X ds z l o hc h hp=>.inr ⟨"tuple", by decide +kernel,?_⟩⟩
 unfold u5 at h
 split at h
 ·split at h
  ·rename_i m e
   cases h
   have c:=hp.1
   rcases fy e with rfl|rfl
   ·exact(sT c).2
   ·exact(sT c).1
  ·cases h
 ·cases h
theorem CG:fb "list" yq:=by
 refine⟨by decide +kernel,by decide +kernel,by decide +kernel,rfl,fun X ds z l o hc h hp=>.inr ⟨"list", by decide +kernel,?_⟩⟩
 unfold yq at h
 split at h
 ·split at h
  ·rename_i m e
   cases h
   have c:=hp.1
   rcases fy e with rfl|rfl
   ·exact(wu c).2
   ·exact(wu c).1
  ·cases h
 ·cases h
theorem GA:fb "abs" CM:=by
 refine⟨by decide +kernel,by decide +kernel,by decide +kernel,rfl,fun X ds z l o hc h _=>.inl ⟨"abs", by decide +kernel,?_⟩⟩
 unfold CM at h
 split at h
 ·cases h;exact Ko
 ·cases h
theorem Gz:fb "all" CL:=by
 refine⟨by decide +kernel,by decide +kernel,by decide +kernel,rfl,fun X ds z l o hc h _=>.inl ⟨"all", by decide +kernel,?_⟩⟩
 unfold CL at h
 split at h
 ·split at h
  ·rename_i bs e
   cases h
   cases qh e
   refine⟨_,AH hc,fun ow H0 H2 vs P Q o s rx q=>?_⟩
   obtain⟨v,rfl,ry⟩:=rx.only
   obtain⟨a,ws,rfl,hs,rl⟩:=iZ ry
   exact⟨a,bs,rfl,by rw[<- rl.mapBl];exact hs,q _ _ (ay.refl _) (by rw[ah])⟩
  ·cases h
 ·cases h
theorem Gu:fb "sum" CF:=by
 refine⟨by decide +kernel,by decide +kernel,by decide +kernel,rfl,fun X ds z l o hc h _=>.inl ⟨"sum", by decide +kernel,?_⟩⟩
 unfold CF at h
 split at h
 ·split at h
  ·rename_i bs e
   cases h
   cases lU e
   refine⟨_,AF hc,fun ow H0 H2 vs P Q o s rx q=>?_⟩
   obtain⟨v,rfl,ry⟩:=rx.only
   obtain⟨a,ws,rfl,hs,rl⟩:=iZ ry
   exact⟨a,bs,rfl,by rw[<- rl.mapInt];exact hs,q _ _ (ay.refl _) (by rw[ah])⟩
  ·cases h
 ·cases h
theorem FD(b:Bool):(if b=true then(1:Int)else 0)=cond b 1 0:=by cases b<;>rfl
theorem Gy:fb "int" CK:=by
 refine⟨by decide +kernel,by decide +kernel,by decide +kernel,rfl,fun X ds z l o hc h hp=>.inr ⟨"int", by decide +kernel,?_⟩⟩
 unfold CK at h
 split at h
 ·cases h
  refine⟨_,rW,fun ow H0 H2 vs P Q o s rx q=>?_⟩
  obtain⟨v,rfl,ry⟩:=rx.only
  rw[ah]at ry;subst ry
  exact .inl ⟨_,rfl,q _ _ (ay.refl _) (by rw[ah])⟩
 ·cases h
  refine⟨_,rW,fun ow H0 H2 vs P Q o s rx q=>?_⟩
  obtain⟨v,rfl,ry⟩:=rx.only
  rw[ah]at ry;subst ry
  exact .inr ⟨_,rfl,q _ _ (ay.refl _) (by rw[ah,FD])⟩
 ·cases h
theorem Gx:fb "isinstance" CJ:=by
 refine⟨by decide +kernel,by decide +kernel,by decide +kernel,rfl,fun X ds z l o hc h _=>.inl ⟨"isinstance", by decide +kernel,?_⟩⟩
 unfold CJ at h
 split at h
 ·rename_i m ns es n
  split at h
  ·rename_i hmn
   subst hmn
   cases h
   have cr:d7 X (.builtin "isinstance") (fun xs H Q => ∃a C dx fs,xs=[.ref a,.ref C]/\H a=some (.ins C dx fs)/\fW X.K C/\sJ X.K C/\Q (.bl true) H):=by
    intro pins s σ H xs us Q I r hh
    obtain⟨a,C,dx,fs,rfl,ea,hc,ho,q⟩:=hh
    obtain⟨u,u2,rfl,ru,ru2⟩:=mP r
    cases (show u2=Value.ref C from ru2)
    exact rM I ru (.ins ea hc ho.ha ho.hn ho.ht ho.hm) (wv _) fun tk=>⟨.bl true,H,I.tok tk,rfl,q⟩
   refine⟨_,cr,fun ow H0 H2 vs P Q o s rx q=>?_⟩
   rw[ag]at rx
   obtain⟨v,r,rfl,r1,r2⟩:=rx
   obtain⟨w,rfl,r3⟩:=r2.only
   rw[ah]at r1
   rw[ah]at r3
   obtain⟨_,_,a,C,dx,vs,rfl,h1,h2,h3,_⟩:=r1
   obtain⟨C',o',rfl,h4,_,_,h5,_⟩:=r3
   rw[h1]at h4;cases h4
   exact⟨a,C,dx,_,rfl,h3,h2,h5,q _ _ (ay.refl _) (by rw[ah])⟩
  ·split at h
   ·rename_i hmn
    cases h
    have cr:d7 X (.builtin "isinstance") (fun xs H Q => ∃a C C' dx fs,xs=[.ref a,.ref C']/\H a=some (.ins C dx fs)/\fW X.K C/\sJ X.K C/\W.kitOne X.K (.ref C) (.ref C')=some (sW m n)/\Q (.bl (sW m n)) H):=by
     intro pins s σ H xs us Q I r hh
     obtain⟨a,C,C',dx,fs,rfl,ea,hc,ho,hk,q⟩:=hh
     obtain⟨u,u2,rfl,ru,ru2⟩:=mP r
     cases (show u2=Value.ref C' from ru2)
     exact rM I ru (.ins ea hc ho.ha ho.hn ho.ht ho.hm) hk fun tk=>⟨.bl (sW m n),H,I.tok tk,rfl,q⟩
    refine⟨_,cr,fun ow H0 H2 vs P Q o s rx q=>?_⟩
    rw[ag]at rx
    obtain⟨v,r,rfl,r1,r2⟩:=rx
    obtain⟨w,rfl,r3⟩:=r2.only
    rw[ah]at r1
    rw[ah]at r3
    obtain⟨_,_,a,C,dx,vs,rfl,h1,h2,h3,_⟩:=r1
    obtain⟨C',o',rfl,_,_,_,_,h5⟩:=r3
    obtain⟨h6,h7⟩:=h5.all m hmn C h1
    exact⟨a,C,C',dx,_,rfl,h3,h2,h6,h7,q _ _ (ay.refl _) (by rw[ah])⟩
   ·cases h
 ·rename_i x T
  split at h
  ·rename_i hT
   split at h
   ·rename_i b hb
    cases h
    obtain⟨h1,h2⟩:=IM hb hT
    have cr:d7 X (.builtin "isinstance") (fun xs H Q => ∃v P,xs=[v,.ty T]/\ah X.K H P x v/\Q (.bl b) H):=by
     intro pins s σ H xs us Q I r hh
     obtain⟨v,P,rfl,rp,q⟩:=hh
     obtain⟨u,u2,rfl,ru,ru2⟩:=mP r
     cases (show u2=Value.type T from ru2)
     exact IK h1 h2 I rp ru fun tk=>⟨.bl b,H,I.tok tk,rfl,q⟩
    refine⟨_,cr,fun ow H0 H2 vs P Q o s rx q=>?_⟩
    rw[ag]at rx
    obtain⟨v,r,rfl,r1,r2⟩:=rx
    obtain⟨w,rfl,r3⟩:=r2.only
    rw[ah]at r3;subst r3
    exact⟨v,P,rfl,r1,q _ _ (ay.refl _) (by rw[ah])⟩
   ·cases h
  ·cases h
 ·cases h
def jw(K:W.Frag)(F:List D->Rs D):Sp:=fun vs H Q _ => ∃ds r l,ag K H (fun _ _=>True) ds vs/\F ds=.ok r l/\aJ l/\∀v H',ay H H'->ah K H' (fun a b=>b=true/\H a=none) r v->Q v H'
def Eh(X:Cx)(g:Str)(F:List D->Rs D):Prop:=∃k f fd ps,bH X.prog X.w X.K X.mg X.base dF k f fd ps (jw X.K F)/\bL k X.A/\X.mg g=some (.ref f)/\W.keepIn X.K (.ref f)=true/\bY X.K fd ps []/\(g==("__debug__" : Str))=false
def MA(K:W.Frag)(n:Str)(F:List D->Rs D):Sp:=fun vs H Q _ => ∃x ws C dx ds r l,vs=.ref x::ws/\H x=some (.ins C dx [])/\W.nsIn K mainGlobals n=some (some (.ref C))/\fW K C/\ag K H (fun _ _=>True) ds ws/\F ds=.ok r l/\aJ l/\r.lless=true /\
 ∀H',(∀a o,a≠x->H a=some o->H' a=some o)->ah K H' (fun _ _=>True) r (.ref x)->Q .non H'
def KC(X:Cx)(g:Str)(F:List D->Rs D):Prop:=∃k C f fd ps,(∀ds r l,F ds=.ok r l->r.lless=true)/\Mk X.K C f/\bH X.prog X.w X.K X.mg X.base dF k f fd ps (MA X.K g F)/\bL (k+1) X.A/\X.mg g=some (.ref C)/\W.nsIn X.K mainGlobals g=some (some (.ref C))/\fW X.K C/\bY X.K fd ps []/\(g==("__debug__" : Str))=false
def SH(X:Cx)(g:Str)(F:List D->Rs D):Prop:=Eh X g F\/KC X g F
def KD(X:Cx)(n m:Str)(F:List D->Rs D):Prop:=∃k C f fd ps,W.nsIn X.K mainGlobals n=some (some (.ref C))/\fW X.K C/\vn X.K C m f/\bH X.prog X.w X.K X.mg X.base dF k f fd ps (jw X.K F)/\bL k X.A/\bY X.K fd ps []
def kF(f:Str)(B:List D->Nat->R1):Prop:=f∈iN/\∀(X:Cx) (ρ:af) (p pos:Pos) (args:List Expr) (ds:List D) (k:Nat) (d:D) (j:Nat) (l:List D) (tg:Expr) (o:List Prop),X.calm=true->Gl X f->X.mg f=none->AD X ρ args ds k ->
 (∀e∈args,∀x p,e ≠ .Starred x p)->args.length=ds.length->B ds k=.ok (d,j) o->aJ o->items d=some l->fc (.Call (.Name f p) args [] pos) tg=true->IE X ρ tg (.Call (.Name f p) args [] pos) l j
def yF(m:Str)(M:D->List D->R1):Prop:=∀(X:Cx) (ρ:af) (a:Expr) (args:List Expr) (ap cp:Pos) (x:D) (k:Nat) (ds:List D) (j:Nat) (z:D) (l:Nat) (o:List Prop),X.calm=true->X.A.units+70<cLine->ED X ρ a x k->AD X ρ args ds j ->
 (∀e∈args,∀x p,e ≠ .Starred x p)->args.length=ds.length->(ap.endLine==cp.line)=true->iO a=true->M x ds=.ok (z,l) o->aJ o->ED X ρ (.Call (.Attribute a m ap) args [] cp) z l
def kE(m:Str)(M:List D->List D->Nat->Rs (List D)):Prop:=∀X:Cx,X.calm=true->∃(id:String) (r:V->List V->Hp->VK->Prop),Slot "list" m id/\typeOf (.builtin id)=pure (.type "method_descriptor")/\KA X id r /\
 ∀(ow:Ow) (H0 H:Hp) (l ds l':List D) (j:Nat) (o:List Prop) (a:Addr) (vs ws:List V),M l ds j=.ok l' o->aJ o->ds.length<29/\(∀(P:be) (Q:VK),(∀b c,Kp ow H0 0 b c->P b c)->fh ow H0->ay H0 H->H a=some (.lst vs)->ag X.K H P l vs->ag X.K H (Kp ow H0 j) ds ws ->
  (∀vs' w,ag X.K H P l' vs'->Q w (aG H a (.lst vs')))->r (.ref a) ws H Q)
def SO(X:Cx)(ow:Ow)(ρ:af)(o:Option Int):TO:=fun σ H Q=>aL X ow H σ ρ/\∀H',ay H H'->Q o H'
def OD(X:Cx)(ρ:af)(e:Option Expr)(o:Option Int):Prop:=∀ow,PO X e (SO X ow ρ o)
def sH(F:D->Option Int->Option Int->R1):Prop:=∀(X:Cx) (ρ:af) (a:Expr) (lo hi:Option Expr) (p2 pos:Pos) (x z:D) (l h:Option Int) (k j:Nat) (o:List Prop),ED X ρ a x k->OD X ρ lo l->OD X ρ hi h->F x l h=.ok (z,j) o->aJ o->ED X ρ (.Subscript a (.Slice lo hi none p2) pos) z j
structure aQ(Φ:Fx)(X:Cx)(sc:Scope):Prop where
 calm:X.calm=true
 nd:X.N.Nodup
 gl:∀x,sc.names.lookup x=some .globalImplicit->Gl X x
 kc:∀x,(sc.names.lookup x=some .cell\/sc.names.lookup x=some .free)->X.env.kindOf x=some .cell\/X.env.kindOf x=some .free
 lc:∀x,sc.names.lookup x=some .local->X.env.scope.names.lookup x=some .local
 cc:∀x,sc.names.lookup x=some .cell->X.env.scope.names.lookup x=some .cell
 fn:∀g F,Φ.fn g=some F->SH X g F
 con:∀x d,Φ.con x=some d->∃v u,X.mg x=some u/\aU v u/\∀H P,ah X.K H P d v
 blt:∀f B,Φ.blt f=some B->fb f B
 itr:∀f B,Φ.itr f=some B->kF f B
 mth:∀m M,Φ.mth m=some M->yF m M
 mtt:∀m M,Φ.mtt m=some M->kE m M
 slf:sH Φ.slf
 fld:∀n f,Φ.fld n f=true->∀C,W.nsIn X.K mainGlobals n=some (some (.ref C))->qz X.K C f
 omt:∀n m F,Φ.omt n m=some F->KD X n m F
 bl:∀f∈iN,X.mg f=none
 room:X.A.units+70<cLine
 ns:∀x,cY sc x=true->x∈X.N
 ft:∀x,sc.names.lookup x=some .cell->X.fn x=true
variable{X:Cx}
theorem cK(h:eM x=true):(x==("__debug__" : Str))=false/\(x==("__classdict__" : Str))=false:=by
 unfold eM at h
 rw[Bool.and_eq_true]at h
 exact⟨of_decide_eq_true h.1,of_decide_eq_true h.2⟩
theorem wH{o:Bool}(h:ρ x=some (d,o))(hx:eM x=true):ED X ρ (.Name x pos) d (kn d (cond o 2 1)):=by
 refine ED.kn fun ow pins s σ H Q I ⟨E,q⟩=>?_
 obtain⟨i,v,e1,e2,e3,e4⟩:=E.get x d o h
 refine gH (i:=i) e1 e2 (cK hx).1 (cK hx).2 pins s σ H Q I ⟨v,e3,q v H (ay.refl _) (e4.imp fun a b p=>?_)⟩
 cases o with
 | true=>exact⟨p.1,.inl (by rw[p.2];exact(fun z=>nomatch z))⟩
 | false=>exact p
theorem Jv(G:aQ Φ X sc)(h:Φ.con x=some d)(hg:sc.names.lookup x=some .globalImplicit)(hx:eM x=true):ED X ρ (.Name x pos) d 0:=by
 obtain⟨v,u,h1,h2,h3⟩:=G.con x d h
 exact fun ow=>bK (Fb (G.gl x hg) h1 h2 (cK hx).1) fun σ H Q ⟨E,q⟩=>q v H (ay.refl _) (h3 H _)
theorem En(h:xn x=some T):bootBuiltins x=some (.type T)/\x ≠ "__name__" /\ (x==("__debug__" : Str))=false/\x∈iN:=by
 unfold xn at h
 split at h
 ·rename_i e;subst e;cases h;exact⟨by decide +kernel,by decide +kernel,by decide +kernel,by decide +kernel⟩
 split at h
 ·rename_i e;subst e;cases h;exact⟨by decide +kernel,by decide +kernel,by decide +kernel,by decide +kernel⟩
 split at h
 ·rename_i e;subst e;cases h;exact⟨by decide +kernel,by decide +kernel,by decide +kernel,by decide +kernel⟩
 split at h
 ·rename_i e;subst e;cases h;exact⟨by decide +kernel,by decide +kernel,by decide +kernel,by decide +kernel⟩
 split at h
 ·rename_i e;subst e;cases h;exact⟨by decide +kernel,by decide +kernel,by decide +kernel,by decide +kernel⟩
 split at h
 ·rename_i e;subst e;cases h;exact⟨by decide +kernel,by decide +kernel,by decide +kernel,by decide +kernel⟩
 ·cases h
theorem Jp(G:aQ Φ X sc)(h:xn x=some T)(hg:sc.names.lookup x=some .globalImplicit):ED X ρ (.Name x pos) (.typ T) 0:=by
 obtain⟨h1,h2,h3,h4⟩:=En h
 exact fun ow=>bK (Fd (v:=.ty T) (G.gl x hg) (G.bl x h4) h1 rfl h2 h3) fun σ H Q ⟨E,q⟩=>q _ H (ay.refl _) (by rw[ah])
theorem Ju{c:Const}(h:DZ c=some d):ED X ρ (.Constant c n pos) d 0:=by
 intro ow
 unfold DZ at h
 split at h
 ·cases h;exact bK HP fun σ H Q ⟨E,q⟩=>q _ H (ay.refl _) (by rw[ah])
 ·cases h;exact bK LF fun σ H Q ⟨E,q⟩=>q _ H (ay.refl _) (by rw[ah])
 ·cases h;exact bK HR fun σ H Q ⟨E,q⟩=>q _ H (ay.refl _) (by rw[ah])
 ·cases h;exact bK HL fun σ H Q ⟨E,q⟩=>q _ H (ay.refl _) (by rw[ah])
 ·cases h
theorem Jy{b:Expr}{op:Operator}{x:D}{l:Nat}(ha:ED X ρ a x k)(hb:ED X ρ b y j)(h:uY op x y k j=.ok (z,l) o)(hp:aJ o):ED X ρ (.BinOp a op b pos) z l:=by
 obtain⟨r,h1,h2⟩:=Kg (X:=X) h hp
 refine fun ow=>bK (DB h1 (ha ow) (hb ow)) fun σ H Q ⟨E,q⟩=>⟨E,fun v H1 s1 r1=>⟨E.same s1,fun u H2 s2 r2=>?_⟩⟩
 exact h2 ow H H2 v u Q E.own (s1.trans s2) (r1.same s2) (r2.imp (Kp.back s1 j)) fun w H' s3 r3=>q w H' ((s1.trans s2).trans s3) r3
theorem Mg{op:UnaryOp}{x:D}(ha:ED X ρ a x k)(h:yX op x=some z):ED X ρ (.UnaryOp op a pos) z 0:=by
 unfold yX at h
 split at h
 ·cases h
  refine fun ow=>bK (LE GM (ha ow)) fun σ H Q ⟨E,q⟩=>⟨E,fun v H1 s1 r1=>?_⟩
  rw[ah]at r1;subst r1
  exact⟨_,rfl,q _ H1 s1 (by rw[ah])⟩
 ·cases h
  refine fun ow=>bK (HN (ha ow)) fun σ H Q ⟨E,q⟩=>⟨E,fun v H1 s1 r1=>?_⟩
  rw[ah]at r1;subst r1
  exact⟨_,rfl,q _ H1 s1 (by rw[ah])⟩
 ·cases h
theorem Jw{b:Expr}{x:D}(hu:X.A.units+70<cLine)(ha:ED X ρ a x k)(hb:ED X ρ b y j)(h:iL op x y=.ok r o)(hp:aJ o)(hm:behindInMarks op b=false):ED X ρ (.Compare a [op] [b] pos) (.bl r) 0:=by
 have c:=jN hu h hp
 intro ow pins s σ H Q I ⟨E,q⟩
 refine wpAny_Compare1 (MB (ha ow) (hb ow) I (R:=fun v u H2=>ay H H2/\ah X.K H2 (fun _ _=>True) x v/\ah X.K H2 (fun _ _=>True) y u) ⟨E,fun v H1 s1 r1=>⟨E.same s1,fun u H2 s2 r2=>⟨s1.trans s2,(r1.imp fun _ _ _=>True.intro).same s2,r2.imp fun _ _ _=>True.intro⟩⟩⟩ fun v u s2 x y H2 I2 rx ry ⟨sm,r1,r2⟩=>?_) hm
 exact c _ _ pins s2 σ H2 x y v u Q I2 rx ry ⟨r1,r2,q _ H2 sm (by rw[ah])⟩
theorem Go{x:D}{r:D×Nat}{l:List Prop}(h:JC op op2 x y z=.ok r l):∃a b c r1 r2,x=.int a/\y=.int b/\z=.int c/\gn op a b=some r1/\gn op2 b c=some r2/\r=(.bl (r1&&r2),0):=by
 unfold JC at h
 split at h
 ·split at h
  ·rename_i h1 h2;cases h;exact⟨_,_,_,_,_,rfl,rfl,rfl,h1,h2,rfl⟩
  ·cases h
 ·cases h
theorem qe{a b:Int}(h:gn op a b=some r):iL op (.int a) (.int b)=.ok r []:=by
 unfold gn at h
 split at h<;>first|(cases h;rfl)|cases h
theorem Cs{b:Expr}{x y z:Int}(hu:X.A.units+70<cLine)(ha:ED X ρ a (.int x) k)(hb:ED X ρ b (.int y) j)(hc:ED X ρ c (.int z) i)(h:gn op x y=some r)(h2:gn op2 y z=some r2)(hm:behindInMarks op2 c=false):ED X ρ (.Compare a [op,op2] [b,c] pos) (.bl (r&&r2)) 0:=by
 have c1:=jN (X:=X) hu (qe h) (show aJ []from True.intro)
 have c2:=jN (X:=X) hu (qe h2) (show aJ []from True.intro)
 refine fun ow=>bK (BH (c1 (fun _ _=>True) (fun _ _=>True)) (c2 (fun _ _=>True) (fun _ _=>True)) (ha ow) (hb ow) (hc ow) hm) fun σ H Q ⟨E,q⟩=>⟨E,fun v H1 s1 r1=>⟨E.same s1,fun u H2 s2 r2=>?_⟩⟩
 rw[ah]at r1 r2
 subst r1 r2
 refine⟨by rw[ah],by rw[ah],r,rfl,?_⟩
 cases r with
 | false=>exact q _ H2 (s1.trans s2) (by rw[ah];rfl)
 | true =>
  rw[if_pos rfl]
  refine⟨(E.same s1).same s2,fun w H3 s3 r3=>?_⟩
  rw[ah]at r3
  subst r3
  exact⟨by rw[ah],by rw[ah],q _ H3 ((s1.trans s2).trans s3) (by rw[ah];rfl)⟩
theorem Lb(h:ED X ρ e (.bl b) k)(he:∀whole,isTrue e X.env whole=(do let v <- whole;standAt e.pos;holding [v] (truthy v))):TD X ρ e b :=
 fun ow=>yC (HA (h ow) he) fun σ H Q ⟨E,q⟩=>⟨E,fun v H1 s1 r1=>by rw[ah]at r1;exact⟨b,r1,q H1 s1⟩⟩
theorem iP:AD X ρ [] [] 0:=fun ow=>D7 zB fun σ H Q ⟨E,q⟩=>q [] H (ay.refl _) ag.nil
theorem dN(h1:ED X ρ e d k)(h2:AD X ρ es ds j)(hs:starEach (e::es) X.env=(false,eval e X.env)::starEach es X.env):AD X ρ (e::es) (d::ds) (kj k j) :=
 fun ow=>D7 (qN (h1 ow) (h2 ow) hs) fun σ H Q ⟨E,q⟩=>⟨E,fun v H1 s1 r1=>⟨E.same s1,fun vs H2 s2 r2=>q _ H2 (s1.trans s2) (ag.cons ((r1.imp (Kp.joinL E.own k j)).same s2) (r2.imp fun a b p=>Kp.joinR E.own k j a b (Kp.back s1 j a b p)))⟩⟩
theorem uN(h:AD X ρ es ds k)(hl:ds.length<=bA):ED X ρ (.Tuple es n pos) (.tup ds) (kn (.tup ds) k):=by
 refine ED.kn fun ow=>bK (HK (h ow)) fun σ H Q ⟨E,q⟩=>⟨E,fun vs H1 s1 r1=>⟨by rw[<- r1.length];exact Nat.le_trans hl dX,fun p hp=>?_⟩⟩
 have sm:=cw (o:=HO.tup vs) hp
 refine q _ _ (s1.trans sm) ?_
 rw[ah]
 exact⟨p,vs,rfl,cu.of aE,r1.same sm⟩
theorem Jt:ED X ρ (.Dict [] [] pos) (.dct [] []) 0:=by
 intro ow pins s σ H Q I ⟨E,q⟩
 refine wpAny_Dict_empty ⟨.ref s.heap.objs.size,_,I.laid (t':=s.toks) (o:=.dK []) (fun b ob q=>Heap.get?_push_of_some _ q) (Nat.le_refl _) ?_,rfl,q _ _ (cw (I.hok.fresh (Nat.le_refl _))) ?_⟩
 ·exact⟨Nat.zero_le _,beq_eq_false_iff_ne.mpr (Nat.ne_of_gt (modules_low I.nolimit)),[],.nil,Heap.DictOf.new _⟩
 ·rw[ah];exact⟨rfl,rfl,_,[],rfl,aE,⟨rfl,I.hok.fresh (Nat.le_refl _)⟩,ag.nil⟩
theorem wJ(h:AD X ρ es ds k)(hk:k<=1)(hl:ds.length<=bA):ED X ρ (.List es pos) (.lst ds) k:=by
 refine fun ow=>bK (HQ (h ow)) fun σ H Q ⟨E,q⟩=>⟨E,fun vs H1 s1 r1=>⟨by rw[<- r1.length];exact Nat.le_trans hl dX,fun p hp=>?_⟩⟩
 have sm:=cw (o:=HO.lst vs) hp
 refine q _ _ (s1.trans sm) ?_
 rw[ah]
 exact⟨p,vs,true,rfl,aE,zY E.own (s1.free hp) hk,r1.same sm⟩
theorem DX{b:Expr}(hc:TD X ρ c t)(h:if t=true then ED X ρ a d k else ED X ρ b d k):ED X ρ (.IfExp c a b pos) d k:=by
 cases t with
 | true =>
  intro ow pins s σ H Q I ⟨E,q⟩
  refine PyProof.Rows.IfExp_ (aN (hc ow pins s σ H (fun t H1=>t=true/\ay H H1) I ⟨E,fun H1 s1=>⟨rfl,s1⟩⟩) fun t s1 ⟨H1,I1,e1,s1'⟩=>?_)
  subst e1
  exact h ow pins s1 σ H1 Q I1 ⟨E.same s1',fun v H2 s2 r2=>q v H2 (s1'.trans s2) (r2.imp (Kp.back s1' k))⟩
 | false =>
  intro ow pins s σ H Q I ⟨E,q⟩
  refine PyProof.Rows.IfExp_ (aN (hc ow pins s σ H (fun t H1=>t=false/\ay H H1) I ⟨E,fun H1 s1=>⟨rfl,s1⟩⟩) fun t s1 ⟨H1,I1,e1,s1'⟩=>?_)
  subst e1
  exact h ow pins s1 σ H1 Q I1 ⟨E.same s1',fun v H2 s2 r2=>q v H2 (s1'.trans s2) (r2.imp (Kp.back s1' k))⟩
variable{X:Cx}
theorem ag.atI{i:Int}(h:ag K H P l vs)(e:L2.atI l i=some d):∃v,L2.atI vs i=some v/\ah K H P d v:=by
 unfold L2.atI at e⊢
 rw[<- h.length]
 cases q:ja l.length i with
 | none=>rw[q]at e;cases e
 | some j=>rw[q]at e;exact h.get e
theorem DW{b:Expr}{x:D}{i:Int}{l:Nat}(ha:ED X ρ a x k)(hb:ED X ρ b (.int i) j)(hs:fJ b)(h:uh x i k=.ok (z,l) o):ED X ρ (.Subscript a b pos) z l:=by
 unfold uh at h
 split at h
 ·rename_i m e0
  split at h
  ·rename_i d e
   unfold mk at h
   cases h
   rcases fy e0 with rfl|rfl
   ·refine ED.kn fun ow=>bK (pA Ad (ha ow) (hb ow) hs) fun σ H Q ⟨E,q⟩=>⟨E,fun v H1 s1 r1=>⟨E.same s1,fun u H2 s2 r2=>?_⟩⟩
    obtain⟨p,vs,rfl,hq,rl⟩:=eJ (r1.same s2)
    rw[ah]at r2;subst r2
    obtain⟨w,h1,h2⟩:=rl.atI e
    exact⟨p,vs,i,w,rfl,rfl,hq,h1,q w H2 (s1.trans s2) h2⟩
   ·refine ED.kn fun ow=>bK (pA ww (ha ow) (hb ow) hs) fun σ H Q ⟨E,q⟩=>⟨E,fun v H1 s1 r1=>⟨E.same s1,fun u H2 s2 r2=>?_⟩⟩
    obtain⟨p,vs,rfl,hq,rl⟩:=iZ (r1.same s2)
    rw[ah]at r2;subst r2
    obtain⟨w,h1,h2⟩:=rl.atI e
    exact⟨p,vs,i,w,rfl,rfl,hq,h1,q w H2 (s1.trans s2) h2⟩
  ·cases h
 ·cases h
def N7:R2:=fun x y H Q => ∃p kvs k v,x=.ref p/\y=kV k/\H p=some (.dK kvs)/\jS kvs k=some v/\Q v H
theorem FC:Ed X N7:=by
 intro value slice pins s σ H x y v u Q I rx ry h hs
 obtain⟨p,kvs,k,z,rfl,rfl,hq,he,q⟩:=h
 cases rx
 obtain⟨_,hd,vs,rel,dd⟩:=(show bw X.prog X.w H s.heap p (.dK kvs)from I.hok p _ hq)
 obtain⟨w,hw,rw'⟩:=fg.some_of (v:=z) (o:=valueAt vs k) (by rw[<- he];exact rel.val k)
 exact subscriptTail_builtinR (x:=w) dd.typeIs PySem.F.slot_dict_getitem.lookup (wpAny_getItem_of (Q:=fun r s'=>r=w/\EP X pins σ Q r s') (xY ry) dd.mapOf hw ⟨rfl,z,H,I.tok _,rw',q⟩) hs
theorem uO{K:W.Frag}{P:be}{H:Hp}{k:bU}{d:D}:∀{ks:List bU} {ds:List D} {vs:List V},ag K H P ds vs->me ks ds k=some d->∃v,jS (ks.zip vs) k=some v/\ah K H P d v/\d∈ds
 | [],ds,vs,_,e=>by cases e
 | j::ks,[],vs,_,e=>by cases e
 | j::ks,x::ds,vs,h,e=>by
  rw[ag]at h
  obtain⟨v,r,rfl,h1,h2⟩:=h
  by_cases hj:j=k
  ·have e':some x=some d:=by rw[<- e];simp[me,List.find?_cons,hj]
   cases e'
   exact⟨v,n6 hj,h1,List.mem_cons_self⟩
  ·have e':me ks ds k=some d:=by rw[<- e];simp[me,List.find?_cons,hj]
   obtain⟨w,g1,g2,g3⟩:=uO h2 e'
   exact⟨w,(n8 hj).trans g1,g2,List.mem_cons_of_mem _ g3⟩
theorem lL:∀{l:List D} {d:D},ar l=true->d∈l->d.lless=true
 | x::l,d,h,m=>by
  rw[ar,Bool.and_eq_true]at h
  rcases List.mem_cons.mp m with rfl|m
  ·exact h.1
  ·exact lL h.2 m
theorem Jq{b:Expr}{p q r:D×Nat}(ha:ED X ρ a p.1 p.2)(hb:ED X ρ b q.1 q.2)(hs:fJ b)(h:jU p q=.ok r o):ED X ρ (.Subscript a b pos) r.1 r.2:=by
 obtain⟨z,k⟩:=p
 unfold jU at h
 split at h
 ·rename_i ks ds e0
  have e0:z=_:=e0
  subst e0
  split at h
  ·rename_i key e
   split at h
   ·rename_i d e2
    cases h
    refine fun ow=>bK (pA FC (ha ow) (hb ow) hs) fun σ H Q ⟨E,qq⟩=>⟨E,fun v H1 s1 r1=>⟨E.same s1,fun u H2 s2 r2=>?_⟩⟩
    have r1':=r1.same s2
    rw[ah]at r1'
    obtain⟨f,e1,p,vs,rfl,hq,_,rl⟩:=r1'
    have hk:=oB (X:=X) e r2
    obtain⟨w,g1,g2,g3⟩:=uO rl e2
    exact⟨p,_,key,w,rfl,hk,hq,g1,qq w H2 (s1.trans s2) (g2.flat _ (lL f g3))⟩
   ·cases h
  ·cases h
 ·unfold j9 at h
  split at h
  ·rename_i j hj
   rw[hj]at hb
   exact DW ha hb hs h
  ·cases h
theorem D6{e:Option Expr}{t t':TO}(h:PO X e t)(i:∀σ H Q,t' σ H Q->t σ H Q):PO X e t':=fun pins s σ H Q I q=>h pins s σ H Q I (i σ H Q q)
theorem wk:OD X ρ none none:=fun ow=>D6 EY fun σ H Q ⟨E,q⟩=>q H (ay.refl _)
theorem wj{i:Int}(h:ED X ρ e (.int i) k):OD X ρ (some e) (some i):=fun ow=>D6 (EW (h ow)) fun σ H Q ⟨E,q⟩=>⟨E,fun v H1 s1 r1=>by rw[ah]at r1;exact⟨i,r1,q H1 s1⟩⟩
theorem ag.cut{lo hi:Option Int}(h:ag K H P l vs):ag K H P (yg l lo hi) (oJ vs lo hi):=by
 unfold yg oJ
 rw[<- h.length]
 exact(h.drop _).take _
theorem aS:sH cm:=fun X ρ a lo hi p2 pos x z l h k j o ha hl hh e hp=>by cases e
theorem bi{env:Env}{pos:Pos}:∀{es:List Expr},(∀e∈es,∀x p,e ≠ .Starred x p)->(backTo pos (starEach es env)).any (·.1)=false
 | [],_=>rfl
 | e::es,h=>by
  have ih:=bi (env:=env) (es:=es) (pos:=pos) fun x hx=>h x (List.mem_cons_of_mem _ hx)
  have he:=h e List.mem_cons_self
  cases e<;>first|exact absurd rfl (he _ _)|exact ih
theorem aF(h:∀x p,e ≠ .Starred x p):starEach (e::es) env=(false,eval e env)::starEach es env:=by
 cases e<;>first|exact absurd rfl (h _ _)|rfl
theorem Ct{p:Pos}{args:List Expr}{r:D}(G:aQ Φ X sc)(hf:Eh X f F)(hg:sc.names.lookup f=some .globalImplicit)
  (ha:AD X ρ args ds k) (hst:∀e∈args,∀x p,e ≠ .Starred x p) (hnil:args=[]->ds=[]) (h:F ds=.ok r o) (hp:aJ o):ED X ρ (.Call (.Name f p) args [] pos) r 0:=by
 obtain⟨n,fa,fd,ps,hF,hr,hm,hk,hb,hd⟩:=hf
 intro ow
 cases args with
 | nil =>
  refine bK (BJ hF hr (G.gl f hg) hm hk hb .nil jY hd) fun σ H Q ⟨E,q⟩=>?_
  have hds:=hnil rfl
  subst hds
  exact⟨[],r,o,ag.nil,h,hp,fun v H' s1 r1=>q v H' s1 r1⟩
 | cons e es =>
  refine bK (Fc hF hr (G.gl f hg) hm hk hb .nil jY (ha ow) hd (aF (hst e List.mem_cons_self)) (bi fun x hx=>hst x (List.mem_cons_of_mem _ hx))) fun σ H Q ⟨E,q⟩=>⟨E,fun vs H1 s1 r1=>?_⟩
  refine⟨ds,r,o,by rw[List.append_nil];exact r1.imp fun _ _ _=>True.intro,h,hp,fun v H' s2 r2=>q v H' (s1.trans s2) (r2.imp fun a b p=>⟨p.1,s1.free p.2⟩)⟩
theorem gF{x dx C:Addr}(hx:H x=none)(hd:H dx=none):ay H (aG (aG H dx (.own x)) x (.ins C dx [])):=fun a o h=>by
 rw[ax (fun z=>by subst z;rw[hx]at h;cases h),ax (fun z=>by subst z;rw[hd]at h;cases h)]
 exact h
theorem Gg{p:Pos}{args:List Expr}{r:D}(G:aQ Φ X sc)(hf:KC X f F)(hg:sc.names.lookup f=some .globalImplicit)
  (ha:AD X ρ args ds k) (hst:∀e∈args,∀x p,e ≠ .Starred x p) (hnil:args=[]->ds=[]) (h:F ds=.ok r o) (hp:aJ o):ED X ρ (.Call (.Name f p) args [] pos) r 0:=by
 obtain⟨n,C,fa,fd,ps,hfl,hM,hF,hr,hm,hns,hc,hb,hd⟩:=hf
 have hl:=hfl ds r o h
 intro ow
 cases args with
 | nil =>
  refine bK (BG hM hF hr (G.gl f hg) hm hb .nil jY hd) fun σ H Q ⟨E,q⟩=>?_
  have hds:=hnil rfl
  subst hds
  intro x dx hx hdx ne
  refine⟨x,[],C,dx,[],r,o,rfl,aE,hns,hc,ag.nil,h,hp,hl,fun H' kp rr=>⟨rfl,q _ H' (fun a ob ha=>?_) (rr.flat _ hl)⟩⟩
  exact kp a ob (fun z=>by subst z;rw[hx]at ha;cases ha) (gF hx hdx a ob ha)
 | cons e es =>
  refine bK (Fa hM hF hr (G.gl f hg) hm hb .nil jY (ha ow) hd (aF (hst e List.mem_cons_self)) (bi fun x hx=>hst x (List.mem_cons_of_mem _ hx))) fun σ H Q ⟨E,q⟩=>⟨E,fun vs H1 s1 r1=>?_⟩
  intro x dx hx hdx ne
  refine⟨x,vs++[],C,dx,ds,r,o,rfl,aE,hns,hc,by rw[List.append_nil];exact(r1.same (gF hx hdx)).imp fun _ _ _=>True.intro,h,hp,hl,fun H' kp rr=>⟨rfl,q _ H' (s1.trans fun a ob ha=>?_) (rr.flat _ hl)⟩⟩
  exact kp a ob (fun z=>by subst z;rw[hx]at ha;cases ha) (gF hx hdx a ob ha)
theorem Gk{p:Pos}{args:List Expr}{r:D}(G:aQ Φ X sc)(hf:Φ.fn f=some F)(hg:sc.names.lookup f=some .globalImplicit)
  (ha:AD X ρ args ds k) (hst:∀e∈args,∀x p,e ≠ .Starred x p) (hnil:args=[]->ds=[]) (h:F ds=.ok r o) (hp:aJ o):ED X ρ (.Call (.Name f p) args [] pos) r 0:=by
 rcases G.fn f F hf with z|z
 ·exact Ct G z hg ha hst hnil h hp
 ·exact Gg G z hg ha hst hnil h hp
theorem DR{o:Expr}{name:Str}{apos:Pos}(hb:attributeBase o name env (eval o env)=eval o env)(hf:methodCallForm (args.length+([]:List Keyword).length) (backTo pos (starEach args env)) (backToKw pos (keywordEach [] env))=true)
  (hl:(apos.endLine==pos.line)=true):eval (.Call (.Attribute o name apos) args [] pos) env=(do
   let ov <- eval o env
   standAt apos.atName
   let (f,first) <- holding [ov] (getMethod ov name (do return (<- importBound o env).getD true))
   callWith pos f first (backTo pos (starEach args env)) (backToKw pos (keywordEach [] env))):=by
 show(do
  let ov <- attributeBase o name env (eval o env)
  standAt apos.atName
  methodCall o name apos pos env ov (args.length+([]:List Keyword).length) (backTo pos (starEach args env)) (backToKw pos (keywordEach [] env)))=_
 rw[hb]
 unfold methodCall calleeOf methodCallPos
 rw[hf,hl]
 rfl
theorem gp{t:Sem Value}(h:iO a=true):attributeBase a m env t=t:=by
 unfold attributeBase
 split
 ·cases h
 ·rfl
theorem Ar{args:List Expr}(hst:∀e∈args,∀x p,e ≠ .Starred x p)(hn:args.length<29):methodCallForm (args.length+([]:List Keyword).length) (backTo pos (starEach args env)) (backToKw pos (keywordEach [] env))=true:=by
 unfold methodCallForm
 have e1:(backTo pos (starEach args env)).all (fun x => !x.1)=true:=by
  have:=bi (env:=env) (pos:=pos) hst
  rw[List.all_eq_true]
  intro x hx
  have h2:¬ (backTo pos (starEach args env)).any (·.1)=true:=by rw[this];exact Bool.false_ne_true
  cases hb:x.1 with
  | false=>rfl
  | true=>exact absurd (List.any_eq_true.mpr ⟨x,hx,hb⟩) h2
 rw[e1]
 show(true&&true&&decide (args.length+0+0<30))=true
 simp;omega
theorem sL:ns.contains m=false->(ns.zip vs).lookup m=none:=by
 induction ns generalizing vs with
 | nil=>intro _;rfl
 | cons a ns ih =>
  intro h
  cases vs with
  | nil=>rfl
  | cons v vs =>
   rw[List.contains_cons,Bool.or_eq_false_iff]at h
   show List.lookup m ((a,v)::ns.zip vs)=none
   rw[List.lookup_cons,h.1]
   exact ih h.2
theorem Gf{n:Str}{args:List Expr}{es:List D}{r:D}(G:aQ Φ X sc)(hf:Φ.omt n m=some F)(he:ED X ρ a (.obj n ns es) j)
  (ha:AD X ρ args ds k) (hst:∀e∈args,∀x p,e ≠ .Starred x p) (hlen:args.length=ds.length) (hn:ns.contains m=false) (hb:iO a=true) (hfew:ds.length<29) (hl:(ap.endLine==pos.line)=true) (h:F (.obj n ns es::ds)=.ok r o) (hp:aJ o):ED X ρ (.Call (.Attribute a m ap) args [] pos) r 0:=by
 obtain⟨kk,C,fa,fd,ps,hns,hc,hm,hF,hr,hbd⟩:=G.omt n m F hf
 intro ow
 have ht:=DR (o:=a) (name:=m) (apos:=ap) (pos:=pos) (args:=args) (env:=X.env) (gp hb) (Ar hst (by omega)) hl
 cases args with
 | nil =>
  refine bK (BF (he ow) hc hm hF hr hbd .nil jY ht) fun σ H Q ⟨E,q⟩=>⟨E,fun v H1 s1 r1=>?_⟩
  have hds:ds=[]:=List.length_eq_zero_iff.mp hlen.symm
  subst hds
  have r0:=r1
  rw[ah]at r1
  obtain⟨f,e0,x,C',dx,vs,rfl,h1,h2,h3,r2⟩:=r1
  rw[hns]at h1;cases h1
  refine⟨x,dx,_,rfl,h3,sL hn,[.obj n ns es],r,o,ag.one (r0.imp fun _ _ _=>True.intro),h,hp,fun v H' s2 r2=>q v H' (s1.trans s2) (r2.imp fun a b p=>⟨p.1,s1.free p.2⟩)⟩
 | cons e es' =>
  refine bK (E9 (he ow) hc hm hF hr hbd .nil jY (ha ow) (aF (hst e List.mem_cons_self)) (bi fun x hx=>hst x (List.mem_cons_of_mem _ hx)) ht) fun σ H Q ⟨E,q⟩=>⟨E,fun v H1 s1 r1=>?_⟩
  have r0:=r1
  rw[ah]at r1
  obtain⟨f,e0,x,C',dx,vs,rfl,h1,h2,h3,r2⟩:=r1
  rw[hns]at h1;cases h1
  refine⟨x,dx,_,rfl,h3,sL hn,E.same s1,fun ws H2 s2 rw2=>?_⟩
  refine⟨.obj n ns es::ds,r,o,by rw[List.append_nil];exact ag.cons ((r0.same s2).imp fun _ _ _=>True.intro) (rw2.imp fun _ _ _=>True.intro),h,hp,fun v H' s3 r3=>q v H' ((s1.trans s2).trans s3) (r3.imp fun a b p=>⟨p.1,s1.free (s2.free p.2)⟩)⟩
theorem sM{K:W.Frag}{H:Hp}{P:be}{f:Str}{d:D}:∀{ns:List Str} {ds:List D} {vs:List V},ag K H P ds vs->(ns.zip ds).lookup f=some d->∃v,(ns.zip vs).lookup f=some v/\ah K H P d v/\(ar ds=true->d.lless=true)
 | [],ds,vs,_,h=>by cases h
 | a::ns,[],vs,_,h=>by cases h
 | a::ns,e::ds,vs,r,h=>by
  rw[ag]at r
  obtain⟨v,ws,rfl,r1,r2⟩:=r
  replace h:List.lookup f ((a,e)::ns.zip ds)=some d:=h
  show ∃u,List.lookup f ((a,v)::ns.zip ws)=some u/\_
  rw[List.lookup_cons]at h⊢
  cases hb:f==a with
  | true =>
   rw[hb]at h;cases h
   exact⟨v,rfl,r1,fun z=>by rw[ar,Bool.and_eq_true]at z;exact z.1⟩
  | false =>
   rw[hb]at h
   obtain⟨u,u1,u2,u3⟩:=sM r2 h
   exact⟨u,u1,u2,fun z=>by rw[ar,Bool.and_eq_true]at z;exact u3 z.2⟩
theorem Js{n:Str}(G:aQ Φ X sc)(hf:Φ.fld n f=true)(he:ED X ρ a (.obj n ns ds) j)(hb:iO a=true)(h:(ns.zip ds).lookup f=some d):ED X ρ (.Attribute a f pos) d 0:=by
 intro ow
 refine bK (HW (he ow) (gp hb)) fun σ H Q ⟨E,q⟩=>⟨E,fun v H1 s1 r1=>?_⟩
 rw[ah]at r1
 obtain⟨fl,e0,x,C,dx,vs,rfl,h1,h2,h3,r2⟩:=r1
 obtain⟨u,u1,u2,u3⟩:=sM r2 h
 exact⟨x,C,dx,_,u,rfl,h3,h2,G.fld n f hf C h1,u1,q u H1 s1 (u2.flat _ (u3 fl))⟩
theorem Ge{n p:Str}{i:Int}(he:ED X ρ a (.xc n (some (p,[(f,i)]))) j)(hb:iO a=true):ED X ρ (.Attribute a f pos) (.int i) 0:=by
 intro ow pins s σ H Q I ⟨E,q⟩
 refine wL (gp hb) (aN (he ow pins s σ H (fun v H'=>ay H H'/\kB X.K H' n (some (p,[(f,i)])) v) I ⟨E,fun v H' s1 r1=>⟨s1,by rw[ah]at r1;exact r1⟩⟩) fun u s1 ⟨v,H1,I1,rx,sm,x,C,S,od,e,h1,h2,h3,h4,h5,h6⟩=>?_)
 subst e
 obtain rfl:u=Value.ref x:=rx
 obtain⟨dx,rfl,hdx⟩:=h5 f i rfl
 obtain⟨o,vs,e1,e2,e3,e4⟩:=(show bw X.prog X.w H1 s1.heap x (kM x C (some dx))from I1.hok x _ h4).1
 obtain⟨mA,hn,hr⟩:=(show bw X.prog X.w H1 s1.heap dx (.xd [(f,.int i)])from I1.hok dx _ hdx)
 obtain⟨u,hu,ru⟩:=fg.some_of (v:=.int i) (o:=mA f) (by have:=hr f;rw[List.lookup_cons,beq_self_eq_true]at this;exact this)
 obtain⟨nm,qn,N,bs,hdct,sn,sub,ab,col,dd,k0,k1,k2,k3,k5,mN,g1,g2,g3,g4⟩:=fC h3.ex I1.kIn
 exact FV h3.ga h3.gt (h6 f i rfl).no (h6 f i rfl).di I1.kIn e1 e2 e4 e3 hn hu (rQ ru) g1 g4 ⟨.int i,H1,I1.tok _,ru,q _ _ sm (by rw[ah])⟩
theorem Jx{B:List D->R1}{p:Pos}{e:Expr}{es:List Expr}{l:Nat}(G:aQ Φ X sc)(hB:fb f B)(hg:sc.names.lookup f=some .globalImplicit)
  (ha:AD X ρ (e::es) ds k) (hst:∀x∈e::es,∀y p,x ≠ .Starred y p) (h:B ds=.ok (z,l) o) (hp:aJ o):ED X ρ (.Call (.Name f p) (e::es) [] pos) z l:=by
 obtain⟨h3,h1,h2,_,h4⟩:=hB
 have h4:=h4 X ds z l o G.calm h hp
 intro ow
 have n1:=aF (env:=X.env) (es:=es) (hst e List.mem_cons_self)
 have n2:(backTo pos (starEach es X.env)).any (·.1)=false:=bi fun x hx=>hst x (List.mem_cons_of_mem _ hx)
 rcases h4 with⟨id,e1,r,e2,e3⟩|⟨T,e1,r,e2,e3⟩
 ·refine bK (BI e2 (G.gl f hg) (G.bl f h3) e1 (ha ow) h1 h2 n1 n2) fun σ H Q ⟨E,q⟩=>⟨E,fun vs H1 s1 r1=>?_⟩
  exact e3 ow H H1 vs _ Q E.own s1 r1 fun w H' s2 r2=>q w H' (s1.trans s2) r2
 ·refine bK (zy e2 (G.gl f hg) (G.bl f h3) e1 (ha ow) h1 h2 n1 n2) fun σ H Q ⟨E,q⟩=>⟨E,fun vs H1 s1 r1=>?_⟩
  exact e3 ow H H1 vs _ Q E.own s1 r1 fun w H' s2 r2=>q w H' (s1.trans s2) r2
theorem FH(h:ED X ρ e (.lst l) k):IE X ρ tg e l k:=by
 intro ow pins s σ H R I ⟨E,q⟩
 refine EZ (tg:=tg) (h ow) pins s σ H R I ⟨E,fun v H1 s1 r1=>?_⟩
 rw[ah]at r1
 obtain⟨a,vs,b,rfl,hl,hp,rl⟩:=r1
 have rl':ag X.K H1 (Kd ow H k H1) l vs:=rl.impH (fun a o ho p=>⟨p,fun _=>⟨o,ho⟩⟩) fun a p=>⟨p,fun z=>(by cases z)⟩
 have hp':Kd ow H k H1 a b:=⟨hp,fun hb=>by subst hb;exact⟨_,hl⟩⟩
 have sq:∀{H2:Hp},vo X.K H2 a vs b->cf X.K H2 a vs:=fun {H2} h=>h.sq
 refine⟨a,rfl,⟨vs,sq hl⟩,q _ H1 s1 fun i H2 st=>⟨fun d hd=>?_,fun hle=>?_⟩⟩
 ·have h2:=sq (st.ls hl hp')
  obtain⟨w,hw,rw'⟩:=rl'.get hd
  refine⟨⟨vs,w,h2,hw⟩,fun x H3 ⟨e3,y3⟩=>?_⟩
  subst e3
  have:=y3 vs h2
  rw[hw]at this;cases this
  exact⟨ay.refl _,rw'.mono st⟩
 ·exact⟨vs,sq (st.ls hl hp'),by rw[<- rl.length];exact hle⟩
theorem IQ(h:ED X ρ e (.tup l) k):IE X ρ tg e l k:=by
 intro ow pins s σ H R I ⟨E,q⟩
 refine HI (tg:=tg) (h ow) pins s σ H R I ⟨E,fun v H1 s1 r1=>?_⟩
 rw[ah]at r1
 obtain⟨a,vs,rfl,hl,rl⟩:=r1
 have rl':ag X.K H1 (Kd ow H k H1) l vs:=rl.impH (fun a o ho p=>⟨p,fun _=>⟨o,ho⟩⟩) fun a p=>⟨p,fun z=>(by cases z)⟩
 refine⟨a,rfl,⟨vs,hl⟩,q _ H1 s1 fun i H2 st=>⟨fun d hd=>?_,fun hle=>?_⟩⟩
 ·have h2:=st.sq hl
  obtain⟨w,hw,rw'⟩:=rl'.get hd
  refine⟨⟨vs,w,h2,hw⟩,fun x H3 ⟨e3,y3⟩=>?_⟩
  subst e3
  have:=y3 vs h2
  rw[hw]at this;cases this
  exact⟨ay.refl _,rw'.mono st⟩
 ·exact⟨vs,st.sq hl,by rw[<- rl.length];exact hle⟩
def MH(x:Str):It:=⟨fun i _=>i<x.cps.size,fun i H v H'=>H'=H/\∃c,x.cps[i]?=some c/\v=.str ⟨#[c]⟩,fun i _=>x.cps.size<=i⟩
theorem Bk{P:Program}(x:Str)(t:Tok)(it:Addr):Turn P w K tg (MH x) [it] it (fun i h=>h.IsStrIter it "str_ascii_iterator" x t i) where
 mem:=by simp
 obj:=fun i h st b hb=>by
  have e:b=it:=by simpa using hb
  subst e
  obtain⟨o,e,c,d⟩:=st
  exact⟨o,e,fun v z=>by rw[d]at z;cases z⟩
 keep:=fun i h h' st k=>by
  obtain⟨o,e,c,d⟩:=st
  exact⟨o,k it (by simp) o e,c,d⟩
 item:=by
  intro X hP hw hK hc i pins s σ H E I hf st hg
  subst hP hw hK
  obtain⟨f0,f1,f2,f3,f4,f5⟩:=hf it (by simp)
  have hx:x.cps[i]?=some x.cps[i]:=Array.getElem?_eq_getElem hg
  refine wpAny_pyNext_ascii_item st hx fun h' st' sb=>?_
  have I1:aj X pins σ H { s with heap:=h',toks:=s.toks+1 }:=I.turned (t':=s.toks+1) (fun b o hb e=>(sb.2 b hb).trans e) f0 f1 f3 f4 f5
  obtain⟨o,e,c,d⟩:=id st'
  exact⟨_,rfl,pP (s:={ s with heap:=h',toks:=s.toks+1 }) e c d (by decide) ⟨.str ⟨#[x.cps[i]]⟩,H,I1,⟨_,rfl⟩,⟨rfl,_,hx,rfl⟩,st',fun b hb=>(hf b hb).1⟩⟩
 done:=by
  intro X hP hw hK hc i pins s σ H E I hf st hg
  subst hP hw hK
  obtain⟨f0,f1,f2,f3,f4,f5⟩:=hf it (by simp)
  exact wpAny_pyNext_ascii_end (I.ok.hd hc) st (Array.getElem?_eq_none hg) fun h' eb=>⟨rfl,I.turned (t':=s.toks) (fun b o hb e=>eb b o hb e) f0 f1 f3 f4 f5⟩
 self:=fun _ _ _ _ _ st h=>wpAny_pyIter_striter_ascii st h
theorem IR(h:ED X ρ e (.str x) k)(ha:(x.cps.all fun c=>decide (c<128))=true):IE X ρ tg e (Dq x) k:=by
 intro ow pins s σ H R I ⟨E,q⟩
 refine aN (h ow pins s σ H _ I ⟨E,fun v H1 s1 r1=>(show(fun v H1=>ay H H1/\ah X.K H1 (Kp ow H k) (.str x) v) v H1 from⟨s1,r1⟩)⟩) fun v s1 ⟨y,H1,I1,rel,sm,rp⟩=>?_
 rw[ah]at rp;subst rp
 obtain⟨t,rfl⟩:=rel
 have ty:strIterType x = "str_ascii_iterator" := if_pos ha
 refine wpAny_pyIter_strU ?_
 rw[ty]
 refine⟨s1.heap.objs.size,[s1.heap.objs.size],_,MH x,H1,rfl,I1.kept (t':=s1.toks) fun b o e=>Heap.get?_push_of_some _ e,Bk x t _,⟨_,Heap.get?_push_size _ rfl,rfl,rfl⟩,fun b hb=>?_,q _ H1 sm fun i H2 st=>⟨fun d hd=>?_,fun hle=>?_⟩⟩
 ·have e:b=s1.heap.objs.size:=by simpa using hb
  subst e
  exact I1.fpOk (Nat.le_refl _) (I1.hok.fresh (Nat.le_refl _))
 ·unfold Dq at hd
  rw[List.getElem?_map]at hd
  cases hc:x.cps.toList[i]? with
  | none=>rw[hc]at hd;cases hd
  | some c =>
   rw[hc]at hd;cases hd
   have hi:i<x.cps.size:=by simpa using (List.getElem?_eq_some_iff.mp hc).1
   refine⟨hi,fun z H3 ⟨e3,c',e4,e5⟩=>?_⟩
   subst e3 e5
   rw[Array.getElem?_toList]at hc
   rw[hc]at e4;cases e4
   exact⟨ay.refl _,by rw[ah]⟩
 ·unfold Dq at hle
  rw[List.length_map,Array.length_toList]at hle
  exact hle
theorem L1(h:ED X ρ e d k)(hi:items d=some l):IE X ρ tg e l k:=by
 unfold items at hi
 split at hi
 ·cases hi;exact FH h
 ·cases hi;exact IQ h
 ·split at hi
  ·rename_i ha;cases hi;exact IR h ha
  ·cases hi
 ·cases hi
theorem B9{p:Pos}{j:Int}(hg:Gl X "range")(hm0:X.mg "range" = none)(ha:AD X ρ [a] [.int j] k)(hst:∀y p,a ≠ .Starred y p)(h1:-4611686018427387904<=j)(h2:j<=bA) :
  IE X ρ tg (.Call (.Name "range" p) [a] [] pos) ((List.range j.toNat).map fun i=>.int (i:Nat)) 0:=by
 intro ow pins s σ H R I ⟨E,q⟩
 refine zx (tg:=tg) hg hm0 (ha ow) (by rw[aF hst];rfl) pins s σ H R I ⟨E,fun vs H1 s1 r1=>?_⟩
 obtain⟨v,rfl,rv⟩:=r1.only
 rw[ah]at rv;subst rv
 have hm:(bA:Int)<2 ^ 62:=by decide
 refine⟨j,rfl,h1,by omega,q _ H1 s1 fun i H2 st=>⟨fun d hd=>?_,fun hle=>?_⟩⟩
 ·rw[List.getElem?_map]at hd
  cases e:(List.range j.toNat)[i]? with
  | none=>rw[e]at hd;cases hd
  | some n =>
   rw[e]at hd;cases hd
   obtain⟨hi,hn⟩:=List.getElem?_eq_some_iff.mp e
   rw[List.getElem_range]at hn
   subst hn
   rw[List.length_range]at hi
   refine⟨hi,fun x H3 ⟨e3,y3⟩=>?_⟩
   subst e3 y3
   exact⟨ay.refl _,by rw[ah,Int.zero_add]⟩
 ·rw[List.length_map,List.length_range]at hle
  exact hle
theorem Ah{b:Expr}{p:Pos}{j0 j:Int}(hg:Gl X "range")(hm0:X.mg "range" = none)(ha:AD X ρ [a,b] [.int j0,.int j] k)(hst:∀y p,a ≠ .Starred y p)(hst2:∀y p,b ≠ .Starred y p)(h1:-4611686018427387904<=j0)(h2:j0<=4611686018427387000)(h3:-4611686018427387904<=j)(h4:j-j0<=800) :
  IE X ρ tg (.Call (.Name "range" p) [a,b] [] pos) ((List.range (j-j0).toNat).map fun i=>.int (j0+(i:Nat))) 0:=by
 intro ow pins s σ H R I ⟨E,q⟩
 refine zw (tg:=tg) hg hm0 (ha ow) (by rw[aF hst,aF hst2];rfl) (by rw[aF hst2];rfl) pins s σ H R I ⟨E,fun vs H1 s1 r1=>?_⟩
 rw[ag]at r1
 obtain⟨v1,r,rfl,r2,r3⟩:=r1
 rw[ag]at r3
 obtain⟨v2,r',rfl,r4,r5⟩:=r3
 rw[ag]at r5
 rw[ah]at r2 r4
 subst r2 r4 r5
 refine⟨j0,j,rfl,⟨h1,by omega,h3,by omega⟩,q _ H1 s1 fun i H2 st=>⟨fun d hd=>?_,fun hle=>?_⟩⟩
 ·rw[List.getElem?_map]at hd
  cases e:(List.range (j-j0).toNat)[i]? with
  | none=>rw[e]at hd;cases hd
  | some n =>
   rw[e]at hd;cases hd
   obtain⟨hi,hn⟩:=List.getElem?_eq_some_iff.mp e
   rw[List.getElem_range]at hn
   subst hn
   rw[List.length_range]at hi
   refine⟨hi,fun x H3 ⟨e3,y3⟩=>?_⟩
   subst e3 y3
   exact⟨ay.refl _,by rw[ah]⟩
 ·rw[List.length_map,List.length_range]at hle
  exact hle
theorem Ai:kF "range" lX:=by
 refine⟨by decide +kernel,fun X ρ p pos args ds k d j l tg o hc hg hm ha hst hlen h hp hl ht=>?_⟩
 unfold lX at h
 split at h
 ·rename_i n
  cases h
  cases hl
  match args,hlen,ha,hst with
  | [a],_,ha,hst=>exact B9 hg hm ha (hst a List.mem_cons_self) hp.1 hp.2.1
 ·rename_i m n
  cases h
  cases hl
  match args,hlen,ha,hst with
  | [a,b],_,ha,hst=>exact Ah hg hm ha (hst a List.mem_cons_self) (hst b (List.mem_cons_of_mem _ List.mem_cons_self)) hp.1 hp.2.1 hp.2.2.1 hp.2.2.2.1
 ·cases h
variable{X:Cx}
theorem cZ{y:D×Bool}(z:Str):bc ρ x y z=if z=x then some y else ρ z:=rfl
theorem eY{o:Bool}(hN:X.N.Nodup)(hl:σ.length=X.N.length)(E:aL X ow H σ ρ)(hi:X.N[i]?=some x)(hv:iS X.env.scope x)(r:ah X.K H (j5 ow x o) d v) :
  aL X ow H (σ.set i (some v)) (bc ρ x (d,o)):=by
 have hil:i<σ.length:=by rw[hl];exact(List.getElem?_eq_some_iff.mp hi).1
 refine⟨fun y e o' h=>?_,E.own⟩
 rw[cZ]at h
 by_cases hy:y=x
 ·subst hy
  rw[if_pos rfl]at h
  cases h
  exact⟨i,v,hi,hv,by rw[List.getElem?_set_self hil],r⟩
 ·rw[if_neg hy]at h
  obtain⟨j,w,e1,e2,e3,e4⟩:=E.get y e o' h
  have hij:i≠j:=by intro z;subst z;rw[hi]at e1;cases e1;exact hy rfl
  exact⟨j,w,e1,e2,by rw[List.getElem?_set_ne hij];exact e3,e4⟩
theorem fN(G:aQ Φ X sc)(h:cY sc x=true):vp X.env.scope x/\iS X.env.scope x/\(X.fn x=true\/X.env.scope.names.lookup x=some .local)/\∃i:Nat,X.N[i]?=some x:=by
 have hx:=G.ns x h
 have hlt:=List.idxOf_lt_length_iff.mpr hx
 have hi:∃i:Nat,X.N[i]?=some x:=⟨X.N.idxOf x,by rw[List.getElem?_eq_getElem hlt,List.getElem_idxOf hlt]⟩
 unfold cY at h
 rw[Bool.or_eq_true]at h
 rcases h with h|h
 ·have h:=G.lc x (by simpa using h)
  exact⟨.inl h,.inl h,.inr h,hi⟩
 ·have h0:sc.names.lookup x=some .cell:=by simpa using h
  have h:=G.cc x h0
  exact⟨.inr h,.inr (.inl h),.inl (G.ft x h0),hi⟩
theorem lG{Φ:Fx}{sc:Scope}(G:aQ Φ X sc):∀{es:List Expr} {ds:List D} {ρ ρ':af},aW sc es ds ρ=some ρ'->∃t,wP X es t/\(assignEach es X.env).length=ds.length/\(assignEach es X.env).findIdx? (·.1)=none /\
  ∀(ow:Ow) (vs:List V) (σ:L2.St) (H:Hp) (Q:L2.St->Hp->Prop),σ.length=X.N.length->aL X ow H σ ρ->ag X.K H (fun a b=>b=true->ow a=none) ds vs->(∀σ',σ'.length=X.N.length->aL X ow H σ' ρ'->Q σ' H)->t vs σ H Q
 | [],[],ρ,ρ',h=>by
  rw[aW]at h;cases h
  refine⟨_,wc,rfl,rfl,fun ow vs σ H Q hl E r q=>?_⟩
  rw[ag]at r
  exact⟨r,q σ hl E⟩
 | .Name x p::es,d::ds,ρ,ρ',h=>by
  rw[aW]at h
  split at h
  ·rename_i hx
   obtain⟨t,h1,h2,h3,h4⟩:=lG G h
   obtain⟨g1,g2,g3,i,g4⟩:=fN G hx
   refine⟨_,oj (jB (i:=i) G.nd g4 g1 g3) h1 rfl,?_,?_,fun ow vs σ H Q hl E r q=>?_⟩
   ·show(assignEach es X.env).length+1=ds.length+1
    rw[h2]
   ·show List.findIdx? (·.1) ((false,_)::assignEach es X.env)=none
    rw[List.findIdx?_cons,h3];rfl
   ·rw[ag]at r
    obtain⟨v,vr,rfl,r1,r2⟩:=r
    refine⟨v,vr,rfl,?_⟩
    exact h4 ow vr _ H Q (by rw[List.length_set];exact hl) (eY G.nd hl E g4 g2 r1) r2 q
  ·cases h
 | [],_::_,ρ,ρ',h=>by simp[aW]at h
 | .Name _ _::_,[],ρ,ρ',h=>by simp[aW]at h
 | .BoolOp .. :: _,ds,ρ,ρ',h=>by cases ds<;>simp[aW]at h
 | .NamedExpr .. :: _,ds,ρ,ρ',h=>by cases ds<;>simp[aW]at h
 | .BinOp .. :: _,ds,ρ,ρ',h=>by cases ds<;>simp[aW]at h
 | .UnaryOp .. :: _,ds,ρ,ρ',h=>by cases ds<;>simp[aW]at h
 | .Lambda .. :: _,ds,ρ,ρ',h=>by cases ds<;>simp[aW]at h
 | .IfExp .. :: _,ds,ρ,ρ',h=>by cases ds<;>simp[aW]at h
 | .Dict .. :: _,ds,ρ,ρ',h=>by cases ds<;>simp[aW]at h
 | .Set .. :: _,ds,ρ,ρ',h=>by cases ds<;>simp[aW]at h
 | .ListComp .. :: _,ds,ρ,ρ',h=>by cases ds<;>simp[aW]at h
 | .SetComp .. :: _,ds,ρ,ρ',h=>by cases ds<;>simp[aW]at h
 | .DictComp .. :: _,ds,ρ,ρ',h=>by cases ds<;>simp[aW]at h
 | .GeneratorExp .. :: _,ds,ρ,ρ',h=>by cases ds<;>simp[aW]at h
 | .Await .. :: _,ds,ρ,ρ',h=>by cases ds<;>simp[aW]at h
 | .Yield .. :: _,ds,ρ,ρ',h=>by cases ds<;>simp[aW]at h
 | .YieldFrom .. :: _,ds,ρ,ρ',h=>by cases ds<;>simp[aW]at h
 | .Compare .. :: _,ds,ρ,ρ',h=>by cases ds<;>simp[aW]at h
 | .Call .. :: _,ds,ρ,ρ',h=>by cases ds<;>simp[aW]at h
 | .FormattedValue .. :: _,ds,ρ,ρ',h=>by cases ds<;>simp[aW]at h
 | .JoinedStr .. :: _,ds,ρ,ρ',h=>by cases ds<;>simp[aW]at h
 | .Constant .. :: _,ds,ρ,ρ',h=>by cases ds<;>simp[aW]at h
 | .Attribute .. :: _,ds,ρ,ρ',h=>by cases ds<;>simp[aW]at h
 | .Subscript .. :: _,ds,ρ,ρ',h=>by cases ds<;>simp[aW]at h
 | .Starred .. :: _,ds,ρ,ρ',h=>by cases ds<;>simp[aW]at h
 | .List .. :: _,ds,ρ,ρ',h=>by cases ds<;>simp[aW]at h
 | .Tuple .. :: _,ds,ρ,ρ',h=>by cases ds<;>simp[aW]at h
 | .Slice .. :: _,ds,ρ,ρ',h=>by cases ds<;>simp[aW]at h
theorem pR(G:aQ Φ X sc)(h:bQ sc tg d ρ=some ρ'):GD X ρ tg d ρ':=by
 unfold bQ at h
 split at h
 ·split at h
  ·rename_i x p hx
   cases h
   obtain⟨g1,g2,g3,i,g4⟩:=fN G hx
   exact⟨_,jB (i:=i) G.nd g4 g1 g3,fun ow v σ H Q hl E r q=>q _ (by rw[List.length_set];exact hl) (eY G.nd hl E g4 g2 r)⟩
  ·cases h
 ·split at h
  ·obtain⟨t,h1,h2,h3,h4⟩:=lG G h
   refine⟨_,tQ (n:=_) G.calm h1 h2 h3,fun ow v σ H Q hl E r q=>?_⟩
   obtain⟨a,vs,rfl,hs,rl⟩:=eJ r
   exact⟨a,vs,rfl,hs,rl.length.symm,h4 ow vs σ H Q hl E rl q⟩
  ·cases h
 ·cases h
theorem xt{Q:Bool->Shared->Prop}
  (h:wpAny M A (isTrue c env (eval c env)) (fun b s'=>if b=true then wpAny M A (iK cs env) Q E s' else Q false s') E s):wpAny M A (iK (c::cs) env) Q E s:=by
 have no:∀(l:List Expr) (s:Shared),Q false s->wpAny M A (forIn l false fun c r=>if r=true then do let ok <- isTrue c env (eval c env);pure (ForInStep.yield ok)else pure (ForInStep.yield r)) Q E s:=by
  intro l
  induction l with
  | nil=>intro s h;exact wpAny_pure h
  | cons x l ih =>
   intro s h
   rw[List.forIn_cons]
   simp only[Bool.false_eq_true,if_false]
   exact wpAny_bind (wpAny_pure (ih s h))
 unfold iK
 rw[List.forIn_cons]
 simp only[if_true]
 refine wpAny_bind (wpAny_bind (wpAny_mono h (fun b s' hb=>wpAny_pure ?_) fun _ _ x=>x))
 cases b with
 | true=>exact hb
 | false=>exact no cs s' hb
theorem y9:A0 X ρ [] true:=fun ow pins s σ H Q I ⟨E,q⟩=>wpAny_pure ⟨H,I,q H (ay.refl _)⟩
theorem qD{b':Bool}(h:TD X ρ c b)(h':if b=true then A0 X ρ cs b' else b'=false):A0 X ρ (c::cs) b':=by
 intro ow pins s σ H Q I ⟨E,q⟩
 refine xt (aN (h ow pins s σ H (fun t H1=>t=b/\ay H H1) I ⟨E,fun H1 s1=>⟨rfl,s1⟩⟩) fun t s1 ⟨H1,I1,e,sm⟩=>?_)
 subst e
 cases t with
 | true =>
  rw[if_pos rfl]at h' ⊢
  exact h' ow pins s1 σ H1 Q I1 ⟨E.same sm,fun H2 s2=>q H2 (sm.trans s2)⟩
 | false =>
  rw[if_neg Bool.false_ne_true]at h' ⊢
  subst h'
  exact⟨H1,I1,q H1 sm⟩
variable{X:Cx}
structure fK(X:Cx)(ρ:af)(e:Expr)(it:Bool)(d:D)(k:Nat):Prop where
 ed:it=false->ED X ρ e d k
 td:it=false->∀b,d=.bl b->TD X ρ e b
 ie:it=true->∀tg l,items d=some l->fc e tg=true->IE X ρ tg e l k
theorem fK.of(h:ED X ρ e d k)(t:∀b,d=.bl b->TD X ρ e b):fK X ρ e it d k:=⟨fun _=>h,fun _=>t,fun _ tg l hi _=>L1 h hi⟩
theorem ic{r:D×Nat}{l:List Prop}(h:aA Φ e it sc ρ=.ok r l):∀x p,e ≠ .Starred x p:=by
 intro x p z;subst z;cases h
theorem ck{Φ:Fx}{sc:Scope}{ρ:af}:∀{es:List Expr} {r:List D×Nat} {l:List Prop},bG Φ es sc ρ=.ok r l->aJ l->(∀e∈es,∀x p,e ≠ .Starred x p)/\es.length=r.1.length
 | [],r,l,h,_=>by cases h;exact⟨fun e he=>(by cases he),rfl⟩
 | e::es,r,l,h,hp=>by
  obtain⟨p,l1,l2,h1,p1,h,p2⟩:=aT h hp
  obtain⟨q,l3,l4,h2,p3,h,p4⟩:=aT h p2
  cases h
  obtain⟨i1,i2⟩:=ck h2 p3
  refine⟨fun e' he=>?_,by rw[List.length_cons,List.length_cons,i2]⟩
  rcases List.mem_cons.mp he with rfl|he
  ·exact ic h1
  ·exact i1 e' he
theorem LU:kn d k=0\/kn d k=k:=by
 unfold kn;split
 ·exact .inl rfl
 ·exact .inr rfl
theorem AI{scope:Scope}(h:qg sc scope=true):scope.kind=.function/\(∀y∈scope.names,y.2=.local->scope.names.lookup y.1=some .local) /\
  (∀y∈scope.names,y.2=.free->sc.names.lookup y.1=some .cell\/sc.names.lookup y.1=some .free)/\(scope.names.map (·.1)).Nodup:=by
 unfold qg at h
 simp only[Bool.and_eq_true,List.all_eq_true,decide_eq_true_eq,Bool.or_eq_true]at h
 obtain⟨⟨⟨h1,h3⟩,h4⟩,h5⟩:=h
 refine⟨h1,fun y hy e=>(h3 y hy).resolve_left (fun z=>z e),fun y hy e=>?_,h5⟩
 rcases h4 y hy with(q|q)|q
 ·exact absurd e q
 ·exact .inl q.2
 ·exact .inr q
theorem dg{env:Env}:∀{names:List (Str×NameKind)} {x:Str} {k0:NameKind},k0 ≠ .free->names.lookup x=some k0 ->
  (names.map fun(n,k)=>if (k==NameKind.free&&env.scope.kind == .function&&env.kindOf n==some .cell)then(n,NameKind.cell)else(n,k)).lookup x=some k0
 | [],_,_,_,h=>by simp at h
 | (n,k)::r,x,k0,hk,h=>by
  have ih:=@dg env r x k0 hk
  show List.lookup x ((if (k==NameKind.free&&env.scope.kind == .function&&env.kindOf n==some .cell)=true then(n,NameKind.cell)else(n,k))::_)=_
  cases hx:x==n with
  | true =>
   simp only[List.lookup_cons,hx]at h
   cases h
   have:(k==NameKind.free)=false:=by simpa using hk
   simp[List.lookup_cons,hx,this]
  | false =>
   simp only[List.lookup_cons,hx]at h
   by_cases hc:(k==NameKind.free&&env.scope.kind == .function&&env.kindOf n==some .cell)=true
   ·rw[if_pos hc];simp only[List.lookup_cons,hx];exact ih h
   ·rw[if_neg hc];simp only[List.lookup_cons,hx];exact ih h
theorem pG{names:List (Str×NameKind)}:∀{x:Str} {k:NameKind},names.lookup x=some k->x∈names.map (·.1):=fun {x k} h=>List.mem_map.mpr ⟨_,PySem.mem_of_lookup h,rfl⟩
theorem FL{C:Addr}(G:aQ Φ X sc)(h:qg sc scope=true):aQ Φ (lW X scope cl C (scope.names.map (·.1)) s H fp) scope:=by
 obtain⟨h1,h3,h4,h5⟩:=AI h
 refine⟨G.calm,h5,fun x hx=>?_,fun x hx=>?_,fun x hx=>lookup_relabel_local hx,fun x hx=>dg (by decide) hx,fun g F hg=>G.fn g F hg,G.con,G.blt,G.itr,G.mth,G.mtt,G.slf,G.fld,G.omt,G.bl,G.room,fun x hx=>?_,fun x hx=>decide_eq_true hx⟩
 ·exact dg (by decide) hx
 ·rcases hx with hx|hx
  ·exact .inl (dg (by decide) hx)
  ·exact dh hx
 ·unfold cY at hx
  rw[Bool.or_eq_true]at hx
  rcases hx with hx|hx<;>exact pG (by simpa using hx)
theorem AB(G:aQ Φ X sc)(h:qg sc scope=true):gX X.env scope (scope.names.map (·.1)):=by
 obtain⟨h1,h3,h4,h5⟩:=AI h
 exact⟨h1,h5,h3,h5,fun n hn=>G.kc n (h4 (n,.free) hn rfl)⟩
theorem LV:∀{a b:Nat},kj a b<=1->a<=kj a b/\b<=kj a b
 | 0,0,_=>by decide
 | 0,1,_=>by decide
 | 0,2,h=>absurd h (by decide)
 | 0,_+3,h=>by rw[kj]at h;omega
 | 1,0,_=>by decide
 | 1,1,_=>by decide
 | 1,2,h=>absurd h (by decide)
 | 1,_+3,h=>absurd h (by rw[kj]<;>simp)
 | 2,0,h=>absurd h (by decide)
 | 2,1,h=>absurd h (by decide)
 | 2,2,h=>absurd h (by decide)
 | 2,_+3,h=>absurd h (by rw[kj]<;>simp)
 | _+3,0,h=>by rw[kj]at h<;>simp_all<;>omega
 | _+3,1,h=>absurd h (by rw[kj]<;>simp)
 | _+3,2,h=>absurd h (by rw[kj]<;>simp)
 | _+3,_+3,h=>absurd h (by rw[kj]<;>simp)
theorem Kp.up(o:fh ow H){a:Addr}:∀{i j:Nat},i<=j->j<=1->Kp ow H i a b->Kp ow H j a b
 | 0,0,_,_,p=>p
 | 0,1,_,_,p=>fun _=>o.free p.2
 | 1,1,_,_,p=>p
 | 1,0,h,_,_=>absurd h (by omega)
 | _+2,_,h,g,_=>absurd h (by omega)
 | 0,_+2,_,g,_=>absurd g (by omega)
 | 1,_+2,_,g,_=>absurd g (by omega)
theorem ED.up(h:ED X ρ e d i)(h1:i<=j)(h2:j<=1):ED X ρ e d j:=fun ow=>bK (h ow) fun σ H Q ⟨E,q⟩=>⟨E,fun v H' s r=>q v H' s (r.imp fun a b p=>Kp.up E.own h1 h2 p)⟩
def sx(step:D->Rs (Option (D×Nat)))(d:D):Option D:=match step d with | .ok (some p) _=>some p.1|_=>none
theorem uR{step:D->Rs (Option (D×Nat))}:∀{ds:List D} {r:List D×Nat} {l:List Prop},ig step ds=.ok r l->aJ l ->
  (∀d∈ds,∃r l,step d=.ok r l/\aJ l)/\r.1=ds.filterMap (sx step)/\(r.2<=1->∀d∈ds,∀p l,step d=.ok (some p) l->p.2<=r.2)
 | [],r,l,h,_=>by
  cases h
  exact⟨fun d hd=>(by cases hd),rfl,fun _ d hd=>(by cases hd)⟩
 | d::ds,r,l,h,hp=>by
  obtain⟨x,l1,l2,h1,p1,h,p2⟩:=aT h hp
  obtain⟨q,l3,l4,h2,p3,h,p4⟩:=aT h p2
  obtain⟨i1,i2,i3⟩:=uR h2 p3
  have i1':∀y∈d::ds,∃r l,step y=.ok r l/\aJ l:=fun y hy=>by
   rcases List.mem_cons.mp hy with rfl|hy
   ·exact⟨_,_,h1,p1⟩
   ·exact i1 y hy
  cases x with
  | none =>
   cases h
   refine⟨i1',?_,fun hj x hx y i e=>?_⟩
   ·rw[List.filterMap_cons_none (by unfold sx;rw[h1])];exact i2
   ·rcases List.mem_cons.mp hx with rfl|hx
    ·rw[h1]at e;cases e
    ·exact i3 hj x hx y i e
  | some p =>
   cases h
   refine⟨i1',?_,fun hj x hx y i e=>?_⟩
   ·rw[List.filterMap_cons_some (by unfold sx;rw[h1]),i2]
   ·obtain⟨a1,a2⟩:=LV hj
    rcases List.mem_cons.mp hx with rfl|hx
    ·rw[h1]at e;cases e;exact a1
    ·exact Nat.le_trans (i3 (Nat.le_trans a2 hj) x hx y i e) a2
theorem bM(h:ED X ρ e d k)(he:∀whole,isTrue e X.env whole=(do let v <- whole;standAt e.pos;holding [v] (truthy v))):fK X ρ e it d k:=.of h fun b hb=>by subst hb;exact Lb h he
theorem G7{b:Expr}{x:D}(hu:X.A.units+70<cLine)(ha:ED X ρ a x k)(hb:ED X ρ b y j)(h:iL op x y=.ok r o)(hp:aJ o)(hm:behindInMarks op b=false):TD X ρ (.Compare a [op] [b] pos) r:=by
 have c:=jN (X:=X) hu h hp
 intro ow pins s σ H Q I ⟨E,q⟩
 refine wpAny_isTrue_Compare1 (MB (ha ow) (hb ow) I (R:=fun v u H2=>ay H H2/\ah X.K H2 (fun _ _=>True) x v/\ah X.K H2 (fun _ _=>True) y u) ⟨E,fun v H1 s1 r1=>⟨E.same s1,fun u H2 s2 r2=>⟨s1.trans s2,(r1.imp fun _ _ _=>True.intro).same s2,r2.imp fun _ _ _=>True.intro⟩⟩⟩ fun v u s2 x y H2 I2 rx ry ⟨sm,r1,r2⟩=>?_) hm
 refine aN (c _ _ pins s2 σ H2 x y v u (fun w H'=>w=.bl r/\H2=H') I2 rx ry ⟨r1,r2,rfl,rfl⟩) fun u' s3 ⟨w,H3,I3,r3,e1,e2⟩=>?_
 subst e1 e2
 cases (show u'=Value.bool r from r3)
 exact wpAny_truthy_bool ⟨H2,I3,q H2 sm⟩
theorem Bn{b:Expr}{x y z:Int}(hu:X.A.units+70<cLine)(ha:ED X ρ a (.int x) k)(hb:ED X ρ b (.int y) j)(hc:ED X ρ c (.int z) i)(h:gn op x y=some r)(h2:gn op2 y z=some r2)(hm:behindInMarks op2 c=false):TD X ρ (.Compare a [op,op2] [b,c] pos) (r&&r2):=by
 have c1:=jN (X:=X) hu (qe h) (show aJ []from True.intro)
 have c2:=jN (X:=X) hu (qe h2) (show aJ []from True.intro)
 refine fun ow=>yC (BA (c1 (fun _ _=>True) (fun _ _=>True)) (c2 (fun _ _=>True) (fun _ _=>True)) (ha ow) (hb ow) (hc ow) hm) fun σ H Q ⟨E,q⟩=>⟨E,fun v H1 s1 r1=>⟨E.same s1,fun u H2 s2 r2=>?_⟩⟩
 rw[ah]at r1 r2
 subst r1 r2
 refine⟨by rw[ah],by rw[ah],r,rfl,?_⟩
 cases r with
 | false=>exact⟨false,rfl,q H2 (s1.trans s2)⟩
 | true =>
  rw[if_pos rfl]
  refine⟨(E.same s1).same s2,fun w H3 s3 r3=>?_⟩
  rw[ah]at r3
  subst r3
  exact⟨by rw[ah],by rw[ah],_,rfl,q H3 ((s1.trans s2).trans s3)⟩
theorem G6(h:TD X ρ a b):TD X ρ (.UnaryOp .Not a pos) (!b):=fun ow=>yC (HB (h ow)) fun σ H Q ⟨E,q⟩=>⟨E,fun H1 s1=>q H1 s1⟩
structure en(X:Cx)(ρ:af)(op:BoolOp)(es:List Expr)(b:Bool):Prop where
 ed:es≠[]->∀pos,ED X ρ (.BoolOp op es pos) (.bl b) 0
 tw:es≠[]->∀pos ow,PW X (.BoolOp op es pos) (Di X ow ρ b)
 ts:op=.And->A0 X ρ es b
theorem gB{op:BoolOp}(h:ED X ρ e (.bl b) k)(t:TD X ρ e b):en X ρ op [e] b:=by
 have h0:ED X ρ e (.bl b) 0:=by
  have:=h.kn
  rw[show kn (.bl b) k=0 from rfl]at this
  exact this
 refine⟨fun _ pos ow=>HM (h0 ow),fun _ pos ow=>?_,fun _=>qD t (by cases b;rfl;exact y9)⟩
 cases op with
 | And=>exact EO (t ow)
 | Or=>exact Hz (t ow)
theorem vG(h:ED X ρ e (.bl true) k)(t:TD X ρ e true)(r:en X ρ .And (e2::es) b):en X ρ .And (e::e2::es) b:=by
 refine⟨fun _ pos ow=>?_,fun _ pos ow=>?_,fun _=>qD t (by rw[if_pos rfl];exact r.ts rfl)⟩
 ·refine bK (zA (h ow) (r.ed (by simp) pos ow)) fun σ H Q ⟨E,q⟩=>⟨E,fun v H1 s1 r1=>?_⟩
  rw[ah]at r1
  exact⟨true,r1,by rw[if_pos rfl];exact⟨E.same s1,fun w H2 s2 r2=>q w H2 (s1.trans s2) (r2.imp (Kp.back s1 0))⟩⟩
 ·intro wh pins s σ H Q I hq
  exact zn (t ow) (r.tw (by simp) pos ow) wh pins s σ H Q I ⟨hq.1,fun H1 s1=>by dsimp only;rw[if_pos rfl];exact⟨hq.1.same s1,fun H2 s2=>hq.2 H2 (s1.trans s2)⟩⟩
theorem uW(h:ED X ρ e (.bl false) k)(t:TD X ρ e false)(ne:∀pos,∃t,PE X (.BoolOp .And (e2::es) pos) t)(nw:∀pos,∃t,PW X (.BoolOp .And (e2::es) pos) t):en X ρ .And (e::e2::es) false:=by
 refine⟨fun _ pos ow=>?_,fun _ pos ow=>?_,fun _=>qD t (by rw[if_neg Bool.false_ne_true])⟩
 ·obtain⟨t2,h2⟩:=ne pos
  refine bK (zA (h ow) h2) fun σ H Q ⟨E,q⟩=>⟨E,fun v H1 s1 r1=>?_⟩
  rw[ah]at r1
  exact⟨false,r1,by rw[if_neg Bool.false_ne_true];exact q _ H1 s1 (by rw[ah])⟩
 ·obtain⟨t2,h2⟩:=nw pos
  intro wh pins s σ H Q I hq
  exact zn (t ow) h2 wh pins s σ H Q I ⟨hq.1,fun H1 s1=>by dsimp only;rw[if_neg Bool.false_ne_true];exact hq.2 H1 s1⟩
theorem yn(h:ED X ρ e (.bl false) k)(t:TD X ρ e false)(r:en X ρ .Or (e2::es) b):en X ρ .Or (e::e2::es) b:=by
 refine⟨fun _ pos ow=>?_,fun _ pos ow=>?_,fun z=>by cases z⟩
 ·refine bK (DA (h ow) (r.ed (by simp) pos ow)) fun σ H Q ⟨E,q⟩=>⟨E,fun v H1 s1 r1=>?_⟩
  rw[ah]at r1
  exact⟨false,r1,by rw[if_neg Bool.false_ne_true];exact⟨E.same s1,fun w H2 s2 r2=>q w H2 (s1.trans s2) (r2.imp (Kp.back s1 0))⟩⟩
 ·intro wh pins s σ H Q I hq
  exact Du (t ow) (r.tw (by simp) pos ow) wh pins s σ H Q I ⟨hq.1,fun H1 s1=>by dsimp only;rw[if_neg Bool.false_ne_true];exact⟨hq.1.same s1,fun H2 s2=>hq.2 H2 (s1.trans s2)⟩⟩
theorem vF(h:ED X ρ e (.bl true) k)(t:TD X ρ e true)(ne:∀pos,∃t,PE X (.BoolOp .Or (e2::es) pos) t)(nw:∀pos,∃t,PW X (.BoolOp .Or (e2::es) pos) t):en X ρ .Or (e::e2::es) true:=by
 refine⟨fun _ pos ow=>?_,fun _ pos ow=>?_,fun z=>by cases z⟩
 ·obtain⟨t2,h2⟩:=ne pos
  refine bK (DA (h ow) h2) fun σ H Q ⟨E,q⟩=>⟨E,fun v H1 s1 r1=>?_⟩
  rw[ah]at r1
  exact⟨true,r1,by rw[if_pos rfl];exact q _ H1 s1 (by rw[ah])⟩
 ·obtain⟨t2,h2⟩:=nw pos
  intro wh pins s σ H Q I hq
  exact Du (t ow) h2 wh pins s σ H Q I ⟨hq.1,fun H1 s1=>by dsimp only;rw[if_pos rfl];exact hq.2 H1 s1⟩
theorem tS:PE X e (fun _ _ _=>False):=fun _ _ _ _ _ _ h=>h.elim
theorem tN:PW X e (fun _ _ _=>False):=fun _ _ _ _ _ _ _ h=>h.elim
theorem D4{b:Expr}{r:D×Nat}{l:List Prop}(h:aA Φ b it sc ρ=.ok r l):behindInMarks op b=false:=by
 cases b<;>first|rfl|cases h
theorem wt{z:Str}(h:cY sc z=true)(hx:sc.names.lookup x=some .free):x≠z:=by
 intro e;subst e
 unfold cY at h
 rw[hx]at h
 revert h;decide
theorem yo:∀{es:List Expr} {ds:List D} {ρ ρ':af},aW sc es ds ρ=some ρ'->∀x y,sc.names.lookup x=some .free->ρ x=some y->ρ' x=some y:=by
 intro es
 induction es with
 | nil =>
  intro ds ρ ρ' h x y hx hl
  cases ds with
  | nil=>rw[aW]at h;cases h;exact hl
  | cons d ds=>cases h
 | cons e es ih =>
  intro ds ρ ρ' h x y hx hl
  cases ds with
  | nil=>cases e<;>cases h
  | cons d ds =>
   cases e with
   | Name z p =>
    rw[aW]at h
    split at h
    ·rename_i hz
     exact ih h x y hx (by rw[cZ,if_neg (wt hz hx)];exact hl)
    ·cases h
   | _=>cases h
theorem AK(h:bQ sc tg d ρ=some ρ'):∀x y,sc.names.lookup x=some .free->ρ x=some y->ρ' x=some y:=by
 intro x y hx hl
 unfold bQ at h
 split at h
 ·split at h
  ·rename_i hz
   cases h
   rw[cZ,if_neg (wt hz hx)];exact hl
  ·cases h
 ·split at h
  ·exact yo h x y hx hl
  ·cases h
 ·cases h
theorem jf{r:D×Nat}{l:List Prop}(h:aA Φ e it sc ρ=.ok r l)(x:Value):foldedSetIterable e env x=pure x:=by
 cases e<;>first|rfl|cases h
mutual
theorem t7:∀x y:D,qT true x y=x
 | .int _,.int _=>rfl
 | .bl _,.bl _=>rfl
 | .tup l,.tup m=>by
  show(if l.length=m.length then D.tup (lI true l m)else cond true (.tup l) (.tup m))=.tup l
  split
  ·rename_i h;rw[zL l m h]
  ·rfl
 | .non,_=>rfl
 | .str _,_=>rfl
 | .dct _ _,_=>rfl
 | .lst _,_=>rfl
 | .typ _,_=>rfl
 | .sn _,_=>rfl
 | .obj _ _ _,_=>rfl
 | .cls _,_=>rfl
 | .xc _ _,_=>rfl
 | .int _,.non=>rfl
 | .int _,.bl _=>rfl
 | .int _,.str _=>rfl
 | .int _,.dct _ _=>rfl
 | .int _,.typ _=>rfl
 | .int _,.sn _=>rfl
 | .int _,.obj _ _ _=>rfl
 | .int _,.cls _=>rfl
 | .int _,.xc _ _=>rfl
 | .int _,.tup _=>rfl
 | .int _,.lst _=>rfl
 | .bl _,.non=>rfl
 | .bl _,.int _=>rfl
 | .bl _,.str _=>rfl
 | .bl _,.dct _ _=>rfl
 | .bl _,.typ _=>rfl
 | .bl _,.sn _=>rfl
 | .bl _,.obj _ _ _=>rfl
 | .bl _,.cls _=>rfl
 | .bl _,.xc _ _=>rfl
 | .bl _,.tup _=>rfl
 | .bl _,.lst _=>rfl
 | .tup _,.non=>rfl
 | .tup _,.int _=>rfl
 | .tup _,.bl _=>rfl
 | .tup _,.str _=>rfl
 | .tup _,.dct _ _=>rfl
 | .tup _,.typ _=>rfl
 | .tup _,.sn _=>rfl
 | .tup _,.obj _ _ _=>rfl
 | .tup _,.cls _=>rfl
 | .tup _,.xc _ _=>rfl
 | .tup _,.lst _=>rfl
theorem zL:∀l m:List D,l.length=m.length->lI true l m=l
 | [],[],_=>rfl
 | x::l,y::m,h=>by
  show qT true x y::lI true l m=x::l
  rw[t7 x y,zL l m (by simpa using h)]
 | [],_::_,h=>by cases h
 | _::_,[],h=>by cases h
end
mutual
theorem t8:∀x y:D,qT false x y=y
 | .int _,.int _=>rfl
 | .bl _,.bl _=>rfl
 | .tup l,.tup m=>by
  show(if l.length=m.length then D.tup (lI false l m)else cond false (.tup l) (.tup m))=.tup m
  split
  ·rename_i h;rw[zM l m h]
  ·rfl
 | .non,_=>rfl
 | .str _,_=>rfl
 | .dct _ _,_=>rfl
 | .lst _,_=>rfl
 | .typ _,_=>rfl
 | .sn _,_=>rfl
 | .obj _ _ _,_=>rfl
 | .cls _,_=>rfl
 | .xc _ _,_=>rfl
 | .int _,.non=>rfl
 | .int _,.bl _=>rfl
 | .int _,.str _=>rfl
 | .int _,.dct _ _=>rfl
 | .int _,.typ _=>rfl
 | .int _,.sn _=>rfl
 | .int _,.obj _ _ _=>rfl
 | .int _,.cls _=>rfl
 | .int _,.xc _ _=>rfl
 | .int _,.tup _=>rfl
 | .int _,.lst _=>rfl
 | .bl _,.non=>rfl
 | .bl _,.int _=>rfl
 | .bl _,.str _=>rfl
 | .bl _,.dct _ _=>rfl
 | .bl _,.typ _=>rfl
 | .bl _,.sn _=>rfl
 | .bl _,.obj _ _ _=>rfl
 | .bl _,.cls _=>rfl
 | .bl _,.xc _ _=>rfl
 | .bl _,.tup _=>rfl
 | .bl _,.lst _=>rfl
 | .tup _,.non=>rfl
 | .tup _,.int _=>rfl
 | .tup _,.bl _=>rfl
 | .tup _,.str _=>rfl
 | .tup _,.dct _ _=>rfl
 | .tup _,.typ _=>rfl
 | .tup _,.sn _=>rfl
 | .tup _,.obj _ _ _=>rfl
 | .tup _,.cls _=>rfl
 | .tup _,.xc _ _=>rfl
 | .tup _,.lst _=>rfl
theorem zM:∀l m:List D,l.length=m.length->lI false l m=m
 | [],[],_=>rfl
 | x::l,y::m,h=>by
  show qT false x y::lI false l m=y::m
  rw[t8 x y,zM l m (by simpa using h)]
 | [],_::_,h=>by cases h
 | _::_,[],h=>by cases h
end
theorem DK:Ac true k j=k:=by unfold Ac;split<;>rfl
theorem DL:Ac false k j=j:=by
 unfold Ac;split
 ·assumption
 ·rfl
theorem wy{r s:R1}{d:D×Nat}{l:List Prop}(h:DQ t r s=.ok d l)(hp:aJ l):∃m,(if t=true then r else s)=.ok d m/\aJ m:=by
 unfold DQ at h
 split at h
 ·cases t with
  | true=>cases h
  | false=>exact⟨l,h,hp⟩
 ·rename_i p m
  split at h
  ·cases t with
   | true=>exact⟨l,h,hp⟩
   | false=>cases h
  ·rename_i q n
   cases h
   obtain⟨p1,p2⟩:=dD.mp hp
   cases t with
   | true=>exact⟨m,by rw[t7,DK];rfl,pS p1 rfl⟩
   | false=>exact⟨n,by rw[t8,DL];rfl,pS p2 rfl⟩
theorem nC{p:D×Nat}{f:Bool->Rs α}{a:α}{l:List Prop}(h:ji p f=.ok a l):∃b,p.1=.bl b/\f b=.ok a l:=by
 unfold ji at h
 split at h
 ·rename_i b e;exact⟨b,e,h⟩
 ·cases h
theorem B8{p:D×Nat}{f:Int->R1}{a:D×Nat}{l:List Prop}(h:j9 p f=.ok a l):∃b,p.1=.int b/\f b=.ok a l:=by
 unfold j9 at h
 split at h
 ·rename_i b e;exact⟨b,e,h⟩
 ·cases h
structure Ih(Φ:Fx)(n:Nat):Prop where
 e:∀(e:Expr) {it:Bool} {sc:Scope} {ρ:af} {p:D×Nat} {l:List Prop} {X:Cx},sizeOf e<n->aA Φ e it sc ρ=.ok p l->aJ l->aQ Φ X sc->fK X ρ e it p.1 p.2
 es:∀(es:List Expr) {sc:Scope} {ρ:af} {p:List D×Nat} {l:List Prop} {X:Cx},sizeOf es<n->bG Φ es sc ρ=.ok p l->aJ l->aQ Φ X sc->AD X ρ es p.1 p.2
 b:∀(op:BoolOp) (es:List Expr) {sc:Scope} {ρ:af} {b:Bool} {l:List Prop} {X:Cx},sizeOf es<n->dM Φ op es sc ρ=.ok b l->aJ l->aQ Φ X sc->en X ρ op es b
 o:∀(e:Option Expr) {sc:Scope} {ρ:af} {o:Option Int} {l:List Prop} {X:Cx},sizeOf e<n->rS Φ e sc ρ=.ok o l->aJ l->aQ Φ X sc->OD X ρ e o
theorem bf{a b:Nat}(h:a<b)(hs:b<n+1):a<n:=Nat.lt_of_lt_of_le h (Nat.le_of_lt_succ hs)
section
variable{Φ:Fx}{n:Nat}{it:Bool}{sc:Scope}{ρ:af}{r:D×Nat}{l:List Prop}{X:Cx}
theorem Es(h:j7 Φ x sc ρ=.ok r l)(G:aQ Φ X sc):fK X ρ (.Name x pos) it r.1 r.2:=by
 unfold j7 at h
 split at h
 ·rename_i hx
  split at h
  ·rename_i hg
   split at h
   ·rename_i d hd;cases h;exact bM (Jv G hd hg hx) (fun _=>rfl)
   ·split at h
    ·rename_i T hT;cases h;exact bM (Jp G hT hg) (fun _=>rfl)
    ·cases h
  ·split at h
   ·rename_i p hl
    unfold mk at h;cases h
    exact bM (wH (o:=p.2) hl hx) (fun _=>rfl)
   ·cases h
 ·cases h
theorem Hg(I:Ih Φ n){b:Expr}{op:Operator}(hs:sizeOf (Expr.BinOp a op b pos)<n+1)(h:aA Φ (.BinOp a op b pos) it sc ρ=.ok r l)(hp:aJ l)(G:aQ Φ X sc):fK X ρ (.BinOp a op b pos) it r.1 r.2:=by
 obtain⟨p,l1,l2,h1,p1,h,p2⟩:=aT (show Rs.bnd _ _=_ from h) hp
 obtain⟨q,l3,l4,h2,p3,h,p4⟩:=aT h p2
 exact bM (Jy ((I.e a (bf (by simp<;>omega) hs) h1 p1 G).ed rfl) ((I.e b (bf (by simp<;>omega) hs) h2 p3 G).ed rfl) h p4) (fun _=>rfl)
theorem Ll(I:Ih Φ n){op:UnaryOp}(hs:sizeOf (Expr.UnaryOp op a pos)<n+1)(h:aA Φ (.UnaryOp op a pos) it sc ρ=.ok r l)(hp:aJ l)(G:aQ Φ X sc):fK X ρ (.UnaryOp op a pos) it r.1 r.2:=by
 obtain⟨p,l1,l2,h1,p1,h,p2⟩:=aT (show Rs.bnd _ _=_ from h) hp
 split at h
 ·rename_i z hu
  cases h
  have c:=I.e a (bf (by simp<;>omega) hs) h1 p1 G
  refine .of (Mg (c.ed rfl) hu) fun b hb=>?_
  have hb:z=.bl b:=hb
  subst hb
  unfold yX at hu
  split at hu
  ·cases hu
  ·rename_i e;cases hu;exact G6 (c.td rfl _ e)
  ·cases hu
 ·cases h
theorem Hf(I:Ih Φ n){b:Expr}(hs:sizeOf (Expr.Compare a [op] [b] pos)<n+1)(h:aA Φ (.Compare a [op] [b] pos) it sc ρ=.ok r l)(hp:aJ l)(G:aQ Φ X sc):fK X ρ (.Compare a [op] [b] pos) it r.1 r.2:=by
 obtain⟨p,l1,l2,h1,p1,h,p2⟩:=aT (show Rs.bnd _ _=_ from h) hp
 obtain⟨q,l3,l4,h2,p3,h,p4⟩:=aT h p2
 obtain⟨z,l5,l6,hc,p5,h,p6⟩:=aT h p4
 cases h
 have ca:=(I.e a (bf (by simp<;>omega) hs) h1 p1 G).ed rfl
 have cb:=(I.e b (bf (by simp<;>omega) hs) h2 p3 G).ed rfl
 exact .of (Jw G.room ca cb hc p5 (D4 h2)) fun b' hb'=>by cases hb';exact G7 G.room ca cb hc p5 (D4 h2)
theorem Bp(I:Ih Φ n){b:Expr}(hs:sizeOf (Expr.Compare a [op,op2] [b,c] pos)<n+1)(h:aA Φ (.Compare a [op,op2] [b,c] pos) it sc ρ=.ok r l)(hp:aJ l)(G:aQ Φ X sc):fK X ρ (.Compare a [op,op2] [b,c] pos) it r.1 r.2:=by
 obtain⟨p,l1,l2,h1,p1,h,p2⟩:=aT (show Rs.bnd _ _=_ from h) hp
 obtain⟨q,l3,l4,h2,p3,h,p4⟩:=aT h p2
 obtain⟨t,l5,l6,h3,p5,h,p6⟩:=aT h p4
 obtain⟨x,y,z,r1,r2,e1,e2,e3,k1,k2,rfl⟩:=Go h
 have ca:=(I.e a (bf (by simp<;>omega) hs) h1 p1 G).ed rfl
 have cb:=(I.e b (bf (by simp<;>omega) hs) h2 p3 G).ed rfl
 have cc:=(I.e c (bf (by simp<;>omega) hs) h3 p5 G).ed rfl
 rw[e1]at ca
 rw[e2]at cb
 rw[e3]at cc
 exact .of (Cs G.room ca cb cc k1 k2 (D4 h3)) fun b' hb'=>by cases hb';exact Bn G.room ca cb cc k1 k2 (D4 h3)
theorem Lm(I:Ih Φ n){b:Expr}(hs:sizeOf (Expr.IfExp c a b pos)<n+1)(h:aA Φ (.IfExp c a b pos) it sc ρ=.ok r l)(hp:aJ l)(G:aQ Φ X sc):fK X ρ (.IfExp c a b pos) it r.1 r.2:=by
 obtain⟨p,l1,l2,h1,p1,h,p2⟩:=aT (show Rs.bnd _ _=_ from h) hp
 obtain⟨t,ht,h⟩:=nC h
 obtain⟨m,he,hm⟩:=wy h p2
 have hc:=(I.e c (bf (by simp<;>omega) hs) h1 p1 G).td rfl t ht
 cases t with
 | true =>
  rw[if_pos rfl]at he
  have ha:=I.e a (bf (by simp<;>omega) hs) he hm G
  refine .of (DX hc (by rw[if_pos rfl];exact ha.ed rfl)) fun b' hb'=>?_
  intro ow pins s σ H Q I ⟨E,q⟩
  refine isTrue_IfExp (aN (hc ow pins s σ H (fun t H1=>t=true/\ay H H1) I ⟨E,fun H1 s1=>⟨rfl,s1⟩⟩) fun t s1 ⟨H1,I1,e1,s1'⟩=>?_)
  subst e1
  exact ha.td rfl b' hb' ow pins s1 σ H1 Q I1 ⟨E.same s1',fun H2 s2=>q H2 (s1'.trans s2)⟩
 | false =>
  rw[if_neg Bool.false_ne_true]at he
  have hb:=I.e b (bf (by simp<;>omega) hs) he hm G
  refine .of (DX hc (by rw[if_neg Bool.false_ne_true];exact hb.ed rfl)) fun b' hb'=>?_
  intro ow pins s σ H Q I ⟨E,q⟩
  refine isTrue_IfExp (aN (hc ow pins s σ H (fun t H1=>t=false/\ay H H1) I ⟨E,fun H1 s1=>⟨rfl,s1⟩⟩) fun t s1 ⟨H1,I1,e1,s1'⟩=>?_)
  subst e1
  exact hb.td rfl b' hb' ow pins s1 σ H1 Q I1 ⟨E.same s1',fun H2 s2=>q H2 (s1'.trans s2)⟩
theorem pw{r:D×Nat}{l:List Prop}(h:aA Φ e it sc ρ=.ok r l):fJ e:=by
 cases e<;>first|(intro _ _;rfl)|cases h
theorem Dn(I:Ih Φ n){i:Expr}(hs:sizeOf (Expr.Subscript a i pos)<n+1)(h:((aA Φ a false sc ρ).bnd fun p=>(aA Φ i false sc ρ).bnd fun q=>jU p q)=.ok r l)(hp:aJ l)(G:aQ Φ X sc):fK X ρ (.Subscript a i pos) it r.1 r.2:=by
 obtain⟨p,l1,l2,h1,p1,h,p2⟩:=aT h hp
 obtain⟨q,l3,l4,h2,p3,h,p4⟩:=aT h p2
 exact bM (Jq ((I.e a (bf (by simp<;>omega) hs) h1 p1 G).ed rfl) ((I.e i (bf (by simp<;>omega) hs) h2 p3 G).ed rfl) (pw h2) h) (fun _=>rfl)
theorem Bo(I:Ih Φ n){lo hi:Option Expr}(hs:sizeOf (Expr.Subscript a (.Slice lo hi none p2) pos)<n+1)(h:aA Φ (.Subscript a (.Slice lo hi none p2) pos) it sc ρ=.ok r l)(hp:aJ l)(G:aQ Φ X sc):fK X ρ (.Subscript a (.Slice lo hi none p2) pos) it r.1 r.2:=by
 obtain⟨p,l1,l2,h1,p1,h,q2⟩:=aT (show Rs.bnd _ _=_ from h) hp
 obtain⟨q,l3,l4,h2,p3,h,p4⟩:=aT h q2
 obtain⟨q',l5,l6,h3,p5,h,p6⟩:=aT h p4
 exact bM (G.slf X ρ a lo hi p2 pos p.1 r.1 q q' p.2 r.2 l6 ((I.e a (bf (by simp<;>omega) hs) h1 p1 G).ed rfl) (I.o lo (bf (by simp<;>omega) hs) h2 p3 G) (I.o hi (bf (by simp<;>omega) hs) h3 p5 G) h p6) (fun _=>rfl)
theorem He(I:Ih Φ n){i:Expr}(hs:sizeOf (Expr.Subscript a i pos)<n+1)(h:aA Φ (.Subscript a i pos) it sc ρ=.ok r l)(hp:aJ l)(G:aQ Φ X sc):fK X ρ (.Subscript a i pos) it r.1 r.2:=by
 cases i with
 | Slice lo hi st p2 =>
  cases st with
  | none=>exact Bo I hs h hp G
  | some e=>exact Dn I hs h hp G
 | _=>exact Dn I hs h hp G
theorem Et(I:Ih Φ n){p:Pos}(hs:sizeOf args<n)(hf:sc.names.lookup f=some .globalImplicit)(h0:((bG Φ args sc ρ).bnd fun p=>nB Φ f it p.1 p.2)=.ok r l)(hp:aJ l)(G:aQ Φ X sc):fK X ρ (.Call (.Name f p) args [] pos) it r.1 r.2:=by
 obtain⟨q,l1,l2,h1,p1,h,p2⟩:=aT h0 hp
 clear h0
 have ha:=I.es args hs h1 p1 G
 obtain⟨hst,hlen⟩:=ck h1 p1
 unfold nB at h
 split at h
 ·rename_i F hF
  obtain⟨d,l3,l4,h2,p3,h,p4⟩:=aT h p2
  cases h
  exact bM (Gk G hF hf ha hst (fun z=>by subst z;exact List.length_eq_zero_iff.mp hlen.symm) h2 p3) (fun _=>rfl)
 ·split at h
  ·rename_i B hB
   split at hB
   ·rename_i hit
    have hI:=G.itr f B hB
    refine⟨fun z=>(by rw[hit]at z;cases z),fun z=>(by rw[hit]at z;cases z),fun _ tg l' hl ht=>?_⟩
    exact hI.2 X ρ p pos args q.1 q.2 r.1 r.2 l' tg l2 G.calm (G.gl f hf) (G.bl f hI.1) ha hst hlen h p2 hl ht
   ·cases hB
  ·split at h
   ·rename_i B hB
    have hb:=G.blt f B hB
    cases args with
    | nil =>
     have e0:q.1=[]:=List.length_eq_zero_iff.mp hlen.symm
     rw[e0,hb.2.2.2.1]at h;cases h
    | cons e es=>exact bM (Jx G hb hf ha hst h p2) (fun _=>rfl)
   ·cases h
theorem Bq(I:Ih Φ n)(hs:sizeOf (Expr.Call (.Name f p) args [] pos)<n+1)(h:aA Φ (.Call (.Name f p) args [] pos) it sc ρ=.ok r l)(hp:aJ l)(G:aQ Φ X sc):fK X ρ (.Call (.Name f p) args [] pos) it r.1 r.2:=by
 rw[kr]at h
 split at h
 ·rename_i hf
  exact Et I (bf (by simp<;>omega) hs) hf h hp G
 ·cases h
theorem Br(I:Ih Φ n)(hs:sizeOf (Expr.Call (.Attribute a m ap) args [] pos)<n+1)(h:aA Φ (.Call (.Attribute a m ap) args [] pos) it sc ρ=.ok r l)(hp:aJ l)(G:aQ Φ X sc):fK X ρ (.Call (.Attribute a m ap) args [] pos) it r.1 r.2:=by
 rw[uM]at h
 split at h
 ·rename_i hln
  obtain⟨p,l1,l2,h1,p1,h,p2⟩:=aT h hp
  obtain⟨q,l3,l4,h2,p3,h,p4⟩:=aT h p2
  obtain⟨hst,hlen⟩:=ck h2 p3
  have hea:=(I.e a (bf (by simp<;>omega) hs) h1 p1 G).ed rfl
  have hes:=I.es args (bf (by simp<;>omega) hs) h2 p3 G
  obtain⟨x,kx⟩:=p
  unfold BT at h
  dsimp only at h hea
  split at h
  ·rename_i n ns es
   split at h
   ·rename_i hc
    split at h
    ·rename_i F hF
     obtain⟨d,l5,l6,h3,p5,h,p6⟩:=aT h p4
     cases h
     exact bM (Gf G hF hea hes hst hlen hc.1 hc.2.1 hc.2.2 hln h3 p5) (fun _=>rfl)
    ·cases h
   ·cases h
  ·split at h
   ·rename_i hb
    split at h
    ·rename_i M hM
     exact bM (G.mth m M hM X ρ a args ap pos x kx q.1 q.2 r.1 r.2 l4 G.calm G.room hea hes hst hlen hln hb h p4) (fun _=>rfl)
    ·cases h
   ·cases h
 ·cases h
theorem Eo{ds:List D}{q:List D×Nat}{m:List Prop}(hE:∀{ρ:af} {p:D×Nat} {l:List Prop} {X:Cx},aA Φ elt false scope ρ=.ok p l->aJ l->aQ Φ X scope->fK X ρ elt false p.1 p.2)
    (hB:∀{ρ:af} {b:Bool} {l:List Prop} {X:Cx},dM Φ .And ifs scope ρ=.ok b l->aJ l->aQ Φ X scope->en X ρ .And ifs b) (hc:qg sc scope=true) (G:aQ Φ X sc)
    (h:ig (fun d=>match bQ scope tg d (flt scope ρ)with
            | none=>.st
            | some ρ'=>(dM Φ .And ifs scope ρ').bnd fun b=>cond b ((aA Φ elt false scope ρ').bnd fun r=>.ok (some r) []) (.ok none [])) ds=.ok q m) (hp:aJ m) (hj:q.2<=1) :
    ∃f:D->Option D,q.1=ds.filterMap f/\∀cl C s H fp,∀d∈ds,nE (lW X scope cl C (scope.names.map (·.1)) s H fp) (flt scope ρ) tg ifs elt q.2 d (f d):=by
  generalize hst:(fun d=>match bQ scope tg d (flt scope ρ)with
            | none=>.st
            | some ρ'=>(dM Φ .And ifs scope ρ').bnd fun b=>cond b ((aA Φ elt false scope ρ').bnd fun r=>.ok (some r) []) (.ok none []):D->Rs (Option (D×Nat)))=step at h
  obtain⟨c1,c2,c3⟩:=uR h hp
  refine⟨_,c2,fun cl C s H fp d hd=>?_⟩
  have G':=FL (cl:=cl) (C:=C) (s:=s) (H:=H) (fp:=fp) G hc
  obtain⟨x,lx,hx,px⟩:=c1 d hd
  have c3:=c3 hj d hd
  have hs:=congrFun hst d
  unfold sx
  rw[hx]
  split at hs
  . rw[<- hs]at hx;cases hx
  . rename_i ρ' hb
    have gd:=pR G' hb
    have ext:∀x y,flt scope ρ x=some y->ρ' x=some y:=fun x y hxy=>AK hb x y (km hxy).2 hxy
    have hx0:=hx
    rw[<- hs]at hx
    obtain⟨b,l3,l4,h2,p3,hx,p4⟩:=aT hx px
    have ts:=(hB h2 p3 G').ts rfl
    cases b with
    | false =>
      cases hx
      exact⟨ρ',false,gd,ext,ts,rfl⟩
    | true =>
      rw[cond_true]at hx
      obtain⟨z,l5,l6,h3,p5,hx,p6⟩:=aT hx p4
      cases hx
      exact⟨ρ',true,gd,ext,ts,rfl,((hE h3 p5 G').ed rfl).up (c3 z lx hx0) hj⟩
theorem vW(I:Ih Φ n)(hs:sizeOf (Expr.ListComp elt [⟨tg,iter,ifs,0⟩] scope pos)<n+1)(h:aA Φ (.ListComp elt [⟨tg,iter,ifs,0⟩] scope pos) it sc ρ=.ok r l)(hp:aJ l)(G:aQ Φ X sc) :
  ∃ds f k,(ar ds=true\/k<=1)/\r.2<=1/\ds.length<sizeLine/\gX X.env scope (scope.names.map (·.1))/\(∀x d o,flt scope ρ x=some (d,o)->x∈scope.names.map (·.1))/\IE X ρ tg iter ds k /\
   (∀cl C s H fp,∀d∈ds,nE (lW X scope cl C (scope.names.map (·.1)) s H fp) (flt scope ρ) tg ifs elt r.2 d (f d))/\(∀x,foldedSetIterable iter X.env x=pure x)/\r.1=.lst (ds.filterMap f):=by
 rw[rf]at h
 split at h
 ·rename_i hc
  obtain⟨p,l1,l2,h1,p1,h,p2⟩:=aT h hp
  split at h
  ·rename_i ds hd
   split at h
   ·rename_i ht
    obtain⟨u0,l7,l8,h7,p7,h,p8⟩:=aT h p2
    cases h7
    have hl:=And.intro p7.1 p7.2.1
    obtain⟨q,l3,l4,h2,p3,h,p4⟩:=aT h p8
    split at h
    ·rename_i hj
     cases h
     obtain⟨f,e1,t⟩:=Eo (fun a b c=>I.e elt (by first|omega|(simp at *;omega)) a b c) (fun a b c=>I.b .And ifs (by first|omega|(simp at *;omega)) a b c) hc G h2 p3 hj
     refine⟨ds,f,p.2,hl.2,hj,Nat.lt_of_le_of_lt hl.1 lJ,AB G hc,fun x d o hx=>pG (km hx).2,(I.e iter (by first|omega|(simp at *;omega)) h1 p1 G).ie rfl tg ds hd ht,t,jf h1,by rw[e1]⟩
    ·cases h
   ·cases h
  ·cases h
 ·cases h
theorem qY{gens:List Comprehension}(h:aA Φ (.ListComp elt gens scope pos) it sc ρ=.ok r l):∃tg iter ifs,gens=[⟨tg,iter,ifs,0⟩]:=by
 match gens,h with
 | [⟨tg,iter,ifs,0⟩],h=>exact⟨_,_,_,rfl⟩
 | [],h=>cases h
 | ⟨_,_,_,.ofNat (n+1)⟩::r,h=>cases r<;>cases h
 | ⟨_,_,_,.negSucc n⟩::_,h=>cases h
 | ⟨_,_,_,0⟩::_::_,h=>cases h
theorem L9(I:Ih Φ n)(e:Expr)(hs:sizeOf e<n+1)(h:aA Φ e it sc ρ=.ok r l)(hp:aJ l)(G:aQ Φ X sc):fK X ρ e it r.1 r.2:=by
 cases e with
 | Constant c k p =>
  replace h:(match DZ c with|some d=>.ok (d,0) []|none=>.st:R1)=.ok r l:=h
  split at h
  ·rename_i d hc;cases h;exact bM (Ju hc) (fun _=>rfl)
  ·cases h
 | Name x p=>exact Es h G
 | BinOp a op b p=>exact Hg I hs h hp G
 | UnaryOp op a p=>exact Ll I hs h hp G
 | BoolOp op es p =>
  rw[rg]at h
  split at h
  ·cases h
  ·rename_i hne
   obtain⟨b,l1,l2,h1,p1,h,p2⟩:=aT h hp
   cases h
   have ne:es≠[]:=fun z=>hne (by rw[z];rfl)
   have c:=I.b op es (bf (by simp<;>omega) hs) h1 p1 G
   exact .of (c.ed ne p) fun b' hb'=>by cases hb';exact fun ow=>(c.tw ne p ow).pt
 | Compare a ops bs p =>
  match ops,bs,hs,h with
  | [op],[b],hs,h=>exact Hf I hs h hp G
  | [],bs,_,h=>cases h
  | [op],[],_,h=>cases h
  | [op],_::_::_,_,h=>cases h
  | [op,op2],[b,c],hs,h=>exact Bp I hs h hp G
  | [_,_],[],_,h=>cases h
  | [_,_],[_],_,h=>cases h
  | [_,_],_::_::_::_,_,h=>cases h
  | _::_::_::_,bs,_,h=>cases h
 | IfExp c a b p=>exact Lm I hs h hp G
 | Tuple es k p =>
  obtain⟨q,l1,l2,h1,p1,h,p2⟩:=aT (show Rs.bnd _ _=_ from h) hp
  split at h
  ·rename_i hl
   unfold mk at h;cases h
   exact bM (uN (I.es es (bf (by simp<;>omega) hs) h1 p1 G) hl) (fun _=>rfl)
  ·cases h
 | List es p =>
  obtain⟨q,l1,l2,h1,p1,h,p2⟩:=aT (show Rs.bnd _ _=_ from h) hp
  split at h
  ·rename_i hl
   cases h
   exact bM (wJ (I.es es (bf (by simp<;>omega) hs) h1 p1 G) hl.2 hl.1) (fun _=>rfl)
  ·cases h
 | Attribute a f p =>
  cases a with
  | Name x pn =>
   obtain⟨q,l1,l2,h1,p1,h,p2⟩:=aT (show Rs.bnd _ _=_ from h) hp
   have hea:=(I.e (.Name x pn) (bf (by simp<;>omega) hs) (it:=false) h1 p1 G).ed rfl
   obtain⟨d,kd⟩:=q
   unfold I0 at h
   dsimp only at h hea
   split at h
   ·rename_i n ns ds
    split at h
    ·rename_i hf
     split at h
     ·rename_i e hl
      cases h
      exact bM (Js G hf hea rfl hl) (fun _=>rfl)
     ·cases h
    ·cases h
   ·split at h
    ·rename_i hf
     subst hf
     cases h
     exact bM (Ge hea rfl) (fun _=>rfl)
    ·cases h
   ·cases h
  | _=>cases h
 | Dict ks vs p =>
  match ks,vs,h with
  | [],[],h=>cases h;exact bM Jt (fun _=>rfl)
  | _::_,_,h=>cases h
  | [],_::_,h=>cases h
 | Subscript a i p=>exact He I hs h hp G
 | Call f args kws p =>
  cases f with
  | Name f fp =>
   cases kws with
   | nil=>exact Bq I hs h hp G
   | cons _ _=>cases h
  | Attribute a m ap =>
   cases kws with
   | nil=>exact Br I hs h hp G
   | cons _ _=>cases h
  | _=>cases h
 | ListComp elt gens scope p =>
  obtain⟨tg,iter,ifs,rfl⟩:=qY h
  obtain⟨ds,f,k,a1,a2,a3,a4,a5,a6,a7,a8,a9⟩:=vW I hs h hp G
  rw[a9]
  exact bM (Gi G.calm G.nd a1 a2 a3 a4 a5 a6 a7 a8) (fun _=>rfl)
 | _=>cases h
theorem Je(I:Ih Φ n)(es:List Expr){r:List D×Nat}(hs:sizeOf es<n+1)(h:bG Φ es sc ρ=.ok r l)(hp:aJ l)(G:aQ Φ X sc):AD X ρ es r.1 r.2:=by
 cases es with
 | nil=>cases h;exact iP
 | cons e es =>
  obtain⟨p,l1,l2,h1,p1,h,p2⟩:=aT (show Rs.bnd _ _=_ from h) hp
  obtain⟨q,l3,l4,h2,p3,h,p4⟩:=aT h p2
  cases h
  exact dN ((I.e e (bf (by simp<;>omega) hs) h1 p1 G).ed rfl) (I.es es (bf (by simp<;>omega) hs) h2 p3 G) (aF (ic h1))
theorem u8{c:Bool}{r:Rs Bool}{l:List Prop}(h:yr b r=.ok c l)(hp:aJ l):(b=true/\∃m,r=.ok c m/\aJ m)\/(b=false/\c=false):=by
 unfold yr at h
 split at h
 ·rename_i c' m
  cases h
  cases b with
  | true=>exact .inl ⟨rfl,m,rfl,pS hp rfl⟩
  | false=>exact .inr ⟨rfl,rfl⟩
 ·cases b with
  | true=>cases h
  | false=>cases h;exact .inr ⟨rfl,rfl⟩
theorem we{c:Bool}{r:Rs Bool}{l:List Prop}(h:DE b r=.ok c l)(hp:aJ l):(b=false/\∃m,r=.ok c m/\aJ m)\/(b=true/\c=true):=by
 unfold DE at h
 split at h
 ·rename_i c' m
  cases h
  cases b with
  | false=>exact .inl ⟨rfl,m,rfl,pS hp rfl⟩
  | true=>exact .inr ⟨rfl,rfl⟩
 ·cases b with
  | false=>cases h
  | true=>cases h;exact .inr ⟨rfl,rfl⟩
theorem Jg(I:Ih Φ n)(op:BoolOp)(es:List Expr)(hs:sizeOf es<n+1)(h:dM Φ op es sc ρ=.ok b l)(hp:aJ l)(G:aQ Φ X sc):en X ρ op es b:=by
 cases es with
 | nil =>
  cases op with
  | And=>cases h;exact⟨fun z=>absurd rfl z,fun z=>absurd rfl z,fun _=>y9⟩
  | Or=>cases h;exact⟨fun z=>absurd rfl z,fun z=>absurd rfl z,fun z=>(by cases z)⟩
 | cons e es =>
  cases op with
  | And =>
   obtain⟨p,l1,l2,h1,p1,h,p2⟩:=aT (show Rs.bnd _ _=_ from h) hp
   obtain⟨b',hb,h⟩:=nC h
   have c:=I.e e (bf (by simp<;>omega) hs) h1 p1 G
   have ce:=c.ed rfl
   rw[hb]at ce
   have ct:=c.td rfl b' hb
   rcases u8 h p2 with⟨rfl,m,h,pm⟩|⟨rfl,rfl⟩
   ·cases es with
    | nil=>cases h;exact gB ce ct
    | cons e2 es=>exact vG ce ct (I.b .And (e2::es) (bf (by simp<;>omega) hs) h pm G)
   ·cases es with
    | nil=>exact gB ce ct
    | cons e2 es=>exact uW ce ct (fun pos=>⟨_,tS⟩) (fun pos=>⟨_,tN⟩)
  | Or =>
   obtain⟨p,l1,l2,h1,p1,h,p2⟩:=aT (show Rs.bnd _ _=_ from h) hp
   obtain⟨b',hb,h⟩:=nC h
   have c:=I.e e (bf (by simp<;>omega) hs) h1 p1 G
   have ce:=c.ed rfl
   rw[hb]at ce
   have ct:=c.td rfl b' hb
   rcases we h p2 with⟨rfl,m,h,pm⟩|⟨rfl,rfl⟩
   ·cases es with
    | nil=>cases h;exact gB ce ct
    | cons e2 es=>exact yn ce ct (I.b .Or (e2::es) (bf (by simp<;>omega) hs) h pm G)
   ·cases es with
    | nil=>exact gB ce ct
    | cons e2 es=>exact vF ce ct (fun pos=>⟨_,tS⟩) (fun pos=>⟨_,tN⟩)
theorem Jf(I:Ih Φ n)(e:Option Expr){o:Option Int}(hs:sizeOf e<n+1)(h:rS Φ e sc ρ=.ok o l)(hp:aJ l)(G:aQ Φ X sc):OD X ρ e o:=by
 cases e with
 | none=>cases h;exact wk
 | some e =>
  obtain⟨p,l1,l2,h1,p1,h,p2⟩:=aT (show Rs.bnd _ _=_ from h) hp
  have c:=(I.e e (bf (by simp<;>omega) hs) h1 p1 G).ed rfl
  split at h
  ·rename_i i hi
   cases h
   rw[hi]at c
   exact wj c
  ·cases h
end
theorem iJ(Φ:Fx):∀n,Ih Φ n
 | 0=>⟨fun _ _ _ _ _ _ _ h=>absurd h (Nat.not_lt_zero _),fun _ _ _ _ _ _ h=>absurd h (Nat.not_lt_zero _),fun _ _ _ _ _ _ _ h=>absurd h (Nat.not_lt_zero _),fun _ _ _ _ _ _ h=>absurd h (Nat.not_lt_zero _)⟩
 | n+1=>⟨fun e _ _ _ _ _ _ hs h hp G=>L9 (iJ Φ n) e hs h hp G,fun e _ _ _ _ _ hs h hp G=>Je (iJ Φ n) e hs h hp G,fun op e _ _ _ _ _ hs h hp G=>Jg (iJ Φ n) op e hs h hp G,fun e _ _ _ _ _ hs h hp G=>Jf (iJ Φ n) e hs h hp G⟩
theorem Ma(e:Expr){p:D×Nat}{l:List Prop}(h:aA Φ e it sc ρ=.ok p l)(hp:aJ l)(G:aQ Φ X sc):fK X ρ e it p.1 p.2:=(iJ Φ _).e e (Nat.lt_succ_self _) h hp G
theorem fO(es:List Expr){p:List D×Nat}{l:List Prop}(h:bG Φ es sc ρ=.ok p l)(hp:aJ l)(G:aQ Φ X sc):AD X ρ es p.1 p.2:=(iJ Φ _).es es (Nat.lt_succ_self _) h hp G
structure aY(ow:Ow)(H:Hp)(ow':Ow)(H':Hp):Prop where
 keep:∀a o,H a=some o->(nm o\/ow a=none)->H' a=some o
 low:∀a o,H a=some o->ow a=none->ow' a=none
theorem aY.refl(ow:Ow)(H:Hp):aY ow H ow H:=⟨fun _ _ h _=>h,fun _ _ _ h=>h⟩
theorem aY.same(s:ay H H'):aY ow H ow H':=⟨fun a o h _=>s a o h,fun _ _ _ h=>h⟩
theorem aY.trans{ow1 ow2:Ow}{H2:Hp}(a:aY ow H ow1 H1)(b:aY ow1 H1 ow2 H2):aY ow H ow2 H2 :=
 ⟨fun x o h c=>b.keep x o (a.keep x o h c) (c.imp id fun z=>a.low x o h z),fun x o h z=>b.low x o (a.keep x o h (.inr z)) (a.low x o h z)⟩
def cj(H0:Hp)(ow:Ow)(H:Hp):Prop:=∀a o,H0 a=some o->H a=some o/\ow a=none
theorem cj.keep(b:cj H0 ow H)(k:aY ow H ow' H'):cj H0 ow' H':=fun a o h=>let ⟨h1,h2⟩:=b a o h;⟨k.keep a o h1 (.inr h2),k.low a o h1 h2⟩
theorem cj.sm(b:cj H0 ow H):ay H0 H:=fun a o h=>(b a o h).1
variable{X:Cx}
def oR(X:Cx)(H0:Hp)(ow:Ow)(H:Hp)(fl:Fl)(D:kG):Prop :=
 match fl with
 | .nx ρ => ∀ow' σ' H',aL X ow' H' σ' ρ->σ'.length=X.N.length->aY ow H ow' H'->D.nx σ' H'
 | .bk ρ => ∀ow' σ' H',aL X ow' H' σ' ρ->σ'.length=X.N.length->aY ow H ow' H'->D.bk σ' H'
 | .ct ρ => ∀ow' σ' H',aL X ow' H' σ' ρ->σ'.length=X.N.length->aY ow H ow' H'->D.ct σ' H'
 | .rt d => ∀v H',ay H0 H'->ah X.K H' (fun a b=>b=true/\H0 a=none) d v->D.rt v H'
theorem oR.keep{D:kG}(p:oR X H0 ow H fl D)(k:aY ow H ow' H'):oR X H0 ow' H' fl D:=by
 cases fl with
 | nx ρ=>exact fun ow2 σ2 H2 a b c=>p ow2 σ2 H2 a b (k.trans c)
 | bk ρ=>exact fun ow2 σ2 H2 a b c=>p ow2 σ2 H2 a b (k.trans c)
 | ct ρ=>exact fun ow2 σ2 H2 a b c=>p ow2 σ2 H2 a b (k.trans c)
 | rt d=>exact p
def zc(X:Cx)(H0:Hp)(ρ:af)(fl:Fl):TS:=fun D σ H => ∃ow,aL X ow H σ ρ/\σ.length=X.N.length/\cj H0 ow H/\oR X H0 ow H fl D
def SD(X:Cx)(H0:Hp)(ρ:af)(st:Stmt)(fl:Fl):Prop:=PS X st (zc X H0 ρ fl)
def fo(X:Cx)(H0:Hp)(ρ:af)(st:List Stmt)(fl:Fl):Prop:=eQ X st (zc X H0 ρ fl)
theorem Eu:fo X H0 ρ [] (.nx ρ):=fun pins s σ H D I ⟨ow,E,hl,B,q⟩=>qK pins s σ H D I (q ow σ H E hl (aY.refl _ _))
theorem iz{ρ1:af}(h1:SD X H0 ρ st (.nx ρ1))(h2:fo X H0 ρ1 ss fl):fo X H0 ρ (st::ss) fl:=fun pins s σ H D I ⟨ow,E,hl,B,q⟩ =>
 fz h1 h2 pins s σ H D I ⟨ow,E,hl,B,fun ow' σ' H' E' hl' k=>⟨ow',E',hl',B.keep k,q.keep k⟩⟩
theorem iw(h1:SD X H0 ρ st fl)(hf:∀ρ',fl ≠ .nx ρ'):fo X H0 ρ (st::ss) fl:=fun pins s σ H D I ⟨ow,E,hl,B,q⟩ =>
 fz h1 gG pins s σ H D I ⟨ow,E,hl,B,by
  cases fl with
  | nx ρ'=>exact absurd rfl (hf ρ')
  | bk ρ'=>exact q
  | ct ρ'=>exact q
  | rt d=>exact q⟩
theorem tG(h:ED X ρ e d k)(hk:k=0\/k=2):SD X H0 ρ (.Return (some e) pos) (.rt d):=fun pins s σ H D I ⟨ow,E,hl,B,q⟩ =>
 zq (h ow) pins s σ H D I ⟨E,fun v H1 s1 r1=>q v H1 (B.sm.trans s1) (r1.imp fun a b p=>by
  rcases hk with rfl|rfl
  ·exact⟨p.1,B.sm.free p.2⟩
  ·refine⟨p.1,p.2.elim (fun z=>?_) B.sm.free⟩
   cases e0:H0 a with
   | none=>rfl
   | some o=>exact absurd (B a o e0).2 z)⟩
theorem F6(E:aL X ow H σ ρ):aL X (fun _=>none) H σ (fP ρ):=by
 refine⟨fun x d o h=>?_,fun a z=>absurd rfl z⟩
 unfold fP at h
 cases e:ρ x with
 | none=>rw[e]at h;cases h
 | some y =>
  rw[e]at h
  cases h
  obtain⟨i,v,h1,h2,h3,h4⟩:=E.get x y.1 y.2 e
  exact⟨i,v,h1,h2,h3,h4.imp fun _ _ _ _=>rfl⟩
theorem EC(h:ED X (fP ρ) e d k)(hk:k=0\/k=2):SD X H0 ρ (.Return (some e) pos) (.rt d):=fun pins s σ H D I ⟨ow,E,hl,B,q⟩ =>
 zq (h fun _=>none) pins s σ H D I ⟨F6 E,fun v H1 s1 r1=>q v H1 (B.sm.trans s1) (r1.imp fun a b p=>by
  rcases hk with rfl|rfl
  ·exact⟨p.1,B.sm.free p.2⟩
  ·exact⟨p.1,p.2.elim (fun z=>absurd rfl z) B.sm.free⟩)⟩
theorem EJ(h:ED X ρ e d k)(hc:∃f p args ks cp,e=.Call (.Name f p) args ks cp):SD X H0 ρ (.Expr e pos) (.nx ρ):=fun pins s σ H D I ⟨ow,E,hl,B,q⟩=>by
 obtain⟨f,p,args,ks,cp,rfl⟩:=hc
 exact jz (h ow) rfl pins s σ H D I ⟨E,fun v H1 s1 r1=>q ow σ H1 (E.same s1) hl (aY.same s1)⟩
theorem EB:SD X H0 ρ (.Return none pos) (.rt .non):=fun pins s σ H D I ⟨ow,E,hl,B,q⟩=>ET pins s σ H D I (q .non H B.sm (by rw[ah]))
theorem EE:SD X H0 ρ (.Pass pos) (.nx ρ):=fun pins s σ H D I ⟨ow,E,hl,B,q⟩=>EU pins s σ H D I (q ow σ H E hl (aY.refl _ _))
theorem Bx:SD X H0 ρ (.Break pos) (.bk ρ):=fun pins s σ H D I ⟨ow,E,hl,B,q⟩=>BC pins s σ H D I (q ow σ H E hl (aY.refl _ _))
theorem EL:SD X H0 ρ (.Continue pos) (.ct ρ):=fun pins s σ H D I ⟨ow,E,hl,B,q⟩=>vy pins s σ H D I (q ow σ H E hl (aY.refl _ _))
theorem Dr{a b:List Stmt}(hc:TD X ρ c t)(h:if t=true then fo X H0 ρ a fl else fo X H0 ρ b fl):SD X H0 ρ (.If c a b pos) fl:=by
 cases t with
 | true =>
  intro pins s σ H D I ⟨ow,E,hl,B,q⟩
  exact xE (hc ow) h gG pins s σ H D I ⟨E,fun H1 s1=>by
   show if true=true then _ else _
   rw[if_pos rfl]
   exact⟨ow,E.same s1,hl,B.keep (aY.same s1),q.keep (aY.same s1)⟩⟩
 | false =>
  intro pins s σ H D I ⟨ow,E,hl,B,q⟩
  exact xE (hc ow) gG h pins s σ H D I ⟨E,fun H1 s1=>by
   show if false=true then _ else _
   rw[if_neg Bool.false_ne_true]
   exact⟨ow,E.same s1,hl,B.keep (aY.same s1),q.keep (aY.same s1)⟩⟩
theorem rh(hN:X.N.Nodup)(hl:σ.length=X.N.length)(E:aL X ow H σ ρ)(sm:ay H H1)(hi:X.N[i]?=some x)(hv:iS X.env.scope x)(r:ah X.K H1 (Kp ow H 0) d v) :
  ∃ow',aL X ow' H1 (σ.set i (some v)) (bc ρ x (d,true))/\aY ow H ow' H1:=by
 classical
 let ow':Ow:=fun a=>if H a=none/\∃o,H1 a=some o then some (some x)else ow a
 have o1:∀a o,H a=some o->ow' a=ow a:=fun a o h=>if_neg (fun z=>by rw[h]at z;cases z.1)
 have E1:aL X ow' H1 σ ρ:=⟨fun y e o h=>by
  obtain⟨j,w,e1,e2,e3,e4⟩:=E.get y e o h
  refine⟨j,w,e1,e2,e3,ah.same sm (e4.impH (fun a ob ha p=>?_) fun a p=>?_)⟩
  ·cases o with
   | true=>exact⟨p.1,(o1 a ob ha).trans p.2⟩
   | false=>exact fun z=>(o1 a ob ha).trans (p z)
  ·cases o with
   | true=>cases p.1
   | false=>exact fun z=>(by cases z),fun a ha=>by
  by_cases hz:H a=none/\∃o,H1 a=some o
  ·exact hz.2
  ·have:ow' a=ow a:=if_neg hz
   rw[this]at ha
   exact(E.own.same sm) a ha⟩
 refine⟨ow',eY hN hl E1 hi hv (r.impH (fun a o ha p=>⟨rfl,if_pos ⟨p.2,o,ha⟩⟩) fun a p=>(by cases p.1)),fun a o h _=>sm a o h,fun a o h z=>(o1 a o h).trans z⟩
theorem fi{t:Option Expr}(h:iI e=false):swapsWith e t n env=pure false:=by
 cases e<;>first|rfl|cases h
theorem pj{o:Bool}(G:aQ Φ X sc)(hx:cY sc x=true)(h:ED X ρ e d k)(ho:(k=0/\o=true)\/(k=1/\o=false))(hs:swapsWith e (some (.Name x p)) pos.line X.env=pure false) :
  SD X H0 ρ (.Assign [.Name x p] e pos) (.nx (bc ρ x (d,o))):=by
 obtain⟨g1,g2,g3,i,g4⟩:=fN G hx
 intro pins s σ H D I ⟨ow,E,hl,B,q⟩
 refine zp (i:=i) G.nd g4 g1 (h ow) hs g3 pins s σ H D I ⟨E,fun v H1 s1 r1=>?_⟩
 show D.nx (σ.set i (some v)) H1
 rcases ho with⟨rfl,rfl⟩|⟨rfl,rfl⟩
 ·obtain⟨ow',E',k'⟩:=rh G.nd hl E s1 g4 g2 r1
  exact q ow' _ H1 E' (by rw[List.length_set];exact hl) k'
 ·exact q ow _ H1 (eY G.nd hl (E.same s1) g4 g2 r1) (by rw[List.length_set];exact hl) (aY.same s1)
theorem gE:swapsWithSole [.Tuple es n p] e k env=pure false:=by
 cases e<;>rfl
theorem lu{i:Expr}:swapsWithSole [.Subscript a i p] e k env=pure false:=by
 cases e<;>rfl
def QG(K:W.Frag)(n:Nat)(t:qt):TG:=fun v σ H Q => ∃a xs,v=.ref a/\cf K H a xs/\xs.length=n/\t xs σ H Q
theorem HJ{t:qt}(hc:X.calm=true)(h:wP X es t)
  (hn:(assignEach es X.env).length=n) (hst:(assignEach es X.env).findIdx? (·.1)=none):PG X (.Tuple es k pos) (QG X.K n t):=by
 intro pins s σ H v u Q I r hw
 obtain⟨a,xs,e1,hq,hl,hw⟩:=hw
 subst e1
 cases r
 obtain⟨its,rv,pl,hz⟩:=I.list hq
 have hsz:(assignEach es X.env).length=its.toArray.size:=by simp[hn,<- hl,rv.length]
 rw[assign_Tuple]
 refine wpAny_bind (wpAny_standAt ?_)
 unfold unpack
 rw[hst,hsz]
 refine wpAny_bind (wpAny_holding (W.kun_itemsOf (I.ok.hd hc) pl.isList fun h' hx=>?_))
 have I1:aj X pins σ H { s with heap:=h' }:=I.kept (t':=s.toks) fun b o e=>hx b o (Nat.ne_of_lt (Heap.lt_size e)) e
 exact h pins _ σ H xs _ Q I1 (by simpa using rv) hw
theorem pq(o:fh ow H)(hf:ar ds=true\/k<=1)(r:ag X.K H1 (Kp ow H k) ds vs):ag X.K H1 (fun a b=>b=true->ow a=none) ds vs:=by
 rcases hf with hf|hf
 ·exact r.flat _ hf
 ·exact r.imp fun a b p hb=>by subst hb;exact fF o hf p
theorem qF(G:aQ Φ X sc)(ht:sV sc es e=false):swappedStores [.Tuple es n p] e X.env=pure none:=by
 unfold sV at ht
 cases hte:iH e with
 | false=>cases e<;>first|rfl|cases hte
 | true =>
  rw[hte]at ht
  have hc:uV sc es e=true:=by simpa using ht
  unfold uV at hc
  split at hc
  ·rename_i x px y py a b m q
   have k1:X.env.kindOf x=some .cell:=G.cc x (by simpa using hc)
   unfold swappedStores
   dsimp only
   split
   ·rfl
   ·split
    ·rfl
    ·rw[if_pos]
     rw[List.filterMap_cons_none (by simp[k1])]
     have:∀l:List Str,l.length<=1->(l.length != [Expr.Name x px,Expr.Name y py].length || l.eraseDups.length != l.length)=true:=fun l hl=>by
      have:(l.length != [Expr.Name x px,Expr.Name y py].length)=true:=by simp;omega
      rw[this];rfl
     exact this _ (Nat.le_trans (List.length_filterMap_le _ _) (Nat.le_refl _))
  ·cases hc
theorem Hj(G:aQ Φ X sc)(h:ED X ρ e d k)(hd:eU d=some ds)(hf:ar ds=true\/k<=1)(hb:aW sc es ds ρ=some ρ')(ht:sV sc es e=false) :
  SD X H0 ρ (.Assign [.Tuple es n p] e pos) (.nx ρ'):=by
 obtain⟨t,h1,h2,h3,h4⟩:=lG G hb
 intro pins s σ H D I ⟨ow,E,hl,B,q⟩
 have fin:∀H1 vs,ay H H1->ag X.K H1 (Kp ow H k) ds vs->t vs σ H1 D.nx:=fun H1 vs s1 rl=>h4 ow vs σ H1 D.nx hl (E.same s1) (pq E.own hf rl) fun σ' hl' E'=>q ow σ' H1 E' hl' (aY.same s1)
 rcases fy hd with rfl|rfl
 ·refine jA (h ow) (tQ (n:=_) G.calm h1 h2 h3) gE (qF G ht) rfl pins s σ H D I ⟨E,fun v H1 s1 r1=>?_⟩
  obtain⟨a,vs,rfl,hs,rl⟩:=eJ r1
  exact⟨a,vs,rfl,hs,rl.length.symm,fin H1 vs s1 rl⟩
 ·refine jA (h ow) (HJ (n:=_) G.calm h1 h2 h3) gE (qF G ht) rfl pins s σ H D I ⟨E,fun v H1 s1 r1=>?_⟩
  obtain⟨a,vs,rfl,hs,rl⟩:=iZ r1
  exact⟨a,vs,rfl,hs,rl.length.symm,fin H1 vs s1 rl⟩
theorem Lx{a b:D}(h:ag K H P [a,b] vs):∃x y,vs=[x,y]/\ah K H P a x/\ah K H P b y:=by
 rw[ag]at h
 obtain⟨x,r,rfl,h1,h⟩:=h
 rw[ag]at h
 obtain⟨y,r,rfl,h2,h⟩:=h
 rw[ag]at h
 subst h
 exact⟨x,y,rfl,h1,h2⟩
theorem EF{pt:Pos}{p:D×Nat}(G:aQ Φ X sc)(h:ED X ρ e p.1 p.2)(ho:xH sc es p=true)(ht:sV sc es e=false) :
  SD X H0 ρ (.Assign [.Tuple es n pt] e pos) (.nx (Bz es p ρ)):=by
 obtain⟨d,k⟩:=p
 unfold xH at ho
 split at ho
 ·rename_i x px y py d1 d2 e0 e1
  have e0:d=_:=e0
  have e1:k=_:=e1
  subst e0 e1
  simp only[Bool.and_eq_true,Bool.not_eq_true',decide_eq_false_iff_not]at ho
  obtain⟨⟨⟨⟨f1,_⟩,hxy⟩,hx⟩,hy⟩:=ho
  obtain⟨g1,g2,g3,i,g4⟩:=fN G hx
  obtain⟨j1,j2,j3,j,j4⟩:=fN G hy
  have hij:i≠j:=fun z=>by subst z;rw[g4]at j4;exact hxy (Option.some.inj j4)
  intro pins s σ H D I ⟨ow,E,hl,B,q⟩
  refine jA (h ow) (tQ (n:=2) G.calm (oj (jB (i:=i) G.nd g4 g1 g3) (oj (jB (i:=j) G.nd j4 j1 j3) wc rfl) rfl) rfl rfl) gE (qF G ht) rfl pins s σ H D I ⟨E,fun v H1 s1 r1=>?_⟩
  obtain⟨a,vs,rfl,hs,rl⟩:=eJ r1
  obtain⟨v1,v2,rfl,r2,r3⟩:=Lx rl
  refine⟨a,[v1,v2],rfl,hs,rfl,v1,[v2],rfl,v2,[],rfl,rfl,?_⟩
  obtain⟨ow',E',k'⟩:=rh G.nd hl E s1 j4 j2 r3
  have hl':(σ.set j (some v2)).length=X.N.length:=by rw[List.length_set];exact hl
  have E2:=eY (o:=false) G.nd hl' E' g4 g2 (r2.flat _ f1)
  rw[List.set_comm _ _ hij]
  exact q ow' _ H1 E2 (by rw[List.length_set];exact hl') k'
 ·cases ho
theorem xw{x y:Str}{p:Pos}{b:Expr}(G:aQ Φ X sc)(hk:X.env.scope.kind=.function)(h:pB sc x y px py a b=true)(ha:∀x p,a ≠ .Starred x p)(hb:∀x p,b ≠ .Starred x p) :
  swappedStores [.Tuple [.Name x px,.Name y py] n p] (.Tuple [a,b] n2 p2) X.env=pure (some [x,y]):=by
 unfold pB at h
 simp only[Bool.and_eq_true,Bool.not_eq_true',beq_iff_eq,decide_eq_false_iff_not]at h
 obtain⟨⟨⟨⟨⟨h1,h2⟩,h3⟩,h4⟩,h5⟩,h6⟩:=h
 have k1:X.env.kindOf x=some .local:=G.lc x h1
 have k2:X.env.kindOf y=some .local:=G.lc y h2
 have bk:X.env.blockKind=.function:=by unfold Env.blockKind;rw[hk];rfl
 have an:∀f:Expr->Bool,(∀e,(∀x p,e ≠ .Starred x p)->f e=false) -> ¬ ([a,b].any f=true):=fun f hf=>by simp[hf a ha,hf b hb]
 have fm:∀f:Expr->Option Str,f (.Name x px)=some x->f (.Name y py)=some y->[Expr.Name x px,Expr.Name y py].filterMap f=[x,y]:=fun f h1 h2=>by simp[h1,h2]
 have ed:[x,y].eraseDups=[x,y]:=by
  have e1:(!(y==x))=true:=by simp;exact fun z=>h4 z.symm
  rw[List.eraseDups_cons,List.filter_cons_of_pos (p:=fun b => !b==x) e1,List.filter_nil]
  rfl
 unfold swappedStores
 dsimp only
 rw[bk]
 refine(if_neg (by simp)).trans ?_
 refine(if_neg (an _ fun e he=>by cases e<;>first|rfl|exact absurd rfl (he _ _))).trans ?_
 rw[fm _ (by show(if (X.env.kindOf x==some NameKind.local&&px.line==px.line)=true then some x else none)=some x;rw[k1];simp) (by show(if (X.env.kindOf y==some NameKind.local&&py.line==px.line)=true then some y else none)=some y;rw[k2,h3];simp)]
 rw[ed]
 refine(if_neg (by simp)).trans ?_
 rw[h5,h6]
 rfl
theorem Hl{b:Expr}{x y:Str}{p:Pos}{u v:D}(G:aQ Φ X sc)(h:AD X ρ [a,b] [u,v] k)(hf:ar [u,v]=true\/k<=1)(hp:pB sc x y px py a b=true)(ha:∀x p,a ≠ .Starred x p)(hb:∀x p,b ≠ .Starred x p) :
  SD X H0 ρ (.Assign [.Tuple [.Name x px,.Name y py] n p] (.Tuple [a,b] n2 p2) pos) (.nx (bc (bc ρ x (u,false)) y (v,false))):=by
 have hp0:=hp
 unfold pB at hp
 simp only[Bool.and_eq_true,Bool.not_eq_true',beq_iff_eq,decide_eq_false_iff_not]at hp
 obtain⟨⟨⟨⟨⟨l1,l2⟩,_⟩,hxy⟩,_⟩,_⟩:=hp
 obtain⟨g1,g2,g3,i,g4⟩:=fN (x:=x) G (by unfold cY;rw[l1];rfl)
 obtain⟨j1,j2,j3,j,j4⟩:=fN (x:=y) G (by unfold cY;rw[l2];rfl)
 have hij:i≠j:=by intro z;subst z;rw[g4]at j4;cases j4;exact hxy rfl
 intro pins s σ H D I ⟨ow,E,hl,B,q⟩
 refine HC (i:=i) (j:=j) G.calm G.nd g4 j4 hij (G.lc x l1) (G.lc y l2) (h ow) (xw G I.ok.kind hp0 ha hb) gE pins s σ H D I ⟨E,fun vs H1 s1 r1=>?_⟩
 have rs:=pq E.own hf r1
 rw[ag]at rs
 obtain⟨v1,r,rfl,rv1,rs⟩:=rs
 obtain⟨v2,rfl,rv2⟩:=rs.only
 refine⟨v1,v2,rfl,?_⟩
 have E1:=eY (o:=false) G.nd hl (E.same s1) g4 g2 rv1
 have hl1:(σ.set i (some v1)).length=X.N.length:=by rw[List.length_set];exact hl
 exact q ow _ H1 (eY (o:=false) G.nd hl1 E1 j4 j2 rv2) (by rw[List.length_set];exact hl1) (aY.same s1)
theorem Aw{a:Addr}(E:aL X ow H1 σ ρ)(hi:X.N[i]?=some x)(hs:σ[i]?=some (some (.ref a)))
  (hv:iS X.env.scope x) (ha:H1 a=some (.lst vs)) (ho:ow a=some (some x)) (f:ar l'=true) (r:ag X.K H1 (fun _ _=>True) l' vs') :
  aL X ow (aG H1 a (.lst vs')) σ (bc ρ x (.lst l',true)):=by
 have st:∀{P:be},(P a true->False)->dl P P H1 (aG H1 a (.lst vs')):=fun {P} h=>⟨fun b o hb hn=>by rw[ax (fun z=>by subst z;rw[ha]at hb;cases hb;exact hn)];exact hb,fun b ws hb p=>by rw[ax (fun z=>by subst z;exact h p)];exact hb,fun _ _ _ p=>p,fun _ p=>p⟩
 have r':ag X.K (aG H1 a (.lst vs')) (j5 ow x true) l' vs':=ag.flat _ f ((r.flat (fun _ _=>False) f).mono (st fun z=>z))
 refine⟨fun y e o h=>?_,fun b hb=>?_⟩
 ·rw[cZ]at h
  by_cases hy:y=x
  ·subst hy
   rw[if_pos rfl]at h
   cases h
   exact⟨i,.ref a,hi,hv,hs,by rw[ah];exact⟨a,vs',true,rfl,aE,⟨rfl,ho⟩,r'⟩⟩
  ·rw[if_neg hy]at h
   obtain⟨j,w,e1,e2,e3,e4⟩:=E.get y e o h
   refine⟨j,w,e1,e2,e3,e4.mono (st fun p=>?_)⟩
   cases o with
   | true=>have:=p.2;rw[ho]at this;cases this;exact hy rfl
   | false=>have:=p rfl;rw[ho]at this;cases this
 ·by_cases hz:b=a
  ·subst hz;exact⟨_,aE⟩
  ·rw[ax hz];exact E.own b hb
theorem Ia(E:aL X ow H σ ρ)(h:ρ x=some (.lst l,true)):∃(i:Nat) (a:Addr) (vs:List V),X.N[i]?=some x/\iS X.env.scope x/\σ[i]?=some (some (.ref a))/\H a=some (.lst vs)/\ow a=some (some x)/\ag X.K H (fun _ _=>True) l vs:=by
 obtain⟨i,v,e1,e2,e3,e4⟩:=E.get x _ _ h
 rw[ah]at e4
 obtain⟨a,vs,b,rfl,hl,hp,rl⟩:=e4
 cases hp.1
 exact⟨i,a,vs,e1,e2,e3,hl,hp.2,rl.imp fun _ _ _=>True.intro⟩
theorem j8{a:Addr}(sm:ay H H1)(h0:H a=some (.lst vs))(ho:ow a=some (some x)):aY ow H ow (aG H1 a (.lst vs')) :=
 ⟨fun b o h c=>by
  rw[ax (fun z=>by
   subst z
   rw[h0]at h;cases h
   rcases c with c|c
   ·exact c
   ·rw[ho]at c;cases c)]
  exact sm b o h,fun _ _ _ z=>z⟩
theorem gL(I:aj X pins σ H s){a:Addr}{o:Obj}(h:X.K.lookup a=some o):H a=none:=(I.bs a o (I.ok.mod.kin a o h)).2
mutual
def D.lsz:D->Nat
 | .lst l=>1+jn l
 | .tup l=>jn l
 | _=>0
def jn:List D->Nat
 | []=>0
 | d::l=>d.lsz+jn l
end
theorem BW(I:aj X pins σ H s){a:Addr}(ha:H a=some (.lst vs))(h:ah X.K H P d (.ref a)):∃l,d=.lst l:=by
 cases d with
 | lst l=>exact⟨l,rfl⟩
 | tup l =>
  rw[ah]at h
  obtain⟨a',vs',e,hs,_⟩:=h
  cases e
  rcases hs with(q|⟨o,q⟩)|⟨o,its,n,q,_⟩
  ·rw[ha]at q;cases q
  ·rw[ha]at q;cases q
  ·rw[gL I q]at ha;cases ha
 | dct _ _=>rw[ah]at h;obtain⟨_,_,a',_,e,hl,_⟩:=h;cases e;rw[ha]at hl;cases hl
 | sn m=>rw[ah]at h;obtain⟨a',S,e,hl⟩:=h;cases e;rw[ha]at hl;cases hl
 | obj n ns es=>rw[ah]at h;obtain⟨_,_,a',C,dx,vs',e,_,_,hl,_⟩:=h;cases e;rw[ha]at hl;cases hl
 | cls n=>rw[ah]at h;obtain⟨C,o',e,_,hl,_⟩:=h;cases e;rw[gL I hl]at ha;cases ha
 | xc n p =>
  rw[ah]at h
  rcases h.at with⟨o',hl,_⟩|⟨C,od,hl⟩
  ·rw[gL I hl]at ha;cases ha
  ·rw[ha]at hl;cases hl
 | _=>rw[ah]at h;cases h
theorem Bm(I:aj X pins σ H s)(hP:∀a b,P a b->b=true){a:Addr}(ha:cu X.K H a vs)(h:ah X.K H P d (.ref a)):∃l,d=.tup l/\ag X.K H P l vs:=by
 have no:∀o,H a=some o->(∀xs,o ≠ .tup xs)->(∀p q,o ≠ .frz p q)->False:=fun o e h1 h2=>by
  rcases ha with(q|⟨o',q⟩)|⟨o',its,n,q,_⟩
  ·rw[e]at q;cases q;exact h1 _ rfl
  ·rw[e]at q;cases q;exact h2 _ _ rfl
  ·rw[gL I q]at e;cases e
 cases d with
 | lst l =>
  rw[ah]at h
  obtain⟨a',vs',b,e,hl,p,_⟩:=h
  cases e
  cases hP _ _ p
  exact(no _ hl (fun _ z=>nomatch z) fun _ _ z=>nomatch z).elim
 | tup l =>
  rw[ah]at h
  obtain⟨a',vs',e,hs,rl⟩:=h
  cases e
  have:=I.tuple_inj ha hs
  subst this
  exact⟨l,rfl,rl⟩
 | dct _ _=>rw[ah]at h;obtain⟨_,_,a',_,e,hl,_⟩:=h;cases e;exact(no _ hl (fun _ z=>nomatch z) fun _ _ z=>nomatch z).elim
 | sn m=>rw[ah]at h;obtain⟨a',S,e,hl⟩:=h;cases e;exact(no _ hl (fun _ z=>nomatch z) fun _ _ z=>nomatch z).elim
 | obj n ns es=>rw[ah]at h;obtain⟨_,_,a',C,dx,vs',e,_,_,hl,_⟩:=h;cases e;exact(no _ hl (fun _ z=>nomatch z) fun _ _ z=>nomatch z).elim
 | cls n =>
  rw[ah]at h
  obtain⟨C,o',e,_,hl,ht,_⟩:=h
  cases e
  rcases ha with(q|⟨o,q⟩)|⟨o,its,n,q,hc,_⟩
  ·rw[gL I hl]at q;cases q
  ·rw[gL I hl]at q;cases q
  ·rw[hl]at q;cases q;rw[hc]at ht;injection ht with ht;exact absurd ht (by decide)
 | xc n p =>
  rw[ah]at h
  rcases h.at with⟨o',hl,ht⟩|⟨C,od,hl⟩
  ·rcases ha with(q|⟨o,q⟩)|⟨o,its,n,q,hc,_⟩
   ·rw[gL I hl]at q;cases q
   ·rw[gL I hl]at q;cases q
   ·rw[hl]at q;cases q;rw[hc]at ht;injection ht with ht;exact absurd ht (by decide)
  ·exact(no _ hl (fun _ z=>nomatch z) fun _ _ z=>nomatch z).elim
 | _=>rw[ah]at h;cases h
mutual
theorem tL{pins:List (Addr×Obj)}{σ:L2.St}{H:Hp}{s:Shared}(I:aj X pins σ H s){P:be}(hP:∀a b,P a b->b=true):∀(d d':D) (v:V),ah X.K H P d v->ah X.K H P d' v->d.lsz<=d'.lsz
 | .tup l,d',v,h,h'=>by
  rw[ah]at h
  obtain⟨a,vs,rfl,hs,rl⟩:=h
  obtain⟨l',rfl,rl'⟩:=Bm I hP hs h'
  rw[D.lsz,D.lsz];exact lC I hP l l' vs rl rl'
 | .lst l,d',v,h,h'=>by
  rw[ah]at h
  obtain⟨a,vs,b,rfl,hs,p,rl⟩:=h
  cases hP _ _ p
  replace hs:H a=some (.lst vs):=hs
  obtain⟨l',rfl⟩:=BW I hs h'
  rw[ah]at h'
  obtain⟨a',vs',b,e,hl,p',rl'⟩:=h'
  cases e
  cases hP _ _ p'
  replace hl:H a=some (.lst vs'):=hl
  rw[hs]at hl;cases hl
  rw[D.lsz,D.lsz]
  exact Nat.add_le_add_left (lC I hP l l' vs rl rl') 1
 | .non,_,_,_,_=>Nat.zero_le _
 | .bl _,_,_,_,_=>Nat.zero_le _
 | .int _,_,_,_,_=>Nat.zero_le _
 | .str _,_,_,_,_=>Nat.zero_le _
 | .dct _ _,_,_,_,_=>Nat.zero_le _
 | .typ _,_,_,_,_=>Nat.zero_le _
 | .sn _,_,_,_,_=>Nat.zero_le _
 | .obj _ _ _,_,_,_,_=>Nat.zero_le _
 | .cls _,_,_,_,_=>Nat.zero_le _
 | .xc _ _,_,_,_,_=>Nat.zero_le _
theorem lC{pins:List (Addr×Obj)}{σ:L2.St}{H:Hp}{s:Shared}(I:aj X pins σ H s){P:be}(hP:∀a b,P a b->b=true):∀(l l':List D) (vs:List V),ag X.K H P l vs->ag X.K H P l' vs->jn l<=jn l'
 | [],l',vs,h,h'=>Nat.zero_le _
 | d::l,l',vs,h,h'=>by
  rw[ag]at h
  obtain⟨v,r,rfl,h1,h2⟩:=h
  cases l' with
  | nil=>rw[ag]at h';cases h'
  | cons d' l' =>
   rw[ag]at h'
   obtain⟨v',r',e,h1',h2'⟩:=h'
   cases e
   rw[jn,jn]
   exact Nat.add_le_add (tL I hP d d' v h1 h1') (lC I hP l l' r h2 h2')
end
mutual
theorem Hx{pins:List (Addr×Obj)}{σ:L2.St}{H:Hp}{s:Shared}(I:aj X pins σ H s){P:be}(hP:∀a b,P a b->b=true){A:Addr}{l:List D}(hA:ah X.K H P (.lst l) (.ref A)):∀(d:D) (v:V),d.lsz<(D.lst l).lsz->ah X.K H P d v->ah X.K H (fun a b=>P a b/\a≠A) d v
 | .tup m,v,hs,h=>by
  rw[ah]at h⊢
  obtain⟨a,vs,e,h1,h2⟩:=h
  exact⟨a,vs,e,h1,mV I hP hA m vs (by rw[D.lsz]at hs;exact hs) h2⟩
 | .lst m,v,hs,h=>by
  have h0:=h
  rw[ah]at h⊢
  obtain⟨a,vs,b,e,h1,p,h2⟩:=h
  refine⟨a,vs,b,e,h1,⟨p,fun z=>?_⟩,mV I hP hA m vs (by rw[D.lsz]at hs;omega) h2⟩
  subst e z
  have:=tL I hP _ _ _ hA h0
  exact absurd (Nat.lt_of_lt_of_le hs this) (Nat.lt_irrefl _)
 | .non,v,_,h=>by rw[ah]at h⊢;exact h
 | .bl _,v,_,h=>by rw[ah]at h⊢;exact h
 | .int _,v,_,h=>by rw[ah]at h⊢;exact h
 | .str _,v,_,h=>by rw[ah]at h⊢;exact h
 | .dct ks es,v,_,h=>by
  rw[ah]at h⊢
  obtain⟨f,e0,a,vs,e,h1,p,r⟩:=h
  refine⟨f,e0,a,vs,e,h1,⟨p,fun z=>?_⟩,r.flat _ f⟩
  subst z
  rw[ah]at hA
  obtain⟨a2,vs2,b,e2,hl,p2,_⟩:=hA
  cases e2
  cases hP _ _ p2
  replace hl:H a=some (.lst vs2):=hl
  rw[h1]at hl;cases hl
 | .typ _,v,_,h=>by rw[ah]at h⊢;exact h
 | .sn _,v,_,h=>by rw[ah]at h⊢;exact h
 | .obj n ns es,v,_,h=>h.flat _ rfl
 | .cls n,v,_,h=>h.flat _ rfl
 | .xc n p,v,_,h=>h.flat _ rfl
theorem mV{pins:List (Addr×Obj)}{σ:L2.St}{H:Hp}{s:Shared}(I:aj X pins σ H s){P:be}(hP:∀a b,P a b->b=true){A:Addr}{l:List D}(hA:ah X.K H P (.lst l) (.ref A)):∀(m:List D) (vs:List V),jn m<(D.lst l).lsz->ag X.K H P m vs->ag X.K H (fun a b=>P a b/\a≠A) m vs
 | [],vs,_,h=>by rw[ag]at h⊢;exact h
 | d::m,vs,hs,h=>by
  rw[ag]at h⊢
  obtain⟨v,r,e,h1,h2⟩:=h
  exact⟨v,r,e,Hx I hP hA d v (by rw[jn]at hs;omega) h1,mV I hP hA m r (by rw[jn]at hs;omega) h2⟩
end
theorem zC(I:aj X pins σ H s)(E:aL X ow H σ ρ)(h:ρ x=some (.lst l,true)):∃(i:Nat) (a:Addr) (vs:List V),X.N[i]?=some x/\iS X.env.scope x/\σ[i]?=some (some (.ref a))/\H a=some (.lst vs)/\ow a=some (some x)/\ag X.K H (fun b c=>j5 ow x true b c/\b≠a) l vs:=by
 obtain⟨i,v,e1,e2,e3,e4⟩:=E.get x _ _ h
 have e5:=e4
 rw[ah]at e4
 obtain⟨a,vs,b,rfl,hl,hp,rl⟩:=e4
 cases hp.1
 exact⟨i,a,vs,e1,e2,e3,hl,hp.2,mV I (fun _ _ p=>p.1) e5 l vs (by rw[D.lsz];omega) rl⟩
theorem F3{a:Addr}(E:aL X ow H σ ρ)(sm:ay H H1)(hi:X.N[i]?=some x)(hs:σ[i]?=some (some (.ref a)))
  (hv:iS X.env.scope x) (h0:H a=some (.lst vs)) (ho:ow a=some (some x)) (r:ag X.K H1 (fun b c=>(j5 ow x true b c/\b≠a)\/Kp ow H 0 b c) l' vs') :
  ∃ow',aL X ow' (aG H1 a (.lst vs')) σ (bc ρ x (.lst l',true))/\aY ow H ow' (aG H1 a (.lst vs')):=by
 classical
 let ow':Ow:=fun a=>if H a=none/\∃o,H1 a=some o then some (some x)else ow a
 have o1:∀a o,H a=some o->ow' a=ow a:=fun a o h=>if_neg (fun z=>by rw[h]at z;cases z.1)
 have ha:H1 a=some (.lst vs):=sm _ _ h0
 have ho':ow' a=some (some x):=(o1 a _ h0).trans ho
 have E1:aL X ow' H1 σ ρ:=⟨fun y e o h=>by
  obtain⟨j,w,e1,e2,e3,e4⟩:=E.get y e o h
  refine⟨j,w,e1,e2,e3,ah.same sm (e4.impH (fun a ob ha p=>?_) fun a p=>?_)⟩
  ·cases o with
   | true=>exact⟨p.1,(o1 a ob ha).trans p.2⟩
   | false=>exact fun z=>(o1 a ob ha).trans (p z)
  ·cases o with
   | true=>cases p.1
   | false=>exact fun z=>(by cases z),fun a ha=>by
  by_cases hz:H a=none/\∃o,H1 a=some o
  ·exact hz.2
  ·have:ow' a=ow a:=if_neg hz
   rw[this]at ha
   exact(E.own.same sm) a ha⟩
 have st:∀{P:be},(P a true->False)->dl P P H1 (aG H1 a (.lst vs')):=fun {P} h=>⟨fun b o hb hn=>by rw[ax (fun z=>by subst z;rw[ha]at hb;cases hb;exact hn)];exact hb,fun b ws hb p=>by rw[ax (fun z=>by subst z;exact h p)];exact hb,fun _ _ _ p=>p,fun _ p=>p⟩
 have r1:ag X.K H1 (fun b c=>j5 ow' x true b c/\b≠a) l' vs':=r.impH (fun b o hb p=>by
  rcases p with⟨p,hne⟩|p
  ·refine⟨⟨rfl,?_⟩,hne⟩
   by_cases hz:H b=none/\∃o,H1 b=some o
   ·exact if_pos hz
   ·exact(if_neg hz).trans p.2
  ·exact⟨⟨rfl,if_pos ⟨p.2,o,hb⟩⟩,fun z=>by subst z;rw[p.2]at h0;cases h0⟩) fun b p=>by
  rcases p with⟨p,_⟩|p
  ·cases p.1
  ·cases p.1
 have r':ag X.K (aG H1 a (.lst vs')) (j5 ow' x true) l' vs':=(r1.mono (st fun z=>z.2 rfl)).imp fun _ _ p=>p.1
 refine⟨ow',⟨fun y e o h=>?_,fun b hb=>?_⟩,fun b o h c=>?_,fun b o h z=>(o1 b o h).trans z⟩
 ·rw[cZ]at h
  by_cases hy:y=x
  ·subst hy
   rw[if_pos rfl]at h
   cases h
   exact⟨i,.ref a,hi,hv,hs,by rw[ah];exact⟨a,vs',true,rfl,aE,⟨rfl,ho'⟩,r'⟩⟩
  ·rw[if_neg hy]at h
   obtain⟨j,w,e1,e2,e3,e4⟩:=E1.get y e o h
   refine⟨j,w,e1,e2,e3,e4.mono (st fun p=>?_)⟩
   cases o with
   | true=>have:=p.2;rw[ho']at this;cases this;exact hy rfl
   | false=>have:=p rfl;rw[ho']at this;cases this
 ·by_cases hz:b=a
  ·subst hz;exact⟨_,aE⟩
  ·rw[ax hz];exact E1.own b hb
 ·rw[ax (fun z=>by
   subst z
   rw[h0]at h;cases h
   rcases c with c|c
   ·exact c
   ·rw[ho]at c;cases c)]
  exact sm b o h
theorem j6{env:Env}{pos:Pos}:∀{es:List Expr},(∀e∈es,∀x p,e ≠ .Starred x p)->(backTo pos (starEach es env)).all (fun x => !x.1)=true
 | [],_=>rfl
 | e::es,h=>by
  have ih:=j6 (env:=env) (es:=es) (pos:=pos) fun x hx=>h x (List.mem_cons_of_mem _ hx)
  have he:=h e List.mem_cons_self
  cases e<;>first|exact absurd rfl (he _ _)|exact ih
theorem Hm{M:List D->List D->Nat->Rs (List D)}{args:List Expr}{p4:Pos}(hcalm:X.calm=true)(hM:kE m M)(hx:ρ x=some (.lst l,true))(h:AD X ρ args ds k)(hst:∀e∈args,∀y p,e ≠ .Starred y p)(hlen:args.length=ds.length)
  (hn:eM x=true) (hln:(ap.endLine==cp.line)=true) (hm:M l ds k=.ok l' o) (hp:aJ o):SD X H0 ρ (.Expr (.Call (.Attribute (.Name x p1) m ap) args [] cp) p4) (.nx (bc ρ x (.lst l',true))):=by
 obtain⟨id,r,sl,ty,mt,hr⟩:=hM X hcalm
 intro pins s σ H D I ⟨ow,E,hl,B,q⟩
 obtain⟨i,a,vs,g1,g2,g3,g4,g5,g6⟩:=zC I E hx
 have pn:PE X (.Name x p1) (lr i):=gH g1 g2 (cK hn).1 (cK hn).2
 have fin:∀(H1:Hp) (ws:List V),ay H H1->ag X.K H1 (Kp ow H k) ds ws->r (.ref a) ws H1 fun _ H2=>D.nx σ H2:=fun H1 ws s1 r1 =>
  (hr ow H H1 l ds l' k o a vs ws hm hp).2 (fun b c=>(j5 ow x true b c/\b≠a)\/Kp ow H 0 b c) _ (fun _ _ p=>.inr p) E.own s1 (s1 _ _ g4) ((g6.same s1).imp fun _ _ p=>.inl p) r1 fun vs' _ rv=>by
   obtain⟨ow',E',k'⟩:=F3 E s1 g1 g3 g2 g4 g5 rv
   exact q ow' σ _ E' hl k'
 have few:ds.length<29:=(hr ow H H l ds l' k o a vs vs hm hp).1
 cases args with
 | nil =>
  have e0:ds=[]:=List.length_eq_zero_iff.mp hlen.symm
  refine jz (HX PySem.F.plainAttrs_list sl ty mt pn rfl hln) rfl pins s σ H D I ⟨_,g3,.inl ⟨rfl,_,cf.of g4⟩,?_⟩
  exact fin H [] (ay.refl _) (by rw[e0];exact ag.nil)
 | cons e es =>
  have hfew:((backTo cp (starEach (e::es) X.env)).all (fun x => !x.1)&&(backToKw cp (keywordEach [] X.env)).all (fun x=>x.1.isSome)&&decide ((e::es).length+([]:List Keyword).length+(if ([]:List Keyword).isEmpty then 0 else 1)<30))=true:=by
   rw[j6 hst,hlen]
   have:decide (ds.length+0+0<30)=true:=by simp;omega
   exact this
  refine jz (DC PySem.F.plainAttrs_list sl ty mt pn (h ow) rfl hfew hln (aF (hst e List.mem_cons_self)) (bi fun x hx=>hst x (List.mem_cons_of_mem _ hx))) rfl pins s σ H D I ⟨_,g3,.inl ⟨rfl,_,cf.of g4⟩,E,fun ws H1 s1 r1=>?_⟩
  exact fin H1 ws s1 r1
theorem pH:∀{l:List D} {j:Nat} {d:D},ar l=true->d.lless=true->ar (l.set j d)=true
 | [],j,d,h,f=>by simp[ar]
 | x::l,0,d,h,f=>by
  rw[ar,Bool.and_eq_true]at h
  rw[List.set_cons_zero,ar,Bool.and_eq_true];exact⟨f,h.2⟩
 | x::l,j+1,d,h,f=>by
  rw[ar,Bool.and_eq_true]at h
  rw[List.set_cons_succ,ar,Bool.and_eq_true];exact⟨h.1,pH h.2 f⟩
theorem ag.set{K:W.Frag}{P:be}{H:Hp}{d:D}{v:V}(r:ah K H P d v):∀{l:List D} {vs:List V} (j:Nat),ag K H P l vs->ag K H P (l.set j d) (vs.set j v)
 | [],vs,j,h=>by rw[ag]at h;subst h;simp;exact ag.nil
 | x::l,vs,0,h=>by
  rw[ag]at h
  obtain⟨w,u,rfl,h1,h2⟩:=h
  exact ag.cons r h2
 | x::l,vs,j+1,h=>by
  rw[ag]at h
  obtain⟨w,u,rfl,h1,h2⟩:=h
  exact ag.cons h1 (ag.set r j h2)
theorem Bw{i:Expr}{j:Int}(hx:ρ x=some (.lst l,true))(h:ED X ρ e d k)(hi:ED X ρ i (.int j) k2)(f:ar l=true)(fd:d.lless=true)(hn:eM x=true)(hm:xB l j d=some l')(hsl:∀a b c p,i ≠ .Slice a b c p) :
  SD X H0 ρ (.Assign [.Subscript (.Name x p1) i p2] e pos) (.nx (bc ρ x (.lst l',true))):=by
 unfold xB at hm
 cases hj:ja l.length j with
 | none=>rw[hj]at hm;cases hm
 | some n =>
  rw[hj]at hm;cases hm
  intro pins s σ H D I ⟨ow,E,hl,B,q⟩
  obtain⟨ix,a,vs,g1,g2,g3,g4,g5,g6⟩:=Ia E hx
  have pn:PE X (.Name x p1) (lr ix):=gH g1 g2 (cK hn).1 (cK hn).2
  refine jA (h ow) (tR pn (hi ow) tE (fun v=>by cases i<;>first|rfl|exact absurd rfl (hsl _ _ _ _))) lu (by cases e<;>rfl) rfl pins s σ H D I ⟨E,fun v H1 s1 r1=>?_⟩
  refine⟨_,g3,E.same s1,fun u H2 s2 r2=>?_⟩
  rw[ah]at r2;subst r2
  have s12:=s1.trans s2
  refine⟨a,vs,j,n,rfl,rfl,s12 _ _ g4,by rw[<- g6.length];exact hj,?_⟩
  exact q ow σ _ (Aw (E.same s12) g1 g3 g2 (s12 _ _ g4) g5 (pH f fd) (ag.set ((r1.imp fun _ _ _=>True.intro).same s2) n (g6.same s12))) hl (j8 s12 g4 g5)
def Lz:yy:=fun o i v H Q => ∃p kvs k,o=.ref p/\i=kV k/\H p=some (.dK kvs)/\kvs.length<sizeLine/\Q (aG H p (.dK (jl kvs k v)))
theorem Bu:C2 X Lz:=by
 intro pins s σ H o i v ov iv u Q I ro ri rv h
 obtain⟨p,kvs,k,rfl,rfl,hp,hz,q⟩:=h
 cases ro
 obtain⟨z,hd,vs,rel,dd⟩:=(show bw X.prog X.w H s.heap p (.dK kvs)from I.hok p _ hp)
 have hz':vs.length<=sizeLine:=by rw[<- rel.length];exact z
 have hl:(jl kvs k v).length<=sizeLine:=by have:=vB kvs k v;omega
 refine wpAny_setItem_pairs (hsz:=hz') (xY ri) dd fun h' dd' hs=>?_
 have he:∃q,h'.get? p=some q:=let ⟨q,_,_,hq,_⟩:=dd';⟨q,hq⟩
 exact⟨_,I.write (x:=p) (e:=p) (by rw[hp];exact True.intro) (.inl rfl) (fun b q hb z=>(hs.2 b hb).trans z) he (show bw X.prog X.w (aG H p (.dK (jl kvs k v))) h' p (.dK (jl kvs k v))from⟨hl,hd,_,rel.put k rv,dd'⟩),q⟩
theorem Ej{k:bU}(h:ks.length=vs.length):(ky ks k).zip (eF ks vs k v)=jl (ks.zip vs) k v:=by
 unfold ky eF jl
 rw[vO h]
 cases fB ks k with
 | true =>
  rw[if_pos rfl]
  show ks.zip (List.zipWith _ ks vs)=_
  induction ks generalizing vs with
  | nil=>rfl
  | cons j ks ih =>
   cases vs with
   | nil=>cases h
   | cons w vs =>
    show(j,if j=k then v else w)::ks.zip (List.zipWith _ ks vs)=(if j=k then(j,v)else(j,w))::(ks.zip vs).map _
    rw[ih (by simpa using h)]
    split<;>rfl
 | false =>
  rw[if_neg Bool.false_ne_true]
  show(ks++[k]).zip (vs++[v])=_
  rw[List.zip_append h];rfl
theorem ER{k:bU}{v:α}{vs:List α}(h:ks.length=vs.length):(ky ks k).length=(eF ks vs k v).length:=by
 unfold ky eF
 cases fB ks k with
 | true=>show ks.length=(List.zipWith _ ks vs).length;rw[List.length_zipWith,<- h,Nat.min_self]
 | false=>show(ks++[k]).length=(vs++[v]).length;rw[List.length_append,List.length_append,h];rfl
theorem EQ{k:bU}(r:ah K H P d v)(rl:ag K H P ds vs)(h:ks.length=ds.length):ag K H P (eF ks ds k d) (eF ks vs k v):=by
 unfold eF
 cases fB ks k with
 | true =>
  show ag K H P (List.zipWith _ ks ds) (List.zipWith _ ks vs)
  induction ks generalizing ds vs with
  | nil=>exact ag.nil
  | cons j ks ih =>
   cases ds with
   | nil=>cases h
   | cons x ds =>
    rw[ag]at rl
    obtain⟨w,u,rfl,h1,h2⟩:=rl
    refine ag.cons ?_ (ih h2 (by simpa using h))
    by_cases hj:j=k
    ·simp only[if_pos hj];exact r
    ·simp only[if_neg hj];exact h1
 | false=>exact rl.append (ag.one r)
theorem tO{k:bU}(f:ar ds=true)(fd:d.lless=true):ar (eF ks ds k d)=true:=by
 unfold eF
 cases fB ks k with
 | true =>
  show ar (List.zipWith _ ks ds)=true
  induction ks generalizing ds with
  | nil=>rfl
  | cons j ks ih =>
   cases ds with
   | nil=>rfl
   | cons x ds =>
    rw[ar,Bool.and_eq_true]at f
    show ar ((if j=k then d else x)::List.zipWith _ ks ds)=true
    rw[ar,Bool.and_eq_true]
    refine⟨?_,ih f.2⟩
    split
    ·exact fd
    ·exact f.1
 | false =>
  show ar (ds++[d])=true
  induction ds with
  | nil=>show ar [d]=true;rw[ar,fd];rfl
  | cons x ds ih =>
   rw[ar,Bool.and_eq_true]at f
   show ar (x::(ds++[d]))=true
   rw[ar,f.1,ih f.2];rfl
theorem EK{i:Expr}{di:D}{key:bU}(hx:ρ x=some (.dct ks ds,true))(h:ED X ρ e d k)(hi:ED X ρ i di k2)(hk:oC di=some key)(fd:d.lless=true)(hz:ks.length<bA)(hn:eM x=true)(hsl:∀a b c p,i ≠ .Slice a b c p) :
  SD X H0 ρ (.Assign [.Subscript (.Name x p1) i p2] e pos) (.nx (bc ρ x (.dct (ky ks key) (eF ks ds key d),true))):=by
 intro pins s σ H D I ⟨ow,E,hl,B,q⟩
 obtain⟨ix,v0,g1,g2,g3,g4⟩:=E.get x _ _ hx
 rw[ah]at g4
 obtain⟨f,e0,a,vs,rfl,ha,hp,rl⟩:=g4
 have ho:ow a=some (some x):=hp.2
 have pn:PE X (.Name x p1) (lr ix):=gH g1 g2 (cK hn).1 (cK hn).2
 refine jA (h ow) (tR pn (hi ow) Bu (fun v=>by cases i<;>first|rfl|exact absurd rfl (hsl _ _ _ _))) lu (by cases e<;>rfl) rfl pins s σ H D I ⟨E,fun v H1 s1 r1=>?_⟩
 refine⟨_,g3,E.same s1,fun u H2 s2 r2=>?_⟩
 have s12:=s1.trans s2
 have el:ks.length=vs.length:=e0.trans rl.length
 refine⟨a,_,key,rfl,oB hk r2,s12 _ _ ha,?_,?_⟩
 ·rw[List.length_zip,<- el,Nat.min_self];exact Nat.lt_of_lt_of_le hz dX
 rw[<- Ej el]
 have ha2:=s12 _ _ ha
 have st:∀{P:be} {o':HO},(P a true->False)->dl P P H2 (aG H2 a o'):=fun {P o'} h=>⟨fun b o hb hn=>by rw[ax (fun z=>by subst z;rw[ha2]at hb;cases hb;exact hn)];exact hb,fun b ws hb p=>by rw[ax (fun z=>by subst z;exact h p)];exact hb,fun _ _ _ p=>p,fun _ p=>p⟩
 have rr:ag X.K H2 (fun _ _=>False) (eF ks ds key d) (eF ks vs key v):=EQ ((r1.same s2).flat _ fd) ((rl.same s12).flat _ f) e0
 refine q ow σ _ ⟨fun y e o h=>?_,fun b hb=>?_⟩ hl ⟨fun b o h c=>?_,fun _ _ _ z=>z⟩
 ·rw[cZ]at h
  by_cases hy:y=x
  ·subst hy
   rw[if_pos rfl]at h
   cases h
   exact⟨ix,.ref a,g1,g2,g3,by rw[ah];exact⟨tO f fd,ER e0,a,_,rfl,aE,⟨rfl,ho⟩,(rr.mono (st fun z=>z)).flat _ (tO f fd)⟩⟩
  ·rw[if_neg hy]at h
   obtain⟨j,w,e1,e2,e3,e4⟩:=(E.same s12).get y e o h
   refine⟨j,w,e1,e2,e3,e4.mono (st fun p=>?_)⟩
   cases o with
   | true=>have:=p.2;rw[ho]at this;cases this;exact hy rfl
   | false=>have:=p rfl;rw[ho]at this;cases this
 ·by_cases hz:b=a
  ·subst hz;exact⟨_,aE⟩
  ·rw[ax hz];exact(E.same s12).own b hb
 ·rw[ax (fun z=>by
   subst z
   rw[ha]at h;cases h
   rcases c with c|c
   ·exact c
   ·rw[ho]at c;cases c)]
  exact s12 b o h
theorem LZ{op:Operator}{r:R2}(h:cQ X (inplaceOp op) r):MD X op r:=h
theorem B7:cQ X (inplaceOp .Mult) (rI (fun i j=>bJ i j) fun i j=>.int (i*j)):=wg fun _ _ _ _ _ _ _ hc q=>imul_int q (t5 hc)
theorem Af:cQ X (inplaceOp .FloorDiv) (rI (fun _ j=>gA j) fun i j=>.int (i.fdiv j)):=wg fun i j _ _ _ _ _ hc q=>ifloordiv_int hc.1 q (.inl (PyProof.noPylong_of_log2 (by
 rcases Nat.eq_zero_or_pos j.natAbs with h1|hp
 ·exact absurd (by simpa using h1) hc.1
 ·exact(Nat.log2_lt (Nat.ne_of_gt hp)).mpr hc.2)))
theorem Ho{op:Operator}{a b:Int}{o:Bool}{l:List Prop}(G:aQ Φ X sc)(hx:cY sc x=true)(ha:ρ x=some (.int a,o))(h:ED X ρ e (.int b) k)(hr:CN op a b=.ok (d,k2) l)(hp:aJ l) :
  SD X H0 ρ (.AugAssign (.Name x p) op e pos) (.nx (bc ρ x (d,true))):=by
 obtain⟨g1,g2,g3,i,g4⟩:=fN G hx
 obtain⟨r,hr1,hr2⟩:∃r:R2,cQ X (inplaceOp op) r/\d.lless=true/\∀H (Q:VK),(∀v,ah X.K H (fun _ _=>False) d v->Q v H)->r (.int a) (.int b) H Q:=by
  unfold CN at hr
  split at hr
  ·cases hr;exact⟨_,FF,rfl,fun H Q q=>⟨a,b,rfl,rfl,q _ (by rw[ah])⟩⟩
  ·cases hr;exact⟨_,FE,rfl,fun H Q q=>⟨a,b,rfl,rfl,q _ (by rw[ah])⟩⟩
  ·cases hr;exact⟨_,B7,rfl,fun H Q q=>⟨a,b,rfl,rfl,hp.1,q _ (by rw[ah])⟩⟩
  ·cases hr;exact⟨_,Af,rfl,fun H Q q=>⟨a,b,rfl,rfl,hp.1,q _ (by rw[ah])⟩⟩
  ·cases hr
 intro pins s σ H D I ⟨ow,E,hl,B,q⟩
 obtain⟨i2,v,e1,e2,e3,e4⟩:=E.get x _ _ ha
 rw[ah]at e4;subst e4
 have hi:i2=i:=iF G.nd e1 g4
 subst hi
 refine HD (i:=i2) G.nd g4 g1 (h ow) (LZ hr1) g3 pins s σ H D I ⟨.int a,e3,E,fun v H1 s1 r1=>?_⟩
 rw[ah]at r1;subst r1
 refine hr2.2 H1 _ fun w rw'=>?_
 exact q ow _ H1 (eY G.nd hl (E.same s1) g4 g2 (rw'.flat _ hr2.1)) (by rw[List.length_set];exact hl) (aY.same s1)
theorem xV:kE "append" jG:=fun X hc=>⟨"list.append", _,PySem.F.slot_list_append,PySem.F.type_list_append,rJ,fun ow H0 H l ds l' j o a vs ws h hp=>by
 unfold jG at h
 split at h
 ·rename_i d
  cases h
  have c:=hp.1
  refine⟨by simp,fun P Q hP oi sm ha rl rd q=>?_⟩
  obtain⟨w,rfl,rw'⟩:=rd.only
  refine⟨a,vs,w,rfl,rfl,ha,?_,q _ _ (rl.append (ag.one ?_))⟩
  ·rw[<- rl.length];exact Nat.lt_trans hp.2.1 lJ
  ·rcases c with c|c
   ·exact rw'.flat _ c
   ·subst c;exact rw'.imp hP
 ·cases h⟩
theorem ag.rev{K:W.Frag}{P:be}{H:Hp}:∀{l:List D} {vs:List V},ag K H P l vs->ag K H P l.reverse vs.reverse
 | [],vs,h=>by rw[ag]at h;subst h;exact ag.nil
 | d::l,vs,h=>by
  rw[ag]at h
  obtain⟨v,r,rfl,h1,h2⟩:=h
  rw[List.reverse_cons,List.reverse_cons]
  exact(ag.rev h2).append (ag.one h1)
variable{X:Cx}
theorem oH(x:Str)(E:aL X ow H σ ρ):∃ow',aL X ow' H σ (demX x ρ)/\aY ow H ow' H:=by
 classical
 unfold demX
 let ow':Ow:=fun a=>if ow a=some (some x)then none else ow a
 have o1:∀a,ow a=none->ow' a=none:=fun a h=>by show(if _ then _ else _)=_;split;rfl;exact h
 refine⟨ow',⟨fun y e o h=>?_,fun a ha=>?_⟩,fun a o h _=>h,fun a o h z=>o1 a z⟩
 ·by_cases hy:y=x
  ·subst hy
   simp only[if_true]at h
   cases hd:ρ y with
   | none=>rw[hd]at h;cases h
   | some q =>
    obtain⟨d,o'⟩:=q
    rw[hd]at h
    cases h
    obtain⟨j,w,e1,e2,e3,e4⟩:=E.get y _ _ hd
    refine⟨j,w,e1,e2,e3,e4.imp fun a b p z=>?_⟩
    cases o' with
    | true=>exact if_pos p.2
    | false=>exact o1 a (p z)
  ·simp only[if_neg hy]at h
   obtain⟨j,w,e1,e2,e3,e4⟩:=E.get y e o h
   refine⟨j,w,e1,e2,e3,e4.imp fun a b p=>?_⟩
   cases o with
   | true=>exact⟨p.1,by show(if _ then _ else _)=_;rw[if_neg (fun z=>by rw[p.2]at z;cases z;exact hy rfl)];exact p.2⟩
   | false=>exact fun z=>o1 a (p z)
 ·refine E.own a fun z=>ha (o1 a z)
theorem Gm(x:Str)(ρ:af):demA x ρ=ρ\/demA x ρ=demX x ρ:=by
 cases h:ρ x with
 | none=>exact .inl (funext fun y=>by unfold demA;split;(rename_i e;subst e;rw[h];rfl);rfl)
 | some p =>
  cases hl:p.1.lless with
  | true=>exact .inl (funext fun y=>by unfold demA;split;(rename_i e;subst e;rw[h];show some (p.1,p.2&&p.1.lless)=_;rw[hl,Bool.and_true]);rfl)
  | false=>exact .inr (funext fun y=>by unfold demA demX;split;(rename_i e;subst e;rw[h];show some (p.1,p.2&&p.1.lless)=_;rw[hl,Bool.and_false];rfl);rfl)
theorem ku:∀{es:List Expr} {ow:Ow} {H:Hp} {σ:L2.St} {ρ:af},aL X ow H σ ρ->∃ow',aL X ow' H σ (demL es ρ)/\aY ow H ow' H
 | [],ow,H,σ,ρ,E=>⟨ow,E,aY.refl _ _⟩
 | e::es,ow,H,σ,ρ,E=>by
  have one:∀x,∃ow',aL X ow' H σ (demL es (demA x ρ))/\aY ow H ow' H:=fun x=>by
   rcases Gm x ρ with h|h
   ·rw[h];exact ku E
   ·rw[h]
    obtain⟨ow1,E1,k1⟩:=oH x E
    obtain⟨ow2,E2,k2⟩:=ku (es:=es) E1
    exact⟨ow2,E2,k1.trans k2⟩
  unfold demL
  split
  ·rename_i z;cases z
  ·rename_i z;cases z;exact one _
  ·rename_i z;cases z;exact one _
  ·rename_i z;cases z;exact ku E
theorem qc(E:aL X ow H σ ρ):∃ow',aL X ow' H σ (demote e ρ)/\aY ow H ow' H:=by
 unfold demote
 split
 ·exact oH _ E
 ·exact oH _ E
 ·exact ku E
 ·exact⟨ow,E,aY.refl _ _⟩
def ac{α:Type}(r:Rs α)(a:α):Prop:=∃l,r=.ok a l/\aJ l
theorem aw{r:Rs α}{f:α->Rs β}{b:β}(h:ac (r.bnd f) b):∃a,ac r a/\ac (f a) b:=by
 obtain⟨l,h,hp⟩:=h
 obtain⟨a,l1,l2,h1,p1,h2,p2⟩:=aT h hp
 exact⟨a,⟨l1,h1,p1⟩,l2,h2,p2⟩
theorem aq{a:α}(h:ac (.st) a):False:=by obtain⟨l,h,_⟩:=h;cases h
theorem aH{a b:α}{l:List Prop}(h:ac (.ok a l) b):a=b:=by obtain⟨m,h,_⟩:=h;cases h;rfl
theorem Hn{ρ:af}{bind:D->af->Option af}{fl:Fl}(hp:PassesOwn (model X.prog X.w) X.A X.env X.xe)(hcalm:X.calm=true)
  (hi:IE X (demote iter ρ) tg iter ds k) (hk:k<=1) (hg:∀d ρ ρ',bind d ρ=some ρ'->GD X ρ tg d ρ') (hb:∀ρ fl,ac (bodyF ρ) fl->fo X H0 ρ body fl) (h:ac (ff bind bodyF ds (demote iter ρ)) fl)
  (hs:∀x,foldedSetIterable iter X.env x=pure x):SD X H0 ρ (.For tg iter body [] pos) fl:=by
 intro pins s σ H D0 I ⟨ow0,E0,hl,B0,q0⟩
 obtain⟨ow,E,k0⟩:=qc (e:=iter) E0
 have B:=B0.keep k0
 have q:=q0.keep k0
 have pb:eQ X body (fun D σ H => ∃ρ fl,ac (bodyF ρ) fl/\zc X H0 ρ fl D σ H):=fun pins s σ H D I ⟨ρ1,fl1,h1,h2⟩=>hb ρ1 fl1 h1 pins s σ H D I h2
 have pg:PG X tg (fun v σ H Q => ∃g:TG,PG X tg g/\g v σ H Q):=fun pins s σ H v u Q I r ⟨g,h1,h2⟩=>h1 pins s σ H v u Q I r h2
 refine tP hp hcalm (hi ow) pg pb hs pins s σ H D0 I ⟨E,fun J H1 s1 itd=>?_⟩
 refine⟨fun i m σ' H'=>m=ds.length-i/\i<=ds.length/\∃ow' ρ',aL X ow' H' σ' ρ'/\σ'.length=X.N.length/\cj H0 ow' H'/\aY ow H1 ow' H'/\ac (ff bind bodyF (ds.drop i) ρ') fl,
  ⟨ds.length,by simp,Nat.zero_le _,ow,_,E.same s1,hl,B.keep (aY.same s1),aY.refl _ _,h⟩,?_⟩
 rintro i m σ' H' ⟨rfl,hile,ow',ρ',E',hl',B',k',hf⟩
 have q':oR X H0 ow' H' fl D0:=q.keep ((aY.same s1).trans k')
 have st:dl (Kd ow H k H1) (Kd ow H k H1) H1 H':=⟨fun a o ha hn=>k'.keep a o ha (.inl hn),fun a vs ha p=>k'.keep a _ ha (.inr (fF E.own hk p.1)),fun _ _ _ p=>p,fun _ p=>p⟩
 have it:=itd i H' st
 by_cases hlt:i<ds.length
 ·obtain⟨go,yl⟩:=it.1 ds[i] (List.getElem?_eq_getElem hlt)
  have hdrop:ds.drop i=ds[i]::ds.drop (i+1):=List.drop_eq_getElem_cons hlt
  rw[hdrop,ff]at hf
  refine .inr ⟨go,fun σ2 H2=>i+1<=ds.length/\∃ow2 ρ2,aL X ow2 H2 σ2 ρ2/\σ2.length=X.N.length/\cj H0 ow2 H2/\aY ow H1 ow2 H2/\ac (ff bind bodyF (ds.drop (i+1)) ρ2) fl,fun σ2 H2 n=>⟨ds.length-(i+1),by omega,rfl,n.1,n.2⟩,fun x H3 y3=>?_⟩
  obtain⟨sm3,rx⟩:=yl x H3 y3
  cases hbd:bind ds[i] ρ' with
  | none=>rw[hbd]at hf;exact(aq hf).elim
  | some ρ1 =>
   rw[hbd]at hf
   dsimp only at hf
   obtain⟨g,g1,g2⟩:=hg _ _ _ hbd
   have rx':ah X.K H3 (fun a b=>b=true->ow' a=none) ds[i] x:=rx.impH (fun a o ha p _=>by
    obtain⟨o1,h1⟩:=p.2 rfl
    exact k'.low a o1 h1 (fF E.own hk p.1)) fun a _ z=>(by cases z)
   refine⟨g,g1,g2 ow' x σ' H3 _ hl' (E'.same sm3) rx' fun σ2 hl2 E2=>?_⟩
   have k3:aY ow' H' ow' H3:=aY.same sm3
   obtain⟨f1,hbo,hf⟩:=aw hf
   refine⟨ρ1,f1,hbo,ow',E2,hl2,B'.keep k3,?_⟩
   cases f1 with
   | nx ρ2=>exact fun ow2 σ3 H4 a b c=>⟨hlt,ow2,ρ2,a,b,(B'.keep k3).keep c,k'.trans (k3.trans c),hf⟩
   | ct ρ2=>exact fun ow2 σ3 H4 a b c=>⟨hlt,ow2,ρ2,a,b,(B'.keep k3).keep c,k'.trans (k3.trans c),hf⟩
   | bk ρ2=>cases aH hf;exact fun ow2 σ3 H4 a b c=>q' ow2 σ3 H4 a b (k3.trans c)
   | rt d=>cases aH hf;exact q'
 ·have ei:i=ds.length:=by omega
  subst ei
  rw[List.drop_length,ff]at hf
  cases aH hf
  exact .inl ⟨it.2 (Nat.le_refl _),q' ow' σ' H' E' hl' (aY.refl _ _)⟩
theorem Bv{test:af->Rs Bool}{fl:Fl}(hp:PassesOwn (model X.prog X.w) X.A X.env X.xe)
  (hc:∀ρ b,ac (test ρ) b->TD X ρ c b) (hb:∀ρ fl,ac (bodyF ρ) fl->fo X H0 ρ body fl) {n0:Nat} {ρ0:af} (h:ac (nO test bodyF n0 ρ0) fl):SD X H0 ρ0 (.While c body [] pos) fl:=by
 intro pins s σ H D0 I ⟨ow,E,hl,B,q⟩
 have pc:PT X c (fun σ H Q => ∃ow ρ b,ac (test ρ) b/\Di X ow ρ b σ H Q):=fun pins s σ H Q I ⟨ow,ρ,b,h1,h2⟩=>hc ρ b h1 ow pins s σ H Q I h2
 have pb:eQ X body (fun D σ H => ∃ρ fl,ac (bodyF ρ) fl/\zc X H0 ρ fl D σ H):=fun pins s σ H D I ⟨ρ1,fl1,h1,h2⟩=>hb ρ1 fl1 h1 pins s σ H D I h2
 refine BB hp pc pb pins s σ H D0 I ?_
 refine⟨fun m σ' H' => ∃ow' ρ',aL X ow' H' σ' ρ'/\σ'.length=X.N.length/\cj H0 ow' H'/\aY ow H ow' H'/\ac (nO test bodyF m ρ') fl,⟨n0,ow,ρ0,E,hl,B,aY.refl _ _,h⟩,?_⟩
 rintro m σ' H' ⟨ow',ρ',E',hl',B',k',hw⟩
 have q':oR X H0 ow' H' fl D0:=q.keep k'
 cases m with
 | zero=>exact(aq hw).elim
 | succ m =>
  rw[nO]at hw
  obtain⟨b,ht,hw⟩:=aw hw
  refine⟨ow',ρ',b,ht,E',fun H1 s1=>?_⟩
  have k1:aY ow' H' ow' H1:=aY.same s1
  cases b with
  | false =>
   cases aH hw
   exact q' ow' σ' H1 (E'.same s1) hl' k1
  | true =>
   rw[cond_true]at hw
   show if true=true then _ else _
   rw[if_pos rfl]
   refine⟨fun σ2 H2 => ∃ow2 ρ2,aL X ow2 H2 σ2 ρ2/\σ2.length=X.N.length/\cj H0 ow2 H2/\aY ow H ow2 H2/\ac (nO test bodyF m ρ2) fl,fun σ2 H2 z=>⟨m,Nat.lt_succ_self _,z⟩,?_⟩
   obtain⟨f1,hbo,hw⟩:=aw hw
   refine⟨ρ',f1,hbo,ow',E'.same s1,hl',B'.keep k1,?_⟩
   cases f1 with
   | nx ρ2=>exact fun ow2 σ3 H4 a b c=>⟨ow2,ρ2,a,b,(B'.keep k1).keep c,k'.trans (k1.trans c),hw⟩
   | ct ρ2=>exact fun ow2 σ3 H4 a b c=>⟨ow2,ρ2,a,b,(B'.keep k1).keep c,k'.trans (k1.trans c),hw⟩
   | bk ρ2=>cases aH hw;exact fun ow2 σ3 H4 a b c=>q' ow2 σ3 H4 a b (k1.trans c)
   | rt d=>cases aH hw;exact q'
theorem bI{p:D×Nat}(h:ac (aA Φ e it sc ρ) p)(G:aQ Φ X sc):fK X ρ e it p.1 p.2:=let ⟨_,h,hp⟩:=h;Ma e h hp G
theorem Ae(h:iI e=true):(∃a b c d,e=.ListComp a b c d)\/∀(Φ:Fx) (sc:Scope) (ρ:af),aA Φ e false sc ρ=.st:=by
 cases e<;>first|exact .inl ⟨_,_,_,_,rfl⟩|exact .inr fun _ _ _=>rfl|cases h
theorem rH{r:D×Nat}{o:Bool}(G:aQ Φ X sc)(hx:cY sc x=true)(h:ac (aA Φ e false sc ρ) r)(ho:(r.2=0/\o=true)\/(r.2=1/\o=false)) :
  SD X H0 ρ (.Assign [.Name x p] e pos) (.nx (bc ρ x (r.1,o))):=by
 by_cases hc:iI e=true
 ·rcases Ae hc with⟨elt,gens,scope,q,rfl⟩|hno
  rotate_left
  ·rw[hno]at h;exact(aq h).elim
  ·clear hc
   have hsw:∃b,swapsWith (.ListComp elt gens scope q) (some (.Name x p)) pos.line X.env=pure b:=⟨_,rfl⟩
   obtain⟨b,hsw⟩:=hsw
   cases b with
   | false=>exact pj G hx ((bI h G).ed rfl) ho hsw
   | true =>
    obtain⟨l,h,hp⟩:=h
    obtain⟨tg,iter,ifs,rfl⟩:=qY h
    obtain⟨ds,f,k1,a1,a2,a3,a4,a5,a6,a7,a8,a9⟩:=vW (iJ Φ _) (Nat.lt_succ_self _) h hp G
    obtain⟨g1,g2,g3,i,g4⟩:=fN G hx
    rw[a9]
    intro pins s σ H D0 I ⟨ow,E,hl,B,q⟩
    refine EV (D0:=D0) (i:=i) G.calm G.nd a1 a2 a3 a4 a5 a6 a7 a8 I E hsw g4 g1 g3 fun v H1 s1 r1=>?_
    rcases ho with⟨ho,rfl⟩|⟨ho,rfl⟩<;>rw[ho]at r1
    ·obtain⟨ow',E',k'⟩:=rh G.nd hl E s1 g4 g2 r1
     exact q ow' _ H1 E' (by rw[List.length_set];exact hl) k'
    ·exact q ow _ H1 (eY G.nd hl (E.same s1) g4 g2 r1) (by rw[List.length_set];exact hl) (aY.same s1)
 ·exact pj G hx ((bI h G).ed rfl) ho (fi (by simpa using hc))
theorem nW{r:D×Nat}(h:ac (aA Φ e it sc ρ) r):∀a b c p,e ≠ .Slice a b c p:=by
 intro a b c p z;subst z;exact(aq h).elim
theorem tU{f:List D->Rs Fl}(h:ac (qO ρ x f) fl):∃l,ρ x=some (.lst l,true)/\eM x=true/\ac (f l) fl:=by
 unfold qO at h
 split at h
 ·rename_i l e
  split at h
  ·rename_i c
   exact⟨l,e,c,h⟩
  ·exact(aq h).elim
 ·exact(aq h).elim
theorem b0{a b:α}{l:List Prop}(h:ac (.ok a l) b):a=b/\aJ l:=by obtain⟨m,h,hp⟩:=h;cases h;exact⟨rfl,hp⟩
theorem sY{i:D}(h:ac (sZ ρ x i d) fl):(∃l j l',ρ x=some (.lst l,true)/\ar l=true/\eM x=true/\i=.int j/\xB l j d=some l'/\d.lless=true/\fl=.nx (bc ρ x (.lst l',true)))\/∃ks ds k,ρ x=some (.dct ks ds,true)/\oC i=some k/\eM x=true/\d.lless=true/\ks.length<bA/\fl=.nx (bc ρ x (.dct (ky ks k) (eF ks ds k d),true)):=by
 unfold sZ at h
 split at h
 ·rename_i l e
  split at h
  ·split at h
   ·rename_i hn
    split at h
    ·rename_i l' hs
     obtain⟨h9,h1,h2,_⟩:=b0 h
     exact .inl ⟨l,_,l',e,h1,hn,rfl,hs,h2,h9.symm⟩
    ·exact(aq h).elim
   ·exact(aq h).elim
  ·exact(aq h).elim
 ·rename_i ks ds e
  split at h
  ·rename_i k hk
   split at h
   ·rename_i hn
    obtain⟨h9,h1,h2,_⟩:=b0 h
    exact .inr ⟨ks,ds,k,e,hk,hn,h1,h2,h9.symm⟩
   ·exact(aq h).elim
  ·exact(aq h).elim
 ·exact(aq h).elim
theorem HZ(h:ac (pV Φ es e sc ρ) fl)(G:aQ Φ X sc):SD X H0 ρ (.Assign [.Tuple es n p] e pos) fl:=by
 unfold pV at h
 split at h
 ·split at h
  ·rename_i hp
   obtain⟨q,⟨lq,h1,hq⟩,h⟩:=aw h
   split at h
   ·rename_i u v hd
    split at h
    ·rename_i hf
     cases aH h
     obtain⟨n1,_⟩:=ck h1 hq
     have c:=fO _ h1 hq G
     rw[hd]at c
     exact Hl G c hf hp (n1 _ (by simp)) (n1 _ (by simp))
    ·exact(aq h).elim
   ·exact(aq h).elim
  ·exact(aq h).elim
 ·exact(aq h).elim
theorem Kl(h:ac (pY Φ tgs e sc ρ) fl)(G:aQ Φ X sc):SD X H0 ρ (.Assign tgs e pos) fl:=by
 unfold pY at h
 split at h
 ·obtain⟨p,h1,h⟩:=aw h
  unfold qJ at h
  split at h
  ·rename_i hx
   split at h
   ·rename_i ho;cases aH h;exact rH G hx h1 (.inl ⟨ho,rfl⟩)
   ·rename_i ho;cases aH h;exact rH G hx h1 (.inr ⟨ho,rfl⟩)
   ·exact(aq h).elim
  ·exact(aq h).elim
 ·split at h
  ·exact HZ h G
  ·rename_i ht
   have ht:=Bool.eq_false_iff.mpr ht
   obtain⟨p,h1,h⟩:=aw h
   split at h
   ·rename_i ho
    cases aH h
    exact EF G ((bI h1 G).ed rfl) ho ht
   split at h
   ·rename_i ds hd
    split at h
    ·rename_i hf
     split at h
     ·rename_i ρ' hb
      cases aH h
      exact Hj G ((bI h1 G).ed rfl) hd hf hb ht
     ·exact(aq h).elim
    ·exact(aq h).elim
   ·exact(aq h).elim
 ·split at h
  ·rename_i hc
   obtain⟨p,h1,h⟩:=aw h
   obtain⟨q,h2,h⟩:=aw h
   have c2:=(bI h2 G).ed rfl
   rcases sY h with⟨l,j,l',a1,a2,a3,hj,hs,hf,rfl⟩|⟨ks,ds,k,a1,hk,a3,hf,hz,rfl⟩
   ·rw[hj]at c2
    exact Bw a1 ((bI h1 G).ed rfl) c2 a2 hf a3 hs (nW h2)
   ·exact EK a1 ((bI h1 G).ed rfl) c2 hk hf hz a3 (nW h2)
  ·exact(aq h).elim
 ·exact(aq h).elim
theorem qQ{p:D×Nat}{f:Int->R1}{a:D×Nat}(h:ac (j9 p f) a):∃b,p.1=.int b/\ac (f b) a:=by
 obtain⟨l,h,hp⟩:=h
 obtain⟨b,h1,h2⟩:=B8 h
 exact⟨b,h1,l,h2,hp⟩
theorem Kk{t:Expr}{op:Operator}(h:ac (pX Φ t op e sc ρ) fl)(G:aQ Φ X sc):SD X H0 ρ (.AugAssign t op e pos) fl:=by
 unfold pX at h
 split at h
 ·split at h
  ·rename_i hx
   split at h
   ·rename_i p hp
    obtain⟨r,h1,h⟩:=aw h
    cases aH h
    obtain⟨a,ha,h3⟩:=qQ h1
    obtain⟨q,h2,h4⟩:=aw h3
    obtain⟨b,hb,h5⟩:=qQ h4
    obtain⟨l,h9,hpl⟩:=h5
    have c:=(bI h2 G).ed rfl
    rw[hb]at c
    obtain⟨p1,p2⟩:=p
    have ha:p1=.int a:=ha
    subst ha
    exact Ho G hx hp c h9 hpl
   ·exact(aq h).elim
  ·exact(aq h).elim
 ·exact(aq h).elim
theorem Jb(h:ac (pW Φ e sc ρ) fl)(G:aQ Φ X sc):SD X H0 ρ (.Expr e pos) fl:=by
 unfold pW at h
 split at h
 ·split at h
  ·rename_i hln
   obtain⟨p,⟨lp,h1,hp1⟩,h⟩:=aw h
   split at h
   ·rename_i M hM
    obtain⟨l,a1,a3,h⟩:=tU h
    obtain⟨l',⟨o,h2,hp2⟩,h⟩:=aw h
    cases aH h
    obtain⟨n1,n2⟩:=ck h1 hp1
    exact Hm G.calm (G.mtt _ M hM) a1 (fO _ h1 hp1 G) n1 n2 a3 hln h2 hp2
   ·exact(aq h).elim
  ·exact(aq h).elim
 ·obtain⟨p,h1,h⟩:=aw h
  cases aH h
  exact EJ ((bI h1 G).ed rfl) ⟨_,_,_,_,_,rfl⟩
 ·exact(aq h).elim
structure Is(Φ:Fx)(n:Nat):Prop where
 s:∀(st:Stmt) {sc:Scope} {ρ:af} {fl:Fl} {X:Cx} {H0:Hp},sizeOf st<n->ac (dJ Φ st sc ρ) fl->aQ Φ X sc->PassesOwn (model X.prog X.w) X.A X.env X.xe->SD X H0 ρ st fl
 ss:∀(st:List Stmt) {sc:Scope} {ρ:af} {fl:Fl} {X:Cx} {H0:Hp},sizeOf st<n->ac (aC Φ st sc ρ) fl->aQ Φ X sc->PassesOwn (model X.prog X.w) X.A X.env X.xe->fo X H0 ρ st fl
theorem gJ{p:D×Nat}{f:Bool->Rs α}{a:α}(h:ac (ji p f) a):∃b,p.1=.bl b/\ac (f b) a:=by
 obtain⟨l,h,hp⟩:=h
 obtain⟨b,h1,h2⟩:=nC h
 exact⟨b,h1,l,h2,hp⟩
theorem L8(I:Is Φ n)(st:Stmt)(hs:sizeOf st<n+1)(h:ac (dJ Φ st sc ρ) fl)(G:aQ Φ X sc)(hp:PassesOwn (model X.prog X.w) X.A X.env X.xe):SD X H0 ρ st fl:=by
 cases st with
 | Return e p =>
  cases e with
  | none=>cases aH h;exact EB
  | some e =>
   obtain⟨p,h1,h⟩:=aw (show ac (Rs.bnd _ _) fl from h)
   unfold xC at h
   split at h
   ·rename_i hk
    cases aH h
    unfold tJ at h1
    cases hn:sB e with
    | true=>rw[hn]at h1;exact EC ((bI h1 G).ed rfl) hk
    | false=>rw[hn]at h1;exact tG ((bI h1 G).ed rfl) hk
   ·exact(aq h).elim
 | Pass p=>cases aH h;exact EE
 | Break p=>cases aH h;exact Bx
 | Continue p=>cases aH h;exact EL
 | Assign tgs e p=>exact Kl h G
 | AugAssign t op e p=>exact Kk h G
 | Expr e p=>exact Jb h G
 | If c a b p =>
  obtain⟨p,h1,h⟩:=aw (show ac (Rs.bnd _ _) fl from h)
  obtain⟨t,ht,h⟩:=gJ h
  refine Dr ((bI h1 G).td rfl t ht) ?_
  cases t with
  | true=>rw[if_pos rfl];exact I.ss _ (bf (by simp<;>omega) hs) h G hp
  | false=>rw[if_neg Bool.false_ne_true];exact I.ss _ (bf (by simp<;>omega) hs) h G hp
 | For tg it body els p =>
  rw[re]at h
  split at h
  ·rename_i he
   have he:=List.isEmpty_iff.mp he
   subst he
   obtain⟨p,h1,h⟩:=aw h
   split at h
   ·rename_i ds hd
    split at h
    ·rename_i hk
     obtain⟨lq,h1',_⟩:=id h1
     exact Hn hp G.calm ((bI h1 G).ie rfl _ ds hd hk.2) hk.1 (fun d ρ ρ' hb=>pR G hb) (fun ρ1 f1 h2=>I.ss _ (bf (by simp<;>omega) hs) h2 G hp) h (jf h1')
    ·exact(aq h).elim
   ·exact(aq h).elim
  ·exact(aq h).elim
 | While c body els p =>
  rw[uH]at h
  split at h
  ·rename_i he
   have he:=List.isEmpty_iff.mp he
   subst he
   refine Bv hp (fun ρ b hb=>?_) (fun ρ1 f1 h2=>I.ss _ (bf (by simp<;>omega) hs) h2 G hp) h
   obtain⟨p,h1,hb⟩:=aw hb
   obtain⟨t,ht,hb⟩:=gJ hb
   cases aH hb
   exact(bI h1 G).td rfl _ ht
  ·exact(aq h).elim
 | _=>exact(aq h).elim
theorem Ja(I:Is Φ n)(ss:List Stmt)(hs:sizeOf ss<n+1)(h:ac (aC Φ ss sc ρ) fl)(G:aQ Φ X sc)(hp:PassesOwn (model X.prog X.w) X.A X.env X.xe):fo X H0 ρ ss fl:=by
 cases ss with
 | nil=>cases aH h;exact Eu
 | cons s ss =>
  obtain⟨f1,h1,h⟩:=aw (show ac (Rs.bnd _ _) fl from h)
  have c:=I.s s (H0:=H0) (bf (by simp<;>omega) hs) h1 G hp
  cases f1 with
  | nx ρ'=>exact iz c (I.ss ss (bf (by simp<;>omega) hs) h G hp)
  | bk ρ'=>cases aH h;exact iw c (fun _ z=>(by cases z))
  | ct ρ'=>cases aH h;exact iw c (fun _ z=>(by cases z))
  | rt d=>cases aH h;exact iw c (fun _ z=>(by cases z))
theorem jH(Φ:Fx):∀n,Is Φ n
 | 0=>⟨fun _ _ _ _ _ _ h=>absurd h (Nat.not_lt_zero _),fun _ _ _ _ _ _ h=>absurd h (Nat.not_lt_zero _)⟩
 | n+1=>⟨fun e _ _ _ _ _ hs h G hp=>L8 (jH Φ n) e hs h G hp,fun e _ _ _ _ _ hs h G hp=>Ja (jH Φ n) e hs h G hp⟩
theorem jK(ss:List Stmt)(h:ac (aC Φ ss sc ρ) fl)(G:aQ Φ X sc)(hp:PassesOwn (model X.prog X.w) X.A X.env X.xe):fo X H0 ρ ss fl:=(jH Φ _).ss ss (Nat.lt_succ_self _) h G hp
def az(sc:Scope):List Str:=(sc.names.filter fun y=>y.2 == .local || y.2 == .cell).map (·.1)
def cy(P:Program)(w:World)(K:W.Frag)(mg:Str->Option Value)(base:Heap)(k:Nat)(g:Str)(F:List D->Rs D):Prop :=
 ∃f fd ps,bH P w K mg base dF k f fd ps (jw K F)/\mg g=some (.ref f)/\W.keepIn K (.ref f)=true/\bY K fd ps []/\(g==("__debug__" : Str))=false
theorem cy.mono{P:Program}(h:cy P w K mg base j g F)(hjk:j<=k):cy P w K mg base k g F :=
 let ⟨f,fd,ps,h1,h2⟩:=h;⟨f,fd,ps,h1.mono hjk,h2⟩
def Ec(P:Program)(w:World)(K:W.Frag)(mg:Str->Option Value)(base:Heap)(k:Nat)(g:Str)(F:List D->Rs D):Prop :=
 ∃j C f fd ps,j+1<=k/\(∀ds r l,F ds=.ok r l->r.lless=true)/\Mk K C f/\bH P w K mg base dF j f fd ps (MA K g F)/\mg g=some (.ref C)/\W.nsIn K mainGlobals g=some (some (.ref C))/\fW K C/\bY K fd ps []/\(g==("__debug__" : Str))=false
theorem Ec.mono{P:Program}(h:Ec P w K mg base j g F)(hjk:j<=k):Ec P w K mg base k g F :=
 let ⟨i,C,f,fd,ps,h0,h1⟩:=h;⟨i,C,f,fd,ps,Nat.le_trans h0 hjk,h1⟩
def MJ(P:Program)(w:World)(K:W.Frag)(mg:Str->Option Value)(base:Heap)(k:Nat)(g:Str)(F:List D->Rs D):Prop:=cy P w K mg base k g F\/Ec P w K mg base k g F
def sI(P:Program)(w:World)(K:W.Frag)(mg:Str->Option Value)(base:Heap)(k:Nat)(n m:Str)(F:List D->Rs D):Prop :=
 ∃C f fd ps,W.nsIn K mainGlobals n=some (some (.ref C))/\fW K C/\vn K C m f/\bH P w K mg base dF k f fd ps (jw K F)/\bY K fd ps []
theorem sI.mono{P:Program}{n:Str}(h:sI P w K mg base j n m F)(hjk:j<=k):sI P w K mg base k n m F :=
 let ⟨C,f,fd,ps,h1,h2,h3,h4,h5⟩:=h;⟨C,f,fd,ps,h1,h2,h3,h4.mono hjk,h5⟩
theorem u6:∀{ps:List Str} {ds:List D} {x:Str} {d:D} {o:Bool},cD ps ds x=some (d,o)->o=false/\∃i:Nat,ps[i]?=some x/\ds[i]?=some d
 | [],ds,x,d,o,h=>by cases ds<;>cases h
 | p::ps,[],x,d,o,h=>by cases h
 | p::ps,y::ds,x,d,o,h=>by
  replace h:(if x=p then some (y,false)else cD ps ds x)=some (d,o):=h
  by_cases e:x=p
  ·rw[if_pos e]at h
   cases h;subst e;exact⟨rfl,0,rfl,rfl⟩
  ·rw[if_neg e]at h
   obtain⟨h1,i,h2,h3⟩:=u6 h
   exact⟨h1,i+1,by simpa using h2,by simpa using h3⟩
structure sh(P:Program)(w:World)(K:W.Frag)(mg:Str->Option Value)(base:Heap)(k:Nat)(Φ:Fx):Prop where
 fn:∀g F,Φ.fn g=some F->MJ P w K mg base k g F
 con:∀x d,Φ.con x=some d->∃v u,mg x=some u/\aU v u/\∀H P,ah K H P d v
 blt:∀f B,Φ.blt f=some B->fb f B
 itr:∀f B,Φ.itr f=some B->kF f B
 mth:∀m M,Φ.mth m=some M->yF m M
 mtt:∀m M,Φ.mtt m=some M->kE m M
 slf:sH Φ.slf
 fld:∀n f,Φ.fld n f=true->∀C,W.nsIn K mainGlobals n=some (some (.ref C))->qz K C f
 omt:∀n m F,Φ.omt n m=some F->sI P w K mg base k n m F
 bl:∀n∈iN,mg n=none
def eO(Φ:Fx)(sc:Scope)(ps:List Str)(body:List Stmt)(F:List D->Rs D):Prop:=∀ds r,ac (F ds) r->ac (bZ Φ sc ps body ds) r
theorem eO.self:eO Φ sc ps body (bZ Φ sc ps body):=fun _ _ h=>h
theorem jI{P:Program}{f:Addr}{E:XK}
  (S:aM (az (aa st)) ps (aa st)) (hΦ:sh P w K mg base k Φ) (hr:bL k (A.deeper (envOfC qual (aa st) s.heap.objs.size f cdv))) :
  aQ Φ (g7 dF P w K mg base (az (aa st)) qual (aa st) f cdv A outer s H E).nox (aa st):=by
 have hun:=hr.un
 refine⟨rfl,S.nd,fun x hx=>hx,fun x hx=>hx,fun x hx=>hx,fun x hx=>hx,fun g' F' hg=>?_,hΦ.con,hΦ.blt,hΦ.itr,hΦ.mth,hΦ.mtt,hΦ.slf,hΦ.fld,fun n m F hF=>?_,hΦ.bl,?_,fun x hx=>?_,fun x _=>rfl⟩
 ·rcases hΦ.fn g' F' hg with z|z
  ·obtain⟨f',fd',ps',a1,a2,a3,a4,a5⟩:=z
   exact .inl ⟨k,f',fd',ps',a1,hr,a2,a3,a4,a5⟩
  ·obtain⟨j,C,f',fd',ps',a0,a1,a2,a3,a4⟩:=z
   exact .inr ⟨j,C,f',fd',ps',a1,a2,a3,hr.mono a0,a4⟩
 ·obtain⟨C,f',fd',ps',a1,a2,a3,a4,a5⟩:=hΦ.omt n m F hF
  exact⟨k,C,f',fd',ps',a1,a2,a3,a4,hr,a5⟩
 ·show(A.deeper _).units+70<cLine
  omega
 ·show x∈az (aa st)
  unfold az
  unfold cY at hx
  rw[Bool.or_eq_true]at hx
  rcases hx with hx|hx
  ·have hx:(aa st).names.lookup x=some .local:=by simpa using hx
   exact List.mem_map.mpr ⟨(x,.local),List.mem_filter.mpr ⟨PySem.mem_of_lookup hx,by simp⟩,rfl⟩
  ·have hx:(aa st).names.lookup x=some .cell:=by simpa using hx
   exact List.mem_map.mpr ⟨(x,.cell),List.mem_filter.mpr ⟨PySem.mem_of_lookup hx,by simp⟩,rfl⟩
theorem lZ{P:Program}{f:Addr}{E:XK}
  (S:aM (az (aa st)) ps (aa st)) (h1:ag K H (fun _ _=>True) ds vs) (hl:ds.length=ps.length) :
  aL (g7 dF P w K mg base (az (aa st)) qual (aa st) f cdv A outer s H E).nox (fun _=>none) H (start (az (aa st)) vs) (cD ps ds)/\(start (az (aa st)) vs).length=(az (aa st)).length:=by
 have hpl:ps.length<=(az (aa st)).length:=by have:=congrArg List.length S.pre;rw[List.length_take]at this;omega
 have hvl:vs.length=ps.length:=by rw[<- h1.length];exact hl
 refine⟨⟨fun x d o hx=>?_,fun a ha=>absurd rfl ha⟩,by unfold L2.start;rw[List.length_append,List.length_map,List.length_replicate];omega⟩
 obtain⟨rfl,i,i1,i2⟩:=u6 hx
 obtain⟨v,i3,i4⟩:=h1.get i2
 have hi:i<ps.length:=(List.getElem?_eq_some_iff.mp i1).1
 refine⟨i,v,?_,?_,?_,i4.imp fun a b _ _=>rfl⟩
 ·show(az (aa st))[i]?=some x
  rw[<- S.pre,List.getElem?_take_of_lt hi]at i1
  exact i1
 ·rcases S.par x (List.mem_of_getElem? i1)with z|z
  ·exact .inl z
  ·exact .inr (.inl z)
 ·unfold L2.start
  rw[List.getElem?_append_left (by rw[List.length_map];omega),List.getElem?_map,i3];rfl
theorem FS{P:Program}{f:Addr}(Fn:jQ K g qual st f fd)
  (S:aM (az (aa st)) ps (aa st)) (hΦ:sh P w K mg base k Φ)
  (hrun:eO Φ (aa st) ps (ak st) F):bH P w K mg base dF (k+1) f fd ps (jw K F):=by
 refine Fn.ok S (fun vs H Q E h=>?_) (fun cdv A outer s H vs Q E hr h=>?_)
 ·obtain⟨ds,r,l,h1,h2,hp,_⟩:=h
  have:=hrun ds r ⟨l,h2,hp⟩
  unfold bZ at this
  split at this
  ·rename_i hl;rw[<- h1.length];exact hl
  ·exact(aq this).elim
 ·obtain⟨ds,r,l,h1,h2,hp,q⟩:=h
  have hr1:=hrun ds r ⟨l,h2,hp⟩
  unfold bZ at hr1
  split at hr1
  ·rename_i hl
   have G:=jI (outer:=outer) (H:=H) (E:=E) S hΦ hr
   obtain⟨E0,hsl⟩:=lZ (P:=P) (w:=w) (mg:=mg) (base:=base) (qual:=qual) (f:=f) (cdv:=cdv) (A:=A) (outer:=outer) (s:=s) (E:=E) S h1 hl
   have B0:cj H (fun _=>none) H:=fun a o h=>⟨h,rfl⟩
   obtain⟨fl,hx,hr1⟩:=aw hr1
   cases fl with
   | rt d =>
    cases aH hr1
    exact⟨_,jK _ (H0:=H) hx G PassesOwn.never,fun _=>none,E0,hsl,B0,fun v H' sm rp=>q v H' sm rp⟩
   | nx ρ' =>
    cases aH hr1
    exact⟨_,jK _ (H0:=H) hx G PassesOwn.never,fun _=>none,E0,hsl,B0,fun ow' σ' H' _ _ kp=>q .non H' (fun a o h=>kp.keep a o h (.inr rfl)) (by rw[ah])⟩
   | bk ρ'=>exact(aq hr1).elim
   | ct ρ'=>exact(aq hr1).elim
  ·exact(aq hr1).elim
mutual
def D.noObj:D->Bool
 | .obj _ _ _=>false
 | .tup l=>jD l
 | .lst l=>jD l
 | .dct _ l=>jD l
 | _=>true
def jD:List D->Bool
 | []=>true
 | d::l=>d.noObj&&jD l
end
mutual
theorem ah.off{K:W.Frag}{P:be}{H H':Hp}{x C dx:Addr}{fs:List (Str×V)}(hx:H x=some (.ins C dx fs))(s:∀a o,a≠x->H a=some o->H' a=some o):∀{d:D} {v:V},d.noObj=true->ah K H P d v->ah K H' P d v
 | .non,v,_,h=>by rw[ah]at h⊢;exact h
 | .bl b,v,_,h=>by rw[ah]at h⊢;exact h
 | .int i,v,_,h=>by rw[ah]at h⊢;exact h
 | .str x,v,_,h=>by rw[ah]at h⊢;exact h
 | .dct ks es,v,f,h=>by
  rw[ah]at h⊢
  obtain⟨f0,e0,a,vs,e,h1,p,r⟩:=h
  exact⟨f0,e0,a,vs,e,s _ _ (i8 h1 hx (fun z=>nomatch z)) h1,p,ag.off hx s (by rw[D.noObj]at f;exact f) r⟩
 | .typ n,v,_,h=>by rw[ah]at h⊢;exact h
 | .sn n,v,_,h=>by
  rw[ah]at h⊢
  obtain⟨a,S,e,h⟩:=h
  exact⟨a,S,e,s _ _ (i8 h hx (fun z=>nomatch z)) h⟩
 | .obj n ns ds,v,f,h=>by rw[D.noObj]at f;cases f
 | .cls n,v,_,h=>by rw[ah]at h⊢;exact h
 | .xc n p,v,_,h=>by rw[ah]at h⊢;exact h.mono (fun a C od z=>s _ _ (i8 z hx (fun z=>nomatch z)) z) (fun a fs z=>s _ _ (i8 z hx (fun z=>nomatch z)) z)
 | .tup l,v,f,h=>by
  rw[ah]at h⊢
  obtain⟨a,vs,e,h,r⟩:=h
  refine⟨a,vs,e,?_,ag.off hx s (by rw[D.noObj]at f;exact f) r⟩
  rcases h with(h|⟨o,h⟩)|h
  ·exact .inl (.inl (s _ _ (i8 h hx (fun z=>nomatch z)) h))
  ·exact .inl (.inr ⟨o,s _ _ (i8 h hx (fun z=>nomatch z)) h⟩)
  ·exact .inr h
 | .lst l,v,f,h=>by
  rw[ah]at h⊢
  obtain⟨a,vs,b,e,h,p,r⟩:=h
  refine⟨a,vs,b,e,?_,p,ag.off hx s (by rw[D.noObj]at f;exact f) r⟩
  cases b with
  | true=>exact s _ _ (i8 h hx (fun z=>nomatch z)) h
  | false =>
   rcases h with⟨o,h⟩|h
   ·exact .inl ⟨o,s _ _ (i8 h hx (fun z=>nomatch z)) h⟩
   ·exact .inr h
theorem ag.off{K:W.Frag}{P:be}{H H':Hp}{x C dx:Addr}{fs:List (Str×V)}(hx:H x=some (.ins C dx fs))(s:∀a o,a≠x->H a=some o->H' a=some o):∀{l:List D} {vs:List V},jD l=true->ag K H P l vs->ag K H' P l vs
 | [],vs,_,h=>by rw[ag]at h⊢;exact h
 | d::l,vs,f,h=>by
  rw[ag]at h⊢
  rw[jD,Bool.and_eq_true]at f
  obtain⟨v,r,e,h1,h2⟩:=h
  exact⟨v,r,e,ah.off hx s f.1 h1,ag.off hx s f.2 h2⟩
end
def fv(s:Stmt)(j:Nat):Stmt:=(match s with | .ClassDef _ _ _ b _ _ _ _ _ _ _=>b|_=>[]).getD j (.Pass ⟨0,0,0,0⟩)
theorem bx{P:Program}{f:Addr}(Fn:jQ K g qual st f fd)
  (S:aM (az (aa st)) ps (aa st)) (hm:mg g=some (.ref f)) (hb:bY K fd ps []) (hd:(g==("__debug__" : Str))=false)
  (hΦ:sh P w K mg base k Φ) (hrun:eO Φ (aa st) ps (ak st) F):cy P w K mg base (k+1) g F :=
 ⟨f,fd,ps,FS Fn S hΦ hrun,hm,Fn.kp,hb,hd⟩
theorem al{Pr:α->Prop}{x:α}{l:List α}(h1:Pr x)(h2:∀y∈l,Pr y):∀y∈x::l,Pr y:=fun y hy=>(List.mem_cons.mp hy).elim (fun e=>e ▸ h1) (h2 y)
theorem av{α:Type}{Pr:α->Prop}:∀y∈([]:List α),Pr y:=fun y hy=>by cases hy
theorem IT{a:Addr}{ns:List Int}(hO:yD H)(hS:cf K H a (ns.map V.int))(h:ac (F [.lst (ns.map D.int)]) (.bl true)):jw K F [.ref a] H (fun v _=>v=.bl true) fun _ _ _=>False:=by
 obtain⟨l,h,hp⟩:=h
 refine⟨[.lst (ns.map D.int)],.bl true,l,ag.one ?_,h,hp,fun v H' _ r=>by rw[ah]at r;exact r⟩
 rw[ah]
 rcases hS with(hS|hS)|hS
 ·rcases hO a with z|⟨o,xs,z⟩
  ·rw[z]at hS;cases hS
  ·rw[z]at hS;cases hS
 ·exact⟨a,_,false,rfl,.inl hS,True.intro,ag.ofInts⟩
 ·exact⟨a,_,false,rfl,.inr hS,True.intro,ag.ofInts⟩
abbrev Eg(P:Program)(w:World)(K:W.Frag)(mg:Str->Option Value)(base:Heap)(k:Nat):Str×(List D->Rs D)->Prop:=fun p=>MJ P w K mg base k p.1 p.2
abbrev eS(mg:Str->Option Value)(K:W.Frag):Str×D->Prop:=fun p => ∃v u,mg p.1=some u/\aU v u/\∀H P,ah K H P p.2 v
abbrev ju:Str×(List D->R1)->Prop:=fun p=>fb p.1 p.2
abbrev rC:Str×(List D->Nat->R1)->Prop:=fun p=>kF p.1 p.2
abbrev Ky:Str×(D->List D->R1)->Prop:=fun p=>yF p.1 p.2
abbrev yE:Str×(List D->List D->Nat->Rs (List D))->Prop:=fun p=>kE p.1 p.2
theorem aZ{P:Program}{l:List (Str×(List D->Rs D))}{c:List (Str×D)}{b:List (Str×(List D->R1))}{i:List (Str×(List D->Nat->R1))}{m:List (Str×(D->List D->R1))}{t:List (Str×(List D->List D->Nat->Rs (List D)))}{sf:D->Option Int->Option Int->R1}
  (hl:∀p∈l,Eg P w K mg base k p) (hc:∀p∈c,eS mg K p) (hb:∀p∈b,ju p) (hi:∀p∈i,rC p) (hm:∀p∈m,Ky p) (ht:∀p∈t,yE p) (hs:sH sf) (hn:∀n∈iN,mg n=none):sh P w K mg base k (Tb l c b i m t sf) :=
 ⟨fun g F h=>hl (g,F) (PySem.mem_of_lookup h),fun x d h=>hc (x,d) (PySem.mem_of_lookup h),fun f B h=>hb (f,B) (PySem.mem_of_lookup h),fun f B h=>hi (f,B) (PySem.mem_of_lookup h),fun f B h=>hm (f,B) (PySem.mem_of_lookup h),fun f B h=>ht (f,B) (PySem.mem_of_lookup h),hs,(fun _ _ h=>by cases h),(fun _ _ _ h=>by cases h),hn⟩
theorem df{c:Addr}{dd:Option Addr}{ss:Array (Option Value)}{nn:Nat}{its:Array Value}{ns:List Int}(hm:mg x=some (.ref c))(hl:K.lookup c=some ⟨.type "tuple", dd,.seq its nn,ss⟩)(hz:its.size<=sizeLine)(hv:aK (ns.map V.int) its.toList) :
  eS mg K (x,.tup (ns.map .int)):=⟨.ref c,.ref c,hm,rfl,fun H P=>by rw[ah];exact⟨c,_,rfl,.inr ⟨_,its,nn,hl,rfl,rfl,hz,hv⟩,ag.ofInts⟩⟩
open AutoSeq1 (wpAny_loadPart')
theorem Jn(tu:Addr)(vs:Array Value)(n:Nat)(dc:Option Addr)(so:Array (Option Value)) :
  Meets (Builtin.«enumerate.__new__» ⟨[.type "enumerate", .ref tu],[]⟩) (fun _ R st=>st.heap.get? tu=some { cls:=.type "tuple", dict:=dc,data:=.seq vs n,slots:=so } /\
   R (.ok (.ret (.ref (st.heap.push { cls:=.type "tuple_iterator", data:=.fields #[.ref tu,.int 0 0] }).objs.size)))
    { st with heap:=(st.heap.push { cls:=.type "tuple_iterator", data:=.fields #[.ref tu,.int 0 0] }).push { cls:=.type "enumerate", data:=.fields #[.none,.bool false,.ref st.heap.objs.size,rawInt 0,.none,.none] } }) :=
 .of_wp fun pg wd AA RR st hh=>by
  obtain⟨hp0,gg,dd,tk0,oo⟩:=st;obtain⟨htu,hh⟩:=hh
  have hsub0:=sub_enumerate
  have hTT:Heap.IsTuple (Shared.heap ⟨hp0,gg,dd,tk0,oo⟩) tu vs:=⟨_,htu,rfl,n,rfl⟩
  wp_walk using wpAny_loadPart' htu
  refine wpAny_stack_any fun stk0=>wpAny_pure ?_
  split
  ·rename_i c0 _ _ _ _ _
   cases (c0==Value.type "enumerate")
   ·wp_walk using wpAny_loadPart' htu,wpAny_pyIter_tuple hTT
    exact⟨_,rfl,hh⟩
   ·wp_walk using wpAny_loadPart' htu,wpAny_pyIter_tuple hTT
    exact⟨_,rfl,hh⟩
  ·wp_walk using wpAny_loadPart' htu,wpAny_pyIter_tuple hTT
   exact⟨_,rfl,hh⟩
section
variable{prog:Program}{w:World}{A:Around}{E:Value->Shared->Prop}{s:Shared}
theorem Gc{vs:Array Value}(hT:s.heap.IsTuple tu vs)
  (go:∀h1,IsEnum h1 (s.heap.objs.size+1) s.heap.objs.size 0 .none->h1.IsTupleIter s.heap.objs.size tu 0->h1.objs.size=s.heap.objs.size+2->(∀b o,s.heap.get? b=some o->h1.get? b=some o)->Q (.ref (s.heap.objs.size+1)) { s with heap:=h1 }) :
  wpAny (model prog w) A (call (.type "enumerate") [.ref tu]) Q E s:=by
 obtain⟨⟨cc,dc,dt,so⟩,htu,hcc,n,hdd⟩:=hT
 replace hcc:cc=.type "tuple" := hcc
 replace hdd:dt=.seq vs n:=hdd
 subst hcc hdd
 refine callType_new F.called_enumerate (by decide) (F.typeCall_enumerate_1 _) (F.newCall_enumerate_1 _) (fun ob=>F.args_object_init_2 ob _) F.entry_enumerate_new (Jn tu vs n dc so) ⟨htu,?_⟩
 have sz:(s.heap.push { cls:=.type "tuple_iterator", data:=.fields #[.ref tu,.int 0 0] }).objs.size=s.heap.objs.size+1:=Heap.size_push ..
 show _/\_
 rw[sz]
 have isE:IsEnum ((s.heap.push { cls:=.type "tuple_iterator", data:=.fields #[.ref tu,.int 0 0] }).push { cls:=.type "enumerate", data:=.fields #[.none,.bool false,.ref s.heap.objs.size,rawInt 0,.none,.none] }) (s.heap.objs.size+1) s.heap.objs.size 0 .none:=by
  have q:=Heap.get?_push_size (s.heap.push { cls:=.type "tuple_iterator", data:=.fields #[.ref tu,.int 0 0] }) (o:={ cls:=.type "enumerate", data:=.fields #[.none,.bool false,.ref s.heap.objs.size,rawInt 0,.none,.none] }) rfl
  rw[sz]at q;exact q
 refine⟨⟨_,isE,rfl⟩,go _ isE ⟨_,Heap.get?_push_of_some _ (Heap.get?_push_size _ rfl),rfl,rfl⟩ (by rw[Heap.size_push,sz]) fun b o z=>Heap.get?_push_of_some _ (Heap.get?_push_of_some _ z)⟩
theorem vS{it:Addr}{vs:Array Value}{x:Value}(hIt:s.heap.IsTupleIter it tu i)(hT:s.heap.IsTuple tu vs)(hx:vs[i]?=some x)
  (go:∀h1,h1.IsTupleIter it tu (i+1)->Heap.SameBut it s.heap h1->Q x { s with heap:=h1 }):wpAny (model prog w) A (Builtin.SmallTypes.nextOf (.ref it)) Q E s:=by
 have key:=wpAny_pyNext_tuple_item (prog:=prog) (w:=w) (A:=A) (E:=E) (Q:=fun r s1 => ∃v,r=some v/\Q v s1) hIt hT hx (fun h1 a b=>⟨x,rfl,go h1 a b⟩)
 obtain⟨o,ho,hc,hd⟩:=id hIt
 obtain⟨ot,hot,_,nt,hdt⟩:=hT
 unfold Builtin.SmallTypes.nextOf
 refine wpAny_bind (wpAny_callSpecial?_slot (name:=Str.ofString "__next__") hIt.typeIs F.slot_tuple_iterator_next (wpAny_call_entry F.slot_tuple_iterator_next hIt.typeIs F.entry_tuple_iterator_next ?_ (F.args_tuple_iterator_next_1 _)))
 show wpAny _ _ (field (.ref it) 0 >>= _) _ _ s
 refine wpAny_bind (wpAny_field ho hd (x:=.ref tu) rfl ?_)
 show wpAny _ _ (if (Value.ref tu==Value.none)=true then _ else _) _ _ s
 rw[if_neg (show ¬ ((Value.ref tu==Value.none)=true)from Bool.false_ne_true)]
 show wpAny _ _ (field (.ref it) 1 >>= _) _ _ s
 refine wpAny_bind (wpAny_field ho hd (x:=Value.int (i:Int) 0) rfl ?_)
 show wpAny _ _ (seqItems? (.ref tu) >>= _) _ _ s
 refine wpAny_bind (wpAny_seqItems hot hdt ?_)
 simp only[Int.toNat_natCast,hx]
 refine wpAny_bind (wpAny_setField ho hd (by simp) (wpAny_pure ⟨x,rfl,wpAny_pure (go _ ?_ (Heap.SameBut.update ..))⟩))
 refine⟨_,Heap.get?_update_self _ ho (Obj.isFreed_of_fields (Obj.data_mapFields hd _)),(Obj.cls_mapFields ..).trans hc,?_⟩
 rw[Obj.data_mapFields hd];simp[rawInt]
theorem za{it:Addr}{vs:Array Value}(hh:A.handled=none)(hIt:s.heap.IsTupleIter it tu i)(hT:s.heap.IsTuple tu vs)(hx:vs[i]?=none)
  (go:∀h1 x,Heap.ExtBut it s.heap h1->(∃o,h1.get? x=some o/\o.cls=.type "StopIteration")->E (.ref x) { s with heap:=h1 }):wpAny (model prog w) A (Builtin.SmallTypes.nextOf (.ref it)) Q E s:=by
 obtain⟨o,ho,hc,hd⟩:=id hIt
 obtain⟨ot,hot,_,nt,hdt⟩:=hT
 unfold Builtin.SmallTypes.nextOf
 refine wpAny_bind (wpAny_callSpecial?_slot (name:=Str.ofString "__next__") hIt.typeIs F.slot_tuple_iterator_next (wpAny_call_entry F.slot_tuple_iterator_next hIt.typeIs F.entry_tuple_iterator_next ?_ (F.args_tuple_iterator_next_1 _)))
 show wpAny _ _ (field (.ref it) 0 >>= _) _ _ s
 refine wpAny_bind (wpAny_field ho hd (x:=.ref tu) rfl ?_)
 show wpAny _ _ (if (Value.ref tu==Value.none)=true then _ else _) _ _ s
 rw[if_neg (show ¬ ((Value.ref tu==Value.none)=true)from Bool.false_ne_true)]
 show wpAny _ _ (field (.ref it) 1 >>= _) _ _ s
 refine wpAny_bind (wpAny_field ho hd (x:=Value.int (i:Int) 0) rfl ?_)
 show wpAny _ _ (seqItems? (.ref tu) >>= _) _ _ s
 refine wpAny_bind (wpAny_seqItems hot hdt ?_)
 simp only[Int.toNat_natCast,hx]
 refine wpAny_bind (wpAny_rule (wpAny_bind (wpAny_setField ho hd (by simp) ?_)))
 show wpAny _ _ (newExc (.type "StopIteration") [] >>= _) _ _ _
 refine wpAny_bind ?_
 simp only[newExc,newTuple]
 refine wpAny_bind (wpAny_newObj_type ?_ (by size_fits))
 refine wpAny_bind (m:=firstArgMember _ _) (wpAny_of_eq (a:=Value.none) (by first|rfl|(simp only[firstArgMember]<;>rfl)) ?_)
 refine wpAny_newObj_type ?_ (by size_fits)
 simp only[raiseNew]
 refine wpAny_bind (wpAny_handled ?_)
 first|rw[show A.in1.handled=none from hh]|rw[hh]
 refine wpAny_bind (wpAny_pure (wpAny_throw ?_))
 exact go _ _ (((Heap.SameBut.update ..).extBut.push _).push _) ⟨_,Heap.get?_push_size _ rfl,rfl⟩
theorem wG{e it:Addr}{x:Value}{Kn:Heap->Prop}(isE:IsEnum s.heap e it i old)(hne:e≠it)
  (stay:∀h1 h2:Heap,Kn h1->(∀o,h1.get? it=some o->h2.get? it=some o)->Kn h2)
  (inner:∀(Q1:Value->Shared->Prop),(∀h1,Kn h1->Heap.SameBut it s.heap h1->Q1 x { s with heap:=h1 })->wpAny (model prog w) A.in1 (Builtin.SmallTypes.nextOf (.ref it)) Q1 E s)
  (go:∀h1,IsEnumOut h1 e it ((i:Int)+1) x s.heap.objs.size->Kn h1->h1.get? s.heap.objs.size=some { cls:=.type "tuple", data:=.seq #[.int i s.toks,x] }->(∀b o,b≠e->b≠it->s.heap.get? b=some o->h1.get? b=some o)->Q (.ref s.heap.objs.size) { s with heap:=h1,toks:=s.toks+1 }) :
  wpAny (model prog w) A.in1 (Builtin.«enumerate.__next__» ⟨[.ref e],[]⟩) (fun fin s' => ∃v,fin=.done (.ret v)/\Q v s') E s:=by
 obtain⟨h0,gg,dd,t0,oo⟩:=s
 have elt:e<h0.objs.size:=Heap.lt_size isE
 show wpAny _ _ (field (.ref e) 2 >>= _) _ _ _
 refine wpAny_bind (wpAny_field isE rfl (x:=Value.ref it) rfl (wpAny_bind (inner _ fun h1 k1 b1=>?_)))
 have b1':Heap.SameBut it h0 h1:=b1
 have E1:IsEnum h1 e it i old:=(b1'.2 e hne).trans isE
 show wpAny _ _ (field (.ref e) 3 >>= _) _ _ ⟨h1,gg,dd,t0,oo⟩
 refine wpAny_bind (wpAny_field E1 rfl (x:=rawInt (i:Int)) rfl ?_)
 show wpAny _ _ (field (.ref e) 4 >>= _) _ _ ⟨h1,gg,dd,t0,oo⟩
 refine wpAny_bind (wpAny_field E1 rfl (x:=Value.none) rfl ?_)
 show wpAny _ _ (mkInt i >>= _) _ _ ⟨h1,gg,dd,t0,oo⟩
 refine wpAny_bind (wpAny_mkInt ?_)
 show wpAny _ _ (setField (.ref e) 3 (rawInt ((i:Int)+1)) >>= _) _ _ ⟨h1,gg,dd,t0+1,oo⟩
 refine wpAny_bind (wpAny_setField_rec E1 (by simp) fun h2 E2 b2=>?_)
 have b2':Heap.SameBut e h1 h2:=b2
 have E2':IsEnum h2 e it ((i:Int)+1) old:=E2
 show wpAny _ _ (setField (.ref e) 4 .none >>= _) _ _ ⟨h2,gg,dd,t0+1,oo⟩
 refine wpAny_bind (wpAny_setField_rec E2' (by simp) fun h3 E3 b3=>?_)
 have b3':Heap.SameBut e h2 h3:=b3
 have E3':IsEnum h3 e it ((i:Int)+1) old:=E3
 show wpAny _ _ (newTuple [.int i t0,x] >>= _) _ _ ⟨h3,gg,dd,t0+1,oo⟩
 refine wpAny_bind (wpAny_newTuple ?_)
 have z3:h3.objs.size=h0.objs.size:=by rw[b3'.1,b2'.1,b1'.1]
 have E4:IsEnum (h3.push { cls:=.type "tuple", data:=.seq #[.int i t0,x] }) e it ((i:Int)+1) old:=Heap.get?_push_of_some _ E3'
 have T4:(h3.push { cls:=.type "tuple", data:=.seq #[.int i t0,x] }).get? h0.objs.size=some { cls:=.type "tuple", data:=.seq #[.int i t0,x] }:=by rw[<- z3];exact Heap.get?_push_size _ rfl
 have K4:∀b o,b≠e->b≠it->h0.get? b=some o->(h3.push { cls:=.type "tuple", data:=.seq #[.int i t0,x] }).get? b=some o:=fun b o n1 n2 q=>Heap.get?_push_of_some _ (b3'.extBut b o n1 (b2'.extBut b o n1 (b1'.extBut b o n2 q)))
 have N4:Kn (h3.push { cls:=.type "tuple", data:=.seq #[.int i t0,x] }):=stay h1 _ k1 fun o q=>Heap.get?_push_of_some _ (b3'.extBut it o (Ne.symm hne) (b2'.extBut it o (Ne.symm hne) q))
 rw[z3]
 generalize h3.push { cls:=.type "tuple", data:=.seq #[.int i t0,x] }=h4 at E4 T4 K4 N4
 show wpAny _ _ (Builtin.SmallTypes.ownedTupleIsFree (.ref e) >>= _) _ _ ⟨h4,gg,dd,t0+1,oo⟩
 refine wpAny_bind ?_
 unfold Builtin.SmallTypes.ownedTupleIsFree
 refine wpAny_bind (wpAny_field E4 rfl (x:=Value.none) rfl (wpAny_pure ?_))
 simp only[if_true]
 refine wpAny_bind (wpAny_rule (wpAny_bind (wpAny_field E4 rfl (x:=old) rfl ?_)))
 refine wpAny_bind (wpAny_setField_rec E4 (by simp) fun h5 E5 b5=>?_)
 have b5':Heap.SameBut e h4 h5:=b5
 have E5':IsEnum h5 e it ((i:Int)+1) x:=E5
 show wpAny _ _ (Builtin.SmallTypes.ownedTupleHandOut (.ref e) (.ref h0.objs.size) >>= _) _ _ ⟨h5,gg,dd,t0+1,oo⟩
 refine wpAny_bind ?_
 unfold Builtin.SmallTypes.ownedTupleHandOut
 refine wpAny_bind (wpAny_setField_rec E5' (by simp) fun h6 E6 b6=>?_)
 have b6':Heap.SameBut e h5 h6:=b6
 have E6':IsEnumOut h6 e it ((i:Int)+1) x h0.objs.size:=E6
 refine wpAny_setField_rec E6' (by simp) fun h7 E7 b7=>?_
 have b7':Heap.SameBut e h6 h7:=b7
 have E7':IsEnumOut h7 e it ((i:Int)+1) x h0.objs.size:=E7
 have far:∀b o,b≠e->h4.get? b=some o->h7.get? b=some o:=fun b o n1 q=>b7'.extBut b o n1 (b6'.extBut b o n1 (b5'.extBut b o n1 q))
 refine wpAny_bind (wpAny_letGo (wpAny_pure ⟨_,rfl,go h7 E7' ?_ (far _ _ (Nat.ne_of_gt elt) T4) fun b o n1 n2 q=>far b o n1 (K4 b o n1 n2 q)⟩))
 exact stay h4 h7 N4 fun o q=>far it o (Ne.symm hne) q
theorem Ga{e it:Addr}{vs:Array Value}{x:Value}{Q:Option Value->Shared->Prop}(isE:IsEnum s.heap e it i old)(hIt:s.heap.IsTupleIter it tu i)(hT:s.heap.IsTuple tu vs)(hx:vs[i]?=some x)(hne:e≠it)
  (go:∀h1,IsEnumOut h1 e it ((i:Int)+1) x s.heap.objs.size->h1.IsTupleIter it tu (i+1)->h1.get? s.heap.objs.size=some { cls:=.type "tuple", data:=.seq #[.int i s.toks,x] }->(∀b o,b≠e->b≠it->s.heap.get? b=some o->h1.get? b=some o)->Q (some (.ref s.heap.objs.size)) { s with heap:=h1,toks:=s.toks+1 }) :
  wpAny (model prog w) A (pyNext (.ref e)) Q E s:=by
 have tyE:s.TypeIs (.ref e) "enumerate" := ⟨_,isE,rfl⟩
 unfold pyNext
 refine wpAny_bind (wpAny_attempt (wpAny_callSpecial?_slot (name:=Str.ofString "__next__") tyE F.slot_enumerate_next (wpAny_call_entry F.slot_enumerate_next tyE F.entry_enumerate_next ?_ (F.args_enumerate_next_1 _))))
 exact wG (Kn:=fun h1=>h1.IsTupleIter it tu (i+1)) isE hne (fun h1 h2 k hk=>k.at hk) (fun Q1 q1=>vS hIt hT hx q1) fun h1 a b c d=>wpAny_pure (go h1 a b c d)
theorem Jo{e it:Addr}{vs:Array Value}{Q:Option Value->Shared->Prop}(hh:A.handled=none)(isE:IsEnum s.heap e it i old)(hIt:s.heap.IsTupleIter it tu i)(hT:s.heap.IsTuple tu vs)(hx:vs[i]?=none)
  (go:∀h1,Heap.ExtBut it s.heap h1->Q none { s with heap:=h1 }):wpAny (model prog w) A (pyNext (.ref e)) Q E s:=by
 have tyE:s.TypeIs (.ref e) "enumerate" := ⟨_,isE,rfl⟩
 unfold pyNext
 refine wpAny_bind (wpAny_attempt (wpAny_callSpecial?_slot (name:=Str.ofString "__next__") tyE F.slot_enumerate_next (wpAny_call_entry F.slot_enumerate_next tyE F.entry_enumerate_next ?_ (F.args_enumerate_next_1 _))))
 show wpAny _ _ (field (.ref e) 2 >>= _) _ _ _
 refine wpAny_bind (wpAny_field isE rfl (x:=Value.ref it) rfl (wpAny_bind (za hh hIt hT hx fun h1 xx eb hx'=>?_)))
 obtain⟨o,ho,hc⟩:=hx'
 exact wpAny_bind (wpAny_isInstance (T := "StopIteration") (b:=true) ⟨o,ho,hc⟩ isSubtype_stop (wpAny_pure (go _ eb)))
end
variable{X:Cx}
theorem jc{t2:Nat}{ch:List Addr}{p:Addr}{o:HO}(I:aj X pins σ H s)
  (k:∀b u,b∉ch->s.heap.get? b=some u->h2.get? b=some u) (hp:s.heap.objs.size<=p) (hn:∀b∈ch,fU X pins H b) (new:bw X.prog X.w (aG H p o) h2 p o):aj X pins σ (aG H p o) { s with heap:=h2,toks:=t2 }:=by
 have hH:H p=none:=I.hok.fresh hp
 have tr:∀b u,H b=some u->b∉ch:=fun b u e z=>by rw[(hn b z).1]at e;cases e
 have un:Un (cx X.stack) ch H (aG H p o) s.heap h2:=by
  refine⟨fun b ob e n _ c=>k b ob c e,fun b ob e n _ c=>⟨ob.slots,k b ob c e⟩,fun b ob e n c=>?_,fun b ob e c=>⟨ob,k b ob c e⟩,fun b xs e=>?_,fun b ob u e=>?_,fun b ps e=>⟨#[],?_⟩⟩
  ·rw[ax (Nat.ne_of_lt (Nat.lt_of_lt_of_le (Heap.lt_size e) hp))];exact n
  ·rw[ax (aV e hH)];exact e
  ·rw[ax (aV e hH)];exact e
  ·rw[ax (aV e hH),e];simp
 refine I.call (g':=s.gens) (d':=s.drawn) un (fun b u e=>?_) I.bare fun b hb=>⟨(hn b hb).2.2.2.1,(hn b hb).2.1,(hn b hb).2.2.2.2.1,(hn b hb).2.2.2.2.2⟩
 by_cases hb:b=p
 ·subst hb;rw[aE]at e;cases e;exact new
 ·rw[ax hb]at e
  refine(I.hok b u e).stay (fun c v hc q=>k c v ?_ q) (fun c q=>by rw[ax (aV q hH)];exact q) fun c xs q=>by rw[ax (aV q hH)];exact q
  rcases hc with z|z
  ·rw[z];exact tr b u e
  ·exact tr c _ z
def S9(K:W.Frag)(a:Addr):It :=
 ⟨fun i H => ∃xs x,cu K H a xs/\xs[i]?=some x,fun i H x H' => ∃p v,x=.ref p/\H p=none/\H'=aG H p (.tup [.int (i:Nat),v])/\∀xs,cu K H a xs->xs[i]?=some v,fun i H => ∃xs,cu K H a xs/\xs.length<=i⟩
theorem y8{P:Program}(a e it:Addr)(hne:e≠it) :
  L2.Turn P w K (.Tuple es n1 pos) (S9 K a) [e,it] e (fun i h=>(∃old,IsEnum h e it ((i:Nat):Int) old)/\h.IsTupleIter it a i) where
 mem:=by simp
 obj:=fun i h st b hb=>by
  obtain⟨⟨old,q⟩,o,q2,c,d⟩:=st
  rcases List.mem_cons.mp hb with rfl|hb
  ·exact⟨_,q,fun v z=>by have z':Data.fields _=Data.cell v:=z;cases z'⟩
  ·have eb:b=it:=by simpa using hb
   subst eb
   exact⟨o,q2,fun v z=>by rw[d]at z;cases z⟩
 keep:=fun i h h' st k=>⟨let ⟨old,q⟩:=st.1;⟨old,k e (by simp) _ q⟩,st.2.at fun o q=>k it (by simp) o q⟩
 item:=by
  intro Y hP hw hK hc i pins s σ H E I hf st hg
  subst hP hw hK
  obtain⟨xs,x,hq,hx⟩:=hg
  obtain⟨its,rv,p,hz⟩:=I.tuple hq
  obtain⟨u,hu,ru⟩:=rv.get hx
  obtain⟨⟨old,isE⟩,hIt⟩:=st
  refine Ga isE hIt (show s.heap.IsTuple a its.toArray from p) (x:=u) (by simpa using hu) hne fun h1 eo it1 t1 k1=>?_
  refine⟨_,rfl,wpAny_letOwnedTupleGo_enum eo fun h2 e2 sb2=>?_⟩
  have sb2':Heap.SameBut e h1 h2:=sb2
  have elt:e<s.heap.objs.size:=Heap.lt_size isE
  have k2:∀b o,b∉[e,it]->s.heap.get? b=some o->h2.get? b=some o:=fun b o nb q=>by
   have n1:b≠e:=fun z=>nb (by simp[z])
   have n2:b≠it:=fun z=>nb (by simp[z])
   exact sb2'.extBut b o n1 (k1 b o n1 n2 q)
  have t2:h2.get? s.heap.objs.size=some { cls:=.type "tuple", data:=.seq #[.int i s.toks,u] }:=sb2'.extBut _ _ (Nat.ne_of_gt elt) t1
  have hn0:H s.heap.objs.size=none:=I.hok.fresh (Nat.le_refl _)
  refine⟨.ref s.heap.objs.size,aG H s.heap.objs.size (.tup [.int (i:Nat),x]),jc (s:=s) (h2:=h2) (t2:=s.toks+1) I k2 (Nat.le_refl _) hf ?_,rfl,⟨_,x,rfl,hn0,rfl,fun ys hy=>by rw[I.tuple_inj hy hq];exact hx⟩,⟨⟨u,?_⟩,it1.at fun o q=>sb2'.extBut it o (Ne.symm hne) q⟩,fun b hb=>?_⟩
  ·exact⟨by show 2<=sizeLine;decide,[.int i s.toks,u],.cons ⟨_,rfl⟩ (.cons ru .nil),⟨_,t2,rfl,_,rfl⟩⟩
  ·have q:=e2
   rw[show((i:Nat):Int)+1=((i+1:Nat):Int) by omega]at q
   exact q
  ·have hb':=hf b hb
   have lt:b<s.heap.objs.size:=by
    rcases List.mem_cons.mp hb with rfl|hb
    ·exact elt
    ·have eb:b=it:=by simpa using hb
     subst eb
     obtain⟨o,q,_⟩:=hIt
     exact Heap.lt_size q
   rw[ax (Nat.ne_of_lt lt)];exact hb'.1
 done:=by
  intro Y hP hw hK hc i pins s σ H E I hf st hg
  subst hP hw hK
  obtain⟨xs,hq,hx⟩:=hg
  obtain⟨its,rv,p,hz⟩:=I.tuple hq
  obtain⟨⟨old,isE⟩,hIt⟩:=st
  obtain⟨f0,f1,f2,f3,f4,f5⟩:=hf it (by simp)
  have hl:=rv.length
  exact Jo (I.ok.hd hc) isE hIt (show s.heap.IsTuple a its.toArray from p) (by simp;omega) fun h1 eb=>⟨rfl,I.turned (t':=s.toks) (fun b o hb q=>eb b o hb q) f0 f1 f3 f4 f5⟩
 self:=fun _ _ _ _ _ st h=>let ⟨old,q⟩:=st.1;wpAny_pyIter_enum q h
theorem FI{p:Pos}(hg:Gl X "enumerate")(hm0:X.mg "enumerate" = none)(ha:AD X ρ [a] [.tup l] k)(hst:∀y p,a ≠ .Starred y p)(hf:ar l=true) :
  IE X ρ (.Tuple es n1 tp) (.Call (.Name "enumerate" p) [a] [] pos) (l.mapIdx fun i x=>.tup [.int (i:Nat),x]) 0:=by
 intro ow pins s σ H R I ⟨E,q⟩
 refine Call_ (dA I hg hm0 (show bootBuiltins "enumerate" = some (.type "enumerate") by decide +kernel) (PyProof.Rows.callWith_type1 (aN (ha ow pos pins s σ H (fun vs H1=>ay H H1/\ag X.K H1 (Kp ow H k) [.tup l] vs) I ⟨E,fun vs H1 s1 r1=>⟨s1,r1⟩⟩) fun us s1 ⟨vs,H1,I1,rv,sm,rp⟩=>?_) (aF hst) rfl) (by decide +kernel) (by decide +kernel))
 obtain⟨v,rfl,rv1⟩:=rp.only
 obtain⟨ta,xs,rfl,hq,rl⟩:=eJ rv1
 obtain⟨u,rfl,ru⟩:=dP rv
 cases (show u=Value.ref ta from ru)
 obtain⟨its,rvs,pt,hz⟩:=I1.tuple hq
 refine Gc (show s1.heap.IsTuple ta its.toArray from pt) fun h2 isE hIt sz k2=>?_
 refine wpAny_pyIter_enum isE ?_
 have I2:aj X pins σ H1 { s1 with heap:=h2 }:=I1.kept (t':=s1.toks) k2
 have f0:H1 s1.heap.objs.size=none:=I1.hok.fresh (Nat.le_refl _)
 have f1:H1 (s1.heap.objs.size+1)=none:=I1.hok.fresh (Nat.le_succ _)
 refine⟨s1.heap.objs.size+1,[s1.heap.objs.size+1,s1.heap.objs.size],_,_,H1,rfl,I2,y8 ta _ _ (Nat.ne_of_gt (Nat.lt_succ_self _)),⟨⟨_,isE⟩,hIt⟩,fun b hb=>?_,q _ H1 sm ?_⟩
 ·rcases List.mem_cons.mp hb with rfl|hb
  ·exact I1.fpOk (Nat.le_succ _) f1
  ·have eb:b=s1.heap.objs.size:=by simpa using hb
   subst eb
   exact I1.fpOk (Nat.le_refl _) f0
 ·intro i H2 st
  have rl':ag X.K H1 (Kd ow H 0 H1) l xs:=rl.flat _ hf
  refine⟨fun d hd=>?_,fun hle=>?_⟩
  ·rw[List.getElem?_mapIdx]at hd
   cases e:l[i]? with
   | none=>rw[e]at hd;cases hd
   | some x =>
    rw[e]at hd;cases hd
    obtain⟨y,hy,ry⟩:=rl'.get e
    refine⟨⟨xs,y,st.sq hq,hy⟩,fun x' H3 ⟨p',v',e1,e2,e3,e4⟩=>?_⟩
    have hv:=e4 xs (st.sq hq)
    rw[hy]at hv;cases hv
    subst e1 e3
    have sm3:=cw (o:=HO.tup [.int (i:Nat),y]) e2
    refine⟨sm3,?_⟩
    rw[ah]
    exact⟨p',_,rfl,cu.of aE,ag.cons (by rw[ah]) (ag.one ((ry.mono st).same sm3))⟩
  ·rw[List.length_mapIdx]at hle
   exact⟨xs,st.sq hq,by rw[<- rl.length];exact hle⟩
theorem rN(h:iH tg=true):∃es n p,tg=.Tuple es n p:=by
 cases tg<;>first|exact⟨_,_,_,rfl⟩|cases h
open AutoSeq1 (wpAny_loadPart')
structure Wk(prog:Program)(w:World)(i l:Addr)(P:Nat->Heap->Prop)(g:Nat->Option Value):Prop where
 stay:∀k (h h':Heap),P k h->(∀c o,c=i\/c=l->h.get? c=some o->h'.get? c=some o)->P k h'
 here:∀k (h:Heap),P k h->∃o,h.get? i=some o/\∀v,o.data≠Data.cell v
 item:∀(A:Around) (E:Value->Shared->Prop) (s:Shared) (k:Nat) (x:Value) (Q:Value->Shared->Prop),P k s.heap->g k=some x->(∀h1,P (k+1) h1->Heap.SameBut i s.heap h1->Q x { s with heap:=h1 })->wpAny (model prog w) A (Builtin.SmallTypes.nextOf (.ref i)) Q E s
 done:∀(A:Around) (E:Value->Shared->Prop) (s:Shared) (k:Nat) (Q:Value->Shared->Prop),A.handled=none->P k s.heap->g k=none->(∀h1 x,Heap.ExtBut i s.heap h1->(∃o,h1.get? x=some o/\o.cls=.type "StopIteration")->E (.ref x) { s with heap:=h1 })->wpAny (model prog w) A (Builtin.SmallTypes.nextOf (.ref i)) Q E s
theorem lg{i l:Addr}(ne:l≠i):Wk prog w i l (fun k h=>h.IsTupleIter i l k/\h.IsTuple l xs) (fun k=>xs[k]?) where
 stay:=fun k h h' p q=>⟨p.1.at fun o e=>q i o (.inl rfl) e,p.2.at fun o e=>q l o (.inr rfl) e⟩
 here:=fun k h p=>let ⟨o,e,_,d⟩:=p.1;⟨o,e,fun v z=>by rw[d]at z;cases z⟩
 item:=fun A E s k x Q p hx q=>vS p.1 p.2 hx fun h1 a b=>q h1 ⟨a,p.2.extBut b.extBut ne⟩ b
 done:=fun A E s k Q hh p hx q=>za hh p.1 p.2 hx q
theorem GK{i l:Addr}(ne:l≠i):Wk prog w i l (fun k h=>h.IsListIter i l k/\h.IsList l xs) (fun k=>xs[k]?) where
 stay:=fun k h h' p q=>⟨p.1.at fun o e=>q i o (.inl rfl) e,p.2.at fun o e=>q l o (.inr rfl) e⟩
 here:=fun k h p=>let ⟨o,e,_,d⟩:=p.1;⟨o,e,fun v z=>by rw[d]at z;cases z⟩
 item:=fun A E s k x Q p hx q=>wpAny_nextOf_list_item p.1 p.2 hx fun h1 a b=>q h1 ⟨a,p.2.extBut b.extBut ne⟩ b
 done:=fun A E s k Q hh p hx q=>wpAny_nextOf_list_end hh p.1 p.2 hx q
section
variable{prog:Program}{w:World}{A:Around}{E:Value->Shared->Prop}{s:Shared}
variable{z TI TO i1 i2 l1 l2:Addr}{k1 k2:Nat}{P1 P2:Nat->Heap->Prop}{g1 g2:Nat->Option Value}{x y a b:Value}
structure Zs(z TI TO i1 i2 l1 l2:Addr)(P1 P2:Nat->Heap->Prop)(k:Nat)(h:Heap):Prop where
 ap:ZipApart z TI TO i1 i2 l1 l2
 rd:IsZip h z TI TO .none
 ins:IsPair h TI (.ref i1) (.ref i2)
 out:∃a b,IsPair h TO a b
 fst:P1 k h
 snd:P2 k h
theorem Zs.item(W1:Wk prog w i1 l1 P1 g1)(W2:Wk prog w i2 l2 P2 g2)(S:Zs z TI TO i1 i2 l1 l2 P1 P2 k s.heap)(hx:g1 k=some x)(hy:g2 k=some y)
  (go:∀h1,(∀h2,IsZip h2 z TI TO .none->Heap.SameBut z h1 h2->Zs z TI TO i1 i2 l1 l2 P1 P2 (k+1) h2)->IsZip h1 z TI TO (rawInt s.heap.objs.size)->IsPair h1 s.heap.objs.size x y->(∀c o,c∉[z,TO,i1,i2]->s.heap.get? c=some o->h1.get? c=some o)->Q (.ref s.heap.objs.size) { s with heap:=h1 }) :
  wpAny (model prog w) A (Builtin.«zip.__next__» ⟨[.ref z],[]⟩) (fun fin s' => ∃v,fin=.done (.ret v)/\Q v s') E s:=by
 obtain⟨D,isZ,pI,⟨a,b,pO⟩,p1,p2⟩:=S
 obtain⟨h0,gg,dd,t0,oo⟩:=s
 show wpAny _ _ (field (.ref z) 2 >>= _) _ _ ⟨h0,gg,dd,t0,oo⟩
 refine wpAny_bind (wpAny_field isZ rfl (x:=Value.bool false) rfl ?_)
 show wpAny _ _ (field (.ref z) 3 >>= _) _ _ ⟨h0,gg,dd,t0,oo⟩
 refine wpAny_bind (wpAny_field isZ rfl (x:=Value.ref TI) rfl (wpAny_bind (wpAny_seqItems pI rfl ?_)))
 show wpAny _ _ (Builtin.SmallTypes.ownedTupleIsFree (.ref z) >>= _) _ _ ⟨h0,gg,dd,t0,oo⟩
 unfold Builtin.SmallTypes.ownedTupleIsFree
 refine wpAny_bind (wpAny_bind (wpAny_field isZ rfl (x:=Value.none) rfl (wpAny_pure ?_)))
 simp only[if_true]
 refine wpAny_bind (wpAny_rule (wpAny_bind (wpAny_field isZ rfl (x:=Value.ref TO) rfl (wpAny_bind (wpAny_setField_rec isZ (by simp) fun q1 Z1 m1=>?_)))))
 have Z1:IsZip q1 z TI TO .ellipsis:=Z1
 have m1:Heap.SameBut z h0 q1:=m1
 simp only[List.zipIdx_cons,List.zipIdx_nil,List.forIn_cons,List.forIn_nil]
 refine wpAny_bind (wpAny_bind (wpAny_bind (wpAny_onRaise ?_)))
 show wpAny _ _ (Builtin.SmallTypes.nextOf (.ref i1) >>= _) _ _ ⟨q1,gg,dd,t0,oo⟩
 have e1:∀c o,c≠z->h0.get? c=some o->q1.get? c=some o:=fun c o n u=>m1.extBut c o n u
 refine wpAny_bind (W1.item _ _ _ k x _ (W1.stay k _ _ p1 fun c o hc u=>e1 c o (by rcases hc with rfl|rfl;exact D.i1z;exact D.l1z) u) hx fun q2 p1' m2=>wpAny_pure ?_)
 have m2:Heap.SameBut i1 q1 q2:=m2
 have e2:∀c o,c≠z->c≠i1->h0.get? c=some o->q2.get? c=some o:=fun c o n n' u=>m2.extBut c o n' (e1 c o n u)
 have O2:IsPair q2 TO a b:=e2 _ _ D.TOz D.TOi1 pO
 refine wpAny_bind (wpAny_seqItems O2 rfl (wpAny_bind (wpAny_updateSeq_pair O2 fun q3 O3 m3=>wpAny_bind (wpAny_letGo (wpAny_pure ?_)))))
 have O3:IsPair q3 TO x b:=O3
 have m3:Heap.SameBut TO q2 q3:=m3
 have e3:∀c o,c≠z->c≠i1->c≠TO->h0.get? c=some o->q3.get? c=some o:=fun c o n n' n'' u=>m3.extBut c o n'' (e2 c o n n' u)
 refine wpAny_bind (wpAny_bind (wpAny_onRaise ?_))
 show wpAny _ _ (Builtin.SmallTypes.nextOf (.ref i2) >>= _) _ _ ⟨q3,gg,dd,t0,oo⟩
 refine wpAny_bind (W2.item _ _ _ k y _ (W2.stay k _ _ p2 fun c o hc u=>by
  rcases hc with rfl|rfl
  ·exact e3 c o D.i2z D.i12.symm D.TOi2.symm u
  ·exact e3 c o D.l2z D.l2i1 D.l2TO u) hy fun q4 p2' m4=>wpAny_pure ?_)
 have m4:Heap.SameBut i2 q3 q4:=m4
 have O4:IsPair q4 TO x b:=m4.extBut _ _ D.TOi2 O3
 refine wpAny_bind (wpAny_seqItems O4 rfl (wpAny_bind (wpAny_updateSeq_pair O4 fun q5 O5 m5=>wpAny_bind (wpAny_letGo (wpAny_pure (wpAny_pure ?_))))))
 have O5:IsPair q5 TO x y:=O5
 have m5:Heap.SameBut TO q4 q5:=m5
 refine wpAny_bind (wpAny_seqItems O5 rfl (wpAny_bind (wpAny_newTuple ?_)))
 have sz:q5.objs.size=h0.objs.size:=by rw[m5.1,m4.1,m3.1,m2.1,m1.1]
 have e5:∀c o,c≠z->c≠i1->c≠TO->c≠i2->h0.get? c=some o->q5.get? c=some o:=fun c o n n' n'' n3 u=>m5.extBut c o n'' (m4.extBut c o n3 (e3 c o n n' n'' u))
 have Z5:IsZip q5 z TI TO .ellipsis:=m5.extBut _ _ D.TOz.symm (m4.extBut _ _ D.i2z.symm (m3.extBut _ _ D.TOz.symm (m2.extBut _ _ D.i1z.symm Z1)))
 have r1:P1 (k+1) q5:=W1.stay _ _ _ p1' fun c o hc u=>by
  rcases hc with rfl|rfl
  ·exact m5.extBut c o D.TOi1.symm (m4.extBut c o D.i12 (m3.extBut c o D.TOi1.symm u))
  ·exact m5.extBut c o D.l1TO (m4.extBut c o D.l1i2 (m3.extBut c o D.l1TO u))
 have r2:P2 (k+1) q5:=W2.stay _ _ _ p2' fun c o hc u=>by
  rcases hc with rfl|rfl
  ·exact m5.extBut c o D.TOi2.symm u
  ·exact m5.extBut c o D.l2TO u
 have I5:IsPair q5 TI (.ref i1) (.ref i2):=e5 _ _ D.TIz D.TIi1 D.TITO D.TIi2 pI
 have zl:z<q5.objs.size:=Heap.lt_size Z5
 show wpAny _ _ (Builtin.SmallTypes.ownedTupleHandOut (.ref z) (.ref q5.objs.size) >>= _) _ _ ⟨q5.push { cls:=.type "tuple", data:=.seq #[x,y] },gg,dd,t0,oo⟩
 unfold Builtin.SmallTypes.ownedTupleHandOut
 have Z6:IsZip (q5.push { cls:=.type "tuple", data:=.seq #[x,y] }) z TI TO .ellipsis:=Heap.get?_push_of_some _ Z5
 refine wpAny_bind (wpAny_bind (wpAny_setField_rec Z6 (by simp) fun q7 Z7 m7=>?_))
 have Z7:IsZip q7 z TI TO (rawInt q5.objs.size):=Z7
 refine wpAny_setField_rec Z7 (by simp) fun q8 Z8 m8=>?_
 have Z8:IsZip q8 z TI TO (rawInt q5.objs.size):=Z8
 have far:∀c o,c≠z->q5.get? c=some o->q8.get? c=some o:=fun c o n u=>m8.extBut _ _ n (m7.extBut _ _ n (Heap.get?_push_of_some _ u))
 have T8:IsPair q8 q5.objs.size x y:=m8.extBut _ _ (Nat.ne_of_gt zl) (m7.extBut _ _ (Nat.ne_of_gt zl) (Heap.get?_push_size _ rfl))
 refine wpAny_pure ⟨_,rfl,?_⟩
 show Q (.ref q5.objs.size) _
 rw[sz]at Z8 T8⊢
 refine go q8 (fun h2 Zn mn=>⟨D,Zn,mn.extBut _ _ D.TIz (far _ _ D.TIz I5),⟨x,y,mn.extBut _ _ D.TOz (far _ _ D.TOz O5)⟩,W1.stay _ _ _ r1 fun c o hc u=>?_,W2.stay _ _ _ r2 fun c o hc u=>?_⟩) Z8 T8 fun c o hc u=>?_
 ·have n:c≠z:=by rcases hc with rfl|rfl;exact D.i1z;exact D.l1z
  exact mn.extBut c o n (far c o n u)
 ·have n:c≠z:=by rcases hc with rfl|rfl;exact D.i2z;exact D.l2z
  exact mn.extBut c o n (far c o n u)
 ·have c1:c≠z:=fun q=>hc (by simp[q])
  have c2:c≠TO:=fun q=>hc (by simp[q])
  have c3:c≠i1:=fun q=>hc (by simp[q])
  have c4:c≠i2:=fun q=>hc (by simp[q])
  exact far c o c1 (e5 c o c1 c3 c2 c4 u)
theorem Zs.done{Q:Fin->Shared->Prop}(hh:A.handled=none)(W1:Wk prog w i1 l1 P1 g1)(W2:Wk prog w i2 l2 P2 g2)(S:Zs z TI TO i1 i2 l1 l2 P1 P2 k s.heap)(hxy:g1 k=none\/g2 k=none)
    (go:∀h1 e,(∀c o,c∉[z,TO,i1,i2]->s.heap.get? c=some o->h1.get? c=some o)->(∃o,h1.get? e=some o/\o.cls=.type "StopIteration")->E (.ref e) { s with heap:=h1 }) :
    wpAny (model prog w) A (Builtin.«zip.__next__» ⟨[.ref z],[]⟩) Q E s:=by
  obtain⟨D,isZ,pI,⟨a,b,pO⟩,p1,p2⟩:=S
  obtain⟨h0,gg,dd,t0,oo⟩:=s
  show wpAny _ _ (field (.ref z) 2 >>= _) _ _ ⟨h0,gg,dd,t0,oo⟩
  refine wpAny_bind (wpAny_field isZ rfl (x:=Value.bool false) rfl ?_)
  show wpAny _ _ (field (.ref z) 3 >>= _) _ _ ⟨h0,gg,dd,t0,oo⟩
  refine wpAny_bind (wpAny_field isZ rfl (x:=Value.ref TI) rfl (wpAny_bind (wpAny_seqItems pI rfl ?_)))
  show wpAny _ _ (Builtin.SmallTypes.ownedTupleIsFree (.ref z) >>= _) _ _ ⟨h0,gg,dd,t0,oo⟩
  unfold Builtin.SmallTypes.ownedTupleIsFree
  refine wpAny_bind (wpAny_bind (wpAny_field isZ rfl (x:=Value.none) rfl (wpAny_pure ?_)))
  simp only[if_true]
  refine wpAny_bind (wpAny_rule (wpAny_bind (wpAny_field isZ rfl (x:=Value.ref TO) rfl (wpAny_bind (wpAny_setField_rec isZ (by simp) fun q1 Z1 m1=>?_)))))
  have Z1:IsZip q1 z TI TO .ellipsis:=Z1
  have m1:Heap.SameBut z h0 q1:=m1
  simp only[List.zipIdx_cons,List.zipIdx_nil,List.forIn_cons,List.forIn_nil]
  refine wpAny_bind (wpAny_bind (wpAny_bind (wpAny_onRaise ?_)))
  show wpAny _ _ (Builtin.SmallTypes.nextOf (.ref i1) >>= _) _ _ ⟨q1,gg,dd,t0,oo⟩
  have e1:∀c o,c≠z->h0.get? c=some o->q1.get? c=some o:=fun c o n u=>m1.extBut c o n u
  have p1:P1 k q1:=W1.stay k _ _ p1 fun c o hc u=>e1 c o (by rcases hc with rfl|rfl;exact D.i1z;exact D.l1z) u
  have nin:∀c,c∉[z,TO,i1,i2]->c≠z/\c≠TO/\c≠i1/\c≠i2:=fun c hc=>⟨fun q=>hc (by simp[q]),fun q=>hc (by simp[q]),fun q=>hc (by simp[q]),fun q=>hc (by simp[q])⟩
  have last:∀(q2:Heap) (ex:Addr) (oe:Obj),IsZip q2 z TI TO .ellipsis->(∀c o,c∉[z,TO,i1,i2]->h0.get? c=some o->q2.get? c=some o)->q2.get? ex=some oe->oe.cls=.type "StopIteration" ->
      wpAny (model prog w) A (setField (.ref z) 0 .none) (fun _ s'=>E (.ref ex) s') E ⟨q2,gg,dd,t0,oo⟩:=fun q2 ex oe Z2 k2 ho hc=>by
    have hez:ex≠z:=fun u=>by subst u;rw[Z2]at ho;cases ho;simp at hc
    refine wpAny_setField_rec Z2 (by simp) fun q3 _ m3=>go q3 ex (fun c o hc u=>?_) ⟨oe,m3.extBut _ _ hez ho,hc⟩
    exact m3.extBut c o (nin c hc).1 (k2 c o hc u)
  cases hx:g1 k with
  | none =>
    refine wpAny_bind (W1.done _ _ _ k _ hh p1 hx fun q2 ex m2 he=>?_)
    obtain⟨oe,ho,hc⟩:=he
    have m2:Heap.ExtBut i1 q1 q2:=m2
    exact last q2 ex oe (m2 _ _ D.i1z.symm Z1) (fun c o hc u=>m2 c o (nin c hc).2.2.1 (e1 c o (nin c hc).1 u)) ho hc
  | some x =>
    have hy:g2 k=none:=hxy.resolve_left (by rw[hx];exact fun q=>nomatch q)
    refine wpAny_bind (W1.item _ _ _ k x _ p1 hx fun q2 p1' m2=>wpAny_pure ?_)
    have m2:Heap.SameBut i1 q1 q2:=m2
    have e2:∀c o,c≠z->c≠i1->h0.get? c=some o->q2.get? c=some o:=fun c o n n' u=>m2.extBut c o n' (e1 c o n u)
    have O2:IsPair q2 TO a b:=e2 _ _ D.TOz D.TOi1 pO
    refine wpAny_bind (wpAny_seqItems O2 rfl (wpAny_bind (wpAny_updateSeq_pair O2 fun q3 O3 m3=>wpAny_bind (wpAny_letGo (wpAny_pure ?_)))))
    have m3:Heap.SameBut TO q2 q3:=m3
    have e3:∀c o,c≠z->c≠i1->c≠TO->h0.get? c=some o->q3.get? c=some o:=fun c o n n' n'' u=>m3.extBut c o n'' (e2 c o n n' u)
    refine wpAny_bind (wpAny_bind (wpAny_onRaise ?_))
    show wpAny _ _ (Builtin.SmallTypes.nextOf (.ref i2) >>= _) _ _ ⟨q3,gg,dd,t0,oo⟩
    refine wpAny_bind (W2.done _ _ _ k _ hh (W2.stay k _ _ p2 fun c o hc u=>by
      rcases hc with rfl|rfl
      . exact e3 c o D.i2z D.i12.symm D.TOi2.symm u
      . exact e3 c o D.l2z D.l2i1 D.l2TO u) hy fun q4 ex m4 he=>?_)
    obtain⟨oe,ho,hc⟩:=he
    have m4:Heap.ExtBut i2 q3 q4:=m4
    exact last q4 ex oe (m4 _ _ D.i2z.symm (m3.extBut _ _ D.TOz.symm (m2.extBut _ _ D.i1z.symm Z1))) (fun c o hc u=>m4 c o (nin c hc).2.2.2 (e3 c o (nin c hc).1 (nin c hc).2.2.1 (nin c hc).2.1 u)) ho hc
theorem Zs.pyItem{Q:Option Value->Shared->Prop}(W1:Wk prog w i1 l1 P1 g1)(W2:Wk prog w i2 l2 P2 g2)(S:Zs z TI TO i1 i2 l1 l2 P1 P2 k s.heap)(hx:g1 k=some x)(hy:g2 k=some y)
  (go:∀h1,(∀h2,IsZip h2 z TI TO .none->Heap.SameBut z h1 h2->Zs z TI TO i1 i2 l1 l2 P1 P2 (k+1) h2)->IsZip h1 z TI TO (rawInt s.heap.objs.size)->IsPair h1 s.heap.objs.size x y->(∀c o,c∉[z,TO,i1,i2]->s.heap.get? c=some o->h1.get? c=some o)->Q (some (.ref s.heap.objs.size)) { s with heap:=h1 }) :
  wpAny (model prog w) A (pyNext (.ref z)) Q E s:=by
 have ty:s.TypeIs (.ref z) "zip" := ⟨_,S.rd,rfl⟩
 unfold pyNext
 exact wpAny_bind (wpAny_attempt (wpAny_callSpecial?_slot (name:=Str.ofString "__next__") ty F.slot_zip_next (wpAny_call_entry F.slot_zip_next ty F.entry_zip_next (S.item W1 W2 hx hy fun h1 a b c d=>wpAny_pure (go h1 a b c d)) (F.args_zip_next_1 _))))
theorem Zs.pyDone{Q:Option Value->Shared->Prop}(hh:A.handled=none)(W1:Wk prog w i1 l1 P1 g1)(W2:Wk prog w i2 l2 P2 g2)(S:Zs z TI TO i1 i2 l1 l2 P1 P2 k s.heap)(hxy:g1 k=none\/g2 k=none)
  (go:∀h1,(∀c o,c∉[z,TO,i1,i2]->s.heap.get? c=some o->h1.get? c=some o)->Q none { s with heap:=h1 }):wpAny (model prog w) A (pyNext (.ref z)) Q E s:=by
 have ty:s.TypeIs (.ref z) "zip" := ⟨_,S.rd,rfl⟩
 unfold pyNext
 refine wpAny_bind (wpAny_attempt (wpAny_callSpecial?_slot (name:=Str.ofString "__next__") ty F.slot_zip_next (wpAny_call_entry F.slot_zip_next ty F.entry_zip_next (S.done hh W1 W2 hxy fun h1 e kk he=>?_) (F.args_zip_next_1 _))))
 obtain⟨oe,ho,hc⟩:=he
 exact wpAny_bind (wpAny_isInstance (T := "StopIteration") (b:=true) ⟨oe,ho,hc⟩ isSubtype_stop (wpAny_pure (go h1 kk)))
end
abbrev C7(h:Heap)(a:Addr):Heap:=h.push { cls:=.type "tuple_iterator", data:=.fields #[.ref a,.int 0 0] }
abbrev C6(h:Heap)(a b:Addr):Heap:=(C7 h a).push { cls:=.type "tuple_iterator", data:=.fields #[.ref b,.int 0 0] }
abbrev C5(h:Heap)(a b:Addr):Heap:=(C6 h a b).push { cls:=.type "tuple", data:=.seq #[.ref h.objs.size,.ref (C7 h a).objs.size] }
abbrev C4(h:Heap)(a b:Addr):Heap:=(C5 h a b).push { cls:=.type "tuple", data:=.seq #[.none,.none] }
abbrev sK(h:Heap)(a b:Addr):Heap:=(C4 h a b).push { cls:=.type "zip", data:=.fields #[.none,.bool false,.bool false,.ref (C6 h a b).objs.size,.ref (C5 h a b).objs.size] }
theorem GH(a b:Addr)(xs ys:Array Value) :
  Meets (Builtin.«zip.__new__» ⟨[.type "zip", .ref a,.ref b],[]⟩) (fun _ R s=>s.heap.IsTuple a xs/\s.heap.IsTuple b ys/\R (.ok (.ret (.ref (C4 s.heap a b).objs.size))) { s with heap:=sK s.heap a b }) :=
 .of_wp fun pg wd AA RR st hh=>by
  obtain⟨hp0,gg,dd,tk0,oo⟩:=st;obtain⟨ha,hb,hh⟩:=hh
  have hsub0:=sub_zip
  have T1:Heap.IsTuple (Shared.heap ⟨hp0,gg,dd,tk0,oo⟩) a xs:=ha
  have T2:Heap.IsTuple (Shared.heap ⟨hp0.push { cls:=.type "tuple_iterator", data:=.fields #[.ref a,.int 0 0] },gg,dd,tk0,oo⟩) b ys:=hb.at fun o e=>Heap.get?_push_of_some _ e
  wp_walk using wpAny_pyIter_tuple T1,wpAny_pyIter_tuple T2
  exact⟨_,rfl,hh⟩
theorem Ei{a b:Addr}(ha:s.heap.IsTuple a xs)(hb:s.heap.IsTuple b ys)
  (go:∀h1,Zs (s.heap.objs.size+4) (s.heap.objs.size+2) (s.heap.objs.size+3) s.heap.objs.size (s.heap.objs.size+1) a b (fun k h=>h.IsTupleIter s.heap.objs.size a k/\h.IsTuple a xs) (fun k h=>h.IsTupleIter (s.heap.objs.size+1) b k/\h.IsTuple b ys) 0 h1->(∀c o,s.heap.get? c=some o->h1.get? c=some o)->Q (.ref (s.heap.objs.size+4)) { s with heap:=h1 }) :
  wpAny (model prog w) A (call (.type "zip") [.ref a,.ref b]) Q E s:=by
 refine callType_new F.called_zip (by decide) (F.typeCall_zip_2 _ _) (F.newCall_zip_2 _ _) (fun ob=>F.args_object_init_3 ob _ _) F.entry_zip_new (GH a b xs ys) ⟨ha,hb,?_⟩
 have s1:(C7 s.heap a).objs.size=s.heap.objs.size+1:=Heap.size_push ..
 have s2:(C6 s.heap a b).objs.size=s.heap.objs.size+2:=by rw[Heap.size_push,s1]
 have s3:(C5 s.heap a b).objs.size=s.heap.objs.size+3:=by rw[Heap.size_push,s2]
 have s4:(C4 s.heap a b).objs.size=s.heap.objs.size+4:=by rw[Heap.size_push,s3]
 have r5:(sK s.heap a b).get? (C4 s.heap a b).objs.size=some _:=Heap.get?_push_size _ rfl
 have r4:(sK s.heap a b).get? (C5 s.heap a b).objs.size=some _:=Heap.get?_push_of_some _ (Heap.get?_push_size _ rfl)
 have r3:(sK s.heap a b).get? (C6 s.heap a b).objs.size=some _:=Heap.get?_push_of_some _ (Heap.get?_push_of_some _ (Heap.get?_push_size _ rfl))
 have r2:(sK s.heap a b).get? (C7 s.heap a).objs.size=some _:=Heap.get?_push_of_some _ (Heap.get?_push_of_some _ (Heap.get?_push_of_some _ (Heap.get?_push_size _ rfl)))
 have r1:(sK s.heap a b).get? s.heap.objs.size=some _:=Heap.get?_push_of_some _ (Heap.get?_push_of_some _ (Heap.get?_push_of_some _ (Heap.get?_push_of_some _ (Heap.get?_push_size _ rfl))))
 have up:∀c o,s.heap.get? c=some o->(sK s.heap a b).get? c=some o:=fun c o e=>Heap.get?_push_of_some _ (Heap.get?_push_of_some _ (Heap.get?_push_of_some _ (Heap.get?_push_of_some _ (Heap.get?_push_of_some _ e))))
 have la:a<s.heap.objs.size:=by obtain⟨_,e,_⟩:=ha;exact Heap.lt_size e
 have lb:b<s.heap.objs.size:=by obtain⟨_,e,_⟩:=hb;exact Heap.lt_size e
 rw[s2,s3,s4]at r5
 rw[s1,s2]at r3
 rw[s3]at r4
 rw[s1]at r2
 show _/\_
 rw[s4]
 have ne:∀{m n:Nat},m<n->m≠n:=fun h=>Nat.ne_of_lt h
 refine⟨⟨_,r5,rfl⟩,go _ ⟨?_,r5,r3,⟨_,_,r4⟩,⟨⟨_,r1,rfl,rfl⟩,ha.at fun o e=>up _ _ e⟩,⟨⟨_,r2,rfl,rfl⟩,hb.at fun o e=>up _ _ e⟩⟩ up⟩
 generalize s.heap.objs.size=n at la lb
 have la':(a:Nat)<n:=la
 have lb':(b:Nat)<n:=lb
 constructor<;>first|exact ne (by omega)|exact(ne (by omega)).symm|exact ne (Nat.lt_of_lt_of_le la (by omega))|exact ne (Nat.lt_of_lt_of_le lb (by omega))|exact ne la|exact ne lb
variable{X:Cx}
theorem pL{t2:Nat}{ch:List Addr}(I:aj X pins σ H s)
  (k:∀b u,b∉ch->s.heap.get? b=some u->h2.get? b=some u) (hn:∀b∈ch,fU X pins H b):aj X pins σ H { s with heap:=h2,toks:=t2 }:=by
 have tr:∀b u,H b=some u->b∉ch:=fun b u e z=>by rw[(hn b z).1]at e;cases e
 have un:Un (cx X.stack) ch H H s.heap h2:=⟨fun b ob e n _ c=>k b ob c e,fun b ob e n _ c=>⟨ob.slots,k b ob c e⟩,fun b ob e n c=>n,fun b ob e c=>⟨ob,k b ob c e⟩,fun b xs e=>e,fun b ob u e=>e,fun b ps e=>⟨#[],by rw[e];simp⟩⟩
 refine I.call (g':=s.gens) (d':=s.drawn) un (fun b u e=>?_) I.bare fun b hb=>⟨(hn b hb).2.2.2.1,(hn b hb).2.1,(hn b hb).2.2.2.2.1,(hn b hb).2.2.2.2.2⟩
 refine(I.hok b u e).stay (fun c v hc q=>k c v ?_ q) (fun c q=>q) fun c xs q=>q
 rcases hc with z|z
 ·rw[z];exact tr b u e
 ·exact tr c _ z
def S8(K:W.Frag)(a b:Addr):It :=
 ⟨fun i H => ∃xs ys x y,cu K H a xs/\xs[i]?=some x/\cu K H b ys/\ys[i]?=some y,fun i H x H' => ∃p u v,x=.ref p/\H p=none/\H'=aG H p (.tup [u,v])/\(∀xs,cu K H a xs->xs[i]?=some u)/\∀ys,cu K H b ys->ys[i]?=some v,fun i H => ∃xs ys,cu K H a xs/\cu K H b ys/\(xs.length<=i\/ys.length<=i)⟩
theorem Bj{P:Program}(a b z TI TO i1 i2:Addr)(D:ZipApart z TI TO i1 i2 a b) :
  L2.Turn P w K (.Tuple es n1 pos) (S8 K a b) [z,TI,TO,i1,i2] z (fun i h=>IsZip h z TI TO .none/\IsPair h TI (.ref i1) (.ref i2)/\(∃u v,IsPair h TO u v)/\h.IsTupleIter i1 a i/\h.IsTupleIter i2 b i) where
 mem:=by simp
 obj:=fun i h st c hc=>by
  obtain⟨q1,q2,⟨u,v,q3⟩,⟨o4,q4,c4,d4⟩,⟨o5,q5,c5,d5⟩⟩:=st
  simp only[List.mem_cons,List.not_mem_nil,or_false]at hc
  rcases hc with rfl|rfl|rfl|rfl|rfl
  ·exact⟨_,q1,fun v e=>by have e':Data.fields _=Data.cell v:=e;cases e'⟩
  ·exact⟨_,q2,fun v e=>by have e':Data.seq _ _=Data.cell v:=e;cases e'⟩
  ·exact⟨_,q3,fun v e=>by have e':Data.seq _ _=Data.cell v:=e;cases e'⟩
  ·exact⟨_,q4,fun v e=>by rw[d4]at e;cases e⟩
  ·exact⟨_,q5,fun v e=>by rw[d5]at e;cases e⟩
 keep:=fun i h h' ⟨q1,q2,⟨u,v,q3⟩,q4,q5⟩ k=>⟨k _ (by simp) _ q1,k _ (by simp) _ q2,⟨u,v,k _ (by simp) _ q3⟩,q4.at fun o e=>k _ (by simp) o e,q5.at fun o e=>k _ (by simp) o e⟩
 item:=by
  intro Y hP hw hK hc i pins s σ H E I hf st hg
  subst hP hw hK
  obtain⟨xs,ys,x,y,hq,hx,hr,hy⟩:=hg
  obtain⟨its,rv,p1,hz⟩:=I.tuple hq
  obtain⟨jts,rw',p2,hz'⟩:=I.tuple hr
  obtain⟨u,hu,ru⟩:=rv.get hx
  obtain⟨v,hv,rv'⟩:=rw'.get hy
  obtain⟨q1,q2,q3,q4,q5⟩:=st
  have zlt:z<s.heap.objs.size:=Heap.lt_size q1
  refine Zs.pyItem (lg (i:=i1) (l:=a) (xs:=its.toArray) D.l1i1) (lg (i:=i2) (l:=b) (xs:=jts.toArray) D.l2i2) ⟨D,q1,q2,q3,⟨q4,p1⟩,⟨q5,p2⟩⟩ (x:=u) (y:=v) (by simpa using hu) (by simpa using hv) fun h1 lH zo t1 k1=>?_
  refine⟨_,rfl,wpAny_letOwnedTupleGo_zip zo fun h2 z2 m2=>?_⟩
  have m2:Heap.SameBut z h1 h2:=m2
  have N:=lH h2 z2 m2
  have k2:∀c o,c∉[z,TI,TO,i1,i2]->s.heap.get? c=some o->h2.get? c=some o:=fun c o nc q=>by
   have n1:c≠z:=fun e=>nc (by simp[e])
   refine m2.extBut c o n1 (k1 c o (fun e=>nc ?_) q)
   simp only[List.mem_cons,List.not_mem_nil,or_false]at e⊢
   rcases e with e|e|e|e<;>simp[e]
  have t2:h2.get? s.heap.objs.size=some { cls:=.type "tuple", data:=.seq #[u,v] }:=m2.extBut _ _ (Nat.ne_of_gt zlt) t1
  have hn0:H s.heap.objs.size=none:=I.hok.fresh (Nat.le_refl _)
  refine⟨.ref s.heap.objs.size,aG H s.heap.objs.size (.tup [x,y]),jc (s:=s) (h2:=h2) (t2:=s.toks) I k2 (Nat.le_refl _) hf ?_,rfl,⟨_,x,y,rfl,hn0,rfl,fun ws hw=>by rw[I.tuple_inj hw hq];exact hx,fun ws hw=>by rw[I.tuple_inj hw hr];exact hy⟩,⟨N.rd,N.ins,N.out,N.fst.1,N.snd.1⟩,fun c hc=>?_⟩
  ·exact⟨by show 2<=sizeLine;decide,[u,v],.cons ru (.cons rv' .nil),⟨_,t2,rfl,_,rfl⟩⟩
  ·have hb':=hf c hc
   have lt:c<s.heap.objs.size:=by
    obtain⟨u',v',q3⟩:=q3
    obtain⟨o4,q4,_⟩:=q4
    obtain⟨o5,q5,_⟩:=q5
    simp only[List.mem_cons,List.not_mem_nil,or_false]at hc
    rcases hc with rfl|rfl|rfl|rfl|rfl
    ·exact zlt
    ·exact Heap.lt_size q2
    ·exact Heap.lt_size q3
    ·exact Heap.lt_size q4
    ·exact Heap.lt_size q5
   rw[ax (Nat.ne_of_lt lt)];exact hb'.1
 done:=by
  intro Y hP hw hK hc i pins s σ H E I hf st hg
  subst hP hw hK
  obtain⟨xs,ys,hq,hr,hl⟩:=hg
  obtain⟨its,rv,p1,hz⟩:=I.tuple hq
  obtain⟨jts,rw',p2,hz'⟩:=I.tuple hr
  obtain⟨q1,q2,q3,q4,q5⟩:=st
  have l1:=rv.length
  have l2:=rw'.length
  refine Zs.pyDone (I.ok.hd hc) (lg (i:=i1) (l:=a) (xs:=its.toArray) D.l1i1) (lg (i:=i2) (l:=b) (xs:=jts.toArray) D.l2i2) ⟨D,q1,q2,q3,⟨q4,p1⟩,⟨q5,p2⟩⟩ ?_ fun h1 k1=>⟨rfl,pL (s:=s) (t2:=s.toks) (ch:=[z,TI,TO,i1,i2]) I (fun c o nc q=>k1 c o (fun e=>nc ?_) q) hf⟩
  ·rcases hl with hl|hl
   ·exact .inl (by simp;omega)
   ·exact .inr (by simp;omega)
  ·simp only[List.mem_cons,List.not_mem_nil,or_false]at e⊢
   rcases e with e|e|e|e<;>simp[e]
 self:=fun _ _ _ _ _ st h=>wpAny_pyIter_zip st.1 h
theorem IP{p:Pos}{a b:Expr}{m:List D}(hg:Gl X "zip")(hm0:X.mg "zip" = none)(ha:AD X ρ [a,b] [.tup l,.tup m] k)(hst:∀e∈[a,b],∀y p,e ≠ .Starred y p)(hf:ar l=true)(hm:ar m=true) :
  IE X ρ (.Tuple es n1 tp) (.Call (.Name "zip" p) [a,b] [] pos) (List.zipWith (fun x y=>.tup [x,y]) l m) 0:=by
 intro ow pins s σ H R I ⟨E,q⟩
 have n1':=aF (env:=X.env) (es:=[b]) (hst a (by simp))
 have n2':(backTo pos (starEach [b] X.env)).any (·.1)=false:=bi fun x hx=>hst x (by simp at hx;simp[hx])
 refine Call_ (dA I hg hm0 (show bootBuiltins "zip" = some (.type "zip") by decide +kernel) (PyProof.Rows.callWith_type1 (aN (ha ow pos pins s σ H (fun vs H1=>ay H H1/\ag X.K H1 (Kp ow H k) [.tup l,.tup m] vs) I ⟨E,fun vs H1 s1 r1=>⟨s1,r1⟩⟩) fun us s1 ⟨vs,H1,I1,rv,sm,rp⟩=>?_) n1' n2') (by decide +kernel) (by decide +kernel))
 rw[ag]at rp
 obtain⟨v1,vr,rfl,rp1,rp2⟩:=rp
 obtain⟨v2,rfl,rp3⟩:=rp2.only
 obtain⟨ta,xs,rfl,hq,rl⟩:=eJ rp1
 obtain⟨tb,ys,rfl,hr,rm⟩:=eJ rp3
 obtain⟨u1,u2,rfl,ru1,ru2⟩:=mP rv
 cases (show u1=Value.ref ta from ru1)
 cases (show u2=Value.ref tb from ru2)
 obtain⟨its,rvs,pt,hz⟩:=I1.tuple hq
 obtain⟨jts,rvs',pt',hz'⟩:=I1.tuple hr
 refine Ei (show s1.heap.IsTuple ta its.toArray from pt) (show s1.heap.IsTuple tb jts.toArray from pt') fun h2 Z k2=>?_
 refine wpAny_pyIter_zip Z.rd ?_
 have I2:aj X pins σ H1 { s1 with heap:=h2 }:=I1.kept (t':=s1.toks) k2
 have fr:∀j,fU X pins H1 (s1.heap.objs.size+j):=fun j=>I1.fpOk (Nat.le_add_right _ _) (I1.hok.fresh (Nat.le_add_right _ _))
 refine⟨s1.heap.objs.size+4,[s1.heap.objs.size+4,s1.heap.objs.size+2,s1.heap.objs.size+3,s1.heap.objs.size,s1.heap.objs.size+1],_,_,H1,rfl,I2,Bj ta tb _ _ _ _ _ Z.ap,⟨Z.rd,Z.ins,Z.out,Z.fst.1,Z.snd.1⟩,fun c hc=>?_,q _ H1 sm ?_⟩
 ·simp only[List.mem_cons,List.not_mem_nil,or_false]at hc
  rcases hc with rfl|rfl|rfl|rfl|rfl
  ·exact fr 4
  ·exact fr 2
  ·exact fr 3
  ·exact fr 0
  ·exact fr 1
 ·intro i H2 st
  have rl':ag X.K H1 (Kd ow H 0 H1) l xs:=rl.flat _ hf
  have rm':ag X.K H1 (Kd ow H 0 H1) m ys:=rm.flat _ hm
  refine⟨fun d hd=>?_,fun hle=>?_⟩
  ·rw[List.getElem?_zipWith]at hd
   cases e:l[i]? with
   | none=>rw[e]at hd;cases hd
   | some x =>
    cases e':m[i]? with
    | none=>rw[e,e']at hd;cases hd
    | some y =>
     rw[e,e']at hd;cases hd
     obtain⟨u,hu,ru⟩:=rl'.get e
     obtain⟨v,hv,rv⟩:=rm'.get e'
     refine⟨⟨xs,ys,u,v,st.sq hq,hu,st.sq hr,hv⟩,fun x' H3 ⟨p',u',v',e1,e2,e3,e4,e5⟩=>?_⟩
     have c1:=e4 xs (st.sq hq)
     have c2:=e5 ys (st.sq hr)
     rw[hu]at c1;cases c1
     rw[hv]at c2;cases c2
     subst e1 e3
     have sm3:=cw (o:=HO.tup [u,v]) e2
     refine⟨sm3,?_⟩
     rw[ah]
     exact⟨p',_,rfl,cu.of aE,ag.cons ((ru.mono st).same sm3) (ag.one ((rv.mono st).same sm3))⟩
  ·rw[List.length_zipWith]at hle
   have l1:=rl.length
   have l2:=rm.length
   exact⟨xs,ys,st.sq hq,st.sq hr,by omega⟩
variable{X:Cx}
def im(κ:Bool)(h:Heap)(i a:Addr)(k:Nat):Prop:=match κ with|true=>h.IsTupleIter i a k|false=>h.IsListIter i a k
def fT(κ:Bool)(h:Heap)(a:Addr)(xs:Array Value):Prop:=match κ with|true=>h.IsTuple a xs|false=>h.IsList a xs
def mz(κ:Bool)(K:W.Frag)(H:Hp)(a:Addr)(xs:List V):Prop:=match κ with|true=>cu K H a xs|false=>cf K H a xs
def lB(κ:Bool)(l:List D):D:=match κ with|true=>.tup l|false=>.lst l
def IJ(κ:Bool):String:=match κ with|true => "tuple_iterator" | false => "list_iterator"
theorem xm(κ:Bool){i l:Addr}(ne:l≠i):Wk prog w i l (fun k h=>im κ h i l k/\fT κ h l xs) (fun k=>xs[k]?):=by
 cases κ
 ·exact GK ne
 ·exact lg ne
theorem jb{i a:Addr}(p:im κ h i a k):∃o,h.get? i=some o/\∀v,o.data≠Data.cell v:=by
 cases κ
 ·obtain⟨o,e,_,d⟩:=(show h.IsListIter i a k from p);exact⟨o,e,fun v z=>by rw[d]at z;cases z⟩
 ·obtain⟨o,e,_,d⟩:=(show h.IsTupleIter i a k from p);exact⟨o,e,fun v z=>by rw[d]at z;cases z⟩
theorem uo{i a:Addr}(p:im κ h i a k)(q:∀o,h.get? i=some o->h'.get? i=some o):im κ h' i a k:=by
 cases κ
 ·exact(show h.IsListIter i a k from p).at q
 ·exact(show h.IsTupleIter i a k from p).at q
theorem ul{a:Addr}(p:fT κ h a xs)(q:∀o,h.get? a=some o->h'.get? a=some o):fT κ h' a xs:=by
 cases κ
 ·exact(show h.IsList a xs from p).at q
 ·exact(show h.IsTuple a xs from p).at q
theorem uk{a:Addr}(p:fT κ h a xs):a<h.objs.size:=by
 cases κ
 ·obtain⟨_,e,_⟩:=(show h.IsList a xs from p);exact Heap.lt_size e
 ·obtain⟨_,e,_⟩:=(show h.IsTuple a xs from p);exact Heap.lt_size e
theorem nj{a:Addr}{xs:List V}(I:aj X pins σ H s)(h:mz κ X.K H a xs):∃its:List Value,aK xs its/\fT κ s.heap a its.toArray/\xs.length<=sizeLine:=by
 cases κ
 ·obtain⟨its,r,p,z⟩:=I.list h;exact⟨its,r,p.isList,z⟩
 ·obtain⟨its,r,p,z⟩:=I.tuple h;exact⟨its,r,p,z⟩
theorem rP{a:Addr}{xs ys:List V}(I:aj X pins σ H s)(h:mz κ X.K H a xs)(h':mz κ X.K H a ys):xs=ys:=by
 cases κ
 ·exact I.list_inj h h'
 ·exact I.tuple_inj h h'
theorem iA(h:ah X.K H1 (Kp ow H k) (lB κ l) v):∃a vs,v=.ref a/\mz κ X.K H1 a vs/\ag X.K H1 (Kp ow H k) l vs/\∀{P':be} {H2:Hp},dl (Kd ow H k H1) P' H1 H2->mz κ X.K H2 a vs:=by
 cases κ
 ·rw[show lB false l=.lst l from rfl,ah]at h
  obtain⟨a,vs,b,rfl,hl,hp,rl⟩:=h
  have hp':Kd ow H k H1 a b:=⟨hp,fun hb=>by subst hb;exact⟨_,hl⟩⟩
  exact⟨a,vs,rfl,hl.sq,rl,fun st=>(st.ls hl hp').sq⟩
 ·rw[show lB true l=.tup l from rfl,ah]at h
  obtain⟨a,vs,rfl,hl,rl⟩:=h
  exact⟨a,vs,rfl,hl,rl,fun st=>st.sq hl⟩
abbrev Da(κ:Bool)(h:Heap)(a:Addr):Heap:=h.push { cls:=.type (IJ κ),data:=.fields #[.ref a,.int 0 0] }
abbrev C9(κ κ':Bool)(h:Heap)(a b:Addr):Heap:=(Da κ h a).push { cls:=.type (IJ κ'),data:=.fields #[.ref b,.int 0 0] }
abbrev C8(κ κ':Bool)(h:Heap)(a b:Addr):Heap:=(C9 κ κ' h a b).push { cls:=.type "tuple", data:=.seq #[.ref h.objs.size,.ref (Da κ h a).objs.size] }
abbrev rD(κ κ':Bool)(h:Heap)(a b:Addr):Heap:=(C8 κ κ' h a b).push { cls:=.type "tuple", data:=.seq #[.none,.none] }
abbrev kZ(κ κ':Bool)(h:Heap)(a b:Addr):Heap:=(rD κ κ' h a b).push { cls:=.type "zip", data:=.fields #[.none,.bool false,.bool false,.ref (C9 κ κ' h a b).objs.size,.ref (C8 κ κ' h a b).objs.size] }
theorem kY(a b:Addr)(xs ys:Array Value) :
  Meets (Builtin.«zip.__new__» ⟨[.type "zip", .ref a,.ref b],[]⟩) (fun _ R s=>s.heap.IsList a xs/\s.heap.IsList b ys/\R (.ok (.ret (.ref (rD false false s.heap a b).objs.size))) { s with heap:=kZ false false s.heap a b }) :=
 .of_wp fun pg wd AA RR st hh=>by
  obtain⟨hp0,gg,dd,tk0,oo⟩:=st;obtain⟨ha,hb,hh⟩:=hh
  have hsub0:=sub_zip
  have T1:Heap.IsList (Shared.heap ⟨hp0,gg,dd,tk0,oo⟩) a xs:=ha
  have T2:Heap.IsList (Shared.heap ⟨hp0.push { cls:=.type "list_iterator", data:=.fields #[.ref a,.int 0 0] },gg,dd,tk0,oo⟩) b ys:=hb.at fun o e=>Heap.get?_push_of_some _ e
  wp_walk using wpAny_pyIter_list T1,wpAny_pyIter_list T2
  exact⟨_,rfl,hh⟩
theorem nM(a b:Addr)(xs ys:Array Value) :
  Meets (Builtin.«zip.__new__» ⟨[.type "zip", .ref a,.ref b],[]⟩) (fun _ R s=>s.heap.IsList a xs/\s.heap.IsTuple b ys/\R (.ok (.ret (.ref (rD false true s.heap a b).objs.size))) { s with heap:=kZ false true s.heap a b }) :=
 .of_wp fun pg wd AA RR st hh=>by
  obtain⟨hp0,gg,dd,tk0,oo⟩:=st;obtain⟨ha,hb,hh⟩:=hh
  have hsub0:=sub_zip
  have T1:Heap.IsList (Shared.heap ⟨hp0,gg,dd,tk0,oo⟩) a xs:=ha
  have T2:Heap.IsTuple (Shared.heap ⟨hp0.push { cls:=.type "list_iterator", data:=.fields #[.ref a,.int 0 0] },gg,dd,tk0,oo⟩) b ys:=hb.at fun o e=>Heap.get?_push_of_some _ e
  wp_walk using wpAny_pyIter_list T1,wpAny_pyIter_tuple T2
  exact⟨_,rfl,hh⟩
theorem nK(a b:Addr)(xs ys:Array Value) :
  Meets (Builtin.«zip.__new__» ⟨[.type "zip", .ref a,.ref b],[]⟩) (fun _ R s=>s.heap.IsTuple a xs/\s.heap.IsList b ys/\R (.ok (.ret (.ref (rD true false s.heap a b).objs.size))) { s with heap:=kZ true false s.heap a b }) :=
 .of_wp fun pg wd AA RR st hh=>by
  obtain⟨hp0,gg,dd,tk0,oo⟩:=st;obtain⟨ha,hb,hh⟩:=hh
  have hsub0:=sub_zip
  have T1:Heap.IsTuple (Shared.heap ⟨hp0,gg,dd,tk0,oo⟩) a xs:=ha
  have T2:Heap.IsList (Shared.heap ⟨hp0.push { cls:=.type "tuple_iterator", data:=.fields #[.ref a,.int 0 0] },gg,dd,tk0,oo⟩) b ys:=hb.at fun o e=>Heap.get?_push_of_some _ e
  wp_walk using wpAny_pyIter_tuple T1,wpAny_pyIter_list T2
  exact⟨_,rfl,hh⟩
theorem n4(a b:Addr)(xs ys:Array Value) :
  Meets (Builtin.«zip.__new__» ⟨[.type "zip", .ref a,.ref b],[]⟩) (fun _ R s=>s.heap.IsTuple a xs/\s.heap.IsTuple b ys/\R (.ok (.ret (.ref (rD true true s.heap a b).objs.size))) { s with heap:=kZ true true s.heap a b }) :=
 .of_wp fun pg wd AA RR st hh=>by
  obtain⟨hp0,gg,dd,tk0,oo⟩:=st;obtain⟨ha,hb,hh⟩:=hh
  have hsub0:=sub_zip
  have T1:Heap.IsTuple (Shared.heap ⟨hp0,gg,dd,tk0,oo⟩) a xs:=ha
  have T2:Heap.IsTuple (Shared.heap ⟨hp0.push { cls:=.type "tuple_iterator", data:=.fields #[.ref a,.int 0 0] },gg,dd,tk0,oo⟩) b ys:=hb.at fun o e=>Heap.get?_push_of_some _ e
  wp_walk using wpAny_pyIter_tuple T1,wpAny_pyIter_tuple T2
  exact⟨_,rfl,hh⟩
theorem GI(κ κ':Bool)(a b:Addr)(xs ys:Array Value) :
  Meets (Builtin.«zip.__new__» ⟨[.type "zip", .ref a,.ref b],[]⟩) (fun _ R s=>fT κ s.heap a xs/\fT κ' s.heap b ys/\R (.ok (.ret (.ref (rD κ κ' s.heap a b).objs.size))) { s with heap:=kZ κ κ' s.heap a b }):=by
 cases κ<;>cases κ'
 ·exact kY a b xs ys
 ·exact nM a b xs ys
 ·exact nK a b xs ys
 ·exact n4 a b xs ys
theorem um{i a:Addr}(e:h.get? i=some { cls:=.type (IJ κ),data:=.fields #[.ref a,.int 0 0] }):im κ h i a 0:=by
 cases κ
 ·exact⟨_,e,rfl,rfl⟩
 ·exact⟨_,e,rfl,rfl⟩
theorem Bh{a b:Addr}(ha:fT κ s.heap a xs)(hb:fT κ' s.heap b ys)
  (go:∀h1,Zs (s.heap.objs.size+4) (s.heap.objs.size+2) (s.heap.objs.size+3) s.heap.objs.size (s.heap.objs.size+1) a b (fun k h=>im κ h s.heap.objs.size a k/\fT κ h a xs) (fun k h=>im κ' h (s.heap.objs.size+1) b k/\fT κ' h b ys) 0 h1->(∀c o,s.heap.get? c=some o->h1.get? c=some o)->Q (.ref (s.heap.objs.size+4)) { s with heap:=h1 }) :
  wpAny (model prog w) A (call (.type "zip") [.ref a,.ref b]) Q E s:=by
 refine callType_new F.called_zip (by decide) (F.typeCall_zip_2 _ _) (F.newCall_zip_2 _ _) (fun ob=>F.args_object_init_3 ob _ _) F.entry_zip_new (GI κ κ' a b xs ys) ⟨ha,hb,?_⟩
 have s1:(Da κ s.heap a).objs.size=s.heap.objs.size+1:=Heap.size_push ..
 have s2:(C9 κ κ' s.heap a b).objs.size=s.heap.objs.size+2:=by rw[Heap.size_push,s1]
 have s3:(C8 κ κ' s.heap a b).objs.size=s.heap.objs.size+3:=by rw[Heap.size_push,s2]
 have s4:(rD κ κ' s.heap a b).objs.size=s.heap.objs.size+4:=by rw[Heap.size_push,s3]
 have r5:(kZ κ κ' s.heap a b).get? (rD κ κ' s.heap a b).objs.size=some _:=Heap.get?_push_size _ rfl
 have r4:(kZ κ κ' s.heap a b).get? (C8 κ κ' s.heap a b).objs.size=some _:=Heap.get?_push_of_some _ (Heap.get?_push_size _ rfl)
 have r3:(kZ κ κ' s.heap a b).get? (C9 κ κ' s.heap a b).objs.size=some _:=Heap.get?_push_of_some _ (Heap.get?_push_of_some _ (Heap.get?_push_size _ rfl))
 have r2:(kZ κ κ' s.heap a b).get? (Da κ s.heap a).objs.size=some _:=Heap.get?_push_of_some _ (Heap.get?_push_of_some _ (Heap.get?_push_of_some _ (Heap.get?_push_size _ rfl)))
 have r1:(kZ κ κ' s.heap a b).get? s.heap.objs.size=some _:=Heap.get?_push_of_some _ (Heap.get?_push_of_some _ (Heap.get?_push_of_some _ (Heap.get?_push_of_some _ (Heap.get?_push_size _ rfl))))
 have up:∀c o,s.heap.get? c=some o->(kZ κ κ' s.heap a b).get? c=some o:=fun c o e=>Heap.get?_push_of_some _ (Heap.get?_push_of_some _ (Heap.get?_push_of_some _ (Heap.get?_push_of_some _ (Heap.get?_push_of_some _ e))))
 have la:a<s.heap.objs.size:=uk ha
 have lb:b<s.heap.objs.size:=uk hb
 rw[s2,s3,s4]at r5
 rw[s1,s2]at r3
 rw[s3]at r4
 rw[s1]at r2
 show _/\_
 rw[s4]
 have ne:∀{m n:Nat},m<n->m≠n:=fun h=>Nat.ne_of_lt h
 refine⟨⟨_,r5,rfl⟩,go _ ⟨?_,r5,r3,⟨_,_,r4⟩,⟨um r1,ul ha fun o e=>up _ _ e⟩,⟨um r2,ul hb fun o e=>up _ _ e⟩⟩ up⟩
 generalize s.heap.objs.size=n at la lb
 have la':(a:Nat)<n:=la
 have lb':(b:Nat)<n:=lb
 constructor<;>first|exact ne (by omega)|exact(ne (by omega)).symm|exact ne (Nat.lt_of_lt_of_le la (by omega))|exact ne (Nat.lt_of_lt_of_le lb (by omega))|exact ne la|exact ne lb
def SA(κ κ':Bool)(K:W.Frag)(a b:Addr):It :=
 ⟨fun i H => ∃xs ys x y,mz κ K H a xs/\xs[i]?=some x/\mz κ' K H b ys/\ys[i]?=some y,fun i H x H' => ∃p u v,x=.ref p/\H p=none/\H'=aG H p (.tup [u,v])/\(∀xs,mz κ K H a xs->xs[i]?=some u)/\∀ys,mz κ' K H b ys->ys[i]?=some v,fun i H => ∃xs ys,mz κ K H a xs/\mz κ' K H b ys/\(xs.length<=i\/ys.length<=i)⟩
theorem yZ(κ κ':Bool){P:Program}(a b z TI TO i1 i2:Addr)(D:ZipApart z TI TO i1 i2 a b) :
  L2.Turn P w K (.Tuple es n1 pos) (SA κ κ' K a b) [z,TI,TO,i1,i2] z (fun i h=>IsZip h z TI TO .none/\IsPair h TI (.ref i1) (.ref i2)/\(∃u v,IsPair h TO u v)/\im κ h i1 a i/\im κ' h i2 b i) where
 mem:=by simp
 obj:=fun i h st c hc=>by
  obtain⟨q1,q2,⟨u,v,q3⟩,q4,q5⟩:=st
  obtain⟨o4,q4,d4⟩:=jb q4
  obtain⟨o5,q5,d5⟩:=jb q5
  simp only[List.mem_cons,List.not_mem_nil,or_false]at hc
  rcases hc with rfl|rfl|rfl|rfl|rfl
  ·exact⟨_,q1,fun v e=>by have e':Data.fields _=Data.cell v:=e;cases e'⟩
  ·exact⟨_,q2,fun v e=>by have e':Data.seq _ _=Data.cell v:=e;cases e'⟩
  ·exact⟨_,q3,fun v e=>by have e':Data.seq _ _=Data.cell v:=e;cases e'⟩
  ·exact⟨_,q4,d4⟩
  ·exact⟨_,q5,d5⟩
 keep:=fun i h h' ⟨q1,q2,⟨u,v,q3⟩,q4,q5⟩ k=>⟨k _ (by simp) _ q1,k _ (by simp) _ q2,⟨u,v,k _ (by simp) _ q3⟩,uo q4 fun o e=>k _ (by simp) o e,uo q5 fun o e=>k _ (by simp) o e⟩
 item:=by
  intro Y hP hw hK hc i pins s σ H E I hf st hg
  subst hP hw hK
  obtain⟨xs,ys,x,y,hq,hx,hr,hy⟩:=hg
  obtain⟨its,rv,p1,hz⟩:=nj I hq
  obtain⟨jts,rw',p2,hz'⟩:=nj I hr
  obtain⟨u,hu,ru⟩:=rv.get hx
  obtain⟨v,hv,rv'⟩:=rw'.get hy
  obtain⟨q1,q2,q3,q4,q5⟩:=st
  have zlt:z<s.heap.objs.size:=Heap.lt_size q1
  refine Zs.pyItem (xm κ (i:=i1) (l:=a) (xs:=its.toArray) D.l1i1) (xm κ' (i:=i2) (l:=b) (xs:=jts.toArray) D.l2i2) ⟨D,q1,q2,q3,⟨q4,p1⟩,⟨q5,p2⟩⟩ (x:=u) (y:=v) (by simpa using hu) (by simpa using hv) fun h1 lH zo t1 k1=>?_
  refine⟨_,rfl,wpAny_letOwnedTupleGo_zip zo fun h2 z2 m2=>?_⟩
  have m2:Heap.SameBut z h1 h2:=m2
  have N:=lH h2 z2 m2
  have k2:∀c o,c∉[z,TI,TO,i1,i2]->s.heap.get? c=some o->h2.get? c=some o:=fun c o nc q=>by
   have n1:c≠z:=fun e=>nc (by simp[e])
   refine m2.extBut c o n1 (k1 c o (fun e=>nc ?_) q)
   simp only[List.mem_cons,List.not_mem_nil,or_false]at e⊢
   rcases e with e|e|e|e<;>simp[e]
  have t2:h2.get? s.heap.objs.size=some { cls:=.type "tuple", data:=.seq #[u,v] }:=m2.extBut _ _ (Nat.ne_of_gt zlt) t1
  have hn0:H s.heap.objs.size=none:=I.hok.fresh (Nat.le_refl _)
  refine⟨.ref s.heap.objs.size,aG H s.heap.objs.size (.tup [x,y]),jc (s:=s) (h2:=h2) (t2:=s.toks) I k2 (Nat.le_refl _) hf ?_,rfl,⟨_,x,y,rfl,hn0,rfl,fun ws hw=>by rw[rP I hw hq];exact hx,fun ws hw=>by rw[rP I hw hr];exact hy⟩,⟨N.rd,N.ins,N.out,N.fst.1,N.snd.1⟩,fun c hc=>?_⟩
  ·exact⟨by show 2<=sizeLine;decide,[u,v],.cons ru (.cons rv' .nil),⟨_,t2,rfl,_,rfl⟩⟩
  ·have hb':=hf c hc
   have lt:c<s.heap.objs.size:=by
    obtain⟨u',v',q3⟩:=q3
    obtain⟨o4,q4,_⟩:=jb q4
    obtain⟨o5,q5,_⟩:=jb q5
    simp only[List.mem_cons,List.not_mem_nil,or_false]at hc
    rcases hc with rfl|rfl|rfl|rfl|rfl
    ·exact zlt
    ·exact Heap.lt_size q2
    ·exact Heap.lt_size q3
    ·exact Heap.lt_size q4
    ·exact Heap.lt_size q5
   rw[ax (Nat.ne_of_lt lt)];exact hb'.1
 done:=by
  intro Y hP hw hK hc i pins s σ H E I hf st hg
  subst hP hw hK
  obtain⟨xs,ys,hq,hr,hl⟩:=hg
  obtain⟨its,rv,p1,hz⟩:=nj I hq
  obtain⟨jts,rw',p2,hz'⟩:=nj I hr
  obtain⟨q1,q2,q3,q4,q5⟩:=st
  have l1:=rv.length
  have l2:=rw'.length
  refine Zs.pyDone (I.ok.hd hc) (xm κ (i:=i1) (l:=a) (xs:=its.toArray) D.l1i1) (xm κ' (i:=i2) (l:=b) (xs:=jts.toArray) D.l2i2) ⟨D,q1,q2,q3,⟨q4,p1⟩,⟨q5,p2⟩⟩ ?_ fun h1 k1=>⟨rfl,pL (s:=s) (t2:=s.toks) (ch:=[z,TI,TO,i1,i2]) I (fun c o nc q=>k1 c o (fun e=>nc ?_) q) hf⟩
  ·rcases hl with hl|hl
   ·exact .inl (by simp;omega)
   ·exact .inr (by simp;omega)
  ·simp only[List.mem_cons,List.not_mem_nil,or_false]at e⊢
   rcases e with e|e|e|e<;>simp[e]
 self:=fun _ _ _ _ _ st h=>wpAny_pyIter_zip st.1 h
theorem FG{p:Pos}{a b:Expr}{m:List D}(hg:Gl X "zip")(hm0:X.mg "zip" = none)(ha:AD X ρ [a,b] [lB κ l,lB κ' m] k)(hst:∀e∈[a,b],∀y p,e ≠ .Starred y p)(hf:ar l=true)(hm:ar m=true) :
  IE X ρ (.Tuple es n1 tp) (.Call (.Name "zip" p) [a,b] [] pos) (List.zipWith (fun x y=>.tup [x,y]) l m) k:=by
 intro ow pins s σ H R I ⟨E,q⟩
 have n1':=aF (env:=X.env) (es:=[b]) (hst a (by simp))
 have n2':(backTo pos (starEach [b] X.env)).any (·.1)=false:=bi fun x hx=>hst x (by simp at hx;simp[hx])
 refine Call_ (dA I hg hm0 (show bootBuiltins "zip" = some (.type "zip") by decide +kernel) (PyProof.Rows.callWith_type1 (aN (ha ow pos pins s σ H (fun vs H1=>ay H H1/\ag X.K H1 (Kp ow H k) [lB κ l,lB κ' m] vs) I ⟨E,fun vs H1 s1 r1=>⟨s1,r1⟩⟩) fun us s1 ⟨vs,H1,I1,rv,sm,rp⟩=>?_) n1' n2') (by decide +kernel) (by decide +kernel))
 rw[ag]at rp
 obtain⟨v1,vr,rfl,rp1,rp2⟩:=rp
 obtain⟨v2,rfl,rp3⟩:=rp2.only
 obtain⟨ta,xs,rfl,hq,rl,hk1⟩:=iA rp1
 obtain⟨tb,ys,rfl,hr,rm,hk2⟩:=iA rp3
 obtain⟨u1,u2,rfl,ru1,ru2⟩:=mP rv
 cases (show u1=Value.ref ta from ru1)
 cases (show u2=Value.ref tb from ru2)
 obtain⟨its,rvs,pt,hz⟩:=nj I1 hq
 obtain⟨jts,rvs',pt',hz'⟩:=nj I1 hr
 refine Bh (κ:=κ) (κ':=κ') pt pt' fun h2 Z k2=>?_
 refine wpAny_pyIter_zip Z.rd ?_
 have I2:aj X pins σ H1 { s1 with heap:=h2 }:=I1.kept (t':=s1.toks) k2
 have fr:∀j,fU X pins H1 (s1.heap.objs.size+j):=fun j=>I1.fpOk (Nat.le_add_right _ _) (I1.hok.fresh (Nat.le_add_right _ _))
 refine⟨s1.heap.objs.size+4,[s1.heap.objs.size+4,s1.heap.objs.size+2,s1.heap.objs.size+3,s1.heap.objs.size,s1.heap.objs.size+1],_,_,H1,rfl,I2,yZ κ κ' ta tb _ _ _ _ _ Z.ap,⟨Z.rd,Z.ins,Z.out,Z.fst.1,Z.snd.1⟩,fun c hc=>?_,q _ H1 sm ?_⟩
 ·simp only[List.mem_cons,List.not_mem_nil,or_false]at hc
  rcases hc with rfl|rfl|rfl|rfl|rfl
  ·exact fr 4
  ·exact fr 2
  ·exact fr 3
  ·exact fr 0
  ·exact fr 1
 ·intro i H2 st
  have rl':ag X.K H1 (Kd ow H k H1) l xs:=rl.flat _ hf
  have rm':ag X.K H1 (Kd ow H k H1) m ys:=rm.flat _ hm
  refine⟨fun d hd=>?_,fun hle=>?_⟩
  ·rw[List.getElem?_zipWith]at hd
   cases e:l[i]? with
   | none=>rw[e]at hd;cases hd
   | some x =>
    cases e':m[i]? with
    | none=>rw[e,e']at hd;cases hd
    | some y =>
     rw[e,e']at hd;cases hd
     obtain⟨u,hu,ru⟩:=rl'.get e
     obtain⟨v,hv,rv⟩:=rm'.get e'
     refine⟨⟨xs,ys,u,v,hk1 st,hu,hk2 st,hv⟩,fun x' H3 ⟨p',u',v',e1,e2,e3,e4,e5⟩=>?_⟩
     have c1:=e4 xs (hk1 st)
     have c2:=e5 ys (hk2 st)
     rw[hu]at c1;cases c1
     rw[hv]at c2;cases c2
     subst e1 e3
     have sm3:=cw (o:=HO.tup [u,v]) e2
     refine⟨sm3,?_⟩
     rw[ah]
     exact⟨p',_,rfl,cu.of aE,ag.cons ((ru.mono st).same sm3) (ag.one ((rv.mono st).same sm3))⟩
  ·rw[List.length_zipWith]at hle
   have l1:=rl.length
   have l2:=rm.length
   exact⟨xs,ys,hk1 st,hk2 st,by omega⟩
theorem vY{x:D}(h:eU x=some l):∃κ,x=lB κ l:=by
 rcases fy h with rfl|rfl
 ·exact⟨true,rfl⟩
 ·exact⟨false,rfl⟩
theorem FJ:kF "zip" Cb:=by
 refine⟨by decide +kernel,fun X ρ p pos args ds k d j l tg o hc hg hm ha hst hlen h hp hl ht=>?_⟩
 have ht2:iH tg=true:=by simpa [fc]using ht
 obtain⟨es,n1,tp,rfl⟩:=rN ht2
 unfold Cb at h
 split at h
 ·cases h
  cases hl
  match args,hlen,ha,hst with
  | [a',b'],_,ha,hst=>exact IP hg hm ha hst hp.1 hp.2.1
 ·split at h
  ·rename_i x y _ a b e1 e2
   cases h
   cases hl
   obtain⟨κ,rfl⟩:=vY e1
   obtain⟨κ',rfl⟩:=vY e2
   match args,hlen,ha,hst with
   | [a',b'],_,ha,hst=>exact FG hg hm ha hst hp.1 hp.2.1
  ·cases h
 ·cases h
open AutoSeq1 (wpAny_loadPart')
variable{X:Cx}
theorem F7(tu:Addr)(vs:Array Value)(n:Nat)(dc:Option Addr)(so:Array (Option Value)) :
  Meets (Builtin.«enumerate.__new__» ⟨[.type "enumerate", .ref tu],[]⟩) (fun _ R st=>st.heap.get? tu=some { cls:=.type "list", dict:=dc,data:=.seq vs n,slots:=so } /\
   R (.ok (.ret (.ref (st.heap.push { cls:=.type "list_iterator", data:=.fields #[.ref tu,.int 0 0] }).objs.size)))
    { st with heap:=(st.heap.push { cls:=.type "list_iterator", data:=.fields #[.ref tu,.int 0 0] }).push { cls:=.type "enumerate", data:=.fields #[.none,.bool false,.ref st.heap.objs.size,rawInt 0,.none,.none] } }) :=
 .of_wp fun pg wd AA RR st hh=>by
  obtain⟨hp0,gg,dd,tk0,oo⟩:=st;obtain⟨htu,hh⟩:=hh
  have hsub0:=sub_enumerate
  have hTT:Heap.IsList (Shared.heap ⟨hp0,gg,dd,tk0,oo⟩) tu vs:=⟨_,htu,rfl,n,rfl⟩
  wp_walk using wpAny_loadPart' htu
  refine wpAny_stack_any fun stk0=>wpAny_pure ?_
  split
  ·rename_i c0 _ _ _ _ _
   cases (c0==Value.type "enumerate")
   ·wp_walk using wpAny_loadPart' htu,wpAny_pyIter_list hTT
    exact⟨_,rfl,hh⟩
   ·wp_walk using wpAny_loadPart' htu,wpAny_pyIter_list hTT
    exact⟨_,rfl,hh⟩
  ·wp_walk using wpAny_loadPart' htu,wpAny_pyIter_list hTT
   exact⟨_,rfl,hh⟩
section
variable{prog:Program}{w:World}{A:Around}{E:Value->Shared->Prop}{s:Shared}
theorem Cq{vs:Array Value}(hT:s.heap.IsList tu vs)
  (go:∀h1,IsEnum h1 (s.heap.objs.size+1) s.heap.objs.size 0 .none->h1.IsListIter s.heap.objs.size tu 0->h1.objs.size=s.heap.objs.size+2->(∀b o,s.heap.get? b=some o->h1.get? b=some o)->Q (.ref (s.heap.objs.size+1)) { s with heap:=h1 }) :
  wpAny (model prog w) A (call (.type "enumerate") [.ref tu]) Q E s:=by
 obtain⟨⟨cc,dc,dt,so⟩,htu,hcc,n,hdd⟩:=hT
 replace hcc:cc=.type "list" := hcc
 replace hdd:dt=.seq vs n:=hdd
 subst hcc hdd
 refine callType_new F.called_enumerate (by decide) (F.typeCall_enumerate_1 _) (F.newCall_enumerate_1 _) (fun ob=>F.args_object_init_2 ob _) F.entry_enumerate_new (F7 tu vs n dc so) ⟨htu,?_⟩
 have sz:(s.heap.push { cls:=.type "list_iterator", data:=.fields #[.ref tu,.int 0 0] }).objs.size=s.heap.objs.size+1:=Heap.size_push ..
 show _/\_
 rw[sz]
 have isE:IsEnum ((s.heap.push { cls:=.type "list_iterator", data:=.fields #[.ref tu,.int 0 0] }).push { cls:=.type "enumerate", data:=.fields #[.none,.bool false,.ref s.heap.objs.size,rawInt 0,.none,.none] }) (s.heap.objs.size+1) s.heap.objs.size 0 .none:=by
  have q:=Heap.get?_push_size (s.heap.push { cls:=.type "list_iterator", data:=.fields #[.ref tu,.int 0 0] }) (o:={ cls:=.type "enumerate", data:=.fields #[.none,.bool false,.ref s.heap.objs.size,rawInt 0,.none,.none] }) rfl
  rw[sz]at q;exact q
 refine⟨⟨_,isE,rfl⟩,go _ isE ⟨_,Heap.get?_push_of_some _ (Heap.get?_push_size _ rfl),rfl,rfl⟩ (by rw[Heap.size_push,sz]) fun b o z=>Heap.get?_push_of_some _ (Heap.get?_push_of_some _ z)⟩
theorem Cp{e it:Addr}{vs:Array Value}{x:Value}{Q:Option Value->Shared->Prop}(isE:IsEnum s.heap e it i old)(hIt:s.heap.IsListIter it tu i)(hT:s.heap.IsList tu vs)(hx:vs[i]?=some x)(hne:e≠it)
  (go:∀h1,IsEnumOut h1 e it ((i:Int)+1) x s.heap.objs.size->h1.IsListIter it tu (i+1)->h1.get? s.heap.objs.size=some { cls:=.type "tuple", data:=.seq #[.int i s.toks,x] }->(∀b o,b≠e->b≠it->s.heap.get? b=some o->h1.get? b=some o)->Q (some (.ref s.heap.objs.size)) { s with heap:=h1,toks:=s.toks+1 }) :
  wpAny (model prog w) A (pyNext (.ref e)) Q E s:=by
 have tyE:s.TypeIs (.ref e) "enumerate" := ⟨_,isE,rfl⟩
 unfold pyNext
 refine wpAny_bind (wpAny_attempt (wpAny_callSpecial?_slot (name:=Str.ofString "__next__") tyE F.slot_enumerate_next (wpAny_call_entry F.slot_enumerate_next tyE F.entry_enumerate_next ?_ (F.args_enumerate_next_1 _))))
 exact wG (Kn:=fun h1=>h1.IsListIter it tu (i+1)) isE hne (fun h1 h2 k hk=>k.at hk) (fun Q1 q1=>wpAny_nextOf_list_item hIt hT hx q1) fun h1 a b c d=>wpAny_pure (go h1 a b c d)
theorem Gb{e it:Addr}{vs:Array Value}{Q:Option Value->Shared->Prop}(hh:A.handled=none)(isE:IsEnum s.heap e it i old)(hIt:s.heap.IsListIter it tu i)(hT:s.heap.IsList tu vs)(hx:vs[i]?=none)
  (go:∀h1,Heap.ExtBut it s.heap h1->Q none { s with heap:=h1 }):wpAny (model prog w) A (pyNext (.ref e)) Q E s:=by
 have tyE:s.TypeIs (.ref e) "enumerate" := ⟨_,isE,rfl⟩
 unfold pyNext
 refine wpAny_bind (wpAny_attempt (wpAny_callSpecial?_slot (name:=Str.ofString "__next__") tyE F.slot_enumerate_next (wpAny_call_entry F.slot_enumerate_next tyE F.entry_enumerate_next ?_ (F.args_enumerate_next_1 _))))
 show wpAny _ _ (field (.ref e) 2 >>= _) _ _ _
 refine wpAny_bind (wpAny_field isE rfl (x:=Value.ref it) rfl (wpAny_bind (wpAny_nextOf_list_end hh hIt hT hx fun h1 xx eb hx'=>?_)))
 obtain⟨o,ho,hc⟩:=hx'
 exact wpAny_bind (wpAny_isInstance (T := "StopIteration") (b:=true) ⟨o,ho,hc⟩ isSubtype_stop (wpAny_pure (go _ eb)))
end
def SC(K:W.Frag)(a:Addr):It :=
 ⟨fun i H => ∃xs x,cf K H a xs/\xs[i]?=some x,fun i H x H' => ∃p v,x=.ref p/\H p=none/\H'=aG H p (.tup [.int (i:Nat),v])/\∀xs,cf K H a xs->xs[i]?=some v,fun i H => ∃xs,cf K H a xs/\xs.length<=i⟩
theorem xr{P:Program}(a e it:Addr)(hne:e≠it) :
  L2.Turn P w K (.Tuple es n1 pos) (SC K a) [e,it] e (fun i h=>(∃old,IsEnum h e it ((i:Nat):Int) old)/\h.IsListIter it a i) where
 mem:=by simp
 obj:=fun i h st b hb=>by
  obtain⟨⟨old,q⟩,o,q2,c,d⟩:=st
  rcases List.mem_cons.mp hb with rfl|hb
  ·exact⟨_,q,fun v z=>by have z':Data.fields _=Data.cell v:=z;cases z'⟩
  ·have eb:b=it:=by simpa using hb
   subst eb
   exact⟨o,q2,fun v z=>by rw[d]at z;cases z⟩
 keep:=fun i h h' st k=>⟨let ⟨old,q⟩:=st.1;⟨old,k e (by simp) _ q⟩,st.2.at fun o q=>k it (by simp) o q⟩
 item:=by
  intro Y hP hw hK hc i pins s σ H E I hf st hg
  subst hP hw hK
  obtain⟨xs,x,hq,hx⟩:=hg
  obtain⟨its,rv,p,hz⟩:=I.list hq
  obtain⟨u,hu,ru⟩:=rv.get hx
  obtain⟨⟨old,isE⟩,hIt⟩:=st
  refine Cp isE hIt (show s.heap.IsList a its.toArray from p.isList) (x:=u) (by simpa using hu) hne fun h1 eo it1 t1 k1=>?_
  refine⟨_,rfl,wpAny_letOwnedTupleGo_enum eo fun h2 e2 sb2=>?_⟩
  have sb2':Heap.SameBut e h1 h2:=sb2
  have elt:e<s.heap.objs.size:=Heap.lt_size isE
  have k2:∀b o,b∉[e,it]->s.heap.get? b=some o->h2.get? b=some o:=fun b o nb q=>by
   have n1:b≠e:=fun z=>nb (by simp[z])
   have n2:b≠it:=fun z=>nb (by simp[z])
   exact sb2'.extBut b o n1 (k1 b o n1 n2 q)
  have t2:h2.get? s.heap.objs.size=some { cls:=.type "tuple", data:=.seq #[.int i s.toks,u] }:=sb2'.extBut _ _ (Nat.ne_of_gt elt) t1
  have hn0:H s.heap.objs.size=none:=I.hok.fresh (Nat.le_refl _)
  refine⟨.ref s.heap.objs.size,aG H s.heap.objs.size (.tup [.int (i:Nat),x]),jc (s:=s) (h2:=h2) (t2:=s.toks+1) I k2 (Nat.le_refl _) hf ?_,rfl,⟨_,x,rfl,hn0,rfl,fun ys hy=>by rw[I.list_inj hy hq];exact hx⟩,⟨⟨u,?_⟩,it1.at fun o q=>sb2'.extBut it o (Ne.symm hne) q⟩,fun b hb=>?_⟩
  ·exact⟨by show 2<=sizeLine;decide,[.int i s.toks,u],.cons ⟨_,rfl⟩ (.cons ru .nil),⟨_,t2,rfl,_,rfl⟩⟩
  ·have q:=e2
   rw[show((i:Nat):Int)+1=((i+1:Nat):Int) by omega]at q
   exact q
  ·have hb':=hf b hb
   have lt:b<s.heap.objs.size:=by
    rcases List.mem_cons.mp hb with rfl|hb
    ·exact elt
    ·have eb:b=it:=by simpa using hb
     subst eb
     obtain⟨o,q,_⟩:=hIt
     exact Heap.lt_size q
   rw[ax (Nat.ne_of_lt lt)];exact hb'.1
 done:=by
  intro Y hP hw hK hc i pins s σ H E I hf st hg
  subst hP hw hK
  obtain⟨xs,hq,hx⟩:=hg
  obtain⟨its,rv,p,hz⟩:=I.list hq
  obtain⟨⟨old,isE⟩,hIt⟩:=st
  obtain⟨f0,f1,f2,f3,f4,f5⟩:=hf it (by simp)
  have hl:=rv.length
  exact Gb (I.ok.hd hc) isE hIt (show s.heap.IsList a its.toArray from p.isList) (by simp;omega) fun h1 eb=>⟨rfl,I.turned (t':=s.toks) (fun b o hb q=>eb b o hb q) f0 f1 f3 f4 f5⟩
 self:=fun _ _ _ _ _ st h=>let ⟨old,q⟩:=st.1;wpAny_pyIter_enum q h
theorem Ca{p:Pos}(hg:Gl X "enumerate")(hm0:X.mg "enumerate" = none)(ha:AD X ρ [a] [.lst l] k)(hst:∀y p,a ≠ .Starred y p)(hf:ar l=true) :
  IE X ρ (.Tuple es n1 tp) (.Call (.Name "enumerate" p) [a] [] pos) (l.mapIdx fun i x=>.tup [.int (i:Nat),x]) k:=by
 intro ow pins s σ H R I ⟨E,q⟩
 refine Call_ (dA I hg hm0 (show bootBuiltins "enumerate" = some (.type "enumerate") by decide +kernel) (PyProof.Rows.callWith_type1 (aN (ha ow pos pins s σ H (fun vs H1=>ay H H1/\ag X.K H1 (Kp ow H k) [.lst l] vs) I ⟨E,fun vs H1 s1 r1=>⟨s1,r1⟩⟩) fun us s1 ⟨vs,H1,I1,rv,sm,rp⟩=>?_) (aF hst) rfl) (by decide +kernel) (by decide +kernel))
 obtain⟨v,rfl,rv1⟩:=rp.only
 obtain⟨ta,xs,rfl,hq,rl,hk1⟩:=iA (κ:=false) rv1
 replace hq:cf X.K H1 ta xs:=hq
 obtain⟨u,rfl,ru⟩:=dP rv
 cases (show u=Value.ref ta from ru)
 obtain⟨its,rvs,pt,hz⟩:=I1.list hq
 refine Cq (show s1.heap.IsList ta its.toArray from pt.isList) fun h2 isE hIt sz k2=>?_
 refine wpAny_pyIter_enum isE ?_
 have I2:aj X pins σ H1 { s1 with heap:=h2 }:=I1.kept (t':=s1.toks) k2
 have f0:H1 s1.heap.objs.size=none:=I1.hok.fresh (Nat.le_refl _)
 have f1:H1 (s1.heap.objs.size+1)=none:=I1.hok.fresh (Nat.le_succ _)
 refine⟨s1.heap.objs.size+1,[s1.heap.objs.size+1,s1.heap.objs.size],_,_,H1,rfl,I2,xr ta _ _ (Nat.ne_of_gt (Nat.lt_succ_self _)),⟨⟨_,isE⟩,hIt⟩,fun b hb=>?_,q _ H1 sm ?_⟩
 ·rcases List.mem_cons.mp hb with rfl|hb
  ·exact I1.fpOk (Nat.le_succ _) f1
  ·have eb:b=s1.heap.objs.size:=by simpa using hb
   subst eb
   exact I1.fpOk (Nat.le_refl _) f0
 ·intro i H2 st
  have rl':ag X.K H1 (Kd ow H k H1) l xs:=rl.flat _ hf
  refine⟨fun d hd=>?_,fun hle=>?_⟩
  ·rw[List.getElem?_mapIdx]at hd
   cases e:l[i]? with
   | none=>rw[e]at hd;cases hd
   | some x =>
    rw[e]at hd;cases hd
    obtain⟨y,hy,ry⟩:=rl'.get e
    refine⟨⟨xs,y,hk1 st,hy⟩,fun x' H3 ⟨p',v',e1,e2,e3,e4⟩=>?_⟩
    have hv:=e4 xs (hk1 st)
    rw[hy]at hv;cases hv
    subst e1 e3
    have sm3:=cw (o:=HO.tup [.int (i:Nat),y]) e2
    refine⟨sm3,?_⟩
    rw[ah]
    exact⟨p',_,rfl,cu.of aE,ag.cons (by rw[ah]) (ag.one ((ry.mono st).same sm3))⟩
  ·rw[List.length_mapIdx]at hle
   exact⟨xs,hk1 st,by rw[<- rl.length];exact hle⟩
theorem Ce:kF "enumerate" x8:=by
 refine⟨by decide +kernel,fun X ρ p pos args ds k d j l tg o hc hg hm ha hst hlen h hp hl ht=>?_⟩
 unfold x8 at h
 have ht2:iH tg=true:=by simpa [fc]using ht
 obtain⟨es,n1,tp,rfl⟩:=rN ht2
 split at h
 ·cases h
  cases hl
  match args,hlen,ha,hst with
  | [a'],_,ha,hst=>rw[nu];simp only[Nat.zero_add];exact FI hg hm ha (hst a' List.mem_cons_self) hp.1
 ·cases h
  cases hl
  match args,hlen,ha,hst with
  | [a'],_,ha,hst=>rw[nu];simp only[Nat.zero_add];exact Ca hg hm ha (hst a' List.mem_cons_self) hp.1
 ·cases h
open PySem.W (KasT kas_sort kas_ask KatLex KatTups kat_sorted kat_kind kat_lt kat_cons kat_nil kat_go kat_yes kat_no kat_one KasFin)
section
variable{prog:Program}{w:World}{A:Around}{E:Value->Shared->Prop}{s:Shared}
end
variable{X:Cx}
theorem cv{r:Rs α}{a:α}{l:List Prop}(h:r=.ok a l)(hp:aJ l):ac r a:=⟨l,h,hp⟩
theorem ac.eq{r:Rs α}{a b:α}(h:ac r a)(e:a=b):ac r b:=e ▸ h
theorem ac.bnd{r:Rs α}{f:α->Rs β}{a:α}{b:β}(h1:ac r a)(h2:ac (f a) b):ac (r.bnd f) b:=by
 obtain⟨l,rfl,p1⟩:=h1
 obtain⟨m,h2,p2⟩:=h2
 refine⟨l++m,?_,dD.mpr ⟨p1,p2⟩⟩
 show(match f a with | .st=>(.st:Rs β) | .ok b m=>Rs.ok b (l++m))=_
 rw[h2]
theorem ac.inj{r:Rs α}{a b:α}(h:ac r a)(g:ac r b):a=b:=by
 obtain⟨l,h,_⟩:=h;obtain⟨m,g,_⟩:=g;rw[h]at g;cases g;rfl
section
variable{Φ:Fx}{sc:Scope}{ρ ρ':af}{fl:Fl}{ss:List Stmt}
theorem cX(h:ac (aC Φ body sc (cD ps ds)) (.rt d))(hl:ds.length=ps.length:=by rfl):ac (bZ Φ sc ps body ds) d:=by
 unfold bZ;rw[if_pos hl];exact h.bnd ⟨[],rfl,True.intro⟩
theorem dw:ac (aC Φ [] sc ρ) (.nx ρ):=⟨[],rfl,True.intro⟩
theorem bD{s:Stmt}(h:ac (dJ Φ s sc ρ) (.nx ρ'))(h2:ac (aC Φ ss sc ρ') fl):ac (aC Φ (s::ss) sc ρ) fl:=ac.bnd h h2
theorem lz{s:Stmt}(h:ac (dJ Φ s sc ρ) fl)(hf:∀ρ,fl ≠ .nx ρ):ac (aC Φ (s::ss) sc ρ) fl:=ac.bnd h (by
 cases fl with
 | nx ρ=>exact absurd rfl (hf ρ)
 | rt d=>exact⟨[],rfl,True.intro⟩
 | bk ρ=>exact⟨[],rfl,True.intro⟩
 | ct ρ=>exact⟨[],rfl,True.intro⟩)
theorem iY{s:Stmt}(h:ac (dJ Φ s sc ρ) (.rt d)):ac (aC Φ (s::ss) sc ρ) (.rt d):=lz h fun _ z=>by cases z
theorem o8{s:Stmt}(h:ac (aC Φ (s::ss) sc ρ) fl):(∃ρ',ac (dJ Φ s sc ρ) (.nx ρ')/\ac (aC Φ ss sc ρ') fl)\/((∀ρ,fl ≠ .nx ρ)/\ac (dJ Φ s sc ρ) fl):=by
 obtain⟨f,h1,h2⟩:=aw (show ac (Rs.bnd _ _) fl from h)
 cases f with
 | nx ρ'=>exact .inl ⟨ρ',h1,h2⟩
 | rt d=>cases aH h2;exact .inr ⟨fun _ z=>(by cases z),h1⟩
 | bk ρ=>cases aH h2;exact .inr ⟨fun _ z=>(by cases z),h1⟩
 | ct ρ=>cases aH h2;exact .inr ⟨fun _ z=>(by cases z),h1⟩
theorem AM:∀{a:List Stmt} {ρ:af},ac (aC Φ a sc ρ) (.nx ρ')->ac (aC Φ ss sc ρ') fl->ac (aC Φ (a++ss) sc ρ) fl
 | [],ρ,h,h2=>by cases aH h;exact h2
 | s::a,ρ,h,h2=>by
  rcases o8 h with⟨ρ1,h3,h4⟩|⟨h3,_⟩
  ·exact bD h3 (AM h4 h2)
  ·exact absurd rfl (h3 _)
theorem rn:∀{a:List Stmt} {ρ:af},ac (aC Φ (a++ss) sc ρ) fl->(∃ρ',ac (aC Φ a sc ρ) (.nx ρ')/\ac (aC Φ ss sc ρ') fl)\/((∀ρ,fl ≠ .nx ρ)/\ac (aC Φ a sc ρ) fl)
 | [],ρ,h=>.inl ⟨ρ,dw,h⟩
 | s::a,ρ,h=>by
  rcases o8 h with⟨ρ1,h3,h4⟩|⟨h3,h4⟩
  ·rcases rn h4 with⟨ρ2,h5,h6⟩|⟨h5,h6⟩
   ·exact .inl ⟨ρ2,bD h3 h5,h6⟩
   ·exact .inr ⟨h5,bD h3 h6⟩
  ·exact .inr ⟨h3,lz h4 h3⟩
theorem bX(n:Nat)(h:ac (aC Φ (ss.take n) sc ρ) (.nx ρ'))(h2:ac (aC Φ (ss.drop n) sc ρ') fl):ac (aC Φ ss sc ρ) fl:=by
 rw[<- List.take_append_drop n ss];exact AM h h2
theorem sv{a b:List Stmt}(hc:ac (aA Φ c false sc ρ) (.bl t,k))(h1:t=true->ac (aC Φ (a++ss) sc ρ) fl)(h2:t=false->ac (aC Φ (b++ss) sc ρ) fl):ac (aC Φ (.If c a b p::ss) sc ρ) fl:=by
 have key:∀x,ac (cond t (aC Φ a sc ρ) (aC Φ b sc ρ)) x->ac (dJ Φ (.If c a b p) sc ρ) x:=fun x hx=>ac.bnd hc hx
 cases t with
 | true =>
  rcases rn (h1 rfl)with⟨ρ1,h3,h4⟩|⟨h3,h4⟩
  ·exact bD (key _ h3) h4
  ·exact lz (key _ h4) h3
 | false =>
  rcases rn (h2 rfl)with⟨ρ1,h3,h4⟩|⟨h3,h4⟩
  ·exact bD (key _ h3) h4
  ·exact lz (key _ h4) h3
theorem ly{a b:List Stmt}(hc:ac (aA Φ c false sc ρ) (.bl t,k))(ht:t=true)(h1:ac (aC Φ (a++ss) sc ρ) fl):ac (aC Φ (.If c a b p::ss) sc ρ) fl:=sv hc (fun _=>h1) fun z=>by rw[ht]at z;cases z
theorem cA{a b:List Stmt}(hc:ac (aA Φ c false sc ρ) (.bl t,k))(ht:t=false)(h1:ac (aC Φ (b++ss) sc ρ) fl):ac (aC Φ (.If c a b p::ss) sc ρ) fl:=sv hc (fun z=>by rw[ht]at z;cases z) fun _=>h1
theorem uG{it:Expr}(hi:ac (aA Φ it true sc (demote it ρ)) (d,k))(hd:items d=some ds)(hk:k<=1)(ht:fc it tg=true)(h:ac (ff (bQ sc tg) (aC Φ body sc) ds (demote it ρ)) fl):ac (dJ Φ (.For tg it body [] p) sc ρ) fl:=by
 rw[re,if_pos (show List.isEmpty ([]:List Stmt)=true from rfl)]
 refine hi.bnd ?_
 dsimp only
 rw[hd]
 dsimp only
 rw[if_pos ⟨hk,ht⟩]
 exact h
theorem uF{p:Pos}(h:ac (nO (fun ρ=>(aA Φ c false sc ρ).bnd fun p=>ji p fun b=>.ok b []) (aC Φ body sc) bA ρ) fl):ac (dJ Φ (.While c body [] p) sc ρ) fl:=by
 rw[uH,if_pos (show List.isEmpty ([]:List Stmt)=true from rfl)];exact h
theorem bS{v:D}(ha:ac (bG Φ args sc ρ) (ds,k))(hv:ac (F ds) v)(hF:Φ.fn f=some F:=by rfl)(hg:sc.names.lookup f=some .globalImplicit:=by rfl):ac (aA Φ (.Call (.Name f p) args [] q) it sc ρ) (v,0):=by
 rw[kr,if_pos hg]
 refine ha.bnd ?_
 unfold nB
 rw[hF]
 exact hv.bnd ⟨[],rfl,True.intro⟩
theorem dm:ac (bG Φ [] sc ρ) ([],0):=⟨[],rfl,True.intro⟩
theorem bh(h:ac (aA Φ e false sc ρ) (d,k))(h2:ac (bG Φ es sc ρ) (ds,j)):ac (bG Φ (e::es) sc ρ) (d::ds,kj k j):=ac.bnd h (ac.bnd h2 ⟨[],rfl,True.intro⟩)
theorem F0{d:D}{out:List D}(hi:ac (aA Φ iter true sc ρ) (d,k))(hd:items d=some ds)(hl:ds.length<=bA/\(ar ds=true\/k<=1))
    (h:ac (ig (fun d=>match bQ scope tg d (flt scope ρ)with
            | none=>.st
            | some ρ'=>(dM Φ .And ifs scope ρ').bnd fun b=>cond b ((aA Φ elt false scope ρ').bnd fun r=>.ok (some r) []) (.ok none [])) ds) (out,j)) (hj:j<=1) (hc:qg sc scope=true:=by rfl) (ht:fc iter tg=true:=by rfl):ac (aA Φ (.ListComp elt [⟨tg,iter,ifs,0⟩] scope p) it sc ρ) (.lst out,j):=by
  rw[rf,if_pos hc]
  refine hi.bnd ?_
  dsimp only
  rw[hd]
  dsimp only
  rw[if_pos ht]
  refine ac.bnd (a:=()) ⟨_,rfl,hl.1,hl.2,True.intro⟩ ?_
  refine h.bnd ?_
  rw[if_pos hj]
  exact⟨[],rfl,True.intro⟩
theorem nl{i:Expr}{x:D}{j:Int}(ha:ac (aA Φ a false sc ρ) (x,k))(hi:ac (aA Φ i false sc ρ) (.int j,k2))(hx:eU x=some l)(hd:L2.atI l j=some d):ac (aA Φ (.Subscript a i p) it sc ρ) (d,kn d k):=by
 have key:ac ((aA Φ a false sc ρ).bnd fun p=>(aA Φ i false sc ρ).bnd fun q=>jU p q) (d,kn d k):=by
  refine ha.bnd (hi.bnd ?_)
  rcases fy hx with rfl|rfl
  ·show ac (uh (.tup l) j k) _
   unfold uh
   rw[hx];dsimp only
   rw[hd];exact⟨[],rfl,True.intro⟩
  ·show ac (uh (.lst l) j k) _
   unfold uh
   rw[hx];dsimp only
   rw[hd];exact⟨[],rfl,True.intro⟩
 cases i with
 | Slice lo hi st p2=>exact(aq hi).elim
 | _=>exact key
theorem bE(h:ac (aA Φ e false sc ρ) (d,0))(hx:cY sc x=true:=by rfl):ac (dJ Φ (.Assign [.Name x p] e q) sc ρ) (.nx (bc ρ x (d,true))):=by
 refine ac.bnd h ?_
 unfold qJ
 rw[if_pos hx]
 exact⟨[],rfl,True.intro⟩
theorem gM(h:ac (aA Φ e false sc ρ) (d,k))(hk:k=0\/k=2:=by exact .inl rfl)(hn:sB e=false:=by rfl):ac (dJ Φ (.Return (some e) q) sc ρ) (.rt d):=by
 have h:ac (aA Φ e false sc (tJ e ρ)) (d,k):=by unfold tJ;rw[hn];exact h
 refine ac.bnd h ?_
 unfold xC
 rw[if_pos hk]
 exact⟨[],rfl,True.intro⟩
end
theorem oF{bind:D->af->Option af}{body:af->Rs Fl}(aj:List D->af->Prop)(step:∀d l ρ,aj (d::l) ρ->∃ρ1 ρ2,bind d ρ=some ρ1/\(ac (body ρ1) (.nx ρ2)\/ac (body ρ1) (.ct ρ2))/\aj l ρ2):∀{ds:List D} {ρ:af},aj ds ρ->∃ρ',ac (ff bind body ds ρ) (.nx ρ')/\aj [] ρ'
 | [],ρ,h=>⟨ρ,⟨[],rfl,True.intro⟩,h⟩
 | d::l,ρ,h=>by
  obtain⟨ρ1,ρ2,h1,h2,h3⟩:=step d l ρ h
  obtain⟨ρ',h4,h5⟩:=oF aj step h3
  refine⟨ρ',?_,h5⟩
  show ac (match bind d ρ with|none=>(.st:Rs Fl)|some ρ1=>(body ρ1).bnd (lH (ff bind body l))) _
  rw[h1]
  rcases h2 with h2|h2
  ·exact h2.bnd h4
  ·exact h2.bnd h4
theorem mh{α:Type}{step:D->Rs (Option (D×Nat))}{g:α->D}{f:α->D}{c:α->Bool}:∀{l:List α},(∀x∈l,ac (step (g x)) (cond (c x) (some (f x,0)) none))->ac (ig step (l.map g)) ((l.filter c).map f,0)
 | [],_=>⟨[],rfl,True.intro⟩
 | x::l,h=>by
  have h1:=h x List.mem_cons_self
  have h2:=mh (c:=c) fun y hy=>h y (List.mem_cons_of_mem _ hy)
  cases e:c x with
  | true =>
   rw[e]at h1
   rw[List.filter_cons_of_pos e]
   exact ac.bnd h1 (ac.bnd h2 ⟨[],rfl,True.intro⟩)
  | false =>
   rw[e]at h1
   rw[List.filter_cons_of_neg (by rw[e];decide)]
   exact ac.bnd h1 (ac.bnd h2 ⟨[],rfl,True.intro⟩)
theorem gh{a b:Int}(h:a.natAbs<18446744073709551616):bJ a b:=.inl h
theorem qS{a b:Int}(h:b.natAbs<18446744073709551616):bJ a b:=.inr (.inl h)
theorem bR{a b:Int}(h:a.natAbs<c6)(g:b.natAbs<c6):bJ a b:=.inr (.inr (.inl ⟨h,g⟩))
theorem Ki(h:n<2 ^ 64):n<c6:=Nat.lt_of_lt_of_le h (Nat.pow_le_pow_right (by decide) (by decide))
theorem wK{b:Int}(h0:b≠0)(h:b.natAbs<18446744073709551616):gA b:=⟨h0,Ki h⟩
theorem GB{ns:List Int}{i:Int}(h0:0<=i)(h1:i<ns.length):L2.atI (ns.map D.int) i=some (.int (ns.getD i.toNat 0)):=by
 obtain⟨j,rfl⟩:=Int.eq_ofNat_of_zero_le h0
 have hj:j<ns.length:=by omega
 have:=wM (xs:=ns.map D.int) (j:=j) (v:=.int (ns.getD j 0)) (by simp[hj])
 simpa using this
theorem x5(ns:List Int):cW (ns.map D.int)=some ns:=by
 induction ns with
 | nil=>rfl
 | cons n ns ih=>rw[List.map_cons,cW,ih];rfl
theorem CP:aJ []:=True.intro
theorem yt{l m:List Prop}(h:aJ l)(g:aJ m):aJ (l++m):=dD.mpr ⟨h,g⟩
theorem CO{p:Prop}(h:p):aJ [p]:=⟨h,True.intro⟩
theorem vH{p:Prop}{l:List Prop}(h:p)(g:aJ l):aJ (p::l):=⟨h,g⟩
def Sub(C ρ:af):Prop:=∀x y,C x=some y->ρ x=some y
theorem Sub.refl(ρ:af):Sub ρ ρ:=fun _ _ h=>h
theorem Sub.trans{a b c:af}(h:Sub a b)(g:Sub b c):Sub a c:=fun x y e=>g x y (h x y e)
theorem Sub.put(h:Sub C ρ)(x:Str)(y:D×Bool):Sub (bc C x y) (bc ρ x y):=fun z w e=>by
 rw[cZ]at e⊢
 by_cases hz:z=x
 ·rw[if_pos hz]at e⊢;exact e
 ·rw[if_neg hz]at e⊢;exact h z w e
theorem Sub.flt(h:Sub C ρ)(scope:Scope):Sub (flt scope C) (flt scope ρ):=fun z w e=>by
 obtain⟨e1,e2⟩:=km e
 unfold Sp.flt
 rw[if_pos e2];exact h z w e1
theorem Sub.demX(h:Sub C ρ)(x:Str):Sub (demX x C) (demX x ρ):=by
 unfold Sp.demX
 intro z w hz
 by_cases hx:z=x
 ·simp only[if_pos hx]at hz⊢
  cases hc:C z with
  | none=>rw[hc]at hz;cases hz
  | some q=>rw[hc]at hz;rw[h z q hc];exact hz
 ·simp only[if_neg hx]at hz⊢;exact h z w hz
theorem Sub.demA(h:Sub C ρ)(x:Str):Sub (demA x C) (demA x ρ):=by
 intro z w hz
 unfold Sp.demA at hz⊢
 by_cases hx:z=x
 ·simp only[if_pos hx]at hz⊢
  cases hc:C z with
  | none=>rw[hc]at hz;cases hz
  | some q=>rw[hc]at hz;rw[h z q hc];exact hz
 ·simp only[if_neg hx]at hz⊢;exact h z w hz
theorem Sub.demL:∀{es:List Expr} {C ρ:af},Sub C ρ->Sub (demL es C) (demL es ρ)
 | [],_,_,h=>h
 | e::es,C,ρ,h=>by
  cases e with
  | Name x p=>exact Sub.demL (es:=es) (h.demA x)
  | Subscript a i p =>
   cases a with
   | Name x q=>exact Sub.demL (es:=es) (h.demA x)
   | _=>exact Sub.demL (es:=es) h
  | _=>exact Sub.demL (es:=es) h
theorem Sub.demote(h:Sub C ρ)(e:Expr):Sub (demote e C) (demote e ρ):=by
 unfold Sp.demote
 split
 ·exact h.demX _
 ·exact h.demX _
 ·exact h.demL
 ·exact h
theorem rF:∀{es:List Expr} {ds:List D} {C C' ρ:af},aW sc es ds C=some C'->Sub C ρ->∃ρ',aW sc es ds ρ=some ρ'/\Sub C' ρ':=by
 intro es
 induction es with
 | nil =>
  intro ds C C' ρ h s
  cases ds with
  | nil=>cases h;exact⟨ρ,rfl,s⟩
  | cons d ds=>cases h
 | cons e es ih =>
  intro ds C C' ρ h s
  cases ds with
  | nil=>cases e<;>cases h
  | cons d ds =>
   cases e with
   | Name z p =>
    rw[aW]at h⊢
    split at h
    ·rename_i hz
     rw[if_pos hz]
     exact ih h (s.put _ _)
    ·cases h
   | _=>cases h
theorem sX(h:bQ sc tg d C=some C')(s:Sub C ρ):∃ρ',bQ sc tg d ρ=some ρ'/\Sub C' ρ':=by
 unfold bQ at h⊢
 split at h
 ·split at h
  ·rename_i hx;cases h;exact⟨_,if_pos hx,s.put _ _⟩
  ·cases h
 ·split at h
  ·exact rF h s
  ·cases h
 ·cases h
theorem eZ{m:List Prop}(h:b=true->aJ m):aJ (gd b m):=by
 cases m with
 | nil=>exact True.intro
 | cons p l=>exact⟨h,True.intro⟩
theorem u9{c:Bool}{r:Rs Bool}(h:b=true->ac r c)(hf:b=false->c=false):ac (yr b r) c:=by
 cases b with
 | true =>
  obtain⟨m,rfl,hm⟩:=h rfl
  exact⟨_,rfl,eZ fun _=>hm⟩
 | false =>
  rw[hf rfl]
  cases r with
  | ok c' m=>exact⟨_,rfl,eZ fun z=>(by cases z)⟩
  | st=>exact⟨_,rfl,True.intro⟩
theorem xJ{c:Bool}{r:Rs Bool}(h:b=false->ac r c)(hf:b=true->c=true):ac (DE b r) c:=by
 cases b with
 | false =>
  obtain⟨m,rfl,hm⟩:=h rfl
  exact⟨_,rfl,eZ fun _=>hm⟩
 | true =>
  rw[hf rfl]
  cases r with
  | ok c' m=>exact⟨_,rfl,eZ fun z=>(by cases z)⟩
  | st=>exact⟨_,rfl,True.intro⟩
theorem DP{r s:R1}{d:D×Nat}(h:ac (if t=true then r else s) d):ac (DQ t r s) d:=by
 cases t with
 | true =>
  rw[if_pos rfl]at h
  obtain⟨m,rfl,hm⟩:=h
  cases s with
  | ok q n=>exact⟨_,by show Rs.ok _ _=Rs.ok _ _;rw[t7,DK],dD.mpr ⟨eZ fun _=>hm,eZ fun z=>(by cases z)⟩⟩
  | st=>exact⟨m,rfl,hm⟩
 | false =>
  rw[if_neg Bool.false_ne_true]at h
  obtain⟨m,rfl,hm⟩:=h
  cases r with
  | ok q n=>exact⟨_,by show Rs.ok _ _=Rs.ok _ _;rw[t8,DL],dD.mpr ⟨eZ fun z=>(by cases z),eZ fun _=>hm⟩⟩
  | st=>exact⟨m,rfl,hm⟩
theorem jp{p:D×Nat}{f:Bool->Rs α}{a:α}(h:p.1=.bl b)(h2:ac (f b) a):ac (ji p f) a:=by
 unfold ji;rw[h];exact h2
theorem L0{p:D×Nat}{f:Int->R1}{a:D×Nat}{b:Int}(h:p.1=.int b)(h2:ac (f b) a):ac (j9 p f) a:=by
 unfold j9;rw[h];exact h2
structure Mo(Φ:Fx)(n:Nat):Prop where
 e:∀(e:Expr) {it:Bool} {sc:Scope} {C ρ:af} {p:D×Nat},sizeOf e<n->ac (aA Φ e it sc C) p->Sub C ρ->ac (aA Φ e it sc ρ) p
 es:∀(es:List Expr) {sc:Scope} {C ρ:af} {p:List D×Nat},sizeOf es<n->ac (bG Φ es sc C) p->Sub C ρ->ac (bG Φ es sc ρ) p
 b:∀(op:BoolOp) (es:List Expr) {sc:Scope} {C ρ:af} {b:Bool},sizeOf es<n->ac (dM Φ op es sc C) b->Sub C ρ->ac (dM Φ op es sc ρ) b
 o:∀(e:Option Expr) {sc:Scope} {C ρ:af} {o:Option Int},sizeOf e<n->ac (rS Φ e sc C) o->Sub C ρ->ac (rS Φ e sc ρ) o
theorem wo{step step2:D->Rs (Option (D×Nat))}(h:∀d r,ac (step d) r->ac (step2 d) r):∀{ds:List D} {q:List D×Nat},ac (ig step ds) q->ac (ig step2 ds) q
 | [],q,hq=>hq
 | d::ds,q,hq=>by
  obtain⟨r,h1,h2⟩:=aw (show ac (Rs.bnd _ _) q from hq)
  obtain⟨q1,h3,h4⟩:=aw h2
  exact ac.bnd (h _ _ h1) (ac.bnd (wo h h3) h4)
section
variable{Φ:Fx}{n:Nat}{it:Bool}{sc:Scope}{C ρ:af}{p:D×Nat}
theorem DJ(I:Mo Φ n){i:Expr}(hs:sizeOf (Expr.Subscript a i pos)<n+1)(h:ac ((aA Φ a false sc C).bnd fun p=>(aA Φ i false sc C).bnd fun q=>jU p q) p)(s:Sub C ρ):ac ((aA Φ a false sc ρ).bnd fun p=>(aA Φ i false sc ρ).bnd fun q=>jU p q) p:=by
 obtain⟨x,h1,h⟩:=aw h
 obtain⟨y,h2,h⟩:=aw h
 exact ac.bnd (I.e a (bf (by simp<;>omega) hs) h1 s) (ac.bnd (I.e i (bf (by simp<;>omega) hs) h2 s) h)
theorem PX(I:Mo Φ n)(e:Expr)(hs:sizeOf e<n+1)(h:ac (aA Φ e it sc C) p)(s:Sub C ρ):ac (aA Φ e it sc ρ) p:=by
 cases e with
 | Constant c k q=>exact h
 | Name x q =>
  replace h:ac (j7 Φ x sc C) p:=h
  show ac (j7 Φ x sc ρ) p
  unfold j7 at h⊢
  split at h
  ·rename_i hx
   rw[if_pos hx]
   split at h
   ·rename_i hg;rw[if_pos hg];exact h
   ·rename_i hg
    rw[if_neg hg]
    split at h
    ·rename_i y hy;rw[s x y hy];exact h
    ·exact(aq h).elim
  ·exact(aq h).elim
 | BinOp a op b q =>
  obtain⟨x,h1,h⟩:=aw (show ac (Rs.bnd _ _) p from h)
  obtain⟨y,h2,h⟩:=aw h
  exact ac.bnd (I.e a (bf (by simp<;>omega) hs) h1 s) (ac.bnd (I.e b (bf (by simp<;>omega) hs) h2 s) h)
 | UnaryOp op a q =>
  obtain⟨x,h1,h⟩:=aw (show ac (Rs.bnd _ _) p from h)
  exact ac.bnd (I.e a (bf (by simp<;>omega) hs) h1 s) h
 | BoolOp op es q =>
  rw[rg]at h⊢
  split at h
  ·exact(aq h).elim
  ·rename_i hne
   rw[if_neg hne]
   obtain⟨b,h1,h⟩:=aw h
   exact ac.bnd (I.b op es (bf (by simp<;>omega) hs) h1 s) h
 | Compare a ops bs q =>
  match ops,bs,hs,h with
  | [op],[b],hs,h =>
   obtain⟨x,h1,h⟩:=aw (show ac (Rs.bnd _ _) p from h)
   obtain⟨y,h2,h⟩:=aw h
   exact ac.bnd (I.e a (bf (by simp<;>omega) hs) h1 s) (ac.bnd (I.e b (bf (by simp<;>omega) hs) h2 s) h)
  | [],bs,_,h=>exact(aq h).elim
  | [op],[],_,h=>exact(aq h).elim
  | [op],_::_::_,_,h=>exact(aq h).elim
  | [op,op2],[b,c],hs,h =>
   obtain⟨x,h1,h⟩:=aw (show ac (Rs.bnd _ _) p from h)
   obtain⟨y,h2,h⟩:=aw h
   obtain⟨z,h3,h⟩:=aw h
   exact ac.bnd (I.e a (bf (by simp<;>omega) hs) h1 s) (ac.bnd (I.e b (bf (by simp<;>omega) hs) h2 s) (ac.bnd (I.e c (bf (by simp<;>omega) hs) h3 s) h))
  | [_,_],[],_,h=>exact(aq h).elim
  | [_,_],[_],_,h=>exact(aq h).elim
  | [_,_],_::_::_::_,_,h=>exact(aq h).elim
  | _::_::_::_,bs,_,h=>exact(aq h).elim
 | IfExp c a b q =>
  obtain⟨x,h1,h⟩:=aw (show ac (Rs.bnd _ _) p from h)
  obtain⟨t,ht,h⟩:=gJ h
  obtain⟨l,h,hp⟩:=h
  obtain⟨m,h,hm⟩:=wy h hp
  refine ac.bnd (I.e c (bf (by simp<;>omega) hs) h1 s) (jp ht (DP ?_))
  cases t with
  | true=>exact I.e a (bf (by simp<;>omega) hs) ⟨m,h,hm⟩ s
  | false=>exact I.e b (bf (by simp<;>omega) hs) ⟨m,h,hm⟩ s
 | Tuple es k q =>
  obtain⟨x,h1,h⟩:=aw (show ac (Rs.bnd _ _) p from h)
  exact ac.bnd (I.es es (bf (by simp<;>omega) hs) h1 s) h
 | List es q =>
  obtain⟨x,h1,h⟩:=aw (show ac (Rs.bnd _ _) p from h)
  exact ac.bnd (I.es es (bf (by simp<;>omega) hs) h1 s) h
 | Attribute a f q =>
  cases a with
  | Name x pn =>
   obtain⟨y,h1,h⟩:=aw (show ac (Rs.bnd _ _) p from h)
   exact ac.bnd (I.e (.Name x pn) (it:=false) (bf (by simp<;>omega) hs) h1 s) h
  | _=>exact(aq h).elim
 | Dict ks vs q =>
  match ks,vs,h with
  | [],[],h=>exact h
  | _::_,_,h=>exact(aq h).elim
  | [],_::_,h=>exact(aq h).elim
 | Subscript a i q =>
  cases i with
  | Slice lo hi st p2 =>
   cases st with
   | none =>
    obtain⟨x,h1,h⟩:=aw (show ac (Rs.bnd _ _) p from h)
    obtain⟨y,h2,h⟩:=aw h
    obtain⟨z,h3,h⟩:=aw h
    exact ac.bnd (I.e a (bf (by simp<;>omega) hs) h1 s) (ac.bnd (I.o lo (bf (by simp<;>omega) hs) h2 s) (ac.bnd (I.o hi (bf (by simp<;>omega) hs) h3 s) h))
   | some e=>exact DJ I hs h s
  | _=>exact DJ I hs h s
 | Call f args kws q =>
  cases f with
  | Name f fp =>
   cases kws with
   | nil =>
    rw[kr]at h⊢
    split at h
    ·rename_i hf
     rw[if_pos hf]
     obtain⟨x,h1,h⟩:=aw h
     exact ac.bnd (I.es args (bf (by simp<;>omega) hs) h1 s) h
    ·exact(aq h).elim
   | cons _ _=>exact(aq h).elim
  | Attribute a m ap =>
   cases kws with
   | nil =>
    rw[uM]at h⊢
    split at h
    ·rename_i hf
     rw[if_pos hf]
     obtain⟨x,h1,h⟩:=aw h
     obtain⟨y,h2,h⟩:=aw h
     exact ac.bnd (I.e a (bf (by simp<;>omega) hs) h1 s) (ac.bnd (I.es args (bf (by simp<;>omega) hs) h2 s) h)
    ·exact(aq h).elim
   | cons _ _=>exact(aq h).elim
  | _=>exact(aq h).elim
 | ListComp elt gens scope q =>
  obtain⟨l0,h0,_⟩:=id h
  obtain⟨tg,iter,ifs,rfl⟩:=qY h0
  rw[rf]at h⊢
  split at h
  ·rename_i hc
   rw[if_pos hc]
   obtain⟨x,h1,h⟩:=aw h
   refine ac.bnd (I.e iter (by first|omega|(simp at *;omega)) h1 s) ?_
   split at h
   ·split at h
    ·rename_i hl
     rw[if_pos hl]
     obtain⟨u0,h0',h⟩:=aw h
     obtain⟨y,h2,h⟩:=aw h
     refine ac.bnd h0' (ac.bnd (wo (fun d r hr=>?_) h2) h)
     split at hr
     ·exact(aq hr).elim
     ·rename_i C' hb
      obtain⟨ρ',hb',s'⟩:=sX hb (s.flt scope)
      rw[hb']
      obtain⟨b,h3,hr⟩:=aw hr
      refine ac.bnd (I.b .And ifs (by first|omega|(simp at *;omega)) h3 s') ?_
      cases b with
      | false=>exact hr
      | true =>
       rw[cond_true]at hr⊢
       obtain⟨z,h4,hr⟩:=aw hr
       exact ac.bnd (I.e elt (by first|omega|(simp at *;omega)) h4 s') hr
    ·exact(aq h).elim
   ·exact(aq h).elim
  ·exact(aq h).elim
 | _=>exact(aq h).elim
theorem LR(I:Mo Φ n)(es:List Expr){p:List D×Nat}(hs:sizeOf es<n+1)(h:ac (bG Φ es sc C) p)(s:Sub C ρ):ac (bG Φ es sc ρ) p:=by
 cases es with
 | nil=>exact h
 | cons e es =>
  obtain⟨x,h1,h⟩:=aw (show ac (Rs.bnd _ _) p from h)
  obtain⟨y,h2,h⟩:=aw h
  exact ac.bnd (I.e e (bf (by simp<;>omega) hs) h1 s) (ac.bnd (I.es es (bf (by simp<;>omega) hs) h2 s) h)
theorem PY(I:Mo Φ n)(op:BoolOp)(es:List Expr)(hs:sizeOf es<n+1)(h:ac (dM Φ op es sc C) b)(s:Sub C ρ):ac (dM Φ op es sc ρ) b:=by
 cases es with
 | nil=>cases op<;>exact h
 | cons e es =>
  cases op with
  | And =>
   obtain⟨x,h1,h⟩:=aw (show ac (Rs.bnd _ _) b from h)
   obtain⟨t,ht,l,h,hp⟩:=gJ h
   refine ac.bnd (I.e e (bf (by simp<;>omega) hs) h1 s) (jp ht ?_)
   rcases u8 h hp with⟨rfl,m,h,pm⟩|⟨rfl,rfl⟩
   ·exact u9 (fun _=>I.b .And es (bf (by simp<;>omega) hs) ⟨m,h,pm⟩ s) fun z=>(by cases z)
   ·exact u9 (fun z=>(by cases z)) fun _=>rfl
  | Or =>
   obtain⟨x,h1,h⟩:=aw (show ac (Rs.bnd _ _) b from h)
   obtain⟨t,ht,l,h,hp⟩:=gJ h
   refine ac.bnd (I.e e (bf (by simp<;>omega) hs) h1 s) (jp ht ?_)
   rcases we h hp with⟨rfl,m,h,pm⟩|⟨rfl,rfl⟩
   ·exact xJ (fun _=>I.b .Or es (bf (by simp<;>omega) hs) ⟨m,h,pm⟩ s) fun z=>(by cases z)
   ·exact xJ (fun z=>(by cases z)) fun _=>rfl
theorem PV(I:Mo Φ n)(e:Option Expr){o:Option Int}(hs:sizeOf e<n+1)(h:ac (rS Φ e sc C) o)(s:Sub C ρ):ac (rS Φ e sc ρ) o:=by
 cases e with
 | none=>exact h
 | some e =>
  obtain⟨x,h1,h⟩:=aw (show ac (Rs.bnd _ _) o from h)
  exact ac.bnd (I.e e (bf (by simp<;>omega) hs) h1 s) h
end
theorem jF(Φ:Fx):∀n,Mo Φ n
 | 0=>⟨fun _ _ _ _ _ _ h=>absurd h (Nat.not_lt_zero _),fun _ _ _ _ _ h=>absurd h (Nat.not_lt_zero _),fun _ _ _ _ _ _ h=>absurd h (Nat.not_lt_zero _),fun _ _ _ _ _ h=>absurd h (Nat.not_lt_zero _)⟩
 | n+1=>⟨fun e _ _ _ _ _ hs h s=>PX (jF Φ n) e hs h s,fun e _ _ _ _ hs h s=>LR (jF Φ n) e hs h s,fun op e _ _ _ _ hs h s=>PY (jF Φ n) op e hs h s,fun e _ _ _ _ hs h s=>PV (jF Φ n) e hs h s⟩
theorem cU{p:D×Nat}(h:ac (aA Φ e it sc C) p)(s:Sub C ρ):ac (aA Φ e it sc ρ) p:=(jF Φ _).e e (Nat.lt_succ_self _) h s
theorem jE{e:List Expr}{p:List D×Nat}(h:ac (bG Φ e sc C) p)(s:Sub C ρ):ac (bG Φ e sc ρ) p:=(jF Φ _).es e (Nat.lt_succ_self _) h s
def CU:Fl->Fl->Prop
 | .nx a,.nx b=>Sub a b
 | .bk a,.bk b=>Sub a b
 | .ct a,.ct b=>Sub a b
 | .rt a,.rt b=>a=b
 | _,_=>False
theorem cP{a:α}:ac (.ok a []) a:=⟨[],rfl,True.intro⟩
def kT(f:af->Rs Fl):Prop:=∀C ρ fl,ac (f C) fl->Sub C ρ->∃fl',ac (f ρ) fl'/\CU fl fl'
theorem zN{f:af->Rs Fl}(h:kT f){x y z:Fl}(hx:ac (lH f x) z)(s:CU x y):∃z',ac (lH f y) z'/\CU z z':=by
 cases x<;>cases y<;>first|exact s.elim|skip
 ·exact h _ _ _ hx s
 ·cases aH hx;cases s;exact⟨_,cP,rfl⟩
 ·cases aH hx;exact⟨_,cP,s⟩
 ·exact h _ _ _ hx s
theorem zO{sc:Scope}{tg:Expr}{body:af->Rs Fl}(hb:kT body):∀ds,kT (ff (bQ sc tg) body ds)
 | []=>fun C ρ fl h s=>by cases aH h;exact⟨_,cP,s⟩
 | d::ds=>fun C ρ fl h s=>by
  replace h:ac (match bQ sc tg d C with|none=>(.st:Rs Fl)|some ρ1=>(body ρ1).bnd (lH (ff (bQ sc tg) body ds))) fl:=h
  split at h
  ·exact(aq h).elim
  ·rename_i C1 hC
   obtain⟨ρ1,hρ,s1⟩:=sX hC s
   obtain⟨x,h1,h2⟩:=aw h
   obtain⟨y,h3,s2⟩:=hb _ _ _ h1 s1
   obtain⟨z,h4,s3⟩:=zN (zO hb ds) h2 s2
   refine⟨z,?_,s3⟩
   show ac (match bQ sc tg d ρ with|none=>(.st:Rs Fl)|some ρ1=>(body ρ1).bnd (lH (ff (bQ sc tg) body ds))) z
   rw[hρ];exact ac.bnd h3 h4
theorem DI{test:af->Rs Bool}{body:af->Rs Fl}(ht:∀C ρ b,ac (test C) b->Sub C ρ->ac (test ρ) b)(hb:kT body):∀n,kT (nO test body n)
 | 0=>fun C ρ fl h s=>(aq h).elim
 | n+1=>fun C ρ fl h s=>by
  obtain⟨b,h1,h2⟩:=aw (show ac (Rs.bnd _ _) fl from h)
  have h1':=ht _ _ _ h1 s
  cases b with
  | false=>cases aH h2;exact⟨_,ac.bnd h1' cP,s⟩
  | true =>
   obtain⟨x,h3,h4⟩:=aw (show ac (Rs.bnd _ _) fl from h2)
   obtain⟨y,h5,s2⟩:=hb _ _ _ h3 s
   obtain⟨z,h6,s3⟩:=zN (DI ht hb n) h4 s2
   exact⟨z,ac.bnd h1' (ac.bnd h5 h6),s3⟩
theorem Iw:kT (pY Φ tgs e sc):=by
 intro C ρ fl h s
 unfold pY at h⊢
 split at h
 ·obtain⟨p,h1,h⟩:=aw h
  unfold qJ at h
  split at h
  ·rename_i hx
   split at h
   ·rename_i ho;cases aH h
    exact⟨.nx _,ac.bnd (cU h1 s) (by unfold qJ;rw[if_pos hx,ho];exact cP),s.put _ _⟩
   ·rename_i ho;cases aH h
    exact⟨.nx _,ac.bnd (cU h1 s) (by unfold qJ;rw[if_pos hx,ho];exact cP),s.put _ _⟩
   ·exact(aq h).elim
  ·exact(aq h).elim
 ·split at h
  ·rename_i ht
   rw[if_pos ht]
   unfold pV at h⊢
   split at h
   ·split at h
    ·rename_i hp
     rw[if_pos hp]
     obtain⟨q,h1,h⟩:=aw h
     split at h
     ·rename_i u v hd
      split at h
      ·rename_i hf
       cases aH h
       refine⟨.nx _,ac.bnd (jE h1 s) ?_,(s.put _ _).put _ _⟩
       rw[hd];dsimp only;rw[if_pos hf];exact cP
      ·exact(aq h).elim
     ·exact(aq h).elim
    ·exact(aq h).elim
   ·exact(aq h).elim
  ·rename_i ht
   rw[if_neg ht]
   obtain⟨p,h1,h⟩:=aw h
   split at h
   ·rename_i ho
    cases aH h
    refine⟨.nx _,ac.bnd (cU h1 s) (by rw[if_pos ho];exact cP),?_⟩
    show Sub _ _
    unfold Bz
    split
    ·exact(s.put _ _).put _ _
    ·exact s
   rename_i ho
   split at h
   ·rename_i ds hd
    split at h
    ·rename_i hf
     split at h
     ·rename_i C' hb
      cases aH h
      obtain⟨ρ',hb',s'⟩:=rF hb s
      refine⟨.nx _,ac.bnd (cU h1 s) ?_,s'⟩
      rw[if_neg ho,hd];dsimp only;rw[if_pos hf,hb'];exact cP
     ·exact(aq h).elim
    ·exact(aq h).elim
   ·exact(aq h).elim
 ·split at h
  ·rename_i hc
   rw[if_pos hc]
   obtain⟨p,h1,h⟩:=aw h
   obtain⟨q,h2,h⟩:=aw h
   rcases sY h with⟨l,j,l',a1,a2,a3,hj,hs,hf,rfl⟩|⟨ks,ds,k,a1,hk,a3,hf,hz,rfl⟩
   ·refine⟨.nx _,ac.bnd (cU h1 s) (ac.bnd (cU h2 s) ?_),s.put _ _⟩
    rw[hj];unfold sZ;rw[s _ _ a1];dsimp only;rw[if_pos a3,hs]
    exact⟨_,rfl,a2,hf,True.intro⟩
   ·refine⟨.nx _,ac.bnd (cU h1 s) (ac.bnd (cU h2 s) ?_),s.put _ _⟩
    unfold sZ;rw[s _ _ a1];dsimp only;rw[hk];dsimp only;rw[if_pos a3]
    exact⟨_,rfl,hf,hz,True.intro⟩
  ·exact(aq h).elim
 ·exact(aq h).elim
theorem Iv{t:Expr}{op:Operator}:kT (pX Φ t op e sc):=by
 intro C ρ fl h s
 unfold pX at h⊢
 split at h
 ·split at h
  ·rename_i hx
   rw[if_pos hx]
   split at h
   ·rename_i p hp
    rw[s _ _ hp]
    obtain⟨r,h1,h⟩:=aw h
    cases aH h
    obtain⟨a,ha,h3⟩:=qQ h1
    obtain⟨q,h2,h4⟩:=aw h3
    exact⟨.nx _,ac.bnd (L0 ha (ac.bnd (cU h2 s) h4)) cP,s.put _ _⟩
   ·exact(aq h).elim
  ·exact(aq h).elim
 ·exact(aq h).elim
theorem Iu:kT (pW Φ e sc):=by
 intro C ρ fl h s
 unfold pW at h⊢
 split at h
 ·split at h
  ·rename_i hln
   rw[if_pos hln]
   obtain⟨p,h1,h⟩:=aw h
   split at h
   ·rename_i M hM
    obtain⟨l,a1,a3,h⟩:=tU h
    obtain⟨l',h2,h⟩:=aw h
    cases aH h
    refine⟨.nx _,ac.bnd (jE h1 s) ?_,s.put _ _⟩
    unfold qO;rw[s _ _ a1];dsimp only;rw[if_pos a3];exact ac.bnd h2 cP
   ·exact(aq h).elim
  ·exact(aq h).elim
 ·obtain⟨p,h1,h⟩:=aw h
  cases aH h
  exact⟨.nx _,ac.bnd (cU h1 s) cP,s⟩
 ·exact(aq h).elim
structure KB(Φ:Fx)(n:Nat):Prop where
 s:∀(st:Stmt) (sc:Scope),sizeOf st<n->kT (dJ Φ st sc)
 ss:∀(st:List Stmt) (sc:Scope),sizeOf st<n->kT (aC Φ st sc)
theorem LQ(I:KB Φ n)(st:Stmt)(sc:Scope)(hs:sizeOf st<n+1):kT (dJ Φ st sc):=by
 intro C ρ fl h s
 cases st with
 | Return e p =>
  cases e with
  | none=>cases aH h;exact⟨_,cP,rfl⟩
  | some e =>
   obtain⟨p,h1,h⟩:=aw (show ac (Rs.bnd _ _) fl from h)
   have s':Sub (tJ e C) (tJ e ρ):=by
    unfold tJ
    cases sB e with
    | false=>exact s
    | true =>
     intro x y hx
     have hx:(C x).map (fun p=>(p.1,false))=some y:=hx
     show(ρ x).map (fun p=>(p.1,false))=some y
     cases e:C x with
     | none=>rw[e]at hx;cases hx
     | some z=>rw[e]at hx;rw[s x z e];exact hx
   refine⟨fl,ac.bnd (cU h1 s') h,?_⟩
   unfold xC at h
   split at h
   ·cases aH h;rfl
   ·exact(aq h).elim
 | Pass p=>cases aH h;exact⟨_,cP,s⟩
 | Break p=>cases aH h;exact⟨_,cP,s⟩
 | Continue p=>cases aH h;exact⟨_,cP,s⟩
 | Assign tgs e p=>exact Iw C ρ fl h s
 | AugAssign t op e p=>exact Iv C ρ fl h s
 | Expr e p=>exact Iu C ρ fl h s
 | If c a b p =>
  obtain⟨p,h1,h⟩:=aw (show ac (Rs.bnd _ _) fl from h)
  obtain⟨t,ht,h⟩:=gJ h
  cases t with
  | true =>
   obtain⟨z,h2,s2⟩:=I.ss a sc (bf (by simp<;>omega) hs) C ρ fl h s
   exact⟨z,ac.bnd (cU h1 s) (jp ht h2),s2⟩
  | false =>
   obtain⟨z,h2,s2⟩:=I.ss b sc (bf (by simp<;>omega) hs) C ρ fl h s
   exact⟨z,ac.bnd (cU h1 s) (jp ht h2),s2⟩
 | For tg it body els p =>
  rw[re]at h⊢
  split at h
  ·rename_i he
   rw[if_pos he]
   obtain⟨p,h1,h⟩:=aw h
   split at h
   ·rename_i ds hd
    split at h
    ·rename_i hk
     obtain⟨z,h2,s2⟩:=zO (I.ss body sc (bf (by simp<;>omega) hs)) ds _ _ fl h (s.demote it)
     refine⟨z,ac.bnd (cU h1 (s.demote it)) ?_,s2⟩
     rw[hd];dsimp only;rw[if_pos hk];exact h2
    ·exact(aq h).elim
   ·exact(aq h).elim
  ·exact(aq h).elim
 | While c body els p =>
  rw[uH]at h⊢
  split at h
  ·rename_i he
   rw[if_pos he]
   refine DI (fun C ρ b hb s=>?_) (I.ss body sc (bf (by simp<;>omega) hs)) bA C ρ fl h s
   obtain⟨q,h1,hb⟩:=aw hb
   exact ac.bnd (cU h1 s) hb
  ·exact(aq h).elim
 | _=>exact(aq h).elim
theorem Ir(I:KB Φ n)(ss:List Stmt)(sc:Scope)(hs:sizeOf ss<n+1):kT (aC Φ ss sc):=by
 intro C ρ fl h s
 cases ss with
 | nil=>cases aH h;exact⟨_,cP,s⟩
 | cons st ss =>
  rcases o8 h with⟨C',h1,h2⟩|⟨h1,h2⟩
  ·obtain⟨x,h3,s2⟩:=I.s st sc (bf (by simp<;>omega) hs) C ρ _ h1 s
   cases x with
   | nx ρ' =>
    obtain⟨z,h4,s3⟩:=I.ss ss sc (bf (by simp<;>omega) hs) C' ρ' fl h2 s2
    exact⟨z,bD h3 h4,s3⟩
   | rt _=>exact s2.elim
   | bk _=>exact s2.elim
   | ct _=>exact s2.elim
  ·obtain⟨x,h3,s2⟩:=I.s st sc (bf (by simp<;>omega) hs) C ρ _ h2 s
   refine⟨x,lz h3 fun ρ' z=>?_,s2⟩
   subst z
   cases fl<;>first|exact h1 _ rfl|exact s2
theorem ng(Φ:Fx):∀n,KB Φ n
 | 0=>⟨fun _ _ h=>absurd h (Nat.not_lt_zero _),fun _ _ h=>absurd h (Nat.not_lt_zero _)⟩
 | n+1=>⟨fun e sc hs=>LQ (ng Φ n) e sc hs,fun e sc hs=>Ir (ng Φ n) e sc hs⟩
theorem Fr(h:ac (aC Φ ss sc C) (.nx C'))(s:Sub C ρ):∃ρ',ac (aC Φ ss sc ρ) (.nx ρ')/\Sub C' ρ':=by
 obtain⟨z,h1,h2⟩:=(ng Φ _).ss ss sc (Nat.lt_succ_self _) C ρ _ h s
 cases z with
 | nx ρ'=>exact⟨ρ',h1,h2⟩
 | rt _=>exact h2.elim
 | bk _=>exact h2.elim
 | ct _=>exact h2.elim
theorem Fq(h:ac (aC Φ ss sc C) (.rt d))(s:Sub C ρ):ac (aC Φ ss sc ρ) (.rt d):=by
 obtain⟨z,h1,h2⟩:=(ng Φ _).ss ss sc (Nat.lt_succ_self _) C ρ _ h s
 cases z with
 | rt _=>cases h2;exact h1
 | nx _=>exact h2.elim
 | bk _=>exact h2.elim
 | ct _=>exact h2.elim
def bW:List (Str×D×Bool)->af
 | []=>fun _=>none
 | p::l=>fun z=>if z=p.1 then some p.2 else bW l z
theorem aO:Sub (bW []) ρ:=fun _ _ h=>by cases h
theorem ae{y:D×Bool}{l:List (Str×D×Bool)}(h:ρ x=some y)(g:Sub (bW l) ρ):Sub (bW ((x,y)::l)) ρ:=fun z w e=>by
 replace e:(if z=x then some y else bW l z)=some w:=e
 by_cases hz:z=x
 ·rw[if_pos hz]at e;cases e;rw[hz];exact h
 ·rw[if_neg hz]at e;exact g z w e
theorem Sub.get{y:D×Bool}(s:Sub C ρ)(h:C x=some y:=by rfl):ρ x=some y:=s x y h
section
variable{Φ:Fx}{sc:Scope}{ρ ρ':af}{fl:Fl}{ss:List Stmt}
theorem cM{P:af->Prop}(s:Sub C ρ)(h:ac (aC Φ ss sc C) (.nx C'))(k:∀ρ',Sub C' ρ'->P ρ'):∃ρ',ac (aC Φ ss sc ρ) (.nx ρ')/\P ρ' :=
 let ⟨ρ',h1,h2⟩:=Fr h s;⟨ρ',h1,k ρ' h2⟩
theorem dy(s:Sub C ρ)(h:ac (aC Φ ss sc C) (.rt d)):ac (aC Φ ss sc ρ) (.rt d):=Fq h s
theorem bz{p:D×Nat}(s:Sub C ρ)(h:ac (aA Φ e it sc C) p):ac (aA Φ e it sc ρ) p:=cU h s
theorem qH{it:Expr}{d:D}(aj:List D->af->Prop)(hi:ac (aA Φ it true sc (demote it ρ)) (d,k))(h0:aj ds (demote it ρ))
  (step:∀d l ρ,aj (d::l) ρ->∃ρ1,bQ sc tg d ρ=some ρ1/\∃ρ2,ac (aC Φ body sc ρ1) (.nx ρ2)/\aj l ρ2) (rest:∀ρ',aj [] ρ'->ac (aC Φ ss sc ρ') fl) (hd:items d=some ds:=by rfl) (hk:k<=1:=by first|exact Nat.le_refl 1|exact Nat.zero_le 1) (ht:fc it tg=true:=by rfl):ac (aC Φ (.For tg it body [] p::ss) sc ρ) fl:=by
 obtain⟨ρ',h1,h2⟩:=oF (bind:=bQ sc tg) (body:=aC Φ body sc) aj (fun d l ρ h=>let ⟨ρ1,a,ρ2,b,c⟩:=step d l ρ h;⟨ρ1,ρ2,a,.inl b,c⟩) h0
 exact bD (uG hi hd hk ht h1) (rest ρ' h2)
theorem fk{b:Expr}{x:D}(ha:ac (aA Φ a false sc ρ) (x,k))(hb:ac (aA Φ b false sc ρ) (y,j))(h:ac (iL op x y) r):ac (aA Φ (.Compare a [op] [b] p) it sc ρ) (.bl r,0) :=
 ac.bnd ha (ac.bnd hb (ac.bnd h cP))
theorem Ji(ha:ac (aA Φ a false sc ρ) (.bl b,k)):ac (aA Φ (.UnaryOp .Not a p) it sc ρ) (.bl (!b),0):=ac.bnd ha cP
theorem d9{op:BoolOp}(h:ac (dM Φ op (e::es) sc ρ) b):ac (aA Φ (.BoolOp op (e::es) p) it sc ρ) (.bl b,0):=by
 rw[rg,if_neg (show ¬ (List.isEmpty (e::es)=true)from Bool.false_ne_true)];exact ac.bnd h cP
theorem ir{c:Bool}(h:ac (aA Φ e false sc ρ) (.bl b,k))(h1:b=true->ac (dM Φ .And es sc ρ) c)(h2:b=false->c=false):ac (dM Φ .And (e::es) sc ρ) c:=ac.bnd h (jp rfl (u9 h1 h2))
theorem Jh{c:Bool}(h:ac (aA Φ e false sc ρ) (.bl b,k))(h1:b=false->ac (dM Φ .Or es sc ρ) c)(h2:b=true->c=true):ac (dM Φ .Or (e::es) sc ρ) c:=ac.bnd h (jp rfl (xJ h1 h2))
theorem gy{c:Bool}(h:ac (aA Φ e false sc ρ) (.bl true,k))(h1:ac (dM Φ .And es sc ρ) c):ac (dM Φ .And (e::es) sc ρ) c:=ir h (fun _=>h1) fun z=>by cases z
theorem fu{c:Bool}(h:ac (aA Φ e false sc ρ) (.bl false,k))(h1:ac (dM Φ .Or es sc ρ) c):ac (dM Φ .Or (e::es) sc ρ) c:=Jh h (fun _=>h1) fun z=>by cases z
theorem jL:ac (dM Φ .And [] sc ρ) true:=cP
theorem lY:ac (dM Φ .Or [] sc ρ) false:=cP
theorem ac.bl{r:R1}{c:Bool}(h:ac r (.bl b,k))(e:b=c):ac r (.bl c,k):=e ▸ h
theorem uK(h:ac (bG Φ es sc ρ) (ds,k))(hl:ds.length<=bA):ac (aA Φ (.Tuple es n p) it sc ρ) (.tup ds,kn (.tup ds) k):=ac.bnd h (by dsimp only;rw[if_pos hl];exact cP)
end
theorem PZ(h:us.length=0):us=[]:=List.eq_nil_of_length_eq_zero h
theorem gk(h:us.length=1):∃a,us=[a]:=List.length_eq_one_iff.mp h
theorem Iy(h:us.length=n+1):∃a r,us=a::r/\r.length=n:=by
 cases us with
 | nil=>cases h
 | cons a r=>exact⟨a,r,rfl,by simpa using h⟩
theorem fA(h:us.length=2):∃a b,us=[a,b]:=by
 obtain⟨a,r,e1,h1⟩:=Iy h;subst e1;obtain⟨b,rfl⟩:=gk h1;exact⟨a,b,rfl⟩
theorem ou(h:us.length=3):∃a b c,us=[a,b,c]:=by
 obtain⟨a,r,e1,h1⟩:=Iy h;subst e1;obtain⟨b,c,rfl⟩:=fA h1;exact⟨a,b,c,rfl⟩
end Sp
namespace Qm
def qy(a b c d:Int):Prop:=∃e x y z w:Int,(e=0\/e=1)/\a=2*x+e/\b=2*y+e/\c=2*z+e/\d=2*w+e
theorem tT{P Q R S k1 k2 k3:Int}(h1:Q=P+2*k1)(h2:R=P+2*k2)(h3:S=P+2*k3):qy P Q R S :=
 ⟨P % 2,P / 2,P / 2+k1,P / 2+k2,P / 2+k3,by omega,by omega,by omega,by omega,by omega⟩
theorem par_fmod{a b c d:Int}(h:qy a b c d):b.fmod 2=a.fmod 2/\c.fmod 2=a.fmod 2/\d.fmod 2=a.fmod 2:=by
 obtain⟨e,x,y,z,w,he,rfl,rfl,rfl,rfl⟩:=h
 simp only[Int.fmod_eq_emod_of_nonneg _ (show(0:Int)<=2 by decide)]
 omega
theorem HY{a b c d:Int}(h:qy a b c d):∃t,a*a+(b*b+(c*c+(d*d+0)))=4*t:=by
 obtain⟨e,x,y,z,w,he,rfl,rfl,rfl,rfl⟩:=h
 rcases he with rfl|rfl
 ·exact⟨x*x+y*y+z*z+w*w,by grind⟩
 ·exact⟨x*x+y*y+z*z+w*w+x+y+z+w+1,by grind⟩
theorem fd4(t:Int):(4*t).fdiv 4=t:=by rw[Int.fdiv_eq_ediv_of_nonneg _ (by decide)];omega
theorem fd2(t:Int):(2*t).fdiv 2=t:=by rw[Int.fdiv_eq_ediv_of_nonneg _ (by decide)];omega
theorem BM{a b c d e f g h:Int}(h1:qy a b c d)(h2:qy e f g h):∃P Q R S,a*e-b*f-c*g-d*h=2*P/\a*f+b*e+c*h-d*g=2*Q/\a*g-b*h+c*e+d*f=2*R/\a*h+b*g-c*f+d*e=2*S/\qy P Q R S:=by
 obtain⟨s,x1,x2,x3,x4,_,rfl,rfl,rfl,rfl⟩:=h1
 obtain⟨u,y1,y2,y3,y4,_,rfl,rfl,rfl,rfl⟩:=h2
 refine⟨2*(x1*y1-x2*y2-x3*y3-x4*y4)+u*(x1-x2-x3-x4)+s*(y1-y2-y3-y4)-s*u,
  2*(x1*y2+x2*y1+x3*y4-x4*y3)+u*(x1+x2+x3-x4)+s*(y2+y1+y4-y3)+s*u,
  2*(x1*y3-x2*y4+x3*y1+x4*y2)+u*(x1-x2+x3+x4)+s*(y3-y4+y1+y2)+s*u,
  2*(x1*y4+x2*y3-x3*y2+x4*y1)+u*(x1+x2-x3+x4)+s*(y4+y3-y2+y1)+s*u,by grind,by grind,by grind,by grind,?_⟩
 refine tT (k1:=(x1*y2+x2*y1+x3*y4-x4*y3)-(x1*y1-x2*y2-x3*y3-x4*y4)+u*(x2+x3)+s*(y2+y4)+s*u)
  (k2:=(x1*y3-x2*y4+x3*y1+x4*y2)-(x1*y1-x2*y2-x3*y3-x4*y4)+u*(x3+x4)+s*(y3+y2)+s*u)
  (k3:=(x1*y4+x2*y3-x3*y2+x4*y1)-(x1*y1-x2*y2-x3*y3-x4*y4)+u*(x2+x4)+s*(y4+y3)+s*u) ?_ ?_ ?_<;>grind
theorem Mc(a b c d e f g h:Int):(a*e-b*f-c*g-d*h)*(a*e-b*f-c*g-d*h)+((a*f+b*e+c*h-d*g)*(a*f+b*e+c*h-d*g)+((a*g-b*h+c*e+d*f)*(a*g-b*h+c*e+d*f)+((a*h+b*g-c*f+d*e)*(a*h+b*g-c*f+d*e)+0))) =
  (a*a+(b*b+(c*c+(d*d+0))))*(e*e+(f*f+(g*g+(h*h+0)))):=by grind
theorem cg{p P:Int}(h:p=2*P):p.fdiv 2=P:=by rw[h,fd2]
end Qm
namespace K
open PySem L2 Sp
variable{α β:Type}{ds:List D}{r:D}
structure Dc(α:Type) where
 dec:D->Option α
 enc:α->D
 ok:∀x a,dec x=some a->x=enc a
def dI:Dc Int:=⟨fun | .int i=>some i|_=>none,.int,fun x a h=>by cases x<;>cases h;rfl⟩
def dL:Dc (List D):=⟨fun | .lst i=>some i|_=>none,.lst,fun x a h=>by cases x<;>cases h;rfl⟩
def vX{α:Type}(A:Dc α)(f:α->Rs D):List D->Rs D
 | [x]=>(match A.dec x with|some a=>f a|none=>.st)
 | _=>.st
def pe{α β:Type}(A:Dc α)(B:Dc β)(f:α->β->Rs D):List D->Rs D
 | [x,y]=>(match A.dec x with|some a=>(match B.dec y with|some b=>f a b|none=>.st)|none=>.st)
 | _=>.st
def tm{α β γ:Type}(A:Dc α)(B:Dc β)(C:Dc γ)(f:α->β->γ->Rs D):List D->Rs D
 | [x,y,z]=>(match A.dec x with|some a=>(match B.dec y with|some b=>(match C.dec z with|some c=>f a b c|none=>.st)|none=>.st)|none=>.st)
 | _=>.st
theorem jM{A:Dc α}{x:D}{f:α->Rs β}{r:β}(h:ac (match A.dec x with|some a=>f a|none=>.st) r):∃a,x=A.enc a/\ac (f a) r:=by
 split at h
 ·rename_i a e;exact⟨a,A.ok _ _ e,h⟩
 ·exact(aq h).elim
theorem mU{A:Dc α}{f:α->Rs D}(h:ac (vX A f ds) r):∃a,ds=[A.enc a]/\ac (f a) r:=by
 unfold vX at h
 split at h
 ·obtain⟨a,e1,h1⟩:=jM h;exact⟨a,by rw[e1],h1⟩
 ·exact(aq h).elim
theorem gb{A:Dc α}{B:Dc β}{f:α->β->Rs D}(h:ac (pe A B f ds) r):∃a b,ds=[A.enc a,B.enc b]/\ac (f a b) r:=by
 unfold pe at h
 split at h
 ·obtain⟨a,e1,h1⟩:=jM h
  obtain⟨b,e2,h2⟩:=jM h1
  exact⟨a,b,by rw[e1,e2],h2⟩
 ·exact(aq h).elim
theorem jx{γ:Type}{A:Dc α}{B:Dc β}{C:Dc γ}{f:α->β->γ->Rs D}(h:ac (tm A B C f ds) r):∃a b c,ds=[A.enc a,B.enc b,C.enc c]/\ac (f a b c) r:=by
 unfold tm at h
 split at h
 ·obtain⟨a,e1,h1⟩:=jM h
  obtain⟨b,e2,h2⟩:=jM h1
  obtain⟨c,e3,h3⟩:=jM h2
  exact⟨a,b,c,by rw[e1,e2,e3],h3⟩
 ·exact(aq h).elim
def SK:D->Int
 | .int i=>i
 | _=>0
def o7(l:List D):List Int:=l.map SK
theorem o3(ns:List Int):o7 (ns.map D.int)=ns:=by
 induction ns with
 | nil=>rfl
 | cons n ns ih=>show n::o7 (ns.map D.int)=_;rw[ih]
def DF(l:List D):Prop:=∃ns:List Int,l=ns.map D.int
def mj(ns:List Int)(k:Int):Int:=if ns=[]then 0 else ns.getD (k.fmod ns.length).toNat 0
def D1(ns:List Int)(k:Int):Int :=
 (mj ns k).fdiv 2147483647*2147483647+((((mj ns k).fmod 2147483647+7919*k+1)*48271).fmod 2147483647*69621+k).fmod 2147483647
def gS(l:List D)(k:Int):Int:=D1 (o7 l) k
abbrev t4(a b c d:Int):D:=.tup [.int a,.int b,.int c,.int d]
abbrev Qd:=Int×Int×Int×Int
def dq(q:Qd):D:=t4 q.1 q.2.1 q.2.2.1 q.2.2.2
def q4:D->Option Qd
 | .tup [.int a,.int b,.int c,.int d]=>some (a,b,c,d)
 | _=>none
theorem Dt(x:D)(q:Qd)(h:q4 x=some q):x=dq q:=by
 unfold q4 at h
 split at h
 ·cases h;rfl
 ·cases h
def dQ:Dc Qd:=⟨q4,dq,Dt⟩
abbrev ee(q:Qd):Prop:=q.1.natAbs<c6/\q.2.1.natAbs<c6/\q.2.2.1.natAbs<c6/\q.2.2.2.natAbs<c6
theorem dz{α:Type}{G:α->D}(h:∀x,(G x).lless=true):∀l:List α,ar (l.map G)=true
 | []=>rfl
 | x::l=>by rw[List.map_cons,ar,h x,dz h l];rfl
@[simp] theorem gz(a b:Int):cG (.int a) (.int b)=decide (a=b):=by
 show(a==b)=_
 rw[Bool.eq_iff_iff];simp
@[simp] theorem yf(p q:Qd):cG (dq p) (dq q)=decide (p=q):=by
 show(p.1==q.1&&(p.2.1==q.2.1&&(p.2.2.1==q.2.2.1&&(p.2.2.2==q.2.2.2&&true))))=_
 obtain⟨a,b,c,d⟩:=p;obtain⟨e,f,g,h⟩:=q
 rw[Bool.eq_iff_iff];simp
theorem rL(qs:List Qd):ar (qs.map dq)=true:=by
 induction qs with
 | nil=>rfl
 | cons n ns ih=>rw[List.map_cons,ar,ih];rfl
end K
namespace Sp
open PySem PySem.Spec PyProof.Rows L2
open AutoSeq1 (wpAny_loadPart')
variable{P:Program}{w:World}{H:Hp}{h:Heap}{k:Nat}{c:Expr}{p:Pos}
section
variable{prog:Program}{A:Around}{E:Value->Shared->Prop}{s:Shared}
variable{n l1 l2 l3:Nat}{xs ys ws:Array Value}{x y u:Value}{f0 f1:Value}
end
open AutoSeq1 (wpAny_loadPart')
section
variable{prog:Program}{A:Around}{E:Value->Shared->Prop}{s:Shared}
end
section
variable{prog:Program}{A:Around}{E:Value->Shared->Prop}{s:Shared}
abbrev ud(acc:Array Value)(c:Nat):Obj:={ cls:=.type "list", dict:=none,data:=.seq acc c,slots:=#[] }
theorem wr{S I:Addr}{res:Value}{R:Result->Shared->Prop}(h:wpAny (model prog w) A.in1 (pyNext (.ref I)) (fun r s'=>match r with
      | some v => ∃acc c,s'.heap.get? S=some (ud acc c)/\acc.size+1<=sizeLine/\∀h2 c2,h2.get? S=some (ud (acc.push v) c2)->Heap.SameBut S s'.heap h2->codeAny (model prog w) A (.builtin "list.extend.loop" ⟨[.ref S,.ref I,res],[]⟩) R { s' with heap:=h2 }
      | none=>R (.ok (.ret res)) s') (fun e s'=>R (.error e) s') s):codeAny (model prog w) A (.builtin "list.extend.loop" ⟨[.ref S,.ref I,res],[]⟩) R s:=by
  refine codeAny_builtin F.entry_extend_loop ?_
  rw[Around.under_plainId F.plain_extend_loop _]
  show wpAny _ A.in1 (pyNext (.ref I) >>= _) _ _ s
  refine wpAny_bind (wpAny_mono h (fun r s' hr=>?_) fun _ _ z=>z)
  cases r with
  | none=>exact wpAny_pure hr
  | some v =>
    obtain⟨acc,c,hS,hz,k⟩:=hr
    show wpAny _ A.in1 (updateSeq S (·.push v) >>= _) _ _ _
    refine wpAny_bind (wpAny_updateSeq hS rfl (wpAny_pure ⟨plainId_quiet F.plain_extend_loop _,k _ _ (Heap.get?_update_self _ hS rfl) (Heap.SameBut.update ..)⟩) ?_ ?_)
    . omega
    . show(acc.push v).size<=sizeLine+1
      rw[Array.size_push];omega
end
variable{X:Cx}
theorem oE{b:Addr}{o:HO}(x:cz P w H h)(hb:H b=none)(new:bw P w (aG H b o) h b o):cz P w (aG H b o) h:=fun c u e=>by
 by_cases hc:c=b
 ·subst hc;rw[aE]at e;cases e;exact new
 ·rw[ax hc]at e
  exact(x c u e).stay (fun d v _ r=>r) (fun d r=>by rw[ax (aV r hb)];exact r) (fun d xs r=>by rw[ax (aV r hb)];exact r)
theorem qC{fs ex:List Addr}{H':Hp}{h':Heap}(k:∀b u,h.get? b=some u->h'.get? b=some u)(hH:∀c,c<h.objs.size->H' c=H c)(hin:∀c o,H c=some o->c<h.objs.size):Un fs ex H H' h h' where
 keep:=fun b u q _ _ _=>k b u q
 slot:=fun b u q _ _ _=>⟨u.slots,k b u q⟩
 free:=fun b u q n _=>(hH b (Heap.lt_size q)).trans n
 there:=fun b u q _=>⟨u,k b u q⟩
 tups:=fun b xs r=>(hH b (hin b _ r)).trans r
 frzs:=fun b o u r=>(hH b (hin b _ r)).trans r
 tbls:=fun b ps r=>⟨#[],by rw[Array.append_empty];exact(hH b (hin b _ r)).trans r⟩
theorem qG{Φ:Fx}{sc:Scope}{H0:Hp}{fl:Fl}{rest:List Stmt}(G:aQ Φ X sc)(hp:PassesOwn (model X.prog X.w) X.A X.env X.xe):∀{pre:List Stmt} {ρ ρ1:af},ac (aC Φ pre sc ρ) (.nx ρ1)->fo X H0 ρ1 rest fl->fo X H0 ρ (pre++rest) fl
 | [],ρ,ρ1,h,k=>by cases aH h;exact k
 | st::ss,ρ,ρ1,h,k=>by
  obtain⟨f1,h1,h2⟩:=aw (show ac (Rs.bnd _ _) _ from h)
  cases f1 with
  | nx ρ'=>exact iz ((jH Φ _).s st (Nat.lt_succ_self _) h1 G hp) (qG G hp h2 k)
  | rt d=>cases aH h2
  | bk ρ'=>cases aH h2
  | ct ρ'=>cases aH h2
theorem Ao{K:W.Frag}{mg:Str->Option Value}{base:Heap}{g:Str}{f:Addr}{fd:FuncData}{ps:List Str}{F:List D->Rs D}(h:bH P w K mg base dF k f fd ps (jw K F))(hm:mg g=some (.ref f))(hk:W.keepIn K (.ref f)=true)(hb:bY K fd ps [])(hd:(g==("__debug__" : Str))=false):cy P w K mg base k g F :=
 ⟨f,fd,ps,h,hm,hk,hb,hd⟩
theorem v7{Φ:Fx}{sc:Scope}{H0:Hp}{rest:List Stmt}{t:TS}(G:aQ Φ X sc)(hp:PassesOwn (model X.prog X.w) X.A X.env X.xe)(hr:eQ X rest t):∀{pre:List Stmt} {ρ ρ1:af},ac (aC Φ pre sc ρ) (.nx ρ1) ->
  eQ X (pre++rest) (fun D σ H => ∃ow,aL X ow H σ ρ/\σ.length=X.N.length/\cj H0 ow H/\∀ow' σ' H',aL X ow' H' σ' ρ1->σ'.length=X.N.length->cj H0 ow' H'->t D σ' H')
 | [],ρ,ρ1,h=>by
  cases aH h
  exact fun pins s σ H D I ⟨ow,E,hl,B,q⟩=>hr pins s σ H D I (q ow σ H E hl B)
 | st::ss,ρ,ρ1,h=>by
  obtain⟨f1,h1,h2⟩:=aw (show ac (Rs.bnd _ _) _ from h)
  cases f1 with
  | nx ρ' =>
   have sd:=(jH Φ _).s st (H0:=H0) (Nat.lt_succ_self _) h1 G hp
   have ih:=v7 (H0:=H0) G hp hr h2
   exact fun pins s σ H D I ⟨ow,E,hl,B,q⟩=>fz sd ih pins s σ H D I ⟨ow,E,hl,B,fun ow' σ' H' E' hl' k=>⟨ow',E',hl',B.keep k,q⟩⟩
  | rt d=>cases aH h2
  | bk ρ'=>cases aH h2
  | ct ρ'=>cases aH h2
theorem Co{ow:Ow}{σ:L2.St}{ρ:af}(E:aL X ow H σ ρ):aL X (fun _=>none) H σ (fP ρ):=⟨fun x d o h=>by
 unfold fP at h
 cases e:ρ x with
 | none=>rw[e]at h;cases h
 | some p =>
  rw[e]at h
  obtain⟨i,v,e1,e2,e3,e4⟩:=E.get x p.1 p.2 (by rw[e])
  cases h
  exact⟨i,v,e1,e2,e3,e4.imp fun _ _ _ _=>rfl⟩,fun a ha=>absurd rfl ha⟩
variable{Φ:Fx}{sc:Scope}{ρ ρ':af}{fl:Fl}{ss:List Stmt}
theorem pZ{a b:Expr}{it:Bool}{t:Bool}{r:D×Nat}(hc:ac (aA Φ c false sc ρ) (.bl t,k))(h1:t=true->ac (aA Φ a false sc ρ) r)(h2:t=false->ac (aA Φ b false sc ρ) r):ac (aA Φ (.IfExp c a b p) it sc ρ) r:=by
 refine ac.bnd hc (jp rfl (DP ?_))
 cases t with
 | true=>exact h1 rfl
 | false=>exact h2 rfl
theorem sP{test:af->Rs Bool}{body:af->Rs Fl}(aj:Nat->af->Prop)(step:∀m ρ,aj m ρ->∃b,ac (test ρ) b/\(b=true->∃m' ρ2,m' < m/\ac (body ρ) (.nx ρ2)/\aj m' ρ2)):∀{n m:Nat} {ρ:af},aj m ρ->m<n->∃m' ρ',ac (nO test body n ρ) (.nx ρ')/\aj m' ρ'/\ac (test ρ') false:=by
 intro n
 induction n with
 | zero=>intro m ρ _ h;omega
 | succ n ih =>
  intro m ρ hi hm
  obtain⟨b,hb,h⟩:=step m ρ hi
  cases b with
  | false=>exact⟨m,ρ,ac.bnd hb cP,hi,hb⟩
  | true =>
   obtain⟨m',ρ2,h1,h2,h3⟩:=h rfl
   obtain⟨m2,ρ3,h4,h5,h6⟩:=ih h3 (show m' < n by omega)
   exact⟨m2,ρ3,ac.bnd hb (ac.bnd h2 h4),h5,h6⟩
theorem lv{body:List Stmt}{m:Nat}(aj:Nat->af->Prop)(h0:aj m ρ)(hm:m<bA)
  (step:∀m ρ,aj m ρ->∃b k,ac (aA Φ c false sc ρ) (.bl b,k)/\(b=true->∃m' ρ2,m' < m/\ac (aC Φ body sc ρ) (.nx ρ2)/\aj m' ρ2)) (rest:∀m ρ',aj m ρ'->(∃k,ac (aA Φ c false sc ρ') (.bl false,k))->ac (aC Φ ss sc ρ') fl):ac (aC Φ (.While c body [] p::ss) sc ρ) fl:=by
 obtain⟨m',ρ',h1,h2,h3⟩:=sP (test:=fun ρ=>(aA Φ c false sc ρ).bnd fun p=>ji p fun b=>.ok b []) (body:=aC Φ body sc) aj (fun m ρ h=>by
  obtain⟨b,k,a1,a2⟩:=step m ρ h
  exact⟨b,a1.bnd (jp rfl cP),a2⟩) h0 hm
 obtain⟨q,h4,h5⟩:=aw h3
 obtain⟨t,ht,h5⟩:=gJ h5
 cases aH h5
 obtain⟨q1,q2⟩:=q
 have ht:q1=.bl false:=ht
 subst ht
 exact bD (uF h1) (rest m' ρ' h2 ⟨q2,h4⟩)
theorem mO{m m':Nat}{A:af->Prop}{P:Nat->af->Prop}(h:m' < m)(k:∃ρ2,A ρ2/\P m' ρ2):∃m' ρ2,m' < m/\A ρ2/\P m' ρ2:=by
 obtain⟨ρ2,a,b⟩:=k
 exact⟨m',ρ2,h,a,b⟩
end Sp
namespace K
open PySem L2 Sp
def OH(p q:Qd):Qd :=
 (p.1*q.1-p.2.1*q.2.1-p.2.2.1*q.2.2.1-p.2.2.2*q.2.2.2,p.1*q.2.1+p.2.1*q.1+p.2.2.1*q.2.2.2-p.2.2.2*q.2.2.1,
  p.1*q.2.2.1-p.2.1*q.2.2.2+p.2.2.1*q.1+p.2.2.2*q.2.1,p.1*q.2.2.2+p.2.1*q.2.2.1-p.2.2.1*q.2.1+p.2.2.2*q.1)
theorem qj{p q:Qd}(h:ee p)(g:ee q):(bJ p.1 q.1/\bJ p.2.1 q.2.1/\bJ p.2.2.1 q.2.2.1/\bJ p.2.2.2 q.2.2.2)/\(bJ p.1 q.2.1/\bJ p.2.1 q.1/\bJ p.2.2.1 q.2.2.2/\bJ p.2.2.2 q.2.2.1)/\(bJ p.1 q.2.2.1/\bJ p.2.1 q.2.2.2/\bJ p.2.2.1 q.1/\bJ p.2.2.2 q.2.1)/\(bJ p.1 q.2.2.2/\bJ p.2.1 q.2.2.1/\bJ p.2.2.1 q.2.1/\bJ p.2.2.2 q.1) :=
 ⟨⟨bR h.1 g.1,bR h.2.1 g.2.1,bR h.2.2.1 g.2.2.1,bR h.2.2.2 g.2.2.2⟩,⟨bR h.1 g.2.1,bR h.2.1 g.1,bR h.2.2.1 g.2.2.2,bR h.2.2.2 g.2.2.1⟩,⟨bR h.1 g.2.2.1,bR h.2.1 g.2.2.2,bR h.2.2.1 g.1,bR h.2.2.2 g.2.1⟩,⟨bR h.1 g.2.2.2,bR h.2.1 g.2.2.1,bR h.2.2.1 g.2.1,bR h.2.2.2 g.1⟩⟩

end K
namespace K
open PySem L2 Sp Qm
variable{P P3 U a b c e f g n w x y z:Int}{d k p q r:Qd}{E M N m:Nat}{s:Bool}{Φ:Fx}{sc:Scope}{ρ:af}{ns:List Int}
abbrev bd(a b c d:Int):Prop:=a.natAbs<c6/\b.natAbs<c6/\c.natAbs<c6/\d.natAbs<c6
theorem Mp{d h Q R S P2 Q2 R2 S2 V W X Q3 R3 S3:Int}
  (hP:a*e-b*f-c*g-d*h=2*P) (hQ:a*f+b*e+c*h-d*g=2*Q) (hR:a*g-b*h+c*e+d*f=2*R) (hS:a*h+b*g-c*f+d*e=2*S)
  (kP:P*x-Q*y-R*z-S*w=2*P2) (kQ:P*y+Q*x+R*w-S*z=2*Q2) (kR:P*z-Q*w+R*x+S*y=2*R2) (kS:P*w+Q*z-R*y+S*x=2*S2)
  (hU:e*x-f*y-g*z-h*w=2*U) (hV:e*y+f*x+g*w-h*z=2*V) (hW:e*z-f*w+g*x+h*y=2*W) (hX:e*w+f*z-g*y+h*x=2*X)
  (lP:a*U-b*V-c*W-d*X=2*P3) (lQ:a*V+b*U+c*X-d*W=2*Q3) (lR:a*W-b*X+c*U+d*V=2*R3) (lS:a*X+b*W-c*V+d*U=2*S3) :
  P2=P3/\Q2=Q3/\R2=R3/\S2=S3:=by
 have e1:4*P2=(2*P)*x-(2*Q)*y-(2*R)*z-(2*S)*w:=by grind
 have e2:4*Q2=(2*P)*y+(2*Q)*x+(2*R)*w-(2*S)*z:=by grind
 have e3:4*R2=(2*P)*z-(2*Q)*w+(2*R)*x+(2*S)*y:=by grind
 have e4:4*S2=(2*P)*w+(2*Q)*z-(2*R)*y+(2*S)*x:=by grind
 have f1:4*P3=a*(2*U)-b*(2*V)-c*(2*W)-d*(2*X):=by grind
 have f2:4*Q3=a*(2*V)+b*(2*U)+c*(2*X)-d*(2*W):=by grind
 have f3:4*R3=a*(2*W)-b*(2*X)+c*(2*U)+d*(2*V):=by grind
 have f4:4*S3=a*(2*X)+b*(2*W)-c*(2*V)+d*(2*U):=by grind
 rw[<- hP,<- hQ,<- hR,<- hS]at e1 e2 e3 e4
 rw[<- hU,<- hV,<- hW,<- hX]at f1 f2 f3 f4
 clear hP hQ hR hS kP kQ kR kS hU hV hW hX lP lQ lR lS
 have m1:4*P2=4*P3:=by rw[e1,f1];clear e1 e2 e3 e4 f1 f2 f3 f4;grind
 have m2:4*Q2=4*Q3:=by rw[e2,f2];clear e1 e2 e3 e4 f1 f2 f3 f4;grind
 have m3:4*R2=4*R3:=by rw[e3,f3];clear e1 e2 e3 e4 f1 f2 f3 f4;grind
 have m4:4*S2=4*S3:=by rw[e4,f4];clear e1 e2 e3 e4 f1 f2 f3 f4;grind
 omega
def aP(p q:Qd):Qd :=
 ((p.1*q.1-p.2.1*q.2.1-p.2.2.1*q.2.2.1-p.2.2.2*q.2.2.2).fdiv 2,(p.1*q.2.1+p.2.1*q.1+p.2.2.1*q.2.2.2-p.2.2.2*q.2.2.1).fdiv 2,
  (p.1*q.2.2.1-p.2.1*q.2.2.2+p.2.2.1*q.1+p.2.2.2*q.2.1).fdiv 2,(p.1*q.2.2.2+p.2.1*q.2.2.1-p.2.2.1*q.2.1+p.2.2.2*q.1).fdiv 2)
def au(q:Qd):Int:=(q.1*q.1+(q.2.1*q.2.1+(q.2.2.1*q.2.2.1+(q.2.2.2*q.2.2.2+0)))).fdiv 4
def am(q:Qd):Prop:=qy q.1 q.2.1 q.2.2.1 q.2.2.2
def cV(M:Nat)(q:Qd):Prop:=q.1.natAbs<=M/\q.2.1.natAbs<=M/\q.2.2.1.natAbs<=M/\q.2.2.2.natAbs<=M
def cJ:Qd:=(2,0,0,0)
theorem cn(h:am p)(g:am q):∃P Q R S,p.1*q.1-p.2.1*q.2.1-p.2.2.1*q.2.2.1-p.2.2.2*q.2.2.2=2*P/\p.1*q.2.1+p.2.1*q.1+p.2.2.1*q.2.2.2-p.2.2.2*q.2.2.1=2*Q /\
  p.1*q.2.2.1-p.2.1*q.2.2.2+p.2.2.1*q.1+p.2.2.2*q.2.1=2*R/\p.1*q.2.2.2+p.2.1*q.2.2.1-p.2.2.1*q.2.1+p.2.2.2*q.1=2*S/\qy P Q R S/\aP p q=(P,Q,R,S):=by
 obtain⟨P,Q,R,S,h1,h2,h3,h4,h5⟩:=BM h g
 exact⟨P,Q,R,S,h1,h2,h3,h4,h5,by unfold aP;rw[cg h1,cg h2,cg h3,cg h4]⟩
theorem de(h:am p)(g:am q):am (aP p q):=by
 obtain⟨P,Q,R,S,h1,h2,h3,h4,h5,e⟩:=cn h g
 rw[e];exact h5
theorem jZ:am cJ:=⟨0,1,0,0,0,.inl rfl,rfl,rfl,rfl,rfl⟩
theorem dW(h:am p)(g:am q)(k:am r):aP (aP p q) r=aP p (aP q r):=by
 obtain⟨P,Q,R,S,hP,hQ,hR,hS,p1,e1⟩:=cn h g
 obtain⟨U,V,W,X,hU,hV,hW,hX,p2,e2⟩:=cn g k
 obtain⟨P2,Q2,R2,S2,kP,kQ,kR,kS,p3,e3⟩:=cn (p:=(P,Q,R,S)) p1 k
 obtain⟨P3,Q3,R3,S3,lP,lQ,lR,lS,p4,e4⟩:=cn (q:=(U,V,W,X)) h p2
 rw[e1,e2,e3,e4]
 obtain⟨q1,q2,q3,q4⟩:=Mp hP hQ hR hS kP kQ kR kS hU hV hW hX lP lQ lR lS
 rw[q1,q2,q3,q4]
theorem tY(q:Qd):aP cJ q=q:=by
 obtain⟨a,b,c,d⟩:=q
 show(_,_,_,_)=_
 rw[cg (P:=a) (by show 2*a-0*b-0*c-0*d=_;omega),cg (P:=b) (by show 2*b+0*a+0*d-0*c=_;omega),cg (P:=c) (by show 2*c-0*d+0*a+0*b=_;omega),cg (P:=d) (by show 2*d+0*c-0*b+0*a=_;omega)]
theorem BS(q:Qd):aP q cJ=q:=by
 obtain⟨a,b,c,d⟩:=q
 show(_,_,_,_)=_
 rw[cg (P:=a) (by show a*2-b*0-c*0-d*0=_;omega),cg (P:=b) (by show a*0+b*2+c*0-d*0=_;omega),cg (P:=c) (by show a*0-b*0+c*2+d*0=_;omega),cg (P:=d) (by show a*0+b*0-c*0+d*2=_;omega)]
theorem uB{qs:List Qd}(h:am p)(g:∀q∈qs,am q):am (qs.foldl aP p):=by
 induction qs generalizing p with
 | nil=>exact h
 | cons q qs ih=>exact ih (de h (g q (by simp))) fun r hr=>g r (by simp[hr])
theorem cI(h:am p):∃t,p.1*p.1+(p.2.1*p.2.1+(p.2.2.1*p.2.2.1+(p.2.2.2*p.2.2.2+0)))=4*t/\au p=t:=by
 obtain⟨t,ht⟩:=HY h
 exact⟨t,ht,by unfold au;rw[ht,fd4]⟩
theorem ip(h:am p)(g:am q):au (aP p q)=au p*au q:=by
 obtain⟨t1,h1,e1⟩:=cI h
 obtain⟨t2,h2,e2⟩:=cI g
 obtain⟨t3,h3,e3⟩:=cI (de h g)
 rw[e1,e2,e3]
 obtain⟨P,Q,R,S,hP,hQ,hR,hS,p1,e⟩:=cn h g
 rw[e]at h3
 have eu:=Mc p.1 p.2.1 p.2.2.1 p.2.2.2 q.1 q.2.1 q.2.2.1 q.2.2.2
 rw[hP,hQ,hR,hS,h1,h2]at eu
 have:4*(4*t3)=4*(4*(t1*t2)):=by rw[<- h3];clear e h3 e1 e2 e3 h1 h2 hP hQ hR hS p1 h g;grind
 omega
theorem bC(h:a.natAbs<=M)(g:e.natAbs<=N):(a*e).natAbs<=M*N:=by
 rw[Int.natAbs_mul];exact Nat.mul_le_mul h g
theorem SZ{K:Nat}(h1:x.natAbs<=K)(h2:y.natAbs<=K)(h3:z.natAbs<=K)(h4:w.natAbs<=K)(e:x-y-z-w=2*P):P.natAbs<=2*K:=by omega
theorem SY{K:Nat}(h1:x.natAbs<=K)(h2:y.natAbs<=K)(h3:z.natAbs<=K)(h4:w.natAbs<=K)(e:x+y+z-w=2*P):P.natAbs<=2*K:=by omega
theorem SX{K:Nat}(h1:x.natAbs<=K)(h2:y.natAbs<=K)(h3:z.natAbs<=K)(h4:w.natAbs<=K)(e:x-y+z+w=2*P):P.natAbs<=2*K:=by omega
theorem SW{K:Nat}(h1:x.natAbs<=K)(h2:y.natAbs<=K)(h3:z.natAbs<=K)(h4:w.natAbs<=K)(e:x+y-z+w=2*P):P.natAbs<=2*K:=by omega
theorem qU(h:cV M p)(g:cV N q)(hp:am p)(hq:am q):cV (2*(M*N)) (aP p q):=by
 obtain⟨P,Q,R,S,hP,hQ,hR,hS,p1,e⟩:=cn hp hq
 rw[e]
 obtain⟨a1,a2,a3,a4⟩:=h
 obtain⟨b1,b2,b3,b4⟩:=g
 exact⟨SZ (bC a1 b1) (bC a2 b2) (bC a3 b3) (bC a4 b4) hP,SY (bC a1 b2) (bC a2 b1) (bC a3 b4) (bC a4 b3) hQ,
  SX (bC a1 b3) (bC a2 b4) (bC a3 b1) (bC a4 b2) hR,SW (bC a1 b4) (bC a2 b3) (bC a3 b2) (bC a4 b1) hS⟩
theorem eN(h:cV M q)(hM:M<c6):bd q.1 q.2.1 q.2.2.1 q.2.2.2 :=
 ⟨Nat.lt_of_le_of_lt h.1 hM,Nat.lt_of_le_of_lt h.2.1 hM,Nat.lt_of_le_of_lt h.2.2.1 hM,Nat.lt_of_le_of_lt h.2.2.2 hM⟩
def cN(q:Qd):Qd:=(q.1,-q.2.1,-q.2.2.1,-q.2.2.2)
def bj(p q:Qd):Qd:=(p.1-q.1,p.2.1-q.2.1,p.2.2.1-q.2.2.1,p.2.2.2-q.2.2.2)
def ci(p q:Qd):Qd:=(p.1+q.1,p.2.1+q.2.1,p.2.2.1+q.2.2.1,p.2.2.2+q.2.2.2)
def aX(q:Qd)(n:Int):Qd:=(q.1*n,q.2.1*n,q.2.2.1*n,q.2.2.2*n)
def aI(s:Bool)(p q:Qd):Qd:=if s=true then aP p q else aP q p
def aD:Qd:=(0,0,0,0)
theorem cR(h1:p.1=q.1)(h2:p.2.1=q.2.1)(h3:p.2.2.1=q.2.2.1)(h4:p.2.2.2=q.2.2.2):p=q:=by
 obtain⟨a,b,c,d⟩:=p
 obtain⟨e,f,g,h⟩:=q
 cases h1;cases h2;cases h3;cases h4;rfl
theorem Dz(h:a=2*x+e)(g:b=2*y+f):a-b=2*(x-y)+(e-f):=by omega
theorem wb(h:a=2*x+e)(g:b=2*y+f):a+b=2*(x+y)+(e+f):=by omega
theorem xF{d:Int}(h1:a=2*x+n)(h2:b=2*y+n)(h3:c=2*z+n)(h4:d=2*w+n):qy a b c d:=by
 have k:∀{u v:Int},u=2*v+n->u=2*(v+n / 2)+n % 2:=by omega
 exact⟨n % 2,_,_,_,_,Int.emod_two_eq n,k h1,k h2,k h3,k h4⟩
theorem HH(h:a=2*x+e):-a=2*(-x-e)+e:=by omega
theorem dS(h:am q):am (cN q):=by
 obtain⟨e,x,y,z,w,he,h1,h2,h3,h4⟩:=h
 exact⟨e,x,_,_,_,he,h1,HH h2,HH h3,HH h4⟩
theorem bT(h:am p)(g:am q):am (bj p q):=by
 obtain⟨e,x,y,z,w,he,h1,h2,h3,h4⟩:=h
 obtain⟨e',x',y',z',w',he',g1,g2,g3,g4⟩:=g
 exact xF (Dz h1 g1) (Dz h2 g2) (Dz h3 g3) (Dz h4 g4)
theorem ge(h:am p)(g:am q):am (ci p q):=by
 obtain⟨e,x,y,z,w,he,h1,h2,h3,h4⟩:=h
 obtain⟨e',x',y',z',w',he',g1,g2,g3,g4⟩:=g
 exact xF (wb h1 g1) (wb h2 g2) (wb h3 g3) (wb h4 g4)
theorem Dx(he:e=0\/e=1)(h:a=2*x+e):a % 2=e:=by omega
theorem jC:am q↔q.2.1 % 2=q.1 % 2/\q.2.2.1 % 2=q.1 % 2/\q.2.2.2 % 2=q.1 % 2:=by
 constructor
 ·rintro⟨e,x,y,z,w,he,h1,h2,h3,h4⟩
  rw[Dx he h1,Dx he h2,Dx he h3,Dx he h4]
  exact⟨rfl,rfl,rfl⟩
 ·rintro⟨h1,h2,h3⟩
  have k:∀a:Int,a=2*(a / 2)+a % 2:=fun a=>(Int.mul_ediv_add_emod a 2).symm
  exact⟨q.1 % 2,_,_,_,_,Int.emod_two_eq _,k _,by rw[<- h1];exact k _,by rw[<- h2];exact k _,by rw[<- h3];exact k _⟩
theorem Dy(h:a=2*x+e):a*n=2*(x*n)+e*n:=by rw[h,Int.add_mul,Int.mul_assoc]
theorem fE(n:Int)(h:am q):am (aX q n):=by
 obtain⟨e,x,y,z,w,he,h1,h2,h3,h4⟩:=h
 exact xF (Dy h1) (Dy h2) (Dy h3) (Dy h4)
theorem iD:am aD:=⟨0,0,0,0,0,.inl rfl,rfl,rfl,rfl,rfl⟩
theorem bV(h:am p)(g:am q):am (aI s p q):=by
 unfold aI;split
 ·exact de h g
 ·exact de g h
theorem lN(h:a=2*P)(g:b=2*U)(k:c=2*P3)(e:c=a-b):P3=P-U:=by omega
theorem nU(h:am p)(k:am r)(g:am q):aP (bj p r) q=bj (aP p q) (aP r q):=by
 obtain⟨P,Q,R,S,hP,hQ,hR,hS,_,e1⟩:=cn h g
 obtain⟨U,V,W,X,hU,hV,hW,hX,_,e2⟩:=cn k g
 obtain⟨P3,Q3,R3,S3,lP,lQ,lR,lS,_,e3⟩:=cn (bT h k) g
 rw[e1,e2,e3]
 simp only[bj]at *
 clear e1 e2 e3 h k g
 refine cR ?_ ?_ ?_ ?_
 ·exact lN hP hU lP (by simp only[Int.sub_mul,Int.mul_sub];omega)
 ·exact lN hQ hV lQ (by simp only[Int.sub_mul,Int.mul_sub];omega)
 ·exact lN hR hW lR (by simp only[Int.sub_mul,Int.mul_sub];omega)
 ·exact lN hS hX lS (by simp only[Int.sub_mul,Int.mul_sub];omega)
theorem nS(h:am p)(k:am r)(g:am q):aP q (bj p r)=bj (aP q p) (aP q r):=by
 obtain⟨P,Q,R,S,hP,hQ,hR,hS,_,e1⟩:=cn g h
 obtain⟨U,V,W,X,hU,hV,hW,hX,_,e2⟩:=cn g k
 obtain⟨P3,Q3,R3,S3,lP,lQ,lR,lS,_,e3⟩:=cn g (bT h k)
 rw[e1,e2,e3]
 simp only[bj]at *
 clear e1 e2 e3 h k g
 refine cR ?_ ?_ ?_ ?_
 ·exact lN hP hU lP (by simp only[Int.sub_mul,Int.mul_sub];omega)
 ·exact lN hQ hV lQ (by simp only[Int.sub_mul,Int.mul_sub];omega)
 ·exact lN hR hW lR (by simp only[Int.sub_mul,Int.mul_sub];omega)
 ·exact lN hS hX lS (by simp only[Int.sub_mul,Int.mul_sub];omega)
theorem eh(k:Qd)(n:Int):aP k (2*n,0,0,0)=aX k n:=by
 obtain⟨a,b,c,d⟩:=k
 show(_,_,_,_)=(a*n,b*n,c*n,d*n)
 rw[cg (P:=a*n) (by show a*(2*n)-b*0-c*0-d*0=_;grind),cg (P:=b*n) (by show a*0+b*(2*n)+c*0-d*0=_;grind),cg (P:=c*n) (by show a*0-b*0+c*(2*n)+d*0=_;grind),cg (P:=d*n) (by show a*0+b*0-c*0+d*(2*n)=_;grind)]
theorem gx(k:Qd)(n:Int):aP (2*n,0,0,0) k=aX k n:=by
 obtain⟨a,b,c,d⟩:=k
 show(_,_,_,_)=(a*n,b*n,c*n,d*n)
 rw[cg (P:=a*n) (by show 2*n*a-0*b-0*c-0*d=_;grind),cg (P:=b*n) (by show 2*n*b+0*a+0*d-0*c=_;grind),cg (P:=c*n) (by show 2*n*c-0*d+0*a+0*b=_;grind),cg (P:=d*n) (by show 2*n*d+0*c-0*b+0*a=_;grind)]
theorem iG(h:am q):aP q (cN q)=(2*au q,0,0,0)/\aP (cN q) q=(2*au q,0,0,0):=by
 obtain⟨t,ht,e⟩:=cI h
 obtain⟨a,b,c,d⟩:=q
 rw[e]
 simp only at ht
 constructor
 ·show(_,_,_,_)=_
  rw[cg (P:=2*t) (by show a*a-b * -b-c * -c-d * -d=_;grind),cg (P:=0) (by show a * -b+b*a+c * -d-d * -c=_;grind),cg (P:=0) (by show a * -c-b * -d+c*a+d * -b=_;grind),cg (P:=0) (by show a * -d+b * -c-c * -b+d*a=_;grind)]
 ·show(_,_,_,_)=_
  rw[cg (P:=2*t) (by show a*a - -b*b - -c*c - -d*d=_;grind),cg (P:=0) (by show a*b + -b*a + -c*d - -d*c=_;grind),cg (P:=0) (by show a*c - -b*d + -c*a + -d*b=_;grind),cg (P:=0) (by show a*d + -b*c - -c*b + -d*a=_;grind)]
theorem vV(q:Qd):au (cN q)=au q:=by unfold au cN;simp only[Int.neg_mul_neg]
theorem eT(x:Int):0<=x*x:=by
 rcases Int.le_total 0 x with h|h
 ·exact Int.mul_nonneg h h
 ·have:=Int.mul_nonneg (show 0 <= -x by omega) (show 0 <= -x by omega);rwa [Int.neg_mul_neg]at this
theorem d8(h:am q):0<=au q:=by
 obtain⟨t,ht,e⟩:=cI h
 have:=eT q.1;have:=eT q.2.1;have:=eT q.2.2.1;have:=eT q.2.2.2
 omega
theorem mT(h:x*x=0):x=0:=by rcases Int.mul_eq_zero.mp h with h|h<;>exact h
theorem sU(h:am q)(g:au q=0):q=aD:=by
 obtain⟨t,ht,e⟩:=cI h
 have:=eT q.1;have:=eT q.2.1;have:=eT q.2.2.1;have:=eT q.2.2.2
 exact cR (mT (by omega)) (mT (by omega)) (mT (by omega)) (mT (by omega))
theorem fX(h:am q)(g:q≠aD):0<au q:=by
 have:=d8 h
 have:au q≠0:=fun z=>g (sU h z)
 omega
def gR(x n:Int):Int:=(x+n).fdiv (2*n)*2
def iE(x n:Int):Int:=x.fdiv (2*n)*2+1
def hJ(q:Qd)(n:Int):Qd:=(gR q.1 n,gR q.2.1 n,gR q.2.2.1 n,gR q.2.2.2 n)
def i6(q:Qd)(n:Int):Qd:=(iE q.1 n,iE q.2.1 n,iE q.2.2.1 n,iE q.2.2.2 n)
def fY(q t:Qd)(n:Int):Int:=au (bj q (aX t n))
def dU(q:Qd)(n:Int):Qd:=if fY q (hJ q n) n<=fY q (i6 q n) n then hJ q n else i6 q n
theorem i7(h:0<n):(x-gR x n*n)*(x-gR x n*n)+(x-iE x n*n)*(x-iE x n*n)<=n*n:=by
 unfold gR iE
 rw[Int.fdiv_eq_ediv_of_nonneg _ (by omega),Int.fdiv_eq_ediv_of_nonneg _ (by omega)]
 have e:=Int.mul_ediv_add_emod x (2*n)
 have r0:=Int.emod_nonneg x (show 2*n≠0 by omega)
 have r1:=Int.emod_lt_of_pos x (show 0<2*n by omega)
 generalize x % (2*n)=r at *
 generalize hk:x / (2*n)=k at *
 have hx:x=2*n*k+r:=by omega
 by_cases hr:r<n
 ·have hd:(x+n) / (2*n)=k:=by
   rw[hx,show 2*n*k+r+n=(r+n)+2*n*k by omega,Int.add_mul_ediv_left _ _ (by omega),Int.ediv_eq_zero_of_lt (by omega) (by omega)];omega
  rw[hd]
  have h1:x-k*2*n=r:=by rw[hx];grind
  have h2:x-(k*2+1)*n=r-n:=by rw[hx];grind
  rw[h1,h2]
  have:=Int.mul_nonneg r0 (show 0<=n-r by omega)
  have e2:r*r+(r-n)*(r-n)=n*n-2*(r*(n-r)):=by grind
  omega
 ·have hd:(x+n) / (2*n)=k+1:=by
   rw[hx,show 2*n*k+r+n=(r-n)+2*n*(k+1) by grind,Int.add_mul_ediv_left _ _ (by omega),Int.ediv_eq_zero_of_lt (by omega) (by omega)];omega
  rw[hd]
  have h1:x-(k+1)*2*n=r-2*n:=by rw[hx];grind
  have h2:x-(k*2+1)*n=r-n:=by rw[hx];grind
  rw[h1,h2]
  have:=Int.mul_nonneg (show 0<=r-n by omega) (show 0<=2*n-r by omega)
  have e2:(r-2*n)*(r-2*n)+(r-n)*(r-n)=n*n-2*((r-n)*(2*n-r)):=by grind
  omega
theorem qM(q:Qd)(n:Int):am (hJ q n):=⟨0,(q.1+n).fdiv (2*n),(q.2.1+n).fdiv (2*n),(q.2.2.1+n).fdiv (2*n),(q.2.2.2+n).fdiv (2*n),.inl rfl,by simp only[hJ,gR];omega,by simp only[hJ,gR];omega,by simp only[hJ,gR];omega,by simp only[hJ,gR];omega⟩
theorem qL(q:Qd)(n:Int):am (i6 q n):=⟨1,q.1.fdiv (2*n),q.2.1.fdiv (2*n),q.2.2.1.fdiv (2*n),q.2.2.2.fdiv (2*n),.inr rfl,by simp only[i6,iE];omega,by simp only[i6,iE];omega,by simp only[i6,iE];omega,by simp only[i6,iE];omega⟩
theorem Fp(h:am q)(g:0<n):am (dU q n)/\2*fY q (dU q n) n<=n*n:=by
 have c1:=i7 (x:=q.1) g
 have c2:=i7 (x:=q.2.1) g
 have c3:=i7 (x:=q.2.2.1) g
 have c4:=i7 (x:=q.2.2.2) g
 obtain⟨t1,h1,e1⟩:=cI (bT h (fE n (qM q n)))
 obtain⟨t2,h2,e2⟩:=cI (bT h (fE n (qL q n)))
 have s1:fY q (hJ q n) n=t1:=e1
 have s2:fY q (i6 q n) n=t2:=e2
 simp only[bj,aX,hJ,i6]at h1 h2
 have:t1+t2<=n*n:=by omega
 unfold dU
 split
 ·exact⟨qM q n,by rw[s1]at *;omega⟩
 ·exact⟨qL q n,by rw[s2]at *;omega⟩
theorem xM(h:am k)(g:0<n):dU (aX k n) n=k:=by
 have hp:=fE n h
 obtain⟨e,x,y,z,w,he,h1,h2,h3,h4⟩:=h
 have ev:∀(a b:Int),a=2*b->gR (a*n) n=a:=fun a b hab=>by
  unfold gR
  rw[Int.fdiv_eq_ediv_of_nonneg _ (by omega),hab,show 2*b*n+n=n+2*n*b by grind,Int.add_mul_ediv_left _ _ (by omega),Int.ediv_eq_zero_of_lt (by omega) (by omega)];omega
 have od:∀(a b:Int),a=2*b+1->iE (a*n) n=a:=fun a b hab=>by
  unfold iE
  rw[Int.fdiv_eq_ediv_of_nonneg _ (by omega),hab,show(2*b+1)*n=n+2*n*b by grind,Int.add_mul_ediv_left _ _ (by omega),Int.ediv_eq_zero_of_lt (by omega) (by omega)];omega
 have eo:∀(a b:Int),a=2*b+1->a*n-gR (a*n) n*n = -n:=fun a b hab=>by
  unfold gR
  rw[Int.fdiv_eq_ediv_of_nonneg _ (by omega),hab,show(2*b+1)*n+n=0+2*n*(b+1) by grind,Int.add_mul_ediv_left _ _ (by omega),Int.zero_ediv];grind
 have zz:fY (aX k n) k n=0:=by
  unfold fY bj aX au
  simp only[Int.sub_self];decide
 rcases he with rfl|rfl
 ·have hev:hJ (aX k n) n=k:=cR (ev _ x (by omega)) (ev _ y (by omega)) (ev _ z (by omega)) (ev _ w (by omega))
  unfold dU
  rw[hev,zz,if_pos]
  exact d8 (bT hp (fE n (qL _ n)))
 ·have hod:i6 (aX k n) n=k:=cR (od _ x (by omega)) (od _ y (by omega)) (od _ z (by omega)) (od _ w (by omega))
  obtain⟨t,ht,e⟩:=cI (bT hp (fE n (qM (aX k n) n)))
  have s1:fY (aX k n) (hJ (aX k n) n) n=t:=e
  simp only[bj,hJ]at ht
  simp only[aX]at ht
  rw[eo _ x (by omega),eo _ y (by omega),eo _ z (by omega),eo _ w (by omega),Int.neg_mul_neg]at ht
  have:=Int.mul_pos g g
  unfold dU
  rw[hod,zz,s1,if_neg (by omega)]
def db(s:Bool)(p q:Qd):Qd:=dU (aI s p (cN q)) (au q)
def dj(s:Bool)(p q:Qd):Qd:=bj p (aI s (db s p q) q)
theorem oa(hp:am p)(hq:am q)(hk:am k):aI s (bj p (aI s k q)) (cN q)=bj (aI s p (cN q)) (aX k (au q)):=by
 have hb:=dS hq
 unfold aI
 cases s with
 | true =>
  simp only[if_true]
  rw[nU hp (de hk hq) hb,dW hk hq hb,(iG hq).1,eh]
 | false =>
  simp only[Bool.false_eq_true,if_false]
  rw[nS hp (de hq hk) hb,<- dW hb hq hk,(iG hq).2,gx]
theorem mR(hp:am p)(hq:am q):au (aI s p q)=au p*au q:=by
 unfold aI
 split
 ·exact ip hp hq
 ·rw[ip hq hp,Int.mul_comm]
theorem md(hp:am p)(hq:am q)(h0:q≠aD):am (db s p q)/\am (dj s p q)/\2*au (dj s p q)<=au q:=by
 have hn:=fX hq h0
 obtain⟨hk,hs⟩:=Fp (bV (s:=s) hp (dS hq)) hn
 have hr:am (dj s p q):=bT hp (bV hk hq)
 refine⟨hk,hr,?_⟩
 have e:=mR (s:=s) hr (dS hq)
 rw[vV]at e
 have e2:au (aI s (dj s p q) (cN q))=fY (aI s p (cN q)) (db s p q) (au q):=by
  unfold dj fY
  rw[oa (k:=db s p q) hp hq hk]
 rw[e]at e2
 have hs':2*(au (dj s p q)*au q)<=au q*au q:=by rw[e2];exact hs
 have h3:2*au (dj s p q)*au q<=au q*au q:=by rw[Int.mul_assoc];exact hs'
 exact Int.le_of_mul_le_mul_right h3 hn
theorem Ax(hp:am p)(hq:am q)(h0:q≠aD)(hk:am k)(h:aI s p (cN q)=aX k (au q)):db s p q=k/\dj s p q=aD:=by
 have hn:=fX hq h0
 have e1:db s p q=k:=by unfold db;rw[h,xM hk hn]
 have hr:am (dj s p q):=bT hp (bV (by rw[e1];exact hk) hq)
 refine⟨e1,sU hr ?_⟩
 have e:=mR (s:=s) hr (dS hq)
 have e2:=oa (s:=s) hp hq hk
 have e3:aI s (dj s p q) (cN q)=aD:=by
  unfold dj
  rw[e1,e2,h]
  unfold bj aD
  simp only[Int.sub_self]
 rw[e3,vV]at e
 have:au aD=0:=by decide
 rw[this]at e
 rcases Int.mul_eq_zero.mp e.symm with z|z
 ·exact z
 ·omega
abbrev zE(q t:Qd)(n:Int):Prop:=ee t/\n.natAbs<c6/\ee (bj q (aX t n))
abbrev BP(q:Qd)(n:Int):Prop:=0<n/\(2*n).natAbs<c6/\zE q (hJ q n) n/\zE q (i6 q n) n
abbrev okD(s:Bool)(p q:Qd):Prop:=ee p/\ee q/\ee (cN q)/\BP (aI s p (cN q)) (au q)/\ee (db s p q)
theorem dY(h:cV M q)(g:M<=N):cV N q:=⟨Nat.le_trans h.1 g,Nat.le_trans h.2.1 g,Nat.le_trans h.2.2.1 g,Nat.le_trans h.2.2.2 g⟩
theorem wq(h:cV M q):cV M (cN q):=⟨h.1,by simp only[cN,Int.natAbs_neg];exact h.2.1,by simp only[cN,Int.natAbs_neg];exact h.2.2.1,by simp only[cN,Int.natAbs_neg];exact h.2.2.2⟩
theorem Fv(h:cV M p)(g:cV N q)(hp:am p)(hq:am q):cV (2*(M*N)) (aI s p q):=by
 unfold aI;split
 ·exact qU h g hp hq
 ·rw[Nat.mul_comm M N];exact qU g h hq hp
theorem xP(h:x.natAbs<=M)(g:y.natAbs<=N):(x-y).natAbs<=M+N:=by omega
theorem xO(h:x.natAbs<=M)(g:y.natAbs<=N):(x+y).natAbs<=M+N:=by omega
theorem oq(h:cV M p)(g:cV N q):cV (M+N) (bj p q):=⟨xP h.1 g.1,xP h.2.1 g.2.1,xP h.2.2.1 g.2.2.1,xP h.2.2.2 g.2.2.2⟩
theorem Fu(h:cV M p)(g:cV N q):cV (M+N) (ci p q):=⟨xO h.1 g.1,xO h.2.1 g.2.1,xO h.2.2.1 g.2.2.1,xO h.2.2.2 g.2.2.2⟩
theorem uc(h:cV M q)(g:n.natAbs<=N):cV (M*N) (aX q n):=⟨bC h.1 g,bC h.2.1 g,bC h.2.2.1 g,bC h.2.2.2 g⟩
theorem wB(x:Int)(h:0<n):(x.fdiv n).natAbs<=x.natAbs:=by
 rw[Int.fdiv_eq_ediv_of_nonneg _ (by omega)]
 exact Int.natAbs_ediv_le_natAbs x n
theorem zR(h:cV M q)(g:n.natAbs<=N)(hn:0<n):cV (2*(M+N)) (hJ q n):=by
 have k:∀x:Int,x.natAbs<=M->(gR x n).natAbs<=2*(M+N):=fun x hx=>by
  have:=wB (x+n) (show 0<2*n by omega)
  unfold gR;omega
 exact⟨k _ h.1,k _ h.2.1,k _ h.2.2.1,k _ h.2.2.2⟩
theorem zQ(h:cV M q)(hn:0<n):cV (2*M+1) (i6 q n):=by
 have k:∀x:Int,x.natAbs<=M->(iE x n).natAbs<=2*M+1:=fun x hx=>by
  have:=wB x (show 0<2*n by omega)
  unfold iE;omega
 exact⟨k _ h.1,k _ h.2.1,k _ h.2.2.1,k _ h.2.2.2⟩
theorem BV(h:cV M q)(g:n.natAbs<=N)(hn:0<n):cV (2*(M+N)+1) (dU q n):=by
 unfold dU;split
 ·exact dY (zR h g hn) (by omega)
 ·exact dY (zQ h hn) (by omega)
theorem ze(h:cV M q):(au q).natAbs<=M*M:=by
 obtain⟨a1,a2,a3,a4⟩:=h
 have c1:=bC a1 a1;have c2:=bC a2 a2;have c3:=bC a3 a3;have c4':=bC a4 a4
 unfold au
 rw[Int.fdiv_eq_ediv_of_nonneg _ (by decide)]
 generalize q.1*q.1=x at *
 generalize q.2.1*q.2.1=y at *
 generalize q.2.2.1*q.2.2.1=z at *
 generalize q.2.2.2*q.2.2.2=w at *
 generalize M*M=K at *
 omega
theorem cK(h:cV M q)(g:n.natAbs<=M)(hn:0<n)(hM:4*M+1+(4*M+1)*M<c6):BP q n:=by
 have hM0:4*M+1<c6:=Nat.lt_of_le_of_lt (Nat.le_add_right _ _) hM
 have e1:cV (4*M+1) (hJ q n):=dY (zR h g hn) (by omega)
 have e2:cV (4*M+1) (i6 q n):=dY (zQ h hn) (by omega)
 refine⟨hn,by omega,⟨eN e1 hM0,by omega,?_⟩,eN e2 hM0,by omega,?_⟩
 ·exact eN (dY (oq h (uc e1 g)) (by omega)) hM
 ·exact eN (dY (oq h (uc e2 g)) (by omega)) hM
def CB(L:Nat):Prop:=1<=L/\4*(2*(L*L))+1+(4*(2*(L*L))+1)*(2*(L*L))<c6
theorem zG{L:Nat}(hp:am p)(hq:am q)(h0:q≠aD)(h:cV L p)(g:cV L q)(hL:CB L):okD s p q:=by
 obtain⟨h1,hL⟩:=hL
 have hn:=fX hq h0
 have hLL:L<=L*L:=Nat.le_mul_of_pos_left L h1
 have hb:4*(2*(L*L))+1<c6:=Nat.lt_of_le_of_lt (Nat.le_add_right _ _) hL
 have hLb:L<c6:=by omega
 have w:=Fv (s:=s) h (wq g) hp (dS hq)
 have sz:=ze g
 refine⟨eN h hLb,eN g hLb,eN (wq g) hLb,cK w (by omega) hn hL,?_⟩
 unfold db
 exact eN (dY (BV w (N:=2*(L*L)) (by omega) hn) (by omega)) hb
theorem uZ{n:Nat}(h:n<=2000):CB (2 ^ n):=by
 refine⟨Nat.one_le_two_pow,?_⟩
 have e:2 ^ n*2 ^ n=2 ^ (n+n):=(Nat.pow_add 2 n n).symm
 rw[e]
 have k:2 ^ (n+n)<=2 ^ 4000:=Nat.pow_le_pow_right (by decide) (by omega)
 generalize 2 ^ (n+n)=x at k
 have b1:(4*(2*x)+1)*(2*x)<=9*2 ^ 4000*(2*2 ^ 4000):=Nat.mul_le_mul (by have:1<=2 ^ 4000:=Nat.one_le_two_pow;omega) (by omega)
 have b2:9*2 ^ 4000*(2*2 ^ 4000)=18*2 ^ 8000:=by rw[show(8000:Nat)=4000+4000 from rfl,Nat.pow_add];generalize 2 ^ 4000=y;grind
 have b3:2 ^ 4000<=2 ^ 8000:=Nat.pow_le_pow_right (by decide) (by decide)
 have b4:32*2 ^ 8000=2 ^ 8005:=by rw[show(8005:Nat)=5+8000 from rfl,Nat.pow_add 2 5 8000]
 have b5:2 ^ 8005<c6:=Nat.pow_lt_pow_right (by decide) (by decide)
 have b6:1<=2 ^ 8000:=Nat.one_le_two_pow
 rw[b2]at b1
 generalize 2 ^ 4000=y at *
 generalize 2 ^ 8000=z at *
 generalize (4*(2*x)+1)*(2*x)=w at *
 omega
def rj(q:Qd)(n:Int):Qd:=(q.1.fdiv n,q.2.1.fdiv n,q.2.2.1.fdiv n,q.2.2.2.fdiv n)
abbrev Iq(q:Qd)(n:Int):Prop:=q.1.fmod n=0/\q.2.1.fmod n=0/\q.2.2.1.fmod n=0/\q.2.2.2.fmod n=0
abbrev xG(q:Qd):Prop:=q.2.1.fmod 2=q.1.fmod 2/\q.2.2.1.fmod 2=q.1.fmod 2/\q.2.2.2.fmod 2=q.1.fmod 2
def Au(W:Qd)(n:Int):D:=if Iq W n/\xG (rj W n)then dq (rj W n)else .non
def ug(s:Bool)(p q:Qd):D:=Au (aI s p (cN q)) (au q)
theorem om:xG q↔am q:=by
 rw[jC];unfold xG;simp only[Int.fmod_eq_emod_of_nonneg _ (show(0:Int)<=2 by decide)]
theorem cq(a:Int)(h:0<n):(a*n).fmod n=0/\(a*n).fdiv n=a:=by
 rw[Int.fmod_eq_emod_of_nonneg _ (by omega),Int.fdiv_eq_ediv_of_nonneg _ (by omega)]
 exact⟨Int.mul_emod_left _ _,Int.mul_ediv_cancel _ (by omega)⟩
theorem FY{W:Qd}(hn:0<n)(hk:am k)(h:W=aX k n):Au W n=dq k:=by
 subst h
 have hd:rj (aX k n) n=k:=cR (cq _ hn).2 (cq _ hn).2 (cq _ hn).2 (cq _ hn).2
 unfold Au
 rw[hd,if_pos ⟨⟨(cq _ hn).1,(cq _ hn).1,(cq _ hn).1,(cq _ hn).1⟩,om.mpr hk⟩]
theorem Ck{W:Qd}(hn:0<n):(∃k,am k/\W=aX k n/\Au W n=dq k)\/(Au W n=.non/\∀k,am k->W≠aX k n):=by
 by_cases h:Iq W n/\xG (rj W n)
 ·refine .inl ⟨rj W n,om.mp h.2,?_,if_pos h⟩
  have e:∀x:Int,x.fmod n=0->x=x.fdiv n*n:=fun x hx=>by
   have:=Int.mul_fdiv_add_fmod x n
   rw[hx,Int.add_zero,Int.mul_comm]at this;exact this.symm
  exact cR (e _ h.1.1) (e _ h.1.2.1) (e _ h.1.2.2.1) (e _ h.1.2.2.2)
 ·refine .inr ⟨if_neg h,fun k hk e=>h ?_⟩
  have hd:rj (aX k n) n=k:=cR (cq _ hn).2 (cq _ hn).2 (cq _ hn).2 (cq _ hn).2
  subst e
  exact⟨⟨(cq _ hn).1,(cq _ hn).1,(cq _ hn).1,(cq _ hn).1⟩,by rw[hd];exact om.mpr hk⟩
theorem sw(x:Int):(x.natAbs:Int)<=x*x:=by
 rw[<- Int.natAbs_mul_self' x]
 have:x.natAbs<=x.natAbs*x.natAbs:=by
  rcases Nat.eq_zero_or_pos x.natAbs with h|h
  ·omega
  ·exact Nat.le_mul_of_pos_left _ h
 exact_mod_cast this
theorem lK{K:Nat}(h:am q)(g:au q<=K):cV (4*K) q:=by
 obtain⟨t,ht,e⟩:=cI h
 rw[e]at g
 have s1:=eT q.1;have s2:=eT q.2.1;have s3:=eT q.2.2.1;have s4:=eT q.2.2.2
 have r1:=sw q.1;have r2:=sw q.2.1;have r3:=sw q.2.2.1;have r4:=sw q.2.2.2
 refine⟨?_,?_,?_,?_⟩<;>omega
def rc(s:Bool)(p q:Qd):D:=if dj s p q=aD then dq (db s p q)else .non
theorem B2(h:bj p q=aD):p=q:=by
 unfold bj aD at h
 have h1:=congrArg (·.1) h
 have h2:=congrArg (·.2.1) h
 have h3:=congrArg (·.2.2.1) h
 have h4:=congrArg (·.2.2.2) h
 simp only at h1 h2 h3 h4
 exact cR (by omega) (by omega) (by omega) (by omega)
theorem m9(q:Qd):aP aD q=aD/\aP q aD=aD:=by
 unfold aP aD
 simp only[Int.zero_mul,Int.mul_zero,Int.sub_zero,Int.add_zero]
 exact⟨by decide,by decide⟩
theorem jO(s:Bool)(q:Qd):aI s aD q=aD:=by
 unfold aI;split
 ·exact(m9 q).1
 ·exact(m9 q).2
theorem FW(hp:am p)(hq:am q)(h0:q≠aD):rc s p q=ug s p q:=by
 obtain⟨d1,d2,_⟩:=md (s:=s) hp hq h0
 rcases Ck (W:=aI s p (cN q)) (fX hq h0)with⟨k,k1,k2,k3⟩|⟨k1,k2⟩
 ·obtain⟨e1,e2⟩:=Ax hp hq h0 k1 k2
  unfold rc ug
  rw[if_pos e2,e1,k3]
 ·unfold ug
  rw[k1]
  refine if_neg fun e=>k2 _ d1 (B2 ?_)
  rw[<- oa hp hq d1]
  show aI s (dj s p q) (cN q)=_
  rw[e,jO]
theorem CC(hq:am q):aI s q (cN q)=aX cJ (au q):=by
 have e:aX cJ (au q)=(2*au q,0,0,0):=by unfold aX cJ;simp
 rw[e]
 unfold aI;split
 ·exact(iG hq).1
 ·exact(iG hq).2
theorem pE(h:am p)(k:am r)(g:am q):aP (ci p r) q=ci (aP p q) (aP r q):=by
 obtain⟨P,Q,R,S,hP,hQ,hR,hS,_,e1⟩:=cn h g
 obtain⟨U,V,W,X,hU,hV,hW,hX,_,e2⟩:=cn k g
 obtain⟨P3,Q3,R3,S3,lP,lQ,lR,lS,_,e3⟩:=cn (ge h k) g
 rw[e1,e2,e3]
 simp only[ci]at *
 clear e1 e2 e3 h k g
 refine cR ?_ ?_ ?_ ?_
 ·show P3=P+U;grind
 ·show Q3=Q+V;grind
 ·show R3=R+W;grind
 ·show S3=S+X;grind
theorem pD(h:am p)(k:am r)(g:am q):aP q (ci p r)=ci (aP q p) (aP q r):=by
 obtain⟨P,Q,R,S,hP,hQ,hR,hS,_,e1⟩:=cn g h
 obtain⟨U,V,W,X,hU,hV,hW,hX,_,e2⟩:=cn g k
 obtain⟨P3,Q3,R3,S3,lP,lQ,lR,lS,_,e3⟩:=cn g (ge h k)
 rw[e1,e2,e3]
 simp only[ci]at *
 clear e1 e2 e3 h k g
 refine cR ?_ ?_ ?_ ?_
 ·show P3=P+U;grind
 ·show Q3=Q+V;grind
 ·show R3=R+W;grind
 ·show S3=S+X;grind
theorem r9(h:am p)(k:am r)(g:am q):aI s (ci p r) q=ci (aI s p q) (aI s r q):=by
 unfold aI;cases s
 ·exact pD h k g
 ·exact pE h k g
theorem r8(h:am p)(k:am r)(g:am q):aI s q (ci p r)=ci (aI s q p) (aI s q r):=by
 unfold aI;cases s
 ·exact pE h k g
 ·exact pD h k g
theorem kA(h:am p)(k:am r)(g:am q):aI s (bj p r) q=bj (aI s p q) (aI s r q):=by
 unfold aI;cases s
 ·exact nS h k g
 ·exact nU h k g
theorem gT(h:am p)(g:am q)(k:am r):aI s (aI s p q) r=aI s p (aI s q r):=by
 unfold aI;cases s
 ·exact(dW k g h).symm
 ·exact dW h g k
theorem nD(s:Bool)(q:Qd):aI s cJ q=q:=by
 unfold aI;cases s
 ·exact BS q
 ·exact tY q
theorem CD(s:Bool)(q:Qd):aI s q aD=aD:=by
 unfold aI;split
 ·exact(m9 q).2
 ·exact(m9 q).1
abbrev fq:=Qd×Qd×Qd
structure nG(s:Bool)(p q:Qd)(r:fq):Prop where
 h0:am r.1
 h1:am r.2.1
 h2:am r.2.2
 sum:ci (aI s r.2.1 p) (aI s r.2.2 q)=r.1
def sA(s:Bool)(a b:fq):fq:=(bj a.1 (aI s (db s a.1 b.1) b.1),bj a.2.1 (aI s (db s a.1 b.1) b.2.1),bj a.2.2 (aI s (db s a.1 b.1) b.2.2))
theorem Fo{a b:fq}(hp:am p)(hq:am q)(ha:nG s p q a)(hb:nG s p q b)(h0:b.1≠aD):nG s p q (sA s a b):=by
 obtain⟨d1,d2,_⟩:=md (s:=s) ha.h0 hb.h0 h0
 refine⟨bT ha.h0 (bV d1 hb.h0),bT ha.h1 (bV d1 hb.h1),bT ha.h2 (bV d1 hb.h2),?_⟩
 show ci (aI s (bj a.2.1 (aI s (db s a.1 b.1) b.2.1)) p) (aI s (bj a.2.2 (aI s (db s a.1 b.1) b.2.2)) q)=bj a.1 (aI s (db s a.1 b.1) b.1)
 generalize db s a.1 b.1=k at *
 rw[kA ha.h1 (bV d1 hb.h1) hp,kA ha.h2 (bV d1 hb.h2) hq,gT d1 hb.h1 hp,gT d1 hb.h2 hq]
 rw[<- ha.sum]
 conv=>rhs;rw[<- hb.sum]
 rw[r8 (bV hb.h1 hp) (bV hb.h2 hq) d1]
 unfold ci bj
 exact cR (by simp only;omega) (by simp only;omega) (by simp only;omega) (by simp only;omega)
def sG(s:Bool)(p a b:Qd):Prop:=∃u v,am u/\am v/\p=ci (aI s u a) (aI s v b)
theorem o9{a b:Qd}(ha:am a)(hb:am b)(hk:am k)(h:sG s p a b):sG s p b (bj a (aI s k b)):=by
 obtain⟨u,v,hu,hv,rfl⟩:=h
 refine⟨ci (aI s u k) v,u,ge (bV hu hk) hv,hu,?_⟩
 rw[r9 (bV hu hk) hv hb,gT hu hk hb]
 have e:aI s u a=ci (aI s u (aI s k b)) (aI s u (bj a (aI s k b))):=by
  rw[<- r8 (bV hk hb) (bT ha (bV hk hb)) hu]
  congr 1
  unfold ci bj
  exact cR (by simp only;omega) (by simp only;omega) (by simp only;omega) (by simp only;omega)
 rw[e]
 unfold ci
 exact cR (by simp only;omega) (by simp only;omega) (by simp only;omega) (by simp only;omega)
theorem vU(hp:am p)(hq:am q):au (bj p q)<=2*au p+2*au q:=by
 obtain⟨t1,h1,e1⟩:=cI hp
 obtain⟨t2,h2,e2⟩:=cI hq
 obtain⟨t3,h3,e3⟩:=cI (bT hp hq)
 rw[e1,e2,e3]
 simp only[bj]at h3
 have k:∀x y:Int,(x-y)*(x-y)<=2*(x*x)+2*(y*y):=fun x y=>by
  have:=eT (x+y)
  have e:(x-y)*(x-y)=2*(x*x)+2*(y*y)-(x+y)*(x+y):=by grind
  omega
 have:=k p.1 q.1;have:=k p.2.1 q.2.1;have:=k p.2.2.1 q.2.2.1;have:=k p.2.2.2 q.2.2.2
 omega
theorem Hy{a b:Qd}(ha:am a)(hb:am b)(h0:b≠aD):au (db s a b)*au b<=2*au a+au b:=by
 obtain⟨d1,d2,d3⟩:=md (s:=s) ha hb h0
 rw[<- mR (s:=s) d1 hb]
 have e:aI s (db s a b) b=bj a (dj s a b):=by unfold dj bj;exact cR (by simp only;omega) (by simp only;omega) (by simp only;omega) (by simp only;omega)
 rw[e]
 have:=vU ha d2
 omega
structure Gr(E A B Na Nb:Int):Prop where
 a:A<=E
 b:B<=E
 ba:B*Na<=E
 ab:A*Nb<=E
 bb:B*Nb<=E
theorem wz{a b x y:Qd}{E:Int}(ha:am a)(hb:am b)(hx:am x)(hy:am y)(h0:b≠aD)(hE:0<=E)(g:Gr E (au x) (au y) (au a) (au b)) :
  Gr (8*E) (au y) (au (bj x (aI s (db s a b) y))) (au b) (au (dj s a b)):=by
 obtain⟨d1,d2,d3⟩:=md (s:=s) ha hb h0
 have nb:=fX hb h0
 have nx:=d8 hx;have ny:=d8 hy;have nr:=d8 d2;have na:=d8 ha
 have q1:=Hy (s:=s) ha hb h0
 have l1:=vU hx (bV (s:=s) d1 hy)
 rw[mR d1 hy]at l1
 have nz:=d8 (bT hx (bV (s:=s) d1 hy))
 generalize au (bj x (aI s (db s a b) y))=z at *
 generalize au (db s a b)=k at *
 generalize au (dj s a b)=r at *
 generalize au a=Na at *
 generalize au b=Nb at *
 generalize au x=X at *
 generalize au y=Y at *
 obtain⟨g1,g2,g3,g4,g5⟩:=g
 have m1:k*Y*Nb<=2*(Y*Na)+Y*Nb:=by
  have:=Int.mul_le_mul_of_nonneg_left q1 ny
  have e1:Y*(k*Nb)=k*Y*Nb:=by grind
  have e2:Y*(2*Na+Nb)=2*(Y*Na)+Y*Nb:=by grind
  omega
 have m2:z*Nb<=8*E:=by
  have:=Int.mul_le_mul_of_nonneg_right l1 (show 0<=Nb by omega)
  have e1:(2*X+2*(k*Y))*Nb=2*(X*Nb)+2*(k*Y*Nb):=by grind
  omega
 have m3:z<=z*Nb:=by
  have:=Int.mul_le_mul_of_nonneg_left (show 1<=Nb by omega) nz
  omega
 have m4:Y*r<=Y*Nb:=Int.mul_le_mul_of_nonneg_left (by omega) ny
 have m5:z*r<=z*Nb:=Int.mul_le_mul_of_nonneg_left (by omega) nz
 exact⟨by omega,by omega,m2,by omega,by omega⟩
def KN:Nat:=2 ^ 800
def EM:Nat:=2 ^ 3400
theorem Kj:CB (4*KN):=by
 have:4*KN=2 ^ 802:=by unfold KN;rw[show(802:Nat)=2+800 from rfl,Nat.pow_add]
 rw[this];exact uZ (by decide)
theorem Be:4*EM<c6:=by
 have:4*EM=2 ^ 3402:=by unfold EM;rw[show(3402:Nat)=2+3400 from rfl,Nat.pow_add]
 rw[this];exact Nat.pow_lt_pow_right (by decide) (by decide)
theorem KE:1<=KN:=Nat.one_le_two_pow
theorem Mt:KN*8 ^ 801<=EM:=by
 unfold KN EM
 rw[show(8:Nat)=2 ^ 3 from rfl,<- Nat.pow_mul,<- Nat.pow_add]
 exact Nat.pow_le_pow_right (by decide) (by decide)
structure gU(s:Bool)(p q:Qd)(m E:Nat)(a b:fq):Prop where
 ra:nG s p q a
 rb:nG s p q b
 sp:sG s p a.1 b.1
 sq:sG s q a.1 b.1
 lt:au b.1<((2 ^ m:Nat):Int)
 ka:au a.1<=(KN:Nat)
 kb:au b.1<=(KN:Nat)
 gs:Gr (E:Nat) (au a.2.1) (au b.2.1) (au a.1) (au b.1)
 gt:Gr (E:Nat) (au a.2.2) (au b.2.2) (au a.1) (au b.1)
 em:E*8 ^ m<=EM
theorem gU.step{a b:fq}(hp:am p)(hq:am q)(h:gU s p q m E a b)(h0:b.1≠aD):∃m',m=m'+1/\gU s p q m' (8*E) b (sA s a b):=by
 obtain⟨d1,d2,d3⟩:=md (s:=s) h.ra.h0 h.rb.h0 h0
 have nb:=fX h.rb.h0 h0
 have hm:m≠0:=fun z=>by have:=h.lt;subst z;simp at this;omega
 obtain⟨m',rfl⟩:∃k,m=k+1:=⟨m-1,by omega⟩
 refine⟨m',rfl,h.rb,Fo hp hq h.ra h.rb h0,o9 h.ra.h0 h.rb.h0 d1 h.sp,o9 h.ra.h0 h.rb.h0 d1 h.sq,?_,h.kb,?_,?_,?_,?_⟩
 ·show au (dj s a.1 b.1)<_
  have:=h.lt
  rw[Nat.pow_succ]at this
  omega
 ·show au (dj s a.1 b.1)<=_
  have:=h.kb
  omega
 ·have:=wz (s:=s) h.ra.h0 h.rb.h0 h.ra.h1 h.rb.h1 h0 (Int.natCast_nonneg E) h.gs
  rw[Int.natCast_mul];exact this
 ·have:=wz (s:=s) h.ra.h0 h.rb.h0 h.ra.h2 h.rb.h2 h0 (Int.natCast_nonneg E) h.gt
  rw[Int.natCast_mul];exact this
 ·have:=h.em
  rw[Nat.pow_succ]at this
  rw[show 8*E*8 ^ m'=E*(8 ^ m'*8) by grind];exact this
theorem gU.E_le{a b:fq}(h:gU s p q m E a b):E<=EM:=Nat.le_trans (Nat.le_mul_of_pos_right E (Nat.pow_pos (by decide))) h.em
theorem gU.bd{a b:fq}(h:gU s p q m E a b)(h0:b.1≠aD):okD s a.1 b.1/\ee b.1/\ee b.2.1/\ee b.2.2:=by
 have la:=lK h.ra.h0 h.ka
 have lb:=lK h.rb.h0 h.kb
 have k:=zG (s:=s) h.ra.h0 h.rb.h0 h0 la lb Kj
 have e:=h.E_le
 have b1:=h.gs.b
 have b2:=h.gt.b
 exact⟨k,k.2.1,eN (lK (K:=EM) h.rb.h1 (by omega)) Be,eN (lK (K:=EM) h.rb.h2 (by omega)) Be⟩
theorem gU.start(hp:am p)(hq:am q)(kp:au p<=(KN:Nat))(kq:au q<=(KN:Nat)):gU s p q 801 KN (p,cJ,aD) (q,aD,cJ):=by
 have hk:=KE
 have s1:au cJ=1:=by decide
 have s0:au aD=0:=by decide
 have np:=d8 hp
 have nq:=d8 hq
 refine⟨⟨hp,jZ,iD,?_⟩,⟨hq,iD,jZ,?_⟩,⟨cJ,aD,jZ,iD,?_⟩,⟨aD,cJ,iD,jZ,?_⟩,?_,kp,kq,?_,?_,Mt⟩
 ·show ci (aI s cJ p) (aI s aD q)=p
  rw[nD,jO];unfold ci aD;exact cR (by simp) (by simp) (by simp) (by simp)
 ·show ci (aI s aD p) (aI s cJ q)=q
  rw[nD,jO];unfold ci aD;exact cR (by simp) (by simp) (by simp) (by simp)
 ·show p=ci (aI s cJ p) (aI s aD q)
  rw[nD,jO];unfold ci aD;exact cR (by simp) (by simp) (by simp) (by simp)
 ·show q=ci (aI s aD p) (aI s cJ q)
  rw[nD,jO];unfold ci aD;exact cR (by simp) (by simp) (by simp) (by simp)
 ·show au q<((2 ^ 801:Nat):Int)
  have:KN<2 ^ 801:=Nat.pow_lt_pow_right (by decide) (by decide)
  omega
 ·show Gr _ (au cJ) (au aD) (au p) (au q)
  rw[s1,s0]
  exact⟨by omega,by omega,by omega,by omega,by omega⟩
 ·show Gr _ (au aD) (au cJ) (au p) (au q)
  rw[s1,s0]
  exact⟨by omega,by omega,by omega,by omega,by omega⟩
structure Ef(s:Bool)(p q:Qd)(a:fq):Prop where
 ra:nG s p q a
 dp:∃u,am u/\p=aI s u a.1
 dq':∃u,am u/\q=aI s u a.1
 k0:au a.1<=(KN:Nat)
 k1:au a.2.1<=(EM:Nat)
 k2:au a.2.2<=(EM:Nat)
theorem gU.fin{a b:fq}(h:gU s p q m E a b)(h0:b.1=aD):Ef s p q a:=by
 have sp:=h.sp
 have sq:=h.sq
 rw[h0]at sp sq
 have e:=h.E_le
 have b1:=h.gs.a
 have b2:=h.gt.a
 have z:∀u v:Qd,ci (aI s u a.1) (aI s v aD)=aI s u a.1:=fun u v=>by
  rw[CD];unfold ci aD;exact cR (by simp) (by simp) (by simp) (by simp)
 obtain⟨u,v,hu,hv,e1⟩:=sp
 obtain⟨u',v',hu',hv',e2⟩:=sq
 exact⟨h.ra,⟨u,hu,by rw[e1,z]⟩,⟨u',hu',by rw[e2,z]⟩,h.ka,by omega,by omega⟩
theorem zP(n:Int):aX cJ n=(2*n,0,0,0):=by unfold aX cJ;simp
theorem B1{u:Qd}(hu:am u)(hd:am d)(h0:d≠aD)(h:p=aI s u d):ug s p d=dq u:=by
 unfold ug
 refine FY (fX hd h0) hu ?_
 rw[h,gT hu hd (dS hd),CC hd,zP]
 unfold aI;split
 ·exact eh u _
 ·exact gx u _
def SS(s:Bool):Str:=match s with|true => "right" | false => "left"
def jy(x:Str):Option Bool:=if x=Str.ofString "right" then some true else if x=Str.ofString "left" then some false else none
def tF(s:Bool):D:=.str (SS s)
def Ay:Dc Bool:=⟨fun | .str x=>jy x|_=>none,tF,fun x a h=>by
 cases x<;>try cases h
 rename_i x
 replace h:jy x=some a:=h
 unfold jy at h
 split at h
 ·rename_i e;cases h;rw[e];rfl
 ·split at h
  ·rename_i e;cases h;rw[e];rfl
  ·cases h⟩
theorem uX(c:Int):c.fmod 2=0\/c.fmod 2=1:=by
 have g0:=Int.fmod_nonneg_of_pos c (show(0:Int)<2 by decide)
 have g1:=Int.fmod_lt_of_pos c (show(0:Int)<2 by decide)
 omega
def dR(r:fq):D:=.tup [dq r.1,dq r.2.1,dq r.2.2]
def iX(s:Bool):Nat->fq->fq->fq
 | 0,a,_=>a
 | n+1,a,b=>if b.1=aD then a else iX s n b (sA s a b)
def kh(s:Bool)(p q:Qd):fq:=iX s 801 (p,cJ,aD) (q,aD,cJ)
theorem n5{a b:fq}(h:b.1=aD):iX s m a b=a:=by
 cases m with
 | zero=>rfl
 | succ m=>exact if_pos h
theorem lh{a b:fq}(h:b.1≠aD):iX s (m+1) a b=iX s m b (sA s a b):=if_neg h
theorem El(hp:am p)(hq:am q):∀{m E:Nat} {a b:fq},gU s p q m E a b->Ef s p q (iX s m a b):=by
 intro m
 induction m with
 | zero =>
  intro E a b h
  by_cases h0:b.1=aD
  ·exact h.fin h0
  ·obtain⟨m',z,_⟩:=h.step hp hq h0;cases z
 | succ m ih =>
  intro E a b h
  by_cases h0:b.1=aD
  ·rw[n5 h0];exact h.fin h0
  ·obtain⟨m',z,h1⟩:=h.step hp hq h0
   cases z
   rw[lh h0]
   exact ih h1
def okG(p q:Qd):Prop:=am p/\am q/\au p<=(KN:Nat)/\au q<=(KN:Nat)
theorem IU(h:okG p q):Ef s p q (kh s p q):=El h.1 h.2.1 (gU.start h.1 h.2.1 h.2.2.1 h.2.2.2)
def Dv(s:Bool)(d p:Qd):Prop:=∃u,am u/\p=aI s u d
theorem Dv.sum(hd:am d)(h:Dv s d p)(g:Dv s d q):Dv s d (ci p q):=by
 obtain⟨u,hu,rfl⟩:=h
 obtain⟨v,hv,rfl⟩:=g
 exact⟨ci u v,ge hu hv,(r9 hu hv hd).symm⟩
theorem Dv.less(hd:am d)(h:Dv s d p)(g:Dv s d q):Dv s d (bj p q):=by
 obtain⟨u,hu,rfl⟩:=h
 obtain⟨v,hv,rfl⟩:=g
 exact⟨bj u v,bT hu hv,(kA hu hv hd).symm⟩
theorem Dv.mul(hd:am d)(hk:am k)(h:Dv s d p):Dv s d (aI s k p):=by
 obtain⟨u,hu,rfl⟩:=h
 exact⟨aI s k u,bV hk hu,(gT hk hu hd).symm⟩
theorem Lk{n:Nat}(h:au q<=((2 ^ n:Nat):Int))(hn:n<=800):au q<=(KN:Nat):=by
 have:2 ^ n<=KN:=Nat.pow_le_pow_right (by decide) hn
 omega
theorem xN(h:a=b):(!cG (.int a) (.int b))=false:=by rw[h];simp
theorem QH(h:a=b):cG (.int a) (.int b)=true:=by rw[h];simp
theorem Me(h:p=q):cG (dq p) (dq q)=true:=by simp[h]
theorem uL{a b:Expr}{op:Operator}{p:Pos}{it:Bool}{x y:D}{k j:Nat}{r:D×Nat}(ha:ac (aA Φ a false sc ρ) (x,k))(hb:ac (aA Φ b false sc ρ) (y,j))(h:ac (uY op x y k j) r):ac (aA Φ (.BinOp a op b p) it sc ρ) r:=ac.bnd ha (ac.bnd hb h)
theorem sE{α:Type}{f:α->D}{l:List α}{i:Int}(h0:0<=i)(h1:i<l.length):∃x∈l,L2.atI (l.map f) i=some (f x):=by
 obtain⟨j,rfl⟩:=Int.eq_ofNat_of_zero_le h0
 have hj:j<l.length:=by omega
 exact⟨l[j],List.getElem_mem _,wM (by simp[hj])⟩
def gQ(n:Nat)(q:Qd):Prop:=am q/\cV (2 ^ n) q
theorem gQ.mono{n:Nat}(h:gQ m q)(g:m<=n):gQ n q:=⟨h.1,dY h.2 (Nat.pow_le_pow_right (by decide) g)⟩
theorem gQ.bd{n:Nat}(h:gQ n q)(g:n<9000):ee q:=eN h.2 (Nat.pow_lt_pow_right (by decide) g)
theorem gQ.mul{n:Nat}(h:gQ m p)(g:gQ n q):gQ (m+n+1) (aP p q):=by
 refine⟨de h.1 g.1,?_⟩
 have:=qU h.2 g.2 h.1 g.1
 rwa [show 2*(2 ^ m*2 ^ n)=2 ^ (m+n+1) by rw[Nat.pow_succ,Nat.pow_add];omega]at this
theorem gQ.sum{n:Nat}(h:gQ n p)(g:gQ n q):gQ (n+1) (ci p q):=⟨ge h.1 g.1,by rw[Nat.pow_succ,Nat.mul_two];exact Fu h.2 g.2⟩
theorem gQ.less{n:Nat}(h:gQ n p)(g:gQ n q):gQ (n+1) (bj p q):=⟨bT h.1 g.1,by rw[Nat.pow_succ,Nat.mul_two];exact oq h.2 g.2⟩
theorem qi{n:Nat}(h:n<=2 ^ m)(hm:m<9000):n<c6:=Nat.lt_of_le_of_lt h (Nat.pow_lt_pow_right (by decide) hm)
open Builtin.Int (intBits)
def dH:Nat->List Int->Nat
 | g,[]=>g
 | g,n::r=>dH (Nat.gcd g n.natAbs) r
@[irreducible] def ya(l:List D):Int:=(dH 0 (o7 l):Nat)
def zD(l:List D):Prop:=∃ns:List Int,l=ns.map D.int/\ns.length<=100/\∀n∈ns,n.natAbs<2 ^ 1000
theorem Ik{l:List D}(h:zD l):zD l:=h
theorem ux(ns:List Int):ya (ns.map D.int)=(dH 0 ns:Nat):=by unfold ya;rw[o3]
theorem kl:∀(ns:List Int) (g:Nat),dH g ns∣g/\∀n∈ns,dH g ns∣n.natAbs
 | [],g=>⟨Nat.dvd_refl _,fun n h=>by cases h⟩
 | n::r,g=>by
  obtain⟨h1,h2⟩:=kl r (Nat.gcd g n.natAbs)
  refine⟨Nat.dvd_trans h1 (Nat.gcd_dvd_left _ _),fun m hm=>?_⟩
  rcases List.mem_cons.mp hm with rfl|hm
  ·exact Nat.dvd_trans h1 (Nat.gcd_dvd_right _ _)
  ·exact h2 m hm
theorem Al(h:n∈ns):((dH 0 ns:Nat):Int)∣n:=Int.ofNat_dvd_left.mpr ((kl ns 0).2 n h)
theorem uv(h:n∈ns)(h0:n≠0):0<dH 0 ns:=by
 rcases Nat.eq_zero_or_pos (dH 0 ns)with e|e
 ·have:=(kl ns 0).2 n h
  rw[e]at this
  have:=Nat.eq_zero_of_zero_dvd this
  omega
 ·exact e
theorem Ri{m:Int}(h:n∈ns)(h0:n≠0)(hm:m∈ns):m=(dH 0 ns:Nat)*m.fdiv (dH 0 ns:Nat):=by
 obtain⟨u,e⟩:=Al hm
 have hp:=uv h h0
 generalize dH 0 ns=g at *
 rw[e,Int.mul_fdiv_cancel_left _ (by omega)]
theorem uw(c:Nat):∀(ns:List Int) (g:Nat),dH (c*g) (ns.map fun m=>(c:Int)*m)=c*dH g ns
 | [],g=>rfl
 | n::r,g=>by
  show dH (Nat.gcd (c*g) ((c:Int)*n).natAbs) _=_
  rw[Int.natAbs_mul,Int.natAbs_natCast,Nat.gcd_mul_left]
  exact uw c r _
theorem FO(h:n∈ns)(h0:n≠0):dH 0 ns<=n.natAbs:=Nat.le_of_dvd (by omega) ((kl ns 0).2 n h)
theorem S6(d:D):kn d 1<=1:=by rcases LU (d:=d) (k:=1)with q|q<;>omega
def Bd(a b m:Nat):Prop:=(b<=a/\a*b<2 ^ m)\/(a<b/\a*b<2 ^ (m-1)/\1<=m)
theorem wE{a b:Nat}(h:Bd a b m)(h0:b≠0):∃m',m' < m/\Bd b (a % b) m':=by
 rcases h with⟨h1,h2⟩|⟨h1,h2,h3⟩
 ·have hm:1<=m:=by
   rcases Nat.eq_zero_or_pos m with e|e
   ·subst e
    have:1*1<=a*b:=Nat.mul_le_mul (by omega) (by omega)
    omega
   ·exact e
  refine⟨m-1,by omega,.inl ⟨Nat.le_of_lt (Nat.mod_lt _ (by omega)),?_⟩⟩
  have e:2 ^ m=2*2 ^ (m-1):=by rw[<- Nat.pow_succ'];congr 1;omega
  rw[e]at h2
  have hk:b+a % b<=a:=by
   have:=Nat.div_add_mod a b
   have q:1<=a / b:=(Nat.one_le_div_iff (by omega)).mpr h1
   have:=Nat.mul_le_mul_left b q
   omega
  have hlt:=Nat.mod_lt a (show 0<b by omega)
  have:b*(a % b)+b*(a % b)<=a*b:=by
   rw[<- Nat.mul_add,Nat.mul_comm a b]
   exact Nat.mul_le_mul_left b (by omega)
  omega
 ·refine⟨m-1,by omega,.inl ?_⟩
  rw[Nat.mod_eq_of_lt h1,Nat.mul_comm]
  exact⟨Nat.le_of_lt h1,h2⟩
theorem Jk{a b:Nat}(ha:a<2 ^ 1000)(hb:b<2 ^ 1000):Bd a b 2002:=by
 have h:a*b<2 ^ 2001:=Nat.lt_of_lt_of_le (Nat.mul_lt_mul'' ha hb) (by rw[<- Nat.pow_add];exact Nat.pow_le_pow_right (by decide) (by decide))
 rcases Nat.lt_or_ge a b with q|q
 ·exact .inr ⟨q,h,by decide⟩
 ·exact .inl ⟨q,Nat.lt_trans h (Nat.pow_lt_pow_right (by decide) (by decide))⟩
theorem Ap(a b:Nat):(a:Int).fmod b=((a % b:Nat):Int):=by
 rw[Int.fmod_eq_emod_of_nonneg _ (by omega)];rfl
theorem KM{ρ:af}{c:Expr}{body:List Stmt}{p:Pos}{m:Nat}{P:af->Prop}(aj:Nat->af->Prop)(h0:aj m ρ)(hm:m<bA)
  (step:∀m ρ,aj m ρ->∃b k,ac (aA Φ c false sc ρ) (.bl b,k)/\(b=true->∃m' ρ2,m' < m/\ac (aC Φ body sc ρ) (.nx ρ2)/\aj m' ρ2)) (rest:∀m ρ',aj m ρ'->(∃k,ac (aA Φ c false sc ρ') (.bl false,k))->P ρ'):∃ρ',ac (aC Φ [.While c body [] p] sc ρ) (.nx ρ')/\P ρ':=by
 obtain⟨m',ρ',h1,h2,h3⟩:=sP (test:=fun ρ=>(aA Φ c false sc ρ).bnd fun p=>ji p fun b=>.ok b []) (body:=aC Φ body sc) aj (fun m ρ h=>by
  obtain⟨b,k,a1,a2⟩:=step m ρ h
  exact⟨b,a1.bnd (jp rfl cP),a2⟩) h0 hm
 obtain⟨q,h4,h5⟩:=aw h3
 obtain⟨t,ht,h5⟩:=gJ h5
 cases aH h5
 obtain⟨q1,q2⟩:=q
 have ht:q1=.bl false:=ht
 subst ht
 exact⟨ρ',bD (uF h1) dw,rest m' ρ' h2 ⟨q2,h4⟩⟩
theorem At{ρ':af}{es:List Expr}{e:Expr}{n:Nat}{p q:Pos}{d:D}{ds:List D}{k:Nat}(h:ac (aA Φ e false sc ρ) (d,k))(hs:eU d=some ds)(hk:ar ds=true\/k<=1)(hb:aW sc es ds ρ=some ρ')(ht:iH e=false:=by rfl)(ho:xH sc es (d,k)=false:=by rfl):ac (dJ Φ (.Assign [.Tuple es n p] e q) sc ρ) (.nx ρ'):=by
 show ac (if sV sc es e=true then pV Φ es e sc ρ else _) _
 rw[if_neg (by unfold sV;rw[ht];exact Bool.false_ne_true)]
 refine ac.bnd h ?_
 rw[if_neg (by rw[ho];exact Bool.false_ne_true)]
 dsimp only
 rw[hs];dsimp only
 rw[if_pos hk,hb]
 exact cP
def gI(ns:List Int):Int:=(dH 0 ns:Nat)
theorem FP(ns:List Int):ya (ns.map D.int)=gI ns:=ux ns
theorem uy(h:n∈ns)(h0:n≠0):0<gI ns:=by have:=uv h h0;unfold gI;omega
theorem pT{m:Int}(h:n∈ns)(h0:n≠0)(hm:m∈ns):m=gI ns*m.fdiv (gI ns):=Ri h h0 hm
theorem IV(hc:0<c)(ns:List Int):gI (ns.map fun m=>c*m)=c*gI ns:=by
 obtain⟨k,rfl⟩:=Int.eq_ofNat_of_zero_le (Int.le_of_lt hc)
 have:=uw k ns 0
 unfold gI
 rw[Nat.mul_zero]at this
 rw[this];simp
theorem DT(h:n∈ns)(h0:n≠0):(gI ns).natAbs<=n.natAbs:=by
 have:=FO h h0
 unfold gI;omega
theorem ye(hc:0<c)(hg:0<g):(c*x).fdiv (c*g)=x.fdiv g:=Int.mul_fdiv_mul_of_pos x g hc
theorem Ij{ns:List Int}{k:Nat}(hk:k<=999)(hl:ns.length<=100)(h:∀n∈ns,n.natAbs<=2 ^ k):zD (ns.map D.int) :=
 ⟨ns,rfl,hl,fun n hn=>Nat.lt_of_le_of_lt (h n hn) (Nat.pow_lt_pow_right (by decide) (by omega))⟩
def sy:List Qd:=[(-2,0,0,0),(-1,-1,-1,-1),(-1,-1,-1,1),(-1,-1,1,-1),(-1,-1,1,1),(-1,1,-1,-1),(-1,1,-1,1),(-1,1,1,-1),(-1,1,1,1),(0,-2,0,0),(0,0,-2,0),(0,0,0,-2),(0,0,0,2),(0,0,2,0),(0,2,0,0),(1,-1,-1,-1),(1,-1,-1,1),(1,-1,1,-1),(1,-1,1,1),(1,1,-1,-1),(1,1,-1,1),(1,1,1,-1),(1,1,1,1),(2,0,0,0)]
theorem tT(h:p.1 % 2=p.2.1 % 2/\p.1 % 2=p.2.2.1 % 2/\p.1 % 2=p.2.2.2 % 2):am p :=
 ⟨p.1 % 2,p.1 / 2,p.2.1 / 2,p.2.2.1 / 2,p.2.2.2 / 2,by omega,by omega,by omega,by omega,by omega⟩
theorem tX:∀p∈sy,(p.1 % 2=p.2.1 % 2/\p.1 % 2=p.2.2.1 % 2/\p.1 % 2=p.2.2.2 % 2)/\au p=1/\p.1.natAbs<=2/\p.2.1.natAbs<=2/\p.2.2.1.natAbs<=2/\p.2.2.2.natAbs<=2:=by decide +kernel
theorem qP(h:p∈sy):am p/\au p=1/\ee p:=by
 obtain⟨h1,h2,h3,h4,h5,h6⟩:=tX p h
 exact⟨tT h1,h2,qi (m:=1) h3 (by decide),qi (m:=1) h4 (by decide),qi (m:=1) h5 (by decide),qi (m:=1) h6 (by decide)⟩
theorem L6(hp:p∈sy):gQ 1 p:=⟨(qP hp).1,(tX p hp).2.2⟩
end K
namespace K
open PySem PySem.Spec PyProof.Rows L2 Sp Qm
theorem IZ(u:Int):u.fmod 2=u % 2:=Int.fmod_eq_emod_of_nonneg u (by decide)

end K
namespace K
open PySem L2 Sp Qm
variable{p:Pos}{t:Bool}{k:Nat}{P Q:af->Prop}{s:Stmt}
section
variable{Φ:Fx}{sc:Scope}{ρ ρ1:af}{ss:List Stmt}
theorem x6{c:Expr}{a b:List Stmt}(hc:ac (aA Φ c false sc ρ) (.bl t,k))(h1:t=true->∃ρ',ac (aC Φ a sc ρ) (.nx ρ')/\P ρ')(h2:t=false->∃ρ',ac (aC Φ b sc ρ) (.nx ρ')/\P ρ'):∃ρ',ac (dJ Φ (.If c a b p) sc ρ) (.nx ρ')/\P ρ':=by
 have key:∀x,ac (cond t (aC Φ a sc ρ) (aC Φ b sc ρ)) x->ac (dJ Φ (.If c a b p) sc ρ) x:=fun x hx=>ac.bnd hc hx
 cases t with
 | true=>obtain⟨ρ',h,q⟩:=h1 rfl;exact⟨ρ',key _ h,q⟩
 | false=>obtain⟨ρ',h,q⟩:=h2 rfl;exact⟨ρ',key _ h,q⟩
theorem fj(h:P ρ):∃ρ',ac (aC Φ [] sc ρ) (.nx ρ')/\P ρ':=⟨ρ,dw,h⟩
theorem fM(h:∃ρ1,ac (dJ Φ s sc ρ) (.nx ρ1)/\P ρ1)(k:∀ρ1,P ρ1->∃ρ2,ac (aC Φ ss sc ρ1) (.nx ρ2)/\Q ρ2):∃ρ2,ac (aC Φ (s::ss) sc ρ) (.nx ρ2)/\Q ρ2:=by
 obtain⟨ρ1,h1,h2⟩:=h
 obtain⟨ρ2,h3,h4⟩:=k ρ1 h2
 exact⟨ρ2,bD h1 h3,h4⟩
theorem eV(h:ac (dJ Φ s sc ρ) (.nx ρ1))(k:∃ρ2,ac (aC Φ ss sc ρ1) (.nx ρ2)/\Q ρ2):∃ρ2,ac (aC Φ (s::ss) sc ρ) (.nx ρ2)/\Q ρ2:=by
 obtain⟨ρ2,h3,h4⟩:=k
 exact⟨ρ2,bD h h3,h4⟩
theorem zJ(n:Nat)(h:ac (aC Φ (ss.take n) sc ρ) (.nx ρ1))(k:∃ρ2,ac (aC Φ (ss.drop n) sc ρ1) (.nx ρ2)/\Q ρ2):∃ρ2,ac (aC Φ ss sc ρ) (.nx ρ2)/\Q ρ2:=by
 obtain⟨ρ2,h3,h4⟩:=k
 exact⟨ρ2,bX n h h3,h4⟩
theorem wD{a b:Expr}{it:Bool}{s:Bool}{j:Nat}(h:ac (aA Φ a false sc ρ) (.bl s,k))(g:ac (aA Φ b false sc ρ) (.bl t,j)):ac (aA Φ (.BoolOp .And [a,b] p) it sc ρ) (.bl (s&&t),0):=by
 refine d9 (ir h (fun e=>?_) (fun e=>?_))
 ·subst e
  refine ir g (fun e=>?_) (fun e=>?_)
  ·subst e;exact jL
  ·subst e;rfl
 ·subst e;rfl
end
theorem Md(ms ns:List Int):PyData.eqvAll (eB (ms.map D.int)) (eB (ns.map D.int))=decide (ms=ns):=by
 induction ms generalizing ns with
 | nil =>
  cases ns with
  | nil=>rfl
  | cons n ns=>rfl
 | cons m ms ih =>
  cases ns with
  | nil=>rfl
  | cons n ns =>
   rw[List.map_cons,List.map_cons,eB,eB,PyData.eqvAll,ih]
   show(m==n&&decide (ms=ns))=_
   rw[Bool.eq_iff_iff]
   simp
theorem LT(ns:List Int):PyData.canLayAll0 (eB (ns.map D.int))=true:=by
 induction ns with
 | nil=>rfl
 | cons q qs ih=>rw[List.map_cons,eB,PyData.canLayAll0,ih];rfl
theorem Mh(ns:List Int):PyData.depthAll (eB (ns.map D.int))=0:=by
 induction ns with
 | nil=>simp[eB,PyData.depthAll]
 | cons q qs ih=>rw[List.map_cons,eB,PyData.depthAll,ih];simp[D.py,PyData.depth]
theorem Dp(ns:List Int):SeqAt.shaped (D.lst (ns.map D.int)).py=true:=by
 unfold SeqAt.shaped
 rw[Bool.and_eq_true_iff]
 constructor
 ·rw[D.py,PyData.canLay0];exact LT ns
 ·rw[D.py,PyData.depth,Mh];rfl
theorem DH(ms ns:List Int):ac (iL .NotEq (.lst (ms.map D.int)) (.lst (ns.map D.int))) (!decide (ms=ns)):=by
 have e:cG (.lst (ms.map D.int)) (.lst (ns.map D.int))=decide (ms=ns):=by
  show PyData.eqv (D.lst (ms.map D.int)).py (D.lst (ns.map D.int)).py=_
  rw[D.py,D.py,PyData.eqv];exact Md ms ns
 exact ac.eq (cv rfl (by exact⟨by unfold gm;rw[Dp,Dp];rfl,True.intro⟩)) (by rw[e])
end K
namespace Sp
open PySem PySem.Spec PyProof.Rows L2
variable{X:Cx}
end Sp
namespace K
open PySem L2 Sp Qm
variable{b it s:Bool}{m n par:Int}{p:Pos}{q:Qd}{x:Str}{a tg:Expr}{k:Nat}{d:D}{α:Type}{body:List Stmt}{args:List Expr}{ds l:List D}{ks:List bU}
section
variable{Φ:Fx}{sc:Scope}{ρ ρ1:af}{ss:List Stmt}
theorem gQ.okD{n:Nat}{p:Qd}(h:gQ n p)(g:gQ n q)(h0:q≠aD)(hn:n<=2000):okD s p q:=zG h.1 g.1 h0 h.2 g.2 (uZ hn)
theorem gQ.szl{n:Nat}{p:Qd}(h:gQ n p)(hn:n+n<=800):au p<=(KN:Nat):=by
 have:=ze h.2
 rw[<- Nat.pow_add]at this
 exact Lk (n:=n+n) (by omega) hn
theorem gQ.okG{n:Nat}{p:Qd}(h:gQ n p)(g:gQ n q)(hn:n+n<=800):okG p q:=⟨h.1,g.1,h.szl hn,g.szl hn⟩
theorem FX{p k:Qd}(hk:am k)(hq:am q)(h0:q≠aD)(h:p=aI s k q):rc s p q=dq k:=by
 rw[FW (h ▸ bV hk hq) hq h0]
 exact B1 hk hq h0 h
theorem Cn{y:Str}(h:PyData.strOk x=true)(g:PyData.strOk y=true):gm (.str x) (.str y)=true:=by
 have k:∀x:Str,PyData.strOk x=true->SeqAt.shaped (D.str x).py=true:=fun x h=>by
  rw[D.py];unfold SeqAt.shaped
  simp[PyData.canLay0,PyData.depth,h]
 unfold gm
 rw[k x h,k y g];rfl
end
section
variable{Φ:Fx}{sc:Scope}{ρ ρ1:af}{ss:List Stmt}{P Q:af->Prop}
def sC:Stmt->Expr
 | .For t _ _ _ _=>t
 | _=>.Name (Str.ofString "") ⟨0,0,0,0⟩
def sD:Stmt->Expr
 | .For _ i _ _ _=>i
 | _=>.Name (Str.ofString "") ⟨0,0,0,0⟩
def nk:Stmt->List Stmt
 | .For _ _ b _ _=>b
 | _=>[]
theorem DV{c:Bool}(h:ac (aA Φ a false sc ρ) (.bl b,k))(e:(!b)=c):ac (aA Φ (.UnaryOp .Not a p) it sc ρ) (.bl c,0):=by
 subst e
 exact(show ac (Rs.bnd (aA Φ a false sc ρ) fun p=>(match yX .Not p.1 with|some d=>.ok (d,0) []|none=>.st)) (.bl (!b),0)from ac.bnd h cP)
theorem S5(n:Nat)(h:∃ρ1,ac (aC Φ (ss.take n) sc ρ) (.nx ρ1)/\Q ρ1)(k:∀ρ1,Q ρ1->∃ρ2,ac (aC Φ (ss.drop n) sc ρ1) (.nx ρ2)/\P ρ2):∃ρ2,ac (aC Φ ss sc ρ) (.nx ρ2)/\P ρ2:=by
 obtain⟨ρ1,h1,q⟩:=h
 obtain⟨ρ2,h2,p⟩:=k ρ1 q
 exact⟨ρ2,bX n h1 h2,p⟩
theorem SV(n:Nat)(h:∃ρ1,ac (aC Φ (ss.take n) sc ρ) (.nx ρ1)/\Q ρ1)(k:∀ρ1,Q ρ1->ac (aC Φ (ss.drop n) sc ρ1) (.rt d)):ac (aC Φ ss sc ρ) (.rt d):=by
 obtain⟨ρ1,h1,q⟩:=h
 exact bX n h1 (k ρ1 q)
theorem AN{α β:Type}{h:α->D}{g:α->List β}{T:List β}{bind:D->af->Option af}{body:af->Rs Fl}(Q:List β->af->Prop):∀(xs:List α) (F R:List β) (ρ:af),(∀x∈xs,∀F R ρ,F++(g x++R)=T->Q F ρ->∃ρ1,bind (h x) ρ=some ρ1/\∃ρ2,ac (body ρ1) (.nx ρ2)/\Q (F++g x) ρ2)->F++(xs.flatMap g++R)=T->Q F ρ->∃ρ',ac (ff bind body (xs.map h) ρ) (.nx ρ')/\Q (F++xs.flatMap g) ρ'
 | [],F,R,ρ,_,_,q=>⟨ρ,cP,by simpa using q⟩
 | x::xs,F,R,ρ,st,e,q=>by
  rw[List.flatMap_cons,List.append_assoc]at e
  obtain⟨ρ1,h1,ρ2,h2,q2⟩:=st x List.mem_cons_self F _ ρ e q
  obtain⟨ρ',h3,q3⟩:=AN Q xs (F++g x) R ρ2 (fun y hy=>st y (List.mem_cons_of_mem _ hy)) (by rw[<- e];simp only[List.append_assoc]) q2
  refine⟨ρ',?_,by rw[List.flatMap_cons,<- List.append_assoc];exact q3⟩
  rw[List.map_cons,ff,h1]
  exact ac.bnd h2 h3
theorem fG{β:Type}{h:α->D}{g:α->List β}{T:List β}{it:Expr}(Q:List β->af->Prop)(xs:List α){F R:List β}(hi:ac (aA Φ it true sc (demote it ρ)) (d,k))(hd:items d=some (xs.map h))(q:Q F (demote it ρ))(e:F++(xs.flatMap g++R)=T)(st:∀x∈xs,∀F R ρ,F++(g x++R)=T->Q F ρ->∃ρ1,bQ sc tg (h x) ρ=some ρ1/\∃ρ2,ac (aC Φ body sc ρ1) (.nx ρ2)/\Q (F++g x) ρ2)
  (hk:k<=1:=by first|exact Nat.le_refl 1|exact Nat.zero_le 1) (ht:fc it tg=true:=by rfl):∃ρ',ac (dJ Φ (.For tg it body [] p) sc ρ) (.nx ρ')/\Q (F++xs.flatMap g) ρ':=by
 obtain⟨ρ',h1,h2⟩:=AN (bind:=bQ sc tg) (body:=aC Φ body sc) Q xs F R _ st e q
 exact⟨ρ',uG hi hd hk ht h1,h2⟩
theorem IW{it:Expr}{n:Nat}(aj:Nat->af->Prop)(hi:ac (aA Φ it true sc (demote it ρ)) (.lst ((List.range n).map fun i=>.int (i:Nat)),0))(h0:aj 0 (demote it ρ))
  (step:∀i ρ,i<n->aj i ρ->∃ρ1,bQ sc tg (.int (i:Nat)) ρ=some ρ1/\∃ρ2,ac (aC Φ body sc ρ1) (.nx ρ2)/\aj (i+1) ρ2) (rest:∀ρ',aj n ρ'->P ρ') (ht:fc it tg=true:=by rfl):∃ρ',ac (dJ Φ (.For tg it body [] p) sc ρ) (.nx ρ')/\P ρ':=by
 obtain⟨ρ',h1,i,hi',e,h2⟩:=oF (bind:=bQ sc tg) (body:=aC Φ body sc) (fun rem ρ => ∃i,i<=n/\rem=(List.range' i (n-i)).map (fun i=>D.int (i:Nat))/\aj i ρ) (fun d l ρ ⟨i,hi,e,h⟩=>by
  have hlt:i<n:=by
   rcases Nat.lt_or_ge i n with h|h
   ·exact h
   ·rw[show n-i=0 by omega]at e;cases e
  obtain⟨m,hm⟩:∃m,n-i=m+1:=⟨n-i-1,by omega⟩
  rw[hm,List.range'_succ,List.map_cons]at e
  cases e
  obtain⟨ρ1,h1,ρ2,h2,h3⟩:=step i ρ hlt h
  exact⟨ρ1,ρ2,h1,.inl h2,i+1,hlt,by rw[show n-(i+1)=m by omega],h3⟩) (ds:=(List.range n).map fun i=>D.int (i:Nat)) ⟨0,Nat.zero_le _,by rw[List.range_eq_range'];simp,h0⟩
 refine⟨ρ',uG hi rfl (Nat.zero_le 1) ht h1,rest ρ' ?_⟩
 have:i=n:=by
  rcases Nat.lt_or_ge i n with h|h
  ·obtain⟨m,hm⟩:∃m,n-i=m+1:=⟨n-i-1,by omega⟩
   rw[hm,List.range'_succ]at e;cases e
  ·omega
 exact this ▸ h2
theorem Mb{f:Str}{q:Pos}{B:List D->Nat->R1}{v:D×Nat}(ha:ac (bG Φ args sc ρ) (ds,k))(hv:ac (B ds k) v)(hF:Φ.fn f=none:=by rfl)(hI:Φ.itr f=some B:=by rfl)(hg:sc.names.lookup f=some .globalImplicit:=by rfl):ac (aA Φ (.Call (.Name f p) args [] q) true sc ρ) v:=by
 rw[kr,if_pos hg]
 refine ac.bnd ha ?_
 unfold nB
 dsimp only
 rw[hF]
 dsimp only
 rw[if_pos rfl,hI]
 exact hv
theorem Hw{m:Nat}(h:m<=1000):ac (lX [.int (m:Int)] k) (.lst ((List.range m).map fun i=>.int (i:Nat)),0):=⟨_,rfl,by omega,by show(m:Int)<=((40000:Nat):Int);omega,True.intro⟩
theorem Do{s:Stmt}{fl:Fl}(h:∃ρ1,ac (dJ Φ s sc ρ) (.nx ρ1)/\Q ρ1)(k:∀ρ1,Q ρ1->ac (aC Φ ss sc ρ1) fl):ac (aC Φ (s::ss) sc ρ) fl:=by
 obtain⟨ρ1,h1,h2⟩:=h
 exact bD h1 (k ρ1 h2)
theorem pU{m:Str}{ap cp q:Pos}{M:List D->List D->Nat->Rs (List D)}{l':List D}(ha:ac (bG Φ args sc ρ) (ds,k))(hx:ρ x=some (.lst l,true))(h:ac (M l ds k) l')(hm:Φ.mtt m=some M:=by rfl)(hp:(ap.endLine==cp.line)=true:=by rfl)(hn:eM x=true:=by rfl):ac (dJ Φ (.Expr (.Call (.Attribute (.Name x p) m ap) args [] cp) q) sc ρ) (.nx (bc ρ x (.lst l',true))):=by
  show ac (if (ap.endLine==cp.line)=true then(bG Φ args sc ρ).bnd fun p=>(match Φ.mtt m with
      | some M=>qO ρ x fun l=>(M l p.1 p.2).bnd fun l'=>.ok (.nx (bc ρ x (.lst l',true))) []
      | none=>.st)else .st) _
  rw[if_pos hp]
  refine ac.bnd ha ?_
  rw[hm];dsimp only
  unfold qO
  rw[hx];dsimp only
  rw[if_pos hn]
  exact ac.bnd h cP
theorem iu{i:Expr}{di:D}{key:bU}{k2:Nat}(ha:ac (aA Φ a false sc ρ) (.dct ks ds,k))(hi:ac (aA Φ i false sc ρ) (di,k2))(hk:oC di=some key)(hd:me ks ds key=some d):ac (aA Φ (.Subscript a i p) it sc ρ) (d,0):=by
 have key:ac ((aA Φ a false sc ρ).bnd fun p=>(aA Φ i false sc ρ).bnd fun q=>jU p q) (d,0):=by
  refine ha.bnd (hi.bnd ?_)
  unfold jU;dsimp only
  rw[hk];dsimp only
  rw[hd];exact cP
 cases i with
 | Slice lo hi st p2=>exact(aq hi).elim
 | _=>exact key
theorem Jj{i:Int}(h:ac (aA Φ a false sc ρ) (.int i,k)):ac (aA Φ (.UnaryOp .USub a p) it sc ρ) (.int (-i),0):=ac.bnd h cP
theorem pN(h:fB ks (.inl m)=b):ac (iL .In (.int m) (.dct ks ds)) b:=⟨[],congrArg (fun b=>Rs.ok b []) h,True.intro⟩
theorem qk(h:l.length<bA)(hd:d.lless=true:=by rfl):ac (jG l [d] k) (l++[d]):=⟨_,rfl,.inl hd,h,True.intro⟩
theorem Cl{elt iter c:Expr}{scope:Scope}{g f:α->D}{t:α->Bool}{l:List α}(hi:ac (aA Φ iter true sc ρ) (d,k))(hd:items d=some (l.map g))(hl:l.length<=bA)(hk:ar (l.map g)=true\/k<=1)
  (h:∀x∈l,∃ρ' j,bQ scope tg (g x) (flt scope ρ)=some ρ'/\ac (aA Φ c false scope ρ') (.bl (t x),j)/\(t x=true->ac (aA Φ elt false scope ρ') (f x,0))) (hc:qg sc scope=true:=by rfl) (ht:fc iter tg=true:=by rfl):ac (aA Φ (.ListComp elt [⟨tg,iter,[c],0⟩] scope p) it sc ρ) (.lst ((l.filter t).map f),0):=by
 refine F0 hi hd ⟨by rw[List.length_map];exact hl,hk⟩ (mh fun x hx=>?_) (Nat.zero_le _) hc ht
 obtain⟨ρ',j,h1,h2,h3⟩:=h x hx
 rw[h1]
 refine ac.bnd (a:=t x) (ir h2 (fun e=>by rw[e];exact jL) (fun e=>e)) ?_
 cases e:t x with
 | false=>exact cP
 | true =>
  show ac ((aA Φ elt false scope ρ').bnd fun r=>.ok (some r) []) (some (f x,0))
  exact ac.bnd (h3 e) cP
end
def gK:List Int:=[0,1,2,3,4,5,6,7,8,9,10,11,12,13,14,15,16,17,18,19,20]
def nQ(l:List Int):List bU:=l.map fun d=>.inl (d*d)
def v3(l:List Int):List D:=l.map D.int
def tK(l:List Int)(m:Int):Option Int:=l.find? fun d=>decide (d*d=m)
theorem uu(m:Int):∀l:List Int,fB (nQ l) (.inl m)=(tK l m).isSome
 | []=>rfl
 | d::l=>by
  show(decide ((Sum.inl (d*d):bU)=.inl m) || fB (nQ l) (.inl m))=_
  rw[uu m l]
  unfold tK
  by_cases e:d*d=m
  ·rw[List.find?_cons,decide_eq_true e,decide_eq_true (congrArg Sum.inl e)];rfl
  ·rw[List.find?_cons,decide_eq_false e,decide_eq_false (fun z=>e (Sum.inl.inj z))];rfl
theorem Ak(m:Int):∀l:List Int,me (nQ l) (v3 l) (.inl m)=(tK l m).map D.int
 | []=>rfl
 | d::l=>by
  have ih:=Ak m l
  unfold me tK at ih⊢
  show Option.map _ (List.find? _ ((Sum.inl (d*d),D.int d)::(nQ l).zip (v3 l)))=_
  by_cases e:d*d=m
  ·rw[List.find?_cons,List.find?_cons,decide_eq_true e,decide_eq_true (congrArg Sum.inl e)];rfl
  ·rw[List.find?_cons,List.find?_cons,decide_eq_false e,decide_eq_false (fun z=>e (Sum.inl.inj z))];exact ih
theorem vZ{d:Int}(h:tK gK m=some d):d*d=m/\0<=d/\d<=20:=by
 have h1:=List.find?_some h
 have h2:=List.mem_of_find?_eq_some h
 have h3:∀x∈gK,0<=x/\x<=20:=by decide
 exact⟨of_decide_eq_true h1,h3 d h2⟩
def eL(n par:Int):List Int:=((List.range 41).map fun i:Nat => -20+(i:Int)).filter fun k=>decide (k.fmod 2=par)&&decide (k*k<=4*n)
def nV(n a b c:Int):Int:=4*n-a*a-b*b-c*c
def kz(n par a b c:Int):List Qd :=
 match tK gK (nV n a b c)with
 | some d=>if d.fmod 2=par then(a,b,c,d)::(if 0<nV n a b c then[(a,b,c,-d)]else[])else[]
 | none=>[]
def yb(n par a b:Int):List Qd:=(eL n par).flatMap (kz n par a b)
def yc(n par a:Int):List Qd:=(eL n par).flatMap (yb n par a)
def yd(n par:Int):List Qd:=(eL n par).flatMap (yc n par)
def fe(n:Int):List Qd:=([0,1]:List Int).flatMap (yd n)
theorem lO{α β:Type}{f:α->List β}{m:Nat}:∀(l:List α),(∀x∈l,(f x).length<=m)->(l.flatMap f).length<=l.length*m
 | [],_=>by simp
 | x::l,h=>by
  rw[List.flatMap_cons,List.length_append,List.length_cons,Nat.add_mul]
  have h1:=h x List.mem_cons_self
  have h2:=lO l fun y hy=>h y (List.mem_cons_of_mem _ hy)
  omega
theorem zW{α:Type}{p q:α->Bool}:∀l:List α,(l.filter fun k=>p k&&q k).length<=(l.filter p).length
 | []=>Nat.le_refl _
 | x::l=>by
  have:=zW (p:=p) (q:=q) l
  rw[List.filter_cons,List.filter_cons]
  cases p x<;>cases q x<;>simp only[Bool.and_true,Bool.and_false,Bool.false_eq_true,if_false,if_true,List.length_cons]<;>omega
theorem tx(h:par=0\/par=1):(eL n par).length<=21:=by
 refine Nat.le_trans (zW _) ?_
 rcases h with rfl|rfl<;>decide
theorem Cv(n par a b c:Int):(kz n par a b c).length<=2:=by
 unfold kz
 split
 ·split
  ·split<;>simp
  ·simp
 ·simp
theorem Cj(n:Int):(fe n).length<=37044:=by
 have k0:∀par:Int,par=0\/par=1->(yd n par).length<=18522:=fun par h=>by
  have s:=tx (n:=n) h
  have k2:∀a b,(yb n par a b).length<=42:=fun a b=>Nat.le_trans (lO _ fun c _=>Cv n par a b c) (by omega)
  have k1:∀a,(yc n par a).length<=882:=fun a=>Nat.le_trans (lO _ fun b _=>k2 a b) (by omega)
  exact Nat.le_trans (lO _ fun a _=>k1 a) (by omega)
 exact Nat.le_trans (lO (m:=18522) _ fun par h=>k0 par (by simpa using h)) (by decide)
theorem gc{k:Int}(h:k∈eL n par):k.fmod 2=par /\ -20<=k/\k<=20:=by
 unfold eL at h
 rw[List.mem_filter,List.mem_map]at h
 obtain⟨⟨i,hi,rfl⟩,h2⟩:=h
 rw[Bool.and_eq_true]at h2
 have h3:i<41:=by simpa using hi
 exact⟨of_decide_eq_true h2.1,by omega,by omega⟩
theorem Cu{a b c:Int}(ha:a∈eL n par)(hb:b∈eL n par)(hc:c∈eL n par)(h:q∈kz n par a b c):gQ 5 q/\au q=n:=by
 obtain⟨a1,a2,a3⟩:=gc ha
 obtain⟨b1,b2,b3⟩:=gc hb
 obtain⟨c1,c2,c3⟩:=gc hc
 unfold kz at h
 split at h
 ·rename_i d hd
  obtain⟨d1,d2,d3⟩:=vZ hd
  split at h
  ·rename_i hp
   rw[Int.fmod_eq_emod_of_nonneg _ (by decide)]at a1 b1 c1 hp
   have key:∀e:Int,e*e=d*d->e % 2=d % 2->e.natAbs<=20->gQ 5 (a,b,c,e)/\au (a,b,c,e)=n:=fun e he hp2 h20=>by
    refine⟨⟨jC.mpr ⟨by show b % 2=a % 2;omega,by show c % 2=a % 2;omega,by show e % 2=a % 2;omega⟩,by show a.natAbs<=32;omega,by show b.natAbs<=32;omega,by show c.natAbs<=32;omega,by show e.natAbs<=32;omega⟩,?_⟩
    show(a*a+(b*b+(c*c+(e*e+0)))).fdiv 4=n
    rw[he,d1]
    unfold nV
    rw[show a*a+(b*b+(c*c+(4*n-a*a-b*b-c*c+0)))=4*n by omega,Qm.fd4]
   rcases List.mem_cons.mp h with rfl|h
   ·exact key d rfl rfl (by omega)
   ·split at h
    ·have:=List.mem_singleton.mp h
     subst this
     exact key (-d) (by rw[Int.neg_mul_neg]) (by omega) (by omega)
    ·cases h
  ·cases h
 ·cases h
theorem Ci(h:q∈fe n):gQ 5 q/\au q=n:=by
 unfold fe at h
 obtain⟨par,_,h⟩:=List.mem_flatMap.mp h
 unfold yd at h
 obtain⟨a,ha,h⟩:=List.mem_flatMap.mp h
 unfold yc at h
 obtain⟨b,hb,h⟩:=List.mem_flatMap.mp h
 unfold yb at h
 obtain⟨c,hc,h⟩:=List.mem_flatMap.mp h
 exact Cu ha hb hc h
def c7:List Int:=[2,3,5,7,11,13,17,19,23,29,31,37,41,43,47,53,59,61,67,71,73,79,83,89,97]
theorem Am:∀n∈c7,(fe n).isEmpty=false:=by decide +kernel
theorem uA(h:n∈c7):0<(fe n).length:=by
 have:=Am n h
 cases e:fe n with
 | nil=>rw[e]at this;cases this
 | cons x l=>simp
abbrev vT(u:Qd)(qs:List Qd):D:=.tup [dq u,.lst (qs.map dq)]
theorem jg{α β:Type}(f:α->β):∀l:List α,(l.flatMap fun x=>[f x])=l.map f
 | []=>rfl
 | x::l=>by rw[List.flatMap_cons,jg f l];rfl
theorem uf(d:α)(ws:List α):ws=(List.range ws.length).map fun i=>ws.getD i d:=by
 apply List.ext_getElem?
 intro i
 by_cases h:i<ws.length
 ·rw[List.getElem?_map,List.getElem?_range h]
  simp[h]
 ·rw[List.getElem?_eq_none (by omega),List.getElem?_eq_none (by simp;omega)]
theorem wF{f:Nat->D}(n:Nat):gZ 0 ((List.range n).map f)=(List.range n).map fun i=>.tup [.int (i:Nat),f i]:=by
 rw[nu]
 apply List.ext_getElem?
 intro i
 by_cases h:i<n
 ·simp[h]
 ·rw[List.getElem?_eq_none (by simp;omega),List.getElem?_eq_none (by simp;omega)]
end K
namespace Sp
open PySem PySem.Spec PyProof.Rows L2
variable{P:Program}{w:World}{K:W.Frag}{e1 e2 tg:Expr}{ρ:af}{l:List D}{k:Nat}{g:Str}{q t:Pos}{ps:List Str}{Φ:Fx}{pre:List Stmt}
variable{X:Cx}
def Ta(K:W.Frag)(a:Addr)(n:Nat):It :=
 ⟨fun i H => ∃xs x,cf K H a xs/\xs.length=n/\i<n/\xs[n-1-i]?=some x,fun i H x H'=>H'=H/\∀xs,cf K H a xs->xs[n-1-i]?=some x,fun i H => ∃xs,cf K H a xs/\xs.length=n/\n<=i⟩
theorem Bl(a it:Addr)(n:Nat):L2.Turn P w K tg (Ta K a n) [it] it (fun i h=>i<=n/\h.IsRevIter it a ((n:Int)-1-(i:Int))) where
 mem:=by simp
 obj:=fun i h st b hb=>by
  have e:b=it:=by simpa using hb
  subst e
  obtain⟨_,o,e,c,d⟩:=st
  exact⟨o,e,fun v z=>by rw[d]at z;cases z⟩
 keep:=fun i h h' st k=>⟨st.1,st.2.at fun o e=>k it (by simp) o e⟩
 item:=by
  intro X hP hw hK hc i pins s σ H E I hf st hg
  subst hP hw hK
  obtain⟨xs,x,hq,hn,hi,hx⟩:=hg
  obtain⟨its,rv,p,hz⟩:=I.list hq
  obtain⟨u,hu,ru⟩:=rv.get hx
  obtain⟨f0,f1,f2,f3,f4,f5⟩:=hf it (by simp)
  have e:(n:Int)-1-(i:Int)=((n-1-i:Nat):Int):=by omega
  have st:=st.2
  rw[e]at st
  refine wpAny_pyNext_rev_item st p.isList (x:=u) (by simpa using hu) fun h' st' sb=>?_
  have I1:aj X pins σ H { s with heap:=h' }:=I.turned (t':=s.toks) (fun b o hb e=>(sb.2 b hb).trans e) f0 f1 f3 f4 f5
  have e2:((n-1-i:Nat):Int)-1=(n:Int)-1-((i+1:Nat):Int):=by omega
  rw[e2]at st'
  obtain⟨o,e,c,d⟩:=id st'
  exact⟨u,rfl,pP (s:={ s with heap:=h' }) e c d (by decide) ⟨x,H,I1,ru,⟨rfl,fun ys hy=>by rw[I.list_inj hy hq];exact hx⟩,⟨hi,st'⟩,fun b hb=>(hf b hb).1⟩⟩
 done:=by
  intro X hP hw hK hc i pins s σ H E I hf st hg
  subst hP hw hK
  obtain⟨xs,hq,hn,hx⟩:=hg
  obtain⟨f0,f1,f2,f3,f4,f5⟩:=hf it (by simp)
  have e:(n:Int)-1-(i:Int) = -1:=by have:=st.1;omega
  have st:=st.2
  rw[e]at st
  exact wpAny_pyNext_rev_end (I.ok.hd hc) st fun h' eb=>⟨rfl,I.turned (t':=s.toks) (fun b o hb e=>eb b o hb e) f0 f1 f3 f4 f5⟩
 self:=fun _ _ _ _ _ st h=>wpAny_pyIter_revIter st.2 h
def Cd(ds:List D)(k:Nat):R1 :=
 match ds with
 | [.lst a]=>.ok (.lst a.reverse,k) [ar a=true]
 | _=>.st
theorem IS{p pos:Pos}{a:Expr}(hg:Gl X "reversed")(hm0:X.mg "reversed" = none)(ha:AD X ρ [a] [.lst l] k)(hst:∀y p,a ≠ .Starred y p)(hf:ar l=true) :
  IE X ρ tg (.Call (.Name "reversed" p) [a] [] pos) l.reverse k:=by
 intro ow pins s σ H R I ⟨E,q⟩
 refine Call_ (dA I hg hm0 (show bootBuiltins "reversed" = some (.type "reversed") by decide +kernel) (PyProof.Rows.callWith_type1 (aN (ha ow pos pins s σ H (fun vs H1=>ay H H1/\ag X.K H1 (Kp ow H k) [.lst l] vs) I ⟨E,fun vs H1 s1 r1=>⟨s1,r1⟩⟩) fun us s1 ⟨vs,H1,I1,rv,sm,rp⟩=>?_) (aF hst) rfl) (by decide +kernel) (by decide +kernel))
 obtain⟨v,rfl,rv1⟩:=rp.only
 obtain⟨ta,xs,rfl,hq,rl,hk1⟩:=iA (κ:=false) rv1
 replace hq:cf X.K H1 ta xs:=hq
 obtain⟨u,rfl,ru⟩:=dP rv
 cases (show u=Value.ref ta from ru)
 obtain⟨its,rvs,pt,hz⟩:=I1.list hq
 have hlen:its.length=xs.length:=rvs.length.symm
 refine call_reversed_list (show s1.heap.IsList ta its.toArray from pt.isList) ?_
 have isR:(s1.heap.push (revObj ta ((its.toArray.size:Int)-1))).IsRevIter s1.heap.objs.size ta ((xs.length:Int)-1-((0:Nat):Int)):=⟨_,Heap.get?_push_size _ rfl,rfl,by simp[revObj,hlen]⟩
 refine wpAny_pyIter_revIter isR ?_
 have I2:aj X pins σ H1 { s1 with heap:=s1.heap.push (revObj ta ((its.toArray.size:Int)-1)) }:=I1.kept (t':=s1.toks) fun b o z=>Heap.get?_push_of_some _ z
 have f0:H1 s1.heap.objs.size=none:=I1.hok.fresh (Nat.le_refl _)
 refine⟨s1.heap.objs.size,[s1.heap.objs.size],_,_,H1,rfl,I2,Bl ta _ xs.length,⟨Nat.zero_le _,isR⟩,fun b hb=>?_,q _ H1 sm ?_⟩
 ·have eb:b=s1.heap.objs.size:=by simpa using hb
  subst eb
  exact I1.fpOk (Nat.le_refl _) f0
 ·intro i H2 st
  have rl':ag X.K H1 (Kd ow H k H1) l xs:=rl.flat _ hf
  have ll:=rl.length
  refine⟨fun d hd=>?_,fun hle=>?_⟩
  ·have hi:i<l.length:=by
    have:=(List.getElem?_eq_some_iff.mp hd).1
    rwa [List.length_reverse]at this
   rw[List.getElem?_reverse hi]at hd
   obtain⟨y,hy,ry⟩:=rl'.get hd
   rw[ll]at hy
   refine⟨⟨xs,y,hk1 st,rfl,by omega,hy⟩,fun x' H3 ⟨e1,e2⟩=>?_⟩
   have hv:=e2 xs (hk1 st)
   rw[hy]at hv;cases hv
   subst e1
   exact⟨ay.refl _,ry.mono st⟩
  ·rw[List.length_reverse]at hle
   exact⟨xs,hk1 st,rfl,by omega⟩
theorem FK:kF "reversed" Cd:=by
 refine⟨by decide +kernel,fun X ρ p pos args ds k d j l tg o hc hg hm ha hst hlen h hp hl ht=>?_⟩
 unfold Cd at h
 split at h
 ·cases h
  cases hl
  match args,hlen,ha,hst with
  | [a'],_,ha,hst=>exact IS hg hm ha (hst a' List.mem_cons_self) hp.1
 ·cases h
def N8:V->List V->Hp->VK->Prop:=fun x vs H Q => ∃l xs i y,x=.ref l/\vs=[.int i,y]/\H l=some (.lst xs)/\0<=i/\i<=(xs.length:Nat)/\xs.length<sizeLine/\Q .non (aG H l (.lst (xs.take i.toNat++y::xs.drop i.toNat)))
theorem aK.takeD{xs:List V}{us:List Value}(r:aK xs us)(n:Nat){y:V}{u:Value}(ry:aU y u):aK (xs.take n++y::xs.drop n) (us.take n++u::us.drop n):=(r.take n).append (.cons ry (r.drop n))
theorem zK:KA X "list.insert" N8:=by
 intro pins s σ H x vs v us Q I rx rv h
 obtain⟨l,xs,i,y,rfl,rfl,hH,h0,h1,hz,q⟩:=h
 cases rx
 cases rv with
 | cons r1 rv =>
  cases rv with
  | cons r2 rv =>
   rename_i u _
   cases rv
   obtain⟨t,rfl⟩:=r1
   obtain⟨z,its,n,r,hl,e⟩:=I.lstM hH
   have hn:=lM
   have hf:Builtin.List.listFitsIndex i=true:=fitsIndex_both (by omega) (by omega)
   refine call_meets F.slot_list_insert ⟨_,e,rfl⟩ F.entry_list_insert (F.args_list_insert_3 _ _ _) (AutoSeq1.list_insert_list_int_val_1 l its.toArray n i t u (by rw[hf];decide) (by rw[List.size_toArray];omega)) ⟨e,?_⟩
   refine⟨.non,_,I.lset (its':=its.take i.toNat++u::its.drop i.toNat) hH e ?_ (aK.takeD r _ r2) ?_,rfl,q⟩
   ·have hk:(if i<0 then(i+((its.toArray.size:Nat):Int)).toNat else min i.toNat its.toArray.size)=i.toNat:=by
     rw[if_neg (by omega),List.size_toArray];omega
    show(have k:=if i<0 then(i+((its.toArray.size:Nat):Int)).toNat else min i.toNat its.toArray.size;(its.toArray.extract 0 k).push u++its.toArray.extract k)=_
    rw[hk]
    simp
    exact List.take_of_length_le (by rw[List.length_drop];exact Nat.le_refl _)
   ·simp;omega
def nh(l ds:List D)(_:Nat):Rs (List D) :=
 match ds with
 | [.int i,d]=>.ok (l.take i.toNat++d::l.drop i.toNat) [0<=i,i<=(l.length:Nat),d.lless=true,l.length<bA]
 | _=>.st
theorem xU:kE "insert" nh:=fun X hc=>⟨"list.insert", _,PySem.F.slot_list_insert,PySem.F.type_list_insert,zK,fun ow H0 H l ds l' j o a vs ws h hp=>by
 unfold nh at h
 split at h
 ·rename_i i d
  cases h
  obtain⟨c0,c1,c2,c3,_⟩:=hp
  refine⟨by simp,fun P Q hP oi sm ha rl rd q=>?_⟩
  rw[ag]at rd
  obtain⟨v,r,rfl,g1,rd⟩:=rd
  rw[ah]at g1
  subst g1
  obtain⟨w,rfl,rw'⟩:=rd.only
  refine⟨a,vs,i,w,rfl,rfl,ha,c0,?_,?_,q _ _ ((rl.take _).append (ag.cons (rw'.flat _ c2) (rl.drop _)))⟩
  ·rw[<- rl.length];exact c1
  ·rw[<- rl.length];exact Nat.lt_trans c3 lJ
 ·cases h⟩
section
variable{prog:Program}{A:Around}{E:Value->Shared->Prop}{s:Shared}
theorem xW:typeLookup (.type "list_reverseiterator") "__len__" = pure none:=by rw[typeLookup_type,builtinLookup_eq_fast];kernel_rfl
theorem BX:typeLookup (.type "list_reverseiterator") "__length_hint__" = pure (some (.builtin "list_reverseiterator.__length_hint__")):=by rw[typeLookup_type,builtinLookup_eq_fast];kernel_rfl
theorem Fw:isSubtype (.type "list_reverseiterator") (.type "list_reverseiterator")=pure true:=by kernel_rfl
theorem zS:splitId "list_reverseiterator.__length_hint__" = some ("list_reverseiterator", "__length_hint__"):=by decide +kernel
theorem zT{S I l:Nat}{items:Array Value}{res:Value}{R:Result->Shared->Prop}(hh:A.in1.handled=none)(n1:S≠I)(n2:S≠l)(n3:l≠I):∀(k:Nat) (s:Shared) (acc:Array Value) (c:Nat),k<=items.size->s.heap.IsRevIter I l ((k:Int)-1)->s.heap.IsList l items->s.heap.get? S=some (ud acc c)->acc.size+k<=sizeLine ->
  (∀h' acc' c',h'.get? S=some (ud acc' c')->acc'.toList=acc.toList++(items.toList.take k).reverse->(∀(b:Nat) o,b≠S->b≠I->s.heap.get? b=some o->h'.get? b=some o)->R (.ok (.ret res)) { s with heap:=h' }) ->
  codeAny (model prog w) A (.builtin "list.extend.loop" ⟨[.ref S,.ref I,res],[]⟩) R s
 | 0,s,acc,c,_,st,pl,hS,hz,q=>by
  refine wr (wpAny_pyNext_rev_end hh (by simpa using st) fun h' eb=>?_)
  exact q h' acc c (eb _ _ n1 hS) (by simp) fun b o _ hb e=>eb b o hb e
 | k+1,s,acc,c,hk,st,pl,hS,hz,q=>by
  have e:((k+1:Nat):Int)-1=(k:Int):=by omega
  rw[e]at st
  have hx:items[k]?=some items[k]:=Array.getElem?_eq_getElem (by omega)
  refine wr (wpAny_pyNext_rev_item st pl hx fun h' st' sb=>?_)
  refine⟨acc,c,(sb.2 _ n1).trans hS,by omega,fun h2 c2 hS2 sb2=>?_⟩
  have sb2:Heap.SameBut S h' h2:=sb2
  obtain⟨o,e1,e2,e3⟩:=st'
  obtain⟨o2,f1,f2,f3⟩:=pl
  refine zT hh n1 n2 n3 k { s with heap:=h2 } (acc.push items[k]) c2 (by omega) ⟨o,(sb2.2 _ (Ne.symm n1)).trans e1,e2,e3⟩ ⟨o2,(sb2.2 _ (Ne.symm n2)).trans ((sb.2 _ n3).trans f1),f2,f3⟩ hS2 (by rw[Array.size_push];omega) fun h3 acc' c' g1 g2 g3=>?_
  refine q h3 acc' c' g1 ?_ fun b o hb1 hb2 e=>g3 b o hb1 hb2 ((sb2.2 b hb1).trans ((sb.2 b hb2).trans e))
  rw[g2,Array.toList_push,List.take_add_one,List.append_assoc]
  congr 1
  have:items.toList[k]?=some items[k]:=by rw[Array.getElem?_toList];exact hx
  rw[this]
  simp
theorem BZ{n l:Nat}{items:Array Value}{Q:Value->Shared->Prop}(hh:A.handled=none)(hl:l<n)(st:s.heap.IsRevIter n l ((items.size:Int)-1))(pl:s.heap.IsList l items)(sz:s.heap.objs.size=n+1)(hz:items.size<=sizeLine)
  (go:∀h1 acc m,h1.get? (n+1)=some (ud acc m)->acc.toList=items.toList.reverse->(∀(d:Nat) o,d<n->s.heap.get? d=some o->h1.get? d=some o)->Q (.ref (n+1)) { s with heap:=h1 }) :
  wpAny (model prog w) A (call (.type "list") [.ref n]) Q E s:=by
 obtain⟨h0,gg,dd,t0,oo⟩:=s
 have sz:h0.objs.size=n+1:=sz
 refine callType_codes (Q₁:=fun ob s₁=>ob=.ref (n+1)/\s₁=⟨h0.push { cls:=.type "list", data:=.seq #[] },gg,dd,t0,oo⟩) F.called_list (F.typeCall_list_1 _) F.entry_list_init (code_list_new _ ⟨by show Value.ref h0.objs.size=_;rw[sz],rfl⟩) fun ob s₁ hq=>?_
 obtain⟨rfl,rfl⟩:=hq
 have hS:(h0.push { cls:=.type "list", data:=.seq #[] }).get? (n+1)=some (ud #[] 0):=by rw[<- sz];exact Heap.get?_push_size _ rfl
 refine⟨⟨_,hS,rfl⟩,F.args_list_init_2 _ _,?_⟩
 show wpAny _ A.in1.in1 (Builtin.List.listItems (.ref (n+1)) >>= fun old=>Builtin.List.listUpdate (.ref (n+1)) (fun _ => #[]) >>= fun _=>letGo old.toList.reverse >>= fun _=>Builtin.List.listExtendWith (.ref (n+1)) (.ref n) .none) _ _ _
 unfold Builtin.List.listItems
 refine wpAny_bind (wpAny_bind (wpAny_seqItems hS rfl (wpAny_pure ?_)))
 show wpAny _ A.in1.in1 (updateSeq (n+1) (fun _ => #[]) >>= _) _ _ _
 refine wpAny_bind (wpAny_updateSeq hS rfl ?_)
 refine wpAny_bind (wpAny_letGo ?_)
 have S1:=Heap.get?_update_self (Obj.mapSeq (fun _=>(#[]:Array Value))) hS rfl
 generalize hr1:(h0.push { cls:=.type "list", data:=.seq #[] }).update (n+1) (Obj.mapSeq fun _=>(#[]:Array Value))=r1 at S1
 have k1:∀(d:Nat) o,d≠n+1->h0.get? d=some o->r1.get? d=some o:=fun d o g e=>by rw[<- hr1];exact(Heap.get?_update_other _ _ (Ne.symm g)).trans (Heap.get?_push_of_some _ e)
 obtain⟨m1,S1⟩:∃m,r1.get? (n+1)=some (ud #[] m):=⟨_,S1⟩
 obtain⟨o,e1,e2,e3⟩:=st
 obtain⟨o2,f1,f2,f3⟩:=pl
 have z1:r1.IsRevIter n l ((items.size:Int)-1):=⟨o,k1 _ _ (by omega) e1,e2,e3⟩
 have p1:r1.IsList l items:=⟨o2,k1 _ _ (by omega) f1,f2,f3⟩
 have ty:Shared.TypeIs ⟨r1,gg,dd,t0,oo⟩ (.ref n) "list_reverseiterator" := ⟨_,k1 _ _ (by omega) e1,e2⟩
 unfold Builtin.List.listExtendWith
 refine wpAny_bind (wpAny_typeOf ty ?_)
 have g1:Builtin.List.listSameRef (.ref (n+1)) (.ref n)=false:=by simp[Builtin.List.listSameRef]
 have g2:(Value.type "list_reverseiterator" == Value.type "list")=false:=by decide
 have g3:(Value.type "list_reverseiterator" == Value.type "tuple")=false:=by decide
 simp only[g1,g2,g3,Bool.or_false,Bool.false_eq_true,if_false]
 refine wpAny_bind (wpAny_pyIter_revIter z1 (wpAny_bind (wpAny_holding ?_)))
 unfold Builtin.List.listLengthHint
 refine wpAny_bind (wpAny_specialOf ty xW ?_)
 show wpAny _ _ (specialOf (Value.ref n) (Str.ofString "__length_hint__") >>= _) _ _ _
 refine wpAny_bind (wpAny_specialOf ty BX ?_)
 dsimp only
 rw[zS]
 refine wpAny_bind (wpAny_isInstance ty Fw ?_)
 rw[if_neg (by decide)]
 rw[if_pos (by decide +kernel)]
 rw[if_neg (by decide)]
 refine wpAny_pure ?_
 rw[if_neg (by decide +kernel)]
 refine wpAny_pure ⟨plainId_quiet F.plain_extend_loop _,?_⟩
 refine zT (A:=A.in1) (S:=n+1) (I:=n) (l:=l) hh (by omega) (by omega) (by omega) items.size ⟨r1,gg,dd,t0,oo⟩ #[] m1 (Nat.le_refl _) z1 p1 S1 (by simpa using hz) fun h' acc' c' q1 q2 q3=>?_
 refine⟨rfl,go h' acc' c' q1 (by rw[q2];simp;exact List.take_of_length_le (by simp)) fun d o hd e=>q3 d o (by omega) (by omega) (k1 _ _ (by omega) e)⟩
end
theorem wI{e:Expr}{f:Str}{p r:Pos}(hc:X.calm=true)(hf:f = "list")(hg:g = "reversed")(gf:Gl X f)(gg:Gl X g)(mf:X.mg f=none)(mg:X.mg g=none)
  (h:AD X ρ [e] [.lst l] k) (hst:∀y∈[e],∀x p,y ≠ .Starred x p) (fl:ar l=true):ED X ρ (.Call (.Name f p) [.Call (.Name g q) [e] [] r] [] t) (.lst l.reverse) 0:=by
 intro ow pins s σ H Q I ⟨E,qq⟩
 subst hf hg
 refine wpAny_Call_Name_kw (dA I gf mf (u:=.type "list") (by decide +kernel) ?_ (by decide +kernel) (by decide +kernel))
 refine PyProof.Rows.callWith_type1 (Calls.spliced_cons (wpAny_Call_Name_kw (dA I gg mg (u:=.type "reversed") (by decide +kernel) ?_ (by decide +kernel) (by decide +kernel)))) rfl rfl
 have n1:=aF (env:=X.env) (es:=[]) (hst e List.mem_cons_self)
 have n2:(backTo r (starEach [] X.env)).any (·.1)=false:=bi fun x hx=>by cases hx
 refine PyProof.Rows.callWith_type1 (aN (h ow r pins s σ H _ I ⟨E,fun vs H1 s1 r1=>(show(fun vs H1=>ay H H1/\ag X.K H1 (Kp ow H k) [.lst l] vs) vs H1 from⟨s1,r1⟩)⟩) fun us s1 ⟨vs,H1,I1,rv,sm,rp⟩=>?_) n1 n2
 obtain⟨v,rfl,rv1⟩:=rp.only
 obtain⟨a,xs,rfl,hq,rl,hk1⟩:=iA (κ:=false) rv1
 replace hq:cf X.K H1 a xs:=hq
 obtain⟨u,rfl,ru⟩:=dP rv
 cases (show u=Value.ref a from ru)
 obtain⟨its,rvs,pt,hz⟩:=I1.list hq
 have hh:X.A.handled=none:=I.ok.hd hc
 have pl:=pt.isList
 refine call_reversed_list pl ?_
 refine Calls.spliced_nil ?_
 obtain⟨hp,gs,dr,tk,os⟩:=s1
 have pl:hp.IsList a its.toArray:=pl
 have el:=rvs.length
 have fr:∀j:Nat,H1 (hp.objs.size+j)=none:=fun j=>I1.hok.fresh (Nat.le_add_right _ _)
 have alt:(a:Nat)<hp.objs.size:=let ⟨o,e,_⟩:=pl;Heap.lt_size e
 have wb:(hp.push (revObj a (((its.toArray.size:Nat):Int)-1))).IsList a its.toArray:=let ⟨o,e,c⟩:=pl;⟨o,Heap.get?_push_of_some _ e,c⟩
 refine BZ (n:=hp.objs.size) (l:=a) (items:=its.toArray) hh alt ⟨_,Heap.get?_push_size _ rfl,rfl,rfl⟩ wb (Heap.size_push ..) (by rw[List.size_toArray,<- el];exact hz) fun h3 acc m S3 eA kp=>?_
 have kk:∀b o,hp.get? b=some o->h3.get? b=some o:=fun b o e=>kp b o (Heap.lt_size e) (Heap.get?_push_of_some _ e)
 generalize hn:hp.objs.size=n at *
 have hk0:cz X.prog X.w H1 h3:=I1.hok.kept kk
 have ob:bw X.prog X.w (aG H1 (n+1) (.lst xs.reverse)) h3 (n+1) (.lst xs.reverse):=⟨by rw[List.length_reverse];exact hz,acc.toList,m,by rw[eA];exact rvs.reverse,by rw[Array.toArray_toList];exact S3⟩
 have hk1:=oE hk0 (fr 1) ob
 generalize hH:aG H1 (n+1) (.lst xs.reverse)=H4 at hk1
 have g6:H4 (n+1)=some (.lst xs.reverse):=by rw[<- hH];exact aE
 have old:∀c:Nat,c<n->H4 c=H1 c:=fun c hc=>by rw[<- hH,ax (by show(c:Nat)≠n+1;omega)]
 have inn:∀(c:Nat) o,H1 c=some o->c<n:=fun c o e=>by
  rcases Nat.lt_or_ge c n with z|z
  ·exact z
  ·have:=fr (c-n);rw[Nat.add_sub_cancel' z]at this;rw[this]at e;cases e
 have s4:ay H1 H4:=fun c o e=>(old c (inn c o e)).trans e
 have I4:aj X pins σ H4 ⟨h3,gs,dr,tk,os⟩:=I1.un (t':=tk) (qC kk (fun c hc=>old c (by rw[<- hn];exact hc)) fun c o e=>by rw[hn];exact inn c o e) hk1
 refine⟨.ref (n+1),H4,I4,rfl,qq _ H4 (sm.trans s4) ?_⟩
 rw[ah]
 exact⟨n+1,_,true,rfl,g6,⟨rfl,sm.free (fr 1)⟩,(ag.flat _ fl (rl.same s4)).rev⟩
def N2:Stmt->Expr
 | .Return (some (.Tuple [e,_] _ _)) _=>e
 | _=>.Name (Str.ofString "") ⟨0,0,0,0⟩
def N1:Stmt->Expr
 | .Return (some (.Tuple [_,.Call _ [.Call _ [e] _ _] _ _] _ _)) _=>e
 | _=>.Name (Str.ofString "") ⟨0,0,0,0⟩
def jX(Φ:Fx)(sc:Scope)(ps:List Str)(pre:List Stmt)(e1 e2:Expr)(ds:List D):Rs D :=
 if ds.length=ps.length then(aC Φ pre sc (cD ps ds)).bnd fun
  | .nx ρ1=>(aA Φ e1 false sc ρ1).bnd fun p=>(bG Φ [e2] sc ρ1).bnd fun q=>(match p.2,q.1 with
   | 0,[.lst l]=>.ok (.tup [p.1,.lst l.reverse]) [ar l=true]
   | _,_=>.st)
  | _=>.st
 else .st
theorem FR{mg:Str->Option Value}{base:Heap}{qual:Str}{st:Stmt}{f:Addr}{fd:FuncData}{post:List Stmt}{n1 n2:Str}{nn:Nat}{p pf pg rr:Pos}(Fn:jQ K g qual st f fd)
  (S:aM (az (aa st)) ps (aa st)) (hΦ:sh P w K mg base k Φ) (hb:ak st=pre ++ .Return (some (.Tuple [e1,.Call (.Name n1 pf) [.Call (.Name n2 pg) [e2] [] rr] [] t] nn p)) q::post) (hn1:n1 = "list") (hn2:n2 = "reversed")
  (gf:(aa st).names.lookup n1=some .globalImplicit) (gg:(aa st).names.lookup n2=some .globalImplicit):bH P w K mg base dF (k+1) f fd ps (jw K (jX Φ (aa st) ps pre e1 e2)):=by
 refine Fn.ok S (fun vs H Q E h=>?_) (fun cdv A outer s H vs Q E hr h=>?_)
 ·obtain⟨ds,r,l,h1,h2,hp,_⟩:=h
  unfold jX at h2
  split at h2
  ·rename_i hl;rw[<- h1.length];exact hl
  ·cases h2
 ·obtain⟨ds,r,l,h1,h2,hp,qq⟩:=h
  have h2:ac (jX Φ (aa st) ps pre e1 e2 ds) r:=⟨l,h2,hp⟩
  unfold jX at h2
  split at h2
  ·rename_i hl
   have G:=jI (outer:=outer) (H:=H) (E:=E) S hΦ hr
   obtain⟨E0,hsl⟩:=lZ (P:=P) (w:=w) (mg:=mg) (base:=base) (qual:=qual) (f:=f) (cdv:=cdv) (A:=A) (outer:=outer) (s:=s) (E:=E) S h1 hl
   have B0:cj H (fun _=>none) H:=fun a o h=>⟨h,rfl⟩
   obtain⟨fl,h3,h4⟩:=aw h2
   cases fl with
   | nx ρ1 =>
    obtain⟨⟨d1,k1⟩,h5,h6⟩:=aw h4
    obtain⟨⟨qs,k2⟩,h7,h8⟩:=aw h6
    dsimp only at h8
    split at h8
    ·rename_i l0
     obtain⟨h9,hfl,_⟩:=b0 h8
     subst h9
     obtain⟨l7,h7,p7⟩:=h7
     obtain⟨hst,_⟩:=ck h7 p7
     have ad:=fO [e2] h7 p7 G
     have ed:=wI (p:=pf) (q:=pg) (r:=rr) (t:=t) G.calm hn1 hn2 (G.gl n1 gf) (G.gl n2 gg) (by subst hn1;exact G.bl _ (by decide +kernel)) (by subst hn2;exact G.bl _ (by decide +kernel)) ad hst hfl
     have ed1:=(bI h5 G).ed rfl
     obtain⟨l5,h5,p5⟩:=h5
     have st1:∀y p,e1 ≠ .Starred y p:=fun y p z=>by subst z;cases h5
     have at2:AD _ ρ1 [e1,.Call (.Name n1 pf) [.Call (.Name n2 pg) [e2] [] rr] [] t] [d1,.lst l0.reverse] (kj 0 (kj 0 0)):=dN ed1 (dN ed iP (aF fun _ _ z=>nomatch z)) (aF st1)
     have sd:=tG (pos:=q) (H0:=H) (uN (n:=nn) (pos:=p) at2 (by show 2<=40000;decide)) (.inl (by show kn _ 0=0;unfold kn;split<;>rfl))
     rw[hb]
     exact⟨_,qG G PassesOwn.never h3 (iw sd fun _ z=>nomatch z),fun _=>none,E0,hsl,B0,fun v H' sm rp=>qq v H' sm rp⟩
    ·exact(aq h8).elim
   | rt _=>exact(aq h4).elim
   | bk _=>exact(aq h4).elim
   | ct _=>exact(aq h4).elim
  ·exact(aq h2).elim
theorem Ii{sc:Scope}{ds:List D}{ρ1:af}{d1:D}(h1:ac (aC Φ pre sc (cD ps ds)) (.nx ρ1))(h2:ac (aA Φ e1 false sc ρ1) (d1,0))(h3:ac (bG Φ [e2] sc ρ1) ([.lst l],k))(h4:ar l=true)(hl:ds.length=ps.length:=by rfl):ac (jX Φ sc ps pre e1 e2 ds) (.tup [d1,.lst l.reverse]):=by
 unfold jX
 rw[if_pos hl]
 exact ac.bnd h1 (ac.bnd h2 (ac.bnd h3 ⟨_,rfl,h4,True.intro⟩))
end Sp
namespace K
open PySem L2 Sp Qm
variable{d k q:Qd}{c n p:Int}
def nZ(q:Qd):Prop:=∀(k:Qd) (n:Int),am k->1<n->q≠aX k n
theorem ol(n:Int):am (2*n,0,0,0):=⟨0,n,0,0,0,.inl rfl,by simp,rfl,rfl,rfl⟩
theorem Er(n:Int):au (2*n,0,0,0)=n*n:=by
 show((2*n)*(2*n)+(0*0+(0*0+(0*0+0)))).fdiv 4=n*n
 rw[show(2*n)*(2*n)+(0*0+(0*0+(0*0+0)))=4*(n*n) by grind,Qm.fd4]
theorem BU(n:Int)(hk:am k)(hd:am d):aP (aX k n) d=aX (aP k d) n:=by
 rw[<- gx,<- gx,dW (ol n) hk hd]
theorem BR(n:Int)(hk:am k)(hd:am d):aP d (aX k n)=aX (aP d k) n:=by
 rw[<- eh,<- eh,dW hd hk (ol n)]
theorem nZ.left{u:Qd}(hu:am u)(hd:am d)(h:nZ (aP u d)):nZ u:=fun k n hk hn e=>h (aP k d) n (de hk hd) hn (by rw[e,BU n hk hd])
theorem nZ.ne(h:nZ q):q≠aD:=fun e=>h aD 2 iD (by decide) (by rw[e];rfl)
theorem vw{A y:Qd}(p:Int)(hA:am A)(hy:am y):∃t,au (ci A (aX y p))=au A+p*t:=by
 obtain⟨t1,h1,e1⟩:=cI (ge hA (fE p hy))
 obtain⟨t2,h2,e2⟩:=cI hA
 obtain⟨t3,h3,e3⟩:=cI hy
 obtain⟨e,x1,x2,x3,x4,he,a1,a2,a3,a4⟩:=hA
 obtain⟨f,y1,y2,y3,y4,hf,b1,b2,b3,b4⟩:=hy
 rw[e1,e2]
 obtain⟨A1,A2,A3,A4⟩:=A
 obtain⟨Y1,Y2,Y3,Y4⟩:=y
 dsimp only at a1 a2 a3 a4 b1 b2 b3 b4 h1 h2 h3
 have hs:A1*Y1+A2*Y2+A3*Y3+A4*Y4=2*(2*(x1*y1+x2*y2+x3*y3+x4*y4)+f*(x1+x2+x3+x4)+e*(y1+y2+y3+y4)+2*(e*f)):=by
  rw[a1,a2,a3,a4,b1,b2,b3,b4];grind
 generalize 2*(x1*y1+x2*y2+x3*y3+x4*y4)+f*(x1+x2+x3+x4)+e*(y1+y2+y3+y4)+2*(e*f)=t at hs
 refine⟨t+p*t3,?_⟩
 have h1':(A1+Y1*p)*(A1+Y1*p)+((A2+Y2*p)*(A2+Y2*p)+((A3+Y3*p)*(A3+Y3*p)+((A4+Y4*p)*(A4+Y4*p)+0)))=4*t1:=h1
 have h1'':(A1*A1+(A2*A2+(A3*A3+(A4*A4+0))))+2*p*(A1*Y1+A2*Y2+A3*Y3+A4*Y4)+p*p*(Y1*Y1+(Y2*Y2+(Y3*Y3+(Y4*Y4+0))))=4*t1:=by rw[<- h1'];grind
 rw[h2,h3,hs]at h1''
 have:4*t2+4*(p*t)+4*(p*(p*t3))=4*t1:=by rw[<- h1''];grind
 have e4:p*(t+p*t3)=p*t+p*(p*t3):=Int.mul_add _ _ _
 omega
theorem HF:∀p∈c7,∀c∈(List.range 98).map (fun i:Nat=>(i:Int)),c≠0->p % c=0->c=1\/c=p:=by decide +kernel
theorem iC:∀p∈c7,1<p/\p<=97:=by decide
theorem HE(hp:p∈c7)(hc:0<=c)(hn:0<=n)(e:c*n=p):c=1\/n=1:=by
 obtain⟨p1,p2⟩:=iC p hp
 have c0:c≠0:=fun z=>by rw[z,Int.zero_mul]at e;omega
 have n0:n≠0:=fun z=>by rw[z,Int.mul_zero]at e;omega
 have cp:c<=p:=by
  rw[<- e]
  have:=Int.mul_le_mul_of_nonneg_left (show 1<=n by omega) hc
  omega
 have hm:c∈(List.range 98).map (fun i:Nat=>(i:Int)):=List.mem_map.mpr ⟨c.toNat,by simp;omega,by omega⟩
 rcases HF p hp c hm c0 (by rw[<- e];exact Int.mul_emod_right c n)with h|h
 ·exact .inl h
 ·right
  rw[h]at e
  have:p*(n-1)=0:=by rw[Int.mul_sub,e];omega
  rcases Int.mul_eq_zero.mp this with z|z<;>omega
theorem Cg{r:Qd}{a:fq}(hr:am r)(pl:nZ r)(hp:p∈c7)(hd:∃c,au r=p*c)(g:Ef true r (2*p,0,0,0) a):au a.1=p/\am a.1/\∃u,am u/\r=aP u a.1:=by
 obtain⟨u,hu,eu⟩:=g.dp
 obtain⟨v,hv,ev⟩:=g.dq'
 obtain⟨d0,hx,hy,hs⟩:=g.ra
 have eu:r=aP u a.1:=eu
 have ev:(2*p,0,0,0)=aP v a.1:=ev
 have hs:ci (aP a.2.1 r) (aP a.2.2 (2*p,0,0,0))=a.1:=hs
 rw[eh]at hs
 obtain⟨p1,p2⟩:=iC p hp
 refine⟨?_,d0,u,hu,eu⟩
 obtain⟨t,ht⟩:=vw p (de hx hr) hy
 obtain⟨c,hc⟩:=hd
 rw[hs,ip hx hr,hc]at ht
 have ht:au a.1=p*(au a.2.1*c+t):=by rw[ht];grind
 have hv2:p*p=au v*au a.1:=by rw[<- ip hv d0,<- ev,Er]
 have nv:=d8 hv
 have na:=d8 d0
 generalize au a.2.1*c+t=m at ht
 have m0:0<=m:=by
  rcases Int.le_total 0 m with h|h
  ·exact h
  ·rcases Int.lt_or_eq_of_le h with h|h
   ·have:=Int.mul_neg_of_pos_of_neg (show 0<p by omega) h;omega
   ·omega
 have em:au v*m=p:=by
  have:p*(au v*m-p)=0:=by
   rw[Int.mul_sub,hv2,ht];grind
  rcases Int.mul_eq_zero.mp this with z|z<;>omega
 rcases HE hp nv m0 em with h|h
 ·exfalso
  have e1:a.1=aX (cN v) p:=by
   rw[<- eh,ev,<- dW (dS hv) hv d0,(iG hv).2,h]
   exact(tY a.1).symm
  exact pl (aP u (cN v)) p (de hu (dS hv)) p1 (by rw[<- BR p (dS hv) hu,<- e1];exact eu)
 ·rw[ht,h,Int.mul_one]
def cF(ns:List Int):Int:=ns.foldr (· * ·) 1
theorem cC(n:Int)(ns:List Int):cF (n::ns)=n*cF ns:=rfl
theorem mX:∀ms ns:List Int,cF (ms++ns)=cF ms*cF ns
 | [],ns=>(Int.one_mul _).symm
 | m::ms,ns=>by rw[List.cons_append,cC,cC,mX ms ns,Int.mul_assoc]
theorem v9(n:Int):cF [n]=n:=Int.mul_one n
theorem qE:∀(ws:List Qd) (u:Qd),am u->(∀w∈ws,am w)->au (ws.foldl aP u)=au u*cF (ws.map au)
 | [],u,_,_=>(Int.mul_one _).symm
 | w::ws,u,hu,h=>by
  rw[List.foldl_cons,qE ws _ (de hu (h w List.mem_cons_self)) fun x hx=>h x (List.mem_cons_of_mem _ hx),ip hu (h w List.mem_cons_self),List.map_cons,cC,Int.mul_assoc]
theorem je{n:Nat}(h:am q)(g:au q<=((2 ^ n:Nat):Int)):gQ (n+2) q:=⟨h,dY (lK h g) (by rw[Nat.pow_add];omega)⟩
def jo(a b c d:Int):Bool:=decide (b.fmod 2=a.fmod 2)&&(decide (c.fmod 2=a.fmod 2)&&decide (d.fmod 2=a.fmod 2))
def cO(q:Qd):Int:=cond (jo (q.1.fdiv (gI [q.1,q.2.1,q.2.2.1,q.2.2.2])) (q.2.1.fdiv (gI [q.1,q.2.1,q.2.2.1,q.2.2.2])) (q.2.2.1.fdiv (gI [q.1,q.2.1,q.2.2.1,q.2.2.2])) (q.2.2.2.fdiv (gI [q.1,q.2.1,q.2.2.1,q.2.2.2]))) (gI [q.1,q.2.1,q.2.2.1,q.2.2.2]) ((gI [q.1,q.2.1,q.2.2.1,q.2.2.2]).fdiv 2)
theorem uj{a b d:Int}:jo a b c d=true↔am (a,b,c,d):=by
 unfold jo
 simp only[Bool.and_eq_true,decide_eq_true_eq]
 rw[jC]
 simp only[IZ]
theorem wn{q:Qd}(h:q≠aD):∃n∈[q.1,q.2.1,q.2.2.1,q.2.2.2],n≠0:=by
 obtain⟨a,b,c,d⟩:=q
 by_cases q1:a=0
 ·by_cases q2:b=0
  ·by_cases q3:c=0
   ·refine⟨d,by simp,fun q4=>h ?_⟩
    rw[q1,q2,q3,q4];rfl
   ·exact⟨c,by simp,q3⟩
  ·exact⟨b,by simp,q2⟩
 ·exact⟨a,by simp,q1⟩
theorem uP(h:q≠aD)(hp:am q):∃(g:Int) (k:Qd),0<g/\g=gI [q.1,q.2.1,q.2.2.1,q.2.2.2]/\q=aX k g/\k=(q.1.fdiv g,q.2.1.fdiv g,q.2.2.1.fdiv g,q.2.2.2.fdiv g)/\(¬ am k->∃t,g=2*t):=by
 obtain⟨n,hn,n0⟩:=wn h
 have hg:=uy hn n0
 have ea:=pT (m:=q.1) hn n0 (by simp)
 have eb:=pT (m:=q.2.1) hn n0 (by simp)
 have ec:=pT (m:=q.2.2.1) hn n0 (by simp)
 have ed:=pT (m:=q.2.2.2) hn n0 (by simp)
 refine⟨_,_,hg,rfl,?_,rfl,fun np=>?_⟩
 ·unfold aX
  exact cR (ea.trans (Int.mul_comm _ _)) (eb.trans (Int.mul_comm _ _)) (ec.trans (Int.mul_comm _ _)) (ed.trans (Int.mul_comm _ _))
 ·rcases uX (gI [q.1,q.2.1,q.2.2.1,q.2.2.2])with e|e
  ·exact⟨gI [q.1,q.2.1,q.2.2.1,q.2.2.2] / 2,by rw[IZ]at e;omega⟩
  ·exfalso
   apply np
   have pm:∀m s:Int,m=gI [q.1,q.2.1,q.2.2.1,q.2.2.2]*s->m % 2=s % 2:=fun m s hm=>by
    rw[hm,Int.mul_emod]
    rw[IZ]at e
    rw[e,Int.one_mul,Int.emod_emod_of_dvd _ (Int.dvd_refl 2)]
   have p:=jC.mp hp
   rw[jC]
   rw[pm _ _ ea,pm _ _ eb,pm _ _ ec,pm _ _ ed]at p
   exact p
theorem vP(h:q≠aD)(hp:am q):0<cO q/\∃k,am k/\q=aX k (cO q):=by
 obtain⟨g,k,g0,eg,ek,dk,ev⟩:=uP h hp
 unfold cO
 rw[<- eg]
 have hk:jo (q.1.fdiv g) (q.2.1.fdiv g) (q.2.2.1.fdiv g) (q.2.2.2.fdiv g)=true↔am k:=by rw[uj,dk]
 cases hs:jo (q.1.fdiv g) (q.2.1.fdiv g) (q.2.2.1.fdiv g) (q.2.2.2.fdiv g)with
 | true=>exact⟨g0,k,hk.mp hs,ek⟩
 | false =>
  obtain⟨t,ht⟩:=ev fun z=>by rw[hk.mpr z]at hs;cases hs
  have e2:g.fdiv 2=t:=by rw[ht,Qm.fd2]
  show 0<g.fdiv 2/\∃k,am k/\q=aX k (g.fdiv 2)
  rw[e2]
  refine⟨by omega,aX k 2,⟨0,k.1,k.2.1,k.2.2.1,k.2.2.2,.inl rfl,by unfold aX;simp only;omega,by unfold aX;simp only;omega,by unfold aX;simp only;omega,by unfold aX;simp only;omega⟩,?_⟩
  rw[ek,ht]
  unfold aX
  exact cR (by simp only[Int.mul_assoc]) (by simp only[Int.mul_assoc]) (by simp only[Int.mul_assoc]) (by simp only[Int.mul_assoc])
theorem KO(h:q≠aD)(hk:am k)(hn:1<n)(e:q=aX k n):1<cO q:=by
 have k0:k≠aD:=fun z=>h (by rw[e,z];unfold aX aD;simp)
 obtain⟨g,k',g0,eg,ek,dk,ev⟩:=uP k0 hk
 have gq:gI [q.1,q.2.1,q.2.2.1,q.2.2.2]=n*g:=by
  rw[eg,e]
  have:=IV (c:=n) (by omega) [k.1,k.2.1,k.2.2.1,k.2.2.2]
  simp only[List.map_cons,List.map_nil]at this
  rw[<- this]
  unfold aX
  simp only[Int.mul_comm n]
 have fd:∀x:Int,(x*n).fdiv (n*g)=x.fdiv g:=fun x=>by rw[Int.mul_comm x n];exact ye (by omega) g0
 have m1:q.1.fdiv (n*g)=k.1.fdiv g:=by rw[e];exact fd _
 have m2:q.2.1.fdiv (n*g)=k.2.1.fdiv g:=by rw[e];exact fd _
 have m3:q.2.2.1.fdiv (n*g)=k.2.2.1.fdiv g:=by rw[e];exact fd _
 have m4:q.2.2.2.fdiv (n*g)=k.2.2.2.fdiv g:=by rw[e];exact fd _
 unfold cO
 rw[gq,m1,m2,m3,m4]
 have hk:jo (k.1.fdiv g) (k.2.1.fdiv g) (k.2.2.1.fdiv g) (k.2.2.2.fdiv g)=true↔am k':=by rw[uj,dk]
 cases hs:jo (k.1.fdiv g) (k.2.1.fdiv g) (k.2.2.1.fdiv g) (k.2.2.2.fdiv g)with
 | true =>
  show 1<n*g
  have:=Int.mul_le_mul_of_nonneg_left (show 1<=g by omega) (show 0<=n by omega)
  omega
 | false =>
  obtain⟨t,ht⟩:=ev fun z=>by rw[hk.mpr z]at hs;cases hs
  show 1<(n*g).fdiv 2
  rw[ht,show n*(2*t)=2*(n*t) by grind,Qm.fd2]
  have:=Int.mul_le_mul_of_nonneg_left (show 1<=t by omega) (show 0<=n by omega)
  omega
theorem wa(h:q≠aD)(hp:am q):nZ q↔cO q<=1:=by
 constructor
 ·intro pl
  obtain⟨v0,k,hk,e⟩:=vP h hp
  rcases Int.lt_or_le 1 (cO q)with z|z
  ·exact absurd e (pl k _ hk z)
  ·exact z
 ·intro le k n hk hn e
  have:=KO h hk hn e
  omega
theorem Fe(a b c d:Int):((([D.int (a.fmod 2),.int (b.fmod 2),.int (c.fmod 2),.int (d.fmod 2)].any fun z=>cG z (.int 0)))&&([D.int (a.fmod 2),.int (b.fmod 2),.int (c.fmod 2),.int (d.fmod 2)].any fun z=>cG z (.int 1))) = !jo a b c d:=by
 unfold jo
 simp only[List.any_cons,List.any_nil,gz,Bool.or_false]
 rcases uX a with ha|ha<;>rcases uX b with hb|hb<;>rcases uX c with hc|hc<;>rcases uX d with hd|hd<;>rw[ha,hb,hc,hd]<;>decide
theorem zr:∀{l:List Int},(∀n∈l,n∈c7)->0<=cF l/\cF l<=((2 ^ (7*l.length):Nat):Int)
 | [],_=>by decide
 | n::l,h=>by
  obtain⟨h0,h1⟩:=zr fun m hm=>h m (List.mem_cons_of_mem _ hm)
  obtain⟨p1,p2⟩:=iC n (h n List.mem_cons_self)
  rw[cC]
  refine⟨Int.mul_nonneg (by omega) h0,?_⟩
  have:=Int.mul_le_mul (show n<=128 by omega) h1 h0 (by decide)
  refine Int.le_trans this ?_
  rw[List.length_cons,Nat.mul_add,Nat.pow_add]
  generalize 2 ^ (7*l.length)=x
  show(128:Int)*(x:Int)<=((x*128:Nat):Int)
  omega
end K
namespace Sp
open PySem PySem.Spec PyProof.Rows L2
variable{P:Program}{w:World}{H H' H0:Hp}{base h:Heap}{B a b c g n qual x y:Str}{o:Obj}{X Y:Cx}{C S f z:Addr}{mc:Value}{bp hpos p p0 p1 p2 p3 pos tpos:Pos}{es:List Expr}{t:TA}{cd:ClassData}{e:Expr}{k kd:Nat}{K:W.Frag}{mg:Str->Option Value}{st:Stmt}{fd:FuncData}{pins:List (Addr×Obj)}{σ:L2.St}{s:Shared}{ps:List Str}{Q:Flow->Shared->Prop}{sp:L2.Sp}{E:XK}{ρ:af}{ow:Ow}{Φ:Fx}{sc:Scope}{fs:List (Str×Int)}{G:List D->Option Xs}{ds:List D}{Ψ:Str->Option (List D->Option Xs)}{Ex:Str->Option (Str×Option Str)}{post pre tb:List Stmt}
abbrev gO(x:Addr)(o:Obj):HO:=.ext (fun h=>h.get? x=some o)
theorem uI{x:Addr}(e:h.get? x=some o):bw P w H h x (gO x o):=⟨e,⟨o,e⟩,fun h1 h2 a b=>b _ a⟩
theorem uJ{x:Addr}(e:bw P w H h x (gO x o)):h.get? x=some o:=e.1
theorem BK{apos:Pos}{e1:Expr}(hg:Gl X b)(hm:X.mg b=some (.ref S))(hga:W.specialIn X.K (.ref S) "__getattribute__" = some (some (.builtin "type.__getattribute__")))
  (hrd:W.readsIn X.K S mc=true) (hfc:W.findCls X.K (.ref S) mc "__init__" = some (.val (.builtin "ValueError.__init__"))) (hex:gY X.K C S=true) (ha:PA X (e1::es) t)
  (hst:starEach (e1::es) X.env=(false,eval e1 X.env)::starEach es X.env) (hpl:(backTo pos (starEach es X.env)).any (·.1)=false) (hdb:(b==("__debug__" : Str))=false)
  (ht:eval (.Call (.Attribute (.Name b p) "__init__" apos) (e1::es) [] pos) X.env=(do
   let ov <- eval (.Name b p) X.env
   standAt apos.atName
   let (f,first) <- holding [ov] (getMethod ov "__init__" (do return (<- importBound (.Name b p) X.env).getD true))
   callWith pos f first (backTo pos (starEach (e1::es) X.env)) (backToKw pos (keywordEach [] X.env)))) :
  PE X (.Call (.Attribute (.Name b p) "__init__" apos) (e1::es) [] pos) (fun σ H Q=>t σ H fun vs H1 => ∃x y o vv t0,vs=[.ref x,y]/\H1 x=some (gO x o)/\o.cls=.ref C/\o.data=.fields vv/\vv[0]?=some (.ref t0)/\∀t1,Q .non (aG H1 x (gO x { o with data:=.fields (vv.setIfInBounds 0 (.ref t1)) }))):=by
 intro pins s σ H Q I h
 obtain⟨nm,qn,N,bs,hdct,sn,sub,ab,col,dd,k0,k1,k2,k3,k5,mN,g1,g2,g3,g4⟩:=fC hex I.ok.mod.kin
 refine W.methodCall_KW (pl:=(do return (<- importBound (.Name b p) X.env).getD true)) (dG I hg hm ?_ hdb) ht
 refine W.method_cls I.kIn hga (W.cls_value I.kIn hrd hfc rfl ?_)
 have I':=I.tok (s.toks+1)
 refine PyProof.Rows.callWith_builtin1 (aN (ha pos pins _ σ H _ I' h) fun us s2 ⟨vs,H2,I2,r,q2⟩=>?_) hst hpl
 obtain⟨x,y,o,vv,t0,rfl,hx,hc,hd,h0,q⟩:=q2
 have e0:=uJ (I2.hok x _ hx)
 cases r with
 | cons r1 r =>
  cases r with
  | cons r2 r =>
   cases r
   cases r1
   refine ym PySem.F.excBase_ValueError ((OwnTailQ.tail g4).keeps I2.bk) (Code.quiet_builtin _ (by decide +kernel)) (I2.bk _ _ g1) e0 hc hd h0 (fun h' w1 w2=>?_)
   exact⟨.non,_,I2.write (x:=x) (e:=x) (by rw[hx];exact True.intro) (.inl rfl) w1 ⟨_,w2⟩ (uI w2),rfl,q _⟩
theorem ES{o value:Expr}{ta tv:TE}{f:Str}{pos':Pos}(hcd:W.clsIn X.K C=some cd)(hmro:cd.mro=.ref C :: .ref S::fH)(hdd:cd.hasDict=true)(hsa:W.findIn X.K (.ref C) "__setattr__" = some (some (.builtin "object.__setattr__")))(hff:W.findIn X.K (.ref C) f=some none)
  (ha:PE X o ta) (hv:PE X value tv) (hs:swapsWith value (some (.Attribute o f pos')) pos.line X.env=pure false):PS X (.Assign [.Attribute o f pos'] value pos) (fun D σ H=>tv σ H fun y H1=>ta σ H1 fun x H2 => ∃a ob vv,x=.ref a/\H2 a=some (gO a ob)/\ob.cls=.ref C/\ob.data=.fields vv/\ob.dict=none/\∀dx,H2 dx=none->D.nx σ (aG (aG H2 a (gO a { ob with dict:=some dx })) dx (.xd [(f,y)]))):=by
 intro pins s σ H D I h
 refine plainObj_wpAny_Assign_Attribute (aN (hv pins s σ H _ I h) fun u s1 ⟨y,H1,I1,ry,q⟩=>aN (ha pins s1 σ H1 _ I1 q) fun ov s2 ⟨x,H2,I2,rx,a,ob,vv,ex,ea,c1,c2,c3,q2⟩=>?_) hs
 subst ex
 obtain rfl:ov=Value.ref a:=rx
 have e0:=uJ (I2.hok a _ ea)
 refine FU I2.kIn e0 c1 c2 c3 hcd hmro hdd hsa hff (fun h' dx w1 w2 w3 w4=>?_)
 have n1:H2 dx=none:=I2.hok.fresh w1
 have hne:a≠dx:=fun z=>by subst z;rw[n1]at ea;cases ea
 have up:(s2.heap.update a fun _ => { ob with dict:=some dx }).get? a=some { ob with dict:=some dx }:=Heap.get?_update_self _ e0 (by show Obj.isFreed _=false;unfold Obj.isFreed;rw[c2])
 have J1:aj X pins σ (aG H2 a (gO a { ob with dict:=some dx })) { s2 with heap:=s2.heap.update a fun _ => { ob with dict:=some dx },toks:=s2.toks }:=I2.write (x:=a) (e:=a) (by rw[ea];exact True.intro) (.inl rfl) (fun b u hb e=>(Heap.get?_update_other _ _ hb.symm).trans e) ⟨_,up⟩ (uI up)
 have J2:=J1.laid (a:=dx) (o:=.xd [(f,y)]) (h':=h') (t':=s2.toks+2) (fun b u e=>by
  by_cases hb:b=a
  ·subst hb
   have:some { ob with dict:=some dx }=some u:=up.symm.trans e
   rw[w3,this]
  ·exact w2 b u hb ((Heap.get?_update_other _ _ (Ne.symm hb)).symm.trans e)) (by show(s2.heap.update a _).objs.size<=dx;rw[Heap.size_update];exact w1) ⟨_,w4,fun g=>by
   by_cases hg:g=f
   ·subst hg;simp[List.lookup_cons];exact ry
   ·rw[if_neg hg,List.lookup_cons,show(g==f)=false from by simpa using hg];exact True.intro⟩
 exact⟨σ,_,J2,q2 dx n1⟩
theorem HV{te:TE}(he:PE X e te)(ha:a.length<=200):PE X (.JoinedStr [.Constant (.str a) kd p0,.FormattedValue e (-1) none p1] p3) (fun σ H Q=>te σ H fun v H1 => ∃i:Int,v=.int i/\i.natAbs<2 ^ 1900/\∀y,Q (.str y) H1):=by
 intro pins s σ H Q I h
 have hz:(2200:Nat)<=sizeLine:=by rw[sizeLine_eq];decide
 refine wpAny_JoinedStr ?_
 show wpAny _ _ (eval (.Constant (.str a) kd p0) X.env) (fun v s₁ => ∃y t',v=Value.str y t'/\(Str.empty++y).length<=sizeLine/\wpAny _ _ (eval (.FormattedValue e (-1) none p1) X.env) (fun v s₂ => ∃z t'',v=Value.str z t''/\(Str.empty++y++z).length<=sizeLine/\_) _ s₁) _ s
 refine wpAny_Constant_str ⟨_,_,rfl,?_,?_⟩
 ·rw[Str.empty_append];omega
 refine wpAny_FormattedValue_plain ?_
 refine aN (he pins _ σ H _ (I.tok _) h) fun u s1 ⟨v,H1,I1,r1,i,e1,hi,q⟩=>?_
 subst e1
 obtain⟨tk,rfl⟩:=r1
 have hl:i.natAbs.log2<1920:=by
  rcases Nat.eq_zero_or_pos i.natAbs with z|z
  ·rw[z];decide
  ·exact Nat.lt_of_lt_of_le ((Nat.log2_lt (Nat.ne_of_gt z)).mpr hi) (by decide)
 have tl:=int_text_len_1921 hl
 refine wpAny_formatField_int hl ⟨_,_,rfl,?_,?_⟩
 ·rw[Str.empty_append,Str.length_append];omega
 ·refine⟨?_,.str _,H1,(I1.tok _).tok _,⟨_,rfl⟩,q _⟩
  rw[Str.empty_append,Str.length_append];omega
def tj(C:Addr)(f:Str):Sp:=fun vs H Q _ => ∃x i o vv t0,vs=[.ref x,.int i]/\i.natAbs<2 ^ 1900/\H x=some (gO x o)/\o.cls=.ref C/\o.data=.fields vv/\o.dict=none/\vv[0]?=some (.ref t0) /\
 ∀t1 dx,H dx=none->Q .non (aG (aG H x (gO x ⟨o.cls,some dx,.fields (vv.setIfInBounds 0 (.ref t1)),o.slots⟩)) dx (.xd [(f,.int i)]))
theorem Bi{S0:Addr}(Fn:jQ K g qual st f fd){s0 a1 fl:Str}{p5 p6 p7 p8 p9 p10 q1 q2 q3 q4:Pos}
  (hN:az (aa st)=[s0,a1]) (S:aM (az (aa st)) [s0,a1] (aa st)) (hv:∀x∈[s0,a1],iS (aa st) x) (hok:∀x∈[s0,a1],eM x=true)
  (hgb:(aa st).names.lookup b=some .globalImplicit) (hm:mg b=some (.ref S0)) (hga:W.specialIn K (.ref S0) "__getattribute__" = some (some (.builtin "type.__getattribute__"))) (hrd:W.readsIn K S0 mc=true) (hfc:W.findCls K (.ref S0) mc "__init__" = some (.val (.builtin "ValueError.__init__"))) (hex:gY K C S0=true)
  (hcd:W.clsIn K C=some cd) (hmro:cd.mro=.ref C :: .ref S0::fH) (hdd:cd.hasDict=true) (hsa:W.findIn K (.ref C) "__setattr__" = some (some (.builtin "object.__setattr__"))) (hff:W.findIn K (.ref C) fl=some none)
  (hb:ak st=[.Expr (.Call (.Attribute (.Name b p1) "__init__" p2) [.Name s0 p3,.JoinedStr [.Constant (.str a) kd p5,.FormattedValue (.Name a1 p6) (-1) none p7] p8] [] p9) p10,.Assign [.Attribute (.Name s0 q1) fl q2] (.Name a1 q3) q4]) (ha:a.length<=200) (hln:(p2.endLine==p9.line)=true) (hdb:(b==("__debug__" : Str))=false) :
  bH P w K mg base dF 1 f fd [s0,a1] (tj C fl):=by
 refine Fn.ok (k:=0) S (fun vs H Q E h=>?_) (fun cdv A outer s H vs Q E hr h=>?_)
 ·obtain⟨x,i,o,vv,t0,rfl,_⟩:=h
  rfl
 ·obtain⟨x,i,o,vv,t0,rfl,hi,hx,hc,hd,hdi,h0,q⟩:=h
  have nm:∀(i:Nat) (x:Str) (p:Pos),[s0,a1][i]?=some x->PE (g7 dF P w K mg base (az (aa st)) qual (aa st) f cdv A outer s H E).nox (.Name x p) (lr i):=fun i x p hi =>
   gH (by show(az (aa st))[i]?=some x;rw[hN];exact hi) (hv x (List.mem_of_getElem? hi)) (cK (hok x (List.mem_of_getElem? hi))).1 (cK (hok x (List.mem_of_getElem? hi))).2
  have ns:∀e∈[Expr.Name s0 p3,.JoinedStr [.Constant (.str a) kd p5,.FormattedValue (.Name a1 p6) (-1) none p7] p8],∀y p,e≠Expr.Starred y p:=fun e he=>by
   simp only[List.mem_cons,List.not_mem_nil,or_false]at he
   rcases he with rfl|rfl<;>(intro y p z;cases z)
  rw[hb]
  refine⟨_,fz (jz (BK (C:=C) hgb hm hga hrd hfc hex (qN (nm 0 s0 p3 rfl) (qN (HV (nm 1 a1 p6 rfl) ha) zB (aF fun _ _ z=>by cases z)) (aF fun _ _ z=>by cases z)) (aF fun _ _ z=>by cases z) (bi fun e he=>ns e (List.mem_cons_of_mem _ he)) hdb (DR (gp rfl) (Ar ns (Nat.le_of_ble_eq_true rfl)) hln)) rfl) (v6 (ES hcd hmro hdd hsa hff (nm 0 s0 q1 rfl) (nm 1 a1 q3 rfl) rfl)),?_⟩
  rw[hN]
  refine⟨.ref x,rfl,.int i,rfl,i,rfl,hi,fun y=>⟨x,.str y,o,vv,t0,rfl,hx,hc,hd,h0,fun t1=>?_⟩⟩
  refine⟨.int i,rfl,.ref x,rfl,x,_,_,rfl,aE,hc,rfl,hdi,fun dx hdx=>?_⟩
  rw[vR]
  have hne:dx≠x:=fun z=>by subst z;rw[aE]at hdx;cases hdx
  exact q t1 dx (by rw[ax hne]at hdx;exact hdx)
def hide(H:Hp)(z:Addr):Hp:=fun a=>if a=z then none else H a
theorem Un.hide{fs ex:List Addr}{h1 h2:Heap}{o:HO}(u:Un fs ex (aG H z o) H' h1 h2)(k:∀b q,h.get? b=some q->h1.get? b=some q)(hz:h.get? z=none)(nz:H z=none):Un fs ex H (Sp.hide H' z) h h2:=by
 have ne:∀b q,h.get? b=some q->b≠z:=fun b q e y=>by subst y;rw[hz]at e;cases e
 have up:∀b q,h.get? b=some q->H b=none->aG H z o b=none:=fun b q e n=>(ax (ne b q e)).trans n
 have nt:∀b q,H b=some q->b≠z:=fun b q e y=>by subst y;rw[nz]at e;cases e
 refine⟨fun b q e n hf hx=>u.keep b q (k b q e) (up b q e n) hf hx,fun b q e n hf hx=>u.slot b q (k b q e) (up b q e n) hf hx,fun b q e n hx=>?_,fun b q e hx=>u.there b q (k b q e) hx,fun b xs e=>?_,fun b q v e=>?_,fun b ps e=>?_⟩
 ·show(if b=z then none else H' b)=none
  rw[if_neg (ne b q e)];exact u.free b q (k b q e) (up b q e n) hx
 ·show(if b=z then none else H' b)=_
  rw[if_neg (nt b _ e)];exact u.tups b xs ((ax (nt b _ e)).trans e)
 ·show(if b=z then none else H' b)=_
  rw[if_neg (nt b _ e)];exact u.frzs b q v ((ax (nt b _ e)).trans e)
 ·show ∃more,(if b=z then none else H' b)=_
  rw[if_neg (nt b _ e)];exact u.tbls b ps ((ax (nt b _ e)).trans e)
theorem cz.hide{φ:Heap->Prop}(ok:cz P w H h)(hz:H z=some (.ext φ)):cz P w (Sp.hide H z) h:=fun b o e=>by
 have hb:b≠z:=fun y=>by subst y;unfold Sp.hide at e;rw[if_pos rfl]at e;cases e
 have e':H b=some o:=by unfold Sp.hide at e;rw[if_neg hb]at e;exact e
 have st:∀a q,H a=some q->(∀φ,q ≠ .ext φ)->Sp.hide H z a=some q:=fun a q ea hq=>by
  unfold Sp.hide
  rw[if_neg (fun y=>by subst y;rw[hz]at ea;cases ea;exact hq _ rfl)];exact ea
 exact(ok b o e').stay (fun c v _ q=>q) (fun x q=>st _ _ q (fun _ y=>by cases y)) (fun a xs q=>st _ _ q (fun _ y=>by cases y))
theorem zj{f:Str}{fI:Addr}{oI:Obj}{np cpos:Pos}(I:aj X pins σ H s)(hc:X.calm=true)(hg:Gl X x)(hm:X.mg x=some (.ref C))(hx:gW X.K C S)(hin:eD X.K C=some (.ref fI))
  (hfo:X.K.lookup fI=some oI) (hfc:oI.cls=.type "function") (hkC:W.keepIn X.K (.ref C)=true) (F:bH X.prog X.w X.K X.mg X.base dF k fI fd ps (tj C f)) (hr:bL (k+1) X.A) (hb:bY X.K fd ps []) (hdb:(x==("__debug__" : Str))=false)
  (ha:PA X [e] t) (he:starEach [e] X.env=(false,eval e X.env)::starEach [] X.env)
  (h:t σ H fun vs H1 => ∃i:Int,vs=[.int i]/\i.natAbs<2 ^ 1900/\∀s1 z dx o vv a0,aj X pins σ (aG H1 dx (.xd [(f,.int i)])) s1->H1 dx=none->s1.heap.get? z=some o->o.cls=.ref C->o.dict=some dx->o.data=.fields vv->1<vv.size->vv[0]?=some a0->vv[1]?=some .none->(aG H1 dx (.xd [(f,.int i)])) z=none->X.s₀.heap.get? z=none->X.xe (.ref z) s1) :
  wpAny (model X.prog X.w) X.A (exec (.Raise (some (.Call (.Name x np) [e] [] cpos)) none pos) X.env) Q X.xe s:=by
 obtain⟨nm,qn,N,bs,hdct,sn,sub,ab,col,dd,k0,k1,k2,k3,k5,mN,g1,g2,g3,g4⟩:=fC hx.ex I.ok.mod.kin
 rw[arm_exec_Raise]
 refine wpAny_bind (wpAny_standAt ?_)
 refine xD (x:=(do let v <- eval (.Call (.Name x np) [e] [] cpos) X.env;standAt pos;pure v)) (C:=C) (nm:=nm) (q:=qn) (N:=N) (bs:=bs) (bm:=.ref S::fH) (hdct:=hdct) (sn:=sn) (sub:=sub) (ab:=ab) (col:=col) (dd:=dd) (k0:=k0) (k1:=k1) (k2:=k2) (k3:=k3) (k5:=k5) (newId := "ValueError.__new__") (AJ S) (I.ok.hd hc) ?_
 refine wpAny_bind (wpAny_Call_ofName (dG I hg hm ?_ hdb))
 refine W.callWith_K (h₀:=X.base) I.ok.mod.kin hkC (aN (ha cpos pins s σ H _ I h) fun us s1 ⟨vs,H1,I1,r,i,ev,hi,q⟩=>⟨I1.kIn,?_⟩) he rfl
 subst ev
 cases r with
 | cons r1 r =>
 rename_i u0 us0
 cases r
 obtain⟨tk,rfl⟩:=r1
 obtain⟨hh,gg,d0,tt,oo⟩:=s1
 have gN:hh.Ns N mN:=by obtain⟨o,es,ep,e1,e2⟩:=g2;exact⟨o,es,ep,I1.bk _ _ e1,e2⟩
 refine yk PySem.F.excBase_ValueError ((OwnTailQ.tail g4).keeps I1.bk) (I1.bk _ _ g1) gN (g3.trans hin) (I1.kIn _ _ hfo) hfc (fun h' z hz m=>?_) (by rw[sizeLine_eq];exact Nat.le_of_ble_eq_true rfl)
 obtain⟨t0,w1,w2,w3⟩:=m.there
 have n1:H1 z=none:=I1.hok.fresh hz
 have I2:aj X pins σ (aG H1 z (gO z _)) ⟨h',gg,d0,tt,oo⟩:=I1.laid (a:=z) (h':=h') (t':=tt) m.keeps hz (uI w1)
 have hsp:tj C f [.ref z,.int i] (aG H1 z (gO z { cls:=.ref C,data:=.fields #[.ref t0,.none,.none,.none,.bool false,.none] })) (fun v H'=>v=.non/\∃t1 dx,(aG H1 z (gO z { cls:=.ref C,data:=.fields #[.ref t0,.none,.none,.none,.bool false,.none] })) dx=none/\H'=aG (aG (aG H1 z (gO z { cls:=.ref C,data:=.fields #[.ref t0,.none,.none,.none,.bool false,.none] })) z (gO z ⟨.ref C,some dx,.fields (#[.ref t0,.none,.none,.none,.bool false,.none].setIfInBounds 0 (.ref t1)),#[]⟩)) dx (.xd [(f,.int i)])) (fun _ _ _=>False) :=
  ⟨z,i,_,_,t0,rfl,hi,aE,rfl,rfl,rfl,rfl,fun t1 dx hdx=>⟨rfl,t1,dx,hdx,rfl⟩⟩
 have r2:aK [.ref z,.int i] [.ref z,.int i tk]:=.cons rfl (.cons ⟨tk,rfl⟩ .nil)
 have hl:([Value.ref z,.int i tk]++[]).length=ps.length:=F.len _ _ _ _ hsp
 refine wpAny_call (codeAny_mono (F.run (X.A.under (.builtin "type.__call__" ⟨.ref C::([]++[.int i tk]),[]⟩)) X.stack ⟨h',gg,d0,tt,oo⟩ _ ⟨[.ref z,.int i tk],[]⟩ [.ref z,.int i tk] [.ref z,.int i] _ _ (hr.make C _ []) (I2.env0.make C _ []) (by have:=hb ⟨h',gg,d0,tt,oo⟩ [.ref z,.int i tk] I2.kIn hl;rw[List.append_nil]at this;exact this) r2 hsp) fun r s' hq=>?_)
 cases r with
 | error e=>exact jY pins σ _ _ e s' I2 hq
 | ok fl =>
  cases fl with
  | next=>exact False.elim hq
  | brk=>exact False.elim hq
  | cont=>exact False.elim hq
  | ret u =>
   obtain⟨v,H',os',bare,un,hok,ru,rfl,t1,dx,hdx,rfl⟩:=hq
   have hne:dx≠z:=fun y=>by subst y;rw[aE]at hdx;cases hdx
   rw[ax hne]at hdx
   rw[vR]at un hok
   have hzn:hh.get? z=none:=Heap.get?_none_of_le hz
   have un2:=Un.hide un m.keeps hzn n1
   have ez:(aG (aG H1 z (gO z ⟨.ref C,some dx,.fields (#[.ref t0,.none,.none,.none,.bool false,.none].setIfInBounds 0 (.ref t1)),#[]⟩)) dx (.xd [(f,.int i)])) z=some (gO z ⟨.ref C,some dx,.fields (#[.ref t0,.none,.none,.none,.bool false,.none].setIfInBounds 0 (.ref t1)),#[]⟩):=by rw[ax hne.symm];exact aE
   have hok2:=cz.hide hok ez
   have oz:=uJ (hok z _ ez)
   have eH:Sp.hide (aG (aG H1 z (gO z ⟨.ref C,some dx,.fields (#[.ref t0,.none,.none,.none,.bool false,.none].setIfInBounds 0 (.ref t1)),#[]⟩)) dx (.xd [(f,.int i)])) z=aG H1 dx (.xd [(f,.int i)]):=by
    funext a
    unfold Sp.hide
    by_cases ha:a=z
    ·subst ha;rw[if_pos rfl,ax hne.symm,n1]
    ·rw[if_neg ha]
     by_cases hb:a=dx
     ·subst hb;rw[aE,aE]
     ·rw[ax hb,ax hb,ax ha]
   rw[eH]at un2 hok2
   obtain⟨hh',g',d',t',o'⟩:=s'
   obtain rfl:o'=oo:=os'
   have I3:=I1.call (h':=hh') (g':=g') (d':=d') (t':=t') (ch:=[]) un2 hok2 bare (fun b z=>absurd z (by simp))
   have ru:u=Value.none:=ru
   refine⟨ru,wpAny_bind (wpAny_standAt (wpAny_pure ⟨z,_,_,rfl,I3.bk _ _ g1,oz,rfl,rfl,by simp,q _ z dx _ _ _ I3 hdx oz rfl rfl rfl (by simp) (by simp;rfl) (by simp) (by rw[ax hne.symm];exact n1) (Heap.get?_none_of_le (Nat.le_trans I1.sz hz))⟩))⟩
theorem _root_.L2.PA.nox(h:PA X.nox es t):PA X es t:=fun pos pins s σ H Q I hw =>
 wpAny_mono (h pos pins s σ H Q (I.wish _) hw) (fun _ _ ⟨v,H',I',r,q⟩=>⟨v,H',I'.unwish,r,q⟩) fun _ _ z=>False.elim z
theorem _root_.L2.PS.nox{t:TS}(h:PS X.nox st t):PS X st t:=fun pins s σ H D I hw =>
 wpAny_mono (h pins s σ H D (I.wish _) hw) (fun _ _ q=>q.unwish) fun _ _ z=>False.elim z
theorem Gp{Q:Value->Shared->Prop}{e:Expr}(F:bH X.prog X.w X.K X.mg X.base (fV X.prog X.w) k f fd ps sp)(hr:bL k X.A)(hg:Gl X x)(hm:X.mg x=some (.ref f))(hk:W.keepIn X.K (.ref f)=true)(hb:bY X.K fd ps [])
  (I:aj X pins σ H s) (hx:∀H1 s1 e s',aj X pins σ H1 s1->fV X.prog X.w X.stack H1 s1 E e s'->X.xe e s')
  (ha:PA X (e::es) t) (hdb:(x==("__debug__" : Str))=false) (he:starEach (e::es) X.env=(false,eval e X.env)::starEach es X.env) (hpl:(backTo pos (starEach es X.env)).any (·.1)=false)
  (h:t σ H fun vs H1=>sp vs H1 (fun _ _=>False) E):wpAny (model X.prog X.w) X.A (eval (.Call (.Name x p) (e::es) [] pos) X.env) Q X.xe s:=by
 refine wpAny_Call_Name_kw (dG I hg hm ?_ hdb)
 refine W.callWith_K (h₀:=X.base) I.ok.mod.kin hk (aN (ha pos pins s σ H _ I h) fun us s1 ⟨vs,H1,I1,r,q⟩=>⟨I1.kIn,?_⟩) he hpl
 have hl:us.length=ps.length:=by rw[<- r.length];exact F.len _ _ _ _ q
 refine wpAny_call (codeAny_mono (F.run X.A X.stack s1 H1 ⟨us,[]⟩ us vs _ E hr I1.env0 (by have:=hb s1 us I1.kIn (by rw[List.append_nil];exact hl);rw[List.append_nil]at this;exact this) r q) fun r s' hq=>?_)
 cases r with
 | error e=>exact hx H1 s1 e s' I1 hq
 | ok fl =>
  cases fl with
  | ret u=>obtain⟨_,_,_,_,_,_,_,z⟩:=hq;exact z.elim
  | next=>exact False.elim hq
  | brk=>exact False.elim hq
  | cont=>exact False.elim hq
theorem Ft{Q:Value->Shared->Prop}{x:Str}{e:Expr}(M:Mk X.K C f)(F:bH X.prog X.w X.K X.mg X.base (fV X.prog X.w) k f fd ps sp)(hr:bL (k+1) X.A)(hg:Gl X x)(hm:X.mg x=some (.ref C))(hb:bY X.K fd ps [])
  (I:aj X pins σ H s) (hx:∀H1 s1 e s',aj X pins σ H1 s1->fV X.prog X.w X.stack H1 s1 E e s'->X.xe e s')
  (ha:PA X (e::es) t) (hdb:(x==("__debug__" : Str))=false) (he:starEach (e::es) X.env=(false,eval e X.env)::starEach es X.env) (hpl:(backTo pos (starEach es X.env)).any (·.1)=false)
  (h:t σ H fun vs H1 => ∀x dx,H1 x=none->H1 dx=none->dx≠x->sp (.ref x::vs) (aG (aG H1 dx (.own x)) x (.ins C dx [])) (fun _ _=>False) E):wpAny (model X.prog X.w) X.A (eval (.Call (.Name x p) (e::es) [] pos) X.env) Q X.xe s:=by
 refine wpAny_Call_Name_kw (dG I hg hm ?_ hdb)
 refine W.callWith_K (h₀:=X.base) I.ok.mod.kin M.kp (aN (ha pos pins s σ H _ I h) fun us s1 ⟨vs,H1,I1,r,q⟩=>⟨I1.kIn,?_⟩) he hpl
 have hq:=q (s1.heap.objs.size+1) s1.heap.objs.size (I1.hok.fresh (Nat.le_succ _)) (I1.hok.fresh (Nat.le_refl _)) (Nat.ne_of_lt (Nat.lt_succ_self _))
 have I2:=aj.made (C:=C) I1
 have r2:aK (V.ref (s1.heap.objs.size+1)::vs) (Value.ref (s1.heap.objs.size+1)::us):=.cons rfl r
 have hl:(Value.ref (s1.heap.objs.size+1)::us++[]).length=ps.length:=by
  have e:=r2.length
  rw[F.len _ _ _ _ hq]at e
  rw[List.append_nil]
  exact e.symm
 refine wpAny_call (ua (f:=f) I1.kIn M.makes M.init (beq_iff_eq.mp M.fn) (codeAny_mono (F.run _ X.stack _ _ ⟨Value.ref (s1.heap.objs.size+1)::us,[]⟩ (Value.ref (s1.heap.objs.size+1)::us) _ _ E (hr.make C us [])
  (I2.env0.make C us []) (by have:=hb _ (Value.ref (s1.heap.objs.size+1)::us) I2.kIn hl;rw[List.append_nil]at this;exact this) r2 hq) fun r s' hq'=>?_))
 cases r with
 | error e=>exact hx _ _ e s' I2 hq'
 | ok fl =>
  cases fl with
  | ret u=>obtain⟨_,_,_,_,_,_,_,z⟩:=hq';exact z.elim
  | next=>exact False.elim hq'
  | brk=>exact False.elim hq'
  | cont=>exact False.elim hq'
def zg(K:W.Frag)(G:List D->Option Xs):L2.Sp:=fun vs H _ E => ∃ds n p fs C S,ag K H (fun _ _=>True) ds vs/\G ds=some (n,p,fs)/\W.nsIn K mainGlobals n=some (some (.ref C))/\W.nsIn K mainGlobals p=some (some (.ref S))/\gW K C S/\∀od H',ay H H'->uD H' od fs->E (.ref C) od H'
def KK(H0:Hp)(C:Addr)(fs:List (Str×Int)):XK:=fun c od H'=>c=.ref C/\ay H0 H'/\uD H' od fs
def Hh(g:Str)(G:List D->Option Xs):List D->Option Xs:=fun ds=>match ds with
 | .obj n [] []::l=>if n=g then G l else none
 | _=>none
def SG(X:Cx)(g:Str)(G:List D->Option Xs):Prop:=∃k f fd ps,bH X.prog X.w X.K X.mg X.base (fV X.prog X.w) k f fd ps (zg X.K G)/\bL k X.A/\X.mg g=some (.ref f)/\W.keepIn X.K (.ref f)=true/\bY X.K fd ps []/\(g==("__debug__" : Str))=false
def Sy(X:Cx)(g:Str)(G:List D->Option Xs):Prop:=∃k C f fd ps,Mk X.K C f/\bH X.prog X.w X.K X.mg X.base (fV X.prog X.w) k f fd ps (zg X.K (Hh g G))/\bL (k+1) X.A/\X.mg g=some (.ref C)/\W.nsIn X.K mainGlobals g=some (some (.ref C))/\fW X.K C/\bY X.K fd ps []/\(g==("__debug__" : Str))=false
def vq(X:Cx)(g:Str)(G:List D->Option Xs):Prop:=SG X g G\/Sy X g G
theorem HS{t:Str}(he:ED X ρ e (.str x) k)(hx:(reprText x).length<=1000)(ht:t.length<=64):ED X ρ (.JoinedStr [.FormattedValue e 114 none p1,.Constant (.str t) kd p2] p3) (.str (reprText x++t)) 0:=by
 intro ow pins s σ H Q I ⟨E,q⟩
 have hz:(1064:Nat)<=sizeLine:=by rw[sizeLine_eq];decide
 have hx':(reprText x).length<=sizeLine:=by omega
 refine wpAny_JoinedStr ?_
 show wpAny _ _ (eval (.FormattedValue e 114 none p1) X.env) (fun v s₁ => ∃y t',v=Value.str y t'/\(Str.empty++y).length<=sizeLine/\wpAny _ _ (eval (.Constant (.str t) kd p2) X.env) (fun v s₂ => ∃z t'',v=Value.str z t''/\(Str.empty++y++z).length<=sizeLine/\_) _ s₁) _ s
 rw[arm_eval_FormattedValue]
 refine wpAny_bind (aN (he ow pins s σ H (fun v H'=>v=.str x/\ay H H') I ⟨E,fun v H' s' r=>⟨by rw[ah]at r;exact r,s'⟩⟩) fun u s1 ⟨v,H1,I1,r1,e1,s1'⟩=>?_)
 subst e1
 obtain⟨tk,rfl⟩:=r1
 refine wpAny_bind (wpAny_standAt ?_)
 refine wpAny_bind (wpAny_holding ?_)
 show wpAny _ _ (pyReprObj (Value.str x tk)) _ _ _
 refine wpAny_pyReprObj_str ?_ hx'
 show wpAny _ _ (formatField (Value.str (reprText x) s1.toks) Str.empty) _ _ _
 refine PyProof.Rows.formatField_str (fun t' tk'=>⟨_,_,rfl,?_,?_⟩) hx'
 ·rw[Str.empty_append];exact hx'
 ·refine wpAny_Constant_str ⟨_,_,rfl,?_,?_⟩
  ·rw[Str.empty_append,Str.length_append];omega
  ·refine⟨?_,.str _,H1,((I1.tok _).tok _).tok _,⟨_,rfl⟩,q _ _ s1' (by rw[ah,Str.empty_append])⟩
   rw[Str.empty_append,Str.length_append];omega
theorem HU{i:Int}{t:Str}{kd0:Nat}(he:ED X ρ e (.int i) k)(hi:i.natAbs<2 ^ 1900)(ha:a.length<=200)(ht:t.length<=64):ED X ρ (.JoinedStr [.Constant (.str a) kd0 p0,.FormattedValue e (-1) none p1,.Constant (.str t) kd p2] p3) (.str (a++Str.ofString (toString i)++t)) 0:=by
 intro ow pins s σ H Q I ⟨E,q⟩
 have hl:i.natAbs.log2<1920:=by
  rcases Nat.eq_zero_or_pos i.natAbs with z|z
  ·rw[z];decide
  ·exact Nat.lt_of_lt_of_le ((Nat.log2_lt (Nat.ne_of_gt z)).mpr hi) (by decide)
 have tl:=int_text_len_1921 hl
 have hz:(2200:Nat)<=sizeLine:=by rw[sizeLine_eq];decide
 refine wpAny_JoinedStr ?_
 show wpAny _ _ (eval (.Constant (.str a) kd0 p0) X.env) (fun v s₁ => ∃y t',v=Value.str y t'/\(Str.empty++y).length<=sizeLine/\wpAny _ _ (eval (.FormattedValue e (-1) none p1) X.env) (fun v s₂ => ∃z t'',v=Value.str z t''/\(Str.empty++y++z).length<=sizeLine/\wpAny _ _ (eval (.Constant (.str t) kd p2) X.env) (fun v s₂ => ∃z' t'',v=Value.str z' t''/\(Str.empty++y++z++z').length<=sizeLine/\_) _ s₂) _ s₁) _ s
 refine wpAny_Constant_str ⟨_,_,rfl,?_,?_⟩
 ·rw[Str.empty_append];omega
 refine wpAny_FormattedValue_plain ?_
 refine aN (he ow pins _ σ H (fun v H'=>v=.int i/\ay H H') (I.tok _) ⟨E,fun v H' s' r=>⟨by rw[ah]at r;exact r,s'⟩⟩) fun u s1 ⟨v,H1,I1,r1,e1,s1'⟩=>?_
 subst e1
 obtain⟨tk,rfl⟩:=r1
 refine wpAny_formatField_int hl ⟨_,_,rfl,?_,?_⟩
 ·rw[Str.empty_append,Str.length_append];omega
 ·refine wpAny_Constant_str ⟨_,_,rfl,?_,?_⟩
  ·rw[Str.empty_append,Str.length_append,Str.length_append];omega
  ·refine⟨?_,.str _,H1,(I1.tok _).tok _ |>.tok _,⟨_,rfl⟩,q _ _ s1' (by rw[ah,Str.empty_append])⟩
   rw[Str.empty_append,Str.length_append,Str.length_append];omega
inductive Rz(Φ:Fx)(Ψ:Str->Option (List D->Option Xs))(Ex:Str->Option (Str×Option Str))(sc:Scope):List Stmt->af->Xs->Prop where
 | raise {e:Expr} {d:D} {k:Nat} {x p:Str} {np cpos pos:Pos} {ss:List Stmt} {ρ:af} (he:ac (aA Φ e false sc ρ) (d,k)) (hx:sc.names.lookup x=some .globalImplicit) (hd:(x==("__debug__" : Str))=false) (hp:Ex x=some (p,none)):Rz Φ Ψ Ex sc (.Raise (some (.Call (.Name x np) [e] [] cpos)) none pos::ss) ρ (x,p,[])
 | raiseR {e:Expr} {y t:Str} {k kd:Nat} {x p:Str} {np cpos pos p1 p2 p3:Pos} {ss:List Stmt} {ρ:af} (he:ac (aA Φ e false sc ρ) (.str y,k)) (hy:(reprText y).length<=1000) (ht:t.length<=64) (hx:sc.names.lookup x=some .globalImplicit) (hd:(x==("__debug__" : Str))=false) (hp:Ex x=some (p,none)):Rz Φ Ψ Ex sc (.Raise (some (.Call (.Name x np) [.JoinedStr [.FormattedValue e 114 none p1,.Constant (.str t) kd p2] p3] [] cpos)) none pos::ss) ρ (x,p,[])
 | raiseM {e:Expr} {i:Int} {a t:Str} {k kd0 kd:Nat} {x p:Str} {np cpos pos p0 p1 p2 p3:Pos} {ss:List Stmt} {ρ:af} (he:ac (aA Φ e false sc ρ) (.int i,k)) (hi:i.natAbs<2 ^ 1900) (ha:a.length<=200) (ht:t.length<=64) (hx:sc.names.lookup x=some .globalImplicit) (hd:(x==("__debug__" : Str))=false) (hp:Ex x=some (p,none)):Rz Φ Ψ Ex sc (.Raise (some (.Call (.Name x np) [.JoinedStr [.Constant (.str a) kd0 p0,.FormattedValue e (-1) none p1,.Constant (.str t) kd p2] p3] [] cpos)) none pos::ss) ρ (x,p,[])
 | raiseF {e:Expr} {i:Int} {k:Nat} {x p f:Str} {np cpos pos:Pos} {ss:List Stmt} {ρ:af} (he:ac (aA Φ e false sc ρ) (.int i,k)) (hi:i.natAbs<2 ^ 1900) (hx:sc.names.lookup x=some .globalImplicit) (hd:(x==("__debug__" : Str))=false) (hp:Ex x=some (p,some f)):Rz Φ Ψ Ex sc (.Raise (some (.Call (.Name x np) [e] [] cpos)) none pos::ss) ρ (x,p,[(f,i)])
 | exp {f:Str} {G:List D->Option Xs} {e:Expr} {es:List Expr} {p q pos:Pos} {ds:List D} {k:Nat} {ss:List Stmt} {ρ:af} {r:Xs} (ha:ac (bG Φ (e::es) sc ρ) (ds,k)) (hf:sc.names.lookup f=some .globalImplicit) (hG:Ψ f=some G) (h:G ds=some r):Rz Φ Ψ Ex sc (.Expr (.Call (.Name f p) (e::es) [] q) pos::ss) ρ r
 | asn {f:Str} {G:List D->Option Xs} {x:Str} {e:Expr} {es:List Expr} {p q pos px:Pos} {ds:List D} {k:Nat} {ss:List Stmt} {ρ:af} {r:Xs} (ha:ac (bG Φ (e::es) sc ρ) (ds,k)) (hf:sc.names.lookup f=some .globalImplicit) (hG:Ψ f=some G) (h:G ds=some r):Rz Φ Ψ Ex sc (.Assign [.Name x px] (.Call (.Name f p) (e::es) [] q) pos::ss) ρ r
 | ast {f:Str} {G:List D->Option Xs} {ts:List Expr} {n:Nat} {e:Expr} {es:List Expr} {p q pos px:Pos} {ds:List D} {k:Nat} {ss:List Stmt} {ρ:af} {r:Xs} (ha:ac (bG Φ (e::es) sc ρ) (ds,k)) (hf:sc.names.lookup f=some .globalImplicit) (hG:Ψ f=some G) (h:G ds=some r):Rz Φ Ψ Ex sc (.Assign [.Tuple ts n px] (.Call (.Name f p) (e::es) [] q) pos::ss) ρ r
 | ret {f:Str} {G:List D->Option Xs} {e:Expr} {es:List Expr} {p q pos:Pos} {ds:List D} {k:Nat} {ss:List Stmt} {ρ:af} {r:Xs} (ha:ac (bG Φ (e::es) sc ρ) (ds,k)) (hf:sc.names.lookup f=some .globalImplicit) (hG:Ψ f=some G) (h:G ds=some r):Rz Φ Ψ Ex sc (.Return (some (.Call (.Name f p) (e::es) [] q)) pos::ss) ρ r
 | iff {c:Expr} {a b ss:List Stmt} {t:Bool} {k:Nat} {pos:Pos} {ρ:af} {r:Xs} (hc:ac (aA Φ c false sc ρ) (.bl t,k)) (h:Rz Φ Ψ Ex sc (cond t a b) ρ r):Rz Φ Ψ Ex sc (.If c a b pos::ss) ρ r
 | step {s:Stmt} {ss:List Stmt} {ρ ρ':af} {r:Xs} (hs:ac (dJ Φ s sc ρ) (.nx ρ')) (h:Rz Φ Ψ Ex sc ss ρ' r):Rz Φ Ψ Ex sc (s::ss) ρ r
def G9(X:Cx)(H0:Hp)(ρ:af):TS:=fun _ σ H => ∃ow,aL X.nox ow H σ ρ/\σ.length=X.N.length/\cj H0 ow H
theorem cj.same(b:cj H0 ow H)(s:ay H H'):cj H0 ow H':=b.keep (aY.same s)
theorem fL{ss:List Stmt}(h:PS X st (G9 X H0 ρ)):eQ X (st::ss) (G9 X H0 ρ):=fun pins s σ H D I q=>fz h gG pins s σ H D I q
theorem iq{p:Str}{f:Str}{e:Expr}{fp q:Pos}{Q:Value->Shared->Prop}
  (Gd:aQ Φ X.nox sc) (GR:vq X f G) (hcn:W.nsIn X.K mainGlobals n=some (some (.ref C))) (hcp:W.nsIn X.K mainGlobals p=some (some (.ref S))) (hex:gW X.K C S)
  (ha:ac (bG Φ (e::es) sc ρ) (ds,k)) (hf:sc.names.lookup f=some .globalImplicit) (h:G ds=some (n,p,fs)) (I:aj X pins σ H s) (E:aL X.nox ow H σ ρ) (B:ay H0 H)
  (hx:∀H1 s1 e s',aj X pins σ H1 s1->fV X.prog X.w X.stack H1 s1 (KK H0 C fs) e s'->X.xe e s'):wpAny (model X.prog X.w) X.A (eval (.Call (.Name f fp) (e::es) [] q) X.env) Q X.xe s:=by
 rcases GR with GR|GR
 ·obtain⟨k',fa,fd,ps,F,hr,hm,hk,hb,hdb⟩:=GR
  obtain⟨l,ha,hp⟩:=ha
  obtain⟨hst,_⟩:=ck ha hp
  have ad:=fO (e::es) ha hp Gd
  refine Gp F hr (Gd.gl f hf) hm hk hb I hx (ad ow).nox hdb (aF (hst e List.mem_cons_self)) (bi fun x hx=>hst x (List.mem_cons_of_mem _ hx)) ⟨E,fun vs H1 s1 r1=>?_⟩
  exact⟨ds,n,p,fs,C,S,r1.imp fun _ _ _=>True.intro,h,hcn,hcp,hex,fun od H' s' fd=>⟨rfl,(B.trans s1).trans s',fd⟩⟩
 ·obtain⟨k',Cc,fa,fd,ps,hM,F,hr,hm,hns,hc,hb,hdb⟩:=GR
  obtain⟨l,ha,hp⟩:=ha
  obtain⟨hst,_⟩:=ck ha hp
  have ad:=fO (e::es) ha hp Gd
  refine Ft hM F hr (Gd.gl f hf) hm hb I hx (ad ow).nox hdb (aF (hst e List.mem_cons_self)) (bi fun x hx=>hst x (List.mem_cons_of_mem _ hx)) ⟨E,fun vs H1 s1 r1=>?_⟩
  intro x dx hx0 hd0 ne
  exact⟨.obj f [] []::ds,n,p,fs,C,S,ag.cons (by rw[ah];exact⟨rfl,rfl,x,Cc,dx,[],rfl,hns,hc,aE,ag.nil⟩) ((r1.same (gF hx0 hd0)).imp fun _ _ _=>True.intro),(if_pos rfl).trans h,hcn,hcp,hex,fun od H' s' fd=>⟨rfl,((B.trans s1).trans (gF hx0 hd0)).trans s',fd⟩⟩
def Mu(X:Cx)(C:Addr)(f:Str):Prop:=∃j fI oI fd ps,eD X.K C=some (.ref fI)/\X.K.lookup fI=some oI/\oI.cls=.type "function" /\ W.keepIn X.K (.ref C)=true/\bH X.prog X.w X.K X.mg X.base dF j fI fd ps (tj C f)/\bL (j+1) X.A/\bY X.K fd ps []
theorem Lr{p:Str}(Gd:aQ Φ X.nox sc)(GR:∀f G,Ψ f=some G->vq X f G)(hcn:W.nsIn X.K mainGlobals n=some (some (.ref C)))(hcp:W.nsIn X.K mainGlobals p=some (some (.ref S)))(hex:gW X.K C S)(hmn:X.mg n=some (.ref C))(hin:∀p',Ex n=some (p',none)->eD X.K C=none)(hif:∀p' f,Ex n=some (p',some f)->Mu X C f)
  (hr:fs=[]->∀pins σ H s h' a us,aj X pins σ H s->ay H0 H->s.heap.MadeExcOf h' a (.ref C) us->X.xe (.ref a) { s with heap:=h' })
  (hr2:∀f i,fs=[(f,i)]->∀pins σ H1 s1 z dx o vv a0,ay H0 H1->aj X pins σ (aG H1 dx (.xd [(f,.int i)])) s1->H1 dx=none->s1.heap.get? z=some o->o.cls=.ref C->o.dict=some dx->o.data=.fields vv->1<vv.size->vv[0]?=some a0->vv[1]?=some .none->(aG H1 dx (.xd [(f,.int i)])) z=none->X.s₀.heap.get? z=none->X.xe (.ref z) s1)
  (hx:∀pins σ H1 s1 e s',aj X pins σ H1 s1->fV X.prog X.w X.stack H1 s1 (KK H0 C fs) e s'->X.xe e s'):∀{ss:List Stmt} {ρ:af} {r:Xs},Rz Φ Ψ Ex sc ss ρ r->r=(n,p,fs)->eQ X ss (G9 X H0 ρ):=by
 intro ss ρ r h
 induction h with
 | raise he hl hd hp =>
  rename_i e d k x p' np cpos pos ss ρ
  intro er
  cases er
  refine fL fun pins s σ H D I ⟨ow,E,hl',B⟩=>?_
  have ed:=(bI he Gd).ed rfl
  obtain⟨l,he',_⟩:=id he
  have ns:=ic he'
  have ad:AD X.nox ρ [e] [d] (kj k 0):=dN ed iP (aF ns)
  refine og I Gd.calm (Gd.gl _ hl) hmn hex (hin _ hp) hd (ad ow).nox (bi fun y hy=>by rw[List.mem_singleton.mp hy];exact ns) (aF ns) ⟨E,fun vs H1 s1 r1=>⟨?_,fun s2 h' a us I2 m=>hr rfl pins σ H1 s2 h' a us I2 (B.sm.trans s1) m⟩⟩
  rw[<- r1.length]
  exact Nat.le_trans (show 1<=bA by decide) dX
 | raiseR he hy ht hl hd hp =>
  rename_i e y t k kd x p' np cpos pos p1 p2 p3 ss ρ
  intro er
  cases er
  refine fL fun pins s σ H D I ⟨ow,E,hl',B⟩=>?_
  have ed:=HS (p1:=p1) (p2:=p2) (p3:=p3) (kd:=kd) ((bI he Gd).ed rfl) hy ht
  have ns:∀(z:Expr) (p:Pos),Expr.JoinedStr [.FormattedValue e 114 none p1,.Constant (.str t) kd p2] p3 ≠ .Starred z p:=fun z p h=>by cases h
  have ad:AD X.nox ρ [Expr.JoinedStr [.FormattedValue e 114 none p1,.Constant (.str t) kd p2] p3] [.str (reprText y++t)] (kj 0 0):=dN ed iP (aF ns)
  refine og I Gd.calm (Gd.gl _ hl) hmn hex (hin _ hp) hd (ad ow).nox (bi fun y hy=>by rw[List.mem_singleton.mp hy];exact ns) (aF ns) ⟨E,fun vs H1 s1 r1=>⟨?_,fun s2 h' a us I2 m=>hr rfl pins σ H1 s2 h' a us I2 (B.sm.trans s1) m⟩⟩
  rw[<- r1.length]
  exact Nat.le_trans (show 1<=bA by decide) dX
 | raiseM he hi ha ht hl hd hp =>
  rename_i e i a t k kd0 kd x p' np cpos pos p0 p1 p2 p3 ss ρ
  intro er
  cases er
  refine fL fun pins s σ H D I ⟨ow,E,hl',B⟩=>?_
  have ed:=HU (p0:=p0) (p1:=p1) (p2:=p2) (p3:=p3) (kd0:=kd0) (kd:=kd) ((bI he Gd).ed rfl) hi ha ht
  have ns:∀(z:Expr) (p:Pos),Expr.JoinedStr [.Constant (.str a) kd0 p0,.FormattedValue e (-1) none p1,.Constant (.str t) kd p2] p3 ≠ .Starred z p:=fun z p h=>by cases h
  have ad:AD X.nox ρ [Expr.JoinedStr [.Constant (.str a) kd0 p0,.FormattedValue e (-1) none p1,.Constant (.str t) kd p2] p3] [.str (a++Str.ofString (toString i)++t)] (kj 0 0):=dN ed iP (aF ns)
  refine og I Gd.calm (Gd.gl _ hl) hmn hex (hin _ hp) hd (ad ow).nox (bi fun y hy=>by rw[List.mem_singleton.mp hy];exact ns) (aF ns) ⟨E,fun vs H1 s1 r1=>⟨?_,fun s2 h' a us I2 m=>hr rfl pins σ H1 s2 h' a us I2 (B.sm.trans s1) m⟩⟩
  rw[<- r1.length]
  exact Nat.le_trans (show 1<=bA by decide) dX
 | raiseF he hi hl hd hp =>
  rename_i e i k x p' f np cpos pos ss ρ
  intro er
  cases er
  refine fL fun pins s σ H D I ⟨ow,E,hl',B⟩=>?_
  have ed:=(bI he Gd).ed rfl
  obtain⟨l,he',_⟩:=id he
  have ns:=ic he'
  have ad:AD X.nox ρ [e] [.int i] (kj k 0):=dN ed iP (aF ns)
  obtain⟨j,fI,oI,fd,ps,q1,q2,q3,q4,q5,q6,q7⟩:=hif _ _ hp
  refine zj I Gd.calm (Gd.gl _ hl) hmn hex q1 q2 q3 q4 q5 q6 q7 hd (ad ow).nox (aF ns) ⟨E,fun vs H1 s1 r1=>?_⟩
  obtain⟨v,rfl,rv⟩:=r1.only
  rw[ah]at rv
  subst rv
  exact⟨i,rfl,hi,fun s2 z dx o vv a0 I2 w1 w2 w3 w4 w5 w6 w7 w8 w9 w10=>hr2 f i rfl pins σ H1 s2 z dx o vv a0 (B.sm.trans s1) I2 w1 w2 w3 w4 w5 w6 w7 w8 w9 w10⟩
 | exp ha hf hG h =>
  intro er
  subst er
  refine fL fun pins s σ H D I ⟨ow,E,hl',B⟩=>?_
  exact wpAny_Expr_any (iq Gd (GR _ _ hG) hcn hcp hex ha hf h I E B.sm (hx pins σ)) I.quiet rfl
 | asn ha hf hG h =>
  intro er
  subst er
  refine fL fun pins s σ H D I ⟨ow,E,hl',B⟩=>?_
  exact wpAny_Assign_Name (iq Gd (GR _ _ hG) hcn hcp hex ha hf h I E B.sm (hx pins σ)) (fi rfl)
 | ast ha hf hG h =>
  intro er
  subst er
  refine fL fun pins s σ H D I ⟨ow,E,hl',B⟩=>?_
  exact wpAny_Assign_stores (iq Gd (GR _ _ hG) hcn hcp hex ha hf h I E B.sm (hx pins σ)) gE rfl
 | ret ha hf hG h =>
  intro er
  subst er
  refine fL fun pins s σ H D I ⟨ow,E,hl',B⟩=>?_
  exact wpAny_Return_some (iq Gd (GR _ _ hG) hcn hcp hex ha hf h I E B.sm (hx pins σ))
 | iff hc h ih =>
  rename_i c a b ss t k pos ρ r
  intro er
  refine fL fun pins s σ H D I ⟨ow,E,hl',B⟩=>?_
  have td:=((bI hc Gd).td rfl t rfl ow).nox
  refine wpAny_If (aN (td pins s σ H (fun b H'=>b=t/\ay H H') I ⟨E,fun H' sm=>⟨rfl,sm⟩⟩) fun d s1 ⟨H1,I1,e,sm⟩=>?_)
  subst e
  cases d with
  | true=>exact ih er pins s1 σ H1 _ I1 ⟨ow,E.same sm,hl',B.same sm⟩
  | false=>exact ih er pins s1 σ H1 _ I1 ⟨ow,E.same sm,hl',B.same sm⟩
 | step hs h ih =>
  rename_i st ss ρ ρ' r
  intro er
  have sd:=((jH Φ _).s st (H0:=H0) (Nat.lt_succ_self _) hs Gd PassesOwn.never)
  intro pins s σ H D I ⟨ow,E,hl',B⟩
  exact fz (L2.PS.nox sd) (ih er) pins s σ H D I ⟨ow,E,hl',B,fun ow' σ' H' E' hl2 k=>⟨ow',E',hl2,B.keep k⟩⟩
def SE(P:Program)(w:World)(K:W.Frag)(mg:Str->Option Value)(base:Heap)(k:Nat)(g:Str)(G:List D->Option Xs):Prop:=∃f fd ps,bH P w K mg base (fV P w) k f fd ps (zg K G)/\mg g=some (.ref f)/\W.keepIn K (.ref f)=true/\bY K fd ps []/\(g==("__debug__" : Str))=false
def S7(P:Program)(w:World)(K:W.Frag)(mg:Str->Option Value)(base:Heap)(k:Nat)(g:Str)(G:List D->Option Xs):Prop:=∃j C f fd ps,j+1<=k/\Mk K C f/\bH P w K mg base (fV P w) j f fd ps (zg K (Hh g G))/\mg g=some (.ref C)/\W.nsIn K mainGlobals g=some (some (.ref C))/\fW K C/\bY K fd ps []/\(g==("__debug__" : Str))=false
def iV(P:Program)(w:World)(K:W.Frag)(mg:Str->Option Value)(base:Heap)(k:Nat)(g:Str)(G:List D->Option Xs):Prop:=SE P w K mg base k g G\/S7 P w K mg base k g G
theorem iV.mono{j:Nat}(h:iV P w K mg base j g G)(hjk:j<=k):iV P w K mg base k g G:=by
 rcases h with⟨f,fd,ps,h1,h2⟩|⟨i,C,f,fd,ps,h0,h1⟩
 ·exact .inl ⟨f,fd,ps,h1.mono hjk,h2⟩
 ·exact .inr ⟨i,C,f,fd,ps,Nat.le_trans h0 hjk,h1⟩
theorem iV.at(h:iV X.prog X.w X.K X.mg X.base k g G)(hr:bL k X.A):vq X g G:=by
 rcases h with⟨f',fd',ps',a1,a2,a3,a4,a5⟩|⟨j,C',f',fd',ps',a0,a1,a2,a3,a4,a5,a6,a7⟩
 ·exact .inl ⟨k,f',fd',ps',a1,hr,a2,a3,a4,a5⟩
 ·exact .inr ⟨j,C',f',fd',ps',a1,a2,hr.mono a0,a3,a4,a5,a6,a7⟩
def KJ(P:Program)(w:World)(K:W.Frag)(mg:Str->Option Value)(base:Heap)(k:Nat)(Ex:Str->Option (Str×Option Str)):Prop:=∀c C,W.nsIn K mainGlobals c=some (some (.ref C))->(∀p,Ex c=some (p,none)->eD K C=none) /\
 ∀p f,Ex c=some (p,some f)->∃j fI oI fd ps,j+1<=k/\eD K C=some (.ref fI)/\K.lookup fI=some oI/\oI.cls=.type "function" /\ W.keepIn K (.ref C)=true/\bH P w K mg base dF j fI fd ps (tj C f)/\bY K fd ps []
theorem jJ{g:Str}{G:List D->Option Xs}(Fn:jQ K g qual st f fd)
  (S:aM (az (aa st)) ps (aa st)) (hΦ:sh P w K mg base k Φ) (hΨ:∀g G,Ψ g=some G->iV P w K mg base k g G) (hmg:∀n C,W.nsIn K mainGlobals n=some (some (.ref C))->mg n=some (.ref C)) (hEI:KJ P w K mg base k Ex)
  (hrun:∀ds r,G ds=some r->ds.length=ps.length/\Rz Φ Ψ Ex (aa st) (ak st) (cD ps ds) r):bH P w K mg base (fV P w) (k+1) f fd ps (zg K G):=by
 obtain⟨oc,od,kV,doc,pm,an,cdv,ct,osl,rfl,lk,hcd⟩:=Fn.ex
 refine DU lk hcd S (fun vs H Q E h=>?_) fun A outer s H vs Q E hr hsp=>?_
 ·obtain⟨ds,n,p,fs,C,S',h1,h2,_⟩:=h
  rw[<- h1.length];exact(hrun ds _ h2).1
 ·obtain⟨ds,n,p,fs,C,S',h1,h2,h3,h4,h5,h6⟩:=hsp
  obtain⟨hl,hz⟩:=hrun ds _ h2
  have Gd:=jI (outer:=outer) (H:=H) (E:=E) S hΦ hr
  obtain⟨E0,hsl⟩:=lZ (P:=P) (w:=w) (mg:=mg) (base:=base) (qual:=qual) (f:=f) (cdv:=cdv) (A:=A) (outer:=outer) (s:=s) (E:=E) S h1 hl
  have B0:cj H (fun _=>none) H:=fun a o h=>⟨h,rfl⟩
  refine⟨_,Lr (X:=g7 (fV P w) P w K mg base (az (aa st)) qual (aa st) f cdv A outer s H E) (H0:=H) (C:=C) (S:=S') Gd (fun g' G' hG=>?_) h3 h4 h5 (hmg n C h3) (hEI n C h3).1 (fun p' f' hp'=>?_) (fun hfs pins σ H1 s1 h' a us I sm m=>?_) (fun f' i' hfs pins σ H1 s1 z dx o vv a0 sm I w1 w2 w3 w4 w5 w6 w7 w8 w9 w10=>?_) (fun pins σ H1 s1 e s' I c=>?_) hz rfl,fun _=>none,E0,hsl,B0⟩
  ·exact(hΨ g' G' hG).at hr
  ·obtain⟨j,fI,oI,fd',ps',q0,q1,q2,q3,q4,q5,q6⟩:=(hEI n C h3).2 p' f' hp'
   exact⟨j,fI,oI,fd',ps',q1,q2,q3,q4,q5,hr.mono q0,q6⟩
  ·subst hfs
   exact vC I rfl rfl m (h6 none H1 sm uD.nil)
  ·subst hfs
   exact lT I rfl rfl w2 w3 w4 w5 w6 w7 w8 w10 w9 (h6 _ _ (sm.trans (cw w1)) (fun f i z=>by cases z;exact⟨dx,rfl,aE⟩))
  ·refine xX I rfl rfl ?_
   obtain⟨x,C',T,od,H',rfl,z1,z2,z3,z4,z5,z6,z7,z8,z9,⟨e1,e2,e3⟩⟩:=c
   cases e1
   exact⟨x,C,T,od,H',rfl,z1,z2,z3,z4,z5,z6,z7,z8,z9,h6 od H' e2 e3⟩
def uE(ρ:af)(n y c B:Str)(fs:List (Str×Int)):af:=fun z=>if z=n then none else if z=y then some (.xc c (some (B,fs)),true)else ρ z
inductive Rt(Φ:Fx)(Ψ:Str->Option (List D->Option Xs))(sc:Scope):List Stmt->af->Xs->Prop where
 | exp {f:Str} {G:List D->Option Xs} {e:Expr} {es:List Expr} {p q pos:Pos} {ds:List D} {k:Nat} {ρ:af} {r:Xs} (ha:ac (bG Φ (e::es) sc ρ) (ds,k)) (hf:sc.names.lookup f=some .globalImplicit) (hG:Ψ f=some G) (h:G ds=some r):Rt Φ Ψ sc [.Expr (.Call (.Name f p) (e::es) [] q) pos] ρ r
 | asn {f:Str} {G:List D->Option Xs} {x:Str} {e:Expr} {es:List Expr} {p q pos px:Pos} {ds:List D} {k:Nat} {ρ:af} {r:Xs} (ha:ac (bG Φ (e::es) sc ρ) (ds,k)) (hf:sc.names.lookup f=some .globalImplicit) (hG:Ψ f=some G) (h:G ds=some r):Rt Φ Ψ sc [.Assign [.Name x px] (.Call (.Name f p) (e::es) [] q) pos] ρ r
 | iff {c:Expr} {a b:List Stmt} {t:Bool} {k:Nat} {pos:Pos} {ρ:af} {r:Xs} (hc:ac (aA Φ c false sc ρ) (.bl t,k)) (h:Rt Φ Ψ sc (cond t a b) ρ r):Rt Φ Ψ sc [.If c a b pos] ρ r
theorem k7{M:Model}{A:Around}{E:Value->Shared->Prop}{env:Env}(h:wpAny M A (exec st env) Q E s):wpAny M A (execs [st] env) Q E s :=
 wpAny_execs_cons (aN h fun f s1 q=>by
  cases f with
  | next=>exact wpAny_execs_nil q
  | ret v=>exact q
  | brk=>exact q
  | cont=>exact q)
theorem Lu{p:Str}(Gd:aQ Φ X.nox sc)(GR:∀f G,Ψ f=some G->vq X f G)(hcn:W.nsIn X.K mainGlobals n=some (some (.ref C)))(hcp:W.nsIn X.K mainGlobals p=some (some (.ref S)))(hex:gW X.K C S)
  (hx:∀H1 s1 e s',aj X pins σ H1 s1->fV X.prog X.w X.stack H1 s1 (KK H0 C fs) e s'->X.xe e s'):∀{ss:List Stmt} {ρ:af} {r:Xs},Rt Φ Ψ sc ss ρ r->r=(n,p,fs)->∀{s:Shared} {H:Hp},aj X pins σ H s->aL X.nox ow H σ ρ->ay H0 H->wpAny (model X.prog X.w) X.A (execs ss X.env) Q X.xe s:=by
 intro ss ρ r h
 induction h with
 | exp ha hf hG h =>
  intro er s H I E B
  subst er
  exact k7 (wpAny_Expr_any (iq Gd (GR _ _ hG) hcn hcp hex ha hf h I E B hx) I.quiet rfl)
 | asn ha hf hG h =>
  intro er s H I E B
  subst er
  exact k7 (wpAny_Assign_Name (iq Gd (GR _ _ hG) hcn hcp hex ha hf h I E B hx) (fi rfl))
 | iff hc h ih =>
  rename_i c a b t k pos ρ r
  intro er s H I E B
  have td:=((bI hc Gd).td rfl t rfl ow).nox
  refine k7 (wpAny_If (aN (td pins s σ H (fun b H'=>b=t/\ay H H') I ⟨E,fun H' sm=>⟨rfl,sm⟩⟩) fun d s1 ⟨H1,I1,e,sm⟩=>?_))
  subst e
  cases d with
  | true=>exact ih er I1 (E.same sm) (B.trans sm)
  | false=>exact ih er I1 (E.same sm) (B.trans sm)
theorem F5{x:Addr}{od:Option Addr}{ie iy:Nat}(E:aL X ow H σ ρ)(sm:ay H H')(nx:H' x=none)(hie:X.N[ie]?=some n)(hiy:X.N[iy]?=some y)(hv:iS X.env.scope y)(hne:iy≠ie)(hl:iy<σ.length)
  (hcn:W.nsIn X.K mainGlobals c=some (some (.ref C))) (hcp:W.nsIn X.K mainGlobals B=some (some (.ref S))) (hex:gW X.K C S) (hfd:uD H' od fs) (hfo:∀f i,fs=[(f,i)]->vt X.K C f) :
  aL X ow (aG H' x (kM x C od)) (((σ.set ie (some (.ref x))).set iy (some (.ref x))).set ie none) (uE ρ n y c B fs):=by
 have sm':ay H (aG H' x (kM x C od)):=sm.trans fun a o h=>by rw[ax (aV h nx)];exact h
 refine⟨fun z d o h=>?_,(E.same sm').own⟩
 unfold uE at h
 by_cases hz:z=n
 ·rw[if_pos hz]at h;cases h
 ·rw[if_neg hz]at h
  by_cases hy:z=y
  ·rw[if_pos hy]at h
   cases h
   refine⟨iy,.ref x,by rw[hiy,hy],by rw[hy];exact hv,?_,?_⟩
   ·rw[List.getElem?_set_ne (Ne.symm hne),List.getElem?_set_self (by rw[List.length_set];exact hl)]
   ·rw[ah]
    refine⟨x,C,S,od,rfl,hcn,hcp,hex,aE,fun f i z=>?_,hfo⟩
    obtain⟨dx,e1,e2⟩:=hfd f i z
    exact⟨dx,e1,by rw[ax (aV e2 nx)];exact e2⟩
  ·rw[if_neg hy]at h
   obtain⟨i,v,e1,e2,e3,e4⟩:=(E.same sm').get z d o h
   have n1:i≠ie:=fun q=>hz (by rw[q,hie]at e1;exact(Option.some.inj e1).symm)
   have n2:i≠iy:=fun q=>hy (by rw[q,hiy]at e1;exact(Option.some.inj e1).symm)
   exact⟨i,v,e1,e2,by rw[List.getElem?_set_ne (Ne.symm n1),List.getElem?_set_ne (Ne.symm n2),List.getElem?_set_ne (Ne.symm n1)];exact e3,e4⟩
theorem Hk(Gd:aQ Φ Y.nox sc)(GR:∀f G,Ψ f=some G->vq Y.nox f G)(hst:Y.stack=Y.env::Y.outer)
  (hcn:W.nsIn Y.K mainGlobals c=some (some (.ref C))) (hcp:W.nsIn Y.K mainGlobals B=some (some (.ref S))) (hex:gW Y.K C S) (hexm:W.exmOne Y.K (.ref C) (.ref S)=some true) (hmB:Y.mg B=some (.ref S))
  (hB:sc.names.lookup B=some .globalImplicit) (hdb:(B==("__debug__" : Str))=false) (hn:sc.names.lookup n=some .local) (hy:sc.names.lookup y=some .local) (hny:n≠y) (hd1:(n==("__debug__" : Str))=false) (hd2:(n==("__classdict__" : Str))=false)
  (hfo:∀f i,fs=[(f,i)]->vt Y.K C f) (h:Rt Φ Ψ sc tb ρ (c,B,fs)):SD Y.nox H0 ρ (.Try tb [.ExceptHandler (some (.Name B bp)) (some n) [.Assign [.Name y p1] (.Name n p2) p3] hpos] [] [] tpos) (.nx (uE ρ n y c B fs)):=by
 intro pins s σ H D I ⟨ow,E,hl,B0,q⟩
 have lk:∀z,sc.names.lookup z=some .local->∃i,Y.N[i]?=some z:=fun z hz=>by
  have:=Gd.ns z (by unfold cY;rw[hz];rfl)
  obtain⟨i,hi,e⟩:=List.getElem_of_mem this
  exact⟨i,by rw[List.getElem?_eq_getElem hi];exact congrArg some e⟩
 obtain⟨ie,hie⟩:=lk n hn
 obtain⟨iy,hiy⟩:=lk y hy
 have hne:iy≠ie:=fun z=>hny (by rw[z,hie]at hiy;exact Option.some.inj hiy)
 refine wpAny_Try_except ?_
 refine Lu (X:=Y.nox.wish fun e s₁=>wpAny (model Y.prog Y.w) Y.A (noteFrame e Y.env) (fun _ s₂=>wpAny (model Y.prog Y.w) Y.A (setFlight e none) (fun _ s₃=>wpAny (model Y.prog Y.w) Y.A (handleBy e Y.env [.ExceptHandler (some (.Name B bp)) (some n) [.Assign [.Name y p1] (.Name n p2) p3] hpos]) (SP Y.nox pins D) Y.nox.xe s₃) Y.nox.xe s₂) Y.nox.xe s₁) (H0:=H) (n:=c) (p:=B) Gd GR hcn hcp hex (fun H1 s1 e s' I1 c1=>?_) h rfl (I.wish _) E (ay.refl _)
 refine Kf (X:=Y.nox) (ie:=ie) (iy:=iy) (C0:=S) I1.unwish hst Gd.nd c1 (Gd.gl B hB) hmB hdb hie (Gd.lc n hn) hiy (Gd.lc y hy) hne hd1 hd2 fun C' od H' ⟨e1,sm,hfd⟩=>?_
 cases e1
 refine⟨hexm,fun x nx=>?_⟩
 have hl2:iy<σ.length:=by rw[hl];exact(List.getElem?_eq_some_iff.mp hiy).1
 refine q ow _ _ (F5 (X:=Y.nox) E sm nx hie hiy (.inl (Gd.lc y hy)) hne hl2 hcn hcp hex hfd hfo) (by simpa using hl) (aY.same (sm.trans fun a o h=>by rw[ax (aV h nx)];exact h))
theorem Ez{hd:ExceptHandler}{ρ2:af}(Gd:aQ Φ Y.nox sc)(h:ac (aC Φ tb sc ρ) (.nx ρ2)):SD Y.nox H0 ρ (.Try tb [hd] [] [] tpos) (.nx ρ2):=by
 intro pins s σ H D I hq
 refine wpAny_Try_except ?_
 refine wpAny_mono (jK tb (H0:=H0) h Gd PassesOwn.never pins s σ H D I hq) (fun f s1 q=>?_) (fun _ _ z=>z.elim)
 cases f with
 | next=>exact wpAny_execs_nil q
 | ret v=>exact q
 | brk=>exact q
 | cont=>exact q
def ve(Φ:Fx)(Ψ:Str->Option (List D->Option Xs))(Ex:Str->Option (Str×Option Str))(sc:Scope)(ps:List Str)(pre tb post:List Stmt)(B n y:Str)(ds:List D)(r:D):Prop :=
 ds.length=ps.length/\∃ρ1,ac (aC Φ pre sc (cD ps ds)) (.nx ρ1)/\((∃ρ2,ac (aC Φ tb sc ρ1) (.nx ρ2)/\ac (aC Φ post sc ρ2) (.rt r))\/∃c o fs,Ex c=some (B,o)/\(∀f i,fs=[(f,i)]->o=some f)/\Rt Φ Ψ sc tb ρ1 (c,B,fs)/\ac (aC Φ post sc (uE ρ1 n y c B fs)) (.rt r))
def C3(K:W.Frag)(Ex:Str->Option (Str×Option Str)):Prop:=∀c p o,Ex c=some (p,o)->∃C S,W.nsIn K mainGlobals c=some (some (.ref C))/\W.nsIn K mainGlobals p=some (some (.ref S))/\gW K C S/\W.exmOne K (.ref C) (.ref S)=some true/\∀f,o=some f->vt K C f
theorem IY{g:Str}{F:List D->Rs D}{n:Str}(Fn:jQ K g qual st f fd)
  (S:aM (az (aa st)) ps (aa st)) (hΦ:sh P w K mg base k Φ) (hΨ:∀g G,Ψ g=some G->iV P w K mg base k g G) (hmg:∀n C,W.nsIn K mainGlobals n=some (some (.ref C))->mg n=some (.ref C)) (hEx:C3 K Ex)
  (hb:ak st=pre ++ .Try tb [.ExceptHandler (some (.Name B bp)) (some n) [.Assign [.Name y p1] (.Name n p2) p3] hpos] [] [] tpos::post)
  (hB:(aa st).names.lookup B=some .globalImplicit) (hdb:(B==("__debug__" : Str))=false) (hn:(aa st).names.lookup n=some .local) (hy:(aa st).names.lookup y=some .local) (hny:n≠y) (hd1:(n==("__debug__" : Str))=false) (hd2:(n==("__classdict__" : Str))=false)
  (hrun:∀ds r,ac (F ds) r->ve Φ Ψ Ex (aa st) ps pre tb post B n y ds r):bH P w K mg base dF (k+1) f fd ps (jw K F):=by
 refine Fn.ok S (fun vs H Q E h=>?_) (fun cdv A outer s H vs Q E hr h=>?_)
 ·obtain⟨ds,r,l,h1,h2,hp,_⟩:=h
  rw[<- h1.length];exact(hrun ds r ⟨l,h2,hp⟩).1
 ·obtain⟨ds,r,l,h1,h2,hp,qq⟩:=h
  obtain⟨hl,ρ1,h3,h4⟩:=hrun ds r ⟨l,h2,hp⟩
  have G:=jI (outer:=outer) (H:=H) (E:=E) S hΦ hr
  obtain⟨E0,hsl⟩:=lZ (P:=P) (w:=w) (mg:=mg) (base:=base) (qual:=qual) (f:=f) (cdv:=cdv) (A:=A) (outer:=outer) (s:=s) (E:=E) S h1 hl
  have B0:cj H (fun _=>none) H:=fun a o h=>⟨h,rfl⟩
  have key:fo (g7 dF P w K mg base (az (aa st)) qual (aa st) f cdv A outer s H E).nox H ρ1 (.Try tb [.ExceptHandler (some (.Name B bp)) (some n) [.Assign [.Name y p1] (.Name n p2) p3] hpos] [] [] tpos::post) (.rt r):=by
   rcases h4 with⟨ρ2,h5,h6⟩|⟨c,o,fs,hc,hco,h5,h6⟩
   ·exact iz (Ez G h5) (jK post (H0:=H) h6 G PassesOwn.never)
   ·obtain⟨C,S',c1,c2,c3,c4,c5⟩:=hEx c B o hc
    refine iz (Hk (Y:=g7 dF P w K mg base (az (aa st)) qual (aa st) f cdv A outer s H E) (Ψ:=Ψ) G (fun g' G' hG=>?_) rfl c1 c2 c3 c4 (hmg B S' c2) hB hdb hn hy hny hd1 hd2 (fun f i z=>c5 f (hco f i z)) h5) (jK post (H0:=H) h6 G PassesOwn.never)
    exact(hΨ g' G' hG).at hr
  rw[hb]
  exact⟨_,v7 (H0:=H) G PassesOwn.never key h3,fun _=>none,E0,hsl,B0,fun ow' σ' H' E' hl' B'=>⟨ow',E',hl',B',fun v H2 s2 r2=>qq v H2 s2 r2⟩⟩
def qB(n p:Str):List D->Option Bool
 | []=>some false
 | .xc m none::l=>(qB n p l).map fun b=>(decide (m=n) || decide (m=p)) || b
 | _=>none
def Mw(n p:Str):D->Option Bool
 | .xc m none=>some (decide (m=n) || decide (m=p))
 | .typ T=>if T = "ValueError" then some true else none
 | .tup cs=>qB n p cs
 | _=>none
def CI(ds:List D):R1 :=
 match ds with
 | [.xc n (some (p,_)),c]=>(match Mw n p c with|some b=>.ok (.bl b,0) []|none=>.st)
 | ds=>CJ ds
theorem DM{K:W.Frag}{H:Hp}{P:be}{n p:Str}{C S:Addr}(hn:W.nsIn K mainGlobals n=some (some (.ref C)))(hp:W.nsIn K mainGlobals p=some (some (.ref S)))(e:gW K C S):∀{cs:List D} {vs:List V} {us:List Value} {b:Bool},qB n p cs=some b->ag K H P cs vs->aK vs us->W.kitAny K (.ref C) us=some b
 | [],vs,us,b,h,r,q=>by
  rw[qB]at h;cases h
  rw[ag]at r;subst r;cases q;rfl
 | .xc m none::l,vs,us,b,h,r,q=>by
  rw[qB]at h
  cases hl:qB n p l with
  | none=>rw[hl]at h;cases h
  | some b' =>
   rw[hl]at h;cases h
   rw[ag]at r
   obtain⟨v,vr,rfl,r1,r2⟩:=r
   rw[ah]at r1
   obtain⟨Cm,rfl,hm,hx⟩:=r1
   cases q with
   | cons q1 q2 =>
    cases q1
    have k1:=zZ e hn hp hm hx
    have k2:=DM hn hp e hl r2 q2
    show(match W.kitOne K (.ref C) (.ref Cm)with|some true=>some true|some false=>W.kitAny K (.ref C) _|none=>none)=_
    rw[k1]
    cases hd:(decide (m=n) || decide (m=p))with
    | true=>rfl
    | false=>exact k2
theorem Gw:fb "isinstance" CI:=by
 refine⟨by decide +kernel,by decide +kernel,by decide +kernel,rfl,fun X ds z l o hc h hp=>?_⟩
 unfold CI at h
 split at h
 ·rename_i n p fs c
  split at h
  ·rename_i b hb
   cases h
   refine .inl ⟨"isinstance", by decide +kernel,?_⟩
   have cr:d7 X (.builtin "isinstance") (fun xs H Q => ∃v w P,xs=[v,w]/\ah X.K H P (.xc n (some (p,fs))) v/\ah X.K H P c w/\Q (.bl b) H):=by
    intro pins s σ H xs us Q I r hh
    obtain⟨v,w,P,rfl,r1,r2,q⟩:=hh
    obtain⟨u,u2,rfl,ru,ru2⟩:=mP r
    rw[ah]at r1
    obtain⟨x,C,S,od,rfl,h1,h2,h3,h4,_,_⟩:=r1
    cases ru
    have xo:Ks x C s.heap:=let ⟨o,_,a,b,_⟩:=(show bw X.prog X.w H s.heap x (kM x C od)from I.hok x _ h4).1;⟨o,a,b⟩
    unfold Mw at hb
    split at hb
    ·rename_i m
     cases hb
     rw[ah]at r2
     obtain⟨Cm,rfl,hm,hx⟩:=r2
     cases ru2
     exact W.kia_one (oA h3) I.kIn xo (zZ h3 h1 h2 hm hx) (fun z=>nomatch z) fun tk=>⟨.bl _,H,I.tok tk,rfl,q⟩
    ·rename_i T
     split at hb
     ·rename_i hT
      subst hT
      cases hb
      rw[ah]at r2
      subst r2
      cases ru2
      exact W.kia_one (oA h3) I.kIn xo (IC h3) (fun z=>nomatch z) fun tk=>⟨.bl _,H,I.tok tk,rfl,q⟩
     ·cases hb
    ·rename_i cs
     rw[ah]at r2
     obtain⟨a,vs,rfl,sq,rl⟩:=r2
     cases ru2
     obtain⟨its,rv,⟨⟨c0,dd,data,sl⟩,e1,e2,n0,e3⟩,_⟩:=I.tuple sq
     simp only at e2 e3
     subst e2 e3
     exact W.kia_tup (oA h3) I.kIn xo e1 (DM h1 h2 h3 hb rl rv) (fun z=>nomatch z) fun tk=>⟨.bl _,H,I.tok tk,rfl,q⟩
    ·cases hb
   refine⟨_,cr,fun ow H0 H2 vs P Q o s rx q=>?_⟩
   rw[ag]at rx
   obtain⟨v,r,rfl,r1,r2⟩:=rx
   obtain⟨w,rfl,r3⟩:=r2.only
   exact⟨v,w,P,rfl,r1,r3,q _ _ (ay.refl _) (by rw[ah])⟩
  ·cases h
 ·exact Gx.2.2.2.2 X _ z l o hc h hp
theorem uQ(hm:mg x=some (.ref C))(hn:W.nsIn K mainGlobals x=some (some (.ref C)))(hx:D5 K x C):eS mg K (x,.xc x none) :=
 ⟨.ref C,.ref C,hm,rfl,fun H P=>by rw[ah];exact⟨C,rfl,hn,hx⟩⟩
def ph(K:W.Frag)(n:Str)(C:Addr):Bool :=
 match K.lookup mainGlobals with
 | some ⟨_,_,.dict es _,_⟩=>es.toList.all fun e => !(e.val == .ref C) || (match e.key with | .str m _=>decide (m=n)|_=>false)
 | _=>false
def uS(K:W.Frag)(C:Addr):Bool :=
 match K.lookup C with
 | some ⟨.type t,_,.cls _,_⟩=>t == "type"
 | _=>false
theorem sO(h1:ph K n C=true)(h2:uS K C=true):D5 K n C:=by
 unfold uS at h2
 split at h2
 ·rename_i t d cd sl e
  have et:t = "type" := by simpa using h2
  subst et
  refine⟨?_,fun m hm=>?_,⟨_,e,rfl⟩⟩
  ·have c1:W.clsIn K C=some cd:=by unfold W.clsIn;rw[e]
   have c2:W.typeIn K (.ref C)=some (.type "type"):=by
    show Option.map (fun x=>x.cls) (List.lookup C K)=_
    rw[e];rfl
   rw[c1,c2];rfl
  ·unfold ph at h1
   unfold W.nsIn at hm
   split at h1
   ·rename_i a1 a2 es a3 a4 e1
    rw[e1]at hm
    dsimp only at hm
    split at hm
    ·rename_i x hf
     have hv:x.val=.ref C:=Option.some.inj (Option.some.inj hm)
     have hx:=List.mem_of_find?_eq_some hf
     have hk:x.key.isStr m=true:=List.find?_some (p:=fun x:DictEntry=>x.key.isStr m) hf
     have:=List.all_eq_true.mp h1 x hx
     rw[hv,show((Value.ref C==Value.ref C):Bool)=true by simp,Bool.not_true,Bool.false_or]at this
     cases hkk:x.key with
     | str k t =>
      rw[hkk]at this hk
      have a1:k=n:=of_decide_eq_true this
      have a2:k=m:=by simpa [Value.isStr]using hk
      rw[<- a2,a1]
     | _=>rw[hkk]at this;cases this
    ·split at hm<;>cases hm
   ·cases h1
 ·cases h2
abbrev AZ(K:W.Frag):Str×Str×Option Str->Prop:=fun q => ∃C S,W.nsIn K mainGlobals q.1=some (some (.ref C))/\W.nsIn K mainGlobals q.2.1=some (some (.ref S))/\gW K C S/\W.exmOne K (.ref C) (.ref S)=some true/\∀f,q.2.2=some f->vt K C f
theorem FZ{l:List (Str×Str×Option Str)}(h:∀q∈l,AZ K q):C3 K (fun c=>l.lookup c):=fun c p o e=>h (c,p,o) (PySem.mem_of_lookup e)
abbrev AY(P:Program)(w:World)(K:W.Frag)(mg:Str->Option Value)(base:Heap)(k:Nat):Str×Str×Option Str->Prop:=fun q => ∃C,W.nsIn K mainGlobals q.1=some (some (.ref C))/\(q.2.2=none->eD K C=none) /\
 ∀f,q.2.2=some f->∃j fI oI fd ps,j+1<=k/\eD K C=some (.ref fI)/\K.lookup fI=some oI/\oI.cls=.type "function" /\ W.keepIn K (.ref C)=true/\bH P w K mg base dF j fI fd ps (tj C f)/\bY K fd ps []
theorem Jc{l:List (Str×Str×Option Str)}(h:∀q∈l,AY P w K mg base k q):KJ P w K mg base k (fun c=>l.lookup c):=fun c C hc =>
 ⟨fun p e=>by
  obtain⟨C',h1,h2,_⟩:=h (c,p,none) (PySem.mem_of_lookup e)
  rw[hc]at h1;cases h1;exact h2 rfl,fun p f e=>by
  obtain⟨C',h1,_,h3⟩:=h (c,p,some f) (PySem.mem_of_lookup e)
  rw[hc]at h1;cases h1;exact h3 f rfl⟩
abbrev qA(P:Program)(w:World)(K:W.Frag)(mg:Str->Option Value)(base:Heap)(k:Nat):Str×(List D->Option Xs)->Prop:=fun q=>iV P w K mg base k q.1 q.2
theorem iB{l:List (Str×(List D->Option Xs))}(h:∀q∈l,qA P w K mg base k q):∀g G,(fun g:Str=>l.lookup g) g=some G->iV P w K mg base k g G:=fun g G e=>h (g,G) (PySem.mem_of_lookup e)
def GP:Stmt->List Stmt
 | .Try b _ _ _ _=>b
 | _=>[]
theorem GO{r:D}{ρ1:af}{o:Option Str}(h1:ac (aC Φ pre sc (cD ps ds)) (.nx ρ1))(h2:Rt Φ Ψ sc tb ρ1 (c,B,fs))(h3:ac (aC Φ post sc (uE ρ1 n y c B fs)) (.rt r))(hc:Ex c=some (B,o):=by rfl)(ho:∀f i,fs=[(f,i)]->o=some f:=by(intro f i z;cases z<;>rfl))(hl:ds.length=ps.length:=by rfl):ve Φ Ψ Ex sc ps pre tb post B n y ds r:=⟨hl,ρ1,h1,.inr ⟨c,o,fs,hc,ho,h2,h3⟩⟩
end Sp
namespace K
open PySem L2 Sp Qm
variable{x y:Str}
section
variable{Φ:Fx}{sc:Scope}{ρ ρ1:af}{ss:List Stmt}
def qR(y:Str):Bool:=!decide (y=Str.ofString "left") && !decide (y=Str.ofString "right")&&(decide ((reprText y).length<=1000)&&PyData.strOk y)
theorem BQ(h:qR y=true):y≠Str.ofString "left" /\ y≠Str.ofString "right" /\ (reprText y).length<=1000/\PyData.strOk y=true:=by
 unfold qR at h
 simp only[Bool.and_eq_true]at h
 exact⟨by simpa using h.1.1,by simpa using h.1.2,of_decide_eq_true h.2.1,h.2.2⟩
theorem F1(x y:Str):cG (.str x) (.str y)=decide (x=y):=by
 show((x==y):Bool)=_
 by_cases h:x=y
 ·subst h;simp
 ·rw[decide_eq_false h];simpa using h
theorem wm(h:x≠y):(!cG (.str x) (.str y))=true:=by rw[F1,decide_eq_false h];rfl
theorem Av(h:PyData.strOk x=true)(g:PyData.strOk y=true):gm (.str x) (.str y)=true:=Cn h g
abbrev yH:Xs:=(Str.ofString "NoSide", Str.ofString "SpaceError", [])
abbrev GJ:Xs:=(Str.ofString "Nought", Str.ofString "SpaceError", [])
theorem Ey{s:Bool}(h:jy y=some s):D.str y=tF s:=by
 unfold jy at h
 split at h
 ·rename_i e;cases h;rw[e];rfl
 ·split at h
  ·rename_i e;cases h;rw[e];rfl
  ·cases h
def pK:D->Bool
 | .tup [.int a,.int b,.int c,.int d]=>decide (a=0/\b=0/\c=0/\d=0)
 | _=>false
theorem rO{d:D}(h:pK d=true):d=dq aD:=by
 unfold pK at h
 split at h
 ·obtain⟨rfl,rfl,rfl,rfl⟩:=of_decide_eq_true h;rfl
 ·cases h
end
end K
namespace Sp
open PySem PySem.Spec PyProof.Rows L2
variable{K:W.Frag}{b f:Addr}{P:Program}{w:World}{mg:Str->Option Value}{base:Heap}{g qual x:Str}{st:Stmt}{fd:FuncData}{p1 p2 p3 pos t:Pos}{H H0 H1:Hp}{ρ:af}{ss:List Stmt}{fl:Fl}{ns:List Int}{k:Nat}{us:List Value}{ds l l' m:List D}{Φ:Fx}{sc:Scope}{a c e i iter tg:Expr}{d:D}{ow:Ow}{σ:L2.St}{us' vs:List V}{j:Int}
theorem An{o:Obj}(h:W.isFn K (.ref f)=true)(l:K.lookup f=some o):o.cls=.type "function" := by
 have:Option.map (fun x:Obj=>x.cls) (List.lookup f K)=some (.type "function"):=beq_iff_eq.mp h
 rw[show List.lookup f K=some o from l]at this
 exact Option.some.inj this
theorem sN{C S0:Addr}{mc:Value}(Fn:jQ K g qual st f fd){s0 a1 fl b a:Str}{kd:Nat}{p5 p6 p7 p8 p9 p10 q1 q2 q3 q4:Pos}
  (hN:az (aa st)=[s0,a1]) (S:aM (az (aa st)) [s0,a1] (aa st)) (hv:(aa st).names.lookup s0=some .local/\(aa st).names.lookup a1=some .local) (hok:eM s0=true/\eM a1=true)
  (hgb:(aa st).names.lookup b=some .globalImplicit) (hm:mg b=some (.ref S0)) (hga:W.specialIn K (.ref S0) "__getattribute__" = some (some (.builtin "type.__getattribute__"))) (hrd:W.readsIn K S0 mc=true) (hfc:W.findCls K (.ref S0) mc "__init__" = some (.val (.builtin "ValueError.__init__"))) (hex:gY K C S0=true)
  (hdi:W.hasDictIn K C=true) (hsa:W.findIn K (.ref C) "__setattr__" = some (some (.builtin "object.__setattr__"))) (hff:W.findIn K (.ref C) fl=some none)
  (hb:ak st=[.Expr (.Call (.Attribute (.Name b p1) "__init__" p2) [.Name s0 p3,.JoinedStr [.Constant (.str a) kd p5,.FormattedValue (.Name a1 p6) (-1) none p7] p8] [] p9) p10,.Assign [.Attribute (.Name s0 q1) fl q2] (.Name a1 q3) q4]) (ha:a.length<=200) (hln:(p2.endLine==p9.line)=true) (hdb:(b==("__debug__" : Str))=false) :
  bH P w K mg base dF 1 f fd [s0,a1] (tj C fl):=by
 obtain⟨cd,h1,h2⟩:=t6 hex
 have h3:cd.hasDict=true:=by
  unfold W.hasDictIn at hdi
  rw[h1]at hdi
  exact hdi
 refine Bi Fn hN S (fun x hx=>?_) (fun x hx=>?_) hgb hm hga hrd hfc hex h1 h2 h3 hsa hff hb ha hln hdb
 ·simp only[List.mem_cons,List.not_mem_nil,or_false]at hx
  rcases hx with rfl|rfl
  ·exact .inl hv.1
  ·exact .inl hv.2
 ·simp only[List.mem_cons,List.not_mem_nil,or_false]at hx
  rcases hx with rfl|rfl
  ·exact hok.1
  ·exact hok.2
variable{X:Cx}
theorem Ev(h:fo X H0 (fP ρ) ss fl):fo X H0 ρ ss fl:=fun pins s σ H D I ⟨ow,E,hl,B,q⟩ =>
 h pins s σ H D I ⟨fun _=>none,Co E,hl,fun a o h=>⟨(B a o h).1,rfl⟩,q.keep ⟨fun a o h _=>h,fun _ _ _ _=>rfl⟩⟩

def qW(x:Int):List Int->List Int
 | []=>[x]
 | y::l=>if x<=y then x::y::l else y::qW x l
def jV:List Int->List Int
 | []=>[]
 | x::l=>qW x (jV l)
theorem lV(x:Int):∀l:List Int,(qW x l).Perm (x::l)
 | []=>List.Perm.refl _
 | y::l=>by
  rw[qW]
  split
  ·exact List.Perm.refl _
  ·exact((lV x l).cons y).trans (List.Perm.swap x y l)
theorem lA:∀l:List Int,(jV l).Perm l
 | []=>List.Perm.refl _
 | x::l=>(lV x (jV l)).trans ((lA l).cons x)
theorem ut(x:Int):∀{l:List Int},l.Pairwise (· <= ·)->(qW x l).Pairwise (· <= ·)
 | [],_=>List.pairwise_singleton _ _
 | y::l,h=>by
  rw[qW]
  have hh:=List.pairwise_cons.mp h
  split
  ·rename_i hxy
   exact List.pairwise_cons.mpr ⟨fun z hz=>by
    rcases List.mem_cons.mp hz with rfl|hz
    ·exact hxy
    ·exact Int.le_trans hxy (hh.1 z hz),h⟩
  ·rename_i hxy
   refine List.pairwise_cons.mpr ⟨fun z hz=>?_,ut x hh.2⟩
   rcases List.mem_cons.mp ((lV x l).mem_iff.mp hz)with rfl|hz
   ·omega
   ·exact hh.1 z hz
theorem tf:∀l:List Int,(jV l).Pairwise (· <= ·)
 | []=>List.Pairwise.nil
 | x::l=>ut x (tf l)
theorem tV:∀{a b:List Int},a.Perm b->a.Pairwise (· <= ·)->b.Pairwise (· <= ·)->a=b
 | [],b,p,_,_=>by rw[List.nil_perm.mp p]
 | x::a,[],p,_,_=>by have:=p.length_eq;cases this
 | x::a,y::b,p,ha,hb=>by
  have h1:=List.pairwise_cons.mp ha
  have h2:=List.pairwise_cons.mp hb
  have e:x=y:=by
   have i1:x∈y::b:=p.mem_iff.mp List.mem_cons_self
   have i2:y∈x::a:=p.mem_iff.mpr List.mem_cons_self
   rcases List.mem_cons.mp i1 with e|i1
   ·exact e
   ·rcases List.mem_cons.mp i2 with e|i2
    ·exact e.symm
    ·have:=h1.1 y i2;have:=h2.1 x i1;omega
  subst e
  rw[tV ((List.perm_cons x).mp p) h1.2 h2.2]
theorem rG{a:List Int}(p:a.Perm ns)(h:a.Pairwise (· <= ·)):a=jV ns:=tV (p.trans (lA ns).symm) h (tf ns)
theorem Bs(ns:List Int):(jV ns).length=ns.length:=(lA ns).length_eq
theorem ur:∀{ns:List Int} {us:List Value},aK (ns.map V.int) us->IntsAre us ns
 | [],us,h=>by cases h;exact .nil
 | n::ns,us,h=>by
  cases h with
  | cons r1 r2=>obtain⟨t,rfl⟩:=r1;exact .cons n t (ur r2)
theorem u7:∀{ns:List Int} {us:List Value},IntsAre us ns->aK (ns.map V.int) us
 | _,_,.nil=>.nil
 | _,_,.cons n t h=>.cons ⟨t,rfl⟩ (u7 h)
theorem i5{K:W.Frag}{H:Hp}{P:be}:∀{ns:List Int} {vs:List V},ag K H P (ns.map D.int) vs->vs=ns.map V.int
 | [],vs,h=>by rw[List.map_nil,ag]at h;exact h
 | n::ns,vs,h=>by
  rw[List.map_cons,ag]at h
  obtain⟨v,r,rfl,h1,h2⟩:=h
  rw[ah]at h1
  rw[i5 h2,h1];rfl
theorem jd{K:W.Frag}{H:Hp}{P:be}:∀ns:List Int,ag K H P (ns.map D.int) (ns.map V.int)
 | []=>ag.nil
 | n::ns=>ag.cons (by rw[ah]) (jd ns)
def IA(b:Bool)(n0:Nat)(p0 kp:Pos):List Keyword:=cond b [⟨some (Str.ofString "reverse"),.Constant (.bool true) n0 p0,kp⟩] []
def jW(b:Bool)(ns:List Int):List Int:=cond b (jV ns).reverse (jV ns)
theorem Jr{e:Expr}{f:Str}{p p0 kp:Pos}{n0:Nat}(b:Bool)(hf:f = "sorted")(gf:Gl X f)(mf:X.mg f=none)
  (h:AD X ρ [e] [.lst (ns.map D.int)] k) (hst:∀y∈[e],∀x p,y ≠ .Starred x p) (hn:ns.length<64):ED X ρ (.Call (.Name f p) [e] (IA b n0 p0 kp) t) (.lst ((jW b ns).map D.int)) 0:=by
 intro ow pins s σ H Q I ⟨E,qq⟩
 subst hf
 refine wpAny_Call_Name_kw (dA I gf mf (u:=.builtin "sorted") (by decide +kernel) ?_ (by decide +kernel) (by decide +kernel))
 have n1:=aF (env:=X.env) (es:=[]) (hst e List.mem_cons_self)
 have n3:starEach [e] X.env=(false,eval e X.env)::starEach [] X.env:=n1
 have key:∀(us:List Value) (s1:Shared),(∃vs H1,aj X pins σ H1 s1/\aK vs us/\ay H H1/\ag X.K H1 (Kp ow H k) [.lst (ns.map D.int)] vs)->wpAny (model X.prog X.w) X.A (call (.builtin "sorted") us (cond b [(Str.ofString "reverse", .bool true)] [])) (fun v s2 => ∃x H2,aj X pins σ H2 s2/\aU x v/\Q x H2) X.xe s1:=by
  rintro us s1 ⟨vs,H1,I1,rv,sm,rp⟩
  obtain⟨v,rfl,rv1⟩:=rp.only
  obtain⟨a,xs,rfl,hq,rl,hk1⟩:=iA (κ:=false) rv1
  replace hq:cf X.K H1 a xs:=hq
  obtain⟨u,rfl,ru⟩:=dP rv
  cases (show u=Value.ref a from ru)
  obtain⟨its,rvs,pt,hz⟩:=I1.list hq
  have pl:=pt.isList
  have ex:=i5 rl
  subst ex
  have hI:=ur rvs
  have el:=rvs.length
  rw[List.length_map]at el
  obtain⟨hp,gs,dr,tk,os⟩:=s1
  have fin:∀(out:Array Value) (ns':List Int),IntsAre out.toList ns'->ns'=jW b ns->∃x H2,aj X pins σ H2 ⟨sortedAll hp its out,gs,dr,tk,os⟩/\aU x (.ref (hp.objs.size+1))/\Q x H2:=by
   intro out ns' a1 e1
   subst e1
   obtain⟨m,S3⟩:=sortedAll_at hp its out
   have kk:∀b o,hp.get? b=some o->(sortedAll hp its out).get? b=some o:=fun b o e=>sortedAll_old e
   generalize sortedAll hp its out=h3 at *
   have fr:∀j:Nat,H1 (hp.objs.size+j)=none:=fun j=>I1.hok.fresh (Nat.le_add_right _ _)
   generalize hn':hp.objs.size=n at *
   have hk0:cz X.prog X.w H1 h3:=I1.hok.kept kk
   have lb:(jW b ns).length=ns.length:=by cases b<;>simp[jW,Bs]
   have ob:bw X.prog X.w (aG H1 (n+1) (.lst ((jW b ns).map V.int))) h3 (n+1) (.lst ((jW b ns).map V.int)):=⟨by rw[List.length_map,lb,<- List.length_map (f:=V.int)];exact hz,out.toList,m,u7 a1,by rw[Array.toArray_toList];exact S3⟩
   have hk1:=oE hk0 (fr 1) ob
   generalize hH:aG H1 (n+1) (.lst ((jW b ns).map V.int))=H4 at hk1
   have g6:H4 (n+1)=some (.lst ((jW b ns).map V.int)):=by rw[<- hH];exact aE
   have old:∀c:Nat,c<n->H4 c=H1 c:=fun c hc=>by rw[<- hH,ax (by show(c:Nat)≠n+1;omega)]
   have inn:∀(c:Nat) o,H1 c=some o->c<n:=fun c o e=>by
    rcases Nat.lt_or_ge c n with z|z
    ·exact z
    ·have:=fr (c-n);rw[Nat.add_sub_cancel' z]at this;rw[this]at e;cases e
   have s4:ay H1 H4:=fun c o e=>(old c (inn c o e)).trans e
   have I4:aj X pins σ H4 ⟨h3,gs,dr,tk,os⟩:=I1.un (t':=tk) (qC kk (fun c hc=>old c (by rw[<- hn'];exact hc)) fun c o e=>by rw[hn'];exact inn c o e) hk1
   refine⟨.ref (n+1),H4,I4,rfl,qq _ H4 (sm.trans s4) ?_⟩
   rw[ah]
   exact⟨n+1,_,true,rfl,g6,⟨rfl,sm.free (fr 1)⟩,jd _⟩
  cases b with
  | false=>exact sorted_ints pl hI (by omega) fun out ns' a1 a2 a3=>fin out ns' a1 (rG a2 a3)
  | true =>
   refine sorted_ints_rev (b:=true) pl hI (by omega) fun out ns' a1 a2 a3=>fin out ns' a1 ?_
   have a3:ns'.Pairwise (· >= ·):=a3
   have:=rG (a:=ns'.reverse) ((List.reverse_perm ns').trans a2) (List.pairwise_reverse.mpr a3)
   show ns'=(jV ns).reverse
   rw[<- this,List.reverse_reverse]
 cases b with
 | false =>
  refine callWith_kw (kws:=[]) (aN (h ow t pins s σ H _ I ⟨E,fun vs H1 s1 r1=>(show(fun vs H1=>ay H H1/\ag X.K H1 (Kp ow H k) [.lst (ns.map D.int)] vs) vs H1 from⟨s1,r1⟩)⟩) fun us s1 ⟨vs,H1,I1,rv,sm,rp⟩=>kws_nil (key us s1 ⟨vs,H1,I1,rv,sm,rp⟩)) (by rw[n1];rfl) (bi fun x hx=>hst x hx)
 | true =>
  refine callWith_kw (kws:=[⟨some (Str.ofString "reverse"),.Constant (.bool true) n0 p0,kp⟩]) (aN (h ow t pins s σ H _ I ⟨E,fun vs H1 s1 r1=>(show(fun vs H1=>ay H H1/\ag X.K H1 (Kp ow H k) [.lst (ns.map D.int)] vs) vs H1 from⟨s1,r1⟩)⟩) fun us s1 ⟨vs,H1,I1,rv,sm,rp⟩=>kws_cons (wpAny_pure (kws_nil (key us s1 ⟨vs,H1,I1,rv,sm,rp⟩)))) (by rw[n1];rfl) (bi fun x hx=>hst x hx)
theorem yG:∀{us:List Value},us.length<2->(us.toArray.zip us.toArray).map (·.2)=us.toArray
 | [],_=>by simp
 | [_],_=>by simp
 | _::_::_,h=>absurd h (by simp)
section
variable{prog:Program}{A:Around}{E:Value->Shared->Prop}{s:Shared}
theorem xy{m:Nat}{R:Fin->Shared->Prop}(hb:s.heap.get? b=some (seqObj "list" us.toArray m))(hu:us.length<2)
  (go:R (.done (.ret .none)) { s with heap:=sortedHeap s.heap b us us.toArray }):wpAny (model prog w) A (Builtin.«list.sort» ⟨[.ref b],[]⟩) R E s:=by
 have lb:b<s.heap.objs.size:=Heap.lt_size hb
 obtain⟨c1,g1⟩:∃c,(s.heap.update b (Obj.mapSeq fun _ => #[])).get? b=some (seqObj "list" #[] c):=⟨_,get?_update_seq hb (fun _ => #[])⟩
 rw[list_sort_plain]
 refine wpAny_bind (listItems_at hb rfl (wpAny_bind (listUpdate_at hb rfl (wpAny_bind (seqEpoch_at g1 rfl (wpAny_bind (wpAny_newTuple (wpAny_bind (wpAny_newList (wpAny_holding ?_))))))))))
 have g6:(((s.heap.update b (Obj.mapSeq fun _ => #[])).push (seqObj "tuple" us.toArray 0)).push (seqObj "list" #[] 0)).get? b=some (seqObj "list" #[] c1):=by
  have l1:b<(s.heap.update b (Obj.mapSeq fun _ => #[])).objs.size:=by rw[Heap.size_update];exact lb
  exact Heap.get?_push_of_some _ (Heap.get?_push_of_some _ g1)
 have l2:us.toArray.size<2:=by rw[List.size_toArray];exact hu
 change wpAny (model prog w) A _ R E { s with heap:=((s.heap.update b (Obj.mapSeq fun _ => #[])).push (seqObj "tuple" us.toArray 0)).push (seqObj "list" #[] 0) }
 dsimp only
 rw[if_pos l2,if_pos l2]
 refine wpAny_bind (wpAny_pure ?_)
 rw[StateT.run_pure]
 refine wpAny_bind (wpAny_pure ?_)
 dsimp only
 have ea:Array.map (fun x=>x.snd) (arrOf (SortSt.mk' general' (us.toArray.zip us.toArray) #[] 7 none))=us.toArray:=yG hu
 rw[ea]
 refine wpAny_bind (seqEpoch_at g6 rfl (wpAny_bind (listUpdate_at g6 rfl ?_ (hsz2:=by rw[sizeLine_eq];omega))))
 simp only[bne_self_eq_false,Bool.false_eq_true,if_false]
 exact wpAny_pure go
theorem tq{R:Value->Shared->Prop}(hb:s.heap.IsList b us.toArray)(hu:us.length<2)
  (go:R (.ref (s.heap.objs.size+1)) { s with heap:=sortedAll s.heap us us.toArray }):wpAny (model prog w) A (call (.builtin "sorted") [.ref b]) R E s:=by
 have z1:((s.heap.push (seqObj "list" #[] 0)).update s.heap.objs.size (Obj.mapSeq (· ++ us.toArray))).objs.size=s.heap.objs.size+1:=(Heap.size_update ..).trans (size_push' ..)
 have z2:(((s.heap.push (seqObj "list" #[] 0)).update s.heap.objs.size (Obj.mapSeq (· ++ us.toArray))).push (seqObj "list" us.toArray 0)).get? (s.heap.objs.size+1)=some (seqObj "list" us.toArray 0):=z1 ▸ Heap.get?_push_size _ rfl
 refine Calls.call_function_entry kind_sorted plain_sorted entry_sorted (args_sorted1 _) ?_
 unfold Builtin.«sorted»
 refine wpAny_bind (m:=checkCount "sorted" 1 1 _) (wpAny_pure (wpAny_bind (collect_list hb (wpAny_bind (wpAny_newList ?_)) (by rw[sizeLine_eq];omega))))
 change wpAny _ _ _ _ _ { s with heap:=((s.heap.push (seqObj "list" #[] 0)).update s.heap.objs.size (Obj.mapSeq (· ++ us.toArray))).push (seqObj "list" us.toArray 0) }
 rw[z1]
 exact wpAny_bind (wpAny_holding (wpAny_call_entry slot_list_sort ⟨_,z2,rfl⟩ entry_list_sort (xy z2 hu ⟨_,rfl,wpAny_pure ⟨_,rfl,go⟩⟩) (args_list_sort _)))
end
theorem Cr{e:Expr}{f:Str}{p:Pos}(hf:f = "sorted")(gf:Gl X f)(mf:X.mg f=none)
  (h:AD X ρ [e] [.lst l] k) (hst:∀y∈[e],∀x p,y ≠ .Starred x p) (hn:l.length<2) (fl:ar l=true):ED X ρ (.Call (.Name f p) [e] [] t) (.lst l) 0:=by
 intro ow pins s σ H Q I ⟨E,qq⟩
 subst hf
 refine wpAny_Call_Name_kw (dA I gf mf (u:=.builtin "sorted") (by decide +kernel) ?_ (by decide +kernel) (by decide +kernel))
 have n1:=aF (env:=X.env) (es:=[]) (hst e List.mem_cons_self)
 refine callWith_kw (kws:=[]) (aN (h ow t pins s σ H _ I ⟨E,fun vs H1 s1 r1=>(show(fun vs H1=>ay H H1/\ag X.K H1 (Kp ow H k) [.lst l] vs) vs H1 from⟨s1,r1⟩)⟩) fun us s1 ⟨vs,H1,I1,rv,sm,rp⟩=>kws_nil ?_) (by rw[n1];rfl) (bi fun x hx=>hst x hx)
 obtain⟨v,rfl,rv1⟩:=rp.only
 obtain⟨a,xs,rfl,hq,rl,hk1⟩:=iA (κ:=false) rv1
 replace hq:cf X.K H1 a xs:=hq
 obtain⟨u,rfl,ru⟩:=dP rv
 cases (show u=Value.ref a from ru)
 obtain⟨its,rvs,pt,hz⟩:=I1.list hq
 have el:=rvs.length
 have el2:=rl.length
 obtain⟨hp,gs,dr,tk,os⟩:=s1
 refine tq pt.isList (by omega) ?_
 obtain⟨m,S3⟩:=sortedAll_at hp its its.toArray
 have kk:∀b o,hp.get? b=some o->(sortedAll hp its its.toArray).get? b=some o:=fun b o e=>sortedAll_old e
 show ∃x H2,aj X pins σ H2 ⟨sortedAll hp its its.toArray,gs,dr,tk,os⟩/\aU x (.ref (hp.objs.size+1))/\Q x H2
 generalize sortedAll hp its its.toArray=h3 at *
 have fr:∀j:Nat,H1 (hp.objs.size+j)=none:=fun j=>I1.hok.fresh (Nat.le_add_right _ _)
 generalize hn':hp.objs.size=n at *
 have hk0:cz X.prog X.w H1 h3:=I1.hok.kept kk
 have ob:bw X.prog X.w (aG H1 (n+1) (.lst xs)) h3 (n+1) (.lst xs):=⟨hz,its,m,rvs,S3⟩
 have hk1:=oE hk0 (fr 1) ob
 generalize hH:aG H1 (n+1) (.lst xs)=H4 at hk1
 have g6:H4 (n+1)=some (.lst xs):=by rw[<- hH];exact aE
 have old:∀c:Nat,c<n->H4 c=H1 c:=fun c hc=>by rw[<- hH,ax (by show(c:Nat)≠n+1;omega)]
 have inn:∀(c:Nat) o,H1 c=some o->c<n:=fun c o e=>by
  rcases Nat.lt_or_ge c n with z|z
  ·exact z
  ·have:=fr (c-n);rw[Nat.add_sub_cancel' z]at this;rw[this]at e;cases e
 have s4:ay H1 H4:=fun c o e=>(old c (inn c o e)).trans e
 have I4:aj X pins σ H4 ⟨h3,gs,dr,tk,os⟩:=I1.un (t':=tk) (qC kk (fun c hc=>old c (by rw[<- hn'];exact hc)) fun c o e=>by rw[hn'];exact inn c o e) hk1
 refine⟨.ref (n+1),H4,I4,rfl,qq _ H4 (sm.trans s4) ?_⟩
 rw[ah]
 exact⟨n+1,_,true,rfl,g6,⟨rfl,sm.free (fr 1)⟩,ag.flat _ fl (rl.same s4)⟩
inductive Xd(Φ:Fx)(sc:Scope)(ρ:af):Expr->D->Prop where
 | ev {e:Expr} {d:D} (h:ac (aA Φ e false sc ρ) (d,0)):Xd Φ sc ρ e d
 | lrev {e:Expr} {l:List D} {k:Nat} {f g:Str} {p q r t:Pos} (h:ac (bG Φ [e] sc ρ) ([.lst l],k)) (fl:ar l=true) (hf:f = "list" := by rfl) (hg:g = "reversed" := by rfl) (gf:sc.names.lookup f=some .globalImplicit:=by rfl) (gg:sc.names.lookup g=some .globalImplicit:=by rfl):Xd Φ sc ρ (.Call (.Name f p) [.Call (.Name g q) [e] [] r] [] t) (.lst l.reverse)
 | srt (b:Bool) {e:Expr} {ns:List Int} {k n0:Nat} {f:Str} {p t p0 kp:Pos} (h:ac (bG Φ [e] sc ρ) ([.lst (ns.map D.int)],k)) (hn:ns.length<64) (hf:f = "sorted" := by rfl) (gf:sc.names.lookup f=some .globalImplicit:=by rfl):Xd Φ sc ρ (.Call (.Name f p) [e] (IA b n0 p0 kp) t) (.lst ((jW b ns).map D.int))
 | short {e:Expr} {l:List D} {k:Nat} {f:Str} {p t:Pos} (h:ac (bG Φ [e] sc ρ) ([.lst l],k)) (hn:l.length<2) (fl:ar l=true) (hf:f = "sorted" := by rfl) (gf:sc.names.lookup f=some .globalImplicit:=by rfl):Xd Φ sc ρ (.Call (.Name f p) [e] [] t) (.lst l)
 | pick4 {e1 e2 e3 e4 i:Expr} {d1 d2 d3 d4 d:D} {j:Int} {k:Nat} {lp p:Pos} (h1:Xd Φ sc ρ e1 d1) (h2:Xd Φ sc ρ e2 d2) (h3:Xd Φ sc ρ e3 d3) (h4:Xd Φ sc ρ e4 d4) (hi:ac (aA Φ i false sc ρ) (.int j,k)) (ha:atI [d1,d2,d3,d4] j=some d):Xd Φ sc ρ (.Subscript (.List [e1,e2,e3,e4] lp) i p) d
theorem iW(h:Xd Φ sc ρ e d):∀y p,e ≠ .Starred y p:=by
 cases h with
 | ev h=>intro y p z;subst z;obtain⟨_,h,_⟩:=h;cases h
 | lrev=>intro y p z;cases z
 | srt=>intro y p z;cases z
 | short=>intro y p z;cases z
 | pick4=>intro y p z;cases z
theorem Fs(d:D):mk d 0=.ok (d,0) []:=by unfold mk kn;split<;>rfl
theorem De(G:aQ Φ X sc)(h:Xd Φ sc ρ e d):ED X ρ e d 0:=by
 induction h with
 | ev h=>exact(bI h G).ed rfl
 | lrev h fl hf hg gf gg =>
  obtain⟨l7,h7,p7⟩:=h
  obtain⟨hst,_⟩:=ck h7 p7
  exact wI G.calm hf hg (G.gl _ gf) (G.gl _ gg) (by subst hf;exact G.bl _ (by decide +kernel)) (by subst hg;exact G.bl _ (by decide +kernel)) (fO [_] h7 p7 G) hst fl
 | srt b h hn hf gf =>
  obtain⟨l7,h7,p7⟩:=h
  obtain⟨hst,_⟩:=ck h7 p7
  exact Jr b hf (G.gl _ gf) (by subst hf;exact G.bl _ (by decide +kernel)) (fO [_] h7 p7 G) hst hn
 | short h hn fl hf gf =>
  obtain⟨l7,h7,p7⟩:=h
  obtain⟨hst,_⟩:=ck h7 p7
  exact Cr hf (G.gl _ gf) (by subst hf;exact G.bl _ (by decide +kernel)) (fO [_] h7 p7 G) hst hn fl
 | pick4 h1 h2 h3 h4 hi ha i1 i2 i3 i4 =>
  have at4:=dN i1 (dN i2 (dN i3 (dN i4 iP (aF (iW h4))) (aF (iW h3))) (aF (iW h2))) (aF (iW h1))
  obtain⟨l,hi',pi⟩:=hi
  refine DW (o:=[]) (wJ (k:=0) at4 (Nat.zero_le _) (by show 4<=40000;decide)) ((bI ⟨l,hi',pi⟩ G).ed rfl) (pw hi') ?_
  show(match atI _ _ with|some d=>mk d 0|none=>.st)=_
  rw[ha]
  exact Fs _
inductive Rn(Φ:Fx)(sc:Scope):List Stmt->af->D->Prop where
 | fin {ss:List Stmt} {ρ:af} {r:D} (h:ac (aC Φ ss sc ρ) (.rt r)):Rn Φ sc ss ρ r
 | cut (n:Nat) {ss:List Stmt} {ρ ρ1:af} {r:D} (h:ac (aC Φ (ss.take n) sc ρ) (.nx ρ1)) (k:Rn Φ sc (ss.drop n) ρ1 r):Rn Φ sc ss ρ r
 | dem {ss:List Stmt} {ρ:af} {r:D} (k:Rn Φ sc ss (fP ρ) r):Rn Φ sc ss ρ r
 | set {x:Str} {e:Expr} {px q:Pos} {ss:List Stmt} {ρ:af} {d r:D} (h:Xd Φ sc ρ e d) (k:Rn Φ sc ss (bc ρ x (d,true)) r) (hx:cY sc x=true:=by rfl) (hc:iI e=false:=by rfl):Rn Φ sc (.Assign [.Name x px] e q::ss) ρ r
theorem Gh{lo hi:Option Expr}{l h:Option Int}(ha:ED X ρ a (.lst m) 1)(hl:OD X ρ lo l)(hh:OD X ρ hi h):ED X ρ (.Subscript a (.Slice lo hi none p2) pos) (.lst (yg m l h)) 1:=by
 refine fun ow=>bK (BE Ew (ha ow) (hl ow) (hh ow)) fun σ H Q ⟨E,q⟩=>⟨E,fun v H1 s1 r1=>⟨E.same s1,fun H2 s2=>⟨(E.same s1).same s2,fun H3 s3=>?_⟩⟩⟩
 have s13:=s2.trans s3
 obtain⟨p,vs,rfl,hq,rl⟩:=iZ (r1.same s13)
 refine⟨p,vs,rfl,hq,fun p' hp'=>?_⟩
 have sm:=cw (o:=HO.lst (oJ vs l h)) hp'
 refine q _ _ ((s1.trans s13).trans sm) ?_
 rw[ah]
 exact⟨p',_,true,rfl,aE,fun _=>E.own.free ((s1.trans s13).free hp'),rl.cut.same sm⟩
theorem Gj{b:Expr}(ha:ED X ρ a (.lst l) 1)(hb:ED X ρ b (.lst m) 1)(hn:l.length+m.length<=bA):ED X ρ (.BinOp a .Add b pos) (.lst (l++m)) 1:=by
 refine fun ow=>bK (DB wf (ha ow) (hb ow)) fun σ H Q ⟨E,q⟩=>⟨E,fun v H1 s1 r1=>⟨E.same s1,fun u H2 s2 r2=>?_⟩⟩
 have r1':=r1.same s2
 have r2':=r2.imp (Kp.back s1 1)
 rw[ah]at r1' r2'
 obtain⟨pa,va,b1,rfl,ha,qa,ra⟩:=r1'
 obtain⟨pb,vb,b2,rfl,hb,qb,rb⟩:=r2'
 have la:=ra.length
 have lb:=rb.length
 refine⟨pa,pb,va,vb,rfl,rfl,ha.sq,hb.sq,by rw[<- la,<- lb];exact Nat.le_trans hn dX,fun p hp'=>?_⟩
 have sm:=cw (o:=HO.lst (va++vb)) hp'
 refine q _ _ ((s1.trans s2).trans sm) ?_
 rw[ah]
 exact⟨p,_,true,rfl,aE,fun _=>E.own.free ((s1.trans s2).free hp'),(ra.same sm).append (rb.same sm)⟩
def i9(l:List Int):D:=.lst (l.map D.int)
theorem t9:∀{a b:List Int},a.map V.int=b.map V.int->a=b
 | [],[],_=>rfl
 | [],_::_,h=>by cases h
 | _::_,[],h=>by cases h
 | x::a,y::b,h=>by
  simp only[List.map_cons,List.cons.injEq,V.int.injEq]at h
  rw[h.1,t9 h.2]
theorem v5{P:be}(hP:∀a b,P a b->b=true){l l':List Int}{v:V}{b:Addr}(h:ah K H P (i9 l) v)(hb:H b=some (.lst (l'.map V.int)))(hne:l≠l'){o:HO}:ah K (aG H b o) P (i9 l) v:=by
 unfold i9 at h⊢
 rw[ah]at h⊢
 obtain⟨a,vs,c,rfl,h1,h2,h3⟩:=h
 cases hP _ _ h2
 have e:=i5 h3
 subst e
 have hab:a≠b:=fun z=>by
  subst z
  have:some (HO.lst (l.map V.int))=some (.lst (l'.map V.int)):=Eq.trans (Eq.symm h1) hb
  exact hne (t9 (HO.lst.inj (Option.some.inj this)))
 exact⟨a,_,true,rfl,(ax hab).trans h1,h2,jd _⟩
theorem v4{K:W.Frag}{H:Hp}{P:be}(hP:∀a b,P a b->b=true){b:Addr}{l l':List Int}(hb:H b=some (.lst (l.map V.int))):∀{Ls:List (List Int)} {vs:List V} {n:Nat},ag K H P (Ls.map i9) vs->Ls[n]?=some l->vs[n]?=some (.ref b) ->
  (∀a m,Ls[a]?=some m->a≠n->m≠l)->ag K (aG H b (.lst (l'.map V.int))) P ((Ls.set n l').map i9) vs
 | [],vs,n,h,e,_,_=>by simp at e
 | x::Ls,vs,0,h,e,ev,hd=>by
  rw[List.map_cons,ag]at h
  obtain⟨v,r,rfl,h1,h2⟩:=h
  cases (Option.some.inj e:x=l)
  cases (Option.some.inj ev:v=.ref b)
  rw[List.set_cons_zero,List.map_cons]
  refine ag.cons ?_ ?_
  ·unfold i9 at h1⊢
   rw[ah]at h1⊢
   obtain⟨a,vs,c,e,h1,h3,h4⟩:=h1
   cases e
   exact⟨b,_,true,rfl,aE,by cases hP _ _ h3;exact h3,jd _⟩
  ·have:∀(M:List (List Int)) (ws:List V),(∀m∈M,m≠l)->ag K H P (M.map i9) ws->ag K (aG H b (.lst (l'.map V.int))) P (M.map i9) ws:=by
    intro M
    induction M with
    | nil=>intro ws _ h;rw[List.map_nil,ag]at h;subst h;exact ag.nil
    | cons m M ih =>
     intro ws hm h
     rw[List.map_cons,ag]at h
     obtain⟨v,r,rfl,g1,g2⟩:=h
     exact ag.cons (v5 hP g1 hb (hm m List.mem_cons_self)) (ih r (fun y hy=>hm y (List.mem_cons_of_mem _ hy)) g2)
   refine this Ls r (fun m hm=>?_) h2
   obtain⟨k,hk⟩:=List.mem_iff_getElem?.mp hm
   exact hd (k+1) m (by simpa using hk) (Nat.succ_ne_zero k)
 | x::Ls,vs,n+1,h,e,ev,hd=>by
  rw[List.map_cons,ag]at h
  obtain⟨v,r,rfl,h1,h2⟩:=h
  rw[List.set_cons_succ,List.map_cons]
  exact ag.cons (v5 hP h1 hb (hd 0 x rfl (fun z=>nomatch z))) (v4 hP hb h2 (by simpa using e) (by simpa using ev) fun a m ha hn=>hd (a+1) m (by simpa using ha) (by omega))
theorem F4{a:Addr}{us:List V}{i:Nat}(E:aL X ow H1 σ ρ)(hi:X.N[i]?=some x)(hs:σ[i]?=some (some (.ref a)))
  (hv:iS X.env.scope x) (ha:H1 a=some (.lst vs)) (ho:ow a=some (some x)) (hb:H1 b=some (.lst us)) (hob:ow b=some (some x)) (hab:a≠b) (r':ag X.K (aG H1 b (.lst us')) (j5 ow x true) l' vs) :
  aL X ow (aG H1 b (.lst us')) σ (bc ρ x (.lst l',true)):=by
 have st:∀{P:be},(P b true->False)->dl P P H1 (aG H1 b (.lst us')):=fun {P} h=>⟨fun c o hc hn=>by rw[ax (fun z=>by subst z;rw[hb]at hc;cases hc;exact hn)];exact hc,fun c ws hc p=>by rw[ax (fun z=>by subst z;exact h p)];exact hc,fun _ _ _ p=>p,fun _ p=>p⟩
 refine⟨fun y e o h=>?_,fun c hc=>?_⟩
 ·rw[cZ]at h
  by_cases hy:y=x
  ·subst hy
   rw[if_pos rfl]at h
   cases h
   exact⟨i,.ref a,hi,hv,hs,by rw[ah];exact⟨a,vs,true,rfl,(ax hab).trans ha,⟨rfl,ho⟩,r'⟩⟩
  ·rw[if_neg hy]at h
   obtain⟨j,w,e1,e2,e3,e4⟩:=E.get y e o h
   refine⟨j,w,e1,e2,e3,e4.mono (st fun p=>?_)⟩
   cases o with
   | true=>have:=p.2;rw[hob]at this;cases this;exact hy rfl
   | false=>have:=p rfl;rw[hob]at this;cases this
 ·by_cases hz:c=b
  ·subst hz;exact⟨_,aE⟩
  ·rw[ax hz];exact E.own c hc
theorem EA{m:Expr}{Ls:List (List Int)}{l:List Int}{jm v:Int}{n nm k1 k2:Nat}(hx:ρ x=some (.lst (Ls.map i9),true))(h:ED X ρ e (.int v) k)(hi:ED X ρ i (.int j) k1)(hm:ED X ρ m (.int jm) k2)(hn:eM x=true)
  (h1:ja Ls.length j=some n) (h2:Ls[n]?=some l) (h3:ja l.length jm=some nm) (hd:∀a y,Ls[a]?=some y->a≠n->y≠l) (hs:fJ i) (hsl:∀a b c p,m ≠ .Slice a b c p) :
  SD X H0 ρ (.Assign [.Subscript (.Subscript (.Name x p1) i p2) m p3] e pos) (.nx (bc ρ x (.lst ((Ls.set n (l.set nm v)).map i9),true))):=by
 intro pins s σ H D I ⟨ow,E,hl,B,q⟩
 obtain⟨ix,a,vs,g1,g2,g3,g4,g5,g6⟩:=zC I E hx
 have pn:PE X (.Name x p1) (lr ix):=gH g1 g2 (cK hn).1 (cK hn).2
 obtain⟨w,hw,rw'⟩:=g6.get (i:=n) (d:=i9 l) (by rw[List.getElem?_map,h2];rfl)
 unfold i9 at rw'
 rw[ah]at rw'
 obtain⟨b,us,bb,rfl,hb,pb,rl⟩:=rw'
 cases pb.1.1
 have eu:=i5 rl
 subst eu
 refine jA (h ow) (tR (pA ww pn (hi ow) hs) (hm ow) tE (fun v=>by cases m<;>first|rfl|exact absurd rfl (hsl _ _ _ _))) lu (by cases e<;>rfl) rfl pins s σ H D I ⟨E,fun v' H1 s1 r1=>?_⟩
 rw[ah]at r1;subst r1
 refine⟨_,g3,E.same s1,fun u H2 s2 r2=>?_⟩
 rw[ah]at r2;subst r2
 have s12:=s1.trans s2
 refine⟨a,vs,j,.ref b,rfl,rfl,cf.of (s12 _ _ g4),?_,E.same s12,fun u H3 s3 r3=>?_⟩
 ·unfold L2.atI
  rw[<- g6.length,List.length_map,h1]
  exact hw
 rw[ah]at r3;subst r3
 have s13:=s12.trans s3
 refine⟨b,l.map V.int,jm,nm,rfl,rfl,s13 _ _ hb,by rw[List.length_map];exact h3,?_⟩
 have em:(l.map V.int).set nm (.int v)=(l.set nm v).map V.int:=by rw[List.map_set]
 rw[em]
 have hb':H3 b=some (.lst (l.map V.int)):=s13 _ _ hb
 refine q ow σ _ (F4 (E.same s13) g1 g3 g2 (s13 _ _ g4) g5 hb' pb.1.2 (Ne.symm pb.2) ?_) hl (j8 s13 hb pb.1.2)
 exact(v4 (fun _ _ p=>p.1) hb' ((g6.same s13).imp fun _ _ p=>p.1) h2 hw hd)
def qd(ρ:af)(x:Str):af:=fun y=>if y=x then none else ρ y
theorem F2{us:List V}(E:aL X ow H1 σ ρ)(hb:H1 b=some (.lst us))(hob:ow b=some (some x)):aL X ow (aG H1 b (.lst us')) σ (qd ρ x):=by
 have st:∀{P:be},(P b true->False)->dl P P H1 (aG H1 b (.lst us')):=fun {P} h=>⟨fun c o hc hn=>by rw[ax (fun z=>by subst z;rw[hb]at hc;cases hc;exact hn)];exact hc,fun c ws hc p=>by rw[ax (fun z=>by subst z;exact h p)];exact hc,fun _ _ _ p=>p,fun _ p=>p⟩
 refine⟨fun y e o h=>?_,fun c hc=>?_⟩
 ·unfold qd at h
  by_cases hy:y=x
  ·rw[if_pos hy]at h;cases h
  ·rw[if_neg hy]at h
   obtain⟨j,w,e1,e2,e3,e4⟩:=E.get y e o h
   refine⟨j,w,e1,e2,e3,e4.mono (st fun p=>?_)⟩
   cases o with
   | true=>have:=p.2;rw[hob]at this;cases this;exact hy rfl
   | false=>have:=p rfl;rw[hob]at this;cases this
 ·by_cases hz:c=b
  ·subst hz;exact⟨_,aE⟩
  ·rw[ax hz];exact E.own c hc
theorem Bt{p:Addr}(h:cu K H p vs)(s:ay H H1):cu K H1 p vs:=by
 rcases h with(h|⟨o,h⟩)|h
 ·exact .inl (.inl (s _ _ h))
 ·exact .inl (.inr ⟨o,s _ _ h⟩)
 ·exact .inr h
theorem EG{m:Str}{M:List D->List D->Nat->Rs (List D)}{ap cp p4:Pos}{dt:List D}{ki:Nat}{o:List Prop}(hcalm:X.calm=true)(hM:kE m M)(hx:ρ x=some (.tup dt,true))(hi:ED X ρ i (.int j) ki)(hs:fJ i)(hat:L2.atI dt j=some (.lst l))
  (h:AD X ρ [e] [d] k) (hst:∀y p,e ≠ .Starred y p) (hn:eM x=true) (hln:(ap.endLine==cp.line)=true) (hm:M l [d] k=.ok l' o) (hp:aJ o):SD X H0 ρ (.Expr (.Call (.Attribute (.Subscript (.Name x p1) i p2) m ap) [e] [] cp) p4) (.nx (qd ρ x)):=by
 obtain⟨id,r,sl,ty,mt,hr⟩:=hM X hcalm
 intro pins s σ H D I ⟨ow,E,hl,B,q⟩
 obtain⟨ix,v,g1,g2,g3,g4⟩:=E.get x _ _ hx
 have pn:PE X (.Name x p1) (lr ix):=gH g1 g2 (cK hn).1 (cK hn).2
 obtain⟨p,vs,rfl,hq,rl⟩:=eJ g4
 obtain⟨w,hw,rw'⟩:=rl.atI hat
 rw[ah]at rw'
 obtain⟨b,us,bb,rfl,hb,pb,rl2⟩:=rw'
 cases pb.1
 have hfew:((backTo cp (starEach [e] X.env)).all (fun x => !x.1)&&(backToKw cp (keywordEach [] X.env)).all (fun x=>x.1.isSome)&&decide ([e].length+([]:List Keyword).length+(if ([]:List Keyword).isEmpty then 0 else 1)<30))=true:=by
  rw[j6 (fun z hz=>by rw[List.mem_singleton.mp hz];exact hst)];rfl
 refine jz (DC PySem.F.plainAttrs_list sl ty mt (pA Ad pn (hi ow) hs) (h ow) rfl hfew hln (aF hst) (bi fun z hz=>by cases hz)) rfl pins s σ H D I ⟨_,g3,E,fun u H1 s1 r1=>?_⟩
 rw[ah]at r1;subst r1
 refine⟨p,vs,j,.ref b,rfl,rfl,Bt hq s1,hw,.inl ⟨rfl,_,cf.of (s1 _ _ hb)⟩,E.same s1,fun ws H2 s2 r2=>?_⟩
 have s12:=s1.trans s2
 refine(hr ow H1 H2 l [d] l' k o b us ws hm hp).2 (fun _ _=>True) _ (fun _ _ _=>True.intro) (E.own.same s1) s2 (s12 _ _ hb) ((rl2.imp fun _ _ _=>True.intro).same s12) r2 fun vs' _ rv=>?_
 exact q ow σ _ (F2 (E.same s12) (s12 _ _ hb) pb.2) hl (j8 s12 hb pb.2)
def Bf(X:Cx)(H0:Hp)(tg:Expr)(body:List Stmt):List D->af->Fl->Prop
 | [],ρ,fl=>fl=.nx ρ
 | d::ds,ρ,fl => ∃ρ1,GD X ρ tg d ρ1/\((∃ρ2,fo X H0 ρ1 body (.nx ρ2)/\Bf X H0 tg body ds ρ2 fl)\/∃r,fl=.rt r/\fo X H0 ρ1 body (.rt r))
theorem EI{body:List Stmt}(hp:PassesOwn (model X.prog X.w) X.A X.env X.xe)(hcalm:X.calm=true)
  (hi:IE X (demote iter ρ) tg iter ds k) (hk:k<=1) (h:Bf X H0 tg body ds (demote iter ρ) fl)
  (hs:∀x,foldedSetIterable iter X.env x=pure x):SD X H0 ρ (.For tg iter body [] pos) fl:=by
 intro pins s σ H D0 I ⟨ow0,E0,hl,B0,q0⟩
 obtain⟨ow,E,k0⟩:=qc (e:=iter) E0
 have B:=B0.keep k0
 have q:=q0.keep k0
 have pb:eQ X body (fun D σ H => ∃ρ fl,fo X H0 ρ body fl/\zc X H0 ρ fl D σ H):=fun pins s σ H D I ⟨ρ1,fl1,h1,h2⟩=>h1 pins s σ H D I h2
 have pg:PG X tg (fun v σ H Q => ∃g:TG,PG X tg g/\g v σ H Q):=fun pins s σ H v u Q I r ⟨g,h1,h2⟩=>h1 pins s σ H v u Q I r h2
 refine tP hp hcalm (hi ow) pg pb hs pins s σ H D0 I ⟨E,fun J H1 s1 itd=>?_⟩
 refine⟨fun i m σ' H'=>m=ds.length-i/\i<=ds.length/\∃ow' ρ',aL X ow' H' σ' ρ'/\σ'.length=X.N.length/\cj H0 ow' H'/\aY ow H1 ow' H'/\Bf X H0 tg body (ds.drop i) ρ' fl,
  ⟨ds.length,by simp,Nat.zero_le _,ow,_,E.same s1,hl,B.keep (aY.same s1),aY.refl _ _,h⟩,?_⟩
 rintro i m σ' H' ⟨rfl,hile,ow',ρ',E',hl',B',k',hf⟩
 have q':oR X H0 ow' H' fl D0:=q.keep ((aY.same s1).trans k')
 have st:dl (Kd ow H k H1) (Kd ow H k H1) H1 H':=⟨fun a o ha hn=>k'.keep a o ha (.inl hn),fun a vs ha p=>k'.keep a _ ha (.inr (fF E.own hk p.1)),fun _ _ _ p=>p,fun _ p=>p⟩
 have it:=itd i H' st
 by_cases hlt:i<ds.length
 ·obtain⟨go,yl⟩:=it.1 ds[i] (List.getElem?_eq_getElem hlt)
  have hdrop:ds.drop i=ds[i]::ds.drop (i+1):=List.drop_eq_getElem_cons hlt
  rw[hdrop]at hf
  refine .inr ⟨go,fun σ2 H2=>i+1<=ds.length/\∃ow2 ρ2,aL X ow2 H2 σ2 ρ2/\σ2.length=X.N.length/\cj H0 ow2 H2/\aY ow H1 ow2 H2/\Bf X H0 tg body (ds.drop (i+1)) ρ2 fl,fun σ2 H2 n=>⟨ds.length-(i+1),by omega,rfl,n.1,n.2⟩,fun x H3 y3=>?_⟩
  obtain⟨sm3,rx⟩:=yl x H3 y3
  obtain⟨ρ1,⟨g,g1,g2⟩,hf⟩:=hf
  have rx':ah X.K H3 (fun a b=>b=true->ow' a=none) ds[i] x:=rx.impH (fun a o ha p _=>by
   obtain⟨o1,h1⟩:=p.2 rfl
   exact k'.low a o1 h1 (fF E.own hk p.1)) fun a _ z=>(by cases z)
  refine⟨g,g1,g2 ow' x σ' H3 _ hl' (E'.same sm3) rx' fun σ2 hl2 E2=>?_⟩
  have k3:aY ow' H' ow' H3:=aY.same sm3
  rcases hf with⟨ρ2,hb,hf⟩|⟨r,rfl,hb⟩
  ·exact⟨ρ1,.nx ρ2,hb,ow',E2,hl2,B'.keep k3,fun ow2 σ3 H4 a b c=>⟨hlt,ow2,ρ2,a,b,(B'.keep k3).keep c,k'.trans (k3.trans c),hf⟩⟩
  ·exact⟨ρ1,.rt r,hb,ow',E2,hl2,B'.keep k3,q'⟩
 ·have ei:i=ds.length:=by omega
  subst ei
  rw[List.drop_length]at hf
  cases (show fl=.nx ρ' from hf)
  exact .inl ⟨it.2 (Nat.le_refl _),q' ow' σ' H' E' hl' (aY.refl _ _)⟩
def Bg(X:Cx)(tg:Expr)(c:Expr):List D->af->af->Prop
 | [],ρ,ρ'=>ρ'=ρ
 | d::ds,ρ,ρ' => ∃ρ1,GD X ρ tg d ρ1/\TD X ρ1 c false/\Bg X tg c ds ρ1 ρ'
theorem EH{ρf:af}{a:List Stmt}{q0:Pos}(hp:PassesOwn (model X.prog X.w) X.A X.env X.xe)(hcalm:X.calm=true)
  (hi:IE X ρ tg iter ds k) (hll:ar ds=true) (h:Bg X tg c ds ρ ρf)
  (hs:∀x,foldedSetIterable iter X.env x=pure x):SD X H0 ρ (.For tg iter [.If c a [] q0] [] pos) (.nx ρf):=by
 intro pins s σ H D0 I ⟨ow,E,hl,B,q⟩
 have pb:eQ X [.If c a [] q0] (fun D σ H => ∃ρ,TD X ρ c false/\aL X ow H σ ρ/\∀H2,ay H H2->D.nx σ H2):=fun pins s σ H D I ⟨ρ1,h1,h2,h3⟩=>fz (xE (h1 ow) gG qK) qK pins s σ H D I ⟨h2,fun H2 s2=>by
  show if false=true then _ else _
  rw[if_neg Bool.false_ne_true]
  exact h3 H2 s2⟩
 have pg:PG X tg (fun v σ H Q => ∃g:TG,PG X tg g/\g v σ H Q):=fun pins s σ H v u Q I r ⟨g,h1,h2⟩=>h1 pins s σ H v u Q I r h2
 refine tP hp hcalm (hi ow) pg pb hs pins s σ H D0 I ⟨E,fun J H1 s1 itd=>?_⟩
 refine⟨fun i m σ' H'=>m=ds.length-i/\i<=ds.length/\∃ρ',aL X ow H' σ' ρ'/\σ'.length=X.N.length/\ay H1 H'/\Bg X tg c (ds.drop i) ρ' ρf,
  ⟨ds.length,by simp,Nat.zero_le _,_,E.same s1,hl,ay.refl _,h⟩,?_⟩
 rintro i m σ' H' ⟨rfl,hile,ρ',E',hl',sm,hf⟩
 have st:dl (Kd ow H k H1) (Kd ow H k H1) H1 H':=⟨fun a o ha _=>sm a o ha,fun a o ha _=>sm a o ha,fun _ _ _ p=>p,fun _ p=>p⟩
 have it:=itd i H' st
 by_cases hlt:i<ds.length
 ·obtain⟨go,yl⟩:=it.1 ds[i] (List.getElem?_eq_getElem hlt)
  have hdrop:ds.drop i=ds[i]::ds.drop (i+1):=List.drop_eq_getElem_cons hlt
  rw[hdrop]at hf
  refine .inr ⟨go,fun σ2 H2=>i+1<=ds.length/\∃ρ2,aL X ow H2 σ2 ρ2/\σ2.length=X.N.length/\ay H1 H2/\Bg X tg c (ds.drop (i+1)) ρ2 ρf,fun σ2 H2 n=>⟨ds.length-(i+1),by omega,rfl,n.1,n.2⟩,fun x H3 y3=>?_⟩
  obtain⟨sm3,rx⟩:=yl x H3 y3
  obtain⟨ρ1,⟨g,g1,g2⟩,ht,hf⟩:=hf
  have li:ds[i].lless=true:=lL hll (List.getElem_mem hlt)
  refine⟨g,g1,g2 ow x σ' H3 _ hl' (E'.same sm3) (rx.flat _ li) fun σ2 hl2 E2=>?_⟩
  exact⟨ρ1,ht,E2,fun H4 s4=>⟨hlt,ρ1,E2.same s4,hl2,sm.trans (sm3.trans s4),hf⟩⟩
 ·have ei:i=ds.length:=by omega
  subst ei
  rw[List.drop_length]at hf
  cases (show ρf=ρ' from hf)
  exact .inl ⟨it.2 (Nat.le_refl _),q ow σ' H' E' hl' (aY.same (s1.trans sm))⟩
inductive Rp(Φ:Fx)(sc:Scope)(tg c:Expr):List D->af->af->Prop where
 | nil {ρ:af}:Rp Φ sc tg c [] ρ ρ
 | cons {d:D} {ds:List D} {ρ ρ1 ρ':af} {k:Nat} (hb:bQ sc tg d ρ=some ρ1) (hc:ac (aA Φ c false sc ρ1) (.bl false,k)) (h:Rp Φ sc tg c ds ρ1 ρ'):Rp Φ sc tg c (d::ds) ρ ρ'
inductive Xo(Φ:Fx)(sc:Scope)(ρ:af):Option Expr->Option Int->Prop where
 | no:Xo Φ sc ρ none none
 | yes {e:Expr} {i:Int} {k:Nat} (h:ac (aA Φ e false sc ρ) (.int i,k)):Xo Φ sc ρ (some e) (some i)
inductive se(Φ:Fx)(sc:Scope)(ρ:af):Expr->D->Prop where
 | name {x:Str} {p:Pos} {m:List D} (h:ρ x=some (.lst m,false)) (hx:eM x=true):se Φ sc ρ (.Name x p) (.lst m)
 | cut {e:Expr} {lo hi:Option Expr} {l h:Option Int} {m:List D} {p2 p:Pos} (he:se Φ sc ρ e (.lst m)) (hl:Xo Φ sc ρ lo l) (hh:Xo Φ sc ρ hi h):se Φ sc ρ (.Subscript e (.Slice lo hi none p2) p) (.lst (yg m l h))
 | cat {a b:Expr} {l m:List D} {p:Pos} (ha:se Φ sc ρ a (.lst l)) (hb:se Φ sc ρ b (.lst m)) (hn:l.length+m.length<=bA):se Φ sc ρ (.BinOp a .Add b p) (.lst (l++m))
theorem Dd{e:Option Expr}{i:Option Int}(G:aQ Φ X sc)(h:Xo Φ sc ρ e i):OD X ρ e i:=by
 cases h with
 | no=>exact wk
 | yes h=>exact wj ((bI h G).ed rfl)
theorem IB(m:List D):kn (.lst m) 1=1:=by rfl
theorem Db(G:aQ Φ X sc)(h:se Φ sc ρ e d):ED X ρ e d 1/\iI e=false:=by
 induction h with
 | name h hx=>exact⟨by have:=wH (X:=X) (pos:=‹Pos›) h hx;rw[show cond false 2 1=1 from rfl,IB]at this;exact this,rfl⟩
 | cut he hl hh ih=>exact⟨Gh ih.1 (Dd G hl) (Dd G hh),rfl⟩
 | cat ha hb hn ia ib=>exact⟨Gj ia.1 ib.1 hn,rfl⟩
mutual
inductive Rf(Φ:Fx)(sc:Scope):List Stmt->af->Fl->Prop where
 | base {ss:List Stmt} {ρ:af} {fl:Fl} (h:ac (aC Φ ss sc ρ) fl):Rf Φ sc ss ρ fl
 | cut (n:Nat) {ss:List Stmt} {ρ ρ1:af} {fl:Fl} (h:ac (aC Φ (ss.take n) sc ρ) (.nx ρ1)) (k:Rf Φ sc (ss.drop n) ρ1 fl):Rf Φ sc ss ρ fl
 | seq {s:Stmt} {ss:List Stmt} {ρ ρ1:af} {fl:Fl} (h:mM Φ sc s ρ (.nx ρ1)) (k:Rf Φ sc ss ρ1 fl):Rf Φ sc (s::ss) ρ fl
 | stop {s:Stmt} {ss:List Stmt} {ρ:af} {r:D} (h:mM Φ sc s ρ (.rt r)):Rf Φ sc (s::ss) ρ (.rt r)
 | dem {ss:List Stmt} {ρ:af} {fl:Fl} (k:Rf Φ sc ss (fP ρ) fl):Rf Φ sc ss ρ fl
inductive mM(Φ:Fx)(sc:Scope):Stmt->af->Fl->Prop where
 | set {x:Str} {e:Expr} {px q:Pos} {ρ:af} {d:D} (h:Xd Φ sc ρ e d) (hx:cY sc x=true) (hc:iI e=false):mM Φ sc (.Assign [.Name x px] e q) ρ (.nx (bc ρ x (d,true)))
 | setS {x:Str} {e:Expr} {px q:Pos} {ρ:af} {d:D} (h:se Φ sc ρ e d) (hx:cY sc x=true):mM Φ sc (.Assign [.Name x px] e q) ρ (.nx (bc ρ x (d,false)))
 | app1 {x m:Str} {M:List D->List D->Nat->Rs (List D)} {i e:Expr} {p1 p2 ap cp p4:Pos} {ρ:af} {dt l l':List D} {d:D} {j:Int} {k ki:Nat} (hM:Φ.mtt m=some M) (hx:ρ x=some (.tup dt,true)) (hi:ac (aA Φ i false sc ρ) (.int j,ki)) (hs:fJ i) (hat:L2.atI dt j=some (.lst l)) (h:ac (bG Φ [e] sc ρ) ([d],k)) (hn:eM x=true) (hln:(ap.endLine==cp.line)=true) (hm:ac (M l [d] k) l') :
  mM Φ sc (.Expr (.Call (.Attribute (.Subscript (.Name x p1) i p2) m ap) [e] [] cp) p4) ρ (.nx (qd ρ x))
 | sto2 {x:Str} {e i m:Expr} {p1 p2 p3 pos:Pos} {ρ:af} {Ls:List (List Int)} {l:List Int} {j jm v:Int} {n nm k k1 k2:Nat} (hx:ρ x=some (.lst (Ls.map i9),true)) (h:ac (aA Φ e false sc ρ) (.int v,k)) (hi:ac (aA Φ i false sc ρ) (.int j,k1)) (hm:ac (aA Φ m false sc ρ) (.int jm,k2)) (hn:eM x=true)
  (h1:ja Ls.length j=some n) (h2:Ls[n]?=some l) (h3:ja l.length jm=some nm) (hd:∀a y,Ls[a]?=some y->a≠n->y≠l) (hs:fJ i) (hsl:∀a b c p,m ≠ .Slice a b c p) :
  mM Φ sc (.Assign [.Subscript (.Subscript (.Name x p1) i p2) m p3] e pos) ρ (.nx (bc ρ x (.lst ((Ls.set n (l.set nm v)).map i9),true)))
 | ret {e:Expr} {q:Pos} {ρ:af} {d:D} (h:Xd Φ sc ρ e d):mM Φ sc (.Return (some e) q) ρ (.rt d)
 | iff {c:Expr} {a b:List Stmt} {pos:Pos} {ρ:af} {t:Bool} {k:Nat} {fl:Fl} (hc:ac (aA Φ c false sc ρ) (.bl t,k)) (h:Rf Φ sc (cond t a b) ρ fl):mM Φ sc (.If c a b pos) ρ fl
 | forC {tg it:Expr} {body:List Stmt} {pos:Pos} {ρ:af} {d:D} {ds:List D} {k:Nat} {fl:Fl} (hi:ac (aA Φ it true sc (demote it ρ)) (d,k)) (hd:items d=some ds) (hk:k<=1) (ht:fc it tg=true) (h:Rc Φ sc tg body ds (demote it ρ) fl):mM Φ sc (.For tg it body [] pos) ρ fl
 | forP {tg it c:Expr} {a:List Stmt} {pos q:Pos} {ρ ρ':af} {d:D} {ds:List D} {k:Nat} (hi:ac (aA Φ it true sc ρ) (d,k)) (hd:items d=some ds) (hl:ar ds=true) (ht:fc it tg=true) (h:Rp Φ sc tg c ds ρ ρ'):mM Φ sc (.For tg it [.If c a [] q] [] pos) ρ (.nx ρ')
inductive Rc(Φ:Fx)(sc:Scope):Expr->List Stmt->List D->af->Fl->Prop where
 | nil {tg:Expr} {body:List Stmt} {ρ:af}:Rc Φ sc tg body [] ρ (.nx ρ)
 | cons {tg:Expr} {body:List Stmt} {d:D} {ds:List D} {ρ ρ1 ρ2:af} {fl:Fl} (hb:bQ sc tg d ρ=some ρ1) (h:Rf Φ sc body ρ1 (.nx ρ2)) (k:Rc Φ sc tg body ds ρ2 fl):Rc Φ sc tg body (d::ds) ρ fl
 | stop {tg:Expr} {body:List Stmt} {d:D} {ds:List D} {ρ ρ1:af} {r:D} (hb:bQ sc tg d ρ=some ρ1) (h:Rf Φ sc body ρ1 (.rt r)):Rc Φ sc tg body (d::ds) ρ (.rt r)
end
theorem Lv{ρ':af}(G:aQ Φ X sc)(h:Rp Φ sc tg c ds ρ ρ'):Bg X tg c ds ρ ρ':=by
 induction h with
 | nil=>exact rfl
 | cons hb hc h ih=>exact⟨_,pR G hb,(bI hc G).td rfl false rfl,ih⟩
theorem Lw(G:aQ Φ X sc)(hp:PassesOwn (model X.prog X.w) X.A X.env X.xe)(h:Rf Φ sc ss ρ fl):fo X H0 ρ ss fl:=by
 refine Rf.rec (motive_1:=fun ss ρ fl _=>fo X H0 ρ ss fl) (motive_2:=fun s ρ fl _=>SD X H0 ρ s fl) (motive_3:=fun tg body ds ρ fl _=>Bf X H0 tg body ds ρ fl) ?_ ?_ ?_ ?_ ?_ ?_ ?_ ?_ ?_ ?_ ?_ ?_ ?_ ?_ ?_ ?_ h
 ·intro ss ρ fl h;exact jK _ h G hp
 ·intro n ss ρ ρ1 fl h k ih;rw[<- List.take_append_drop n ss];exact qG G hp h ih
 ·intro s ss ρ ρ1 fl h k i1 i2;exact iz i1 i2
 ·intro s ss ρ r h ih;exact iw ih fun _ z=>nomatch z
 ·intro ss ρ fl k ih;exact Ev ih
 ·intro x e px q ρ d h hx hc;exact pj G hx (De G h) (.inl ⟨rfl,rfl⟩) (fi hc)
 ·intro x e px q ρ d h hx;exact pj G hx (Db G h).1 (.inr ⟨rfl,rfl⟩) (fi (Db G h).2)
 ·intro x m M i e p1 p2 ap cp p4 ρ dt l l' d j k ki hM hx hi hs hat h hn hln hm
  obtain⟨l7,h7,p7⟩:=h
  obtain⟨hst,_⟩:=ck h7 p7
  obtain⟨o,hm,hp⟩:=hm
  exact EG G.calm (G.mtt m M hM) hx ((bI hi G).ed rfl) hs hat (fO [_] h7 p7 G) (hst e List.mem_cons_self) hn hln hm hp
 ·intro x e i m p1 p2 p3 pos ρ Ls l j jm v n nm k k1 k2 hx h hi hm hn h1 h2 h3 hd hs hsl;exact EA hx ((bI h G).ed rfl) ((bI hi G).ed rfl) ((bI hm G).ed rfl) hn h1 h2 h3 hd hs hsl
 ·intro e q ρ d h;exact tG (De G h) (.inl rfl)
 ·intro c a b pos ρ t k fl hc h ih
  refine Dr ((bI hc G).td rfl t rfl) ?_
  cases t with
  | true=>rw[if_pos rfl];exact ih
  | false=>rw[if_neg Bool.false_ne_true];exact ih
 ·intro tg it body pos ρ d ds k fl hi hd hk ht h ih
  obtain⟨l,h1,h2⟩:=hi
  exact EI hp G.calm ((bI ⟨l,h1,h2⟩ G).ie rfl _ ds hd ht) hk ih (jf h1)
 ·intro tg it c a pos q ρ ρ' d ds k hi hd hl ht h
  obtain⟨l,h1,h2⟩:=hi
  exact EH hp G.calm ((bI ⟨l,h1,h2⟩ G).ie rfl _ ds hd ht) hl (Lv G h) (jf h1)
 ·intro tg body ρ;exact rfl
 ·intro tg body d ds ρ ρ1 ρ2 fl hb h k i1 i2;exact⟨_,pR G hb,.inl ⟨_,i1,i2⟩⟩
 ·intro tg body d ds ρ ρ1 r hb h ih;exact⟨_,pR G hb,.inr ⟨_,rfl,ih⟩⟩
def yA(Φ:Fx)(sc:Scope)(ps:List Str)(ss:List Stmt)(ds:List D)(r:D):Prop:=ds.length=ps.length/\Rf Φ sc ss (cD ps ds) (.rt r)
theorem FT{ps:List Str}{F:List D->Rs D}(Fn:jQ K g qual st f fd)
  (S:aM (az (aa st)) ps (aa st)) (hΦ:sh P w K mg base k Φ) (hrun:∀ds r,ac (F ds) r->yA Φ (aa st) ps (ak st) ds r):bH P w K mg base dF (k+1) f fd ps (jw K F):=by
 refine Fn.ok S (fun vs H Q E h=>?_) (fun cdv A outer s H vs Q E hr h=>?_)
 ·obtain⟨ds,r,l,h1,h2,hp,_⟩:=h
  rw[<- h1.length]
  exact(hrun ds r ⟨l,h2,hp⟩).1
 ·obtain⟨ds,r,l,h1,h2,hp,qq⟩:=h
  obtain⟨hl,hr'⟩:=hrun ds r ⟨l,h2,hp⟩
  have G:=jI (outer:=outer) (H:=H) (E:=E) S hΦ hr
  obtain⟨E0,hsl⟩:=lZ (P:=P) (w:=w) (mg:=mg) (base:=base) (qual:=qual) (f:=f) (cdv:=cdv) (A:=A) (outer:=outer) (s:=s) (E:=E) S h1 hl
  have B0:cj H (fun _=>none) H:=fun a o h=>⟨h,rfl⟩
  exact⟨_,Lw (H0:=H) G PassesOwn.never hr',fun _=>none,E0,hsl,B0,fun v H' sm rp=>qq v H' sm rp⟩
end Sp
namespace K
open PySem L2 Sp
variable{a b c d n:Int}{L ds:List D}{r:Xs}{q u:Qd}{ns:List Int}{w:World}{mg:Str->Option Value}{l:W.OpenLaw}{loose:List Str}{XP:(Str->Option Value)->Heap->Prop}
def ai(i:Nat):Stmt:=PySem.Challenge.pw_spaceturns_k20_taken_apart.main.body.getD i (.Pass ⟨0,0,0,0⟩)
local macro_rules | `(tactic| walk_at "leaf") => `(tactic| first | ((with_reducible apply qS);decide) | ((with_reducible apply gh);decide) | ((with_reducible apply wK) <;> decide) | ((with_reducible apply bR) <;> (with_reducible assumption)) | ((with_reducible apply powOk_s) <;> decide) | ((with_reducible refine Eq.trans ?_ rfl);exact rfl) | ((with_reducible apply cel_bits);(with_reducible assumption)) | ((with_reducible apply Ik);assumption) | exact Nat.le_of_ble_eq_true rfl|exact Or.inl rfl|exact Or.inr rfl|exact Or.inr (Nat.le_refl 1) | exact Or.inr (Nat.zero_le 1) | decide|decide +kernel)
local macro_rules | `(tactic| walk_at "ob") => `(tactic| (repeat' (first|with_reducible exact True.intro|with_reducible exact CP|with_reducible apply yt|with_reducible apply CO|with_reducible apply vH|with_reducible assumption | ((with_reducible apply eZ);intro hgd) | walk_at "leaf")))
local macro_rules | `(decl_name%) => `(cv rfl (by walk_at "ob"))
def BL:List (Str×(List D->R1)):=[("len", CH),("tuple", u5),("list", yq),("abs", CM),("all", CL),("sum", CF),("isinstance", CI),("int", CK)]
def IL:List (Str×(List D->Nat->R1)):=[("range", lX),("zip", Cb),("enumerate", x8),("reversed", Cd)]
def ML:List (Str×(D->List D->R1)):=[]
def TL:List (Str×(List D->List D->Nat->Rs (List D))):=[("append", jG),("insert", nh)]
def EX:Str->Option (Str×Option Str):=fun c=>([("Divided", "SpaceError", some "by"),("NoOrder", "SpaceError", some "at"),("NoSide", "SpaceError", none),("Nought", "SpaceError", none)]:List (Str×Str×Option Str)).lookup c
def CS:Fx:=Tb [] [] BL IL ML TL cm
def CY:List D->Rs D:=bZ CS (aa (ai 36)) ["_law_script", "_law_k"] (ak (ai 36))
def kC:List D->Rs D:=pe dL dI fun l k=>.ok (.int (gS l k)) [DF l]
theorem vM:∀ds r,ac (kC ds) r->ac (CY ds) r:=by
 intro ds r h
 obtain⟨l,k,rfl,h⟩:=gb h
 obtain⟨rfl,⟨ns,rfl⟩,_⟩:=b0 h
 refine cX (bX 1 (cv rfl True.intro) (sv (cv rfl True.intro) (fun ht=>?_) (fun hf=>?_)))
 ·have hl:(ns.map D.int).length=ns.length:=by simp
  have hp:(0:Int)<((ns.map D.int).length:Nat):=by simpa using ht
  have hi:L2.atI (ns.map D.int) (k.fmod (((ns.map D.int).length:Nat):Int))=some (.int (mj ns k)):=by
   rw[hl]at hp⊢
   have hne:ns≠[]:=by intro z;subst z;simp at hp
   unfold mj
   rw[if_neg hne]
   exact GB (Int.fmod_nonneg_of_pos _ hp) (Int.fmod_lt_of_pos _ hp)
  refine bD (bE (d:=.int (mj ns k)) (nl (cv rfl True.intro) (cv rfl ⟨Int.ne_of_gt hp,True.intro⟩) rfl hi)) ?_
  refine decl_name%.eq ?_
  unfold gS D1;rw[o3]
 ·have hp:ns=[]:=by
   cases ns with
   | nil=>rfl
   | cons n ns=>simp at hf
  subst hp
  refine decl_name%.eq ?_
  rfl
def AU:Fx:=Tb [] [] BL IL ML TL cm
def mI:List D->Rs D:=bZ AU (aa (ai 42)) [] (ak (ai 42))
def jv:List Qd:=[(2,0,0,0),(-2,0,0,0),(0,2,0,0),(0,-2,0,0),(0,0,2,0),(0,0,-2,0),(0,0,0,2),(0,0,0,-2),(1,1,1,1),(-1,1,1,1),(1,-1,1,1),(-1,-1,1,1),(1,1,-1,1),(-1,1,-1,1),(1,-1,-1,1),(-1,-1,-1,1),(1,1,1,-1),(-1,1,1,-1),(1,-1,1,-1),(-1,-1,1,-1),(1,1,-1,-1),(-1,1,-1,-1),(1,-1,-1,-1),(-1,-1,-1,-1)]
theorem Em:ac (mI []) (.lst (jv.map dq)):=cv rfl (by walk_at "ob")
theorem lj:∀p∈jv,p∈sy:=by decide +kernel
def AW:Fx:=Tb [] [] BL IL ML TL cm
def mJ:List D->Rs D:=bZ AW (aa (ai 43)) ["_law_n"] (ak (ai 43))
theorem FQ(hn:n∈c7):ac (mJ [.int n]) (.lst ((fe n).map dq)):=by
 have hb:n.natAbs<=97:=by
  have:∀x∈c7,x.natAbs<=97:=by decide
  exact this n hn
 have m4:bJ 4 n:=gh (by decide)
 refine cX (bX 3 decl_name% (SV (Q:=Sub (bW [("_law_found", .lst ((fe n).map dq),true)])) 1 ?_ fun ρ1 s=>dy s decl_name%))
 refine fM (fG (h:=D.int) (g:=yd n) (T:=fe n) (F:=[]) (R:=[]) (fun F ρ=>Sub (bW [("_law_n", .int n,false),("_law_roots", .dct (nQ gK) (v3 gK),true),("_law_found", .lst (F.map dq),true)]) ρ) ([0,1]:List Int) decl_name% rfl (ae rfl (ae rfl (ae rfl aO))) (by simp only[List.nil_append,List.append_nil];rfl) fun par hpar F R ρ e s=>⟨_,rfl,?_⟩) fun ρ s=>fj (ae s.get aO)
 have hpar:par=0\/par=1:=by simpa using hpar
 have s1:=s.put (Str.ofString "_law_parity") (.int par,false)
 refine eV (bE (d:=.lst ((eL n par).map D.int)) (bz s1 (Cl (l:=(List.range 41).map fun i:Nat => -20+(i:Int)) (g:=D.int) (f:=D.int) (t:=fun k=>decide (k.fmod 2=par)&&decide (k*k<=4*n)) decl_name% (by rw[List.map_map];rfl) (by simp;decide) (.inr (Nat.zero_le _)) fun x hx=>⟨_,0,rfl,?_,fun _=>decl_name%⟩))) ?_
 ·have hx:-20<=x/\x<=20:=by
   obtain⟨i,hi,rfl⟩:=List.mem_map.mp hx
   have:i<41:=by simpa using hi
   omega
  have mx:bJ x x:=gh (by omega)
  exact wD (decl_name%.bl (gz _ _)) decl_name%
 have sl:=tx (n:=n) hpar
 have fl:=Cj n
 have s2:=s1.put (Str.ofString "_law_some") (.lst ((eL n par).map D.int),true)
 refine fM (fG (h:=D.int) (g:=yc n par) (T:=fe n) (F:=F) (R:=R) (fun F ρ=>Sub (bW [("_law_n", .int n,false),("_law_roots", .dct (nQ gK) (v3 gK),true),("_law_found", .lst (F.map dq),true),("_law_parity", .int par,false),("_law_some", .lst ((eL n par).map D.int),false)]) ρ) (eL n par) (bz (s2.demote _) decl_name%) rfl (ae (s2.demote _).get (ae (s2.demote _).get (ae (s2.demote _).get (ae (s2.demote _).get (ae (s2.demote _).get aO))))) e fun a ha F R ρ e s=>⟨_,rfl,?_⟩) fun ρ s=>fj (ae s.get (ae s.get (ae s.get aO)))
 have s3:=s.put (Str.ofString "_law_a") (.int a,false)
 refine fM (fG (h:=D.int) (g:=yb n par a) (T:=fe n) (F:=F) (R:=R) (fun F ρ=>Sub (bW [("_law_n", .int n,false),("_law_roots", .dct (nQ gK) (v3 gK),true),("_law_found", .lst (F.map dq),true),("_law_parity", .int par,false),("_law_some", .lst ((eL n par).map D.int),false),("_law_a", .int a,false)]) ρ) (eL n par) (bz (s3.demote _) decl_name%) rfl (ae (s3.demote _).get (ae (s3.demote _).get (ae (s3.demote _).get (ae (s3.demote _).get (ae (s3.demote _).get (ae (s3.demote _).get aO)))))) e fun b hb F R ρ e s=>⟨_,rfl,?_⟩) fun ρ s=>fj (ae s.get (ae s.get (ae s.get (ae s.get (ae s.get aO)))))
 have s4:=s.put (Str.ofString "_law_b") (.int b,false)
 refine fM (fG (h:=D.int) (g:=kz n par a b) (T:=fe n) (F:=F) (R:=R) (fun F ρ=>Sub (bW [("_law_n", .int n,false),("_law_roots", .dct (nQ gK) (v3 gK),true),("_law_found", .lst (F.map dq),true),("_law_parity", .int par,false),("_law_some", .lst ((eL n par).map D.int),false),("_law_a", .int a,false),("_law_b", .int b,false)]) ρ) (eL n par) (bz (s4.demote _) decl_name%) rfl (ae (s4.demote _).get (ae (s4.demote _).get (ae (s4.demote _).get (ae (s4.demote _).get (ae (s4.demote _).get (ae (s4.demote _).get (ae (s4.demote _).get aO))))))) e fun c hc F R ρ e s=>⟨_,rfl,?_⟩) fun ρ s=>fj (ae s.get (ae s.get (ae s.get (ae s.get (ae s.get (ae s.get aO))))))
 obtain⟨_,a1,a2⟩:=gc ha
 obtain⟨_,b1,b2⟩:=gc hb
 obtain⟨_,c1,c2⟩:=gc hc
 have ma:bJ a a:=gh (by omega)
 have mb:bJ b b:=gh (by omega)
 have mc:bJ c c:=gh (by omega)
 have e0:=e
 have le:F.length+(kz n par a b c).length<=37044:=by
  have:(F++(kz n par a b c++R)).length<=37044:=by rw[e];exact fl
  simp only[List.length_append]at this
  omega
 have s5:=s.put (Str.ofString "_law_c") (.int c,false)
 have hget:=Ak (nV n a b c) gK
 unfold kz at le⊢
 cases hr:tK gK (nV n a b c)with
 | none =>
  have hin:fB (nQ gK) (.inl (nV n a b c))=false:=by rw[uu,hr];rfl
  refine cM s5 (bX 1 decl_name% (cA (t:=false) (k:=0) (d9 (ir (b:=false) (k:=0) (fk decl_name% decl_name% (r:=false) (pN hin)) (fun z=>by cases z) (fun _=>rfl))) rfl dw)) fun ρ' s'=>?_
  simp only[List.append_nil]
  exact ae s'.get (ae s'.get (ae s'.get (ae s'.get (ae s'.get (ae s'.get (ae s'.get aO))))))
 | some d =>
  have hin:fB (nQ gK) (.inl (nV n a b c))=true:=by rw[uu,hr];rfl
  rw[hr]at hget le
  obtain⟨_,d1,d2⟩:=vZ hr
  dsimp only at le⊢
  by_cases hp:d.fmod 2=par
  ·rw[if_pos hp]at le⊢
   by_cases hl:0<nV n a b c
   ·rw[if_pos hl]at le⊢
    simp only[List.length_cons,List.length_nil]at le
    have l1:(F.map dq).length<bA:=by rw[List.length_map];show _<40000;omega
    have l2:(F.map dq++[dq (a,b,c,d)]).length<bA:=by rw[List.length_append,List.length_map];show _+1<40000;omega
    refine cM s5 (bX 1 decl_name% (ly (t:=true) (k:=0) (d9 (gy (k:=0) (fk decl_name% decl_name% (r:=true) (pN hin)) (gy (k:=0) (fk (uL (iu decl_name% decl_name% rfl hget) decl_name% decl_name%) decl_name% (r:=true) (decl_name%.eq ((gz _ _).trans (decide_eq_true hp)))) jL))) rfl (bD (pU (l:=F.map dq) (l':=F.map dq++[dq (a,b,c,d)]) (bh (uK (bh decl_name% (bh decl_name% (bh decl_name% (bh (iu decl_name% decl_name% rfl hget) dm)))) (Nat.le_of_ble_eq_true rfl)) dm) rfl (qk l1)) (ly (t:=decide (0<nV n a b c)) (k:=0) decl_name% (decide_eq_true hl) (bD (pU (l:=F.map dq++[dq (a,b,c,d)]) (l':=F.map dq++[dq (a,b,c,d)]++[dq (a,b,c,-d)]) (bh (uK (bh decl_name% (bh decl_name% (bh decl_name% (bh (Jj (iu decl_name% decl_name% rfl hget)) dm)))) (Nat.le_of_ble_eq_true rfl)) dm) rfl (qk l2)) dw))))) fun ρ' s'=>?_
    rw[List.map_append]
    exact ae s'.get (ae s'.get (ae (s'.get.trans (by rw[List.append_assoc];rfl)) (ae s'.get (ae s'.get (ae s'.get (ae s'.get aO))))))
   ·rw[if_neg hl]at le⊢
    simp only[List.length_cons,List.length_nil]at le
    have l1:(F.map dq).length<bA:=by rw[List.length_map];show _<40000;omega
    refine cM s5 (bX 1 decl_name% (ly (t:=true) (k:=0) (d9 (gy (k:=0) (fk decl_name% decl_name% (r:=true) (pN hin)) (gy (k:=0) (fk (uL (iu decl_name% decl_name% rfl hget) decl_name% decl_name%) decl_name% (r:=true) (decl_name%.eq ((gz _ _).trans (decide_eq_true hp)))) jL))) rfl (bD (pU (l:=F.map dq) (l':=F.map dq++[dq (a,b,c,d)]) (bh (uK (bh decl_name% (bh decl_name% (bh decl_name% (bh (iu decl_name% decl_name% rfl hget) dm)))) (Nat.le_of_ble_eq_true rfl)) dm) rfl (qk l1)) (cA (t:=decide (0<nV n a b c)) (k:=0) decl_name% (decide_eq_false hl) dw)))) fun ρ' s'=>?_
    rw[List.map_append]
    exact ae s'.get (ae s'.get (ae s'.get (ae s'.get (ae s'.get (ae s'.get (ae s'.get aO))))))
  ·rw[if_neg hp]at le⊢
   refine cM s5 (bX 1 decl_name% (cA (t:=false) (k:=0) (d9 (gy (k:=0) (fk decl_name% decl_name% (r:=true) (pN hin)) (ir (b:=false) (k:=0) (fk (uL (iu decl_name% decl_name% rfl hget) decl_name% decl_name%) decl_name% (r:=false) (decl_name%.eq ((gz _ _).trans (decide_eq_false hp)))) (fun z=>by cases z) (fun _=>rfl)))) rfl dw)) fun ρ' s'=>?_
   simp only[List.append_nil]
   exact ae s'.get (ae s'.get (ae s'.get (ae s'.get (ae s'.get (ae s'.get (ae s'.get aO))))))
def AV:Fx:=Tb [] [] BL IL ML TL cm
def Bb:List D->Rs D:=bZ AV (aa (ai 40)) ["_law_one", "_law_other"] (ak (ai 40))
def jj:List D->Rs D:=pe dQ dQ fun p q=>.ok (dq (aP p q)) [ee p,ee q]
theorem vi:∀ds r,ac (jj ds) r->ac (Bb ds) r:=by
 intro ds r h
 obtain⟨p,q,rfl,h'⟩:=gb h
 obtain⟨rfl,⟨a1,a2,a3,a4⟩,⟨b1,b2,b3,b4⟩,_⟩:=b0 h'
 exact decl_name%
def my:Fx:=Tb [("_law_units", mI),("_law_cell", kC),("_law_fours", mJ),("_law_times", jj)] [] BL IL ML TL cm
def mK:List D->Rs D:=bZ my (aa (ai 44)) ["_law_script", "_law_begin", "_law_many"] (ak (ai 44))
def zt(w:Qd):Prop:=gQ 5 w/\au w∈c7
theorem Mn{α:Type}{f:α->D}{l:List α}(h:0<l.length):∃x∈l,L2.atI (l.map f) (c.fmod ((l.map f).length:Nat))=some (f x):=by
 rw[List.length_map]
 exact sE (Int.fmod_nonneg_of_pos _ (by omega)) (Int.fmod_lt_of_pos _ (by omega))
theorem Gq(hl:DF L)(b:Int){m:Nat}(hm:m<=7):∃(u:Qd) (ws:List Qd),u∈jv/\ws.length=m/\(∀w∈ws,zt w)/\ac (mK [.lst L,.int b,.int m]) (.tup [dq u,.lst (ws.map dq),.lst ((ws.map au).map D.int),dq (ws.foldl aP u)]):=by
 obtain⟨u,hu,hat⟩:=sE (f:=dq) (l:=jv) (i:=(gS L b).fmod 24) (Int.fmod_nonneg_of_pos _ (by decide)) (Int.fmod_lt_of_pos _ (by decide))
 have gu:=L6 (lj u hu)
 obtain⟨r,h1,ws,w1,w2,hr⟩:∃r,ac (aC my (ak (ai 44)) (aa (ai 44)) (cD ["_law_script", "_law_begin", "_law_many"] [.lst L,.int b,.int m])) (.rt r)/\∃ws:List Qd,ws.length=m/\(∀w∈ws,zt w)/\r=.tup [dq u,.lst (ws.map dq),.lst ((ws.map au).map D.int),dq (ws.foldl aP u)]:=by
  obtain⟨ρ',g1,ws,w1,w2,s⟩:∃ρ',ac (aC my ((ak (ai 44)).take 5) (aa (ai 44)) (cD ["_law_script", "_law_begin", "_law_many"] [.lst L,.int b,.int m])) (.nx ρ')/\∃ws:List Qd,ws.length=m/\(∀w∈ws,zt w)/\Sub (bW [("_law_primes", .lst ((ws.map au).map D.int),true),("_law_parts", .lst (ws.map dq),true),("_law_whole_here", dq (ws.foldl aP u),true),("_law_unit", dq u,true)]) ρ':=by
   refine zJ 2 decl_name% (eV (bE (d:=dq u) (nl (bS decl_name% Em) decl_name% rfl hat)) (zJ 1 decl_name% (fM (P:=fun ρ' => ∃ws:List Qd,ws.length=m/\(∀w∈ws,zt w)/\Sub (bW [("_law_primes", .lst ((ws.map au).map D.int),true),("_law_parts", .lst (ws.map dq),true),("_law_whole_here", dq (ws.foldl aP u),true),("_law_unit", dq u,true)]) ρ') (IW (n:=m) (fun i ρ => ∃ws:List Qd,ws.length=i/\(∀w∈ws,zt w)/\gQ (1+6*i) (ws.foldl aP u)/\Sub (bW [("_law_script", .lst L,false),("_law_begin", .int b,false),("_law_primes", .lst ((ws.map au).map D.int),true),("_law_parts", .lst (ws.map dq),true),("_law_whole_here", dq (ws.foldl aP u),true),("_law_unit", dq u,true)]) ρ) (Mb (B:=lX) decl_name% (Hw (by omega))) ⟨[],rfl,(fun w h=>by cases h),gu,ae rfl (ae rfl (ae rfl (ae rfl (ae rfl (ae rfl (aO))))))⟩ ?_ ?_) fun ρ h=>fj h)))
   ·rintro i ρ hi ⟨ws,w1,w2,w3,s⟩
    refine⟨_,rfl,?_⟩
    have s1:=s.put (Str.ofString "_law_k") (.int (i:Nat),false)
    obtain⟨p0,hp0,at0⟩:=sE (f:=D.int) (l:=[2,3,5,7,11,13,3,5]) (i:=(gS L (b+1+(i:Nat))).fmod 8) (Int.fmod_nonneg_of_pos _ (by decide)) (Int.fmod_lt_of_pos _ (by decide))
    obtain⟨p1,hp1,at1⟩:=sE (f:=D.int) (l:=[17,19,23,29,31,37,41,43,47,53,59,61,67,71,73,79,83,89,97]) (i:=((gS L (b+1+(i:Nat))).fdiv 192).fmod 19) (Int.fmod_nonneg_of_pos _ (by decide)) (Int.fmod_lt_of_pos _ (by decide))
    have q0:p0∈c7:=(show ∀x∈([2,3,5,7,11,13,3,5]:List Int),x∈c7 by decide) p0 hp0
    have q1:p1∈c7:=(show ∀x∈([17,19,23,29,31,37,41,43,47,53,59,61,67,71,73,79,83,89,97]:List Int),x∈c7 by decide) p1 hp1
    refine S5 (Q:=fun ρ => ∃(n:Int),n∈c7/\Sub (bW [("_law_script", .lst L,false),("_law_begin", .int b,false),("_law_primes", .lst ((ws.map au).map D.int),true),("_law_parts", .lst (ws.map dq),true),("_law_whole_here", dq (ws.foldl aP u),true),("_law_unit", dq u,true),("_law_cell_here", .int (gS L (b+1+(i:Nat))),true),("_law_p", .int n,true)]) ρ) 3 ?_ ?_
    ·have s2:=s1.put (Str.ofString "_law_cell_here") (.int (gS L (b+1+(i:Nat))),true)
     have s3:=s2.put (Str.ofString "_law_p") (.int p0,true)
     exact eV (bE (d:=.int (gS L (b+1+(i:Nat)))) (bz s1 decl_name%)) (eV (bE (d:=.int p0) (bz s2 (nl decl_name% decl_name% rfl at0))) (fM (x6 (k:=0) (bz s3 decl_name%) (fun _=>cM s3 (bD (bE (d:=.int p1) (nl decl_name% decl_name% rfl at1)) dw) fun ρ' s'=>⟨p1,q1,ae s'.get (ae s'.get (ae s'.get (ae s'.get (ae s'.get (ae s'.get (ae s'.get (ae s'.get aO)))))))⟩) (fun _=>fj ⟨p0,q0,ae s3.get (ae s3.get (ae s3.get (ae s3.get (ae s3.get (ae s3.get (ae s3.get (ae s3.get aO)))))))⟩)) fun ρ h=>fj h))
    ·rintro ρ2 ⟨n,hn,s⟩
     obtain⟨w,hw,atw⟩:=Mn (f:=dq) (l:=fe n) (c:=(gS L (b+1+(i:Nat))).fdiv 4096) (uA hn)
     obtain⟨gw,ew⟩:=Ci hw
     subst ew
     have hne:((((fe (au w)).map dq).length:Nat):Int)≠0:=by have:=uA hn;rw[List.length_map];omega
     have l1:((ws.map au).map D.int).length<bA:=by rw[List.length_map,List.length_map,w1];show i<40000;omega
     have l2:(ws.map dq).length<bA:=by rw[List.length_map,w1];show i<40000;omega
     have b1:=w3.bd (by omega)
     have b2:=gw.bd (by decide)
     have s4:=s.put (Str.ofString "_law_some") (.lst ((fe (au w)).map dq),true)
     have s5:=s4.put (Str.ofString "_law_part") (dq w,true)
     refine eV (bE (d:=.lst ((fe (au w)).map dq)) (bz s (bS decl_name% (FQ hn)))) (eV (bE (d:=dq w) (bz s4 (nl decl_name% decl_name% rfl atw))) (cM s5 decl_name% fun ρ' s'=>⟨ws++[w],by rw[List.length_append,w1];rfl,?_,?_,?_⟩))
     ·intro x hx
      rcases List.mem_append.mp hx with hx|hx
      ·exact w2 x hx
      ·rw[List.mem_singleton]at hx;subst hx;exact⟨gw,hn⟩
     ·rw[List.foldl_append]
      have:=w3.mul gw
      exact this.mono (by omega)
     ·rw[List.map_append,List.map_append,List.map_append,List.foldl_append]
      exact ae s'.get (ae s'.get (ae s'.get (ae s'.get (ae s'.get (ae s'.get aO)))))
   ·rintro ρ ⟨ws,w1,w2,w3,s⟩
    exact⟨ws,w1,w2,ae s.get (ae s.get (ae s.get (ae s.get aO)))⟩
  exact⟨_,bX 5 g1 (dy s decl_name%),ws,w1,w2,rfl⟩
 subst hr
 exact⟨u,ws,hu,w1,w2,cX h1⟩
def nY:Fx:=Tb [] [] BL IL ML TL cm
def gD:List D->Rs D:=bZ nY (aa (ai 45)) ["_law_four"] (ak (ai 45))
theorem zX(a b c d G:Int)(f:Bool)(hG:gA G):ac (aC nY ((ak (ai 45)).drop 2) (aa (ai 45)) (bW [("_law_four", t4 a b c d,false),("_law_common", .int G,f)])) (.rt (.int (cond (([D.int ((a.fdiv G).fmod 2),.int ((b.fdiv G).fmod 2),.int ((c.fdiv G).fmod 2),.int ((d.fdiv G).fmod 2)].any fun z=>cG z (.int 0))&&([D.int ((a.fdiv G).fmod 2),.int ((b.fdiv G).fmod 2),.int ((c.fdiv G).fmod 2),.int ((d.fdiv G).fmod 2)].any fun z=>cG z (.int 1))) (G.fdiv 2) G))):=by
 refine bX 1 decl_name% (sv (wD decl_name% decl_name%) (fun ht=>?_) (fun hf=>?_))
 ·rw[ht];exact decl_name%
 ·rw[hf];exact decl_name%
theorem Iz{a:Int}(h0:¬ (a=0/\b=0/\c=0/\d=0))(hb:∀n∈[a,b,c,d],n.natAbs<2 ^ 1000)(hB:gA (gI [a,b,c,d])):ac (gD [t4 a b c d]) (.int (cond (([D.int ((a.fdiv (gI [a,b,c,d])).fmod 2),.int ((b.fdiv (gI [a,b,c,d])).fmod 2),.int ((c.fdiv (gI [a,b,c,d])).fmod 2),.int ((d.fdiv (gI [a,b,c,d])).fmod 2)].any fun z=>cG z (.int 0))&&([D.int ((a.fdiv (gI [a,b,c,d])).fmod 2),.int ((b.fdiv (gI [a,b,c,d])).fmod 2),.int ((c.fdiv (gI [a,b,c,d])).fmod 2),.int ((d.fdiv (gI [a,b,c,d])).fmod 2)].any fun z=>cG z (.int 1))) ((gI [a,b,c,d]).fdiv 2) (gI [a,b,c,d]))):=by
 refine cX (bX 1 decl_name% (qH (ds:=([a,b,c,d]:List Int).map D.int) (fun rem ρ => ∃(r:List Int) (g:Nat) (f:Bool),rem=r.map D.int/\(∀n∈r,n.natAbs<2 ^ 1000)/\dH g r=dH 0 [a,b,c,d]/\g<2 ^ 1000/\Sub (bW [("_law_four", t4 a b c d,false),("_law_common", .int g,f)]) ρ) decl_name% ⟨[a,b,c,d],0,true,rfl,hb,rfl,Nat.pow_pos (by decide),ae rfl (ae rfl aO)⟩ ?_ ?_))
 ·rintro x l ρ ⟨r,g,f,hr,hb',hg,hlt,s⟩
  cases r with
  | nil=>cases hr
  | cons n r =>
   cases hr
   have hn:=hb' n List.mem_cons_self
   have ea:(if n<0 then -n else n)=((n.natAbs:Nat):Int):=by omega
   refine⟨_,rfl,eV (bE (d:=.int (n.natAbs:Nat)) (bz (s.put _ _) (decl_name%.eq (by rw[ea])))) (KM (m:=2002) (fun m ρ => ∃(x y:Nat) (f1 f2:Bool),Bd x y m/\x<2 ^ 1000/\y<2 ^ 1000/\Nat.gcd x y=Nat.gcd g n.natAbs/\Sub (bW [("_law_four", t4 a b c d,false),("_law_common", .int x,f1),("_law_rest", .int y,f2)]) ρ) ⟨g,n.natAbs,f,true,Jk hlt hn,hlt,hn,rfl,ae ((s.put _ _).put _ _).get (ae ((s.put _ _).put _ _).get (ae ((s.put _ _).put _ _).get aO))⟩ (by decide) ?_ ?_)⟩
   ·rintro m ρ ⟨x,y,f1,f2,hm,hx,hy,hg',s⟩
    refine⟨decide ((0:Int)<y),0,bz s decl_name%,fun ht=>?_⟩
    have h0:y≠0:=by
     have:=of_decide_eq_true ht
     omega
    have hn:(y:Int)≠0:=by omega
    obtain⟨m',hm',hE⟩:=wE hm h0
    have e:=Ap x y
    exact mO hm' (cM s decl_name% fun ρ' s'=>⟨y,x % y,false,false,hE,hy,Nat.lt_trans (Nat.mod_lt _ (by omega)) hy,by rw[<- hg',Nat.gcd_comm x y,Nat.gcd_rec y x,Nat.gcd_comm],ae s'.get (ae s'.get (ae (by rw[<- e];exact s'.get) aO))⟩)
   ·rintro m ρ ⟨x,y,f1,f2,hm,hx,hy,hg',s⟩ ⟨k,hk⟩
    have e:=hk.inj (bz s decl_name%)
    have h0:y=0:=by
     have e1:decide ((0:Int)<y)=false:=by injection e with e1 e2;injection e1 with e1;exact e1.symm
     have:=of_decide_eq_false e1
     omega
    subst h0
    rw[Nat.gcd_zero_right]at hg'
    exact⟨r,x,f1,rfl,fun m hm=>hb' m (List.mem_cons_of_mem _ hm),by rw[hg'];exact hg,hx,ae s.get (ae s.get aO)⟩
 ·rintro ρ ⟨r,g,f,hr,hb',hg,hlt,s⟩
  cases r with
  | nil =>
   have e:(g:Int)=gI [a,b,c,d]:=by unfold gI;rw[<- hg];rfl
   rw[<- e]at hB⊢
   exact dy s (zX a b c d _ _ hB)
  | cons n r=>cases hr
def vI:Fx:=Tb [] [] BL IL ML TL cm
def jq:List D->Rs D:=bZ vI (aa (ai 30)) ["one", "other"] (ak (ai 30))
theorem NB(a b:Nat)(ha:a<2 ^ 1000)(hb:b<2 ^ 1000):ac (jq [.int a,.int b]) (.int (Nat.gcd a b:Nat)):=by
 refine cX (lv (m:=2002) (fun m ρ => ∃(x y:Nat) (f g:Bool),Bd x y m/\Nat.gcd x y=Nat.gcd a b/\Sub (bW [("one", .int x,f),("other", .int y,g)]) ρ) ⟨a,b,false,false,Jk ha hb,rfl,ae rfl (ae rfl aO)⟩ (by decide) ?_ ?_)
 ·rintro m ρ ⟨x,y,f,g,hm,hg,s⟩
  refine⟨!decide ((y:Int)=0),0,bz s (decl_name%.bl (by show(!cG (.int y) (.int 0))=_;rw[gz])),fun ht=>?_⟩
  have h0:y≠0:=by
   intro z;subst z;exact absurd ht (by decide)
  have hn:(y:Int)≠0:=by omega
  obtain⟨m',hm',hE⟩:=wE hm h0
  have e:=Ap x y
  exact mO hm' (cM s decl_name% fun ρ' s'=>⟨y,x % y,true,true,hE,by rw[<- hg,Nat.gcd_comm x y,Nat.gcd_rec y x,Nat.gcd_comm],ae s'.get (ae (by rw[<- e];exact s'.get) aO)⟩)
 ·rintro m ρ ⟨x,y,f,g,hm,hg,s⟩ ⟨k,hk⟩
  have e:=hk.inj (bz s decl_name%)
  have h0:y=0:=by
   have e1:(!cG (.int y) (.int 0))=false:=by injection e with e1 e2;injection e1 with e1;exact e1.symm
   rw[gz]at e1
   have:(y:Int)=0:=by simpa using e1
   omega
  subst h0
  rw[<- hg,Nat.gcd_zero_right]
  exact dy s decl_name%
def oN:Fx:=Tb [("shared_by", jq)] [] BL IL ML TL cm
def oQ:List D->Rs D:=bZ oN (aa (ai 29)) ["numbers"] (ak (ai 29))
def d6:List D->Rs D
 | [.tup l]=>.ok (.int (ya l)) [zD l]
 | _=>.st
theorem kX:∀ds r,ac (d6 ds) r->ac (oQ ds) r:=by
 intro ds r h
 unfold d6 at h
 split at h
 ·obtain⟨rfl,⟨ns,rfl,hl,hb⟩,_⟩:=b0 h
  rw[ux]
  refine cX (bX 1 decl_name% (qH (ds:=ns.map D.int) (fun rem ρ => ∃(r:List Int) (g:Nat),rem=r.map D.int/\(∀n∈r,n.natAbs<2 ^ 1000)/\dH g r=dH 0 ns/\g<2 ^ 1000/\Sub (bW [("reached", .int g,true)]) ρ) decl_name% ⟨ns,0,rfl,hb,rfl,Nat.pow_pos (by decide),ae rfl aO⟩ ?_ ?_ rfl (S6 (.tup (ns.map D.int)))))
  ·rintro d l ρ ⟨r,g,hr,hb',hg,hlt,s⟩
   cases r with
   | nil=>cases hr
   | cons n r =>
    cases hr
    have hn:=hb' n List.mem_cons_self
    have ea:(if n<0 then -n else n)=((n.natAbs:Nat):Int):=by omega
    have k:=NB g n.natAbs hlt hn
    refine⟨_,rfl,cM (s.put _ _) (bD (bE (bS (v:=.int (Nat.gcd g n.natAbs:Nat)) (decl_name%.eq (by rw[ea])) k)) dw) fun ρ' s'=>⟨r,Nat.gcd g n.natAbs,rfl,fun m hm=>hb' m (List.mem_cons_of_mem _ hm),hg,?_,ae s'.get aO⟩⟩
    rcases Nat.eq_zero_or_pos g with z|z
    ·subst z;rw[Nat.gcd_zero_left];exact hn
    ·exact Nat.lt_of_le_of_lt (Nat.le_of_dvd z (Nat.gcd_dvd_left _ _)) hlt
  ·rintro ρ ⟨r,g,hr,hb',hg,hlt,s⟩
   cases r with
   | nil =>
    rw[<- hg]
    exact dy s decl_name%
   | cons n r=>cases hr
 ·exact(aq h).elim
def yx:Fx:=Tb [] [] BL IL ML TL cm
def qx:List D->Rs D:=bZ yx (aa (ai 8)) ["thing"] (ak (ai 8))
def AX:Fx:=Tb [("is_whole", qx)] [] BL IL ML TL cm
def mL:List D->Rs D:=bZ AX (aa (ai 9)) ["thing"] (ak (ai 9))
theorem LY(a b c d:Int):ac (mL [.tup [.int a,.int b,.int c,.int d]]) (.bl (decide (b.fmod 2=a.fmod 2)&&(decide (c.fmod 2=a.fmod 2)&&decide (d.fmod 2=a.fmod 2)))):=by
 refine cX (cA decl_name% rfl (cA decl_name% rfl (ac.eq decl_name% ?_)))
 show Fl.rt (.bl ([cG (.int (a.fmod 2)) (.int (a.fmod 2)),cG (.int (b.fmod 2)) (.int (a.fmod 2)),cG (.int (c.fmod 2)) (.int (a.fmod 2)),cG (.int (d.fmod 2)) (.int (a.fmod 2))].all id))=_
 simp[gz]
def fQ:Fx:=Tb [("common_divisor", d6),("is_four", mL)] [("NOUGHT", .tup [.int 0,.int 0,.int 0,.int 0])] BL IL ML TL cm
def qo:Str->Option (List D->Option Xs):=fun g=>([]:List (Str×(List D->Option Xs))).lookup g
def eI:List D->Rs D:=bZ fQ (aa (ai 32)) ["four"] (ak (ai 32))
def ui(a b c d:Int):Bool:=decide (b.fmod 2=a.fmod 2)&&(decide (c.fmod 2=a.fmod 2)&&decide (d.fmod 2=a.fmod 2))
theorem Ek(a b c d G:Int)(hG:gA G):ac (aC fQ ((ak (ai 32)).drop 2) (aa (ai 32)) (bW [("four", t4 a b c d,false),("common", .int G,true)])) (.rt (.int (cond (ui (a.fdiv G) (b.fdiv G) (c.fdiv G) (d.fdiv G)) G (G.fdiv 2)))) :=
 iY (gM (pZ (r:=(.int (cond (ui (a.fdiv G) (b.fdiv G) (c.fdiv G) (d.fdiv G)) G (G.fdiv 2)),0)) (bS decl_name% (LY (a.fdiv G) (b.fdiv G) (c.fdiv G) (d.fdiv G))) (fun ht=>by rw[show ui (a.fdiv G) (b.fdiv G) (c.fdiv G) (d.fdiv G)=true from ht];exact decl_name%) (fun hf=>by rw[show ui (a.fdiv G) (b.fdiv G) (c.fdiv G) (d.fdiv G)=false from hf];exact decl_name%)))
theorem MK(h0:¬ (a=0/\b=0/\c=0/\d=0))(hT:zD (([a,b,c,d]:List Int).map D.int))(aB:a.natAbs<c6)(bB:b.natAbs<c6)(cB:c.natAbs<c6)(dB:d.natAbs<c6):ac (eI [t4 a b c d]) (.int (cond (ui (a.fdiv (gI [a,b,c,d])) (b.fdiv (gI [a,b,c,d])) (c.fdiv (gI [a,b,c,d])) (d.fdiv (gI [a,b,c,d]))) (gI [a,b,c,d]) ((gI [a,b,c,d]).fdiv 2))):=by
 have hd:gA (gI [a,b,c,d]):=by
  have:∃n∈[a,b,c,d],n≠0/\n.natAbs<c6:=by
   by_cases q1:a=0
   ·by_cases q2:b=0
    ·by_cases q3:c=0
     ·exact⟨d,by simp,fun q4=>h0 ⟨q1,q2,q3,q4⟩,dB⟩
     ·exact⟨c,by simp,q3,cB⟩
    ·exact⟨b,by simp,q2,bB⟩
   ·exact⟨a,by simp,q1,aB⟩
  obtain⟨n,hn,n0,nb⟩:=this
  have:=uy hn n0
  exact⟨by omega,Nat.lt_of_le_of_lt (DT hn n0) nb⟩
 have hne:cG (t4 a b c d) (dq aD)=false:=by
  show cG (dq (a,b,c,d)) (dq aD)=false
  rw[yf]
  exact decide_eq_false fun e=>h0 (by injection e with e1 e2;injection e2 with e2 e3;injection e3 with e3 e4;exact⟨e1,e2,e3,e4⟩)
 rw[<- FP]at hd⊢
 exact cX (cA (decl_name%.bl hne) rfl (bX 1 decl_name% (dy (ae rfl (ae rfl aO)) (Ek a b c d _ hd))))
def eG:List D->Option Xs:=fun ds=>match ds with
 | [q]=>if pK q=true then some GJ else none
 | _=>none
theorem mv:∀ds r,eG ds=some r->ds.length=1/\Rz fQ qo EX (aa (ai 32)) (ak (ai 32)) (cD ["four"] ds) r:=by
 intro ds r h
 unfold eG at h
 split at h
 ·rename_i q
  split at h
  ·rename_i hq
   cases h
   cases rO hq
   exact⟨rfl,Rz.iff (t:=true) (k:=0) decl_name% (Rz.raise decl_name% rfl (by decide +kernel) rfl)⟩
  ·cases h
 ·cases h
def kO:Fx:=Tb [] [("PRIMES", .tup [.int 2,.int 3,.int 5,.int 7,.int 11,.int 13,.int 17,.int 19,.int 23,.int 29,.int 31,.int 37,.int 41,.int 43,.int 47,.int 53,.int 59,.int 61,.int 67,.int 71,.int 73,.int 79,.int 83,.int 89,.int 97])] BL IL ML TL cm
def g9:List D->Rs D:=bZ kO (aa (ai 34)) ["order", "whole"] (ak (ai 34))
theorem Mq(h:n∈c7):((c7.map D.int).any fun y=>cG y (.int n))=true:=by
 rw[List.any_eq_true]
 exact⟨.int n,List.mem_map.mpr ⟨n,h,rfl⟩,by rw[gz];exact decide_eq_true rfl⟩
theorem Jl(n:Int):gm (.tup (c7.map D.int)) (.int n)=true:=by
 have k:SeqAt.shaped (D.int n).py=true:=by rw[D.py];rfl
 unfold gm
 rw[k]
 decide +kernel
theorem Fm(h:n∈c7):ac (iL .NotIn (.int n) (.tup (c7.map D.int))) false:=ac.eq ⟨_,rfl,Jl n,True.intro⟩ (by rw[Mq h];rfl)
theorem v8:∀l:List Int,cF l.reverse=cF l
 | []=>rfl
 | n::l=>by rw[List.reverse_cons,mX,v8 l,v9,cC,Int.mul_comm]
theorem wC{ns:List Int}{w:Int}(h:∀n∈ns,n∈c7)(hn:ns.length<=100)(hw:cF ns=w):ac (g9 [.lst (ns.map D.int),.int w]) .non:=by
 have ll:ar (ns.map D.int)=true:=dz (fun _=>rfl) ns
 have ew:=uf 0 ns
 have he:gZ 0 (ns.map D.int)=(List.range ns.length).map fun i=>.tup [.int (i:Nat),.int (ns.getD i 0)]:=by
  conv=>lhs;rw[ew]
  rw[List.map_map]
  exact wF _
 refine cX (bX 1 decl_name% (Do (Q:=fun ρ=>Sub (bW [("order", .lst (ns.map D.int),false),("whole", .int w,false),("reached", .int (cF ns),true)]) ρ) ?_ ?_))
 ·have fa:=fG (Φ:=kO) (sc:=aa (ai 34)) (ρ:=bc (cD ["order", "whole"] [.lst (ns.map D.int),.int w]) "reached" (.int 1,true)) (h:=fun i:Nat=>D.tup [.int (i:Nat),.int (ns.getD i 0)]) (g:=fun i=>[ns.getD i 0]) (T:=(List.range ns.length).flatMap fun i=>[ns.getD i 0]) (F:=[]) (R:=[]) (k:=1) (fun F ρ=>Sub (bW [("order", .lst (ns.map D.int),false),("whole", .int w,false),("reached", .int (cF F),true)]) ρ) (List.range ns.length) (d:=.lst (gZ 0 (ns.map D.int))) (tg:=sC ((ak (ai 34)).getD 1 (.Pass ⟨0,0,0,0⟩))) (it:=sD ((ak (ai 34)).getD 1 (.Pass ⟨0,0,0,0⟩))) (body:=nk ((ak (ai 34)).getD 1 (.Pass ⟨0,0,0,0⟩))) (p:=⟨0,0,0,0⟩) decl_name% (by show some (gZ 0 _)=_;rw[he]) (ae rfl (ae rfl (ae rfl aO))) (by simp) ?_
  ·rw[List.nil_append,jg,<- ew]at fa
   exact fa
  ·intro i hi F R ρ e s
   have hi:i<ns.length:=by simpa using hi
   have hm:ns.getD i 0∈c7:=h _ (by rw[List.getD_eq_getElem?_getD,List.getElem?_eq_getElem hi];exact List.getElem_mem _)
   obtain⟨p1,p2⟩:=iC _ hm
   have mm:bJ (cF F) (ns.getD i 0):=qS (by omega)
   refine⟨_,rfl,cM ((s.put _ _).put _ _) (cA (t:=false) (k:=0) (fk decl_name% decl_name% (Fm hm)) rfl decl_name%) fun ρ' s'=>?_⟩
   rw[mX,v9]
   exact ae s'.get (ae s'.get (ae s'.get (aO)))
 ·intro ρ s
  exact dy s (iY (gM (pZ (r:=(.non,0)) (t:=true) (decl_name%.bl ((gz _ _).trans (decide_eq_true hw))) (fun _=>decl_name%) (fun z=>by cases z))))
def Kq:Fx:=Tb [] [] BL IL ML TL cm
def Kw:List D->Rs D:=bZ Kq (aa (ai 17)) ["four"] (ak (ai 17))
def mC:List D->Rs D:=vX dQ fun p=>.ok (.int (au p)) [ee p]
theorem A6:∀ds r,ac (mC ds) r->ac (Kw ds) r:=by
 intro ds r h
 obtain⟨p,rfl,h'⟩:=mU h
 obtain⟨rfl,hp,_⟩:=b0 h'
 obtain⟨⟨a1,a2,a3,a4⟩,_⟩:=qj hp hp
 exact cv rfl (by walk_at "ob")
def iQ:Fx:=Tb [] [] BL IL ML TL cm
def oM:Str->Option (List D->Option Xs):=fun g=>([]:List (Str×(List D->Option Xs))).lookup g
def oP:List D->Rs D:=bZ iQ (aa (ai 21)) ["side"] (ak (ai 21))
def dZ:List D->Rs D:=vX Ay fun s=>.ok .non []
theorem kW:∀ds r,ac (dZ ds) r->ac (oP ds) r:=by
 intro ds r h
 obtain⟨s,rfl,h'⟩:=mU h
 obtain⟨rfl,_⟩:=b0 h'
 cases s
 ·exact cv rfl (by walk_at "ob")
 ·exact cv rfl (by walk_at "ob")
def cE:List D->Option Xs:=fun ds=>match ds with
 | [.str y]=>if qR y=true then some yH else none
 | _=>none
theorem kU:∀ds r,cE ds=some r->ds.length=1/\Rz iQ oM EX (aa (ai 21)) (ak (ai 21)) (cD ["side"] ds) r:=by
 intro ds r h
 unfold cE at h
 split at h
 ·rename_i y
  split at h
  ·rename_i hy
   cases h
   obtain⟨h1,h2,h3,h4⟩:=BQ hy
   have o1:=Av h4 (show PyData.strOk (Str.ofString "left")=true by decide +kernel)
   have o2:=Av h4 (show PyData.strOk (Str.ofString "right")=true by decide +kernel)
   exact⟨rfl,Rz.iff (t:=true) (k:=0) (d9 (gy (decl_name%.bl (wm h1)) (gy (decl_name%.bl (wm h2)) jL))) (Rz.raiseR decl_name% h3 (by decide +kernel) rfl (by decide +kernel) rfl)⟩
  ·cases h
 ·cases h
theorem ql{y:Str}(h:qR y=true):cE [.str y]=some yH:=if_pos h
def Kr:Fx:=Tb [] [] BL IL ML TL cm
def Kx:List D->Rs D:=bZ Kr (aa (ai 10)) ["one", "other"] (ak (ai 10))
def mG:List D->Rs D:=pe dQ dQ fun p q=>.ok (dq (bj p q)) []
theorem A7:∀ds r,ac (mG ds) r->ac (Kx ds) r:=by
 intro ds r h
 obtain⟨p,q,rfl,h'⟩:=gb h
 obtain⟨rfl,_⟩:=b0 h'
 exact cv rfl (by walk_at "ob")
def vd:Fx:=Tb [] [] BL IL ML TL cm
def vk:List D->Rs D:=bZ vd (aa (ai 11)) ["one", "number"] (ak (ai 11))
def iT:List D->Rs D:=pe dQ dI fun p n=>.ok (dq (aX p n)) [ee p,n.natAbs<c6]
theorem qu:∀ds r,ac (iT ds) r->ac (vk ds) r:=by
 intro ds r h
 obtain⟨p,n,rfl,h'⟩:=gb h
 obtain⟨rfl,hp,hn,_⟩:=b0 h'
 have m1:=bR hp.1 hn
 have m2:=bR hp.2.1 hn
 have m3:=bR hp.2.2.1 hn
 have m4:=bR hp.2.2.2 hn
 exact cv rfl (by walk_at "ob")
def AQ:Fx:=Tb [("size", mC),("less", mG),("many_times", iT)] [] BL IL ML TL cm
def A8:List D->Rs D:=bZ AQ (aa (ai 24)) ["four", "tried", "number"] (ak (ai 24))
def mB:List D->Rs D:=tm dQ dQ dI fun p q n=>.ok (.int (fY p q n)) [zE p q n]
theorem vf:∀ds r,ac (mB ds) r->ac (A8 ds) r:=by
 intro ds r h
 obtain⟨p,q,n,rfl,h'⟩:=jx h
 obtain⟨rfl,⟨h1,h2,h3⟩,_⟩:=b0 h'
 exact cv rfl (by walk_at "ob")
def AS:Fx:=Tb [("strayed", mB)] [] BL IL ML TL cm
def Ba:List D->Rs D:=bZ AS (aa (ai 23)) ["four", "number"] (ak (ai 23))
def mF:List D->Rs D:=pe dQ dI fun p n=>.ok (dq (dU p n)) [BP p n]
theorem vh:∀ds r,ac (mF ds) r->ac (Ba ds) r:=by
 intro ds r h
 obtain⟨p,n,rfl,h'⟩:=gb h
 obtain⟨rfl,⟨h1,h2,h3,h4⟩,_⟩:=b0 h'
 have hd:gA (2*n):=⟨by omega,h2⟩
 have h3':zE p ((p.1+n).fdiv (2*n)*2,(p.2.1+n).fdiv (2*n)*2,(p.2.2.1+n).fdiv (2*n)*2,(p.2.2.2+n).fdiv (2*n)*2) n:=h3
 have h4':zE p (p.1.fdiv (2*n)*2+1,p.2.1.fdiv (2*n)*2+1,p.2.2.1.fdiv (2*n)*2+1,p.2.2.2.fdiv (2*n)*2+1) n:=h4
 refine cX (bX 2 decl_name% ?_)
 refine iY (gM (pZ (t:=decide (fY p (hJ p n) n<=fY p (i6 p n) n)) decl_name% (fun ht=>?_) (fun hf=>?_)))
 ·show ac _ (dq (dU p n),0)
  unfold dU;rw[if_pos (by simpa using ht)]
  exact cv rfl (by walk_at "ob")
 ·show ac _ (dq (dU p n),0)
  unfold dU;rw[if_neg (by simpa using hf)]
  exact cv rfl (by walk_at "ob")
def qp:Fx:=Tb [] [] BL IL ML TL cm
def qv:List D->Rs D:=bZ qp (aa (ai 14)) ["one", "other"] (ak (ai 14))
def fR:List D->Rs D:=pe dQ dQ fun p q=>.ok (dq (OH p q)) [ee p,ee q]
theorem mE:∀ds r,ac (fR ds) r->ac (qv ds) r:=by
 intro ds r h
 obtain⟨p,q,rfl,h⟩:=gb h
 obtain⟨rfl,hp,hq,_⟩:=b0 h
 obtain⟨⟨a1,a2,a3,a4⟩,⟨b1,b2,b3,b4⟩,⟨c1,c2,c3,c4⟩,d1,d2,d3,d4⟩:=qj hp hq
 exact cv rfl (by walk_at "ob")
def AR:Fx:=Tb [("plain_product", fR)] [] BL IL ML TL cm
def A9:List D->Rs D:=bZ AR (aa (ai 15)) ["one", "other"] (ak (ai 15))
def mD:List D->Rs D:=pe dQ dQ fun p q=>.ok (dq (aP p q)) [ee p,ee q]
theorem vg:∀ds r,ac (mD ds) r->ac (A9 ds) r:=by
 intro ds r h
 obtain⟨p,q,rfl,h'⟩:=gb h
 obtain⟨rfl,hp,hq,_⟩:=b0 h'
 exact cv rfl (by walk_at "ob")
def CT:Fx:=Tb [("product", mD)] [] BL IL ML TL cm
def CZ:List D->Rs D:=bZ CT (aa (ai 22)) ["one", "other", "side"] (ak (ai 22))
def kD:List D->Rs D:=tm dQ dQ Ay fun p q s=>.ok (dq (aI s p q)) [ee p,ee q]
theorem vN:∀ds r,ac (kD ds) r->ac (CZ ds) r:=by
 intro ds r h
 obtain⟨p,q,s,rfl,h'⟩:=jx h
 obtain⟨rfl,hp,hq,_⟩:=b0 h'
 cases s
 ·exact cv rfl (by walk_at "ob")
 ·exact cv rfl (by walk_at "ob")
def rz:Fx:=Tb [] [] BL IL ML TL cm
def rB:List D->Rs D:=bZ rz (aa (ai 16)) ["four"] (ak (ai 16))
def gv:List D->Rs D:=vX dQ fun p=>.ok (dq (cN p)) []
theorem nN:∀ds r,ac (gv ds) r->ac (rB ds) r:=by
 intro ds r h
 obtain⟨p,rfl,h'⟩:=mU h
 obtain⟨rfl,_⟩:=b0 h'
 exact cv rfl (by walk_at "ob")
def sg:Fx:=Tb [("refuse_no_side", dZ),("nearest", mF),("beside", kD),("size", mC),("less", mG),("other_signed", gv)] [("NOUGHT", .tup [.int 0,.int 0,.int 0,.int 0])] BL IL ML TL cm
def AO:Str->Option (List D->Option Xs):=fun g=>([("refuse_no_side", cE)]:List (Str×(List D->Option Xs))).lookup g
def Bc:List D->Rs D:=bZ sg (aa (ai 19)) ["one", "other", "side"] (ak (ai 19))
def jk:List D->Rs D:=tm dQ dQ Ay fun p q s=>.ok (.tup [dq (db s p q),dq (dj s p q)]) [q≠aD,okD s p q]
theorem vj:∀ds r,ac (jk ds) r->ac (Bc ds) r:=by
 intro ds r h
 obtain⟨p,q,s,rfl,h'⟩:=jx h
 obtain⟨rfl,h0,⟨h1,h2,h3,h4,h5⟩,_⟩:=b0 h'
 have hc:cG (dq q) (dq aD)=false:=by simp[h0]
 have h5':ee (dU (aI s p (cN q)) (au q)):=h5
 cases s
 ·exact cX (bX 1 decl_name% (cA decl_name% hc decl_name%))
 ·exact cX (bX 1 decl_name% (cA decl_name% hc decl_name%))
def dO:List D->Option Xs:=fun ds=>match ds with
 | [_,q,.str y]=>if qR y=true then some yH else match jy y with
  | some _=>if pK q=true then some GJ else none
  | none=>none
 | _=>none
theorem vc:∀ds r,dO ds=some r->ds.length=3/\Rz sg AO EX (aa (ai 19)) (ak (ai 19)) (cD ["one", "other", "side"] ds) r:=by
 intro ds r h
 unfold dO at h
 split at h
 ·rename_i x q y
  split at h
  ·rename_i hy
   cases h
   exact⟨rfl,Rz.exp decl_name% rfl rfl (ql hy)⟩
  ·split at h
   ·rename_i s hs
    split at h
    ·rename_i hq
     cases h
     cases rO hq
     have ey:=Ey hs
     cases s
     ·cases ey;exact⟨rfl,Rz.step decl_name% (Rz.iff (t:=true) (k:=0) decl_name% (Rz.raise decl_name% rfl (by decide +kernel) rfl))⟩
     ·cases ey;exact⟨rfl,Rz.step decl_name% (Rz.iff (t:=true) (k:=0) decl_name% (Rz.raise decl_name% rfl (by decide +kernel) rfl))⟩
    ·cases h
   ·cases h
 ·cases h
def wO:Fx:=Tb [("divided", jk)] [("NOUGHT", .tup [.int 0,.int 0,.int 0,.int 0])] BL IL ML TL cm
def GF:Str->Option (List D->Option Xs):=fun g=>([("divided", dO)]:List (Str×(List D->Option Xs))).lookup g
def GG:List D->Rs D:=bZ wO (aa (ai 20)) ["one", "other", "side"] (ak (ai 20))
def jP:List D->Rs D:=tm dQ dQ Ay fun p q s=>.ok (rc s p q) [q≠aD,okD s p q]
theorem yz:∀ds r,ac (jP ds) r->ac (GG ds) r:=by
 intro ds r h
 obtain⟨p,q,s,rfl,h'⟩:=jx h
 obtain⟨rfl,h0,hd,_⟩:=b0 h'
 clear h h'
 unfold rc
 cases s
 ·refine cX (bX 1 decl_name% (iY (gM (pZ (t:=decide (dj false p q=aD)) (k:=0) (decl_name%.bl (yf _ aD)) (fun z=>?_) (fun z=>?_)))))
  ·rw[if_pos (of_decide_eq_true z)];exact decl_name%
  ·rw[if_neg (of_decide_eq_false z)];exact decl_name%
 ·refine cX (bX 1 decl_name% (iY (gM (pZ (t:=decide (dj true p q=aD)) (k:=0) (decl_name%.bl (yf _ aD)) (fun z=>?_) (fun z=>?_)))))
  ·rw[if_pos (of_decide_eq_true z)];exact decl_name%
  ·rw[if_neg (of_decide_eq_false z)];exact decl_name%
def rq:List D->Option Xs:=dO
theorem KL(h:dO ds=some r):∃x q y,ds=[x,q,.str y]/\(r=yH\/r=GJ):=by
 unfold dO at h
 split at h
 ·rename_i x q y
  refine⟨x,q,y,rfl,?_⟩
  split at h
  ·cases h;exact .inl rfl
  ·split at h
   ·split at h
    ·cases h;exact .inr rfl
    ·cases h
   ·cases h
 ·cases h
theorem yv:∀ds r,rq ds=some r->ds.length=3/\Rz wO GF EX (aa (ai 20)) (ak (ai 20)) (cD ["one", "other", "side"] ds) r:=by
 intro ds r h
 obtain⟨x,q,y,rfl,_⟩:=KL h
 exact⟨rfl,Rz.ast decl_name% rfl rfl h⟩
def qr:Fx:=Tb [("refuse_no_side", dZ),("divided", jk),("less", mG),("beside", kD)] [("ONE", .tup [.int 2,.int 0,.int 0,.int 0]),("NOUGHT", .tup [.int 0,.int 0,.int 0,.int 0])] BL IL ML TL cm
def yw:Str->Option (List D->Option Xs):=fun g=>([("refuse_no_side", cE),("divided", dO)]:List (Str×(List D->Option Xs))).lookup g
def yB:List D->Rs D:=bZ qr (aa (ai 26)) ["one", "other", "side"] (ak (ai 26))
def il:List D->Rs D:=tm dQ dQ Ay fun p q s=>.ok (dR (kh s p q)) [okG p q]
theorem sr:∀ds r,ac (il ds) r->ac (yB ds) r:=by
 intro ds r h
 obtain⟨p,q,s,rfl,h'⟩:=jx h
 obtain⟨rfl,hg,_⟩:=b0 h'
 clear h h'
 cases s
 ·refine cX (bX 3 decl_name% (lv (m:=801) (fun m ρ => ∃(E:Nat) (a b:fq),gU false p q m E a b/\iX false m a b=kh false p q/\Sub (bW [("one", dq p,false),("other", dq q,false),("side", tF false,false),("older", dR a,true),("newer", dR b,true)]) ρ) ⟨KN,(p,cJ,aD),(q,aD,cJ),gU.start hg.1 hg.2.1 hg.2.2.1 hg.2.2.2,rfl,ae rfl (ae rfl (ae rfl (ae rfl (ae rfl aO))))⟩ (by decide) ?_ ?_))
  ·rintro m ρ ⟨E,a,b,hw,he,s⟩
   refine⟨!decide (b.1=aD),0,bz s (decl_name%.bl (by show(!cG (dq b.1) (dq aD))=_;simp)),fun ht=>?_⟩
   have h0:b.1≠aD:=by simpa using ht
   obtain⟨m',rfl,hw'⟩:=hw.step hg.1 hg.2.1 h0
   obtain⟨hd,b1,b2,b3⟩:=hw.bd h0
   have b4:=hd.2.2.2.2
   exact mO (Nat.lt_succ_self _) (cM s decl_name% fun ρ' s'=>⟨_,_,_,hw',by rw[<- he,lh h0],ae s'.get (ae s'.get (ae s'.get (ae s'.get (ae s'.get aO))))⟩)
  ·rintro m ρ ⟨E,a,b,hw,he,s⟩ ⟨k,hk⟩
   have e:=hk.inj (bz s decl_name%)
   have h0:b.1=aD:=by
    have e1:(!cG (dq b.1) (dq aD))=false:=by injection e with e1 e2;injection e1 with e1;exact e1.symm
    simpa using e1
   rw[<- he,n5 h0]
   exact dy s decl_name%
 ·refine cX (bX 3 decl_name% (lv (m:=801) (fun m ρ => ∃(E:Nat) (a b:fq),gU true p q m E a b/\iX true m a b=kh true p q/\Sub (bW [("one", dq p,false),("other", dq q,false),("side", tF true,false),("older", dR a,true),("newer", dR b,true)]) ρ) ⟨KN,(p,cJ,aD),(q,aD,cJ),gU.start hg.1 hg.2.1 hg.2.2.1 hg.2.2.2,rfl,ae rfl (ae rfl (ae rfl (ae rfl (ae rfl aO))))⟩ (by decide) ?_ ?_))
  ·rintro m ρ ⟨E,a,b,hw,he,s⟩
   refine⟨!decide (b.1=aD),0,bz s (decl_name%.bl (by show(!cG (dq b.1) (dq aD))=_;simp)),fun ht=>?_⟩
   have h0:b.1≠aD:=by simpa using ht
   obtain⟨m',rfl,hw'⟩:=hw.step hg.1 hg.2.1 h0
   obtain⟨hd,b1,b2,b3⟩:=hw.bd h0
   have b4:=hd.2.2.2.2
   exact mO (Nat.lt_succ_self _) (cM s decl_name% fun ρ' s'=>⟨_,_,_,hw',by rw[<- he,lh h0],ae s'.get (ae s'.get (ae s'.get (ae s'.get (ae s'.get aO))))⟩)
  ·rintro m ρ ⟨E,a,b,hw,he,s⟩ ⟨k,hk⟩
   have e:=hk.inj (bz s decl_name%)
   have h0:b.1=aD:=by
    have e1:(!cG (dq b.1) (dq aD))=false:=by injection e with e1 e2;injection e1 with e1;exact e1.symm
    simpa using e1
   rw[<- he,n5 h0]
   exact dy s decl_name%
def ik:List D->Option Xs:=fun ds=>match ds with
 | [_,_,.str y]=>if qR y=true then some yH else none
 | _=>none
theorem sj:∀ds r,ik ds=some r->ds.length=3/\Rz qr yw EX (aa (ai 26)) (ak (ai 26)) (cD ["one", "other", "side"] ds) r:=by
 intro ds r h
 unfold ik at h
 split at h
 ·rename_i x q y
  split at h
  ·rename_i hy
   cases h
   exact⟨rfl,Rz.exp decl_name% rfl rfl (ql hy)⟩
  ·cases h
 ·cases h
def fw:Fx:=Tb [("whole_divisor", eI),("order_fault", g9),("size", mC),("exact", jP),("greatest", il)] [] BL IL ML TL cm
def sk:Str->Option (List D->Option Xs):=fun g=>([("whole_divisor", eG),("exact", rq),("greatest", ik)]:List (Str×(List D->Option Xs))).lookup g
def fx:List D->Rs D:=jX fw (aa (ai 33)) ["four", "order"] ((ak (ai 33)).take 7) (N2 ((ak (ai 33)).getD 7 (.Pass ⟨0,0,0,0⟩))) (N1 ((ak (ai 33)).getD 7 (.Pass ⟨0,0,0,0⟩)))
theorem Dg(h:q≠aD)(g:gQ 400 q):ac (eI [dq q]) (.int (cO q)):=by
 have b:=g.bd (by decide)
 exact MK (a:=q.1) (b:=q.2.1) (c:=q.2.2.1) (d:=q.2.2.2) (fun z=>h (cR z.1 z.2.1 z.2.2.1 z.2.2.2)) (Ij (k:=400) (by decide) (by simp) (by
  intro n hn
  simp only[List.mem_cons,List.not_mem_nil,or_false]at hn
  rcases hn with rfl|rfl|rfl|rfl
  ·exact g.2.1
  ·exact g.2.2.1
  ·exact g.2.2.2.1
  ·exact g.2.2.2.2)) b.1 b.2.1 b.2.2.1 b.2.2.2
theorem GC{ns:List Int}(hq:am q)(pl:nZ q)(hb:au q<=((2 ^ 300:Nat):Int))(hns:∀n∈ns,n∈c7)(hl:ns.length<=100)(hs:au q=cF ns) :
  ∃(r:Qd) (ds:List Qd),am r/\au r=1/\(∀d∈ds,am d)/\ds.map au=ns/\ds.foldl aP r=q/\ac (fx [dq q,.lst (ns.map D.int)]) (vT r ds):=by
 have gq:=je hq hb
 have q0:=pl.ne
 have bq:=gq.bd (by decide)
 have hw:=Dg q0 (gq.mono (by decide))
 have v1:=(wa q0 hq).mp pl
 have ll:ar (ns.map D.int)=true:=dz (fun _=>rfl) ns
 obtain⟨ρ',h1,F,rest,ds,R',e1,hr,e2,e3,hd,e4,e5,s⟩:∃ρ',ac (aC fw ((ak (ai 33)).take 7) (aa (ai 33)) (cD ["four", "order"] [dq q,.lst (ns.map D.int)])) (.nx ρ')/\∃(F:List Int) (rest:Qd) (ds:List Qd) (R':List Int),F=ns.reverse/\am rest/\F++R'=ns.reverse/\au rest=cF R'/\(∀d∈ds,am d)/\ds.map au=F/\ds.reverse.foldl aP rest=q/\Sub (bW [("rest", dq rest,true),("parts", .lst (ds.map dq),true)]) ρ':=by
  refine eV (bE (d:=.int (cO q)) (bS decl_name% hw)) (eV (bE (d:=.non) (bS (bh decl_name% (bh decl_name% dm)) (wC hns hl hs.symm))) (fM (P:=fun ρ=>Sub (bW [("four", dq q,false),("order", .lst (ns.map D.int),false),("by", .int (cO q),true)]) ρ) (x6 (t:=false) (k:=0) decl_name% (fun z=>by cases z) (fun _=>fj (ae rfl (ae rfl (ae rfl aO))))) fun ρ1 s1=>fM (P:=fun ρ=>Sub (bW [("four", dq q,false),("order", .lst (ns.map D.int),false)]) ρ) (x6 (t:=false) (k:=0) (bz s1 (decl_name%.bl (decide_eq_false (by omega)))) (fun z=>by cases z) (fun _=>fj (ae s1.get (ae s1.get aO)))) fun ρ2 s2=>eV (bE (d:=dq q) (bz s2 decl_name%)) (eV (bE (d:=.lst []) (bz (s2.put _ _) decl_name%)) ?_)))
  have s3:=(s2.put (Str.ofString "rest") (dq q,true)).put (Str.ofString "parts") (.lst [],true)
  refine fM (P:=fun ρ' => ∃(F:List Int) (rest:Qd) (ds:List Qd) (R':List Int),F=ns.reverse/\am rest/\F++R'=ns.reverse/\au rest=cF R'/\(∀d∈ds,am d)/\ds.map au=F/\ds.reverse.foldl aP rest=q/\Sub (bW [("rest", dq rest,true),("parts", .lst (ds.map dq),true)]) ρ') ?_ fun ρ h=>fj h
  have fa:=fG (Φ:=fw) (sc:=aa (ai 33)) (ρ:=bc (bc ρ2 (Str.ofString "rest") (dq q,true)) (Str.ofString "parts") (.lst [],true)) (h:=D.int) (g:=fun n:Int=>[n]) (T:=ns.reverse) (F:=[]) (R:=[]) (k:=1) (fun F ρ => ∃(rest:Qd) (ds:List Qd) (R':List Int),am rest/\nZ rest/\au rest<=((2 ^ 300:Nat):Int)/\F++R'=ns.reverse/\au rest=cF R'/\(∀d∈ds,am d)/\ds.map au=F/\ds.reverse.foldl aP rest=q/\Sub (bW [("rest", dq rest,true),("parts", .lst (ds.map dq),true)]) ρ) ns.reverse (d:=.lst (ns.map D.int).reverse) (tg:=sC ((ak (ai 33)).getD 6 (.Pass ⟨0,0,0,0⟩))) (it:=sD ((ak (ai 33)).getD 6 (.Pass ⟨0,0,0,0⟩))) (body:=nk ((ak (ai 33)).getD 6 (.Pass ⟨0,0,0,0⟩))) (p:=⟨0,0,0,0⟩) (bz (s3.demote _) decl_name%) (by rw[List.map_reverse];rfl) ⟨q,[],ns.reverse,hq,pl,hb,rfl,by rw[v8];exact hs,(fun d h=>by cases h),rfl,rfl,ae (s3.demote _).get (ae (s3.demote _).get aO)⟩ (by rw[jg];simp) ?_
  ·obtain⟨ρ',f1,rest,ds,R',h1,_,_,h2,h3,h4,h5,h6,h7⟩:=fa
   rw[List.nil_append,jg,List.map_id']at h2 h5
   exact⟨ρ',f1,_,rest,ds,R',rfl,h1,h2,h3,h4,h5,h6,h7⟩
  ·rintro p hp F R ρ e ⟨rest,ds,R',hr,pr,br,e1,e2,hd,e3,e4,s⟩
   have eR:R'=p::R:=List.append_cancel_left (e1.trans e.symm)
   subst eR
   have hpP:=hns p (List.mem_reverse.mp hp)
   obtain⟨p1,p2⟩:=iC p hpP
   have gr:=je hr br
   have gP:gQ 302 (2*p,0,0,0):=⟨ol p,by show(2*p).natAbs<=_;exact Nat.le_trans (show(2*p).natAbs<=2 ^ 8 by omega) (Nat.pow_le_pow_right (by decide) (by decide)),Nat.zero_le _,Nat.zero_le _,Nat.zero_le _⟩
   have oG:okG rest (2*p,0,0,0):=gr.okG gP (by decide)
   obtain⟨sd,pd,u,hu,eu⟩:=Cg hr pr hpP ⟨cF R,e2⟩ (IU (s:=true) oG)
   generalize hD:(kh true rest (2*p,0,0,0)).1=d at sd pd eu
   have d0:d≠aD:=fun z=>by rw[z]at sd;have:au aD=0:=rfl;omega
   have gd:gQ 302 d:=je (n:=300) pd (by rw[sd];exact Int.le_trans (show p<=((2 ^ 8:Nat):Int) by omega) (Int.ofNat_le.mpr (Nat.pow_le_pow_right (by decide) (by decide))))
   have oD:okD true rest d:=gr.okD gd d0 (by decide)
   have su:au u*p=au rest:=by rw[eu,ip hu pd,sd]
   have kx:ac (jP [dq rest,dq d,tF true]) (dq u):=by
    have k:ac (jP [dq rest,dq d,tF true]) (rc true rest d):=decl_name%
    rw[FX hu pd d0 (show rest=aI true u d from eu)]at k
    exact k
   have kg:ac (il [dq rest,.tup [.int (2*p),.int 0,.int 0,.int 0],tF true]) (dR (kh true rest (2*p,0,0,0))):=decl_name%
   have lf:F.length<=100:=by
    have:=congrArg List.length e
    simp only[List.length_append,List.length_reverse]at this
    omega
   have l1:(ds.map dq).length<bA:=by
    rw[List.length_map,<- List.length_map (f:=au),e3];show _<40000;omega
   have s4:=s.put (Str.ofString "prime") (.int p,false)
   have s5:=s4.put (Str.ofString "part") (dq d,true)
   have ea:L2.atI [dq (kh true rest (2*p,0,0,0)).1,dq (kh true rest (2*p,0,0,0)).2.1,dq (kh true rest (2*p,0,0,0)).2.2] 0=some (dq d):=by rw[<- hD];rfl
   refine⟨_,rfl,eV (bE (d:=dq d) (bz s4 (nl (bS decl_name% kg) decl_name% rfl ea))) (eV (bE (d:=dq u) (bz s5 (bS decl_name% kx))) (cM (s5.put (Str.ofString "rest") (dq u,true)) decl_name% fun ρ' s'=>⟨u,ds++[d],R,hu,?_,?_,?_,?_,?_,?_,?_,?_⟩))⟩
   ·exact nZ.left hu pd (eu ▸ pr)
   ·have n0:=d8 hu
    have:=Int.mul_le_mul_of_nonneg_left (show 1<=p by omega) n0
    omega
   ·rw[List.append_assoc];exact e
   ·rw[cC]at e2
    have:p*(au u-cF R)=0:=by rw[Int.mul_sub,<- e2,<- su,Int.mul_comm];omega
    rcases Int.mul_eq_zero.mp this with z|z<;>omega
   ·intro x hx
    rcases List.mem_append.mp hx with hx|hx
    ·exact hd x hx
    ·rw[List.mem_singleton]at hx;subst hx;exact pd
   ·rw[List.map_append,e3];show F++[au d]=_;rw[sd]
   ·rw[List.reverse_append,<- e4,eu];rfl
   ·rw[List.map_append]
    exact ae s'.get (ae s'.get aO)
 subst e1
 have eR:R'=[]:=by
  have:=congrArg List.length e2
  simp only[List.length_append,List.length_reverse]at this
  exact List.length_eq_zero_iff.mp (by omega)
 subst eR
 refine⟨rest,ds.reverse,hr,e3,fun d h=>hd d (List.mem_reverse.mp h),?_,e5,?_⟩
 ·rw[List.map_reverse,e4,List.reverse_reverse]
 ·show ac _ (D.tup [dq rest,.lst (ds.reverse.map dq)])
  rw[List.map_reverse]
  exact Ii h1 (bz s decl_name%) (bh (bz s decl_name%) dm) (rL ds)
theorem Ds{Φ:Fx}{Ψ:Str->Option (List D->Option Xs)}{Ex:Str->Option (Str×Option Str)}{sc:Scope}{r:Xs}:∀(n:Nat) {ss:List Stmt} {ρ ρ':af},ac (aC Φ (ss.take n) sc ρ) (.nx ρ')->Rz Φ Ψ Ex sc (ss.drop n) ρ' r->Rz Φ Ψ Ex sc ss ρ r
 | 0,ss,ρ,ρ',h,k=>by cases aH h;exact k
 | n+1,[],ρ,ρ',h,k=>by cases aH h;exact k
 | n+1,s::ss,ρ,ρ',h,k=>by
  rcases o8 h with⟨ρ1,h1,h2⟩|⟨h1,_⟩
  ·exact Rz.step h1 (Ds n h2 k)
  ·exact absurd rfl (h1 _)
structure A5(q:Qd)(ns:List Int):Prop where
 pa:am q
 ne:q≠aD
 sz:au q<=((2 ^ 300:Nat):Int)
 pr:∀n∈ns,n∈c7
 ln:ns.length<=100
 eq:au q=cF ns
 gt:1<cO q
abbrev Df(i:Int):Xs:=(Str.ofString "Divided", Str.ofString "SpaceError", [(Str.ofString "by", i)])
instance taDec (q:Qd) (ns:List Int):Decidable (A5 q ns) :=
 have:Decidable (am q):=decidable_of_iff (q.2.1 % 2=q.1 % 2/\q.2.2.1 % 2=q.1 % 2/\q.2.2.2 % 2=q.1 % 2) ⟨fun⟨a,b,c⟩=>⟨q.1 % 2,q.1 / 2,q.2.1 / 2,q.2.2.1 / 2,q.2.2.2 / 2,by omega,by omega,by omega,by omega,by omega⟩,fun⟨e,x,y,z,w,h,h1,h2,h3,h4⟩=>by omega⟩
 decidable_of_iff (am q/\q≠aD/\au q<=((2 ^ 300:Nat):Int)/\(∀n∈ns,n∈c7)/\ns.length<=100/\au q=cF ns/\1<cO q) ⟨fun⟨a,b,c,d,e,f,g⟩=>⟨a,b,c,d,e,f,g⟩,fun⟨a,b,c,d,e,f,g⟩=>⟨a,b,c,d,e,f,g⟩⟩
def cS:List D->Option Xs:=fun ds=>match ds with
 | [a,.lst l]=>(match q4 a,cW l with|some q,some ns=>if A5 q ns then some (Df (cO q))else none|_,_=>none)
 | _=>none
theorem Sx(h:A5 q ns):cS [dq q,.lst (ns.map D.int)]=some (Df (cO q)):=by
 show(match q4 (dq q),cW (ns.map D.int)with|some q,some ns=>if A5 q ns then some (Df (cO q))else none|_,_=>none)=_
 rw[x5,show q4 (dq q)=some q from rfl]
 exact if_pos h
theorem zb(h:cS ds=some r):∃(q:Qd) (ns:List Int),ds=[dq q,.lst (ns.map D.int)]/\A5 q ns/\r=Df (cO q):=by
 unfold cS at h
 split at h
 ·split at h
  ·rename_i q ns e1 e2
   split at h
   ·rename_i t
    exact⟨q,ns,by rw[Dt _ _ e1,lU e2],t,(Option.some.inj h).symm⟩
   ·cases h
  ·cases h
 ·cases h
theorem MM(pa:am q)(ne:q≠aD)(g:gQ 400 q):(cO q).natAbs<2 ^ 1900:=by
 obtain⟨v0,k,pk,e⟩:=vP ne pa
 have key:∀x y:Int,x=y*cO q->x≠0->x.natAbs<=2 ^ 400->(cO q).natAbs<2 ^ 1900:=fun x y e x0 hx=>by
  have y0:y≠0:=fun z=>x0 (by rw[e,z,Int.zero_mul])
  rw[e,Int.natAbs_mul]at hx
  exact Nat.lt_of_le_of_lt (Nat.le_trans (Nat.le_mul_of_pos_left _ (by omega)) hx) (Nat.pow_lt_pow_right (by decide) (by decide))
 have e1:q.1=k.1*cO q:=congrArg (fun t:Qd=>t.1) e
 have e2:q.2.1=k.2.1*cO q:=congrArg (fun t:Qd=>t.2.1) e
 have e3:q.2.2.1=k.2.2.1*cO q:=congrArg (fun t:Qd=>t.2.2.1) e
 have e4:q.2.2.2=k.2.2.2*cO q:=congrArg (fun t:Qd=>t.2.2.2) e
 by_cases h1:q.1=0
 ·by_cases h2:q.2.1=0
  ·by_cases h3:q.2.2.1=0
   ·exact key _ _ e4 (fun h4=>ne (cR h1 h2 h3 h4)) g.2.2.2.2
   ·exact key _ _ e3 h3 g.2.2.2.1
  ·exact key _ _ e2 h2 g.2.2.1
 ·exact key _ _ e1 h1 g.2.1
theorem oK:∀ds r,cS ds=some r->ds.length=2/\Rz fw sk EX (aa (ai 33)) (ak (ai 33)) (cD ["four", "order"] ds) r:=by
 intro ds r h
 obtain⟨q,ns,rfl,t,rfl⟩:=zb h
 have gq:=je t.pa t.sz
 have g4:=gq.mono (show 302<=400 by decide)
 have bq:=gq.bd (by decide)
 have hw:=Dg t.ne g4
 refine⟨rfl,Ds 3 (bD (bE (d:=.int (cO q)) (bS decl_name% hw)) (bD (bE (d:=.non) (bS (bh decl_name% (bh decl_name% dm)) (wC t.pr t.ln t.eq.symm))) (cA (t:=false) (k:=0) decl_name% rfl dw))) (Rz.iff (t:=true) (k:=0) (decl_name%.bl (decide_eq_true t.gt)) (Rz.raiseF (i:=cO q) (k:=0) decl_name% (MM t.pa t.ne g4) rfl (by decide +kernel) rfl))⟩
def AT:Fx:=Tb [] [] BL IL ML TL cm
def mH:List D->Rs D:=bZ AT (aa (ai 37)) ["_law_x"] (ak (ai 37))
def vJ:Fx:=Tb [("_law_whole", mH)] [] BL IL ML TL cm
def gC:List D->Rs D:=bZ vJ (aa (ai 38)) ["_law_thing"] (ak (ai 38))
theorem Ix(hb:b.fmod 2=a.fmod 2)(hc:c.fmod 2=a.fmod 2)(hd:d.fmod 2=a.fmod 2):ac (gC [t4 a b c d]) (.bl true):=by
 refine cX (cA decl_name% rfl (qH (ds:=[.int a,.int b,.int c,.int d]) (fun rem ρ=>(∀x∈rem,∃t:Int,x=.int t/\t.fmod 2=a.fmod 2)/\Sub (bW [("_law_thing", t4 a b c d,false)]) ρ) decl_name% ⟨?_,ae rfl aO⟩ ?_ ?_))
 ·intro x hx
  simp only[List.mem_cons,List.not_mem_nil,or_false]at hx
  rcases hx with rfl|rfl|rfl|rfl
  ·exact⟨_,rfl,rfl⟩
  ·exact⟨_,rfl,hb⟩
  ·exact⟨_,rfl,hc⟩
  ·exact⟨_,rfl,hd⟩
 ·rintro x l ρ ⟨hh,s⟩
  obtain⟨t,rfl,ht⟩:=hh x List.mem_cons_self
  exact⟨_,rfl,cM (s.put _ _) (cA (d9 (fu decl_name% (fu (decl_name%.bl (xN ht)) lY))) rfl dw) fun ρ' s'=>⟨fun y hy=>hh y (List.mem_cons_of_mem _ hy),ae s'.get aO⟩⟩
 ·rintro ρ ⟨_,s⟩
  exact dy s decl_name%
def CQ:Fx:=Tb [] [] BL IL ML TL cm
def CW:List D->Rs D:=bZ CQ (aa (ai 39)) ["_law_four"] (ak (ai 39))
def oO:List D->Rs D:=vX dQ fun p=>.ok (.int (au p)) [ee p]
theorem vL:∀ds r,ac (oO ds) r->ac (CW ds) r:=by
 intro ds r h
 obtain⟨p,rfl,h'⟩:=mU h
 obtain⟨rfl,hp,_⟩:=b0 h'
 obtain⟨⟨a1,a2,a3,a4⟩,_⟩:=qj hp hp
 exact cv rfl (by walk_at "ob")
def iR:Fx:=Tb [("_law_times", jj),("_law_is_four", gC),("_law_size", oO)] [] BL IL ML TL cm
def fD:List D->Rs D:=bZ iR (aa (ai 46)) ["_law_telling", "_law_primes", "_law_four"] (ak (ai 46))
theorem zU(h:am q):ac (gC [dq q]) (.bl true):=by
 obtain⟨x1,x2,x3⟩:=Qm.par_fmod h
 exact Ix (a:=q.1) (b:=q.2.1) (c:=q.2.2.1) (d:=q.2.2.2) x1 x2 x3
theorem mW:∀{l:List Int},(∀n∈l,n∈c7)->1<=cF l
 | [],_=>by decide
 | n::l,h=>by
  have h1:=mW fun m hm=>h m (List.mem_cons_of_mem _ hm)
  obtain⟨p1,_⟩:=iC n (h n List.mem_cons_self)
  rw[cC]
  have:=Int.mul_le_mul_of_nonneg_right (show 1<=n by omega) (show 0<=cF l by omega)
  omega
theorem GL{r:Qd}{ds:List Qd}{ns:List Int}(hr:am r)(h1:au r=1)(hd:∀d∈ds,am d)(es:ds.map au=ns)(ef:ds.foldl aP r=q)(hns:∀n∈ns,n∈c7)(hl:ns.length<=100)(hb:cF ns<=((2 ^ 300:Nat):Int)):ac (fD [vT r ds,.lst (ns.map D.int),dq q]) (.bl true):=by
 subst es ef
 have ll:ar ((ds.map au).map D.int)=true:=dz (fun _=>rfl) _
 have ld:=rL ds
 have br:=(je (n:=300) hr (by rw[h1];exact Int.ofNat_le.mpr Nat.one_le_two_pow)).bd (by decide)
 have hlen:(!cG (.int ((ds.map dq).length:Nat)) (.int (((ds.map au).map D.int).length:Nat)))=false:=xN (by simp)
 have hz:List.zipWith (fun x y=>D.tup [x,y]) (ds.map dq) ((ds.map au).map D.int)=ds.map fun d=>D.tup [dq d,.int (au d)]:=by
  rw[List.map_map,List.zipWith_map,List.zipWith_self];rfl
 have pz:∀d∈ds,au d∈c7:=fun d h=>hns _ (List.mem_map.mpr ⟨d,h,rfl⟩)
 refine cX (cA (t:=false) (k:=0) (d9 (fu decl_name% (fu decl_name% (fu (DV (bS (bh decl_name% dm) (zU hr)) rfl) lY)))) rfl (cA (t:=false) (k:=0) (d9 (fu (decl_name%.bl (xN h1)) (fu decl_name% (fu (decl_name%.bl hlen) lY)))) rfl (bX 1 decl_name% (Do (Q:=fun ρ=>Sub (bW [("_law_four", dq (ds.foldl aP r),false),("_law_whole_here", dq (ds.foldl aP r),true)]) ρ) ?_ ?_))))
 ·have fa:=fG (Φ:=iR) (sc:=aa (ai 46)) (ρ:=bc (cD ["_law_telling", "_law_primes", "_law_four"] [vT r ds,.lst ((ds.map au).map D.int),dq (ds.foldl aP r)]) "_law_whole_here" (dq r,true)) (h:=fun d:Qd=>D.tup [dq d,.int (au d)]) (g:=fun d=>[d]) (T:=ds) (F:=[]) (R:=[]) (k:=1) (fun F ρ=>Sub (bW [("_law_four", dq (ds.foldl aP r),false),("_law_whole_here", dq (F.foldl aP r),true)]) ρ) ds (d:=.lst (ds.map fun d=>D.tup [dq d,.int (au d)])) (tg:=sC ((ak (ai 46)).getD 3 (.Pass ⟨0,0,0,0⟩))) (it:=sD ((ak (ai 46)).getD 3 (.Pass ⟨0,0,0,0⟩))) (body:=nk ((ak (ai 46)).getD 3 (.Pass ⟨0,0,0,0⟩))) (p:=⟨0,0,0,0⟩) (decl_name%.eq (by rw[<- hz];rfl)) rfl (ae rfl (ae rfl aO)) (by rw[jg];simp) ?_
  ·rw[List.nil_append,jg,List.map_id']at fa
   exact fa
  ·intro d hm F R ρ e s
   have pd:=hd d hm
   have hF:∀x∈F,x∈ds:=fun x hx=>by rw[<- e];exact List.mem_append_left _ hx
   have nF:∀n∈F.map au,n∈c7:=fun n hn=>by obtain⟨x,hx,rfl⟩:=List.mem_map.mp hn;exact pz x (hF x hx)
   have nR:∀n∈([d]++R).map au,n∈c7:=fun n hn=>by obtain⟨x,hx,rfl⟩:=List.mem_map.mp hn;exact pz x (by rw[<- e];exact List.mem_append_right _ hx)
   have pF:∀x∈F,am x:=fun x hx=>hd x (hF x hx)
   have zF:au (F.foldl aP r)<=((2 ^ 300:Nat):Int):=by
    rw[qE F r hr pF,h1,Int.one_mul]
    have e2:cF (ds.map au)=cF (F.map au)*cF (([d]++R).map au):=by rw[<- mX,<- List.map_append,e]
    have a1:=mW nF
    have a2:=mW nR
    have:=Int.mul_le_mul_of_nonneg_left a2 (show 0<=cF (F.map au) by omega)
    omega
   have bF:=(je (uB hr pF) zF).bd (by decide)
   obtain⟨p1,p2⟩:=iC _ (pz d hm)
   have gd:=je (n:=8) pd (by omega)
   have bd:=gd.bd (by decide)
   obtain⟨⟨a1,a2,a3,a4⟩,_⟩:=qj bd bd
   obtain⟨t,ht,et⟩:=cI pd
   have m4:bJ 4 (au d):=gh (by decide)
   have hsum:(!cG (.int (d.1*d.1+(d.2.1*d.2.1+(d.2.2.1*d.2.2.1+(d.2.2.2*d.2.2.2+0))))) (.int (4*au d)))=false:=xN (by rw[ht,et])
   refine⟨_,rfl,cM ((s.put _ _).put _ _) (cA (t:=false) (k:=0) (d9 (fu (DV (bS decl_name% (zU pd)) rfl) (fu (decl_name%.bl hsum) lY))) rfl decl_name%) fun ρ' s'=>?_⟩
   rw[List.foldl_append]
   exact ae s'.get (ae s'.get aO)
 ·intro ρ s
  exact dy s (iY (gM (decl_name%.bl (Me rfl))))
def mw:Fx:=Tb [] [] BL IL ML TL cm
def iU:List D->Rs D:=bZ mw (aa (ai 47)) ["_law_things", "_law_cell_here"] (ak (ai 47))
theorem BD{l m:List Int}(h:l.Perm m):cF l=cF m:=by
 induction h with
 | nil=>rfl
 | cons x _ ih=>rw[cC,cC,ih]
 | swap x y l=>rw[cC,cC,cC,cC];grind
 | trans _ _ a b=>exact a.trans b
theorem Hi(c:Int)(hl:ns.length<=20):∃ms:List Int,ms.Perm ns/\ac (iU [.lst (ns.map D.int),.int c]) (.lst (ms.map D.int)):=by
 have ll:ar (ns.map D.int)=true:=dz (fun _=>rfl) ns
 have ew:=uf 0 ns
 have he:gZ 0 (ns.map D.int)=(List.range ns.length).map fun i=>.tup [.int (i:Nat),.int (ns.getD i 0)]:=by
  conv=>lhs;rw[ew]
  rw[List.map_map]
  exact wF _
 have fa:=fG (Φ:=mw) (sc:=aa (ai 47)) (ρ:=bc (cD ["_law_things", "_law_cell_here"] [.lst (ns.map D.int),.int c]) "_law_found" (.lst [],true)) (h:=fun i:Nat=>D.tup [.int (i:Nat),.int (ns.getD i 0)]) (g:=fun i=>[ns.getD i 0]) (T:=(List.range ns.length).flatMap fun i=>[ns.getD i 0]) (F:=[]) (R:=[]) (k:=1) (fun F ρ => ∃ms:List Int,ms.Perm F/\Sub (bW [("_law_cell_here", .int c,false),("_law_found", .lst (ms.map D.int),true)]) ρ) (List.range ns.length) (d:=.lst (gZ 0 (ns.map D.int))) (tg:=sC ((ak (ai 47)).getD 1 (.Pass ⟨0,0,0,0⟩))) (it:=sD ((ak (ai 47)).getD 1 (.Pass ⟨0,0,0,0⟩))) (body:=nk ((ak (ai 47)).getD 1 (.Pass ⟨0,0,0,0⟩))) (p:=⟨0,0,0,0⟩) decl_name% (by show some (gZ 0 _)=_;rw[he]) ⟨[],List.Perm.refl _,ae rfl (ae rfl aO)⟩ (by simp) ?_
 ·rw[List.nil_append,jg,<- ew]at fa
  obtain⟨ρ',f1,ms,pm,s⟩:=fa
  exact⟨ms,pm,cX (bX 1 decl_name% (bD f1 (dy s decl_name%)))⟩
 ·rintro i hi F R ρ e ⟨ms,pm,s⟩
  have hi:i<ns.length:=by simpa using hi
  have lF:F.length<=ns.length:=by
   have:=congrArg List.length e
   simp only[List.length_append,jg,List.length_map,List.length_range]at this
   omega
  have lm:ms.length<=20:=by rw[pm.length_eq];omega
  have dv:gA ((i:Int)+3):=wK (by omega) (by omega)
  have mk:bJ (i:Int) 7919:=qS (by decide)
  have hne:((((ms.map D.int).length:Nat):Int)+1)≠0:=by omega
  have i0:=Int.fmod_nonneg_of_pos (c.fdiv ((i:Int)+3)+(i:Int)*7919) (show(0:Int)<(((ms.map D.int).length:Nat):Int)+1 by omega)
  have i1:=Int.fmod_lt_of_pos (c.fdiv ((i:Int)+3)+(i:Int)*7919) (show(0:Int)<(((ms.map D.int).length:Nat):Int)+1 by omega)
  generalize hz:(c.fdiv ((i:Int)+3)+(i:Int)*7919).fmod ((((ms.map D.int).length:Nat):Int)+1)=z at i0 i1
  have l1:(ms.map D.int).length<bA:=by rw[List.length_map];show _<40000;omega
  refine⟨_,rfl,cM ((s.put _ _).put _ _) (bD (pU (M:=nh) (ds:=[.int z,.int (ns.getD i 0)]) (l:=ms.map D.int) (l':=(ms.take z.toNat++ns.getD i 0::ms.drop z.toNat).map D.int) (k:=0) (bh (d:=.int z) (k:=0) (by rw[<- hz];exact decl_name%) (bh (d:=.int (ns.getD i 0)) (k:=0) decl_name% dm)) rfl ?_) dw) fun ρ' s'=>⟨ms.take z.toNat++ns.getD i 0::ms.drop z.toNat,?_,ae s'.get (ae s'.get aO)⟩⟩
  ·refine ac.eq (a:=(ms.map D.int).take z.toNat++D.int (ns.getD i 0)::(ms.map D.int).drop z.toNat) ⟨_,rfl,i0,by omega,rfl,l1,True.intro⟩ ?_
   rw[List.map_append,List.map_cons,List.map_take,List.map_drop]
  ·refine List.perm_middle.trans ?_
   rw[List.take_append_drop]
   exact(List.Perm.cons _ pm).trans (List.perm_append_singleton _ _).symm
def vK:Fx:=Tb [("taken_apart", fx)] [("Divided", .xc "Divided" none),("NoOrder", .xc "NoOrder" none),("Nought", .xc "Nought" none)] BL IL ML TL cm
def nX:Str->Option (List D->Option Xs):=fun g=>([("taken_apart", cS)]:List (Str×(List D->Option Xs))).lookup g
def ej:List D->Rs D:=fun ds=>match cS ds with
 | some (_,_,[(_,i)])=>.ok (.int i) []
 | _=>.st
theorem rA:∀ds r,ac (ej ds) r->ve vK nX EX (aa (ai 48)) ["_law_four", "_law_order"] ((ak (ai 48)).take 1) (GP ((ak (ai 48)).getD 1 (.Pass ⟨0,0,0,0⟩))) ((ak (ai 48)).drop 2) "SpaceError" "_law_e" "_law_error" ds r:=by
 intro ds r h
 unfold ej at h
 split at h
 ·rename_i hz
  cases aH h
  obtain⟨q,ns,rfl,t,e⟩:=zb hz
  cases e
  exact GO (o:=some "by") decl_name% (Rt.exp decl_name% rfl rfl hz) decl_name%
 ·exact(aq h).elim
def sF:Fx:=Tb [("_law_cell", kC),("_law_built", mK),("_law_divisor", gD),("taken_apart", fx),("_law_telling_well", fD),("_law_shuffled", iU),("_law_divided", ej),("_law_whole", mH)] [] BL IL ML TL cm
def qw:List D->Rs D:=fun ds=>.ok (.bl true) [yA sF (aa (ai 49)) ["_law_script"] (ak (ai 49)) ds (.bl true)]
theorem CV:∀ds r,ac (qw ds) r->yA sF (aa (ai 49)) ["_law_script"] (ak (ai 49)) ds r:=by
 rintro ds r ⟨l,h,hp⟩
 cases h
 exact hp.1
theorem Mf(ms ns:List Int):ac (iL .Eq (.lst (ms.map D.int)) (.lst (ns.map D.int))) (decide (ms=ns)):=by
 obtain⟨l,h,hp⟩:=DH ms ns
 have h:Rs.ok (!cG (.lst (ms.map D.int)) (.lst (ns.map D.int))) [gm (.lst (ms.map D.int)) (.lst (ns.map D.int))=true]=Rs.ok (!decide (ms=ns)) l:=h
 injection h with h1 h2
 subst h2
 have h1:=congrArg (fun b:Bool => !b) h1
 simp only[Bool.not_not]at h1
 exact⟨_,by show Rs.ok (cG _ _) _=_;rw[h1],hp⟩
theorem DD(h:u∈jv):am u:=(qP (lj u h)).1
theorem M0(h:u∈jv):au u=1:=(qP (lj u h)).2.1
theorem LS(h:q≠aD)(g:gQ 400 q):ac (gD [dq q]) (.int (cO q)):=by
 have b:=g.bd (by decide)
 obtain⟨n,hn,n0⟩:=wn h
 have hg:=uy hn n0
 have hle:∀n∈[q.1,q.2.1,q.2.2.1,q.2.2.2],n.natAbs<=2 ^ 400:=by
  intro n hn
  simp only[List.mem_cons,List.not_mem_nil,or_false]at hn
  rcases hn with rfl|rfl|rfl|rfl
  ·exact g.2.1
  ·exact g.2.2.1
  ·exact g.2.2.2.1
  ·exact g.2.2.2.2
 have k:=Iz (a:=q.1) (b:=q.2.1) (c:=q.2.2.1) (d:=q.2.2.2) (fun z=>h (cR z.1 z.2.1 z.2.2.1 z.2.2.2)) (fun m hm=>Nat.lt_of_le_of_lt (hle m hm) (Nat.pow_lt_pow_right (by decide) (by decide))) ⟨by omega,Nat.lt_of_le_of_lt (Nat.le_trans (DT hn n0) (hle n hn)) (Nat.pow_lt_pow_right (by decide) (by decide))⟩
 rw[Fe]at k
 refine k.eq ?_
 unfold cO
 cases jo _ _ _ _<;>rfl
theorem LB(hl:DF L):∃(q:Qd) (ms:List Int) (ρ1:af),am q/\q≠aD/\au q<=((2 ^ 300:Nat):Int)/\(∀n∈ms,n∈c7)/\ms.length<=100/\au q=cF ms/\ac (aC sF ((ak (ai 49)).take 6) (aa (ai 49)) (cD ["_law_script"] [.lst L])) (.nx ρ1)/\Sub (bW [("_law_four", dq q,false),("_law_order", .lst (ms.map D.int),true),("_law_handed", .lst (ms.map D.int),true),("_law_by", .int (cO q),true)]) ρ1:=by
 have c0:=Int.fmod_nonneg_of_pos (gS L 0) (show(0:Int)<6 by decide)
 have c1:=Int.fmod_lt_of_pos (gS L 0) (show(0:Int)<6 by decide)
 obtain⟨m,hm⟩:=Int.eq_ofNat_of_zero_le c0
 obtain⟨u,ws,hu,w1,w2,hB⟩:=Gq hl 2 (m:=m) (by omega)
 rw[<- hm]at hB
 have pks:∀w∈ws,am w:=fun w h=>(w2 w h).1.1
 have pk:am (ws.foldl aP u):=uB (DD hu) pks
 have zk:au (ws.foldl aP u)=cF (ws.map au):=by rw[qE ws u (DD hu) pks,M0 hu,Int.one_mul]
 have nP:∀n∈ws.map au,n∈c7:=fun n hn=>by obtain⟨x,hx,rfl⟩:=List.mem_map.mp hn;exact(w2 x hx).2
 have bP:cF (ws.map au)<=((2 ^ 300:Nat):Int):=Int.le_trans (zr nP).2 (Int.ofNat_le.mpr (Nat.pow_le_pow_right (by decide) (by rw[List.length_map];omega)))
 have p0:1<=cF (ws.map au):=mW nP
 have ne:ws.foldl aP u≠aD:=fun z=>by rw[z,show au aD=0 by decide]at zk;omega
 have g4:=(je (n:=300) pk (by rw[zk];exact bP)).mono (show 302<=400 by decide)
 have hv:=LS ne g4
 have lw:(ws.map au).length<=20:=by rw[List.length_map];omega
 generalize ws.foldl aP u=q at *
 generalize ws.map au=ks at *
 have ll:ar (ks.map D.int)=true:=dz (fun _=>rfl) _
 have rest:∀(ms:List Int),ms.Perm ks->∀ρ,Sub (bW [("_law_four", dq q,false),("_law_order", .lst (ms.map D.int),true)]) ρ->∃ρ1,ac (aC sF (((ak (ai 49)).drop 4).take 2) (aa (ai 49)) ρ) (.nx ρ1)/\Sub (bW [("_law_four", dq q,false),("_law_order", .lst (ms.map D.int),true),("_law_handed", .lst (ms.map D.int),true),("_law_by", .int (cO q),true)]) ρ1:=fun ms pm ρ s=>by
  have l2:ar (ms.map D.int)=true:=dz (fun _=>rfl) _
  have m2:(ms.map D.int).length<=bA:=by rw[List.length_map,pm.length_eq];show _<=40000;omega
  exact cM s (bD (bE (d:=.lst (ms.map D.int)) decl_name%) (bD (bE (d:=.int (cO q)) (bS decl_name% hv)) dw)) fun ρ' s'=>(ae s'.get (ae s'.get (ae s'.get (ae s'.get aO))))
 have m1:(ks.map D.int).length<=bA:=by rw[List.length_map];show _<=40000;omega
 by_cases hc:0<((gS L 0).fdiv 6).fmod 3
 ·obtain⟨ms,pm,hS⟩:=Hi (ns:=ks) (gS L 1) lw
  obtain⟨ρ1,h1,s1⟩:=rest ms pm _ (show Sub _ (bc (bc (bc (bc (bc (bc (bc (cD ["_law_script"] [.lst L]) "_law_cell_here" (.int (gS L 0),true)) "_law_unit" (dq u,false)) "_law_parts" (.lst (ws.map dq),false)) "_law_primes" (.lst (ks.map D.int),false)) "_law_four" (dq q,false)) "_law_order" (.lst (ks.map D.int),true)) "_law_order" (.lst (ms.map D.int),true))from ae rfl (ae rfl aO))
  exact⟨q,ms,ρ1,pk,ne,by rw[zk];exact bP,fun n hn=>nP n (pm.mem_iff.mp hn),by rw[pm.length_eq];omega,by rw[BD pm];exact zk,bD (bE (d:=.int (gS L 0)) decl_name%) (bD (At (bS decl_name% hB) rfl (.inr (Nat.zero_le 1)) rfl) (bD (bE (d:=.lst (ks.map D.int)) decl_name%) (ly (t:=true) (k:=0) (decl_name%.bl (decide_eq_true hc)) rfl (bD (bE (d:=.lst (ms.map D.int)) (bS decl_name% hS)) h1)))),s1⟩
 ·obtain⟨ρ1,h1,s1⟩:=rest ks (List.Perm.refl _) _ (show Sub _ (bc (bc (bc (bc (bc (bc (cD ["_law_script"] [.lst L]) "_law_cell_here" (.int (gS L 0),true)) "_law_unit" (dq u,false)) "_law_parts" (.lst (ws.map dq),false)) "_law_primes" (.lst (ks.map D.int),false)) "_law_four" (dq q,false)) "_law_order" (.lst (ks.map D.int),true))from ae rfl (ae rfl aO))
  exact⟨q,ks,ρ1,pk,ne,by rw[zk];exact bP,nP,by omega,zk,bD (bE (d:=.int (gS L 0)) decl_name%) (bD (At (bS decl_name% hB) rfl (.inr (Nat.zero_le 1)) rfl) (bD (bE (d:=.lst (ks.map D.int)) decl_name%) (cA (t:=false) (k:=0) (decl_name%.bl (decide_eq_false hc)) rfl h1))),s1⟩
theorem B3(ns:List Int)(_:ns.length<=63):ac (qw [.lst (ns.map D.int)]) (.bl true):=by
 have hl:DF (ns.map D.int):=⟨ns,rfl⟩
 generalize ns.map D.int=L at *
 obtain⟨q,ms,ρ1,pa,ne,sz,pr,ln,eq,h1,s1⟩:=LB hl
 refine⟨_,rfl,⟨rfl,Rf.cut 6 h1 ?_⟩,True.intro⟩
 have ll:ar (ms.map D.int)=true:=dz (fun _=>rfl) _
 have m1:(ms.map D.int).length<=bA:=by rw[List.length_map];show _<=40000;omega
 have hE:=Mf ms ms
 rw[decide_eq_true rfl]at hE
 have hN:=DH ms ms
 rw[decide_eq_true rfl]at hN
 by_cases hv:1<cO q
 ·have hD:ac (ej [dq q,.lst (ms.map D.int)]) (.int (cO q)):=⟨[],by unfold ej;rw[Sx ⟨pa,ne,sz,pr,ln,eq,hv⟩],True.intro⟩
  exact Rf.base (dy s1 (ly (t:=true) (k:=0) (decl_name%.bl (decide_eq_true hv)) rfl (bD (bE (d:=.int (cO q)) (bS decl_name% hD)) (iY (gM (d9 (gy decl_name% (gy (decl_name%.bl (QH rfl)) (gy (fk decl_name% decl_name% hE) jL)))))))))
 ·obtain⟨r,ds,g1,g2,g3,g4,g5,hA⟩:=GC pa ((wa ne pa).mpr (by omega)) sz pr ln eq
  have hW:=GL g1 g2 g3 g4 g5 pr ln (by rw[<- eq];exact sz)
  have ld:ds.length<=100:=by have:=congrArg List.length g4;rw[List.length_map]at this;omega
  have s2:=s1.put (Str.ofString "_law_told") (vT r ds,true)
  refine Rf.cut 3 (cA (t:=false) (k:=0) (bz s1 (decl_name%.bl (decide_eq_false hv))) rfl (bD (bE (d:=vT r ds) (bS (jE decl_name% s1) hA)) (cA (t:=false) (k:=0) (d9 (fu (Ji (b:=true) (bS (jE decl_name% s2) hW)) (fu (fk (bz s2 decl_name%) (bz s2 decl_name%) hN) lY))) rfl dw))) ?_
  refine Rf.seq (mM.app1 (M:=jG) (dt:=[dq r,.lst (ds.map dq)]) (l:=ds.map dq) (l':=ds.map dq++[dq q]) (d:=dq q) (j:=1) (k:=0) (ki:=0) rfl s2.get (bz s2 decl_name%) (fun _ _=>rfl) rfl (jE decl_name% s2) rfl rfl (qk (by rw[List.length_map];show _<40000;omega))) (Rf.base ?_)
  have s3:Sub (bW [("_law_four", dq q,false),("_law_order", .lst (ms.map D.int),true),("_law_handed", .lst (ms.map D.int),true),("_law_by", .int (cO q),true)]) (qd (bc ρ1 (Str.ofString "_law_told") (vT r ds,true)) (Str.ofString "_law_told")):=ae ((if_neg (by decide +kernel)).trans s2.get) (ae ((if_neg (by decide +kernel)).trans s2.get) (ae ((if_neg (by decide +kernel)).trans s2.get) (ae ((if_neg (by decide +kernel)).trans s2.get) aO)))
  exact dy s3 (iY (gM (bS (bh (bS decl_name% hA) (bh decl_name% (bh decl_name% dm))) hW)))
theorem NO:aM (az (aa (ai 36))) ["_law_script", "_law_k"] (aa (ai 36)):=⟨rfl,rfl,rfl,by decide +kernel,by decide +kernel,by decide +kernel,by decide +kernel⟩
theorem NJ:aM (az (aa (ai 42))) [] (aa (ai 42)):=⟨rfl,rfl,rfl,by decide +kernel,by decide +kernel,by decide +kernel,by decide +kernel⟩
theorem NI:aM (az (aa (ai 43))) ["_law_n"] (aa (ai 43)):=⟨rfl,rfl,rfl,by decide +kernel,by decide +kernel,by decide +kernel,by decide +kernel⟩
theorem NK:aM (az (aa (ai 40))) ["_law_one", "_law_other"] (aa (ai 40)):=⟨rfl,rfl,rfl,by decide +kernel,by decide +kernel,by decide +kernel,by decide +kernel⟩
theorem NH:aM (az (aa (ai 44))) ["_law_script", "_law_begin", "_law_many"] (aa (ai 44)):=⟨rfl,rfl,rfl,by decide +kernel,by decide +kernel,by decide +kernel,by decide +kernel⟩
theorem NG:aM (az (aa (ai 45))) ["_law_four"] (aa (ai 45)):=⟨rfl,rfl,rfl,by decide +kernel,by decide +kernel,by decide +kernel,by decide +kernel⟩
theorem NQ:aM (az (aa (ai 30))) ["one", "other"] (aa (ai 30)):=⟨rfl,rfl,rfl,by decide +kernel,by decide +kernel,by decide +kernel,by decide +kernel⟩
theorem NR:aM (az (aa (ai 29))) ["numbers"] (aa (ai 29)):=⟨rfl,rfl,rfl,by decide +kernel,by decide +kernel,by decide +kernel,by decide +kernel⟩
theorem SU:aM (az (aa (ai 8))) ["thing"] (aa (ai 8)):=⟨rfl,rfl,rfl,by decide +kernel,by decide +kernel,by decide +kernel,by decide +kernel⟩
theorem ST:aM (az (aa (ai 9))) ["thing"] (aa (ai 9)):=⟨rfl,rfl,rfl,by decide +kernel,by decide +kernel,by decide +kernel,by decide +kernel⟩
theorem Hr:aM (az (aa (ai 32))) ["four"] (aa (ai 32)):=⟨rfl,rfl,rfl,by decide +kernel,by decide +kernel,by decide +kernel,by decide +kernel⟩
theorem NP:aM (az (aa (ai 34))) ["order", "whole"] (aa (ai 34)):=⟨rfl,rfl,rfl,by decide +kernel,by decide +kernel,by decide +kernel,by decide +kernel⟩
theorem NV:aM (az (aa (ai 17))) ["four"] (aa (ai 17)):=⟨rfl,rfl,rfl,by decide +kernel,by decide +kernel,by decide +kernel,by decide +kernel⟩
theorem Ht:aM (az (aa (ai 21))) ["side"] (aa (ai 21)):=⟨rfl,rfl,rfl,by decide +kernel,by decide +kernel,by decide +kernel,by decide +kernel⟩
theorem N0:aM (az (aa (ai 10))) ["one", "other"] (aa (ai 10)):=⟨rfl,rfl,rfl,by decide +kernel,by decide +kernel,by decide +kernel,by decide +kernel⟩
theorem NZ:aM (az (aa (ai 11))) ["one", "number"] (aa (ai 11)):=⟨rfl,rfl,rfl,by decide +kernel,by decide +kernel,by decide +kernel,by decide +kernel⟩
theorem NS:aM (az (aa (ai 24))) ["four", "tried", "number"] (aa (ai 24)):=⟨rfl,rfl,rfl,by decide +kernel,by decide +kernel,by decide +kernel,by decide +kernel⟩
theorem NT:aM (az (aa (ai 23))) ["four", "number"] (aa (ai 23)):=⟨rfl,rfl,rfl,by decide +kernel,by decide +kernel,by decide +kernel,by decide +kernel⟩
theorem NY:aM (az (aa (ai 14))) ["one", "other"] (aa (ai 14)):=⟨rfl,rfl,rfl,by decide +kernel,by decide +kernel,by decide +kernel,by decide +kernel⟩
theorem NX:aM (az (aa (ai 15))) ["one", "other"] (aa (ai 15)):=⟨rfl,rfl,rfl,by decide +kernel,by decide +kernel,by decide +kernel,by decide +kernel⟩
theorem NU:aM (az (aa (ai 22))) ["one", "other", "side"] (aa (ai 22)):=⟨rfl,rfl,rfl,by decide +kernel,by decide +kernel,by decide +kernel,by decide +kernel⟩
theorem NW:aM (az (aa (ai 16))) ["four"] (aa (ai 16)):=⟨rfl,rfl,rfl,by decide +kernel,by decide +kernel,by decide +kernel,by decide +kernel⟩
theorem Hv:aM (az (aa (ai 19))) ["one", "other", "side"] (aa (ai 19)):=⟨rfl,rfl,rfl,by decide +kernel,by decide +kernel,by decide +kernel,by decide +kernel⟩
theorem Hu:aM (az (aa (ai 20))) ["one", "other", "side"] (aa (ai 20)):=⟨rfl,rfl,rfl,by decide +kernel,by decide +kernel,by decide +kernel,by decide +kernel⟩
theorem Hs:aM (az (aa (ai 26))) ["one", "other", "side"] (aa (ai 26)):=⟨rfl,rfl,rfl,by decide +kernel,by decide +kernel,by decide +kernel,by decide +kernel⟩
theorem Hq:aM (az (aa (ai 33))) ["four", "order"] (aa (ai 33)):=⟨rfl,rfl,rfl,by decide +kernel,by decide +kernel,by decide +kernel,by decide +kernel⟩
theorem NN:aM (az (aa (ai 37))) ["_law_x"] (aa (ai 37)):=⟨rfl,rfl,rfl,by decide +kernel,by decide +kernel,by decide +kernel,by decide +kernel⟩
theorem NM:aM (az (aa (ai 38))) ["_law_thing"] (aa (ai 38)):=⟨rfl,rfl,rfl,by decide +kernel,by decide +kernel,by decide +kernel,by decide +kernel⟩
theorem NL:aM (az (aa (ai 39))) ["_law_four"] (aa (ai 39)):=⟨rfl,rfl,rfl,by decide +kernel,by decide +kernel,by decide +kernel,by decide +kernel⟩
theorem NF:aM (az (aa (ai 46))) ["_law_telling", "_law_primes", "_law_four"] (aa (ai 46)):=⟨rfl,rfl,rfl,by decide +kernel,by decide +kernel,by decide +kernel,by decide +kernel⟩
theorem NE:aM (az (aa (ai 47))) ["_law_things", "_law_cell_here"] (aa (ai 47)):=⟨rfl,rfl,rfl,by decide +kernel,by decide +kernel,by decide +kernel,by decide +kernel⟩
theorem ND:aM (az (aa (ai 48))) ["_law_four", "_law_order"] (aa (ai 48)):=⟨rfl,rfl,rfl,by decide +kernel,by decide +kernel,by decide +kernel,by decide +kernel⟩
theorem NC:aM (az (aa (ai 49))) ["_law_script"] (aa (ai 49)):=⟨rfl,rfl,rfl,by decide +kernel,by decide +kernel,by decide +kernel,by decide +kernel⟩
theorem Lp:aM (az (aa (fv (ai 5) 0))) ["self", "by"] (aa (fv (ai 5) 0)):=⟨rfl,rfl,rfl,by decide +kernel,by decide +kernel,by decide +kernel,by decide +kernel⟩
theorem Lq:aM (az (aa (fv (ai 4) 0))) ["self", "at"] (aa (fv (ai 4) 0)):=⟨rfl,rfl,rfl,by decide +kernel,by decide +kernel,by decide +kernel,by decide +kernel⟩
theorem bv:∀p∈BL,ju p:=al (Pr:=ju) (Gv) (al (Pr:=ju) (AL) (al (Pr:=ju) (CG) (al (Pr:=ju) (GA) (al (Pr:=ju) (Gz) (al (Pr:=ju) (Gu) (al (Pr:=ju) (Gw) (al (Pr:=ju) (Gy) (av))))))))
theorem bu:∀p∈IL,rC p:=al (Pr:=rC) (Ai) (al (Pr:=rC) (FJ) (al (Pr:=rC) (Ce) (al (Pr:=rC) (FK) (av))))
theorem bt:∀p∈ML,Ky p:=av
theorem bo:∀p∈TL,yE p:=al (Pr:=yE) (xV) (al (Pr:=yE) (xU) (av))
theorem cL{P:Program}{k0:W.Frag}{base:Heap}{j k:Nat}{g:Str}{F:List D->Rs D}{l:List (Str×(List D->Rs D))}(h:cy P w k0 mg base j g F)(t:∀p∈l,Eg P w k0 mg base k p)(hj:j<=k:=by decide):∀p∈(g,F)::l,Eg P w k0 mg base k p:=al (Pr:=Eg P w k0 mg base k) (Or.inl (h.mono hj)) t
theorem all_mk{K:W.Frag}{h:Heap}{fa f36 f42 f43 f40 f44 f45 f30 f29 f8 f9 f32 f34 f17 f21 f10 f11 f24 f23 f14 f15 f22 f16 f19 f20 f26 f33 f37 f38 f39 f46 f47 f48 f49 qZ q9:Addr}(X:K.In h)(G:h.Ns mainGlobals mg)(hfa:mg "law" = some (.ref fa))
  {OU Sb OP R6 OO R5 OQ R7 ON R4 OM R0 OY Sf OZ Sg od8 an8 od9 an9 OX Se OV Sc Pb So O8 Sl Ph Sv Pg Su O1 Si O6 Sj Pf Ss Pd Sr O7 Sk Pc Sq Pa Sn O9 Sm O0 Sh OW Sd OT Sa OS R9 OR R8 OL RZ OK RY OJ RX OI Km LL Mr LM Ms:Option Addr} {Nh M9 M8 Nc M7 M6 Nl Nm sl8 sl9 Nk Ni Nv Nr NA Nz No Np Ny Nx Nq Nw Nu Nt Nn Nj Ng Nf Nd M5 M4 M3 M2 Ln Lo:Array (Option Value)} {Pv Qg QT Ol JO Ry Pp Qa QO Of JJ Rr Po P9 QN Oe JI Rq Pq Qb QP Og JK Ru Pn P8 QM Od JH Ro Pm P7 QL Oc JG Rm Pz Qk QX Op JS RD PB Ql QY Oq JT RE oc8 kV8 dc8 pm8 cd8 ct8 oc9 kV9 dc9 pm9 cd9 ct9 Py Qj QW Oo JR RC Pw Qh QU Om JP RA PM Qu Q9 OA J8 RM PJ Qr Q6 Ox JY RJ PU Qz Rh OG Ke RS PR Qy Rg OF Kc RQ PD Qo Q0 Ot JV RG PF Qp Q4 Ou JW RH PQ Qx Re OE Kb RP PP Qw Rb OC Ka RO PH Qq Q5 Ov JX RI PN Qv Ra OB J9 RN PL Qt Q8 Oz J0 RL PK Qs Q7 Oy JZ RK PC Qn QZ Os JU RF Px Qi QV On JQ RB Pu Qf QS Oj JN Rx Pt Qe QR Oi JM Rw Ps Qc QQ Oh JL Rv Pl P6 QK Ob JF Rl Pk P5 QJ Oa JE Rk Pj P4 QI N9 JD Rj Pi II Jz HG Cy JA LN LW Mi LC D2 Ml LO LX Mj LD D3 Mm:Value}
  {bO:Addr} (ij:W.nsIn K mainGlobals "Divided" = some (some (.ref bO))) (xi_Divided:W.findIn K (.ref bO) "__init__" = some (some (.ref qZ)))
  {bN:Addr} (ii:W.nsIn K mainGlobals "NoOrder" = some (some (.ref bN))) (xi_NoOrder:W.findIn K (.ref bN) "__init__" = some (some (.ref q9)))
  (a36:W.nsIn K mainGlobals "_law_cell" = some (some (.ref f36)))    (l36:K.lookup f36=some ⟨Pv,OU,.func (W.fnOf "_law_cell" "_law_cell" (aR (ai 36)) (ak (ai 36)) (aa (ai 36)) .none Qg QT Ol Sb JO Ry),Nh⟩) (c36:W.codeIn K JO "_law_cell" = true) (k36:W.keepIn K (.ref f36)=true)
  (a42:W.nsIn K mainGlobals "_law_units" = some (some (.ref f42)))    (l42:K.lookup f42=some ⟨Pp,OP,.func (W.fnOf "_law_units" "_law_units" (aR (ai 42)) (ak (ai 42)) (aa (ai 42)) .none Qa QO Of R6 JJ Rr),M9⟩) (c42:W.codeIn K JJ "_law_units" = true) (k42:W.keepIn K (.ref f42)=true)
  (a43:W.nsIn K mainGlobals "_law_fours" = some (some (.ref f43)))    (l43:K.lookup f43=some ⟨Po,OO,.func (W.fnOf "_law_fours" "_law_fours" (aR (ai 43)) (ak (ai 43)) (aa (ai 43)) .none P9 QN Oe R5 JI Rq),M8⟩) (c43:W.codeIn K JI "_law_fours" = true) (k43:W.keepIn K (.ref f43)=true)
  (a40:W.nsIn K mainGlobals "_law_times" = some (some (.ref f40)))    (l40:K.lookup f40=some ⟨Pq,OQ,.func (W.fnOf "_law_times" "_law_times" (aR (ai 40)) (ak (ai 40)) (aa (ai 40)) .none Qb QP Og R7 JK Ru),Nc⟩) (c40:W.codeIn K JK "_law_times" = true) (k40:W.keepIn K (.ref f40)=true)
  (a44:W.nsIn K mainGlobals "_law_built" = some (some (.ref f44)))    (l44:K.lookup f44=some ⟨Pn,ON,.func (W.fnOf "_law_built" "_law_built" (aR (ai 44)) (ak (ai 44)) (aa (ai 44)) .none P8 QM Od R4 JH Ro),M7⟩) (c44:W.codeIn K JH "_law_built" = true) (k44:W.keepIn K (.ref f44)=true)
  (a45:W.nsIn K mainGlobals "_law_divisor" = some (some (.ref f45)))    (l45:K.lookup f45=some ⟨Pm,OM,.func (W.fnOf "_law_divisor" "_law_divisor" (aR (ai 45)) (ak (ai 45)) (aa (ai 45)) .none P7 QL Oc R0 JG Rm),M6⟩) (c45:W.codeIn K JG "_law_divisor" = true) (k45:W.keepIn K (.ref f45)=true)
  (a30:W.nsIn K mainGlobals "shared_by" = some (some (.ref f30)))    (l30:K.lookup f30=some ⟨Pz,OY,.func (W.fnOf "shared_by" "shared_by" (aR (ai 30)) (ak (ai 30)) (aa (ai 30)) .none Qk QX Op Sf JS RD),Nl⟩) (c30:W.codeIn K JS "shared_by" = true) (k30:W.keepIn K (.ref f30)=true)
  (a29:W.nsIn K mainGlobals "common_divisor" = some (some (.ref f29)))    (l29:K.lookup f29=some ⟨PB,OZ,.func (W.fnOf "common_divisor" "common_divisor" (aR (ai 29)) (ak (ai 29)) (aa (ai 29)) .none Ql QY Oq Sg JT RE),Nm⟩) (c29:W.codeIn K JT "common_divisor" = true) (k29:W.keepIn K (.ref f29)=true)
  (a8:W.nsIn K mainGlobals "is_whole" = some (some (.ref f8)))    (l8:K.lookup f8=some ⟨oc8,od8,.func (W.fnOf "is_whole" "is_whole" (aR (ai 8)) (ak (ai 8)) (aa (ai 8)) .none kV8 dc8 pm8 an8 cd8 ct8),sl8⟩) (c8:W.codeIn K cd8 "is_whole" = true) (k8:W.keepIn K (.ref f8)=true)
  (a9:W.nsIn K mainGlobals "is_four" = some (some (.ref f9)))    (l9:K.lookup f9=some ⟨oc9,od9,.func (W.fnOf "is_four" "is_four" (aR (ai 9)) (ak (ai 9)) (aa (ai 9)) .none kV9 dc9 pm9 an9 cd9 ct9),sl9⟩) (c9:W.codeIn K cd9 "is_four" = true) (k9:W.keepIn K (.ref f9)=true)
  (a32:W.nsIn K mainGlobals "whole_divisor" = some (some (.ref f32)))    (l32:K.lookup f32=some ⟨Py,OX,.func (W.fnOf "whole_divisor" "whole_divisor" (aR (ai 32)) (ak (ai 32)) (aa (ai 32)) .none Qj QW Oo Se JR RC),Nk⟩) (c32:W.codeIn K JR "whole_divisor" = true) (k32:W.keepIn K (.ref f32)=true)
  (a34:W.nsIn K mainGlobals "order_fault" = some (some (.ref f34)))    (l34:K.lookup f34=some ⟨Pw,OV,.func (W.fnOf "order_fault" "order_fault" (aR (ai 34)) (ak (ai 34)) (aa (ai 34)) .none Qh QU Om Sc JP RA),Ni⟩) (c34:W.codeIn K JP "order_fault" = true) (k34:W.keepIn K (.ref f34)=true)
  (a17:W.nsIn K mainGlobals "size" = some (some (.ref f17)))    (l17:K.lookup f17=some ⟨PM,Pb,.func (W.fnOf "size" "size" (aR (ai 17)) (ak (ai 17)) (aa (ai 17)) .none Qu Q9 OA So J8 RM),Nv⟩) (c17:W.codeIn K J8 "size" = true) (k17:W.keepIn K (.ref f17)=true)
  (a21:W.nsIn K mainGlobals "refuse_no_side" = some (some (.ref f21)))    (gK:K.lookup f21=some ⟨PJ,O8,.func (W.fnOf "refuse_no_side" "refuse_no_side" (aR (ai 21)) (ak (ai 21)) (aa (ai 21)) .none Qr Q6 Ox Sl JY RJ),Nr⟩) (c21:W.codeIn K JY "refuse_no_side" = true) (k21:W.keepIn K (.ref f21)=true)
  (a10:W.nsIn K mainGlobals "less" = some (some (.ref f10)))    (l10:K.lookup f10=some ⟨PU,Ph,.func (W.fnOf "less" "less" (aR (ai 10)) (ak (ai 10)) (aa (ai 10)) .none Qz Rh OG Sv Ke RS),NA⟩) (c10:W.codeIn K Ke "less" = true) (k10:W.keepIn K (.ref f10)=true)
  (a11:W.nsIn K mainGlobals "many_times" = some (some (.ref f11)))    (l11:K.lookup f11=some ⟨PR,Pg,.func (W.fnOf "many_times" "many_times" (aR (ai 11)) (ak (ai 11)) (aa (ai 11)) .none Qy Rg OF Su Kc RQ),Nz⟩) (c11:W.codeIn K Kc "many_times" = true) (k11:W.keepIn K (.ref f11)=true)
  (a24:W.nsIn K mainGlobals "strayed" = some (some (.ref f24)))    (l24:K.lookup f24=some ⟨PD,O1,.func (W.fnOf "strayed" "strayed" (aR (ai 24)) (ak (ai 24)) (aa (ai 24)) .none Qo Q0 Ot Si JV RG),No⟩) (c24:W.codeIn K JV "strayed" = true) (k24:W.keepIn K (.ref f24)=true)
  (a23:W.nsIn K mainGlobals "nearest" = some (some (.ref f23)))    (l23:K.lookup f23=some ⟨PF,O6,.func (W.fnOf "nearest" "nearest" (aR (ai 23)) (ak (ai 23)) (aa (ai 23)) .none Qp Q4 Ou Sj JW RH),Np⟩) (c23:W.codeIn K JW "nearest" = true) (k23:W.keepIn K (.ref f23)=true)
  (a14:W.nsIn K mainGlobals "plain_product" = some (some (.ref f14)))    (l14:K.lookup f14=some ⟨PQ,Pf,.func (W.fnOf "plain_product" "plain_product" (aR (ai 14)) (ak (ai 14)) (aa (ai 14)) .none Qx Re OE Ss Kb RP),Ny⟩) (c14:W.codeIn K Kb "plain_product" = true) (k14:W.keepIn K (.ref f14)=true)
  (a15:W.nsIn K mainGlobals "product" = some (some (.ref f15)))    (l15:K.lookup f15=some ⟨PP,Pd,.func (W.fnOf "product" "product" (aR (ai 15)) (ak (ai 15)) (aa (ai 15)) .none Qw Rb OC Sr Ka RO),Nx⟩) (c15:W.codeIn K Ka "product" = true) (k15:W.keepIn K (.ref f15)=true)
  (a22:W.nsIn K mainGlobals "beside" = some (some (.ref f22)))    (l22:K.lookup f22=some ⟨PH,O7,.func (W.fnOf "beside" "beside" (aR (ai 22)) (ak (ai 22)) (aa (ai 22)) .none Qq Q5 Ov Sk JX RI),Nq⟩) (c22:W.codeIn K JX "beside" = true) (k22:W.keepIn K (.ref f22)=true)
  (a16:W.nsIn K mainGlobals "other_signed" = some (some (.ref f16)))    (l16:K.lookup f16=some ⟨PN,Pc,.func (W.fnOf "other_signed" "other_signed" (aR (ai 16)) (ak (ai 16)) (aa (ai 16)) .none Qv Ra OB Sq J9 RN),Nw⟩) (c16:W.codeIn K J9 "other_signed" = true) (k16:W.keepIn K (.ref f16)=true)
  (a19:W.nsIn K mainGlobals "divided" = some (some (.ref f19)))    (l19:K.lookup f19=some ⟨PL,Pa,.func (W.fnOf "divided" "divided" (aR (ai 19)) (ak (ai 19)) (aa (ai 19)) .none Qt Q8 Oz Sn J0 RL),Nu⟩) (c19:W.codeIn K J0 "divided" = true) (k19:W.keepIn K (.ref f19)=true)
  (a20:W.nsIn K mainGlobals "exact" = some (some (.ref f20)))    (l20:K.lookup f20=some ⟨PK,O9,.func (W.fnOf "exact" "exact" (aR (ai 20)) (ak (ai 20)) (aa (ai 20)) .none Qs Q7 Oy Sm JZ RK),Nt⟩) (c20:W.codeIn K JZ "exact" = true) (k20:W.keepIn K (.ref f20)=true)
  (a26:W.nsIn K mainGlobals "greatest" = some (some (.ref f26)))    (l26:K.lookup f26=some ⟨PC,O0,.func (W.fnOf "greatest" "greatest" (aR (ai 26)) (ak (ai 26)) (aa (ai 26)) .none Qn QZ Os Sh JU RF),Nn⟩) (c26:W.codeIn K JU "greatest" = true) (k26:W.keepIn K (.ref f26)=true)
  (a33:W.nsIn K mainGlobals "taken_apart" = some (some (.ref f33)))    (l33:K.lookup f33=some ⟨Px,OW,.func (W.fnOf "taken_apart" "taken_apart" (aR (ai 33)) (ak (ai 33)) (aa (ai 33)) .none Qi QV On Sd JQ RB),Nj⟩) (c33:W.codeIn K JQ "taken_apart" = true) (k33:W.keepIn K (.ref f33)=true)
  (a37:W.nsIn K mainGlobals "_law_whole" = some (some (.ref f37)))    (l37:K.lookup f37=some ⟨Pu,OT,.func (W.fnOf "_law_whole" "_law_whole" (aR (ai 37)) (ak (ai 37)) (aa (ai 37)) .none Qf QS Oj Sa JN Rx),Ng⟩) (c37:W.codeIn K JN "_law_whole" = true) (k37:W.keepIn K (.ref f37)=true)
  (a38:W.nsIn K mainGlobals "_law_is_four" = some (some (.ref f38)))    (l38:K.lookup f38=some ⟨Pt,OS,.func (W.fnOf "_law_is_four" "_law_is_four" (aR (ai 38)) (ak (ai 38)) (aa (ai 38)) .none Qe QR Oi R9 JM Rw),Nf⟩) (c38:W.codeIn K JM "_law_is_four" = true) (k38:W.keepIn K (.ref f38)=true)
  (a39:W.nsIn K mainGlobals "_law_size" = some (some (.ref f39)))    (l39:K.lookup f39=some ⟨Ps,OR,.func (W.fnOf "_law_size" "_law_size" (aR (ai 39)) (ak (ai 39)) (aa (ai 39)) .none Qc QQ Oh R8 JL Rv),Nd⟩) (c39:W.codeIn K JL "_law_size" = true) (k39:W.keepIn K (.ref f39)=true)
  (a46:W.nsIn K mainGlobals "_law_telling_well" = some (some (.ref f46)))    (l46:K.lookup f46=some ⟨Pl,OL,.func (W.fnOf "_law_telling_well" "_law_telling_well" (aR (ai 46)) (ak (ai 46)) (aa (ai 46)) .none P6 QK Ob RZ JF Rl),M5⟩) (c46:W.codeIn K JF "_law_telling_well" = true) (k46:W.keepIn K (.ref f46)=true)
  (a47:W.nsIn K mainGlobals "_law_shuffled" = some (some (.ref f47)))    (l47:K.lookup f47=some ⟨Pk,OK,.func (W.fnOf "_law_shuffled" "_law_shuffled" (aR (ai 47)) (ak (ai 47)) (aa (ai 47)) .none P5 QJ Oa RY JE Rk),M4⟩) (c47:W.codeIn K JE "_law_shuffled" = true) (k47:W.keepIn K (.ref f47)=true)
  (a48:W.nsIn K mainGlobals "_law_divided" = some (some (.ref f48)))    (l48:K.lookup f48=some ⟨Pj,OJ,.func (W.fnOf "_law_divided" "_law_divided" (aR (ai 48)) (ak (ai 48)) (aa (ai 48)) .none P4 QI N9 RX JD Rj),M3⟩) (c48:W.codeIn K JD "_law_divided" = true) (k48:W.keepIn K (.ref f48)=true)
  (a49:W.nsIn K mainGlobals "law" = some (some (.ref f49)))    (l49:K.lookup f49=some ⟨Pi,OI,.func (W.fnOf "law" "law" (aR (ai 49)) (ak (ai 49)) (aa (ai 49)) .none II Jz HG Km Cy JA),M2⟩) (c49:W.codeIn K Cy "law" = true) (k49:W.keepIn K (.ref f49)=true)
  (B5:K.lookup qZ=some ⟨LN,LL,.func (W.fnOf "__init__" "Divided.__init__" (aR (fv (ai 5) 0)) (ak (fv (ai 5) 0)) (aa (fv (ai 5) 0)) .none LW Mi LC Mr D2 Ml),Ln⟩) (RT:W.codeIn K D2 "Divided.__init__" = true) (QA:W.keepIn K (.ref qZ)=true)
  (B6:K.lookup q9=some ⟨LO,LM,.func (W.fnOf "__init__" "NoOrder.__init__" (aR (fv (ai 4) 0)) (ak (fv (ai 4) 0)) (aa (fv (ai 4) 0)) .none LX Mj LD Ms D3 Mm),Lo⟩) (RU:W.codeIn K D3 "NoOrder.__init__" = true) (QB:W.keepIn K (.ref q9)=true)
  {dE:Addr} (rV:W.nsIn K mainGlobals "NoSide" = some (some (.ref dE)))
  {cT:Addr} (jh:W.nsIn K mainGlobals "Nought" = some (some (.ref cT)))
  {bn:Addr} (dn:W.nsIn K mainGlobals "SpaceError" = some (some (.ref bn)))
  (xA:ph K "Divided" bO=true) (yj:uS K bO=true)
  (xz:ph K "NoOrder" bN=true) (yi:uS K bN=true)
  (zh:ph K "Nought" cT=true) (AE:uS K cT=true)
  (xs0:W.specialIn K (.builtin "object.__class__") "__get__" = some (some (.builtin "getset_descriptor.__get__"))) (xt0:W.takesIn K (.builtin "object.__class__")=some true)
  (oZ:gY K bO bn=true) (xl:W.findIn K (.ref bO) "__getattribute__" = some (some (.builtin "BaseException.__getattribute__"))) (xj:W.findIn K (.ref bO) "__getattr__" = some none) (xh:W.findIn K (.ref bO) "__class__" = some (some (.builtin "object.__class__"))) (xb:W.mroIn K bO (.type "object")=some true) (wZ:W.exmOne K (.ref bO) (.ref bn)=some true) (wX:eD K bO=some (.ref qZ))
  (wV:W.keepIn K (.ref bO)=true) (oX:W.hasDictIn K bO=true) (wT:W.findIn K (.ref bO) "__setattr__" = some (some (.builtin "object.__setattr__"))) (oV:W.findIn K (.ref bO) "by" = some none) (wR:W.isFn K (.ref qZ)=true)
  (oY:gY K bN bn=true) (xk:W.findIn K (.ref bN) "__getattribute__" = some (some (.builtin "BaseException.__getattribute__"))) (xi:W.findIn K (.ref bN) "__getattr__" = some none) (xg:W.findIn K (.ref bN) "__class__" = some (some (.builtin "object.__class__"))) (xa:W.mroIn K bN (.type "object")=some true) (wY:W.exmOne K (.ref bN) (.ref bn)=some true) (wW:eD K bN=some (.ref q9))
  (wU:W.keepIn K (.ref bN)=true) (oW:W.hasDictIn K bN=true) (wS:W.findIn K (.ref bN) "__setattr__" = some (some (.builtin "object.__setattr__"))) (oS:W.findIn K (.ref bN) "at" = some none) (wQ:W.isFn K (.ref q9)=true)
  (yV:gY K dE bn=true) (yT:W.findIn K (.ref dE) "__getattribute__" = some (some (.builtin "BaseException.__getattribute__"))) (yR:W.findIn K (.ref dE) "__getattr__" = some none) (yP:W.findIn K (.ref dE) "__class__" = some (some (.builtin "object.__class__"))) (yN:W.mroIn K dE (.type "object")=some true) (yL:W.exmOne K (.ref dE) (.ref bn)=some true) (yJ:eD K dE=none)
  (yU:gY K cT bn=true) (yS:W.findIn K (.ref cT) "__getattribute__" = some (some (.builtin "BaseException.__getattribute__"))) (yQ:W.findIn K (.ref cT) "__getattr__" = some none) (yO:W.findIn K (.ref cT) "__class__" = some (some (.builtin "object.__class__"))) (yM:W.mroIn K cT (.type "object")=some true) (yK:W.exmOne K (.ref cT) (.ref bn)=some true) (yI:eD K cT=none)
  (kI:W.specialIn K (.ref bn) "__getattribute__" = some (some (.builtin "type.__getattribute__"))) (kH:W.readsIn K bn (.type "type")=true) (kJ:W.findCls K (.ref bn) (.type "type") "__init__" = some (.val (.builtin "ValueError.__init__")))
  {ca1:Addr} {dd1:Option Addr} {ss1:Array (Option Value)} {nn1:Nat} {La K9 K8 K7:Tok} (g1:W.nsIn K mainGlobals "NOUGHT" = some (some (.ref ca1))) (m1:K.lookup ca1=some ⟨.type "tuple", dd1,.seq #[.int (0) La,.int (0) K9,.int (0) K8,.int (0) K7] nn1,ss1⟩)
  {ca4:Addr} {dd4:Option Addr} {ss4:Array (Option Value)} {nn4:Nat} {K6 K5 K3 K2:Tok} (g4:W.nsIn K mainGlobals "ONE" = some (some (.ref ca4))) (m4:K.lookup ca4=some ⟨.type "tuple", dd4,.seq #[.int (2) K6,.int (0) K5,.int (0) K3,.int (0) K2] nn4,ss4⟩)
  {ca5:Addr} {dd5:Option Addr} {ss5:Array (Option Value)} {nn5:Nat} {K1 K0 KZ KY KW KU KT KS KR KQ G5 G4 G3 G2 G1 G0 GZ GY GX GW GV GU GT GS GQ:Tok} (g5:W.nsIn K mainGlobals "PRIMES" = some (some (.ref ca5))) (m5:K.lookup ca5=some ⟨.type "tuple", dd5,.seq #[.int (2) K1,.int (3) K0,.int (5) KZ,.int (7) KY,.int (11) KW,.int (13) KU,.int (17) KT,.int (19) KS,.int (23) KR,.int (29) KQ,.int (31) G5,.int (37) G4,.int (41) G3,.int (43) G2,.int (47) G1,.int (53) G0,.int (59) GZ,.int (61) GY,.int (67) GX,.int (71) GW,.int (73) GV,.int (79) GU,.int (83) GT,.int (89) GS,.int (97) GQ] nn5,ss5⟩)
  (z0:W.nsIn K mainGlobals "len" = some none)    (z1:W.nsIn K mainGlobals "tuple" = some none)    (z2:W.nsIn K mainGlobals "list" = some none)    (z3:W.nsIn K mainGlobals "abs" = some none)    (z4:W.nsIn K mainGlobals "all" = some none)    (z5:W.nsIn K mainGlobals "sum" = some none)    (z6:W.nsIn K mainGlobals "isinstance" = some none)    (z7:W.nsIn K mainGlobals "set" = some none)    (z8:W.nsIn K mainGlobals "int" = some none)    (z9:W.nsIn K mainGlobals "bool" = some none)    (z10:W.nsIn K mainGlobals "str" = some none)    (z11:W.nsIn K mainGlobals "range" = some none)    (z12:W.nsIn K mainGlobals "zip" = some none)    (z13:W.nsIn K mainGlobals "enumerate" = some none)    (z14:W.nsIn K mainGlobals "any" = some none)    (z15:W.nsIn K mainGlobals "sorted" = some none)    (z16:W.nsIn K mainGlobals "min" = some none)    (z17:W.nsIn K mainGlobals "max" = some none)    (z18:W.nsIn K mainGlobals "reversed" = some none)    (z19:W.nsIn K mainGlobals "ValueError" = some none) :
  ∃fd:FuncData,(∀(s:Shared) (v:Value),BindsTo s fd ⟨[v],[]⟩ [("_law_script", v)])/\∀base:Heap,K.In base->base.Ns mainGlobals mg->bH l.prog w K mg base dF 10 fa fd ["_law_script"] (jw K qw):=by
 have e:=hfa.symm.trans (W.mg_of X G a49)
 cases e
 have hbl:∀n∈iN,mg n=none:=al (Pr:=fun n=>mg n=none) (W.mg_none_of X G z0) (al (Pr:=fun n=>mg n=none) (W.mg_none_of X G z1) (al (Pr:=fun n=>mg n=none) (W.mg_none_of X G z2) (al (Pr:=fun n=>mg n=none) (W.mg_none_of X G z3) (al (Pr:=fun n=>mg n=none) (W.mg_none_of X G z4) (al (Pr:=fun n=>mg n=none) (W.mg_none_of X G z5) (al (Pr:=fun n=>mg n=none) (W.mg_none_of X G z6) (al (Pr:=fun n=>mg n=none) (W.mg_none_of X G z7) (al (Pr:=fun n=>mg n=none) (W.mg_none_of X G z8) (al (Pr:=fun n=>mg n=none) (W.mg_none_of X G z9) (al (Pr:=fun n=>mg n=none) (W.mg_none_of X G z10) (al (Pr:=fun n=>mg n=none) (W.mg_none_of X G z11) (al (Pr:=fun n=>mg n=none) (W.mg_none_of X G z12) (al (Pr:=fun n=>mg n=none) (W.mg_none_of X G z13) (al (Pr:=fun n=>mg n=none) (W.mg_none_of X G z14) (al (Pr:=fun n=>mg n=none) (W.mg_none_of X G z15) (al (Pr:=fun n=>mg n=none) (W.mg_none_of X G z16) (al (Pr:=fun n=>mg n=none) (W.mg_none_of X G z17) (al (Pr:=fun n=>mg n=none) (W.mg_none_of X G z18) (al (Pr:=fun n=>mg n=none) (W.mg_none_of X G z19) (av))))))))))))))))))))
 have hmg:∀n C,W.nsIn K mainGlobals n=some (some (.ref C))->mg n=some (.ref C):=fun n C h=>W.mg_of X G h
 have hEx:C3 K EX:=FZ (al (Pr:=AZ K) (⟨bO,bn,ij,dn,⟨oZ,xl,xj,xh,xs0,xt0,xb⟩,wZ,fun _ z=>by cases z;exact⟨oV,oX⟩⟩) (al (Pr:=AZ K) (⟨bN,bn,ii,dn,⟨oY,xk,xi,xg,xs0,xt0,xa⟩,wY,fun _ z=>by cases z;exact⟨oS,oW⟩⟩) (al (Pr:=AZ K) (⟨dE,bn,rV,dn,⟨yV,yT,yR,yP,xs0,xt0,yN⟩,yL,fun _ z=>by cases z⟩) (al (Pr:=AZ K) (⟨cT,bn,jh,dn,⟨yU,yS,yQ,yO,xs0,xt0,yM⟩,yK,fun _ z=>by cases z⟩) (av)))))
 have F36:=bg (st:=(ai 36)) l36 c36 k36
 have b36:=F36.binds (ps:=["_law_script", "_law_k"]) fun _ _ _ _ _ _ us hl=>by obtain⟨x0,x1,rfl⟩:=fA hl;rfl
 have F42:=bg (st:=(ai 42)) l42 c42 k42
 have b42:=F42.binds (ps:=[]) fun _ _ _ _ _ _ us hl=>by cases PZ hl;rfl
 have F43:=bg (st:=(ai 43)) l43 c43 k43
 have b43:=F43.binds (ps:=["_law_n"]) fun _ _ _ _ _ _ us hl=>by obtain⟨x0,rfl⟩:=gk hl;rfl
 have F40:=bg (st:=(ai 40)) l40 c40 k40
 have b40:=F40.binds (ps:=["_law_one", "_law_other"]) fun _ _ _ _ _ _ us hl=>by obtain⟨x0,x1,rfl⟩:=fA hl;rfl
 have F44:=bg (st:=(ai 44)) l44 c44 k44
 have b44:=F44.binds (ps:=["_law_script", "_law_begin", "_law_many"]) fun _ _ _ _ _ _ us hl=>by obtain⟨x0,x1,x2,rfl⟩:=ou hl;rfl
 have F45:=bg (st:=(ai 45)) l45 c45 k45
 have b45:=F45.binds (ps:=["_law_four"]) fun _ _ _ _ _ _ us hl=>by obtain⟨x0,rfl⟩:=gk hl;rfl
 have F30:=bg (st:=(ai 30)) l30 c30 k30
 have b30:=F30.binds (ps:=["one", "other"]) fun _ _ _ _ _ _ us hl=>by obtain⟨x0,x1,rfl⟩:=fA hl;rfl
 have F29:=bg (st:=(ai 29)) l29 c29 k29
 have b29:=F29.binds (ps:=["numbers"]) fun _ _ _ _ _ _ us hl=>by obtain⟨x0,rfl⟩:=gk hl;rfl
 have F8:=bg (st:=(ai 8)) l8 c8 k8
 have b8:=F8.binds (ps:=["thing"]) fun _ _ _ _ _ _ us hl=>by obtain⟨x0,rfl⟩:=gk hl;rfl
 have F9:=bg (st:=(ai 9)) l9 c9 k9
 have b9:=F9.binds (ps:=["thing"]) fun _ _ _ _ _ _ us hl=>by obtain⟨x0,rfl⟩:=gk hl;rfl
 have F32:=bg (st:=(ai 32)) l32 c32 k32
 have b32:=F32.binds (ps:=["four"]) fun _ _ _ _ _ _ us hl=>by obtain⟨x0,rfl⟩:=gk hl;rfl
 have F34:=bg (st:=(ai 34)) l34 c34 k34
 have b34:=F34.binds (ps:=["order", "whole"]) fun _ _ _ _ _ _ us hl=>by obtain⟨x0,x1,rfl⟩:=fA hl;rfl
 have F17:=bg (st:=(ai 17)) l17 c17 k17
 have b17:=F17.binds (ps:=["four"]) fun _ _ _ _ _ _ us hl=>by obtain⟨x0,rfl⟩:=gk hl;rfl
 have F21:=bg (st:=(ai 21)) gK c21 k21
 have b21:=F21.binds (ps:=["side"]) fun _ _ _ _ _ _ us hl=>by obtain⟨x0,rfl⟩:=gk hl;rfl
 have F10:=bg (st:=(ai 10)) l10 c10 k10
 have b10:=F10.binds (ps:=["one", "other"]) fun _ _ _ _ _ _ us hl=>by obtain⟨x0,x1,rfl⟩:=fA hl;rfl
 have F11:=bg (st:=(ai 11)) l11 c11 k11
 have b11:=F11.binds (ps:=["one", "number"]) fun _ _ _ _ _ _ us hl=>by obtain⟨x0,x1,rfl⟩:=fA hl;rfl
 have F24:=bg (st:=(ai 24)) l24 c24 k24
 have b24:=F24.binds (ps:=["four", "tried", "number"]) fun _ _ _ _ _ _ us hl=>by obtain⟨x0,x1,x2,rfl⟩:=ou hl;rfl
 have F23:=bg (st:=(ai 23)) l23 c23 k23
 have b23:=F23.binds (ps:=["four", "number"]) fun _ _ _ _ _ _ us hl=>by obtain⟨x0,x1,rfl⟩:=fA hl;rfl
 have F14:=bg (st:=(ai 14)) l14 c14 k14
 have b14:=F14.binds (ps:=["one", "other"]) fun _ _ _ _ _ _ us hl=>by obtain⟨x0,x1,rfl⟩:=fA hl;rfl
 have F15:=bg (st:=(ai 15)) l15 c15 k15
 have b15:=F15.binds (ps:=["one", "other"]) fun _ _ _ _ _ _ us hl=>by obtain⟨x0,x1,rfl⟩:=fA hl;rfl
 have F22:=bg (st:=(ai 22)) l22 c22 k22
 have b22:=F22.binds (ps:=["one", "other", "side"]) fun _ _ _ _ _ _ us hl=>by obtain⟨x0,x1,x2,rfl⟩:=ou hl;rfl
 have F16:=bg (st:=(ai 16)) l16 c16 k16
 have b16:=F16.binds (ps:=["four"]) fun _ _ _ _ _ _ us hl=>by obtain⟨x0,rfl⟩:=gk hl;rfl
 have F19:=bg (st:=(ai 19)) l19 c19 k19
 have b19:=F19.binds (ps:=["one", "other", "side"]) fun _ _ _ _ _ _ us hl=>by obtain⟨x0,x1,x2,rfl⟩:=ou hl;rfl
 have F20:=bg (st:=(ai 20)) l20 c20 k20
 have b20:=F20.binds (ps:=["one", "other", "side"]) fun _ _ _ _ _ _ us hl=>by obtain⟨x0,x1,x2,rfl⟩:=ou hl;rfl
 have F26:=bg (st:=(ai 26)) l26 c26 k26
 have b26:=F26.binds (ps:=["one", "other", "side"]) fun _ _ _ _ _ _ us hl=>by obtain⟨x0,x1,x2,rfl⟩:=ou hl;rfl
 have F33:=bg (st:=(ai 33)) l33 c33 k33
 have b33:=F33.binds (ps:=["four", "order"]) fun _ _ _ _ _ _ us hl=>by obtain⟨x0,x1,rfl⟩:=fA hl;rfl
 have F37:=bg (st:=(ai 37)) l37 c37 k37
 have b37:=F37.binds (ps:=["_law_x"]) fun _ _ _ _ _ _ us hl=>by obtain⟨x0,rfl⟩:=gk hl;rfl
 have F38:=bg (st:=(ai 38)) l38 c38 k38
 have b38:=F38.binds (ps:=["_law_thing"]) fun _ _ _ _ _ _ us hl=>by obtain⟨x0,rfl⟩:=gk hl;rfl
 have F39:=bg (st:=(ai 39)) l39 c39 k39
 have b39:=F39.binds (ps:=["_law_four"]) fun _ _ _ _ _ _ us hl=>by obtain⟨x0,rfl⟩:=gk hl;rfl
 have F46:=bg (st:=(ai 46)) l46 c46 k46
 have b46:=F46.binds (ps:=["_law_telling", "_law_primes", "_law_four"]) fun _ _ _ _ _ _ us hl=>by obtain⟨x0,x1,x2,rfl⟩:=ou hl;rfl
 have F47:=bg (st:=(ai 47)) l47 c47 k47
 have b47:=F47.binds (ps:=["_law_things", "_law_cell_here"]) fun _ _ _ _ _ _ us hl=>by obtain⟨x0,x1,rfl⟩:=fA hl;rfl
 have F48:=bg (st:=(ai 48)) l48 c48 k48
 have b48:=F48.binds (ps:=["_law_four", "_law_order"]) fun _ _ _ _ _ _ us hl=>by obtain⟨x0,x1,rfl⟩:=fA hl;rfl
 have F49:=bg (st:=(ai 49)) l49 c49 k49
 have KG:=bg (st:=(fv (ai 5) 0)) B5 RT QA
 have RV:=KG.binds (ps:=["self", "by"]) fun _ _ _ _ _ _ us hl=>by obtain⟨x0,x1,rfl⟩:=fA hl;rfl
 have KH:=bg (st:=(fv (ai 4) 0)) B6 RU QB
 have RW:=KH.binds (ps:=["self", "at"]) fun _ _ _ _ _ _ us hl=>by obtain⟨x0,x1,rfl⟩:=fA hl;rfl
 have hEI:∀base k,2<=k->KJ l.prog w K mg base k EX:=fun base k hk=>Jc (al (Pr:=AY l.prog w K mg base k) (⟨bO,ij,(fun z=>by cases z),fun _ z=>by cases z;exact⟨1,qZ,_,_,["self", "by"],hk,wX,B5,An wR B5,wV,sN KG rfl Lp ⟨rfl,rfl⟩ ⟨by decide +kernel,by decide +kernel⟩ rfl (W.mg_of X G dn) kI kH kJ oZ oX wT oV rfl (by decide +kernel) rfl (by decide +kernel),RV⟩⟩) (al (Pr:=AY l.prog w K mg base k) (⟨bN,ii,(fun z=>by cases z),fun _ z=>by cases z;exact⟨1,q9,_,_,["self", "at"],hk,wW,B6,An wQ B6,wU,sN KH rfl Lq ⟨rfl,rfl⟩ ⟨by decide +kernel,by decide +kernel⟩ rfl (W.mg_of X G dn) kI kH kJ oY oW wS oS rfl (by decide +kernel) rfl (by decide +kernel),RW⟩⟩) (al (Pr:=AY l.prog w K mg base k) (⟨dE,rV,fun _=>yJ,fun _ z=>by cases z⟩) (al (Pr:=AY l.prog w K mg base k) (⟨cT,jh,fun _=>yI,fun _ z=>by cases z⟩) (av)))))
 refine⟨W.fnOf "law" "law" (aR (ai 49)) (ak (ai 49)) (aa (ai 49)) .none II Jz HG Km Cy JA,fun s v=>.of_eq rfl,fun base _ _=>?_⟩
 have D36:cy l.prog w K mg base 3 "_law_cell" kC:=bx F36 NO (W.mg_of X G a36) b36 (by decide +kernel) (aZ (av) (av) bv bu bt bo aS hbl) vM
 have D42:cy l.prog w K mg base 3 "_law_units" mI:=bx F42 NJ (W.mg_of X G a42) b42 (by decide +kernel) (aZ (av) (av) bv bu bt bo aS hbl) eO.self
 have D43:cy l.prog w K mg base 3 "_law_fours" mJ:=bx F43 NI (W.mg_of X G a43) b43 (by decide +kernel) (aZ (av) (av) bv bu bt bo aS hbl) eO.self
 have D40:cy l.prog w K mg base 3 "_law_times" jj:=bx F40 NK (W.mg_of X G a40) b40 (by decide +kernel) (aZ (av) (av) bv bu bt bo aS hbl) vi
 have D44:cy l.prog w K mg base 4 "_law_built" mK:=bx F44 NH (W.mg_of X G a44) b44 (by decide +kernel) (aZ (cL D42 (cL D36 (cL D43 (cL D40 (av))))) (av) bv bu bt bo aS hbl) eO.self
 have D45:cy l.prog w K mg base 3 "_law_divisor" gD:=bx F45 NG (W.mg_of X G a45) b45 (by decide +kernel) (aZ (av) (av) bv bu bt bo aS hbl) eO.self
 have D30:cy l.prog w K mg base 3 "shared_by" jq:=bx F30 NQ (W.mg_of X G a30) b30 (by decide +kernel) (aZ (av) (av) bv bu bt bo aS hbl) eO.self
 have D29:cy l.prog w K mg base 4 "common_divisor" d6:=bx F29 NR (W.mg_of X G a29) b29 (by decide +kernel) (aZ (cL D30 (av)) (av) bv bu bt bo aS hbl) kX
 have D8:cy l.prog w K mg base 3 "is_whole" qx:=bx F8 SU (W.mg_of X G a8) b8 (by decide +kernel) (aZ (av) (av) bv bu bt bo aS hbl) eO.self
 have D9:cy l.prog w K mg base 4 "is_four" mL:=bx F9 ST (W.mg_of X G a9) b9 (by decide +kernel) (aZ (cL D8 (av)) (av) bv bu bt bo aS hbl) eO.self
 have Q32:iV l.prog w K mg base 5 "whole_divisor" eG:=.inl ⟨_,_,["four"],jJ (Ex:=EX) F32 Hr (aZ (cL D29 (cL D9 (av))) (al (Pr:=eS mg K) (df (ns:=[0,0,0,0]) (W.mg_of X G g1) m1 (show 4<=sizeLine by decide) (.cons ⟨_,rfl⟩ (.cons ⟨_,rfl⟩ (.cons ⟨_,rfl⟩ (.cons ⟨_,rfl⟩ (.nil)))))) (av)) bv bu bt bo aS hbl) (iB (av)) hmg (hEI _ _ (by decide)) mv,W.mg_of X G a32,k32,b32,by decide +kernel⟩
 have D32:cy l.prog w K mg base 5 "whole_divisor" eI:=bx F32 Hr (W.mg_of X G a32) b32 (by decide +kernel) (aZ (cL D29 (cL D9 (av))) (al (Pr:=eS mg K) (df (ns:=[0,0,0,0]) (W.mg_of X G g1) m1 (show 4<=sizeLine by decide) (.cons ⟨_,rfl⟩ (.cons ⟨_,rfl⟩ (.cons ⟨_,rfl⟩ (.cons ⟨_,rfl⟩ (.nil)))))) (av)) bv bu bt bo aS hbl) eO.self
 have D34:cy l.prog w K mg base 3 "order_fault" g9:=bx F34 NP (W.mg_of X G a34) b34 (by decide +kernel) (aZ (av) (al (Pr:=eS mg K) (df (ns:=[2,3,5,7,11,13,17,19,23,29,31,37,41,43,47,53,59,61,67,71,73,79,83,89,97]) (W.mg_of X G g5) m5 (show 25<=sizeLine by decide) (.cons ⟨_,rfl⟩ (.cons ⟨_,rfl⟩ (.cons ⟨_,rfl⟩ (.cons ⟨_,rfl⟩ (.cons ⟨_,rfl⟩ (.cons ⟨_,rfl⟩ (.cons ⟨_,rfl⟩ (.cons ⟨_,rfl⟩ (.cons ⟨_,rfl⟩ (.cons ⟨_,rfl⟩ (.cons ⟨_,rfl⟩ (.cons ⟨_,rfl⟩ (.cons ⟨_,rfl⟩ (.cons ⟨_,rfl⟩ (.cons ⟨_,rfl⟩ (.cons ⟨_,rfl⟩ (.cons ⟨_,rfl⟩ (.cons ⟨_,rfl⟩ (.cons ⟨_,rfl⟩ (.cons ⟨_,rfl⟩ (.cons ⟨_,rfl⟩ (.cons ⟨_,rfl⟩ (.cons ⟨_,rfl⟩ (.cons ⟨_,rfl⟩ (.cons ⟨_,rfl⟩ (.nil))))))))))))))))))))))))))) (av)) bv bu bt bo aS hbl) eO.self
 have D17:cy l.prog w K mg base 3 "size" mC:=bx F17 NV (W.mg_of X G a17) b17 (by decide +kernel) (aZ (av) (av) bv bu bt bo aS hbl) A6
 have Q21:iV l.prog w K mg base 3 "refuse_no_side" cE:=.inl ⟨_,_,["side"],jJ (Ex:=EX) F21 Ht (aZ (av) (av) bv bu bt bo aS hbl) (iB (av)) hmg (hEI _ _ (by decide)) kU,W.mg_of X G a21,k21,b21,by decide +kernel⟩
 have D21:cy l.prog w K mg base 3 "refuse_no_side" dZ:=bx F21 Ht (W.mg_of X G a21) b21 (by decide +kernel) (aZ (av) (av) bv bu bt bo aS hbl) kW
 have D10:cy l.prog w K mg base 3 "less" mG:=bx F10 N0 (W.mg_of X G a10) b10 (by decide +kernel) (aZ (av) (av) bv bu bt bo aS hbl) A7
 have D11:cy l.prog w K mg base 3 "many_times" iT:=bx F11 NZ (W.mg_of X G a11) b11 (by decide +kernel) (aZ (av) (av) bv bu bt bo aS hbl) qu
 have D24:cy l.prog w K mg base 4 "strayed" mB:=bx F24 NS (W.mg_of X G a24) b24 (by decide +kernel) (aZ (cL D17 (cL D10 (cL D11 (av)))) (av) bv bu bt bo aS hbl) vf
 have D23:cy l.prog w K mg base 5 "nearest" mF:=bx F23 NT (W.mg_of X G a23) b23 (by decide +kernel) (aZ (cL D24 (av)) (av) bv bu bt bo aS hbl) vh
 have D14:cy l.prog w K mg base 3 "plain_product" fR:=bx F14 NY (W.mg_of X G a14) b14 (by decide +kernel) (aZ (av) (av) bv bu bt bo aS hbl) mE
 have D15:cy l.prog w K mg base 4 "product" mD:=bx F15 NX (W.mg_of X G a15) b15 (by decide +kernel) (aZ (cL D14 (av)) (av) bv bu bt bo aS hbl) vg
 have D22:cy l.prog w K mg base 5 "beside" kD:=bx F22 NU (W.mg_of X G a22) b22 (by decide +kernel) (aZ (cL D15 (av)) (av) bv bu bt bo aS hbl) vN
 have D16:cy l.prog w K mg base 3 "other_signed" gv:=bx F16 NW (W.mg_of X G a16) b16 (by decide +kernel) (aZ (av) (av) bv bu bt bo aS hbl) nN
 have Q19:iV l.prog w K mg base 6 "divided" dO:=.inl ⟨_,_,["one", "other", "side"],jJ (Ex:=EX) F19 Hv (aZ (cL D21 (cL D23 (cL D22 (cL D17 (cL D10 (cL D16 (av))))))) (al (Pr:=eS mg K) (df (ns:=[0,0,0,0]) (W.mg_of X G g1) m1 (show 4<=sizeLine by decide) (.cons ⟨_,rfl⟩ (.cons ⟨_,rfl⟩ (.cons ⟨_,rfl⟩ (.cons ⟨_,rfl⟩ (.nil)))))) (av)) bv bu bt bo aS hbl) (iB (al (Pr:=qA l.prog w K mg base 5) (Q21.mono (by decide)) (av))) hmg (hEI _ _ (by decide)) vc,W.mg_of X G a19,k19,b19,by decide +kernel⟩
 have D19:cy l.prog w K mg base 6 "divided" jk:=bx F19 Hv (W.mg_of X G a19) b19 (by decide +kernel) (aZ (cL D21 (cL D23 (cL D22 (cL D17 (cL D10 (cL D16 (av))))))) (al (Pr:=eS mg K) (df (ns:=[0,0,0,0]) (W.mg_of X G g1) m1 (show 4<=sizeLine by decide) (.cons ⟨_,rfl⟩ (.cons ⟨_,rfl⟩ (.cons ⟨_,rfl⟩ (.cons ⟨_,rfl⟩ (.nil)))))) (av)) bv bu bt bo aS hbl) vj
 have Q20:iV l.prog w K mg base 7 "exact" rq:=.inl ⟨_,_,["one", "other", "side"],jJ (Ex:=EX) F20 Hu (aZ (cL D19 (av)) (al (Pr:=eS mg K) (df (ns:=[0,0,0,0]) (W.mg_of X G g1) m1 (show 4<=sizeLine by decide) (.cons ⟨_,rfl⟩ (.cons ⟨_,rfl⟩ (.cons ⟨_,rfl⟩ (.cons ⟨_,rfl⟩ (.nil)))))) (av)) bv bu bt bo aS hbl) (iB (al (Pr:=qA l.prog w K mg base 6) (Q19.mono (by decide)) (av))) hmg (hEI _ _ (by decide)) yv,W.mg_of X G a20,k20,b20,by decide +kernel⟩
 have D20:cy l.prog w K mg base 7 "exact" jP:=bx F20 Hu (W.mg_of X G a20) b20 (by decide +kernel) (aZ (cL D19 (av)) (al (Pr:=eS mg K) (df (ns:=[0,0,0,0]) (W.mg_of X G g1) m1 (show 4<=sizeLine by decide) (.cons ⟨_,rfl⟩ (.cons ⟨_,rfl⟩ (.cons ⟨_,rfl⟩ (.cons ⟨_,rfl⟩ (.nil)))))) (av)) bv bu bt bo aS hbl) yz
 have Q26:iV l.prog w K mg base 7 "greatest" ik:=.inl ⟨_,_,["one", "other", "side"],jJ (Ex:=EX) F26 Hs (aZ (cL D21 (cL D19 (cL D10 (cL D22 (av))))) (al (Pr:=eS mg K) (df (ns:=[2,0,0,0]) (W.mg_of X G g4) m4 (show 4<=sizeLine by decide) (.cons ⟨_,rfl⟩ (.cons ⟨_,rfl⟩ (.cons ⟨_,rfl⟩ (.cons ⟨_,rfl⟩ (.nil)))))) (al (Pr:=eS mg K) (df (ns:=[0,0,0,0]) (W.mg_of X G g1) m1 (show 4<=sizeLine by decide) (.cons ⟨_,rfl⟩ (.cons ⟨_,rfl⟩ (.cons ⟨_,rfl⟩ (.cons ⟨_,rfl⟩ (.nil)))))) (av))) bv bu bt bo aS hbl) (iB (al (Pr:=qA l.prog w K mg base 6) (Q21.mono (by decide)) (al (Pr:=qA l.prog w K mg base 6) (Q19.mono (by decide)) (av)))) hmg (hEI _ _ (by decide)) sj,W.mg_of X G a26,k26,b26,by decide +kernel⟩
 have D26:cy l.prog w K mg base 7 "greatest" il:=bx F26 Hs (W.mg_of X G a26) b26 (by decide +kernel) (aZ (cL D21 (cL D19 (cL D10 (cL D22 (av))))) (al (Pr:=eS mg K) (df (ns:=[2,0,0,0]) (W.mg_of X G g4) m4 (show 4<=sizeLine by decide) (.cons ⟨_,rfl⟩ (.cons ⟨_,rfl⟩ (.cons ⟨_,rfl⟩ (.cons ⟨_,rfl⟩ (.nil)))))) (al (Pr:=eS mg K) (df (ns:=[0,0,0,0]) (W.mg_of X G g1) m1 (show 4<=sizeLine by decide) (.cons ⟨_,rfl⟩ (.cons ⟨_,rfl⟩ (.cons ⟨_,rfl⟩ (.cons ⟨_,rfl⟩ (.nil)))))) (av))) bv bu bt bo aS hbl) sr
 have Q33:iV l.prog w K mg base 8 "taken_apart" cS:=.inl ⟨_,_,["four", "order"],jJ (Ex:=EX) F33 Hq (aZ (cL D32 (cL D34 (cL D17 (cL D20 (cL D26 (av)))))) (av) bv bu bt bo aS hbl) (iB (al (Pr:=qA l.prog w K mg base 7) (Q32.mono (by decide)) (al (Pr:=qA l.prog w K mg base 7) (Q20.mono (by decide)) (al (Pr:=qA l.prog w K mg base 7) (Q26.mono (by decide)) (av))))) hmg (hEI _ _ (by decide)) oK,W.mg_of X G a33,k33,b33,by decide +kernel⟩
 have D33:cy l.prog w K mg base 8 "taken_apart" fx:=Ao (FR (pre:=(ak (ai 33)).take 7) (post:=(ak (ai 33)).drop 8) F33 Hq (aZ (cL D32 (cL D34 (cL D17 (cL D20 (cL D26 (av)))))) (av) bv bu bt bo aS hbl) rfl rfl rfl rfl rfl) (W.mg_of X G a33) k33 b33 (by decide +kernel)
 have D37:cy l.prog w K mg base 3 "_law_whole" mH:=bx F37 NN (W.mg_of X G a37) b37 (by decide +kernel) (aZ (av) (av) bv bu bt bo aS hbl) eO.self
 have D38:cy l.prog w K mg base 4 "_law_is_four" gC:=bx F38 NM (W.mg_of X G a38) b38 (by decide +kernel) (aZ (cL D37 (av)) (av) bv bu bt bo aS hbl) eO.self
 have D39:cy l.prog w K mg base 3 "_law_size" oO:=bx F39 NL (W.mg_of X G a39) b39 (by decide +kernel) (aZ (av) (av) bv bu bt bo aS hbl) vL
 have D46:cy l.prog w K mg base 5 "_law_telling_well" fD:=bx F46 NF (W.mg_of X G a46) b46 (by decide +kernel) (aZ (cL D40 (cL D38 (cL D39 (av)))) (av) bv bu bt bo aS hbl) eO.self
 have D47:cy l.prog w K mg base 3 "_law_shuffled" iU:=bx F47 NE (W.mg_of X G a47) b47 (by decide +kernel) (aZ (av) (av) bv bu bt bo aS hbl) eO.self
 have D48:cy l.prog w K mg base 9 "_law_divided" ej:=Ao (IY (pre:=(ak (ai 48)).take 1) (tb:=GP ((ak (ai 48)).getD 1 (.Pass ⟨0,0,0,0⟩))) (post:=(ak (ai 48)).drop 2) (Ψ:=nX) (Ex:=EX) F48 ND (aZ (cL D33 (av)) (al (Pr:=eS mg K) (uQ (W.mg_of X G ij) ij (sO xA yj)) (al (Pr:=eS mg K) (uQ (W.mg_of X G ii) ii (sO xz yi)) (al (Pr:=eS mg K) (uQ (W.mg_of X G jh) jh (sO zh AE)) (av)))) bv bu bt bo aS hbl) (iB (al (Pr:=qA l.prog w K mg base 8) (Q33.mono (by decide)) (av))) hmg hEx rfl rfl (by decide +kernel) rfl rfl (by decide +kernel) (by decide +kernel) (by decide +kernel) rA) (W.mg_of X G a48) k48 b48 (by decide +kernel)
 exact FT F49 NC (aZ (cL D36 (cL D44 (cL D45 (cL D33 (cL D46 (cL D47 (cL D48 (cL D37 (av))))))))) (av) bv bu bt bo aS hbl) CV
theorem walkX{q:Program}{r:W.RowW}{d:DefRec}{kwd:List (Str×Expr)}{run:Value->List Value->Sem Value}{K:Params->W.Frag}{as:List Addr}{n t:Nat}
  (e:∀P,as=(K P).map (·.1)) (h:W.WalkO q loose XP (W.InK K) r d kwd run):W.WalkX q loose XP (W.X.obsZ as) (W.X.valZ K n t) r d kwd run :=
 fun w _ _ mg mb G y a o pm cd doc dV kV h1 h2 h3 h4 h5 h6 args vals as' L =>
  h w _ _ mg mb G (W.InK.keeps w _ _ (W.X.z_facts e y).2.1 L.keeps) a o pm cd doc dV kV h1 h2 h3 h4 h5 h6 args vals as'
theorem walk{q:Program}{YP:World->Heap->Prop}{d:DefRec}{K:Params->W.Frag}(hn:l.most=some 63)(hdf:d.params.defaults=[])
  (hY:∀(w:World) (h:Heap),YP w h->(K w.params).In h)
  (F:∀(w:World) (mg:Str->Option Value) (fa:Addr) (h:Heap),(K w.params).In h->h.Ns mainGlobals mg->mg d.name=some (.ref fa) ->
   ∃fd:FuncData,(∀(s:Shared) (u:Value),BindsTo s fd ⟨[u],[]⟩ [("_law_script", u)])/\∀base:Heap,(K w.params).In base->base.Ns mainGlobals mg->bH l.prog w (K w.params) mg base dF 10 fa fd ["_law_script"] (jw (K w.params) qw)) :
  W.WalkO q loose XP YP l.row.toRowW d [] (fun f vs=>PySem.call f vs) :=
 L2.walk_of (n:=63) (k:=10) (x := "_law_script") (CX:=fun _=>dF) (sp:=fun w=>jw (K w.params) qw) hn (by decide) hdf ⟨rfl,by decide,by decide⟩ hY F (fun _ _ a ns hl hO hS=>IT hO hS (B3 ns hl)) fun _ _ _ _ _ z=>z
end K
namespace PySem.W.Fast
theorem tw18208897308138690866:True:=.intro
theorem tw2351264896478337519:True:=.intro
theorem tw10433184921856410716:True:=.intro
theorem tw16858900050609494715:True:=.intro
theorem tw15904402834782649459:True:=.intro
theorem tw8724119466195006512:True:=.intro
theorem tw2233789914552866894:True:=.intro
theorem tw18099277913912085256:True:=.intro
theorem tw15634146915347792086:True:=.intro
theorem tw1724917488301918098:True:=.intro
theorem tw11168244765001005062:True:=.intro
theorem tw5180304779054581173:True:=.intro
theorem tw1301490346089566950:True:=.intro
theorem tw15837460509677395296:True:=.intro
theorem tw13490481807723977416:True:=.intro
theorem tw458079041345425233:True:=.intro
theorem tw340433285857707941:True:=.intro
theorem tw14923640580000790244:True:=.intro
theorem tw10023460207793771107:True:=.intro
theorem tw16578826651841578206:True:=.intro
theorem tw1302360772639913924:True:=.intro
theorem tw11141756439085879639:True:=.intro
theorem tw8179585898263872927:True:=.intro
theorem tw2828074244787399421:True:=.intro
theorem tw2165839723104427943:True:=.intro
theorem tw268366211029618792:True:=.intro
theorem tw16070234368031606456:True:=.intro
theorem tw12158667715285991513:True:=.intro
theorem tw8683438855831492429:True:=.intro
theorem tw16583954724224332570:True:=.intro
theorem tw15370505515665456953:True:=.intro
theorem tw1129447686570615705:True:=.intro
theorem tw4505415204582646546:True:=.intro
theorem tw18065258013843621035:True:=.intro
theorem tw3795173192697678272:True:=.intro
theorem tw15273153872138825631:True:=.intro
theorem tw14862658631952403813:True:=.intro
theorem tw11098971613319363643:True:=.intro
theorem tw10830653453843581799:True:=.intro
theorem tw22735065742987999:True:=.intro
theorem tw4883362257262664164:True:=.intro
theorem tw18437654424492780831:True:=.intro
theorem tw16146354591063003318:True:=.intro
theorem tw17668293901139419156:True:=.intro
theorem tw2307128125285473097:True:=.intro
theorem tw16335328970045165247:True:=.intro
theorem tw553971815363881295:True:=.intro
theorem tw5321285765794562457:True:=.intro
theorem tw6388647757378145124:True:=.intro
theorem tw16968884600882792257:True:=.intro
theorem tw15532533806739273178:True:=.intro
theorem tw17792688652583716142:True:=.intro
theorem tw3398454071645499365:True:=.intro
theorem tw12643808413273665694:True:=.intro
theorem tw11183154260652893437:True:=.intro
theorem tw2209752786540097272:True:=.intro
theorem tw153262434394664300:True:=.intro
theorem tw2492934691582824320:True:=.intro
theorem tw8600613688008224122:True:=.intro
theorem tw14476890112258615971:True:=.intro
theorem tw5861678923935329835:True:=.intro
theorem tw6125071240403913:True:=.intro
theorem tw1319686682813051041:True:=.intro
theorem tw5899412906484890686:True:=.intro
theorem tw2874870997047276860:True:=.intro
theorem tw7920274930168713172:True:=.intro
theorem tw1420367637328651175:True:=.intro
theorem tw1244852426652335038:True:=.intro
theorem tw12542390316880791059:True:=.intro
theorem tw16914986833443948356:True:=.intro
theorem tw15666263183099775409:True:=.intro
theorem tw16604829876499183790:True:=.intro
theorem tw13044644809642290034:True:=.intro
theorem tw17040443544995198371:True:=.intro
theorem tw16725644246230304965:True:=.intro
theorem tw10820959884042545754:True:=.intro
theorem tw8188618499951700735:True:=.intro
theorem tw6370092447417059749:True:=.intro
theorem tw15630805561605966966:True:=.intro
theorem tw13436542544813168816:True:=.intro
theorem tw9980196564960435428:True:=.intro
theorem tw6698522622172312581:True:=.intro
theorem tw9831111922166162738:True:=.intro
theorem tw17025132477153536300:True:=.intro
theorem tw14581927062087825006:True:=.intro
theorem tw16266774849898633620:True:=.intro
theorem tw11765925331986115607:True:=.intro
theorem tw14785501360544565533:True:=.intro
theorem tw17150985145925806118:True:=.intro
theorem tw7515984510778292189:True:=.intro
theorem tw9855701756838620433:True:=.intro
theorem tw9166761635715309873:True:=.intro
theorem tw11589331771273330392:True:=.intro
theorem tw4842949725763685531:True:=.intro
theorem tw8939501782550239755:True:=.intro
theorem tw4689742819110003905:True:=.intro
theorem tw7469438564593462153:True:=.intro
theorem tw11792131443343614571:True:=.intro
theorem tw14438441015072134535:True:=.intro
theorem tw4227598998444827048:True:=.intro
theorem tw17310304707303375355:True:=.intro
theorem tw9756408936148033897:True:=.intro
theorem tw8037550253718955297:True:=.intro
theorem tw12241470956302363303:True:=.intro
theorem tw7322810778035465221:True:=.intro
theorem tw7901333957449722465:True:=.intro
theorem tw3719133523712424123:True:=.intro
theorem tw7009906033557318758:True:=.intro
theorem tw570679043604023129:True:=.intro
theorem tw10278516931049380980:True:=.intro
theorem tw13422261901088311371:True:=.intro
theorem tw10230637099220957880:True:=.intro
theorem tw12149198506443177981:True:=.intro
theorem tw707539998354334277:True:=.intro
theorem tw13862123978692790212:True:=.intro
theorem tw6697935924004861274:True:=.intro
theorem tw1652248463596294280:True:=.intro
theorem tw5840097695541482035:True:=.intro
theorem tw17491365251720514646:True:=.intro
theorem tw9909069629903976562:True:=.intro
theorem tw750612968253598889:True:=.intro
theorem tw5350767231301054158:True:=.intro
theorem tw4082111898256642950:True:=.intro
theorem tw260675387814821562:True:=.intro
theorem tw2758232830699831580:True:=.intro
theorem tw17305882929262378467:True:=.intro
theorem tw10360785607486427938:True:=.intro
theorem tw10928123631022531925:True:=.intro
theorem tw13517263910896443552:True:=.intro
theorem tw278918363315989710:True:=.intro
theorem tw14673586306390464081:True:=.intro
theorem tw5116687126854147933:True:=.intro
theorem tw11216989349533790061:True:=.intro
theorem tw13662773295846983838:True:=.intro
theorem tw3694932597463593966:True:=.intro
theorem tw13532475631760306790:True:=.intro
theorem tw14104403118174694786:True:=.intro
theorem tw9588353882444132346:True:=.intro
theorem tw8296590470042952666:True:=.intro
theorem tw16610986045004254694:True:=.intro
theorem tw14411289963262659241:True:=.intro
theorem tw2578850433085344021:True:=.intro
theorem tw451210476971867597:True:=.intro
theorem tw3455417184205407475:True:=.intro
theorem tw16555572409224315754:True:=.intro
theorem tw1587054188173303698:True:=.intro
theorem tw15355022649827629819:True:=.intro
theorem tw5382243722879240043:True:=.intro
theorem tw3028752149846723825:True:=.intro
theorem tw13447808298228232885:True:=.intro
theorem tw11580340172167482148:True:=.intro
theorem tw15384866110654859525:True:=.intro
theorem tw10936061410342428986:True:=.intro
theorem tw10338516079422353365:True:=.intro
theorem tw4557018913541311114:True:=.intro
theorem tw3502157504218926894:True:=.intro
theorem tw2412253891280358:True:=.intro
theorem tw14508784259947643967:True:=.intro
theorem tw6390347567129271736:True:=.intro
theorem tw12759348978650657863:True:=.intro
theorem tw8237434908467839735:True:=.intro
theorem tw16568037422385644091:True:=.intro
theorem tw9738109595138342027:True:=.intro
theorem tw17354442992327796050:True:=.intro
theorem tw10960348156057657006:True:=.intro
theorem tw12953404867438697597:True:=.intro
theorem tw12544423313670954154:True:=.intro
theorem tw14107307664040977887:True:=.intro
theorem tw1518160298450631413:True:=.intro
theorem tw3741809771242961062:True:=.intro
theorem tw3074351503533805857:True:=.intro
theorem tw5776266651485398470:True:=.intro
theorem tw11755055856412986906:True:=.intro
theorem tw10221614045203464878:True:=.intro
theorem tw11583754604243958933:True:=.intro
theorem tw9170734920472884851:True:=.intro
theorem tw3329487779704499727:True:=.intro
theorem tw13548337324972262699:True:=.intro
theorem tw6409452517571224090:True:=.intro
theorem tw11745276227304993398:True:=.intro
theorem tw6208718301243501962:True:=.intro
theorem tw4615220598790183332:True:=.intro
theorem tw11302362157639659983:True:=.intro
theorem tw11393738371943468076:True:=.intro
theorem tw2307222833368221334:True:=.intro
theorem tw14556351795829302352:True:=.intro
end PySem.W.Fast
open PySem PySem.W PyProof.Rows
set_option maxRecDepth 100000 in
set_option maxHeartbeats 0 in
theorem PySem.Challenge.cw_spaceturns_k20_taken_apart_holds : PySem.Challenge.rw_spaceturns_k20_taken_apart.Holds := by
 w_on;o_law;z_head;(case hw=>w_witness2)
 k_fill
 refine K.walkX (fun _=>rfl) (K.walk (l:=PySem.Challenge.rw_spaceturns_k20_taken_apart) rfl rfl (fun w h Y=>Y) ?F)
 case F =>
  intro w mg fa h KX G hmg
  refine' K.all_mk KX G hmg ?_ ?_ ?_ ?_ ?_ ?_ ?_ ?_ ?_ ?_ ?_ ?_ ?_ ?_ ?_ ?_ ?_ ?_ ?_ ?_ ?_ ?_ ?_ ?_ ?_ ?_ ?_ ?_ ?_ ?_ ?_ ?_ ?_ ?_ ?_ ?_ ?_ ?_ ?_ ?_ ?_ ?_ ?_ ?_ ?_ ?_ ?_ ?_ ?_ ?_ ?_ ?_ ?_ ?_ ?_ ?_ ?_ ?_ ?_ ?_ ?_ ?_ ?_ ?_ ?_ ?_ ?_ ?_ ?_ ?_ ?_ ?_ ?_ ?_ ?_ ?_ ?_ ?_ ?_ ?_ ?_ ?_ ?_ ?_ ?_ ?_ ?_ ?_ ?_ ?_ ?_ ?_ ?_ ?_ ?_ ?_ ?_ ?_ ?_ ?_ ?_ ?_ ?_ ?_ ?_ ?_ ?_ ?_ ?_ ?_ ?_ ?_ ?_ ?_ ?_ ?_ ?_ ?_ ?_ ?_ ?_ ?_ ?_ ?_ ?_ ?_ ?_ ?_ ?_ ?_ ?_ ?_ ?_ ?_ ?_ ?_ ?_ ?_ ?_ ?_ ?_ ?_ ?_ ?_ ?_ ?_ ?_ ?_ ?_ ?_ ?_ ?_ ?_ ?_ ?_ ?_ ?_ ?_ ?_ ?_ ?_ ?_ ?_ ?_ ?_ ?_ ?_ ?_ ?_ ?_ ?_ ?_ ?_ ?_ ?_ ?_ ?_ ?_ ?_ ?_ ?_ ?_ ?_ ?_ ?_ ?_ ?_ ?_ ?_ ?_ ?_ ?_ ?_ ?_ ?_ ?_ ?_ ?_ ?_ ?_ ?_ ?_ ?_ ?_ ?_ ?_ ?_ ?_ ?_ ?_ ?_ ?_ ?_ ?_ ?_ ?_ ?_ ?_ ?_ ?_
  all_goals try first|k_is|kernel_rfl
