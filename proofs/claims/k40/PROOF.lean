import PyProof.Rows.All
import Wide.All
import OpenK.AllK
import Wide.FinOn
import Lean
import PyProof.EqAt
import PyProof.EqKinds
import PyProof.TupleCall
import PySem.Challenge.RW_spaceturns_k40_deeds_as_texts
set_option Elab.async false
set_option linter.all false
set_option maxRecDepth 100000
namespace L2
open PySem PySem.Spec PyProof.Rows
variable{us:List Value}{C a b dx it:Addr}{P:Program}{w:World}{base h:Heap}{o:Obj}{g':Array GenState}{ch fp:List Addr}{qual x:Str}{N ps:List Str}{i j k n:Nat}{M:Model}{A:Around}{E Q:Value->Shared->Prop}{u:Value}{s s':Shared}{c e l tg:Expr}{α:Type}{pins:List (Addr×Obj)}{p pos pos':Pos}{K:W.Frag}{es:List Expr}{op op':CmpOp}{body:List Stmt}{f:Value->Value->Sem Value}{g:Int->Int->Int}{mA mg:Str->Option Value}{pl:Sem Bool}{kw:List (Str×Value)}{fd:FuncData}{outer:List Env}{scope:Scope}
abbrev bS:=Sum Int Str
def ka:bS->Value->Bool
 | .inl k,v=>Value.isInt k v
 | .inr x,v=>Value.isStrOf x v
def LI(w:World):bS->Int
 | .inl k=>hashInt k
 | .inr x=>hashStr w x
theorem cE:∀{k:bS} {v:Value},ka k v=true->(∃i t,k=Sum.inl i/\v=Value.int i t)\/(∃x t,k=Sum.inr x/\v=Value.str x t)
 | .inl i,v,h=>by
  obtain⟨t,e⟩:=Value.isInt_shape (k:=i) (v:=v) h
  exact .inl ⟨i,t,rfl,e⟩
 | .inr x,v,h=>by
  obtain⟨t,e⟩:=Value.isStrOf_shape (x:=x) (v:=v) h
  exact .inr ⟨x,t,rfl,e⟩
theorem wy(i:Int)(t:Tok):ka (.inl i) (.int i t)=true:=by simp[ka,Value.isInt]
theorem wx(x:Str)(t:Tok):ka (.inr x) (.str x t)=true:=by simp[ka,Value.isStrOf]
theorem Fd(a b:Int):decide ((Sum.inl a:bS)=Sum.inl b)=(a==b):=by
 by_cases e:a=b
 ·subst e;simp
 ·have h:¬ (Sum.inl a:bS)=Sum.inl b:=fun q=>e (Sum.inl.inj q)
  rw[decide_eq_false h]
  exact(beq_eq_false_iff_ne.mpr e).symm
theorem Fa(a b:Str):decide ((Sum.inr a:bS)=Sum.inr b)=decide (a=b):=by
 by_cases e:a=b
 ·subst e;simp
 ·have h:¬ (Sum.inr a:bS)=Sum.inr b:=fun q=>e (Sum.inr.inj q)
  rw[decide_eq_false h,decide_eq_false e]
theorem Fc(a:Int)(b:Str):decide ((Sum.inl a:bS)=Sum.inr b)=false:=decide_eq_false (fun q=>nomatch q)
theorem Fb(a:Str)(b:Int):decide ((Sum.inr a:bS)=Sum.inl b)=false:=decide_eq_false (fun q=>nomatch q)
def ig(prog:Program)(w:World):PySem.KeyKind prog w bS where
 is:=ka
 hash:=LI w
 inj:=fun v a b ha hb=>by
  rcases cE ha with⟨i,t,rfl,rfl⟩|⟨x,t,rfl,rfl⟩
  ·rcases cE hb with⟨j,u,rfl,e⟩|⟨y,u,rfl,e⟩
   ·injection e with e1 _;rw[e1]
   ·exact nomatch e
  ·rcases cE hb with⟨j,u,rfl,e⟩|⟨y,u,rfl,e⟩
   ·exact nomatch e
   ·injection e with e1 _;rw[e1]
 byValue:=fun k v h=>by
  rcases cE h with⟨i,t,rfl,rfl⟩|⟨x,t,rfl,rfl⟩<;>rfl
 pyHash:=fun hv h=>by
  rcases cE hv with⟨i,t,rfl,rfl⟩|⟨x,t,rfl,rfl⟩
  ·exact wpAny_pyHash_int h
  ·exact wpAny_pyHash_str h
 eqBool:=fun hu hv h=>by
  rcases cE hu with⟨i,t,rfl,rfl⟩|⟨x,t,rfl,rfl⟩
  ·rcases cE hv with⟨j,u,rfl,rfl⟩|⟨y,u,rfl,rfl⟩
   ·rw[Fd]at h;exact wpAny_eqBool_int h
   ·rw[Fc]at h;exact SeqAt.EqAt.int_str i t y u _ _ _ _ h
  ·rcases cE hv with⟨j,u,rfl,rfl⟩|⟨y,u,rfl,rfl⟩
   ·rw[Fb]at h;exact SeqAt.EqAt.str_int x t j u _ _ _ _ h
   ·rw[Fa]at h;exact wpAny_eqBool_str h
 «strs» := fun k x t v h=>by
  rcases cE h with⟨i,u,rfl,e⟩|⟨y,u,rfl,e⟩
  ·exact nomatch e
  ·injection e with e1 _
   subst e1
   cases v<;>rfl
theorem sw(prog:Program)(w:World)(i:Int)(t:Tok):(ig prog w).is (.inl i) (.int i t)=true:=wy i t
theorem sv(prog:Program)(w:World)(x:Str)(t:Tok):(ig prog w).is (.inr x) (.str x t)=true:=wx x t
inductive V where
 | non|bl (b:Bool)|int (i:Int)|str (x:Str)|byt (b:Array UInt8)|flt (b:UInt64)|ref (a:Addr)|ty (n:String)
 deriving DecidableEq
def aT:V->Value->Prop
 | .non,u=>u=Value.none
 | .bl b,u=>u=Value.bool b
 | .int i,u => ∃t,u=Value.int i t
 | .str x,u => ∃t,u=Value.str x t
 | .byt b,u => ∃t,u=Value.bytes b t
 | .flt b,u => ∃t,u=Value.float b t
 | .ref a,u=>u=Value.ref a
 | .ty n,u=>u=Value.type n
abbrev aG:List V->List Value->Prop:=Paired aT
theorem aG.length{xs:List V}(r:aG xs us):xs.length=us.length:=Paired.length r
theorem aG.get:∀{xs:List V} {us:List Value} {i:Nat} {x:V},aG xs us->xs[i]?=some x->∃u,us[i]?=some u/\aT x u
 | _,_,_,_,.nil,e=>by simp at e
 | _,_,0,_,.cons r _,e=>by simp at e;subst e;exact⟨_,rfl,r⟩
 | _,_,i+1,x,.cons _ t,e=>by
  obtain⟨u,h1,h2⟩:=aG.get (i:=i) (x:=x) t (by simpa using e)
  exact⟨u,by simpa using h1,h2⟩
theorem aG.set{x:V}{u:Value}(r:aT x u):∀{xs:List V} {us:List Value} (i:Nat),aG xs us->aG (xs.set i x) (us.set i u)
 | _,_,_,.nil=>.nil
 | _,_,0,.cons _ t=>.cons r t
 | _,_,i+1,.cons q t=>.cons q (aG.set r i t)
theorem aG.append:∀{xs ys:List V} {us ws:List Value},aG xs us->aG ys ws->aG (xs++ys) (us++ws)
 | _,_,_,_,.nil,s=>s
 | _,_,_,_,.cons r t,s=>.cons r (aG.append t s)
theorem aG.take:∀{xs:List V} {us:List Value} (n:Nat),aG xs us->aG (xs.take n) (us.take n)
 | _,_,0,_=>.nil
 | _,_,_+1,.nil=>.nil
 | _,_,n+1,.cons r t=>.cons r (aG.take n t)
theorem aG.drop:∀{xs:List V} {us:List Value} (n:Nat),aG xs us->aG (xs.drop n) (us.drop n)
 | _,_,0,r=>r
 | _,_,_+1,.nil=>.nil
 | _,_,n+1,.cons _ t=>aG.drop n t
theorem aG.none_of:∀{xs:List V} {us:List Value} {i:Nat},aG xs us->xs[i]?=none->us[i]?=none:=fun {xs us i} r e=>by
 have h1:=r.length
 have h2:xs.length<=i:=List.getElem?_eq_none_iff.mp e
 exact List.getElem?_eq_none_iff.mpr (by omega)
def ee:Option V->Option Value->Prop
 | some v,some u=>aT v u
 | none,none=>True
 | _,_=>False
def KV{κ:Type}:List (κ×V)->List (κ×Value)->Prop:=Paired fun(p:κ×V) (q:κ×Value)=>p.1=q.1/\aT p.2 q.2
def kV:bS->V
 | .inl i=>.int i
 | .inr x=>.str x
inductive HO where
  | lst (xs:List V)
  | tup (xs:List V)
  | dK (kvs:List (bS×V))|dT (kvs:List (List bS×V))
  | set (S:Int->Bool) (n:Nat)
  | ins (C dx:Addr) (fs:List (Str×V))
  | own (x:Addr)
  | xd (fs:List (Str×V))
  | met (f x:Addr)
  | rng (lo hi:Int)
  | frz (o:Obj) (u:HO)
  | tbl (ps:Array Value)
  | ext (φ:Heap->Prop)
abbrev Hp:=Addr->Option HO
def aO(H:Hp)(a:Addr)(o:HO):Hp:=fun b=>if b=a then some o else H b
theorem aD{H:Hp}{o:HO}:aO H a o a=some o:=by unfold aO;rw[if_pos rfl]
theorem ax{H:Hp}{o:HO}(h:b≠a):aO H a o b=H b:=by unfold aO;rw[if_neg h]
theorem sS{H:Hp}{o u:HO}:aO (aO H a o) a u=aO H a u:=by
 funext b;unfold aO;split<;>rfl
theorem j7{H:Hp}{o u:HO}(h:H a=some o)(h':H b=some u)(d:o≠u):a≠b:=by
 intro e;subst e;rw[h]at h';exact d (Option.some.inj h')
theorem bq{H:Hp}{o:HO}(h:H a=some o)(h':H b=none):a≠b:=by
 intro e;subst e;rw[h]at h';cases h'
section
variable(P:Program)(w:World)
def bM(H:Hp)(h:Heap)(a:Addr):HO->Prop
  | .lst xs=>xs.length<=sizeLine/\∃(its:List Value) (n:Nat),aG xs its/\h.get? a=some { cls:=.type "list", data:=.seq its.toArray n }
  | .tup xs=>xs.length<=sizeLine/\∃its:List Value,aG xs its/\IsTup h a its.toArray
  | .dK kvs=>kvs.length<=sizeLine/\(a==sysModules)=false/\∃vs,KV kvs vs/\h.DictOf (ig P w) a vs
  | .dT kvs=>kvs.length<=sizeLine/\(a==sysModules)=false/\∃xs:List (List bS×Addr×Value),
      Paired (fun(p:List bS×V) (q:List bS×Addr×Value)=>p.1=q.1/\H q.2.1=some (.tup (p.1.map kV))/\aT p.2 q.2.2) kvs xs /\
      ∃o es ep,h.get? a=some o/\o.ExactDict/\o.data=.dict es ep/\es.toList=xs.map (entryOfKey (tupleKind (ig P w)))/\(xs.map (·.1)).Nodup
  | .set S n=>h.SetOf (intKind P w) a S n
  | .ins C dx fs=>H dx=some (.own a)/\fs.length<=1000/\dx≠a/\h.get? a=some (W.instObj C dx) /\
      ∃mA,h.Ns1 dx mA/\(∀f,ee (fs.lookup f) (mA f))/\PySem.Within mA (fs.map (·.1))
  | .own _ => ∃o,h.get? a=some o
  | .xd fs => ∃mA,h.Ns1 a mA/\∀f,ee (fs.lookup f) (mA f)
  | .rng lo hi => ∃t u v,h.get? a=some { cls:=.type "range", data:=.fields #[.int lo t,.int hi u,.int 1 v] }
  | .frz o u=>h.get? a=some o/\bM H h a u
  | .tbl ps=>h.get? a=some { cls:=.none,data:=.fields ps }
  | .met f x=>h.get? a=some (W.methodObj (.ref f) (.ref x))
  | .ext φ=>φ h/\(∃o,h.get? a=some o)/\∀h1 h2:Heap,φ h1->(∀o,h1.get? a=some o->h2.get? a=some o)->φ h2
def cZ(H:Hp)(h:Heap):Prop:=∀a o,H a=some o->bM P w H h a o
end
section
variable{H H':Hp}{h':Heap}{o:HO}
theorem bM.lt(x:bM P w H h a o):a<h.objs.size:=by
 cases o with
 | lst xs=>obtain⟨_,_,_,_,e⟩:=x;exact Heap.lt_size e
 | tup xs=>obtain⟨_,_,_,p⟩:=x;exact p.lt
 | dK kvs=>obtain⟨_,_,_,_,o,_,_,e,_⟩:=x;exact Heap.lt_size e
 | dT kvs=>obtain⟨_,_,_,_,o,_,_,e,_⟩:=x;exact Heap.lt_size e
 | set S n=>obtain⟨o,_,_,_,e,_⟩:=x;exact Heap.lt_size e
 | ins C dx fs=>obtain⟨_,_,_,e,_⟩:=x;exact Heap.lt_size e
 | own y=>obtain⟨_,e⟩:=x;exact Heap.lt_size e
 | xd fs=>obtain⟨_,⟨_,_,_,e,_⟩,_⟩:=x;exact Heap.lt_size e
 | rng lo hi=>obtain⟨_,_,_,e⟩:=x;exact Heap.lt_size e
 | frz ob u=>obtain⟨e,_⟩:=x;exact Heap.lt_size e
 | tbl ps=>exact Heap.lt_size (show h.get? a=some _ from x)
 | met f y=>exact Heap.lt_size (show h.get? a=some _ from x)
 | ext φ=>obtain⟨_,⟨_,e⟩,_⟩:=x;exact Heap.lt_size e
theorem Paired.mapP{α β:Type}{F G:α->β->Prop}:∀{l₁:List α} {l₂:List β},Paired F l₁ l₂->(∀a b,F a b->G a b)->Paired G l₁ l₂
 | _,_,.nil,_=>.nil
 | _,_,.cons r t,f=>.cons (f _ _ r) (Paired.mapP t f)
theorem bM.stay(x:bM P w H h a o)(k:∀b u,(b=a\/H b=some (.own a))->h.get? b=some u->h'.get? b=some u)
  (ho:∀b,H b=some (.own a)->H' b=some (.own a)) (ht:∀b xs,H b=some (.tup xs)->H' b=some (.tup xs)):bM P w H' h' a o:=by
 induction o with
 | lst xs=>obtain⟨z,its,n,r,e⟩:=x;exact⟨z,its,n,r,k _ _ (.inl rfl) e⟩
 | tup xs=>obtain⟨z,its,r,ob,e,c⟩:=x;exact⟨z,its,r,ob,k _ _ (.inl rfl) e,c⟩
 | dK kvs=>obtain⟨z,y,vs,r,ob,es,ep,e,c⟩:=x;exact⟨z,y,vs,r,ob,es,ep,k _ _ (.inl rfl) e,c⟩
 | dT kvs =>
  obtain⟨z,y,xs,r,ob,es,ep,e,c⟩:=x
  exact⟨z,y,xs,Paired.mapP r fun p q z=>⟨z.1,ht _ _ z.2.1,z.2.2⟩,ob,es,ep,k _ _ (.inl rfl) e,c⟩
 | set S n=>obtain⟨ob,es,ep,t,e,c⟩:=x;exact⟨ob,es,ep,t,k _ _ (.inl rfl) e,c⟩
 | ins C dx fs =>
  obtain⟨d,z,ne,e,mA,⟨od,es,ep,e2,c⟩,r⟩:=x
  exact⟨ho _ d,z,ne,k _ _ (.inl rfl) e,mA,⟨od,es,ep,k _ _ (.inr d) e2,c⟩,r⟩
 | own y=>obtain⟨ob,e⟩:=x;exact⟨ob,k _ _ (.inl rfl) e⟩
 | xd fs=>obtain⟨mA,⟨od,es,ep,e,c⟩,r⟩:=x;exact⟨mA,⟨od,es,ep,k _ _ (.inl rfl) e,c⟩,r⟩
 | rng lo hi=>obtain⟨t,u,v,e⟩:=x;exact⟨t,u,v,k _ _ (.inl rfl) e⟩
 | frz ob u ih=>obtain⟨e,q⟩:=x;exact⟨k _ _ (.inl rfl) e,ih q⟩
 | tbl ps =>
  have e:h.get? a=some { cls:=.none,data:=.fields ps }:=x
  show h'.get? a=some { cls:=.none,data:=.fields ps }
  exact k a _ (.inl rfl) e
 | met f y =>
  have e:h.get? a=some (W.methodObj (.ref f) (.ref y)):=x
  show h'.get? a=some (W.methodObj (.ref f) (.ref y))
  exact k a _ (.inl rfl) e
 | ext φ=>obtain⟨p,⟨o,e⟩,st⟩:=x;exact⟨st _ _ p fun o q=>k _ _ (.inl rfl) q,⟨o,k _ _ (.inl rfl) e⟩,st⟩
theorem cZ.lt(x:cZ P w H h)(e:H a=some o):a<h.objs.size:=(x a o e).lt
theorem cZ.fresh(x:cZ P w H h)(e:h.objs.size<=a):H a=none:=by
 cases q:H a with
 | none=>rfl
 | some u=>exact absurd (Nat.lt_of_lt_of_le (x.lt q) e) (Nat.lt_irrefl _)
theorem cZ.kept(x:cZ P w H h)(k:∀b u,h.get? b=some u->h'.get? b=some u):cZ P w H h':=fun a o e =>
 (x a o e).stay (fun b u _ q=>k b u q) (fun _ q=>q) fun _ _ q=>q
theorem cZ.laid(x:cZ P w H h)(k:∀b u,h.get? b=some u->h'.get? b=some u)(hp:h.objs.size<=a)(new:bM P w (aO H a o) h' a o):cZ P w (aO H a o) h':=fun b u e=>by
 have hn:=x.fresh hp
 by_cases hb:b=a
 ·subst hb;rw[aD]at e;cases e;exact new
 ·rw[ax hb]at e
  exact(x b u e).stay (fun c v _ q=>k c v q) (fun c q=>by rw[ax (bq q hn)];exact q) fun c xs q=>by rw[ax (bq q hn)];exact q
end
def Rd(H:Hp)(a:Addr)(u:HO):Prop:=H a=some u\/∃o,H a=some (.frz o u)
theorem Rd.ok{H:Hp}{u:HO}(r:Rd H a u)(x:cZ P w H h):bM P w H h a u:=by
 rcases r with r|⟨o,r⟩
 ·exact x a u r
 ·obtain⟨_,q⟩:=x a _ r
  exact q
def AF:Option HO->Prop
 | some (.lst _)=>True
 | some (.dK _)=>True
 | some (.dT _)=>True
 | some (.set _ _)=>True
 | some (.ins _ _ _)=>True
 | some (.ext _)=>True
 | _=>False
section
variable{H:Hp}{h':Heap}{x e:Addr}{o':HO}
theorem cZ.write(ok:cZ P w H h)(mu:AF (H x))(he:e=x\/H e=some (.own x))(k:∀b u,b≠e->h.get? b=some u->h'.get? b=some u)(heo:∃u,h'.get? e=some u)
  (new:bM P w (aO H x o') h' x o'):cZ P w (aO H x o') h':=fun b u q=>by
 have nown:∀c y,H c=some (.own y)->c≠x:=fun c y r z=>by subst z;rw[r]at mu;exact mu
 have ntup:∀c xs,H c=some (.tup xs)->c≠x:=fun c xs r z=>by subst z;rw[r]at mu;exact mu
 by_cases hb:b=x
 ·subst hb;rw[aD]at q;cases q;exact new
 ·rw[ax hb]at q
  by_cases hbe:b=e
  ·have q':H b=some (.own x):=by
    rcases he with z|z
    ·exact absurd (hbe.trans z) hb
    ·rw[hbe];exact z
   rw[q]at q';cases q'
   obtain⟨v,hv⟩:=heo
   exact⟨v,by rw[hbe];exact hv⟩
  ·refine(ok b u q).stay (fun c v hc r=>k c v ?_ r) (fun c r=>by rw[ax (nown c b r)];exact r) fun c xs r=>by rw[ax (ntup c xs r)];exact r
   rcases hc with rfl|hc
   ·exact hbe
   ·rintro rfl
    rcases he with z|z
    ·exact nown c b hc z
    ·rw[hc]at z;cases z;exact hb rfl
end
structure Un(fs ex:List Addr)(H H':Hp)(h h':Heap):Prop where
 keep:∀b o,h.get? b=some o->H b=none->b∉fs->b∉ex->h'.get? b=some o
 slot:∀b o,h.get? b=some o->H b=none->b∈fs->b∉ex->∃sl,h'.get? b=some { o with slots:=sl }
 free:∀b o,h.get? b=some o->H b=none->b∉ex->H' b=none
 there:∀b o,h.get? b=some o->b∉ex->∃o',h'.get? b=some o'
 tups:∀b xs,H b=some (.tup xs)->H' b=some (.tup xs)
 frzs:∀b o u,H b=some (.frz o u)->H' b=some (.frz o u)
 tbls:∀b ps,H b=some (.tbl ps)->∃more,H' b=some (.tbl (ps++more))
section
variable{fs fs' ex ex':List Addr}{H H1 H2:Hp}{h1 h2 h':Heap}{x e:Addr}{o:HO}
theorem Un.any(u:Un fs ex H H1 h h1){ob:Obj}(q:h.get? b=some ob)(n:H b=none)(hx:b∉ex):∃sl,h1.get? b=some { ob with slots:=sl }:=by
 by_cases hb:b∈fs
 ·exact u.slot b ob q n hb hx
 ·exact⟨ob.slots,u.keep b ob q n hb hx⟩
theorem Un.kept(k:∀b u,h.get? b=some u->h'.get? b=some u):Un fs ex H H h h' :=
 ⟨fun b ob q _ _ _=>k b ob q,fun b ob q _ _ _=>⟨ob.slots,k b ob q⟩,fun _ _ _ n _=>n,fun b ob q _=>⟨ob,k b ob q⟩,fun _ _ q=>q,fun _ _ _ q=>q,fun _ ps q=>⟨#[],by rw[q];simp⟩⟩
theorem Un.refl:Un fs ex H H h h:=Un.kept fun _ _ q=>q
theorem Un.laid(k:∀b u,h.get? b=some u->h'.get? b=some u)(hp:h.objs.size<=a)(hn:H a=none):Un fs ex H (aO H a o) h h' where
 keep:=fun b u q _ _ _=>k b u q
 slot:=fun b u q _ _ _=>⟨u.slots,k b u q⟩
 free:=fun b u q n _=>by rw[ax (Nat.ne_of_lt (Nat.lt_of_lt_of_le (Heap.lt_size q) hp))];exact n
 there:=fun b u q _=>⟨u,k b u q⟩
 tups:=fun b xs q=>by rw[ax (bq q hn)];exact q
 frzs:=fun b u xs q=>by rw[ax (bq q hn)];exact q
 tbls:=fun b ps q=>⟨#[],by rw[ax (bq q hn),q];simp⟩
theorem Un.write(mu:AF (H x))(he:e=x\/H e=some (.own x))(k:∀b u,b≠e->h.get? b=some u->h'.get? b=some u)(heo:∃u,h'.get? e=some u):Un fs ex H (aO H x o) h h':=by
 have hx:∀b,H b=none->b≠x:=fun b n z=>by subst z;rw[n]at mu;exact mu
 have hb:∀b,H b=none->b≠e:=fun b n z=>by
  subst z
  rcases he with r|r
  ·exact hx b n r
  ·rw[n]at r;cases r
 have hm:∀b u,H b=some u -> ¬ AF (some u)->b≠x:=fun b u q nm z=>by subst z;rw[q]at mu;exact nm mu
 refine⟨fun b u q n _ _=>k b u (hb b n) q,fun b u q n _ _=>⟨u.slots,k b u (hb b n) q⟩,fun b u q n _=>by rw[ax (hx b n)];exact n,fun b u q _=>?_,
  fun b xs q=>by rw[ax (hm b _ q fun z=>z)];exact q,fun b u xs q=>by rw[ax (hm b _ q fun z=>z)];exact q,fun b ps q=>⟨#[],by rw[ax (hm b _ q fun z=>z),q];simp⟩⟩
 by_cases hbe:b=e
 ·subst hbe;exact heo
 ·exact⟨u,k b u hbe q⟩
end
def zE(h:Heap)(H:Hp):List Addr:=(List.range h.objs.size).filter fun a=>(H a).isSome
def iN(h:Heap)(H:Hp):Heap:=W.hideAll h (zE h H)
theorem wN(h:Heap)(H:Hp):(iN h H).objs.size=h.objs.size:=W.hideAll_size _ _
theorem yH{H:Hp}(e:h.get? b=some o)(n:H b=none):(iN h H).get? b=some o :=
 W.hideAll_get _ e fun hm=>by
  have q:(H b).isSome=true:=(List.mem_filter.mp hm).2
  rw[n]at q;simp at q
theorem BJ{H:Hp}(e:(iN h H).get? b=some o):h.get? b=some o/\H b=none:=by
 have e':h.get? b=some o:=W.of_hideAll (zE h H) e
 refine⟨e',?_⟩
 cases q:H b with
 | none=>rfl
 | some x =>
  have hm:b∈zE h H:=List.mem_filter.mpr ⟨List.mem_range.mpr (Heap.lt_size e'),by simp[q]⟩
  have z:(iN h H).get? b=none:=W.hideAll_none (zE h H) hm
  rw[z]at e;cases e
def C3(g h:Heap)(L:Addr):List (Addr×Obj):=(List.range h.objs.size).filterMap fun a=>if a=L\/(g.get? a).isSome=true then none else(h.get? a).map fun o=>(a,o)
def bT(g h:Heap)(L d:Addr):List (Addr×Obj):=(C3 g h L).filter fun p=>decide (p.1≠d)
variable{v y:V}{H:Hp}{R:V->V->Hp->Prop}{vs:List V}
structure Mod(K:W.Frag)(mg:Str->Option Value)(base:Heap):Prop where
 kin:K.In base
 glob:base.Ns mainGlobals mg
 blt:∃mb,base.Ns builtinsNs mb/\∀x:Str,x ≠ "__name__" -> mb x=bootBuiltins x
 nolimit:base.NoLimit
structure Cx where
 prog:Program
 w:World
 K:W.Frag
 mg:Str->Option Value
 base:Heap
 A:Around
 N:List Str
 s₀:Shared
 H₀:Hp
 env:Env
 outer:List Env
 stack:List Env
 ex:List Addr
 fn:Str->Bool
 calm:Bool
 pn:List (Addr×Obj)
 xe:Value->Shared->Prop
def jb(l:List Env):List Addr:=l.filterMap (·.frame)
abbrev Cx.fs(X:Cx):List Addr:=jb X.outer
def eM(sc:Scope)(x:Str):Prop:=sc.names.lookup x=some .local\/sc.names.lookup x=some .cell\/sc.names.lookup x=some .free
def r9(sc:Scope)(x:Str):Prop:=sc.names.lookup x=some .local\/sc.names.lookup x=some .cell
def Ni(env:Env)(h:Heap)(m:Str->Option Value)(x:Str)(u:Value):Prop :=
 (env.kindOf x=some .local/\m x=some u)\/((env.kindOf x=some .cell\/env.kindOf x=some .free)/\∃c,env.cells.lookup x=some c/\h.IsCell c (some u))
structure Cx.Ok(X:Cx):Prop where
 mod:Mod X.K X.mg X.base
 kind:X.env.scope.kind=.function
 glob:X.env.globals=mainGlobals
 blt:X.env.builtins=builtinsNs
 above:X.s₀.heap.objs.size<=X.env.locals
 inj:∀x y c,X.env.cells.lookup x=some c->X.env.cells.lookup y=some c->x=y
 has:∀x,(X.env.kindOf x=some .cell\/X.env.kindOf x=some .free)->∃c,X.env.cells.lookup x=some c
 cab:∀x c,X.fn x=true->X.env.cells.lookup x=some c->X.s₀.heap.objs.size<=c
 hd:X.calm=true->X.A.handled=none
 frames:X.A.frames=some X.stack
 stk:X.stack=X.outer\/(X.stack=X.env::X.outer/\X.env.frame=some X.env.locals)
 exf:∀b∈X.ex,b≠X.env.locals/\∀x c,X.env.cells.lookup x=some c->c≠b
 bs:∀b o,X.base.get? b=some o->X.s₀.heap.get? b=some o/\X.H₀ b=none
 bsz:X.base.objs.size<=X.s₀.heap.objs.size
 noex:∀b o,X.base.get? b=some o->b∉X.ex
 exfs:∀b∈X.ex,b∉X.fs
 funs:X.s₀.heap.FunFrames X.base X.outer
 frf:∀b∈X.fs,X.H₀ b=none
structure aj(X:Cx)(pins:List (Addr×Obj))(σ:List (Option V))(H:Hp)(s:Shared):Prop where
 ok:X.Ok
 os:s.os=X.s₀.os
 bare:AllBare s.gens
 base:Un X.fs X.ex X.H₀ H X.s₀.heap s.heap
 loc:∃m,s.heap.Ns X.env.locals m/\∀(i:Nat) (x:Str) (v:V),X.N[i]?=some x->σ[i]?=some (some v)->eM X.env.scope x->∃u,aT v u/\Ni X.env s.heap m x u
 cell:∀x c,X.env.cells.lookup x=some c->∃v,s.heap.IsCell c v
 free:H X.env.locals=none
 freeC:∀x c,X.env.cells.lookup x=some c->H c=none
 pin:∀p∈X.pn++pins,s.heap.get? p.1=some p.2/\H p.1=none/\p.1≠X.env.locals/\p.1∉X.fs/\∀v,p.2.data ≠ .cell v
 hok:cZ X.prog X.w H s.heap
 len:σ.length=X.N.length
section
variable{X:Cx}{σ:List (Option V)}{H':Hp}{h':Heap}
theorem Cx.Ok.nofr(ok:X.Ok)(e:X.base.get? b=some o):b∉X.fs:=fun hb=>by
 have:=(ok.funs.mem hb).1
 rw[e]at this;cases this
theorem aj.bs(I:aj X pins σ H s):∀b o,X.base.get? b=some o->s.heap.get? b=some o/\H b=none:=fun b o e =>
 ⟨I.base.keep b o (I.ok.bs b o e).1 (I.ok.bs b o e).2 (I.ok.nofr e) (I.ok.noex b o e),I.base.free b o (I.ok.bs b o e).1 (I.ok.bs b o e).2 (I.ok.noex b o e)⟩
theorem aj.bk(I:aj X pins σ H s):∀b o,X.base.get? b=some o->s.heap.get? b=some o:=fun b o e=>(I.bs b o e).1
theorem aj.mod(I:aj X pins σ H s):Mod X.K X.mg X.base:=I.ok.mod
theorem aj.kIn(I:aj X pins σ H s):X.K.In s.heap:=I.ok.mod.kin.keeps I.bk
theorem aj.nolimit(I:aj X pins σ H s):s.heap.NoLimit:=I.ok.mod.nolimit.keeps I.bk
theorem aj.fr(I:aj X pins σ H s):∃m,Fr X.base X.env.locals s.heap m :=
 let ⟨m,hn,_⟩:=I.loc
 ⟨m,hn,I.bk,Nat.le_trans I.ok.bsz I.ok.above⟩
theorem aj.lt(I:aj X pins σ H s):X.env.locals<s.heap.objs.size:=let ⟨_,hn,_⟩:=I.loc;hn.lt
theorem aj.sz(I:aj X pins σ H s):X.s₀.heap.objs.size<=s.heap.objs.size:=Nat.le_trans I.ok.above (Nat.le_of_lt I.lt)
theorem aj.nofs(I:aj X pins σ H s)(h:s.heap.objs.size<=a):a∉X.fs:=fun hb=>by
 obtain⟨_,o,ho,_⟩:=I.ok.funs.mem hb
 exact absurd (Nat.lt_of_lt_of_le (Heap.lt_size ho) (Nat.le_trans I.sz h)) (Nat.lt_irrefl _)
theorem aj.cne(I:aj X pins σ H s):∀x c,X.env.cells.lookup x=some c->c≠X.env.locals:=fun x c e z=>by
 obtain⟨v,o,ho,hd⟩:=I.cell x c e
 obtain⟨m,⟨o',es,ep,ho',hd',_⟩,_⟩:=I.loc
 rw[z,ho']at ho;cases ho;rw[hd']at hd;cases hd
theorem aj.funs(I:aj X pins σ H s):s.heap.FunFrames X.base X.outer:=by
 have all:∀(l:List Env),(∀b∈jb l,b∈X.fs)->X.s₀.heap.FunFrames X.base l->s.heap.FunFrames X.base l:=by
  intro l
  induction l with
  | nil=>intro _ _;trivial
  | cons env r ih =>
   intro hs hl
   obtain⟨hk,⟨L,o,hf,hn,ho,hd⟩,hr⟩:=hl
   have hL:L∈X.fs:=hs L (by unfold jb;rw[List.filterMap_cons,hf];exact List.mem_cons_self)
   obtain⟨sl,e⟩:=I.base.slot L o ho (I.ok.frf L hL) hL fun z=>I.ok.exfs L z hL
   exact⟨hk,⟨L,_,hf,hn,e,hd⟩,ih (fun b hb=>hs b (by unfold jb;rw[List.filterMap_cons,hf];exact List.mem_cons_of_mem _ hb)) hr⟩
 exact all X.outer (fun _ hb=>hb) I.ok.funs
theorem aj.stack(I:aj X pins σ H s):s.heap.FunFrames X.base X.stack:=by
 rcases I.ok.stk with e|⟨e,hf⟩
 ·rw[e];exact I.funs
 ·rw[e]
  obtain⟨m,hn,_⟩:=I.loc
  refine .cons (by rw[I.ok.kind];decide) hf hn ?_ I.funs
  exact Heap.get?_none_of_le (Nat.le_trans I.ok.bsz I.ok.above)
theorem aj.stkSub(I:aj X pins σ H s):∀b∈jb X.stack,b∈X.env.locals::X.fs:=fun b hb=>by
 rcases I.ok.stk with e|⟨e,hf⟩
 ·rw[e]at hb;exact List.mem_cons_of_mem _ hb
 ·rw[e]at hb
  unfold jb at hb
  rw[List.filterMap_cons,hf]at hb
  exact hb
theorem aj.stkFree(I:aj X pins σ H s):∀b∈jb X.stack,H b=none:=fun b hb=>by
 rcases List.mem_cons.mp (I.stkSub b hb)with e|hb
 ·rw[e];exact I.free
 ·obtain⟨_,o,ho,_⟩:=I.ok.funs.mem hb
  exact I.base.free b o ho (I.ok.frf b hb) fun z=>I.ok.exfs b z hb
theorem aj.step{t':Nat}{d':Drawn}(I:aj X pins σ H s)
  (hch:∀b∈ch,(b∈X.ex\/X.s₀.heap.objs.size<=b)/\b≠X.env.locals/\(∀x c,X.env.cells.lookup x=some c->c≠b)/\∀p∈X.pn++pins,p.1≠b)
  (keep:∀b o,b≠X.env.locals->b∉X.fs->b∉ch->s.heap.get? b=some o->H b=none->h'.get? b=some o)
  (slot:∀b o,b≠X.env.locals->b∈X.fs->b∉ch->s.heap.get? b=some o->H b=none->∃sl,h'.get? b=some { o with slots:=sl }) (free:∀b o,b∉ch->s.heap.get? b=some o->H b=none->H' b=none)
  (there:∀b o,b∉ch->s.heap.get? b=some o->∃o',h'.get? b=some o')
  (tups:∀b xs,H b=some (.tup xs)->H' b=some (.tup xs)) (frzs:∀b o u,H b=some (.frz o u)->H' b=some (.frz o u)) (tbls:∀b ps,H b=some (.tbl ps)->∃more,H' b=some (.tbl (ps++more)))
  (ns:∀m,s.heap.Ns X.env.locals m->h'.Ns X.env.locals m) (hok:cZ X.prog X.w H' h') (hg:AllBare g') :
  aj X pins σ H' { s with heap:=h',gens:=g',drawn:=d',toks:=t' }:=by
 have neL:∀b o,X.s₀.heap.get? b=some o->b≠X.env.locals:=fun b o e=>Nat.ne_of_lt (Nat.lt_of_lt_of_le (Heap.lt_size e) I.ok.above)
 have neC:∀b o,X.s₀.heap.get? b=some o->b∉X.ex->b∉ch:=fun b o e hx hb=>by
  rcases(hch b hb).1 with z|z
  ·exact hx z
  ·exact absurd (Nat.lt_of_lt_of_le (Heap.lt_size e) z) (Nat.lt_irrefl _)
 have cellK:∀x c,X.env.cells.lookup x=some c->∀v,s.heap.IsCell c v->h'.IsCell c v:=fun x c e v ⟨o,ho,hd⟩=>by
  have nch:c∉ch:=fun z=>(hch c z).2.2.1 x c e rfl
  by_cases hc:c∈X.fs
  ·obtain⟨sl,q⟩:=slot c o (I.cne x c e) hc nch ho (I.freeC x c e)
   exact⟨_,q,hd⟩
  ·exact⟨o,keep c o (I.cne x c e) hc nch ho (I.freeC x c e),hd⟩
 refine⟨I.ok,I.os,hg,⟨fun b o e n hb hx=>?_,fun b o e n hb hx=>?_,fun b o e n hx=>?_,fun b o e hx=>?_,fun b xs e=>tups b xs (I.base.tups b xs e),fun b o xs e=>frzs b o xs (I.base.frzs b o xs e),fun b ps e=>?_⟩,?_,fun x c e=>?_,?_,fun x c e=>?_,fun p hp=>?_,hok,I.len⟩
 ·exact keep b o (neL b o e) hb (neC b o e hx) (I.base.keep b o e n hb hx) (I.base.free b o e n hx)
 ·obtain⟨sl,e1⟩:=I.base.slot b o e n hb hx
  obtain⟨sl',e2⟩:=slot b _ (neL b o e) hb (neC b o e hx) e1 (I.base.free b o e n hx)
  exact⟨sl',e2⟩
 ·obtain⟨o',e1⟩:=I.base.there b o e hx
  exact free b o' (neC b o e hx) e1 (I.base.free b o e n hx)
 ·obtain⟨o',e1⟩:=I.base.there b o e hx
  exact there b o' (neC b o e hx) e1
 ·obtain⟨m1,e1⟩:=I.base.tbls b ps e
  obtain⟨m2,e2⟩:=tbls b _ e1
  exact⟨m1++m2,by rw[e2,Array.append_assoc]⟩
 ·obtain⟨m,hn,hl⟩:=I.loc
  refine⟨m,ns m hn,fun i x v e1 e2 e3=>?_⟩
  obtain⟨u,r,l⟩:=hl i x v e1 e2 e3
  refine⟨u,r,?_⟩
  rcases l with l|⟨k,c,e,z⟩
  ·exact .inl l
  ·exact .inr ⟨k,c,e,cellK x c e _ z⟩
 ·obtain⟨v,z⟩:=I.cell x c e
  exact⟨v,cellK x c e v z⟩
 ·obtain⟨m,⟨o,_,_,ho,_⟩,_⟩:=I.loc
  exact free _ o (fun z=>(hch _ z).2.1 rfl) ho I.free
 ·obtain⟨v,o,ho,hd⟩:=I.cell x c e
  exact free c o (fun z=>(hch c z).2.2.1 x c e rfl) ho (I.freeC x c e)
 ·obtain⟨e,n,ne,nf,d⟩:=I.pin p hp
  have nch:p.1∉ch:=fun z=>(hch p.1 z).2.2.2 p hp rfl
  exact⟨keep p.1 p.2 ne nf nch e n,free p.1 p.2 nch e n,ne,nf,d⟩
theorem aj.un{t':Nat}(I:aj X pins σ H s)(u:Un X.fs [] H H' s.heap h')(hok:cZ X.prog X.w H' h'):aj X pins σ H' { s with heap:=h',toks:=t' }:=by
 obtain⟨m,⟨o,es,ep,ho,r⟩,_⟩:=id I.loc
 obtain⟨sl,hL⟩:=u.any ho I.free (by simp)
 exact I.step (g':=s.gens) (d':=s.drawn) (ch:=[]) (fun _ z=>nomatch z) (fun b o _ hb _ e n=>u.keep b o e n hb (by simp)) (fun b o _ hb _ e n=>u.slot b o e n hb (by simp)) (fun b o _ e n=>u.free b o e n (by simp)) (fun b o _ e=>u.there b o e (by simp)) u.tups u.frzs u.tbls (fun m' hm=>by
  obtain⟨o',es',ep',ho',r'⟩:=hm
  rw[ho]at ho';cases ho'
  exact⟨_,es',ep',hL,r'⟩) hok I.bare
theorem aj.call{t':Nat}{d':Drawn}(I:aj X pins σ H s)(u:Un (jb X.stack) ch H H' s.heap h')(hok:cZ X.prog X.w H' h')(hg:AllBare g')
  (hch:∀b∈ch,(b∈X.ex\/X.s₀.heap.objs.size<=b)/\b≠X.env.locals/\(∀x c,X.env.cells.lookup x=some c->c≠b)/\∀p∈X.pn++pins,p.1≠b) :
  aj X pins σ H' { s with heap:=h',gens:=g',drawn:=d',toks:=t' }:=by
 obtain⟨m,⟨o,es,ep,ho,r⟩,_⟩:=id I.loc
 obtain⟨sl,hL⟩:=u.any ho I.free fun z=>(hch _ z).2.1 rfl
 exact I.step (ch:=ch) hch (fun b o hL hb hc e n=>u.keep b o e n (fun z=>(List.mem_cons.mp (I.stkSub b z)).elim hL hb) hc) (fun b o _ _ hc e n=>u.any e n hc) (fun b o hc e n=>u.free b o e n hc) (fun b o hc e=>u.there b o e hc) u.tups u.frzs u.tbls (fun m' hm=>by
  obtain⟨o',es',ep',ho',r'⟩:=hm
  rw[ho]at ho';cases ho'
  exact⟨_,es',ep',hL,r'⟩) hok hg
theorem aj.turned{t':Nat}(I:aj X pins σ H s)(k:∀b o,b≠it->s.heap.get? b=some o->h'.get? b=some o)(hn:H it=none)(hL:it≠X.env.locals)
  (h1:it∈X.ex\/X.s₀.heap.objs.size<=it) (h2:∀x c,X.env.cells.lookup x=some c->c≠it) (h3:∀p∈X.pn++pins,p.1≠it):aj X pins σ H { s with heap:=h',toks:=t' }:=by
 have nit:∀b u,H b=some u->b≠it:=fun b u e z=>by rw[z,hn]at e;cases e
 refine I.step (g':=s.gens) (d':=s.drawn) (ch:=[it]) (fun b hb=>?_) (fun b o _ _ hc e _=>k b o (fun z=>hc (by simp[z])) e) (fun b o _ _ hc e _=>⟨o.slots,k b o (fun z=>hc (by simp[z])) e⟩) (fun _ _ _ _ n=>n)
  (fun b o hc e=>⟨o,k b o (fun z=>hc (by simp[z])) e⟩) (fun _ _ e=>e) (fun _ _ _ e=>e) (fun b ps e=>⟨#[],by rw[e];simp⟩) (fun m hm=>?_) (fun b u e=>?_) I.bare
 ·have e:b=it:=by simpa using hb
  subst e
  exact⟨h1,hL,h2,h3⟩
 ·obtain⟨o,es,ep,ho,r⟩:=hm
  exact⟨o,es,ep,k _ o (Ne.symm hL) ho,r⟩
 ·refine(I.hok b u e).stay (fun c v hc q=>k c v ?_ q) (fun _ q=>q) fun _ _ q=>q
  rcases hc with z|z
  ·rw[z];exact nit b u e
  ·exact nit c _ z
theorem aj.tok(I:aj X pins σ H s)(t:Nat):aj X pins σ H { s with toks:=t }:=I.un (h':=s.heap) (t':=t) Un.refl I.hok
theorem aj.kept{t':Nat}(I:aj X pins σ H s)(k:∀b u,s.heap.get? b=some u->h'.get? b=some u):aj X pins σ H { s with heap:=h',toks:=t' }:=I.un (Un.kept k) (I.hok.kept k)
theorem aj.laid{o:HO}{t':Nat}(I:aj X pins σ H s)(k:∀b u,s.heap.get? b=some u->h'.get? b=some u)(hp:s.heap.objs.size<=a)(new:bM X.prog X.w (aO H a o) h' a o) :
  aj X pins σ (aO H a o) { s with heap:=h',toks:=t' }:=I.un (Un.laid k hp (I.hok.fresh hp)) (I.hok.laid k hp new)
theorem aj.write{x e:Addr}{o:HO}{t':Nat}(I:aj X pins σ H s)(mu:AF (H x))(he:e=x\/H e=some (.own x))(k:∀b u,b≠e->s.heap.get? b=some u->h'.get? b=some u)(heo:∃u,h'.get? e=some u)
  (new:bM X.prog X.w (aO H x o) h' x o):aj X pins σ (aO H x o) { s with heap:=h',toks:=t' }:=I.un (Un.write mu he k heo) (I.hok.write mu he k heo new)
theorem aj.pins_of{pins':List (Addr×Obj)}(I:aj X pins σ H s)(h:∀p∈pins',s.heap.get? p.1=some p.2/\H p.1=none/\p.1≠X.env.locals/\p.1∉X.fs/\∀v,p.2.data ≠ .cell v):aj X pins' σ H s :=
 ⟨I.ok,I.os,I.bare,I.base,I.loc,I.cell,I.free,I.freeC,fun p hp=>(List.mem_append.mp hp).elim (fun z=>I.pin p (List.mem_append_left _ z)) (h p),I.hok,I.len⟩
theorem iH(hN:N.Nodup)(a:N[i]?=some x)(b:N[j]?=some x):i=j:=by
 obtain⟨h1,e1⟩:=List.getElem?_eq_some_iff.mp a
 obtain⟨h2,e2⟩:=List.getElem?_eq_some_iff.mp b
 exact(List.getElem_inj hN).mp (e1.trans e2.symm)
theorem vW{Q:Unit->Shared->Prop}(I:aj X pins σ H s)(hN:X.N.Nodup)(hi:X.N[i]?=some x)(hx:r9 X.env.scope x)(r:aT v u)
  (h:∀s',aj X pins (σ.set i (some v)) H s'->(∃a,Heap.SameBut a s.heap s'.heap/\(a=X.env.locals\/X.env.cells.lookup x=some a))->Q () s') (hf:X.fn x=true\/X.env.scope.names.lookup x=some .local:=by first|exact .inl rfl|exact .inr rfl|assumption):wpAny M A (storeName X.env x u) Q E s:=by
 obtain⟨m,hn,hl⟩:=id I.loc
 have hcls:(X.env.scope.kind == .class || (X.env.scope.kind == .module&&X.env.locals != X.env.globals))=false:=by rw[I.ok.kind];rfl
 have hiσ:i<σ.length:=by rw[I.len];exact(List.getElem?_eq_some_iff.mp hi).1
 have cne:=I.cne
 have tracked:∀{a:Addr} {h':Heap},(∃o,s.heap.get? a=some o/\H a=none)->Heap.SameBut a s.heap h'->cZ X.prog X.w H h':=fun {a h'} ha hs b ob e=>by
  obtain⟨_,_,hfree⟩:=ha
  refine(I.hok b ob e).stay (fun c w' hc q=>(hs.2 c ?_).trans q) (fun _ q=>q) fun _ _ q=>q
  rintro rfl
  rcases hc with rfl|hc
  ·rw[hfree]at e;cases e
  ·rw[hfree]at hc;cases hc
 rcases hx with hk|hk
 ·refine wpAny_storeName_local hk hn (fun h' hn' hs=>?_) hcls
  obtain⟨oL,_,_,hoL,_⟩:=id hn
  refine h _ ⟨I.ok,I.os,I.bare,⟨fun b o e n hb hx=>?_,fun b o e n hb hx=>?_,I.base.free,fun b o e hx=>?_,I.base.tups,I.base.frzs,I.base.tbls⟩,⟨_,hn',fun j y v' e1 e2 e3=>?_⟩,fun y c e=>?_,I.free,I.freeC,fun p hp=>?_,tracked ⟨oL,hoL,I.free⟩ hs,by simpa using I.len⟩ ⟨_,hs,.inl rfl⟩
  ·exact(hs.2 b (Nat.ne_of_lt (Nat.lt_of_lt_of_le (Heap.lt_size e) I.ok.above))).trans (I.base.keep b o e n hb hx)
  ·obtain⟨sl,e1⟩:=I.base.slot b o e n hb hx
   exact⟨sl,(hs.2 b (Nat.ne_of_lt (Nat.lt_of_lt_of_le (Heap.lt_size e) I.ok.above))).trans e1⟩
  ·obtain⟨o',e1⟩:=I.base.there b o e hx
   exact⟨o',(hs.2 b (Nat.ne_of_lt (Nat.lt_of_lt_of_le (Heap.lt_size e) I.ok.above))).trans e1⟩
  ·by_cases hj:j=i
   ·subst hj
    rw[hi]at e1;cases e1
    rw[List.getElem?_set_self hiσ]at e2
    cases e2
    exact⟨u,r,.inl ⟨hk,by simp⟩⟩
   ·rw[List.getElem?_set_ne (Ne.symm hj)]at e2
    obtain⟨u',r',q⟩:=hl j y v' e1 e2 e3
    refine⟨u',r',?_⟩
    rcases q with⟨k,e⟩|⟨k,c,e,z⟩
    ·refine .inl ⟨k,?_⟩
     have:y≠x:=fun e=>hj (iH hN e1 (e ▸ hi))
     simp[this,e]
    ·exact .inr ⟨k,c,e,z.sameBut hs (cne y c e)⟩
  ·obtain⟨w',z⟩:=I.cell y c e
   exact⟨w',z.sameBut hs (cne y c e)⟩
  ·obtain⟨e,n,ne,nf,d⟩:=I.pin p hp
   exact⟨(hs.2 p.1 ne).trans e,n,ne,nf,d⟩
 ·have hfn:X.fn x=true:=by
   rcases hf with z|z
   ·exact z
   ·rw[z]at hk;cases hk
  obtain⟨c,hc⟩:=I.ok.has x (.inl hk)
  obtain⟨w',z⟩:=I.cell x c hc
  refine wpAny_storeName_cell I.ok.kind hk hc z (fun h' hc' hs=>?_)
  obtain⟨oc,hoc,hocd⟩:=id z
  refine h { s with heap:=h' } ⟨I.ok,I.os,I.bare,⟨fun b o e n hb hx=>?_,fun b o e n hb hx=>?_,I.base.free,fun b o e hx=>?_,I.base.tups,I.base.frzs,I.base.tbls⟩,⟨m,hn.sameBut hs (Ne.symm (cne x c hc)),fun j y v' e1 e2 e3=>?_⟩,fun y c' e=>?_,I.free,I.freeC,fun p hp=>?_,tracked ⟨oc,hoc,I.freeC x c hc⟩ hs,by simpa using I.len⟩ ⟨c,hs,.inr hc⟩
  ·exact(hs.2 b (Nat.ne_of_lt (Nat.lt_of_lt_of_le (Heap.lt_size e) (I.ok.cab x c hfn hc)))).trans (I.base.keep b o e n hb hx)
  ·obtain⟨sl,e1⟩:=I.base.slot b o e n hb hx
   exact⟨sl,(hs.2 b (Nat.ne_of_lt (Nat.lt_of_lt_of_le (Heap.lt_size e) (I.ok.cab x c hfn hc)))).trans e1⟩
  ·obtain⟨o',e1⟩:=I.base.there b o e hx
   exact⟨o',(hs.2 b (Nat.ne_of_lt (Nat.lt_of_lt_of_le (Heap.lt_size e) (I.ok.cab x c hfn hc)))).trans e1⟩
  ·by_cases hj:j=i
   ·subst hj
    rw[hi]at e1;cases e1
    rw[List.getElem?_set_self hiσ]at e2
    cases e2
    exact⟨u,r,.inr ⟨.inl hk,c,hc,hc'⟩⟩
   ·rw[List.getElem?_set_ne (Ne.symm hj)]at e2
    obtain⟨u',r',q⟩:=hl j y v' e1 e2 e3
    refine⟨u',r',?_⟩
    rcases q with q|⟨k,c',e,z'⟩
    ·exact .inl q
    ·refine .inr ⟨k,c',e,z'.sameBut hs ?_⟩
     rintro rfl
     exact hj (iH hN e1 (I.ok.inj _ _ _ e hc ▸ hi))
  ·by_cases hcc:c'=c
   ·subst hcc;exact⟨_,hc'⟩
   ·obtain⟨w2,z2⟩:=I.cell y c' e
    exact⟨w2,z2.sameBut hs hcc⟩
  ·obtain⟨e,n,ne,nf,d⟩:=I.pin p hp
   refine⟨(hs.2 p.1 ?_).trans e,n,ne,nf,d⟩
   intro q
   rw[q,hoc]at e
   have q':oc=p.2:=Option.some.inj e
   exact d w' (by rw[<- q'];exact hocd)
theorem fV{Q:Unit->Shared->Prop}(I:aj X pins σ H s)(hN:X.N.Nodup)(hi:X.N[i]?=some x)(hx:r9 X.env.scope x)(r:aT v u)
  (h:∀s',aj X pins (σ.set i (some v)) H s'->Q () s') (hf:X.fn x=true\/X.env.scope.names.lookup x=some .local:=by first|exact .inl rfl|exact .inr rfl|assumption):wpAny M A (storeName X.env x u) Q E s :=
 vW I hN hi hx r (fun s' I' _=>h s' I') hf
theorem aj.call'(I:aj X pins σ H s)(ho:s'.os=s.os)(u:Un (jb X.stack) ch H H' s.heap s'.heap)(hok:cZ X.prog X.w H' s'.heap)(hg:AllBare s'.gens)
  (hch:∀b∈ch,(b∈X.ex\/X.s₀.heap.objs.size<=b)/\b≠X.env.locals/\(∀x c,X.env.cells.lookup x=some c->c≠b)/\∀p∈X.pn++pins,p.1≠b):aj X pins σ H' s':=by
 obtain⟨h',g',d',t',o'⟩:=s'
 have e:o'=s.os:=ho
 subst e
 exact I.call (g':=g') (t':=t') (d':=d') u hok hg hch
end
abbrev XK:=Value->Option Addr->Hp->Prop
abbrev St:=List (Option V)
abbrev VK:=V->Hp->Prop
abbrev TE:=St->Hp->VK->Prop
abbrev TT:=St->Hp->(Bool->Hp->Prop)->Prop
abbrev TA:=St->Hp->(List V->Hp->Prop)->Prop
structure jT where
 nx:St->Hp->Prop
 rt:VK
 bk:St->Hp->Prop:=fun _ _=>False
 ct:St->Hp->Prop:=fun _ _=>False
abbrev TS:=jT->St->Hp->Prop
def EP(X:Cx)(pins:List (Addr×Obj))(σ:St)(Q:VK)(u:Value)(s':Shared):Prop:=∃v H',aj X pins σ H' s'/\aT v u/\Q v H'
def TP(X:Cx)(pins:List (Addr×Obj))(σ:St)(Q:Bool->Hp->Prop)(b:Bool)(s':Shared):Prop:=∃H',aj X pins σ H' s'/\Q b H'
def AP(X:Cx)(pins:List (Addr×Obj))(σ:St)(Q:List V->Hp->Prop)(us:List Value)(s':Shared):Prop:=∃vs H',aj X pins σ H' s'/\aG vs us/\Q vs H'
def SP(X:Cx)(pins:List (Addr×Obj))(D:jT)(f:Flow)(s':Shared):Prop :=
 match f with
 | .next => ∃σ' H',aj X pins σ' H' s'/\D.nx σ' H'
 | .brk => ∃σ' H',aj X pins σ' H' s'/\D.bk σ' H'
 | .cont => ∃σ' H',aj X pins σ' H' s'/\D.ct σ' H'
 | .ret u => ∃v σ' H',aj X pins σ' H' s'/\aT v u/\D.rt v H'
def PE(X:Cx)(e:Expr)(t:TE):Prop :=
 ∀(pins:List (Addr×Obj)) (s:Shared) (σ:St) (H:Hp) (Q:VK),aj X pins σ H s->t σ H Q->wpAny (model X.prog X.w) X.A (eval e X.env) (EP X pins σ Q) X.xe s
def PT(X:Cx)(e:Expr)(t:TT):Prop :=
 ∀(pins:List (Addr×Obj)) (s:Shared) (σ:St) (H:Hp) (Q:Bool->Hp->Prop),aj X pins σ H s->t σ H Q->wpAny (model X.prog X.w) X.A (isTrue e X.env (eval e X.env)) (TP X pins σ Q) X.xe s
def PW(X:Cx)(e:Expr)(t:TT):Prop :=
 ∀(whole:Sem Value) (pins:List (Addr×Obj)) (s:Shared) (σ:St) (H:Hp) (Q:Bool->Hp->Prop),aj X pins σ H s->t σ H Q->wpAny (model X.prog X.w) X.A (isTrue e X.env whole) (TP X pins σ Q) X.xe s
theorem PW.pt{X:Cx}{t:TT}(h:PW X e t):PT X e t:=h _
def PA(X:Cx)(es:List Expr)(t:TA):Prop :=
 ∀(pos:Pos) (pins:List (Addr×Obj)) (s:Shared) (σ:St) (H:Hp) (Q:List V->Hp->Prop),aj X pins σ H s->t σ H Q->wpAny (model X.prog X.w) X.A (spliced (backTo pos (starEach es X.env))) (AP X pins σ Q) X.xe s
def PS(X:Cx)(st:Stmt)(t:TS):Prop :=
 ∀(pins:List (Addr×Obj)) (s:Shared) (σ:St) (H:Hp) (D:jT),aj X pins σ H s->t D σ H->wpAny (model X.prog X.w) X.A (exec st X.env) (SP X pins D) X.xe s
def eN(X:Cx)(st:List Stmt)(t:TS):Prop :=
 ∀(pins:List (Addr×Obj)) (s:Shared) (σ:St) (H:Hp) (D:jT),aj X pins σ H s->t D σ H->wpAny (model X.prog X.w) X.A (execs st X.env) (SP X pins D) X.xe s
theorem aJ{t:Sem α}{Q Q':α->Shared->Prop}(h:wpAny M A t Q E s)(hQ:∀a s,Q a s->Q' a s):wpAny M A t Q' E s:=wpAny_mono h hQ fun _ _ x=>x
variable{σ:St}{t te tl:TE}{X:Cx}{tc:TT}{ta:TA}{tb:TS}
section
theorem Jd{a b:Expr}{ta tb:TE}(ha:PE X a ta)(hb:PE X b tb)(I:aj X pins σ H s)(h:ta σ H fun x H1=>tb σ H1 fun y H2=>R x y H2)
  {Q:α->Shared->Prop} {f:Value->Value->Sem α}
  (hf:∀v u s2 x y H2,aj X pins σ H2 s2->aT x v->aT y u->R x y H2->wpAny (model X.prog X.w) X.A (f v u) Q X.xe s2) :
  wpAny (model X.prog X.w) X.A (eval a X.env) (fun v s₁=>wpAny (model X.prog X.w) X.A (eval b X.env) (fun u s₂=>wpAny (model X.prog X.w) X.A (f v u) Q X.xe s₂) X.xe s₁) X.xe s:=by
 refine aJ (ha pins s σ H _ I h) fun v s1 ⟨x,H1,I1,r1,q1⟩=>?_
 refine aJ (hb pins s1 σ H1 _ I1 q1) fun u s2 ⟨y,H2,I2,r2,q2⟩=>?_
 exact hf v u s2 x y H2 I2 r1 r2 q2
def kW(i:Nat):TE:=fun σ H Q => ∃v,σ[i]?=some (some v)/\Q v H
def tC(v:V):TE:=fun _ H Q=>Q v H
theorem eR(hN:X.N[i]?=some x)(hv:eM X.env.scope x)(hd:(x==("__debug__" : Str))=false:=by decide)(hcd:(x==("__classdict__" : Str))=false:=by decide):PE X (.Name x pos) (kW i):=by
 intro pins s σ H Q I h
 obtain⟨v,e,h⟩:=h
 obtain⟨m,hn,hl⟩:=I.loc
 obtain⟨u,r,l⟩:=hl i x v hN e hv
 have fin:EP X pins σ Q u s:=⟨v,H,I,r,h⟩
 rcases l with⟨hk,hm⟩|⟨hk,c,hc,hcell⟩
 ·exact wpAny_Name (wpAny_loadName_local I.ok.kind hk hn hm fin) hd
 ·rcases hk with hk|hk
  ·exact wpAny_Name (wpAny_loadName_cell I.ok.kind hk hc hcell fin) hd
  ·exact wpAny_Name (wpAny_loadName_free I.ok.kind hk hc hcell fin hcd) hd
theorem Eh{i j pos}:PE X (.Constant (.int i) j pos) (tC (.int i)):=fun _ _ _ H _ I h=>wpAny_Constant_int ⟨.int i,H,I.tok _,⟨_,rfl⟩,h⟩
theorem HF{b j pos}:PE X (.Constant (.bool b) j pos) (tC (.bl b)):=fun _ _ _ H _ I h=>Constant_bool ⟨.bl b,H,I,rfl,h⟩
theorem Ef{j pos}:PE X (.Constant .none j pos) (tC .non):=fun _ _ _ H _ I h=>Constant_none ⟨.non,H,I,rfl,h⟩
theorem Ec{x j pos}:PE X (.Constant (.str x) j pos) (tC (.str x)):=fun _ _ _ H _ I h=>Calls.Constant_str ⟨.str x,H,I.tok _,⟨_,rfl⟩,h⟩
def Gl(X:Cx)(x:Str):Prop:=X.env.kindOf x=some .globalImplicit
theorem fR(I:aj X pins σ H s)(hg:Gl X x)(hm:X.mg x=some u)(h:Q u s)
  (hd:(x==("__debug__" : Str))=false:=by decide):wpAny (model X.prog X.w) X.A (eval (.Name x pos) X.env) Q E s :=
 Calls.Name_function_global I.ok.kind hg (Calls.loadGlobal_global (by rw[I.ok.glob];exact I.mod.glob.keeps I.bk) hm h) hd
theorem dC(I:aj X pins σ H s)(hg:Gl X x)(hm:X.mg x=none)(hv:bootBuiltins x=some u)(h:Q u s)
  (hn:x ≠ "__name__" := by decide) (hd:(x==("__debug__" : Str))=false:=by decide):wpAny (model X.prog X.w) X.A (eval (.Name x pos) X.env) Q E s:=by
 obtain⟨mb,h1,h2⟩:=I.mod.blt
 exact Calls.Name_function_global I.ok.kind hg (Calls.loadGlobal_builtin (by rw[I.ok.glob];exact I.mod.glob.keeps I.bk) hm (by rw[I.ok.blt];exact h1.keeps I.bk) ((h2 x hn).trans hv) h) hd
theorem nz(hg:Gl X x)(hm:X.mg x=some u)(r:aT v u)(hd:(x==("__debug__" : Str))=false:=by decide):PE X (.Name x pos) (tC v) :=
 fun _ _ _ H _ I h=>fR I hg hm ⟨v,H,I,r,h⟩ hd
theorem BD(hg:Gl X x)(hm:X.mg x=none)(hv:bootBuiltins x=some u)(r:aT v u)(hn:x ≠ "__name__" := by decide)(hd:(x==("__debug__" : Str))=false:=by decide):PE X (.Name x pos) (tC v) :=
 fun _ _ _ H _ I h=>dC I hg hm hv ⟨v,H,I,r,h⟩ hn hd
variable{a b:Expr}{ta tb:TE}
def tB(t:TE):TT:=fun σ H Q=>t σ H fun x H1 => ∃c,x=.bl c/\Q c H1
theorem DS(h:PE X e t)(he:∀whole,isTrue e X.env whole=(do let v <- whole;standAt e.pos;holding [v] (truthy v)):=by intro _;rfl):PT X e (tB t):=by
 intro pins s σ H Q I hw
 refine isTrue_plain (aJ (h pins s σ H _ I hw) fun v s1 ⟨x,H1,I1,r1,q1⟩=>?_) (he _)
 obtain⟨d,rfl,q⟩:=q1
 cases r1
 exact wpAny_truthy_bool ⟨H1,I1,q⟩
variable{tA tB':TT}{bT:List Expr}
def JC(t u:TT):TT:=fun σ H Q=>t σ H fun c H1=>if c=true then u σ H1 Q else Q false H1
def Nr(t u:TT):TT:=fun σ H Q=>t σ H fun c H1=>if c=true then Q true H1 else u σ H1 Q
def Jv(t:TT):TT:=fun σ H Q=>t σ H fun c H1=>Q (!c) H1
theorem Bm(ha:PT X a tA):PW X (.BoolOp .And [a] pos) tA:=by
 intro wh pins s σ H Q I h
 refine isTrue_and (aJ (ha pins s σ H Q I h) fun c s1 e=>?_)
 cases c with
 | true=>exact isTrue_and_nil e
 | false=>exact e
theorem DR(ha:PT X a tA):PW X (.BoolOp .Or [a] pos) tA:=by
 intro wh pins s σ H Q I h
 refine isTrue_or (aJ (ha pins s σ H Q I h) fun c s1 e=>?_)
 cases c with
 | false=>exact isTrue_or_nil e
 | true=>exact e
theorem v6(ha:PT X a tA)(hb:PW X (.BoolOp .And (b::bT) pos) tB'):PW X (.BoolOp .And (a::b::bT) pos) (JC tA tB'):=by
 intro wh pins s σ H Q I h
 refine isTrue_and (aJ (ha pins s σ H _ I h) fun c s1 ⟨H1,I1,q1⟩=>?_)
 cases c with
 | true=>exact hb wh pins s1 σ H1 Q I1 q1
 | false=>exact⟨H1,I1,q1⟩
theorem zU(ha:PT X a tA)(hb:PW X (.BoolOp .Or (b::bT) pos) tB'):PW X (.BoolOp .Or (a::b::bT) pos) (Nr tA tB'):=by
 intro wh pins s σ H Q I h
 refine isTrue_or (aJ (ha pins s σ H _ I h) fun c s1 ⟨H1,I1,q1⟩=>?_)
 cases c with
 | true=>exact⟨H1,I1,q1⟩
 | false=>exact hb wh pins s1 σ H1 Q I1 q1
theorem DT(ha:PT X a tA):PT X (.UnaryOp .Not a pos) (Jv tA):=by
 intro pins s σ H Q I h
 exact isTrue_not (ha pins s σ H (fun c H1=>Q (!c) H1) I h)
def Hr(ta tb:TE):TE:=fun σ H Q=>ta σ H fun x H1 => ∃c,x=.bl c/\if c=true then tb σ H1 Q else Q (.bl false) H1
def Ju(ta tb:TE):TE:=fun σ H Q=>ta σ H fun x H1 => ∃c,x=.bl c/\if c=true then Q (.bl true) H1 else tb σ H1 Q
def Hm(ta:TE):TE:=fun σ H Q=>ta σ H fun x H1 => ∃c,x=.bl c/\Q (.bl (!c)) H1
theorem Ed{op}(h:PE X a t):PE X (.BoolOp op [a] pos) t:=fun pins s σ H Q I hw=>BoolOp_one (h pins s σ H Q I hw)
theorem we(ha:PE X a ta)(hb:PE X (.BoolOp .And (b::bT) pos) tb):PE X (.BoolOp .And (a::b::bT) pos) (Hr ta tb):=by
 intro pins s σ H Q I h
 refine BoolOp_and (aJ (ha pins s σ H _ I h) fun v s1 ⟨x,H1,I1,r1,q1⟩=>?_)
 obtain⟨c,rfl,q1⟩:=q1
 cases r1
 refine wpAny_truthy_bool ?_
 cases c with
 | true=>exact hb pins s1 σ H1 Q I1 q1
 | false=>exact⟨.bl false,H1,I1,rfl,q1⟩
theorem zW(ha:PE X a ta)(hb:PE X (.BoolOp .Or (b::bT) pos) tb):PE X (.BoolOp .Or (a::b::bT) pos) (Ju ta tb):=by
 intro pins s σ H Q I h
 refine BoolOp_or (aJ (ha pins s σ H _ I h) fun v s1 ⟨x,H1,I1,r1,q1⟩=>?_)
 obtain⟨c,rfl,q1⟩:=q1
 cases r1
 refine wpAny_truthy_bool ?_
 cases c with
 | false=>exact hb pins s1 σ H1 Q I1 q1
 | true=>exact⟨.bl true,H1,I1,rfl,q1⟩
theorem Ee(ha:PE X a ta):PE X (.UnaryOp .Not a pos) (Hm ta):=by
 intro pins s σ H Q I h
 refine UnaryOp_ (aJ (ha pins s σ H _ I h) fun v s1 ⟨x,H1,I1,r1,q1⟩=>?_)
 obtain⟨c,rfl,q1⟩:=q1
 cases r1
 exact not_of (wpAny_truthy_bool ⟨.bl (!c),H1,I1,rfl,q1⟩)
end
def bL(K:W.Frag)(H:Hp)(a:Addr)(xs:List V):Prop :=
 Rd H a (.lst xs) \/
  ∃(o:Obj) (its:Array Value) (n:Nat),K.lookup a=some o/\o.cls=.type "list" /\ o.dict=none/\o.data=.seq its n/\its.size<=sizeLine/\aG xs its.toList
def cw(K:W.Frag)(H:Hp)(a:Addr)(xs:List V):Prop :=
 Rd H a (.tup xs) \/
  ∃(o:Obj) (its:Array Value) (n:Nat),K.lookup a=some o/\o.cls=.type "tuple" /\ o.data=.seq its n/\its.size<=sizeLine/\aG xs its.toList
def Nh:Value->Option V
 | .none=>some .non
 | .bool b=>some (.bl b)
 | .int i _=>some (.int i)
 | .str x _=>some (.str x)
 | .bytes b _=>some (.byt b)
 | .float b _=>some (.flt b)
 | .ref a=>some (.ref a)
 | .type n=>some (.ty n)
 | _=>none
theorem aT.abs{x:V}(r:aT x u):Nh u=some x:=by
 cases x with
 | non=>cases r;rfl
 | bl _=>cases r;rfl
 | int _=>obtain⟨t,rfl⟩:=r;rfl
 | str _=>obtain⟨t,rfl⟩:=r;rfl
 | byt _=>obtain⟨t,rfl⟩:=r;rfl
 | flt _=>obtain⟨t,rfl⟩:=r;rfl
 | ref _=>cases r;rfl
 | ty _=>cases r;rfl
theorem aT.inj{x:V}(r:aT x u)(q:aT y u):x=y:=Option.some.inj (r.abs.symm.trans q.abs)
theorem aG.inj:∀{xs ys:List V} {us:List Value},aG xs us->aG ys us->xs=ys
 | _,_,_,.nil,.nil=>rfl
 | _,_,_,.cons r t,.cons r' t'=>by rw[r.inj r',aG.inj t t']
section
variable{xs ys:List V}
theorem bL.of(h:H a=some (.lst xs)):bL K H a xs:=.inl (.inl h)
theorem cw.of(h:H a=some (.tup xs)):cw K H a xs:=.inl (.inl h)
theorem aj.list(I:aj X pins σ H s)(h:bL X.K H a xs):∃its:List Value,aG xs its/\PlainL s.heap a its.toArray/\xs.length<=sizeLine:=by
 rcases h with h|⟨o,its,n,hk,hc,hd,hs,hz,r⟩
 ·obtain⟨z,its,n,r,e⟩:=h.ok I.hok
  exact⟨its,r,⟨_,n,e,rfl,rfl,rfl⟩,z⟩
 ·refine⟨its.toList,r,⟨o,n,I.kIn a o hk,hc,hd,by simpa using hs⟩,?_⟩
  have e:=r.length
  simp only[Array.length_toList]at e
  omega
theorem aj.tuple(I:aj X pins σ H s)(h:cw X.K H a xs):∃its:List Value,aG xs its/\IsTup s.heap a its.toArray/\xs.length<=sizeLine:=by
 rcases h with h|⟨o,its,n,hk,hc,hs,hz,r⟩
 ·obtain⟨z,its,r,p⟩:=h.ok I.hok
  exact⟨its,r,p,z⟩
 ·refine⟨its.toList,r,⟨o,I.kIn a o hk,hc,n,by simpa using hs⟩,?_⟩
  have e:=r.length
  simp only[Array.length_toList]at e
  omega
theorem aj.list_inj(I:aj X pins σ H s)(h:bL X.K H a xs)(h':bL X.K H a ys):xs=ys:=by
 obtain⟨its,r,⟨o,n,e,_,_,d⟩,_⟩:=I.list h
 obtain⟨its',r',⟨o',n',e',_,_,d'⟩,_⟩:=I.list h'
 rw[e]at e';cases e'
 rw[d]at d'
 injection d' with d1 _
 have:its=its':=by simpa using congrArg Array.toList d1
 subst this
 exact r.inj r'
theorem aj.tuple_inj(I:aj X pins σ H s)(h:cw X.K H a xs)(h':cw X.K H a ys):xs=ys:=by
 obtain⟨its,r,⟨o,e,_,n,d⟩,_⟩:=I.tuple h
 obtain⟨its',r',⟨o',e',_,n',d'⟩,_⟩:=I.tuple h'
 rw[e]at e';cases e'
 rw[d]at d'
 injection d' with d1 _
 have:its=its':=by simpa using congrArg Array.toList d1
 subst this
 exact r.inj r'
end
abbrev Cx.wish(X:Cx)(E:Value->Shared->Prop):Cx:={ X with xe:=E }
abbrev Cx.nox(X:Cx):Cx:=X.wish fun _ _=>False
theorem Cx.Ok.wish(ok:X.Ok)(E:Value->Shared->Prop):(X.wish E).Ok :=
 ⟨ok.mod,ok.kind,ok.glob,ok.blt,ok.above,ok.inj,ok.has,ok.cab,ok.hd,ok.frames,ok.stk,ok.exf,ok.bs,ok.bsz,ok.noex,ok.exfs,ok.funs,ok.frf⟩
theorem Cx.Ok.unwish(ok:(X.wish E).Ok):X.Ok :=
 ⟨ok.mod,ok.kind,ok.glob,ok.blt,ok.above,ok.inj,ok.has,ok.cab,ok.hd,ok.frames,ok.stk,ok.exf,ok.bs,ok.bsz,ok.noex,ok.exfs,ok.funs,ok.frf⟩
section
theorem aj.wish(I:aj X pins σ H s)(E:Value->Shared->Prop):aj (X.wish E) pins σ H s:=⟨I.ok.wish E,I.os,I.bare,I.base,I.loc,I.cell,I.free,I.freeC,I.pin,I.hok,I.len⟩
theorem aj.unwish(I:aj (X.wish E) pins σ H s):aj X pins σ H s:=⟨I.ok.unwish,I.os,I.bare,I.base,I.loc,I.cell,I.free,I.freeC,I.pin,I.hok,I.len⟩
theorem SP.unwish{D:jT}{f:Flow}(h:SP (X.wish E) pins D f s'):SP X pins D f s':=by
 cases f with
 | next=>obtain⟨σ',H',I,q⟩:=h;exact⟨σ',H',I.unwish,q⟩
 | brk=>obtain⟨σ',H',I,q⟩:=h;exact⟨σ',H',I.unwish,q⟩
 | cont=>obtain⟨σ',H',I,q⟩:=h;exact⟨σ',H',I.unwish,q⟩
 | ret u=>obtain⟨v,σ',H',I,r,q⟩:=h;exact⟨v,σ',H',I.unwish,r,q⟩
theorem PE.nox(h:PE X.nox e t):PE X e t:=fun pins s σ H Q I hw =>
 wpAny_mono (h pins s σ H Q (I.wish _) hw) (fun _ _ ⟨v,H',I',r,q⟩=>⟨v,H',I'.unwish,r,q⟩) fun _ _ z=>False.elim z
theorem PT.nox{t:TT}(h:PT X.nox e t):PT X e t:=fun pins s σ H Q I hw =>
 wpAny_mono (h pins s σ H Q (I.wish _) hw) (fun _ _ ⟨H',I',q⟩=>⟨H',I'.unwish,q⟩) fun _ _ z=>False.elim z
theorem eN.nox{st:List Stmt}{t:TS}(h:eN X.nox st t):eN X st t:=fun pins s σ H D I hw =>
 wpAny_mono (h pins s σ H D (I.wish _) hw) (fun _ _ q=>q.unwish) fun _ _ z=>False.elim z
end
section
variable{st:Stmt}{bT:List Stmt}{t u:TS}
def zO:TS:=fun D σ H=>D.nx σ H
def Jr(t u:TS):TS:=fun D σ H=>t { D with nx:=u D } σ H
theorem nv:eN X [] zO:=fun _ _ σ H _ I h=>wpAny_execs_nil ⟨σ,H,I,h⟩
theorem fb(h1:PS X st t)(h2:eN X bT u):eN X (st::bT) (Jr t u):=by
 intro pins s σ H D I h
 refine wpAny_execs_cons (aJ (h1 pins s σ H { D with nx:=u D } I h) fun f s1 q=>?_)
 cases f with
 | next =>
  obtain⟨σ',H',I',q⟩:=q
  exact h2 pins s1 σ' H' D I' q
 | ret v=>exact q
 | brk=>exact q
 | cont=>exact q
theorem nu(h1:PS X st t):eN X [st] t:=by
 intro pins s σ H D I h
 refine wpAny_execs_cons (aJ (h1 pins s σ H D I h) fun f s1 q=>?_)
 cases f with
 | next=>exact wpAny_execs_nil q
 | ret v=>exact q
 | brk=>exact q
 | cont=>exact q
def Dl:TS:=fun D σ H=>D.bk σ H
def Ho:TS:=fun D σ H=>D.ct σ H
theorem Bs:PS X (.Pass pos) zO:=fun _ _ σ H _ I h=>wpAny_Pass ⟨σ,H,I,h⟩
theorem x9:PS X (.Break pos) Dl:=fun _ _ σ H _ I h=>wpAny_Break ⟨σ,H,I,h⟩
theorem sh:PS X (.Continue pos) Ho:=fun _ _ σ H _ I h=>wpAny_Continue ⟨σ,H,I,h⟩
theorem aj.quiet(I:aj X pins σ H s):interactive X.env=false:=by simp[interactive,I.ok.kind]
def Hn(te:TE):TS:=fun D σ H=>te σ H fun _ H1=>D.nx σ H1
theorem fQ(he:PE X e te)(hs:swapsWith e none pos.line X.env=pure false:=by rfl):PS X (.Expr e pos) (Hn te):=by
 intro pins s σ H D I h
 exact wpAny_Expr_any (aJ (he pins s σ H _ I h) fun v s1 ⟨x,H1,I1,r1,q1⟩=>⟨σ,H1,I1,q1⟩) I.quiet hs
def Js(te:TE):TS:=fun D σ H=>te σ H D.rt
theorem v7(he:PE X e te):PS X (.Return (some e) pos) (Js te):=by
 intro pins s σ H D I h
 exact wpAny_Return_some (aJ (he pins s σ H _ I h) fun v s1 ⟨x,H1,I1,r1,q1⟩=>⟨x,σ,H1,I1,r1,q1⟩)
def Hk:TS:=fun D _ H=>D.rt .non H
theorem Br:PS X (.Return none pos) Hk:=fun _ _ σ H _ I h=>wpAny_Return_none ⟨.non,σ,H,I,rfl,h⟩
def Jx(c:TT)(t u:TS):TS:=fun D σ H=>c σ H fun b H1=>if b=true then t D σ H1 else u D σ H1
theorem uF{a b:List Stmt}(hc:PT X c tc)(ha:eN X a t)(hb:eN X b u):PS X (.If c a b pos) (Jx tc t u):=by
 intro pins s σ H D I h
 refine wpAny_If (aJ (hc pins s σ H _ I h) fun d s1 ⟨H1,I1,q1⟩=>?_)
 cases d with
 | true=>exact ha pins s1 σ H1 D I1 q1
 | false=>exact hb pins s1 σ H1 D I1 q1
def Dk:TS:=fun _ _ _=>False
theorem gx{sts:List Stmt}:eN X sts Dk:=fun _ _ _ _ _ _ h=>h.elim
end
abbrev TG:=V->St->Hp->(St->Hp->Prop)->Prop
abbrev mN:=List V->St->Hp->(St->Hp->Prop)->Prop
def PG(X:Cx)(target:Expr)(t:TG):Prop :=
 ∀(pins:List (Addr×Obj)) (s:Shared) (σ:St) (H:Hp) (v:V) (u:Value) (Q:St->Hp->Prop),aj X pins σ H s->aT v u->t v σ H Q ->
  wpAny (model X.prog X.w) X.A (assign target X.env u) (fun _ s' => ∃σ' H',aj X pins σ' H' s'/\Q σ' H') X.xe s
def ug(X:Cx)(ts:List Expr)(t:mN):Prop :=
 ∀(pins:List (Addr×Obj)) (s:Shared) (σ:St) (H:Hp) (vs:List V) (us:List Value) (Q:St->Hp->Prop),aj X pins σ H s->aG vs us->t vs σ H Q ->
  wpAny (model X.prog X.w) X.A (assignInOrder ((assignEach ts X.env).map (·.2)) us) (fun _ s' => ∃σ' H',aj X pins σ' H' s'/\Q σ' H') X.xe s
abbrev vB:=V->V->V->Hp->(Hp->Prop)->Prop
def zw(X:Cx)(t:vB):Prop :=
 ∀(pins:List (Addr×Obj)) (s:Shared) (σ:St) (H:Hp) (o i v:V) (ov iv u:Value) (Q:Hp->Prop),aj X pins σ H s->aT o ov->aT i iv->aT v u->t o i v H Q ->
  wpAny (model X.prog X.w) X.A (setItem ov iv u) (fun _ s' => ∃H',aj X pins σ H' s'/\Q H') X.xe s
abbrev Ha:=V->V->Hp->VK->Prop
def Jg(X:Cx)(op:Operator)(t:Ha):Prop :=
 ∀(pins:List (Addr×Obj)) (s:Shared) (σ:St) (H:Hp) (x y:V) (v u:Value) (Q:VK),aj X pins σ H s->aT x v->aT y u->t x y H Q ->
  wpAny (model X.prog X.w) X.A (inplaceOp op v u) (EP X pins σ Q) X.xe s
section
def Aq(i:Nat):TG:=fun v σ H Q=>Q (σ.set i (some v)) H
theorem fc(hN:X.N.Nodup)(hi:X.N[i]?=some x)(hx:r9 X.env.scope x)(hf:X.fn x=true\/X.env.scope.names.lookup x=some .local:=by first|exact .inl rfl|exact .inr rfl|assumption):PG X (.Name x pos) (Aq i):=by
 intro pins s σ H v u Q I r h
 exact wpAny_assign_Name (fV I hN hi hx r (fun s' I'=>⟨_,H,I',h⟩) hf)
def L7:mN:=fun vs σ H Q=>vs=[]/\Q σ H
def Iw(t:TG)(u:mN):mN:=fun vs σ H Q => ∃v r,vs=v::r/\t v σ H fun σ' H'=>u r σ' H' Q
theorem ny:ug X [] L7:=by
 intro pins s σ H vs us Q I r h
 obtain⟨e,h⟩:=h
 subst e
 cases r
 exact assignInOrder_nil ⟨σ,H,I,h⟩
theorem fZ{t:TG}{u:mN}(h1:PG X e t)(h2:ug X es u)
  (hs:(assignEach (e::es) X.env).map (·.2)=assign e X.env::(assignEach es X.env).map (·.2):=by rfl):ug X (e::es) (Iw t u):=by
 intro pins s σ H vs us Q I r h
 obtain⟨v,vr,e1,h⟩:=h
 subst e1
 cases r with
 | cons r rr =>
  rw[hs]
  refine assignInOrder_cons (aJ (h1 pins s σ H _ _ _ I r h) fun _ s1 ⟨σ1,H1,I1,q1⟩=>?_)
  exact h2 pins s1 σ1 H1 _ _ Q I1 rr q1
def L5(K:W.Frag)(n:Nat)(t:mN):TG:=fun v σ H Q => ∃a xs,v=.ref a/\cw K H a xs/\xs.length=n/\t xs σ H Q
theorem lL{t:mN}(hc:X.calm=true)(h:ug X es t)
  (hn:(assignEach es X.env).length=n:=by rfl) (hst:(assignEach es X.env).findIdx? (·.1)=none:=by rfl):PG X (.Tuple es k pos) (L5 X.K n t):=by
 intro pins s σ H v u Q I r hw
 obtain⟨a,xs,e1,hq,hl,hw⟩:=hw
 subst e1
 cases r
 obtain⟨its,rv,ht,hz⟩:=I.tuple hq
 refine assign_Tuple_tuple (I.ok.hd hc) ht (by simp[hn,<- hl,rv.length]) hst fun h' hx=>?_
 have I1:aj X pins σ H { s with heap:=h' }:=I.kept (t':=s.toks) fun b o e=>hx b o (Nat.ne_of_lt (Heap.lt_size e)) e
 exact h pins _ σ H xs _ Q I1 (by simpa using rv) hw
def L6(to ti:TE)(t:vB):TG:=fun v σ H Q=>to σ H fun o H1=>ti σ H1 fun i H2=>t o i v H2 fun H3=>Q σ H3
theorem qr{o i:Expr}{to ti:TE}{t:vB}(ho:PE X o to)(hi:PE X i ti)(hs:zw X t)
  (ha:∀v,assign (.Subscript o i pos) X.env v=(do
   let ov <- holding [v] (eval o X.env)
   let iv <- holding [v,ov] (eval i X.env)
   standAt pos
   holding [v,ov,iv] (setItem ov iv v)
   release [v,ov,iv] []):=by intro _;rfl):PG X (.Subscript o i pos) (L6 to ti t):=by
 intro pins s σ H v u Q I r h
 rw[ha]
 refine wpAny_bind (wpAny_holding (aJ (ho pins s σ H _ I h) fun ov s1 ⟨x,H1,I1,r1,q1⟩=>?_))
 refine wpAny_bind (wpAny_holding (aJ (hi pins s1 σ H1 _ I1 q1) fun iv s2 ⟨y,H2,I2,r2,q2⟩=>?_))
 refine wpAny_bind (wpAny_standAt (wpAny_bind (wpAny_holding (aJ (hs pins s2 σ H2 x y v ov iv u _ I2 r1 r2 r q2) fun _ s3 ⟨H3,I3,q3⟩=>?_))))
 exact wpAny_release ⟨σ,H3,I3,q3⟩
def Dm(te:TE)(g:TG):TS:=fun D σ H=>te σ H fun x H1=>g x σ H1 D.nx
theorem fY{g:TG}(he:PE X e te)(hg:PG X tg g)(hs:swapsWithSole [tg] e pos.line X.env=pure false:=by rfl)(hw:swappedStores [tg] e X.env=pure none:=by rfl)
  (h1:(assignEach [tg] X.env).map (·.2)=[assign tg X.env]:=by rfl):PS X (.Assign [tg] e pos) (Dm te g):=by
 intro pins s σ H D I h
 refine wpAny_Assign_stores (aJ (he pins s σ H _ I h) fun v s1 ⟨x,H1,I1,r1,q1⟩=>?_) hs hw
 rw[h1]
 exact aJ (hg pins s1 σ H1 x v _ I1 r1 q1) fun _ s2 q=>q
theorem DU(hN:X.N.Nodup)(hi:X.N[i]?=some x)(hx:r9 X.env.scope x)(he:PE X e te)(hs:swapsWith e (some (.Name x pos')) pos.line X.env=pure false:=by rfl)(hf:X.fn x=true\/X.env.scope.names.lookup x=some .local:=by first|exact .inl rfl|exact .inr rfl|assumption) :
  PS X (.Assign [.Name x pos'] e pos) (Dm te (Aq i)):=by
 intro pins s σ H D I h
 refine wpAny_Assign_Name (aJ (he pins s σ H _ I h) fun v s1 ⟨y,H1,I1,r1,q1⟩=>?_) hs
 exact fV I1 hN hi hx r1 (fun s2 I2=>⟨_,H1,I2,q1⟩) hf
def Jt(i j:Nat)(ta:TA):TS:=fun D σ H=>ta σ H fun vs H1 => ∃v w,vs=[v,w]/\D.nx ((σ.set i (some v)).set j (some w)) H1
theorem DV{y:Str}{a b:Expr}{px py pt:Pos}{kt k2 pt2}(hc:X.calm=true)(hN:X.N.Nodup)(hi:X.N[i]?=some x)(hj:X.N[j]?=some y)(hij:i≠j)
  (hx:X.env.scope.names.lookup x=some .local) (hy:X.env.scope.names.lookup y=some .local) (ha:PA X [a,b] ta)
  (hw:swappedStores [.Tuple [.Name x px,.Name y py] kt pt] (.Tuple [a,b] k2 pt2) X.env=pure (some [x,y]))
  (hs:swapsWithSole [.Tuple [.Name x px,.Name y py] kt pt] (.Tuple [a,b] k2 pt2) pos.line X.env=pure false:=by rfl) :
  PS X (.Assign [.Tuple [.Name x px,.Name y py] kt pt] (.Tuple [a,b] k2 pt2) pos) (Jt i j ta):=by
 intro pins s σ H D I h
 rw[exec_Assign_arm]
 refine wpAny_bind (wpAny_standAt ?_)
 rw[hs]
 refine wpAny_bind (wpAny_pure ?_)
 rw[if_neg (by decide)]
 refine wpAny_bind (Tuple_ (aJ (ha _ pins s σ H _ I h) fun us s1 ⟨vs,H1,I1,r1,q1⟩=>?_))
 obtain⟨v,w,e1,q1⟩:=q1
 subst e1
 obtain⟨u1,u2,rfl,rv,rw'⟩:∃u1 u2,us=[u1,u2]/\aT v u1/\aT w u2:=by
  cases r1 with
  | cons p q =>
   cases q with
   | cons p' q' =>
    cases q'
    exact⟨_,_,rfl,p,p'⟩
 refine wpAny_newObj_type ?_ (by show 2<=sizeLine;decide)
 have I2:aj X pins σ H1 { s1 with heap:=s1.heap.push { cls:=.type "tuple", data:=.seq [u1,u2].toArray } }:=I1.kept (t':=s1.toks) fun b o e=>Heap.get?_push_of_some _ e
 rw[hw]
 refine wpAny_bind (wpAny_pure ?_)
 show wpAny (model X.prog X.w) X.A (do rule "assign.swapped-stores"; let items <- unpackItems (.ref s1.heap.objs.size) 2 none;assignInOrder [fun v=>bindName X.env y v,fun v=>bindName X.env x v] items.reverse;pure Flow.next) _ _ _
 refine wpAny_bind (wpAny_rule (wpAny_bind (unpackItems_tuple (items:=#[u1,u2]) (I.ok.hd hc) (IsTup.new s1.heap _) fun h' hx'=>?_)))
 have I3:=I2.kept (h':=h') (t':=s1.toks) fun b o e=>hx' b o (Nat.ne_of_lt (Heap.lt_size e)) e
 show wpAny _ _ (assignInOrder [fun v=>bindName X.env y v,fun v=>bindName X.env x v] [u2,u1] >>= fun _=>pure Flow.next) _ _ _
 refine wpAny_bind (assignInOrder_cons (wpAny_bindName (fV I3 hN hj (.inl hy) rw' (fun s2 I4=>?_) (.inr hy))))
 refine assignInOrder_cons (wpAny_bindName (fV I4 hN hi (.inl hx) rv (fun s3 I5=>assignInOrder_nil (wpAny_pure ?_)) (.inr hx)))
 rw[List.set_comm _ _ (Ne.symm hij)]at I5
 exact⟨_,H1,I5,q1⟩
def JB(i:Nat)(te:TE)(ti:Ha):TS:=fun D σ H => ∃x,σ[i]?=some (some x)/\te σ H fun y H1=>ti x y H1 fun z H2=>D.nx (σ.set i (some z)) H2
theorem DW{op:Operator}{ti:Ha}(hN:X.N.Nodup)(hi:X.N[i]?=some x)(hx:r9 X.env.scope x)(he:PE X e te)(ho:Jg X op ti)(hf:X.fn x=true\/X.env.scope.names.lookup x=some .local:=by first|exact .inl rfl|exact .inr rfl|assumption) :
  PS X (.AugAssign (.Name x pos') op e pos) (JB i te ti):=by
 intro pins s σ H D I h
 obtain⟨v,e1,h⟩:=h
 obtain⟨m,hn,hl⟩:=I.loc
 have vis:eM X.env.scope x:=by rcases hx with k|k;exact .inl k;exact .inr (.inl k)
 obtain⟨u,r,l⟩:=hl i x v hi e1 vis
 refine wpAny_AugAssign_Name ?_
 have go:wpAny (model X.prog X.w) X.A (eval e X.env) (fun w s₂=>wpAny (model X.prog X.w) X.A (inplaceOp op u w) (fun r s₃=>wpAny (model X.prog X.w) X.A (storeName X.env x r) (fun _=>SP X pins D .next) X.xe s₃) X.xe s₂) X.xe s:=by
  refine aJ (he pins s σ H _ I h) fun w s1 ⟨y,H1,I1,r1,q1⟩=>?_
  refine aJ (ho pins s1 σ H1 v y u w _ I1 r r1 q1) fun z s2 ⟨zv,H2,I2,r2,q2⟩=>?_
  exact fV I2 hN hi hx r2 (fun s3 I3=>⟨_,H2,I3,q2⟩) hf
 rcases l with⟨hk,hm⟩|⟨hk,c,hc,hcell⟩
 ·exact wpAny_loadName_local I.ok.kind hk hn hm go
 ·rcases hk with hk|hk
  ·exact wpAny_loadName_cell I.ok.kind hk hc hcell go
  ·rcases hx with k|k
   ·have:X.env.scope.names.lookup x=some .free:=hk
    rw[k]at this;cases this
   ·have:X.env.scope.names.lookup x=some .free:=hk
    rw[k]at this;cases this
end
section
def Dj(c:TT)(tb:TS):TS:=fun D σ H => ∃W:Nat->St->Hp->Prop,(∃m,W m σ H)/\∀m σ H,W m σ H ->
 c σ H fun b H1=>if b=true then ∃N:St->Hp->Prop,(∀σ' H',N σ' H'->∃m',m' < m/\W m' σ' H')/\tb { D with nx:=N,ct:=N,bk:=D.nx } σ H1 else D.nx σ H1
theorem qm(hp:PassesOwn (model X.prog X.w) X.A X.env X.xe)(hc:PT X c tc)(hb:eN X body tb):PS X (.While c body [] pos) (Dj tc tb):=by
 intro pins s σ H D I h
 obtain⟨W,⟨m0,w0⟩,turn⟩:=h
 refine wpAny_While (codeAny_whileLoop (fun n s' => ∃σ' H',aj X pins σ' H' s'/\W n σ' H') ?_ m0 ⟨σ,H,I,w0⟩)
 rintro n s1 ⟨σ1,H1,I1,w1⟩
 refine wpAny_passesOwn hp (aJ (hc pins s1 σ1 H1 _ I1 (turn n σ1 H1 w1)) fun b s2 ⟨H2,I2,q2⟩=>?_)
 cases b with
 | true =>
  obtain⟨N,hN,q2⟩:=q2
  rw[if_pos rfl]
  refine wpAny_passesOwn hp (aJ (hb pins s2 σ1 H2 _ I2 q2) fun f s3 q3=>?_)
  cases f with
  | next =>
   obtain⟨σ3,H3,I3,n3⟩:=q3
   obtain⟨m',hm,w3⟩:=hN σ3 H3 n3
   exact⟨m',hm,σ3,H3,I3,w3⟩
  | cont =>
   obtain⟨σ3,H3,I3,n3⟩:=q3
   obtain⟨m',hm,w3⟩:=hN σ3 H3 n3
   exact⟨m',hm,σ3,H3,I3,w3⟩
  | brk=>exact q3
  | ret v=>exact q3
 | false =>
  rw[if_neg Bool.false_ne_true]
  exact wpAny_execs_nil ⟨σ1,H2,I2,q2⟩
end
structure It where
 go:Nat->Hp->Prop
 yld:Nat->Hp->V->Hp->Prop
 stop:Nat->Hp->Prop
def gt(X:Cx)(pins:List (Addr×Obj))(H:Hp)(b:Addr):Prop :=
 H b=none/\b≠X.env.locals/\b∉X.fs/\(b∈X.ex\/X.s₀.heap.objs.size<=b)/\(∀x c,X.env.cells.lookup x=some c->c≠b)/\∀p∈X.pn++pins,p.1≠b
theorem aj.fpOk{H':Hp}(I:aj X pins σ H s)(hb:s.heap.objs.size<=b)(hn:H' b=none):gt X pins H' b:=by
 refine⟨hn,Nat.ne_of_gt (Nat.lt_of_lt_of_le I.lt hb),I.nofs hb,.inr (Nat.le_trans I.sz hb),fun x c e z=>?_,fun p hp z=>?_⟩
 ·obtain⟨v,q⟩:=I.cell x c e
  exact absurd (Nat.lt_of_lt_of_le q.lt (by rw[z];exact hb)) (Nat.lt_irrefl _)
 ·exact absurd (Nat.lt_of_lt_of_le (Heap.lt_size (I.pin p hp).1) (by rw[z];exact hb)) (Nat.lt_irrefl _)
structure Turn(P:Program)(w:World)(K:W.Frag)(tg:Expr)(J:It)(fp:List Addr)(it:Addr)(tn:Nat->Heap->Prop):Prop where
 mem:it∈fp
 obj:∀i h,tn i h->∀b∈fp,∃o,h.get? b=some o/\∀v,o.data ≠ .cell v
 keep:∀i h h',tn i h->(∀b∈fp,∀o,h.get? b=some o->h'.get? b=some o)->tn i h'
 item:∀(X:Cx),X.prog=P->X.w=w->X.K=K->X.calm=true->∀(i:Nat) (pins:List (Addr×Obj)) (s:Shared) (σ:St) (H:Hp) (E:Value->Shared->Prop),aj X pins σ H s->(∀b∈fp,gt X pins H b)->tn i s.heap->J.go i H ->
  wpAny (model P w) X.A (pyNext (.ref it)) (fun r s1 => ∃u,r=some u /\
   wpAny (model P w) X.A (letOwnedTupleGo tg (.ref it) u) (fun _ s2 => ∃x H',aj X pins σ H' s2/\aT x u/\J.yld i H x H'/\tn (i+1) s2.heap/\∀b∈fp,H' b=none) E s1) E s
 done:∀(X:Cx),X.prog=P->X.w=w->X.K=K->X.calm=true->∀(i:Nat) (pins:List (Addr×Obj)) (s:Shared) (σ:St) (H:Hp) (E:Value->Shared->Prop),aj X pins σ H s->(∀b∈fp,gt X pins H b)->tn i s.heap->J.stop i H ->
  wpAny (model P w) X.A (pyNext (.ref it)) (fun r s1=>r=none/\aj X pins σ H s1) E s
 self:∀(A:Around) (i:Nat) (s:Shared) (Q:Value->Shared->Prop) (E:Value->Shared->Prop),tn i s.heap->Q (.ref it) s->wpAny (model P w) A (pyIter (.ref it)) Q E s
abbrev TI:=St->Hp->(It->Hp->Prop)->Prop
def Hb(X:Cx)(pins:List (Addr×Obj))(σ:St)(tg:Expr)(R:It->Hp->Prop)(itv:Value)(s2:Shared):Prop :=
 ∃(it:Addr) (fp:List Addr) (tn:Nat->Heap->Prop) (J:It) (H':Hp),itv=.ref it/\aj X pins σ H' s2/\Turn X.prog X.w X.K tg J fp it tn/\tn 0 s2.heap/\(∀b∈fp,gt X pins H' b)/\R J H'
def PI(X:Cx)(tg iter:Expr)(wi:TI):Prop :=
 ∀(pins:List (Addr×Obj)) (s:Shared) (σ:St) (H:Hp) (R:It->Hp->Prop),aj X pins σ H s->wi σ H R ->
  wpAny (model X.prog X.w) X.A (eval iter X.env) (fun v s1=>wpAny (model X.prog X.w) X.A (pyIter v) (Hb X pins σ tg R) X.xe s1) X.xe s
theorem pA{n:String}{vs:Array Value}{Q:Unit->Shared->Prop}(ho:s.heap.get? it=some o)(hc:o.cls=.type n)(hd:o.data=.fields vs)
    (hn:["enumerate", "zip", "dict_itemiterator", "dict_reverseitemiterator", "odict_iterator", "itertools.zip_longest", "itertools.pairwise"].contains n=false) (hQ:Q () s):wpAny M A (letOwnedTupleGo tg (.ref it) u) Q E s:=by
  unfold letOwnedTupleGo
  cases tg<;>first
    | exact wpAny_pure hQ
    | (cases u<;>first
        | exact wpAny_pure hQ
        | (refine wpAny_bind (wpAny_load ho ?_)
           rw[hc,hd]
           show wpAny M A (if (["enumerate", "zip", "dict_itemiterator", "dict_reverseitemiterator", "odict_iterator", "itertools.zip_longest", "itertools.pairwise"].contains n&&vs[0]? == some (rawInt _))=true then _ else _) Q E s
           rw[if_neg (by intro h;rw[hn,Bool.false_and]at h;cases h)]
           exact wpAny_pure hQ))
def Jj(K:W.Frag)(a:Addr):It :=
 ⟨fun i H => ∃xs x,bL K H a xs/\xs[i]?=some x,fun i H x H'=>H'=H/\∀xs,bL K H a xs->xs[i]?=some x,fun i H => ∃xs,bL K H a xs/\xs.length<=i⟩
def Ji(K:W.Frag)(a:Addr):It :=
 ⟨fun i H => ∃xs x,cw K H a xs/\xs[i]?=some x,fun i H x H'=>H'=H/\∀xs,cw K H a xs->xs[i]?=some x,fun i H => ∃xs,cw K H a xs/\xs.length<=i⟩
def AG(lo:Int)(n:Nat):It:=⟨fun i _=>i<n,fun i H x H'=>H'=H/\x=.int (lo+i),fun i _=>n<=i⟩
theorem vM(a it:Addr):Turn P w K tg (Jj K a) [it] it (fun i h=>h.IsListIter it a i) where
 mem:=by simp
 obj:=fun i h st b hb=>by
  have e:b=it:=by simpa using hb
  subst e
  obtain⟨o,e,c,d⟩:=st
  exact⟨o,e,fun v z=>by rw[d]at z;cases z⟩
 keep:=fun i h h' st k=>st.at fun o e=>k it (by simp) o e
 item:=by
  intro X hP hw hK hc i pins s σ H E I hf st hg
  subst hP hw hK
  obtain⟨xs,x,hq,hx⟩:=hg
  obtain⟨its,rv,p,hz⟩:=I.list hq
  obtain⟨u,hu,ru⟩:=rv.get hx
  obtain⟨f0,f1,f2,f3,f4,f5⟩:=hf it (by simp)
  refine wpAny_pyNext_list_item st p.isList (x:=u) (by simpa using hu) fun h' st' sb=>?_
  have I1:aj X pins σ H { s with heap:=h' }:=I.turned (t':=s.toks) (fun b o hb e=>(sb.2 b hb).trans e) f0 f1 f3 f4 f5
  obtain⟨o,e,c,d⟩:=id st'
  exact⟨u,rfl,pA (s:={ s with heap:=h' }) e c d (by decide) ⟨x,H,I1,ru,⟨rfl,fun ys hy=>by rw[I.list_inj hy hq];exact hx⟩,st',fun b hb=>(hf b hb).1⟩⟩
 done:=by
  intro X hP hw hK hc i pins s σ H E I hf st hg
  subst hP hw hK
  obtain⟨xs,hq,hx⟩:=hg
  obtain⟨its,rv,p,hz⟩:=I.list hq
  obtain⟨f0,f1,f2,f3,f4,f5⟩:=hf it (by simp)
  have hl:=rv.length
  exact wpAny_pyNext_list_end (I.ok.hd hc) st p.isList (by simp;omega) fun h' eb=>⟨rfl,I.turned (t':=s.toks) (fun b o hb e=>eb b o hb e) f0 f1 f3 f4 f5⟩
 self:=fun _ _ _ _ _ st h=>wpAny_pyIter_listiter st h
theorem uo(a it:Addr):Turn P w K tg (Ji K a) [it] it (fun i h=>h.IsTupleIter it a i) where
 mem:=by simp
 obj:=fun i h st b hb=>by
  have e:b=it:=by simpa using hb
  subst e
  obtain⟨o,e,c,d⟩:=st
  exact⟨o,e,fun v z=>by rw[d]at z;cases z⟩
 keep:=fun i h h' st k=>st.at fun o e=>k it (by simp) o e
 item:=by
  intro X hP hw hK hc i pins s σ H E I hf st hg
  subst hP hw hK
  obtain⟨xs,x,hq,hx⟩:=hg
  obtain⟨its,rv,p,hz⟩:=I.tuple hq
  obtain⟨u,hu,ru⟩:=rv.get hx
  obtain⟨f0,f1,f2,f3,f4,f5⟩:=hf it (by simp)
  refine wpAny_pyNext_tuple_item st (show s.heap.IsTuple a its.toArray from p) (x:=u) (by simpa using hu) fun h' st' sb=>?_
  have I1:aj X pins σ H { s with heap:=h' }:=I.turned (t':=s.toks) (fun b o hb e=>(sb.2 b hb).trans e) f0 f1 f3 f4 f5
  obtain⟨o,e,c,d⟩:=id st'
  exact⟨u,rfl,pA (s:={ s with heap:=h' }) e c d (by decide) ⟨x,H,I1,ru,⟨rfl,fun ys hy=>by rw[I.tuple_inj hy hq];exact hx⟩,st',fun b hb=>(hf b hb).1⟩⟩
 done:=by
  intro X hP hw hK hc i pins s σ H E I hf st hg
  subst hP hw hK
  obtain⟨xs,hq,hx⟩:=hg
  obtain⟨its,rv,p,hz⟩:=I.tuple hq
  obtain⟨f0,f1,f2,f3,f4,f5⟩:=hf it (by simp)
  have hl:=rv.length
  exact wpAny_pyNext_tuple_end (I.ok.hd hc) st (show s.heap.IsTuple a its.toArray from p) (by simp;omega) fun h' eb=>⟨rfl,I.turned (t':=s.toks) (fun b o hb e=>eb b o hb e) f0 f1 f3 f4 f5⟩
 self:=fun _ _ _ _ _ st h=>wpAny_pyIter_tupleiter st h
theorem uq(it:Addr)(lo:Int)(n:Nat):Turn P w K tg (AG lo n) [it] it (fun i h=>IsRangeIter h it (lo+(i:Nat)*1) ((n:Int)-(i:Nat)) 1) where
 mem:=by simp
 obj:=fun i h st b hb=>by
  have e:b=it:=by simpa using hb
  subst e
  exact⟨_,st,fun v z=>by
   have z':Data.fields _=Data.cell v:=z
   cases z'⟩
 keep:=fun i h h' st k=>k it (by simp) _ st
 item:=by
  intro X hP hw hK hc i pins s σ H E I hf st hg
  subst hP hw hK
  obtain⟨f0,f1,f2,f3,f4,f5⟩:=hf it (by simp)
  have W:=Walks.range (prog:=X.prog) (w:=X.w) (I.ok.hd hc) it lo 1 n
  refine W.item i s _ _ hg st fun v h' tk hv st' kk=>?_
  obtain⟨t,rfl⟩:=hv
  have I1:aj X pins σ H { s with heap:=h',toks:=tk }:=I.turned (fun b o hb e=>kk b o (by simpa using hb) e) f0 f1 f3 f4 f5
  refine⟨_,rfl,pA (s:={ s with heap:=h',toks:=tk }) (n := "range_iterator") st' rfl rfl (by decide) ⟨.int (lo+i),H,I1,⟨t,?_⟩,⟨rfl,rfl⟩,st',fun b hb=>(hf b hb).1⟩⟩
  rw[Int.mul_one]
 done:=by
  intro X hP hw hK hc i pins s σ H E I hf st hg
  subst hP hw hK
  obtain⟨f0,f1,f2,f3,f4,f5⟩:=hf it (by simp)
  exact wpAny_pyNext_range_end (I.ok.hd hc) st (by have:n<=i:=hg;omega) fun h' eb=>⟨rfl,I.turned (t':=s.toks) (fun b o hb e=>eb b o hb e) f0 f1 f3 f4 f5⟩
 self:=fun _ _ _ _ _ st h=>wpAny_pyIter_rangeiter st h
section
def Iu(K:W.Frag)(tl:TE):TI:=fun σ H R=>tl σ H fun x H1 => ∃a,x=.ref a/\(∃xs,bL K H1 a xs)/\R (Jj K a) H1
def L4(K:W.Frag)(tl:TE):TI:=fun σ H R=>tl σ H fun x H1 => ∃a,x=.ref a/\(∃xs,cw K H1 a xs)/\R (Ji K a) H1
theorem By(hl:PE X l tl):PI X tg l (Iu X.K tl):=by
 intro pins s σ H R I h
 refine aJ (hl pins s σ H _ I h) fun v s1 ⟨x,H1,I1,r1,q1⟩=>?_
 obtain⟨a,e,⟨xs,hq⟩,q⟩:=q1
 subst e
 cases r1
 obtain⟨its,rv,p,hz⟩:=I1.list hq
 refine wpAny_pyIter_list p.isList ?_
 refine⟨s1.heap.objs.size,[s1.heap.objs.size],_,_,H1,rfl,I1.kept (t':=s1.toks) fun b o e=>Heap.get?_push_of_some _ e,vM a _,⟨_,Heap.get?_push_size _ rfl,rfl,rfl⟩,fun b hb=>?_,q⟩
 have e:b=s1.heap.objs.size:=by simpa using hb
 subst e
 exact I1.fpOk (Nat.le_refl _) (I1.hok.fresh (Nat.le_refl _))
theorem D7(hl:PE X l tl):PI X tg l (L4 X.K tl):=by
 intro pins s σ H R I h
 refine aJ (hl pins s σ H _ I h) fun v s1 ⟨x,H1,I1,r1,q1⟩=>?_
 obtain⟨a,e,⟨xs,hq⟩,q⟩:=q1
 subst e
 cases r1
 obtain⟨its,rv,p,hz⟩:=I1.tuple hq
 refine wpAny_pyIter_tuple (show s1.heap.IsTuple a its.toArray from p) ?_
 refine⟨s1.heap.objs.size,[s1.heap.objs.size],_,_,H1,rfl,I1.kept (t':=s1.toks) fun b o e=>Heap.get?_push_of_some _ e,uo a _,⟨_,Heap.get?_push_size _ rfl,rfl,rfl⟩,fun b hb=>?_,q⟩
 have e:b=s1.heap.objs.size:=by simpa using hb
 subst e
 exact I1.fpOk (Nat.le_refl _) (I1.hok.fresh (Nat.le_refl _))
theorem qj{R:It->Hp->Prop}{lo hi:Int}{t u v:Tok}{tk:Nat}(I:aj X pins σ H s)(h1:-(2 ^ 62)<=lo)(h2:lo<2 ^ 62)(h3:-(2 ^ 62)<=hi)(h4:hi<2 ^ 62)
  (q:R (AG lo (hi-lo).toNat) H):wpAny (model X.prog X.w) X.A (pyIter (.ref s.heap.objs.size)) (Hb X pins σ tg R) E { s with heap:=s.heap.push { cls:=.type "range", data:=.fields #[.int lo t,.int hi u,.int 1 v] },toks:=tk }:=by
 refine wpAny_pyIter_range (IsRange.new ..) (small_one h1 h2 h3 h4) ?_
 have I1:aj X pins σ H { s with heap:=s.heap.push { cls:=.type "range", data:=.fields #[.int lo t,.int hi u,.int 1 v] },toks:=tk }:=I.kept fun b o e=>Heap.get?_push_of_some _ e
 refine⟨(s.heap.push { cls:=.type "range", data:=.fields #[.int lo t,.int hi u,.int 1 v] }).objs.size,[(s.heap.push { cls:=.type "range", data:=.fields #[.int lo t,.int hi u,.int 1 v] }).objs.size],_,_,H,rfl,
  I1.kept (t':=tk) fun b o e=>Heap.get?_push_of_some _ e,uq _ lo (hi-lo).toNat,?_,fun b hb=>?_,q⟩
 ·have e1:lo+((0:Nat):Int)*1=lo:=by simp
  have e2:(((hi-lo).toNat:Nat):Int)-((0:Nat):Int)=Builtin.Range.rangeSize lo hi 1:=by rw[rangeSize_one];split<;>omega
  show IsRangeIter _ _ (lo+((0:Nat):Int)*1) ((((hi-lo).toNat:Nat):Int)-((0:Nat):Int)) 1
  rw[e1,e2]
  exact Heap.get?_push_size _ rfl
 ·have e:b=(s.heap.push { cls:=.type "range", data:=.fields #[.int lo t,.int hi u,.int 1 v] }).objs.size:=by simpa using hb
  subst e
  exact I1.fpOk (Nat.le_refl _) (I1.hok.fresh (Nat.le_refl _))
def Ir(ta:TA):TI:=fun σ H R=>ta σ H fun vs H1 => ∃j:Int,vs=[.int j] /\ -(2 ^ 62)<=j/\j<2 ^ 62/\R (AG 0 j.toNat) H1
def Iq(ta:TA):TI:=fun σ H R=>ta σ H fun vs H1 => ∃i j:Int,vs=[.int i,.int j]/\(-(2 ^ 62)<=i/\i<2 ^ 62 /\ -(2 ^ 62)<=j/\j<2 ^ 62)/\R (AG i (j-i).toNat) H1
theorem wa{a:Expr}(hg:Gl X "range")(hm:X.mg "range" = none)(ha:PA X [a] ta)(hs:starEach [a] X.env=[(false,eval a X.env)]:=by rfl):PI X tg (.Call (.Name "range" p) [a] [] pos) (Ir ta):=by
 intro pins s σ H R I h
 refine Call_ (dC I hg hm boot_range (PyProof.Rows.callWith_type1 (aJ (ha pos pins s σ H _ I h) fun us s1 ⟨vs,H1,I1,r1,q1⟩=>?_) hs rfl))
 obtain⟨j,e,q1,q2,q⟩:=q1
 subst e
 cases r1 with
 | cons r rr =>
  cases rr
  obtain⟨t,rfl⟩:=r
  exact call_range_1 (qj I1 (by omega) (by omega) q1 q2 (by simpa using q))
theorem v9{a b:Expr}(hg:Gl X "range")(hm:X.mg "range" = none)(ha:PA X [a,b] ta)(hs:starEach [a,b] X.env=[(false,eval a X.env),(false,eval b X.env)]:=by rfl)(hs2:starEach [b] X.env=[(false,eval b X.env)]:=by rfl) :
  PI X tg (.Call (.Name "range" p) [a,b] [] pos) (Iq ta):=by
 intro pins s σ H R I h
 refine Call_ (dC I hg hm boot_range (PyProof.Rows.callWith_type1 (aJ (ha pos pins s σ H _ I h) fun us s1 ⟨vs,H1,I1,r1,q1⟩=>?_) (by rw[hs,hs2]) (by rw[hs2];rfl)))
 obtain⟨i,j,e,⟨q1,q2,q3,q4⟩,q⟩:=q1
 subst e
 cases r1 with
 | cons r rr =>
  cases rr with
  | cons r' rr =>
   cases rr
   obtain⟨t,rfl⟩:=r
   obtain⟨t',rfl⟩:=r'
   exact call_range_2 (qj I1 q1 q2 q3 q4 q)
def Jy(wi:TI)(g:TG)(tb:TS):TS:=fun D σ H=>wi σ H fun J H1 => ∃W:Nat->Nat->St->Hp->Prop,(∃m,W 0 m σ H1)/\∀i m σ H,W i m σ H ->
 (J.stop i H/\D.nx σ H)\/(J.go i H/\∃N:St->Hp->Prop,(∀σ' H',N σ' H'->∃m',m' < m/\W (i+1) m' σ' H')/\∀x H',J.yld i H x H'->g x σ H' fun σ2 H2=>tb { D with nx:=N,ct:=N,bk:=D.nx } σ2 H2)
def jy(fp:List Addr)(h:Heap):List (Addr×Obj):=fp.filterMap fun b=>(h.get? b).map fun o=>(b,o)
theorem fM(hb:b∈fp)(e:h.get? b=some o):(b,o)∈jy fp h:=List.mem_filterMap.mpr ⟨b,hb,by rw[e];rfl⟩
theorem wg{p:Addr×Obj}(hp:p∈jy fp h):p.1∈fp/\h.get? p.1=some p.2:=by
 obtain⟨b,hb,e⟩:=List.mem_filterMap.mp hp
 cases q:h.get? b with
 | none=>rw[q]at e;cases e
 | some o =>
  rw[q]at e
  have e':(b,o)=p:=Option.some.inj e
  subst e'
  exact⟨hb,q⟩
theorem aj.pinned(I:aj X pins σ H s)(hf:∀b∈fp,gt X pins H b)(ho:∀b∈fp,∃o,s.heap.get? b=some o/\∀v,o.data ≠ .cell v):aj X (pins++jy fp s.heap) σ H s :=
 I.pins_of fun p hp=>(List.mem_append.mp hp).elim (fun z=>I.pin p (List.mem_append_right _ z)) fun z=>by
  obtain⟨hb,e⟩:=wg z
  obtain⟨f0,f1,f2,_⟩:=hf p.1 hb
  obtain⟨o,e',d⟩:=ho p.1 hb
  rw[e]at e';cases e'
  exact⟨e,f0,f1,f2,d⟩
theorem aj.unpinned{pl:List (Addr×Obj)}(I:aj X (pins++pl) σ H s):aj X pins σ H s:=I.pins_of fun p hp=>I.pin p (List.mem_append_right _ (List.mem_append_left _ hp))
theorem qo{iter:Expr}{wi:TI}{g:TG}(hp:PassesOwn (model X.prog X.w) X.A X.env X.xe)(hc:X.calm=true)(hi:PI X tg iter wi)(hg:PG X tg g)(hb:eN X body tb)
  (hs:∀x,foldedSetIterable iter X.env x=pure x:=by intro _;rfl):PS X (.For tg iter body [] pos) (Jy wi g tb):=by
 intro pins s σ H D I h
 refine wpAny_For (aJ (hi pins s σ H _ I h) fun v s1 h1=>aJ h1 fun itv s2 h2=>?_) hs
 obtain⟨it,fp,tn,J,H2,e,I2,T,st2,f2,W,⟨m0,w0⟩,turn⟩:=h2
 subst e
 have stat:∀{H':Hp},(∀b∈fp,H' b=none)->∀b∈fp,gt X pins H' b:=fun hn b hb=>⟨hn b hb,(f2 b hb).2⟩
 refine codeAny_forLoop_any (fun n s' => ∃i σ' H',aj X pins σ' H' s'/\tn i s'.heap/\(∀b∈fp,H' b=none)/\W i n σ' H') ?_ m0 ⟨0,σ,H2,I2,st2,fun b hb=>(f2 b hb).1,w0⟩
 rintro n s3 ⟨i,σ3,H3,I3,st3,fr3,w3⟩
 rcases turn i n σ3 H3 w3 with⟨stop,qn⟩|⟨go,N,hN,step⟩
 ·refine wpAny_passesOwn hp (aJ (T.done X rfl rfl rfl hc i pins s3 σ3 H3 X.xe I3 (stat fr3) st3 stop) fun r s4 ⟨hr,I4⟩=>?_)
  subst hr
  exact wpAny_execs_nil ⟨σ3,H3,I4,qn⟩
 ·refine wpAny_passesOwn hp (aJ (T.item X rfl rfl rfl hc i pins s3 σ3 H3 X.xe I3 (stat fr3) st3 go) fun r s4 ⟨u,hr,h4⟩=>?_)
  subst hr
  refine wpAny_passesOwn hp (aJ h4 fun _ s5 ⟨x,H5,I5,r5,y5,st5,fr5⟩=>?_)
  have I5':=I5.pinned (stat fr5) (T.obj _ _ st5)
  refine wpAny_passesOwn hp (aJ (hg _ s5 σ3 H5 x u _ I5' r5 (step x H5 y5)) fun _ s6 ⟨σ6,H6,I6,q6⟩=>?_)
  refine wpAny_passesOwn hp (aJ (hb _ s6 σ6 H6 _ I6 q6) fun f s7 q7=>?_)
  have again:∀{σ7:St} {H7:Hp},aj X (pins++jy fp s5.heap) σ7 H7 s7->N σ7 H7->∃m,m<n/\∃i σ' H',aj X pins σ' H' s7/\tn i s7.heap/\(∀b∈fp,H' b=none)/\W i m σ' H':=fun {σ7 H7} I7 n7=>by
   obtain⟨m',hm,w7⟩:=hN σ7 H7 n7
   refine⟨m',hm,i+1,σ7,H7,I7.unpinned,T.keep _ _ _ st5 fun b hb o e=>(I7.pin (b,o) (List.mem_append_right _ (List.mem_append_right _ (fM hb e)))).1,fun b hb=>?_,w7⟩
   obtain⟨o,e,d⟩:=T.obj _ _ st5 b hb
   exact(I7.pin (b,o) (List.mem_append_right _ (List.mem_append_right _ (fM hb e)))).2.1
  cases f with
  | next=>obtain⟨σ7,H7,I7,n7⟩:=q7;exact again I7 n7
  | cont=>obtain⟨σ7,H7,I7,n7⟩:=q7;exact again I7 n7
  | brk=>obtain⟨σ7,H7,I7,q7⟩:=q7;exact⟨σ7,H7,I7.unpinned,q7⟩
  | ret v=>obtain⟨x7,σ7,H7,I7,r7,q7⟩:=q7;exact⟨x7,σ7,H7,I7.unpinned,r7,q7⟩
end
abbrev R2:=V->V->Hp->VK->Prop
def bZ(X:Cx)(f:Value->Value->Sem Value)(r:R2):Prop :=
 ∀(pins:List (Addr×Obj)) (s:Shared) (σ:St) (H:Hp) (x y:V) (v u:Value) (Q:VK),aj X pins σ H s->aT x v->aT y u->r x y H Q ->
  wpAny (model X.prog X.w) X.A (f v u) (EP X pins σ Q) X.xe s
def G9(X:Cx)(f:Value->Sem Value)(r:V->Hp->VK->Prop):Prop :=
 ∀(pins:List (Addr×Obj)) (s:Shared) (σ:St) (H:Hp) (x:V) (v:Value) (Q:VK),aj X pins σ H s->aT x v->r x H Q ->
  wpAny (model X.prog X.w) X.A (f v) (EP X pins σ Q) X.xe s
def cK(X:Cx)(f:Value)(r:List V->Hp->VK->Prop):Prop :=
 ∀(pins:List (Addr×Obj)) (s:Shared) (σ:St) (H:Hp) (xs:List V) (us:List Value) (Q:VK),aj X pins σ H s->aG xs us->r xs H Q ->
  wpAny (model X.prog X.w) X.A (call f us) (EP X pins σ Q) X.xe s
def zN(r:R2)(ta tb:TE):TE:=fun σ H Q=>ta σ H fun x H1=>tb σ H1 fun y H2=>r x y H2 Q
def Np(r:V->Hp->VK->Prop)(ta:TE):TE:=fun σ H Q=>ta σ H fun x H1=>r x H1 Q
def rI(C:Int->Int->Prop)(g:Int->Int->V):R2:=fun x y H Q => ∃i j,x=.int i/\y=.int j/\C i j/\Q (g i j) H
def gw(g:Int->Int->V):R2:=fun x y H Q => ∃i j,x=.int i/\y=.int j/\Q (g i j) H
def rU(g:Int->V):V->Hp->VK->Prop:=fun x H Q => ∃i,x=.int i/\Q (g i) H
section
variable{a b:Expr}{ta tb tc:TE}
theorem za(ha:PE X a ta)(hb:PE X b tb)(I:aj X pins σ H s)
  (h:ta σ H fun x H1=>tb σ H1 fun y H2=>R x y H2)
  (hf:∀v u s2 x y H2,aj X pins σ H2 s2->aT x v->aT y u->R x y H2->wpAny (model X.prog X.w) X.A (f v u) Q X.xe s2) :
  wpAny (model X.prog X.w) X.A (eval a X.env) (fun v s₁=>wpAny (model X.prog X.w) X.A (eval b X.env) (fun u s₂=>wpAny (model X.prog X.w) X.A (f v u) Q X.xe s₂) X.xe s₁) X.xe s:=by
 refine aJ (ha pins s σ H _ I h) fun v s1 ⟨x,H1,I1,r1,q1⟩=>?_
 refine aJ (hb pins s1 σ H1 _ I1 q1) fun u s2 ⟨y,H2,I2,r2,q2⟩=>?_
 exact hf v u s2 x y H2 I2 r1 r2 q2
theorem zX{op:Operator}{r:R2}(ho:bZ X (binaryOp op) r)(ha:PE X a ta)(hb:PE X b tb):PE X (.BinOp a op b pos) (zN r ta tb):=by
 intro pins s σ H Q I h
 exact wpAny_BinOp (za ha hb I h fun v u s2 x y H2 I2 rx ry q=>ho pins s2 σ H2 x y v u Q I2 rx ry q)
theorem HE{op:UnaryOp}{r:V->Hp->VK->Prop}(ho:G9 X (unaryOp op) r)(ha:PE X a ta):PE X (.UnaryOp op a pos) (Np r ta):=by
 intro pins s σ H Q I h
 exact UnaryOp_ (aJ (ha pins s σ H _ I h) fun v s1 ⟨x,H1,I1,r1,q1⟩=>ho pins s1 σ H1 x v Q I1 r1 q1)
theorem qz{C:Int->Int->Prop}
  (rule:∀(i j:Int) (t u:Tok) (s:Shared) (Q:Value->Shared->Prop) (E:Value->Shared->Prop),C i j->Q (.int (g i j) s.toks) { s with toks:=s.toks+1 }->wpAny (model X.prog X.w) X.A (f (.int i t) (.int j u)) Q E s) :
  bZ X f (rI C fun i j=>.int (g i j)):=by
 intro pins s σ H x y v u Q I rx ry h
 obtain⟨i,j,rfl,rfl,hc,q⟩:=h
 obtain⟨t,rfl⟩:=rx
 obtain⟨t',rfl⟩:=ry
 exact rule i j t t' s _ _ hc ⟨.int (g i j),H,I.tok _,⟨_,rfl⟩,q⟩
theorem nB
  (rule:∀(i j:Int) (t u:Tok) (s:Shared) (Q:Value->Shared->Prop) (E:Value->Shared->Prop),Q (.int (g i j) s.toks) { s with toks:=s.toks+1 }->wpAny (model X.prog X.w) X.A (f (.int i t) (.int j u)) Q E s) :
  bZ X f (gw fun i j=>.int (g i j)):=by
 intro pins s σ H x y v u Q I rx ry h
 obtain⟨i,j,rfl,rfl,q⟩:=h
 obtain⟨t,rfl⟩:=rx
 obtain⟨t',rfl⟩:=ry
 exact rule i j t t' s _ _ ⟨.int (g i j),H,I.tok _,⟨_,rfl⟩,q⟩
theorem uN{g:Int->Int->Bool}
  (rule:∀(i j:Int) (t u:Tok) (s:Shared) (Q:Value->Shared->Prop) (E:Value->Shared->Prop),Q (.bool (g i j)) s->wpAny (model X.prog X.w) X.A (f (.int i t) (.int j u)) Q E s) :
  bZ X f (gw fun i j=>.bl (g i j)):=by
 intro pins s σ H x y v u Q I rx ry h
 obtain⟨i,j,rfl,rfl,q⟩:=h
 obtain⟨t,rfl⟩:=rx
 obtain⟨t',rfl⟩:=ry
 exact rule i j t t' s _ _ ⟨.bl (g i j),H,I,rfl,q⟩
def Nm(i j:Int):Prop:=0<=j/\j<=1000000/\i.natAbs<2 ^ 64
theorem um(k:Nat):(0:Int)<=2 ^ k:=by
 rw[two_pow_cast]
 exact Int.natCast_nonneg _
theorem Es:bZ X (binaryOp .Add) (gw fun i j=>.int (i+j)):=nB fun _ _ _ _ _ _ _ q=>add_int q
theorem Eo:bZ X (binaryOp .Sub) (gw fun i j=>.int (i-j)):=nB fun _ _ _ _ _ _ _ q=>sub_int q
theorem BH:bZ X (binaryOp .Mod) (rI (fun _ j=>j≠0) fun i j=>.int (i.fmod j)):=qz fun _ _ _ _ _ _ _ hc q=>mod_int' hc q
theorem Ep:bZ X (binaryOp .Pow) (rI Nm fun i j=>.int (i ^ j.toNat)):=qz fun _ _ _ _ _ _ _ hc q=>pow_int_small hc.1 hc.2.1 hc.2.2 q
theorem op_shr:bZ X (binaryOp .RShift) (rI (fun _ j=>0<=j) fun i j=>.int (i / 2 ^ j.toNat)):=qz fun i j _ _ _ _ _ hc q =>
 rshift_int hc (by rw[Int.fdiv_eq_ediv_of_nonneg i (um _)];exact q)
theorem op_and:bZ X (binaryOp .BitAnd) (gw fun i j=>.int (Builtin.bitAnd i j)):=nB fun _ _ _ _ _ _ _ q=>and_int q
theorem op_xor:bZ X (binaryOp .BitXor) (gw fun i j=>.int (Builtin.bitXor i j)):=nB fun _ _ _ _ _ _ _ q=>xor_int q
theorem B5:bZ X (inplaceOp .Add) (gw fun i j=>.int (i+j)):=nB fun _ _ _ _ _ _ _ q=>iadd_int q
theorem B4:bZ X (inplaceOp .Sub) (gw fun i j=>.int (i-j)):=nB fun _ _ _ _ _ _ _ q=>isub_int q
theorem Nn{f:Value->Sem Value}{g:Int->Int}
  (rule:∀(i:Int) (t:Tok) (s:Shared) (Q:Value->Shared->Prop) (E:Value->Shared->Prop),Q (.int (g i) s.toks) { s with toks:=s.toks+1 }->wpAny (model X.prog X.w) X.A (f (.int i t)) Q E s) :
  G9 X f (rU fun i=>.int (g i)):=by
 intro pins s σ H x v Q I rx h
 obtain⟨i,rfl,q⟩:=h
 obtain⟨t,rfl⟩:=rx
 exact rule i t s _ _ ⟨.int (g i),H,I.tok _,⟨_,rfl⟩,q⟩
theorem C9:G9 X (unaryOp .USub) (rU fun i=>.int (-i)):=Nn fun _ _ _ _ _ q=>neg_int q
end
section
variable{a b:Expr}{ta tb tc:TE}
theorem wV{Q:VK}{k k':Bool}(I:aj X pins σ H s)(q:Q (.bl k) H)(e:k=k'):EP X pins σ Q (.bool k') s:=by
 subst e
 exact⟨.bl k,H,I,rfl,q⟩
theorem HH:bZ X (compareOp .Lt) (gw fun i j=>.bl (decide (i<j))):=uN fun _ _ _ _ _ _ _ q=>lt_int q
theorem HI:bZ X (compareOp .LtE) (gw fun i j=>.bl (decide (i<=j))):=uN fun _ _ _ _ _ _ _ q=>le_int q
theorem HJ:bZ X (compareOp .Gt) (gw fun i j=>.bl (decide (j<i))):=uN fun _ _ _ _ _ _ _ q=>gt_int q
theorem HK:bZ X (compareOp .GtE) (gw fun i j=>.bl (decide (j<=i))):=uN fun _ _ _ _ _ _ _ q=>ge_int q
theorem Er:bZ X (compareOp .Is) (fun x y H Q=>y=.non/\Q (.bl (decide (x=.non))) H):=by
 intro pins s σ H x y v u Q I rx ry h
 obtain⟨rfl,q⟩:=h
 cases ry
 refine is_none_gen (wV I q ?_)
 cases x<;>first
  | (cases rx;rfl)
  | (obtain⟨t,rfl⟩:=rx;rfl)
theorem BF:bZ X (compareOp .IsNot) (fun x y H Q=>y=.non/\Q (.bl (!decide (x=.non))) H):=by
 intro pins s σ H x y v u Q I rx ry h
 obtain⟨rfl,q⟩:=h
 cases ry
 refine isnot_none_gen (wV I q ?_)
 cases x<;>first
  | (cases rx;rfl)
  | (obtain⟨t,rfl⟩:=rx;rfl)
def zM(t:TE):TT:=fun σ H Q=>t σ H fun x H' => ∃k,x=.bl k/\Q k H'
theorem Bq{r:R2}(ho:bZ X (compareOp op) r)(ha:PE X a ta)(hb:PE X b tb)(hm:behindInMarks op b=false):PT X (.Compare a [op] [b] pos) (zM (zN r ta tb)):=by
 intro pins s σ H Q I h
 refine wpAny_isTrue_Compare1 (aJ (ha pins s σ H _ I h) fun v s1 ⟨x,H1,I1,r1,q1⟩=>aJ (hb pins s1 σ H1 _ I1 q1) fun u s2 ⟨y,H2,I2,r2,q2⟩ =>
  aJ (ho pins s2 σ H2 x y v u _ I2 r1 r2 q2) fun c s3 ⟨z,H3,I3,r3,k,e,q3⟩=>?_) hm
 subst e
 cases r3
 exact wpAny_truthy_bool ⟨H3,I3,q3⟩
def vR(r r':R2)(ta tb tc:TE):TE:=fun σ H Q=>ta σ H fun x H1=>tb σ H1 fun y H2=>r x y H2 fun z H3 => ∃k,z=.bl k /\
 (if k=true then tc σ H3 fun w' H4=>r' y w' H4 Q else Q (.bl false) H3)
theorem yd{r r':R2}(ho:bZ X (compareOp op) r)(ho':bZ X (compareOp op') r')(ha:PE X a ta)(hb:PE X b tb)(hc:PE X c tc)
  (hm:lastMarks [op,op'] [b,c]=false:=by with_unfolding_all rfl):PE X (.Compare a [op,op'] [b,c] pos) (vR r r' ta tb tc):=by
 intro pins s σ H Q I h
 refine Compare_chain (aJ (ha pins s σ H _ I h) fun v s1 ⟨x,H1,I1,r1,q1⟩=>chain_link (aJ (hb pins s1 σ H1 _ I1 q1) fun u s2 ⟨y,H2,I2,r2,q2⟩ =>
  aJ (ho pins s2 σ H2 x y v u _ I2 r1 r2 q2) fun d s3 ⟨z,H3,I3,r3,k,e,q3⟩=>?_)) hm
 subst e
 cases r3
 refine wpAny_truthy_bool ?_
 cases k with
 | false=>exact ite_ff ⟨.bl false,H3,I3,rfl,q3⟩
 | true=>exact ite_tt (chain_last (aJ (hc pins s3 σ H3 _ I3 q3) fun w' s4 ⟨z',H4,I4,r4,q4⟩=>ho' pins s4 σ H4 y z' u w' Q I4 r2 r4 q4))
theorem x8{r r':R2}(ho:bZ X (compareOp op) r)(ho':bZ X (compareOp op') r')(ha:PE X a ta)(hb:PE X b tb)(hc:PE X c tc)
  (hm:lastMarks [op,op'] [b,c]=false:=by with_unfolding_all rfl):PT X (.Compare a [op,op'] [b,c] pos) (zM (vR r r' ta tb tc)):=by
 intro pins s σ H Q I h
 refine isTrue_chain (aJ (ha pins s σ H _ I h) fun v s1 ⟨x,H1,I1,r1,q1⟩=>test_link (aJ (hb pins s1 σ H1 _ I1 q1) fun u s2 ⟨y,H2,I2,r2,q2⟩ =>
  aJ (ho pins s2 σ H2 x y v u _ I2 r1 r2 q2) fun d s3 ⟨z,H3,I3,r3,k,e,q3⟩=>?_)) hm
 subst e
 cases r3
 refine wpAny_truthy_bool ?_
 cases k with
 | false =>
  obtain⟨k',e',q'⟩:=q3
  cases e'
  exact ite_ff ⟨H3,I3,q'⟩
 | true =>
  refine ite_tt (test_last (aJ (hc pins s3 σ H3 _ I3 q3) fun w' s4 ⟨z',H4,I4,r4,q4⟩=>aJ (ho' pins s4 σ H4 y z' u w' _ I4 r2 r4 q4) fun d' s5 ⟨z2,H5,I5,r5,k2,e2,q5⟩=>?_))
  subst e2
  cases r5
  exact wpAny_truthy_bool ⟨H5,I5,q5⟩
theorem jD:(sizeLine:Nat)<2 ^ 63:=by rw[sizeLine_eq];decide
theorem uM:bZ X (binaryOp .Add) (fun x y H Q => ∃i j,x=.str i/\y=.str j/\i.length+j.length<=sizeLine/\Q (.str (i++j)) H):=by
 intro pins s σ H x y v u Q I rx ry h
 obtain⟨i,j,rfl,rfl,hz,q⟩:=h
 obtain⟨t,rfl⟩:=rx
 obtain⟨t',rfl⟩:=ry
 exact add_str (fun t' tk=>⟨.str (i++j),H,I.tok _,⟨_,rfl⟩,q⟩) hz
def zu(b:Expr):Prop:=∀o i,subscripted b false o i=operate [o,i] (getItem o i)
theorem sr(ha:PE X a ta)(hb:PE X b tb)(hs:zu b) :
  PE X (.Subscript a b pos) (zN (fun x y H Q => ∃z i c,x=.str z/\y=.int i/\0<=i/\i<2 ^ 63/\i<z.length/\z.cps[i.toNat]?=some c/\Q (.str ⟨#[c]⟩) H) ta tb):=by
 intro pins s σ H Q I h
 refine Subscript_ (za ha hb I h fun v u s2 x y H2 I2 rx ry q=>?_)
 obtain⟨z,i,c,rfl,rfl,h0,h63,h1,hc,q⟩:=q
 obtain⟨t,rfl⟩:=rx
 obtain⟨t',rfl⟩:=ry
 have e:seqIndex? i z.length=some i.toNat:=PySem.StrLaws.seqIndex_nonneg h0 h1
 exact tail_any (typeIs_str s2 z t) slot_str_getitem.lookup (getItem_str (c:=c) (by
  have e1:decide (i < -(2 ^ 63:Int))=false:=decide_eq_false (by omega)
  have e2:decide (i >= 2 ^ 63)=false:=decide_eq_false (by omega)
  rw[e1,e2]<;>rfl) (by rw[e];exact hc) ⟨.str ⟨#[c]⟩,H2,I2.tok _,⟨_,rfl⟩,q⟩) (hs _ _)
theorem cy{x:V}(r:aG [x] us):∃u,us=[u]/\aT x u:=by
 cases r with
 | cons r1 r2=>cases r2;exact⟨_,rfl,r1⟩
theorem pd{x:V}(r:aG [x,y] us):∃u w',us=[u,w']/\aT x u/\aT y w':=by
 cases r with
 | cons r1 r2 =>
  cases r2 with
  | cons r3 r4=>cases r4;exact⟨_,_,rfl,r1,r3⟩
theorem y8:cK X (.builtin "abs") (fun xs H Q => ∃i,xs=[.int i]/\Q (.int (if i<0 then -i else i)) H):=by
 intro pins s σ H xs us Q I r h
 obtain⟨i,rfl,q⟩:=h
 obtain⟨u,rfl,t,rfl⟩:=cy r
 exact call_abs_int fun u tk=>⟨.int (if i<0 then -i else i),H,I.tok _,⟨_,rfl⟩,q⟩
theorem xj(hc:X.calm=true):cK X (.builtin "min") (fun xs H Q => ∃i j,xs=[.int i,.int j]/\Q (.int (if j<i then j else i)) H):=by
 intro pins s σ H xs us Q I r h
 obtain⟨i,j,rfl,q⟩:=h
 obtain⟨u,w',rfl,⟨t,rfl⟩,⟨t',rfl⟩⟩:=pd r
 refine min_two_ints (I.ok.hd hc) fun h' tk k=>⟨_,H,I.kept k,?_,q⟩
 by_cases hj:j<i
 ·rw[if_pos hj,if_pos hj];exact⟨_,rfl⟩
 ·rw[if_neg hj,if_neg hj];exact⟨_,rfl⟩
theorem oQ:cK X (.type "int") (fun xs H Q=>(∃i,xs=[.int i]/\Q (.int i) H)\/∃k,xs=[.bl k]/\Q (.int (if k then 1 else 0)) H):=by
 intro pins s σ H xs us Q I r h
 rcases h with⟨i,rfl,q⟩|⟨k,rfl,q⟩
 ·obtain⟨u,rfl,t,rfl⟩:=cy r
  exact call_int_int ⟨.int i,H,I,⟨_,rfl⟩,q⟩
 ·obtain⟨u,rfl,r1⟩:=cy r
  cases r1
  exact call_int_bool ⟨.int (if k then 1 else 0),H,I.tok _,⟨_,rfl⟩,q⟩
theorem rN:cK X (.type "str") (fun xs H Q => ∃i,xs=[.int i]/\i.natAbs.log2<1920/\Q (.str (toString i)) H):=by
 intro pins s σ H xs us Q I r h
 obtain⟨i,rfl,hz,q⟩:=h
 obtain⟨u,rfl,t,rfl⟩:=cy r
 exact PySem.P.str_of_int hz ⟨.str _,H,I.tok _,⟨_,rfl⟩,q⟩
end
structure lD(h:Heap)(x dx C:Addr)(mA:Str->Option Value):Prop where
 obj:h.get? x=some (W.instObj C dx)
 ns:h.Ns1 dx mA
 ne:dx≠x
theorem wt(n:h.Ns1 dx mA):∃od,h.get? dx=some od/\∀name,W.lookIn name od=some (mA name):=by
 obtain⟨o,es,ep,ho,hd,hk,_,hm⟩:=n
 refine⟨o,ho,fun name=>?_⟩
 have e:=hm name
 unfold nsFind findBy at e
 rw[<- Array.find?_toList]at e
 unfold W.lookIn
 rw[hd]
 dsimp only
 split
 ·rename_i y q
  rw[q]at e
  exact congrArg some e
 ·rename_i q
  rw[q]at e
  have a:es.toList.any (·.refKey)=false:=by
   rw[List.any_eq_false]
   intro y hy
   obtain⟨z,t,hkey⟩:=hk y (Array.mem_toList_iff.mp hy)
   simp[DictEntry.refKey,hkey]
  have a':¬ es.toList.any (·.refKey)=true:=by rw[a];exact Bool.false_ne_true
  rw[if_neg a']
  exact congrArg some e
theorem lD.look{x:Addr}(I:lD h x dx C mA):∃od,W.InstAt h x (W.instObj C dx) C (some od)/\∀name,W.lookIn name od=some (mA name) :=
 let ⟨od,ho,hl⟩:=wt I.ns
 ⟨od,⟨I.obj,rfl,rfl,ho⟩,hl⟩
section
variable{prog:Program}{x f:Addr}{name:Str}{v:Value}
theorem Cb{expr:Bool}(X:K.In s.heap)(I:lD s.heap x dx C mA)(hg:W.plainGet K C name=true)(hh:W.hasDictIn K C=true)
  (ha:W.findIn K (.ref C) name=some none) (hv:mA name=some v) (hv':W.handedIn v=true) (h:Q v { s with toks:=s.toks+1 }) :
  wpAny (model prog w) A (getAttr (.ref x) name expr) Q E s:=by
 obtain⟨od,J,hl⟩:=I.look
 exact W.get_value X J (W.plainGet_of hg).1 (W.findObj_own hh ha rfl (by rw[hl,hv])) hv' h
theorem yI{Q:Value×List Value->Shared->Prop}(X:K.In s.heap)(I:lD s.heap x dx C mA)(hg:W.plainGet K C name=true)
  (hf:W.findIn K (.ref C) name=some (some (.ref f))) (ht:W.isFn K (.ref f)=true) (hv:mA name=none) (h:Q (.ref f,[.ref x]) s) :
  wpAny (model prog w) A (getMethod (.ref x) name pl) Q E s:=by
 obtain⟨od,J,hl⟩:=I.look
 exact W.method_fn X J (W.plainGet_of hg).1 (W.plainGet_of hg).2 hf (beq_iff_eq.mp ht) (by show(W.lookIn name od).map (·.isSome)=some false;rw[hl,hv];rfl) h
theorem A9{ns:List Str}{Q:Unit->Shared->Prop}(X:K.In s.heap)(I:lD s.heap x dx C mA)
  (hs:W.findIn K (.ref C) "__setattr__" = some (some (.builtin "object.__setattr__"))) (hp:W.plainOver K C=true) (ht:W.takerIn K C name=some none) (hh:W.hasDictIn K C=true)
  (hw:PySem.Within mA ns) (hsz:ns.length<=sizeLine)
  (h:∀h',lD h' x dx C (fun y=>if y=name then some v else mA y)->Heap.SameBut dx s.heap h'->Q () { s with heap:=h',toks:=s.toks+2 }) :
  wpAny (model prog w) A (setAttr (.ref x) name v) Q E s:=by
 obtain⟨od,J,hl⟩:=I.look
 refine W.set_plain X J hs (W.osa_open (s:={ s with toks:=s.toks+1 }) (r:=none) X J hp ht fun b=>?_)
 obtain⟨cd,hc,hd'⟩:=W.any_some hh
 have hx:s.heap.get? x=some ⟨.ref C,some dx,.plain,#[]⟩:=I.obj
 refine wpAny_bind (wpAny_pure (wpAny_bind (wpAny_bind (wpAny_loadPart hx (wpAny_bind (W.Looks.here (s:={ s with toks:=s.toks+1 }) (W.looks_clsIn X hc) ?_))))))
 rw[hd']
 refine wpAny_pure (a:=some dx) (wpAny_bind (wpAny_pure (wpAny_bind ?_)))
 refine wpAny_nsSet1 (s:={ s with toks:=s.toks+1 }) I.ns fun h' hn2 hs2=>?_
 obtain⟨oD,esD,epD,hoD,hdD,hcD⟩:=hn2.count (PySem.Within.cons name v hw)
 refine wpAny_bind (wpAny_lookBehind hoD (by rw[hdD];exact pastItsLine_dict (Nat.le_trans hcD (by rw[List.length_cons];omega))) ?_)
 exact wpAny_pure (h _ ⟨(hs2.2 _ (Ne.symm I.ne)).trans I.obj,hn2,I.ne⟩ hs2)
theorem yk{R:Result->Shared->Prop}{vs:List Value}(X:K.In s.heap)(hm:W.makesIn K C=true)
  (hi:W.findIn K (.ref C) "__init__" = some (some (.ref f))) (hf:W.typeIn K (.ref f)=some (.type "function"))
  (h:codeAny (model prog w) (A.under (.builtin "type.__call__" ⟨.ref C::vs,kw⟩)) (.call (.ref f) ⟨.ref (s.heap.objs.size+1)::vs,kw⟩) (W.InitBack (s.heap.objs.size+1) R)
   { s with heap:=(s.heap.push W.emptyDict).push (W.instObj C s.heap.objs.size) }) :
  codeAny (model prog w) A (.call (.ref C) ⟨vs,kw⟩) R s:=by
 obtain⟨hh,g,d,t,os⟩:=s
 exact W.make_core (W.makes_of X hm) (W.looks_findIn X hi) (fun self=>W.bind_fn X self hf) (.inl rfl) h
end
def cU(f:Str)(v:V):List (Str×V)->List (Str×V)
 | []=>[(f,v)]
 | (g,x)::r=>if g=f then(g,v)::r else(g,x)::cU f v r
theorem kN(f g:Str)(v:V):∀fs:List (Str×V),(cU f v fs).lookup g=if g=f then some v else fs.lookup g
 | []=>by
  show List.lookup g [(f,v)]=_
  by_cases h:g=f
  ·have hb:(g==f)=true:=beq_iff_eq.mpr h
   simp only[List.lookup,hb,if_pos h]
  ·have hb:(g==f)=false:=beq_eq_false_iff_ne.mpr h
   simp only[List.lookup,hb,if_neg h]
 | (k,x)::r=>by
  have ih:=kN f g v r
  rw[show cU f v ((k,x)::r)=(if k=f then(k,v)::r else(k,x)::cU f v r)from rfl]
  by_cases hk:k=f
  ·rw[if_pos hk]
   by_cases h:g=k
   ·have hb:(g==k)=true:=beq_iff_eq.mpr h
    simp only[List.lookup,hb,if_pos (h.trans hk)]
   ·have hb:(g==k)=false:=beq_eq_false_iff_ne.mpr h
    simp only[List.lookup,hb,if_neg (fun e:g=f=>h (e.trans hk.symm))]
  ·rw[if_neg hk]
   by_cases h:g=k
   ·have hb:(g==k)=true:=beq_iff_eq.mpr h
    simp only[List.lookup,hb,if_neg (fun e:g=f=>hk (h.symm.trans e))]
   ·have hb:(g==k)=false:=beq_eq_false_iff_ne.mpr h
    simp only[List.lookup,hb]
    exact ih
theorem jG(f:Str)(v:V):∀fs:List (Str×V),f∈(cU f v fs).map (·.1)/\∀g,g∈fs.map (·.1)->g∈(cU f v fs).map (·.1)
 | []=>⟨by simp[cU],fun g h=>by simp at h⟩
 | (k,x)::r=>by
  obtain⟨i1,i2⟩:=jG f v r
  rw[show cU f v ((k,x)::r)=(if k=f then(k,v)::r else(k,x)::cU f v r)from rfl]
  by_cases hk:k=f
  ·rw[if_pos hk]
   subst hk
   exact⟨by simp,fun g h=>by simpa using h⟩
  ·rw[if_neg hk]
   refine⟨?_,fun g h=>?_⟩
   ·rw[List.map_cons]
    exact List.mem_cons_of_mem _ i1
   ·rw[List.map_cons]at h⊢
    rcases List.mem_cons.mp h with e|e
    ·exact List.mem_cons.mpr (.inl e)
    ·exact List.mem_cons_of_mem _ (i2 g e)
theorem fo(f:Str)(v:V):∀fs:List (Str×V),(cU f v fs).length<=fs.length+1
 | []=>by simp[cU]
 | (k,x)::r=>by
  have ih:=fo f v r
  rw[show cU f v ((k,x)::r)=(if k=f then(k,v)::r else(k,x)::cU f v r)from rfl]
  by_cases hk:k=f
  ·rw[if_pos hk,List.length_cons,List.length_cons];omega
  ·rw[if_neg hk,List.length_cons,List.length_cons];omega
theorem ee.some_of{o:Option Value}(r:ee (some v) o):∃u,o=some u/\aT v u:=by
 cases o with
 | none=>exact(show False from r).elim
 | some u=>exact⟨u,rfl,r⟩
theorem ee.none_of{o:Option Value}(r:ee none o):o=none:=by
 cases o with
 | none=>rfl
 | some u=>exact(show False from r).elim
theorem wP(r:aT v u):W.handedIn u=true:=by
 cases v with
 | non=>cases (show u=Value.none from r);rfl
 | bl b=>cases (show u=Value.bool b from r);rfl
 | int i=>obtain⟨t,e⟩:=(show ∃t,u=Value.int i t from r);cases e;rfl
 | str x=>obtain⟨t,e⟩:=(show ∃t,u=Value.str x t from r);cases e;rfl
 | byt b=>obtain⟨t,e⟩:=(show ∃t,u=Value.bytes b t from r);cases e;rfl
 | flt b=>obtain⟨t,e⟩:=(show ∃t,u=Value.float b t from r);cases e;rfl
 | ref a=>cases (show u=Value.ref a from r);rfl
 | ty n=>cases (show u=Value.type n from r);rfl
section
variable{H':Hp}{h':Heap}{fs fs':List (Str×V)}
theorem ke(hok:cZ P w H h)(e:H a=some (.ins C dx fs)):∃mA,lD h a dx C mA/\(∀f,ee (fs.lookup f) (mA f))/\PySem.Within mA (fs.map (·.1))/\fs.length<=1000/\H dx=some (.own a):=by
 obtain⟨d,z,ne,ob,mA,n,r,q⟩:=(show bM P w H h a (.ins C dx fs)from hok a _ e)
 exact⟨mA,⟨ob,n,ne⟩,r,q,z,d⟩
end
structure dQ(K:W.Frag)(C:Addr):Prop where
 pg:W.plainGet K C Str.empty=true
 hd:W.hasDictIn K C=true
 po:W.plainOver K C=true
 sa:W.findIn K (.ref C) "__setattr__" = some (some (.builtin "object.__setattr__"))
theorem dQ.get(c:dQ K C)(f:Str):W.plainGet K C f=true:=c.pg
def aX(K:W.Frag)(C:Addr)(f:Str):Prop:=W.findIn K (.ref C) f=some none
theorem aX.taker{f:Str}(n:aX K C f):W.takerIn K C f=some none:=by
 unfold W.takerIn
 rw[show W.findIn K (.ref C) f=some none from n]
 rfl
structure oq(K:W.Frag)(C:Addr)(m:Str)(f:Addr):Prop where
 at_:W.findIn K (.ref C) m=some (some (.ref f))
 fn:W.isFn K (.ref f)=true
 kp:W.keepIn K (.ref f)=true
section
variable{fs:List (Str×V)}{f:Str}
theorem u9{b:Bool}(I:aj X pins σ H s)(e:H a=some (.ins C dx fs))(c:dQ X.K C)(n:aX X.K C f)(l:fs.lookup f=some v)
  (h:∀u s',aj X pins σ H s'->aT v u->Q u s'):wpAny (model X.prog X.w) A (getAttr (.ref a) f b) Q E s:=by
 obtain⟨mA,O,r,_,_,_⟩:=ke I.hok e
 obtain⟨u,hu,ru⟩:=ee.some_of (v:=v) (o:=mA f) (by rw[<- l];exact r f)
 exact Cb I.kIn O (c.get f) c.hd n hu (wP ru) (h u _ (I.tok _) ru)
theorem mh{m:Str}{g:Addr}{Q:Value×List Value->Shared->Prop}(I:aj X pins σ H s)(e:H a=some (.ins C dx fs))(c:dQ X.K C)(k:oq X.K C m g)(l:fs.lookup m=none)
  (h:Q (.ref g,[.ref a]) s):wpAny (model X.prog X.w) A (getMethod (.ref a) m pl) Q E s:=by
 obtain⟨mA,O,r,_,_,_⟩:=ke I.hok e
 have hn:mA m=none:=ee.none_of (by rw[<- l];exact r m)
 exact yI I.kIn O (c.get m) k.at_ k.fn hn h
theorem uC{Q:Unit->Shared->Prop}(I:aj X pins σ H s)(e:H a=some (.ins C dx fs))(c:dQ X.K C)(n:aX X.K C f)(hl:fs.length<1000)(ry:aT y u)
  (h:∀s',aj X pins σ (aO H a (.ins C dx (cU f y fs))) s'->Q () s'):wpAny (model X.prog X.w) A (setAttr (.ref a) f u) Q E s:=by
 obtain⟨mA,O,r,wi,_,ho⟩:=ke I.hok e
 have hz:(fs.map (·.1)).length<=sizeLine:=by rw[List.length_map,sizeLine_eq];omega
 refine A9 I.kIn O c.sa c.po n.taker c.hd wi hz fun h' O' sb=>h _ ?_
 have hd:∃o,h'.get? dx=some o:=let ⟨o,_,_,e',_⟩:=O'.ns;⟨o,e'⟩
 refine I.write (x:=a) (e:=dx) (by rw[e];exact True.intro) (.inr ho) (fun b q hb z=>(sb.2 b hb).trans z) hd ?_
 refine⟨by rw[ax O.ne];exact ho,?_,O.ne,O'.obj,_,O'.ns,fun g=>?_,fun g hg=>?_⟩
 ·have:=fo f y fs;omega
 ·show ee ((cU f y fs).lookup g) (if g=f then some u else mA g)
  rw[kN]
  by_cases q:g=f
  ·rw[if_pos q,if_pos q];exact ry
  ·rw[if_neg q,if_neg q];exact r g
 ·by_cases q:g=f
  ·rw[q];exact(jG f y fs).1
  ·refine(jG f y fs).2 g (wi g fun z=>hg ?_)
   show(if g=f then some u else mA g)=none
   rw[if_neg q];exact z
theorem aj.made(I:aj X pins σ H s):aj X pins σ (aO (aO H s.heap.objs.size (.own (s.heap.objs.size+1))) (s.heap.objs.size+1) (.ins C s.heap.objs.size []))
  { s with heap:=(s.heap.push W.emptyDict).push (W.instObj C s.heap.objs.size) }:=by
 have e1:(s.heap.push W.emptyDict).get? s.heap.objs.size=some W.emptyDict:=Heap.get?_push_size s.heap rfl
 have e2:((s.heap.push W.emptyDict).push (W.instObj C s.heap.objs.size)).get? (s.heap.objs.size+1)=some (W.instObj C s.heap.objs.size):=by
  have:=Heap.get?_push_size (s.heap.push W.emptyDict) (o:=W.instObj C s.heap.objs.size) rfl
  rwa [Heap.size_push]at this
 have e3:(s.heap.push W.emptyDict).Ns s.heap.objs.size (fun _=>none):=⟨W.emptyDict,#[],_,e1,rfl,(fun e he=>absurd he (by simp)),fun _=>rfl⟩
 have I1:=I.laid (a:=s.heap.objs.size) (o:=.own (s.heap.objs.size+1)) (h':=s.heap.push W.emptyDict) (t':=s.toks) (fun b u q=>Heap.get?_push_of_some _ q) (Nat.le_refl _) ⟨_,e1⟩
 refine I1.laid (a:=s.heap.objs.size+1) (o:=.ins C s.heap.objs.size []) (t':=s.toks) (fun b u q=>Heap.get?_push_of_some _ q) (Nat.le_of_eq (Heap.size_push _ _)) ?_
 have ne:s.heap.objs.size≠s.heap.objs.size+1:=Nat.ne_of_lt (Nat.lt_succ_self _)
 refine⟨by rw[ax ne,aD],Nat.zero_le _,ne,e2,fun _=>none,(Heap.Ns1.of_empty e3).at fun o q=>Heap.get?_push_of_some _ q,fun _=>True.intro,fun y hy=>absurd rfl hy⟩
theorem CY{prog:Program}{env:Env}{f:Str}(hb:attributeBase e f env (eval e env)=eval e env)
  (h:wpAny (model prog w) A (eval e env) (fun o s₁=>wpAny (model prog w) A (getAttr o f true) Q E s₁) E s):wpAny (model prog w) A (eval (.Attribute e f pos) env) Q E s :=
 Attribute_any_ h (by rw[arm_eval_Attribute,hb])
end
def Jz(K:W.Frag)(ta:TE)(f:Str):TE:=fun σ H Q=>ta σ H fun x H1 => ∃a C dx fs v,x=.ref a/\H1 a=some (.ins C dx fs)/\dQ K C/\aX K C f/\fs.lookup f=some v/\Q v H1
def Ko(K:W.Frag)(ta tv:TE)(f:Str):TS:=fun D σ H=>tv σ H fun y H1=>ta σ H1 fun x H2 => ∃a C dx fs,x=.ref a/\H2 a=some (.ins C dx fs)/\dQ K C/\aX K C f/\fs.length<1000 /\
 D.nx σ (aO H2 a (.ins C dx (cU f y fs)))
section
variable{o value:Expr}{f:Str}{tpos:Pos}{ta tv:TE}
theorem Ei(he:PE X e ta)(hb:attributeBase e f X.env (eval e X.env)=eval e X.env):PE X (.Attribute e f pos) (Jz X.K ta f):=by
 intro pins s σ H Q I h
 refine CY hb (aJ (he pins s σ H _ I h) fun u s1 ⟨x,H1,I1,rx,a,C,dx,fs,v,ex,ea,c,n,l,q⟩=>?_)
 subst ex
 obtain rfl:u=Value.ref a:=rx
 exact u9 I1 ea c n l fun u' s2 I2 ru=>⟨v,H1,I2,ru,q⟩
theorem qp(ha:PE X o ta)(hv:PE X value tv)(hs:swapsWith value (some (.Attribute o f pos')) pos.line X.env=pure false):PS X (.Assign [.Attribute o f pos'] value pos) (Ko X.K ta tv f):=by
 intro pins s σ H D I h
 refine plainObj_wpAny_Assign_Attribute (aJ (hv pins s σ H _ I h) fun u s1 ⟨y,H1,I1,ry,q⟩=>aJ (ha pins s1 σ H1 _ I1 q) fun ov s2 ⟨x,H2,I2,rx,a,C,dx,fs,ex,ea,c,n,l,q2⟩=>?_) hs
 subst ex
 obtain rfl:ov=Value.ref a:=rx
 exact uC I2 ea c n l ry fun s3 I3=>⟨σ,_,I3,q2⟩
end
section
variable{c:Value}{b:Bool}
inductive fG(K:W.Frag)(H:Hp):V->Value->Prop where
  | non:fG K H .non (.type "NoneType")
  | bl (x:Bool):fG K H (.bl x) (.type "bool")
  | int (i:Int):fG K H (.int i) (.type "int")
  | str (x:Str):fG K H (.str x) (.type "str")
  | flt (x:UInt64):fG K H (.flt x) (.type "float")
  | lst {a:Addr} {xs:List V} (e:H a=some (.lst xs)):fG K H (.ref a) (.type "list")
  | frz {a:Addr} {o:Obj} {xs:List V} (e:H a=some (.frz o (.lst xs))):fG K H (.ref a) (.type "list")
  | tup {a:Addr} {xs:List V} (e:H a=some (.tup xs)):fG K H (.ref a) (.type "tuple")
  | dK {a:Addr} {kvs:List (bS×V)} (e:H a=some (.dK kvs)):fG K H (.ref a) (.type "dict")
  | dT {a:Addr} {kvs:List (List bS×V)} (e:H a=some (.dT kvs)):fG K H (.ref a) (.type "dict")
  | ins {a C dx:Addr} {fs:List (Str×V)} (e:H a=some (.ins C dx fs)) (cl:dQ K C) (ha:W.findIn K (.ref C) "__class__" = some (some (.builtin "object.__class__")))
      (hn:W.specialIn K (.builtin "object.__class__") "__get__" = some (some (.builtin "getset_descriptor.__get__"))) (htk:W.takesIn K (.builtin "object.__class__")=some true)
      (hm:W.mroIn K C (.type "object")=some true):fG K H (.ref a) (.ref C)
theorem oM{x:V}{t:Value}(I:aj X pins σ H s)(rx:aT x u)(ty:fG X.K H x t)(e:W.kitOne X.K t c=some b)(h:∀tk,Q (.bool b) { s with toks:=tk }) :
  wpAny (model X.prog X.w) A (call (.builtin "isinstance") [u,c]) Q E s:=by
 cases ty with
 | non=>cases (show u=Value.none from rx);exact W.kia_one W.kitx_none I.kIn True.intro e (fun z=>nomatch z) h
 | bl y=>cases (show u=Value.bool y from rx);exact W.kia_one W.kitx_bool I.kIn True.intro e (fun z=>nomatch z) h
 | int i=>obtain⟨t,q⟩:=(show ∃t,u=Value.int i t from rx);cases q;exact W.kia_one W.kitx_int I.kIn True.intro e (fun z=>nomatch z) h
 | str y=>obtain⟨t,q⟩:=(show ∃t,u=Value.str y t from rx);cases q;exact W.kia_one W.kitx_str I.kIn True.intro e (fun z=>nomatch z) h
 | flt y=>obtain⟨t,q⟩:=(show ∃t,u=Value.float y t from rx);cases q;exact W.kia_one W.kitx_float I.kIn True.intro e (fun z=>nomatch z) h
 | @lst a xs ea =>
  cases (show u=Value.ref a from rx)
  obtain⟨_,_,n,_,h1⟩:=(show bM X.prog X.w H s.heap a (.lst xs)from I.hok a _ ea)
  exact W.kia_one W.kitx_list I.kIn ⟨_,h1,rfl⟩ e (fun z=>nomatch z) h
 | @frz a ob xs ea =>
  cases (show u=Value.ref a from rx)
  obtain⟨_,_,_,n,_,h1⟩:=(show bM X.prog X.w H s.heap a (.frz ob (.lst xs))from I.hok a _ ea)
  exact W.kia_one W.kitx_list I.kIn ⟨_,h1,rfl⟩ e (fun z=>nomatch z) h
 | @tup a xs ea =>
  cases (show u=Value.ref a from rx)
  obtain⟨_,_,_,p⟩:=(show bM X.prog X.w H s.heap a (.tup xs)from I.hok a _ ea)
  obtain⟨o,h1,h2,_⟩:=p
  exact W.kia_one W.kitx_tuple I.kIn ⟨o,h1,h2⟩ e (fun z=>nomatch z) h
 | @dK a kvs ea =>
  cases (show u=Value.ref a from rx)
  obtain⟨_,_,vs,_,p⟩:=(show bM X.prog X.w H s.heap a (.dK kvs)from I.hok a _ ea)
  obtain⟨o,es,ep,h1,h2,_⟩:=p
  exact W.kia_one W.kitx_dict I.kIn ⟨o,h1,h2.1⟩ e (fun z=>nomatch z) h
 | @dT a kvs ea =>
  cases (show u=Value.ref a from rx)
  obtain⟨_,_,xs,_,o,es,ep,h1,h2,_⟩:=(show bM X.prog X.w H s.heap a (.dT kvs)from I.hok a _ ea)
  exact W.kia_one W.kitx_dict I.kIn ⟨o,h1,h2.1⟩ e (fun z=>nomatch z) h
 | @ins a C dx fs ea cl ha hn htk hm =>
  cases (show u=Value.ref a from rx)
  obtain⟨mA,O,_⟩:=ke I.hok ea
  obtain⟨od,J,_⟩:=O.look
  exact W.kia_one (W.kitx_own (cl.get _) cl.hd ha hn htk hm) I.kIn J e (fun z=>nomatch z) h
end
structure bP(k:Nat)(A:Around):Prop where
 hd:A.handled=none
 dp:A.depth+3*k+5<recursionLimit
 un:A.units+16*k+200<cLine
theorem bP.mono(r:bP k A)(h:j<=k):bP j A:=⟨r.hd,by have:=r.dp;omega,by have:=r.un;omega⟩
theorem bP.deeper(r:bP (k+1) A)(env:Env):bP k (A.deeper env) :=
 ⟨r.hd,by have:=r.dp;show A.depth+1+3*k+5<_;omega,by have:=r.un;show A.units+3+16*k+200<_;omega⟩
theorem bP.in1(r:bP (k+1) A):bP k A.in1 :=
 ⟨r.hd,by have:=r.dp;show A.depth+3*k+5<_;omega,by have:=r.un;show A.units+1+16*k+200<_;omega⟩
theorem uW:(A.under (.builtin "type.__call__" ⟨.ref C::us,kw⟩)).depth=A.depth+1:=by
 first|rfl|simp[Around.under,Code.weight,Code.isCreation,Code.isGuard,Code.isCaller,Code.frames,Code.isFrame,guardIds]
theorem uV:(A.under (.builtin "type.__call__" ⟨.ref C::us,kw⟩)).units=A.units+1:=by
 first|rfl|simp[Around.under,Code.cUnits,Code.frames,Code.isFrame]
theorem bP.make(r:bP (k+1) A)(C:Addr)(us:List Value)(kw:List (Str×Value)):bP k (A.under (.builtin "type.__call__" ⟨.ref C::us,kw⟩)) :=
 ⟨r.hd,by have:=r.dp;rw[uW];omega,by have:=r.un;rw[uV];omega⟩
theorem bP.depth(r:bP k A):A.depth<recursionLimit:=by have:=r.dp;omega
theorem bP.units(r:bP k A):A.units+64<cLine:=by have:=r.un;omega
def ux:TA:=fun _ H Q=>Q [] H
def Hq(ta:TE)(tr:TA):TA:=fun σ H Q=>ta σ H fun x H1=>tr σ H1 fun xs H2=>Q (x::xs) H2
section
variable{t:TA}
theorem El:PA X [] ux:=fun _ _ _ _ H Q I h=>Calls.spliced_nil ⟨[],H,I,.nil,h⟩
theorem nA(ha:PE X e te)(hr:PA X es t)(hs:starEach (e::es) X.env=(false,eval e X.env)::starEach es X.env:=by rfl):PA X (e::es) (Hq te t):=by
 intro pos pins s σ H Q I h
 rw[hs]
 show wpAny _ _ (spliced ((false,eval e X.env)::backTo pos (starEach es X.env))) _ _ s
 refine Calls.spliced_cons (aJ (ha pins s σ H _ I h) fun u s1 ⟨x,H1,I1,r1,q1⟩=>?_)
 exact aJ (hr pos pins s1 σ H1 _ I1 q1) fun us s2 ⟨xs,H2,I2,r2,q2⟩=>⟨x::xs,H2,I2,.cons r1 r2,q2⟩
def Jq(t:TA):TE:=fun σ H Q=>t σ H fun xs H1=>xs.length<=sizeLine/\∀p,H1 p=none->Q (.ref p) (aO H1 p (.tup xs))
def Jw(t:TA):TE:=fun σ H Q=>t σ H fun xs H1=>xs.length<=sizeLine/\∀p,H1 p=none->Q (.ref p) (aO H1 p (.lst xs))
theorem Eb{x1}(h:PA X es t):PE X (.Tuple es x1 pos) (Jq t):=by
 intro pins s σ H Q I hq
 refine wpAny_Tuple_spliced (aJ (h pos pins s σ H _ I hq) fun us s1 ⟨xs,H1,I1,r,z,q⟩=>⟨by rw[<- r.length];exact z,?_⟩)
 have hf:H1 s1.heap.objs.size=none:=I1.hok.fresh (Nat.le_refl _)
 refine⟨.ref s1.heap.objs.size,aO H1 s1.heap.objs.size (.tup xs),I1.laid (t':=s1.toks) (fun b u e=>Heap.get?_push_of_some _ e) (Nat.le_refl _) ?_,rfl,q _ hf⟩
 exact⟨z,us,r,⟨_,Heap.get?_push_size _ rfl,rfl,_,rfl⟩⟩
theorem Eg(h:PA X es t):PE X (.List es pos) (Jw t):=by
 intro pins s σ H Q I hq
 refine wpAny_List_spliced (aJ (h pos pins s σ H _ I hq) fun us s1 ⟨xs,H1,I1,r,z,q⟩=>⟨by rw[<- r.length];exact z,?_⟩)
 have hf:H1 s1.heap.objs.size=none:=I1.hok.fresh (Nat.le_refl _)
 refine⟨.ref s1.heap.objs.size,aO H1 s1.heap.objs.size (.lst xs),I1.laid (t':=s1.toks) (fun b u e=>Heap.get?_push_of_some _ e) (Nat.le_refl _) ?_,rfl,q _ hf⟩
 exact⟨z,us,0,r,Heap.get?_push_size _ rfl⟩
end
abbrev Sp:=List V->Hp->VK->XK->Prop
abbrev gM:=List Env->Hp->Shared->XK->Value->Shared->Prop
structure hJ(P:Program)(w:World)(K:W.Frag)(mg:Str->Option Value)(base:Heap)(A:Around)(outer:List Env)(s:Shared)(H:Hp):Prop where
 frames:A.frames=some outer
 mod:Mod K mg base
 bs:∀b o,base.get? b=some o->s.heap.get? b=some o/\H b=none
 bsz:base.objs.size<=s.heap.objs.size
 funs:s.heap.FunFrames base outer
 frf:∀b∈jb outer,H b=none
 hok:cZ P w H s.heap
 bare:AllBare s.gens
def CE(outer:List Env)(P:Program)(w:World)(H:Hp)(s:Shared)(Q:VK)(u:Value)(s':Shared):Prop :=
 ∃v H',s'.os=s.os/\AllBare s'.gens/\Un (jb outer) [] H H' s.heap s'.heap/\cZ P w H' s'.heap/\aT v u/\Q v H'
def CR(CX:gM)(outer:List Env)(P:Program)(w:World)(H:Hp)(s:Shared)(Q:VK)(E:XK)(r:Result)(s':Shared):Prop :=
 match r with
 | .ok (.ret u)=>CE outer P w H s Q u s'
 | .ok _=>False
 | .error e=>CX outer H s E e s'
structure bF(P:Program)(w:World)(K:W.Frag)(mg:Str->Option Value)(base:Heap)(CX:gM)(k:Nat)(f:Addr)(fd:FuncData)(ps:List Str)(sp:Sp):Prop where
 len:∀vs H Q E,sp vs H Q E->vs.length=ps.length
 run:∀(A:Around) (outer:List Env) (s:Shared) (H:Hp) (args:Args) (us:List Value) (vs:List V) (Q:VK) (E:XK),bP k A->hJ P w K mg base A outer s H->BindsTo s fd args (ps.zip us)->aG vs us->sp vs H Q E ->
  codeAny (model P w) A (.call (.ref f) args) (CR CX outer P w H s Q E) s
theorem bF.mono{CX:gM}{f:Addr}{sp:Sp}(F:bF P w K mg base CX j f fd ps sp)(h:j<=k) :
  bF P w K mg base CX k f fd ps sp:=⟨F.len,fun A outer s H args us vs Q E hr=>F.run A outer s H args us vs Q E (hr.mono h)⟩
theorem hJ.make(e:hJ P w K mg base A outer s H)(C:Addr)(us:List Value)(kw:List (Str×Value)) :
  hJ P w K mg base (A.under (.builtin "type.__call__" ⟨.ref C::us,kw⟩)) outer s H:=⟨by first|exact e.frames|(simpa [Around.under,Code.envs,Code.isFrame,pushEnvs]using e.frames),e.mod,e.bs,e.bsz,e.funs,e.frf,e.hok,e.bare⟩
theorem hJ.in1(e:hJ P w K mg base A outer s H) :
  hJ P w K mg base A.in1 outer s H:=⟨e.frames,e.mod,e.bs,e.bsz,e.funs,e.frf,e.hok,e.bare⟩
section
theorem aj.env0(I:aj X pins σ H s):hJ X.prog X.w X.K X.mg X.base X.A X.stack s H :=
 ⟨I.ok.frames,I.ok.mod,I.bs,Nat.le_trans I.ok.bsz I.sz,I.stack,I.stkFree,I.hok,I.bare⟩
theorem aj.after{Q:VK}(I:aj X pins σ H s)(h:CE X.stack X.prog X.w H s Q u s'):EP X pins σ Q u s':=by
 obtain⟨v,H',os,bare,un,hok,r,q⟩:=h
 obtain⟨hh,g,d,t,os'⟩:=s'
 obtain rfl:os'=s.os:=os
 exact⟨v,H',I.call (h':=hh) (g':=g) (d':=d) (t':=t) (ch:=[]) un hok bare (fun b z=>absurd z (by simp)),r,q⟩
end
def uy(sp:Sp)(dvs:List V)(E:XK)(t:TA):TE:=fun σ H Q=>t σ H fun vs H1=>sp (vs++dvs) H1 Q E
def zP(C:Addr)(m:Str)(sp:Sp)(dvs:List V)(E:XK)(ta:TE)(t:TA):TE:=fun σ H Q=>ta σ H fun x H1 => ∃a dx fs,x=.ref a/\H1 a=some (.ins C dx fs)/\fs.lookup m=none /\
 t σ H1 fun vs H2=>sp (x::(vs++dvs)) H2 Q E
def zQ(C:Addr)(sp:Sp)(dvs:List V)(E:XK)(t:TA):TE:=fun σ H Q=>t σ H fun vs H1 => ∀x dx,H1 x=none->H1 dx=none->dx≠x ->
 sp (.ref x::(vs++dvs)) (aO (aO H1 dx (.own x)) x (.ins C dx [])) (fun v H2=>v=.non/\Q (.ref x) H2) E
def cf(K:W.Frag)(fd:FuncData)(ps:List Str)(ds:List Value):Prop :=
 ∀(s:Shared) (us:List Value),K.In s.heap->(us++ds).length=ps.length->BindsTo s fd ⟨us,[]⟩ (ps.zip (us++ds))
theorem cf.all(h:∀us:List Value,us.length=ps.length->bindArgs fd ⟨us,[]⟩=pure (ps.zip us)):cf K fd ps []:=fun s us _ hl=>by
 rw[List.append_nil]at hl⊢
 exact .of_eq (h us hl)
def eD(CX:gM)(X:Cx)(E:XK):Prop:=∀(pins:List (Addr×Obj)) (σ:St) (H:Hp) (s:Shared) (e:Value) (s':Shared),aj X pins σ H s->CX X.stack H s E e s'->X.xe e s'
section
variable{CX:gM}{f:Addr}{sp:Sp}{dvs:List V}{ds:List Value}{E:XK}{m:Str}{apos:Pos}{o:Expr}{ta:TE}{t:TA}
theorem jr{Q:VK}(F:bF X.prog X.w X.K X.mg X.base CX k f fd ps sp)(hr:bP k X.A)(hb:cf X.K fd ps ds)(hd:aG dvs ds)(hx:eD CX X E)
  (I:aj X pins σ H s) (r:aG vs us) (h:sp (vs++dvs) H Q E):wpAny (model X.prog X.w) X.A (call (.ref f) us) (EP X pins σ Q) X.xe s:=by
 have r2:aG (vs++dvs) (us++ds):=r.append hd
 have hl:(us++ds).length=ps.length:=by rw[<- r2.length];exact F.len _ _ _ _ h
 refine wpAny_call (codeAny_mono (F.run X.A X.stack s H ⟨us,[]⟩ (us++ds) (vs++dvs) Q E hr I.env0 (hb s us I.kIn hl) r2 h) fun r s' hq=>?_)
 cases r with
 | error e=>exact hx pins σ H s e s' I hq
 | ok fl =>
  cases fl with
  | ret u=>exact I.after hq
  | next=>exact False.elim hq
  | brk=>exact False.elim hq
  | cont=>exact False.elim hq
theorem BC(F:bF X.prog X.w X.K X.mg X.base CX k f fd ps sp)(hr:bP k X.A)(hg:Gl X x)(hm:X.mg x=some (.ref f))(hk:W.keepIn X.K (.ref f)=true)(hb:cf X.K fd ps ds)(hd:aG dvs ds)(hx:eD CX X E)
  (ha:PA X (e::es) t) (hdb:(x==("__debug__" : Str))=false:=by decide) (he:starEach (e::es) X.env=(false,eval e X.env)::starEach es X.env:=by rfl) (hpl:(backTo pos (starEach es X.env)).any (·.1)=false:=by rfl) :
  PE X (.Call (.Name x p) (e::es) [] pos) (uy sp dvs E t):=by
 intro pins s σ H Q I h
 refine wpAny_Call_Name_kw (fR I hg hm ?_ hdb)
 refine W.callWith_K (h₀:=X.base) I.ok.mod.kin hk (aJ (ha pos pins s σ H _ I h) fun us s1 ⟨vs,H1,I1,r,q⟩=>⟨I1.kIn,?_⟩) he hpl
 exact jr F hr hb hd hx I1 r q
theorem yf(F:bF X.prog X.w X.K X.mg X.base CX k f fd ps sp)(hr:bP k X.A)(hg:Gl X x)(hm:X.mg x=some (.ref f))(hk:W.keepIn X.K (.ref f)=true)(hb:cf X.K fd ps ds)(hd:aG dvs ds)(hx:eD CX X E)
  (hdb:(x==("__debug__" : Str))=false:=by decide):PE X (.Call (.Name x p) [] [] pos) (uy sp dvs E ux):=by
 intro pins s σ H Q I h
 refine wpAny_Call_Name_kw (fR I hg hm ?_ hdb)
 exact W.callWith_K0 I.kIn hk (jr (us:=[]) F hr hb hd hx I .nil h)
theorem BA(he:PE X o ta)(c:dQ X.K C)(hm:oq X.K C m f)(F:bF X.prog X.w X.K X.mg X.base CX k f fd ps sp)(hr:bP k X.A)(hb:cf X.K fd ps ds)(hd:aG dvs ds)(hx:eD CX X E)(ha:PA X (e::es) t)
  (hst:starEach (e::es) X.env=(false,eval e X.env)::starEach es X.env:=by rfl) (hpl:(backTo pos (starEach es X.env)).any (·.1)=false:=by rfl)
  (ht:eval (.Call (.Attribute o m apos) (e::es) [] pos) X.env=(do
   let ov <- eval o X.env
   standAt apos.atName
   let (f,first) <- holding [ov] (getMethod ov m pl)
   callWith pos f first (backTo pos (starEach (e::es) X.env)) (backToKw pos (keywordEach [] X.env))):=by rfl) :
  PE X (.Call (.Attribute o m apos) (e::es) [] pos) (zP C m sp dvs E ta t):=by
 intro pins s σ H Q I h
 refine W.methodCall_KW (pl:=pl) (aJ (he pins s σ H _ I h) fun u s1 ⟨x,H1,I1,rx,a,dx,fs,ex,ea,l,q⟩=>?_) ht
 subst ex
 obtain rfl:u=Value.ref a:=rx
 refine mh I1 ea c hm l ?_
 refine W.callWith_K (first:=[.ref a]) (h₀:=X.base) I.ok.mod.kin hm.kp (aJ (ha pos pins s1 σ H1 _ I1 q) fun us s2 ⟨vs,H2,I2,r,q2⟩=>⟨I2.kIn,?_⟩) hst hpl
 exact jr (us:=.ref a::us) (vs:=.ref a::vs) F hr hb hd hx I2 (.cons rfl r) q2
theorem yb(he:PE X o ta)(c:dQ X.K C)(hm:oq X.K C m f)(F:bF X.prog X.w X.K X.mg X.base CX k f fd ps sp)(hr:bP k X.A)(hb:cf X.K fd ps ds)(hd:aG dvs ds)(hx:eD CX X E)
  (ht:eval (.Call (.Attribute o m apos) [] [] pos) X.env=(do
   let ov <- eval o X.env
   standAt apos.atName
   let (f,first) <- holding [ov] (getMethod ov m pl)
   callWith pos f first (backTo pos (starEach [] X.env)) (backToKw pos (keywordEach [] X.env))):=by rfl) :
  PE X (.Call (.Attribute o m apos) [] [] pos) (zP C m sp dvs E ta ux):=by
 intro pins s σ H Q I h
 refine W.methodCall_KW (pl:=pl) (aJ (he pins s σ H _ I h) fun u s1 ⟨x,H1,I1,rx,a,dx,fs,ex,ea,l,q⟩=>?_) ht
 subst ex
 obtain rfl:u=Value.ref a:=rx
 refine mh I1 ea c hm l ?_
 exact W.callWith_K0 (first:=[.ref a]) I1.kIn hm.kp (jr (us:=[.ref a]) (vs:=[.ref a]) F hr hb hd hx I1 (.cons rfl .nil) q)
structure Mk(K:W.Frag)(C f:Addr):Prop where
 makes:W.makesIn K C=true
 init:W.findIn K (.ref C) "__init__" = some (some (.ref f))
 fn:W.isFn K (.ref f)=true
 kp:W.keepIn K (.ref C)=true
theorem qe{Q:VK}(M:Mk X.K C f)(F:bF X.prog X.w X.K X.mg X.base CX k f fd ps sp)(hr:bP (k+1) X.A)(hb:cf X.K fd ps ds)(hd:aG dvs ds)
  (hx:eD CX X E) (I:aj X pins σ H s) (r:aG vs us)
  (h:∀x dx,H x=none->H dx=none->dx≠x->sp (.ref x::(vs++dvs)) (aO (aO H dx (.own x)) x (.ins C dx [])) (fun v H2=>v=.non/\Q (.ref x) H2) E) :
  wpAny (model X.prog X.w) X.A (call (.ref C) us) (EP X pins σ Q) X.xe s:=by
 have hq:=h (s.heap.objs.size+1) s.heap.objs.size (I.hok.fresh (Nat.le_succ _)) (I.hok.fresh (Nat.le_refl _)) (Nat.ne_of_lt (Nat.lt_succ_self _))
 have I2:=aj.made (C:=C) I
 have r2:aG (V.ref (s.heap.objs.size+1)::(vs++dvs)) (Value.ref (s.heap.objs.size+1)::(us++ds)):=.cons rfl (r.append hd)
 have hl:(Value.ref (s.heap.objs.size+1)::us++ds).length=ps.length:=by
  have e:=r2.length
  rw[F.len _ _ _ _ hq]at e
  exact e.symm
 refine wpAny_call (yk (f:=f) I.kIn M.makes M.init (beq_iff_eq.mp M.fn) (codeAny_mono (F.run _ X.stack _ _ ⟨Value.ref (s.heap.objs.size+1)::us,[]⟩ (Value.ref (s.heap.objs.size+1)::(us++ds)) _ _ E (hr.make C us [])
  (I2.env0.make C us []) (hb _ (Value.ref (s.heap.objs.size+1)::us) I2.kIn hl) r2 hq) fun r s' hq'=>?_))
 cases r with
 | error e=>exact hx pins σ _ _ e s' I2 hq'
 | ok fl =>
  cases fl with
  | ret u =>
   obtain⟨v,H',I3,rv,ev,q3⟩:=I2.after hq'
   subst ev
   exact⟨rv,⟨V.ref (s.heap.objs.size+1),H',I3,rfl,q3⟩⟩
  | next=>exact False.elim hq'
  | brk=>exact False.elim hq'
  | cont=>exact False.elim hq'
theorem BB(M:Mk X.K C f)(F:bF X.prog X.w X.K X.mg X.base CX k f fd ps sp)(hr:bP (k+1) X.A)(hg:Gl X x)(hm:X.mg x=some (.ref C))(hb:cf X.K fd ps ds)(hd:aG dvs ds)(hx:eD CX X E)
  (ha:PA X (e::es) t) (hdb:(x==("__debug__" : Str))=false:=by decide) (he:starEach (e::es) X.env=(false,eval e X.env)::starEach es X.env:=by rfl) (hpl:(backTo pos (starEach es X.env)).any (·.1)=false:=by rfl) :
  PE X (.Call (.Name x p) (e::es) [] pos) (zQ C sp dvs E t):=by
 intro pins s σ H Q I h
 refine wpAny_Call_Name_kw (fR I hg hm ?_ hdb)
 refine W.callWith_K (h₀:=X.base) I.ok.mod.kin M.kp (aJ (ha pos pins s σ H _ I h) fun us s1 ⟨vs,H1,I1,r,q⟩=>⟨I1.kIn,?_⟩) he hpl
 exact qe M F hr hb hd hx I1 r q
theorem yc(M:Mk X.K C f)(F:bF X.prog X.w X.K X.mg X.base CX k f fd ps sp)(hr:bP (k+1) X.A)(hg:Gl X x)(hm:X.mg x=some (.ref C))(hb:cf X.K fd ps ds)(hd:aG dvs ds)(hx:eD CX X E)
  (hdb:(x==("__debug__" : Str))=false:=by decide):PE X (.Call (.Name x p) [] [] pos) (zQ C sp dvs E ux):=by
 intro pins s σ H Q I h
 refine wpAny_Call_Name_kw (fR I hg hm ?_ hdb)
 exact W.callWith_K0 I.kIn M.kp (qe (us:=[]) M F hr hb hd hx I .nil h)
end
section
variable{CX:gM}{f:Addr}{ks:List Str}{sp:Sp}{E:XK}{m:Str}{apos kpos:Pos}{o:Expr}{kws:List Keyword}{ta:TE}{t tk:TA}{nm:Option Str}
variable{g:List Value->List Value->List Value}{gV:List V->List V->List V}
end
structure aK(N P:List Str)(sc:Scope):Prop where
 kind:sc.kind=.function
 co:sc.isCoroutine=false
 gen:sc.isGenerator=false
 nd:N.Nodup
 pre:N.take P.length=P
 par:∀x∈P,sc.names.lookup x=some .local\/sc.names.lookup x=some .cell
 nofree:∀y∈sc.names,y.2 ≠ .free
theorem oR{kindOf:Str->Option NameKind}{x:Str}:∀{binds:List (Str×Value)} {m:Str->Option Value},(∀v,(x,v)∉binds)->bindL kindOf binds m x=m x
 | [],_,_=>rfl
 | (n,v)::r,m,h=>by
  unfold bindL
  rw[oR fun w hw=>h w (List.mem_cons_of_mem _ hw)]
  split
  ·have:x≠n:=by rintro rfl;exact h v List.mem_cons_self
   simp[this]
  ·rfl
theorem oT{kindOf:Str->Option NameKind}{x:Str}:∀{binds:List (Str×Value)} {m:Str->Option Value},(∀v,(x,v)∉binds)->bindC kindOf binds m x=m x
 | [],_,_=>rfl
 | (n,v)::r,m,h=>by
  unfold bindC
  rw[oT fun w hw=>h w (List.mem_cons_of_mem _ hw)]
  split
  ·rfl
  ·have:x≠n:=by rintro rfl;exact h v List.mem_cons_self
   simp[this]
theorem oS{kindOf:Str->Option NameKind}{x:Str}{v:Value}:∀{P:List Str} {vs:List Value} {i:Nat} {m:Str->Option Value},P.Nodup->P[i]?=some x->vs[i]?=some v->kindOf x=some .local ->
  bindL kindOf (P.zip vs) m x=some v
 | [],_,_,_,_,h,_,_=>by simp at h
 | _::_,[],_,_,_,_,h,_=>by simp at h
 | p::P,w::vs,0,m,nd,h1,h2,hk=>by
  simp at h1 h2;subst h1;subst h2
  show bindL kindOf ((p,w)::P.zip vs) m p=_
  unfold bindL
  rw[oR fun v hv=>(List.nodup_cons.mp nd).1 (List.of_mem_zip hv).1,if_pos hk]
  simp
 | p::P,w::vs,i+1,m,nd,h1,h2,hk=>by
  show bindL kindOf ((p,w)::P.zip vs) m x=_
  unfold bindL
  exact oS (i:=i) (List.nodup_cons.mp nd).2 (by simpa using h1) (by simpa using h2) hk
theorem oU{kindOf:Str->Option NameKind}{x:Str}{v:Value}:∀{P:List Str} {vs:List Value} {i:Nat} {m:Str->Option Value},P.Nodup->P[i]?=some x->vs[i]?=some v->kindOf x≠some .local ->
  bindC kindOf (P.zip vs) m x=some v
 | [],_,_,_,_,h,_,_=>by simp at h
 | _::_,[],_,_,_,_,h,_=>by simp at h
 | p::P,w::vs,0,m,nd,h1,h2,hk=>by
  simp at h1 h2;subst h1;subst h2
  show bindC kindOf ((p,w)::P.zip vs) m p=_
  unfold bindC
  rw[oT fun v hv=>(List.nodup_cons.mp nd).1 (List.of_mem_zip hv).1,if_neg hk]
  simp
 | p::P,w::vs,i+1,m,nd,h1,h2,hk=>by
  show bindC kindOf ((p,w)::P.zip vs) m x=_
  unfold bindC
  exact oU (i:=i) (List.nodup_cons.mp nd).2 (by simpa using h1) (by simpa using h2) hk
def start(N:List Str)(vs:List V):St:=vs.map some++List.replicate (N.length-vs.length) none
def iW(CX:gM)(P:Program)(w:World)(K:W.Frag)(mg:Str->Option Value)(base:Heap)(N:List Str)(qual:Str)(scope:Scope)(f:Addr)(cd:Value)(A:Around)(outer:List Env)(s:Shared)(H:Hp)(E:XK):Cx where
 prog:=P
 w:=w
 K:=K
 mg:=mg
 base:=base
 A:=A.deeper (envOfC qual scope s.heap.objs.size f cd)
 N:=N
 s₀:=s
 H₀:=H
 env:=envOfC qual scope s.heap.objs.size f cd
 outer:=outer
 stack:=envOfC qual scope s.heap.objs.size f cd::outer
 ex:=[]
 calm:=true
 fn:=fun _=>true
 pn:=[]
 xe:=fun e s'=>wpAny (model P w) (A.deeper (envOfC qual scope s.heap.objs.size f cd)) (leaving (envOfC qual scope s.heap.objs.size f cd) e) (fun _ s''=>CX outer H s E e s'') (fun e' s''=>CX outer H s E e' s'') s'
theorem rL{sc:Scope}(h:sc.names.lookup x=some .cell):∃c,(cellsFrom n sc.names []).lookup x=some c:=by
 have q:=W.cellsFrom_some sc.names n [] (.inl h)
 exact Option.isSome_iff_exists.mp q
theorem wH{CX:gM}{f:Addr}{cd:Value}{s1:Shared}{E:XK}
  (S:aK N ps scope) (hd:A.handled=none) (e0:hJ P w K mg base A outer s H) (hl:vs.length=ps.length) (r:aG vs us)
  (x:InCallC s s.heap.objs.size (bindL (envOfC qual scope s.heap.objs.size f cd).kindOf (ps.zip us) fun _=>none) (cellsFrom (s.heap.objs.size+1) scope.names []) (bindC (envOfC qual scope s.heap.objs.size f cd).kindOf (ps.zip us) fun _=>none) s1) :
  aj (iW CX P w K mg base N qual scope f cd A outer s H E) [] (start N vs) H s1:=by
 have hpl:ps.length<=N.length:=by have:=congrArg List.length S.pre;rw[List.length_take]at this;omega
 obtain⟨h1,tk,rfl,hk⟩:=x.done
 have noA:∀b:Addr,b∉(iW CX P w K mg base N qual scope f cd A outer s H E).ex:=fun b z=>absurd (show b∈([]:List Addr)from z) (by simp)
 refine⟨⟨e0.mod,S.kind,rfl,rfl,Nat.le_refl _,fun y z c h1 h2=>?_,fun y hy=>?_,fun y c _ h=>?_,fun _=>hd,Around.frames_deeper e0.frames,.inr ⟨rfl,rfl⟩,fun b z=>absurd z (noA b),e0.bs,e0.bsz,fun b _ _=>noA b,fun b z=>absurd z (noA b),e0.funs,e0.frf⟩,
  rfl,e0.bare,Un.kept hk,⟨_,x.toInCall.ns,fun i y v h1 h2 h3=>?_⟩,fun y c h=>⟨_,x.cell y c h⟩,e0.hok.fresh (Nat.le_refl _),fun y c h=>?_,fun p hp=>absurd (show p∈([]:List (Addr×Obj))from hp) (by simp),e0.hok.kept hk,?_⟩
 ·exact name_of_addr x.apart (PySem.mem_of_lookup h1) (PySem.mem_of_lookup h2)
 ·have hy:scope.names.lookup y=some .cell\/scope.names.lookup y=some .free:=hy
  rcases hy with hy|hy
  ·exact rL hy
  ·exact absurd rfl (S.nofree _ (PySem.mem_of_lookup hy))
 ·exact Nat.le_of_lt (x.above y c (PySem.mem_of_lookup h))
 ·have hi:i<vs.length:=by
   unfold start at h2
   by_cases hi:i<vs.length
   ·exact hi
   ·rw[List.getElem?_append_right (by simpa using hi)]at h2
    rw[List.getElem?_replicate]at h2
    split at h2<;>cases h2
  have ha:vs[i]?=some v:=by
   unfold start at h2
   rw[List.getElem?_append_left (by simpa using hi),List.getElem?_map]at h2
   cases e:vs[i]? with
   | none=>rw[e]at h2;cases h2
   | some a=>rw[e]at h2;cases h2;rfl
  obtain⟨u,hu,rv⟩:=r.get ha
  have hp:ps[i]?=some y:=by
   rw[<- S.pre,List.getElem?_take_of_lt (by omega)];exact h1
  have ndP:ps.Nodup:=by rw[<- S.pre];exact S.nd.sublist (List.take_sublist _ _)
  refine⟨u,rv,?_⟩
  rcases S.par y (List.mem_of_getElem? hp)with k|k
  ·exact .inl ⟨k,oS ndP hp hu k⟩
  ·obtain⟨c,e⟩:=rL (n:=s.heap.objs.size+1) k
   refine .inr ⟨.inl k,c,e,?_⟩
   have q:=x.cell y c e
   rw[oU ndP hp hu (by show scope.names.lookup y≠_;rw[k];decide)]at q
   exact q
 ·exact e0.hok.fresh (Nat.le_of_lt (x.above y c (PySem.mem_of_lookup h)))
 ·unfold start
  show _=N.length
  rw[List.length_append,List.length_map,List.length_replicate]
  omega
theorem Iy{CX:gM}{f:Addr}{name:Str}{params:Arguments}{dV kV doc pm cdv ct oc:Value}{an od:Option Addr}
  {osl:Array (Option Value)} {sp:Sp} (lk:K.lookup f=some ⟨oc,od,.func (W.fnOf name qual params body scope dV kV doc pm an cdv ct),osl⟩) (hcd:W.codeIn K cdv qual=true) (S:aK N ps scope)
  (len:∀vs H Q E,sp vs H Q E->vs.length=ps.length)
  (hbody:∀(A:Around) (outer:List Env) (s:Shared) (H:Hp) (vs:List V) (Q:VK) (E:XK),bP k (A.deeper (envOfC qual scope s.heap.objs.size f cdv))->sp vs H Q E ->
   ∃t,eN (iW CX P w K mg base N qual scope f cdv A outer s H E) body t/\t { nx:=fun _ H'=>Q .non H',rt:=Q } (start N vs) H) :
  bF P w K mg base CX (k+1) f (W.fnOf name qual params body scope dV kV doc pm an cdv ct) ps sp:=by
 refine⟨len,fun A outer s H args us vs Q E hr e0 hb r hsp=>?_⟩
 have hl:=len _ _ _ _ hsp
 have KX:K.In s.heap:=e0.mod.kin.keeps fun b o e=>(e0.bs b o e).1
 have lim:s.heap.NoLimit:=e0.mod.nolimit.keeps fun b o e=>(e0.bs b o e).1
 have hkind:∀y∈ps.zip us,scope.names.lookup y.1=some .local\/(scope.names.lookup y.1=some .cell/\((cellsFrom (s.heap.objs.size+1) scope.names []).lookup y.1).isSome=true):=fun⟨n,v⟩ hy=>by
  rcases S.par n (List.of_mem_zip hy).1 with q|q
  ·exact .inl q
  ·exact .inr ⟨q,W.cellsFrom_some _ _ _ (.inl q)⟩
 refine codeAny_call_function hr.depth (KX _ _ lk) rfl S.co S.gen rfl (W.codeRec_of KX hcd) (hb _ _ _ _ ?_)
 refine wpAny_newFunctionEnv_cells S.kind hkind fun env he s1 x=>?_
 subst he
 refine⟨lim.keeps x.toInCall.keep,codeAny_func ?_⟩
 obtain⟨t,ht,hq⟩:=hbody A outer s H vs Q E (hr.deeper _) hsp
 have I:aj (iW CX P w K mg base N qual scope f cdv A outer s H E) [] (start N vs) H s1:=wH S hr.hd e0 hl r x
 refine wpAny_mono (ht [] s1 (start N vs) H _ I hq) (fun fl s' hs=>?_) fun e s' hs=>hs
 have fin:∀{σ':St} {H':Hp} {v:V} {u:Value},aj (iW CX P w K mg base N qual scope f cdv A outer s H E) [] σ' H' s'->aT v u->Q v H'->CE outer P w H s Q u s' :=
  fun {σ' H' v u} J rv q=>⟨v,H',J.os,J.bare,J.base,J.hok,rv,q⟩
 cases fl with
 | ret u =>
  obtain⟨v,σ',H',J,rv,q⟩:=hs
  exact fin J rv q
 | next =>
  obtain⟨σ',H',J,q⟩:=hs
  exact fin (v:=V.non) (u:=Value.none) J rfl q
 | brk =>
  obtain⟨_,_,_,q⟩:=hs
  exact False.elim q
 | cont =>
  obtain⟨_,_,_,q⟩:=hs
  exact False.elim q
section
variable{t:TA}{id T:String}{r:List V->Hp->VK->Prop}
def IY(r:List V->Hp->VK->Prop)(t:TA):TE:=fun σ H Q=>t σ H fun vs H1=>r vs H1 Q
theorem ye(hc:cK X (.builtin id) r)(hg:Gl X x)(hm:X.mg x=none)(hv:bootBuiltins x=some (.builtin id))(ha:PA X (e::es) t)(hn:x ≠ "__name__" := by decide)(hdb:(x==("__debug__" : Str))=false:=by decide)
  (he:starEach (e::es) X.env=(false,eval e X.env)::starEach es X.env:=by rfl) (hpl:(backTo pos (starEach es X.env)).any (·.1)=false:=by rfl):PE X (.Call (.Name x p) (e::es) [] pos) (IY r t):=by
 intro pins s σ H Q I h
 refine wpAny_Call_Name_kw (dC I hg hm hv ?_ hn hdb)
 exact PyProof.Rows.callWith_builtin1 (aJ (ha pos pins s σ H _ I h) fun us s1 ⟨vs,H1,I1,r1,q1⟩=>hc pins s1 σ H1 vs us Q I1 r1 q1) he hpl
theorem wc(hc:cK X (.type T) r)(hg:Gl X x)(hm:X.mg x=none)(hv:bootBuiltins x=some (.type T))(ha:PA X (e::es) t)(hn:x ≠ "__name__" := by decide)(hdb:(x==("__debug__" : Str))=false:=by decide)
  (he:starEach (e::es) X.env=(false,eval e X.env)::starEach es X.env:=by rfl) (hpl:(backTo pos (starEach es X.env)).any (·.1)=false:=by rfl):PE X (.Call (.Name x p) (e::es) [] pos) (IY r t):=by
 intro pins s σ H Q I h
 refine wpAny_Call_Name_kw (dC I hg hm hv ?_ hn hdb)
 exact PyProof.Rows.callWith_type1 (aJ (ha pos pins s σ H _ I h) fun us s1 ⟨vs,H1,I1,r1,q1⟩=>hc pins s1 σ H1 vs us Q I1 r1 q1) he hpl
end
end L2
namespace HT
open PySem PyProof.Rows
variable{b sl t:Addr}{Q:Value->Shared->Prop}{vl vu:Value}{hi lo:Option Int}
def lexLt:List Int->List Int->Bool
 | [],[]=>false
 | [],_::_=>true
 | _::_,[]=>false
 | x::xs,y::ys=>if x=y then lexLt xs ys else decide (x<y)
theorem uZ(x y:Int)(xs ys:List Int):lexLt (x::xs) (y::ys)=if x=y then lexLt xs ys else decide (x<y):=rfl
theorem o5:lexLt [] []=false:=rfl
theorem nK(y:Int)(ys:List Int):lexLt [] (y::ys)=true:=rfl
theorem nL(x:Int)(xs:List Int):lexLt (x::xs) []=false:=rfl
theorem yK(A:Around)(s:Shared)(a:Int)(t:Tok)(c:Int)(u:Tok):∃e,SeqAt.EqAt A s (.int a t) (.int c u) e/\(e=true↔a=c) :=
 ⟨(a==c),SeqAt.EqAt.int_int a t c u,by simp⟩
theorem x5(A:Around)(s:Shared)(a:Int)(t:Tok)(c:Int)(u:Tok)(prog:Program)(w:World)(E:Value->Shared->Prop)(Q:Value->Shared->Prop)(h:Q (.bool (decide (a<c))) s) :
  wpAny (model prog w) A (richCompare .Lt (.int a t) (.int c u)) Q E s :=
 (PyProof.Rows.lt_int h:wpAny (model prog w) A (compareOp .Lt (.int a t) (.int c u)) Q E s)
section
open PySem.SeqAt
open PySem.AutoSeq1 (wpAny_loadPart')
open PySem.MeetsSeq PySem.MeetsSeq2 PySem.MeetsSeq3
theorem oY(l b:Addr)(items items2:Array Value)(n n2:Nat)(dd dd2:Option Addr)(sl sl2:Array (Option Value))(ns ms:List Int)(hi:IntsAre items.toList ns)(hj:IntsAre items2.toList ms) :
  Meets (Builtin.«tuple.__lt__» ⟨[.ref l,.ref b],[]⟩)
   (fun _ R s=>s.heap.get? l=some { cls:=.type "tuple", dict:=dd,data:=.seq items n,slots:=sl }/\s.heap.get? b=some { cls:=.type "tuple", dict:=dd2,data:=.seq items2 n2,slots:=sl2 } /\
    R (.ok (.ret (.bool (lexLt ns ms)))) s) :=
 .of_wp fun prog w A R s h=>by
  obtain⟨hp,g,d,tk,os⟩:=s;obtain⟨hl,hb,h⟩:=h
  have f2:=AutoSeq1.sub_tuple_tuple
  have z1:items.size=ns.length:=by rw[<- hi.length];simp
  have z2:items2.size=ms.length:=by rw[<- hj.length];simp
  wp_walk using wpAny_loadPart' hl,wpAny_loadPart' hb,wpAny_forIn_list _ (fun bT b s'=>b.1=none/\s'=⟨hp,g,d,tk,os⟩/\∃(vs ws:List Value) (ns' ms':List Int),bT=vs.zip ws /\
   IntsAre vs ns'/\IntsAre ws ms'/\ns'.length+items2.size=ms'.length+items.size/\R (.ok (.ret (.bool (lexLt ns' ms')))) ⟨hp,g,d,tk,os⟩) _
  case turn =>
   rintro⟨y,x⟩ bT b s' ⟨hb',rfl,vs,ws,ns',ms',hz,hvi,hwi,hlen,hR⟩
   cases hvi with
   | nil=>rw[List.zip_nil_left]at hz;cases hz
   | cons a t hvi' =>
    cases hwi with
    | nil=>rw[List.zip_nil_right]at hz;cases hz
    | cons c u hwi' =>
     rw[List.zip_cons_cons]at hz
     injection hz with hyx hrest
     injection hyx with hy hx
     subst hy hx
     rw[uZ]at hR
     simp only[List.length_cons]at hlen
     obtain⟨e,he,hiff⟩:=yK A.in1 ⟨hp,g,d,tk,os⟩ a t c u
     refine wpAny_bind (he prog w _ _ ?_)
     cases e with
     | true =>
      rw[if_pos (hiff.mp rfl)]at hR
      wp_walk
      exact⟨rfl,rfl,_,_,_,_,hrest,hvi',hwi',by omega,hR⟩
     | false =>
      rw[if_neg (fun q=>absurd (hiff.mpr q) Bool.false_ne_true)]at hR
      have hri:=x5 A.in1 ⟨hp,g,d,tk,os⟩ a t c u prog w
      wp_walk using hri
      exact⟨_,rfl,by simpa using hR⟩
  case fin =>
   rintro⟨b1,b2⟩ s' ⟨hb',rfl,vs,ws,ns',ms',hz,hvi,hwi,hlen,hR⟩
   simp only at hb'
   subst hb'
   have hv:lexLt ns' ms'=decide (items.size<items2.size):=by
    cases hvi with
    | nil =>
     cases hwi with
     | nil =>
      simp only[List.length_nil]at hlen
      rw[o5]
      exact(decide_eq_false (by omega)).symm
     | cons c u hw =>
      simp only[List.length_nil,List.length_cons]at hlen
      rw[nK]
      exact(decide_eq_true (by omega)).symm
    | cons a t hv =>
     cases hwi with
     | nil =>
      simp only[List.length_nil,List.length_cons]at hlen
      rw[nL]
      exact(decide_eq_false (by omega)).symm
     | cons c u hw =>
      rw[List.zip_cons_cons]at hz
      cases hz
   rw[hv]at hR
   wp_walk
   exact⟨_,rfl,by simpa [Builtin.Tuple.tupleCompareSizes]using hR⟩
  case h =>
   exact⟨rfl,rfl,items.toList,items2.toList,ns,ms,rfl,hi,hj,by omega,h⟩
end
section
variable{prog:Program}{w:World}{A:Around}{E:Value->Shared->Prop}{s:Shared}
theorem lt_tupInts{l:Addr}{items items2:Array Value}{ns ms:List Int}(hl:IsTup s.heap l items)(hb:IsTup s.heap b items2)(hi:IntsAre items.toList ns)(hj:IntsAre items2.toList ms)
  (hu:A.units<cLine) (h:Q (.bool (lexLt ns ms)) s):wpAny (model prog w) A (compareOp .Lt (.ref l) (.ref b)) Q E s:=by
 obtain⟨⟨cls,dd,data,sl⟩,ho,hc,n,hd⟩:=id hl
 obtain⟨⟨cls2,dd2,data2,sl2⟩,ho2,hc2,n2,hd2⟩:=id hb
 simp only at hc hd hc2 hd2
 subst hc hd hc2 hd2
 exact richCompare_meets_room (op:=.Lt) ⟨_,ho,rfl⟩ ⟨_,ho2,rfl⟩ PySem.F.slot_tuple_lt PySem.F.entry_tuple_lt (PySem.F.args_tuple_lt_2 _ _) (oY l b items items2 n n2 dd dd2 sl sl2 ns ms hi hj)
  ⟨ho,ho2,show Value.bool (lexLt ns ms)≠Value.notImplemented/\Q (.bool (lexLt ns ms)) s from⟨(fun x=>nomatch x),h⟩⟩ hu
theorem cat_tup{vs ws:List Value}(ht:IsTup s.heap t vs.toArray)(hb:IsTup s.heap b ws.toArray)(hv:vs≠[])
  (h1:ws=[]->Q (.ref t) s) (h2:ws≠[]->Q (.ref s.heap.objs.size) { s with heap:=s.heap.push { cls:=.type "tuple", data:=.seq (vs++ws).toArray } })
  (hsz:vs.length+ws.length<=sizeLine):wpAny (model prog w) A (binaryOp .Add (.ref t) (.ref b)) Q E s:=by
 obtain⟨⟨cls,dd,data,sl⟩,ho,hc,n,hd⟩:=id ht
 obtain⟨⟨cls2,dd2,data2,sl2⟩,ho2,hc2,n2,hd2⟩:=id hb
 simp only at hc hd hc2 hd2
 subst hc hd hc2 hd2
 have e:vs.toArray++ws.toArray=(vs++ws).toArray:=by simp
 by_cases hw:ws=[]
 ·exact concat_meets ⟨_,ho,rfl⟩ ⟨_,ho2,rfl⟩ noFill_tuple_add seq_tuple_add PySem.F.slot_tuple_add PySem.F.entry_tuple_add (PySem.F.args_tuple_add_2 _ _)
   (tuple_addW1 t b vs.toArray ws.toArray n n2 dd dd2 sl sl2 (by simpa using hv) (by simp[hw])) ⟨ho,ho2,h1 hw⟩
 ·refine concat_meets ⟨_,ho,rfl⟩ ⟨_,ho2,rfl⟩ noFill_tuple_add seq_tuple_add PySem.F.slot_tuple_add PySem.F.entry_tuple_add (PySem.F.args_tuple_add_2 _ _)
   (tuple_addW2 t b vs.toArray ws.toArray n n2 dd dd2 sl sl2 (by simpa using hv) (by simpa using hw) (by rw[List.size_toArray,List.size_toArray];exact hsz)) ⟨ho,ho2,?_⟩
  rw[e]
  exact h2 hw
def sIx(n d:Nat):Option Int->Nat
 | none=>d
 | some v=>if v<0 then(v+(n:Int)).toNat else min v.toNat n
theorem DP(n d:Nat)(hd:d<=n)(o:Option Int):sIx n d o<=n:=by
 cases o with
 | none=>exact hd
 | some v =>
  show(if v<0 then(v+(n:Int)).toNat else min v.toNat n)<=n
  by_cases hv:v<0
  ·rw[if_pos hv];omega
  ·rw[if_neg hv];exact Nat.min_le_right _ _
theorem ud(v:Int)(n d:Nat):(if v<0 then max (v+(n:Int)) 0 else min v (n:Int))=((sIx n d (some v):Nat):Int):=by
 show(if v<0 then max (v+(n:Int)) 0 else min v (n:Int))=(((if v<0 then(v+(n:Int)).toNat else min v.toNat n):Nat):Int)
 by_cases hv:v<0
 ·simp only[if_pos hv];omega
 ·simp only[if_neg hv];omega
theorem vw(lo hi:Option Int)(n:Nat):Builtin.Slice.sliceAdjust lo hi 1 (n:Int)=(((sIx n 0 lo:Nat):Int),((sIx n n hi:Nat):Int)):=by
 have h1:¬ ((1:Int)<0):=by omega
 unfold Builtin.Slice.sliceAdjust
 simp only[h1,if_false]
 refine Prod.ext ?_ ?_
 ·cases lo with
  | none=>rfl
  | some v=>exact ud v n 0
 ·cases hi with
  | none=>rfl
  | some v=>exact ud v n n
theorem uH(i j:Nat):Builtin.Slice.slicePlaces (i:Int) (j:Int) 1=j-i:=by
 unfold Builtin.Slice.slicePlaces
 have h1:(1:Int)>0:=by omega
 simp only[h1,if_true,Int.ediv_one]
 split<;>omega
theorem lJ{v:Value}{o:Option Int}{Q:Option Int->Shared->Prop}(p:IsPart v o)(h:Q o s):wpAny (model prog w) A (Builtin.Slice.slicePartIndex v) Q E s:=by
 cases p with
 | none=>exact slicePart_none h
 | int i t=>exact slicePart_int h
theorem kZ{n:Nat}{Q:Int×Int×Nat->Shared->Prop}(hs:s.heap.IsSliceOf sl vl vu .none)(pl:IsPart vl lo)(pu:IsPart vu hi)
  (h:Q (((sIx n 0 lo:Nat):Int),1,sIx n n hi-sIx n 0 lo) s):wpAny (model prog w) A (Builtin.Slice.sliceApplied (.ref sl) (pure (n:Int))) Q E s:=by
 obtain⟨os,hos,hcs,hds⟩:=id hs
 unfold Builtin.Slice.sliceApplied Builtin.Slice.sliceFields
 refine wpAny_bind (wpAny_bind (wpAny_field hos hds (x:=vl) rfl (wpAny_bind (wpAny_field hos hds (x:=vu) rfl (wpAny_bind (wpAny_field hos hds (x:=.none) rfl (wpAny_pure ?_)))))))
 refine wpAny_bind (slicePart_none ?_)
 show wpAny _ _ (if ((1:Int)==0)=true then _ else _) _ _ s
 rw[if_neg (by decide)]
 refine wpAny_bind (lJ pl (wpAny_bind (lJ pu (wpAny_bind (wpAny_pure ?_)))))
 show wpAny _ _ (match Builtin.Slice.sliceAdjust lo hi 1 (n:Int)with|(lo,hi)=>pure (lo,(1:Int),Builtin.Slice.slicePlaces lo hi 1)) _ _ s
 rw[vw lo hi n]
 show wpAny _ _ (pure (((sIx n 0 lo:Nat):Int),(1:Int),Builtin.Slice.slicePlaces ((sIx n 0 lo:Nat):Int) ((sIx n n hi:Nat):Int) 1)) _ _ s
 rw[uH]
 exact wpAny_pure h
theorem ya(xs:Array Value)(i k:Nat):((List.range k).filterMap fun(m:Nat)=>xs[((i:Int)+(m:Int)*1).toNat]?).toArray=((xs.toList.drop i).take k).toArray:=by
 have e:(fun(m:Nat)=>xs[((i:Int)+(m:Int)*1).toNat]?)=fun m=>xs[i+m]?:=by
  funext m
  have:((i:Int)+(m:Int)*1).toNat=i+m:=by omega
  rw[this]
 rw[e]
 have:=pick_run xs i k
 rw[List.filterMap_map]at this
 have e2:((fun x=>xs[x]?) ∘ fun x=>i+x)=fun m=>xs[i+m]?:=rfl
 rw[e2]at this
 rw[this]
theorem getItem_tuple_cut{items:Array Value}(ht:IsTup s.heap t items)(hs:s.heap.IsSliceOf sl vl vu .none)(pl:IsPart vl lo)(pu:IsPart vu hi)
  (hw:¬ (sIx items.size 0 lo=0/\sIx items.size items.size hi=items.size))
  (h:Q (.ref s.heap.objs.size) { s with heap:=s.heap.push { cls:=.type "tuple", data:=.seq ((items.toList.drop (sIx items.size 0 lo)).take (sIx items.size items.size hi-sIx items.size 0 lo)).toArray } })
  (hsz:items.size<=sizeLine):wpAny (model prog w) A (getItem (.ref t) (.ref sl)) Q E s:=by
 have htake:sizeOk (.seq ((items.toList.drop (sIx items.size 0 lo)).take (sIx items.size items.size hi-sIx items.size 0 lo)).toArray):=by
  show((items.toList.drop (sIx items.size 0 lo)).take (sIx items.size items.size hi-sIx items.size 0 lo)).toArray.size<=sizeLine
  rw[List.size_toArray,List.length_take,List.length_drop,Array.length_toList]
  omega
 have hj:sIx items.size items.size hi<=items.size:=DP _ _ (Nat.le_refl _) hi
 obtain⟨os,hos,hcs,hds⟩:=id hs
 have hTs:s.TypeIs (.ref sl) "slice" := ⟨os,hos,hcs⟩
 unfold getItem
 try with_reducible refine wpAny_holding ?_
 first|refine wpAny_bind (wpAny_pure ?_)|skip
 refine wpAny_bind (wpAny_sequenceKey ht.typeIs (by decide) ?_)
 refine wpAny_bind (wpAny_callSpecial?_slot (name:=Str.ofString "__getitem__") ht.typeIs PyProof.Rows.slot_tuple_getitem
  (wpAny_call_entry PyProof.Rows.slot_tuple_getitem ht.typeIs entry_tuple_getitem ?_ (args_tuple_getitem _ _)))
 show wpAny _ _ (Builtin.Tuple.tupleItemsOf (.ref t) >>= _) _ _ s
 refine wpAny_bind (tupleItemsOf_ ht ?_)
 refine wpAny_bind (wpAny_typeOf hTs ?_)
 rw[if_pos (by decide)]
 refine wpAny_bind (kZ hs pl pu ?_)
 have hno:¬ ((((sIx items.size 0 lo:Nat):Int)==0&&(1:Int)==1&&(sIx items.size items.size hi-sIx items.size 0 lo)==items.size)=true):=by
  intro q
  rw[Bool.and_eq_true,Bool.and_eq_true]at q
  have q1:((sIx items.size 0 lo:Nat):Int)=0:=eq_of_beq q.1.1
  have q2:sIx items.size items.size hi-sIx items.size 0 lo=items.size:=eq_of_beq q.2
  exact hw ⟨by omega,by omega⟩
 show wpAny _ _ (if (((sIx items.size 0 lo:Nat):Int)==0&&(1:Int)==1&&(sIx items.size items.size hi-sIx items.size 0 lo)==items.size)=true then _ else _) _ _ s
 rw[if_neg hno,ya]
 first
  | exact wpAny_bind (m:=Builtin.Tuple.tupleExact _) (wpAny_newObj_type (wpAny_pure ⟨_,rfl,wpAny_pure h⟩) htake)
  | exact wpAny_bind (m:=Builtin.Tuple.tupleExact _) (wpAny_newObj_type (wpAny_bind (wpAny_pure (wpAny_pure ⟨_,rfl,wpAny_pure h⟩))) htake)
  | exact wpAny_bind (wpAny_bind (m:=Builtin.Tuple.tupleExact _) (wpAny_newObj_type (wpAny_pure (wpAny_pure ⟨_,rfl,wpAny_pure h⟩)) htake))
  | exact wpAny_bind (wpAny_bind (m:=Builtin.Tuple.tupleExact _) (wpAny_newObj_type (wpAny_pure ⟨_,rfl,wpAny_pure h⟩) htake))
end
end HT
namespace L2
open PySem PySem.Spec PyProof.Rows
variable{xs:List V}{its its' us:List Value}{j n:Nat}{i:Int}{α:Type}{pins:List (Addr×Obj)}{σ:St}{H:Hp}{s:Shared}{p:Addr}
abbrev TO:=St->Hp->(Option Int->Hp->Prop)->Prop
def PO(X:Cx)(e:Option Expr)(t:TO):Prop :=
 ∀(pins:List (Addr×Obj)) (s:Shared) (σ:St) (H:Hp) (Q:Option Int->Hp->Prop),aj X pins σ H s->t σ H Q ->
  wpAny (model X.prog X.w) X.A (evalPart e X.env) (fun u s' => ∃o H',aj X pins σ H' s'/\IsPart u o/\Q o H') X.xe s
def A0:TO:=fun _ H Q=>Q none H
def Hl(t:TE):TO:=fun σ H Q=>t σ H fun x H1 => ∃i,x=.int i/\Q (some i) H1
theorem lZ{ns:List Int}:∀{us:List Value},aG (ns.map V.int) us->IntsAre us ns:=by
 induction ns with
 | nil=>intro us r;rw[List.map_nil]at r;cases r;exact .nil
 | cons n ns ih =>
  intro us r
  rw[List.map_cons]at r
  cases r with
  | cons r1 r2 =>
   obtain⟨t,e⟩:=r1
   subst e
   exact .cons n t (ih r2)
section
variable{X:Cx}{e:Expr}{te:TE}{lo hi:Option Expr}{tl th:TO}{pos p2:Pos}
theorem Bw:PO X none A0:=by
 intro pins s σ H Q I h
 rw[evalPart_none]
 exact wpAny_pure ⟨none,H,I,.none,h⟩
theorem Bv(h:PE X e te):PO X (some e) (Hl te):=by
 intro pins s σ H Q I hw
 rw[evalPart_some]
 refine aJ (h pins s σ H _ I hw) fun u s1 ⟨x,H1,I1,r1,q1⟩=>?_
 obtain⟨i,rfl,q⟩:=q1
 obtain⟨t,rfl⟩:=r1
 exact⟨some i,H1,I1,.int i t,q⟩
def Ay(X:Cx)(r:V->Option Int->Option Int->Hp->VK->Prop):Prop :=
 ∀(pins:List (Addr×Obj)) (s:Shared) (σ:St) (H:Hp) (x:V) (v vl vu:Value) (lo hi:Option Int) (sl:Addr) (Q:VK),aj X pins σ H s->aT x v->s.heap.IsSliceOf sl vl vu .none->IsPart vl lo->IsPart vu hi->r x lo hi H Q ->
  ∃T id,typeLookup (.type T) "__getitem__" = pure (some (.builtin id))/\s.TypeIs v T/\wpAny (model X.prog X.w) X.A (getItem v (.ref sl)) (EP X pins σ Q) X.xe s
def Nq(r:V->Option Int->Option Int->Hp->VK->Prop)(te:TE)(tl th:TO):TE:=fun σ H Q=>te σ H fun x H1=>tl σ H1 fun l H2=>th σ H2 fun u H3=>r x l u H3 Q
theorem iE{r:V->Option Int->Option Int->Hp->VK->Prop}(hr:Ay X r)(he:PE X e te)(hl:PO X lo tl)(hu:PO X hi th):PE X (.Subscript e (.Slice lo hi none p2) pos) (Nq r te tl th):=by
 intro pins s σ H Q I h
 refine Subscript_ (aJ (he pins s σ H _ I h) fun v s1 ⟨x,H1,I1,r1,q1⟩=>?_)
 refine wpAny_Slice (aJ (hl pins s1 σ H1 _ I1 q1) fun vl s2 ⟨l,H2,I2,pl,q2⟩=>aJ (hu pins s2 σ H2 _ I2 q2) fun vu s3 ⟨u,H3,I3,pu,q3⟩=>?_)
 rw[evalPart_none]
 refine wpAny_pure ?_
 have I4:aj X pins σ H3 { s3 with heap:=s3.heap.push { cls:=.type "slice", data:=.fields #[vl,vu,.none] } }:=I3.kept (t':=s3.toks) fun b ob q=>Heap.get?_push_of_some _ q
 obtain⟨T,id,hT,ht,hg⟩:=hr pins { s3 with heap:=s3.heap.push { cls:=.type "slice", data:=.fields #[vl,vu,.none] } } σ H3 x v vl vu l u s3.heap.objs.size Q I4 r1 (Heap.IsSliceOf.new ..) pl pu q3
 show wpAny (model X.prog X.w) X.A (subscriptTail e (.Slice lo hi none p2) v (.ref s3.heap.objs.size)) (EP X pins σ Q) X.xe { s3 with heap:=s3.heap.push { cls:=.type "slice", data:=.fields #[vl,vu,.none] } }
 exact tail_any (ops:=[.ref s3.heap.objs.size,v]) ht hT hg (by with_unfolding_all rfl)
def gm(xs:List V)(lo hi:Option Int):List V:=(xs.drop (HT.sIx xs.length 0 lo)).take (HT.sIx xs.length xs.length hi-HT.sIx xs.length 0 lo)
theorem kP(xs:List V)(lo hi:Option Int):(gm xs lo hi).length<=xs.length:=by
 unfold gm
 rw[List.length_take,List.length_drop]
 omega
def Kr(K:W.Frag):V->Option Int->Option Int->Hp->VK->Prop:=fun x lo hi H Q => ∃a xs,x=.ref a/\cw K H a xs /\
 ¬ (HT.sIx xs.length 0 lo=0/\HT.sIx xs.length xs.length hi=xs.length)/\∀p,H p=none->Q (.ref p) (aO H p (.tup (gm xs lo hi)))
theorem Dt:Ay X (Kr X.K):=by
 intro pins s σ H x v vl vu lo hi sl Q I rx hs pl pu h
 obtain⟨a,xs,rfl,hx,hw,q⟩:=h
 cases rx
 obtain⟨its,r,ht,hz⟩:=I.tuple hx
 have hlen:its.toArray.size=xs.length:=by rw[List.size_toArray];exact r.length.symm
 refine⟨"tuple", _,PyProof.Rows.slot_tuple_getitem.lookup,ht.typeIs,?_⟩
 refine HT.getItem_tuple_cut ht hs pl pu (by rw[hlen];exact hw) ?_ (by rw[hlen];exact hz)
 rw[hlen]
 refine⟨.ref s.heap.objs.size,_,I.laid (t':=s.toks) (o:=.tup (gm xs lo hi)) (fun b ob q=>Heap.get?_push_of_some _ q) (Nat.le_refl _) ?_,rfl,q _ (I.hok.fresh (Nat.le_refl _))⟩
 exact⟨Nat.le_trans (kP xs lo hi) hz,_,(r.drop (HT.sIx xs.length 0 lo)).take (HT.sIx xs.length xs.length hi-HT.sIx xs.length 0 lo),IsTup.new _ _⟩
def Kt(K:W.Frag):R2:=fun x y H Q => ∃a b ns ms,x=.ref a/\y=.ref b/\cw K H a (ns.map V.int)/\cw K H b (ms.map V.int)/\Q (.bl (HT.lexLt ns ms)) H
theorem op_ltT(hu:X.A.units<cLine):bZ X (compareOp .Lt) (Kt X.K):=by
 intro pins s σ H x y v u Q I rx ry h
 obtain⟨a,b,ns,ms,rfl,rfl,ha,hb,q⟩:=h
 cases rx
 cases ry
 obtain⟨its,r1,p1,_⟩:=I.tuple ha
 obtain⟨its2,r2,p2,_⟩:=I.tuple hb
 have i1:IntsAre its.toArray.toList ns:=lZ r1
 have i2:IntsAre its2.toArray.toList ms:=lZ r2
 exact HT.lt_tupInts p1 p2 i1 i2 hu ⟨.bl (HT.lexLt ns ms),H,I,rfl,q⟩
def HB(K:W.Frag):R2:=fun x y H Q => ∃a b xs ys,x=.ref a/\y=.ref b/\cw K H a xs/\cw K H b ys/\xs≠[]/\xs.length+ys.length<=sizeLine /\
 (ys=[]->Q (.ref a) H)/\(ys≠[]->∀p,H p=none->Q (.ref p) (aO H p (.tup (xs++ys))))
theorem aG.nil_iff(r:aG xs us):us=[]↔xs=[]:=by
 cases r with
 | nil=>simp
 | cons _ _=>simp
theorem BI:bZ X (binaryOp .Add) (HB X.K):=by
 intro pins s σ H x y v u Q I rx ry h
 obtain⟨a,b,xs,ys,rfl,rfl,ha,hb,hx,hz,q1,q2⟩:=h
 cases rx
 cases ry
 obtain⟨its,r1,p1,_⟩:=I.tuple ha
 obtain⟨its2,r2,p2,_⟩:=I.tuple hb
 refine HT.cat_tup p1 p2 (fun z=>hx (r1.nil_iff.mp z)) (fun z=>⟨.ref a,H,I,rfl,q1 (r2.nil_iff.mp z)⟩) (fun z=>?_) (by rw[<- r1.length,<- r2.length];exact hz)
 refine⟨.ref s.heap.objs.size,_,I.laid (t':=s.toks) (o:=.tup (xs++ys)) (fun b ob q=>Heap.get?_push_of_some _ q) (Nat.le_refl _) ?_,rfl,q2 (fun w=>z (r2.nil_iff.mpr w)) _ (I.hok.fresh (Nat.le_refl _))⟩
 exact⟨by rw[List.length_append];exact hz,_,r1.append r2,IsTup.new _ _⟩
end
def ixN(n:Nat)(i:Int):Option Nat:=if 0<=i then(if i<n then some i.toNat else none)else if -(n:Int)<=i then some (i+n).toNat else none
def atI{α:Type}(xs:List α)(i:Int):Option α:=(ixN xs.length i).bind fun j=>xs[j]?
theorem tZ(h:ixN n i=some j):seqIndex? i n=some j/\j<n /\ -(n:Int)<=i/\i<n:=by
 unfold ixN at h
 by_cases h0:0<=i
 ·rw[if_pos h0]at h
  by_cases h1:i<n
  ·rw[if_pos h1]at h
   have e:i.toNat=j:=Option.some.inj h
   exact⟨by rw[seqIndex_of h0 h1,e],by omega,by omega,h1⟩
  ·rw[if_neg h1]at h;cases h
 ·rw[if_neg h0]at h
  by_cases h1:-(n:Int)<=i
  ·rw[if_pos h1]at h
   have e:(i+n).toNat=j:=Option.some.inj h
   exact⟨by rw[seqIndex_neg (by omega) h1,e],by omega,h1,by omega⟩
  ·rw[if_neg h1]at h;cases h
theorem uf{xs:List α}{v:α}(h:atI xs i=some v):∃j,seqIndex? i xs.length=some j/\xs[j]?=some v/\j<xs.length /\ -(xs.length:Int)<=i/\i<xs.length:=by
 unfold atI at h
 cases e:ixN xs.length i with
 | none=>rw[e]at h;cases h
 | some j =>
  rw[e]at h
  obtain⟨h1,h2,h3,h4⟩:=tZ e
  exact⟨j,h1,h,h2,h3,h4⟩
theorem CZ{xs:List α}{v:α}(h:xs[j]?=some v):atI xs (j:Int)=some v:=by
 have hj:j<xs.length:=(List.getElem?_eq_some_iff.mp h).1
 have e:ixN xs.length (j:Int)=some j:=by
  unfold ixN
  rw[if_pos (by omega),if_pos (by omega)];simp
 unfold atI;rw[e];exact h
def du(b:Expr):Prop:=∀o i,subscripted b false o i=operate [o,i] (getItem o i)
def xE(X:Cx)(r:R2):Prop :=
 ∀(value slice:Expr) (pins:List (Addr×Obj)) (s:Shared) (σ:St) (H:Hp) (x y:V) (v u:Value) (Q:VK),aj X pins σ H s->aT x v->aT y u->r x y H Q ->
  subscripted slice false v u=operate [v,u] (getItem v u)->wpAny (model X.prog X.w) X.A (subscriptTail value slice v u) (EP X pins σ Q) X.xe s
def uh(X:Cx)(id:String)(r:V->List V->Hp->VK->Prop):Prop :=
 ∀(pins:List (Addr×Obj)) (s:Shared) (σ:St) (H:Hp) (x:V) (xs:List V) (v:Value) (us:List Value) (Q:VK),aj X pins σ H s->aT x v->aG xs us->r x xs H Q ->
  wpAny (model X.prog X.w) X.A (call (.builtin id) (v::us)) (EP X pins σ Q) X.xe s
section
variable{X:Cx}{a b:Expr}{ta tb:TE}{pos:Pos}
theorem lM{r:R2}(hr:xE X r)(ha:PE X a ta)(hb:PE X b tb)(hs:du b):PE X (.Subscript a b pos) (zN r ta tb):=by
 intro pins s σ H Q I h
 exact Subscript_ (za ha hb I h fun v u s2 x y H2 I2 rx ry q=>hr a b pins s2 σ H2 x y v u Q I2 rx ry q (hs _ _))
def Kv(K:W.Frag):R2:=fun x y H Q => ∃p xs i v,x=.ref p/\y=.int i/\bL K H p xs/\atI xs i=some v/\Q v H
def Ku(K:W.Frag):R2:=fun x y H Q => ∃p xs i v,x=.ref p/\y=.int i/\cw K H p xs/\atI xs i=some v/\Q v H
theorem tY:xE X (Kv X.K):=by
 intro value slice pins s σ H x y v u Q I rx ry h hs
 obtain⟨p,xs,i,z,rfl,rfl,hq,he,q⟩:=h
 cases rx
 obtain⟨t,rfl⟩:=ry
 obtain⟨its,r,pl,hz⟩:=I.list hq
 obtain⟨j,h1,h2,h3,h4,h5⟩:=uf he
 obtain⟨w,ew,rw'⟩:=r.get h2
 have hl:=r.length
 have hn:=jD
 have fin:EP X pins σ Q w s:=⟨z,H,I,rw',q⟩
 by_cases h0:0<=i
 ·have hj:i.toNat=j:=by
   rw[seqIndex_of h0 h5]at h1
   exact Option.some.inj h1
  exact item_listR pl.isList h0 (by omega) (by rw[hj];simpa using ew) fin hs
 ·have hj:(i+(its.toArray.size:Int)).toNat=j:=by
   rw[seqIndex_neg (by omega) h4]at h1
   rw[List.size_toArray,<- hl]
   exact Option.some.inj h1
  exact subscriptTail_builtinR (x:=w) pl.isList.typeIs slot_list_getitem.lookup
   (wpAny_getItem_list_neg (Q:=fun r s'=>r=w/\EP X pins σ Q r s') pl.isList (by omega) (by rw[List.size_toArray]<;>omega) (by omega) (by rw[hj];simpa using ew) ⟨rfl,fin⟩) hs
theorem wD:xE X (Ku X.K):=by
 intro value slice pins s σ H x y v u Q I rx ry h hs
 obtain⟨p,xs,i,z,rfl,rfl,hq,he,q⟩:=h
 cases rx
 obtain⟨t,rfl⟩:=ry
 obtain⟨its,r,pl,hz⟩:=I.tuple hq
 obtain⟨j,h1,h2,h3,h4,h5⟩:=uf he
 obtain⟨w,ew,rw'⟩:=r.get h2
 have hl:=r.length
 have hn:=jD
 have fin:EP X pins σ Q w s:=⟨z,H,I,rw',q⟩
 exact subscriptTail_builtinR (x:=w) pl.typeIs slot_tuple_getitem.lookup
  (getItem_tuple (j:=j) (Q:=fun r s'=>r=w/\EP X pins σ Q r s') pl (by omega) (by omega) (by rw[List.size_toArray,<- hl];exact h1) (by simpa using ew) ⟨rfl,fin⟩) hs
theorem uU(its:List Value)(n j:Nat)(u:Value):Obj.mapSeq (·.setIfInBounds j u) { cls:=.type "list", data:=.seq its.toArray n } = { cls:=.type "list", data:=.seq (its.set j u).toArray n }:=by
 simp[Obj.mapSeq]
theorem aj.lst(I:aj X pins σ H s)(h:H p=some (.lst xs)) :
  ∃(its:List Value) (n:Nat),aG xs its/\s.heap.get? p=some { cls:=.type "list", data:=.seq its.toArray n }/\xs.length<=sizeLine:=by
 obtain⟨z,its,n,r,e⟩:=I.hok p _ h
 exact⟨its,n,r,e,z⟩
theorem aj.lstUpd{ys:List V}{n':Nat}{f:Obj->Obj}(I:aj X pins σ H s)(h:H p=some (.lst xs))
  (ho:s.heap.get? p=some { cls:=.type "list", data:=.seq its.toArray n }) (hf:f { cls:=.type "list", data:=.seq its.toArray n } = { cls:=.type "list", data:=.seq its'.toArray n' }) (r:aG ys its') (hz:ys.length<=sizeLine) (t:Nat) :
  aj X pins σ (aO H p (.lst ys)) { s with heap:=s.heap.update p f,toks:=t }:=by
 have e:(s.heap.update p f).get? p=some { cls:=.type "list", data:=.seq its'.toArray n' }:=by
  rw[Heap.get?_update_self f ho (by rw[hf]<;>rfl),hf]
 refine I.write (x:=p) (e:=p) (by rw[h];trivial) (.inl rfl) (fun b u hb q=>(Heap.get?_update_other _ _ (Ne.symm hb)).trans q) ⟨_,e⟩ ?_
 exact⟨hz,its',n',r,e⟩
def Hz:V->V->V->Hp->(Hp->Prop)->Prop:=fun o i v H Q => ∃p xs k j,o=.ref p/\i=.int k/\H p=some (.lst xs)/\ixN xs.length k=some j/\Q (aO H p (.lst (xs.set j v)))
theorem pY:zw X Hz:=by
 intro pins s σ H o i v ov iv u Q I ro ri rv h
 obtain⟨p,xs,k,j,rfl,rfl,hp,hj,q⟩:=h
 cases ro
 obtain⟨t,rfl⟩:=ri
 obtain⟨its,n,r,ho,hz⟩:=I.lst hp
 obtain⟨h1,h2,h3,h4⟩:=tZ hj
 have hl:=r.length
 have hn:=jD
 have I':aj X pins σ (aO H p (.lst (xs.set j v))) { s with heap:=s.heap.update p (Obj.mapSeq (·.setIfInBounds j u)) } :=
  I.lstUpd hp ho (uU its n j u) (r.set rv j) (by rw[List.length_set];exact hz) s.toks
 by_cases h0:0<=k
 ·have hk:k.toNat=j:=by
   rw[seqIndex_of h0 h4]at h1
   exact Option.some.inj h1
  exact W.ki_setAt ho h0 (by omega) (by rw[List.size_toArray,<- hl];exact h4) (by rw[hk];exact⟨_,I',q⟩)
 ·have hk:(k+(its.toArray.size:Int)).toNat=j:=by
   rw[seqIndex_neg (by omega) h3]at h1
   rw[List.size_toArray,<- hl]
   exact Option.some.inj h1
  exact W.ki_setBack ho (by omega) (by rw[List.size_toArray,<- hl];exact h3) (by omega) (by rw[hk];exact⟨_,I',q⟩)
theorem pW(lo hi:Option Int)(n:Nat):(sliceBounds lo hi none n).1=((HT.sIx n 0 lo:Nat):Int)/\(sliceBounds lo hi none n).2.1=((HT.sIx n n hi:Nat):Int)/\(sliceBounds lo hi none n).2.2=1:=by
 refine⟨?_,?_,rfl⟩
 ·cases lo with
  | none=>simp[sliceBounds,HT.sIx]
  | some i =>
   simp only[sliceBounds,HT.sIx,Option.getD_none,show(1:Int)>0 by decide,if_true]
   by_cases h:i<0
   ·simp only[h,if_true]<;>omega
   ·simp only[h,if_false]<;>omega
 ·cases hi with
  | none=>simp[sliceBounds,HT.sIx]
  | some i =>
   simp only[sliceBounds,HT.sIx,Option.getD_none,show(1:Int)>0 by decide,if_true]
   by_cases h:i<0
   ·simp only[h,if_true]<;>omega
   ·simp only[h,if_false]<;>omega
theorem oZ(its:List Value)(lo hi:Option Int):slicePick its.toArray lo hi none=((its.drop (HT.sIx its.length 0 lo)).take (HT.sIx its.length its.length hi-HT.sIx its.length 0 lo)).toArray:=by
 obtain⟨h1,h2,h3⟩:=pW lo hi its.toArray.size
 unfold slicePick
 rw[h1,h2,h3]
 simp only[sliceRange_one,pick_run,List.size_toArray]<;>rfl
def Ks(K:W.Frag):V->Option Int->Option Int->Hp->VK->Prop:=fun x lo hi H Q => ∃a xs,x=.ref a/\bL K H a xs/\∀p,H p=none->Q (.ref p) (aO H p (.lst (gm xs lo hi)))
theorem tx:Ay X (Ks X.K):=by
 intro pins s σ H x v vl vu lo hi sl Q I rx hs pl pu h
 obtain⟨a,xs,rfl,hx,q⟩:=h
 cases rx
 obtain⟨its,r,ht,hz⟩:=I.list hx
 have hlen:=r.length
 refine⟨"list", _,slot_list_getitem.lookup,ht.isList.typeIs,?_⟩
 refine wpAny_getItem_list_slice ht.isList hs pl pu .none (by simp) ?_ (by rw[List.size_toArray]<;>omega)
 rw[oZ,<- hlen]
 refine⟨.ref s.heap.objs.size,_,I.laid (t':=s.toks) (o:=.lst (gm xs lo hi)) (fun b ob q=>Heap.get?_push_of_some _ q) (Nat.le_refl _) ?_,rfl,q _ (I.hok.fresh (Nat.le_refl _))⟩
 exact⟨Nat.le_trans (kP xs lo hi) hz,_,0,(r.drop (HT.sIx xs.length 0 lo)).take (HT.sIx xs.length xs.length hi-HT.sIx xs.length 0 lo),Heap.get?_push_size _ rfl⟩
theorem jP:cK X (.builtin "len") (fun xs H Q => ∃p ys,xs=[.ref p]/\(bL X.K H p ys\/cw X.K H p ys)/\Q (.int ys.length) H):=by
 intro pins s σ H xs us Q I r h
 obtain⟨p,ys,rfl,hq,q⟩:=h
 obtain⟨u,rfl,rx⟩:=cy r
 cases rx
 have hn:=jD
 rcases hq with hq|hq
 ·obtain⟨its,r',pl,hz⟩:=I.list hq
  have hlen:=r'.length
  exact Calls.call_len_list pl.isList (by simp only[List.size_toArray]<;>omega) ⟨.int ys.length,H,I.tok _,⟨s.toks+1,by rw[List.size_toArray,hlen]⟩,q⟩
 ·obtain⟨its,r',pl,hz⟩:=I.tuple hq
  have hlen:=r'.length
  exact len_tuple pl (by simp only[List.size_toArray]<;>omega) ⟨.int ys.length,H,I.tok _,⟨s.toks+1,by rw[List.size_toArray,hlen]⟩,q⟩
theorem rO:cK X (.builtin "len") (fun xs H Q => ∃z,xs=[.str z]/\z.length<=sizeLine/\Q (.int z.length) H):=by
 intro pins s σ H xs us Q I r h
 obtain⟨z,rfl,hz,q⟩:=h
 obtain⟨u,rfl,t,rfl⟩:=cy r
 have hn:=jD
 exact len_str (by omega) ⟨.int z.length,H,I.tok _,⟨_,rfl⟩,q⟩
theorem jc:cK X (.type "tuple") (fun xs H Q => ∃p ys,xs=[.ref p]/\((bL X.K H p ys/\∀l,H l=none->Q (.ref l) (aO H l (.tup ys)))\/(cw X.K H p ys/\Q (.ref p) H))):=by
 intro pins s σ H xs us Q I r h
 obtain⟨p,ys,rfl,h⟩:=h
 obtain⟨u,rfl,rx⟩:=cy r
 cases rx
 rcases h with⟨hq,q⟩|⟨hq,q⟩
 ·obtain⟨its,r',pl,hz⟩:=I.list hq
  have hlen:=r'.length
  refine call_tuple_list pl.isList (fun h' kp=>?_) (by simp only[List.size_toArray]<;>omega)
  have I1:aj X pins σ H { s with heap:=h' }:=I.kept (t':=s.toks) kp
  have I2:aj X pins σ (aO H h'.objs.size (.tup ys)) { s with heap:=h'.push { cls:=.type "tuple", data:=.seq its.toArray } } :=
   I1.laid (t':=s.toks) (fun b o e=>Heap.get?_push_of_some _ e) (Nat.le_refl _) (show bM X.prog X.w _ _ _ (.tup ys)from⟨hz,its,r',IsTup.new _ _⟩)
  exact⟨.ref h'.objs.size,_,I2,rfl,q _ (I1.hok.fresh (Nat.le_refl _))⟩
 ·obtain⟨its,r',pl,hz⟩:=I.tuple hq
  exact call_tuple_same pl ⟨.ref p,H,I,rfl,q⟩
def Da(K:W.Frag)(T:String)(x:V)(H:Hp):Prop:=match x with
  | .str _=>T = "str"
  | .int _=>T = "int"
  | .ref p=>(T = "list" /\ ∃xs,bL K H p xs)\/(T = "tuple" /\ ∃o,K.lookup p=some o/\o.cls=.type "tuple" /\ o.dict=none) \/
      (T = "dict" /\ ((∃kvs,H p=some (.dK kvs))\/∃kvs,H p=some (.dT kvs)))\/(T = "set" /\ ∃S n,H p=some (.set S n))
  | _=>False
theorem vI{T:String}{x:V}{v:Value}(I:aj X pins σ H s)(r:aT x v)(ty:Da X.K T x H) :
  s.TypeIs v T/\∀a,v=.ref a->∃ob,s.heap.get? a=some ob/\ob.dict=none:=by
 cases x with
 | str z =>
  obtain⟨t,rfl⟩:=r
  cases (show T = "str" from ty)
  exact⟨typeIs_str s z t,fun _ e=>nomatch e⟩
 | int i =>
  obtain⟨t,rfl⟩:=r
  cases (show T = "int" from ty)
  exact⟨typeIs_int s i t,fun _ e=>nomatch e⟩
 | ref p =>
  cases r
  rcases ty with⟨rfl,xs,hq⟩|⟨rfl,o,hk,hc,hd⟩|⟨rfl,hk⟩|⟨rfl,S,n,hk⟩
  ·obtain⟨its,_,pl,_⟩:=I.list hq
   refine⟨pl.isList.typeIs,fun a e=>?_⟩
   cases e
   obtain⟨o,n,e,c,hd,_⟩:=pl
   exact⟨o,e,hd⟩
  ·refine⟨⟨o,I.kIn p o hk,hc⟩,fun a e=>?_⟩
   cases e
   exact⟨o,I.kIn _ o hk,hd⟩
  ·have z:∃o,s.heap.get? p=some o/\o.ExactDict:=by
    rcases hk with⟨kvs,hk⟩|⟨kvs,hk⟩
    ·obtain⟨_,_,_,_,o,_,_,e,ex,_⟩:=I.hok p _ hk
     exact⟨o,e,ex⟩
    ·obtain⟨_,_,_,_,o,_,_,e,ex,_⟩:=I.hok p _ hk
     exact⟨o,e,ex⟩
   obtain⟨o,e,ex⟩:=z
   refine⟨⟨o,e,ex.1⟩,fun a e2=>?_⟩
   cases e2
   exact⟨o,e,ex.2.1⟩
  ·obtain⟨o,_,_,_,e,ex,_⟩:=I.hok p _ hk
   refine⟨⟨o,e,ex.1⟩,fun a e2=>?_⟩
   cases e2
   exact⟨o,e,ex.2.1⟩
 | _=>exact False.elim ty
def JA(K:W.Frag)(T:String)(r:V->List V->Hp->VK->Prop)(to:TE):TE:=fun σ H Q=>to σ H fun x H1=>Da K T x H1/\r x [] H1 Q
def Nu(K:W.Frag)(T:String)(r:V->List V->Hp->VK->Prop)(to:TE)(t:TA):TE:=fun σ H Q=>to σ H fun x H1=>Da K T x H1/\t σ H1 fun xs H2=>r x xs H2 Q
variable{o e:Expr}{es:List Expr}{to:TE}{t:TA}{name:Str}{apos cpos:Pos}{T id:String}{r:V->List V->Hp->VK->Prop}
theorem Ej(pa:PlainAttrs T)(slot:Slot T name id)(hty:typeOf (.builtin id)=pure (.type "method_descriptor"))(hm:uh X id r)(ho:PE X o to)
  (hbase:attributeBase o name X.env (eval o X.env)=eval o X.env:=by rfl) (hline:(apos.endLine==cpos.line)=true:=by rfl):PE X (.Call (.Attribute o name apos) [] [] cpos) (JA X.K T r to):=by
 intro pins s σ H Q I h
 refine wpAny_Call_method0_late hbase hline (aJ (ho pins s σ H _ I h) fun v s1 ⟨x,H1,I1,r1,ty,q1⟩=>?_)
 obtain⟨h1,h2⟩:=vI I1 r1 ty
 exact⟨T,id,pa,slot,hty,h1,h2,Calls.callWith_builtin rfl (PySem.evalArgs_none (hm pins s1 σ H1 x [] v [] Q I1 r1 .nil q1))⟩
theorem lN(pa:PlainAttrs T)(slot:Slot T name id)(hty:typeOf (.builtin id)=pure (.type "method_descriptor"))(hm:uh X id r)(ho:PE X o to)(ha:PA X (e::es) t)
  (hbase:attributeBase o name X.env (eval o X.env)=eval o X.env:=by rfl)
  (hfew:((backTo cpos (starEach (e::es) X.env)).all (fun x => !x.1)&&(backToKw cpos (keywordEach [] X.env)).all (fun x=>x.1.isSome)
   && decide ((e::es).length+([]:List Keyword).length+(if ([]:List Keyword).isEmpty then 0 else 1)<30))=true:=by rfl)
  (hline:(apos.endLine==cpos.line)=true:=by rfl) (hs:starEach (e::es) X.env=(false,eval e X.env)::starEach es X.env:=by rfl) (hplain:(backTo cpos (starEach es X.env)).any (·.1)=false:=by rfl) :
  PE X (.Call (.Attribute o name apos) (e::es) [] cpos) (Nu X.K T r to t):=by
 intro pins s σ H Q I h
 refine wpAny_Call_method_late hbase hfew hline rfl (aJ (ho pins s σ H _ I h) fun v s1 ⟨x,H1,I1,r1,ty,q1⟩=>?_)
 obtain⟨h1,h2⟩:=vI I1 r1 ty
 refine⟨T,id,pa,slot,hty,h1,h2,?_⟩
 have hA:=ha cpos pins s1 σ H1 _ I1 q1
 rw[hs]at hA⊢
 refine Calls.callWith_builtin (by show(false || (backTo cpos (starEach es X.env)).any (·.1))=false;rw[hplain]<;>rfl) (Calls.evalArgs_plain ?_)
 exact aJ hA fun us s2 ⟨vs,H2,I2,r2,q2⟩=>hm pins s2 σ H2 x vs v us Q I2 r1 r2 q2
/- xs.append(e),list.index on a module's tuple .. are uh facts of 06m -/
end
def Jh(X:Cx)(id:String)(r:V->List V->Hp->VK->Prop):Prop :=
 ∀(pins:List (Addr×Obj)) (s:Shared) (σ:St) (H:Hp) (x:V) (xs:List V) (v:Value) (us:List Value) (Q:VK),aj X pins σ H s->aT x v->aG xs us->r x xs H Q ->
  wpAny (model X.prog X.w) X.A (call (.builtin id) (v::us)) (EP X pins σ Q) X.xe s
theorem aG.one:∀{x:V} {us:List Value},aG [x] us->∃u,us=[u]/\aT x u
 | _,_,.cons r .nil=>⟨_,rfl,r⟩
theorem aG.zero:∀{us:List Value},aG [] us->us=[]
 | _,.nil=>rfl
theorem aG.reverse(h:aG xs us):aG xs.reverse us.reverse:=by
 induction h with
 | nil=>exact .nil
 | cons r t ih=>rw[List.reverse_cons,List.reverse_cons];exact aG.append ih (.cons r .nil)
section
variable{X:Cx}{l b:Addr}{ys zs:List V}
theorem aj.lset{f:Array Value->Array Value}{t':Nat}(I:aj X pins σ H s)(hH:H l=some (.lst xs))
  (e:s.heap.get? l=some { cls:=.type "list", data:=.seq its.toArray n }) (hf:f its.toArray=its'.toArray) (hv:aG ys its') (hz:ys.length<=sizeLine) :
  aj X pins σ (aO H l (.lst ys)) { s with heap:=s.heap.update l (Obj.mapSeq f),toks:=t' }:=by
 have q:=PySem.IsL.update e f
 rw[hf]at q
 refine I.write (x:=l) (e:=l) (by rw[hH];exact trivial) (.inl rfl) (fun b' u hb hu=>(Heap.get?_update_other s.heap (Obj.mapSeq f) (Ne.symm hb)).trans hu) ⟨_,q⟩ ?_
 exact⟨hz,its',_,hv,q⟩
theorem aj.lnew{t':Nat}(I:aj X pins σ H s)(hv:aG ys its)(hz:ys.length<=sizeLine) :
  aj X pins σ (aO H s.heap.objs.size (.lst ys)) { s with heap:=s.heap.push { cls:=.type "list", data:=.seq its.toArray },toks:=t' } :=
 I.laid (fun _ _ q=>Heap.get?_push_of_some _ q) (Nat.le_refl _) ⟨hz,its,0,hv,Heap.get?_push_size _ rfl⟩
theorem aj.fresh(I:aj X pins σ H s):H s.heap.objs.size=none:=I.hok.fresh (Nat.le_refl _)
theorem aj.lstM(I:aj X pins σ H s)(hH:H l=some (.lst xs)):xs.length<=sizeLine/\∃(its:List Value) (n:Nat),aG xs its/\xs.length=its.length/\s.heap.get? l=some { cls:=.type "list", data:=.seq its.toArray n }:=by
 obtain⟨z,its,n,r,e⟩:=I.hok l _ hH
 exact⟨z,its,n,r,r.length,e⟩
end
section
variable{X:Cx}
def Bl:V->List V->Hp->VK->Prop:=fun x vs H Q => ∃l xs y,x=.ref l/\vs=[y]/\H l=some (.lst xs)/\xs.length<sizeLine/\Q .non (aO H l (.lst (xs++[y])))
theorem oI:Jh X "list.append" Bl:=by
 intro pins s σ H x vs v us Q I rx rv h
 obtain⟨l,xs,y,rfl,rfl,hH,hz,q⟩:=h
 cases rx
 obtain⟨u,rfl,ru⟩:=rv.one
 obtain⟨z,its,n,r,hl,e⟩:=I.lstM hH
 refine call_meets F.slot_list_append ⟨_,e,rfl⟩ F.entry_list_append (F.args_list_append_2 _ _) (PySem.list_append l its.toArray n u (by rw[List.size_toArray];omega)) ⟨e,?_⟩
 refine⟨.non,_,I.lset (its':=its++[u]) hH e (by simp) (r.append (.cons ru .nil)) ?_,rfl,q⟩
 rw[List.length_append,List.length_singleton]
 omega
end
section
variable{prog:Program}{w:World}{A:Around}{E:Value->Shared->Prop}
set_option maxRecDepth 100000 in
end
section
variable{X:Cx}
end
end L2
namespace Att
open PySem PySem.W PySem.Calls PyProof.Rows
variable{P:Params}{h:Heap}{l:OpenLaw}{n:Nat}
theorem lY:∀(ns:List Int) (vs:List Value),WellAll P h vs (ns.map WData.int)->IntsAre vs ns:=by
 intro ns
 induction ns with
 | nil =>
  intro vs w
  rw[List.map_nil]at w
  cases w
  exact .nil
 | cons n ns ih =>
  intro vs w
  rw[List.map_cons]at w
  cases w with
  | cons a b =>
   cases a
   exact .cons _ _ (ih _ b)
theorem oF(hn:l.most=some n){args:List WData}{vals:List Value}
  (hpre:l.row.toRowW.claim.pre args=true) (hwl:WellAll P h vals args) :
  ∃a vs ns,vals=[Value.ref a]/\args=[WData.list (ns.map WData.int)]/\h.get? a=some { cls:=.type "list", data:=.seq vs.toArray }/\IntsAre vs ns/\ns.length<=n:=by
 have hsh:WShape.hasAll [] args [.list .int]=true:=(pre_splitW hpre).1
 have hc:l.pre.holds [] { args:=args }=true:=(pre_splitW hpre).2
 obtain⟨d,r,rfl,h1,h2⟩:=hasAllW_cons hsh
 obtain rfl:=hasAllW_nil h2
 obtain⟨xs,rfl,h3⟩:=hasW_list h1
 obtain⟨ns,rfl⟩:=items_int h3
 have hlen:ns.length<=n:=by
  unfold OpenLaw.pre at hc
  have h4:(WTm.not (.lt (.lit (.int (n:Int))) (.len (.arg 0)))).holds [] { args:=[.list (ns.map .int)] }=true:=by
   have h4:=(holds_andW hc).1
   rw[hn]at h4
   exact h4
  have h5:=condW_of h4 (w_not (w_lt w_lit (w_len_list (w_arg rfl))))
  rw[List.length_map]at h5
  refine Nat.le_of_not_lt fun q=>?_
  have q':(n:Int)<((ns.length:Nat):Int):=by omega
  first
   | (rw[decide_eq_true q']at h5;exact absurd h5 (by decide))
   | (simp at h5;omega)
 cases hwl with
 | cons w1 w2 =>
  cases w2
  cases w1 with
  | list ho hall=>exact⟨_,_,ns,rfl,rfl,ho,lY ns _ hall,hlen⟩
theorem oH(l:OpenLaw)(args:List WData):l.row.toRowW.claim.post args (.bool true) args=true :=
 postW_of (r:=l.row.toRowW) (X:=(true==true))
  (show WShape.has [] (.bool true) .bool=true by first|rfl|decide|simp[WShape.has,WShape.arms,WShape.armsAll])
  (show(WTm.eq .res (.lit (.bool true))).value [] { args:=args,res:=some (.bool true),after:=args }=some (.bool (true==true))from w_eq_bool (w_res rfl) w_lit) rfl
theorem attach_call{q:Program}{loose:List Str}{XP:(Str->Option Value)->Heap->Prop}{YP:World->Heap->Prop}{d:DefRec}
  (hn:l.most=some n) (hdf:d.params.defaults=[])
  (call:∀(w:World) (s₀ s₁:Shared) (mg mb:Str->Option Value) (fa:Addr) (o:Obj) (pm cd doc:Value) (a:Addr) (vs:List Value) (ns:List Int),
   Ground q loose [] XP w s₀ mg mb s₁.heap->YP w s₁.heap ->
   s₁.heap.get? fa=some o->o.data=.func (docDef d.name d.params d.body d.scope pm cd doc)->s₁.heap.CodeRec cd d.name->mg d.name=some (.ref fa) ->
   s₁.heap.get? a=some { cls:=.type "list", data:=.seq vs.toArray }->IntsAre vs ns->ns.length<=n->s₁.gens = #[] ->
   codeAny (model l.prog w) callerA (.call (.ref fa) ⟨[.ref a],[]⟩) (fun r s'=>r=.ok (.ret (.bool true))/\OldK s₁.heap s'.heap/\s'.os=s₁.os/\AllBare s'.gens) s₁) :
  WalkO q loose XP YP l.row.toRowW d [] (fun f vs=>PySem.call f vs):=by
 intro w s₀ s₁ mg mb G Y fa o pm cd doc dV kV ho hd hcd hD hmg hg args vals as hpre hlay hrd hwl hlo
 obtain rfl:dV=.none:=Dflts.none hD hdf
 obtain rfl:kV=.none:=Dflts.noKw hD
 obtain⟨a,vs,ns,rfl,rfl,hobj,hints,hlen⟩:=oF hn hpre hwl
 refine enter_call (codeAny_mono (call w s₀ s₁ mg mb fa o pm cd doc a vs ns G Y ho (fd_plain hd) hcd hmg hobj hints hlen hg) fun r s' hq=>?_)
 obtain⟨rfl,h2,h3,h4⟩:=hq
 exact⟨.inl ⟨.bool true,.bool true,[],rfl,fun _=>rfl,.bool true,oH l _,fun _=>⟨List.Pairwise.nil,fun _ hm=>(nomatch hm)⟩⟩,h2,h3,h4⟩
section
variable{prog:Program}{w:World}{A:Around}{E:Value->Shared->Prop}{s:Shared}{K:Frag}
end
end Att
namespace L2
open PySem PySem.Spec PyProof.Rows
variable{k:Nat}{x:Str}
theorem ox:∀{vs:List Value} {ns:List Int},IntsAre vs ns->aG (ns.map V.int) vs
 | _,_,.nil=>.nil
 | _,_,.cons n t h=>.cons ⟨t,rfl⟩ (ox h)
def r6(H:Hp):Prop:=∀b,H b=none\/∃o xs,H b=some (.frz o (.lst xs))
theorem qO{P:Program}{w:World}{K:W.Frag}{mg mb:Str->Option Value}{CX:gM}{fa a:Addr}{fd:FuncData}{sp:Sp}{s₁:Shared}{vs:List Value}{ns:List Int}
    (KX:K.In s₁.heap) (hns:s₁.heap.Ns mainGlobals mg) (hb:s₁.heap.Ns builtinsNs mb) (hbb:∀x:Str,x ≠ "__name__" -> mb x=bootBuiltins x) (hlim:s₁.heap.NoLimit) (hg:s₁.gens = #[])
    (ha:s₁.heap.get? a=some { cls:=.type "list", data:=.seq vs.toArray }) (hi:IntsAre vs ns) (hl:ns.length<=sizeLine) (hr:bP k callerA)
    (F:∀base:Heap,K.In base->base.Ns mainGlobals mg->bF P w K mg base CX k fa fd [x] sp) (hbind:∀(s:Shared) (u:Value),BindsTo s fd ⟨[u],[]⟩ [(x,u)])
    (hsp:∀H:Hp,r6 H->bL K H a (ns.map V.int)->sp [.ref a] H (fun v _=>v=.bl true) fun _ _ _=>False)
    (hCX:∀H e s',CX [] H s₁ (fun _ _ _=>False) e s'->False) :
    codeAny (model P w) callerA (.call (.ref fa) ⟨[.ref a],[]⟩) (fun r s'=>r=.ok (.ret (.bool true))/\OldK s₁.heap s'.heap/\s'.os=s₁.os/\AllBare s'.gens) s₁:=by
  have rv:=ox hi
  have lenV:=hi.length
  have core:∀H:Hp,r6 H->bL K H a (ns.map V.int)->cZ P w H s₁.heap->(∀b,H b≠none->b=a)->(H a≠none->K.lookup a=none) ->
      codeAny (model P w) callerA (.call (.ref fa) ⟨[.ref a],[]⟩) (fun r s'=>r=.ok (.ret (.bool true))/\OldK s₁.heap s'.heap/\s'.os=s₁.os/\AllBare s'.gens) s₁:=by
    intro H hO hS hok hA hK
    have dG:∀{b:Addr} {o:Obj},s₁.heap.get? b=some o->H b=none->(iN s₁.heap H).get? b=some o:=fun e n=>yH e n
    have noA:∀{b:Addr} {o:Obj} {es:Array DictEntry} {ep:Nat},s₁.heap.get? b=some o->o.data=.dict es ep->H b=none:=fun {b o es ep} e d=>by
      cases q:H b with
      | none=>rfl
      | some u =>
        have e':b=a:=hA b (by rw[q];simp)
        subst e'
        rw[ha]at e;cases e
        have d':Data.seq vs.toArray _=Data.dict es ep:=d
        cases d'
    have nsK:∀{b:Addr} {m:Str->Option Value},s₁.heap.Ns b m->(iN s₁.heap H).Ns b m:=fun {b m} ⟨o,es,ep,e,d,r⟩=>⟨o,es,ep,dG e (noA e d),d,r⟩
    have hKb:K.In (iN s₁.heap H):=fun b o e=>dG (KX b o e) (by
      cases q:H b with
      | none=>rfl
      | some u =>
        have e':b=a:=hA b (by rw[q];simp)
        subst e'
        rw[hK (by rw[q];simp)]at e;cases e)
    have hM:Mod K mg (iN s₁.heap H):=⟨hKb,nsK hns,⟨mb,nsK hb,hbb⟩,let ⟨mc,h1,h2⟩:=hlim;⟨mc,nsK h1,h2⟩⟩
    have e0:hJ P w K mg (iN s₁.heap H) callerA [] s₁ H:=⟨rfl,hM,fun b o e=>BJ e,Nat.le_of_eq (wN _ _),trivial,fun b hb=>absurd (show b∈([]:List Addr)from hb) (by simp),hok,.of_eq hg⟩
    refine codeAny_mono ((F _ hKb (nsK hns)).run callerA [] s₁ H ⟨[.ref a],[]⟩ [.ref a] [.ref a] _ _ hr e0 (hbind s₁ (.ref a)) (.cons rfl .nil) (hsp H hO hS)) fun r s' h=>?_
    cases r with
    | error e=>exact(hCX H e s' h).elim
    | ok fl =>
      cases fl with
      | next=>exact False.elim h
      | brk=>exact False.elim h
      | cont=>exact False.elim h
      | ret u =>
        obtain⟨v,H',os,bare,un,hok',r',q⟩:=h
        have q':v=.bl true:=q
        subst q'
        obtain rfl:u=Value.bool true:=r'
        refine⟨rfl,OldK.of_keep fun b o e=>?_,os,bare⟩
        cases q:H b with
        | none=>exact un.keep b o e q (by intro z;exact absurd (show b∈([]:List Addr)from z) (by simp)) (by simp)
        | some u =>
          rcases hO b with z|⟨ob,xs,z⟩
          . rw[q]at z;cases z
          . have z2:=un.frzs b ob _ z
            obtain⟨e1,_⟩:=hok b _ z
            obtain⟨e2,_⟩:=hok' b _ z2
            rw[e]at e1;cases e1
            exact e2
  cases hk:K.lookup a with
  | some o =>
    have e:=KX a o hk
    rw[ha]at e
    cases e
    refine core (fun _=>none) (fun _=>.inl rfl) (.inr ⟨_,vs.toArray,_,hk,rfl,rfl,rfl,by rw[List.size_toArray,lenV];exact hl,by simpa using rv⟩) (fun b u z=>by have z':(none:Option HO)=some u:=z;cases z') (fun b z=>absurd rfl z) fun z=>absurd rfl z
  | none =>
    refine core (fun b=>if b=a then some (.frz { cls:=.type "list", data:=.seq vs.toArray } (.lst (ns.map V.int)))else none) (fun b=>?_) (.inl (.inr ⟨{ cls:=.type "list", data:=.seq vs.toArray },if_pos rfl⟩)) (fun b u z=>?_) (fun b z=>?_) fun _=>hk
    . by_cases hb:b=a
      . exact .inr ⟨_,_,if_pos hb⟩
      . exact .inl (if_neg hb)
    . by_cases hb:b=a
      . have z':=(if_pos hb).symm.trans z
        cases z'
        subst hb
        exact⟨ha,by rw[List.length_map];exact hl,vs,_,rv,ha⟩
      . have z':=(if_neg hb).symm.trans z
        cases z'
    . by_cases hb:b=a
      . exact hb
      . exact absurd (if_neg hb) z
abbrev KOf{K:W.Frag}{h:Heap}(_:K.In h):W.Frag:=K
theorem walk_of{l:W.OpenLaw}{n:Nat}{q:Program}{loose:List Str}{XP:(Str->Option Value)->Heap->Prop}{YP:World->Heap->Prop}{d:DefRec}{K:Params->W.Frag}{CX:World->gM}{sp:World->Sp}
  (hn:l.most=some n) (hn2:n<=sizeLine) (hdf:d.params.defaults=[]) (hr:bP k callerA)
  (hY:∀(w:World) (h:Heap),YP w h->(K w.params).In h)
  (F:∀(w:World) (mg:Str->Option Value) (fa:Addr) (h:Heap),(K w.params).In h->h.Ns mainGlobals mg->mg d.name=some (.ref fa) ->
   ∃fd:FuncData,(∀(s:Shared) (u:Value),BindsTo s fd ⟨[u],[]⟩ [(x,u)]) /\
    ∀base:Heap,(K w.params).In base->base.Ns mainGlobals mg->bF l.prog w (K w.params) mg base (CX w) k fa fd [x] (sp w))
  (hsp:∀(w:World) (H:Hp) (a:Addr) (ns:List Int),ns.length<=n->r6 H->bL (K w.params) H a (ns.map V.int)->sp w [.ref a] H (fun v _=>v=.bl true) fun _ _ _=>False)
  (hCX:∀(w:World) (H:Hp) (s:Shared) (e:Value) (s':Shared),CX w [] H s (fun _ _ _=>False) e s'->False) :
  W.WalkO q loose XP YP l.row.toRowW d [] (fun f vs=>PySem.call f vs):=by
 refine Att.attach_call hn hdf fun w s₀ s₁ mg mb fa o pm cd doc a vs ns G Y ho hd hcd hmg hobj hints hlen hg=>?_
 have KX:=hY w _ Y
 obtain⟨fd,hb,hF⟩:=F w mg fa _ KX G.T.g hmg
 exact qO KX G.T.g G.T.b G.T.builtins G.T.nolimit hg hobj hints (Nat.le_trans hlen hn2) hr hF hb (fun H hO hS=>hsp w H a ns hlen hO hS) fun H e s'=>hCX w H s₁ e s'
end L2
/- THE LAST THEOREM (shape;LID,My.* are yours):
   My.Adr: a structure of the addresses that your layer names (classes,functions);My.Txt K t: a structure (Prop) of the equations over K;
   My.txt_mk:{K} {implicit addresses ..} (e1:nsIn K mainGlobals "law" = some (some (.ref f))) (e2:K.lookup f=some ⟨oc,od,.func (fnOf "law" "law" params body scope dV kV doc pm an cdv ct),sl⟩) (e3:codeIn K cdv "law" = true) ..:∃t,My.Txt K t
set_option maxRecDepth 100000 in
set_option maxHeartbeats 0 in
theorem PySem.Challenge.cw_LID_holds : PySem.Challenge.rw_LID.Holds := by
 w_on;o_law;k_head;(case hw=>w_witness2)
 k_fill
 refine L2.walk_of (l:=PySem.Challenge.rw_LID) (n:=63) (k:=40) (x := "script") (CX:=fun w=>..) (sp:=fun _=>My.sp_law) rfl (by decide) rfl ⟨rfl,by decide,by decide⟩ (fun w h Y=>PySem.W.kIn_of Y) ?F ?S ?C
 case F =>
  intro w mg fa h KX G hmg
  have T:∃t,My.Txt (L2.KOf KX) t:=by
   dsimp only[L2.KOf]                          -- K must stand as «<heap const> w.params» for k_is
   refine' My.txt_mk ?e1 ?e2 ?e3 ..
   (case e1=>PySem.W.k_is)                    -- in the order: a name->its address->its object->its parts
   (case e2=>PySem.W.k_is)
   ..
  obtain⟨t,T⟩:=T
  have e0:=hmg.symm.trans (PySem.W.mg_of KX G T.law)
  cases e0                                       -- fa is the law's own address
  exact⟨_,fun s u=>.of_eq rfl,fun base kb nb=>My.law_fn T kb nb⟩     -- if «.of_eq rfl» comes too early: refine' ⟨_,?b,fun base kb nb=>My.law_fn T kb nb⟩;exact fun s u=>.of_eq rfl
 case S=>exact fun w H a ns hl hO hS=>..
 case C=>exact ..
(the tactic k_is has no namespace: write k_is) -/
namespace L2
open PySem PySem.Spec PyProof.Rows
variable{qual x:Str}{st:Stmt}{f:Addr}{fd:FuncData}{ps:List Str}{H H':Hp}{o:Option V}{u:Value}{y:V}
def aW(s:Stmt):Arguments:=match s with
 | .FunctionDef _ a _ _ _ _ _ _ _ _=>a
 | _ => { posonlyargs:=[],args:=[],vararg:=none,kwonlyargs:=[],kw_defaults:=[],kwarg:=none,defaults:=[] }
def ak(s:Stmt):List Stmt:=match s with
 | .FunctionDef _ _ b _ _ _ _ _ _ _=>b
 | _=>[]
def aa(s:Stmt):Scope:=match s with
 | .FunctionDef _ _ _ _ _ _ sc _ _ _=>sc
 | _ => { kind:=.function,names:=[],isGenerator:=false,isCoroutine:=false }
abbrev df:gM:=fun _ _ _ _ _ _=>False
abbrev E0:XK:=fun _ _ _=>False
theorem gy{X:Cx}:eD df X E0:=fun _ _ _ _ _ _ _ h=>h.elim
structure jf(K:W.Frag)(x qual:Str)(st:Stmt)(f:Addr)(fd:FuncData):Prop where
 ex:∃(oc:Value) (od:Option Addr) (kV doc pm:Value) (an:Option Addr) (cdv ct:Value) (osl:Array (Option Value)),
  fd=W.fnOf x qual (aW st) (ak st) (aa st) .none kV doc pm an cdv ct/\K.lookup f=some ⟨oc,od,.func fd,osl⟩/\W.codeIn K cdv qual=true
 kp:W.keepIn K (.ref f)=true
section
variable{P:Program}{w:World}{K:W.Frag}{mg:Str->Option Value}{base:Heap}
theorem jf.ok{N:List Str}{k:Nat}{sp:Sp}(F:jf K x qual st f fd)(S:aK N ps (aa st))(len:∀vs H Q E,sp vs H Q E->vs.length=ps.length)
  (hbody:∀(cdv:Value) (A:Around) (outer:List Env) (s:Shared) (H:Hp) (vs:List V) (Q:VK) (E:XK),bP k (A.deeper (envOfC qual (aa st) s.heap.objs.size f cdv))->sp vs H Q E ->
   ∃t,eN (iW df P w K mg base N qual (aa st) f cdv A outer s H E).nox (ak st) t/\t { nx:=fun _ H'=>Q .non H',rt:=Q } (start N vs) H):bF P w K mg base df (k+1) f fd ps sp:=by
 obtain⟨oc,od,kV,doc,pm,an,cdv,ct,osl,rfl,lk,hcd⟩:=F.ex
 refine Iy lk hcd S len fun A outer s H vs Q E hr hsp=>?_
 obtain⟨t,h,q⟩:=hbody cdv A outer s H vs Q E hr hsp
 exact⟨t,h.nox,q⟩
theorem jf.binds(F:jf K x qual st f fd)
  (h:∀(kV doc pm:Value) (an:Option Addr) (cdv ct:Value) (us:List Value),us.length=ps.length->bindArgs (W.fnOf x qual (aW st) (ak st) (aa st) .none kV doc pm an cdv ct) ⟨us,[]⟩=pure (ps.zip us)):cf K fd ps []:=by
 obtain⟨oc,od,kV,doc,pm,an,cdv,ct,osl,rfl,lk,hcd⟩:=F.ex
 exact .all (h kV doc pm an cdv ct)
theorem bn{oc:Value}{od an:Option Addr}{osl:Array (Option Value)}{kV doc pm cdv ct:Value}(l:K.lookup f=some ⟨oc,od,.func (W.fnOf x qual (aW st) (ak st) (aa st) .none kV doc pm an cdv ct),osl⟩)
  (c:W.codeIn K cdv qual=true) (k:W.keepIn K (.ref f)=true):jf K x qual st f (W.fnOf x qual (aW st) (ak st) (aa st) .none kV doc pm an cdv ct):=⟨⟨oc,od,kV,doc,pm,an,cdv,ct,osl,rfl,l,c⟩,k⟩
end
section
variable{X:Cx}
end
def av(H H':Hp):Prop:=∀b o,H b=some o->H' b=some o
theorem av.refl(H:Hp):av H H:=fun _ _ h=>h
theorem av.trans{H1 H2:Hp}(a:av H H1)(b:av H1 H2):av H H2:=fun c o h=>b c o (a c o h)
theorem av.free(e:av H H'){l:Addr}(h:H' l=Option.none):H l=Option.none:=by
 cases q:H l with
 | none=>rfl
 | some o =>
  rw[e l o q]at h
  cases h
theorem av.seq{K:W.Frag}{a:Addr}{xs:List V}(e:av H H')(h:bL K H a xs):bL K H' a xs:=by
 rcases h with(h|⟨o,h⟩)|h
 ·exact .inl (.inl (e _ _ h))
 ·exact .inl (.inr ⟨o,e _ _ h⟩)
 ·exact .inr h
section
variable{κ:Type}[DecidableEq κ]
def iw(kvs:List (κ×V))(k:κ):Option V:=(kvs.find? fun kv=>decide (kv.1=k)).map (·.2)
def gS(kvs:List (κ×V))(k:κ)(v:V):List (κ×V) :=
 if (kvs.any fun kv=>decide (kv.1=k))=true then kvs.map (fun kv=>if kv.1=k then(kv.1,v)else kv)else kvs++[(k,v)]
def At(kvs:List (κ×V))(k:κ):List (κ×V):=kvs.filter fun kv=>decide (kv.1≠k)
theorem kT{p:κ×V}{r:List (κ×V)}{k:κ}(e:p.1=k):iw (p::r) k=some p.2:=by simp[iw,List.find?_cons,e]
theorem kU{p:κ×V}{r:List (κ×V)}{k:κ}(e:¬ p.1=k):iw (p::r) k=iw r k:=by simp[iw,List.find?_cons,e]
theorem xI(k:κ):∀kvs:List (κ×V),(kvs.any fun kv=>decide (kv.1=k))=(iw kvs k).isSome
 | []=>rfl
 | p::r=>by
  rw[List.any_cons]
  by_cases e:p.1=k
  ·simp only[kT e,decide_eq_true e,Bool.true_or,Option.isSome_some]
  ·rw[kU e,decide_eq_false e,Bool.false_or];exact xI k r
theorem sx(kvs:List (κ×V))(k:κ)(v:V):(gS kvs k v).length<=kvs.length+1:=by
 unfold gS
 split
 ·rw[List.length_map];omega
 ·rw[List.length_append,List.length_cons,List.length_nil];omega
theorem ee.isSome_eq{u:Option Value}(r:ee o u):o.isSome=u.isSome:=by
 cases o with
 | none=>cases u with
  | none=>rfl
  | some _=>exact(show False from r).elim
 | some _=>cases u with
  | none=>exact(show False from r).elim
  | some _=>rfl
theorem ee.getD{u:Option Value}{d:V}{d':Value}(r:ee o u)(rd:aT d d'):aT (o.getD d) (u.getD d'):=by
 cases o with
 | none=>cases u with
  | none=>exact rd
  | some _=>exact(show False from r).elim
 | some _=>cases u with
  | none=>exact(show False from r).elim
  | some _=>exact r
theorem KV.val{kvs:List (κ×V)}{vs:List (κ×Value)}(r:KV kvs vs)(k:κ):ee (iw kvs k) (valueAt vs k):=by
 unfold KV at r
 induction r with
 | nil=>exact True.intro
 | @cons p q ps qs h t ih =>
  obtain⟨h1,h2⟩:=h
  by_cases e:p.1=k
  ·have e':q.1=k:=h1.symm.trans e
   have b:valueAt (q::qs) k=some q.2:=by simp[valueAt,List.find?_cons,e']
   rw[kT e,b];exact h2
  ·have e':¬ q.1=k:=fun z=>e (h1.trans z)
   have b:valueAt (q::qs) k=valueAt qs k:=by simp[valueAt,List.find?_cons,e']
   rw[kU e,b];exact ih
theorem KV.any{kvs:List (κ×V)}{vs:List (κ×Value)}(r:KV kvs vs)(k:κ):(kvs.any fun kv=>decide (kv.1=k))=vs.any fun kv=>decide (kv.1=k):=by
 unfold KV at r
 induction r with
 | nil=>rfl
 | cons h t ih=>rw[List.any_cons,List.any_cons,ih,h.1]
theorem KV.repl{kvs:List (κ×V)}{vs:List (κ×Value)}(r:KV kvs vs)(k:κ)(ry:aT y u) :
  KV (kvs.map fun kv=>if kv.1=k then(kv.1,y)else kv) (vs.map fun kv=>if kv.1=k then(kv.1,u)else kv):=by
 unfold KV at r⊢
 induction r with
 | nil=>exact .nil
 | @cons p q ps qs h t ih =>
  rw[List.map_cons,List.map_cons]
  refine .cons ?_ ih
  obtain⟨h1,h2⟩:=h
  by_cases e:p.1=k
  ·rw[if_pos e,if_pos (h1.symm.trans e)];exact⟨h1,ry⟩
  ·rw[if_neg e,if_neg (fun z=>e (h1.trans z))];exact⟨h1,h2⟩
theorem KV.put{kvs:List (κ×V)}{vs:List (κ×Value)}(r:KV kvs vs)(k:κ)(ry:aT y u):KV (gS kvs k y) (stored vs k u):=by
 unfold gS stored
 rw[r.any k]
 by_cases e:(vs.any fun kv=>decide (kv.1=k))=true
 ·rw[if_pos e,if_pos e];exact r.repl k ry
 ·rw[if_neg e,if_neg e];exact Paired.snoc r ⟨rfl,ry⟩
theorem KV.drop{kvs:List (κ×V)}{vs:List (κ×Value)}(r:KV kvs vs)(k:κ):KV (At kvs k) (without vs k):=by
 unfold KV at r⊢
 unfold At without
 induction r with
 | nil=>exact .nil
 | @cons p q ps qs h t ih =>
  obtain⟨h1,h2⟩:=h
  rw[List.filter_cons,List.filter_cons]
  by_cases e:p.1=k
  ·have a:¬ decide (p.1≠k)=true:=by simp[e]
   have b:¬ decide (q.1≠k)=true:=by simp[h1.symm.trans e]
   rw[if_neg a,if_neg b];exact ih
  ·have e':¬ q.1=k:=fun z=>e (h1.trans z)
   have a:decide (p.1≠k)=true:=by simp[e]
   have b:decide (q.1≠k)=true:=by simp[e']
   rw[if_pos a,if_pos b];exact .cons ⟨h1,h2⟩ ih
theorem KV.length{kvs:List (κ×V)}{vs:List (κ×Value)}(r:KV kvs vs):kvs.length=vs.length:=Paired.length r
end
theorem Ai{P:Program}{w:World}{k:bS}(r:aT (kV k) u):(ig P w).is k u=true:=by
 cases k with
 | inl i=>obtain⟨t,e⟩:=(show ∃t,u=Value.int i t from r);subst e;exact sw P w i t
 | inr x=>obtain⟨t,e⟩:=(show ∃t,u=Value.str x t from r);subst e;exact sv P w x t
end L2
set_option maxHeartbeats 4000000
namespace Sp
open PySem PySem.Spec PyProof.Rows L2
variable{K:W.Frag}{H H' H0 H1:Hp}{a c e e2 elt iter tg:Expr}{vs vs':List V}{v:V}{X:Cx}{σ:L2.St}{b it r r2 t:Bool}{i j k k2 ko n n1 n2:Nat}{env:Env}{sc scope:Scope}{M:Model}{A:Around}{E Q:Value->Shared->Prop}{s:Shared}{cl:List (Str×Addr)}{f g m qual s0 x:Str}{pins:List (Addr×Obj)}{N' fs ns ps:List Str}{fp:List Addr}{w:World}{args cs es ifs tgs:List Expr}{ap apos cp p p1 p2 p4 pos px py q tp:Pos}{op op2:CmpOp}{body els ss:List Stmt}{α β:Type}{o:List Prop}{P:Program}{ks:List bS}{T:String}{hi lo:Option Expr}{h:Option Int}{st:Stmt}{mg:Str->Option Value}{base:Heap}{cdv mc old:Value}{outer:List Env}{fd:FuncData}{tu:Addr}{us:List Value}
inductive D where
 | non|bl (b:Bool)|int (i:Int)|str (x:Str)|dct (ks:List bS) (ds:List D)|tup (l:List D)|lst (l:List D)|typ (n:String)|sn (n:Nat)|obj (n:Str) (ns:List Str) (ds:List D)|cls (n:Str)
mutual
def D.lless:D->Bool
 | .lst _=>false
 | .dct _ _=>false
 | .tup l=>ao l
 | _=>true
def ao:List D->Bool
 | []=>true
 | d::l=>d.lless&&ao l
end
def r8(K:W.Frag)(H:Hp)(a:Addr)(vs:List V):Bool->Prop
 | true=>H a=some (.lst vs)
 | false=>(∃o,H a=some (.frz o (.lst vs)))\/∃(o:Obj) (its:Array Value) (n:Nat),K.lookup a=some o/\o.cls=.type "list" /\ o.dict=none/\o.data=.seq its n/\its.size<=sizeLine/\aG vs its.toList
theorem r8.sq{a:Addr}:∀{b:Bool},r8 K H a vs b->bL K H a vs
 | true,h=>bL.of h
 | false,.inl ⟨o,h⟩=>.inl (.inr ⟨o,h⟩)
 | false,.inr h=>.inr h
structure mU(K:W.Frag)(C:Addr):Prop where
 ha:W.findIn K (.ref C) "__class__" = some (some (.builtin "object.__class__"))
 hn:W.specialIn K (.builtin "object.__class__") "__get__" = some (some (.builtin "getset_descriptor.__get__"))
 ht:W.takesIn K (.builtin "object.__class__")=some true
 hm:W.mroIn K C (.type "object")=some true
def rH:List Str:=["Deed", "Turn", "HalfTurn", "Mirror"]
def dR(m n:Str):Bool:=decide (m=n) || (decide (n = "Deed")&&(decide (m = "Turn") || decide (m = "HalfTurn") || decide (m = "Mirror")))
structure AR(K:W.Frag)(C:Addr)(n:Str):Prop where
 all:∀m∈rH,∀Cm,W.nsIn K mainGlobals m=some (some (.ref Cm))->mU K Cm/\W.kitOne K (.ref Cm) (.ref C)=some (dR m n)
abbrev aZ:=Addr->Bool->Prop
mutual
def ag(K:W.Frag)(H:Hp)(P:aZ):D->V->Prop
 | .non,v=>v=.non
 | .bl b,v=>v=.bl b
 | .int i,v=>v=.int i
 | .str x,v=>v=.str x
 | .dct ks ds,v=>ao ds=true/\ks.length=ds.length/\∃a vs,v=.ref a/\H a=some (.dK (ks.zip vs))/\P a true/\af K H P ds vs
 | .typ n,v=>v=.ty n
 | .sn n,v => ∃a S,v=.ref a/\H a=some (.set S n)
 | .cls n,v => ∃C o,v=.ref C/\W.nsIn K mainGlobals n=some (some (.ref C))/\K.lookup C=some o/\o.cls=.type "type" /\ mU K C/\AR K C n
 | .obj n ns ds,v=>ao ds=true/\ns.length=ds.length/\∃a C dx vs,v=.ref a/\W.nsIn K mainGlobals n=some (some (.ref C))/\dQ K C/\H a=some (.ins C dx (ns.zip vs))/\af K H P ds vs
 | .tup l,v => ∃a vs,v=.ref a/\cw K H a vs/\af K H P l vs
 | .lst l,v => ∃a vs b,v=.ref a/\r8 K H a vs b/\P a b/\af K H P l vs
def af(K:W.Frag)(H:Hp)(P:aZ):List D->List V->Prop
 | [],vs=>vs=[]
 | d::l,vs => ∃v r,vs=v::r/\ag K H P d v/\af K H P l r
end
def nm:HO->Prop
 | .lst _=>False
 | .dK _=>False
 | _=>True
structure cV(P P':aZ)(H H':Hp):Prop where
 oth:∀a o,H a=some o->nm o->H' a=some o
 lst:∀a o,H a=some o->P a true->H' a=some o
 impT:∀a o,H a=some o->P a true->P' a true
 impF:∀a,P a false->P' a false
theorem cV.sq{P P':aZ}(s:cV P P' H H'){a:Addr}(h:cw K H a vs):cw K H' a vs:=by
 rcases h with(h|⟨o,h⟩)|h
 ·exact .inl (.inl (s.oth _ _ h True.intro))
 ·exact .inl (.inr ⟨o,s.oth _ _ h True.intro⟩)
 ·exact .inr h
theorem cV.ls{P P':aZ}(s:cV P P' H H'){a:Addr}:∀{b:Bool},r8 K H a vs b->P a b->r8 K H' a vs b
 | true,h,p=>s.lst a _ h p
 | false,.inl ⟨o,h⟩,_=>.inl ⟨o,s.oth _ _ h True.intro⟩
 | false,.inr h,_=>.inr h
theorem cV.imp{P P':aZ}(s:cV P P' H H'){a:Addr}:∀{b:Bool},r8 K H a vs b->P a b->P' a b
 | true,h,p=>s.impT a _ h p
 | false,_,p=>s.impF a p
mutual
theorem ag.mono{K:W.Frag}{P P':aZ}{H H':Hp}(s:cV P P' H H'):∀{d:D} {v:V},ag K H P d v->ag K H' P' d v
 | .non,v,h=>by rw[ag]at h⊢;exact h
 | .bl b,v,h=>by rw[ag]at h⊢;exact h
 | .int i,v,h=>by rw[ag]at h⊢;exact h
 | .str x,v,h=>by rw[ag]at h⊢;exact h
 | .dct ks ds,v,h=>by
  rw[ag]at h⊢
  obtain⟨f,e0,a,vs,e,h1,p,r⟩:=h
  exact⟨f,e0,a,vs,e,s.lst _ _ h1 p,s.impT _ _ h1 p,af.mono s r⟩
 | .typ n,v,h=>by rw[ag]at h⊢;exact h
 | .sn n,v,h=>by
  rw[ag]at h⊢
  obtain⟨a,S,e,h⟩:=h
  exact⟨a,S,e,s.oth _ _ h True.intro⟩
 | .cls n,v,h=>by rw[ag]at h⊢;exact h
 | .obj n ns ds,v,h=>by
  rw[ag]at h⊢
  obtain⟨f,e0,a,C,dx,vs,e,h1,h2,h3,r⟩:=h
  exact⟨f,e0,a,C,dx,vs,e,h1,h2,s.oth _ _ h3 True.intro,af.mono s r⟩
 | .tup l,v,h=>by
  rw[ag]at h⊢
  obtain⟨a,vs,e,h,r⟩:=h
  exact⟨a,vs,e,s.sq h,af.mono s r⟩
 | .lst l,v,h=>by
  rw[ag]at h⊢
  obtain⟨a,vs,b,e,h,p,r⟩:=h
  exact⟨a,vs,b,e,s.ls h p,s.imp h p,af.mono s r⟩
theorem af.mono{K:W.Frag}{P P':aZ}{H H':Hp}(s:cV P P' H H'):∀{l:List D} {vs:List V},af K H P l vs->af K H' P' l vs
 | [],vs,h=>by rw[af]at h⊢;exact h
 | d::l,vs,h=>by
  rw[af]at h⊢
  obtain⟨v,r,e,h1,h2⟩:=h
  exact⟨v,r,e,ag.mono s h1,af.mono s h2⟩
end
theorem cV.same{P P':aZ}(s:av H H')(i:∀a b,P a b->P' a b):cV P P' H H':=⟨fun a o h _=>s a o h,fun a vs h _=>s a _ h,fun a _ _ p=>i a true p,fun a p=>i a false p⟩
theorem ag.same{P:aZ}(s:av H H'){d:D}(h:ag K H P d v):ag K H' P d v:=h.mono (.same s fun _ _ p=>p)
theorem af.same{P:aZ}(s:av H H'){d:List D}{v:List V}(h:af K H P d v):af K H' P d v:=h.mono (.same s fun _ _ p=>p)
theorem ag.imp{P P':aZ}(i:∀a b,P a b->P' a b){d:D}(h:ag K H P d v):ag K H P' d v:=h.mono (.same (av.refl _) i)
theorem af.imp{P P':aZ}(i:∀a b,P a b->P' a b){d:List D}{v:List V}(h:af K H P d v):af K H P' d v:=h.mono (.same (av.refl _) i)
theorem ag.impH{P P':aZ}(i:∀a o,H a=some o->P a true->P' a true)(j:∀a,P a false->P' a false){d:D}(h:ag K H P d v):ag K H P' d v:=h.mono ⟨fun _ _ h _=>h,fun _ _ h _=>h,i,j⟩
theorem af.impH{P P':aZ}(i:∀a o,H a=some o->P a true->P' a true)(j:∀a,P a false->P' a false){d:List D}{v:List V}(h:af K H P d v):af K H P' d v:=h.mono ⟨fun _ _ h _=>h,fun _ _ h _=>h,i,j⟩
mutual
theorem ag.flat{K:W.Frag}{P:aZ}(P':aZ){H:Hp}:∀{d:D} {v:V},d.lless=true->ag K H P d v->ag K H P' d v
 | .non,v,_,h=>by rw[ag]at h⊢;exact h
 | .bl b,v,_,h=>by rw[ag]at h⊢;exact h
 | .int i,v,_,h=>by rw[ag]at h⊢;exact h
 | .str x,v,_,h=>by rw[ag]at h⊢;exact h
 | .dct _ _,v,f,h=>by rw[D.lless]at f;cases f
 | .typ n,v,_,h=>by rw[ag]at h⊢;exact h
 | .sn n,v,_,h=>by rw[ag]at h⊢;exact h
 | .cls n,v,_,h=>by rw[ag]at h⊢;exact h
 | .obj n ns ds,v,_,h=>by
  rw[ag]at h⊢
  obtain⟨f,e0,a,C,dx,vs,e,h1,h2,h3,r⟩:=h
  exact⟨f,e0,a,C,dx,vs,e,h1,h2,h3,af.flat P' f r⟩
 | .tup l,v,f,h=>by
  rw[ag]at h⊢
  obtain⟨a,vs,e,h,r⟩:=h
  exact⟨a,vs,e,h,af.flat P' (by rw[D.lless]at f;exact f) r⟩
 | .lst l,v,f,h=>by rw[D.lless]at f;cases f
theorem af.flat{K:W.Frag}{P:aZ}(P':aZ){H:Hp}:∀{l:List D} {vs:List V},ao l=true->af K H P l vs->af K H P' l vs
 | [],vs,_,h=>by rw[af]at h⊢;exact h
 | d::l,vs,f,h=>by
  rw[af]at h⊢
  rw[ao,Bool.and_eq_true]at f
  obtain⟨v,r,e,h1,h2⟩:=h
  exact⟨v,r,e,ag.flat P' f.1 h1,af.flat P' f.2 h2⟩
end
theorem af.length{P:aZ}:∀{l:List D} {vs:List V},af K H P l vs->l.length=vs.length
 | [],vs,h=>by rw[af]at h;subst h;rfl
 | d::l,vs,h=>by
  rw[af]at h
  obtain⟨v,r,e,h1,h2⟩:=h
  subst e
  rw[List.length_cons,List.length_cons,h2.length]
theorem af.get{K:W.Frag}{P:aZ}{H:Hp}:∀{l:List D} {vs:List V} {i:Nat} {d:D},af K H P l vs->l[i]?=some d->∃v,vs[i]?=some v/\ag K H P d v
 | [],vs,i,d,h,e=>by simp at e
 | x::l,vs,0,d,h,e=>by
  rw[af]at h
  obtain⟨v,r,rfl,h1,h2⟩:=h
  simp at e;subst e
  exact⟨v,by simp,h1⟩
 | x::l,vs,i+1,d,h,e=>by
  rw[af]at h
  obtain⟨v,r,rfl,h1,h2⟩:=h
  obtain⟨u,h3,h4⟩:=af.get (i:=i) h2 (by simpa using e)
  exact⟨u,by simpa using h3,h4⟩
theorem af.append{K:W.Frag}{P:aZ}{H:Hp}:∀{l m:List D} {vs ws:List V},af K H P l vs->af K H P m ws->af K H P (l++m) (vs++ws)
 | [],m,vs,ws,h,g=>by rw[af]at h;subst h;exact g
 | d::l,m,vs,ws,h,g=>by
  rw[af]at h
  obtain⟨v,r,rfl,h1,h2⟩:=h
  show af K H P (d::(l++m)) (v::(r++ws))
  rw[af]
  exact⟨v,_,rfl,h1,af.append h2 g⟩
theorem af.one{P:aZ}{d:D}(h:ag K H P d v):af K H P [d] [v]:=by
 rw[af];exact⟨v,[],rfl,h,by rw[af]⟩
theorem af.nil{P:aZ}:af K H P [] []:=by rw[af]
theorem af.cons{P:aZ}{d:D}{l:List D}(h:ag K H P d v)(g:af K H P l vs):af K H P (d::l) (v::vs):=by
 rw[af];exact⟨v,vs,rfl,h,g⟩
theorem af.take{K:W.Frag}{P:aZ}{H:Hp}:∀{l:List D} {vs:List V} (n:Nat),af K H P l vs->af K H P (l.take n) (vs.take n)
 | [],vs,n,h=>by rw[af]at h;subst h;simp;exact af.nil
 | d::l,vs,0,h=>by simp;exact af.nil
 | d::l,vs,n+1,h=>by
  rw[af]at h
  obtain⟨v,r,rfl,h1,h2⟩:=h
  exact af.cons h1 (af.take n h2)
theorem af.drop{K:W.Frag}{P:aZ}{H:Hp}:∀{l:List D} {vs:List V} (n:Nat),af K H P l vs->af K H P (l.drop n) (vs.drop n)
 | [],vs,n,h=>by rw[af]at h;subst h;simp;exact af.nil
 | d::l,vs,0,h=>h
 | d::l,vs,n+1,h=>by
  rw[af]at h
  obtain⟨v,r,rfl,h1,h2⟩:=h
  exact af.drop n h2
theorem af.mapInt{K:W.Frag}{P:aZ}{H:Hp}:∀{ns:List Int} {vs:List V},af K H P (ns.map D.int) vs->vs=ns.map V.int
 | [],vs,h=>by rw[List.map_nil,af]at h;exact h
 | n::ns,vs,h=>by
  rw[List.map_cons,af]at h
  obtain⟨v,r,rfl,h1,h2⟩:=h
  rw[ag]at h1
  rw[h1,af.mapInt h2];rfl
theorem af.ofInts{K:W.Frag}{P:aZ}{H:Hp}:∀{ns:List Int},af K H P (ns.map D.int) (ns.map V.int)
 | []=>af.nil
 | n::ns=>af.cons (by rw[ag]) af.ofInts
abbrev Ow:=Addr->Option (Option Str)
def Kp(ow:Ow)(H:Hp):Nat->aZ
 | 0=>fun a b=>b=true/\H a=none
 | 1=>fun a b=>b=true->ow a=none
 | 2=>fun a b=>b=true/\(ow a≠none\/H a=none)
 | _=>fun _ _=>True
def kj:Nat->Nat->Nat
 | 0,k=>k
 | k,0=>k
 | 1,1=>1
 | 2,2=>2
 | _,_=>3
def iF(ow:Ow)(x:Str):Bool->aZ
 | true=>fun a b=>b=true/\ow a=some (some x)
 | false=>fun a b=>b=true->ow a=none
def ef(ow:Ow)(H:Hp):Prop:=∀a,ow a≠none->∃o,H a=some o
theorem ef.same{ow:Ow}(o:ef ow H)(s:av H H'):ef ow H':=fun a h=>let ⟨x,e⟩:=o a h;⟨x,s a x e⟩
theorem ef.free{ow:Ow}(o:ef ow H){a:Addr}(h:H a=none):ow a=none:=by
 cases e:ow a with
 | none=>rfl
 | some x=>obtain⟨y,q⟩:=o a (by rw[e];exact(fun z=>nomatch z));rw[h]at q;cases q
theorem Kp.back{ow:Ow}(s:av H H'):∀(k:Nat) (a:Addr) (b:Bool),Kp ow H' k a b->Kp ow H k a b
 | 0,a,b,h=>⟨h.1,s.free h.2⟩
 | 1,a,b,h=>h
 | 2,a,b,h=>⟨h.1,h.2.imp id fun z=>s.free z⟩
 | _+3,a,b,h=>True.intro
theorem Kp.joinL{ow:Ow}(o:ef ow H):∀(k j:Nat) (a:Addr) (b:Bool),Kp ow H k a b->Kp ow H (kj k j) a b
 | 0,0,a,b,h=>h
 | 0,1,a,b,h=>fun _=>o.free h.2
 | 0,2,a,b,h=>⟨h.1,.inr h.2⟩
 | 0,_+3,a,b,h=>True.intro
 | 1,0,a,b,h=>h
 | 1,1,a,b,h=>h
 | 1,2,a,b,h=>True.intro
 | 1,_+3,a,b,h=>True.intro
 | 2,0,a,b,h=>h
 | 2,1,a,b,h=>True.intro
 | 2,2,a,b,h=>h
 | 2,_+3,a,b,h=>True.intro
 | _+3,0,a,b,h=>True.intro
 | _+3,1,a,b,h=>True.intro
 | _+3,2,a,b,h=>True.intro
 | _+3,_+3,a,b,h=>True.intro
theorem BZ:∀k j,kj k j=kj j k
 | 0,0|0,1|0,2|0,_+3|1,0|1,1|1,2|1,_+3|2,0|2,1|2,2|2,_+3|_+3,0|_+3,1|_+3,2|_+3,_+3=>rfl
theorem Kp.joinR{ow:Ow}(o:ef ow H)(k j:Nat)(a:Addr)(b:Bool)(h:Kp ow H j a b):Kp ow H (kj k j) a b:=by
 rw[BZ];exact Kp.joinL o j k a b h
abbrev ae:=Str->Option (D×Bool)
structure aH(X:Cx)(ow:Ow)(H:Hp)(σ:L2.St)(ρ:ae):Prop where
 get:∀x d o,ρ x=some (d,o)->∃(i:Nat) (v:V),X.N[i]?=some x/\eM X.env.scope x/\σ[i]?=some (some v)/\ag X.K H (iF ow x o) d v
 own:ef ow H
theorem aH.same{ow:Ow}{ρ:ae}(e:aH X ow H σ ρ)(s:av H H'):aH X ow H' σ ρ :=
 ⟨fun x d o h=>let ⟨i,v,h1,h2,h3,h4⟩:=e.get x d o h;⟨i,v,h1,h2,h3,h4.same s⟩,e.own.same s⟩
def tD(X:Cx)(ow:Ow)(ρ:ae)(d:D)(k:Nat):TE:=fun σ H Q=>aH X ow H σ ρ/\∀v H',av H H'->ag X.K H' (Kp ow H k) d v->Q v H'
def ED(X:Cx)(ρ:ae)(e:Expr)(d:D)(k:Nat):Prop:=∀ow,PE X e (tD X ow ρ d k)
def vQ(X:Cx)(ow:Ow)(ρ:ae)(b:Bool):TT:=fun σ H Q=>aH X ow H σ ρ/\∀H',av H H'->Q b H'
def TD(X:Cx)(ρ:ae)(e:Expr)(b:Bool):Prop:=∀ow,PT X e (vQ X ow ρ b)
def Nv(X:Cx)(ow:Ow)(ρ:ae)(ds:List D)(k:Nat):TA:=fun σ H Q=>aH X ow H σ ρ/\∀vs H',av H H'->af X.K H' (Kp ow H k) ds vs->Q vs H'
def AD(X:Cx)(ρ:ae)(es:List Expr)(ds:List D)(k:Nat):Prop:=∀ow,PA X es (Nv X ow ρ ds k)
theorem bg{t t':TE}(h:PE X e t)(i:∀σ H Q,t' σ H Q->t σ H Q):PE X e t':=fun pins s σ H Q I q=>h pins s σ H Q I (i σ H Q q)
theorem pG{t t':TT}(h:PT X e t)(i:∀σ H Q,t' σ H Q->t σ H Q):PT X e t':=fun pins s σ H Q I q=>h pins s σ H Q I (i σ H Q q)
theorem AC{e:List Expr}{t t':TA}(h:PA X e t)(i:∀σ H Q,t' σ H Q->t σ H Q):PA X e t':=fun pos pins s σ H Q I q=>h pos pins s σ H Q I (i σ H Q q)
def kn(d:D)(k:Nat):Nat:=if d.lless=true then 0 else k
theorem ED.kn{ρ:ae}{d:D}(h:ED X ρ e d k):ED X ρ e d (Sp.kn d k):=by
 unfold Sp.kn
 by_cases f:d.lless=true
 ·rw[if_pos f]
  exact fun ow=>bg (h ow) fun σ H Q ⟨E,q⟩=>⟨E,fun v H' s r=>q v H' s (r.flat _ f)⟩
 ·rw[if_neg f];exact h
variable{C C' ρ ρ':ae}{d y z:D}{ow ow':Ow}{ds l l':List D}
def Jl(K:W.Frag)(J:It)(ds:List D)(P:aZ)(H1:Hp):Prop :=
 ∀(i:Nat) (H2:Hp),cV P P H1 H2->(∀d,ds[i]?=some d->J.go i H2/\∀x H3,J.yld i H2 x H3->av H2 H3/\ag K H3 P d x)/\(ds.length<=i->J.stop i H2)
def Kd(ow:Ow)(H:Hp)(k:Nat)(H1:Hp):aZ:=fun a b=>Kp ow H k a b/\(b=true->∃o,H1 a=some o)
def tI(X:Cx)(ow:Ow)(ρ:ae)(ds:List D)(k:Nat):TI:=fun σ H R=>aH X ow H σ ρ/\∀J H1,av H H1->Jl X.K J ds (Kd ow H k H1) H1->R J H1
def IE(X:Cx)(ρ:ae)(tg iter:Expr)(ds:List D)(k:Nat):Prop:=∀ow,PI X tg iter (tI X ow ρ ds k)
def gh(ifs:List Expr)(env:Env):Sem Bool:=forIn ifs true fun c r=>if r=true then do let ok <- isTrue c env (eval c env);pure (ForInStep.yield ok)else pure (ForInStep.yield r)
def xC(X:Cx)(ρ:ae)(ifs:List Expr)(b:Bool):Prop:=∀ow (pins:List (Addr×Obj)) (s:Shared) (σ:L2.St) (H:Hp) (Q:Bool->Hp->Prop),aj X pins σ H s->vQ X ow ρ b σ H Q->wpAny (model X.prog X.w) X.A (gh ifs X.env) (TP X pins σ Q) X.xe s
def GD(X:Cx)(ρ:ae)(tg:Expr)(d:D)(ρ':ae):Prop:=∃g:TG,PG X tg g/\∀(ow:Ow) (v:V) (σ:L2.St) (H:Hp) (Q:L2.St->Hp->Prop),σ.length=X.N.length->aH X ow H σ ρ->ag X.K H (fun a b=>b=true->ow a=none) d v->(∀σ',σ'.length=X.N.length->aH X ow H σ' ρ'->Q σ' H)->g v σ H Q
abbrev jL(X:Cx)(scope:Scope)(cl:List (Str×Addr))(C:Addr)(N':List Str)(s:Shared)(H:Hp)(fp:List Addr):Cx :=
 { X with N:=N',s₀:=s,H₀:=H,env:=compEnvC scope cl C X.env,outer:=X.stack,stack:=X.stack,ex:=fp,fn:=fun x=>decide (scope.names.lookup x=some .cell),pn:=[],xe:=fun _ _=>False }
theorem gn{env:Env}:∀(names:List (Str×NameKind)) (cs:List (Str×Addr)),(∀n,(n,NameKind.free)∈names->∃c,env.cells.lookup n=some c) ->
  ∃cl,(forIn names cs (fun(x:Str×NameKind) (r:List (Str×Addr))=>(if (x.2==NameKind.free)=true then do let a <- cellOf env x.1;pure (ForInStep.yield ((x.1,a)::r))else pure (ForInStep.yield r):Sem (ForInStep (List (Str×Addr))))))=(pure cl:Sem (List (Str×Addr))) /\
   (∀x c,cl.lookup x=some c->(env.cells.lookup x=some c/\(x,NameKind.free)∈names)\/cs.lookup x=some c)/\(∀x,(x,NameKind.free)∈names->∃c,cl.lookup x=some c)/\(∀x c,cs.lookup x=some c->∃c',cl.lookup x=some c')
 | [],cs,_=>⟨cs,rfl,fun x c h=>.inr h,fun x h=>(by cases h),fun x c h=>⟨c,h⟩⟩
 | (n,k)::r,cs,h=>by
  have hr:∀n,(n,NameKind.free)∈r->∃c,env.cells.lookup n=some c:=fun m hm=>h m (List.mem_cons_of_mem _ hm)
  by_cases hk:k=.free
  ·subst hk
   obtain⟨c,hc⟩:=h n List.mem_cons_self
   obtain⟨cl,e,h1,h2,h3⟩:=gn r ((n,c)::cs) hr
   refine⟨cl,?_,fun x c' hx=>?_,fun x hx=>?_,fun x c' hx=>?_⟩
   ·rw[List.forIn_cons]
    simp only[beq_self_eq_true,if_true,cellOf,hc]
    rw[pure_bind,pure_bind]
    exact e
   ·rcases h1 x c' hx with q|q
    ·exact .inl ⟨q.1,List.mem_cons_of_mem _ q.2⟩
    ·rw[List.lookup_cons]at q
     split at q
     ·rename_i hb
      have:x=n:=by simpa using hb
      subst this;cases q;exact .inl ⟨hc,List.mem_cons_self⟩
     ·exact .inr q
   ·rcases List.mem_cons.mp hx with q|q
    ·cases q
     exact h3 n c (by simp)
    ·exact h2 x q
   ·by_cases hb:x==n
    ·exact h3 x c (by rw[List.lookup_cons,hb])
    ·exact h3 x c' (by rw[List.lookup_cons];simp only[hb];exact hx)
  ·obtain⟨cl,e,h1,h2,h3⟩:=gn r cs hr
   refine⟨cl,?_,fun x c hx=>(h1 x c hx).imp (fun q=>⟨q.1,List.mem_cons_of_mem _ q.2⟩) id,fun x hx=>?_,h3⟩
   ·rw[List.forIn_cons]
    have:(k==NameKind.free)=false:=by simpa using hk
    simp only[this,Bool.false_eq_true,if_false]
    rw[pure_bind]
    exact e
   ·rcases List.mem_cons.mp hx with q|q
    ·cases q;exact absurd rfl hk
    ·exact h2 x q
theorem sC(h:∀n,(n,NameKind.free)∈scope.names->∃c,env.cells.lookup n=some c) :
  ∃cl,closureFor scope env=pure cl/\(∀x c,cl.lookup x=some c->env.cells.lookup x=some c/\(x,NameKind.free)∈scope.names)/\(∀x,(x,NameKind.free)∈scope.names->∃c,cl.lookup x=some c):=by
 obtain⟨cl,e,h1,h2,_⟩:=gn scope.names [] h
 refine⟨cl,?_,fun x c hx=>(h1 x c hx).resolve_right (by simp),h2⟩
 unfold closureFor
 rw[<- e,<- bind_pure (forIn scope.names _ _)]
theorem cS{env:Env}:∀{names:List (Str×NameKind)} {x:Str},names.lookup x=some .free ->
  (names.map fun(n,k)=>if (k==NameKind.free&&env.scope.kind == .function&&env.kindOf n==some .cell)then(n,NameKind.cell)else(n,k)).lookup x=some .cell \/
  (names.map fun(n,k)=>if (k==NameKind.free&&env.scope.kind == .function&&env.kindOf n==some .cell)then(n,NameKind.cell)else(n,k)).lookup x=some .free
 | [],_,h=>by simp at h
 | (n,k)::r,x,h=>by
  have ih:=@cS env r x
  show List.lookup x ((if (k==NameKind.free&&env.scope.kind == .function&&env.kindOf n==some .cell)=true then(n,NameKind.cell)else(n,k))::_)=_\/List.lookup x ((if (k==NameKind.free&&env.scope.kind == .function&&env.kindOf n==some .cell)=true then(n,NameKind.cell)else(n,k))::_)=_
  cases hx:x==n with
  | true =>
   simp only[List.lookup_cons,hx]at h
   cases h
   by_cases hc:(NameKind.free==NameKind.free&&env.scope.kind == .function&&env.kindOf n==some .cell)=true
   ·rw[if_pos hc];simp[List.lookup_cons,hx]
   ·rw[if_neg hc];simp[List.lookup_cons,hx]
  | false =>
   simp only[List.lookup_cons,hx]at h
   by_cases hc:(k==NameKind.free&&env.scope.kind == .function&&env.kindOf n==some .cell)=true
   ·rw[if_pos hc];simp only[List.lookup_cons,hx];exact ih h
   ·rw[if_neg hc];simp only[List.lookup_cons,hx];exact ih h
theorem fe{env:Env}:∀{names:List (Str×NameKind)} {x:Str} {k:NameKind},(names.map fun(n,k)=>if (k==NameKind.free&&env.scope.kind == .function&&env.kindOf n==some .cell)then(n,NameKind.cell)else(n,k)).lookup x=some k ->
  names.lookup x=some k\/(k=.cell/\names.lookup x=some .free)
 | [],_,_,h=>by simp at h
 | (n,j)::r,x,k,h=>by
  have ih:=@fe env r x k
  replace h:List.lookup x ((if (j==NameKind.free&&env.scope.kind == .function&&env.kindOf n==some .cell)=true then(n,NameKind.cell)else(n,j))::_)=some k:=h
  cases hx:x==n with
  | true =>
   simp only[List.lookup_cons,hx]
   by_cases hc:(j==NameKind.free&&env.scope.kind == .function&&env.kindOf n==some .cell)=true
   ·rw[if_pos hc]at h
    simp only[List.lookup_cons,hx]at h
    cases h
    have:j=.free:=by
     have:=(Bool.and_eq_true _ _).mp ((Bool.and_eq_true _ _).mp hc).1
     simpa using this.1
    exact .inr ⟨rfl,by rw[this]⟩
   ·rw[if_neg hc]at h
    simp only[List.lookup_cons,hx]at h
    exact .inl h
  | false =>
   simp only[List.lookup_cons,hx]
   by_cases hc:(j==NameKind.free&&env.scope.kind == .function&&env.kindOf n==some .cell)=true
   ·rw[if_pos hc]at h;simp only[List.lookup_cons,hx]at h;exact ih h
   ·rw[if_neg hc]at h;simp only[List.lookup_cons,hx]at h;exact ih h
structure fF(env:Env)(scope:Scope)(N':List Str):Prop where
 kind:scope.kind=.function
 nn:(scope.names.map (·.1)).Nodup
 names:∀y∈scope.names,y.2=.local->scope.names.lookup y.1=some .local
 nd:N'.Nodup
 fr:∀n,(n,NameKind.free)∈scope.names->env.kindOf n=some .cell\/env.kindOf n=some .free
theorem qM:∀{names:List (Str×NameKind)} {x:Str} {k:NameKind},(names.map (·.1)).Nodup->(x,k)∈names->names.lookup x=some k
 | [],_,_,_,h=>by cases h
 | (n,j)::r,x,k,nd,h=>by
  rw[List.map_cons,List.nodup_cons]at nd
  rcases List.mem_cons.mp h with e|h'
  ·cases e;simp
  ·have hx:(x==n)=false:=by
    cases q:x==n with
    | false=>rfl
    | true =>
     have:x=n:=by simpa using q
     subst this
     have hm:x∈r.map (·.1):=List.mem_map.mpr ⟨(x,k),h',rfl⟩
     exact absurd hm nd.1
   rw[List.lookup_cons,hx]
   exact qM nd.2 h'
theorem mH:∀(names:List (Str×NameKind)) (n:Nat) (acc:List (Str×Addr)) {x:Str} {c:Addr},(cellsFrom n names acc).lookup x=some c->acc.lookup x=some c\/(n<=c/\(x,NameKind.cell)∈names)
 | [],_,_,_,_,h=>.inl h
 | (y,k)::r,n,acc,x,c,h=>by
  unfold cellsFrom at h
  split at h
  ·rename_i hk
   have hk:k=.cell:=by simpa using hk
   subst hk
   rcases mH r (n+1) ((y,n)::acc) h with q|⟨q1,q2⟩
   ·rw[List.lookup_cons]at q
    split at q
    ·rename_i hb
     have:x=y:=by simpa using hb
     subst this
     cases q
     exact .inr ⟨Nat.le_refl _,List.mem_cons_self⟩
    ·exact .inl q
   ·exact .inr ⟨by omega,List.mem_cons_of_mem _ q2⟩
  ·rcases mH r n acc h with q|⟨q1,q2⟩
   ·exact .inl q
   ·exact .inr ⟨q1,List.mem_cons_of_mem _ q2⟩
theorem rK:∀(names:List (Str×NameKind)) (n:Nat) (acc:List (Str×Addr)),(∀x y c,acc.lookup x=some c->acc.lookup y=some c->x=y)->(∀x c,acc.lookup x=some c->c<n) ->
  ∀x y c,(cellsFrom n names acc).lookup x=some c->(cellsFrom n names acc).lookup y=some c->x=y
 | [],_,_,h,_,x,y,c,a,b=>h x y c a b
 | (z,k)::r,n,acc,h,hb,x,y,c,a,b=>by
  unfold cellsFrom at a b
  split at a
  ·rename_i hk
   rw[if_pos hk]at b
   refine rK r (n+1) ((z,n)::acc) (fun u v d p q=>?_) (fun u d p=>?_) x y c a b
   ·rw[List.lookup_cons]at p q
    split at p
    ·rename_i e1
     split at q
     ·rename_i e2
      rw[show u=z by simpa using e1,show v=z by simpa using e2]
     ·cases p;exact absurd (hb v _ q) (Nat.lt_irrefl _)
    ·split at q
     ·cases q;exact absurd (hb u _ p) (Nat.lt_irrefl _)
     ·exact h u v d p q
   ·rw[List.lookup_cons]at p
    split at p
    ·cases p;exact Nat.lt_succ_self _
    ·exact Nat.lt_succ_of_lt (hb u d p)
  ·rename_i hk
   rw[if_neg hk]at b
   exact rK r n acc h hb x y c a b
theorem n9:∀(names:List (Str×NameKind)) (h:Heap) (acc:List (Str×Addr)),(∀x c,acc.lookup x=some c->∃v,h.IsCell c v)->∀x c,(cellsFrom h.objs.size names acc).lookup x=some c->∃v,(pushCells h names).IsCell c v
 | [],_,_,h,x,c,a=>h x c a
 | (z,k)::r,h,acc,hc,x,c,a=>by
  unfold cellsFrom at a
  unfold pushCells
  split at a
  ·rename_i hk
   rw[if_pos hk]
   have:=n9 r (h.push { cls:=.type "cell", data:=.cell none }) ((z,h.objs.size)::acc) (fun u d p=>?_) x c
   ·rw[Heap.size_push]at this
    exact this a
   ·rw[List.lookup_cons]at p
    split at p
    ·cases p;exact⟨none,_,Heap.get?_push_size _ rfl,rfl⟩
    ·obtain⟨v,q⟩:=hc u d p
     exact⟨v,q.keeps fun b o e=>Heap.get?_push_of_some _ e⟩
  ·rename_i hk
   rw[if_neg hk]
   exact n9 r h acc hc x c a
theorem vG{globals:Addr}{Q:Env->Shared->Prop}(hcl:∀x c,cl.lookup x=some c->∃v,s.heap.IsCell c v)
  (h:∀h',h'.Ns s.heap.objs.size (fun _=>none)->(∀b o,s.heap.get? b=some o->h'.get? b=some o)->(∀x c,(cellsFrom (s.heap.objs.size+1) scope.names cl).lookup x=some c->∃v,h'.IsCell c v) ->
   Q (newEnv scope s.heap.objs.size globals (cellsFrom (s.heap.objs.size+1) scope.names cl) qual none .none (some env) builtinsNs) { s with heap:=h',toks:=s.toks+0 }) :
  wpAny M A (newFunctionEnv scope globals cl [] qual none .none (some env)) Q E s:=by
 simp only[newFunctionEnv,Option.isSome_some,if_true]
 refine wpAny_bind (wpAny_alloc ?_)
 refine wpAny_bind (wpAny_layCells _ (fun name kind cells=>by cases hkc:kind==NameKind.cell<;>simp[hkc]) _ _ _ _ ?_)
 rw[show({ s with heap:=s.heap.push { cls:=.type "dict", data:=.dict #[] } }:Shared).heap.objs.size=s.heap.objs.size+1 from Heap.size_push ..]
 rw[List.forIn_nil]
 refine wpAny_bind (wpAny_pure (wpAny_pure ?_))
 refine h _ ((Heap.Ns.new s.heap (.type "dict")).keeps (pushCells_keeps _ _)) (fun b o e=>pushCells_keeps _ _ b o (Heap.get?_push_of_some _ e)) fun x c hc=>?_
 have:=n9 scope.names (s.heap.push { cls:=.type "dict", data:=.dict #[] }) cl (fun u d p=>by
  obtain⟨v,q⟩:=hcl u d p
  exact⟨v,q.keeps fun b o e=>Heap.get?_push_of_some _ e⟩) x c
 rw[Heap.size_push]at this
 exact this hc
structure kF(X:Cx)(scope:Scope)(cl:List (Str×Addr))(n:Nat):Prop where
 k1:∀x c,cl.lookup x=some c->X.env.cells.lookup x=some c\/(n<c/\scope.names.lookup x=some .cell)
 k2:∀x,scope.names.lookup x=some .free\/scope.names.lookup x=some .cell->∃c,cl.lookup x=some c
 k4:∀x y c,cl.lookup x=some c->cl.lookup y=some c->x=y
 k5:∀x c,scope.names.lookup x=some .cell->cl.lookup x=some c->n<=c
variable{X:Cx}
theorem yZ(I:aj X pins σ H s)(S:fF X.env scope N')
  (h1:∀x c,cl.lookup x=some c->X.env.cells.lookup x=some c/\(x,NameKind.free)∈scope.names) (h2:∀x,(x,NameKind.free)∈scope.names->∃c,cl.lookup x=some c) :
  kF X scope (cellsFrom (s.heap.objs.size+1) scope.names cl) s.heap.objs.size where
 k1:=fun x c h=>by
  rcases mH _ _ _ h with q|⟨q1,q2⟩
  ·exact .inl (h1 x c q).1
  ·exact .inr ⟨q1,qM S.nn q2⟩
 k2:=fun x h=>by
  refine Option.isSome_iff_exists.mp (W.cellsFrom_some scope.names _ cl ?_)
  rcases h with h|h
  ·obtain⟨c,hc⟩:=h2 x (PySem.mem_of_lookup h)
   exact .inr (by rw[hc];rfl)
  ·exact .inl h
 k4:=rK scope.names _ cl (fun x y c a b=>I.ok.inj x y c (h1 x c a).1 (h1 y c b).1) fun x c a=>by
  obtain⟨v,hv⟩:=I.cell x c (h1 x c a).1
  exact Nat.lt_succ_of_lt hv.lt
 k5:=fun x c hx h=>by
  rcases mH _ _ _ h with q|⟨q1,q2⟩
  ·rw[qM S.nn (h1 x c q).2]at hx;cases hx
  ·omega
theorem HL{C:Addr}(I:aj X pins σ H s)(S:fF X.env scope N')
  (hC:s.heap.objs.size<=C) (k:kF X scope cl s.heap.objs.size)
  (hf:∀b∈fp,gt X pins H b) (hfC:∀b∈fp,b<s.heap.objs.size):(jL X scope cl C N' s H fp).Ok where
 mod:=I.ok.mod
 kind:=by show(relabel scope X.env).kind=_;exact S.kind
 glob:=I.ok.glob
 blt:=I.ok.blt
 above:=hC
 inj:=k.k4
 has:=fun x hx=>by
  have hx:(relabel scope X.env).names.lookup x=some .cell\/(relabel scope X.env).names.lookup x=some .free:=hx
  rcases hx with hx|hx
  ·rcases fe hx with q|⟨_,q⟩
   ·exact k.k2 x (.inr q)
   ·exact k.k2 x (.inl q)
  ·rcases fe hx with q|⟨q,_⟩
   ·exact k.k2 x (.inl q)
   ·cases q
 cab:=fun x c h hc=>k.k5 x c (of_decide_eq_true h) hc
 hd:=I.ok.hd
 frames:=I.ok.frames
 stk:=.inl rfl
 exf:=fun b hb=>⟨by have:=hfC b hb;intro z;subst z;show False;exact absurd (Nat.lt_of_lt_of_le this hC) (Nat.lt_irrefl _),fun x c h=>by
  rcases k.k1 x c h with q|⟨q,_⟩
  ·exact(hf b hb).2.2.2.2.1 x c q
  ·have:=hfC b hb
   intro z;subst z;exact absurd (Nat.lt_trans q this) (Nat.lt_irrefl _)⟩
 bs:=I.bs
 bsz:=Nat.le_trans I.ok.bsz I.sz
 noex:=fun b o e hb=>by
  rcases(hf b hb).2.2.2.1 with q|q
  ·exact I.ok.noex b o e q
  ·exact absurd (Nat.lt_of_lt_of_le (Heap.lt_size e) (Nat.le_trans I.ok.bsz q)) (Nat.lt_irrefl _)
 exfs:=fun b hb z=>by
  rcases List.mem_cons.mp (I.stkSub b z)with q|q
  ·exact(hf b hb).2.1 q
  ·exact(hf b hb).2.2.1 q
 funs:=I.stack
 frf:=I.stkFree
def k7(X:Cx)(scope:Scope)(N':List Str)(σ:L2.St):L2.St:=N'.map fun x=>if scope.names.lookup x=some .free then(σ[X.N.idxOf x]?).join else none
theorem Fv{s1:Shared}{m:Str->Option Value}(I:aj X pins σ H s)(S:fF X.env scope N')
  (k:kF X scope cl s.heap.objs.size) (k6:∀x c,cl.lookup x=some c->∃v,s1.heap.IsCell c v)
  (hf:∀b∈fp,gt X pins H b) (hfC:∀b∈fp,b<s.heap.objs.size)
  (es:∃h t,s1 = { s with heap:=h,toks:=t }) (hns:s1.heap.Ns s.heap.objs.size m) (hk:∀b o,s.heap.get? b=some o->s1.heap.get? b=some o) :
  aj (jL X scope cl s.heap.objs.size N' s H fp) [] (k7 X scope N' σ) H s1:=by
 obtain⟨h',t,rfl⟩:=es
 have I1:aj X pins σ H { s with heap:=h',toks:=t }:=I.kept hk
 refine⟨HL I S (Nat.le_refl _) k hf hfC,rfl,I.bare,Un.kept hk,⟨m,hns,fun i x v e1 e2 e3=>?_⟩,k6,I.hok.fresh (Nat.le_refl _),fun x c h=>(k.k1 x c h).elim (fun q=>I.freeC x c q) fun q=>I.hok.fresh (Nat.le_of_lt q.1),fun p hp=>absurd (show p∈([]:List (Addr×Obj))from hp) (by simp),I1.hok,?_⟩
 ·have hN:N'[i]?=some x:=e1
  unfold k7 at e2
  rw[List.getElem?_map,hN]at e2
  simp only[Option.map_some,Option.some.injEq]at e2
  split at e2
  ·rename_i hfr
   have hj:σ[X.N.idxOf x]?=some (some v):=by
    cases q:σ[X.N.idxOf x]? with
    | none=>rw[q]at e2;cases e2
    | some y=>rw[q]at e2;rw[show y=some v from e2]
   have hlt:X.N.idxOf x<X.N.length:=by rw[<- I.len];exact(List.getElem?_eq_some_iff.mp hj).1
   have hx:X.N[X.N.idxOf x]?=some x:=by
    rw[List.getElem?_eq_getElem hlt,List.getElem_idxOf hlt]
   have kf:=S.fr x (PySem.mem_of_lookup hfr)
   have vis:eM X.env.scope x:=.inr (kf.imp id id)
   obtain⟨m1,hn1,hl1⟩:=I1.loc
   obtain⟨u,r,l⟩:=hl1 _ x v hx hj vis
   refine⟨u,r,.inr ⟨?_,?_⟩⟩
   ·exact cS hfr
   ·rcases l with⟨hk',_⟩|⟨_,c,hc,hcell⟩
    ·rcases kf with q|q<;>rw[q]at hk'<;>cases hk'
    ·obtain⟨c',hc'⟩:=k.k2 x (.inl hfr)
     have:c'=c:=by
      rcases k.k1 x c' hc' with this|⟨_,this⟩
      ·rw[hc]at this;exact(Option.some.inj this).symm
      ·rw[hfr]at this;cases this
     subst this
     exact⟨c',hc',hcell⟩
  ·cases e2
 ·unfold k7;simp
def flt(scope:Scope)(ρ:ae):ae:=fun x=>if scope.names.lookup x=some .free then ρ x else none
theorem iQ{y:D×Bool}(h:flt scope ρ x=some y):ρ x=some y/\scope.names.lookup x=some .free:=by
 unfold flt at h
 split at h
 ·rename_i e;exact⟨h,e⟩
 ·cases h
theorem FX{C:Addr}(E:aH X ow H σ ρ)(hN:X.N.Nodup)
  (hsub:∀x d o,flt scope ρ x=some (d,o)->x∈N') :
  aH (jL X scope cl C N' s H0 fp) ow H (k7 X scope N' σ) (flt scope ρ):=by
 refine⟨fun x d o h=>?_,E.own⟩
 obtain⟨h1,h2⟩:=iQ h
 obtain⟨i,v,e1,e2,e3,e4⟩:=E.get x d o h1
 have hx:x∈N':=hsub x d o h
 have hi:X.N.idxOf x=i:=by
  have hm:x∈X.N:=List.mem_of_getElem? e1
  have hlt:=List.idxOf_lt_length_iff.mpr hm
  exact iH hN (by rw[List.getElem?_eq_getElem hlt,List.getElem_idxOf hlt]) e1
 refine⟨N'.idxOf x,v,?_,?_,?_,e4⟩
 ·have hlt:=List.idxOf_lt_length_iff.mpr hx
  show N'[N'.idxOf x]?=some x
  rw[List.getElem?_eq_getElem hlt,List.getElem_idxOf hlt]
 ·exact .inr (cS h2)
 ·have hlt:=List.idxOf_lt_length_iff.mpr hx
  unfold k7
  rw[List.getElem?_map,List.getElem?_eq_getElem hlt,List.getElem_idxOf hlt]
  simp only[Option.map_some]
  rw[if_pos h2,hi,e3];rfl
variable{X:Cx}
theorem w8{prog:Program}{R:Result->Shared->Prop}{target:Expr}{it acc:Value}(J:Nat->Shared->Prop)
    (turn:∀n s,J n s->wpAny (model prog w) A (pyNext it) (fun r s₁=>match r with
      | none=>R (.ok .next) s₁
      | some v=>wpAny (model prog w) A (letOwnedTupleGo target it v) (fun _ s₁=>wpAny (model prog w) A (assign target env v) (fun _ s₂ =>
          wpAny (model prog w) A (gh ifs env) (fun ok s₃ =>
            if ok=true then wpAny (model prog w) A (eval elt env) (fun x s₄ =>
              wpAny (model prog w) A (call (.builtin "list.append") [acc,x]) (fun _ s₅ => ∃m,m<n/\J m s₅) (fun _ _=>False) s₄) (fun _ _=>False) s₃
            else ∃m,m<n/\J m s₃) (fun _ _=>False) s₂) (fun _ _=>False) s₁) (fun _ _=>False) s₁) (fun _ _=>False) s)
    (n:Nat) (h:J n s):codeAny (model prog w) A (.compLoop (.ListComp elt [⟨target,iter,ifs,0⟩] scope pos) 0 it acc env) R s:=by
  refine codeAny_loop rfl J (fun n s hI=>?_) n h
  show wpAny _ A ((compTurn (.ListComp elt [⟨target,iter,ifs,0⟩] scope pos) 0 it acc env).onRaise (fun x=>do noteFrame x env;theTreesLotGoes x)) _ _ s
  refine wpAny_noted ?_
  rw[compTurn_list]
  refine wpAny_bind (wpAny_standAt (wpAny_bind (wpAny_mono (turn n s hI) (fun r s₁ h₁=>?_) fun _ _ h'=>h'.elim)))
  cases r with
  | none=>exact wpAny_pure h₁
  | some v =>
    refine wpAny_bind (wpAny_mono h₁ (fun _ s₁' h₁'=>?_) fun _ _ h'=>h'.elim)
    refine wpAny_bind (wpAny_mono h₁' (fun _ s₂ h₂=>wpAny_bind (wpAny_mono h₂ (fun ok s₃ h₃=>?_) fun _ _ h'=>h'.elim)) fun _ _ h'=>h'.elim)
    cases ok with
    | false=>exact wpAny_pure ⟨rfl,h₃⟩
    | true =>
      exact wpAny_bind (wpAny_bind (wpAny_mono h₃ (fun x s₄ h₄=>wpAny_bind (wpAny_mono h₄ (fun _ s₅ h₅=>wpAny_pure (wpAny_pure ⟨rfl,h₅⟩)) fun _ _ h'=>h'.elim)) fun _ _ h'=>h'.elim))
def kB(X:Cx)(ρ:ae)(tg:Expr)(ifs:List Expr)(elt:Expr)(k:Nat)(d:D)(r:Option D):Prop :=
 ∃ρ' b,GD X ρ tg d ρ'/\(∀x y,ρ x=some y->ρ' x=some y)/\xC X ρ' ifs b/\match r with|some d'=>b=true/\ED X ρ' elt d' k|none=>b=false
theorem eL(o:ef ow H){a:Addr}:∀{k:Nat},k<=1->Kp ow H k a true->ow a=none
 | 0,_,p=>o.free p.2
 | 1,_,p=>p rfl
 | _+2,h,_=>absurd h (by omega)
theorem BY{H9:Hp}{D:Addr}{x:HO}(sm:av H H9)(hD:H9 D=some x){a:Addr}:∀{k:Nat},k<=1->Kp (fun a=>if a=D then some none else ow a) H9 k a b->Kp ow H k a b/\(b=true->a≠D)
 | 0,_,p=>⟨⟨p.1,sm.free p.2⟩,fun _ z=>by subst z;have:=p.2;rw[hD]at this;cases this⟩
 | 1,_,p=>by
  have p:b=true->(if a=D then some none else ow a)=none:=p
  refine⟨fun hb=>?_,fun hb hz=>?_⟩
  ·have p:=p hb
   by_cases hz:a=D
   ·rw[if_pos hz]at p;cases p
   ·rw[if_neg hz]at p;exact p
  ·have p:=p hb
   rw[if_pos hz]at p;cases p
 | _+2,h,_=>absurd h (by omega)
theorem ww{D:Addr}(o:ef ow H)(hD:H D=none):∀{k:Nat},k<=1->Kp ow H k D true
 | 0,_=>⟨rfl,hD⟩
 | 1,_=>fun _=>o.free hD
 | _+2,h=>absurd h (by omega)
theorem lW:∀{l:List D} {i:Nat} {d:D},ao l=true->l[i]?=some d->d.lless=true
 | [],_,_,_,h=>by simp at h
 | x::l,0,d,f,h=>by
  rw[ao,Bool.and_eq_true]at f
  simp at h;subst h;exact f.1
 | x::l,i+1,d,f,h=>by
  rw[ao,Bool.and_eq_true]at f
  exact lW (i:=i) f.2 (by simpa using h)
structure kE(X:Cx)(pins:List (Addr×Obj))(σ:L2.St)(H5:Hp)(s6:Shared)(C:Addr)(m6:Str->Option Value):Prop where
 inv:aj X pins σ H5 s6
 ns:s6.heap.Ns C m6
 free:H5 C=none
 loc:C≠X.env.locals
 old:X.s₀.heap.objs.size<=C
 cell:∀x c,X.env.cells.lookup x=some c->c≠C
 pin:∀p∈X.pn++pins,p.1≠C
 fs:C∉X.fs
theorem oO{use:Option (Value->Sem Unit)}{Q':Value->Shared->Prop}{pos2:Pos}{f:D->Option D}
  (hcalm:X.calm=true) (hN:X.N.Nodup) (hk:ao ds=true\/k<=1) (hko:ko<=1) (hlen:ds.length<sizeLine) (S:fF X.env scope N') (hsub:∀x d o,flt scope ρ x=some (d,o)->x∈N')
  (hi:IE X ρ tg iter ds k)
  (turn:∀cl C s H fp,∀d∈ds,kB (jL X scope cl C N' s H fp) (flt scope ρ) tg ifs elt ko d (f d))
  (hs:∀x,foldedSetIterable iter X.env x=pure x) (I:aj X pins σ H s) (E:aH X ow H σ ρ)
  (fin:∀D C s6 H5 m6,kE X pins σ H5 s6 C m6->av H H5->ag X.K H5 (Kp ow H ko) (.lst (ds.filterMap f)) (.ref D)->compPost (model X.prog X.w) X.A X.xe use Q' (.ref D) C (.ok .next) s6) :
  wpAny (model X.prog X.w) X.A (comprehension (.ListComp elt [⟨tg,iter,ifs,0⟩] scope pos) scope X.env pos2 (newList []) false (eval iter X.env) use) Q' X.xe s:=by
 obtain⟨cl,hclos,h1,h2⟩:=sC (env:=X.env) (scope:=scope) fun n hn=>I.ok.has n (S.fr n hn)
 refine wpAny_comprehension_free rfl hs hclos S.kind S.names ?_
 refine aJ (hi ow pins s σ H (fun J H1=>av H H1/\Jl X.K J ds (Kd ow H k H1) H1) I ⟨E,fun J H1 a b=>⟨a,b⟩⟩) fun v s1 h1'=>aJ h1' fun itv s2 h2'=>?_
 obtain⟨it,fp,tn,J,H2,rfl,I2,T,st2,f2,s12,itd⟩:=h2'
 have hD2:H2 s2.heap.objs.size=none:=I2.hok.fresh (Nat.le_refl _)
 refine wpAny_newObj_type (vG (fun x c hc=>(I2.cell x c (h1 x c hc).1).imp fun v q=>q.keeps fun b o e=>Heap.get?_push_of_some _ e) fun h₁ hns₁ kp0 k60=>?_)
 have I3:aj X pins σ (aO H2 s2.heap.objs.size (.lst [])) { s2 with heap:=s2.heap.push { cls:=.type "list", dict:=none,data:=.seq ([]:List Value).toArray } } :=
  I2.laid (t':=s2.toks) (fun b u e=>Heap.get?_push_of_some _ e) (Nat.le_refl _) ⟨Nat.zero_le _,[],0,.nil,Heap.get?_push_size _ rfl⟩
 generalize hD:s2.heap.objs.size=D at *
 generalize hs3:({ s2 with heap:=s2.heap.push { cls:=.type "list", dict:=none,data:=.seq ([]:List Value).toArray } }:Shared)=s3 at *
 have hsz3:s3.heap.objs.size=D+1:=by rw[<- hs3];show(s2.heap.push _).objs.size=_;rw[Heap.size_push,hD]
 have f3:∀b∈fp,gt X pins (aO H2 D (.lst [])) b:=fun b hb=>by
  obtain⟨g0,g⟩:=f2 b hb
  obtain⟨o,e,_⟩:=T.obj _ _ st2 b hb
  have hlt:=Heap.lt_size e
  rw[hD]at hlt
  exact⟨by rw[ax (Nat.ne_of_lt hlt)];exact g0,g⟩
 have fl3:∀b∈fp,b<s3.heap.objs.size:=fun b hb=>by
  obtain⟨o,e,_⟩:=T.obj _ _ st2 b hb
  have hlt:=Heap.lt_size e
  rw[hD]at hlt
  rw[hsz3];exact Nat.lt_succ_of_lt hlt
 have kp:∀b o,s3.heap.get? b=some o->h₁.get? b=some o:=kp0
 have kc:kF X scope (cellsFrom (s3.heap.objs.size+1) scope.names cl) s3.heap.objs.size:=yZ I3 S h1 h2
 generalize hcl':cellsFrom (s3.heap.objs.size+1) scope.names cl=cl' at *
 have I4:=Fv (s1:={ s3 with heap:=h₁,toks:=s3.toks+0 }) (N':=N') I3 S kc k60 f3 fl3 ⟨_,_,rfl⟩ hns₁ kp
 have sH2:∀vs,av H2 (aO H2 D (.lst vs)):=fun vs b o e=>by rw[ax (bq e hD2)];exact e
 let ow':Ow:=fun a=>if a=D then some none else ow a
 have ow'D:ow' D=some none:=if_pos rfl
 have ow'n:∀a,a≠D->ow' a=ow a:=fun a h=>if_neg h
 have own':∀{H':Hp} (vs:List V),H' D=some (.lst vs)->av H2 H'->ef ow' H':=fun {H'} vs hd sm a ha=>by
  by_cases hz:a=D
  ·subst hz;exact⟨_,hd⟩
  ·rw[ow'n a hz]at ha
   obtain⟨o,e⟩:=(E.same s12).own a ha
   exact⟨o,sm a o e⟩
 have E4:aH (jL X scope cl' s3.heap.objs.size N' s3 (aO H2 D (.lst [])) fp) ow' (aO H2 D (.lst [])) (k7 X scope N' σ) (flt scope ρ):=by
  have E3:=FX (scope:=scope) (cl:=cl') (C:=s3.heap.objs.size) (N':=N') (s:=s3) (fp:=fp) (H0:=aO H2 D (.lst [])) (E.same s12) hN hsub
  refine⟨fun x d o h=>?_,own' [] aD (sH2 [])⟩
  obtain⟨i,v,e1,e2,e3,e4⟩:=E3.get x d o h
  refine⟨i,v,e1,e2,e3,ag.same (sH2 []) (e4.impH (fun a ob ha p=>?_) fun a p=>?_)⟩
  ·have hz:a≠D:=bq ha hD2
   cases o with
   | true=>exact⟨p.1,(ow'n a hz).trans p.2⟩
   | false=>exact fun _=>(ow'n a hz).trans (p rfl)
  ·cases o with
   | true=>cases p.1
   | false=>exact fun z=>(by cases z)
 generalize hX':jL X scope cl' s3.heap.objs.size N' s3 (aO H2 D (.lst [])) fp=X' at *
 have turn':∀d∈ds,kB X' (flt scope ρ) tg ifs elt ko d (f d):=fun d hd=>by rw[<- hX'];exact turn _ _ _ _ _ d hd
 have eK:X'.K=X.K:=by rw[<- hX']
 have eP:X'.prog=X.prog:=by rw[<- hX']
 have eW:X'.w=X.w:=by rw[<- hX']
 have eA:X'.A=X.A:=by rw[<- hX']
 have eE:X'.env=compEnvC scope cl' s3.heap.objs.size X.env:=by rw[<- hX']
 have eX:X'.xe=fun _ _=>False:=by rw[<- hX']
 have eC:X'.calm=true:=by rw[<- hX'];exact hcalm
 have stat:∀{H':Hp},(∀b∈fp,H' b=none)->∀b∈fp,gt X' [] H' b:=fun hn b hb=>by
  rw[<- hX']
  refine⟨hn b hb,?_,?_,.inl hb,fun x c h=>(kc.k1 x c h).elim (fun q=>(f3 b hb).2.2.2.2.1 x c q) (fun q z=>by subst z;exact absurd (Nat.lt_trans q.1 (fl3 _ hb)) (Nat.lt_irrefl _)),fun p hp=>absurd (show p∈([]:List (Addr×Obj))from hp) (by simp)⟩
  ·show b≠s3.heap.objs.size
   exact Nat.ne_of_lt (fl3 b hb)
  ·intro z
   rcases List.mem_cons.mp (I3.stkSub b z)with q|q
   ·exact(f3 b hb).2.1 q
   ·exact(f3 b hb).2.2.1 q
 let Pe:aZ:=fun a b=>Kp ow H ko a b/\(b=true->a≠D)
 have loop:codeAny (model X.prog X.w) X.A (.compLoop (.ListComp elt [⟨tg,iter,ifs,0⟩] scope pos) 0 (.ref it) (.ref D) (compEnvC scope cl' s3.heap.objs.size X.env)) (compPost (model X.prog X.w) X.A X.xe use Q' (.ref D) s3.heap.objs.size) { s3 with heap:=h₁,toks:=s3.toks+0 }:=by
  refine w8 (fun n s' => ∃(i:Nat) (σ':L2.St) (H':Hp) (vs:List V),aj X' [] σ' H' s'/\tn i s'.heap/\(∀b∈fp,H' b=none)/\aH X' ow' H' σ' (flt scope ρ)/\H' D=some (.lst vs)/\av H2 H' /\
   af X.K H' Pe ((ds.take i).filterMap f) vs/\i<=ds.length/\n=ds.length-i) ?_ ds.length
   ⟨0,k7 X scope N' σ,aO H2 D (.lst []),[],I4,?_,fun b hb=>(f3 b hb).1,E4,aD,sH2 [],?_,Nat.zero_le _,rfl⟩
  ·rintro n s5 ⟨i,σ5,H5,vs,I5,st5,fr5,E5,hD5,sm5,rp5,hi5,rfl⟩
   have stay:cV (Kd ow H k H2) (Kd ow H k H2) H2 H5:=.same sm5 fun _ _ p=>p
   have itd5:=itd i H5 stay
   by_cases hlt:i<ds.length
   ·obtain⟨go,yl⟩:=itd5.1 ds[i] (by simp[hlt])
    have Ti:=T.item X' eP eW eK eC i [] s5 σ5 H5 (fun _ _=>False) I5 (stat fr5) st5 go
    rw[eA]at Ti
    refine aJ Ti fun r s6 ⟨u,hr,h6⟩=>?_
    subst hr
    refine aJ h6 fun _ s7 ⟨x,H7,I7,r7,y7,st7,fr7⟩=>?_
    obtain⟨sm7,rx7⟩:=yl x H7 y7
    obtain⟨ρ',b,⟨g,hg,hgd⟩,hext,hts,hel⟩:=turn' ds[i] (List.getElem_mem hlt)
    have rx7':ag X'.K H7 (fun a b=>b=true->ow' a=none) ds[i] x:=by
     rw[eK]
     rcases hk with hk|hk
     ·exact rx7.flat _ (lW hk (List.getElem?_eq_getElem hlt))
     refine rx7.impH (fun a o ha p _=>?_) fun a _ z=>(by cases z)
     obtain⟨p,p2⟩:=p
     obtain⟨o2,ho2⟩:=p2 rfl
     show ow' a=none
     rw[ow'n a (bq ho2 hD2)]
     exact eL E.own hk p
    have E7:=E5.same sm7
    have I7':=I7.pinned (stat fr7) (T.obj _ _ st7)
    have hg':=hg _ s7 σ5 H7 x u (fun σ' H'=>aH X' ow' H' σ' ρ'/\H7=H') I7' r7 (hgd ow' x σ5 H7 _ I7.len E7 rx7' fun σ' _ e=>⟨e,rfl⟩)
    rw[eP,eW,eA,eE,eX]at hg'
    refine aJ hg' fun _ s8 ⟨σ8,H8,I8,E8,eH8⟩=>?_
    subst eH8
    have ht':=hts ow' _ s8 σ8 H7 (fun c H'=>c=b/\av H7 H') I8 ⟨E8,fun H' sm=>⟨rfl,sm⟩⟩
    rw[eP,eW,eA,eE,eX]at ht'
    refine aJ ht' fun c s9 ⟨H9,I9,ec,sm9⟩=>?_
    subst ec
    have back:∀{H':Hp} {σ':L2.St} {s':Shared},aj X' ([]++jy fp s7.heap) σ' H' s'->aj X' [] σ' H' s'/\tn (i+1) s'.heap/\∀b∈fp,H' b=none:=fun {H' σ' s'} J7=>by
     refine⟨J7.unpinned,T.keep _ _ _ st7 fun b hb o e=>(J7.pin (b,o) (List.mem_append_right _ (List.mem_append_right _ (fM hb e)))).1,fun b hb=>?_⟩
     obtain⟨o,e,d⟩:=T.obj _ _ st7 b hb
     exact(J7.pin (b,o) (List.mem_append_right _ (List.mem_append_right _ (fM hb e)))).2.1
    have envf:∀{H':Hp} {σ':L2.St},aH X' ow' H' σ' ρ'->aH X' ow' H' σ' (flt scope ρ):=fun {H' σ'} e=>⟨fun x d o h=>e.get x d o (hext x _ h),e.own⟩
    have tk:(ds.take (i+1)).filterMap f=(ds.take i).filterMap f++(f ds[i]).toList:=by
     rw[List.take_add_one]
     simp only[List.getElem?_eq_getElem hlt,Option.toList_some,List.filterMap_append]
     congr 1
    have sm59:av H5 H9:=sm7.trans sm9
    cases hc:c with
    | false =>
     rw[if_neg Bool.false_ne_true]
     subst hc
     obtain⟨I9',st9,fr9⟩:=back I9
     have fn:f ds[i]=none:=by
      cases hf:f ds[i]with
      | none=>rfl
      | some d'=>rw[hf]at hel;cases hel.1
     refine⟨ds.length-(i+1),by omega,i+1,σ8,H9,vs,I9',st9,fr9,envf (E8.same sm9),sm59 _ _ hD5,sm5.trans sm59,?_,hlt,rfl⟩
     rw[tk,fn,Option.toList_none,List.append_nil]
     exact rp5.same sm59
    | true =>
     rw[if_pos rfl]
     subst hc
     obtain⟨d',fs,hed⟩:∃d',f ds[i]=some d'/\ED X' ρ' elt d' ko:=by
      cases hf:f ds[i]with
      | none=>rw[hf]at hel;cases hel
      | some d'=>rw[hf]at hel;exact⟨d',rfl,hel.2⟩
     have he':=hed ow' _ s9 σ8 H9 (fun v H'=>av H9 H'/\ag X'.K H' (Kp ow' H9 ko) d' v) I9 ⟨E8.same sm9,fun v H' a r=>⟨a,r⟩⟩
     rw[eP,eW,eA,eE,eX]at he'
     refine aJ he' fun y s10 ⟨v10,H10,I10,r10,sm10,rp10⟩=>?_
     have sm510:=sm59.trans sm10
     have hD10:=sm510 _ _ hD5
     have hlv:vs.length<sizeLine:=by
      rw[<- rp5.length]
      refine Nat.lt_of_le_of_lt (List.length_filterMap_le _ _) ?_
      rw[List.length_take];omega
     have ha':=oI (X:=X') _ s10 σ8 H10 (.ref D) [v10] (.ref D) [y] (fun w H'=>aO H10 D (.lst (vs++[v10]))=H') I10 rfl (.cons r10 .nil) ⟨D,vs,v10,rfl,rfl,hD10,hlv,rfl⟩
     rw[eP,eW,eA,eX]at ha'
     refine aJ ha' fun _ s11 ⟨w11,H11,I11,_,eH11⟩=>?_
     subst eH11
     obtain⟨I11',st11,fr11⟩:=back I11
     have s2D:∀a o,H2 a=some o->a≠D:=fun a o e=>bq e hD2
     have stD:cV Pe Pe H10 (aO H10 D (.lst (vs++[v10]))):=⟨fun a o h hn=>by rw[ax (fun z=>by subst z;rw[hD10]at h;cases h;exact hn)];exact h,fun a ws h p=>by rw[ax (p.2 rfl)];exact h,fun _ _ _ p=>p,fun _ p=>p⟩
     refine⟨ds.length-(i+1),by omega,i+1,σ8,_,vs++[v10],I11',st11,fr11,?_,aD,?_,?_,hlt,rfl⟩
     ·have E10:=envf ((E8.same sm9).same sm10)
      refine⟨fun x d o h=>?_,own' _ aD (fun a o e=>by rw[ax (s2D a o e)];exact(sm5.trans sm510) a o e)⟩
      obtain⟨i',v',e1,e2,e3,e4⟩:=E10.get x d o h
      refine⟨i',v',e1,e2,e3,e4.mono ⟨fun a o h hn=>by rw[ax (fun z=>by subst z;rw[hD10]at h;cases h;exact hn)];exact h,fun a ws h p=>?_,fun _ _ _ p=>p,fun _ p=>p⟩⟩
      have hz:a≠D:=by
       intro z;subst z
       cases o with
       | true=>have:=p.2;rw[ow'D]at this;cases this
       | false=>have:ow' a=none:=p rfl;rw[ow'D]at this;cases this
      rw[ax hz];exact h
     ·intro a o e
      rw[ax (s2D a o e)]
      exact(sm5.trans sm510) a o e
     ·rw[tk,fs,Option.toList_some]
      refine((rp5.same sm510).mono stD).append (af.one (ag.mono stD ?_))
      rw[eK]at rp10
      have sH9:av H H9:=s12.trans (sm5.trans sm59)
      exact rp10.imp fun a b p=>BY sH9 (sm59 _ _ hD5) hko p
   ·have hstop:=itd5.2 (by omega)
    have Td:=T.done X' eP eW eK eC i [] s5 σ5 H5 (fun _ _=>False) I5 (stat fr5) st5 hstop
    rw[eA]at Td
    refine aJ Td fun r s6 ⟨hr,I6⟩=>?_
    subst hr
    have ei:i=ds.length:=by omega
    subst ei
    rw[List.take_length]at rp5
    have hC:X'.env.locals=s3.heap.objs.size:=by rw[eE];rfl
    obtain⟨m6,hn6,_⟩:=I6.loc
    rw[hC]at hn6
    have hfree:H5 s3.heap.objs.size=none:=by have:=I6.free;rw[hC]at this;exact this
    have IX:aj X pins σ H5 s6:=by
     have b6:=I6.base
     have o6:=I6.os
     have k6:=I6.hok
     have g6:=I6.bare
     rw[<- hX']at b6 o6 k6
     exact I3.call' o6 b6 k6 g6 fun b hb=>⟨(f3 b hb).2.2.2.1,(f3 b hb).2.1,(f3 b hb).2.2.2.2.1,(f3 b hb).2.2.2.2.2⟩
    have hHD:H D=none:=s12.free hD2
    refine fin D _ s6 H5 m6 ⟨IX,hn6,hfree,Nat.ne_of_gt I3.lt,I3.sz,fun x c hc z=>?_,fun p hp z=>?_,I3.nofs (Nat.le_refl _)⟩ (s12.trans sm5) ?_
    ·obtain⟨v,hv⟩:=I3.cell x c hc
     have:=hv.lt
     rw[z]at this;exact absurd this (Nat.lt_irrefl _)
    ·have:=Heap.lt_size (I3.pin p hp).1
     rw[z]at this;exact absurd this (Nat.lt_irrefl _)
    ·rw[ag]
     exact⟨D,vs,true,rfl,hD5,ww E.own hHD hko,rp5.imp fun _ _ p=>p.1⟩
  ·exact T.keep 0 s2.heap h₁ st2 fun b hb o e=>kp b o (by rw[<- hs3];exact Heap.get?_push_of_some _ e)
  ·exact af.nil
 exact codeAny_compStart_list loop (T.self _ 0 _ _ _ (T.keep 0 s2.heap h₁ st2 fun b hb o e=>kp b o (by rw[<- hs3];exact Heap.get?_push_of_some _ e)) loop)
theorem kE.done{H5:Hp}{s6:Shared}{C:Addr}{m6:Str->Option Value}(e:kE X pins σ H5 s6 C m6){h':Heap}(sb:Heap.SameBut C s6.heap h'):aj X pins σ H5 { s6 with heap:=h' } :=
 e.inv.turned (t':=s6.toks) (it:=C) (fun b o hb e=>sb.extBut b o hb e) e.free e.loc (.inr e.old) e.cell e.pin
theorem Cy{f:D->Option D}
  (hcalm:X.calm=true) (hN:X.N.Nodup) (hk:ao ds=true\/k<=1) (hko:ko<=1) (hlen:ds.length<sizeLine) (S:fF X.env scope N') (hsub:∀x d o,flt scope ρ x=some (d,o)->x∈N')
  (hi:IE X ρ tg iter ds k)
  (turn:∀cl C s H fp,∀d∈ds,kB (jL X scope cl C N' s H fp) (flt scope ρ) tg ifs elt ko d (f d))
  (hs:∀x,foldedSetIterable iter X.env x=pure x:=by intro _;rfl) :
  ED X ρ (.ListComp elt [⟨tg,iter,ifs,0⟩] scope pos) (.lst (ds.filterMap f)) ko:=by
 intro ow pins s σ H Q I ⟨E,q⟩
 rw[eval_ListComp]
 refine oO hcalm hN hk hko hlen S hsub hi turn hs I E fun D C s6 H5 m6 ce sm rp=>?_
 exact⟨m6,ce.ns,fun h' sb=>⟨.ref D,H5,ce.done sb,rfl,q (.ref D) H5 sm rp⟩⟩
theorem Bt{D0:jT}{spos:Pos}{f:D->Option D}
  (hcalm:X.calm=true) (hN:X.N.Nodup) (hk:ao ds=true\/k<=1) (hko:ko<=1) (hlen:ds.length<sizeLine) (S:fF X.env scope N') (hsub:∀x d o,flt scope ρ x=some (d,o)->x∈N')
  (hi:IE X ρ tg iter ds k)
  (turn:∀cl C s H fp,∀d∈ds,kB (jL X scope cl C N' s H fp) (flt scope ρ) tg ifs elt ko d (f d))
  (hs:∀x,foldedSetIterable iter X.env x=pure x) (I:aj X pins σ H s) (E:aH X ow H σ ρ)
  (hsw:swapsWith (.ListComp elt [⟨tg,iter,ifs,0⟩] scope pos) (some (.Name x px)) spos.line X.env=pure true)
  (hx:X.N[i]?=some x) (hl:r9 X.env.scope x) (hf:X.fn x=true\/X.env.scope.names.lookup x=some .local)
  (q:∀v H',av H H'->ag X.K H' (Kp ow H ko) (.lst (ds.filterMap f)) v->D0.nx (σ.set i (some v)) H') :
  wpAny (model X.prog X.w) X.A (exec (.Assign [.Name x px] (.ListComp elt [⟨tg,iter,ifs,0⟩] scope pos) spos) X.env) (SP X pins D0) X.xe s:=by
 rw[exec_Assign_Name_used _ _ _ _ hsw]
 refine wpAny_bind (wpAny_standAt (wpAny_bind ?_))
 show wpAny _ X.A (do let _ <- comprehension (.ListComp elt [⟨tg,iter,ifs,0⟩] scope pos) scope X.env _ (newList []) false (eval iter X.env) (some (assign (.Name x px) X.env))) _ _ s
 refine wpAny_bind (wpAny_mono (oO (use:=some (assign (.Name x px) X.env)) (Q':=fun _ s'=>SP X pins D0 .next s') hcalm hN hk hko hlen S hsub hi turn hs I E fun D C s6 H5 m6 ce sm rp=>?_) (fun _ s' hq=>wpAny_pure (wpAny_pure hq)) fun _ _ e=>e)
 obtain⟨o,es,ep,ho,hd,hrest⟩:=id ce.ns
 have Ip:aj X (pins++[(C,o)]) σ H5 s6:=ce.inv.pins_of fun p hp=>by
  rcases List.mem_append.mp hp with z|z
  ·exact ce.inv.pin p (List.mem_append_right _ z)
  ·have e:p=(C,o):=by simpa using z
   subst e
   exact⟨ho,ce.free,ce.loc,ce.fs,fun v z=>by rw[hd]at z;cases z⟩
 show wpAny _ X.A (assign (.Name x px) X.env (.ref D)) _ _ _
 refine aJ (fc (i:=i) hN hx hl hf (pins++[(C,o)]) s6 σ H5 (.ref D) (.ref D) (fun σ' H'=>σ.set i (some (.ref D))=σ'/\H5=H') Ip rfl ⟨rfl,rfl⟩) fun _ s7 ⟨σ7,H7,I7,e1,e2⟩=>?_
 subst e1 e2
 have pC:=(I7.pin (C,o) (List.mem_append_right _ (List.mem_append_right _ (by simp)))).1
 refine⟨m6,⟨o,es,ep,pC,hd,hrest⟩,fun h' sb=>?_⟩
 have ce':kE X pins (σ.set i (some (.ref D))) H5 s7 C m6:=⟨I7.unpinned,⟨o,es,ep,pC,hd,hrest⟩,ce.free,ce.loc,ce.old,ce.cell,ce.pin,ce.fs⟩
 exact⟨_,H5,ce'.done sb,q (.ref D) H5 sm rp⟩
mutual
def D.py:D->PyData
 | .non=>.none
 | .bl b=>.bool b
 | .int i=>.int i
 | .str x=>.str x
 | .dct _ _=>.dict []
 | .typ _=>.dict []
 | .sn _=>.dict []
 | .obj _ _ _=>.dict []
 | .cls _=>.dict []
 | .tup l=>.tuple (fX l)
 | .lst l=>.list (fX l)
def fX:List D->List PyData
 | []=>[]
 | d::l=>d.py::fX l
end
inductive Rs(α:Type) where
 | ok (a:α) (l:List Prop)
 | st
def aA:List Prop->Prop
 | []=>True
 | p::l=>p/\aA l
def Rs.bnd{α β:Type}(r:Rs α)(f:α->Rs β):Rs β :=
 match r with
 | .st=>.st
 | .ok a l=>match f a with
  | .st=>.st
  | .ok b m=>.ok b (l++m)
def Nz{α:Type}:Option α->Rs α
 | some a=>.ok a []
 | none=>.st
def gd(b:Bool):List Prop->List Prop
 | []=>[]
 | m=>[b=true->aA m]
abbrev R1:=Rs (D×Nat)
def mk(d:D)(k:Nat):R1:=.ok (d,kn d k) []
structure Fx where
 fn:Str->Option (List D->Rs D)
 con:Str->Option D
 blt:Str->Option (List D->R1)
 itr:Str->Option (List D->Nat->R1)
 mth:Str->Option (D->List D->R1)
 mtt:Str->Option (List D->List D->Nat->Rs (List D))
 slf:D->Option Int->Option Int->R1:=fun _ _ _=>.st
 fld:Str->Str->Bool:=fun _ _=>false
 omt:Str->Str->Option (List D->Rs D):=fun _ _=>none
def Av:Const->Option D
 | .none=>some .non
 | .bool b=>some (.bl b)
 | .int i=>some (.int i)
 | .str x=>some (.str x)
 | _=>none
def cT:Nat:=2 ^ 9000
def eT(a b:Int):Prop:=a.natAbs<2 ^ 64\/b.natAbs<2 ^ 64\/(a.natAbs<cT/\b.natAbs<cT)\/(Builtin.Int.intBits a<=2 ^ 22/\Builtin.Int.intBits b<=2 ^ 22)
def fq(b:Int):Prop:=b≠0/\b.natAbs<cT
def uG(a b:Int):Prop:=0<=b/\b<=1000/\a.natAbs<2 ^ 64
def cg:Nat:=40000
def zb(op:Operator)(a b:Int):R1 :=
 match op with
 | .Add=>.ok (.int (a+b),0) []
 | .Sub=>.ok (.int (a-b),0) []
 | .Mult=>.ok (.int (a*b),0) [eT a b]
 | .FloorDiv=>.ok (.int (a.fdiv b),0) [fq b]
 | .Mod=>.ok (.int (a.fmod b),0) [b≠0]
 | .Pow=>.ok (.int (a ^ b.toNat),0) [uG a b]
 | _=>.st
def pz:Operator->Bool
 | .Add=>true
 | _=>false
def g8(op:Operator)(x y:D)(k j:Nat):R1 :=
 match x,y with
 | .int a,.int b=>zb op a b
 | .str a,.str b=>if pz op=true then .ok (.str (a++b),0) [a.length+b.length<=cg]else .st
 | .tup a,.tup b=>if pz op=true then .ok (.tup (a++b),kn (.tup (a++b)) (kj k j)) [a.length+b.length<=cg]else .st
 | .lst a,.lst b=>if pz op=true then .ok (.lst (a++b),0) [ao (a++b)=true,a.length+b.length<=cg]else .st
 | _,_=>.st
def vH(op:UnaryOp)(x:D):Option D :=
 match op,x with
 | .USub,.int a=>some (.int (-a))
 | .Not,.bl b=>some (.bl (!b))
 | _,_=>none
def gj(x y:D):Bool:=SeqAt.shaped x.py&&SeqAt.shaped y.py
def eqD(x y:D):Bool:=PyData.eqv x.py y.py
def dj:List D->Option (List Int)
 | []=>some []
 | .int i::l=>(dj l).map (i :: ·)
 | _::_=>none
def uS(x:D)(l:List D):Rs Bool:=.ok (l.any fun y=>eqD y x) [gj (.tup l) x=true]
def D.isNon:D->Bool
 | .non=>true
 | _=>false
def fL:D->Option (List D)
 | .tup l=>some l
 | .lst l=>some l
 | _=>none
def ff(op:CmpOp)(a b:Int):Option Bool :=
 match op with
 | .Lt=>some (decide (a<b))
 | .LtE=>some (decide (a<=b))
 | .Gt=>some (decide (b<a))
 | .GtE=>some (decide (b<=a))
 | _=>none
def uK(op:CmpOp)(x y:D):Option Bool :=
 match x,y with
 | .int a,.int b=>ff op a b
 | _,_=>none
def Rs.nt:Rs Bool->Rs Bool
 | .ok b l=>.ok (!b) l
 | .st=>.st
def Fe:D->Option bS
 | .int i=>some (.inl i)
 | .str x=>some (.inr x)
 | _=>none
def vf(ks:List bS)(ds:List D)(k:bS):Option D:=((ks.zip ds).find? fun p=>decide (p.1=k)).map (·.2)
def jM(ks:List bS)(k:bS):Bool:=ks.any fun j=>decide (j=k)
def mF(ks:List bS)(k:bS):List bS:=cond (jM ks k) ks (ks++[k])
def eF{α:Type}(ks:List bS)(ds:List α)(k:bS)(d:α):List α:=cond (jM ks k) (List.zipWith (fun j e=>if j=k then d else e) ks ds) (ds++[d])
def An(x y:D):Rs Bool :=
 match y with
 | .tup l=>uS x l
 | .lst l=>uS x l
 | .dct _ _=>.st
 | .str b=>(match x with | .str a=>.ok (Txt.contains b a) []|_=>.st)
 | _=>.st
def gZ(op:CmpOp)(x y:D):Rs Bool :=
 match op with
 | .Eq=>.ok (eqD x y) [gj x y=true]
 | .NotEq=>.ok (!eqD x y) [gj x y=true]
 | .In=>An x y
 | .NotIn=>(An x y).nt
 | .Is=>(match y with | .non=>.ok x.isNon [] | .bl c=>(match x with | .bl b=>.ok (b==c) []|_=>.st)|_=>.st)
 | .IsNot=>(match y with | .non=>.ok (!x.isNon) [] | .bl c=>(match x with | .bl b=>.ok (!(b==c)) []|_=>.st)|_=>.st)
 | op=>Nz (uK op x y)
def D.ty0:D->Option String
 | .non=>some "NoneType"
 | .bl _=>some "bool"
 | .int _=>some "int"
 | .str _=>some "str"
 | .dct _ _=>some "dict"
 | .tup _=>some "tuple"
 | .lst _=>some "list"
 | _=>none
def Fu(x:D)(T:String):Option Bool:=x.ty0.map fun a=>decide (a=T) || decide (a = "bool" /\ T = "int")
def ul(x:Str):Option String :=
 if x = "int" then some "int" else if x = "bool" then some "bool" else if x = "str" then some "str" else if x = "tuple" then some "tuple" else if x = "list" then some "list" else none
def cD:List D->Option (List Bool)
 | []=>some []
 | .bl i::l=>(cD l).map (i :: ·)
 | _::_=>none
def fE:List Str:=["len", "tuple", "list", "abs", "all", "sum", "isinstance", "set", "int", "bool", "str", "range", "zip", "enumerate", "any", "sorted", "min", "max", "reversed"]
def ii:Expr->Bool
 | .Tuple .. => true
 | _=>false
def eG(e tg:Expr):Bool :=
 match e with
 | .Call (.Name f _) _ _ _=>if f = "enumerate" \/ f = "zip" then ii tg else true
 | _=>true
def sgs(x:Str):List D:=x.cps.toList.map fun c=>.str ⟨#[c]⟩
def items:D->Option (List D)
 | .lst l=>some l
 | .tup l=>some l
 | .str x=>if (x.cps.all fun c=>decide (c<128))=true then some (sgs x)else none
 | _=>none
def bo(ρ:ae)(x:Str)(y:D×Bool):ae:=fun z=>if z=x then some y else ρ z
def cA(sc:Scope)(x:Str):Bool:=sc.names.lookup x==some .local || sc.names.lookup x==some .cell
def aV(sc:Scope):List Expr->List D->ae->Option ae
 | [],[],ρ=>some ρ
 | .Name x _::es,d::ds,ρ=>if cA sc x=true then aV sc es ds (bo ρ x (d,false))else none
 | _,_,_=>none
def bG(sc:Scope)(tg:Expr)(d:D)(ρ:ae):Option ae :=
 match tg with
 | .Name x _=>if cA sc x=true then some (bo ρ x (d,false))else none
 | .Tuple es _ _=>(match d with | .tup ds=>aV sc es ds ρ|_=>none)
 | _=>none
def mJ(sc scope:Scope):Bool :=
 decide (scope.kind=.function)&&scope.names.all (fun y=>decide (y.2 ≠ .local) || decide (scope.names.lookup y.1=some .local)) &&
 scope.names.all (fun y=>decide (y.2 ≠ .free) || cA sc y.1&&decide (sc.names.lookup y.1=some .cell) || decide (sc.names.lookup y.1=some .free))&&decide ((scope.names.map (·.1)).Nodup)
def fu(step:D->Rs (Option (D×Nat))):List D->Rs (List D×Nat)
 | []=>.ok ([],0) []
 | d::l=>(step d).bnd fun r=>(fu step l).bnd fun q=>match r with
  | none=>.ok q []
  | some p=>.ok (p.1::q.1,kj p.2 q.2) []
def qS(x:D)(i:Int)(k:Nat):R1 :=
 match fL x with
 | some l=>(match atI l i with|some d=>mk d k|none=>.st)
 | none=>.st
def iM(p:D×Nat)(f:Int->R1):R1 :=
 match p.1 with
 | .int j=>f j
 | _=>.st
def kX(p q:D×Nat):R1 :=
 match p.1 with
 | .dct _ _=>.st
 | x=>iM q fun j=>qS x j p.2
def gY(l:List D)(lo hi:Option Int):List D:=(l.drop (HT.sIx l.length 0 lo)).take (HT.sIx l.length l.length hi-HT.sIx l.length 0 lo)
def Gp(l:List D)(lo hi:Option Int):Bool:=!(decide (HT.sIx l.length 0 lo=0)&&decide (HT.sIx l.length l.length hi=l.length))
def pX(x:D)(lo hi:Option Int):R1 :=
 match x with
 | .tup l=>.ok (.tup (gY l lo hi),0) [ao l=true,Gp l lo hi=true]
 | .lst l=>.ok (.lst (gY l lo hi),0) [ao l=true]
 | _=>.st
def dz(x:Str):Bool:=decide ((x==("__debug__" : Str))=false)&&decide ((x==("__classdict__" : Str))=false)
def vq(b:Bool)(r:Rs Bool):Rs Bool :=
 match r with
 | .ok c m=>.ok (b&&c) (gd b m)
 | .st=>match b with|false=>.ok false []|true=>.st
def zY(b:Bool)(r:Rs Bool):Rs Bool :=
 match r with
 | .ok c m=>.ok (b || c) (gd (!b) m)
 | .st=>match b with|true=>.ok true []|false=>.st
mutual
def nG(b:Bool):D->D->D
 | .int x,.int y=>.int (cond b x y)
 | .bl x,.bl y=>.bl (cond b x y)
 | .tup x,.tup y=>if x.length=y.length then .tup (jC b x y)else cond b (.tup x) (.tup y)
 | x,y=>cond b x y
def jC(b:Bool):List D->List D->List D
 | x::l,y::m=>nG b x y::jC b l m
 | l,m=>cond b l m
end
def wA(t:Bool)(k j:Nat):Nat:=if k=j then k else cond t k j
def Ap(b:Bool)(r s:R1):R1 :=
 match r with
 | .st=>(match b with|true=>.st|false=>s)
 | .ok p m=>match s with
  | .st=>(match b with|true=>.ok p m|false=>.st)
  | .ok q n=>.ok (nG b p.1 q.1,wA b p.2 q.2) (gd b m++gd (!b) n)
def iI(Φ:Fx)(x:Str)(sc:Scope)(ρ:ae):R1 :=
 if dz x=true then
  (if sc.names.lookup x=some .globalImplicit then(match Φ.con x with|some d=>.ok (d,0) []|none=>match ul x with|some T=>.ok (.typ T,0) []|none=>.st)
  else match ρ x with
   | some p=>mk p.1 (cond p.2 2 1)
   | none=>.st)
 else .st
def ku(Φ:Fx)(f:Str)(it:Bool)(ds:List D)(k:Nat):R1 :=
 match Φ.fn f with
 | some F=>(F ds).bnd fun d=>.ok (d,0) []
 | none=>match (if it=true then Φ.itr f else none)with
  | some B=>B ds k
  | none=>match Φ.blt f with
   | some B=>B ds
   | none=>.st
def gK{α:Type}(p:D×Nat)(f:Bool->Rs α):Rs α :=
 match p.1 with
 | .bl j=>f j
 | _=>.st
def FJ(Φ:Fx)(x:D)(f:Str):R1 :=
 match x with
 | .obj n ns ds=>if Φ.fld n f=true then(match (ns.zip ds).lookup f with|some d=>.ok (d,0) []|none=>.st)else .st
 | _=>.st
def e6:Expr->Bool
 | .Call (.Name _ _) [] [] _=>false
 | _=>true
def uQ(Φ:Fx)(a:Expr)(m:Str)(x:D)(ds:List D):R1 :=
 match x with
 | .obj n ns es=>if ns.contains m=false/\e6 a=true/\ds.length<29 then(match Φ.omt n m with|some F=>(F (.obj n ns es::ds)).bnd fun d=>.ok (d,0) []|none=>.st)else .st
 | x=>if e6 a=true then(match Φ.mth m with|some M=>M x ds|none=>.st)else .st
def Gz(op op2:CmpOp)(x y z:D):R1 :=
 match x,y,z with
 | .int a,.int b,.int c=>(match ff op a b,ff op2 b c with|some r,some r2=>.ok (.bl (r&&r2),0) []|_,_=>.st)
 | _,_,_=>.st
mutual
def au(Φ:Fx):Expr->Bool->Scope->ae->R1
  | .Constant c _ _,_,_,_=>(match Av c with|some d=>.ok (d,0) []|none=>.st)
  | .Name x _,_,sc,ρ=>iI Φ x sc ρ
  | .BinOp a op b _,_,sc,ρ=>(au Φ a false sc ρ).bnd fun p=>(au Φ b false sc ρ).bnd fun q=>g8 op p.1 q.1 p.2 q.2
  | .UnaryOp op a _,_,sc,ρ=>(au Φ a false sc ρ).bnd fun p=>(match vH op p.1 with|some d=>.ok (d,0) []|none=>.st)
  | .BoolOp op es _,_,sc,ρ=>if es.isEmpty=true then .st else(dE Φ op es sc ρ).bnd fun b=>.ok (.bl b,0) []
  | .Compare a [op] [b] _,_,sc,ρ=>(au Φ a false sc ρ).bnd fun p=>(au Φ b false sc ρ).bnd fun q=>(gZ op p.1 q.1).bnd fun r=>.ok (.bl r,0) []
  | .Compare a [op,op2] [b,c] _,_,sc,ρ=>(au Φ a false sc ρ).bnd fun p=>(au Φ b false sc ρ).bnd fun q=>(au Φ c false sc ρ).bnd fun t=>Gz op op2 p.1 q.1 t.1
  | .IfExp c a b _,_,sc,ρ=>(au Φ c false sc ρ).bnd fun p=>gK p fun t=>Ap t (au Φ a false sc ρ) (au Φ b false sc ρ)
  | .Tuple es _ _,_,sc,ρ=>(bK Φ es sc ρ).bnd fun p=>if p.1.length<=cg then mk (.tup p.1) p.2 else .st
  | .List es _,_,sc,ρ=>(bK Φ es sc ρ).bnd fun p=>if p.1.length<=cg/\p.2<=1 then .ok (.lst p.1,p.2) []else .st
  | .Subscript a (.Slice lo hi none _) _,_,sc,ρ=>(au Φ a false sc ρ).bnd fun p=>(kO Φ lo sc ρ).bnd fun l=>(kO Φ hi sc ρ).bnd fun h=>Φ.slf p.1 l h
  | .Subscript a i _,_,sc,ρ=>(au Φ a false sc ρ).bnd fun p=>(au Φ i false sc ρ).bnd fun q=>kX p q
  | .Call (.Name f _) args [] _,it,sc,ρ =>
    if sc.names.lookup f=some .globalImplicit then(bK Φ args sc ρ).bnd fun p=>ku Φ f it p.1 p.2
    else .st
  | .Attribute (.Name x _) f _,_,sc,ρ=>(iI Φ x sc ρ).bnd fun p=>FJ Φ p.1 f
  | .Call (.Attribute a m ap) args [] cp,_,sc,ρ=>if (ap.endLine==cp.line)=true then(au Φ a false sc ρ).bnd fun p=>(bK Φ args sc ρ).bnd fun q=>uQ Φ a m p.1 q.1 else .st
  | .ListComp elt [⟨tg,iter,ifs,0⟩] scope _,_,sc,ρ =>
    if mJ sc scope=true then(au Φ iter true sc ρ).bnd fun p=>(match items p.1 with
      | some ds=>if eG iter tg=true then
          (Rs.ok () [ds.length<=cg,ao ds=true\/p.2<=1]).bnd fun _=>(fu (fun d=>match bG scope tg d (flt scope ρ)with
            | none=>.st
            | some ρ'=>(dE Φ .And ifs scope ρ').bnd fun b=>cond b ((au Φ elt false scope ρ').bnd fun r=>.ok (some r) []) (.ok none [])) ds).bnd fun q=>if q.2<=1 then .ok (.lst q.1,q.2) []else .st
        else .st
      | none=>.st)
    else .st
  | _,_,_,_=>.st
def bK(Φ:Fx):List Expr->Scope->ae->Rs (List D×Nat)
 | [],_,_=>.ok ([],0) []
 | e::es,sc,ρ=>(au Φ e false sc ρ).bnd fun p=>(bK Φ es sc ρ).bnd fun q=>.ok (p.1::q.1,kj p.2 q.2) []
def dE(Φ:Fx):BoolOp->List Expr->Scope->ae->Rs Bool
 | .And,[],_,_=>.ok true []
 | .Or,[],_,_=>.ok false []
 | .And,e::es,sc,ρ=>(au Φ e false sc ρ).bnd fun p=>gK p fun b=>vq b (dE Φ .And es sc ρ)
 | .Or,e::es,sc,ρ=>(au Φ e false sc ρ).bnd fun p=>gK p fun b=>zY b (dE Φ .Or es sc ρ)
def kO(Φ:Fx):Option Expr->Scope->ae->Rs (Option Int)
 | none,_,_=>.ok none []
 | some e,sc,ρ=>(au Φ e false sc ρ).bnd fun p=>(match p.1 with | .int i=>.ok (some i) []|_=>.st)
end
theorem nY{Φ:Fx}{op:BoolOp}:au Φ (.BoolOp op es p) it sc ρ=(if es.isEmpty=true then .st else(dE Φ op es sc ρ).bnd fun b=>.ok (.bl b,0) []):=rfl
theorem iS{Φ:Fx}{p:Pos}:au Φ (.Call (.Name f p) args [] q) it sc ρ=(if sc.names.lookup f=some .globalImplicit then(bK Φ args sc ρ).bnd fun p=>ku Φ f it p.1 p.2 else .st):=rfl
theorem iT{Φ:Fx}:au Φ (.Call (.Attribute a m ap) args [] cp) it sc ρ=(if (ap.endLine==cp.line)=true then(au Φ a false sc ρ).bnd fun p=>(bK Φ args sc ρ).bnd fun q=>uQ Φ a m p.1 q.1 else .st):=rfl
theorem nX{Φ:Fx}{q:Pos}:au Φ (.ListComp elt [⟨tg,iter,ifs,0⟩] scope q) it sc ρ=(if mJ sc scope=true then(au Φ iter true sc ρ).bnd fun p=>(match items p.1 with
      | some ds=>if eG iter tg=true then
          (Rs.ok () [ds.length<=cg,ao ds=true\/p.2<=1]).bnd fun _=>(fu (fun d=>match bG scope tg d (flt scope ρ)with
            | none=>.st
            | some ρ'=>(dE Φ .And ifs scope ρ').bnd fun b=>cond b ((au Φ elt false scope ρ').bnd fun r=>.ok (some r) []) (.ok none [])) ds).bnd fun q=>if q.2<=1 then .ok (.lst q.1,q.2) []else .st
        else .st
      | none=>.st)
    else .st):=rfl
variable{Φ:Fx}{F:List D->Rs D}{B:List D->R1}{sf:D->Option Int->Option Int->R1}
inductive Fl where
 | nx (ρ:ae)|rt (d:D)|bk (ρ:ae)|ct (ρ:ae)
def gb:Expr->Bool
 | .ListComp .. => true
 | .SetComp .. => true
 | .DictComp .. => true
 | _=>false
def ld(l:List D)(i:Int)(d:D):Option (List D):=(ixN l.length i).map fun j=>l.set j d
def kL(f:ae->Rs Fl):Fl->Rs Fl
 | .nx ρ=>f ρ
 | .ct ρ=>f ρ
 | .bk ρ=>.ok (.nx ρ) []
 | .rt d=>.ok (.rt d) []
def c7(bind:D->ae->Option ae)(body:ae->Rs Fl):List D->ae->Rs Fl
 | [],ρ=>.ok (.nx ρ) []
 | d::l,ρ=>match bind d ρ with
  | none=>.st
  | some ρ1=>(body ρ1).bnd (kL (c7 bind body l))
def kK(test:ae->Rs Bool)(body:ae->Rs Fl):Nat->ae->Rs Fl
 | 0,_=>.st
 | n+1,ρ=>(test ρ).bnd fun b=>cond b ((body ρ).bnd (kL (kK test body n))) (.ok (.nx ρ) [])
def demX(x:Str)(ρ:ae):ae:=fun y=>if y=x then(ρ y).map fun p=>(p.1,false)else ρ y
def demA(x:Str)(ρ:ae):ae:=fun y=>if y=x then(ρ y).map fun p=>(p.1,p.2&&p.1.lless)else ρ y
def demL:List Expr->ae->ae
 | [],ρ=>ρ
 | .Name x _::es,ρ=>demL es (demA x ρ)
 | .Subscript (.Name x _) _ _::es,ρ=>demL es (demA x ρ)
 | _::es,ρ=>demL es ρ
def demote(e:Expr)(ρ:ae):ae :=
 match e with
 | .Name x _=>demX x ρ
 | .Subscript (.Name x _) _ _=>demX x ρ
 | .Call _ args _ _=>demL args ρ
 | _=>ρ
def nr(sc:Scope)(x:Str)(p:D×Nat)(ρ:ae):Rs Fl :=
 if cA sc x=true then
  match p.2 with
  | 0=>.ok (.nx (bo ρ x (p.1,true))) []
  | 1=>.ok (.nx (bo ρ x (p.1,false))) []
  | _=>.st
 else .st
def uI(ρ:ae)(x:Str)(f:List D->Rs Fl):Rs Fl :=
 match ρ x with
 | some (.lst l,true)=>if dz x=true then f l else .st
 | _=>.st
def lO(sc:Scope)(x y:Str)(px py:Pos)(a b:Expr):Bool :=
 sc.names.lookup x==some .local&&sc.names.lookup y==some .local&&(px.line==py.line) && !decide (x=y) && !([a,b].all (foldedForSure 8)) && !([a,b].all (constantsAlone 8))
def mq(Φ:Fx)(es:List Expr)(e:Expr)(sc:Scope)(ρ:ae):Rs Fl :=
  match es,e with
  | [.Name x px,.Name y py],.Tuple [a,b] _ _=>if lO sc x y px py a b=true then(bK Φ [a,b] sc ρ).bnd fun p=>(match p.1 with
      | [u,v]=>if ao [u,v]=true\/p.2<=1 then .ok (.nx (bo (bo ρ x (u,false)) y (v,false))) []else .st
      | _=>.st)else .st
  | _,_=>.st
def rM(sc:Scope)(es:List Expr)(e:Expr):Bool :=
 match es,e with
 | [.Name x _,.Name _ _],.Tuple [_,_] _ _=>sc.names.lookup x==some .cell
 | _,_=>false
def oy(sc:Scope)(es:List Expr)(e:Expr):Bool:=ii e && !rM sc es e
def uJ(sc:Scope)(es:List Expr)(p:D×Nat):Bool :=
 match es,p.1,p.2 with
 | [.Name x _,.Name y _],.tup [d1,d2],0=>d1.lless && !d2.lless && !decide (x=y)&&cA sc x&&cA sc y
 | _,_,_=>false
def x6(es:List Expr)(p:D×Nat)(ρ:ae):ae :=
 match es,p.1 with
 | [.Name x _,.Name y _],.tup [d1,d2]=>bo (bo ρ y (d2,true)) x (d1,false)
 | _,_=>ρ
def Dr(_:Expr):Bool:=true
def m7(ρ:ae)(x:Str)(i d:D):Rs Fl :=
 match ρ x with
 | some (.lst l,true)=>(match i with | .int j=>if dz x=true then(match ld l j d with|some l'=>.ok (.nx (bo ρ x (.lst l',true))) [ao l=true,d.lless=true]|none=>.st)else .st|_=>.st)
 | some (.dct _ _,true)=>.st
 | _=>.st
def mw(Φ:Fx)(tgs:List Expr)(e:Expr)(sc:Scope)(ρ:ae):Rs Fl :=
  match tgs with
  | [.Name x _]=>(au Φ e false sc ρ).bnd fun p=>nr sc x p ρ
  | [.Tuple es _ _]=>if oy sc es e=true then mq Φ es e sc ρ else(au Φ e false sc ρ).bnd fun p=>if uJ sc es p=true then .ok (.nx (x6 es p ρ)) []else(match fL p.1 with
      | some ds=>if ao ds=true\/p.2<=1 then(match aV sc es ds ρ with|some ρ'=>.ok (.nx ρ') []|none=>.st)else .st
      | none=>.st)
  | [.Subscript (.Name x _) i _]=>if Dr e=true then(au Φ e false sc ρ).bnd fun p=>(au Φ i false sc ρ).bnd fun q=>m7 ρ x q.1 p.1
    else .st
  | _=>.st
def zm(op:Operator)(a b:Int):R1 :=
 match op with
 | .Add=>.ok (.int (a+b),0) []
 | .Sub=>.ok (.int (a-b),0) []
 | .Mult=>.ok (.int (a*b),0) [eT a b]
 | .FloorDiv=>.ok (.int (a.fdiv b),0) [fq b]
 | _=>.st
def mv(Φ:Fx)(t:Expr)(op:Operator)(e:Expr)(sc:Scope)(ρ:ae):Rs Fl :=
  match t with
  | .Name x _=>if cA sc x=true then(match ρ x with
      | some p=>iM (p.1,0) (fun a=>(au Φ e false sc ρ).bnd fun q=>iM q fun b=>zm op a b) |>.bnd fun r=>.ok (.nx (bo ρ x (r.1,true))) []
      | none=>.st)else .st
  | _=>.st
def mr(Φ:Fx)(e:Expr)(sc:Scope)(ρ:ae):Rs Fl :=
  match e with
  | .Call (.Attribute (.Name x _) m ap) args [] cp=>if (ap.endLine==cp.line)=true then(bK Φ args sc ρ).bnd fun p=>(match Φ.mtt m with
      | some M=>uI ρ x fun l=>(M l p.1 p.2).bnd fun l'=>.ok (.nx (bo ρ x (.lst l',true))) []
      | none=>.st)else .st
  | .Call (.Name f p) args ks cp=>(au Φ (.Call (.Name f p) args ks cp) false sc ρ).bnd fun _=>.ok (.nx ρ) []
  | _=>.st
def eZ(ρ:ae):ae:=fun y=>(ρ y).map fun p=>(p.1,false)
def Ad:Expr->Bool
 | .ListComp elt _ _ _=>gb elt
 | _=>false
def pj:Expr->Bool
 | .Tuple es _ _=>es.any Ad
 | e=>Ad e
def qf(e:Expr)(ρ:ae):ae:=cond (pj e) (eZ ρ) ρ
def uE(p:D×Nat):Rs Fl:=if p.2=0\/p.2=2 then .ok (.rt p.1) []else .st
mutual
def eU(Φ:Fx):Stmt->Scope->ae->Rs Fl
  | .Return (some e) _,sc,ρ=>(au Φ e false sc (qf e ρ)).bnd uE
  | .Return none _,_,_=>.ok (.rt .non) []
  | .Pass _,_,ρ=>.ok (.nx ρ) []
  | .Break _,_,ρ=>.ok (.bk ρ) []
  | .Continue _,_,ρ=>.ok (.ct ρ) []
  | .Assign tgs e _,sc,ρ=>mw Φ tgs e sc ρ
  | .AugAssign t op e _,sc,ρ=>mv Φ t op e sc ρ
  | .Expr e _,sc,ρ=>mr Φ e sc ρ
  | .If c a b _,sc,ρ=>(au Φ c false sc ρ).bnd fun p=>gK p fun t=>cond t (az Φ a sc ρ) (az Φ b sc ρ)
  | .For tg it body els _,sc,ρ=>if els.isEmpty=true then(au Φ it true sc (demote it ρ)).bnd fun p=>(match items p.1 with
      | some ds=>if p.2<=1/\eG it tg=true then c7 (bG sc tg) (az Φ body sc) ds (demote it ρ)else .st
      | none=>.st)
    else .st
  | .While c body els _,sc,ρ=>if els.isEmpty=true then kK (fun ρ=>(au Φ c false sc ρ).bnd fun p=>gK p fun b=>.ok b []) (az Φ body sc) cg ρ else .st
  | _,_,_=>.st
def az(Φ:Fx):List Stmt->Scope->ae->Rs Fl
 | [],_,ρ=>.ok (.nx ρ) []
 | s::ss,sc,ρ=>(eU Φ s sc ρ).bnd fun
  | .nx ρ'=>az Φ ss sc ρ'
  | f=>.ok f []
end
theorem nW{it:Expr}:eU Φ (.For tg it body els q) sc ρ=(if els.isEmpty=true then(au Φ it true sc (demote it ρ)).bnd fun p=>(match items p.1 with
      | some ds=>if p.2<=1/\eG it tg=true then c7 (bG sc tg) (az Φ body sc) ds (demote it ρ)else .st
      | none=>.st)
    else .st):=rfl
theorem rj{ρ:ae}:eU Φ (.While c body els q) sc ρ=(if els.isEmpty=true then kK (fun ρ=>(au Φ c false sc ρ).bnd fun p=>gK p fun b=>.ok b []) (az Φ body sc) cg ρ else .st):=rfl
def d0:List Str->List D->ae
 | p::ps,d::ds=>fun z=>if z=p then some (d,false)else d0 ps ds z
 | _,_=>fun _=>none
def cm(Φ:Fx)(sc:Scope)(ps:List Str)(body:List Stmt)(ds:List D):Rs D :=
 if ds.length=ps.length then(az Φ body sc (d0 ps ds)).bnd fun
  | .rt d=>.ok d []
  | .nx _=>.ok .non []
  | _=>.st
 else .st
def zf(ds:List D):R1 :=
 match ds with
 | [.sn n]=>.ok (.int n,0) []
 | [x]=>(match fL x with|some l=>.ok (.int l.length,0) []|none=>.st)
 | _=>.st
def jX:List String:=["int", "bool", "str", "tuple", "list", "dict"]
def zg(ds:List D):R1 :=
 match ds with
 | [.obj m _ _,.cls n]=>if m=n then .ok (.bl true,0) []else if m∈rH then .ok (.bl (dR m n),0) []else .st
 | [x,.typ T]=>if T∈jX then(match Fu x T with|some b=>.ok (.bl b,0) []|none=>.st)else .st
 | _=>.st
def rR(ds:List D):R1 :=
 match ds with
 | [x]=>(match fL x with|some l=>.ok (.tup l,0) [ao l=true]|none=>.st)
 | _=>.st
def zl(ds:List D):R1 :=
 match ds with
 | [.int i]=>.ok (.int (if i<0 then -i else i),0) []
 | _=>.st
def oa(ds:List D):R1 :=
 match ds with
 | [.lst l]=>(match cD l with|some bs=>.ok (.bl (bs.all id),0) []|none=>.st)
 | _=>.st
def zk(ds:List D):R1 :=
 match ds with
 | [.lst l]=>(match dj l with
  | some ns=>.ok (.bl (ns.any fun n=>n != 0),0) []
  | none=>match cD l with|some bs=>.ok (.bl (bs.any id),0) []|none=>.st)
 | _=>.st
def zi(ds:List D):R1 :=
 match ds with
 | [.int i]=>.ok (.int i,0) []
 | [.bl b]=>.ok (.int (cond b 1 0),0) []
 | _=>.st
def zc(ds:List D):R1 :=
 match ds with
 | [.int i]=>.ok (.str (toString i),0) [i.natAbs<2 ^ 1900]
 | _=>.st
def qY(ds:List D)(_:Nat):R1 :=
 match ds with
 | [.int j]=>.ok (.lst ((List.range j.toNat).map fun i=>.int (i:Nat)),0) [-4611686018427387904<=j,j<=cg]
 | [.int i,.int j]=>.ok (.lst ((List.range (j-i).toNat).map fun m=>.int (i+(m:Nat))),0) [-4611686018427387904<=i,i<=4611686018427387000,-4611686018427387904<=j,j-i<=800]
 | _=>.st
def jO:Nat->List D->List D
 | _,[]=>[]
 | n,x::xs=>.tup [.int (n:Nat),x]::jO (n+1) xs
theorem kl:∀(l:List D) (n:Nat),jO n l=l.mapIdx fun i x=>.tup [.int ((n+i:Nat):Int),x]
 | [],_=>rfl
 | x::l,n=>by
  rw[jO,kl l (n+1),List.mapIdx_cons]
  simp only[Nat.add_zero]
  congr 1
  congr 1
  funext i y
  rw[show n+1+i=n+(i+1) by omega]
def u7(ds:List D)(k:Nat):R1 :=
 match ds with
 | [.tup a]=>.ok (.lst (jO 0 a),0) [ao a=true]
 | [.lst a]=>.ok (.lst (jO 0 a),k) [ao a=true]
 | _=>.st
def nJ(l ds:List D)(k:Nat):Rs (List D) :=
 match ds with
 | [d]=>.ok (l++[d]) [d.lless=true\/k=0,l.length<cg]
 | _=>.st
def Tb(l:List (Str×(List D->Rs D)))(c:List (Str×D))(b:List (Str×(List D->R1)))(i:List (Str×(List D->Nat->R1)))(m:List (Str×(D->List D->R1)))(t:List (Str×(List D->List D->Nat->Rs (List D))))(sf:D->Option Int->Option Int->R1):Fx :=
 { slf:=sf,fn:=fun g=>l.lookup g,con:=fun x=>c.lookup x,blt:=fun x=>b.lookup x,itr:=fun x=>i.lookup x,mth:=fun x=>m.lookup x,mtt:=fun x=>t.lookup x }
def xD(l:List (Str×(List D->Rs D)))(c:List (Str×D))(b:List (Str×(List D->R1)))(i:List (Str×(List D->Nat->R1)))(m:List (Str×(D->List D->R1)))(t:List (Str×(List D->List D->Nat->Rs (List D))))(sf:D->Option Int->Option Int->R1)(fl:List (Str×List Str))(om:List (Str×List (Str×(List D->Rs D)))):Fx :=
  { slf:=sf,fn:=fun g=>l.lookup g,con:=fun x=>c.lookup x,blt:=fun x=>b.lookup x,itr:=fun x=>i.lookup x,mth:=fun x=>m.lookup x,mtt:=fun x=>t.lookup x
    fld:=fun n f=>match fl.lookup n with|some fs=>fs.contains f|none=>false
    omt:=fun n x=>match om.lookup n with|some ms=>ms.lookup x|none=>none }
variable{fl:Fl}{bodyF:ae->Rs Fl}
variable{X:Cx}
theorem j8{k:Int}(h:k.natAbs<2 ^ n):Builtin.Int.intBits k<=n:=by
 unfold Builtin.Int.intBits
 split
 ·exact Nat.zero_le _
 ·rename_i h0
  have:k.natAbs.log2<n:=by
   rcases Nat.eq_zero_or_pos k.natAbs with h1|hp
   ·exact absurd (by simpa using h1) (by simpa using h0)
   ·exact(Nat.log2_lt (Nat.ne_of_gt hp)).mpr h
  omega
theorem da:∀{l m:List Prop},aA (l++m)↔aA l/\aA m
 | [],m=>by simp[aA]
 | p::l,m=>by
  show p/\aA (l++m)↔(p/\aA l)/\aA m
  rw[da,and_assoc]
theorem aN{r:Rs α}{f:α->Rs β}{b:β}{l:List Prop}(h:r.bnd f=.ok b l)(hp:aA l):∃a l1 l2,r=.ok a l1/\aA l1/\f a=.ok b l2/\aA l2:=by
 unfold Rs.bnd at h
 split at h
 ·cases h
 ·rename_i a l1
  split at h
  ·cases h
  ·rename_i b' m e
   cases h
   obtain⟨h1,h2⟩:=da.mp hp
   exact⟨a,l1,m,rfl,h1,e,h2⟩
theorem mi{m:List Prop}(h:aA (gd b m))(hb:b=true):aA m:=by
 cases m with
 | nil=>exact True.intro
 | cons p l=>exact h.1 hb
theorem HR{a b:Int}(h:Builtin.Int.intBits a<=2 ^ 22)(g:Builtin.Int.intBits b<=2 ^ 22):IntMulOk a b:=by
 have h':Builtin.Int.intTooBig (Builtin.Int.intBits a+Builtin.Int.intBits b)=false:=by
  unfold Builtin.Int.intTooBig bitsLine;exact decide_eq_false (by omega)
 unfold IntMulOk;rw[h'];simp
theorem qC{a b:Int}(h:eT a b):IntMulOk a b:=by
 rcases h with h|h|⟨h,g⟩|⟨h,g⟩
 ·exact .of_left (j8 h)
 ·exact .of_right (j8 h)
 ·exact IntMulOk.of_bits (Nat.le_trans (j8 h) (by decide)) (Nat.le_trans (j8 g) (by decide))
 ·exact HR h g
theorem BG:bZ X (binaryOp .Mult) (rI (fun i j=>eT i j) fun i j=>.int (i*j)):=qz fun _ _ _ _ _ _ _ hc q=>mul_int q (qC hc)
theorem yh:bZ X (binaryOp .FloorDiv) (rI (fun _ j=>j≠0/\j.natAbs<cT) fun i j=>.int (i.fdiv j)):=qz fun i j _ _ _ _ _ hc q=>floordiv_int hc.1 q (.inl (PyProof.noPylong_of_log2 (by
 rcases Nat.eq_zero_or_pos j.natAbs with h1|hp
 ·exact absurd (by simpa using h1) hc.1
 ·exact(Nat.log2_lt (Nat.ne_of_gt hp)).mpr hc.2)))
mutual
theorem c5{pins:List (Addr×Obj)}{σ:L2.St}{H:Hp}{s:Shared}(I:aj X pins σ H s){P:aZ}:∀{d:D} {v:V} {u:Value},d.py.canLay0=true->ag X.K H P d v->aT v u->∃as,Reads s.heap u d.py as
 | .non,v,u,_,h,r=>by
  rw[ag]at h;subst h;cases (show u=Value.none from r);rw[D.py];exact⟨_,.none⟩
 | .bl b,v,u,_,h,r=>by rw[ag]at h;subst h;cases (show u=Value.bool b from r);rw[D.py];exact⟨_,.bool b⟩
 | .int i,v,u,_,h,r=>by rw[ag]at h;subst h;obtain⟨t,e⟩:=(show ∃t,u=Value.int i t from r);subst e;rw[D.py];exact⟨_,.int i t⟩
 | .str x,v,u,_,h,r=>by rw[ag]at h;subst h;obtain⟨t,e⟩:=(show ∃t,u=Value.str x t from r);subst e;rw[D.py];exact⟨_,.str x t⟩
 | .dct _ _,v,u,c,h,r=>by rw[D.py]at c;simp[PyData.canLay0]at c
 | .typ _,v,u,c,h,r=>by rw[D.py]at c;simp[PyData.canLay0]at c
 | .sn _,v,u,c,h,r=>by rw[D.py]at c;simp[PyData.canLay0]at c
 | .obj _ _ _,v,u,c,h,r=>by rw[D.py]at c;simp[PyData.canLay0]at c
 | .cls _,v,u,c,h,r=>by rw[D.py]at c;simp[PyData.canLay0]at c
 | .tup l,v,u,c,h,r=>by
  rw[ag]at h
  obtain⟨a,vs,rfl,h,q⟩:=h
  cases (show u=Value.ref a from r)
  obtain⟨its,rv,ht,_⟩:=I.tuple h
  obtain⟨o,e1,e2,n,e3⟩:=ht
  rw[D.py]at c⊢
  obtain⟨as,ra⟩:=jt I (by simpa [PyData.canLay0]using c) q rv
  exact⟨as,.tuple e1 e2 e3 (by simpa using ra)⟩
 | .lst l,v,u,c,h,r=>by
  rw[ag]at h
  obtain⟨a,vs,b,rfl,h,_,q⟩:=h
  cases (show u=Value.ref a from r)
  have hs:bL X.K H a vs:=h.sq
  obtain⟨its,rv,ht,_⟩:=I.list hs
  obtain⟨o,n,e1,e2,_,e3⟩:=ht
  rw[D.py]at c⊢
  obtain⟨as,ra⟩:=jt I (by simpa [PyData.canLay0]using c) q rv
  exact⟨_,.list e1 e2 e3 (by simpa using ra)⟩
theorem jt{pins:List (Addr×Obj)}{σ:L2.St}{H:Hp}{s:Shared}(I:aj X pins σ H s){P:aZ}:∀{l:List D} {vs:List V} {us:List Value},PyData.canLayAll0 (fX l)=true->af X.K H P l vs->aG vs us->∃as,ReadsAll s.heap us (fX l) as
 | [],vs,us,_,h,r=>by rw[af]at h;subst h;cases r;rw[fX];exact⟨_,.nil⟩
 | d::l,vs,us,c,h,r=>by
  rw[af]at h
  obtain⟨v,vr,rfl,h1,h2⟩:=h
  cases r with
  | cons r1 r2 =>
   rw[fX,PyData.canLayAll0,Bool.and_eq_true]at c
   obtain⟨as,ra⟩:=c5 I c.1 h1 r1
   obtain⟨bs,rb⟩:=jt I c.2 h2 r2
   rw[fX]
   exact⟨_,.cons ra rb⟩
end
def AE(X:Cx)(f:Value->Value->Sem Value)(x y z:D)(k j l:Nat):Prop :=
 ∃r:R2,bZ X f r/\∀ow H0 H2 v u (Q:VK),ef ow H0->av H0 H2->ag X.K H2 (Kp ow H0 k) x v->ag X.K H2 (Kp ow H0 j) y u->(∀w H',av H2 H'->ag X.K H' (Kp ow H0 l) z w->Q w H')->r v u H2 Q
theorem cj{p:Addr}{o:HO}(h:H p=none):av H (aO H p o):=fun b x e=>by rw[ax (bq e h)];exact e
theorem ag.kn(h:ag K H (Kp ow H0 k) d v):ag K H (Kp ow H0 (Sp.kn d k)) d v:=by
 unfold Sp.kn
 by_cases f:d.lless=true
 ·rw[if_pos f];exact h.flat _ f
 ·rw[if_neg f];exact h
theorem eH:cg<=sizeLine:=by rw[sizeLine_eq];decide
theorem oJ:cg<sizeLine:=by rw[sizeLine_eq];decide
theorem j6{f:Value->Value->Sem Value}{a b:Int}{g:Int->Int->Int}{C:Int->Int->Prop}(h:bZ X f (rI C fun i j=>.int (g i j)))(hc:C a b):AE X f (.int a) (.int b) (.int (g a b)) k j 0 :=
 ⟨_,h,fun ow H0 H2 v u Q o s rx ry q=>by
  rw[ag]at rx ry;subst rx ry
  exact⟨a,b,rfl,rfl,hc,q _ _ (av.refl _) (by rw[ag])⟩⟩
theorem qA{f:Value->Value->Sem Value}{a b:Int}{g:Int->Int->Int}(h:bZ X f (gw fun i j=>.int (g i j))):AE X f (.int a) (.int b) (.int (g a b)) k j 0 :=
 ⟨_,h,fun ow H0 H2 v u Q o s rx ry q=>by
  rw[ag]at rx ry;subst rx ry
  exact⟨a,b,rfl,rfl,q _ _ (av.refl _) (by rw[ag])⟩⟩
theorem ja:∀{a b:List D},ao (a++b)=(ao a&&ao b)
 | [],b=>by simp[ao]
 | x::a,b=>by rw[List.cons_append,ao,ao,ja,Bool.and_assoc]
theorem CM{op:Operator}{a b:Int}{l:Nat}(h:zb op a b=.ok (z,l) o)(hp:aA o):AE X (binaryOp op) (.int a) (.int b) z k j l:=by
 unfold zb at h
 split at h
 ·cases h;exact qA Es
 ·cases h;exact qA Eo
 ·cases h;exact j6 BG hp.1
 ·cases h;exact j6 yh hp.1
 ·cases h;exact j6 BH hp.1
 ·cases h
  have c:uG a b:=hp.1
  exact j6 Ep ⟨c.1,by have:=c.2.1;omega,c.2.2⟩
 ·cases h
theorem lr{op:Operator}(h:pz op=true):op=.Add:=by cases op<;>first|rfl|cases h
theorem yi:bZ X (binaryOp .Add) (fun x y H Q => ∃a b ys,x=.ref a/\y=.ref b/\cw X.K H a []/\cw X.K H b ys/\Q (.ref b) H):=by
 intro pins s σ H x y v u Q I rx ry h
 obtain⟨a,b,ys,rfl,rfl,ha,hb,q⟩:=h
 cases rx
 cases ry
 obtain⟨its,r1,p1,_⟩:=I.tuple ha
 obtain⟨its2,r2,p2,_⟩:=I.tuple hb
 cases r1
 obtain⟨⟨cls,dd,data,sl⟩,ho,hc,n,hd⟩:=id p1
 obtain⟨⟨cls2,dd2,data2,sl2⟩,ho2,hc2,n2,hd2⟩:=id p2
 simp only at hc hd hc2 hd2
 subst hc hd hc2 hd2
 exact concat_meets ⟨_,ho,rfl⟩ ⟨_,ho2,rfl⟩ noFill_tuple_add seq_tuple_add PySem.F.slot_tuple_add PySem.F.entry_tuple_add (PySem.F.args_tuple_add_2 _ _)
  (tuple_addW0 a b _ its2.toArray n n2 dd dd2 sl sl2 (by rfl)) ⟨ho,ho2,⟨.ref b,H,I,rfl,q⟩⟩
theorem tL:bZ X (binaryOp .Add) (fun x y H Q => ∃l b xs zs,x=.ref l/\y=.ref b/\bL X.K H l xs/\bL X.K H b zs/\xs.length+zs.length<=sizeLine/\∀p,H p=none->Q (.ref p) (aO H p (.lst (xs++zs)))):=by
 intro pins s σ H x y v u Q I rx ry h
 obtain⟨l,b,xs,zs,rfl,rfl,hH,hB,hz,q⟩:=h
 cases rx
 cases ry
 obtain⟨its,r,⟨⟨cls,dd,data,sl⟩,n,ho,hc,_,hd⟩,z⟩:=I.list hH
 obtain⟨its2,r2,⟨⟨cls2,dd2,data2,sl2⟩,n2,ho2,hc2,_,hd2⟩,z2⟩:=I.list hB
 simp only at hc hd hc2 hd2
 subst hc hd hc2 hd2
 have l1:=r.length
 have l2:=r2.length
 refine concat_meets ⟨_,ho,rfl⟩ ⟨_,ho2,rfl⟩ noFill_list_add seq_list_add PySem.F.slot_list_add PySem.F.entry_list_add (PySem.F.args_list_add_2 _ _) (list_addW l b its.toArray its2.toArray n n2 dd dd2 sl sl2 (by rw[List.size_toArray,List.size_toArray];omega)) ⟨ho,ho2,?_⟩
 have ea:its.toArray++its2.toArray=(its++its2).toArray:=by simp
 rw[ea]
 exact⟨.ref _,_,I.lnew (t':=s.toks) (r.append r2) (by rw[List.length_append];omega),rfl,q _ I.fresh⟩
theorem GU{op:Operator}{x:D}{l:Nat}(h:g8 op x y k j=.ok (z,l) o)(hp:aA o):AE X (binaryOp op) x y z k j l:=by
 unfold g8 at h
 split at h
 ·exact CM h hp
 ·rename_i a b
  split at h
  ·rename_i c;cases h
   cases lr c
   refine⟨_,uM,fun ow H0 H2 v u Q o s rx ry q=>?_⟩
   rw[ag]at rx ry;subst rx ry
   exact⟨a,b,rfl,rfl,Nat.le_trans hp.1 eH,q _ _ (av.refl _) (by rw[ag])⟩
  ·cases h
 ·rename_i a b
  split at h
  ·rename_i c
   cases lr c
   cases h
   cases a with
   | nil =>
    refine⟨_,yi,fun ow H0 H2 v u Q o s rx ry q=>?_⟩
    rw[ag]at rx ry
    obtain⟨pa,va,rfl,ha,ra⟩:=rx
    obtain⟨pb,vb,rfl,hb,rb⟩:=ry
    have rb':=rb.imp (Kp.joinR o k j)
    cases ra
    refine⟨pa,pb,vb,rfl,rfl,ha,hb,q _ _ (av.refl _) (ag.kn ?_)⟩
    rw[ag]
    exact⟨pb,vb,rfl,hb,rb'⟩
   | cons a0 a =>
    refine⟨_,BI,fun ow H0 H2 v u Q o s rx ry q=>?_⟩
    rw[ag]at rx ry
    obtain⟨pa,va,rfl,ha,ra⟩:=rx
    obtain⟨pb,vb,rfl,hb,rb⟩:=ry
    have ra':=ra.imp (Kp.joinL o k j)
    have rb':=rb.imp (Kp.joinR o k j)
    have la:=ra.length
    have lb:=rb.length
    refine⟨pa,pb,va,vb,rfl,rfl,ha,hb,?_,?_,fun e=>?_,fun e p hp'=>?_⟩
    ·intro e;subst e;cases la
    ·rw[<- la,<- lb];exact Nat.le_trans hp.1 eH
    ·subst e
     have:b=[]:=List.length_eq_zero_iff.mp lb
     subst this
     refine q _ _ (av.refl _) (ag.kn ?_)
     rw[ag]
     exact⟨pa,va,rfl,ha,by rw[List.append_nil];exact ra'⟩
    ·have sm:=cj (o:=HO.tup (va++vb)) hp'
     refine q _ _ sm (ag.kn ?_)
     rw[ag]
     exact⟨p,_,rfl,cw.of aD,(ra'.same sm).append (rb'.same sm)⟩
  ·cases h
 ·rename_i a b
  split at h
  ·rename_i c;cases h
   cases lr c
   refine⟨_,tL,fun ow H0 H2 v u Q o s rx ry q=>?_⟩
   rw[ag]at rx ry
   obtain⟨pa,va,b1,rfl,ha,qa,ra⟩:=rx
   obtain⟨pb,vb,b2,rfl,hb,qb,rb⟩:=ry
   have la:=ra.length
   have lb:=rb.length
   have fl:=hp.1
   rw[ja,Bool.and_eq_true]at fl
   refine⟨pa,pb,va,vb,rfl,rfl,ha.sq,hb.sq,by rw[<- la,<- lb];exact Nat.le_trans hp.2.1 eH,fun p hp'=>?_⟩
   have sm:=cj (o:=HO.lst (va++vb)) hp'
   refine q _ _ sm ?_
   rw[ag]
   exact⟨p,_,true,rfl,aD,⟨rfl,s.free hp'⟩,((ra.flat _ fl.1).same sm).append ((rb.flat _ fl.2).same sm)⟩
  ·cases h
 ·cases h
theorem yr{pins:List (Addr×Obj)}{σ:L2.St}{s:Shared}{P:aZ}(h:ag X.K H P (.lst l) v):∃a vs,v=.ref a/\bL X.K H a vs/\af X.K H P l vs:=by
 rw[ag]at h
 obtain⟨a,vs,b,rfl,h,_,q⟩:=h
 exact⟨a,vs,rfl,h.sq,q⟩
theorem jJ:∀{l:List D} {ns:List Int},dj l=some ns->l=ns.map D.int
 | [],ns,h=>by rw[dj]at h;cases h;rfl
 | .int i::l,ns,h=>by
  rw[dj]at h
  cases e:dj l with
  | none=>rw[e]at h;cases h
  | some m=>rw[e]at h;cases h;rw[jJ e];rfl
 | .non::l,ns,h=>by rw[dj]at h<;>first|cases h|(intro z;intro e;cases e)
 | .bl _::l,ns,h=>by rw[dj]at h<;>first|cases h|(intro z;intro e;cases e)
 | .str _::l,ns,h=>by rw[dj]at h<;>first|cases h|(intro z;intro e;cases e)
 | .dct _ _::l,ns,h=>by rw[dj]at h<;>first|cases h|(intro z;intro e;cases e)
 | .typ _::l,ns,h=>by cases h
 | .sn _::l,ns,h=>by cases h
 | .obj _ _ _::l,ns,h=>by cases h
 | .cls _::l,ns,h=>by cases h
 | .tup _::l,ns,h=>by rw[dj]at h<;>first|cases h|(intro z;intro e;cases e)
 | .lst _::l,ns,h=>by rw[dj]at h<;>first|cases h|(intro z;intro e;cases e)
theorem iX:∀{l:List D} {ns:List Bool},cD l=some ns->l=ns.map D.bl
 | [],ns,h=>by rw[cD]at h;cases h;rfl
 | .bl i::l,ns,h=>by
  rw[cD]at h
  cases e:cD l with
  | none=>rw[e]at h;cases h
  | some m=>rw[e]at h;cases h;rw[iX e];rfl
 | .non::l,ns,h=>by rw[cD]at h<;>first|cases h|(intro z;intro e;cases e)
 | .int _::l,ns,h=>by rw[cD]at h<;>first|cases h|(intro z;intro e;cases e)
 | .str _::l,ns,h=>by rw[cD]at h<;>first|cases h|(intro z;intro e;cases e)
 | .dct _ _::l,ns,h=>by rw[cD]at h<;>first|cases h|(intro z;intro e;cases e)
 | .typ _::l,ns,h=>by cases h
 | .sn _::l,ns,h=>by cases h
 | .obj _ _ _::l,ns,h=>by cases h
 | .cls _::l,ns,h=>by cases h
 | .tup _::l,ns,h=>by rw[cD]at h<;>first|cases h|(intro z;intro e;cases e)
 | .lst _::l,ns,h=>by rw[cD]at h<;>first|cases h|(intro z;intro e;cases e)
def hU(X:Cx)(op:CmpOp)(x y:D)(r:Bool):Prop:=∀(P P':aZ),bZ X (compareOp op) (fun v u H Q=>ag X.K H P x v/\ag X.K H P' y u/\Q (.bl r) H)
theorem jQ{x:D}:∀{l:List D},((fX l).any fun y=>PyData.eqv y x.py)=l.any fun y=>eqD y x
 | []=>by rw[fX];rfl
 | y::l=>by rw[fX,List.any_cons,List.any_cons,jQ];rfl
theorem km{a b:Int}{g:Int->Int->Bool}(h:bZ X (compareOp op) (gw fun i j=>.bl (g i j))):hU X op (.int a) (.int b) (g a b):=fun P P' pins s σ H v u xv yu Q I rx ry ⟨h1,h2,q⟩=>by
 rw[ag]at h1 h2;subst h1 h2
 exact h pins s σ H _ _ xv yu Q I rx ry ⟨a,b,rfl,rfl,q⟩
theorem BX(h:SeqAt.shaped (D.tup l).py=true):PyData.canLayAll0 (fX l)=true:=by
 have:=SeqAt.canLay_of_shaped h
 rw[D.py]at this
 simpa [PyData.canLay0]using this
theorem tS{x:D}(hu:X.A.units+70<cLine)(h:uS x l=.ok r o)(hp:aA o):hU X .In x (.tup l) r/\hU X .In x (.lst l) r/\hU X .NotIn x (.tup l) (!r)/\hU X .NotIn x (.lst l) (!r):=by
 unfold uS at h
 cases h
 ·have c:=hp.1
  unfold gj at c
  rw[Bool.and_eq_true]at c
  have c1:=BX c.1
  have c2:=SeqAt.canLay_of_shaped c.2
  have dx:=SeqAt.depth_of_shaped c.2
  have hm:min (PyData.depthAll (fX l)) x.py.depth<=64:=Nat.le_trans (Nat.min_le_right _ _) dx
  have ct:(D.tup l).py.canLay0=true:=SeqAt.canLay_of_shaped c.1
  have cl:(D.lst l).py.canLay0=true:=by rw[D.py];simpa [PyData.canLay0]using c1
  have et:(D.tup l).py=.tuple (fX l):=by rw[D.py]
  have el:(D.lst l).py=.list (fX l):=by rw[D.py]
  refine⟨?_,?_,?_,?_⟩<;>intro P P' pins s σ H v u xv yu Q I rx ry ⟨h1,h2,q⟩<;>obtain⟨as,r1⟩:=c5 I c2 h1 rx
  ·obtain⟨bs,r2⟩:=c5 I ct h2 ry
   rw[et]at r2
   exact SeqAt.in_tuple_reads r2 r1 c1 c2 (by omega) ⟨.bl _,H,I,rfl,by rw[jQ];exact q⟩
  ·obtain⟨bs,r2⟩:=c5 I cl h2 ry
   rw[el]at r2
   exact SeqAt.in_list_reads r2 r1 c1 c2 (by omega) ⟨.bl _,H,I,rfl,by rw[jQ];exact q⟩
  ·obtain⟨bs,r2⟩:=c5 I ct h2 ry
   rw[et]at r2
   exact SeqAt.notIn_tuple_reads r2 r1 c1 c2 (by omega) ⟨.bl _,H,I,rfl,by rw[jQ];exact q⟩
  ·obtain⟨bs,r2⟩:=c5 I cl h2 ry
   rw[el]at r2
   exact SeqAt.notIn_list_reads r2 r1 c1 c2 (by omega) ⟨.bl _,H,I,rfl,by rw[jQ];exact q⟩
theorem EK{r:Rs Bool}(h:r.nt=.ok b o):r=.ok (!b) o:=by
 cases r with
 | st=>cases h
 | ok c l=>cases h;simp
theorem tO{P:aZ}{x:D}(h:ag X.K H P x v):decide (v=.non)=x.isNon:=by
 cases x with
 | non=>rw[ag]at h;subst h;rfl
 | bl _=>rw[ag]at h;subst h;rfl
 | int _=>rw[ag]at h;subst h;rfl
 | str _=>rw[ag]at h;subst h;rfl
 | dct _ _=>rw[ag]at h;obtain⟨_,_,a,_,rfl,_⟩:=h;rfl
 | typ _=>rw[ag]at h;subst h;rfl
 | sn _=>rw[ag]at h;obtain⟨a,_,rfl,_⟩:=h;rfl
 | obj _ _ _=>rw[ag]at h;obtain⟨_,_,a,_,_,_,rfl,_⟩:=h;rfl
 | cls _=>rw[ag]at h;obtain⟨_,_,rfl,_⟩:=h;rfl
 | tup _=>rw[ag]at h;obtain⟨a,_,rfl,_⟩:=h;rfl
 | lst _=>rw[ag]at h;obtain⟨a,_,_,rfl,_⟩:=h;rfl
theorem fW(h:fL d=some l):d=.tup l\/d=.lst l:=by
 unfold fL at h
 split at h
 ·cases h;exact .inl rfl
 ·cases h;exact .inr rfl
 ·cases h
theorem CH{a b:Int}(h:ff op a b=some r):hU X op (.int a) (.int b) r:=by
 unfold ff at h
 split at h
 ·cases h;exact km HH
 ·cases h;exact km HI
 ·cases h;exact km HJ
 ·cases h;exact km HK
 ·cases h
theorem En{x:D}(hu:X.A.units+70<cLine)(h:uK op x y=some r):hU X op x y r:=by
 unfold uK at h
 split at h
 ·exact CH h
 ·cases h
theorem Ax(b c:Bool):(Value.bool b==Value.bool c)=(b==c):=by cases b<;>cases c<;>rfl
theorem yx{P:aZ}{k:bS}(e:Fe d=some k)(h:ag X.K H P d v):v=kV k:=by
 cases d<;>first|(cases e;done)|(rw[ag]at h;subst h;injection e with e;subst e;rfl)
theorem AT{k:bS}:∀{vs:List V},ks.length=vs.length->((ks.zip vs).any fun p=>decide (p.1=k))=jM ks k:=by
 induction ks with
 | nil=>intro vs _;rfl
 | cons j ks ih =>
  intro vs h
  cases vs with
  | nil=>cases h
  | cons v vs =>
   show(decide (j=k) || (ks.zip vs).any _)=(decide (j=k) || jM ks k)
   rw[ih (by simpa using h)]
theorem Am{x:D}(hu:X.A.units+70<cLine)(h:An x y=.ok r o)(hp:aA o):hU X .In x y r/\hU X .NotIn x y (!r):=by
 unfold An at h
 split at h
 ·have m:=tS hu h hp;exact⟨m.1,m.2.2.1⟩
 ·have m:=tS hu h hp;exact⟨m.2.1,m.2.2.2⟩
 ·cases h
 ·rename_i b
  split at h
  ·rename_i a
   cases h
   refine⟨?_,?_⟩<;>intro P P' pins s σ H v u xv yu Q I rx ry ⟨h1,h2,q⟩<;>(rw[ag]at h1 h2;subst h1 h2;obtain⟨t,rfl⟩:=rx;obtain⟨t',rfl⟩:=ry)
   ·exact SB.contains ⟨.bl _,H,I,rfl,q⟩
   ·exact SB.notContains ⟨.bl _,H,I,rfl,q⟩
  ·cases h
 ·cases h
theorem ip{x:D}(hu:X.A.units+70<cLine)(h:gZ op x y=.ok r o)(hp:aA o):hU X op x y r:=by
 unfold gZ at h
 split at h
 ·cases h
  have c:=hp.1
  unfold gj at c
  rw[Bool.and_eq_true]at c
  intro P P' pins s σ H v u xv yu Q I rx ry ⟨h1,h2,q⟩
  obtain⟨as,r1⟩:=c5 I (SeqAt.canLay_of_shaped c.1) h1 rx
  obtain⟨bs,r2⟩:=c5 I (SeqAt.canLay_of_shaped c.2) h2 ry
  exact eq_dataH r1 r2 c.1 c.2 (by omega) ⟨.bl _,H,I,rfl,q⟩
 ·cases h
  have c:=hp.1
  unfold gj at c
  rw[Bool.and_eq_true]at c
  intro P P' pins s σ H v u xv yu Q I rx ry ⟨h1,h2,q⟩
  obtain⟨as,r1⟩:=c5 I (SeqAt.canLay_of_shaped c.1) h1 rx
  obtain⟨bs,r2⟩:=c5 I (SeqAt.canLay_of_shaped c.2) h2 ry
  exact ne_dataH r1 r2 c.1 c.2 (by omega) ⟨.bl _,H,I,rfl,q⟩
 ·exact(Am hu h hp).1
 ·have:=(Am hu (EK h) hp).2;rw[Bool.not_not]at this;exact this
 ·split at h
  ·cases h
   intro P P' pins s σ H v u xv yu Q I rx ry ⟨h1,h2,q⟩
   rw[ag]at h2
   subst h2
   exact Er pins s σ H v _ xv yu Q I rx ry ⟨rfl,by rw[tO h1];exact q⟩
  ·split at h
   ·cases h
    intro P P' pins s σ H v u xv yu Q I rx ry ⟨h1,h2,q⟩
    rw[ag]at h1 h2
    subst h1 h2
    cases rx
    cases ry
    exact wpAny_is_plain rfl ⟨.bl _,H,I,rfl,by rw[Ax];exact q⟩
   ·cases h
  ·cases h
 ·split at h
  ·cases h
   intro P P' pins s σ H v u xv yu Q I rx ry ⟨h1,h2,q⟩
   rw[ag]at h2
   subst h2
   refine BF pins s σ H v _ xv yu Q I rx ry ⟨rfl,?_⟩
   rw[tO h1]
   exact q
  ·split at h
   ·cases h
    intro P P' pins s σ H v u xv yu Q I rx ry ⟨h1,h2,q⟩
    rw[ag]at h1 h2
    subst h1 h2
    cases rx
    cases ry
    exact wpAny_isNot_plain rfl ⟨.bl _,H,I,rfl,by rw[Ax];exact q⟩
   ·cases h
  ·cases h
 ·cases e:uK op x y with
  | none=>rw[e]at h;cases h
  | some b=>rw[e]at h;cases h;exact En hu e
variable{X:Cx}
theorem tW(K:W.Frag){t:Value}:W.kitOne K t t=some true:=by unfold W.kitOne;rw[if_pos (beq_self_eq_true t)]
def D.ty:D->String
 | .non => "NoneType"
 | .bl _ => "bool"
 | .int _ => "int"
 | .str _ => "str"
 | .dct _ _ => "dict"
 | .tup _ => "tuple"
 | .lst _ => "list"
 | .typ _ => "type"
 | .sn _ => "set"
 | .obj _ _ _ => "object"
 | .cls _ => "type"
def D.plain:D->Bool
 | .typ _=>false
 | .sn _=>false
 | .obj _ _ _=>false
 | .cls _=>false
 | _=>true
theorem Fs{x:D}{c:String}(hpl:x.plain=true)(e:∀K,W.kitOne K (.type x.ty) (.type c)=some b){u:Value}{P:aZ}
  (I:aj X pins σ H s) (h:ag X.K H P x v) (r:aT v u) (q:∀tk,Q (.bool b) { s with toks:=tk }):wpAny (model X.prog X.w) X.A (call (.builtin "isinstance") [u,.type c]) Q E s:=by
 have e:=e X.K
 cases x with
 | non=>rw[ag]at h;subst h;cases (show u=Value.none from r);exact W.kia_one W.kitx_none I.kIn True.intro e (fun z=>nomatch z) q
 | bl y=>rw[ag]at h;subst h;cases (show u=Value.bool y from r);exact W.kia_one W.kitx_bool I.kIn True.intro e (fun z=>nomatch z) q
 | int i=>rw[ag]at h;subst h;obtain⟨t,z⟩:=(show ∃t,u=Value.int i t from r);cases z;exact W.kia_one W.kitx_int I.kIn True.intro e (fun z=>nomatch z) q
 | str y=>rw[ag]at h;subst h;obtain⟨t,z⟩:=(show ∃t,u=Value.str y t from r);cases z;exact W.kia_one W.kitx_str I.kIn True.intro e (fun z=>nomatch z) q
 | dct ks ds =>
  rw[ag]at h
  obtain⟨_,_,a,vs,rfl,ea,_⟩:=h
  cases (show u=Value.ref a from r)
  obtain⟨_,_,vs,_,p⟩:=(show bM X.prog X.w H s.heap a (.dK _)from I.hok a _ ea)
  obtain⟨o,es,ep,h1,h2,_⟩:=p
  exact W.kia_one W.kitx_dict I.kIn ⟨o,h1,h2.1⟩ e (fun z=>nomatch z) q
 | typ _=>cases hpl
 | sn _=>cases hpl
 | obj _ _ _=>cases hpl
 | cls _=>cases hpl
 | tup l =>
  rw[ag]at h
  obtain⟨a,vs,rfl,ea,_⟩:=h
  cases (show u=Value.ref a from r)
  obtain⟨_,_,⟨o,h1,h2,_⟩,_⟩:=I.tuple ea
  exact W.kia_one W.kitx_tuple I.kIn ⟨o,h1,h2⟩ e (fun z=>nomatch z) q
 | lst l =>
  obtain⟨a,vs,rfl,ea,_⟩:=yr (pins:=pins) (σ:=σ) (s:=s) h
  cases (show u=Value.ref a from r)
  obtain⟨_,_,⟨o,n,h1,h2,_⟩,_⟩:=I.list ea
  exact W.kia_one W.kitx_list I.kIn ⟨o,h1,h2⟩ e (fun z=>nomatch z) q
theorem kt(K:W.Frag)(a b:String)(r:Bool)(h:(a==b)=false)(h2:W.kitCls K (.type a) (.type b)=some r):W.kitOne K (.type a) (.type b)=some r:=by
 unfold W.kitOne
 rw[if_neg (by
  intro z
  have:a=b:=by simpa using z
  subst this
  simp at h)]
 exact h2
theorem B1:∀a∈["NoneType", "bool", "int", "str", "dict", "tuple", "list"],∀T∈jX,(a==T)=false->∀K,W.kitCls K (.type a) (.type T)=some (decide (a = "bool" /\ T = "int")):=by
 intro a ha T hT
 simp only[List.mem_cons,List.not_mem_nil,or_false,jX]at ha hT
 rcases ha with rfl|rfl|rfl|rfl|rfl|rfl|rfl<;>rcases hT with rfl|rfl|rfl|rfl|rfl|rfl<;>intro h K<;>first|(exact absurd h (by decide))|kernel_rfl
theorem Ft{x:D}(h:Fu x T=some b)(hT:T∈jX):x.plain=true/\∀K,W.kitOne K (.type x.ty) (.type T)=some b:=by
 have key:∀(a:String),a∈["NoneType", "bool", "int", "str", "dict", "tuple", "list"]->∀K,W.kitOne K (.type a) (.type T)=some (decide (a=T) || decide (a = "bool" /\ T = "int")):=fun a ha K=>by
  by_cases e:a=T
  ·subst e;rw[tW];simp
  ·have e':(a==T)=false:=by simpa using e
   rw[kt K a T _ e' (B1 a ha T hT e' K)];simp[e]
 unfold Fu at h
 cases hx:x.ty0 with
 | none=>rw[hx]at h;cases h
 | some a =>
  rw[hx]at h
  cases h
  have hp:x.plain=true/\x.ty=a/\a∈["NoneType", "bool", "int", "str", "dict", "tuple", "list"]:=by
   cases x<;>cases hx<;>exact⟨rfl,rfl,by decide⟩
  refine⟨hp.1,fun K=>?_⟩
  rw[hp.2.1]
  exact key a hp.2.2 K
def i7(X:Cx)(f:Value)(ds:List D)(z:D)(l:Nat):Prop :=
 ∃r:List V->Hp->VK->Prop,cK X f r/\∀ow H0 H2 vs (P:aZ) (Q:VK),ef ow H0->av H0 H2->af X.K H2 P ds vs->(∀w H',av H2 H'->ag X.K H' (Kp ow H0 l) z w->Q w H')->r vs H2 Q
theorem af.only{P:aZ}(h:af K H P [d] vs):∃v,vs=[v]/\ag K H P d v:=by
 rw[af]at h
 obtain⟨v,r,rfl,h1,h2⟩:=h
 rw[af]at h2;subst h2
 exact⟨v,rfl,h1⟩
theorem fK{P:aZ}(h:ag X.K H P (.lst l) v):∃a vs,v=.ref a/\bL X.K H a vs/\af X.K H P l vs:=by
 rw[ag]at h
 obtain⟨a,vs,b,rfl,h,_,q⟩:=h
 exact⟨a,vs,rfl,h.sq,q⟩
theorem eh{P:aZ}(h:ag X.K H P (.tup l) v):∃a vs,v=.ref a/\cw X.K H a vs/\af X.K H P l vs:=by
 rw[ag]at h;exact h
theorem wu:i7 X (.builtin "len") [.tup l] (.int l.length) 0/\i7 X (.builtin "len") [.lst l] (.int l.length) 0:=by
 constructor
 ·refine⟨_,jP,fun ow H0 H2 vs P Q o s rx q=>?_⟩
  obtain⟨v,rfl,ry⟩:=rx.only
  obtain⟨a,ws,rfl,hs,rl⟩:=eh ry
  exact⟨a,ws,rfl,.inr hs,by rw[<- rl.length];exact q _ _ (av.refl _) (by rw[ag])⟩
 ·refine⟨_,jP,fun ow H0 H2 vs P Q o s rx q=>?_⟩
  obtain⟨v,rfl,ry⟩:=rx.only
  obtain⟨a,ws,rfl,hs,rl⟩:=fK ry
  exact⟨a,ws,rfl,.inl hs,by rw[<- rl.length];exact q _ _ (av.refl _) (by rw[ag])⟩
theorem pP(f:ao l=true):i7 X (.type "tuple") [.lst l] (.tup l) 0/\i7 X (.type "tuple") [.tup l] (.tup l) 0:=by
 constructor
 ·refine⟨_,jc,fun ow H0 H2 vs P Q o s rx q=>?_⟩
  obtain⟨v,rfl,ry⟩:=rx.only
  obtain⟨a,ws,rfl,hs,rl⟩:=fK ry
  refine⟨a,ws,rfl,.inl ⟨hs,fun p hp=>?_⟩⟩
  have sm:=cj (o:=HO.tup ws) hp
  refine q _ _ sm ?_
  rw[ag]
  exact⟨p,ws,rfl,cw.of aD,(rl.flat _ f).same sm⟩
 ·refine⟨_,jc,fun ow H0 H2 vs P Q o s rx q=>?_⟩
  obtain⟨v,rfl,ry⟩:=rx.only
  obtain⟨a,ws,rfl,hs,rl⟩:=eh ry
  refine⟨a,ws,rfl,.inr ⟨hs,q _ _ (av.refl _) ?_⟩⟩
  rw[ag]
  exact⟨a,ws,rfl,hs,rl.flat _ f⟩
theorem G8{i:Int}:i7 X (.builtin "abs") [.int i] (.int (if i<0 then -i else i)) 0:=by
 refine⟨_,y8,fun ow H0 H2 vs P Q o s rx q=>?_⟩
 obtain⟨v,rfl,ry⟩:=rx.only
 rw[ag]at ry;subst ry
 exact⟨i,rfl,q _ _ (av.refl _) (by rw[ag])⟩
theorem af.mapBl{K:W.Frag}{P:aZ}{H:Hp}:∀{ns:List Bool} {vs:List V},af K H P (ns.map D.bl) vs->vs=ns.map V.bl
 | [],vs,h=>by rw[List.map_nil,af]at h;exact h
 | n::ns,vs,h=>by
  rw[List.map_cons,af]at h
  obtain⟨v,r,rfl,h1,h2⟩:=h
  rw[ag]at h1
  rw[h1,af.mapBl h2];rfl
theorem mX:∀{bs:List Bool} {us:List Value},aG (bs.map V.bl) us->us=bs.map Value.bool
 | [],us,h=>by cases h;rfl
 | b::bs,us,h=>by
  cases h with
  | cons h1 h2=>rw[show _=Value.bool b from h1,mX h2];rfl
theorem xp(hc:X.calm=true):cK X (.builtin "all") (fun xs H Q => ∃(p:Addr) (bs:List Bool),xs=[.ref p]/\bL X.K H p (bs.map V.bl)/\Q (.bl (bs.all id)) H):=by
 intro pins s σ H xs us Q I r h
 obtain⟨p,bs,rfl,hq,q⟩:=h
 obtain⟨u,rfl,rx⟩:=cy r
 cases rx
 obtain⟨its,rv,pl,hz⟩:=I.list hq
 have ei:=mX rv
 subst ei
 have hl:=pl.isList
 have hlt:p<s.heap.objs.size:=by obtain⟨_,e,_⟩:=hl;exact Heap.lt_size e
 refine call_all_walk (wpAny_pyIter_list hl ?_)
 refine⟨_,_,_,_,_,_,fun i=>bs.getD i true,rfl,Walks.list (A:=X.A.in1) (by exact I.ok.hd hc) _ p (Nat.ne_of_lt hlt) (bs.map Value.bool).toArray,⟨⟨_,Heap.get?_push_size _ rfl,rfl,rfl⟩,hl.push _⟩,?_,fun h' tk hk=>?_⟩
 ·intro i v s' Q' E' hP hQ
  have hP:((bs.map Value.bool).toArray)[i]?=some v:=hP
  simp only[List.getElem?_toArray,List.getElem?_map]at hP
  cases e:bs[i]? with
  | none=>rw[e]at hP;cases hP
  | some b =>
   rw[e]at hP;cases hP
   refine wpAny_truthy_bool ?_
   have:bs.getD i true=b:=by rw[List.getD_eq_getElem?_getD,e];rfl
   rw[<- this];exact hQ
 ·have:((List.range (bs.map Value.bool).toArray.size).all fun i=>bs.getD i true)=bs.all id:=by
   simp only[List.size_toArray,List.length_map]
   rw[Bool.eq_iff_iff,List.all_eq_true,List.all_eq_true]
   constructor
   ·intro h x hx
    obtain⟨i,hi,rfl⟩:=List.mem_iff_getElem.mp hx
    have:=h i (List.mem_range.mpr hi)
    rw[List.getD_eq_getElem?_getD,List.getElem?_eq_getElem hi]at this
    exact this
   ·intro h i hi
    have hi:=List.mem_range.mp hi
    rw[List.getD_eq_getElem?_getD,List.getElem?_eq_getElem hi]
    exact h _ (List.getElem_mem hi)
  rw[this]
  refine⟨.bl _,H,I.kept (fun b o e=>hk b o (fun hm=>?_) (Heap.get?_push_of_some _ e)),rfl,q⟩
  have hb:b=s.heap.objs.size:=by simpa using hm
  subst hb
  exact absurd (Heap.lt_size e) (Nat.lt_irrefl _)
theorem xo(hc:X.calm=true):cK X (.builtin "any") (fun xs H Q => ∃(p:Addr) (ns:List Int),xs=[.ref p]/\bL X.K H p (ns.map V.int)/\Q (.bl (ns.any fun n=>n != 0)) H):=by
 intro pins s σ H xs us Q I r h
 obtain⟨p,ns,rfl,hq,q⟩:=h
 obtain⟨u,rfl,rx⟩:=cy r
 cases rx
 obtain⟨its,rv,pl,hz⟩:=I.list hq
 have hlen:its.length=ns.length:=by have:=rv.length;simpa using this.symm
 have hl:=pl.isList
 have hlt:p<s.heap.objs.size:=by obtain⟨_,e,_⟩:=hl;exact Heap.lt_size e
 refine call_any_walk (wpAny_pyIter_list hl ?_)
 refine⟨_,_,_,_,_,_,fun i=>(ns.getD i 0 != 0),rfl,Walks.list (A:=X.A.in1) (by exact I.ok.hd hc) _ p (Nat.ne_of_lt hlt) its.toArray,⟨⟨_,Heap.get?_push_size _ rfl,rfl,rfl⟩,hl.push _⟩,?_,fun h' tk hk=>?_⟩
 ·intro i v s' Q' E' hP hQ
  have hP:(its.toArray)[i]?=some v:=hP
  simp only[List.getElem?_toArray]at hP
  have hi:i<ns.length:=by rw[<- hlen];exact(List.getElem?_eq_some_iff.mp hP).1
  obtain⟨w,hw,rw'⟩:=rv.get (i:=i) (x:=V.int ns[i]) (by simp[hi])
  rw[hP]at hw;cases hw
  obtain⟨t,rfl⟩:=rw'
  refine PyProof.Rows.truthy_int ?_
  have:ns.getD i 0=ns[i]:=by rw[List.getD_eq_getElem?_getD,List.getElem?_eq_getElem hi];rfl
  rw[<- this];exact hQ
 ·have:((List.range its.toArray.size).any fun i=>(ns.getD i 0 != 0))=ns.any fun n=>n != 0:=by
   simp only[List.size_toArray,hlen]
   rw[Bool.eq_iff_iff,List.any_eq_true,List.any_eq_true]
   constructor
   ·rintro⟨i,hi,h⟩
    have hi:=List.mem_range.mp hi
    rw[List.getD_eq_getElem?_getD,List.getElem?_eq_getElem hi]at h
    exact⟨_,List.getElem_mem hi,h⟩
   ·rintro⟨x,hx,h⟩
    obtain⟨i,hi,rfl⟩:=List.mem_iff_getElem.mp hx
    exact⟨i,List.mem_range.mpr hi,by rw[List.getD_eq_getElem?_getD,List.getElem?_eq_getElem hi];exact h⟩
  rw[this]
  refine⟨.bl _,H,I.kept (fun b o e=>hk b o (fun hm=>?_) (Heap.get?_push_of_some _ e)),rfl,q⟩
  have hb:b=s.heap.objs.size:=by simpa using hm
  subst hb
  exact absurd (Heap.lt_size e) (Nat.lt_irrefl _)
theorem xn(hc:X.calm=true):cK X (.builtin "any") (fun xs H Q => ∃(p:Addr) (bs:List Bool),xs=[.ref p]/\bL X.K H p (bs.map V.bl)/\Q (.bl (bs.any id)) H):=by
 intro pins s σ H xs us Q I r h
 obtain⟨p,bs,rfl,hq,q⟩:=h
 obtain⟨u,rfl,rx⟩:=cy r
 cases rx
 obtain⟨its,rv,pl,hz⟩:=I.list hq
 have ei:=mX rv
 subst ei
 have hl:=pl.isList
 have hlt:p<s.heap.objs.size:=by obtain⟨_,e,_⟩:=hl;exact Heap.lt_size e
 refine call_any_walk (wpAny_pyIter_list hl ?_)
 refine⟨_,_,_,_,_,_,fun i=>bs.getD i false,rfl,Walks.list (A:=X.A.in1) (by exact I.ok.hd hc) _ p (Nat.ne_of_lt hlt) (bs.map Value.bool).toArray,⟨⟨_,Heap.get?_push_size _ rfl,rfl,rfl⟩,hl.push _⟩,?_,fun h' tk hk=>?_⟩
 ·intro i v s' Q' E' hP hQ
  have hP:((bs.map Value.bool).toArray)[i]?=some v:=hP
  simp only[List.getElem?_toArray,List.getElem?_map]at hP
  cases e:bs[i]? with
  | none=>rw[e]at hP;cases hP
  | some b =>
   rw[e]at hP;cases hP
   refine wpAny_truthy_bool ?_
   have:bs.getD i false=b:=by rw[List.getD_eq_getElem?_getD,e];rfl
   rw[<- this];exact hQ
 ·have:((List.range (bs.map Value.bool).toArray.size).any fun i=>bs.getD i false)=bs.any id:=by
   simp only[List.size_toArray,List.length_map]
   rw[Bool.eq_iff_iff,List.any_eq_true,List.any_eq_true]
   constructor
   ·rintro⟨i,hi,h⟩
    have hi:=List.mem_range.mp hi
    rw[List.getD_eq_getElem?_getD,List.getElem?_eq_getElem hi]at h
    exact⟨_,List.getElem_mem hi,h⟩
   ·rintro⟨x,hx,h⟩
    obtain⟨i,hi,rfl⟩:=List.mem_iff_getElem.mp hx
    exact⟨i,List.mem_range.mpr hi,by rw[List.getD_eq_getElem?_getD,List.getElem?_eq_getElem hi];exact h⟩
  rw[this]
  refine⟨.bl _,H,I.kept (fun b o e=>hk b o (fun hm=>?_) (Heap.get?_push_of_some _ e)),rfl,q⟩
  have hb:b=s.heap.objs.size:=by simpa using hm
  subst hb
  exact absurd (Heap.lt_size e) (Nat.lt_irrefl _)
theorem xk:cK X (.builtin "len") (fun xs H Q => ∃(p:Addr) (S:Int->Bool) (n:Nat),xs=[.ref p]/\H p=some (.set S n)/\Q (.int n) H):=by
 intro pins s σ H xs us Q I r h
 obtain⟨p,S,n,rfl,hp,q⟩:=h
 obtain⟨u,rfl,rx⟩:=cy r
 cases rx
 obtain⟨o,es,ep,t,h1,h2,h3,_,_,h4,h5,rfl⟩:=(show s.heap.SetOf (intKind X.prog X.w) p S n from I.hok p _ hp)
 exact call_len_set h1 h2 h3 h5 (by unfold scanBound at h4;omega) ⟨.int _,H,I.tok _,⟨_,rfl⟩,q⟩
def dg(f:Str)(B:List D->R1):Prop:=f∈fE/\f ≠ "__name__" /\ (f==("__debug__" : Str))=false/\(B []=.st)/\∀(X:Cx) (ds:List D) (z:D) (l:Nat) (o:List Prop),X.calm=true->B ds=.ok (z,l) o->aA o ->
 ((∃id,bootBuiltins f=some (.builtin id)/\i7 X (.builtin id) ds z l)\/∃T,bootBuiltins f=some (.type T)/\i7 X (.type T) ds z l)
theorem CQ:dg "len" zf:=by
 refine⟨by decide +kernel,by decide +kernel,by decide +kernel,rfl,fun X ds z l o hc h _=>.inl ⟨"len", by decide +kernel,?_⟩⟩
 unfold zf at h
 split at h
 ·cases h
  refine⟨_,xk,fun ow H0 H2 vs P Q o s rx q=>?_⟩
  obtain⟨v,rfl,ry⟩:=rx.only
  rw[ag]at ry
  obtain⟨a,S,rfl,ha⟩:=ry
  exact⟨a,S,_,rfl,ha,q _ _ (av.refl _) (by rw[ag])⟩
 ·split at h
  ·rename_i m e
   cases h
   rcases fW e with rfl|rfl
   ·exact wu.1
   ·exact wu.2
  ·cases h
 ·cases h
theorem xu:dg "tuple" rR:=by
 refine⟨by decide +kernel,by decide +kernel,by decide +kernel,rfl,fun X ds z l o hc h hp=>.inr ⟨"tuple", by decide +kernel,?_⟩⟩
 unfold rR at h
 split at h
 ·split at h
  ·rename_i m e
   cases h
   have c:=hp.1
   rcases fW e with rfl|rfl
   ·exact(pP c).2
   ·exact(pP c).1
  ·cases h
 ·cases h
theorem CW:dg "abs" zl:=by
 refine⟨by decide +kernel,by decide +kernel,by decide +kernel,rfl,fun X ds z l o hc h _=>.inl ⟨"abs", by decide +kernel,?_⟩⟩
 unfold zl at h
 split at h
 ·cases h;exact G8
 ·cases h
theorem CV:dg "all" oa:=by
 refine⟨by decide +kernel,by decide +kernel,by decide +kernel,rfl,fun X ds z l o hc h _=>.inl ⟨"all", by decide +kernel,?_⟩⟩
 unfold oa at h
 split at h
 ·split at h
  ·rename_i bs e
   cases h
   cases iX e
   refine⟨_,xp hc,fun ow H0 H2 vs P Q o s rx q=>?_⟩
   obtain⟨v,rfl,ry⟩:=rx.only
   obtain⟨a,ws,rfl,hs,rl⟩:=fK ry
   exact⟨a,bs,rfl,by rw[<- rl.mapBl];exact hs,q _ _ (av.refl _) (by rw[ag])⟩
  ·cases h
 ·cases h
theorem CU:dg "any" zk:=by
 refine⟨by decide +kernel,by decide +kernel,by decide +kernel,rfl,fun X ds z l o hc h _=>.inl ⟨"any", by decide +kernel,?_⟩⟩
 unfold zk at h
 split at h
 ·split at h
  ·rename_i ns e
   cases h
   cases jJ e
   refine⟨_,xo hc,fun ow H0 H2 vs P Q o s rx q=>?_⟩
   obtain⟨v,rfl,ry⟩:=rx.only
   obtain⟨a,ws,rfl,hs,rl⟩:=fK ry
   exact⟨a,ns,rfl,by rw[<- rl.mapInt];exact hs,q _ _ (av.refl _) (by rw[ag])⟩
  ·split at h
   ·rename_i bs e
    cases h
    cases iX e
    refine⟨_,xn hc,fun ow H0 H2 vs P Q o s rx q=>?_⟩
    obtain⟨v,rfl,ry⟩:=rx.only
    obtain⟨a,ws,rfl,hs,rl⟩:=fK ry
    exact⟨a,bs,rfl,by rw[<- rl.mapBl];exact hs,q _ _ (av.refl _) (by rw[ag])⟩
   ·cases h
 ·cases h
theorem B3(b:Bool):(if b=true then(1:Int)else 0)=cond b 1 0:=by cases b<;>rfl
theorem CT:dg "int" zi:=by
 refine⟨by decide +kernel,by decide +kernel,by decide +kernel,rfl,fun X ds z l o hc h hp=>.inr ⟨"int", by decide +kernel,?_⟩⟩
 unfold zi at h
 split at h
 ·cases h
  refine⟨_,oQ,fun ow H0 H2 vs P Q o s rx q=>?_⟩
  obtain⟨v,rfl,ry⟩:=rx.only
  rw[ag]at ry;subst ry
  exact .inl ⟨_,rfl,q _ _ (av.refl _) (by rw[ag])⟩
 ·cases h
  refine⟨_,oQ,fun ow H0 H2 vs P Q o s rx q=>?_⟩
  obtain⟨v,rfl,ry⟩:=rx.only
  rw[ag]at ry;subst ry
  exact .inr ⟨_,rfl,q _ _ (av.refl _) (by rw[ag,B3])⟩
 ·cases h
theorem CO:dg "str" zc:=by
 refine⟨by decide +kernel,by decide +kernel,by decide +kernel,rfl,fun X ds z l o hc h hp=>.inr ⟨"str", by decide +kernel,?_⟩⟩
 unfold zc at h
 split at h
 ·rename_i i
  cases h
  refine⟨_,rN,fun ow H0 H2 vs P Q o s rx q=>?_⟩
  obtain⟨v,rfl,ry⟩:=rx.only
  rw[ag]at ry;subst ry
  refine⟨_,rfl,?_,q _ _ (av.refl _) (by rw[ag])⟩
  rcases Nat.eq_zero_or_pos i.natAbs with z|z
  ·rw[z];decide
  ·exact Nat.lt_of_lt_of_le ((Nat.log2_lt (Nat.ne_of_gt z)).mpr hp.1) (by decide)
 ·cases h
theorem CS:dg "isinstance" zg:=by
 refine⟨by decide +kernel,by decide +kernel,by decide +kernel,rfl,fun X ds z l o hc h _=>.inl ⟨"isinstance", by decide +kernel,?_⟩⟩
 unfold zg at h
 split at h
 ·rename_i m ns es n
  split at h
  ·rename_i hmn
   subst hmn
   cases h
   have cr:cK X (.builtin "isinstance") (fun xs H Q => ∃a C dx fs,xs=[.ref a,.ref C]/\H a=some (.ins C dx fs)/\dQ X.K C/\mU X.K C/\Q (.bl true) H):=by
    intro pins s σ H xs us Q I r hh
    obtain⟨a,C,dx,fs,rfl,ea,hc,ho,q⟩:=hh
    obtain⟨u,u2,rfl,ru,ru2⟩:=pd r
    cases (show u2=Value.ref C from ru2)
    exact oM I ru (.ins ea hc ho.ha ho.hn ho.ht ho.hm) (tW _) fun tk=>⟨.bl true,H,I.tok tk,rfl,q⟩
   refine⟨_,cr,fun ow H0 H2 vs P Q o s rx q=>?_⟩
   rw[af]at rx
   obtain⟨v,r,rfl,r1,r2⟩:=rx
   obtain⟨w,rfl,r3⟩:=r2.only
   rw[ag]at r1
   rw[ag]at r3
   obtain⟨_,_,a,C,dx,vs,rfl,h1,h2,h3,_⟩:=r1
   obtain⟨C',o',rfl,h4,_,_,h5,_⟩:=r3
   rw[h1]at h4;cases h4
   exact⟨a,C,dx,_,rfl,h3,h2,h5,q _ _ (av.refl _) (by rw[ag])⟩
  ·split at h
   ·rename_i hmn
    cases h
    have cr:cK X (.builtin "isinstance") (fun xs H Q => ∃a C C' dx fs,xs=[.ref a,.ref C']/\H a=some (.ins C dx fs)/\dQ X.K C/\mU X.K C/\W.kitOne X.K (.ref C) (.ref C')=some (dR m n)/\Q (.bl (dR m n)) H):=by
     intro pins s σ H xs us Q I r hh
     obtain⟨a,C,C',dx,fs,rfl,ea,hc,ho,hk,q⟩:=hh
     obtain⟨u,u2,rfl,ru,ru2⟩:=pd r
     cases (show u2=Value.ref C' from ru2)
     exact oM I ru (.ins ea hc ho.ha ho.hn ho.ht ho.hm) hk fun tk=>⟨.bl (dR m n),H,I.tok tk,rfl,q⟩
    refine⟨_,cr,fun ow H0 H2 vs P Q o s rx q=>?_⟩
    rw[af]at rx
    obtain⟨v,r,rfl,r1,r2⟩:=rx
    obtain⟨w,rfl,r3⟩:=r2.only
    rw[ag]at r1
    rw[ag]at r3
    obtain⟨_,_,a,C,dx,vs,rfl,h1,h2,h3,_⟩:=r1
    obtain⟨C',o',rfl,_,_,_,_,h5⟩:=r3
    obtain⟨h6,h7⟩:=h5.all m hmn C h1
    exact⟨a,C,C',dx,_,rfl,h3,h2,h6,h7,q _ _ (av.refl _) (by rw[ag])⟩
   ·cases h
 ·rename_i x T
  split at h
  ·rename_i hT
   split at h
   ·rename_i b hb
    cases h
    obtain⟨h1,h2⟩:=Ft hb hT
    have cr:cK X (.builtin "isinstance") (fun xs H Q => ∃v P,xs=[v,.ty T]/\ag X.K H P x v/\Q (.bl b) H):=by
     intro pins s σ H xs us Q I r hh
     obtain⟨v,P,rfl,rp,q⟩:=hh
     obtain⟨u,u2,rfl,ru,ru2⟩:=pd r
     cases (show u2=Value.type T from ru2)
     exact Fs h1 h2 I rp ru fun tk=>⟨.bl b,H,I.tok tk,rfl,q⟩
    refine⟨_,cr,fun ow H0 H2 vs P Q o s rx q=>?_⟩
    rw[af]at rx
    obtain⟨v,r,rfl,r1,r2⟩:=rx
    obtain⟨w,rfl,r3⟩:=r2.only
    rw[ag]at r3;subst r3
    exact⟨v,P,rfl,r1,q _ _ (av.refl _) (by rw[ag])⟩
   ·cases h
  ·cases h
 ·cases h
def jo(K:W.Frag)(F:List D->Rs D):Sp:=fun vs H Q _ => ∃ds r l,af K H (fun _ _=>True) ds vs/\F ds=.ok r l/\aA l/\∀v H',av H H'->ag K H' (fun a b=>b=true/\H a=none) r v->Q v H'
def AH(X:Cx)(g:Str)(F:List D->Rs D):Prop:=∃k f fd ps,bF X.prog X.w X.K X.mg X.base df k f fd ps (jo X.K F)/\bP k X.A/\X.mg g=some (.ref f)/\W.keepIn X.K (.ref f)=true/\cf X.K fd ps []/\(g==("__debug__" : Str))=false
def oB(K:W.Frag)(n:Str)(F:List D->Rs D):Sp:=fun vs H Q _ => ∃x ws C dx ds r l,vs=.ref x::ws/\H x=some (.ins C dx [])/\W.nsIn K mainGlobals n=some (some (.ref C))/\dQ K C/\af K H (fun _ _=>True) ds ws/\F ds=.ok r l/\aA l/\r.lless=true /\
 ∀H',(∀a o,a≠x->H a=some o->H' a=some o)->ag K H' (fun _ _=>True) r (.ref x)->Q .non H'
def Hd(X:Cx)(g:Str)(F:List D->Rs D):Prop:=∃k C f fd ps,(∀ds r l,F ds=.ok r l->r.lless=true)/\Mk X.K C f/\bF X.prog X.w X.K X.mg X.base df k f fd ps (oB X.K g F)/\bP (k+1) X.A/\X.mg g=some (.ref C)/\W.nsIn X.K mainGlobals g=some (some (.ref C))/\dQ X.K C/\cf X.K fd ps []/\(g==("__debug__" : Str))=false
def Nl(X:Cx)(g:Str)(F:List D->Rs D):Prop:=AH X g F\/Hd X g F
def He(X:Cx)(n m:Str)(F:List D->Rs D):Prop:=∃k C f fd ps,W.nsIn X.K mainGlobals n=some (some (.ref C))/\dQ X.K C/\oq X.K C m f/\bF X.prog X.w X.K X.mg X.base df k f fd ps (jo X.K F)/\bP k X.A/\cf X.K fd ps []
def mT(f:Str)(B:List D->Nat->R1):Prop:=f∈fE/\∀(X:Cx) (ρ:ae) (p pos:Pos) (args:List Expr) (ds:List D) (k:Nat) (d:D) (j:Nat) (l:List D) (tg:Expr) (o:List Prop),X.calm=true->Gl X f->X.mg f=none->AD X ρ args ds k ->
 (∀e∈args,∀x p,e ≠ .Starred x p)->args.length=ds.length->B ds k=.ok (d,j) o->aA o->items d=some l->eG (.Call (.Name f p) args [] pos) tg=true->IE X ρ tg (.Call (.Name f p) args [] pos) l j
def kD(m:Str)(M:D->List D->R1):Prop:=∀(X:Cx) (ρ:ae) (a:Expr) (args:List Expr) (ap cp:Pos) (x:D) (k:Nat) (ds:List D) (j:Nat) (z:D) (l:Nat) (o:List Prop),X.calm=true->X.A.units+70<cLine->ED X ρ a x k->AD X ρ args ds j ->
 (∀e∈args,∀x p,e ≠ .Starred x p)->args.length=ds.length->(ap.endLine==cp.line)=true->e6 a=true->M x ds=.ok (z,l) o->aA o->ED X ρ (.Call (.Attribute a m ap) args [] cp) z l
def kC(m:Str)(M:List D->List D->Nat->Rs (List D)):Prop:=∀X:Cx,X.calm=true->∃(id:String) (r:V->List V->Hp->VK->Prop),Slot "list" m id/\typeOf (.builtin id)=pure (.type "method_descriptor")/\Jh X id r /\
 ∀(ow:Ow) (H0 H:Hp) (l ds l':List D) (j:Nat) (o:List Prop) (a:Addr) (vs ws:List V),M l ds j=.ok l' o->aA o->ds.length<29/\(∀(P:aZ) (Q:VK),(∀b c,Kp ow H0 0 b c->P b c)->ef ow H0->av H0 H->H a=some (.lst vs)->af X.K H P l vs->af X.K H (Kp ow H0 j) ds ws ->
  (∀vs' w,af X.K H P l' vs'->Q w (aO H a (.lst vs')))->r (.ref a) ws H Q)
def Nt(X:Cx)(ow:Ow)(ρ:ae)(o:Option Int):TO:=fun σ H Q=>aH X ow H σ ρ/\∀H',av H H'->Q o H'
def OD(X:Cx)(ρ:ae)(e:Option Expr)(o:Option Int):Prop:=∀ow,PO X e (Nt X ow ρ o)
def mO(F:D->Option Int->Option Int->R1):Prop:=∀(X:Cx) (ρ:ae) (a:Expr) (lo hi:Option Expr) (p2 pos:Pos) (x z:D) (l h:Option Int) (k j:Nat) (o:List Prop),ED X ρ a x k->OD X ρ lo l->OD X ρ hi h->F x l h=.ok (z,j) o->aA o->ED X ρ (.Subscript a (.Slice lo hi none p2) pos) z j
structure aQ(Φ:Fx)(X:Cx)(sc:Scope):Prop where
 calm:X.calm=true
 nd:X.N.Nodup
 gl:∀x,sc.names.lookup x=some .globalImplicit->Gl X x
 kc:∀x,(sc.names.lookup x=some .cell\/sc.names.lookup x=some .free)->X.env.kindOf x=some .cell\/X.env.kindOf x=some .free
 lc:∀x,sc.names.lookup x=some .local->X.env.scope.names.lookup x=some .local
 cc:∀x,sc.names.lookup x=some .cell->X.env.scope.names.lookup x=some .cell
 fn:∀g F,Φ.fn g=some F->Nl X g F
 con:∀x d,Φ.con x=some d->∃v u,X.mg x=some u/\aT v u/\∀H P,ag X.K H P d v
 blt:∀f B,Φ.blt f=some B->dg f B
 itr:∀f B,Φ.itr f=some B->mT f B
 mth:∀m M,Φ.mth m=some M->kD m M
 mtt:∀m M,Φ.mtt m=some M->kC m M
 slf:mO Φ.slf
 fld:∀n f,Φ.fld n f=true->∀C,W.nsIn X.K mainGlobals n=some (some (.ref C))->aX X.K C f
 omt:∀n m F,Φ.omt n m=some F->He X n m F
 bl:∀f∈fE,X.mg f=none
 room:X.A.units+70<cLine
 ns:∀x,cA sc x=true->x∈X.N
 ft:∀x,sc.names.lookup x=some .cell->X.fn x=true
variable{X:Cx}
theorem cq(h:dz x=true):(x==("__debug__" : Str))=false/\(x==("__classdict__" : Str))=false:=by
 unfold dz at h
 rw[Bool.and_eq_true]at h
 exact⟨of_decide_eq_true h.1,of_decide_eq_true h.2⟩
theorem t9{o:Bool}(h:ρ x=some (d,o))(hx:dz x=true):ED X ρ (.Name x pos) d (kn d (cond o 2 1)):=by
 refine ED.kn fun ow pins s σ H Q I ⟨E,q⟩=>?_
 obtain⟨i,v,e1,e2,e3,e4⟩:=E.get x d o h
 refine eR (i:=i) e1 e2 (cq hx).1 (cq hx).2 pins s σ H Q I ⟨v,e3,q v H (av.refl _) (e4.imp fun a b p=>?_)⟩
 cases o with
 | true=>exact⟨p.1,.inl (by rw[p.2];exact(fun z=>nomatch z))⟩
 | false=>exact p
theorem F5(G:aQ Φ X sc)(h:Φ.con x=some d)(hg:sc.names.lookup x=some .globalImplicit)(hx:dz x=true):ED X ρ (.Name x pos) d 0:=by
 obtain⟨v,u,h1,h2,h3⟩:=G.con x d h
 exact fun ow=>bg (nz (G.gl x hg) h1 h2 (cq hx).1) fun σ H Q ⟨E,q⟩=>q v H (av.refl _) (h3 H _)
theorem AU(h:ul x=some T):bootBuiltins x=some (.type T)/\x ≠ "__name__" /\ (x==("__debug__" : Str))=false/\x∈fE:=by
 unfold ul at h
 split at h
 ·rename_i e;subst e;cases h;exact⟨by decide +kernel,by decide +kernel,by decide +kernel,by decide +kernel⟩
 split at h
 ·rename_i e;subst e;cases h;exact⟨by decide +kernel,by decide +kernel,by decide +kernel,by decide +kernel⟩
 split at h
 ·rename_i e;subst e;cases h;exact⟨by decide +kernel,by decide +kernel,by decide +kernel,by decide +kernel⟩
 split at h
 ·rename_i e;subst e;cases h;exact⟨by decide +kernel,by decide +kernel,by decide +kernel,by decide +kernel⟩
 split at h
 ·rename_i e;subst e;cases h;exact⟨by decide +kernel,by decide +kernel,by decide +kernel,by decide +kernel⟩
 ·cases h
theorem F0(G:aQ Φ X sc)(h:ul x=some T)(hg:sc.names.lookup x=some .globalImplicit):ED X ρ (.Name x pos) (.typ T) 0:=by
 obtain⟨h1,h2,h3,h4⟩:=AU h
 exact fun ow=>bg (BD (v:=.ty T) (G.gl x hg) (G.bl x h4) h1 rfl h2 h3) fun σ H Q ⟨E,q⟩=>q _ H (av.refl _) (by rw[ag])
theorem wY{c:Const}(h:Av c=some d):ED X ρ (.Constant c n pos) d 0:=by
 intro ow
 unfold Av at h
 split at h
 ·cases h;exact bg Ef fun σ H Q ⟨E,q⟩=>q _ H (av.refl _) (by rw[ag])
 ·cases h;exact bg HF fun σ H Q ⟨E,q⟩=>q _ H (av.refl _) (by rw[ag])
 ·cases h;exact bg Eh fun σ H Q ⟨E,q⟩=>q _ H (av.refl _) (by rw[ag])
 ·cases h;exact bg Ec fun σ H Q ⟨E,q⟩=>q _ H (av.refl _) (by rw[ag])
 ·cases h
theorem rz{b:Expr}{op:Operator}{x:D}{l:Nat}(ha:ED X ρ a x k)(hb:ED X ρ b y j)(h:g8 op x y k j=.ok (z,l) o)(hp:aA o):ED X ρ (.BinOp a op b pos) z l:=by
 obtain⟨r,h1,h2⟩:=GU (X:=X) h hp
 refine fun ow=>bg (zX h1 (ha ow) (hb ow)) fun σ H Q ⟨E,q⟩=>⟨E,fun v H1 s1 r1=>⟨E.same s1,fun u H2 s2 r2=>?_⟩⟩
 exact h2 ow H H2 v u Q E.own (s1.trans s2) (r1.same s2) (r2.imp (Kp.back s1 j)) fun w H' s3 r3=>q w H' ((s1.trans s2).trans s3) r3
theorem ID{op:UnaryOp}{x:D}(ha:ED X ρ a x k)(h:vH op x=some z):ED X ρ (.UnaryOp op a pos) z 0:=by
 unfold vH at h
 split at h
 ·cases h
  refine fun ow=>bg (HE C9 (ha ow)) fun σ H Q ⟨E,q⟩=>⟨E,fun v H1 s1 r1=>?_⟩
  rw[ag]at r1;subst r1
  exact⟨_,rfl,q _ H1 s1 (by rw[ag])⟩
 ·cases h
  refine fun ow=>bg (Ee (ha ow)) fun σ H Q ⟨E,q⟩=>⟨E,fun v H1 s1 r1=>?_⟩
  rw[ag]at r1;subst r1
  exact⟨_,rfl,q _ H1 s1 (by rw[ag])⟩
 ·cases h
theorem F7{b:Expr}{x:D}(hu:X.A.units+70<cLine)(ha:ED X ρ a x k)(hb:ED X ρ b y j)(h:gZ op x y=.ok r o)(hp:aA o)(hm:behindInMarks op b=false):ED X ρ (.Compare a [op] [b] pos) (.bl r) 0:=by
 have c:=ip hu h hp
 intro ow pins s σ H Q I ⟨E,q⟩
 refine wpAny_Compare1 (Jd (ha ow) (hb ow) I (R:=fun v u H2=>av H H2/\ag X.K H2 (fun _ _=>True) x v/\ag X.K H2 (fun _ _=>True) y u) ⟨E,fun v H1 s1 r1=>⟨E.same s1,fun u H2 s2 r2=>⟨s1.trans s2,(r1.imp fun _ _ _=>True.intro).same s2,r2.imp fun _ _ _=>True.intro⟩⟩⟩ fun v u s2 x y H2 I2 rx ry ⟨sm,r1,r2⟩=>?_) hm
 exact c _ _ pins s2 σ H2 x y v u Q I2 rx ry ⟨r1,r2,q _ H2 sm (by rw[ag])⟩
theorem CI{x:D}{r:D×Nat}{l:List Prop}(h:Gz op op2 x y z=.ok r l):∃a b c r1 r2,x=.int a/\y=.int b/\z=.int c/\ff op a b=some r1/\ff op2 b c=some r2/\r=(.bl (r1&&r2),0):=by
 unfold Gz at h
 split at h
 ·split at h
  ·rename_i h1 h2;cases h;exact⟨_,_,_,_,_,rfl,rfl,rfl,h1,h2,rfl⟩
  ·cases h
 ·cases h
theorem mG{a b:Int}(h:ff op a b=some r):gZ op (.int a) (.int b)=.ok r []:=by
 unfold ff at h
 split at h<;>first|(cases h;rfl)|cases h
theorem yR{b:Expr}{x y z:Int}(hu:X.A.units+70<cLine)(ha:ED X ρ a (.int x) k)(hb:ED X ρ b (.int y) j)(hc:ED X ρ c (.int z) i)(h:ff op x y=some r)(h2:ff op2 y z=some r2)(hm:behindInMarks op2 c=false):ED X ρ (.Compare a [op,op2] [b,c] pos) (.bl (r&&r2)) 0:=by
 have c1:=ip (X:=X) hu (mG h) (show aA []from True.intro)
 have c2:=ip (X:=X) hu (mG h2) (show aA []from True.intro)
 refine fun ow=>bg (yd (c1 (fun _ _=>True) (fun _ _=>True)) (c2 (fun _ _=>True) (fun _ _=>True)) (ha ow) (hb ow) (hc ow) hm) fun σ H Q ⟨E,q⟩=>⟨E,fun v H1 s1 r1=>⟨E.same s1,fun u H2 s2 r2=>?_⟩⟩
 rw[ag]at r1 r2
 subst r1 r2
 refine⟨by rw[ag],by rw[ag],r,rfl,?_⟩
 cases r with
 | false=>exact q _ H2 (s1.trans s2) (by rw[ag];rfl)
 | true =>
  rw[if_pos rfl]
  refine⟨(E.same s1).same s2,fun w H3 s3 r3=>?_⟩
  rw[ag]at r3
  subst r3
  exact⟨by rw[ag],by rw[ag],q _ H3 ((s1.trans s2).trans s3) (by rw[ag];rfl)⟩
theorem Hi(h:ED X ρ e (.bl b) k)(he:∀whole,isTrue e X.env whole=(do let v <- whole;standAt e.pos;holding [v] (truthy v))):TD X ρ e b :=
 fun ow=>pG (DS (h ow) he) fun σ H Q ⟨E,q⟩=>⟨E,fun v H1 s1 r1=>by rw[ag]at r1;exact⟨b,r1,q H1 s1⟩⟩
theorem xy:AD X ρ [] [] 0:=fun ow=>AC El fun σ H Q ⟨E,q⟩=>q [] H (av.refl _) af.nil
theorem iq(h1:ED X ρ e d k)(h2:AD X ρ es ds j)(hs:starEach (e::es) X.env=(false,eval e X.env)::starEach es X.env):AD X ρ (e::es) (d::ds) (kj k j) :=
 fun ow=>AC (nA (h1 ow) (h2 ow) hs) fun σ H Q ⟨E,q⟩=>⟨E,fun v H1 s1 r1=>⟨E.same s1,fun vs H2 s2 r2=>q _ H2 (s1.trans s2) (af.cons ((r1.imp (Kp.joinL E.own k j)).same s2) (r2.imp fun a b p=>Kp.joinR E.own k j a b (Kp.back s1 j a b p)))⟩⟩
theorem yO(h:AD X ρ es ds k)(hl:ds.length<=cg):ED X ρ (.Tuple es n pos) (.tup ds) (kn (.tup ds) k):=by
 refine ED.kn fun ow=>bg (Eb (h ow)) fun σ H Q ⟨E,q⟩=>⟨E,fun vs H1 s1 r1=>⟨by rw[<- r1.length];exact Nat.le_trans hl eH,fun p hp=>?_⟩⟩
 have sm:=cj (o:=HO.tup vs) hp
 refine q _ _ (s1.trans sm) ?_
 rw[ag]
 exact⟨p,vs,rfl,cw.of aD,r1.same sm⟩
theorem ed_emp:ED X ρ (.Dict [] [] pos) (.dct [] []) 0:=by
 intro ow pins s σ H Q I ⟨E,q⟩
 refine wpAny_Dict_empty ⟨.ref s.heap.objs.size,_,I.laid (t':=s.toks) (o:=.dK []) (fun b ob q=>Heap.get?_push_of_some _ q) (Nat.le_refl _) ?_,rfl,q _ _ (cj (I.hok.fresh (Nat.le_refl _))) ?_⟩
 ·exact⟨Nat.zero_le _,beq_eq_false_iff_ne.mpr (Nat.ne_of_gt (modules_low I.nolimit)),[],.nil,Heap.DictOf.new _⟩
 ·rw[ag];exact⟨rfl,rfl,_,[],rfl,aD,⟨rfl,I.hok.fresh (Nat.le_refl _)⟩,af.nil⟩
theorem ua(h:AD X ρ es ds k)(hk:k<=1)(hl:ds.length<=cg):ED X ρ (.List es pos) (.lst ds) k:=by
 refine fun ow=>bg (Eg (h ow)) fun σ H Q ⟨E,q⟩=>⟨E,fun vs H1 s1 r1=>⟨by rw[<- r1.length];exact Nat.le_trans hl eH,fun p hp=>?_⟩⟩
 have sm:=cj (o:=HO.lst vs) hp
 refine q _ _ (s1.trans sm) ?_
 rw[ag]
 exact⟨p,vs,true,rfl,aD,ww E.own (s1.free hp) hk,r1.same sm⟩
theorem As{b:Expr}(hc:TD X ρ c t)(h:if t=true then ED X ρ a d k else ED X ρ b d k):ED X ρ (.IfExp c a b pos) d k:=by
 cases t with
 | true =>
  intro ow pins s σ H Q I ⟨E,q⟩
  refine PyProof.Rows.IfExp_ (aJ (hc ow pins s σ H (fun t H1=>t=true/\av H H1) I ⟨E,fun H1 s1=>⟨rfl,s1⟩⟩) fun t s1 ⟨H1,I1,e1,s1'⟩=>?_)
  subst e1
  exact h ow pins s1 σ H1 Q I1 ⟨E.same s1',fun v H2 s2 r2=>q v H2 (s1'.trans s2) (r2.imp (Kp.back s1' k))⟩
 | false =>
  intro ow pins s σ H Q I ⟨E,q⟩
  refine PyProof.Rows.IfExp_ (aJ (hc ow pins s σ H (fun t H1=>t=false/\av H H1) I ⟨E,fun H1 s1=>⟨rfl,s1⟩⟩) fun t s1 ⟨H1,I1,e1,s1'⟩=>?_)
  subst e1
  exact h ow pins s1 σ H1 Q I1 ⟨E.same s1',fun v H2 s2 r2=>q v H2 (s1'.trans s2) (r2.imp (Kp.back s1' k))⟩
variable{X:Cx}
theorem af.atI{P:aZ}{i:Int}(h:af K H P l vs)(e:L2.atI l i=some d):∃v,L2.atI vs i=some v/\ag K H P d v:=by
 unfold L2.atI at e⊢
 rw[<- h.length]
 cases q:ixN l.length i with
 | none=>rw[q]at e;cases e
 | some j=>rw[q]at e;exact h.get e
theorem Ar{b:Expr}{x:D}{i:Int}{l:Nat}(ha:ED X ρ a x k)(hb:ED X ρ b (.int i) j)(hs:du b)(h:qS x i k=.ok (z,l) o):ED X ρ (.Subscript a b pos) z l:=by
 unfold qS at h
 split at h
 ·rename_i m e0
  split at h
  ·rename_i d e
   unfold mk at h
   cases h
   rcases fW e0 with rfl|rfl
   ·refine ED.kn fun ow=>bg (lM wD (ha ow) (hb ow) hs) fun σ H Q ⟨E,q⟩=>⟨E,fun v H1 s1 r1=>⟨E.same s1,fun u H2 s2 r2=>?_⟩⟩
    obtain⟨p,vs,rfl,hq,rl⟩:=eh (r1.same s2)
    rw[ag]at r2;subst r2
    obtain⟨w,h1,h2⟩:=rl.atI e
    exact⟨p,vs,i,w,rfl,rfl,hq,h1,q w H2 (s1.trans s2) h2⟩
   ·refine ED.kn fun ow=>bg (lM tY (ha ow) (hb ow) hs) fun σ H Q ⟨E,q⟩=>⟨E,fun v H1 s1 r1=>⟨E.same s1,fun u H2 s2 r2=>?_⟩⟩
    obtain⟨p,vs,rfl,hq,rl⟩:=fK (r1.same s2)
    rw[ag]at r2;subst r2
    obtain⟨w,h1,h2⟩:=rl.atI e
    exact⟨p,vs,i,w,rfl,rfl,hq,h1,q w H2 (s1.trans s2) h2⟩
  ·cases h
 ·cases h
def Kw:R2:=fun x y H Q => ∃p kvs k v,x=.ref p/\y=kV k/\H p=some (.dK kvs)/\iw kvs k=some v/\Q v H
theorem ix_dict:xE X Kw:=by
 intro value slice pins s σ H x y v u Q I rx ry h hs
 obtain⟨p,kvs,k,z,rfl,rfl,hq,he,q⟩:=h
 cases rx
 obtain⟨_,hd,vs,rel,dd⟩:=(show bM X.prog X.w H s.heap p (.dK kvs)from I.hok p _ hq)
 obtain⟨w,hw,rw'⟩:=ee.some_of (v:=z) (o:=valueAt vs k) (by rw[<- he];exact rel.val k)
 exact subscriptTail_builtinR (x:=w) dd.typeIs PySem.F.slot_dict_getitem.lookup (wpAny_getItem_of (Q:=fun r s'=>r=w/\EP X pins σ Q r s') (Ai ry) dd.mapOf hw ⟨rfl,z,H,I.tok _,rw',q⟩) hs
theorem yU{K:W.Frag}{P:aZ}{H:Hp}{k:bS}{d:D}:∀{ks:List bS} {ds:List D} {vs:List V},af K H P ds vs->vf ks ds k=some d->∃v,iw (ks.zip vs) k=some v/\ag K H P d v/\d∈ds
 | [],ds,vs,_,e=>by cases e
 | j::ks,[],vs,_,e=>by cases e
 | j::ks,x::ds,vs,h,e=>by
  rw[af]at h
  obtain⟨v,r,rfl,h1,h2⟩:=h
  by_cases hj:j=k
  ·have e':some x=some d:=by rw[<- e];simp[vf,List.find?_cons,hj]
   cases e'
   exact⟨v,kT hj,h1,List.mem_cons_self⟩
  ·have e':vf ks ds k=some d:=by rw[<- e];simp[vf,List.find?_cons,hj]
   obtain⟨w,g1,g2,g3⟩:=yU h2 e'
   exact⟨w,(kU hj).trans g1,g2,List.mem_cons_of_mem _ g3⟩
theorem oK:∀{l:List D} {d:D},ao l=true->d∈l->d.lless=true
 | x::l,d,h,m=>by
  rw[ao,Bool.and_eq_true]at h
  rcases List.mem_cons.mp m with rfl|m
  ·exact h.1
  ·exact oK h.2 m
theorem F1{b:Expr}{p q r:D×Nat}(ha:ED X ρ a p.1 p.2)(hb:ED X ρ b q.1 q.2)(hs:du b)(h:kX p q=.ok r o):ED X ρ (.Subscript a b pos) r.1 r.2:=by
 obtain⟨z,k⟩:=p
 unfold kX at h
 split at h
 ·cases h
 ·unfold iM at h
  split at h
  ·rename_i j hj
   rw[hj]at hb
   exact Ar ha hb hs h
  ·cases h
theorem AB{e:Option Expr}{t t':TO}(h:PO X e t)(i:∀σ H Q,t' σ H Q->t σ H Q):PO X e t':=fun pins s σ H Q I q=>h pins s σ H Q I (i σ H Q q)
theorem tN:OD X ρ none none:=fun ow=>AB Bw fun σ H Q ⟨E,q⟩=>q H (av.refl _)
theorem tM{i:Int}(h:ED X ρ e (.int i) k):OD X ρ (some e) (some i):=fun ow=>AB (Bv (h ow)) fun σ H Q ⟨E,q⟩=>⟨E,fun v H1 s1 r1=>by rw[ag]at r1;exact⟨i,r1,q H1 s1⟩⟩
theorem af.cut{P:aZ}{lo hi:Option Int}(h:af K H P l vs):af K H P (gY l lo hi) (gm vs lo hi):=by
 unfold gY gm
 rw[<- h.length]
 exact(h.drop _).take _
theorem gU:∀{l:List D} {n:Nat},ao l=true->ao (l.take n)=true
 | [],n,h=>by simp[ao]
 | d::l,0,h=>by simp[ao]
 | d::l,n+1,h=>by
  rw[ao,Bool.and_eq_true]at h
  rw[List.take_succ_cons,ao,Bool.and_eq_true];exact⟨h.1,gU h.2⟩
theorem gW:∀{l:List D} {n:Nat},ao l=true->ao (l.drop n)=true
 | [],n,h=>by simp[ao]
 | d::l,0,h=>h
 | d::l,n+1,h=>by
  rw[ao,Bool.and_eq_true]at h
  exact gW (n:=n) h.2
theorem yP{x:D}{l:Option Int}(ha:ED X ρ a x k)(hl:OD X ρ lo l)(hh:OD X ρ hi h)(e:pX x l h=.ok (z,j) o)(hp:aA o):ED X ρ (.Subscript a (.Slice lo hi none p2) pos) z j:=by
 unfold pX at e
 split at e
 ·rename_i m
  ·cases e
   have c:ao m=true /\ ¬ (HT.sIx m.length 0 l=0/\HT.sIx m.length m.length h=m.length):=⟨hp.1,by have hx:=hp.2.1;unfold Gp at hx;intro z;rw[decide_eq_true z.1,decide_eq_true z.2]at hx;cases hx⟩
   refine fun ow=>bg (iE Dt (ha ow) (hl ow) (hh ow)) fun σ H Q ⟨E,q⟩=>⟨E,fun v H1 s1 r1=>⟨E.same s1,fun H2 s2=>⟨(E.same s1).same s2,fun H3 s3=>?_⟩⟩⟩
   have s13:=s2.trans s3
   obtain⟨p,vs,rfl,hq,rl⟩:=eh (r1.same s13)
   refine⟨p,vs,rfl,hq,by rw[<- rl.length];exact c.2,fun p' hp'=>?_⟩
   have sm:=cj (o:=HO.tup (gm vs l h)) hp'
   refine q _ _ ((s1.trans s13).trans sm) ?_
   rw[ag]
   exact⟨p',_,rfl,cw.of aD,af.flat _ (by unfold gY;exact gU (gW c.1)) (rl.cut.same sm)⟩
 ·rename_i m
  ·cases e
   have c:ao m=true:=hp.1
   refine fun ow=>bg (iE tx (ha ow) (hl ow) (hh ow)) fun σ H Q ⟨E,q⟩=>⟨E,fun v H1 s1 r1=>⟨E.same s1,fun H2 s2=>⟨(E.same s1).same s2,fun H3 s3=>?_⟩⟩⟩
   have s13:=s2.trans s3
   obtain⟨p,vs,rfl,hq,rl⟩:=fK (r1.same s13)
   refine⟨p,vs,rfl,hq,fun p' hp'=>?_⟩
   have sm:=cj (o:=HO.lst (gm vs l h)) hp'
   refine q _ _ ((s1.trans s13).trans sm) ?_
   rw[ag]
   exact⟨p',_,true,rfl,aD,⟨rfl,(s1.trans s13).free hp'⟩,af.flat _ (by unfold gY;exact gU (gW c)) (rl.cut.same sm)⟩
 ·cases e
theorem bC{env:Env}{pos:Pos}:∀{es:List Expr},(∀e∈es,∀x p,e ≠ .Starred x p)->(backTo pos (starEach es env)).any (·.1)=false
 | [],_=>rfl
 | e::es,h=>by
  have ih:=bC (env:=env) (es:=es) (pos:=pos) fun x hx=>h x (List.mem_cons_of_mem _ hx)
  have he:=h e List.mem_cons_self
  cases e<;>first|exact absurd rfl (he _ _)|exact ih
theorem aM(h:∀x p,e ≠ .Starred x p):starEach (e::es) env=(false,eval e env)::starEach es env:=by
 cases e<;>first|exact absurd rfl (h _ _)|rfl
theorem yS{r:D}(G:aQ Φ X sc)(hf:AH X f F)(hg:sc.names.lookup f=some .globalImplicit)
  (ha:AD X ρ args ds k) (hst:∀e∈args,∀x p,e ≠ .Starred x p) (hnil:args=[]->ds=[]) (h:F ds=.ok r o) (hp:aA o):ED X ρ (.Call (.Name f p) args [] pos) r 0:=by
 obtain⟨n,fa,fd,ps,hF,hr,hm,hk,hb,hd⟩:=hf
 intro ow
 cases args with
 | nil =>
  refine bg (yf hF hr (G.gl f hg) hm hk hb .nil gy hd) fun σ H Q ⟨E,q⟩=>?_
  have hds:=hnil rfl
  subst hds
  exact⟨[],r,o,af.nil,h,hp,fun v H' s1 r1=>q v H' s1 r1⟩
 | cons e es =>
  refine bg (BC hF hr (G.gl f hg) hm hk hb .nil gy (ha ow) hd (aM (hst e List.mem_cons_self)) (bC fun x hx=>hst x (List.mem_cons_of_mem _ hx))) fun σ H Q ⟨E,q⟩=>⟨E,fun vs H1 s1 r1=>?_⟩
  refine⟨ds,r,o,by rw[List.append_nil];exact r1.imp fun _ _ _=>True.intro,h,hp,fun v H' s2 r2=>q v H' (s1.trans s2) (r2.imp fun a b p=>⟨p.1,s1.free p.2⟩)⟩
theorem jq{x dx C:Addr}(hx:H x=none)(hd:H dx=none):av H (aO (aO H dx (.own x)) x (.ins C dx [])):=fun a o h=>by
 rw[ax (fun z=>by subst z;rw[hx]at h;cases h),ax (fun z=>by subst z;rw[hd]at h;cases h)]
 exact h
theorem Ct{r:D}(G:aQ Φ X sc)(hf:Hd X f F)(hg:sc.names.lookup f=some .globalImplicit)
  (ha:AD X ρ args ds k) (hst:∀e∈args,∀x p,e ≠ .Starred x p) (hnil:args=[]->ds=[]) (h:F ds=.ok r o) (hp:aA o):ED X ρ (.Call (.Name f p) args [] pos) r 0:=by
 obtain⟨n,C,fa,fd,ps,hfl,hM,hF,hr,hm,hns,hc,hb,hd⟩:=hf
 have hl:=hfl ds r o h
 intro ow
 cases args with
 | nil =>
  refine bg (yc hM hF hr (G.gl f hg) hm hb .nil gy hd) fun σ H Q ⟨E,q⟩=>?_
  have hds:=hnil rfl
  subst hds
  intro x dx hx hdx ne
  refine⟨x,[],C,dx,[],r,o,rfl,aD,hns,hc,af.nil,h,hp,hl,fun H' kp rr=>⟨rfl,q _ H' (fun a ob ha=>?_) (rr.flat _ hl)⟩⟩
  exact kp a ob (fun z=>by subst z;rw[hx]at ha;cases ha) (jq hx hdx a ob ha)
 | cons e es =>
  refine bg (BB hM hF hr (G.gl f hg) hm hb .nil gy (ha ow) hd (aM (hst e List.mem_cons_self)) (bC fun x hx=>hst x (List.mem_cons_of_mem _ hx))) fun σ H Q ⟨E,q⟩=>⟨E,fun vs H1 s1 r1=>?_⟩
  intro x dx hx hdx ne
  refine⟨x,vs++[],C,dx,ds,r,o,rfl,aD,hns,hc,by rw[List.append_nil];exact(r1.same (jq hx hdx)).imp fun _ _ _=>True.intro,h,hp,hl,fun H' kp rr=>⟨rfl,q _ H' (s1.trans fun a ob ha=>?_) (rr.flat _ hl)⟩⟩
  exact kp a ob (fun z=>by subst z;rw[hx]at ha;cases ha) (jq hx hdx a ob ha)
theorem CA{r:D}(G:aQ Φ X sc)(hf:Φ.fn f=some F)(hg:sc.names.lookup f=some .globalImplicit)
  (ha:AD X ρ args ds k) (hst:∀e∈args,∀x p,e ≠ .Starred x p) (hnil:args=[]->ds=[]) (h:F ds=.ok r o) (hp:aA o):ED X ρ (.Call (.Name f p) args [] pos) r 0:=by
 rcases G.fn f F hf with z|z
 ·exact yS G z hg ha hst hnil h hp
 ·exact Ct G z hg ha hst hnil h hp
theorem u8{o:Expr}{name:Str}(hb:attributeBase o name env (eval o env)=eval o env)(hf:methodCallForm (args.length+([]:List Keyword).length) (backTo pos (starEach args env)) (backToKw pos (keywordEach [] env))=true)
  (hl:(apos.endLine==pos.line)=true):eval (.Call (.Attribute o name apos) args [] pos) env=(do
   let ov <- eval o env
   standAt apos.atName
   let (f,first) <- holding [ov] (getMethod ov name (do return (<- importBound o env).getD true))
   callWith pos f first (backTo pos (starEach args env)) (backToKw pos (keywordEach [] env))):=by
 show(do
  let ov <- attributeBase o name env (eval o env)
  standAt apos.atName
  methodCall o name apos pos env ov (args.length+([]:List Keyword).length) (backTo pos (starEach args env)) (backToKw pos (keywordEach [] env)))=_
 rw[hb]
 unfold methodCall calleeOf methodCallPos
 rw[hf,hl]
 rfl
theorem dG{t:Sem Value}(h:e6 a=true):attributeBase a m env t=t:=by
 unfold attributeBase
 split
 ·cases h
 ·rfl
theorem ik(hst:∀e∈args,∀x p,e ≠ .Starred x p)(hn:args.length<29):methodCallForm (args.length+([]:List Keyword).length) (backTo pos (starEach args env)) (backToKw pos (keywordEach [] env))=true:=by
 unfold methodCallForm
 have e1:(backTo pos (starEach args env)).all (fun x => !x.1)=true:=by
  have:=bC (env:=env) (pos:=pos) hst
  rw[List.all_eq_true]
  intro x hx
  have h2:¬ (backTo pos (starEach args env)).any (·.1)=true:=by rw[this];exact Bool.false_ne_true
  cases hb:x.1 with
  | false=>rfl
  | true=>exact absurd (List.any_eq_true.mpr ⟨x,hx,hb⟩) h2
 rw[e1]
 show(true&&true&&decide (args.length+0+0<30))=true
 simp;omega
theorem pK:ns.contains m=false->(ns.zip vs).lookup m=none:=by
 induction ns generalizing vs with
 | nil=>intro _;rfl
 | cons a ns ih =>
  intro h
  cases vs with
  | nil=>rfl
  | cons v vs =>
   rw[List.contains_cons,Bool.or_eq_false_iff]at h
   show List.lookup m ((a,v)::ns.zip vs)=none
   rw[List.lookup_cons,h.1]
   exact ih h.2
theorem Cs{n:Str}{es:List D}{r:D}(G:aQ Φ X sc)(hf:Φ.omt n m=some F)(he:ED X ρ a (.obj n ns es) j)
  (ha:AD X ρ args ds k) (hst:∀e∈args,∀x p,e ≠ .Starred x p) (hlen:args.length=ds.length) (hn:ns.contains m=false) (hb:e6 a=true) (hfew:ds.length<29) (hl:(ap.endLine==pos.line)=true) (h:F (.obj n ns es::ds)=.ok r o) (hp:aA o):ED X ρ (.Call (.Attribute a m ap) args [] pos) r 0:=by
 obtain⟨kk,C,fa,fd,ps,hns,hc,hm,hF,hr,hbd⟩:=G.omt n m F hf
 intro ow
 have ht:=u8 (o:=a) (name:=m) (apos:=ap) (pos:=pos) (args:=args) (env:=X.env) (dG hb) (ik hst (by omega)) hl
 cases args with
 | nil =>
  refine bg (yb (he ow) hc hm hF hr hbd .nil gy ht) fun σ H Q ⟨E,q⟩=>⟨E,fun v H1 s1 r1=>?_⟩
  have hds:ds=[]:=List.length_eq_zero_iff.mp hlen.symm
  subst hds
  have r0:=r1
  rw[ag]at r1
  obtain⟨f,e0,x,C',dx,vs,rfl,h1,h2,h3,r2⟩:=r1
  rw[hns]at h1;cases h1
  refine⟨x,dx,_,rfl,h3,pK hn,[.obj n ns es],r,o,af.one (r0.imp fun _ _ _=>True.intro),h,hp,fun v H' s2 r2=>q v H' (s1.trans s2) (r2.imp fun a b p=>⟨p.1,s1.free p.2⟩)⟩
 | cons e es' =>
  refine bg (BA (he ow) hc hm hF hr hbd .nil gy (ha ow) (aM (hst e List.mem_cons_self)) (bC fun x hx=>hst x (List.mem_cons_of_mem _ hx)) ht) fun σ H Q ⟨E,q⟩=>⟨E,fun v H1 s1 r1=>?_⟩
  have r0:=r1
  rw[ag]at r1
  obtain⟨f,e0,x,C',dx,vs,rfl,h1,h2,h3,r2⟩:=r1
  rw[hns]at h1;cases h1
  refine⟨x,dx,_,rfl,h3,pK hn,E.same s1,fun ws H2 s2 rw2=>?_⟩
  refine⟨.obj n ns es::ds,r,o,by rw[List.append_nil];exact af.cons ((r0.same s2).imp fun _ _ _=>True.intro) (rw2.imp fun _ _ _=>True.intro),h,hp,fun v H' s3 r3=>q v H' ((s1.trans s2).trans s3) (r3.imp fun a b p=>⟨p.1,s1.free (s2.free p.2)⟩)⟩
theorem pL{K:W.Frag}{H:Hp}{P:aZ}{f:Str}{d:D}:∀{ns:List Str} {ds:List D} {vs:List V},af K H P ds vs->(ns.zip ds).lookup f=some d->∃v,(ns.zip vs).lookup f=some v/\ag K H P d v/\(ao ds=true->d.lless=true)
 | [],ds,vs,_,h=>by cases h
 | a::ns,[],vs,_,h=>by cases h
 | a::ns,e::ds,vs,r,h=>by
  rw[af]at r
  obtain⟨v,ws,rfl,r1,r2⟩:=r
  replace h:List.lookup f ((a,e)::ns.zip ds)=some d:=h
  show ∃u,List.lookup f ((a,v)::ns.zip ws)=some u/\_
  rw[List.lookup_cons]at h⊢
  cases hb:f==a with
  | true =>
   rw[hb]at h;cases h
   exact⟨v,rfl,r1,fun z=>by rw[ao,Bool.and_eq_true]at z;exact z.1⟩
  | false =>
   rw[hb]at h
   obtain⟨u,u1,u2,u3⟩:=pL r2 h
   exact⟨u,u1,u2,fun z=>by rw[ao,Bool.and_eq_true]at z;exact u3 z.2⟩
theorem F4{n:Str}(G:aQ Φ X sc)(hf:Φ.fld n f=true)(he:ED X ρ a (.obj n ns ds) j)(hb:e6 a=true)(h:(ns.zip ds).lookup f=some d):ED X ρ (.Attribute a f pos) d 0:=by
 intro ow
 refine bg (Ei (he ow) (dG hb)) fun σ H Q ⟨E,q⟩=>⟨E,fun v H1 s1 r1=>?_⟩
 rw[ag]at r1
 obtain⟨fl,e0,x,C,dx,vs,rfl,h1,h2,h3,r2⟩:=r1
 obtain⟨u,u1,u2,u3⟩:=pL r2 h
 exact⟨x,C,dx,_,u,rfl,h3,h2,G.fld n f hf C h1,u1,q u H1 s1 (u2.flat _ (u3 fl))⟩
theorem Ga{l:Nat}(G:aQ Φ X sc)(hB:dg f B)(hg:sc.names.lookup f=some .globalImplicit)
  (ha:AD X ρ (e::es) ds k) (hst:∀x∈e::es,∀y p,x ≠ .Starred y p) (h:B ds=.ok (z,l) o) (hp:aA o):ED X ρ (.Call (.Name f p) (e::es) [] pos) z l:=by
 obtain⟨h3,h1,h2,_,h4⟩:=hB
 have h4:=h4 X ds z l o G.calm h hp
 intro ow
 have n1:=aM (env:=X.env) (es:=es) (hst e List.mem_cons_self)
 have n2:(backTo pos (starEach es X.env)).any (·.1)=false:=bC fun x hx=>hst x (List.mem_cons_of_mem _ hx)
 rcases h4 with⟨id,e1,r,e2,e3⟩|⟨T,e1,r,e2,e3⟩
 ·refine bg (ye e2 (G.gl f hg) (G.bl f h3) e1 (ha ow) h1 h2 n1 n2) fun σ H Q ⟨E,q⟩=>⟨E,fun vs H1 s1 r1=>?_⟩
  exact e3 ow H H1 vs _ Q E.own s1 r1 fun w H' s2 r2=>q w H' (s1.trans s2) r2
 ·refine bg (wc e2 (G.gl f hg) (G.bl f h3) e1 (ha ow) h1 h2 n1 n2) fun σ H Q ⟨E,q⟩=>⟨E,fun vs H1 s1 r1=>?_⟩
  exact e3 ow H H1 vs _ Q E.own s1 r1 fun w H' s2 r2=>q w H' (s1.trans s2) r2
theorem B6(h:ED X ρ e (.lst l) k):IE X ρ tg e l k:=by
 intro ow pins s σ H R I ⟨E,q⟩
 refine By (tg:=tg) (h ow) pins s σ H R I ⟨E,fun v H1 s1 r1=>?_⟩
 rw[ag]at r1
 obtain⟨a,vs,b,rfl,hl,hp,rl⟩:=r1
 have rl':af X.K H1 (Kd ow H k H1) l vs:=rl.impH (fun a o ho p=>⟨p,fun _=>⟨o,ho⟩⟩) fun a p=>⟨p,fun z=>(by cases z)⟩
 have hp':Kd ow H k H1 a b:=⟨hp,fun hb=>by subst hb;exact⟨_,hl⟩⟩
 have sq:∀{H2:Hp},r8 X.K H2 a vs b->bL X.K H2 a vs:=fun {H2} h=>h.sq
 refine⟨a,rfl,⟨vs,sq hl⟩,q _ H1 s1 fun i H2 st=>⟨fun d hd=>?_,fun hle=>?_⟩⟩
 ·have h2:=sq (st.ls hl hp')
  obtain⟨w,hw,rw'⟩:=rl'.get hd
  refine⟨⟨vs,w,h2,hw⟩,fun x H3 ⟨e3,y3⟩=>?_⟩
  subst e3
  have:=y3 vs h2
  rw[hw]at this;cases this
  exact⟨av.refl _,rw'.mono st⟩
 ·exact⟨vs,sq (st.ls hl hp'),by rw[<- rl.length];exact hle⟩
theorem Fy(h:ED X ρ e (.tup l) k):IE X ρ tg e l k:=by
 intro ow pins s σ H R I ⟨E,q⟩
 refine D7 (tg:=tg) (h ow) pins s σ H R I ⟨E,fun v H1 s1 r1=>?_⟩
 rw[ag]at r1
 obtain⟨a,vs,rfl,hl,rl⟩:=r1
 have rl':af X.K H1 (Kd ow H k H1) l vs:=rl.impH (fun a o ho p=>⟨p,fun _=>⟨o,ho⟩⟩) fun a p=>⟨p,fun z=>(by cases z)⟩
 refine⟨a,rfl,⟨vs,hl⟩,q _ H1 s1 fun i H2 st=>⟨fun d hd=>?_,fun hle=>?_⟩⟩
 ·have h2:=st.sq hl
  obtain⟨w,hw,rw'⟩:=rl'.get hd
  refine⟨⟨vs,w,h2,hw⟩,fun x H3 ⟨e3,y3⟩=>?_⟩
  subst e3
  have:=y3 vs h2
  rw[hw]at this;cases this
  exact⟨av.refl _,rw'.mono st⟩
 ·exact⟨vs,st.sq hl,by rw[<- rl.length];exact hle⟩
def Jk(x:Str):It:=⟨fun i _=>i<x.cps.size,fun i H v H'=>H'=H/\∃c,x.cps[i]?=some c/\v=.str ⟨#[c]⟩,fun i _=>x.cps.size<=i⟩
theorem xJ(x:Str)(t:Tok)(it:Addr):Turn P w K tg (Jk x) [it] it (fun i h=>h.IsStrIter it "str_ascii_iterator" x t i) where
 mem:=by simp
 obj:=fun i h st b hb=>by
  have e:b=it:=by simpa using hb
  subst e
  obtain⟨o,e,c,d⟩:=st
  exact⟨o,e,fun v z=>by rw[d]at z;cases z⟩
 keep:=fun i h h' st k=>by
  obtain⟨o,e,c,d⟩:=st
  exact⟨o,k it (by simp) o e,c,d⟩
 item:=by
  intro X hP hw hK hc i pins s σ H E I hf st hg
  subst hP hw hK
  obtain⟨f0,f1,f2,f3,f4,f5⟩:=hf it (by simp)
  have hx:x.cps[i]?=some x.cps[i]:=Array.getElem?_eq_getElem hg
  refine wpAny_pyNext_ascii_item st hx fun h' st' sb=>?_
  have I1:aj X pins σ H { s with heap:=h',toks:=s.toks+1 }:=I.turned (t':=s.toks+1) (fun b o hb e=>(sb.2 b hb).trans e) f0 f1 f3 f4 f5
  obtain⟨o,e,c,d⟩:=id st'
  exact⟨_,rfl,pA (s:={ s with heap:=h',toks:=s.toks+1 }) e c d (by decide) ⟨.str ⟨#[x.cps[i]]⟩,H,I1,⟨_,rfl⟩,⟨rfl,_,hx,rfl⟩,st',fun b hb=>(hf b hb).1⟩⟩
 done:=by
  intro X hP hw hK hc i pins s σ H E I hf st hg
  subst hP hw hK
  obtain⟨f0,f1,f2,f3,f4,f5⟩:=hf it (by simp)
  exact wpAny_pyNext_ascii_end (I.ok.hd hc) st (Array.getElem?_eq_none hg) fun h' eb=>⟨rfl,I.turned (t':=s.toks) (fun b o hb e=>eb b o hb e) f0 f1 f3 f4 f5⟩
 self:=fun _ _ _ _ _ st h=>wpAny_pyIter_striter_ascii st h
theorem Fz(h:ED X ρ e (.str x) k)(ha:(x.cps.all fun c=>decide (c<128))=true):IE X ρ tg e (sgs x) k:=by
 intro ow pins s σ H R I ⟨E,q⟩
 refine aJ (h ow pins s σ H _ I ⟨E,fun v H1 s1 r1=>(show(fun v H1=>av H H1/\ag X.K H1 (Kp ow H k) (.str x) v) v H1 from⟨s1,r1⟩)⟩) fun v s1 ⟨y,H1,I1,rel,sm,rp⟩=>?_
 rw[ag]at rp;subst rp
 obtain⟨t,rfl⟩:=rel
 have ty:strIterType x = "str_ascii_iterator" := if_pos ha
 refine wpAny_pyIter_strU ?_
 rw[ty]
 refine⟨s1.heap.objs.size,[s1.heap.objs.size],_,Jk x,H1,rfl,I1.kept (t':=s1.toks) fun b o e=>Heap.get?_push_of_some _ e,xJ x t _,⟨_,Heap.get?_push_size _ rfl,rfl,rfl⟩,fun b hb=>?_,q _ H1 sm fun i H2 st=>⟨fun d hd=>?_,fun hle=>?_⟩⟩
 ·have e:b=s1.heap.objs.size:=by simpa using hb
  subst e
  exact I1.fpOk (Nat.le_refl _) (I1.hok.fresh (Nat.le_refl _))
 ·unfold sgs at hd
  rw[List.getElem?_map]at hd
  cases hc:x.cps.toList[i]? with
  | none=>rw[hc]at hd;cases hd
  | some c =>
   rw[hc]at hd;cases hd
   have hi:i<x.cps.size:=by simpa using (List.getElem?_eq_some_iff.mp hc).1
   refine⟨hi,fun z H3 ⟨e3,c',e4,e5⟩=>?_⟩
   subst e3 e5
   rw[Array.getElem?_toList]at hc
   rw[hc]at e4;cases e4
   exact⟨av.refl _,by rw[ag]⟩
 ·unfold sgs at hle
  rw[List.length_map,Array.length_toList]at hle
  exact hle
theorem Io(h:ED X ρ e d k)(hi:items d=some l):IE X ρ tg e l k:=by
 unfold items at hi
 split at hi
 ·cases hi;exact B6 h
 ·cases hi;exact Fy h
 ·split at hi
  ·rename_i ha;cases hi;exact Fz h ha
  ·cases hi
 ·cases hi
theorem yD{j:Int}(hg:Gl X "range")(hm0:X.mg "range" = none)(ha:AD X ρ [a] [.int j] k)(hst:∀y p,a ≠ .Starred y p)(h1:-4611686018427387904<=j)(h2:j<=cg) :
  IE X ρ tg (.Call (.Name "range" p) [a] [] pos) ((List.range j.toNat).map fun i=>.int (i:Nat)) 0:=by
 intro ow pins s σ H R I ⟨E,q⟩
 refine wa (tg:=tg) hg hm0 (ha ow) (by rw[aM hst];rfl) pins s σ H R I ⟨E,fun vs H1 s1 r1=>?_⟩
 obtain⟨v,rfl,rv⟩:=r1.only
 rw[ag]at rv;subst rv
 have hm:(cg:Int)<2 ^ 62:=by decide
 refine⟨j,rfl,h1,by omega,q _ H1 s1 fun i H2 st=>⟨fun d hd=>?_,fun hle=>?_⟩⟩
 ·rw[List.getElem?_map]at hd
  cases e:(List.range j.toNat)[i]? with
  | none=>rw[e]at hd;cases hd
  | some n =>
   rw[e]at hd;cases hd
   obtain⟨hi,hn⟩:=List.getElem?_eq_some_iff.mp e
   rw[List.getElem_range]at hn
   subst hn
   rw[List.length_range]at hi
   refine⟨hi,fun x H3 ⟨e3,y3⟩=>?_⟩
   subst e3 y3
   exact⟨av.refl _,by rw[ag,Int.zero_add]⟩
 ·rw[List.length_map,List.length_range]at hle
  exact hle
theorem wL{b:Expr}{j0 j:Int}(hg:Gl X "range")(hm0:X.mg "range" = none)(ha:AD X ρ [a,b] [.int j0,.int j] k)(hst:∀y p,a ≠ .Starred y p)(hst2:∀y p,b ≠ .Starred y p)(h1:-4611686018427387904<=j0)(h2:j0<=4611686018427387000)(h3:-4611686018427387904<=j)(h4:j-j0<=800) :
  IE X ρ tg (.Call (.Name "range" p) [a,b] [] pos) ((List.range (j-j0).toNat).map fun i=>.int (j0+(i:Nat))) 0:=by
 intro ow pins s σ H R I ⟨E,q⟩
 refine v9 (tg:=tg) hg hm0 (ha ow) (by rw[aM hst,aM hst2];rfl) (by rw[aM hst2];rfl) pins s σ H R I ⟨E,fun vs H1 s1 r1=>?_⟩
 rw[af]at r1
 obtain⟨v1,r,rfl,r2,r3⟩:=r1
 rw[af]at r3
 obtain⟨v2,r',rfl,r4,r5⟩:=r3
 rw[af]at r5
 rw[ag]at r2 r4
 subst r2 r4 r5
 refine⟨j0,j,rfl,⟨h1,by omega,h3,by omega⟩,q _ H1 s1 fun i H2 st=>⟨fun d hd=>?_,fun hle=>?_⟩⟩
 ·rw[List.getElem?_map]at hd
  cases e:(List.range (j-j0).toNat)[i]? with
  | none=>rw[e]at hd;cases hd
  | some n =>
   rw[e]at hd;cases hd
   obtain⟨hi,hn⟩:=List.getElem?_eq_some_iff.mp e
   rw[List.getElem_range]at hn
   subst hn
   rw[List.length_range]at hi
   refine⟨hi,fun x H3 ⟨e3,y3⟩=>?_⟩
   subst e3 y3
   exact⟨av.refl _,by rw[ag]⟩
 ·rw[List.length_map,List.length_range]at hle
  exact hle
theorem wM:mT "range" qY:=by
 refine⟨by decide +kernel,fun X ρ p pos args ds k d j l tg o hc hg hm ha hst hlen h hp hl ht=>?_⟩
 unfold qY at h
 split at h
 ·rename_i n
  cases h
  cases hl
  match args,hlen,ha,hst with
  | [a],_,ha,hst=>exact yD hg hm ha (hst a List.mem_cons_self) hp.1 hp.2.1
 ·rename_i m n
  cases h
  cases hl
  match args,hlen,ha,hst with
  | [a,b],_,ha,hst=>exact wL hg hm ha (hst a List.mem_cons_self) (hst b (List.mem_cons_of_mem _ List.mem_cons_self)) hp.1 hp.2.1 hp.2.2.1 hp.2.2.2.1
 ·cases h
variable{X:Cx}
theorem cM{y:D×Bool}(z:Str):bo ρ x y z=if z=x then some y else ρ z:=rfl
theorem dk{o:Bool}(hN:X.N.Nodup)(hl:σ.length=X.N.length)(E:aH X ow H σ ρ)(hi:X.N[i]?=some x)(hv:eM X.env.scope x)(r:ag X.K H (iF ow x o) d v) :
  aH X ow H (σ.set i (some v)) (bo ρ x (d,o)):=by
 have hil:i<σ.length:=by rw[hl];exact(List.getElem?_eq_some_iff.mp hi).1
 refine⟨fun y e o' h=>?_,E.own⟩
 rw[cM]at h
 by_cases hy:y=x
 ·subst hy
  rw[if_pos rfl]at h
  cases h
  exact⟨i,v,hi,hv,by rw[List.getElem?_set_self hil],r⟩
 ·rw[if_neg hy]at h
  obtain⟨j,w,e1,e2,e3,e4⟩:=E.get y e o' h
  have hij:i≠j:=by intro z;subst z;rw[hi]at e1;cases e1;exact hy rfl
  exact⟨j,w,e1,e2,by rw[List.getElem?_set_ne hij];exact e3,e4⟩
theorem dU(G:aQ Φ X sc)(h:cA sc x=true):r9 X.env.scope x/\eM X.env.scope x/\(X.fn x=true\/X.env.scope.names.lookup x=some .local)/\∃i:Nat,X.N[i]?=some x:=by
 have hx:=G.ns x h
 have hlt:=List.idxOf_lt_length_iff.mpr hx
 have hi:∃i:Nat,X.N[i]?=some x:=⟨X.N.idxOf x,by rw[List.getElem?_eq_getElem hlt,List.getElem_idxOf hlt]⟩
 unfold cA at h
 rw[Bool.or_eq_true]at h
 rcases h with h|h
 ·have h:=G.lc x (by simpa using h)
  exact⟨.inl h,.inl h,.inr h,hi⟩
 ·have h0:sc.names.lookup x=some .cell:=by simpa using h
  have h:=G.cc x h0
  exact⟨.inr h,.inr (.inl h),.inl (G.ft x h0),hi⟩
theorem jz{Φ:Fx}{sc:Scope}(G:aQ Φ X sc):∀{es:List Expr} {ds:List D} {ρ ρ':ae},aV sc es ds ρ=some ρ'->∃t,ug X es t/\(assignEach es X.env).length=ds.length/\(assignEach es X.env).findIdx? (·.1)=none /\
  ∀(ow:Ow) (vs:List V) (σ:L2.St) (H:Hp) (Q:L2.St->Hp->Prop),σ.length=X.N.length->aH X ow H σ ρ->af X.K H (fun a b=>b=true->ow a=none) ds vs->(∀σ',σ'.length=X.N.length->aH X ow H σ' ρ'->Q σ' H)->t vs σ H Q
 | [],[],ρ,ρ',h=>by
  rw[aV]at h;cases h
  refine⟨_,ny,rfl,rfl,fun ow vs σ H Q hl E r q=>?_⟩
  rw[af]at r
  exact⟨r,q σ hl E⟩
 | .Name x p::es,d::ds,ρ,ρ',h=>by
  rw[aV]at h
  split at h
  ·rename_i hx
   obtain⟨t,h1,h2,h3,h4⟩:=jz G h
   obtain⟨g1,g2,g3,i,g4⟩:=dU G hx
   refine⟨_,fZ (fc (i:=i) G.nd g4 g1 g3) h1 rfl,?_,?_,fun ow vs σ H Q hl E r q=>?_⟩
   ·show(assignEach es X.env).length+1=ds.length+1
    rw[h2]
   ·show List.findIdx? (·.1) ((false,_)::assignEach es X.env)=none
    rw[List.findIdx?_cons,h3];rfl
   ·rw[af]at r
    obtain⟨v,vr,rfl,r1,r2⟩:=r
    refine⟨v,vr,rfl,?_⟩
    exact h4 ow vr _ H Q (by rw[List.length_set];exact hl) (dk G.nd hl E g4 g2 r1) r2 q
  ·cases h
 | [],_::_,ρ,ρ',h=>by simp[aV]at h
 | .Name _ _::_,[],ρ,ρ',h=>by simp[aV]at h
 | .BoolOp .. :: _,ds,ρ,ρ',h=>by cases ds<;>simp[aV]at h
 | .NamedExpr .. :: _,ds,ρ,ρ',h=>by cases ds<;>simp[aV]at h
 | .BinOp .. :: _,ds,ρ,ρ',h=>by cases ds<;>simp[aV]at h
 | .UnaryOp .. :: _,ds,ρ,ρ',h=>by cases ds<;>simp[aV]at h
 | .Lambda .. :: _,ds,ρ,ρ',h=>by cases ds<;>simp[aV]at h
 | .IfExp .. :: _,ds,ρ,ρ',h=>by cases ds<;>simp[aV]at h
 | .Dict .. :: _,ds,ρ,ρ',h=>by cases ds<;>simp[aV]at h
 | .Set .. :: _,ds,ρ,ρ',h=>by cases ds<;>simp[aV]at h
 | .ListComp .. :: _,ds,ρ,ρ',h=>by cases ds<;>simp[aV]at h
 | .SetComp .. :: _,ds,ρ,ρ',h=>by cases ds<;>simp[aV]at h
 | .DictComp .. :: _,ds,ρ,ρ',h=>by cases ds<;>simp[aV]at h
 | .GeneratorExp .. :: _,ds,ρ,ρ',h=>by cases ds<;>simp[aV]at h
 | .Await .. :: _,ds,ρ,ρ',h=>by cases ds<;>simp[aV]at h
 | .Yield .. :: _,ds,ρ,ρ',h=>by cases ds<;>simp[aV]at h
 | .YieldFrom .. :: _,ds,ρ,ρ',h=>by cases ds<;>simp[aV]at h
 | .Compare .. :: _,ds,ρ,ρ',h=>by cases ds<;>simp[aV]at h
 | .Call .. :: _,ds,ρ,ρ',h=>by cases ds<;>simp[aV]at h
 | .FormattedValue .. :: _,ds,ρ,ρ',h=>by cases ds<;>simp[aV]at h
 | .JoinedStr .. :: _,ds,ρ,ρ',h=>by cases ds<;>simp[aV]at h
 | .Constant .. :: _,ds,ρ,ρ',h=>by cases ds<;>simp[aV]at h
 | .Attribute .. :: _,ds,ρ,ρ',h=>by cases ds<;>simp[aV]at h
 | .Subscript .. :: _,ds,ρ,ρ',h=>by cases ds<;>simp[aV]at h
 | .Starred .. :: _,ds,ρ,ρ',h=>by cases ds<;>simp[aV]at h
 | .List .. :: _,ds,ρ,ρ',h=>by cases ds<;>simp[aV]at h
 | .Tuple .. :: _,ds,ρ,ρ',h=>by cases ds<;>simp[aV]at h
 | .Slice .. :: _,ds,ρ,ρ',h=>by cases ds<;>simp[aV]at h
theorem kh(G:aQ Φ X sc)(h:bG sc tg d ρ=some ρ'):GD X ρ tg d ρ':=by
 unfold bG at h
 split at h
 ·split at h
  ·rename_i x p hx
   cases h
   obtain⟨g1,g2,g3,i,g4⟩:=dU G hx
   exact⟨_,fc (i:=i) G.nd g4 g1 g3,fun ow v σ H Q hl E r q=>q _ (by rw[List.length_set];exact hl) (dk G.nd hl E g4 g2 r)⟩
  ·cases h
 ·split at h
  ·obtain⟨t,h1,h2,h3,h4⟩:=jz G h
   refine⟨_,lL (n:=_) G.calm h1 h2 h3,fun ow v σ H Q hl E r q=>?_⟩
   obtain⟨a,vs,rfl,hs,rl⟩:=eh r
   exact⟨a,vs,rfl,hs,rl.length.symm,h4 ow vs σ H Q hl E rl q⟩
  ·cases h
 ·cases h
theorem uv{Q:Bool->Shared->Prop}
  (h:wpAny M A (isTrue c env (eval c env)) (fun b s'=>if b=true then wpAny M A (gh cs env) Q E s' else Q false s') E s):wpAny M A (gh (c::cs) env) Q E s:=by
 have no:∀(l:List Expr) (s:Shared),Q false s->wpAny M A (forIn l false fun c r=>if r=true then do let ok <- isTrue c env (eval c env);pure (ForInStep.yield ok)else pure (ForInStep.yield r)) Q E s:=by
  intro l
  induction l with
  | nil=>intro s h;exact wpAny_pure h
  | cons x l ih =>
   intro s h
   rw[List.forIn_cons]
   simp only[Bool.false_eq_true,if_false]
   exact wpAny_bind (wpAny_pure (ih s h))
 unfold gh
 rw[List.forIn_cons]
 simp only[if_true]
 refine wpAny_bind (wpAny_bind (wpAny_mono h (fun b s' hb=>wpAny_pure ?_) fun _ _ x=>x))
 cases b with
 | true=>exact hb
 | false=>exact no cs s' hb
theorem vO:xC X ρ [] true:=fun ow pins s σ H Q I ⟨E,q⟩=>wpAny_pure ⟨H,I,q H (av.refl _)⟩
theorem mZ{b':Bool}(h:TD X ρ c b)(h':if b=true then xC X ρ cs b' else b'=false):xC X ρ (c::cs) b':=by
 intro ow pins s σ H Q I ⟨E,q⟩
 refine uv (aJ (h ow pins s σ H (fun t H1=>t=b/\av H H1) I ⟨E,fun H1 s1=>⟨rfl,s1⟩⟩) fun t s1 ⟨H1,I1,e,sm⟩=>?_)
 subst e
 cases t with
 | true =>
  rw[if_pos rfl]at h' ⊢
  exact h' ow pins s1 σ H1 Q I1 ⟨E.same sm,fun H2 s2=>q H2 (sm.trans s2)⟩
 | false =>
  rw[if_neg Bool.false_ne_true]at h' ⊢
  subst h'
  exact⟨H1,I1,q H1 sm⟩
variable{X:Cx}
structure eO(X:Cx)(ρ:ae)(e:Expr)(it:Bool)(d:D)(k:Nat):Prop where
 ed:it=false->ED X ρ e d k
 td:it=false->∀b,d=.bl b->TD X ρ e b
 ie:it=true->∀tg l,items d=some l->eG e tg=true->IE X ρ tg e l k
theorem eO.of(h:ED X ρ e d k)(t:∀b,d=.bl b->TD X ρ e b):eO X ρ e it d k:=⟨fun _=>h,fun _=>t,fun _ tg l hi _=>Io h hi⟩
theorem mB{r:D×Nat}{l:List Prop}(h:au Φ e it sc ρ=.ok r l):∀x p,e ≠ .Starred x p:=by
 intro x p z;subst z;cases h
theorem bQ{Φ:Fx}{sc:Scope}{ρ:ae}:∀{es:List Expr} {r:List D×Nat} {l:List Prop},bK Φ es sc ρ=.ok r l->aA l->(∀e∈es,∀x p,e ≠ .Starred x p)/\es.length=r.1.length
 | [],r,l,h,_=>by cases h;exact⟨fun e he=>(by cases he),rfl⟩
 | e::es,r,l,h,hp=>by
  obtain⟨p,l1,l2,h1,p1,h,p2⟩:=aN h hp
  obtain⟨q,l3,l4,h2,p3,h,p4⟩:=aN h p2
  cases h
  obtain⟨i1,i2⟩:=bQ h2 p3
  refine⟨fun e' he=>?_,by rw[List.length_cons,List.length_cons,i2]⟩
  rcases List.mem_cons.mp he with rfl|he
  ·exact mB h1
  ·exact i1 e' he
theorem Ie:kn d k=0\/kn d k=k:=by
 unfold kn;split
 ·exact .inl rfl
 ·exact .inr rfl
theorem xq(h:mJ sc scope=true):scope.kind=.function/\(∀y∈scope.names,y.2=.local->scope.names.lookup y.1=some .local) /\
  (∀y∈scope.names,y.2=.free->sc.names.lookup y.1=some .cell\/sc.names.lookup y.1=some .free)/\(scope.names.map (·.1)).Nodup:=by
 unfold mJ at h
 simp only[Bool.and_eq_true,List.all_eq_true,decide_eq_true_eq,Bool.or_eq_true]at h
 obtain⟨⟨⟨h1,h3⟩,h4⟩,h5⟩:=h
 refine⟨h1,fun y hy e=>(h3 y hy).resolve_left (fun z=>z e),fun y hy e=>?_,h5⟩
 rcases h4 y hy with(q|q)|q
 ·exact absurd e q
 ·exact .inl q.2
 ·exact .inr q
theorem cQ{env:Env}:∀{names:List (Str×NameKind)} {x:Str} {k0:NameKind},k0 ≠ .free->names.lookup x=some k0 ->
  (names.map fun(n,k)=>if (k==NameKind.free&&env.scope.kind == .function&&env.kindOf n==some .cell)then(n,NameKind.cell)else(n,k)).lookup x=some k0
 | [],_,_,_,h=>by simp at h
 | (n,k)::r,x,k0,hk,h=>by
  have ih:=@cQ env r x k0 hk
  show List.lookup x ((if (k==NameKind.free&&env.scope.kind == .function&&env.kindOf n==some .cell)=true then(n,NameKind.cell)else(n,k))::_)=_
  cases hx:x==n with
  | true =>
   simp only[List.lookup_cons,hx]at h
   cases h
   have:(k==NameKind.free)=false:=by simpa using hk
   simp[List.lookup_cons,hx,this]
  | false =>
   simp only[List.lookup_cons,hx]at h
   by_cases hc:(k==NameKind.free&&env.scope.kind == .function&&env.kindOf n==some .cell)=true
   ·rw[if_pos hc];simp only[List.lookup_cons,hx];exact ih h
   ·rw[if_neg hc];simp only[List.lookup_cons,hx];exact ih h
theorem lU{names:List (Str×NameKind)}:∀{x:Str} {k:NameKind},names.lookup x=some k->x∈names.map (·.1):=fun {x k} h=>List.mem_map.mpr ⟨_,PySem.mem_of_lookup h,rfl⟩
theorem B9{C:Addr}(G:aQ Φ X sc)(h:mJ sc scope=true):aQ Φ (jL X scope cl C (scope.names.map (·.1)) s H fp) scope:=by
 obtain⟨h1,h3,h4,h5⟩:=xq h
 refine⟨G.calm,h5,fun x hx=>?_,fun x hx=>?_,fun x hx=>lookup_relabel_local hx,fun x hx=>cQ (by decide) hx,fun g F hg=>G.fn g F hg,G.con,G.blt,G.itr,G.mth,G.mtt,G.slf,G.fld,G.omt,G.bl,G.room,fun x hx=>?_,fun x hx=>decide_eq_true hx⟩
 ·exact cQ (by decide) hx
 ·rcases hx with hx|hx
  ·exact .inl (cQ (by decide) hx)
  ·exact cS hx
 ·unfold cA at hx
  rw[Bool.or_eq_true]at hx
  rcases hx with hx|hx<;>exact lU (by simpa using hx)
theorem w6(G:aQ Φ X sc)(h:mJ sc scope=true):fF X.env scope (scope.names.map (·.1)):=by
 obtain⟨h1,h3,h4,h5⟩:=xq h
 exact⟨h1,h5,h3,h5,fun n hn=>G.kc n (h4 (n,.free) hn rfl)⟩
theorem Ig:∀{a b:Nat},kj a b<=1->a<=kj a b/\b<=kj a b
 | 0,0,_=>by decide
 | 0,1,_=>by decide
 | 0,2,h=>absurd h (by decide)
 | 0,_+3,h=>by rw[kj]at h;omega
 | 1,0,_=>by decide
 | 1,1,_=>by decide
 | 1,2,h=>absurd h (by decide)
 | 1,_+3,h=>absurd h (by rw[kj]<;>simp)
 | 2,0,h=>absurd h (by decide)
 | 2,1,h=>absurd h (by decide)
 | 2,2,h=>absurd h (by decide)
 | 2,_+3,h=>absurd h (by rw[kj]<;>simp)
 | _+3,0,h=>by rw[kj]at h<;>simp_all<;>omega
 | _+3,1,h=>absurd h (by rw[kj]<;>simp)
 | _+3,2,h=>absurd h (by rw[kj]<;>simp)
 | _+3,_+3,h=>absurd h (by rw[kj]<;>simp)
theorem Kp.up(o:ef ow H){a:Addr}:∀{i j:Nat},i<=j->j<=1->Kp ow H i a b->Kp ow H j a b
 | 0,0,_,_,p=>p
 | 0,1,_,_,p=>fun _=>o.free p.2
 | 1,1,_,_,p=>p
 | 1,0,h,_,_=>absurd h (by omega)
 | _+2,_,h,g,_=>absurd h (by omega)
 | 0,_+2,_,g,_=>absurd g (by omega)
 | 1,_+2,_,g,_=>absurd g (by omega)
theorem ED.up(h:ED X ρ e d i)(h1:i<=j)(h2:j<=1):ED X ρ e d j:=fun ow=>bg (h ow) fun σ H Q ⟨E,q⟩=>⟨E,fun v H' s r=>q v H' s (r.imp fun a b p=>Kp.up E.own h1 h2 p)⟩
def pf(step:D->Rs (Option (D×Nat)))(d:D):Option D:=match step d with | .ok (some p) _=>some p.1|_=>none
theorem rG{step:D->Rs (Option (D×Nat))}:∀{ds:List D} {r:List D×Nat} {l:List Prop},fu step ds=.ok r l->aA l ->
  (∀d∈ds,∃r l,step d=.ok r l/\aA l)/\r.1=ds.filterMap (pf step)/\(r.2<=1->∀d∈ds,∀p l,step d=.ok (some p) l->p.2<=r.2)
 | [],r,l,h,_=>by
  cases h
  exact⟨fun d hd=>(by cases hd),rfl,fun _ d hd=>(by cases hd)⟩
 | d::ds,r,l,h,hp=>by
  obtain⟨x,l1,l2,h1,p1,h,p2⟩:=aN h hp
  obtain⟨q,l3,l4,h2,p3,h,p4⟩:=aN h p2
  obtain⟨i1,i2,i3⟩:=rG h2 p3
  have i1':∀y∈d::ds,∃r l,step y=.ok r l/\aA l:=fun y hy=>by
   rcases List.mem_cons.mp hy with rfl|hy
   ·exact⟨_,_,h1,p1⟩
   ·exact i1 y hy
  cases x with
  | none =>
   cases h
   refine⟨i1',?_,fun hj x hx y i e=>?_⟩
   ·rw[List.filterMap_cons_none (by unfold pf;rw[h1])];exact i2
   ·rcases List.mem_cons.mp hx with rfl|hx
    ·rw[h1]at e;cases e
    ·exact i3 hj x hx y i e
  | some p =>
   cases h
   refine⟨i1',?_,fun hj x hx y i e=>?_⟩
   ·rw[List.filterMap_cons_some (by unfold pf;rw[h1]),i2]
   ·obtain⟨a1,a2⟩:=Ig hj
    rcases List.mem_cons.mp hx with rfl|hx
    ·rw[h1]at e;cases e;exact a1
    ·exact Nat.le_trans (i3 (Nat.le_trans a2 hj) x hx y i e) a2
theorem bO(h:ED X ρ e d k)(he:∀whole,isTrue e X.env whole=(do let v <- whole;standAt e.pos;holding [v] (truthy v))):eO X ρ e it d k:=.of h fun b hb=>by subst hb;exact Hi h he
theorem Dh{b:Expr}{x:D}(hu:X.A.units+70<cLine)(ha:ED X ρ a x k)(hb:ED X ρ b y j)(h:gZ op x y=.ok r o)(hp:aA o)(hm:behindInMarks op b=false):TD X ρ (.Compare a [op] [b] pos) r:=by
 have c:=ip (X:=X) hu h hp
 intro ow pins s σ H Q I ⟨E,q⟩
 refine wpAny_isTrue_Compare1 (Jd (ha ow) (hb ow) I (R:=fun v u H2=>av H H2/\ag X.K H2 (fun _ _=>True) x v/\ag X.K H2 (fun _ _=>True) y u) ⟨E,fun v H1 s1 r1=>⟨E.same s1,fun u H2 s2 r2=>⟨s1.trans s2,(r1.imp fun _ _ _=>True.intro).same s2,r2.imp fun _ _ _=>True.intro⟩⟩⟩ fun v u s2 x y H2 I2 rx ry ⟨sm,r1,r2⟩=>?_) hm
 refine aJ (c _ _ pins s2 σ H2 x y v u (fun w H'=>w=.bl r/\H2=H') I2 rx ry ⟨r1,r2,rfl,rfl⟩) fun u' s3 ⟨w,H3,I3,r3,e1,e2⟩=>?_
 subst e1 e2
 cases (show u'=Value.bool r from r3)
 exact wpAny_truthy_bool ⟨H2,I3,q H2 sm⟩
theorem xL{b:Expr}{x y z:Int}(hu:X.A.units+70<cLine)(ha:ED X ρ a (.int x) k)(hb:ED X ρ b (.int y) j)(hc:ED X ρ c (.int z) i)(h:ff op x y=some r)(h2:ff op2 y z=some r2)(hm:behindInMarks op2 c=false):TD X ρ (.Compare a [op,op2] [b,c] pos) (r&&r2):=by
 have c1:=ip (X:=X) hu (mG h) (show aA []from True.intro)
 have c2:=ip (X:=X) hu (mG h2) (show aA []from True.intro)
 refine fun ow=>pG (x8 (c1 (fun _ _=>True) (fun _ _=>True)) (c2 (fun _ _=>True) (fun _ _=>True)) (ha ow) (hb ow) (hc ow) hm) fun σ H Q ⟨E,q⟩=>⟨E,fun v H1 s1 r1=>⟨E.same s1,fun u H2 s2 r2=>?_⟩⟩
 rw[ag]at r1 r2
 subst r1 r2
 refine⟨by rw[ag],by rw[ag],r,rfl,?_⟩
 cases r with
 | false=>exact⟨false,rfl,q H2 (s1.trans s2)⟩
 | true =>
  rw[if_pos rfl]
  refine⟨(E.same s1).same s2,fun w H3 s3 r3=>?_⟩
  rw[ag]at r3
  subst r3
  exact⟨by rw[ag],by rw[ag],_,rfl,q H3 ((s1.trans s2).trans s3)⟩
theorem Df(h:TD X ρ a b):TD X ρ (.UnaryOp .Not a pos) (!b):=fun ow=>pG (DT (h ow)) fun σ H Q ⟨E,q⟩=>⟨E,fun H1 s1=>q H1 s1⟩
structure dN(X:Cx)(ρ:ae)(op:BoolOp)(es:List Expr)(b:Bool):Prop where
 ed:es≠[]->∀pos,ED X ρ (.BoolOp op es pos) (.bl b) 0
 tw:es≠[]->∀pos ow,PW X (.BoolOp op es pos) (vQ X ow ρ b)
 ts:op=.And->xC X ρ es b
theorem fw{op:BoolOp}(h:ED X ρ e (.bl b) k)(t:TD X ρ e b):dN X ρ op [e] b:=by
 have h0:ED X ρ e (.bl b) 0:=by
  have:=h.kn
  rw[show kn (.bl b) k=0 from rfl]at this
  exact this
 refine⟨fun _ pos ow=>Ed (h0 ow),fun _ pos ow=>?_,fun _=>mZ t (by cases b;rfl;exact vO)⟩
 cases op with
 | And=>exact Bm (t ow)
 | Or=>exact DR (t ow)
theorem sF(h:ED X ρ e (.bl true) k)(t:TD X ρ e true)(r:dN X ρ .And (e2::es) b):dN X ρ .And (e::e2::es) b:=by
 refine⟨fun _ pos ow=>?_,fun _ pos ow=>?_,fun _=>mZ t (by rw[if_pos rfl];exact r.ts rfl)⟩
 ·refine bg (we (h ow) (r.ed (by simp) pos ow)) fun σ H Q ⟨E,q⟩=>⟨E,fun v H1 s1 r1=>?_⟩
  rw[ag]at r1
  exact⟨true,r1,by rw[if_pos rfl];exact⟨E.same s1,fun w H2 s2 r2=>q w H2 (s1.trans s2) (r2.imp (Kp.back s1 0))⟩⟩
 ·intro wh pins s σ H Q I hq
  exact v6 (t ow) (r.tw (by simp) pos ow) wh pins s σ H Q I ⟨hq.1,fun H1 s1=>by dsimp only;rw[if_pos rfl];exact⟨hq.1.same s1,fun H2 s2=>hq.2 H2 (s1.trans s2)⟩⟩
theorem rP(h:ED X ρ e (.bl false) k)(t:TD X ρ e false)(ne:∀pos,∃t,PE X (.BoolOp .And (e2::es) pos) t)(nw:∀pos,∃t,PW X (.BoolOp .And (e2::es) pos) t):dN X ρ .And (e::e2::es) false:=by
 refine⟨fun _ pos ow=>?_,fun _ pos ow=>?_,fun _=>mZ t (by rw[if_neg Bool.false_ne_true])⟩
 ·obtain⟨t2,h2⟩:=ne pos
  refine bg (we (h ow) h2) fun σ H Q ⟨E,q⟩=>⟨E,fun v H1 s1 r1=>?_⟩
  rw[ag]at r1
  exact⟨false,r1,by rw[if_neg Bool.false_ne_true];exact q _ H1 s1 (by rw[ag])⟩
 ·obtain⟨t2,h2⟩:=nw pos
  intro wh pins s σ H Q I hq
  exact v6 (t ow) h2 wh pins s σ H Q I ⟨hq.1,fun H1 s1=>by dsimp only;rw[if_neg Bool.false_ne_true];exact hq.2 H1 s1⟩
theorem vh(h:ED X ρ e (.bl false) k)(t:TD X ρ e false)(r:dN X ρ .Or (e2::es) b):dN X ρ .Or (e::e2::es) b:=by
 refine⟨fun _ pos ow=>?_,fun _ pos ow=>?_,fun z=>by cases z⟩
 ·refine bg (zW (h ow) (r.ed (by simp) pos ow)) fun σ H Q ⟨E,q⟩=>⟨E,fun v H1 s1 r1=>?_⟩
  rw[ag]at r1
  exact⟨false,r1,by rw[if_neg Bool.false_ne_true];exact⟨E.same s1,fun w H2 s2 r2=>q w H2 (s1.trans s2) (r2.imp (Kp.back s1 0))⟩⟩
 ·intro wh pins s σ H Q I hq
  exact zU (t ow) (r.tw (by simp) pos ow) wh pins s σ H Q I ⟨hq.1,fun H1 s1=>by dsimp only;rw[if_neg Bool.false_ne_true];exact⟨hq.1.same s1,fun H2 s2=>hq.2 H2 (s1.trans s2)⟩⟩
theorem sE(h:ED X ρ e (.bl true) k)(t:TD X ρ e true)(ne:∀pos,∃t,PE X (.BoolOp .Or (e2::es) pos) t)(nw:∀pos,∃t,PW X (.BoolOp .Or (e2::es) pos) t):dN X ρ .Or (e::e2::es) true:=by
 refine⟨fun _ pos ow=>?_,fun _ pos ow=>?_,fun z=>by cases z⟩
 ·obtain⟨t2,h2⟩:=ne pos
  refine bg (zW (h ow) h2) fun σ H Q ⟨E,q⟩=>⟨E,fun v H1 s1 r1=>?_⟩
  rw[ag]at r1
  exact⟨true,r1,by rw[if_pos rfl];exact q _ H1 s1 (by rw[ag])⟩
 ·obtain⟨t2,h2⟩:=nw pos
  intro wh pins s σ H Q I hq
  exact zU (t ow) h2 wh pins s σ H Q I ⟨hq.1,fun H1 s1=>by dsimp only;rw[if_pos rfl];exact hq.2 H1 s1⟩
theorem qt:PE X e (fun _ _ _=>False):=fun _ _ _ _ _ _ h=>h.elim
theorem qk:PW X e (fun _ _ _=>False):=fun _ _ _ _ _ _ _ h=>h.elim
theorem Aw{b:Expr}{r:D×Nat}{l:List Prop}(h:au Φ b it sc ρ=.ok r l):behindInMarks op b=false:=by
 cases b<;>first|rfl|cases h
theorem tU{z:Str}(h:cA sc z=true)(hx:sc.names.lookup x=some .free):x≠z:=by
 intro e;subst e
 unfold cA at h
 rw[hx]at h
 revert h;decide
theorem vi:∀{es:List Expr} {ds:List D} {ρ ρ':ae},aV sc es ds ρ=some ρ'->∀x y,sc.names.lookup x=some .free->ρ x=some y->ρ' x=some y:=by
 intro es
 induction es with
 | nil =>
  intro ds ρ ρ' h x y hx hl
  cases ds with
  | nil=>rw[aV]at h;cases h;exact hl
  | cons d ds=>cases h
 | cons e es ih =>
  intro ds ρ ρ' h x y hx hl
  cases ds with
  | nil=>cases e<;>cases h
  | cons d ds =>
   cases e with
   | Name z p =>
    rw[aV]at h
    split at h
    ·rename_i hz
     exact ih h x y hx (by rw[cM,if_neg (tU hz hx)];exact hl)
    ·cases h
   | _=>cases h
theorem xt(h:bG sc tg d ρ=some ρ'):∀x y,sc.names.lookup x=some .free->ρ x=some y->ρ' x=some y:=by
 intro x y hx hl
 unfold bG at h
 split at h
 ·split at h
  ·rename_i hz
   cases h
   rw[cM,if_neg (tU hz hx)];exact hl
  ·cases h
 ·split at h
  ·exact vi h x y hx hl
  ·cases h
 ·cases h
theorem gD{r:D×Nat}{l:List Prop}(h:au Φ e it sc ρ=.ok r l)(x:Value):foldedSetIterable e env x=pure x:=by
 cases e<;>first|rfl|cases h
mutual
theorem qF:∀x y:D,nG true x y=x
 | .int _,.int _=>rfl
 | .bl _,.bl _=>rfl
 | .tup l,.tup m=>by
  show(if l.length=m.length then D.tup (jC true l m)else cond true (.tup l) (.tup m))=.tup l
  split
  ·rename_i h;rw[wk l m h]
  ·rfl
 | .non,_=>rfl
 | .str _,_=>rfl
 | .dct _ _,_=>rfl
 | .lst _,_=>rfl
 | .typ _,_=>rfl
 | .sn _,_=>rfl
 | .obj _ _ _,_=>rfl
 | .cls _,_=>rfl
 | .int _,.non=>rfl
 | .int _,.bl _=>rfl
 | .int _,.str _=>rfl
 | .int _,.dct _ _=>rfl
 | .int _,.typ _=>rfl
 | .int _,.sn _=>rfl
 | .int _,.obj _ _ _=>rfl
 | .int _,.cls _=>rfl
 | .int _,.tup _=>rfl
 | .int _,.lst _=>rfl
 | .bl _,.non=>rfl
 | .bl _,.int _=>rfl
 | .bl _,.str _=>rfl
 | .bl _,.dct _ _=>rfl
 | .bl _,.typ _=>rfl
 | .bl _,.sn _=>rfl
 | .bl _,.obj _ _ _=>rfl
 | .bl _,.cls _=>rfl
 | .bl _,.tup _=>rfl
 | .bl _,.lst _=>rfl
 | .tup _,.non=>rfl
 | .tup _,.int _=>rfl
 | .tup _,.bl _=>rfl
 | .tup _,.str _=>rfl
 | .tup _,.dct _ _=>rfl
 | .tup _,.typ _=>rfl
 | .tup _,.sn _=>rfl
 | .tup _,.obj _ _ _=>rfl
 | .tup _,.cls _=>rfl
 | .tup _,.lst _=>rfl
theorem wk:∀l m:List D,l.length=m.length->jC true l m=l
 | [],[],_=>rfl
 | x::l,y::m,h=>by
  show nG true x y::jC true l m=x::l
  rw[qF x y,wk l m (by simpa using h)]
 | [],_::_,h=>by cases h
 | _::_,[],h=>by cases h
end
mutual
theorem qG:∀x y:D,nG false x y=y
 | .int _,.int _=>rfl
 | .bl _,.bl _=>rfl
 | .tup l,.tup m=>by
  show(if l.length=m.length then D.tup (jC false l m)else cond false (.tup l) (.tup m))=.tup m
  split
  ·rename_i h;rw[wl l m h]
  ·rfl
 | .non,_=>rfl
 | .str _,_=>rfl
 | .dct _ _,_=>rfl
 | .lst _,_=>rfl
 | .typ _,_=>rfl
 | .sn _,_=>rfl
 | .obj _ _ _,_=>rfl
 | .cls _,_=>rfl
 | .int _,.non=>rfl
 | .int _,.bl _=>rfl
 | .int _,.str _=>rfl
 | .int _,.dct _ _=>rfl
 | .int _,.typ _=>rfl
 | .int _,.sn _=>rfl
 | .int _,.obj _ _ _=>rfl
 | .int _,.cls _=>rfl
 | .int _,.tup _=>rfl
 | .int _,.lst _=>rfl
 | .bl _,.non=>rfl
 | .bl _,.int _=>rfl
 | .bl _,.str _=>rfl
 | .bl _,.dct _ _=>rfl
 | .bl _,.typ _=>rfl
 | .bl _,.sn _=>rfl
 | .bl _,.obj _ _ _=>rfl
 | .bl _,.cls _=>rfl
 | .bl _,.tup _=>rfl
 | .bl _,.lst _=>rfl
 | .tup _,.non=>rfl
 | .tup _,.int _=>rfl
 | .tup _,.bl _=>rfl
 | .tup _,.str _=>rfl
 | .tup _,.dct _ _=>rfl
 | .tup _,.typ _=>rfl
 | .tup _,.sn _=>rfl
 | .tup _,.obj _ _ _=>rfl
 | .tup _,.cls _=>rfl
 | .tup _,.lst _=>rfl
theorem wl:∀l m:List D,l.length=m.length->jC false l m=m
 | [],[],_=>rfl
 | x::l,y::m,h=>by
  show nG false x y::jC false l m=y::m
  rw[qG x y,wl l m (by simpa using h)]
 | [],_::_,h=>by cases h
 | _::_,[],h=>by cases h
end
theorem Aj:wA true k j=k:=by unfold wA;split<;>rfl
theorem Ak:wA false k j=j:=by
 unfold wA;split
 ·assumption
 ·rfl
theorem t5{r s:R1}{d:D×Nat}{l:List Prop}(h:Ap t r s=.ok d l)(hp:aA l):∃m,(if t=true then r else s)=.ok d m/\aA m:=by
 unfold Ap at h
 split at h
 ·cases t with
  | true=>cases h
  | false=>exact⟨l,h,hp⟩
 ·rename_i p m
  split at h
  ·cases t with
   | true=>exact⟨l,h,hp⟩
   | false=>cases h
  ·rename_i q n
   cases h
   obtain⟨p1,p2⟩:=da.mp hp
   cases t with
   | true=>exact⟨m,by rw[qF,Aj];rfl,mi p1 rfl⟩
   | false=>exact⟨n,by rw[qG,Ak];rfl,mi p2 rfl⟩
theorem ky{p:D×Nat}{f:Bool->Rs α}{a:α}{l:List Prop}(h:gK p f=.ok a l):∃b,p.1=.bl b/\f b=.ok a l:=by
 unfold gK at h
 split at h
 ·rename_i b e;exact⟨b,e,h⟩
 ·cases h
theorem yz{p:D×Nat}{f:Int->R1}{a:D×Nat}{l:List Prop}(h:iM p f=.ok a l):∃b,p.1=.int b/\f b=.ok a l:=by
 unfold iM at h
 split at h
 ·rename_i b e;exact⟨b,e,h⟩
 ·cases h
structure Ih(Φ:Fx)(n:Nat):Prop where
 e:∀(e:Expr) {it:Bool} {sc:Scope} {ρ:ae} {p:D×Nat} {l:List Prop} {X:Cx},sizeOf e<n->au Φ e it sc ρ=.ok p l->aA l->aQ Φ X sc->eO X ρ e it p.1 p.2
 es:∀(es:List Expr) {sc:Scope} {ρ:ae} {p:List D×Nat} {l:List Prop} {X:Cx},sizeOf es<n->bK Φ es sc ρ=.ok p l->aA l->aQ Φ X sc->AD X ρ es p.1 p.2
 b:∀(op:BoolOp) (es:List Expr) {sc:Scope} {ρ:ae} {b:Bool} {l:List Prop} {X:Cx},sizeOf es<n->dE Φ op es sc ρ=.ok b l->aA l->aQ Φ X sc->dN X ρ op es b
 o:∀(e:Option Expr) {sc:Scope} {ρ:ae} {o:Option Int} {l:List Prop} {X:Cx},sizeOf e<n->kO Φ e sc ρ=.ok o l->aA l->aQ Φ X sc->OD X ρ e o
theorem ba{a b:Nat}(h:a<b)(hs:b<n+1):a<n:=Nat.lt_of_lt_of_le h (Nat.le_of_lt_succ hs)
section
variable{Φ:Fx}{n:Nat}{it:Bool}{sc:Scope}{ρ:ae}{r:D×Nat}{l:List Prop}{X:Cx}
theorem A1(h:iI Φ x sc ρ=.ok r l)(G:aQ Φ X sc):eO X ρ (.Name x pos) it r.1 r.2:=by
 unfold iI at h
 split at h
 ·rename_i hx
  split at h
  ·rename_i hg
   split at h
   ·rename_i d hd;cases h;exact bO (F5 G hd hg hx) (fun _=>rfl)
   ·split at h
    ·rename_i T hT;cases h;exact bO (F0 G hT hg) (fun _=>rfl)
    ·cases h
  ·split at h
   ·rename_i p hl
    unfold mk at h;cases h
    exact bO (t9 (o:=p.2) hl hx) (fun _=>rfl)
   ·cases h
 ·cases h
theorem Dq(I:Ih Φ n){b:Expr}{op:Operator}(hs:sizeOf (Expr.BinOp a op b pos)<n+1)(h:au Φ (.BinOp a op b pos) it sc ρ=.ok r l)(hp:aA l)(G:aQ Φ X sc):eO X ρ (.BinOp a op b pos) it r.1 r.2:=by
 obtain⟨p,l1,l2,h1,p1,h,p2⟩:=aN (show Rs.bnd _ _=_ from h) hp
 obtain⟨q,l3,l4,h2,p3,h,p4⟩:=aN h p2
 exact bO (rz ((I.e a (ba (by simp<;>omega) hs) h1 p1 G).ed rfl) ((I.e b (ba (by simp<;>omega) hs) h2 p3 G).ed rfl) h p4) (fun _=>rfl)
theorem Hs(I:Ih Φ n){op:UnaryOp}(hs:sizeOf (Expr.UnaryOp op a pos)<n+1)(h:au Φ (.UnaryOp op a pos) it sc ρ=.ok r l)(hp:aA l)(G:aQ Φ X sc):eO X ρ (.UnaryOp op a pos) it r.1 r.2:=by
 obtain⟨p,l1,l2,h1,p1,h,p2⟩:=aN (show Rs.bnd _ _=_ from h) hp
 split at h
 ·rename_i z hu
  cases h
  have c:=I.e a (ba (by simp<;>omega) hs) h1 p1 G
  refine .of (ID (c.ed rfl) hu) fun b hb=>?_
  have hb:z=.bl b:=hb
  subst hb
  unfold vH at hu
  split at hu
  ·cases hu
  ·rename_i e;cases hu;exact Df (c.td rfl _ e)
  ·cases hu
 ·cases h
theorem Dp(I:Ih Φ n){b:Expr}(hs:sizeOf (Expr.Compare a [op] [b] pos)<n+1)(h:au Φ (.Compare a [op] [b] pos) it sc ρ=.ok r l)(hp:aA l)(G:aQ Φ X sc):eO X ρ (.Compare a [op] [b] pos) it r.1 r.2:=by
 obtain⟨p,l1,l2,h1,p1,h,p2⟩:=aN (show Rs.bnd _ _=_ from h) hp
 obtain⟨q,l3,l4,h2,p3,h,p4⟩:=aN h p2
 obtain⟨z,l5,l6,hc,p5,h,p6⟩:=aN h p4
 cases h
 have ca:=(I.e a (ba (by simp<;>omega) hs) h1 p1 G).ed rfl
 have cb:=(I.e b (ba (by simp<;>omega) hs) h2 p3 G).ed rfl
 exact .of (F7 G.room ca cb hc p5 (Aw h2)) fun b' hb'=>by cases hb';exact Dh G.room ca cb hc p5 (Aw h2)
theorem xO(I:Ih Φ n){b:Expr}(hs:sizeOf (Expr.Compare a [op,op2] [b,c] pos)<n+1)(h:au Φ (.Compare a [op,op2] [b,c] pos) it sc ρ=.ok r l)(hp:aA l)(G:aQ Φ X sc):eO X ρ (.Compare a [op,op2] [b,c] pos) it r.1 r.2:=by
 obtain⟨p,l1,l2,h1,p1,h,p2⟩:=aN (show Rs.bnd _ _=_ from h) hp
 obtain⟨q,l3,l4,h2,p3,h,p4⟩:=aN h p2
 obtain⟨t,l5,l6,h3,p5,h,p6⟩:=aN h p4
 obtain⟨x,y,z,r1,r2,e1,e2,e3,k1,k2,rfl⟩:=CI h
 have ca:=(I.e a (ba (by simp<;>omega) hs) h1 p1 G).ed rfl
 have cb:=(I.e b (ba (by simp<;>omega) hs) h2 p3 G).ed rfl
 have cc:=(I.e c (ba (by simp<;>omega) hs) h3 p5 G).ed rfl
 rw[e1]at ca
 rw[e2]at cb
 rw[e3]at cc
 exact .of (yR G.room ca cb cc k1 k2 (Aw h3)) fun b' hb'=>by cases hb';exact xL G.room ca cb cc k1 k2 (Aw h3)
theorem Ht(I:Ih Φ n){b:Expr}(hs:sizeOf (Expr.IfExp c a b pos)<n+1)(h:au Φ (.IfExp c a b pos) it sc ρ=.ok r l)(hp:aA l)(G:aQ Φ X sc):eO X ρ (.IfExp c a b pos) it r.1 r.2:=by
 obtain⟨p,l1,l2,h1,p1,h,p2⟩:=aN (show Rs.bnd _ _=_ from h) hp
 obtain⟨t,ht,h⟩:=ky h
 obtain⟨m,he,hm⟩:=t5 h p2
 have hc:=(I.e c (ba (by simp<;>omega) hs) h1 p1 G).td rfl t ht
 cases t with
 | true =>
  rw[if_pos rfl]at he
  have ha:=I.e a (ba (by simp<;>omega) hs) he hm G
  refine .of (As hc (by rw[if_pos rfl];exact ha.ed rfl)) fun b' hb'=>?_
  intro ow pins s σ H Q I ⟨E,q⟩
  refine isTrue_IfExp (aJ (hc ow pins s σ H (fun t H1=>t=true/\av H H1) I ⟨E,fun H1 s1=>⟨rfl,s1⟩⟩) fun t s1 ⟨H1,I1,e1,s1'⟩=>?_)
  subst e1
  exact ha.td rfl b' hb' ow pins s1 σ H1 Q I1 ⟨E.same s1',fun H2 s2=>q H2 (s1'.trans s2)⟩
 | false =>
  rw[if_neg Bool.false_ne_true]at he
  have hb:=I.e b (ba (by simp<;>omega) hs) he hm G
  refine .of (As hc (by rw[if_neg Bool.false_ne_true];exact hb.ed rfl)) fun b' hb'=>?_
  intro ow pins s σ H Q I ⟨E,q⟩
  refine isTrue_IfExp (aJ (hc ow pins s σ H (fun t H1=>t=false/\av H H1) I ⟨E,fun H1 s1=>⟨rfl,s1⟩⟩) fun t s1 ⟨H1,I1,e1,s1'⟩=>?_)
  subst e1
  exact hb.td rfl b' hb' ow pins s1 σ H1 Q I1 ⟨E.same s1',fun H2 s2=>q H2 (s1'.trans s2)⟩
theorem iD{r:D×Nat}{l:List Prop}(h:au Φ e it sc ρ=.ok r l):du e:=by
 cases e<;>first|(intro _ _;rfl)|cases h
theorem zR(I:Ih Φ n){i:Expr}(hs:sizeOf (Expr.Subscript a i pos)<n+1)(h:((au Φ a false sc ρ).bnd fun p=>(au Φ i false sc ρ).bnd fun q=>kX p q)=.ok r l)(hp:aA l)(G:aQ Φ X sc):eO X ρ (.Subscript a i pos) it r.1 r.2:=by
 obtain⟨p,l1,l2,h1,p1,h,p2⟩:=aN h hp
 obtain⟨q,l3,l4,h2,p3,h,p4⟩:=aN h p2
 exact bO (F1 ((I.e a (ba (by simp<;>omega) hs) h1 p1 G).ed rfl) ((I.e i (ba (by simp<;>omega) hs) h2 p3 G).ed rfl) (iD h2) h) (fun _=>rfl)
theorem xN(I:Ih Φ n)(hs:sizeOf (Expr.Subscript a (.Slice lo hi none p2) pos)<n+1)(h:au Φ (.Subscript a (.Slice lo hi none p2) pos) it sc ρ=.ok r l)(hp:aA l)(G:aQ Φ X sc):eO X ρ (.Subscript a (.Slice lo hi none p2) pos) it r.1 r.2:=by
 obtain⟨p,l1,l2,h1,p1,h,q2⟩:=aN (show Rs.bnd _ _=_ from h) hp
 obtain⟨q,l3,l4,h2,p3,h,p4⟩:=aN h q2
 obtain⟨q',l5,l6,h3,p5,h,p6⟩:=aN h p4
 exact bO (G.slf X ρ a lo hi p2 pos p.1 r.1 q q' p.2 r.2 l6 ((I.e a (ba (by simp<;>omega) hs) h1 p1 G).ed rfl) (I.o lo (ba (by simp<;>omega) hs) h2 p3 G) (I.o hi (ba (by simp<;>omega) hs) h3 p5 G) h p6) (fun _=>rfl)
theorem Do(I:Ih Φ n){i:Expr}(hs:sizeOf (Expr.Subscript a i pos)<n+1)(h:au Φ (.Subscript a i pos) it sc ρ=.ok r l)(hp:aA l)(G:aQ Φ X sc):eO X ρ (.Subscript a i pos) it r.1 r.2:=by
 cases i with
 | Slice lo hi st p2 =>
  cases st with
  | none=>exact xN I hs h hp G
  | some e=>exact zR I hs h hp G
 | _=>exact zR I hs h hp G
theorem A2(I:Ih Φ n)(hs:sizeOf args<n)(hf:sc.names.lookup f=some .globalImplicit)(h0:((bK Φ args sc ρ).bnd fun p=>ku Φ f it p.1 p.2)=.ok r l)(hp:aA l)(G:aQ Φ X sc):eO X ρ (.Call (.Name f p) args [] pos) it r.1 r.2:=by
 obtain⟨q,l1,l2,h1,p1,h,p2⟩:=aN h0 hp
 clear h0
 have ha:=I.es args hs h1 p1 G
 obtain⟨hst,hlen⟩:=bQ h1 p1
 unfold ku at h
 split at h
 ·rename_i F hF
  obtain⟨d,l3,l4,h2,p3,h,p4⟩:=aN h p2
  cases h
  exact bO (CA G hF hf ha hst (fun z=>by subst z;exact List.length_eq_zero_iff.mp hlen.symm) h2 p3) (fun _=>rfl)
 ·split at h
  ·rename_i B hB
   split at hB
   ·rename_i hit
    have hI:=G.itr f B hB
    refine⟨fun z=>(by rw[hit]at z;cases z),fun z=>(by rw[hit]at z;cases z),fun _ tg l' hl ht=>?_⟩
    exact hI.2 X ρ p pos args q.1 q.2 r.1 r.2 l' tg l2 G.calm (G.gl f hf) (G.bl f hI.1) ha hst hlen h p2 hl ht
   ·cases hB
  ·split at h
   ·rename_i B hB
    have hb:=G.blt f B hB
    cases args with
    | nil =>
     have e0:q.1=[]:=List.length_eq_zero_iff.mp hlen.symm
     rw[e0,hb.2.2.2.1]at h;cases h
    | cons e es=>exact bO (Ga G hb hf ha hst h p2) (fun _=>rfl)
   ·cases h
theorem xP(I:Ih Φ n)(hs:sizeOf (Expr.Call (.Name f p) args [] pos)<n+1)(h:au Φ (.Call (.Name f p) args [] pos) it sc ρ=.ok r l)(hp:aA l)(G:aQ Φ X sc):eO X ρ (.Call (.Name f p) args [] pos) it r.1 r.2:=by
 rw[iS]at h
 split at h
 ·rename_i hf
  exact A2 I (ba (by simp<;>omega) hs) hf h hp G
 ·cases h
theorem xQ(I:Ih Φ n)(hs:sizeOf (Expr.Call (.Attribute a m ap) args [] pos)<n+1)(h:au Φ (.Call (.Attribute a m ap) args [] pos) it sc ρ=.ok r l)(hp:aA l)(G:aQ Φ X sc):eO X ρ (.Call (.Attribute a m ap) args [] pos) it r.1 r.2:=by
 rw[iT]at h
 split at h
 ·rename_i hln
  obtain⟨p,l1,l2,h1,p1,h,p2⟩:=aN h hp
  obtain⟨q,l3,l4,h2,p3,h,p4⟩:=aN h p2
  obtain⟨hst,hlen⟩:=bQ h2 p3
  have hea:=(I.e a (ba (by simp<;>omega) hs) h1 p1 G).ed rfl
  have hes:=I.es args (ba (by simp<;>omega) hs) h2 p3 G
  obtain⟨x,kx⟩:=p
  unfold uQ at h
  dsimp only at h hea
  split at h
  ·rename_i n ns es
   split at h
   ·rename_i hc
    split at h
    ·rename_i F hF
     obtain⟨d,l5,l6,h3,p5,h,p6⟩:=aN h p4
     cases h
     exact bO (Cs G hF hea hes hst hlen hc.1 hc.2.1 hc.2.2 hln h3 p5) (fun _=>rfl)
    ·cases h
   ·cases h
  ·split at h
   ·rename_i hb
    split at h
    ·rename_i M hM
     exact bO (G.mth m M hM X ρ a args ap pos x kx q.1 q.2 r.1 r.2 l4 G.calm G.room hea hes hst hlen hln hb h p4) (fun _=>rfl)
    ·cases h
   ·cases h
 ·cases h
theorem AX{q:List D×Nat}{m:List Prop}(hE:∀{ρ:ae} {p:D×Nat} {l:List Prop} {X:Cx},au Φ elt false scope ρ=.ok p l->aA l->aQ Φ X scope->eO X ρ elt false p.1 p.2)
    (hB:∀{ρ:ae} {b:Bool} {l:List Prop} {X:Cx},dE Φ .And ifs scope ρ=.ok b l->aA l->aQ Φ X scope->dN X ρ .And ifs b) (hc:mJ sc scope=true) (G:aQ Φ X sc)
    (h:fu (fun d=>match bG scope tg d (flt scope ρ)with
            | none=>.st
            | some ρ'=>(dE Φ .And ifs scope ρ').bnd fun b=>cond b ((au Φ elt false scope ρ').bnd fun r=>.ok (some r) []) (.ok none [])) ds=.ok q m) (hp:aA m) (hj:q.2<=1) :
    ∃f:D->Option D,q.1=ds.filterMap f/\∀cl C s H fp,∀d∈ds,kB (jL X scope cl C (scope.names.map (·.1)) s H fp) (flt scope ρ) tg ifs elt q.2 d (f d):=by
  generalize hst:(fun d=>match bG scope tg d (flt scope ρ)with
            | none=>.st
            | some ρ'=>(dE Φ .And ifs scope ρ').bnd fun b=>cond b ((au Φ elt false scope ρ').bnd fun r=>.ok (some r) []) (.ok none []):D->Rs (Option (D×Nat)))=step at h
  obtain⟨c1,c2,c3⟩:=rG h hp
  refine⟨_,c2,fun cl C s H fp d hd=>?_⟩
  have G':=B9 (cl:=cl) (C:=C) (s:=s) (H:=H) (fp:=fp) G hc
  obtain⟨x,lx,hx,px⟩:=c1 d hd
  have c3:=c3 hj d hd
  have hs:=congrFun hst d
  unfold pf
  rw[hx]
  split at hs
  . rw[<- hs]at hx;cases hx
  . rename_i ρ' hb
    have gd:=kh G' hb
    have ext:∀x y,flt scope ρ x=some y->ρ' x=some y:=fun x y hxy=>xt hb x y (iQ hxy).2 hxy
    have hx0:=hx
    rw[<- hs]at hx
    obtain⟨b,l3,l4,h2,p3,hx,p4⟩:=aN hx px
    have ts:=(hB h2 p3 G').ts rfl
    cases b with
    | false =>
      cases hx
      exact⟨ρ',false,gd,ext,ts,rfl⟩
    | true =>
      rw[cond_true]at hx
      obtain⟨z,l5,l6,h3,p5,hx,p6⟩:=aN hx p4
      cases hx
      exact⟨ρ',true,gd,ext,ts,rfl,((hE h3 p5 G').ed rfl).up (c3 z lx hx0) hj⟩
theorem tm(I:Ih Φ n)(hs:sizeOf (Expr.ListComp elt [⟨tg,iter,ifs,0⟩] scope pos)<n+1)(h:au Φ (.ListComp elt [⟨tg,iter,ifs,0⟩] scope pos) it sc ρ=.ok r l)(hp:aA l)(G:aQ Φ X sc) :
  ∃ds f k,(ao ds=true\/k<=1)/\r.2<=1/\ds.length<sizeLine/\fF X.env scope (scope.names.map (·.1))/\(∀x d o,flt scope ρ x=some (d,o)->x∈scope.names.map (·.1))/\IE X ρ tg iter ds k /\
   (∀cl C s H fp,∀d∈ds,kB (jL X scope cl C (scope.names.map (·.1)) s H fp) (flt scope ρ) tg ifs elt r.2 d (f d))/\(∀x,foldedSetIterable iter X.env x=pure x)/\r.1=.lst (ds.filterMap f):=by
 rw[nX]at h
 split at h
 ·rename_i hc
  obtain⟨p,l1,l2,h1,p1,h,p2⟩:=aN h hp
  split at h
  ·rename_i ds hd
   split at h
   ·rename_i ht
    obtain⟨u0,l7,l8,h7,p7,h,p8⟩:=aN h p2
    cases h7
    have hl:=And.intro p7.1 p7.2.1
    obtain⟨q,l3,l4,h2,p3,h,p4⟩:=aN h p8
    split at h
    ·rename_i hj
     cases h
     obtain⟨f,e1,t⟩:=AX (fun a b c=>I.e elt (by first|omega|(simp at *;omega)) a b c) (fun a b c=>I.b .And ifs (by first|omega|(simp at *;omega)) a b c) hc G h2 p3 hj
     refine⟨ds,f,p.2,hl.2,hj,Nat.lt_of_le_of_lt hl.1 oJ,w6 G hc,fun x d o hx=>lU (iQ hx).2,(I.e iter (by first|omega|(simp at *;omega)) h1 p1 G).ie rfl tg ds hd ht,t,gD h1,by rw[e1]⟩
    ·cases h
   ·cases h
  ·cases h
 ·cases h
theorem nR{gens:List Comprehension}(h:au Φ (.ListComp elt gens scope pos) it sc ρ=.ok r l):∃tg iter ifs,gens=[⟨tg,iter,ifs,0⟩]:=by
 match gens,h with
 | [⟨tg,iter,ifs,0⟩],h=>exact⟨_,_,_,rfl⟩
 | [],h=>cases h
 | ⟨_,_,_,.ofNat (n+1)⟩::r,h=>cases r<;>cases h
 | ⟨_,_,_,.negSucc n⟩::_,h=>cases h
 | ⟨_,_,_,0⟩::_::_,h=>cases h
theorem IB(I:Ih Φ n)(e:Expr)(hs:sizeOf e<n+1)(h:au Φ e it sc ρ=.ok r l)(hp:aA l)(G:aQ Φ X sc):eO X ρ e it r.1 r.2:=by
 cases e with
 | Constant c k p =>
  replace h:(match Av c with|some d=>.ok (d,0) []|none=>.st:R1)=.ok r l:=h
  split at h
  ·rename_i d hc;cases h;exact bO (wY hc) (fun _=>rfl)
  ·cases h
 | Name x p=>exact A1 h G
 | BinOp a op b p=>exact Dq I hs h hp G
 | UnaryOp op a p=>exact Hs I hs h hp G
 | BoolOp op es p =>
  rw[nY]at h
  split at h
  ·cases h
  ·rename_i hne
   obtain⟨b,l1,l2,h1,p1,h,p2⟩:=aN h hp
   cases h
   have ne:es≠[]:=fun z=>hne (by rw[z];rfl)
   have c:=I.b op es (ba (by simp<;>omega) hs) h1 p1 G
   exact .of (c.ed ne p) fun b' hb'=>by cases hb';exact fun ow=>(c.tw ne p ow).pt
 | Compare a ops bs p =>
  match ops,bs,hs,h with
  | [op],[b],hs,h=>exact Dp I hs h hp G
  | [],bs,_,h=>cases h
  | [op],[],_,h=>cases h
  | [op],_::_::_,_,h=>cases h
  | [op,op2],[b,c],hs,h=>exact xO I hs h hp G
  | [_,_],[],_,h=>cases h
  | [_,_],[_],_,h=>cases h
  | [_,_],_::_::_::_,_,h=>cases h
  | _::_::_::_,bs,_,h=>cases h
 | IfExp c a b p=>exact Ht I hs h hp G
 | Tuple es k p =>
  obtain⟨q,l1,l2,h1,p1,h,p2⟩:=aN (show Rs.bnd _ _=_ from h) hp
  split at h
  ·rename_i hl
   unfold mk at h;cases h
   exact bO (yO (I.es es (ba (by simp<;>omega) hs) h1 p1 G) hl) (fun _=>rfl)
  ·cases h
 | List es p =>
  obtain⟨q,l1,l2,h1,p1,h,p2⟩:=aN (show Rs.bnd _ _=_ from h) hp
  split at h
  ·rename_i hl
   cases h
   exact bO (ua (I.es es (ba (by simp<;>omega) hs) h1 p1 G) hl.2 hl.1) (fun _=>rfl)
  ·cases h
 | Attribute a f p =>
  cases a with
  | Name x pn =>
   obtain⟨q,l1,l2,h1,p1,h,p2⟩:=aN (show Rs.bnd _ _=_ from h) hp
   have hea:=(I.e (.Name x pn) (ba (by simp<;>omega) hs) (it:=false) h1 p1 G).ed rfl
   obtain⟨d,kd⟩:=q
   unfold FJ at h
   dsimp only at h hea
   split at h
   ·rename_i n ns ds
    split at h
    ·rename_i hf
     split at h
     ·rename_i e hl
      cases h
      exact bO (F4 G hf hea rfl hl) (fun _=>rfl)
     ·cases h
    ·cases h
   ·cases h
  | _=>cases h
 | Dict ks vs p =>
  match ks,vs,h with
  | [],[],h=>cases h
  | _::_,_,h=>cases h
  | [],_::_,h=>cases h
 | Subscript a i p=>exact Do I hs h hp G
 | Call f args kws p =>
  cases f with
  | Name f fp =>
   cases kws with
   | nil=>exact xP I hs h hp G
   | cons _ _=>cases h
  | Attribute a m ap =>
   cases kws with
   | nil=>exact xQ I hs h hp G
   | cons _ _=>cases h
  | _=>cases h
 | ListComp elt gens scope p =>
  obtain⟨tg,iter,ifs,rfl⟩:=nR h
  obtain⟨ds,f,k,a1,a2,a3,a4,a5,a6,a7,a8,a9⟩:=tm I hs h hp G
  rw[a9]
  exact bO (Cy G.calm G.nd a1 a2 a3 a4 a5 a6 a7 a8) (fun _=>rfl)
 | _=>cases h
theorem FQ(I:Ih Φ n)(es:List Expr){r:List D×Nat}(hs:sizeOf es<n+1)(h:bK Φ es sc ρ=.ok r l)(hp:aA l)(G:aQ Φ X sc):AD X ρ es r.1 r.2:=by
 cases es with
 | nil=>cases h;exact xy
 | cons e es =>
  obtain⟨p,l1,l2,h1,p1,h,p2⟩:=aN (show Rs.bnd _ _=_ from h) hp
  obtain⟨q,l3,l4,h2,p3,h,p4⟩:=aN h p2
  cases h
  exact iq ((I.e e (ba (by simp<;>omega) hs) h1 p1 G).ed rfl) (I.es es (ba (by simp<;>omega) hs) h2 p3 G) (aM (mB h1))
theorem rV{c:Bool}{r:Rs Bool}{l:List Prop}(h:vq b r=.ok c l)(hp:aA l):(b=true/\∃m,r=.ok c m/\aA m)\/(b=false/\c=false):=by
 unfold vq at h
 split at h
 ·rename_i c' m
  cases h
  cases b with
  | true=>exact .inl ⟨rfl,m,rfl,mi hp rfl⟩
  | false=>exact .inr ⟨rfl,rfl⟩
 ·cases b with
  | true=>cases h
  | false=>cases h;exact .inr ⟨rfl,rfl⟩
theorem tK{c:Bool}{r:Rs Bool}{l:List Prop}(h:zY b r=.ok c l)(hp:aA l):(b=false/\∃m,r=.ok c m/\aA m)\/(b=true/\c=true):=by
 unfold zY at h
 split at h
 ·rename_i c' m
  cases h
  cases b with
  | false=>exact .inl ⟨rfl,m,rfl,mi hp rfl⟩
  | true=>exact .inr ⟨rfl,rfl⟩
 ·cases b with
  | false=>cases h
  | true=>cases h;exact .inr ⟨rfl,rfl⟩
theorem FS(I:Ih Φ n)(op:BoolOp)(es:List Expr)(hs:sizeOf es<n+1)(h:dE Φ op es sc ρ=.ok b l)(hp:aA l)(G:aQ Φ X sc):dN X ρ op es b:=by
 cases es with
 | nil =>
  cases op with
  | And=>cases h;exact⟨fun z=>absurd rfl z,fun z=>absurd rfl z,fun _=>vO⟩
  | Or=>cases h;exact⟨fun z=>absurd rfl z,fun z=>absurd rfl z,fun z=>(by cases z)⟩
 | cons e es =>
  cases op with
  | And =>
   obtain⟨p,l1,l2,h1,p1,h,p2⟩:=aN (show Rs.bnd _ _=_ from h) hp
   obtain⟨b',hb,h⟩:=ky h
   have c:=I.e e (ba (by simp<;>omega) hs) h1 p1 G
   have ce:=c.ed rfl
   rw[hb]at ce
   have ct:=c.td rfl b' hb
   rcases rV h p2 with⟨rfl,m,h,pm⟩|⟨rfl,rfl⟩
   ·cases es with
    | nil=>cases h;exact fw ce ct
    | cons e2 es=>exact sF ce ct (I.b .And (e2::es) (ba (by simp<;>omega) hs) h pm G)
   ·cases es with
    | nil=>exact fw ce ct
    | cons e2 es=>exact rP ce ct (fun pos=>⟨_,qt⟩) (fun pos=>⟨_,qk⟩)
  | Or =>
   obtain⟨p,l1,l2,h1,p1,h,p2⟩:=aN (show Rs.bnd _ _=_ from h) hp
   obtain⟨b',hb,h⟩:=ky h
   have c:=I.e e (ba (by simp<;>omega) hs) h1 p1 G
   have ce:=c.ed rfl
   rw[hb]at ce
   have ct:=c.td rfl b' hb
   rcases tK h p2 with⟨rfl,m,h,pm⟩|⟨rfl,rfl⟩
   ·cases es with
    | nil=>cases h;exact fw ce ct
    | cons e2 es=>exact vh ce ct (I.b .Or (e2::es) (ba (by simp<;>omega) hs) h pm G)
   ·cases es with
    | nil=>exact fw ce ct
    | cons e2 es=>exact sE ce ct (fun pos=>⟨_,qt⟩) (fun pos=>⟨_,qk⟩)
theorem FR(I:Ih Φ n)(e:Option Expr){o:Option Int}(hs:sizeOf e<n+1)(h:kO Φ e sc ρ=.ok o l)(hp:aA l)(G:aQ Φ X sc):OD X ρ e o:=by
 cases e with
 | none=>cases h;exact tN
 | some e =>
  obtain⟨p,l1,l2,h1,p1,h,p2⟩:=aN (show Rs.bnd _ _=_ from h) hp
  have c:=(I.e e (ba (by simp<;>omega) hs) h1 p1 G).ed rfl
  split at h
  ·rename_i i hi
   cases h
   rw[hi]at c
   exact tM c
  ·cases h
end
theorem gc(Φ:Fx):∀n,Ih Φ n
 | 0=>⟨fun _ _ _ _ _ _ _ h=>absurd h (Nat.not_lt_zero _),fun _ _ _ _ _ _ h=>absurd h (Nat.not_lt_zero _),fun _ _ _ _ _ _ _ h=>absurd h (Nat.not_lt_zero _),fun _ _ _ _ _ _ h=>absurd h (Nat.not_lt_zero _)⟩
 | n+1=>⟨fun e _ _ _ _ _ _ hs h hp G=>IB (gc Φ n) e hs h hp G,fun e _ _ _ _ _ hs h hp G=>FQ (gc Φ n) e hs h hp G,fun op e _ _ _ _ _ hs h hp G=>FS (gc Φ n) op e hs h hp G,fun e _ _ _ _ _ hs h hp G=>FR (gc Φ n) e hs h hp G⟩
theorem IC(e:Expr){p:D×Nat}{l:List Prop}(h:au Φ e it sc ρ=.ok p l)(hp:aA l)(G:aQ Φ X sc):eO X ρ e it p.1 p.2:=(gc Φ _).e e (Nat.lt_succ_self _) h hp G
theorem eV(es:List Expr){p:List D×Nat}{l:List Prop}(h:bK Φ es sc ρ=.ok p l)(hp:aA l)(G:aQ Φ X sc):AD X ρ es p.1 p.2:=(gc Φ _).es es (Nat.lt_succ_self _) h hp G
structure aU(ow:Ow)(H:Hp)(ow':Ow)(H':Hp):Prop where
 keep:∀a o,H a=some o->(nm o\/ow a=none)->H' a=some o
 low:∀a o,H a=some o->ow a=none->ow' a=none
theorem aU.refl(ow:Ow)(H:Hp):aU ow H ow H:=⟨fun _ _ h _=>h,fun _ _ _ h=>h⟩
theorem aU.same(s:av H H'):aU ow H ow H':=⟨fun a o h _=>s a o h,fun _ _ _ h=>h⟩
theorem aU.trans{ow1 ow2:Ow}{H2:Hp}(a:aU ow H ow1 H1)(b:aU ow1 H1 ow2 H2):aU ow H ow2 H2 :=
 ⟨fun x o h c=>b.keep x o (a.keep x o h c) (c.imp id fun z=>a.low x o h z),fun x o h z=>b.low x o (a.keep x o h (.inr z)) (a.low x o h z)⟩
def cH(H0:Hp)(ow:Ow)(H:Hp):Prop:=∀a o,H0 a=some o->H a=some o/\ow a=none
theorem cH.keep(b:cH H0 ow H)(k:aU ow H ow' H'):cH H0 ow' H':=fun a o h=>let ⟨h1,h2⟩:=b a o h;⟨k.keep a o h1 (.inr h2),k.low a o h1 h2⟩
theorem cH.sm(b:cH H0 ow H):av H0 H:=fun a o h=>(b a o h).1
variable{X:Cx}
def jS(X:Cx)(H0:Hp)(ow:Ow)(H:Hp)(fl:Fl)(D:jT):Prop :=
 match fl with
 | .nx ρ => ∀ow' σ' H',aH X ow' H' σ' ρ->σ'.length=X.N.length->aU ow H ow' H'->D.nx σ' H'
 | .bk ρ => ∀ow' σ' H',aH X ow' H' σ' ρ->σ'.length=X.N.length->aU ow H ow' H'->D.bk σ' H'
 | .ct ρ => ∀ow' σ' H',aH X ow' H' σ' ρ->σ'.length=X.N.length->aU ow H ow' H'->D.ct σ' H'
 | .rt d => ∀v H',av H0 H'->ag X.K H' (fun a b=>b=true/\H0 a=none) d v->D.rt v H'
theorem jS.keep{D:jT}(p:jS X H0 ow H fl D)(k:aU ow H ow' H'):jS X H0 ow' H' fl D:=by
 cases fl with
 | nx ρ=>exact fun ow2 σ2 H2 a b c=>p ow2 σ2 H2 a b (k.trans c)
 | bk ρ=>exact fun ow2 σ2 H2 a b c=>p ow2 σ2 H2 a b (k.trans c)
 | ct ρ=>exact fun ow2 σ2 H2 a b c=>p ow2 σ2 H2 a b (k.trans c)
 | rt d=>exact p
def sU(X:Cx)(H0:Hp)(ρ:ae)(fl:Fl):TS:=fun D σ H => ∃ow,aH X ow H σ ρ/\σ.length=X.N.length/\cH H0 ow H/\jS X H0 ow H fl D
def SD(X:Cx)(H0:Hp)(ρ:ae)(st:Stmt)(fl:Fl):Prop:=PS X st (sU X H0 ρ fl)
def dP(X:Cx)(H0:Hp)(ρ:ae)(st:List Stmt)(fl:Fl):Prop:=eN X st (sU X H0 ρ fl)
theorem A3:dP X H0 ρ [] (.nx ρ):=fun pins s σ H D I ⟨ow,E,hl,B,q⟩=>nv pins s σ H D I (q ow σ H E hl (aU.refl _ _))
theorem dS{ρ1:ae}(h1:SD X H0 ρ st (.nx ρ1))(h2:dP X H0 ρ1 ss fl):dP X H0 ρ (st::ss) fl:=fun pins s σ H D I ⟨ow,E,hl,B,q⟩ =>
 fb h1 h2 pins s σ H D I ⟨ow,E,hl,B,fun ow' σ' H' E' hl' k=>⟨ow',E',hl',B.keep k,q.keep k⟩⟩
theorem iz(h1:SD X H0 ρ st fl)(hf:∀ρ',fl ≠ .nx ρ'):dP X H0 ρ (st::ss) fl:=fun pins s σ H D I ⟨ow,E,hl,B,q⟩ =>
 fb h1 gx pins s σ H D I ⟨ow,E,hl,B,by
  cases fl with
  | nx ρ'=>exact absurd rfl (hf ρ')
  | bk ρ'=>exact q
  | ct ρ'=>exact q
  | rt d=>exact q⟩
theorem v4(h:ED X ρ e d k)(hk:k=0\/k=2):SD X H0 ρ (.Return (some e) pos) (.rt d):=fun pins s σ H D I ⟨ow,E,hl,B,q⟩ =>
 v7 (h ow) pins s σ H D I ⟨E,fun v H1 s1 r1=>q v H1 (B.sm.trans s1) (r1.imp fun a b p=>by
  rcases hk with rfl|rfl
  ·exact⟨p.1,B.sm.free p.2⟩
  ·refine⟨p.1,p.2.elim (fun z=>?_) B.sm.free⟩
   cases e0:H0 a with
   | none=>rfl
   | some o=>exact absurd (B a o e0).2 z)⟩
theorem Cn(E:aH X ow H σ ρ):aH X (fun _=>none) H σ (eZ ρ):=by
 refine⟨fun x d o h=>?_,fun a z=>absurd rfl z⟩
 unfold eZ at h
 cases e:ρ x with
 | none=>rw[e]at h;cases h
 | some y =>
  rw[e]at h
  cases h
  obtain⟨i,v,h1,h2,h3,h4⟩:=E.get x y.1 y.2 e
  exact⟨i,v,h1,h2,h3,h4.imp fun _ _ _ _=>rfl⟩
theorem Bc(h:ED X (eZ ρ) e d k)(hk:k=0\/k=2):SD X H0 ρ (.Return (some e) pos) (.rt d):=fun pins s σ H D I ⟨ow,E,hl,B,q⟩ =>
 v7 (h fun _=>none) pins s σ H D I ⟨Cn E,fun v H1 s1 r1=>q v H1 (B.sm.trans s1) (r1.imp fun a b p=>by
  rcases hk with rfl|rfl
  ·exact⟨p.1,B.sm.free p.2⟩
  ·exact⟨p.1,p.2.elim (fun z=>absurd rfl z) B.sm.free⟩)⟩
theorem Bh(h:ED X ρ e d k)(hc:∃f p args ks cp,e=.Call (.Name f p) args ks cp):SD X H0 ρ (.Expr e pos) (.nx ρ):=fun pins s σ H D I ⟨ow,E,hl,B,q⟩=>by
 obtain⟨f,p,args,ks,cp,rfl⟩:=hc
 exact fQ (h ow) rfl pins s σ H D I ⟨E,fun v H1 s1 r1=>q ow σ H1 (E.same s1) hl (aU.same s1)⟩
theorem Bb:SD X H0 ρ (.Return none pos) (.rt .non):=fun pins s σ H D I ⟨ow,E,hl,B,q⟩=>Br pins s σ H D I (q .non H B.sm (by rw[ag]))
theorem Bd:SD X H0 ρ (.Pass pos) (.nx ρ):=fun pins s σ H D I ⟨ow,E,hl,B,q⟩=>Bs pins s σ H D I (q ow σ H E hl (aU.refl _ _))
theorem x4:SD X H0 ρ (.Break pos) (.bk ρ):=fun pins s σ H D I ⟨ow,E,hl,B,q⟩=>x9 pins s σ H D I (q ow σ H E hl (aU.refl _ _))
theorem Bi:SD X H0 ρ (.Continue pos) (.ct ρ):=fun pins s σ H D I ⟨ow,E,hl,B,q⟩=>sh pins s σ H D I (q ow σ H E hl (aU.refl _ _))
theorem uD{a b:List Stmt}(hc:TD X ρ c t)(h:if t=true then dP X H0 ρ a fl else dP X H0 ρ b fl):SD X H0 ρ (.If c a b pos) fl:=by
 cases t with
 | true =>
  intro pins s σ H D I ⟨ow,E,hl,B,q⟩
  exact uF (hc ow) h gx pins s σ H D I ⟨E,fun H1 s1=>by
   show if true=true then _ else _
   rw[if_pos rfl]
   exact⟨ow,E.same s1,hl,B.keep (aU.same s1),q.keep (aU.same s1)⟩⟩
 | false =>
  intro pins s σ H D I ⟨ow,E,hl,B,q⟩
  exact uF (hc ow) gx h pins s σ H D I ⟨E,fun H1 s1=>by
   show if false=true then _ else _
   rw[if_neg Bool.false_ne_true]
   exact⟨ow,E.same s1,hl,B.keep (aU.same s1),q.keep (aU.same s1)⟩⟩
theorem n5(hN:X.N.Nodup)(hl:σ.length=X.N.length)(E:aH X ow H σ ρ)(sm:av H H1)(hi:X.N[i]?=some x)(hv:eM X.env.scope x)(r:ag X.K H1 (Kp ow H 0) d v) :
  ∃ow',aH X ow' H1 (σ.set i (some v)) (bo ρ x (d,true))/\aU ow H ow' H1:=by
 classical
 let ow':Ow:=fun a=>if H a=none/\∃o,H1 a=some o then some (some x)else ow a
 have o1:∀a o,H a=some o->ow' a=ow a:=fun a o h=>if_neg (fun z=>by rw[h]at z;cases z.1)
 have E1:aH X ow' H1 σ ρ:=⟨fun y e o h=>by
  obtain⟨j,w,e1,e2,e3,e4⟩:=E.get y e o h
  refine⟨j,w,e1,e2,e3,ag.same sm (e4.impH (fun a ob ha p=>?_) fun a p=>?_)⟩
  ·cases o with
   | true=>exact⟨p.1,(o1 a ob ha).trans p.2⟩
   | false=>exact fun z=>(o1 a ob ha).trans (p z)
  ·cases o with
   | true=>cases p.1
   | false=>exact fun z=>(by cases z),fun a ha=>by
  by_cases hz:H a=none/\∃o,H1 a=some o
  ·exact hz.2
  ·have:ow' a=ow a:=if_neg hz
   rw[this]at ha
   exact(E.own.same sm) a ha⟩
 refine⟨ow',dk hN hl E1 hi hv (r.impH (fun a o ha p=>⟨rfl,if_pos ⟨p.2,o,ha⟩⟩) fun a p=>(by cases p.1)),fun a o h _=>sm a o h,fun a o h z=>(o1 a o h).trans z⟩
theorem eg{t:Option Expr}(h:gb e=false):swapsWith e t n env=pure false:=by
 cases e<;>first|rfl|cases h
theorem hX{o:Bool}(G:aQ Φ X sc)(hx:cA sc x=true)(h:ED X ρ e d k)(ho:(k=0/\o=true)\/(k=1/\o=false))(hs:swapsWith e (some (.Name x p)) pos.line X.env=pure false) :
  SD X H0 ρ (.Assign [.Name x p] e pos) (.nx (bo ρ x (d,o))):=by
 obtain⟨g1,g2,g3,i,g4⟩:=dU G hx
 intro pins s σ H D I ⟨ow,E,hl,B,q⟩
 refine DU (i:=i) G.nd g4 g1 (h ow) hs g3 pins s σ H D I ⟨E,fun v H1 s1 r1=>?_⟩
 show D.nx (σ.set i (some v)) H1
 rcases ho with⟨rfl,rfl⟩|⟨rfl,rfl⟩
 ·obtain⟨ow',E',k'⟩:=n5 G.nd hl E s1 g4 g2 r1
  exact q ow' _ H1 E' (by rw[List.length_set];exact hl) k'
 ·exact q ow _ H1 (dk G.nd hl (E.same s1) g4 g2 r1) (by rw[List.length_set];exact hl) (aU.same s1)
theorem fz:swapsWithSole [.Tuple es n p] e k env=pure false:=by
 cases e<;>rfl
theorem ji{i:Expr}:swapsWithSole [.Subscript a i p] e k env=pure false:=by
 cases e<;>rfl
def L8(K:W.Frag)(n:Nat)(t:mN):TG:=fun v σ H Q => ∃a xs,v=.ref a/\bL K H a xs/\xs.length=n/\t xs σ H Q
theorem Ea{t:mN}(hc:X.calm=true)(h:ug X es t)
  (hn:(assignEach es X.env).length=n) (hst:(assignEach es X.env).findIdx? (·.1)=none):PG X (.Tuple es k pos) (L8 X.K n t):=by
 intro pins s σ H v u Q I r hw
 obtain⟨a,xs,e1,hq,hl,hw⟩:=hw
 subst e1
 cases r
 obtain⟨its,rv,pl,hz⟩:=I.list hq
 have hsz:(assignEach es X.env).length=its.toArray.size:=by simp[hn,<- hl,rv.length]
 rw[assign_Tuple]
 refine wpAny_bind (wpAny_standAt ?_)
 unfold unpack
 rw[hst,hsz]
 refine wpAny_bind (wpAny_holding (W.kun_itemsOf (I.ok.hd hc) pl.isList fun h' hx=>?_))
 have I1:aj X pins σ H { s with heap:=h' }:=I.kept (t':=s.toks) fun b o e=>hx b o (Nat.ne_of_lt (Heap.lt_size e)) e
 exact h pins _ σ H xs _ Q I1 (by simpa using rv) hw
theorem lK(o:ef ow H)(hf:ao ds=true\/k<=1)(r:af X.K H1 (Kp ow H k) ds vs):af X.K H1 (fun a b=>b=true->ow a=none) ds vs:=by
 rcases hf with hf|hf
 ·exact r.flat _ hf
 ·exact r.imp fun a b p hb=>by subst hb;exact eL o hf p
theorem jY(G:aQ Φ X sc)(ht:oy sc es e=false):swappedStores [.Tuple es n p] e X.env=pure none:=by
 unfold oy at ht
 cases hte:ii e with
 | false=>cases e<;>first|rfl|cases hte
 | true =>
  rw[hte]at ht
  have hc:rM sc es e=true:=by simpa using ht
  unfold rM at hc
  split at hc
  ·rename_i x px y py a b m q
   have k1:X.env.kindOf x=some .cell:=G.cc x (by simpa using hc)
   unfold swappedStores
   dsimp only
   split
   ·rfl
   ·split
    ·rfl
    ·rw[if_pos]
     rw[List.filterMap_cons_none (by simp[k1])]
     have:∀l:List Str,l.length<=1->(l.length != [Expr.Name x px,Expr.Name y py].length || l.eraseDups.length != l.length)=true:=fun l hl=>by
      have:(l.length != [Expr.Name x px,Expr.Name y py].length)=true:=by simp;omega
      rw[this];rfl
     exact this _ (Nat.le_trans (List.length_filterMap_le _ _) (Nat.le_refl _))
  ·cases hc
theorem DF(G:aQ Φ X sc)(h:ED X ρ e d k)(hd:fL d=some ds)(hf:ao ds=true\/k<=1)(hb:aV sc es ds ρ=some ρ')(ht:oy sc es e=false) :
  SD X H0 ρ (.Assign [.Tuple es n p] e pos) (.nx ρ'):=by
 obtain⟨t,h1,h2,h3,h4⟩:=jz G hb
 intro pins s σ H D I ⟨ow,E,hl,B,q⟩
 have fin:∀H1 vs,av H H1->af X.K H1 (Kp ow H k) ds vs->t vs σ H1 D.nx:=fun H1 vs s1 rl=>h4 ow vs σ H1 D.nx hl (E.same s1) (lK E.own hf rl) fun σ' hl' E'=>q ow σ' H1 E' hl' (aU.same s1)
 rcases fW hd with rfl|rfl
 ·refine fY (h ow) (lL (n:=_) G.calm h1 h2 h3) fz (jY G ht) rfl pins s σ H D I ⟨E,fun v H1 s1 r1=>?_⟩
  obtain⟨a,vs,rfl,hs,rl⟩:=eh r1
  exact⟨a,vs,rfl,hs,rl.length.symm,fin H1 vs s1 rl⟩
 ·refine fY (h ow) (Ea (n:=_) G.calm h1 h2 h3) fz (jY G ht) rfl pins s σ H D I ⟨E,fun v H1 s1 r1=>?_⟩
  obtain⟨a,vs,rfl,hs,rl⟩:=fK r1
  exact⟨a,vs,rfl,hs,rl.length.symm,fin H1 vs s1 rl⟩
theorem Hx{P:aZ}{a b:D}(h:af K H P [a,b] vs):∃x y,vs=[x,y]/\ag K H P a x/\ag K H P b y:=by
 rw[af]at h
 obtain⟨x,r,rfl,h1,h⟩:=h
 rw[af]at h
 obtain⟨y,r,rfl,h2,h⟩:=h
 rw[af]at h
 subst h
 exact⟨x,y,rfl,h1,h2⟩
theorem Be{pt:Pos}{p:D×Nat}(G:aQ Φ X sc)(h:ED X ρ e p.1 p.2)(ho:uJ sc es p=true)(ht:oy sc es e=false) :
  SD X H0 ρ (.Assign [.Tuple es n pt] e pos) (.nx (x6 es p ρ)):=by
 obtain⟨d,k⟩:=p
 unfold uJ at ho
 split at ho
 ·rename_i x px y py d1 d2 e0 e1
  have e0:d=_:=e0
  have e1:k=_:=e1
  subst e0 e1
  simp only[Bool.and_eq_true,Bool.not_eq_true',decide_eq_false_iff_not]at ho
  obtain⟨⟨⟨⟨f1,_⟩,hxy⟩,hx⟩,hy⟩:=ho
  obtain⟨g1,g2,g3,i,g4⟩:=dU G hx
  obtain⟨j1,j2,j3,j,j4⟩:=dU G hy
  have hij:i≠j:=fun z=>by subst z;rw[g4]at j4;exact hxy (Option.some.inj j4)
  intro pins s σ H D I ⟨ow,E,hl,B,q⟩
  refine fY (h ow) (lL (n:=2) G.calm (fZ (fc (i:=i) G.nd g4 g1 g3) (fZ (fc (i:=j) G.nd j4 j1 j3) ny rfl) rfl) rfl rfl) fz (jY G ht) rfl pins s σ H D I ⟨E,fun v H1 s1 r1=>?_⟩
  obtain⟨a,vs,rfl,hs,rl⟩:=eh r1
  obtain⟨v1,v2,rfl,r2,r3⟩:=Hx rl
  refine⟨a,[v1,v2],rfl,hs,rfl,v1,[v2],rfl,v2,[],rfl,rfl,?_⟩
  obtain⟨ow',E',k'⟩:=n5 G.nd hl E s1 j4 j2 r3
  have hl':(σ.set j (some v2)).length=X.N.length:=by rw[List.length_set];exact hl
  have E2:=dk (o:=false) G.nd hl' E' g4 g2 (r2.flat _ f1)
  rw[List.set_comm _ _ hij]
  exact q ow' _ H1 E2 (by rw[List.length_set];exact hl') k'
 ·cases ho
theorem uz{y:Str}{b:Expr}(G:aQ Φ X sc)(hk:X.env.scope.kind=.function)(h:lO sc x y px py a b=true)(ha:∀x p,a ≠ .Starred x p)(hb:∀x p,b ≠ .Starred x p) :
  swappedStores [.Tuple [.Name x px,.Name y py] n p] (.Tuple [a,b] n2 p2) X.env=pure (some [x,y]):=by
 unfold lO at h
 simp only[Bool.and_eq_true,Bool.not_eq_true',beq_iff_eq,decide_eq_false_iff_not]at h
 obtain⟨⟨⟨⟨⟨h1,h2⟩,h3⟩,h4⟩,h5⟩,h6⟩:=h
 have k1:X.env.kindOf x=some .local:=G.lc x h1
 have k2:X.env.kindOf y=some .local:=G.lc y h2
 have bk:X.env.blockKind=.function:=by unfold Env.blockKind;rw[hk];rfl
 have an:∀f:Expr->Bool,(∀e,(∀x p,e ≠ .Starred x p)->f e=false) -> ¬ ([a,b].any f=true):=fun f hf=>by simp[hf a ha,hf b hb]
 have fm:∀f:Expr->Option Str,f (.Name x px)=some x->f (.Name y py)=some y->[Expr.Name x px,Expr.Name y py].filterMap f=[x,y]:=fun f h1 h2=>by simp[h1,h2]
 have ed:[x,y].eraseDups=[x,y]:=by
  have e1:(!(y==x))=true:=by simp;exact fun z=>h4 z.symm
  rw[List.eraseDups_cons,List.filter_cons_of_pos (p:=fun b => !b==x) e1,List.filter_nil]
  rfl
 unfold swappedStores
 dsimp only
 rw[bk]
 refine(if_neg (by simp)).trans ?_
 refine(if_neg (an _ fun e he=>by cases e<;>first|rfl|exact absurd rfl (he _ _))).trans ?_
 rw[fm _ (by show(if (X.env.kindOf x==some NameKind.local&&px.line==px.line)=true then some x else none)=some x;rw[k1];simp) (by show(if (X.env.kindOf y==some NameKind.local&&py.line==px.line)=true then some y else none)=some y;rw[k2,h3];simp)]
 rw[ed]
 refine(if_neg (by simp)).trans ?_
 rw[h5,h6]
 rfl
theorem DG{b:Expr}{y:Str}{u v:D}(G:aQ Φ X sc)(h:AD X ρ [a,b] [u,v] k)(hf:ao [u,v]=true\/k<=1)(hp:lO sc x y px py a b=true)(ha:∀x p,a ≠ .Starred x p)(hb:∀x p,b ≠ .Starred x p) :
  SD X H0 ρ (.Assign [.Tuple [.Name x px,.Name y py] n p] (.Tuple [a,b] n2 p2) pos) (.nx (bo (bo ρ x (u,false)) y (v,false))):=by
 have hp0:=hp
 unfold lO at hp
 simp only[Bool.and_eq_true,Bool.not_eq_true',beq_iff_eq,decide_eq_false_iff_not]at hp
 obtain⟨⟨⟨⟨⟨l1,l2⟩,_⟩,hxy⟩,_⟩,_⟩:=hp
 obtain⟨g1,g2,g3,i,g4⟩:=dU (x:=x) G (by unfold cA;rw[l1];rfl)
 obtain⟨j1,j2,j3,j,j4⟩:=dU (x:=y) G (by unfold cA;rw[l2];rfl)
 have hij:i≠j:=by intro z;subst z;rw[g4]at j4;cases j4;exact hxy rfl
 intro pins s σ H D I ⟨ow,E,hl,B,q⟩
 refine DV (i:=i) (j:=j) G.calm G.nd g4 j4 hij (G.lc x l1) (G.lc y l2) (h ow) (uz G I.ok.kind hp0 ha hb) fz pins s σ H D I ⟨E,fun vs H1 s1 r1=>?_⟩
 have rs:=lK E.own hf r1
 rw[af]at rs
 obtain⟨v1,r,rfl,rv1,rs⟩:=rs
 obtain⟨v2,rfl,rv2⟩:=rs.only
 refine⟨v1,v2,rfl,?_⟩
 have E1:=dk (o:=false) G.nd hl (E.same s1) g4 g2 rv1
 have hl1:(σ.set i (some v1)).length=X.N.length:=by rw[List.length_set];exact hl
 exact q ow _ H1 (dk (o:=false) G.nd hl1 E1 j4 j2 rv2) (by rw[List.length_set];exact hl1) (aU.same s1)
theorem wX{a:Addr}(E:aH X ow H1 σ ρ)(hi:X.N[i]?=some x)(hs:σ[i]?=some (some (.ref a)))
  (hv:eM X.env.scope x) (ha:H1 a=some (.lst vs)) (ho:ow a=some (some x)) (f:ao l'=true) (r:af X.K H1 (fun _ _=>True) l' vs') :
  aH X ow (aO H1 a (.lst vs')) σ (bo ρ x (.lst l',true)):=by
 have st:∀{P:aZ},(P a true->False)->cV P P H1 (aO H1 a (.lst vs')):=fun {P} h=>⟨fun b o hb hn=>by rw[ax (fun z=>by subst z;rw[ha]at hb;cases hb;exact hn)];exact hb,fun b ws hb p=>by rw[ax (fun z=>by subst z;exact h p)];exact hb,fun _ _ _ p=>p,fun _ p=>p⟩
 have r':af X.K (aO H1 a (.lst vs')) (iF ow x true) l' vs':=af.flat _ f ((r.flat (fun _ _=>False) f).mono (st fun z=>z))
 refine⟨fun y e o h=>?_,fun b hb=>?_⟩
 ·rw[cM]at h
  by_cases hy:y=x
  ·subst hy
   rw[if_pos rfl]at h
   cases h
   exact⟨i,.ref a,hi,hv,hs,by rw[ag];exact⟨a,vs',true,rfl,aD,⟨rfl,ho⟩,r'⟩⟩
  ·rw[if_neg hy]at h
   obtain⟨j,w,e1,e2,e3,e4⟩:=E.get y e o h
   refine⟨j,w,e1,e2,e3,e4.mono (st fun p=>?_)⟩
   cases o with
   | true=>have:=p.2;rw[ho]at this;cases this;exact hy rfl
   | false=>have:=p rfl;rw[ho]at this;cases this
 ·by_cases hz:b=a
  ·subst hz;exact⟨_,aD⟩
  ·rw[ax hz];exact E.own b hb
theorem Em(E:aH X ow H σ ρ)(h:ρ x=some (.lst l,true)):∃(i:Nat) (a:Addr) (vs:List V),X.N[i]?=some x/\eM X.env.scope x/\σ[i]?=some (some (.ref a))/\H a=some (.lst vs)/\ow a=some (some x)/\af X.K H (fun _ _=>True) l vs:=by
 obtain⟨i,v,e1,e2,e3,e4⟩:=E.get x _ _ h
 rw[ag]at e4
 obtain⟨a,vs,b,rfl,hl,hp,rl⟩:=e4
 cases hp.1
 exact⟨i,a,vs,e1,e2,e3,hl,hp.2,rl.imp fun _ _ _=>True.intro⟩
theorem iL{a:Addr}(sm:av H H1)(h0:H a=some (.lst vs))(ho:ow a=some (some x)):aU ow H ow (aO H1 a (.lst vs')) :=
 ⟨fun b o h c=>by
  rw[ax (fun z=>by
   subst z
   rw[h0]at h;cases h
   rcases c with c|c
   ·exact c
   ·rw[ho]at c;cases c)]
  exact sm b o h,fun _ _ _ z=>z⟩
theorem jH(I:aj X pins σ H s){a:Addr}{o:Obj}(h:X.K.lookup a=some o):H a=none:=(I.bs a o (I.ok.mod.kin a o h)).2
mutual
def D.lsz:D->Nat
 | .lst l=>1+gT l
 | .tup l=>gT l
 | _=>0
def gT:List D->Nat
 | []=>0
 | d::l=>d.lsz+gT l
end
theorem yo(I:aj X pins σ H s){P:aZ}{a:Addr}(ha:H a=some (.lst vs))(h:ag X.K H P d (.ref a)):∃l,d=.lst l:=by
 cases d with
 | lst l=>exact⟨l,rfl⟩
 | tup l =>
  rw[ag]at h
  obtain⟨a',vs',e,hs,_⟩:=h
  cases e
  rcases hs with(q|⟨o,q⟩)|⟨o,its,n,q,_⟩
  ·rw[ha]at q;cases q
  ·rw[ha]at q;cases q
  ·rw[jH I q]at ha;cases ha
 | dct _ _=>rw[ag]at h;obtain⟨_,_,a',_,e,hl,_⟩:=h;cases e;rw[ha]at hl;cases hl
 | sn m=>rw[ag]at h;obtain⟨a',S,e,hl⟩:=h;cases e;rw[ha]at hl;cases hl
 | obj n ns es=>rw[ag]at h;obtain⟨_,_,a',C,dx,vs',e,_,_,hl,_⟩:=h;cases e;rw[ha]at hl;cases hl
 | cls n=>rw[ag]at h;obtain⟨C,o',e,_,hl,_⟩:=h;cases e;rw[jH I hl]at ha;cases ha
 | _=>rw[ag]at h;cases h
theorem xK(I:aj X pins σ H s){P:aZ}(hP:∀a b,P a b->b=true){a:Addr}(ha:cw X.K H a vs)(h:ag X.K H P d (.ref a)):∃l,d=.tup l/\af X.K H P l vs:=by
 have no:∀o,H a=some o->(∀xs,o ≠ .tup xs)->(∀p q,o ≠ .frz p q)->False:=fun o e h1 h2=>by
  rcases ha with(q|⟨o',q⟩)|⟨o',its,n,q,_⟩
  ·rw[e]at q;cases q;exact h1 _ rfl
  ·rw[e]at q;cases q;exact h2 _ _ rfl
  ·rw[jH I q]at e;cases e
 cases d with
 | lst l =>
  rw[ag]at h
  obtain⟨a',vs',b,e,hl,p,_⟩:=h
  cases e
  cases hP _ _ p
  exact(no _ hl (fun _ z=>nomatch z) fun _ _ z=>nomatch z).elim
 | tup l =>
  rw[ag]at h
  obtain⟨a',vs',e,hs,rl⟩:=h
  cases e
  have:=I.tuple_inj ha hs
  subst this
  exact⟨l,rfl,rl⟩
 | dct _ _=>rw[ag]at h;obtain⟨_,_,a',_,e,hl,_⟩:=h;cases e;exact(no _ hl (fun _ z=>nomatch z) fun _ _ z=>nomatch z).elim
 | sn m=>rw[ag]at h;obtain⟨a',S,e,hl⟩:=h;cases e;exact(no _ hl (fun _ z=>nomatch z) fun _ _ z=>nomatch z).elim
 | obj n ns es=>rw[ag]at h;obtain⟨_,_,a',C,dx,vs',e,_,_,hl,_⟩:=h;cases e;exact(no _ hl (fun _ z=>nomatch z) fun _ _ z=>nomatch z).elim
 | cls n =>
  rw[ag]at h
  obtain⟨C,o',e,_,hl,ht,_⟩:=h
  cases e
  rcases ha with(q|⟨o,q⟩)|⟨o,its,n,q,hc,_⟩
  ·rw[jH I hl]at q;cases q
  ·rw[jH I hl]at q;cases q
  ·rw[hl]at q;cases q;rw[hc]at ht;injection ht with ht;exact absurd ht (by decide)
 | _=>rw[ag]at h;cases h
mutual
theorem qg{pins:List (Addr×Obj)}{σ:L2.St}{H:Hp}{s:Shared}(I:aj X pins σ H s){P:aZ}(hP:∀a b,P a b->b=true):∀(d d':D) (v:V),ag X.K H P d v->ag X.K H P d' v->d.lsz<=d'.lsz
 | .tup l,d',v,h,h'=>by
  rw[ag]at h
  obtain⟨a,vs,rfl,hs,rl⟩:=h
  obtain⟨l',rfl,rl'⟩:=xK I hP hs h'
  rw[D.lsz,D.lsz];exact js I hP l l' vs rl rl'
 | .lst l,d',v,h,h'=>by
  rw[ag]at h
  obtain⟨a,vs,b,rfl,hs,p,rl⟩:=h
  cases hP _ _ p
  replace hs:H a=some (.lst vs):=hs
  obtain⟨l',rfl⟩:=yo I hs h'
  rw[ag]at h'
  obtain⟨a',vs',b,e,hl,p',rl'⟩:=h'
  cases e
  cases hP _ _ p'
  replace hl:H a=some (.lst vs'):=hl
  rw[hs]at hl;cases hl
  rw[D.lsz,D.lsz]
  exact Nat.add_le_add_left (js I hP l l' vs rl rl') 1
 | .non,_,_,_,_=>Nat.zero_le _
 | .bl _,_,_,_,_=>Nat.zero_le _
 | .int _,_,_,_,_=>Nat.zero_le _
 | .str _,_,_,_,_=>Nat.zero_le _
 | .dct _ _,_,_,_,_=>Nat.zero_le _
 | .typ _,_,_,_,_=>Nat.zero_le _
 | .sn _,_,_,_,_=>Nat.zero_le _
 | .obj _ _ _,_,_,_,_=>Nat.zero_le _
 | .cls _,_,_,_,_=>Nat.zero_le _
theorem js{pins:List (Addr×Obj)}{σ:L2.St}{H:Hp}{s:Shared}(I:aj X pins σ H s){P:aZ}(hP:∀a b,P a b->b=true):∀(l l':List D) (vs:List V),af X.K H P l vs->af X.K H P l' vs->gT l<=gT l'
 | [],l',vs,h,h'=>Nat.zero_le _
 | d::l,l',vs,h,h'=>by
  rw[af]at h
  obtain⟨v,r,rfl,h1,h2⟩:=h
  cases l' with
  | nil=>rw[af]at h';cases h'
  | cons d' l' =>
   rw[af]at h'
   obtain⟨v',r',e,h1',h2'⟩:=h'
   cases e
   rw[gT,gT]
   exact Nat.add_le_add (qg I hP d d' v h1 h1') (js I hP l l' r h2 h2')
end
mutual
theorem DQ{pins:List (Addr×Obj)}{σ:L2.St}{H:Hp}{s:Shared}(I:aj X pins σ H s){P:aZ}(hP:∀a b,P a b->b=true){A:Addr}{l:List D}(hA:ag X.K H P (.lst l) (.ref A)):∀(d:D) (v:V),d.lsz<(D.lst l).lsz->ag X.K H P d v->ag X.K H (fun a b=>P a b/\a≠A) d v
 | .tup m,v,hs,h=>by
  rw[ag]at h⊢
  obtain⟨a,vs,e,h1,h2⟩:=h
  exact⟨a,vs,e,h1,j5 I hP hA m vs (by rw[D.lsz]at hs;exact hs) h2⟩
 | .lst m,v,hs,h=>by
  have h0:=h
  rw[ag]at h⊢
  obtain⟨a,vs,b,e,h1,p,h2⟩:=h
  refine⟨a,vs,b,e,h1,⟨p,fun z=>?_⟩,j5 I hP hA m vs (by rw[D.lsz]at hs;omega) h2⟩
  subst e z
  have:=qg I hP _ _ _ hA h0
  exact absurd (Nat.lt_of_lt_of_le hs this) (Nat.lt_irrefl _)
 | .non,v,_,h=>by rw[ag]at h⊢;exact h
 | .bl _,v,_,h=>by rw[ag]at h⊢;exact h
 | .int _,v,_,h=>by rw[ag]at h⊢;exact h
 | .str _,v,_,h=>by rw[ag]at h⊢;exact h
 | .dct ks es,v,_,h=>by
  rw[ag]at h⊢
  obtain⟨f,e0,a,vs,e,h1,p,r⟩:=h
  refine⟨f,e0,a,vs,e,h1,⟨p,fun z=>?_⟩,r.flat _ f⟩
  subst z
  rw[ag]at hA
  obtain⟨a2,vs2,b,e2,hl,p2,_⟩:=hA
  cases e2
  cases hP _ _ p2
  replace hl:H a=some (.lst vs2):=hl
  rw[h1]at hl;cases hl
 | .typ _,v,_,h=>by rw[ag]at h⊢;exact h
 | .sn _,v,_,h=>by rw[ag]at h⊢;exact h
 | .obj n ns es,v,_,h=>h.flat _ rfl
 | .cls n,v,_,h=>h.flat _ rfl
theorem j5{pins:List (Addr×Obj)}{σ:L2.St}{H:Hp}{s:Shared}(I:aj X pins σ H s){P:aZ}(hP:∀a b,P a b->b=true){A:Addr}{l:List D}(hA:ag X.K H P (.lst l) (.ref A)):∀(m:List D) (vs:List V),gT m<(D.lst l).lsz->af X.K H P m vs->af X.K H (fun a b=>P a b/\a≠A) m vs
 | [],vs,_,h=>by rw[af]at h⊢;exact h
 | d::m,vs,hs,h=>by
  rw[af]at h⊢
  obtain⟨v,r,e,h1,h2⟩:=h
  exact⟨v,r,e,DQ I hP hA d v (by rw[gT]at hs;omega) h1,j5 I hP hA m r (by rw[gT]at hs;omega) h2⟩
end
theorem wf(I:aj X pins σ H s)(E:aH X ow H σ ρ)(h:ρ x=some (.lst l,true)):∃(i:Nat) (a:Addr) (vs:List V),X.N[i]?=some x/\eM X.env.scope x/\σ[i]?=some (some (.ref a))/\H a=some (.lst vs)/\ow a=some (some x)/\af X.K H (fun b c=>iF ow x true b c/\b≠a) l vs:=by
 obtain⟨i,v,e1,e2,e3,e4⟩:=E.get x _ _ h
 have e5:=e4
 rw[ag]at e4
 obtain⟨a,vs,b,rfl,hl,hp,rl⟩:=e4
 cases hp.1
 exact⟨i,a,vs,e1,e2,e3,hl,hp.2,j5 I (fun _ _ p=>p.1) e5 l vs (by rw[D.lsz];omega) rl⟩
theorem Ck{a:Addr}(E:aH X ow H σ ρ)(sm:av H H1)(hi:X.N[i]?=some x)(hs:σ[i]?=some (some (.ref a)))
  (hv:eM X.env.scope x) (h0:H a=some (.lst vs)) (ho:ow a=some (some x)) (r:af X.K H1 (fun b c=>(iF ow x true b c/\b≠a)\/Kp ow H 0 b c) l' vs') :
  ∃ow',aH X ow' (aO H1 a (.lst vs')) σ (bo ρ x (.lst l',true))/\aU ow H ow' (aO H1 a (.lst vs')):=by
 classical
 let ow':Ow:=fun a=>if H a=none/\∃o,H1 a=some o then some (some x)else ow a
 have o1:∀a o,H a=some o->ow' a=ow a:=fun a o h=>if_neg (fun z=>by rw[h]at z;cases z.1)
 have ha:H1 a=some (.lst vs):=sm _ _ h0
 have ho':ow' a=some (some x):=(o1 a _ h0).trans ho
 have E1:aH X ow' H1 σ ρ:=⟨fun y e o h=>by
  obtain⟨j,w,e1,e2,e3,e4⟩:=E.get y e o h
  refine⟨j,w,e1,e2,e3,ag.same sm (e4.impH (fun a ob ha p=>?_) fun a p=>?_)⟩
  ·cases o with
   | true=>exact⟨p.1,(o1 a ob ha).trans p.2⟩
   | false=>exact fun z=>(o1 a ob ha).trans (p z)
  ·cases o with
   | true=>cases p.1
   | false=>exact fun z=>(by cases z),fun a ha=>by
  by_cases hz:H a=none/\∃o,H1 a=some o
  ·exact hz.2
  ·have:ow' a=ow a:=if_neg hz
   rw[this]at ha
   exact(E.own.same sm) a ha⟩
 have st:∀{P:aZ},(P a true->False)->cV P P H1 (aO H1 a (.lst vs')):=fun {P} h=>⟨fun b o hb hn=>by rw[ax (fun z=>by subst z;rw[ha]at hb;cases hb;exact hn)];exact hb,fun b ws hb p=>by rw[ax (fun z=>by subst z;exact h p)];exact hb,fun _ _ _ p=>p,fun _ p=>p⟩
 have r1:af X.K H1 (fun b c=>iF ow' x true b c/\b≠a) l' vs':=r.impH (fun b o hb p=>by
  rcases p with⟨p,hne⟩|p
  ·refine⟨⟨rfl,?_⟩,hne⟩
   by_cases hz:H b=none/\∃o,H1 b=some o
   ·exact if_pos hz
   ·exact(if_neg hz).trans p.2
  ·exact⟨⟨rfl,if_pos ⟨p.2,o,hb⟩⟩,fun z=>by subst z;rw[p.2]at h0;cases h0⟩) fun b p=>by
  rcases p with⟨p,_⟩|p
  ·cases p.1
  ·cases p.1
 have r':af X.K (aO H1 a (.lst vs')) (iF ow' x true) l' vs':=(r1.mono (st fun z=>z.2 rfl)).imp fun _ _ p=>p.1
 refine⟨ow',⟨fun y e o h=>?_,fun b hb=>?_⟩,fun b o h c=>?_,fun b o h z=>(o1 b o h).trans z⟩
 ·rw[cM]at h
  by_cases hy:y=x
  ·subst hy
   rw[if_pos rfl]at h
   cases h
   exact⟨i,.ref a,hi,hv,hs,by rw[ag];exact⟨a,vs',true,rfl,aD,⟨rfl,ho'⟩,r'⟩⟩
  ·rw[if_neg hy]at h
   obtain⟨j,w,e1,e2,e3,e4⟩:=E1.get y e o h
   refine⟨j,w,e1,e2,e3,e4.mono (st fun p=>?_)⟩
   cases o with
   | true=>have:=p.2;rw[ho']at this;cases this;exact hy rfl
   | false=>have:=p rfl;rw[ho']at this;cases this
 ·by_cases hz:b=a
  ·subst hz;exact⟨_,aD⟩
  ·rw[ax hz];exact E1.own b hb
 ·rw[ax (fun z=>by
   subst z
   rw[h0]at h;cases h
   rcases c with c|c
   ·exact c
   ·rw[ho]at c;cases c)]
  exact sm b o h
theorem iG{env:Env}{pos:Pos}:∀{es:List Expr},(∀e∈es,∀x p,e ≠ .Starred x p)->(backTo pos (starEach es env)).all (fun x => !x.1)=true
 | [],_=>rfl
 | e::es,h=>by
  have ih:=iG (env:=env) (es:=es) (pos:=pos) fun x hx=>h x (List.mem_cons_of_mem _ hx)
  have he:=h e List.mem_cons_self
  cases e<;>first|exact absurd rfl (he _ _)|exact ih
theorem DH{M:List D->List D->Nat->Rs (List D)}(hcalm:X.calm=true)(hM:kC m M)(hx:ρ x=some (.lst l,true))(h:AD X ρ args ds k)(hst:∀e∈args,∀y p,e ≠ .Starred y p)(hlen:args.length=ds.length)
  (hn:dz x=true) (hln:(ap.endLine==cp.line)=true) (hm:M l ds k=.ok l' o) (hp:aA o):SD X H0 ρ (.Expr (.Call (.Attribute (.Name x p1) m ap) args [] cp) p4) (.nx (bo ρ x (.lst l',true))):=by
 obtain⟨id,r,sl,ty,mt,hr⟩:=hM X hcalm
 intro pins s σ H D I ⟨ow,E,hl,B,q⟩
 obtain⟨i,a,vs,g1,g2,g3,g4,g5,g6⟩:=wf I E hx
 have pn:PE X (.Name x p1) (kW i):=eR g1 g2 (cq hn).1 (cq hn).2
 have fin:∀(H1:Hp) (ws:List V),av H H1->af X.K H1 (Kp ow H k) ds ws->r (.ref a) ws H1 fun _ H2=>D.nx σ H2:=fun H1 ws s1 r1 =>
  (hr ow H H1 l ds l' k o a vs ws hm hp).2 (fun b c=>(iF ow x true b c/\b≠a)\/Kp ow H 0 b c) _ (fun _ _ p=>.inr p) E.own s1 (s1 _ _ g4) ((g6.same s1).imp fun _ _ p=>.inl p) r1 fun vs' _ rv=>by
   obtain⟨ow',E',k'⟩:=Ck E s1 g1 g3 g2 g4 g5 rv
   exact q ow' σ _ E' hl k'
 have few:ds.length<29:=(hr ow H H l ds l' k o a vs vs hm hp).1
 cases args with
 | nil =>
  have e0:ds=[]:=List.length_eq_zero_iff.mp hlen.symm
  refine fQ (Ej PySem.F.plainAttrs_list sl ty mt pn rfl hln) rfl pins s σ H D I ⟨_,g3,.inl ⟨rfl,_,bL.of g4⟩,?_⟩
  exact fin H [] (av.refl _) (by rw[e0];exact af.nil)
 | cons e es =>
  have hfew:((backTo cp (starEach (e::es) X.env)).all (fun x => !x.1)&&(backToKw cp (keywordEach [] X.env)).all (fun x=>x.1.isSome)&&decide ((e::es).length+([]:List Keyword).length+(if ([]:List Keyword).isEmpty then 0 else 1)<30))=true:=by
   rw[iG hst,hlen]
   have:decide (ds.length+0+0<30)=true:=by simp;omega
   exact this
  refine fQ (lN PySem.F.plainAttrs_list sl ty mt pn (h ow) rfl hfew hln (aM (hst e List.mem_cons_self)) (bC fun x hx=>hst x (List.mem_cons_of_mem _ hx))) rfl pins s σ H D I ⟨_,g3,.inl ⟨rfl,_,bL.of g4⟩,E,fun ws H1 s1 r1=>?_⟩
  exact fin H1 ws s1 r1
theorem lV:∀{l:List D} {j:Nat} {d:D},ao l=true->d.lless=true->ao (l.set j d)=true
 | [],j,d,h,f=>by simp[ao]
 | x::l,0,d,h,f=>by
  rw[ao,Bool.and_eq_true]at h
  rw[List.set_cons_zero,ao,Bool.and_eq_true];exact⟨f,h.2⟩
 | x::l,j+1,d,h,f=>by
  rw[ao,Bool.and_eq_true]at h
  rw[List.set_cons_succ,ao,Bool.and_eq_true];exact⟨h.1,lV h.2 f⟩
theorem af.set{K:W.Frag}{P:aZ}{H:Hp}{d:D}{v:V}(r:ag K H P d v):∀{l:List D} {vs:List V} (j:Nat),af K H P l vs->af K H P (l.set j d) (vs.set j v)
 | [],vs,j,h=>by rw[af]at h;subst h;simp;exact af.nil
 | x::l,vs,0,h=>by
  rw[af]at h
  obtain⟨w,u,rfl,h1,h2⟩:=h
  exact af.cons r h2
 | x::l,vs,j+1,h=>by
  rw[af]at h
  obtain⟨w,u,rfl,h1,h2⟩:=h
  exact af.cons h1 (af.set r j h2)
theorem xZ{i:Expr}{j:Int}(hx:ρ x=some (.lst l,true))(h:ED X ρ e d k)(hi:ED X ρ i (.int j) k2)(f:ao l=true)(fd:d.lless=true)(hn:dz x=true)(hm:ld l j d=some l')(hsl:∀a b c p,i ≠ .Slice a b c p) :
  SD X H0 ρ (.Assign [.Subscript (.Name x p1) i p2] e pos) (.nx (bo ρ x (.lst l',true))):=by
 unfold ld at hm
 cases hj:ixN l.length j with
 | none=>rw[hj]at hm;cases hm
 | some n =>
  rw[hj]at hm;cases hm
  intro pins s σ H D I ⟨ow,E,hl,B,q⟩
  obtain⟨ix,a,vs,g1,g2,g3,g4,g5,g6⟩:=Em E hx
  have pn:PE X (.Name x p1) (kW ix):=eR g1 g2 (cq hn).1 (cq hn).2
  refine fY (h ow) (qr pn (hi ow) pY (fun v=>by cases i<;>first|rfl|exact absurd rfl (hsl _ _ _ _))) ji (by cases e<;>rfl) rfl pins s σ H D I ⟨E,fun v H1 s1 r1=>?_⟩
  refine⟨_,g3,E.same s1,fun u H2 s2 r2=>?_⟩
  rw[ag]at r2;subst r2
  have s12:=s1.trans s2
  refine⟨a,vs,j,n,rfl,rfl,s12 _ _ g4,by rw[<- g6.length];exact hj,?_⟩
  exact q ow σ _ (wX (E.same s12) g1 g3 g2 (s12 _ _ g4) g5 (lV f fd) (af.set ((r1.imp fun _ _ _=>True.intro).same s2) n (g6.same s12))) hl (iL s12 g4 g5)
def HA:vB:=fun o i v H Q => ∃p kvs k,o=.ref p/\i=kV k/\H p=some (.dK kvs)/\kvs.length<sizeLine/\Q (aO H p (.dK (gS kvs k v)))
theorem xU:zw X HA:=by
 intro pins s σ H o i v ov iv u Q I ro ri rv h
 obtain⟨p,kvs,k,rfl,rfl,hp,hz,q⟩:=h
 cases ro
 obtain⟨z,hd,vs,rel,dd⟩:=(show bM X.prog X.w H s.heap p (.dK kvs)from I.hok p _ hp)
 have hz':vs.length<=sizeLine:=by rw[<- rel.length];exact z
 have hl:(gS kvs k v).length<=sizeLine:=by have:=sx kvs k v;omega
 refine wpAny_setItem_pairs (hsz:=hz') (Ai ri) dd fun h' dd' hs=>?_
 have he:∃q,h'.get? p=some q:=let ⟨q,_,_,hq,_⟩:=dd';⟨q,hq⟩
 exact⟨_,I.write (x:=p) (e:=p) (by rw[hp];exact True.intro) (.inl rfl) (fun b q hb z=>(hs.2 b hb).trans z) he (show bM X.prog X.w (aO H p (.dK (gS kvs k v))) h' p (.dK (gS kvs k v))from⟨hl,hd,_,rel.put k rv,dd'⟩),q⟩
theorem AS{k:bS}(h:ks.length=vs.length):(mF ks k).zip (eF ks vs k v)=gS (ks.zip vs) k v:=by
 unfold mF eF gS
 rw[AT h]
 cases jM ks k with
 | true =>
  rw[if_pos rfl]
  show ks.zip (List.zipWith _ ks vs)=_
  induction ks generalizing vs with
  | nil=>rfl
  | cons j ks ih =>
   cases vs with
   | nil=>cases h
   | cons w vs =>
    show(j,if j=k then v else w)::ks.zip (List.zipWith _ ks vs)=(if j=k then(j,v)else(j,w))::(ks.zip vs).map _
    rw[ih (by simpa using h)]
    split<;>rfl
 | false =>
  rw[if_neg Bool.false_ne_true]
  show(ks++[k]).zip (vs++[v])=_
  rw[List.zip_append h];rfl
theorem Bp{k:bS}{v:α}{vs:List α}(h:ks.length=vs.length):(mF ks k).length=(eF ks vs k v).length:=by
 unfold mF eF
 cases jM ks k with
 | true=>show ks.length=(List.zipWith _ ks vs).length;rw[List.length_zipWith,<- h,Nat.min_self]
 | false=>show(ks++[k]).length=(vs++[v]).length;rw[List.length_append,List.length_append,h];rfl
theorem Bo{P:aZ}{k:bS}(r:ag K H P d v)(rl:af K H P ds vs)(h:ks.length=ds.length):af K H P (eF ks ds k d) (eF ks vs k v):=by
 unfold eF
 cases jM ks k with
 | true =>
  show af K H P (List.zipWith _ ks ds) (List.zipWith _ ks vs)
  induction ks generalizing ds vs with
  | nil=>exact af.nil
  | cons j ks ih =>
   cases ds with
   | nil=>cases h
   | cons x ds =>
    rw[af]at rl
    obtain⟨w,u,rfl,h1,h2⟩:=rl
    refine af.cons ?_ (ih h2 (by simpa using h))
    by_cases hj:j=k
    ·simp only[if_pos hj];exact r
    ·simp only[if_neg hj];exact h1
 | false=>exact rl.append (af.one r)
theorem ql{k:bS}(f:ao ds=true)(fd:d.lless=true):ao (eF ks ds k d)=true:=by
 unfold eF
 cases jM ks k with
 | true =>
  show ao (List.zipWith _ ks ds)=true
  induction ks generalizing ds with
  | nil=>rfl
  | cons j ks ih =>
   cases ds with
   | nil=>rfl
   | cons x ds =>
    rw[ao,Bool.and_eq_true]at f
    show ao ((if j=k then d else x)::List.zipWith _ ks ds)=true
    rw[ao,Bool.and_eq_true]
    refine⟨?_,ih f.2⟩
    split
    ·exact fd
    ·exact f.1
 | false =>
  show ao (ds++[d])=true
  induction ds with
  | nil=>show ao [d]=true;rw[ao,fd];rfl
  | cons x ds ih =>
   rw[ao,Bool.and_eq_true]at f
   show ao (x::(ds++[d]))=true
   rw[ao,f.1,ih f.2];rfl
theorem sd_dput{i:Expr}{di:D}{key:bS}(hx:ρ x=some (.dct ks ds,true))(h:ED X ρ e d k)(hi:ED X ρ i di k2)(hk:Fe di=some key)(fd:d.lless=true)(hz:ks.length<cg)(hn:dz x=true)(hsl:∀a b c p,i ≠ .Slice a b c p) :
  SD X H0 ρ (.Assign [.Subscript (.Name x p1) i p2] e pos) (.nx (bo ρ x (.dct (mF ks key) (eF ks ds key d),true))):=by
 intro pins s σ H D I ⟨ow,E,hl,B,q⟩
 obtain⟨ix,v0,g1,g2,g3,g4⟩:=E.get x _ _ hx
 rw[ag]at g4
 obtain⟨f,e0,a,vs,rfl,ha,hp,rl⟩:=g4
 have ho:ow a=some (some x):=hp.2
 have pn:PE X (.Name x p1) (kW ix):=eR g1 g2 (cq hn).1 (cq hn).2
 refine fY (h ow) (qr pn (hi ow) xU (fun v=>by cases i<;>first|rfl|exact absurd rfl (hsl _ _ _ _))) ji (by cases e<;>rfl) rfl pins s σ H D I ⟨E,fun v H1 s1 r1=>?_⟩
 refine⟨_,g3,E.same s1,fun u H2 s2 r2=>?_⟩
 have s12:=s1.trans s2
 have el:ks.length=vs.length:=e0.trans rl.length
 refine⟨a,_,key,rfl,yx hk r2,s12 _ _ ha,?_,?_⟩
 ·rw[List.length_zip,<- el,Nat.min_self];exact Nat.lt_of_lt_of_le hz eH
 rw[<- AS el]
 have ha2:=s12 _ _ ha
 have st:∀{P:aZ} {o':HO},(P a true->False)->cV P P H2 (aO H2 a o'):=fun {P o'} h=>⟨fun b o hb hn=>by rw[ax (fun z=>by subst z;rw[ha2]at hb;cases hb;exact hn)];exact hb,fun b ws hb p=>by rw[ax (fun z=>by subst z;exact h p)];exact hb,fun _ _ _ p=>p,fun _ p=>p⟩
 have rr:af X.K H2 (fun _ _=>False) (eF ks ds key d) (eF ks vs key v):=Bo ((r1.same s2).flat _ fd) ((rl.same s12).flat _ f) e0
 refine q ow σ _ ⟨fun y e o h=>?_,fun b hb=>?_⟩ hl ⟨fun b o h c=>?_,fun _ _ _ z=>z⟩
 ·rw[cM]at h
  by_cases hy:y=x
  ·subst hy
   rw[if_pos rfl]at h
   cases h
   exact⟨ix,.ref a,g1,g2,g3,by rw[ag];exact⟨ql f fd,Bp e0,a,_,rfl,aD,⟨rfl,ho⟩,(rr.mono (st fun z=>z)).flat _ (ql f fd)⟩⟩
  ·rw[if_neg hy]at h
   obtain⟨j,w,e1,e2,e3,e4⟩:=(E.same s12).get y e o h
   refine⟨j,w,e1,e2,e3,e4.mono (st fun p=>?_)⟩
   cases o with
   | true=>have:=p.2;rw[ho]at this;cases this;exact hy rfl
   | false=>have:=p rfl;rw[ho]at this;cases this
 ·by_cases hz:b=a
  ·subst hz;exact⟨_,aD⟩
  ·rw[ax hz];exact(E.same s12).own b hb
 ·rw[ax (fun z=>by
   subst z
   rw[ha]at h;cases h
   rcases c with c|c
   ·exact c
   ·rw[ho]at c;cases c)]
  exact s12 b o h
theorem Il{op:Operator}{r:R2}(h:bZ X (inplaceOp op) r):Jg X op r:=h
theorem yy:bZ X (inplaceOp .Mult) (rI (fun i j=>eT i j) fun i j=>.int (i*j)):=qz fun _ _ _ _ _ _ _ hc q=>imul_int q (qC hc)
theorem wG:bZ X (inplaceOp .FloorDiv) (rI (fun _ j=>fq j) fun i j=>.int (i.fdiv j)):=qz fun i j _ _ _ _ _ hc q=>ifloordiv_int hc.1 q (.inl (PyProof.noPylong_of_log2 (by
 rcases Nat.eq_zero_or_pos j.natAbs with h1|hp
 ·exact absurd (by simpa using h1) hc.1
 ·exact(Nat.log2_lt (Nat.ne_of_gt hp)).mpr hc.2)))
theorem DJ{op:Operator}{a b:Int}{o:Bool}{l:List Prop}(G:aQ Φ X sc)(hx:cA sc x=true)(ha:ρ x=some (.int a,o))(h:ED X ρ e (.int b) k)(hr:zm op a b=.ok (d,k2) l)(hp:aA l) :
  SD X H0 ρ (.AugAssign (.Name x p) op e pos) (.nx (bo ρ x (d,true))):=by
 obtain⟨g1,g2,g3,i,g4⟩:=dU G hx
 obtain⟨r,hr1,hr2⟩:∃r:R2,bZ X (inplaceOp op) r/\d.lless=true/\∀H (Q:VK),(∀v,ag X.K H (fun _ _=>False) d v->Q v H)->r (.int a) (.int b) H Q:=by
  unfold zm at hr
  split at hr
  ·cases hr;exact⟨_,B5,rfl,fun H Q q=>⟨a,b,rfl,rfl,q _ (by rw[ag])⟩⟩
  ·cases hr;exact⟨_,B4,rfl,fun H Q q=>⟨a,b,rfl,rfl,q _ (by rw[ag])⟩⟩
  ·cases hr;exact⟨_,yy,rfl,fun H Q q=>⟨a,b,rfl,rfl,hp.1,q _ (by rw[ag])⟩⟩
  ·cases hr;exact⟨_,wG,rfl,fun H Q q=>⟨a,b,rfl,rfl,hp.1,q _ (by rw[ag])⟩⟩
  ·cases hr
 intro pins s σ H D I ⟨ow,E,hl,B,q⟩
 obtain⟨i2,v,e1,e2,e3,e4⟩:=E.get x _ _ ha
 rw[ag]at e4;subst e4
 have hi:i2=i:=iH G.nd e1 g4
 subst hi
 refine DW (i:=i2) G.nd g4 g1 (h ow) (Il hr1) g3 pins s σ H D I ⟨.int a,e3,E,fun v H1 s1 r1=>?_⟩
 rw[ag]at r1;subst r1
 refine hr2.2 H1 _ fun w rw'=>?_
 exact q ow _ H1 (dk G.nd hl (E.same s1) g4 g2 (rw'.flat _ hr2.1)) (by rw[List.length_set];exact hl) (aU.same s1)
theorem uX:kC "append" nJ:=fun X hc=>⟨"list.append", _,PySem.F.slot_list_append,PySem.F.type_list_append,oI,fun ow H0 H l ds l' j o a vs ws h hp=>by
 unfold nJ at h
 split at h
 ·rename_i d
  cases h
  have c:=hp.1
  refine⟨by simp,fun P Q hP oi sm ha rl rd q=>?_⟩
  obtain⟨w,rfl,rw'⟩:=rd.only
  refine⟨a,vs,w,rfl,rfl,ha,?_,q _ _ (rl.append (af.one ?_))⟩
  ·rw[<- rl.length];exact Nat.lt_trans hp.2.1 oJ
  ·rcases c with c|c
   ·exact rw'.flat _ c
   ·subst c;exact rw'.imp hP
 ·cases h⟩
theorem af.rev{K:W.Frag}{P:aZ}{H:Hp}:∀{l:List D} {vs:List V},af K H P l vs->af K H P l.reverse vs.reverse
 | [],vs,h=>by rw[af]at h;subst h;exact af.nil
 | d::l,vs,h=>by
  rw[af]at h
  obtain⟨v,r,rfl,h1,h2⟩:=h
  rw[List.reverse_cons,List.reverse_cons]
  exact(af.rev h2).append (af.one h1)
variable{X:Cx}
theorem lw(x:Str)(E:aH X ow H σ ρ):∃ow',aH X ow' H σ (demX x ρ)/\aU ow H ow' H:=by
 classical
 unfold demX
 let ow':Ow:=fun a=>if ow a=some (some x)then none else ow a
 have o1:∀a,ow a=none->ow' a=none:=fun a h=>by show(if _ then _ else _)=_;split;rfl;exact h
 refine⟨ow',⟨fun y e o h=>?_,fun a ha=>?_⟩,fun a o h _=>h,fun a o h z=>o1 a z⟩
 ·by_cases hy:y=x
  ·subst hy
   simp only[if_true]at h
   cases hd:ρ y with
   | none=>rw[hd]at h;cases h
   | some q =>
    obtain⟨d,o'⟩:=q
    rw[hd]at h
    cases h
    obtain⟨j,w,e1,e2,e3,e4⟩:=E.get y _ _ hd
    refine⟨j,w,e1,e2,e3,e4.imp fun a b p z=>?_⟩
    cases o' with
    | true=>exact if_pos p.2
    | false=>exact o1 a (p z)
  ·simp only[if_neg hy]at h
   obtain⟨j,w,e1,e2,e3,e4⟩:=E.get y e o h
   refine⟨j,w,e1,e2,e3,e4.imp fun a b p=>?_⟩
   cases o with
   | true=>exact⟨p.1,by show(if _ then _ else _)=_;rw[if_neg (fun z=>by rw[p.2]at z;cases z;exact hy rfl)];exact p.2⟩
   | false=>exact fun z=>o1 a (p z)
 ·refine E.own a fun z=>ha (o1 a z)
theorem CD(x:Str)(ρ:ae):demA x ρ=ρ\/demA x ρ=demX x ρ:=by
 cases h:ρ x with
 | none=>exact .inl (funext fun y=>by unfold demA;split;(rename_i e;subst e;rw[h];rfl);rfl)
 | some p =>
  cases hl:p.1.lless with
  | true=>exact .inl (funext fun y=>by unfold demA;split;(rename_i e;subst e;rw[h];show some (p.1,p.2&&p.1.lless)=_;rw[hl,Bool.and_true]);rfl)
  | false=>exact .inr (funext fun y=>by unfold demA demX;split;(rename_i e;subst e;rw[h];show some (p.1,p.2&&p.1.lless)=_;rw[hl,Bool.and_false];rfl);rfl)
theorem iV:∀{es:List Expr} {ow:Ow} {H:Hp} {σ:L2.St} {ρ:ae},aH X ow H σ ρ->∃ow',aH X ow' H σ (demL es ρ)/\aU ow H ow' H
 | [],ow,H,σ,ρ,E=>⟨ow,E,aU.refl _ _⟩
 | e::es,ow,H,σ,ρ,E=>by
  have one:∀x,∃ow',aH X ow' H σ (demL es (demA x ρ))/\aU ow H ow' H:=fun x=>by
   rcases CD x ρ with h|h
   ·rw[h];exact iV E
   ·rw[h]
    obtain⟨ow1,E1,k1⟩:=lw x E
    obtain⟨ow2,E2,k2⟩:=iV (es:=es) E1
    exact⟨ow2,E2,k1.trans k2⟩
  unfold demL
  split
  ·rename_i z;cases z
  ·rename_i z;cases z;exact one _
  ·rename_i z;cases z;exact one _
  ·rename_i z;cases z;exact iV E
theorem mD(E:aH X ow H σ ρ):∃ow',aH X ow' H σ (demote e ρ)/\aU ow H ow' H:=by
 unfold demote
 split
 ·exact lw _ E
 ·exact lw _ E
 ·exact iV E
 ·exact⟨ow,E,aU.refl _ _⟩
def ab{α:Type}(r:Rs α)(a:α):Prop:=∃l,r=.ok a l/\aA l
theorem ar{r:Rs α}{f:α->Rs β}{b:β}(h:ab (r.bnd f) b):∃a,ab r a/\ab (f a) b:=by
 obtain⟨l,h,hp⟩:=h
 obtain⟨a,l1,l2,h1,p1,h2,p2⟩:=aN h hp
 exact⟨a,⟨l1,h1,p1⟩,l2,h2,p2⟩
theorem am{a:α}(h:ab (.st) a):False:=by obtain⟨l,h,_⟩:=h;cases h
theorem aF{a b:α}{l:List Prop}(h:ab (.ok a l) b):a=b:=by obtain⟨m,h,_⟩:=h;cases h;rfl
theorem DI{bind:D->ae->Option ae}(hp:PassesOwn (model X.prog X.w) X.A X.env X.xe)(hcalm:X.calm=true)
  (hi:IE X (demote iter ρ) tg iter ds k) (hk:k<=1) (hg:∀d ρ ρ',bind d ρ=some ρ'->GD X ρ tg d ρ') (hb:∀ρ fl,ab (bodyF ρ) fl->dP X H0 ρ body fl) (h:ab (c7 bind bodyF ds (demote iter ρ)) fl)
  (hs:∀x,foldedSetIterable iter X.env x=pure x):SD X H0 ρ (.For tg iter body [] pos) fl:=by
 intro pins s σ H D0 I ⟨ow0,E0,hl,B0,q0⟩
 obtain⟨ow,E,k0⟩:=mD (e:=iter) E0
 have B:=B0.keep k0
 have q:=q0.keep k0
 have pb:eN X body (fun D σ H => ∃ρ fl,ab (bodyF ρ) fl/\sU X H0 ρ fl D σ H):=fun pins s σ H D I ⟨ρ1,fl1,h1,h2⟩=>hb ρ1 fl1 h1 pins s σ H D I h2
 have pg:PG X tg (fun v σ H Q => ∃g:TG,PG X tg g/\g v σ H Q):=fun pins s σ H v u Q I r ⟨g,h1,h2⟩=>h1 pins s σ H v u Q I r h2
 refine qo hp hcalm (hi ow) pg pb hs pins s σ H D0 I ⟨E,fun J H1 s1 itd=>?_⟩
 refine⟨fun i m σ' H'=>m=ds.length-i/\i<=ds.length/\∃ow' ρ',aH X ow' H' σ' ρ'/\σ'.length=X.N.length/\cH H0 ow' H'/\aU ow H1 ow' H'/\ab (c7 bind bodyF (ds.drop i) ρ') fl,
  ⟨ds.length,by simp,Nat.zero_le _,ow,_,E.same s1,hl,B.keep (aU.same s1),aU.refl _ _,h⟩,?_⟩
 rintro i m σ' H' ⟨rfl,hile,ow',ρ',E',hl',B',k',hf⟩
 have q':jS X H0 ow' H' fl D0:=q.keep ((aU.same s1).trans k')
 have st:cV (Kd ow H k H1) (Kd ow H k H1) H1 H':=⟨fun a o ha hn=>k'.keep a o ha (.inl hn),fun a vs ha p=>k'.keep a _ ha (.inr (eL E.own hk p.1)),fun _ _ _ p=>p,fun _ p=>p⟩
 have it:=itd i H' st
 by_cases hlt:i<ds.length
 ·obtain⟨go,yl⟩:=it.1 ds[i] (List.getElem?_eq_getElem hlt)
  have hdrop:ds.drop i=ds[i]::ds.drop (i+1):=List.drop_eq_getElem_cons hlt
  rw[hdrop,c7]at hf
  refine .inr ⟨go,fun σ2 H2=>i+1<=ds.length/\∃ow2 ρ2,aH X ow2 H2 σ2 ρ2/\σ2.length=X.N.length/\cH H0 ow2 H2/\aU ow H1 ow2 H2/\ab (c7 bind bodyF (ds.drop (i+1)) ρ2) fl,fun σ2 H2 n=>⟨ds.length-(i+1),by omega,rfl,n.1,n.2⟩,fun x H3 y3=>?_⟩
  obtain⟨sm3,rx⟩:=yl x H3 y3
  cases hbd:bind ds[i] ρ' with
  | none=>rw[hbd]at hf;exact(am hf).elim
  | some ρ1 =>
   rw[hbd]at hf
   dsimp only at hf
   obtain⟨g,g1,g2⟩:=hg _ _ _ hbd
   have rx':ag X.K H3 (fun a b=>b=true->ow' a=none) ds[i] x:=rx.impH (fun a o ha p _=>by
    obtain⟨o1,h1⟩:=p.2 rfl
    exact k'.low a o1 h1 (eL E.own hk p.1)) fun a _ z=>(by cases z)
   refine⟨g,g1,g2 ow' x σ' H3 _ hl' (E'.same sm3) rx' fun σ2 hl2 E2=>?_⟩
   have k3:aU ow' H' ow' H3:=aU.same sm3
   obtain⟨f1,hbo,hf⟩:=ar hf
   refine⟨ρ1,f1,hbo,ow',E2,hl2,B'.keep k3,?_⟩
   cases f1 with
   | nx ρ2=>exact fun ow2 σ3 H4 a b c=>⟨hlt,ow2,ρ2,a,b,(B'.keep k3).keep c,k'.trans (k3.trans c),hf⟩
   | ct ρ2=>exact fun ow2 σ3 H4 a b c=>⟨hlt,ow2,ρ2,a,b,(B'.keep k3).keep c,k'.trans (k3.trans c),hf⟩
   | bk ρ2=>cases aF hf;exact fun ow2 σ3 H4 a b c=>q' ow2 σ3 H4 a b (k3.trans c)
   | rt d=>cases aF hf;exact q'
 ·have ei:i=ds.length:=by omega
  subst ei
  rw[List.drop_length,c7]at hf
  cases aF hf
  exact .inl ⟨it.2 (Nat.le_refl _),q' ow' σ' H' E' hl' (aU.refl _ _)⟩
theorem xY{test:ae->Rs Bool}(hp:PassesOwn (model X.prog X.w) X.A X.env X.xe)
  (hc:∀ρ b,ab (test ρ) b->TD X ρ c b) (hb:∀ρ fl,ab (bodyF ρ) fl->dP X H0 ρ body fl) {n0:Nat} {ρ0:ae} (h:ab (kK test bodyF n0 ρ0) fl):SD X H0 ρ0 (.While c body [] pos) fl:=by
 intro pins s σ H D0 I ⟨ow,E,hl,B,q⟩
 have pc:PT X c (fun σ H Q => ∃ow ρ b,ab (test ρ) b/\vQ X ow ρ b σ H Q):=fun pins s σ H Q I ⟨ow,ρ,b,h1,h2⟩=>hc ρ b h1 ow pins s σ H Q I h2
 have pb:eN X body (fun D σ H => ∃ρ fl,ab (bodyF ρ) fl/\sU X H0 ρ fl D σ H):=fun pins s σ H D I ⟨ρ1,fl1,h1,h2⟩=>hb ρ1 fl1 h1 pins s σ H D I h2
 refine qm hp pc pb pins s σ H D0 I ?_
 refine⟨fun m σ' H' => ∃ow' ρ',aH X ow' H' σ' ρ'/\σ'.length=X.N.length/\cH H0 ow' H'/\aU ow H ow' H'/\ab (kK test bodyF m ρ') fl,⟨n0,ow,ρ0,E,hl,B,aU.refl _ _,h⟩,?_⟩
 rintro m σ' H' ⟨ow',ρ',E',hl',B',k',hw⟩
 have q':jS X H0 ow' H' fl D0:=q.keep k'
 cases m with
 | zero=>exact(am hw).elim
 | succ m =>
  rw[kK]at hw
  obtain⟨b,ht,hw⟩:=ar hw
  refine⟨ow',ρ',b,ht,E',fun H1 s1=>?_⟩
  have k1:aU ow' H' ow' H1:=aU.same s1
  cases b with
  | false =>
   cases aF hw
   exact q' ow' σ' H1 (E'.same s1) hl' k1
  | true =>
   rw[cond_true]at hw
   show if true=true then _ else _
   rw[if_pos rfl]
   refine⟨fun σ2 H2 => ∃ow2 ρ2,aH X ow2 H2 σ2 ρ2/\σ2.length=X.N.length/\cH H0 ow2 H2/\aU ow H ow2 H2/\ab (kK test bodyF m ρ2) fl,fun σ2 H2 z=>⟨m,Nat.lt_succ_self _,z⟩,?_⟩
   obtain⟨f1,hbo,hw⟩:=ar hw
   refine⟨ρ',f1,hbo,ow',E'.same s1,hl',B'.keep k1,?_⟩
   cases f1 with
   | nx ρ2=>exact fun ow2 σ3 H4 a b c=>⟨ow2,ρ2,a,b,(B'.keep k1).keep c,k'.trans (k1.trans c),hw⟩
   | ct ρ2=>exact fun ow2 σ3 H4 a b c=>⟨ow2,ρ2,a,b,(B'.keep k1).keep c,k'.trans (k1.trans c),hw⟩
   | bk ρ2=>cases aF hw;exact fun ow2 σ3 H4 a b c=>q' ow2 σ3 H4 a b (k1.trans c)
   | rt d=>cases aF hw;exact q'
theorem bA{p:D×Nat}(h:ab (au Φ e it sc ρ) p)(G:aQ Φ X sc):eO X ρ e it p.1 p.2:=let ⟨_,h,hp⟩:=h;IC e h hp G
theorem wF(h:gb e=true):(∃a b c d,e=.ListComp a b c d)\/∀(Φ:Fx) (sc:Scope) (ρ:ae),au Φ e false sc ρ=.st:=by
 cases e<;>first|exact .inl ⟨_,_,_,_,rfl⟩|exact .inr fun _ _ _=>rfl|cases h
theorem oE{r:D×Nat}{o:Bool}(G:aQ Φ X sc)(hx:cA sc x=true)(h:ab (au Φ e false sc ρ) r)(ho:(r.2=0/\o=true)\/(r.2=1/\o=false)) :
  SD X H0 ρ (.Assign [.Name x p] e pos) (.nx (bo ρ x (r.1,o))):=by
 by_cases hc:gb e=true
 ·rcases wF hc with⟨elt,gens,scope,q,rfl⟩|hno
  rotate_left
  ·rw[hno]at h;exact(am h).elim
  ·clear hc
   have hsw:∃b,swapsWith (.ListComp elt gens scope q) (some (.Name x p)) pos.line X.env=pure b:=⟨_,rfl⟩
   obtain⟨b,hsw⟩:=hsw
   cases b with
   | false=>exact hX G hx ((bA h G).ed rfl) ho hsw
   | true =>
    obtain⟨l,h,hp⟩:=h
    obtain⟨tg,iter,ifs,rfl⟩:=nR h
    obtain⟨ds,f,k1,a1,a2,a3,a4,a5,a6,a7,a8,a9⟩:=tm (gc Φ _) (Nat.lt_succ_self _) h hp G
    obtain⟨g1,g2,g3,i,g4⟩:=dU G hx
    rw[a9]
    intro pins s σ H D0 I ⟨ow,E,hl,B,q⟩
    refine Bt (D0:=D0) (i:=i) G.calm G.nd a1 a2 a3 a4 a5 a6 a7 a8 I E hsw g4 g1 g3 fun v H1 s1 r1=>?_
    rcases ho with⟨ho,rfl⟩|⟨ho,rfl⟩<;>rw[ho]at r1
    ·obtain⟨ow',E',k'⟩:=n5 G.nd hl E s1 g4 g2 r1
     exact q ow' _ H1 E' (by rw[List.length_set];exact hl) k'
    ·exact q ow _ H1 (dk G.nd hl (E.same s1) g4 g2 r1) (by rw[List.length_set];exact hl) (aU.same s1)
 ·exact hX G hx ((bA h G).ed rfl) ho (eg (by simpa using hc))
theorem sB{r:D×Nat}(h:ab (au Φ e it sc ρ) r):∀a b c p,e ≠ .Slice a b c p:=by
 intro a b c p z;subst z;exact(am h).elim
theorem qx{f:List D->Rs Fl}(h:ab (uI ρ x f) fl):∃l,ρ x=some (.lst l,true)/\dz x=true/\ab (f l) fl:=by
 unfold uI at h
 split at h
 ·rename_i l e
  split at h
  ·rename_i c
   exact⟨l,e,c,h⟩
  ·exact(am h).elim
 ·exact(am h).elim
theorem d7{a b:α}{l:List Prop}(h:ab (.ok a l) b):a=b/\aA l:=by obtain⟨m,h,hp⟩:=h;cases h;exact⟨rfl,hp⟩
theorem pR{i:D}(h:ab (m7 ρ x i d) fl):(∃l j l',ρ x=some (.lst l,true)/\ao l=true/\dz x=true/\i=.int j/\ld l j d=some l'/\d.lless=true/\fl=.nx (bo ρ x (.lst l',true)))\/False:=by
 unfold m7 at h
 split at h
 ·rename_i l e
  split at h
  ·split at h
   ·rename_i hn
    split at h
    ·rename_i l' hs
     obtain⟨h9,h1,h2,_⟩:=d7 h
     exact .inl ⟨l,_,l',e,h1,hn,rfl,hs,h2,h9.symm⟩
    ·exact(am h).elim
   ·exact(am h).elim
  ·exact(am h).elim
 ·exact(am h).elim
 ·exact(am h).elim
theorem Ek(h:ab (mq Φ es e sc ρ) fl)(G:aQ Φ X sc):SD X H0 ρ (.Assign [.Tuple es n p] e pos) fl:=by
 unfold mq at h
 split at h
 ·split at h
  ·rename_i hp
   obtain⟨q,⟨lq,h1,hq⟩,h⟩:=ar h
   split at h
   ·rename_i u v hd
    split at h
    ·rename_i hf
     cases aF h
     obtain⟨n1,_⟩:=bQ h1 hq
     have c:=eV _ h1 hq G
     rw[hd]at c
     exact DG G c hf hp (n1 _ (by simp)) (n1 _ (by simp))
    ·exact(am h).elim
   ·exact(am h).elim
  ·exact(am h).elim
 ·exact(am h).elim
theorem GY(h:ab (mw Φ tgs e sc ρ) fl)(G:aQ Φ X sc):SD X H0 ρ (.Assign tgs e pos) fl:=by
 unfold mw at h
 split at h
 ·obtain⟨p,h1,h⟩:=ar h
  unfold nr at h
  split at h
  ·rename_i hx
   split at h
   ·rename_i ho;cases aF h;exact oE G hx h1 (.inl ⟨ho,rfl⟩)
   ·rename_i ho;cases aF h;exact oE G hx h1 (.inr ⟨ho,rfl⟩)
   ·exact(am h).elim
  ·exact(am h).elim
 ·split at h
  ·exact Ek h G
  ·rename_i ht
   have ht:=Bool.eq_false_iff.mpr ht
   obtain⟨p,h1,h⟩:=ar h
   split at h
   ·rename_i ho
    cases aF h
    exact Be G ((bA h1 G).ed rfl) ho ht
   split at h
   ·rename_i ds hd
    split at h
    ·rename_i hf
     split at h
     ·rename_i ρ' hb
      cases aF h
      exact DF G ((bA h1 G).ed rfl) hd hf hb ht
     ·exact(am h).elim
    ·exact(am h).elim
   ·exact(am h).elim
 ·split at h
  ·rename_i hc
   obtain⟨p,h1,h⟩:=ar h
   obtain⟨q,h2,h⟩:=ar h
   have c2:=(bA h2 G).ed rfl
   rcases pR h with⟨l,j,l',a1,a2,a3,hj,hs,hf,rfl⟩|hF
   ·rw[hj]at c2
    exact xZ a1 ((bA h1 G).ed rfl) c2 a2 hf a3 hs (sB h2)
   ·exact hF.elim
  ·exact(am h).elim
 ·exact(am h).elim
theorem nC{p:D×Nat}{f:Int->R1}{a:D×Nat}(h:ab (iM p f) a):∃b,p.1=.int b/\ab (f b) a:=by
 obtain⟨l,h,hp⟩:=h
 obtain⟨b,h1,h2⟩:=yz h
 exact⟨b,h1,l,h2,hp⟩
theorem GX{t:Expr}{op:Operator}(h:ab (mv Φ t op e sc ρ) fl)(G:aQ Φ X sc):SD X H0 ρ (.AugAssign t op e pos) fl:=by
 unfold mv at h
 split at h
 ·split at h
  ·rename_i hx
   split at h
   ·rename_i p hp
    obtain⟨r,h1,h⟩:=ar h
    cases aF h
    obtain⟨a,ha,h3⟩:=nC h1
    obtain⟨q,h2,h4⟩:=ar h3
    obtain⟨b,hb,h5⟩:=nC h4
    obtain⟨l,h9,hpl⟩:=h5
    have c:=(bA h2 G).ed rfl
    rw[hb]at c
    obtain⟨p1,p2⟩:=p
    have ha:p1=.int a:=ha
    subst ha
    exact DJ G hx hp c h9 hpl
   ·exact(am h).elim
  ·exact(am h).elim
 ·exact(am h).elim
theorem FO(h:ab (mr Φ e sc ρ) fl)(G:aQ Φ X sc):SD X H0 ρ (.Expr e pos) fl:=by
 unfold mr at h
 split at h
 ·split at h
  ·rename_i hln
   obtain⟨p,⟨lp,h1,hp1⟩,h⟩:=ar h
   split at h
   ·rename_i M hM
    obtain⟨l,a1,a3,h⟩:=qx h
    obtain⟨l',⟨o,h2,hp2⟩,h⟩:=ar h
    cases aF h
    obtain⟨n1,n2⟩:=bQ h1 hp1
    exact DH G.calm (G.mtt _ M hM) a1 (eV _ h1 hp1 G) n1 n2 a3 hln h2 hp2
   ·exact(am h).elim
  ·exact(am h).elim
 ·obtain⟨p,h1,h⟩:=ar h
  cases aF h
  exact Bh ((bA h1 G).ed rfl) ⟨_,_,_,_,_,rfl⟩
 ·exact(am h).elim
structure Is(Φ:Fx)(n:Nat):Prop where
 s:∀(st:Stmt) {sc:Scope} {ρ:ae} {fl:Fl} {X:Cx} {H0:Hp},sizeOf st<n->ab (eU Φ st sc ρ) fl->aQ Φ X sc->PassesOwn (model X.prog X.w) X.A X.env X.xe->SD X H0 ρ st fl
 ss:∀(st:List Stmt) {sc:Scope} {ρ:ae} {fl:Fl} {X:Cx} {H0:Hp},sizeOf st<n->ab (az Φ st sc ρ) fl->aQ Φ X sc->PassesOwn (model X.prog X.w) X.A X.env X.xe->dP X H0 ρ st fl
theorem fC{p:D×Nat}{f:Bool->Rs α}{a:α}(h:ab (gK p f) a):∃b,p.1=.bl b/\ab (f b) a:=by
 obtain⟨l,h,hp⟩:=h
 obtain⟨b,h1,h2⟩:=ky h
 exact⟨b,h1,l,h2,hp⟩
theorem Iz(I:Is Φ n)(st:Stmt)(hs:sizeOf st<n+1)(h:ab (eU Φ st sc ρ) fl)(G:aQ Φ X sc)(hp:PassesOwn (model X.prog X.w) X.A X.env X.xe):SD X H0 ρ st fl:=by
 cases st with
 | Return e p =>
  cases e with
  | none=>cases aF h;exact Bb
  | some e =>
   obtain⟨p,h1,h⟩:=ar (show ab (Rs.bnd _ _) fl from h)
   unfold uE at h
   split at h
   ·rename_i hk
    cases aF h
    unfold qf at h1
    cases hn:pj e with
    | true=>rw[hn]at h1;exact Bc ((bA h1 G).ed rfl) hk
    | false=>rw[hn]at h1;exact v4 ((bA h1 G).ed rfl) hk
   ·exact(am h).elim
 | Pass p=>cases aF h;exact Bd
 | Break p=>cases aF h;exact x4
 | Continue p=>cases aF h;exact Bi
 | Assign tgs e p=>exact GY h G
 | AugAssign t op e p=>exact GX h G
 | Expr e p=>exact FO h G
 | If c a b p =>
  obtain⟨p,h1,h⟩:=ar (show ab (Rs.bnd _ _) fl from h)
  obtain⟨t,ht,h⟩:=fC h
  refine uD ((bA h1 G).td rfl t ht) ?_
  cases t with
  | true=>rw[if_pos rfl];exact I.ss _ (ba (by simp<;>omega) hs) h G hp
  | false=>rw[if_neg Bool.false_ne_true];exact I.ss _ (ba (by simp<;>omega) hs) h G hp
 | For tg it body els p =>
  rw[nW]at h
  split at h
  ·rename_i he
   have he:=List.isEmpty_iff.mp he
   subst he
   obtain⟨p,h1,h⟩:=ar h
   split at h
   ·rename_i ds hd
    split at h
    ·rename_i hk
     obtain⟨lq,h1',_⟩:=id h1
     exact DI hp G.calm ((bA h1 G).ie rfl _ ds hd hk.2) hk.1 (fun d ρ ρ' hb=>kh G hb) (fun ρ1 f1 h2=>I.ss _ (ba (by simp<;>omega) hs) h2 G hp) h (gD h1')
    ·exact(am h).elim
   ·exact(am h).elim
  ·exact(am h).elim
 | While c body els p =>
  rw[rj]at h
  split at h
  ·rename_i he
   have he:=List.isEmpty_iff.mp he
   subst he
   refine xY hp (fun ρ b hb=>?_) (fun ρ1 f1 h2=>I.ss _ (ba (by simp<;>omega) hs) h2 G hp) h
   obtain⟨p,h1,hb⟩:=ar hb
   obtain⟨t,ht,hb⟩:=fC hb
   cases aF hb
   exact(bA h1 G).td rfl _ ht
  ·exact(am h).elim
 | _=>exact(am h).elim
theorem FN(I:Is Φ n)(ss:List Stmt)(hs:sizeOf ss<n+1)(h:ab (az Φ ss sc ρ) fl)(G:aQ Φ X sc)(hp:PassesOwn (model X.prog X.w) X.A X.env X.xe):dP X H0 ρ ss fl:=by
 cases ss with
 | nil=>cases aF h;exact A3
 | cons s ss =>
  obtain⟨f1,h1,h⟩:=ar (show ab (Rs.bnd _ _) fl from h)
  have c:=I.s s (H0:=H0) (ba (by simp<;>omega) hs) h1 G hp
  cases f1 with
  | nx ρ'=>exact dS c (I.ss ss (ba (by simp<;>omega) hs) h G hp)
  | bk ρ'=>cases aF h;exact iz c (fun _ z=>(by cases z))
  | ct ρ'=>cases aF h;exact iz c (fun _ z=>(by cases z))
  | rt d=>cases aF h;exact iz c (fun _ z=>(by cases z))
theorem lX(Φ:Fx):∀n,Is Φ n
 | 0=>⟨fun _ _ _ _ _ _ h=>absurd h (Nat.not_lt_zero _),fun _ _ _ _ _ _ h=>absurd h (Nat.not_lt_zero _)⟩
 | n+1=>⟨fun e _ _ _ _ _ hs h G hp=>Iz (lX Φ n) e hs h G hp,fun e _ _ _ _ _ hs h G hp=>FN (lX Φ n) e hs h G hp⟩
theorem mn(ss:List Stmt)(h:ab (az Φ ss sc ρ) fl)(G:aQ Φ X sc)(hp:PassesOwn (model X.prog X.w) X.A X.env X.xe):dP X H0 ρ ss fl:=(lX Φ _).ss ss (Nat.lt_succ_self _) h G hp
def aw(sc:Scope):List Str:=(sc.names.filter fun y=>y.2 == .local || y.2 == .cell).map (·.1)
def c4(P:Program)(w:World)(K:W.Frag)(mg:Str->Option Value)(base:Heap)(k:Nat)(g:Str)(F:List D->Rs D):Prop :=
 ∃f fd ps,bF P w K mg base df k f fd ps (jo K F)/\mg g=some (.ref f)/\W.keepIn K (.ref f)=true/\cf K fd ps []/\(g==("__debug__" : Str))=false
theorem c4.mono(h:c4 P w K mg base j g F)(hjk:j<=k):c4 P w K mg base k g F :=
 let ⟨f,fd,ps,h1,h2⟩:=h;⟨f,fd,ps,h1.mono hjk,h2⟩
def mQ(P:Program)(w:World)(K:W.Frag)(mg:Str->Option Value)(base:Heap)(k:Nat)(g:Str)(F:List D->Rs D):Prop :=
 ∃j C f fd ps,j+1<=k/\(∀ds r l,F ds=.ok r l->r.lless=true)/\Mk K C f/\bF P w K mg base df j f fd ps (oB K g F)/\mg g=some (.ref C)/\W.nsIn K mainGlobals g=some (some (.ref C))/\dQ K C/\cf K fd ps []/\(g==("__debug__" : Str))=false
theorem mQ.mono(h:mQ P w K mg base j g F)(hjk:j<=k):mQ P w K mg base k g F :=
 let ⟨i,C,f,fd,ps,h0,h1⟩:=h;⟨i,C,f,fd,ps,Nat.le_trans h0 hjk,h1⟩
def Jm(P:Program)(w:World)(K:W.Frag)(mg:Str->Option Value)(base:Heap)(k:Nat)(g:Str)(F:List D->Rs D):Prop:=c4 P w K mg base k g F\/mQ P w K mg base k g F
def bH(P:Program)(w:World)(K:W.Frag)(mg:Str->Option Value)(base:Heap)(k:Nat)(n m:Str)(F:List D->Rs D):Prop :=
 ∃C f fd ps,W.nsIn K mainGlobals n=some (some (.ref C))/\dQ K C/\oq K C m f/\bF P w K mg base df k f fd ps (jo K F)/\cf K fd ps []
theorem bH.mono{n:Str}(h:bH P w K mg base j n m F)(hjk:j<=k):bH P w K mg base k n m F :=
 let ⟨C,f,fd,ps,h1,h2,h3,h4,h5⟩:=h;⟨C,f,fd,ps,h1,h2,h3,h4.mono hjk,h5⟩
theorem rS:∀{ps:List Str} {ds:List D} {x:Str} {d:D} {o:Bool},d0 ps ds x=some (d,o)->o=false/\∃i:Nat,ps[i]?=some x/\ds[i]?=some d
 | [],ds,x,d,o,h=>by cases ds<;>cases h
 | p::ps,[],x,d,o,h=>by cases h
 | p::ps,y::ds,x,d,o,h=>by
  replace h:(if x=p then some (y,false)else d0 ps ds x)=some (d,o):=h
  by_cases e:x=p
  ·rw[if_pos e]at h
   cases h;subst e;exact⟨rfl,0,rfl,rfl⟩
  ·rw[if_neg e]at h
   obtain⟨h1,i,h2,h3⟩:=rS h
   exact⟨h1,i+1,by simpa using h2,by simpa using h3⟩
structure mV(P:Program)(w:World)(K:W.Frag)(mg:Str->Option Value)(base:Heap)(k:Nat)(Φ:Fx):Prop where
 fn:∀g F,Φ.fn g=some F->Jm P w K mg base k g F
 con:∀x d,Φ.con x=some d->∃v u,mg x=some u/\aT v u/\∀H P,ag K H P d v
 blt:∀f B,Φ.blt f=some B->dg f B
 itr:∀f B,Φ.itr f=some B->mT f B
 mth:∀m M,Φ.mth m=some M->kD m M
 mtt:∀m M,Φ.mtt m=some M->kC m M
 slf:mO Φ.slf
 fld:∀n f,Φ.fld n f=true->∀C,W.nsIn K mainGlobals n=some (some (.ref C))->aX K C f
 omt:∀n m F,Φ.omt n m=some F->bH P w K mg base k n m F
 bl:∀n∈fE,mg n=none
def ci(Φ:Fx)(sc:Scope)(ps:List Str)(body:List Stmt)(F:List D->Rs D):Prop:=∀ds r,ab (F ds) r->ab (cm Φ sc ps body ds) r
theorem ci.self:ci Φ sc ps body (cm Φ sc ps body):=fun _ _ h=>h
theorem kg{f:Addr}{E:XK}
  (S:aK (aw (aa st)) ps (aa st)) (hΦ:mV P w K mg base k Φ) (hr:bP k (A.deeper (envOfC qual (aa st) s.heap.objs.size f cdv))) :
  aQ Φ (iW df P w K mg base (aw (aa st)) qual (aa st) f cdv A outer s H E).nox (aa st):=by
 have hun:=hr.un
 refine⟨rfl,S.nd,fun x hx=>hx,fun x hx=>hx,fun x hx=>hx,fun x hx=>hx,fun g' F' hg=>?_,hΦ.con,hΦ.blt,hΦ.itr,hΦ.mth,hΦ.mtt,hΦ.slf,hΦ.fld,fun n m F hF=>?_,hΦ.bl,?_,fun x hx=>?_,fun x _=>rfl⟩
 ·rcases hΦ.fn g' F' hg with z|z
  ·obtain⟨f',fd',ps',a1,a2,a3,a4,a5⟩:=z
   exact .inl ⟨k,f',fd',ps',a1,hr,a2,a3,a4,a5⟩
  ·obtain⟨j,C,f',fd',ps',a0,a1,a2,a3,a4⟩:=z
   exact .inr ⟨j,C,f',fd',ps',a1,a2,a3,hr.mono a0,a4⟩
 ·obtain⟨C,f',fd',ps',a1,a2,a3,a4,a5⟩:=hΦ.omt n m F hF
  exact⟨k,C,f',fd',ps',a1,a2,a3,a4,hr,a5⟩
 ·show(A.deeper _).units+70<cLine
  omega
 ·show x∈aw (aa st)
  unfold aw
  unfold cA at hx
  rw[Bool.or_eq_true]at hx
  rcases hx with hx|hx
  ·have hx:(aa st).names.lookup x=some .local:=by simpa using hx
   exact List.mem_map.mpr ⟨(x,.local),List.mem_filter.mpr ⟨PySem.mem_of_lookup hx,by simp⟩,rfl⟩
  ·have hx:(aa st).names.lookup x=some .cell:=by simpa using hx
   exact List.mem_map.mpr ⟨(x,.cell),List.mem_filter.mpr ⟨PySem.mem_of_lookup hx,by simp⟩,rfl⟩
theorem mC{f:Addr}{E:XK}
  (S:aK (aw (aa st)) ps (aa st)) (h1:af K H (fun _ _=>True) ds vs) (hl:ds.length=ps.length) :
  aH (iW df P w K mg base (aw (aa st)) qual (aa st) f cdv A outer s H E).nox (fun _=>none) H (start (aw (aa st)) vs) (d0 ps ds)/\(start (aw (aa st)) vs).length=(aw (aa st)).length:=by
 have hpl:ps.length<=(aw (aa st)).length:=by have:=congrArg List.length S.pre;rw[List.length_take]at this;omega
 have hvl:vs.length=ps.length:=by rw[<- h1.length];exact hl
 refine⟨⟨fun x d o hx=>?_,fun a ha=>absurd rfl ha⟩,by unfold L2.start;rw[List.length_append,List.length_map,List.length_replicate];omega⟩
 obtain⟨rfl,i,i1,i2⟩:=rS hx
 obtain⟨v,i3,i4⟩:=h1.get i2
 have hi:i<ps.length:=(List.getElem?_eq_some_iff.mp i1).1
 refine⟨i,v,?_,?_,?_,i4.imp fun a b _ _=>rfl⟩
 ·show(aw (aa st))[i]?=some x
  rw[<- S.pre,List.getElem?_take_of_lt hi]at i1
  exact i1
 ·rcases S.par x (List.mem_of_getElem? i1)with z|z
  ·exact .inl z
  ·exact .inr (.inl z)
 ·unfold L2.start
  rw[List.getElem?_append_left (by rw[List.length_map];omega),List.getElem?_map,i3];rfl
theorem nT{f:Addr}(Fn:jf K g qual st f fd)
  (S:aK (aw (aa st)) ps (aa st)) (hΦ:mV P w K mg base k Φ)
  (hrun:ci Φ (aa st) ps (ak st) F):bF P w K mg base df (k+1) f fd ps (jo K F):=by
 refine Fn.ok S (fun vs H Q E h=>?_) (fun cdv A outer s H vs Q E hr h=>?_)
 ·obtain⟨ds,r,l,h1,h2,hp,_⟩:=h
  have:=hrun ds r ⟨l,h2,hp⟩
  unfold cm at this
  split at this
  ·rename_i hl;rw[<- h1.length];exact hl
  ·exact(am this).elim
 ·obtain⟨ds,r,l,h1,h2,hp,q⟩:=h
  have hr1:=hrun ds r ⟨l,h2,hp⟩
  unfold cm at hr1
  split at hr1
  ·rename_i hl
   have G:=kg (outer:=outer) (H:=H) (E:=E) S hΦ hr
   obtain⟨E0,hsl⟩:=mC (P:=P) (w:=w) (mg:=mg) (base:=base) (qual:=qual) (f:=f) (cdv:=cdv) (A:=A) (outer:=outer) (s:=s) (E:=E) S h1 hl
   have B0:cH H (fun _=>none) H:=fun a o h=>⟨h,rfl⟩
   obtain⟨fl,hx,hr1⟩:=ar hr1
   cases fl with
   | rt d =>
    cases aF hr1
    exact⟨_,mn _ (H0:=H) hx G PassesOwn.never,fun _=>none,E0,hsl,B0,fun v H' sm rp=>q v H' sm rp⟩
   | nx ρ' =>
    cases aF hr1
    exact⟨_,mn _ (H0:=H) hx G PassesOwn.never,fun _=>none,E0,hsl,B0,fun ow' σ' H' _ _ kp=>q .non H' (fun a o h=>kp.keep a o h (.inr rfl)) (by rw[ag])⟩
   | bk ρ'=>exact(am hr1).elim
   | ct ρ'=>exact(am hr1).elim
  ·exact(am hr1).elim
def zS(K:W.Frag)(fs:List Str):Sp:=fun vs H Q _ => ∃x ws C dx,vs=.ref x::ws/\ws.length=fs.length/\H x=some (.ins C dx [])/\dQ K C/\(∀f∈fs,aX K C f)/\Q .non (aO H x (.ins C dx (fs.zip ws)))
theorem CN{f:Addr}(Fn:jf K g qual st f fd){a1 a2 a3 f1 f2 f3:Str}{p3 q1 q2 q3 q4 r1 r2 r3 r4:Pos}
  (hN:aw (aa st)=[s0,a1,a2,a3]) (S:aK (aw (aa st)) [s0,a1,a2,a3] (aa st)) (hv:∀x∈[s0,a1,a2,a3],eM (aa st) x) (hok:∀x∈[s0,a1,a2,a3],dz x=true)
  (hb:ak st=[.Assign [.Attribute (.Name s0 p1) f1 p2] (.Name a1 p3) p4,.Assign [.Attribute (.Name s0 q1) f2 q2] (.Name a2 q3) q4,.Assign [.Attribute (.Name s0 r1) f3 r2] (.Name a3 r3) r4]) (h12:f1≠f2) (h13:f1≠f3) (h23:f2≠f3) :
  bF P w K mg base df 1 f fd [s0,a1,a2,a3] (zS K [f1,f2,f3]):=by
 refine Fn.ok (k:=0) S (fun vs H Q E h=>?_) (fun cdv A outer s H vs Q E hr h=>?_)
 ·obtain⟨x,ws,C,dx,rfl,hl,_⟩:=h
  rw[List.length_cons,hl];rfl
 ·obtain⟨x,ws,C,dx,rfl,hl,hx,hc,hn,q⟩:=h
  obtain⟨y1,ws,rfl⟩:∃y r,ws=y::r:=by cases ws with|nil=>cases hl|cons y r=>exact⟨y,r,rfl⟩
  obtain⟨y2,ws,rfl⟩:∃y r,ws=y::r:=by cases ws with|nil=>cases hl|cons y r=>exact⟨y,r,rfl⟩
  obtain⟨y3,ws,rfl⟩:∃y r,ws=y::r:=by cases ws with|nil=>cases hl|cons y r=>exact⟨y,r,rfl⟩
  obtain rfl:ws=[]:=by cases ws with|nil=>rfl|cons _ _=>cases hl
  have nm:∀(i:Nat) (x:Str) (p:Pos),[s0,a1,a2,a3][i]?=some x->PE (iW df P w K mg base (aw (aa st)) qual (aa st) f cdv A outer s H E).nox (.Name x p) (kW i):=fun i x p hi =>
   eR (by show(aw (aa st))[i]?=some x;rw[hN];exact hi) (hv x (List.mem_of_getElem? hi)) (cq (hok x (List.mem_of_getElem? hi))).1 (cq (hok x (List.mem_of_getElem? hi))).2
  rw[hb]
  refine⟨_,fb (qp (nm 0 s0 p1 rfl) (nm 1 a1 p3 rfl) rfl) (fb (qp (nm 0 s0 q1 rfl) (nm 2 a2 q3 rfl) rfl) (nu (qp (nm 0 s0 r1 rfl) (nm 3 a3 r3 rfl) rfl))),?_⟩
  rw[hN]
  refine⟨y1,rfl,.ref x,rfl,x,C,dx,_,rfl,hx,hc,hn f1 (by simp),by decide,?_⟩
  refine⟨y2,rfl,.ref x,rfl,x,C,dx,_,rfl,aD,hc,hn f2 (by simp),by simp[cU],?_⟩
  refine⟨y3,rfl,.ref x,rfl,x,C,dx,_,rfl,aD,hc,hn f3 (by simp),?_,?_⟩
  ·have:=fo f2 y2 (cU f1 y1 []);have:=fo f1 y1 [];simp at this;omega
  ·rw[sS,sS]
   have e:cU f3 y3 (cU f2 y2 (cU f1 y1 []))=[(f1,y1),(f2,y2),(f3,y3)]:=by simp[cU,h12,h13,h23]
   rw[e]
   exact q
theorem qu{CX:gM}{f C:Addr}{sp:Sp}{E:XK}{b:Str}{t:TA}(hg:Gl X b)(hm:X.mg b=some (.ref C))(hga:W.specialIn X.K (.ref C) "__getattribute__" = some (some (.builtin "type.__getattribute__")))
  (hrd:W.readsIn X.K C mc=true) (hfc:W.findCls X.K (.ref C) mc m=some (.val (.ref f))) (hk:W.keepIn X.K (.ref f)=true) (F:bF X.prog X.w X.K X.mg X.base CX k f fd ps sp) (hr:bP k X.A) (hb:cf X.K fd ps []) (hx:eD CX X E) (ha:PA X (e::es) t)
  (hst:starEach (e::es) X.env=(false,eval e X.env)::starEach es X.env) (hpl:(backTo pos (starEach es X.env)).any (·.1)=false) (hdb:(b==("__debug__" : Str))=false)
  (ht:eval (.Call (.Attribute (.Name b p) m apos) (e::es) [] pos) X.env=(do
   let ov <- eval (.Name b p) X.env
   standAt apos.atName
   let (f,first) <- holding [ov] (getMethod ov m (do return (<- importBound (.Name b p) X.env).getD true))
   callWith pos f first (backTo pos (starEach (e::es) X.env)) (backToKw pos (keywordEach [] X.env)))) :
  PE X (.Call (.Attribute (.Name b p) m apos) (e::es) [] pos) (uy sp [] E t):=by
 intro pins s σ H Q I h
 refine W.methodCall_KW (pl:=(do return (<- importBound (.Name b p) X.env).getD true)) (fR I hg hm ?_ hdb) ht
 refine W.method_cls I.kIn hga (W.cls_value I.kIn hrd hfc rfl ?_)
 have I':=I.tok (s.toks+1)
 refine W.callWith_K (first:=[]) (h₀:=X.base) I.ok.mod.kin hk (aJ (ha pos pins _ σ H _ I' h) fun us s2 ⟨vs,H2,I2,r,q2⟩=>⟨I2.kIn,?_⟩) hst hpl
 exact jr (us:=us) F hr hb .nil hx I2 r q2
mutual
def D.noObj:D->Bool
 | .obj _ _ _=>false
 | .tup l=>ej l
 | .lst l=>ej l
 | .dct _ l=>ej l
 | _=>true
def ej:List D->Bool
 | []=>true
 | d::l=>d.noObj&&ej l
end
mutual
theorem ag.off{K:W.Frag}{P:aZ}{H H':Hp}{x C dx:Addr}{fs:List (Str×V)}(hx:H x=some (.ins C dx fs))(s:∀a o,a≠x->H a=some o->H' a=some o):∀{d:D} {v:V},d.noObj=true->ag K H P d v->ag K H' P d v
 | .non,v,_,h=>by rw[ag]at h⊢;exact h
 | .bl b,v,_,h=>by rw[ag]at h⊢;exact h
 | .int i,v,_,h=>by rw[ag]at h⊢;exact h
 | .str x,v,_,h=>by rw[ag]at h⊢;exact h
 | .dct ks es,v,f,h=>by
  rw[ag]at h⊢
  obtain⟨f0,e0,a,vs,e,h1,p,r⟩:=h
  exact⟨f0,e0,a,vs,e,s _ _ (j7 h1 hx (fun z=>nomatch z)) h1,p,af.off hx s (by rw[D.noObj]at f;exact f) r⟩
 | .typ n,v,_,h=>by rw[ag]at h⊢;exact h
 | .sn n,v,_,h=>by
  rw[ag]at h⊢
  obtain⟨a,S,e,h⟩:=h
  exact⟨a,S,e,s _ _ (j7 h hx (fun z=>nomatch z)) h⟩
 | .obj n ns ds,v,f,h=>by rw[D.noObj]at f;cases f
 | .cls n,v,_,h=>by rw[ag]at h⊢;exact h
 | .tup l,v,f,h=>by
  rw[ag]at h⊢
  obtain⟨a,vs,e,h,r⟩:=h
  refine⟨a,vs,e,?_,af.off hx s (by rw[D.noObj]at f;exact f) r⟩
  rcases h with(h|⟨o,h⟩)|h
  ·exact .inl (.inl (s _ _ (j7 h hx (fun z=>nomatch z)) h))
  ·exact .inl (.inr ⟨o,s _ _ (j7 h hx (fun z=>nomatch z)) h⟩)
  ·exact .inr h
 | .lst l,v,f,h=>by
  rw[ag]at h⊢
  obtain⟨a,vs,b,e,h,p,r⟩:=h
  refine⟨a,vs,b,e,?_,p,af.off hx s (by rw[D.noObj]at f;exact f) r⟩
  cases b with
  | true=>exact s _ _ (j7 h hx (fun z=>nomatch z)) h
  | false =>
   rcases h with⟨o,h⟩|h
   ·exact .inl ⟨o,s _ _ (j7 h hx (fun z=>nomatch z)) h⟩
   ·exact .inr h
theorem af.off{K:W.Frag}{P:aZ}{H H':Hp}{x C dx:Addr}{fs:List (Str×V)}(hx:H x=some (.ins C dx fs))(s:∀a o,a≠x->H a=some o->H' a=some o):∀{l:List D} {vs:List V},ej l=true->af K H P l vs->af K H' P l vs
 | [],vs,_,h=>by rw[af]at h⊢;exact h
 | d::l,vs,f,h=>by
  rw[af]at h⊢
  rw[ej,Bool.and_eq_true]at f
  obtain⟨v,r,e,h1,h2⟩:=h
  exact⟨v,r,e,ag.off hx s f.1 h1,af.off hx s f.2 h2⟩
end
def aL(s:Stmt)(j:Nat):Stmt:=(match s with | .ClassDef _ _ _ b _ _ _ _ _ _ _=>b|_=>[]).getD j (.Pass ⟨0,0,0,0⟩)
def qV(s:Stmt):List Expr:=match ak s with
 | [.Expr (.Call _ (_::args) _ _) _]=>args
 | _=>[]
def fO(Φ:Fx)(sc:Scope)(ps:List Str)(args:List Expr)(n:Str)(fs:List Str)(ds:List D):Rs D :=
 if ds.length+1=ps.length then(bK Φ args sc (d0 ps (.obj n [] []::ds))).bnd fun q=>if q.1.length=fs.length then .ok (.obj n fs q.1) [ao q.1=true,ej q.1=true]else .st else .st
theorem t3{f f0:Addr}{fd0:FuncData}{ps0:List Str}{n b:Str}{C0:Addr}{pb p0:Pos}(Fn:jf K g qual st f fd)
  (S:aK (aw (aa st)) ps (aa st)) (hΦ:mV P w K mg base k Φ) (hF0:bF P w K mg base df k f0 fd0 ps0 (zS K fs)) (hb0:cf K fd0 ps0 []) (hk0:W.keepIn K (.ref f0)=true)
  (hgb:(aa st).names.lookup b=some .globalImplicit) (hm:mg b=some (.ref C0)) (hga:W.specialIn K (.ref C0) "__getattribute__" = some (some (.builtin "type.__getattribute__"))) (hrd:W.readsIn K C0 mc=true) (hfc:W.findCls K (.ref C0) mc "__init__" = some (.val (.ref f0)))
  (hbody:ak st=[.Expr (.Call (.Attribute (.Name b pb) "__init__" ap) (.Name s0 p0::args) [] cp) p4]) (hs0:ps[0]?=some s0) (hok:dz s0=true) (hdb:(b==("__debug__" : Str))=false) (hln:(ap.endLine==cp.line)=true) (hfew:args.length<28)
  (hna:∀C,W.nsIn K mainGlobals n=some (some (.ref C))->∀x∈fs,aX K C x):bF P w K mg base df (k+1) f fd ps (oB K n (fO Φ (aa st) ps args n fs)):=by
 refine Fn.ok S (fun vs H Q E h=>?_) (fun cdv A outer s H vs Q E hr h=>?_)
 ·obtain⟨x,ws,C,dx,ds,r,l,rfl,hx,hns,hc,r1,hF,_⟩:=h
  unfold fO at hF
  split at hF
  ·rename_i hl;rw[List.length_cons,<- r1.length];exact hl
  ·cases hF
 ·obtain⟨x,ws,C,dx,ds,r,l,rfl,hx,hns,hc,r1,hF,hp,hl,q⟩:=h
  unfold fO at hF
  split at hF
  ·rename_i hlen
   obtain⟨qv,l1,l2,h1,p1,hF,p2⟩:=aN hF hp
   split at hF
   ·rename_i hfl
    cases hF
    have G:=kg (outer:=outer) (H:=H) (E:=E) S hΦ hr
    have r0:af K H (fun _ _=>True) (.obj n [] []::ds) (.ref x::ws):=af.cons (by rw[ag];exact⟨rfl,rfl,x,C,dx,[],rfl,hns,hc,hx,af.nil⟩) r1
    obtain⟨E0,hsl⟩:=mC (P:=P) (w:=w) (mg:=mg) (base:=base) (qual:=qual) (f:=f) (cdv:=cdv) (A:=A) (outer:=outer) (s:=s) (E:=E) S r0 hlen
    obtain⟨hst,hal⟩:=bQ h1 p1
    have ad:=eV args h1 p1 G
    have hi0:(aw (aa st))[0]?=some s0:=by
     have hp0:=(List.getElem?_eq_some_iff.mp hs0).1
     have hs1:=hs0
     rw[<- S.pre,List.getElem?_take_of_lt hp0]at hs1
     exact hs1
    have hv0:eM (aa st) s0:=by
     rcases S.par s0 (List.mem_of_getElem? hs0)with z|z
     ·exact .inl z
     ·exact .inr (.inl z)
    have hst':∀e∈Expr.Name s0 p0::args,∀y p,e ≠ .Starred y p:=fun e he=>by
     rcases List.mem_cons.mp he with rfl|he
     ·intro _ _ z;cases z
     ·exact hst e he
    rw[hbody]
    refine⟨_,nu (fQ (qu (G.gl b hgb) hm hga hrd hfc hk0 hF0 hr hb0 gy (nA (eR (i:=0) hi0 hv0 (cq hok).1 (cq hok).2) (ad (fun _=>none)) (aM fun _ _ z=>by cases z)) (aM fun _ _ z=>by cases z) (bC hst) hdb (u8 (dG rfl) (ik hst' (by rw[List.length_cons];omega)) hln)) rfl),?_⟩
    refine⟨.ref x,?_,E0,fun vs H1 s1 rv=>?_⟩
    ·have hn:0<(aw (aa st)).length:=(List.getElem?_eq_some_iff.mp hi0).1
     rfl
    ·refine⟨x,vs++[],C,dx,rfl,by rw[List.append_nil,<- rv.length];exact hfl,s1 _ _ hx,hc,hna C hns,q _ (fun a o ha h=>?_) ?_⟩
     ·rw[ax ha];exact s1 _ _ h
     ·rw[ag,List.append_nil]
      exact⟨p2.1,hfl.symm,x,C,dx,vs,rfl,hns,hc,aD,((rv.off (s1 _ _ hx) (fun a o ha h=>by rw[ax ha];exact h) p2.2.1).imp fun _ _ _=>True.intro)⟩
   ·cases hF
  ·cases hF
theorem cv{f:Addr}(Fn:jf K g qual st f fd)
  (S:aK (aw (aa st)) ps (aa st)) (hm:mg g=some (.ref f)) (hb:cf K fd ps []) (hd:(g==("__debug__" : Str))=false)
  (hΦ:mV P w K mg base k Φ) (hrun:ci Φ (aa st) ps (ak st) F):c4 P w K mg base (k+1) g F :=
 ⟨f,fd,ps,nT Fn S hΦ hrun,hm,Fn.kp,hb,hd⟩
theorem ac{Pr:α->Prop}{x:α}{l:List α}(h1:Pr x)(h2:∀y∈l,Pr y):∀y∈x::l,Pr y:=fun y hy=>(List.mem_cons.mp hy).elim (fun e=>e ▸ h1) (h2 y)
theorem al{Pr:α->Prop}:∀y∈([]:List α),Pr y:=fun y hy=>by cases hy
theorem FB{a:Addr}{ns:List Int}(hO:r6 H)(hS:bL K H a (ns.map V.int))(h:ab (F [.lst (ns.map D.int)]) (.bl true)):jo K F [.ref a] H (fun v _=>v=.bl true) fun _ _ _=>False:=by
 obtain⟨l,h,hp⟩:=h
 refine⟨[.lst (ns.map D.int)],.bl true,l,af.one ?_,h,hp,fun v H' _ r=>by rw[ag]at r;exact r⟩
 rw[ag]
 rcases hS with(hS|hS)|hS
 ·rcases hO a with z|⟨o,xs,z⟩
  ·rw[z]at hS;cases hS
  ·rw[z]at hS;cases hS
 ·exact⟨a,_,false,rfl,.inl hS,True.intro,af.ofInts⟩
 ·exact⟨a,_,false,rfl,.inr hS,True.intro,af.ofInts⟩
abbrev oX(P:Program)(w:World)(K:W.Frag)(mg:Str->Option Value)(base:Heap)(k:Nat):Str×(List D->Rs D)->Prop:=fun p=>Jm P w K mg base k p.1 p.2
abbrev fi(mg:Str->Option Value)(K:W.Frag):Str×D->Prop:=fun p => ∃v u,mg p.1=some u/\aT v u/\∀H P,ag K H P p.2 v
abbrev fI:Str×(List D->R1)->Prop:=fun p=>dg p.1 p.2
abbrev sd:Str×(List D->Nat->R1)->Prop:=fun p=>mT p.1 p.2
abbrev ol:Str×(D->List D->R1)->Prop:=fun p=>kD p.1 p.2
abbrev vD:Str×(List D->List D->Nat->Rs (List D))->Prop:=fun p=>kC p.1 p.2
theorem bE{l:List (Str×(List D->Rs D))}{c:List (Str×D)}{b:List (Str×(List D->R1))}{i:List (Str×(List D->Nat->R1))}{m:List (Str×(D->List D->R1))}{t:List (Str×(List D->List D->Nat->Rs (List D)))}
  (hl:∀p∈l,oX P w K mg base k p) (hc:∀p∈c,fi mg K p) (hb:∀p∈b,fI p) (hi:∀p∈i,sd p) (hm:∀p∈m,ol p) (ht:∀p∈t,vD p) (hs:mO sf) (hn:∀n∈fE,mg n=none):mV P w K mg base k (Tb l c b i m t sf) :=
 ⟨fun g F h=>hl (g,F) (PySem.mem_of_lookup h),fun x d h=>hc (x,d) (PySem.mem_of_lookup h),fun f B h=>hb (f,B) (PySem.mem_of_lookup h),fun f B h=>hi (f,B) (PySem.mem_of_lookup h),fun f B h=>hm (f,B) (PySem.mem_of_lookup h),fun f B h=>ht (f,B) (PySem.mem_of_lookup h),hs,(fun _ _ h=>by cases h),(fun _ _ _ h=>by cases h),hn⟩
abbrev i6(K:W.Frag):Str×List Str->Prop:=fun p => ∀f∈p.2,∀C,W.nsIn K mainGlobals p.1=some (some (.ref C))->aX K C f
abbrev fg(P:Program)(w:World)(K:W.Frag)(mg:Str->Option Value)(base:Heap)(k:Nat):Str×List (Str×(List D->Rs D))->Prop:=fun p => ∀q∈p.2,bH P w K mg base k p.1 q.1 q.2
theorem dF{l:List (Str×(List D->Rs D))}{c:List (Str×D)}{b:List (Str×(List D->R1))}{i:List (Str×(List D->Nat->R1))}{m:List (Str×(D->List D->R1))}{t:List (Str×(List D->List D->Nat->Rs (List D)))}{fl:List (Str×List Str)}{om:List (Str×List (Str×(List D->Rs D)))}
  (hl:∀p∈l,oX P w K mg base k p) (hc:∀p∈c,fi mg K p) (hb:∀p∈b,fI p) (hi:∀p∈i,sd p) (hm:∀p∈m,ol p) (ht:∀p∈t,vD p) (hs:mO sf) (hfl:∀p∈fl,i6 K p) (hom:∀p∈om,fg P w K mg base k p) (hn:∀n∈fE,mg n=none):mV P w K mg base k (xD l c b i m t sf fl om) :=
 ⟨fun g F h=>hl (g,F) (PySem.mem_of_lookup h),fun x d h=>hc (x,d) (PySem.mem_of_lookup h),fun f B h=>hb (f,B) (PySem.mem_of_lookup h),fun f B h=>hi (f,B) (PySem.mem_of_lookup h),fun f B h=>hm (f,B) (PySem.mem_of_lookup h),fun f B h=>ht (f,B) (PySem.mem_of_lookup h),hs,
  (fun n f h C hC=>by
   replace h:(match fl.lookup n with|some fs=>fs.contains f|none=>false)=true:=h
   split at h
   ·rename_i fs e;exact hfl (n,fs) (PySem.mem_of_lookup e) f (List.contains_iff_mem.mp h) C hC
   ·cases h),
  (fun n x F h=>by
   replace h:(match om.lookup n with|some ms=>ms.lookup x|none=>none)=some F:=h
   split at h
   ·rename_i ms e;exact hom (n,ms) (PySem.mem_of_lookup e) (x,F) (PySem.mem_of_lookup h)
   ·cases h),hn⟩
theorem dw{n:Str}{f C:Addr}(Fn:jf K g qual st f fd)
  (S:aK (aw (aa st)) ps (aa st)) (hn:W.nsIn K mainGlobals n=some (some (.ref C))) (hc:dQ K C) (hm:oq K C g f) (hb:cf K fd ps [])
  (hΦ:mV P w K mg base k Φ) (hrun:ci Φ (aa st) ps (ak st) F):bH P w K mg base (k+1) n g F :=
 ⟨C,f,fd,ps,hn,hc,hm,nT Fn S hΦ hrun,hb⟩
theorem qH{n:Str}{C f:Addr}(hF:∀ds r l,F ds=.ok r l->r.lless=true)(hM:Mk K C f)(h:bF P w K mg base df k f fd ps (oB K n F))(hm:mg n=some (.ref C))
  (hn:W.nsIn K mainGlobals n=some (some (.ref C))) (hc:dQ K C) (hb:cf K fd ps []) (hd:(n==("__debug__" : Str))=false):mQ P w K mg base (k+1) n F:=⟨k,C,f,fd,ps,Nat.le_refl _,hF,hM,h,hm,hn,hc,hb,hd⟩
theorem md{n:Str}:∀ds r l,fO Φ sc ps args n fs ds=.ok r l->r.lless=true:=fun ds r l h=>by
 unfold fO at h
 split at h
 ·unfold Rs.bnd at h
  split at h
  ·cases h
  ·split at h
   ·cases h
   ·rename_i e
    cases h
    dsimp only at e
    split at e
    ·cases e;rfl
    ·cases e
 ·cases h
theorem n8{C:Addr}{od:Option Addr}{dat:Data}{sl:Array (Option Value)}(hm:mg x=some (.ref C))(hn:W.nsIn K mainGlobals x=some (some (.ref C)))(hl:K.lookup C=some ⟨.type "type", od,dat,sl⟩)(ho:mU K C)(ha:AR K C x):fi mg K (x,.cls x) :=
 ⟨.ref C,.ref C,hm,rfl,fun H P=>by rw[ag];exact⟨C,_,rfl,hn,hl,rfl,ho,ha⟩⟩
theorem CF{y:Str}{t:Tok}(hm:mg x=some (.str y t)):fi mg K (x,.str y):=⟨.str y,.str y t,hm,⟨t,rfl⟩,fun H P=>by rw[ag]⟩
theorem CG{y:Int}{t:Tok}(hm:mg x=some (.int y t)):fi mg K (x,.int y):=⟨.int y,.int y t,hm,⟨t,rfl⟩,fun H P=>by rw[ag]⟩
open AutoSeq1 (wpAny_loadPart')
theorem FY(tu:Addr)(vs:Array Value)(n:Nat)(dc:Option Addr)(so:Array (Option Value)) :
  Meets (Builtin.«enumerate.__new__» ⟨[.type "enumerate", .ref tu],[]⟩) (fun _ R st=>st.heap.get? tu=some { cls:=.type "tuple", dict:=dc,data:=.seq vs n,slots:=so } /\
   R (.ok (.ret (.ref (st.heap.push { cls:=.type "tuple_iterator", data:=.fields #[.ref tu,.int 0 0] }).objs.size)))
    { st with heap:=(st.heap.push { cls:=.type "tuple_iterator", data:=.fields #[.ref tu,.int 0 0] }).push { cls:=.type "enumerate", data:=.fields #[.none,.bool false,.ref st.heap.objs.size,rawInt 0,.none,.none] } }) :=
 .of_wp fun pg wd AA RR st hh=>by
  obtain⟨hp0,gg,dd,tk0,oo⟩:=st;obtain⟨htu,hh⟩:=hh
  have hsub0:=sub_enumerate
  have hTT:Heap.IsTuple (Shared.heap ⟨hp0,gg,dd,tk0,oo⟩) tu vs:=⟨_,htu,rfl,n,rfl⟩
  wp_walk using wpAny_loadPart' htu
  refine wpAny_stack_any fun stk0=>wpAny_pure ?_
  split
  ·rename_i c0 _ _ _ _ _
   cases (c0==Value.type "enumerate")
   ·wp_walk using wpAny_loadPart' htu,wpAny_pyIter_tuple hTT
    exact⟨_,rfl,hh⟩
   ·wp_walk using wpAny_loadPart' htu,wpAny_pyIter_tuple hTT
    exact⟨_,rfl,hh⟩
  ·wp_walk using wpAny_loadPart' htu,wpAny_pyIter_tuple hTT
   exact⟨_,rfl,hh⟩
section
variable{prog:Program}{w:World}{A:Around}{E:Value->Shared->Prop}{s:Shared}
theorem Cr{vs:Array Value}(hT:s.heap.IsTuple tu vs)
  (go:∀h1,IsEnum h1 (s.heap.objs.size+1) s.heap.objs.size 0 .none->h1.IsTupleIter s.heap.objs.size tu 0->h1.objs.size=s.heap.objs.size+2->(∀b o,s.heap.get? b=some o->h1.get? b=some o)->Q (.ref (s.heap.objs.size+1)) { s with heap:=h1 }) :
  wpAny (model prog w) A (call (.type "enumerate") [.ref tu]) Q E s:=by
 obtain⟨⟨cc,dc,dt,so⟩,htu,hcc,n,hdd⟩:=hT
 replace hcc:cc=.type "tuple" := hcc
 replace hdd:dt=.seq vs n:=hdd
 subst hcc hdd
 refine callType_new F.called_enumerate (by decide) (F.typeCall_enumerate_1 _) (F.newCall_enumerate_1 _) (fun ob=>F.args_object_init_2 ob _) F.entry_enumerate_new (FY tu vs n dc so) ⟨htu,?_⟩
 have sz:(s.heap.push { cls:=.type "tuple_iterator", data:=.fields #[.ref tu,.int 0 0] }).objs.size=s.heap.objs.size+1:=Heap.size_push ..
 show _/\_
 rw[sz]
 have isE:IsEnum ((s.heap.push { cls:=.type "tuple_iterator", data:=.fields #[.ref tu,.int 0 0] }).push { cls:=.type "enumerate", data:=.fields #[.none,.bool false,.ref s.heap.objs.size,rawInt 0,.none,.none] }) (s.heap.objs.size+1) s.heap.objs.size 0 .none:=by
  have q:=Heap.get?_push_size (s.heap.push { cls:=.type "tuple_iterator", data:=.fields #[.ref tu,.int 0 0] }) (o:={ cls:=.type "enumerate", data:=.fields #[.none,.bool false,.ref s.heap.objs.size,rawInt 0,.none,.none] }) rfl
  rw[sz]at q;exact q
 refine⟨⟨_,isE,rfl⟩,go _ isE ⟨_,Heap.get?_push_of_some _ (Heap.get?_push_size _ rfl),rfl,rfl⟩ (by rw[Heap.size_push,sz]) fun b o z=>Heap.get?_push_of_some _ (Heap.get?_push_of_some _ z)⟩
theorem AZ{it:Addr}{vs:Array Value}{x:Value}(hIt:s.heap.IsTupleIter it tu i)(hT:s.heap.IsTuple tu vs)(hx:vs[i]?=some x)
  (go:∀h1,h1.IsTupleIter it tu (i+1)->Heap.SameBut it s.heap h1->Q x { s with heap:=h1 }):wpAny (model prog w) A (Builtin.SmallTypes.nextOf (.ref it)) Q E s:=by
 have key:=wpAny_pyNext_tuple_item (prog:=prog) (w:=w) (A:=A) (E:=E) (Q:=fun r s1 => ∃v,r=some v/\Q v s1) hIt hT hx (fun h1 a b=>⟨x,rfl,go h1 a b⟩)
 obtain⟨o,ho,hc,hd⟩:=id hIt
 obtain⟨ot,hot,_,nt,hdt⟩:=hT
 unfold Builtin.SmallTypes.nextOf
 refine wpAny_bind (wpAny_callSpecial?_slot (name:=Str.ofString "__next__") hIt.typeIs F.slot_tuple_iterator_next (wpAny_call_entry F.slot_tuple_iterator_next hIt.typeIs F.entry_tuple_iterator_next ?_ (F.args_tuple_iterator_next_1 _)))
 show wpAny _ _ (field (.ref it) 0 >>= _) _ _ s
 refine wpAny_bind (wpAny_field ho hd (x:=.ref tu) rfl ?_)
 show wpAny _ _ (if (Value.ref tu==Value.none)=true then _ else _) _ _ s
 rw[if_neg (show ¬ ((Value.ref tu==Value.none)=true)from Bool.false_ne_true)]
 show wpAny _ _ (field (.ref it) 1 >>= _) _ _ s
 refine wpAny_bind (wpAny_field ho hd (x:=Value.int (i:Int) 0) rfl ?_)
 show wpAny _ _ (seqItems? (.ref tu) >>= _) _ _ s
 refine wpAny_bind (wpAny_seqItems hot hdt ?_)
 simp only[Int.toNat_natCast,hx]
 refine wpAny_bind (wpAny_setField ho hd (by simp) (wpAny_pure ⟨x,rfl,wpAny_pure (go _ ?_ (Heap.SameBut.update ..))⟩))
 refine⟨_,Heap.get?_update_self _ ho (Obj.isFreed_of_fields (Obj.data_mapFields hd _)),(Obj.cls_mapFields ..).trans hc,?_⟩
 rw[Obj.data_mapFields hd];simp[rawInt]
theorem Dd{it:Addr}{vs:Array Value}(hh:A.handled=none)(hIt:s.heap.IsTupleIter it tu i)(hT:s.heap.IsTuple tu vs)(hx:vs[i]?=none)
  (go:∀h1 x,Heap.ExtBut it s.heap h1->(∃o,h1.get? x=some o/\o.cls=.type "StopIteration")->E (.ref x) { s with heap:=h1 }):wpAny (model prog w) A (Builtin.SmallTypes.nextOf (.ref it)) Q E s:=by
 obtain⟨o,ho,hc,hd⟩:=id hIt
 obtain⟨ot,hot,_,nt,hdt⟩:=hT
 unfold Builtin.SmallTypes.nextOf
 refine wpAny_bind (wpAny_callSpecial?_slot (name:=Str.ofString "__next__") hIt.typeIs F.slot_tuple_iterator_next (wpAny_call_entry F.slot_tuple_iterator_next hIt.typeIs F.entry_tuple_iterator_next ?_ (F.args_tuple_iterator_next_1 _)))
 show wpAny _ _ (field (.ref it) 0 >>= _) _ _ s
 refine wpAny_bind (wpAny_field ho hd (x:=.ref tu) rfl ?_)
 show wpAny _ _ (if (Value.ref tu==Value.none)=true then _ else _) _ _ s
 rw[if_neg (show ¬ ((Value.ref tu==Value.none)=true)from Bool.false_ne_true)]
 show wpAny _ _ (field (.ref it) 1 >>= _) _ _ s
 refine wpAny_bind (wpAny_field ho hd (x:=Value.int (i:Int) 0) rfl ?_)
 show wpAny _ _ (seqItems? (.ref tu) >>= _) _ _ s
 refine wpAny_bind (wpAny_seqItems hot hdt ?_)
 simp only[Int.toNat_natCast,hx]
 refine wpAny_bind (wpAny_rule (wpAny_bind (wpAny_setField ho hd (by simp) ?_)))
 show wpAny _ _ (newExc (.type "StopIteration") [] >>= _) _ _ _
 refine wpAny_bind ?_
 simp only[newExc,newTuple]
 refine wpAny_bind (wpAny_newObj_type ?_ (by size_fits))
 refine wpAny_bind (m:=firstArgMember _ _) (wpAny_of_eq (a:=Value.none) (by first|rfl|(simp only[firstArgMember]<;>rfl)) ?_)
 refine wpAny_newObj_type ?_ (by size_fits)
 simp only[raiseNew]
 refine wpAny_bind (wpAny_handled ?_)
 first|rw[show A.in1.handled=none from hh]|rw[hh]
 refine wpAny_bind (wpAny_pure (wpAny_throw ?_))
 exact go _ _ (((Heap.SameBut.update ..).extBut.push _).push _) ⟨_,Heap.get?_push_size _ rfl,rfl⟩
theorem n6{e it:Addr}{x:Value}{Kn:Heap->Prop}(isE:IsEnum s.heap e it i old)(hne:e≠it)
  (stay:∀h1 h2:Heap,Kn h1->(∀o,h1.get? it=some o->h2.get? it=some o)->Kn h2)
  (inner:∀(Q1:Value->Shared->Prop),(∀h1,Kn h1->Heap.SameBut it s.heap h1->Q1 x { s with heap:=h1 })->wpAny (model prog w) A.in1 (Builtin.SmallTypes.nextOf (.ref it)) Q1 E s)
  (go:∀h1,IsEnumOut h1 e it ((i:Int)+1) x s.heap.objs.size->Kn h1->h1.get? s.heap.objs.size=some { cls:=.type "tuple", data:=.seq #[.int i s.toks,x] }->(∀b o,b≠e->b≠it->s.heap.get? b=some o->h1.get? b=some o)->Q (.ref s.heap.objs.size) { s with heap:=h1,toks:=s.toks+1 }) :
  wpAny (model prog w) A.in1 (Builtin.«enumerate.__next__» ⟨[.ref e],[]⟩) (fun fin s' => ∃v,fin=.done (.ret v)/\Q v s') E s:=by
 obtain⟨h0,gg,dd,t0,oo⟩:=s
 have elt:e<h0.objs.size:=Heap.lt_size isE
 show wpAny _ _ (field (.ref e) 2 >>= _) _ _ _
 refine wpAny_bind (wpAny_field isE rfl (x:=Value.ref it) rfl (wpAny_bind (inner _ fun h1 k1 b1=>?_)))
 have b1':Heap.SameBut it h0 h1:=b1
 have E1:IsEnum h1 e it i old:=(b1'.2 e hne).trans isE
 show wpAny _ _ (field (.ref e) 3 >>= _) _ _ ⟨h1,gg,dd,t0,oo⟩
 refine wpAny_bind (wpAny_field E1 rfl (x:=rawInt (i:Int)) rfl ?_)
 show wpAny _ _ (field (.ref e) 4 >>= _) _ _ ⟨h1,gg,dd,t0,oo⟩
 refine wpAny_bind (wpAny_field E1 rfl (x:=Value.none) rfl ?_)
 show wpAny _ _ (mkInt i >>= _) _ _ ⟨h1,gg,dd,t0,oo⟩
 refine wpAny_bind (wpAny_mkInt ?_)
 show wpAny _ _ (setField (.ref e) 3 (rawInt ((i:Int)+1)) >>= _) _ _ ⟨h1,gg,dd,t0+1,oo⟩
 refine wpAny_bind (wpAny_setField_rec E1 (by simp) fun h2 E2 b2=>?_)
 have b2':Heap.SameBut e h1 h2:=b2
 have E2':IsEnum h2 e it ((i:Int)+1) old:=E2
 show wpAny _ _ (setField (.ref e) 4 .none >>= _) _ _ ⟨h2,gg,dd,t0+1,oo⟩
 refine wpAny_bind (wpAny_setField_rec E2' (by simp) fun h3 E3 b3=>?_)
 have b3':Heap.SameBut e h2 h3:=b3
 have E3':IsEnum h3 e it ((i:Int)+1) old:=E3
 show wpAny _ _ (newTuple [.int i t0,x] >>= _) _ _ ⟨h3,gg,dd,t0+1,oo⟩
 refine wpAny_bind (wpAny_newTuple ?_)
 have z3:h3.objs.size=h0.objs.size:=by rw[b3'.1,b2'.1,b1'.1]
 have E4:IsEnum (h3.push { cls:=.type "tuple", data:=.seq #[.int i t0,x] }) e it ((i:Int)+1) old:=Heap.get?_push_of_some _ E3'
 have T4:(h3.push { cls:=.type "tuple", data:=.seq #[.int i t0,x] }).get? h0.objs.size=some { cls:=.type "tuple", data:=.seq #[.int i t0,x] }:=by rw[<- z3];exact Heap.get?_push_size _ rfl
 have K4:∀b o,b≠e->b≠it->h0.get? b=some o->(h3.push { cls:=.type "tuple", data:=.seq #[.int i t0,x] }).get? b=some o:=fun b o n1 n2 q=>Heap.get?_push_of_some _ (b3'.extBut b o n1 (b2'.extBut b o n1 (b1'.extBut b o n2 q)))
 have N4:Kn (h3.push { cls:=.type "tuple", data:=.seq #[.int i t0,x] }):=stay h1 _ k1 fun o q=>Heap.get?_push_of_some _ (b3'.extBut it o (Ne.symm hne) (b2'.extBut it o (Ne.symm hne) q))
 rw[z3]
 generalize h3.push { cls:=.type "tuple", data:=.seq #[.int i t0,x] }=h4 at E4 T4 K4 N4
 show wpAny _ _ (Builtin.SmallTypes.ownedTupleIsFree (.ref e) >>= _) _ _ ⟨h4,gg,dd,t0+1,oo⟩
 refine wpAny_bind ?_
 unfold Builtin.SmallTypes.ownedTupleIsFree
 refine wpAny_bind (wpAny_field E4 rfl (x:=Value.none) rfl (wpAny_pure ?_))
 simp only[if_true]
 refine wpAny_bind (wpAny_rule (wpAny_bind (wpAny_field E4 rfl (x:=old) rfl ?_)))
 refine wpAny_bind (wpAny_setField_rec E4 (by simp) fun h5 E5 b5=>?_)
 have b5':Heap.SameBut e h4 h5:=b5
 have E5':IsEnum h5 e it ((i:Int)+1) x:=E5
 show wpAny _ _ (Builtin.SmallTypes.ownedTupleHandOut (.ref e) (.ref h0.objs.size) >>= _) _ _ ⟨h5,gg,dd,t0+1,oo⟩
 refine wpAny_bind ?_
 unfold Builtin.SmallTypes.ownedTupleHandOut
 refine wpAny_bind (wpAny_setField_rec E5' (by simp) fun h6 E6 b6=>?_)
 have b6':Heap.SameBut e h5 h6:=b6
 have E6':IsEnumOut h6 e it ((i:Int)+1) x h0.objs.size:=E6
 refine wpAny_setField_rec E6' (by simp) fun h7 E7 b7=>?_
 have b7':Heap.SameBut e h6 h7:=b7
 have E7':IsEnumOut h7 e it ((i:Int)+1) x h0.objs.size:=E7
 have far:∀b o,b≠e->h4.get? b=some o->h7.get? b=some o:=fun b o n1 q=>b7'.extBut b o n1 (b6'.extBut b o n1 (b5'.extBut b o n1 q))
 refine wpAny_bind (wpAny_letGo (wpAny_pure ⟨_,rfl,go h7 E7' ?_ (far _ _ (Nat.ne_of_gt elt) T4) fun b o n1 n2 q=>far b o n1 (K4 b o n1 n2 q)⟩))
 exact stay h4 h7 N4 fun o q=>far it o (Ne.symm hne) q
theorem Cp{e it:Addr}{vs:Array Value}{x:Value}{Q:Option Value->Shared->Prop}(isE:IsEnum s.heap e it i old)(hIt:s.heap.IsTupleIter it tu i)(hT:s.heap.IsTuple tu vs)(hx:vs[i]?=some x)(hne:e≠it)
  (go:∀h1,IsEnumOut h1 e it ((i:Int)+1) x s.heap.objs.size->h1.IsTupleIter it tu (i+1)->h1.get? s.heap.objs.size=some { cls:=.type "tuple", data:=.seq #[.int i s.toks,x] }->(∀b o,b≠e->b≠it->s.heap.get? b=some o->h1.get? b=some o)->Q (some (.ref s.heap.objs.size)) { s with heap:=h1,toks:=s.toks+1 }) :
  wpAny (model prog w) A (pyNext (.ref e)) Q E s:=by
 have tyE:s.TypeIs (.ref e) "enumerate" := ⟨_,isE,rfl⟩
 unfold pyNext
 refine wpAny_bind (wpAny_attempt (wpAny_callSpecial?_slot (name:=Str.ofString "__next__") tyE F.slot_enumerate_next (wpAny_call_entry F.slot_enumerate_next tyE F.entry_enumerate_next ?_ (F.args_enumerate_next_1 _))))
 exact n6 (Kn:=fun h1=>h1.IsTupleIter it tu (i+1)) isE hne (fun h1 h2 k hk=>k.at hk) (fun Q1 q1=>AZ hIt hT hx q1) fun h1 a b c d=>wpAny_pure (go h1 a b c d)
theorem FZ{e it:Addr}{vs:Array Value}{Q:Option Value->Shared->Prop}(hh:A.handled=none)(isE:IsEnum s.heap e it i old)(hIt:s.heap.IsTupleIter it tu i)(hT:s.heap.IsTuple tu vs)(hx:vs[i]?=none)
  (go:∀h1,Heap.ExtBut it s.heap h1->Q none { s with heap:=h1 }):wpAny (model prog w) A (pyNext (.ref e)) Q E s:=by
 have tyE:s.TypeIs (.ref e) "enumerate" := ⟨_,isE,rfl⟩
 unfold pyNext
 refine wpAny_bind (wpAny_attempt (wpAny_callSpecial?_slot (name:=Str.ofString "__next__") tyE F.slot_enumerate_next (wpAny_call_entry F.slot_enumerate_next tyE F.entry_enumerate_next ?_ (F.args_enumerate_next_1 _))))
 show wpAny _ _ (field (.ref e) 2 >>= _) _ _ _
 refine wpAny_bind (wpAny_field isE rfl (x:=Value.ref it) rfl (wpAny_bind (Dd hh hIt hT hx fun h1 xx eb hx'=>?_)))
 obtain⟨o,ho,hc⟩:=hx'
 exact wpAny_bind (wpAny_isInstance (T := "StopIteration") (b:=true) ⟨o,ho,hc⟩ isSubtype_stop (wpAny_pure (go _ eb)))
end
variable{X:Cx}
theorem jI{h2:Heap}{t2:Nat}{ch:List Addr}{p:Addr}{o:HO}(I:aj X pins σ H s)
  (k:∀b u,b∉ch->s.heap.get? b=some u->h2.get? b=some u) (hp:s.heap.objs.size<=p) (hn:∀b∈ch,gt X pins H b) (new:bM X.prog X.w (aO H p o) h2 p o):aj X pins σ (aO H p o) { s with heap:=h2,toks:=t2 }:=by
 have hH:H p=none:=I.hok.fresh hp
 have tr:∀b u,H b=some u->b∉ch:=fun b u e z=>by rw[(hn b z).1]at e;cases e
 have un:Un (jb X.stack) ch H (aO H p o) s.heap h2:=by
  refine⟨fun b ob e n _ c=>k b ob c e,fun b ob e n _ c=>⟨ob.slots,k b ob c e⟩,fun b ob e n c=>?_,fun b ob e c=>⟨ob,k b ob c e⟩,fun b xs e=>?_,fun b ob u e=>?_,fun b ps e=>⟨#[],?_⟩⟩
  ·rw[ax (Nat.ne_of_lt (Nat.lt_of_lt_of_le (Heap.lt_size e) hp))];exact n
  ·rw[ax (bq e hH)];exact e
  ·rw[ax (bq e hH)];exact e
  ·rw[ax (bq e hH),e];simp
 refine I.call (g':=s.gens) (d':=s.drawn) un (fun b u e=>?_) I.bare fun b hb=>⟨(hn b hb).2.2.2.1,(hn b hb).2.1,(hn b hb).2.2.2.2.1,(hn b hb).2.2.2.2.2⟩
 by_cases hb:b=p
 ·subst hb;rw[aD]at e;cases e;exact new
 ·rw[ax hb]at e
  refine(I.hok b u e).stay (fun c v hc q=>k c v ?_ q) (fun c q=>by rw[ax (bq q hH)];exact q) fun c xs q=>by rw[ax (bq q hH)];exact q
  rcases hc with z|z
  ·rw[z];exact tr b u e
  ·exact tr c _ z
def NG(K:W.Frag)(a:Addr):It :=
 ⟨fun i H => ∃xs x,cw K H a xs/\xs[i]?=some x,fun i H x H' => ∃p v,x=.ref p/\H p=none/\H'=aO H p (.tup [.int (i:Nat),v])/\∀xs,cw K H a xs->xs[i]?=some v,fun i H => ∃xs,cw K H a xs/\xs.length<=i⟩
theorem vN(a e it:Addr)(hne:e≠it) :
  L2.Turn P w K (.Tuple es n1 pos) (NG K a) [e,it] e (fun i h=>(∃old,IsEnum h e it ((i:Nat):Int) old)/\h.IsTupleIter it a i) where
 mem:=by simp
 obj:=fun i h st b hb=>by
  obtain⟨⟨old,q⟩,o,q2,c,d⟩:=st
  rcases List.mem_cons.mp hb with rfl|hb
  ·exact⟨_,q,fun v z=>by have z':Data.fields _=Data.cell v:=z;cases z'⟩
  ·have eb:b=it:=by simpa using hb
   subst eb
   exact⟨o,q2,fun v z=>by rw[d]at z;cases z⟩
 keep:=fun i h h' st k=>⟨let ⟨old,q⟩:=st.1;⟨old,k e (by simp) _ q⟩,st.2.at fun o q=>k it (by simp) o q⟩
 item:=by
  intro Y hP hw hK hc i pins s σ H E I hf st hg
  subst hP hw hK
  obtain⟨xs,x,hq,hx⟩:=hg
  obtain⟨its,rv,p,hz⟩:=I.tuple hq
  obtain⟨u,hu,ru⟩:=rv.get hx
  obtain⟨⟨old,isE⟩,hIt⟩:=st
  refine Cp isE hIt (show s.heap.IsTuple a its.toArray from p) (x:=u) (by simpa using hu) hne fun h1 eo it1 t1 k1=>?_
  refine⟨_,rfl,wpAny_letOwnedTupleGo_enum eo fun h2 e2 sb2=>?_⟩
  have sb2':Heap.SameBut e h1 h2:=sb2
  have elt:e<s.heap.objs.size:=Heap.lt_size isE
  have k2:∀b o,b∉[e,it]->s.heap.get? b=some o->h2.get? b=some o:=fun b o nb q=>by
   have n1:b≠e:=fun z=>nb (by simp[z])
   have n2:b≠it:=fun z=>nb (by simp[z])
   exact sb2'.extBut b o n1 (k1 b o n1 n2 q)
  have t2:h2.get? s.heap.objs.size=some { cls:=.type "tuple", data:=.seq #[.int i s.toks,u] }:=sb2'.extBut _ _ (Nat.ne_of_gt elt) t1
  have hn0:H s.heap.objs.size=none:=I.hok.fresh (Nat.le_refl _)
  refine⟨.ref s.heap.objs.size,aO H s.heap.objs.size (.tup [.int (i:Nat),x]),jI (s:=s) (h2:=h2) (t2:=s.toks+1) I k2 (Nat.le_refl _) hf ?_,rfl,⟨_,x,rfl,hn0,rfl,fun ys hy=>by rw[I.tuple_inj hy hq];exact hx⟩,⟨⟨u,?_⟩,it1.at fun o q=>sb2'.extBut it o (Ne.symm hne) q⟩,fun b hb=>?_⟩
  ·exact⟨by show 2<=sizeLine;decide,[.int i s.toks,u],.cons ⟨_,rfl⟩ (.cons ru .nil),⟨_,t2,rfl,_,rfl⟩⟩
  ·have q:=e2
   rw[show((i:Nat):Int)+1=((i+1:Nat):Int) by omega]at q
   exact q
  ·have hb':=hf b hb
   have lt:b<s.heap.objs.size:=by
    rcases List.mem_cons.mp hb with rfl|hb
    ·exact elt
    ·have eb:b=it:=by simpa using hb
     subst eb
     obtain⟨o,q,_⟩:=hIt
     exact Heap.lt_size q
   rw[ax (Nat.ne_of_lt lt)];exact hb'.1
 done:=by
  intro Y hP hw hK hc i pins s σ H E I hf st hg
  subst hP hw hK
  obtain⟨xs,hq,hx⟩:=hg
  obtain⟨its,rv,p,hz⟩:=I.tuple hq
  obtain⟨⟨old,isE⟩,hIt⟩:=st
  obtain⟨f0,f1,f2,f3,f4,f5⟩:=hf it (by simp)
  have hl:=rv.length
  exact FZ (I.ok.hd hc) isE hIt (show s.heap.IsTuple a its.toArray from p) (by simp;omega) fun h1 eb=>⟨rfl,I.turned (t':=s.toks) (fun b o hb q=>eb b o hb q) f0 f1 f3 f4 f5⟩
 self:=fun _ _ _ _ _ st h=>let ⟨old,q⟩:=st.1;wpAny_pyIter_enum q h
theorem B7(hg:Gl X "enumerate")(hm0:X.mg "enumerate" = none)(ha:AD X ρ [a] [.tup l] k)(hst:∀y p,a ≠ .Starred y p)(hf:ao l=true) :
  IE X ρ (.Tuple es n1 tp) (.Call (.Name "enumerate" p) [a] [] pos) (l.mapIdx fun i x=>.tup [.int (i:Nat),x]) 0:=by
 intro ow pins s σ H R I ⟨E,q⟩
 refine Call_ (dC I hg hm0 (show bootBuiltins "enumerate" = some (.type "enumerate") by decide +kernel) (PyProof.Rows.callWith_type1 (aJ (ha ow pos pins s σ H (fun vs H1=>av H H1/\af X.K H1 (Kp ow H k) [.tup l] vs) I ⟨E,fun vs H1 s1 r1=>⟨s1,r1⟩⟩) fun us s1 ⟨vs,H1,I1,rv,sm,rp⟩=>?_) (aM hst) rfl) (by decide +kernel) (by decide +kernel))
 obtain⟨v,rfl,rv1⟩:=rp.only
 obtain⟨ta,xs,rfl,hq,rl⟩:=eh rv1
 obtain⟨u,rfl,ru⟩:=cy rv
 cases (show u=Value.ref ta from ru)
 obtain⟨its,rvs,pt,hz⟩:=I1.tuple hq
 refine Cr (show s1.heap.IsTuple ta its.toArray from pt) fun h2 isE hIt sz k2=>?_
 refine wpAny_pyIter_enum isE ?_
 have I2:aj X pins σ H1 { s1 with heap:=h2 }:=I1.kept (t':=s1.toks) k2
 have f0:H1 s1.heap.objs.size=none:=I1.hok.fresh (Nat.le_refl _)
 have f1:H1 (s1.heap.objs.size+1)=none:=I1.hok.fresh (Nat.le_succ _)
 refine⟨s1.heap.objs.size+1,[s1.heap.objs.size+1,s1.heap.objs.size],_,_,H1,rfl,I2,vN ta _ _ (Nat.ne_of_gt (Nat.lt_succ_self _)),⟨⟨_,isE⟩,hIt⟩,fun b hb=>?_,q _ H1 sm ?_⟩
 ·rcases List.mem_cons.mp hb with rfl|hb
  ·exact I1.fpOk (Nat.le_succ _) f1
  ·have eb:b=s1.heap.objs.size:=by simpa using hb
   subst eb
   exact I1.fpOk (Nat.le_refl _) f0
 ·intro i H2 st
  have rl':af X.K H1 (Kd ow H 0 H1) l xs:=rl.flat _ hf
  refine⟨fun d hd=>?_,fun hle=>?_⟩
  ·rw[List.getElem?_mapIdx]at hd
   cases e:l[i]? with
   | none=>rw[e]at hd;cases hd
   | some x =>
    rw[e]at hd;cases hd
    obtain⟨y,hy,ry⟩:=rl'.get e
    refine⟨⟨xs,y,st.sq hq,hy⟩,fun x' H3 ⟨p',v',e1,e2,e3,e4⟩=>?_⟩
    have hv:=e4 xs (st.sq hq)
    rw[hy]at hv;cases hv
    subst e1 e3
    have sm3:=cj (o:=HO.tup [.int (i:Nat),y]) e2
    refine⟨sm3,?_⟩
    rw[ag]
    exact⟨p',_,rfl,cw.of aD,af.cons (by rw[ag]) (af.one ((ry.mono st).same sm3))⟩
  ·rw[List.length_mapIdx]at hle
   exact⟨xs,st.sq hq,by rw[<- rl.length];exact hle⟩
theorem wE(h:ii tg=true):∃es n p,tg=.Tuple es n p:=by
 cases tg<;>first|exact⟨_,_,_,rfl⟩|cases h
open AutoSeq1 (wpAny_loadPart')
section
variable{prog:Program}{w:World}{A:Around}{E:Value->Shared->Prop}{s:Shared}
variable{z TI TO i1 i2 l1 l2:Addr}{k1 k2:Nat}{P1 P2:Nat->Heap->Prop}{g1 g2:Nat->Option Value}{x y a b:Value}
end
variable{X:Cx}
variable{X:Cx}
def Je(κ:Bool)(K:W.Frag)(H:Hp)(a:Addr)(xs:List V):Prop:=match κ with|true=>cw K H a xs|false=>bL K H a xs
def xX(κ:Bool)(l:List D):D:=match κ with|true=>.tup l|false=>.lst l
theorem jl{κ:Bool}(h:ag X.K H1 (Kp ow H k) (xX κ l) v):∃a vs,v=.ref a/\Je κ X.K H1 a vs/\af X.K H1 (Kp ow H k) l vs/\∀{P':aZ} {H2:Hp},cV (Kd ow H k H1) P' H1 H2->Je κ X.K H2 a vs:=by
 cases κ
 ·rw[show xX false l=.lst l from rfl,ag]at h
  obtain⟨a,vs,b,rfl,hl,hp,rl⟩:=h
  have hp':Kd ow H k H1 a b:=⟨hp,fun hb=>by subst hb;exact⟨_,hl⟩⟩
  exact⟨a,vs,rfl,hl.sq,rl,fun st=>(st.ls hl hp').sq⟩
 ·rw[show xX true l=.tup l from rfl,ag]at h
  obtain⟨a,vs,rfl,hl,rl⟩:=h
  exact⟨a,vs,rfl,hl,rl,fun st=>st.sq hl⟩
open AutoSeq1 (wpAny_loadPart')
variable{X:Cx}
theorem Co(tu:Addr)(vs:Array Value)(n:Nat)(dc:Option Addr)(so:Array (Option Value)) :
  Meets (Builtin.«enumerate.__new__» ⟨[.type "enumerate", .ref tu],[]⟩) (fun _ R st=>st.heap.get? tu=some { cls:=.type "list", dict:=dc,data:=.seq vs n,slots:=so } /\
   R (.ok (.ret (.ref (st.heap.push { cls:=.type "list_iterator", data:=.fields #[.ref tu,.int 0 0] }).objs.size)))
    { st with heap:=(st.heap.push { cls:=.type "list_iterator", data:=.fields #[.ref tu,.int 0 0] }).push { cls:=.type "enumerate", data:=.fields #[.none,.bool false,.ref st.heap.objs.size,rawInt 0,.none,.none] } }) :=
 .of_wp fun pg wd AA RR st hh=>by
  obtain⟨hp0,gg,dd,tk0,oo⟩:=st;obtain⟨htu,hh⟩:=hh
  have hsub0:=sub_enumerate
  have hTT:Heap.IsList (Shared.heap ⟨hp0,gg,dd,tk0,oo⟩) tu vs:=⟨_,htu,rfl,n,rfl⟩
  wp_walk using wpAny_loadPart' htu
  refine wpAny_stack_any fun stk0=>wpAny_pure ?_
  split
  ·rename_i c0 _ _ _ _ _
   cases (c0==Value.type "enumerate")
   ·wp_walk using wpAny_loadPart' htu,wpAny_pyIter_list hTT
    exact⟨_,rfl,hh⟩
   ·wp_walk using wpAny_loadPart' htu,wpAny_pyIter_list hTT
    exact⟨_,rfl,hh⟩
  ·wp_walk using wpAny_loadPart' htu,wpAny_pyIter_list hTT
   exact⟨_,rfl,hh⟩
section
variable{prog:Program}{w:World}{A:Around}{E:Value->Shared->Prop}{s:Shared}
theorem yN{vs:Array Value}(hT:s.heap.IsList tu vs)
  (go:∀h1,IsEnum h1 (s.heap.objs.size+1) s.heap.objs.size 0 .none->h1.IsListIter s.heap.objs.size tu 0->h1.objs.size=s.heap.objs.size+2->(∀b o,s.heap.get? b=some o->h1.get? b=some o)->Q (.ref (s.heap.objs.size+1)) { s with heap:=h1 }) :
  wpAny (model prog w) A (call (.type "enumerate") [.ref tu]) Q E s:=by
 obtain⟨⟨cc,dc,dt,so⟩,htu,hcc,n,hdd⟩:=hT
 replace hcc:cc=.type "list" := hcc
 replace hdd:dt=.seq vs n:=hdd
 subst hcc hdd
 refine callType_new F.called_enumerate (by decide) (F.typeCall_enumerate_1 _) (F.newCall_enumerate_1 _) (fun ob=>F.args_object_init_2 ob _) F.entry_enumerate_new (Co tu vs n dc so) ⟨htu,?_⟩
 have sz:(s.heap.push { cls:=.type "list_iterator", data:=.fields #[.ref tu,.int 0 0] }).objs.size=s.heap.objs.size+1:=Heap.size_push ..
 show _/\_
 rw[sz]
 have isE:IsEnum ((s.heap.push { cls:=.type "list_iterator", data:=.fields #[.ref tu,.int 0 0] }).push { cls:=.type "enumerate", data:=.fields #[.none,.bool false,.ref s.heap.objs.size,rawInt 0,.none,.none] }) (s.heap.objs.size+1) s.heap.objs.size 0 .none:=by
  have q:=Heap.get?_push_size (s.heap.push { cls:=.type "list_iterator", data:=.fields #[.ref tu,.int 0 0] }) (o:={ cls:=.type "enumerate", data:=.fields #[.none,.bool false,.ref s.heap.objs.size,rawInt 0,.none,.none] }) rfl
  rw[sz]at q;exact q
 refine⟨⟨_,isE,rfl⟩,go _ isE ⟨_,Heap.get?_push_of_some _ (Heap.get?_push_size _ rfl),rfl,rfl⟩ (by rw[Heap.size_push,sz]) fun b o z=>Heap.get?_push_of_some _ (Heap.get?_push_of_some _ z)⟩
theorem yM{e it:Addr}{vs:Array Value}{x:Value}{Q:Option Value->Shared->Prop}(isE:IsEnum s.heap e it i old)(hIt:s.heap.IsListIter it tu i)(hT:s.heap.IsList tu vs)(hx:vs[i]?=some x)(hne:e≠it)
  (go:∀h1,IsEnumOut h1 e it ((i:Int)+1) x s.heap.objs.size->h1.IsListIter it tu (i+1)->h1.get? s.heap.objs.size=some { cls:=.type "tuple", data:=.seq #[.int i s.toks,x] }->(∀b o,b≠e->b≠it->s.heap.get? b=some o->h1.get? b=some o)->Q (some (.ref s.heap.objs.size)) { s with heap:=h1,toks:=s.toks+1 }) :
  wpAny (model prog w) A (pyNext (.ref e)) Q E s:=by
 have tyE:s.TypeIs (.ref e) "enumerate" := ⟨_,isE,rfl⟩
 unfold pyNext
 refine wpAny_bind (wpAny_attempt (wpAny_callSpecial?_slot (name:=Str.ofString "__next__") tyE F.slot_enumerate_next (wpAny_call_entry F.slot_enumerate_next tyE F.entry_enumerate_next ?_ (F.args_enumerate_next_1 _))))
 exact n6 (Kn:=fun h1=>h1.IsListIter it tu (i+1)) isE hne (fun h1 h2 k hk=>k.at hk) (fun Q1 q1=>wpAny_nextOf_list_item hIt hT hx q1) fun h1 a b c d=>wpAny_pure (go h1 a b c d)
theorem Cq{e it:Addr}{vs:Array Value}{Q:Option Value->Shared->Prop}(hh:A.handled=none)(isE:IsEnum s.heap e it i old)(hIt:s.heap.IsListIter it tu i)(hT:s.heap.IsList tu vs)(hx:vs[i]?=none)
  (go:∀h1,Heap.ExtBut it s.heap h1->Q none { s with heap:=h1 }):wpAny (model prog w) A (pyNext (.ref e)) Q E s:=by
 have tyE:s.TypeIs (.ref e) "enumerate" := ⟨_,isE,rfl⟩
 unfold pyNext
 refine wpAny_bind (wpAny_attempt (wpAny_callSpecial?_slot (name:=Str.ofString "__next__") tyE F.slot_enumerate_next (wpAny_call_entry F.slot_enumerate_next tyE F.entry_enumerate_next ?_ (F.args_enumerate_next_1 _))))
 show wpAny _ _ (field (.ref e) 2 >>= _) _ _ _
 refine wpAny_bind (wpAny_field isE rfl (x:=Value.ref it) rfl (wpAny_bind (wpAny_nextOf_list_end hh hIt hT hx fun h1 xx eb hx'=>?_)))
 obtain⟨o,ho,hc⟩:=hx'
 exact wpAny_bind (wpAny_isInstance (T := "StopIteration") (b:=true) ⟨o,ho,hc⟩ isSubtype_stop (wpAny_pure (go _ eb)))
end
def Nk(K:W.Frag)(a:Addr):It :=
 ⟨fun i H => ∃xs x,bL K H a xs/\xs[i]?=some x,fun i H x H' => ∃p v,x=.ref p/\H p=none/\H'=aO H p (.tup [.int (i:Nat),v])/\∀xs,bL K H a xs->xs[i]?=some v,fun i H => ∃xs,bL K H a xs/\xs.length<=i⟩
theorem ut(a e it:Addr)(hne:e≠it) :
  L2.Turn P w K (.Tuple es n1 pos) (Nk K a) [e,it] e (fun i h=>(∃old,IsEnum h e it ((i:Nat):Int) old)/\h.IsListIter it a i) where
 mem:=by simp
 obj:=fun i h st b hb=>by
  obtain⟨⟨old,q⟩,o,q2,c,d⟩:=st
  rcases List.mem_cons.mp hb with rfl|hb
  ·exact⟨_,q,fun v z=>by have z':Data.fields _=Data.cell v:=z;cases z'⟩
  ·have eb:b=it:=by simpa using hb
   subst eb
   exact⟨o,q2,fun v z=>by rw[d]at z;cases z⟩
 keep:=fun i h h' st k=>⟨let ⟨old,q⟩:=st.1;⟨old,k e (by simp) _ q⟩,st.2.at fun o q=>k it (by simp) o q⟩
 item:=by
  intro Y hP hw hK hc i pins s σ H E I hf st hg
  subst hP hw hK
  obtain⟨xs,x,hq,hx⟩:=hg
  obtain⟨its,rv,p,hz⟩:=I.list hq
  obtain⟨u,hu,ru⟩:=rv.get hx
  obtain⟨⟨old,isE⟩,hIt⟩:=st
  refine yM isE hIt (show s.heap.IsList a its.toArray from p.isList) (x:=u) (by simpa using hu) hne fun h1 eo it1 t1 k1=>?_
  refine⟨_,rfl,wpAny_letOwnedTupleGo_enum eo fun h2 e2 sb2=>?_⟩
  have sb2':Heap.SameBut e h1 h2:=sb2
  have elt:e<s.heap.objs.size:=Heap.lt_size isE
  have k2:∀b o,b∉[e,it]->s.heap.get? b=some o->h2.get? b=some o:=fun b o nb q=>by
   have n1:b≠e:=fun z=>nb (by simp[z])
   have n2:b≠it:=fun z=>nb (by simp[z])
   exact sb2'.extBut b o n1 (k1 b o n1 n2 q)
  have t2:h2.get? s.heap.objs.size=some { cls:=.type "tuple", data:=.seq #[.int i s.toks,u] }:=sb2'.extBut _ _ (Nat.ne_of_gt elt) t1
  have hn0:H s.heap.objs.size=none:=I.hok.fresh (Nat.le_refl _)
  refine⟨.ref s.heap.objs.size,aO H s.heap.objs.size (.tup [.int (i:Nat),x]),jI (s:=s) (h2:=h2) (t2:=s.toks+1) I k2 (Nat.le_refl _) hf ?_,rfl,⟨_,x,rfl,hn0,rfl,fun ys hy=>by rw[I.list_inj hy hq];exact hx⟩,⟨⟨u,?_⟩,it1.at fun o q=>sb2'.extBut it o (Ne.symm hne) q⟩,fun b hb=>?_⟩
  ·exact⟨by show 2<=sizeLine;decide,[.int i s.toks,u],.cons ⟨_,rfl⟩ (.cons ru .nil),⟨_,t2,rfl,_,rfl⟩⟩
  ·have q:=e2
   rw[show((i:Nat):Int)+1=((i+1:Nat):Int) by omega]at q
   exact q
  ·have hb':=hf b hb
   have lt:b<s.heap.objs.size:=by
    rcases List.mem_cons.mp hb with rfl|hb
    ·exact elt
    ·have eb:b=it:=by simpa using hb
     subst eb
     obtain⟨o,q,_⟩:=hIt
     exact Heap.lt_size q
   rw[ax (Nat.ne_of_lt lt)];exact hb'.1
 done:=by
  intro Y hP hw hK hc i pins s σ H E I hf st hg
  subst hP hw hK
  obtain⟨xs,hq,hx⟩:=hg
  obtain⟨its,rv,p,hz⟩:=I.list hq
  obtain⟨⟨old,isE⟩,hIt⟩:=st
  obtain⟨f0,f1,f2,f3,f4,f5⟩:=hf it (by simp)
  have hl:=rv.length
  exact Cq (I.ok.hd hc) isE hIt (show s.heap.IsList a its.toArray from p.isList) (by simp;omega) fun h1 eb=>⟨rfl,I.turned (t':=s.toks) (fun b o hb q=>eb b o hb q) f0 f1 f3 f4 f5⟩
 self:=fun _ _ _ _ _ st h=>let ⟨old,q⟩:=st.1;wpAny_pyIter_enum q h
theorem yF(hg:Gl X "enumerate")(hm0:X.mg "enumerate" = none)(ha:AD X ρ [a] [.lst l] k)(hst:∀y p,a ≠ .Starred y p)(hf:ao l=true) :
  IE X ρ (.Tuple es n1 tp) (.Call (.Name "enumerate" p) [a] [] pos) (l.mapIdx fun i x=>.tup [.int (i:Nat),x]) k:=by
 intro ow pins s σ H R I ⟨E,q⟩
 refine Call_ (dC I hg hm0 (show bootBuiltins "enumerate" = some (.type "enumerate") by decide +kernel) (PyProof.Rows.callWith_type1 (aJ (ha ow pos pins s σ H (fun vs H1=>av H H1/\af X.K H1 (Kp ow H k) [.lst l] vs) I ⟨E,fun vs H1 s1 r1=>⟨s1,r1⟩⟩) fun us s1 ⟨vs,H1,I1,rv,sm,rp⟩=>?_) (aM hst) rfl) (by decide +kernel) (by decide +kernel))
 obtain⟨v,rfl,rv1⟩:=rp.only
 obtain⟨ta,xs,rfl,hq,rl,hk1⟩:=jl (κ:=false) rv1
 replace hq:bL X.K H1 ta xs:=hq
 obtain⟨u,rfl,ru⟩:=cy rv
 cases (show u=Value.ref ta from ru)
 obtain⟨its,rvs,pt,hz⟩:=I1.list hq
 refine yN (show s1.heap.IsList ta its.toArray from pt.isList) fun h2 isE hIt sz k2=>?_
 refine wpAny_pyIter_enum isE ?_
 have I2:aj X pins σ H1 { s1 with heap:=h2 }:=I1.kept (t':=s1.toks) k2
 have f0:H1 s1.heap.objs.size=none:=I1.hok.fresh (Nat.le_refl _)
 have f1:H1 (s1.heap.objs.size+1)=none:=I1.hok.fresh (Nat.le_succ _)
 refine⟨s1.heap.objs.size+1,[s1.heap.objs.size+1,s1.heap.objs.size],_,_,H1,rfl,I2,ut ta _ _ (Nat.ne_of_gt (Nat.lt_succ_self _)),⟨⟨_,isE⟩,hIt⟩,fun b hb=>?_,q _ H1 sm ?_⟩
 ·rcases List.mem_cons.mp hb with rfl|hb
  ·exact I1.fpOk (Nat.le_succ _) f1
  ·have eb:b=s1.heap.objs.size:=by simpa using hb
   subst eb
   exact I1.fpOk (Nat.le_refl _) f0
 ·intro i H2 st
  have rl':af X.K H1 (Kd ow H k H1) l xs:=rl.flat _ hf
  refine⟨fun d hd=>?_,fun hle=>?_⟩
  ·rw[List.getElem?_mapIdx]at hd
   cases e:l[i]? with
   | none=>rw[e]at hd;cases hd
   | some x =>
    rw[e]at hd;cases hd
    obtain⟨y,hy,ry⟩:=rl'.get e
    refine⟨⟨xs,y,hk1 st,hy⟩,fun x' H3 ⟨p',v',e1,e2,e3,e4⟩=>?_⟩
    have hv:=e4 xs (hk1 st)
    rw[hy]at hv;cases hv
    subst e1 e3
    have sm3:=cj (o:=HO.tup [.int (i:Nat),y]) e2
    refine⟨sm3,?_⟩
    rw[ag]
    exact⟨p',_,rfl,cw.of aD,af.cons (by rw[ag]) (af.one ((ry.mono st).same sm3))⟩
  ·rw[List.length_mapIdx]at hle
   exact⟨xs,hk1 st,by rw[<- rl.length];exact hle⟩
theorem yG:mT "enumerate" u7:=by
 refine⟨by decide +kernel,fun X ρ p pos args ds k d j l tg o hc hg hm ha hst hlen h hp hl ht=>?_⟩
 unfold u7 at h
 have ht2:ii tg=true:=by simpa [eG]using ht
 obtain⟨es,n1,tp,rfl⟩:=wE ht2
 split at h
 ·cases h
  cases hl
  match args,hlen,ha,hst with
  | [a'],_,ha,hst=>rw[kl];simp only[Nat.zero_add];exact B7 hg hm ha (hst a' List.mem_cons_self) hp.1
 ·cases h
  cases hl
  match args,hlen,ha,hst with
  | [a'],_,ha,hst=>rw[kl];simp only[Nat.zero_add];exact yF hg hm ha (hst a' List.mem_cons_self) hp.1
 ·cases h
open PySem.W (KasT kas_sort kas_ask KatLex KatTups kat_sorted kat_kind kat_lt kat_cons kat_nil kat_go kat_yes kat_no kat_one KasFin)
section
variable{prog:Program}{w:World}{A:Around}{E:Value->Shared->Prop}{s:Shared}
end
variable{X:Cx}
theorem dy{r:Rs α}{a:α}{l:List Prop}(h:r=.ok a l)(hp:aA l):ab r a:=⟨l,h,hp⟩
theorem ab.eq{r:Rs α}{a b:α}(h:ab r a)(e:a=b):ab r b:=e ▸ h
theorem ab.bnd{r:Rs α}{f:α->Rs β}{a:α}{b:β}(h1:ab r a)(h2:ab (f a) b):ab (r.bnd f) b:=by
 obtain⟨l,rfl,p1⟩:=h1
 obtain⟨m,h2,p2⟩:=h2
 refine⟨l++m,?_,da.mpr ⟨p1,p2⟩⟩
 show(match f a with | .st=>(.st:Rs β) | .ok b m=>Rs.ok b (l++m))=_
 rw[h2]
theorem ab.inj{r:Rs α}{a b:α}(h:ab r a)(g:ab r b):a=b:=by
 obtain⟨l,h,_⟩:=h;obtain⟨m,g,_⟩:=g;rw[h]at g;cases g;rfl
section
variable{Φ:Fx}{sc:Scope}{ρ ρ':ae}{fl:Fl}{ss:List Stmt}
theorem bz(h:ab (az Φ body sc (d0 ps ds)) (.rt d))(hl:ds.length=ps.length:=by rfl):ab (cm Φ sc ps body ds) d:=by
 unfold cm;rw[if_pos hl];exact h.bnd ⟨[],rfl,True.intro⟩
theorem dh:ab (az Φ [] sc ρ) (.nx ρ):=⟨[],rfl,True.intro⟩
theorem aP{s:Stmt}(h:ab (eU Φ s sc ρ) (.nx ρ'))(h2:ab (az Φ ss sc ρ') fl):ab (az Φ (s::ss) sc ρ) fl:=ab.bnd h h2
theorem jj{s:Stmt}(h:ab (eU Φ s sc ρ) fl)(hf:∀ρ,fl ≠ .nx ρ):ab (az Φ (s::ss) sc ρ) fl:=ab.bnd h (by
 cases fl with
 | nx ρ=>exact absurd rfl (hf ρ)
 | rt d=>exact⟨[],rfl,True.intro⟩
 | bk ρ=>exact⟨[],rfl,True.intro⟩
 | ct ρ=>exact⟨[],rfl,True.intro⟩)
theorem b0{s:Stmt}(h:ab (eU Φ s sc ρ) (.rt d)):ab (az Φ (s::ss) sc ρ) (.rt d):=jj h fun _ z=>by cases z
theorem pS{s:Stmt}(h:ab (az Φ (s::ss) sc ρ) fl):(∃ρ',ab (eU Φ s sc ρ) (.nx ρ')/\ab (az Φ ss sc ρ') fl)\/((∀ρ,fl ≠ .nx ρ)/\ab (eU Φ s sc ρ) fl):=by
 obtain⟨f,h1,h2⟩:=ar (show ab (Rs.bnd _ _) fl from h)
 cases f with
 | nx ρ'=>exact .inl ⟨ρ',h1,h2⟩
 | rt d=>cases aF h2;exact .inr ⟨fun _ z=>(by cases z),h1⟩
 | bk ρ=>cases aF h2;exact .inr ⟨fun _ z=>(by cases z),h1⟩
 | ct ρ=>cases aF h2;exact .inr ⟨fun _ z=>(by cases z),h1⟩
theorem xw:∀{a:List Stmt} {ρ:ae},ab (az Φ a sc ρ) (.nx ρ')->ab (az Φ ss sc ρ') fl->ab (az Φ (a++ss) sc ρ) fl
 | [],ρ,h,h2=>by cases aF h;exact h2
 | s::a,ρ,h,h2=>by
  rcases pS h with⟨ρ1,h3,h4⟩|⟨h3,_⟩
  ·exact aP h3 (xw h4 h2)
  ·exact absurd rfl (h3 _)
theorem oe:∀{a:List Stmt} {ρ:ae},ab (az Φ (a++ss) sc ρ) fl->(∃ρ',ab (az Φ a sc ρ) (.nx ρ')/\ab (az Φ ss sc ρ') fl)\/((∀ρ,fl ≠ .nx ρ)/\ab (az Φ a sc ρ) fl)
 | [],ρ,h=>.inl ⟨ρ,dh,h⟩
 | s::a,ρ,h=>by
  rcases pS h with⟨ρ1,h3,h4⟩|⟨h3,h4⟩
  ·rcases oe h4 with⟨ρ2,h5,h6⟩|⟨h5,h6⟩
   ·exact .inl ⟨ρ2,aP h3 h5,h6⟩
   ·exact .inr ⟨h5,aP h3 h6⟩
  ·exact .inr ⟨h3,jj h4 h3⟩
theorem cP(n:Nat)(h:ab (az Φ (ss.take n) sc ρ) (.nx ρ'))(h2:ab (az Φ (ss.drop n) sc ρ') fl):ab (az Φ ss sc ρ) fl:=by
 rw[<- List.take_append_drop n ss];exact xw h h2
theorem jZ{a b:List Stmt}(hc:ab (au Φ c false sc ρ) (.bl t,k))(h1:t=true->ab (az Φ (a++ss) sc ρ) fl)(h2:t=false->ab (az Φ (b++ss) sc ρ) fl):ab (az Φ (.If c a b p::ss) sc ρ) fl:=by
 have key:∀x,ab (cond t (az Φ a sc ρ) (az Φ b sc ρ)) x->ab (eU Φ (.If c a b p) sc ρ) x:=fun x hx=>ab.bnd hc hx
 cases t with
 | true =>
  rcases oe (h1 rfl)with⟨ρ1,h3,h4⟩|⟨h3,h4⟩
  ·exact aP (key _ h3) h4
  ·exact jj (key _ h4) h3
 | false =>
  rcases oe (h2 rfl)with⟨ρ1,h3,h4⟩|⟨h3,h4⟩
  ·exact aP (key _ h3) h4
  ·exact jj (key _ h4) h3
theorem cW{a b:List Stmt}(hc:ab (au Φ c false sc ρ) (.bl t,k))(ht:t=true)(h1:ab (az Φ (a++ss) sc ρ) fl):ab (az Φ (.If c a b p::ss) sc ρ) fl:=jZ hc (fun _=>h1) fun z=>by rw[ht]at z;cases z
theorem be{a b:List Stmt}(hc:ab (au Φ c false sc ρ) (.bl t,k))(ht:t=false)(h1:ab (az Φ (b++ss) sc ρ) fl):ab (az Φ (.If c a b p::ss) sc ρ) fl:=jZ hc (fun z=>by rw[ht]at z;cases z) fun _=>h1
theorem rh{it:Expr}(hi:ab (au Φ it true sc (demote it ρ)) (d,k))(hd:items d=some ds)(hk:k<=1)(ht:eG it tg=true)(h:ab (c7 (bG sc tg) (az Φ body sc) ds (demote it ρ)) fl):ab (eU Φ (.For tg it body [] p) sc ρ) fl:=by
 rw[nW,if_pos (show List.isEmpty ([]:List Stmt)=true from rfl)]
 refine hi.bnd ?_
 dsimp only
 rw[hd]
 dsimp only
 rw[if_pos ⟨hk,ht⟩]
 exact h
theorem rg(h:ab (kK (fun ρ=>(au Φ c false sc ρ).bnd fun p=>gK p fun b=>.ok b []) (az Φ body sc) cg ρ) fl):ab (eU Φ (.While c body [] p) sc ρ) fl:=by
 rw[rj,if_pos (show List.isEmpty ([]:List Stmt)=true from rfl)];exact h
theorem ay{v:D}(ha:ab (bK Φ args sc ρ) (ds,k))(hv:ab (F ds) v)(hF:Φ.fn f=some F:=by rfl)(hg:sc.names.lookup f=some .globalImplicit:=by rfl):ab (au Φ (.Call (.Name f p) args [] q) it sc ρ) (v,0):=by
 rw[iS,if_pos hg]
 refine ha.bnd ?_
 unfold ku
 rw[hF]
 exact hv.bnd ⟨[],rfl,True.intro⟩
theorem wW{v:D×Nat}(ha:ab (bK Φ args sc ρ) (ds,k))(hv:ab (B ds) v)(hF:Φ.fn f=none:=by rfl)(hI:(if it=true then Φ.itr f else none)=none:=by rfl)(hB:Φ.blt f=some B:=by rfl)(hg:sc.names.lookup f=some .globalImplicit:=by rfl):ab (au Φ (.Call (.Name f p) args [] q) it sc ρ) v:=by
 rw[iS,if_pos hg]
 refine ha.bnd ?_
 unfold ku
 rw[hF];dsimp only
 rw[hI];dsimp only
 rw[hB];exact hv
theorem bU:ab (bK Φ [] sc ρ) ([],0):=⟨[],rfl,True.intro⟩
theorem aS(h:ab (au Φ e false sc ρ) (d,k))(h2:ab (bK Φ es sc ρ) (ds,j)):ab (bK Φ (e::es) sc ρ) (d::ds,kj k j):=ab.bnd h (ab.bnd h2 ⟨[],rfl,True.intro⟩)
theorem im{out:List D}(hi:ab (au Φ iter true sc ρ) (d,k))(hd:items d=some ds)(hl:ds.length<=cg/\(ao ds=true\/k<=1))
    (h:ab (fu (fun d=>match bG scope tg d (flt scope ρ)with
            | none=>.st
            | some ρ'=>(dE Φ .And ifs scope ρ').bnd fun b=>cond b ((au Φ elt false scope ρ').bnd fun r=>.ok (some r) []) (.ok none [])) ds) (out,j)) (hj:j<=1) (hc:mJ sc scope=true:=by rfl) (ht:eG iter tg=true:=by rfl):ab (au Φ (.ListComp elt [⟨tg,iter,ifs,0⟩] scope p) it sc ρ) (.lst out,j):=by
  rw[nX,if_pos hc]
  refine hi.bnd ?_
  dsimp only
  rw[hd]
  dsimp only
  rw[if_pos ht]
  refine ab.bnd (a:=()) ⟨_,rfl,hl.1,hl.2,True.intro⟩ ?_
  refine h.bnd ?_
  rw[if_pos hj]
  exact⟨[],rfl,True.intro⟩
theorem my{i:Expr}{x:D}{j:Int}(ha:ab (au Φ a false sc ρ) (x,k))(hi:ab (au Φ i false sc ρ) (.int j,k2))(hx:fL x=some l)(hd:L2.atI l j=some d):ab (au Φ (.Subscript a i p) it sc ρ) (d,kn d k):=by
 have key:ab ((au Φ a false sc ρ).bnd fun p=>(au Φ i false sc ρ).bnd fun q=>kX p q) (d,kn d k):=by
  refine ha.bnd (hi.bnd ?_)
  rcases fW hx with rfl|rfl
  ·show ab (qS (.tup l) j k) _
   unfold qS
   rw[hx];dsimp only
   rw[hd];exact⟨[],rfl,True.intro⟩
  ·show ab (qS (.lst l) j k) _
   unfold qS
   rw[hx];dsimp only
   rw[hd];exact⟨[],rfl,True.intro⟩
 cases i with
 | Slice lo hi st p2=>exact(am hi).elim
 | _=>exact key
theorem aY(h:ab (au Φ e false sc ρ) (d,0))(hx:cA sc x=true:=by rfl):ab (eU Φ (.Assign [.Name x p] e q) sc ρ) (.nx (bo ρ x (d,true))):=by
 refine ab.bnd h ?_
 unfold nr
 rw[if_pos hx]
 exact⟨[],rfl,True.intro⟩
theorem bN(h:ab (au Φ e false sc ρ) (d,k))(hk:k=0\/k=2:=by exact .inl rfl)(hn:pj e=false:=by rfl):ab (eU Φ (.Return (some e) q) sc ρ) (.rt d):=by
 have h:ab (au Φ e false sc (qf e ρ)) (d,k):=by unfold qf;rw[hn];exact h
 refine ab.bnd h ?_
 unfold uE
 rw[if_pos hk]
 exact⟨[],rfl,True.intro⟩
end
theorem q9{bind:D->ae->Option ae}{body:ae->Rs Fl}(aj:List D->ae->Prop)(step:∀d l ρ,aj (d::l) ρ->∃ρ1 ρ2,bind d ρ=some ρ1/\(ab (body ρ1) (.nx ρ2)\/ab (body ρ1) (.ct ρ2))/\aj l ρ2):∀{ds:List D} {ρ:ae},aj ds ρ->∃ρ',ab (c7 bind body ds ρ) (.nx ρ')/\aj [] ρ'
 | [],ρ,h=>⟨ρ,⟨[],rfl,True.intro⟩,h⟩
 | d::l,ρ,h=>by
  obtain⟨ρ1,ρ2,h1,h2,h3⟩:=step d l ρ h
  obtain⟨ρ',h4,h5⟩:=q9 aj step h3
  refine⟨ρ',?_,h5⟩
  show ab (match bind d ρ with|none=>(.st:Rs Fl)|some ρ1=>(body ρ1).bnd (kL (c7 bind body l))) _
  rw[h1]
  rcases h2 with h2|h2
  ·exact h2.bnd h4
  ·exact h2.bnd h4
theorem t6{bind:D->ae->Option ae}{body:ae->Rs Fl}(aj:List D->ae->Prop)(R:D->Prop)(step:∀d l ρ,aj (d::l) ρ->∃ρ1,bind d ρ=some ρ1/\((∃ρ2,(ab (body ρ1) (.nx ρ2)\/ab (body ρ1) (.ct ρ2))/\aj l ρ2)\/∃r,ab (body ρ1) (.rt r)/\R r)):∀{ds:List D} {ρ:ae},aj ds ρ->(∃ρ',ab (c7 bind body ds ρ) (.nx ρ')/\aj [] ρ')\/∃r,ab (c7 bind body ds ρ) (.rt r)/\R r
 | [],ρ,h=>.inl ⟨ρ,⟨[],rfl,True.intro⟩,h⟩
 | d::l,ρ,h=>by
  obtain⟨ρ1,h1,h2⟩:=step d l ρ h
  have key:c7 bind body (d::l) ρ=(body ρ1).bnd (kL (c7 bind body l)):=by
   show(match bind d ρ with|none=>(.st:Rs Fl)|some ρ1=>(body ρ1).bnd (kL (c7 bind body l)))=_
   rw[h1]
  rw[key]
  rcases h2 with⟨ρ2,h2,h3⟩|⟨r,h2,h3⟩
  ·have go:∀x,ab (c7 bind body l ρ2) x->ab ((body ρ1).bnd (kL (c7 bind body l))) x:=fun x hx=>by
    rcases h2 with h2|h2
    ·exact h2.bnd hx
    ·exact h2.bnd hx
   rcases t6 aj R step h3 with⟨ρ',h4,h5⟩|⟨r,h4,h5⟩
   ·exact .inl ⟨ρ',go _ h4,h5⟩
   ·exact .inr ⟨r,go _ h4,h5⟩
  ·exact .inr ⟨r,h2.bnd ⟨[],rfl,True.intro⟩,h3⟩
theorem oP{α:Type}{step:D->Rs (Option (D×Nat))}{g:α->D}{f:α->D}:∀{l:List α},(∀x∈l,ab (step (g x)) (some (f x,0)))->ab (fu step (l.map g)) (l.map f,0)
 | [],_=>⟨[],rfl,True.intro⟩
 | x::l,h=>ab.bnd (h x List.mem_cons_self) (ab.bnd (oP fun y hy=>h y (List.mem_cons_of_mem _ hy)) ⟨[],rfl,True.intro⟩)
theorem dY{α:Type}{step:D->Rs (Option (D×Nat))}{g:α->D}{f:α->D}{c:α->Bool}:∀{l:List α},(∀x∈l,ab (step (g x)) (cond (c x) (some (f x,0)) none))->ab (fu step (l.map g)) ((l.filter c).map f,0)
 | [],_=>⟨[],rfl,True.intro⟩
 | x::l,h=>by
  have h1:=h x List.mem_cons_self
  have h2:=dY (c:=c) fun y hy=>h y (List.mem_cons_of_mem _ hy)
  cases e:c x with
  | true =>
   rw[e]at h1
   rw[List.filter_cons_of_pos e]
   exact ab.bnd h1 (ab.bnd h2 ⟨[],rfl,True.intro⟩)
  | false =>
   rw[e]at h1
   rw[List.filter_cons_of_neg (by rw[e];decide)]
   exact ab.bnd h1 (ab.bnd h2 ⟨[],rfl,True.intro⟩)
theorem BN{a b:Int}(h:a.natAbs<18446744073709551616):eT a b:=.inl h
theorem BM{a b:Int}(h:b.natAbs<18446744073709551616):eT a b:=.inr (.inl h)
theorem tP{a b:Int}(h:a.natAbs<cT)(g:b.natAbs<cT):eT a b:=.inr (.inr (.inl ⟨h,g⟩))
theorem BK{a b:Int}(h:Builtin.Int.intBits a<=2 ^ 22)(g:Builtin.Int.intBits b<=2 ^ 22):eT a b:=.inr (.inr (.inr ⟨h,g⟩))
theorem GV(h:n<2 ^ 64):n<cT:=Nat.lt_of_lt_of_le h (Nat.pow_le_pow_right (by decide) (by decide))
theorem CB{b:Int}(h0:b≠0)(h:b.natAbs<18446744073709551616):fq b:=⟨h0,GV h⟩
theorem C2{ns:List Int}{i:Int}(h0:0<=i)(h1:i<ns.length):L2.atI (ns.map D.int) i=some (.int (ns.getD i.toNat 0)):=by
 obtain⟨j,rfl⟩:=Int.eq_ofNat_of_zero_le h0
 have hj:j<ns.length:=by omega
 have:=CZ (xs:=ns.map D.int) (j:=j) (v:=.int (ns.getD j 0)) (by simp[hj])
 simpa using this
theorem zo:aA []:=True.intro
theorem vt{l m:List Prop}(h:aA l)(g:aA m):aA (l++m):=da.mpr ⟨h,g⟩
theorem zn{p:Prop}(h:p):aA [p]:=⟨h,True.intro⟩
theorem sG{p:Prop}{l:List Prop}(h:p)(g:aA l):aA (p::l):=⟨h,g⟩
theorem Bu{a b:Int}(h0:0<=b)(h1:b<=1000)(h2:a.natAbs<18446744073709551616):uG a b:=⟨h0,h1,h2⟩
def Sub(C ρ:ae):Prop:=∀x y,C x=some y->ρ x=some y
theorem Sub.refl(ρ:ae):Sub ρ ρ:=fun _ _ h=>h
theorem Sub.trans{a b c:ae}(h:Sub a b)(g:Sub b c):Sub a c:=fun x y e=>g x y (h x y e)
theorem Sub.put(h:Sub C ρ)(x:Str)(y:D×Bool):Sub (bo C x y) (bo ρ x y):=fun z w e=>by
 rw[cM]at e⊢
 by_cases hz:z=x
 ·rw[if_pos hz]at e⊢;exact e
 ·rw[if_neg hz]at e⊢;exact h z w e
theorem Sub.flt(h:Sub C ρ)(scope:Scope):Sub (flt scope C) (flt scope ρ):=fun z w e=>by
 obtain⟨e1,e2⟩:=iQ e
 unfold Sp.flt
 rw[if_pos e2];exact h z w e1
theorem Sub.demX(h:Sub C ρ)(x:Str):Sub (demX x C) (demX x ρ):=by
 unfold Sp.demX
 intro z w hz
 by_cases hx:z=x
 ·simp only[if_pos hx]at hz⊢
  cases hc:C z with
  | none=>rw[hc]at hz;cases hz
  | some q=>rw[hc]at hz;rw[h z q hc];exact hz
 ·simp only[if_neg hx]at hz⊢;exact h z w hz
theorem Sub.demA(h:Sub C ρ)(x:Str):Sub (demA x C) (demA x ρ):=by
 intro z w hz
 unfold Sp.demA at hz⊢
 by_cases hx:z=x
 ·simp only[if_pos hx]at hz⊢
  cases hc:C z with
  | none=>rw[hc]at hz;cases hz
  | some q=>rw[hc]at hz;rw[h z q hc];exact hz
 ·simp only[if_neg hx]at hz⊢;exact h z w hz
theorem Sub.demL:∀{es:List Expr} {C ρ:ae},Sub C ρ->Sub (demL es C) (demL es ρ)
 | [],_,_,h=>h
 | e::es,C,ρ,h=>by
  cases e with
  | Name x p=>exact Sub.demL (es:=es) (h.demA x)
  | Subscript a i p =>
   cases a with
   | Name x q=>exact Sub.demL (es:=es) (h.demA x)
   | _=>exact Sub.demL (es:=es) h
  | _=>exact Sub.demL (es:=es) h
theorem Sub.demote(h:Sub C ρ)(e:Expr):Sub (demote e C) (demote e ρ):=by
 unfold Sp.demote
 split
 ·exact h.demX _
 ·exact h.demX _
 ·exact h.demL
 ·exact h
theorem oz:∀{es:List Expr} {ds:List D} {C C' ρ:ae},aV sc es ds C=some C'->Sub C ρ->∃ρ',aV sc es ds ρ=some ρ'/\Sub C' ρ':=by
 intro es
 induction es with
 | nil =>
  intro ds C C' ρ h s
  cases ds with
  | nil=>cases h;exact⟨ρ,rfl,s⟩
  | cons d ds=>cases h
 | cons e es ih =>
  intro ds C C' ρ h s
  cases ds with
  | nil=>cases e<;>cases h
  | cons d ds =>
   cases e with
   | Name z p =>
    rw[aV]at h⊢
    split at h
    ·rename_i hz
     rw[if_pos hz]
     exact ih h (s.put _ _)
    ·cases h
   | _=>cases h
theorem pQ(h:bG sc tg d C=some C')(s:Sub C ρ):∃ρ',bG sc tg d ρ=some ρ'/\Sub C' ρ':=by
 unfold bG at h⊢
 split at h
 ·split at h
  ·rename_i hx;cases h;exact⟨_,if_pos hx,s.put _ _⟩
  ·cases h
 ·split at h
  ·exact oz h s
  ·cases h
 ·cases h
theorem d8{m:List Prop}(h:b=true->aA m):aA (gd b m):=by
 cases m with
 | nil=>exact True.intro
 | cons p l=>exact⟨h,True.intro⟩
theorem rW{c:Bool}{r:Rs Bool}(h:b=true->ab r c)(hf:b=false->c=false):ab (vq b r) c:=by
 cases b with
 | true =>
  obtain⟨m,rfl,hm⟩:=h rfl
  exact⟨_,rfl,d8 fun _=>hm⟩
 | false =>
  rw[hf rfl]
  cases r with
  | ok c' m=>exact⟨_,rfl,d8 fun z=>(by cases z)⟩
  | st=>exact⟨_,rfl,True.intro⟩
theorem uL{c:Bool}{r:Rs Bool}(h:b=false->ab r c)(hf:b=true->c=true):ab (zY b r) c:=by
 cases b with
 | false =>
  obtain⟨m,rfl,hm⟩:=h rfl
  exact⟨_,rfl,d8 fun _=>hm⟩
 | true =>
  rw[hf rfl]
  cases r with
  | ok c' m=>exact⟨_,rfl,d8 fun z=>(by cases z)⟩
  | st=>exact⟨_,rfl,True.intro⟩
theorem Ao{r s:R1}{d:D×Nat}(h:ab (if t=true then r else s) d):ab (Ap t r s) d:=by
 cases t with
 | true =>
  rw[if_pos rfl]at h
  obtain⟨m,rfl,hm⟩:=h
  cases s with
  | ok q n=>exact⟨_,by show Rs.ok _ _=Rs.ok _ _;rw[qF,Aj],da.mpr ⟨d8 fun _=>hm,d8 fun z=>(by cases z)⟩⟩
  | st=>exact⟨m,rfl,hm⟩
 | false =>
  rw[if_neg Bool.false_ne_true]at h
  obtain⟨m,rfl,hm⟩:=h
  cases r with
  | ok q n=>exact⟨_,by show Rs.ok _ _=Rs.ok _ _;rw[qG,Ak],da.mpr ⟨d8 fun z=>(by cases z),d8 fun _=>hm⟩⟩
  | st=>exact⟨m,rfl,hm⟩
theorem g7{p:D×Nat}{f:Bool->Rs α}{a:α}(h:p.1=.bl b)(h2:ab (f b) a):ab (gK p f) a:=by
 unfold gK;rw[h];exact h2
theorem Im{p:D×Nat}{f:Int->R1}{a:D×Nat}{b:Int}(h:p.1=.int b)(h2:ab (f b) a):ab (iM p f) a:=by
 unfold iM;rw[h];exact h2
structure Mo(Φ:Fx)(n:Nat):Prop where
 e:∀(e:Expr) {it:Bool} {sc:Scope} {C ρ:ae} {p:D×Nat},sizeOf e<n->ab (au Φ e it sc C) p->Sub C ρ->ab (au Φ e it sc ρ) p
 es:∀(es:List Expr) {sc:Scope} {C ρ:ae} {p:List D×Nat},sizeOf es<n->ab (bK Φ es sc C) p->Sub C ρ->ab (bK Φ es sc ρ) p
 b:∀(op:BoolOp) (es:List Expr) {sc:Scope} {C ρ:ae} {b:Bool},sizeOf es<n->ab (dE Φ op es sc C) b->Sub C ρ->ab (dE Φ op es sc ρ) b
 o:∀(e:Option Expr) {sc:Scope} {C ρ:ae} {o:Option Int},sizeOf e<n->ab (kO Φ e sc C) o->Sub C ρ->ab (kO Φ e sc ρ) o
theorem tR{step step2:D->Rs (Option (D×Nat))}(h:∀d r,ab (step d) r->ab (step2 d) r):∀{ds:List D} {q:List D×Nat},ab (fu step ds) q->ab (fu step2 ds) q
 | [],q,hq=>hq
 | d::ds,q,hq=>by
  obtain⟨r,h1,h2⟩:=ar (show ab (Rs.bnd _ _) q from hq)
  obtain⟨q1,h3,h4⟩:=ar h2
  exact ab.bnd (h _ _ h1) (ab.bnd (tR h h3) h4)
section
variable{Φ:Fx}{n:Nat}{it:Bool}{sc:Scope}{C ρ:ae}{p:D×Nat}
theorem Af(I:Mo Φ n){i:Expr}(hs:sizeOf (Expr.Subscript a i pos)<n+1)(h:ab ((au Φ a false sc C).bnd fun p=>(au Φ i false sc C).bnd fun q=>kX p q) p)(s:Sub C ρ):ab ((au Φ a false sc ρ).bnd fun p=>(au Φ i false sc ρ).bnd fun q=>kX p q) p:=by
 obtain⟨x,h1,h⟩:=ar h
 obtain⟨y,h2,h⟩:=ar h
 exact ab.bnd (I.e a (ba (by simp<;>omega) hs) h1 s) (ab.bnd (I.e i (ba (by simp<;>omega) hs) h2 s) h)
theorem LF(I:Mo Φ n)(e:Expr)(hs:sizeOf e<n+1)(h:ab (au Φ e it sc C) p)(s:Sub C ρ):ab (au Φ e it sc ρ) p:=by
 cases e with
 | Constant c k q=>exact h
 | Name x q =>
  replace h:ab (iI Φ x sc C) p:=h
  show ab (iI Φ x sc ρ) p
  unfold iI at h⊢
  split at h
  ·rename_i hx
   rw[if_pos hx]
   split at h
   ·rename_i hg;rw[if_pos hg];exact h
   ·rename_i hg
    rw[if_neg hg]
    split at h
    ·rename_i y hy;rw[s x y hy];exact h
    ·exact(am h).elim
  ·exact(am h).elim
 | BinOp a op b q =>
  obtain⟨x,h1,h⟩:=ar (show ab (Rs.bnd _ _) p from h)
  obtain⟨y,h2,h⟩:=ar h
  exact ab.bnd (I.e a (ba (by simp<;>omega) hs) h1 s) (ab.bnd (I.e b (ba (by simp<;>omega) hs) h2 s) h)
 | UnaryOp op a q =>
  obtain⟨x,h1,h⟩:=ar (show ab (Rs.bnd _ _) p from h)
  exact ab.bnd (I.e a (ba (by simp<;>omega) hs) h1 s) h
 | BoolOp op es q =>
  rw[nY]at h⊢
  split at h
  ·exact(am h).elim
  ·rename_i hne
   rw[if_neg hne]
   obtain⟨b,h1,h⟩:=ar h
   exact ab.bnd (I.b op es (ba (by simp<;>omega) hs) h1 s) h
 | Compare a ops bs q =>
  match ops,bs,hs,h with
  | [op],[b],hs,h =>
   obtain⟨x,h1,h⟩:=ar (show ab (Rs.bnd _ _) p from h)
   obtain⟨y,h2,h⟩:=ar h
   exact ab.bnd (I.e a (ba (by simp<;>omega) hs) h1 s) (ab.bnd (I.e b (ba (by simp<;>omega) hs) h2 s) h)
  | [],bs,_,h=>exact(am h).elim
  | [op],[],_,h=>exact(am h).elim
  | [op],_::_::_,_,h=>exact(am h).elim
  | [op,op2],[b,c],hs,h =>
   obtain⟨x,h1,h⟩:=ar (show ab (Rs.bnd _ _) p from h)
   obtain⟨y,h2,h⟩:=ar h
   obtain⟨z,h3,h⟩:=ar h
   exact ab.bnd (I.e a (ba (by simp<;>omega) hs) h1 s) (ab.bnd (I.e b (ba (by simp<;>omega) hs) h2 s) (ab.bnd (I.e c (ba (by simp<;>omega) hs) h3 s) h))
  | [_,_],[],_,h=>exact(am h).elim
  | [_,_],[_],_,h=>exact(am h).elim
  | [_,_],_::_::_::_,_,h=>exact(am h).elim
  | _::_::_::_,bs,_,h=>exact(am h).elim
 | IfExp c a b q =>
  obtain⟨x,h1,h⟩:=ar (show ab (Rs.bnd _ _) p from h)
  obtain⟨t,ht,h⟩:=fC h
  obtain⟨l,h,hp⟩:=h
  obtain⟨m,h,hm⟩:=t5 h hp
  refine ab.bnd (I.e c (ba (by simp<;>omega) hs) h1 s) (g7 ht (Ao ?_))
  cases t with
  | true=>exact I.e a (ba (by simp<;>omega) hs) ⟨m,h,hm⟩ s
  | false=>exact I.e b (ba (by simp<;>omega) hs) ⟨m,h,hm⟩ s
 | Tuple es k q =>
  obtain⟨x,h1,h⟩:=ar (show ab (Rs.bnd _ _) p from h)
  exact ab.bnd (I.es es (ba (by simp<;>omega) hs) h1 s) h
 | List es q =>
  obtain⟨x,h1,h⟩:=ar (show ab (Rs.bnd _ _) p from h)
  exact ab.bnd (I.es es (ba (by simp<;>omega) hs) h1 s) h
 | Attribute a f q =>
  cases a with
  | Name x pn =>
   obtain⟨y,h1,h⟩:=ar (show ab (Rs.bnd _ _) p from h)
   exact ab.bnd (I.e (.Name x pn) (it:=false) (ba (by simp<;>omega) hs) h1 s) h
  | _=>exact(am h).elim
 | Dict ks vs q =>
  match ks,vs,h with
  | [],[],h=>exact h
  | _::_,_,h=>exact(am h).elim
  | [],_::_,h=>exact(am h).elim
 | Subscript a i q =>
  cases i with
  | Slice lo hi st p2 =>
   cases st with
   | none =>
    obtain⟨x,h1,h⟩:=ar (show ab (Rs.bnd _ _) p from h)
    obtain⟨y,h2,h⟩:=ar h
    obtain⟨z,h3,h⟩:=ar h
    exact ab.bnd (I.e a (ba (by simp<;>omega) hs) h1 s) (ab.bnd (I.o lo (ba (by simp<;>omega) hs) h2 s) (ab.bnd (I.o hi (ba (by simp<;>omega) hs) h3 s) h))
   | some e=>exact Af I hs h s
  | _=>exact Af I hs h s
 | Call f args kws q =>
  cases f with
  | Name f fp =>
   cases kws with
   | nil =>
    rw[iS]at h⊢
    split at h
    ·rename_i hf
     rw[if_pos hf]
     obtain⟨x,h1,h⟩:=ar h
     exact ab.bnd (I.es args (ba (by simp<;>omega) hs) h1 s) h
    ·exact(am h).elim
   | cons _ _=>exact(am h).elim
  | Attribute a m ap =>
   cases kws with
   | nil =>
    rw[iT]at h⊢
    split at h
    ·rename_i hf
     rw[if_pos hf]
     obtain⟨x,h1,h⟩:=ar h
     obtain⟨y,h2,h⟩:=ar h
     exact ab.bnd (I.e a (ba (by simp<;>omega) hs) h1 s) (ab.bnd (I.es args (ba (by simp<;>omega) hs) h2 s) h)
    ·exact(am h).elim
   | cons _ _=>exact(am h).elim
  | _=>exact(am h).elim
 | ListComp elt gens scope q =>
  obtain⟨l0,h0,_⟩:=id h
  obtain⟨tg,iter,ifs,rfl⟩:=nR h0
  rw[nX]at h⊢
  split at h
  ·rename_i hc
   rw[if_pos hc]
   obtain⟨x,h1,h⟩:=ar h
   refine ab.bnd (I.e iter (by first|omega|(simp at *;omega)) h1 s) ?_
   split at h
   ·split at h
    ·rename_i hl
     rw[if_pos hl]
     obtain⟨u0,h0',h⟩:=ar h
     obtain⟨y,h2,h⟩:=ar h
     refine ab.bnd h0' (ab.bnd (tR (fun d r hr=>?_) h2) h)
     split at hr
     ·exact(am hr).elim
     ·rename_i C' hb
      obtain⟨ρ',hb',s'⟩:=pQ hb (s.flt scope)
      rw[hb']
      obtain⟨b,h3,hr⟩:=ar hr
      refine ab.bnd (I.b .And ifs (by first|omega|(simp at *;omega)) h3 s') ?_
      cases b with
      | false=>exact hr
      | true =>
       rw[cond_true]at hr⊢
       obtain⟨z,h4,hr⟩:=ar hr
       exact ab.bnd (I.e elt (by first|omega|(simp at *;omega)) h4 s') hr
    ·exact(am h).elim
   ·exact(am h).elim
  ·exact(am h).elim
 | _=>exact(am h).elim
theorem HV(I:Mo Φ n)(es:List Expr){p:List D×Nat}(hs:sizeOf es<n+1)(h:ab (bK Φ es sc C) p)(s:Sub C ρ):ab (bK Φ es sc ρ) p:=by
 cases es with
 | nil=>exact h
 | cons e es =>
  obtain⟨x,h1,h⟩:=ar (show ab (Rs.bnd _ _) p from h)
  obtain⟨y,h2,h⟩:=ar h
  exact ab.bnd (I.e e (ba (by simp<;>omega) hs) h1 s) (ab.bnd (I.es es (ba (by simp<;>omega) hs) h2 s) h)
theorem LG(I:Mo Φ n)(op:BoolOp)(es:List Expr)(hs:sizeOf es<n+1)(h:ab (dE Φ op es sc C) b)(s:Sub C ρ):ab (dE Φ op es sc ρ) b:=by
 cases es with
 | nil=>cases op<;>exact h
 | cons e es =>
  cases op with
  | And =>
   obtain⟨x,h1,h⟩:=ar (show ab (Rs.bnd _ _) b from h)
   obtain⟨t,ht,l,h,hp⟩:=fC h
   refine ab.bnd (I.e e (ba (by simp<;>omega) hs) h1 s) (g7 ht ?_)
   rcases rV h hp with⟨rfl,m,h,pm⟩|⟨rfl,rfl⟩
   ·exact rW (fun _=>I.b .And es (ba (by simp<;>omega) hs) ⟨m,h,pm⟩ s) fun z=>(by cases z)
   ·exact rW (fun z=>(by cases z)) fun _=>rfl
  | Or =>
   obtain⟨x,h1,h⟩:=ar (show ab (Rs.bnd _ _) b from h)
   obtain⟨t,ht,l,h,hp⟩:=fC h
   refine ab.bnd (I.e e (ba (by simp<;>omega) hs) h1 s) (g7 ht ?_)
   rcases tK h hp with⟨rfl,m,h,pm⟩|⟨rfl,rfl⟩
   ·exact uL (fun _=>I.b .Or es (ba (by simp<;>omega) hs) ⟨m,h,pm⟩ s) fun z=>(by cases z)
   ·exact uL (fun z=>(by cases z)) fun _=>rfl
theorem LE(I:Mo Φ n)(e:Option Expr){o:Option Int}(hs:sizeOf e<n+1)(h:ab (kO Φ e sc C) o)(s:Sub C ρ):ab (kO Φ e sc ρ) o:=by
 cases e with
 | none=>exact h
 | some e =>
  obtain⟨x,h1,h⟩:=ar (show ab (Rs.bnd _ _) o from h)
  exact ab.bnd (I.e e (ba (by simp<;>omega) hs) h1 s) h
end
theorem ic(Φ:Fx):∀n,Mo Φ n
 | 0=>⟨fun _ _ _ _ _ _ h=>absurd h (Nat.not_lt_zero _),fun _ _ _ _ _ h=>absurd h (Nat.not_lt_zero _),fun _ _ _ _ _ _ h=>absurd h (Nat.not_lt_zero _),fun _ _ _ _ _ h=>absurd h (Nat.not_lt_zero _)⟩
 | n+1=>⟨fun e _ _ _ _ _ hs h s=>LF (ic Φ n) e hs h s,fun e _ _ _ _ hs h s=>HV (ic Φ n) e hs h s,fun op e _ _ _ _ hs h s=>LG (ic Φ n) op e hs h s,fun e _ _ _ _ hs h s=>LE (ic Φ n) e hs h s⟩
theorem cX{p:D×Nat}(h:ab (au Φ e it sc C) p)(s:Sub C ρ):ab (au Φ e it sc ρ) p:=(ic Φ _).e e (Nat.lt_succ_self _) h s
theorem tQ{e:List Expr}{p:List D×Nat}(h:ab (bK Φ e sc C) p)(s:Sub C ρ):ab (bK Φ e sc ρ) p:=(ic Φ _).es e (Nat.lt_succ_self _) h s
def zr:Fl->Fl->Prop
 | .nx a,.nx b=>Sub a b
 | .bk a,.bk b=>Sub a b
 | .ct a,.ct b=>Sub a b
 | .rt a,.rt b=>a=b
 | _,_=>False
theorem cu{a:α}:ab (.ok a []) a:=⟨[],rfl,True.intro⟩
def je(f:ae->Rs Fl):Prop:=∀C ρ fl,ab (f C) fl->Sub C ρ->∃fl',ab (f ρ) fl'/\zr fl fl'
theorem wm{f:ae->Rs Fl}(h:je f){x y z:Fl}(hx:ab (kL f x) z)(s:zr x y):∃z',ab (kL f y) z'/\zr z z':=by
 cases x<;>cases y<;>first|exact s.elim|skip
 ·exact h _ _ _ hx s
 ·cases aF hx;cases s;exact⟨_,cu,rfl⟩
 ·cases aF hx;exact⟨_,cu,s⟩
 ·exact h _ _ _ hx s
theorem wn{sc:Scope}{tg:Expr}{body:ae->Rs Fl}(hb:je body):∀ds,je (c7 (bG sc tg) body ds)
 | []=>fun C ρ fl h s=>by cases aF h;exact⟨_,cu,s⟩
 | d::ds=>fun C ρ fl h s=>by
  replace h:ab (match bG sc tg d C with|none=>(.st:Rs Fl)|some ρ1=>(body ρ1).bnd (kL (c7 (bG sc tg) body ds))) fl:=h
  split at h
  ·exact(am h).elim
  ·rename_i C1 hC
   obtain⟨ρ1,hρ,s1⟩:=pQ hC s
   obtain⟨x,h1,h2⟩:=ar h
   obtain⟨y,h3,s2⟩:=hb _ _ _ h1 s1
   obtain⟨z,h4,s3⟩:=wm (wn hb ds) h2 s2
   refine⟨z,?_,s3⟩
   show ab (match bG sc tg d ρ with|none=>(.st:Rs Fl)|some ρ1=>(body ρ1).bnd (kL (c7 (bG sc tg) body ds))) z
   rw[hρ];exact ab.bnd h3 h4
theorem Ae{test:ae->Rs Bool}{body:ae->Rs Fl}(ht:∀C ρ b,ab (test C) b->Sub C ρ->ab (test ρ) b)(hb:je body):∀n,je (kK test body n)
 | 0=>fun C ρ fl h s=>(am h).elim
 | n+1=>fun C ρ fl h s=>by
  obtain⟨b,h1,h2⟩:=ar (show ab (Rs.bnd _ _) fl from h)
  have h1':=ht _ _ _ h1 s
  cases b with
  | false=>cases aF h2;exact⟨_,ab.bnd h1' cu,s⟩
  | true =>
   obtain⟨x,h3,h4⟩:=ar (show ab (Rs.bnd _ _) fl from h2)
   obtain⟨y,h5,s2⟩:=hb _ _ _ h3 s
   obtain⟨z,h6,s3⟩:=wm (Ae ht hb n) h4 s2
   exact⟨z,ab.bnd h1' (ab.bnd h5 h6),s3⟩
theorem EQ:je (mw Φ tgs e sc):=by
 intro C ρ fl h s
 unfold mw at h⊢
 split at h
 ·obtain⟨p,h1,h⟩:=ar h
  unfold nr at h
  split at h
  ·rename_i hx
   split at h
   ·rename_i ho;cases aF h
    exact⟨.nx _,ab.bnd (cX h1 s) (by unfold nr;rw[if_pos hx,ho];exact cu),s.put _ _⟩
   ·rename_i ho;cases aF h
    exact⟨.nx _,ab.bnd (cX h1 s) (by unfold nr;rw[if_pos hx,ho];exact cu),s.put _ _⟩
   ·exact(am h).elim
  ·exact(am h).elim
 ·split at h
  ·rename_i ht
   rw[if_pos ht]
   unfold mq at h⊢
   split at h
   ·split at h
    ·rename_i hp
     rw[if_pos hp]
     obtain⟨q,h1,h⟩:=ar h
     split at h
     ·rename_i u v hd
      split at h
      ·rename_i hf
       cases aF h
       refine⟨.nx _,ab.bnd (tQ h1 s) ?_,(s.put _ _).put _ _⟩
       rw[hd];dsimp only;rw[if_pos hf];exact cu
      ·exact(am h).elim
     ·exact(am h).elim
    ·exact(am h).elim
   ·exact(am h).elim
  ·rename_i ht
   rw[if_neg ht]
   obtain⟨p,h1,h⟩:=ar h
   split at h
   ·rename_i ho
    cases aF h
    refine⟨.nx _,ab.bnd (cX h1 s) (by rw[if_pos ho];exact cu),?_⟩
    show Sub _ _
    unfold x6
    split
    ·exact(s.put _ _).put _ _
    ·exact s
   rename_i ho
   split at h
   ·rename_i ds hd
    split at h
    ·rename_i hf
     split at h
     ·rename_i C' hb
      cases aF h
      obtain⟨ρ',hb',s'⟩:=oz hb s
      refine⟨.nx _,ab.bnd (cX h1 s) ?_,s'⟩
      rw[if_neg ho,hd];dsimp only;rw[if_pos hf,hb'];exact cu
     ·exact(am h).elim
    ·exact(am h).elim
   ·exact(am h).elim
 ·split at h
  ·rename_i hc
   rw[if_pos hc]
   obtain⟨p,h1,h⟩:=ar h
   obtain⟨q,h2,h⟩:=ar h
   rcases pR h with⟨l,j,l',a1,a2,a3,hj,hs,hf,rfl⟩|hF
   ·refine⟨.nx _,ab.bnd (cX h1 s) (ab.bnd (cX h2 s) ?_),s.put _ _⟩
    rw[hj];unfold m7;rw[s _ _ a1];dsimp only;rw[if_pos a3,hs]
    exact⟨_,rfl,a2,hf,True.intro⟩
   ·exact hF.elim
  ·exact(am h).elim
 ·exact(am h).elim
theorem EO{t:Expr}{op:Operator}:je (mv Φ t op e sc):=by
 intro C ρ fl h s
 unfold mv at h⊢
 split at h
 ·split at h
  ·rename_i hx
   rw[if_pos hx]
   split at h
   ·rename_i p hp
    rw[s _ _ hp]
    obtain⟨r,h1,h⟩:=ar h
    cases aF h
    obtain⟨a,ha,h3⟩:=nC h1
    obtain⟨q,h2,h4⟩:=ar h3
    exact⟨.nx _,ab.bnd (Im ha (ab.bnd (cX h2 s) h4)) cu,s.put _ _⟩
   ·exact(am h).elim
  ·exact(am h).elim
 ·exact(am h).elim
theorem EN:je (mr Φ e sc):=by
 intro C ρ fl h s
 unfold mr at h⊢
 split at h
 ·split at h
  ·rename_i hln
   rw[if_pos hln]
   obtain⟨p,h1,h⟩:=ar h
   split at h
   ·rename_i M hM
    obtain⟨l,a1,a3,h⟩:=qx h
    obtain⟨l',h2,h⟩:=ar h
    cases aF h
    refine⟨.nx _,ab.bnd (tQ h1 s) ?_,s.put _ _⟩
    unfold uI;rw[s _ _ a1];dsimp only;rw[if_pos a3];exact ab.bnd h2 cu
   ·exact(am h).elim
  ·exact(am h).elim
 ·obtain⟨p,h1,h⟩:=ar h
  cases aF h
  exact⟨.nx _,ab.bnd (cX h1 s) cu,s⟩
 ·exact(am h).elim
structure Hc(Φ:Fx)(n:Nat):Prop where
 s:∀(st:Stmt) (sc:Scope),sizeOf st<n->je (eU Φ st sc)
 ss:∀(st:List Stmt) (sc:Scope),sizeOf st<n->je (az Φ st sc)
theorem HU(I:Hc Φ n)(st:Stmt)(sc:Scope)(hs:sizeOf st<n+1):je (eU Φ st sc):=by
 intro C ρ fl h s
 cases st with
 | Return e p =>
  cases e with
  | none=>cases aF h;exact⟨_,cu,rfl⟩
  | some e =>
   obtain⟨p,h1,h⟩:=ar (show ab (Rs.bnd _ _) fl from h)
   have s':Sub (qf e C) (qf e ρ):=by
    unfold qf
    cases pj e with
    | false=>exact s
    | true =>
     intro x y hx
     have hx:(C x).map (fun p=>(p.1,false))=some y:=hx
     show(ρ x).map (fun p=>(p.1,false))=some y
     cases e:C x with
     | none=>rw[e]at hx;cases hx
     | some z=>rw[e]at hx;rw[s x z e];exact hx
   refine⟨fl,ab.bnd (cX h1 s') h,?_⟩
   unfold uE at h
   split at h
   ·cases aF h;rfl
   ·exact(am h).elim
 | Pass p=>cases aF h;exact⟨_,cu,s⟩
 | Break p=>cases aF h;exact⟨_,cu,s⟩
 | Continue p=>cases aF h;exact⟨_,cu,s⟩
 | Assign tgs e p=>exact EQ C ρ fl h s
 | AugAssign t op e p=>exact EO C ρ fl h s
 | Expr e p=>exact EN C ρ fl h s
 | If c a b p =>
  obtain⟨p,h1,h⟩:=ar (show ab (Rs.bnd _ _) fl from h)
  obtain⟨t,ht,h⟩:=fC h
  cases t with
  | true =>
   obtain⟨z,h2,s2⟩:=I.ss a sc (ba (by simp<;>omega) hs) C ρ fl h s
   exact⟨z,ab.bnd (cX h1 s) (g7 ht h2),s2⟩
  | false =>
   obtain⟨z,h2,s2⟩:=I.ss b sc (ba (by simp<;>omega) hs) C ρ fl h s
   exact⟨z,ab.bnd (cX h1 s) (g7 ht h2),s2⟩
 | For tg it body els p =>
  rw[nW]at h⊢
  split at h
  ·rename_i he
   rw[if_pos he]
   obtain⟨p,h1,h⟩:=ar h
   split at h
   ·rename_i ds hd
    split at h
    ·rename_i hk
     obtain⟨z,h2,s2⟩:=wn (I.ss body sc (ba (by simp<;>omega) hs)) ds _ _ fl h (s.demote it)
     refine⟨z,ab.bnd (cX h1 (s.demote it)) ?_,s2⟩
     rw[hd];dsimp only;rw[if_pos hk];exact h2
    ·exact(am h).elim
   ·exact(am h).elim
  ·exact(am h).elim
 | While c body els p =>
  rw[rj]at h⊢
  split at h
  ·rename_i he
   rw[if_pos he]
   refine Ae (fun C ρ b hb s=>?_) (I.ss body sc (ba (by simp<;>omega) hs)) cg C ρ fl h s
   obtain⟨q,h1,hb⟩:=ar hb
   exact ab.bnd (cX h1 s) hb
  ·exact(am h).elim
 | _=>exact(am h).elim
theorem EM(I:Hc Φ n)(ss:List Stmt)(sc:Scope)(hs:sizeOf ss<n+1):je (az Φ ss sc):=by
 intro C ρ fl h s
 cases ss with
 | nil=>cases aF h;exact⟨_,cu,s⟩
 | cons st ss =>
  rcases pS h with⟨C',h1,h2⟩|⟨h1,h2⟩
  ·obtain⟨x,h3,s2⟩:=I.s st sc (ba (by simp<;>omega) hs) C ρ _ h1 s
   cases x with
   | nx ρ' =>
    obtain⟨z,h4,s3⟩:=I.ss ss sc (ba (by simp<;>omega) hs) C' ρ' fl h2 s2
    exact⟨z,aP h3 h4,s3⟩
   | rt _=>exact s2.elim
   | bk _=>exact s2.elim
   | ct _=>exact s2.elim
  ·obtain⟨x,h3,s2⟩:=I.s st sc (ba (by simp<;>omega) hs) C ρ _ h2 s
   refine⟨x,jj h3 fun ρ' z=>?_,s2⟩
   subst z
   cases fl<;>first|exact h1 _ rfl|exact s2
theorem j9(Φ:Fx):∀n,Hc Φ n
 | 0=>⟨fun _ _ h=>absurd h (Nat.not_lt_zero _),fun _ _ h=>absurd h (Nat.not_lt_zero _)⟩
 | n+1=>⟨fun e sc hs=>HU (j9 Φ n) e sc hs,fun e sc hs=>EM (j9 Φ n) e sc hs⟩
theorem BQ(h:ab (az Φ ss sc C) (.nx C'))(s:Sub C ρ):∃ρ',ab (az Φ ss sc ρ) (.nx ρ')/\Sub C' ρ':=by
 obtain⟨z,h1,h2⟩:=(j9 Φ _).ss ss sc (Nat.lt_succ_self _) C ρ _ h s
 cases z with
 | nx ρ'=>exact⟨ρ',h1,h2⟩
 | rt _=>exact h2.elim
 | bk _=>exact h2.elim
 | ct _=>exact h2.elim
theorem BP(h:ab (az Φ ss sc C) (.rt d))(s:Sub C ρ):ab (az Φ ss sc ρ) (.rt d):=by
 obtain⟨z,h1,h2⟩:=(j9 Φ _).ss ss sc (Nat.lt_succ_self _) C ρ _ h s
 cases z with
 | rt _=>cases h2;exact h1
 | nx _=>exact h2.elim
 | bk _=>exact h2.elim
 | ct _=>exact h2.elim
def bj:List (Str×D×Bool)->ae
 | []=>fun _=>none
 | p::l=>fun z=>if z=p.1 then some p.2 else bj l z
theorem aE:Sub (bj []) ρ:=fun _ _ h=>by cases h
theorem ah{y:D×Bool}{l:List (Str×D×Bool)}(h:ρ x=some y)(g:Sub (bj l) ρ):Sub (bj ((x,y)::l)) ρ:=fun z w e=>by
 replace e:(if z=x then some y else bj l z)=some w:=e
 by_cases hz:z=x
 ·rw[if_pos hz]at e;cases e;rw[hz];exact h
 ·rw[if_neg hz]at e;exact g z w e
theorem Sub.get{y:D×Bool}(s:Sub C ρ)(h:C x=some y:=by rfl):ρ x=some y:=s x y h
section
variable{Φ:Fx}{sc:Scope}{ρ ρ':ae}{fl:Fl}{ss:List Stmt}
theorem dA{P:ae->Prop}(s:Sub C ρ)(h:ab (az Φ ss sc C) (.nx C'))(k:∀ρ',Sub C' ρ'->P ρ'):∃ρ',ab (az Φ ss sc ρ) (.nx ρ')/\P ρ' :=
 let ⟨ρ',h1,h2⟩:=BQ h s;⟨ρ',h1,k ρ' h2⟩
theorem bp(s:Sub C ρ)(h:ab (az Φ ss sc C) (.rt d)):ab (az Φ ss sc ρ) (.rt d):=BP h s
theorem dW{p:D×Nat}(s:Sub C ρ)(h:ab (au Φ e it sc C) p):ab (au Φ e it sc ρ) p:=cX h s
theorem m9{it:Expr}(aj:List D->ae->Prop)(hi:ab (au Φ it true sc (demote it ρ)) (d,k))(h0:aj ds (demote it ρ))
  (step:∀d l ρ,aj (d::l) ρ->∃ρ1,bG sc tg d ρ=some ρ1/\∃ρ2,ab (az Φ body sc ρ1) (.nx ρ2)/\aj l ρ2) (bT:∀ρ',aj [] ρ'->ab (az Φ ss sc ρ') fl) (hd:items d=some ds:=by rfl) (hk:k<=1:=by first|exact Nat.le_refl 1|exact Nat.zero_le 1) (ht:eG it tg=true:=by rfl):ab (az Φ (.For tg it body [] p::ss) sc ρ) fl:=by
 obtain⟨ρ',h1,h2⟩:=q9 (bind:=bG sc tg) (body:=az Φ body sc) aj (fun d l ρ h=>let ⟨ρ1,a,ρ2,b,c⟩:=step d l ρ h;⟨ρ1,ρ2,a,.inl b,c⟩) h0
 exact aP (rh hi hd hk ht h1) (bT ρ' h2)
theorem A5{it:Expr}(aj:List D->ae->Prop)(R:D->Prop)(hi:ab (au Φ it true sc (demote it ρ)) (d,k))(h0:aj ds (demote it ρ))
  (step:∀d l ρ,aj (d::l) ρ->∃ρ1,bG sc tg d ρ=some ρ1/\((∃ρ2,ab (az Φ body sc ρ1) (.nx ρ2)/\aj l ρ2)\/∃r,ab (az Φ body sc ρ1) (.rt r)/\R r)) (bT:∀ρ',aj [] ρ'->∃r,ab (az Φ ss sc ρ') (.rt r)/\R r) (hd:items d=some ds:=by rfl) (hk:k<=1:=by first|exact Nat.le_refl 1|exact Nat.zero_le 1) (ht:eG it tg=true:=by rfl):∃r,ab (az Φ (.For tg it body [] p::ss) sc ρ) (.rt r)/\R r:=by
 rcases t6 (bind:=bG sc tg) (body:=az Φ body sc) aj R (fun d l ρ h=>by
  obtain⟨ρ1,a,b⟩:=step d l ρ h
  rcases b with⟨ρ2,b,c⟩|⟨r,b,c⟩
  ·exact⟨ρ1,a,.inl ⟨ρ2,.inl b,c⟩⟩
  ·exact⟨ρ1,a,.inr ⟨r,b,c⟩⟩) h0 with⟨ρ',h1,h2⟩|⟨r,h1,h2⟩
 ·obtain⟨r,h3,h4⟩:=bT ρ' h2
  exact⟨r,aP (rh hi hd hk ht h1) h3,h4⟩
 ·exact⟨r,b0 (rh hi hd hk ht h1),h2⟩
theorem bW{b:Expr}{x:D}(ha:ab (au Φ a false sc ρ) (x,k))(hb:ab (au Φ b false sc ρ) (y,j))(h:ab (gZ op x y) r):ab (au Φ (.Compare a [op] [b] p) it sc ρ) (.bl r,0) :=
 ab.bnd ha (ab.bnd hb (ab.bnd h cu))
theorem dX{op:BoolOp}(h:ab (dE Φ op (e::es) sc ρ) b):ab (au Φ (.BoolOp op (e::es) p) it sc ρ) (.bl b,0):=by
 rw[nY,if_neg (show ¬ (List.isEmpty (e::es)=true)from Bool.false_ne_true)];exact ab.bnd h cu
theorem fS{c:Bool}(h:ab (au Φ e false sc ρ) (.bl b,k))(h1:b=true->ab (dE Φ .And es sc ρ) c)(h2:b=false->c=false):ab (dE Φ .And (e::es) sc ρ) c:=ab.bnd h (g7 rfl (rW h1 h2))
theorem rk{c:Bool}(h:ab (au Φ e false sc ρ) (.bl b,k))(h1:b=false->ab (dE Φ .Or es sc ρ) c)(h2:b=true->c=true):ab (dE Φ .Or (e::es) sc ρ) c:=ab.bnd h (g7 rfl (uL h1 h2))
theorem b4{c:Bool}(h:ab (au Φ e false sc ρ) (.bl false,k))(h1:ab (dE Φ .Or es sc ρ) c):ab (dE Φ .Or (e::es) sc ρ) c:=rk h (fun _=>h1) fun z=>by cases z
theorem mx:ab (dE Φ .And [] sc ρ) true:=cu
theorem eY:ab (dE Φ .Or [] sc ρ) false:=cu
theorem ab.bl{r:R1}{c:Bool}(h:ab r (.bl b,k))(e:b=c):ab r (.bl c,k):=e ▸ h
theorem rm(h:ab (bK Φ es sc ρ) (ds,k))(hl:ds.length<=cg):ab (au Φ (.Tuple es n p) it sc ρ) (.tup ds,kn (.tup ds) k):=ab.bnd h (by dsimp only;rw[if_pos hl];exact cu)
theorem iR{x:D}{l:Option Int}{r:D×Nat}(ha:ab (au Φ a false sc ρ) (x,k))(hl:ab (kO Φ lo sc ρ) l)(hh:ab (kO Φ hi sc ρ) h)(hr:ab (Φ.slf x l h) r):ab (au Φ (.Subscript a (.Slice lo hi none p2) p) it sc ρ) r:=ab.bnd ha (ab.bnd hl (ab.bnd hh hr))
theorem lv{g f:α->D}{l:List α}(hi:ab (au Φ iter true sc ρ) (d,k))(hd:items d=some (l.map g))(hl:l.length<=cg)(hk:ao (l.map g)=true\/k<=1)
  (h:∀x∈l,∃ρ',bG scope tg (g x) (flt scope ρ)=some ρ'/\ab (au Φ elt false scope ρ') (f x,0)) (hc:mJ sc scope=true:=by rfl) (ht:eG iter tg=true:=by rfl):ab (au Φ (.ListComp elt [⟨tg,iter,[],0⟩] scope p) it sc ρ) (.lst (l.map f),0):=by
 refine im hi hd ⟨by rw[List.length_map];exact hl,hk⟩ (oP fun x hx=>?_) (Nat.zero_le _) hc ht
 obtain⟨ρ',h1,h2⟩:=h x hx
 rw[h1]
 refine ab.bnd (a:=true) cu ?_
 rw[cond_true]
 exact ab.bnd h2 cu
end
theorem dO(h:us.length=1):∃a,us=[a]:=List.length_eq_one_iff.mp h
theorem yv(h:us.length=n+1):∃a r,us=a::r/\r.length=n:=by
 cases us with
 | nil=>cases h
 | cons a r=>exact⟨a,r,rfl,by simpa using h⟩
theorem ga(h:us.length=2):∃a b,us=[a,b]:=by
 obtain⟨a,r,e1,h1⟩:=yv h;subst e1;obtain⟨b,rfl⟩:=dO h1;exact⟨a,b,rfl⟩
theorem EX(h:us.length=3):∃a b c,us=[a,b,c]:=by
 obtain⟨a,r,e1,h1⟩:=yv h;subst e1;obtain⟨b,c,rfl⟩:=ga h1;exact⟨a,b,c,rfl⟩
theorem LH(h:us.length=4):∃a b c d,us=[a,b,c,d]:=by
 obtain⟨a,r,e1,h1⟩:=yv h;subst e1;obtain⟨b,c,d,rfl⟩:=EX h1;exact⟨a,b,c,d,rfl⟩
end Sp
namespace Qm
def Jf(a b c d:Int):Prop:=∃e x y z w:Int,(e=0\/e=1)/\a=2*x+e/\b=2*y+e/\c=2*z+e/\d=2*w+e
theorem fd4(t:Int):(4*t).fdiv 4=t:=by rw[Int.fdiv_eq_ediv_of_nonneg _ (by decide)];omega
end Qm
namespace K
open PySem L2 Sp
variable{α β:Type}{ds:List D}{r:D}
structure Dc(α:Type) where
 dec:D->Option α
 enc:α->D
 ok:∀x a,dec x=some a->x=enc a
def dI:Dc Int:=⟨fun | .int i=>some i|_=>none,.int,fun x a h=>by cases x<;>cases h;rfl⟩
def dL:Dc (List D):=⟨fun | .lst i=>some i|_=>none,.lst,fun x a h=>by cases x<;>cases h;rfl⟩
def Ds{α:Type}(A:Dc α)(f:α->Rs D):List D->Rs D
 | [x]=>(match A.dec x with|some a=>f a|none=>.st)
 | _=>.st
def zT{α β:Type}(A:Dc α)(B:Dc β)(f:α->β->Rs D):List D->Rs D
 | [x,y]=>(match A.dec x with|some a=>(match B.dec y with|some b=>f a b|none=>.st)|none=>.st)
 | _=>.st
theorem rF{A:Dc α}{x:D}{f:α->Rs β}{r:β}(h:ab (match A.dec x with|some a=>f a|none=>.st) r):∃a,x=A.enc a/\ab (f a) r:=by
 split at h
 ·rename_i a e;exact⟨a,A.ok _ _ e,h⟩
 ·exact(am h).elim
theorem A7{A:Dc α}{f:α->Rs D}(h:ab (Ds A f ds) r):∃a,ds=[A.enc a]/\ab (f a) r:=by
 unfold Ds at h
 split at h
 ·obtain⟨a,e1,h1⟩:=rF h;exact⟨a,by rw[e1],h1⟩
 ·exact(am h).elim
theorem tt{A:Dc α}{B:Dc β}{f:α->β->Rs D}(h:ab (zT A B f ds) r):∃a b,ds=[A.enc a,B.enc b]/\ab (f a b) r:=by
 unfold zT at h
 split at h
 ·obtain⟨a,e1,h1⟩:=rF h
  obtain⟨b,e2,h2⟩:=rF h1
  exact⟨a,b,by rw[e1,e2],h2⟩
 ·exact(am h).elim
def No:D->Int
 | .int i=>i
 | _=>0
def lG(l:List D):List Int:=l.map No
theorem iy(ns:List Int):lG (ns.map D.int)=ns:=by
 induction ns with
 | nil=>rfl
 | cons n ns ih=>show n::lG (ns.map D.int)=_;rw[ih]
def okL(l:List D):Prop:=∃ns:List Int,l=ns.map D.int
def dZ(ns:List Int)(k:Int):Int:=if ns=[]then 0 else ns.getD (k.fmod ns.length).toNat 0
def mI(ns:List Int)(k:Int):Int :=
 (dZ ns k).fdiv 2147483647*2147483647+((((dZ ns k).fmod 2147483647+7919*k+1)*48271).fmod 2147483647*69621+k).fmod 2147483647
def cG(l:List D)(k:Int):Int:=mI (lG l) k
abbrev t4(a b c d:Int):D:=.tup [.int a,.int b,.int c,.int d]
abbrev Qd:=Int×Int×Int×Int
def dq(q:Qd):D:=t4 q.1 q.2.1 q.2.2.1 q.2.2.2
abbrev NE(q:Qd):Prop:=q.1.natAbs<cT/\q.2.1.natAbs<cT/\q.2.2.1.natAbs<cT/\q.2.2.2.natAbs<cT
@[simp] theorem cz(a b:Int):eqD (.int a) (.int b)=decide (a=b):=by
 show(a==b)=_
 rw[Bool.eq_iff_iff];simp
@[simp] theorem eqD_q(p q:Qd):eqD (dq p) (dq q)=decide (p=q):=by
 show(p.1==q.1&&(p.2.1==q.2.1&&(p.2.2.1==q.2.2.1&&(p.2.2.2==q.2.2.2&&true))))=_
 obtain⟨a,b,c,d⟩:=p;obtain⟨e,f,g,h⟩:=q
 rw[Bool.eq_iff_iff];simp
end K
namespace Sp
open PySem PySem.Spec PyProof.Rows L2
variable{k m:Nat}{c:Expr}{p:Pos}
variable{Φ:Fx}{sc:Scope}{ρ ρ':ae}{fl:Fl}{ss:List Stmt}
theorem il{x:Str}{i e:Expr}{p1 p2 q:Pos}{l l':List D}{d:D}{j:Int}{k2:Nat}(hx:ρ x=some (.lst l,true))(h:ab (au Φ e false sc ρ) (d,k))(hi:ab (au Φ i false sc ρ) (.int j,k2))(hs:ld l j d=some l')(hl:ao l=true)(hd:d.lless=true)(ht:Dr e=true:=by rfl)(hn:dz x=true:=by rfl) :
  ab (eU Φ (.Assign [.Subscript (.Name x p1) i p2] e q) sc ρ) (.nx (bo ρ x (.lst l',true))):=by
 refine ab.bnd h (ab.bnd hi ?_)
 show ab (m7 _ _ _ _) _
 unfold m7
 rw[hx];dsimp only;rw[if_pos hn,hs]
 exact⟨_,rfl,hl,hd,True.intro⟩
theorem mz{a b:Expr}{it:Bool}{t:Bool}{r:D×Nat}(hc:ab (au Φ c false sc ρ) (.bl t,k))(h1:t=true->ab (au Φ a false sc ρ) r)(h2:t=false->ab (au Φ b false sc ρ) r):ab (au Φ (.IfExp c a b p) it sc ρ) r:=by
 refine ab.bnd hc (g7 rfl (Ao ?_))
 cases t with
 | true=>exact h1 rfl
 | false=>exact h2 rfl
theorem pN{test:ae->Rs Bool}{body:ae->Rs Fl}(aj:Nat->ae->Prop)(step:∀m ρ,aj m ρ->∃b,ab (test ρ) b/\(b=true->∃m' ρ2,m' < m/\ab (body ρ) (.nx ρ2)/\aj m' ρ2)):∀{n m:Nat} {ρ:ae},aj m ρ->m<n->∃m' ρ',ab (kK test body n ρ) (.nx ρ')/\aj m' ρ'/\ab (test ρ') false:=by
 intro n
 induction n with
 | zero=>intro m ρ _ h;omega
 | succ n ih =>
  intro m ρ hi hm
  obtain⟨b,hb,h⟩:=step m ρ hi
  cases b with
  | false=>exact⟨m,ρ,ab.bnd hb cu,hi,hb⟩
  | true =>
   obtain⟨m',ρ2,h1,h2,h3⟩:=h rfl
   obtain⟨m2,ρ3,h4,h5,h6⟩:=ih h3 (show m' < n by omega)
   exact⟨m2,ρ3,ab.bnd hb (ab.bnd h2 h4),h5,h6⟩
theorem vX{body:List Stmt}(aj:Nat->ae->Prop)(h0:aj m ρ)(hm:m<cg)
  (step:∀m ρ,aj m ρ->∃b k,ab (au Φ c false sc ρ) (.bl b,k)/\(b=true->∃m' ρ2,m' < m/\ab (az Φ body sc ρ) (.nx ρ2)/\aj m' ρ2)) (bT:∀m ρ',aj m ρ'->(∃k,ab (au Φ c false sc ρ') (.bl false,k))->ab (az Φ ss sc ρ') fl):ab (az Φ (.While c body [] p::ss) sc ρ) fl:=by
 obtain⟨m',ρ',h1,h2,h3⟩:=pN (test:=fun ρ=>(au Φ c false sc ρ).bnd fun p=>gK p fun b=>.ok b []) (body:=az Φ body sc) aj (fun m ρ h=>by
  obtain⟨b,k,a1,a2⟩:=step m ρ h
  exact⟨b,a1.bnd (g7 rfl cu),a2⟩) h0 hm
 obtain⟨q,h4,h5⟩:=ar h3
 obtain⟨t,ht,h5⟩:=fC h5
 cases aF h5
 obtain⟨q1,q2⟩:=q
 have ht:q1=.bl false:=ht
 subst ht
 exact aP (rg h1) (bT m' ρ' h2 ⟨q2,h4⟩)
theorem mW{m':Nat}{A:ae->Prop}{P:Nat->ae->Prop}(h:m' < m)(k:∃ρ2,A ρ2/\P m' ρ2):∃m' ρ2,m' < m/\A ρ2/\P m' ρ2:=by
 obtain⟨ρ2,a,b⟩:=k
 exact⟨m',ρ2,h,a,b⟩
end Sp
namespace K
open PySem L2 Sp

end K
namespace K
open PySem L2 Sp Qm
variable{M N k m:Nat}{q:Qd}{a b c e n x y:Int}{p:Pos}{Φ:Fx}{sc:Scope}{ρ:ae}{body:List Stmt}{d:D}{l:List D}{ns:List Int}{P:ae->Prop}
abbrev bd(a b c d:Int):Prop:=a.natAbs<cT/\b.natAbs<cT/\c.natAbs<cT/\d.natAbs<cT
def Dn(q:Qd):Int:=(q.1*q.1+(q.2.1*q.2.1+(q.2.2.1*q.2.2.1+(q.2.2.2*q.2.2.2+0)))).fdiv 4
def qw(q:Qd):Prop:=Jf q.1 q.2.1 q.2.2.1 q.2.2.2
def gA(M:Nat)(q:Qd):Prop:=q.1.natAbs<=M/\q.2.1.natAbs<=M/\q.2.2.1.natAbs<=M/\q.2.2.2.natAbs<=M
theorem GW(h:gA M q)(hM:M<cT):bd q.1 q.2.1 q.2.2.1 q.2.2.2 :=
 ⟨Nat.lt_of_le_of_lt h.1 hM,Nat.lt_of_le_of_lt h.2.1 hM,Nat.lt_of_le_of_lt h.2.2.1 hM,Nat.lt_of_le_of_lt h.2.2.2 hM⟩
def xM(p q:Qd):Qd:=(p.1+q.1,p.2.1+q.2.1,p.2.2.1+q.2.2.1,p.2.2.2+q.2.2.2)
theorem tJ{f:Int}(h:a=2*x+e)(g:b=2*y+f):a+b=2*(x+y)+(e+f):=by omega
theorem HG{d z w:Int}(h1:a=2*x+n)(h2:b=2*y+n)(h3:c=2*z+n)(h4:d=2*w+n):Jf a b c d:=by
 have k:∀{u v:Int},u=2*v+n->u=2*(v+n / 2)+n % 2:=by omega
 exact⟨n % 2,_,_,_,_,Int.emod_two_eq n,k h1,k h2,k h3,k h4⟩
theorem yg{p:Qd}(h:qw p)(g:qw q):qw (xM p q):=by
 obtain⟨e,x,y,z,w,he,h1,h2,h3,h4⟩:=h
 obtain⟨e',x',y',z',w',he',g1,g2,g3,g4⟩:=g
 exact HG (tJ h1 g1) (tJ h2 g2) (tJ h3 g3) (tJ h4 g4)
theorem zV(he:e=0\/e=1)(h:a=2*x+e):a % 2=e:=by omega
theorem BE:qw q↔q.2.1 % 2=q.1 % 2/\q.2.2.1 % 2=q.1 % 2/\q.2.2.2 % 2=q.1 % 2:=by
 constructor
 ·rintro⟨e,x,y,z,w,he,h1,h2,h3,h4⟩
  rw[zV he h1,zV he h2,zV he h3,zV he h4]
  exact⟨rfl,rfl,rfl⟩
 ·rintro⟨h1,h2,h3⟩
  have k:∀a:Int,a=2*(a / 2)+a % 2:=fun a=>(Int.mul_ediv_add_emod a 2).symm
  exact⟨q.1 % 2,_,_,_,_,Int.emod_two_eq _,k _,by rw[<- h1];exact k _,by rw[<- h2];exact k _,by rw[<- h3];exact k _⟩
theorem pe(x:Int):0<=x*x:=by
 rcases Int.le_total 0 x with h|h
 ·exact Int.mul_nonneg h h
 ·have:=Int.mul_nonneg (show 0 <= -x by omega) (show 0 <= -x by omega);rwa [Int.neg_mul_neg]at this
theorem yn(h:gA M q)(g:M<=N):gA N q:=⟨Nat.le_trans h.1 g,Nat.le_trans h.2.1 g,Nat.le_trans h.2.2.1 g,Nat.le_trans h.2.2.2 g⟩
theorem uO(h:x.natAbs<=M)(g:y.natAbs<=N):(x+y).natAbs<=M+N:=by omega
theorem BU{p:Qd}(h:gA M p)(g:gA N q):gA (M+N) (xM p q):=⟨uO h.1 g.1,uO h.2.1 g.2.1,uO h.2.2.1 g.2.2.1,uO h.2.2.2 g.2.2.2⟩

theorem nZ(h:a=b):eqD (.int a) (.int b)=true:=by rw[h];simp

theorem gi{a b:Expr}{op:Operator}{it:Bool}{x y:D}{j:Nat}{r:D×Nat}(ha:ab (au Φ a false sc ρ) (x,k))(hb:ab (au Φ b false sc ρ) (y,j))(h:ab (g8 op x y k j) r):ab (au Φ (.BinOp a op b p) it sc ρ) r:=ab.bnd ha (ab.bnd hb h)
def gQ(n:Nat)(q:Qd):Prop:=qw q/\gA (2 ^ n) q
theorem gQ.mono{n:Nat}(h:gQ m q)(g:m<=n):gQ n q:=⟨h.1,yn h.2 (Nat.pow_le_pow_right (by decide) g)⟩
theorem gQ.bd{n:Nat}(h:gQ n q)(g:n<9000):NE q:=GW h.2 (Nat.pow_lt_pow_right (by decide) g)
theorem gQ.sum{n:Nat}{p:Qd}(h:gQ n p)(g:gQ n q):gQ (n+1) (xM p q):=⟨yg h.1 g.1,by rw[Nat.pow_succ,Nat.mul_two];exact BU h.2 g.2⟩
def ui(Φ:Fx)(sc:Scope)(tg:Expr)(body ss:List Stmt)(r:D):List D->ae->Prop
 | [],ρ=>ab (az Φ ss sc ρ) (.rt r)
 | d::l,ρ => ∃ρ1,bG sc tg d ρ=some ρ1/\((∃ρ2,ab (az Φ body sc ρ1) (.nx ρ2)/\ui Φ sc tg body ss r l ρ2)\/ab (az Φ body sc ρ1) (.rt r))
theorem na{ss:List Stmt}{tg it:Expr}{r:D}(ds:List D)(hi:ab (au Φ it true sc (demote it ρ)) (d,k))(h:ui Φ sc tg body ss r ds (demote it ρ))(hd:items d=some ds:=by rfl)(hk:k<=1:=by first|exact Nat.le_refl 1|exact Nat.zero_le 1)(ht:eG it tg=true:=by rfl):ab (az Φ (.For tg it body [] p::ss) sc ρ) (.rt r):=by
 obtain⟨r',h1,rfl⟩:=A5 (ds:=ds) (fun ds ρ=>ui Φ sc tg body ss r ds ρ) (fun r'=>r'=r) hi h (fun d l ρ ⟨ρ1,h1,h2⟩=>⟨ρ1,h1,by
  rcases h2 with h2|h2
  ·exact .inl h2
  ·exact .inr ⟨r,h2,rfl⟩⟩) (fun ρ' h=>⟨r,h,rfl⟩) hd hk ht
 exact h1
def nD(c k:Int):Int:=if k.fmod 3=0 then(c*1000003 ^ 4).fmod (2*10 ^ 20+1)-10 ^ 20 else if k.fmod 3=1 then c.fmod 61-30 else c.fmod 7-3
theorem eS(c k:Int):(nD c k).natAbs<=10 ^ 20:=by
 have h0:=Int.fmod_nonneg_of_pos (c*1000003 ^ 4) (show(0:Int)<2*10 ^ 20+1 by decide)
 have h1:=Int.fmod_lt_of_pos (c*1000003 ^ 4) (show(0:Int)<2*10 ^ 20+1 by decide)
 have g0:=Int.fmod_nonneg_of_pos c (show(0:Int)<61 by decide)
 have g1:=Int.fmod_lt_of_pos c (show(0:Int)<61 by decide)
 have f0:=Int.fmod_nonneg_of_pos c (show(0:Int)<7 by decide)
 have f1:=Int.fmod_lt_of_pos c (show(0:Int)<7 by decide)
 unfold nD
 generalize (c*1000003 ^ 4).fmod (2*10 ^ 20+1)=x at *
 split
 ·omega
 ·split<;>omega
abbrev d3(x y z:Int):D:=.tup [.int x,.int y,.int z]
theorem dl{n:Nat}(h:n<=2 ^ m)(hm:m<9000):n<cT:=Nat.lt_of_le_of_lt h (Nat.pow_lt_pow_right (by decide) hm)
open Builtin.Int (intBits)
theorem CL(h:intBits x<=k):x.natAbs<2 ^ k:=by
 unfold intBits at h
 by_cases h0:x=0
 ·subst h0;exact Nat.pow_pos (by decide)
 ·rw[if_neg (by simpa using h0)]at h
  exact Nat.lt_of_lt_of_le Nat.lt_log2_self (Nat.pow_le_pow_right (by decide) h)
theorem BT(h:x.natAbs<2 ^ k):intBits x<=k:=by
 unfold intBits
 by_cases h0:x=0
 ·rw[if_pos (by simpa using h0)];exact Nat.zero_le _
 ·rw[if_neg (by simpa using h0)]
  exact(Nat.log2_lt (by omega)).mpr h
def i8(l:List D):Prop:=∃ns:List Int,l=ns.map D.int/\∀m∈ns,intBits m<=2 ^ 20
theorem i8.okL(h:i8 l):okL l:=let ⟨ns,e,_⟩:=h;⟨ns,e⟩
theorem w9{n:Nat}(h:∀m∈ns,m.natAbs<2 ^ n)(k:Int):(dZ ns k).natAbs<2 ^ n:=by
 unfold dZ
 split
 ·exact Nat.pow_pos (by decide)
 ·rw[List.getD_eq_getElem?_getD]
  cases e:ns[(k.fmod ns.length).toNat]? with
  | none=>exact Nat.pow_pos (by decide)
  | some m=>exact h m (List.mem_of_getElem? e)
theorem y0{n:Nat}(h:∀m∈ns,m.natAbs<2 ^ n)(k:Int):(mI ns k).natAbs<2 ^ (n+33):=by
 have hx:=w9 h k
 unfold mI
 have r0:=Int.fmod_nonneg_of_pos ((((dZ ns k).fmod 2147483647+7919*k+1)*48271).fmod 2147483647*69621+k) (show(0:Int)<2147483647 by decide)
 have r1:=Int.fmod_lt_of_pos ((((dZ ns k).fmod 2147483647+7919*k+1)*48271).fmod 2147483647*69621+k) (show(0:Int)<2147483647 by decide)
 generalize ((((dZ ns k).fmod 2147483647+7919*k+1)*48271).fmod 2147483647*69621+k).fmod 2147483647=r at *
 generalize dZ ns k=x at *
 have e:=Int.mul_fdiv_add_fmod x 2147483647
 have f0:=Int.fmod_nonneg_of_pos x (show(0:Int)<2147483647 by decide)
 have f1:=Int.fmod_lt_of_pos x (show(0:Int)<2147483647 by decide)
 generalize x.fdiv 2147483647=q at *
 generalize x.fmod 2147483647=f at *
 have e2:2 ^ (n+33)=2 ^ n*8589934592:=by rw[Nat.pow_add]
 have p:1<=2 ^ n:=Nat.one_le_two_pow
 rw[e2]
 generalize 2 ^ n=N at *
 omega
theorem y4(h:i8 l)(k:Int):intBits (cG l k)<=2 ^ 21:=by
 obtain⟨ns,rfl,hb⟩:=h
 unfold cG
 rw[iy]
 have key:∀n:Nat,(∀m∈ns,intBits m<=n)->intBits (mI ns k)<=n+33:=fun n hn=>BT (y0 (fun m hm=>CL (hn m hm)) k)
 exact Nat.le_trans (key _ hb) (by decide)
theorem nQ{C:ae}(h:Sub C ρ)(k:∀ρ,Sub C ρ->P ρ):P ρ:=k ρ h
theorem y9:intBits (1000003 ^ 4)<=2 ^ 22:=by decide
def bx:Nat->List Int->Nat
 | g,[]=>g
 | g,n::r=>bx (Nat.gcd g n.natAbs) r
@[irreducible] def gX(l:List D):Int:=(bx 0 (lG l):Nat)
def okT(l:List D):Prop:=∃ns:List Int,l=ns.map D.int/\ns.length<=100/\∀n∈ns,n.natAbs<2 ^ 1000
theorem Et(h:okT l):okT l:=h
theorem iP(ns:List Int):gX (ns.map D.int)=(bx 0 ns:Nat):=by unfold gX;rw[iy]
theorem ge:∀(ns:List Int) (g:Nat),bx g ns∣g/\∀n∈ns,bx g ns∣n.natAbs
 | [],g=>⟨Nat.dvd_refl _,fun n h=>by cases h⟩
 | n::r,g=>by
  obtain⟨h1,h2⟩:=ge r (Nat.gcd g n.natAbs)
  refine⟨Nat.dvd_trans h1 (Nat.gcd_dvd_left _ _),fun m hm=>?_⟩
  rcases List.mem_cons.mp hm with rfl|hm
  ·exact Nat.dvd_trans h1 (Nat.gcd_dvd_right _ _)
  ·exact h2 m hm
theorem rA{d:Nat}:∀(ns:List Int) (g:Nat),d∣g->(∀n∈ns,d∣n.natAbs)->d∣bx g ns
 | [],g,h,_=>h
 | n::r,g,h,k=>rA r _ (Nat.dvd_gcd h (k n List.mem_cons_self)) fun m hm=>k m (List.mem_cons_of_mem _ hm)
theorem wR(h:n∈ns):((bx 0 ns:Nat):Int)∣n:=Int.ofNat_dvd_left.mpr ((ge ns 0).2 n h)
theorem iO(h:n∈ns)(h0:n≠0):0<bx 0 ns:=by
 rcases Nat.eq_zero_or_pos (bx 0 ns)with e|e
 ·have:=(ge ns 0).2 n h
  rw[e]at this
  have:=Nat.eq_zero_of_zero_dvd this
  omega
 ·exact e
theorem yV{m:Int}(h:n∈ns)(h0:n≠0)(hm:m∈ns):m=(bx 0 ns:Nat)*m.fdiv (bx 0 ns:Nat):=by
 obtain⟨u,e⟩:=wR hm
 have hp:=iO h h0
 generalize bx 0 ns=g at *
 rw[e,Int.mul_fdiv_cancel_left _ (by omega)]
theorem Mz(h:n∈ns)(h0:n≠0):bx 0 (ns.map fun m=>m.fdiv (bx 0 ns:Nat))=1:=by
 have hp:=iO h h0
 have key:((bx 0 (ns.map fun m=>m.fdiv (bx 0 ns:Nat)))*bx 0 ns)∣bx 0 ns:=by
  refine rA ns 0 (Nat.dvd_zero _) fun m hm=>?_
  obtain⟨u,e⟩:=(ge (ns.map fun m=>m.fdiv (bx 0 ns:Nat)) 0).2 _ (List.mem_map.mpr ⟨m,hm,rfl⟩)
  have e2:=congrArg Int.natAbs (yV h h0 hm)
  rw[Int.natAbs_mul,Int.natAbs_natCast,e]at e2
  exact⟨u,by rw[e2];simp only[Nat.mul_comm,Nat.mul_left_comm,Nat.mul_assoc]⟩
 have:=Nat.le_of_dvd hp key
 have h1:bx 0 (ns.map fun m=>m.fdiv (bx 0 ns:Nat))<=1:=by
  rcases Nat.lt_or_ge 1 (bx 0 (ns.map fun m=>m.fdiv (bx 0 ns:Nat)))with q|q
  ·have:=Nat.mul_lt_mul_of_pos_right q hp
   omega
  ·exact q
 have h2:0<bx 0 (ns.map fun m=>m.fdiv (bx 0 ns:Nat)):=iO (n:=n.fdiv (bx 0 ns:Nat)) (List.mem_map.mpr ⟨n,h,rfl⟩) fun z=>by
  have:=yV h h0 h
  rw[z,Int.mul_zero]at this
  exact h0 this
 omega
theorem qZ(c:Nat):∀(ns:List Int) (g:Nat),bx (c*g) (ns.map fun m=>(c:Int)*m)=c*bx g ns
 | [],g=>rfl
 | n::r,g=>by
  show bx (Nat.gcd (c*g) ((c:Int)*n).natAbs) _=_
  rw[Int.natAbs_mul,Int.natAbs_natCast,Nat.gcd_mul_left]
  exact qZ c r _
theorem Cc(h:n∈ns)(h0:n≠0):bx 0 ns<=n.natAbs:=Nat.le_of_dvd (by omega) ((ge ns 0).2 n h)
theorem Ah(d:D):kn d 1<=1:=by rcases Ie (d:=d) (k:=1)with q|q<;>omega
def xF(a b m:Nat):Prop:=(b<=a/\a*b<2 ^ m)\/(a<b/\a*b<2 ^ (m-1)/\1<=m)
theorem t8{a b:Nat}(h:xF a b m)(h0:b≠0):∃m',m' < m/\xF b (a % b) m':=by
 rcases h with⟨h1,h2⟩|⟨h1,h2,h3⟩
 ·have hm:1<=m:=by
   rcases Nat.eq_zero_or_pos m with e|e
   ·subst e
    have:1*1<=a*b:=Nat.mul_le_mul (by omega) (by omega)
    omega
   ·exact e
  refine⟨m-1,by omega,.inl ⟨Nat.le_of_lt (Nat.mod_lt _ (by omega)),?_⟩⟩
  have e:2 ^ m=2*2 ^ (m-1):=by rw[<- Nat.pow_succ'];congr 1;omega
  rw[e]at h2
  have hk:b+a % b<=a:=by
   have:=Nat.div_add_mod a b
   have q:1<=a / b:=(Nat.one_le_div_iff (by omega)).mpr h1
   have:=Nat.mul_le_mul_left b q
   omega
  have hlt:=Nat.mod_lt a (show 0<b by omega)
  have:b*(a % b)+b*(a % b)<=a*b:=by
   rw[<- Nat.mul_add,Nat.mul_comm a b]
   exact Nat.mul_le_mul_left b (by omega)
  omega
 ·refine⟨m-1,by omega,.inl ?_⟩
  rw[Nat.mod_eq_of_lt h1,Nat.mul_comm]
  exact⟨Nat.le_of_lt h1,h2⟩
theorem FT{a b:Nat}(ha:a<2 ^ 1000)(hb:b<2 ^ 1000):xF a b 2002:=by
 have h:a*b<2 ^ 2001:=Nat.lt_of_lt_of_le (Nat.mul_lt_mul'' ha hb) (by rw[<- Nat.pow_add];exact Nat.pow_le_pow_right (by decide) (by decide))
 rcases Nat.lt_or_ge a b with q|q
 ·exact .inr ⟨q,h,by decide⟩
 ·exact .inl ⟨q,Nat.lt_trans h (Nat.pow_lt_pow_right (by decide) (by decide))⟩
theorem re(a b:Nat):(a:Int).fmod b=((a % b:Nat):Int):=by
 rw[Int.fmod_eq_emod_of_nonneg _ (by omega)];rfl
theorem FI(a b:Nat):(-(a:Int)).fmod (-(b:Int)) = -((a % b:Nat):Int):=by
 rw[Int.neg_fmod_neg,re]
theorem zB{c:Expr}(aj:Nat->ae->Prop)(h0:aj m ρ)(hm:m<cg)
  (step:∀m ρ,aj m ρ->∃b k,ab (au Φ c false sc ρ) (.bl b,k)/\(b=true->∃m' ρ2,m' < m/\ab (az Φ body sc ρ) (.nx ρ2)/\aj m' ρ2)) (bT:∀m ρ',aj m ρ'->(∃k,ab (au Φ c false sc ρ') (.bl false,k))->P ρ'):∃ρ',ab (az Φ [.While c body [] p] sc ρ) (.nx ρ')/\P ρ':=by
 obtain⟨m',ρ',h1,h2,h3⟩:=pN (test:=fun ρ=>(au Φ c false sc ρ).bnd fun p=>gK p fun b=>.ok b []) (body:=az Φ body sc) aj (fun m ρ h=>by
  obtain⟨b,k,a1,a2⟩:=step m ρ h
  exact⟨b,a1.bnd (g7 rfl cu),a2⟩) h0 hm
 obtain⟨q,h4,h5⟩:=ar h3
 obtain⟨t,ht,h5⟩:=fC h5
 cases aF h5
 obtain⟨q1,q2⟩:=q
 have ht:q1=.bl false:=ht
 subst ht
 exact⟨ρ',aP (rg h1) dh,bT m' ρ' h2 ⟨q2,h4⟩⟩
def oC(s:Bool)(a:Nat):Int:=cond s (-(a:Int)) a
theorem Hu(s:Bool)(a b:Nat):(oC s a).fmod (oC s b)=oC s (a % b):=by
 cases s
 ·exact re a b
 ·exact FI a b
theorem vZ(s:Bool)(a:Nat):(oC s a).natAbs=a:=by
 cases s
 ·rfl
 ·exact Int.natAbs_neg _
theorem xT(x y:Int)(h:y≠0):∃(s:Bool) (a b:Nat),y=oC s a/\x.fmod y=oC s b/\Nat.gcd a b=Nat.gcd x.natAbs y.natAbs/\a=y.natAbs/\b<a:=by
 have hg:Nat.gcd y.natAbs (x.fmod y).natAbs=Nat.gcd x.natAbs y.natAbs:=by
  have e:=Int.mul_fdiv_add_fmod x y
  have:Int.gcd y (x.fmod y)=Int.gcd y x:=by
   conv=>rhs;rw[<- e]
   rw[Int.gcd_mul_left_add_right]
  rw[show Nat.gcd y.natAbs (x.fmod y).natAbs=Int.gcd y (x.fmod y)from rfl,this,Int.gcd_comm];rfl
 by_cases hy:0<y
 ·have h0:=Int.fmod_nonneg_of_pos x hy
  have h1:=Int.fmod_lt_of_pos x hy
  refine⟨false,y.natAbs,(x.fmod y).natAbs,?_,?_,hg,rfl,by omega⟩
  ·show y=((y.natAbs:Nat):Int);omega
  ·show x.fmod y=(((x.fmod y).natAbs:Nat):Int);omega
 ·have e:x.fmod y = -((-x).fmod (-y)):=by
   have:=Int.neg_fmod_neg (-x) (-y)
   rw[Int.neg_neg,Int.neg_neg]at this
   exact this
  have hy':0 < -y:=by omega
  have h0:=Int.fmod_nonneg_of_pos (-x) hy'
  have h1:=Int.fmod_lt_of_pos (-x) hy'
  refine⟨true,y.natAbs,(x.fmod y).natAbs,?_,?_,hg,rfl,by omega⟩
  ·show y = -((y.natAbs:Nat):Int);omega
  ·show x.fmod y = -(((x.fmod y).natAbs:Nat):Int);omega
def AM(u v:Int)(m:Nat):Prop:=m=3000\/∃(s:Bool) (a b:Nat),u=oC s a/\v=oC s b/\xF a b m
theorem rq{u v:Int}(h:AM u v m)(h0:v≠0)(hv:v.natAbs<2 ^ 1000):(∃m',m' < m/\AM v (u.fmod v) m')/\Nat.gcd v.natAbs (u.fmod v).natAbs=Nat.gcd u.natAbs v.natAbs/\(u.fmod v).natAbs<2 ^ 1000:=by
 obtain⟨s,a,b,e1,e2,e3,e4,e5⟩:=xT u v h0
 have ha:v.natAbs=a:=by rw[e1,vZ]
 have hb:(u.fmod v).natAbs=b:=by rw[e2,vZ]
 refine⟨?_,by rw[<- e3,ha,hb],by rw[hb];omega⟩
 rcases h with h|⟨t,x,y,h1,h2,h3⟩
 ·exact⟨2002,by omega,.inr ⟨s,a,b,e1,e2,FT (by omega) (by omega)⟩⟩
 ·have hy:y≠0:=by
   intro z;subst z;subst h2;apply h0;cases t<;>rfl
  obtain⟨m',hm,hE⟩:=t8 h3 hy
  exact⟨m',hm,.inr ⟨t,y,x % y,h2,by rw[h1,h2,Hu],hE⟩⟩
theorem FP{ρ':ae}{es:List Expr}{e:Expr}{n:Nat}{q:Pos}{ds:List D}(h:ab (au Φ e false sc ρ) (d,k))(hs:fL d=some ds)(hk:ao ds=true\/k<=1)(hb:aV sc es ds ρ=some ρ')(ht:ii e=false:=by rfl)(ho:uJ sc es (d,k)=false:=by rfl):ab (eU Φ (.Assign [.Tuple es n p] e q) sc ρ) (.nx ρ'):=by
 show ab (if oy sc es e=true then mq Φ es e sc ρ else _) _
 rw[if_neg (by unfold oy;rw[ht];exact Bool.false_ne_true)]
 refine ab.bnd h ?_
 rw[if_neg (by rw[ho];exact Bool.false_ne_true)]
 dsimp only
 rw[hs];dsimp only
 rw[if_pos hk,hb]
 exact cu
def gI(ns:List Int):Int:=(bx 0 ns:Nat)
theorem ij(ns:List Int):gX (ns.map D.int)=gI ns:=iP ns
theorem wS(h:n∈ns)(h0:n≠0):0<gI ns:=by have:=iO h h0;unfold gI;omega
theorem jN{m:Int}(h:n∈ns)(h0:n≠0)(hm:m∈ns):m=gI ns*m.fdiv (gI ns):=yV h h0 hm
theorem FC(h:n∈ns)(h0:n≠0):gI (ns.map fun m=>m.fdiv (gI ns))=1:=by
 have:=Mz h h0
 unfold gI;rw[this];rfl
theorem FD(hc:0<c)(ns:List Int):gI (ns.map fun m=>c*m)=c*gI ns:=by
 obtain⟨k,rfl⟩:=Int.eq_ofNat_of_zero_le (Int.le_of_lt hc)
 have:=qZ k ns 0
 unfold gI
 rw[Nat.mul_zero]at this
 rw[this];simp
theorem Iv(h:n∈ns)(h0:n≠0):(gI ns).natAbs<=n.natAbs:=by
 have:=Cc h h0
 unfold gI;omega
theorem lP(hk:k<=999)(hl:ns.length<=100)(h:∀n∈ns,n.natAbs<=2 ^ k):okT (ns.map D.int) :=
 ⟨ns,rfl,hl,fun n hn=>Nat.lt_of_le_of_lt (h n hn) (Nat.pow_lt_pow_right (by decide) (by omega))⟩
abbrev NC(a b c x y z:Int):Int:=a*x+(b*y+(c*z+0))
theorem xV{i:Int}(h0:0<=i)(h1:i<4)(a b c d v:Int):∃a' b' c' d':Int,ld [.int a,.int b,.int c,.int d] i (.int v)=some [.int a',.int b',.int c',.int d']/\(∀P:Int->Prop,P a->P b->P c->P d->P v->P a'/\P b'/\P c'/\P d')/\(v≠0 -> ¬ (a'=0/\b'=0/\c'=0/\d'=0)):=by
 have:i=0\/i=1\/i=2\/i=3:=by omega
 rcases this with rfl|rfl|rfl|rfl
 ·exact⟨v,b,c,d,rfl,fun P p1 p2 p3 p4 p5=>⟨p5,p2,p3,p4⟩,fun h z=>h z.1⟩
 ·exact⟨a,v,c,d,rfl,fun P p1 p2 p3 p4 p5=>⟨p1,p5,p3,p4⟩,fun h z=>h z.2.1⟩
 ·exact⟨a,b,v,d,rfl,fun P p1 p2 p3 p4 p5=>⟨p1,p2,p5,p4⟩,fun h z=>h z.2.2.1⟩
 ·exact⟨a,b,c,v,rfl,fun P p1 p2 p3 p4 p5=>⟨p1,p2,p3,p5⟩,fun h z=>h z.2.2.2⟩
def bi(x:Int):Prop:=x.natAbs<=10 ^ 20
theorem MU(a b c d:Int):(([a,b,c,d]:List Int).any fun n=>n != 0) = !decide (a=0/\b=0/\c=0/\d=0):=by
 by_cases h1:a=0<;>by_cases h2:b=0<;>by_cases h3:c=0<;>by_cases h4:d=0<;>simp[h1,h2,h3,h4]
end K
namespace Sp
open PySem PySem.Spec PyProof.Rows L2
open AutoSeq1 (wpAny_loadPart')
variable{P:Program}{w:World}{H:Hp}{h:Heap}
section
variable{prog:Program}{A:Around}{E:Value->Shared->Prop}{s:Shared}
variable{n l1 l2 l3:Nat}{xs ys ws:Array Value}{k:Nat}{x y u:Value}{f0 f1:Value}
end
open AutoSeq1 (wpAny_loadPart')
section
variable{prog:Program}{A:Around}{E:Value->Shared->Prop}{s:Shared}
end
section
variable{prog:Program}{A:Around}{E:Value->Shared->Prop}{s:Shared}
abbrev qL(acc:Array Value)(c:Nat):Obj:={ cls:=.type "list", dict:=none,data:=.seq acc c,slots:=#[] }
theorem tT{S I:Addr}{res:Value}{R:Result->Shared->Prop}(h:wpAny (model prog w) A.in1 (pyNext (.ref I)) (fun r s'=>match r with
      | some v => ∃acc c,s'.heap.get? S=some (qL acc c)/\acc.size+1<=sizeLine/\∀h2 c2,h2.get? S=some (qL (acc.push v) c2)->Heap.SameBut S s'.heap h2->codeAny (model prog w) A (.builtin "list.extend.loop" ⟨[.ref S,.ref I,res],[]⟩) R { s' with heap:=h2 }
      | none=>R (.ok (.ret res)) s') (fun e s'=>R (.error e) s') s):codeAny (model prog w) A (.builtin "list.extend.loop" ⟨[.ref S,.ref I,res],[]⟩) R s:=by
  refine codeAny_builtin F.entry_extend_loop ?_
  rw[Around.under_plainId F.plain_extend_loop _]
  show wpAny _ A.in1 (pyNext (.ref I) >>= _) _ _ s
  refine wpAny_bind (wpAny_mono h (fun r s' hr=>?_) fun _ _ z=>z)
  cases r with
  | none=>exact wpAny_pure hr
  | some v =>
    obtain⟨acc,c,hS,hz,k⟩:=hr
    show wpAny _ A.in1 (updateSeq S (·.push v) >>= _) _ _ _
    refine wpAny_bind (wpAny_updateSeq hS rfl (wpAny_pure ⟨plainId_quiet F.plain_extend_loop _,k _ _ (Heap.get?_update_self _ hS rfl) (Heap.SameBut.update ..)⟩) ?_ ?_)
    . omega
    . show(acc.push v).size<=sizeLine+1
      rw[Array.size_push];omega
end
variable{X:Cx}
theorem lu{b:Addr}{o:HO}(x:cZ P w H h)(hb:H b=none)(new:bM P w (aO H b o) h b o):cZ P w (aO H b o) h:=fun c u e=>by
 by_cases hc:c=b
 ·subst hc;rw[aD]at e;cases e;exact new
 ·rw[ax hc]at e
  exact(x c u e).stay (fun d v _ r=>r) (fun d r=>by rw[ax (bq r hb)];exact r) (fun d xs r=>by rw[ax (bq r hb)];exact r)
theorem mY{fs ex:List Addr}{H':Hp}{h':Heap}(k:∀b u,h.get? b=some u->h'.get? b=some u)(hH:∀c,c<h.objs.size->H' c=H c)(hin:∀c o,H c=some o->c<h.objs.size):Un fs ex H H' h h' where
 keep:=fun b u q _ _ _=>k b u q
 slot:=fun b u q _ _ _=>⟨u.slots,k b u q⟩
 free:=fun b u q n _=>(hH b (Heap.lt_size q)).trans n
 there:=fun b u q _=>⟨u,k b u q⟩
 tups:=fun b xs r=>(hH b (hin b _ r)).trans r
 frzs:=fun b o u r=>(hH b (hin b _ r)).trans r
 tbls:=fun b ps r=>⟨#[],by rw[Array.append_empty];exact(hH b (hin b _ r)).trans r⟩
theorem m8{Φ:Fx}{sc:Scope}{H0:Hp}{fl:Fl}{bT:List Stmt}(G:aQ Φ X sc)(hp:PassesOwn (model X.prog X.w) X.A X.env X.xe):∀{pre:List Stmt} {ρ ρ1:ae},ab (az Φ pre sc ρ) (.nx ρ1)->dP X H0 ρ1 bT fl->dP X H0 ρ (pre++bT) fl
 | [],ρ,ρ1,h,k=>by cases aF h;exact k
 | st::ss,ρ,ρ1,h,k=>by
  obtain⟨f1,h1,h2⟩:=ar (show ab (Rs.bnd _ _) _ from h)
  cases f1 with
  | nx ρ'=>exact dS ((lX Φ _).s st (Nat.lt_succ_self _) h1 G hp) (m8 G hp h2 k)
  | rt d=>cases aF h2
  | bk ρ'=>cases aF h2
  | ct ρ'=>cases aF h2
theorem rc{K:W.Frag}{mg:Str->Option Value}{base:Heap}{k:Nat}{g:Str}{f:Addr}{fd:FuncData}{ps:List Str}{F:List D->Rs D}(h:bF P w K mg base df k f fd ps (jo K F))(hm:mg g=some (.ref f))(hk:W.keepIn K (.ref f)=true)(hb:cf K fd ps [])(hd:(g==("__debug__" : Str))=false):c4 P w K mg base k g F :=
 ⟨f,fd,ps,h,hm,hk,hb,hd⟩
theorem yL{ow:Ow}{σ:L2.St}{ρ:ae}(E:aH X ow H σ ρ):aH X (fun _=>none) H σ (eZ ρ):=⟨fun x d o h=>by
 unfold eZ at h
 cases e:ρ x with
 | none=>rw[e]at h;cases h
 | some p =>
  rw[e]at h
  obtain⟨i,v,e1,e2,e3,e4⟩:=E.get x p.1 p.2 (by rw[e])
  cases h
  exact⟨i,v,e1,e2,e3,e4.imp fun _ _ _ _=>rfl⟩,fun a ha=>absurd rfl ha⟩
end Sp
namespace K
open PySem L2 Sp Qm
end K
namespace K
open PySem PySem.Spec PyProof.Rows L2 Sp Qm
variable{Φ:Fx}{sc:Scope}{args:List Expr}{n:Str}{ds:List D}{M N k m:Nat}{A B a b c d w x y z:Int}
theorem wJ{ps fs:List Str}{q:List D}(hl:ds.length+1=ps.length)(h:ab (bK Φ args sc (d0 ps (.obj n [] []::ds))) (q,k))(hq:q.length=fs.length)(h1:ao q=true)(h2:ej q=true):ab (fO Φ sc ps args n fs ds) (.obj n fs q):=by
 unfold fO
 rw[if_pos hl]
 refine ab.bnd h ?_
 dsimp only
 rw[if_pos hq]
 exact dy rfl ⟨h1,h2,True.intro⟩
theorem bI{ρ:ae}{a:Expr}{m:Str}{ap cp:Pos}{it:Bool}{ns:List Str}{es:List D}{j:Nat}{F:List D->Rs D}{d:D}(ha:ab (au Φ a false sc ρ) (.obj n ns es,k))(hs:ab (bK Φ args sc ρ) (ds,j))(hF:Φ.omt n m=some F)(h:ab (F (.obj n ns es::ds)) d)
  (hl:(ap.endLine==cp.line)=true:=by rfl) (hn:ns.contains m=false:=by rfl) (hb:e6 a=true:=by rfl) (hf:ds.length<29:=by exact Nat.le_of_ble_eq_true rfl):ab (au Φ (.Call (.Attribute a m ap) args [] cp) it sc ρ) (d,0):=by
 rw[iT,if_pos hl]
 refine ab.bnd ha (ab.bnd hs ?_)
 unfold uQ
 dsimp only
 rw[if_pos ⟨hn,hb,hf⟩,hF]
 exact ab.bnd h cu
theorem xm{X:Cx}(hc:X.calm=true):cK X (.builtin "any") (fun xs H Q => ∃(p:Addr) (ns:List Int),xs=[.ref p]/\cw X.K H p (ns.map V.int)/\Q (.bl (ns.any fun n=>n != 0)) H):=by
 intro pins s σ H xs us Q I r h
 obtain⟨p,ns,rfl,hq,q⟩:=h
 obtain⟨u,rfl,rx⟩:=cy r
 cases rx
 obtain⟨its,rv,pl,hz⟩:=I.tuple hq
 have hlen:its.length=ns.length:=by have:=rv.length;simpa using this.symm
 have hl:s.heap.IsTuple p its.toArray:=by obtain⟨o,e,c,n,d⟩:=pl;exact⟨o,e,c,n,d⟩
 have hlt:p<s.heap.objs.size:=by obtain⟨_,e,_⟩:=hl;exact Heap.lt_size e
 refine call_any_walk (wpAny_pyIter_tuple hl ?_)
 refine⟨_,_,_,_,_,_,fun i=>(ns.getD i 0 != 0),rfl,Walks.tuple (A:=X.A.in1) (by exact I.ok.hd hc) _ p (Nat.ne_of_lt hlt) its.toArray,⟨⟨_,Heap.get?_push_size _ rfl,rfl,rfl⟩,hl.at fun o e=>Heap.get?_push_of_some _ e⟩,?_,fun h' tk hk=>?_⟩
 ·intro i v s' Q' E' hP hQ
  have hP:(its.toArray)[i]?=some v:=hP
  simp only[List.getElem?_toArray]at hP
  have hi:i<ns.length:=by rw[<- hlen];exact(List.getElem?_eq_some_iff.mp hP).1
  obtain⟨w,hw,rw'⟩:=rv.get (i:=i) (x:=V.int ns[i]) (by simp[hi])
  rw[hP]at hw;cases hw
  obtain⟨t,rfl⟩:=rw'
  refine PyProof.Rows.truthy_int ?_
  have:ns.getD i 0=ns[i]:=by rw[List.getD_eq_getElem?_getD,List.getElem?_eq_getElem hi];rfl
  rw[<- this];exact hQ
 ·have:((List.range its.toArray.size).any fun i=>(ns.getD i 0 != 0))=ns.any fun n=>n != 0:=by
   simp only[List.size_toArray,hlen]
   rw[Bool.eq_iff_iff,List.any_eq_true,List.any_eq_true]
   constructor
   ·rintro⟨i,hi,h⟩
    have hi:=List.mem_range.mp hi
    rw[List.getD_eq_getElem?_getD,List.getElem?_eq_getElem hi]at h
    exact⟨_,List.getElem_mem hi,h⟩
   ·rintro⟨x,hx,h⟩
    obtain⟨i,hi,rfl⟩:=List.mem_iff_getElem.mp hx
    exact⟨i,List.mem_range.mpr hi,by rw[List.getD_eq_getElem?_getD,List.getElem?_eq_getElem hi];exact h⟩
  rw[this]
  refine⟨.bl _,H,I.kept (fun b o e=>hk b o (fun hm=>?_) (Heap.get?_push_of_some _ e)),rfl,q⟩
  have hb:b=s.heap.objs.size:=by simpa using hm
  subst hb
  exact absurd (Heap.lt_size e) (Nat.lt_irrefl _)
def vk(ds:List D):R1 :=
 match ds with
 | [.tup l]=>(match dj l with|some ns=>.ok (.bl (ns.any fun n=>n != 0),0) []|none=>.st)
 | ds=>zk ds
theorem zj:dg "any" vk:=by
 refine⟨by decide +kernel,by decide +kernel,by decide +kernel,rfl,fun X ds z l o hc h hp=>?_⟩
 unfold vk at h
 split at h
 ·split at h
  ·rename_i ns e
   refine .inl ⟨"any", by decide +kernel,?_⟩
   cases h
   cases jJ e
   refine⟨_,xm hc,fun ow H0 H2 vs P Q o s rx q=>?_⟩
   obtain⟨v,rfl,ry⟩:=rx.only
   rw[ag]at ry
   obtain⟨a,ws,rfl,hs,rl⟩:=ry
   exact⟨a,ns,rfl,by rw[<- rl.mapInt];exact hs,q _ _ (av.refl _) (by rw[ag])⟩
  ·cases h
 ·exact CU.2.2.2.2 X _ z l o hc h hp
theorem q8:∀(ns ms:List Int) (g:Nat),ns.map Int.natAbs=ms.map Int.natAbs->bx g ns=bx g ms
 | [],[],g,_=>rfl
 | [],_::_,g,h=>by cases h
 | _::_,[],g,h=>by cases h
 | n::ns,m::ms,g,h=>by
  have h1:n.natAbs=m.natAbs/\ns.map Int.natAbs=ms.map Int.natAbs:=by simpa using h
  show bx (Nat.gcd g n.natAbs) ns=bx (Nat.gcd g m.natAbs) ms
  rw[h1.1]
  exact q8 ns ms _ h1.2
theorem wT{ns ms:List Int}(h:ns.map Int.natAbs=ms.map Int.natAbs):gI ns=gI ms:=by unfold gI;rw[q8 ns ms 0 h]
theorem Cd(k a b c d:Int)(hk:k≠0):gI [k*a,k*b,k*c,k*d]=(k.natAbs:Int)*gI [a,b,c,d]:=by
 rw[<- FD (c:=(k.natAbs:Int)) (by omega) [a,b,c,d]]
 apply wT
 simp[Int.natAbs_mul]
def cJ(a b c d:Int):Int:=if a≠0 then a else if b≠0 then b else if c≠0 then c else d
theorem iJ{k:Int}(a b c d:Int)(hk:k≠0):cJ (k*a) (k*b) (k*c) (k*d)=k*cJ a b c d:=by
 unfold cJ
 have e:∀x:Int,(k*x≠0)=(x≠0):=fun x=>by
  apply propext
  constructor
  ·intro h z;subst z;simp at h
  ·intro h z;rcases Int.mul_eq_zero.mp z with q|q
   ·exact hk q
   ·exact h q
 simp only[e]
 by_cases ha:a≠0
 ·rw[if_pos ha,if_pos ha]
 ·rw[if_neg ha,if_neg ha]
  by_cases hb:b≠0
  ·rw[if_pos hb,if_pos hb]
  ·rw[if_neg hb,if_neg hb]
   by_cases hc:c≠0
   ·rw[if_pos hc,if_pos hc]
   ·rw[if_neg hc,if_neg hc]
theorem BW(h:¬ (a=0/\b=0/\c=0/\d=0)):cJ a b c d≠0:=by
 unfold cJ
 split
 ·assumption
 ·split
  ·assumption
  ·split
   ·assumption
   ·intro z;apply h;omega
structure Pm(a b c d:Int):Prop where
 one:gI [a,b,c,d]=1
 pos:0<cJ a b c d
theorem Pm.ne(h:Pm a b c d):¬ (a=0/\b=0/\c=0/\d=0):=by
 rintro⟨rfl,rfl,rfl,rfl⟩
 have:=h.pos
 simp[cJ]at this
theorem tH(h:¬ (x=0/\y=0/\z=0/\w=0)):∃k a b c d:Int,k≠0/\x=k*a/\y=k*b/\z=k*c/\w=k*d/\Pm a b c d/\k.natAbs=(gI [x,y,z,w]).natAbs:=by
 obtain⟨v,hv,hv0⟩:∃v∈[x,y,z,w],v≠0:=by
  by_cases hx:x=0
  ·by_cases hy:y=0
   ·by_cases hz:z=0
    ·exact⟨w,by simp,fun q=>h ⟨hx,hy,hz,q⟩⟩
    ·exact⟨z,by simp,hz⟩
   ·exact⟨y,by simp,hy⟩
  ·exact⟨x,by simp,hx⟩
 have g0:=wS hv hv0
 have ex:=jN (m:=x) hv hv0 (by simp)
 have ey:=jN (m:=y) hv hv0 (by simp)
 have ez:=jN (m:=z) hv hv0 (by simp)
 have ew:=jN (m:=w) hv hv0 (by simp)
 have one:=FC hv hv0
 simp only[List.map_cons,List.map_nil]at one
 generalize gI [x,y,z,w]=g at *
 generalize x.fdiv g=a at *
 generalize y.fdiv g=b at *
 generalize z.fdiv g=c at *
 generalize w.fdiv g=d at *
 have hn:¬ (a=0/\b=0/\c=0/\d=0):=by
  rintro⟨rfl,rfl,rfl,rfl⟩
  apply h
  simp at ex ey ez ew
  exact⟨ex,ey,ez,ew⟩
 have hl:=BW hn
 rcases Int.lt_or_gt_of_ne hl with q|q
 ·refine⟨-g,-a,-b,-c,-d,by omega,by rw[Int.neg_mul_neg];exact ex,by rw[Int.neg_mul_neg];exact ey,by rw[Int.neg_mul_neg];exact ez,by rw[Int.neg_mul_neg];exact ew,⟨?_,?_⟩,by rw[Int.natAbs_neg]⟩
  ·rw[<- one];apply wT;simp
  ·have:=iJ (k:=-1) a b c d (by decide)
   simp only[Int.neg_mul,Int.one_mul]at this
   rw[this];omega
 ·exact⟨g,a,b,c,d,by omega,ex,ey,ez,ew,⟨one,q⟩,rfl⟩
def n4(a b c d:Int):Int:=a*a+b*b+c*c+d*d
def vU(a b c d:Int):Int:=a*a+b*b-c*c-d*d
def tf(a b c d:Int):Int:=2*b*c-2*a*d
def sZ(a b c d:Int):Int:=2*b*d+2*a*c
def sY(a b c d:Int):Int:=2*b*c+2*a*d
def vT(a b c d:Int):Int:=a*a-b*b+c*c-d*d
def sX(a b c d:Int):Int:=2*c*d-2*a*b
def sW(a b c d:Int):Int:=2*b*d-2*a*c
def sV(a b c d:Int):Int:=2*c*d+2*a*b
def vS(a b c d:Int):Int:=a*a-b*b-c*c+d*d
def fU(a b c d:Int):List Int:=[n4 a b c d,vU a b c d,tf a b c d,sZ a b c d,sY a b c d,vT a b c d,sX a b c d,sW a b c d,sV a b c d,vS a b c d]
theorem lI(h:x≠0):0<x*x:=by
 rcases Int.lt_or_gt_of_ne h with q|q
 ·exact Int.mul_pos_of_neg_of_neg q q
 ·exact Int.mul_pos q q
theorem EL(h:¬ (a=0/\b=0/\c=0/\d=0)):0<n4 a b c d:=by
 unfold n4
 have h1:=pe a;have h2:=pe b;have h3:=pe c;have h4:=pe d
 by_cases ha:a=0
 ·by_cases hb:b=0
  ·by_cases hc:c=0
   ·have:=lI (x:=d) (fun q=>h ⟨ha,hb,hc,q⟩);omega
   ·have:=lI hc;omega
  ·have:=lI hb;omega
 ·have:=lI ha;omega
theorem qN(h:¬ (x=0/\y=0/\z=0/\w=0)):L2.atI ((([x,y,z,w]:List Int).filter fun t => !decide (t=0)).map D.int) 0=some (.int (cJ x y z w)):=by
 unfold cJ
 by_cases hx:x=0
 ·subst hx
  by_cases hy:y=0
  ·subst hy
   by_cases hz:z=0
   ·subst hz
    have hw:w≠0:=fun q=>h ⟨rfl,rfl,rfl,q⟩
    simp[hw,L2.atI,L2.ixN]
   ·simp[hz,L2.atI,L2.ixN]
  ·simp[hy,L2.atI,L2.ixN]
 ·simp[hx,L2.atI,L2.ixN]
theorem iu{n:Nat}(hx:x.natAbs<=m)(hy:y.natAbs<=n)(h:m+n<=k):(x+y).natAbs<=k:=Nat.le_trans (Int.natAbs_add_le _ _) (Nat.le_trans (Nat.add_le_add hx hy) h)
theorem ir{n:Nat}(hx:x.natAbs<=m)(hy:y.natAbs<=n)(h:m+n<=k):(x-y).natAbs<=k:=Nat.le_trans (Int.natAbs_sub_le _ _) (Nat.le_trans (Nat.add_le_add hx hy) h)
theorem mK(hx:x.natAbs<=m):(2*x).natAbs<=2*m:=by rw[Int.natAbs_mul];exact Nat.mul_le_mul_left 2 hx
theorem HQ{C E:Int}(h:8*M<=N)(ha:A.natAbs<=M)(hb:B.natAbs<=M)(hc:C.natAbs<=M)(he:E.natAbs<=M):(A+B+C+E).natAbs<=N/\(A+B-C-E).natAbs<=N/\(A-B+C-E).natAbs<=N/\(A-B-C+E).natAbs<=N:=by
 have h4:M+M+M+M<=N:=by omega
 have p2:=iu ha hb (Nat.le_refl _)
 have m2:=ir ha hb (Nat.le_refl _)
 exact⟨iu (iu p2 hc (Nat.le_refl _)) he h4,ir (ir p2 hc (Nat.le_refl _)) he h4,ir (iu m2 hc (Nat.le_refl _)) he h4,iu (ir m2 hc (Nat.le_refl _)) he h4⟩
theorem uP(h:8*M<=N)(ha:A.natAbs<=M)(hb:B.natAbs<=M):(2*A-2*B).natAbs<=N/\(2*A+2*B).natAbs<=N:=by
 have h4:2*M+2*M<=N:=by omega
 exact⟨ir (mK ha) (mK hb) h4,iu (mK ha) (mK hb) h4⟩
theorem Hj(hM:m*m<=M)(hN:8*M<=N)(ha:a.natAbs<=m)(hb:b.natAbs<=m)(hc:c.natAbs<=m)(hd:d.natAbs<=m):∀x∈fU a b c d,x.natAbs<=N:=by
 have p:∀{x y:Int},x.natAbs<=m->y.natAbs<=m->(x*y).natAbs<=M:=fun hx hy=>by rw[Int.natAbs_mul];exact Nat.le_trans (Nat.mul_le_mul hx hy) hM
 obtain⟨h1,h2,h3,h4⟩:=HQ hN (p ha ha) (p hb hb) (p hc hc) (p hd hd)
 have bc:=uP hN (p hb hc) (p ha hd)
 have bd:=uP hN (p hb hd) (p ha hc)
 have cd:=uP hN (p hc hd) (p ha hb)
 intro x hx
 simp only[fU,List.mem_cons,List.not_mem_nil,or_false]at hx
 rcases hx with rfl|rfl|rfl|rfl|rfl|rfl|rfl|rfl|rfl|rfl
 ·exact h1
 ·exact h2
 ·unfold tf;rw[Int.mul_assoc,Int.mul_assoc];exact bc.1
 ·unfold sZ;rw[Int.mul_assoc,Int.mul_assoc];exact bd.2
 ·unfold sY;rw[Int.mul_assoc,Int.mul_assoc];exact bc.2
 ·exact h3
 ·unfold sX;rw[Int.mul_assoc,Int.mul_assoc];exact cd.1
 ·unfold sW;rw[Int.mul_assoc,Int.mul_assoc];exact bd.1
 ·unfold sV;rw[Int.mul_assoc,Int.mul_assoc];exact cd.2
 ·exact h4
theorem Di(ha:a.natAbs<=2 ^ 140)(hb:b.natAbs<=2 ^ 140)(hc:c.natAbs<=2 ^ 140)(hd:d.natAbs<=2 ^ 140):∀x∈fU a b c d,x.natAbs<=2 ^ 290 :=
 Hj (M:=2 ^ 140*2 ^ 140) (Nat.le_refl _) (by rw[show(8:Nat)=2 ^ 3 from rfl,<- Nat.pow_add,<- Nat.pow_add];exact Nat.pow_le_pow_right (by decide) (by decide)) ha hb hc hd
theorem De(ha:a.natAbs<=2 ^ 140)(hb:b.natAbs<=2 ^ 140)(hc:c.natAbs<=2 ^ 140)(hd:d.natAbs<=2 ^ 140):okT ((fU a b c d).map D.int):=lP (k:=290) (by decide) (Nat.le_of_ble_eq_true rfl) (Di ha hb hc hd)
theorem HC(hm:m<=999)(h:∀t∈[x,y,z,w],t.natAbs<=2 ^ m):okT (([x,y,z,w]:List Int).map D.int):=lP (k:=m) hm (Nat.le_of_ble_eq_true rfl) h
def uw(a b c d:Int):D:=.tup [.int ((n4 a b c d).fdiv (gI (fU a b c d))),.tup [d3 ((vU a b c d).fdiv (gI (fU a b c d))) ((tf a b c d).fdiv (gI (fU a b c d))) ((sZ a b c d).fdiv (gI (fU a b c d))),d3 ((sY a b c d).fdiv (gI (fU a b c d))) ((vT a b c d).fdiv (gI (fU a b c d))) ((sX a b c d).fdiv (gI (fU a b c d))),d3 ((sW a b c d).fdiv (gI (fU a b c d))) ((sV a b c d).fdiv (gI (fU a b c d))) ((vS a b c d).fdiv (gI (fU a b c d)))]]
def Jo(a b c d:Int):D:=.obj "Turn" ["word", "row", "fractions"] [.str "turn", t4 a b c d,uw a b c d]
theorem u4{k:Int}(hk:k≠0)(p:Pm a b c d):gI [k*a,k*b,k*c,k*d]=k.natAbs:=by rw[Cd _ _ _ _ _ hk,p.one,Int.mul_one]
structure T9 where
 n:Int
 a:Int
 b:Int
 c:Int
 d:Int
 e:Int
 f:Int
 g:Int
 h:Int
 i:Int
def T9.l(T:T9):List Int:=[T.n,T.a,T.b,T.c,T.d,T.e,T.f,T.g,T.h,T.i]
def T9.D(T:T9):D:=.tup [.int T.n,.tup [d3 T.a T.b T.c,d3 T.d T.e T.f,d3 T.g T.h T.i]]
def T9.map(f:Int->Int)(T:T9):T9:=⟨f T.n,f T.a,f T.b,f T.c,f T.d,f T.e,f T.f,f T.g,f T.h,f T.i⟩
theorem T9.l_map(f:Int->Int)(T:T9):(T.map f).l=T.l.map f:=rfl
def T9.low(T:T9):T9:=T.map fun x=>x.fdiv (gI T.l)
theorem T9.ext{A B:T9}(h:A.l=B.l):A=B:=by
 cases A;cases B
 simp only[T9.l,List.cons.injEq,and_true]at h
 obtain⟨h0,h1,h2,h3,h4,h5,h6,h7,h8,h9⟩:=h
 subst h0 h1 h2 h3 h4 h5 h6 h7 h8 h9
 rfl
theorem T9.mem_n(T:T9):T.n∈T.l:=by simp[T9.l]
theorem T9.cut{T:T9}(h:0<T.n):T=T.low.map (gI T.l * ·):=by
 have k:=fun m hm=>jN (m:=m) T.mem_n (show T.n≠0 by omega) hm
 apply T9.ext
 show T.l=(T.low.map (gI T.l * ·)).l
 rw[T9.l_map,T9.low,T9.l_map,List.map_map]
 conv=>lhs;rw[<- List.map_id T.l]
 exact List.map_congr_left fun m hm=>k m hm
def T9.bd(k:Nat)(T:T9):Prop:=∀x∈T.l,x.natAbs<=2 ^ k
theorem T9.okT{T:T9}(hk:k<=999)(b:T.bd k):okT (T.l.map D.int):=lP (k:=k) hk (Nat.le_of_ble_eq_true rfl) b
theorem T9.eqD(T:T9):Sp.eqD T.D T.D=true:=by
 unfold T9.D
 show((_==_&&(((_==_&&(_==_&&(_==_&&true)))&&((_==_&&(_==_&&(_==_&&true)))&&((_==_&&(_==_&&(_==_&&true)))&&true)))&&true)):Bool)=true
 simp
end K
namespace K
open PySem L2 Sp Qm
section
variable{Φ:Fx}{sc:Scope}{ρ ρ1:ae}{ss:List Stmt}
end
end K
namespace Sp
open PySem PySem.Spec PyProof.Rows L2
variable{X:Cx}
def eQ:List D->Option (List Str)
 | []=>some []
 | .str i::l=>(eQ l).map (i :: ·)
 | _::_=>none
def lT(x:D)(ds:List D):R1 :=
 match x,ds with
 | .str sep,[.lst l]=>(match eQ l with
  | some ys=>.ok (.str (Txt.join sep ys),0) [sep.length<=16,(ys.map fun y=>y.length).sum+ys.length<=1048576]
  | none=>.st)
 | _,_=>.st
theorem oG{K:W.Frag}{H:Hp}{P:aZ}:∀{l:List D} {ys:List Str} {vs:List V} {us:List Value},eQ l=some ys->af K H P l vs->aG vs us->StrsAre us ys
 | [],ys,vs,us,h,r,q=>by
  rw[eQ]at h;cases h
  rw[af]at r;subst r;cases q;exact .nil
 | .str x::l,ys,vs,us,h,r,q=>by
  rw[eQ]at h
  cases e:eQ l with
  | none=>rw[e]at h;cases h
  | some zs =>
   rw[e]at h;cases h
   rw[af]at r
   obtain⟨v,vr,rfl,r1,r2⟩:=r
   rw[ag]at r1;subst r1
   cases q with
   | cons q1 q2 =>
    obtain⟨t,rfl⟩:=q1
    exact .cons x t (oG e r2 q2)
 | .non::l,ys,vs,us,h,_,_=>by cases h
 | .bl _::l,ys,vs,us,h,_,_=>by cases h
 | .int _::l,ys,vs,us,h,_,_=>by cases h
 | .dct _ _::l,ys,vs,us,h,_,_=>by cases h
 | .typ _::l,ys,vs,us,h,_,_=>by cases h
 | .sn _::l,ys,vs,us,h,_,_=>by cases h
 | .obj _ _ _::l,ys,vs,us,h,_,_=>by cases h
 | .cls _::l,ys,vs,us,h,_,_=>by cases h
 | .tup _::l,ys,vs,us,h,_,_=>by cases h
 | .lst _::l,ys,vs,us,h,_,_=>by cases h
theorem BO:uh X "str.join" (fun x xs H Q => ∃sep l ys P v,x=.str sep/\xs=[v]/\ag X.K H P (.lst l) v/\eQ l=some ys/\sep.length<=16/\(ys.map fun y=>y.length).sum+ys.length<=1048576/\Q (.str (Txt.join sep ys)) H):=by
 intro pins s σ H x xs v us Q I rx rxs h
 obtain⟨sep,l,ys,P,v1,rfl,rfl,r,hl,h1,h2,q⟩:=h
 obtain⟨t,rfl⟩:=rx
 obtain⟨u,rfl,ru⟩:=cy rxs
 rw[ag]at r
 obtain⟨a,vs,b,rfl,ha,_,rl⟩:=r
 cases ru
 obtain⟨its,rv,⟨o,n,e1,e2,_,e3⟩,_⟩:=I.list ha.sq
 exact join_listW (D:=a) (items:=its.toArray) ⟨o,e1,e2,n,e3⟩ (by rw[List.toList_toArray];exact oG hl rl rv) h1 h2 fun t' k=>⟨.str _,H,I.tok _,⟨_,rfl⟩,q⟩
theorem ym:kD "join" lT:=by
 intro X ρ a args ap cp x k ds j z l o hc hroom hea hes hst hlen hline hb h hp
 unfold lT at h
 split at h
 ·rename_i sep l1
  split at h
  ·rename_i ys hy
   cases h
   obtain⟨e,rfl⟩:∃e,args=[e]:=by
    match args,hlen with
    | [e],_=>exact⟨e,rfl⟩
   intro ow
   refine bg (lN PySem.F.plainAttrs_str PySem.F.slot_str_join PySem.F.type_str_join BO (hea ow) (hes ow) (dG hb) (ik hst (show 1<29 by decide)) hline (aM (hst e List.mem_cons_self)) rfl) fun σ H Q ⟨E,q⟩=>⟨E,fun v H1 s1 r1=>?_⟩
   rw[ag]at r1;subst r1
   refine⟨rfl,E.same s1,fun vs H2 s2 r2=>?_⟩
   obtain⟨v,rfl,r3⟩:=r2.only
   exact⟨sep,l1,ys,_,v,rfl,rfl,r3,hy,hp.1,hp.2.1,q _ _ (s1.trans s2) (by rw[ag])⟩
  ·cases h
 ·cases h
end Sp
namespace K
open PySem L2 Sp Qm
variable{k n par:Int}{q:Qd}
section
variable{Φ:Fx}{sc:Scope}{ρ ρ1:ae}{ss:List Stmt}
theorem iU{x y:Str}(h:PyData.strOk x=true)(g:PyData.strOk y=true):gj (.str x) (.str y)=true:=by
 have k:∀x:Str,PyData.strOk x=true->SeqAt.shaped (D.str x).py=true:=fun x h=>by
  rw[D.py];unfold SeqAt.shaped
  simp[PyData.canLay0,PyData.depth,h]
 unfold gj
 rw[k x h,k y g];rfl
end
section
variable{Φ:Fx}{sc:Scope}{ρ ρ1:ae}{ss:List Stmt}{P Q:ae->Prop}
def Ix:Stmt->Expr
 | .For t _ _ _ _=>t
 | _=>.Name (Str.ofString "") ⟨0,0,0,0⟩
def t7:Stmt->List Stmt
 | .For _ _ b _ _=>b
 | _=>[]
theorem IA{a:Expr}{p:Pos}{it:Bool}{b c:Bool}{k:Nat}(h:ab (au Φ a false sc ρ) (.bl b,k))(e:(!b)=c):ab (au Φ (.UnaryOp .Not a p) it sc ρ) (.bl c,0):=by
 subst e
 exact(show ab (Rs.bnd (au Φ a false sc ρ) fun p=>(match vH .Not p.1 with|some d=>.ok (d,0) []|none=>.st)) (.bl (!b),0)from ab.bnd h cu)
end
def wv:List Int:=[0,1,2,3,4,5,6,7,8,9,10,11,12,13,14,15,16,17,18,19,20]
def I0(l:List Int)(m:Int):Option Int:=l.find? fun d=>decide (d*d=m)
theorem Bk{m d:Int}(h:I0 wv m=some d):d*d=m/\0<=d/\d<=20:=by
 have h1:=List.find?_some h
 have h2:=List.mem_of_find?_eq_some h
 have h3:∀x∈wv,0<=x/\x<=20:=by decide
 exact⟨of_decide_eq_true h1,h3 d h2⟩
def jp(n par:Int):List Int:=((List.range 41).map fun i:Nat => -20+(i:Int)).filter fun k=>decide (k.fmod 2=par)&&decide (k*k<=4*n)
def EY(n a b c:Int):Int:=4*n-a*a-b*b-c*c
def yX(n par a b c:Int):List Qd :=
 match I0 wv (EY n a b c)with
 | some d=>if d.fmod 2=par then(a,b,c,d)::(if 0<EY n a b c then[(a,b,c,-d)]else[])else[]
 | none=>[]
def FF(n par a b:Int):List Qd:=(jp n par).flatMap (yX n par a b)
def FG(n par a:Int):List Qd:=(jp n par).flatMap (FF n par a)
def FH(n par:Int):List Qd:=(jp n par).flatMap (FG n par)
def FE(n:Int):List Qd:=([0,1]:List Int).flatMap (FH n)
theorem kY(h:k∈jp n par):k.fmod 2=par /\ -20<=k/\k<=20:=by
 unfold jp at h
 rw[List.mem_filter,List.mem_map]at h
 obtain⟨⟨i,hi,rfl⟩,h2⟩:=h
 rw[Bool.and_eq_true]at h2
 have h3:i<41:=by simpa using hi
 exact⟨of_decide_eq_true h2.1,by omega,by omega⟩
theorem qB(h:-20<=k)(g:k<=20):k.natAbs<=32/\k.natAbs<=20:=by omega
theorem NA(x y z n:Int):x+(y+(z+(4*n-x-y-z+0)))=4*n:=by omega
theorem yW{a b c:Int}(ha:a∈jp n par)(hb:b∈jp n par)(hc:c∈jp n par)(h:q∈yX n par a b c):gQ 5 q/\Dn q=n:=by
 obtain⟨a1,a2,a3⟩:=kY ha
 obtain⟨b1,b2,b3⟩:=kY hb
 obtain⟨c1,c2,c3⟩:=kY hc
 unfold yX at h
 split at h
 ·rename_i d hd
  obtain⟨d1,d2,d3⟩:=Bk hd
  split at h
  ·rename_i hp
   rw[Int.fmod_eq_emod_of_nonneg _ (by decide)]at a1 b1 c1 hp
   have key:∀e:Int,e*e=d*d->e % 2=d % 2->e.natAbs<=20->gQ 5 (a,b,c,e)/\Dn (a,b,c,e)=n:=fun e he hp2 h20=>by
    refine⟨⟨BE.mpr ⟨b1.trans a1.symm,c1.trans a1.symm,hp2.trans (hp.trans a1.symm)⟩,(qB a2 a3).1,(qB b2 b3).1,(qB c2 c3).1,Nat.le_trans h20 (by decide)⟩,?_⟩
    show(a*a+(b*b+(c*c+(e*e+0)))).fdiv 4=n
    rw[he,d1]
    unfold EY
    rw[NA,Qm.fd4]
   rcases List.mem_cons.mp h with rfl|h
   ·exact key d rfl rfl (qB (Int.le_trans (by decide) d2) d3).2
   ·split at h
    ·have:=List.mem_singleton.mp h
     subst this
     exact key (-d) (by rw[Int.neg_mul_neg]) (by clear key a1 b1 c1 hp a2 a3 b2 b3 c2 c3 d1 d2 d3;omega) (by rw[Int.natAbs_neg];exact(qB (Int.le_trans (by decide) d2) d3).2)
    ·cases h
  ·cases h
 ·cases h
theorem fouL_mem(h:q∈FE n):gQ 5 q/\Dn q=n:=by
 unfold FE at h
 obtain⟨par,_,h⟩:=List.mem_flatMap.mp h
 unfold FH at h
 obtain⟨a,ha,h⟩:=List.mem_flatMap.mp h
 unfold FG at h
 obtain⟨b,hb,h⟩:=List.mem_flatMap.mp h
 unfold FF at h
 obtain⟨c,hc,h⟩:=List.mem_flatMap.mp h
 exact yW ha hb hc h
end K
namespace Sp
open PySem PySem.Spec PyProof.Rows L2
variable{k n:Nat}{Q:Value->Shared->Prop}{ρ:ae}{a c e i iter tg:Expr}{f x:Str}{p p1 p2 pos t:Pos}{ds l l' m:List D}{H H0 H1:Hp}{ss:List Stmt}{fl:Fl}{ns:List Int}{b:Addr}{us:List Value}{Φ:Fx}{sc:Scope}{d:D}{K:W.Frag}{ow:Ow}{σ:L2.St}{us' vs:List V}{j:Int}
variable{X:Cx}
section
variable{prog:Program}{w:World}{A:Around}{E:Value->Shared->Prop}{s:Shared}
theorem uY:typeLookup (.type "list_reverseiterator") "__len__" = pure none:=by rw[typeLookup_type,builtinLookup_eq_fast];kernel_rfl
theorem yp:typeLookup (.type "list_reverseiterator") "__length_hint__" = pure (some (.builtin "list_reverseiterator.__length_hint__")):=by rw[typeLookup_type,builtinLookup_eq_fast];kernel_rfl
theorem BV:isSubtype (.type "list_reverseiterator") (.type "list_reverseiterator")=pure true:=by kernel_rfl
theorem wq:splitId "list_reverseiterator.__length_hint__" = some ("list_reverseiterator", "__length_hint__"):=by decide +kernel
theorem wr{S I l:Nat}{items:Array Value}{res:Value}{R:Result->Shared->Prop}(hh:A.in1.handled=none)(n1:S≠I)(n2:S≠l)(n3:l≠I):∀(k:Nat) (s:Shared) (acc:Array Value) (c:Nat),k<=items.size->s.heap.IsRevIter I l ((k:Int)-1)->s.heap.IsList l items->s.heap.get? S=some (qL acc c)->acc.size+k<=sizeLine ->
  (∀h' acc' c',h'.get? S=some (qL acc' c')->acc'.toList=acc.toList++(items.toList.take k).reverse->(∀(b:Nat) o,b≠S->b≠I->s.heap.get? b=some o->h'.get? b=some o)->R (.ok (.ret res)) { s with heap:=h' }) ->
  codeAny (model prog w) A (.builtin "list.extend.loop" ⟨[.ref S,.ref I,res],[]⟩) R s
 | 0,s,acc,c,_,st,pl,hS,hz,q=>by
  refine tT (wpAny_pyNext_rev_end hh (by simpa using st) fun h' eb=>?_)
  exact q h' acc c (eb _ _ n1 hS) (by simp) fun b o _ hb e=>eb b o hb e
 | k+1,s,acc,c,hk,st,pl,hS,hz,q=>by
  have e:((k+1:Nat):Int)-1=(k:Int):=by omega
  rw[e]at st
  have hx:items[k]?=some items[k]:=Array.getElem?_eq_getElem (by omega)
  refine tT (wpAny_pyNext_rev_item st pl hx fun h' st' sb=>?_)
  refine⟨acc,c,(sb.2 _ n1).trans hS,by omega,fun h2 c2 hS2 sb2=>?_⟩
  have sb2:Heap.SameBut S h' h2:=sb2
  obtain⟨o,e1,e2,e3⟩:=st'
  obtain⟨o2,f1,f2,f3⟩:=pl
  refine wr hh n1 n2 n3 k { s with heap:=h2 } (acc.push items[k]) c2 (by omega) ⟨o,(sb2.2 _ (Ne.symm n1)).trans e1,e2,e3⟩ ⟨o2,(sb2.2 _ (Ne.symm n2)).trans ((sb.2 _ n3).trans f1),f2,f3⟩ hS2 (by rw[Array.size_push];omega) fun h3 acc' c' g1 g2 g3=>?_
  refine q h3 acc' c' g1 ?_ fun b o hb1 hb2 e=>g3 b o hb1 hb2 ((sb2.2 b hb1).trans ((sb.2 b hb2).trans e))
  rw[g2,Array.toList_push,List.take_add_one,List.append_assoc]
  congr 1
  have:items.toList[k]?=some items[k]:=by rw[Array.getElem?_toList];exact hx
  rw[this]
  simp
theorem yt{l:Nat}{items:Array Value}(hh:A.handled=none)(hl:l<n)(st:s.heap.IsRevIter n l ((items.size:Int)-1))(pl:s.heap.IsList l items)(sz:s.heap.objs.size=n+1)(hz:items.size<=sizeLine)
  (go:∀h1 acc m,h1.get? (n+1)=some (qL acc m)->acc.toList=items.toList.reverse->(∀(d:Nat) o,d<n->s.heap.get? d=some o->h1.get? d=some o)->Q (.ref (n+1)) { s with heap:=h1 }) :
  wpAny (model prog w) A (call (.type "list") [.ref n]) Q E s:=by
 obtain⟨h0,gg,dd,t0,oo⟩:=s
 have sz:h0.objs.size=n+1:=sz
 refine callType_codes (Q₁:=fun ob s₁=>ob=.ref (n+1)/\s₁=⟨h0.push { cls:=.type "list", data:=.seq #[] },gg,dd,t0,oo⟩) F.called_list (F.typeCall_list_1 _) F.entry_list_init (code_list_new _ ⟨by show Value.ref h0.objs.size=_;rw[sz],rfl⟩) fun ob s₁ hq=>?_
 obtain⟨rfl,rfl⟩:=hq
 have hS:(h0.push { cls:=.type "list", data:=.seq #[] }).get? (n+1)=some (qL #[] 0):=by rw[<- sz];exact Heap.get?_push_size _ rfl
 refine⟨⟨_,hS,rfl⟩,F.args_list_init_2 _ _,?_⟩
 show wpAny _ A.in1.in1 (Builtin.List.listItems (.ref (n+1)) >>= fun old=>Builtin.List.listUpdate (.ref (n+1)) (fun _ => #[]) >>= fun _=>letGo old.toList.reverse >>= fun _=>Builtin.List.listExtendWith (.ref (n+1)) (.ref n) .none) _ _ _
 unfold Builtin.List.listItems
 refine wpAny_bind (wpAny_bind (wpAny_seqItems hS rfl (wpAny_pure ?_)))
 show wpAny _ A.in1.in1 (updateSeq (n+1) (fun _ => #[]) >>= _) _ _ _
 refine wpAny_bind (wpAny_updateSeq hS rfl ?_)
 refine wpAny_bind (wpAny_letGo ?_)
 have S1:=Heap.get?_update_self (Obj.mapSeq (fun _=>(#[]:Array Value))) hS rfl
 generalize hr1:(h0.push { cls:=.type "list", data:=.seq #[] }).update (n+1) (Obj.mapSeq fun _=>(#[]:Array Value))=r1 at S1
 have k1:∀(d:Nat) o,d≠n+1->h0.get? d=some o->r1.get? d=some o:=fun d o g e=>by rw[<- hr1];exact(Heap.get?_update_other _ _ (Ne.symm g)).trans (Heap.get?_push_of_some _ e)
 obtain⟨m1,S1⟩:∃m,r1.get? (n+1)=some (qL #[] m):=⟨_,S1⟩
 obtain⟨o,e1,e2,e3⟩:=st
 obtain⟨o2,f1,f2,f3⟩:=pl
 have z1:r1.IsRevIter n l ((items.size:Int)-1):=⟨o,k1 _ _ (by omega) e1,e2,e3⟩
 have p1:r1.IsList l items:=⟨o2,k1 _ _ (by omega) f1,f2,f3⟩
 have ty:Shared.TypeIs ⟨r1,gg,dd,t0,oo⟩ (.ref n) "list_reverseiterator" := ⟨_,k1 _ _ (by omega) e1,e2⟩
 unfold Builtin.List.listExtendWith
 refine wpAny_bind (wpAny_typeOf ty ?_)
 have g1:Builtin.List.listSameRef (.ref (n+1)) (.ref n)=false:=by simp[Builtin.List.listSameRef]
 have g2:(Value.type "list_reverseiterator" == Value.type "list")=false:=by decide
 have g3:(Value.type "list_reverseiterator" == Value.type "tuple")=false:=by decide
 simp only[g1,g2,g3,Bool.or_false,Bool.false_eq_true,if_false]
 refine wpAny_bind (wpAny_pyIter_revIter z1 (wpAny_bind (wpAny_holding ?_)))
 unfold Builtin.List.listLengthHint
 refine wpAny_bind (wpAny_specialOf ty uY ?_)
 show wpAny _ _ (specialOf (Value.ref n) (Str.ofString "__length_hint__") >>= _) _ _ _
 refine wpAny_bind (wpAny_specialOf ty yp ?_)
 dsimp only
 rw[wq]
 refine wpAny_bind (wpAny_isInstance ty BV ?_)
 rw[if_neg (by decide)]
 rw[if_pos (by decide +kernel)]
 rw[if_neg (by decide)]
 refine wpAny_pure ?_
 rw[if_neg (by decide +kernel)]
 refine wpAny_pure ⟨plainId_quiet F.plain_extend_loop _,?_⟩
 refine wr (A:=A.in1) (S:=n+1) (I:=n) (l:=l) hh (by omega) (by omega) (by omega) items.size ⟨r1,gg,dd,t0,oo⟩ #[] m1 (Nat.le_refl _) z1 p1 S1 (by simpa using hz) fun h' acc' c' q1 q2 q3=>?_
 refine⟨rfl,go h' acc' c' q1 (by rw[q2];simp;exact List.take_of_length_le (by simp)) fun d o hd e=>q3 d o (by omega) (by omega) (k1 _ _ (by omega) e)⟩
end
theorem Cu{g:Str}{q r:Pos}(hc:X.calm=true)(hf:f = "list")(hg:g = "reversed")(gf:Gl X f)(gg:Gl X g)(mf:X.mg f=none)(mg:X.mg g=none)
  (h:AD X ρ [e] [.lst l] k) (hst:∀y∈[e],∀x p,y ≠ .Starred x p) (fl:ao l=true):ED X ρ (.Call (.Name f p) [.Call (.Name g q) [e] [] r] [] t) (.lst l.reverse) 0:=by
 intro ow pins s σ H Q I ⟨E,qq⟩
 subst hf hg
 refine wpAny_Call_Name_kw (dC I gf mf (u:=.type "list") (by decide +kernel) ?_ (by decide +kernel) (by decide +kernel))
 refine PyProof.Rows.callWith_type1 (Calls.spliced_cons (wpAny_Call_Name_kw (dC I gg mg (u:=.type "reversed") (by decide +kernel) ?_ (by decide +kernel) (by decide +kernel)))) rfl rfl
 have n1:=aM (env:=X.env) (es:=[]) (hst e List.mem_cons_self)
 have n2:(backTo r (starEach [] X.env)).any (·.1)=false:=bC fun x hx=>by cases hx
 refine PyProof.Rows.callWith_type1 (aJ (h ow r pins s σ H _ I ⟨E,fun vs H1 s1 r1=>(show(fun vs H1=>av H H1/\af X.K H1 (Kp ow H k) [.lst l] vs) vs H1 from⟨s1,r1⟩)⟩) fun us s1 ⟨vs,H1,I1,rv,sm,rp⟩=>?_) n1 n2
 obtain⟨v,rfl,rv1⟩:=rp.only
 obtain⟨a,xs,rfl,hq,rl,hk1⟩:=jl (κ:=false) rv1
 replace hq:bL X.K H1 a xs:=hq
 obtain⟨u,rfl,ru⟩:=cy rv
 cases (show u=Value.ref a from ru)
 obtain⟨its,rvs,pt,hz⟩:=I1.list hq
 have hh:X.A.handled=none:=I.ok.hd hc
 have pl:=pt.isList
 refine call_reversed_list pl ?_
 refine Calls.spliced_nil ?_
 obtain⟨hp,gs,dr,tk,os⟩:=s1
 have pl:hp.IsList a its.toArray:=pl
 have el:=rvs.length
 have fr:∀j:Nat,H1 (hp.objs.size+j)=none:=fun j=>I1.hok.fresh (Nat.le_add_right _ _)
 have alt:(a:Nat)<hp.objs.size:=let ⟨o,e,_⟩:=pl;Heap.lt_size e
 have tJ:(hp.push (revObj a (((its.toArray.size:Nat):Int)-1))).IsList a its.toArray:=let ⟨o,e,c⟩:=pl;⟨o,Heap.get?_push_of_some _ e,c⟩
 refine yt (n:=hp.objs.size) (l:=a) (items:=its.toArray) hh alt ⟨_,Heap.get?_push_size _ rfl,rfl,rfl⟩ tJ (Heap.size_push ..) (by rw[List.size_toArray,<- el];exact hz) fun h3 acc m S3 eA kp=>?_
 have kk:∀b o,hp.get? b=some o->h3.get? b=some o:=fun b o e=>kp b o (Heap.lt_size e) (Heap.get?_push_of_some _ e)
 generalize hn:hp.objs.size=n at *
 have hk0:cZ X.prog X.w H1 h3:=I1.hok.kept kk
 have ob:bM X.prog X.w (aO H1 (n+1) (.lst xs.reverse)) h3 (n+1) (.lst xs.reverse):=⟨by rw[List.length_reverse];exact hz,acc.toList,m,by rw[eA];exact rvs.reverse,by rw[Array.toArray_toList];exact S3⟩
 have hk1:=lu hk0 (fr 1) ob
 generalize hH:aO H1 (n+1) (.lst xs.reverse)=H4 at hk1
 have g6:H4 (n+1)=some (.lst xs.reverse):=by rw[<- hH];exact aD
 have old:∀c:Nat,c<n->H4 c=H1 c:=fun c hc=>by rw[<- hH,ax (by show(c:Nat)≠n+1;omega)]
 have inn:∀(c:Nat) o,H1 c=some o->c<n:=fun c o e=>by
  rcases Nat.lt_or_ge c n with z|z
  ·exact z
  ·have:=fr (c-n);rw[Nat.add_sub_cancel' z]at this;rw[this]at e;cases e
 have s4:av H1 H4:=fun c o e=>(old c (inn c o e)).trans e
 have I4:aj X pins σ H4 ⟨h3,gs,dr,tk,os⟩:=I1.un (t':=tk) (mY kk (fun c hc=>old c (by rw[<- hn];exact hc)) fun c o e=>by rw[hn];exact inn c o e) hk1
 refine⟨.ref (n+1),H4,I4,rfl,qq _ H4 (sm.trans s4) ?_⟩
 rw[ag]
 exact⟨n+1,_,true,rfl,g6,⟨rfl,sm.free (fr 1)⟩,(af.flat _ fl (rl.same s4)).rev⟩
theorem A4(h:dP X H0 (eZ ρ) ss fl):dP X H0 ρ ss fl:=fun pins s σ H D I ⟨ow,E,hl,B,q⟩ =>
 h pins s σ H D I ⟨fun _=>none,yL E,hl,fun a o h=>⟨(B a o h).1,rfl⟩,q.keep ⟨fun a o h _=>h,fun _ _ _ _=>rfl⟩⟩

def nP(x:Int):List Int->List Int
 | []=>[x]
 | y::l=>if x<=y then x::y::l else y::nP x l
def iA:List Int->List Int
 | []=>[]
 | x::l=>nP x (iA l)
theorem jK(x:Int):∀l:List Int,(nP x l).Perm (x::l)
 | []=>List.Perm.refl _
 | y::l=>by
  rw[nP]
  split
  ·exact List.Perm.refl _
  ·exact((jK x l).cons y).trans (List.Perm.swap x y l)
theorem jk:∀l:List Int,(iA l).Perm l
 | []=>List.Perm.refl _
 | x::l=>(jK x (iA l)).trans ((jk l).cons x)
theorem qU(x:Int):∀{l:List Int},l.Pairwise (· <= ·)->(nP x l).Pairwise (· <= ·)
 | [],_=>List.pairwise_singleton _ _
 | y::l,h=>by
  rw[nP]
  have hh:=List.pairwise_cons.mp h
  split
  ·rename_i hxy
   exact List.pairwise_cons.mpr ⟨fun z hz=>by
    rcases List.mem_cons.mp hz with rfl|hz
    ·exact hxy
    ·exact Int.le_trans hxy (hh.1 z hz),h⟩
  ·rename_i hxy
   refine List.pairwise_cons.mpr ⟨fun z hz=>?_,qU x hh.2⟩
   rcases List.mem_cons.mp ((jK x l).mem_iff.mp hz)with rfl|hz
   ·omega
   ·exact hh.1 z hz
theorem pT:∀l:List Int,(iA l).Pairwise (· <= ·)
 | []=>List.Pairwise.nil
 | x::l=>qU x (pT l)
theorem qy:∀{a b:List Int},a.Perm b->a.Pairwise (· <= ·)->b.Pairwise (· <= ·)->a=b
 | [],b,p,_,_=>by rw[List.nil_perm.mp p]
 | x::a,[],p,_,_=>by have:=p.length_eq;cases this
 | x::a,y::b,p,ha,hb=>by
  have h1:=List.pairwise_cons.mp ha
  have h2:=List.pairwise_cons.mp hb
  have e:x=y:=by
   have i1:x∈y::b:=p.mem_iff.mp List.mem_cons_self
   have i2:y∈x::a:=p.mem_iff.mpr List.mem_cons_self
   rcases List.mem_cons.mp i1 with e|i1
   ·exact e
   ·rcases List.mem_cons.mp i2 with e|i2
    ·exact e.symm
    ·have:=h1.1 y i2;have:=h2.1 x i1;omega
  subst e
  rw[qy ((List.perm_cons x).mp p) h1.2 h2.2]
theorem oA{a:List Int}(p:a.Perm ns)(h:a.Pairwise (· <= ·)):a=iA ns:=qy (p.trans (jk ns).symm) h (pT ns)
theorem xR(ns:List Int):(iA ns).length=ns.length:=(jk ns).length_eq
theorem qT:∀{ns:List Int} {us:List Value},aG (ns.map V.int) us->IntsAre us ns
 | [],us,h=>by cases h;exact .nil
 | n::ns,us,h=>by
  cases h with
  | cons r1 r2=>obtain⟨t,rfl⟩:=r1;exact .cons n t (qT r2)
theorem rT:∀{ns:List Int} {us:List Value},IntsAre us ns->aG (ns.map V.int) us
 | _,_,.nil=>.nil
 | _,_,.cons n t h=>.cons ⟨t,rfl⟩ (rT h)
theorem gv{K:W.Frag}{H:Hp}{P:aZ}:∀{ns:List Int} {vs:List V},af K H P (ns.map D.int) vs->vs=ns.map V.int
 | [],vs,h=>by rw[List.map_nil,af]at h;exact h
 | n::ns,vs,h=>by
  rw[List.map_cons,af]at h
  obtain⟨v,r,rfl,h1,h2⟩:=h
  rw[ag]at h1
  rw[gv h2,h1];rfl
theorem gC{K:W.Frag}{H:Hp}{P:aZ}:∀ns:List Int,af K H P (ns.map D.int) (ns.map V.int)
 | []=>af.nil
 | n::ns=>af.cons (by rw[ag]) (gC ns)
def EZ(b:Bool)(n0:Nat)(p0 kp:Pos):List Keyword:=cond b [⟨some (Str.ofString "reverse"),.Constant (.bool true) n0 p0,kp⟩] []
def iB(b:Bool)(ns:List Int):List Int:=cond b (iA ns).reverse (iA ns)
theorem F2{p0 kp:Pos}{n0:Nat}(b:Bool)(hf:f = "sorted")(gf:Gl X f)(mf:X.mg f=none)
  (h:AD X ρ [e] [.lst (ns.map D.int)] k) (hst:∀y∈[e],∀x p,y ≠ .Starred x p) (hn:ns.length<64):ED X ρ (.Call (.Name f p) [e] (EZ b n0 p0 kp) t) (.lst ((iB b ns).map D.int)) 0:=by
 intro ow pins s σ H Q I ⟨E,qq⟩
 subst hf
 refine wpAny_Call_Name_kw (dC I gf mf (u:=.builtin "sorted") (by decide +kernel) ?_ (by decide +kernel) (by decide +kernel))
 have n1:=aM (env:=X.env) (es:=[]) (hst e List.mem_cons_self)
 have n3:starEach [e] X.env=(false,eval e X.env)::starEach [] X.env:=n1
 have key:∀(us:List Value) (s1:Shared),(∃vs H1,aj X pins σ H1 s1/\aG vs us/\av H H1/\af X.K H1 (Kp ow H k) [.lst (ns.map D.int)] vs)->wpAny (model X.prog X.w) X.A (call (.builtin "sorted") us (cond b [(Str.ofString "reverse", .bool true)] [])) (fun v s2 => ∃x H2,aj X pins σ H2 s2/\aT x v/\Q x H2) X.xe s1:=by
  rintro us s1 ⟨vs,H1,I1,rv,sm,rp⟩
  obtain⟨v,rfl,rv1⟩:=rp.only
  obtain⟨a,xs,rfl,hq,rl,hk1⟩:=jl (κ:=false) rv1
  replace hq:bL X.K H1 a xs:=hq
  obtain⟨u,rfl,ru⟩:=cy rv
  cases (show u=Value.ref a from ru)
  obtain⟨its,rvs,pt,hz⟩:=I1.list hq
  have pl:=pt.isList
  have ex:=gv rl
  subst ex
  have hI:=qT rvs
  have el:=rvs.length
  rw[List.length_map]at el
  obtain⟨hp,gs,dr,tk,os⟩:=s1
  have fin:∀(out:Array Value) (ns':List Int),IntsAre out.toList ns'->ns'=iB b ns->∃x H2,aj X pins σ H2 ⟨sortedAll hp its out,gs,dr,tk,os⟩/\aT x (.ref (hp.objs.size+1))/\Q x H2:=by
   intro out ns' a1 e1
   subst e1
   obtain⟨m,S3⟩:=sortedAll_at hp its out
   have kk:∀b o,hp.get? b=some o->(sortedAll hp its out).get? b=some o:=fun b o e=>sortedAll_old e
   generalize sortedAll hp its out=h3 at *
   have fr:∀j:Nat,H1 (hp.objs.size+j)=none:=fun j=>I1.hok.fresh (Nat.le_add_right _ _)
   generalize hn':hp.objs.size=n at *
   have hk0:cZ X.prog X.w H1 h3:=I1.hok.kept kk
   have lb:(iB b ns).length=ns.length:=by cases b<;>simp[iB,xR]
   have ob:bM X.prog X.w (aO H1 (n+1) (.lst ((iB b ns).map V.int))) h3 (n+1) (.lst ((iB b ns).map V.int)):=⟨by rw[List.length_map,lb,<- List.length_map (f:=V.int)];exact hz,out.toList,m,rT a1,by rw[Array.toArray_toList];exact S3⟩
   have hk1:=lu hk0 (fr 1) ob
   generalize hH:aO H1 (n+1) (.lst ((iB b ns).map V.int))=H4 at hk1
   have g6:H4 (n+1)=some (.lst ((iB b ns).map V.int)):=by rw[<- hH];exact aD
   have old:∀c:Nat,c<n->H4 c=H1 c:=fun c hc=>by rw[<- hH,ax (by show(c:Nat)≠n+1;omega)]
   have inn:∀(c:Nat) o,H1 c=some o->c<n:=fun c o e=>by
    rcases Nat.lt_or_ge c n with z|z
    ·exact z
    ·have:=fr (c-n);rw[Nat.add_sub_cancel' z]at this;rw[this]at e;cases e
   have s4:av H1 H4:=fun c o e=>(old c (inn c o e)).trans e
   have I4:aj X pins σ H4 ⟨h3,gs,dr,tk,os⟩:=I1.un (t':=tk) (mY kk (fun c hc=>old c (by rw[<- hn'];exact hc)) fun c o e=>by rw[hn'];exact inn c o e) hk1
   refine⟨.ref (n+1),H4,I4,rfl,qq _ H4 (sm.trans s4) ?_⟩
   rw[ag]
   exact⟨n+1,_,true,rfl,g6,⟨rfl,sm.free (fr 1)⟩,gC _⟩
  cases b with
  | false=>exact sorted_ints pl hI (by omega) fun out ns' a1 a2 a3=>fin out ns' a1 (oA a2 a3)
  | true =>
   refine sorted_ints_rev (b:=true) pl hI (by omega) fun out ns' a1 a2 a3=>fin out ns' a1 ?_
   have a3:ns'.Pairwise (· >= ·):=a3
   have:=oA (a:=ns'.reverse) ((List.reverse_perm ns').trans a2) (List.pairwise_reverse.mpr a3)
   show ns'=(iA ns).reverse
   rw[<- this,List.reverse_reverse]
 cases b with
 | false =>
  refine callWith_kw (kws:=[]) (aJ (h ow t pins s σ H _ I ⟨E,fun vs H1 s1 r1=>(show(fun vs H1=>av H H1/\af X.K H1 (Kp ow H k) [.lst (ns.map D.int)] vs) vs H1 from⟨s1,r1⟩)⟩) fun us s1 ⟨vs,H1,I1,rv,sm,rp⟩=>kws_nil (key us s1 ⟨vs,H1,I1,rv,sm,rp⟩)) (by rw[n1];rfl) (bC fun x hx=>hst x hx)
 | true =>
  refine callWith_kw (kws:=[⟨some (Str.ofString "reverse"),.Constant (.bool true) n0 p0,kp⟩]) (aJ (h ow t pins s σ H _ I ⟨E,fun vs H1 s1 r1=>(show(fun vs H1=>av H H1/\af X.K H1 (Kp ow H k) [.lst (ns.map D.int)] vs) vs H1 from⟨s1,r1⟩)⟩) fun us s1 ⟨vs,H1,I1,rv,sm,rp⟩=>kws_cons (wpAny_pure (kws_nil (key us s1 ⟨vs,H1,I1,rv,sm,rp⟩)))) (by rw[n1];rfl) (bC fun x hx=>hst x hx)
theorem vF:∀{us:List Value},us.length<2->(us.toArray.zip us.toArray).map (·.2)=us.toArray
 | [],_=>by simp
 | [_],_=>by simp
 | _::_::_,h=>absurd h (by simp)
section
variable{prog:Program}{w:World}{A:Around}{E:Value->Shared->Prop}{s:Shared}
theorem uB{m:Nat}{R:Fin->Shared->Prop}(hb:s.heap.get? b=some (seqObj "list" us.toArray m))(hu:us.length<2)
  (go:R (.done (.ret .none)) { s with heap:=sortedHeap s.heap b us us.toArray }):wpAny (model prog w) A (Builtin.«list.sort» ⟨[.ref b],[]⟩) R E s:=by
 have lb:b<s.heap.objs.size:=Heap.lt_size hb
 obtain⟨c1,g1⟩:∃c,(s.heap.update b (Obj.mapSeq fun _ => #[])).get? b=some (seqObj "list" #[] c):=⟨_,get?_update_seq hb (fun _ => #[])⟩
 rw[list_sort_plain]
 refine wpAny_bind (listItems_at hb rfl (wpAny_bind (listUpdate_at hb rfl (wpAny_bind (seqEpoch_at g1 rfl (wpAny_bind (wpAny_newTuple (wpAny_bind (wpAny_newList (wpAny_holding ?_))))))))))
 have g6:(((s.heap.update b (Obj.mapSeq fun _ => #[])).push (seqObj "tuple" us.toArray 0)).push (seqObj "list" #[] 0)).get? b=some (seqObj "list" #[] c1):=by
  have l1:b<(s.heap.update b (Obj.mapSeq fun _ => #[])).objs.size:=by rw[Heap.size_update];exact lb
  exact Heap.get?_push_of_some _ (Heap.get?_push_of_some _ g1)
 have l2:us.toArray.size<2:=by rw[List.size_toArray];exact hu
 change wpAny (model prog w) A _ R E { s with heap:=((s.heap.update b (Obj.mapSeq fun _ => #[])).push (seqObj "tuple" us.toArray 0)).push (seqObj "list" #[] 0) }
 dsimp only
 rw[if_pos l2,if_pos l2]
 refine wpAny_bind (wpAny_pure ?_)
 rw[StateT.run_pure]
 refine wpAny_bind (wpAny_pure ?_)
 dsimp only
 have ea:Array.map (fun x=>x.snd) (arrOf (SortSt.mk' general' (us.toArray.zip us.toArray) #[] 7 none))=us.toArray:=vF hu
 rw[ea]
 refine wpAny_bind (seqEpoch_at g6 rfl (wpAny_bind (listUpdate_at g6 rfl ?_ (hsz2:=by rw[sizeLine_eq];omega))))
 simp only[bne_self_eq_false,Bool.false_eq_true,if_false]
 exact wpAny_pure go
theorem pV{R:Value->Shared->Prop}(hb:s.heap.IsList b us.toArray)(hu:us.length<2)
  (go:R (.ref (s.heap.objs.size+1)) { s with heap:=sortedAll s.heap us us.toArray }):wpAny (model prog w) A (call (.builtin "sorted") [.ref b]) R E s:=by
 have z1:((s.heap.push (seqObj "list" #[] 0)).update s.heap.objs.size (Obj.mapSeq (· ++ us.toArray))).objs.size=s.heap.objs.size+1:=(Heap.size_update ..).trans (size_push' ..)
 have z2:(((s.heap.push (seqObj "list" #[] 0)).update s.heap.objs.size (Obj.mapSeq (· ++ us.toArray))).push (seqObj "list" us.toArray 0)).get? (s.heap.objs.size+1)=some (seqObj "list" us.toArray 0):=z1 ▸ Heap.get?_push_size _ rfl
 refine Calls.call_function_entry kind_sorted plain_sorted entry_sorted (args_sorted1 _) ?_
 unfold Builtin.«sorted»
 refine wpAny_bind (m:=checkCount "sorted" 1 1 _) (wpAny_pure (wpAny_bind (collect_list hb (wpAny_bind (wpAny_newList ?_)) (by rw[sizeLine_eq];omega))))
 change wpAny _ _ _ _ _ { s with heap:=((s.heap.push (seqObj "list" #[] 0)).update s.heap.objs.size (Obj.mapSeq (· ++ us.toArray))).push (seqObj "list" us.toArray 0) }
 rw[z1]
 exact wpAny_bind (wpAny_holding (wpAny_call_entry slot_list_sort ⟨_,z2,rfl⟩ entry_list_sort (uB z2 hu ⟨_,rfl,wpAny_pure ⟨_,rfl,go⟩⟩) (args_list_sort _)))
end
theorem yQ(hf:f = "sorted")(gf:Gl X f)(mf:X.mg f=none)
  (h:AD X ρ [e] [.lst l] k) (hst:∀y∈[e],∀x p,y ≠ .Starred x p) (hn:l.length<2) (fl:ao l=true):ED X ρ (.Call (.Name f p) [e] [] t) (.lst l) 0:=by
 intro ow pins s σ H Q I ⟨E,qq⟩
 subst hf
 refine wpAny_Call_Name_kw (dC I gf mf (u:=.builtin "sorted") (by decide +kernel) ?_ (by decide +kernel) (by decide +kernel))
 have n1:=aM (env:=X.env) (es:=[]) (hst e List.mem_cons_self)
 refine callWith_kw (kws:=[]) (aJ (h ow t pins s σ H _ I ⟨E,fun vs H1 s1 r1=>(show(fun vs H1=>av H H1/\af X.K H1 (Kp ow H k) [.lst l] vs) vs H1 from⟨s1,r1⟩)⟩) fun us s1 ⟨vs,H1,I1,rv,sm,rp⟩=>kws_nil ?_) (by rw[n1];rfl) (bC fun x hx=>hst x hx)
 obtain⟨v,rfl,rv1⟩:=rp.only
 obtain⟨a,xs,rfl,hq,rl,hk1⟩:=jl (κ:=false) rv1
 replace hq:bL X.K H1 a xs:=hq
 obtain⟨u,rfl,ru⟩:=cy rv
 cases (show u=Value.ref a from ru)
 obtain⟨its,rvs,pt,hz⟩:=I1.list hq
 have el:=rvs.length
 have el2:=rl.length
 obtain⟨hp,gs,dr,tk,os⟩:=s1
 refine pV pt.isList (by omega) ?_
 obtain⟨m,S3⟩:=sortedAll_at hp its its.toArray
 have kk:∀b o,hp.get? b=some o->(sortedAll hp its its.toArray).get? b=some o:=fun b o e=>sortedAll_old e
 show ∃x H2,aj X pins σ H2 ⟨sortedAll hp its its.toArray,gs,dr,tk,os⟩/\aT x (.ref (hp.objs.size+1))/\Q x H2
 generalize sortedAll hp its its.toArray=h3 at *
 have fr:∀j:Nat,H1 (hp.objs.size+j)=none:=fun j=>I1.hok.fresh (Nat.le_add_right _ _)
 generalize hn':hp.objs.size=n at *
 have hk0:cZ X.prog X.w H1 h3:=I1.hok.kept kk
 have ob:bM X.prog X.w (aO H1 (n+1) (.lst xs)) h3 (n+1) (.lst xs):=⟨hz,its,m,rvs,S3⟩
 have hk1:=lu hk0 (fr 1) ob
 generalize hH:aO H1 (n+1) (.lst xs)=H4 at hk1
 have g6:H4 (n+1)=some (.lst xs):=by rw[<- hH];exact aD
 have old:∀c:Nat,c<n->H4 c=H1 c:=fun c hc=>by rw[<- hH,ax (by show(c:Nat)≠n+1;omega)]
 have inn:∀(c:Nat) o,H1 c=some o->c<n:=fun c o e=>by
  rcases Nat.lt_or_ge c n with z|z
  ·exact z
  ·have:=fr (c-n);rw[Nat.add_sub_cancel' z]at this;rw[this]at e;cases e
 have s4:av H1 H4:=fun c o e=>(old c (inn c o e)).trans e
 have I4:aj X pins σ H4 ⟨h3,gs,dr,tk,os⟩:=I1.un (t':=tk) (mY kk (fun c hc=>old c (by rw[<- hn'];exact hc)) fun c o e=>by rw[hn'];exact inn c o e) hk1
 refine⟨.ref (n+1),H4,I4,rfl,qq _ H4 (sm.trans s4) ?_⟩
 rw[ag]
 exact⟨n+1,_,true,rfl,g6,⟨rfl,sm.free (fr 1)⟩,af.flat _ fl (rl.same s4)⟩
inductive Xd(Φ:Fx)(sc:Scope)(ρ:ae):Expr->D->Prop where
 | ev {e:Expr} {d:D} (h:ab (au Φ e false sc ρ) (d,0)):Xd Φ sc ρ e d
 | lrev {e:Expr} {l:List D} {k:Nat} {f g:Str} {p q r t:Pos} (h:ab (bK Φ [e] sc ρ) ([.lst l],k)) (fl:ao l=true) (hf:f = "list" := by rfl) (hg:g = "reversed" := by rfl) (gf:sc.names.lookup f=some .globalImplicit:=by rfl) (gg:sc.names.lookup g=some .globalImplicit:=by rfl):Xd Φ sc ρ (.Call (.Name f p) [.Call (.Name g q) [e] [] r] [] t) (.lst l.reverse)
 | srt (b:Bool) {e:Expr} {ns:List Int} {k n0:Nat} {f:Str} {p t p0 kp:Pos} (h:ab (bK Φ [e] sc ρ) ([.lst (ns.map D.int)],k)) (hn:ns.length<64) (hf:f = "sorted" := by rfl) (gf:sc.names.lookup f=some .globalImplicit:=by rfl):Xd Φ sc ρ (.Call (.Name f p) [e] (EZ b n0 p0 kp) t) (.lst ((iB b ns).map D.int))
 | short {e:Expr} {l:List D} {k:Nat} {f:Str} {p t:Pos} (h:ab (bK Φ [e] sc ρ) ([.lst l],k)) (hn:l.length<2) (fl:ao l=true) (hf:f = "sorted" := by rfl) (gf:sc.names.lookup f=some .globalImplicit:=by rfl):Xd Φ sc ρ (.Call (.Name f p) [e] [] t) (.lst l)
 | pick4 {e1 e2 e3 e4 i:Expr} {d1 d2 d3 d4 d:D} {j:Int} {k:Nat} {lp p:Pos} (h1:Xd Φ sc ρ e1 d1) (h2:Xd Φ sc ρ e2 d2) (h3:Xd Φ sc ρ e3 d3) (h4:Xd Φ sc ρ e4 d4) (hi:ab (au Φ i false sc ρ) (.int j,k)) (ha:atI [d1,d2,d3,d4] j=some d):Xd Φ sc ρ (.Subscript (.List [e1,e2,e3,e4] lp) i p) d
theorem gu(h:Xd Φ sc ρ e d):∀y p,e ≠ .Starred y p:=by
 cases h with
 | ev h=>intro y p z;subst z;obtain⟨_,h,_⟩:=h;cases h
 | lrev=>intro y p z;cases z
 | srt=>intro y p z;cases z
 | short=>intro y p z;cases z
 | pick4=>intro y p z;cases z
theorem BR(d:D):mk d 0=.ok (d,0) []:=by unfold mk kn;split<;>rfl
theorem zz(G:aQ Φ X sc)(h:Xd Φ sc ρ e d):ED X ρ e d 0:=by
 induction h with
 | ev h=>exact(bA h G).ed rfl
 | lrev h fl hf hg gf gg =>
  obtain⟨l7,h7,p7⟩:=h
  obtain⟨hst,_⟩:=bQ h7 p7
  exact Cu G.calm hf hg (G.gl _ gf) (G.gl _ gg) (by subst hf;exact G.bl _ (by decide +kernel)) (by subst hg;exact G.bl _ (by decide +kernel)) (eV [_] h7 p7 G) hst fl
 | srt b h hn hf gf =>
  obtain⟨l7,h7,p7⟩:=h
  obtain⟨hst,_⟩:=bQ h7 p7
  exact F2 b hf (G.gl _ gf) (by subst hf;exact G.bl _ (by decide +kernel)) (eV [_] h7 p7 G) hst hn
 | short h hn fl hf gf =>
  obtain⟨l7,h7,p7⟩:=h
  obtain⟨hst,_⟩:=bQ h7 p7
  exact yQ hf (G.gl _ gf) (by subst hf;exact G.bl _ (by decide +kernel)) (eV [_] h7 p7 G) hst hn fl
 | pick4 h1 h2 h3 h4 hi ha i1 i2 i3 i4 =>
  have at4:=iq i1 (iq i2 (iq i3 (iq i4 xy (aM (gu h4))) (aM (gu h3))) (aM (gu h2))) (aM (gu h1))
  obtain⟨l,hi',pi⟩:=hi
  refine Ar (o:=[]) (ua (k:=0) at4 (Nat.zero_le _) (by show 4<=40000;decide)) ((bA ⟨l,hi',pi⟩ G).ed rfl) (iD hi') ?_
  show(match atI _ _ with|some d=>mk d 0|none=>.st)=_
  rw[ha]
  exact BR _
inductive Rn(Φ:Fx)(sc:Scope):List Stmt->ae->D->Prop where
 | fin {ss:List Stmt} {ρ:ae} {r:D} (h:ab (az Φ ss sc ρ) (.rt r)):Rn Φ sc ss ρ r
 | cut (n:Nat) {ss:List Stmt} {ρ ρ1:ae} {r:D} (h:ab (az Φ (ss.take n) sc ρ) (.nx ρ1)) (k:Rn Φ sc (ss.drop n) ρ1 r):Rn Φ sc ss ρ r
 | dem {ss:List Stmt} {ρ:ae} {r:D} (k:Rn Φ sc ss (eZ ρ) r):Rn Φ sc ss ρ r
 | set {x:Str} {e:Expr} {px q:Pos} {ss:List Stmt} {ρ:ae} {d r:D} (h:Xd Φ sc ρ e d) (k:Rn Φ sc ss (bo ρ x (d,true)) r) (hx:cA sc x=true:=by rfl) (hc:gb e=false:=by rfl):Rn Φ sc (.Assign [.Name x px] e q::ss) ρ r
theorem Cw{lo hi:Option Expr}{l h:Option Int}(ha:ED X ρ a (.lst m) 1)(hl:OD X ρ lo l)(hh:OD X ρ hi h):ED X ρ (.Subscript a (.Slice lo hi none p2) pos) (.lst (gY m l h)) 1:=by
 refine fun ow=>bg (iE tx (ha ow) (hl ow) (hh ow)) fun σ H Q ⟨E,q⟩=>⟨E,fun v H1 s1 r1=>⟨E.same s1,fun H2 s2=>⟨(E.same s1).same s2,fun H3 s3=>?_⟩⟩⟩
 have s13:=s2.trans s3
 obtain⟨p,vs,rfl,hq,rl⟩:=fK (r1.same s13)
 refine⟨p,vs,rfl,hq,fun p' hp'=>?_⟩
 have sm:=cj (o:=HO.lst (gm vs l h)) hp'
 refine q _ _ ((s1.trans s13).trans sm) ?_
 rw[ag]
 exact⟨p',_,true,rfl,aD,fun _=>E.own.free ((s1.trans s13).free hp'),rl.cut.same sm⟩
theorem Cz{b:Expr}(ha:ED X ρ a (.lst l) 1)(hb:ED X ρ b (.lst m) 1)(hn:l.length+m.length<=cg):ED X ρ (.BinOp a .Add b pos) (.lst (l++m)) 1:=by
 refine fun ow=>bg (zX tL (ha ow) (hb ow)) fun σ H Q ⟨E,q⟩=>⟨E,fun v H1 s1 r1=>⟨E.same s1,fun u H2 s2 r2=>?_⟩⟩
 have r1':=r1.same s2
 have r2':=r2.imp (Kp.back s1 1)
 rw[ag]at r1' r2'
 obtain⟨pa,va,b1,rfl,ha,qa,ra⟩:=r1'
 obtain⟨pb,vb,b2,rfl,hb,qb,rb⟩:=r2'
 have la:=ra.length
 have lb:=rb.length
 refine⟨pa,pb,va,vb,rfl,rfl,ha.sq,hb.sq,by rw[<- la,<- lb];exact Nat.le_trans hn eH,fun p hp'=>?_⟩
 have sm:=cj (o:=HO.lst (va++vb)) hp'
 refine q _ _ ((s1.trans s2).trans sm) ?_
 rw[ag]
 exact⟨p,_,true,rfl,aD,fun _=>E.own.free ((s1.trans s2).free hp'),(ra.same sm).append (rb.same sm)⟩
def gB(l:List Int):D:=.lst (l.map D.int)
theorem qK:∀{a b:List Int},a.map V.int=b.map V.int->a=b
 | [],[],_=>rfl
 | [],_::_,h=>by cases h
 | _::_,[],h=>by cases h
 | x::a,y::b,h=>by
  simp only[List.map_cons,List.cons.injEq,V.int.injEq]at h
  rw[h.1,qK h.2]
theorem tF{P:aZ}(hP:∀a b,P a b->b=true){l l':List Int}{v:V}(h:ag K H P (gB l) v)(hb:H b=some (.lst (l'.map V.int)))(hne:l≠l'){o:HO}:ag K (aO H b o) P (gB l) v:=by
 unfold gB at h⊢
 rw[ag]at h⊢
 obtain⟨a,vs,c,rfl,h1,h2,h3⟩:=h
 cases hP _ _ h2
 have e:=gv h3
 subst e
 have hab:a≠b:=fun z=>by
  subst z
  have:some (HO.lst (l.map V.int))=some (.lst (l'.map V.int)):=Eq.trans (Eq.symm h1) hb
  exact hne (qK (HO.lst.inj (Option.some.inj this)))
 exact⟨a,_,true,rfl,(ax hab).trans h1,h2,gC _⟩
theorem tE{K:W.Frag}{H:Hp}{P:aZ}(hP:∀a b,P a b->b=true){b:Addr}{l l':List Int}(hb:H b=some (.lst (l.map V.int))):∀{Ls:List (List Int)} {vs:List V} {n:Nat},af K H P (Ls.map gB) vs->Ls[n]?=some l->vs[n]?=some (.ref b) ->
  (∀a m,Ls[a]?=some m->a≠n->m≠l)->af K (aO H b (.lst (l'.map V.int))) P ((Ls.set n l').map gB) vs
 | [],vs,n,h,e,_,_=>by simp at e
 | x::Ls,vs,0,h,e,ev,hd=>by
  rw[List.map_cons,af]at h
  obtain⟨v,r,rfl,h1,h2⟩:=h
  cases (Option.some.inj e:x=l)
  cases (Option.some.inj ev:v=.ref b)
  rw[List.set_cons_zero,List.map_cons]
  refine af.cons ?_ ?_
  ·unfold gB at h1⊢
   rw[ag]at h1⊢
   obtain⟨a,vs,c,e,h1,h3,h4⟩:=h1
   cases e
   exact⟨b,_,true,rfl,aD,by cases hP _ _ h3;exact h3,gC _⟩
  ·have:∀(M:List (List Int)) (ws:List V),(∀m∈M,m≠l)->af K H P (M.map gB) ws->af K (aO H b (.lst (l'.map V.int))) P (M.map gB) ws:=by
    intro M
    induction M with
    | nil=>intro ws _ h;rw[List.map_nil,af]at h;subst h;exact af.nil
    | cons m M ih =>
     intro ws hm h
     rw[List.map_cons,af]at h
     obtain⟨v,r,rfl,g1,g2⟩:=h
     exact af.cons (tF hP g1 hb (hm m List.mem_cons_self)) (ih r (fun y hy=>hm y (List.mem_cons_of_mem _ hy)) g2)
   refine this Ls r (fun m hm=>?_) h2
   obtain⟨k,hk⟩:=List.mem_iff_getElem?.mp hm
   exact hd (k+1) m (by simpa using hk) (Nat.succ_ne_zero k)
 | x::Ls,vs,n+1,h,e,ev,hd=>by
  rw[List.map_cons,af]at h
  obtain⟨v,r,rfl,h1,h2⟩:=h
  rw[List.set_cons_succ,List.map_cons]
  exact af.cons (tF hP h1 hb (hd 0 x rfl (fun z=>nomatch z))) (tE hP hb h2 (by simpa using e) (by simpa using ev) fun a m ha hn=>hd (a+1) m (by simpa using ha) (by omega))
theorem Cl{a:Addr}{us:List V}{i:Nat}(E:aH X ow H1 σ ρ)(hi:X.N[i]?=some x)(hs:σ[i]?=some (some (.ref a)))
  (hv:eM X.env.scope x) (ha:H1 a=some (.lst vs)) (ho:ow a=some (some x)) (hb:H1 b=some (.lst us)) (hob:ow b=some (some x)) (hab:a≠b) (r':af X.K (aO H1 b (.lst us')) (iF ow x true) l' vs) :
  aH X ow (aO H1 b (.lst us')) σ (bo ρ x (.lst l',true)):=by
 have st:∀{P:aZ},(P b true->False)->cV P P H1 (aO H1 b (.lst us')):=fun {P} h=>⟨fun c o hc hn=>by rw[ax (fun z=>by subst z;rw[hb]at hc;cases hc;exact hn)];exact hc,fun c ws hc p=>by rw[ax (fun z=>by subst z;exact h p)];exact hc,fun _ _ _ p=>p,fun _ p=>p⟩
 refine⟨fun y e o h=>?_,fun c hc=>?_⟩
 ·rw[cM]at h
  by_cases hy:y=x
  ·subst hy
   rw[if_pos rfl]at h
   cases h
   exact⟨i,.ref a,hi,hv,hs,by rw[ag];exact⟨a,vs,true,rfl,(ax hab).trans ha,⟨rfl,ho⟩,r'⟩⟩
  ·rw[if_neg hy]at h
   obtain⟨j,w,e1,e2,e3,e4⟩:=E.get y e o h
   refine⟨j,w,e1,e2,e3,e4.mono (st fun p=>?_)⟩
   cases o with
   | true=>have:=p.2;rw[hob]at this;cases this;exact hy rfl
   | false=>have:=p rfl;rw[hob]at this;cases this
 ·by_cases hz:c=b
  ·subst hz;exact⟨_,aD⟩
  ·rw[ax hz];exact E.own c hc
theorem Ba{m:Expr}{p3:Pos}{Ls:List (List Int)}{l:List Int}{jm v:Int}{nm k1 k2:Nat}(hx:ρ x=some (.lst (Ls.map gB),true))(h:ED X ρ e (.int v) k)(hi:ED X ρ i (.int j) k1)(hm:ED X ρ m (.int jm) k2)(hn:dz x=true)
  (h1:ixN Ls.length j=some n) (h2:Ls[n]?=some l) (h3:ixN l.length jm=some nm) (hd:∀a y,Ls[a]?=some y->a≠n->y≠l) (hs:du i) (hsl:∀a b c p,m ≠ .Slice a b c p) :
  SD X H0 ρ (.Assign [.Subscript (.Subscript (.Name x p1) i p2) m p3] e pos) (.nx (bo ρ x (.lst ((Ls.set n (l.set nm v)).map gB),true))):=by
 intro pins s σ H D I ⟨ow,E,hl,B,q⟩
 obtain⟨ix,a,vs,g1,g2,g3,g4,g5,g6⟩:=wf I E hx
 have pn:PE X (.Name x p1) (kW ix):=eR g1 g2 (cq hn).1 (cq hn).2
 obtain⟨w,hw,rw'⟩:=g6.get (i:=n) (d:=gB l) (by rw[List.getElem?_map,h2];rfl)
 unfold gB at rw'
 rw[ag]at rw'
 obtain⟨b,us,bb,rfl,hb,pb,rl⟩:=rw'
 cases pb.1.1
 have eu:=gv rl
 subst eu
 refine fY (h ow) (qr (lM tY pn (hi ow) hs) (hm ow) pY (fun v=>by cases m<;>first|rfl|exact absurd rfl (hsl _ _ _ _))) ji (by cases e<;>rfl) rfl pins s σ H D I ⟨E,fun v' H1 s1 r1=>?_⟩
 rw[ag]at r1;subst r1
 refine⟨_,g3,E.same s1,fun u H2 s2 r2=>?_⟩
 rw[ag]at r2;subst r2
 have s12:=s1.trans s2
 refine⟨a,vs,j,.ref b,rfl,rfl,bL.of (s12 _ _ g4),?_,E.same s12,fun u H3 s3 r3=>?_⟩
 ·unfold L2.atI
  rw[<- g6.length,List.length_map,h1]
  exact hw
 rw[ag]at r3;subst r3
 have s13:=s12.trans s3
 refine⟨b,l.map V.int,jm,nm,rfl,rfl,s13 _ _ hb,by rw[List.length_map];exact h3,?_⟩
 have em:(l.map V.int).set nm (.int v)=(l.set nm v).map V.int:=by rw[List.map_set]
 rw[em]
 have hb':H3 b=some (.lst (l.map V.int)):=s13 _ _ hb
 refine q ow σ _ (Cl (E.same s13) g1 g3 g2 (s13 _ _ g4) g5 hb' pb.1.2 (Ne.symm pb.2) ?_) hl (iL s13 hb pb.1.2)
 exact(tE (fun _ _ p=>p.1) hb' ((g6.same s13).imp fun _ _ p=>p.1) h2 hw hd)
def pD(ρ:ae)(x:Str):ae:=fun y=>if y=x then none else ρ y
theorem Cj{us:List V}(E:aH X ow H1 σ ρ)(hb:H1 b=some (.lst us))(hob:ow b=some (some x)):aH X ow (aO H1 b (.lst us')) σ (pD ρ x):=by
 have st:∀{P:aZ},(P b true->False)->cV P P H1 (aO H1 b (.lst us')):=fun {P} h=>⟨fun c o hc hn=>by rw[ax (fun z=>by subst z;rw[hb]at hc;cases hc;exact hn)];exact hc,fun c ws hc p=>by rw[ax (fun z=>by subst z;exact h p)];exact hc,fun _ _ _ p=>p,fun _ p=>p⟩
 refine⟨fun y e o h=>?_,fun c hc=>?_⟩
 ·unfold pD at h
  by_cases hy:y=x
  ·rw[if_pos hy]at h;cases h
  ·rw[if_neg hy]at h
   obtain⟨j,w,e1,e2,e3,e4⟩:=E.get y e o h
   refine⟨j,w,e1,e2,e3,e4.mono (st fun p=>?_)⟩
   cases o with
   | true=>have:=p.2;rw[hob]at this;cases this;exact hy rfl
   | false=>have:=p rfl;rw[hob]at this;cases this
 ·by_cases hz:c=b
  ·subst hz;exact⟨_,aD⟩
  ·rw[ax hz];exact E.own c hc
theorem xS{p:Addr}(h:cw K H p vs)(s:av H H1):cw K H1 p vs:=by
 rcases h with(h|⟨o,h⟩)|h
 ·exact .inl (.inl (s _ _ h))
 ·exact .inl (.inr ⟨o,s _ _ h⟩)
 ·exact .inr h
theorem Bf{m:Str}{M:List D->List D->Nat->Rs (List D)}{ap cp p4:Pos}{dt:List D}{ki:Nat}{o:List Prop}(hcalm:X.calm=true)(hM:kC m M)(hx:ρ x=some (.tup dt,true))(hi:ED X ρ i (.int j) ki)(hs:du i)(hat:L2.atI dt j=some (.lst l))
  (h:AD X ρ [e] [d] k) (hst:∀y p,e ≠ .Starred y p) (hn:dz x=true) (hln:(ap.endLine==cp.line)=true) (hm:M l [d] k=.ok l' o) (hp:aA o):SD X H0 ρ (.Expr (.Call (.Attribute (.Subscript (.Name x p1) i p2) m ap) [e] [] cp) p4) (.nx (pD ρ x)):=by
 obtain⟨id,r,sl,ty,mt,hr⟩:=hM X hcalm
 intro pins s σ H D I ⟨ow,E,hl,B,q⟩
 obtain⟨ix,v,g1,g2,g3,g4⟩:=E.get x _ _ hx
 have pn:PE X (.Name x p1) (kW ix):=eR g1 g2 (cq hn).1 (cq hn).2
 obtain⟨p,vs,rfl,hq,rl⟩:=eh g4
 obtain⟨w,hw,rw'⟩:=rl.atI hat
 rw[ag]at rw'
 obtain⟨b,us,bb,rfl,hb,pb,rl2⟩:=rw'
 cases pb.1
 have hfew:((backTo cp (starEach [e] X.env)).all (fun x => !x.1)&&(backToKw cp (keywordEach [] X.env)).all (fun x=>x.1.isSome)&&decide ([e].length+([]:List Keyword).length+(if ([]:List Keyword).isEmpty then 0 else 1)<30))=true:=by
  rw[iG (fun z hz=>by rw[List.mem_singleton.mp hz];exact hst)];rfl
 refine fQ (lN PySem.F.plainAttrs_list sl ty mt (lM wD pn (hi ow) hs) (h ow) rfl hfew hln (aM hst) (bC fun z hz=>by cases hz)) rfl pins s σ H D I ⟨_,g3,E,fun u H1 s1 r1=>?_⟩
 rw[ag]at r1;subst r1
 refine⟨p,vs,j,.ref b,rfl,rfl,xS hq s1,hw,.inl ⟨rfl,_,bL.of (s1 _ _ hb)⟩,E.same s1,fun ws H2 s2 r2=>?_⟩
 have s12:=s1.trans s2
 refine(hr ow H1 H2 l [d] l' k o b us ws hm hp).2 (fun _ _=>True) _ (fun _ _ _=>True.intro) (E.own.same s1) s2 (s12 _ _ hb) ((rl2.imp fun _ _ _=>True.intro).same s12) r2 fun vs' _ rv=>?_
 exact q ow σ _ (Cj (E.same s12) (s12 _ _ hb) pb.2) hl (iL s12 hb pb.2)
def uk(X:Cx)(H0:Hp)(tg:Expr)(body:List Stmt):List D->ae->Fl->Prop
 | [],ρ,fl=>fl=.nx ρ
 | d::ds,ρ,fl => ∃ρ1,GD X ρ tg d ρ1/\((∃ρ2,dP X H0 ρ1 body (.nx ρ2)/\uk X H0 tg body ds ρ2 fl)\/∃r,fl=.rt r/\dP X H0 ρ1 body (.rt r))
theorem tz{body:List Stmt}(hp:PassesOwn (model X.prog X.w) X.A X.env X.xe)(hcalm:X.calm=true)
  (hi:IE X (demote iter ρ) tg iter ds k) (hk:k<=1) (h:uk X H0 tg body ds (demote iter ρ) fl)
  (hs:∀x,foldedSetIterable iter X.env x=pure x):SD X H0 ρ (.For tg iter body [] pos) fl:=by
 intro pins s σ H D0 I ⟨ow0,E0,hl,B0,q0⟩
 obtain⟨ow,E,k0⟩:=mD (e:=iter) E0
 have B:=B0.keep k0
 have q:=q0.keep k0
 have pb:eN X body (fun D σ H => ∃ρ fl,dP X H0 ρ body fl/\sU X H0 ρ fl D σ H):=fun pins s σ H D I ⟨ρ1,fl1,h1,h2⟩=>h1 pins s σ H D I h2
 have pg:PG X tg (fun v σ H Q => ∃g:TG,PG X tg g/\g v σ H Q):=fun pins s σ H v u Q I r ⟨g,h1,h2⟩=>h1 pins s σ H v u Q I r h2
 refine qo hp hcalm (hi ow) pg pb hs pins s σ H D0 I ⟨E,fun J H1 s1 itd=>?_⟩
 refine⟨fun i m σ' H'=>m=ds.length-i/\i<=ds.length/\∃ow' ρ',aH X ow' H' σ' ρ'/\σ'.length=X.N.length/\cH H0 ow' H'/\aU ow H1 ow' H'/\uk X H0 tg body (ds.drop i) ρ' fl,
  ⟨ds.length,by simp,Nat.zero_le _,ow,_,E.same s1,hl,B.keep (aU.same s1),aU.refl _ _,h⟩,?_⟩
 rintro i m σ' H' ⟨rfl,hile,ow',ρ',E',hl',B',k',hf⟩
 have q':jS X H0 ow' H' fl D0:=q.keep ((aU.same s1).trans k')
 have st:cV (Kd ow H k H1) (Kd ow H k H1) H1 H':=⟨fun a o ha hn=>k'.keep a o ha (.inl hn),fun a vs ha p=>k'.keep a _ ha (.inr (eL E.own hk p.1)),fun _ _ _ p=>p,fun _ p=>p⟩
 have it:=itd i H' st
 by_cases hlt:i<ds.length
 ·obtain⟨go,yl⟩:=it.1 ds[i] (List.getElem?_eq_getElem hlt)
  have hdrop:ds.drop i=ds[i]::ds.drop (i+1):=List.drop_eq_getElem_cons hlt
  rw[hdrop]at hf
  refine .inr ⟨go,fun σ2 H2=>i+1<=ds.length/\∃ow2 ρ2,aH X ow2 H2 σ2 ρ2/\σ2.length=X.N.length/\cH H0 ow2 H2/\aU ow H1 ow2 H2/\uk X H0 tg body (ds.drop (i+1)) ρ2 fl,fun σ2 H2 n=>⟨ds.length-(i+1),by omega,rfl,n.1,n.2⟩,fun x H3 y3=>?_⟩
  obtain⟨sm3,rx⟩:=yl x H3 y3
  obtain⟨ρ1,⟨g,g1,g2⟩,hf⟩:=hf
  have rx':ag X.K H3 (fun a b=>b=true->ow' a=none) ds[i] x:=rx.impH (fun a o ha p _=>by
   obtain⟨o1,h1⟩:=p.2 rfl
   exact k'.low a o1 h1 (eL E.own hk p.1)) fun a _ z=>(by cases z)
  refine⟨g,g1,g2 ow' x σ' H3 _ hl' (E'.same sm3) rx' fun σ2 hl2 E2=>?_⟩
  have k3:aU ow' H' ow' H3:=aU.same sm3
  rcases hf with⟨ρ2,hb,hf⟩|⟨r,rfl,hb⟩
  ·exact⟨ρ1,.nx ρ2,hb,ow',E2,hl2,B'.keep k3,fun ow2 σ3 H4 a b c=>⟨hlt,ow2,ρ2,a,b,(B'.keep k3).keep c,k'.trans (k3.trans c),hf⟩⟩
  ·exact⟨ρ1,.rt r,hb,ow',E2,hl2,B'.keep k3,q'⟩
 ·have ei:i=ds.length:=by omega
  subst ei
  rw[List.drop_length]at hf
  cases (show fl=.nx ρ' from hf)
  exact .inl ⟨it.2 (Nat.le_refl _),q' ow' σ' H' E' hl' (aU.refl _ _)⟩
def xH(X:Cx)(tg:Expr)(c:Expr):List D->ae->ae->Prop
 | [],ρ,ρ'=>ρ'=ρ
 | d::ds,ρ,ρ' => ∃ρ1,GD X ρ tg d ρ1/\TD X ρ1 c false/\xH X tg c ds ρ1 ρ'
theorem Bg{ρf:ae}{a:List Stmt}{q0:Pos}(hp:PassesOwn (model X.prog X.w) X.A X.env X.xe)(hcalm:X.calm=true)
  (hi:IE X ρ tg iter ds k) (hll:ao ds=true) (h:xH X tg c ds ρ ρf)
  (hs:∀x,foldedSetIterable iter X.env x=pure x):SD X H0 ρ (.For tg iter [.If c a [] q0] [] pos) (.nx ρf):=by
 intro pins s σ H D0 I ⟨ow,E,hl,B,q⟩
 have pb:eN X [.If c a [] q0] (fun D σ H => ∃ρ,TD X ρ c false/\aH X ow H σ ρ/\∀H2,av H H2->D.nx σ H2):=fun pins s σ H D I ⟨ρ1,h1,h2,h3⟩=>fb (uF (h1 ow) gx nv) nv pins s σ H D I ⟨h2,fun H2 s2=>by
  show if false=true then _ else _
  rw[if_neg Bool.false_ne_true]
  exact h3 H2 s2⟩
 have pg:PG X tg (fun v σ H Q => ∃g:TG,PG X tg g/\g v σ H Q):=fun pins s σ H v u Q I r ⟨g,h1,h2⟩=>h1 pins s σ H v u Q I r h2
 refine qo hp hcalm (hi ow) pg pb hs pins s σ H D0 I ⟨E,fun J H1 s1 itd=>?_⟩
 refine⟨fun i m σ' H'=>m=ds.length-i/\i<=ds.length/\∃ρ',aH X ow H' σ' ρ'/\σ'.length=X.N.length/\av H1 H'/\xH X tg c (ds.drop i) ρ' ρf,
  ⟨ds.length,by simp,Nat.zero_le _,_,E.same s1,hl,av.refl _,h⟩,?_⟩
 rintro i m σ' H' ⟨rfl,hile,ρ',E',hl',sm,hf⟩
 have st:cV (Kd ow H k H1) (Kd ow H k H1) H1 H':=⟨fun a o ha _=>sm a o ha,fun a o ha _=>sm a o ha,fun _ _ _ p=>p,fun _ p=>p⟩
 have it:=itd i H' st
 by_cases hlt:i<ds.length
 ·obtain⟨go,yl⟩:=it.1 ds[i] (List.getElem?_eq_getElem hlt)
  have hdrop:ds.drop i=ds[i]::ds.drop (i+1):=List.drop_eq_getElem_cons hlt
  rw[hdrop]at hf
  refine .inr ⟨go,fun σ2 H2=>i+1<=ds.length/\∃ρ2,aH X ow H2 σ2 ρ2/\σ2.length=X.N.length/\av H1 H2/\xH X tg c (ds.drop (i+1)) ρ2 ρf,fun σ2 H2 n=>⟨ds.length-(i+1),by omega,rfl,n.1,n.2⟩,fun x H3 y3=>?_⟩
  obtain⟨sm3,rx⟩:=yl x H3 y3
  obtain⟨ρ1,⟨g,g1,g2⟩,ht,hf⟩:=hf
  have li:ds[i].lless=true:=oK hll (List.getElem_mem hlt)
  refine⟨g,g1,g2 ow x σ' H3 _ hl' (E'.same sm3) (rx.flat _ li) fun σ2 hl2 E2=>?_⟩
  exact⟨ρ1,ht,E2,fun H4 s4=>⟨hlt,ρ1,E2.same s4,hl2,sm.trans (sm3.trans s4),hf⟩⟩
 ·have ei:i=ds.length:=by omega
  subst ei
  rw[List.drop_length]at hf
  cases (show ρf=ρ' from hf)
  exact .inl ⟨it.2 (Nat.le_refl _),q ow σ' H' E' hl' (aU.same (s1.trans sm))⟩
inductive Rp(Φ:Fx)(sc:Scope)(tg c:Expr):List D->ae->ae->Prop where
 | nil {ρ:ae}:Rp Φ sc tg c [] ρ ρ
 | cons {d:D} {ds:List D} {ρ ρ1 ρ':ae} {k:Nat} (hb:bG sc tg d ρ=some ρ1) (hc:ab (au Φ c false sc ρ1) (.bl false,k)) (h:Rp Φ sc tg c ds ρ1 ρ'):Rp Φ sc tg c (d::ds) ρ ρ'
inductive Xo(Φ:Fx)(sc:Scope)(ρ:ae):Option Expr->Option Int->Prop where
 | no:Xo Φ sc ρ none none
 | yes {e:Expr} {i:Int} {k:Nat} (h:ab (au Φ e false sc ρ) (.int i,k)):Xo Φ sc ρ (some e) (some i)
inductive oV(Φ:Fx)(sc:Scope)(ρ:ae):Expr->D->Prop where
 | name {x:Str} {p:Pos} {m:List D} (h:ρ x=some (.lst m,false)) (hx:dz x=true):oV Φ sc ρ (.Name x p) (.lst m)
 | cut {e:Expr} {lo hi:Option Expr} {l h:Option Int} {m:List D} {p2 p:Pos} (he:oV Φ sc ρ e (.lst m)) (hl:Xo Φ sc ρ lo l) (hh:Xo Φ sc ρ hi h):oV Φ sc ρ (.Subscript e (.Slice lo hi none p2) p) (.lst (gY m l h))
 | cat {a b:Expr} {l m:List D} {p:Pos} (ha:oV Φ sc ρ a (.lst l)) (hb:oV Φ sc ρ b (.lst m)) (hn:l.length+m.length<=cg):oV Φ sc ρ (.BinOp a .Add b p) (.lst (l++m))
theorem zy{e:Option Expr}{i:Option Int}(G:aQ Φ X sc)(h:Xo Φ sc ρ e i):OD X ρ e i:=by
 cases h with
 | no=>exact tN
 | yes h=>exact tM ((bA h G).ed rfl)
theorem E9(m:List D):kn (.lst m) 1=1:=by rfl
theorem zx(G:aQ Φ X sc)(h:oV Φ sc ρ e d):ED X ρ e d 1/\gb e=false:=by
 induction h with
 | name h hx=>exact⟨by have:=t9 (X:=X) (pos:=‹Pos›) h hx;rw[show cond false 2 1=1 from rfl,E9]at this;exact this,rfl⟩
 | cut he hl hh ih=>exact⟨Cw ih.1 (zy G hl) (zy G hh),rfl⟩
 | cat ha hb hn ia ib=>exact⟨Cz ia.1 ib.1 hn,rfl⟩
mutual
inductive Rf(Φ:Fx)(sc:Scope):List Stmt->ae->Fl->Prop where
 | base {ss:List Stmt} {ρ:ae} {fl:Fl} (h:ab (az Φ ss sc ρ) fl):Rf Φ sc ss ρ fl
 | cut (n:Nat) {ss:List Stmt} {ρ ρ1:ae} {fl:Fl} (h:ab (az Φ (ss.take n) sc ρ) (.nx ρ1)) (k:Rf Φ sc (ss.drop n) ρ1 fl):Rf Φ sc ss ρ fl
 | seq {s:Stmt} {ss:List Stmt} {ρ ρ1:ae} {fl:Fl} (h:kS Φ sc s ρ (.nx ρ1)) (k:Rf Φ sc ss ρ1 fl):Rf Φ sc (s::ss) ρ fl
 | stop {s:Stmt} {ss:List Stmt} {ρ:ae} {r:D} (h:kS Φ sc s ρ (.rt r)):Rf Φ sc (s::ss) ρ (.rt r)
 | dem {ss:List Stmt} {ρ:ae} {fl:Fl} (k:Rf Φ sc ss (eZ ρ) fl):Rf Φ sc ss ρ fl
inductive kS(Φ:Fx)(sc:Scope):Stmt->ae->Fl->Prop where
 | set {x:Str} {e:Expr} {px q:Pos} {ρ:ae} {d:D} (h:Xd Φ sc ρ e d) (hx:cA sc x=true) (hc:gb e=false):kS Φ sc (.Assign [.Name x px] e q) ρ (.nx (bo ρ x (d,true)))
 | setS {x:Str} {e:Expr} {px q:Pos} {ρ:ae} {d:D} (h:oV Φ sc ρ e d) (hx:cA sc x=true):kS Φ sc (.Assign [.Name x px] e q) ρ (.nx (bo ρ x (d,false)))
 | app1 {x m:Str} {M:List D->List D->Nat->Rs (List D)} {i e:Expr} {p1 p2 ap cp p4:Pos} {ρ:ae} {dt l l':List D} {d:D} {j:Int} {k ki:Nat} (hM:Φ.mtt m=some M) (hx:ρ x=some (.tup dt,true)) (hi:ab (au Φ i false sc ρ) (.int j,ki)) (hs:du i) (hat:L2.atI dt j=some (.lst l)) (h:ab (bK Φ [e] sc ρ) ([d],k)) (hn:dz x=true) (hln:(ap.endLine==cp.line)=true) (hm:ab (M l [d] k) l') :
  kS Φ sc (.Expr (.Call (.Attribute (.Subscript (.Name x p1) i p2) m ap) [e] [] cp) p4) ρ (.nx (pD ρ x))
 | sto2 {x:Str} {e i m:Expr} {p1 p2 p3 pos:Pos} {ρ:ae} {Ls:List (List Int)} {l:List Int} {j jm v:Int} {n nm k k1 k2:Nat} (hx:ρ x=some (.lst (Ls.map gB),true)) (h:ab (au Φ e false sc ρ) (.int v,k)) (hi:ab (au Φ i false sc ρ) (.int j,k1)) (hm:ab (au Φ m false sc ρ) (.int jm,k2)) (hn:dz x=true)
  (h1:ixN Ls.length j=some n) (h2:Ls[n]?=some l) (h3:ixN l.length jm=some nm) (hd:∀a y,Ls[a]?=some y->a≠n->y≠l) (hs:du i) (hsl:∀a b c p,m ≠ .Slice a b c p) :
  kS Φ sc (.Assign [.Subscript (.Subscript (.Name x p1) i p2) m p3] e pos) ρ (.nx (bo ρ x (.lst ((Ls.set n (l.set nm v)).map gB),true)))
 | ret {e:Expr} {q:Pos} {ρ:ae} {d:D} (h:Xd Φ sc ρ e d):kS Φ sc (.Return (some e) q) ρ (.rt d)
 | iff {c:Expr} {a b:List Stmt} {pos:Pos} {ρ:ae} {t:Bool} {k:Nat} {fl:Fl} (hc:ab (au Φ c false sc ρ) (.bl t,k)) (h:Rf Φ sc (cond t a b) ρ fl):kS Φ sc (.If c a b pos) ρ fl
 | forC {tg it:Expr} {body:List Stmt} {pos:Pos} {ρ:ae} {d:D} {ds:List D} {k:Nat} {fl:Fl} (hi:ab (au Φ it true sc (demote it ρ)) (d,k)) (hd:items d=some ds) (hk:k<=1) (ht:eG it tg=true) (h:Rc Φ sc tg body ds (demote it ρ) fl):kS Φ sc (.For tg it body [] pos) ρ fl
 | forP {tg it c:Expr} {a:List Stmt} {pos q:Pos} {ρ ρ':ae} {d:D} {ds:List D} {k:Nat} (hi:ab (au Φ it true sc ρ) (d,k)) (hd:items d=some ds) (hl:ao ds=true) (ht:eG it tg=true) (h:Rp Φ sc tg c ds ρ ρ'):kS Φ sc (.For tg it [.If c a [] q] [] pos) ρ (.nx ρ')
inductive Rc(Φ:Fx)(sc:Scope):Expr->List Stmt->List D->ae->Fl->Prop where
 | nil {tg:Expr} {body:List Stmt} {ρ:ae}:Rc Φ sc tg body [] ρ (.nx ρ)
 | cons {tg:Expr} {body:List Stmt} {d:D} {ds:List D} {ρ ρ1 ρ2:ae} {fl:Fl} (hb:bG sc tg d ρ=some ρ1) (h:Rf Φ sc body ρ1 (.nx ρ2)) (k:Rc Φ sc tg body ds ρ2 fl):Rc Φ sc tg body (d::ds) ρ fl
 | stop {tg:Expr} {body:List Stmt} {d:D} {ds:List D} {ρ ρ1:ae} {r:D} (hb:bG sc tg d ρ=some ρ1) (h:Rf Φ sc body ρ1 (.rt r)):Rc Φ sc tg body (d::ds) ρ (.rt r)
end
theorem Hv{ρ':ae}(G:aQ Φ X sc)(h:Rp Φ sc tg c ds ρ ρ'):xH X tg c ds ρ ρ':=by
 induction h with
 | nil=>exact rfl
 | cons hb hc h ih=>exact⟨_,kh G hb,(bA hc G).td rfl false rfl,ih⟩
theorem Hw(G:aQ Φ X sc)(hp:PassesOwn (model X.prog X.w) X.A X.env X.xe)(h:Rf Φ sc ss ρ fl):dP X H0 ρ ss fl:=by
 refine Rf.rec (motive_1:=fun ss ρ fl _=>dP X H0 ρ ss fl) (motive_2:=fun s ρ fl _=>SD X H0 ρ s fl) (motive_3:=fun tg body ds ρ fl _=>uk X H0 tg body ds ρ fl) ?_ ?_ ?_ ?_ ?_ ?_ ?_ ?_ ?_ ?_ ?_ ?_ ?_ ?_ ?_ ?_ h
 ·intro ss ρ fl h;exact mn _ h G hp
 ·intro n ss ρ ρ1 fl h k ih;rw[<- List.take_append_drop n ss];exact m8 G hp h ih
 ·intro s ss ρ ρ1 fl h k i1 i2;exact dS i1 i2
 ·intro s ss ρ r h ih;exact iz ih fun _ z=>nomatch z
 ·intro ss ρ fl k ih;exact A4 ih
 ·intro x e px q ρ d h hx hc;exact hX G hx (zz G h) (.inl ⟨rfl,rfl⟩) (eg hc)
 ·intro x e px q ρ d h hx;exact hX G hx (zx G h).1 (.inr ⟨rfl,rfl⟩) (eg (zx G h).2)
 ·intro x m M i e p1 p2 ap cp p4 ρ dt l l' d j k ki hM hx hi hs hat h hn hln hm
  obtain⟨l7,h7,p7⟩:=h
  obtain⟨hst,_⟩:=bQ h7 p7
  obtain⟨o,hm,hp⟩:=hm
  exact Bf G.calm (G.mtt m M hM) hx ((bA hi G).ed rfl) hs hat (eV [_] h7 p7 G) (hst e List.mem_cons_self) hn hln hm hp
 ·intro x e i m p1 p2 p3 pos ρ Ls l j jm v n nm k k1 k2 hx h hi hm hn h1 h2 h3 hd hs hsl;exact Ba hx ((bA h G).ed rfl) ((bA hi G).ed rfl) ((bA hm G).ed rfl) hn h1 h2 h3 hd hs hsl
 ·intro e q ρ d h;exact v4 (zz G h) (.inl rfl)
 ·intro c a b pos ρ t k fl hc h ih
  refine uD ((bA hc G).td rfl t rfl) ?_
  cases t with
  | true=>rw[if_pos rfl];exact ih
  | false=>rw[if_neg Bool.false_ne_true];exact ih
 ·intro tg it body pos ρ d ds k fl hi hd hk ht h ih
  obtain⟨l,h1,h2⟩:=hi
  exact tz hp G.calm ((bA ⟨l,h1,h2⟩ G).ie rfl _ ds hd ht) hk ih (gD h1)
 ·intro tg it c a pos q ρ ρ' d ds k hi hd hl ht h
  obtain⟨l,h1,h2⟩:=hi
  exact Bg hp G.calm ((bA ⟨l,h1,h2⟩ G).ie rfl _ ds hd ht) hl (Hv G h) (gD h1)
 ·intro tg body ρ;exact rfl
 ·intro tg body d ds ρ ρ1 ρ2 fl hb h k i1 i2;exact⟨_,kh G hb,.inl ⟨_,i1,i2⟩⟩
 ·intro tg body d ds ρ ρ1 r hb h ih;exact⟨_,kh G hb,.inr ⟨_,rfl,ih⟩⟩
def zd(ds:List D):R1 :=
 match ds with
 | [.int a,.int b]=>.ok (.int (if b<a then b else a),0) []
 | _=>.st
theorem CP:dg "min" zd:=by
 refine⟨by decide +kernel,by decide +kernel,by decide +kernel,rfl,fun X ds z l o hc h _=>.inl ⟨"min", by decide +kernel,?_⟩⟩
 unfold zd at h
 split at h
 ·rename_i a b
  cases h
  refine⟨_,xj hc,fun ow H0 H2 vs P Q o s rx q=>?_⟩
  rw[af]at rx
  obtain⟨v,r,rfl,r1,r2⟩:=rx
  obtain⟨w,rfl,r3⟩:=r2.only
  rw[ag]at r1 r3
  subst r1 r3
  exact⟨a,b,rfl,q _ _ (av.refl _) (by rw[ag])⟩
 ·cases h
variable{X:Cx}
def vj(ds:List D):R1 :=
 match ds with
 | [.str x]=>.ok (.int x.length,0) [x.length<=1048576]
 | ds=>zf ds
theorem ze:dg "len" vj:=by
 refine⟨by decide +kernel,by decide +kernel,by decide +kernel,rfl,fun X ds z l o hc h hp=>?_⟩
 unfold vj at h
 split at h
 ·rename_i x
  refine .inl ⟨"len", by decide +kernel,?_⟩
  cases h
  refine⟨_,rO,fun ow H0 H2 vs P Q o s rx q=>?_⟩
  obtain⟨v,rfl,ry⟩:=rx.only
  rw[ag]at ry;subst ry
  exact⟨x,rfl,by rw[sizeLine_eq];have:=hp.1;omega,q _ _ (av.refl _) (by rw[ag])⟩
 ·exact CQ.2.2.2.2 X _ z l o hc h hp
def kA(ds:List D):R1 :=
 match ds with
 | [.str x]=>(match intText? x with|some n=>.ok (.int n,0) [x.length<=640]|none=>.st)
 | ds=>zi ds
theorem xl:cK X (.type "int") (fun xs H Q => ∃x n,xs=[.str x]/\intText? x=some n/\x.length<=640/\Q (.int n) H):=by
 intro pins s σ H xs us Q I r h
 obtain⟨x,n,rfl,h1,h2,q⟩:=h
 obtain⟨u,rfl,t,rfl⟩:=cy r
 exact W.KIN.call_text h1 h2 ⟨.int n,H,I.tok _,⟨_,rfl⟩,q⟩
theorem zh:dg "int" kA:=by
 refine⟨by decide +kernel,by decide +kernel,by decide +kernel,rfl,fun X ds z l o hc h hp=>?_⟩
 unfold kA at h
 split at h
 ·rename_i x
  split at h
  ·rename_i n e
   refine .inr ⟨"int", by decide +kernel,?_⟩
   cases h
   refine⟨_,xl,fun ow H0 H2 vs P Q o s rx q=>?_⟩
   obtain⟨v,rfl,ry⟩:=rx.only
   rw[ag]at ry;subst ry
   exact⟨x,n,rfl,e,hp.1,q _ _ (av.refl _) (by rw[ag])⟩
  ·cases h
 ·exact CT.2.2.2.2 X _ z l o hc h hp
theorem Du:Ay X (fun x lo hi H Q => ∃y,x=.str y/\y.length<=sizeLine/\Q (.str (Txt.slice y lo hi)) H):=by
 intro pins s σ H x v vl vu lo hi sl Q I rx hs pl pu h
 obtain⟨y,rfl,hy,q⟩:=h
 obtain⟨t,rfl⟩:=rx
 refine⟨"str", "str.__getitem__", PySem.F.slot_str_getitem.lookup,typeIs_str s y t,?_⟩
 obtain⟨l,hl,el⟩:∃l:Option (Int×Tok),partValue l=vl/\l.map (·.1)=lo:=by
  cases pl with
  | none=>exact⟨none,rfl,rfl⟩
  | int i t=>exact⟨some (i,t),rfl,rfl⟩
 obtain⟨m,hm,em⟩:∃l:Option (Int×Tok),partValue l=vu/\l.map (·.1)=hi:=by
  cases pu with
  | none=>exact⟨none,rfl,rfl⟩
  | int i t=>exact⟨some (i,t),rfl,rfl⟩
 obtain⟨o,h1,h2,h3⟩:=hs
 refine wpAny_getItem_str_slice (l:=l) (u:=m) (st:=none) ⟨o,h1,h2,by rw[h3,hl,hm];rfl⟩ rfl ?_
 subst el em
 exact post_val_or_str ⟨Nat.le_trans (Txt.slice_le y (l.map (·.1)) (m.map (·.1))) hy,fun t' k=>⟨.str (Txt.slice y (l.map (·.1)) (m.map (·.1))),H,I.tok _,⟨t',rfl⟩,q⟩⟩
def bh(x:D)(lo hi:Option Int):R1 :=
 match x with
 | .str y=>.ok (.str (Txt.slice y lo hi),0) [y.length<=1048576]
 | x=>pX x lo hi
theorem aI:mO bh:=fun X ρ a lo hi p2 pos x z l h k j o ha hl hh e hp=>by
 unfold bh at e
 split at e
 ·rename_i y
  cases e
  refine fun ow=>bg (iE Du (ha ow) (hl ow) (hh ow)) fun σ H Q ⟨E,q⟩=>⟨E,fun v H1 s1 r1=>⟨E.same s1,fun H2 s2=>⟨(E.same s1).same s2,fun H3 s3=>?_⟩⟩⟩
  rw[ag]at r1;subst r1
  exact⟨y,rfl,by rw[sizeLine_eq];have:=hp.1;omega,q _ H3 (s1.trans (s2.trans s3)) (by rw[ag])⟩
 ·exact yP ha hl hh e hp
theorem vY{prog:Program}{w:World}{A:Around}{E:Value->Shared->Prop}{s:Shared}{y:Str}{t u:Tok}(hy:(y.length==0)=false)(hsz:x.length+2<=sizeLine)
  (h:∀(l:List (Str×Tok)) (k:Nat),l.map (·.1)=Txt.split x y->Q (.ref s.heap.objs.size) { s with heap:=s.heap.push { cls:=.type "list", data:=.seq (strValues l).toArray },toks:=k }) :
  wpAny (model prog w) A (call (.builtin "str.split") [.str x t,.str y u]) Q E s:=by
 have e1:=(fact_split x y).2
 cases h1:(decide (x.length<y.length) || decide (Builtin.Str.strKind x<Builtin.Str.strKind y))with
 | true=>exact call_meets PySem.F.slot_str_split (typeIs_str s x t) PySem.F.entry_str_split (PySem.F.args_str_split_2 _ _) (meets_str_split_cannot_occur x y t u h1) (h [(x,t)] s.toks (by unfold Txt.split;rw[if_pos h1];rfl))
 | false =>
  cases hf:(Builtin.Str.occurrences x y 0 x.length (x.length+1)).isEmpty with
  | true=>exact call_meets PySem.F.slot_str_split (typeIs_str s x t) PySem.F.entry_str_split (PySem.F.args_str_split_2 _ _) (meets_str_split_not_found x y t u h1 hy hf) (h [(x,t)] s.toks (by unfold Txt.split;rw[if_neg (by rw[h1];decide),if_pos hf];rfl))
  | false =>
   have es:Txt.split x y=Builtin.Str.partsBetween x (Builtin.Str.occurrences x y 0 x.length (x.length+1)) y.length:=by unfold Txt.split;rw[if_neg (by rw[h1];decide),if_neg (by rw[hf];decide)]
   rw[es]at e1 h
   refine call_meets PySem.F.slot_str_split (typeIs_str s x t) PySem.F.entry_str_split (PySem.F.args_str_split_2 _ _) (meets_str_split_sep x y t u h1 hy hf (by omega) (by omega)) ?_
   rw[strsFrom_eq]
   exact h _ _ (numbered_texts _ _)
theorem ou:∀l:List (Str×Tok),aG (l.map fun p=>V.str p.1) (strValues l)
 | []=>.nil
 | p::l=>.cons ⟨p.2,rfl⟩ (ou l)
theorem qh{K:W.Frag}{P:aZ}{H:Hp}:∀ys:List Str,af K H P (ys.map D.str) (ys.map V.str)
 | []=>af.nil
 | y::ys=>af.cons (by rw[ag]) (qh ys)
theorem yj:uh X "str.split" (fun x xs H Q => ∃a b,x=.str a/\xs=[.str b]/\(b.length==0)=false/\a.length+2<=sizeLine/\∀p,H p=none->Q (.ref p) (aO H p (.lst ((Txt.split a b).map V.str)))):=by
 intro pins s σ H x xs v us Q I rx rxs h
 obtain⟨a,b,rfl,rfl,h1,h2,q⟩:=h
 obtain⟨t,rfl⟩:=rx
 obtain⟨u,rfl,t',rfl⟩:=cy rxs
 refine vY h1 h2 fun l k hl=>?_
 have hz:l.length<=sizeLine:=by
  have e:=(fact_split a b).2
  have:=congrArg List.length hl
  rw[List.length_map]at this
  omega
 refine⟨.ref s.heap.objs.size,_,I.laid (t':=k) (o:=.lst ((Txt.split a b).map V.str)) (fun b ob q=>Heap.get?_push_of_some _ q) (Nat.le_refl _) ?_,rfl,q _ (I.hok.fresh (Nat.le_refl _))⟩
 rw[<- hl,List.map_map]
 exact⟨by rw[List.length_map];exact hz,strValues l,0,ou l,Heap.get?_push_size _ rfl⟩
def lS(x:D)(ds:List D):R1 :=
 match x,ds with
 | .str a,[.str b]=>.ok (.lst ((Txt.split a b).map D.str),0) [(b.length==0)=false,a.length<=1048576]
 | _,_=>.st
theorem wp:kD "split" lS:=by
 intro X ρ a args ap cp x k ds j z l o hc hroom hea hes hst hlen hline hb h hp
 unfold lS at h
 split at h
 ·rename_i y b
  cases h
  obtain⟨e,rfl⟩:∃e,args=[e]:=by
   match args,hlen with
   | [e],_=>exact⟨e,rfl⟩
  intro ow
  refine bg (lN PySem.F.plainAttrs_str PySem.F.slot_str_split PySem.F.type_str_split yj (hea ow) (hes ow) (dG hb) (ik hst (show 1<29 by decide)) hline (aM (hst e List.mem_cons_self)) rfl) fun σ H Q ⟨E,q⟩=>⟨E,fun v H1 s1 r1=>?_⟩
  rw[ag]at r1;subst r1
  refine⟨rfl,E.same s1,fun vs H2 s2 r2=>?_⟩
  obtain⟨v,rfl,r3⟩:=r2.only
  rw[ag]at r3;subst r3
  refine⟨y,b,rfl,rfl,hp.1,by rw[sizeLine_eq];have:=hp.2.1;omega,fun p hp'=>q _ _ ((s1.trans s2).trans (cj hp')) ?_⟩
  rw[ag]
  exact⟨p,_,true,rfl,aD,⟨rfl,(s1.trans s2).free hp'⟩,qh _⟩
 ·cases h
theorem HS:uh X "str.startswith" (fun x xs H Q => ∃a b,x=.str a/\xs=[.str b]/\Q (.bl (Txt.startswith a b)) H):=by
 intro pins s σ H x xs v us Q I rx rxs h
 obtain⟨a,b,rfl,rfl,q⟩:=h
 obtain⟨t,rfl⟩:=rx
 obtain⟨u,rfl,t',rfl⟩:=cy rxs
 exact SC.startswith ⟨.bl _,H,I,rfl,q⟩
def EU(x:D)(ds:List D):R1 :=
 match x,ds with
 | .str a,[.str b]=>.ok (.bl (Txt.startswith a b),0) []
 | _,_=>.st
theorem ET:kD "startswith" EU:=by
 intro X ρ a args ap cp x k ds j z l o hc hroom hea hes hst hlen hline hb h hp
 unfold EU at h
 split at h
 ·rename_i y b
  cases h
  obtain⟨e,rfl⟩:∃e,args=[e]:=by
   match args,hlen with
   | [e],_=>exact⟨e,rfl⟩
  intro ow
  refine bg (lN PySem.F.plainAttrs_str PySem.F.slot_str_startswith PySem.F.type_str_startswith HS (hea ow) (hes ow) (dG hb) (ik hst (show 1<29 by decide)) hline (aM (hst e List.mem_cons_self)) rfl) fun σ H Q ⟨E,q⟩=>⟨E,fun v H1 s1 r1=>?_⟩
  rw[ag]at r1;subst r1
  refine⟨rfl,E.same s1,fun vs H2 s2 r2=>?_⟩
  obtain⟨v,rfl,r3⟩:=r2.only
  rw[ag]at r3;subst r3
  exact⟨y,b,rfl,rfl,q _ _ (s1.trans s2) (by rw[ag])⟩
 ·cases h
end Sp
namespace K
open PySem L2 Sp Qm
variable{l:List Nat}{B c m:Nat}{i k:Int}{q:Qd}
abbrev sN(l:List Nat):Str:=⟨l.toArray⟩
theorem hW(x:Str):x=sN x.cps.toList:=by cases x;simp[sN]
theorem jA(s:String):Str.ofString s=sN (s.toList.map Char.toNat):=by rw[hW (Str.ofString s),PyProof.Rows.signs_ofString]
theorem ck(l:List Nat):(sN l).length=l.length:=by show l.toArray.size=_;simp
theorem fB(l m:List Nat):sN l++sN m=sN (l++m):=by show(⟨l.toArray++m.toArray⟩:Str)=_;simp
theorem qd{m:List Nat}(h:sN l=sN m):l=m:=by
 have:=congrArg (fun x:Str=>x.cps.toList) h
 simpa using this
theorem fA(l:List Nat):(sN l).cps.toList=l:=by simp
def cC(m:Nat):List Nat:=(Nat.toDigits 10 m).map Char.toNat
def bD(i:Int):List Nat:=if i<0 then 45::cC i.natAbs else cC i.natAbs
theorem vJ(m:Nat):Str.ofString (toString (m:Int))=sN (cC m):=by rw[hW (Str.ofString _),W.KIN.signs_num];rfl
theorem Hg(i:Int):Str.ofString (toString i)=sN (bD i):=by
 unfold bD
 by_cases h:i<0
 ·have e:(0-i)=((i.natAbs:Nat):Int):=by omega
  rw[if_pos h,PyProof.Rows.toString_neg h,e,jA,String.toList_append,List.map_append,<- fB]
  have h2:=vJ i.natAbs
  rw[jA]at h2
  rw[h2,fB]
  rfl
 ·have e:i=((i.natAbs:Nat):Int):=by omega
  rw[if_neg h]
  conv=>lhs;rw[e]
  exact vJ _
theorem fD(m:Nat):∀c∈cC m,48<=c/\c<=57:=by
 intro c hc
 obtain⟨d,hd,rfl⟩:=List.mem_map.mp hc
 have:=Nat.isDigit_of_mem_toDigits (by decide) (by decide) hd
 simp only[Char.isDigit,Bool.and_eq_true,decide_eq_true_eq]at this
 obtain⟨h1,h2⟩:=this
 exact⟨UInt32.le_iff_toNat_le.mp h1,UInt32.le_iff_toNat_le.mp h2⟩
theorem mE(m:Nat):NumText.digitsVal (cC m)=m:=W.KIN.val_back m
theorem ve(m:Nat):cC m≠[]:=by
 intro z
 have:=(PyProof.Rows.digitsFacts10 m).ge1
 have e:=congrArg List.length z
 unfold cC at e
 rw[List.length_map]at e
 simp at e
 try omega
theorem rE{k:Nat}(h1:1<=k)(h:m<10 ^ k):(cC m).length<=k:=by unfold cC;rw[List.length_map];exact PyProof.Rows.digits10_le h1 h
theorem se(h:c<=57):(Char.ofNat c).toNat=c:=by
 have hv:c.isValidChar:=.inl (by omega)
 unfold Char.ofNat
 rw[dif_pos hv]
 first|done|rfl
theorem oN:∀{l:List Nat} {c:Nat} {r:List Nat},l.dropWhile (fun x=>x==48)=c::r->c≠48
 | [],c,r,h=>by cases h
 | a::l,c,r,h=>by
  rw[List.dropWhile_cons]at h
  split at h
  ·exact oN h
  ·rename_i hn
   cases h
   intro z;subst z;exact hn rfl
theorem CC(m:Nat):cC m=[48]\/∃c r,cC m=c::r/\c≠48:=by
 have h:=NumText.toDigits_all (cC m) (fD m)
 rw[mE]at h
 cases e:(cC m).dropWhile (fun x=>x==48)with
 | nil =>
  rw[e]at h
  left
  unfold cC
  rw[h];rfl
 | cons c r =>
  rw[e]at h
  right
  have hc:=oN e
  have hm:∀x∈c::r,x<=57:=fun x hx=>(fD m x ((List.dropWhile_sublist (fun x=>x==48)).subset (by rw[e];exact hx))).2
  refine⟨c,r,?_,hc⟩
  show(Nat.toDigits 10 m).map Char.toNat=_
  rw[h]
  show List.map Char.toNat (List.map Char.ofNat (c::r))=c::r
  rw[List.map_map]
  conv=>rhs;rw[<- List.map_id (c::r)]
  exact List.map_congr_left fun x hx=>se (hm x hx)
theorem sT(i:Int):∀c∈bD i,c=45\/48<=c/\c<=57:=by
 intro c hc
 unfold bD at hc
 split at hc
 ·rcases List.mem_cons.mp hc with z|z
  ·exact .inl z
  ·exact .inr (fD _ c z)
 ·exact .inr (fD _ c hc)
def jn:List (List Nat)->List Nat
 | []=>[]
 | a::l=>a++l.flatMap fun p=>32::p
theorem Ca(ws:List (List Nat)):Txt.join (sN [32]) (ws.map sN)=sN (jn ws):=by
 have key:∀(ws:List (List Nat)) (acc:Array Nat),List.foldl (fun(acc:Array Nat) (p:Str)=>acc++(sN [32]).cps++p.cps) acc (ws.map sN)=(acc.toList++ws.flatMap fun p=>32::p).toArray:=by
  intro ws
  induction ws with
  | nil=>intro acc;simp
  | cons w ws ih =>
   intro acc
   rw[List.map_cons,List.foldl_cons,ih,List.flatMap_cons]
   simp
 show(⟨List.foldl _ ((ws.map sN).headD Str.empty).cps ((ws.map sN).drop 1)⟩:Str)=_
 cases ws with
 | nil=>rfl
 | cons w ws =>
  show(⟨List.foldl (fun(acc:Array Nat) (p:Str)=>acc++(sN [32]).cps++p.cps) (sN w).cps (ws.map sN)⟩:Str)=_
  rw[key]
  show sN ((sN w).cps.toList++_)=_
  rw[fA];rfl
theorem tX:∀(ws:List (List Nat)),Str.join (sN [32]) (ws.map sN)=sN (jn ws)
 | []=>rfl
 | [w]=>by show sN w=sN (w++[]);rw[List.append_nil]
 | w::v::ws=>by
  show sN w++sN [32]++Str.join (sN [32]) ((v::ws).map sN)=_
  rw[tX (v::ws),fB,fB]
  simp[jn]
def dD(w:List Nat):Prop:=32∉w
theorem zD{a:List Nat}{l:List (List Nat)}(h:dD a):(jn (a::l)).takeWhile (fun c=>c != 32)=a/\(jn (a::l)).dropWhile (fun c=>c != 32)=l.flatMap fun p=>32::p:=by
 unfold jn
 have ha:∀c∈a,(c != 32)=true:=fun c hc=>by
  have:c≠32:=fun z=>h (z ▸ hc)
  simpa using this
 cases l with
 | nil =>
  refine⟨?_,?_⟩
  ·show List.takeWhile _ (a++[])=a
   rw[List.takeWhile_append_of_pos ha];simp
  ·show List.dropWhile _ (a++[])=[]
   rw[List.dropWhile_append_of_pos ha];rfl
 | cons b l =>
  show List.takeWhile _ (a++List.flatMap _ (b::l))=a/\List.dropWhile _ (a++List.flatMap _ (b::l))=_
  rw[List.takeWhile_append_of_pos ha,List.dropWhile_append_of_pos ha,List.flatMap_cons]
  refine⟨?_,?_⟩
  ·show a++List.takeWhile _ (32::(b++_))=a
   rw[List.takeWhile_cons_of_neg (by decide),List.append_nil]
  ·show List.dropWhile _ (32::(b++_))=_
   rw[List.dropWhile_cons_of_neg (by decide)];rfl
theorem wC:∀{l m:List (List Nat)},l≠[]->m≠[]->(∀w∈l,dD w)->(∀w∈m,dD w)->jn l=jn m->l=m
 | [],m,h,_,_,_,_=>absurd rfl h
 | a::l,[],_,h,_,_,_=>absurd rfl h
 | a::l,b::m,_,_,hl,hm,e=>by
  obtain⟨a1,a2⟩:=zD (l:=l) (hl a List.mem_cons_self)
  obtain⟨b1,b2⟩:=zD (l:=m) (hm b List.mem_cons_self)
  rw[e]at a1 a2
  rw[b1]at a1
  rw[b2]at a2
  subst a1
  cases l with
  | nil =>
   cases m with
   | nil=>rfl
   | cons v m=>rw[List.flatMap_nil,List.flatMap_cons]at a2;cases a2
  | cons u l =>
   cases m with
   | nil=>rw[List.flatMap_nil,List.flatMap_cons]at a2;cases a2
   | cons v m =>
    rw[List.flatMap_cons,List.flatMap_cons]at a2
    have e2:jn (v::m)=jn (u::l):=by
     have:=congrArg List.tail a2
     exact this
    rw[wC (by simp) (by simp) (fun w hw=>hl w (List.mem_cons_of_mem _ hw)) (fun w hw=>hm w (List.mem_cons_of_mem _ hw)) e2.symm]
theorem pU{ws:List (List Nat)}(h0:ws≠[])(h:∀w∈ws,dD w):Txt.split (sN (jn ws)) (sN [32])=ws.map sN:=by
 have hc:=PyProof.Rows.split_closes (sN (jn ws)) 32
 rw[Bool.and_eq_true]at hc
 obtain⟨h1,h2⟩:=hc
 have h1:Str.join (sN [32]) (Txt.split (sN (jn ws)) (sN [32]))=sN (jn ws):=by simpa using h1
 have hl:=(PyProof.Rows.fact_split (sN (jn ws)) (sN [32])).1
 generalize hP:Txt.split (sN (jn ws)) (sN [32])=ps at *
 obtain⟨qs,rfl⟩:∃qs:List (List Nat),ps=qs.map sN:=⟨ps.map fun p=>p.cps.toList,by
  rw[List.map_map]
  conv=>lhs;rw[<- List.map_id ps]
  exact List.map_congr_left fun p _=>hW p⟩
 rw[tX]at h1
 have h1:=qd h1
 have hq:∀w∈qs,dD w:=fun w hw z=>by
  have:=List.all_eq_true.mp h2 (sN w) (List.mem_map.mpr ⟨w,hw,rfl⟩)
  rw[PyProof.Rows.countIn_signs_decide,fA,decide_eq_true z]at this
  cases this
 rw[wC (fun z=>by subst z;simp at hl) h0 hq h h1]
theorem IZ(l:List Nat)(c:Nat):Txt.startswith (sN l) (sN [c])=decide (l.head?=some c):=by
 unfold Txt.startswith Builtin.Str.subAt
 rw[ck,ck]
 cases l with
 | nil=>rfl
 | cons a l =>
  have e:((a::l).toArray.extract 0 (0+[c].length)==[c].toArray)=decide (a=c):=by
   rw[List.extract_toArray,Bool.eq_iff_iff]
   simp
  show(decide (0+[c].length<=(a::l).length)&&((a::l).toArray.extract 0 (0+[c].length)==[c].toArray))=_
  rw[e,decide_eq_true (by simp),Bool.true_and]
  simp
theorem IG(c:Nat)(l:List Nat):Txt.slice (sN (c::l)) (some 1) none=sN l:=by
 have hl:(sN (c::l)).length=l.length+1:=by rw[ck];simp
 have:=PyProof.Rows.slice_from_eq (x:=sN (c::l)) (i:=1) (b:=l.length+1) (by decide) (by rw[hl];omega) (by rw[hl];omega)
 rw[fA]at this
 rw[this]
 show sN _=sN _
 congr 1
 rw[show((l.length:Int)+1-1).toNat=l.length by omega]
 simp
def vd:Str:=Str.ofString "0123456789"
theorem FK(h1:48<=c)(h2:c<=57):Txt.contains vd (sN [c])=true:=by
 have:c=48\/c=49\/c=50\/c=51\/c=52\/c=53\/c=54\/c=55\/c=56\/c=57:=by omega
 rcases this with rfl|rfl|rfl|rfl|rfl|rfl|rfl|rfl|rfl|rfl<;>decide +kernel
theorem wI(h:(bD i).length<=640):intText? (sN (bD i))=some i:=by
 unfold bD at h⊢
 by_cases hi:i<0
 ·rw[if_pos hi]at h⊢
  rw[intText_neg (cs:=cC i.natAbs) (fA _) (fD _) (ve _) (by rw[ck];omega),mE]
  congr 1;omega
 ·rw[if_neg hi]at h⊢
  rw[intText_digits (by rw[fA];exact fD _) (by rw[fA];exact ve _) (by rw[ck];omega),fA,mE]
  congr 1;omega
theorem ph(h:∀c∈l,c<128):PyData.strOk (sN l)=true:=by
 unfold PyData.strOk
 rw[Array.all_eq_true']
 intro c hc
 have:=h c (by simpa using hc)
 exact decide_eq_true (by omega)
theorem GZ(h:∀c∈l,c<128):((sN l).cps.all fun c=>decide (c<128))=true:=by
 rw[Array.all_eq_true']
 intro c hc
 exact decide_eq_true (h c (by simpa using hc))
theorem DD(l:List Nat):Sp.sgs (sN l)=l.map fun c=>D.str (sN [c]):=by unfold Sp.sgs;rw[fA]
theorem gk(x y:Str):eqD (.str x) (.str y)=decide (x=y):=by
 show((x==y):Bool)=_
 by_cases h:x=y
 ·subst h;simp
 ·rw[decide_eq_false h];simpa using h
theorem hV(h:i.natAbs<10 ^ 40):(bD i).length<=41:=by
 unfold bD
 have:=rE (m:=i.natAbs) (k:=40) (by decide) h
 split
 ·rw[List.length_cons];omega
 ·omega
theorem IS(l:List Nat):ab (oa [.lst (l.map fun _=>D.bl true)]) (.bl true,0):=by
 have e:∀l:List Nat,cD (l.map fun _=>D.bl true)=some (l.map fun _=>true):=fun l=>by
  induction l with
  | nil=>rfl
  | cons b bs ih=>rw[List.map_cons,cD,ih];rfl
 have z:(l.map fun _=>true).all id=true:=List.all_eq_true.mpr fun x hx=>by
  obtain⟨_,_,rfl⟩:=List.mem_map.mp hx;rfl
 unfold oa;dsimp only;rw[e]
 have h:ab (Rs.ok (D.bl ((l.map fun _=>true).all id),0) []:R1) (D.bl ((l.map fun _=>true).all id),0):=cu
 rw[z]at h
 dsimp only
 rw[z]
 exact h
def ND:Stmt->Expr
 | .If (.BoolOp _ (e::_) _) _ _ _=>e
 | _=>.Constant .none 0 ⟨0,0,0,0⟩
def NF:Stmt->Expr
 | .Assign _ e _=>e
 | _=>.Constant .none 0 ⟨0,0,0,0⟩
theorem rn{Φ:Fx}{sc:Scope}{ρ:ae}{a:Expr}{m:Str}{ap cp:Pos}{args:List Expr}{it:Bool}{y:Str}{ds:List D}{k j:Nat}{M:D->List D->R1}{r:D×Nat}(ha:ab (au Φ a false sc ρ) (.str y,k))(hs:ab (bK Φ args sc ρ) (ds,j))(hM:ab (M (.str y) ds) r)(hm:Φ.mth m=some M:=by rfl)(hp:(ap.endLine==cp.line)=true:=by rfl)(hb:e6 a=true:=by rfl):ab (au Φ (.Call (.Attribute a m ap) args [] cp) it sc ρ) r:=by
 rw[iT,if_pos hp]
 refine ha.bnd (hs.bnd ?_)
 show ab (if e6 a=true then(match Φ.mth m with|some M=>M (.str y) ds|none=>.st)else .st) r
 rw[if_pos hb,hm]
 exact hM
theorem C4(i:Int):(if i<0 then -i else i)=((i.natAbs:Nat):Int):=by split<;>omega
theorem EW{n:Nat}(h:n<10 ^ 40):n<2 ^ 1900:=Nat.lt_trans h (Nat.lt_of_lt_of_le (show 10 ^ 40<2 ^ 200 by decide) (Nat.pow_le_pow_right (by decide) (by decide)))
theorem pO(i:Int):(bD i).head?=some 45↔i<0:=by
 unfold bD
 split
 ·rename_i h;simp[h]
 ·rename_i h
  constructor
  ·intro e
   exfalso
   have hm:45∈cC i.natAbs:=List.mem_of_mem_head? e
   have:=fD _ 45 hm
   omega
  ·intro z;exact absurd z h
theorem AW(i:Int):sN (bD i)≠Str.ofString "-0" := by
 intro e
 rw[jA]at e
 have e:bD i=[45,48]:=qd e
 have hi:=(pO i).mp (by rw[e];rfl)
 unfold bD at e
 rw[if_pos hi]at e
 have e2:cC i.natAbs=[48]:=by injection e
 have:=mE i.natAbs
 rw[e2]at this
 have z:NumText.digitsVal [48]=0:=rfl
 rw[z]at this
 omega
theorem vK(i:Int):∀c∈bD i,c<128:=fun c hc=>by rcases sT i c hc with z|z<;>omega
def tq(q:Qd):T9:=⟨n4 q.1 q.2.1 q.2.2.1 q.2.2.2,vU q.1 q.2.1 q.2.2.1 q.2.2.2,tf q.1 q.2.1 q.2.2.1 q.2.2.2,sZ q.1 q.2.1 q.2.2.1 q.2.2.2,sY q.1 q.2.1 q.2.2.1 q.2.2.2,vT q.1 q.2.1 q.2.2.1 q.2.2.2,sX q.1 q.2.1 q.2.2.1 q.2.2.2,sW q.1 q.2.1 q.2.2.1 q.2.2.2,sV q.1 q.2.1 q.2.2.1 q.2.2.2,vS q.1 q.2.1 q.2.2.1 q.2.2.2⟩
def kq(k:Int)(q:Qd):Qd:=(k*q.1,k*q.2.1,k*q.2.2.1,k*q.2.2.2)
def Ja(q:Qd):Prop:=¬ (q.1=0/\q.2.1=0/\q.2.2.1=0/\q.2.2.2=0)
def T9.dx(T:T9)(x y z:Int):Int:=NC T.a T.b T.c x y z
abbrev V3:=Int×Int×Int
abbrev dv(v:V3):D:=d3 v.1 v.2.1 v.2.2
def pr(p:Nat)(v:V3):Int:=match p with
 | 0=>v.1
 | 1=>v.2.1
 | _=>v.2.2
def kQ(B:Nat)(v:V3):Prop:=∀p,(pr p v).natAbs<=2 ^ B
theorem kQ.all{v:V3}(h:kQ B v):v.1.natAbs<=2 ^ B/\v.2.1.natAbs<=2 ^ B/\v.2.2.natAbs<=2 ^ B:=⟨h 0,h 1,h 2⟩
theorem rQ{v:V3}(h:v.1.natAbs<=2 ^ B/\v.2.1.natAbs<=2 ^ B/\v.2.2.natAbs<=2 ^ B):kQ B v:=fun p=>by
 unfold pr;split
 ·exact h.1
 ·exact h.2.1
 ·exact h.2.2
theorem kQ.mono{C:Nat}{v:V3}(h:kQ B v)(g:B<=C):kQ C v:=fun p=>Nat.le_trans (h p) (Nat.pow_le_pow_right (by decide) g)

abbrev Az(q:Qd):Prop:=Pm q.1 q.2.1 q.2.2.1 q.2.2.2
theorem Ff(hq:Ja q)(h:gA (2 ^ m) (kq k q)):k.natAbs<=2 ^ m:=by
 obtain⟨h1,h2,h3,h4⟩:=h
 have key:∀t:Int,t≠0->(k*t).natAbs<=2 ^ m->k.natAbs<=2 ^ m:=fun t t0 ht=>by
  rw[Int.natAbs_mul]at ht
  exact Nat.le_trans (Nat.le_mul_of_pos_right _ (by omega)) ht
 by_cases q1:q.1=0
 ·by_cases q2:q.2.1=0
  ·by_cases q3:q.2.2.1=0
   ·exact key _ (fun q4=>hq ⟨q1,q2,q3,q4⟩) h4
   ·exact key _ q3 h3
  ·exact key _ q2 h2
 ·exact key _ q1 h1
theorem Kx(hk:k≠0)(h:gA (2 ^ m) (kq k q)):gA (2 ^ m) q:=by
 obtain⟨h1,h2,h3,h4⟩:=h
 have key:∀t:Int,(k*t).natAbs<=2 ^ m->t.natAbs<=2 ^ m:=fun t ht=>by
  rw[Int.natAbs_mul]at ht
  exact Nat.le_trans (Nat.le_mul_of_pos_left _ (by omega)) ht
 exact⟨key _ h1,key _ h2,key _ h3,key _ h4⟩
theorem qP(hm:m<=999)(h:gA (2 ^ m) (kq k q)):okT (([k*q.1,k*q.2.1,k*q.2.2.1,k*q.2.2.2]:List Int).map D.int):=HC (m:=m) hm (by
 obtain⟨h1,h2,h3,h4⟩:=h
 intro t ht
 simp only[List.mem_cons,List.not_mem_nil,or_false]at ht
 rcases ht with rfl|rfl|rfl|rfl
 ·exact h1
 ·exact h2
 ·exact h3
 ·exact h4)
end K
namespace Sp
open PySem PySem.Spec PyProof.Rows L2
variable{Φ:Fx}{fs ps:List Str}{n x1 x2:Str}{e:Expr}{args:List Expr}
def L3:Stmt->Expr
 | .Assign _ e _=>e
 | _=>.Constant .none 0 ⟨0,0,0,0⟩
def wK(s:Stmt):List Expr:=match ak s with
 | [_,.Expr (.Call _ (_::args) _ _) _]=>args
 | _=>[]
def fN(Φ:Fx)(sc:Scope)(ps:List Str)(x1 x2:Str)(e:Expr)(args:List Expr)(n:Str)(fs:List Str)(ds:List D):Rs D :=
 if ds.length+1=ps.length then(au Φ e false sc (d0 ps (.obj n [] []::ds))).bnd fun p=>(match p.1 with
  | .tup [u,v]=>if ao [u,v]=true then(bK Φ args sc (bo (bo (d0 ps (.obj n [] []::ds)) x1 (u,false)) x2 (v,false))).bnd fun q=>if q.1.length=fs.length then .ok (.obj n fs q.1) [ao q.1=true,ej q.1=true]else .st else .st
  | _=>.st)else .st
theorem ue{α β:Type}{r:Rs α}{f:α->Rs β}{b:β}{l:List Prop}(h:r.bnd f=.ok b l):∃a m,f a=.ok b m:=by
 unfold Rs.bnd at h
 split at h
 ·cases h
 ·split at h
  ·cases h
  ·rename_i e;cases h;exact⟨_,_,e⟩
theorem sy{sc:Scope}:∀ds r l,fN Φ sc ps x1 x2 e args n fs ds=.ok r l->r.lless=true:=fun ds r l h=>by
 unfold fN at h
 split at h
 ·obtain⟨a,m,h⟩:=ue h
  split at h
  ·split at h
   ·obtain⟨b,m',h⟩:=ue h
    split at h
    ·cases h;rfl
    ·cases h
   ·cases h
  ·cases h
 ·cases h
theorem yA{P:Program}{w:World}{K:W.Frag}{mg:Str->Option Value}{base:Heap}{k:Nat}{g qual:Str}{st:Stmt}{f f0:Addr}{fd fd0:FuncData}{ps0:List Str}{b s0:Str}{C0:Addr}{mc:Value}{pb p0 ap cp p4 q1 q2 tp p5:Pos}{tn:Nat}(Fn:jf K g qual st f fd)
  (S:aK (aw (aa st)) ps (aa st)) (hΦ:mV P w K mg base k Φ) (hF0:bF P w K mg base df k f0 fd0 ps0 (zS K fs)) (hb0:cf K fd0 ps0 []) (hk0:W.keepIn K (.ref f0)=true)
  (hgb:(aa st).names.lookup b=some .globalImplicit) (hm:mg b=some (.ref C0)) (hga:W.specialIn K (.ref C0) "__getattribute__" = some (some (.builtin "type.__getattribute__"))) (hrd:W.readsIn K C0 mc=true) (hfc:W.findCls K (.ref C0) mc "__init__" = some (.val (.ref f0)))
  (hbody:ak st=[.Assign [.Tuple [.Name x1 q1,.Name x2 q2] tn tp] e p5,.Expr (.Call (.Attribute (.Name b pb) "__init__" ap) (.Name s0 p0::args) [] cp) p4]) (hs0:ps[0]?=some s0) (hok:dz s0=true) (hdb:(b==("__debug__" : Str))=false) (hln:(ap.endLine==cp.line)=true) (hfew:args.length<28)
  (hl1:cA (aa st) x1=true) (hl2:cA (aa st) x2=true) (hn1:x1≠s0) (hn2:x2≠s0) (hsw:oy (aa st) [.Name x1 q1,.Name x2 q2] e=false)
  (hna:∀C,W.nsIn K mainGlobals n=some (some (.ref C))->∀x∈fs,aX K C x):bF P w K mg base df (k+1) f fd ps (oB K n (fN Φ (aa st) ps x1 x2 e args n fs)):=by
 refine Fn.ok S (fun vs H Q E h=>?_) (fun cdv A outer s H vs Q E hr h=>?_)
 ·obtain⟨x,ws,C,dx,ds,r,l,rfl,hx,hns,hc,r1,hF,_⟩:=h
  unfold fN at hF
  split at hF
  ·rename_i hl;rw[List.length_cons,<- r1.length];exact hl
  ·cases hF
 ·obtain⟨x,ws,C,dx,ds,r,l,rfl,hx,hns,hc,r1,hF,hp,hl,q⟩:=h
  have hF:ab (fN Φ (aa st) ps x1 x2 e args n fs ds) r:=⟨l,hF,hp⟩
  unfold fN at hF
  split at hF
  ·rename_i hlen
   obtain⟨pv,h1,hF⟩:=ar hF
   split at hF
   ·rename_i u v hpv
    split at hF
    ·rename_i hll
     obtain⟨qv,h2,hF⟩:=ar hF
     split at hF
     ·rename_i hfl
      obtain⟨l3,e3,p3⟩:=hF
      cases e3
      have G:=kg (outer:=outer) (H:=H) (E:=E) S hΦ hr
      have r0:af K H (fun _ _=>True) (.obj n [] []::ds) (.ref x::ws):=af.cons (by rw[ag];exact⟨rfl,rfl,x,C,dx,[],rfl,hns,hc,hx,af.nil⟩) r1
      obtain⟨E0,hsl⟩:=mC (P:=P) (w:=w) (mg:=mg) (base:=base) (qual:=qual) (f:=f) (cdv:=cdv) (A:=A) (outer:=outer) (s:=s) (E:=E) S r0 hlen
      have ed:=(bA h1 G).ed rfl
      obtain⟨l2,h2,pp2⟩:=h2
      obtain⟨hst,hal⟩:=bQ h2 pp2
      have ad:=eV args h2 pp2 G
      have hi0:(aw (aa st))[0]?=some s0:=by
       have hp0:=(List.getElem?_eq_some_iff.mp hs0).1
       have hs1:=hs0
       rw[<- S.pre,List.getElem?_take_of_lt hp0]at hs1
       exact hs1
      have hv0:eM (aa st) s0:=by
       rcases S.par s0 (List.mem_of_getElem? hs0)with z|z
       ·exact .inl z
       ·exact .inr (.inl z)
      have hst':∀e∈Expr.Name s0 p0::args,∀y p,e ≠ .Starred y p:=fun e he=>by
       rcases List.mem_cons.mp he with rfl|he
       ·intro _ _ z;cases z
       ·exact hst e he
      obtain⟨g1,g2,g3,i1,g4⟩:=dU G hl1
      obtain⟨k1,k2,k3,i2,k4⟩:=dU G hl2
      have ne1:i1≠0:=fun z=>by rw[z]at g4;exact hn1 (Option.some.inj (g4.symm.trans hi0))
      have ne2:i2≠0:=fun z=>by rw[z]at k4;exact hn2 (Option.some.inj (k4.symm.trans hi0))
      rw[hbody]
      refine⟨_,fb (fY (ed (fun _=>none)) (lL (n:=2) G.calm (fZ (fc (i:=i1) G.nd g4 g1 g3) (fZ (fc (i:=i2) G.nd k4 k1 k3) ny rfl) rfl) rfl rfl) fz (jY G hsw) rfl) (nu (fQ (qu (G.gl b hgb) hm hga hrd hfc hk0 hF0 hr hb0 gy (nA (eR (i:=0) hi0 hv0 (cq hok).1 (cq hok).2) (ad (fun _=>none)) (aM fun _ _ z=>by cases z)) (aM fun _ _ z=>by cases z) (bC hst) hdb (u8 (dG rfl) (ik hst' (by rw[List.length_cons];omega)) hln)) rfl)),?_⟩
      refine⟨E0,fun vv H1 s1 rv=>?_⟩
      rw[hpv]at rv
      obtain⟨a,vs',rfl,hs,rl⟩:=eh rv
      rw[af]at rl
      obtain⟨va,vr,rfl,ra,rl⟩:=rl
      rw[af]at rl
      obtain⟨vb,vr',rfl,rb,rl⟩:=rl
      rw[af]at rl
      subst rl
      have E1:=dk G.nd hsl (E0.same s1) g4 g2 (o:=false) (ra.imp fun _ _ _ _=>rfl)
      have E2:=dk G.nd (by rw[List.length_set];exact hsl) E1 k4 k2 (o:=false) (rb.imp fun _ _ _ _=>rfl)
      refine⟨a,[va,vb],rfl,hs,rfl,va,[vb],rfl,vb,[],rfl,rfl,.ref x,?_,E2,fun vs H2 s2 rv=>?_⟩
      ·rw[List.getElem?_set_ne ne2,List.getElem?_set_ne ne1]
       have hn:0<(aw (aa st)).length:=(List.getElem?_eq_some_iff.mp hi0).1
       rfl
      ·have s12:=s1.trans s2
       refine⟨x,vs++[],C,dx,rfl,by rw[List.append_nil,<- rv.length];exact hfl,s12 _ _ hx,hc,hna C hns,q _ (fun a o ha h=>?_) ?_⟩
       ·rw[ax ha];exact s12 _ _ h
       ·rw[ag,List.append_nil]
        exact⟨p3.1,hfl.symm,x,C,dx,vs,rfl,hns,hc,aD,((rv.off (s12 _ _ hx) (fun a o ha h=>by rw[ax ha];exact h) p3.2.1).imp fun _ _ _=>True.intro)⟩
     ·exact(am hF).elim
    ·exact(am hF).elim
   ·exact(am hF).elim
  ·exact(am hF).elim
end Sp
namespace K
open PySem L2 Sp Qm
variable{b c d k:Int}
theorem Fw{Φ:Fx}{sc:Scope}{ps fs:List Str}{x1 x2:Str}{e:Expr}{args:List Expr}{n:Str}{ds q:List D}{u v:D}{k j:Nat}(hl:ds.length+1=ps.length)(h0:ab (au Φ e false sc (d0 ps (.obj n [] []::ds))) (.tup [u,v],j))(hu:ao [u,v]=true)(h:ab (bK Φ args sc (bo (bo (d0 ps (.obj n [] []::ds)) x1 (u,false)) x2 (v,false))) (q,k))(hq:q.length=fs.length)(h1:ao q=true)(h2:ej q=true):ab (fN Φ sc ps x1 x2 e args n fs ds) (.obj n fs q):=by
 unfold fN
 rw[if_pos hl]
 refine h0.bnd ?_
 dsimp only
 rw[if_pos hu]
 refine h.bnd ?_
 dsimp only
 rw[if_pos hq]
 exact⟨_,rfl,h1,h2,True.intro⟩
abbrev aq(u:V3):Qd:=(0,u.1,u.2.1,u.2.2)
theorem HD{u:V3}(h:Ja (aq u)):∃(k:Int) (v:V3),k≠0/\u=(k*v.1,k*v.2.1,k*v.2.2)/\Az (aq v):=by
 obtain⟨k,a,b,c,d,hk,e0,e1,e2,e3,p,_⟩:=tH h
 have a0:a=0:=(Int.mul_eq_zero.mp e0.symm).resolve_left hk
 subst a0
 obtain⟨x,y,z⟩:=u
 exact⟨k,(b,c,d),hk,by simp only[Prod.mk.injEq];exact⟨e1,e2,e3⟩,p⟩
theorem L9(b c d:Int):gI [0,b,c,d]=gI [b,c,d]:=by unfold gI;simp[bx]
theorem wz(hk:k≠0)(p:Pm 0 b c d):gI [k*b,k*c,k*d]=k.natAbs:=by
 rw[<- L9]
 have:=u4 hk p
 rw[Int.mul_zero]at this
 exact this
theorem tV(hk:k≠0)(h:¬ (k*b=0/\k*c=0/\k*d=0)):L2.atI ((([k*b,k*c,k*d]:List Int).filter fun t => !decide (t=0)).map D.int) 0=some (.int (k*cJ 0 b c d)):=by
 have:=qN (x:=0) (y:=k*b) (z:=k*c) (w:=k*d) (fun z=>h z.2)
 rw[show cJ 0 (k*b) (k*c) (k*d)=cJ (k*0) (k*b) (k*c) (k*d) by rw[Int.mul_zero],iJ _ _ _ _ hk]at this
 exact this
instance eqT9:DecidableEq T9:=fun a b=>decidable_of_iff (a.l=b.l) ⟨T9.ext,fun h=>by rw[h]⟩
def T9.mir(T:T9):T9:=⟨T.n,-T.a,-T.b,-T.c,-T.d,-T.e,-T.f,-T.g,-T.h,-T.i⟩
end K
namespace Sp
open PySem PySem.Spec PyProof.Rows L2
open AutoSeq1 (wpAny_loadPart')
variable{T nid:String}{ks:List (Str×Value)}{Q:Value->Shared->Prop}{it tu:Addr}{vs:Array Value}{a e:Expr}{i k n0 n1:Nat}{old:Value}{P:Program}{w:World}{K:W.Frag}{es:List Expr}{p pos q:Pos}{ρ:ae}{mg:Str->Option Value}{d x:Str}{kvs:List (Str×Int)}{H0:Hp}{body:List Stmt}{Φ:Fx}{sc:Scope}
variable{X:Cx}
abbrev lH:Str:=Str.ofString "start"
theorem Ce(a b:Value):checkTypeCall "enumerate" ⟨[a],[(lH,b)]⟩=pure ():=by kernel_rfl
theorem FV(a b:Value):checkBuiltinCall "enumerate.__new__" ⟨[.type "enumerate", a],[(lH,b)]⟩=pure ():=by kernel_rfl
theorem Ch(o a b:Value):argsOk "object.__init__" ⟨[o,a],[(lH,b)]⟩:=by kernel_rfl
theorem Cf(tu:Addr)(vs:Array Value)(n:Nat)(dc:Option Addr)(so:Array (Option Value))(tk:Tok) :
  Meets (Builtin.«enumerate.__new__» ⟨[.type "enumerate", .ref tu],[(lH,.int 1 tk)]⟩) (fun _ R st=>st.heap.get? tu=some { cls:=.type "list", dict:=dc,data:=.seq vs n,slots:=so } /\
   R (.ok (.ret (.ref (st.heap.push { cls:=.type "list_iterator", data:=.fields #[.ref tu,.int 0 0] }).objs.size)))
    { st with heap:=(st.heap.push { cls:=.type "list_iterator", data:=.fields #[.ref tu,.int 0 0] }).push { cls:=.type "enumerate", data:=.fields #[.none,.bool false,.ref st.heap.objs.size,rawInt 1,.none,.none] } }) :=
 .of_wp fun pg wd AA RR st hh=>by
  obtain⟨hp0,gg,dd,tk0,oo⟩:=st;obtain⟨htu,hh⟩:=hh
  have hsub0:=sub_enumerate
  have hTT:Heap.IsList (Shared.heap ⟨hp0,gg,dd,tk0,oo⟩) tu vs:=⟨_,htu,rfl,n,rfl⟩
  wp_walk using wpAny_loadPart' htu
  refine wpAny_stack_any fun stk0=>wpAny_pure ?_
  split
  ·rename_i c0 _ _ _ _ _
   cases (c0==Value.type "enumerate")
   ·wp_walk using wpAny_loadPart' htu,wpAny_pyIter_list hTT
    exact⟨_,rfl,hh⟩
   ·wp_walk using wpAny_loadPart' htu,wpAny_pyIter_list hTT
    exact⟨_,rfl,hh⟩
  ·wp_walk using wpAny_loadPart' htu,wpAny_pyIter_list hTT
   exact⟨_,rfl,hh⟩
section
variable{prog:Program}{A:Around}{E:Value->Shared->Prop}{s:Shared}
theorem FU{me:Value}{more:List Value}(h1:typeLookup (.type T) "__init__" = pure (some (.builtin "object.__init__")))(h2:Bind.madeBy (.type T)=pure (some nid))(h3:(some nid != some "object.__new__")=true) :
  Meets (Builtin.«object.__init__» ⟨me::more,ks⟩) (fun _ R st=>st.TypeIs me T/\R (.ok (.ret .none)) st):=.of_wp fun pg wd AA RR st hh=>by
 obtain⟨hT,hq⟩:=hh
 cases more with
 | nil =>
  cases ks with
  | nil=>exact wpAny_pure ⟨_,rfl,hq⟩
  | cons k ks =>
   repeat (any_goals (first|assumption|wp_step))
   exact⟨_,rfl,hq⟩
 | cons b more =>
  repeat (any_goals (first|assumption|wp_step))
  exact⟨_,rfl,hq⟩
theorem Ci{Bn:Builtin}{as:List Value}{S:PySem.Spec}(tc:TypeCalled T nid "object.__init__")(h3:(some nid != some "object.__new__")=true)
  (c1:checkTypeCall T ⟨as,ks⟩=pure ()) (c2:checkBuiltinCall nid ⟨.type T::as,ks⟩=pure ()) (c3:∀o,argsOk "object.__init__" ⟨o::as,ks⟩) (en:entryFor table nid=some Bn) (mt:Meets (Bn ⟨.type T::as,ks⟩) S)
  (h:S A.in1 (wants (fun o s1=>s1.TypeIs o T/\Q o s1) E) s):wpAny (model prog w) A (call (.type T) as ks) Q E s:=by
 obtain⟨c,tl,hmr⟩:=tc.mro
 have hmk:=tc.made
 have hsb:=tc.sub
 have hnt:=tc.notType
 have hcc:=tc.canCreate
 refine wpAny_call (codeAny_of_tree (show wpAny _ _ (callAny (.type T) _) _ _ _ from wpAny_pure ⟨Code.quiet_builtin _ (by decide +kernel),codeAny_builtin F.entry_type_call ?_⟩))
 rw[Around.under_plain (show(Code.builtin "type.__call__" ⟨.type T::as,ks⟩).weight=0 from rfl) (show(Code.builtin "type.__call__" ⟨.type T::as,ks⟩).cUnits=1 from rfl)]
 repeat (any_goals (first|assumption|wp_step))
 refine codeAny_mono (codeAny_call_builtin tc.plain en (wpAny_of_eq c2 (mt prog w A.in1 _ s h))) fun r s1 hr=>?_
 cases r with
 | error e=>exact hr
 | ok fl =>
  cases fl with
  | ret o =>
   obtain⟨hT,hq⟩:=hr
   have hli:=tc.init.lookup
   have hbi:=tc.init.bind o
   repeat (any_goals (first|assumption|wp_step))
   refine codeAny_mono (codeAny_call_builtin tc.init.plain F.entry_object_init (tc.init.check _ _ _ _ _ _ _ _ hT (c3 o) (FU tc.init.lookup tc.made h3 prog w A.in1 (wants (fun r s2=>r=.none/\Q o s2) E) s1 ⟨hT,rfl,hq⟩))) fun r2 s2 hr2=>?_
   cases r2 with
   | error e=>exact hr2
   | ok f2 =>
    cases f2 with
    | ret r =>
     obtain⟨rfl,hq⟩:=hr2
     repeat (any_goals (first|assumption|wp_step))
    | _=>exact hr2.elim
  | _=>exact hr.elim
theorem yJ{tk:Tok}(hT:s.heap.IsList tu vs)
  (go:∀h1,IsEnum h1 (s.heap.objs.size+1) s.heap.objs.size 1 .none->h1.IsListIter s.heap.objs.size tu 0->h1.objs.size=s.heap.objs.size+2->(∀b o,s.heap.get? b=some o->h1.get? b=some o)->Q (.ref (s.heap.objs.size+1)) { s with heap:=h1 }) :
  wpAny (model prog w) A (call (.type "enumerate") [.ref tu] [(lH,.int 1 tk)]) Q E s:=by
 obtain⟨⟨cc,dc,dt,so⟩,htu,hcc,n,hdd⟩:=hT
 replace hcc:cc=.type "list" := hcc
 replace hdd:dt=.seq vs n:=hdd
 subst hcc hdd
 refine Ci F.called_enumerate (by decide) (Ce _ _) (FV _ _) (fun ob=>Ch ob _ _) F.entry_enumerate_new (Cf tu vs n dc so tk) ⟨htu,?_⟩
 have sz:(s.heap.push { cls:=.type "list_iterator", data:=.fields #[.ref tu,.int 0 0] }).objs.size=s.heap.objs.size+1:=Heap.size_push ..
 show _/\_
 rw[sz]
 have isE:IsEnum ((s.heap.push { cls:=.type "list_iterator", data:=.fields #[.ref tu,.int 0 0] }).push { cls:=.type "enumerate", data:=.fields #[.none,.bool false,.ref s.heap.objs.size,rawInt 1,.none,.none] }) (s.heap.objs.size+1) s.heap.objs.size 1 .none:=by
  have q:=Heap.get?_push_size (s.heap.push { cls:=.type "list_iterator", data:=.fields #[.ref tu,.int 0 0] }) (o:={ cls:=.type "enumerate", data:=.fields #[.none,.bool false,.ref s.heap.objs.size,rawInt 1,.none,.none] }) rfl
  rw[sz]at q;exact q
 refine⟨⟨_,isE,rfl⟩,go _ isE ⟨_,Heap.get?_push_of_some _ (Heap.get?_push_size _ rfl),rfl,rfl⟩ (by rw[Heap.size_push,sz]) fun b o z=>Heap.get?_push_of_some _ (Heap.get?_push_of_some _ z)⟩
theorem Cg{e:Addr}{x:Value}{Q:Option Value->Shared->Prop}(isE:IsEnum s.heap e it ((i+1:Nat):Int) old)(hIt:s.heap.IsListIter it tu i)(hT:s.heap.IsList tu vs)(hx:vs[i]?=some x)(hne:e≠it)
  (go:∀h1,IsEnumOut h1 e it (((i+1:Nat):Int)+1) x s.heap.objs.size->h1.IsListIter it tu (i+1)->h1.get? s.heap.objs.size=some { cls:=.type "tuple", data:=.seq #[.int ((i+1:Nat):Int) s.toks,x] }->(∀b o,b≠e->b≠it->s.heap.get? b=some o->h1.get? b=some o)->Q (some (.ref s.heap.objs.size)) { s with heap:=h1,toks:=s.toks+1 }) :
  wpAny (model prog w) A (pyNext (.ref e)) Q E s:=by
 have tyE:s.TypeIs (.ref e) "enumerate" := ⟨_,isE,rfl⟩
 unfold pyNext
 refine wpAny_bind (wpAny_attempt (wpAny_callSpecial?_slot (name:=Str.ofString "__next__") tyE F.slot_enumerate_next (wpAny_call_entry F.slot_enumerate_next tyE F.entry_enumerate_next ?_ (F.args_enumerate_next_1 _))))
 exact n6 (Kn:=fun h1=>h1.IsListIter it tu (i+1)) isE hne (fun h1 h2 k hk=>k.at hk) (fun Q1 q1=>wpAny_nextOf_list_item hIt hT hx q1) fun h1 a b c d=>wpAny_pure (go h1 a b c d)
theorem FW{e:Addr}{c:Int}{Q:Option Value->Shared->Prop}(hh:A.handled=none)(isE:IsEnum s.heap e it c old)(hIt:s.heap.IsListIter it tu i)(hT:s.heap.IsList tu vs)(hx:vs[i]?=none)
  (go:∀h1,Heap.ExtBut it s.heap h1->Q none { s with heap:=h1 }):wpAny (model prog w) A (pyNext (.ref e)) Q E s:=by
 have tyE:s.TypeIs (.ref e) "enumerate" := ⟨_,isE,rfl⟩
 unfold pyNext
 refine wpAny_bind (wpAny_attempt (wpAny_callSpecial?_slot (name:=Str.ofString "__next__") tyE F.slot_enumerate_next (wpAny_call_entry F.slot_enumerate_next tyE F.entry_enumerate_next ?_ (F.args_enumerate_next_1 _))))
 show wpAny _ _ (field (.ref e) 2 >>= _) _ _ _
 refine wpAny_bind (wpAny_field isE rfl (x:=Value.ref it) rfl (wpAny_bind (wpAny_nextOf_list_end hh hIt hT hx fun h1 xx eb hx'=>?_)))
 obtain⟨o,ho,hc⟩:=hx'
 exact wpAny_bind (wpAny_isInstance (T := "StopIteration") (b:=true) ⟨o,ho,hc⟩ isSubtype_stop (wpAny_pure (go _ eb)))
end
def Nj(K:W.Frag)(a:Addr):It :=
 ⟨fun i H => ∃xs x,bL K H a xs/\xs[i]?=some x,fun i H x H' => ∃p v,x=.ref p/\H p=none/\H'=aO H p (.tup [.int ((i+1:Nat):Int),v])/\∀xs,bL K H a xs->xs[i]?=some v,fun i H => ∃xs,bL K H a xs/\xs.length<=i⟩
theorem ur(a e it:Addr)(hne:e≠it) :
  L2.Turn P w K (.Tuple es n1 pos) (Nj K a) [e,it] e (fun i h=>(∃old,IsEnum h e it ((i+1:Nat):Int) old)/\h.IsListIter it a i) where
 mem:=by simp
 obj:=fun i h st b hb=>by
  obtain⟨⟨old,q⟩,o,q2,c,d⟩:=st
  rcases List.mem_cons.mp hb with rfl|hb
  ·exact⟨_,q,fun v z=>by have z':Data.fields _=Data.cell v:=z;cases z'⟩
  ·have eb:b=it:=by simpa using hb
   subst eb
   exact⟨o,q2,fun v z=>by rw[d]at z;cases z⟩
 keep:=fun i h h' st k=>⟨let ⟨old,q⟩:=st.1;⟨old,k e (by simp) _ q⟩,st.2.at fun o q=>k it (by simp) o q⟩
 item:=by
  intro Y hP hw hK hc i pins s σ H E I hf st hg
  subst hP hw hK
  obtain⟨xs,x,hq,hx⟩:=hg
  obtain⟨its,rv,p,hz⟩:=I.list hq
  obtain⟨u,hu,ru⟩:=rv.get hx
  obtain⟨⟨old,isE⟩,hIt⟩:=st
  refine Cg isE hIt (show s.heap.IsList a its.toArray from p.isList) (x:=u) (by simpa using hu) hne fun h1 eo it1 t1 k1=>?_
  refine⟨_,rfl,wpAny_letOwnedTupleGo_enum eo fun h2 e2 sb2=>?_⟩
  have sb2':Heap.SameBut e h1 h2:=sb2
  have elt:e<s.heap.objs.size:=Heap.lt_size isE
  have k2:∀b o,b∉[e,it]->s.heap.get? b=some o->h2.get? b=some o:=fun b o nb q=>by
   have n1:b≠e:=fun z=>nb (by simp[z])
   have n2:b≠it:=fun z=>nb (by simp[z])
   exact sb2'.extBut b o n1 (k1 b o n1 n2 q)
  have t2:h2.get? s.heap.objs.size=some { cls:=.type "tuple", data:=.seq #[.int ((i+1:Nat):Int) s.toks,u] }:=sb2'.extBut _ _ (Nat.ne_of_gt elt) t1
  have hn0:H s.heap.objs.size=none:=I.hok.fresh (Nat.le_refl _)
  refine⟨.ref s.heap.objs.size,aO H s.heap.objs.size (.tup [.int ((i+1:Nat):Int),x]),jI (s:=s) (h2:=h2) (t2:=s.toks+1) I k2 (Nat.le_refl _) hf ?_,rfl,⟨_,x,rfl,hn0,rfl,fun ys hy=>by rw[I.list_inj hy hq];exact hx⟩,⟨⟨u,?_⟩,it1.at fun o q=>sb2'.extBut it o (Ne.symm hne) q⟩,fun b hb=>?_⟩
  ·exact⟨by show 2<=sizeLine;decide,[.int ((i+1:Nat):Int) s.toks,u],.cons ⟨_,rfl⟩ (.cons ru .nil),⟨_,t2,rfl,_,rfl⟩⟩
  ·have q:=e2
   rw[show((i+1:Nat):Int)+1=((i+1+1:Nat):Int) by omega]at q
   exact q
  ·have hb':=hf b hb
   have lt:b<s.heap.objs.size:=by
    rcases List.mem_cons.mp hb with rfl|hb
    ·exact elt
    ·have eb:b=it:=by simpa using hb
     subst eb
     obtain⟨o,q,_⟩:=hIt
     exact Heap.lt_size q
   rw[ax (Nat.ne_of_lt lt)];exact hb'.1
 done:=by
  intro Y hP hw hK hc i pins s σ H E I hf st hg
  subst hP hw hK
  obtain⟨xs,hq,hx⟩:=hg
  obtain⟨its,rv,p,hz⟩:=I.list hq
  obtain⟨⟨old,isE⟩,hIt⟩:=st
  obtain⟨f0,f1,f2,f3,f4,f5⟩:=hf it (by simp)
  have hl:=rv.length
  exact FW (I.ok.hd hc) isE hIt (show s.heap.IsList a its.toArray from p.isList) (by simp;omega) fun h1 eb=>⟨rfl,I.turned (t':=s.toks) (fun b o hb q=>eb b o hb q) f0 f1 f3 f4 f5⟩
 self:=fun _ _ _ _ _ st h=>let ⟨old,q⟩:=st.1;wpAny_pyIter_enum q h
section
variable{M:Model}{A:Around}{E:Value->Shared->Prop}{s:Shared}{env:Env}
theorem Hh{bT:List Expr}{kws:List Keyword}
  (h:wpAny M A (spliced (backTo pos (starEach (e::bT) env))) (fun vs s1=>wpAny M A (evalAll ((backToKw pos (keywordEach kws env)).map (·.2))) (fun ks s2=>wpAny M A (call (.type T) vs (((backToKw pos (keywordEach kws env)).filterMap (·.1)).zip ks)) Q E s2) E s1) E s)
  (he:backTo pos (starEach (e::bT) env)=(false,eval e env)::backTo pos (starEach bT env)) (hp:(backTo pos (starEach (e::bT) env)).any (·.1)=false)
  (ha:(backToKw pos (keywordEach kws env)).all (·.1.isSome)=true:=by rfl) (hk:(backToKw pos (keywordEach kws env)).any (·.1.isNone)=false:=by rfl) :
  wpAny M A (callWith pos (.type T) [] (backTo pos (starEach (e::bT) env)) (backToKw pos (keywordEach kws env))) Q E s:=by
 have key:wpAny M A (evalArgs (.type T) true (backTo pos (starEach (e::bT) env)) (backToKw pos (keywordEach kws env))) (fun a s1=>wpAny M A (call (.type T) ([]++a.pos) a.kw) Q E s1) E s:=by
  rw[he]at h⊢
  exact evalArgs_kwB ha h
 unfold callWith
 refine wpAny_bind (wpAny_holding (aJ key fun a s1 h1=>wpAny_bind (wpAny_standAt ?_)))
 simp only[hp,hk,Bool.or_false]
 exact wpAny_bind (wpAny_pure (wpAny_bind (aJ h1 fun r s2 hr=>wpAny_bind (wpAny_holding (wpAny_point (wpAny_pure hr))))))
end
theorem yE{tp p0 kp:Pos}{l:List D}(hg:Gl X "enumerate")(hm0:X.mg "enumerate" = none)(ha:AD X ρ [a] [.lst l] k)(hst:∀y p,a ≠ .Starred y p)(hf:ao l=true) :
  IE X ρ (.Tuple es n1 tp) (.Call (.Name "enumerate" p) [a] [⟨some lH,.Constant (.int 1) n0 p0,kp⟩] pos) (l.mapIdx fun i x=>.tup [.int ((i+1:Nat):Int),x]) k:=by
 intro ow pins s σ H R I ⟨E,q⟩
 have n2:=aM (env:=X.env) (es:=[]) hst
 have key:∀(us:List Value) (s1:Shared) (t:Tok),(∃vs H1,aj X pins σ H1 s1/\aG vs us/\av H H1/\af X.K H1 (Kp ow H k) [.lst l] vs)->wpAny (model X.prog X.w) X.A (call (.type "enumerate") us [(lH,.int 1 t)]) (fun v s2=>wpAny (model X.prog X.w) X.A (pyIter v) (Hb X pins σ (.Tuple es n1 tp) R) X.xe s2) X.xe s1:=by
  rintro us s1 t ⟨vs,H1,I1,rv,sm,rp⟩
  obtain⟨v,rfl,rv1⟩:=rp.only
  obtain⟨ta,xs,rfl,hq,rl,hk1⟩:=jl (κ:=false) rv1
  replace hq:bL X.K H1 ta xs:=hq
  obtain⟨u,rfl,ru⟩:=cy rv
  cases (show u=Value.ref ta from ru)
  obtain⟨its,rvs,pt,hz⟩:=I1.list hq
  refine yJ (show s1.heap.IsList ta its.toArray from pt.isList) fun h2 isE hIt sz k2=>?_
  refine wpAny_pyIter_enum isE ?_
  have I2:aj X pins σ H1 { s1 with heap:=h2 }:=I1.kept (t':=s1.toks) k2
  have f0:H1 s1.heap.objs.size=none:=I1.hok.fresh (Nat.le_refl _)
  have f1:H1 (s1.heap.objs.size+1)=none:=I1.hok.fresh (Nat.le_succ _)
  refine⟨s1.heap.objs.size+1,[s1.heap.objs.size+1,s1.heap.objs.size],_,_,H1,rfl,I2,ur ta _ _ (Nat.ne_of_gt (Nat.lt_succ_self _)),⟨⟨_,isE⟩,hIt⟩,fun b hb=>?_,q _ H1 sm ?_⟩
  ·rcases List.mem_cons.mp hb with rfl|hb
   ·exact I1.fpOk (Nat.le_succ _) f1
   ·have eb:b=s1.heap.objs.size:=by simpa using hb
    subst eb
    exact I1.fpOk (Nat.le_refl _) f0
  ·intro i H2 st
   have rl':af X.K H1 (Kd ow H k H1) l xs:=rl.flat _ hf
   refine⟨fun d hd=>?_,fun hle=>?_⟩
   ·rw[List.getElem?_mapIdx]at hd
    cases e:l[i]? with
    | none=>rw[e]at hd;cases hd
    | some x =>
     rw[e]at hd;cases hd
     obtain⟨y,hy,ry⟩:=rl'.get e
     refine⟨⟨xs,y,hk1 st,hy⟩,fun x' H3 ⟨p',v',e1,e2,e3,e4⟩=>?_⟩
     have hv:=e4 xs (hk1 st)
     rw[hy]at hv;cases hv
     subst e1 e3
     have sm3:=cj (o:=HO.tup [.int ((i+1:Nat):Int),y]) e2
     refine⟨sm3,?_⟩
     rw[ag]
     exact⟨p',_,rfl,cw.of aD,af.cons (by rw[ag]) (af.one ((ry.mono st).same sm3))⟩
   ·rw[List.length_mapIdx]at hle
    exact⟨xs,hk1 st,by rw[<- rl.length];exact hle⟩
 refine wpAny_Call_Name_kw (dC I hg hm0 (show bootBuiltins "enumerate" = some (.type "enumerate") by decide +kernel) ?_ (by decide +kernel) (by decide +kernel))
 exact Hh (kws:=[⟨some lH,.Constant (.int 1) n0 p0,kp⟩]) (aJ (ha ow pos pins s σ H (fun vs H1=>av H H1/\af X.K H1 (Kp ow H k) [.lst l] vs) I ⟨E,fun vs H1 s1 r1=>⟨s1,r1⟩⟩) fun us s1 ⟨vs,H1,I1,rv,sm,rp⟩=>kws_cons (wpAny_Constant_int (kws_nil (key us _ _ ⟨vs,H1,I1.tok _,rv,sm,rp⟩)))) (by rw[n2];rfl) (bC fun x hx=>by rw[List.mem_singleton.mp hx];exact hst)
def jV(P:Program)(w:World)(K:W.Frag)(mg:Str->Option Value)(d:Str)(kvs:List (Str×Int)):Prop:=∃a,mg d=some (.ref a)/\(a==sysModules)=false/\(d==("__debug__" : Str))=false/\∀h:Heap,K.In h->∃f,Heap.MapOf (strKind P w) h a f/\∀x,(kvs.lookup x=none->f x=none)/\∀i,kvs.lookup x=some i->∃t,f x=some (.int i t)
def io(P:Params):List (Str×Int)->List (Tok×Tok)->List DictEntry
 | (x,i)::l,(t,u)::ts=>⟨PyData.keyHash P x,.str x t,.int i u⟩::io P l ts
 | _,_=>[]
theorem ub{P:Program}{w:World}:∀(l:List (Str×Int)) (ts:List (Tok×Tok)),∀e∈io w.params l ts,∃k,(strKind P w).is k e.key=true/\e.hash=(strKind P w).hash k
 | (x,i)::l,(t,u)::ts,e,h=>by
  rcases List.mem_cons.mp h with rfl|h
  ·exact⟨x,by show Value.isStrOf x (.str x t)=true;simp[Value.isStrOf],rfl⟩
  ·exact ub l ts e h
 | [],_,e,h=>by unfold io at h;cases h
 | _::_,[],e,h=>by unfold io at h;cases h
theorem uc{P:Params}:∀(l:List (Str×Int)) (ts:List (Tok×Tok)) (x:Str),l.length=ts.length->(l.lookup x=none->(io P l ts).find? (fun e=>Value.isStrOf x e.key)=none)/\∀i,l.lookup x=some i->∃e t,(io P l ts).find? (fun e=>Value.isStrOf x e.key)=some e/\e.val=.int i t
 | [],[],x,_=>⟨fun _=>rfl,fun i h=>by cases h⟩
 | (y,j)::l,(t,u)::ts,x,hl=>by
  obtain⟨h1,h2⟩:=uc (P:=P) l ts x (by simpa using hl)
  have hd:Value.isStrOf x (.str y t)=decide (y=x):=by
   by_cases e:y=x
   ·subst e;rw[decide_eq_true rfl];simp[Value.isStrOf]
   ·rw[decide_eq_false e];simp[Value.isStrOf,e]
  rw[List.lookup_cons]
  by_cases e:y=x
  ·subst e
   rw[beq_self_eq_true]
   refine⟨(fun z=>by cases z),fun i z=>?_⟩
   cases z
   exact⟨_,u,by rw[io,List.find?_cons,show Value.isStrOf y (.str y t)=true by rw[hd,decide_eq_true rfl]],rfl⟩
  ·have eb:(x==y)=false:=by
    rw[beq_eq_false_iff_ne];exact fun z=>e z.symm
   rw[eb]
   refine⟨fun z=>?_,fun i z=>?_⟩
   ·rw[io,List.find?_cons,show Value.isStrOf x (.str y t)=false by rw[hd,decide_eq_false e]]
    exact h1 z
   ·obtain⟨e',t',h3,h4⟩:=h2 i z
    exact⟨e',t',by rw[io,List.find?_cons,show Value.isStrOf x (.str y t)=false by rw[hd,decide_eq_false e]];exact h3,h4⟩
 | [],_::_,x,hl=>by cases hl
 | _::_,[],x,hl=>by cases hl
theorem IF{a:Addr}{ts:List (Tok×Tok)}{n:Nat}(hm:mg d=some (.ref a))(hs:(a==sysModules)=false)(hd:(d==("__debug__" : Str))=false)(hl:kvs.length=ts.length)
  (hk:K.lookup a=some { cls:=.type "dict", dict:=none,data:=.dict (io w.params kvs ts).toArray n,slots:=#[] }):jV P w K mg d kvs:=by
 refine⟨a,hm,hs,hd,fun h X=>⟨fun x=>findBy (strKind P w).is (io w.params kvs ts).toArray x,⟨_,_,n,X a _ hk,⟨rfl,rfl,rfl⟩,rfl,fun e he=>ub kvs ts e (by simpa using he),fun _=>rfl⟩,fun x=>?_⟩⟩
 obtain⟨h1,h2⟩:=uc (P:=w.params) kvs ts x hl
 have e0:findBy (strKind P w).is (io w.params kvs ts).toArray x=((io w.params kvs ts).find? fun e=>Value.isStrOf x e.key).map (·.val):=by
  show Option.map _ (Array.find? _ _)=_
  rw[List.find?_toArray]
  rfl
 refine⟨fun z=>e0.trans (by rw[h1 z];rfl),fun i z=>?_⟩
 obtain⟨e,t,h3,h4⟩:=h2 i z
 exact⟨t,e0.trans (by rw[h3];exact congrArg some h4)⟩
theorem Dg(D:jV X.prog X.w X.K X.mg d kvs)(hg:Gl X d)(he:ED X ρ e (.str x) k):TD X ρ (.Compare e [.NotIn] [.Name d p] q) (kvs.lookup x).isNone:=by
 obtain⟨a,hm,hs,hdb,hf⟩:=D
 have op:bZ X (compareOp .NotIn) (fun v u H Q=>v=.str x/\u=.ref a/\Q (.bl (kvs.lookup x).isNone) H):=by
  intro pins s σ H v u xv yu Q I rv ru ⟨e1,e2,q⟩
  subst e1 e2
  obtain⟨t,rfl⟩:=rv
  cases ru
  obtain⟨f,mo,hx⟩:=hf s.heap I.kIn
  refine wpAny_notIn_of (knd:=strKind X.prog X.w) (k:=x) (by show Value.isStrOf x (.str x t)=true;simp[Value.isStrOf]) hs mo ?_
  have e:(!(f x).isSome)=(kvs.lookup x).isNone:=by
   cases z:kvs.lookup x with
   | none=>rw[(hx x).1 z];rfl
   | some i=>obtain⟨t,ht⟩:=(hx x).2 i z;rw[ht];rfl
  rw[e]
  exact⟨.bl _,H,I.tok _,rfl,q⟩
 intro ow
 refine pG (Bq op (he ow) (nz (v:=.ref a) hg hm rfl hdb) rfl) fun σ H Q ⟨E,q⟩=>⟨E,fun v H1 s1 r1=>?_⟩
 rw[ag]at r1
 exact⟨r1,rfl,_,rfl,q H1 s1⟩
theorem Cv{i:Int}(D:jV X.prog X.w X.K X.mg d kvs)(hg:Gl X d)(he:ED X ρ e (.str x) k)(hs:du e)(hx:kvs.lookup x=some i):ED X ρ (.Subscript (.Name d p) e q) (.int i) 0:=by
 obtain⟨a,hm,hs',hdb,hf⟩:=D
 have op:xE X (fun v u H Q=>v=.ref a/\u=.str x/\Q (.int i) H):=by
  intro value slice pins s σ H v u xv yu Q I rv ru ⟨e1,e2,q⟩ hsub
  subst e1 e2
  obtain⟨t,rfl⟩:=ru
  cases rv
  obtain⟨f,mo,hx'⟩:=hf s.heap I.kIn
  obtain⟨t',ht⟩:=(hx' x).2 i hx
  obtain⟨o,es,ep,m1,m2,m3⟩:=id mo
  exact subscriptTail_builtinR (x:=.int i t') ⟨o,m1,m2.1⟩ PySem.F.slot_dict_getitem.lookup (wpAny_getItem_of (knd:=strKind X.prog X.w) (k:=x) (Q:=fun r s'=>r=.int i t'/\EP X pins σ Q r s') (by show Value.isStrOf x (.str x t)=true;simp[Value.isStrOf]) mo ht ⟨rfl,.int i,H,I.tok _,⟨_,rfl⟩,q⟩) hsub
 intro ow
 refine bg (lM op (nz (v:=.ref a) hg hm rfl hdb) (he ow) hs) fun σ H Q ⟨E,q⟩=>⟨E,fun v H1 s1 r1=>?_⟩
 rw[ag]at r1
 exact⟨rfl,r1,q _ H1 s1 (by rw[ag])⟩
theorem F3{b:Expr}{z:Str}{i:Int}{c:Nat}{j:Nat}(ha:ED X ρ a (.str z) k)(hb:ED X ρ b (.int i) j)(hs:du b)(h0:0<=i)(h6:i<2 ^ 63)(h1:i<z.length)(hc:z.cps[i.toNat]?=some c):ED X ρ (.Subscript a b pos) (.str ⟨#[c]⟩) 0:=by
 intro ow
 refine bg (sr (ha ow) (hb ow) hs) fun σ H Q ⟨E,q⟩=>⟨E,fun v H1 s1 r1=>⟨E.same s1,fun u H2 s2 r2=>?_⟩⟩
 rw[ag]at r1
 rw[ag]at r2
 subst r1 r2
 exact⟨z,i,c,rfl,rfl,h0,h6,h1,hc,q _ H2 (s1.trans s2) (by rw[ag])⟩
def xG(X:Cx)(H0:Hp)(c:Expr)(body:List Stmt):Nat->ae->ae->Prop
 | 0,_,_=>False
 | n+1,ρ,ρ'=>(TD X ρ c false/\ρ'=ρ)\/(TD X ρ c true/\∃ρ1,dP X H0 ρ body (.nx ρ1)/\xG X H0 c body n ρ1 ρ')
theorem DE{c:Expr}(hp:PassesOwn (model X.prog X.w) X.A X.env X.xe){ρ0 ρf:ae}(h:xG X H0 c body n0 ρ0 ρf):SD X H0 ρ0 (.While c body [] pos) (.nx ρf):=by
 intro pins s σ H D0 I ⟨ow,E,hl,B,q⟩
 have pc:PT X c (fun σ H Q => ∃ow ρ b,TD X ρ c b/\vQ X ow ρ b σ H Q):=fun pins s σ H Q I ⟨ow,ρ,b,h1,h2⟩=>h1 ow pins s σ H Q I h2
 have pb:eN X body (fun D σ H => ∃ρ fl,dP X H0 ρ body fl/\sU X H0 ρ fl D σ H):=fun pins s σ H D I ⟨ρ1,fl1,h1,h2⟩=>h1 pins s σ H D I h2
 refine qm hp pc pb pins s σ H D0 I ?_
 refine⟨fun m σ' H' => ∃ow' ρ',aH X ow' H' σ' ρ'/\σ'.length=X.N.length/\cH H0 ow' H'/\aU ow H ow' H'/\xG X H0 c body m ρ' ρf,⟨n0,ow,ρ0,E,hl,B,aU.refl _ _,h⟩,?_⟩
 rintro m σ' H' ⟨ow',ρ',E',hl',B',k',hw⟩
 have q':jS X H0 ow' H' (.nx ρf) D0:=q.keep k'
 cases m with
 | zero=>exact hw.elim
 | succ m =>
  rcases hw with⟨ht,e⟩|⟨ht,ρ1,hb,hw⟩
  ·subst e
   refine⟨ow',ρf,false,ht,E',fun H1 s1=>?_⟩
   exact q' ow' σ' H1 (E'.same s1) hl' (aU.same s1)
  ·refine⟨ow',ρ',true,ht,E',fun H1 s1=>?_⟩
   have k1:aU ow' H' ow' H1:=aU.same s1
   show if true=true then _ else _
   rw[if_pos rfl]
   refine⟨fun σ2 H2 => ∃ow2 ρ2,aH X ow2 H2 σ2 ρ2/\σ2.length=X.N.length/\cH H0 ow2 H2/\aU ow H ow2 H2/\xG X H0 c body m ρ2 ρf,fun σ2 H2 z=>⟨m,Nat.lt_succ_self _,z⟩,?_⟩
   exact⟨ρ',.nx ρ1,hb,ow',E'.same s1,hl',B'.keep k1,fun ow2 σ3 H4 a b c=>⟨ow2,ρ1,a,b,(B'.keep k1).keep c,k'.trans (k1.trans c),hw⟩⟩
abbrev jU:=Str->Option (List (Str×Int))
inductive uj(Φ:Fx)(sc:Scope)(tg:Expr)(body:List Stmt):List D->ae->ae->Prop where
 | nil {ρ:ae}:uj Φ sc tg body [] ρ ρ
 | cons {d:D} {ds:List D} {ρ ρ1 ρ2 ρ3:ae} (hb:bG sc tg d ρ=some ρ1) (h:ab (az Φ body sc ρ1) (.nx ρ2)) (k:uj Φ sc tg body ds ρ2 ρ3):uj Φ sc tg body (d::ds) ρ ρ3
theorem FM{tg:Expr}{ds:List D}{ρ':ae}(G:aQ Φ X sc)(hp:PassesOwn (model X.prog X.w) X.A X.env X.xe)(h:uj Φ sc tg body ds ρ ρ'):uk X H0 tg body ds ρ (.nx ρ'):=by
 induction h with
 | nil=>exact rfl
 | cons hb h k ih=>exact⟨_,kh G hb,.inl ⟨_,mn _ h G hp,ih⟩⟩
mutual
inductive Rd(Φ:Fx)(Δ:jU)(sc:Scope):List Stmt->ae->Fl->Prop where
 | rf {ss:List Stmt} {ρ:ae} {fl:Fl} (h:Rf Φ sc ss ρ fl):Rd Φ Δ sc ss ρ fl
 | cut (n:Nat) {ss:List Stmt} {ρ ρ1:ae} {fl:Fl} (h:ab (az Φ (ss.take n) sc ρ) (.nx ρ1)) (k:Rd Φ Δ sc (ss.drop n) ρ1 fl):Rd Φ Δ sc ss ρ fl
 | ifK {e:Expr} {x d:Str} {kvs:List (Str×Int)} {k:Nat} {p q pos:Pos} {a b ss:List Stmt} {ρ ρ1:ae} {t:Bool} {fl:Fl} (hΔ:Δ d=some kvs) (he:ab (au Φ e false sc ρ) (.str x,k)) (ht:(kvs.lookup x).isNone=t) (gd:sc.names.lookup d=some .globalImplicit) (h:Rd Φ Δ sc (cond t a b) ρ (.nx ρ1)) (k:Rd Φ Δ sc ss ρ1 fl) :
  Rd Φ Δ sc (.If (.Compare e [.NotIn] [.Name d p] q) a b pos::ss) ρ fl
 | setK {e:Expr} {x d y:Str} {kvs:List (Str×Int)} {i c:Int} {k n:Nat} {p p1 p2 p3 py q:Pos} {ss:List Stmt} {ρ:ae} {fl:Fl} (hΔ:Δ d=some kvs) (he:ab (au Φ e false sc ρ) (.str x,k)) (hs:du e) (hv:kvs.lookup x=some i) (gd:sc.names.lookup d=some .globalImplicit) (hy:cA sc y=true) (k:Rd Φ Δ sc ss (bo ρ y (.int (i+c),true)) fl) :
  Rd Φ Δ sc (.Assign [.Name y py] (.BinOp (.Subscript (.Name d p) e p1) .Add (.Constant (.int c) n p2) p3) q::ss) ρ fl
 | forE {es:List Expr} {n1 n0:Nat} {tp p pos ep p0 kp:Pos} {e:Expr} {f:Str} {body ss:List Stmt} {ρ ρ1:ae} {l:List D} {k:Nat} {fl:Fl} (he:ab (bK Φ [e] sc (demL [e] ρ)) ([.lst l],k)) (hl:ao l=true) (hk:k<=1) (hf:f = "enumerate") (gf:sc.names.lookup f=some .globalImplicit) (h:uj Φ sc (.Tuple es n1 tp) body (jO 1 l) (demL [e] ρ) ρ1) (k:Rd Φ Δ sc ss ρ1 fl) :
  Rd Φ Δ sc (.For (.Tuple es n1 tp) (.Call (.Name f p) [e] [⟨some lH,.Constant (.int 1) n0 p0,kp⟩] ep) body [] pos::ss) ρ fl
 | setT {e i z:Expr} {x:Str} {l m:Str} {j:Int} {c:Nat} {k ki kz:Nat} {p1 p2 px q:Pos} {ss:List Stmt} {ρ:ae} {fl:Fl} (hz:ab (au Φ z false sc ρ) (.str l,kz)) (hi:ab (au Φ i false sc ρ) (.int j,ki)) (h0:0<=j) (h6:j<2 ^ 63) (h1:j<l.length) (hc:l.cps[j.toNat]?=some c) (he:ab (au Φ e false sc ρ) (.str m,k)) (hn:m.length<1000) (hx:cA sc x=true) (k:Rd Φ Δ sc ss (bo ρ x (.str (⟨#[c]⟩++m),true)) fl) :
  Rd Φ Δ sc (.Assign [.Name x px] (.BinOp (.Subscript z i p1) .Add e p2) q::ss) ρ fl
 | wh {c:Expr} {body ss:List Stmt} {pos:Pos} {ρ ρ1:ae} {fl:Fl} (h:Wr Φ Δ sc c body ρ ρ1) (k:Rd Φ Δ sc ss ρ1 fl):Rd Φ Δ sc (.While c body [] pos::ss) ρ fl
inductive Wr(Φ:Fx)(Δ:jU)(sc:Scope):Expr->List Stmt->ae->ae->Prop where
 | no {c:Expr} {body:List Stmt} {ρ:ae} {k:Nat} (hc:ab (au Φ c false sc ρ) (.bl false,k)):Wr Φ Δ sc c body ρ ρ
 | yes {c:Expr} {body:List Stmt} {ρ ρ1 ρ2:ae} {k:Nat} (hc:ab (au Φ c false sc ρ) (.bl true,k)) (h:Rd Φ Δ sc body ρ (.nx ρ1)) (k:Wr Φ Δ sc c body ρ1 ρ2):Wr Φ Δ sc c body ρ ρ2
end
theorem Hy{Δ:jU}{ss:List Stmt}{fl:Fl}(G:aQ Φ X sc)(hp:PassesOwn (model X.prog X.w) X.A X.env X.xe)(hD:∀d kvs,Δ d=some kvs->jV X.prog X.w X.K X.mg d kvs)(h:Rd Φ Δ sc ss ρ fl):dP X H0 ρ ss fl:=by
 refine Rd.rec (motive_1:=fun ss ρ fl _=>dP X H0 ρ ss fl) (motive_2:=fun c body ρ ρ' _ => ∃n,xG X H0 c body n ρ ρ') ?_ ?_ ?_ ?_ ?_ ?_ ?_ ?_ ?_ h
 ·intro ss ρ fl h;exact Hw G hp h
 ·intro n ss ρ ρ1 fl h k ih;rw[<- List.take_append_drop n ss];exact m8 G hp h ih
 ·intro e x d kvs k p q pos a b ss ρ ρ1 t fl hΔ he ht gd h k i1 i2
  refine dS (uD (ht ▸ Dg (hD _ _ hΔ) (G.gl _ gd) ((bA he G).ed rfl)) ?_) i2
  cases t with
  | true=>rw[if_pos rfl];exact i1
  | false=>rw[if_neg Bool.false_ne_true];exact i1
 ·intro e x d y kvs i c k n p p1 p2 p3 py q ss ρ fl hΔ he hs hv gd hy k ih
  exact dS (hX G hy (rz (Cv (hD _ _ hΔ) (G.gl _ gd) ((bA he G).ed rfl) hs hv) (wY rfl) (show g8 .Add (.int _) (.int _) 0 0=.ok (.int _,0) []from rfl) True.intro) (.inl ⟨rfl,rfl⟩) (eg rfl)) ih
 ·intro es n1 n0 tp p pos ep p0 kp e f body ss ρ ρ1 l k' fl he hl hk hf gf h k ih
  subst hf
  obtain⟨l7,h7,p7⟩:=he
  obtain⟨hst,_⟩:=bQ h7 p7
  have hI:=yE (X:=X) (es:=es) (n1:=n1) (n0:=n0) (tp:=tp) (p:=p) (pos:=ep) (p0:=p0) (kp:=kp) (G.gl _ gf) (G.bl _ (by decide +kernel)) (eV [e] h7 p7 G) (hst e List.mem_cons_self) hl
  have el:(l.mapIdx fun i x=>D.tup [.int ((i+1:Nat):Int),x])=jO 1 l:=by
   rw[kl]
   congr 1
   funext i x
   rw[Nat.add_comm]
  rw[el]at hI
  exact dS (tz hp G.calm hI hk (FM G hp h) fun x=>rfl) ih
 ·intro e i z x l m j c k ki kz p1 p2 px q ss ρ fl hz hi h0 h6 h1 hc he hn hx k ih
  obtain⟨l7,h7,p7⟩:=id hi
  have hbn:1+m.length<=cg:=Nat.le_trans (show 1+m.length<=1000 by omega) (by decide)
  exact dS (hX G hx (rz (F3 ((bA hz G).ed rfl) ((bA hi G).ed rfl) (iD h7) h0 h6 h1 hc) ((bA he G).ed rfl) (show g8 .Add (.str _) (.str _) 0 _=.ok (.str _,0) _ from rfl) ⟨hbn,True.intro⟩) (.inl ⟨rfl,rfl⟩) (eg rfl)) ih
 ·intro c body ss pos ρ ρ1 fl h k i1 i2
  obtain⟨n,hn⟩:=i1
  exact dS (DE hp hn) i2
 ·intro c body ρ k hc;exact⟨1,.inl ⟨(bA hc G).td rfl false rfl,rfl⟩⟩
 ·intro c body ρ ρ1 ρ2 k hc h k i1 i2
  obtain⟨n,hn⟩:=i2
  exact⟨n+1,.inr ⟨(bA hc G).td rfl true rfl,_,i1,hn⟩⟩
theorem rB{l:List (Str×List (Str×Int))}(h:∀q∈l,jV P w K mg q.1 q.2):∀d kvs,(fun d:Str=>l.lookup d) d=some kvs->jV P w K mg d kvs:=fun d kvs e=>h (d,kvs) (PySem.mem_of_lookup e)
def pE(Φ:Fx)(Δ:jU)(sc:Scope)(ps:List Str)(ss:List Stmt)(ds:List D)(r:D):Prop:=ds.length=ps.length/\Rd Φ Δ sc ss (d0 ps ds) (.rt r)
theorem nU{base:Heap}{g qual:Str}{st:Stmt}{f:Addr}{fd:FuncData}{ps:List Str}{Δ:jU}{F:List D->Rs D}(Fn:jf K g qual st f fd)
  (S:aK (aw (aa st)) ps (aa st)) (hΦ:mV P w K mg base k Φ) (hD:∀d kvs,Δ d=some kvs->jV P w K mg d kvs) (hrun:∀ds r,ab (F ds) r->pE Φ Δ (aa st) ps (ak st) ds r):bF P w K mg base df (k+1) f fd ps (jo K F):=by
 refine Fn.ok S (fun vs H Q E h=>?_) (fun cdv A outer s H vs Q E hr h=>?_)
 ·obtain⟨ds,r,l,h1,h2,hp,_⟩:=h
  rw[<- h1.length]
  exact(hrun ds r ⟨l,h2,hp⟩).1
 ·obtain⟨ds,r,l,h1,h2,hp,qq⟩:=h
  obtain⟨hl,hr'⟩:=hrun ds r ⟨l,h2,hp⟩
  have G:=kg (outer:=outer) (H:=H) (E:=E) S hΦ hr
  obtain⟨E0,hsl⟩:=mC (P:=P) (w:=w) (mg:=mg) (base:=base) (qual:=qual) (f:=f) (cdv:=cdv) (A:=A) (outer:=outer) (s:=s) (E:=E) S h1 hl
  have B0:cH H (fun _=>none) H:=fun a o h=>⟨h,rfl⟩
  exact⟨_,Hy (H0:=H) G PassesOwn.never hD hr',fun _=>none,E0,hsl,B0,fun v H' sm rp=>qq v H' sm rp⟩
end Sp
namespace K
open PySem L2 Sp Qm
variable{ws:List (List Nat)}{ns:List Int}{c x:Int}
def C7:Stmt->Expr
 | .While c _ _ _=>c
 | _=>.Constant .none 0 ⟨0,0,0,0⟩
def zA:Stmt->List Stmt
 | .While _ b _ _=>b
 | _=>[]
def rD(m:Nat):List Nat:=if m=0 then[]else cC m
theorem Au:∀c,c<10->(Nat.digitChar c).toNat=48+c:=by decide
theorem wZ(m:Nat):cC m=rD (m / 10)++[48+m % 10]:=by
 unfold rD cC
 by_cases h:m<10
 ·rw[Nat.toDigits_of_lt_base h,if_pos (by omega),Nat.mod_eq_of_lt h]
  show[_]=[_]
  rw[Au m h]
 ·rw[Nat.toDigits_of_base_le (by decide) (by omega),if_neg (by omega),List.map_append]
  show _++[_]=_++[_]
  rw[Au _ (Nat.mod_lt _ (by decide))]
theorem yT{m:Nat}(h:0<m):rD m=rD (m / 10)++[48+m % 10]:=by rw[<- wZ];exact if_neg (by omega)
theorem FL:∀c,c<10->vd.cps[c]?=some (48+c):=by decide +kernel
theorem tj:∀ws:List (List Nat),eQ (ws.map fun w=>D.str (sN w))=some (ws.map sN)
 | []=>rfl
 | w::ws=>by
  show(eQ (ws.map fun w=>D.str (sN w))).map (sN w :: ·)=_
  rw[tj ws];rfl
theorem vV:∀{ws:List (List Nat)},(∀w∈ws,w.length<=43)->((ws.map sN).map fun y=>y.length).sum<=43*ws.length
 | [],_=>Nat.zero_le _
 | w::ws,h=>by
  have h1:=h w List.mem_cons_self
  have h2:=vV (ws:=ws) fun v hv=>h v (List.mem_cons_of_mem _ hv)
  rw[List.map_cons,List.map_cons,List.sum_cons,ck,List.length_cons]
  omega
theorem uA:Str.ofString " " = sN [32]:=by rw[jA];rfl
theorem wB(hn:ws.length<=100)(h:∀w∈ws,w.length<=43):ab (lT (.str (Str.ofString " ")) [.lst (ws.map fun w=>D.str (sN w))]) (.str (sN (jn ws)),0):=by
 have h1:=vV h
 rw[uA]
 unfold lT
 dsimp only
 rw[tj]
 refine ab.eq ⟨_,rfl,by rw[ck];decide,by rw[List.length_map];omega,True.intro⟩ ?_
 rw[Ca]
theorem wU:∀{ws:List (List Nat)},(∀w∈ws,w.length<=43)->(ws.flatMap fun p=>32::p).length<=44*ws.length
 | [],_=>Nat.zero_le _
 | w::ws,h=>by
  have h1:=h w List.mem_cons_self
  have h2:=wU (ws:=ws) fun v hv=>h v (List.mem_cons_of_mem _ hv)
  rw[List.flatMap_cons,List.length_append,List.length_cons,List.length_cons]
  omega
theorem Al(h:∀w∈ws,w.length<=43):(jn ws).length<=44*ws.length:=by
 cases ws with
 | nil=>exact Nat.zero_le _
 | cons w ws =>
  have h1:=h w List.mem_cons_self
  have h2:=wU (ws:=ws) fun v hv=>h v (List.mem_cons_of_mem _ hv)
  unfold jn
  rw[List.length_append,List.length_cons]
  omega
theorem A6(h0:ws≠[])(hf:∀w∈ws,dD w)(hn:ws.length<=100)(h:∀w∈ws,w.length<=43):ab (lS (.str (sN (jn ws))) [.str (Str.ofString " ")]) (.lst (ws.map fun w=>D.str (sN w)),0):=by
 have hz:(sN (jn ws)).length<=1048576:=by rw[ck];have:=Al h;omega
 have hb:((Str.ofString " ").length==0)=false:=by decide +kernel
 have e:(ws.map fun w=>D.str (sN w))=(Txt.split (sN (jn ws)) (Str.ofString " ")).map D.str:=by rw[uA,pU h0 hf,List.map_map];rfl
 rw[e]
 exact⟨_,rfl,hb,hz,True.intro⟩
theorem AV(i:Int):dD (bD i):=fun h=>by rcases sT i 32 h with z|z<;>omega
theorem Jb(h:ns.length=3):∃a b c,ns=[a,b,c]:=by
 match ns,h with
 | [a,b,c],_=>exact⟨a,b,c,rfl⟩
theorem NB(h:ns.length=4):∃a b c d,ns=[a,b,c,d]:=by
 match ns,h with
 | [a,b,c,d],_=>exact⟨a,b,c,d,rfl⟩
def tG:List D->Option (List Int)
 | []=>some []
 | .str x::l=>(match intText? x,tG l with|some i,some is=>some (i::is)|_,_=>none)
 | _::_=>none
def bR(n:Int):D:=.str (sN (bD n))
theorem qi:∀{ns:List Int},(∀n∈ns,n.natAbs<10 ^ 40)->tG (ns.map bR)=some ns
 | [],_=>rfl
 | n::ns,h=>by
  have h1:=hV (h n List.mem_cons_self)
  rw[List.map_cons]
  unfold bR
  rw[tG,wI (by omega)]
  have:=qi (ns:=ns) fun v hv=>h v (List.mem_cons_of_mem _ hv)
  unfold bR at this
  rw[this]
theorem lF:∀ns:List Int,ao (ns.map bR)=true
 | []=>rfl
 | n::ns=>by rw[List.map_cons];exact lF ns
theorem Go(x:D):∀{ns:List Int},ns.length<=4->gY (x::ns.map bR) (some 1) none=ns.map bR
 | [],_=>rfl
 | [_],_=>rfl
 | [_,_],_=>rfl
 | [_,_,_],_=>rfl
 | [_,_,_,_],_=>rfl
 | _::_::_::_::_::_,h=>by simp only[List.length_cons]at h;omega
theorem ma:∀ns:List Int,ao (ns.map D.int)=true
 | []=>rfl
 | n::ns=>by rw[List.map_cons];exact ma ns
theorem xW{i:Int}(h0:0<=i)(h1:i<3)(a b c v:Int):∃a' b' c':Int,ld [.int a,.int b,.int c] i (.int v)=some [.int a',.int b',.int c']/\(∀P:Int->Prop,P a->P b->P c->P v->P a'/\P b'/\P c')/\(v≠0 -> ¬ (a'=0/\b'=0/\c'=0)):=by
 have:i=0\/i=1\/i=2:=by omega
 rcases this with rfl|rfl|rfl
 ·exact⟨v,b,c,rfl,fun P p1 p2 p3 p5=>⟨p5,p2,p3⟩,fun h z=>h z.1⟩
 ·exact⟨a,v,c,rfl,fun P p1 p2 p3 p5=>⟨p1,p5,p3⟩,fun h z=>h z.2.1⟩
 ·exact⟨a,b,v,rfl,fun P p1 p2 p3 p5=>⟨p1,p2,p5⟩,fun h z=>h z.2.2⟩
theorem MV(a b c:Int):(([a,b,c]:List Int).any fun n=>n != 0) = !decide (a=0/\b=0/\c=0):=by
 by_cases h1:a=0<;>by_cases h2:b=0<;>by_cases h3:c=0<;>simp[h1,h2,h3]
theorem fj(hx:x≠0):x*10 ^ Int.toNat 19+c.fmod (10 ^ Int.toNat 19)≠0:=by
 have h0:=Int.fmod_nonneg_of_pos c (show(0:Int)<10 ^ Int.toNat 19 by decide)
 have h1:=Int.fmod_lt_of_pos c (show(0:Int)<10 ^ Int.toNat 19 by decide)
 have e:(10:Int) ^ Int.toNat 19=10000000000000000000:=by decide
 rw[e]at h0 h1⊢
 omega
theorem fk(hx:bi x):(x*10 ^ Int.toNat 19+c.fmod (10 ^ Int.toNat 19)).natAbs<10 ^ 40:=by
 have h0:=Int.fmod_nonneg_of_pos c (show(0:Int)<10 ^ Int.toNat 19 by decide)
 have h1:=Int.fmod_lt_of_pos c (show(0:Int)<10 ^ Int.toNat 19 by decide)
 have e:(10:Int) ^ Int.toNat 19=10000000000000000000:=by decide
 unfold bi at hx
 rw[e]at h0 h1⊢
 omega
theorem er(h:bi x):x.natAbs<10 ^ 40:=by unfold bi at h;omega
theorem cI(h:x.natAbs<10 ^ 40):x.natAbs<=2 ^ 140:=Nat.le_of_lt (Nat.lt_trans h (by decide))
end K
namespace Att
open PySem PySem.W PySem.Calls PyProof.Rows
theorem lE:∀(ns:List Int) (m:Int),m∈ns->Builtin.Int.intBits m<=WData.weightAll (ns.map WData.int)
 | n::ns,m,h=>by
  rw[List.map_cons,WData.weightAll,WData.weight]
  rcases List.mem_cons.mp h with rfl|h
  ·unfold Builtin.Int.intBits;omega
  ·have:=lE ns m h;omega
theorem CK{ns:List Int}(h:WData.layableAll [WData.list (ns.map WData.int)]=true):∀m∈ns,Builtin.Int.intBits m<=2 ^ 20:=fun m hm=>by
 unfold WData.layableAll at h
 have h1:WData.layable (WData.list (ns.map WData.int))=true:=by simpa using h
 unfold WData.layable at h1
 have h2:=(Bool.and_eq_true_iff.mp h1).2
 have h3:=of_decide_eq_true h2
 rw[WData.weight]at h3
 exact Nat.le_trans (lE ns m hm) h3
theorem attach_callB{l:OpenLaw}{n:Nat}{q:Program}{loose:List Str}{XP:(Str->Option Value)->Heap->Prop}{YP:World->Heap->Prop}{d:DefRec}
  (hn:l.most=some n) (hdf:d.params.defaults=[])
  (call:∀(w:World) (s₀ s₁:Shared) (mg mb:Str->Option Value) (fa:Addr) (o:Obj) (pm cd doc:Value) (a:Addr) (vs:List Value) (ns:List Int),
   Ground q loose [] XP w s₀ mg mb s₁.heap->YP w s₁.heap ->
   s₁.heap.get? fa=some o->o.data=.func (docDef d.name d.params d.body d.scope pm cd doc)->s₁.heap.CodeRec cd d.name->mg d.name=some (.ref fa) ->
   s₁.heap.get? a=some { cls:=.type "list", data:=.seq vs.toArray }->IntsAre vs ns->ns.length<=n->(∀m∈ns,Builtin.Int.intBits m<=2 ^ 20)->s₁.gens = #[] ->
   codeAny (model l.prog w) callerA (.call (.ref fa) ⟨[.ref a],[]⟩) (fun r s'=>r=.ok (.ret (.bool true))/\OldK s₁.heap s'.heap/\s'.os=s₁.os/\AllBare s'.gens) s₁) :
  WalkO q loose XP YP l.row.toRowW d [] (fun f vs=>PySem.call f vs):=by
 intro w s₀ s₁ mg mb G Y fa o pm cd doc dV kV ho hd hcd hD hmg hg args vals as hpre hlay hrd hwl hlo
 obtain rfl:dV=.none:=Dflts.none hD hdf
 obtain rfl:kV=.none:=Dflts.noKw hD
 obtain⟨a,vs,ns,rfl,rfl,hobj,hints,hlen⟩:=oF hn hpre hwl
 have hbits:=CK hlay
 refine enter_call (codeAny_mono (call w s₀ s₁ mg mb fa o pm cd doc a vs ns G Y ho (fd_plain hd) hcd hmg hobj hints hlen hbits hg) fun r s' hq=>?_)
 obtain⟨rfl,h2,h3,h4⟩:=hq
 exact⟨.inl ⟨.bool true,.bool true,[],rfl,fun _=>rfl,.bool true,oH l _,fun _=>⟨List.Pairwise.nil,fun _ hm=>(nomatch hm)⟩⟩,h2,h3,h4⟩
end Att
namespace L2
open PySem PySem.Spec PyProof.Rows
theorem walk_ofB{l:W.OpenLaw}{n k:Nat}{q:Program}{loose:List Str}{XP:(Str->Option Value)->Heap->Prop}{YP:World->Heap->Prop}{d:DefRec}{K:Params->W.Frag}{CX:World->gM}{sp:World->Sp}{x:Str}
  (hn:l.most=some n) (hn2:n<=sizeLine) (hdf:d.params.defaults=[]) (hr:bP k callerA)
  (hY:∀(w:World) (h:Heap),YP w h->(K w.params).In h)
  (F:∀(w:World) (mg:Str->Option Value) (fa:Addr) (h:Heap),(K w.params).In h->h.Ns mainGlobals mg->mg d.name=some (.ref fa) ->
   ∃fd:FuncData,(∀(s:Shared) (u:Value),BindsTo s fd ⟨[u],[]⟩ [(x,u)]) /\
    ∀base:Heap,(K w.params).In base->base.Ns mainGlobals mg->bF l.prog w (K w.params) mg base (CX w) k fa fd [x] (sp w))
  (hsp:∀(w:World) (H:Hp) (a:Addr) (ns:List Int),ns.length<=n->(∀m∈ns,Builtin.Int.intBits m<=2 ^ 20)->r6 H->bL (K w.params) H a (ns.map V.int)->sp w [.ref a] H (fun v _=>v=.bl true) fun _ _ _=>False)
  (hCX:∀(w:World) (H:Hp) (s:Shared) (e:Value) (s':Shared),CX w [] H s (fun _ _ _=>False) e s'->False) :
  W.WalkO q loose XP YP l.row.toRowW d [] (fun f vs=>PySem.call f vs):=by
 refine Att.attach_callB hn hdf fun w s₀ s₁ mg mb fa o pm cd doc a vs ns G Y ho hd hcd hmg hobj hints hlen hbits hg=>?_
 have KX:=hY w _ Y
 obtain⟨fd,hb,hF⟩:=F w mg fa _ KX G.T.g hmg
 exact qO KX G.T.g G.T.b G.T.builtins G.T.nolimit hg hobj hints (Nat.le_trans hlen hn2) hr hF hb (fun H hO hS=>hsp w H a ns hlen hbits hO hS) fun H e s'=>hCX w H s₁ e s'
end L2
namespace K
open PySem L2 Sp
variable{L:List D}{a b c d i k x y z:Int}{C g w:Str}{ns:List Int}{u:V3}{r:D}{j n:Nat}{P:Int->Prop}{k0:W.Frag}{mg:Str->Option Value}{base:Heap}{F:List D->Rs D}{l:List (Str×(List D->Rs D))}{q:Program}{loose:List Str}{XP:(Str->Option Value)->Heap->Prop}
def ai(i:Nat):Stmt:=PySem.Challenge.pw_spaceturns_k40_deeds_as_texts.main.body.getD i (.Pass ⟨0,0,0,0⟩)
local macro_rules | `(tactic| walk_at "leaf") => `(tactic| first | ((with_reducible apply BM);decide) | ((with_reducible apply BN);decide) | ((with_reducible apply CB) <;> decide) | ((with_reducible apply tP) <;> (with_reducible assumption)) | ((with_reducible apply Bu) <;> decide) | ((with_reducible refine Eq.trans ?_ rfl);exact rfl) | ((with_reducible apply y4);(with_reducible assumption)) | ((with_reducible apply Et);assumption) | exact Nat.le_of_ble_eq_true rfl|exact Or.inl rfl|exact Or.inr rfl|exact Or.inr (Nat.le_refl 1) | exact Or.inr (Nat.zero_le 1) | decide|decide +kernel)
local macro_rules | `(tactic| walk_at "ob") => `(tactic| (repeat' (first|with_reducible exact True.intro|with_reducible exact zo|with_reducible apply vt|with_reducible apply zn|with_reducible apply sG|with_reducible assumption | ((with_reducible apply d8);intro hgd) | walk_at "leaf")))
local macro_rules | `(decl_name%) => `(dy rfl (by walk_at "ob"))
def BL:List (Str×(List D->R1)):=[("len", vj),("tuple", rR),("abs", zl),("all", oa),("any", vk),("isinstance", zg),("int", kA),("str", zc),("min", zd)]
def IL:List (Str×(List D->Nat->R1)):=[("range", qY),("enumerate", u7)]
def ML:List (Str×(D->List D->R1)):=[("join", lT),("split", lS),("startswith", EU)]
def TL:List (Str×(List D->List D->Nat->Rs (List D))):=[("append", nJ)]
def zq:Fx:=Tb [] [] BL IL ML TL bh
def zt:List D->Rs D:=cm zq (aa (ai 35)) ["_law_script", "_law_k"] (ak (ai 35))
def iZ:List D->Rs D:=zT dL dI fun l k=>.ok (.int (cG l k)) [okL l]
theorem sM:∀ds r,ab (iZ ds) r->ab (zt ds) r:=by
 intro ds r h
 obtain⟨l,k,rfl,h⟩:=tt h
 obtain⟨rfl,⟨ns,rfl⟩,_⟩:=d7 h
 refine bz (cP 1 (dy rfl True.intro) (jZ (dy rfl True.intro) (fun ht=>?_) (fun hf=>?_)))
 ·have hl:(ns.map D.int).length=ns.length:=by simp
  have hp:(0:Int)<((ns.map D.int).length:Nat):=by simpa using ht
  have hi:L2.atI (ns.map D.int) (k.fmod (((ns.map D.int).length:Nat):Int))=some (.int (dZ ns k)):=by
   rw[hl]at hp⊢
   have hne:ns≠[]:=by intro z;subst z;simp at hp
   unfold dZ
   rw[if_neg hne]
   exact C2 (Int.fmod_nonneg_of_pos _ hp) (Int.fmod_lt_of_pos _ hp)
  refine aP (aY (d:=.int (dZ ns k)) (my (dy rfl True.intro) (dy rfl ⟨Int.ne_of_gt hp,True.intro⟩) rfl hi)) ?_
  refine decl_name%.eq ?_
  unfold cG mI;rw[iy]
 ·have hp:ns=[]:=by
   cases ns with
   | nil=>rfl
   | cons n ns=>simp at hf
  subst hp
  refine decl_name%.eq ?_
  rfl
def vA:Fx:=Tb [] [] BL IL ML TL bh
def vC:List D->Rs D:=cm vA (aa (ai 37)) ["_law_cell_here", "_law_kind"] (ak (ai 37))
def iY:List D->Rs D:=zT dI dI fun c k=>.ok (.int (nD c k)) [Builtin.Int.intBits c<=2 ^ 21]
theorem o7:∀ds r,ab (iY ds) r->ab (vC ds) r:=by
 intro ds r h
 obtain⟨c,k,rfl,h'⟩:=tt h
 obtain⟨rfl,hb,_⟩:=d7 h'
 have hm:eT c (1000003 ^ Int.toNat 4):=BK (Nat.le_trans hb (by decide)) y9
 unfold nD
 by_cases h1:k.fmod 3=0
 ·rw[if_pos h1]
  exact bz (cW decl_name% (nZ h1) decl_name%)
 ·rw[if_neg h1]
  by_cases h2:k.fmod 3=1
  ·rw[if_pos h2]
   exact bz (be decl_name% ((cz _ _).trans (decide_eq_false h1)) (cW decl_name% (nZ h2) decl_name%))
  ·rw[if_neg h2]
   exact bz (be decl_name% ((cz _ _).trans (decide_eq_false h1)) (be decl_name% ((cz _ _).trans (decide_eq_false h2)) decl_name%))
def db:Fx:=Tb [("_law_cell", iZ),("_law_number", iY)] [] BL IL ML TL bh
def fy:List D->Rs D:=cm db (aa (ai 38)) ["_law_script", "_law_at", "_law_many"] (ak (ai 38))
theorem zZ(hw:i8 L)(k q:Int)(ha:bi a)(hb:bi b)(hc:bi c)(hd:bi d):∃x y z w:Int,(bi x/\bi y/\bi z/\bi w) /\ ¬ (x=0/\y=0/\z=0/\w=0)/\ab (az db ((ak (ai 38)).drop 4) (aa (ai 38)) (bj [("_law_script", .lst L,false),("_law_at", .int k,false),("_law_many", .int 4,false),("_law_kind", .int q,true),("_law_found", .lst [.int a,.int b,.int c,.int d],true)])) (.rt (.tup [.int x,.int y,.int z,.int w])):=by
 have i0:=Int.fmod_nonneg_of_pos (q.fdiv 9) (show(0:Int)<4 by decide)
 have i1:=Int.fmod_lt_of_pos (q.fdiv 9) (show(0:Int)<4 by decide)
 have j0:=Int.fmod_nonneg_of_pos (q.fdiv 36) (show(0:Int)<2 by decide)
 have j1:=Int.fmod_lt_of_pos (q.fdiv 36) (show(0:Int)<2 by decide)
 have an:=MU a b c d
 by_cases h:a=0/\b=0/\c=0/\d=0
 ·rw[decide_eq_true h]at an
  obtain⟨x,y,z,w,e,hp,hn⟩:=xV i0 i1 a b c d (1-2*(q.fdiv 36).fmod 2)
  refine⟨x,y,z,w,hp bi ha hb hc hd (by unfold bi;generalize (q.fdiv 36).fmod 2=t at *;omega),hn (by omega),?_⟩
  exact cW (decl_name%.bl (c:=true) (by show(!(([a,b,c,d]:List Int).any fun n=>n != 0))=true;rw[an];rfl)) rfl (aP (il rfl decl_name% decl_name% e rfl rfl) decl_name%)
 ·rw[decide_eq_false h]at an
  refine⟨a,b,c,d,⟨ha,hb,hc,hd⟩,h,?_⟩
  exact be (decl_name%.bl (c:=false) (by show(!(([a,b,c,d]:List Int).any fun n=>n != 0))=false;rw[an];rfl)) rfl decl_name%
theorem Aa(hw:i8 L)(k q:Int)(ha:bi a)(hb:bi b)(hc:bi c)(hd:bi d):∃x y z w:Int,(bi x/\bi y/\bi z/\bi w) /\ ¬ (x=0/\y=0/\z=0/\w=0)/\ab (az db ((ak (ai 38)).drop 3) (aa (ai 38)) (bj [("_law_script", .lst L,false),("_law_at", .int k,false),("_law_many", .int 4,false),("_law_kind", .int q,true),("_law_found", .lst [.int a,.int b,.int c,.int d],true)])) (.rt (.tup [.int x,.int y,.int z,.int w])):=by
 have hl:=hw.okL
 have i0:=Int.fmod_nonneg_of_pos (q.fdiv 9) (show(0:Int)<4 by decide)
 have i1:=Int.fmod_lt_of_pos (q.fdiv 9) (show(0:Int)<4 by decide)
 by_cases h:(q.fdiv 3).fmod 3=2
 ·obtain⟨x,y,z,w,e,hp,hn⟩:=xV i0 i1 a a a a (nD (cG L (k+2)) q)
  obtain⟨hx,hy,hz,hw'⟩:=hp bi ha ha ha ha (eS _ _)
  obtain⟨x',y',z',w',h1,h2,h3⟩:=zZ hw k q hx hy hz hw'
  refine⟨x',y',z',w',h1,h2,?_⟩
  exact cW decl_name% (nZ h) (cP 1 decl_name% (aP (il rfl decl_name% decl_name% e rfl rfl) (bp (ah rfl (ah rfl (ah rfl (ah rfl (ah rfl aE))))) h3)))
 ·obtain⟨x',y',z',w',h1,h2,h3⟩:=zZ hw k q ha hb hc hd
  refine⟨x',y',z',w',h1,h2,?_⟩
  exact be decl_name% ((cz _ _).trans (decide_eq_false h)) h3
theorem HM(hw:i8 L)(k q:Int)(ha:bi a)(hb:bi b)(hc:bi c)(hd:bi d):∃x y z w:Int,(bi x/\bi y/\bi z/\bi w) /\ ¬ (x=0/\y=0/\z=0/\w=0)/\ab (az db ((ak (ai 38)).drop 2) (aa (ai 38)) (bj [("_law_script", .lst L,false),("_law_at", .int k,false),("_law_many", .int 4,false),("_law_kind", .int q,true),("_law_found", .lst [.int a,.int b,.int c,.int d],true)])) (.rt (.tup [.int x,.int y,.int z,.int w])):=by
 have hl:=hw.okL
 have i0:=Int.fmod_nonneg_of_pos (q.fdiv 9) (show(0:Int)<4 by decide)
 have i1:=Int.fmod_lt_of_pos (q.fdiv 9) (show(0:Int)<4 by decide)
 by_cases h:(q.fdiv 3).fmod 3=1
 ·obtain⟨x,y,z,w,e,hp,hn⟩:=xV i0 i1 a b c d 0
  obtain⟨hx,hy,hz,hw'⟩:=hp bi ha hb hc hd (Nat.zero_le _)
  obtain⟨x',y',z',w',h1,h2,h3⟩:=Aa hw k q hx hy hz hw'
  refine⟨x',y',z',w',h1,h2,?_⟩
  exact cW decl_name% (nZ h) (aP (il rfl decl_name% decl_name% e rfl rfl) (bp (ah rfl (ah rfl (ah rfl (ah rfl (ah rfl aE))))) h3))
 ·obtain⟨x',y',z',w',h1,h2,h3⟩:=Aa hw k q ha hb hc hd
  refine⟨x',y',z',w',h1,h2,?_⟩
  exact be decl_name% ((cz _ _).trans (decide_eq_false h)) h3
theorem EJ(hw:i8 L)(k:Int):∃x y z w:Int,(bi x/\bi y/\bi z/\bi w) /\ ¬ (x=0/\y=0/\z=0/\w=0)/\ab (fy [.lst L,.int k,.int 4]) (.tup [.int x,.int y,.int z,.int w]):=by
 have hl:=hw.okL
 obtain⟨x',y',z',w',h1,h2,h3⟩:=HM hw k (cG L k) (eS (cG L (k+1+0)) (cG L k)) (eS (cG L (k+1+1)) (cG L k)) (eS (cG L (k+1+2)) (cG L k)) (eS (cG L (k+1+3)) (cG L k))
 exact⟨x',y',z',w',h1,h2,bz (cP 2 decl_name% (bp (ah rfl (ah rfl (ah rfl (ah rfl (ah rfl aE))))) h3))⟩
def dH:Fx:=Tb [] [] BL IL ML TL bh
def d6:jU:=fun g=>([]:List (Str×List (Str×Int))).lookup g
def fx:List D->Rs D:=Ds dI fun x=>.ok (.str (sN (bD x))) [x.natAbs<10 ^ 40]
theorem C6(x:Int)(m:Nat)(l:List Nat)(ρ:ae)(hc:0<m\/l=[])(hl:l.length<100)(ha:∀c∈l,c<128)(s:Sub (bj [("_law_number_here", .int x,false),("_law_figures", .str (sN l),true),("_law_rest", .int (m:Nat),true)]) ρ) :
  ∃ρ2,ab (au dH (C7 ((ak (ai 41)).getD 2 (.Pass ⟨0,0,0,0⟩))) false (aa (ai 41)) ρ) (.bl true,0)/\Rd dH d6 (aa (ai 41)) (zA ((ak (ai 41)).getD 2 (.Pass ⟨0,0,0,0⟩))) ρ (.nx ρ2)/\Sub (bj [("_law_number_here", .int x,false),("_law_figures", .str (sN ((48+m % 10)::l)),true),("_law_rest", .int ((m / 10):Nat),true)]) ρ2:=by
 have ek:gj (.str (sN l)) (.str (Str.ofString ""))=true:=iU (ph ha) (by decide +kernel)
 have hr:(m:Int).fmod 10=((m % 10:Nat):Int):=by rw[Int.fmod_eq_emod_of_nonneg _ (by decide)];rfl
 have hd:(m:Int).fdiv 10=((m / 10:Nat):Int):=by rw[Int.fdiv_eq_ediv_of_nonneg _ (by decide)];rfl
 have e1:(⟨#[48+m % 10]⟩:Str)++sN l=sN ((48+m % 10)::l):=fB [48+m % 10] l
 have s1:Sub (bj [("_law_number_here", .int x,false),("_law_figures", .str (sN ((48+m % 10)::l)),true),("_law_rest", .int (m:Nat),true)]) (bo ρ (Str.ofString "_law_figures") (.str ((⟨#[48+m % 10]⟩:Str)++sN l),true)):=by
  rw[e1]
  exact ah (s.put _ _).get (ah (s.put _ _).get (ah (s.put _ _).get aE))
 obtain⟨ρ2,h2,s2⟩:=dA (ss:=(zA ((ak (ai 41)).getD 2 (.Pass ⟨0,0,0,0⟩))).drop 1) (Φ:=dH) (sc:=aa (ai 41)) (P:=fun ρ'=>Sub (bj [("_law_number_here", .int x,false),("_law_figures", .str (sN ((48+m % 10)::l)),true),("_law_rest", .int ((m / 10):Nat),true)]) ρ') s1 decl_name% (fun ρ' z=>ah z.get (ah z.get (ah (by rw[<- hd];exact z.get) aE)))
 refine⟨ρ2,dW s (dX (rk (b:=decide ((0:Int)<(m:Nat))) decl_name% (fun z=>rk (b:=true) ((decl_name%).bl ?_) (fun z=>by cases z) fun _=>rfl) fun _=>rfl)),?_,s2⟩
 ·have:=of_decide_eq_false z
  have e:l=[]:=by rcases hc with q|q;omega;exact q
  subst e
  show eqD (.str (sN [])) (.str (Str.ofString ""))=true
  rw[gk,jA]
  exact decide_eq_true rfl
 ·refine Rd.setT (l:=vd) (m:=sN l) (j:=(m:Int).fmod 10) (c:=48+m % 10) (dW s decl_name%) (dW s decl_name%) (by rw[hr];omega) (by rw[hr];omega) ?_ ?_ (dW s decl_name%) (by rw[ck];omega) rfl (Rd.rf (.base h2))
  ·rw[hr]
   have:vd.length=10:=by decide +kernel
   rw[this];omega
  ·rw[hr];exact FL _ (Nat.mod_lt _ (by decide))
theorem Hf(x:Int):∀(n m:Nat) (l:List Nat) (ρ:ae),l≠[]->l.length+n<=41->(∀c∈l,c<128)->m<10 ^ n->Sub (bj [("_law_number_here", .int x,false),("_law_figures", .str (sN l),true),("_law_rest", .int (m:Nat),true)]) ρ ->
  ∃ρ',Wr dH d6 (aa (ai 41)) (C7 ((ak (ai 41)).getD 2 (.Pass ⟨0,0,0,0⟩))) (zA ((ak (ai 41)).getD 2 (.Pass ⟨0,0,0,0⟩))) ρ ρ'/\Sub (bj [("_law_number_here", .int x,false),("_law_figures", .str (sN (rD m++l)),true)]) ρ':=by
 have z0:∀(l:List Nat) (ρ:ae),l≠[]->(∀c∈l,c<128)->Sub (bj [("_law_number_here", .int x,false),("_law_figures", .str (sN l),true),("_law_rest", .int (0:Nat),true)]) ρ->∃ρ',Wr dH d6 (aa (ai 41)) (C7 ((ak (ai 41)).getD 2 (.Pass ⟨0,0,0,0⟩))) (zA ((ak (ai 41)).getD 2 (.Pass ⟨0,0,0,0⟩))) ρ ρ'/\Sub (bj [("_law_number_here", .int x,false),("_law_figures", .str (sN l),true)]) ρ':=by
  intro l ρ hl ha s
  have ek:gj (.str (sN l)) (.str (Str.ofString ""))=true:=iU (ph ha) (by decide +kernel)
  refine⟨ρ,.no (dW s (dX (b4 decl_name% (b4 ((decl_name%).bl ?_) eY)))),ah s.get (ah s.get aE)⟩
  show eqD (.str (sN l)) (.str (Str.ofString ""))=false
  rw[gk,jA]
  exact decide_eq_false fun z=>hl (qd z)
 intro n
 induction n with
 | zero =>
  intro m l ρ hl hn ha hm s
  have e:m=0:=by omega
  subst e
  exact z0 l ρ hl ha s
 | succ n ih =>
  intro m l ρ hl hn ha hm s
  by_cases h0:m=0
  ·subst h0;exact z0 l ρ hl ha s
  ·obtain⟨ρ2,c1,c2,s2⟩:=C6 x m l ρ (.inl (by omega)) (by omega) ha s
   have ha':∀c∈(48+m % 10)::l,c<128:=by intro c hc;rcases List.mem_cons.mp hc with rfl|hc;omega;exact ha c hc
   obtain⟨ρ3,w,s3⟩:=ih (m / 10) ((48+m % 10)::l) ρ2 (fun z=>by cases z) (by simp only[List.length_cons];omega) ha' (by rw[Nat.pow_succ]at hm;omega) s2
   refine⟨ρ3,.yes c1 c2 w,?_⟩
   rw[yT (by omega),List.append_assoc]
   exact s3
theorem og:∀ds r,ab (fx ds) r->pE dH d6 (aa (ai 41)) ["_law_number_here"] (ak (ai 41)) ds r:=by
 intro ds r h
 obtain⟨x,rfl,h'⟩:=A7 h
 obtain⟨rfl,hx,_⟩:=d7 h'
 refine⟨rfl,?_⟩
 have s0:Sub (bj [("_law_number_here", .int x,false),("_law_figures", .str (sN []),true),("_law_rest", .int (x.natAbs:Nat),true)]) (bo (bo (d0 ["_law_number_here"] [.int x]) (Str.ofString "_law_figures") (.str (Str.ofString ""),true)) (Str.ofString "_law_rest") (.int (if x<0 then -x else x),true)):=by
  rw[C4,show Str.ofString "" = sN [] by rw[jA];rfl]
  exact ah rfl (ah rfl (ah rfl aE))
 obtain⟨ρ1,c1,c2,s1⟩:=C6 x x.natAbs [] _ (.inr rfl) (by decide) (fun c hc=>by cases hc) s0
 obtain⟨ρ2,w,s2⟩:=Hf x 40 (x.natAbs / 10) [48+x.natAbs % 10] ρ1 (fun z=>by cases z) (Nat.le_refl 41) (by intro c hc;rcases List.mem_cons.mp hc with rfl|hc;omega;cases hc) (by omega) s1
 rw[<- wZ]at s2
 have hd:=rE (m:=x.natAbs) (k:=40) (by decide) hx
 refine Rd.cut 2 decl_name% (Rd.wh (.yes c1 c2 w) (Rd.rf (.base (bp s2 ?_))))
 by_cases hn:x<0
 ·have hl:(Str.ofString "-").length+(sN (cC x.natAbs)).length<=cg:=by
   rw[show Str.ofString "-" = sN [45] by rw[jA];rfl,ck,ck]
   show 1+_<=40000
   omega
  refine cW decl_name% (decide_eq_true hn) ?_
  refine(decl_name%:ab _ (Fl.rt (.str (Str.ofString "-" ++ sN (cC x.natAbs))))).eq ?_
  rw[show Str.ofString "-" = sN [45] by rw[jA];rfl,fB,show bD x=45::cC x.natAbs from if_pos hn];rfl
 ·refine be decl_name% (decide_eq_false hn) ?_
  rw[show bD x=cC x.natAbs from if_neg hn]
  exact decl_name%
def zp:Fx:=Tb [("_law_written", fx)] [] BL IL ML TL bh
def lB:List D->Rs D:=cm zp (aa (ai 42)) ["_law_word", "_law_numbers_here"] (ak (ai 42))
theorem EV{w:List Nat}(hn:ns.length<=4)(hw:w.length<=43)(h:∀n∈ns,n.natAbs<10 ^ 40):ab (lB [.str (sN w),.tup (ns.map D.int)]) (.str (sN (jn (w::ns.map bD)))):=by
 have hj:=wB (ws:=w::ns.map bD) (by rw[List.length_cons,List.length_map];omega) (by
  intro v hv
  rcases List.mem_cons.mp hv with rfl|hv
  ·exact hw
  ·obtain⟨n,hn,rfl⟩:=List.mem_map.mp hv
   have:=hV (h n hn);omega)
 rw[List.map_cons,List.map_map]at hj
 have hc:ab (g8 .Add (.lst [.str (sN w)]) (.lst (ns.map bR)) 0 0) (.lst (.str (sN w)::ns.map bR),0):=⟨_,rfl,by show ao (ns.map bR)=true;exact lF ns,by show 1+(ns.map bR).length<=40000;rw[List.length_map];omega,True.intro⟩
 refine bz (b0 (bN (rn decl_name% (aS (gi (k:=0) (j:=0) decl_name% (lv (l:=ns) (g:=D.int) (f:=bR) (d:=.tup (ns.map D.int)) decl_name% rfl (by show _<=40000;omega) (.inl (ma ns)) fun n hn=>⟨_,rfl,ay decl_name% (F:=fx) ⟨_,rfl,h n hn,True.intro⟩⟩) hc) bU) hj)))
def kR:Fx:=Tb [] [] BL IL ML TL bh
def sO:List D->Rs D:=cm kR (aa (ai 39)) ["_law_numbers_here"] (ak (ai 39))
def dJ:List D->Rs D
 | [.lst l]=>.ok (.int (gX l)) [okT l]
 | [.tup l]=>.ok (.int (gX l)) [okT l]
 | _=>.st
theorem rC(g:Nat)(x:Int)(f:Bool)(hx:x.natAbs=g):ab (az kR ((ak (ai 39)).drop 2) (aa (ai 39)) (bj [("_law_found", .int x,f)])) (.rt (.int g)):=by
 have e:(if x<0 then -x else x)=(g:Int):=by omega
 rw[<- e]
 exact dy rfl (by walk_at "ob")
theorem oh:∀ds r,ab (dJ ds) r->ab (sO ds) r:=by
 intro ds r h
 unfold dJ at h
 split at h
 ·obtain⟨rfl,⟨ns,rfl,hl,hb⟩,_⟩:=d7 h
  rw[iP]
  refine bz (cP 1 decl_name% (m9 (ds:=ns.map D.int) (fun rem ρ => ∃(r:List Int) (x:Int) (f:Bool),rem=r.map D.int/\(∀n∈r,n.natAbs<2 ^ 1000)/\bx x.natAbs r=bx 0 ns/\x.natAbs<2 ^ 1000/\Sub (bj [("_law_found", .int x,f)]) ρ) decl_name% ⟨ns,0,true,rfl,hb,rfl,Nat.pow_pos (by decide),ah rfl aE⟩ ?_ ?_ rfl (Ah (.lst (ns.map D.int)))))
  ·rintro d l ρ ⟨r,x,f,hr,hb',hg,hlt,s⟩
   cases r with
   | nil=>cases hr
   | cons n r =>
    cases hr
    have hn:=hb' n List.mem_cons_self
    refine⟨_,rfl,zB (m:=3000) (fun m ρ => ∃(u v:Int) (f1 f2:Bool),AM u v m/\u.natAbs<2 ^ 1000/\v.natAbs<2 ^ 1000/\Nat.gcd u.natAbs v.natAbs=Nat.gcd x.natAbs n.natAbs/\Sub (bj [("_law_found", .int u,f1),("_law_other", .int v,f2)]) ρ) ⟨x,n,f,false,.inl rfl,hlt,hn,rfl,ah (s.put _ _).get (ah (s.put _ _).get aE)⟩ (by decide) ?_ ?_⟩
    ·rintro m ρ ⟨u,v,f1,f2,hm,hu,hv,hg',s⟩
     refine⟨!decide (v=0),0,dW s (decl_name%.bl (by show(!eqD (.int v) (.int 0))=_;rw[cz])),fun ht=>?_⟩
     have h0:v≠0:=by simpa using ht
     obtain⟨⟨m',hm',hE⟩,hgc,hlt'⟩:=rq hm h0 hv
     exact mW hm' (dA s decl_name% fun ρ' s'=>⟨v,u.fmod v,false,false,hE,hv,hlt',by rw[hgc,hg'],ah s'.get (ah s'.get aE)⟩)
    ·rintro m ρ ⟨u,v,f1,f2,hm,hu,hv,hg',s⟩ ⟨k,hk⟩
     have e:=hk.inj (dW s decl_name%)
     have h0:v=0:=by
      have e1:(!eqD (.int v) (.int 0))=false:=by injection e with e1 e2;injection e1 with e1;exact e1.symm
      rw[cz]at e1
      simpa using e1
     subst h0
     have hg':u.natAbs=Nat.gcd x.natAbs n.natAbs:=by rw[<- hg'];simp
     exact⟨r,u,f1,rfl,fun m hm=>hb' m (List.mem_cons_of_mem _ hm),by rw[hg'];exact hg,hu,ah s.get aE⟩
  ·rintro ρ ⟨r,x,f,hr,hb',hg,hlt,s⟩
   cases r with
   | nil =>
    rw[<- hg]
    exact bp s (rC _ _ _ rfl)
   | cons n r=>cases hr
 ·obtain⟨rfl,⟨ns,rfl,hl,hb⟩,_⟩:=d7 h
  rw[iP]
  refine bz (cP 1 decl_name% (m9 (ds:=ns.map D.int) (fun rem ρ => ∃(r:List Int) (x:Int) (f:Bool),rem=r.map D.int/\(∀n∈r,n.natAbs<2 ^ 1000)/\bx x.natAbs r=bx 0 ns/\x.natAbs<2 ^ 1000/\Sub (bj [("_law_found", .int x,f)]) ρ) decl_name% ⟨ns,0,true,rfl,hb,rfl,Nat.pow_pos (by decide),ah rfl aE⟩ ?_ ?_ rfl (Ah (.tup (ns.map D.int)))))
  ·rintro d l ρ ⟨r,x,f,hr,hb',hg,hlt,s⟩
   cases r with
   | nil=>cases hr
   | cons n r =>
    cases hr
    have hn:=hb' n List.mem_cons_self
    refine⟨_,rfl,zB (m:=3000) (fun m ρ => ∃(u v:Int) (f1 f2:Bool),AM u v m/\u.natAbs<2 ^ 1000/\v.natAbs<2 ^ 1000/\Nat.gcd u.natAbs v.natAbs=Nat.gcd x.natAbs n.natAbs/\Sub (bj [("_law_found", .int u,f1),("_law_other", .int v,f2)]) ρ) ⟨x,n,f,false,.inl rfl,hlt,hn,rfl,ah (s.put _ _).get (ah (s.put _ _).get aE)⟩ (by decide) ?_ ?_⟩
    ·rintro m ρ ⟨u,v,f1,f2,hm,hu,hv,hg',s⟩
     refine⟨!decide (v=0),0,dW s (decl_name%.bl (by show(!eqD (.int v) (.int 0))=_;rw[cz])),fun ht=>?_⟩
     have h0:v≠0:=by simpa using ht
     obtain⟨⟨m',hm',hE⟩,hgc,hlt'⟩:=rq hm h0 hv
     exact mW hm' (dA s decl_name% fun ρ' s'=>⟨v,u.fmod v,false,false,hE,hv,hlt',by rw[hgc,hg'],ah s'.get (ah s'.get aE)⟩)
    ·rintro m ρ ⟨u,v,f1,f2,hm,hu,hv,hg',s⟩ ⟨k,hk⟩
     have e:=hk.inj (dW s decl_name%)
     have h0:v=0:=by
      have e1:(!eqD (.int v) (.int 0))=false:=by injection e with e1 e2;injection e1 with e1;exact e1.symm
      rw[cz]at e1
      simpa using e1
     subst h0
     have hg':u.natAbs=Nat.gcd x.natAbs n.natAbs:=by rw[<- hg'];simp
     exact⟨r,u,f1,rfl,fun m hm=>hb' m (List.mem_cons_of_mem _ hm),by rw[hg'];exact hg,hu,ah s.get aE⟩
  ·rintro ρ ⟨r,x,f,hr,hb',hg,hlt,s⟩
   cases r with
   | nil =>
    rw[<- hg]
    exact bp s (rC _ _ _ rfl)
   | cons n r=>cases hr
 ·exact(am h).elim
def ly:Fx:=Tb [("_law_divisor", dJ)] [] BL IL ML TL bh
def gq:List D->Rs D:=cm ly (aa (ai 40)) ["_law_numbers_here"] (ak (ai 40))
theorem vP(x y z w K:Int)(hK:fq K):ab (az ly ((ak (ai 40)).drop 3) (aa (ai 40)) (bj [("_law_numbers_here", t4 x y z w,false),("_law_by", .int K,true)])) (.rt (t4 (x.fdiv K) (y.fdiv K) (z.fdiv K) (w.fdiv K))):=dy rfl (by walk_at "ob")
theorem Db(hk:k≠0)(p:Pm a b c d)(hT:okT (([k*a,k*b,k*c,k*d]:List Int).map D.int))(kb:k.natAbs<cT):ab (gq [t4 (k*a) (k*b) (k*c) (k*d)]) (t4 a b c d):=by
 have hn:¬ (k*a=0/\k*b=0/\k*c=0/\k*d=0):=fun z=>p.ne ⟨(Int.mul_eq_zero.mp z.1).resolve_left hk,(Int.mul_eq_zero.mp z.2.1).resolve_left hk,(Int.mul_eq_zero.mp z.2.2.1).resolve_left hk,(Int.mul_eq_zero.mp z.2.2.2).resolve_left hk⟩
 have hg:gX (([k*a,k*b,k*c,k*d]:List Int).map D.int)=k.natAbs:=by rw[ij];exact u4 hk p
 have hl:=qN hn
 rw[iJ _ _ _ _ hk]at hl
 have pos:=p.pos
 have fd:∀x:Int,(k*x).fdiv k=x:=fun x=>Int.mul_fdiv_cancel_left x hk
 have fin:=vP (k*a) (k*b) (k*c) (k*d) k ⟨hk,kb⟩
 rw[fd,fd,fd,fd]at fin
 have hD:ab (dJ [t4 (k*a) (k*b) (k*c) (k*d)]) (.int (k.natAbs:Nat)):=⟨[okT (([k*a,k*b,k*c,k*d]:List Int).map D.int)],by rw[<- hg];rfl,hT,True.intro⟩
 refine bz (aP (aY (d:=.int (k.natAbs:Nat)) (ay decl_name% hD)) (aP (aY (d:=.int (k*cJ a b c d)) (my (k:=0) (im (out:=((([k*a,k*b,k*c,k*d]:List Int).filter fun t => !decide (t=0)).map D.int)) (j:=0) decl_name% (ds:=([k*a,k*b,k*c,k*d]:List Int).map D.int) rfl ⟨Nat.le_of_ble_eq_true rfl,.inl rfl⟩ (dY (g:=D.int) (f:=D.int) (c:=fun t => !decide (t=0)) (fun x _=>?_)) (Nat.zero_le 1)) decl_name% rfl hl)) ?_))
 ·refine ab.bnd (a:=!decide (x=0)) (fS (b:=!decide (x=0)) (c:=!decide (x=0)) (decl_name%.bl (by show(!eqD (.int x) (.int 0))=_;rw[cz])) (fun h=>by rw[h];exact mx) id) ?_
  cases decide (x=0)
  ·exact ab.bnd decl_name% cu
  ·exact cu
 ·rcases Int.lt_or_gt_of_ne hk with q|q
  ·have hlt:k*cJ a b c d<0:=Int.mul_neg_of_neg_of_pos q pos
   refine cW decl_name% (decide_eq_true hlt) (aP (aY (d:=.int (0-(k.natAbs:Int))) decl_name%) ?_)
   have ek:0-(k.natAbs:Int)=k:=by omega
   rw[ek]
   exact bp (ah rfl (ah rfl aE)) fin
  ·have hge:¬ k*cJ a b c d<0:=by have:=Int.mul_pos q pos;omega
   refine be decl_name% (decide_eq_false hge) ?_
   have ek:(k.natAbs:Int)=k:=by omega
   rw[ek]
   exact bp (ah rfl (ah rfl aE)) fin
def jd:Fx:=Tb [] [("MOST_FIGURES", .int 40),("FIGURES", .str (Str.ofString "0123456789"))] BL IL ML TL bh
def fH:List D->Rs D:=cm jd (aa (ai 23)) ["text"] (ak (ai 23))
theorem Ng{l:List Nat}(hd:∀c∈l,48<=c/\c<=57)(h0:l≠[])(h40:l.length<=40)(hh:l=[48]\/∃c r,l=c::r/\c≠48):ab (fH [.str (sN l)]) (.bl true):=by
 have hz:(sN l).length<=1048576:=by rw[ck];omega
 have hl:(sN l).length=l.length:=ck l
 have h1:1<=l.length:=by
  cases l with
  | nil=>exact absurd rfl h0
  | cons a l=>simp
 have hit:items (.str (sN l))=some (l.map fun c=>D.str (sN [c])):=by
  show(if ((sN l).cps.all fun c=>decide (c<128))=true then some (Sp.sgs (sN l))else none)=_
  rw[if_pos (GZ fun c hc=>by have:=hd c hc;omega),DD]
 have hs:ab (au jd (ND ((ak (ai 23)).getD 1 (.Pass ⟨0,0,0,0⟩))) false (aa (ai 23)) (d0 ["text"] [.str (sN l)])) (.bl (decide (l.head?=some 48)),0):=by
  refine decl_name%.bl ?_
  rw[show Str.ofString "0" = sN [48] by rw[jA];rfl]
  exact IZ l 48
 refine bz (be (dX (b4 (decl_name%.bl (decide_eq_false (by rw[hl];omega))) (b4 (decl_name%.bl (decide_eq_false (by rw[hl];omega))) eY))) rfl (be (t:=false) (k:=0) (dX (fS hs ?_ fun _=>rfl)) rfl ?_))
 ·intro ht
  have ht:=of_decide_eq_true ht
  have e:l=[48]:=by
   rcases hh with e|⟨c,r,rfl,hc⟩
   ·exact e
   ·exfalso;apply hc;simpa using ht
  subst e
  exact fS (decl_name%.bl (decide_eq_false (by rw[hl];decide))) (fun z=>by cases z) fun _=>rfl
 ·refine b0 (bN (wW (B:=oa) (aS (lv (l:=l) (g:=fun c=>D.str (sN [c])) (f:=fun _=>D.bl true) decl_name% hit (by show _<=40000;omega) (.inr (Ah _)) fun c hc=>?_) bU) (IS l)))
  have hc:=hd c hc
  exact⟨_,rfl,decl_name%.bl (FK hc.1 hc.2)⟩
def jR:Fx:=Tb [("are_figures", fH)] [] BL IL ML TL bh
def gp:List D->Rs D:=cm jR (aa (ai 22)) ["word"] (ak (ai 22))
theorem Jn(h:i.natAbs<10 ^ 40):ab (gp [.str (sN (bD i))]) (.int i):=by
 have hl:=hV h
 have h2:(sN (bD i)).length<=1048576:=by rw[ck];omega
 have h3:(sN (bD i)).length<=640:=by rw[ck];omega
 have ei:=wI (i:=i) (by omega)
 have hd:=rE (m:=i.natAbs) (k:=40) (by decide) h
 have hf:=Ng (fD i.natAbs) (ve _) hd (CC _)
 have sk:PyData.strOk (sN (bD i))=true:=ph (vK i)
 have ek:gj (.str (sN (bD i))) (.str (Str.ofString "-0"))=true:=iU sk (by decide +kernel)
 have st:Txt.startswith (sN (bD i)) (Str.ofString "-")=decide (i<0):=by
  rw[show Str.ofString "-" = sN [45] by rw[jA];rfl,IZ]
  exact decide_eq_decide.mpr (pO i)
 have hfig:ab (au jR (NF ((ak (ai 22)).getD 0 (.Pass ⟨0,0,0,0⟩))) false (aa (ai 22)) (d0 ["word"] [.str (sN (bD i))])) (.str (sN (cC i.natAbs)),0):=by
  refine mz (decl_name%.bl st) (fun z=>?_) (fun z=>?_)
  ·have hi:=of_decide_eq_true z
   refine decl_name%.eq ?_
   show(D.str (Txt.slice (sN (bD i)) (some 1) none),0)=_
   rw[show bD i=45::cC i.natAbs from if_pos hi,IG]
  ·have hi:=of_decide_eq_false z
   refine decl_name%.eq ?_
   show(D.str (sN (bD i)),0)=_
   rw[show bD i=cC i.natAbs from if_neg hi]
 have hint:ab (kA [.str (sN (bD i))]) (.int i,0):=by
  unfold kA;dsimp only;rw[ei]
  exact⟨_,rfl,h3,True.intro⟩
 exact bz (aP (aY hfig) (be (dX (b4 (decl_name%.bl (by rw[gk];exact decide_eq_false (AW i))) (b4 (IA (ay decl_name% hf) rfl) eY))) rfl (b0 (bN (wW (B:=kA) decl_name% hint)))))
def d9:Fx:=Tb [("whole_read", gp)] [] BL IL ML TL bh
def gL:jU:=fun g=>([]:List (Str×List (Str×Int))).lookup g
def dm:List D->Rs D:=fun ds=>match ds with
 | [.lst (w::l)]=>(match tG l with|some ns=>.ok (.tup (ns.map D.int)) [∃x,w=.str x,l=ns.map bR,ns.length<=4,∀n∈ns,n.natAbs<10 ^ 40]|none=>.st)
 | _=>.st
theorem LD{x:Str}(hn:ns.length<=4)(h:∀n∈ns,n.natAbs<10 ^ 40):ab (dm [.lst (.str x::ns.map bR)]) (.tup (ns.map D.int)):=by
 show ab (match tG (ns.map bR)with|some ms=>Rs.ok (D.tup (ms.map D.int)) _|none=>.st) _
 rw[qi h]
 exact⟨_,rfl,⟨x,rfl⟩,rfl,hn,h,True.intro⟩
theorem HP:∀(ns ms:List Int) (i:Nat) (ρ:ae),ns.length+ms.length<=4->(∀n∈ns,n.natAbs<10 ^ 40)->Sub (bj [("numbers", .lst (ms.map D.int),true)]) ρ ->
  ∃ρ',uj d9 (aa (ai 32)) (Ix ((ak (ai 32)).getD 1 (.Pass ⟨0,0,0,0⟩))) (t7 ((ak (ai 32)).getD 1 (.Pass ⟨0,0,0,0⟩))) (jO i (ns.map bR)) ρ ρ'/\Sub (bj [("numbers", .lst ((ms++ns).map D.int),true)]) ρ':=by
 intro ns
 induction ns with
 | nil=>intro ms i ρ _ _ s;exact⟨ρ,.nil,by rw[List.append_nil];exact s⟩
 | cons n ns ih =>
  intro ms i ρ hl h s
  have hw:=Jn (h n List.mem_cons_self)
  rw[List.length_cons]at hl
  have hm:(ms.map D.int).length<cg:=by rw[List.length_map];show _<40000;omega
  obtain⟨ρ2,h2,s2⟩:=dA ((s.put (Str.ofString "place") (.int (i:Nat),false)).put (Str.ofString "word") (bR n,false)) (ss:=t7 ((ak (ai 32)).getD 1 (.Pass ⟨0,0,0,0⟩))) (Φ:=d9) (sc:=aa (ai 32)) (P:=fun ρ'=>Sub (bj [("numbers", .lst ((ms++[n]).map D.int),true)]) ρ') (aP (aY (ay decl_name% hw)) (be decl_name% rfl decl_name%)) (fun ρ' z=>ah (by rw[List.map_append];exact z.get) aE)
  obtain⟨ρ3,w,s3⟩:=ih (ms++[n]) (i+1) ρ2 (by rw[List.length_append,List.length_singleton];omega) (fun v hv=>h v (List.mem_cons_of_mem _ hv)) s2
  refine⟨ρ3,.cons rfl h2 w,?_⟩
  rw[List.append_assoc]at s3
  exact s3
theorem kJ:∀ds r,ab (dm ds) r->pE d9 gL (aa (ai 32)) ["words"] (ak (ai 32)) ds r:=by
 intro ds r h
 unfold dm at h
 split at h
 ·rename_i w l
  split at h
  ·rename_i ns e
   obtain⟨rfl,⟨x,rfl⟩,rfl,hn,hb,_⟩:=d7 h
   refine⟨rfl,?_⟩
   obtain⟨ρ',hf,s⟩:=HP ns [] 1 (demL [.Subscript (.Name (Str.ofString "words") ⟨0,0,0,0⟩) (.Constant .none 0 ⟨0,0,0,0⟩) ⟨0,0,0,0⟩] (bo (d0 ["words"] [.lst (.str x::ns.map bR)]) (Str.ofString "numbers") (.lst [],true))) (by simpa using hn) hb (ah rfl aE)
   have hl1:ao (([]++ns).map D.int)=true:=ma ns
   have hl2:ao (.str x::ns.map bR)=true:=lF ns
   have hsl:ab (d9.slf (.lst (.str x::ns.map bR)) (some 1) none) (.lst (gY (.str x::ns.map bR) (some 1) none),0):=decl_name%
   rw[Go _ hn]at hsl
   refine Rd.cut 1 decl_name% (Rd.forE (l:=ns.map bR) (k:=0) ?_ (lF ns) (Nat.zero_le 1) rfl rfl hf (Rd.rf (.base (bp s decl_name%))))
   exact aS (iR decl_name% decl_name% decl_name% (r:=(.lst (ns.map bR),0)) hsl) bU
  ·exact(am h).elim
 ·exact(am h).elim
def sI:Fx:=Tb [] [] BL IL ML TL bh
def g9:List D->Rs D:=cm sI (aa (ai 9)) ["one", "other"] (ak (ai 9))
theorem J0(a b:Nat)(ha:a<2 ^ 1000)(hb:b<2 ^ 1000):ab (g9 [.int a,.int b]) (.int (Nat.gcd a b:Nat)):=by
 refine bz (vX (m:=2002) (fun m ρ => ∃(x y:Nat) (f g:Bool),xF x y m/\Nat.gcd x y=Nat.gcd a b/\Sub (bj [("one", .int x,f),("other", .int y,g)]) ρ) ⟨a,b,false,false,FT ha hb,rfl,ah rfl (ah rfl aE)⟩ (by decide) ?_ ?_)
 ·rintro m ρ ⟨x,y,f,g,hm,hg,s⟩
  refine⟨!decide ((y:Int)=0),0,dW s (decl_name%.bl (by show(!eqD (.int y) (.int 0))=_;rw[cz])),fun ht=>?_⟩
  have h0:y≠0:=by
   intro z;subst z;exact absurd ht (by decide)
  have hn:(y:Int)≠0:=by omega
  obtain⟨m',hm',hE⟩:=t8 hm h0
  have e:=re x y
  exact mW hm' (dA s decl_name% fun ρ' s'=>⟨y,x % y,true,true,hE,by rw[<- hg,Nat.gcd_comm x y,Nat.gcd_rec y x,Nat.gcd_comm],ah s'.get (ah (by rw[<- e];exact s'.get) aE)⟩)
 ·rintro m ρ ⟨x,y,f,g,hm,hg,s⟩ ⟨k,hk⟩
  have e:=hk.inj (dW s decl_name%)
  have h0:y=0:=by
   have e1:(!eqD (.int y) (.int 0))=false:=by injection e with e1 e2;injection e1 with e1;exact e1.symm
   rw[cz]at e1
   have:(y:Int)=0:=by simpa using e1
   omega
  subst h0
  rw[<- hg,Nat.gcd_zero_right]
  exact bp s decl_name%
def lz:Fx:=Tb [("shared_by", g9)] [] BL IL ML TL bh
def lC:List D->Rs D:=cm lz (aa (ai 8)) ["numbers"] (ak (ai 8))
def bX:List D->Rs D
 | [.tup l]=>.ok (.int (gX l)) [okT l]
 | _=>.st
theorem jh:∀ds r,ab (bX ds) r->ab (lC ds) r:=by
 intro ds r h
 unfold bX at h
 split at h
 ·obtain⟨rfl,⟨ns,rfl,hl,hb⟩,_⟩:=d7 h
  rw[iP]
  refine bz (cP 1 decl_name% (m9 (ds:=ns.map D.int) (fun rem ρ => ∃(r:List Int) (g:Nat),rem=r.map D.int/\(∀n∈r,n.natAbs<2 ^ 1000)/\bx g r=bx 0 ns/\g<2 ^ 1000/\Sub (bj [("reached", .int g,true)]) ρ) decl_name% ⟨ns,0,rfl,hb,rfl,Nat.pow_pos (by decide),ah rfl aE⟩ ?_ ?_ rfl (Ah (.tup (ns.map D.int)))))
  ·rintro d l ρ ⟨r,g,hr,hb',hg,hlt,s⟩
   cases r with
   | nil=>cases hr
   | cons n r =>
    cases hr
    have hn:=hb' n List.mem_cons_self
    have ea:(if n<0 then -n else n)=((n.natAbs:Nat):Int):=by omega
    have k:=J0 g n.natAbs hlt hn
    refine⟨_,rfl,dA (s.put _ _) (aP (aY (ay (v:=.int (Nat.gcd g n.natAbs:Nat)) (decl_name%.eq (by rw[ea])) k)) dh) fun ρ' s'=>⟨r,Nat.gcd g n.natAbs,rfl,fun m hm=>hb' m (List.mem_cons_of_mem _ hm),hg,?_,ah s'.get aE⟩⟩
    rcases Nat.eq_zero_or_pos g with z|z
    ·subst z;rw[Nat.gcd_zero_left];exact hn
    ·exact Nat.lt_of_le_of_lt (Nat.le_of_dvd z (Nat.gcd_dvd_left _ _)) hlt
  ·rintro ρ ⟨r,g,hr,hb',hg,hlt,s⟩
   cases r with
   | nil =>
    rw[<- hg]
    exact bp s decl_name%
   | cons n r=>cases hr
 ·exact(am h).elim
def sH:Fx:=Tb [] [] BL IL ML TL bh
def eB:List D->Rs D:=cm sH (aa (ai 10)) ["numbers", "divisor"] (ak (ai 10))
def xz:Fx:=Tb [("common_divisor", bX),("shortened", eB)] [] BL IL ML TL bh
def d5:List D->Rs D:=cm xz (aa (ai 11)) ["numbers"] (ak (ai 11))
theorem A8(x y z w K:Int)(hK:fq K):ab (eB [t4 x y z w,.int K]) (t4 (x.fdiv K) (y.fdiv K) (z.fdiv K) (w.fdiv K)):=dy rfl (by walk_at "ob")
theorem zC(hk:k≠0)(p:Pm a b c d)(hT:okT (([k*a,k*b,k*c,k*d]:List Int).map D.int))(kb:k.natAbs<cT):ab (d5 [t4 (k*a) (k*b) (k*c) (k*d)]) (t4 a b c d):=by
 have hn:¬ (k*a=0/\k*b=0/\k*c=0/\k*d=0):=fun z=>p.ne ⟨(Int.mul_eq_zero.mp z.1).resolve_left hk,(Int.mul_eq_zero.mp z.2.1).resolve_left hk,(Int.mul_eq_zero.mp z.2.2.1).resolve_left hk,(Int.mul_eq_zero.mp z.2.2.2).resolve_left hk⟩
 have hg:gX (([k*a,k*b,k*c,k*d]:List Int).map D.int)=k.natAbs:=by rw[ij];exact u4 hk p
 have hl:=qN hn
 rw[iJ _ _ _ _ hk]at hl
 have pos:=p.pos
 have fd:∀x:Int,(k*x).fdiv k=x:=fun x=>Int.mul_fdiv_cancel_left x hk
 have fin:=A8 (k*a) (k*b) (k*c) (k*d) k ⟨hk,kb⟩
 rw[fd,fd,fd,fd]at fin
 have hD:ab (bX [t4 (k*a) (k*b) (k*c) (k*d)]) (.int (k.natAbs:Nat)):=⟨[okT (([k*a,k*b,k*c,k*d]:List Int).map D.int)],by rw[<- hg];rfl,hT,True.intro⟩
 have k0:¬ ((k.natAbs:Nat):Int)=0:=by omega
 refine bz (aP (aY (d:=.int (k.natAbs:Nat)) (ay decl_name% hD)) (be decl_name% ((cz _ _).trans (decide_eq_false k0)) (aP (aY (d:=.int (k*cJ a b c d)) (my (k:=0) (im (out:=((([k*a,k*b,k*c,k*d]:List Int).filter fun t => !decide (t=0)).map D.int)) (j:=0) decl_name% (ds:=([k*a,k*b,k*c,k*d]:List Int).map D.int) rfl ⟨Nat.le_of_ble_eq_true rfl,.inl rfl⟩ (dY (g:=D.int) (f:=D.int) (c:=fun t => !decide (t=0)) (fun x _=>?_)) (Nat.zero_le 1)) decl_name% rfl hl)) ?_)))
 ·refine ab.bnd (a:=!decide (x=0)) (fS (b:=!decide (x=0)) (c:=!decide (x=0)) (decl_name%.bl (by show(!eqD (.int x) (.int 0))=_;rw[cz])) (fun h=>by rw[h];exact mx) id) ?_
  cases decide (x=0)
  ·exact ab.bnd decl_name% cu
  ·exact cu
 ·refine b0 (bN (ay (aS decl_name% (aS (mz (r:=(.int k,0)) decl_name% (fun ht=>?_) (fun hf=>?_)) bU)) fin))
  ·have hlt:0<k*cJ a b c d:=of_decide_eq_true ht
   have kp:0<k:=by
    rcases Int.lt_or_gt_of_ne hk with q|q
    ·have:=Int.mul_neg_of_neg_of_pos q pos;omega
    ·exact q
   exact ab.eq decl_name% (by rw[show((k.natAbs:Nat):Int)=k by omega];rfl)
  ·have hge:¬ 0<k*cJ a b c d:=of_decide_eq_false hf
   have kp:k<0:=by
    rcases Int.lt_or_gt_of_ne hk with q|q
    ·exact q
    ·have:=Int.mul_pos q pos;omega
   exact ab.eq decl_name% (by show(D.int (-((k.natAbs:Nat):Int)),0)=_;rw[show -((k.natAbs:Nat):Int)=k by omega])
def rX:Fx:=Tb [("common_divisor", bX),("shortened", eB)] [] BL IL ML TL bh
def lA:List D->Rs D:=cm rX (aa (ai 14)) ["table"] (ak (ai 14))
theorem yq(n a b c d e f g h i G:Int)(hG:fq G):ab (az rX ((ak (ai 14)).drop 2) (aa (ai 14)) (bj [("n", .int n,false),("rows", .tup [d3 a b c,d3 d e f,d3 g h i],false),("common", .int G,true)])) (.rt (.tup [.int (n.fdiv G),.tup [d3 (a.fdiv G) (b.fdiv G) (c.fdiv G),d3 (d.fdiv G) (e.fdiv G) (f.fdiv G),d3 (g.fdiv G) (h.fdiv G) (i.fdiv G)]])):=dy rfl (by walk_at "ob")
theorem HW{n e f g h:Int}(hn:0<n)(nb:n.natAbs<cT)(hT:okT ([n,a,b,c,d,e,f,g,h,i].map D.int)):ab (lA [.tup [.int n,.tup [d3 a b c,d3 d e f,d3 g h i]]]) (.tup [.int (n.fdiv (gI [n,a,b,c,d,e,f,g,h,i])),.tup [d3 (a.fdiv (gI [n,a,b,c,d,e,f,g,h,i])) (b.fdiv (gI [n,a,b,c,d,e,f,g,h,i])) (c.fdiv (gI [n,a,b,c,d,e,f,g,h,i])),d3 (d.fdiv (gI [n,a,b,c,d,e,f,g,h,i])) (e.fdiv (gI [n,a,b,c,d,e,f,g,h,i])) (f.fdiv (gI [n,a,b,c,d,e,f,g,h,i])),d3 (g.fdiv (gI [n,a,b,c,d,e,f,g,h,i])) (h.fdiv (gI [n,a,b,c,d,e,f,g,h,i])) (i.fdiv (gI [n,a,b,c,d,e,f,g,h,i]))]]):=by
 have h0:0<gI [n,a,b,c,d,e,f,g,h,i]:=wS (n:=n) (by simp) (by omega)
 have hd:fq (gI [n,a,b,c,d,e,f,g,h,i]):=⟨by omega,Nat.lt_of_le_of_lt (Iv (n:=n) (by simp) (by omega)) nb⟩
 rw[<- ij]at hd⊢
 exact bz (cP 2 decl_name% (bp (ah rfl (ah rfl (ah rfl aE))) (yq n _ _ _ _ _ _ _ _ _ _ hd)))
def vx:Fx:=Tb [("upright", d5),("lowest", lA)] [] BL IL ML TL bh
def fP:List D->Rs D:=cm vx (aa (ai 16)) ["numbers"] (ak (ai 16))
theorem zI(hk:k≠0)(p:Pm a b c d)(hT:okT (([k*a,k*b,k*c,k*d]:List Int).map D.int))(kb:k.natAbs<cT)(ha:a.natAbs<=2 ^ 140)(hb:b.natAbs<=2 ^ 140)(hc:c.natAbs<=2 ^ 140)(hd:d.natAbs<=2 ^ 140):ab (fP [t4 (k*a) (k*b) (k*c) (k*d)]) (uw a b c d):=by
 have aB:=dl ha (by decide)
 have bB:=dl hb (by decide)
 have cB:=dl hc (by decide)
 have dB:=dl hd (by decide)
 have dbl:∀{x:Int},x.natAbs<=2 ^ 140->(2*x).natAbs<cT:=fun {x} hx=>dl (m:=141) (by rw[Int.natAbs_mul,Nat.pow_succ,Nat.mul_comm];exact Nat.mul_le_mul_right _ hx) (by decide)
 have a2:=dbl ha
 have b2:=dbl hb
 have c2:=dbl hc
 have hL:=HW (a:=vU a b c d) (b:=tf a b c d) (c:=sZ a b c d) (d:=sY a b c d) (e:=vT a b c d) (f:=sX a b c d) (g:=sW a b c d) (h:=sV a b c d) (i:=vS a b c d) (EL p.ne) (dl (Di ha hb hc hd _ (by simp[fU])) (by decide)) (De ha hb hc hd)
 exact bz (aP (FP (ay decl_name% (zC hk p hT kb)) rfl (.inl rfl) rfl) (aP (aY (d:=.tup [d3 (vU a b c d) (tf a b c d) (sZ a b c d),d3 (sY a b c d) (vT a b c d) (sX a b c d),d3 (sW a b c d) (sV a b c d) (vS a b c d)]) decl_name%) (b0 (bN (ay decl_name% hL)))))
def mM:Fx:=Tb [("upright", d5),("table_of", fP)] [] BL IL ML TL bh
def cF:List D->Rs D:=fO mM (aa (aL (ai 27) 0)) ["self", "numbers"] (qV (aL (ai 27) 0)) "Turn" ["word", "row", "fractions"]
theorem vL(hk:k≠0)(p:Pm a b c d)(hT:okT (([k*a,k*b,k*c,k*d]:List Int).map D.int))(kb:k.natAbs<cT)(ha:a.natAbs<=2 ^ 140)(hb:b.natAbs<=2 ^ 140)(hc:c.natAbs<=2 ^ 140)(hd:d.natAbs<=2 ^ 140):ab (cF [t4 (k*a) (k*b) (k*c) (k*d)]) (Jo a b c d) :=
 wJ rfl (aS decl_name% (aS (ay decl_name% (zC hk p hT kb)) (aS (ay decl_name% (zI hk p hT kb ha hb hc hd)) bU))) rfl rfl rfl
def rY:Fx:=Tb [("table_of", fP)] [] BL IL ML TL bh
def e7:List D->Rs D:=cm rY (aa (ai 30)) ["axis"] (ak (ai 30))
theorem FA(hk:k≠0)(p:Pm 0 b c d)(hT:okT (([k*0,k*b,k*c,k*d]:List Int).map D.int))(kb:k.natAbs<cT)(hb:b.natAbs<=2 ^ 140)(hc:c.natAbs<=2 ^ 140)(hd:d.natAbs<=2 ^ 140):ab (e7 [d3 (k*b) (k*c) (k*d)]) (uw 0 b c d):=by
 have h:=zI hk p hT kb (show(0:Int).natAbs<=2 ^ 140 from Nat.zero_le _) hb hc hd
 rw[Int.mul_zero]at h
 exact bz (b0 (bN (ay decl_name% h)))
theorem DC(x y z K:Int)(hK:fq K):ab (eB [d3 x y z,.int K]) (d3 (x.fdiv K) (y.fdiv K) (z.fdiv K)):=dy rfl (by walk_at "ob")
theorem C8(hk:k≠0)(p:Pm 0 b c d)(hT:okT (([k*b,k*c,k*d]:List Int).map D.int))(kb:k.natAbs<cT):ab (d5 [d3 (k*b) (k*c) (k*d)]) (d3 b c d):=by
 have hn:¬ (k*b=0/\k*c=0/\k*d=0):=fun z=>p.ne ⟨rfl,(Int.mul_eq_zero.mp z.1).resolve_left hk,(Int.mul_eq_zero.mp z.2.1).resolve_left hk,(Int.mul_eq_zero.mp z.2.2).resolve_left hk⟩
 have hg:gX (([k*b,k*c,k*d]:List Int).map D.int)=k.natAbs:=by rw[ij];exact wz hk p
 have hl:=tV hk hn
 have pos:=p.pos
 have fd:∀x:Int,(k*x).fdiv k=x:=fun x=>Int.mul_fdiv_cancel_left x hk
 have fin:=DC (k*b) (k*c) (k*d) k ⟨hk,kb⟩
 rw[fd,fd,fd]at fin
 have hD:ab (bX [d3 (k*b) (k*c) (k*d)]) (.int (k.natAbs:Nat)):=⟨[okT (([k*b,k*c,k*d]:List Int).map D.int)],by rw[<- hg];rfl,hT,True.intro⟩
 have k0:¬ ((k.natAbs:Nat):Int)=0:=by omega
 refine bz (aP (aY (d:=.int (k.natAbs:Nat)) (ay decl_name% hD)) (be decl_name% ((cz _ _).trans (decide_eq_false k0)) (aP (aY (d:=.int (k*cJ 0 b c d)) (my (k:=0) (im (out:=((([k*b,k*c,k*d]:List Int).filter fun t => !decide (t=0)).map D.int)) (j:=0) decl_name% (ds:=([k*b,k*c,k*d]:List Int).map D.int) rfl ⟨Nat.le_of_ble_eq_true rfl,.inl rfl⟩ (dY (g:=D.int) (f:=D.int) (c:=fun t => !decide (t=0)) (fun x _=>?_)) (Nat.zero_le 1)) decl_name% rfl hl)) ?_)))
 ·refine ab.bnd (a:=!decide (x=0)) (fS (b:=!decide (x=0)) (c:=!decide (x=0)) (decl_name%.bl (by show(!eqD (.int x) (.int 0))=_;rw[cz])) (fun h=>by rw[h];exact mx) id) ?_
  cases decide (x=0)
  ·exact ab.bnd decl_name% cu
  ·exact cu
 ·refine b0 (bN (ay (aS decl_name% (aS (mz (r:=(.int k,0)) decl_name% (fun ht=>?_) (fun hf=>?_)) bU)) fin))
  ·have hlt:0<k*cJ 0 b c d:=of_decide_eq_true ht
   have kp:0<k:=by
    rcases Int.lt_or_gt_of_ne hk with q|q
    ·have:=Int.mul_neg_of_neg_of_pos q pos;omega
    ·exact q
   exact ab.eq decl_name% (by rw[show((k.natAbs:Nat):Int)=k by omega];rfl)
  ·have hge:¬ 0<k*cJ 0 b c d:=of_decide_eq_false hf
   have kp:k<0:=by
    rcases Int.lt_or_gt_of_ne hk with q|q
    ·exact q
    ·have:=Int.mul_pos q pos;omega
   exact ab.eq decl_name% (by show(D.int (-((k.natAbs:Nat):Int)),0)=_;rw[show -((k.natAbs:Nat):Int)=k by omega])
def jg:Fx:=Tb [("upright", d5),("half_table", e7)] [] BL IL ML TL bh
def bV:List D->Rs D:=fO jg (aa (aL (ai 28) 0)) ["self", "axis"] (qV (aL (ai 28) 0)) "HalfTurn" ["word", "row", "fractions"]
theorem wQ(hk:k≠0)(p:Az (aq u))(hT:okT (([k*u.1,k*u.2.1,k*u.2.2]:List Int).map D.int))(hT4:okT (([k*0,k*u.1,k*u.2.1,k*u.2.2]:List Int).map D.int))(kb:k.natAbs<cT)(hb:u.1.natAbs<=2 ^ 140)(hc:u.2.1.natAbs<=2 ^ 140)(hd:u.2.2.natAbs<=2 ^ 140):ab (bV [d3 (k*u.1) (k*u.2.1) (k*u.2.2)]) (.obj "HalfTurn" ["word", "row", "fractions"] [.str "half", dv u,uw 0 u.1 u.2.1 u.2.2]) :=
 wJ rfl (aS decl_name% (aS (ay decl_name% (C8 hk p hT kb)) (aS (ay decl_name% (FA hk p hT4 kb hb hc hd)) bU))) rfl rfl rfl
def vz:Fx:=Tb [] [] BL IL ML TL bh
def mP:List D->Rs D:=cm vz (aa (ai 6)) ["one"] (ak (ai 6))
def kI:Fx:=Tb [("half_table", e7),("upright", d5),("opposite", mP)] [] BL IL ML TL bh
def cx:List D->Rs D:=fN kI (aa (aL (ai 29) 0)) ["self", "axis"] "n" "rows" (L3 ((ak (aL (ai 29) 0)).getD 0 (.Pass ⟨0,0,0,0⟩))) (wK (aL (ai 29) 0)) "Mirror" ["word", "row", "fractions"]
theorem Ag(hk:k≠0)(p:Az (aq u))(hT:okT (([k*u.1,k*u.2.1,k*u.2.2]:List Int).map D.int))(hT4:okT (([k*0,k*u.1,k*u.2.1,k*u.2.2]:List Int).map D.int))(kb:k.natAbs<cT)(hb:u.1.natAbs<=2 ^ 140)(hc:u.2.1.natAbs<=2 ^ 140)(hd:u.2.2.natAbs<=2 ^ 140):ab (cx [d3 (k*u.1) (k*u.2.1) (k*u.2.2)]) (.obj "Mirror" ["word", "row", "fractions"] [.str "mirror", dv u,.tup [.int (tq (aq u)).low.n,.tup [d3 (-(tq (aq u)).low.a) (-(tq (aq u)).low.b) (-(tq (aq u)).low.c),d3 (-(tq (aq u)).low.d) (-(tq (aq u)).low.e) (-(tq (aq u)).low.f),d3 (-(tq (aq u)).low.g) (-(tq (aq u)).low.h) (-(tq (aq u)).low.i)]]]) :=
 Fw rfl (ay decl_name% (FA hk p hT4 kb hb hc hd)) rfl (aS decl_name% (aS (ay decl_name% (C8 hk p hT kb)) (aS decl_name% bU))) rfl rfl rfl
def xB:Fx:=Tb [("Turn", cF),("HalfTurn", bV),("Mirror", cx)] [] BL IL ML TL bh
def cY:List D->Rs D:=cm xB (aa (ai 33)) ["word", "numbers"] (ak (ai 33))
theorem Gn{d:D}(h:ab (bV [d]) r):ab (cY [.str "half", d]) r:=bz (be decl_name% rfl (b0 (bN (mz (t:=true) decl_name% (fun _=>ay decl_name% h) (fun z=>by cases z)))))
theorem Gm{d:D}(h:ab (cx [d]) r):ab (cY [.str "mirror", d]) r:=bz (be decl_name% rfl (b0 (bN (mz (t:=false) decl_name% (fun z=>by cases z) (fun _=>ay decl_name% h)))))
theorem IW{m:Nat}(hk:k≠0)(p:Az (aq u))(hm:m<=140)(h:kQ m (k*u.1,k*u.2.1,k*u.2.2)):okT (([k*u.1,k*u.2.1,k*u.2.2]:List Int).map D.int)/\okT (([k*0,k*u.1,k*u.2.1,k*u.2.2]:List Int).map D.int)/\k.natAbs<cT/\kQ m u:=by
 obtain⟨h1,h2,h3⟩:=h.all
 have e:gA (2 ^ m) (kq k (aq u)):=⟨by show(k*0).natAbs<=_;rw[Int.mul_zero];exact Nat.zero_le _,h1,h2,h3⟩
 refine⟨lP (k:=m) (by omega) (Nat.le_of_ble_eq_true rfl) (by
  intro t ht
  simp only[List.mem_cons,List.not_mem_nil,or_false]at ht
  rcases ht with rfl|rfl|rfl
  ·exact h1
  ·exact h2
  ·exact h3),qP (by omega) e,dl (Ff p.ne e) (by omega),?_⟩
 have:=Kx hk e
 exact rQ ⟨this.2.1,this.2.2.1,this.2.2.2⟩
def sJ:Fx:=Tb [("numbers_read", dm),("deed_by", cY)] [] BL IL ML TL bh
def jW:jU:=fun g=>([("WORDS", [("turn", 4),("half", 3),("mirror", 3)])]:List (Str×List (Str×Int))).lookup g
def pM(w:Str)(n:Nat):Prop:=(w = "turn" /\ n=4)\/(w = "half" /\ n=3)\/(w = "mirror" /\ n=3)
theorem pM.len(h:pM w n):n<=4/\n≠0/\w.cps.toList.length<=43/\dD w.cps.toList/\∀c∈w.cps.toList,c<128:=by
 rcases h with⟨rfl,rfl⟩|⟨rfl,rfl⟩|⟨rfl,rfl⟩
 ·exact⟨by decide,by decide,by decide +kernel,by unfold dD;decide +kernel,by decide +kernel⟩
 ·exact⟨by decide,by decide,by decide +kernel,by unfold dD;decide +kernel,by decide +kernel⟩
 ·exact⟨by decide,by decide,by decide +kernel,by unfold dD;decide +kernel,by decide +kernel⟩
def dM:List D->Rs D:=fun ds=>match ds with
 | [.str x]=>(match Txt.split x (Str.ofString " ")with
  | w::ws=>(match tG (ws.map D.str)with
   | some ns=>(Rs.ok () [pM w ns.length,x=sN (jn (w.cps.toList::ns.map bD)),∀n∈ns,n.natAbs<10 ^ 40]).bnd fun _=>cY [.str w,.tup (ns.map D.int)]
   | none=>.st)
  | []=>.st)
 | _=>.st
theorem sR(hw:pM w ns.length):∀v∈w.cps.toList::ns.map bD,dD v:=by
 intro v hv
 rcases List.mem_cons.mp hv with rfl|hv
 ·exact hw.len.2.2.2.1
 ·obtain⟨n,hn,rfl⟩:=List.mem_map.mp hv
  exact AV n
theorem C5(hw:pM w ns.length)(h:∀n∈ns,n.natAbs<10 ^ 40):∀v∈w.cps.toList::ns.map bD,v.length<=43:=by
 intro v hv
 rcases List.mem_cons.mp hv with rfl|hv
 ·exact hw.len.2.2.1
 ·obtain⟨n,hn,rfl⟩:=List.mem_map.mp hv
  have:=hV (h n hn);omega
theorem Gb{d:D}(hw:pM w ns.length)(h:∀n∈ns,n.natAbs<10 ^ 40)(hd:ab (cY [.str w,.tup (ns.map D.int)]) d):ab (dM [.str (sN (jn (w.cps.toList::ns.map bD)))]) d:=by
 unfold dM
 dsimp only
 rw[show Txt.split (sN (jn (w.cps.toList::ns.map bD))) (Str.ofString " ")=w::(ns.map bD).map sN by rw[uA,pU (by intro z;cases z) (sR hw),List.map_cons,<- hW]]
 dsimp only
 rw[show((ns.map bD).map sN).map D.str=ns.map bR by rw[List.map_map,List.map_map];rfl,qi h]
 dsimp only
 exact ab.bnd ⟨_,rfl,hw,rfl,h,True.intro⟩ hd
theorem oj:∀ds r,ab (dM ds) r->pE sJ jW (aa (ai 31)) ["text"] (ak (ai 31)) ds r:=by
 intro ds r h
 unfold dM at h
 split at h
 ·rename_i x
  split at h
  ·rename_i w ws e1
   split at h
   ·rename_i ns e2
    obtain⟨u,h',hd⟩:=ar h
    obtain⟨_,hw,rfl,hb,_⟩:=d7 h'
    clear h h' e1 e2
    have hs:=A6 (ws:=w.cps.toList::ns.map bD) (by intro z;cases z) (sR hw) (by rw[List.length_cons,List.length_map];have:=hw.len.1;omega) (C5 hw hb)
    rw[List.map_cons,<- hW,List.map_map]at hs
    have hn:=LD (x:=w) hw.len.1 hb
    refine⟨rfl,Rd.cut 1 (aP (aY (rn decl_name% decl_name% hs)) dh) ?_⟩
    clear hs
    generalize sN (jn (w.cps.toList::ns.map bD))=x at *
    rcases hw with⟨rfl,hl⟩|⟨rfl,hl⟩|⟨rfl,hl⟩
    ·obtain⟨a,b,c,d,rfl⟩:=NB hl
     have hll:ao [.str (Str.ofString "turn"),bR a,bR b,bR c,bR d]=true:=rfl
     refine Rd.ifK (x:=Str.ofString "turn") (t:=false) rfl decl_name% (by decide +kernel) rfl (Rd.rf (.base dh)) (Rd.setK (x:=Str.ofString "turn") (i:=4) rfl decl_name% (fun _ _=>rfl) (by decide +kernel) rfl rfl (Rd.rf (.base ?_)))
     exact aP (aY (ay (aS (iR decl_name% decl_name% decl_name% (r:=(.lst [.str (Str.ofString "turn"),bR a,bR b,bR c,bR d],0)) decl_name%) bU) hn)) (be decl_name% rfl (b0 (bN (ay decl_name% hd))))
    ·obtain⟨a,b,c,rfl⟩:=Jb hl
     have hll:ao [.str (Str.ofString "half"),bR a,bR b,bR c]=true:=rfl
     refine Rd.ifK (x:=Str.ofString "half") (t:=false) rfl decl_name% (by decide +kernel) rfl (Rd.rf (.base dh)) (Rd.setK (x:=Str.ofString "half") (i:=3) rfl decl_name% (fun _ _=>rfl) (by decide +kernel) rfl rfl (Rd.rf (.base ?_)))
     exact aP (aY (ay (aS (iR decl_name% decl_name% decl_name% (r:=(.lst [.str (Str.ofString "half"),bR a,bR b,bR c],0)) decl_name%) bU) hn)) (be decl_name% rfl (b0 (bN (ay decl_name% hd))))
    ·obtain⟨a,b,c,rfl⟩:=Jb hl
     have hll:ao [.str (Str.ofString "mirror"),bR a,bR b,bR c]=true:=rfl
     refine Rd.ifK (x:=Str.ofString "mirror") (t:=false) rfl decl_name% (by decide +kernel) rfl (Rd.rf (.base dh)) (Rd.setK (x:=Str.ofString "mirror") (i:=3) rfl decl_name% (fun _ _=>rfl) (by decide +kernel) rfl rfl (Rd.rf (.base ?_)))
     exact aP (aY (ay (aS (iR decl_name% decl_name% decl_name% (r:=(.lst [.str (Str.ofString "mirror"),bR a,bR b,bR c],0)) decl_name%) bU) hn)) (be decl_name% rfl (b0 (bN (ay decl_name% hd))))
   ·exact(am h).elim
  ·exact(am h).elim
 ·exact(am h).elim
def xA:Fx:=Tb [] [("Turn", .cls "Turn"),("HalfTurn", .cls "HalfTurn"),("Mirror", .cls "Mirror")] BL IL ML TL bh
def oW:List D->Rs D:=cm xA (aa (ai 43)) ["_law_deed"] (ak (ai 43))
def vy:Fx:=Tb [] [] BL IL ML TL bh
def i5:List D->Rs D:=cm vy (aa (ai 21)) ["numbers"] (ak (ai 21))
theorem Kq(hn:ns.length<=4)(h:∀n∈ns,n.natAbs<10 ^ 40):ab (i5 [.tup (ns.map D.int)]) (.str (sN (jn (ns.map bD)))):=by
 have hj:=wB (ws:=ns.map bD) (by rw[List.length_map];omega) (by
  intro v hv
  obtain⟨n,hn,rfl⟩:=List.mem_map.mp hv
  have:=hV (h n hn);omega)
 rw[List.map_map]at hj
 refine bz (b0 (bN (rn decl_name% (aS (lv (l:=ns) (g:=D.int) (f:=bR) (d:=.tup (ns.map D.int)) decl_name% rfl (by show _<=40000;omega) (.inl (ma ns)) fun n hm=>?_) bU) hj)))
 have h1:=EW (h n hm)
 refine⟨_,rfl,(decl_name%).eq ?_⟩
 show(D.str (Str.ofString (toString n)),0)=(bR n,0)
 rw[Hg];rfl
def sK:Fx:=xD [("row_text", i5)] [] BL IL ML TL bh [("Turn", ["word", "row"]),("HalfTurn", ["word", "row"]),("Mirror", ["word", "row"])] []
def de:List D->Rs D:=cm sK (aa (aL (ai 26) 4)) ["self"] (ak (aL (ai 26) 4))
abbrev Jc(C:Str)(w:List Nat)(r t:D):D:=.obj C ["word", "row", "fractions"] [.str (sN w),r,t]
theorem B2(w:List Nat){ws:List (List Nat)}(h:ws≠[]):jn (w::ws)=w++(32::jn ws):=by
 cases ws with
 | nil=>exact absurd rfl h
 | cons a l=>show w++(32::a++_)=_;rfl
theorem Jp(hC:C = "Turn" \/ C = "Mirror" \/ C = "HalfTurn"){w:List Nat}(h0:ns≠[])(hw:w.length<=43)(hn:ns.length<=4)(h:∀n∈ns,n.natAbs<10 ^ 40)(t:D):ab (de [Jc C w (.tup (ns.map D.int)) t]) (.str (sN (jn (w::ns.map bD)))):=by
 have hr:=Kq hn h
 have hj:=Al (ws:=ns.map bD) (by
  intro v hv
  obtain⟨n,hn,rfl⟩:=List.mem_map.mp hv
  have:=hV (h n hn);omega)
 rw[List.length_map]at hj
 have b1:ab (g8 .Add (.str (sN w)) (.str (Str.ofString " ")) 0 0) (.str (sN (w++[32])),0):=by
  rw[uA]
  refine ab.eq ⟨_,rfl,by rw[ck,ck];show _+1<=40000;omega,True.intro⟩ ?_
  rw[fB]
 have b2:ab (g8 .Add (.str (sN (w++[32]))) (.str (sN (jn (ns.map bD)))) 0 0) (.str (sN (jn (w::ns.map bD))),0):=by
  refine ab.eq ⟨_,rfl,by rw[ck,ck,List.length_append];show _+1+_<=40000;omega,True.intro⟩ ?_
  rw[fB,B2 w (by intro z;exact h0 (List.map_eq_nil_iff.mp z)),List.append_assoc];rfl
 rcases hC with rfl|rfl|rfl
 ·exact bz (b0 (bN (gi (k:=0) (j:=0) (gi (k:=0) (j:=0) decl_name% decl_name% b1) (ay decl_name% hr) b2)))
 ·exact bz (b0 (bN (gi (k:=0) (j:=0) (gi (k:=0) (j:=0) decl_name% decl_name% b1) (ay decl_name% hr) b2)))
 ·exact bz (b0 (bN (gi (k:=0) (j:=0) (gi (k:=0) (j:=0) decl_name% decl_name% b1) (ay decl_name% hr) b2)))
def rZ:Fx:=xD [] [] BL IL ML TL bh [("Turn", ["fractions"]),("HalfTurn", ["fractions"]),("Mirror", ["fractions"])] []
def dn:List D->Rs D:=cm rZ (aa (aL (ai 26) 1)) ["self"] (ak (aL (ai 26) 1))
def sL:Fx:=xD [] [] BL IL ML TL bh [("Turn", ["fractions"]),("HalfTurn", ["fractions"]),("Mirror", ["fractions"])] [("Turn", [("table", dn)]),("HalfTurn", [("table", dn)]),("Mirror", [("table", dn)])]
def cN:List D->Rs D:=cm sL (aa (aL (ai 26) 3)) ["self", "other"] (ak (aL (ai 26) 3))
def mL:Fx:=xD [("_law_numbers", fy),("_law_text", lB),("_law_cell", iZ),("_law_told", gq),("deed_read", dM),("_law_class", oW),("Turn", cF),("HalfTurn", bV),("Mirror", cx)] [] BL IL ML TL bh [] [("Turn", [("told", de),("same", cN)]),("HalfTurn", [("told", de),("same", cN)]),("Mirror", [("told", de),("same", cN)])]
def pF:List D->Rs D:=cm mL (aa (ai 44)) ["_law_script"] (ak (ai 44))
theorem Ab(hw:i8 L)(k q:Int)(ha:bi a)(hb:bi b)(hc:bi c):∃x y z:Int,(bi x/\bi y/\bi z) /\ ¬ (x=0/\y=0/\z=0)/\ab (az db ((ak (ai 38)).drop 4) (aa (ai 38)) (bj [("_law_script", .lst L,false),("_law_at", .int k,false),("_law_many", .int 3,false),("_law_kind", .int q,true),("_law_found", .lst [.int a,.int b,.int c],true)])) (.rt (.tup [.int x,.int y,.int z])):=by
 have i0:=Int.fmod_nonneg_of_pos (q.fdiv 9) (show(0:Int)<3 by decide)
 have i1:=Int.fmod_lt_of_pos (q.fdiv 9) (show(0:Int)<3 by decide)
 have j0:=Int.fmod_nonneg_of_pos (q.fdiv 36) (show(0:Int)<2 by decide)
 have j1:=Int.fmod_lt_of_pos (q.fdiv 36) (show(0:Int)<2 by decide)
 have an:=MV a b c
 by_cases h:a=0/\b=0/\c=0
 ·rw[decide_eq_true h]at an
  obtain⟨x,y,z,e,hp,hn⟩:=xW i0 i1 a b c (1-2*(q.fdiv 36).fmod 2)
  refine⟨x,y,z,hp bi ha hb hc (by unfold bi;generalize (q.fdiv 36).fmod 2=t at *;omega),hn (by omega),?_⟩
  exact cW (decl_name%.bl (c:=true) (by show(!(([a,b,c]:List Int).any fun n=>n != 0))=true;rw[an];rfl)) rfl (aP (il rfl decl_name% decl_name% e rfl rfl) decl_name%)
 ·rw[decide_eq_false h]at an
  refine⟨a,b,c,⟨ha,hb,hc⟩,h,?_⟩
  exact be (decl_name%.bl (c:=false) (by show(!(([a,b,c]:List Int).any fun n=>n != 0))=false;rw[an];rfl)) rfl decl_name%
theorem Ac(hw:i8 L)(k q:Int)(ha:bi a)(hb:bi b)(hc:bi c):∃x y z:Int,(bi x/\bi y/\bi z) /\ ¬ (x=0/\y=0/\z=0)/\ab (az db ((ak (ai 38)).drop 3) (aa (ai 38)) (bj [("_law_script", .lst L,false),("_law_at", .int k,false),("_law_many", .int 3,false),("_law_kind", .int q,true),("_law_found", .lst [.int a,.int b,.int c],true)])) (.rt (.tup [.int x,.int y,.int z])):=by
 have hl:=hw.okL
 have i0:=Int.fmod_nonneg_of_pos (q.fdiv 9) (show(0:Int)<3 by decide)
 have i1:=Int.fmod_lt_of_pos (q.fdiv 9) (show(0:Int)<3 by decide)
 by_cases h:(q.fdiv 3).fmod 3=2
 ·obtain⟨x,y,z,e,hp,hn⟩:=xW i0 i1 a a a (nD (cG L (k+2)) q)
  obtain⟨hx,hy,hz⟩:=hp bi ha ha ha (eS _ _)
  obtain⟨x',y',z',h1,h2,h3⟩:=Ab hw k q hx hy hz
  refine⟨x',y',z',h1,h2,?_⟩
  exact cW decl_name% (nZ h) (cP 1 decl_name% (aP (il rfl decl_name% decl_name% e rfl rfl) (bp (ah rfl (ah rfl (ah rfl (ah rfl (ah rfl aE))))) h3)))
 ·obtain⟨x',y',z',h1,h2,h3⟩:=Ab hw k q ha hb hc
  refine⟨x',y',z',h1,h2,?_⟩
  exact be decl_name% ((cz _ _).trans (decide_eq_false h)) h3
theorem HN(hw:i8 L)(k q:Int)(ha:bi a)(hb:bi b)(hc:bi c):∃x y z:Int,(bi x/\bi y/\bi z) /\ ¬ (x=0/\y=0/\z=0)/\ab (az db ((ak (ai 38)).drop 2) (aa (ai 38)) (bj [("_law_script", .lst L,false),("_law_at", .int k,false),("_law_many", .int 3,false),("_law_kind", .int q,true),("_law_found", .lst [.int a,.int b,.int c],true)])) (.rt (.tup [.int x,.int y,.int z])):=by
 have hl:=hw.okL
 have i0:=Int.fmod_nonneg_of_pos (q.fdiv 9) (show(0:Int)<3 by decide)
 have i1:=Int.fmod_lt_of_pos (q.fdiv 9) (show(0:Int)<3 by decide)
 by_cases h:(q.fdiv 3).fmod 3=1
 ·obtain⟨x,y,z,e,hp,hn⟩:=xW i0 i1 a b c 0
  obtain⟨hx,hy,hz⟩:=hp bi ha hb hc (Nat.zero_le _)
  obtain⟨x',y',z',h1,h2,h3⟩:=Ac hw k q hx hy hz
  refine⟨x',y',z',h1,h2,?_⟩
  exact cW decl_name% (nZ h) (aP (il rfl decl_name% decl_name% e rfl rfl) (bp (ah rfl (ah rfl (ah rfl (ah rfl (ah rfl aE))))) h3))
 ·obtain⟨x',y',z',h1,h2,h3⟩:=Ac hw k q ha hb hc
  refine⟨x',y',z',h1,h2,?_⟩
  exact be decl_name% ((cz _ _).trans (decide_eq_false h)) h3
theorem wj(hw:i8 L)(k:Int):∃x y z:Int,(bi x/\bi y/\bi z) /\ ¬ (x=0/\y=0/\z=0)/\ab (fy [.lst L,.int k,.int 3]) (.tup [.int x,.int y,.int z]):=by
 have hl:=hw.okL
 obtain⟨x',y',z',h1,h2,h3⟩:=HN hw k (cG L k) (eS (cG L (k+1+0)) (cG L k)) (eS (cG L (k+1+1)) (cG L k)) (eS (cG L (k+1+2)) (cG L k))
 exact⟨x',y',z',h1,h2,bz (cP 2 decl_name% (bp (ah rfl (ah rfl (ah rfl (ah rfl (ah rfl aE))))) h3))⟩
theorem uu(x y z K:Int)(hK:fq K):ab (az ly ((ak (ai 40)).drop 3) (aa (ai 40)) (bj [("_law_numbers_here", d3 x y z,false),("_law_by", .int K,true)])) (.rt (d3 (x.fdiv K) (y.fdiv K) (z.fdiv K))):=dy rfl (by walk_at "ob")
theorem AY(hk:k≠0)(p:Pm 0 b c d)(hT:okT (([k*b,k*c,k*d]:List Int).map D.int))(kb:k.natAbs<cT):ab (gq [d3 (k*b) (k*c) (k*d)]) (d3 b c d):=by
 have hn:¬ (k*b=0/\k*c=0/\k*d=0):=fun z=>p.ne ⟨rfl,(Int.mul_eq_zero.mp z.1).resolve_left hk,(Int.mul_eq_zero.mp z.2.1).resolve_left hk,(Int.mul_eq_zero.mp z.2.2).resolve_left hk⟩
 have hg:gX (([k*b,k*c,k*d]:List Int).map D.int)=k.natAbs:=by rw[ij];exact wz hk p
 have hl:=tV hk hn
 have pos:=p.pos
 have fd:∀x:Int,(k*x).fdiv k=x:=fun x=>Int.mul_fdiv_cancel_left x hk
 have fin:=uu (k*b) (k*c) (k*d) k ⟨hk,kb⟩
 rw[fd,fd,fd]at fin
 have hD:ab (dJ [d3 (k*b) (k*c) (k*d)]) (.int (k.natAbs:Nat)):=⟨[okT (([k*b,k*c,k*d]:List Int).map D.int)],by rw[<- hg];rfl,hT,True.intro⟩
 refine bz (aP (aY (d:=.int (k.natAbs:Nat)) (ay decl_name% hD)) (aP (aY (d:=.int (k*cJ 0 b c d)) (my (k:=0) (im (out:=((([k*b,k*c,k*d]:List Int).filter fun t => !decide (t=0)).map D.int)) (j:=0) decl_name% (ds:=([k*b,k*c,k*d]:List Int).map D.int) rfl ⟨Nat.le_of_ble_eq_true rfl,.inl rfl⟩ (dY (g:=D.int) (f:=D.int) (c:=fun t => !decide (t=0)) (fun x _=>?_)) (Nat.zero_le 1)) decl_name% rfl hl)) ?_))
 ·refine ab.bnd (a:=!decide (x=0)) (fS (b:=!decide (x=0)) (c:=!decide (x=0)) (decl_name%.bl (by show(!eqD (.int x) (.int 0))=_;rw[cz])) (fun h=>by rw[h];exact mx) id) ?_
  cases decide (x=0)
  ·exact ab.bnd decl_name% cu
  ·exact cu
 ·rcases Int.lt_or_gt_of_ne hk with q|q
  ·have hlt:k*cJ 0 b c d<0:=Int.mul_neg_of_neg_of_pos q pos
   refine cW decl_name% (decide_eq_true hlt) (aP (aY (d:=.int (0-(k.natAbs:Int))) decl_name%) ?_)
   have ek:0-(k.natAbs:Int)=k:=by omega
   rw[ek]
   exact bp (ah rfl (ah rfl aE)) fin
  ·have hge:¬ k*cJ 0 b c d<0:=by have:=Int.mul_pos q pos;omega
   refine be decl_name% (decide_eq_false hge) ?_
   have ek:(k.natAbs:Int)=k:=by omega
   rw[ek]
   exact bp (ah rfl (ah rfl aE)) fin
theorem Gk{d:D}(h:ab (cF [d]) r):ab (cY [.str "turn", d]) r:=bz (cW decl_name% rfl (b0 (bN (ay decl_name% h))))
theorem DO{n1:Str}{w1 r1 t1 w2 r2 t2:D}{b:Bool}(h1:n1 = "Turn" \/ n1 = "Mirror" \/ n1 = "HalfTurn")(hc:ab (gZ .Eq t1 t2) b):ab (cN [.obj n1 ["word", "row", "fractions"] [w1,r1,t1],.obj n1 ["word", "row", "fractions"] [w2,r2,t2]]) (.bl b):=by
 rcases h1 with rfl|rfl|rfl
 ·exact bz (b0 (bN (bW decl_name% (bI decl_name% decl_name% rfl (d:=t2) decl_name%) hc)))
 ·exact bz (b0 (bN (bW decl_name% (bI decl_name% decl_name% rfl (d:=t2) decl_name%) hc)))
 ·exact bz (b0 (bN (bW decl_name% (bI decl_name% decl_name% rfl (d:=t2) decl_name%) hc)))
abbrev gH(C w:Str)(r t:D):D:=.obj C ["word", "row", "fractions"] [.str w,r,t]
theorem Fq{ws:List (List Nat)}(h:∀w∈ws,∀c∈w,c<128):∀c∈jn ws,c<128:=by
 intro c hc
 cases ws with
 | nil=>cases hc
 | cons a l =>
  rcases List.mem_append.mp (show c∈a++l.flatMap fun p=>32::p from hc)with z|z
  ·exact h a List.mem_cons_self c z
  ·obtain⟨p,hp,z⟩:=List.mem_flatMap.mp z
   rcases List.mem_cons.mp z with rfl|z
   ·decide
   ·exact h p (List.mem_cons_of_mem _ hp) c z
theorem vc{ms:List Int}{T:T9}(hC:C = "Turn" \/ C = "Mirror" \/ C = "HalfTurn")(hw:pM w ns.length)(hl:ms.length=ns.length)(hn:∀n∈ns,n.natAbs<10 ^ 40)(hm:∀n∈ms,n.natAbs<10 ^ 40)(h1:ab (cY [.str w,.tup (ms.map D.int)]) (gH C w (.tup (ns.map D.int)) T.D))(h2:ab (cY [.str w,.tup (ns.map D.int)]) (gH C w (.tup (ns.map D.int)) T.D))(hT:ab (gq [.tup (ms.map D.int)]) (.tup (ns.map D.int))):ab (az mL ((ak (ai 44)).drop 5) (aa (ai 44)) (bj [("_law_word", .str w,true),("_law_numbers_here", .tup (ms.map D.int),true),("_law_deed", gH C w (.tup (ns.map D.int)) T.D,true)])) (.rt (.bl true)):=by
 obtain⟨w1,w2,w3,w4,w5⟩:=hw.len
 have a1:=EV (w:=w.cps.toList) w1 w3 hn
 have a2:=EV (w:=w.cps.toList) (ns:=ms) (by omega) w3 hm
 have a3:=Jp (w:=w.cps.toList) hC (fun z=>w2 (by rw[z];rfl)) w3 w1 hn T.D
 have d1:=Gb hw hn h2
 have d2:=Gb (ns:=ms) (by rw[hl];exact hw) hm h1
 have sm:ab (cN [gH C w (.tup (ns.map D.int)) T.D,gH C w (.tup (ns.map D.int)) T.D]) (.bl true):=DO hC (ab.eq decl_name% T.eqD)
 have sk:PyData.strOk (sN (jn (w.cps.toList::ns.map bD)))=true:=ph (Fq (by
  intro v hv
  rcases List.mem_cons.mp hv with rfl|hv
  ·exact w5
  ·obtain⟨n,_,rfl⟩:=List.mem_map.mp hv
   exact vK n))
 have ek:=iU sk sk
 unfold Jc at a3
 rw[<- hW]at a1 a2 a3
 generalize sN (jn (w.cps.toList::ns.map bD))=S1 at *
 generalize sN (jn (w.cps.toList::ms.map bD))=S2 at *
 have cn:ab (gZ .NotEq (.str S1) (.str S1)) false:=ab.eq ⟨_,rfl,ek,True.intro⟩ (by rw[gk,decide_eq_true rfl];rfl)
 have ce:ab (gZ .Eq (.str S1) (.str S1)) true:=ab.eq ⟨_,rfl,ek,True.intro⟩ (by rw[gk,decide_eq_true rfl])
 generalize T.D=t at *
 generalize D.tup (ns.map D.int)=R at *
 generalize D.tup (ms.map D.int)=M at *
 clear hw w1 w2 w3 w4 w5 hn hm hl sk
 rcases hC with rfl|rfl|rfl
 ·refine aP (aY (ay (aS decl_name% (aS (ay decl_name% hT) bU)) a1)) (be (bW (bI decl_name% decl_name% rfl a3) decl_name% cn) rfl (na [.str S1,.str S2] (rm (aS decl_name% (aS (ay decl_name% a2) bU)) (Nat.le_of_ble_eq_true rfl)) ?_))
  refine nQ (C:=bj [("_law_deed", gH "Turn" w R t,true),("_law_due", .str S1,true)]) (P:=fun ρ=>ui _ _ _ _ _ _ _ ρ) (ah rfl (ah rfl aE)) fun ρ s=>?_
  refine⟨_,rfl,.inl (dA (s.put _ _) (aP (aY (ay decl_name% d1)) (be (dX (b4 decl_name% (b4 (bW (bI decl_name% decl_name% rfl a3) decl_name% cn) (b4 (bW (bI decl_name% decl_name% rfl sm) decl_name% decl_name%) eY)))) rfl dh)) fun ρ s'=>?_)⟩
  replace s:=(show Sub (bj [("_law_deed", gH "Turn" w R t,true),("_law_due", .str S1,true)]) ρ from ah s'.get (ah s'.get aE))
  clear s'
  refine⟨_,rfl,.inl (dA (s.put _ _) (aP (aY (ay decl_name% d2)) (be (dX (b4 decl_name% (b4 (bW (bI decl_name% decl_name% rfl a3) decl_name% cn) (b4 (bW (bI decl_name% decl_name% rfl sm) decl_name% decl_name%) eY)))) rfl dh)) fun ρ s'=>?_)⟩
  exact bp (show Sub (bj [("_law_deed", gH "Turn" w R t,true),("_law_due", .str S1,true)]) ρ from ah s'.get (ah s'.get aE)) (b0 (bN (bW (bI decl_name% decl_name% rfl a3) decl_name% ce)))
 ·refine aP (aY (ay (aS decl_name% (aS (ay decl_name% hT) bU)) a1)) (be (bW (bI decl_name% decl_name% rfl a3) decl_name% cn) rfl (na [.str S1,.str S2] (rm (aS decl_name% (aS (ay decl_name% a2) bU)) (Nat.le_of_ble_eq_true rfl)) ?_))
  refine nQ (C:=bj [("_law_deed", gH "Mirror" w R t,true),("_law_due", .str S1,true)]) (P:=fun ρ=>ui _ _ _ _ _ _ _ ρ) (ah rfl (ah rfl aE)) fun ρ s=>?_
  refine⟨_,rfl,.inl (dA (s.put _ _) (aP (aY (ay decl_name% d1)) (be (dX (b4 decl_name% (b4 (bW (bI decl_name% decl_name% rfl a3) decl_name% cn) (b4 (bW (bI decl_name% decl_name% rfl sm) decl_name% decl_name%) eY)))) rfl dh)) fun ρ s'=>?_)⟩
  replace s:=(show Sub (bj [("_law_deed", gH "Mirror" w R t,true),("_law_due", .str S1,true)]) ρ from ah s'.get (ah s'.get aE))
  clear s'
  refine⟨_,rfl,.inl (dA (s.put _ _) (aP (aY (ay decl_name% d2)) (be (dX (b4 decl_name% (b4 (bW (bI decl_name% decl_name% rfl a3) decl_name% cn) (b4 (bW (bI decl_name% decl_name% rfl sm) decl_name% decl_name%) eY)))) rfl dh)) fun ρ s'=>?_)⟩
  exact bp (show Sub (bj [("_law_deed", gH "Mirror" w R t,true),("_law_due", .str S1,true)]) ρ from ah s'.get (ah s'.get aE)) (b0 (bN (bW (bI decl_name% decl_name% rfl a3) decl_name% ce)))
 ·refine aP (aY (ay (aS decl_name% (aS (ay decl_name% hT) bU)) a1)) (be (bW (bI decl_name% decl_name% rfl a3) decl_name% cn) rfl (na [.str S1,.str S2] (rm (aS decl_name% (aS (ay decl_name% a2) bU)) (Nat.le_of_ble_eq_true rfl)) ?_))
  refine nQ (C:=bj [("_law_deed", gH "HalfTurn" w R t,true),("_law_due", .str S1,true)]) (P:=fun ρ=>ui _ _ _ _ _ _ _ ρ) (ah rfl (ah rfl aE)) fun ρ s=>?_
  refine⟨_,rfl,.inl (dA (s.put _ _) (aP (aY (ay decl_name% d1)) (be (dX (b4 decl_name% (b4 (bW (bI decl_name% decl_name% rfl a3) decl_name% cn) (b4 (bW (bI decl_name% decl_name% rfl sm) decl_name% decl_name%) eY)))) rfl dh)) fun ρ s'=>?_)⟩
  replace s:=(show Sub (bj [("_law_deed", gH "HalfTurn" w R t,true),("_law_due", .str S1,true)]) ρ from ah s'.get (ah s'.get aE))
  clear s'
  refine⟨_,rfl,.inl (dA (s.put _ _) (aP (aY (ay decl_name% d2)) (be (dX (b4 decl_name% (b4 (bW (bI decl_name% decl_name% rfl a3) decl_name% cn) (b4 (bW (bI decl_name% decl_name% rfl sm) decl_name% decl_name%) eY)))) rfl dh)) fun ρ s'=>?_)⟩
  exact bp (show Sub (bj [("_law_deed", gH "HalfTurn" w R t,true),("_law_due", .str S1,true)]) ρ from ah s'.get (ah s'.get aE)) (b0 (bN (bW (bI decl_name% decl_name% rfl a3) decl_name% ce)))
theorem iC(hk:k≠0)(h:(k*x).natAbs<10 ^ 40):x.natAbs<10 ^ 40:=by
 rw[Int.natAbs_mul]at h
 exact Nat.lt_of_le_of_lt (Nat.le_mul_of_pos_left _ (by omega)) h
theorem ES(h1:P a)(h2:P b)(h3:P c)(h4:P d):∀n∈[a,b,c,d],P n:=by
 intro n hn
 simp only[List.mem_cons,List.not_mem_nil,or_false]at hn
 rcases hn with rfl|rfl|rfl|rfl<;>assumption
theorem uT(h1:P a)(h2:P b)(h3:P c):∀n∈[a,b,c],P n:=by
 intro n hn
 simp only[List.mem_cons,List.not_mem_nil,or_false]at hn
 rcases hn with rfl|rfl|rfl<;>assumption
theorem ER{u:Int}(h0:¬ (x=0/\y=0/\z=0/\u=0))(hx:x.natAbs<10 ^ 40)(hy:y.natAbs<10 ^ 40)(hz:z.natAbs<10 ^ 40)(hu:u.natAbs<10 ^ 40):ab (az mL ((ak (ai 44)).drop 4) (aa (ai 44)) (bj [("_law_kind", .int 0,true),("_law_word", .str "turn", true),("_law_numbers_here", t4 x y z u,true)])) (.rt (.bl true)):=by
 obtain⟨k,a,b,c,d,hk,rfl,rfl,rfl,rfl,p,_⟩:=tH h0
 have l4:gA (2 ^ 140) (kq k (a,b,c,d)):=⟨cI hx,cI hy,cI hz,cI hu⟩
 have kb:k.natAbs<cT:=dl (Ff (q:=(a,b,c,d)) p.ne l4) (by decide)
 have hT:=qP (q:=(a,b,c,d)) (by decide) l4
 have ha:=iC hk hx
 have hb:=iC hk hy
 have hc:=iC hk hz
 have hd:=iC hk hu
 have o4:gA (2 ^ 140) (kq 1 (a,b,c,d)):=⟨by show(1*a).natAbs<=_;rw[Int.one_mul];exact cI ha,by show(1*b).natAbs<=_;rw[Int.one_mul];exact cI hb,by show(1*c).natAbs<=_;rw[Int.one_mul];exact cI hc,by show(1*d).natAbs<=_;rw[Int.one_mul];exact cI hd⟩
 have t1:=vL hk p hT kb (cI ha) (cI hb) (cI hc) (cI hd)
 have t2:=vL (k:=1) (by decide) p (qP (q:=(a,b,c,d)) (by decide) o4) (dl (m:=1) (by decide) (by decide)) (cI ha) (cI hb) (cI hc) (cI hd)
 rw[Int.one_mul,Int.one_mul,Int.one_mul,Int.one_mul]at t2
 have f:=vc (C := "Turn") (w := "turn") (ns:=[a,b,c,d]) (ms:=[k*a,k*b,k*c,k*d]) (T:=(tq (a,b,c,d)).low) (.inl rfl) (.inl ⟨rfl,rfl⟩) rfl (ES ha hb hc hd) (ES hx hy hz hu) (Gk t1) (Gk t2) (Db hk p hT kb)
 exact cW decl_name% rfl (aP (aY (ay decl_name% t1)) (bp (ah rfl (ah rfl (ah rfl aE))) f))
theorem uR(h0:¬ (x=0/\y=0/\z=0))(hx:x.natAbs<10 ^ 40)(hy:y.natAbs<10 ^ 40)(hz:z.natAbs<10 ^ 40):ab (az mL ((ak (ai 44)).drop 4) (aa (ai 44)) (bj [("_law_kind", .int 1,true),("_law_word", .str "half", true),("_law_numbers_here", d3 x y z,true)])) (.rt (.bl true))/\ab (az mL ((ak (ai 44)).drop 4) (aa (ai 44)) (bj [("_law_kind", .int 2,true),("_law_word", .str "mirror", true),("_law_numbers_here", d3 x y z,true)])) (.rt (.bl true)):=by
 obtain⟨k,v,hk,e,p⟩:=HD (u:=(x,y,z)) (fun q=>h0 q.2)
 obtain⟨b,c,d⟩:=v
 cases e
 have bm:kQ 140 (k*b,k*c,k*d):=rQ ⟨cI hx,cI hy,cI hz⟩
 obtain⟨o1,o2,kb,bv⟩:=IW (u:=(b,c,d)) hk p (Nat.le_refl 140) bm
 obtain⟨v1,v2,v3⟩:=bv.all
 have hb:=iC hk hx
 have hc:=iC hk hy
 have hd:=iC hk hz
 have b1:kQ 140 (1*b,1*c,1*d):=rQ ⟨by show(1*b).natAbs<=_;rw[Int.one_mul];exact v1,by show(1*c).natAbs<=_;rw[Int.one_mul];exact v2,by show(1*d).natAbs<=_;rw[Int.one_mul];exact v3⟩
 obtain⟨q1,q2,_,_⟩:=IW (u:=(b,c,d)) (k:=1) (by decide) p (Nat.le_refl 140) b1
 have g1:=wQ hk p o1 o2 kb v1 v2 v3
 have g2:=wQ (k:=1) (by decide) p q1 q2 (dl (m:=1) (by decide) (by decide)) v1 v2 v3
 have g3:=Ag hk p o1 o2 kb v1 v2 v3
 have g4:=Ag (k:=1) (by decide) p q1 q2 (dl (m:=1) (by decide) (by decide)) v1 v2 v3
 have td:=AY hk p o1 kb
 rw[Int.one_mul,Int.one_mul,Int.one_mul]at g2 g4
 have f1:=vc (C := "HalfTurn") (w := "half") (ns:=[b,c,d]) (ms:=[k*b,k*c,k*d]) (T:=(tq (aq (b,c,d))).low) (.inr (.inr rfl)) (.inr (.inl ⟨rfl,rfl⟩)) rfl (uT hb hc hd) (uT hx hy hz) (Gn g1) (Gn g2) td
 have f2:=vc (C := "Mirror") (w := "mirror") (ns:=[b,c,d]) (ms:=[k*b,k*c,k*d]) (T:=(tq (aq (b,c,d))).low.mir) (.inr (.inl rfl)) (.inr (.inr ⟨rfl,rfl⟩)) rfl (uT hb hc hd) (uT hx hy hz) (Gm g3) (Gm g4) td
 exact⟨be decl_name% rfl (cW decl_name% rfl (aP (aY (ay decl_name% g1)) (bp (ah rfl (ah rfl (ah rfl aE))) f1))),be decl_name% rfl (be decl_name% rfl (aP (aY (ay decl_name% g3)) (bp (ah rfl (ah rfl (ah rfl aE))) f2)))⟩
theorem yw(ns:List Int)(_:ns.length<=63)(hb:∀m∈ns,Builtin.Int.intBits m<=2 ^ 20):ab (pF [.lst (ns.map D.int)]) (.bl true):=by
 have hw:i8 (ns.map D.int):=⟨ns,rfl,hb⟩
 generalize ns.map D.int=L at *
 have hl:=hw.okL
 have k0:=Int.fmod_nonneg_of_pos (cG L 0) (show(0:Int)<3 by decide)
 have k1:=Int.fmod_lt_of_pos (cG L 0) (show(0:Int)<3 by decide)
 have mo:∀x:Int,bi x->eT x (10 ^ Int.toNat 19):=fun x h=>tP (dl (m:=67) (Nat.le_trans h (by decide)) (by decide)) (dl (m:=67) (by decide) (by decide))
 have hk:(cG L 0).fmod 3=0\/(cG L 0).fmod 3=1\/(cG L 0).fmod 3=2:=by omega
 rcases hk with ek|ek|ek
 ·obtain⟨x,y,z,u,⟨n1,n2,n3,n4⟩,h0,hN⟩:=EJ hw 1
  have m1:=mo x n1
  have m2:=mo y n2
  have m3:=mo z n3
  have m4:=mo u n4
  refine bz (aP (aY (d:=.int 0) ((decl_name%).eq (by show(D.int ((cG L 0).fmod 3),0)=_;rw[ek]))) (cP 1 decl_name% (aP (aY (ay decl_name% hN)) (jZ (t:=decide (((cG L 0).fdiv 3).fmod 4=1)) ((decl_name%).bl (cz _ _)) (fun _=>?_) (fun _=>?_)))))
  ·exact cP 1 decl_name% (bp (ah rfl (ah rfl (ah rfl aE))) (ER (fun q=>h0 ⟨Classical.byContradiction fun h=>fj h q.1,Classical.byContradiction fun h=>fj h q.2.1,Classical.byContradiction fun h=>fj h q.2.2.1,Classical.byContradiction fun h=>fj h q.2.2.2⟩) (fk n1) (fk n2) (fk n3) (fk n4)))
  ·exact bp (ah rfl (ah rfl (ah rfl aE))) (ER h0 (er n1) (er n2) (er n3) (er n4))
 ·obtain⟨x,y,z,⟨n1,n2,n3⟩,h0,hN⟩:=wj hw 1
  have m1:=mo x n1
  have m2:=mo y n2
  have m3:=mo z n3
  refine bz (aP (aY (d:=.int 1) ((decl_name%).eq (by show(D.int ((cG L 0).fmod 3),0)=_;rw[ek]))) (cP 1 decl_name% (aP (aY (ay decl_name% hN)) (jZ (t:=decide (((cG L 0).fdiv 3).fmod 4=1)) ((decl_name%).bl (cz _ _)) (fun _=>?_) (fun _=>?_)))))
  ·exact cP 1 decl_name% (bp (ah rfl (ah rfl (ah rfl aE))) (uR (fun q=>h0 ⟨Classical.byContradiction fun h=>fj h q.1,Classical.byContradiction fun h=>fj h q.2.1,Classical.byContradiction fun h=>fj h q.2.2⟩) (fk n1) (fk n2) (fk n3)).1)
  ·exact bp (ah rfl (ah rfl (ah rfl aE))) (uR h0 (er n1) (er n2) (er n3)).1
 ·obtain⟨x,y,z,⟨n1,n2,n3⟩,h0,hN⟩:=wj hw 1
  have m1:=mo x n1
  have m2:=mo y n2
  have m3:=mo z n3
  refine bz (aP (aY (d:=.int 2) ((decl_name%).eq (by show(D.int ((cG L 0).fmod 3),0)=_;rw[ek]))) (cP 1 decl_name% (aP (aY (ay decl_name% hN)) (jZ (t:=decide (((cG L 0).fdiv 3).fmod 4=1)) ((decl_name%).bl (cz _ _)) (fun _=>?_) (fun _=>?_)))))
  ·exact cP 1 decl_name% (bp (ah rfl (ah rfl (ah rfl aE))) (uR (fun q=>h0 ⟨Classical.byContradiction fun h=>fj h q.1,Classical.byContradiction fun h=>fj h q.2.1,Classical.byContradiction fun h=>fj h q.2.2⟩) (fk n1) (fk n2) (fk n3)).2)
  ·exact bp (ah rfl (ah rfl (ah rfl aE))) (uR h0 (er n1) (er n2) (er n3)).2
theorem Ka:aK (aw (aa (ai 35))) ["_law_script", "_law_k"] (aa (ai 35)):=⟨rfl,rfl,rfl,by decide +kernel,by decide +kernel,by decide +kernel,by decide +kernel⟩
theorem J9:aK (aw (aa (ai 37))) ["_law_cell_here", "_law_kind"] (aa (ai 37)):=⟨rfl,rfl,rfl,by decide +kernel,by decide +kernel,by decide +kernel,by decide +kernel⟩
theorem J8:aK (aw (aa (ai 38))) ["_law_script", "_law_at", "_law_many"] (aa (ai 38)):=⟨rfl,rfl,rfl,by decide +kernel,by decide +kernel,by decide +kernel,by decide +kernel⟩
theorem J4:aK (aw (aa (ai 41))) ["_law_number_here"] (aa (ai 41)):=⟨rfl,rfl,rfl,by decide +kernel,by decide +kernel,by decide +kernel,by decide +kernel⟩
theorem J3:aK (aw (aa (ai 42))) ["_law_word", "_law_numbers_here"] (aa (ai 42)):=⟨rfl,rfl,rfl,by decide +kernel,by decide +kernel,by decide +kernel,by decide +kernel⟩
theorem J6:aK (aw (aa (ai 39))) ["_law_numbers_here"] (aa (ai 39)):=⟨rfl,rfl,rfl,by decide +kernel,by decide +kernel,by decide +kernel,by decide +kernel⟩
theorem J5:aK (aw (aa (ai 40))) ["_law_numbers_here"] (aa (ai 40)):=⟨rfl,rfl,rfl,by decide +kernel,by decide +kernel,by decide +kernel,by decide +kernel⟩
theorem Kg:aK (aw (aa (ai 23))) ["text"] (aa (ai 23)):=⟨rfl,rfl,rfl,by decide +kernel,by decide +kernel,by decide +kernel,by decide +kernel⟩
theorem Kh:aK (aw (aa (ai 22))) ["word"] (aa (ai 22)):=⟨rfl,rfl,rfl,by decide +kernel,by decide +kernel,by decide +kernel,by decide +kernel⟩
theorem Kc:aK (aw (aa (ai 32))) ["words"] (aa (ai 32)):=⟨rfl,rfl,rfl,by decide +kernel,by decide +kernel,by decide +kernel,by decide +kernel⟩
theorem Nw:aK (aw (aa (ai 9))) ["one", "other"] (aa (ai 9)):=⟨rfl,rfl,rfl,by decide +kernel,by decide +kernel,by decide +kernel,by decide +kernel⟩
theorem Nx:aK (aw (aa (ai 8))) ["numbers"] (aa (ai 8)):=⟨rfl,rfl,rfl,by decide +kernel,by decide +kernel,by decide +kernel,by decide +kernel⟩
theorem Km:aK (aw (aa (ai 10))) ["numbers", "divisor"] (aa (ai 10)):=⟨rfl,rfl,rfl,by decide +kernel,by decide +kernel,by decide +kernel,by decide +kernel⟩
theorem Kl:aK (aw (aa (ai 11))) ["numbers"] (aa (ai 11)):=⟨rfl,rfl,rfl,by decide +kernel,by decide +kernel,by decide +kernel,by decide +kernel⟩
theorem Kk:aK (aw (aa (ai 14))) ["table"] (aa (ai 14)):=⟨rfl,rfl,rfl,by decide +kernel,by decide +kernel,by decide +kernel,by decide +kernel⟩
theorem Kj:aK (aw (aa (ai 16))) ["numbers"] (aa (ai 16)):=⟨rfl,rfl,rfl,by decide +kernel,by decide +kernel,by decide +kernel,by decide +kernel⟩
theorem DN:aK (aw (aa (aL (ai 26) 0))) ["self", "word", "row", "fractions"] (aa (aL (ai 26) 0)):=⟨rfl,rfl,rfl,by decide +kernel,by decide +kernel,by decide +kernel,by decide +kernel⟩
theorem DM:aK (aw (aa (aL (ai 27) 0))) ["self", "numbers"] (aa (aL (ai 27) 0)):=⟨rfl,rfl,rfl,by decide +kernel,by decide +kernel,by decide +kernel,by decide +kernel⟩
theorem Kf:aK (aw (aa (ai 30))) ["axis"] (aa (ai 30)):=⟨rfl,rfl,rfl,by decide +kernel,by decide +kernel,by decide +kernel,by decide +kernel⟩
theorem DL:aK (aw (aa (aL (ai 28) 0))) ["self", "axis"] (aa (aL (ai 28) 0)):=⟨rfl,rfl,rfl,by decide +kernel,by decide +kernel,by decide +kernel,by decide +kernel⟩
theorem Ny:aK (aw (aa (ai 6))) ["one"] (aa (ai 6)):=⟨rfl,rfl,rfl,by decide +kernel,by decide +kernel,by decide +kernel,by decide +kernel⟩
theorem DK:aK (aw (aa (aL (ai 29) 0))) ["self", "axis"] (aa (aL (ai 29) 0)):=⟨rfl,rfl,rfl,by decide +kernel,by decide +kernel,by decide +kernel,by decide +kernel⟩
theorem Kb:aK (aw (aa (ai 33))) ["word", "numbers"] (aa (ai 33)):=⟨rfl,rfl,rfl,by decide +kernel,by decide +kernel,by decide +kernel,by decide +kernel⟩
theorem Ke:aK (aw (aa (ai 31))) ["text"] (aa (ai 31)):=⟨rfl,rfl,rfl,by decide +kernel,by decide +kernel,by decide +kernel,by decide +kernel⟩
theorem J2:aK (aw (aa (ai 43))) ["_law_deed"] (aa (ai 43)):=⟨rfl,rfl,rfl,by decide +kernel,by decide +kernel,by decide +kernel,by decide +kernel⟩
theorem Ki:aK (aw (aa (ai 21))) ["numbers"] (aa (ai 21)):=⟨rfl,rfl,rfl,by decide +kernel,by decide +kernel,by decide +kernel,by decide +kernel⟩
theorem pZ:aK (aw (aa (aL (ai 26) 4))) ["self"] (aa (aL (ai 26) 4)):=⟨rfl,rfl,rfl,by decide +kernel,by decide +kernel,by decide +kernel,by decide +kernel⟩
theorem qc:aK (aw (aa (aL (ai 26) 1))) ["self"] (aa (aL (ai 26) 1)):=⟨rfl,rfl,rfl,by decide +kernel,by decide +kernel,by decide +kernel,by decide +kernel⟩
theorem p9:aK (aw (aa (aL (ai 26) 3))) ["self", "other"] (aa (aL (ai 26) 3)):=⟨rfl,rfl,rfl,by decide +kernel,by decide +kernel,by decide +kernel,by decide +kernel⟩
theorem J1:aK (aw (aa (ai 44))) ["_law_script"] (aa (ai 44)):=⟨rfl,rfl,rfl,by decide +kernel,by decide +kernel,by decide +kernel,by decide +kernel⟩
theorem bw:∀p∈BL,fI p:=ac (Pr:=fI) (ze) (ac (Pr:=fI) (xu) (ac (Pr:=fI) (CW) (ac (Pr:=fI) (CV) (ac (Pr:=fI) (zj) (ac (Pr:=fI) (CS) (ac (Pr:=fI) (zh) (ac (Pr:=fI) (CO) (ac (Pr:=fI) (CP) (al)))))))))
theorem bu:∀p∈IL,sd p:=ac (Pr:=sd) (wM) (ac (Pr:=sd) (yG) (al))
theorem bt:∀p∈ML,ol p:=ac (Pr:=ol) (ym) (ac (Pr:=ol) (wp) (ac (Pr:=ol) (ET) (al)))
theorem br:∀p∈TL,vD p:=ac (Pr:=vD) (uX) (al)
theorem cL{P:Program}{w:World}{k:Nat}(h:c4 P w k0 mg base j g F)(t:∀p∈l,oX P w k0 mg base k p)(hj:j<=k:=by decide):∀p∈(g,F)::l,oX P w k0 mg base k p:=ac (Pr:=oX P w k0 mg base k) (Or.inl (h.mono hj)) t
theorem cR{P:Program}{w:World}{k:Nat}(h:mQ P w k0 mg base j g F)(t:∀p∈l,oX P w k0 mg base k p)(hj:j<=k:=by decide):∀p∈(g,F)::l,oX P w k0 mg base k p:=ac (Pr:=oX P w k0 mg base k) (Or.inr (h.mono hj)) t
theorem all_mk{l:W.OpenLaw}{w:World}{K:W.Frag}{h:Heap}{fa f35 f37 f38 f41 f42 f39 f40 f23 f22 f32 f9 f8 f10 f11 f14 f16 pB mm f30 ml f6 mj f33 f31 f43 f21 gE gG gF f44 bf aC aR e8:Addr}(X:K.In h)(G:h.Ns mainGlobals mg)(hfa:mg "law" = some (.ref fa))
  {K5 M3 K3 M2 K2 M1 KZ MY KY MX K1 M0 K0 MZ La M8 Lb M9 K7 M5 od9 an9 od8 an8 Lg Nf Lf Nd Le Nc Ld Nb EA G7 Ew G3 K9 M7 Ev G2 od6 an6 Eu G1 K6 M4 K8 M6 KW MW Lc Na Ex G4 Ez G6 Ey G5 KU G0:Option Addr} {JO JN JM JJ JI JL JK JT JU JQ sl9 sl8 JZ JY JX JW DB Dx JS Dw sl6 Dv JP JR JH JV Dy DA Dz JG:Array (Option Value)} {Lp LQ Mh KF GI MH Lo LP Mg KE GH MG Ln LO Mf KD GG MF Lk LL Mc KA GC MC Lj LK Mb Kz GB MB Lm LN Me KC GF ME Ll LM Md KB GE MD Lw LV Mn KK GN MN Lx LW Mp KL GO MO Lr LS Mj KH GK MJ oc9 kV9 dc9 pm9 cd9 ct9 oc8 kV8 dc8 pm8 cd8 ct8 LC L1 Mu KQ GT MT LB L0 Mt KP GS MS LA LZ Ms KO GR MR Lz LY Mr KN GQ MQ EI Fp Gj D5 xi Gy EE Fj Gf D1 xc Gu Lv LU Mm KJ GM MM EC Fi Ge DZ xb Gs oc6 kV6 dc6 pm6 cd6 ct6 EB Fh Gd DY xa Gr Lq LR Mi KG GJ MI Lu LT Ml KI GL MK Li LJ Ma Ky GA MA Ly LX Mq KM GP MP EF Fk Gg D2 xf Gv EH Fo Gi D4 xh Gx EG Fm Gh D3 xg Gw Lh Fg Gc DX y6 Gq:Value}
  (cO:W.nsIn K mainGlobals "Turn" = some (some (.ref bf)))
  (Bz:W.plainGet K bf Str.empty=true)
  (B8:W.hasDictIn K bf=true)
  (Bx:W.plainOver K bf=true)
  (Bj:W.findIn K (.ref bf) "__setattr__" = some (some (.builtin "object.__setattr__")))
  (BS:W.makesIn K bf=true)
  (yB:W.findIn K (.ref bf) "__init__" = some (some (.ref mm)))
  (yC:W.isFn K (.ref mm)=true)
  (yY:W.keepIn K (.ref bf)=true)
  (jB:W.findIn K (.ref bf) "word" = some none)
  (kM:W.findIn K (.ref bf) "row" = some none)
  (fJ:W.findIn K (.ref bf) "fractions" = some none)
  (bJ:W.nsIn K mainGlobals "HalfTurn" = some (some (.ref aC)))
  (sj:W.plainGet K aC Str.empty=true)
  (sA:W.hasDictIn K aC=true)
  (si:W.plainOver K aC=true)
  (sg:W.findIn K (.ref aC) "__setattr__" = some (some (.builtin "object.__setattr__")))
  (su:W.makesIn K aC=true)
  (qW:W.findIn K (.ref aC) "__init__" = some (some (.ref ml)))
  (qX:W.isFn K (.ref ml)=true)
  (rJ:W.keepIn K (.ref aC)=true)
  (f7:W.findIn K (.ref aC) "word" = some none)
  (gz:W.findIn K (.ref aC) "row" = some none)
  (eJ:W.findIn K (.ref aC) "fractions" = some none)
  (bY:W.nsIn K mainGlobals "Mirror" = some (some (.ref aR)))
  (wb:W.plainGet K aR Str.empty=true)
  (wO:W.hasDictIn K aR=true)
  (v8:W.plainOver K aR=true)
  (v5:W.findIn K (.ref aR) "__setattr__" = some (some (.builtin "object.__setattr__")))
  (wo:W.makesIn K aR=true)
  (u5:W.findIn K (.ref aR) "__init__" = some (some (.ref mj)))
  (u6:W.isFn K (.ref mj)=true)
  (vg:W.keepIn K (.ref aR)=true)
  (hZ:W.findIn K (.ref aR) "word" = some none)
  (i9:W.findIn K (.ref aR) "row" = some none)
  (e9:W.findIn K (.ref aR) "fractions" = some none)
  (lf:W.findIn K (.ref aC) "same" = some (some (.ref gF))) (lh:W.isFn K (.ref gF)=true)
  (kG:W.findIn K (.ref aC) "table" = some (some (.ref gG))) (kH:W.isFn K (.ref gG)=true)
  (le:W.findIn K (.ref aC) "told" = some (some (.ref gE))) (lg:W.isFn K (.ref gE)=true)
  (nF:W.findIn K (.ref aR) "same" = some (some (.ref gF))) (nI:W.isFn K (.ref gF)=true)
  (lQ:W.findIn K (.ref aR) "table" = some (some (.ref gG))) (lR:W.isFn K (.ref gG)=true)
  (nE:W.findIn K (.ref aR) "told" = some (some (.ref gE))) (nH:W.isFn K (.ref gE)=true)
  (qE:W.findIn K (.ref bf) "same" = some (some (.ref gF))) (qJ:W.isFn K (.ref gF)=true)
  (o0:W.findIn K (.ref bf) "table" = some (some (.ref gG))) (o3:W.isFn K (.ref gG)=true)
  (qD:W.findIn K (.ref bf) "told" = some (some (.ref gE))) (qI:W.isFn K (.ref gE)=true)
  (fT:W.nsIn K mainGlobals "Deed" = some (some (.ref e8))) (nS:W.specialIn K (.ref e8) "__getattribute__" = some (some (.builtin "type.__getattribute__"))) (nc:W.readsIn K e8 (.type "type")=true) (nV:W.findCls K (.ref e8) (.type "type") "__init__" = some (.val (.ref pB)))
  (a35:W.nsIn K mainGlobals "_law_cell" = some (some (.ref f35)))    (l35:K.lookup f35=some ⟨Lp,K5,.func (W.fnOf "_law_cell" "_law_cell" (aW (ai 35)) (ak (ai 35)) (aa (ai 35)) .none LQ Mh KF M3 GI MH),JO⟩) (c35:W.codeIn K GI "_law_cell" = true) (k35:W.keepIn K (.ref f35)=true)
  (a37:W.nsIn K mainGlobals "_law_number" = some (some (.ref f37)))    (l37:K.lookup f37=some ⟨Lo,K3,.func (W.fnOf "_law_number" "_law_number" (aW (ai 37)) (ak (ai 37)) (aa (ai 37)) .none LP Mg KE M2 GH MG),JN⟩) (c37:W.codeIn K GH "_law_number" = true) (k37:W.keepIn K (.ref f37)=true)
  (a38:W.nsIn K mainGlobals "_law_numbers" = some (some (.ref f38)))    (l38:K.lookup f38=some ⟨Ln,K2,.func (W.fnOf "_law_numbers" "_law_numbers" (aW (ai 38)) (ak (ai 38)) (aa (ai 38)) .none LO Mf KD M1 GG MF),JM⟩) (c38:W.codeIn K GG "_law_numbers" = true) (k38:W.keepIn K (.ref f38)=true)
  (a41:W.nsIn K mainGlobals "_law_written" = some (some (.ref f41)))    (l41:K.lookup f41=some ⟨Lk,KZ,.func (W.fnOf "_law_written" "_law_written" (aW (ai 41)) (ak (ai 41)) (aa (ai 41)) .none LL Mc KA MY GC MC),JJ⟩) (c41:W.codeIn K GC "_law_written" = true) (k41:W.keepIn K (.ref f41)=true)
  (a42:W.nsIn K mainGlobals "_law_text" = some (some (.ref f42)))    (l42:K.lookup f42=some ⟨Lj,KY,.func (W.fnOf "_law_text" "_law_text" (aW (ai 42)) (ak (ai 42)) (aa (ai 42)) .none LK Mb Kz MX GB MB),JI⟩) (c42:W.codeIn K GB "_law_text" = true) (k42:W.keepIn K (.ref f42)=true)
  (a39:W.nsIn K mainGlobals "_law_divisor" = some (some (.ref f39)))    (l39:K.lookup f39=some ⟨Lm,K1,.func (W.fnOf "_law_divisor" "_law_divisor" (aW (ai 39)) (ak (ai 39)) (aa (ai 39)) .none LN Me KC M0 GF ME),JL⟩) (c39:W.codeIn K GF "_law_divisor" = true) (k39:W.keepIn K (.ref f39)=true)
  (a40:W.nsIn K mainGlobals "_law_told" = some (some (.ref f40)))    (l40:K.lookup f40=some ⟨Ll,K0,.func (W.fnOf "_law_told" "_law_told" (aW (ai 40)) (ak (ai 40)) (aa (ai 40)) .none LM Md KB MZ GE MD),JK⟩) (c40:W.codeIn K GE "_law_told" = true) (k40:W.keepIn K (.ref f40)=true)
  (a23:W.nsIn K mainGlobals "are_figures" = some (some (.ref f23)))    (l23:K.lookup f23=some ⟨Lw,La,.func (W.fnOf "are_figures" "are_figures" (aW (ai 23)) (ak (ai 23)) (aa (ai 23)) .none LV Mn KK M8 GN MN),JT⟩) (c23:W.codeIn K GN "are_figures" = true) (k23:W.keepIn K (.ref f23)=true)
  (a22:W.nsIn K mainGlobals "whole_read" = some (some (.ref f22)))    (l22:K.lookup f22=some ⟨Lx,Lb,.func (W.fnOf "whole_read" "whole_read" (aW (ai 22)) (ak (ai 22)) (aa (ai 22)) .none LW Mp KL M9 GO MO),JU⟩) (c22:W.codeIn K GO "whole_read" = true) (k22:W.keepIn K (.ref f22)=true)
  (a32:W.nsIn K mainGlobals "numbers_read" = some (some (.ref f32)))    (l32:K.lookup f32=some ⟨Lr,K7,.func (W.fnOf "numbers_read" "numbers_read" (aW (ai 32)) (ak (ai 32)) (aa (ai 32)) .none LS Mj KH M5 GK MJ),JQ⟩) (c32:W.codeIn K GK "numbers_read" = true) (k32:W.keepIn K (.ref f32)=true)
  (a9:W.nsIn K mainGlobals "shared_by" = some (some (.ref f9)))    (l9:K.lookup f9=some ⟨oc9,od9,.func (W.fnOf "shared_by" "shared_by" (aW (ai 9)) (ak (ai 9)) (aa (ai 9)) .none kV9 dc9 pm9 an9 cd9 ct9),sl9⟩) (c9:W.codeIn K cd9 "shared_by" = true) (k9:W.keepIn K (.ref f9)=true)
  (a8:W.nsIn K mainGlobals "common_divisor" = some (some (.ref f8)))    (l8:K.lookup f8=some ⟨oc8,od8,.func (W.fnOf "common_divisor" "common_divisor" (aW (ai 8)) (ak (ai 8)) (aa (ai 8)) .none kV8 dc8 pm8 an8 cd8 ct8),sl8⟩) (c8:W.codeIn K cd8 "common_divisor" = true) (k8:W.keepIn K (.ref f8)=true)
  (a10:W.nsIn K mainGlobals "shortened" = some (some (.ref f10)))    (l10:K.lookup f10=some ⟨LC,Lg,.func (W.fnOf "shortened" "shortened" (aW (ai 10)) (ak (ai 10)) (aa (ai 10)) .none L1 Mu KQ Nf GT MT),JZ⟩) (c10:W.codeIn K GT "shortened" = true) (k10:W.keepIn K (.ref f10)=true)
  (a11:W.nsIn K mainGlobals "upright" = some (some (.ref f11)))    (l11:K.lookup f11=some ⟨LB,Lf,.func (W.fnOf "upright" "upright" (aW (ai 11)) (ak (ai 11)) (aa (ai 11)) .none L0 Mt KP Nd GS MS),JY⟩) (c11:W.codeIn K GS "upright" = true) (k11:W.keepIn K (.ref f11)=true)
  (a14:W.nsIn K mainGlobals "lowest" = some (some (.ref f14)))    (l14:K.lookup f14=some ⟨LA,Le,.func (W.fnOf "lowest" "lowest" (aW (ai 14)) (ak (ai 14)) (aa (ai 14)) .none LZ Ms KO Nc GR MR),JX⟩) (c14:W.codeIn K GR "lowest" = true) (k14:W.keepIn K (.ref f14)=true)
  (a16:W.nsIn K mainGlobals "table_of" = some (some (.ref f16)))    (l16:K.lookup f16=some ⟨Lz,Ld,.func (W.fnOf "table_of" "table_of" (aW (ai 16)) (ak (ai 16)) (aa (ai 16)) .none LY Mr KN Nb GQ MQ),JW⟩) (c16:W.codeIn K GQ "table_of" = true) (k16:W.keepIn K (.ref f16)=true)
  (Id:K.lookup pB=some ⟨EI,EA,.func (W.fnOf "__init__" "Deed.__init__" (aW (aL (ai 26) 0)) (ak (aL (ai 26) 0)) (aa (aL (ai 26) 0)) .none Fp Gj D5 G7 xi Gy),DB⟩) (IO:W.codeIn K xi "Deed.__init__" = true) (pw:W.keepIn K (.ref pB)=true)
  (HZ:K.lookup mm=some ⟨EE,Ew,.func (W.fnOf "__init__" "Turn.__init__" (aW (aL (ai 27) 0)) (ak (aL (ai 27) 0)) (aa (aL (ai 27) 0)) .none Fj Gf D1 G3 xc Gu),Dx⟩) (IJ:W.codeIn K xc "Turn.__init__" = true) (Ik:W.keepIn K (.ref mm)=true)
  (a30:W.nsIn K mainGlobals "half_table" = some (some (.ref f30)))    (l30:K.lookup f30=some ⟨Lv,K9,.func (W.fnOf "half_table" "half_table" (aW (ai 30)) (ak (ai 30)) (aa (ai 30)) .none LU Mm KJ M7 GM MM),JS⟩) (c30:W.codeIn K GM "half_table" = true) (k30:W.keepIn K (.ref f30)=true)
  (HY:K.lookup ml=some ⟨EC,Ev,.func (W.fnOf "__init__" "HalfTurn.__init__" (aW (aL (ai 28) 0)) (ak (aL (ai 28) 0)) (aa (aL (ai 28) 0)) .none Fi Ge DZ G2 xb Gs),Dw⟩) (II:W.codeIn K xb "HalfTurn.__init__" = true) (Ij:W.keepIn K (.ref ml)=true)
  (a6:W.nsIn K mainGlobals "opposite" = some (some (.ref f6)))    (l6:K.lookup f6=some ⟨oc6,od6,.func (W.fnOf "opposite" "opposite" (aW (ai 6)) (ak (ai 6)) (aa (ai 6)) .none kV6 dc6 pm6 an6 cd6 ct6),sl6⟩) (c6:W.codeIn K cd6 "opposite" = true) (k6:W.keepIn K (.ref f6)=true)
  (HX:K.lookup mj=some ⟨EB,Eu,.func (W.fnOf "__init__" "Mirror.__init__" (aW (aL (ai 29) 0)) (ak (aL (ai 29) 0)) (aa (aL (ai 29) 0)) .none Fh Gd DY G1 xa Gr),Dv⟩) (IH:W.codeIn K xa "Mirror.__init__" = true) (Ii:W.keepIn K (.ref mj)=true)
  (a33:W.nsIn K mainGlobals "deed_by" = some (some (.ref f33)))    (l33:K.lookup f33=some ⟨Lq,K6,.func (W.fnOf "deed_by" "deed_by" (aW (ai 33)) (ak (ai 33)) (aa (ai 33)) .none LR Mi KG M4 GJ MI),JP⟩) (c33:W.codeIn K GJ "deed_by" = true) (k33:W.keepIn K (.ref f33)=true)
  (a31:W.nsIn K mainGlobals "deed_read" = some (some (.ref f31)))    (l31:K.lookup f31=some ⟨Lu,K8,.func (W.fnOf "deed_read" "deed_read" (aW (ai 31)) (ak (ai 31)) (aa (ai 31)) .none LT Ml KI M6 GL MK),JR⟩) (c31:W.codeIn K GL "deed_read" = true) (k31:W.keepIn K (.ref f31)=true)
  (a43:W.nsIn K mainGlobals "_law_class" = some (some (.ref f43)))    (l43:K.lookup f43=some ⟨Li,KW,.func (W.fnOf "_law_class" "_law_class" (aW (ai 43)) (ak (ai 43)) (aa (ai 43)) .none LJ Ma Ky MW GA MA),JH⟩) (c43:W.codeIn K GA "_law_class" = true) (k43:W.keepIn K (.ref f43)=true)
  (a21:W.nsIn K mainGlobals "row_text" = some (some (.ref f21)))    (wv:K.lookup f21=some ⟨Ly,Lc,.func (W.fnOf "row_text" "row_text" (aW (ai 21)) (ak (ai 21)) (aa (ai 21)) .none LX Mq KM Na GP MP),JV⟩) (c21:W.codeIn K GP "row_text" = true) (k21:W.keepIn K (.ref f21)=true)
  (Ia:K.lookup gE=some ⟨EF,Ex,.func (W.fnOf "told" "Deed.told" (aW (aL (ai 26) 4)) (ak (aL (ai 26) 4)) (aa (aL (ai 26) 4)) .none Fk Gg D2 G4 xf Gv),Dy⟩) (IK:W.codeIn K xf "Deed.told" = true) (pk:W.keepIn K (.ref gE)=true)
  (Ic:K.lookup gG=some ⟨EH,Ez,.func (W.fnOf "table" "Deed.table" (aW (aL (ai 26) 1)) (ak (aL (ai 26) 1)) (aa (aL (ai 26) 1)) .none Fo Gi D4 G6 xh Gx),DA⟩) (IN:W.codeIn K xh "Deed.table" = true) (pq:W.keepIn K (.ref gG)=true)
  (Ib:K.lookup gF=some ⟨EG,Ey,.func (W.fnOf "same" "Deed.same" (aW (aL (ai 26) 3)) (ak (aL (ai 26) 3)) (aa (aL (ai 26) 3)) .none Fm Gh D3 G5 xg Gw),Dz⟩) (IM:W.codeIn K xg "Deed.same" = true) (pp:W.keepIn K (.ref gF)=true)
  (a44:W.nsIn K mainGlobals "law" = some (some (.ref f44)))    (l44:K.lookup f44=some ⟨Lh,KU,.func (W.fnOf "law" "law" (aW (ai 44)) (ak (ai 44)) (aa (ai 44)) .none Fg Gc DX G0 y6 Gq),JG⟩) (c44:W.codeIn K y6 "law" = true) (k44:W.keepIn K (.ref f44)=true)
  {tk0:Tok} (g0:W.nsIn K mainGlobals "FIGURES" = some (some (.str "0123456789" tk0)))
  (nq:W.findIn K (.ref e8) "__class__" = some (some (.builtin "object.__class__"))) (nl:W.specialIn K (.builtin "object.__class__") "__get__" = some (some (.builtin "getset_descriptor.__get__"))) (nj:W.takesIn K (.builtin "object.__class__")=some true) (nh:W.mroIn K e8 (.type "object")=some true)
  (np:W.findIn K (.ref bf) "__class__" = some (some (.builtin "object.__class__"))) (nk:W.specialIn K (.builtin "object.__class__") "__get__" = some (some (.builtin "getset_descriptor.__get__"))) (ni:W.takesIn K (.builtin "object.__class__")=some true) (ng:W.mroIn K bf (.type "object")=some true)
  (gR:W.findIn K (.ref aC) "__class__" = some (some (.builtin "object.__class__"))) (gP:W.specialIn K (.builtin "object.__class__") "__get__" = some (some (.builtin "getset_descriptor.__get__"))) (gO:W.takesIn K (.builtin "object.__class__")=some true) (gN:W.mroIn K aC (.type "object")=some true)
  (jx:W.findIn K (.ref aR) "__class__" = some (some (.builtin "object.__class__"))) (jw:W.specialIn K (.builtin "object.__class__") "__get__" = some (some (.builtin "getset_descriptor.__get__"))) (jv:W.takesIn K (.builtin "object.__class__")=some true) (ju:W.mroIn K aR (.type "object")=some true)
  (ln:W.kitOne K (.ref e8) (.ref aC)=some (dR "Deed" "HalfTurn"))
  (lm:W.kitOne K (.ref bf) (.ref aC)=some (dR "Turn" "HalfTurn"))
  (iK:W.kitOne K (.ref aC) (.ref aC)=some (dR "HalfTurn" "HalfTurn"))
  (jF:W.kitOne K (.ref aR) (.ref aC)=some (dR "Mirror" "HalfTurn"))
  {KT:Option Addr} {Mx:Data} {JF:Array (Option Value)} (lk1:K.lookup aC=some ⟨.type "type", KT,Mx,JF⟩) (i11:W.findIn K (.ref aC) "__class__" = some (some (.builtin "object.__class__"))) (i21:W.specialIn K (.builtin "object.__class__") "__get__" = some (some (.builtin "getset_descriptor.__get__"))) (i31:W.takesIn K (.builtin "object.__class__")=some true) (i41:W.mroIn K aC (.type "object")=some true)
  {tk2:Tok} (g2:W.nsIn K mainGlobals "MOST_FIGURES" = some (some (.int (40) tk2)))
  (nO:W.kitOne K (.ref e8) (.ref aR)=some (dR "Deed" "Mirror"))
  (nN:W.kitOne K (.ref bf) (.ref aR)=some (dR "Turn" "Mirror"))
  (jE:W.kitOne K (.ref aC) (.ref aR)=some (dR "HalfTurn" "Mirror"))
  (ll:W.kitOne K (.ref aR) (.ref aR)=some (dR "Mirror" "Mirror"))
  {KS:Option Addr} {Mw:Data} {JE:Array (Option Value)} (lk3:K.lookup aR=some ⟨.type "type", KS,Mw,JE⟩) (i13:W.findIn K (.ref aR) "__class__" = some (some (.builtin "object.__class__"))) (i23:W.specialIn K (.builtin "object.__class__") "__get__" = some (some (.builtin "getset_descriptor.__get__"))) (i33:W.takesIn K (.builtin "object.__class__")=some true) (i43:W.mroIn K aR (.type "object")=some true)
  (qR:W.kitOne K (.ref e8) (.ref bf)=some (dR "Deed" "Turn"))
  (qQ:W.kitOne K (.ref bf) (.ref bf)=some (dR "Turn" "Turn"))
  (lj:W.kitOne K (.ref aC) (.ref bf)=some (dR "HalfTurn" "Turn"))
  (nM:W.kitOne K (.ref aR) (.ref bf)=some (dR "Mirror" "Turn"))
  {KR:Option Addr} {Mv:Data} {JD:Array (Option Value)} (lk4:K.lookup bf=some ⟨.type "type", KR,Mv,JD⟩) (i14:W.findIn K (.ref bf) "__class__" = some (some (.builtin "object.__class__"))) (i24:W.specialIn K (.builtin "object.__class__") "__get__" = some (some (.builtin "getset_descriptor.__get__"))) (i34:W.takesIn K (.builtin "object.__class__")=some true) (i44:W.mroIn K bf (.type "object")=some true)
  {ca5:Addr} {nn5:Nat} {zH zL zG zK zF zJ:Tok} (g5:W.nsIn K mainGlobals "WORDS" = some (some (.ref ca5))) (m5:K.lookup ca5=some ⟨.type "dict", none,.dict #[⟨PyData.keyHash w.params "turn", .str "turn" zH,.int 4 zL⟩,⟨PyData.keyHash w.params "half", .str "half" zG,.int 3 zK⟩,⟨PyData.keyHash w.params "mirror", .str "mirror" zF,.int 3 zJ⟩] nn5,#[]⟩) (e5:(ca5==sysModules)=false)
  (z0:W.nsIn K mainGlobals "len" = some none)    (z1:W.nsIn K mainGlobals "tuple" = some none)    (z2:W.nsIn K mainGlobals "list" = some none)    (z3:W.nsIn K mainGlobals "abs" = some none)    (z4:W.nsIn K mainGlobals "all" = some none)    (z5:W.nsIn K mainGlobals "sum" = some none)    (z6:W.nsIn K mainGlobals "isinstance" = some none)    (z7:W.nsIn K mainGlobals "set" = some none)    (z8:W.nsIn K mainGlobals "int" = some none)    (z9:W.nsIn K mainGlobals "bool" = some none)    (z10:W.nsIn K mainGlobals "str" = some none)    (z11:W.nsIn K mainGlobals "range" = some none)    (z12:W.nsIn K mainGlobals "zip" = some none)    (z13:W.nsIn K mainGlobals "enumerate" = some none)    (z14:W.nsIn K mainGlobals "any" = some none)    (z15:W.nsIn K mainGlobals "sorted" = some none)    (z16:W.nsIn K mainGlobals "min" = some none)    (z17:W.nsIn K mainGlobals "max" = some none)    (z18:W.nsIn K mainGlobals "reversed" = some none) :
  ∃fd:FuncData,(∀(s:Shared) (v:Value),BindsTo s fd ⟨[v],[]⟩ [("_law_script", v)])/\∀base:Heap,K.In base->base.Ns mainGlobals mg->bF l.prog w K mg base df 10 fa fd ["_law_script"] (jo K pF):=by
 have e:=hfa.symm.trans (W.mg_of X G a44)
 cases e
 have hbl:∀n∈fE,mg n=none:=ac (Pr:=fun n=>mg n=none) (W.mg_none_of X G z0) (ac (Pr:=fun n=>mg n=none) (W.mg_none_of X G z1) (ac (Pr:=fun n=>mg n=none) (W.mg_none_of X G z2) (ac (Pr:=fun n=>mg n=none) (W.mg_none_of X G z3) (ac (Pr:=fun n=>mg n=none) (W.mg_none_of X G z4) (ac (Pr:=fun n=>mg n=none) (W.mg_none_of X G z5) (ac (Pr:=fun n=>mg n=none) (W.mg_none_of X G z6) (ac (Pr:=fun n=>mg n=none) (W.mg_none_of X G z7) (ac (Pr:=fun n=>mg n=none) (W.mg_none_of X G z8) (ac (Pr:=fun n=>mg n=none) (W.mg_none_of X G z9) (ac (Pr:=fun n=>mg n=none) (W.mg_none_of X G z10) (ac (Pr:=fun n=>mg n=none) (W.mg_none_of X G z11) (ac (Pr:=fun n=>mg n=none) (W.mg_none_of X G z12) (ac (Pr:=fun n=>mg n=none) (W.mg_none_of X G z13) (ac (Pr:=fun n=>mg n=none) (W.mg_none_of X G z14) (ac (Pr:=fun n=>mg n=none) (W.mg_none_of X G z15) (ac (Pr:=fun n=>mg n=none) (W.mg_none_of X G z16) (ac (Pr:=fun n=>mg n=none) (W.mg_none_of X G z17) (ac (Pr:=fun n=>mg n=none) (W.mg_none_of X G z18) (al)))))))))))))))))))
 have kr:dQ K bf:=⟨Bz,B8,Bx,Bj⟩
 have fv:dQ K aC:=⟨sj,sA,si,sg⟩
 have gJ:dQ K aR:=⟨wb,wO,v8,v5⟩
 have F35:=bn (st:=(ai 35)) l35 c35 k35
 have b35:=F35.binds (ps:=["_law_script", "_law_k"]) fun _ _ _ _ _ _ us hl=>by obtain⟨x0,x1,rfl⟩:=ga hl;rfl
 have F37:=bn (st:=(ai 37)) l37 c37 k37
 have b37:=F37.binds (ps:=["_law_cell_here", "_law_kind"]) fun _ _ _ _ _ _ us hl=>by obtain⟨x0,x1,rfl⟩:=ga hl;rfl
 have F38:=bn (st:=(ai 38)) l38 c38 k38
 have b38:=F38.binds (ps:=["_law_script", "_law_at", "_law_many"]) fun _ _ _ _ _ _ us hl=>by obtain⟨x0,x1,x2,rfl⟩:=EX hl;rfl
 have F41:=bn (st:=(ai 41)) l41 c41 k41
 have b41:=F41.binds (ps:=["_law_number_here"]) fun _ _ _ _ _ _ us hl=>by obtain⟨x0,rfl⟩:=dO hl;rfl
 have F42:=bn (st:=(ai 42)) l42 c42 k42
 have b42:=F42.binds (ps:=["_law_word", "_law_numbers_here"]) fun _ _ _ _ _ _ us hl=>by obtain⟨x0,x1,rfl⟩:=ga hl;rfl
 have F39:=bn (st:=(ai 39)) l39 c39 k39
 have b39:=F39.binds (ps:=["_law_numbers_here"]) fun _ _ _ _ _ _ us hl=>by obtain⟨x0,rfl⟩:=dO hl;rfl
 have F40:=bn (st:=(ai 40)) l40 c40 k40
 have b40:=F40.binds (ps:=["_law_numbers_here"]) fun _ _ _ _ _ _ us hl=>by obtain⟨x0,rfl⟩:=dO hl;rfl
 have F23:=bn (st:=(ai 23)) l23 c23 k23
 have b23:=F23.binds (ps:=["text"]) fun _ _ _ _ _ _ us hl=>by obtain⟨x0,rfl⟩:=dO hl;rfl
 have F22:=bn (st:=(ai 22)) l22 c22 k22
 have b22:=F22.binds (ps:=["word"]) fun _ _ _ _ _ _ us hl=>by obtain⟨x0,rfl⟩:=dO hl;rfl
 have F32:=bn (st:=(ai 32)) l32 c32 k32
 have b32:=F32.binds (ps:=["words"]) fun _ _ _ _ _ _ us hl=>by obtain⟨x0,rfl⟩:=dO hl;rfl
 have F9:=bn (st:=(ai 9)) l9 c9 k9
 have b9:=F9.binds (ps:=["one", "other"]) fun _ _ _ _ _ _ us hl=>by obtain⟨x0,x1,rfl⟩:=ga hl;rfl
 have F8:=bn (st:=(ai 8)) l8 c8 k8
 have b8:=F8.binds (ps:=["numbers"]) fun _ _ _ _ _ _ us hl=>by obtain⟨x0,rfl⟩:=dO hl;rfl
 have F10:=bn (st:=(ai 10)) l10 c10 k10
 have b10:=F10.binds (ps:=["numbers", "divisor"]) fun _ _ _ _ _ _ us hl=>by obtain⟨x0,x1,rfl⟩:=ga hl;rfl
 have F11:=bn (st:=(ai 11)) l11 c11 k11
 have b11:=F11.binds (ps:=["numbers"]) fun _ _ _ _ _ _ us hl=>by obtain⟨x0,rfl⟩:=dO hl;rfl
 have F14:=bn (st:=(ai 14)) l14 c14 k14
 have b14:=F14.binds (ps:=["table"]) fun _ _ _ _ _ _ us hl=>by obtain⟨x0,rfl⟩:=dO hl;rfl
 have F16:=bn (st:=(ai 16)) l16 c16 k16
 have b16:=F16.binds (ps:=["numbers"]) fun _ _ _ _ _ _ us hl=>by obtain⟨x0,rfl⟩:=dO hl;rfl
 have AL:=bn (st:=(aL (ai 26) 0)) Id IO pw
 have vp:=AL.binds (ps:=["self", "word", "row", "fractions"]) fun _ _ _ _ _ _ us hl=>by obtain⟨x0,x1,x2,x3,rfl⟩:=LH hl;rfl
 have AK:=bn (st:=(aL (ai 27) 0)) HZ IJ Ik
 have IR:=AK.binds (ps:=["self", "numbers"]) fun _ _ _ _ _ _ us hl=>by obtain⟨x0,x1,rfl⟩:=ga hl;rfl
 have F30:=bn (st:=(ai 30)) l30 c30 k30
 have b30:=F30.binds (ps:=["axis"]) fun _ _ _ _ _ _ us hl=>by obtain⟨x0,rfl⟩:=dO hl;rfl
 have AJ:=bn (st:=(aL (ai 28) 0)) HY II Ij
 have IQ:=AJ.binds (ps:=["self", "axis"]) fun _ _ _ _ _ _ us hl=>by obtain⟨x0,x1,rfl⟩:=ga hl;rfl
 have F6:=bn (st:=(ai 6)) l6 c6 k6
 have b6:=F6.binds (ps:=["one"]) fun _ _ _ _ _ _ us hl=>by obtain⟨x0,rfl⟩:=dO hl;rfl
 have AI:=bn (st:=(aL (ai 29) 0)) HX IH Ii
 have IP:=AI.binds (ps:=["self", "axis"]) fun _ _ _ _ _ _ us hl=>by obtain⟨x0,x1,rfl⟩:=ga hl;rfl
 have F33:=bn (st:=(ai 33)) l33 c33 k33
 have b33:=F33.binds (ps:=["word", "numbers"]) fun _ _ _ _ _ _ us hl=>by obtain⟨x0,x1,rfl⟩:=ga hl;rfl
 have F31:=bn (st:=(ai 31)) l31 c31 k31
 have b31:=F31.binds (ps:=["text"]) fun _ _ _ _ _ _ us hl=>by obtain⟨x0,rfl⟩:=dO hl;rfl
 have F43:=bn (st:=(ai 43)) l43 c43 k43
 have b43:=F43.binds (ps:=["_law_deed"]) fun _ _ _ _ _ _ us hl=>by obtain⟨x0,rfl⟩:=dO hl;rfl
 have F21:=bn (st:=(ai 21)) wv c21 k21
 have b21:=F21.binds (ps:=["numbers"]) fun _ _ _ _ _ _ us hl=>by obtain⟨x0,rfl⟩:=dO hl;rfl
 have pH:=bn (st:=(aL (ai 26) 4)) Ia IK pk
 have vm:=pH.binds (ps:=["self"]) fun _ _ _ _ _ _ us hl=>by obtain⟨x0,rfl⟩:=dO hl;rfl
 have pJ:=bn (st:=(aL (ai 26) 1)) Ic IN pq
 have vo:=pJ.binds (ps:=["self"]) fun _ _ _ _ _ _ us hl=>by obtain⟨x0,rfl⟩:=dO hl;rfl
 have pI:=bn (st:=(aL (ai 26) 3)) Ib IM pp
 have vn:=pI.binds (ps:=["self", "other"]) fun _ _ _ _ _ _ us hl=>by obtain⟨x0,x1,rfl⟩:=ga hl;rfl
 have F44:=bn (st:=(ai 44)) l44 c44 k44
 refine⟨W.fnOf "law" "law" (aW (ai 44)) (ak (ai 44)) (aa (ai 44)) .none Fg Gc DX G0 y6 Gq,fun s v=>.of_eq rfl,fun base _ _=>?_⟩
 have nA0:∀C,W.nsIn K mainGlobals "Turn" = some (some (.ref C))->∀f∈[("word" : Str),("row" : Str),("fractions" : Str)],aX K C f:=by intro C hC;cases (cO.symm.trans hC);exact ac (Pr:=fun f=>aX K bf f) (jB) (ac (Pr:=fun f=>aX K bf f) (kM) (ac (Pr:=fun f=>aX K bf f) (fJ) (al)))
 have nA1:∀C,W.nsIn K mainGlobals "HalfTurn" = some (some (.ref C))->∀f∈[("word" : Str),("row" : Str),("fractions" : Str)],aX K C f:=by intro C hC;cases (bJ.symm.trans hC);exact ac (Pr:=fun f=>aX K aC f) (f7) (ac (Pr:=fun f=>aX K aC f) (gz) (ac (Pr:=fun f=>aX K aC f) (eJ) (al)))
 have nA2:∀C,W.nsIn K mainGlobals "Mirror" = some (some (.ref C))->∀f∈[("word" : Str),("row" : Str),("fractions" : Str)],aX K C f:=by intro C hC;cases (bY.symm.trans hC);exact ac (Pr:=fun f=>aX K aR f) (hZ) (ac (Pr:=fun f=>aX K aR f) (i9) (ac (Pr:=fun f=>aX K aR f) (e9) (al)))
 have CJ:fi mg K ("Turn", D.cls "Turn"):=n8 (W.mg_of X G cO) cO lk4 ⟨i14,i24,i34,i44⟩ ⟨fun m hm Cm h=>by simp only[rH,List.mem_cons,List.not_mem_nil,or_false]at hm;rcases hm with rfl|rfl|rfl|rfl;(rw[fT]at h;cases h;exact⟨⟨nq,nl,nj,nh⟩,qR⟩);(rw[cO]at h;cases h;exact⟨⟨np,nk,ni,ng⟩,qQ⟩);(rw[bJ]at h;cases h;exact⟨⟨gR,gP,gO,gN⟩,lj⟩);(rw[bY]at h;cases h;exact⟨⟨jx,jw,jv,ju⟩,nM⟩)⟩
 have sD:fi mg K ("HalfTurn", D.cls "HalfTurn"):=n8 (W.mg_of X G bJ) bJ lk1 ⟨i11,i21,i31,i41⟩ ⟨fun m hm Cm h=>by simp only[rH,List.mem_cons,List.not_mem_nil,or_false]at hm;rcases hm with rfl|rfl|rfl|rfl;(rw[fT]at h;cases h;exact⟨⟨nq,nl,nj,nh⟩,ln⟩);(rw[cO]at h;cases h;exact⟨⟨np,nk,ni,ng⟩,lm⟩);(rw[bJ]at h;cases h;exact⟨⟨gR,gP,gO,gN⟩,iK⟩);(rw[bY]at h;cases h;exact⟨⟨jx,jw,jv,ju⟩,jF⟩)⟩
 have xr:fi mg K ("Mirror", D.cls "Mirror"):=n8 (W.mg_of X G bY) bY lk3 ⟨i13,i23,i33,i43⟩ ⟨fun m hm Cm h=>by simp only[rH,List.mem_cons,List.not_mem_nil,or_false]at hm;rcases hm with rfl|rfl|rfl|rfl;(rw[fT]at h;cases h;exact⟨⟨nq,nl,nj,nh⟩,nO⟩);(rw[cO]at h;cases h;exact⟨⟨np,nk,ni,ng⟩,nN⟩);(rw[bJ]at h;cases h;exact⟨⟨gR,gP,gO,gN⟩,jE⟩);(rw[bY]at h;cases h;exact⟨⟨jx,jw,jv,ju⟩,ll⟩)⟩
 have nA3:∀C,W.nsIn K mainGlobals "Turn" = some (some (.ref C))->∀f∈[("word" : Str),("row" : Str)],aX K C f:=by intro C hC;cases (cO.symm.trans hC);exact ac (Pr:=fun f=>aX K bf f) (jB) (ac (Pr:=fun f=>aX K bf f) (kM) (al))
 have nA4:∀C,W.nsIn K mainGlobals "HalfTurn" = some (some (.ref C))->∀f∈[("word" : Str),("row" : Str)],aX K C f:=by intro C hC;cases (bJ.symm.trans hC);exact ac (Pr:=fun f=>aX K aC f) (f7) (ac (Pr:=fun f=>aX K aC f) (gz) (al))
 have nA5:∀C,W.nsIn K mainGlobals "Mirror" = some (some (.ref C))->∀f∈[("word" : Str),("row" : Str)],aX K C f:=by intro C hC;cases (bY.symm.trans hC);exact ac (Pr:=fun f=>aX K aR f) (hZ) (ac (Pr:=fun f=>aX K aR f) (i9) (al))
 have fL0:∀p∈([("Turn", ["word", "row"]),("HalfTurn", ["word", "row"]),("Mirror", ["word", "row"])]:List (Str×List Str)),i6 K p:=ac (Pr:=i6 K) ((fun f hf C hC=>nA3 C hC f hf)) (ac (Pr:=i6 K) ((fun f hf C hC=>nA4 C hC f hf)) (ac (Pr:=i6 K) ((fun f hf C hC=>nA5 C hC f hf)) (al)))
 have nA6:∀C,W.nsIn K mainGlobals "Turn" = some (some (.ref C))->∀f∈[("fractions" : Str)],aX K C f:=by intro C hC;cases (cO.symm.trans hC);exact ac (Pr:=fun f=>aX K bf f) (fJ) (al)
 have nA7:∀C,W.nsIn K mainGlobals "HalfTurn" = some (some (.ref C))->∀f∈[("fractions" : Str)],aX K C f:=by intro C hC;cases (bJ.symm.trans hC);exact ac (Pr:=fun f=>aX K aC f) (eJ) (al)
 have nA8:∀C,W.nsIn K mainGlobals "Mirror" = some (some (.ref C))->∀f∈[("fractions" : Str)],aX K C f:=by intro C hC;cases (bY.symm.trans hC);exact ac (Pr:=fun f=>aX K aR f) (e9) (al)
 have fL1:∀p∈([("Turn", ["fractions"]),("HalfTurn", ["fractions"]),("Mirror", ["fractions"])]:List (Str×List Str)),i6 K p:=ac (Pr:=i6 K) ((fun f hf C hC=>nA6 C hC f hf)) (ac (Pr:=i6 K) ((fun f hf C hC=>nA7 C hC f hf)) (ac (Pr:=i6 K) ((fun f hf C hC=>nA8 C hC f hf)) (al)))
 have D35:c4 l.prog w K mg base 1 "_law_cell" iZ:=cv F35 Ka (W.mg_of X G a35) b35 (by decide +kernel) (bE (al) (al) bw bu bt br aI hbl) sM
 have D37:c4 l.prog w K mg base 1 "_law_number" iY:=cv F37 J9 (W.mg_of X G a37) b37 (by decide +kernel) (bE (al) (al) bw bu bt br aI hbl) o7
 have D38:c4 l.prog w K mg base 2 "_law_numbers" fy:=cv F38 J8 (W.mg_of X G a38) b38 (by decide +kernel) (bE (cL D35 (cL D37 (al))) (al) bw bu bt br aI hbl) ci.self
 have D41:c4 l.prog w K mg base 1 "_law_written" fx:=rc (nU (Δ:=d6) F41 J4 (bE (al) (al) bw bu bt br aI hbl) (rB (al)) og) (W.mg_of X G a41) k41 b41 (by decide +kernel)
 have D42:c4 l.prog w K mg base 2 "_law_text" lB:=cv F42 J3 (W.mg_of X G a42) b42 (by decide +kernel) (bE (cL D41 (al)) (al) bw bu bt br aI hbl) ci.self
 have D39:c4 l.prog w K mg base 1 "_law_divisor" dJ:=cv F39 J6 (W.mg_of X G a39) b39 (by decide +kernel) (bE (al) (al) bw bu bt br aI hbl) oh
 have D40:c4 l.prog w K mg base 2 "_law_told" gq:=cv F40 J5 (W.mg_of X G a40) b40 (by decide +kernel) (bE (cL D39 (al)) (al) bw bu bt br aI hbl) ci.self
 have D23:c4 l.prog w K mg base 1 "are_figures" fH:=cv F23 Kg (W.mg_of X G a23) b23 (by decide +kernel) (bE (al) (ac (Pr:=fi mg K) (CG (W.mg_of X G g2)) (ac (Pr:=fi mg K) (CF (W.mg_of X G g0)) (al))) bw bu bt br aI hbl) ci.self
 have D22:c4 l.prog w K mg base 2 "whole_read" gp:=cv F22 Kh (W.mg_of X G a22) b22 (by decide +kernel) (bE (cL D23 (al)) (al) bw bu bt br aI hbl) ci.self
 have D32:c4 l.prog w K mg base 3 "numbers_read" dm:=rc (nU (Δ:=gL) F32 Kc (bE (cL D22 (al)) (al) bw bu bt br aI hbl) (rB (al)) kJ) (W.mg_of X G a32) k32 b32 (by decide +kernel)
 have D9:c4 l.prog w K mg base 1 "shared_by" g9:=cv F9 Nw (W.mg_of X G a9) b9 (by decide +kernel) (bE (al) (al) bw bu bt br aI hbl) ci.self
 have D8:c4 l.prog w K mg base 2 "common_divisor" bX:=cv F8 Nx (W.mg_of X G a8) b8 (by decide +kernel) (bE (cL D9 (al)) (al) bw bu bt br aI hbl) jh
 have D10:c4 l.prog w K mg base 1 "shortened" eB:=cv F10 Km (W.mg_of X G a10) b10 (by decide +kernel) (bE (al) (al) bw bu bt br aI hbl) ci.self
 have D11:c4 l.prog w K mg base 3 "upright" d5:=cv F11 Kl (W.mg_of X G a11) b11 (by decide +kernel) (bE (cL D8 (cL D10 (al))) (al) bw bu bt br aI hbl) ci.self
 have D14:c4 l.prog w K mg base 3 "lowest" lA:=cv F14 Kk (W.mg_of X G a14) b14 (by decide +kernel) (bE (cL D8 (cL D10 (al))) (al) bw bu bt br aI hbl) ci.self
 have D16:c4 l.prog w K mg base 4 "table_of" fP:=cv F16 Kj (W.mg_of X G a16) b16 (by decide +kernel) (bE (cL D11 (cL D14 (al))) (al) bw bu bt br aI hbl) ci.self
 have vE:bF l.prog w K mg base df 1 pB _ ["self", "word", "row", "fractions"] (zS K ["word", "row", "fractions"]):=CN AL rfl DN (ac (Pr:=fun x=>eM (aa (aL (ai 26) 0)) x) (Or.inl rfl) (ac (Pr:=fun x=>eM (aa (aL (ai 26) 0)) x) (Or.inl rfl) (ac (Pr:=fun x=>eM (aa (aL (ai 26) 0)) x) (Or.inl rfl) (ac (Pr:=fun x=>eM (aa (aL (ai 26) 0)) x) (Or.inl rfl) (al))))) (ac (Pr:=fun x=>dz x=true) (rfl) (ac (Pr:=fun x=>dz x=true) (rfl) (ac (Pr:=fun x=>dz x=true) (rfl) (ac (Pr:=fun x=>dz x=true) (rfl) (al))))) rfl (by decide) (by decide) (by decide)
 have IV:bF l.prog w K mg base df 5 mm _ ["self", "numbers"] (oB K "Turn" cF):=t3 (n := "Turn") (b := "Deed") AK DM (bE (cL D11 (cL D16 (al))) (al) bw bu bt br aI hbl) (vE.mono (by decide)) vp pw rfl (W.mg_of X G fT) nS nc nV rfl rfl rfl (by decide +kernel) rfl (by decide) nA0
 have AQ:mQ l.prog w K mg base 6 "Turn" cF:=qH md ⟨BS,yB,yC,yY⟩ IV (W.mg_of X G cO) cO kr IR (by decide +kernel)
 have D30:c4 l.prog w K mg base 5 "half_table" e7:=cv F30 Kf (W.mg_of X G a30) b30 (by decide +kernel) (bE (cL D16 (al)) (al) bw bu bt br aI hbl) ci.self
 have IU:bF l.prog w K mg base df 6 ml _ ["self", "axis"] (oB K "HalfTurn" bV):=t3 (n := "HalfTurn") (b := "Deed") AJ DL (bE (cL D11 (cL D30 (al))) (al) bw bu bt br aI hbl) (vE.mono (by decide)) vp pw rfl (W.mg_of X G fT) nS nc nV rfl rfl rfl (by decide +kernel) rfl (by decide) nA1
 have AO:mQ l.prog w K mg base 7 "HalfTurn" bV:=qH md ⟨su,qW,qX,rJ⟩ IU (W.mg_of X G bJ) bJ fv IQ (by decide +kernel)
 have D6:c4 l.prog w K mg base 1 "opposite" mP:=cv F6 Ny (W.mg_of X G a6) b6 (by decide +kernel) (bE (al) (al) bw bu bt br aI hbl) ci.self
 have IT:bF l.prog w K mg base df 6 mj _ ["self", "axis"] (oB K "Mirror" cx):=yA (n := "Mirror") (b := "Deed") AI DK (bE (cL D30 (cL D11 (cL D6 (al)))) (al) bw bu bt br aI hbl) (vE.mono (by decide)) vp pw rfl (W.mg_of X G fT) nS nc nV rfl rfl rfl (by decide +kernel) rfl (by decide) rfl rfl (by decide) (by decide) rfl nA2
 have AN:mQ l.prog w K mg base 7 "Mirror" cx:=qH sy ⟨wo,u5,u6,vg⟩ IT (W.mg_of X G bY) bY gJ IP (by decide +kernel)
 have D33:c4 l.prog w K mg base 8 "deed_by" cY:=cv F33 Kb (W.mg_of X G a33) b33 (by decide +kernel) (bE (cR AQ (cR AO (cR AN (al)))) (al) bw bu bt br aI hbl) ci.self
 have D31:c4 l.prog w K mg base 9 "deed_read" dM:=rc (nU (Δ:=jW) F31 Ke (bE (cL D32 (cL D33 (al))) (al) bw bu bt br aI hbl) (rB (ac (Pr:=fun q:Str×List (Str×Int)=>jV l.prog w K mg q.1 q.2) (IF (kvs:=[("turn", 4),("half", 3),("mirror", 3)]) (ts:=[(zH,zL),(zG,zK),(zF,zJ)]) (W.mg_of X G g5) e5 (by decide +kernel) rfl m5) (al))) oj) (W.mg_of X G a31) k31 b31 (by decide +kernel)
 have D43:c4 l.prog w K mg base 1 "_law_class" oW:=cv F43 J2 (W.mg_of X G a43) b43 (by decide +kernel) (bE (al) (ac (Pr:=fi mg K) (CJ) (ac (Pr:=fi mg K) (sD) (ac (Pr:=fi mg K) (xr) (al)))) bw bu bt br aI hbl) ci.self
 have D21:c4 l.prog w K mg base 1 "row_text" i5:=cv F21 Ki (W.mg_of X G a21) b21 (by decide +kernel) (bE (al) (al) bw bu bt br aI hbl) ci.self
 have mR:bH l.prog w K mg base 2 "HalfTurn" "told" de:=dw pH pZ bJ fv ⟨le,lg,pk⟩ vm (dF (cL D21 (al)) (al) bw bu bt br aI (fL0) (al) hbl) ci.self
 have o8:bH l.prog w K mg base 2 "Mirror" "told" de:=dw pH pZ bY gJ ⟨nE,nH,pk⟩ vm (dF (cL D21 (al)) (al) bw bu bt br aI (fL0) (al) hbl) ci.self
 have sP:bH l.prog w K mg base 2 "Turn" "told" de:=dw pH pZ cO kr ⟨qD,qI,pk⟩ vm (dF (cL D21 (al)) (al) bw bu bt br aI (fL0) (al) hbl) ci.self
 have eI:bH l.prog w K mg base 1 "HalfTurn" "table" dn:=dw pJ qc bJ fv ⟨kG,kH,pq⟩ vo (dF (al) (al) bw bu bt br aI (fL1) (al) hbl) ci.self
 have fh:bH l.prog w K mg base 1 "Mirror" "table" dn:=dw pJ qc bY gJ ⟨lQ,lR,pq⟩ vo (dF (al) (al) bw bu bt br aI (fL1) (al) hbl) ci.self
 have gr:bH l.prog w K mg base 1 "Turn" "table" dn:=dw pJ qc cO kr ⟨o0,o3,pq⟩ vo (dF (al) (al) bw bu bt br aI (fL1) (al) hbl) ci.self
 have mS:bH l.prog w K mg base 2 "HalfTurn" "same" cN:=dw pI p9 bJ fv ⟨lf,lh,pp⟩ vn (dF (al) (al) bw bu bt br aI (fL1) (ac (Pr:=fg l.prog w K mg base 1) (ac (Pr:=fun q:Str×(List D->Rs D)=>bH l.prog w K mg base 1 "Turn" q.1 q.2) (gr.mono (by decide)) (al)) (ac (Pr:=fg l.prog w K mg base 1) (ac (Pr:=fun q:Str×(List D->Rs D)=>bH l.prog w K mg base 1 "HalfTurn" q.1 q.2) (eI.mono (by decide)) (al)) (ac (Pr:=fg l.prog w K mg base 1) (ac (Pr:=fun q:Str×(List D->Rs D)=>bH l.prog w K mg base 1 "Mirror" q.1 q.2) (fh.mono (by decide)) (al)) (al)))) hbl) ci.self
 have o9:bH l.prog w K mg base 2 "Mirror" "same" cN:=dw pI p9 bY gJ ⟨nF,nI,pp⟩ vn (dF (al) (al) bw bu bt br aI (fL1) (ac (Pr:=fg l.prog w K mg base 1) (ac (Pr:=fun q:Str×(List D->Rs D)=>bH l.prog w K mg base 1 "Turn" q.1 q.2) (gr.mono (by decide)) (al)) (ac (Pr:=fg l.prog w K mg base 1) (ac (Pr:=fun q:Str×(List D->Rs D)=>bH l.prog w K mg base 1 "HalfTurn" q.1 q.2) (eI.mono (by decide)) (al)) (ac (Pr:=fg l.prog w K mg base 1) (ac (Pr:=fun q:Str×(List D->Rs D)=>bH l.prog w K mg base 1 "Mirror" q.1 q.2) (fh.mono (by decide)) (al)) (al)))) hbl) ci.self
 have sQ:bH l.prog w K mg base 2 "Turn" "same" cN:=dw pI p9 cO kr ⟨qE,qJ,pp⟩ vn (dF (al) (al) bw bu bt br aI (fL1) (ac (Pr:=fg l.prog w K mg base 1) (ac (Pr:=fun q:Str×(List D->Rs D)=>bH l.prog w K mg base 1 "Turn" q.1 q.2) (gr.mono (by decide)) (al)) (ac (Pr:=fg l.prog w K mg base 1) (ac (Pr:=fun q:Str×(List D->Rs D)=>bH l.prog w K mg base 1 "HalfTurn" q.1 q.2) (eI.mono (by decide)) (al)) (ac (Pr:=fg l.prog w K mg base 1) (ac (Pr:=fun q:Str×(List D->Rs D)=>bH l.prog w K mg base 1 "Mirror" q.1 q.2) (fh.mono (by decide)) (al)) (al)))) hbl) ci.self
 exact nT F44 J1 (dF (cL D38 (cL D42 (cL D35 (cL D40 (cL D31 (cL D43 (cR AQ (cR AO (cR AN (al)))))))))) (al) bw bu bt br aI (al) (ac (Pr:=fg l.prog w K mg base 9) (ac (Pr:=fun q:Str×(List D->Rs D)=>bH l.prog w K mg base 9 "Turn" q.1 q.2) (sP.mono (by decide)) (ac (Pr:=fun q:Str×(List D->Rs D)=>bH l.prog w K mg base 9 "Turn" q.1 q.2) (sQ.mono (by decide)) (al))) (ac (Pr:=fg l.prog w K mg base 9) (ac (Pr:=fun q:Str×(List D->Rs D)=>bH l.prog w K mg base 9 "HalfTurn" q.1 q.2) (mR.mono (by decide)) (ac (Pr:=fun q:Str×(List D->Rs D)=>bH l.prog w K mg base 9 "HalfTurn" q.1 q.2) (mS.mono (by decide)) (al))) (ac (Pr:=fg l.prog w K mg base 9) (ac (Pr:=fun q:Str×(List D->Rs D)=>bH l.prog w K mg base 9 "Mirror" q.1 q.2) (o8.mono (by decide)) (ac (Pr:=fun q:Str×(List D->Rs D)=>bH l.prog w K mg base 9 "Mirror" q.1 q.2) (o9.mono (by decide)) (al))) (al)))) hbl) ci.self
theorem walkX{r:W.RowW}{d:DefRec}{kwd:List (Str×Expr)}{run:Value->List Value->Sem Value}{K:Params->W.Frag}{as:List Addr}{t:Nat}
  (e:∀P,as=(K P).map (·.1)) (h:W.WalkO q loose XP (W.InK K) r d kwd run):W.WalkX q loose XP (W.X.obsZ as) (W.X.valZ K n t) r d kwd run :=
 fun w _ _ mg mb G y a o pm cd doc dV kV h1 h2 h3 h4 h5 h6 args vals as' L =>
  h w _ _ mg mb G (W.InK.keeps w _ _ (W.X.z_facts e y).2.1 L.keeps) a o pm cd doc dV kV h1 h2 h3 h4 h5 h6 args vals as'
theorem walk{l:W.OpenLaw}{YP:World->Heap->Prop}{d:DefRec}{K:Params->W.Frag}(hn:l.most=some 63)(hdf:d.params.defaults=[])
  (hY:∀(w:World) (h:Heap),YP w h->(K w.params).In h)
  (F:∀(w:World) (mg:Str->Option Value) (fa:Addr) (h:Heap),(K w.params).In h->h.Ns mainGlobals mg->mg d.name=some (.ref fa) ->
   ∃fd:FuncData,(∀(s:Shared) (u:Value),BindsTo s fd ⟨[u],[]⟩ [("_law_script", u)])/\∀base:Heap,(K w.params).In base->base.Ns mainGlobals mg->bF l.prog w (K w.params) mg base df 10 fa fd ["_law_script"] (jo (K w.params) pF)) :
  W.WalkO q loose XP YP l.row.toRowW d [] (fun f vs=>PySem.call f vs) :=
 L2.walk_ofB (n:=63) (k:=10) (x := "_law_script") (CX:=fun _=>df) (sp:=fun w=>jo (K w.params) pF) hn (by decide) hdf ⟨rfl,by decide,by decide⟩ hY F (fun _ _ a ns hl hb hO hS=>FB hO hS (yw ns hl hb)) fun _ _ _ _ _ z=>z
end K
namespace PySem.W.Fast
theorem tw2185408167003392062:True:=.intro
theorem tw17112781479806950592:True:=.intro
theorem tw8102138523757762740:True:=.intro
theorem tw6110246568257930814:True:=.intro
theorem tw13563968627779527095:True:=.intro
theorem tw7731411240956428958:True:=.intro
theorem tw1097124716102611520:True:=.intro
theorem tw11888356961371838048:True:=.intro
theorem tw726505243391628833:True:=.intro
theorem tw10177170681887144535:True:=.intro
theorem tw3333480150133344648:True:=.intro
theorem tw16367351050049312368:True:=.intro
theorem tw6820411417534526089:True:=.intro
theorem tw8235037220684495583:True:=.intro
theorem tw4168510914077650023:True:=.intro
theorem tw2798646302522507430:True:=.intro
theorem tw11237093730152189076:True:=.intro
theorem tw12590844122714764401:True:=.intro
theorem tw14569711259824759367:True:=.intro
theorem tw3330311858955526079:True:=.intro
theorem tw2319375445713078137:True:=.intro
theorem tw6854859555245768781:True:=.intro
theorem tw4499614508952098912:True:=.intro
theorem tw1171001269472839129:True:=.intro
theorem tw1844299263399709488:True:=.intro
theorem tw933304836004759528:True:=.intro
theorem tw10650572426452753637:True:=.intro
theorem tw13551361153323587429:True:=.intro
theorem tw328273234120864386:True:=.intro
theorem tw2450015021079589694:True:=.intro
theorem tw5530147880612515589:True:=.intro
theorem tw8432413769796728751:True:=.intro
theorem tw12067248135371508066:True:=.intro
theorem tw7014659620351894920:True:=.intro
theorem tw401411484415434293:True:=.intro
theorem tw9157926122544530378:True:=.intro
theorem tw10901152674236977240:True:=.intro
theorem tw476138574304706174:True:=.intro
theorem tw15912309537548037713:True:=.intro
theorem tw11099222812317254028:True:=.intro
theorem tw8387867509300400911:True:=.intro
theorem tw14558202423928162769:True:=.intro
theorem tw15396456726210323520:True:=.intro
theorem tw7095185817867610057:True:=.intro
theorem tw13473462676682298277:True:=.intro
theorem tw11433599313492752028:True:=.intro
theorem tw1289277000686636392:True:=.intro
theorem tw13813120400520236929:True:=.intro
theorem tw479435028915971769:True:=.intro
theorem tw1187604887304117760:True:=.intro
theorem tw17257295586650889686:True:=.intro
theorem tw5502257997309240856:True:=.intro
theorem tw457020882109464672:True:=.intro
theorem tw13250787399082645619:True:=.intro
theorem tw10770758782722099340:True:=.intro
theorem tw8037845093965937108:True:=.intro
theorem tw10232302201149389580:True:=.intro
theorem tw8539109560425100047:True:=.intro
theorem tw3973147088491330372:True:=.intro
theorem tw1877435408727693307:True:=.intro
theorem tw1240372344081285925:True:=.intro
theorem tw14533765007202953163:True:=.intro
theorem tw1212635984565007070:True:=.intro
theorem tw13651040056875040227:True:=.intro
theorem tw12330940353831995422:True:=.intro
theorem tw17434111008824340434:True:=.intro
theorem tw10004873648650945555:True:=.intro
theorem tw4153099519819293954:True:=.intro
theorem tw15920478594036407177:True:=.intro
theorem tw2239235173669949171:True:=.intro
theorem tw4296879618357751079:True:=.intro
theorem tw5879635388578252555:True:=.intro
theorem tw11309090770686936201:True:=.intro
theorem tw9258391065153661216:True:=.intro
theorem tw4734019611232245712:True:=.intro
theorem tw9436828606374239250:True:=.intro
theorem tw14615488466210726964:True:=.intro
theorem tw16498679524677585802:True:=.intro
theorem tw17291588822234867347:True:=.intro
theorem tw15600650257482917113:True:=.intro
theorem tw14316741492665676614:True:=.intro
theorem tw16428484005758738820:True:=.intro
theorem tw3103743251355132160:True:=.intro
theorem tw8207848212958266171:True:=.intro
theorem tw17237147178656864075:True:=.intro
theorem tw14879298668365129971:True:=.intro
theorem tw18112748683143183454:True:=.intro
theorem tw12942861578768923827:True:=.intro
theorem tw3324430358940063582:True:=.intro
theorem tw6198818363062487072:True:=.intro
theorem tw1436273894659083824:True:=.intro
theorem tw9992160992770400615:True:=.intro
theorem tw2232244881642639365:True:=.intro
theorem tw11621804579488277020:True:=.intro
theorem tw14364058018069613969:True:=.intro
theorem tw7247964503469722606:True:=.intro
theorem tw6143832109532067010:True:=.intro
theorem tw8477746770276086543:True:=.intro
theorem tw901103019315985161:True:=.intro
theorem tw4517712350439384918:True:=.intro
theorem tw5485627376232967176:True:=.intro
theorem tw6141630933254348938:True:=.intro
theorem tw16156351876521220385:True:=.intro
theorem tw3232506312320675464:True:=.intro
theorem tw12295187975647143382:True:=.intro
theorem tw14635573157252505617:True:=.intro
theorem tw10856880272878424335:True:=.intro
theorem tw9991049738452924623:True:=.intro
theorem tw10422398271461847101:True:=.intro
theorem tw16862688021522730743:True:=.intro
theorem tw3648302405953512679:True:=.intro
theorem tw9521387244959438334:True:=.intro
theorem tw12953662435862653212:True:=.intro
theorem tw14160041569515258583:True:=.intro
theorem tw124753052348263782:True:=.intro
theorem tw249603498424777082:True:=.intro
theorem tw17621611682431823369:True:=.intro
theorem tw234909073304621919:True:=.intro
theorem tw7746925673866169124:True:=.intro
theorem tw17614089618298445022:True:=.intro
theorem tw4666619629054379660:True:=.intro
theorem tw695397368680223684:True:=.intro
theorem tw9670035668232432866:True:=.intro
theorem tw6820761945671891218:True:=.intro
theorem tw4815166044230539007:True:=.intro
theorem tw1282688344965282368:True:=.intro
theorem tw15727317567111727630:True:=.intro
theorem tw3603105680590535523:True:=.intro
theorem tw9807083553279990013:True:=.intro
theorem tw5082542766372212599:True:=.intro
theorem tw15134190694545251656:True:=.intro
theorem tw7979505394295823088:True:=.intro
theorem tw18008372236677888794:True:=.intro
theorem tw13344652210839357932:True:=.intro
theorem tw4132006335932443000:True:=.intro
theorem tw16865645120297946542:True:=.intro
theorem tw17775256057571758438:True:=.intro
theorem tw11006542013304033214:True:=.intro
theorem tw1025407819569948460:True:=.intro
theorem tw14090280669521773593:True:=.intro
theorem tw5672124987081263187:True:=.intro
theorem tw11108548510367813791:True:=.intro
theorem tw5703655349021765612:True:=.intro
theorem tw3087956161034861969:True:=.intro
theorem tw18292045494523790213:True:=.intro
theorem tw11558222641846116641:True:=.intro
theorem tw667496590503714868:True:=.intro
theorem tw1264161622175994025:True:=.intro
theorem tw16531154274057698372:True:=.intro
theorem tw6221379651948576072:True:=.intro
theorem tw3297337847063473437:True:=.intro
theorem tw9929635270606853250:True:=.intro
theorem tw9535474498389526144:True:=.intro
theorem tw16693041086665319241:True:=.intro
theorem tw619268958864677902:True:=.intro
theorem tw3727074030343860941:True:=.intro
theorem tw17094309220132870195:True:=.intro
theorem tw13611865487622127924:True:=.intro
theorem tw1230236649258552962:True:=.intro
theorem tw9088862418337274196:True:=.intro
theorem tw12407769746214874732:True:=.intro
theorem tw15950997932681989096:True:=.intro
theorem tw18392581419637388356:True:=.intro
theorem tw196940900363304140:True:=.intro
theorem tw1888361297420053293:True:=.intro
theorem tw12336125212012273405:True:=.intro
theorem tw2424265663023638240:True:=.intro
theorem tw6032739393896896455:True:=.intro
theorem tw3393533149873989598:True:=.intro
theorem tw18413853251211937743:True:=.intro
theorem tw1133540654959186377:True:=.intro
theorem tw2010591427365627981:True:=.intro
theorem tw16832356086795565665:True:=.intro
theorem tw3142317672996569706:True:=.intro
theorem tw16378425439345403791:True:=.intro
theorem tw3001323235201638073:True:=.intro
theorem tw73036125614125564:True:=.intro
theorem tw16520532640116420401:True:=.intro
theorem tw12225908383510862477:True:=.intro
theorem tw2927358414378988432:True:=.intro
theorem tw13131066793281901815:True:=.intro
theorem tw9468144617469112255:True:=.intro
theorem tw5985102326510849894:True:=.intro
theorem tw16505384527900813193:True:=.intro
theorem tw7056626947268339619:True:=.intro
theorem tw7080611863177514092:True:=.intro
theorem tw6103755495835817880:True:=.intro
theorem tw6531050359793497974:True:=.intro
theorem tw12166167099555077529:True:=.intro
theorem tw7704792866964643873:True:=.intro
theorem tw14770465015049528827:True:=.intro
theorem tw3983823621030158261:True:=.intro
theorem tw6601318078361292155:True:=.intro
theorem tw7840009176604769840:True:=.intro
theorem tw16865164339711329945:True:=.intro
theorem tw6285611289943424863:True:=.intro
theorem tw15557224267516130785:True:=.intro
theorem tw13879160180332867276:True:=.intro
theorem tw698707092746016851:True:=.intro
theorem tw14052687565733317869:True:=.intro
theorem tw1929404765889685571:True:=.intro
theorem tw15283133339271351765:True:=.intro
theorem tw969731420414303206:True:=.intro
theorem tw4299072445789567488:True:=.intro
theorem tw13273392549444632453:True:=.intro
theorem tw14710160904690885473:True:=.intro
theorem tw6885229628871844144:True:=.intro
theorem tw542245978133086044:True:=.intro
theorem tw16520768633208285021:True:=.intro
theorem tw14247230874147929755:True:=.intro
theorem tw12293025287569306204:True:=.intro
theorem tw10425087744863441020:True:=.intro
theorem tw8487951442934824703:True:=.intro
theorem tw16215980321069103123:True:=.intro
theorem tw4438105375585922124:True:=.intro
theorem tw16318920651435193022:True:=.intro
theorem tw7636185596601056185:True:=.intro
theorem tw737072271927281656:True:=.intro
theorem tw13688232415463252390:True:=.intro
theorem tw490570460435108874:True:=.intro
theorem tw16123702770680217474:True:=.intro
theorem tw6132509763818831695:True:=.intro
theorem tw3797885818141903214:True:=.intro
theorem tw5023568847661387605:True:=.intro
theorem tw5530810303678150359:True:=.intro
theorem tw15869589235704746665:True:=.intro
theorem tw7568693707832440653:True:=.intro
end PySem.W.Fast
open PySem PySem.W PyProof.Rows
set_option maxRecDepth 100000 in
set_option maxHeartbeats 0 in
theorem PySem.Challenge.cw_spaceturns_k40_deeds_as_texts_holds : PySem.Challenge.rw_spaceturns_k40_deeds_as_texts.Holds := by
 w_on;o_law;z_head;(case hw=>w_witness2)
 k_fill
 refine K.walkX (fun _=>rfl) (K.walk (l:=PySem.Challenge.rw_spaceturns_k40_deeds_as_texts) rfl rfl (fun w h Y=>Y) ?F)
 case F =>
  intro w mg fa h KX G hmg
  refine' K.all_mk KX G hmg ?_ ?_ ?_ ?_ ?_ ?_ ?_ ?_ ?_ ?_ ?_ ?_ ?_ ?_ ?_ ?_ ?_ ?_ ?_ ?_ ?_ ?_ ?_ ?_ ?_ ?_ ?_ ?_ ?_ ?_ ?_ ?_ ?_ ?_ ?_ ?_ ?_ ?_ ?_ ?_ ?_ ?_ ?_ ?_ ?_ ?_ ?_ ?_ ?_ ?_ ?_ ?_ ?_ ?_ ?_ ?_ ?_ ?_ ?_ ?_ ?_ ?_ ?_ ?_ ?_ ?_ ?_ ?_ ?_ ?_ ?_ ?_ ?_ ?_ ?_ ?_ ?_ ?_ ?_ ?_ ?_ ?_ ?_ ?_ ?_ ?_ ?_ ?_ ?_ ?_ ?_ ?_ ?_ ?_ ?_ ?_ ?_ ?_ ?_ ?_ ?_ ?_ ?_ ?_ ?_ ?_ ?_ ?_ ?_ ?_ ?_ ?_ ?_ ?_ ?_ ?_ ?_ ?_ ?_ ?_ ?_ ?_ ?_ ?_ ?_ ?_ ?_ ?_ ?_ ?_ ?_ ?_ ?_ ?_ ?_ ?_ ?_ ?_ ?_ ?_ ?_ ?_ ?_ ?_ ?_ ?_ ?_ ?_ ?_ ?_ ?_ ?_ ?_ ?_ ?_ ?_ ?_ ?_ ?_ ?_ ?_ ?_ ?_ ?_ ?_ ?_ ?_ ?_ ?_ ?_ ?_ ?_ ?_ ?_ ?_ ?_ ?_ ?_ ?_ ?_ ?_ ?_ ?_ ?_ ?_ ?_ ?_ ?_ ?_ ?_ ?_ ?_ ?_ ?_ ?_ ?_ ?_ ?_ ?_ ?_ ?_ ?_ ?_ ?_ ?_ ?_ ?_ ?_ ?_ ?_ ?_ ?_ ?_ ?_ ?_ ?_ ?_ ?_ ?_ ?_ ?_ ?_ ?_ ?_ ?_ ?_ ?_ ?_ ?_ ?_ ?_ ?_ ?_ ?_ ?_ ?_ ?_ ?_
  all_goals try first|k_is|kernel_rfl
