import PyProof.Rows.All
import Wide.All
import OpenK.AllK
import Wide.FinOn
import Lean
import PyProof.EqAt
import PyProof.EqKinds
import PyProof.TupleCall
import PySem.Challenge.RW_spaceturns_k50_pairs_and_bases_looked_at
set_option Elab.async false
set_option linter.all false
set_option maxRecDepth 100000
namespace L2
open PySem PySem.Spec PyProof.Rows
abbrev dJ:=Sum Int Str
def AI:dJ->Value->Bool
 | .inl k,v=>Value.isInt k v
 | .inr x,v=>Value.isStrOf x v
def On (w:World):dJ->Int
 | .inl k=>hashInt k
 | .inr x=>hashStr w x
theorem cW:∀{k:dJ} {v:Value},AI k v=true->(∃i t,k=Sum.inl i/\v=Value.int i t)\/(∃x t,k=Sum.inr x/\v=Value.str x t)
 | .inl i,v,h=>by
  obtain ⟨t,e⟩:=Value.isInt_shape (k:=i) (v:=v) h
  exact .inl ⟨i,t,rfl,e⟩
 | .inr x,v,h=>by
  obtain ⟨t,e⟩:=Value.isStrOf_shape (x:=x) (v:=v) h
  exact .inr ⟨x,t,rfl,e⟩
theorem FW (a b:Int):decide ((Sum.inl a:dJ)=Sum.inl b)=(a==b):=by
 by_cases e:a=b
 ·subst e;simp
 ·have h:¬ (Sum.inl a:dJ)=Sum.inl b:=fun q=>e (Sum.inl.inj q)
  rw [decide_eq_false h]
  exact (beq_eq_false_iff_ne.mpr e).symm
theorem FT (a b:Str):decide ((Sum.inr a:dJ)=Sum.inr b)=decide (a=b):=by
 by_cases e:a=b
 ·subst e;simp
 ·have h:¬ (Sum.inr a:dJ)=Sum.inr b:=fun q=>e (Sum.inr.inj q)
  rw [decide_eq_false h,decide_eq_false e]
theorem FV (a:Int) (b:Str):decide ((Sum.inl a:dJ)=Sum.inr b)=false:=decide_eq_false (fun q=>nomatch q)
theorem FU (a:Str) (b:Int):decide ((Sum.inr a:dJ)=Sum.inl b)=false:=decide_eq_false (fun q=>nomatch q)
def ue (prog:Program) (w:World):PySem.KeyKind prog w dJ where
 is:=AI
 hash:=On w
 inj:=fun v a b ha hb=>by
  rcases cW ha with ⟨i,t,rfl,rfl⟩ | ⟨x,t,rfl,rfl⟩
  ·rcases cW hb with ⟨j,u,rfl,e⟩ | ⟨y,u,rfl,e⟩
   ·injection e with e1 _;rw [e1]
   ·exact nomatch e
  ·rcases cW hb with ⟨j,u,rfl,e⟩ | ⟨y,u,rfl,e⟩
   ·exact nomatch e
   ·injection e with e1 _;rw [e1]
 byValue:=fun k v h=>by
  rcases cW h with ⟨i,t,rfl,rfl⟩ | ⟨x,t,rfl,rfl⟩ <;> rfl
 pyHash:=fun hv h=>by
  rcases cW hv with ⟨i,t,rfl,rfl⟩ | ⟨x,t,rfl,rfl⟩
  ·exact wpAny_pyHash_int h
  ·exact wpAny_pyHash_str h
 eqBool:=fun hu hv h=>by
  rcases cW hu with ⟨i,t,rfl,rfl⟩ | ⟨x,t,rfl,rfl⟩
  ·rcases cW hv with ⟨j,u,rfl,rfl⟩ | ⟨y,u,rfl,rfl⟩
   ·rw [FW] at h;exact wpAny_eqBool_int h
   ·rw [FV] at h;exact SeqAt.EqAt.int_str i t y u _ _ _ _ h
  ·rcases cW hv with ⟨j,u,rfl,rfl⟩ | ⟨y,u,rfl,rfl⟩
   ·rw [FU] at h;exact SeqAt.EqAt.str_int x t j u _ _ _ _ h
   ·rw [FT] at h;exact wpAny_eqBool_str h
 «strs» := fun k x t v h=>by
  rcases cW h with ⟨i,u,rfl,e⟩ | ⟨y,u,rfl,e⟩
  ·exact nomatch e
  ·injection e with e1 _
   subst e1
   cases v <;> rfl
end L2
namespace L2
open PySem PySem.Spec PyProof.Rows
inductive V where
 | non|bl (b:Bool) | int (i:Int) | str (x:Str) | byt (b:Array UInt8) | flt (b:UInt64) | ref (a:Addr) | ty (n:String)
 deriving DecidableEq
def aT:V->Value->Prop
 | .non,u=>u=Value.none
 | .bl b,u=>u=Value.bool b
 | .int i,u => ∃t,u=Value.int i t
 | .str x,u => ∃t,u=Value.str x t
 | .byt b,u => ∃t,u=Value.bytes b t
 | .flt b,u => ∃t,u=Value.float b t
 | .ref a,u=>u=Value.ref a
 | .ty n,u=>u=Value.type n
abbrev aK:List V->List Value->Prop:=Paired aT
theorem aK.length {xs:List V} {us:List Value} (r:aK xs us):xs.length=us.length:=Paired.length r
theorem aK.get:∀{xs:List V} {us:List Value} {i:Nat} {x:V},aK xs us->xs[i]?=some x->∃u,us[i]?=some u/\aT x u
 | _,_,_,_,.nil,e=>by simp at e
 | _,_,0,_,.cons r _,e=>by simp at e;subst e;exact ⟨_,rfl,r⟩
 | _,_,i+1,x,.cons _ t,e=>by
  obtain ⟨u,h1,h2⟩:=aK.get (i:=i) (x:=x) t (by simpa using e)
  exact ⟨u,by simpa using h1,h2⟩
theorem aK.set {x:V} {u:Value} (r:aT x u):∀{xs:List V} {us:List Value} (i:Nat),aK xs us->aK (xs.set i x) (us.set i u)
 | _,_,_,.nil=>.nil
 | _,_,0,.cons _ t=>.cons r t
 | _,_,i+1,.cons q t=>.cons q (aK.set r i t)
theorem aK.append:∀{xs ys:List V} {us ws:List Value},aK xs us->aK ys ws->aK (xs++ys) (us++ws)
 | _,_,_,_,.nil,s=>s
 | _,_,_,_,.cons r t,s=>.cons r (aK.append t s)
theorem aK.take:∀{xs:List V} {us:List Value} (n:Nat),aK xs us->aK (xs.take n) (us.take n)
 | _,_,0,_=>.nil
 | _,_,_+1,.nil=>.nil
 | _,_,n+1,.cons r t=>.cons r (aK.take n t)
theorem aK.drop:∀{xs:List V} {us:List Value} (n:Nat),aK xs us->aK (xs.drop n) (us.drop n)
 | _,_,0,r=>r
 | _,_,_+1,.nil=>.nil
 | _,_,n+1,.cons _ t=>aK.drop n t
theorem aK.none_of:∀{xs:List V} {us:List Value} {i:Nat},aK xs us->xs[i]?=none->us[i]?=none:=fun {xs us i} r e=>by
 have h1:=r.length
 have h2:xs.length<=i:=List.getElem?_eq_none_iff.mp e
 exact List.getElem?_eq_none_iff.mpr (by omega)
def f9:Option V->Option Value->Prop
 | some v,some u=>aT v u
 | none,none=>True
 | _,_=>False
def KV {κ:Type}:List (κ×V)->List (κ×Value)->Prop:=Paired fun (p:κ×V) (q:κ×Value)=>p.1=q.1/\aT p.2 q.2
def kV:dJ->V
 | .inl i=>.int i
 | .inr x=>.str x
inductive HO where
  | lst (xs:List V)
  | tup (xs:List V)
  | dK (kvs:List (dJ×V)) | dT (kvs:List (List dJ×V))
  | set (S:Int->Bool) (n:Nat)
  | ins (C dx:Addr) (fs:List (Str×V))
  | own (x:Addr)
  | xd (fs:List (Str×V))
  | met (f x:Addr)
  | rng (lo hi:Int)
  | frz (o:Obj) (u:HO)
  | tbl (ps:Array Value)
  | ext (φ:Heap->Prop)
abbrev Hp:=Addr->Option HO
def aN (H:Hp) (a:Addr) (o:HO):Hp:=fun b=>if b=a then some o else H b
theorem aH {H:Hp} {a:Addr} {o:HO}:aN H a o a=some o:=by unfold aN;rw [if_pos rfl]
theorem ay {H:Hp} {a b:Addr} {o:HO} (h:b≠a):aN H a o b=H b:=by unfold aN;rw [if_neg h]
theorem tN {H:Hp} {a:Addr} {o u:HO}:aN (aN H a o) a u=aN H a u:=by
 funext b;unfold aN;split <;> rfl
theorem kH {H:Hp} {a b:Addr} {o u:HO} (h:H a=some o) (h':H b=some u) (d:o≠u):a≠b:=by
 intro e;subst e;rw [h] at h';exact d (Option.some.inj h')
theorem bF {H:Hp} {a b:Addr} {o:HO} (h:H a=some o) (h':H b=none):a≠b:=by
 intro e;subst e;rw [h] at h';cases h'
section
variable (P:Program) (w:World)
def cn (H:Hp) (h:Heap) (a:Addr):HO->Prop
  | .lst xs=>xs.length<=sizeLine/\∃(its:List Value) (n:Nat),aK xs its/\h.get? a=some { cls:=.type "list", data:=.seq its.toArray n }
  | .tup xs=>xs.length<=sizeLine/\∃its:List Value,aK xs its/\IsTup h a its.toArray
  | .dK kvs=>kvs.length<=sizeLine/\(a==sysModules)=false/\∃vs,KV kvs vs/\h.DictOf (ue P w) a vs
  | .dT kvs=>kvs.length<=sizeLine/\(a==sysModules)=false/\∃xs:List (List dJ×Addr×Value),
      Paired (fun (p:List dJ×V) (q:List dJ×Addr×Value)=>p.1=q.1/\H q.2.1=some (.tup (p.1.map kV))/\aT p.2 q.2.2) kvs xs /\
      ∃o es ep,h.get? a=some o/\o.ExactDict/\o.data=.dict es ep/\es.toList=xs.map (entryOfKey (tupleKind (ue P w)))/\(xs.map (·.1)).Nodup
  | .set S n=>h.SetOf (intKind P w) a S n
  | .ins C dx fs=>H dx=some (.own a)/\fs.length<=1000/\dx≠a/\h.get? a=some (W.instObj C dx) /\
      ∃mA,h.Ns1 dx mA/\(∀f,f9 (fs.lookup f) (mA f))/\PySem.Within mA (fs.map (·.1))
  | .own _ => ∃o,h.get? a=some o
  | .xd fs => ∃mA,h.Ns1 a mA/\∀f,f9 (fs.lookup f) (mA f)
  | .rng lo hi => ∃t u v,h.get? a=some { cls:=.type "range", data:=.fields #[.int lo t,.int hi u,.int 1 v] }
  | .frz o u=>h.get? a=some o/\cn H h a u
  | .tbl ps=>h.get? a=some { cls:=.none,data:=.fields ps }
  | .met f x=>h.get? a=some (W.methodObj (.ref f) (.ref x))
  | .ext φ=>φ h/\(∃o,h.get? a=some o)/\∀h1 h2:Heap,φ h1->(∀o,h1.get? a=some o->h2.get? a=some o)->φ h2
def dA (H:Hp) (h:Heap):Prop:=∀a o,H a=some o->cn P w H h a o
end
section
variable {P:Program} {w:World} {H H':Hp} {h h':Heap} {a:Addr} {o:HO}
theorem cn.lt (x:cn P w H h a o):a < h.objs.size:=by
 cases o with
 | lst xs=>obtain ⟨_,_,_,_,e⟩:=x;exact Heap.lt_size e
 | tup xs=>obtain ⟨_,_,_,p⟩:=x;exact p.lt
 | dK kvs=>obtain ⟨_,_,_,_,o,_,_,e,_⟩:=x;exact Heap.lt_size e
 | dT kvs=>obtain ⟨_,_,_,_,o,_,_,e,_⟩:=x;exact Heap.lt_size e
 | set S n=>obtain ⟨o,_,_,_,e,_⟩:=x;exact Heap.lt_size e
 | ins C dx fs=>obtain ⟨_,_,_,e,_⟩:=x;exact Heap.lt_size e
 | own y=>obtain ⟨_,e⟩:=x;exact Heap.lt_size e
 | xd fs=>obtain ⟨_,⟨_,_,_,e,_⟩,_⟩:=x;exact Heap.lt_size e
 | rng lo hi=>obtain ⟨_,_,_,e⟩:=x;exact Heap.lt_size e
 | frz ob u=>obtain ⟨e,_⟩:=x;exact Heap.lt_size e
 | tbl ps=>exact Heap.lt_size (show h.get? a=some _ from x)
 | met f y=>exact Heap.lt_size (show h.get? a=some _ from x)
 | ext φ=>obtain ⟨_,⟨_,e⟩,_⟩:=x;exact Heap.lt_size e
theorem Paired.mapP {α β:Type} {F G:α->β->Prop}:∀{l₁:List α} {l₂:List β},Paired F l₁ l₂->(∀a b,F a b->G a b)->Paired G l₁ l₂
 | _,_,.nil,_=>.nil
 | _,_,.cons r t,f=>.cons (f _ _ r) (Paired.mapP t f)
theorem cn.stay (x:cn P w H h a o) (k:∀b u,(b=a\/H b=some (.own a))->h.get? b=some u->h'.get? b=some u)
  (ho:∀b,H b=some (.own a)->H' b=some (.own a)) (ht:∀b xs,H b=some (.tup xs)->H' b=some (.tup xs)):cn P w H' h' a o:=by
 induction o with
 | lst xs=>obtain ⟨z,its,n,r,e⟩:=x;exact ⟨z,its,n,r,k _ _ (.inl rfl) e⟩
 | tup xs=>obtain ⟨z,its,r,ob,e,c⟩:=x;exact ⟨z,its,r,ob,k _ _ (.inl rfl) e,c⟩
 | dK kvs=>obtain ⟨z,y,vs,r,ob,es,ep,e,c⟩:=x;exact ⟨z,y,vs,r,ob,es,ep,k _ _ (.inl rfl) e,c⟩
 | dT kvs =>
  obtain ⟨z,y,xs,r,ob,es,ep,e,c⟩:=x
  exact ⟨z,y,xs,Paired.mapP r fun p q z=>⟨z.1,ht _ _ z.2.1,z.2.2⟩,ob,es,ep,k _ _ (.inl rfl) e,c⟩
 | set S n=>obtain ⟨ob,es,ep,t,e,c⟩:=x;exact ⟨ob,es,ep,t,k _ _ (.inl rfl) e,c⟩
 | ins C dx fs =>
  obtain ⟨d,z,ne,e,mA,⟨od,es,ep,e2,c⟩,r⟩:=x
  exact ⟨ho _ d,z,ne,k _ _ (.inl rfl) e,mA,⟨od,es,ep,k _ _ (.inr d) e2,c⟩,r⟩
 | own y=>obtain ⟨ob,e⟩:=x;exact ⟨ob,k _ _ (.inl rfl) e⟩
 | xd fs=>obtain ⟨mA,⟨od,es,ep,e,c⟩,r⟩:=x;exact ⟨mA,⟨od,es,ep,k _ _ (.inl rfl) e,c⟩,r⟩
 | rng lo hi=>obtain ⟨t,u,v,e⟩:=x;exact ⟨t,u,v,k _ _ (.inl rfl) e⟩
 | frz ob u ih=>obtain ⟨e,q⟩:=x;exact ⟨k _ _ (.inl rfl) e,ih q⟩
 | tbl ps =>
  have e:h.get? a=some { cls:=.none,data:=.fields ps }:=x
  show h'.get? a=some { cls:=.none,data:=.fields ps }
  exact k a _ (.inl rfl) e
 | met f y =>
  have e:h.get? a=some (W.methodObj (.ref f) (.ref y)):=x
  show h'.get? a=some (W.methodObj (.ref f) (.ref y))
  exact k a _ (.inl rfl) e
 | ext φ=>obtain ⟨p,⟨o,e⟩,st⟩:=x;exact ⟨st _ _ p fun o q=>k _ _ (.inl rfl) q,⟨o,k _ _ (.inl rfl) e⟩,st⟩
theorem dA.lt (x:dA P w H h) (e:H a=some o):a < h.objs.size:=(x a o e).lt
theorem dA.fresh (x:dA P w H h) (e:h.objs.size<=a):H a=none:=by
 cases q:H a with
 | none=>rfl
 | some u=>exact absurd (Nat.lt_of_lt_of_le (x.lt q) e) (Nat.lt_irrefl _)
theorem dA.kept (x:dA P w H h) (k:∀b u,h.get? b=some u->h'.get? b=some u):dA P w H h':=fun a o e =>
 (x a o e).stay (fun b u _ q=>k b u q) (fun _ q=>q) fun _ _ q=>q
theorem dA.laid (x:dA P w H h) (k:∀b u,h.get? b=some u->h'.get? b=some u) (hp:h.objs.size<=a) (new:cn P w (aN H a o) h' a o):dA P w (aN H a o) h':=fun b u e=>by
 have hn:=x.fresh hp
 by_cases hb:b=a
 ·subst hb;rw [aH] at e;cases e;exact new
 ·rw [ay hb] at e
  exact (x b u e).stay (fun c v _ q=>k c v q) (fun c q=>by rw [ay (bF q hn)];exact q) fun c xs q=>by rw [ay (bF q hn)];exact q
end
def Rd (H:Hp) (a:Addr) (u:HO):Prop:=H a=some u\/∃o,H a=some (.frz o u)
theorem Rd.ok {P:Program} {w:World} {H:Hp} {h:Heap} {a:Addr} {u:HO} (r:Rd H a u) (x:dA P w H h):cn P w H h a u:=by
 rcases r with r | ⟨o,r⟩
 ·exact x a u r
 ·obtain ⟨_,q⟩:=x a _ r
  exact q
def A7:Option HO->Prop
 | some (.lst _)=>True
 | some (.dK _)=>True
 | some (.dT _)=>True
 | some (.set _ _)=>True
 | some (.ins _ _ _)=>True
 | some (.ext _)=>True
 | _=>False
section
variable {P:Program} {w:World} {H:Hp} {h h':Heap} {x e:Addr} {o':HO}
theorem dA.write (ok:dA P w H h) (mu:A7 (H x)) (he:e=x\/H e=some (.own x)) (k:∀b u,b≠e->h.get? b=some u->h'.get? b=some u) (heo:∃u,h'.get? e=some u)
  (new:cn P w (aN H x o') h' x o'):dA P w (aN H x o') h':=fun b u q=>by
 have nown:∀c y,H c=some (.own y)->c≠x:=fun c y r z=>by subst z;rw [r] at mu;exact mu
 have ntup:∀c xs,H c=some (.tup xs)->c≠x:=fun c xs r z=>by subst z;rw [r] at mu;exact mu
 by_cases hb:b=x
 ·subst hb;rw [aH] at q;cases q;exact new
 ·rw [ay hb] at q
  by_cases hbe:b=e
  ·have q':H b=some (.own x):=by
    rcases he with z|z
    ·exact absurd (hbe.trans z) hb
    ·rw [hbe];exact z
   rw [q] at q';cases q'
   obtain ⟨v,hv⟩:=heo
   exact ⟨v,by rw [hbe];exact hv⟩
  ·refine (ok b u q).stay (fun c v hc r=>k c v ?_ r) (fun c r=>by rw [ay (nown c b r)];exact r) fun c xs r=>by rw [ay (ntup c xs r)];exact r
   rcases hc with rfl|hc
   ·exact hbe
   ·rintro rfl
    rcases he with z|z
    ·exact nown c b hc z
    ·rw [hc] at z;cases z;exact hb rfl
end
structure Un (fs ex:List Addr) (H H':Hp) (h h':Heap):Prop where
 keep:∀b o,h.get? b=some o->H b=none->b∉fs->b∉ex->h'.get? b=some o
 slot:∀b o,h.get? b=some o->H b=none->b∈fs->b∉ex->∃sl,h'.get? b=some { o with slots:=sl }
 free:∀b o,h.get? b=some o->H b=none->b∉ex->H' b=none
 there:∀b o,h.get? b=some o->b∉ex->∃o',h'.get? b=some o'
 tups:∀b xs,H b=some (.tup xs)->H' b=some (.tup xs)
 frzs:∀b o u,H b=some (.frz o u)->H' b=some (.frz o u)
 tbls:∀b ps,H b=some (.tbl ps)->∃more,H' b=some (.tbl (ps++more))
section
variable {fs fs' ex ex':List Addr} {H H1 H2:Hp} {h h1 h2 h':Heap} {a x e:Addr} {o:HO}
theorem Un.any (u:Un fs ex H H1 h h1) {b:Addr} {ob:Obj} (q:h.get? b=some ob) (n:H b=none) (hx:b∉ex):∃sl,h1.get? b=some { ob with slots:=sl }:=by
 by_cases hb:b∈fs
 ·exact u.slot b ob q n hb hx
 ·exact ⟨ob.slots,u.keep b ob q n hb hx⟩
theorem Un.kept (k:∀b u,h.get? b=some u->h'.get? b=some u):Un fs ex H H h h' :=
 ⟨fun b ob q _ _ _=>k b ob q,fun b ob q _ _ _=>⟨ob.slots,k b ob q⟩,fun _ _ _ n _=>n,fun b ob q _=>⟨ob,k b ob q⟩,fun _ _ q=>q,fun _ _ _ q=>q,fun _ ps q=>⟨#[],by rw [q];simp⟩⟩
theorem Un.refl:Un fs ex H H h h:=Un.kept fun _ _ q=>q
theorem Un.laid (k:∀b u,h.get? b=some u->h'.get? b=some u) (hp:h.objs.size<=a) (hn:H a=none):Un fs ex H (aN H a o) h h' where
 keep:=fun b u q _ _ _=>k b u q
 slot:=fun b u q _ _ _=>⟨u.slots,k b u q⟩
 free:=fun b u q n _=>by rw [ay (Nat.ne_of_lt (Nat.lt_of_lt_of_le (Heap.lt_size q) hp))];exact n
 there:=fun b u q _=>⟨u,k b u q⟩
 tups:=fun b xs q=>by rw [ay (bF q hn)];exact q
 frzs:=fun b u xs q=>by rw [ay (bF q hn)];exact q
 tbls:=fun b ps q=>⟨#[],by rw [ay (bF q hn),q];simp⟩
theorem Un.write (mu:A7 (H x)) (he:e=x\/H e=some (.own x)) (k:∀b u,b≠e->h.get? b=some u->h'.get? b=some u) (heo:∃u,h'.get? e=some u):Un fs ex H (aN H x o) h h':=by
 have hx:∀b,H b=none->b≠x:=fun b n z=>by subst z;rw [n] at mu;exact mu
 have hb:∀b,H b=none->b≠e:=fun b n z=>by
  subst z
  rcases he with r|r
  ·exact hx b n r
  ·rw [n] at r;cases r
 have hm:∀b u,H b=some u -> ¬ A7 (some u)->b≠x:=fun b u q nm z=>by subst z;rw [q] at mu;exact nm mu
 refine ⟨fun b u q n _ _=>k b u (hb b n) q,fun b u q n _ _=>⟨u.slots,k b u (hb b n) q⟩,fun b u q n _=>by rw [ay (hx b n)];exact n,fun b u q _=>?_,
  fun b xs q=>by rw [ay (hm b _ q fun z=>z)];exact q,fun b u xs q=>by rw [ay (hm b _ q fun z=>z)];exact q,fun b ps q=>⟨#[],by rw [ay (hm b _ q fun z=>z),q];simp⟩⟩
 by_cases hbe:b=e
 ·subst hbe;exact heo
 ·exact ⟨u,k b u hbe q⟩
end
def Aj (h:Heap) (H:Hp):List Addr:=(List.range h.objs.size).filter fun a=>(H a).isSome
def ju (h:Heap) (H:Hp):Heap:=W.hideAll h (Aj h H)
theorem xk (h:Heap) (H:Hp):(ju h H).objs.size=h.objs.size:=W.hideAll_size _ _
theorem zg {h:Heap} {H:Hp} {b:Addr} {o:Obj} (e:h.get? b=some o) (n:H b=none):(ju h H).get? b=some o :=
 W.hideAll_get _ e fun hm=>by
  have q:(H b).isSome=true:=(List.mem_filter.mp hm).2
  rw [n] at q;simp at q
theorem CG {h:Heap} {H:Hp} {b:Addr} {o:Obj} (e:(ju h H).get? b=some o):h.get? b=some o/\H b=none:=by
 have e':h.get? b=some o:=W.of_hideAll (Aj h H) e
 refine ⟨e',?_⟩
 cases q:H b with
 | none=>rfl
 | some x =>
  have hm:b∈Aj h H:=List.mem_filter.mpr ⟨List.mem_range.mpr (Heap.lt_size e'),by simp [q]⟩
  have z:(ju h H).get? b=none:=W.hideAll_none (Aj h H) hm
  rw [z] at e;cases e
def DJ (g h:Heap) (L:Addr):List (Addr×Obj):=(List.range h.objs.size).filterMap fun a=>if a=L\/(g.get? a).isSome=true then none else (h.get? a).map fun o=>(a,o)
def rest (g h:Heap) (L d:Addr):List (Addr×Obj):=(DJ g h L).filter fun p=>decide (p.1≠d)
end L2
namespace L2
open PySem PySem.Spec PyProof.Rows
structure Mod (K:W.Frag) (mg:Str->Option Value) (base:Heap):Prop where
 kin:K.In base
 glob:base.Ns mainGlobals mg
 blt:∃mb,base.Ns builtinsNs mb/\∀x:Str,x ≠ "__name__" -> mb x=bootBuiltins x
 nolimit:base.NoLimit
structure Cx where
 prog:Program
 w:World
 K:W.Frag
 mg:Str->Option Value
 base:Heap
 A:Around
 N:List Str
 s₀:Shared
 H₀:Hp
 env:Env
 outer:List Env
 stack:List Env
 ex:List Addr
 fn:Str->Bool
 calm:Bool
 pn:List (Addr×Obj)
 xe:Value->Shared->Prop
def i7 (l:List Env):List Addr:=l.filterMap (·.frame)
abbrev Cx.fs (X:Cx):List Addr:=i7 X.outer
def fB (sc:Scope) (x:Str):Prop:=sc.names.lookup x=some .local\/sc.names.lookup x=some .cell\/sc.names.lookup x=some .free
def sP (sc:Scope) (x:Str):Prop:=sc.names.lookup x=some .local\/sc.names.lookup x=some .cell
def Rb (env:Env) (h:Heap) (m:Str->Option Value) (x:Str) (u:Value):Prop :=
 (env.kindOf x=some .local/\m x=some u)\/((env.kindOf x=some .cell\/env.kindOf x=some .free)/\∃c,env.cells.lookup x=some c/\h.IsCell c (some u))
structure Cx.Ok (X:Cx):Prop where
 mod:Mod X.K X.mg X.base
 kind:X.env.scope.kind=.function
 glob:X.env.globals=mainGlobals
 blt:X.env.builtins=builtinsNs
 above:X.s₀.heap.objs.size<=X.env.locals
 inj:∀x y c,X.env.cells.lookup x=some c->X.env.cells.lookup y=some c->x=y
 has:∀x,(X.env.kindOf x=some .cell\/X.env.kindOf x=some .free)->∃c,X.env.cells.lookup x=some c
 cab:∀x c,X.fn x=true->X.env.cells.lookup x=some c->X.s₀.heap.objs.size<=c
 hd:X.calm=true->X.A.handled=none
 frames:X.A.frames=some X.stack
 stk:X.stack=X.outer\/(X.stack=X.env::X.outer/\X.env.frame=some X.env.locals)
 exf:∀b∈X.ex,b≠X.env.locals/\∀x c,X.env.cells.lookup x=some c->c≠b
 bs:∀b o,X.base.get? b=some o->X.s₀.heap.get? b=some o/\X.H₀ b=none
 bsz:X.base.objs.size<=X.s₀.heap.objs.size
 noex:∀b o,X.base.get? b=some o->b∉X.ex
 exfs:∀b∈X.ex,b∉X.fs
 funs:X.s₀.heap.FunFrames X.base X.outer
 frf:∀b∈X.fs,X.H₀ b=none
structure Inv (X:Cx) (pins:List (Addr×Obj)) (σ:List (Option V)) (H:Hp) (s:Shared):Prop where
 ok:X.Ok
 os:s.os=X.s₀.os
 bare:AllBare s.gens
 base:Un X.fs X.ex X.H₀ H X.s₀.heap s.heap
 loc:∃m,s.heap.Ns X.env.locals m/\∀(i:Nat) (x:Str) (v:V),X.N[i]?=some x->σ[i]?=some (some v)->fB X.env.scope x->∃u,aT v u/\Rb X.env s.heap m x u
 cell:∀x c,X.env.cells.lookup x=some c->∃v,s.heap.IsCell c v
 free:H X.env.locals=none
 freeC:∀x c,X.env.cells.lookup x=some c->H c=none
 pin:∀p∈X.pn++pins,s.heap.get? p.1=some p.2/\H p.1=none/\p.1≠X.env.locals/\p.1∉X.fs/\∀v,p.2.data ≠ .cell v
 hok:dA X.prog X.w H s.heap
 len:σ.length=X.N.length
section
variable {X:Cx} {pins:List (Addr×Obj)} {σ:List (Option V)} {H H':Hp} {s:Shared} {h':Heap}
theorem Cx.Ok.nofr (ok:X.Ok) {b:Addr} {o:Obj} (e:X.base.get? b=some o):b∉X.fs:=fun hb=>by
 have:=(ok.funs.mem hb).1
 rw [e] at this;cases this
theorem Inv.bs (I:Inv X pins σ H s):∀b o,X.base.get? b=some o->s.heap.get? b=some o/\H b=none:=fun b o e =>
 ⟨I.base.keep b o (I.ok.bs b o e).1 (I.ok.bs b o e).2 (I.ok.nofr e) (I.ok.noex b o e),I.base.free b o (I.ok.bs b o e).1 (I.ok.bs b o e).2 (I.ok.noex b o e)⟩
theorem Inv.bk (I:Inv X pins σ H s):∀b o,X.base.get? b=some o->s.heap.get? b=some o:=fun b o e=>(I.bs b o e).1
theorem Inv.mod (I:Inv X pins σ H s):Mod X.K X.mg X.base:=I.ok.mod
theorem Inv.kIn (I:Inv X pins σ H s):X.K.In s.heap:=I.ok.mod.kin.keeps I.bk
theorem Inv.nolimit (I:Inv X pins σ H s):s.heap.NoLimit:=I.ok.mod.nolimit.keeps I.bk
theorem Inv.lt (I:Inv X pins σ H s):X.env.locals < s.heap.objs.size:=let ⟨_,hn,_⟩:=I.loc;hn.lt
theorem Inv.sz (I:Inv X pins σ H s):X.s₀.heap.objs.size<=s.heap.objs.size:=Nat.le_trans I.ok.above (Nat.le_of_lt I.lt)
theorem Inv.nofs (I:Inv X pins σ H s) {a:Addr} (h:s.heap.objs.size<=a):a∉X.fs:=fun hb=>by
 obtain ⟨_,o,ho,_⟩:=I.ok.funs.mem hb
 exact absurd (Nat.lt_of_lt_of_le (Heap.lt_size ho) (Nat.le_trans I.sz h)) (Nat.lt_irrefl _)
theorem Inv.cne (I:Inv X pins σ H s):∀x c,X.env.cells.lookup x=some c->c≠X.env.locals:=fun x c e z=>by
 obtain ⟨v,o,ho,hd⟩:=I.cell x c e
 obtain ⟨m,⟨o',es,ep,ho',hd',_⟩,_⟩:=I.loc
 rw [z,ho'] at ho;cases ho;rw [hd'] at hd;cases hd
theorem Inv.funs (I:Inv X pins σ H s):s.heap.FunFrames X.base X.outer:=by
 have all:∀(l:List Env),(∀b∈i7 l,b∈X.fs)->X.s₀.heap.FunFrames X.base l->s.heap.FunFrames X.base l:=by
  intro l
  induction l with
  | nil=>intro _ _;trivial
  | cons env r ih =>
   intro hs hl
   obtain ⟨hk,⟨L,o,hf,hn,ho,hd⟩,hr⟩:=hl
   have hL:L∈X.fs:=hs L (by unfold i7;rw [List.filterMap_cons,hf];exact List.mem_cons_self)
   obtain ⟨sl,e⟩:=I.base.slot L o ho (I.ok.frf L hL) hL fun z=>I.ok.exfs L z hL
   exact ⟨hk,⟨L,_,hf,hn,e,hd⟩,ih (fun b hb=>hs b (by unfold i7;rw [List.filterMap_cons,hf];exact List.mem_cons_of_mem _ hb)) hr⟩
 exact all X.outer (fun _ hb=>hb) I.ok.funs
theorem Inv.stack (I:Inv X pins σ H s):s.heap.FunFrames X.base X.stack:=by
 rcases I.ok.stk with e | ⟨e,hf⟩
 ·rw [e];exact I.funs
 ·rw [e]
  obtain ⟨m,hn,_⟩:=I.loc
  refine .cons (by rw [I.ok.kind];decide) hf hn ?_ I.funs
  exact Heap.get?_none_of_le (Nat.le_trans I.ok.bsz I.ok.above)
theorem Inv.stkSub (I:Inv X pins σ H s):∀b∈i7 X.stack,b∈X.env.locals::X.fs:=fun b hb=>by
 rcases I.ok.stk with e | ⟨e,hf⟩
 ·rw [e] at hb;exact List.mem_cons_of_mem _ hb
 ·rw [e] at hb
  unfold i7 at hb
  rw [List.filterMap_cons,hf] at hb
  exact hb
theorem Inv.stkFree (I:Inv X pins σ H s):∀b∈i7 X.stack,H b=none:=fun b hb=>by
 rcases List.mem_cons.mp (I.stkSub b hb) with e|hb
 ·rw [e];exact I.free
 ·obtain ⟨_,o,ho,_⟩:=I.ok.funs.mem hb
  exact I.base.free b o ho (I.ok.frf b hb) fun z=>I.ok.exfs b z hb
theorem Inv.step {g':Array GenState} {t':Nat} {d':Drawn} {ch:List Addr} (I:Inv X pins σ H s)
  (hch:∀b∈ch,(b∈X.ex\/X.s₀.heap.objs.size<=b)/\b≠X.env.locals/\(∀x c,X.env.cells.lookup x=some c->c≠b)/\∀p∈X.pn++pins,p.1≠b)
  (keep:∀b o,b≠X.env.locals->b∉X.fs->b∉ch->s.heap.get? b=some o->H b=none->h'.get? b=some o)
  (slot:∀b o,b≠X.env.locals->b∈X.fs->b∉ch->s.heap.get? b=some o->H b=none->∃sl,h'.get? b=some { o with slots:=sl }) (free:∀b o,b∉ch->s.heap.get? b=some o->H b=none->H' b=none)
  (there:∀b o,b∉ch->s.heap.get? b=some o->∃o',h'.get? b=some o')
  (tups:∀b xs,H b=some (.tup xs)->H' b=some (.tup xs)) (frzs:∀b o u,H b=some (.frz o u)->H' b=some (.frz o u)) (tbls:∀b ps,H b=some (.tbl ps)->∃more,H' b=some (.tbl (ps++more)))
  (ns:∀m,s.heap.Ns X.env.locals m->h'.Ns X.env.locals m) (hok:dA X.prog X.w H' h') (hg:AllBare g') :
  Inv X pins σ H' { s with heap:=h',gens:=g',drawn:=d',toks:=t' }:=by
 have neL:∀b o,X.s₀.heap.get? b=some o->b≠X.env.locals:=fun b o e=>Nat.ne_of_lt (Nat.lt_of_lt_of_le (Heap.lt_size e) I.ok.above)
 have neC:∀b o,X.s₀.heap.get? b=some o->b∉X.ex->b∉ch:=fun b o e hx hb=>by
  rcases (hch b hb).1 with z|z
  ·exact hx z
  ·exact absurd (Nat.lt_of_lt_of_le (Heap.lt_size e) z) (Nat.lt_irrefl _)
 have cellK:∀x c,X.env.cells.lookup x=some c->∀v,s.heap.IsCell c v->h'.IsCell c v:=fun x c e v ⟨o,ho,hd⟩=>by
  have nch:c∉ch:=fun z=>(hch c z).2.2.1 x c e rfl
  by_cases hc:c∈X.fs
  ·obtain ⟨sl,q⟩:=slot c o (I.cne x c e) hc nch ho (I.freeC x c e)
   exact ⟨_,q,hd⟩
  ·exact ⟨o,keep c o (I.cne x c e) hc nch ho (I.freeC x c e),hd⟩
 refine ⟨I.ok,I.os,hg,⟨fun b o e n hb hx=>?_,fun b o e n hb hx=>?_,fun b o e n hx=>?_,fun b o e hx=>?_,fun b xs e=>tups b xs (I.base.tups b xs e),fun b o xs e=>frzs b o xs (I.base.frzs b o xs e),fun b ps e=>?_⟩,?_,fun x c e=>?_,?_,fun x c e=>?_,fun p hp=>?_,hok,I.len⟩
 ·exact keep b o (neL b o e) hb (neC b o e hx) (I.base.keep b o e n hb hx) (I.base.free b o e n hx)
 ·obtain ⟨sl,e1⟩:=I.base.slot b o e n hb hx
  obtain ⟨sl',e2⟩:=slot b _ (neL b o e) hb (neC b o e hx) e1 (I.base.free b o e n hx)
  exact ⟨sl',e2⟩
 ·obtain ⟨o',e1⟩:=I.base.there b o e hx
  exact free b o' (neC b o e hx) e1 (I.base.free b o e n hx)
 ·obtain ⟨o',e1⟩:=I.base.there b o e hx
  exact there b o' (neC b o e hx) e1
 ·obtain ⟨m1,e1⟩:=I.base.tbls b ps e
  obtain ⟨m2,e2⟩:=tbls b _ e1
  exact ⟨m1++m2,by rw [e2,Array.append_assoc]⟩
 ·obtain ⟨m,hn,hl⟩:=I.loc
  refine ⟨m,ns m hn,fun i x v e1 e2 e3=>?_⟩
  obtain ⟨u,r,l⟩:=hl i x v e1 e2 e3
  refine ⟨u,r,?_⟩
  rcases l with l | ⟨k,c,e,z⟩
  ·exact .inl l
  ·exact .inr ⟨k,c,e,cellK x c e _ z⟩
 ·obtain ⟨v,z⟩:=I.cell x c e
  exact ⟨v,cellK x c e v z⟩
 ·obtain ⟨m,⟨o,_,_,ho,_⟩,_⟩:=I.loc
  exact free _ o (fun z=>(hch _ z).2.1 rfl) ho I.free
 ·obtain ⟨v,o,ho,hd⟩:=I.cell x c e
  exact free c o (fun z=>(hch c z).2.2.1 x c e rfl) ho (I.freeC x c e)
 ·obtain ⟨e,n,ne,nf,d⟩:=I.pin p hp
  have nch:p.1∉ch:=fun z=>(hch p.1 z).2.2.2 p hp rfl
  exact ⟨keep p.1 p.2 ne nf nch e n,free p.1 p.2 nch e n,ne,nf,d⟩
theorem Inv.un {t':Nat} (I:Inv X pins σ H s) (u:Un X.fs [] H H' s.heap h') (hok:dA X.prog X.w H' h'):Inv X pins σ H' { s with heap:=h',toks:=t' }:=by
 obtain ⟨m,⟨o,es,ep,ho,r⟩,_⟩:=id I.loc
 obtain ⟨sl,hL⟩:=u.any ho I.free (by simp)
 exact I.step (g':=s.gens) (d':=s.drawn) (ch:=[]) (fun _ z=>nomatch z) (fun b o _ hb _ e n=>u.keep b o e n hb (by simp)) (fun b o _ hb _ e n=>u.slot b o e n hb (by simp)) (fun b o _ e n=>u.free b o e n (by simp)) (fun b o _ e=>u.there b o e (by simp)) u.tups u.frzs u.tbls (fun m' hm=>by
  obtain ⟨o',es',ep',ho',r'⟩:=hm
  rw [ho] at ho';cases ho'
  exact ⟨_,es',ep',hL,r'⟩) hok I.bare
theorem Inv.call {g':Array GenState} {t':Nat} {d':Drawn} {ch:List Addr} (I:Inv X pins σ H s) (u:Un (i7 X.stack) ch H H' s.heap h') (hok:dA X.prog X.w H' h') (hg:AllBare g')
  (hch:∀b∈ch,(b∈X.ex\/X.s₀.heap.objs.size<=b)/\b≠X.env.locals/\(∀x c,X.env.cells.lookup x=some c->c≠b)/\∀p∈X.pn++pins,p.1≠b) :
  Inv X pins σ H' { s with heap:=h',gens:=g',drawn:=d',toks:=t' }:=by
 obtain ⟨m,⟨o,es,ep,ho,r⟩,_⟩:=id I.loc
 obtain ⟨sl,hL⟩:=u.any ho I.free fun z=>(hch _ z).2.1 rfl
 exact I.step (ch:=ch) hch (fun b o hL hb hc e n=>u.keep b o e n (fun z=>(List.mem_cons.mp (I.stkSub b z)).elim hL hb) hc) (fun b o _ _ hc e n=>u.any e n hc) (fun b o hc e n=>u.free b o e n hc) (fun b o hc e=>u.there b o e hc) u.tups u.frzs u.tbls (fun m' hm=>by
  obtain ⟨o',es',ep',ho',r'⟩:=hm
  rw [ho] at ho';cases ho'
  exact ⟨_,es',ep',hL,r'⟩) hok hg
theorem Inv.turned {t':Nat} {it:Addr} (I:Inv X pins σ H s) (k:∀b o,b≠it->s.heap.get? b=some o->h'.get? b=some o) (hn:H it=none) (hL:it≠X.env.locals)
  (h1:it∈X.ex\/X.s₀.heap.objs.size<=it) (h2:∀x c,X.env.cells.lookup x=some c->c≠it) (h3:∀p∈X.pn++pins,p.1≠it):Inv X pins σ H { s with heap:=h',toks:=t' }:=by
 have nit:∀b u,H b=some u->b≠it:=fun b u e z=>by rw [z,hn] at e;cases e
 refine I.step (g':=s.gens) (d':=s.drawn) (ch:=[it]) (fun b hb=>?_) (fun b o _ _ hc e _=>k b o (fun z=>hc (by simp [z])) e) (fun b o _ _ hc e _=>⟨o.slots,k b o (fun z=>hc (by simp [z])) e⟩) (fun _ _ _ _ n=>n)
  (fun b o hc e=>⟨o,k b o (fun z=>hc (by simp [z])) e⟩) (fun _ _ e=>e) (fun _ _ _ e=>e) (fun b ps e=>⟨#[],by rw [e];simp⟩) (fun m hm=>?_) (fun b u e=>?_) I.bare
 ·have e:b=it:=by simpa using hb
  subst e
  exact ⟨h1,hL,h2,h3⟩
 ·obtain ⟨o,es,ep,ho,r⟩:=hm
  exact ⟨o,es,ep,k _ o (Ne.symm hL) ho,r⟩
 ·refine (I.hok b u e).stay (fun c v hc q=>k c v ?_ q) (fun _ q=>q) fun _ _ q=>q
  rcases hc with z|z
  ·rw [z];exact nit b u e
  ·exact nit c _ z
theorem Inv.tok (I:Inv X pins σ H s) (t:Nat):Inv X pins σ H { s with toks:=t }:=I.un (h':=s.heap) (t':=t) Un.refl I.hok
theorem Inv.kept {t':Nat} (I:Inv X pins σ H s) (k:∀b u,s.heap.get? b=some u->h'.get? b=some u):Inv X pins σ H { s with heap:=h',toks:=t' }:=I.un (Un.kept k) (I.hok.kept k)
theorem Inv.laid {a:Addr} {o:HO} {t':Nat} (I:Inv X pins σ H s) (k:∀b u,s.heap.get? b=some u->h'.get? b=some u) (hp:s.heap.objs.size<=a) (new:cn X.prog X.w (aN H a o) h' a o) :
  Inv X pins σ (aN H a o) { s with heap:=h',toks:=t' }:=I.un (Un.laid k hp (I.hok.fresh hp)) (I.hok.laid k hp new)
theorem Inv.write {x e:Addr} {o:HO} {t':Nat} (I:Inv X pins σ H s) (mu:A7 (H x)) (he:e=x\/H e=some (.own x)) (k:∀b u,b≠e->s.heap.get? b=some u->h'.get? b=some u) (heo:∃u,h'.get? e=some u)
  (new:cn X.prog X.w (aN H x o) h' x o):Inv X pins σ (aN H x o) { s with heap:=h',toks:=t' }:=I.un (Un.write mu he k heo) (I.hok.write mu he k heo new)
theorem Inv.pins_of {pins':List (Addr×Obj)} (I:Inv X pins σ H s) (h:∀p∈pins',s.heap.get? p.1=some p.2/\H p.1=none/\p.1≠X.env.locals/\p.1∉X.fs/\∀v,p.2.data ≠ .cell v):Inv X pins' σ H s :=
 ⟨I.ok,I.os,I.bare,I.base,I.loc,I.cell,I.free,I.freeC,fun p hp=>(List.mem_append.mp hp).elim (fun z=>I.pin p (List.mem_append_left _ z)) (h p),I.hok,I.len⟩
theorem jr {N:List Str} (hN:N.Nodup) {i j:Nat} {x:Str} (a:N[i]?=some x) (b:N[j]?=some x):i=j:=by
 obtain ⟨h1,e1⟩:=List.getElem?_eq_some_iff.mp a
 obtain ⟨h2,e2⟩:=List.getElem?_eq_some_iff.mp b
 exact (List.getElem_inj hN).mp (e1.trans e2.symm)
theorem ww {M:Model} {A:Around} {E:Value->Shared->Prop} {i:Nat} {x:Str} {v:V} {u:Value} {Q:Unit->Shared->Prop} (I:Inv X pins σ H s) (hN:X.N.Nodup) (hi:X.N[i]?=some x) (hx:sP X.env.scope x) (r:aT v u)
  (h:∀s',Inv X pins (σ.set i (some v)) H s'->(∃a,Heap.SameBut a s.heap s'.heap/\(a=X.env.locals\/X.env.cells.lookup x=some a))->Q () s') (hf:X.fn x=true\/X.env.scope.names.lookup x=some .local:=by first|exact .inl rfl|exact .inr rfl|assumption):wpAny M A (storeName X.env x u) Q E s:=by
 obtain ⟨m,hn,hl⟩:=id I.loc
 have hcls:(X.env.scope.kind == .class || (X.env.scope.kind == .module&&X.env.locals != X.env.globals))=false:=by rw [I.ok.kind];rfl
 have hiσ:i < σ.length:=by rw [I.len];exact (List.getElem?_eq_some_iff.mp hi).1
 have cne:=I.cne
 have tracked:∀{a:Addr} {h':Heap},(∃o,s.heap.get? a=some o/\H a=none)->Heap.SameBut a s.heap h'->dA X.prog X.w H h':=fun {a h'} ha hs b ob e=>by
  obtain ⟨_,_,hfree⟩:=ha
  refine (I.hok b ob e).stay (fun c w' hc q=>(hs.2 c ?_).trans q) (fun _ q=>q) fun _ _ q=>q
  rintro rfl
  rcases hc with rfl|hc
  ·rw [hfree] at e;cases e
  ·rw [hfree] at hc;cases hc
 rcases hx with hk|hk
 ·refine wpAny_storeName_local hk hn (fun h' hn' hs=>?_) hcls
  obtain ⟨oL,_,_,hoL,_⟩:=id hn
  refine h _ ⟨I.ok,I.os,I.bare,⟨fun b o e n hb hx=>?_,fun b o e n hb hx=>?_,I.base.free,fun b o e hx=>?_,I.base.tups,I.base.frzs,I.base.tbls⟩,⟨_,hn',fun j y v' e1 e2 e3=>?_⟩,fun y c e=>?_,I.free,I.freeC,fun p hp=>?_,tracked ⟨oL,hoL,I.free⟩ hs,by simpa using I.len⟩ ⟨_,hs,.inl rfl⟩
  ·exact (hs.2 b (Nat.ne_of_lt (Nat.lt_of_lt_of_le (Heap.lt_size e) I.ok.above))).trans (I.base.keep b o e n hb hx)
  ·obtain ⟨sl,e1⟩:=I.base.slot b o e n hb hx
   exact ⟨sl,(hs.2 b (Nat.ne_of_lt (Nat.lt_of_lt_of_le (Heap.lt_size e) I.ok.above))).trans e1⟩
  ·obtain ⟨o',e1⟩:=I.base.there b o e hx
   exact ⟨o',(hs.2 b (Nat.ne_of_lt (Nat.lt_of_lt_of_le (Heap.lt_size e) I.ok.above))).trans e1⟩
  ·by_cases hj:j=i
   ·subst hj
    rw [hi] at e1;cases e1
    rw [List.getElem?_set_self hiσ] at e2
    cases e2
    exact ⟨u,r,.inl ⟨hk,by simp⟩⟩
   ·rw [List.getElem?_set_ne (Ne.symm hj)] at e2
    obtain ⟨u',r',q⟩:=hl j y v' e1 e2 e3
    refine ⟨u',r',?_⟩
    rcases q with ⟨k,e⟩ | ⟨k,c,e,z⟩
    ·refine .inl ⟨k,?_⟩
     have:y≠x:=fun e=>hj (jr hN e1 (e ▸ hi))
     simp [this,e]
    ·exact .inr ⟨k,c,e,z.sameBut hs (cne y c e)⟩
  ·obtain ⟨w',z⟩:=I.cell y c e
   exact ⟨w',z.sameBut hs (cne y c e)⟩
  ·obtain ⟨e,n,ne,nf,d⟩:=I.pin p hp
   exact ⟨(hs.2 p.1 ne).trans e,n,ne,nf,d⟩
 ·have hfn:X.fn x=true:=by
   rcases hf with z|z
   ·exact z
   ·rw [z] at hk;cases hk
  obtain ⟨c,hc⟩:=I.ok.has x (.inl hk)
  obtain ⟨w',z⟩:=I.cell x c hc
  refine wpAny_storeName_cell I.ok.kind hk hc z (fun h' hc' hs=>?_)
  obtain ⟨oc,hoc,hocd⟩:=id z
  refine h { s with heap:=h' } ⟨I.ok,I.os,I.bare,⟨fun b o e n hb hx=>?_,fun b o e n hb hx=>?_,I.base.free,fun b o e hx=>?_,I.base.tups,I.base.frzs,I.base.tbls⟩,⟨m,hn.sameBut hs (Ne.symm (cne x c hc)),fun j y v' e1 e2 e3=>?_⟩,fun y c' e=>?_,I.free,I.freeC,fun p hp=>?_,tracked ⟨oc,hoc,I.freeC x c hc⟩ hs,by simpa using I.len⟩ ⟨c,hs,.inr hc⟩
  ·exact (hs.2 b (Nat.ne_of_lt (Nat.lt_of_lt_of_le (Heap.lt_size e) (I.ok.cab x c hfn hc)))).trans (I.base.keep b o e n hb hx)
  ·obtain ⟨sl,e1⟩:=I.base.slot b o e n hb hx
   exact ⟨sl,(hs.2 b (Nat.ne_of_lt (Nat.lt_of_lt_of_le (Heap.lt_size e) (I.ok.cab x c hfn hc)))).trans e1⟩
  ·obtain ⟨o',e1⟩:=I.base.there b o e hx
   exact ⟨o',(hs.2 b (Nat.ne_of_lt (Nat.lt_of_lt_of_le (Heap.lt_size e) (I.ok.cab x c hfn hc)))).trans e1⟩
  ·by_cases hj:j=i
   ·subst hj
    rw [hi] at e1;cases e1
    rw [List.getElem?_set_self hiσ] at e2
    cases e2
    exact ⟨u,r,.inr ⟨.inl hk,c,hc,hc'⟩⟩
   ·rw [List.getElem?_set_ne (Ne.symm hj)] at e2
    obtain ⟨u',r',q⟩:=hl j y v' e1 e2 e3
    refine ⟨u',r',?_⟩
    rcases q with q | ⟨k,c',e,z'⟩
    ·exact .inl q
    ·refine .inr ⟨k,c',e,z'.sameBut hs ?_⟩
     rintro rfl
     exact hj (jr hN e1 (I.ok.inj _ _ _ e hc ▸ hi))
  ·by_cases hcc:c'=c
   ·subst hcc;exact ⟨_,hc'⟩
   ·obtain ⟨w2,z2⟩:=I.cell y c' e
    exact ⟨w2,z2.sameBut hs hcc⟩
  ·obtain ⟨e,n,ne,nf,d⟩:=I.pin p hp
   refine ⟨(hs.2 p.1 ?_).trans e,n,ne,nf,d⟩
   intro q
   rw [q,hoc] at e
   have q':oc=p.2:=Option.some.inj e
   exact d w' (by rw [<- q'];exact hocd)
theorem gT {M:Model} {A:Around} {E:Value->Shared->Prop} {i:Nat} {x:Str} {v:V} {u:Value} {Q:Unit->Shared->Prop} (I:Inv X pins σ H s) (hN:X.N.Nodup) (hi:X.N[i]?=some x) (hx:sP X.env.scope x) (r:aT v u)
  (h:∀s',Inv X pins (σ.set i (some v)) H s'->Q () s') (hf:X.fn x=true\/X.env.scope.names.lookup x=some .local:=by first|exact .inl rfl|exact .inr rfl|assumption):wpAny M A (storeName X.env x u) Q E s :=
 ww I hN hi hx r (fun s' I' _=>h s' I') hf
theorem Inv.call' {s':Shared} {ch:List Addr} (I:Inv X pins σ H s) (ho:s'.os=s.os) (u:Un (i7 X.stack) ch H H' s.heap s'.heap) (hok:dA X.prog X.w H' s'.heap) (hg:AllBare s'.gens)
  (hch:∀b∈ch,(b∈X.ex\/X.s₀.heap.objs.size<=b)/\b≠X.env.locals/\(∀x c,X.env.cells.lookup x=some c->c≠b)/\∀p∈X.pn++pins,p.1≠b):Inv X pins σ H' s':=by
 obtain ⟨h',g',d',t',o'⟩:=s'
 have e:o'=s.os:=ho
 subst e
 exact I.call (g':=g') (t':=t') (d':=d') u hok hg hch
end
abbrev XK:=Value->Option Addr->Hp->Prop
abbrev St:=List (Option V)
abbrev VK:=V->Hp->Prop
abbrev TE:=St->Hp->VK->Prop
abbrev TT:=St->Hp->(Bool->Hp->Prop)->Prop
abbrev TA:=St->Hp->(List V->Hp->Prop)->Prop
structure kz where
 nx:St->Hp->Prop
 rt:VK
 bk:St->Hp->Prop:=fun _ _=>False
 ct:St->Hp->Prop:=fun _ _=>False
abbrev TS:=kz->St->Hp->Prop
def EP (X:Cx) (pins:List (Addr×Obj)) (σ:St) (Q:VK) (u:Value) (s':Shared):Prop:=∃v H',Inv X pins σ H' s'/\aT v u/\Q v H'
def TP (X:Cx) (pins:List (Addr×Obj)) (σ:St) (Q:Bool->Hp->Prop) (b:Bool) (s':Shared):Prop:=∃H',Inv X pins σ H' s'/\Q b H'
def AP (X:Cx) (pins:List (Addr×Obj)) (σ:St) (Q:List V->Hp->Prop) (us:List Value) (s':Shared):Prop:=∃vs H',Inv X pins σ H' s'/\aK vs us/\Q vs H'
def SP (X:Cx) (pins:List (Addr×Obj)) (D:kz) (f:Flow) (s':Shared):Prop :=
 match f with
 | .next => ∃σ' H',Inv X pins σ' H' s'/\D.nx σ' H'
 | .brk => ∃σ' H',Inv X pins σ' H' s'/\D.bk σ' H'
 | .cont => ∃σ' H',Inv X pins σ' H' s'/\D.ct σ' H'
 | .ret u => ∃v σ' H',Inv X pins σ' H' s'/\aT v u/\D.rt v H'
def PE (X:Cx) (e:Expr) (t:TE):Prop :=
 ∀(pins:List (Addr×Obj)) (s:Shared) (σ:St) (H:Hp) (Q:VK),Inv X pins σ H s->t σ H Q->wpAny (model X.prog X.w) X.A (eval e X.env) (EP X pins σ Q) X.xe s
def PT (X:Cx) (e:Expr) (t:TT):Prop :=
 ∀(pins:List (Addr×Obj)) (s:Shared) (σ:St) (H:Hp) (Q:Bool->Hp->Prop),Inv X pins σ H s->t σ H Q->wpAny (model X.prog X.w) X.A (isTrue e X.env (eval e X.env)) (TP X pins σ Q) X.xe s
def PW (X:Cx) (e:Expr) (t:TT):Prop :=
 ∀(whole:Sem Value) (pins:List (Addr×Obj)) (s:Shared) (σ:St) (H:Hp) (Q:Bool->Hp->Prop),Inv X pins σ H s->t σ H Q->wpAny (model X.prog X.w) X.A (isTrue e X.env whole) (TP X pins σ Q) X.xe s
theorem PW.pt {X:Cx} {e:Expr} {t:TT} (h:PW X e t):PT X e t:=h _
def PA (X:Cx) (es:List Expr) (t:TA):Prop :=
 ∀(pos:Pos) (pins:List (Addr×Obj)) (s:Shared) (σ:St) (H:Hp) (Q:List V->Hp->Prop),Inv X pins σ H s->t σ H Q->wpAny (model X.prog X.w) X.A (spliced (backTo pos (starEach es X.env))) (AP X pins σ Q) X.xe s
def PS (X:Cx) (st:Stmt) (t:TS):Prop :=
 ∀(pins:List (Addr×Obj)) (s:Shared) (σ:St) (H:Hp) (D:kz),Inv X pins σ H s->t D σ H->wpAny (model X.prog X.w) X.A (exec st X.env) (SP X pins D) X.xe s
def fO (X:Cx) (st:List Stmt) (t:TS):Prop :=
 ∀(pins:List (Addr×Obj)) (s:Shared) (σ:St) (H:Hp) (D:kz),Inv X pins σ H s->t D σ H->wpAny (model X.prog X.w) X.A (execs st X.env) (SP X pins D) X.xe s
theorem aR {α:Type} {t:Sem α} {Q Q':α->Shared->Prop} {M:Model} {A:Around} {E:Value->Shared->Prop} {s:Shared} (h:wpAny M A t Q E s) (hQ:∀a s,Q a s->Q' a s):wpAny M A t Q' E s:=wpAny_mono h hQ fun _ _ x=>x
end L2
namespace L2
open PySem PySem.Spec PyProof.Rows
section
variable {X:Cx}
theorem KF {a b:Expr} {ta tb:TE} (ha:PE X a ta) (hb:PE X b tb) {pins:List (Addr×Obj)} {s:Shared} {σ:St} {H:Hp} {R:V->V->Hp->Prop} (I:Inv X pins σ H s) (h:ta σ H fun x H1=>tb σ H1 fun y H2=>R x y H2)
  {α:Type} {Q:α->Shared->Prop} {f:Value->Value->Sem α}
  (hf:∀v u s2 x y H2,Inv X pins σ H2 s2->aT x v->aT y u->R x y H2->wpAny (model X.prog X.w) X.A (f v u) Q X.xe s2) :
  wpAny (model X.prog X.w) X.A (eval a X.env) (fun v s₁=>wpAny (model X.prog X.w) X.A (eval b X.env) (fun u s₂=>wpAny (model X.prog X.w) X.A (f v u) Q X.xe s₂) X.xe s₁) X.xe s:=by
 refine aR (ha pins s σ H _ I h) fun v s1 ⟨x,H1,I1,r1,q1⟩=>?_
 refine aR (hb pins s1 σ H1 _ I1 q1) fun u s2 ⟨y,H2,I2,r2,q2⟩=>?_
 exact hf v u s2 x y H2 I2 r1 r2 q2
def qu (i:Nat):TE:=fun σ H Q => ∃v,σ[i]?=some (some v)/\Q v H
def tC (v:V):TE:=fun _ H Q=>Q v H
theorem gX {i:Nat} {x:Str} {pos:Pos} (hN:X.N[i]?=some x) (hv:fB X.env.scope x) (hd:(x==("__debug__" : Str))=false:=by decide) (hcd:(x==("__classdict__" : Str))=false:=by decide):PE X (.Name x pos) (qu i):=by
 intro pins s σ H Q I h
 obtain ⟨v,e,h⟩:=h
 obtain ⟨m,hn,hl⟩:=I.loc
 obtain ⟨u,r,l⟩:=hl i x v hN e hv
 have fin:EP X pins σ Q u s:=⟨v,H,I,r,h⟩
 rcases l with ⟨hk,hm⟩ | ⟨hk,c,hc,hcell⟩
 ·exact wpAny_Name (wpAny_loadName_local I.ok.kind hk hn hm fin) hd
 ·rcases hk with hk|hk
  ·exact wpAny_Name (wpAny_loadName_cell I.ok.kind hk hc hcell fin) hd
  ·exact wpAny_Name (wpAny_loadName_free I.ok.kind hk hc hcell fin hcd) hd
theorem Fa {i j pos}:PE X (.Constant (.int i) j pos) (tC (.int i)):=fun _ _ _ H _ I h=>wpAny_Constant_int ⟨.int i,H,I.tok _,⟨_,rfl⟩,h⟩
theorem Jk {b j pos}:PE X (.Constant (.bool b) j pos) (tC (.bl b)):=fun _ _ _ H _ I h=>Constant_bool ⟨.bl b,H,I,rfl,h⟩
theorem EZ {j pos}:PE X (.Constant .none j pos) (tC .non):=fun _ _ _ H _ I h=>Constant_none ⟨.non,H,I,rfl,h⟩
theorem EW {x j pos}:PE X (.Constant (.str x) j pos) (tC (.str x)):=fun _ _ _ H _ I h=>Calls.Constant_str ⟨.str x,H,I.tok _,⟨_,rfl⟩,h⟩
def Gl (X:Cx) (x:Str):Prop:=X.env.kindOf x=some .globalImplicit
theorem gP {E:Value->Shared->Prop} {pins:List (Addr×Obj)} {s:Shared} {σ:St} {H:Hp} {x:Str} {u:Value} {pos:Pos} {Q:Value->Shared->Prop} (I:Inv X pins σ H s) (hg:Gl X x) (hm:X.mg x=some u) (h:Q u s)
  (hd:(x==("__debug__" : Str))=false:=by decide):wpAny (model X.prog X.w) X.A (eval (.Name x pos) X.env) Q E s :=
 Calls.Name_function_global I.ok.kind hg (Calls.loadGlobal_global (by rw [I.ok.glob];exact I.mod.glob.keeps I.bk) hm h) hd
theorem dl {E:Value->Shared->Prop} {pins:List (Addr×Obj)} {s:Shared} {σ:St} {H:Hp} {x:Str} {u:Value} {pos:Pos} {Q:Value->Shared->Prop} (I:Inv X pins σ H s) (hg:Gl X x) (hm:X.mg x=none) (hv:bootBuiltins x=some u) (h:Q u s)
  (hn:x ≠ "__name__" := by decide) (hd:(x==("__debug__" : Str))=false:=by decide):wpAny (model X.prog X.w) X.A (eval (.Name x pos) X.env) Q E s:=by
 obtain ⟨mb,h1,h2⟩:=I.mod.blt
 exact Calls.Name_function_global I.ok.kind hg (Calls.loadGlobal_builtin (by rw [I.ok.glob];exact I.mod.glob.keeps I.bk) hm (by rw [I.ok.blt];exact h1.keeps I.bk) ((h2 x hn).trans hv) h) hd
theorem Cw {x:Str} {v:V} {u:Value} {pos:Pos} (hg:Gl X x) (hm:X.mg x=some u) (r:aT v u) (hd:(x==("__debug__" : Str))=false:=by decide):PE X (.Name x pos) (tC v) :=
 fun _ _ _ H _ I h=>gP I hg hm ⟨v,H,I,r,h⟩ hd
theorem Cz {x:Str} {v:V} {u:Value} {pos:Pos} (hg:Gl X x) (hm:X.mg x=none) (hv:bootBuiltins x=some u) (r:aT v u) (hn:x ≠ "__name__" := by decide) (hd:(x==("__debug__" : Str))=false:=by decide):PE X (.Name x pos) (tC v) :=
 fun _ _ _ H _ I h=>dl I hg hm hv ⟨v,H,I,r,h⟩ hn hd
variable {a b:Expr} {ta tb:TE} {pos:Pos}
def tB (t:TE):TT:=fun σ H Q=>t σ H fun x H1 => ∃c,x=.bl c/\Q c H1
theorem EF {e:Expr} {t:TE} (h:PE X e t) (he:∀whole,isTrue e X.env whole=(do let v <- whole;standAt e.pos;holding [v] (truthy v)):=by intro _;rfl):PT X e (tB t):=by
 intro pins s σ H Q I hw
 refine isTrue_plain (aR (h pins s σ H _ I hw) fun v s1 ⟨x,H1,I1,r1,q1⟩=>?_) (he _)
 obtain ⟨d,rfl,q⟩:=q1
 cases r1
 exact wpAny_truthy_bool ⟨H1,I1,q⟩
variable {tA tB':TT} {rest:List Expr}
def K3 (t u:TT):TT:=fun σ H Q=>t σ H fun c H1=>if c=true then u σ H1 Q else Q false H1
def Rq (t u:TT):TT:=fun σ H Q=>t σ H fun c H1=>if c=true then Q true H1 else u σ H1 Q
def KU (t:TT):TT:=fun σ H Q=>t σ H fun c H1=>Q (!c) H1
theorem Ci (ha:PT X a tA):PW X (.BoolOp .And [a] pos) tA:=by
 intro wh pins s σ H Q I h
 refine isTrue_and (aR (ha pins s σ H Q I h) fun c s1 e=>?_)
 cases c with
 | true=>exact isTrue_and_nil e
 | false=>exact e
theorem EE (ha:PT X a tA):PW X (.BoolOp .Or [a] pos) tA:=by
 intro wh pins s σ H Q I h
 refine isTrue_or (aR (ha pins s σ H Q I h) fun c s1 e=>?_)
 cases c with
 | false=>exact isTrue_or_nil e
 | true=>exact e
theorem wB (ha:PT X a tA) (hb:PW X (.BoolOp .And (b::rest) pos) tB'):PW X (.BoolOp .And (a::b::rest) pos) (K3 tA tB'):=by
 intro wh pins s σ H Q I h
 refine isTrue_and (aR (ha pins s σ H _ I h) fun c s1 ⟨H1,I1,q1⟩=>?_)
 cases c with
 | true=>exact hb wh pins s1 σ H1 Q I1 q1
 | false=>exact ⟨H1,I1,q1⟩
theorem Ax (ha:PT X a tA) (hb:PW X (.BoolOp .Or (b::rest) pos) tB'):PW X (.BoolOp .Or (a::b::rest) pos) (Rq tA tB'):=by
 intro wh pins s σ H Q I h
 refine isTrue_or (aR (ha pins s σ H _ I h) fun c s1 ⟨H1,I1,q1⟩=>?_)
 cases c with
 | true=>exact ⟨H1,I1,q1⟩
 | false=>exact hb wh pins s1 σ H1 Q I1 q1
theorem EG (ha:PT X a tA):PT X (.UnaryOp .Not a pos) (KU tA):=by
 intro pins s σ H Q I h
 exact isTrue_not (ha pins s σ H (fun c H1=>Q (!c) H1) I h)
def IK (ta tb:TE):TE:=fun σ H Q=>ta σ H fun x H1 => ∃c,x=.bl c/\if c=true then tb σ H1 Q else Q (.bl false) H1
def KT (ta tb:TE):TE:=fun σ H Q=>ta σ H fun x H1 => ∃c,x=.bl c/\if c=true then Q (.bl true) H1 else tb σ H1 Q
def IG (ta:TE):TE:=fun σ H Q=>ta σ H fun x H1 => ∃c,x=.bl c/\Q (.bl (!c)) H1
theorem EX {op} {t:TE} (h:PE X a t):PE X (.BoolOp op [a] pos) t:=fun pins s σ H Q I hw=>BoolOp_one (h pins s σ H Q I hw)
theorem wJ (ha:PE X a ta) (hb:PE X (.BoolOp .And (b::rest) pos) tb):PE X (.BoolOp .And (a::b::rest) pos) (IK ta tb):=by
 intro pins s σ H Q I h
 refine BoolOp_and (aR (ha pins s σ H _ I h) fun v s1 ⟨x,H1,I1,r1,q1⟩=>?_)
 obtain ⟨c,rfl,q1⟩:=q1
 cases r1
 refine wpAny_truthy_bool ?_
 cases c with
 | true=>exact hb pins s1 σ H1 Q I1 q1
 | false=>exact ⟨.bl false,H1,I1,rfl,q1⟩
theorem Az (ha:PE X a ta) (hb:PE X (.BoolOp .Or (b::rest) pos) tb):PE X (.BoolOp .Or (a::b::rest) pos) (KT ta tb):=by
 intro pins s σ H Q I h
 refine BoolOp_or (aR (ha pins s σ H _ I h) fun v s1 ⟨x,H1,I1,r1,q1⟩=>?_)
 obtain ⟨c,rfl,q1⟩:=q1
 cases r1
 refine wpAny_truthy_bool ?_
 cases c with
 | false=>exact hb pins s1 σ H1 Q I1 q1
 | true=>exact ⟨.bl true,H1,I1,rfl,q1⟩
theorem EY (ha:PE X a ta):PE X (.UnaryOp .Not a pos) (IG ta):=by
 intro pins s σ H Q I h
 refine UnaryOp_ (aR (ha pins s σ H _ I h) fun v s1 ⟨x,H1,I1,r1,q1⟩=>?_)
 obtain ⟨c,rfl,q1⟩:=q1
 cases r1
 exact not_of (wpAny_truthy_bool ⟨.bl (!c),H1,I1,rfl,q1⟩)
end
end L2
namespace L2
open PySem PySem.Spec PyProof.Rows
def cq (K:W.Frag) (H:Hp) (a:Addr) (xs:List V):Prop :=
 Rd H a (.lst xs) \/
  ∃(o:Obj) (its:Array Value) (n:Nat),K.lookup a=some o/\o.cls=.type "list" /\ o.dict=none/\o.data=.seq its n/\its.size<=sizeLine/\aK xs its.toList
def cm (K:W.Frag) (H:Hp) (a:Addr) (xs:List V):Prop :=
 Rd H a (.tup xs) \/
  ∃(o:Obj) (its:Array Value) (n:Nat),K.lookup a=some o/\o.cls=.type "tuple" /\ o.data=.seq its n/\its.size<=sizeLine/\aK xs its.toList
def Ra:Value->Option V
 | .none=>some .non
 | .bool b=>some (.bl b)
 | .int i _=>some (.int i)
 | .str x _=>some (.str x)
 | .bytes b _=>some (.byt b)
 | .float b _=>some (.flt b)
 | .ref a=>some (.ref a)
 | .type n=>some (.ty n)
 | _=>none
theorem aT.abs {x:V} {u:Value} (r:aT x u):Ra u=some x:=by
 cases x with
 | non=>cases r;rfl
 | bl _=>cases r;rfl
 | int _=>obtain ⟨t,rfl⟩:=r;rfl
 | str _=>obtain ⟨t,rfl⟩:=r;rfl
 | byt _=>obtain ⟨t,rfl⟩:=r;rfl
 | flt _=>obtain ⟨t,rfl⟩:=r;rfl
 | ref _=>cases r;rfl
 | ty _=>cases r;rfl
theorem aT.inj {x y:V} {u:Value} (r:aT x u) (q:aT y u):x=y:=Option.some.inj (r.abs.symm.trans q.abs)
theorem aK.inj:∀{xs ys:List V} {us:List Value},aK xs us->aK ys us->xs=ys
 | _,_,_,.nil,.nil=>rfl
 | _,_,_,.cons r t,.cons r' t'=>by rw [r.inj r',aK.inj t t']
section
variable {X:Cx} {pins:List (Addr×Obj)} {σ:St} {H:Hp} {s:Shared} {a:Addr} {xs ys:List V}
theorem cq.of {K:W.Frag} (h:H a=some (.lst xs)):cq K H a xs:=.inl (.inl h)
theorem cm.of {K:W.Frag} (h:H a=some (.tup xs)):cm K H a xs:=.inl (.inl h)
theorem Inv.list (I:Inv X pins σ H s) (h:cq X.K H a xs):∃its:List Value,aK xs its/\PlainL s.heap a its.toArray/\xs.length<=sizeLine:=by
 rcases h with h | ⟨o,its,n,hk,hc,hd,hs,hz,r⟩
 ·obtain ⟨z,its,n,r,e⟩:=h.ok I.hok
  exact ⟨its,r,⟨_,n,e,rfl,rfl,rfl⟩,z⟩
 ·refine ⟨its.toList,r,⟨o,n,I.kIn a o hk,hc,hd,by simpa using hs⟩,?_⟩
  have e:=r.length
  simp only [Array.length_toList] at e
  omega
theorem Inv.tuple (I:Inv X pins σ H s) (h:cm X.K H a xs):∃its:List Value,aK xs its/\IsTup s.heap a its.toArray/\xs.length<=sizeLine:=by
 rcases h with h | ⟨o,its,n,hk,hc,hs,hz,r⟩
 ·obtain ⟨z,its,r,p⟩:=h.ok I.hok
  exact ⟨its,r,p,z⟩
 ·refine ⟨its.toList,r,⟨o,I.kIn a o hk,hc,n,by simpa using hs⟩,?_⟩
  have e:=r.length
  simp only [Array.length_toList] at e
  omega
theorem Inv.list_inj (I:Inv X pins σ H s) (h:cq X.K H a xs) (h':cq X.K H a ys):xs=ys:=by
 obtain ⟨its,r,⟨o,n,e,_,_,d⟩,_⟩:=I.list h
 obtain ⟨its',r',⟨o',n',e',_,_,d'⟩,_⟩:=I.list h'
 rw [e] at e';cases e'
 rw [d] at d'
 injection d' with d1 _
 have:its=its':=by simpa using congrArg Array.toList d1
 subst this
 exact r.inj r'
theorem Inv.tuple_inj (I:Inv X pins σ H s) (h:cm X.K H a xs) (h':cm X.K H a ys):xs=ys:=by
 obtain ⟨its,r,⟨o,e,_,n,d⟩,_⟩:=I.tuple h
 obtain ⟨its',r',⟨o',e',_,n',d'⟩,_⟩:=I.tuple h'
 rw [e] at e';cases e'
 rw [d] at d'
 injection d' with d1 _
 have:its=its':=by simpa using congrArg Array.toList d1
 subst this
 exact r.inj r'
end
abbrev Cx.wish (X:Cx) (E:Value->Shared->Prop):Cx:={ X with xe:=E }
abbrev Cx.nox (X:Cx):Cx:=X.wish fun _ _=>False
theorem Cx.Ok.wish {X:Cx} (ok:X.Ok) (E:Value->Shared->Prop):(X.wish E).Ok :=
 ⟨ok.mod,ok.kind,ok.glob,ok.blt,ok.above,ok.inj,ok.has,ok.cab,ok.hd,ok.frames,ok.stk,ok.exf,ok.bs,ok.bsz,ok.noex,ok.exfs,ok.funs,ok.frf⟩
theorem Cx.Ok.unwish {X:Cx} {E:Value->Shared->Prop} (ok:(X.wish E).Ok):X.Ok :=
 ⟨ok.mod,ok.kind,ok.glob,ok.blt,ok.above,ok.inj,ok.has,ok.cab,ok.hd,ok.frames,ok.stk,ok.exf,ok.bs,ok.bsz,ok.noex,ok.exfs,ok.funs,ok.frf⟩
section
variable {X:Cx} {pins:List (Addr×Obj)} {σ:St} {H:Hp} {s:Shared} {E:Value->Shared->Prop}
theorem Inv.wish (I:Inv X pins σ H s) (E:Value->Shared->Prop):Inv (X.wish E) pins σ H s:=⟨I.ok.wish E,I.os,I.bare,I.base,I.loc,I.cell,I.free,I.freeC,I.pin,I.hok,I.len⟩
theorem Inv.unwish (I:Inv (X.wish E) pins σ H s):Inv X pins σ H s:=⟨I.ok.unwish,I.os,I.bare,I.base,I.loc,I.cell,I.free,I.freeC,I.pin,I.hok,I.len⟩
theorem SP.unwish {D:kz} {f:Flow} {s':Shared} (h:SP (X.wish E) pins D f s'):SP X pins D f s':=by
 cases f with
 | next=>obtain ⟨σ',H',I,q⟩:=h;exact ⟨σ',H',I.unwish,q⟩
 | brk=>obtain ⟨σ',H',I,q⟩:=h;exact ⟨σ',H',I.unwish,q⟩
 | cont=>obtain ⟨σ',H',I,q⟩:=h;exact ⟨σ',H',I.unwish,q⟩
 | ret u=>obtain ⟨v,σ',H',I,r,q⟩:=h;exact ⟨v,σ',H',I.unwish,r,q⟩
theorem PE.nox {e:Expr} {t:TE} (h:PE X.nox e t):PE X e t:=fun pins s σ H Q I hw =>
 wpAny_mono (h pins s σ H Q (I.wish _) hw) (fun _ _ ⟨v,H',I',r,q⟩=>⟨v,H',I'.unwish,r,q⟩) fun _ _ z=>False.elim z
theorem PT.nox {e:Expr} {t:TT} (h:PT X.nox e t):PT X e t:=fun pins s σ H Q I hw =>
 wpAny_mono (h pins s σ H Q (I.wish _) hw) (fun _ _ ⟨H',I',q⟩=>⟨H',I'.unwish,q⟩) fun _ _ z=>False.elim z
theorem fO.nox {st:List Stmt} {t:TS} (h:fO X.nox st t):fO X st t:=fun pins s σ H D I hw =>
 wpAny_mono (h pins s σ H D (I.wish _) hw) (fun _ _ q=>q.unwish) fun _ _ z=>False.elim z
end
section
variable {X:Cx} {st:Stmt} {rest:List Stmt} {t u:TS} {e:Expr} {te:TE} {pos:Pos}
def Ao:TS:=fun D σ H=>D.nx σ H
def KQ (t u:TS):TS:=fun D σ H=>t { D with nx:=u D } σ H
theorem nW:fO X [] Ao:=fun _ _ σ H _ I h=>wpAny_execs_nil ⟨σ,H,I,h⟩
theorem fS (h1:PS X st t) (h2:fO X rest u):fO X (st::rest) (KQ t u):=by
 intro pins s σ H D I h
 refine wpAny_execs_cons (aR (h1 pins s σ H { D with nx:=u D } I h) fun f s1 q=>?_)
 cases f with
 | next =>
  obtain ⟨σ',H',I',q⟩:=q
  exact h2 pins s1 σ' H' D I' q
 | ret v=>exact q
 | brk=>exact q
 | cont=>exact q
theorem nV (h1:PS X st t):fO X [st] t:=by
 intro pins s σ H D I h
 refine wpAny_execs_cons (aR (h1 pins s σ H D I h) fun f s1 q=>?_)
 cases f with
 | next=>exact wpAny_execs_nil q
 | ret v=>exact q
 | brk=>exact q
 | cont=>exact q
def D3:TS:=fun D σ H=>D.bk σ H
def II:TS:=fun D σ H=>D.ct σ H
theorem Ck:PS X (.Pass pos) Ao:=fun _ _ σ H _ I h=>wpAny_Pass ⟨σ,H,I,h⟩
theorem yF:PS X (.Break pos) D3:=fun _ _ σ H _ I h=>wpAny_Break ⟨σ,H,I,h⟩
theorem sU:PS X (.Continue pos) II:=fun _ _ σ H _ I h=>wpAny_Continue ⟨σ,H,I,h⟩
theorem Inv.quiet {pins:List (Addr×Obj)} {σ:St} {H:Hp} {s:Shared} (I:Inv X pins σ H s):interactive X.env=false:=by simp [interactive,I.ok.kind]
def IH (te:TE):TS:=fun D σ H=>te σ H fun _ H1=>D.nx σ H1
theorem iV (he:PE X e te) (hs:swapsWith e none pos.line X.env=pure false:=by rfl):PS X (.Expr e pos) (IH te):=by
 intro pins s σ H D I h
 exact wpAny_Expr_any (aR (he pins s σ H _ I h) fun v s1 ⟨x,H1,I1,r1,q1⟩=>⟨σ,H1,I1,q1⟩) I.quiet hs
def KR (te:TE):TS:=fun D σ H=>te σ H D.rt
theorem wC (he:PE X e te):PS X (.Return (some e) pos) (KR te):=by
 intro pins s σ H D I h
 exact wpAny_Return_some (aR (he pins s σ H _ I h) fun v s1 ⟨x,H1,I1,r1,q1⟩=>⟨x,σ,H1,I1,r1,q1⟩)
def ID:TS:=fun D _ H=>D.rt .non H
theorem Cj:PS X (.Return none pos) ID:=fun _ _ σ H _ I h=>wpAny_Return_none ⟨.non,σ,H,I,rfl,h⟩
def KY (c:TT) (t u:TS):TS:=fun D σ H=>c σ H fun b H1=>if b=true then t D σ H1 else u D σ H1
theorem u9 {c:Expr} {a b:List Stmt} {tc:TT} (hc:PT X c tc) (ha:fO X a t) (hb:fO X b u):PS X (.If c a b pos) (KY tc t u):=by
 intro pins s σ H D I h
 refine wpAny_If (aR (hc pins s σ H _ I h) fun d s1 ⟨H1,I1,q1⟩=>?_)
 cases d with
 | true=>exact ha pins s1 σ H1 D I1 q1
 | false=>exact hb pins s1 σ H1 D I1 q1
def D2:TS:=fun _ _ _=>False
theorem ir {sts:List Stmt}:fO X sts D2:=fun _ _ _ _ _ _ h=>h.elim
end
abbrev TG:=V->St->Hp->(St->Hp->Prop)->Prop
abbrev nD:=List V->St->Hp->(St->Hp->Prop)->Prop
def PG (X:Cx) (target:Expr) (t:TG):Prop :=
 ∀(pins:List (Addr×Obj)) (s:Shared) (σ:St) (H:Hp) (v:V) (u:Value) (Q:St->Hp->Prop),Inv X pins σ H s->aT v u->t v σ H Q ->
  wpAny (model X.prog X.w) X.A (assign target X.env u) (fun _ s' => ∃σ' H',Inv X pins σ' H' s'/\Q σ' H') X.xe s
def uG (X:Cx) (ts:List Expr) (t:nD):Prop :=
 ∀(pins:List (Addr×Obj)) (s:Shared) (σ:St) (H:Hp) (vs:List V) (us:List Value) (Q:St->Hp->Prop),Inv X pins σ H s->aK vs us->t vs σ H Q ->
  wpAny (model X.prog X.w) X.A (assignInOrder ((assignEach ts X.env).map (·.2)) us) (fun _ s' => ∃σ' H',Inv X pins σ' H' s'/\Q σ' H') X.xe s
abbrev v9:=V->V->V->Hp->(Hp->Prop)->Prop
def Io (X:Cx) (t:v9):Prop :=
 ∀(pins:List (Addr×Obj)) (s:Shared) (σ:St) (H:Hp) (o i v:V) (ov iv u:Value) (Q:Hp->Prop),Inv X pins σ H s->aT o ov->aT i iv->aT v u->t o i v H Q ->
  wpAny (model X.prog X.w) X.A (setItem ov iv u) (fun _ s' => ∃H',Inv X pins σ H' s'/\Q H') X.xe s
abbrev Ik:=V->V->Hp->VK->Prop
def KH (X:Cx) (op:Operator) (t:Ik):Prop :=
 ∀(pins:List (Addr×Obj)) (s:Shared) (σ:St) (H:Hp) (x y:V) (v u:Value) (Q:VK),Inv X pins σ H s->aT x v->aT y u->t x y H Q ->
  wpAny (model X.prog X.w) X.A (inplaceOp op v u) (EP X pins σ Q) X.xe s
section
variable {X:Cx} {pos:Pos}
def AS (i:Nat):TG:=fun v σ H Q=>Q (σ.set i (some v)) H
theorem fT {i:Nat} {x:Str} (hN:X.N.Nodup) (hi:X.N[i]?=some x) (hx:sP X.env.scope x) (hf:X.fn x=true\/X.env.scope.names.lookup x=some .local:=by first|exact .inl rfl|exact .inr rfl|assumption):PG X (.Name x pos) (AS i):=by
 intro pins s σ H v u Q I r h
 exact wpAny_assign_Name (gT I hN hi hx r (fun s' I'=>⟨_,H,I',h⟩) hf)
def O8:nD:=fun vs σ H Q=>vs=[]/\Q σ H
def JY (t:TG) (u:nD):nD:=fun vs σ H Q => ∃v r,vs=v::r/\t v σ H fun σ' H'=>u r σ' H' Q
theorem nX:uG X [] O8:=by
 intro pins s σ H vs us Q I r h
 obtain ⟨e,h⟩:=h
 subst e
 cases r
 exact assignInOrder_nil ⟨σ,H,I,h⟩
theorem gW {e:Expr} {es:List Expr} {t:TG} {u:nD} (h1:PG X e t) (h2:uG X es u)
  (hs:(assignEach (e::es) X.env).map (·.2)=assign e X.env::(assignEach es X.env).map (·.2):=by rfl):uG X (e::es) (JY t u):=by
 intro pins s σ H vs us Q I r h
 obtain ⟨v,vr,e1,h⟩:=h
 subst e1
 cases r with
 | cons r rr =>
  rw [hs]
  refine assignInOrder_cons (aR (h1 pins s σ H _ _ _ I r h) fun _ s1 ⟨σ1,H1,I1,q1⟩=>?_)
  exact h2 pins s1 σ1 H1 _ _ Q I1 rr q1
def O0 (K:W.Frag) (n:Nat) (t:nD):TG:=fun v σ H Q => ∃a xs,v=.ref a/\cm K H a xs/\xs.length=n/\t xs σ H Q
theorem mq {es:List Expr} {k:Nat} {t:nD} {n:Nat} (hc:X.calm=true) (h:uG X es t)
  (hn:(assignEach es X.env).length=n:=by rfl) (hst:(assignEach es X.env).findIdx? (·.1)=none:=by rfl):PG X (.Tuple es k pos) (O0 X.K n t):=by
 intro pins s σ H v u Q I r hw
 obtain ⟨a,xs,e1,hq,hl,hw⟩:=hw
 subst e1
 cases r
 obtain ⟨its,rv,ht,hz⟩:=I.tuple hq
 refine assign_Tuple_tuple (I.ok.hd hc) ht (by simp [hn,<- hl,rv.length]) hst fun h' hx=>?_
 have I1:Inv X pins σ H { s with heap:=h' }:=I.kept (t':=s.toks) fun b o e=>hx b o (Nat.ne_of_lt (Heap.lt_size e)) e
 exact h pins _ σ H xs _ Q I1 (by simpa using rv) hw
def O1 (to ti:TE) (t:v9):TG:=fun v σ H Q=>to σ H fun o H1=>ti σ H1 fun i H2=>t o i v H2 fun H3=>Q σ H3
theorem wG {o i:Expr} {to ti:TE} {t:v9} (ho:PE X o to) (hi:PE X i ti) (hs:Io X t)
  (ha:∀v,assign (.Subscript o i pos) X.env v=(do
   let ov <- holding [v] (eval o X.env)
   let iv <- holding [v,ov] (eval i X.env)
   standAt pos
   holding [v,ov,iv] (setItem ov iv v)
   release [v,ov,iv] []):=by intro _;rfl):PG X (.Subscript o i pos) (O1 to ti t):=by
 intro pins s σ H v u Q I r h
 rw [ha]
 refine wpAny_bind (wpAny_holding (aR (ho pins s σ H _ I h) fun ov s1 ⟨x,H1,I1,r1,q1⟩=>?_))
 refine wpAny_bind (wpAny_holding (aR (hi pins s1 σ H1 _ I1 q1) fun iv s2 ⟨y,H2,I2,r2,q2⟩=>?_))
 refine wpAny_bind (wpAny_standAt (wpAny_bind (wpAny_holding (aR (hs pins s2 σ H2 x y v ov iv u _ I2 r1 r2 r q2) fun _ s3 ⟨H3,I3,q3⟩=>?_))))
 exact wpAny_release ⟨σ,H3,I3,q3⟩
def D4 (te:TE) (g:TG):TS:=fun D σ H=>te σ H fun x H1=>g x σ H1 D.nx
theorem iW {tg e:Expr} {te:TE} {g:TG} (he:PE X e te) (hg:PG X tg g) (hs:swapsWithSole [tg] e pos.line X.env=pure false:=by rfl) (hw:swappedStores [tg] e X.env=pure none:=by rfl)
  (h1:(assignEach [tg] X.env).map (·.2)=[assign tg X.env]:=by rfl):PS X (.Assign [tg] e pos) (D4 te g):=by
 intro pins s σ H D I h
 refine wpAny_Assign_stores (aR (he pins s σ H _ I h) fun v s1 ⟨x,H1,I1,r1,q1⟩=>?_) hs hw
 rw [h1]
 exact aR (hg pins s1 σ H1 x v _ I1 r1 q1) fun _ s2 q=>q
theorem EH {i:Nat} {x:Str} {e:Expr} {te:TE} {pos':Pos} (hN:X.N.Nodup) (hi:X.N[i]?=some x) (hx:sP X.env.scope x) (he:PE X e te) (hs:swapsWith e (some (.Name x pos')) pos.line X.env=pure false:=by rfl) (hf:X.fn x=true\/X.env.scope.names.lookup x=some .local:=by first|exact .inl rfl|exact .inr rfl|assumption) :
  PS X (.Assign [.Name x pos'] e pos) (D4 te (AS i)):=by
 intro pins s σ H D I h
 refine wpAny_Assign_Name (aR (he pins s σ H _ I h) fun v s1 ⟨y,H1,I1,r1,q1⟩=>?_) hs
 exact gT I1 hN hi hx r1 (fun s2 I2=>⟨_,H1,I2,q1⟩) hf
def KS (i j:Nat) (ta:TA):TS:=fun D σ H=>ta σ H fun vs H1 => ∃v w,vs=[v,w]/\D.nx ((σ.set i (some v)).set j (some w)) H1
theorem EI {i j:Nat} {x y:Str} {a b:Expr} {ta:TA} {px py pt:Pos} {kt k2 pt2} (hc:X.calm=true) (hN:X.N.Nodup) (hi:X.N[i]?=some x) (hj:X.N[j]?=some y) (hij:i≠j)
  (hx:X.env.scope.names.lookup x=some .local) (hy:X.env.scope.names.lookup y=some .local) (ha:PA X [a,b] ta)
  (hw:swappedStores [.Tuple [.Name x px,.Name y py] kt pt] (.Tuple [a,b] k2 pt2) X.env=pure (some [x,y]))
  (hs:swapsWithSole [.Tuple [.Name x px,.Name y py] kt pt] (.Tuple [a,b] k2 pt2) pos.line X.env=pure false:=by rfl) :
  PS X (.Assign [.Tuple [.Name x px,.Name y py] kt pt] (.Tuple [a,b] k2 pt2) pos) (KS i j ta):=by
 intro pins s σ H D I h
 rw [exec_Assign_arm]
 refine wpAny_bind (wpAny_standAt ?_)
 rw [hs]
 refine wpAny_bind (wpAny_pure ?_)
 rw [if_neg (by decide)]
 refine wpAny_bind (Tuple_ (aR (ha _ pins s σ H _ I h) fun us s1 ⟨vs,H1,I1,r1,q1⟩=>?_))
 obtain ⟨v,w,e1,q1⟩:=q1
 subst e1
 obtain ⟨u1,u2,rfl,rv,rw'⟩:∃u1 u2,us=[u1,u2]/\aT v u1/\aT w u2:=by
  cases r1 with
  | cons p q =>
   cases q with
   | cons p' q' =>
    cases q'
    exact ⟨_,_,rfl,p,p'⟩
 refine wpAny_newObj_type ?_ (by show 2<=sizeLine;decide)
 have I2:Inv X pins σ H1 { s1 with heap:=s1.heap.push { cls:=.type "tuple", data:=.seq [u1,u2].toArray } }:=I1.kept (t':=s1.toks) fun b o e=>Heap.get?_push_of_some _ e
 rw [hw]
 refine wpAny_bind (wpAny_pure ?_)
 show wpAny (model X.prog X.w) X.A (do rule "assign.swapped-stores"; let items <- unpackItems (.ref s1.heap.objs.size) 2 none;assignInOrder [fun v=>bindName X.env y v,fun v=>bindName X.env x v] items.reverse;pure Flow.next) _ _ _
 refine wpAny_bind (wpAny_rule (wpAny_bind (unpackItems_tuple (items:=#[u1,u2]) (I.ok.hd hc) (IsTup.new s1.heap _) fun h' hx'=>?_)))
 have I3:=I2.kept (h':=h') (t':=s1.toks) fun b o e=>hx' b o (Nat.ne_of_lt (Heap.lt_size e)) e
 show wpAny _ _ (assignInOrder [fun v=>bindName X.env y v,fun v=>bindName X.env x v] [u2,u1] >>= fun _=>pure Flow.next) _ _ _
 refine wpAny_bind (assignInOrder_cons (wpAny_bindName (gT I3 hN hj (.inl hy) rw' (fun s2 I4=>?_) (.inr hy))))
 refine assignInOrder_cons (wpAny_bindName (gT I4 hN hi (.inl hx) rv (fun s3 I5=>assignInOrder_nil (wpAny_pure ?_)) (.inr hx)))
 rw [List.set_comm _ _ (Ne.symm hij)] at I5
 exact ⟨_,H1,I5,q1⟩
def K2 (i:Nat) (te:TE) (ti:Ik):TS:=fun D σ H => ∃x,σ[i]?=some (some x)/\te σ H fun y H1=>ti x y H1 fun z H2=>D.nx (σ.set i (some z)) H2
theorem EJ {i:Nat} {x:Str} {e:Expr} {te:TE} {op:Operator} {ti:Ik} {pos':Pos} (hN:X.N.Nodup) (hi:X.N[i]?=some x) (hx:sP X.env.scope x) (he:PE X e te) (ho:KH X op ti) (hf:X.fn x=true\/X.env.scope.names.lookup x=some .local:=by first|exact .inl rfl|exact .inr rfl|assumption) :
  PS X (.AugAssign (.Name x pos') op e pos) (K2 i te ti):=by
 intro pins s σ H D I h
 obtain ⟨v,e1,h⟩:=h
 obtain ⟨m,hn,hl⟩:=I.loc
 have vis:fB X.env.scope x:=by rcases hx with k|k;exact .inl k;exact .inr (.inl k)
 obtain ⟨u,r,l⟩:=hl i x v hi e1 vis
 refine wpAny_AugAssign_Name ?_
 have go:wpAny (model X.prog X.w) X.A (eval e X.env) (fun w s₂=>wpAny (model X.prog X.w) X.A (inplaceOp op u w) (fun r s₃=>wpAny (model X.prog X.w) X.A (storeName X.env x r) (fun _=>SP X pins D .next) X.xe s₃) X.xe s₂) X.xe s:=by
  refine aR (he pins s σ H _ I h) fun w s1 ⟨y,H1,I1,r1,q1⟩=>?_
  refine aR (ho pins s1 σ H1 v y u w _ I1 r r1 q1) fun z s2 ⟨zv,H2,I2,r2,q2⟩=>?_
  exact gT I2 hN hi hx r2 (fun s3 I3=>⟨_,H2,I3,q2⟩) hf
 rcases l with ⟨hk,hm⟩ | ⟨hk,c,hc,hcell⟩
 ·exact wpAny_loadName_local I.ok.kind hk hn hm go
 ·rcases hk with hk|hk
  ·exact wpAny_loadName_cell I.ok.kind hk hc hcell go
  ·rcases hx with k|k
   ·have:X.env.scope.names.lookup x=some .free:=hk
    rw [k] at this;cases this
   ·have:X.env.scope.names.lookup x=some .free:=hk
    rw [k] at this;cases this
end
section
variable {X:Cx} {pos:Pos}
def D1 (c:TT) (tb:TS):TS:=fun D σ H => ∃W:Nat->St->Hp->Prop,(∃m,W m σ H)/\∀m σ H,W m σ H ->
 c σ H fun b H1=>if b=true then ∃N:St->Hp->Prop,(∀σ' H',N σ' H'->∃m',m' < m/\W m' σ' H')/\tb { D with nx:=N,ct:=N,bk:=D.nx } σ H1 else D.nx σ H1
theorem yE {c:Expr} {body:List Stmt} {tc:TT} {tb:TS} (hp:PassesOwn (model X.prog X.w) X.A X.env X.xe) (hc:PT X c tc) (hb:fO X body tb):PS X (.While c body [] pos) (D1 tc tb):=by
 intro pins s σ H D I h
 obtain ⟨W,⟨m0,w0⟩,turn⟩:=h
 refine wpAny_While (codeAny_whileLoop (fun n s' => ∃σ' H',Inv X pins σ' H' s'/\W n σ' H') ?_ m0 ⟨σ,H,I,w0⟩)
 rintro n s1 ⟨σ1,H1,I1,w1⟩
 refine wpAny_passesOwn hp (aR (hc pins s1 σ1 H1 _ I1 (turn n σ1 H1 w1)) fun b s2 ⟨H2,I2,q2⟩=>?_)
 cases b with
 | true =>
  obtain ⟨N,hN,q2⟩:=q2
  rw [if_pos rfl]
  refine wpAny_passesOwn hp (aR (hb pins s2 σ1 H2 _ I2 q2) fun f s3 q3=>?_)
  cases f with
  | next =>
   obtain ⟨σ3,H3,I3,n3⟩:=q3
   obtain ⟨m',hm,w3⟩:=hN σ3 H3 n3
   exact ⟨m',hm,σ3,H3,I3,w3⟩
  | cont =>
   obtain ⟨σ3,H3,I3,n3⟩:=q3
   obtain ⟨m',hm,w3⟩:=hN σ3 H3 n3
   exact ⟨m',hm,σ3,H3,I3,w3⟩
  | brk=>exact q3
  | ret v=>exact q3
 | false =>
  rw [if_neg Bool.false_ne_true]
  exact wpAny_execs_nil ⟨σ1,H2,I2,q2⟩
end
structure It where
 go:Nat->Hp->Prop
 yld:Nat->Hp->V->Hp->Prop
 stop:Nat->Hp->Prop
def fQ (X:Cx) (pins:List (Addr×Obj)) (H:Hp) (b:Addr):Prop :=
 H b=none/\b≠X.env.locals/\b∉X.fs/\(b∈X.ex\/X.s₀.heap.objs.size<=b)/\(∀x c,X.env.cells.lookup x=some c->c≠b)/\∀p∈X.pn++pins,p.1≠b
theorem Inv.fpOk {X:Cx} {pins:List (Addr×Obj)} {σ:St} {H H':Hp} {s:Shared} {b:Addr} (I:Inv X pins σ H s) (hb:s.heap.objs.size<=b) (hn:H' b=none):fQ X pins H' b:=by
 refine ⟨hn,Nat.ne_of_gt (Nat.lt_of_lt_of_le I.lt hb),I.nofs hb,.inr (Nat.le_trans I.sz hb),fun x c e z=>?_,fun p hp z=>?_⟩
 ·obtain ⟨v,q⟩:=I.cell x c e
  exact absurd (Nat.lt_of_lt_of_le q.lt (by rw [z];exact hb)) (Nat.lt_irrefl _)
 ·exact absurd (Nat.lt_of_lt_of_le (Heap.lt_size (I.pin p hp).1) (by rw [z];exact hb)) (Nat.lt_irrefl _)
structure Turn (P:Program) (w:World) (K:W.Frag) (tg:Expr) (J:It) (fp:List Addr) (it:Addr) (tn:Nat->Heap->Prop):Prop where
 mem:it∈fp
 obj:∀i h,tn i h->∀b∈fp,∃o,h.get? b=some o/\∀v,o.data ≠ .cell v
 keep:∀i h h',tn i h->(∀b∈fp,∀o,h.get? b=some o->h'.get? b=some o)->tn i h'
 item:∀(X:Cx),X.prog=P->X.w=w->X.K=K->X.calm=true->∀(i:Nat) (pins:List (Addr×Obj)) (s:Shared) (σ:St) (H:Hp) (E:Value->Shared->Prop),Inv X pins σ H s->(∀b∈fp,fQ X pins H b)->tn i s.heap->J.go i H ->
  wpAny (model P w) X.A (pyNext (.ref it)) (fun r s1 => ∃u,r=some u /\
   wpAny (model P w) X.A (letOwnedTupleGo tg (.ref it) u) (fun _ s2 => ∃x H',Inv X pins σ H' s2/\aT x u/\J.yld i H x H'/\tn (i+1) s2.heap/\∀b∈fp,H' b=none) E s1) E s
 done:∀(X:Cx),X.prog=P->X.w=w->X.K=K->X.calm=true->∀(i:Nat) (pins:List (Addr×Obj)) (s:Shared) (σ:St) (H:Hp) (E:Value->Shared->Prop),Inv X pins σ H s->(∀b∈fp,fQ X pins H b)->tn i s.heap->J.stop i H ->
  wpAny (model P w) X.A (pyNext (.ref it)) (fun r s1=>r=none/\Inv X pins σ H s1) E s
 self:∀(A:Around) (i:Nat) (s:Shared) (Q:Value->Shared->Prop) (E:Value->Shared->Prop),tn i s.heap->Q (.ref it) s->wpAny (model P w) A (pyIter (.ref it)) Q E s
abbrev TI:=St->Hp->(It->Hp->Prop)->Prop
def KI (X:Cx) (pins:List (Addr×Obj)) (σ:St) (tg:Expr) (R:It->Hp->Prop) (itv:Value) (s2:Shared):Prop :=
 ∃(it:Addr) (fp:List Addr) (tn:Nat->Heap->Prop) (J:It) (H':Hp),itv=.ref it/\Inv X pins σ H' s2/\Turn X.prog X.w X.K tg J fp it tn/\tn 0 s2.heap/\(∀b∈fp,fQ X pins H' b)/\R J H'
def PI (X:Cx) (tg iter:Expr) (wi:TI):Prop :=
 ∀(pins:List (Addr×Obj)) (s:Shared) (σ:St) (H:Hp) (R:It->Hp->Prop),Inv X pins σ H s->wi σ H R ->
  wpAny (model X.prog X.w) X.A (eval iter X.env) (fun v s1=>wpAny (model X.prog X.w) X.A (pyIter v) (KI X pins σ tg R) X.xe s1) X.xe s
theorem qe {M:Model} {A:Around} {E:Value->Shared->Prop} {s:Shared} {tg:Expr} {it:Addr} {u:Value} {o:Obj} {n:String} {vs:Array Value} {Q:Unit->Shared->Prop} (ho:s.heap.get? it=some o) (hc:o.cls=.type n) (hd:o.data=.fields vs)
    (hn:["enumerate", "zip", "dict_itemiterator", "dict_reverseitemiterator", "odict_iterator", "itertools.zip_longest", "itertools.pairwise"].contains n=false) (hQ:Q () s):wpAny M A (letOwnedTupleGo tg (.ref it) u) Q E s:=by
  unfold letOwnedTupleGo
  cases tg <;> first
    | exact wpAny_pure hQ
    | (cases u <;> first
        | exact wpAny_pure hQ
        | (refine wpAny_bind (wpAny_load ho ?_)
           rw [hc,hd]
           show wpAny M A (if (["enumerate", "zip", "dict_itemiterator", "dict_reverseitemiterator", "odict_iterator", "itertools.zip_longest", "itertools.pairwise"].contains n&&vs[0]? == some (rawInt _))=true then _ else _) Q E s
           rw [if_neg (by intro h;rw [hn,Bool.false_and] at h;cases h)]
           exact wpAny_pure hQ))
def KL (K:W.Frag) (a:Addr):It :=
 ⟨fun i H => ∃xs x,cq K H a xs/\xs[i]?=some x,fun i H x H'=>H'=H/\∀xs,cq K H a xs->xs[i]?=some x,fun i H => ∃xs,cq K H a xs/\xs.length<=i⟩
def KK (K:W.Frag) (a:Addr):It :=
 ⟨fun i H => ∃xs x,cm K H a xs/\xs[i]?=some x,fun i H x H'=>H'=H/\∀xs,cm K H a xs->xs[i]?=some x,fun i H => ∃xs,cm K H a xs/\xs.length<=i⟩
def A8 (lo:Int) (n:Nat):It:=⟨fun i _=>i < n,fun i H x H'=>H'=H/\x=.int (lo+i),fun i _=>n<=i⟩
theorem wo {P:Program} {w:World} {K:W.Frag} {tg:Expr} (a it:Addr):Turn P w K tg (KL K a) [it] it (fun i h=>h.IsListIter it a i) where
 mem:=by simp
 obj:=fun i h st b hb=>by
  have e:b=it:=by simpa using hb
  subst e
  obtain ⟨o,e,c,d⟩:=st
  exact ⟨o,e,fun v z=>by rw [d] at z;cases z⟩
 keep:=fun i h h' st k=>st.at fun o e=>k it (by simp) o e
 item:=by
  intro X hP hw hK hc i pins s σ H E I hf st hg
  subst hP hw hK
  obtain ⟨xs,x,hq,hx⟩:=hg
  obtain ⟨its,rv,p,hz⟩:=I.list hq
  obtain ⟨u,hu,ru⟩:=rv.get hx
  obtain ⟨f0,f1,f2,f3,f4,f5⟩:=hf it (by simp)
  refine wpAny_pyNext_list_item st p.isList (x:=u) (by simpa using hu) fun h' st' sb=>?_
  have I1:Inv X pins σ H { s with heap:=h' }:=I.turned (t':=s.toks) (fun b o hb e=>(sb.2 b hb).trans e) f0 f1 f3 f4 f5
  obtain ⟨o,e,c,d⟩:=id st'
  exact ⟨u,rfl,qe (s:={ s with heap:=h' }) e c d (by decide) ⟨x,H,I1,ru,⟨rfl,fun ys hy=>by rw [I.list_inj hy hq];exact hx⟩,st',fun b hb=>(hf b hb).1⟩⟩
 done:=by
  intro X hP hw hK hc i pins s σ H E I hf st hg
  subst hP hw hK
  obtain ⟨xs,hq,hx⟩:=hg
  obtain ⟨its,rv,p,hz⟩:=I.list hq
  obtain ⟨f0,f1,f2,f3,f4,f5⟩:=hf it (by simp)
  have hl:=rv.length
  exact wpAny_pyNext_list_end (I.ok.hd hc) st p.isList (by simp;omega) fun h' eb=>⟨rfl,I.turned (t':=s.toks) (fun b o hb e=>eb b o hb e) f0 f1 f3 f4 f5⟩
 self:=fun _ _ _ _ _ st h=>wpAny_pyIter_listiter st h
theorem uM {P:Program} {w:World} {K:W.Frag} {tg:Expr} (a it:Addr):Turn P w K tg (KK K a) [it] it (fun i h=>h.IsTupleIter it a i) where
 mem:=by simp
 obj:=fun i h st b hb=>by
  have e:b=it:=by simpa using hb
  subst e
  obtain ⟨o,e,c,d⟩:=st
  exact ⟨o,e,fun v z=>by rw [d] at z;cases z⟩
 keep:=fun i h h' st k=>st.at fun o e=>k it (by simp) o e
 item:=by
  intro X hP hw hK hc i pins s σ H E I hf st hg
  subst hP hw hK
  obtain ⟨xs,x,hq,hx⟩:=hg
  obtain ⟨its,rv,p,hz⟩:=I.tuple hq
  obtain ⟨u,hu,ru⟩:=rv.get hx
  obtain ⟨f0,f1,f2,f3,f4,f5⟩:=hf it (by simp)
  refine wpAny_pyNext_tuple_item st (show s.heap.IsTuple a its.toArray from p) (x:=u) (by simpa using hu) fun h' st' sb=>?_
  have I1:Inv X pins σ H { s with heap:=h' }:=I.turned (t':=s.toks) (fun b o hb e=>(sb.2 b hb).trans e) f0 f1 f3 f4 f5
  obtain ⟨o,e,c,d⟩:=id st'
  exact ⟨u,rfl,qe (s:={ s with heap:=h' }) e c d (by decide) ⟨x,H,I1,ru,⟨rfl,fun ys hy=>by rw [I.tuple_inj hy hq];exact hx⟩,st',fun b hb=>(hf b hb).1⟩⟩
 done:=by
  intro X hP hw hK hc i pins s σ H E I hf st hg
  subst hP hw hK
  obtain ⟨xs,hq,hx⟩:=hg
  obtain ⟨its,rv,p,hz⟩:=I.tuple hq
  obtain ⟨f0,f1,f2,f3,f4,f5⟩:=hf it (by simp)
  have hl:=rv.length
  exact wpAny_pyNext_tuple_end (I.ok.hd hc) st (show s.heap.IsTuple a its.toArray from p) (by simp;omega) fun h' eb=>⟨rfl,I.turned (t':=s.toks) (fun b o hb e=>eb b o hb e) f0 f1 f3 f4 f5⟩
 self:=fun _ _ _ _ _ st h=>wpAny_pyIter_tupleiter st h
theorem uN {P:Program} {w:World} {K:W.Frag} {tg:Expr} (it:Addr) (lo:Int) (n:Nat):Turn P w K tg (A8 lo n) [it] it (fun i h=>IsRangeIter h it (lo+(i:Nat)*1) ((n:Int) - (i:Nat)) 1) where
 mem:=by simp
 obj:=fun i h st b hb=>by
  have e:b=it:=by simpa using hb
  subst e
  exact ⟨_,st,fun v z=>by
   have z':Data.fields _=Data.cell v:=z
   cases z'⟩
 keep:=fun i h h' st k=>k it (by simp) _ st
 item:=by
  intro X hP hw hK hc i pins s σ H E I hf st hg
  subst hP hw hK
  obtain ⟨f0,f1,f2,f3,f4,f5⟩:=hf it (by simp)
  have W:=Walks.range (prog:=X.prog) (w:=X.w) (I.ok.hd hc) it lo 1 n
  refine W.item i s _ _ hg st fun v h' tk hv st' kk=>?_
  obtain ⟨t,rfl⟩:=hv
  have I1:Inv X pins σ H { s with heap:=h',toks:=tk }:=I.turned (fun b o hb e=>kk b o (by simpa using hb) e) f0 f1 f3 f4 f5
  refine ⟨_,rfl,qe (s:={ s with heap:=h',toks:=tk }) (n := "range_iterator") st' rfl rfl (by decide) ⟨.int (lo+i),H,I1,⟨t,?_⟩,⟨rfl,rfl⟩,st',fun b hb=>(hf b hb).1⟩⟩
  rw [Int.mul_one]
 done:=by
  intro X hP hw hK hc i pins s σ H E I hf st hg
  subst hP hw hK
  obtain ⟨f0,f1,f2,f3,f4,f5⟩:=hf it (by simp)
  exact wpAny_pyNext_range_end (I.ok.hd hc) st (by have:n<=i:=hg;omega) fun h' eb=>⟨rfl,I.turned (t':=s.toks) (fun b o hb e=>eb b o hb e) f0 f1 f3 f4 f5⟩
 self:=fun _ _ _ _ _ st h=>wpAny_pyIter_rangeiter st h
end L2
namespace L2
open PySem PySem.Spec PyProof.Rows
section
variable {X:Cx} {tg:Expr}
def JW (K:W.Frag) (tl:TE):TI:=fun σ H R=>tl σ H fun x H1 => ∃a,x=.ref a/\(∃xs,cq K H1 a xs)/\R (KL K a) H1
def OZ (K:W.Frag) (tl:TE):TI:=fun σ H R=>tl σ H fun x H1 => ∃a,x=.ref a/\(∃xs,cm K H1 a xs)/\R (KK K a) H1
theorem Cs {l:Expr} {tl:TE} (hl:PE X l tl):PI X tg l (JW X.K tl):=by
 intro pins s σ H R I h
 refine aR (hl pins s σ H _ I h) fun v s1 ⟨x,H1,I1,r1,q1⟩=>?_
 obtain ⟨a,e,⟨xs,hq⟩,q⟩:=q1
 subst e
 cases r1
 obtain ⟨its,rv,p,hz⟩:=I1.list hq
 refine wpAny_pyIter_list p.isList ?_
 refine ⟨s1.heap.objs.size,[s1.heap.objs.size],_,_,H1,rfl,I1.kept (t':=s1.toks) fun b o e=>Heap.get?_push_of_some _ e,wo a _,⟨_,Heap.get?_push_size _ rfl,rfl,rfl⟩,fun b hb=>?_,q⟩
 have e:b=s1.heap.objs.size:=by simpa using hb
 subst e
 exact I1.fpOk (Nat.le_refl _) (I1.hok.fresh (Nat.le_refl _))
theorem ET {l:Expr} {tl:TE} (hl:PE X l tl):PI X tg l (OZ X.K tl):=by
 intro pins s σ H R I h
 refine aR (hl pins s σ H _ I h) fun v s1 ⟨x,H1,I1,r1,q1⟩=>?_
 obtain ⟨a,e,⟨xs,hq⟩,q⟩:=q1
 subst e
 cases r1
 obtain ⟨its,rv,p,hz⟩:=I1.tuple hq
 refine wpAny_pyIter_tuple (show s1.heap.IsTuple a its.toArray from p) ?_
 refine ⟨s1.heap.objs.size,[s1.heap.objs.size],_,_,H1,rfl,I1.kept (t':=s1.toks) fun b o e=>Heap.get?_push_of_some _ e,uM a _,⟨_,Heap.get?_push_size _ rfl,rfl,rfl⟩,fun b hb=>?_,q⟩
 have e:b=s1.heap.objs.size:=by simpa using hb
 subst e
 exact I1.fpOk (Nat.le_refl _) (I1.hok.fresh (Nat.le_refl _))
theorem qJ {pins:List (Addr×Obj)} {σ:St} {H:Hp} {s:Shared} {R:It->Hp->Prop} {E:Value->Shared->Prop} {lo hi:Int} {t u v:Tok} {tk:Nat} (I:Inv X pins σ H s) (h1:-(2 ^ 62)<=lo) (h2:lo < 2 ^ 62) (h3:-(2 ^ 62)<=hi) (h4:hi < 2 ^ 62)
  (q:R (A8 lo (hi - lo).toNat) H):wpAny (model X.prog X.w) X.A (pyIter (.ref s.heap.objs.size)) (KI X pins σ tg R) E { s with heap:=s.heap.push { cls:=.type "range", data:=.fields #[.int lo t,.int hi u,.int 1 v] },toks:=tk }:=by
 refine wpAny_pyIter_range (IsRange.new ..) (small_one h1 h2 h3 h4) ?_
 have I1:Inv X pins σ H { s with heap:=s.heap.push { cls:=.type "range", data:=.fields #[.int lo t,.int hi u,.int 1 v] },toks:=tk }:=I.kept fun b o e=>Heap.get?_push_of_some _ e
 refine ⟨(s.heap.push { cls:=.type "range", data:=.fields #[.int lo t,.int hi u,.int 1 v] }).objs.size,[(s.heap.push { cls:=.type "range", data:=.fields #[.int lo t,.int hi u,.int 1 v] }).objs.size],_,_,H,rfl,
  I1.kept (t':=tk) fun b o e=>Heap.get?_push_of_some _ e,uN _ lo (hi - lo).toNat,?_,fun b hb=>?_,q⟩
 ·have e1:lo+((0:Nat):Int)*1=lo:=by simp
  have e2:(((hi - lo).toNat:Nat):Int) - ((0:Nat):Int)=Builtin.Range.rangeSize lo hi 1:=by rw [rangeSize_one];split <;> omega
  show IsRangeIter _ _ (lo+((0:Nat):Int)*1) ((((hi - lo).toNat:Nat):Int) - ((0:Nat):Int)) 1
  rw [e1,e2]
  exact Heap.get?_push_size _ rfl
 ·have e:b=(s.heap.push { cls:=.type "range", data:=.fields #[.int lo t,.int hi u,.int 1 v] }).objs.size:=by simpa using hb
  subst e
  exact I1.fpOk (Nat.le_refl _) (I1.hok.fresh (Nat.le_refl _))
def JV (ta:TA):TI:=fun σ H R=>ta σ H fun vs H1 => ∃j:Int,vs=[.int j] /\ -(2 ^ 62)<=j/\j < 2 ^ 62/\R (A8 0 j.toNat) H1
def JU (ta:TA):TI:=fun σ H R=>ta σ H fun vs H1 => ∃i j:Int,vs=[.int i,.int j]/\(-(2 ^ 62)<=i/\i < 2 ^ 62 /\ -(2 ^ 62)<=j/\j < 2 ^ 62)/\R (A8 i (j - i).toNat) H1
theorem wF {a:Expr} {ta:TA} {p pos:Pos} (hg:Gl X "range") (hm:X.mg "range" = none) (ha:PA X [a] ta) (hs:starEach [a] X.env=[(false,eval a X.env)]:=by rfl):PI X tg (.Call (.Name "range" p) [a] [] pos) (JV ta):=by
 intro pins s σ H R I h
 refine Call_ (dl I hg hm boot_range (PyProof.Rows.callWith_type1 (aR (ha pos pins s σ H _ I h) fun us s1 ⟨vs,H1,I1,r1,q1⟩=>?_) hs rfl))
 obtain ⟨j,e,q1,q2,q⟩:=q1
 subst e
 cases r1 with
 | cons r rr =>
  cases rr
  obtain ⟨t,rfl⟩:=r
  exact call_range_1 (qJ I1 (by omega) (by omega) q1 q2 (by simpa using q))
theorem wE {a b:Expr} {ta:TA} {p pos:Pos} (hg:Gl X "range") (hm:X.mg "range" = none) (ha:PA X [a,b] ta) (hs:starEach [a,b] X.env=[(false,eval a X.env),(false,eval b X.env)]:=by rfl) (hs2:starEach [b] X.env=[(false,eval b X.env)]:=by rfl) :
  PI X tg (.Call (.Name "range" p) [a,b] [] pos) (JU ta):=by
 intro pins s σ H R I h
 refine Call_ (dl I hg hm boot_range (PyProof.Rows.callWith_type1 (aR (ha pos pins s σ H _ I h) fun us s1 ⟨vs,H1,I1,r1,q1⟩=>?_) (by rw [hs,hs2]) (by rw [hs2];rfl)))
 obtain ⟨i,j,e,⟨q1,q2,q3,q4⟩,q⟩:=q1
 subst e
 cases r1 with
 | cons r rr =>
  cases rr with
  | cons r' rr =>
   cases rr
   obtain ⟨t,rfl⟩:=r
   obtain ⟨t',rfl⟩:=r'
   exact call_range_2 (qJ I1 q1 q2 q3 q4 q)
def KZ (wi:TI) (g:TG) (tb:TS):TS:=fun D σ H=>wi σ H fun J H1 => ∃W:Nat->Nat->St->Hp->Prop,(∃m,W 0 m σ H1)/\∀i m σ H,W i m σ H ->
 (J.stop i H/\D.nx σ H)\/(J.go i H/\∃N:St->Hp->Prop,(∀σ' H',N σ' H'->∃m',m' < m/\W (i+1) m' σ' H')/\∀x H',J.yld i H x H'->g x σ H' fun σ2 H2=>tb { D with nx:=N,ct:=N,bk:=D.nx } σ2 H2)
def jV (fp:List Addr) (h:Heap):List (Addr×Obj):=fp.filterMap fun b=>(h.get? b).map fun o=>(b,o)
theorem gF {fp:List Addr} {h:Heap} {b:Addr} {o:Obj} (hb:b∈fp) (e:h.get? b=some o):(b,o)∈jV fp h:=List.mem_filterMap.mpr ⟨b,hb,by rw [e];rfl⟩
theorem wM {fp:List Addr} {h:Heap} {p:Addr×Obj} (hp:p∈jV fp h):p.1∈fp/\h.get? p.1=some p.2:=by
 obtain ⟨b,hb,e⟩:=List.mem_filterMap.mp hp
 cases q:h.get? b with
 | none=>rw [q] at e;cases e
 | some o =>
  rw [q] at e
  have e':(b,o)=p:=Option.some.inj e
  subst e'
  exact ⟨hb,q⟩
theorem Inv.pinned {pins:List (Addr×Obj)} {σ:St} {H:Hp} {s:Shared} {fp:List Addr} (I:Inv X pins σ H s) (hf:∀b∈fp,fQ X pins H b) (ho:∀b∈fp,∃o,s.heap.get? b=some o/\∀v,o.data ≠ .cell v):Inv X (pins++jV fp s.heap) σ H s :=
 I.pins_of fun p hp=>(List.mem_append.mp hp).elim (fun z=>I.pin p (List.mem_append_right _ z)) fun z=>by
  obtain ⟨hb,e⟩:=wM z
  obtain ⟨f0,f1,f2,_⟩:=hf p.1 hb
  obtain ⟨o,e',d⟩:=ho p.1 hb
  rw [e] at e';cases e'
  exact ⟨e,f0,f1,f2,d⟩
theorem Inv.unpinned {pins pl:List (Addr×Obj)} {σ:St} {H:Hp} {s:Shared} (I:Inv X (pins++pl) σ H s):Inv X pins σ H s:=I.pins_of fun p hp=>I.pin p (List.mem_append_right _ (List.mem_append_left _ hp))
theorem qL {iter:Expr} {body:List Stmt} {wi:TI} {g:TG} {tb:TS} {pos:Pos} (hp:PassesOwn (model X.prog X.w) X.A X.env X.xe) (hc:X.calm=true) (hi:PI X tg iter wi) (hg:PG X tg g) (hb:fO X body tb)
  (hs:∀x,foldedSetIterable iter X.env x=pure x:=by intro _;rfl):PS X (.For tg iter body [] pos) (KZ wi g tb):=by
 intro pins s σ H D I h
 refine wpAny_For (aR (hi pins s σ H _ I h) fun v s1 h1=>aR h1 fun itv s2 h2=>?_) hs
 obtain ⟨it,fp,tn,J,H2,e,I2,T,st2,f2,W,⟨m0,w0⟩,turn⟩:=h2
 subst e
 have stat:∀{H':Hp},(∀b∈fp,H' b=none)->∀b∈fp,fQ X pins H' b:=fun hn b hb=>⟨hn b hb,(f2 b hb).2⟩
 refine codeAny_forLoop_any (fun n s' => ∃i σ' H',Inv X pins σ' H' s'/\tn i s'.heap/\(∀b∈fp,H' b=none)/\W i n σ' H') ?_ m0 ⟨0,σ,H2,I2,st2,fun b hb=>(f2 b hb).1,w0⟩
 rintro n s3 ⟨i,σ3,H3,I3,st3,fr3,w3⟩
 rcases turn i n σ3 H3 w3 with ⟨stop,qn⟩ | ⟨go,N,hN,step⟩
 ·refine wpAny_passesOwn hp (aR (T.done X rfl rfl rfl hc i pins s3 σ3 H3 X.xe I3 (stat fr3) st3 stop) fun r s4 ⟨hr,I4⟩=>?_)
  subst hr
  exact wpAny_execs_nil ⟨σ3,H3,I4,qn⟩
 ·refine wpAny_passesOwn hp (aR (T.item X rfl rfl rfl hc i pins s3 σ3 H3 X.xe I3 (stat fr3) st3 go) fun r s4 ⟨u,hr,h4⟩=>?_)
  subst hr
  refine wpAny_passesOwn hp (aR h4 fun _ s5 ⟨x,H5,I5,r5,y5,st5,fr5⟩=>?_)
  have I5':=I5.pinned (stat fr5) (T.obj _ _ st5)
  refine wpAny_passesOwn hp (aR (hg _ s5 σ3 H5 x u _ I5' r5 (step x H5 y5)) fun _ s6 ⟨σ6,H6,I6,q6⟩=>?_)
  refine wpAny_passesOwn hp (aR (hb _ s6 σ6 H6 _ I6 q6) fun f s7 q7=>?_)
  have again:∀{σ7:St} {H7:Hp},Inv X (pins++jV fp s5.heap) σ7 H7 s7->N σ7 H7->∃m,m < n/\∃i σ' H',Inv X pins σ' H' s7/\tn i s7.heap/\(∀b∈fp,H' b=none)/\W i m σ' H':=fun {σ7 H7} I7 n7=>by
   obtain ⟨m',hm,w7⟩:=hN σ7 H7 n7
   refine ⟨m',hm,i+1,σ7,H7,I7.unpinned,T.keep _ _ _ st5 fun b hb o e=>(I7.pin (b,o) (List.mem_append_right _ (List.mem_append_right _ (gF hb e)))).1,fun b hb=>?_,w7⟩
   obtain ⟨o,e,d⟩:=T.obj _ _ st5 b hb
   exact (I7.pin (b,o) (List.mem_append_right _ (List.mem_append_right _ (gF hb e)))).2.1
  cases f with
  | next=>obtain ⟨σ7,H7,I7,n7⟩:=q7;exact again I7 n7
  | cont=>obtain ⟨σ7,H7,I7,n7⟩:=q7;exact again I7 n7
  | brk=>obtain ⟨σ7,H7,I7,q7⟩:=q7;exact ⟨σ7,H7,I7.unpinned,q7⟩
  | ret v=>obtain ⟨x7,σ7,H7,I7,r7,q7⟩:=q7;exact ⟨x7,σ7,H7,I7.unpinned,r7,q7⟩
end
end L2
namespace L2
open PySem PySem.Spec PyProof.Rows
abbrev R2:=V->V->Hp->VK->Prop
def cV (X:Cx) (f:Value->Value->Sem Value) (r:R2):Prop :=
 ∀(pins:List (Addr×Obj)) (s:Shared) (σ:St) (H:Hp) (x y:V) (v u:Value) (Q:VK),Inv X pins σ H s->aT x v->aT y u->r x y H Q ->
  wpAny (model X.prog X.w) X.A (f v u) (EP X pins σ Q) X.xe s
def Ij (X:Cx) (f:Value->Sem Value) (r:V->Hp->VK->Prop):Prop :=
 ∀(pins:List (Addr×Obj)) (s:Shared) (σ:St) (H:Hp) (x:V) (v:Value) (Q:VK),Inv X pins σ H s->aT x v->r x H Q ->
  wpAny (model X.prog X.w) X.A (f v) (EP X pins σ Q) X.xe s
def ek (X:Cx) (f:Value) (r:List V->Hp->VK->Prop):Prop :=
 ∀(pins:List (Addr×Obj)) (s:Shared) (σ:St) (H:Hp) (xs:List V) (us:List Value) (Q:VK),Inv X pins σ H s->aK xs us->r xs H Q ->
  wpAny (model X.prog X.w) X.A (call f us) (EP X pins σ Q) X.xe s
def KB (r:R2) (ta tb:TE):TE:=fun σ H Q=>ta σ H fun x H1=>tb σ H1 fun y H2=>r x y H2 Q
def Rm (r:V->Hp->VK->Prop) (ta:TE):TE:=fun σ H Q=>ta σ H fun x H1=>r x H1 Q
def rI (C:Int->Int->Prop) (g:Int->Int->V):R2:=fun x y H Q => ∃i j,x=.int i/\y=.int j/\C i j/\Q (g i j) H
def iq (g:Int->Int->V):R2:=fun x y H Q => ∃i j,x=.int i/\y=.int j/\Q (g i j) H
def rU (g:Int->V):V->Hp->VK->Prop:=fun x H Q => ∃i,x=.int i/\Q (g i) H
section
variable {X:Cx} {a b c:Expr} {ta tb tc:TE} {pos:Pos}
theorem HM (ha:PE X a ta) (hb:PE X b tb) {pins:List (Addr×Obj)} {s:Shared} {σ:St} {H:Hp} {R:V->V->Hp->Prop} (I:Inv X pins σ H s)
  (h:ta σ H fun x H1=>tb σ H1 fun y H2=>R x y H2) {Q:Value->Shared->Prop} {f:Value->Value->Sem Value}
  (hf:∀v u s2 x y H2,Inv X pins σ H2 s2->aT x v->aT y u->R x y H2->wpAny (model X.prog X.w) X.A (f v u) Q X.xe s2) :
  wpAny (model X.prog X.w) X.A (eval a X.env) (fun v s₁=>wpAny (model X.prog X.w) X.A (eval b X.env) (fun u s₂=>wpAny (model X.prog X.w) X.A (f v u) Q X.xe s₂) X.xe s₁) X.xe s:=by
 refine aR (ha pins s σ H _ I h) fun v s1 ⟨x,H1,I1,r1,q1⟩=>?_
 refine aR (hb pins s1 σ H1 _ I1 q1) fun u s2 ⟨y,H2,I2,r2,q2⟩=>?_
 exact hf v u s2 x y H2 I2 r1 r2 q2
theorem AB {op:Operator} {r:R2} (ho:cV X (binaryOp op) r) (ha:PE X a ta) (hb:PE X b tb):PE X (.BinOp a op b pos) (KB r ta tb):=by
 intro pins s σ H Q I h
 exact wpAny_BinOp (HM ha hb I h fun v u s2 x y H2 I2 rx ry q=>ho pins s2 σ H2 x y v u Q I2 rx ry q)
theorem Ji {op:UnaryOp} {r:V->Hp->VK->Prop} (ho:Ij X (unaryOp op) r) (ha:PE X a ta):PE X (.UnaryOp op a pos) (Rm r ta):=by
 intro pins s σ H Q I h
 exact UnaryOp_ (aR (ha pins s σ H _ I h) fun v s1 ⟨x,H1,I1,r1,q1⟩=>ho pins s1 σ H1 x v Q I1 r1 q1)
theorem qT {f:Value->Value->Sem Value} {C:Int->Int->Prop} {g:Int->Int->Int}
  (rule:∀(i j:Int) (t u:Tok) (s:Shared) (Q:Value->Shared->Prop) (E:Value->Shared->Prop),C i j->Q (.int (g i j) s.toks) { s with toks:=s.toks+1 }->wpAny (model X.prog X.w) X.A (f (.int i t) (.int j u)) Q E s) :
  cV X f (rI C fun i j=>.int (g i j)):=by
 intro pins s σ H x y v u Q I rx ry h
 obtain ⟨i,j,rfl,rfl,hc,q⟩:=h
 obtain ⟨t,rfl⟩:=rx
 obtain ⟨t',rfl⟩:=ry
 exact rule i j t t' s _ _ hc ⟨.int (g i j),H,I.tok _,⟨_,rfl⟩,q⟩
theorem nZ {f:Value->Value->Sem Value} {g:Int->Int->Int}
  (rule:∀(i j:Int) (t u:Tok) (s:Shared) (Q:Value->Shared->Prop) (E:Value->Shared->Prop),Q (.int (g i j) s.toks) { s with toks:=s.toks+1 }->wpAny (model X.prog X.w) X.A (f (.int i t) (.int j u)) Q E s) :
  cV X f (iq fun i j=>.int (g i j)):=by
 intro pins s σ H x y v u Q I rx ry h
 obtain ⟨i,j,rfl,rfl,q⟩:=h
 obtain ⟨t,rfl⟩:=rx
 obtain ⟨t',rfl⟩:=ry
 exact rule i j t t' s _ _ ⟨.int (g i j),H,I.tok _,⟨_,rfl⟩,q⟩
theorem vk {f:Value->Value->Sem Value} {g:Int->Int->Bool}
  (rule:∀(i j:Int) (t u:Tok) (s:Shared) (Q:Value->Shared->Prop) (E:Value->Shared->Prop),Q (.bool (g i j)) s->wpAny (model X.prog X.w) X.A (f (.int i t) (.int j u)) Q E s) :
  cV X f (iq fun i j=>.bl (g i j)):=by
 intro pins s σ H x y v u Q I rx ry h
 obtain ⟨i,j,rfl,rfl,q⟩:=h
 obtain ⟨t,rfl⟩:=rx
 obtain ⟨t',rfl⟩:=ry
 exact rule i j t t' s _ _ ⟨.bl (g i j),H,I,rfl,q⟩
def Ri (i j:Int):Prop:=0<=j/\j<=1000000/\i.natAbs < 2 ^ 64
theorem uL (k:Nat):(0:Int)<=2 ^ k:=by
 rw [two_pow_cast]
 exact Int.natCast_nonneg _
theorem Fq:cV X (binaryOp .Add) (iq fun i j=>.int (i+j)):=nZ fun _ _ _ _ _ _ _ q=>add_int q
theorem Fj:cV X (binaryOp .Sub) (iq fun i j=>.int (i - j)):=nZ fun _ _ _ _ _ _ _ q=>sub_int q
theorem CD:cV X (binaryOp .Mod) (rI (fun _ j=>j≠0) fun i j=>.int (i.fmod j)):=qT fun _ _ _ _ _ _ _ hc q=>mod_int' hc q
theorem Fm:cV X (binaryOp .Pow) (rI Ri fun i j=>.int (i ^ j.toNat)):=qT fun _ _ _ _ _ _ _ hc q=>pow_int_small hc.1 hc.2.1 hc.2.2 q
theorem Fk:cV X (binaryOp .RShift) (rI (fun _ j=>0<=j) fun i j=>.int (i / 2 ^ j.toNat)):=qT fun i j _ _ _ _ _ hc q =>
 rshift_int hc (by rw [Int.fdiv_eq_ediv_of_nonneg i (uL _)];exact q)
theorem Fp:cV X (binaryOp .BitAnd) (iq fun i j=>.int (Builtin.bitAnd i j)):=nZ fun _ _ _ _ _ _ _ q=>and_int q
theorem Fi:cV X (binaryOp .BitXor) (iq fun i j=>.int (Builtin.bitXor i j)):=nZ fun _ _ _ _ _ _ _ q=>xor_int q
theorem C2:cV X (inplaceOp .Add) (iq fun i j=>.int (i+j)):=nZ fun _ _ _ _ _ _ _ q=>iadd_int q
theorem CZ:cV X (inplaceOp .Sub) (iq fun i j=>.int (i - j)):=nZ fun _ _ _ _ _ _ _ q=>isub_int q
theorem Rj {f:Value->Sem Value} {g:Int->Int}
  (rule:∀(i:Int) (t:Tok) (s:Shared) (Q:Value->Shared->Prop) (E:Value->Shared->Prop),Q (.int (g i) s.toks) { s with toks:=s.toks+1 }->wpAny (model X.prog X.w) X.A (f (.int i t)) Q E s) :
  Ij X f (rU fun i=>.int (g i)):=by
 intro pins s σ H x v Q I rx h
 obtain ⟨i,rfl,q⟩:=h
 obtain ⟨t,rfl⟩:=rx
 exact rule i t s _ _ ⟨.int (g i),H,I.tok _,⟨_,rfl⟩,q⟩
theorem DU:Ij X (unaryOp .USub) (rU fun i=>.int (-i)):=Rj fun _ _ _ _ _ q=>neg_int q
end
section
variable {X:Cx} {a b c:Expr} {ta tb tc:TE} {pos:Pos}
theorem xr {pins:List (Addr×Obj)} {σ:St} {H:Hp} {s:Shared} {Q:VK} {k k':Bool} (I:Inv X pins σ H s) (q:Q (.bl k) H) (e:k=k'):EP X pins σ Q (.bool k') s:=by
 subst e
 exact ⟨.bl k,H,I,rfl,q⟩
theorem Jl:cV X (compareOp .Lt) (iq fun i j=>.bl (decide (i < j))):=vk fun _ _ _ _ _ _ _ q=>lt_int q
theorem Jm:cV X (compareOp .LtE) (iq fun i j=>.bl (decide (i<=j))):=vk fun _ _ _ _ _ _ _ q=>le_int q
theorem Jn:cV X (compareOp .Gt) (iq fun i j=>.bl (decide (j < i))):=vk fun _ _ _ _ _ _ _ q=>gt_int q
theorem Jo:cV X (compareOp .GtE) (iq fun i j=>.bl (decide (j<=i))):=vk fun _ _ _ _ _ _ _ q=>ge_int q
theorem Fo:cV X (compareOp .Is) (fun x y H Q=>y=.non/\Q (.bl (decide (x=.non))) H):=by
 intro pins s σ H x y v u Q I rx ry h
 obtain ⟨rfl,q⟩:=h
 cases ry
 refine is_none_gen (xr I q ?_)
 cases x <;> first
  | (cases rx;rfl)
  | (obtain ⟨t,rfl⟩:=rx;rfl)
theorem CB:cV X (compareOp .IsNot) (fun x y H Q=>y=.non/\Q (.bl (!decide (x=.non))) H):=by
 intro pins s σ H x y v u Q I rx ry h
 obtain ⟨rfl,q⟩:=h
 cases ry
 refine isnot_none_gen (xr I q ?_)
 cases x <;> first
  | (cases rx;rfl)
  | (obtain ⟨t,rfl⟩:=rx;rfl)
def IC (t:TE):TT:=fun σ H Q=>t σ H fun x H' => ∃k,x=.bl k/\Q k H'
def wv (r r':R2) (ta tb tc:TE):TE:=fun σ H Q=>ta σ H fun x H1=>tb σ H1 fun y H2=>r x y H2 fun z H3 => ∃k,z=.bl k /\
 (if k=true then tc σ H3 fun w' H4=>r' y w' H4 Q else Q (.bl false) H3)
theorem yJ {op op':CmpOp} {r r':R2} (ho:cV X (compareOp op) r) (ho':cV X (compareOp op') r') (ha:PE X a ta) (hb:PE X b tb) (hc:PE X c tc)
  (hm:lastMarks [op,op'] [b,c]=false:=by with_unfolding_all rfl):PE X (.Compare a [op,op'] [b,c] pos) (wv r r' ta tb tc):=by
 intro pins s σ H Q I h
 refine Compare_chain (aR (ha pins s σ H _ I h) fun v s1 ⟨x,H1,I1,r1,q1⟩=>chain_link (aR (hb pins s1 σ H1 _ I1 q1) fun u s2 ⟨y,H2,I2,r2,q2⟩ =>
  aR (ho pins s2 σ H2 x y v u _ I2 r1 r2 q2) fun d s3 ⟨z,H3,I3,r3,k,e,q3⟩=>?_)) hm
 subst e
 cases r3
 refine wpAny_truthy_bool ?_
 cases k with
 | false=>exact ite_ff ⟨.bl false,H3,I3,rfl,q3⟩
 | true=>exact ite_tt (chain_last (aR (hc pins s3 σ H3 _ I3 q3) fun w' s4 ⟨z',H4,I4,r4,q4⟩=>ho' pins s4 σ H4 y z' u w' Q I4 r2 r4 q4))
theorem yD {op op':CmpOp} {r r':R2} (ho:cV X (compareOp op) r) (ho':cV X (compareOp op') r') (ha:PE X a ta) (hb:PE X b tb) (hc:PE X c tc)
  (hm:lastMarks [op,op'] [b,c]=false:=by with_unfolding_all rfl):PT X (.Compare a [op,op'] [b,c] pos) (IC (wv r r' ta tb tc)):=by
 intro pins s σ H Q I h
 refine isTrue_chain (aR (ha pins s σ H _ I h) fun v s1 ⟨x,H1,I1,r1,q1⟩=>test_link (aR (hb pins s1 σ H1 _ I1 q1) fun u s2 ⟨y,H2,I2,r2,q2⟩ =>
  aR (ho pins s2 σ H2 x y v u _ I2 r1 r2 q2) fun d s3 ⟨z,H3,I3,r3,k,e,q3⟩=>?_)) hm
 subst e
 cases r3
 refine wpAny_truthy_bool ?_
 cases k with
 | false =>
  obtain ⟨k',e',q'⟩:=q3
  cases e'
  exact ite_ff ⟨H3,I3,q'⟩
 | true =>
  refine ite_tt (test_last (aR (hc pins s3 σ H3 _ I3 q3) fun w' s4 ⟨z',H4,I4,r4,q4⟩=>aR (ho' pins s4 σ H4 y z' u w' _ I4 r2 r4 q4) fun d' s5 ⟨z2,H5,I5,r5,k2,e2,q5⟩=>?_))
  subst e2
  cases r5
  exact wpAny_truthy_bool ⟨H5,I5,q5⟩
theorem mF:(sizeLine:Nat) < 2 ^ 63:=by rw [sizeLine_eq];decide
theorem eJ {x:V} {us:List Value} (r:aK [x] us):∃u,us=[u]/\aT x u:=by
 cases r with
 | cons r1 r2=>cases r2;exact ⟨_,rfl,r1⟩
theorem me {x y:V} {us:List Value} (r:aK [x,y] us):∃u w',us=[u,w']/\aT x u/\aT y w':=by
 cases r with
 | cons r1 r2 =>
  cases r2 with
  | cons r3 r4=>cases r4;exact ⟨_,_,rfl,r1,r3⟩
theorem zE:ek X (.builtin "abs") (fun xs H Q => ∃i,xs=[.int i]/\Q (.int (if i < 0 then -i else i)) H):=by
 intro pins s σ H xs us Q I r h
 obtain ⟨i,rfl,q⟩:=h
 obtain ⟨u,rfl,t,rfl⟩:=eJ r
 exact call_abs_int fun u tk=>⟨.int (if i < 0 then -i else i),H,I.tok _,⟨_,rfl⟩,q⟩
end
end L2
namespace L2
open PySem PySem.Spec PyProof.Rows
structure lZ (h:Heap) (x dx C:Addr) (mA:Str->Option Value):Prop where
 obj:h.get? x=some (W.instObj C dx)
 ns:h.Ns1 dx mA
 ne:dx≠x
theorem wV {h:Heap} {dx:Addr} {mA:Str->Option Value} (n:h.Ns1 dx mA):∃od,h.get? dx=some od/\∀name,W.lookIn name od=some (mA name):=by
 obtain ⟨o,es,ep,ho,hd,hk,_,hm⟩:=n
 refine ⟨o,ho,fun name=>?_⟩
 have e:=hm name
 unfold nsFind findBy at e
 rw [<- Array.find?_toList] at e
 unfold W.lookIn
 rw [hd]
 dsimp only
 split
 ·rename_i y q
  rw [q] at e
  exact congrArg some e
 ·rename_i q
  rw [q] at e
  have a:es.toList.any (·.refKey)=false:=by
   rw [List.any_eq_false]
   intro y hy
   obtain ⟨z,t,hkey⟩:=hk y (Array.mem_toList_iff.mp hy)
   simp [DictEntry.refKey,hkey]
  have a':¬ es.toList.any (·.refKey)=true:=by rw [a];exact Bool.false_ne_true
  rw [if_neg a']
  exact congrArg some e
theorem lZ.look {h:Heap} {x dx C:Addr} {mA:Str->Option Value} (I:lZ h x dx C mA):∃od,W.InstAt h x (W.instObj C dx) C (some od)/\∀name,W.lookIn name od=some (mA name) :=
 let ⟨od,ho,hl⟩:=wV I.ns
 ⟨od,⟨I.obj,rfl,rfl,ho⟩,hl⟩
section
variable {prog:Program} {w:World} {A:Around} {E:Value->Shared->Prop} {s:Shared} {K:W.Frag} {x dx C f:Addr} {mA:Str->Option Value} {name:Str} {v:Value}
theorem C9 {expr:Bool} {Q:Value->Shared->Prop} (X:K.In s.heap) (I:lZ s.heap x dx C mA) (hg:W.plainGet K C name=true) (hh:W.hasDictIn K C=true)
  (ha:W.findIn K (.ref C) name=some none) (hv:mA name=some v) (hv':W.handedIn v=true) (h:Q v { s with toks:=s.toks+1 }) :
  wpAny (model prog w) A (getAttr (.ref x) name expr) Q E s:=by
 obtain ⟨od,J,hl⟩:=I.look
 exact W.get_value X J (W.plainGet_of hg).1 (W.findObj_own hh ha rfl (by rw [hl,hv])) hv' h
theorem zh {pl:Sem Bool} {Q:Value×List Value->Shared->Prop} (X:K.In s.heap) (I:lZ s.heap x dx C mA) (hg:W.plainGet K C name=true)
  (hf:W.findIn K (.ref C) name=some (some (.ref f))) (ht:W.isFn K (.ref f)=true) (hv:mA name=none) (h:Q (.ref f,[.ref x]) s) :
  wpAny (model prog w) A (getMethod (.ref x) name pl) Q E s:=by
 obtain ⟨od,J,hl⟩:=I.look
 exact W.method_fn X J (W.plainGet_of hg).1 (W.plainGet_of hg).2 hf (beq_iff_eq.mp ht) (by show (W.lookIn name od).map (·.isSome)=some false;rw [hl,hv];rfl) h
theorem BX {ns:List Str} {Q:Unit->Shared->Prop} (X:K.In s.heap) (I:lZ s.heap x dx C mA)
  (hs:W.findIn K (.ref C) "__setattr__" = some (some (.builtin "object.__setattr__"))) (hp:W.plainOver K C=true) (ht:W.takerIn K C name=some none) (hh:W.hasDictIn K C=true)
  (hw:PySem.Within mA ns) (hsz:ns.length<=sizeLine)
  (h:∀h',lZ h' x dx C (fun y=>if y=name then some v else mA y)->Heap.SameBut dx s.heap h'->Q () { s with heap:=h',toks:=s.toks+2 }) :
  wpAny (model prog w) A (setAttr (.ref x) name v) Q E s:=by
 obtain ⟨od,J,hl⟩:=I.look
 refine W.set_plain X J hs (W.osa_open (s:={ s with toks:=s.toks+1 }) (r:=none) X J hp ht fun b=>?_)
 obtain ⟨cd,hc,hd'⟩:=W.any_some hh
 have hx:s.heap.get? x=some ⟨.ref C,some dx,.plain,#[]⟩:=I.obj
 refine wpAny_bind (wpAny_pure (wpAny_bind (wpAny_bind (wpAny_loadPart hx (wpAny_bind (W.Looks.here (s:={ s with toks:=s.toks+1 }) (W.looks_clsIn X hc) ?_))))))
 rw [hd']
 refine wpAny_pure (a:=some dx) (wpAny_bind (wpAny_pure (wpAny_bind ?_)))
 refine wpAny_nsSet1 (s:={ s with toks:=s.toks+1 }) I.ns fun h' hn2 hs2=>?_
 obtain ⟨oD,esD,epD,hoD,hdD,hcD⟩:=hn2.count (PySem.Within.cons name v hw)
 refine wpAny_bind (wpAny_lookBehind hoD (by rw [hdD];exact pastItsLine_dict (Nat.le_trans hcD (by rw [List.length_cons];omega))) ?_)
 exact wpAny_pure (h _ ⟨(hs2.2 _ (Ne.symm I.ne)).trans I.obj,hn2,I.ne⟩ hs2)
theorem yP {R:Result->Shared->Prop} {vs:List Value} {kw:List (Str×Value)} (X:K.In s.heap) (hm:W.makesIn K C=true)
  (hi:W.findIn K (.ref C) "__init__" = some (some (.ref f))) (hf:W.typeIn K (.ref f)=some (.type "function"))
  (h:codeAny (model prog w) (A.under (.builtin "type.__call__" ⟨.ref C::vs,kw⟩)) (.call (.ref f) ⟨.ref (s.heap.objs.size+1)::vs,kw⟩) (W.InitBack (s.heap.objs.size+1) R)
   { s with heap:=(s.heap.push W.emptyDict).push (W.instObj C s.heap.objs.size) }) :
  codeAny (model prog w) A (.call (.ref C) ⟨vs,kw⟩) R s:=by
 obtain ⟨hh,g,d,t,os⟩:=s
 exact W.make_core (W.makes_of X hm) (W.looks_findIn X hi) (fun self=>W.bind_fn X self hf) (.inl rfl) h
end
def dC (f:Str) (v:V):List (Str×V)->List (Str×V)
 | []=>[(f,v)]
 | (g,x)::r=>if g=f then (g,v)::r else (g,x)::dC f v r
theorem lw (f g:Str) (v:V):∀fs:List (Str×V),(dC f v fs).lookup g=if g=f then some v else fs.lookup g
 | []=>by
  show List.lookup g [(f,v)]=_
  by_cases h:g=f
  ·have hb:(g==f)=true:=beq_iff_eq.mpr h
   simp only [List.lookup,hb,if_pos h]
  ·have hb:(g==f)=false:=beq_eq_false_iff_ne.mpr h
   simp only [List.lookup,hb,if_neg h]
 | (k,x)::r=>by
  have ih:=lw f g v r
  rw [show dC f v ((k,x)::r)=(if k=f then (k,v)::r else (k,x)::dC f v r) from rfl]
  by_cases hk:k=f
  ·rw [if_pos hk]
   by_cases h:g=k
   ·have hb:(g==k)=true:=beq_iff_eq.mpr h
    simp only [List.lookup,hb,if_pos (h.trans hk)]
   ·have hb:(g==k)=false:=beq_eq_false_iff_ne.mpr h
    simp only [List.lookup,hb,if_neg (fun e:g=f=>h (e.trans hk.symm))]
  ·rw [if_neg hk]
   by_cases h:g=k
   ·have hb:(g==k)=true:=beq_iff_eq.mpr h
    simp only [List.lookup,hb,if_neg (fun e:g=f=>hk (h.symm.trans e))]
   ·have hb:(g==k)=false:=beq_eq_false_iff_ne.mpr h
    simp only [List.lookup,hb]
    exact ih
theorem jY (f:Str) (v:V):∀fs:List (Str×V),f∈(dC f v fs).map (·.1)/\∀g,g∈fs.map (·.1)->g∈(dC f v fs).map (·.1)
 | []=>⟨by simp [dC],fun g h=>by simp at h⟩
 | (k,x)::r=>by
  obtain ⟨i1,i2⟩:=jY f v r
  rw [show dC f v ((k,x)::r)=(if k=f then (k,v)::r else (k,x)::dC f v r) from rfl]
  by_cases hk:k=f
  ·rw [if_pos hk]
   subst hk
   exact ⟨by simp,fun g h=>by simpa using h⟩
  ·rw [if_neg hk]
   refine ⟨?_,fun g h=>?_⟩
   ·rw [List.map_cons]
    exact List.mem_cons_of_mem _ i1
   ·rw [List.map_cons] at h ⊢
    rcases List.mem_cons.mp h with e|e
    ·exact List.mem_cons.mpr (.inl e)
    ·exact List.mem_cons_of_mem _ (i2 g e)
theorem gi (f:Str) (v:V):∀fs:List (Str×V),(dC f v fs).length<=fs.length+1
 | []=>by simp [dC]
 | (k,x)::r=>by
  have ih:=gi f v r
  rw [show dC f v ((k,x)::r)=(if k=f then (k,v)::r else (k,x)::dC f v r) from rfl]
  by_cases hk:k=f
  ·rw [if_pos hk,List.length_cons,List.length_cons];omega
  ·rw [if_neg hk,List.length_cons,List.length_cons];omega
theorem f9.some_of {v:V} {o:Option Value} (r:f9 (some v) o):∃u,o=some u/\aT v u:=by
 cases o with
 | none=>exact (show False from r).elim
 | some u=>exact ⟨u,rfl,r⟩
theorem f9.none_of {o:Option Value} (r:f9 none o):o=none:=by
 cases o with
 | none=>rfl
 | some u=>exact (show False from r).elim
theorem xm {v:V} {u:Value} (r:aT v u):W.handedIn u=true:=by
 cases v with
 | non=>cases (show u=Value.none from r);rfl
 | bl b=>cases (show u=Value.bool b from r);rfl
 | int i=>obtain ⟨t,e⟩:=(show ∃t,u=Value.int i t from r);cases e;rfl
 | str x=>obtain ⟨t,e⟩:=(show ∃t,u=Value.str x t from r);cases e;rfl
 | byt b=>obtain ⟨t,e⟩:=(show ∃t,u=Value.bytes b t from r);cases e;rfl
 | flt b=>obtain ⟨t,e⟩:=(show ∃t,u=Value.float b t from r);cases e;rfl
 | ref a=>cases (show u=Value.ref a from r);rfl
 | ty n=>cases (show u=Value.type n from r);rfl
section
variable {P:Program} {w:World} {H H':Hp} {h h':Heap} {a C dx:Addr} {fs fs':List (Str×V)}
theorem kL (hok:dA P w H h) (e:H a=some (.ins C dx fs)):∃mA,lZ h a dx C mA/\(∀f,f9 (fs.lookup f) (mA f))/\PySem.Within mA (fs.map (·.1))/\fs.length<=1000/\H dx=some (.own a):=by
 obtain ⟨d,z,ne,ob,mA,n,r,q⟩:=(show cn P w H h a (.ins C dx fs) from hok a _ e)
 exact ⟨mA,⟨ob,n,ne⟩,r,q,z,d⟩
end
structure eO (K:W.Frag) (C:Addr):Prop where
 pg:W.plainGet K C Str.empty=true
 hd:W.hasDictIn K C=true
 po:W.plainOver K C=true
 sa:W.findIn K (.ref C) "__setattr__" = some (some (.builtin "object.__setattr__"))
theorem eO.get {K:W.Frag} {C:Addr} (c:eO K C) (f:Str):W.plainGet K C f=true:=c.pg
def bE (K:W.Frag) (C:Addr) (f:Str):Prop:=W.findIn K (.ref C) f=some none
theorem bE.taker {K:W.Frag} {C:Addr} {f:Str} (n:bE K C f):W.takerIn K C f=some none:=by
 unfold W.takerIn
 rw [show W.findIn K (.ref C) f=some none from n]
 rfl
structure oS (K:W.Frag) (C:Addr) (m:Str) (f:Addr):Prop where
 at_:W.findIn K (.ref C) m=some (some (.ref f))
 fn:W.isFn K (.ref f)=true
 kp:W.keepIn K (.ref f)=true
section
variable {X:Cx} {pins:List (Addr×Obj)} {σ:St} {H:Hp} {s:Shared} {a C dx:Addr} {fs:List (Str×V)} {f:Str} {v:V} {A:Around} {E:Value->Shared->Prop}
theorem vG {b:Bool} {Q:Value->Shared->Prop} (I:Inv X pins σ H s) (e:H a=some (.ins C dx fs)) (c:eO X.K C) (n:bE X.K C f) (l:fs.lookup f=some v)
  (h:∀u s',Inv X pins σ H s'->aT v u->Q u s'):wpAny (model X.prog X.w) A (getAttr (.ref a) f b) Q E s:=by
 obtain ⟨mA,O,r,_,_,_⟩:=kL I.hok e
 obtain ⟨u,hu,ru⟩:=f9.some_of (v:=v) (o:=mA f) (by rw [<- l];exact r f)
 exact C9 I.kIn O (c.get f) c.hd n hu (xm ru) (h u _ (I.tok _) ru)
theorem mL {m:Str} {g:Addr} {pl:Sem Bool} {Q:Value×List Value->Shared->Prop} (I:Inv X pins σ H s) (e:H a=some (.ins C dx fs)) (c:eO X.K C) (k:oS X.K C m g) (l:fs.lookup m=none)
  (h:Q (.ref g,[.ref a]) s):wpAny (model X.prog X.w) A (getMethod (.ref a) m pl) Q E s:=by
 obtain ⟨mA,O,r,_,_,_⟩:=kL I.hok e
 have hn:mA m=none:=f9.none_of (by rw [<- l];exact r m)
 exact zh I.kIn O (c.get m) k.at_ k.fn hn h
theorem uZ {y:V} {u:Value} {Q:Unit->Shared->Prop} (I:Inv X pins σ H s) (e:H a=some (.ins C dx fs)) (c:eO X.K C) (n:bE X.K C f) (hl:fs.length < 1000) (ry:aT y u)
  (h:∀s',Inv X pins σ (aN H a (.ins C dx (dC f y fs))) s'->Q () s'):wpAny (model X.prog X.w) A (setAttr (.ref a) f u) Q E s:=by
 obtain ⟨mA,O,r,wi,_,ho⟩:=kL I.hok e
 have hz:(fs.map (·.1)).length<=sizeLine:=by rw [List.length_map,sizeLine_eq];omega
 refine BX I.kIn O c.sa c.po n.taker c.hd wi hz fun h' O' sb=>h _ ?_
 have hd:∃o,h'.get? dx=some o:=let ⟨o,_,_,e',_⟩:=O'.ns;⟨o,e'⟩
 refine I.write (x:=a) (e:=dx) (by rw [e];exact True.intro) (.inr ho) (fun b q hb z=>(sb.2 b hb).trans z) hd ?_
 refine ⟨by rw [ay O.ne];exact ho,?_,O.ne,O'.obj,_,O'.ns,fun g=>?_,fun g hg=>?_⟩
 ·have:=gi f y fs;omega
 ·show f9 ((dC f y fs).lookup g) (if g=f then some u else mA g)
  rw [lw]
  by_cases q:g=f
  ·rw [if_pos q,if_pos q];exact ry
  ·rw [if_neg q,if_neg q];exact r g
 ·by_cases q:g=f
  ·rw [q];exact (jY f y fs).1
  ·refine (jY f y fs).2 g (wi g fun z=>hg ?_)
   show (if g=f then some u else mA g)=none
   rw [if_neg q];exact z
theorem Inv.made (I:Inv X pins σ H s):Inv X pins σ (aN (aN H s.heap.objs.size (.own (s.heap.objs.size+1))) (s.heap.objs.size+1) (.ins C s.heap.objs.size []))
  { s with heap:=(s.heap.push W.emptyDict).push (W.instObj C s.heap.objs.size) }:=by
 have e1:(s.heap.push W.emptyDict).get? s.heap.objs.size=some W.emptyDict:=Heap.get?_push_size s.heap rfl
 have e2:((s.heap.push W.emptyDict).push (W.instObj C s.heap.objs.size)).get? (s.heap.objs.size+1)=some (W.instObj C s.heap.objs.size):=by
  have:=Heap.get?_push_size (s.heap.push W.emptyDict) (o:=W.instObj C s.heap.objs.size) rfl
  rwa [Heap.size_push] at this
 have e3:(s.heap.push W.emptyDict).Ns s.heap.objs.size (fun _=>none):=⟨W.emptyDict,#[],_,e1,rfl,(fun e he=>absurd he (by simp)),fun _=>rfl⟩
 have I1:=I.laid (a:=s.heap.objs.size) (o:=.own (s.heap.objs.size+1)) (h':=s.heap.push W.emptyDict) (t':=s.toks) (fun b u q=>Heap.get?_push_of_some _ q) (Nat.le_refl _) ⟨_,e1⟩
 refine I1.laid (a:=s.heap.objs.size+1) (o:=.ins C s.heap.objs.size []) (t':=s.toks) (fun b u q=>Heap.get?_push_of_some _ q) (Nat.le_of_eq (Heap.size_push _ _)) ?_
 have ne:s.heap.objs.size≠s.heap.objs.size+1:=Nat.ne_of_lt (Nat.lt_succ_self _)
 refine ⟨by rw [ay ne,aH],Nat.zero_le _,ne,e2,fun _=>none,(Heap.Ns1.of_empty e3).at fun o q=>Heap.get?_push_of_some _ q,fun _=>True.intro,fun y hy=>absurd rfl hy⟩
theorem DG {prog:Program} {w:World} {env:Env} {e:Expr} {f:Str} {pos:Pos} {s:Shared} {Q:Value->Shared->Prop} (hb:attributeBase e f env (eval e env)=eval e env)
  (h:wpAny (model prog w) A (eval e env) (fun o s₁=>wpAny (model prog w) A (getAttr o f true) Q E s₁) E s):wpAny (model prog w) A (eval (.Attribute e f pos) env) Q E s :=
 Attribute_any_ h (by rw [arm_eval_Attribute,hb])
end
def K0 (K:W.Frag) (ta:TE) (f:Str):TE:=fun σ H Q=>ta σ H fun x H1 => ∃a C dx fs v,x=.ref a/\H1 a=some (.ins C dx fs)/\eO K C/\bE K C f/\fs.lookup f=some v/\Q v H1
def Ml (K:W.Frag) (ta tv:TE) (f:Str):TS:=fun D σ H=>tv σ H fun y H1=>ta σ H1 fun x H2 => ∃a C dx fs,x=.ref a/\H2 a=some (.ins C dx fs)/\eO K C/\bE K C f/\fs.length < 1000 /\
 D.nx σ (aN H2 a (.ins C dx (dC f y fs)))
section
variable {X:Cx} {o e value:Expr} {f:Str} {pos pos' tpos:Pos} {ta tv:TE}
theorem Fb (he:PE X e ta) (hb:attributeBase e f X.env (eval e X.env)=eval e X.env):PE X (.Attribute e f pos) (K0 X.K ta f):=by
 intro pins s σ H Q I h
 refine DG hb (aR (he pins s σ H _ I h) fun u s1 ⟨x,H1,I1,rx,a,C,dx,fs,v,ex,ea,c,n,l,q⟩=>?_)
 subst ex
 obtain rfl:u=Value.ref a:=rx
 exact vG I1 ea c n l fun u' s2 I2 ru=>⟨v,H1,I2,ru,q⟩
theorem qM (ha:PE X o ta) (hv:PE X value tv) (hs:swapsWith value (some (.Attribute o f pos')) pos.line X.env=pure false):PS X (.Assign [.Attribute o f pos'] value pos) (Ml X.K ta tv f):=by
 intro pins s σ H D I h
 refine plainObj_wpAny_Assign_Attribute (aR (hv pins s σ H _ I h) fun u s1 ⟨y,H1,I1,ry,q⟩=>aR (ha pins s1 σ H1 _ I1 q) fun ov s2 ⟨x,H2,I2,rx,a,C,dx,fs,ex,ea,c,n,l,q2⟩=>?_) hs
 subst ex
 obtain rfl:ov=Value.ref a:=rx
 exact uZ I2 ea c n l ry fun s3 I3=>⟨σ,_,I3,q2⟩
end
section
variable {X:Cx} {pins:List (Addr×Obj)} {σ:St} {H:Hp} {s:Shared} {A:Around} {E:Value->Shared->Prop} {Q:Value->Shared->Prop} {c:Value} {b:Bool}
inductive gz (K:W.Frag) (H:Hp):V->Value->Prop where
  | non:gz K H .non (.type "NoneType")
  | bl (x:Bool):gz K H (.bl x) (.type "bool")
  | int (i:Int):gz K H (.int i) (.type "int")
  | str (x:Str):gz K H (.str x) (.type "str")
  | flt (x:UInt64):gz K H (.flt x) (.type "float")
  | lst {a:Addr} {xs:List V} (e:H a=some (.lst xs)):gz K H (.ref a) (.type "list")
  | frz {a:Addr} {o:Obj} {xs:List V} (e:H a=some (.frz o (.lst xs))):gz K H (.ref a) (.type "list")
  | tup {a:Addr} {xs:List V} (e:H a=some (.tup xs)):gz K H (.ref a) (.type "tuple")
  | dK {a:Addr} {kvs:List (dJ×V)} (e:H a=some (.dK kvs)):gz K H (.ref a) (.type "dict")
  | dT {a:Addr} {kvs:List (List dJ×V)} (e:H a=some (.dT kvs)):gz K H (.ref a) (.type "dict")
  | ins {a C dx:Addr} {fs:List (Str×V)} (e:H a=some (.ins C dx fs)) (cl:eO K C) (ha:W.findIn K (.ref C) "__class__" = some (some (.builtin "object.__class__")))
      (hn:W.specialIn K (.builtin "object.__class__") "__get__" = some (some (.builtin "getset_descriptor.__get__"))) (htk:W.takesIn K (.builtin "object.__class__")=some true)
      (hm:W.mroIn K C (.type "object")=some true):gz K H (.ref a) (.ref C)
theorem pj {x:V} {u t:Value} (I:Inv X pins σ H s) (rx:aT x u) (ty:gz X.K H x t) (e:W.kitOne X.K t c=some b) (h:∀tk,Q (.bool b) { s with toks:=tk }) :
  wpAny (model X.prog X.w) A (call (.builtin "isinstance") [u,c]) Q E s:=by
 cases ty with
 | non=>cases (show u=Value.none from rx);exact W.kia_one W.kitx_none I.kIn True.intro e (fun z=>nomatch z) h
 | bl y=>cases (show u=Value.bool y from rx);exact W.kia_one W.kitx_bool I.kIn True.intro e (fun z=>nomatch z) h
 | int i=>obtain ⟨t,q⟩:=(show ∃t,u=Value.int i t from rx);cases q;exact W.kia_one W.kitx_int I.kIn True.intro e (fun z=>nomatch z) h
 | str y=>obtain ⟨t,q⟩:=(show ∃t,u=Value.str y t from rx);cases q;exact W.kia_one W.kitx_str I.kIn True.intro e (fun z=>nomatch z) h
 | flt y=>obtain ⟨t,q⟩:=(show ∃t,u=Value.float y t from rx);cases q;exact W.kia_one W.kitx_float I.kIn True.intro e (fun z=>nomatch z) h
 | @lst a xs ea =>
  cases (show u=Value.ref a from rx)
  obtain ⟨_,_,n,_,h1⟩:=(show cn X.prog X.w H s.heap a (.lst xs) from I.hok a _ ea)
  exact W.kia_one W.kitx_list I.kIn ⟨_,h1,rfl⟩ e (fun z=>nomatch z) h
 | @frz a ob xs ea =>
  cases (show u=Value.ref a from rx)
  obtain ⟨_,_,_,n,_,h1⟩:=(show cn X.prog X.w H s.heap a (.frz ob (.lst xs)) from I.hok a _ ea)
  exact W.kia_one W.kitx_list I.kIn ⟨_,h1,rfl⟩ e (fun z=>nomatch z) h
 | @tup a xs ea =>
  cases (show u=Value.ref a from rx)
  obtain ⟨_,_,_,p⟩:=(show cn X.prog X.w H s.heap a (.tup xs) from I.hok a _ ea)
  obtain ⟨o,h1,h2,_⟩:=p
  exact W.kia_one W.kitx_tuple I.kIn ⟨o,h1,h2⟩ e (fun z=>nomatch z) h
 | @dK a kvs ea =>
  cases (show u=Value.ref a from rx)
  obtain ⟨_,_,vs,_,p⟩:=(show cn X.prog X.w H s.heap a (.dK kvs) from I.hok a _ ea)
  obtain ⟨o,es,ep,h1,h2,_⟩:=p
  exact W.kia_one W.kitx_dict I.kIn ⟨o,h1,h2.1⟩ e (fun z=>nomatch z) h
 | @dT a kvs ea =>
  cases (show u=Value.ref a from rx)
  obtain ⟨_,_,xs,_,o,es,ep,h1,h2,_⟩:=(show cn X.prog X.w H s.heap a (.dT kvs) from I.hok a _ ea)
  exact W.kia_one W.kitx_dict I.kIn ⟨o,h1,h2.1⟩ e (fun z=>nomatch z) h
 | @ins a C dx fs ea cl ha hn htk hm =>
  cases (show u=Value.ref a from rx)
  obtain ⟨mA,O,_⟩:=kL I.hok ea
  obtain ⟨od,J,_⟩:=O.look
  exact W.kia_one (W.kitx_own (cl.get _) cl.hd ha hn htk hm) I.kIn J e (fun z=>nomatch z) h
end
end L2
namespace L2
open PySem PySem.Spec PyProof.Rows
structure ci (k:Nat) (A:Around):Prop where
 hd:A.handled=none
 dp:A.depth+3*k+5 < recursionLimit
 un:A.units+16*k+200 < cLine
theorem ci.mono {j k:Nat} {A:Around} (r:ci k A) (h:j<=k):ci j A:=⟨r.hd,by have:=r.dp;omega,by have:=r.un;omega⟩
theorem ci.deeper {k:Nat} {A:Around} (r:ci (k+1) A) (env:Env):ci k (A.deeper env) :=
 ⟨r.hd,by have:=r.dp;show A.depth+1+3*k+5 < _;omega,by have:=r.un;show A.units+3+16*k+200 < _;omega⟩
theorem ci.in1 {k:Nat} {A:Around} (r:ci (k+1) A):ci k A.in1 :=
 ⟨r.hd,by have:=r.dp;show A.depth+3*k+5 < _;omega,by have:=r.un;show A.units+1+16*k+200 < _;omega⟩
theorem vw {A:Around} {C:Addr} {us:List Value} {kw:List (Str×Value)}:(A.under (.builtin "type.__call__" ⟨.ref C::us,kw⟩)).depth=A.depth+1:=by
 first|rfl|simp [Around.under,Code.weight,Code.isCreation,Code.isGuard,Code.isCaller,Code.frames,Code.isFrame,guardIds]
theorem vt {A:Around} {C:Addr} {us:List Value} {kw:List (Str×Value)}:(A.under (.builtin "type.__call__" ⟨.ref C::us,kw⟩)).units=A.units+1:=by
 first|rfl|simp [Around.under,Code.cUnits,Code.frames,Code.isFrame]
theorem ci.make {k:Nat} {A:Around} (r:ci (k+1) A) (C:Addr) (us:List Value) (kw:List (Str×Value)):ci k (A.under (.builtin "type.__call__" ⟨.ref C::us,kw⟩)) :=
 ⟨r.hd,by have:=r.dp;rw [vw];omega,by have:=r.un;rw [vt];omega⟩
theorem ci.depth {k:Nat} {A:Around} (r:ci k A):A.depth < recursionLimit:=by have:=r.dp;omega
theorem ci.units {k:Nat} {A:Around} (r:ci k A):A.units+64 < cLine:=by have:=r.un;omega
def uR:TA:=fun _ H Q=>Q [] H
def IJ (ta:TE) (tr:TA):TA:=fun σ H Q=>ta σ H fun x H1=>tr σ H1 fun xs H2=>Q (x::xs) H2
section
variable {X:Cx} {e:Expr} {es:List Expr} {te:TE} {t:TA} {pos:Pos}
theorem Ff:PA X [] uR:=fun _ _ _ _ H Q I h=>Calls.spliced_nil ⟨[],H,I,.nil,h⟩
theorem nY (ha:PE X e te) (hr:PA X es t) (hs:starEach (e::es) X.env=(false,eval e X.env)::starEach es X.env:=by rfl):PA X (e::es) (IJ te t):=by
 intro pos pins s σ H Q I h
 rw [hs]
 show wpAny _ _ (spliced ((false,eval e X.env)::backTo pos (starEach es X.env))) _ _ s
 refine Calls.spliced_cons (aR (ha pins s σ H _ I h) fun u s1 ⟨x,H1,I1,r1,q1⟩=>?_)
 exact aR (hr pos pins s1 σ H1 _ I1 q1) fun us s2 ⟨xs,H2,I2,r2,q2⟩=>⟨x::xs,H2,I2,.cons r1 r2,q2⟩
def KP (t:TA):TE:=fun σ H Q=>t σ H fun xs H1=>xs.length<=sizeLine/\∀p,H1 p=none->Q (.ref p) (aN H1 p (.tup xs))
def KW (t:TA):TE:=fun σ H Q=>t σ H fun xs H1=>xs.length<=sizeLine/\∀p,H1 p=none->Q (.ref p) (aN H1 p (.lst xs))
theorem EV {x1} (h:PA X es t):PE X (.Tuple es x1 pos) (KP t):=by
 intro pins s σ H Q I hq
 refine wpAny_Tuple_spliced (aR (h pos pins s σ H _ I hq) fun us s1 ⟨xs,H1,I1,r,z,q⟩=>⟨by rw [<- r.length];exact z,?_⟩)
 have hf:H1 s1.heap.objs.size=none:=I1.hok.fresh (Nat.le_refl _)
 refine ⟨.ref s1.heap.objs.size,aN H1 s1.heap.objs.size (.tup xs),I1.laid (t':=s1.toks) (fun b u e=>Heap.get?_push_of_some _ e) (Nat.le_refl _) ?_,rfl,q _ hf⟩
 exact ⟨z,us,r,⟨_,Heap.get?_push_size _ rfl,rfl,_,rfl⟩⟩
theorem E9 (h:PA X es t):PE X (.List es pos) (KW t):=by
 intro pins s σ H Q I hq
 refine wpAny_List_spliced (aR (h pos pins s σ H _ I hq) fun us s1 ⟨xs,H1,I1,r,z,q⟩=>⟨by rw [<- r.length];exact z,?_⟩)
 have hf:H1 s1.heap.objs.size=none:=I1.hok.fresh (Nat.le_refl _)
 refine ⟨.ref s1.heap.objs.size,aN H1 s1.heap.objs.size (.lst xs),I1.laid (t':=s1.toks) (fun b u e=>Heap.get?_push_of_some _ e) (Nat.le_refl _) ?_,rfl,q _ hf⟩
 exact ⟨z,us,0,r,Heap.get?_push_size _ rfl⟩
end
abbrev Sp:=List V->Hp->VK->XK->Prop
abbrev iI:=List Env->Hp->Shared->XK->Value->Shared->Prop
structure iR (P:Program) (w:World) (K:W.Frag) (mg:Str->Option Value) (base:Heap) (A:Around) (outer:List Env) (s:Shared) (H:Hp):Prop where
 frames:A.frames=some outer
 mod:Mod K mg base
 bs:∀b o,base.get? b=some o->s.heap.get? b=some o/\H b=none
 bsz:base.objs.size<=s.heap.objs.size
 funs:s.heap.FunFrames base outer
 frf:∀b∈i7 outer,H b=none
 hok:dA P w H s.heap
 bare:AllBare s.gens
def CE (outer:List Env) (P:Program) (w:World) (H:Hp) (s:Shared) (Q:VK) (u:Value) (s':Shared):Prop :=
 ∃v H',s'.os=s.os/\AllBare s'.gens/\Un (i7 outer) [] H H' s.heap s'.heap/\dA P w H' s'.heap/\aT v u/\Q v H'
def CR (CX:iI) (outer:List Env) (P:Program) (w:World) (H:Hp) (s:Shared) (Q:VK) (E:XK) (r:Result) (s':Shared):Prop :=
 match r with
 | .ok (.ret u)=>CE outer P w H s Q u s'
 | .ok _=>False
 | .error e=>CX outer H s E e s'
structure bS (P:Program) (w:World) (K:W.Frag) (mg:Str->Option Value) (base:Heap) (CX:iI) (k:Nat) (f:Addr) (fd:FuncData) (ps:List Str) (sp:Sp):Prop where
 len:∀vs H Q E,sp vs H Q E->vs.length=ps.length
 run:∀(A:Around) (outer:List Env) (s:Shared) (H:Hp) (args:Args) (us:List Value) (vs:List V) (Q:VK) (E:XK),ci k A->iR P w K mg base A outer s H->BindsTo s fd args (ps.zip us)->aK vs us->sp vs H Q E ->
  codeAny (model P w) A (.call (.ref f) args) (CR CX outer P w H s Q E) s
theorem bS.mono {P:Program} {w:World} {K:W.Frag} {mg:Str->Option Value} {base:Heap} {CX:iI} {j k:Nat} {f:Addr} {fd:FuncData} {ps:List Str} {sp:Sp} (F:bS P w K mg base CX j f fd ps sp) (h:j<=k) :
  bS P w K mg base CX k f fd ps sp:=⟨F.len,fun A outer s H args us vs Q E hr=>F.run A outer s H args us vs Q E (hr.mono h)⟩
theorem iR.make {P:Program} {w:World} {K:W.Frag} {mg:Str->Option Value} {base:Heap} {A:Around} {outer:List Env} {s:Shared} {H:Hp} (e:iR P w K mg base A outer s H) (C:Addr) (us:List Value) (kw:List (Str×Value)) :
  iR P w K mg base (A.under (.builtin "type.__call__" ⟨.ref C::us,kw⟩)) outer s H:=⟨by first|exact e.frames | (simpa [Around.under,Code.envs,Code.isFrame,pushEnvs] using e.frames),e.mod,e.bs,e.bsz,e.funs,e.frf,e.hok,e.bare⟩
theorem iR.in1 {P:Program} {w:World} {K:W.Frag} {mg:Str->Option Value} {base:Heap} {A:Around} {outer:List Env} {s:Shared} {H:Hp} (e:iR P w K mg base A outer s H) :
  iR P w K mg base A.in1 outer s H:=⟨e.frames,e.mod,e.bs,e.bsz,e.funs,e.frf,e.hok,e.bare⟩
section
variable {X:Cx} {pins:List (Addr×Obj)} {σ:St} {H:Hp} {s s':Shared}
theorem Inv.env0 (I:Inv X pins σ H s):iR X.prog X.w X.K X.mg X.base X.A X.stack s H :=
 ⟨I.ok.frames,I.ok.mod,I.bs,Nat.le_trans I.ok.bsz I.sz,I.stack,I.stkFree,I.hok,I.bare⟩
theorem Inv.after {Q:VK} {u:Value} (I:Inv X pins σ H s) (h:CE X.stack X.prog X.w H s Q u s'):EP X pins σ Q u s':=by
 obtain ⟨v,H',os,bare,un,hok,r,q⟩:=h
 obtain ⟨hh,g,d,t,os'⟩:=s'
 obtain rfl:os'=s.os:=os
 exact ⟨v,H',I.call (h':=hh) (g':=g) (d':=d) (t':=t) (ch:=[]) un hok bare (fun b z=>absurd z (by simp)),r,q⟩
end
def uS (sp:Sp) (dvs:List V) (E:XK) (t:TA):TE:=fun σ H Q=>t σ H fun vs H1=>sp (vs++dvs) H1 Q E
def Ap (C:Addr) (m:Str) (sp:Sp) (dvs:List V) (E:XK) (ta:TE) (t:TA):TE:=fun σ H Q=>ta σ H fun x H1 => ∃a dx fs,x=.ref a/\H1 a=some (.ins C dx fs)/\fs.lookup m=none /\
 t σ H1 fun vs H2=>sp (x::(vs++dvs)) H2 Q E
def Aq (C:Addr) (sp:Sp) (dvs:List V) (E:XK) (t:TA):TE:=fun σ H Q=>t σ H fun vs H1 => ∀x dx,H1 x=none->H1 dx=none->dx≠x ->
 sp (.ref x::(vs++dvs)) (aN (aN H1 dx (.own x)) x (.ins C dx [])) (fun v H2=>v=.non/\Q (.ref x) H2) E
def cE (K:W.Frag) (fd:FuncData) (ps:List Str) (ds:List Value):Prop :=
 ∀(s:Shared) (us:List Value),K.In s.heap->(us++ds).length=ps.length->BindsTo s fd ⟨us,[]⟩ (ps.zip (us++ds))
theorem cE.all {K:W.Frag} {fd:FuncData} {ps:List Str} (h:∀us:List Value,us.length=ps.length->bindArgs fd ⟨us,[]⟩=pure (ps.zip us)):cE K fd ps []:=fun s us _ hl=>by
 rw [List.append_nil] at hl ⊢
 exact .of_eq (h us hl)
def fk (CX:iI) (X:Cx) (E:XK):Prop:=∀(pins:List (Addr×Obj)) (σ:St) (H:Hp) (s:Shared) (e:Value) (s':Shared),Inv X pins σ H s->CX X.stack H s E e s'->X.xe e s'
section
variable {X:Cx} {CX:iI} {k:Nat} {f C:Addr} {fd:FuncData} {ps:List Str} {sp:Sp} {dvs:List V} {ds:List Value} {E:XK} {x m:Str} {p pos apos:Pos} {e o:Expr} {es:List Expr} {ta:TE} {t:TA}
theorem jS {pins:List (Addr×Obj)} {σ:St} {H:Hp} {s:Shared} {Q:VK} {us:List Value} {vs:List V} (F:bS X.prog X.w X.K X.mg X.base CX k f fd ps sp) (hr:ci k X.A) (hb:cE X.K fd ps ds) (hd:aK dvs ds) (hx:fk CX X E)
  (I:Inv X pins σ H s) (r:aK vs us) (h:sp (vs++dvs) H Q E):wpAny (model X.prog X.w) X.A (call (.ref f) us) (EP X pins σ Q) X.xe s:=by
 have r2:aK (vs++dvs) (us++ds):=r.append hd
 have hl:(us++ds).length=ps.length:=by rw [<- r2.length];exact F.len _ _ _ _ h
 refine wpAny_call (codeAny_mono (F.run X.A X.stack s H ⟨us,[]⟩ (us++ds) (vs++dvs) Q E hr I.env0 (hb s us I.kIn hl) r2 h) fun r s' hq=>?_)
 cases r with
 | error e=>exact hx pins σ H s e s' I hq
 | ok fl =>
  cases fl with
  | ret u=>exact I.after hq
  | next=>exact False.elim hq
  | brk=>exact False.elim hq
  | cont=>exact False.elim hq
theorem Cy (F:bS X.prog X.w X.K X.mg X.base CX k f fd ps sp) (hr:ci k X.A) (hg:Gl X x) (hm:X.mg x=some (.ref f)) (hk:W.keepIn X.K (.ref f)=true) (hb:cE X.K fd ps ds) (hd:aK dvs ds) (hx:fk CX X E)
  (ha:PA X (e::es) t) (hdb:(x==("__debug__" : Str))=false:=by decide) (he:starEach (e::es) X.env=(false,eval e X.env)::starEach es X.env:=by rfl) (hpl:(backTo pos (starEach es X.env)).any (·.1)=false:=by rfl) :
  PE X (.Call (.Name x p) (e::es) [] pos) (uS sp dvs E t):=by
 intro pins s σ H Q I h
 refine wpAny_Call_Name_kw (gP I hg hm ?_ hdb)
 refine W.callWith_K (h₀:=X.base) I.ok.mod.kin hk (aR (ha pos pins s σ H _ I h) fun us s1 ⟨vs,H1,I1,r,q⟩=>⟨I1.kIn,?_⟩) he hpl
 exact jS F hr hb hd hx I1 r q
theorem yL (F:bS X.prog X.w X.K X.mg X.base CX k f fd ps sp) (hr:ci k X.A) (hg:Gl X x) (hm:X.mg x=some (.ref f)) (hk:W.keepIn X.K (.ref f)=true) (hb:cE X.K fd ps ds) (hd:aK dvs ds) (hx:fk CX X E)
  (hdb:(x==("__debug__" : Str))=false:=by decide):PE X (.Call (.Name x p) [] [] pos) (uS sp dvs E uR):=by
 intro pins s σ H Q I h
 refine wpAny_Call_Name_kw (gP I hg hm ?_ hdb)
 exact W.callWith_K0 I.kIn hk (jS (us:=[]) F hr hb hd hx I .nil h)
theorem Cu {pl:Sem Bool} (he:PE X o ta) (c:eO X.K C) (hm:oS X.K C m f) (F:bS X.prog X.w X.K X.mg X.base CX k f fd ps sp) (hr:ci k X.A) (hb:cE X.K fd ps ds) (hd:aK dvs ds) (hx:fk CX X E) (ha:PA X (e::es) t)
  (hst:starEach (e::es) X.env=(false,eval e X.env)::starEach es X.env:=by rfl) (hpl:(backTo pos (starEach es X.env)).any (·.1)=false:=by rfl)
  (ht:eval (.Call (.Attribute o m apos) (e::es) [] pos) X.env=(do
   let ov <- eval o X.env
   standAt apos.atName
   let (f,first) <- holding [ov] (getMethod ov m pl)
   callWith pos f first (backTo pos (starEach (e::es) X.env)) (backToKw pos (keywordEach [] X.env))):=by rfl) :
  PE X (.Call (.Attribute o m apos) (e::es) [] pos) (Ap C m sp dvs E ta t):=by
 intro pins s σ H Q I h
 refine W.methodCall_KW (pl:=pl) (aR (he pins s σ H _ I h) fun u s1 ⟨x,H1,I1,rx,a,dx,fs,ex,ea,l,q⟩=>?_) ht
 subst ex
 obtain rfl:u=Value.ref a:=rx
 refine mL I1 ea c hm l ?_
 refine W.callWith_K (first:=[.ref a]) (h₀:=X.base) I.ok.mod.kin hm.kp (aR (ha pos pins s1 σ H1 _ I1 q) fun us s2 ⟨vs,H2,I2,r,q2⟩=>⟨I2.kIn,?_⟩) hst hpl
 exact jS (us:=.ref a::us) (vs:=.ref a::vs) F hr hb hd hx I2 (.cons rfl r) q2
theorem yH {pl:Sem Bool} (he:PE X o ta) (c:eO X.K C) (hm:oS X.K C m f) (F:bS X.prog X.w X.K X.mg X.base CX k f fd ps sp) (hr:ci k X.A) (hb:cE X.K fd ps ds) (hd:aK dvs ds) (hx:fk CX X E)
  (ht:eval (.Call (.Attribute o m apos) [] [] pos) X.env=(do
   let ov <- eval o X.env
   standAt apos.atName
   let (f,first) <- holding [ov] (getMethod ov m pl)
   callWith pos f first (backTo pos (starEach [] X.env)) (backToKw pos (keywordEach [] X.env))):=by rfl) :
  PE X (.Call (.Attribute o m apos) [] [] pos) (Ap C m sp dvs E ta uR):=by
 intro pins s σ H Q I h
 refine W.methodCall_KW (pl:=pl) (aR (he pins s σ H _ I h) fun u s1 ⟨x,H1,I1,rx,a,dx,fs,ex,ea,l,q⟩=>?_) ht
 subst ex
 obtain rfl:u=Value.ref a:=rx
 refine mL I1 ea c hm l ?_
 exact W.callWith_K0 (first:=[.ref a]) I1.kIn hm.kp (jS (us:=[.ref a]) (vs:=[.ref a]) F hr hb hd hx I1 (.cons rfl .nil) q)
structure Mk (K:W.Frag) (C f:Addr):Prop where
 makes:W.makesIn K C=true
 init:W.findIn K (.ref C) "__init__" = some (some (.ref f))
 fn:W.isFn K (.ref f)=true
 kp:W.keepIn K (.ref C)=true
theorem qG {pins:List (Addr×Obj)} {σ:St} {H:Hp} {s:Shared} {Q:VK} {us:List Value} {vs:List V} (M:Mk X.K C f) (F:bS X.prog X.w X.K X.mg X.base CX k f fd ps sp) (hr:ci (k+1) X.A) (hb:cE X.K fd ps ds) (hd:aK dvs ds)
  (hx:fk CX X E) (I:Inv X pins σ H s) (r:aK vs us)
  (h:∀x dx,H x=none->H dx=none->dx≠x->sp (.ref x::(vs++dvs)) (aN (aN H dx (.own x)) x (.ins C dx [])) (fun v H2=>v=.non/\Q (.ref x) H2) E) :
  wpAny (model X.prog X.w) X.A (call (.ref C) us) (EP X pins σ Q) X.xe s:=by
 have hq:=h (s.heap.objs.size+1) s.heap.objs.size (I.hok.fresh (Nat.le_succ _)) (I.hok.fresh (Nat.le_refl _)) (Nat.ne_of_lt (Nat.lt_succ_self _))
 have I2:=Inv.made (C:=C) I
 have r2:aK (V.ref (s.heap.objs.size+1)::(vs++dvs)) (Value.ref (s.heap.objs.size+1)::(us++ds)):=.cons rfl (r.append hd)
 have hl:(Value.ref (s.heap.objs.size+1)::us++ds).length=ps.length:=by
  have e:=r2.length
  rw [F.len _ _ _ _ hq] at e
  exact e.symm
 refine wpAny_call (yP (f:=f) I.kIn M.makes M.init (beq_iff_eq.mp M.fn) (codeAny_mono (F.run _ X.stack _ _ ⟨Value.ref (s.heap.objs.size+1)::us,[]⟩ (Value.ref (s.heap.objs.size+1)::(us++ds)) _ _ E (hr.make C us [])
  (I2.env0.make C us []) (hb _ (Value.ref (s.heap.objs.size+1)::us) I2.kIn hl) r2 hq) fun r s' hq'=>?_))
 cases r with
 | error e=>exact hx pins σ _ _ e s' I2 hq'
 | ok fl =>
  cases fl with
  | ret u =>
   obtain ⟨v,H',I3,rv,ev,q3⟩:=I2.after hq'
   subst ev
   exact ⟨rv,⟨V.ref (s.heap.objs.size+1),H',I3,rfl,q3⟩⟩
  | next=>exact False.elim hq'
  | brk=>exact False.elim hq'
  | cont=>exact False.elim hq'
theorem Cv (M:Mk X.K C f) (F:bS X.prog X.w X.K X.mg X.base CX k f fd ps sp) (hr:ci (k+1) X.A) (hg:Gl X x) (hm:X.mg x=some (.ref C)) (hb:cE X.K fd ps ds) (hd:aK dvs ds) (hx:fk CX X E)
  (ha:PA X (e::es) t) (hdb:(x==("__debug__" : Str))=false:=by decide) (he:starEach (e::es) X.env=(false,eval e X.env)::starEach es X.env:=by rfl) (hpl:(backTo pos (starEach es X.env)).any (·.1)=false:=by rfl) :
  PE X (.Call (.Name x p) (e::es) [] pos) (Aq C sp dvs E t):=by
 intro pins s σ H Q I h
 refine wpAny_Call_Name_kw (gP I hg hm ?_ hdb)
 refine W.callWith_K (h₀:=X.base) I.ok.mod.kin M.kp (aR (ha pos pins s σ H _ I h) fun us s1 ⟨vs,H1,I1,r,q⟩=>⟨I1.kIn,?_⟩) he hpl
 exact qG M F hr hb hd hx I1 r q
theorem yI (M:Mk X.K C f) (F:bS X.prog X.w X.K X.mg X.base CX k f fd ps sp) (hr:ci (k+1) X.A) (hg:Gl X x) (hm:X.mg x=some (.ref C)) (hb:cE X.K fd ps ds) (hd:aK dvs ds) (hx:fk CX X E)
  (hdb:(x==("__debug__" : Str))=false:=by decide):PE X (.Call (.Name x p) [] [] pos) (Aq C sp dvs E uR):=by
 intro pins s σ H Q I h
 refine wpAny_Call_Name_kw (gP I hg hm ?_ hdb)
 exact W.callWith_K0 I.kIn M.kp (qG (us:=[]) M F hr hb hd hx I .nil h)
end
section
variable {X:Cx} {CX:iI} {k:Nat} {f C:Addr} {fd:FuncData} {ps ks:List Str} {sp:Sp} {E:XK} {x m:Str} {p pos apos kpos:Pos} {e o:Expr} {es:List Expr} {kws:List Keyword} {te ta:TE} {t tk:TA} {nm:Option Str}
variable {g:List Value->List Value->List Value} {gV:List V->List V->List V}
end
structure aF (N P:List Str) (sc:Scope):Prop where
 kind:sc.kind=.function
 co:sc.isCoroutine=false
 gen:sc.isGenerator=false
 nd:N.Nodup
 pre:N.take P.length=P
 par:∀x∈P,sc.names.lookup x=some .local\/sc.names.lookup x=some .cell
 nofree:∀y∈sc.names,y.2 ≠ .free
theorem pJ {kindOf:Str->Option NameKind} {x:Str}:∀{binds:List (Str×Value)} {m:Str->Option Value},(∀v,(x,v)∉binds)->bindL kindOf binds m x=m x
 | [],_,_=>rfl
 | (n,v)::r,m,h=>by
  unfold bindL
  rw [pJ fun w hw=>h w (List.mem_cons_of_mem _ hw)]
  split
  ·have:x≠n:=by rintro rfl;exact h v List.mem_cons_self
   simp [this]
  ·rfl
theorem pL {kindOf:Str->Option NameKind} {x:Str}:∀{binds:List (Str×Value)} {m:Str->Option Value},(∀v,(x,v)∉binds)->bindC kindOf binds m x=m x
 | [],_,_=>rfl
 | (n,v)::r,m,h=>by
  unfold bindC
  rw [pL fun w hw=>h w (List.mem_cons_of_mem _ hw)]
  split
  ·rfl
  ·have:x≠n:=by rintro rfl;exact h v List.mem_cons_self
   simp [this]
theorem pK {kindOf:Str->Option NameKind} {x:Str} {v:Value}:∀{P:List Str} {vs:List Value} {i:Nat} {m:Str->Option Value},P.Nodup->P[i]?=some x->vs[i]?=some v->kindOf x=some .local ->
  bindL kindOf (P.zip vs) m x=some v
 | [],_,_,_,_,h,_,_=>by simp at h
 | _::_,[],_,_,_,_,h,_=>by simp at h
 | p::P,w::vs,0,m,nd,h1,h2,hk=>by
  simp at h1 h2;subst h1;subst h2
  show bindL kindOf ((p,w)::P.zip vs) m p=_
  unfold bindL
  rw [pJ fun v hv=>(List.nodup_cons.mp nd).1 (List.of_mem_zip hv).1,if_pos hk]
  simp
 | p::P,w::vs,i+1,m,nd,h1,h2,hk=>by
  show bindL kindOf ((p,w)::P.zip vs) m x=_
  unfold bindL
  exact pK (i:=i) (List.nodup_cons.mp nd).2 (by simpa using h1) (by simpa using h2) hk
theorem pM {kindOf:Str->Option NameKind} {x:Str} {v:Value}:∀{P:List Str} {vs:List Value} {i:Nat} {m:Str->Option Value},P.Nodup->P[i]?=some x->vs[i]?=some v->kindOf x≠some .local ->
  bindC kindOf (P.zip vs) m x=some v
 | [],_,_,_,_,h,_,_=>by simp at h
 | _::_,[],_,_,_,_,h,_=>by simp at h
 | p::P,w::vs,0,m,nd,h1,h2,hk=>by
  simp at h1 h2;subst h1;subst h2
  show bindC kindOf ((p,w)::P.zip vs) m p=_
  unfold bindC
  rw [pL fun v hv=>(List.nodup_cons.mp nd).1 (List.of_mem_zip hv).1,if_neg hk]
  simp
 | p::P,w::vs,i+1,m,nd,h1,h2,hk=>by
  show bindC kindOf ((p,w)::P.zip vs) m x=_
  unfold bindC
  exact pM (i:=i) (List.nodup_cons.mp nd).2 (by simpa using h1) (by simpa using h2) hk
def start (N:List Str) (vs:List V):St:=vs.map some++List.replicate (N.length - vs.length) none
def jA (CX:iI) (P:Program) (w:World) (K:W.Frag) (mg:Str->Option Value) (base:Heap) (N:List Str) (qual:Str) (scope:Scope) (f:Addr) (cd:Value) (A:Around) (outer:List Env) (s:Shared) (H:Hp) (E:XK):Cx where
 prog:=P
 w:=w
 K:=K
 mg:=mg
 base:=base
 A:=A.deeper (envOfC qual scope s.heap.objs.size f cd)
 N:=N
 s₀:=s
 H₀:=H
 env:=envOfC qual scope s.heap.objs.size f cd
 outer:=outer
 stack:=envOfC qual scope s.heap.objs.size f cd::outer
 ex:=[]
 calm:=true
 fn:=fun _=>true
 pn:=[]
 xe:=fun e s'=>wpAny (model P w) (A.deeper (envOfC qual scope s.heap.objs.size f cd)) (leaving (envOfC qual scope s.heap.objs.size f cd) e) (fun _ s''=>CX outer H s E e s'') (fun e' s''=>CX outer H s E e' s'') s'
theorem si {sc:Scope} {n:Nat} {x:Str} (h:sc.names.lookup x=some .cell):∃c,(cellsFrom n sc.names []).lookup x=some c:=by
 have q:=W.cellsFrom_some sc.names n [] (.inl h)
 exact Option.isSome_iff_exists.mp q
theorem xf {CX:iI} {P:Program} {w:World} {K:W.Frag} {mg:Str->Option Value} {base:Heap} {N ps:List Str} {qual:Str} {scope:Scope} {f:Addr} {cd:Value} {A:Around} {outer:List Env} {s s1:Shared} {H:Hp} {E:XK} {us:List Value} {vs:List V}
  (S:aF N ps scope) (hd:A.handled=none) (e0:iR P w K mg base A outer s H) (hl:vs.length=ps.length) (r:aK vs us)
  (x:InCallC s s.heap.objs.size (bindL (envOfC qual scope s.heap.objs.size f cd).kindOf (ps.zip us) fun _=>none) (cellsFrom (s.heap.objs.size+1) scope.names []) (bindC (envOfC qual scope s.heap.objs.size f cd).kindOf (ps.zip us) fun _=>none) s1) :
  Inv (jA CX P w K mg base N qual scope f cd A outer s H E) [] (start N vs) H s1:=by
 have hpl:ps.length<=N.length:=by have:=congrArg List.length S.pre;rw [List.length_take] at this;omega
 obtain ⟨h1,tk,rfl,hk⟩:=x.done
 have noA:∀b:Addr,b∉(jA CX P w K mg base N qual scope f cd A outer s H E).ex:=fun b z=>absurd (show b∈([]:List Addr) from z) (by simp)
 refine ⟨⟨e0.mod,S.kind,rfl,rfl,Nat.le_refl _,fun y z c h1 h2=>?_,fun y hy=>?_,fun y c _ h=>?_,fun _=>hd,Around.frames_deeper e0.frames,.inr ⟨rfl,rfl⟩,fun b z=>absurd z (noA b),e0.bs,e0.bsz,fun b _ _=>noA b,fun b z=>absurd z (noA b),e0.funs,e0.frf⟩,
  rfl,e0.bare,Un.kept hk,⟨_,x.toInCall.ns,fun i y v h1 h2 h3=>?_⟩,fun y c h=>⟨_,x.cell y c h⟩,e0.hok.fresh (Nat.le_refl _),fun y c h=>?_,fun p hp=>absurd (show p∈([]:List (Addr×Obj)) from hp) (by simp),e0.hok.kept hk,?_⟩
 ·exact name_of_addr x.apart (PySem.mem_of_lookup h1) (PySem.mem_of_lookup h2)
 ·have hy:scope.names.lookup y=some .cell\/scope.names.lookup y=some .free:=hy
  rcases hy with hy|hy
  ·exact si hy
  ·exact absurd rfl (S.nofree _ (PySem.mem_of_lookup hy))
 ·exact Nat.le_of_lt (x.above y c (PySem.mem_of_lookup h))
 ·have hi:i < vs.length:=by
   unfold start at h2
   by_cases hi:i < vs.length
   ·exact hi
   ·rw [List.getElem?_append_right (by simpa using hi)] at h2
    rw [List.getElem?_replicate] at h2
    split at h2 <;> cases h2
  have ha:vs[i]?=some v:=by
   unfold start at h2
   rw [List.getElem?_append_left (by simpa using hi),List.getElem?_map] at h2
   cases e:vs[i]? with
   | none=>rw [e] at h2;cases h2
   | some a=>rw [e] at h2;cases h2;rfl
  obtain ⟨u,hu,rv⟩:=r.get ha
  have hp:ps[i]?=some y:=by
   rw [<- S.pre,List.getElem?_take_of_lt (by omega)];exact h1
  have ndP:ps.Nodup:=by rw [<- S.pre];exact S.nd.sublist (List.take_sublist _ _)
  refine ⟨u,rv,?_⟩
  rcases S.par y (List.mem_of_getElem? hp) with k|k
  ·exact .inl ⟨k,pK ndP hp hu k⟩
  ·obtain ⟨c,e⟩:=si (n:=s.heap.objs.size+1) k
   refine .inr ⟨.inl k,c,e,?_⟩
   have q:=x.cell y c e
   rw [pM ndP hp hu (by show scope.names.lookup y≠_;rw [k];decide)] at q
   exact q
 ·exact e0.hok.fresh (Nat.le_of_lt (x.above y c (PySem.mem_of_lookup h)))
 ·unfold start
  show _=N.length
  rw [List.length_append,List.length_map,List.length_replicate]
  omega
theorem JZ {CX:iI} {P:Program} {w:World} {K:W.Frag} {mg:Str->Option Value} {base:Heap} {k:Nat} {f:Addr} {name qual:Str} {params:Arguments} {body:List Stmt} {scope:Scope} {dV kV doc pm cdv ct oc:Value} {an od:Option Addr}
  {osl:Array (Option Value)} {N ps:List Str} {sp:Sp} (lk:K.lookup f=some ⟨oc,od,.func (W.fnOf name qual params body scope dV kV doc pm an cdv ct),osl⟩) (hcd:W.codeIn K cdv qual=true) (S:aF N ps scope)
  (len:∀vs H Q E,sp vs H Q E->vs.length=ps.length)
  (hbody:∀(A:Around) (outer:List Env) (s:Shared) (H:Hp) (vs:List V) (Q:VK) (E:XK),ci k (A.deeper (envOfC qual scope s.heap.objs.size f cdv))->sp vs H Q E ->
   ∃t,fO (jA CX P w K mg base N qual scope f cdv A outer s H E) body t/\t { nx:=fun _ H'=>Q .non H',rt:=Q } (start N vs) H) :
  bS P w K mg base CX (k+1) f (W.fnOf name qual params body scope dV kV doc pm an cdv ct) ps sp:=by
 refine ⟨len,fun A outer s H args us vs Q E hr e0 hb r hsp=>?_⟩
 have hl:=len _ _ _ _ hsp
 have KX:K.In s.heap:=e0.mod.kin.keeps fun b o e=>(e0.bs b o e).1
 have lim:s.heap.NoLimit:=e0.mod.nolimit.keeps fun b o e=>(e0.bs b o e).1
 have hkind:∀y∈ps.zip us,scope.names.lookup y.1=some .local\/(scope.names.lookup y.1=some .cell/\((cellsFrom (s.heap.objs.size+1) scope.names []).lookup y.1).isSome=true):=fun ⟨n,v⟩ hy=>by
  rcases S.par n (List.of_mem_zip hy).1 with q|q
  ·exact .inl q
  ·exact .inr ⟨q,W.cellsFrom_some _ _ _ (.inl q)⟩
 refine codeAny_call_function hr.depth (KX _ _ lk) rfl S.co S.gen rfl (W.codeRec_of KX hcd) (hb _ _ _ _ ?_)
 refine wpAny_newFunctionEnv_cells S.kind hkind fun env he s1 x=>?_
 subst he
 refine ⟨lim.keeps x.toInCall.keep,codeAny_func ?_⟩
 obtain ⟨t,ht,hq⟩:=hbody A outer s H vs Q E (hr.deeper _) hsp
 have I:Inv (jA CX P w K mg base N qual scope f cdv A outer s H E) [] (start N vs) H s1:=xf S hr.hd e0 hl r x
 refine wpAny_mono (ht [] s1 (start N vs) H _ I hq) (fun fl s' hs=>?_) fun e s' hs=>hs
 have fin:∀{σ':St} {H':Hp} {v:V} {u:Value},Inv (jA CX P w K mg base N qual scope f cdv A outer s H E) [] σ' H' s'->aT v u->Q v H'->CE outer P w H s Q u s' :=
  fun {σ' H' v u} J rv q=>⟨v,H',J.os,J.bare,J.base,J.hok,rv,q⟩
 cases fl with
 | ret u =>
  obtain ⟨v,σ',H',J,rv,q⟩:=hs
  exact fin J rv q
 | next =>
  obtain ⟨σ',H',J,q⟩:=hs
  exact fin (v:=V.non) (u:=Value.none) J rfl q
 | brk =>
  obtain ⟨_,_,_,q⟩:=hs
  exact False.elim q
 | cont =>
  obtain ⟨_,_,_,q⟩:=hs
  exact False.elim q
end L2
namespace L2
open PySem PySem.Spec PyProof.Rows
section
variable {X:Cx} {x:Str} {p pos:Pos} {e:Expr} {es:List Expr} {t:TA} {id T:String} {r:List V->Hp->VK->Prop}
def KC (r:List V->Hp->VK->Prop) (t:TA):TE:=fun σ H Q=>t σ H fun vs H1=>r vs H1 Q
theorem yK (hc:ek X (.builtin id) r) (hg:Gl X x) (hm:X.mg x=none) (hv:bootBuiltins x=some (.builtin id)) (ha:PA X (e::es) t) (hn:x ≠ "__name__" := by decide) (hdb:(x==("__debug__" : Str))=false:=by decide)
  (he:starEach (e::es) X.env=(false,eval e X.env)::starEach es X.env:=by rfl) (hpl:(backTo pos (starEach es X.env)).any (·.1)=false:=by rfl):PE X (.Call (.Name x p) (e::es) [] pos) (KC r t):=by
 intro pins s σ H Q I h
 refine wpAny_Call_Name_kw (dl I hg hm hv ?_ hn hdb)
 exact PyProof.Rows.callWith_builtin1 (aR (ha pos pins s σ H _ I h) fun us s1 ⟨vs,H1,I1,r1,q1⟩=>hc pins s1 σ H1 vs us Q I1 r1 q1) he hpl
theorem wI (hc:ek X (.type T) r) (hg:Gl X x) (hm:X.mg x=none) (hv:bootBuiltins x=some (.type T)) (ha:PA X (e::es) t) (hn:x ≠ "__name__" := by decide) (hdb:(x==("__debug__" : Str))=false:=by decide)
  (he:starEach (e::es) X.env=(false,eval e X.env)::starEach es X.env:=by rfl) (hpl:(backTo pos (starEach es X.env)).any (·.1)=false:=by rfl):PE X (.Call (.Name x p) (e::es) [] pos) (KC r t):=by
 intro pins s σ H Q I h
 refine wpAny_Call_Name_kw (dl I hg hm hv ?_ hn hdb)
 exact PyProof.Rows.callWith_type1 (aR (ha pos pins s σ H _ I h) fun us s1 ⟨vs,H1,I1,r1,q1⟩=>hc pins s1 σ H1 vs us Q I1 r1 q1) he hpl
end
end L2
namespace HT
open PySem PyProof.Rows
def lexLt:List Int->List Int->Bool
 | [],[]=>false
 | [],_::_=>true
 | _::_,[]=>false
 | x::xs,y::ys=>if x=y then lexLt xs ys else decide (x < y)
section
open PySem.SeqAt
open PySem.AutoSeq1 (wpAny_loadPart')
open PySem.MeetsSeq PySem.MeetsSeq2 PySem.MeetsSeq3
end
section
variable {prog:Program} {w:World} {A:Around} {E:Value->Shared->Prop} {s:Shared}
theorem cat_tup {t b:Addr} {vs ws:List Value} {Q:Value->Shared->Prop} (ht:IsTup s.heap t vs.toArray) (hb:IsTup s.heap b ws.toArray) (hv:vs≠[])
  (h1:ws=[]->Q (.ref t) s) (h2:ws≠[]->Q (.ref s.heap.objs.size) { s with heap:=s.heap.push { cls:=.type "tuple", data:=.seq (vs++ws).toArray } })
  (hsz:vs.length+ws.length<=sizeLine):wpAny (model prog w) A (binaryOp .Add (.ref t) (.ref b)) Q E s:=by
 obtain ⟨⟨cls,dd,data,sl⟩,ho,hc,n,hd⟩:=id ht
 obtain ⟨⟨cls2,dd2,data2,sl2⟩,ho2,hc2,n2,hd2⟩:=id hb
 simp only at hc hd hc2 hd2
 subst hc hd hc2 hd2
 have e:vs.toArray++ws.toArray=(vs++ws).toArray:=by simp
 by_cases hw:ws=[]
 ·exact concat_meets ⟨_,ho,rfl⟩ ⟨_,ho2,rfl⟩ noFill_tuple_add seq_tuple_add PySem.F.slot_tuple_add PySem.F.entry_tuple_add (PySem.F.args_tuple_add_2 _ _)
   (tuple_addW1 t b vs.toArray ws.toArray n n2 dd dd2 sl sl2 (by simpa using hv) (by simp [hw])) ⟨ho,ho2,h1 hw⟩
 ·refine concat_meets ⟨_,ho,rfl⟩ ⟨_,ho2,rfl⟩ noFill_tuple_add seq_tuple_add PySem.F.slot_tuple_add PySem.F.entry_tuple_add (PySem.F.args_tuple_add_2 _ _)
   (tuple_addW2 t b vs.toArray ws.toArray n n2 dd dd2 sl sl2 (by simpa using hv) (by simpa using hw) (by rw [List.size_toArray,List.size_toArray];exact hsz)) ⟨ho,ho2,?_⟩
  rw [e]
  exact h2 hw
def sIx (n d:Nat):Option Int->Nat
 | none=>d
 | some v=>if v < 0 then (v+(n:Int)).toNat else min v.toNat n
theorem Ez (n d:Nat) (hd:d<=n) (o:Option Int):sIx n d o<=n:=by
 cases o with
 | none=>exact hd
 | some v =>
  show (if v < 0 then (v+(n:Int)).toNat else min v.toNat n)<=n
  by_cases hv:v < 0
  ·rw [if_pos hv];omega
  ·rw [if_neg hv];exact Nat.min_le_right _ _
theorem uy (v:Int) (n d:Nat):(if v < 0 then max (v+(n:Int)) 0 else min v (n:Int))=((sIx n d (some v):Nat):Int):=by
 show (if v < 0 then max (v+(n:Int)) 0 else min v (n:Int))=(((if v < 0 then (v+(n:Int)).toNat else min v.toNat n):Nat):Int)
 by_cases hv:v < 0
 ·simp only [if_pos hv];omega
 ·simp only [if_neg hv];omega
theorem v6 (lo hi:Option Int) (n:Nat):Builtin.Slice.sliceAdjust lo hi 1 (n:Int)=(((sIx n 0 lo:Nat):Int),((sIx n n hi:Nat):Int)):=by
 have h1:¬ ((1:Int) < 0):=by omega
 unfold Builtin.Slice.sliceAdjust
 simp only [h1,if_false]
 refine Prod.ext ?_ ?_
 ·cases lo with
  | none=>rfl
  | some v=>exact uy v n 0
 ·cases hi with
  | none=>rfl
  | some v=>exact uy v n n
theorem vf (i j:Nat):Builtin.Slice.slicePlaces (i:Int) (j:Int) 1=j - i:=by
 unfold Builtin.Slice.slicePlaces
 have h1:(1:Int) > 0:=by omega
 simp only [h1,if_true,Int.ediv_one]
 split <;> omega
theorem ml {v:Value} {o:Option Int} {Q:Option Int->Shared->Prop} (p:IsPart v o) (h:Q o s):wpAny (model prog w) A (Builtin.Slice.slicePartIndex v) Q E s:=by
 cases p with
 | none=>exact slicePart_none h
 | int i t=>exact slicePart_int h
theorem lG {sl:Addr} {vl vu:Value} {lo hi:Option Int} {n:Nat} {Q:Int×Int×Nat->Shared->Prop} (hs:s.heap.IsSliceOf sl vl vu .none) (pl:IsPart vl lo) (pu:IsPart vu hi)
  (h:Q (((sIx n 0 lo:Nat):Int),1,sIx n n hi - sIx n 0 lo) s):wpAny (model prog w) A (Builtin.Slice.sliceApplied (.ref sl) (pure (n:Int))) Q E s:=by
 obtain ⟨os,hos,hcs,hds⟩:=id hs
 unfold Builtin.Slice.sliceApplied Builtin.Slice.sliceFields
 refine wpAny_bind (wpAny_bind (wpAny_field hos hds (x:=vl) rfl (wpAny_bind (wpAny_field hos hds (x:=vu) rfl (wpAny_bind (wpAny_field hos hds (x:=.none) rfl (wpAny_pure ?_)))))))
 refine wpAny_bind (slicePart_none ?_)
 show wpAny _ _ (if ((1:Int)==0)=true then _ else _) _ _ s
 rw [if_neg (by decide)]
 refine wpAny_bind (ml pl (wpAny_bind (ml pu (wpAny_bind (wpAny_pure ?_)))))
 show wpAny _ _ (match Builtin.Slice.sliceAdjust lo hi 1 (n:Int) with | (lo,hi)=>pure (lo,(1:Int),Builtin.Slice.slicePlaces lo hi 1)) _ _ s
 rw [v6 lo hi n]
 show wpAny _ _ (pure (((sIx n 0 lo:Nat):Int),(1:Int),Builtin.Slice.slicePlaces ((sIx n 0 lo:Nat):Int) ((sIx n n hi:Nat):Int) 1)) _ _ s
 rw [vf]
 exact wpAny_pure h
theorem yG (xs:Array Value) (i k:Nat):((List.range k).filterMap fun (m:Nat)=>xs[((i:Int)+(m:Int)*1).toNat]?).toArray=((xs.toList.drop i).take k).toArray:=by
 have e:(fun (m:Nat)=>xs[((i:Int)+(m:Int)*1).toNat]?)=fun m=>xs[i+m]?:=by
  funext m
  have:((i:Int)+(m:Int)*1).toNat=i+m:=by omega
  rw [this]
 rw [e]
 have:=pick_run xs i k
 rw [List.filterMap_map] at this
 have e2:((fun x=>xs[x]?) ∘ fun x=>i+x)=fun m=>xs[i+m]?:=rfl
 rw [e2] at this
 rw [this]
theorem getItem_tuple_cut {t sl:Addr} {items:Array Value} {vl vu:Value} {lo hi:Option Int} {Q:Value->Shared->Prop} (ht:IsTup s.heap t items) (hs:s.heap.IsSliceOf sl vl vu .none) (pl:IsPart vl lo) (pu:IsPart vu hi)
  (hw:¬ (sIx items.size 0 lo=0/\sIx items.size items.size hi=items.size))
  (h:Q (.ref s.heap.objs.size) { s with heap:=s.heap.push { cls:=.type "tuple", data:=.seq ((items.toList.drop (sIx items.size 0 lo)).take (sIx items.size items.size hi - sIx items.size 0 lo)).toArray } })
  (hsz:items.size<=sizeLine):wpAny (model prog w) A (getItem (.ref t) (.ref sl)) Q E s:=by
 have htake:sizeOk (.seq ((items.toList.drop (sIx items.size 0 lo)).take (sIx items.size items.size hi - sIx items.size 0 lo)).toArray):=by
  show ((items.toList.drop (sIx items.size 0 lo)).take (sIx items.size items.size hi - sIx items.size 0 lo)).toArray.size<=sizeLine
  rw [List.size_toArray,List.length_take,List.length_drop,Array.length_toList]
  omega
 have hj:sIx items.size items.size hi<=items.size:=Ez _ _ (Nat.le_refl _) hi
 obtain ⟨os,hos,hcs,hds⟩:=id hs
 have hTs:s.TypeIs (.ref sl) "slice" := ⟨os,hos,hcs⟩
 unfold getItem
 try with_reducible refine wpAny_holding ?_
 first|refine wpAny_bind (wpAny_pure ?_) | skip
 refine wpAny_bind (wpAny_sequenceKey ht.typeIs (by decide) ?_)
 refine wpAny_bind (wpAny_callSpecial?_slot (name:=Str.ofString "__getitem__") ht.typeIs PyProof.Rows.slot_tuple_getitem
  (wpAny_call_entry PyProof.Rows.slot_tuple_getitem ht.typeIs entry_tuple_getitem ?_ (args_tuple_getitem _ _)))
 show wpAny _ _ (Builtin.Tuple.tupleItemsOf (.ref t) >>= _) _ _ s
 refine wpAny_bind (tupleItemsOf_ ht ?_)
 refine wpAny_bind (wpAny_typeOf hTs ?_)
 rw [if_pos (by decide)]
 refine wpAny_bind (lG hs pl pu ?_)
 have hno:¬ ((((sIx items.size 0 lo:Nat):Int)==0&&(1:Int)==1&&(sIx items.size items.size hi - sIx items.size 0 lo)==items.size)=true):=by
  intro q
  rw [Bool.and_eq_true,Bool.and_eq_true] at q
  have q1:((sIx items.size 0 lo:Nat):Int)=0:=eq_of_beq q.1.1
  have q2:sIx items.size items.size hi - sIx items.size 0 lo=items.size:=eq_of_beq q.2
  exact hw ⟨by omega,by omega⟩
 show wpAny _ _ (if (((sIx items.size 0 lo:Nat):Int)==0&&(1:Int)==1&&(sIx items.size items.size hi - sIx items.size 0 lo)==items.size)=true then _ else _) _ _ s
 rw [if_neg hno,yG]
 first
  | exact wpAny_bind (m:=Builtin.Tuple.tupleExact _) (wpAny_newObj_type (wpAny_pure ⟨_,rfl,wpAny_pure h⟩) htake)
  | exact wpAny_bind (m:=Builtin.Tuple.tupleExact _) (wpAny_newObj_type (wpAny_bind (wpAny_pure (wpAny_pure ⟨_,rfl,wpAny_pure h⟩))) htake)
  | exact wpAny_bind (wpAny_bind (m:=Builtin.Tuple.tupleExact _) (wpAny_newObj_type (wpAny_pure (wpAny_pure ⟨_,rfl,wpAny_pure h⟩)) htake))
  | exact wpAny_bind (wpAny_bind (m:=Builtin.Tuple.tupleExact _) (wpAny_newObj_type (wpAny_pure ⟨_,rfl,wpAny_pure h⟩) htake))
end
end HT
namespace L2
open PySem PySem.Spec PyProof.Rows
abbrev TO:=St->Hp->(Option Int->Hp->Prop)->Prop
def PO (X:Cx) (e:Option Expr) (t:TO):Prop :=
 ∀(pins:List (Addr×Obj)) (s:Shared) (σ:St) (H:Hp) (Q:Option Int->Hp->Prop),Inv X pins σ H s->t σ H Q ->
  wpAny (model X.prog X.w) X.A (evalPart e X.env) (fun u s' => ∃o H',Inv X pins σ H' s'/\IsPart u o/\Q o H') X.xe s
def BP:TO:=fun _ H Q=>Q none H
def IF (t:TE):TO:=fun σ H Q=>t σ H fun x H1 => ∃i,x=.int i/\Q (some i) H1
section
variable {X:Cx} {e:Expr} {te:TE} {lo hi:Option Expr} {tl th:TO} {pos p2:Pos}
theorem Cp:PO X none BP:=by
 intro pins s σ H Q I h
 rw [evalPart_none]
 exact wpAny_pure ⟨none,H,I,.none,h⟩
theorem Co (h:PE X e te):PO X (some e) (IF te):=by
 intro pins s σ H Q I hw
 rw [evalPart_some]
 refine aR (h pins s σ H _ I hw) fun u s1 ⟨x,H1,I1,r1,q1⟩=>?_
 obtain ⟨i,rfl,q⟩:=q1
 obtain ⟨t,rfl⟩:=r1
 exact ⟨some i,H1,I1,.int i t,q⟩
def Im (X:Cx) (r:V->Option Int->Option Int->Hp->VK->Prop):Prop :=
 ∀(pins:List (Addr×Obj)) (s:Shared) (σ:St) (H:Hp) (x:V) (v vl vu:Value) (lo hi:Option Int) (sl:Addr) (Q:VK),Inv X pins σ H s->aT x v->s.heap.IsSliceOf sl vl vu .none->IsPart vl lo->IsPart vu hi->r x lo hi H Q ->
  ∃T id,typeLookup (.type T) "__getitem__" = pure (some (.builtin id))/\s.TypeIs v T/\wpAny (model X.prog X.w) X.A (getItem v (.ref sl)) (EP X pins σ Q) X.xe s
def Ro (r:V->Option Int->Option Int->Hp->VK->Prop) (te:TE) (tl th:TO):TE:=fun σ H Q=>te σ H fun x H1=>tl σ H1 fun l H2=>th σ H2 fun u H3=>r x l u H3 Q
theorem lI {r:V->Option Int->Option Int->Hp->VK->Prop} (hr:Im X r) (he:PE X e te) (hl:PO X lo tl) (hu:PO X hi th):PE X (.Subscript e (.Slice lo hi none p2) pos) (Ro r te tl th):=by
 intro pins s σ H Q I h
 refine Subscript_ (aR (he pins s σ H _ I h) fun v s1 ⟨x,H1,I1,r1,q1⟩=>?_)
 refine wpAny_Slice (aR (hl pins s1 σ H1 _ I1 q1) fun vl s2 ⟨l,H2,I2,pl,q2⟩=>aR (hu pins s2 σ H2 _ I2 q2) fun vu s3 ⟨u,H3,I3,pu,q3⟩=>?_)
 rw [evalPart_none]
 refine wpAny_pure ?_
 have I4:Inv X pins σ H3 { s3 with heap:=s3.heap.push { cls:=.type "slice", data:=.fields #[vl,vu,.none] } }:=I3.kept (t':=s3.toks) fun b ob q=>Heap.get?_push_of_some _ q
 obtain ⟨T,id,hT,ht,hg⟩:=hr pins { s3 with heap:=s3.heap.push { cls:=.type "slice", data:=.fields #[vl,vu,.none] } } σ H3 x v vl vu l u s3.heap.objs.size Q I4 r1 (Heap.IsSliceOf.new ..) pl pu q3
 show wpAny (model X.prog X.w) X.A (subscriptTail e (.Slice lo hi none p2) v (.ref s3.heap.objs.size)) (EP X pins σ Q) X.xe { s3 with heap:=s3.heap.push { cls:=.type "slice", data:=.fields #[vl,vu,.none] } }
 exact tail_any (ops:=[.ref s3.heap.objs.size,v]) ht hT hg (by with_unfolding_all rfl)
def ig (xs:List V) (lo hi:Option Int):List V:=(xs.drop (HT.sIx xs.length 0 lo)).take (HT.sIx xs.length xs.length hi - HT.sIx xs.length 0 lo)
theorem ly (xs:List V) (lo hi:Option Int):(ig xs lo hi).length<=xs.length:=by
 unfold ig
 rw [List.length_take,List.length_drop]
 omega
def Mm (K:W.Frag):V->Option Int->Option Int->Hp->VK->Prop:=fun x lo hi H Q => ∃a xs,x=.ref a/\cm K H a xs /\
 ¬ (HT.sIx xs.length 0 lo=0/\HT.sIx xs.length xs.length hi=xs.length)/\∀p,H p=none->Q (.ref p) (aN H p (.tup (ig xs lo hi)))
theorem Eg:Im X (Mm X.K):=by
 intro pins s σ H x v vl vu lo hi sl Q I rx hs pl pu h
 obtain ⟨a,xs,rfl,hx,hw,q⟩:=h
 cases rx
 obtain ⟨its,r,ht,hz⟩:=I.tuple hx
 have hlen:its.toArray.size=xs.length:=by rw [List.size_toArray];exact r.length.symm
 refine ⟨"tuple", _,PyProof.Rows.slot_tuple_getitem.lookup,ht.typeIs,?_⟩
 refine HT.getItem_tuple_cut ht hs pl pu (by rw [hlen];exact hw) ?_ (by rw [hlen];exact hz)
 rw [hlen]
 refine ⟨.ref s.heap.objs.size,_,I.laid (t':=s.toks) (o:=.tup (ig xs lo hi)) (fun b ob q=>Heap.get?_push_of_some _ q) (Nat.le_refl _) ?_,rfl,q _ (I.hok.fresh (Nat.le_refl _))⟩
 exact ⟨Nat.le_trans (ly xs lo hi) hz,_,(r.drop (HT.sIx xs.length 0 lo)).take (HT.sIx xs.length xs.length hi - HT.sIx xs.length 0 lo),IsTup.new _ _⟩
def rLtT (K:W.Frag):R2:=fun x y H Q => ∃a b ns ms,x=.ref a/\y=.ref b/\cm K H a (ns.map V.int)/\cm K H b (ms.map V.int)/\Q (.bl (HT.lexLt ns ms)) H
def Jf (K:W.Frag):R2:=fun x y H Q => ∃a b xs ys,x=.ref a/\y=.ref b/\cm K H a xs/\cm K H b ys/\xs≠[]/\xs.length+ys.length<=sizeLine /\
 (ys=[]->Q (.ref a) H)/\(ys≠[]->∀p,H p=none->Q (.ref p) (aN H p (.tup (xs++ys))))
theorem aK.nil_iff {xs:List V} {us:List Value} (r:aK xs us):us=[] ↔ xs=[]:=by
 cases r with
 | nil=>simp
 | cons _ _=>simp
theorem CF:cV X (binaryOp .Add) (Jf X.K):=by
 intro pins s σ H x y v u Q I rx ry h
 obtain ⟨a,b,xs,ys,rfl,rfl,ha,hb,hx,hz,q1,q2⟩:=h
 cases rx
 cases ry
 obtain ⟨its,r1,p1,_⟩:=I.tuple ha
 obtain ⟨its2,r2,p2,_⟩:=I.tuple hb
 refine HT.cat_tup p1 p2 (fun z=>hx (r1.nil_iff.mp z)) (fun z=>⟨.ref a,H,I,rfl,q1 (r2.nil_iff.mp z)⟩) (fun z=>?_) (by rw [<- r1.length,<- r2.length];exact hz)
 refine ⟨.ref s.heap.objs.size,_,I.laid (t':=s.toks) (o:=.tup (xs++ys)) (fun b ob q=>Heap.get?_push_of_some _ q) (Nat.le_refl _) ?_,rfl,q2 (fun w=>z (r2.nil_iff.mpr w)) _ (I.hok.fresh (Nat.le_refl _))⟩
 exact ⟨by rw [List.length_append];exact hz,_,r1.append r2,IsTup.new _ _⟩
end
end L2
namespace L2
open PySem PySem.Spec PyProof.Rows
def ixN (n:Nat) (i:Int):Option Nat:=if 0<=i then (if i < n then some i.toNat else none) else if -(n:Int)<=i then some (i+n).toNat else none
def atI {α:Type} (xs:List α) (i:Int):Option α:=(ixN xs.length i).bind fun j=>xs[j]?
theorem um {n:Nat} {i:Int} {j:Nat} (h:ixN n i=some j):seqIndex? i n=some j/\j < n /\ -(n:Int)<=i/\i < n:=by
 unfold ixN at h
 by_cases h0:0<=i
 ·rw [if_pos h0] at h
  by_cases h1:i < n
  ·rw [if_pos h1] at h
   have e:i.toNat=j:=Option.some.inj h
   exact ⟨by rw [seqIndex_of h0 h1,e],by omega,by omega,h1⟩
  ·rw [if_neg h1] at h;cases h
 ·rw [if_neg h0] at h
  by_cases h1:-(n:Int)<=i
  ·rw [if_pos h1] at h
   have e:(i+n).toNat=j:=Option.some.inj h
   exact ⟨by rw [seqIndex_neg (by omega) h1,e],by omega,h1,by omega⟩
  ·rw [if_neg h1] at h;cases h
theorem uE {α:Type} {xs:List α} {i:Int} {v:α} (h:atI xs i=some v):∃j,seqIndex? i xs.length=some j/\xs[j]?=some v/\j < xs.length /\ -(xs.length:Int)<=i/\i < xs.length:=by
 unfold atI at h
 cases e:ixN xs.length i with
 | none=>rw [e] at h;cases h
 | some j =>
  rw [e] at h
  obtain ⟨h1,h2,h3,h4⟩:=um e
  exact ⟨j,h1,h,h2,h3,h4⟩
theorem DH {α:Type} {xs:List α} {j:Nat} {v:α} (h:xs[j]?=some v):atI xs (j:Int)=some v:=by
 have hj:j < xs.length:=(List.getElem?_eq_some_iff.mp h).1
 have e:ixN xs.length (j:Int)=some j:=by
  unfold ixN
  rw [if_pos (by omega),if_pos (by omega)];simp
 unfold atI;rw [e];exact h
def gS (b:Expr):Prop:=∀o i,subscripted b false o i=operate [o,i] (getItem o i)
def Iw (X:Cx) (r:R2):Prop :=
 ∀(value slice:Expr) (pins:List (Addr×Obj)) (s:Shared) (σ:St) (H:Hp) (x y:V) (v u:Value) (Q:VK),Inv X pins σ H s->aT x v->aT y u->r x y H Q ->
  subscripted slice false v u=operate [v,u] (getItem v u)->wpAny (model X.prog X.w) X.A (subscriptTail value slice v u) (EP X pins σ Q) X.xe s
def Iq (X:Cx) (id:String) (r:V->List V->Hp->VK->Prop):Prop :=
 ∀(pins:List (Addr×Obj)) (s:Shared) (σ:St) (H:Hp) (x:V) (xs:List V) (v:Value) (us:List Value) (Q:VK),Inv X pins σ H s->aT x v->aK xs us->r x xs H Q ->
  wpAny (model X.prog X.w) X.A (call (.builtin id) (v::us)) (EP X pins σ Q) X.xe s
section
variable {X:Cx} {a b:Expr} {ta tb:TE} {pos:Pos}
theorem vg {r:R2} (hr:Iw X r) (ha:PE X a ta) (hb:PE X b tb) (hs:gS b):PE X (.Subscript a b pos) (KB r ta tb):=by
 intro pins s σ H Q I h
 exact Subscript_ (HM ha hb I h fun v u s2 x y H2 I2 rx ry q=>hr a b pins s2 σ H2 x y v u Q I2 rx ry q (hs _ _))
def Mq (K:W.Frag):R2:=fun x y H Q => ∃p xs i v,x=.ref p/\y=.int i/\cq K H p xs/\atI xs i=some v/\Q v H
def Mp (K:W.Frag):R2:=fun x y H Q => ∃p xs i v,x=.ref p/\y=.int i/\cm K H p xs/\atI xs i=some v/\Q v H
theorem ul:Iw X (Mq X.K):=by
 intro value slice pins s σ H x y v u Q I rx ry h hs
 obtain ⟨p,xs,i,z,rfl,rfl,hq,he,q⟩:=h
 cases rx
 obtain ⟨t,rfl⟩:=ry
 obtain ⟨its,r,pl,hz⟩:=I.list hq
 obtain ⟨j,h1,h2,h3,h4,h5⟩:=uE he
 obtain ⟨w,ew,rw'⟩:=r.get h2
 have hl:=r.length
 have hn:=mF
 have fin:EP X pins σ Q w s:=⟨z,H,I,rw',q⟩
 by_cases h0:0<=i
 ·have hj:i.toNat=j:=by
   rw [seqIndex_of h0 h5] at h1
   exact Option.some.inj h1
  exact item_listR pl.isList h0 (by omega) (by rw [hj];simpa using ew) fin hs
 ·have hj:(i+(its.toArray.size:Int)).toNat=j:=by
   rw [seqIndex_neg (by omega) h4] at h1
   rw [List.size_toArray,<- hl]
   exact Option.some.inj h1
  exact subscriptTail_builtinR (x:=w) pl.isList.typeIs slot_list_getitem.lookup
   (wpAny_getItem_list_neg (Q:=fun r s'=>r=w/\EP X pins σ Q r s') pl.isList (by omega) (by rw [List.size_toArray] <;> omega) (by omega) (by rw [hj];simpa using ew) ⟨rfl,fin⟩) hs
theorem Gb:Iw X (Mp X.K):=by
 intro value slice pins s σ H x y v u Q I rx ry h hs
 obtain ⟨p,xs,i,z,rfl,rfl,hq,he,q⟩:=h
 cases rx
 obtain ⟨t,rfl⟩:=ry
 obtain ⟨its,r,pl,hz⟩:=I.tuple hq
 obtain ⟨j,h1,h2,h3,h4,h5⟩:=uE he
 obtain ⟨w,ew,rw'⟩:=r.get h2
 have hl:=r.length
 have hn:=mF
 have fin:EP X pins σ Q w s:=⟨z,H,I,rw',q⟩
 exact subscriptTail_builtinR (x:=w) pl.typeIs slot_tuple_getitem.lookup
  (getItem_tuple (j:=j) (Q:=fun r s'=>r=w/\EP X pins σ Q r s') pl (by omega) (by omega) (by rw [List.size_toArray,<- hl];exact h1) (by simpa using ew) ⟨rfl,fin⟩) hs
theorem vq (its:List Value) (n j:Nat) (u:Value):Obj.mapSeq (·.setIfInBounds j u) { cls:=.type "list", data:=.seq its.toArray n } = { cls:=.type "list", data:=.seq (its.set j u).toArray n }:=by
 simp [Obj.mapSeq]
theorem Inv.lst {pins:List (Addr×Obj)} {σ:St} {H:Hp} {s:Shared} {p:Addr} {xs:List V} (I:Inv X pins σ H s) (h:H p=some (.lst xs)) :
  ∃(its:List Value) (n:Nat),aK xs its/\s.heap.get? p=some { cls:=.type "list", data:=.seq its.toArray n }/\xs.length<=sizeLine:=by
 obtain ⟨z,its,n,r,e⟩:=I.hok p _ h
 exact ⟨its,n,r,e,z⟩
theorem Inv.lstUpd {pins:List (Addr×Obj)} {σ:St} {H:Hp} {s:Shared} {p:Addr} {xs ys:List V} {its its':List Value} {n n':Nat} {f:Obj->Obj} (I:Inv X pins σ H s) (h:H p=some (.lst xs))
  (ho:s.heap.get? p=some { cls:=.type "list", data:=.seq its.toArray n }) (hf:f { cls:=.type "list", data:=.seq its.toArray n } = { cls:=.type "list", data:=.seq its'.toArray n' }) (r:aK ys its') (hz:ys.length<=sizeLine) (t:Nat) :
  Inv X pins σ (aN H p (.lst ys)) { s with heap:=s.heap.update p f,toks:=t }:=by
 have e:(s.heap.update p f).get? p=some { cls:=.type "list", data:=.seq its'.toArray n' }:=by
  rw [Heap.get?_update_self f ho (by rw [hf] <;> rfl),hf]
 refine I.write (x:=p) (e:=p) (by rw [h];trivial) (.inl rfl) (fun b u hb q=>(Heap.get?_update_other _ _ (Ne.symm hb)).trans q) ⟨_,e⟩ ?_
 exact ⟨hz,its',n',r,e⟩
def Je:V->V->V->Hp->(Hp->Prop)->Prop:=fun o i v H Q => ∃p xs k j,o=.ref p/\i=.int k/\H p=some (.lst xs)/\ixN xs.length k=some j/\Q (aN H p (.lst (xs.set j v)))
theorem qE:Io X Je:=by
 intro pins s σ H o i v ov iv u Q I ro ri rv h
 obtain ⟨p,xs,k,j,rfl,rfl,hp,hj,q⟩:=h
 cases ro
 obtain ⟨t,rfl⟩:=ri
 obtain ⟨its,n,r,ho,hz⟩:=I.lst hp
 obtain ⟨h1,h2,h3,h4⟩:=um hj
 have hl:=r.length
 have hn:=mF
 have I':Inv X pins σ (aN H p (.lst (xs.set j v))) { s with heap:=s.heap.update p (Obj.mapSeq (·.setIfInBounds j u)) } :=
  I.lstUpd hp ho (vq its n j u) (r.set rv j) (by rw [List.length_set];exact hz) s.toks
 by_cases h0:0<=k
 ·have hk:k.toNat=j:=by
   rw [seqIndex_of h0 h4] at h1
   exact Option.some.inj h1
  exact W.ki_setAt ho h0 (by omega) (by rw [List.size_toArray,<- hl];exact h4) (by rw [hk];exact ⟨_,I',q⟩)
 ·have hk:(k+(its.toArray.size:Int)).toNat=j:=by
   rw [seqIndex_neg (by omega) h3] at h1
   rw [List.size_toArray,<- hl]
   exact Option.some.inj h1
  exact W.ki_setBack ho (by omega) (by rw [List.size_toArray,<- hl];exact h3) (by omega) (by rw [hk];exact ⟨_,I',q⟩)
theorem qC (lo hi:Option Int) (n:Nat):(sliceBounds lo hi none n).1=((HT.sIx n 0 lo:Nat):Int)/\(sliceBounds lo hi none n).2.1=((HT.sIx n n hi:Nat):Int)/\(sliceBounds lo hi none n).2.2=1:=by
 refine ⟨?_,?_,rfl⟩
 ·cases lo with
  | none=>simp [sliceBounds,HT.sIx]
  | some i =>
   simp only [sliceBounds,HT.sIx,Option.getD_none,show (1:Int) > 0 by decide,if_true]
   by_cases h:i < 0
   ·simp only [h,if_true] <;> omega
   ·simp only [h,if_false] <;> omega
 ·cases hi with
  | none=>simp [sliceBounds,HT.sIx]
  | some i =>
   simp only [sliceBounds,HT.sIx,Option.getD_none,show (1:Int) > 0 by decide,if_true]
   by_cases h:i < 0
   ·simp only [h,if_true] <;> omega
   ·simp only [h,if_false] <;> omega
theorem pP (its:List Value) (lo hi:Option Int):slicePick its.toArray lo hi none=((its.drop (HT.sIx its.length 0 lo)).take (HT.sIx its.length its.length hi - HT.sIx its.length 0 lo)).toArray:=by
 obtain ⟨h1,h2,h3⟩:=qC lo hi its.toArray.size
 unfold slicePick
 rw [h1,h2,h3]
 simp only [sliceRange_one,pick_run,List.size_toArray] <;> rfl
def Mn (K:W.Frag):V->Option Int->Option Int->Hp->VK->Prop:=fun x lo hi H Q => ∃a xs,x=.ref a/\cq K H a xs/\∀p,H p=none->Q (.ref p) (aN H p (.lst (ig xs lo hi)))
theorem tU:Im X (Mn X.K):=by
 intro pins s σ H x v vl vu lo hi sl Q I rx hs pl pu h
 obtain ⟨a,xs,rfl,hx,q⟩:=h
 cases rx
 obtain ⟨its,r,ht,hz⟩:=I.list hx
 have hlen:=r.length
 refine ⟨"list", _,slot_list_getitem.lookup,ht.isList.typeIs,?_⟩
 refine wpAny_getItem_list_slice ht.isList hs pl pu .none (by simp) ?_ (by rw [List.size_toArray] <;> omega)
 rw [pP,<- hlen]
 refine ⟨.ref s.heap.objs.size,_,I.laid (t':=s.toks) (o:=.lst (ig xs lo hi)) (fun b ob q=>Heap.get?_push_of_some _ q) (Nat.le_refl _) ?_,rfl,q _ (I.hok.fresh (Nat.le_refl _))⟩
 exact ⟨Nat.le_trans (ly xs lo hi) hz,_,0,(r.drop (HT.sIx xs.length 0 lo)).take (HT.sIx xs.length xs.length hi - HT.sIx xs.length 0 lo),Heap.get?_push_size _ rfl⟩
theorem kh:ek X (.builtin "len") (fun xs H Q => ∃p ys,xs=[.ref p]/\(cq X.K H p ys\/cm X.K H p ys)/\Q (.int ys.length) H):=by
 intro pins s σ H xs us Q I r h
 obtain ⟨p,ys,rfl,hq,q⟩:=h
 obtain ⟨u,rfl,rx⟩:=eJ r
 cases rx
 have hn:=mF
 rcases hq with hq|hq
 ·obtain ⟨its,r',pl,hz⟩:=I.list hq
  have hlen:=r'.length
  exact Calls.call_len_list pl.isList (by simp only [List.size_toArray] <;> omega) ⟨.int ys.length,H,I.tok _,⟨s.toks+1,by rw [List.size_toArray,hlen]⟩,q⟩
 ·obtain ⟨its,r',pl,hz⟩:=I.tuple hq
  have hlen:=r'.length
  exact len_tuple pl (by simp only [List.size_toArray] <;> omega) ⟨.int ys.length,H,I.tok _,⟨s.toks+1,by rw [List.size_toArray,hlen]⟩,q⟩
theorem kg:ek X (.type "list") (fun xs H Q => ∃p ys,xs=[.ref p]/\(cq X.K H p ys\/cm X.K H p ys)/\∀l,H l=none->Q (.ref l) (aN H l (.lst ys))):=by
  intro pins s σ H xs us Q I r h
  obtain ⟨p,ys,rfl,hq,q⟩:=h
  obtain ⟨u,rfl,rx⟩:=eJ r
  cases rx
  have fin:∀(its:List Value),aK ys its->ys.length<=sizeLine->∀(h':Heap) (c':Nat),(∀b o',s.heap.get? b=some o'->h'.get? b=some o') ->
      h'.get? s.heap.objs.size=some { cls:=.type "list", dict:=none,data:=.seq its.toArray c',slots:=#[] }->EP X pins σ Q (.ref s.heap.objs.size) { s with heap:=h' }:=fun its r' hz h' c' kp e =>
    ⟨.ref s.heap.objs.size,_,I.laid (t':=s.toks) kp (Nat.le_refl _) (show cn X.prog X.w _ h' _ (.lst ys) from ⟨hz,its,c',r',e⟩),rfl,q _ (I.hok.fresh (Nat.le_refl _))⟩
  rcases hq with hq|hq
  . obtain ⟨its,r',pl,hz⟩:=I.list hq
    have hlen:=r'.length
    obtain ⟨o,ho,hc,n,hd⟩:=pl.isList
    exact call_list_seq p (.inl rfl) ho hc hd (fun h' c' kp e=>fin its r' hz h' c' kp e) (by simp only [List.size_toArray] <;> omega)
  . obtain ⟨its,r',pl,hz⟩:=I.tuple hq
    have hlen:=r'.length
    obtain ⟨o,ho,hc,n,hd⟩:=pl
    exact call_list_seq p (.inr rfl) ho hc hd (fun h' c' kp e=>fin its r' hz h' c' kp e) (by simp only [List.size_toArray] <;> omega)
theorem jF:ek X (.type "tuple") (fun xs H Q => ∃p ys,xs=[.ref p]/\((cq X.K H p ys/\∀l,H l=none->Q (.ref l) (aN H l (.tup ys)))\/(cm X.K H p ys/\Q (.ref p) H))):=by
 intro pins s σ H xs us Q I r h
 obtain ⟨p,ys,rfl,h⟩:=h
 obtain ⟨u,rfl,rx⟩:=eJ r
 cases rx
 rcases h with ⟨hq,q⟩ | ⟨hq,q⟩
 ·obtain ⟨its,r',pl,hz⟩:=I.list hq
  have hlen:=r'.length
  refine call_tuple_list pl.isList (fun h' kp=>?_) (by simp only [List.size_toArray] <;> omega)
  have I1:Inv X pins σ H { s with heap:=h' }:=I.kept (t':=s.toks) kp
  have I2:Inv X pins σ (aN H h'.objs.size (.tup ys)) { s with heap:=h'.push { cls:=.type "tuple", data:=.seq its.toArray } } :=
   I1.laid (t':=s.toks) (fun b o e=>Heap.get?_push_of_some _ e) (Nat.le_refl _) (show cn X.prog X.w _ _ _ (.tup ys) from ⟨hz,its,r',IsTup.new _ _⟩)
  exact ⟨.ref h'.objs.size,_,I2,rfl,q _ (I1.hok.fresh (Nat.le_refl _))⟩
 ·obtain ⟨its,r',pl,hz⟩:=I.tuple hq
  exact call_tuple_same pl ⟨.ref p,H,I,rfl,q⟩
def DV (K:W.Frag) (T:String) (x:V) (H:Hp):Prop:=match x with
  | .str _=>T = "str"
  | .int _=>T = "int"
  | .ref p=>(T = "list" /\ ∃xs,cq K H p xs)\/(T = "tuple" /\ ∃o,K.lookup p=some o/\o.cls=.type "tuple" /\ o.dict=none) \/
      (T = "dict" /\ ((∃kvs,H p=some (.dK kvs))\/∃kvs,H p=some (.dT kvs)))\/(T = "set" /\ ∃S n,H p=some (.set S n))
  | _=>False
theorem wm {pins:List (Addr×Obj)} {σ:St} {H:Hp} {s:Shared} {T:String} {x:V} {v:Value} (I:Inv X pins σ H s) (r:aT x v) (ty:DV X.K T x H) :
  s.TypeIs v T/\∀a,v=.ref a->∃ob,s.heap.get? a=some ob/\ob.dict=none:=by
 cases x with
 | str z =>
  obtain ⟨t,rfl⟩:=r
  cases (show T = "str" from ty)
  exact ⟨typeIs_str s z t,fun _ e=>nomatch e⟩
 | int i =>
  obtain ⟨t,rfl⟩:=r
  cases (show T = "int" from ty)
  exact ⟨typeIs_int s i t,fun _ e=>nomatch e⟩
 | ref p =>
  cases r
  rcases ty with ⟨rfl,xs,hq⟩ | ⟨rfl,o,hk,hc,hd⟩ | ⟨rfl,hk⟩ | ⟨rfl,S,n,hk⟩
  ·obtain ⟨its,_,pl,_⟩:=I.list hq
   refine ⟨pl.isList.typeIs,fun a e=>?_⟩
   cases e
   obtain ⟨o,n,e,c,hd,_⟩:=pl
   exact ⟨o,e,hd⟩
  ·refine ⟨⟨o,I.kIn p o hk,hc⟩,fun a e=>?_⟩
   cases e
   exact ⟨o,I.kIn _ o hk,hd⟩
  ·have z:∃o,s.heap.get? p=some o/\o.ExactDict:=by
    rcases hk with ⟨kvs,hk⟩ | ⟨kvs,hk⟩
    ·obtain ⟨_,_,_,_,o,_,_,e,ex,_⟩:=I.hok p _ hk
     exact ⟨o,e,ex⟩
    ·obtain ⟨_,_,_,_,o,_,_,e,ex,_⟩:=I.hok p _ hk
     exact ⟨o,e,ex⟩
   obtain ⟨o,e,ex⟩:=z
   refine ⟨⟨o,e,ex.1⟩,fun a e2=>?_⟩
   cases e2
   exact ⟨o,e,ex.2.1⟩
  ·obtain ⟨o,_,_,_,e,ex,_⟩:=I.hok p _ hk
   refine ⟨⟨o,e,ex.1⟩,fun a e2=>?_⟩
   cases e2
   exact ⟨o,e,ex.2.1⟩
 | _=>exact False.elim ty
def K1 (K:W.Frag) (T:String) (r:V->List V->Hp->VK->Prop) (to:TE):TE:=fun σ H Q=>to σ H fun x H1=>DV K T x H1/\r x [] H1 Q
def Rt (K:W.Frag) (T:String) (r:V->List V->Hp->VK->Prop) (to:TE) (t:TA):TE:=fun σ H Q=>to σ H fun x H1=>DV K T x H1/\t σ H1 fun xs H2=>r x xs H2 Q
variable {o e:Expr} {es:List Expr} {to:TE} {t:TA} {name:Str} {apos cpos:Pos} {T id:String} {r:V->List V->Hp->VK->Prop}
theorem Fc (pa:PlainAttrs T) (slot:Slot T name id) (hty:typeOf (.builtin id)=pure (.type "method_descriptor")) (hm:Iq X id r) (ho:PE X o to)
  (hbase:attributeBase o name X.env (eval o X.env)=eval o X.env:=by rfl) (hline:(apos.endLine==cpos.line)=true:=by rfl):PE X (.Call (.Attribute o name apos) [] [] cpos) (K1 X.K T r to):=by
 intro pins s σ H Q I h
 refine wpAny_Call_method0_late hbase hline (aR (ho pins s σ H _ I h) fun v s1 ⟨x,H1,I1,r1,ty,q1⟩=>?_)
 obtain ⟨h1,h2⟩:=wm I1 r1 ty
 exact ⟨T,id,pa,slot,hty,h1,h2,Calls.callWith_builtin rfl (PySem.evalArgs_none (hm pins s1 σ H1 x [] v [] Q I1 r1 .nil q1))⟩
theorem Jj (pa:PlainAttrs T) (slot:Slot T name id) (hty:typeOf (.builtin id)=pure (.type "method_descriptor")) (hm:Iq X id r) (ho:PE X o to) (ha:PA X (e::es) t)
  (hbase:attributeBase o name X.env (eval o X.env)=eval o X.env:=by rfl)
  (hfew:((backTo cpos (starEach (e::es) X.env)).all (fun x => !x.1)&&(backToKw cpos (keywordEach [] X.env)).all (fun x=>x.1.isSome)
   && decide ((e::es).length+([]:List Keyword).length+(if ([]:List Keyword).isEmpty then 0 else 1) < 30))=true:=by rfl)
  (hline:(apos.endLine==cpos.line)=true:=by rfl) (hs:starEach (e::es) X.env=(false,eval e X.env)::starEach es X.env:=by rfl) (hplain:(backTo cpos (starEach es X.env)).any (·.1)=false:=by rfl) :
  PE X (.Call (.Attribute o name apos) (e::es) [] cpos) (Rt X.K T r to t):=by
 intro pins s σ H Q I h
 refine wpAny_Call_method_late hbase hfew hline rfl (aR (ho pins s σ H _ I h) fun v s1 ⟨x,H1,I1,r1,ty,q1⟩=>?_)
 obtain ⟨h1,h2⟩:=wm I1 r1 ty
 refine ⟨T,id,pa,slot,hty,h1,h2,?_⟩
 have hA:=ha cpos pins s1 σ H1 _ I1 q1
 rw [hs] at hA ⊢
 refine Calls.callWith_builtin (by show (false || (backTo cpos (starEach es X.env)).any (·.1))=false;rw [hplain] <;> rfl) (Calls.evalArgs_plain ?_)
 exact aR hA fun us s2 ⟨vs,H2,I2,r2,q2⟩=>hm pins s2 σ H2 x vs v us Q I2 r1 r2 q2
/- xs.append(e),list.index on a module's tuple .. are Iq facts of 06m -/
end
end L2
namespace L2
open PySem PySem.Spec PyProof.Rows
def KJ (X:Cx) (id:String) (r:V->List V->Hp->VK->Prop):Prop :=
 ∀(pins:List (Addr×Obj)) (s:Shared) (σ:St) (H:Hp) (x:V) (xs:List V) (v:Value) (us:List Value) (Q:VK),Inv X pins σ H s->aT x v->aK xs us->r x xs H Q ->
  wpAny (model X.prog X.w) X.A (call (.builtin id) (v::us)) (EP X pins σ Q) X.xe s
theorem aK.one:∀{x:V} {us:List Value},aK [x] us->∃u,us=[u]/\aT x u
 | _,_,.cons r .nil=>⟨_,rfl,r⟩
theorem aK.zero:∀{us:List Value},aK [] us->us=[]
 | _,.nil=>rfl
theorem aK.reverse {xs:List V} {us:List Value} (h:aK xs us):aK xs.reverse us.reverse:=by
 induction h with
 | nil=>exact .nil
 | cons r t ih=>rw [List.reverse_cons,List.reverse_cons];exact aK.append ih (.cons r .nil)
section
variable {X:Cx} {pins:List (Addr×Obj)} {σ:St} {H:Hp} {s:Shared} {l b:Addr} {xs ys zs:List V}
theorem Inv.lset {its its':List Value} {n:Nat} {f:Array Value->Array Value} {t':Nat} (I:Inv X pins σ H s) (hH:H l=some (.lst xs))
  (e:s.heap.get? l=some { cls:=.type "list", data:=.seq its.toArray n }) (hf:f its.toArray=its'.toArray) (hv:aK ys its') (hz:ys.length<=sizeLine) :
  Inv X pins σ (aN H l (.lst ys)) { s with heap:=s.heap.update l (Obj.mapSeq f),toks:=t' }:=by
 have q:=PySem.IsL.update e f
 rw [hf] at q
 refine I.write (x:=l) (e:=l) (by rw [hH];exact trivial) (.inl rfl) (fun b' u hb hu=>(Heap.get?_update_other s.heap (Obj.mapSeq f) (Ne.symm hb)).trans hu) ⟨_,q⟩ ?_
 exact ⟨hz,its',_,hv,q⟩
theorem Inv.lnew {its:List Value} {t':Nat} (I:Inv X pins σ H s) (hv:aK ys its) (hz:ys.length<=sizeLine) :
  Inv X pins σ (aN H s.heap.objs.size (.lst ys)) { s with heap:=s.heap.push { cls:=.type "list", data:=.seq its.toArray },toks:=t' } :=
 I.laid (fun _ _ q=>Heap.get?_push_of_some _ q) (Nat.le_refl _) ⟨hz,its,0,hv,Heap.get?_push_size _ rfl⟩
theorem Inv.fresh (I:Inv X pins σ H s):H s.heap.objs.size=none:=I.hok.fresh (Nat.le_refl _)
theorem Inv.lstM (I:Inv X pins σ H s) (hH:H l=some (.lst xs)):xs.length<=sizeLine/\∃(its:List Value) (n:Nat),aK xs its/\xs.length=its.length/\s.heap.get? l=some { cls:=.type "list", data:=.seq its.toArray n }:=by
 obtain ⟨z,its,n,r,e⟩:=I.hok l _ hH
 exact ⟨z,its,n,r,r.length,e⟩
end
section
variable {X:Cx}
def Ch:V->List V->Hp->VK->Prop:=fun x vs H Q => ∃l xs y,x=.ref l/\vs=[y]/\H l=some (.lst xs)/\xs.length < sizeLine/\Q .non (aN H l (.lst (xs++[y])))
theorem o9:KJ X "list.append" Ch:=by
 intro pins s σ H x vs v us Q I rx rv h
 obtain ⟨l,xs,y,rfl,rfl,hH,hz,q⟩:=h
 cases rx
 obtain ⟨u,rfl,ru⟩:=rv.one
 obtain ⟨z,its,n,r,hl,e⟩:=I.lstM hH
 refine call_meets F.slot_list_append ⟨_,e,rfl⟩ F.entry_list_append (F.args_list_append_2 _ _) (PySem.list_append l its.toArray n u (by rw [List.size_toArray];omega)) ⟨e,?_⟩
 refine ⟨.non,_,I.lset (its':=its++[u]) hH e (by simp) (r.append (.cons ru .nil)) ?_,rfl,q⟩
 rw [List.length_append,List.length_singleton]
 omega
end
section
variable {prog:Program} {w:World} {A:Around} {E:Value->Shared->Prop} {s:Shared}
set_option maxRecDepth 100000 in
end
section
variable {X:Cx}
end
end L2
namespace Att
open PySem PySem.W PySem.Calls PyProof.Rows
theorem mJ {P:Params} {h:Heap}:∀(ns:List Int) (vs:List Value),WellAll P h vs (ns.map WData.int)->IntsAre vs ns:=by
 intro ns
 induction ns with
 | nil =>
  intro vs w
  rw [List.map_nil] at w
  cases w
  exact .nil
 | cons n ns ih =>
  intro vs w
  rw [List.map_cons] at w
  cases w with
  | cons a b =>
   cases a
   exact .cons _ _ (ih _ b)
theorem o7 {l:OpenLaw} {n:Nat} (hn:l.most=some n) {P:Params} {h:Heap} {args:List WData} {vals:List Value}
  (hpre:l.row.toRowW.claim.pre args=true) (hwl:WellAll P h vals args) :
  ∃a vs ns,vals=[Value.ref a]/\args=[WData.list (ns.map WData.int)]/\h.get? a=some { cls:=.type "list", data:=.seq vs.toArray }/\IntsAre vs ns/\ns.length<=n:=by
 have hsh:WShape.hasAll [] args [.list .int]=true:=(pre_splitW hpre).1
 have hc:l.pre.holds [] { args:=args }=true:=(pre_splitW hpre).2
 obtain ⟨d,r,rfl,h1,h2⟩:=hasAllW_cons hsh
 obtain rfl:=hasAllW_nil h2
 obtain ⟨xs,rfl,h3⟩:=hasW_list h1
 obtain ⟨ns,rfl⟩:=items_int h3
 have hlen:ns.length<=n:=by
  unfold OpenLaw.pre at hc
  have h4:(WTm.not (.lt (.lit (.int (n:Int))) (.len (.arg 0)))).holds [] { args:=[.list (ns.map .int)] }=true:=by
   have h4:=(holds_andW hc).1
   rw [hn] at h4
   exact h4
  have h5:=condW_of h4 (w_not (w_lt w_lit (w_len_list (w_arg rfl))))
  rw [List.length_map] at h5
  refine Nat.le_of_not_lt fun q=>?_
  have q':(n:Int) < ((ns.length:Nat):Int):=by omega
  first
   | (rw [decide_eq_true q'] at h5;exact absurd h5 (by decide))
   | (simp at h5;omega)
 cases hwl with
 | cons w1 w2 =>
  cases w2
  cases w1 with
  | list ho hall=>exact ⟨_,_,ns,rfl,rfl,ho,mJ ns _ hall,hlen⟩
theorem o8 (l:OpenLaw) (args:List WData):l.row.toRowW.claim.post args (.bool true) args=true :=
 postW_of (r:=l.row.toRowW) (X:=(true==true))
  (show WShape.has [] (.bool true) .bool=true by first|rfl|decide|simp [WShape.has,WShape.arms,WShape.armsAll])
  (show (WTm.eq .res (.lit (.bool true))).value [] { args:=args,res:=some (.bool true),after:=args }=some (.bool (true==true)) from w_eq_bool (w_res rfl) w_lit) rfl
theorem attach_call {l:OpenLaw} {n:Nat} {q:Program} {loose:List Str} {XP:(Str->Option Value)->Heap->Prop} {YP:World->Heap->Prop} {d:DefRec}
  (hn:l.most=some n) (hdf:d.params.defaults=[])
  (call:∀(w:World) (s₀ s₁:Shared) (mg mb:Str->Option Value) (fa:Addr) (o:Obj) (pm cd doc:Value) (a:Addr) (vs:List Value) (ns:List Int),
   Ground q loose [] XP w s₀ mg mb s₁.heap->YP w s₁.heap ->
   s₁.heap.get? fa=some o->o.data=.func (docDef d.name d.params d.body d.scope pm cd doc)->s₁.heap.CodeRec cd d.name->mg d.name=some (.ref fa) ->
   s₁.heap.get? a=some { cls:=.type "list", data:=.seq vs.toArray }->IntsAre vs ns->ns.length<=n->s₁.gens = #[] ->
   codeAny (model l.prog w) callerA (.call (.ref fa) ⟨[.ref a],[]⟩) (fun r s'=>r=.ok (.ret (.bool true))/\OldK s₁.heap s'.heap/\s'.os=s₁.os/\AllBare s'.gens) s₁) :
  WalkO q loose XP YP l.row.toRowW d [] (fun f vs=>PySem.call f vs):=by
 intro w s₀ s₁ mg mb G Y fa o pm cd doc dV kV ho hd hcd hD hmg hg args vals as hpre hlay hrd hwl hlo
 obtain rfl:dV=.none:=Dflts.none hD hdf
 obtain rfl:kV=.none:=Dflts.noKw hD
 obtain ⟨a,vs,ns,rfl,rfl,hobj,hints,hlen⟩:=o7 hn hpre hwl
 refine enter_call (codeAny_mono (call w s₀ s₁ mg mb fa o pm cd doc a vs ns G Y ho (fd_plain hd) hcd hmg hobj hints hlen hg) fun r s' hq=>?_)
 obtain ⟨rfl,h2,h3,h4⟩:=hq
 exact ⟨.inl ⟨.bool true,.bool true,[],rfl,fun _=>rfl,.bool true,o8 l _,fun _=>⟨List.Pairwise.nil,fun _ hm=>(nomatch hm)⟩⟩,h2,h3,h4⟩
section
variable {prog:Program} {w:World} {A:Around} {E:Value->Shared->Prop} {s:Shared} {K:Frag}
end
end Att
namespace L2
open PySem PySem.Spec PyProof.Rows
theorem oW:∀{vs:List Value} {ns:List Int},IntsAre vs ns->aK (ns.map V.int) vs
 | _,_,.nil=>.nil
 | _,_,.cons n t h=>.cons ⟨t,rfl⟩ (oW h)
def sN (H:Hp):Prop:=∀b,H b=none\/∃o xs,H b=some (.frz o (.lst xs))
theorem rg {P:Program} {w:World} {K:W.Frag} {mg mb:Str->Option Value} {CX:iI} {k:Nat} {fa a:Addr} {fd:FuncData} {x:Str} {sp:Sp} {s₁:Shared} {vs:List Value} {ns:List Int}
    (KX:K.In s₁.heap) (hns:s₁.heap.Ns mainGlobals mg) (hb:s₁.heap.Ns builtinsNs mb) (hbb:∀x:Str,x ≠ "__name__" -> mb x=bootBuiltins x) (hlim:s₁.heap.NoLimit) (hg:s₁.gens = #[])
    (ha:s₁.heap.get? a=some { cls:=.type "list", data:=.seq vs.toArray }) (hi:IntsAre vs ns) (hl:ns.length<=sizeLine) (hr:ci k callerA)
    (F:∀base:Heap,K.In base->base.Ns mainGlobals mg->bS P w K mg base CX k fa fd [x] sp) (hbind:∀(s:Shared) (u:Value),BindsTo s fd ⟨[u],[]⟩ [(x,u)])
    (hsp:∀H:Hp,sN H->cq K H a (ns.map V.int)->sp [.ref a] H (fun v _=>v=.bl true) fun _ _ _=>False)
    (hCX:∀H e s',CX [] H s₁ (fun _ _ _=>False) e s'->False) :
    codeAny (model P w) callerA (.call (.ref fa) ⟨[.ref a],[]⟩) (fun r s'=>r=.ok (.ret (.bool true))/\OldK s₁.heap s'.heap/\s'.os=s₁.os/\AllBare s'.gens) s₁:=by
  have rv:=oW hi
  have lenV:=hi.length
  have core:∀H:Hp,sN H->cq K H a (ns.map V.int)->dA P w H s₁.heap->(∀b,H b≠none->b=a)->(H a≠none->K.lookup a=none) ->
      codeAny (model P w) callerA (.call (.ref fa) ⟨[.ref a],[]⟩) (fun r s'=>r=.ok (.ret (.bool true))/\OldK s₁.heap s'.heap/\s'.os=s₁.os/\AllBare s'.gens) s₁:=by
    intro H hO hS hok hA hK
    have base_of:∀{b:Addr} {o:Obj},s₁.heap.get? b=some o->H b=none->(ju s₁.heap H).get? b=some o:=fun e n=>zg e n
    have noA:∀{b:Addr} {o:Obj} {es:Array DictEntry} {ep:Nat},s₁.heap.get? b=some o->o.data=.dict es ep->H b=none:=fun {b o es ep} e d=>by
      cases q:H b with
      | none=>rfl
      | some u =>
        have e':b=a:=hA b (by rw [q];simp)
        subst e'
        rw [ha] at e;cases e
        have d':Data.seq vs.toArray _=Data.dict es ep:=d
        cases d'
    have nsK:∀{b:Addr} {m:Str->Option Value},s₁.heap.Ns b m->(ju s₁.heap H).Ns b m:=fun {b m} ⟨o,es,ep,e,d,r⟩=>⟨o,es,ep,base_of e (noA e d),d,r⟩
    have hKb:K.In (ju s₁.heap H):=fun b o e=>base_of (KX b o e) (by
      cases q:H b with
      | none=>rfl
      | some u =>
        have e':b=a:=hA b (by rw [q];simp)
        subst e'
        rw [hK (by rw [q];simp)] at e;cases e)
    have hM:Mod K mg (ju s₁.heap H):=⟨hKb,nsK hns,⟨mb,nsK hb,hbb⟩,let ⟨mc,h1,h2⟩:=hlim;⟨mc,nsK h1,h2⟩⟩
    have e0:iR P w K mg (ju s₁.heap H) callerA [] s₁ H:=⟨rfl,hM,fun b o e=>CG e,Nat.le_of_eq (xk _ _),trivial,fun b hb=>absurd (show b∈([]:List Addr) from hb) (by simp),hok,.of_eq hg⟩
    refine codeAny_mono ((F _ hKb (nsK hns)).run callerA [] s₁ H ⟨[.ref a],[]⟩ [.ref a] [.ref a] _ _ hr e0 (hbind s₁ (.ref a)) (.cons rfl .nil) (hsp H hO hS)) fun r s' h=>?_
    cases r with
    | error e=>exact (hCX H e s' h).elim
    | ok fl =>
      cases fl with
      | next=>exact False.elim h
      | brk=>exact False.elim h
      | cont=>exact False.elim h
      | ret u =>
        obtain ⟨v,H',os,bare,un,hok',r',q⟩:=h
        have q':v=.bl true:=q
        subst q'
        obtain rfl:u=Value.bool true:=r'
        refine ⟨rfl,OldK.of_keep fun b o e=>?_,os,bare⟩
        cases q:H b with
        | none=>exact un.keep b o e q (by intro z;exact absurd (show b∈([]:List Addr) from z) (by simp)) (by simp)
        | some u =>
          rcases hO b with z | ⟨ob,xs,z⟩
          . rw [q] at z;cases z
          . have z2:=un.frzs b ob _ z
            obtain ⟨e1,_⟩:=hok b _ z
            obtain ⟨e2,_⟩:=hok' b _ z2
            rw [e] at e1;cases e1
            exact e2
  cases hk:K.lookup a with
  | some o =>
    have e:=KX a o hk
    rw [ha] at e
    cases e
    refine core (fun _=>none) (fun _=>.inl rfl) (.inr ⟨_,vs.toArray,_,hk,rfl,rfl,rfl,by rw [List.size_toArray,lenV];exact hl,by simpa using rv⟩) (fun b u z=>by have z':(none:Option HO)=some u:=z;cases z') (fun b z=>absurd rfl z) fun z=>absurd rfl z
  | none =>
    refine core (fun b=>if b=a then some (.frz { cls:=.type "list", data:=.seq vs.toArray } (.lst (ns.map V.int))) else none) (fun b=>?_) (.inl (.inr ⟨{ cls:=.type "list", data:=.seq vs.toArray },if_pos rfl⟩)) (fun b u z=>?_) (fun b z=>?_) fun _=>hk
    . by_cases hb:b=a
      . exact .inr ⟨_,_,if_pos hb⟩
      . exact .inl (if_neg hb)
    . by_cases hb:b=a
      . have z':=(if_pos hb).symm.trans z
        cases z'
        subst hb
        exact ⟨ha,by rw [List.length_map];exact hl,vs,_,rv,ha⟩
      . have z':=(if_neg hb).symm.trans z
        cases z'
    . by_cases hb:b=a
      . exact hb
      . exact absurd (if_neg hb) z
end L2
namespace L2
open PySem PySem.Spec PyProof.Rows
abbrev KOf {K:W.Frag} {h:Heap} (_:K.In h):W.Frag:=K
theorem walk_of {l:W.OpenLaw} {n k:Nat} {q:Program} {loose:List Str} {XP:(Str->Option Value)->Heap->Prop} {YP:World->Heap->Prop} {d:DefRec} {K:Params->W.Frag} {CX:World->iI} {sp:World->Sp} {x:Str}
  (hn:l.most=some n) (hn2:n<=sizeLine) (hdf:d.params.defaults=[]) (hr:ci k callerA)
  (hY:∀(w:World) (h:Heap),YP w h->(K w.params).In h)
  (F:∀(w:World) (mg:Str->Option Value) (fa:Addr) (h:Heap),(K w.params).In h->h.Ns mainGlobals mg->mg d.name=some (.ref fa) ->
   ∃fd:FuncData,(∀(s:Shared) (u:Value),BindsTo s fd ⟨[u],[]⟩ [(x,u)]) /\
    ∀base:Heap,(K w.params).In base->base.Ns mainGlobals mg->bS l.prog w (K w.params) mg base (CX w) k fa fd [x] (sp w))
  (hsp:∀(w:World) (H:Hp) (a:Addr) (ns:List Int),ns.length<=n->sN H->cq (K w.params) H a (ns.map V.int)->sp w [.ref a] H (fun v _=>v=.bl true) fun _ _ _=>False)
  (hCX:∀(w:World) (H:Hp) (s:Shared) (e:Value) (s':Shared),CX w [] H s (fun _ _ _=>False) e s'->False) :
  W.WalkO q loose XP YP l.row.toRowW d [] (fun f vs=>PySem.call f vs):=by
 refine Att.attach_call hn hdf fun w s₀ s₁ mg mb fa o pm cd doc a vs ns G Y ho hd hcd hmg hobj hints hlen hg=>?_
 have KX:=hY w _ Y
 obtain ⟨fd,hb,hF⟩:=F w mg fa _ KX G.T.g hmg
 exact rg KX G.T.g G.T.b G.T.builtins G.T.nolimit hg hobj hints (Nat.le_trans hlen hn2) hr hF hb (fun H hO hS=>hsp w H a ns hlen hO hS) fun H e s'=>hCX w H s₁ e s'
end L2
/- THE LAST THEOREM (shape;LID,My.* are yours):
   My.Adr: a structure of the addresses that your layer names (classes,functions);My.Txt K t: a structure (Prop) of the equations over K;
   My.txt_mk:{K} {implicit addresses ..} (e1:nsIn K mainGlobals "law" = some (some (.ref f))) (e2:K.lookup f=some ⟨oc,od,.func (fnOf "law" "law" params body scope dV kV doc pm an cdv ct),sl⟩) (e3:codeIn K cdv "law" = true) ..:∃t,My.Txt K t
set_option maxRecDepth 100000 in
set_option maxHeartbeats 0 in
theorem PySem.Challenge.cw_LID_holds : PySem.Challenge.rw_LID.Holds := by
 w_on;o_law;k_head;(case hw=>w_witness2)
 k_fill
 refine L2.walk_of (l:=PySem.Challenge.rw_LID) (n:=63) (k:=40) (x := "script") (CX:=fun w=>..) (sp:=fun _=>My.sp_law) rfl (by decide) rfl ⟨rfl,by decide,by decide⟩ (fun w h Y=>PySem.W.kIn_of Y) ?F ?S ?C
 case F =>
  intro w mg fa h KX G hmg
  have T:∃t,My.Txt (L2.KOf KX) t:=by
   dsimp only [L2.KOf]                          -- K must stand as «<heap const> w.params» for k_is
   refine' My.txt_mk ?e1 ?e2 ?e3 ..
   (case e1=>PySem.W.k_is)                    -- in the order: a name->its address->its object->its parts
   (case e2=>PySem.W.k_is)
   ..
  obtain ⟨t,T⟩:=T
  have e0:=hmg.symm.trans (PySem.W.mg_of KX G T.law)
  cases e0                                       -- fa is the law's own address
  exact ⟨_,fun s u=>.of_eq rfl,fun base kb nb=>My.law_fn T kb nb⟩     -- if «.of_eq rfl» comes too early: refine' ⟨_,?b,fun base kb nb=>My.law_fn T kb nb⟩;exact fun s u=>.of_eq rfl
 case S=>exact fun w H a ns hl hO hS=>..
 case C=>exact ..
(the tactic k_is has no namespace: write k_is) -/
namespace L2
open PySem PySem.Spec PyProof.Rows
def aM (s:Stmt):Arguments:=match s with
 | .FunctionDef _ a _ _ _ _ _ _ _ _=>a
 | _ => { posonlyargs:=[],args:=[],vararg:=none,kwonlyargs:=[],kw_defaults:=[],kwarg:=none,defaults:=[] }
def ao (s:Stmt):List Stmt:=match s with
 | .FunctionDef _ _ b _ _ _ _ _ _ _=>b
 | _=>[]
def ae (s:Stmt):Scope:=match s with
 | .FunctionDef _ _ _ _ _ _ sc _ _ _=>sc
 | _ => { kind:=.function,names:=[],isGenerator:=false,isCoroutine:=false }
abbrev dM:iI:=fun _ _ _ _ _ _=>False
abbrev E0:XK:=fun _ _ _=>False
theorem iu {X:Cx}:fk dM X E0:=fun _ _ _ _ _ _ _ h=>h.elim
structure jg (K:W.Frag) (x qual:Str) (st:Stmt) (f:Addr) (fd:FuncData):Prop where
 ex:∃(oc:Value) (od:Option Addr) (kV doc pm:Value) (an:Option Addr) (cdv ct:Value) (osl:Array (Option Value)),
  fd=W.fnOf x qual (aM st) (ao st) (ae st) .none kV doc pm an cdv ct/\K.lookup f=some ⟨oc,od,.func fd,osl⟩/\W.codeIn K cdv qual=true
 kp:W.keepIn K (.ref f)=true
section
variable {P:Program} {w:World} {K:W.Frag} {mg:Str->Option Value} {base:Heap}
theorem jg.ok {x qual:Str} {st:Stmt} {f:Addr} {fd:FuncData} {N ps:List Str} {k:Nat} {sp:Sp} (F:jg K x qual st f fd) (S:aF N ps (ae st)) (len:∀vs H Q E,sp vs H Q E->vs.length=ps.length)
  (hbody:∀(cdv:Value) (A:Around) (outer:List Env) (s:Shared) (H:Hp) (vs:List V) (Q:VK) (E:XK),ci k (A.deeper (envOfC qual (ae st) s.heap.objs.size f cdv))->sp vs H Q E ->
   ∃t,fO (jA dM P w K mg base N qual (ae st) f cdv A outer s H E).nox (ao st) t/\t { nx:=fun _ H'=>Q .non H',rt:=Q } (start N vs) H):bS P w K mg base dM (k+1) f fd ps sp:=by
 obtain ⟨oc,od,kV,doc,pm,an,cdv,ct,osl,rfl,lk,hcd⟩:=F.ex
 refine JZ lk hcd S len fun A outer s H vs Q E hr hsp=>?_
 obtain ⟨t,h,q⟩:=hbody cdv A outer s H vs Q E hr hsp
 exact ⟨t,h.nox,q⟩
theorem jg.binds {x qual:Str} {st:Stmt} {f:Addr} {fd:FuncData} {ps:List Str} (F:jg K x qual st f fd)
  (h:∀(kV doc pm:Value) (an:Option Addr) (cdv ct:Value) (us:List Value),us.length=ps.length->bindArgs (W.fnOf x qual (aM st) (ao st) (ae st) .none kV doc pm an cdv ct) ⟨us,[]⟩=pure (ps.zip us)):cE K fd ps []:=by
 obtain ⟨oc,od,kV,doc,pm,an,cdv,ct,osl,rfl,lk,hcd⟩:=F.ex
 exact .all (h kV doc pm an cdv ct)
theorem aX {x qual:Str} {st:Stmt} {f:Addr} {oc:Value} {od an:Option Addr} {osl:Array (Option Value)} {kV doc pm cdv ct:Value} (l:K.lookup f=some ⟨oc,od,.func (W.fnOf x qual (aM st) (ao st) (ae st) .none kV doc pm an cdv ct),osl⟩)
  (c:W.codeIn K cdv qual=true) (k:W.keepIn K (.ref f)=true):jg K x qual st f (W.fnOf x qual (aM st) (ao st) (ae st) .none kV doc pm an cdv ct):=⟨⟨oc,od,kV,doc,pm,an,cdv,ct,osl,rfl,l,c⟩,k⟩
end
section
variable {X:Cx}
end
def aA (H H':Hp):Prop:=∀b o,H b=some o->H' b=some o
theorem aA.refl (H:Hp):aA H H:=fun _ _ h=>h
theorem aA.trans {H H1 H2:Hp} (a:aA H H1) (b:aA H1 H2):aA H H2:=fun c o h=>b c o (a c o h)
theorem aA.free {H H':Hp} (e:aA H H') {l:Addr} (h:H' l=Option.none):H l=Option.none:=by
 cases q:H l with
 | none=>rfl
 | some o =>
  rw [e l o q] at h
  cases h
theorem aA.seq {K:W.Frag} {H H':Hp} {a:Addr} {xs:List V} (e:aA H H') (h:cq K H a xs):cq K H' a xs:=by
 rcases h with (h | ⟨o,h⟩) | h
 ·exact .inl (.inl (e _ _ h))
 ·exact .inl (.inr ⟨o,e _ _ h⟩)
 ·exact .inr h
end L2
namespace L2
open PySem PySem.Spec PyProof.Rows
section
variable {κ:Type} [DecidableEq κ]
def lE (kvs:List (κ×V)) (k:κ):Option V:=(kvs.find? fun kv=>decide (kv.1=k)).map (·.2)
def yC (kvs:List (κ×V)) (k:κ) (v:V):List (κ×V) :=
 if (kvs.any fun kv=>decide (kv.1=k))=true then kvs.map (fun kv=>if kv.1=k then (kv.1,v) else kv) else kvs++[(k,v)]
def AW (kvs:List (κ×V)) (k:κ):List (κ×V):=kvs.filter fun kv=>decide (kv.1≠k)
theorem yh {p:κ×V} {r:List (κ×V)} {k:κ} (e:p.1=k):lE (p::r) k=some p.2:=by simp [lE,List.find?_cons,e]
theorem yi {p:κ×V} {r:List (κ×V)} {k:κ} (e:¬ p.1=k):lE (p::r) k=lE r k:=by simp [lE,List.find?_cons,e]
theorem f9.getD {o:Option V} {u:Option Value} {d:V} {d':Value} (r:f9 o u) (rd:aT d d'):aT (o.getD d) (u.getD d'):=by
 cases o with
 | none=>cases u with
  | none=>exact rd
  | some _=>exact (show False from r).elim
 | some _=>cases u with
  | none=>exact (show False from r).elim
  | some _=>exact r
theorem KV.val {kvs:List (κ×V)} {vs:List (κ×Value)} (r:KV kvs vs) (k:κ):f9 (lE kvs k) (valueAt vs k):=by
 unfold KV at r
 induction r with
 | nil=>exact True.intro
 | @cons p q ps qs h t ih =>
  obtain ⟨h1,h2⟩:=h
  by_cases e:p.1=k
  ·have e':q.1=k:=h1.symm.trans e
   have b:valueAt (q::qs) k=some q.2:=by simp [valueAt,List.find?_cons,e']
   rw [yh e,b];exact h2
  ·have e':¬ q.1=k:=fun z=>e (h1.trans z)
   have b:valueAt (q::qs) k=valueAt qs k:=by simp [valueAt,List.find?_cons,e']
   rw [yi e,b];exact ih
theorem KV.any {kvs:List (κ×V)} {vs:List (κ×Value)} (r:KV kvs vs) (k:κ):(kvs.any fun kv=>decide (kv.1=k))=vs.any fun kv=>decide (kv.1=k):=by
 unfold KV at r
 induction r with
 | nil=>rfl
 | cons h t ih=>rw [List.any_cons,List.any_cons,ih,h.1]
theorem KV.repl {kvs:List (κ×V)} {vs:List (κ×Value)} (r:KV kvs vs) (k:κ) {y:V} {u:Value} (ry:aT y u) :
  KV (kvs.map fun kv=>if kv.1=k then (kv.1,y) else kv) (vs.map fun kv=>if kv.1=k then (kv.1,u) else kv):=by
 unfold KV at r ⊢
 induction r with
 | nil=>exact .nil
 | @cons p q ps qs h t ih =>
  rw [List.map_cons,List.map_cons]
  refine .cons ?_ ih
  obtain ⟨h1,h2⟩:=h
  by_cases e:p.1=k
  ·rw [if_pos e,if_pos (h1.symm.trans e)];exact ⟨h1,ry⟩
  ·rw [if_neg e,if_neg (fun z=>e (h1.trans z))];exact ⟨h1,h2⟩
theorem KV.put {kvs:List (κ×V)} {vs:List (κ×Value)} (r:KV kvs vs) (k:κ) {y:V} {u:Value} (ry:aT y u):KV (yC kvs k y) (stored vs k u):=by
 unfold yC stored
 rw [r.any k]
 by_cases e:(vs.any fun kv=>decide (kv.1=k))=true
 ·rw [if_pos e,if_pos e];exact r.repl k ry
 ·rw [if_neg e,if_neg e];exact Paired.snoc r ⟨rfl,ry⟩
theorem KV.drop {kvs:List (κ×V)} {vs:List (κ×Value)} (r:KV kvs vs) (k:κ):KV (AW kvs k) (without vs k):=by
 unfold KV at r ⊢
 unfold AW without
 induction r with
 | nil=>exact .nil
 | @cons p q ps qs h t ih =>
  obtain ⟨h1,h2⟩:=h
  rw [List.filter_cons,List.filter_cons]
  by_cases e:p.1=k
  ·have a:¬ decide (p.1≠k)=true:=by simp [e]
   have b:¬ decide (q.1≠k)=true:=by simp [h1.symm.trans e]
   rw [if_neg a,if_neg b];exact ih
  ·have e':¬ q.1=k:=fun z=>e (h1.trans z)
   have a:decide (p.1≠k)=true:=by simp [e]
   have b:decide (q.1≠k)=true:=by simp [e']
   rw [if_pos a,if_pos b];exact .cons ⟨h1,h2⟩ ih
theorem KV.length {kvs:List (κ×V)} {vs:List (κ×Value)} (r:KV kvs vs):kvs.length=vs.length:=Paired.length r
end
end L2
set_option maxHeartbeats 4000000
namespace Sp
open PySem PySem.Spec PyProof.Rows L2
inductive D where
 | non|bl (b:Bool) | int (i:Int) | str (x:Str) | dct (ks:List dJ) (ds:List D) | tup (l:List D) | lst (l:List D) | typ (n:String) | sn (n:Nat) | obj (n:Str) (ns:List Str) (ds:List D) | cls (n:Str)
mutual
def D.lless:D->Bool
 | .lst _=>false
 | .dct _ _=>false
 | .tup l=>ax l
 | _=>true
def ax:List D->Bool
 | []=>true
 | d::l=>d.lless&&ax l
end
def sO (K:W.Frag) (H:Hp) (a:Addr) (vs:List V):Bool->Prop
 | true=>H a=some (.lst vs)
 | false=>(∃o,H a=some (.frz o (.lst vs)))\/∃(o:Obj) (its:Array Value) (n:Nat),K.lookup a=some o/\o.cls=.type "list" /\ o.dict=none/\o.data=.seq its n/\its.size<=sizeLine/\aK vs its.toList
theorem sO.sq {K:W.Frag} {H:Hp} {a:Addr} {vs:List V}:∀{b:Bool},sO K H a vs b->cq K H a vs
 | true,h=>cq.of h
 | false,.inl ⟨o,h⟩=>.inl (.inr ⟨o,h⟩)
 | false,.inr h=>.inr h
structure qh (K:W.Frag) (C:Addr):Prop where
 ha:W.findIn K (.ref C) "__class__" = some (some (.builtin "object.__class__"))
 hn:W.specialIn K (.builtin "object.__class__") "__get__" = some (some (.builtin "getset_descriptor.__get__"))
 ht:W.takesIn K (.builtin "object.__class__")=some true
 hm:W.mroIn K C (.type "object")=some true
def G7:List Str:=["Deed", "Turn", "HalfTurn", "Mirror"]
def qw (m n:Str):Bool:=decide (m=n) || (decide (n = "Deed")&&(decide (m = "Turn") || decide (m = "HalfTurn") || decide (m = "Mirror")))
structure KA (K:W.Frag) (C:Addr) (n:Str):Prop where
 all:∀m∈G7,∀Cm,W.nsIn K mainGlobals m=some (some (.ref Cm))->qh K Cm/\W.kitOne K (.ref Cm) (.ref C)=some (qw m n)
abbrev bz:=Addr->Bool->Prop
mutual
def al (K:W.Frag) (H:Hp) (P:bz):D->V->Prop
 | .non,v=>v=.non
 | .bl b,v=>v=.bl b
 | .int i,v=>v=.int i
 | .str x,v=>v=.str x
 | .dct ks ds,v=>ax ds=true/\ks.length=ds.length/\∃a vs,v=.ref a/\H a=some (.dK (ks.zip vs))/\P a true/\ai K H P ds vs
 | .typ n,v=>v=.ty n
 | .sn n,v => ∃a S,v=.ref a/\H a=some (.set S n)
 | .cls n,v => ∃C o,v=.ref C/\W.nsIn K mainGlobals n=some (some (.ref C))/\K.lookup C=some o/\o.cls=.type "type" /\ qh K C/\KA K C n
 | .obj n ns ds,v=>ax ds=true/\ns.length=ds.length/\∃a C dx vs,v=.ref a/\W.nsIn K mainGlobals n=some (some (.ref C))/\eO K C/\H a=some (.ins C dx (ns.zip vs))/\ai K H P ds vs
 | .tup l,v => ∃a vs,v=.ref a/\cm K H a vs/\ai K H P l vs
 | .lst l,v => ∃a vs b,v=.ref a/\sO K H a vs b/\P a b/\ai K H P l vs
def ai (K:W.Frag) (H:Hp) (P:bz):List D->List V->Prop
 | [],vs=>vs=[]
 | d::l,vs => ∃v r,vs=v::r/\al K H P d v/\ai K H P l r
end
def nm:HO->Prop
 | .lst _=>False
 | .dK _=>False
 | _=>True
structure dY (P P':bz) (H H':Hp):Prop where
 oth:∀a o,H a=some o->nm o->H' a=some o
 lst:∀a o,H a=some o->P a true->H' a=some o
 impT:∀a o,H a=some o->P a true->P' a true
 impF:∀a,P a false->P' a false
theorem dY.sq {P P':bz} {H H':Hp} {K:W.Frag} (s:dY P P' H H') {a:Addr} {vs:List V} (h:cm K H a vs):cm K H' a vs:=by
 rcases h with (h | ⟨o,h⟩) | h
 ·exact .inl (.inl (s.oth _ _ h True.intro))
 ·exact .inl (.inr ⟨o,s.oth _ _ h True.intro⟩)
 ·exact .inr h
theorem dY.ls {P P':bz} {H H':Hp} {K:W.Frag} (s:dY P P' H H') {a:Addr} {vs:List V}:∀{b:Bool},sO K H a vs b->P a b->sO K H' a vs b
 | true,h,p=>s.lst a _ h p
 | false,.inl ⟨o,h⟩,_=>.inl ⟨o,s.oth _ _ h True.intro⟩
 | false,.inr h,_=>.inr h
theorem dY.imp {P P':bz} {H H':Hp} {K:W.Frag} (s:dY P P' H H') {a:Addr} {vs:List V}:∀{b:Bool},sO K H a vs b->P a b->P' a b
 | true,h,p=>s.impT a _ h p
 | false,_,p=>s.impF a p
mutual
theorem al.mono {K:W.Frag} {P P':bz} {H H':Hp} (s:dY P P' H H'):∀{d:D} {v:V},al K H P d v->al K H' P' d v
 | .non,v,h=>by rw [al] at h ⊢;exact h
 | .bl b,v,h=>by rw [al] at h ⊢;exact h
 | .int i,v,h=>by rw [al] at h ⊢;exact h
 | .str x,v,h=>by rw [al] at h ⊢;exact h
 | .dct ks ds,v,h=>by
  rw [al] at h ⊢
  obtain ⟨f,e0,a,vs,e,h1,p,r⟩:=h
  exact ⟨f,e0,a,vs,e,s.lst _ _ h1 p,s.impT _ _ h1 p,ai.mono s r⟩
 | .typ n,v,h=>by rw [al] at h ⊢;exact h
 | .sn n,v,h=>by
  rw [al] at h ⊢
  obtain ⟨a,S,e,h⟩:=h
  exact ⟨a,S,e,s.oth _ _ h True.intro⟩
 | .cls n,v,h=>by rw [al] at h ⊢;exact h
 | .obj n ns ds,v,h=>by
  rw [al] at h ⊢
  obtain ⟨f,e0,a,C,dx,vs,e,h1,h2,h3,r⟩:=h
  exact ⟨f,e0,a,C,dx,vs,e,h1,h2,s.oth _ _ h3 True.intro,ai.mono s r⟩
 | .tup l,v,h=>by
  rw [al] at h ⊢
  obtain ⟨a,vs,e,h,r⟩:=h
  exact ⟨a,vs,e,s.sq h,ai.mono s r⟩
 | .lst l,v,h=>by
  rw [al] at h ⊢
  obtain ⟨a,vs,b,e,h,p,r⟩:=h
  exact ⟨a,vs,b,e,s.ls h p,s.imp h p,ai.mono s r⟩
theorem ai.mono {K:W.Frag} {P P':bz} {H H':Hp} (s:dY P P' H H'):∀{l:List D} {vs:List V},ai K H P l vs->ai K H' P' l vs
 | [],vs,h=>by rw [ai] at h ⊢;exact h
 | d::l,vs,h=>by
  rw [ai] at h ⊢
  obtain ⟨v,r,e,h1,h2⟩:=h
  exact ⟨v,r,e,al.mono s h1,ai.mono s h2⟩
end
theorem dY.same {P P':bz} {H H':Hp} (s:aA H H') (i:∀a b,P a b->P' a b):dY P P' H H':=⟨fun a o h _=>s a o h,fun a vs h _=>s a _ h,fun a _ _ p=>i a true p,fun a p=>i a false p⟩
theorem al.same {K:W.Frag} {P:bz} {H H':Hp} (s:aA H H') {d:D} {v:V} (h:al K H P d v):al K H' P d v:=h.mono (.same s fun _ _ p=>p)
theorem ai.same {K:W.Frag} {P:bz} {H H':Hp} (s:aA H H') {d:List D} {v:List V} (h:ai K H P d v):ai K H' P d v:=h.mono (.same s fun _ _ p=>p)
theorem al.imp {K:W.Frag} {P P':bz} {H:Hp} (i:∀a b,P a b->P' a b) {d:D} {v:V} (h:al K H P d v):al K H P' d v:=h.mono (.same (aA.refl _) i)
theorem ai.imp {K:W.Frag} {P P':bz} {H:Hp} (i:∀a b,P a b->P' a b) {d:List D} {v:List V} (h:ai K H P d v):ai K H P' d v:=h.mono (.same (aA.refl _) i)
theorem al.impH {K:W.Frag} {P P':bz} {H:Hp} (i:∀a o,H a=some o->P a true->P' a true) (j:∀a,P a false->P' a false) {d:D} {v:V} (h:al K H P d v):al K H P' d v:=h.mono ⟨fun _ _ h _=>h,fun _ _ h _=>h,i,j⟩
theorem ai.impH {K:W.Frag} {P P':bz} {H:Hp} (i:∀a o,H a=some o->P a true->P' a true) (j:∀a,P a false->P' a false) {d:List D} {v:List V} (h:ai K H P d v):ai K H P' d v:=h.mono ⟨fun _ _ h _=>h,fun _ _ h _=>h,i,j⟩
mutual
theorem al.flat {K:W.Frag} {P:bz} (P':bz) {H:Hp}:∀{d:D} {v:V},d.lless=true->al K H P d v->al K H P' d v
 | .non,v,_,h=>by rw [al] at h ⊢;exact h
 | .bl b,v,_,h=>by rw [al] at h ⊢;exact h
 | .int i,v,_,h=>by rw [al] at h ⊢;exact h
 | .str x,v,_,h=>by rw [al] at h ⊢;exact h
 | .dct _ _,v,f,h=>by rw [D.lless] at f;cases f
 | .typ n,v,_,h=>by rw [al] at h ⊢;exact h
 | .sn n,v,_,h=>by rw [al] at h ⊢;exact h
 | .cls n,v,_,h=>by rw [al] at h ⊢;exact h
 | .obj n ns ds,v,_,h=>by
  rw [al] at h ⊢
  obtain ⟨f,e0,a,C,dx,vs,e,h1,h2,h3,r⟩:=h
  exact ⟨f,e0,a,C,dx,vs,e,h1,h2,h3,ai.flat P' f r⟩
 | .tup l,v,f,h=>by
  rw [al] at h ⊢
  obtain ⟨a,vs,e,h,r⟩:=h
  exact ⟨a,vs,e,h,ai.flat P' (by rw [D.lless] at f;exact f) r⟩
 | .lst l,v,f,h=>by rw [D.lless] at f;cases f
theorem ai.flat {K:W.Frag} {P:bz} (P':bz) {H:Hp}:∀{l:List D} {vs:List V},ax l=true->ai K H P l vs->ai K H P' l vs
 | [],vs,_,h=>by rw [ai] at h ⊢;exact h
 | d::l,vs,f,h=>by
  rw [ai] at h ⊢
  rw [ax,Bool.and_eq_true] at f
  obtain ⟨v,r,e,h1,h2⟩:=h
  exact ⟨v,r,e,al.flat P' f.1 h1,ai.flat P' f.2 h2⟩
end
theorem ai.length {K:W.Frag} {P:bz} {H:Hp}:∀{l:List D} {vs:List V},ai K H P l vs->l.length=vs.length
 | [],vs,h=>by rw [ai] at h;subst h;rfl
 | d::l,vs,h=>by
  rw [ai] at h
  obtain ⟨v,r,e,h1,h2⟩:=h
  subst e
  rw [List.length_cons,List.length_cons,h2.length]
theorem ai.get {K:W.Frag} {P:bz} {H:Hp}:∀{l:List D} {vs:List V} {i:Nat} {d:D},ai K H P l vs->l[i]?=some d->∃v,vs[i]?=some v/\al K H P d v
 | [],vs,i,d,h,e=>by simp at e
 | x::l,vs,0,d,h,e=>by
  rw [ai] at h
  obtain ⟨v,r,rfl,h1,h2⟩:=h
  simp at e;subst e
  exact ⟨v,by simp,h1⟩
 | x::l,vs,i+1,d,h,e=>by
  rw [ai] at h
  obtain ⟨v,r,rfl,h1,h2⟩:=h
  obtain ⟨u,h3,h4⟩:=ai.get (i:=i) h2 (by simpa using e)
  exact ⟨u,by simpa using h3,h4⟩
theorem ai.append {K:W.Frag} {P:bz} {H:Hp}:∀{l m:List D} {vs ws:List V},ai K H P l vs->ai K H P m ws->ai K H P (l++m) (vs++ws)
 | [],m,vs,ws,h,g=>by rw [ai] at h;subst h;exact g
 | d::l,m,vs,ws,h,g=>by
  rw [ai] at h
  obtain ⟨v,r,rfl,h1,h2⟩:=h
  show ai K H P (d::(l++m)) (v::(r++ws))
  rw [ai]
  exact ⟨v,_,rfl,h1,ai.append h2 g⟩
theorem ai.one {K:W.Frag} {P:bz} {H:Hp} {d:D} {v:V} (h:al K H P d v):ai K H P [d] [v]:=by
 rw [ai];exact ⟨v,[],rfl,h,by rw [ai]⟩
theorem ai.nil {K:W.Frag} {P:bz} {H:Hp}:ai K H P [] []:=by rw [ai]
theorem ai.cons {K:W.Frag} {P:bz} {H:Hp} {d:D} {v:V} {l:List D} {vs:List V} (h:al K H P d v) (g:ai K H P l vs):ai K H P (d::l) (v::vs):=by
 rw [ai];exact ⟨v,vs,rfl,h,g⟩
theorem ai.take {K:W.Frag} {P:bz} {H:Hp}:∀{l:List D} {vs:List V} (n:Nat),ai K H P l vs->ai K H P (l.take n) (vs.take n)
 | [],vs,n,h=>by rw [ai] at h;subst h;simp;exact ai.nil
 | d::l,vs,0,h=>by simp;exact ai.nil
 | d::l,vs,n+1,h=>by
  rw [ai] at h
  obtain ⟨v,r,rfl,h1,h2⟩:=h
  exact ai.cons h1 (ai.take n h2)
theorem ai.drop {K:W.Frag} {P:bz} {H:Hp}:∀{l:List D} {vs:List V} (n:Nat),ai K H P l vs->ai K H P (l.drop n) (vs.drop n)
 | [],vs,n,h=>by rw [ai] at h;subst h;simp;exact ai.nil
 | d::l,vs,0,h=>h
 | d::l,vs,n+1,h=>by
  rw [ai] at h
  obtain ⟨v,r,rfl,h1,h2⟩:=h
  exact ai.drop n h2
theorem ai.mapInt {K:W.Frag} {P:bz} {H:Hp}:∀{ns:List Int} {vs:List V},ai K H P (ns.map D.int) vs->vs=ns.map V.int
 | [],vs,h=>by rw [List.map_nil,ai] at h;exact h
 | n::ns,vs,h=>by
  rw [List.map_cons,ai] at h
  obtain ⟨v,r,rfl,h1,h2⟩:=h
  rw [al] at h1
  rw [h1,ai.mapInt h2];rfl
theorem ai.ofInts {K:W.Frag} {P:bz} {H:Hp}:∀{ns:List Int},ai K H P (ns.map D.int) (ns.map V.int)
 | []=>ai.nil
 | n::ns=>ai.cons (by rw [al]) ai.ofInts
abbrev Ow:=Addr->Option (Option Str)
def Kp (ow:Ow) (H:Hp):Nat->bz
 | 0=>fun a b=>b=true/\H a=none
 | 1=>fun a b=>b=true->ow a=none
 | 2=>fun a b=>b=true/\(ow a≠none\/H a=none)
 | _=>fun _ _=>True
def kj:Nat->Nat->Nat
 | 0,k=>k
 | k,0=>k
 | 1,1=>1
 | 2,2=>2
 | _,_=>3
def jp (ow:Ow) (x:Str):Bool->bz
 | true=>fun a b=>b=true/\ow a=some (some x)
 | false=>fun a b=>b=true->ow a=none
def fb (ow:Ow) (H:Hp):Prop:=∀a,ow a≠none->∃o,H a=some o
theorem fb.same {ow:Ow} {H H':Hp} (o:fb ow H) (s:aA H H'):fb ow H':=fun a h=>let ⟨x,e⟩:=o a h;⟨x,s a x e⟩
theorem fb.free {ow:Ow} {H:Hp} (o:fb ow H) {a:Addr} (h:H a=none):ow a=none:=by
 cases e:ow a with
 | none=>rfl
 | some x=>obtain ⟨y,q⟩:=o a (by rw [e];exact (fun z=>nomatch z));rw [h] at q;cases q
theorem Kp.back {ow:Ow} {H H':Hp} (s:aA H H'):∀(k:Nat) (a:Addr) (b:Bool),Kp ow H' k a b->Kp ow H k a b
 | 0,a,b,h=>⟨h.1,s.free h.2⟩
 | 1,a,b,h=>h
 | 2,a,b,h=>⟨h.1,h.2.imp id fun z=>s.free z⟩
 | _+3,a,b,h=>True.intro
theorem Kp.joinL {ow:Ow} {H:Hp} (o:fb ow H):∀(k j:Nat) (a:Addr) (b:Bool),Kp ow H k a b->Kp ow H (kj k j) a b
 | 0,0,a,b,h=>h
 | 0,1,a,b,h=>fun _=>o.free h.2
 | 0,2,a,b,h=>⟨h.1,.inr h.2⟩
 | 0,_+3,a,b,h=>True.intro
 | 1,0,a,b,h=>h
 | 1,1,a,b,h=>h
 | 1,2,a,b,h=>True.intro
 | 1,_+3,a,b,h=>True.intro
 | 2,0,a,b,h=>h
 | 2,1,a,b,h=>True.intro
 | 2,2,a,b,h=>h
 | 2,_+3,a,b,h=>True.intro
 | _+3,0,a,b,h=>True.intro
 | _+3,1,a,b,h=>True.intro
 | _+3,2,a,b,h=>True.intro
 | _+3,_+3,a,b,h=>True.intro
theorem CW:∀k j,kj k j=kj j k
 | 0,0|0,1|0,2|0,_+3|1,0|1,1|1,2|1,_+3|2,0|2,1|2,2|2,_+3|_+3,0|_+3,1|_+3,2|_+3,_+3=>rfl
theorem Kp.joinR {ow:Ow} {H:Hp} (o:fb ow H) (k j:Nat) (a:Addr) (b:Bool) (h:Kp ow H j a b):Kp ow H (kj k j) a b:=by
 rw [CW];exact Kp.joinL o j k a b h
abbrev ak:=Str->Option (D×Bool)
structure aO (X:Cx) (ow:Ow) (H:Hp) (σ:L2.St) (ρ:ak):Prop where
 get:∀x d o,ρ x=some (d,o)->∃(i:Nat) (v:V),X.N[i]?=some x/\fB X.env.scope x/\σ[i]?=some (some v)/\al X.K H (jp ow x o) d v
 own:fb ow H
theorem aO.same {X:Cx} {ow:Ow} {H H':Hp} {σ:L2.St} {ρ:ak} (e:aO X ow H σ ρ) (s:aA H H'):aO X ow H' σ ρ :=
 ⟨fun x d o h=>let ⟨i,v,h1,h2,h3,h4⟩:=e.get x d o h;⟨i,v,h1,h2,h3,h4.same s⟩,e.own.same s⟩
def tD (X:Cx) (ow:Ow) (ρ:ak) (d:D) (k:Nat):TE:=fun σ H Q=>aO X ow H σ ρ/\∀v H',aA H H'->al X.K H' (Kp ow H k) d v->Q v H'
def ED (X:Cx) (ρ:ak) (e:Expr) (d:D) (k:Nat):Prop:=∀ow,PE X e (tD X ow ρ d k)
def An (X:Cx) (ow:Ow) (ρ:ak) (b:Bool):TT:=fun σ H Q=>aO X ow H σ ρ/\∀H',aA H H'->Q b H'
def TD (X:Cx) (ρ:ak) (e:Expr) (b:Bool):Prop:=∀ow,PT X e (An X ow ρ b)
def Ru (X:Cx) (ow:Ow) (ρ:ak) (ds:List D) (k:Nat):TA:=fun σ H Q=>aO X ow H σ ρ/\∀vs H',aA H H'->ai X.K H' (Kp ow H k) ds vs->Q vs H'
def AD (X:Cx) (ρ:ak) (es:List Expr) (ds:List D) (k:Nat):Prop:=∀ow,PA X es (Ru X ow ρ ds k)
theorem bM {X:Cx} {e:Expr} {t t':TE} (h:PE X e t) (i:∀σ H Q,t' σ H Q->t σ H Q):PE X e t':=fun pins s σ H Q I q=>h pins s σ H Q I (i σ H Q q)
theorem wa {X:Cx} {e:Expr} {t t':TT} (h:PT X e t) (i:∀σ H Q,t' σ H Q->t σ H Q):PT X e t':=fun pins s σ H Q I q=>h pins s σ H Q I (i σ H Q q)
theorem A5 {X:Cx} {e:List Expr} {t t':TA} (h:PA X e t) (i:∀σ H Q,t' σ H Q->t σ H Q):PA X e t':=fun pos pins s σ H Q I q=>h pos pins s σ H Q I (i σ H Q q)
def kn (d:D) (k:Nat):Nat:=if d.lless=true then 0 else k
theorem ED.kn {X:Cx} {ρ:ak} {e:Expr} {d:D} {k:Nat} (h:ED X ρ e d k):ED X ρ e d (Sp.kn d k):=by
 unfold Sp.kn
 by_cases f:d.lless=true
 ·rw [if_pos f]
  exact fun ow=>bM (h ow) fun σ H Q ⟨E,q⟩=>⟨E,fun v H' s r=>q v H' s (r.flat _ f)⟩
 ·rw [if_neg f];exact h
end Sp
namespace Sp
open PySem PySem.Spec PyProof.Rows L2
def KN (K:W.Frag) (J:It) (ds:List D) (P:bz) (H1:Hp):Prop :=
 ∀(i:Nat) (H2:Hp),dY P P H1 H2->(∀d,ds[i]?=some d->J.go i H2/\∀x H3,J.yld i H2 x H3->aA H2 H3/\al K H3 P d x)/\(ds.length<=i->J.stop i H2)
def Kd (ow:Ow) (H:Hp) (k:Nat) (H1:Hp):bz:=fun a b=>Kp ow H k a b/\(b=true->∃o,H1 a=some o)
def tI (X:Cx) (ow:Ow) (ρ:ak) (ds:List D) (k:Nat):TI:=fun σ H R=>aO X ow H σ ρ/\∀J H1,aA H H1->KN X.K J ds (Kd ow H k H1) H1->R J H1
def IE (X:Cx) (ρ:ak) (tg iter:Expr) (ds:List D) (k:Nat):Prop:=∀ow,PI X tg iter (tI X ow ρ ds k)
def hZ (ifs:List Expr) (env:Env):Sem Bool:=forIn ifs true fun c r=>if r=true then do let ok <- isTrue c env (eval c env);pure (ForInStep.yield ok) else pure (ForInStep.yield r)
def xY (X:Cx) (ρ:ak) (ifs:List Expr) (b:Bool):Prop:=∀ow (pins:List (Addr×Obj)) (s:Shared) (σ:L2.St) (H:Hp) (Q:Bool->Hp->Prop),Inv X pins σ H s->An X ow ρ b σ H Q->wpAny (model X.prog X.w) X.A (hZ ifs X.env) (TP X pins σ Q) X.xe s
def GD (X:Cx) (ρ:ak) (tg:Expr) (d:D) (ρ':ak):Prop:=∃g:TG,PG X tg g/\∀(ow:Ow) (v:V) (σ:L2.St) (H:Hp) (Q:L2.St->Hp->Prop),σ.length=X.N.length->aO X ow H σ ρ->al X.K H (fun a b=>b=true->ow a=none) d v->(∀σ',σ'.length=X.N.length->aO X ow H σ' ρ'->Q σ' H)->g v σ H Q
abbrev j6 (X:Cx) (scope:Scope) (cl:List (Str×Addr)) (C:Addr) (N':List Str) (s:Shared) (H:Hp) (fp:List Addr):Cx :=
 { X with N:=N',s₀:=s,H₀:=H,env:=compEnvC scope cl C X.env,outer:=X.stack,stack:=X.stack,ex:=fp,fn:=fun x=>decide (scope.names.lookup x=some .cell),pn:=[],xe:=fun _ _=>False }
theorem ii {env:Env}:∀(names:List (Str×NameKind)) (cs:List (Str×Addr)),(∀n,(n,NameKind.free)∈names->∃c,env.cells.lookup n=some c) ->
  ∃cl,(forIn names cs (fun (x:Str×NameKind) (r:List (Str×Addr))=>(if (x.2==NameKind.free)=true then do let a <- cellOf env x.1;pure (ForInStep.yield ((x.1,a)::r)) else pure (ForInStep.yield r):Sem (ForInStep (List (Str×Addr))))))=(pure cl:Sem (List (Str×Addr))) /\
   (∀x c,cl.lookup x=some c->(env.cells.lookup x=some c/\(x,NameKind.free)∈names)\/cs.lookup x=some c)/\(∀x,(x,NameKind.free)∈names->∃c,cl.lookup x=some c)/\(∀x c,cs.lookup x=some c->∃c',cl.lookup x=some c')
 | [],cs,_=>⟨cs,rfl,fun x c h=>.inr h,fun x h=>(by cases h),fun x c h=>⟨c,h⟩⟩
 | (n,k)::r,cs,h=>by
  have hr:∀n,(n,NameKind.free)∈r->∃c,env.cells.lookup n=some c:=fun m hm=>h m (List.mem_cons_of_mem _ hm)
  by_cases hk:k=.free
  ·subst hk
   obtain ⟨c,hc⟩:=h n List.mem_cons_self
   obtain ⟨cl,e,h1,h2,h3⟩:=ii r ((n,c)::cs) hr
   refine ⟨cl,?_,fun x c' hx=>?_,fun x hx=>?_,fun x c' hx=>?_⟩
   ·rw [List.forIn_cons]
    simp only [beq_self_eq_true,if_true,cellOf,hc]
    rw [pure_bind,pure_bind]
    exact e
   ·rcases h1 x c' hx with q|q
    ·exact .inl ⟨q.1,List.mem_cons_of_mem _ q.2⟩
    ·rw [List.lookup_cons] at q
     split at q
     ·rename_i hb
      have:x=n:=by simpa using hb
      subst this;cases q;exact .inl ⟨hc,List.mem_cons_self⟩
     ·exact .inr q
   ·rcases List.mem_cons.mp hx with q|q
    ·cases q
     exact h3 n c (by simp)
    ·exact h2 x q
   ·by_cases hb:x==n
    ·exact h3 x c (by rw [List.lookup_cons,hb])
    ·exact h3 x c' (by rw [List.lookup_cons];simp only [hb];exact hx)
  ·obtain ⟨cl,e,h1,h2,h3⟩:=ii r cs hr
   refine ⟨cl,?_,fun x c hx=>(h1 x c hx).imp (fun q=>⟨q.1,List.mem_cons_of_mem _ q.2⟩) id,fun x hx=>?_,h3⟩
   ·rw [List.forIn_cons]
    have:(k==NameKind.free)=false:=by simpa using hk
    simp only [this,Bool.false_eq_true,if_false]
    rw [pure_bind]
    exact e
   ·rcases List.mem_cons.mp hx with q|q
    ·cases q;exact absurd rfl hk
    ·exact h2 x q
theorem tt {env:Env} {scope:Scope} (h:∀n,(n,NameKind.free)∈scope.names->∃c,env.cells.lookup n=some c) :
  ∃cl,closureFor scope env=pure cl/\(∀x c,cl.lookup x=some c->env.cells.lookup x=some c/\(x,NameKind.free)∈scope.names)/\(∀x,(x,NameKind.free)∈scope.names->∃c,cl.lookup x=some c):=by
 obtain ⟨cl,e,h1,h2,_⟩:=ii scope.names [] h
 refine ⟨cl,?_,fun x c hx=>(h1 x c hx).resolve_right (by simp),h2⟩
 unfold closureFor
 rw [<- e,<- bind_pure (forIn scope.names _ _)]
theorem du {env:Env}:∀{names:List (Str×NameKind)} {x:Str},names.lookup x=some .free ->
  (names.map fun (n,k)=>if (k==NameKind.free&&env.scope.kind == .function&&env.kindOf n==some .cell) then (n,NameKind.cell) else (n,k)).lookup x=some .cell \/
  (names.map fun (n,k)=>if (k==NameKind.free&&env.scope.kind == .function&&env.kindOf n==some .cell) then (n,NameKind.cell) else (n,k)).lookup x=some .free
 | [],_,h=>by simp at h
 | (n,k)::r,x,h=>by
  have ih:=@du env r x
  show List.lookup x ((if (k==NameKind.free&&env.scope.kind == .function&&env.kindOf n==some .cell)=true then (n,NameKind.cell) else (n,k))::_)=_\/List.lookup x ((if (k==NameKind.free&&env.scope.kind == .function&&env.kindOf n==some .cell)=true then (n,NameKind.cell) else (n,k))::_)=_
  cases hx:x==n with
  | true =>
   simp only [List.lookup_cons,hx] at h
   cases h
   by_cases hc:(NameKind.free==NameKind.free&&env.scope.kind == .function&&env.kindOf n==some .cell)=true
   ·rw [if_pos hc];simp [List.lookup_cons,hx]
   ·rw [if_neg hc];simp [List.lookup_cons,hx]
  | false =>
   simp only [List.lookup_cons,hx] at h
   by_cases hc:(k==NameKind.free&&env.scope.kind == .function&&env.kindOf n==some .cell)=true
   ·rw [if_pos hc];simp only [List.lookup_cons,hx];exact ih h
   ·rw [if_neg hc];simp only [List.lookup_cons,hx];exact ih h
theorem fV {env:Env}:∀{names:List (Str×NameKind)} {x:Str} {k:NameKind},(names.map fun (n,k)=>if (k==NameKind.free&&env.scope.kind == .function&&env.kindOf n==some .cell) then (n,NameKind.cell) else (n,k)).lookup x=some k ->
  names.lookup x=some k\/(k=.cell/\names.lookup x=some .free)
 | [],_,_,h=>by simp at h
 | (n,j)::r,x,k,h=>by
  have ih:=@fV env r x k
  replace h:List.lookup x ((if (j==NameKind.free&&env.scope.kind == .function&&env.kindOf n==some .cell)=true then (n,NameKind.cell) else (n,j))::_)=some k:=h
  cases hx:x==n with
  | true =>
   simp only [List.lookup_cons,hx]
   by_cases hc:(j==NameKind.free&&env.scope.kind == .function&&env.kindOf n==some .cell)=true
   ·rw [if_pos hc] at h
    simp only [List.lookup_cons,hx] at h
    cases h
    have:j=.free:=by
     have:=(Bool.and_eq_true _ _).mp ((Bool.and_eq_true _ _).mp hc).1
     simpa using this.1
    exact .inr ⟨rfl,by rw [this]⟩
   ·rw [if_neg hc] at h
    simp only [List.lookup_cons,hx] at h
    exact .inl h
  | false =>
   simp only [List.lookup_cons,hx]
   by_cases hc:(j==NameKind.free&&env.scope.kind == .function&&env.kindOf n==some .cell)=true
   ·rw [if_pos hc] at h;simp only [List.lookup_cons,hx] at h;exact ih h
   ·rw [if_neg hc] at h;simp only [List.lookup_cons,hx] at h;exact ih h
structure gx (env:Env) (scope:Scope) (N':List Str):Prop where
 kind:scope.kind=.function
 nn:(scope.names.map (·.1)).Nodup
 names:∀y∈scope.names,y.2=.local->scope.names.lookup y.1=some .local
 nd:N'.Nodup
 fr:∀n,(n,NameKind.free)∈scope.names->env.kindOf n=some .cell\/env.kindOf n=some .free
theorem rf:∀{names:List (Str×NameKind)} {x:Str} {k:NameKind},(names.map (·.1)).Nodup->(x,k)∈names->names.lookup x=some k
 | [],_,_,_,h=>by cases h
 | (n,j)::r,x,k,nd,h=>by
  rw [List.map_cons,List.nodup_cons] at nd
  rcases List.mem_cons.mp h with e|h'
  ·cases e;simp
  ·have hx:(x==n)=false:=by
    cases q:x==n with
    | false=>rfl
    | true =>
     have:x=n:=by simpa using q
     subst this
     have hm:x∈r.map (·.1):=List.mem_map.mpr ⟨(x,k),h',rfl⟩
     exact absurd hm nd.1
   rw [List.lookup_cons,hx]
   exact rf nd.2 h'
theorem nh:∀(names:List (Str×NameKind)) (n:Nat) (acc:List (Str×Addr)) {x:Str} {c:Addr},(cellsFrom n names acc).lookup x=some c->acc.lookup x=some c\/(n<=c/\(x,NameKind.cell)∈names)
 | [],_,_,_,_,h=>.inl h
 | (y,k)::r,n,acc,x,c,h=>by
  unfold cellsFrom at h
  split at h
  ·rename_i hk
   have hk:k=.cell:=by simpa using hk
   subst hk
   rcases nh r (n+1) ((y,n)::acc) h with q | ⟨q1,q2⟩
   ·rw [List.lookup_cons] at q
    split at q
    ·rename_i hb
     have:x=y:=by simpa using hb
     subst this
     cases q
     exact .inr ⟨Nat.le_refl _,List.mem_cons_self⟩
    ·exact .inl q
   ·exact .inr ⟨by omega,List.mem_cons_of_mem _ q2⟩
  ·rcases nh r n acc h with q | ⟨q1,q2⟩
   ·exact .inl q
   ·exact .inr ⟨q1,List.mem_cons_of_mem _ q2⟩
theorem sh:∀(names:List (Str×NameKind)) (n:Nat) (acc:List (Str×Addr)),(∀x y c,acc.lookup x=some c->acc.lookup y=some c->x=y)->(∀x c,acc.lookup x=some c->c < n) ->
  ∀x y c,(cellsFrom n names acc).lookup x=some c->(cellsFrom n names acc).lookup y=some c->x=y
 | [],_,_,h,_,x,y,c,a,b=>h x y c a b
 | (z,k)::r,n,acc,h,hb,x,y,c,a,b=>by
  unfold cellsFrom at a b
  split at a
  ·rename_i hk
   rw [if_pos hk] at b
   refine sh r (n+1) ((z,n)::acc) (fun u v d p q=>?_) (fun u d p=>?_) x y c a b
   ·rw [List.lookup_cons] at p q
    split at p
    ·rename_i e1
     split at q
     ·rename_i e2
      rw [show u=z by simpa using e1,show v=z by simpa using e2]
     ·cases p;exact absurd (hb v _ q) (Nat.lt_irrefl _)
    ·split at q
     ·cases q;exact absurd (hb u _ p) (Nat.lt_irrefl _)
     ·exact h u v d p q
   ·rw [List.lookup_cons] at p
    split at p
    ·cases p;exact Nat.lt_succ_self _
    ·exact Nat.lt_succ_of_lt (hb u d p)
  ·rename_i hk
   rw [if_neg hk] at b
   exact sh r n acc h hb x y c a b
theorem oK:∀(names:List (Str×NameKind)) (h:Heap) (acc:List (Str×Addr)),(∀x c,acc.lookup x=some c->∃v,h.IsCell c v)->∀x c,(cellsFrom h.objs.size names acc).lookup x=some c->∃v,(pushCells h names).IsCell c v
 | [],_,_,h,x,c,a=>h x c a
 | (z,k)::r,h,acc,hc,x,c,a=>by
  unfold cellsFrom at a
  unfold pushCells
  split at a
  ·rename_i hk
   rw [if_pos hk]
   have:=oK r (h.push { cls:=.type "cell", data:=.cell none }) ((z,h.objs.size)::acc) (fun u d p=>?_) x c
   ·rw [Heap.size_push] at this
    exact this a
   ·rw [List.lookup_cons] at p
    split at p
    ·cases p;exact ⟨none,_,Heap.get?_push_size _ rfl,rfl⟩
    ·obtain ⟨v,q⟩:=hc u d p
     exact ⟨v,q.keeps fun b o e=>Heap.get?_push_of_some _ e⟩
  ·rename_i hk
   rw [if_neg hk]
   exact oK r h acc hc x c a
theorem wl {M:Model} {A:Around} {E:Value->Shared->Prop} {s:Shared} {scope:Scope} {globals:Addr} {cl:List (Str×Addr)} {qual:Str} {env:Env} {Q:Env->Shared->Prop} (hcl:∀x c,cl.lookup x=some c->∃v,s.heap.IsCell c v)
  (h:∀h',h'.Ns s.heap.objs.size (fun _=>none)->(∀b o,s.heap.get? b=some o->h'.get? b=some o)->(∀x c,(cellsFrom (s.heap.objs.size+1) scope.names cl).lookup x=some c->∃v,h'.IsCell c v) ->
   Q (newEnv scope s.heap.objs.size globals (cellsFrom (s.heap.objs.size+1) scope.names cl) qual none .none (some env) builtinsNs) { s with heap:=h',toks:=s.toks+0 }) :
  wpAny M A (newFunctionEnv scope globals cl [] qual none .none (some env)) Q E s:=by
 simp only [newFunctionEnv,Option.isSome_some,if_true]
 refine wpAny_bind (wpAny_alloc ?_)
 refine wpAny_bind (wpAny_layCells _ (fun name kind cells=>by cases hkc:kind==NameKind.cell <;> simp [hkc]) _ _ _ _ ?_)
 rw [show ({ s with heap:=s.heap.push { cls:=.type "dict", data:=.dict #[] } }:Shared).heap.objs.size=s.heap.objs.size+1 from Heap.size_push ..]
 rw [List.forIn_nil]
 refine wpAny_bind (wpAny_pure (wpAny_pure ?_))
 refine h _ ((Heap.Ns.new s.heap (.type "dict")).keeps (pushCells_keeps _ _)) (fun b o e=>pushCells_keeps _ _ b o (Heap.get?_push_of_some _ e)) fun x c hc=>?_
 have:=oK scope.names (s.heap.push { cls:=.type "dict", data:=.dict #[] }) cl (fun u d p=>by
  obtain ⟨v,q⟩:=hcl u d p
  exact ⟨v,q.keeps fun b o e=>Heap.get?_push_of_some _ e⟩) x c
 rw [Heap.size_push] at this
 exact this hc
structure kZ (X:Cx) (scope:Scope) (cl:List (Str×Addr)) (n:Nat):Prop where
 k1:∀x c,cl.lookup x=some c->X.env.cells.lookup x=some c\/(n < c/\scope.names.lookup x=some .cell)
 k2:∀x,scope.names.lookup x=some .free\/scope.names.lookup x=some .cell->∃c,cl.lookup x=some c
 k4:∀x y c,cl.lookup x=some c->cl.lookup y=some c->x=y
 k5:∀x c,scope.names.lookup x=some .cell->cl.lookup x=some c->n<=c
variable {X:Cx}
theorem zB {pins:List (Addr×Obj)} {σ:L2.St} {H:Hp} {s:Shared} {scope:Scope} {cl:List (Str×Addr)} {N':List Str} (I:Inv X pins σ H s) (S:gx X.env scope N')
  (h1:∀x c,cl.lookup x=some c->X.env.cells.lookup x=some c/\(x,NameKind.free)∈scope.names) (h2:∀x,(x,NameKind.free)∈scope.names->∃c,cl.lookup x=some c) :
  kZ X scope (cellsFrom (s.heap.objs.size+1) scope.names cl) s.heap.objs.size where
 k1:=fun x c h=>by
  rcases nh _ _ _ h with q | ⟨q1,q2⟩
  ·exact .inl (h1 x c q).1
  ·exact .inr ⟨q1,rf S.nn q2⟩
 k2:=fun x h=>by
  refine Option.isSome_iff_exists.mp (W.cellsFrom_some scope.names _ cl ?_)
  rcases h with h|h
  ·obtain ⟨c,hc⟩:=h2 x (PySem.mem_of_lookup h)
   exact .inr (by rw [hc];rfl)
  ·exact .inl h
 k4:=sh scope.names _ cl (fun x y c a b=>I.ok.inj x y c (h1 x c a).1 (h1 y c b).1) fun x c a=>by
  obtain ⟨v,hv⟩:=I.cell x c (h1 x c a).1
  exact Nat.lt_succ_of_lt hv.lt
 k5:=fun x c hx h=>by
  rcases nh _ _ _ h with q | ⟨q1,q2⟩
  ·rw [rf S.nn (h1 x c q).2] at hx;cases hx
  ·omega
theorem Jp {pins:List (Addr×Obj)} {σ:L2.St} {H:Hp} {s:Shared} {scope:Scope} {cl:List (Str×Addr)} {C:Addr} {N':List Str} {fp:List Addr} (I:Inv X pins σ H s) (S:gx X.env scope N')
  (hC:s.heap.objs.size<=C) (k:kZ X scope cl s.heap.objs.size)
  (hf:∀b∈fp,fQ X pins H b) (hfC:∀b∈fp,b < s.heap.objs.size):(j6 X scope cl C N' s H fp).Ok where
 mod:=I.ok.mod
 kind:=by show (relabel scope X.env).kind=_;exact S.kind
 glob:=I.ok.glob
 blt:=I.ok.blt
 above:=hC
 inj:=k.k4
 has:=fun x hx=>by
  have hx:(relabel scope X.env).names.lookup x=some .cell\/(relabel scope X.env).names.lookup x=some .free:=hx
  rcases hx with hx|hx
  ·rcases fV hx with q | ⟨_,q⟩
   ·exact k.k2 x (.inr q)
   ·exact k.k2 x (.inl q)
  ·rcases fV hx with q | ⟨q,_⟩
   ·exact k.k2 x (.inl q)
   ·cases q
 cab:=fun x c h hc=>k.k5 x c (of_decide_eq_true h) hc
 hd:=I.ok.hd
 frames:=I.ok.frames
 stk:=.inl rfl
 exf:=fun b hb=>⟨by have:=hfC b hb;intro z;subst z;show False;exact absurd (Nat.lt_of_lt_of_le this hC) (Nat.lt_irrefl _),fun x c h=>by
  rcases k.k1 x c h with q | ⟨q,_⟩
  ·exact (hf b hb).2.2.2.2.1 x c q
  ·have:=hfC b hb
   intro z;subst z;exact absurd (Nat.lt_trans q this) (Nat.lt_irrefl _)⟩
 bs:=I.bs
 bsz:=Nat.le_trans I.ok.bsz I.sz
 noex:=fun b o e hb=>by
  rcases (hf b hb).2.2.2.1 with q|q
  ·exact I.ok.noex b o e q
  ·exact absurd (Nat.lt_of_lt_of_le (Heap.lt_size e) (Nat.le_trans I.ok.bsz q)) (Nat.lt_irrefl _)
 exfs:=fun b hb z=>by
  rcases List.mem_cons.mp (I.stkSub b z) with q|q
  ·exact (hf b hb).2.1 q
  ·exact (hf b hb).2.2.1 q
 funs:=I.stack
 frf:=I.stkFree
def lH (X:Cx) (scope:Scope) (N':List Str) (σ:L2.St):L2.St:=N'.map fun x=>if scope.names.lookup x=some .free then (σ[X.N.idxOf x]?).join else none
theorem Gg {pins:List (Addr×Obj)} {σ:L2.St} {H:Hp} {s s1:Shared} {scope:Scope} {cl:List (Str×Addr)} {N':List Str} {fp:List Addr} {m:Str->Option Value} (I:Inv X pins σ H s) (S:gx X.env scope N')
  (k:kZ X scope cl s.heap.objs.size) (k6:∀x c,cl.lookup x=some c->∃v,s1.heap.IsCell c v)
  (hf:∀b∈fp,fQ X pins H b) (hfC:∀b∈fp,b < s.heap.objs.size)
  (es:∃h t,s1 = { s with heap:=h,toks:=t }) (hns:s1.heap.Ns s.heap.objs.size m) (hk:∀b o,s.heap.get? b=some o->s1.heap.get? b=some o) :
  Inv (j6 X scope cl s.heap.objs.size N' s H fp) [] (lH X scope N' σ) H s1:=by
 obtain ⟨h',t,rfl⟩:=es
 have I1:Inv X pins σ H { s with heap:=h',toks:=t }:=I.kept hk
 refine ⟨Jp I S (Nat.le_refl _) k hf hfC,rfl,I.bare,Un.kept hk,⟨m,hns,fun i x v e1 e2 e3=>?_⟩,k6,I.hok.fresh (Nat.le_refl _),fun x c h=>(k.k1 x c h).elim (fun q=>I.freeC x c q) fun q=>I.hok.fresh (Nat.le_of_lt q.1),fun p hp=>absurd (show p∈([]:List (Addr×Obj)) from hp) (by simp),I1.hok,?_⟩
 ·have hN:N'[i]?=some x:=e1
  unfold lH at e2
  rw [List.getElem?_map,hN] at e2
  simp only [Option.map_some,Option.some.injEq] at e2
  split at e2
  ·rename_i hfr
   have hj:σ[X.N.idxOf x]?=some (some v):=by
    cases q:σ[X.N.idxOf x]? with
    | none=>rw [q] at e2;cases e2
    | some y=>rw [q] at e2;rw [show y=some v from e2]
   have hlt:X.N.idxOf x < X.N.length:=by rw [<- I.len];exact (List.getElem?_eq_some_iff.mp hj).1
   have hx:X.N[X.N.idxOf x]?=some x:=by
    rw [List.getElem?_eq_getElem hlt,List.getElem_idxOf hlt]
   have kf:=S.fr x (PySem.mem_of_lookup hfr)
   have vis:fB X.env.scope x:=.inr (kf.imp id id)
   obtain ⟨m1,hn1,hl1⟩:=I1.loc
   obtain ⟨u,r,l⟩:=hl1 _ x v hx hj vis
   refine ⟨u,r,.inr ⟨?_,?_⟩⟩
   ·exact du hfr
   ·rcases l with ⟨hk',_⟩ | ⟨_,c,hc,hcell⟩
    ·rcases kf with q|q <;> rw [q] at hk' <;> cases hk'
    ·obtain ⟨c',hc'⟩:=k.k2 x (.inl hfr)
     have:c'=c:=by
      rcases k.k1 x c' hc' with this | ⟨_,this⟩
      ·rw [hc] at this;exact (Option.some.inj this).symm
      ·rw [hfr] at this;cases this
     subst this
     exact ⟨c',hc',hcell⟩
  ·cases e2
 ·unfold lH;simp
def flt (scope:Scope) (ρ:ak):ak:=fun x=>if scope.names.lookup x=some .free then ρ x else none
theorem jx {scope:Scope} {ρ:ak} {x:Str} {y:D×Bool} (h:flt scope ρ x=some y):ρ x=some y/\scope.names.lookup x=some .free:=by
 unfold flt at h
 split at h
 ·rename_i e;exact ⟨h,e⟩
 ·cases h
theorem GF {ow:Ow} {H:Hp} {σ:L2.St} {ρ:ak} {scope:Scope} {cl:List (Str×Addr)} {C:Addr} {N':List Str} {s:Shared} {fp:List Addr} {H0:Hp} (E:aO X ow H σ ρ) (hN:X.N.Nodup)
  (hsub:∀x d o,flt scope ρ x=some (d,o)->x∈N') :
  aO (j6 X scope cl C N' s H0 fp) ow H (lH X scope N' σ) (flt scope ρ):=by
 refine ⟨fun x d o h=>?_,E.own⟩
 obtain ⟨h1,h2⟩:=jx h
 obtain ⟨i,v,e1,e2,e3,e4⟩:=E.get x d o h1
 have hx:x∈N':=hsub x d o h
 have hi:X.N.idxOf x=i:=by
  have hm:x∈X.N:=List.mem_of_getElem? e1
  have hlt:=List.idxOf_lt_length_iff.mpr hm
  exact jr hN (by rw [List.getElem?_eq_getElem hlt,List.getElem_idxOf hlt]) e1
 refine ⟨N'.idxOf x,v,?_,?_,?_,e4⟩
 ·have hlt:=List.idxOf_lt_length_iff.mpr hx
  show N'[N'.idxOf x]?=some x
  rw [List.getElem?_eq_getElem hlt,List.getElem_idxOf hlt]
 ·exact .inr (du h2)
 ·have hlt:=List.idxOf_lt_length_iff.mpr hx
  unfold lH
  rw [List.getElem?_map,List.getElem?_eq_getElem hlt,List.getElem_idxOf hlt]
  simp only [Option.map_some]
  rw [if_pos h2,hi,e3];rfl
end Sp
namespace Sp
open PySem PySem.Spec PyProof.Rows L2
variable {X:Cx}
theorem xz {prog:Program} {w:World} {A:Around} {R:Result->Shared->Prop} {s:Shared} {elt target iter:Expr} {ifs:List Expr} {scope:Scope} {pos:Pos} {it acc:Value} {env:Env} (J:Nat->Shared->Prop)
    (turn:∀n s,J n s->wpAny (model prog w) A (pyNext it) (fun r s₁=>match r with
      | none=>R (.ok .next) s₁
      | some v=>wpAny (model prog w) A (letOwnedTupleGo target it v) (fun _ s₁=>wpAny (model prog w) A (assign target env v) (fun _ s₂ =>
          wpAny (model prog w) A (hZ ifs env) (fun ok s₃ =>
            if ok=true then wpAny (model prog w) A (eval elt env) (fun x s₄ =>
              wpAny (model prog w) A (call (.builtin "list.append") [acc,x]) (fun _ s₅ => ∃m,m < n/\J m s₅) (fun _ _=>False) s₄) (fun _ _=>False) s₃
            else ∃m,m < n/\J m s₃) (fun _ _=>False) s₂) (fun _ _=>False) s₁) (fun _ _=>False) s₁) (fun _ _=>False) s)
    (n:Nat) (h:J n s):codeAny (model prog w) A (.compLoop (.ListComp elt [⟨target,iter,ifs,0⟩] scope pos) 0 it acc env) R s:=by
  refine codeAny_loop rfl J (fun n s hI=>?_) n h
  show wpAny _ A ((compTurn (.ListComp elt [⟨target,iter,ifs,0⟩] scope pos) 0 it acc env).onRaise (fun x=>do noteFrame x env;theTreesLotGoes x)) _ _ s
  refine wpAny_noted ?_
  rw [compTurn_list]
  refine wpAny_bind (wpAny_standAt (wpAny_bind (wpAny_mono (turn n s hI) (fun r s₁ h₁=>?_) fun _ _ h'=>h'.elim)))
  cases r with
  | none=>exact wpAny_pure h₁
  | some v =>
    refine wpAny_bind (wpAny_mono h₁ (fun _ s₁' h₁'=>?_) fun _ _ h'=>h'.elim)
    refine wpAny_bind (wpAny_mono h₁' (fun _ s₂ h₂=>wpAny_bind (wpAny_mono h₂ (fun ok s₃ h₃=>?_) fun _ _ h'=>h'.elim)) fun _ _ h'=>h'.elim)
    cases ok with
    | false=>exact wpAny_pure ⟨rfl,h₃⟩
    | true =>
      exact wpAny_bind (wpAny_bind (wpAny_mono h₃ (fun x s₄ h₄=>wpAny_bind (wpAny_mono h₄ (fun _ s₅ h₅=>wpAny_pure (wpAny_pure ⟨rfl,h₅⟩)) fun _ _ h'=>h'.elim)) fun _ _ h'=>h'.elim))
def kW (X:Cx) (ρ:ak) (tg:Expr) (ifs:List Expr) (elt:Expr) (k:Nat) (d:D) (r:Option D):Prop :=
 ∃ρ' b,GD X ρ tg d ρ'/\(∀x y,ρ x=some y->ρ' x=some y)/\xY X ρ' ifs b/\match r with|some d'=>b=true/\ED X ρ' elt d' k|none=>b=false
theorem fA {ow:Ow} {H:Hp} (o:fb ow H) {a:Addr}:∀{k:Nat},k<=1->Kp ow H k a true->ow a=none
 | 0,_,p=>o.free p.2
 | 1,_,p=>p rfl
 | _+2,h,_=>absurd h (by omega)
theorem CV {ow:Ow} {H H9:Hp} {D:Addr} {x:HO} (sm:aA H H9) (hD:H9 D=some x) {a:Addr} {b:Bool}:∀{k:Nat},k<=1->Kp (fun a=>if a=D then some none else ow a) H9 k a b->Kp ow H k a b/\(b=true->a≠D)
 | 0,_,p=>⟨⟨p.1,sm.free p.2⟩,fun _ z=>by subst z;have:=p.2;rw [hD] at this;cases this⟩
 | 1,_,p=>by
  have p:b=true->(if a=D then some none else ow a)=none:=p
  refine ⟨fun hb=>?_,fun hb hz=>?_⟩
  ·have p:=p hb
   by_cases hz:a=D
   ·rw [if_pos hz] at p;cases p
   ·rw [if_neg hz] at p;exact p
  ·have p:=p hb
   rw [if_pos hz] at p;cases p
 | _+2,h,_=>absurd h (by omega)
theorem w9 {ow:Ow} {H:Hp} {D:Addr} (o:fb ow H) (hD:H D=none):∀{k:Nat},k<=1->Kp ow H k D true
 | 0,_=>⟨rfl,hD⟩
 | 1,_=>fun _=>o.free hD
 | _+2,h=>absurd h (by omega)
theorem mE:∀{l:List D} {i:Nat} {d:D},ax l=true->l[i]?=some d->d.lless=true
 | [],_,_,_,h=>by simp at h
 | x::l,0,d,f,h=>by
  rw [ax,Bool.and_eq_true] at f
  simp at h;subst h;exact f.1
 | x::l,i+1,d,f,h=>by
  rw [ax,Bool.and_eq_true] at f
  exact mE (i:=i) f.2 (by simpa using h)
structure kY (X:Cx) (pins:List (Addr×Obj)) (σ:L2.St) (H5:Hp) (s6:Shared) (C:Addr) (m6:Str->Option Value):Prop where
 inv:Inv X pins σ H5 s6
 ns:s6.heap.Ns C m6
 free:H5 C=none
 loc:C≠X.env.locals
 old:X.s₀.heap.objs.size<=C
 cell:∀x c,X.env.cells.lookup x=some c->c≠C
 pin:∀p∈X.pn++pins,p.1≠C
 fs:C∉X.fs
theorem pD {ow:Ow} {use:Option (Value->Sem Unit)} {Q':Value->Shared->Prop} {pins:List (Addr×Obj)} {s:Shared} {σ:L2.St} {H:Hp} {ρ:ak} {tg elt iter:Expr} {ifs:List Expr} {scope:Scope} {pos pos2:Pos} {ds:List D} {f:D->Option D} {k ko:Nat} {N':List Str}
  (hcalm:X.calm=true) (hN:X.N.Nodup) (hk:ax ds=true\/k<=1) (hko:ko<=1) (hlen:ds.length < sizeLine) (S:gx X.env scope N') (hsub:∀x d o,flt scope ρ x=some (d,o)->x∈N')
  (hi:IE X ρ tg iter ds k)
  (turn:∀cl C s H fp,∀d∈ds,kW (j6 X scope cl C N' s H fp) (flt scope ρ) tg ifs elt ko d (f d))
  (hs:∀x,foldedSetIterable iter X.env x=pure x) (I:Inv X pins σ H s) (E:aO X ow H σ ρ)
  (fin:∀D C s6 H5 m6,kY X pins σ H5 s6 C m6->aA H H5->al X.K H5 (Kp ow H ko) (.lst (ds.filterMap f)) (.ref D)->compPost (model X.prog X.w) X.A X.xe use Q' (.ref D) C (.ok .next) s6) :
  wpAny (model X.prog X.w) X.A (comprehension (.ListComp elt [⟨tg,iter,ifs,0⟩] scope pos) scope X.env pos2 (newList []) false (eval iter X.env) use) Q' X.xe s:=by
 obtain ⟨cl,hclos,h1,h2⟩:=tt (env:=X.env) (scope:=scope) fun n hn=>I.ok.has n (S.fr n hn)
 refine wpAny_comprehension_free rfl hs hclos S.kind S.names ?_
 refine aR (hi ow pins s σ H (fun J H1=>aA H H1/\KN X.K J ds (Kd ow H k H1) H1) I ⟨E,fun J H1 a b=>⟨a,b⟩⟩) fun v s1 h1'=>aR h1' fun itv s2 h2'=>?_
 obtain ⟨it,fp,tn,J,H2,rfl,I2,T,st2,f2,s12,itd⟩:=h2'
 have hD2:H2 s2.heap.objs.size=none:=I2.hok.fresh (Nat.le_refl _)
 refine wpAny_newObj_type (wl (fun x c hc=>(I2.cell x c (h1 x c hc).1).imp fun v q=>q.keeps fun b o e=>Heap.get?_push_of_some _ e) fun h₁ hns₁ kp0 k60=>?_)
 have I3:Inv X pins σ (aN H2 s2.heap.objs.size (.lst [])) { s2 with heap:=s2.heap.push { cls:=.type "list", dict:=none,data:=.seq ([]:List Value).toArray } } :=
  I2.laid (t':=s2.toks) (fun b u e=>Heap.get?_push_of_some _ e) (Nat.le_refl _) ⟨Nat.zero_le _,[],0,.nil,Heap.get?_push_size _ rfl⟩
 generalize hD:s2.heap.objs.size=D at *
 generalize hs3:({ s2 with heap:=s2.heap.push { cls:=.type "list", dict:=none,data:=.seq ([]:List Value).toArray } }:Shared)=s3 at *
 have hsz3:s3.heap.objs.size=D+1:=by rw [<- hs3];show (s2.heap.push _).objs.size=_;rw [Heap.size_push,hD]
 have f3:∀b∈fp,fQ X pins (aN H2 D (.lst [])) b:=fun b hb=>by
  obtain ⟨g0,g⟩:=f2 b hb
  obtain ⟨o,e,_⟩:=T.obj _ _ st2 b hb
  have hlt:=Heap.lt_size e
  rw [hD] at hlt
  exact ⟨by rw [ay (Nat.ne_of_lt hlt)];exact g0,g⟩
 have fl3:∀b∈fp,b < s3.heap.objs.size:=fun b hb=>by
  obtain ⟨o,e,_⟩:=T.obj _ _ st2 b hb
  have hlt:=Heap.lt_size e
  rw [hD] at hlt
  rw [hsz3];exact Nat.lt_succ_of_lt hlt
 have kp:∀b o,s3.heap.get? b=some o->h₁.get? b=some o:=kp0
 have kc:kZ X scope (cellsFrom (s3.heap.objs.size+1) scope.names cl) s3.heap.objs.size:=zB I3 S h1 h2
 generalize hcl':cellsFrom (s3.heap.objs.size+1) scope.names cl=cl' at *
 have I4:=Gg (s1:={ s3 with heap:=h₁,toks:=s3.toks+0 }) (N':=N') I3 S kc k60 f3 fl3 ⟨_,_,rfl⟩ hns₁ kp
 have sH2:∀vs,aA H2 (aN H2 D (.lst vs)):=fun vs b o e=>by rw [ay (bF e hD2)];exact e
 let ow':Ow:=fun a=>if a=D then some none else ow a
 have ow'D:ow' D=some none:=if_pos rfl
 have ow'n:∀a,a≠D->ow' a=ow a:=fun a h=>if_neg h
 have own':∀{H':Hp} (vs:List V),H' D=some (.lst vs)->aA H2 H'->fb ow' H':=fun {H'} vs hd sm a ha=>by
  by_cases hz:a=D
  ·subst hz;exact ⟨_,hd⟩
  ·rw [ow'n a hz] at ha
   obtain ⟨o,e⟩:=(E.same s12).own a ha
   exact ⟨o,sm a o e⟩
 have E4:aO (j6 X scope cl' s3.heap.objs.size N' s3 (aN H2 D (.lst [])) fp) ow' (aN H2 D (.lst [])) (lH X scope N' σ) (flt scope ρ):=by
  have E3:=GF (scope:=scope) (cl:=cl') (C:=s3.heap.objs.size) (N':=N') (s:=s3) (fp:=fp) (H0:=aN H2 D (.lst [])) (E.same s12) hN hsub
  refine ⟨fun x d o h=>?_,own' [] aH (sH2 [])⟩
  obtain ⟨i,v,e1,e2,e3,e4⟩:=E3.get x d o h
  refine ⟨i,v,e1,e2,e3,al.same (sH2 []) (e4.impH (fun a ob ha p=>?_) fun a p=>?_)⟩
  ·have hz:a≠D:=bF ha hD2
   cases o with
   | true=>exact ⟨p.1,(ow'n a hz).trans p.2⟩
   | false=>exact fun _=>(ow'n a hz).trans (p rfl)
  ·cases o with
   | true=>cases p.1
   | false=>exact fun z=>(by cases z)
 generalize hX':j6 X scope cl' s3.heap.objs.size N' s3 (aN H2 D (.lst [])) fp=X' at *
 have turn':∀d∈ds,kW X' (flt scope ρ) tg ifs elt ko d (f d):=fun d hd=>by rw [<- hX'];exact turn _ _ _ _ _ d hd
 have eK:X'.K=X.K:=by rw [<- hX']
 have eP:X'.prog=X.prog:=by rw [<- hX']
 have eW:X'.w=X.w:=by rw [<- hX']
 have eA:X'.A=X.A:=by rw [<- hX']
 have eE:X'.env=compEnvC scope cl' s3.heap.objs.size X.env:=by rw [<- hX']
 have eX:X'.xe=fun _ _=>False:=by rw [<- hX']
 have eC:X'.calm=true:=by rw [<- hX'];exact hcalm
 have stat:∀{H':Hp},(∀b∈fp,H' b=none)->∀b∈fp,fQ X' [] H' b:=fun hn b hb=>by
  rw [<- hX']
  refine ⟨hn b hb,?_,?_,.inl hb,fun x c h=>(kc.k1 x c h).elim (fun q=>(f3 b hb).2.2.2.2.1 x c q) (fun q z=>by subst z;exact absurd (Nat.lt_trans q.1 (fl3 _ hb)) (Nat.lt_irrefl _)),fun p hp=>absurd (show p∈([]:List (Addr×Obj)) from hp) (by simp)⟩
  ·show b≠s3.heap.objs.size
   exact Nat.ne_of_lt (fl3 b hb)
  ·intro z
   rcases List.mem_cons.mp (I3.stkSub b z) with q|q
   ·exact (f3 b hb).2.1 q
   ·exact (f3 b hb).2.2.1 q
 let Pe:bz:=fun a b=>Kp ow H ko a b/\(b=true->a≠D)
 have loop:codeAny (model X.prog X.w) X.A (.compLoop (.ListComp elt [⟨tg,iter,ifs,0⟩] scope pos) 0 (.ref it) (.ref D) (compEnvC scope cl' s3.heap.objs.size X.env)) (compPost (model X.prog X.w) X.A X.xe use Q' (.ref D) s3.heap.objs.size) { s3 with heap:=h₁,toks:=s3.toks+0 }:=by
  refine xz (fun n s' => ∃(i:Nat) (σ':L2.St) (H':Hp) (vs:List V),Inv X' [] σ' H' s'/\tn i s'.heap/\(∀b∈fp,H' b=none)/\aO X' ow' H' σ' (flt scope ρ)/\H' D=some (.lst vs)/\aA H2 H' /\
   ai X.K H' Pe ((ds.take i).filterMap f) vs/\i<=ds.length/\n=ds.length - i) ?_ ds.length
   ⟨0,lH X scope N' σ,aN H2 D (.lst []),[],I4,?_,fun b hb=>(f3 b hb).1,E4,aH,sH2 [],?_,Nat.zero_le _,rfl⟩
  ·rintro n s5 ⟨i,σ5,H5,vs,I5,st5,fr5,E5,hD5,sm5,rp5,hi5,rfl⟩
   have stay:dY (Kd ow H k H2) (Kd ow H k H2) H2 H5:=.same sm5 fun _ _ p=>p
   have itd5:=itd i H5 stay
   by_cases hlt:i < ds.length
   ·obtain ⟨go,yl⟩:=itd5.1 ds[i] (by simp [hlt])
    have Ti:=T.item X' eP eW eK eC i [] s5 σ5 H5 (fun _ _=>False) I5 (stat fr5) st5 go
    rw [eA] at Ti
    refine aR Ti fun r s6 ⟨u,hr,h6⟩=>?_
    subst hr
    refine aR h6 fun _ s7 ⟨x,H7,I7,r7,y7,st7,fr7⟩=>?_
    obtain ⟨sm7,rx7⟩:=yl x H7 y7
    obtain ⟨ρ',b,⟨g,hg,hgd⟩,hext,hts,hel⟩:=turn' ds[i] (List.getElem_mem hlt)
    have rx7':al X'.K H7 (fun a b=>b=true->ow' a=none) ds[i] x:=by
     rw [eK]
     rcases hk with hk|hk
     ·exact rx7.flat _ (mE hk (List.getElem?_eq_getElem hlt))
     refine rx7.impH (fun a o ha p _=>?_) fun a _ z=>(by cases z)
     obtain ⟨p,p2⟩:=p
     obtain ⟨o2,ho2⟩:=p2 rfl
     show ow' a=none
     rw [ow'n a (bF ho2 hD2)]
     exact fA E.own hk p
    have E7:=E5.same sm7
    have I7':=I7.pinned (stat fr7) (T.obj _ _ st7)
    have hg':=hg _ s7 σ5 H7 x u (fun σ' H'=>aO X' ow' H' σ' ρ'/\H7=H') I7' r7 (hgd ow' x σ5 H7 _ I7.len E7 rx7' fun σ' _ e=>⟨e,rfl⟩)
    rw [eP,eW,eA,eE,eX] at hg'
    refine aR hg' fun _ s8 ⟨σ8,H8,I8,E8,eH8⟩=>?_
    subst eH8
    have ht':=hts ow' _ s8 σ8 H7 (fun c H'=>c=b/\aA H7 H') I8 ⟨E8,fun H' sm=>⟨rfl,sm⟩⟩
    rw [eP,eW,eA,eE,eX] at ht'
    refine aR ht' fun c s9 ⟨H9,I9,ec,sm9⟩=>?_
    subst ec
    have back:∀{H':Hp} {σ':L2.St} {s':Shared},Inv X' ([]++jV fp s7.heap) σ' H' s'->Inv X' [] σ' H' s'/\tn (i+1) s'.heap/\∀b∈fp,H' b=none:=fun {H' σ' s'} J7=>by
     refine ⟨J7.unpinned,T.keep _ _ _ st7 fun b hb o e=>(J7.pin (b,o) (List.mem_append_right _ (List.mem_append_right _ (gF hb e)))).1,fun b hb=>?_⟩
     obtain ⟨o,e,d⟩:=T.obj _ _ st7 b hb
     exact (J7.pin (b,o) (List.mem_append_right _ (List.mem_append_right _ (gF hb e)))).2.1
    have envf:∀{H':Hp} {σ':L2.St},aO X' ow' H' σ' ρ'->aO X' ow' H' σ' (flt scope ρ):=fun {H' σ'} e=>⟨fun x d o h=>e.get x d o (hext x _ h),e.own⟩
    have tk:(ds.take (i+1)).filterMap f=(ds.take i).filterMap f++(f ds[i]).toList:=by
     rw [List.take_add_one]
     simp only [List.getElem?_eq_getElem hlt,Option.toList_some,List.filterMap_append]
     congr 1
    have sm59:aA H5 H9:=sm7.trans sm9
    cases hc:c with
    | false =>
     rw [if_neg Bool.false_ne_true]
     subst hc
     obtain ⟨I9',st9,fr9⟩:=back I9
     have fn:f ds[i]=none:=by
      cases hf:f ds[i] with
      | none=>rfl
      | some d'=>rw [hf] at hel;cases hel.1
     refine ⟨ds.length - (i+1),by omega,i+1,σ8,H9,vs,I9',st9,fr9,envf (E8.same sm9),sm59 _ _ hD5,sm5.trans sm59,?_,hlt,rfl⟩
     rw [tk,fn,Option.toList_none,List.append_nil]
     exact rp5.same sm59
    | true =>
     rw [if_pos rfl]
     subst hc
     obtain ⟨d',fs,hed⟩:∃d',f ds[i]=some d'/\ED X' ρ' elt d' ko:=by
      cases hf:f ds[i] with
      | none=>rw [hf] at hel;cases hel
      | some d'=>rw [hf] at hel;exact ⟨d',rfl,hel.2⟩
     have he':=hed ow' _ s9 σ8 H9 (fun v H'=>aA H9 H'/\al X'.K H' (Kp ow' H9 ko) d' v) I9 ⟨E8.same sm9,fun v H' a r=>⟨a,r⟩⟩
     rw [eP,eW,eA,eE,eX] at he'
     refine aR he' fun y s10 ⟨v10,H10,I10,r10,sm10,rp10⟩=>?_
     have sm510:=sm59.trans sm10
     have hD10:=sm510 _ _ hD5
     have hlv:vs.length < sizeLine:=by
      rw [<- rp5.length]
      refine Nat.lt_of_le_of_lt (List.length_filterMap_le _ _) ?_
      rw [List.length_take];omega
     have ha':=o9 (X:=X') _ s10 σ8 H10 (.ref D) [v10] (.ref D) [y] (fun w H'=>aN H10 D (.lst (vs++[v10]))=H') I10 rfl (.cons r10 .nil) ⟨D,vs,v10,rfl,rfl,hD10,hlv,rfl⟩
     rw [eP,eW,eA,eX] at ha'
     refine aR ha' fun _ s11 ⟨w11,H11,I11,_,eH11⟩=>?_
     subst eH11
     obtain ⟨I11',st11,fr11⟩:=back I11
     have s2D:∀a o,H2 a=some o->a≠D:=fun a o e=>bF e hD2
     have stD:dY Pe Pe H10 (aN H10 D (.lst (vs++[v10]))):=⟨fun a o h hn=>by rw [ay (fun z=>by subst z;rw [hD10] at h;cases h;exact hn)];exact h,fun a ws h p=>by rw [ay (p.2 rfl)];exact h,fun _ _ _ p=>p,fun _ p=>p⟩
     refine ⟨ds.length - (i+1),by omega,i+1,σ8,_,vs++[v10],I11',st11,fr11,?_,aH,?_,?_,hlt,rfl⟩
     ·have E10:=envf ((E8.same sm9).same sm10)
      refine ⟨fun x d o h=>?_,own' _ aH (fun a o e=>by rw [ay (s2D a o e)];exact (sm5.trans sm510) a o e)⟩
      obtain ⟨i',v',e1,e2,e3,e4⟩:=E10.get x d o h
      refine ⟨i',v',e1,e2,e3,e4.mono ⟨fun a o h hn=>by rw [ay (fun z=>by subst z;rw [hD10] at h;cases h;exact hn)];exact h,fun a ws h p=>?_,fun _ _ _ p=>p,fun _ p=>p⟩⟩
      have hz:a≠D:=by
       intro z;subst z
       cases o with
       | true=>have:=p.2;rw [ow'D] at this;cases this
       | false=>have:ow' a=none:=p rfl;rw [ow'D] at this;cases this
      rw [ay hz];exact h
     ·intro a o e
      rw [ay (s2D a o e)]
      exact (sm5.trans sm510) a o e
     ·rw [tk,fs,Option.toList_some]
      refine ((rp5.same sm510).mono stD).append (ai.one (al.mono stD ?_))
      rw [eK] at rp10
      have sH9:aA H H9:=s12.trans (sm5.trans sm59)
      exact rp10.imp fun a b p=>CV sH9 (sm59 _ _ hD5) hko p
   ·have hstop:=itd5.2 (by omega)
    have Td:=T.done X' eP eW eK eC i [] s5 σ5 H5 (fun _ _=>False) I5 (stat fr5) st5 hstop
    rw [eA] at Td
    refine aR Td fun r s6 ⟨hr,I6⟩=>?_
    subst hr
    have ei:i=ds.length:=by omega
    subst ei
    rw [List.take_length] at rp5
    have hC:X'.env.locals=s3.heap.objs.size:=by rw [eE];rfl
    obtain ⟨m6,hn6,_⟩:=I6.loc
    rw [hC] at hn6
    have hfree:H5 s3.heap.objs.size=none:=by have:=I6.free;rw [hC] at this;exact this
    have IX:Inv X pins σ H5 s6:=by
     have b6:=I6.base
     have o6:=I6.os
     have k6:=I6.hok
     have g6:=I6.bare
     rw [<- hX'] at b6 o6 k6
     exact I3.call' o6 b6 k6 g6 fun b hb=>⟨(f3 b hb).2.2.2.1,(f3 b hb).2.1,(f3 b hb).2.2.2.2.1,(f3 b hb).2.2.2.2.2⟩
    have hHD:H D=none:=s12.free hD2
    refine fin D _ s6 H5 m6 ⟨IX,hn6,hfree,Nat.ne_of_gt I3.lt,I3.sz,fun x c hc z=>?_,fun p hp z=>?_,I3.nofs (Nat.le_refl _)⟩ (s12.trans sm5) ?_
    ·obtain ⟨v,hv⟩:=I3.cell x c hc
     have:=hv.lt
     rw [z] at this;exact absurd this (Nat.lt_irrefl _)
    ·have:=Heap.lt_size (I3.pin p hp).1
     rw [z] at this;exact absurd this (Nat.lt_irrefl _)
    ·rw [al]
     exact ⟨D,vs,true,rfl,hD5,w9 E.own hHD hko,rp5.imp fun _ _ p=>p.1⟩
  ·exact T.keep 0 s2.heap h₁ st2 fun b hb o e=>kp b o (by rw [<- hs3];exact Heap.get?_push_of_some _ e)
  ·exact ai.nil
 exact codeAny_compStart_list loop (T.self _ 0 _ _ _ (T.keep 0 s2.heap h₁ st2 fun b hb o e=>kp b o (by rw [<- hs3];exact Heap.get?_push_of_some _ e)) loop)
theorem kY.done {pins:List (Addr×Obj)} {σ:L2.St} {H5:Hp} {s6:Shared} {C:Addr} {m6:Str->Option Value} (e:kY X pins σ H5 s6 C m6) {h':Heap} (sb:Heap.SameBut C s6.heap h'):Inv X pins σ H5 { s6 with heap:=h' } :=
 e.inv.turned (t':=s6.toks) (it:=C) (fun b o hb e=>sb.extBut b o hb e) e.free e.loc (.inr e.old) e.cell e.pin
theorem Dr {ρ:ak} {tg elt iter:Expr} {ifs:List Expr} {scope:Scope} {pos:Pos} {ds:List D} {f:D->Option D} {k ko:Nat} {N':List Str}
  (hcalm:X.calm=true) (hN:X.N.Nodup) (hk:ax ds=true\/k<=1) (hko:ko<=1) (hlen:ds.length < sizeLine) (S:gx X.env scope N') (hsub:∀x d o,flt scope ρ x=some (d,o)->x∈N')
  (hi:IE X ρ tg iter ds k)
  (turn:∀cl C s H fp,∀d∈ds,kW (j6 X scope cl C N' s H fp) (flt scope ρ) tg ifs elt ko d (f d))
  (hs:∀x,foldedSetIterable iter X.env x=pure x:=by intro _;rfl) :
  ED X ρ (.ListComp elt [⟨tg,iter,ifs,0⟩] scope pos) (.lst (ds.filterMap f)) ko:=by
 intro ow pins s σ H Q I ⟨E,q⟩
 rw [eval_ListComp]
 refine pD hcalm hN hk hko hlen S hsub hi turn hs I E fun D C s6 H5 m6 ce sm rp=>?_
 exact ⟨m6,ce.ns,fun h' sb=>⟨.ref D,H5,ce.done sb,rfl,q (.ref D) H5 sm rp⟩⟩
theorem Cl {D0:kz} {ow:Ow} {x:Str} {px spos:Pos} {pins:List (Addr×Obj)} {s:Shared} {σ:L2.St} {H:Hp} {ρ:ak} {tg elt iter:Expr} {ifs:List Expr} {scope:Scope} {pos:Pos} {ds:List D} {f:D->Option D} {k ko:Nat} {N':List Str} {i:Nat}
  (hcalm:X.calm=true) (hN:X.N.Nodup) (hk:ax ds=true\/k<=1) (hko:ko<=1) (hlen:ds.length < sizeLine) (S:gx X.env scope N') (hsub:∀x d o,flt scope ρ x=some (d,o)->x∈N')
  (hi:IE X ρ tg iter ds k)
  (turn:∀cl C s H fp,∀d∈ds,kW (j6 X scope cl C N' s H fp) (flt scope ρ) tg ifs elt ko d (f d))
  (hs:∀x,foldedSetIterable iter X.env x=pure x) (I:Inv X pins σ H s) (E:aO X ow H σ ρ)
  (hsw:swapsWith (.ListComp elt [⟨tg,iter,ifs,0⟩] scope pos) (some (.Name x px)) spos.line X.env=pure true)
  (hx:X.N[i]?=some x) (hl:sP X.env.scope x) (hf:X.fn x=true\/X.env.scope.names.lookup x=some .local)
  (q:∀v H',aA H H'->al X.K H' (Kp ow H ko) (.lst (ds.filterMap f)) v->D0.nx (σ.set i (some v)) H') :
  wpAny (model X.prog X.w) X.A (exec (.Assign [.Name x px] (.ListComp elt [⟨tg,iter,ifs,0⟩] scope pos) spos) X.env) (SP X pins D0) X.xe s:=by
 rw [exec_Assign_Name_used _ _ _ _ hsw]
 refine wpAny_bind (wpAny_standAt (wpAny_bind ?_))
 show wpAny _ X.A (do let _ <- comprehension (.ListComp elt [⟨tg,iter,ifs,0⟩] scope pos) scope X.env _ (newList []) false (eval iter X.env) (some (assign (.Name x px) X.env))) _ _ s
 refine wpAny_bind (wpAny_mono (pD (use:=some (assign (.Name x px) X.env)) (Q':=fun _ s'=>SP X pins D0 .next s') hcalm hN hk hko hlen S hsub hi turn hs I E fun D C s6 H5 m6 ce sm rp=>?_) (fun _ s' hq=>wpAny_pure (wpAny_pure hq)) fun _ _ e=>e)
 obtain ⟨o,es,ep,ho,hd,hrest⟩:=id ce.ns
 have Ip:Inv X (pins++[(C,o)]) σ H5 s6:=ce.inv.pins_of fun p hp=>by
  rcases List.mem_append.mp hp with z|z
  ·exact ce.inv.pin p (List.mem_append_right _ z)
  ·have e:p=(C,o):=by simpa using z
   subst e
   exact ⟨ho,ce.free,ce.loc,ce.fs,fun v z=>by rw [hd] at z;cases z⟩
 show wpAny _ X.A (assign (.Name x px) X.env (.ref D)) _ _ _
 refine aR (fT (i:=i) hN hx hl hf (pins++[(C,o)]) s6 σ H5 (.ref D) (.ref D) (fun σ' H'=>σ.set i (some (.ref D))=σ'/\H5=H') Ip rfl ⟨rfl,rfl⟩) fun _ s7 ⟨σ7,H7,I7,e1,e2⟩=>?_
 subst e1 e2
 have pC:=(I7.pin (C,o) (List.mem_append_right _ (List.mem_append_right _ (by simp)))).1
 refine ⟨m6,⟨o,es,ep,pC,hd,hrest⟩,fun h' sb=>?_⟩
 have ce':kY X pins (σ.set i (some (.ref D))) H5 s7 C m6:=⟨I7.unpinned,⟨o,es,ep,pC,hd,hrest⟩,ce.free,ce.loc,ce.old,ce.cell,ce.pin,ce.fs⟩
 exact ⟨_,H5,ce'.done sb,q (.ref D) H5 sm rp⟩
end Sp
namespace Sp
open PySem PySem.Spec PyProof.Rows L2
mutual
def D.py:D->PyData
 | .non=>.none
 | .bl b=>.bool b
 | .int i=>.int i
 | .str x=>.str x
 | .dct _ _=>.dict []
 | .typ _=>.dict []
 | .sn _=>.dict []
 | .obj _ _ _=>.dict []
 | .cls _=>.dict []
 | .tup l=>.tuple (gU l)
 | .lst l=>.list (gU l)
def gU:List D->List PyData
 | []=>[]
 | d::l=>d.py::gU l
end
inductive Rs (α:Type) where
 | ok (a:α) (l:List Prop)
 | st
def aG:List Prop->Prop
 | []=>True
 | p::l=>p/\aG l
def Rs.bnd {α β:Type} (r:Rs α) (f:α->Rs β):Rs β :=
 match r with
 | .st=>.st
 | .ok a l=>match f a with
  | .st=>.st
  | .ok b m=>.ok b (l++m)
def Ry {α:Type}:Option α->Rs α
 | some a=>.ok a []
 | none=>.st
def gd (b:Bool):List Prop->List Prop
 | []=>[]
 | m=>[b=true->aG m]
abbrev R1:=Rs (D×Nat)
def mk (d:D) (k:Nat):R1:=.ok (d,kn d k) []
structure Fx where
 fn:Str->Option (List D->Rs D)
 con:Str->Option D
 blt:Str->Option (List D->R1)
 itr:Str->Option (List D->Nat->R1)
 mth:Str->Option (D->List D->R1)
 mtt:Str->Option (List D->List D->Nat->Rs (List D))
 slf:D->Option Int->Option Int->R1:=fun _ _ _=>.st
 fld:Str->Str->Bool:=fun _ _=>false
 omt:Str->Str->Option (List D->Rs D):=fun _ _=>none
def AX:Const->Option D
 | .none=>some .non
 | .bool b=>some (.bl b)
 | .int i=>some (.int i)
 | .str x=>some (.str x)
 | _=>none
def bY:Nat:=2 ^ 9000
def bL (a b:Int):Prop:=a.natAbs < 2 ^ 64\/b.natAbs < 2 ^ 64\/(a.natAbs < bY/\b.natAbs < bY)\/(Builtin.Int.intBits a<=2 ^ 22/\Builtin.Int.intBits b<=2 ^ 22)
def eZ (b:Int):Prop:=b≠0/\b.natAbs < bY
def vd (a b:Int):Prop:=0<=b/\b<=1000/\a.natAbs < 2 ^ 64
def cZ:Nat:=40000
def zF (op:Operator) (a b:Int):R1 :=
 match op with
 | .Add=>.ok (.int (a+b),0) []
 | .Sub=>.ok (.int (a - b),0) []
 | .Mult=>.ok (.int (a*b),0) [bL a b]
 | .FloorDiv=>.ok (.int (a.fdiv b),0) [eZ b]
 | .Mod=>.ok (.int (a.fmod b),0) [b≠0]
 | .Pow=>.ok (.int (a ^ b.toNat),0) [vd a b]
 | .BitXor=>.ok (.int (Builtin.bitXor a b),0) []
 | .BitAnd=>.ok (.int (Builtin.bitAnd a b),0) []
 | .RShift=>.ok (.int (a / 2 ^ b.toNat),0) [0<=b]
 | _=>.st
def vB:Operator->Bool
 | .Add=>true
 | _=>false
def sr (op:Operator) (x y:D) (k j:Nat):R1 :=
 match x,y with
 | .int a,.int b=>zF op a b
 | .tup a,.tup b=>if vB op=true then .ok (.tup (a++b),kn (.tup (a++b)) (kj k j)) [a.length+b.length<=cZ] else .st
 | .lst a,.lst b=>if vB op=true then .ok (.lst (a++b),0) [ax (a++b)=true,a.length+b.length<=cZ] else .st
 | _,_=>.st
def Ah (op:UnaryOp) (x:D):Option D :=
 match op,x with
 | .USub,.int a=>some (.int (-a))
 | .Not,.bl b=>some (.bl (!b))
 | _,_=>none
def oG (x y:D):Bool:=SeqAt.shaped x.py&&SeqAt.shaped y.py
def eqD (x y:D):Bool:=PyData.eqv x.py y.py
def dG:List D->Option (List Int)
 | []=>some []
 | .int i::l=>(dG l).map (i :: ·)
 | _::_=>none
def vp (x:D) (l:List D):Rs Bool:=.ok (l.any fun y=>eqD y x) [oG (.tup l) x=true]
def D.isNon:D->Bool
 | .non=>true
 | _=>false
def eY:D->Option (List D)
 | .tup l=>some l
 | .lst l=>some l
 | _=>none
def fX (op:CmpOp) (a b:Int):Option Bool :=
 match op with
 | .Lt=>some (decide (a < b))
 | .LtE=>some (decide (a<=b))
 | .Gt=>some (decide (b < a))
 | .GtE=>some (decide (b<=a))
 | _=>none
def vi (op:CmpOp) (x y:D):Option Bool :=
 match x,y with
 | .int a,.int b=>fX op a b
 | _,_=>none
def Rs.nt:Rs Bool->Rs Bool
 | .ok b l=>.ok (!b) l
 | .st=>.st
def keyD:D->Option dJ
 | .int i=>some (.inl i)
 | .str x=>some (.inr x)
 | _=>none
def dGet (ks:List dJ) (ds:List D) (k:dJ):Option D:=((ks.zip ds).find? fun p=>decide (p.1=k)).map (·.2)
def Gr (ks:List dJ) (k:dJ):Bool:=ks.any fun j=>decide (j=k)
def dPutK (ks:List dJ) (k:dJ):List dJ:=cond (Gr ks k) ks (ks++[k])
def dPutV {α:Type} (ks:List dJ) (ds:List α) (k:dJ) (d:α):List α:=cond (Gr ks k) (List.zipWith (fun j e=>if j=k then d else e) ks ds) (ds++[d])
def AN (x y:D):Rs Bool :=
 match y with
 | .tup l=>vp x l
 | .lst l=>vp x l
 | .dct _ _=>.st
 | .str b=>(match x with | .str a=>.ok (Txt.contains b a) [] | _=>.st)
 | _=>.st
def iM (op:CmpOp) (x y:D):Rs Bool :=
 match op with
 | .Eq=>.ok (eqD x y) [oG x y=true]
 | .NotEq=>.ok (!eqD x y) [oG x y=true]
 | .In=>AN x y
 | .NotIn=>(AN x y).nt
 | .Is=>(match y with | .non=>.ok x.isNon [] | .bl c=>(match x with | .bl b=>.ok (b==c) [] | _=>.st) | _=>.st)
 | .IsNot=>(match y with | .non=>.ok (!x.isNon) [] | .bl c=>(match x with | .bl b=>.ok (!(b==c)) [] | _=>.st) | _=>.st)
 | op=>Ry (vi op x y)
def D.ty0:D->Option String
 | .non=>some "NoneType"
 | .bl _=>some "bool"
 | .int _=>some "int"
 | .str _=>some "str"
 | .dct _ _=>some "dict"
 | .tup _=>some "tuple"
 | .lst _=>some "list"
 | _=>none
def Gf (x:D) (T:String):Option Bool:=x.ty0.map fun a=>decide (a=T) || decide (a = "bool" /\ T = "int")
def uK (x:Str):Option String :=
 if x = "int" then some "int" else if x = "bool" then some "bool" else if x = "str" then some "str" else if x = "tuple" then some "tuple" else if x = "list" then some "list" else none
def dE:List D->Option (List Bool)
 | []=>some []
 | .bl i::l=>(dE l).map (i :: ·)
 | _::_=>none
def gw:List Str:=["len", "tuple", "list", "abs", "all", "sum", "isinstance", "set", "int", "bool", "str", "range", "zip", "enumerate", "any", "sorted", "min", "max", "reversed"]
def gt:Expr->Bool
 | .Tuple .. => true
 | _=>false
def eQ (e tg:Expr):Bool :=
 match e with
 | .Call (.Name f _) _ _ _=>if f = "enumerate" \/ f = "zip" then gt tg else true
 | _=>true
def tV (x:Str):List D:=x.cps.toList.map fun c=>.str ⟨#[c]⟩
def items:D->Option (List D)
 | .lst l=>some l
 | .tup l=>some l
 | .str x=>if (x.cps.all fun c=>decide (c < 128))=true then some (tV x) else none
 | _=>none
def bI (ρ:ak) (x:Str) (y:D×Bool):ak:=fun z=>if z=x then some y else ρ z
def c9 (sc:Scope) (x:Str):Bool:=sc.names.lookup x==some .local || sc.names.lookup x==some .cell
def aY (sc:Scope):List Expr->List D->ak->Option ak
 | [],[],ρ=>some ρ
 | .Name x _::es,d::ds,ρ=>if c9 sc x=true then aY sc es ds (bI ρ x (d,false)) else none
 | _,_,_=>none
def bR (sc:Scope) (tg:Expr) (d:D) (ρ:ak):Option ak :=
 match tg with
 | .Name x _=>if c9 sc x=true then some (bI ρ x (d,false)) else none
 | .Tuple es _ _=>(match d with | .tup ds=>aY sc es ds ρ|_=>none)
 | _=>none
def nl (sc scope:Scope):Bool :=
 decide (scope.kind=.function)&&scope.names.all (fun y=>decide (y.2 ≠ .local) || decide (scope.names.lookup y.1=some .local)) &&
 scope.names.all (fun y=>decide (y.2 ≠ .free) || c9 sc y.1&&decide (sc.names.lookup y.1=some .cell) || decide (sc.names.lookup y.1=some .free))&&decide ((scope.names.map (·.1)).Nodup)
def gm (step:D->Rs (Option (D×Nat))):List D->Rs (List D×Nat)
 | []=>.ok ([],0) []
 | d::l=>(step d).bnd fun r=>(gm step l).bnd fun q=>match r with
  | none=>.ok q []
  | some p=>.ok (p.1::q.1,kj p.2 q.2) []
def rh (x:D) (i:Int) (k:Nat):R1 :=
 match eY x with
 | some l=>(match atI l i with|some d=>mk d k|none=>.st)
 | none=>.st
def jt (p:D×Nat) (f:Int->R1):R1 :=
 match p.1 with
 | .int j=>f j
 | _=>.st
def lF (p q:D×Nat):R1 :=
 match p.1 with
 | .dct _ _=>.st
 | x=>jt q fun j=>rh x j p.2
def ke (l:List D) (lo hi:Option Int):List D:=(l.drop (HT.sIx l.length 0 lo)).take (HT.sIx l.length l.length hi - HT.sIx l.length 0 lo)
def GZ (l:List D) (lo hi:Option Int):Bool:=!(decide (HT.sIx l.length 0 lo=0)&&decide (HT.sIx l.length l.length hi=l.length))
def aU (x:D) (lo hi:Option Int):R1 :=
 match x with
 | .tup l=>.ok (.tup (ke l lo hi),0) [ax l=true,GZ l lo hi=true]
 | .lst l=>.ok (.lst (ke l lo hi),0) [ax l=true]
 | _=>.st
def fe (x:Str):Bool:=decide ((x==("__debug__" : Str))=false)&&decide ((x==("__classdict__" : Str))=false)
def v4 (b:Bool) (r:Rs Bool):Rs Bool :=
 match r with
 | .ok c m=>.ok (b&&c) (gd b m)
 | .st=>match b with|false=>.ok false [] | true=>.st
def AC (b:Bool) (r:Rs Bool):Rs Bool :=
 match r with
 | .ok c m=>.ok (b || c) (gd (!b) m)
 | .st=>match b with|true=>.ok true [] | false=>.st
mutual
def og (b:Bool):D->D->D
 | .int x,.int y=>.int (cond b x y)
 | .bl x,.bl y=>.bl (cond b x y)
 | .tup x,.tup y=>if x.length=y.length then .tup (jX b x y) else cond b (.tup x) (.tup y)
 | x,y=>cond b x y
def jX (b:Bool):List D->List D->List D
 | x::l,y::m=>og b x y::jX b l m
 | l,m=>cond b l m
end
def xa (t:Bool) (k j:Nat):Nat:=if k=j then k else cond t k j
def AQ (b:Bool) (r s:R1):R1 :=
 match r with
 | .st=>(match b with|true=>.st|false=>s)
 | .ok p m=>match s with
  | .st=>(match b with|true=>.ok p m|false=>.st)
  | .ok q n=>.ok (og b p.1 q.1,xa b p.2 q.2) (gd b m++gd (!b) n)
def js (Φ:Fx) (x:Str) (sc:Scope) (ρ:ak):R1 :=
 if fe x=true then
  (if sc.names.lookup x=some .globalImplicit then (match Φ.con x with|some d=>.ok (d,0) [] | none=>match uK x with|some T=>.ok (.typ T,0) [] | none=>.st)
  else match ρ x with
   | some p=>mk p.1 (cond p.2 2 1)
   | none=>.st)
 else .st
def kS (Φ:Fx) (f:Str) (it:Bool) (ds:List D) (k:Nat):R1 :=
 match Φ.fn f with
 | some F=>(F ds).bnd fun d=>.ok (d,0) []
 | none=>match (if it=true then Φ.itr f else none) with
  | some B=>B ds k
  | none=>match Φ.blt f with
   | some B=>B ds
   | none=>.st
def iE {α:Type} (p:D×Nat) (f:Bool->Rs α):Rs α :=
 match p.1 with
 | .bl j=>f j
 | _=>.st
def Gx (Φ:Fx) (x:D) (f:Str):R1 :=
 match x with
 | .obj n ns ds=>if Φ.fld n f=true then (match (ns.zip ds).lookup f with|some d=>.ok (d,0) [] | none=>.st) else .st
 | _=>.st
def ij:Expr->Bool
 | .Call (.Name _ _) [] [] _=>false
 | _=>true
def vo (Φ:Fx) (a:Expr) (m:Str) (x:D) (ds:List D):R1 :=
 match x with
 | .obj n ns es=>if ns.contains m=false/\ij a=true/\ds.length < 29 then (match Φ.omt n m with|some F=>(F (.obj n ns es::ds)).bnd fun d=>.ok (d,0) [] | none=>.st) else .st
 | x=>if ij a=true then (match Φ.mth m with|some M=>M x ds|none=>.st) else .st
def G8 (op op2:CmpOp) (x y z:D):R1 :=
 match x,y,z with
 | .int a,.int b,.int c=>(match fX op a b,fX op2 b c with|some r,some r2=>.ok (.bl (r&&r2),0) [] | _,_=>.st)
 | _,_,_=>.st
mutual
def aC (Φ:Fx):Expr->Bool->Scope->ak->R1
  | .Constant c _ _,_,_,_=>(match AX c with|some d=>.ok (d,0) [] | none=>.st)
  | .Name x _,_,sc,ρ=>js Φ x sc ρ
  | .BinOp a op b _,_,sc,ρ=>(aC Φ a false sc ρ).bnd fun p=>(aC Φ b false sc ρ).bnd fun q=>sr op p.1 q.1 p.2 q.2
  | .UnaryOp op a _,_,sc,ρ=>(aC Φ a false sc ρ).bnd fun p=>(match Ah op p.1 with|some d=>.ok (d,0) [] | none=>.st)
  | .BoolOp op es _,_,sc,ρ=>if es.isEmpty=true then .st else (dW Φ op es sc ρ).bnd fun b=>.ok (.bl b,0) []
  | .Compare a [op] [b] _,_,sc,ρ=>(aC Φ a false sc ρ).bnd fun p=>(aC Φ b false sc ρ).bnd fun q=>(iM op p.1 q.1).bnd fun r=>.ok (.bl r,0) []
  | .Compare a [op,op2] [b,c] _,_,sc,ρ=>(aC Φ a false sc ρ).bnd fun p=>(aC Φ b false sc ρ).bnd fun q=>(aC Φ c false sc ρ).bnd fun t=>G8 op op2 p.1 q.1 t.1
  | .IfExp c a b _,_,sc,ρ=>(aC Φ c false sc ρ).bnd fun p=>iE p fun t=>AQ t (aC Φ a false sc ρ) (aC Φ b false sc ρ)
  | .Tuple es _ _,_,sc,ρ=>(cf Φ es sc ρ).bnd fun p=>if p.1.length<=cZ then mk (.tup p.1) p.2 else .st
  | .List es _,_,sc,ρ=>(cf Φ es sc ρ).bnd fun p=>if p.1.length<=cZ/\p.2<=1 then .ok (.lst p.1,p.2) [] else .st
  | .Subscript a (.Slice lo hi none _) _,_,sc,ρ=>(aC Φ a false sc ρ).bnd fun p=>(pz Φ lo sc ρ).bnd fun l=>(pz Φ hi sc ρ).bnd fun h=>Φ.slf p.1 l h
  | .Subscript a i _,_,sc,ρ=>(aC Φ a false sc ρ).bnd fun p=>(aC Φ i false sc ρ).bnd fun q=>lF p q
  | .Call (.Name f _) args [] _,it,sc,ρ =>
    if sc.names.lookup f=some .globalImplicit then (cf Φ args sc ρ).bnd fun p=>kS Φ f it p.1 p.2
    else .st
  | .Attribute (.Name x _) f _,_,sc,ρ=>(js Φ x sc ρ).bnd fun p=>Gx Φ p.1 f
  | .Call (.Attribute a m ap) args [] cp,_,sc,ρ=>if (ap.endLine==cp.line)=true then (aC Φ a false sc ρ).bnd fun p=>(cf Φ args sc ρ).bnd fun q=>vo Φ a m p.1 q.1 else .st
  | .ListComp elt [⟨tg,iter,ifs,0⟩] scope _,_,sc,ρ =>
    if nl sc scope=true then (aC Φ iter true sc ρ).bnd fun p=>(match items p.1 with
      | some ds=>if eQ iter tg=true then
          (Rs.ok () [ds.length<=cZ,ax ds=true\/p.2<=1]).bnd fun _=>(gm (fun d=>match bR scope tg d (flt scope ρ) with
            | none=>.st
            | some ρ'=>(dW Φ .And ifs scope ρ').bnd fun b=>cond b ((aC Φ elt false scope ρ').bnd fun r=>.ok (some r) []) (.ok none [])) ds).bnd fun q=>if q.2<=1 then .ok (.lst q.1,q.2) [] else .st
        else .st
      | none=>.st)
    else .st
  | _,_,_,_=>.st
def cf (Φ:Fx):List Expr->Scope->ak->Rs (List D×Nat)
 | [],_,_=>.ok ([],0) []
 | e::es,sc,ρ=>(aC Φ e false sc ρ).bnd fun p=>(cf Φ es sc ρ).bnd fun q=>.ok (p.1::q.1,kj p.2 q.2) []
def dW (Φ:Fx):BoolOp->List Expr->Scope->ak->Rs Bool
 | .And,[],_,_=>.ok true []
 | .Or,[],_,_=>.ok false []
 | .And,e::es,sc,ρ=>(aC Φ e false sc ρ).bnd fun p=>iE p fun b=>v4 b (dW Φ .And es sc ρ)
 | .Or,e::es,sc,ρ=>(aC Φ e false sc ρ).bnd fun p=>iE p fun b=>AC b (dW Φ .Or es sc ρ)
def pz (Φ:Fx):Option Expr->Scope->ak->Rs (Option Int)
 | none,_,_=>.ok none []
 | some e,sc,ρ=>(aC Φ e false sc ρ).bnd fun p=>(match p.1 with | .int i=>.ok (some i) [] | _=>.st)
end
theorem oF {Φ:Fx} {op:BoolOp} {es:List Expr} {p:Pos} {it:Bool} {sc:Scope} {ρ:ak}:aC Φ (.BoolOp op es p) it sc ρ=(if es.isEmpty=true then .st else (dW Φ op es sc ρ).bnd fun b=>.ok (.bl b,0) []):=rfl
theorem jy {Φ:Fx} {f:Str} {args:List Expr} {p q:Pos} {it:Bool} {sc:Scope} {ρ:ak}:aC Φ (.Call (.Name f p) args [] q) it sc ρ=(if sc.names.lookup f=some .globalImplicit then (cf Φ args sc ρ).bnd fun p=>kS Φ f it p.1 p.2 else .st):=rfl
theorem lO {Φ:Fx} {a:Expr} {m:Str} {args:List Expr} {ap cp:Pos} {it:Bool} {sc:Scope} {ρ:ak}:aC Φ (.Call (.Attribute a m ap) args [] cp) it sc ρ=(if (ap.endLine==cp.line)=true then (aC Φ a false sc ρ).bnd fun p=>(cf Φ args sc ρ).bnd fun q=>vo Φ a m p.1 q.1 else .st):=rfl
theorem oE {Φ:Fx} {elt tg iter:Expr} {ifs:List Expr} {scope:Scope} {q:Pos} {it:Bool} {sc:Scope} {ρ:ak}:aC Φ (.ListComp elt [⟨tg,iter,ifs,0⟩] scope q) it sc ρ=(if nl sc scope=true then (aC Φ iter true sc ρ).bnd fun p=>(match items p.1 with
      | some ds=>if eQ iter tg=true then
          (Rs.ok () [ds.length<=cZ,ax ds=true\/p.2<=1]).bnd fun _=>(gm (fun d=>match bR scope tg d (flt scope ρ) with
            | none=>.st
            | some ρ'=>(dW Φ .And ifs scope ρ').bnd fun b=>cond b ((aC Φ elt false scope ρ').bnd fun r=>.ok (some r) []) (.ok none [])) ds).bnd fun q=>if q.2<=1 then .ok (.lst q.1,q.2) [] else .st
        else .st
      | none=>.st)
    else .st):=rfl
end Sp
namespace Sp
open PySem PySem.Spec PyProof.Rows L2
inductive Fl where
 | nx (ρ:ak) | rt (d:D) | bk (ρ:ak) | ct (ρ:ak)
def gZ:Expr->Bool
 | .ListComp .. => true
 | .SetComp .. => true
 | .DictComp .. => true
 | _=>false
def u4 (l:List D) (i:Int) (d:D):Option (List D):=(ixN l.length i).map fun j=>l.set j d
def gC (f:ak->Rs Fl):Fl->Rs Fl
 | .nx ρ=>f ρ
 | .ct ρ=>f ρ
 | .bk ρ=>.ok (.nx ρ) []
 | .rt d=>.ok (.rt d) []
def de (bind:D->ak->Option ak) (body:ak->Rs Fl):List D->ak->Rs Fl
 | [],ρ=>.ok (.nx ρ) []
 | d::l,ρ=>match bind d ρ with
  | none=>.st
  | some ρ1=>(body ρ1).bnd (gC (de bind body l))
def ln (test:ak->Rs Bool) (body:ak->Rs Fl):Nat->ak->Rs Fl
 | 0,_=>.st
 | n+1,ρ=>(test ρ).bnd fun b=>cond b ((body ρ).bnd (gC (ln test body n))) (.ok (.nx ρ) [])
def demX (x:Str) (ρ:ak):ak:=fun y=>if y=x then (ρ y).map fun p=>(p.1,false) else ρ y
def demA (x:Str) (ρ:ak):ak:=fun y=>if y=x then (ρ y).map fun p=>(p.1,p.2&&p.1.lless) else ρ y
def demL:List Expr->ak->ak
 | [],ρ=>ρ
 | .Name x _::es,ρ=>demL es (demA x ρ)
 | .Subscript (.Name x _) _ _::es,ρ=>demL es (demA x ρ)
 | _::es,ρ=>demL es ρ
def demote (e:Expr) (ρ:ak):ak :=
 match e with
 | .Name x _=>demX x ρ
 | .Subscript (.Name x _) _ _=>demX x ρ
 | .Call _ args _ _=>demL args ρ
 | _=>ρ
def nU (sc:Scope) (x:Str) (p:D×Nat) (ρ:ak):Rs Fl :=
 if c9 sc x=true then
  match p.2 with
  | 0=>.ok (.nx (bI ρ x (p.1,true))) []
  | 1=>.ok (.nx (bI ρ x (p.1,false))) []
  | _=>.st
 else .st
def vh (ρ:ak) (x:Str) (f:List D->Rs Fl):Rs Fl :=
 match ρ x with
 | some (.lst l,true)=>if fe x=true then f l else .st
 | _=>.st
def mr (sc:Scope) (x y:Str) (px py:Pos) (a b:Expr):Bool :=
 sc.names.lookup x==some .local&&sc.names.lookup y==some .local&&(px.line==py.line) && !decide (x=y) && !([a,b].all (foldedForSure 8)) && !([a,b].all (constantsAlone 8))
def kM (Φ:Fx) (es:List Expr) (e:Expr) (sc:Scope) (ρ:ak):Rs Fl :=
  match es,e with
  | [.Name x px,.Name y py],.Tuple [a,b] _ _=>if mr sc x y px py a b=true then (cf Φ [a,b] sc ρ).bnd fun p=>(match p.1 with
      | [u,v]=>if ax [u,v]=true\/p.2<=1 then .ok (.nx (bI (bI ρ x (u,false)) y (v,false))) [] else .st
      | _=>.st) else .st
  | _,_=>.st
def sj (sc:Scope) (es:List Expr) (e:Expr):Bool :=
 match es,e with
 | [.Name x _,.Name _ _],.Tuple [_,_] _ _=>sc.names.lookup x==some .cell
 | _,_=>false
def lr (sc:Scope) (es:List Expr) (e:Expr):Bool:=gt e && !sj sc es e
def qR (sc:Scope) (es:List Expr) (p:D×Nat):Bool :=
 match es,p.1,p.2 with
 | [.Name x _,.Name y _],.tup [d1,d2],0=>d1.lless && !d2.lless && !decide (x=y)&&c9 sc x&&c9 sc y
 | _,_,_=>false
def u8 (es:List Expr) (p:D×Nat) (ρ:ak):ak :=
 match es,p.1 with
 | [.Name x _,.Name y _],.tup [d1,d2]=>bI (bI ρ y (d2,true)) x (d1,false)
 | _,_=>ρ
def K6 (_:Expr):Bool:=true
def uU (ρ:ak) (x:Str) (i d:D):Rs Fl :=
 match ρ x with
 | some (.lst l,true)=>(match i with | .int j=>if fe x=true then (match u4 l j d with|some l'=>.ok (.nx (bI ρ x (.lst l',true))) [ax l=true,d.lless=true] | none=>.st) else .st|_=>.st)
 | some (.dct _ _,true)=>.st
 | _=>.st
def mV (Φ:Fx) (tgs:List Expr) (e:Expr) (sc:Scope) (ρ:ak):Rs Fl :=
  match tgs with
  | [.Name x _]=>(aC Φ e false sc ρ).bnd fun p=>nU sc x p ρ
  | [.Tuple es _ _]=>if lr sc es e=true then kM Φ es e sc ρ else (aC Φ e false sc ρ).bnd fun p=>if qR sc es p=true then .ok (.nx (u8 es p ρ)) [] else (match eY p.1 with
      | some ds=>if ax ds=true\/p.2<=1 then (match aY sc es ds ρ with|some ρ'=>.ok (.nx ρ') [] | none=>.st) else .st
      | none=>.st)
  | [.Subscript (.Name x _) i _]=>if K6 e=true then (aC Φ e false sc ρ).bnd fun p=>(aC Φ i false sc ρ).bnd fun q=>uU ρ x q.1 p.1
    else .st
  | _=>.st
def zN (op:Operator) (a b:Int):R1 :=
 match op with
 | .Add=>.ok (.int (a+b),0) []
 | .Sub=>.ok (.int (a - b),0) []
 | .Mult=>.ok (.int (a*b),0) [bL a b]
 | .FloorDiv=>.ok (.int (a.fdiv b),0) [eZ b]
 | _=>.st
def mU (Φ:Fx) (t:Expr) (op:Operator) (e:Expr) (sc:Scope) (ρ:ak):Rs Fl :=
  match t with
  | .Name x _=>if c9 sc x=true then (match ρ x with
      | some p=>jt (p.1,0) (fun a=>(aC Φ e false sc ρ).bnd fun q=>jt q fun b=>zN op a b) |>.bnd fun r=>.ok (.nx (bI ρ x (r.1,true))) []
      | none=>.st) else .st
  | _=>.st
def mT (Φ:Fx) (e:Expr) (sc:Scope) (ρ:ak):Rs Fl :=
  match e with
  | .Call (.Attribute (.Name x _) m ap) args [] cp=>if (ap.endLine==cp.line)=true then (cf Φ args sc ρ).bnd fun p=>(match Φ.mtt m with
      | some M=>vh ρ x fun l=>(M l p.1 p.2).bnd fun l'=>.ok (.nx (bI ρ x (.lst l',true))) []
      | none=>.st) else .st
  | .Call (.Name f p) args ks cp=>(aC Φ (.Call (.Name f p) args ks cp) false sc ρ).bnd fun _=>.ok (.nx ρ) []
  | _=>.st
def eT (ρ:ak):ak:=fun y=>(ρ y).map fun p=>(p.1,false)
def AE:Expr->Bool
 | .ListComp elt _ _ _=>gZ elt
 | _=>false
def p9:Expr->Bool
 | .Tuple es _ _=>es.any AE
 | e=>AE e
def qH (e:Expr) (ρ:ak):ak:=cond (p9 e) (eT ρ) ρ
def u5 (p:D×Nat):Rs Fl:=if p.2=0\/p.2=2 then .ok (.rt p.1) [] else .st
mutual
def dS (Φ:Fx):Stmt->Scope->ak->Rs Fl
  | .Return (some e) _,sc,ρ=>(aC Φ e false sc (qH e ρ)).bnd u5
  | .Return none _,_,_=>.ok (.rt .non) []
  | .Pass _,_,ρ=>.ok (.nx ρ) []
  | .Break _,_,ρ=>.ok (.bk ρ) []
  | .Continue _,_,ρ=>.ok (.ct ρ) []
  | .Assign tgs e _,sc,ρ=>mV Φ tgs e sc ρ
  | .AugAssign t op e _,sc,ρ=>mU Φ t op e sc ρ
  | .Expr e _,sc,ρ=>mT Φ e sc ρ
  | .If c a b _,sc,ρ=>(aC Φ c false sc ρ).bnd fun p=>iE p fun t=>cond t (aD Φ a sc ρ) (aD Φ b sc ρ)
  | .For tg it body els _,sc,ρ=>if els.isEmpty=true then (aC Φ it true sc (demote it ρ)).bnd fun p=>(match items p.1 with
      | some ds=>if p.2<=1/\eQ it tg=true then de (bR sc tg) (aD Φ body sc) ds (demote it ρ) else .st
      | none=>.st)
    else .st
  | .While c body els _,sc,ρ=>if els.isEmpty=true then ln (fun ρ=>(aC Φ c false sc ρ).bnd fun p=>iE p fun b=>.ok b []) (aD Φ body sc) cZ ρ else .st
  | _,_,_=>.st
def aD (Φ:Fx):List Stmt->Scope->ak->Rs Fl
 | [],_,ρ=>.ok (.nx ρ) []
 | s::ss,sc,ρ=>(dS Φ s sc ρ).bnd fun
  | .nx ρ'=>aD Φ ss sc ρ'
  | f=>.ok f []
end
theorem oC {Φ:Fx} {tg it:Expr} {body els:List Stmt} {q:Pos} {sc:Scope} {ρ:ak}:dS Φ (.For tg it body els q) sc ρ=(if els.isEmpty=true then (aC Φ it true sc (demote it ρ)).bnd fun p=>(match items p.1 with
      | some ds=>if p.2<=1/\eQ it tg=true then de (bR sc tg) (aD Φ body sc) ds (demote it ρ) else .st
      | none=>.st)
    else .st):=rfl
theorem rS {Φ:Fx} {c:Expr} {body els:List Stmt} {q:Pos} {sc:Scope} {ρ:ak}:dS Φ (.While c body els q) sc ρ=(if els.isEmpty=true then ln (fun ρ=>(aC Φ c false sc ρ).bnd fun p=>iE p fun b=>.ok b []) (aD Φ body sc) cZ ρ else .st):=rfl
def eh:List Str->List D->ak
 | p::ps,d::ds=>fun z=>if z=p then some (d,false) else eh ps ds z
 | _,_=>fun _=>none
def bH (Φ:Fx) (sc:Scope) (ps:List Str) (body:List Stmt) (ds:List D):Rs D :=
 if ds.length=ps.length then (aD Φ body sc (eh ps ds)).bnd fun
  | .rt d=>.ok d []
  | .nx _=>.ok .non []
  | _=>.st
 else .st
def zI (ds:List D):R1 :=
 match ds with
 | [.sn n]=>.ok (.int n,0) []
 | [x]=>(match eY x with|some l=>.ok (.int l.length,0) [] | none=>.st)
 | _=>.st
def kB:List String:=["int", "bool", "str", "tuple", "list", "dict"]
def zJ (ds:List D):R1 :=
 match ds with
 | [.obj m _ _,.cls n]=>if m=n then .ok (.bl true,0) [] else if m∈G7 then .ok (.bl (qw m n),0) [] else .st
 | [x,.typ T]=>if T∈kB then (match Gf x T with|some b=>.ok (.bl b,0) [] | none=>.st) else .st
 | _=>.st
def nq (ds:List D):R1 :=
 match ds with
 | [x]=>(match eY x with|some l=>.ok (.tup l,0) [ax l=true] | none=>.st)
 | _=>.st
def vW (ds:List D):R1 :=
 match ds with
 | [x]=>(match eY x with|some l=>.ok (.lst l,0) [ax l=true] | none=>.st)
 | _=>.st
def zM (ds:List D):R1 :=
 match ds with
 | [.int i]=>.ok (.int (if i < 0 then -i else i),0) []
 | _=>.st
def zL (ds:List D):R1 :=
 match ds with
 | [.lst l]=>(match dG l with
  | some ns=>.ok (.bl (ns.any fun n=>n != 0),0) []
  | none=>match dE l with|some bs=>.ok (.bl (bs.any id),0) [] | none=>.st)
 | _=>.st
def zG (ds:List D):R1 :=
 match ds with
 | [.lst l]=>(match dG l with|some ns=>.ok (.int ns.sum,0) [] | none=>.st)
 | _=>.st
def rF (ds:List D) (_:Nat):R1 :=
 match ds with
 | [.int j]=>.ok (.lst ((List.range j.toNat).map fun i=>.int (i:Nat)),0) [-4611686018427387904<=j,j<=cZ]
 | [.int i,.int j]=>.ok (.lst ((List.range (j - i).toNat).map fun m=>.int (i+(m:Nat))),0) [-4611686018427387904<=i,i<=4611686018427387000,-4611686018427387904<=j,j - i<=800]
 | _=>.st
def rV:Nat->List D->List D
 | _,[]=>[]
 | n,x::xs=>.tup [.int (n:Nat),x]::rV (n+1) xs
theorem oI:∀(l:List D) (n:Nat),rV n l=l.mapIdx fun i x=>.tup [.int ((n+i:Nat):Int),x]
 | [],_=>rfl
 | x::l,n=>by
  rw [rV,oI l (n+1),List.mapIdx_cons]
  simp only [Nat.add_zero]
  congr 1
  congr 1
  funext i y
  rw [show n+1+i=n+(i+1) by omega]
def vE (ds:List D) (k:Nat):R1 :=
 match ds with
 | [.tup a]=>.ok (.lst (rV 0 a),0) [ax a=true]
 | [.lst a]=>.ok (.lst (rV 0 a),k) [ax a=true]
 | _=>.st
def ze (ds:List D) (k:Nat):R1 :=
 match ds with
 | [.tup a,.tup b]=>.ok (.lst (List.zipWith (fun x y=>.tup [x,y]) a b),0) [ax a=true,ax b=true]
 | [x,y]=>(match eY x,eY y with|some a,some b=>.ok (.lst (List.zipWith (fun x y=>.tup [x,y]) a b),k) [ax a=true,ax b=true] | _,_=>.st)
 | _=>.st
def oh (l ds:List D) (k:Nat):Rs (List D) :=
 match ds with
 | [d]=>.ok (l++[d]) [d.lless=true\/k=0,l.length < cZ]
 | _=>.st
def Tb (l:List (Str×(List D->Rs D))) (c:List (Str×D)) (b:List (Str×(List D->R1))) (i:List (Str×(List D->Nat->R1))) (m:List (Str×(D->List D->R1))) (t:List (Str×(List D->List D->Nat->Rs (List D)))) (sf:D->Option Int->Option Int->R1):Fx :=
 { slf:=sf,fn:=fun g=>l.lookup g,con:=fun x=>c.lookup x,blt:=fun x=>b.lookup x,itr:=fun x=>i.lookup x,mth:=fun x=>m.lookup x,mtt:=fun x=>t.lookup x }
def xZ (l:List (Str×(List D->Rs D))) (c:List (Str×D)) (b:List (Str×(List D->R1))) (i:List (Str×(List D->Nat->R1))) (m:List (Str×(D->List D->R1))) (t:List (Str×(List D->List D->Nat->Rs (List D)))) (sf:D->Option Int->Option Int->R1) (fl:List (Str×List Str)) (om:List (Str×List (Str×(List D->Rs D)))):Fx :=
  { slf:=sf,fn:=fun g=>l.lookup g,con:=fun x=>c.lookup x,blt:=fun x=>b.lookup x,itr:=fun x=>i.lookup x,mth:=fun x=>m.lookup x,mtt:=fun x=>t.lookup x
    fld:=fun n f=>match fl.lookup n with|some fs=>fs.contains f|none=>false
    omt:=fun n x=>match om.lookup n with|some ms=>ms.lookup x|none=>none }
end Sp
namespace Sp
open PySem PySem.Spec PyProof.Rows L2
variable {X:Cx}
theorem kI {k:Int} {n:Nat} (h:k.natAbs < 2 ^ n):Builtin.Int.intBits k<=n:=by
 unfold Builtin.Int.intBits
 split
 ·exact Nat.zero_le _
 ·rename_i h0
  have:k.natAbs.log2 < n:=by
   rcases Nat.eq_zero_or_pos k.natAbs with h1|hp
   ·exact absurd (by simpa using h1) (by simpa using h0)
   ·exact (Nat.log2_lt (Nat.ne_of_gt hp)).mpr h
  omega
theorem dR:∀{l m:List Prop},aG (l++m) ↔ aG l/\aG m
 | [],m=>by simp [aG]
 | p::l,m=>by
  show p/\aG (l++m) ↔ (p/\aG l)/\aG m
  rw [dR,and_assoc]
theorem aS {α β:Type} {r:Rs α} {f:α->Rs β} {b:β} {l:List Prop} (h:r.bnd f=.ok b l) (hp:aG l):∃a l1 l2,r=.ok a l1/\aG l1/\f a=.ok b l2/\aG l2:=by
 unfold Rs.bnd at h
 split at h
 ·cases h
 ·rename_i a l1
  split at h
  ·cases h
  ·rename_i b' m e
   cases h
   obtain ⟨h1,h2⟩:=dR.mp hp
   exact ⟨a,l1,m,rfl,h1,e,h2⟩
theorem mN {b:Bool} {m:List Prop} (h:aG (gd b m)) (hb:b=true):aG m:=by
 cases m with
 | nil=>exact True.intro
 | cons p l=>exact h.1 hb
theorem JC {a b:Int} (h:Builtin.Int.intBits a<=2 ^ 22) (g:Builtin.Int.intBits b<=2 ^ 22):IntMulOk a b:=by
 have h':Builtin.Int.intTooBig (Builtin.Int.intBits a+Builtin.Int.intBits b)=false:=by
  unfold Builtin.Int.intTooBig bitsLine;exact decide_eq_false (by omega)
 unfold IntMulOk;rw [h'];simp
theorem qX {a b:Int} (h:bL a b):IntMulOk a b:=by
 rcases h with h|h | ⟨h,g⟩ | ⟨h,g⟩
 ·exact .of_left (kI h)
 ·exact .of_right (kI h)
 ·exact IntMulOk.of_bits (Nat.le_trans (kI h) (by decide)) (Nat.le_trans (kI g) (by decide))
 ·exact JC h g
theorem CC:cV X (binaryOp .Mult) (rI (fun i j=>bL i j) fun i j=>.int (i*j)):=qT fun _ _ _ _ _ _ _ hc q=>mul_int q (qX hc)
theorem yM:cV X (binaryOp .FloorDiv) (rI (fun _ j=>j≠0/\j.natAbs < bY) fun i j=>.int (i.fdiv j)):=qT fun i j _ _ _ _ _ hc q=>floordiv_int hc.1 q (.inl (PyProof.noPylong_of_log2 (by
 rcases Nat.eq_zero_or_pos j.natAbs with h1|hp
 ·exact absurd (by simpa using h1) hc.1
 ·exact (Nat.log2_lt (Nat.ne_of_gt hp)).mpr hc.2)))
mutual
theorem dN {pins:List (Addr×Obj)} {σ:L2.St} {H:Hp} {s:Shared} (I:Inv X pins σ H s) {P:bz}:∀{d:D} {v:V} {u:Value},d.py.canLay0=true->al X.K H P d v->aT v u->∃as,Reads s.heap u d.py as
 | .non,v,u,_,h,r=>by
  rw [al] at h;subst h;cases (show u=Value.none from r);rw [D.py];exact ⟨_,.none⟩
 | .bl b,v,u,_,h,r=>by rw [al] at h;subst h;cases (show u=Value.bool b from r);rw [D.py];exact ⟨_,.bool b⟩
 | .int i,v,u,_,h,r=>by rw [al] at h;subst h;obtain ⟨t,e⟩:=(show ∃t,u=Value.int i t from r);subst e;rw [D.py];exact ⟨_,.int i t⟩
 | .str x,v,u,_,h,r=>by rw [al] at h;subst h;obtain ⟨t,e⟩:=(show ∃t,u=Value.str x t from r);subst e;rw [D.py];exact ⟨_,.str x t⟩
 | .dct _ _,v,u,c,h,r=>by rw [D.py] at c;simp [PyData.canLay0] at c
 | .typ _,v,u,c,h,r=>by rw [D.py] at c;simp [PyData.canLay0] at c
 | .sn _,v,u,c,h,r=>by rw [D.py] at c;simp [PyData.canLay0] at c
 | .obj _ _ _,v,u,c,h,r=>by rw [D.py] at c;simp [PyData.canLay0] at c
 | .cls _,v,u,c,h,r=>by rw [D.py] at c;simp [PyData.canLay0] at c
 | .tup l,v,u,c,h,r=>by
  rw [al] at h
  obtain ⟨a,vs,rfl,h,q⟩:=h
  cases (show u=Value.ref a from r)
  obtain ⟨its,rv,ht,_⟩:=I.tuple h
  obtain ⟨o,e1,e2,n,e3⟩:=ht
  rw [D.py] at c ⊢
  obtain ⟨as,ra⟩:=jU I (by simpa [PyData.canLay0] using c) q rv
  exact ⟨as,.tuple e1 e2 e3 (by simpa using ra)⟩
 | .lst l,v,u,c,h,r=>by
  rw [al] at h
  obtain ⟨a,vs,b,rfl,h,_,q⟩:=h
  cases (show u=Value.ref a from r)
  have hs:cq X.K H a vs:=h.sq
  obtain ⟨its,rv,ht,_⟩:=I.list hs
  obtain ⟨o,n,e1,e2,_,e3⟩:=ht
  rw [D.py] at c ⊢
  obtain ⟨as,ra⟩:=jU I (by simpa [PyData.canLay0] using c) q rv
  exact ⟨_,.list e1 e2 e3 (by simpa using ra)⟩
theorem jU {pins:List (Addr×Obj)} {σ:L2.St} {H:Hp} {s:Shared} (I:Inv X pins σ H s) {P:bz}:∀{l:List D} {vs:List V} {us:List Value},PyData.canLayAll0 (gU l)=true->ai X.K H P l vs->aK vs us->∃as,ReadsAll s.heap us (gU l) as
 | [],vs,us,_,h,r=>by rw [ai] at h;subst h;cases r;rw [gU];exact ⟨_,.nil⟩
 | d::l,vs,us,c,h,r=>by
  rw [ai] at h
  obtain ⟨v,vr,rfl,h1,h2⟩:=h
  cases r with
  | cons r1 r2 =>
   rw [gU,PyData.canLayAll0,Bool.and_eq_true] at c
   obtain ⟨as,ra⟩:=dN I c.1 h1 r1
   obtain ⟨bs,rb⟩:=jU I c.2 h2 r2
   rw [gU]
   exact ⟨_,.cons ra rb⟩
end
def A6 (X:Cx) (f:Value->Value->Sem Value) (x y z:D) (k j l:Nat):Prop :=
 ∃r:R2,cV X f r/\∀ow H0 H2 v u (Q:VK),fb ow H0->aA H0 H2->al X.K H2 (Kp ow H0 k) x v->al X.K H2 (Kp ow H0 j) y u->(∀w H',aA H2 H'->al X.K H' (Kp ow H0 l) z w->Q w H')->r v u H2 Q
theorem cz {H:Hp} {p:Addr} {o:HO} (h:H p=none):aA H (aN H p o):=fun b x e=>by rw [ay (bF e h)];exact e
theorem al.kn {K:W.Frag} {ow:Ow} {H0 H:Hp} {d:D} {k:Nat} {v:V} (h:al K H (Kp ow H0 k) d v):al K H (Kp ow H0 (Sp.kn d k)) d v:=by
 unfold Sp.kn
 by_cases f:d.lless=true
 ·rw [if_pos f];exact h.flat _ f
 ·rw [if_neg f];exact h
theorem gY:cZ<=sizeLine:=by rw [sizeLine_eq];decide
theorem pe:cZ < sizeLine:=by rw [sizeLine_eq];decide
theorem iX {f:Value->Value->Sem Value} {a b:Int} {g:Int->Int->Int} {C:Int->Int->Prop} {k j:Nat} (h:cV X f (rI C fun i j=>.int (g i j))) (hc:C a b):A6 X f (.int a) (.int b) (.int (g a b)) k j 0 :=
 ⟨_,h,fun ow H0 H2 v u Q o s rx ry q=>by
  rw [al] at rx ry;subst rx ry
  exact ⟨a,b,rfl,rfl,hc,q _ _ (aA.refl _) (by rw [al])⟩⟩
theorem jq {f:Value->Value->Sem Value} {a b:Int} {g:Int->Int->Int} {k j:Nat} (h:cV X f (iq fun i j=>.int (g i j))):A6 X f (.int a) (.int b) (.int (g a b)) k j 0 :=
 ⟨_,h,fun ow H0 H2 v u Q o s rx ry q=>by
  rw [al] at rx ry;subst rx ry
  exact ⟨a,b,rfl,rfl,q _ _ (aA.refl _) (by rw [al])⟩⟩
theorem jE:∀{a b:List D},ax (a++b)=(ax a&&ax b)
 | [],b=>by simp [ax]
 | x::a,b=>by rw [List.cons_append,ax,ax,jE,Bool.and_assoc]
theorem Dz {op:Operator} {a b:Int} {z:D} {k j l:Nat} {o:List Prop} (h:zF op a b=.ok (z,l) o) (hp:aG o):A6 X (binaryOp op) (.int a) (.int b) z k j l:=by
 unfold zF at h
 split at h
 ·cases h;exact jq Fq
 ·cases h;exact jq Fj
 ·cases h;exact iX CC hp.1
 ·cases h;exact iX yM hp.1
 ·cases h;exact iX CD hp.1
 ·cases h
  have c:vd a b:=hp.1
  exact iX Fm ⟨c.1,by have:=c.2.1;omega,c.2.2⟩
 ·cases h;exact jq Fi
 ·cases h;exact jq Fp
 ·cases h;exact iX Fk hp.1
 ·cases h
theorem rz {op:Operator} (h:vB op=true):op=.Add:=by cases op <;> first|rfl|cases h
theorem yN:cV X (binaryOp .Add) (fun x y H Q => ∃a b ys,x=.ref a/\y=.ref b/\cm X.K H a []/\cm X.K H b ys/\Q (.ref b) H):=by
 intro pins s σ H x y v u Q I rx ry h
 obtain ⟨a,b,ys,rfl,rfl,ha,hb,q⟩:=h
 cases rx
 cases ry
 obtain ⟨its,r1,p1,_⟩:=I.tuple ha
 obtain ⟨its2,r2,p2,_⟩:=I.tuple hb
 cases r1
 obtain ⟨⟨cls,dd,data,sl⟩,ho,hc,n,hd⟩:=id p1
 obtain ⟨⟨cls2,dd2,data2,sl2⟩,ho2,hc2,n2,hd2⟩:=id p2
 simp only at hc hd hc2 hd2
 subst hc hd hc2 hd2
 exact concat_meets ⟨_,ho,rfl⟩ ⟨_,ho2,rfl⟩ noFill_tuple_add seq_tuple_add PySem.F.slot_tuple_add PySem.F.entry_tuple_add (PySem.F.args_tuple_add_2 _ _)
  (tuple_addW0 a b _ its2.toArray n n2 dd dd2 sl sl2 (by rfl)) ⟨ho,ho2,⟨.ref b,H,I,rfl,q⟩⟩
theorem t6:cV X (binaryOp .Add) (fun x y H Q => ∃l b xs zs,x=.ref l/\y=.ref b/\cq X.K H l xs/\cq X.K H b zs/\xs.length+zs.length<=sizeLine/\∀p,H p=none->Q (.ref p) (aN H p (.lst (xs++zs)))):=by
 intro pins s σ H x y v u Q I rx ry h
 obtain ⟨l,b,xs,zs,rfl,rfl,hH,hB,hz,q⟩:=h
 cases rx
 cases ry
 obtain ⟨its,r,⟨⟨cls,dd,data,sl⟩,n,ho,hc,_,hd⟩,z⟩:=I.list hH
 obtain ⟨its2,r2,⟨⟨cls2,dd2,data2,sl2⟩,n2,ho2,hc2,_,hd2⟩,z2⟩:=I.list hB
 simp only at hc hd hc2 hd2
 subst hc hd hc2 hd2
 have l1:=r.length
 have l2:=r2.length
 refine concat_meets ⟨_,ho,rfl⟩ ⟨_,ho2,rfl⟩ noFill_list_add seq_list_add PySem.F.slot_list_add PySem.F.entry_list_add (PySem.F.args_list_add_2 _ _) (list_addW l b its.toArray its2.toArray n n2 dd dd2 sl sl2 (by rw [List.size_toArray,List.size_toArray];omega)) ⟨ho,ho2,?_⟩
 have ea:its.toArray++its2.toArray=(its++its2).toArray:=by simp
 rw [ea]
 exact ⟨.ref _,_,I.lnew (t':=s.toks) (r.append r2) (by rw [List.length_append];omega),rfl,q _ I.fresh⟩
theorem HL {op:Operator} {x y z:D} {k j l:Nat} {o:List Prop} (h:sr op x y k j=.ok (z,l) o) (hp:aG o):A6 X (binaryOp op) x y z k j l:=by
 unfold sr at h
 split at h
 ·exact Dz h hp
 ·rename_i a b
  split at h
  ·rename_i c
   cases rz c
   cases h
   cases a with
   | nil =>
    refine ⟨_,yN,fun ow H0 H2 v u Q o s rx ry q=>?_⟩
    rw [al] at rx ry
    obtain ⟨pa,va,rfl,ha,ra⟩:=rx
    obtain ⟨pb,vb,rfl,hb,rb⟩:=ry
    have rb':=rb.imp (Kp.joinR o k j)
    cases ra
    refine ⟨pa,pb,vb,rfl,rfl,ha,hb,q _ _ (aA.refl _) (al.kn ?_)⟩
    rw [al]
    exact ⟨pb,vb,rfl,hb,rb'⟩
   | cons a0 a =>
    refine ⟨_,CF,fun ow H0 H2 v u Q o s rx ry q=>?_⟩
    rw [al] at rx ry
    obtain ⟨pa,va,rfl,ha,ra⟩:=rx
    obtain ⟨pb,vb,rfl,hb,rb⟩:=ry
    have ra':=ra.imp (Kp.joinL o k j)
    have rb':=rb.imp (Kp.joinR o k j)
    have la:=ra.length
    have lb:=rb.length
    refine ⟨pa,pb,va,vb,rfl,rfl,ha,hb,?_,?_,fun e=>?_,fun e p hp'=>?_⟩
    ·intro e;subst e;cases la
    ·rw [<- la,<- lb];exact Nat.le_trans hp.1 gY
    ·subst e
     have:b=[]:=List.length_eq_zero_iff.mp lb
     subst this
     refine q _ _ (aA.refl _) (al.kn ?_)
     rw [al]
     exact ⟨pa,va,rfl,ha,by rw [List.append_nil];exact ra'⟩
    ·have sm:=cz (o:=HO.tup (va++vb)) hp'
     refine q _ _ sm (al.kn ?_)
     rw [al]
     exact ⟨p,_,rfl,cm.of aH,(ra'.same sm).append (rb'.same sm)⟩
  ·cases h
 ·rename_i a b
  split at h
  ·rename_i c;cases h
   cases rz c
   refine ⟨_,t6,fun ow H0 H2 v u Q o s rx ry q=>?_⟩
   rw [al] at rx ry
   obtain ⟨pa,va,b1,rfl,ha,qa,ra⟩:=rx
   obtain ⟨pb,vb,b2,rfl,hb,qb,rb⟩:=ry
   have la:=ra.length
   have lb:=rb.length
   have fl:=hp.1
   rw [jE,Bool.and_eq_true] at fl
   refine ⟨pa,pb,va,vb,rfl,rfl,ha.sq,hb.sq,by rw [<- la,<- lb];exact Nat.le_trans hp.2.1 gY,fun p hp'=>?_⟩
   have sm:=cz (o:=HO.lst (va++vb)) hp'
   refine q _ _ sm ?_
   rw [al]
   exact ⟨p,_,true,rfl,aH,⟨rfl,s.free hp'⟩,((ra.flat _ fl.1).same sm).append ((rb.flat _ fl.2).same sm)⟩
  ·cases h
 ·cases h
theorem yV {pins:List (Addr×Obj)} {σ:L2.St} {H:Hp} {s:Shared} {P:bz} {l:List D} {v:V} (h:al X.K H P (.lst l) v):∃a vs,v=.ref a/\cq X.K H a vs/\ai X.K H P l vs:=by
 rw [al] at h
 obtain ⟨a,vs,b,rfl,h,_,q⟩:=h
 exact ⟨a,vs,rfl,h.sq,q⟩
theorem iB:∀{l:List D} {ns:List Int},dG l=some ns->l=ns.map D.int
 | [],ns,h=>by rw [dG] at h;cases h;rfl
 | .int i::l,ns,h=>by
  rw [dG] at h
  cases e:dG l with
  | none=>rw [e] at h;cases h
  | some m=>rw [e] at h;cases h;rw [iB e];rfl
 | .non::l,ns,h=>by rw [dG] at h <;> first|cases h | (intro z;intro e;cases e)
 | .bl _::l,ns,h=>by rw [dG] at h <;> first|cases h | (intro z;intro e;cases e)
 | .str _::l,ns,h=>by rw [dG] at h <;> first|cases h | (intro z;intro e;cases e)
 | .dct _ _::l,ns,h=>by rw [dG] at h <;> first|cases h | (intro z;intro e;cases e)
 | .typ _::l,ns,h=>by cases h
 | .sn _::l,ns,h=>by cases h
 | .obj _ _ _::l,ns,h=>by cases h
 | .cls _::l,ns,h=>by cases h
 | .tup _::l,ns,h=>by rw [dG] at h <;> first|cases h | (intro z;intro e;cases e)
 | .lst _::l,ns,h=>by rw [dG] at h <;> first|cases h | (intro z;intro e;cases e)
theorem np:∀{l:List D} {ns:List Bool},dE l=some ns->l=ns.map D.bl
 | [],ns,h=>by rw [dE] at h;cases h;rfl
 | .bl i::l,ns,h=>by
  rw [dE] at h
  cases e:dE l with
  | none=>rw [e] at h;cases h
  | some m=>rw [e] at h;cases h;rw [np e];rfl
 | .non::l,ns,h=>by rw [dE] at h <;> first|cases h | (intro z;intro e;cases e)
 | .int _::l,ns,h=>by rw [dE] at h <;> first|cases h | (intro z;intro e;cases e)
 | .str _::l,ns,h=>by rw [dE] at h <;> first|cases h | (intro z;intro e;cases e)
 | .dct _ _::l,ns,h=>by rw [dE] at h <;> first|cases h | (intro z;intro e;cases e)
 | .typ _::l,ns,h=>by cases h
 | .sn _::l,ns,h=>by cases h
 | .obj _ _ _::l,ns,h=>by cases h
 | .cls _::l,ns,h=>by cases h
 | .tup _::l,ns,h=>by rw [dE] at h <;> first|cases h | (intro z;intro e;cases e)
 | .lst _::l,ns,h=>by rw [dE] at h <;> first|cases h | (intro z;intro e;cases e)
def iS (X:Cx) (op:CmpOp) (x y:D) (r:Bool):Prop:=∀(P P':bz),cV X (compareOp op) (fun v u H Q=>al X.K H P x v/\al X.K H P' y u/\Q (.bl r) H)
theorem ki {x:D}:∀{l:List D},((gU l).any fun y=>PyData.eqv y x.py)=l.any fun y=>eqD y x
 | []=>by rw [gU];rfl
 | y::l=>by rw [gU,List.any_cons,List.any_cons,ki];rfl
theorem kQ {op:CmpOp} {a b:Int} {g:Int->Int->Bool} (h:cV X (compareOp op) (iq fun i j=>.bl (g i j))):iS X op (.int a) (.int b) (g a b):=fun P P' pins s σ H v u xv yu Q I rx ry ⟨h1,h2,q⟩=>by
 rw [al] at h1 h2;subst h1 h2
 exact h pins s σ H _ _ xv yu Q I rx ry ⟨a,b,rfl,rfl,q⟩
theorem CU {l:List D} (h:SeqAt.shaped (D.tup l).py=true):PyData.canLayAll0 (gU l)=true:=by
 have:=SeqAt.canLay_of_shaped h
 rw [D.py] at this
 simpa [PyData.canLay0] using this
theorem uf {x:D} {l:List D} {r:Bool} {o:List Prop} (hu:X.A.units+70 < cLine) (h:vp x l=.ok r o) (hp:aG o):iS X .In x (.tup l) r/\iS X .In x (.lst l) r/\iS X .NotIn x (.tup l) (!r)/\iS X .NotIn x (.lst l) (!r):=by
 unfold vp at h
 cases h
 ·have c:=hp.1
  unfold oG at c
  rw [Bool.and_eq_true] at c
  have c1:=CU c.1
  have c2:=SeqAt.canLay_of_shaped c.2
  have dx:=SeqAt.depth_of_shaped c.2
  have hm:min (PyData.depthAll (gU l)) x.py.depth<=64:=Nat.le_trans (Nat.min_le_right _ _) dx
  have ct:(D.tup l).py.canLay0=true:=SeqAt.canLay_of_shaped c.1
  have cl:(D.lst l).py.canLay0=true:=by rw [D.py];simpa [PyData.canLay0] using c1
  have et:(D.tup l).py=.tuple (gU l):=by rw [D.py]
  have el:(D.lst l).py=.list (gU l):=by rw [D.py]
  refine ⟨?_,?_,?_,?_⟩ <;> intro P P' pins s σ H v u xv yu Q I rx ry ⟨h1,h2,q⟩ <;> obtain ⟨as,r1⟩:=dN I c2 h1 rx
  ·obtain ⟨bs,r2⟩:=dN I ct h2 ry
   rw [et] at r2
   exact SeqAt.in_tuple_reads r2 r1 c1 c2 (by omega) ⟨.bl _,H,I,rfl,by rw [ki];exact q⟩
  ·obtain ⟨bs,r2⟩:=dN I cl h2 ry
   rw [el] at r2
   exact SeqAt.in_list_reads r2 r1 c1 c2 (by omega) ⟨.bl _,H,I,rfl,by rw [ki];exact q⟩
  ·obtain ⟨bs,r2⟩:=dN I ct h2 ry
   rw [et] at r2
   exact SeqAt.notIn_tuple_reads r2 r1 c1 c2 (by omega) ⟨.bl _,H,I,rfl,by rw [ki];exact q⟩
  ·obtain ⟨bs,r2⟩:=dN I cl h2 ry
   rw [el] at r2
   exact SeqAt.notIn_list_reads r2 r1 c1 c2 (by omega) ⟨.bl _,H,I,rfl,by rw [ki];exact q⟩
theorem FG {r:Rs Bool} {b:Bool} {o:List Prop} (h:r.nt=.ok b o):r=.ok (!b) o:=by
 cases r with
 | st=>cases h
 | ok c l=>cases h;simp
theorem ua {P:bz} {H:Hp} {x:D} {v:V} (h:al X.K H P x v):decide (v=.non)=x.isNon:=by
 cases x with
 | non=>rw [al] at h;subst h;rfl
 | bl _=>rw [al] at h;subst h;rfl
 | int _=>rw [al] at h;subst h;rfl
 | str _=>rw [al] at h;subst h;rfl
 | dct _ _=>rw [al] at h;obtain ⟨_,_,a,_,rfl,_⟩:=h;rfl
 | typ _=>rw [al] at h;subst h;rfl
 | sn _=>rw [al] at h;obtain ⟨a,_,rfl,_⟩:=h;rfl
 | obj _ _ _=>rw [al] at h;obtain ⟨_,_,a,_,_,_,rfl,_⟩:=h;rfl
 | cls _=>rw [al] at h;obtain ⟨_,_,rfl,_⟩:=h;rfl
 | tup _=>rw [al] at h;obtain ⟨a,_,rfl,_⟩:=h;rfl
 | lst _=>rw [al] at h;obtain ⟨a,_,_,rfl,_⟩:=h;rfl
theorem fu {d:D} {l:List D} (h:eY d=some l):d=.tup l\/d=.lst l:=by
 unfold eY at h
 split at h
 ·cases h;exact .inl rfl
 ·cases h;exact .inr rfl
 ·cases h
theorem Dw {op:CmpOp} {a b:Int} {r:Bool} (h:fX op a b=some r):iS X op (.int a) (.int b) r:=by
 unfold fX at h
 split at h
 ·cases h;exact kQ Jl
 ·cases h;exact kQ Jm
 ·cases h;exact kQ Jn
 ·cases h;exact kQ Jo
 ·cases h
theorem Fh {op:CmpOp} {x y:D} {r:Bool} (hu:X.A.units+70 < cLine) (h:vi op x y=some r):iS X op x y r:=by
 unfold vi at h
 split at h
 ·exact Dw h
 ·cases h
theorem A2 (b c:Bool):(Value.bool b==Value.bool c)=(b==c):=by cases b <;> cases c <;> rfl
theorem AM {x y:D} {r:Bool} {o:List Prop} (hu:X.A.units+70 < cLine) (h:AN x y=.ok r o) (hp:aG o):iS X .In x y r/\iS X .NotIn x y (!r):=by
 unfold AN at h
 split at h
 ·have m:=uf hu h hp;exact ⟨m.1,m.2.2.1⟩
 ·have m:=uf hu h hp;exact ⟨m.2.1,m.2.2.2⟩
 ·cases h
 ·rename_i b
  split at h
  ·rename_i a
   cases h
   refine ⟨?_,?_⟩ <;> intro P P' pins s σ H v u xv yu Q I rx ry ⟨h1,h2,q⟩ <;> (rw [al] at h1 h2;subst h1 h2;obtain ⟨t,rfl⟩:=rx;obtain ⟨t',rfl⟩:=ry)
   ·exact SB.contains ⟨.bl _,H,I,rfl,q⟩
   ·exact SB.notContains ⟨.bl _,H,I,rfl,q⟩
  ·cases h
 ·cases h
theorem jd {op:CmpOp} {x y:D} {r:Bool} {o:List Prop} (hu:X.A.units+70 < cLine) (h:iM op x y=.ok r o) (hp:aG o):iS X op x y r:=by
 unfold iM at h
 split at h
 ·cases h
  have c:=hp.1
  unfold oG at c
  rw [Bool.and_eq_true] at c
  intro P P' pins s σ H v u xv yu Q I rx ry ⟨h1,h2,q⟩
  obtain ⟨as,r1⟩:=dN I (SeqAt.canLay_of_shaped c.1) h1 rx
  obtain ⟨bs,r2⟩:=dN I (SeqAt.canLay_of_shaped c.2) h2 ry
  exact eq_dataH r1 r2 c.1 c.2 (by omega) ⟨.bl _,H,I,rfl,q⟩
 ·cases h
  have c:=hp.1
  unfold oG at c
  rw [Bool.and_eq_true] at c
  intro P P' pins s σ H v u xv yu Q I rx ry ⟨h1,h2,q⟩
  obtain ⟨as,r1⟩:=dN I (SeqAt.canLay_of_shaped c.1) h1 rx
  obtain ⟨bs,r2⟩:=dN I (SeqAt.canLay_of_shaped c.2) h2 ry
  exact ne_dataH r1 r2 c.1 c.2 (by omega) ⟨.bl _,H,I,rfl,q⟩
 ·exact (AM hu h hp).1
 ·have:=(AM hu (FG h) hp).2;rw [Bool.not_not] at this;exact this
 ·split at h
  ·cases h
   intro P P' pins s σ H v u xv yu Q I rx ry ⟨h1,h2,q⟩
   rw [al] at h2
   subst h2
   exact Fo pins s σ H v _ xv yu Q I rx ry ⟨rfl,by rw [ua h1];exact q⟩
  ·split at h
   ·cases h
    intro P P' pins s σ H v u xv yu Q I rx ry ⟨h1,h2,q⟩
    rw [al] at h1 h2
    subst h1 h2
    cases rx
    cases ry
    exact wpAny_is_plain rfl ⟨.bl _,H,I,rfl,by rw [A2];exact q⟩
   ·cases h
  ·cases h
 ·split at h
  ·cases h
   intro P P' pins s σ H v u xv yu Q I rx ry ⟨h1,h2,q⟩
   rw [al] at h2
   subst h2
   refine CB pins s σ H v _ xv yu Q I rx ry ⟨rfl,?_⟩
   rw [ua h1]
   exact q
  ·split at h
   ·cases h
    intro P P' pins s σ H v u xv yu Q I rx ry ⟨h1,h2,q⟩
    rw [al] at h1 h2
    subst h1 h2
    cases rx
    cases ry
    exact wpAny_isNot_plain rfl ⟨.bl _,H,I,rfl,by rw [A2];exact q⟩
   ·cases h
  ·cases h
 ·cases e:vi op x y with
  | none=>rw [e] at h;cases h
  | some b=>rw [e] at h;cases h;exact Fh hu e
end Sp
namespace Sp
open PySem PySem.Spec PyProof.Rows L2
variable {X:Cx}
theorem uk (K:W.Frag) {t:Value}:W.kitOne K t t=some true:=by unfold W.kitOne;rw [if_pos (beq_self_eq_true t)]
def D.ty:D->String
 | .non => "NoneType"
 | .bl _ => "bool"
 | .int _ => "int"
 | .str _ => "str"
 | .dct _ _ => "dict"
 | .tup _ => "tuple"
 | .lst _ => "list"
 | .typ _ => "type"
 | .sn _ => "set"
 | .obj _ _ _ => "object"
 | .cls _ => "type"
def D.plain:D->Bool
 | .typ _=>false
 | .sn _=>false
 | .obj _ _ _=>false
 | .cls _=>false
 | _=>true
theorem Gd {x:D} {c:String} {b:Bool} (hpl:x.plain=true) (e:∀K,W.kitOne K (.type x.ty) (.type c)=some b) {pins:List (Addr×Obj)} {σ:L2.St} {H:Hp} {s:Shared} {v:V} {u:Value} {P:bz} {Q:Value->Shared->Prop} {E:Value->Shared->Prop}
  (I:Inv X pins σ H s) (h:al X.K H P x v) (r:aT v u) (q:∀tk,Q (.bool b) { s with toks:=tk }):wpAny (model X.prog X.w) X.A (call (.builtin "isinstance") [u,.type c]) Q E s:=by
 have e:=e X.K
 cases x with
 | non=>rw [al] at h;subst h;cases (show u=Value.none from r);exact W.kia_one W.kitx_none I.kIn True.intro e (fun z=>nomatch z) q
 | bl y=>rw [al] at h;subst h;cases (show u=Value.bool y from r);exact W.kia_one W.kitx_bool I.kIn True.intro e (fun z=>nomatch z) q
 | int i=>rw [al] at h;subst h;obtain ⟨t,z⟩:=(show ∃t,u=Value.int i t from r);cases z;exact W.kia_one W.kitx_int I.kIn True.intro e (fun z=>nomatch z) q
 | str y=>rw [al] at h;subst h;obtain ⟨t,z⟩:=(show ∃t,u=Value.str y t from r);cases z;exact W.kia_one W.kitx_str I.kIn True.intro e (fun z=>nomatch z) q
 | dct ks ds =>
  rw [al] at h
  obtain ⟨_,_,a,vs,rfl,ea,_⟩:=h
  cases (show u=Value.ref a from r)
  obtain ⟨_,_,vs,_,p⟩:=(show cn X.prog X.w H s.heap a (.dK _) from I.hok a _ ea)
  obtain ⟨o,es,ep,h1,h2,_⟩:=p
  exact W.kia_one W.kitx_dict I.kIn ⟨o,h1,h2.1⟩ e (fun z=>nomatch z) q
 | typ _=>cases hpl
 | sn _=>cases hpl
 | obj _ _ _=>cases hpl
 | cls _=>cases hpl
 | tup l =>
  rw [al] at h
  obtain ⟨a,vs,rfl,ea,_⟩:=h
  cases (show u=Value.ref a from r)
  obtain ⟨_,_,⟨o,h1,h2,_⟩,_⟩:=I.tuple ea
  exact W.kia_one W.kitx_tuple I.kIn ⟨o,h1,h2⟩ e (fun z=>nomatch z) q
 | lst l =>
  obtain ⟨a,vs,rfl,ea,_⟩:=yV (pins:=pins) (σ:=σ) (s:=s) h
  cases (show u=Value.ref a from r)
  obtain ⟨_,_,⟨o,n,h1,h2,_⟩,_⟩:=I.list ea
  exact W.kia_one W.kitx_list I.kIn ⟨o,h1,h2⟩ e (fun z=>nomatch z) q
theorem kt (K:W.Frag) (a b:String) (r:Bool) (h:(a==b)=false) (h2:W.kitCls K (.type a) (.type b)=some r):W.kitOne K (.type a) (.type b)=some r:=by
 unfold W.kitOne
 rw [if_neg (by
  intro z
  have:a=b:=by simpa using z
  subst this
  simp at h)]
 exact h2
theorem CY:∀a∈["NoneType", "bool", "int", "str", "dict", "tuple", "list"],∀T∈kB,(a==T)=false->∀K,W.kitCls K (.type a) (.type T)=some (decide (a = "bool" /\ T = "int")):=by
 intro a ha T hT
 simp only [List.mem_cons,List.not_mem_nil,or_false,kB] at ha hT
 rcases ha with rfl|rfl|rfl|rfl|rfl|rfl|rfl <;> rcases hT with rfl|rfl|rfl|rfl|rfl|rfl <;> intro h K <;> first | (exact absurd h (by decide)) | kernel_rfl
theorem Ge {x:D} {T:String} {b:Bool} (h:Gf x T=some b) (hT:T∈kB):x.plain=true/\∀K,W.kitOne K (.type x.ty) (.type T)=some b:=by
 have key:∀(a:String),a∈["NoneType", "bool", "int", "str", "dict", "tuple", "list"]->∀K,W.kitOne K (.type a) (.type T)=some (decide (a=T) || decide (a = "bool" /\ T = "int")):=fun a ha K=>by
  by_cases e:a=T
  ·subst e;rw [uk];simp
  ·have e':(a==T)=false:=by simpa using e
   rw [kt K a T _ e' (CY a ha T hT e' K)];simp [e]
 unfold Gf at h
 cases hx:x.ty0 with
 | none=>rw [hx] at h;cases h
 | some a =>
  rw [hx] at h
  cases h
  have hp:x.plain=true/\x.ty=a/\a∈["NoneType", "bool", "int", "str", "dict", "tuple", "list"]:=by
   cases x <;> cases hx <;> exact ⟨rfl,rfl,by decide⟩
  refine ⟨hp.1,fun K=>?_⟩
  rw [hp.2.1]
  exact key a hp.2.2 K
def gM (X:Cx) (f:Value) (ds:List D) (z:D) (l:Nat):Prop :=
 ∃r:List V->Hp->VK->Prop,ek X f r/\∀ow H0 H2 vs (P:bz) (Q:VK),fb ow H0->aA H0 H2->ai X.K H2 P ds vs->(∀w H',aA H2 H'->al X.K H' (Kp ow H0 l) z w->Q w H')->r vs H2 Q
theorem ai.only {K:W.Frag} {P:bz} {H:Hp} {d:D} {vs:List V} (h:ai K H P [d] vs):∃v,vs=[v]/\al K H P d v:=by
 rw [ai] at h
 obtain ⟨v,r,rfl,h1,h2⟩:=h
 rw [ai] at h2;subst h2
 exact ⟨v,rfl,h1⟩
theorem ge {P:bz} {H:Hp} {l:List D} {v:V} (h:al X.K H P (.lst l) v):∃a vs,v=.ref a/\cq X.K H a vs/\ai X.K H P l vs:=by
 rw [al] at h
 obtain ⟨a,vs,b,rfl,h,_,q⟩:=h
 exact ⟨a,vs,rfl,h.sq,q⟩
theorem eD {P:bz} {H:Hp} {l:List D} {v:V} (h:al X.K H P (.tup l) v):∃a vs,v=.ref a/\cm X.K H a vs/\ai X.K H P l vs:=by
 rw [al] at h;exact h
theorem wX {l:List D}:gM X (.builtin "len") [.tup l] (.int l.length) 0/\gM X (.builtin "len") [.lst l] (.int l.length) 0:=by
 constructor
 ·refine ⟨_,kh,fun ow H0 H2 vs P Q o s rx q=>?_⟩
  obtain ⟨v,rfl,ry⟩:=rx.only
  obtain ⟨a,ws,rfl,hs,rl⟩:=eD ry
  exact ⟨a,ws,rfl,.inr hs,by rw [<- rl.length];exact q _ _ (aA.refl _) (by rw [al])⟩
 ·refine ⟨_,kh,fun ow H0 H2 vs P Q o s rx q=>?_⟩
  obtain ⟨v,rfl,ry⟩:=rx.only
  obtain ⟨a,ws,rfl,hs,rl⟩:=ge ry
  exact ⟨a,ws,rfl,.inl hs,by rw [<- rl.length];exact q _ _ (aA.refl _) (by rw [al])⟩
theorem qr {l:List D} (f:ax l=true):gM X (.type "tuple") [.lst l] (.tup l) 0/\gM X (.type "tuple") [.tup l] (.tup l) 0:=by
 constructor
 ·refine ⟨_,jF,fun ow H0 H2 vs P Q o s rx q=>?_⟩
  obtain ⟨v,rfl,ry⟩:=rx.only
  obtain ⟨a,ws,rfl,hs,rl⟩:=ge ry
  refine ⟨a,ws,rfl,.inl ⟨hs,fun p hp=>?_⟩⟩
  have sm:=cz (o:=HO.tup ws) hp
  refine q _ _ sm ?_
  rw [al]
  exact ⟨p,ws,rfl,cm.of aH,(rl.flat _ f).same sm⟩
 ·refine ⟨_,jF,fun ow H0 H2 vs P Q o s rx q=>?_⟩
  obtain ⟨v,rfl,ry⟩:=rx.only
  obtain ⟨a,ws,rfl,hs,rl⟩:=eD ry
  refine ⟨a,ws,rfl,.inr ⟨hs,q _ _ (aA.refl _) ?_⟩⟩
  rw [al]
  exact ⟨a,ws,rfl,hs,rl.flat _ f⟩
theorem uj {l:List D} (f:ax l=true):gM X (.type "list") [.lst l] (.lst l) 0/\gM X (.type "list") [.tup l] (.lst l) 0:=by
 constructor
 ·refine ⟨_,kg,fun ow H0 H2 vs P Q o s rx q=>?_⟩
  obtain ⟨v,rfl,ry⟩:=rx.only
  obtain ⟨a,ws,rfl,hs,rl⟩:=ge ry
  refine ⟨a,ws,rfl,.inl hs,fun p hp=>?_⟩
  have sm:=cz (o:=HO.lst ws) hp
  refine q _ _ sm ?_
  rw [al]
  exact ⟨p,ws,true,rfl,aH,⟨rfl,s.free hp⟩,(rl.flat _ f).same sm⟩
 ·refine ⟨_,kg,fun ow H0 H2 vs P Q o s rx q=>?_⟩
  obtain ⟨v,rfl,ry⟩:=rx.only
  obtain ⟨a,ws,rfl,hs,rl⟩:=eD ry
  refine ⟨a,ws,rfl,.inr hs,fun p hp=>?_⟩
  have sm:=cz (o:=HO.lst ws) hp
  refine q _ _ sm ?_
  rw [al]
  exact ⟨p,ws,true,rfl,aH,⟨rfl,s.free hp⟩,(rl.flat _ f).same sm⟩
theorem Ig {i:Int}:gM X (.builtin "abs") [.int i] (.int (if i < 0 then -i else i)) 0:=by
 refine ⟨_,zE,fun ow H0 H2 vs P Q o s rx q=>?_⟩
 obtain ⟨v,rfl,ry⟩:=rx.only
 rw [al] at ry;subst ry
 exact ⟨i,rfl,q _ _ (aA.refl _) (by rw [al])⟩
theorem ai.mapBl {K:W.Frag} {P:bz} {H:Hp}:∀{ns:List Bool} {vs:List V},ai K H P (ns.map D.bl) vs->vs=ns.map V.bl
 | [],vs,h=>by rw [List.map_nil,ai] at h;exact h
 | n::ns,vs,h=>by
  rw [List.map_cons,ai] at h
  obtain ⟨v,r,rfl,h1,h2⟩:=h
  rw [al] at h1
  rw [h1,ai.mapBl h2];rfl
theorem tM:∀{bs:List Bool} {us:List Value},aK (bs.map V.bl) us->us=bs.map Value.bool
 | [],us,h=>by cases h;rfl
 | b::bs,us,h=>by
  cases h with
  | cons h1 h2=>rw [show _=Value.bool b from h1,tM h2];rfl
theorem qp:∀{ns:List Int} {us:List Value},aK (ns.map V.int) us->(∀v,v∈us->∃a t,v=Value.int a t)/\numsOf us=ns
 | [],us,h=>by cases h;exact ⟨fun _ h=>(by cases h),rfl⟩
 | n::ns,us,h=>by
  cases h with
  | cons h1 h2 =>
   obtain ⟨t,rfl⟩:=(show ∃t,_=Value.int n t from h1)
   obtain ⟨i1,i2⟩:=qp h2
   refine ⟨fun v hv=>?_,by simp only [numsOf];rw [i2]⟩
   rcases List.mem_cons.mp hv with rfl|hv
   ·exact ⟨_,_,rfl⟩
   ·exact i1 v hv
theorem xH (hc:X.calm=true):ek X (.builtin "sum") (fun xs H Q => ∃(p:Addr) (ns:List Int),xs=[.ref p]/\cq X.K H p (ns.map V.int)/\Q (.int ns.sum) H):=by
 intro pins s σ H xs us Q I r h
 obtain ⟨p,ns,rfl,hq,q⟩:=h
 obtain ⟨u,rfl,rx⟩:=eJ r
 cases rx
 obtain ⟨its,rv,pl,hz⟩:=I.list hq
 obtain ⟨hall,hnum⟩:=qp rv
 obtain ⟨xs,e⟩:=AllInts.items (vs:=its.toArray) (fun v hv=>hall v (by simpa using hv))
 have hl:=pl.isList
 rw [e] at hl
 refine sum_intListG (I.ok.hd hc) hl fun h' tk t' hk=>?_
 refine ⟨.int ns.sum,H,I.kept hk,⟨t',?_⟩,q⟩
 congr 1
 rw [preSum_eq,List.take_of_length_le (by simp),<- nums_intItems,<- e]
 simp [hnum]
theorem xL (hc:X.calm=true):ek X (.builtin "any") (fun xs H Q => ∃(p:Addr) (ns:List Int),xs=[.ref p]/\cq X.K H p (ns.map V.int)/\Q (.bl (ns.any fun n=>n != 0)) H):=by
 intro pins s σ H xs us Q I r h
 obtain ⟨p,ns,rfl,hq,q⟩:=h
 obtain ⟨u,rfl,rx⟩:=eJ r
 cases rx
 obtain ⟨its,rv,pl,hz⟩:=I.list hq
 have hlen:its.length=ns.length:=by have:=rv.length;simpa using this.symm
 have hl:=pl.isList
 have hlt:p < s.heap.objs.size:=by obtain ⟨_,e,_⟩:=hl;exact Heap.lt_size e
 refine call_any_walk (wpAny_pyIter_list hl ?_)
 refine ⟨_,_,_,_,_,_,fun i=>(ns.getD i 0 != 0),rfl,Walks.list (A:=X.A.in1) (by exact I.ok.hd hc) _ p (Nat.ne_of_lt hlt) its.toArray,⟨⟨_,Heap.get?_push_size _ rfl,rfl,rfl⟩,hl.push _⟩,?_,fun h' tk hk=>?_⟩
 ·intro i v s' Q' E' hP hQ
  have hP:(its.toArray)[i]?=some v:=hP
  simp only [List.getElem?_toArray] at hP
  have hi:i < ns.length:=by rw [<- hlen];exact (List.getElem?_eq_some_iff.mp hP).1
  obtain ⟨w,hw,rw'⟩:=rv.get (i:=i) (x:=V.int ns[i]) (by simp [hi])
  rw [hP] at hw;cases hw
  obtain ⟨t,rfl⟩:=rw'
  refine PyProof.Rows.truthy_int ?_
  have:ns.getD i 0=ns[i]:=by rw [List.getD_eq_getElem?_getD,List.getElem?_eq_getElem hi];rfl
  rw [<- this];exact hQ
 ·have:((List.range its.toArray.size).any fun i=>(ns.getD i 0 != 0))=ns.any fun n=>n != 0:=by
   simp only [List.size_toArray,hlen]
   rw [Bool.eq_iff_iff,List.any_eq_true,List.any_eq_true]
   constructor
   ·rintro ⟨i,hi,h⟩
    have hi:=List.mem_range.mp hi
    rw [List.getD_eq_getElem?_getD,List.getElem?_eq_getElem hi] at h
    exact ⟨_,List.getElem_mem hi,h⟩
   ·rintro ⟨x,hx,h⟩
    obtain ⟨i,hi,rfl⟩:=List.mem_iff_getElem.mp hx
    exact ⟨i,List.mem_range.mpr hi,by rw [List.getD_eq_getElem?_getD,List.getElem?_eq_getElem hi];exact h⟩
  rw [this]
  refine ⟨.bl _,H,I.kept (fun b o e=>hk b o (fun hm=>?_) (Heap.get?_push_of_some _ e)),rfl,q⟩
  have hb:b=s.heap.objs.size:=by simpa using hm
  subst hb
  exact absurd (Heap.lt_size e) (Nat.lt_irrefl _)
theorem xK (hc:X.calm=true):ek X (.builtin "any") (fun xs H Q => ∃(p:Addr) (bs:List Bool),xs=[.ref p]/\cq X.K H p (bs.map V.bl)/\Q (.bl (bs.any id)) H):=by
 intro pins s σ H xs us Q I r h
 obtain ⟨p,bs,rfl,hq,q⟩:=h
 obtain ⟨u,rfl,rx⟩:=eJ r
 cases rx
 obtain ⟨its,rv,pl,hz⟩:=I.list hq
 have ei:=tM rv
 subst ei
 have hl:=pl.isList
 have hlt:p < s.heap.objs.size:=by obtain ⟨_,e,_⟩:=hl;exact Heap.lt_size e
 refine call_any_walk (wpAny_pyIter_list hl ?_)
 refine ⟨_,_,_,_,_,_,fun i=>bs.getD i false,rfl,Walks.list (A:=X.A.in1) (by exact I.ok.hd hc) _ p (Nat.ne_of_lt hlt) (bs.map Value.bool).toArray,⟨⟨_,Heap.get?_push_size _ rfl,rfl,rfl⟩,hl.push _⟩,?_,fun h' tk hk=>?_⟩
 ·intro i v s' Q' E' hP hQ
  have hP:((bs.map Value.bool).toArray)[i]?=some v:=hP
  simp only [List.getElem?_toArray,List.getElem?_map] at hP
  cases e:bs[i]? with
  | none=>rw [e] at hP;cases hP
  | some b =>
   rw [e] at hP;cases hP
   refine wpAny_truthy_bool ?_
   have:bs.getD i false=b:=by rw [List.getD_eq_getElem?_getD,e];rfl
   rw [<- this];exact hQ
 ·have:((List.range (bs.map Value.bool).toArray.size).any fun i=>bs.getD i false)=bs.any id:=by
   simp only [List.size_toArray,List.length_map]
   rw [Bool.eq_iff_iff,List.any_eq_true,List.any_eq_true]
   constructor
   ·rintro ⟨i,hi,h⟩
    have hi:=List.mem_range.mp hi
    rw [List.getD_eq_getElem?_getD,List.getElem?_eq_getElem hi] at h
    exact ⟨_,List.getElem_mem hi,h⟩
   ·rintro ⟨x,hx,h⟩
    obtain ⟨i,hi,rfl⟩:=List.mem_iff_getElem.mp hx
    exact ⟨i,List.mem_range.mpr hi,by rw [List.getD_eq_getElem?_getD,List.getElem?_eq_getElem hi];exact h⟩
  rw [this]
  refine ⟨.bl _,H,I.kept (fun b o e=>hk b o (fun hm=>?_) (Heap.get?_push_of_some _ e)),rfl,q⟩
  have hb:b=s.heap.objs.size:=by simpa using hm
  subst hb
  exact absurd (Heap.lt_size e) (Nat.lt_irrefl _)
theorem xI:ek X (.builtin "len") (fun xs H Q => ∃(p:Addr) (S:Int->Bool) (n:Nat),xs=[.ref p]/\H p=some (.set S n)/\Q (.int n) H):=by
 intro pins s σ H xs us Q I r h
 obtain ⟨p,S,n,rfl,hp,q⟩:=h
 obtain ⟨u,rfl,rx⟩:=eJ r
 cases rx
 obtain ⟨o,es,ep,t,h1,h2,h3,_,_,h4,h5,rfl⟩:=(show s.heap.SetOf (intKind X.prog X.w) p S n from I.hok p _ hp)
 exact call_len_set h1 h2 h3 h5 (by unfold scanBound at h4;omega) ⟨.int _,H,I.tok _,⟨_,rfl⟩,q⟩
def fq (f:Str) (B:List D->R1):Prop:=f∈gw/\f ≠ "__name__" /\ (f==("__debug__" : Str))=false/\(B []=.st)/\∀(X:Cx) (ds:List D) (z:D) (l:Nat) (o:List Prop),X.calm=true->B ds=.ok (z,l) o->aG o ->
 ((∃id,bootBuiltins f=some (.builtin id)/\gM X (.builtin id) ds z l)\/∃T,bootBuiltins f=some (.type T)/\gM X (.type T) ds z l)
theorem DC:fq "len" zI:=by
 refine ⟨by decide +kernel,by decide +kernel,by decide +kernel,rfl,fun X ds z l o hc h _=>.inl ⟨"len", by decide +kernel,?_⟩⟩
 unfold zI at h
 split at h
 ·cases h
  refine ⟨_,xI,fun ow H0 H2 vs P Q o s rx q=>?_⟩
  obtain ⟨v,rfl,ry⟩:=rx.only
  rw [al] at ry
  obtain ⟨a,S,rfl,ha⟩:=ry
  exact ⟨a,S,_,rfl,ha,q _ _ (aA.refl _) (by rw [al])⟩
 ·split at h
  ·rename_i m e
   cases h
   rcases fu e with rfl|rfl
   ·exact wX.1
   ·exact wX.2
  ·cases h
 ·cases h
theorem xO:fq "tuple" nq:=by
 refine ⟨by decide +kernel,by decide +kernel,by decide +kernel,rfl,fun X ds z l o hc h hp=>.inr ⟨"tuple", by decide +kernel,?_⟩⟩
 unfold nq at h
 split at h
 ·split at h
  ·rename_i m e
   cases h
   have c:=hp.1
   rcases fu e with rfl|rfl
   ·exact (qr c).2
   ·exact (qr c).1
  ·cases h
 ·cases h
theorem zH:fq "list" vW:=by
 refine ⟨by decide +kernel,by decide +kernel,by decide +kernel,rfl,fun X ds z l o hc h hp=>.inr ⟨"list", by decide +kernel,?_⟩⟩
 unfold vW at h
 split at h
 ·split at h
  ·rename_i m e
   cases h
   have c:=hp.1
   rcases fu e with rfl|rfl
   ·exact (uj c).2
   ·exact (uj c).1
  ·cases h
 ·cases h
theorem DF:fq "abs" zM:=by
 refine ⟨by decide +kernel,by decide +kernel,by decide +kernel,rfl,fun X ds z l o hc h _=>.inl ⟨"abs", by decide +kernel,?_⟩⟩
 unfold zM at h
 split at h
 ·cases h;exact Ig
 ·cases h
theorem DE:fq "any" zL:=by
 refine ⟨by decide +kernel,by decide +kernel,by decide +kernel,rfl,fun X ds z l o hc h _=>.inl ⟨"any", by decide +kernel,?_⟩⟩
 unfold zL at h
 split at h
 ·split at h
  ·rename_i ns e
   cases h
   cases iB e
   refine ⟨_,xL hc,fun ow H0 H2 vs P Q o s rx q=>?_⟩
   obtain ⟨v,rfl,ry⟩:=rx.only
   obtain ⟨a,ws,rfl,hs,rl⟩:=ge ry
   exact ⟨a,ns,rfl,by rw [<- rl.mapInt];exact hs,q _ _ (aA.refl _) (by rw [al])⟩
  ·split at h
   ·rename_i bs e
    cases h
    cases np e
    refine ⟨_,xK hc,fun ow H0 H2 vs P Q o s rx q=>?_⟩
    obtain ⟨v,rfl,ry⟩:=rx.only
    obtain ⟨a,ws,rfl,hs,rl⟩:=ge ry
    exact ⟨a,bs,rfl,by rw [<- rl.mapBl];exact hs,q _ _ (aA.refl _) (by rw [al])⟩
   ·cases h
 ·cases h
theorem DB:fq "sum" zG:=by
 refine ⟨by decide +kernel,by decide +kernel,by decide +kernel,rfl,fun X ds z l o hc h _=>.inl ⟨"sum", by decide +kernel,?_⟩⟩
 unfold zG at h
 split at h
 ·split at h
  ·rename_i bs e
   cases h
   cases iB e
   refine ⟨_,xH hc,fun ow H0 H2 vs P Q o s rx q=>?_⟩
   obtain ⟨v,rfl,ry⟩:=rx.only
   obtain ⟨a,ws,rfl,hs,rl⟩:=ge ry
   exact ⟨a,bs,rfl,by rw [<- rl.mapInt];exact hs,q _ _ (aA.refl _) (by rw [al])⟩
  ·cases h
 ·cases h
theorem DD:fq "isinstance" zJ:=by
 refine ⟨by decide +kernel,by decide +kernel,by decide +kernel,rfl,fun X ds z l o hc h _=>.inl ⟨"isinstance", by decide +kernel,?_⟩⟩
 unfold zJ at h
 split at h
 ·rename_i m ns es n
  split at h
  ·rename_i hmn
   subst hmn
   cases h
   have cr:ek X (.builtin "isinstance") (fun xs H Q => ∃a C dx fs,xs=[.ref a,.ref C]/\H a=some (.ins C dx fs)/\eO X.K C/\qh X.K C/\Q (.bl true) H):=by
    intro pins s σ H xs us Q I r hh
    obtain ⟨a,C,dx,fs,rfl,ea,hc,ho,q⟩:=hh
    obtain ⟨u,u2,rfl,ru,ru2⟩:=me r
    cases (show u2=Value.ref C from ru2)
    exact pj I ru (.ins ea hc ho.ha ho.hn ho.ht ho.hm) (uk _) fun tk=>⟨.bl true,H,I.tok tk,rfl,q⟩
   refine ⟨_,cr,fun ow H0 H2 vs P Q o s rx q=>?_⟩
   rw [ai] at rx
   obtain ⟨v,r,rfl,r1,r2⟩:=rx
   obtain ⟨w,rfl,r3⟩:=r2.only
   rw [al] at r1
   rw [al] at r3
   obtain ⟨_,_,a,C,dx,vs,rfl,h1,h2,h3,_⟩:=r1
   obtain ⟨C',o',rfl,h4,_,_,h5,_⟩:=r3
   rw [h1] at h4;cases h4
   exact ⟨a,C,dx,_,rfl,h3,h2,h5,q _ _ (aA.refl _) (by rw [al])⟩
  ·split at h
   ·rename_i hmn
    cases h
    have cr:ek X (.builtin "isinstance") (fun xs H Q => ∃a C C' dx fs,xs=[.ref a,.ref C']/\H a=some (.ins C dx fs)/\eO X.K C/\qh X.K C/\W.kitOne X.K (.ref C) (.ref C')=some (qw m n)/\Q (.bl (qw m n)) H):=by
     intro pins s σ H xs us Q I r hh
     obtain ⟨a,C,C',dx,fs,rfl,ea,hc,ho,hk,q⟩:=hh
     obtain ⟨u,u2,rfl,ru,ru2⟩:=me r
     cases (show u2=Value.ref C' from ru2)
     exact pj I ru (.ins ea hc ho.ha ho.hn ho.ht ho.hm) hk fun tk=>⟨.bl (qw m n),H,I.tok tk,rfl,q⟩
    refine ⟨_,cr,fun ow H0 H2 vs P Q o s rx q=>?_⟩
    rw [ai] at rx
    obtain ⟨v,r,rfl,r1,r2⟩:=rx
    obtain ⟨w,rfl,r3⟩:=r2.only
    rw [al] at r1
    rw [al] at r3
    obtain ⟨_,_,a,C,dx,vs,rfl,h1,h2,h3,_⟩:=r1
    obtain ⟨C',o',rfl,_,_,_,_,h5⟩:=r3
    obtain ⟨h6,h7⟩:=h5.all m hmn C h1
    exact ⟨a,C,C',dx,_,rfl,h3,h2,h6,h7,q _ _ (aA.refl _) (by rw [al])⟩
   ·cases h
 ·rename_i x T
  split at h
  ·rename_i hT
   split at h
   ·rename_i b hb
    cases h
    obtain ⟨h1,h2⟩:=Ge hb hT
    have cr:ek X (.builtin "isinstance") (fun xs H Q => ∃v P,xs=[v,.ty T]/\al X.K H P x v/\Q (.bl b) H):=by
     intro pins s σ H xs us Q I r hh
     obtain ⟨v,P,rfl,rp,q⟩:=hh
     obtain ⟨u,u2,rfl,ru,ru2⟩:=me r
     cases (show u2=Value.type T from ru2)
     exact Gd h1 h2 I rp ru fun tk=>⟨.bl b,H,I.tok tk,rfl,q⟩
    refine ⟨_,cr,fun ow H0 H2 vs P Q o s rx q=>?_⟩
    rw [ai] at rx
    obtain ⟨v,r,rfl,r1,r2⟩:=rx
    obtain ⟨w,rfl,r3⟩:=r2.only
    rw [al] at r3;subst r3
    exact ⟨v,P,rfl,r1,q _ _ (aA.refl _) (by rw [al])⟩
   ·cases h
  ·cases h
 ·cases h
end Sp
namespace Sp
open PySem PySem.Spec PyProof.Rows L2
def jC (K:W.Frag) (F:List D->Rs D):Sp:=fun vs H Q _ => ∃ds r l,ai K H (fun _ _=>True) ds vs/\F ds=.ok r l/\aG l/\∀v H',aA H H'->al K H' (fun a b=>b=true/\H a=none) r v->Q v H'
def A9 (X:Cx) (g:Str) (F:List D->Rs D):Prop:=∃k f fd ps,bS X.prog X.w X.K X.mg X.base dM k f fd ps (jC X.K F)/\ci k X.A/\X.mg g=some (.ref f)/\W.keepIn X.K (.ref f)=true/\cE X.K fd ps []/\(g==("__debug__" : Str))=false
def o0 (K:W.Frag) (n:Str) (F:List D->Rs D):Sp:=fun vs H Q _ => ∃x ws C dx ds r l,vs=.ref x::ws/\H x=some (.ins C dx [])/\W.nsIn K mainGlobals n=some (some (.ref C))/\eO K C/\ai K H (fun _ _=>True) ds ws/\F ds=.ok r l/\aG l/\r.lless=true /\
 ∀H',(∀a o,a≠x->H a=some o->H' a=some o)->al K H' (fun _ _=>True) r (.ref x)->Q .non H'
def Iu (X:Cx) (g:Str) (F:List D->Rs D):Prop:=∃k C f fd ps,(∀ds r l,F ds=.ok r l->r.lless=true)/\Mk X.K C f/\bS X.prog X.w X.K X.mg X.base dM k f fd ps (o0 X.K g F)/\ci (k+1) X.A/\X.mg g=some (.ref C)/\W.nsIn X.K mainGlobals g=some (some (.ref C))/\eO X.K C/\cE X.K fd ps []/\(g==("__debug__" : Str))=false
def Rh (X:Cx) (g:Str) (F:List D->Rs D):Prop:=A9 X g F\/Iu X g F
def Iv (X:Cx) (n m:Str) (F:List D->Rs D):Prop:=∃k C f fd ps,W.nsIn X.K mainGlobals n=some (some (.ref C))/\eO X.K C/\oS X.K C m f/\bS X.prog X.w X.K X.mg X.base dM k f fd ps (jC X.K F)/\ci k X.A/\cE X.K fd ps []
def kX (f:Str) (B:List D->Nat->R1):Prop:=f∈gw/\∀(X:Cx) (ρ:ak) (p pos:Pos) (args:List Expr) (ds:List D) (k:Nat) (d:D) (j:Nat) (l:List D) (tg:Expr) (o:List Prop),X.calm=true->Gl X f->X.mg f=none->AD X ρ args ds k ->
 (∀e∈args,∀x p,e ≠ .Starred x p)->args.length=ds.length->B ds k=.ok (d,j) o->aG o->items d=some l->eQ (.Call (.Name f p) args [] pos) tg=true->IE X ρ tg (.Call (.Name f p) args [] pos) l j
def we (m:Str) (M:D->List D->R1):Prop:=∀(X:Cx) (ρ:ak) (a:Expr) (args:List Expr) (ap cp:Pos) (x:D) (k:Nat) (ds:List D) (j:Nat) (z:D) (l:Nat) (o:List Prop),X.calm=true->X.A.units+70 < cLine->ED X ρ a x k->AD X ρ args ds j ->
 (∀e∈args,∀x p,e ≠ .Starred x p)->args.length=ds.length->(ap.endLine==cp.line)=true->ij a=true->M x ds=.ok (z,l) o->aG o->ED X ρ (.Call (.Attribute a m ap) args [] cp) z l
def nH (m:Str) (M:List D->List D->Nat->Rs (List D)):Prop:=∀X:Cx,X.calm=true->∃(id:String) (r:V->List V->Hp->VK->Prop),Slot "list" m id/\typeOf (.builtin id)=pure (.type "method_descriptor")/\KJ X id r /\
 ∀(ow:Ow) (H0 H:Hp) (l ds l':List D) (j:Nat) (o:List Prop) (a:Addr) (vs ws:List V),M l ds j=.ok l' o->aG o->ds.length < 29/\(∀(P:bz) (Q:VK),(∀b c,Kp ow H0 0 b c->P b c)->fb ow H0->aA H0 H->H a=some (.lst vs)->ai X.K H P l vs->ai X.K H (Kp ow H0 j) ds ws ->
  (∀vs' w,ai X.K H P l' vs'->Q w (aN H a (.lst vs')))->r (.ref a) ws H Q)
def Rr (X:Cx) (ow:Ow) (ρ:ak) (o:Option Int):TO:=fun σ H Q=>aO X ow H σ ρ/\∀H',aA H H'->Q o H'
def OD (X:Cx) (ρ:ak) (e:Option Expr) (o:Option Int):Prop:=∀ow,PO X e (Rr X ow ρ o)
def nE (F:D->Option Int->Option Int->R1):Prop:=∀(X:Cx) (ρ:ak) (a:Expr) (lo hi:Option Expr) (p2 pos:Pos) (x z:D) (l h:Option Int) (k j:Nat) (o:List Prop),ED X ρ a x k->OD X ρ lo l->OD X ρ hi h->F x l h=.ok (z,j) o->aG o->ED X ρ (.Subscript a (.Slice lo hi none p2) pos) z j
structure aW (Φ:Fx) (X:Cx) (sc:Scope):Prop where
 calm:X.calm=true
 nd:X.N.Nodup
 gl:∀x,sc.names.lookup x=some .globalImplicit->Gl X x
 kc:∀x,(sc.names.lookup x=some .cell\/sc.names.lookup x=some .free)->X.env.kindOf x=some .cell\/X.env.kindOf x=some .free
 lc:∀x,sc.names.lookup x=some .local->X.env.scope.names.lookup x=some .local
 cc:∀x,sc.names.lookup x=some .cell->X.env.scope.names.lookup x=some .cell
 fn:∀g F,Φ.fn g=some F->Rh X g F
 con:∀x d,Φ.con x=some d->∃v u,X.mg x=some u/\aT v u/\∀H P,al X.K H P d v
 blt:∀f B,Φ.blt f=some B->fq f B
 itr:∀f B,Φ.itr f=some B->kX f B
 mth:∀m M,Φ.mth m=some M->we m M
 mtt:∀m M,Φ.mtt m=some M->nH m M
 slf:nE Φ.slf
 fld:∀n f,Φ.fld n f=true->∀C,W.nsIn X.K mainGlobals n=some (some (.ref C))->bE X.K C f
 omt:∀n m F,Φ.omt n m=some F->Iv X n m F
 bl:∀f∈gw,X.mg f=none
 room:X.A.units+70 < cLine
 ns:∀x,c9 sc x=true->x∈X.N
 ft:∀x,sc.names.lookup x=some .cell->X.fn x=true
variable {X:Cx}
theorem dk {x:Str} (h:fe x=true):(x==("__debug__" : Str))=false/\(x==("__classdict__" : Str))=false:=by
 unfold fe at h
 rw [Bool.and_eq_true] at h
 exact ⟨of_decide_eq_true h.1,of_decide_eq_true h.2⟩
theorem uw {ρ:ak} {x:Str} {pos:Pos} {d:D} {o:Bool} (h:ρ x=some (d,o)) (hx:fe x=true):ED X ρ (.Name x pos) d (kn d (cond o 2 1)):=by
 refine ED.kn fun ow pins s σ H Q I ⟨E,q⟩=>?_
 obtain ⟨i,v,e1,e2,e3,e4⟩:=E.get x d o h
 refine gX (i:=i) e1 e2 (dk hx).1 (dk hx).2 pins s σ H Q I ⟨v,e3,q v H (aA.refl _) (e4.imp fun a b p=>?_)⟩
 cases o with
 | true=>exact ⟨p.1,.inl (by rw [p.2];exact (fun z=>nomatch z))⟩
 | false=>exact p
theorem GN {Φ:Fx} {sc:Scope} {ρ:ak} {x:Str} {pos:Pos} {d:D} (G:aW Φ X sc) (h:Φ.con x=some d) (hg:sc.names.lookup x=some .globalImplicit) (hx:fe x=true):ED X ρ (.Name x pos) d 0:=by
 obtain ⟨v,u,h1,h2,h3⟩:=G.con x d h
 exact fun ow=>bM (Cw (G.gl x hg) h1 h2 (dk hx).1) fun σ H Q ⟨E,q⟩=>q v H (aA.refl _) (h3 H _)
theorem Bh {x:Str} {T:String} (h:uK x=some T):bootBuiltins x=some (.type T)/\x ≠ "__name__" /\ (x==("__debug__" : Str))=false/\x∈gw:=by
 unfold uK at h
 split at h
 ·rename_i e;subst e;cases h;exact ⟨by decide +kernel,by decide +kernel,by decide +kernel,by decide +kernel⟩
 split at h
 ·rename_i e;subst e;cases h;exact ⟨by decide +kernel,by decide +kernel,by decide +kernel,by decide +kernel⟩
 split at h
 ·rename_i e;subst e;cases h;exact ⟨by decide +kernel,by decide +kernel,by decide +kernel,by decide +kernel⟩
 split at h
 ·rename_i e;subst e;cases h;exact ⟨by decide +kernel,by decide +kernel,by decide +kernel,by decide +kernel⟩
 split at h
 ·rename_i e;subst e;cases h;exact ⟨by decide +kernel,by decide +kernel,by decide +kernel,by decide +kernel⟩
 ·cases h
theorem GI {Φ:Fx} {sc:Scope} {ρ:ak} {x:Str} {pos:Pos} {T:String} (G:aW Φ X sc) (h:uK x=some T) (hg:sc.names.lookup x=some .globalImplicit):ED X ρ (.Name x pos) (.typ T) 0:=by
 obtain ⟨h1,h2,h3,h4⟩:=Bh h
 exact fun ow=>bM (Cz (v:=.ty T) (G.gl x hg) (G.bl x h4) h1 rfl h2 h3) fun σ H Q ⟨E,q⟩=>q _ H (aA.refl _) (by rw [al])
theorem GM {ρ:ak} {c:Const} {n:Nat} {pos:Pos} {d:D} (h:AX c=some d):ED X ρ (.Constant c n pos) d 0:=by
 intro ow
 unfold AX at h
 split at h
 ·cases h;exact bM EZ fun σ H Q ⟨E,q⟩=>q _ H (aA.refl _) (by rw [al])
 ·cases h;exact bM Jk fun σ H Q ⟨E,q⟩=>q _ H (aA.refl _) (by rw [al])
 ·cases h;exact bM Fa fun σ H Q ⟨E,q⟩=>q _ H (aA.refl _) (by rw [al])
 ·cases h;exact bM EW fun σ H Q ⟨E,q⟩=>q _ H (aA.refl _) (by rw [al])
 ·cases h
theorem GQ {ρ:ak} {a b:Expr} {op:Operator} {pos:Pos} {x y z:D} {k j l:Nat} (ha:ED X ρ a x k) (hb:ED X ρ b y j) {o:List Prop} (h:sr op x y k j=.ok (z,l) o) (hp:aG o):ED X ρ (.BinOp a op b pos) z l:=by
 obtain ⟨r,h1,h2⟩:=HL (X:=X) h hp
 refine fun ow=>bM (AB h1 (ha ow) (hb ow)) fun σ H Q ⟨E,q⟩=>⟨E,fun v H1 s1 r1=>⟨E.same s1,fun u H2 s2 r2=>?_⟩⟩
 exact h2 ow H H2 v u Q E.own (s1.trans s2) (r1.same s2) (r2.imp (Kp.back s1 j)) fun w H' s3 r3=>q w H' ((s1.trans s2).trans s3) r3
theorem J4 {ρ:ak} {a:Expr} {op:UnaryOp} {pos:Pos} {x z:D} {k:Nat} (ha:ED X ρ a x k) (h:Ah op x=some z):ED X ρ (.UnaryOp op a pos) z 0:=by
 unfold Ah at h
 split at h
 ·cases h
  refine fun ow=>bM (Ji DU (ha ow)) fun σ H Q ⟨E,q⟩=>⟨E,fun v H1 s1 r1=>?_⟩
  rw [al] at r1;subst r1
  exact ⟨_,rfl,q _ H1 s1 (by rw [al])⟩
 ·cases h
  refine fun ow=>bM (EY (ha ow)) fun σ H Q ⟨E,q⟩=>⟨E,fun v H1 s1 r1=>?_⟩
  rw [al] at r1;subst r1
  exact ⟨_,rfl,q _ H1 s1 (by rw [al])⟩
 ·cases h
theorem GO {ρ:ak} {a b:Expr} {op:CmpOp} {pos:Pos} {x y:D} {r:Bool} {k j:Nat} (hu:X.A.units+70 < cLine) {o:List Prop} (ha:ED X ρ a x k) (hb:ED X ρ b y j) (h:iM op x y=.ok r o) (hp:aG o) (hm:behindInMarks op b=false):ED X ρ (.Compare a [op] [b] pos) (.bl r) 0:=by
 have c:=jd hu h hp
 intro ow pins s σ H Q I ⟨E,q⟩
 refine wpAny_Compare1 (KF (ha ow) (hb ow) I (R:=fun v u H2=>aA H H2/\al X.K H2 (fun _ _=>True) x v/\al X.K H2 (fun _ _=>True) y u) ⟨E,fun v H1 s1 r1=>⟨E.same s1,fun u H2 s2 r2=>⟨s1.trans s2,(r1.imp fun _ _ _=>True.intro).same s2,r2.imp fun _ _ _=>True.intro⟩⟩⟩ fun v u s2 x y H2 I2 rx ry ⟨sm,r1,r2⟩=>?_) hm
 exact c _ _ pins s2 σ H2 x y v u Q I2 rx ry ⟨r1,r2,q _ H2 sm (by rw [al])⟩
theorem Dx {op op2:CmpOp} {x y z:D} {r:D×Nat} {l:List Prop} (h:G8 op op2 x y z=.ok r l):∃a b c r1 r2,x=.int a/\y=.int b/\z=.int c/\fX op a b=some r1/\fX op2 b c=some r2/\r=(.bl (r1&&r2),0):=by
 unfold G8 at h
 split at h
 ·split at h
  ·rename_i h1 h2;cases h;exact ⟨_,_,_,_,_,rfl,rfl,rfl,h1,h2,rfl⟩
  ·cases h
 ·cases h
theorem na {op:CmpOp} {a b:Int} {r:Bool} (h:fX op a b=some r):iM op (.int a) (.int b)=.ok r []:=by
 unfold fX at h
 split at h <;> first | (cases h;rfl) | cases h
theorem zt {ρ:ak} {a b c:Expr} {op op2:CmpOp} {pos:Pos} {x y z:Int} {r r2:Bool} {k j i:Nat} (hu:X.A.units+70 < cLine) (ha:ED X ρ a (.int x) k) (hb:ED X ρ b (.int y) j) (hc:ED X ρ c (.int z) i) (h:fX op x y=some r) (h2:fX op2 y z=some r2) (hm:behindInMarks op2 c=false):ED X ρ (.Compare a [op,op2] [b,c] pos) (.bl (r&&r2)) 0:=by
 have c1:=jd (X:=X) hu (na h) (show aG [] from True.intro)
 have c2:=jd (X:=X) hu (na h2) (show aG [] from True.intro)
 refine fun ow=>bM (yJ (c1 (fun _ _=>True) (fun _ _=>True)) (c2 (fun _ _=>True) (fun _ _=>True)) (ha ow) (hb ow) (hc ow) hm) fun σ H Q ⟨E,q⟩=>⟨E,fun v H1 s1 r1=>⟨E.same s1,fun u H2 s2 r2=>?_⟩⟩
 rw [al] at r1 r2
 subst r1 r2
 refine ⟨by rw [al],by rw [al],r,rfl,?_⟩
 cases r with
 | false=>exact q _ H2 (s1.trans s2) (by rw [al];rfl)
 | true =>
  rw [if_pos rfl]
  refine ⟨(E.same s1).same s2,fun w H3 s3 r3=>?_⟩
  rw [al] at r3
  subst r3
  exact ⟨by rw [al],by rw [al],q _ H3 ((s1.trans s2).trans s3) (by rw [al];rfl)⟩
theorem IB {ρ:ak} {e:Expr} {b:Bool} {k:Nat} (h:ED X ρ e (.bl b) k) (he:∀whole,isTrue e X.env whole=(do let v <- whole;standAt e.pos;holding [v] (truthy v))):TD X ρ e b :=
 fun ow=>wa (EF (h ow) he) fun σ H Q ⟨E,q⟩=>⟨E,fun v H1 s1 r1=>by rw [al] at r1;exact ⟨b,r1,q H1 s1⟩⟩
theorem xR {ρ:ak}:AD X ρ [] [] 0:=fun ow=>A5 Ff fun σ H Q ⟨E,q⟩=>q [] H (aA.refl _) ai.nil
theorem je {ρ:ak} {e:Expr} {es:List Expr} {d:D} {ds:List D} {k j:Nat} (h1:ED X ρ e d k) (h2:AD X ρ es ds j) (hs:starEach (e::es) X.env=(false,eval e X.env)::starEach es X.env):AD X ρ (e::es) (d::ds) (kj k j) :=
 fun ow=>A5 (nY (h1 ow) (h2 ow) hs) fun σ H Q ⟨E,q⟩=>⟨E,fun v H1 s1 r1=>⟨E.same s1,fun vs H2 s2 r2=>q _ H2 (s1.trans s2) (ai.cons ((r1.imp (Kp.joinL E.own k j)).same s2) (r2.imp fun a b p=>Kp.joinR E.own k j a b (Kp.back s1 j a b p)))⟩⟩
theorem zp {ρ:ak} {es:List Expr} {n:Nat} {pos:Pos} {ds:List D} {k:Nat} (h:AD X ρ es ds k) (hl:ds.length<=cZ):ED X ρ (.Tuple es n pos) (.tup ds) (kn (.tup ds) k):=by
 refine ED.kn fun ow=>bM (EV (h ow)) fun σ H Q ⟨E,q⟩=>⟨E,fun vs H1 s1 r1=>⟨by rw [<- r1.length];exact Nat.le_trans hl gY,fun p hp=>?_⟩⟩
 have sm:=cz (o:=HO.tup vs) hp
 refine q _ _ (s1.trans sm) ?_
 rw [al]
 exact ⟨p,vs,rfl,cm.of aH,r1.same sm⟩
theorem ux {ρ:ak} {es:List Expr} {pos:Pos} {ds:List D} {k:Nat} (h:AD X ρ es ds k) (hk:k<=1) (hl:ds.length<=cZ):ED X ρ (.List es pos) (.lst ds) k:=by
 refine fun ow=>bM (E9 (h ow)) fun σ H Q ⟨E,q⟩=>⟨E,fun vs H1 s1 r1=>⟨by rw [<- r1.length];exact Nat.le_trans hl gY,fun p hp=>?_⟩⟩
 have sm:=cz (o:=HO.lst vs) hp
 refine q _ _ (s1.trans sm) ?_
 rw [al]
 exact ⟨p,vs,true,rfl,aH,w9 E.own (s1.free hp) hk,r1.same sm⟩
theorem AV {ρ:ak} {c a b:Expr} {pos:Pos} {t:Bool} {d:D} {k:Nat} (hc:TD X ρ c t) (h:if t=true then ED X ρ a d k else ED X ρ b d k):ED X ρ (.IfExp c a b pos) d k:=by
 cases t with
 | true =>
  intro ow pins s σ H Q I ⟨E,q⟩
  refine PyProof.Rows.IfExp_ (aR (hc ow pins s σ H (fun t H1=>t=true/\aA H H1) I ⟨E,fun H1 s1=>⟨rfl,s1⟩⟩) fun t s1 ⟨H1,I1,e1,s1'⟩=>?_)
  subst e1
  exact h ow pins s1 σ H1 Q I1 ⟨E.same s1',fun v H2 s2 r2=>q v H2 (s1'.trans s2) (r2.imp (Kp.back s1' k))⟩
 | false =>
  intro ow pins s σ H Q I ⟨E,q⟩
  refine PyProof.Rows.IfExp_ (aR (hc ow pins s σ H (fun t H1=>t=false/\aA H H1) I ⟨E,fun H1 s1=>⟨rfl,s1⟩⟩) fun t s1 ⟨H1,I1,e1,s1'⟩=>?_)
  subst e1
  exact h ow pins s1 σ H1 Q I1 ⟨E.same s1',fun v H2 s2 r2=>q v H2 (s1'.trans s2) (r2.imp (Kp.back s1' k))⟩
end Sp
namespace Sp
open PySem PySem.Spec PyProof.Rows L2
variable {X:Cx}
theorem ai.atI {K:W.Frag} {P:bz} {H:Hp} {l:List D} {vs:List V} {i:Int} {d:D} (h:ai K H P l vs) (e:L2.atI l i=some d):∃v,L2.atI vs i=some v/\al K H P d v:=by
 unfold L2.atI at e ⊢
 rw [<- h.length]
 cases q:ixN l.length i with
 | none=>rw [q] at e;cases e
 | some j=>rw [q] at e;exact h.get e
theorem AU {ρ:ak} {a b:Expr} {pos:Pos} {x z:D} {i:Int} {k j l:Nat} {o:List Prop} (ha:ED X ρ a x k) (hb:ED X ρ b (.int i) j) (hs:gS b) (h:rh x i k=.ok (z,l) o):ED X ρ (.Subscript a b pos) z l:=by
 unfold rh at h
 split at h
 ·rename_i m e0
  split at h
  ·rename_i d e
   unfold mk at h
   cases h
   rcases fu e0 with rfl|rfl
   ·refine ED.kn fun ow=>bM (vg Gb (ha ow) (hb ow) hs) fun σ H Q ⟨E,q⟩=>⟨E,fun v H1 s1 r1=>⟨E.same s1,fun u H2 s2 r2=>?_⟩⟩
    obtain ⟨p,vs,rfl,hq,rl⟩:=eD (r1.same s2)
    rw [al] at r2;subst r2
    obtain ⟨w,h1,h2⟩:=rl.atI e
    exact ⟨p,vs,i,w,rfl,rfl,hq,h1,q w H2 (s1.trans s2) h2⟩
   ·refine ED.kn fun ow=>bM (vg ul (ha ow) (hb ow) hs) fun σ H Q ⟨E,q⟩=>⟨E,fun v H1 s1 r1=>⟨E.same s1,fun u H2 s2 r2=>?_⟩⟩
    obtain ⟨p,vs,rfl,hq,rl⟩:=ge (r1.same s2)
    rw [al] at r2;subst r2
    obtain ⟨w,h1,h2⟩:=rl.atI e
    exact ⟨p,vs,i,w,rfl,rfl,hq,h1,q w H2 (s1.trans s2) h2⟩
  ·cases h
 ·cases h
def rIxD:R2:=fun x y H Q => ∃p kvs k v,x=.ref p/\y=kV k/\H p=some (.dK kvs)/\lE kvs k=some v/\Q v H
theorem ph:∀{l:List D} {d:D},ax l=true->d∈l->d.lless=true
 | x::l,d,h,m=>by
  rw [ax,Bool.and_eq_true] at h
  rcases List.mem_cons.mp m with rfl|m
  ·exact h.1
  ·exact ph h.2 m
theorem GJ {ρ:ak} {a b:Expr} {pos:Pos} {p q r:D×Nat} {o:List Prop} (ha:ED X ρ a p.1 p.2) (hb:ED X ρ b q.1 q.2) (hs:gS b) (h:lF p q=.ok r o):ED X ρ (.Subscript a b pos) r.1 r.2:=by
 obtain ⟨z,k⟩:=p
 unfold lF at h
 split at h
 ·cases h
 ·unfold jt at h
  split at h
  ·rename_i j hj
   rw [hj] at hb
   exact AU ha hb hs h
  ·cases h
theorem A4 {X:Cx} {e:Option Expr} {t t':TO} (h:PO X e t) (i:∀σ H Q,t' σ H Q->t σ H Q):PO X e t':=fun pins s σ H Q I q=>h pins s σ H Q I (i σ H Q q)
theorem t8 {ρ:ak}:OD X ρ none none:=fun ow=>A4 Cp fun σ H Q ⟨E,q⟩=>q H (aA.refl _)
theorem t7 {ρ:ak} {e:Expr} {i:Int} {k:Nat} (h:ED X ρ e (.int i) k):OD X ρ (some e) (some i):=fun ow=>A4 (Co (h ow)) fun σ H Q ⟨E,q⟩=>⟨E,fun v H1 s1 r1=>by rw [al] at r1;exact ⟨i,r1,q H1 s1⟩⟩
theorem ai.cut {K:W.Frag} {P:bz} {H:Hp} {l:List D} {vs:List V} {lo hi:Option Int} (h:ai K H P l vs):ai K H P (ke l lo hi) (ig vs lo hi):=by
 unfold ke ig
 rw [<- h.length]
 exact (h.drop _).take _
theorem iK:∀{l:List D} {n:Nat},ax l=true->ax (l.take n)=true
 | [],n,h=>by simp [ax]
 | d::l,0,h=>by simp [ax]
 | d::l,n+1,h=>by
  rw [ax,Bool.and_eq_true] at h
  rw [List.take_succ_cons,ax,Bool.and_eq_true];exact ⟨h.1,iK h.2⟩
theorem iL:∀{l:List D} {n:Nat},ax l=true->ax (l.drop n)=true
 | [],n,h=>by simp [ax]
 | d::l,0,h=>h
 | d::l,n+1,h=>by
  rw [ax,Bool.and_eq_true] at h
  exact iL (n:=n) h.2
theorem zq {ρ:ak} {a:Expr} {lo hi:Option Expr} {p2 pos:Pos} {x z:D} {l h:Option Int} {k j:Nat} (ha:ED X ρ a x k) (hl:OD X ρ lo l) (hh:OD X ρ hi h) {o:List Prop} (e:aU x l h=.ok (z,j) o) (hp:aG o):ED X ρ (.Subscript a (.Slice lo hi none p2) pos) z j:=by
 unfold aU at e
 split at e
 ·rename_i m
  ·cases e
   have c:ax m=true /\ ¬ (HT.sIx m.length 0 l=0/\HT.sIx m.length m.length h=m.length):=⟨hp.1,by have hx:=hp.2.1;unfold GZ at hx;intro z;rw [decide_eq_true z.1,decide_eq_true z.2] at hx;cases hx⟩
   refine fun ow=>bM (lI Eg (ha ow) (hl ow) (hh ow)) fun σ H Q ⟨E,q⟩=>⟨E,fun v H1 s1 r1=>⟨E.same s1,fun H2 s2=>⟨(E.same s1).same s2,fun H3 s3=>?_⟩⟩⟩
   have s13:=s2.trans s3
   obtain ⟨p,vs,rfl,hq,rl⟩:=eD (r1.same s13)
   refine ⟨p,vs,rfl,hq,by rw [<- rl.length];exact c.2,fun p' hp'=>?_⟩
   have sm:=cz (o:=HO.tup (ig vs l h)) hp'
   refine q _ _ ((s1.trans s13).trans sm) ?_
   rw [al]
   exact ⟨p',_,rfl,cm.of aH,ai.flat _ (by unfold ke;exact iK (iL c.1)) (rl.cut.same sm)⟩
 ·rename_i m
  ·cases e
   have c:ax m=true:=hp.1
   refine fun ow=>bM (lI tU (ha ow) (hl ow) (hh ow)) fun σ H Q ⟨E,q⟩=>⟨E,fun v H1 s1 r1=>⟨E.same s1,fun H2 s2=>⟨(E.same s1).same s2,fun H3 s3=>?_⟩⟩⟩
   have s13:=s2.trans s3
   obtain ⟨p,vs,rfl,hq,rl⟩:=ge (r1.same s13)
   refine ⟨p,vs,rfl,hq,fun p' hp'=>?_⟩
   have sm:=cz (o:=HO.lst (ig vs l h)) hp'
   refine q _ _ ((s1.trans s13).trans sm) ?_
   rw [al]
   exact ⟨p',_,true,rfl,aH,⟨rfl,(s1.trans s13).free hp'⟩,ai.flat _ (by unfold ke;exact iK (iL c)) (rl.cut.same sm)⟩
 ·cases e
theorem aE:nE aU:=fun X ρ a lo hi p2 pos x z l h k j o ha hl hh e hp=>zq ha hl hh e hp
theorem bK {env:Env} {pos:Pos}:∀{es:List Expr},(∀e∈es,∀x p,e ≠ .Starred x p)->(backTo pos (starEach es env)).any (·.1)=false
 | [],_=>rfl
 | e::es,h=>by
  have ih:=bK (env:=env) (es:=es) (pos:=pos) fun x hx=>h x (List.mem_cons_of_mem _ hx)
  have he:=h e List.mem_cons_self
  cases e <;> first|exact absurd rfl (he _ _) | exact ih
theorem aV {e:Expr} {es:List Expr} {env:Env} (h:∀x p,e ≠ .Starred x p):starEach (e::es) env=(false,eval e env)::starEach es env:=by
 cases e <;> first|exact absurd rfl (h _ _) | rfl
theorem zu {Φ:Fx} {sc:Scope} {ρ:ak} {f:Str} {p pos:Pos} {args:List Expr} {F:List D->Rs D} {ds:List D} {k:Nat} {r:D} {o:List Prop} (G:aW Φ X sc) (hf:A9 X f F) (hg:sc.names.lookup f=some .globalImplicit)
  (ha:AD X ρ args ds k) (hst:∀e∈args,∀x p,e ≠ .Starred x p) (hnil:args=[]->ds=[]) (h:F ds=.ok r o) (hp:aG o):ED X ρ (.Call (.Name f p) args [] pos) r 0:=by
 obtain ⟨n,fa,fd,ps,hF,hr,hm,hk,hb,hd⟩:=hf
 intro ow
 cases args with
 | nil =>
  refine bM (yL hF hr (G.gl f hg) hm hk hb .nil iu hd) fun σ H Q ⟨E,q⟩=>?_
  have hds:=hnil rfl
  subst hds
  exact ⟨[],r,o,ai.nil,h,hp,fun v H' s1 r1=>q v H' s1 r1⟩
 | cons e es =>
  refine bM (Cy hF hr (G.gl f hg) hm hk hb .nil iu (ha ow) hd (aV (hst e List.mem_cons_self)) (bK fun x hx=>hst x (List.mem_cons_of_mem _ hx))) fun σ H Q ⟨E,q⟩=>⟨E,fun vs H1 s1 r1=>?_⟩
  refine ⟨ds,r,o,by rw [List.append_nil];exact r1.imp fun _ _ _=>True.intro,h,hp,fun v H' s2 r2=>q v H' (s1.trans s2) (r2.imp fun a b p=>⟨p.1,s1.free p.2⟩)⟩
theorem jR {H:Hp} {x dx C:Addr} (hx:H x=none) (hd:H dx=none):aA H (aN (aN H dx (.own x)) x (.ins C dx [])):=fun a o h=>by
 rw [ay (fun z=>by subst z;rw [hx] at h;cases h),ay (fun z=>by subst z;rw [hd] at h;cases h)]
 exact h
theorem Do {Φ:Fx} {sc:Scope} {ρ:ak} {f:Str} {p pos:Pos} {args:List Expr} {F:List D->Rs D} {ds:List D} {k:Nat} {r:D} {o:List Prop} (G:aW Φ X sc) (hf:Iu X f F) (hg:sc.names.lookup f=some .globalImplicit)
  (ha:AD X ρ args ds k) (hst:∀e∈args,∀x p,e ≠ .Starred x p) (hnil:args=[]->ds=[]) (h:F ds=.ok r o) (hp:aG o):ED X ρ (.Call (.Name f p) args [] pos) r 0:=by
 obtain ⟨n,C,fa,fd,ps,hfl,hM,hF,hr,hm,hns,hc,hb,hd⟩:=hf
 have hl:=hfl ds r o h
 intro ow
 cases args with
 | nil =>
  refine bM (yI hM hF hr (G.gl f hg) hm hb .nil iu hd) fun σ H Q ⟨E,q⟩=>?_
  have hds:=hnil rfl
  subst hds
  intro x dx hx hdx ne
  refine ⟨x,[],C,dx,[],r,o,rfl,aH,hns,hc,ai.nil,h,hp,hl,fun H' kp rr=>⟨rfl,q _ H' (fun a ob ha=>?_) (rr.flat _ hl)⟩⟩
  exact kp a ob (fun z=>by subst z;rw [hx] at ha;cases ha) (jR hx hdx a ob ha)
 | cons e es =>
  refine bM (Cv hM hF hr (G.gl f hg) hm hb .nil iu (ha ow) hd (aV (hst e List.mem_cons_self)) (bK fun x hx=>hst x (List.mem_cons_of_mem _ hx))) fun σ H Q ⟨E,q⟩=>⟨E,fun vs H1 s1 r1=>?_⟩
  intro x dx hx hdx ne
  refine ⟨x,vs++[],C,dx,ds,r,o,rfl,aH,hns,hc,by rw [List.append_nil];exact (r1.same (jR hx hdx)).imp fun _ _ _=>True.intro,h,hp,hl,fun H' kp rr=>⟨rfl,q _ H' (s1.trans fun a ob ha=>?_) (rr.flat _ hl)⟩⟩
  exact kp a ob (fun z=>by subst z;rw [hx] at ha;cases ha) (jR hx hdx a ob ha)
theorem Dt {Φ:Fx} {sc:Scope} {ρ:ak} {f:Str} {p pos:Pos} {args:List Expr} {F:List D->Rs D} {ds:List D} {k:Nat} {r:D} {o:List Prop} (G:aW Φ X sc) (hf:Φ.fn f=some F) (hg:sc.names.lookup f=some .globalImplicit)
  (ha:AD X ρ args ds k) (hst:∀e∈args,∀x p,e ≠ .Starred x p) (hnil:args=[]->ds=[]) (h:F ds=.ok r o) (hp:aG o):ED X ρ (.Call (.Name f p) args [] pos) r 0:=by
 rcases G.fn f F hf with z|z
 ·exact zu G z hg ha hst hnil h hp
 ·exact Do G z hg ha hst hnil h hp
theorem vF {o:Expr} {name:Str} {apos pos:Pos} {args:List Expr} {env:Env} (hb:attributeBase o name env (eval o env)=eval o env) (hf:methodCallForm (args.length+([]:List Keyword).length) (backTo pos (starEach args env)) (backToKw pos (keywordEach [] env))=true)
  (hl:(apos.endLine==pos.line)=true):eval (.Call (.Attribute o name apos) args [] pos) env=(do
   let ov <- eval o env
   standAt apos.atName
   let (f,first) <- holding [ov] (getMethod ov name (do return (<- importBound o env).getD true))
   callWith pos f first (backTo pos (starEach args env)) (backToKw pos (keywordEach [] env))):=by
 show (do
  let ov <- attributeBase o name env (eval o env)
  standAt apos.atName
  methodCall o name apos pos env ov (args.length+([]:List Keyword).length) (backTo pos (starEach args env)) (backToKw pos (keywordEach [] env)))=_
 rw [hb]
 unfold methodCall calleeOf methodCallPos
 rw [hf,hl]
 rfl
theorem base_of {a:Expr} {m:Str} {env:Env} {t:Sem Value} (h:ij a=true):attributeBase a m env t=t:=by
 unfold attributeBase
 split
 ·cases h
 ·rfl
theorem rO {env:Env} {pos:Pos} {args:List Expr} (hst:∀e∈args,∀x p,e ≠ .Starred x p) (hn:args.length < 29):methodCallForm (args.length+([]:List Keyword).length) (backTo pos (starEach args env)) (backToKw pos (keywordEach [] env))=true:=by
 unfold methodCallForm
 have e1:(backTo pos (starEach args env)).all (fun x => !x.1)=true:=by
  have:=bK (env:=env) (pos:=pos) hst
  rw [List.all_eq_true]
  intro x hx
  have h2:¬ (backTo pos (starEach args env)).any (·.1)=true:=by rw [this];exact Bool.false_ne_true
  cases hb:x.1 with
  | false=>rfl
  | true=>exact absurd (List.any_eq_true.mpr ⟨x,hx,hb⟩) h2
 rw [e1]
 show (true&&true&&decide (args.length+0+0 < 30))=true
 simp;omega
theorem ql {ns:List Str} {vs:List V} {m:Str}:ns.contains m=false->(ns.zip vs).lookup m=none:=by
 induction ns generalizing vs with
 | nil=>intro _;rfl
 | cons a ns ih =>
  intro h
  cases vs with
  | nil=>rfl
  | cons v vs =>
   rw [List.contains_cons,Bool.or_eq_false_iff] at h
   show List.lookup m ((a,v)::ns.zip vs)=none
   rw [List.lookup_cons,h.1]
   exact ih h.2
theorem Dn {Φ:Fx} {sc:Scope} {ρ:ak} {a:Expr} {n m:Str} {ap pos:Pos} {args:List Expr} {F:List D->Rs D} {ns:List Str} {es ds:List D} {j k:Nat} {r:D} {o:List Prop} (G:aW Φ X sc) (hf:Φ.omt n m=some F) (he:ED X ρ a (.obj n ns es) j)
  (ha:AD X ρ args ds k) (hst:∀e∈args,∀x p,e ≠ .Starred x p) (hlen:args.length=ds.length) (hn:ns.contains m=false) (hb:ij a=true) (hfew:ds.length < 29) (hl:(ap.endLine==pos.line)=true) (h:F (.obj n ns es::ds)=.ok r o) (hp:aG o):ED X ρ (.Call (.Attribute a m ap) args [] pos) r 0:=by
 obtain ⟨kk,C,fa,fd,ps,hns,hc,hm,hF,hr,hbd⟩:=G.omt n m F hf
 intro ow
 have ht:=vF (o:=a) (name:=m) (apos:=ap) (pos:=pos) (args:=args) (env:=X.env) (base_of hb) (rO hst (by omega)) hl
 cases args with
 | nil =>
  refine bM (yH (he ow) hc hm hF hr hbd .nil iu ht) fun σ H Q ⟨E,q⟩=>⟨E,fun v H1 s1 r1=>?_⟩
  have hds:ds=[]:=List.length_eq_zero_iff.mp hlen.symm
  subst hds
  have r0:=r1
  rw [al] at r1
  obtain ⟨f,e0,x,C',dx,vs,rfl,h1,h2,h3,r2⟩:=r1
  rw [hns] at h1;cases h1
  refine ⟨x,dx,_,rfl,h3,ql hn,[.obj n ns es],r,o,ai.one (r0.imp fun _ _ _=>True.intro),h,hp,fun v H' s2 r2=>q v H' (s1.trans s2) (r2.imp fun a b p=>⟨p.1,s1.free p.2⟩)⟩
 | cons e es' =>
  refine bM (Cu (he ow) hc hm hF hr hbd .nil iu (ha ow) (aV (hst e List.mem_cons_self)) (bK fun x hx=>hst x (List.mem_cons_of_mem _ hx)) ht) fun σ H Q ⟨E,q⟩=>⟨E,fun v H1 s1 r1=>?_⟩
  have r0:=r1
  rw [al] at r1
  obtain ⟨f,e0,x,C',dx,vs,rfl,h1,h2,h3,r2⟩:=r1
  rw [hns] at h1;cases h1
  refine ⟨x,dx,_,rfl,h3,ql hn,E.same s1,fun ws H2 s2 rw2=>?_⟩
  refine ⟨.obj n ns es::ds,r,o,by rw [List.append_nil];exact ai.cons ((r0.same s2).imp fun _ _ _=>True.intro) (rw2.imp fun _ _ _=>True.intro),h,hp,fun v H' s3 r3=>q v H' ((s1.trans s2).trans s3) (r3.imp fun a b p=>⟨p.1,s1.free (s2.free p.2)⟩)⟩
theorem qm {K:W.Frag} {H:Hp} {P:bz} {f:Str} {d:D}:∀{ns:List Str} {ds:List D} {vs:List V},ai K H P ds vs->(ns.zip ds).lookup f=some d->∃v,(ns.zip vs).lookup f=some v/\al K H P d v/\(ax ds=true->d.lless=true)
 | [],ds,vs,_,h=>by cases h
 | a::ns,[],vs,_,h=>by cases h
 | a::ns,e::ds,vs,r,h=>by
  rw [ai] at r
  obtain ⟨v,ws,rfl,r1,r2⟩:=r
  replace h:List.lookup f ((a,e)::ns.zip ds)=some d:=h
  show ∃u,List.lookup f ((a,v)::ns.zip ws)=some u/\_
  rw [List.lookup_cons] at h ⊢
  cases hb:f==a with
  | true =>
   rw [hb] at h;cases h
   exact ⟨v,rfl,r1,fun z=>by rw [ax,Bool.and_eq_true] at z;exact z.1⟩
  | false =>
   rw [hb] at h
   obtain ⟨u,u1,u2,u3⟩:=qm r2 h
   exact ⟨u,u1,u2,fun z=>by rw [ax,Bool.and_eq_true] at z;exact u3 z.2⟩
theorem GL {Φ:Fx} {sc:Scope} {ρ:ak} {a:Expr} {n f:Str} {pos:Pos} {ns:List Str} {ds:List D} {j:Nat} {d:D} (G:aW Φ X sc) (hf:Φ.fld n f=true) (he:ED X ρ a (.obj n ns ds) j) (hb:ij a=true) (h:(ns.zip ds).lookup f=some d):ED X ρ (.Attribute a f pos) d 0:=by
 intro ow
 refine bM (Fb (he ow) (base_of hb)) fun σ H Q ⟨E,q⟩=>⟨E,fun v H1 s1 r1=>?_⟩
 rw [al] at r1
 obtain ⟨fl,e0,x,C,dx,vs,rfl,h1,h2,h3,r2⟩:=r1
 obtain ⟨u,u1,u2,u3⟩:=qm r2 h
 exact ⟨x,C,dx,_,u,rfl,h3,h2,G.fld n f hf C h1,u1,q u H1 s1 (u2.flat _ (u3 fl))⟩
theorem GP {Φ:Fx} {sc:Scope} {ρ:ak} {f:Str} {B:List D->R1} {p pos:Pos} {e:Expr} {es:List Expr} {ds:List D} {k l:Nat} {z:D} {o:List Prop} (G:aW Φ X sc) (hB:fq f B) (hg:sc.names.lookup f=some .globalImplicit)
  (ha:AD X ρ (e::es) ds k) (hst:∀x∈e::es,∀y p,x ≠ .Starred y p) (h:B ds=.ok (z,l) o) (hp:aG o):ED X ρ (.Call (.Name f p) (e::es) [] pos) z l:=by
 obtain ⟨h3,h1,h2,_,h4⟩:=hB
 have h4:=h4 X ds z l o G.calm h hp
 intro ow
 have n1:=aV (env:=X.env) (es:=es) (hst e List.mem_cons_self)
 have n2:(backTo pos (starEach es X.env)).any (·.1)=false:=bK fun x hx=>hst x (List.mem_cons_of_mem _ hx)
 rcases h4 with ⟨id,e1,r,e2,e3⟩ | ⟨T,e1,r,e2,e3⟩
 ·refine bM (yK e2 (G.gl f hg) (G.bl f h3) e1 (ha ow) h1 h2 n1 n2) fun σ H Q ⟨E,q⟩=>⟨E,fun vs H1 s1 r1=>?_⟩
  exact e3 ow H H1 vs _ Q E.own s1 r1 fun w H' s2 r2=>q w H' (s1.trans s2) r2
 ·refine bM (wI e2 (G.gl f hg) (G.bl f h3) e1 (ha ow) h1 h2 n1 n2) fun σ H Q ⟨E,q⟩=>⟨E,fun vs H1 s1 r1=>?_⟩
  exact e3 ow H H1 vs _ Q E.own s1 r1 fun w H' s2 r2=>q w H' (s1.trans s2) r2
theorem C4 {ρ:ak} {tg e:Expr} {l:List D} {k:Nat} (h:ED X ρ e (.lst l) k):IE X ρ tg e l k:=by
 intro ow pins s σ H R I ⟨E,q⟩
 refine Cs (tg:=tg) (h ow) pins s σ H R I ⟨E,fun v H1 s1 r1=>?_⟩
 rw [al] at r1
 obtain ⟨a,vs,b,rfl,hl,hp,rl⟩:=r1
 have rl':ai X.K H1 (Kd ow H k H1) l vs:=rl.impH (fun a o ho p=>⟨p,fun _=>⟨o,ho⟩⟩) fun a p=>⟨p,fun z=>(by cases z)⟩
 have hp':Kd ow H k H1 a b:=⟨hp,fun hb=>by subst hb;exact ⟨_,hl⟩⟩
 have sq:∀{H2:Hp},sO X.K H2 a vs b->cq X.K H2 a vs:=fun {H2} h=>h.sq
 refine ⟨a,rfl,⟨vs,sq hl⟩,q _ H1 s1 fun i H2 st=>⟨fun d hd=>?_,fun hle=>?_⟩⟩
 ·have h2:=sq (st.ls hl hp')
  obtain ⟨w,hw,rw'⟩:=rl'.get hd
  refine ⟨⟨vs,w,h2,hw⟩,fun x H3 ⟨e3,y3⟩=>?_⟩
  subst e3
  have:=y3 vs h2
  rw [hw] at this;cases this
  exact ⟨aA.refl _,rw'.mono st⟩
 ·exact ⟨vs,sq (st.ls hl hp'),by rw [<- rl.length];exact hle⟩
theorem Gm {ρ:ak} {tg e:Expr} {l:List D} {k:Nat} (h:ED X ρ e (.tup l) k):IE X ρ tg e l k:=by
 intro ow pins s σ H R I ⟨E,q⟩
 refine ET (tg:=tg) (h ow) pins s σ H R I ⟨E,fun v H1 s1 r1=>?_⟩
 rw [al] at r1
 obtain ⟨a,vs,rfl,hl,rl⟩:=r1
 have rl':ai X.K H1 (Kd ow H k H1) l vs:=rl.impH (fun a o ho p=>⟨p,fun _=>⟨o,ho⟩⟩) fun a p=>⟨p,fun z=>(by cases z)⟩
 refine ⟨a,rfl,⟨vs,hl⟩,q _ H1 s1 fun i H2 st=>⟨fun d hd=>?_,fun hle=>?_⟩⟩
 ·have h2:=st.sq hl
  obtain ⟨w,hw,rw'⟩:=rl'.get hd
  refine ⟨⟨vs,w,h2,hw⟩,fun x H3 ⟨e3,y3⟩=>?_⟩
  subst e3
  have:=y3 vs h2
  rw [hw] at this;cases this
  exact ⟨aA.refl _,rw'.mono st⟩
 ·exact ⟨vs,st.sq hl,by rw [<- rl.length];exact hle⟩
def KM (x:Str):It:=⟨fun i _=>i < x.cps.size,fun i H v H'=>H'=H/\∃c,x.cps[i]?=some c/\v=.str ⟨#[c]⟩,fun i _=>x.cps.size<=i⟩
theorem ym {P:Program} {w:World} {K:W.Frag} {tg:Expr} (x:Str) (t:Tok) (it:Addr):Turn P w K tg (KM x) [it] it (fun i h=>h.IsStrIter it "str_ascii_iterator" x t i) where
 mem:=by simp
 obj:=fun i h st b hb=>by
  have e:b=it:=by simpa using hb
  subst e
  obtain ⟨o,e,c,d⟩:=st
  exact ⟨o,e,fun v z=>by rw [d] at z;cases z⟩
 keep:=fun i h h' st k=>by
  obtain ⟨o,e,c,d⟩:=st
  exact ⟨o,k it (by simp) o e,c,d⟩
 item:=by
  intro X hP hw hK hc i pins s σ H E I hf st hg
  subst hP hw hK
  obtain ⟨f0,f1,f2,f3,f4,f5⟩:=hf it (by simp)
  have hx:x.cps[i]?=some x.cps[i]:=Array.getElem?_eq_getElem hg
  refine wpAny_pyNext_ascii_item st hx fun h' st' sb=>?_
  have I1:Inv X pins σ H { s with heap:=h',toks:=s.toks+1 }:=I.turned (t':=s.toks+1) (fun b o hb e=>(sb.2 b hb).trans e) f0 f1 f3 f4 f5
  obtain ⟨o,e,c,d⟩:=id st'
  exact ⟨_,rfl,qe (s:={ s with heap:=h',toks:=s.toks+1 }) e c d (by decide) ⟨.str ⟨#[x.cps[i]]⟩,H,I1,⟨_,rfl⟩,⟨rfl,_,hx,rfl⟩,st',fun b hb=>(hf b hb).1⟩⟩
 done:=by
  intro X hP hw hK hc i pins s σ H E I hf st hg
  subst hP hw hK
  obtain ⟨f0,f1,f2,f3,f4,f5⟩:=hf it (by simp)
  exact wpAny_pyNext_ascii_end (I.ok.hd hc) st (Array.getElem?_eq_none hg) fun h' eb=>⟨rfl,I.turned (t':=s.toks) (fun b o hb e=>eb b o hb e) f0 f1 f3 f4 f5⟩
 self:=fun _ _ _ _ _ st h=>wpAny_pyIter_striter_ascii st h
theorem Gn {ρ:ak} {tg e:Expr} {x:Str} {k:Nat} (h:ED X ρ e (.str x) k) (ha:(x.cps.all fun c=>decide (c < 128))=true):IE X ρ tg e (tV x) k:=by
 intro ow pins s σ H R I ⟨E,q⟩
 refine aR (h ow pins s σ H _ I ⟨E,fun v H1 s1 r1=>(show (fun v H1=>aA H H1/\al X.K H1 (Kp ow H k) (.str x) v) v H1 from ⟨s1,r1⟩)⟩) fun v s1 ⟨y,H1,I1,rel,sm,rp⟩=>?_
 rw [al] at rp;subst rp
 obtain ⟨t,rfl⟩:=rel
 have ty:strIterType x = "str_ascii_iterator" := if_pos ha
 refine wpAny_pyIter_strU ?_
 rw [ty]
 refine ⟨s1.heap.objs.size,[s1.heap.objs.size],_,KM x,H1,rfl,I1.kept (t':=s1.toks) fun b o e=>Heap.get?_push_of_some _ e,ym x t _,⟨_,Heap.get?_push_size _ rfl,rfl,rfl⟩,fun b hb=>?_,q _ H1 sm fun i H2 st=>⟨fun d hd=>?_,fun hle=>?_⟩⟩
 ·have e:b=s1.heap.objs.size:=by simpa using hb
  subst e
  exact I1.fpOk (Nat.le_refl _) (I1.hok.fresh (Nat.le_refl _))
 ·unfold tV at hd
  rw [List.getElem?_map] at hd
  cases hc:x.cps.toList[i]? with
  | none=>rw [hc] at hd;cases hd
  | some c =>
   rw [hc] at hd;cases hd
   have hi:i < x.cps.size:=by simpa using (List.getElem?_eq_some_iff.mp hc).1
   refine ⟨hi,fun z H3 ⟨e3,c',e4,e5⟩=>?_⟩
   subst e3 e5
   rw [Array.getElem?_toList] at hc
   rw [hc] at e4;cases e4
   exact ⟨aA.refl _,by rw [al]⟩
 ·unfold tV at hle
  rw [List.length_map,Array.length_toList] at hle
  exact hle
theorem JT {ρ:ak} {tg e:Expr} {d:D} {l:List D} {k:Nat} (h:ED X ρ e d k) (hi:items d=some l):IE X ρ tg e l k:=by
 unfold items at hi
 split at hi
 ·cases hi;exact C4 h
 ·cases hi;exact Gm h
 ·split at hi
  ·rename_i ha;cases hi;exact Gn h ha
  ·cases hi
 ·cases hi
theorem zc {ρ:ak} {tg a:Expr} {p pos:Pos} {j:Int} {k:Nat} (hg:Gl X "range") (hm0:X.mg "range" = none) (ha:AD X ρ [a] [.int j] k) (hst:∀y p,a ≠ .Starred y p) (h1:-4611686018427387904<=j) (h2:j<=cZ) :
  IE X ρ tg (.Call (.Name "range" p) [a] [] pos) ((List.range j.toNat).map fun i=>.int (i:Nat)) 0:=by
 intro ow pins s σ H R I ⟨E,q⟩
 refine wF (tg:=tg) hg hm0 (ha ow) (by rw [aV hst];rfl) pins s σ H R I ⟨E,fun vs H1 s1 r1=>?_⟩
 obtain ⟨v,rfl,rv⟩:=r1.only
 rw [al] at rv;subst rv
 have hm:(cZ:Int) < 2 ^ 62:=by decide
 refine ⟨j,rfl,h1,by omega,q _ H1 s1 fun i H2 st=>⟨fun d hd=>?_,fun hle=>?_⟩⟩
 ·rw [List.getElem?_map] at hd
  cases e:(List.range j.toNat)[i]? with
  | none=>rw [e] at hd;cases hd
  | some n =>
   rw [e] at hd;cases hd
   obtain ⟨hi,hn⟩:=List.getElem?_eq_some_iff.mp e
   rw [List.getElem_range] at hn
   subst hn
   rw [List.length_range] at hi
   refine ⟨hi,fun x H3 ⟨e3,y3⟩=>?_⟩
   subst e3 y3
   exact ⟨aA.refl _,by rw [al,Int.zero_add]⟩
 ·rw [List.length_map,List.length_range] at hle
  exact hle
theorem xi {ρ:ak} {tg a b:Expr} {p pos:Pos} {j0 j:Int} {k:Nat} (hg:Gl X "range") (hm0:X.mg "range" = none) (ha:AD X ρ [a,b] [.int j0,.int j] k) (hst:∀y p,a ≠ .Starred y p) (hst2:∀y p,b ≠ .Starred y p) (h1:-4611686018427387904<=j0) (h2:j0<=4611686018427387000) (h3:-4611686018427387904<=j) (h4:j - j0<=800) :
  IE X ρ tg (.Call (.Name "range" p) [a,b] [] pos) ((List.range (j - j0).toNat).map fun i=>.int (j0+(i:Nat))) 0:=by
 intro ow pins s σ H R I ⟨E,q⟩
 refine wE (tg:=tg) hg hm0 (ha ow) (by rw [aV hst,aV hst2];rfl) (by rw [aV hst2];rfl) pins s σ H R I ⟨E,fun vs H1 s1 r1=>?_⟩
 rw [ai] at r1
 obtain ⟨v1,r,rfl,r2,r3⟩:=r1
 rw [ai] at r3
 obtain ⟨v2,r',rfl,r4,r5⟩:=r3
 rw [ai] at r5
 rw [al] at r2 r4
 subst r2 r4 r5
 refine ⟨j0,j,rfl,⟨h1,by omega,h3,by omega⟩,q _ H1 s1 fun i H2 st=>⟨fun d hd=>?_,fun hle=>?_⟩⟩
 ·rw [List.getElem?_map] at hd
  cases e:(List.range (j - j0).toNat)[i]? with
  | none=>rw [e] at hd;cases hd
  | some n =>
   rw [e] at hd;cases hd
   obtain ⟨hi,hn⟩:=List.getElem?_eq_some_iff.mp e
   rw [List.getElem_range] at hn
   subst hn
   rw [List.length_range] at hi
   refine ⟨hi,fun x H3 ⟨e3,y3⟩=>?_⟩
   subst e3 y3
   exact ⟨aA.refl _,by rw [al]⟩
 ·rw [List.length_map,List.length_range] at hle
  exact hle
theorem xj:kX "range" rF:=by
 refine ⟨by decide +kernel,fun X ρ p pos args ds k d j l tg o hc hg hm ha hst hlen h hp hl ht=>?_⟩
 unfold rF at h
 split at h
 ·rename_i n
  cases h
  cases hl
  match args,hlen,ha,hst with
  | [a],_,ha,hst=>exact zc hg hm ha (hst a List.mem_cons_self) hp.1 hp.2.1
 ·rename_i m n
  cases h
  cases hl
  match args,hlen,ha,hst with
  | [a,b],_,ha,hst=>exact xi hg hm ha (hst a List.mem_cons_self) (hst b (List.mem_cons_of_mem _ List.mem_cons_self)) hp.1 hp.2.1 hp.2.2.1 hp.2.2.2.1
 ·cases h
end Sp
namespace Sp
open PySem PySem.Spec PyProof.Rows L2
variable {X:Cx}
theorem dO {x:Str} {y:D×Bool} {ρ:ak} (z:Str):bI ρ x y z=if z=x then some y else ρ z:=rfl
theorem dX {ow:Ow} {H:Hp} {σ:L2.St} {ρ:ak} {x:Str} {d:D} {o:Bool} {v:V} {i:Nat} (hN:X.N.Nodup) (hl:σ.length=X.N.length) (E:aO X ow H σ ρ) (hi:X.N[i]?=some x) (hv:fB X.env.scope x) (r:al X.K H (jp ow x o) d v) :
  aO X ow H (σ.set i (some v)) (bI ρ x (d,o)):=by
 have hil:i < σ.length:=by rw [hl];exact (List.getElem?_eq_some_iff.mp hi).1
 refine ⟨fun y e o' h=>?_,E.own⟩
 rw [dO] at h
 by_cases hy:y=x
 ·subst hy
  rw [if_pos rfl] at h
  cases h
  exact ⟨i,v,hi,hv,by rw [List.getElem?_set_self hil],r⟩
 ·rw [if_neg hy] at h
  obtain ⟨j,w,e1,e2,e3,e4⟩:=E.get y e o' h
  have hij:i≠j:=by intro z;subst z;rw [hi] at e1;cases e1;exact hy rfl
  exact ⟨j,w,e1,e2,by rw [List.getElem?_set_ne hij];exact e3,e4⟩
theorem eR {Φ:Fx} {sc:Scope} {x:Str} (G:aW Φ X sc) (h:c9 sc x=true):sP X.env.scope x/\fB X.env.scope x/\(X.fn x=true\/X.env.scope.names.lookup x=some .local)/\∃i:Nat,X.N[i]?=some x:=by
 have hx:=G.ns x h
 have hlt:=List.idxOf_lt_length_iff.mpr hx
 have hi:∃i:Nat,X.N[i]?=some x:=⟨X.N.idxOf x,by rw [List.getElem?_eq_getElem hlt,List.getElem_idxOf hlt]⟩
 unfold c9 at h
 rw [Bool.or_eq_true] at h
 rcases h with h|h
 ·have h:=G.lc x (by simpa using h)
  exact ⟨.inl h,.inl h,.inr h,hi⟩
 ·have h0:sc.names.lookup x=some .cell:=by simpa using h
  have h:=G.cc x h0
  exact ⟨.inr h,.inr (.inl h),.inl (G.ft x h0),hi⟩
theorem jW {Φ:Fx} {sc:Scope} (G:aW Φ X sc):∀{es:List Expr} {ds:List D} {ρ ρ':ak},aY sc es ds ρ=some ρ'->∃t,uG X es t/\(assignEach es X.env).length=ds.length/\(assignEach es X.env).findIdx? (·.1)=none /\
  ∀(ow:Ow) (vs:List V) (σ:L2.St) (H:Hp) (Q:L2.St->Hp->Prop),σ.length=X.N.length->aO X ow H σ ρ->ai X.K H (fun a b=>b=true->ow a=none) ds vs->(∀σ',σ'.length=X.N.length->aO X ow H σ' ρ'->Q σ' H)->t vs σ H Q
 | [],[],ρ,ρ',h=>by
  rw [aY] at h;cases h
  refine ⟨_,nX,rfl,rfl,fun ow vs σ H Q hl E r q=>?_⟩
  rw [ai] at r
  exact ⟨r,q σ hl E⟩
 | .Name x p::es,d::ds,ρ,ρ',h=>by
  rw [aY] at h
  split at h
  ·rename_i hx
   obtain ⟨t,h1,h2,h3,h4⟩:=jW G h
   obtain ⟨g1,g2,g3,i,g4⟩:=eR G hx
   refine ⟨_,gW (fT (i:=i) G.nd g4 g1 g3) h1 rfl,?_,?_,fun ow vs σ H Q hl E r q=>?_⟩
   ·show (assignEach es X.env).length+1=ds.length+1
    rw [h2]
   ·show List.findIdx? (·.1) ((false,_)::assignEach es X.env)=none
    rw [List.findIdx?_cons,h3];rfl
   ·rw [ai] at r
    obtain ⟨v,vr,rfl,r1,r2⟩:=r
    refine ⟨v,vr,rfl,?_⟩
    exact h4 ow vr _ H Q (by rw [List.length_set];exact hl) (dX G.nd hl E g4 g2 r1) r2 q
  ·cases h
 | [],_::_,ρ,ρ',h=>by simp [aY] at h
 | .Name _ _::_,[],ρ,ρ',h=>by simp [aY] at h
 | .BoolOp .. :: _,ds,ρ,ρ',h=>by cases ds <;> simp [aY] at h
 | .NamedExpr .. :: _,ds,ρ,ρ',h=>by cases ds <;> simp [aY] at h
 | .BinOp .. :: _,ds,ρ,ρ',h=>by cases ds <;> simp [aY] at h
 | .UnaryOp .. :: _,ds,ρ,ρ',h=>by cases ds <;> simp [aY] at h
 | .Lambda .. :: _,ds,ρ,ρ',h=>by cases ds <;> simp [aY] at h
 | .IfExp .. :: _,ds,ρ,ρ',h=>by cases ds <;> simp [aY] at h
 | .Dict .. :: _,ds,ρ,ρ',h=>by cases ds <;> simp [aY] at h
 | .Set .. :: _,ds,ρ,ρ',h=>by cases ds <;> simp [aY] at h
 | .ListComp .. :: _,ds,ρ,ρ',h=>by cases ds <;> simp [aY] at h
 | .SetComp .. :: _,ds,ρ,ρ',h=>by cases ds <;> simp [aY] at h
 | .DictComp .. :: _,ds,ρ,ρ',h=>by cases ds <;> simp [aY] at h
 | .GeneratorExp .. :: _,ds,ρ,ρ',h=>by cases ds <;> simp [aY] at h
 | .Await .. :: _,ds,ρ,ρ',h=>by cases ds <;> simp [aY] at h
 | .Yield .. :: _,ds,ρ,ρ',h=>by cases ds <;> simp [aY] at h
 | .YieldFrom .. :: _,ds,ρ,ρ',h=>by cases ds <;> simp [aY] at h
 | .Compare .. :: _,ds,ρ,ρ',h=>by cases ds <;> simp [aY] at h
 | .Call .. :: _,ds,ρ,ρ',h=>by cases ds <;> simp [aY] at h
 | .FormattedValue .. :: _,ds,ρ,ρ',h=>by cases ds <;> simp [aY] at h
 | .JoinedStr .. :: _,ds,ρ,ρ',h=>by cases ds <;> simp [aY] at h
 | .Constant .. :: _,ds,ρ,ρ',h=>by cases ds <;> simp [aY] at h
 | .Attribute .. :: _,ds,ρ,ρ',h=>by cases ds <;> simp [aY] at h
 | .Subscript .. :: _,ds,ρ,ρ',h=>by cases ds <;> simp [aY] at h
 | .Starred .. :: _,ds,ρ,ρ',h=>by cases ds <;> simp [aY] at h
 | .List .. :: _,ds,ρ,ρ',h=>by cases ds <;> simp [aY] at h
 | .Tuple .. :: _,ds,ρ,ρ',h=>by cases ds <;> simp [aY] at h
 | .Slice .. :: _,ds,ρ,ρ',h=>by cases ds <;> simp [aY] at h
theorem mM {Φ:Fx} {sc:Scope} {tg:Expr} {d:D} {ρ ρ':ak} (G:aW Φ X sc) (h:bR sc tg d ρ=some ρ'):GD X ρ tg d ρ':=by
 unfold bR at h
 split at h
 ·split at h
  ·rename_i x p hx
   cases h
   obtain ⟨g1,g2,g3,i,g4⟩:=eR G hx
   exact ⟨_,fT (i:=i) G.nd g4 g1 g3,fun ow v σ H Q hl E r q=>q _ (by rw [List.length_set];exact hl) (dX G.nd hl E g4 g2 r)⟩
  ·cases h
 ·split at h
  ·obtain ⟨t,h1,h2,h3,h4⟩:=jW G h
   refine ⟨_,mq (n:=_) G.calm h1 h2 h3,fun ow v σ H Q hl E r q=>?_⟩
   obtain ⟨a,vs,rfl,hs,rl⟩:=eD r
   exact ⟨a,vs,rfl,hs,rl.length.symm,h4 ow vs σ H Q hl E rl q⟩
  ·cases h
 ·cases h
theorem uP {c:Expr} {cs:List Expr} {env:Env} {M:Model} {A:Around} {E:Value->Shared->Prop} {s:Shared} {Q:Bool->Shared->Prop}
  (h:wpAny M A (isTrue c env (eval c env)) (fun b s'=>if b=true then wpAny M A (hZ cs env) Q E s' else Q false s') E s):wpAny M A (hZ (c::cs) env) Q E s:=by
 have no:∀(l:List Expr) (s:Shared),Q false s->wpAny M A (forIn l false fun c r=>if r=true then do let ok <- isTrue c env (eval c env);pure (ForInStep.yield ok) else pure (ForInStep.yield r)) Q E s:=by
  intro l
  induction l with
  | nil=>intro s h;exact wpAny_pure h
  | cons x l ih =>
   intro s h
   rw [List.forIn_cons]
   simp only [Bool.false_eq_true,if_false]
   exact wpAny_bind (wpAny_pure (ih s h))
 unfold hZ
 rw [List.forIn_cons]
 simp only [if_true]
 refine wpAny_bind (wpAny_bind (wpAny_mono h (fun b s' hb=>wpAny_pure ?_) fun _ _ x=>x))
 cases b with
 | true=>exact hb
 | false=>exact no cs s' hb
theorem wq {ρ:ak}:xY X ρ [] true:=fun ow pins s σ H Q I ⟨E,q⟩=>wpAny_pure ⟨H,I,q H (aA.refl _)⟩
theorem nL {ρ:ak} {c:Expr} {cs:List Expr} {b b':Bool} (h:TD X ρ c b) (h':if b=true then xY X ρ cs b' else b'=false):xY X ρ (c::cs) b':=by
 intro ow pins s σ H Q I ⟨E,q⟩
 refine uP (aR (h ow pins s σ H (fun t H1=>t=b/\aA H H1) I ⟨E,fun H1 s1=>⟨rfl,s1⟩⟩) fun t s1 ⟨H1,I1,e,sm⟩=>?_)
 subst e
 cases t with
 | true =>
  rw [if_pos rfl] at h' ⊢
  exact h' ow pins s1 σ H1 Q I1 ⟨E.same sm,fun H2 s2=>q H2 (sm.trans s2)⟩
 | false =>
  rw [if_neg Bool.false_ne_true] at h' ⊢
  subst h'
  exact ⟨H1,I1,q H1 sm⟩
end Sp
namespace Sp
open PySem PySem.Spec PyProof.Rows L2
variable {X:Cx}
structure fE (X:Cx) (ρ:ak) (e:Expr) (it:Bool) (d:D) (k:Nat):Prop where
 ed:it=false->ED X ρ e d k
 td:it=false->∀b,d=.bl b->TD X ρ e b
 ie:it=true->∀tg l,items d=some l->eQ e tg=true->IE X ρ tg e l k
theorem fE.of {ρ:ak} {e:Expr} {it:Bool} {d:D} {k:Nat} (h:ED X ρ e d k) (t:∀b,d=.bl b->TD X ρ e b):fE X ρ e it d k:=⟨fun _=>h,fun _=>t,fun _ tg l hi _=>JT h hi⟩
theorem mY {Φ:Fx} {e:Expr} {it:Bool} {sc:Scope} {ρ:ak} {r:D×Nat} {l:List Prop} (h:aC Φ e it sc ρ=.ok r l):∀x p,e ≠ .Starred x p:=by
 intro x p z;subst z;cases h
theorem cv {Φ:Fx} {sc:Scope} {ρ:ak}:∀{es:List Expr} {r:List D×Nat} {l:List Prop},cf Φ es sc ρ=.ok r l->aG l->(∀e∈es,∀x p,e ≠ .Starred x p)/\es.length=r.1.length
 | [],r,l,h,_=>by cases h;exact ⟨fun e he=>(by cases he),rfl⟩
 | e::es,r,l,h,hp=>by
  obtain ⟨p,l1,l2,h1,p1,h,p2⟩:=aS h hp
  obtain ⟨q,l3,l4,h2,p3,h,p4⟩:=aS h p2
  cases h
  obtain ⟨i1,i2⟩:=cv h2 p3
  refine ⟨fun e' he=>?_,by rw [List.length_cons,List.length_cons,i2]⟩
  rcases List.mem_cons.mp he with rfl|he
  ·exact mY h1
  ·exact i1 e' he
theorem JM {d:D} {k:Nat}:kn d k=0\/kn d k=k:=by
 unfold kn;split
 ·exact .inl rfl
 ·exact .inr rfl
theorem xM {sc scope:Scope} (h:nl sc scope=true):scope.kind=.function/\(∀y∈scope.names,y.2=.local->scope.names.lookup y.1=some .local) /\
  (∀y∈scope.names,y.2=.free->sc.names.lookup y.1=some .cell\/sc.names.lookup y.1=some .free)/\(scope.names.map (·.1)).Nodup:=by
 unfold nl at h
 simp only [Bool.and_eq_true,List.all_eq_true,decide_eq_true_eq,Bool.or_eq_true] at h
 obtain ⟨⟨⟨h1,h3⟩,h4⟩,h5⟩:=h
 refine ⟨h1,fun y hy e=>(h3 y hy).resolve_left (fun z=>z e),fun y hy e=>?_,h5⟩
 rcases h4 y hy with (q|q) | q
 ·exact absurd e q
 ·exact .inl q.2
 ·exact .inr q
theorem dn {env:Env}:∀{names:List (Str×NameKind)} {x:Str} {k0:NameKind},k0 ≠ .free->names.lookup x=some k0 ->
  (names.map fun (n,k)=>if (k==NameKind.free&&env.scope.kind == .function&&env.kindOf n==some .cell) then (n,NameKind.cell) else (n,k)).lookup x=some k0
 | [],_,_,_,h=>by simp at h
 | (n,k)::r,x,k0,hk,h=>by
  have ih:=@dn env r x k0 hk
  show List.lookup x ((if (k==NameKind.free&&env.scope.kind == .function&&env.kindOf n==some .cell)=true then (n,NameKind.cell) else (n,k))::_)=_
  cases hx:x==n with
  | true =>
   simp only [List.lookup_cons,hx] at h
   cases h
   have:(k==NameKind.free)=false:=by simpa using hk
   simp [List.lookup_cons,hx,this]
  | false =>
   simp only [List.lookup_cons,hx] at h
   by_cases hc:(k==NameKind.free&&env.scope.kind == .function&&env.kindOf n==some .cell)=true
   ·rw [if_pos hc];simp only [List.lookup_cons,hx];exact ih h
   ·rw [if_neg hc];simp only [List.lookup_cons,hx];exact ih h
theorem mC {names:List (Str×NameKind)}:∀{x:Str} {k:NameKind},names.lookup x=some k->x∈names.map (·.1):=fun {x k} h=>List.mem_map.mpr ⟨_,PySem.mem_of_lookup h,rfl⟩
theorem C8 {Φ:Fx} {sc scope:Scope} {cl:List (Str×Addr)} {C:Addr} {s:Shared} {H:Hp} {fp:List Addr} (G:aW Φ X sc) (h:nl sc scope=true):aW Φ (j6 X scope cl C (scope.names.map (·.1)) s H fp) scope:=by
 obtain ⟨h1,h3,h4,h5⟩:=xM h
 refine ⟨G.calm,h5,fun x hx=>?_,fun x hx=>?_,fun x hx=>lookup_relabel_local hx,fun x hx=>dn (by decide) hx,fun g F hg=>G.fn g F hg,G.con,G.blt,G.itr,G.mth,G.mtt,G.slf,G.fld,G.omt,G.bl,G.room,fun x hx=>?_,fun x hx=>decide_eq_true hx⟩
 ·exact dn (by decide) hx
 ·rcases hx with hx|hx
  ·exact .inl (dn (by decide) hx)
  ·exact du hx
 ·unfold c9 at hx
  rw [Bool.or_eq_true] at hx
  rcases hx with hx|hx <;> exact mC (by simpa using hx)
theorem xy {Φ:Fx} {sc scope:Scope} (G:aW Φ X sc) (h:nl sc scope=true):gx X.env scope (scope.names.map (·.1)):=by
 obtain ⟨h1,h3,h4,h5⟩:=xM h
 exact ⟨h1,h5,h3,h5,fun n hn=>G.kc n (h4 (n,.free) hn rfl)⟩
theorem JN:∀{a b:Nat},kj a b<=1->a<=kj a b/\b<=kj a b
 | 0,0,_=>by decide
 | 0,1,_=>by decide
 | 0,2,h=>absurd h (by decide)
 | 0,_+3,h=>by rw [kj] at h;omega
 | 1,0,_=>by decide
 | 1,1,_=>by decide
 | 1,2,h=>absurd h (by decide)
 | 1,_+3,h=>absurd h (by rw [kj] <;> simp)
 | 2,0,h=>absurd h (by decide)
 | 2,1,h=>absurd h (by decide)
 | 2,2,h=>absurd h (by decide)
 | 2,_+3,h=>absurd h (by rw [kj] <;> simp)
 | _+3,0,h=>by rw [kj] at h <;> simp_all <;> omega
 | _+3,1,h=>absurd h (by rw [kj] <;> simp)
 | _+3,2,h=>absurd h (by rw [kj] <;> simp)
 | _+3,_+3,h=>absurd h (by rw [kj] <;> simp)
theorem Kp.up {ow:Ow} {H:Hp} (o:fb ow H) {a:Addr} {b:Bool}:∀{i j:Nat},i<=j->j<=1->Kp ow H i a b->Kp ow H j a b
 | 0,0,_,_,p=>p
 | 0,1,_,_,p=>fun _=>o.free p.2
 | 1,1,_,_,p=>p
 | 1,0,h,_,_=>absurd h (by omega)
 | _+2,_,h,g,_=>absurd h (by omega)
 | 0,_+2,_,g,_=>absurd g (by omega)
 | 1,_+2,_,g,_=>absurd g (by omega)
theorem ED.up {ρ:ak} {e:Expr} {d:D} {i j:Nat} (h:ED X ρ e d i) (h1:i<=j) (h2:j<=1):ED X ρ e d j:=fun ow=>bM (h ow) fun σ H Q ⟨E,q⟩=>⟨E,fun v H' s r=>q v H' s (r.imp fun a b p=>Kp.up E.own h1 h2 p)⟩
def pZ (step:D->Rs (Option (D×Nat))) (d:D):Option D:=match step d with | .ok (some p) _=>some p.1|_=>none
theorem rZ {step:D->Rs (Option (D×Nat))}:∀{ds:List D} {r:List D×Nat} {l:List Prop},gm step ds=.ok r l->aG l ->
  (∀d∈ds,∃r l,step d=.ok r l/\aG l)/\r.1=ds.filterMap (pZ step)/\(r.2<=1->∀d∈ds,∀p l,step d=.ok (some p) l->p.2<=r.2)
 | [],r,l,h,_=>by
  cases h
  exact ⟨fun d hd=>(by cases hd),rfl,fun _ d hd=>(by cases hd)⟩
 | d::ds,r,l,h,hp=>by
  obtain ⟨x,l1,l2,h1,p1,h,p2⟩:=aS h hp
  obtain ⟨q,l3,l4,h2,p3,h,p4⟩:=aS h p2
  obtain ⟨i1,i2,i3⟩:=rZ h2 p3
  have i1':∀y∈d::ds,∃r l,step y=.ok r l/\aG l:=fun y hy=>by
   rcases List.mem_cons.mp hy with rfl|hy
   ·exact ⟨_,_,h1,p1⟩
   ·exact i1 y hy
  cases x with
  | none =>
   cases h
   refine ⟨i1',?_,fun hj x hx y i e=>?_⟩
   ·rw [List.filterMap_cons_none (by unfold pZ;rw [h1])];exact i2
   ·rcases List.mem_cons.mp hx with rfl|hx
    ·rw [h1] at e;cases e
    ·exact i3 hj x hx y i e
  | some p =>
   cases h
   refine ⟨i1',?_,fun hj x hx y i e=>?_⟩
   ·rw [List.filterMap_cons_some (by unfold pZ;rw [h1]),i2]
   ·obtain ⟨a1,a2⟩:=JN hj
    rcases List.mem_cons.mp hx with rfl|hx
    ·rw [h1] at e;cases e;exact a1
    ·exact Nat.le_trans (i3 (Nat.le_trans a2 hj) x hx y i e) a2
end Sp
namespace Sp
open PySem PySem.Spec PyProof.Rows L2
theorem cg {X:Cx} {ρ:ak} {e:Expr} {it:Bool} {d:D} {k:Nat} (h:ED X ρ e d k) (he:∀whole,isTrue e X.env whole=(do let v <- whole;standAt e.pos;holding [v] (truthy v))):fE X ρ e it d k:=.of h fun b hb=>by subst hb;exact IB h he
theorem DZ {X:Cx} {ρ:ak} {a b:Expr} {op:CmpOp} {pos:Pos} {x y:D} {r:Bool} {k j:Nat} {o:List Prop} (hu:X.A.units+70 < cLine) (ha:ED X ρ a x k) (hb:ED X ρ b y j) (h:iM op x y=.ok r o) (hp:aG o) (hm:behindInMarks op b=false):TD X ρ (.Compare a [op] [b] pos) r:=by
 have c:=jd (X:=X) hu h hp
 intro ow pins s σ H Q I ⟨E,q⟩
 refine wpAny_isTrue_Compare1 (KF (ha ow) (hb ow) I (R:=fun v u H2=>aA H H2/\al X.K H2 (fun _ _=>True) x v/\al X.K H2 (fun _ _=>True) y u) ⟨E,fun v H1 s1 r1=>⟨E.same s1,fun u H2 s2 r2=>⟨s1.trans s2,(r1.imp fun _ _ _=>True.intro).same s2,r2.imp fun _ _ _=>True.intro⟩⟩⟩ fun v u s2 x y H2 I2 rx ry ⟨sm,r1,r2⟩=>?_) hm
 refine aR (c _ _ pins s2 σ H2 x y v u (fun w H'=>w=.bl r/\H2=H') I2 rx ry ⟨r1,r2,rfl,rfl⟩) fun u' s3 ⟨w,H3,I3,r3,e1,e2⟩=>?_
 subst e1 e2
 cases (show u'=Value.bool r from r3)
 exact wpAny_truthy_bool ⟨H2,I3,q H2 sm⟩
theorem yo {X:Cx} {ρ:ak} {a b c:Expr} {op op2:CmpOp} {pos:Pos} {x y z:Int} {r r2:Bool} {k j i:Nat} (hu:X.A.units+70 < cLine) (ha:ED X ρ a (.int x) k) (hb:ED X ρ b (.int y) j) (hc:ED X ρ c (.int z) i) (h:fX op x y=some r) (h2:fX op2 y z=some r2) (hm:behindInMarks op2 c=false):TD X ρ (.Compare a [op,op2] [b,c] pos) (r&&r2):=by
 have c1:=jd (X:=X) hu (na h) (show aG [] from True.intro)
 have c2:=jd (X:=X) hu (na h2) (show aG [] from True.intro)
 refine fun ow=>wa (yD (c1 (fun _ _=>True) (fun _ _=>True)) (c2 (fun _ _=>True) (fun _ _=>True)) (ha ow) (hb ow) (hc ow) hm) fun σ H Q ⟨E,q⟩=>⟨E,fun v H1 s1 r1=>⟨E.same s1,fun u H2 s2 r2=>?_⟩⟩
 rw [al] at r1 r2
 subst r1 r2
 refine ⟨by rw [al],by rw [al],r,rfl,?_⟩
 cases r with
 | false=>exact ⟨false,rfl,q H2 (s1.trans s2)⟩
 | true =>
  rw [if_pos rfl]
  refine ⟨(E.same s1).same s2,fun w H3 s3 r3=>?_⟩
  rw [al] at r3
  subst r3
  exact ⟨by rw [al],by rw [al],_,rfl,q H3 ((s1.trans s2).trans s3)⟩
theorem DY {X:Cx} {ρ:ak} {a:Expr} {pos:Pos} {b:Bool} (h:TD X ρ a b):TD X ρ (.UnaryOp .Not a pos) (!b):=fun ow=>wa (EG (h ow)) fun σ H Q ⟨E,q⟩=>⟨E,fun H1 s1=>q H1 s1⟩
structure eH (X:Cx) (ρ:ak) (op:BoolOp) (es:List Expr) (b:Bool):Prop where
 ed:es≠[]->∀pos,ED X ρ (.BoolOp op es pos) (.bl b) 0
 tw:es≠[]->∀pos ow,PW X (.BoolOp op es pos) (An X ow ρ b)
 ts:op=.And->xY X ρ es b
theorem gn {X:Cx} {ρ:ak} {op:BoolOp} {e:Expr} {b:Bool} {k:Nat} (h:ED X ρ e (.bl b) k) (t:TD X ρ e b):eH X ρ op [e] b:=by
 have h0:ED X ρ e (.bl b) 0:=by
  have:=h.kn
  rw [show kn (.bl b) k=0 from rfl] at this
  exact this
 refine ⟨fun _ pos ow=>EX (h0 ow),fun _ pos ow=>?_,fun _=>nL t (by cases b;rfl;exact wq)⟩
 cases op with
 | And=>exact Ci (t ow)
 | Or=>exact EE (t ow)
theorem tz {X:Cx} {ρ:ak} {e e2:Expr} {es:List Expr} {b:Bool} {k:Nat} (h:ED X ρ e (.bl true) k) (t:TD X ρ e true) (r:eH X ρ .And (e2::es) b):eH X ρ .And (e::e2::es) b:=by
 refine ⟨fun _ pos ow=>?_,fun _ pos ow=>?_,fun _=>nL t (by rw [if_pos rfl];exact r.ts rfl)⟩
 ·refine bM (wJ (h ow) (r.ed (by simp) pos ow)) fun σ H Q ⟨E,q⟩=>⟨E,fun v H1 s1 r1=>?_⟩
  rw [al] at r1
  exact ⟨true,r1,by rw [if_pos rfl];exact ⟨E.same s1,fun w H2 s2 r2=>q w H2 (s1.trans s2) (r2.imp (Kp.back s1 0))⟩⟩
 ·intro wh pins s σ H Q I hq
  exact wB (t ow) (r.tw (by simp) pos ow) wh pins s σ H Q I ⟨hq.1,fun H1 s1=>by dsimp only;rw [if_pos rfl];exact ⟨hq.1.same s1,fun H2 s2=>hq.2 H2 (s1.trans s2)⟩⟩
theorem sk {X:Cx} {ρ:ak} {e e2:Expr} {es:List Expr} {k:Nat} (h:ED X ρ e (.bl false) k) (t:TD X ρ e false) (ne:∀pos,∃t,PE X (.BoolOp .And (e2::es) pos) t) (nw:∀pos,∃t,PW X (.BoolOp .And (e2::es) pos) t):eH X ρ .And (e::e2::es) false:=by
 refine ⟨fun _ pos ow=>?_,fun _ pos ow=>?_,fun _=>nL t (by rw [if_neg Bool.false_ne_true])⟩
 ·obtain ⟨t2,h2⟩:=ne pos
  refine bM (wJ (h ow) h2) fun σ H Q ⟨E,q⟩=>⟨E,fun v H1 s1 r1=>?_⟩
  rw [al] at r1
  exact ⟨false,r1,by rw [if_neg Bool.false_ne_true];exact q _ H1 s1 (by rw [al])⟩
 ·obtain ⟨t2,h2⟩:=nw pos
  intro wh pins s σ H Q I hq
  exact wB (t ow) h2 wh pins s σ H Q I ⟨hq.1,fun H1 s1=>by dsimp only;rw [if_neg Bool.false_ne_true];exact hq.2 H1 s1⟩
theorem vU {X:Cx} {ρ:ak} {e e2:Expr} {es:List Expr} {b:Bool} {k:Nat} (h:ED X ρ e (.bl false) k) (t:TD X ρ e false) (r:eH X ρ .Or (e2::es) b):eH X ρ .Or (e::e2::es) b:=by
 refine ⟨fun _ pos ow=>?_,fun _ pos ow=>?_,fun z=>by cases z⟩
 ·refine bM (Az (h ow) (r.ed (by simp) pos ow)) fun σ H Q ⟨E,q⟩=>⟨E,fun v H1 s1 r1=>?_⟩
  rw [al] at r1
  exact ⟨false,r1,by rw [if_neg Bool.false_ne_true];exact ⟨E.same s1,fun w H2 s2 r2=>q w H2 (s1.trans s2) (r2.imp (Kp.back s1 0))⟩⟩
 ·intro wh pins s σ H Q I hq
  exact Ax (t ow) (r.tw (by simp) pos ow) wh pins s σ H Q I ⟨hq.1,fun H1 s1=>by dsimp only;rw [if_neg Bool.false_ne_true];exact ⟨hq.1.same s1,fun H2 s2=>hq.2 H2 (s1.trans s2)⟩⟩
theorem tx {X:Cx} {ρ:ak} {e e2:Expr} {es:List Expr} {k:Nat} (h:ED X ρ e (.bl true) k) (t:TD X ρ e true) (ne:∀pos,∃t,PE X (.BoolOp .Or (e2::es) pos) t) (nw:∀pos,∃t,PW X (.BoolOp .Or (e2::es) pos) t):eH X ρ .Or (e::e2::es) true:=by
 refine ⟨fun _ pos ow=>?_,fun _ pos ow=>?_,fun z=>by cases z⟩
 ·obtain ⟨t2,h2⟩:=ne pos
  refine bM (Az (h ow) h2) fun σ H Q ⟨E,q⟩=>⟨E,fun v H1 s1 r1=>?_⟩
  rw [al] at r1
  exact ⟨true,r1,by rw [if_pos rfl];exact q _ H1 s1 (by rw [al])⟩
 ·obtain ⟨t2,h2⟩:=nw pos
  intro wh pins s σ H Q I hq
  exact Ax (t ow) h2 wh pins s σ H Q I ⟨hq.1,fun H1 s1=>by dsimp only;rw [if_pos rfl];exact hq.2 H1 s1⟩
theorem qO {X:Cx} {e:Expr}:PE X e (fun _ _ _=>False):=fun _ _ _ _ _ _ h=>h.elim
theorem qK {X:Cx} {e:Expr}:PW X e (fun _ _ _=>False):=fun _ _ _ _ _ _ _ h=>h.elim
theorem A0 {op:CmpOp} {b:Expr} {Φ:Fx} {sc:Scope} {ρ:ak} {r:D×Nat} {it:Bool} {l:List Prop} (h:aC Φ b it sc ρ=.ok r l):behindInMarks op b=false:=by
 cases b <;> first|rfl|cases h
theorem ui {sc:Scope} {x z:Str} (h:c9 sc z=true) (hx:sc.names.lookup x=some .free):x≠z:=by
 intro e;subst e
 unfold c9 at h
 rw [hx] at h
 revert h;decide
theorem vV {sc:Scope}:∀{es:List Expr} {ds:List D} {ρ ρ':ak},aY sc es ds ρ=some ρ'->∀x y,sc.names.lookup x=some .free->ρ x=some y->ρ' x=some y:=by
 intro es
 induction es with
 | nil =>
  intro ds ρ ρ' h x y hx hl
  cases ds with
  | nil=>rw [aY] at h;cases h;exact hl
  | cons d ds=>cases h
 | cons e es ih =>
  intro ds ρ ρ' h x y hx hl
  cases ds with
  | nil=>cases e <;> cases h
  | cons d ds =>
   cases e with
   | Name z p =>
    rw [aY] at h
    split at h
    ·rename_i hz
     exact ih h x y hx (by rw [dO,if_neg (ui hz hx)];exact hl)
    ·cases h
   | _=>cases h
theorem xN {sc:Scope} {tg:Expr} {d:D} {ρ ρ':ak} (h:bR sc tg d ρ=some ρ'):∀x y,sc.names.lookup x=some .free->ρ x=some y->ρ' x=some y:=by
 intro x y hx hl
 unfold bR at h
 split at h
 ·split at h
  ·rename_i hz
   cases h
   rw [dO,if_neg (ui hz hx)];exact hl
  ·cases h
 ·split at h
  ·exact vV h x y hx hl
  ·cases h
 ·cases h
theorem iC {Φ:Fx} {e:Expr} {it:Bool} {sc:Scope} {ρ:ak} {r:D×Nat} {l:List Prop} {env:Env} (h:aC Φ e it sc ρ=.ok r l) (x:Value):foldedSetIterable e env x=pure x:=by
 cases e <;> first|rfl|cases h
mutual
theorem qY:∀x y:D,og true x y=x
 | .int _,.int _=>rfl
 | .bl _,.bl _=>rfl
 | .tup l,.tup m=>by
  show (if l.length=m.length then D.tup (jX true l m) else cond true (.tup l) (.tup m))=.tup l
  split
  ·rename_i h;rw [wN l m h]
  ·rfl
 | .non,_=>rfl
 | .str _,_=>rfl
 | .dct _ _,_=>rfl
 | .lst _,_=>rfl
 | .typ _,_=>rfl
 | .sn _,_=>rfl
 | .obj _ _ _,_=>rfl
 | .cls _,_=>rfl
 | .int _,.non=>rfl
 | .int _,.bl _=>rfl
 | .int _,.str _=>rfl
 | .int _,.dct _ _=>rfl
 | .int _,.typ _=>rfl
 | .int _,.sn _=>rfl
 | .int _,.obj _ _ _=>rfl
 | .int _,.cls _=>rfl
 | .int _,.tup _=>rfl
 | .int _,.lst _=>rfl
 | .bl _,.non=>rfl
 | .bl _,.int _=>rfl
 | .bl _,.str _=>rfl
 | .bl _,.dct _ _=>rfl
 | .bl _,.typ _=>rfl
 | .bl _,.sn _=>rfl
 | .bl _,.obj _ _ _=>rfl
 | .bl _,.cls _=>rfl
 | .bl _,.tup _=>rfl
 | .bl _,.lst _=>rfl
 | .tup _,.non=>rfl
 | .tup _,.int _=>rfl
 | .tup _,.bl _=>rfl
 | .tup _,.str _=>rfl
 | .tup _,.dct _ _=>rfl
 | .tup _,.typ _=>rfl
 | .tup _,.sn _=>rfl
 | .tup _,.obj _ _ _=>rfl
 | .tup _,.cls _=>rfl
 | .tup _,.lst _=>rfl
theorem wN:∀l m:List D,l.length=m.length->jX true l m=l
 | [],[],_=>rfl
 | x::l,y::m,h=>by
  show og true x y::jX true l m=x::l
  rw [qY x y,wN l m (by simpa using h)]
 | [],_::_,h=>by cases h
 | _::_,[],h=>by cases h
end
mutual
theorem qZ:∀x y:D,og false x y=y
 | .int _,.int _=>rfl
 | .bl _,.bl _=>rfl
 | .tup l,.tup m=>by
  show (if l.length=m.length then D.tup (jX false l m) else cond false (.tup l) (.tup m))=.tup m
  split
  ·rename_i h;rw [wO l m h]
  ·rfl
 | .non,_=>rfl
 | .str _,_=>rfl
 | .dct _ _,_=>rfl
 | .lst _,_=>rfl
 | .typ _,_=>rfl
 | .sn _,_=>rfl
 | .obj _ _ _,_=>rfl
 | .cls _,_=>rfl
 | .int _,.non=>rfl
 | .int _,.bl _=>rfl
 | .int _,.str _=>rfl
 | .int _,.dct _ _=>rfl
 | .int _,.typ _=>rfl
 | .int _,.sn _=>rfl
 | .int _,.obj _ _ _=>rfl
 | .int _,.cls _=>rfl
 | .int _,.tup _=>rfl
 | .int _,.lst _=>rfl
 | .bl _,.non=>rfl
 | .bl _,.int _=>rfl
 | .bl _,.str _=>rfl
 | .bl _,.dct _ _=>rfl
 | .bl _,.typ _=>rfl
 | .bl _,.sn _=>rfl
 | .bl _,.obj _ _ _=>rfl
 | .bl _,.cls _=>rfl
 | .bl _,.tup _=>rfl
 | .bl _,.lst _=>rfl
 | .tup _,.non=>rfl
 | .tup _,.int _=>rfl
 | .tup _,.bl _=>rfl
 | .tup _,.str _=>rfl
 | .tup _,.dct _ _=>rfl
 | .tup _,.typ _=>rfl
 | .tup _,.sn _=>rfl
 | .tup _,.obj _ _ _=>rfl
 | .tup _,.cls _=>rfl
 | .tup _,.lst _=>rfl
theorem wO:∀l m:List D,l.length=m.length->jX false l m=m
 | [],[],_=>rfl
 | x::l,y::m,h=>by
  show og false x y::jX false l m=y::m
  rw [qZ x y,wO l m (by simpa using h)]
 | [],_::_,h=>by cases h
 | _::_,[],h=>by cases h
end
theorem AK {k j:Nat}:xa true k j=k:=by unfold xa;split <;> rfl
theorem AL {k j:Nat}:xa false k j=j:=by
 unfold xa;split
 ·assumption
 ·rfl
theorem uq {t:Bool} {r s:R1} {d:D×Nat} {l:List Prop} (h:AQ t r s=.ok d l) (hp:aG l):∃m,(if t=true then r else s)=.ok d m/\aG m:=by
 unfold AQ at h
 split at h
 ·cases t with
  | true=>cases h
  | false=>exact ⟨l,h,hp⟩
 ·rename_i p m
  split at h
  ·cases t with
   | true=>exact ⟨l,h,hp⟩
   | false=>cases h
  ·rename_i q n
   cases h
   obtain ⟨p1,p2⟩:=dR.mp hp
   cases t with
   | true=>exact ⟨m,by rw [qY,AK];rfl,mN p1 rfl⟩
   | false=>exact ⟨n,by rw [qZ,AL];rfl,mN p2 rfl⟩
theorem kT {α:Type} {p:D×Nat} {f:Bool->Rs α} {a:α} {l:List Prop} (h:iE p f=.ok a l):∃b,p.1=.bl b/\f b=.ok a l:=by
 unfold iE at h
 split at h
 ·rename_i b e;exact ⟨b,e,h⟩
 ·cases h
theorem y8 {p:D×Nat} {f:Int->R1} {a:D×Nat} {l:List Prop} (h:jt p f=.ok a l):∃b,p.1=.int b/\f b=.ok a l:=by
 unfold jt at h
 split at h
 ·rename_i b e;exact ⟨b,e,h⟩
 ·cases h
structure Ih (Φ:Fx) (n:Nat):Prop where
 e:∀(e:Expr) {it:Bool} {sc:Scope} {ρ:ak} {p:D×Nat} {l:List Prop} {X:Cx},sizeOf e < n->aC Φ e it sc ρ=.ok p l->aG l->aW Φ X sc->fE X ρ e it p.1 p.2
 es:∀(es:List Expr) {sc:Scope} {ρ:ak} {p:List D×Nat} {l:List Prop} {X:Cx},sizeOf es < n->cf Φ es sc ρ=.ok p l->aG l->aW Φ X sc->AD X ρ es p.1 p.2
 b:∀(op:BoolOp) (es:List Expr) {sc:Scope} {ρ:ak} {b:Bool} {l:List Prop} {X:Cx},sizeOf es < n->dW Φ op es sc ρ=.ok b l->aG l->aW Φ X sc->eH X ρ op es b
 o:∀(e:Option Expr) {sc:Scope} {ρ:ak} {o:Option Int} {l:List Prop} {X:Cx},sizeOf e < n->pz Φ e sc ρ=.ok o l->aG l->aW Φ X sc->OD X ρ e o
theorem bm {a b n:Nat} (h:a < b) (hs:b < n+1):a < n:=Nat.lt_of_lt_of_le h (Nat.le_of_lt_succ hs)
section
variable {Φ:Fx} {n:Nat} {it:Bool} {sc:Scope} {ρ:ak} {r:D×Nat} {l:List Prop} {X:Cx}
theorem BR {x:Str} {pos:Pos} (h:js Φ x sc ρ=.ok r l) (G:aW Φ X sc):fE X ρ (.Name x pos) it r.1 r.2:=by
 unfold js at h
 split at h
 ·rename_i hx
  split at h
  ·rename_i hg
   split at h
   ·rename_i d hd;cases h;exact cg (GN G hd hg hx) (fun _=>rfl)
   ·split at h
    ·rename_i T hT;cases h;exact cg (GI G hT hg) (fun _=>rfl)
    ·cases h
  ·split at h
   ·rename_i p hl
    unfold mk at h;cases h
    exact cg (uw (o:=p.2) hl hx) (fun _=>rfl)
   ·cases h
 ·cases h
theorem Eb (I:Ih Φ n) {a b:Expr} {op:Operator} {pos:Pos} (hs:sizeOf (Expr.BinOp a op b pos) < n+1) (h:aC Φ (.BinOp a op b pos) it sc ρ=.ok r l) (hp:aG l) (G:aW Φ X sc):fE X ρ (.BinOp a op b pos) it r.1 r.2:=by
 obtain ⟨p,l1,l2,h1,p1,h,p2⟩:=aS (show Rs.bnd _ _=_ from h) hp
 obtain ⟨q,l3,l4,h2,p3,h,p4⟩:=aS h p2
 exact cg (GQ ((I.e a (bm (by simp <;> omega) hs) h1 p1 G).ed rfl) ((I.e b (bm (by simp <;> omega) hs) h2 p3 G).ed rfl) h p4) (fun _=>rfl)
theorem IM (I:Ih Φ n) {a:Expr} {op:UnaryOp} {pos:Pos} (hs:sizeOf (Expr.UnaryOp op a pos) < n+1) (h:aC Φ (.UnaryOp op a pos) it sc ρ=.ok r l) (hp:aG l) (G:aW Φ X sc):fE X ρ (.UnaryOp op a pos) it r.1 r.2:=by
 obtain ⟨p,l1,l2,h1,p1,h,p2⟩:=aS (show Rs.bnd _ _=_ from h) hp
 split at h
 ·rename_i z hu
  cases h
  have c:=I.e a (bm (by simp <;> omega) hs) h1 p1 G
  refine .of (J4 (c.ed rfl) hu) fun b hb=>?_
  have hb:z=.bl b:=hb
  subst hb
  unfold Ah at hu
  split at hu
  ·cases hu
  ·rename_i e;cases hu;exact DY (c.td rfl _ e)
  ·cases hu
 ·cases h
theorem Ea (I:Ih Φ n) {a b:Expr} {op:CmpOp} {pos:Pos} (hs:sizeOf (Expr.Compare a [op] [b] pos) < n+1) (h:aC Φ (.Compare a [op] [b] pos) it sc ρ=.ok r l) (hp:aG l) (G:aW Φ X sc):fE X ρ (.Compare a [op] [b] pos) it r.1 r.2:=by
 obtain ⟨p,l1,l2,h1,p1,h,p2⟩:=aS (show Rs.bnd _ _=_ from h) hp
 obtain ⟨q,l3,l4,h2,p3,h,p4⟩:=aS h p2
 obtain ⟨z,l5,l6,hc,p5,h,p6⟩:=aS h p4
 cases h
 have ca:=(I.e a (bm (by simp <;> omega) hs) h1 p1 G).ed rfl
 have cb:=(I.e b (bm (by simp <;> omega) hs) h2 p3 G).ed rfl
 exact .of (GO G.room ca cb hc p5 (A0 h2)) fun b' hb'=>by cases hb';exact DZ G.room ca cb hc p5 (A0 h2)
theorem yr (I:Ih Φ n) {a b c:Expr} {op op2:CmpOp} {pos:Pos} (hs:sizeOf (Expr.Compare a [op,op2] [b,c] pos) < n+1) (h:aC Φ (.Compare a [op,op2] [b,c] pos) it sc ρ=.ok r l) (hp:aG l) (G:aW Φ X sc):fE X ρ (.Compare a [op,op2] [b,c] pos) it r.1 r.2:=by
 obtain ⟨p,l1,l2,h1,p1,h,p2⟩:=aS (show Rs.bnd _ _=_ from h) hp
 obtain ⟨q,l3,l4,h2,p3,h,p4⟩:=aS h p2
 obtain ⟨t,l5,l6,h3,p5,h,p6⟩:=aS h p4
 obtain ⟨x,y,z,r1,r2,e1,e2,e3,k1,k2,rfl⟩:=Dx h
 have ca:=(I.e a (bm (by simp <;> omega) hs) h1 p1 G).ed rfl
 have cb:=(I.e b (bm (by simp <;> omega) hs) h2 p3 G).ed rfl
 have cc:=(I.e c (bm (by simp <;> omega) hs) h3 p5 G).ed rfl
 rw [e1] at ca
 rw [e2] at cb
 rw [e3] at cc
 exact .of (zt G.room ca cb cc k1 k2 (A0 h3)) fun b' hb'=>by cases hb';exact yo G.room ca cb cc k1 k2 (A0 h3)
theorem IN (I:Ih Φ n) {c a b:Expr} {pos:Pos} (hs:sizeOf (Expr.IfExp c a b pos) < n+1) (h:aC Φ (.IfExp c a b pos) it sc ρ=.ok r l) (hp:aG l) (G:aW Φ X sc):fE X ρ (.IfExp c a b pos) it r.1 r.2:=by
 obtain ⟨p,l1,l2,h1,p1,h,p2⟩:=aS (show Rs.bnd _ _=_ from h) hp
 obtain ⟨t,ht,h⟩:=kT h
 obtain ⟨m,he,hm⟩:=uq h p2
 have hc:=(I.e c (bm (by simp <;> omega) hs) h1 p1 G).td rfl t ht
 cases t with
 | true =>
  rw [if_pos rfl] at he
  have ha:=I.e a (bm (by simp <;> omega) hs) he hm G
  refine .of (AV hc (by rw [if_pos rfl];exact ha.ed rfl)) fun b' hb'=>?_
  intro ow pins s σ H Q I ⟨E,q⟩
  refine isTrue_IfExp (aR (hc ow pins s σ H (fun t H1=>t=true/\aA H H1) I ⟨E,fun H1 s1=>⟨rfl,s1⟩⟩) fun t s1 ⟨H1,I1,e1,s1'⟩=>?_)
  subst e1
  exact ha.td rfl b' hb' ow pins s1 σ H1 Q I1 ⟨E.same s1',fun H2 s2=>q H2 (s1'.trans s2)⟩
 | false =>
  rw [if_neg Bool.false_ne_true] at he
  have hb:=I.e b (bm (by simp <;> omega) hs) he hm G
  refine .of (AV hc (by rw [if_neg Bool.false_ne_true];exact hb.ed rfl)) fun b' hb'=>?_
  intro ow pins s σ H Q I ⟨E,q⟩
  refine isTrue_IfExp (aR (hc ow pins s σ H (fun t H1=>t=false/\aA H H1) I ⟨E,fun H1 s1=>⟨rfl,s1⟩⟩) fun t s1 ⟨H1,I1,e1,s1'⟩=>?_)
  subst e1
  exact hb.td rfl b' hb' ow pins s1 σ H1 Q I1 ⟨E.same s1',fun H2 s2=>q H2 (s1'.trans s2)⟩
theorem mo {Φ:Fx} {e:Expr} {it:Bool} {sc:Scope} {ρ:ak} {r:D×Nat} {l:List Prop} (h:aC Φ e it sc ρ=.ok r l):gS e:=by
 cases e <;> first | (intro _ _;rfl) | cases h
theorem Ar (I:Ih Φ n) {a i:Expr} {pos:Pos} (hs:sizeOf (Expr.Subscript a i pos) < n+1) (h:((aC Φ a false sc ρ).bnd fun p=>(aC Φ i false sc ρ).bnd fun q=>lF p q)=.ok r l) (hp:aG l) (G:aW Φ X sc):fE X ρ (.Subscript a i pos) it r.1 r.2:=by
 obtain ⟨p,l1,l2,h1,p1,h,p2⟩:=aS h hp
 obtain ⟨q,l3,l4,h2,p3,h,p4⟩:=aS h p2
 exact cg (GJ ((I.e a (bm (by simp <;> omega) hs) h1 p1 G).ed rfl) ((I.e i (bm (by simp <;> omega) hs) h2 p3 G).ed rfl) (mo h2) h) (fun _=>rfl)
theorem yq (I:Ih Φ n) {a:Expr} {lo hi:Option Expr} {p2 pos:Pos} (hs:sizeOf (Expr.Subscript a (.Slice lo hi none p2) pos) < n+1) (h:aC Φ (.Subscript a (.Slice lo hi none p2) pos) it sc ρ=.ok r l) (hp:aG l) (G:aW Φ X sc):fE X ρ (.Subscript a (.Slice lo hi none p2) pos) it r.1 r.2:=by
 obtain ⟨p,l1,l2,h1,p1,h,q2⟩:=aS (show Rs.bnd _ _=_ from h) hp
 obtain ⟨q,l3,l4,h2,p3,h,p4⟩:=aS h q2
 obtain ⟨q',l5,l6,h3,p5,h,p6⟩:=aS h p4
 exact cg (G.slf X ρ a lo hi p2 pos p.1 r.1 q q' p.2 r.2 l6 ((I.e a (bm (by simp <;> omega) hs) h1 p1 G).ed rfl) (I.o lo (bm (by simp <;> omega) hs) h2 p3 G) (I.o hi (bm (by simp <;> omega) hs) h3 p5 G) h p6) (fun _=>rfl)
theorem D9 (I:Ih Φ n) {a i:Expr} {pos:Pos} (hs:sizeOf (Expr.Subscript a i pos) < n+1) (h:aC Φ (.Subscript a i pos) it sc ρ=.ok r l) (hp:aG l) (G:aW Φ X sc):fE X ρ (.Subscript a i pos) it r.1 r.2:=by
 cases i with
 | Slice lo hi st p2 =>
  cases st with
  | none=>exact yq I hs h hp G
  | some e=>exact Ar I hs h hp G
 | _=>exact Ar I hs h hp G
theorem BS (I:Ih Φ n) {f:Str} {p pos:Pos} {args:List Expr} (hs:sizeOf args < n) (hf:sc.names.lookup f=some .globalImplicit) (h0:((cf Φ args sc ρ).bnd fun p=>kS Φ f it p.1 p.2)=.ok r l) (hp:aG l) (G:aW Φ X sc):fE X ρ (.Call (.Name f p) args [] pos) it r.1 r.2:=by
 obtain ⟨q,l1,l2,h1,p1,h,p2⟩:=aS h0 hp
 clear h0
 have ha:=I.es args hs h1 p1 G
 obtain ⟨hst,hlen⟩:=cv h1 p1
 unfold kS at h
 split at h
 ·rename_i F hF
  obtain ⟨d,l3,l4,h2,p3,h,p4⟩:=aS h p2
  cases h
  exact cg (Dt G hF hf ha hst (fun z=>by subst z;exact List.length_eq_zero_iff.mp hlen.symm) h2 p3) (fun _=>rfl)
 ·split at h
  ·rename_i B hB
   split at hB
   ·rename_i hit
    have hI:=G.itr f B hB
    refine ⟨fun z=>(by rw [hit] at z;cases z),fun z=>(by rw [hit] at z;cases z),fun _ tg l' hl ht=>?_⟩
    exact hI.2 X ρ p pos args q.1 q.2 r.1 r.2 l' tg l2 G.calm (G.gl f hf) (G.bl f hI.1) ha hst hlen h p2 hl ht
   ·cases hB
  ·split at h
   ·rename_i B hB
    have hb:=G.blt f B hB
    cases args with
    | nil =>
     have e0:q.1=[]:=List.length_eq_zero_iff.mp hlen.symm
     rw [e0,hb.2.2.2.1] at h;cases h
    | cons e es=>exact cg (GP G hb hf ha hst h p2) (fun _=>rfl)
   ·cases h
theorem yt (I:Ih Φ n) {f:Str} {p pos:Pos} {args:List Expr} (hs:sizeOf (Expr.Call (.Name f p) args [] pos) < n+1) (h:aC Φ (.Call (.Name f p) args [] pos) it sc ρ=.ok r l) (hp:aG l) (G:aW Φ X sc):fE X ρ (.Call (.Name f p) args [] pos) it r.1 r.2:=by
 rw [jy] at h
 split at h
 ·rename_i hf
  exact BS I (bm (by simp <;> omega) hs) hf h hp G
 ·cases h
theorem yv (I:Ih Φ n) {a:Expr} {m:Str} {ap pos:Pos} {args:List Expr} (hs:sizeOf (Expr.Call (.Attribute a m ap) args [] pos) < n+1) (h:aC Φ (.Call (.Attribute a m ap) args [] pos) it sc ρ=.ok r l) (hp:aG l) (G:aW Φ X sc):fE X ρ (.Call (.Attribute a m ap) args [] pos) it r.1 r.2:=by
 rw [lO] at h
 split at h
 ·rename_i hln
  obtain ⟨p,l1,l2,h1,p1,h,p2⟩:=aS h hp
  obtain ⟨q,l3,l4,h2,p3,h,p4⟩:=aS h p2
  obtain ⟨hst,hlen⟩:=cv h2 p3
  have hea:=(I.e a (bm (by simp <;> omega) hs) h1 p1 G).ed rfl
  have hes:=I.es args (bm (by simp <;> omega) hs) h2 p3 G
  obtain ⟨x,kx⟩:=p
  unfold vo at h
  dsimp only at h hea
  split at h
  ·rename_i n ns es
   split at h
   ·rename_i hc
    split at h
    ·rename_i F hF
     obtain ⟨d,l5,l6,h3,p5,h,p6⟩:=aS h p4
     cases h
     exact cg (Dn G hF hea hes hst hlen hc.1 hc.2.1 hc.2.2 hln h3 p5) (fun _=>rfl)
    ·cases h
   ·cases h
  ·split at h
   ·rename_i hb
    split at h
    ·rename_i M hM
     exact cg (G.mth m M hM X ρ a args ap pos x kx q.1 q.2 r.1 r.2 l4 G.calm G.room hea hes hst hlen hln hb h p4) (fun _=>rfl)
    ·cases h
   ·cases h
 ·cases h
theorem Bi {elt tg:Expr} {ifs:List Expr} {scope:Scope} {ds:List D} {q:List D×Nat} {m:List Prop} (hE:∀{ρ:ak} {p:D×Nat} {l:List Prop} {X:Cx},aC Φ elt false scope ρ=.ok p l->aG l->aW Φ X scope->fE X ρ elt false p.1 p.2)
    (hB:∀{ρ:ak} {b:Bool} {l:List Prop} {X:Cx},dW Φ .And ifs scope ρ=.ok b l->aG l->aW Φ X scope->eH X ρ .And ifs b) (hc:nl sc scope=true) (G:aW Φ X sc)
    (h:gm (fun d=>match bR scope tg d (flt scope ρ) with
            | none=>.st
            | some ρ'=>(dW Φ .And ifs scope ρ').bnd fun b=>cond b ((aC Φ elt false scope ρ').bnd fun r=>.ok (some r) []) (.ok none [])) ds=.ok q m) (hp:aG m) (hj:q.2<=1) :
    ∃f:D->Option D,q.1=ds.filterMap f/\∀cl C s H fp,∀d∈ds,kW (j6 X scope cl C (scope.names.map (·.1)) s H fp) (flt scope ρ) tg ifs elt q.2 d (f d):=by
  generalize hst:(fun d=>match bR scope tg d (flt scope ρ) with
            | none=>.st
            | some ρ'=>(dW Φ .And ifs scope ρ').bnd fun b=>cond b ((aC Φ elt false scope ρ').bnd fun r=>.ok (some r) []) (.ok none []):D->Rs (Option (D×Nat)))=step at h
  obtain ⟨c1,c2,c3⟩:=rZ h hp
  refine ⟨_,c2,fun cl C s H fp d hd=>?_⟩
  have G':=C8 (cl:=cl) (C:=C) (s:=s) (H:=H) (fp:=fp) G hc
  obtain ⟨x,lx,hx,px⟩:=c1 d hd
  have c3:=c3 hj d hd
  have hs:=congrFun hst d
  unfold pZ
  rw [hx]
  split at hs
  . rw [<- hs] at hx;cases hx
  . rename_i ρ' hb
    have gd:=mM G' hb
    have ext:∀x y,flt scope ρ x=some y->ρ' x=some y:=fun x y hxy=>xN hb x y (jx hxy).2 hxy
    have hx0:=hx
    rw [<- hs] at hx
    obtain ⟨b,l3,l4,h2,p3,hx,p4⟩:=aS hx px
    have ts:=(hB h2 p3 G').ts rfl
    cases b with
    | false =>
      cases hx
      exact ⟨ρ',false,gd,ext,ts,rfl⟩
    | true =>
      rw [cond_true] at hx
      obtain ⟨z,l5,l6,h3,p5,hx,p6⟩:=aS hx p4
      cases hx
      exact ⟨ρ',true,gd,ext,ts,rfl,((hE h3 p5 G').ed rfl).up (c3 z lx hx0) hj⟩
theorem tQ (I:Ih Φ n) {elt tg iter:Expr} {ifs:List Expr} {scope:Scope} {pos:Pos} (hs:sizeOf (Expr.ListComp elt [⟨tg,iter,ifs,0⟩] scope pos) < n+1) (h:aC Φ (.ListComp elt [⟨tg,iter,ifs,0⟩] scope pos) it sc ρ=.ok r l) (hp:aG l) (G:aW Φ X sc) :
  ∃ds f k,(ax ds=true\/k<=1)/\r.2<=1/\ds.length < sizeLine/\gx X.env scope (scope.names.map (·.1))/\(∀x d o,flt scope ρ x=some (d,o)->x∈scope.names.map (·.1))/\IE X ρ tg iter ds k /\
   (∀cl C s H fp,∀d∈ds,kW (j6 X scope cl C (scope.names.map (·.1)) s H fp) (flt scope ρ) tg ifs elt r.2 d (f d))/\(∀x,foldedSetIterable iter X.env x=pure x)/\r.1=.lst (ds.filterMap f):=by
 rw [oE] at h
 split at h
 ·rename_i hc
  obtain ⟨p,l1,l2,h1,p1,h,p2⟩:=aS h hp
  split at h
  ·rename_i ds hd
   split at h
   ·rename_i ht
    obtain ⟨u0,l7,l8,h7,p7,h,p8⟩:=aS h p2
    cases h7
    have hl:=And.intro p7.1 p7.2.1
    obtain ⟨q,l3,l4,h2,p3,h,p4⟩:=aS h p8
    split at h
    ·rename_i hj
     cases h
     obtain ⟨f,e1,t⟩:=Bi (fun a b c=>I.e elt (by first|omega | (simp at *;omega)) a b c) (fun a b c=>I.b .And ifs (by first|omega | (simp at *;omega)) a b c) hc G h2 p3 hj
     refine ⟨ds,f,p.2,hl.2,hj,Nat.lt_of_le_of_lt hl.1 pe,xy G hc,fun x d o hx=>mC (jx hx).2,(I.e iter (by first|omega | (simp at *;omega)) h1 p1 G).ie rfl tg ds hd ht,t,iC h1,by rw [e1]⟩
    ·cases h
   ·cases h
  ·cases h
 ·cases h
theorem ol {elt:Expr} {gens:List Comprehension} {scope:Scope} {pos:Pos} (h:aC Φ (.ListComp elt gens scope pos) it sc ρ=.ok r l):∃tg iter ifs,gens=[⟨tg,iter,ifs,0⟩]:=by
 match gens,h with
 | [⟨tg,iter,ifs,0⟩],h=>exact ⟨_,_,_,rfl⟩
 | [],h=>cases h
 | ⟨_,_,_,.ofNat (n+1)⟩::r,h=>cases r <;> cases h
 | ⟨_,_,_,.negSucc n⟩::_,h=>cases h
 | ⟨_,_,_,0⟩::_::_,h=>cases h
theorem J2 (I:Ih Φ n) (e:Expr) (hs:sizeOf e < n+1) (h:aC Φ e it sc ρ=.ok r l) (hp:aG l) (G:aW Φ X sc):fE X ρ e it r.1 r.2:=by
 cases e with
 | Constant c k p =>
  replace h:(match AX c with|some d=>.ok (d,0) [] | none=>.st:R1)=.ok r l:=h
  split at h
  ·rename_i d hc;cases h;exact cg (GM hc) (fun _=>rfl)
  ·cases h
 | Name x p=>exact BR h G
 | BinOp a op b p=>exact Eb I hs h hp G
 | UnaryOp op a p=>exact IM I hs h hp G
 | BoolOp op es p =>
  rw [oF] at h
  split at h
  ·cases h
  ·rename_i hne
   obtain ⟨b,l1,l2,h1,p1,h,p2⟩:=aS h hp
   cases h
   have ne:es≠[]:=fun z=>hne (by rw [z];rfl)
   have c:=I.b op es (bm (by simp <;> omega) hs) h1 p1 G
   exact .of (c.ed ne p) fun b' hb'=>by cases hb';exact fun ow=>(c.tw ne p ow).pt
 | Compare a ops bs p =>
  match ops,bs,hs,h with
  | [op],[b],hs,h=>exact Ea I hs h hp G
  | [],bs,_,h=>cases h
  | [op],[],_,h=>cases h
  | [op],_::_::_,_,h=>cases h
  | [op,op2],[b,c],hs,h=>exact yr I hs h hp G
  | [_,_],[],_,h=>cases h
  | [_,_],[_],_,h=>cases h
  | [_,_],_::_::_::_,_,h=>cases h
  | _::_::_::_,bs,_,h=>cases h
 | IfExp c a b p=>exact IN I hs h hp G
 | Tuple es k p =>
  obtain ⟨q,l1,l2,h1,p1,h,p2⟩:=aS (show Rs.bnd _ _=_ from h) hp
  split at h
  ·rename_i hl
   unfold mk at h;cases h
   exact cg (zp (I.es es (bm (by simp <;> omega) hs) h1 p1 G) hl) (fun _=>rfl)
  ·cases h
 | List es p =>
  obtain ⟨q,l1,l2,h1,p1,h,p2⟩:=aS (show Rs.bnd _ _=_ from h) hp
  split at h
  ·rename_i hl
   cases h
   exact cg (ux (I.es es (bm (by simp <;> omega) hs) h1 p1 G) hl.2 hl.1) (fun _=>rfl)
  ·cases h
 | Attribute a f p =>
  cases a with
  | Name x pn =>
   obtain ⟨q,l1,l2,h1,p1,h,p2⟩:=aS (show Rs.bnd _ _=_ from h) hp
   have hea:=(I.e (.Name x pn) (bm (by simp <;> omega) hs) (it:=false) h1 p1 G).ed rfl
   obtain ⟨d,kd⟩:=q
   unfold Gx at h
   dsimp only at h hea
   split at h
   ·rename_i n ns ds
    split at h
    ·rename_i hf
     split at h
     ·rename_i e hl
      cases h
      exact cg (GL G hf hea rfl hl) (fun _=>rfl)
     ·cases h
    ·cases h
   ·cases h
  | _=>cases h
 | Dict ks vs p =>
  match ks,vs,h with
  | [],[],h=>cases h
  | _::_,_,h=>cases h
  | [],_::_,h=>cases h
 | Subscript a i p=>exact D9 I hs h hp G
 | Call f args kws p =>
  cases f with
  | Name f fp =>
   cases kws with
   | nil=>exact yt I hs h hp G
   | cons _ _=>cases h
  | Attribute a m ap =>
   cases kws with
   | nil=>exact yv I hs h hp G
   | cons _ _=>cases h
  | _=>cases h
 | ListComp elt gens scope p =>
  obtain ⟨tg,iter,ifs,rfl⟩:=ol h
  obtain ⟨ds,f,k,a1,a2,a3,a4,a5,a6,a7,a8,a9⟩:=tQ I hs h hp G
  rw [a9]
  exact cg (Dr G.calm G.nd a1 a2 a3 a4 a5 a6 a7 a8) (fun _=>rfl)
 | _=>cases h
theorem GA (I:Ih Φ n) (es:List Expr) {r:List D×Nat} (hs:sizeOf es < n+1) (h:cf Φ es sc ρ=.ok r l) (hp:aG l) (G:aW Φ X sc):AD X ρ es r.1 r.2:=by
 cases es with
 | nil=>cases h;exact xR
 | cons e es =>
  obtain ⟨p,l1,l2,h1,p1,h,p2⟩:=aS (show Rs.bnd _ _=_ from h) hp
  obtain ⟨q,l3,l4,h2,p3,h,p4⟩:=aS h p2
  cases h
  exact je ((I.e e (bm (by simp <;> omega) hs) h1 p1 G).ed rfl) (I.es es (bm (by simp <;> omega) hs) h2 p3 G) (aV (mY h1))
theorem sA {b c:Bool} {r:Rs Bool} {l:List Prop} (h:v4 b r=.ok c l) (hp:aG l):(b=true/\∃m,r=.ok c m/\aG m)\/(b=false/\c=false):=by
 unfold v4 at h
 split at h
 ·rename_i c' m
  cases h
  cases b with
  | true=>exact .inl ⟨rfl,m,rfl,mN hp rfl⟩
  | false=>exact .inr ⟨rfl,rfl⟩
 ·cases b with
  | true=>cases h
  | false=>cases h;exact .inr ⟨rfl,rfl⟩
theorem t5 {b c:Bool} {r:Rs Bool} {l:List Prop} (h:AC b r=.ok c l) (hp:aG l):(b=false/\∃m,r=.ok c m/\aG m)\/(b=true/\c=true):=by
 unfold AC at h
 split at h
 ·rename_i c' m
  cases h
  cases b with
  | false=>exact .inl ⟨rfl,m,rfl,mN hp rfl⟩
  | true=>exact .inr ⟨rfl,rfl⟩
 ·cases b with
  | false=>cases h
  | true=>cases h;exact .inr ⟨rfl,rfl⟩
theorem GC (I:Ih Φ n) (op:BoolOp) (es:List Expr) {b:Bool} (hs:sizeOf es < n+1) (h:dW Φ op es sc ρ=.ok b l) (hp:aG l) (G:aW Φ X sc):eH X ρ op es b:=by
 cases es with
 | nil =>
  cases op with
  | And=>cases h;exact ⟨fun z=>absurd rfl z,fun z=>absurd rfl z,fun _=>wq⟩
  | Or=>cases h;exact ⟨fun z=>absurd rfl z,fun z=>absurd rfl z,fun z=>(by cases z)⟩
 | cons e es =>
  cases op with
  | And =>
   obtain ⟨p,l1,l2,h1,p1,h,p2⟩:=aS (show Rs.bnd _ _=_ from h) hp
   obtain ⟨b',hb,h⟩:=kT h
   have c:=I.e e (bm (by simp <;> omega) hs) h1 p1 G
   have ce:=c.ed rfl
   rw [hb] at ce
   have ct:=c.td rfl b' hb
   rcases sA h p2 with ⟨rfl,m,h,pm⟩ | ⟨rfl,rfl⟩
   ·cases es with
    | nil=>cases h;exact gn ce ct
    | cons e2 es=>exact tz ce ct (I.b .And (e2::es) (bm (by simp <;> omega) hs) h pm G)
   ·cases es with
    | nil=>exact gn ce ct
    | cons e2 es=>exact sk ce ct (fun pos=>⟨_,qO⟩) (fun pos=>⟨_,qK⟩)
  | Or =>
   obtain ⟨p,l1,l2,h1,p1,h,p2⟩:=aS (show Rs.bnd _ _=_ from h) hp
   obtain ⟨b',hb,h⟩:=kT h
   have c:=I.e e (bm (by simp <;> omega) hs) h1 p1 G
   have ce:=c.ed rfl
   rw [hb] at ce
   have ct:=c.td rfl b' hb
   rcases t5 h p2 with ⟨rfl,m,h,pm⟩ | ⟨rfl,rfl⟩
   ·cases es with
    | nil=>cases h;exact gn ce ct
    | cons e2 es=>exact vU ce ct (I.b .Or (e2::es) (bm (by simp <;> omega) hs) h pm G)
   ·cases es with
    | nil=>exact gn ce ct
    | cons e2 es=>exact tx ce ct (fun pos=>⟨_,qO⟩) (fun pos=>⟨_,qK⟩)
theorem GB (I:Ih Φ n) (e:Option Expr) {o:Option Int} (hs:sizeOf e < n+1) (h:pz Φ e sc ρ=.ok o l) (hp:aG l) (G:aW Φ X sc):OD X ρ e o:=by
 cases e with
 | none=>cases h;exact t8
 | some e =>
  obtain ⟨p,l1,l2,h1,p1,h,p2⟩:=aS (show Rs.bnd _ _=_ from h) hp
  have c:=(I.e e (bm (by simp <;> omega) hs) h1 p1 G).ed rfl
  split at h
  ·rename_i i hi
   cases h
   rw [hi] at c
   exact t7 c
  ·cases h
end
theorem hJ (Φ:Fx):∀n,Ih Φ n
 | 0=>⟨fun _ _ _ _ _ _ _ h=>absurd h (Nat.not_lt_zero _),fun _ _ _ _ _ _ h=>absurd h (Nat.not_lt_zero _),fun _ _ _ _ _ _ _ h=>absurd h (Nat.not_lt_zero _),fun _ _ _ _ _ _ h=>absurd h (Nat.not_lt_zero _)⟩
 | n+1=>⟨fun e _ _ _ _ _ _ hs h hp G=>J2 (hJ Φ n) e hs h hp G,fun e _ _ _ _ _ hs h hp G=>GA (hJ Φ n) e hs h hp G,fun op e _ _ _ _ _ hs h hp G=>GC (hJ Φ n) op e hs h hp G,fun e _ _ _ _ _ hs h hp G=>GB (hJ Φ n) e hs h hp G⟩
theorem J3 {Φ:Fx} (e:Expr) {it:Bool} {sc:Scope} {ρ:ak} {p:D×Nat} {l:List Prop} {X:Cx} (h:aC Φ e it sc ρ=.ok p l) (hp:aG l) (G:aW Φ X sc):fE X ρ e it p.1 p.2:=(hJ Φ _).e e (Nat.lt_succ_self _) h hp G
theorem gu {Φ:Fx} (es:List Expr) {sc:Scope} {ρ:ak} {p:List D×Nat} {l:List Prop} {X:Cx} (h:cf Φ es sc ρ=.ok p l) (hp:aG l) (G:aW Φ X sc):AD X ρ es p.1 p.2:=(hJ Φ _).es es (Nat.lt_succ_self _) h hp G
end Sp
namespace Sp
open PySem PySem.Spec PyProof.Rows L2
structure bi (ow:Ow) (H:Hp) (ow':Ow) (H':Hp):Prop where
 keep:∀a o,H a=some o->(nm o\/ow a=none)->H' a=some o
 low:∀a o,H a=some o->ow a=none->ow' a=none
theorem bi.refl (ow:Ow) (H:Hp):bi ow H ow H:=⟨fun _ _ h _=>h,fun _ _ _ h=>h⟩
theorem bi.same {ow:Ow} {H H':Hp} (s:aA H H'):bi ow H ow H':=⟨fun a o h _=>s a o h,fun _ _ _ h=>h⟩
theorem bi.trans {ow ow1 ow2:Ow} {H H1 H2:Hp} (a:bi ow H ow1 H1) (b:bi ow1 H1 ow2 H2):bi ow H ow2 H2 :=
 ⟨fun x o h c=>b.keep x o (a.keep x o h c) (c.imp id fun z=>a.low x o h z),fun x o h z=>b.low x o (a.keep x o h (.inr z)) (a.low x o h z)⟩
def dm (H0:Hp) (ow:Ow) (H:Hp):Prop:=∀a o,H0 a=some o->H a=some o/\ow a=none
theorem dm.keep {H0:Hp} {ow ow':Ow} {H H':Hp} (b:dm H0 ow H) (k:bi ow H ow' H'):dm H0 ow' H':=fun a o h=>let ⟨h1,h2⟩:=b a o h;⟨k.keep a o h1 (.inr h2),k.low a o h1 h2⟩
theorem dm.sm {H0:Hp} {ow:Ow} {H:Hp} (b:dm H0 ow H):aA H0 H:=fun a o h=>(b a o h).1
variable {X:Cx}
def lY (X:Cx) (H0:Hp) (ow:Ow) (H:Hp) (fl:Fl) (D:kz):Prop :=
 match fl with
 | .nx ρ => ∀ow' σ' H',aO X ow' H' σ' ρ->σ'.length=X.N.length->bi ow H ow' H'->D.nx σ' H'
 | .bk ρ => ∀ow' σ' H',aO X ow' H' σ' ρ->σ'.length=X.N.length->bi ow H ow' H'->D.bk σ' H'
 | .ct ρ => ∀ow' σ' H',aO X ow' H' σ' ρ->σ'.length=X.N.length->bi ow H ow' H'->D.ct σ' H'
 | .rt d => ∀v H',aA H0 H'->al X.K H' (fun a b=>b=true/\H0 a=none) d v->D.rt v H'
theorem lY.keep {H0:Hp} {ow ow':Ow} {H H':Hp} {fl:Fl} {D:kz} (p:lY X H0 ow H fl D) (k:bi ow H ow' H'):lY X H0 ow' H' fl D:=by
 cases fl with
 | nx ρ=>exact fun ow2 σ2 H2 a b c=>p ow2 σ2 H2 a b (k.trans c)
 | bk ρ=>exact fun ow2 σ2 H2 a b c=>p ow2 σ2 H2 a b (k.trans c)
 | ct ρ=>exact fun ow2 σ2 H2 a b c=>p ow2 σ2 H2 a b (k.trans c)
 | rt d=>exact p
def wu (X:Cx) (H0:Hp) (ρ:ak) (fl:Fl):TS:=fun D σ H => ∃ow,aO X ow H σ ρ/\σ.length=X.N.length/\dm H0 ow H/\lY X H0 ow H fl D
def SD (X:Cx) (H0:Hp) (ρ:ak) (st:Stmt) (fl:Fl):Prop:=PS X st (wu X H0 ρ fl)
def fC (X:Cx) (H0:Hp) (ρ:ak) (st:List Stmt) (fl:Fl):Prop:=fO X st (wu X H0 ρ fl)
theorem BT {H0:Hp} {ρ:ak}:fC X H0 ρ [] (.nx ρ):=fun pins s σ H D I ⟨ow,E,hl,B,q⟩=>nW pins s σ H D I (q ow σ H E hl (bi.refl _ _))
theorem jj {H0:Hp} {ρ ρ1:ak} {st:Stmt} {ss:List Stmt} {fl:Fl} (h1:SD X H0 ρ st (.nx ρ1)) (h2:fC X H0 ρ1 ss fl):fC X H0 ρ (st::ss) fl:=fun pins s σ H D I ⟨ow,E,hl,B,q⟩ =>
 fS h1 h2 pins s σ H D I ⟨ow,E,hl,B,fun ow' σ' H' E' hl' k=>⟨ow',E',hl',B.keep k,q.keep k⟩⟩
theorem ji {H0:Hp} {ρ:ak} {st:Stmt} {ss:List Stmt} {fl:Fl} (h1:SD X H0 ρ st fl) (hf:∀ρ',fl ≠ .nx ρ'):fC X H0 ρ (st::ss) fl:=fun pins s σ H D I ⟨ow,E,hl,B,q⟩ =>
 fS h1 ir pins s σ H D I ⟨ow,E,hl,B,by
  cases fl with
  | nx ρ'=>exact absurd rfl (hf ρ')
  | bk ρ'=>exact q
  | ct ρ'=>exact q
  | rt d=>exact q⟩
theorem wz {H0:Hp} {ρ:ak} {e:Expr} {pos:Pos} {d:D} {k:Nat} (h:ED X ρ e d k) (hk:k=0\/k=2):SD X H0 ρ (.Return (some e) pos) (.rt d):=fun pins s σ H D I ⟨ow,E,hl,B,q⟩ =>
 wC (h ow) pins s σ H D I ⟨E,fun v H1 s1 r1=>q v H1 (B.sm.trans s1) (r1.imp fun a b p=>by
  rcases hk with rfl|rfl
  ·exact ⟨p.1,B.sm.free p.2⟩
  ·refine ⟨p.1,p.2.elim (fun z=>?_) B.sm.free⟩
   cases e0:H0 a with
   | none=>rfl
   | some o=>exact absurd (B a o e0).2 z)⟩
theorem Di {ow:Ow} {H:Hp} {σ:L2.St} {ρ:ak} (E:aO X ow H σ ρ):aO X (fun _=>none) H σ (eT ρ):=by
 refine ⟨fun x d o h=>?_,fun a z=>absurd rfl z⟩
 unfold eT at h
 cases e:ρ x with
 | none=>rw [e] at h;cases h
 | some y =>
  rw [e] at h
  cases h
  obtain ⟨i,v,h1,h2,h3,h4⟩:=E.get x y.1 y.2 e
  exact ⟨i,v,h1,h2,h3,h4.imp fun _ _ _ _=>rfl⟩
theorem B9 {H0:Hp} {ρ:ak} {e:Expr} {pos:Pos} {d:D} {k:Nat} (h:ED X (eT ρ) e d k) (hk:k=0\/k=2):SD X H0 ρ (.Return (some e) pos) (.rt d):=fun pins s σ H D I ⟨ow,E,hl,B,q⟩ =>
 wC (h fun _=>none) pins s σ H D I ⟨Di E,fun v H1 s1 r1=>q v H1 (B.sm.trans s1) (r1.imp fun a b p=>by
  rcases hk with rfl|rfl
  ·exact ⟨p.1,B.sm.free p.2⟩
  ·exact ⟨p.1,p.2.elim (fun z=>absurd rfl z) B.sm.free⟩)⟩
theorem Ce {H0:Hp} {ρ:ak} {e:Expr} {pos:Pos} {d:D} {k:Nat} (h:ED X ρ e d k) (hc:∃f p args ks cp,e=.Call (.Name f p) args ks cp):SD X H0 ρ (.Expr e pos) (.nx ρ):=fun pins s σ H D I ⟨ow,E,hl,B,q⟩=>by
 obtain ⟨f,p,args,ks,cp,rfl⟩:=hc
 exact iV (h ow) rfl pins s σ H D I ⟨E,fun v H1 s1 r1=>q ow σ H1 (E.same s1) hl (bi.same s1)⟩
theorem BZ {H0:Hp} {ρ:ak} {pos:Pos}:SD X H0 ρ (.Return none pos) (.rt .non):=fun pins s σ H D I ⟨ow,E,hl,B,q⟩=>Cj pins s σ H D I (q .non H B.sm (by rw [al]))
theorem Ca {H0:Hp} {ρ:ak} {pos:Pos}:SD X H0 ρ (.Pass pos) (.nx ρ):=fun pins s σ H D I ⟨ow,E,hl,B,q⟩=>Ck pins s σ H D I (q ow σ H E hl (bi.refl _ _))
theorem yA {H0:Hp} {ρ:ak} {pos:Pos}:SD X H0 ρ (.Break pos) (.bk ρ):=fun pins s σ H D I ⟨ow,E,hl,B,q⟩=>yF pins s σ H D I (q ow σ H E hl (bi.refl _ _))
theorem Cf {H0:Hp} {ρ:ak} {pos:Pos}:SD X H0 ρ (.Continue pos) (.ct ρ):=fun pins s σ H D I ⟨ow,E,hl,B,q⟩=>sU pins s σ H D I (q ow σ H E hl (bi.refl _ _))
theorem Au {H0:Hp} {ρ:ak} {c:Expr} {a b:List Stmt} {pos:Pos} {t:Bool} {fl:Fl} (hc:TD X ρ c t) (h:if t=true then fC X H0 ρ a fl else fC X H0 ρ b fl):SD X H0 ρ (.If c a b pos) fl:=by
 cases t with
 | true =>
  intro pins s σ H D I ⟨ow,E,hl,B,q⟩
  exact u9 (hc ow) h ir pins s σ H D I ⟨E,fun H1 s1=>by
   show if true=true then _ else _
   rw [if_pos rfl]
   exact ⟨ow,E.same s1,hl,B.keep (bi.same s1),q.keep (bi.same s1)⟩⟩
 | false =>
  intro pins s σ H D I ⟨ow,E,hl,B,q⟩
  exact u9 (hc ow) ir h pins s σ H D I ⟨E,fun H1 s1=>by
   show if false=true then _ else _
   rw [if_neg Bool.false_ne_true]
   exact ⟨ow,E.same s1,hl,B.keep (bi.same s1),q.keep (bi.same s1)⟩⟩
theorem oH {ow:Ow} {H H1:Hp} {σ:L2.St} {ρ:ak} {x:Str} {d:D} {v:V} {i:Nat} (hN:X.N.Nodup) (hl:σ.length=X.N.length) (E:aO X ow H σ ρ) (sm:aA H H1) (hi:X.N[i]?=some x) (hv:fB X.env.scope x) (r:al X.K H1 (Kp ow H 0) d v) :
  ∃ow',aO X ow' H1 (σ.set i (some v)) (bI ρ x (d,true))/\bi ow H ow' H1:=by
 classical
 let ow':Ow:=fun a=>if H a=none/\∃o,H1 a=some o then some (some x) else ow a
 have o1:∀a o,H a=some o->ow' a=ow a:=fun a o h=>if_neg (fun z=>by rw [h] at z;cases z.1)
 have E1:aO X ow' H1 σ ρ:=⟨fun y e o h=>by
  obtain ⟨j,w,e1,e2,e3,e4⟩:=E.get y e o h
  refine ⟨j,w,e1,e2,e3,al.same sm (e4.impH (fun a ob ha p=>?_) fun a p=>?_)⟩
  ·cases o with
   | true=>exact ⟨p.1,(o1 a ob ha).trans p.2⟩
   | false=>exact fun z=>(o1 a ob ha).trans (p z)
  ·cases o with
   | true=>cases p.1
   | false=>exact fun z=>(by cases z),fun a ha=>by
  by_cases hz:H a=none/\∃o,H1 a=some o
  ·exact hz.2
  ·have:ow' a=ow a:=if_neg hz
   rw [this] at ha
   exact (E.own.same sm) a ha⟩
 refine ⟨ow',dX hN hl E1 hi hv (r.impH (fun a o ha p=>⟨rfl,if_pos ⟨p.2,o,ha⟩⟩) fun a p=>(by cases p.1)),fun a o h _=>sm a o h,fun a o h z=>(o1 a o h).trans z⟩
theorem gc {e:Expr} {t:Option Expr} {n:Nat} {env:Env} (h:gZ e=false):swapsWith e t n env=pure false:=by
 cases e <;> first|rfl|cases h
theorem jQ {Φ:Fx} {sc:Scope} {H0:Hp} {ρ:ak} {e:Expr} {x:Str} {p pos:Pos} {d:D} {k:Nat} {o:Bool} (G:aW Φ X sc) (hx:c9 sc x=true) (h:ED X ρ e d k) (ho:(k=0/\o=true)\/(k=1/\o=false)) (hs:swapsWith e (some (.Name x p)) pos.line X.env=pure false) :
  SD X H0 ρ (.Assign [.Name x p] e pos) (.nx (bI ρ x (d,o))):=by
 obtain ⟨g1,g2,g3,i,g4⟩:=eR G hx
 intro pins s σ H D I ⟨ow,E,hl,B,q⟩
 refine EH (i:=i) G.nd g4 g1 (h ow) hs g3 pins s σ H D I ⟨E,fun v H1 s1 r1=>?_⟩
 show D.nx (σ.set i (some v)) H1
 rcases ho with ⟨rfl,rfl⟩ | ⟨rfl,rfl⟩
 ·obtain ⟨ow',E',k'⟩:=oH G.nd hl E s1 g4 g2 r1
  exact q ow' _ H1 E' (by rw [List.length_set];exact hl) k'
 ·exact q ow _ H1 (dX G.nd hl (E.same s1) g4 g2 r1) (by rw [List.length_set];exact hl) (bi.same s1)
theorem gq {e:Expr} {es:List Expr} {n k:Nat} {p:Pos} {env:Env}:swapsWithSole [.Tuple es n p] e k env=pure false:=by
 cases e <;> rfl
theorem oX {e a i:Expr} {k:Nat} {p:Pos} {env:Env}:swapsWithSole [.Subscript a i p] e k env=pure false:=by
 cases e <;> rfl
def O9 (K:W.Frag) (n:Nat) (t:nD):TG:=fun v σ H Q => ∃a xs,v=.ref a/\cq K H a xs/\xs.length=n/\t xs σ H Q
theorem EU {es:List Expr} {k:Nat} {t:nD} {n:Nat} {pos:Pos} (hc:X.calm=true) (h:uG X es t)
  (hn:(assignEach es X.env).length=n) (hst:(assignEach es X.env).findIdx? (·.1)=none):PG X (.Tuple es k pos) (O9 X.K n t):=by
 intro pins s σ H v u Q I r hw
 obtain ⟨a,xs,e1,hq,hl,hw⟩:=hw
 subst e1
 cases r
 obtain ⟨its,rv,pl,hz⟩:=I.list hq
 have hsz:(assignEach es X.env).length=its.toArray.size:=by simp [hn,<- hl,rv.length]
 rw [assign_Tuple]
 refine wpAny_bind (wpAny_standAt ?_)
 unfold unpack
 rw [hst,hsz]
 refine wpAny_bind (wpAny_holding (W.kun_itemsOf (I.ok.hd hc) pl.isList fun h' hx=>?_))
 have I1:Inv X pins σ H { s with heap:=h' }:=I.kept (t':=s.toks) fun b o e=>hx b o (Nat.ne_of_lt (Heap.lt_size e)) e
 exact h pins _ σ H xs _ Q I1 (by simpa using rv) hw
theorem mm {ow:Ow} {H H1:Hp} {ds:List D} {vs:List V} {k:Nat} (o:fb ow H) (hf:ax ds=true\/k<=1) (r:ai X.K H1 (Kp ow H k) ds vs):ai X.K H1 (fun a b=>b=true->ow a=none) ds vs:=by
 rcases hf with hf|hf
 ·exact r.flat _ hf
 ·exact r.imp fun a b p hb=>by subst hb;exact fA o hf p
theorem kD {Φ:Fx} {sc:Scope} {es:List Expr} {e:Expr} {n:Nat} {p:Pos} (G:aW Φ X sc) (ht:lr sc es e=false):swappedStores [.Tuple es n p] e X.env=pure none:=by
 unfold lr at ht
 cases hte:gt e with
 | false=>cases e <;> first|rfl|cases hte
 | true =>
  rw [hte] at ht
  have hc:sj sc es e=true:=by simpa using ht
  unfold sj at hc
  split at hc
  ·rename_i x px y py a b m q
   have k1:X.env.kindOf x=some .cell:=G.cc x (by simpa using hc)
   unfold swappedStores
   dsimp only
   split
   ·rfl
   ·split
    ·rfl
    ·rw [if_pos]
     rw [List.filterMap_cons_none (by simp [k1])]
     have:∀l:List Str,l.length<=1->(l.length != [Expr.Name x px,Expr.Name y py].length || l.eraseDups.length != l.length)=true:=fun l hl=>by
      have:(l.length != [Expr.Name x px,Expr.Name y py].length)=true:=by simp;omega
      rw [this];rfl
     exact this _ (Nat.le_trans (List.length_filterMap_le _ _) (Nat.le_refl _))
  ·cases hc
theorem Eo {Φ:Fx} {sc:Scope} {H0:Hp} {ρ ρ':ak} {es:List Expr} {e:Expr} {n:Nat} {p pos:Pos} {d:D} {ds:List D} {k:Nat} (G:aW Φ X sc) (h:ED X ρ e d k) (hd:eY d=some ds) (hf:ax ds=true\/k<=1) (hb:aY sc es ds ρ=some ρ') (ht:lr sc es e=false) :
  SD X H0 ρ (.Assign [.Tuple es n p] e pos) (.nx ρ'):=by
 obtain ⟨t,h1,h2,h3,h4⟩:=jW G hb
 intro pins s σ H D I ⟨ow,E,hl,B,q⟩
 have fin:∀H1 vs,aA H H1->ai X.K H1 (Kp ow H k) ds vs->t vs σ H1 D.nx:=fun H1 vs s1 rl=>h4 ow vs σ H1 D.nx hl (E.same s1) (mm E.own hf rl) fun σ' hl' E'=>q ow σ' H1 E' hl' (bi.same s1)
 rcases fu hd with rfl|rfl
 ·refine iW (h ow) (mq (n:=_) G.calm h1 h2 h3) gq (kD G ht) rfl pins s σ H D I ⟨E,fun v H1 s1 r1=>?_⟩
  obtain ⟨a,vs,rfl,hs,rl⟩:=eD r1
  exact ⟨a,vs,rfl,hs,rl.length.symm,fin H1 vs s1 rl⟩
 ·refine iW (h ow) (EU (n:=_) G.calm h1 h2 h3) gq (kD G ht) rfl pins s σ H D I ⟨E,fun v H1 s1 r1=>?_⟩
  obtain ⟨a,vs,rfl,hs,rl⟩:=ge r1
  exact ⟨a,vs,rfl,hs,rl.length.symm,fin H1 vs s1 rl⟩
theorem Jc {K:W.Frag} {H:Hp} {P:bz} {a b:D} {vs:List V} (h:ai K H P [a,b] vs):∃x y,vs=[x,y]/\al K H P a x/\al K H P b y:=by
 rw [ai] at h
 obtain ⟨x,r,rfl,h1,h⟩:=h
 rw [ai] at h
 obtain ⟨y,r,rfl,h2,h⟩:=h
 rw [ai] at h
 subst h
 exact ⟨x,y,rfl,h1,h2⟩
theorem Cb {Φ:Fx} {sc:Scope} {H0:Hp} {ρ:ak} {es:List Expr} {e:Expr} {n:Nat} {pt pos:Pos} {p:D×Nat} (G:aW Φ X sc) (h:ED X ρ e p.1 p.2) (ho:qR sc es p=true) (ht:lr sc es e=false) :
  SD X H0 ρ (.Assign [.Tuple es n pt] e pos) (.nx (u8 es p ρ)):=by
 obtain ⟨d,k⟩:=p
 unfold qR at ho
 split at ho
 ·rename_i x px y py d1 d2 e0 e1
  have e0:d=_:=e0
  have e1:k=_:=e1
  subst e0 e1
  simp only [Bool.and_eq_true,Bool.not_eq_true',decide_eq_false_iff_not] at ho
  obtain ⟨⟨⟨⟨f1,_⟩,hxy⟩,hx⟩,hy⟩:=ho
  obtain ⟨g1,g2,g3,i,g4⟩:=eR G hx
  obtain ⟨j1,j2,j3,j,j4⟩:=eR G hy
  have hij:i≠j:=fun z=>by subst z;rw [g4] at j4;exact hxy (Option.some.inj j4)
  intro pins s σ H D I ⟨ow,E,hl,B,q⟩
  refine iW (h ow) (mq (n:=2) G.calm (gW (fT (i:=i) G.nd g4 g1 g3) (gW (fT (i:=j) G.nd j4 j1 j3) nX rfl) rfl) rfl rfl) gq (kD G ht) rfl pins s σ H D I ⟨E,fun v H1 s1 r1=>?_⟩
  obtain ⟨a,vs,rfl,hs,rl⟩:=eD r1
  obtain ⟨v1,v2,rfl,r2,r3⟩:=Jc rl
  refine ⟨a,[v1,v2],rfl,hs,rfl,v1,[v2],rfl,v2,[],rfl,rfl,?_⟩
  obtain ⟨ow',E',k'⟩:=oH G.nd hl E s1 j4 j2 r3
  have hl':(σ.set j (some v2)).length=X.N.length:=by rw [List.length_set];exact hl
  have E2:=dX (o:=false) G.nd hl' E' g4 g2 (r2.flat _ f1)
  rw [List.set_comm _ _ hij]
  exact q ow' _ H1 E2 (by rw [List.length_set];exact hl') k'
 ·cases ho
theorem uT {sc:Scope} {Φ:Fx} {x y:Str} {px py p p2:Pos} {n n2:Nat} {a b:Expr} (G:aW Φ X sc) (hk:X.env.scope.kind=.function) (h:mr sc x y px py a b=true) (ha:∀x p,a ≠ .Starred x p) (hb:∀x p,b ≠ .Starred x p) :
  swappedStores [.Tuple [.Name x px,.Name y py] n p] (.Tuple [a,b] n2 p2) X.env=pure (some [x,y]):=by
 unfold mr at h
 simp only [Bool.and_eq_true,Bool.not_eq_true',beq_iff_eq,decide_eq_false_iff_not] at h
 obtain ⟨⟨⟨⟨⟨h1,h2⟩,h3⟩,h4⟩,h5⟩,h6⟩:=h
 have k1:X.env.kindOf x=some .local:=G.lc x h1
 have k2:X.env.kindOf y=some .local:=G.lc y h2
 have bk:X.env.blockKind=.function:=by unfold Env.blockKind;rw [hk];rfl
 have an:∀f:Expr->Bool,(∀e,(∀x p,e ≠ .Starred x p)->f e=false) -> ¬ ([a,b].any f=true):=fun f hf=>by simp [hf a ha,hf b hb]
 have fm:∀f:Expr->Option Str,f (.Name x px)=some x->f (.Name y py)=some y->[Expr.Name x px,Expr.Name y py].filterMap f=[x,y]:=fun f h1 h2=>by simp [h1,h2]
 have ed:[x,y].eraseDups=[x,y]:=by
  have e1:(!(y==x))=true:=by simp;exact fun z=>h4 z.symm
  rw [List.eraseDups_cons,List.filter_cons_of_pos (p:=fun b => !b==x) e1,List.filter_nil]
  rfl
 unfold swappedStores
 dsimp only
 rw [bk]
 refine (if_neg (by simp)).trans ?_
 refine (if_neg (an _ fun e he=>by cases e <;> first|rfl|exact absurd rfl (he _ _))).trans ?_
 rw [fm _ (by show (if (X.env.kindOf x==some NameKind.local&&px.line==px.line)=true then some x else none)=some x;rw [k1];simp) (by show (if (X.env.kindOf y==some NameKind.local&&py.line==px.line)=true then some y else none)=some y;rw [k2,h3];simp)]
 rw [ed]
 refine (if_neg (by simp)).trans ?_
 rw [h5,h6]
 rfl
theorem Ep {Φ:Fx} {sc:Scope} {H0:Hp} {ρ:ak} {a b:Expr} {x y:Str} {px py p p2 pos:Pos} {n n2:Nat} {u v:D} {k:Nat} (G:aW Φ X sc) (h:AD X ρ [a,b] [u,v] k) (hf:ax [u,v]=true\/k<=1) (hp:mr sc x y px py a b=true) (ha:∀x p,a ≠ .Starred x p) (hb:∀x p,b ≠ .Starred x p) :
  SD X H0 ρ (.Assign [.Tuple [.Name x px,.Name y py] n p] (.Tuple [a,b] n2 p2) pos) (.nx (bI (bI ρ x (u,false)) y (v,false))):=by
 have hp0:=hp
 unfold mr at hp
 simp only [Bool.and_eq_true,Bool.not_eq_true',beq_iff_eq,decide_eq_false_iff_not] at hp
 obtain ⟨⟨⟨⟨⟨l1,l2⟩,_⟩,hxy⟩,_⟩,_⟩:=hp
 obtain ⟨g1,g2,g3,i,g4⟩:=eR (x:=x) G (by unfold c9;rw [l1];rfl)
 obtain ⟨j1,j2,j3,j,j4⟩:=eR (x:=y) G (by unfold c9;rw [l2];rfl)
 have hij:i≠j:=by intro z;subst z;rw [g4] at j4;cases j4;exact hxy rfl
 intro pins s σ H D I ⟨ow,E,hl,B,q⟩
 refine EI (i:=i) (j:=j) G.calm G.nd g4 j4 hij (G.lc x l1) (G.lc y l2) (h ow) (uT G I.ok.kind hp0 ha hb) gq pins s σ H D I ⟨E,fun vs H1 s1 r1=>?_⟩
 have rs:=mm E.own hf r1
 rw [ai] at rs
 obtain ⟨v1,r,rfl,rv1,rs⟩:=rs
 obtain ⟨v2,rfl,rv2⟩:=rs.only
 refine ⟨v1,v2,rfl,?_⟩
 have E1:=dX (o:=false) G.nd hl (E.same s1) g4 g2 rv1
 have hl1:(σ.set i (some v1)).length=X.N.length:=by rw [List.length_set];exact hl
 exact q ow _ H1 (dX (o:=false) G.nd hl1 E1 j4 j2 rv2) (by rw [List.length_set];exact hl1) (bi.same s1)
theorem xw {ow:Ow} {H1:Hp} {σ:L2.St} {ρ:ak} {x:Str} {l':List D} {a:Addr} {vs vs':List V} {i:Nat} (E:aO X ow H1 σ ρ) (hi:X.N[i]?=some x) (hs:σ[i]?=some (some (.ref a)))
  (hv:fB X.env.scope x) (ha:H1 a=some (.lst vs)) (ho:ow a=some (some x)) (f:ax l'=true) (r:ai X.K H1 (fun _ _=>True) l' vs') :
  aO X ow (aN H1 a (.lst vs')) σ (bI ρ x (.lst l',true)):=by
 have st:∀{P:bz},(P a true->False)->dY P P H1 (aN H1 a (.lst vs')):=fun {P} h=>⟨fun b o hb hn=>by rw [ay (fun z=>by subst z;rw [ha] at hb;cases hb;exact hn)];exact hb,fun b ws hb p=>by rw [ay (fun z=>by subst z;exact h p)];exact hb,fun _ _ _ p=>p,fun _ p=>p⟩
 have r':ai X.K (aN H1 a (.lst vs')) (jp ow x true) l' vs':=ai.flat _ f ((r.flat (fun _ _=>False) f).mono (st fun z=>z))
 refine ⟨fun y e o h=>?_,fun b hb=>?_⟩
 ·rw [dO] at h
  by_cases hy:y=x
  ·subst hy
   rw [if_pos rfl] at h
   cases h
   exact ⟨i,.ref a,hi,hv,hs,by rw [al];exact ⟨a,vs',true,rfl,aH,⟨rfl,ho⟩,r'⟩⟩
  ·rw [if_neg hy] at h
   obtain ⟨j,w,e1,e2,e3,e4⟩:=E.get y e o h
   refine ⟨j,w,e1,e2,e3,e4.mono (st fun p=>?_)⟩
   cases o with
   | true=>have:=p.2;rw [ho] at this;cases this;exact hy rfl
   | false=>have:=p rfl;rw [ho] at this;cases this
 ·by_cases hz:b=a
  ·subst hz;exact ⟨_,aH⟩
  ·rw [ay hz];exact E.own b hb
theorem Fg {ow:Ow} {H:Hp} {σ:L2.St} {ρ:ak} {x:Str} {l:List D} (E:aO X ow H σ ρ) (h:ρ x=some (.lst l,true)):∃(i:Nat) (a:Addr) (vs:List V),X.N[i]?=some x/\fB X.env.scope x/\σ[i]?=some (some (.ref a))/\H a=some (.lst vs)/\ow a=some (some x)/\ai X.K H (fun _ _=>True) l vs:=by
 obtain ⟨i,v,e1,e2,e3,e4⟩:=E.get x _ _ h
 rw [al] at e4
 obtain ⟨a,vs,b,rfl,hl,hp,rl⟩:=e4
 cases hp.1
 exact ⟨i,a,vs,e1,e2,e3,hl,hp.2,rl.imp fun _ _ _=>True.intro⟩
theorem mG {ow:Ow} {H H1:Hp} {a:Addr} {vs vs':List V} {x:Str} (sm:aA H H1) (h0:H a=some (.lst vs)) (ho:ow a=some (some x)):bi ow H ow (aN H1 a (.lst vs')) :=
 ⟨fun b o h c=>by
  rw [ay (fun z=>by
   subst z
   rw [h0] at h;cases h
   rcases c with c|c
   ·exact c
   ·rw [ho] at c;cases c)]
  exact sm b o h,fun _ _ _ z=>z⟩
theorem jZ {pins:List (Addr×Obj)} {σ:L2.St} {H:Hp} {s:Shared} (I:Inv X pins σ H s) {a:Addr} {o:Obj} (h:X.K.lookup a=some o):H a=none:=(I.bs a o (I.ok.mod.kin a o h)).2
mutual
def D.lsz:D->Nat
 | .lst l=>1+iJ l
 | .tup l=>iJ l
 | _=>0
def iJ:List D->Nat
 | []=>0
 | d::l=>d.lsz+iJ l
end
theorem yQ {pins:List (Addr×Obj)} {σ:L2.St} {H:Hp} {s:Shared} (I:Inv X pins σ H s) {P:bz} {d:D} {a:Addr} {vs:List V} (ha:H a=some (.lst vs)) (h:al X.K H P d (.ref a)):∃l,d=.lst l:=by
 cases d with
 | lst l=>exact ⟨l,rfl⟩
 | tup l =>
  rw [al] at h
  obtain ⟨a',vs',e,hs,_⟩:=h
  cases e
  rcases hs with (q | ⟨o,q⟩) | ⟨o,its,n,q,_⟩
  ·rw [ha] at q;cases q
  ·rw [ha] at q;cases q
  ·rw [jZ I q] at ha;cases ha
 | dct _ _=>rw [al] at h;obtain ⟨_,_,a',_,e,hl,_⟩:=h;cases e;rw [ha] at hl;cases hl
 | sn m=>rw [al] at h;obtain ⟨a',S,e,hl⟩:=h;cases e;rw [ha] at hl;cases hl
 | obj n ns es=>rw [al] at h;obtain ⟨_,_,a',C,dx,vs',e,_,_,hl,_⟩:=h;cases e;rw [ha] at hl;cases hl
 | cls n=>rw [al] at h;obtain ⟨C,o',e,_,hl,_⟩:=h;cases e;rw [jZ I hl] at ha;cases ha
 | _=>rw [al] at h;cases h
theorem yn {pins:List (Addr×Obj)} {σ:L2.St} {H:Hp} {s:Shared} (I:Inv X pins σ H s) {P:bz} (hP:∀a b,P a b->b=true) {d:D} {a:Addr} {vs:List V} (ha:cm X.K H a vs) (h:al X.K H P d (.ref a)):∃l,d=.tup l/\ai X.K H P l vs:=by
 have no:∀o,H a=some o->(∀xs,o ≠ .tup xs)->(∀p q,o ≠ .frz p q)->False:=fun o e h1 h2=>by
  rcases ha with (q | ⟨o',q⟩) | ⟨o',its,n,q,_⟩
  ·rw [e] at q;cases q;exact h1 _ rfl
  ·rw [e] at q;cases q;exact h2 _ _ rfl
  ·rw [jZ I q] at e;cases e
 cases d with
 | lst l =>
  rw [al] at h
  obtain ⟨a',vs',b,e,hl,p,_⟩:=h
  cases e
  cases hP _ _ p
  exact (no _ hl (fun _ z=>nomatch z) fun _ _ z=>nomatch z).elim
 | tup l =>
  rw [al] at h
  obtain ⟨a',vs',e,hs,rl⟩:=h
  cases e
  have:=I.tuple_inj ha hs
  subst this
  exact ⟨l,rfl,rl⟩
 | dct _ _=>rw [al] at h;obtain ⟨_,_,a',_,e,hl,_⟩:=h;cases e;exact (no _ hl (fun _ z=>nomatch z) fun _ _ z=>nomatch z).elim
 | sn m=>rw [al] at h;obtain ⟨a',S,e,hl⟩:=h;cases e;exact (no _ hl (fun _ z=>nomatch z) fun _ _ z=>nomatch z).elim
 | obj n ns es=>rw [al] at h;obtain ⟨_,_,a',C,dx,vs',e,_,_,hl,_⟩:=h;cases e;exact (no _ hl (fun _ z=>nomatch z) fun _ _ z=>nomatch z).elim
 | cls n =>
  rw [al] at h
  obtain ⟨C,o',e,_,hl,ht,_⟩:=h
  cases e
  rcases ha with (q | ⟨o,q⟩) | ⟨o,its,n,q,hc,_⟩
  ·rw [jZ I hl] at q;cases q
  ·rw [jZ I hl] at q;cases q
  ·rw [hl] at q;cases q;rw [hc] at ht;injection ht with ht;exact absurd ht (by decide)
 | _=>rw [al] at h;cases h
mutual
theorem qI {pins:List (Addr×Obj)} {σ:L2.St} {H:Hp} {s:Shared} (I:Inv X pins σ H s) {P:bz} (hP:∀a b,P a b->b=true):∀(d d':D) (v:V),al X.K H P d v->al X.K H P d' v->d.lsz<=d'.lsz
 | .tup l,d',v,h,h'=>by
  rw [al] at h
  obtain ⟨a,vs,rfl,hs,rl⟩:=h
  obtain ⟨l',rfl,rl'⟩:=yn I hP hs h'
  rw [D.lsz,D.lsz];exact jT I hP l l' vs rl rl'
 | .lst l,d',v,h,h'=>by
  rw [al] at h
  obtain ⟨a,vs,b,rfl,hs,p,rl⟩:=h
  cases hP _ _ p
  replace hs:H a=some (.lst vs):=hs
  obtain ⟨l',rfl⟩:=yQ I hs h'
  rw [al] at h'
  obtain ⟨a',vs',b,e,hl,p',rl'⟩:=h'
  cases e
  cases hP _ _ p'
  replace hl:H a=some (.lst vs'):=hl
  rw [hs] at hl;cases hl
  rw [D.lsz,D.lsz]
  exact Nat.add_le_add_left (jT I hP l l' vs rl rl') 1
 | .non,_,_,_,_=>Nat.zero_le _
 | .bl _,_,_,_,_=>Nat.zero_le _
 | .int _,_,_,_,_=>Nat.zero_le _
 | .str _,_,_,_,_=>Nat.zero_le _
 | .dct _ _,_,_,_,_=>Nat.zero_le _
 | .typ _,_,_,_,_=>Nat.zero_le _
 | .sn _,_,_,_,_=>Nat.zero_le _
 | .obj _ _ _,_,_,_,_=>Nat.zero_le _
 | .cls _,_,_,_,_=>Nat.zero_le _
theorem jT {pins:List (Addr×Obj)} {σ:L2.St} {H:Hp} {s:Shared} (I:Inv X pins σ H s) {P:bz} (hP:∀a b,P a b->b=true):∀(l l':List D) (vs:List V),ai X.K H P l vs->ai X.K H P l' vs->iJ l<=iJ l'
 | [],l',vs,h,h'=>Nat.zero_le _
 | d::l,l',vs,h,h'=>by
  rw [ai] at h
  obtain ⟨v,r,rfl,h1,h2⟩:=h
  cases l' with
  | nil=>rw [ai] at h';cases h'
  | cons d' l' =>
   rw [ai] at h'
   obtain ⟨v',r',e,h1',h2'⟩:=h'
   cases e
   rw [iJ,iJ]
   exact Nat.add_le_add (qI I hP d d' v h1 h1') (jT I hP l l' r h2 h2')
end
mutual
theorem EA {pins:List (Addr×Obj)} {σ:L2.St} {H:Hp} {s:Shared} (I:Inv X pins σ H s) {P:bz} (hP:∀a b,P a b->b=true) {A:Addr} {l:List D} (hA:al X.K H P (.lst l) (.ref A)):∀(d:D) (v:V),d.lsz < (D.lst l).lsz->al X.K H P d v->al X.K H (fun a b=>P a b/\a≠A) d v
 | .tup m,v,hs,h=>by
  rw [al] at h ⊢
  obtain ⟨a,vs,e,h1,h2⟩:=h
  exact ⟨a,vs,e,h1,kG I hP hA m vs (by rw [D.lsz] at hs;exact hs) h2⟩
 | .lst m,v,hs,h=>by
  have h0:=h
  rw [al] at h ⊢
  obtain ⟨a,vs,b,e,h1,p,h2⟩:=h
  refine ⟨a,vs,b,e,h1,⟨p,fun z=>?_⟩,kG I hP hA m vs (by rw [D.lsz] at hs;omega) h2⟩
  subst e z
  have:=qI I hP _ _ _ hA h0
  exact absurd (Nat.lt_of_lt_of_le hs this) (Nat.lt_irrefl _)
 | .non,v,_,h=>by rw [al] at h ⊢;exact h
 | .bl _,v,_,h=>by rw [al] at h ⊢;exact h
 | .int _,v,_,h=>by rw [al] at h ⊢;exact h
 | .str _,v,_,h=>by rw [al] at h ⊢;exact h
 | .dct ks es,v,_,h=>by
  rw [al] at h ⊢
  obtain ⟨f,e0,a,vs,e,h1,p,r⟩:=h
  refine ⟨f,e0,a,vs,e,h1,⟨p,fun z=>?_⟩,r.flat _ f⟩
  subst z
  rw [al] at hA
  obtain ⟨a2,vs2,b,e2,hl,p2,_⟩:=hA
  cases e2
  cases hP _ _ p2
  replace hl:H a=some (.lst vs2):=hl
  rw [h1] at hl;cases hl
 | .typ _,v,_,h=>by rw [al] at h ⊢;exact h
 | .sn _,v,_,h=>by rw [al] at h ⊢;exact h
 | .obj n ns es,v,_,h=>h.flat _ rfl
 | .cls n,v,_,h=>h.flat _ rfl
theorem kG {pins:List (Addr×Obj)} {σ:L2.St} {H:Hp} {s:Shared} (I:Inv X pins σ H s) {P:bz} (hP:∀a b,P a b->b=true) {A:Addr} {l:List D} (hA:al X.K H P (.lst l) (.ref A)):∀(m:List D) (vs:List V),iJ m < (D.lst l).lsz->ai X.K H P m vs->ai X.K H (fun a b=>P a b/\a≠A) m vs
 | [],vs,_,h=>by rw [ai] at h ⊢;exact h
 | d::m,vs,hs,h=>by
  rw [ai] at h ⊢
  obtain ⟨v,r,e,h1,h2⟩:=h
  exact ⟨v,r,e,EA I hP hA d v (by rw [iJ] at hs;omega) h1,kG I hP hA m r (by rw [iJ] at hs;omega) h2⟩
end
theorem wK {pins:List (Addr×Obj)} {s:Shared} {ow:Ow} {H:Hp} {σ:L2.St} {ρ:ak} {x:Str} {l:List D} (I:Inv X pins σ H s) (E:aO X ow H σ ρ) (h:ρ x=some (.lst l,true)):∃(i:Nat) (a:Addr) (vs:List V),X.N[i]?=some x/\fB X.env.scope x/\σ[i]?=some (some (.ref a))/\H a=some (.lst vs)/\ow a=some (some x)/\ai X.K H (fun b c=>jp ow x true b c/\b≠a) l vs:=by
 obtain ⟨i,v,e1,e2,e3,e4⟩:=E.get x _ _ h
 have e5:=e4
 rw [al] at e4
 obtain ⟨a,vs,b,rfl,hl,hp,rl⟩:=e4
 cases hp.1
 exact ⟨i,a,vs,e1,e2,e3,hl,hp.2,kG I (fun _ _ p=>p.1) e5 l vs (by rw [D.lsz];omega) rl⟩
theorem Dg {ow:Ow} {H H1:Hp} {σ:L2.St} {ρ:ak} {x:Str} {l':List D} {a:Addr} {vs vs':List V} {i:Nat} (E:aO X ow H σ ρ) (sm:aA H H1) (hi:X.N[i]?=some x) (hs:σ[i]?=some (some (.ref a)))
  (hv:fB X.env.scope x) (h0:H a=some (.lst vs)) (ho:ow a=some (some x)) (r:ai X.K H1 (fun b c=>(jp ow x true b c/\b≠a)\/Kp ow H 0 b c) l' vs') :
  ∃ow',aO X ow' (aN H1 a (.lst vs')) σ (bI ρ x (.lst l',true))/\bi ow H ow' (aN H1 a (.lst vs')):=by
 classical
 let ow':Ow:=fun a=>if H a=none/\∃o,H1 a=some o then some (some x) else ow a
 have o1:∀a o,H a=some o->ow' a=ow a:=fun a o h=>if_neg (fun z=>by rw [h] at z;cases z.1)
 have ha:H1 a=some (.lst vs):=sm _ _ h0
 have ho':ow' a=some (some x):=(o1 a _ h0).trans ho
 have E1:aO X ow' H1 σ ρ:=⟨fun y e o h=>by
  obtain ⟨j,w,e1,e2,e3,e4⟩:=E.get y e o h
  refine ⟨j,w,e1,e2,e3,al.same sm (e4.impH (fun a ob ha p=>?_) fun a p=>?_)⟩
  ·cases o with
   | true=>exact ⟨p.1,(o1 a ob ha).trans p.2⟩
   | false=>exact fun z=>(o1 a ob ha).trans (p z)
  ·cases o with
   | true=>cases p.1
   | false=>exact fun z=>(by cases z),fun a ha=>by
  by_cases hz:H a=none/\∃o,H1 a=some o
  ·exact hz.2
  ·have:ow' a=ow a:=if_neg hz
   rw [this] at ha
   exact (E.own.same sm) a ha⟩
 have st:∀{P:bz},(P a true->False)->dY P P H1 (aN H1 a (.lst vs')):=fun {P} h=>⟨fun b o hb hn=>by rw [ay (fun z=>by subst z;rw [ha] at hb;cases hb;exact hn)];exact hb,fun b ws hb p=>by rw [ay (fun z=>by subst z;exact h p)];exact hb,fun _ _ _ p=>p,fun _ p=>p⟩
 have r1:ai X.K H1 (fun b c=>jp ow' x true b c/\b≠a) l' vs':=r.impH (fun b o hb p=>by
  rcases p with ⟨p,hne⟩ | p
  ·refine ⟨⟨rfl,?_⟩,hne⟩
   by_cases hz:H b=none/\∃o,H1 b=some o
   ·exact if_pos hz
   ·exact (if_neg hz).trans p.2
  ·exact ⟨⟨rfl,if_pos ⟨p.2,o,hb⟩⟩,fun z=>by subst z;rw [p.2] at h0;cases h0⟩) fun b p=>by
  rcases p with ⟨p,_⟩ | p
  ·cases p.1
  ·cases p.1
 have r':ai X.K (aN H1 a (.lst vs')) (jp ow' x true) l' vs':=(r1.mono (st fun z=>z.2 rfl)).imp fun _ _ p=>p.1
 refine ⟨ow',⟨fun y e o h=>?_,fun b hb=>?_⟩,fun b o h c=>?_,fun b o h z=>(o1 b o h).trans z⟩
 ·rw [dO] at h
  by_cases hy:y=x
  ·subst hy
   rw [if_pos rfl] at h
   cases h
   exact ⟨i,.ref a,hi,hv,hs,by rw [al];exact ⟨a,vs',true,rfl,aH,⟨rfl,ho'⟩,r'⟩⟩
  ·rw [if_neg hy] at h
   obtain ⟨j,w,e1,e2,e3,e4⟩:=E1.get y e o h
   refine ⟨j,w,e1,e2,e3,e4.mono (st fun p=>?_)⟩
   cases o with
   | true=>have:=p.2;rw [ho'] at this;cases this;exact hy rfl
   | false=>have:=p rfl;rw [ho'] at this;cases this
 ·by_cases hz:b=a
  ·subst hz;exact ⟨_,aH⟩
  ·rw [ay hz];exact E1.own b hb
 ·rw [ay (fun z=>by
   subst z
   rw [h0] at h;cases h
   rcases c with c|c
   ·exact c
   ·rw [ho] at c;cases c)]
  exact sm b o h
theorem mx {env:Env} {pos:Pos}:∀{es:List Expr},(∀e∈es,∀x p,e ≠ .Starred x p)->(backTo pos (starEach es env)).all (fun x => !x.1)=true
 | [],_=>rfl
 | e::es,h=>by
  have ih:=mx (env:=env) (es:=es) (pos:=pos) fun x hx=>h x (List.mem_cons_of_mem _ hx)
  have he:=h e List.mem_cons_self
  cases e <;> first|exact absurd rfl (he _ _) | exact ih
theorem Er {H0:Hp} {ρ:ak} {x m:Str} {M:List D->List D->Nat->Rs (List D)} {args:List Expr} {p1 ap cp p4:Pos} {l l' ds:List D} {k:Nat} {o:List Prop} (hcalm:X.calm=true) (hM:nH m M) (hx:ρ x=some (.lst l,true)) (h:AD X ρ args ds k) (hst:∀e∈args,∀y p,e ≠ .Starred y p) (hlen:args.length=ds.length)
  (hn:fe x=true) (hln:(ap.endLine==cp.line)=true) (hm:M l ds k=.ok l' o) (hp:aG o):SD X H0 ρ (.Expr (.Call (.Attribute (.Name x p1) m ap) args [] cp) p4) (.nx (bI ρ x (.lst l',true))):=by
 obtain ⟨id,r,sl,ty,mt,hr⟩:=hM X hcalm
 intro pins s σ H D I ⟨ow,E,hl,B,q⟩
 obtain ⟨i,a,vs,g1,g2,g3,g4,g5,g6⟩:=wK I E hx
 have pn:PE X (.Name x p1) (qu i):=gX g1 g2 (dk hn).1 (dk hn).2
 have fin:∀(H1:Hp) (ws:List V),aA H H1->ai X.K H1 (Kp ow H k) ds ws->r (.ref a) ws H1 fun _ H2=>D.nx σ H2:=fun H1 ws s1 r1 =>
  (hr ow H H1 l ds l' k o a vs ws hm hp).2 (fun b c=>(jp ow x true b c/\b≠a)\/Kp ow H 0 b c) _ (fun _ _ p=>.inr p) E.own s1 (s1 _ _ g4) ((g6.same s1).imp fun _ _ p=>.inl p) r1 fun vs' _ rv=>by
   obtain ⟨ow',E',k'⟩:=Dg E s1 g1 g3 g2 g4 g5 rv
   exact q ow' σ _ E' hl k'
 have few:ds.length < 29:=(hr ow H H l ds l' k o a vs vs hm hp).1
 cases args with
 | nil =>
  have e0:ds=[]:=List.length_eq_zero_iff.mp hlen.symm
  refine iV (Fc PySem.F.plainAttrs_list sl ty mt pn rfl hln) rfl pins s σ H D I ⟨_,g3,.inl ⟨rfl,_,cq.of g4⟩,?_⟩
  exact fin H [] (aA.refl _) (by rw [e0];exact ai.nil)
 | cons e es =>
  have hfew:((backTo cp (starEach (e::es) X.env)).all (fun x => !x.1)&&(backToKw cp (keywordEach [] X.env)).all (fun x=>x.1.isSome)&&decide ((e::es).length+([]:List Keyword).length+(if ([]:List Keyword).isEmpty then 0 else 1) < 30))=true:=by
   rw [mx hst,hlen]
   have:decide (ds.length+0+0 < 30)=true:=by simp;omega
   exact this
  refine iV (Jj PySem.F.plainAttrs_list sl ty mt pn (h ow) rfl hfew hln (aV (hst e List.mem_cons_self)) (bK fun x hx=>hst x (List.mem_cons_of_mem _ hx))) rfl pins s σ H D I ⟨_,g3,.inl ⟨rfl,_,cq.of g4⟩,E,fun ws H1 s1 r1=>?_⟩
  exact fin H1 ws s1 r1
theorem mD:∀{l:List D} {j:Nat} {d:D},ax l=true->d.lless=true->ax (l.set j d)=true
 | [],j,d,h,f=>by simp [ax]
 | x::l,0,d,h,f=>by
  rw [ax,Bool.and_eq_true] at h
  rw [List.set_cons_zero,ax,Bool.and_eq_true];exact ⟨f,h.2⟩
 | x::l,j+1,d,h,f=>by
  rw [ax,Bool.and_eq_true] at h
  rw [List.set_cons_succ,ax,Bool.and_eq_true];exact ⟨h.1,mD h.2 f⟩
theorem ai.set {K:W.Frag} {P:bz} {H:Hp} {d:D} {v:V} (r:al K H P d v):∀{l:List D} {vs:List V} (j:Nat),ai K H P l vs->ai K H P (l.set j d) (vs.set j v)
 | [],vs,j,h=>by rw [ai] at h;subst h;simp;exact ai.nil
 | x::l,vs,0,h=>by
  rw [ai] at h
  obtain ⟨w,u,rfl,h1,h2⟩:=h
  exact ai.cons r h2
 | x::l,vs,j+1,h=>by
  rw [ai] at h
  obtain ⟨w,u,rfl,h1,h2⟩:=h
  exact ai.cons h1 (ai.set r j h2)
theorem yz {H0:Hp} {ρ:ak} {x:Str} {e i:Expr} {p1 p2 pos:Pos} {l l':List D} {d:D} {j:Int} {k k2:Nat} (hx:ρ x=some (.lst l,true)) (h:ED X ρ e d k) (hi:ED X ρ i (.int j) k2) (f:ax l=true) (fd:d.lless=true) (hn:fe x=true) (hm:u4 l j d=some l') (hsl:∀a b c p,i ≠ .Slice a b c p) :
  SD X H0 ρ (.Assign [.Subscript (.Name x p1) i p2] e pos) (.nx (bI ρ x (.lst l',true))):=by
 unfold u4 at hm
 cases hj:ixN l.length j with
 | none=>rw [hj] at hm;cases hm
 | some n =>
  rw [hj] at hm;cases hm
  intro pins s σ H D I ⟨ow,E,hl,B,q⟩
  obtain ⟨ix,a,vs,g1,g2,g3,g4,g5,g6⟩:=Fg E hx
  have pn:PE X (.Name x p1) (qu ix):=gX g1 g2 (dk hn).1 (dk hn).2
  refine iW (h ow) (wG pn (hi ow) qE (fun v=>by cases i <;> first|rfl|exact absurd rfl (hsl _ _ _ _))) oX (by cases e <;> rfl) rfl pins s σ H D I ⟨E,fun v H1 s1 r1=>?_⟩
  refine ⟨_,g3,E.same s1,fun u H2 s2 r2=>?_⟩
  rw [al] at r2;subst r2
  have s12:=s1.trans s2
  refine ⟨a,vs,j,n,rfl,rfl,s12 _ _ g4,by rw [<- g6.length];exact hj,?_⟩
  exact q ow σ _ (xw (E.same s12) g1 g3 g2 (s12 _ _ g4) g5 (mD f fd) (ai.set ((r1.imp fun _ _ _=>True.intro).same s2) n (g6.same s12))) hl (mG s12 g4 g5)
def rSetD:v9:=fun o i v H Q => ∃p kvs k,o=.ref p/\i=kV k/\H p=some (.dK kvs)/\kvs.length < sizeLine/\Q (aN H p (.dK (yC kvs k v)))
theorem JR {op:Operator} {r:R2} (h:cV X (inplaceOp op) r):KH X op r:=h
theorem yZ:cV X (inplaceOp .Mult) (rI (fun i j=>bL i j) fun i j=>.int (i*j)):=qT fun _ _ _ _ _ _ _ hc q=>imul_int q (qX hc)
theorem xc:cV X (inplaceOp .FloorDiv) (rI (fun _ j=>eZ j) fun i j=>.int (i.fdiv j)):=qT fun i j _ _ _ _ _ hc q=>ifloordiv_int hc.1 q (.inl (PyProof.noPylong_of_log2 (by
 rcases Nat.eq_zero_or_pos j.natAbs with h1|hp
 ·exact absurd (by simpa using h1) hc.1
 ·exact (Nat.log2_lt (Nat.ne_of_gt hp)).mpr hc.2)))
theorem Et {Φ:Fx} {sc:Scope} {H0:Hp} {ρ:ak} {e:Expr} {x:Str} {p pos:Pos} {op:Operator} {a b:Int} {d:D} {k k2:Nat} {o:Bool} {l:List Prop} (G:aW Φ X sc) (hx:c9 sc x=true) (ha:ρ x=some (.int a,o)) (h:ED X ρ e (.int b) k) (hr:zN op a b=.ok (d,k2) l) (hp:aG l) :
  SD X H0 ρ (.AugAssign (.Name x p) op e pos) (.nx (bI ρ x (d,true))):=by
 obtain ⟨g1,g2,g3,i,g4⟩:=eR G hx
 obtain ⟨r,hr1,hr2⟩:∃r:R2,cV X (inplaceOp op) r/\d.lless=true/\∀H (Q:VK),(∀v,al X.K H (fun _ _=>False) d v->Q v H)->r (.int a) (.int b) H Q:=by
  unfold zN at hr
  split at hr
  ·cases hr;exact ⟨_,C2,rfl,fun H Q q=>⟨a,b,rfl,rfl,q _ (by rw [al])⟩⟩
  ·cases hr;exact ⟨_,CZ,rfl,fun H Q q=>⟨a,b,rfl,rfl,q _ (by rw [al])⟩⟩
  ·cases hr;exact ⟨_,yZ,rfl,fun H Q q=>⟨a,b,rfl,rfl,hp.1,q _ (by rw [al])⟩⟩
  ·cases hr;exact ⟨_,xc,rfl,fun H Q q=>⟨a,b,rfl,rfl,hp.1,q _ (by rw [al])⟩⟩
  ·cases hr
 intro pins s σ H D I ⟨ow,E,hl,B,q⟩
 obtain ⟨i2,v,e1,e2,e3,e4⟩:=E.get x _ _ ha
 rw [al] at e4;subst e4
 have hi:i2=i:=jr G.nd e1 g4
 subst hi
 refine EJ (i:=i2) G.nd g4 g1 (h ow) (JR hr1) g3 pins s σ H D I ⟨.int a,e3,E,fun v H1 s1 r1=>?_⟩
 rw [al] at r1;subst r1
 refine hr2.2 H1 _ fun w rw'=>?_
 exact q ow _ H1 (dX G.nd hl (E.same s1) g4 g2 (rw'.flat _ hr2.1)) (by rw [List.length_set];exact hl) (bi.same s1)
theorem vx:nH "append" oh:=fun X hc=>⟨"list.append", _,PySem.F.slot_list_append,PySem.F.type_list_append,o9,fun ow H0 H l ds l' j o a vs ws h hp=>by
 unfold oh at h
 split at h
 ·rename_i d
  cases h
  have c:=hp.1
  refine ⟨by simp,fun P Q hP oi sm ha rl rd q=>?_⟩
  obtain ⟨w,rfl,rw'⟩:=rd.only
  refine ⟨a,vs,w,rfl,rfl,ha,?_,q _ _ (rl.append (ai.one ?_))⟩
  ·rw [<- rl.length];exact Nat.lt_trans hp.2.1 pe
  ·rcases c with c|c
   ·exact rw'.flat _ c
   ·subst c;exact rw'.imp hP
 ·cases h⟩
theorem ai.rev {K:W.Frag} {P:bz} {H:Hp}:∀{l:List D} {vs:List V},ai K H P l vs->ai K H P l.reverse vs.reverse
 | [],vs,h=>by rw [ai] at h;subst h;exact ai.nil
 | d::l,vs,h=>by
  rw [ai] at h
  obtain ⟨v,r,rfl,h1,h2⟩:=h
  rw [List.reverse_cons,List.reverse_cons]
  exact (ai.rev h2).append (ai.one h1)
end Sp
namespace Sp
open PySem PySem.Spec PyProof.Rows L2
variable {X:Cx}
theorem lQ {ow:Ow} {H:Hp} {σ:L2.St} {ρ:ak} (x:Str) (E:aO X ow H σ ρ):∃ow',aO X ow' H σ (demX x ρ)/\bi ow H ow' H:=by
 classical
 unfold demX
 let ow':Ow:=fun a=>if ow a=some (some x) then none else ow a
 have o1:∀a,ow a=none->ow' a=none:=fun a h=>by show (if _ then _ else _)=_;split;rfl;exact h
 refine ⟨ow',⟨fun y e o h=>?_,fun a ha=>?_⟩,fun a o h _=>h,fun a o h z=>o1 a z⟩
 ·by_cases hy:y=x
  ·subst hy
   simp only [if_true] at h
   cases hd:ρ y with
   | none=>rw [hd] at h;cases h
   | some q =>
    obtain ⟨d,o'⟩:=q
    rw [hd] at h
    cases h
    obtain ⟨j,w,e1,e2,e3,e4⟩:=E.get y _ _ hd
    refine ⟨j,w,e1,e2,e3,e4.imp fun a b p z=>?_⟩
    cases o' with
    | true=>exact if_pos p.2
    | false=>exact o1 a (p z)
  ·simp only [if_neg hy] at h
   obtain ⟨j,w,e1,e2,e3,e4⟩:=E.get y e o h
   refine ⟨j,w,e1,e2,e3,e4.imp fun a b p=>?_⟩
   cases o with
   | true=>exact ⟨p.1,by show (if _ then _ else _)=_;rw [if_neg (fun z=>by rw [p.2] at z;cases z;exact hy rfl)];exact p.2⟩
   | false=>exact fun z=>o1 a (p z)
 ·refine E.own a fun z=>ha (o1 a z)
theorem Dv (x:Str) (ρ:ak):demA x ρ=ρ\/demA x ρ=demX x ρ:=by
 cases h:ρ x with
 | none=>exact .inl (funext fun y=>by unfold demA;split;(rename_i e;subst e;rw [h];rfl);rfl)
 | some p =>
  cases hl:p.1.lless with
  | true=>exact .inl (funext fun y=>by unfold demA;split;(rename_i e;subst e;rw [h];show some (p.1,p.2&&p.1.lless)=_;rw [hl,Bool.and_true]);rfl)
  | false=>exact .inr (funext fun y=>by unfold demA demX;split;(rename_i e;subst e;rw [h];show some (p.1,p.2&&p.1.lless)=_;rw [hl,Bool.and_false];rfl);rfl)
theorem jz:∀{es:List Expr} {ow:Ow} {H:Hp} {σ:L2.St} {ρ:ak},aO X ow H σ ρ->∃ow',aO X ow' H σ (demL es ρ)/\bi ow H ow' H
 | [],ow,H,σ,ρ,E=>⟨ow,E,bi.refl _ _⟩
 | e::es,ow,H,σ,ρ,E=>by
  have one:∀x,∃ow',aO X ow' H σ (demL es (demA x ρ))/\bi ow H ow' H:=fun x=>by
   rcases Dv x ρ with h|h
   ·rw [h];exact jz E
   ·rw [h]
    obtain ⟨ow1,E1,k1⟩:=lQ x E
    obtain ⟨ow2,E2,k2⟩:=jz (es:=es) E1
    exact ⟨ow2,E2,k1.trans k2⟩
  unfold demL
  split
  ·rename_i z;cases z
  ·rename_i z;cases z;exact one _
  ·rename_i z;cases z;exact one _
  ·rename_i z;cases z;exact jz E
theorem mZ {ow:Ow} {H:Hp} {σ:L2.St} {ρ:ak} {e:Expr} (E:aO X ow H σ ρ):∃ow',aO X ow' H σ (demote e ρ)/\bi ow H ow' H:=by
 unfold demote
 split
 ·exact lQ _ E
 ·exact lQ _ E
 ·exact jz E
 ·exact ⟨ow,E,bi.refl _ _⟩
def ag {α:Type} (r:Rs α) (a:α):Prop:=∃l,r=.ok a l/\aG l
theorem av {α β:Type} {r:Rs α} {f:α->Rs β} {b:β} (h:ag (r.bnd f) b):∃a,ag r a/\ag (f a) b:=by
 obtain ⟨l,h,hp⟩:=h
 obtain ⟨a,l1,l2,h1,p1,h2,p2⟩:=aS h hp
 exact ⟨a,⟨l1,h1,p1⟩,l2,h2,p2⟩
theorem au {α:Type} {a:α} (h:ag (.st) a):False:=by obtain ⟨l,h,_⟩:=h;cases h
theorem aL {α:Type} {a b:α} {l:List Prop} (h:ag (.ok a l) b):a=b:=by obtain ⟨m,h,_⟩:=h;cases h;rfl
theorem Es {H0:Hp} {ρ:ak} {tg iter:Expr} {body:List Stmt} {pos:Pos} {bind:D->ak->Option ak} {bodyF:ak->Rs Fl} {ds:List D} {k:Nat} {fl:Fl} (hp:PassesOwn (model X.prog X.w) X.A X.env X.xe) (hcalm:X.calm=true)
  (hi:IE X (demote iter ρ) tg iter ds k) (hk:k<=1) (hg:∀d ρ ρ',bind d ρ=some ρ'->GD X ρ tg d ρ') (hb:∀ρ fl,ag (bodyF ρ) fl->fC X H0 ρ body fl) (h:ag (de bind bodyF ds (demote iter ρ)) fl)
  (hs:∀x,foldedSetIterable iter X.env x=pure x):SD X H0 ρ (.For tg iter body [] pos) fl:=by
 intro pins s σ H D0 I ⟨ow0,E0,hl,B0,q0⟩
 obtain ⟨ow,E,k0⟩:=mZ (e:=iter) E0
 have B:=B0.keep k0
 have q:=q0.keep k0
 have pb:fO X body (fun D σ H => ∃ρ fl,ag (bodyF ρ) fl/\wu X H0 ρ fl D σ H):=fun pins s σ H D I ⟨ρ1,fl1,h1,h2⟩=>hb ρ1 fl1 h1 pins s σ H D I h2
 have pg:PG X tg (fun v σ H Q => ∃g:TG,PG X tg g/\g v σ H Q):=fun pins s σ H v u Q I r ⟨g,h1,h2⟩=>h1 pins s σ H v u Q I r h2
 refine qL hp hcalm (hi ow) pg pb hs pins s σ H D0 I ⟨E,fun J H1 s1 itd=>?_⟩
 refine ⟨fun i m σ' H'=>m=ds.length - i/\i<=ds.length/\∃ow' ρ',aO X ow' H' σ' ρ'/\σ'.length=X.N.length/\dm H0 ow' H'/\bi ow H1 ow' H'/\ag (de bind bodyF (ds.drop i) ρ') fl,
  ⟨ds.length,by simp,Nat.zero_le _,ow,_,E.same s1,hl,B.keep (bi.same s1),bi.refl _ _,h⟩,?_⟩
 rintro i m σ' H' ⟨rfl,hile,ow',ρ',E',hl',B',k',hf⟩
 have q':lY X H0 ow' H' fl D0:=q.keep ((bi.same s1).trans k')
 have st:dY (Kd ow H k H1) (Kd ow H k H1) H1 H':=⟨fun a o ha hn=>k'.keep a o ha (.inl hn),fun a vs ha p=>k'.keep a _ ha (.inr (fA E.own hk p.1)),fun _ _ _ p=>p,fun _ p=>p⟩
 have it:=itd i H' st
 by_cases hlt:i < ds.length
 ·obtain ⟨go,yl⟩:=it.1 ds[i] (List.getElem?_eq_getElem hlt)
  have hdrop:ds.drop i=ds[i]::ds.drop (i+1):=List.drop_eq_getElem_cons hlt
  rw [hdrop,de] at hf
  refine .inr ⟨go,fun σ2 H2=>i+1<=ds.length/\∃ow2 ρ2,aO X ow2 H2 σ2 ρ2/\σ2.length=X.N.length/\dm H0 ow2 H2/\bi ow H1 ow2 H2/\ag (de bind bodyF (ds.drop (i+1)) ρ2) fl,fun σ2 H2 n=>⟨ds.length - (i+1),by omega,rfl,n.1,n.2⟩,fun x H3 y3=>?_⟩
  obtain ⟨sm3,rx⟩:=yl x H3 y3
  cases hbd:bind ds[i] ρ' with
  | none=>rw [hbd] at hf;exact (au hf).elim
  | some ρ1 =>
   rw [hbd] at hf
   dsimp only at hf
   obtain ⟨g,g1,g2⟩:=hg _ _ _ hbd
   have rx':al X.K H3 (fun a b=>b=true->ow' a=none) ds[i] x:=rx.impH (fun a o ha p _=>by
    obtain ⟨o1,h1⟩:=p.2 rfl
    exact k'.low a o1 h1 (fA E.own hk p.1)) fun a _ z=>(by cases z)
   refine ⟨g,g1,g2 ow' x σ' H3 _ hl' (E'.same sm3) rx' fun σ2 hl2 E2=>?_⟩
   have k3:bi ow' H' ow' H3:=bi.same sm3
   obtain ⟨f1,hbo,hf⟩:=av hf
   refine ⟨ρ1,f1,hbo,ow',E2,hl2,B'.keep k3,?_⟩
   cases f1 with
   | nx ρ2=>exact fun ow2 σ3 H4 a b c=>⟨hlt,ow2,ρ2,a,b,(B'.keep k3).keep c,k'.trans (k3.trans c),hf⟩
   | ct ρ2=>exact fun ow2 σ3 H4 a b c=>⟨hlt,ow2,ρ2,a,b,(B'.keep k3).keep c,k'.trans (k3.trans c),hf⟩
   | bk ρ2=>cases aL hf;exact fun ow2 σ3 H4 a b c=>q' ow2 σ3 H4 a b (k3.trans c)
   | rt d=>cases aL hf;exact q'
 ·have ei:i=ds.length:=by omega
  subst ei
  rw [List.drop_length,de] at hf
  cases aL hf
  exact .inl ⟨it.2 (Nat.le_refl _),q' ow' σ' H' E' hl' (bi.refl _ _)⟩
theorem yy {H0:Hp} {c:Expr} {body:List Stmt} {pos:Pos} {test:ak->Rs Bool} {bodyF:ak->Rs Fl} {fl:Fl} (hp:PassesOwn (model X.prog X.w) X.A X.env X.xe)
  (hc:∀ρ b,ag (test ρ) b->TD X ρ c b) (hb:∀ρ fl,ag (bodyF ρ) fl->fC X H0 ρ body fl) {n0:Nat} {ρ0:ak} (h:ag (ln test bodyF n0 ρ0) fl):SD X H0 ρ0 (.While c body [] pos) fl:=by
 intro pins s σ H D0 I ⟨ow,E,hl,B,q⟩
 have pc:PT X c (fun σ H Q => ∃ow ρ b,ag (test ρ) b/\An X ow ρ b σ H Q):=fun pins s σ H Q I ⟨ow,ρ,b,h1,h2⟩=>hc ρ b h1 ow pins s σ H Q I h2
 have pb:fO X body (fun D σ H => ∃ρ fl,ag (bodyF ρ) fl/\wu X H0 ρ fl D σ H):=fun pins s σ H D I ⟨ρ1,fl1,h1,h2⟩=>hb ρ1 fl1 h1 pins s σ H D I h2
 refine yE hp pc pb pins s σ H D0 I ?_
 refine ⟨fun m σ' H' => ∃ow' ρ',aO X ow' H' σ' ρ'/\σ'.length=X.N.length/\dm H0 ow' H'/\bi ow H ow' H'/\ag (ln test bodyF m ρ') fl,⟨n0,ow,ρ0,E,hl,B,bi.refl _ _,h⟩,?_⟩
 rintro m σ' H' ⟨ow',ρ',E',hl',B',k',hw⟩
 have q':lY X H0 ow' H' fl D0:=q.keep k'
 cases m with
 | zero=>exact (au hw).elim
 | succ m =>
  rw [ln] at hw
  obtain ⟨b,ht,hw⟩:=av hw
  refine ⟨ow',ρ',b,ht,E',fun H1 s1=>?_⟩
  have k1:bi ow' H' ow' H1:=bi.same s1
  cases b with
  | false =>
   cases aL hw
   exact q' ow' σ' H1 (E'.same s1) hl' k1
  | true =>
   rw [cond_true] at hw
   show if true=true then _ else _
   rw [if_pos rfl]
   refine ⟨fun σ2 H2 => ∃ow2 ρ2,aO X ow2 H2 σ2 ρ2/\σ2.length=X.N.length/\dm H0 ow2 H2/\bi ow H ow2 H2/\ag (ln test bodyF m ρ2) fl,fun σ2 H2 z=>⟨m,Nat.lt_succ_self _,z⟩,?_⟩
   obtain ⟨f1,hbo,hw⟩:=av hw
   refine ⟨ρ',f1,hbo,ow',E'.same s1,hl',B'.keep k1,?_⟩
   cases f1 with
   | nx ρ2=>exact fun ow2 σ3 H4 a b c=>⟨ow2,ρ2,a,b,(B'.keep k1).keep c,k'.trans (k1.trans c),hw⟩
   | ct ρ2=>exact fun ow2 σ3 H4 a b c=>⟨ow2,ρ2,a,b,(B'.keep k1).keep c,k'.trans (k1.trans c),hw⟩
   | bk ρ2=>cases aL hw;exact fun ow2 σ3 H4 a b c=>q' ow2 σ3 H4 a b (k1.trans c)
   | rt d=>cases aL hw;exact q'
theorem cD {Φ:Fx} {e:Expr} {it:Bool} {sc:Scope} {ρ:ak} {p:D×Nat} {X:Cx} (h:ag (aC Φ e it sc ρ) p) (G:aW Φ X sc):fE X ρ e it p.1 p.2:=let ⟨_,h,hp⟩:=h;J3 e h hp G
theorem xb {e:Expr} (h:gZ e=true):(∃a b c d,e=.ListComp a b c d)\/∀(Φ:Fx) (sc:Scope) (ρ:ak),aC Φ e false sc ρ=.st:=by
 cases e <;> first|exact .inl ⟨_,_,_,_,rfl⟩ | exact .inr fun _ _ _=>rfl|cases h
theorem o3 {Φ:Fx} {sc:Scope} {H0:Hp} {ρ:ak} {e:Expr} {x:Str} {p pos:Pos} {r:D×Nat} {o:Bool} (G:aW Φ X sc) (hx:c9 sc x=true) (h:ag (aC Φ e false sc ρ) r) (ho:(r.2=0/\o=true)\/(r.2=1/\o=false)) :
  SD X H0 ρ (.Assign [.Name x p] e pos) (.nx (bI ρ x (r.1,o))):=by
 by_cases hc:gZ e=true
 ·rcases xb hc with ⟨elt,gens,scope,q,rfl⟩ | hno
  rotate_left
  ·rw [hno] at h;exact (au h).elim
  ·clear hc
   have hsw:∃b,swapsWith (.ListComp elt gens scope q) (some (.Name x p)) pos.line X.env=pure b:=⟨_,rfl⟩
   obtain ⟨b,hsw⟩:=hsw
   cases b with
   | false=>exact jQ G hx ((cD h G).ed rfl) ho hsw
   | true =>
    obtain ⟨l,h,hp⟩:=h
    obtain ⟨tg,iter,ifs,rfl⟩:=ol h
    obtain ⟨ds,f,k1,a1,a2,a3,a4,a5,a6,a7,a8,a9⟩:=tQ (hJ Φ _) (Nat.lt_succ_self _) h hp G
    obtain ⟨g1,g2,g3,i,g4⟩:=eR G hx
    rw [a9]
    intro pins s σ H D0 I ⟨ow,E,hl,B,q⟩
    refine Cl (D0:=D0) (i:=i) G.calm G.nd a1 a2 a3 a4 a5 a6 a7 a8 I E hsw g4 g1 g3 fun v H1 s1 r1=>?_
    rcases ho with ⟨ho,rfl⟩ | ⟨ho,rfl⟩ <;> rw [ho] at r1
    ·obtain ⟨ow',E',k'⟩:=oH G.nd hl E s1 g4 g2 r1
     exact q ow' _ H1 E' (by rw [List.length_set];exact hl) k'
    ·exact q ow _ H1 (dX G.nd hl (E.same s1) g4 g2 r1) (by rw [List.length_set];exact hl) (bi.same s1)
 ·exact jQ G hx ((cD h G).ed rfl) ho (gc (by simpa using hc))
theorem tm {Φ:Fx} {e:Expr} {it:Bool} {sc:Scope} {ρ:ak} {r:D×Nat} (h:ag (aC Φ e it sc ρ) r):∀a b c p,e ≠ .Slice a b c p:=by
 intro a b c p z;subst z;exact (au h).elim
theorem qQ {ρ:ak} {x:Str} {f:List D->Rs Fl} {fl:Fl} (h:ag (vh ρ x f) fl):∃l,ρ x=some (.lst l,true)/\fe x=true/\ag (f l) fl:=by
 unfold vh at h
 split at h
 ·rename_i l e
  split at h
  ·rename_i c
   exact ⟨l,e,c,h⟩
  ·exact (au h).elim
 ·exact (au h).elim
theorem fU {α:Type} {a b:α} {l:List Prop} (h:ag (.ok a l) b):a=b/\aG l:=by obtain ⟨m,h,hp⟩:=h;cases h;exact ⟨rfl,hp⟩
theorem qy {ρ:ak} {x:Str} {i d:D} {fl:Fl} (h:ag (uU ρ x i d) fl):(∃l j l',ρ x=some (.lst l,true)/\ax l=true/\fe x=true/\i=.int j/\u4 l j d=some l'/\d.lless=true/\fl=.nx (bI ρ x (.lst l',true)))\/False:=by
 unfold uU at h
 split at h
 ·rename_i l e
  split at h
  ·split at h
   ·rename_i hn
    split at h
    ·rename_i l' hs
     obtain ⟨h9,h1,h2,_⟩:=fU h
     exact .inl ⟨l,_,l',e,h1,hn,rfl,hs,h2,h9.symm⟩
    ·exact (au h).elim
   ·exact (au h).elim
  ·exact (au h).elim
 ·exact (au h).elim
 ·exact (au h).elim
theorem Fd {Φ:Fx} {es:List Expr} {e:Expr} {n:Nat} {p pos:Pos} {sc:Scope} {ρ:ak} {fl:Fl} {X:Cx} {H0:Hp} (h:ag (kM Φ es e sc ρ) fl) (G:aW Φ X sc):SD X H0 ρ (.Assign [.Tuple es n p] e pos) fl:=by
 unfold kM at h
 split at h
 ·split at h
  ·rename_i hp
   obtain ⟨q,⟨lq,h1,hq⟩,h⟩:=av h
   split at h
   ·rename_i u v hd
    split at h
    ·rename_i hf
     cases aL h
     obtain ⟨n1,_⟩:=cv h1 hq
     have c:=gu _ h1 hq G
     rw [hd] at c
     exact Ep G c hf hp (n1 _ (by simp)) (n1 _ (by simp))
    ·exact (au h).elim
   ·exact (au h).elim
  ·exact (au h).elim
 ·exact (au h).elim
theorem HX {Φ:Fx} {tgs:List Expr} {e:Expr} {sc:Scope} {ρ:ak} {fl:Fl} {X:Cx} {H0:Hp} {pos:Pos} (h:ag (mV Φ tgs e sc ρ) fl) (G:aW Φ X sc):SD X H0 ρ (.Assign tgs e pos) fl:=by
 unfold mV at h
 split at h
 ·obtain ⟨p,h1,h⟩:=av h
  unfold nU at h
  split at h
  ·rename_i hx
   split at h
   ·rename_i ho;cases aL h;exact o3 G hx h1 (.inl ⟨ho,rfl⟩)
   ·rename_i ho;cases aL h;exact o3 G hx h1 (.inr ⟨ho,rfl⟩)
   ·exact (au h).elim
  ·exact (au h).elim
 ·split at h
  ·exact Fd h G
  ·rename_i ht
   have ht:=Bool.eq_false_iff.mpr ht
   obtain ⟨p,h1,h⟩:=av h
   split at h
   ·rename_i ho
    cases aL h
    exact Cb G ((cD h1 G).ed rfl) ho ht
   split at h
   ·rename_i ds hd
    split at h
    ·rename_i hf
     split at h
     ·rename_i ρ' hb
      cases aL h
      exact Eo G ((cD h1 G).ed rfl) hd hf hb ht
     ·exact (au h).elim
    ·exact (au h).elim
   ·exact (au h).elim
 ·split at h
  ·rename_i hc
   obtain ⟨p,h1,h⟩:=av h
   obtain ⟨q,h2,h⟩:=av h
   have c2:=(cD h2 G).ed rfl
   rcases qy h with ⟨l,j,l',a1,a2,a3,hj,hs,hf,rfl⟩ | hF
   ·rw [hj] at c2
    exact yz a1 ((cD h1 G).ed rfl) c2 a2 hf a3 hs (tm h2)
   ·exact hF.elim
  ·exact (au h).elim
 ·exact (au h).elim
theorem n5 {p:D×Nat} {f:Int->R1} {a:D×Nat} (h:ag (jt p f) a):∃b,p.1=.int b/\ag (f b) a:=by
 obtain ⟨l,h,hp⟩:=h
 obtain ⟨b,h1,h2⟩:=y8 h
 exact ⟨b,h1,l,h2,hp⟩
theorem HV {Φ:Fx} {t e:Expr} {op:Operator} {sc:Scope} {ρ:ak} {fl:Fl} {X:Cx} {H0:Hp} {pos:Pos} (h:ag (mU Φ t op e sc ρ) fl) (G:aW Φ X sc):SD X H0 ρ (.AugAssign t op e pos) fl:=by
 unfold mU at h
 split at h
 ·split at h
  ·rename_i hx
   split at h
   ·rename_i p hp
    obtain ⟨r,h1,h⟩:=av h
    cases aL h
    obtain ⟨a,ha,h3⟩:=n5 h1
    obtain ⟨q,h2,h4⟩:=av h3
    obtain ⟨b,hb,h5⟩:=n5 h4
    obtain ⟨l,h9,hpl⟩:=h5
    have c:=(cD h2 G).ed rfl
    rw [hb] at c
    obtain ⟨p1,p2⟩:=p
    have ha:p1=.int a:=ha
    subst ha
    exact Et G hx hp c h9 hpl
   ·exact (au h).elim
  ·exact (au h).elim
 ·exact (au h).elim
theorem Gz {Φ:Fx} {e:Expr} {sc:Scope} {ρ:ak} {fl:Fl} {X:Cx} {H0:Hp} {pos:Pos} (h:ag (mT Φ e sc ρ) fl) (G:aW Φ X sc):SD X H0 ρ (.Expr e pos) fl:=by
 unfold mT at h
 split at h
 ·split at h
  ·rename_i hln
   obtain ⟨p,⟨lp,h1,hp1⟩,h⟩:=av h
   split at h
   ·rename_i M hM
    obtain ⟨l,a1,a3,h⟩:=qQ h
    obtain ⟨l',⟨o,h2,hp2⟩,h⟩:=av h
    cases aL h
    obtain ⟨n1,n2⟩:=cv h1 hp1
    exact Er G.calm (G.mtt _ M hM) a1 (gu _ h1 hp1 G) n1 n2 a3 hln h2 hp2
   ·exact (au h).elim
  ·exact (au h).elim
 ·obtain ⟨p,h1,h⟩:=av h
  cases aL h
  exact Ce ((cD h1 G).ed rfl) ⟨_,_,_,_,_,rfl⟩
 ·exact (au h).elim
structure Is (Φ:Fx) (n:Nat):Prop where
 s:∀(st:Stmt) {sc:Scope} {ρ:ak} {fl:Fl} {X:Cx} {H0:Hp},sizeOf st < n->ag (dS Φ st sc ρ) fl->aW Φ X sc->PassesOwn (model X.prog X.w) X.A X.env X.xe->SD X H0 ρ st fl
 ss:∀(st:List Stmt) {sc:Scope} {ρ:ak} {fl:Fl} {X:Cx} {H0:Hp},sizeOf st < n->ag (aD Φ st sc ρ) fl->aW Φ X sc->PassesOwn (model X.prog X.w) X.A X.env X.xe->fC X H0 ρ st fl
theorem gr {p:D×Nat} {α:Type} {f:Bool->Rs α} {a:α} (h:ag (iE p f) a):∃b,p.1=.bl b/\ag (f b) a:=by
 obtain ⟨l,h,hp⟩:=h
 obtain ⟨b,h1,h2⟩:=kT h
 exact ⟨b,h1,l,h2,hp⟩
theorem J1 {Φ:Fx} {n:Nat} (I:Is Φ n) (st:Stmt) {sc:Scope} {ρ:ak} {fl:Fl} {X:Cx} {H0:Hp} (hs:sizeOf st < n+1) (h:ag (dS Φ st sc ρ) fl) (G:aW Φ X sc) (hp:PassesOwn (model X.prog X.w) X.A X.env X.xe):SD X H0 ρ st fl:=by
 cases st with
 | Return e p =>
  cases e with
  | none=>cases aL h;exact BZ
  | some e =>
   obtain ⟨p,h1,h⟩:=av (show ag (Rs.bnd _ _) fl from h)
   unfold u5 at h
   split at h
   ·rename_i hk
    cases aL h
    unfold qH at h1
    cases hn:p9 e with
    | true=>rw [hn] at h1;exact B9 ((cD h1 G).ed rfl) hk
    | false=>rw [hn] at h1;exact wz ((cD h1 G).ed rfl) hk
   ·exact (au h).elim
 | Pass p=>cases aL h;exact Ca
 | Break p=>cases aL h;exact yA
 | Continue p=>cases aL h;exact Cf
 | Assign tgs e p=>exact HX h G
 | AugAssign t op e p=>exact HV h G
 | Expr e p=>exact Gz h G
 | If c a b p =>
  obtain ⟨p,h1,h⟩:=av (show ag (Rs.bnd _ _) fl from h)
  obtain ⟨t,ht,h⟩:=gr h
  refine Au ((cD h1 G).td rfl t ht) ?_
  cases t with
  | true=>rw [if_pos rfl];exact I.ss _ (bm (by simp <;> omega) hs) h G hp
  | false=>rw [if_neg Bool.false_ne_true];exact I.ss _ (bm (by simp <;> omega) hs) h G hp
 | For tg it body els p =>
  rw [oC] at h
  split at h
  ·rename_i he
   have he:=List.isEmpty_iff.mp he
   subst he
   obtain ⟨p,h1,h⟩:=av h
   split at h
   ·rename_i ds hd
    split at h
    ·rename_i hk
     obtain ⟨lq,h1',_⟩:=id h1
     exact Es hp G.calm ((cD h1 G).ie rfl _ ds hd hk.2) hk.1 (fun d ρ ρ' hb=>mM G hb) (fun ρ1 f1 h2=>I.ss _ (bm (by simp <;> omega) hs) h2 G hp) h (iC h1')
    ·exact (au h).elim
   ·exact (au h).elim
  ·exact (au h).elim
 | While c body els p =>
  rw [rS] at h
  split at h
  ·rename_i he
   have he:=List.isEmpty_iff.mp he
   subst he
   refine yy hp (fun ρ b hb=>?_) (fun ρ1 f1 h2=>I.ss _ (bm (by simp <;> omega) hs) h2 G hp) h
   obtain ⟨p,h1,hb⟩:=av hb
   obtain ⟨t,ht,hb⟩:=gr hb
   cases aL hb
   exact (cD h1 G).td rfl _ ht
  ·exact (au h).elim
 | _=>exact (au h).elim
theorem Gy {Φ:Fx} {n:Nat} (I:Is Φ n) (ss:List Stmt) {sc:Scope} {ρ:ak} {fl:Fl} {X:Cx} {H0:Hp} (hs:sizeOf ss < n+1) (h:ag (aD Φ ss sc ρ) fl) (G:aW Φ X sc) (hp:PassesOwn (model X.prog X.w) X.A X.env X.xe):fC X H0 ρ ss fl:=by
 cases ss with
 | nil=>cases aL h;exact BT
 | cons s ss =>
  obtain ⟨f1,h1,h⟩:=av (show ag (Rs.bnd _ _) fl from h)
  have c:=I.s s (H0:=H0) (bm (by simp <;> omega) hs) h1 G hp
  cases f1 with
  | nx ρ'=>exact jj c (I.ss ss (bm (by simp <;> omega) hs) h G hp)
  | bk ρ'=>cases aL h;exact ji c (fun _ z=>(by cases z))
  | ct ρ'=>cases aL h;exact ji c (fun _ z=>(by cases z))
  | rt d=>cases aL h;exact ji c (fun _ z=>(by cases z))
theorem mH (Φ:Fx):∀n,Is Φ n
 | 0=>⟨fun _ _ _ _ _ _ h=>absurd h (Nat.not_lt_zero _),fun _ _ _ _ _ _ h=>absurd h (Nat.not_lt_zero _)⟩
 | n+1=>⟨fun e _ _ _ _ _ hs h G hp=>J1 (mH Φ n) e hs h G hp,fun e _ _ _ _ _ hs h G hp=>Gy (mH Φ n) e hs h G hp⟩
theorem mS {Φ:Fx} (ss:List Stmt) {sc:Scope} {ρ:ak} {fl:Fl} {X:Cx} {H0:Hp} (h:ag (aD Φ ss sc ρ) fl) (G:aW Φ X sc) (hp:PassesOwn (model X.prog X.w) X.A X.env X.xe):fC X H0 ρ ss fl:=(mH Φ _).ss ss (Nat.lt_succ_self _) h G hp
end Sp
namespace Sp
open PySem PySem.Spec PyProof.Rows L2
def aw (sc:Scope):List Str:=(sc.names.filter fun y=>y.2 == .local || y.2 == .cell).map (·.1)
def cx (P:Program) (w:World) (K:W.Frag) (mg:Str->Option Value) (base:Heap) (k:Nat) (g:Str) (F:List D->Rs D):Prop :=
 ∃f fd ps,bS P w K mg base dM k f fd ps (jC K F)/\mg g=some (.ref f)/\W.keepIn K (.ref f)=true/\cE K fd ps []/\(g==("__debug__" : Str))=false
theorem cx.mono {P:Program} {w:World} {K:W.Frag} {mg:Str->Option Value} {base:Heap} {j k:Nat} {g:Str} {F:List D->Rs D} (h:cx P w K mg base j g F) (hjk:j<=k):cx P w K mg base k g F :=
 let ⟨f,fd,ps,h1,h2⟩:=h;⟨f,fd,ps,h1.mono hjk,h2⟩
def nI (P:Program) (w:World) (K:W.Frag) (mg:Str->Option Value) (base:Heap) (k:Nat) (g:Str) (F:List D->Rs D):Prop :=
 ∃j C f fd ps,j+1<=k/\(∀ds r l,F ds=.ok r l->r.lless=true)/\Mk K C f/\bS P w K mg base dM j f fd ps (o0 K g F)/\mg g=some (.ref C)/\W.nsIn K mainGlobals g=some (some (.ref C))/\eO K C/\cE K fd ps []/\(g==("__debug__" : Str))=false
theorem nI.mono {P:Program} {w:World} {K:W.Frag} {mg:Str->Option Value} {base:Heap} {j k:Nat} {g:Str} {F:List D->Rs D} (h:nI P w K mg base j g F) (hjk:j<=k):nI P w K mg base k g F :=
 let ⟨i,C,f,fd,ps,h0,h1⟩:=h;⟨i,C,f,fd,ps,Nat.le_trans h0 hjk,h1⟩
def KO (P:Program) (w:World) (K:W.Frag) (mg:Str->Option Value) (base:Heap) (k:Nat) (g:Str) (F:List D->Rs D):Prop:=cx P w K mg base k g F\/nI P w K mg base k g F
def dw (P:Program) (w:World) (K:W.Frag) (mg:Str->Option Value) (base:Heap) (k:Nat) (n m:Str) (F:List D->Rs D):Prop :=
 ∃C f fd ps,W.nsIn K mainGlobals n=some (some (.ref C))/\eO K C/\oS K C m f/\bS P w K mg base dM k f fd ps (jC K F)/\cE K fd ps []
theorem dw.mono {P:Program} {w:World} {K:W.Frag} {mg:Str->Option Value} {base:Heap} {j k:Nat} {n m:Str} {F:List D->Rs D} (h:dw P w K mg base j n m F) (hjk:j<=k):dw P w K mg base k n m F :=
 let ⟨C,f,fd,ps,h1,h2,h3,h4,h5⟩:=h;⟨C,f,fd,ps,h1,h2,h3,h4.mono hjk,h5⟩
theorem sx:∀{ps:List Str} {ds:List D} {x:Str} {d:D} {o:Bool},eh ps ds x=some (d,o)->o=false/\∃i:Nat,ps[i]?=some x/\ds[i]?=some d
 | [],ds,x,d,o,h=>by cases ds <;> cases h
 | p::ps,[],x,d,o,h=>by cases h
 | p::ps,y::ds,x,d,o,h=>by
  replace h:(if x=p then some (y,false) else eh ps ds x)=some (d,o):=h
  by_cases e:x=p
  ·rw [if_pos e] at h
   cases h;subst e;exact ⟨rfl,0,rfl,rfl⟩
  ·rw [if_neg e] at h
   obtain ⟨h1,i,h2,h3⟩:=sx h
   exact ⟨h1,i+1,by simpa using h2,by simpa using h3⟩
structure lC (P:Program) (w:World) (K:W.Frag) (mg:Str->Option Value) (base:Heap) (k:Nat) (Φ:Fx):Prop where
 fn:∀g F,Φ.fn g=some F->KO P w K mg base k g F
 con:∀x d,Φ.con x=some d->∃v u,mg x=some u/\aT v u/\∀H P,al K H P d v
 blt:∀f B,Φ.blt f=some B->fq f B
 itr:∀f B,Φ.itr f=some B->kX f B
 mth:∀m M,Φ.mth m=some M->we m M
 mtt:∀m M,Φ.mtt m=some M->nH m M
 slf:nE Φ.slf
 fld:∀n f,Φ.fld n f=true->∀C,W.nsIn K mainGlobals n=some (some (.ref C))->bE K C f
 omt:∀n m F,Φ.omt n m=some F->dw P w K mg base k n m F
 bl:∀n∈gw,mg n=none
def bX (Φ:Fx) (sc:Scope) (ps:List Str) (body:List Stmt) (F:List D->Rs D):Prop:=∀ds r,ag (F ds) r->ag (bH Φ sc ps body ds) r
theorem bX.self {Φ:Fx} {sc:Scope} {ps:List Str} {body:List Stmt}:bX Φ sc ps body (bH Φ sc ps body):=fun _ _ h=>h
theorem iZ {P:Program} {w:World} {K:W.Frag} {mg:Str->Option Value} {base:Heap} {k:Nat} {qual:Str} {st:Stmt} {f:Addr} {ps:List Str} {Φ:Fx} {cdv:Value} {A:Around} {outer:List Env} {s:Shared} {H:Hp} {E:XK}
  (S:aF (aw (ae st)) ps (ae st)) (hΦ:lC P w K mg base k Φ) (hr:ci k (A.deeper (envOfC qual (ae st) s.heap.objs.size f cdv))) :
  aW Φ (jA dM P w K mg base (aw (ae st)) qual (ae st) f cdv A outer s H E).nox (ae st):=by
 have hun:=hr.un
 refine ⟨rfl,S.nd,fun x hx=>hx,fun x hx=>hx,fun x hx=>hx,fun x hx=>hx,fun g' F' hg=>?_,hΦ.con,hΦ.blt,hΦ.itr,hΦ.mth,hΦ.mtt,hΦ.slf,hΦ.fld,fun n m F hF=>?_,hΦ.bl,?_,fun x hx=>?_,fun x _=>rfl⟩
 ·rcases hΦ.fn g' F' hg with z|z
  ·obtain ⟨f',fd',ps',a1,a2,a3,a4,a5⟩:=z
   exact .inl ⟨k,f',fd',ps',a1,hr,a2,a3,a4,a5⟩
  ·obtain ⟨j,C,f',fd',ps',a0,a1,a2,a3,a4⟩:=z
   exact .inr ⟨j,C,f',fd',ps',a1,a2,a3,hr.mono a0,a4⟩
 ·obtain ⟨C,f',fd',ps',a1,a2,a3,a4,a5⟩:=hΦ.omt n m F hF
  exact ⟨k,C,f',fd',ps',a1,a2,a3,a4,hr,a5⟩
 ·show (A.deeper _).units+70 < cLine
  omega
 ·show x∈aw (ae st)
  unfold aw
  unfold c9 at hx
  rw [Bool.or_eq_true] at hx
  rcases hx with hx|hx
  ·have hx:(ae st).names.lookup x=some .local:=by simpa using hx
   exact List.mem_map.mpr ⟨(x,.local),List.mem_filter.mpr ⟨PySem.mem_of_lookup hx,by simp⟩,rfl⟩
  ·have hx:(ae st).names.lookup x=some .cell:=by simpa using hx
   exact List.mem_map.mpr ⟨(x,.cell),List.mem_filter.mpr ⟨PySem.mem_of_lookup hx,by simp⟩,rfl⟩
theorem j9 {P:Program} {w:World} {K:W.Frag} {mg:Str->Option Value} {base:Heap} {qual:Str} {st:Stmt} {f:Addr} {ps:List Str} {cdv:Value} {A:Around} {outer:List Env} {s:Shared} {H:Hp} {E:XK} {ds:List D} {vs:List V}
  (S:aF (aw (ae st)) ps (ae st)) (h1:ai K H (fun _ _=>True) ds vs) (hl:ds.length=ps.length) :
  aO (jA dM P w K mg base (aw (ae st)) qual (ae st) f cdv A outer s H E).nox (fun _=>none) H (start (aw (ae st)) vs) (eh ps ds)/\(start (aw (ae st)) vs).length=(aw (ae st)).length:=by
 have hpl:ps.length<=(aw (ae st)).length:=by have:=congrArg List.length S.pre;rw [List.length_take] at this;omega
 have hvl:vs.length=ps.length:=by rw [<- h1.length];exact hl
 refine ⟨⟨fun x d o hx=>?_,fun a ha=>absurd rfl ha⟩,by unfold L2.start;rw [List.length_append,List.length_map,List.length_replicate];omega⟩
 obtain ⟨rfl,i,i1,i2⟩:=sx hx
 obtain ⟨v,i3,i4⟩:=h1.get i2
 have hi:i < ps.length:=(List.getElem?_eq_some_iff.mp i1).1
 refine ⟨i,v,?_,?_,?_,i4.imp fun a b _ _=>rfl⟩
 ·show (aw (ae st))[i]?=some x
  rw [<- S.pre,List.getElem?_take_of_lt hi] at i1
  exact i1
 ·rcases S.par x (List.mem_of_getElem? i1) with z|z
  ·exact .inl z
  ·exact .inr (.inl z)
 ·unfold L2.start
  rw [List.getElem?_append_left (by rw [List.length_map];omega),List.getElem?_map,i3];rfl
theorem oz {P:Program} {w:World} {K:W.Frag} {mg:Str->Option Value} {base:Heap} {k:Nat} {g qual:Str} {st:Stmt} {f:Addr} {fd:FuncData} {ps:List Str} {F:List D->Rs D} {Φ:Fx} (Fn:jg K g qual st f fd)
  (S:aF (aw (ae st)) ps (ae st)) (hΦ:lC P w K mg base k Φ)
  (hrun:bX Φ (ae st) ps (ao st) F):bS P w K mg base dM (k+1) f fd ps (jC K F):=by
 refine Fn.ok S (fun vs H Q E h=>?_) (fun cdv A outer s H vs Q E hr h=>?_)
 ·obtain ⟨ds,r,l,h1,h2,hp,_⟩:=h
  have:=hrun ds r ⟨l,h2,hp⟩
  unfold bH at this
  split at this
  ·rename_i hl;rw [<- h1.length];exact hl
  ·exact (au this).elim
 ·obtain ⟨ds,r,l,h1,h2,hp,q⟩:=h
  have hr1:=hrun ds r ⟨l,h2,hp⟩
  unfold bH at hr1
  split at hr1
  ·rename_i hl
   have G:=iZ (outer:=outer) (H:=H) (E:=E) S hΦ hr
   obtain ⟨E0,hsl⟩:=j9 (P:=P) (w:=w) (mg:=mg) (base:=base) (qual:=qual) (f:=f) (cdv:=cdv) (A:=A) (outer:=outer) (s:=s) (E:=E) S h1 hl
   have B0:dm H (fun _=>none) H:=fun a o h=>⟨h,rfl⟩
   obtain ⟨fl,hx,hr1⟩:=av hr1
   cases fl with
   | rt d =>
    cases aL hr1
    exact ⟨_,mS _ (H0:=H) hx G PassesOwn.never,fun _=>none,E0,hsl,B0,fun v H' sm rp=>q v H' sm rp⟩
   | nx ρ' =>
    cases aL hr1
    exact ⟨_,mS _ (H0:=H) hx G PassesOwn.never,fun _=>none,E0,hsl,B0,fun ow' σ' H' _ _ kp=>q .non H' (fun a o h=>kp.keep a o h (.inr rfl)) (by rw [al])⟩
   | bk ρ'=>exact (au hr1).elim
   | ct ρ'=>exact (au hr1).elim
  ·exact (au hr1).elim
def As (K:W.Frag) (fs:List Str):Sp:=fun vs H Q _ => ∃x ws C dx,vs=.ref x::ws/\ws.length=fs.length/\H x=some (.ins C dx [])/\eO K C/\(∀f∈fs,bE K C f)/\Q .non (aN H x (.ins C dx (fs.zip ws)))
theorem DA {P:Program} {w:World} {K:W.Frag} {mg:Str->Option Value} {base:Heap} {g qual:Str} {st:Stmt} {f:Addr} {fd:FuncData} (Fn:jg K g qual st f fd) {s0 a1 a2 a3 f1 f2 f3:Str} {p1 p2 p3 p4 q1 q2 q3 q4 r1 r2 r3 r4:Pos}
  (hN:aw (ae st)=[s0,a1,a2,a3]) (S:aF (aw (ae st)) [s0,a1,a2,a3] (ae st)) (hv:∀x∈[s0,a1,a2,a3],fB (ae st) x) (hok:∀x∈[s0,a1,a2,a3],fe x=true)
  (hb:ao st=[.Assign [.Attribute (.Name s0 p1) f1 p2] (.Name a1 p3) p4,.Assign [.Attribute (.Name s0 q1) f2 q2] (.Name a2 q3) q4,.Assign [.Attribute (.Name s0 r1) f3 r2] (.Name a3 r3) r4]) (h12:f1≠f2) (h13:f1≠f3) (h23:f2≠f3) :
  bS P w K mg base dM 1 f fd [s0,a1,a2,a3] (As K [f1,f2,f3]):=by
 refine Fn.ok (k:=0) S (fun vs H Q E h=>?_) (fun cdv A outer s H vs Q E hr h=>?_)
 ·obtain ⟨x,ws,C,dx,rfl,hl,_⟩:=h
  rw [List.length_cons,hl];rfl
 ·obtain ⟨x,ws,C,dx,rfl,hl,hx,hc,hn,q⟩:=h
  obtain ⟨y1,ws,rfl⟩:∃y r,ws=y::r:=by cases ws with|nil=>cases hl|cons y r=>exact ⟨y,r,rfl⟩
  obtain ⟨y2,ws,rfl⟩:∃y r,ws=y::r:=by cases ws with|nil=>cases hl|cons y r=>exact ⟨y,r,rfl⟩
  obtain ⟨y3,ws,rfl⟩:∃y r,ws=y::r:=by cases ws with|nil=>cases hl|cons y r=>exact ⟨y,r,rfl⟩
  obtain rfl:ws=[]:=by cases ws with|nil=>rfl|cons _ _=>cases hl
  have nm:∀(i:Nat) (x:Str) (p:Pos),[s0,a1,a2,a3][i]?=some x->PE (jA dM P w K mg base (aw (ae st)) qual (ae st) f cdv A outer s H E).nox (.Name x p) (qu i):=fun i x p hi =>
   gX (by show (aw (ae st))[i]?=some x;rw [hN];exact hi) (hv x (List.mem_of_getElem? hi)) (dk (hok x (List.mem_of_getElem? hi))).1 (dk (hok x (List.mem_of_getElem? hi))).2
  rw [hb]
  refine ⟨_,fS (qM (nm 0 s0 p1 rfl) (nm 1 a1 p3 rfl) rfl) (fS (qM (nm 0 s0 q1 rfl) (nm 2 a2 q3 rfl) rfl) (nV (qM (nm 0 s0 r1 rfl) (nm 3 a3 r3 rfl) rfl))),?_⟩
  rw [hN]
  refine ⟨y1,rfl,.ref x,rfl,x,C,dx,_,rfl,hx,hc,hn f1 (by simp),by decide,?_⟩
  refine ⟨y2,rfl,.ref x,rfl,x,C,dx,_,rfl,aH,hc,hn f2 (by simp),by simp [dC],?_⟩
  refine ⟨y3,rfl,.ref x,rfl,x,C,dx,_,rfl,aH,hc,hn f3 (by simp),?_,?_⟩
  ·have:=gi f2 y2 (dC f1 y1 []);have:=gi f1 y1 [];simp at this;omega
  ·rw [tN,tN]
   have e:dC f3 y3 (dC f2 y2 (dC f1 y1 []))=[(f1,y1),(f2,y2),(f3,y3)]:=by simp [dC,h12,h13,h23]
   rw [e]
   exact q
theorem qP {X:Cx} {CX:iI} {k:Nat} {f C:Addr} {fd:FuncData} {ps:List Str} {sp:Sp} {E:XK} {b m:Str} {p pos apos:Pos} {e:Expr} {es:List Expr} {t:TA} {mc:Value} (hg:Gl X b) (hm:X.mg b=some (.ref C)) (hga:W.specialIn X.K (.ref C) "__getattribute__" = some (some (.builtin "type.__getattribute__")))
  (hrd:W.readsIn X.K C mc=true) (hfc:W.findCls X.K (.ref C) mc m=some (.val (.ref f))) (hk:W.keepIn X.K (.ref f)=true) (F:bS X.prog X.w X.K X.mg X.base CX k f fd ps sp) (hr:ci k X.A) (hb:cE X.K fd ps []) (hx:fk CX X E) (ha:PA X (e::es) t)
  (hst:starEach (e::es) X.env=(false,eval e X.env)::starEach es X.env) (hpl:(backTo pos (starEach es X.env)).any (·.1)=false) (hdb:(b==("__debug__" : Str))=false)
  (ht:eval (.Call (.Attribute (.Name b p) m apos) (e::es) [] pos) X.env=(do
   let ov <- eval (.Name b p) X.env
   standAt apos.atName
   let (f,first) <- holding [ov] (getMethod ov m (do return (<- importBound (.Name b p) X.env).getD true))
   callWith pos f first (backTo pos (starEach (e::es) X.env)) (backToKw pos (keywordEach [] X.env)))) :
  PE X (.Call (.Attribute (.Name b p) m apos) (e::es) [] pos) (uS sp [] E t):=by
 intro pins s σ H Q I h
 refine W.methodCall_KW (pl:=(do return (<- importBound (.Name b p) X.env).getD true)) (gP I hg hm ?_ hdb) ht
 refine W.method_cls I.kIn hga (W.cls_value I.kIn hrd hfc rfl ?_)
 have I':=I.tok (s.toks+1)
 refine W.callWith_K (first:=[]) (h₀:=X.base) I.ok.mod.kin hk (aR (ha pos pins _ σ H _ I' h) fun us s2 ⟨vs,H2,I2,r,q2⟩=>⟨I2.kIn,?_⟩) hst hpl
 exact jS (us:=us) F hr hb .nil hx I2 r q2
mutual
def D.noObj:D->Bool
 | .obj _ _ _=>false
 | .tup l=>fg l
 | .lst l=>fg l
 | .dct _ l=>fg l
 | _=>true
def fg:List D->Bool
 | []=>true
 | d::l=>d.noObj&&fg l
end
mutual
theorem al.off {K:W.Frag} {P:bz} {H H':Hp} {x C dx:Addr} {fs:List (Str×V)} (hx:H x=some (.ins C dx fs)) (s:∀a o,a≠x->H a=some o->H' a=some o):∀{d:D} {v:V},d.noObj=true->al K H P d v->al K H' P d v
 | .non,v,_,h=>by rw [al] at h ⊢;exact h
 | .bl b,v,_,h=>by rw [al] at h ⊢;exact h
 | .int i,v,_,h=>by rw [al] at h ⊢;exact h
 | .str x,v,_,h=>by rw [al] at h ⊢;exact h
 | .dct ks es,v,f,h=>by
  rw [al] at h ⊢
  obtain ⟨f0,e0,a,vs,e,h1,p,r⟩:=h
  exact ⟨f0,e0,a,vs,e,s _ _ (kH h1 hx (fun z=>nomatch z)) h1,p,ai.off hx s (by rw [D.noObj] at f;exact f) r⟩
 | .typ n,v,_,h=>by rw [al] at h ⊢;exact h
 | .sn n,v,_,h=>by
  rw [al] at h ⊢
  obtain ⟨a,S,e,h⟩:=h
  exact ⟨a,S,e,s _ _ (kH h hx (fun z=>nomatch z)) h⟩
 | .obj n ns ds,v,f,h=>by rw [D.noObj] at f;cases f
 | .cls n,v,_,h=>by rw [al] at h ⊢;exact h
 | .tup l,v,f,h=>by
  rw [al] at h ⊢
  obtain ⟨a,vs,e,h,r⟩:=h
  refine ⟨a,vs,e,?_,ai.off hx s (by rw [D.noObj] at f;exact f) r⟩
  rcases h with (h | ⟨o,h⟩) | h
  ·exact .inl (.inl (s _ _ (kH h hx (fun z=>nomatch z)) h))
  ·exact .inl (.inr ⟨o,s _ _ (kH h hx (fun z=>nomatch z)) h⟩)
  ·exact .inr h
 | .lst l,v,f,h=>by
  rw [al] at h ⊢
  obtain ⟨a,vs,b,e,h,p,r⟩:=h
  refine ⟨a,vs,b,e,?_,p,ai.off hx s (by rw [D.noObj] at f;exact f) r⟩
  cases b with
  | true=>exact s _ _ (kH h hx (fun z=>nomatch z)) h
  | false =>
   rcases h with ⟨o,h⟩ | h
   ·exact .inl ⟨o,s _ _ (kH h hx (fun z=>nomatch z)) h⟩
   ·exact .inr h
theorem ai.off {K:W.Frag} {P:bz} {H H':Hp} {x C dx:Addr} {fs:List (Str×V)} (hx:H x=some (.ins C dx fs)) (s:∀a o,a≠x->H a=some o->H' a=some o):∀{l:List D} {vs:List V},fg l=true->ai K H P l vs->ai K H' P l vs
 | [],vs,_,h=>by rw [ai] at h ⊢;exact h
 | d::l,vs,f,h=>by
  rw [ai] at h ⊢
  rw [fg,Bool.and_eq_true] at f
  obtain ⟨v,r,e,h1,h2⟩:=h
  exact ⟨v,r,e,al.off hx s f.1 h1,ai.off hx s f.2 h2⟩
end
def bo (s:Stmt) (j:Nat):Stmt:=(match s with | .ClassDef _ _ _ b _ _ _ _ _ _ _=>b|_=>[]).getD j (.Pass ⟨0,0,0,0⟩)
def rC (s:Stmt):List Expr:=match ao s with
 | [.Expr (.Call _ (_::args) _ _) _]=>args
 | _=>[]
def gH (Φ:Fx) (sc:Scope) (ps:List Str) (args:List Expr) (n:Str) (fs:List Str) (ds:List D):Rs D :=
 if ds.length+1=ps.length then (cf Φ args sc (eh ps (.obj n [] []::ds))).bnd fun q=>if q.1.length=fs.length then .ok (.obj n fs q.1) [ax q.1=true,fg q.1=true] else .st else .st
theorem uo {P:Program} {w:World} {K:W.Frag} {mg:Str->Option Value} {base:Heap} {k:Nat} {g qual:Str} {st:Stmt} {f f0:Addr} {fd fd0:FuncData} {ps ps0 fs:List Str} {Φ:Fx} {n b s0:Str} {C0:Addr} {mc:Value} {pb p0 ap cp p4:Pos} {args:List Expr} (Fn:jg K g qual st f fd)
  (S:aF (aw (ae st)) ps (ae st)) (hΦ:lC P w K mg base k Φ) (hF0:bS P w K mg base dM k f0 fd0 ps0 (As K fs)) (hb0:cE K fd0 ps0 []) (hk0:W.keepIn K (.ref f0)=true)
  (hgb:(ae st).names.lookup b=some .globalImplicit) (hm:mg b=some (.ref C0)) (hga:W.specialIn K (.ref C0) "__getattribute__" = some (some (.builtin "type.__getattribute__"))) (hrd:W.readsIn K C0 mc=true) (hfc:W.findCls K (.ref C0) mc "__init__" = some (.val (.ref f0)))
  (hbody:ao st=[.Expr (.Call (.Attribute (.Name b pb) "__init__" ap) (.Name s0 p0::args) [] cp) p4]) (hs0:ps[0]?=some s0) (hok:fe s0=true) (hdb:(b==("__debug__" : Str))=false) (hln:(ap.endLine==cp.line)=true) (hfew:args.length < 28)
  (hna:∀C,W.nsIn K mainGlobals n=some (some (.ref C))->∀x∈fs,bE K C x):bS P w K mg base dM (k+1) f fd ps (o0 K n (gH Φ (ae st) ps args n fs)):=by
 refine Fn.ok S (fun vs H Q E h=>?_) (fun cdv A outer s H vs Q E hr h=>?_)
 ·obtain ⟨x,ws,C,dx,ds,r,l,rfl,hx,hns,hc,r1,hF,_⟩:=h
  unfold gH at hF
  split at hF
  ·rename_i hl;rw [List.length_cons,<- r1.length];exact hl
  ·cases hF
 ·obtain ⟨x,ws,C,dx,ds,r,l,rfl,hx,hns,hc,r1,hF,hp,hl,q⟩:=h
  unfold gH at hF
  split at hF
  ·rename_i hlen
   obtain ⟨qv,l1,l2,h1,p1,hF,p2⟩:=aS hF hp
   split at hF
   ·rename_i hfl
    cases hF
    have G:=iZ (outer:=outer) (H:=H) (E:=E) S hΦ hr
    have r0:ai K H (fun _ _=>True) (.obj n [] []::ds) (.ref x::ws):=ai.cons (by rw [al];exact ⟨rfl,rfl,x,C,dx,[],rfl,hns,hc,hx,ai.nil⟩) r1
    obtain ⟨E0,hsl⟩:=j9 (P:=P) (w:=w) (mg:=mg) (base:=base) (qual:=qual) (f:=f) (cdv:=cdv) (A:=A) (outer:=outer) (s:=s) (E:=E) S r0 hlen
    obtain ⟨hst,hal⟩:=cv h1 p1
    have ad:=gu args h1 p1 G
    have hi0:(aw (ae st))[0]?=some s0:=by
     have hp0:=(List.getElem?_eq_some_iff.mp hs0).1
     have hs1:=hs0
     rw [<- S.pre,List.getElem?_take_of_lt hp0] at hs1
     exact hs1
    have hv0:fB (ae st) s0:=by
     rcases S.par s0 (List.mem_of_getElem? hs0) with z|z
     ·exact .inl z
     ·exact .inr (.inl z)
    have hst':∀e∈Expr.Name s0 p0::args,∀y p,e ≠ .Starred y p:=fun e he=>by
     rcases List.mem_cons.mp he with rfl|he
     ·intro _ _ z;cases z
     ·exact hst e he
    rw [hbody]
    refine ⟨_,nV (iV (qP (G.gl b hgb) hm hga hrd hfc hk0 hF0 hr hb0 iu (nY (gX (i:=0) hi0 hv0 (dk hok).1 (dk hok).2) (ad (fun _=>none)) (aV fun _ _ z=>by cases z)) (aV fun _ _ z=>by cases z) (bK hst) hdb (vF (base_of rfl) (rO hst' (by rw [List.length_cons];omega)) hln)) rfl),?_⟩
    refine ⟨.ref x,?_,E0,fun vs H1 s1 rv=>?_⟩
    ·have hn:0 < (aw (ae st)).length:=(List.getElem?_eq_some_iff.mp hi0).1
     rfl
    ·refine ⟨x,vs++[],C,dx,rfl,by rw [List.append_nil,<- rv.length];exact hfl,s1 _ _ hx,hc,hna C hns,q _ (fun a o ha h=>?_) ?_⟩
     ·rw [ay ha];exact s1 _ _ h
     ·rw [al,List.append_nil]
      exact ⟨p2.1,hfl.symm,x,C,dx,vs,rfl,hns,hc,aH,((rv.off (s1 _ _ hx) (fun a o ha h=>by rw [ay ha];exact h) p2.2.1).imp fun _ _ _=>True.intro)⟩
   ·cases hF
  ·cases hF
theorem bC {P:Program} {w:World} {K:W.Frag} {mg:Str->Option Value} {base:Heap} {k:Nat} {g qual:Str} {st:Stmt} {f:Addr} {fd:FuncData} {ps:List Str} {F:List D->Rs D} {Φ:Fx} (Fn:jg K g qual st f fd)
  (S:aF (aw (ae st)) ps (ae st)) (hm:mg g=some (.ref f)) (hb:cE K fd ps []) (hd:(g==("__debug__" : Str))=false)
  (hΦ:lC P w K mg base k Φ) (hrun:bX Φ (ae st) ps (ao st) F):cx P w K mg base (k+1) g F :=
 ⟨f,fd,ps,oz Fn S hΦ hrun,hm,Fn.kp,hb,hd⟩
theorem am {α:Type} {Pr:α->Prop} {x:α} {l:List α} (h1:Pr x) (h2:∀y∈l,Pr y):∀y∈x::l,Pr y:=fun y hy=>(List.mem_cons.mp hy).elim (fun e=>e ▸ h1) (h2 y)
theorem ar {α:Type} {Pr:α->Prop}:∀y∈([]:List α),Pr y:=fun y hy=>by cases hy
theorem Gp {K:W.Frag} {H:Hp} {a:Addr} {ns:List Int} {F:List D->Rs D} (hO:sN H) (hS:cq K H a (ns.map V.int)) (h:ag (F [.lst (ns.map D.int)]) (.bl true)):jC K F [.ref a] H (fun v _=>v=.bl true) fun _ _ _=>False:=by
 obtain ⟨l,h,hp⟩:=h
 refine ⟨[.lst (ns.map D.int)],.bl true,l,ai.one ?_,h,hp,fun v H' _ r=>by rw [al] at r;exact r⟩
 rw [al]
 rcases hS with (hS|hS) | hS
 ·rcases hO a with z | ⟨o,xs,z⟩
  ·rw [z] at hS;cases hS
  ·rw [z] at hS;cases hS
 ·exact ⟨a,_,false,rfl,.inl hS,True.intro,ai.ofInts⟩
 ·exact ⟨a,_,false,rfl,.inr hS,True.intro,ai.ofInts⟩
abbrev pN (P:Program) (w:World) (K:W.Frag) (mg:Str->Option Value) (base:Heap) (k:Nat):Str×(List D->Rs D)->Prop:=fun p=>KO P w K mg base k p.1 p.2
abbrev ma (mg:Str->Option Value) (K:W.Frag):Str×D->Prop:=fun p => ∃v u,mg p.1=some u/\aT v u/\∀H P,al K H P p.2 v
abbrev iT:Str×(List D->R1)->Prop:=fun p=>fq p.1 p.2
abbrev oU:Str×(List D->Nat->R1)->Prop:=fun p=>kX p.1 p.2
abbrev zW:Str×(D->List D->R1)->Prop:=fun p=>we p.1 p.2
abbrev wc:Str×(List D->List D->Nat->Rs (List D))->Prop:=fun p=>nH p.1 p.2
theorem bj {P:Program} {w:World} {K:W.Frag} {mg:Str->Option Value} {base:Heap} {k:Nat} {l:List (Str×(List D->Rs D))} {c:List (Str×D)} {b:List (Str×(List D->R1))} {i:List (Str×(List D->Nat->R1))} {m:List (Str×(D->List D->R1))} {t:List (Str×(List D->List D->Nat->Rs (List D)))} {sf:D->Option Int->Option Int->R1}
  (hl:∀p∈l,pN P w K mg base k p) (hc:∀p∈c,ma mg K p) (hb:∀p∈b,iT p) (hi:∀p∈i,oU p) (hm:∀p∈m,zW p) (ht:∀p∈t,wc p) (hs:nE sf) (hn:∀n∈gw,mg n=none):lC P w K mg base k (Tb l c b i m t sf) :=
 ⟨fun g F h=>hl (g,F) (PySem.mem_of_lookup h),fun x d h=>hc (x,d) (PySem.mem_of_lookup h),fun f B h=>hb (f,B) (PySem.mem_of_lookup h),fun f B h=>hi (f,B) (PySem.mem_of_lookup h),fun f B h=>hm (f,B) (PySem.mem_of_lookup h),fun f B h=>ht (f,B) (PySem.mem_of_lookup h),hs,(fun _ _ h=>by cases h),(fun _ _ _ h=>by cases h),hn⟩
abbrev sR (K:W.Frag):Str×List Str->Prop:=fun p => ∀f∈p.2,∀C,W.nsIn K mainGlobals p.1=some (some (.ref C))->bE K C f
abbrev iQ (P:Program) (w:World) (K:W.Frag) (mg:Str->Option Value) (base:Heap) (k:Nat):Str×List (Str×(List D->Rs D))->Prop:=fun p => ∀q∈p.2,dw P w K mg base k p.1 q.1 q.2
theorem gQ {P:Program} {w:World} {K:W.Frag} {mg:Str->Option Value} {base:Heap} {k:Nat} {l:List (Str×(List D->Rs D))} {c:List (Str×D)} {b:List (Str×(List D->R1))} {i:List (Str×(List D->Nat->R1))} {m:List (Str×(D->List D->R1))} {t:List (Str×(List D->List D->Nat->Rs (List D)))} {sf:D->Option Int->Option Int->R1} {fl:List (Str×List Str)} {om:List (Str×List (Str×(List D->Rs D)))}
  (hl:∀p∈l,pN P w K mg base k p) (hc:∀p∈c,ma mg K p) (hb:∀p∈b,iT p) (hi:∀p∈i,oU p) (hm:∀p∈m,zW p) (ht:∀p∈t,wc p) (hs:nE sf) (hfl:∀p∈fl,sR K p) (hom:∀p∈om,iQ P w K mg base k p) (hn:∀n∈gw,mg n=none):lC P w K mg base k (xZ l c b i m t sf fl om) :=
 ⟨fun g F h=>hl (g,F) (PySem.mem_of_lookup h),fun x d h=>hc (x,d) (PySem.mem_of_lookup h),fun f B h=>hb (f,B) (PySem.mem_of_lookup h),fun f B h=>hi (f,B) (PySem.mem_of_lookup h),fun f B h=>hm (f,B) (PySem.mem_of_lookup h),fun f B h=>ht (f,B) (PySem.mem_of_lookup h),hs,
  (fun n f h C hC=>by
   replace h:(match fl.lookup n with|some fs=>fs.contains f|none=>false)=true:=h
   split at h
   ·rename_i fs e;exact hfl (n,fs) (PySem.mem_of_lookup e) f (List.contains_iff_mem.mp h) C hC
   ·cases h),
  (fun n x F h=>by
   replace h:(match om.lookup n with|some ms=>ms.lookup x|none=>none)=some F:=h
   split at h
   ·rename_i ms e;exact hom (n,ms) (PySem.mem_of_lookup e) (x,F) (PySem.mem_of_lookup h)
   ·cases h),hn⟩
theorem lK {P:Program} {w:World} {K:W.Frag} {mg:Str->Option Value} {base:Heap} {k:Nat} {g qual n:Str} {st:Stmt} {f C:Addr} {fd:FuncData} {ps:List Str} {F:List D->Rs D} {Φ:Fx} (Fn:jg K g qual st f fd)
  (S:aF (aw (ae st)) ps (ae st)) (hn:W.nsIn K mainGlobals n=some (some (.ref C))) (hc:eO K C) (hm:oS K C g f) (hb:cE K fd ps [])
  (hΦ:lC P w K mg base k Φ) (hrun:bX Φ (ae st) ps (ao st) F):dw P w K mg base (k+1) n g F :=
 ⟨C,f,fd,ps,hn,hc,hm,oz Fn S hΦ hrun,hb⟩
theorem q9 {P:Program} {w:World} {K:W.Frag} {mg:Str->Option Value} {base:Heap} {k:Nat} {n:Str} {ps:List Str} {C f:Addr} {fd:FuncData} {F:List D->Rs D} (hF:∀ds r l,F ds=.ok r l->r.lless=true) (hM:Mk K C f) (h:bS P w K mg base dM k f fd ps (o0 K n F)) (hm:mg n=some (.ref C))
  (hn:W.nsIn K mainGlobals n=some (some (.ref C))) (hc:eO K C) (hb:cE K fd ps []) (hd:(n==("__debug__" : Str))=false):nI P w K mg base (k+1) n F:=⟨k,C,f,fd,ps,Nat.le_refl _,hF,hM,h,hm,hn,hc,hb,hd⟩
theorem mK {Φ:Fx} {sc:Scope} {ps fs:List Str} {args:List Expr} {n:Str}:∀ds r l,gH Φ sc ps args n fs ds=.ok r l->r.lless=true:=fun ds r l h=>by
 unfold gH at h
 split at h
 ·unfold Rs.bnd at h
  split at h
  ·cases h
  ·split at h
   ·cases h
   ·rename_i e
    cases h
    dsimp only at e
    split at e
    ·cases e;rfl
    ·cases e
 ·cases h
theorem zy {mg:Str->Option Value} {K:W.Frag} {x:Str} {c:Addr} {dd:Option Addr} {ss:Array (Option Value)} {nn:Nat} {its:Array Value} {ns:List Int} (hm:mg x=some (.ref c)) (hl:K.lookup c=some ⟨.type "tuple", dd,.seq its nn,ss⟩) (hz:its.size<=sizeLine) (hv:aK (ns.map V.int) its.toList) :
  ma mg K (x,.tup (ns.map .int)):=⟨.ref c,.ref c,hm,rfl,fun H P=>by rw [al];exact ⟨c,_,rfl,.inr ⟨_,its,nn,hl,rfl,rfl,hz,hv⟩,ai.ofInts⟩⟩
theorem rY {mg:Str->Option Value} {K:W.Frag} {x:Str} {c:Addr} {dd:Option Addr} {ss:Array (Option Value)} {nn:Nat} {its:Array Value} {ds:List D} {vs:List V} (hm:mg x=some (.ref c)) (hl:K.lookup c=some ⟨.type "tuple", dd,.seq its nn,ss⟩) (hz:its.size<=sizeLine) (hv:aK vs its.toList)
  (hr:∀H P,ai K H P ds vs):ma mg K (x,.tup ds):=⟨.ref c,.ref c,hm,rfl,fun H P=>by rw [al];exact ⟨c,_,rfl,.inr ⟨_,its,nn,hl,rfl,rfl,hz,hv⟩,hr H P⟩⟩
theorem eG {K:W.Frag} {c:Addr} {dd:Option Addr} {ss:Array (Option Value)} {nn:Nat} {its:Array Value} {ns:List Int} (hl:K.lookup c=some ⟨.type "tuple", dd,.seq its nn,ss⟩) (hz:its.size<=sizeLine) (hv:aK (ns.map V.int) its.toList):∀H P,al K H P (.tup (ns.map .int)) (.ref c) :=
 fun H P=>by rw [al];exact ⟨c,_,rfl,.inr ⟨_,its,nn,hl,rfl,rfl,hz,hv⟩,ai.ofInts⟩
end Sp
namespace Sp
open PySem PySem.Spec PyProof.Rows L2
open AutoSeq1 (wpAny_loadPart')
theorem GG (tu:Addr) (vs:Array Value) (n:Nat) (dc:Option Addr) (so:Array (Option Value)) :
  Meets (Builtin.«enumerate.__new__» ⟨[.type "enumerate", .ref tu],[]⟩) (fun _ R st=>st.heap.get? tu=some { cls:=.type "tuple", dict:=dc,data:=.seq vs n,slots:=so } /\
   R (.ok (.ret (.ref (st.heap.push { cls:=.type "tuple_iterator", data:=.fields #[.ref tu,.int 0 0] }).objs.size)))
    { st with heap:=(st.heap.push { cls:=.type "tuple_iterator", data:=.fields #[.ref tu,.int 0 0] }).push { cls:=.type "enumerate", data:=.fields #[.none,.bool false,.ref st.heap.objs.size,rawInt 0,.none,.none] } }) :=
 .of_wp fun pg wd AA RR st hh=>by
  obtain ⟨hp0,gg,dd,tk0,oo⟩:=st;obtain ⟨htu,hh⟩:=hh
  have hsub0:=sub_enumerate
  have hTT:Heap.IsTuple (Shared.heap ⟨hp0,gg,dd,tk0,oo⟩) tu vs:=⟨_,htu,rfl,n,rfl⟩
  wp_walk using wpAny_loadPart' htu
  refine wpAny_stack_any fun stk0=>wpAny_pure ?_
  split
  ·rename_i c0 _ _ _ _ _
   cases (c0==Value.type "enumerate")
   ·wp_walk using wpAny_loadPart' htu,wpAny_pyIter_tuple hTT
    exact ⟨_,rfl,hh⟩
   ·wp_walk using wpAny_loadPart' htu,wpAny_pyIter_tuple hTT
    exact ⟨_,rfl,hh⟩
  ·wp_walk using wpAny_loadPart' htu,wpAny_pyIter_tuple hTT
   exact ⟨_,rfl,hh⟩
section
variable {prog:Program} {w:World} {A:Around} {E:Value->Shared->Prop} {s:Shared}
theorem Dm {tu:Addr} {vs:Array Value} {Q:Value->Shared->Prop} (hT:s.heap.IsTuple tu vs)
  (go:∀h1,IsEnum h1 (s.heap.objs.size+1) s.heap.objs.size 0 .none->h1.IsTupleIter s.heap.objs.size tu 0->h1.objs.size=s.heap.objs.size+2->(∀b o,s.heap.get? b=some o->h1.get? b=some o)->Q (.ref (s.heap.objs.size+1)) { s with heap:=h1 }) :
  wpAny (model prog w) A (call (.type "enumerate") [.ref tu]) Q E s:=by
 obtain ⟨⟨cc,dc,dt,so⟩,htu,hcc,n,hdd⟩:=hT
 replace hcc:cc=.type "tuple" := hcc
 replace hdd:dt=.seq vs n:=hdd
 subst hcc hdd
 refine callType_new F.called_enumerate (by decide) (F.typeCall_enumerate_1 _) (F.newCall_enumerate_1 _) (fun ob=>F.args_object_init_2 ob _) F.entry_enumerate_new (GG tu vs n dc so) ⟨htu,?_⟩
 have sz:(s.heap.push { cls:=.type "tuple_iterator", data:=.fields #[.ref tu,.int 0 0] }).objs.size=s.heap.objs.size+1:=Heap.size_push ..
 show _/\_
 rw [sz]
 have isE:IsEnum ((s.heap.push { cls:=.type "tuple_iterator", data:=.fields #[.ref tu,.int 0 0] }).push { cls:=.type "enumerate", data:=.fields #[.none,.bool false,.ref s.heap.objs.size,rawInt 0,.none,.none] }) (s.heap.objs.size+1) s.heap.objs.size 0 .none:=by
  have q:=Heap.get?_push_size (s.heap.push { cls:=.type "tuple_iterator", data:=.fields #[.ref tu,.int 0 0] }) (o:={ cls:=.type "enumerate", data:=.fields #[.none,.bool false,.ref s.heap.objs.size,rawInt 0,.none,.none] }) rfl
  rw [sz] at q;exact q
 refine ⟨⟨_,isE,rfl⟩,go _ isE ⟨_,Heap.get?_push_of_some _ (Heap.get?_push_size _ rfl),rfl,rfl⟩ (by rw [Heap.size_push,sz]) fun b o z=>Heap.get?_push_of_some _ (Heap.get?_push_of_some _ z)⟩
theorem fy {it tu:Addr} {i:Nat} {vs:Array Value} {x:Value} {Q:Value->Shared->Prop} (hIt:s.heap.IsTupleIter it tu i) (hT:s.heap.IsTuple tu vs) (hx:vs[i]?=some x)
  (go:∀h1,h1.IsTupleIter it tu (i+1)->Heap.SameBut it s.heap h1->Q x { s with heap:=h1 }):wpAny (model prog w) A (Builtin.SmallTypes.nextOf (.ref it)) Q E s:=by
 have key:=wpAny_pyNext_tuple_item (prog:=prog) (w:=w) (A:=A) (E:=E) (Q:=fun r s1 => ∃v,r=some v/\Q v s1) hIt hT hx (fun h1 a b=>⟨x,rfl,go h1 a b⟩)
 obtain ⟨o,ho,hc,hd⟩:=id hIt
 obtain ⟨ot,hot,_,nt,hdt⟩:=hT
 unfold Builtin.SmallTypes.nextOf
 refine wpAny_bind (wpAny_callSpecial?_slot (name:=Str.ofString "__next__") hIt.typeIs F.slot_tuple_iterator_next (wpAny_call_entry F.slot_tuple_iterator_next hIt.typeIs F.entry_tuple_iterator_next ?_ (F.args_tuple_iterator_next_1 _)))
 show wpAny _ _ (field (.ref it) 0 >>= _) _ _ s
 refine wpAny_bind (wpAny_field ho hd (x:=.ref tu) rfl ?_)
 show wpAny _ _ (if (Value.ref tu==Value.none)=true then _ else _) _ _ s
 rw [if_neg (show ¬ ((Value.ref tu==Value.none)=true) from Bool.false_ne_true)]
 show wpAny _ _ (field (.ref it) 1 >>= _) _ _ s
 refine wpAny_bind (wpAny_field ho hd (x:=Value.int (i:Int) 0) rfl ?_)
 show wpAny _ _ (seqItems? (.ref tu) >>= _) _ _ s
 refine wpAny_bind (wpAny_seqItems hot hdt ?_)
 simp only [Int.toNat_natCast,hx]
 refine wpAny_bind (wpAny_setField ho hd (by simp) (wpAny_pure ⟨x,rfl,wpAny_pure (go _ ?_ (Heap.SameBut.update ..))⟩))
 refine ⟨_,Heap.get?_update_self _ ho (Obj.isFreed_of_fields (Obj.data_mapFields hd _)),(Obj.cls_mapFields ..).trans hc,?_⟩
 rw [Obj.data_mapFields hd];simp [rawInt]
theorem qt {it tu:Addr} {i:Nat} {vs:Array Value} {Q:Value->Shared->Prop} (hh:A.handled=none) (hIt:s.heap.IsTupleIter it tu i) (hT:s.heap.IsTuple tu vs) (hx:vs[i]?=none)
  (go:∀h1 x,Heap.ExtBut it s.heap h1->(∃o,h1.get? x=some o/\o.cls=.type "StopIteration")->E (.ref x) { s with heap:=h1 }):wpAny (model prog w) A (Builtin.SmallTypes.nextOf (.ref it)) Q E s:=by
 obtain ⟨o,ho,hc,hd⟩:=id hIt
 obtain ⟨ot,hot,_,nt,hdt⟩:=hT
 unfold Builtin.SmallTypes.nextOf
 refine wpAny_bind (wpAny_callSpecial?_slot (name:=Str.ofString "__next__") hIt.typeIs F.slot_tuple_iterator_next (wpAny_call_entry F.slot_tuple_iterator_next hIt.typeIs F.entry_tuple_iterator_next ?_ (F.args_tuple_iterator_next_1 _)))
 show wpAny _ _ (field (.ref it) 0 >>= _) _ _ s
 refine wpAny_bind (wpAny_field ho hd (x:=.ref tu) rfl ?_)
 show wpAny _ _ (if (Value.ref tu==Value.none)=true then _ else _) _ _ s
 rw [if_neg (show ¬ ((Value.ref tu==Value.none)=true) from Bool.false_ne_true)]
 show wpAny _ _ (field (.ref it) 1 >>= _) _ _ s
 refine wpAny_bind (wpAny_field ho hd (x:=Value.int (i:Int) 0) rfl ?_)
 show wpAny _ _ (seqItems? (.ref tu) >>= _) _ _ s
 refine wpAny_bind (wpAny_seqItems hot hdt ?_)
 simp only [Int.toNat_natCast,hx]
 refine wpAny_bind (wpAny_rule (wpAny_bind (wpAny_setField ho hd (by simp) ?_)))
 show wpAny _ _ (newExc (.type "StopIteration") [] >>= _) _ _ _
 refine wpAny_bind ?_
 simp only [newExc,newTuple]
 refine wpAny_bind (wpAny_newObj_type ?_ (by size_fits))
 refine wpAny_bind (m:=firstArgMember _ _) (wpAny_of_eq (a:=Value.none) (by first|rfl | (simp only [firstArgMember] <;> rfl)) ?_)
 refine wpAny_newObj_type ?_ (by size_fits)
 simp only [raiseNew]
 refine wpAny_bind (wpAny_handled ?_)
 first|rw [show A.in1.handled=none from hh] | rw [hh]
 refine wpAny_bind (wpAny_pure (wpAny_throw ?_))
 exact go _ _ (((Heap.SameBut.update ..).extBut.push _).push _) ⟨_,Heap.get?_push_size _ rfl,rfl⟩
theorem uv {e it:Addr} {i:Nat} {x old:Value} {Q:Value->Shared->Prop} {Kn:Heap->Prop} (isE:IsEnum s.heap e it i old) (hne:e≠it)
  (stay:∀h1 h2:Heap,Kn h1->(∀o,h1.get? it=some o->h2.get? it=some o)->Kn h2)
  (inner:∀(Q1:Value->Shared->Prop),(∀h1,Kn h1->Heap.SameBut it s.heap h1->Q1 x { s with heap:=h1 })->wpAny (model prog w) A.in1 (Builtin.SmallTypes.nextOf (.ref it)) Q1 E s)
  (go:∀h1,IsEnumOut h1 e it ((i:Int)+1) x s.heap.objs.size->Kn h1->h1.get? s.heap.objs.size=some { cls:=.type "tuple", data:=.seq #[.int i s.toks,x] }->(∀b o,b≠e->b≠it->s.heap.get? b=some o->h1.get? b=some o)->Q (.ref s.heap.objs.size) { s with heap:=h1,toks:=s.toks+1 }) :
  wpAny (model prog w) A.in1 (Builtin.«enumerate.__next__» ⟨[.ref e],[]⟩) (fun fin s' => ∃v,fin=.done (.ret v)/\Q v s') E s:=by
 obtain ⟨h0,gg,dd,t0,oo⟩:=s
 have elt:e < h0.objs.size:=Heap.lt_size isE
 show wpAny _ _ (field (.ref e) 2 >>= _) _ _ _
 refine wpAny_bind (wpAny_field isE rfl (x:=Value.ref it) rfl (wpAny_bind (inner _ fun h1 k1 b1=>?_)))
 have b1':Heap.SameBut it h0 h1:=b1
 have E1:IsEnum h1 e it i old:=(b1'.2 e hne).trans isE
 show wpAny _ _ (field (.ref e) 3 >>= _) _ _ ⟨h1,gg,dd,t0,oo⟩
 refine wpAny_bind (wpAny_field E1 rfl (x:=rawInt (i:Int)) rfl ?_)
 show wpAny _ _ (field (.ref e) 4 >>= _) _ _ ⟨h1,gg,dd,t0,oo⟩
 refine wpAny_bind (wpAny_field E1 rfl (x:=Value.none) rfl ?_)
 show wpAny _ _ (mkInt i >>= _) _ _ ⟨h1,gg,dd,t0,oo⟩
 refine wpAny_bind (wpAny_mkInt ?_)
 show wpAny _ _ (setField (.ref e) 3 (rawInt ((i:Int)+1)) >>= _) _ _ ⟨h1,gg,dd,t0+1,oo⟩
 refine wpAny_bind (wpAny_setField_rec E1 (by simp) fun h2 E2 b2=>?_)
 have b2':Heap.SameBut e h1 h2:=b2
 have E2':IsEnum h2 e it ((i:Int)+1) old:=E2
 show wpAny _ _ (setField (.ref e) 4 .none >>= _) _ _ ⟨h2,gg,dd,t0+1,oo⟩
 refine wpAny_bind (wpAny_setField_rec E2' (by simp) fun h3 E3 b3=>?_)
 have b3':Heap.SameBut e h2 h3:=b3
 have E3':IsEnum h3 e it ((i:Int)+1) old:=E3
 show wpAny _ _ (newTuple [.int i t0,x] >>= _) _ _ ⟨h3,gg,dd,t0+1,oo⟩
 refine wpAny_bind (wpAny_newTuple ?_)
 have z3:h3.objs.size=h0.objs.size:=by rw [b3'.1,b2'.1,b1'.1]
 have E4:IsEnum (h3.push { cls:=.type "tuple", data:=.seq #[.int i t0,x] }) e it ((i:Int)+1) old:=Heap.get?_push_of_some _ E3'
 have T4:(h3.push { cls:=.type "tuple", data:=.seq #[.int i t0,x] }).get? h0.objs.size=some { cls:=.type "tuple", data:=.seq #[.int i t0,x] }:=by rw [<- z3];exact Heap.get?_push_size _ rfl
 have K4:∀b o,b≠e->b≠it->h0.get? b=some o->(h3.push { cls:=.type "tuple", data:=.seq #[.int i t0,x] }).get? b=some o:=fun b o n1 n2 q=>Heap.get?_push_of_some _ (b3'.extBut b o n1 (b2'.extBut b o n1 (b1'.extBut b o n2 q)))
 have N4:Kn (h3.push { cls:=.type "tuple", data:=.seq #[.int i t0,x] }):=stay h1 _ k1 fun o q=>Heap.get?_push_of_some _ (b3'.extBut it o (Ne.symm hne) (b2'.extBut it o (Ne.symm hne) q))
 rw [z3]
 generalize h3.push { cls:=.type "tuple", data:=.seq #[.int i t0,x] }=h4 at E4 T4 K4 N4
 show wpAny _ _ (Builtin.SmallTypes.ownedTupleIsFree (.ref e) >>= _) _ _ ⟨h4,gg,dd,t0+1,oo⟩
 refine wpAny_bind ?_
 unfold Builtin.SmallTypes.ownedTupleIsFree
 refine wpAny_bind (wpAny_field E4 rfl (x:=Value.none) rfl (wpAny_pure ?_))
 simp only [if_true]
 refine wpAny_bind (wpAny_rule (wpAny_bind (wpAny_field E4 rfl (x:=old) rfl ?_)))
 refine wpAny_bind (wpAny_setField_rec E4 (by simp) fun h5 E5 b5=>?_)
 have b5':Heap.SameBut e h4 h5:=b5
 have E5':IsEnum h5 e it ((i:Int)+1) x:=E5
 show wpAny _ _ (Builtin.SmallTypes.ownedTupleHandOut (.ref e) (.ref h0.objs.size) >>= _) _ _ ⟨h5,gg,dd,t0+1,oo⟩
 refine wpAny_bind ?_
 unfold Builtin.SmallTypes.ownedTupleHandOut
 refine wpAny_bind (wpAny_setField_rec E5' (by simp) fun h6 E6 b6=>?_)
 have b6':Heap.SameBut e h5 h6:=b6
 have E6':IsEnumOut h6 e it ((i:Int)+1) x h0.objs.size:=E6
 refine wpAny_setField_rec E6' (by simp) fun h7 E7 b7=>?_
 have b7':Heap.SameBut e h6 h7:=b7
 have E7':IsEnumOut h7 e it ((i:Int)+1) x h0.objs.size:=E7
 have far:∀b o,b≠e->h4.get? b=some o->h7.get? b=some o:=fun b o n1 q=>b7'.extBut b o n1 (b6'.extBut b o n1 (b5'.extBut b o n1 q))
 refine wpAny_bind (wpAny_letGo (wpAny_pure ⟨_,rfl,go h7 E7' ?_ (far _ _ (Nat.ne_of_gt elt) T4) fun b o n1 n2 q=>far b o n1 (K4 b o n1 n2 q)⟩))
 exact stay h4 h7 N4 fun o q=>far it o (Ne.symm hne) q
theorem Dk {e it tu:Addr} {i:Nat} {vs:Array Value} {x old:Value} {Q:Option Value->Shared->Prop} (isE:IsEnum s.heap e it i old) (hIt:s.heap.IsTupleIter it tu i) (hT:s.heap.IsTuple tu vs) (hx:vs[i]?=some x) (hne:e≠it)
  (go:∀h1,IsEnumOut h1 e it ((i:Int)+1) x s.heap.objs.size->h1.IsTupleIter it tu (i+1)->h1.get? s.heap.objs.size=some { cls:=.type "tuple", data:=.seq #[.int i s.toks,x] }->(∀b o,b≠e->b≠it->s.heap.get? b=some o->h1.get? b=some o)->Q (some (.ref s.heap.objs.size)) { s with heap:=h1,toks:=s.toks+1 }) :
  wpAny (model prog w) A (pyNext (.ref e)) Q E s:=by
 have tyE:s.TypeIs (.ref e) "enumerate" := ⟨_,isE,rfl⟩
 unfold pyNext
 refine wpAny_bind (wpAny_attempt (wpAny_callSpecial?_slot (name:=Str.ofString "__next__") tyE F.slot_enumerate_next (wpAny_call_entry F.slot_enumerate_next tyE F.entry_enumerate_next ?_ (F.args_enumerate_next_1 _))))
 exact uv (Kn:=fun h1=>h1.IsTupleIter it tu (i+1)) isE hne (fun h1 h2 k hk=>k.at hk) (fun Q1 q1=>fy hIt hT hx q1) fun h1 a b c d=>wpAny_pure (go h1 a b c d)
theorem GH {e it tu:Addr} {i:Nat} {vs:Array Value} {old:Value} {Q:Option Value->Shared->Prop} (hh:A.handled=none) (isE:IsEnum s.heap e it i old) (hIt:s.heap.IsTupleIter it tu i) (hT:s.heap.IsTuple tu vs) (hx:vs[i]?=none)
  (go:∀h1,Heap.ExtBut it s.heap h1->Q none { s with heap:=h1 }):wpAny (model prog w) A (pyNext (.ref e)) Q E s:=by
 have tyE:s.TypeIs (.ref e) "enumerate" := ⟨_,isE,rfl⟩
 unfold pyNext
 refine wpAny_bind (wpAny_attempt (wpAny_callSpecial?_slot (name:=Str.ofString "__next__") tyE F.slot_enumerate_next (wpAny_call_entry F.slot_enumerate_next tyE F.entry_enumerate_next ?_ (F.args_enumerate_next_1 _))))
 show wpAny _ _ (field (.ref e) 2 >>= _) _ _ _
 refine wpAny_bind (wpAny_field isE rfl (x:=Value.ref it) rfl (wpAny_bind (qt hh hIt hT hx fun h1 xx eb hx'=>?_)))
 obtain ⟨o,ho,hc⟩:=hx'
 exact wpAny_bind (wpAny_isInstance (T := "StopIteration") (b:=true) ⟨o,ho,hc⟩ isSubtype_stop (wpAny_pure (go _ eb)))
end
end Sp
namespace Sp
open PySem PySem.Spec PyProof.Rows L2
variable {X:Cx}
theorem iz {pins:List (Addr×Obj)} {σ:L2.St} {H:Hp} {s:Shared} {h2:Heap} {t2:Nat} {ch:List Addr} {p:Addr} {o:HO} (I:Inv X pins σ H s)
  (k:∀b u,b∉ch->s.heap.get? b=some u->h2.get? b=some u) (hp:s.heap.objs.size<=p) (hn:∀b∈ch,fQ X pins H b) (new:cn X.prog X.w (aN H p o) h2 p o):Inv X pins σ (aN H p o) { s with heap:=h2,toks:=t2 }:=by
 have hH:H p=none:=I.hok.fresh hp
 have tr:∀b u,H b=some u->b∉ch:=fun b u e z=>by rw [(hn b z).1] at e;cases e
 have un:Un (i7 X.stack) ch H (aN H p o) s.heap h2:=by
  refine ⟨fun b ob e n _ c=>k b ob c e,fun b ob e n _ c=>⟨ob.slots,k b ob c e⟩,fun b ob e n c=>?_,fun b ob e c=>⟨ob,k b ob c e⟩,fun b xs e=>?_,fun b ob u e=>?_,fun b ps e=>⟨#[],?_⟩⟩
  ·rw [ay (Nat.ne_of_lt (Nat.lt_of_lt_of_le (Heap.lt_size e) hp))];exact n
  ·rw [ay (bF e hH)];exact e
  ·rw [ay (bF e hH)];exact e
  ·rw [ay (bF e hH),e];simp
 refine I.call (g':=s.gens) (d':=s.drawn) un (fun b u e=>?_) I.bare fun b hb=>⟨(hn b hb).2.2.2.1,(hn b hb).2.1,(hn b hb).2.2.2.2.1,(hn b hb).2.2.2.2.2⟩
 by_cases hb:b=p
 ·subst hb;rw [aH] at e;cases e;exact new
 ·rw [ay hb] at e
  refine (I.hok b u e).stay (fun c v hc q=>k c v ?_ q) (fun c q=>by rw [ay (bF q hH)];exact q) fun c xs q=>by rw [ay (bF q hH)];exact q
  rcases hc with z|z
  ·rw [z];exact tr b u e
  ·exact tr c _ z
def RC (K:W.Frag) (a:Addr):It :=
 ⟨fun i H => ∃xs x,cm K H a xs/\xs[i]?=some x,fun i H x H' => ∃p v,x=.ref p/\H p=none/\H'=aN H p (.tup [.int (i:Nat),v])/\∀xs,cm K H a xs->xs[i]?=some v,fun i H => ∃xs,cm K H a xs/\xs.length<=i⟩
theorem wp {P:Program} {w:World} {K:W.Frag} {es:List Expr} {n1:Nat} {pos:Pos} (a e it:Addr) (hne:e≠it) :
  L2.Turn P w K (.Tuple es n1 pos) (RC K a) [e,it] e (fun i h=>(∃old,IsEnum h e it ((i:Nat):Int) old)/\h.IsTupleIter it a i) where
 mem:=by simp
 obj:=fun i h st b hb=>by
  obtain ⟨⟨old,q⟩,o,q2,c,d⟩:=st
  rcases List.mem_cons.mp hb with rfl|hb
  ·exact ⟨_,q,fun v z=>by have z':Data.fields _=Data.cell v:=z;cases z'⟩
  ·have eb:b=it:=by simpa using hb
   subst eb
   exact ⟨o,q2,fun v z=>by rw [d] at z;cases z⟩
 keep:=fun i h h' st k=>⟨let ⟨old,q⟩:=st.1;⟨old,k e (by simp) _ q⟩,st.2.at fun o q=>k it (by simp) o q⟩
 item:=by
  intro Y hP hw hK hc i pins s σ H E I hf st hg
  subst hP hw hK
  obtain ⟨xs,x,hq,hx⟩:=hg
  obtain ⟨its,rv,p,hz⟩:=I.tuple hq
  obtain ⟨u,hu,ru⟩:=rv.get hx
  obtain ⟨⟨old,isE⟩,hIt⟩:=st
  refine Dk isE hIt (show s.heap.IsTuple a its.toArray from p) (x:=u) (by simpa using hu) hne fun h1 eo it1 t1 k1=>?_
  refine ⟨_,rfl,wpAny_letOwnedTupleGo_enum eo fun h2 e2 sb2=>?_⟩
  have sb2':Heap.SameBut e h1 h2:=sb2
  have elt:e < s.heap.objs.size:=Heap.lt_size isE
  have k2:∀b o,b∉[e,it]->s.heap.get? b=some o->h2.get? b=some o:=fun b o nb q=>by
   have n1:b≠e:=fun z=>nb (by simp [z])
   have n2:b≠it:=fun z=>nb (by simp [z])
   exact sb2'.extBut b o n1 (k1 b o n1 n2 q)
  have t2:h2.get? s.heap.objs.size=some { cls:=.type "tuple", data:=.seq #[.int i s.toks,u] }:=sb2'.extBut _ _ (Nat.ne_of_gt elt) t1
  have hn0:H s.heap.objs.size=none:=I.hok.fresh (Nat.le_refl _)
  refine ⟨.ref s.heap.objs.size,aN H s.heap.objs.size (.tup [.int (i:Nat),x]),iz (s:=s) (h2:=h2) (t2:=s.toks+1) I k2 (Nat.le_refl _) hf ?_,rfl,⟨_,x,rfl,hn0,rfl,fun ys hy=>by rw [I.tuple_inj hy hq];exact hx⟩,⟨⟨u,?_⟩,it1.at fun o q=>sb2'.extBut it o (Ne.symm hne) q⟩,fun b hb=>?_⟩
  ·exact ⟨by show 2<=sizeLine;decide,[.int i s.toks,u],.cons ⟨_,rfl⟩ (.cons ru .nil),⟨_,t2,rfl,_,rfl⟩⟩
  ·have q:=e2
   rw [show ((i:Nat):Int)+1=((i+1:Nat):Int) by omega] at q
   exact q
  ·have hb':=hf b hb
   have lt:b < s.heap.objs.size:=by
    rcases List.mem_cons.mp hb with rfl|hb
    ·exact elt
    ·have eb:b=it:=by simpa using hb
     subst eb
     obtain ⟨o,q,_⟩:=hIt
     exact Heap.lt_size q
   rw [ay (Nat.ne_of_lt lt)];exact hb'.1
 done:=by
  intro Y hP hw hK hc i pins s σ H E I hf st hg
  subst hP hw hK
  obtain ⟨xs,hq,hx⟩:=hg
  obtain ⟨its,rv,p,hz⟩:=I.tuple hq
  obtain ⟨⟨old,isE⟩,hIt⟩:=st
  obtain ⟨f0,f1,f2,f3,f4,f5⟩:=hf it (by simp)
  have hl:=rv.length
  exact GH (I.ok.hd hc) isE hIt (show s.heap.IsTuple a its.toArray from p) (by simp;omega) fun h1 eb=>⟨rfl,I.turned (t':=s.toks) (fun b o hb q=>eb b o hb q) f0 f1 f3 f4 f5⟩
 self:=fun _ _ _ _ _ st h=>let ⟨old,q⟩:=st.1;wpAny_pyIter_enum q h
theorem C5 {ρ:ak} {es:List Expr} {n1:Nat} {tp p pos:Pos} {a:Expr} {l:List D} {k:Nat} (hg:Gl X "enumerate") (hm0:X.mg "enumerate" = none) (ha:AD X ρ [a] [.tup l] k) (hst:∀y p,a ≠ .Starred y p) (hf:ax l=true) :
  IE X ρ (.Tuple es n1 tp) (.Call (.Name "enumerate" p) [a] [] pos) (l.mapIdx fun i x=>.tup [.int (i:Nat),x]) 0:=by
 intro ow pins s σ H R I ⟨E,q⟩
 refine Call_ (dl I hg hm0 (show bootBuiltins "enumerate" = some (.type "enumerate") by decide +kernel) (PyProof.Rows.callWith_type1 (aR (ha ow pos pins s σ H (fun vs H1=>aA H H1/\ai X.K H1 (Kp ow H k) [.tup l] vs) I ⟨E,fun vs H1 s1 r1=>⟨s1,r1⟩⟩) fun us s1 ⟨vs,H1,I1,rv,sm,rp⟩=>?_) (aV hst) rfl) (by decide +kernel) (by decide +kernel))
 obtain ⟨v,rfl,rv1⟩:=rp.only
 obtain ⟨ta,xs,rfl,hq,rl⟩:=eD rv1
 obtain ⟨u,rfl,ru⟩:=eJ rv
 cases (show u=Value.ref ta from ru)
 obtain ⟨its,rvs,pt,hz⟩:=I1.tuple hq
 refine Dm (show s1.heap.IsTuple ta its.toArray from pt) fun h2 isE hIt sz k2=>?_
 refine wpAny_pyIter_enum isE ?_
 have I2:Inv X pins σ H1 { s1 with heap:=h2 }:=I1.kept (t':=s1.toks) k2
 have f0:H1 s1.heap.objs.size=none:=I1.hok.fresh (Nat.le_refl _)
 have f1:H1 (s1.heap.objs.size+1)=none:=I1.hok.fresh (Nat.le_succ _)
 refine ⟨s1.heap.objs.size+1,[s1.heap.objs.size+1,s1.heap.objs.size],_,_,H1,rfl,I2,wp ta _ _ (Nat.ne_of_gt (Nat.lt_succ_self _)),⟨⟨_,isE⟩,hIt⟩,fun b hb=>?_,q _ H1 sm ?_⟩
 ·rcases List.mem_cons.mp hb with rfl|hb
  ·exact I1.fpOk (Nat.le_succ _) f1
  ·have eb:b=s1.heap.objs.size:=by simpa using hb
   subst eb
   exact I1.fpOk (Nat.le_refl _) f0
 ·intro i H2 st
  have rl':ai X.K H1 (Kd ow H 0 H1) l xs:=rl.flat _ hf
  refine ⟨fun d hd=>?_,fun hle=>?_⟩
  ·rw [List.getElem?_mapIdx] at hd
   cases e:l[i]? with
   | none=>rw [e] at hd;cases hd
   | some x =>
    rw [e] at hd;cases hd
    obtain ⟨y,hy,ry⟩:=rl'.get e
    refine ⟨⟨xs,y,st.sq hq,hy⟩,fun x' H3 ⟨p',v',e1,e2,e3,e4⟩=>?_⟩
    have hv:=e4 xs (st.sq hq)
    rw [hy] at hv;cases hv
    subst e1 e3
    have sm3:=cz (o:=HO.tup [.int (i:Nat),y]) e2
    refine ⟨sm3,?_⟩
    rw [al]
    exact ⟨p',_,rfl,cm.of aH,ai.cons (by rw [al]) (ai.one ((ry.mono st).same sm3))⟩
  ·rw [List.length_mapIdx] at hle
   exact ⟨xs,st.sq hq,by rw [<- rl.length];exact hle⟩
theorem pk {tg:Expr} (h:gt tg=true):∃es n p,tg=.Tuple es n p:=by
 cases tg <;> first|exact ⟨_,_,_,rfl⟩ | cases h
end Sp
namespace Sp
open PySem PySem.Spec PyProof.Rows L2
open AutoSeq1 (wpAny_loadPart')
structure Wk (prog:Program) (w:World) (i l:Addr) (P:Nat->Heap->Prop) (g:Nat->Option Value):Prop where
 stay:∀k (h h':Heap),P k h->(∀c o,c=i\/c=l->h.get? c=some o->h'.get? c=some o)->P k h'
 here:∀k (h:Heap),P k h->∃o,h.get? i=some o/\∀v,o.data≠Data.cell v
 item:∀(A:Around) (E:Value->Shared->Prop) (s:Shared) (k:Nat) (x:Value) (Q:Value->Shared->Prop),P k s.heap->g k=some x->(∀h1,P (k+1) h1->Heap.SameBut i s.heap h1->Q x { s with heap:=h1 })->wpAny (model prog w) A (Builtin.SmallTypes.nextOf (.ref i)) Q E s
 done:∀(A:Around) (E:Value->Shared->Prop) (s:Shared) (k:Nat) (Q:Value->Shared->Prop),A.handled=none->P k s.heap->g k=none->(∀h1 x,Heap.ExtBut i s.heap h1->(∃o,h1.get? x=some o/\o.cls=.type "StopIteration")->E (.ref x) { s with heap:=h1 })->wpAny (model prog w) A (Builtin.SmallTypes.nextOf (.ref i)) Q E s
theorem jL {prog:Program} {w:World} {i l:Addr} {xs:Array Value} (ne:l≠i):Wk prog w i l (fun k h=>h.IsTupleIter i l k/\h.IsTuple l xs) (fun k=>xs[k]?) where
 stay:=fun k h h' p q=>⟨p.1.at fun o e=>q i o (.inl rfl) e,p.2.at fun o e=>q l o (.inr rfl) e⟩
 here:=fun k h p=>let ⟨o,e,_,d⟩:=p.1;⟨o,e,fun v z=>by rw [d] at z;cases z⟩
 item:=fun A E s k x Q p hx q=>fy p.1 p.2 hx fun h1 a b=>q h1 ⟨a,p.2.extBut b.extBut ne⟩ b
 done:=fun A E s k Q hh p hx q=>qt hh p.1 p.2 hx q
theorem DS {prog:Program} {w:World} {i l:Addr} {xs:Array Value} (ne:l≠i):Wk prog w i l (fun k h=>h.IsListIter i l k/\h.IsList l xs) (fun k=>xs[k]?) where
 stay:=fun k h h' p q=>⟨p.1.at fun o e=>q i o (.inl rfl) e,p.2.at fun o e=>q l o (.inr rfl) e⟩
 here:=fun k h p=>let ⟨o,e,_,d⟩:=p.1;⟨o,e,fun v z=>by rw [d] at z;cases z⟩
 item:=fun A E s k x Q p hx q=>wpAny_nextOf_list_item p.1 p.2 hx fun h1 a b=>q h1 ⟨a,p.2.extBut b.extBut ne⟩ b
 done:=fun A E s k Q hh p hx q=>wpAny_nextOf_list_end hh p.1 p.2 hx q
section
variable {prog:Program} {w:World} {A:Around} {E:Value->Shared->Prop} {s:Shared}
variable {z TI TO i1 i2 l1 l2:Addr} {k1 k2:Nat} {P1 P2:Nat->Heap->Prop} {g1 g2:Nat->Option Value} {x y a b:Value}
structure Zs (z TI TO i1 i2 l1 l2:Addr) (P1 P2:Nat->Heap->Prop) (k:Nat) (h:Heap):Prop where
 ap:ZipApart z TI TO i1 i2 l1 l2
 rd:IsZip h z TI TO .none
 ins:IsPair h TI (.ref i1) (.ref i2)
 out:∃a b,IsPair h TO a b
 fst:P1 k h
 snd:P2 k h
theorem Zs.item {k:Nat} {Q:Value->Shared->Prop} (W1:Wk prog w i1 l1 P1 g1) (W2:Wk prog w i2 l2 P2 g2) (S:Zs z TI TO i1 i2 l1 l2 P1 P2 k s.heap) (hx:g1 k=some x) (hy:g2 k=some y)
  (go:∀h1,(∀h2,IsZip h2 z TI TO .none->Heap.SameBut z h1 h2->Zs z TI TO i1 i2 l1 l2 P1 P2 (k+1) h2)->IsZip h1 z TI TO (rawInt s.heap.objs.size)->IsPair h1 s.heap.objs.size x y->(∀c o,c∉[z,TO,i1,i2]->s.heap.get? c=some o->h1.get? c=some o)->Q (.ref s.heap.objs.size) { s with heap:=h1 }) :
  wpAny (model prog w) A (Builtin.«zip.__next__» ⟨[.ref z],[]⟩) (fun fin s' => ∃v,fin=.done (.ret v)/\Q v s') E s:=by
 obtain ⟨D,isZ,pI,⟨a,b,pO⟩,p1,p2⟩:=S
 obtain ⟨h0,gg,dd,t0,oo⟩:=s
 show wpAny _ _ (field (.ref z) 2 >>= _) _ _ ⟨h0,gg,dd,t0,oo⟩
 refine wpAny_bind (wpAny_field isZ rfl (x:=Value.bool false) rfl ?_)
 show wpAny _ _ (field (.ref z) 3 >>= _) _ _ ⟨h0,gg,dd,t0,oo⟩
 refine wpAny_bind (wpAny_field isZ rfl (x:=Value.ref TI) rfl (wpAny_bind (wpAny_seqItems pI rfl ?_)))
 show wpAny _ _ (Builtin.SmallTypes.ownedTupleIsFree (.ref z) >>= _) _ _ ⟨h0,gg,dd,t0,oo⟩
 unfold Builtin.SmallTypes.ownedTupleIsFree
 refine wpAny_bind (wpAny_bind (wpAny_field isZ rfl (x:=Value.none) rfl (wpAny_pure ?_)))
 simp only [if_true]
 refine wpAny_bind (wpAny_rule (wpAny_bind (wpAny_field isZ rfl (x:=Value.ref TO) rfl (wpAny_bind (wpAny_setField_rec isZ (by simp) fun q1 Z1 m1=>?_)))))
 have Z1:IsZip q1 z TI TO .ellipsis:=Z1
 have m1:Heap.SameBut z h0 q1:=m1
 simp only [List.zipIdx_cons,List.zipIdx_nil,List.forIn_cons,List.forIn_nil]
 refine wpAny_bind (wpAny_bind (wpAny_bind (wpAny_onRaise ?_)))
 show wpAny _ _ (Builtin.SmallTypes.nextOf (.ref i1) >>= _) _ _ ⟨q1,gg,dd,t0,oo⟩
 have e1:∀c o,c≠z->h0.get? c=some o->q1.get? c=some o:=fun c o n u=>m1.extBut c o n u
 refine wpAny_bind (W1.item _ _ _ k x _ (W1.stay k _ _ p1 fun c o hc u=>e1 c o (by rcases hc with rfl|rfl;exact D.i1z;exact D.l1z) u) hx fun q2 p1' m2=>wpAny_pure ?_)
 have m2:Heap.SameBut i1 q1 q2:=m2
 have e2:∀c o,c≠z->c≠i1->h0.get? c=some o->q2.get? c=some o:=fun c o n n' u=>m2.extBut c o n' (e1 c o n u)
 have O2:IsPair q2 TO a b:=e2 _ _ D.TOz D.TOi1 pO
 refine wpAny_bind (wpAny_seqItems O2 rfl (wpAny_bind (wpAny_updateSeq_pair O2 fun q3 O3 m3=>wpAny_bind (wpAny_letGo (wpAny_pure ?_)))))
 have O3:IsPair q3 TO x b:=O3
 have m3:Heap.SameBut TO q2 q3:=m3
 have e3:∀c o,c≠z->c≠i1->c≠TO->h0.get? c=some o->q3.get? c=some o:=fun c o n n' n'' u=>m3.extBut c o n'' (e2 c o n n' u)
 refine wpAny_bind (wpAny_bind (wpAny_onRaise ?_))
 show wpAny _ _ (Builtin.SmallTypes.nextOf (.ref i2) >>= _) _ _ ⟨q3,gg,dd,t0,oo⟩
 refine wpAny_bind (W2.item _ _ _ k y _ (W2.stay k _ _ p2 fun c o hc u=>by
  rcases hc with rfl|rfl
  ·exact e3 c o D.i2z D.i12.symm D.TOi2.symm u
  ·exact e3 c o D.l2z D.l2i1 D.l2TO u) hy fun q4 p2' m4=>wpAny_pure ?_)
 have m4:Heap.SameBut i2 q3 q4:=m4
 have O4:IsPair q4 TO x b:=m4.extBut _ _ D.TOi2 O3
 refine wpAny_bind (wpAny_seqItems O4 rfl (wpAny_bind (wpAny_updateSeq_pair O4 fun q5 O5 m5=>wpAny_bind (wpAny_letGo (wpAny_pure (wpAny_pure ?_))))))
 have O5:IsPair q5 TO x y:=O5
 have m5:Heap.SameBut TO q4 q5:=m5
 refine wpAny_bind (wpAny_seqItems O5 rfl (wpAny_bind (wpAny_newTuple ?_)))
 have sz:q5.objs.size=h0.objs.size:=by rw [m5.1,m4.1,m3.1,m2.1,m1.1]
 have e5:∀c o,c≠z->c≠i1->c≠TO->c≠i2->h0.get? c=some o->q5.get? c=some o:=fun c o n n' n'' n3 u=>m5.extBut c o n'' (m4.extBut c o n3 (e3 c o n n' n'' u))
 have Z5:IsZip q5 z TI TO .ellipsis:=m5.extBut _ _ D.TOz.symm (m4.extBut _ _ D.i2z.symm (m3.extBut _ _ D.TOz.symm (m2.extBut _ _ D.i1z.symm Z1)))
 have r1:P1 (k+1) q5:=W1.stay _ _ _ p1' fun c o hc u=>by
  rcases hc with rfl|rfl
  ·exact m5.extBut c o D.TOi1.symm (m4.extBut c o D.i12 (m3.extBut c o D.TOi1.symm u))
  ·exact m5.extBut c o D.l1TO (m4.extBut c o D.l1i2 (m3.extBut c o D.l1TO u))
 have r2:P2 (k+1) q5:=W2.stay _ _ _ p2' fun c o hc u=>by
  rcases hc with rfl|rfl
  ·exact m5.extBut c o D.TOi2.symm u
  ·exact m5.extBut c o D.l2TO u
 have I5:IsPair q5 TI (.ref i1) (.ref i2):=e5 _ _ D.TIz D.TIi1 D.TITO D.TIi2 pI
 have zl:z < q5.objs.size:=Heap.lt_size Z5
 show wpAny _ _ (Builtin.SmallTypes.ownedTupleHandOut (.ref z) (.ref q5.objs.size) >>= _) _ _ ⟨q5.push { cls:=.type "tuple", data:=.seq #[x,y] },gg,dd,t0,oo⟩
 unfold Builtin.SmallTypes.ownedTupleHandOut
 have Z6:IsZip (q5.push { cls:=.type "tuple", data:=.seq #[x,y] }) z TI TO .ellipsis:=Heap.get?_push_of_some _ Z5
 refine wpAny_bind (wpAny_bind (wpAny_setField_rec Z6 (by simp) fun q7 Z7 m7=>?_))
 have Z7:IsZip q7 z TI TO (rawInt q5.objs.size):=Z7
 refine wpAny_setField_rec Z7 (by simp) fun q8 Z8 m8=>?_
 have Z8:IsZip q8 z TI TO (rawInt q5.objs.size):=Z8
 have far:∀c o,c≠z->q5.get? c=some o->q8.get? c=some o:=fun c o n u=>m8.extBut _ _ n (m7.extBut _ _ n (Heap.get?_push_of_some _ u))
 have T8:IsPair q8 q5.objs.size x y:=m8.extBut _ _ (Nat.ne_of_gt zl) (m7.extBut _ _ (Nat.ne_of_gt zl) (Heap.get?_push_size _ rfl))
 refine wpAny_pure ⟨_,rfl,?_⟩
 show Q (.ref q5.objs.size) _
 rw [sz] at Z8 T8 ⊢
 refine go q8 (fun h2 Zn mn=>⟨D,Zn,mn.extBut _ _ D.TIz (far _ _ D.TIz I5),⟨x,y,mn.extBut _ _ D.TOz (far _ _ D.TOz O5)⟩,W1.stay _ _ _ r1 fun c o hc u=>?_,W2.stay _ _ _ r2 fun c o hc u=>?_⟩) Z8 T8 fun c o hc u=>?_
 ·have n:c≠z:=by rcases hc with rfl|rfl;exact D.i1z;exact D.l1z
  exact mn.extBut c o n (far c o n u)
 ·have n:c≠z:=by rcases hc with rfl|rfl;exact D.i2z;exact D.l2z
  exact mn.extBut c o n (far c o n u)
 ·have c1:c≠z:=fun q=>hc (by simp [q])
  have c2:c≠TO:=fun q=>hc (by simp [q])
  have c3:c≠i1:=fun q=>hc (by simp [q])
  have c4:c≠i2:=fun q=>hc (by simp [q])
  exact far c o c1 (e5 c o c1 c3 c2 c4 u)
theorem Zs.done {k:Nat} {Q:Fin->Shared->Prop} (hh:A.handled=none) (W1:Wk prog w i1 l1 P1 g1) (W2:Wk prog w i2 l2 P2 g2) (S:Zs z TI TO i1 i2 l1 l2 P1 P2 k s.heap) (hxy:g1 k=none\/g2 k=none)
    (go:∀h1 e,(∀c o,c∉[z,TO,i1,i2]->s.heap.get? c=some o->h1.get? c=some o)->(∃o,h1.get? e=some o/\o.cls=.type "StopIteration")->E (.ref e) { s with heap:=h1 }) :
    wpAny (model prog w) A (Builtin.«zip.__next__» ⟨[.ref z],[]⟩) Q E s:=by
  obtain ⟨D,isZ,pI,⟨a,b,pO⟩,p1,p2⟩:=S
  obtain ⟨h0,gg,dd,t0,oo⟩:=s
  show wpAny _ _ (field (.ref z) 2 >>= _) _ _ ⟨h0,gg,dd,t0,oo⟩
  refine wpAny_bind (wpAny_field isZ rfl (x:=Value.bool false) rfl ?_)
  show wpAny _ _ (field (.ref z) 3 >>= _) _ _ ⟨h0,gg,dd,t0,oo⟩
  refine wpAny_bind (wpAny_field isZ rfl (x:=Value.ref TI) rfl (wpAny_bind (wpAny_seqItems pI rfl ?_)))
  show wpAny _ _ (Builtin.SmallTypes.ownedTupleIsFree (.ref z) >>= _) _ _ ⟨h0,gg,dd,t0,oo⟩
  unfold Builtin.SmallTypes.ownedTupleIsFree
  refine wpAny_bind (wpAny_bind (wpAny_field isZ rfl (x:=Value.none) rfl (wpAny_pure ?_)))
  simp only [if_true]
  refine wpAny_bind (wpAny_rule (wpAny_bind (wpAny_field isZ rfl (x:=Value.ref TO) rfl (wpAny_bind (wpAny_setField_rec isZ (by simp) fun q1 Z1 m1=>?_)))))
  have Z1:IsZip q1 z TI TO .ellipsis:=Z1
  have m1:Heap.SameBut z h0 q1:=m1
  simp only [List.zipIdx_cons,List.zipIdx_nil,List.forIn_cons,List.forIn_nil]
  refine wpAny_bind (wpAny_bind (wpAny_bind (wpAny_onRaise ?_)))
  show wpAny _ _ (Builtin.SmallTypes.nextOf (.ref i1) >>= _) _ _ ⟨q1,gg,dd,t0,oo⟩
  have e1:∀c o,c≠z->h0.get? c=some o->q1.get? c=some o:=fun c o n u=>m1.extBut c o n u
  have p1:P1 k q1:=W1.stay k _ _ p1 fun c o hc u=>e1 c o (by rcases hc with rfl|rfl;exact D.i1z;exact D.l1z) u
  have nin:∀c,c∉[z,TO,i1,i2]->c≠z/\c≠TO/\c≠i1/\c≠i2:=fun c hc=>⟨fun q=>hc (by simp [q]),fun q=>hc (by simp [q]),fun q=>hc (by simp [q]),fun q=>hc (by simp [q])⟩
  have last:∀(q2:Heap) (ex:Addr) (oe:Obj),IsZip q2 z TI TO .ellipsis->(∀c o,c∉[z,TO,i1,i2]->h0.get? c=some o->q2.get? c=some o)->q2.get? ex=some oe->oe.cls=.type "StopIteration" ->
      wpAny (model prog w) A (setField (.ref z) 0 .none) (fun _ s'=>E (.ref ex) s') E ⟨q2,gg,dd,t0,oo⟩:=fun q2 ex oe Z2 k2 ho hc=>by
    have hez:ex≠z:=fun u=>by subst u;rw [Z2] at ho;cases ho;simp at hc
    refine wpAny_setField_rec Z2 (by simp) fun q3 _ m3=>go q3 ex (fun c o hc u=>?_) ⟨oe,m3.extBut _ _ hez ho,hc⟩
    exact m3.extBut c o (nin c hc).1 (k2 c o hc u)
  cases hx:g1 k with
  | none =>
    refine wpAny_bind (W1.done _ _ _ k _ hh p1 hx fun q2 ex m2 he=>?_)
    obtain ⟨oe,ho,hc⟩:=he
    have m2:Heap.ExtBut i1 q1 q2:=m2
    exact last q2 ex oe (m2 _ _ D.i1z.symm Z1) (fun c o hc u=>m2 c o (nin c hc).2.2.1 (e1 c o (nin c hc).1 u)) ho hc
  | some x =>
    have hy:g2 k=none:=hxy.resolve_left (by rw [hx];exact fun q=>nomatch q)
    refine wpAny_bind (W1.item _ _ _ k x _ p1 hx fun q2 p1' m2=>wpAny_pure ?_)
    have m2:Heap.SameBut i1 q1 q2:=m2
    have e2:∀c o,c≠z->c≠i1->h0.get? c=some o->q2.get? c=some o:=fun c o n n' u=>m2.extBut c o n' (e1 c o n u)
    have O2:IsPair q2 TO a b:=e2 _ _ D.TOz D.TOi1 pO
    refine wpAny_bind (wpAny_seqItems O2 rfl (wpAny_bind (wpAny_updateSeq_pair O2 fun q3 O3 m3=>wpAny_bind (wpAny_letGo (wpAny_pure ?_)))))
    have m3:Heap.SameBut TO q2 q3:=m3
    have e3:∀c o,c≠z->c≠i1->c≠TO->h0.get? c=some o->q3.get? c=some o:=fun c o n n' n'' u=>m3.extBut c o n'' (e2 c o n n' u)
    refine wpAny_bind (wpAny_bind (wpAny_onRaise ?_))
    show wpAny _ _ (Builtin.SmallTypes.nextOf (.ref i2) >>= _) _ _ ⟨q3,gg,dd,t0,oo⟩
    refine wpAny_bind (W2.done _ _ _ k _ hh (W2.stay k _ _ p2 fun c o hc u=>by
      rcases hc with rfl|rfl
      . exact e3 c o D.i2z D.i12.symm D.TOi2.symm u
      . exact e3 c o D.l2z D.l2i1 D.l2TO u) hy fun q4 ex m4 he=>?_)
    obtain ⟨oe,ho,hc⟩:=he
    have m4:Heap.ExtBut i2 q3 q4:=m4
    exact last q4 ex oe (m4 _ _ D.i2z.symm (m3.extBut _ _ D.TOz.symm (m2.extBut _ _ D.i1z.symm Z1))) (fun c o hc u=>m4 c o (nin c hc).2.2.2 (e3 c o (nin c hc).1 (nin c hc).2.2.1 (nin c hc).2.1 u)) ho hc
theorem Zs.pyItem {k:Nat} {Q:Option Value->Shared->Prop} (W1:Wk prog w i1 l1 P1 g1) (W2:Wk prog w i2 l2 P2 g2) (S:Zs z TI TO i1 i2 l1 l2 P1 P2 k s.heap) (hx:g1 k=some x) (hy:g2 k=some y)
  (go:∀h1,(∀h2,IsZip h2 z TI TO .none->Heap.SameBut z h1 h2->Zs z TI TO i1 i2 l1 l2 P1 P2 (k+1) h2)->IsZip h1 z TI TO (rawInt s.heap.objs.size)->IsPair h1 s.heap.objs.size x y->(∀c o,c∉[z,TO,i1,i2]->s.heap.get? c=some o->h1.get? c=some o)->Q (some (.ref s.heap.objs.size)) { s with heap:=h1 }) :
  wpAny (model prog w) A (pyNext (.ref z)) Q E s:=by
 have ty:s.TypeIs (.ref z) "zip" := ⟨_,S.rd,rfl⟩
 unfold pyNext
 exact wpAny_bind (wpAny_attempt (wpAny_callSpecial?_slot (name:=Str.ofString "__next__") ty F.slot_zip_next (wpAny_call_entry F.slot_zip_next ty F.entry_zip_next (S.item W1 W2 hx hy fun h1 a b c d=>wpAny_pure (go h1 a b c d)) (F.args_zip_next_1 _))))
theorem Zs.pyDone {k:Nat} {Q:Option Value->Shared->Prop} (hh:A.handled=none) (W1:Wk prog w i1 l1 P1 g1) (W2:Wk prog w i2 l2 P2 g2) (S:Zs z TI TO i1 i2 l1 l2 P1 P2 k s.heap) (hxy:g1 k=none\/g2 k=none)
  (go:∀h1,(∀c o,c∉[z,TO,i1,i2]->s.heap.get? c=some o->h1.get? c=some o)->Q none { s with heap:=h1 }):wpAny (model prog w) A (pyNext (.ref z)) Q E s:=by
 have ty:s.TypeIs (.ref z) "zip" := ⟨_,S.rd,rfl⟩
 unfold pyNext
 refine wpAny_bind (wpAny_attempt (wpAny_callSpecial?_slot (name:=Str.ofString "__next__") ty F.slot_zip_next (wpAny_call_entry F.slot_zip_next ty F.entry_zip_next (S.done hh W1 W2 hxy fun h1 e kk he=>?_) (F.args_zip_next_1 _))))
 obtain ⟨oe,ho,hc⟩:=he
 exact wpAny_bind (wpAny_isInstance (T := "StopIteration") (b:=true) ⟨oe,ho,hc⟩ isSubtype_stop (wpAny_pure (go h1 kk)))
end
abbrev Aa (h:Heap) (a:Addr):Heap:=h.push { cls:=.type "tuple_iterator", data:=.fields #[.ref a,.int 0 0] }
abbrev zZ (h:Heap) (a b:Addr):Heap:=(Aa h a).push { cls:=.type "tuple_iterator", data:=.fields #[.ref b,.int 0 0] }
abbrev zY (h:Heap) (a b:Addr):Heap:=(zZ h a b).push { cls:=.type "tuple", data:=.seq #[.ref h.objs.size,.ref (Aa h a).objs.size] }
abbrev zX (h:Heap) (a b:Addr):Heap:=(zY h a b).push { cls:=.type "tuple", data:=.seq #[.none,.none] }
abbrev qj (h:Heap) (a b:Addr):Heap:=(zX h a b).push { cls:=.type "zip", data:=.fields #[.none,.bool false,.bool false,.ref (zZ h a b).objs.size,.ref (zY h a b).objs.size] }
theorem DN (a b:Addr) (xs ys:Array Value) :
  Meets (Builtin.«zip.__new__» ⟨[.type "zip", .ref a,.ref b],[]⟩) (fun _ R s=>s.heap.IsTuple a xs/\s.heap.IsTuple b ys/\R (.ok (.ret (.ref (zX s.heap a b).objs.size))) { s with heap:=qj s.heap a b }) :=
 .of_wp fun pg wd AA RR st hh=>by
  obtain ⟨hp0,gg,dd,tk0,oo⟩:=st;obtain ⟨ha,hb,hh⟩:=hh
  have hsub0:=sub_zip
  have T1:Heap.IsTuple (Shared.heap ⟨hp0,gg,dd,tk0,oo⟩) a xs:=ha
  have T2:Heap.IsTuple (Shared.heap ⟨hp0.push { cls:=.type "tuple_iterator", data:=.fields #[.ref a,.int 0 0] },gg,dd,tk0,oo⟩) b ys:=hb.at fun o e=>Heap.get?_push_of_some _ e
  wp_walk using wpAny_pyIter_tuple T1,wpAny_pyIter_tuple T2
  exact ⟨_,rfl,hh⟩
theorem Be {prog:Program} {w:World} {A:Around} {E:Value->Shared->Prop} {s:Shared} {a b:Addr} {xs ys:Array Value} {Q:Value->Shared->Prop} (ha:s.heap.IsTuple a xs) (hb:s.heap.IsTuple b ys)
  (go:∀h1,Zs (s.heap.objs.size+4) (s.heap.objs.size+2) (s.heap.objs.size+3) s.heap.objs.size (s.heap.objs.size+1) a b (fun k h=>h.IsTupleIter s.heap.objs.size a k/\h.IsTuple a xs) (fun k h=>h.IsTupleIter (s.heap.objs.size+1) b k/\h.IsTuple b ys) 0 h1->(∀c o,s.heap.get? c=some o->h1.get? c=some o)->Q (.ref (s.heap.objs.size+4)) { s with heap:=h1 }) :
  wpAny (model prog w) A (call (.type "zip") [.ref a,.ref b]) Q E s:=by
 refine callType_new F.called_zip (by decide) (F.typeCall_zip_2 _ _) (F.newCall_zip_2 _ _) (fun ob=>F.args_object_init_3 ob _ _) F.entry_zip_new (DN a b xs ys) ⟨ha,hb,?_⟩
 have s1:(Aa s.heap a).objs.size=s.heap.objs.size+1:=Heap.size_push ..
 have s2:(zZ s.heap a b).objs.size=s.heap.objs.size+2:=by rw [Heap.size_push,s1]
 have s3:(zY s.heap a b).objs.size=s.heap.objs.size+3:=by rw [Heap.size_push,s2]
 have s4:(zX s.heap a b).objs.size=s.heap.objs.size+4:=by rw [Heap.size_push,s3]
 have r5:(qj s.heap a b).get? (zX s.heap a b).objs.size=some _:=Heap.get?_push_size _ rfl
 have r4:(qj s.heap a b).get? (zY s.heap a b).objs.size=some _:=Heap.get?_push_of_some _ (Heap.get?_push_size _ rfl)
 have r3:(qj s.heap a b).get? (zZ s.heap a b).objs.size=some _:=Heap.get?_push_of_some _ (Heap.get?_push_of_some _ (Heap.get?_push_size _ rfl))
 have r2:(qj s.heap a b).get? (Aa s.heap a).objs.size=some _:=Heap.get?_push_of_some _ (Heap.get?_push_of_some _ (Heap.get?_push_of_some _ (Heap.get?_push_size _ rfl)))
 have r1:(qj s.heap a b).get? s.heap.objs.size=some _:=Heap.get?_push_of_some _ (Heap.get?_push_of_some _ (Heap.get?_push_of_some _ (Heap.get?_push_of_some _ (Heap.get?_push_size _ rfl))))
 have up:∀c o,s.heap.get? c=some o->(qj s.heap a b).get? c=some o:=fun c o e=>Heap.get?_push_of_some _ (Heap.get?_push_of_some _ (Heap.get?_push_of_some _ (Heap.get?_push_of_some _ (Heap.get?_push_of_some _ e))))
 have la:a < s.heap.objs.size:=by obtain ⟨_,e,_⟩:=ha;exact Heap.lt_size e
 have lb:b < s.heap.objs.size:=by obtain ⟨_,e,_⟩:=hb;exact Heap.lt_size e
 rw [s2,s3,s4] at r5
 rw [s1,s2] at r3
 rw [s3] at r4
 rw [s1] at r2
 show _/\_
 rw [s4]
 have ne:∀{m n:Nat},m < n->m≠n:=fun h=>Nat.ne_of_lt h
 refine ⟨⟨_,r5,rfl⟩,go _ ⟨?_,r5,r3,⟨_,_,r4⟩,⟨⟨_,r1,rfl,rfl⟩,ha.at fun o e=>up _ _ e⟩,⟨⟨_,r2,rfl,rfl⟩,hb.at fun o e=>up _ _ e⟩⟩ up⟩
 generalize s.heap.objs.size=n at la lb
 have la':(a:Nat) < n:=la
 have lb':(b:Nat) < n:=lb
 constructor <;> first|exact ne (by omega) | exact (ne (by omega)).symm|exact ne (Nat.lt_of_lt_of_le la (by omega)) | exact ne (Nat.lt_of_lt_of_le lb (by omega)) | exact ne la|exact ne lb
end Sp
namespace Sp
open PySem PySem.Spec PyProof.Rows L2
variable {X:Cx}
theorem mI {pins:List (Addr×Obj)} {σ:L2.St} {H:Hp} {s:Shared} {h2:Heap} {t2:Nat} {ch:List Addr} (I:Inv X pins σ H s)
  (k:∀b u,b∉ch->s.heap.get? b=some u->h2.get? b=some u) (hn:∀b∈ch,fQ X pins H b):Inv X pins σ H { s with heap:=h2,toks:=t2 }:=by
 have tr:∀b u,H b=some u->b∉ch:=fun b u e z=>by rw [(hn b z).1] at e;cases e
 have un:Un (i7 X.stack) ch H H s.heap h2:=⟨fun b ob e n _ c=>k b ob c e,fun b ob e n _ c=>⟨ob.slots,k b ob c e⟩,fun b ob e n c=>n,fun b ob e c=>⟨ob,k b ob c e⟩,fun b xs e=>e,fun b ob u e=>e,fun b ps e=>⟨#[],by rw [e];simp⟩⟩
 refine I.call (g':=s.gens) (d':=s.drawn) un (fun b u e=>?_) I.bare fun b hb=>⟨(hn b hb).2.2.2.1,(hn b hb).2.1,(hn b hb).2.2.2.2.1,(hn b hb).2.2.2.2.2⟩
 refine (I.hok b u e).stay (fun c v hc q=>k c v ?_ q) (fun c q=>q) fun c xs q=>q
 rcases hc with z|z
 ·rw [z];exact tr b u e
 ·exact tr c _ z
def RB (K:W.Frag) (a b:Addr):It :=
 ⟨fun i H => ∃xs ys x y,cm K H a xs/\xs[i]?=some x/\cm K H b ys/\ys[i]?=some y,fun i H x H' => ∃p u v,x=.ref p/\H p=none/\H'=aN H p (.tup [u,v])/\(∀xs,cm K H a xs->xs[i]?=some u)/\∀ys,cm K H b ys->ys[i]?=some v,fun i H => ∃xs ys,cm K H a xs/\cm K H b ys/\(xs.length<=i\/ys.length<=i)⟩
theorem yk {P:Program} {w:World} {K:W.Frag} {es:List Expr} {n1:Nat} {pos:Pos} (a b z TI TO i1 i2:Addr) (D:ZipApart z TI TO i1 i2 a b) :
  L2.Turn P w K (.Tuple es n1 pos) (RB K a b) [z,TI,TO,i1,i2] z (fun i h=>IsZip h z TI TO .none/\IsPair h TI (.ref i1) (.ref i2)/\(∃u v,IsPair h TO u v)/\h.IsTupleIter i1 a i/\h.IsTupleIter i2 b i) where
 mem:=by simp
 obj:=fun i h st c hc=>by
  obtain ⟨q1,q2,⟨u,v,q3⟩,⟨o4,q4,c4,d4⟩,⟨o5,q5,c5,d5⟩⟩:=st
  simp only [List.mem_cons,List.not_mem_nil,or_false] at hc
  rcases hc with rfl|rfl|rfl|rfl|rfl
  ·exact ⟨_,q1,fun v e=>by have e':Data.fields _=Data.cell v:=e;cases e'⟩
  ·exact ⟨_,q2,fun v e=>by have e':Data.seq _ _=Data.cell v:=e;cases e'⟩
  ·exact ⟨_,q3,fun v e=>by have e':Data.seq _ _=Data.cell v:=e;cases e'⟩
  ·exact ⟨_,q4,fun v e=>by rw [d4] at e;cases e⟩
  ·exact ⟨_,q5,fun v e=>by rw [d5] at e;cases e⟩
 keep:=fun i h h' ⟨q1,q2,⟨u,v,q3⟩,q4,q5⟩ k=>⟨k _ (by simp) _ q1,k _ (by simp) _ q2,⟨u,v,k _ (by simp) _ q3⟩,q4.at fun o e=>k _ (by simp) o e,q5.at fun o e=>k _ (by simp) o e⟩
 item:=by
  intro Y hP hw hK hc i pins s σ H E I hf st hg
  subst hP hw hK
  obtain ⟨xs,ys,x,y,hq,hx,hr,hy⟩:=hg
  obtain ⟨its,rv,p1,hz⟩:=I.tuple hq
  obtain ⟨jts,rw',p2,hz'⟩:=I.tuple hr
  obtain ⟨u,hu,ru⟩:=rv.get hx
  obtain ⟨v,hv,rv'⟩:=rw'.get hy
  obtain ⟨q1,q2,q3,q4,q5⟩:=st
  have zlt:z < s.heap.objs.size:=Heap.lt_size q1
  refine Zs.pyItem (jL (i:=i1) (l:=a) (xs:=its.toArray) D.l1i1) (jL (i:=i2) (l:=b) (xs:=jts.toArray) D.l2i2) ⟨D,q1,q2,q3,⟨q4,p1⟩,⟨q5,p2⟩⟩ (x:=u) (y:=v) (by simpa using hu) (by simpa using hv) fun h1 gC zo t1 k1=>?_
  refine ⟨_,rfl,wpAny_letOwnedTupleGo_zip zo fun h2 z2 m2=>?_⟩
  have m2:Heap.SameBut z h1 h2:=m2
  have N:=gC h2 z2 m2
  have k2:∀c o,c∉[z,TI,TO,i1,i2]->s.heap.get? c=some o->h2.get? c=some o:=fun c o nc q=>by
   have n1:c≠z:=fun e=>nc (by simp [e])
   refine m2.extBut c o n1 (k1 c o (fun e=>nc ?_) q)
   simp only [List.mem_cons,List.not_mem_nil,or_false] at e ⊢
   rcases e with e|e|e|e <;> simp [e]
  have t2:h2.get? s.heap.objs.size=some { cls:=.type "tuple", data:=.seq #[u,v] }:=m2.extBut _ _ (Nat.ne_of_gt zlt) t1
  have hn0:H s.heap.objs.size=none:=I.hok.fresh (Nat.le_refl _)
  refine ⟨.ref s.heap.objs.size,aN H s.heap.objs.size (.tup [x,y]),iz (s:=s) (h2:=h2) (t2:=s.toks) I k2 (Nat.le_refl _) hf ?_,rfl,⟨_,x,y,rfl,hn0,rfl,fun ws hw=>by rw [I.tuple_inj hw hq];exact hx,fun ws hw=>by rw [I.tuple_inj hw hr];exact hy⟩,⟨N.rd,N.ins,N.out,N.fst.1,N.snd.1⟩,fun c hc=>?_⟩
  ·exact ⟨by show 2<=sizeLine;decide,[u,v],.cons ru (.cons rv' .nil),⟨_,t2,rfl,_,rfl⟩⟩
  ·have hb':=hf c hc
   have lt:c < s.heap.objs.size:=by
    obtain ⟨u',v',q3⟩:=q3
    obtain ⟨o4,q4,_⟩:=q4
    obtain ⟨o5,q5,_⟩:=q5
    simp only [List.mem_cons,List.not_mem_nil,or_false] at hc
    rcases hc with rfl|rfl|rfl|rfl|rfl
    ·exact zlt
    ·exact Heap.lt_size q2
    ·exact Heap.lt_size q3
    ·exact Heap.lt_size q4
    ·exact Heap.lt_size q5
   rw [ay (Nat.ne_of_lt lt)];exact hb'.1
 done:=by
  intro Y hP hw hK hc i pins s σ H E I hf st hg
  subst hP hw hK
  obtain ⟨xs,ys,hq,hr,hl⟩:=hg
  obtain ⟨its,rv,p1,hz⟩:=I.tuple hq
  obtain ⟨jts,rw',p2,hz'⟩:=I.tuple hr
  obtain ⟨q1,q2,q3,q4,q5⟩:=st
  have l1:=rv.length
  have l2:=rw'.length
  refine Zs.pyDone (I.ok.hd hc) (jL (i:=i1) (l:=a) (xs:=its.toArray) D.l1i1) (jL (i:=i2) (l:=b) (xs:=jts.toArray) D.l2i2) ⟨D,q1,q2,q3,⟨q4,p1⟩,⟨q5,p2⟩⟩ ?_ fun h1 k1=>⟨rfl,mI (s:=s) (t2:=s.toks) (ch:=[z,TI,TO,i1,i2]) I (fun c o nc q=>k1 c o (fun e=>nc ?_) q) hf⟩
  ·rcases hl with hl|hl
   ·exact .inl (by simp;omega)
   ·exact .inr (by simp;omega)
  ·simp only [List.mem_cons,List.not_mem_nil,or_false] at e ⊢
   rcases e with e|e|e|e <;> simp [e]
 self:=fun _ _ _ _ _ st h=>wpAny_pyIter_zip st.1 h
theorem Gk {ρ:ak} {es:List Expr} {n1:Nat} {tp p pos:Pos} {a b:Expr} {l m:List D} {k:Nat} (hg:Gl X "zip") (hm0:X.mg "zip" = none) (ha:AD X ρ [a,b] [.tup l,.tup m] k) (hst:∀e∈[a,b],∀y p,e ≠ .Starred y p) (hf:ax l=true) (hm:ax m=true) :
  IE X ρ (.Tuple es n1 tp) (.Call (.Name "zip" p) [a,b] [] pos) (List.zipWith (fun x y=>.tup [x,y]) l m) 0:=by
 intro ow pins s σ H R I ⟨E,q⟩
 have n1':=aV (env:=X.env) (es:=[b]) (hst a (by simp))
 have n2':(backTo pos (starEach [b] X.env)).any (·.1)=false:=bK fun x hx=>hst x (by simp at hx;simp [hx])
 refine Call_ (dl I hg hm0 (show bootBuiltins "zip" = some (.type "zip") by decide +kernel) (PyProof.Rows.callWith_type1 (aR (ha ow pos pins s σ H (fun vs H1=>aA H H1/\ai X.K H1 (Kp ow H k) [.tup l,.tup m] vs) I ⟨E,fun vs H1 s1 r1=>⟨s1,r1⟩⟩) fun us s1 ⟨vs,H1,I1,rv,sm,rp⟩=>?_) n1' n2') (by decide +kernel) (by decide +kernel))
 rw [ai] at rp
 obtain ⟨v1,vr,rfl,rp1,rp2⟩:=rp
 obtain ⟨v2,rfl,rp3⟩:=rp2.only
 obtain ⟨ta,xs,rfl,hq,rl⟩:=eD rp1
 obtain ⟨tb,ys,rfl,hr,rm⟩:=eD rp3
 obtain ⟨u1,u2,rfl,ru1,ru2⟩:=me rv
 cases (show u1=Value.ref ta from ru1)
 cases (show u2=Value.ref tb from ru2)
 obtain ⟨its,rvs,pt,hz⟩:=I1.tuple hq
 obtain ⟨jts,rvs',pt',hz'⟩:=I1.tuple hr
 refine Be (show s1.heap.IsTuple ta its.toArray from pt) (show s1.heap.IsTuple tb jts.toArray from pt') fun h2 Z k2=>?_
 refine wpAny_pyIter_zip Z.rd ?_
 have I2:Inv X pins σ H1 { s1 with heap:=h2 }:=I1.kept (t':=s1.toks) k2
 have fr:∀j,fQ X pins H1 (s1.heap.objs.size+j):=fun j=>I1.fpOk (Nat.le_add_right _ _) (I1.hok.fresh (Nat.le_add_right _ _))
 refine ⟨s1.heap.objs.size+4,[s1.heap.objs.size+4,s1.heap.objs.size+2,s1.heap.objs.size+3,s1.heap.objs.size,s1.heap.objs.size+1],_,_,H1,rfl,I2,yk ta tb _ _ _ _ _ Z.ap,⟨Z.rd,Z.ins,Z.out,Z.fst.1,Z.snd.1⟩,fun c hc=>?_,q _ H1 sm ?_⟩
 ·simp only [List.mem_cons,List.not_mem_nil,or_false] at hc
  rcases hc with rfl|rfl|rfl|rfl|rfl
  ·exact fr 4
  ·exact fr 2
  ·exact fr 3
  ·exact fr 0
  ·exact fr 1
 ·intro i H2 st
  have rl':ai X.K H1 (Kd ow H 0 H1) l xs:=rl.flat _ hf
  have rm':ai X.K H1 (Kd ow H 0 H1) m ys:=rm.flat _ hm
  refine ⟨fun d hd=>?_,fun hle=>?_⟩
  ·rw [List.getElem?_zipWith] at hd
   cases e:l[i]? with
   | none=>rw [e] at hd;cases hd
   | some x =>
    cases e':m[i]? with
    | none=>rw [e,e'] at hd;cases hd
    | some y =>
     rw [e,e'] at hd;cases hd
     obtain ⟨u,hu,ru⟩:=rl'.get e
     obtain ⟨v,hv,rv⟩:=rm'.get e'
     refine ⟨⟨xs,ys,u,v,st.sq hq,hu,st.sq hr,hv⟩,fun x' H3 ⟨p',u',v',e1,e2,e3,e4,e5⟩=>?_⟩
     have c1:=e4 xs (st.sq hq)
     have c2:=e5 ys (st.sq hr)
     rw [hu] at c1;cases c1
     rw [hv] at c2;cases c2
     subst e1 e3
     have sm3:=cz (o:=HO.tup [u,v]) e2
     refine ⟨sm3,?_⟩
     rw [al]
     exact ⟨p',_,rfl,cm.of aH,ai.cons ((ru.mono st).same sm3) (ai.one ((rv.mono st).same sm3))⟩
  ·rw [List.length_zipWith] at hle
   have l1:=rl.length
   have l2:=rm.length
   exact ⟨xs,ys,st.sq hq,st.sq hr,by omega⟩
end Sp
namespace Sp
open PySem PySem.Spec PyProof.Rows L2
variable {X:Cx}
def gL (κ:Bool) (h:Heap) (i a:Addr) (k:Nat):Prop:=match κ with|true=>h.IsTupleIter i a k|false=>h.IsListIter i a k
def fP (κ:Bool) (h:Heap) (a:Addr) (xs:Array Value):Prop:=match κ with|true=>h.IsTuple a xs|false=>h.IsList a xs
def kr (κ:Bool) (K:W.Frag) (H:Hp) (a:Addr) (xs:List V):Prop:=match κ with|true=>cm K H a xs|false=>cq K H a xs
def jP (κ:Bool) (l:List D):D:=match κ with|true=>.tup l|false=>.lst l
def Gc (κ:Bool):String:=match κ with|true => "tuple_iterator" | false => "list_iterator"
theorem uI (κ:Bool) {prog:Program} {w:World} {i l:Addr} {xs:Array Value} (ne:l≠i):Wk prog w i l (fun k h=>gL κ h i l k/\fP κ h l xs) (fun k=>xs[k]?):=by
 cases κ
 ·exact DS ne
 ·exact jL ne
theorem iy {κ:Bool} {h:Heap} {i a:Addr} {k:Nat} (p:gL κ h i a k):∃o,h.get? i=some o/\∀v,o.data≠Data.cell v:=by
 cases κ
 ·obtain ⟨o,e,_,d⟩:=(show h.IsListIter i a k from p);exact ⟨o,e,fun v z=>by rw [d] at z;cases z⟩
 ·obtain ⟨o,e,_,d⟩:=(show h.IsTupleIter i a k from p);exact ⟨o,e,fun v z=>by rw [d] at z;cases z⟩
theorem rq {κ:Bool} {h h':Heap} {i a:Addr} {k:Nat} (p:gL κ h i a k) (q:∀o,h.get? i=some o->h'.get? i=some o):gL κ h' i a k:=by
 cases κ
 ·exact (show h.IsListIter i a k from p).at q
 ·exact (show h.IsTupleIter i a k from p).at q
theorem rk {κ:Bool} {h h':Heap} {a:Addr} {xs:Array Value} (p:fP κ h a xs) (q:∀o,h.get? a=some o->h'.get? a=some o):fP κ h' a xs:=by
 cases κ
 ·exact (show h.IsList a xs from p).at q
 ·exact (show h.IsTuple a xs from p).at q
theorem rj {κ:Bool} {h:Heap} {a:Addr} {xs:Array Value} (p:fP κ h a xs):a < h.objs.size:=by
 cases κ
 ·obtain ⟨_,e,_⟩:=(show h.IsList a xs from p);exact Heap.lt_size e
 ·obtain ⟨_,e,_⟩:=(show h.IsTuple a xs from p);exact Heap.lt_size e
theorem kK {κ:Bool} {pins:List (Addr×Obj)} {σ:L2.St} {H:Hp} {s:Shared} {a:Addr} {xs:List V} (I:Inv X pins σ H s) (h:kr κ X.K H a xs):∃its:List Value,aK xs its/\fP κ s.heap a its.toArray/\xs.length<=sizeLine:=by
 cases κ
 ·obtain ⟨its,r,p,z⟩:=I.list h;exact ⟨its,r,p.isList,z⟩
 ·obtain ⟨its,r,p,z⟩:=I.tuple h;exact ⟨its,r,p,z⟩
theorem pp {κ:Bool} {pins:List (Addr×Obj)} {σ:L2.St} {H:Hp} {s:Shared} {a:Addr} {xs ys:List V} (I:Inv X pins σ H s) (h:kr κ X.K H a xs) (h':kr κ X.K H a ys):xs=ys:=by
 cases κ
 ·exact I.list_inj h h'
 ·exact I.tuple_inj h h'
theorem iU {κ:Bool} {ow:Ow} {H H1:Hp} {k:Nat} {l:List D} {v:V} (h:al X.K H1 (Kp ow H k) (jP κ l) v):∃a vs,v=.ref a/\kr κ X.K H1 a vs/\ai X.K H1 (Kp ow H k) l vs/\∀{P':bz} {H2:Hp},dY (Kd ow H k H1) P' H1 H2->kr κ X.K H2 a vs:=by
 cases κ
 ·rw [show jP false l=.lst l from rfl,al] at h
  obtain ⟨a,vs,b,rfl,hl,hp,rl⟩:=h
  have hp':Kd ow H k H1 a b:=⟨hp,fun hb=>by subst hb;exact ⟨_,hl⟩⟩
  exact ⟨a,vs,rfl,hl.sq,rl,fun st=>(st.ls hl hp').sq⟩
 ·rw [show jP true l=.tup l from rfl,al] at h
  obtain ⟨a,vs,rfl,hl,rl⟩:=h
  exact ⟨a,vs,rfl,hl,rl,fun st=>st.sq hl⟩
abbrev Ad (κ:Bool) (h:Heap) (a:Addr):Heap:=h.push { cls:=.type (Gc κ),data:=.fields #[.ref a,.int 0 0] }
abbrev Ac (κ κ':Bool) (h:Heap) (a b:Addr):Heap:=(Ad κ h a).push { cls:=.type (Gc κ'),data:=.fields #[.ref b,.int 0 0] }
abbrev Ab (κ κ':Bool) (h:Heap) (a b:Addr):Heap:=(Ac κ κ' h a b).push { cls:=.type "tuple", data:=.seq #[.ref h.objs.size,.ref (Ad κ h a).objs.size] }
abbrev oV (κ κ':Bool) (h:Heap) (a b:Addr):Heap:=(Ab κ κ' h a b).push { cls:=.type "tuple", data:=.seq #[.none,.none] }
abbrev jK (κ κ':Bool) (h:Heap) (a b:Addr):Heap:=(oV κ κ' h a b).push { cls:=.type "zip", data:=.fields #[.none,.bool false,.bool false,.ref (Ac κ κ' h a b).objs.size,.ref (Ab κ κ' h a b).objs.size] }
theorem jJ (a b:Addr) (xs ys:Array Value) :
  Meets (Builtin.«zip.__new__» ⟨[.type "zip", .ref a,.ref b],[]⟩) (fun _ R s=>s.heap.IsList a xs/\s.heap.IsList b ys/\R (.ok (.ret (.ref (oV false false s.heap a b).objs.size))) { s with heap:=jK false false s.heap a b }) :=
 .of_wp fun pg wd AA RR st hh=>by
  obtain ⟨hp0,gg,dd,tk0,oo⟩:=st;obtain ⟨ha,hb,hh⟩:=hh
  have hsub0:=sub_zip
  have T1:Heap.IsList (Shared.heap ⟨hp0,gg,dd,tk0,oo⟩) a xs:=ha
  have T2:Heap.IsList (Shared.heap ⟨hp0.push { cls:=.type "list_iterator", data:=.fields #[.ref a,.int 0 0] },gg,dd,tk0,oo⟩) b ys:=hb.at fun o e=>Heap.get?_push_of_some _ e
  wp_walk using wpAny_pyIter_list T1,wpAny_pyIter_list T2
  exact ⟨_,rfl,hh⟩
theorem le (a b:Addr) (xs ys:Array Value) :
  Meets (Builtin.«zip.__new__» ⟨[.type "zip", .ref a,.ref b],[]⟩) (fun _ R s=>s.heap.IsList a xs/\s.heap.IsTuple b ys/\R (.ok (.ret (.ref (oV false true s.heap a b).objs.size))) { s with heap:=jK false true s.heap a b }) :=
 .of_wp fun pg wd AA RR st hh=>by
  obtain ⟨hp0,gg,dd,tk0,oo⟩:=st;obtain ⟨ha,hb,hh⟩:=hh
  have hsub0:=sub_zip
  have T1:Heap.IsList (Shared.heap ⟨hp0,gg,dd,tk0,oo⟩) a xs:=ha
  have T2:Heap.IsTuple (Shared.heap ⟨hp0.push { cls:=.type "list_iterator", data:=.fields #[.ref a,.int 0 0] },gg,dd,tk0,oo⟩) b ys:=hb.at fun o e=>Heap.get?_push_of_some _ e
  wp_walk using wpAny_pyIter_list T1,wpAny_pyIter_tuple T2
  exact ⟨_,rfl,hh⟩
theorem ld (a b:Addr) (xs ys:Array Value) :
  Meets (Builtin.«zip.__new__» ⟨[.type "zip", .ref a,.ref b],[]⟩) (fun _ R s=>s.heap.IsTuple a xs/\s.heap.IsList b ys/\R (.ok (.ret (.ref (oV true false s.heap a b).objs.size))) { s with heap:=jK true false s.heap a b }) :=
 .of_wp fun pg wd AA RR st hh=>by
  obtain ⟨hp0,gg,dd,tk0,oo⟩:=st;obtain ⟨ha,hb,hh⟩:=hh
  have hsub0:=sub_zip
  have T1:Heap.IsTuple (Shared.heap ⟨hp0,gg,dd,tk0,oo⟩) a xs:=ha
  have T2:Heap.IsList (Shared.heap ⟨hp0.push { cls:=.type "tuple_iterator", data:=.fields #[.ref a,.int 0 0] },gg,dd,tk0,oo⟩) b ys:=hb.at fun o e=>Heap.get?_push_of_some _ e
  wp_walk using wpAny_pyIter_tuple T1,wpAny_pyIter_list T2
  exact ⟨_,rfl,hh⟩
theorem lD (a b:Addr) (xs ys:Array Value) :
  Meets (Builtin.«zip.__new__» ⟨[.type "zip", .ref a,.ref b],[]⟩) (fun _ R s=>s.heap.IsTuple a xs/\s.heap.IsTuple b ys/\R (.ok (.ret (.ref (oV true true s.heap a b).objs.size))) { s with heap:=jK true true s.heap a b }) :=
 .of_wp fun pg wd AA RR st hh=>by
  obtain ⟨hp0,gg,dd,tk0,oo⟩:=st;obtain ⟨ha,hb,hh⟩:=hh
  have hsub0:=sub_zip
  have T1:Heap.IsTuple (Shared.heap ⟨hp0,gg,dd,tk0,oo⟩) a xs:=ha
  have T2:Heap.IsTuple (Shared.heap ⟨hp0.push { cls:=.type "tuple_iterator", data:=.fields #[.ref a,.int 0 0] },gg,dd,tk0,oo⟩) b ys:=hb.at fun o e=>Heap.get?_push_of_some _ e
  wp_walk using wpAny_pyIter_tuple T1,wpAny_pyIter_tuple T2
  exact ⟨_,rfl,hh⟩
theorem DR (κ κ':Bool) (a b:Addr) (xs ys:Array Value) :
  Meets (Builtin.«zip.__new__» ⟨[.type "zip", .ref a,.ref b],[]⟩) (fun _ R s=>fP κ s.heap a xs/\fP κ' s.heap b ys/\R (.ok (.ret (.ref (oV κ κ' s.heap a b).objs.size))) { s with heap:=jK κ κ' s.heap a b }):=by
 cases κ <;> cases κ'
 ·exact jJ a b xs ys
 ·exact le a b xs ys
 ·exact ld a b xs ys
 ·exact lD a b xs ys
theorem rn {κ:Bool} {h:Heap} {i a:Addr} (e:h.get? i=some { cls:=.type (Gc κ),data:=.fields #[.ref a,.int 0 0] }):gL κ h i a 0:=by
 cases κ
 ·exact ⟨_,e,rfl,rfl⟩
 ·exact ⟨_,e,rfl,rfl⟩
theorem yf {κ κ':Bool} {prog:Program} {w:World} {A:Around} {E:Value->Shared->Prop} {s:Shared} {a b:Addr} {xs ys:Array Value} {Q:Value->Shared->Prop} (ha:fP κ s.heap a xs) (hb:fP κ' s.heap b ys)
  (go:∀h1,Zs (s.heap.objs.size+4) (s.heap.objs.size+2) (s.heap.objs.size+3) s.heap.objs.size (s.heap.objs.size+1) a b (fun k h=>gL κ h s.heap.objs.size a k/\fP κ h a xs) (fun k h=>gL κ' h (s.heap.objs.size+1) b k/\fP κ' h b ys) 0 h1->(∀c o,s.heap.get? c=some o->h1.get? c=some o)->Q (.ref (s.heap.objs.size+4)) { s with heap:=h1 }) :
  wpAny (model prog w) A (call (.type "zip") [.ref a,.ref b]) Q E s:=by
 refine callType_new F.called_zip (by decide) (F.typeCall_zip_2 _ _) (F.newCall_zip_2 _ _) (fun ob=>F.args_object_init_3 ob _ _) F.entry_zip_new (DR κ κ' a b xs ys) ⟨ha,hb,?_⟩
 have s1:(Ad κ s.heap a).objs.size=s.heap.objs.size+1:=Heap.size_push ..
 have s2:(Ac κ κ' s.heap a b).objs.size=s.heap.objs.size+2:=by rw [Heap.size_push,s1]
 have s3:(Ab κ κ' s.heap a b).objs.size=s.heap.objs.size+3:=by rw [Heap.size_push,s2]
 have s4:(oV κ κ' s.heap a b).objs.size=s.heap.objs.size+4:=by rw [Heap.size_push,s3]
 have r5:(jK κ κ' s.heap a b).get? (oV κ κ' s.heap a b).objs.size=some _:=Heap.get?_push_size _ rfl
 have r4:(jK κ κ' s.heap a b).get? (Ab κ κ' s.heap a b).objs.size=some _:=Heap.get?_push_of_some _ (Heap.get?_push_size _ rfl)
 have r3:(jK κ κ' s.heap a b).get? (Ac κ κ' s.heap a b).objs.size=some _:=Heap.get?_push_of_some _ (Heap.get?_push_of_some _ (Heap.get?_push_size _ rfl))
 have r2:(jK κ κ' s.heap a b).get? (Ad κ s.heap a).objs.size=some _:=Heap.get?_push_of_some _ (Heap.get?_push_of_some _ (Heap.get?_push_of_some _ (Heap.get?_push_size _ rfl)))
 have r1:(jK κ κ' s.heap a b).get? s.heap.objs.size=some _:=Heap.get?_push_of_some _ (Heap.get?_push_of_some _ (Heap.get?_push_of_some _ (Heap.get?_push_of_some _ (Heap.get?_push_size _ rfl))))
 have up:∀c o,s.heap.get? c=some o->(jK κ κ' s.heap a b).get? c=some o:=fun c o e=>Heap.get?_push_of_some _ (Heap.get?_push_of_some _ (Heap.get?_push_of_some _ (Heap.get?_push_of_some _ (Heap.get?_push_of_some _ e))))
 have la:a < s.heap.objs.size:=rj ha
 have lb:b < s.heap.objs.size:=rj hb
 rw [s2,s3,s4] at r5
 rw [s1,s2] at r3
 rw [s3] at r4
 rw [s1] at r2
 show _/\_
 rw [s4]
 have ne:∀{m n:Nat},m < n->m≠n:=fun h=>Nat.ne_of_lt h
 refine ⟨⟨_,r5,rfl⟩,go _ ⟨?_,r5,r3,⟨_,_,r4⟩,⟨rn r1,rk ha fun o e=>up _ _ e⟩,⟨rn r2,rk hb fun o e=>up _ _ e⟩⟩ up⟩
 generalize s.heap.objs.size=n at la lb
 have la':(a:Nat) < n:=la
 have lb':(b:Nat) < n:=lb
 constructor <;> first|exact ne (by omega) | exact (ne (by omega)).symm|exact ne (Nat.lt_of_lt_of_le la (by omega)) | exact ne (Nat.lt_of_lt_of_le lb (by omega)) | exact ne la|exact ne lb
def Re (κ κ':Bool) (K:W.Frag) (a b:Addr):It :=
 ⟨fun i H => ∃xs ys x y,kr κ K H a xs/\xs[i]?=some x/\kr κ' K H b ys/\ys[i]?=some y,fun i H x H' => ∃p u v,x=.ref p/\H p=none/\H'=aN H p (.tup [u,v])/\(∀xs,kr κ K H a xs->xs[i]?=some u)/\∀ys,kr κ' K H b ys->ys[i]?=some v,fun i H => ∃xs ys,kr κ K H a xs/\kr κ' K H b ys/\(xs.length<=i\/ys.length<=i)⟩
theorem wn (κ κ':Bool) {P:Program} {w:World} {K:W.Frag} {es:List Expr} {n1:Nat} {pos:Pos} (a b z TI TO i1 i2:Addr) (D:ZipApart z TI TO i1 i2 a b) :
  L2.Turn P w K (.Tuple es n1 pos) (Re κ κ' K a b) [z,TI,TO,i1,i2] z (fun i h=>IsZip h z TI TO .none/\IsPair h TI (.ref i1) (.ref i2)/\(∃u v,IsPair h TO u v)/\gL κ h i1 a i/\gL κ' h i2 b i) where
 mem:=by simp
 obj:=fun i h st c hc=>by
  obtain ⟨q1,q2,⟨u,v,q3⟩,q4,q5⟩:=st
  obtain ⟨o4,q4,d4⟩:=iy q4
  obtain ⟨o5,q5,d5⟩:=iy q5
  simp only [List.mem_cons,List.not_mem_nil,or_false] at hc
  rcases hc with rfl|rfl|rfl|rfl|rfl
  ·exact ⟨_,q1,fun v e=>by have e':Data.fields _=Data.cell v:=e;cases e'⟩
  ·exact ⟨_,q2,fun v e=>by have e':Data.seq _ _=Data.cell v:=e;cases e'⟩
  ·exact ⟨_,q3,fun v e=>by have e':Data.seq _ _=Data.cell v:=e;cases e'⟩
  ·exact ⟨_,q4,d4⟩
  ·exact ⟨_,q5,d5⟩
 keep:=fun i h h' ⟨q1,q2,⟨u,v,q3⟩,q4,q5⟩ k=>⟨k _ (by simp) _ q1,k _ (by simp) _ q2,⟨u,v,k _ (by simp) _ q3⟩,rq q4 fun o e=>k _ (by simp) o e,rq q5 fun o e=>k _ (by simp) o e⟩
 item:=by
  intro Y hP hw hK hc i pins s σ H E I hf st hg
  subst hP hw hK
  obtain ⟨xs,ys,x,y,hq,hx,hr,hy⟩:=hg
  obtain ⟨its,rv,p1,hz⟩:=kK I hq
  obtain ⟨jts,rw',p2,hz'⟩:=kK I hr
  obtain ⟨u,hu,ru⟩:=rv.get hx
  obtain ⟨v,hv,rv'⟩:=rw'.get hy
  obtain ⟨q1,q2,q3,q4,q5⟩:=st
  have zlt:z < s.heap.objs.size:=Heap.lt_size q1
  refine Zs.pyItem (uI κ (i:=i1) (l:=a) (xs:=its.toArray) D.l1i1) (uI κ' (i:=i2) (l:=b) (xs:=jts.toArray) D.l2i2) ⟨D,q1,q2,q3,⟨q4,p1⟩,⟨q5,p2⟩⟩ (x:=u) (y:=v) (by simpa using hu) (by simpa using hv) fun h1 gC zo t1 k1=>?_
  refine ⟨_,rfl,wpAny_letOwnedTupleGo_zip zo fun h2 z2 m2=>?_⟩
  have m2:Heap.SameBut z h1 h2:=m2
  have N:=gC h2 z2 m2
  have k2:∀c o,c∉[z,TI,TO,i1,i2]->s.heap.get? c=some o->h2.get? c=some o:=fun c o nc q=>by
   have n1:c≠z:=fun e=>nc (by simp [e])
   refine m2.extBut c o n1 (k1 c o (fun e=>nc ?_) q)
   simp only [List.mem_cons,List.not_mem_nil,or_false] at e ⊢
   rcases e with e|e|e|e <;> simp [e]
  have t2:h2.get? s.heap.objs.size=some { cls:=.type "tuple", data:=.seq #[u,v] }:=m2.extBut _ _ (Nat.ne_of_gt zlt) t1
  have hn0:H s.heap.objs.size=none:=I.hok.fresh (Nat.le_refl _)
  refine ⟨.ref s.heap.objs.size,aN H s.heap.objs.size (.tup [x,y]),iz (s:=s) (h2:=h2) (t2:=s.toks) I k2 (Nat.le_refl _) hf ?_,rfl,⟨_,x,y,rfl,hn0,rfl,fun ws hw=>by rw [pp I hw hq];exact hx,fun ws hw=>by rw [pp I hw hr];exact hy⟩,⟨N.rd,N.ins,N.out,N.fst.1,N.snd.1⟩,fun c hc=>?_⟩
  ·exact ⟨by show 2<=sizeLine;decide,[u,v],.cons ru (.cons rv' .nil),⟨_,t2,rfl,_,rfl⟩⟩
  ·have hb':=hf c hc
   have lt:c < s.heap.objs.size:=by
    obtain ⟨u',v',q3⟩:=q3
    obtain ⟨o4,q4,_⟩:=iy q4
    obtain ⟨o5,q5,_⟩:=iy q5
    simp only [List.mem_cons,List.not_mem_nil,or_false] at hc
    rcases hc with rfl|rfl|rfl|rfl|rfl
    ·exact zlt
    ·exact Heap.lt_size q2
    ·exact Heap.lt_size q3
    ·exact Heap.lt_size q4
    ·exact Heap.lt_size q5
   rw [ay (Nat.ne_of_lt lt)];exact hb'.1
 done:=by
  intro Y hP hw hK hc i pins s σ H E I hf st hg
  subst hP hw hK
  obtain ⟨xs,ys,hq,hr,hl⟩:=hg
  obtain ⟨its,rv,p1,hz⟩:=kK I hq
  obtain ⟨jts,rw',p2,hz'⟩:=kK I hr
  obtain ⟨q1,q2,q3,q4,q5⟩:=st
  have l1:=rv.length
  have l2:=rw'.length
  refine Zs.pyDone (I.ok.hd hc) (uI κ (i:=i1) (l:=a) (xs:=its.toArray) D.l1i1) (uI κ' (i:=i2) (l:=b) (xs:=jts.toArray) D.l2i2) ⟨D,q1,q2,q3,⟨q4,p1⟩,⟨q5,p2⟩⟩ ?_ fun h1 k1=>⟨rfl,mI (s:=s) (t2:=s.toks) (ch:=[z,TI,TO,i1,i2]) I (fun c o nc q=>k1 c o (fun e=>nc ?_) q) hf⟩
  ·rcases hl with hl|hl
   ·exact .inl (by simp;omega)
   ·exact .inr (by simp;omega)
  ·simp only [List.mem_cons,List.not_mem_nil,or_false] at e ⊢
   rcases e with e|e|e|e <;> simp [e]
 self:=fun _ _ _ _ _ st h=>wpAny_pyIter_zip st.1 h
theorem C3 {κ κ':Bool} {ρ:ak} {es:List Expr} {n1:Nat} {tp p pos:Pos} {a b:Expr} {l m:List D} {k:Nat} (hg:Gl X "zip") (hm0:X.mg "zip" = none) (ha:AD X ρ [a,b] [jP κ l,jP κ' m] k) (hst:∀e∈[a,b],∀y p,e ≠ .Starred y p) (hf:ax l=true) (hm:ax m=true) :
  IE X ρ (.Tuple es n1 tp) (.Call (.Name "zip" p) [a,b] [] pos) (List.zipWith (fun x y=>.tup [x,y]) l m) k:=by
 intro ow pins s σ H R I ⟨E,q⟩
 have n1':=aV (env:=X.env) (es:=[b]) (hst a (by simp))
 have n2':(backTo pos (starEach [b] X.env)).any (·.1)=false:=bK fun x hx=>hst x (by simp at hx;simp [hx])
 refine Call_ (dl I hg hm0 (show bootBuiltins "zip" = some (.type "zip") by decide +kernel) (PyProof.Rows.callWith_type1 (aR (ha ow pos pins s σ H (fun vs H1=>aA H H1/\ai X.K H1 (Kp ow H k) [jP κ l,jP κ' m] vs) I ⟨E,fun vs H1 s1 r1=>⟨s1,r1⟩⟩) fun us s1 ⟨vs,H1,I1,rv,sm,rp⟩=>?_) n1' n2') (by decide +kernel) (by decide +kernel))
 rw [ai] at rp
 obtain ⟨v1,vr,rfl,rp1,rp2⟩:=rp
 obtain ⟨v2,rfl,rp3⟩:=rp2.only
 obtain ⟨ta,xs,rfl,hq,rl,hk1⟩:=iU rp1
 obtain ⟨tb,ys,rfl,hr,rm,hk2⟩:=iU rp3
 obtain ⟨u1,u2,rfl,ru1,ru2⟩:=me rv
 cases (show u1=Value.ref ta from ru1)
 cases (show u2=Value.ref tb from ru2)
 obtain ⟨its,rvs,pt,hz⟩:=kK I1 hq
 obtain ⟨jts,rvs',pt',hz'⟩:=kK I1 hr
 refine yf (κ:=κ) (κ':=κ') pt pt' fun h2 Z k2=>?_
 refine wpAny_pyIter_zip Z.rd ?_
 have I2:Inv X pins σ H1 { s1 with heap:=h2 }:=I1.kept (t':=s1.toks) k2
 have fr:∀j,fQ X pins H1 (s1.heap.objs.size+j):=fun j=>I1.fpOk (Nat.le_add_right _ _) (I1.hok.fresh (Nat.le_add_right _ _))
 refine ⟨s1.heap.objs.size+4,[s1.heap.objs.size+4,s1.heap.objs.size+2,s1.heap.objs.size+3,s1.heap.objs.size,s1.heap.objs.size+1],_,_,H1,rfl,I2,wn κ κ' ta tb _ _ _ _ _ Z.ap,⟨Z.rd,Z.ins,Z.out,Z.fst.1,Z.snd.1⟩,fun c hc=>?_,q _ H1 sm ?_⟩
 ·simp only [List.mem_cons,List.not_mem_nil,or_false] at hc
  rcases hc with rfl|rfl|rfl|rfl|rfl
  ·exact fr 4
  ·exact fr 2
  ·exact fr 3
  ·exact fr 0
  ·exact fr 1
 ·intro i H2 st
  have rl':ai X.K H1 (Kd ow H k H1) l xs:=rl.flat _ hf
  have rm':ai X.K H1 (Kd ow H k H1) m ys:=rm.flat _ hm
  refine ⟨fun d hd=>?_,fun hle=>?_⟩
  ·rw [List.getElem?_zipWith] at hd
   cases e:l[i]? with
   | none=>rw [e] at hd;cases hd
   | some x =>
    cases e':m[i]? with
    | none=>rw [e,e'] at hd;cases hd
    | some y =>
     rw [e,e'] at hd;cases hd
     obtain ⟨u,hu,ru⟩:=rl'.get e
     obtain ⟨v,hv,rv⟩:=rm'.get e'
     refine ⟨⟨xs,ys,u,v,hk1 st,hu,hk2 st,hv⟩,fun x' H3 ⟨p',u',v',e1,e2,e3,e4,e5⟩=>?_⟩
     have c1:=e4 xs (hk1 st)
     have c2:=e5 ys (hk2 st)
     rw [hu] at c1;cases c1
     rw [hv] at c2;cases c2
     subst e1 e3
     have sm3:=cz (o:=HO.tup [u,v]) e2
     refine ⟨sm3,?_⟩
     rw [al]
     exact ⟨p',_,rfl,cm.of aH,ai.cons ((ru.mono st).same sm3) (ai.one ((rv.mono st).same sm3))⟩
  ·rw [List.length_zipWith] at hle
   have l1:=rl.length
   have l2:=rm.length
   exact ⟨xs,ys,hk1 st,hk2 st,by omega⟩
theorem tW {x:D} {l:List D} (h:eY x=some l):∃κ,x=jP κ l:=by
 rcases fu h with rfl|rfl
 ·exact ⟨true,rfl⟩
 ·exact ⟨false,rfl⟩
theorem C6:kX "zip" ze:=by
 refine ⟨by decide +kernel,fun X ρ p pos args ds k d j l tg o hc hg hm ha hst hlen h hp hl ht=>?_⟩
 have ht2:gt tg=true:=by simpa [eQ] using ht
 obtain ⟨es,n1,tp,rfl⟩:=pk ht2
 unfold ze at h
 split at h
 ·cases h
  cases hl
  match args,hlen,ha,hst with
  | [a',b'],_,ha,hst=>exact Gk hg hm ha hst hp.1 hp.2.1
 ·split at h
  ·rename_i x y _ a b e1 e2
   cases h
   cases hl
   obtain ⟨κ,rfl⟩:=tW e1
   obtain ⟨κ',rfl⟩:=tW e2
   match args,hlen,ha,hst with
   | [a',b'],_,ha,hst=>exact C3 hg hm ha hst hp.1 hp.2.1
  ·cases h
 ·cases h
end Sp
namespace Sp
open PySem PySem.Spec PyProof.Rows L2
open AutoSeq1 (wpAny_loadPart')
variable {X:Cx}
theorem Dj (tu:Addr) (vs:Array Value) (n:Nat) (dc:Option Addr) (so:Array (Option Value)) :
  Meets (Builtin.«enumerate.__new__» ⟨[.type "enumerate", .ref tu],[]⟩) (fun _ R st=>st.heap.get? tu=some { cls:=.type "list", dict:=dc,data:=.seq vs n,slots:=so } /\
   R (.ok (.ret (.ref (st.heap.push { cls:=.type "list_iterator", data:=.fields #[.ref tu,.int 0 0] }).objs.size)))
    { st with heap:=(st.heap.push { cls:=.type "list_iterator", data:=.fields #[.ref tu,.int 0 0] }).push { cls:=.type "enumerate", data:=.fields #[.none,.bool false,.ref st.heap.objs.size,rawInt 0,.none,.none] } }) :=
 .of_wp fun pg wd AA RR st hh=>by
  obtain ⟨hp0,gg,dd,tk0,oo⟩:=st;obtain ⟨htu,hh⟩:=hh
  have hsub0:=sub_enumerate
  have hTT:Heap.IsList (Shared.heap ⟨hp0,gg,dd,tk0,oo⟩) tu vs:=⟨_,htu,rfl,n,rfl⟩
  wp_walk using wpAny_loadPart' htu
  refine wpAny_stack_any fun stk0=>wpAny_pure ?_
  split
  ·rename_i c0 _ _ _ _ _
   cases (c0==Value.type "enumerate")
   ·wp_walk using wpAny_loadPart' htu,wpAny_pyIter_list hTT
    exact ⟨_,rfl,hh⟩
   ·wp_walk using wpAny_loadPart' htu,wpAny_pyIter_list hTT
    exact ⟨_,rfl,hh⟩
  ·wp_walk using wpAny_loadPart' htu,wpAny_pyIter_list hTT
   exact ⟨_,rfl,hh⟩
section
variable {prog:Program} {w:World} {A:Around} {E:Value->Shared->Prop} {s:Shared}
theorem zn {tu:Addr} {vs:Array Value} {Q:Value->Shared->Prop} (hT:s.heap.IsList tu vs)
  (go:∀h1,IsEnum h1 (s.heap.objs.size+1) s.heap.objs.size 0 .none->h1.IsListIter s.heap.objs.size tu 0->h1.objs.size=s.heap.objs.size+2->(∀b o,s.heap.get? b=some o->h1.get? b=some o)->Q (.ref (s.heap.objs.size+1)) { s with heap:=h1 }) :
  wpAny (model prog w) A (call (.type "enumerate") [.ref tu]) Q E s:=by
 obtain ⟨⟨cc,dc,dt,so⟩,htu,hcc,n,hdd⟩:=hT
 replace hcc:cc=.type "list" := hcc
 replace hdd:dt=.seq vs n:=hdd
 subst hcc hdd
 refine callType_new F.called_enumerate (by decide) (F.typeCall_enumerate_1 _) (F.newCall_enumerate_1 _) (fun ob=>F.args_object_init_2 ob _) F.entry_enumerate_new (Dj tu vs n dc so) ⟨htu,?_⟩
 have sz:(s.heap.push { cls:=.type "list_iterator", data:=.fields #[.ref tu,.int 0 0] }).objs.size=s.heap.objs.size+1:=Heap.size_push ..
 show _/\_
 rw [sz]
 have isE:IsEnum ((s.heap.push { cls:=.type "list_iterator", data:=.fields #[.ref tu,.int 0 0] }).push { cls:=.type "enumerate", data:=.fields #[.none,.bool false,.ref s.heap.objs.size,rawInt 0,.none,.none] }) (s.heap.objs.size+1) s.heap.objs.size 0 .none:=by
  have q:=Heap.get?_push_size (s.heap.push { cls:=.type "list_iterator", data:=.fields #[.ref tu,.int 0 0] }) (o:={ cls:=.type "enumerate", data:=.fields #[.none,.bool false,.ref s.heap.objs.size,rawInt 0,.none,.none] }) rfl
  rw [sz] at q;exact q
 refine ⟨⟨_,isE,rfl⟩,go _ isE ⟨_,Heap.get?_push_of_some _ (Heap.get?_push_size _ rfl),rfl,rfl⟩ (by rw [Heap.size_push,sz]) fun b o z=>Heap.get?_push_of_some _ (Heap.get?_push_of_some _ z)⟩
theorem zm {e it tu:Addr} {i:Nat} {vs:Array Value} {x old:Value} {Q:Option Value->Shared->Prop} (isE:IsEnum s.heap e it i old) (hIt:s.heap.IsListIter it tu i) (hT:s.heap.IsList tu vs) (hx:vs[i]?=some x) (hne:e≠it)
  (go:∀h1,IsEnumOut h1 e it ((i:Int)+1) x s.heap.objs.size->h1.IsListIter it tu (i+1)->h1.get? s.heap.objs.size=some { cls:=.type "tuple", data:=.seq #[.int i s.toks,x] }->(∀b o,b≠e->b≠it->s.heap.get? b=some o->h1.get? b=some o)->Q (some (.ref s.heap.objs.size)) { s with heap:=h1,toks:=s.toks+1 }) :
  wpAny (model prog w) A (pyNext (.ref e)) Q E s:=by
 have tyE:s.TypeIs (.ref e) "enumerate" := ⟨_,isE,rfl⟩
 unfold pyNext
 refine wpAny_bind (wpAny_attempt (wpAny_callSpecial?_slot (name:=Str.ofString "__next__") tyE F.slot_enumerate_next (wpAny_call_entry F.slot_enumerate_next tyE F.entry_enumerate_next ?_ (F.args_enumerate_next_1 _))))
 exact uv (Kn:=fun h1=>h1.IsListIter it tu (i+1)) isE hne (fun h1 h2 k hk=>k.at hk) (fun Q1 q1=>wpAny_nextOf_list_item hIt hT hx q1) fun h1 a b c d=>wpAny_pure (go h1 a b c d)
theorem Dl {e it tu:Addr} {i:Nat} {vs:Array Value} {old:Value} {Q:Option Value->Shared->Prop} (hh:A.handled=none) (isE:IsEnum s.heap e it i old) (hIt:s.heap.IsListIter it tu i) (hT:s.heap.IsList tu vs) (hx:vs[i]?=none)
  (go:∀h1,Heap.ExtBut it s.heap h1->Q none { s with heap:=h1 }):wpAny (model prog w) A (pyNext (.ref e)) Q E s:=by
 have tyE:s.TypeIs (.ref e) "enumerate" := ⟨_,isE,rfl⟩
 unfold pyNext
 refine wpAny_bind (wpAny_attempt (wpAny_callSpecial?_slot (name:=Str.ofString "__next__") tyE F.slot_enumerate_next (wpAny_call_entry F.slot_enumerate_next tyE F.entry_enumerate_next ?_ (F.args_enumerate_next_1 _))))
 show wpAny _ _ (field (.ref e) 2 >>= _) _ _ _
 refine wpAny_bind (wpAny_field isE rfl (x:=Value.ref it) rfl (wpAny_bind (wpAny_nextOf_list_end hh hIt hT hx fun h1 xx eb hx'=>?_)))
 obtain ⟨o,ho,hc⟩:=hx'
 exact wpAny_bind (wpAny_isInstance (T := "StopIteration") (b:=true) ⟨o,ho,hc⟩ isSubtype_stop (wpAny_pure (go _ eb)))
end
def Rg (K:W.Frag) (a:Addr):It :=
 ⟨fun i H => ∃xs x,cq K H a xs/\xs[i]?=some x,fun i H x H' => ∃p v,x=.ref p/\H p=none/\H'=aN H p (.tup [.int (i:Nat),v])/\∀xs,cq K H a xs->xs[i]?=some v,fun i H => ∃xs,cq K H a xs/\xs.length<=i⟩
theorem uO {P:Program} {w:World} {K:W.Frag} {es:List Expr} {n1:Nat} {pos:Pos} (a e it:Addr) (hne:e≠it) :
  L2.Turn P w K (.Tuple es n1 pos) (Rg K a) [e,it] e (fun i h=>(∃old,IsEnum h e it ((i:Nat):Int) old)/\h.IsListIter it a i) where
 mem:=by simp
 obj:=fun i h st b hb=>by
  obtain ⟨⟨old,q⟩,o,q2,c,d⟩:=st
  rcases List.mem_cons.mp hb with rfl|hb
  ·exact ⟨_,q,fun v z=>by have z':Data.fields _=Data.cell v:=z;cases z'⟩
  ·have eb:b=it:=by simpa using hb
   subst eb
   exact ⟨o,q2,fun v z=>by rw [d] at z;cases z⟩
 keep:=fun i h h' st k=>⟨let ⟨old,q⟩:=st.1;⟨old,k e (by simp) _ q⟩,st.2.at fun o q=>k it (by simp) o q⟩
 item:=by
  intro Y hP hw hK hc i pins s σ H E I hf st hg
  subst hP hw hK
  obtain ⟨xs,x,hq,hx⟩:=hg
  obtain ⟨its,rv,p,hz⟩:=I.list hq
  obtain ⟨u,hu,ru⟩:=rv.get hx
  obtain ⟨⟨old,isE⟩,hIt⟩:=st
  refine zm isE hIt (show s.heap.IsList a its.toArray from p.isList) (x:=u) (by simpa using hu) hne fun h1 eo it1 t1 k1=>?_
  refine ⟨_,rfl,wpAny_letOwnedTupleGo_enum eo fun h2 e2 sb2=>?_⟩
  have sb2':Heap.SameBut e h1 h2:=sb2
  have elt:e < s.heap.objs.size:=Heap.lt_size isE
  have k2:∀b o,b∉[e,it]->s.heap.get? b=some o->h2.get? b=some o:=fun b o nb q=>by
   have n1:b≠e:=fun z=>nb (by simp [z])
   have n2:b≠it:=fun z=>nb (by simp [z])
   exact sb2'.extBut b o n1 (k1 b o n1 n2 q)
  have t2:h2.get? s.heap.objs.size=some { cls:=.type "tuple", data:=.seq #[.int i s.toks,u] }:=sb2'.extBut _ _ (Nat.ne_of_gt elt) t1
  have hn0:H s.heap.objs.size=none:=I.hok.fresh (Nat.le_refl _)
  refine ⟨.ref s.heap.objs.size,aN H s.heap.objs.size (.tup [.int (i:Nat),x]),iz (s:=s) (h2:=h2) (t2:=s.toks+1) I k2 (Nat.le_refl _) hf ?_,rfl,⟨_,x,rfl,hn0,rfl,fun ys hy=>by rw [I.list_inj hy hq];exact hx⟩,⟨⟨u,?_⟩,it1.at fun o q=>sb2'.extBut it o (Ne.symm hne) q⟩,fun b hb=>?_⟩
  ·exact ⟨by show 2<=sizeLine;decide,[.int i s.toks,u],.cons ⟨_,rfl⟩ (.cons ru .nil),⟨_,t2,rfl,_,rfl⟩⟩
  ·have q:=e2
   rw [show ((i:Nat):Int)+1=((i+1:Nat):Int) by omega] at q
   exact q
  ·have hb':=hf b hb
   have lt:b < s.heap.objs.size:=by
    rcases List.mem_cons.mp hb with rfl|hb
    ·exact elt
    ·have eb:b=it:=by simpa using hb
     subst eb
     obtain ⟨o,q,_⟩:=hIt
     exact Heap.lt_size q
   rw [ay (Nat.ne_of_lt lt)];exact hb'.1
 done:=by
  intro Y hP hw hK hc i pins s σ H E I hf st hg
  subst hP hw hK
  obtain ⟨xs,hq,hx⟩:=hg
  obtain ⟨its,rv,p,hz⟩:=I.list hq
  obtain ⟨⟨old,isE⟩,hIt⟩:=st
  obtain ⟨f0,f1,f2,f3,f4,f5⟩:=hf it (by simp)
  have hl:=rv.length
  exact Dl (I.ok.hd hc) isE hIt (show s.heap.IsList a its.toArray from p.isList) (by simp;omega) fun h1 eb=>⟨rfl,I.turned (t':=s.toks) (fun b o hb q=>eb b o hb q) f0 f1 f3 f4 f5⟩
 self:=fun _ _ _ _ _ st h=>let ⟨old,q⟩:=st.1;wpAny_pyIter_enum q h
theorem zd {ρ:ak} {es:List Expr} {n1:Nat} {tp p pos:Pos} {a:Expr} {l:List D} {k:Nat} (hg:Gl X "enumerate") (hm0:X.mg "enumerate" = none) (ha:AD X ρ [a] [.lst l] k) (hst:∀y p,a ≠ .Starred y p) (hf:ax l=true) :
  IE X ρ (.Tuple es n1 tp) (.Call (.Name "enumerate" p) [a] [] pos) (l.mapIdx fun i x=>.tup [.int (i:Nat),x]) k:=by
 intro ow pins s σ H R I ⟨E,q⟩
 refine Call_ (dl I hg hm0 (show bootBuiltins "enumerate" = some (.type "enumerate") by decide +kernel) (PyProof.Rows.callWith_type1 (aR (ha ow pos pins s σ H (fun vs H1=>aA H H1/\ai X.K H1 (Kp ow H k) [.lst l] vs) I ⟨E,fun vs H1 s1 r1=>⟨s1,r1⟩⟩) fun us s1 ⟨vs,H1,I1,rv,sm,rp⟩=>?_) (aV hst) rfl) (by decide +kernel) (by decide +kernel))
 obtain ⟨v,rfl,rv1⟩:=rp.only
 obtain ⟨ta,xs,rfl,hq,rl,hk1⟩:=iU (κ:=false) rv1
 replace hq:cq X.K H1 ta xs:=hq
 obtain ⟨u,rfl,ru⟩:=eJ rv
 cases (show u=Value.ref ta from ru)
 obtain ⟨its,rvs,pt,hz⟩:=I1.list hq
 refine zn (show s1.heap.IsList ta its.toArray from pt.isList) fun h2 isE hIt sz k2=>?_
 refine wpAny_pyIter_enum isE ?_
 have I2:Inv X pins σ H1 { s1 with heap:=h2 }:=I1.kept (t':=s1.toks) k2
 have f0:H1 s1.heap.objs.size=none:=I1.hok.fresh (Nat.le_refl _)
 have f1:H1 (s1.heap.objs.size+1)=none:=I1.hok.fresh (Nat.le_succ _)
 refine ⟨s1.heap.objs.size+1,[s1.heap.objs.size+1,s1.heap.objs.size],_,_,H1,rfl,I2,uO ta _ _ (Nat.ne_of_gt (Nat.lt_succ_self _)),⟨⟨_,isE⟩,hIt⟩,fun b hb=>?_,q _ H1 sm ?_⟩
 ·rcases List.mem_cons.mp hb with rfl|hb
  ·exact I1.fpOk (Nat.le_succ _) f1
  ·have eb:b=s1.heap.objs.size:=by simpa using hb
   subst eb
   exact I1.fpOk (Nat.le_refl _) f0
 ·intro i H2 st
  have rl':ai X.K H1 (Kd ow H k H1) l xs:=rl.flat _ hf
  refine ⟨fun d hd=>?_,fun hle=>?_⟩
  ·rw [List.getElem?_mapIdx] at hd
   cases e:l[i]? with
   | none=>rw [e] at hd;cases hd
   | some x =>
    rw [e] at hd;cases hd
    obtain ⟨y,hy,ry⟩:=rl'.get e
    refine ⟨⟨xs,y,hk1 st,hy⟩,fun x' H3 ⟨p',v',e1,e2,e3,e4⟩=>?_⟩
    have hv:=e4 xs (hk1 st)
    rw [hy] at hv;cases hv
    subst e1 e3
    have sm3:=cz (o:=HO.tup [.int (i:Nat),y]) e2
    refine ⟨sm3,?_⟩
    rw [al]
    exact ⟨p',_,rfl,cm.of aH,ai.cons (by rw [al]) (ai.one ((ry.mono st).same sm3))⟩
  ·rw [List.length_mapIdx] at hle
   exact ⟨xs,hk1 st,by rw [<- rl.length];exact hle⟩
theorem zf:kX "enumerate" vE:=by
 refine ⟨by decide +kernel,fun X ρ p pos args ds k d j l tg o hc hg hm ha hst hlen h hp hl ht=>?_⟩
 unfold vE at h
 have ht2:gt tg=true:=by simpa [eQ] using ht
 obtain ⟨es,n1,tp,rfl⟩:=pk ht2
 split at h
 ·cases h
  cases hl
  match args,hlen,ha,hst with
  | [a'],_,ha,hst=>rw [oI];simp only [Nat.zero_add];exact C5 hg hm ha (hst a' List.mem_cons_self) hp.1
 ·cases h
  cases hl
  match args,hlen,ha,hst with
  | [a'],_,ha,hst=>rw [oI];simp only [Nat.zero_add];exact zd hg hm ha (hst a' List.mem_cons_self) hp.1
 ·cases h
end Sp
namespace Sp
open PySem PySem.Spec PyProof.Rows L2
open PySem.W (KasT kas_sort kas_ask KatLex KatTups kat_sorted kat_kind kat_lt kat_cons kat_nil kat_go kat_yes kat_no kat_one KasFin)
section
variable {prog:Program} {w:World} {A:Around} {E:Value->Shared->Prop} {s:Shared}
end
variable {X:Cx}
end Sp
namespace Sp
open PySem PySem.Spec PyProof.Rows L2
theorem cX {α:Type} {r:Rs α} {a:α} {l:List Prop} (h:r=.ok a l) (hp:aG l):ag r a:=⟨l,h,hp⟩
theorem ag.eq {α:Type} {r:Rs α} {a b:α} (h:ag r a) (e:a=b):ag r b:=e ▸ h
theorem ag.bnd {α β:Type} {r:Rs α} {f:α->Rs β} {a:α} {b:β} (h1:ag r a) (h2:ag (f a) b):ag (r.bnd f) b:=by
 obtain ⟨l,rfl,p1⟩:=h1
 obtain ⟨m,h2,p2⟩:=h2
 refine ⟨l++m,?_,dR.mpr ⟨p1,p2⟩⟩
 show (match f a with | .st=>(.st:Rs β) | .ok b m=>Rs.ok b (l++m))=_
 rw [h2]
theorem ag.inj {α:Type} {r:Rs α} {a b:α} (h:ag r a) (g:ag r b):a=b:=by
 obtain ⟨l,h,_⟩:=h;obtain ⟨m,g,_⟩:=g;rw [h] at g;cases g;rfl
section
variable {Φ:Fx} {sc:Scope} {ρ ρ':ak} {fl:Fl} {ss:List Stmt}
theorem bW {ps:List Str} {body:List Stmt} {ds:List D} {d:D} (h:ag (aD Φ body sc (eh ps ds)) (.rt d)) (hl:ds.length=ps.length:=by rfl):ag (bH Φ sc ps body ds) d:=by
 unfold bH;rw [if_pos hl];exact h.bnd ⟨[],rfl,True.intro⟩
theorem cS:ag (aD Φ [] sc ρ) (.nx ρ):=⟨[],rfl,True.intro⟩
theorem aJ {s:Stmt} (h:ag (dS Φ s sc ρ) (.nx ρ')) (h2:ag (aD Φ ss sc ρ') fl):ag (aD Φ (s::ss) sc ρ) fl:=ag.bnd h h2
theorem jN {s:Stmt} (h:ag (dS Φ s sc ρ) fl) (hf:∀ρ,fl ≠ .nx ρ):ag (aD Φ (s::ss) sc ρ) fl:=ag.bnd h (by
 cases fl with
 | nx ρ=>exact absurd rfl (hf ρ)
 | rt d=>exact ⟨[],rfl,True.intro⟩
 | bk ρ=>exact ⟨[],rfl,True.intro⟩
 | ct ρ=>exact ⟨[],rfl,True.intro⟩)
theorem di {s:Stmt} {d:D} (h:ag (dS Φ s sc ρ) (.rt d)):ag (aD Φ (s::ss) sc ρ) (.rt d):=jN h fun _ z=>by cases z
theorem qz {s:Stmt} (h:ag (aD Φ (s::ss) sc ρ) fl):(∃ρ',ag (dS Φ s sc ρ) (.nx ρ')/\ag (aD Φ ss sc ρ') fl)\/((∀ρ,fl ≠ .nx ρ)/\ag (dS Φ s sc ρ) fl):=by
 obtain ⟨f,h1,h2⟩:=av (show ag (Rs.bnd _ _) fl from h)
 cases f with
 | nx ρ'=>exact .inl ⟨ρ',h1,h2⟩
 | rt d=>cases aL h2;exact .inr ⟨fun _ z=>(by cases z),h1⟩
 | bk ρ=>cases aL h2;exact .inr ⟨fun _ z=>(by cases z),h1⟩
 | ct ρ=>cases aL h2;exact .inr ⟨fun _ z=>(by cases z),h1⟩
theorem xP:∀{a:List Stmt} {ρ:ak},ag (aD Φ a sc ρ) (.nx ρ')->ag (aD Φ ss sc ρ') fl->ag (aD Φ (a++ss) sc ρ) fl
 | [],ρ,h,h2=>by cases aL h;exact h2
 | s::a,ρ,h,h2=>by
  rcases qz h with ⟨ρ1,h3,h4⟩ | ⟨h3,_⟩
  ·exact aJ h3 (xP h4 h2)
  ·exact absurd rfl (h3 _)
theorem oO:∀{a:List Stmt} {ρ:ak},ag (aD Φ (a++ss) sc ρ) fl->(∃ρ',ag (aD Φ a sc ρ) (.nx ρ')/\ag (aD Φ ss sc ρ') fl)\/((∀ρ,fl ≠ .nx ρ)/\ag (aD Φ a sc ρ) fl)
 | [],ρ,h=>.inl ⟨ρ,cS,h⟩
 | s::a,ρ,h=>by
  rcases qz h with ⟨ρ1,h3,h4⟩ | ⟨h3,h4⟩
  ·rcases oO h4 with ⟨ρ2,h5,h6⟩ | ⟨h5,h6⟩
   ·exact .inl ⟨ρ2,aJ h3 h5,h6⟩
   ·exact .inr ⟨h5,aJ h3 h6⟩
  ·exact .inr ⟨h3,jN h4 h3⟩
theorem eB (n:Nat) (h:ag (aD Φ (ss.take n) sc ρ) (.nx ρ')) (h2:ag (aD Φ (ss.drop n) sc ρ') fl):ag (aD Φ ss sc ρ) fl:=by
 rw [<- List.take_append_drop n ss];exact xP h h2
theorem uV {c:Expr} {a b:List Stmt} {p:Pos} {t:Bool} {k:Nat} (hc:ag (aC Φ c false sc ρ) (.bl t,k)) (h1:t=true->ag (aD Φ (a++ss) sc ρ) fl) (h2:t=false->ag (aD Φ (b++ss) sc ρ) fl):ag (aD Φ (.If c a b p::ss) sc ρ) fl:=by
 have key:∀x,ag (cond t (aD Φ a sc ρ) (aD Φ b sc ρ)) x->ag (dS Φ (.If c a b p) sc ρ) x:=fun x hx=>ag.bnd hc hx
 cases t with
 | true =>
  rcases oO (h1 rfl) with ⟨ρ1,h3,h4⟩ | ⟨h3,h4⟩
  ·exact aJ (key _ h3) h4
  ·exact jN (key _ h4) h3
 | false =>
  rcases oO (h2 rfl) with ⟨ρ1,h3,h4⟩ | ⟨h3,h4⟩
  ·exact aJ (key _ h3) h4
  ·exact jN (key _ h4) h3
theorem er {c:Expr} {a b:List Stmt} {p:Pos} {t:Bool} {k:Nat} (hc:ag (aC Φ c false sc ρ) (.bl t,k)) (ht:t=true) (h1:ag (aD Φ (a++ss) sc ρ) fl):ag (aD Φ (.If c a b p::ss) sc ρ) fl:=uV hc (fun _=>h1) fun z=>by rw [ht] at z;cases z
theorem aZ {c:Expr} {a b:List Stmt} {p:Pos} {t:Bool} {k:Nat} (hc:ag (aC Φ c false sc ρ) (.bl t,k)) (ht:t=false) (h1:ag (aD Φ (b++ss) sc ρ) fl):ag (aD Φ (.If c a b p::ss) sc ρ) fl:=uV hc (fun z=>by rw [ht] at z;cases z) fun _=>h1
theorem j7 {tg it:Expr} {body:List Stmt} {p:Pos} {d:D} {ds:List D} {k:Nat} (hi:ag (aC Φ it true sc (demote it ρ)) (d,k)) (hd:items d=some ds) (hk:k<=1) (ht:eQ it tg=true) (h:ag (de (bR sc tg) (aD Φ body sc) ds (demote it ρ)) fl):ag (dS Φ (.For tg it body [] p) sc ρ) fl:=by
 rw [oC,if_pos (show List.isEmpty ([]:List Stmt)=true from rfl)]
 refine hi.bnd ?_
 dsimp only
 rw [hd]
 dsimp only
 rw [if_pos ⟨hk,ht⟩]
 exact h
theorem rP {c:Expr} {body:List Stmt} {p:Pos} (h:ag (ln (fun ρ=>(aC Φ c false sc ρ).bnd fun p=>iE p fun b=>.ok b []) (aD Φ body sc) cZ ρ) fl):ag (dS Φ (.While c body [] p) sc ρ) fl:=by
 rw [rS,if_pos (show List.isEmpty ([]:List Stmt)=true from rfl)];exact h
theorem az {f:Str} {p q:Pos} {args:List Expr} {it:Bool} {ds:List D} {k:Nat} {F:List D->Rs D} {v:D} (ha:ag (cf Φ args sc ρ) (ds,k)) (hv:ag (F ds) v) (hF:Φ.fn f=some F:=by rfl) (hg:sc.names.lookup f=some .globalImplicit:=by rfl):ag (aC Φ (.Call (.Name f p) args [] q) it sc ρ) (v,0):=by
 rw [jy,if_pos hg]
 refine ha.bnd ?_
 unfold kS
 rw [hF]
 exact hv.bnd ⟨[],rfl,True.intro⟩
theorem GE {f:Str} {p q:Pos} {args:List Expr} {it:Bool} {ds:List D} {k:Nat} {B:List D->R1} {v:D×Nat} (ha:ag (cf Φ args sc ρ) (ds,k)) (hv:ag (B ds) v) (hF:Φ.fn f=none:=by rfl) (hI:(if it=true then Φ.itr f else none)=none:=by rfl) (hB:Φ.blt f=some B:=by rfl) (hg:sc.names.lookup f=some .globalImplicit:=by rfl):ag (aC Φ (.Call (.Name f p) args [] q) it sc ρ) v:=by
 rw [jy,if_pos hg]
 refine ha.bnd ?_
 unfold kS
 rw [hF];dsimp only
 rw [hI];dsimp only
 rw [hB];exact hv
theorem dD:ag (cf Φ [] sc ρ) ([],0):=⟨[],rfl,True.intro⟩
theorem bD {e:Expr} {es:List Expr} {d:D} {ds:List D} {k j:Nat} (h:ag (aC Φ e false sc ρ) (d,k)) (h2:ag (cf Φ es sc ρ) (ds,j)):ag (cf Φ (e::es) sc ρ) (d::ds,kj k j):=ag.bnd h (ag.bnd h2 ⟨[],rfl,True.intro⟩)
theorem kO {elt tg iter:Expr} {ifs:List Expr} {scope:Scope} {p:Pos} {it:Bool} {d:D} {ds out:List D} {k j:Nat} (hi:ag (aC Φ iter true sc ρ) (d,k)) (hd:items d=some ds) (hl:ds.length<=cZ/\(ax ds=true\/k<=1))
    (h:ag (gm (fun d=>match bR scope tg d (flt scope ρ) with
            | none=>.st
            | some ρ'=>(dW Φ .And ifs scope ρ').bnd fun b=>cond b ((aC Φ elt false scope ρ').bnd fun r=>.ok (some r) []) (.ok none [])) ds) (out,j)) (hj:j<=1) (hc:nl sc scope=true:=by rfl) (ht:eQ iter tg=true:=by rfl):ag (aC Φ (.ListComp elt [⟨tg,iter,ifs,0⟩] scope p) it sc ρ) (.lst out,j):=by
  rw [oE,if_pos hc]
  refine hi.bnd ?_
  dsimp only
  rw [hd]
  dsimp only
  rw [if_pos ht]
  refine ag.bnd (a:=()) ⟨_,rfl,hl.1,hl.2,True.intro⟩ ?_
  refine h.bnd ?_
  rw [if_pos hj]
  exact ⟨[],rfl,True.intro⟩
theorem dU {a i:Expr} {p:Pos} {it:Bool} {x d:D} {l:List D} {j:Int} {k k2:Nat} (ha:ag (aC Φ a false sc ρ) (x,k)) (hi:ag (aC Φ i false sc ρ) (.int j,k2)) (hx:eY x=some l) (hd:L2.atI l j=some d):ag (aC Φ (.Subscript a i p) it sc ρ) (d,kn d k):=by
 have key:ag ((aC Φ a false sc ρ).bnd fun p=>(aC Φ i false sc ρ).bnd fun q=>lF p q) (d,kn d k):=by
  refine ha.bnd (hi.bnd ?_)
  rcases fu hx with rfl|rfl
  ·show ag (rh (.tup l) j k) _
   unfold rh
   rw [hx];dsimp only
   rw [hd];exact ⟨[],rfl,True.intro⟩
  ·show ag (rh (.lst l) j k) _
   unfold rh
   rw [hx];dsimp only
   rw [hd];exact ⟨[],rfl,True.intro⟩
 cases i with
 | Slice lo hi st p2=>exact (au hi).elim
 | _=>exact key
theorem aP {e:Expr} {x:Str} {p q:Pos} {d:D} (h:ag (aC Φ e false sc ρ) (d,0)) (hx:c9 sc x=true:=by rfl):ag (dS Φ (.Assign [.Name x p] e q) sc ρ) (.nx (bI ρ x (d,true))):=by
 refine ag.bnd h ?_
 unfold nU
 rw [if_pos hx]
 exact ⟨[],rfl,True.intro⟩
theorem dg {e:Expr} {q:Pos} {d:D} {k:Nat} (h:ag (aC Φ e false sc ρ) (d,k)) (hk:k=0\/k=2:=by exact .inl rfl) (hn:p9 e=false:=by rfl):ag (dS Φ (.Return (some e) q) sc ρ) (.rt d):=by
 have h:ag (aC Φ e false sc (qH e ρ)) (d,k):=by unfold qH;rw [hn];exact h
 refine ag.bnd h ?_
 unfold u5
 rw [if_pos hk]
 exact ⟨[],rfl,True.intro⟩
end
theorem rL {bind:D->ak->Option ak} {body:ak->Rs Fl} (Inv:List D->ak->Prop) (step:∀d l ρ,Inv (d::l) ρ->∃ρ1 ρ2,bind d ρ=some ρ1/\(ag (body ρ1) (.nx ρ2)\/ag (body ρ1) (.ct ρ2))/\Inv l ρ2):∀{ds:List D} {ρ:ak},Inv ds ρ->∃ρ',ag (de bind body ds ρ) (.nx ρ')/\Inv [] ρ'
 | [],ρ,h=>⟨ρ,⟨[],rfl,True.intro⟩,h⟩
 | d::l,ρ,h=>by
  obtain ⟨ρ1,ρ2,h1,h2,h3⟩:=step d l ρ h
  obtain ⟨ρ',h4,h5⟩:=rL Inv step h3
  refine ⟨ρ',?_,h5⟩
  show ag (match bind d ρ with|none=>(.st:Rs Fl) | some ρ1=>(body ρ1).bnd (gC (de bind body l))) _
  rw [h1]
  rcases h2 with h2|h2
  ·exact h2.bnd h4
  ·exact h2.bnd h4
theorem ur {bind:D->ak->Option ak} {body:ak->Rs Fl} (Inv:List D->ak->Prop) (R:D->Prop) (step:∀d l ρ,Inv (d::l) ρ->∃ρ1,bind d ρ=some ρ1/\((∃ρ2,(ag (body ρ1) (.nx ρ2)\/ag (body ρ1) (.ct ρ2))/\Inv l ρ2)\/∃r,ag (body ρ1) (.rt r)/\R r)):∀{ds:List D} {ρ:ak},Inv ds ρ->(∃ρ',ag (de bind body ds ρ) (.nx ρ')/\Inv [] ρ')\/∃r,ag (de bind body ds ρ) (.rt r)/\R r
 | [],ρ,h=>.inl ⟨ρ,⟨[],rfl,True.intro⟩,h⟩
 | d::l,ρ,h=>by
  obtain ⟨ρ1,h1,h2⟩:=step d l ρ h
  have key:de bind body (d::l) ρ=(body ρ1).bnd (gC (de bind body l)):=by
   show (match bind d ρ with|none=>(.st:Rs Fl) | some ρ1=>(body ρ1).bnd (gC (de bind body l)))=_
   rw [h1]
  rw [key]
  rcases h2 with ⟨ρ2,h2,h3⟩ | ⟨r,h2,h3⟩
  ·have go:∀x,ag (de bind body l ρ2) x->ag ((body ρ1).bnd (gC (de bind body l))) x:=fun x hx=>by
    rcases h2 with h2|h2
    ·exact h2.bnd hx
    ·exact h2.bnd hx
   rcases ur Inv R step h3 with ⟨ρ',h4,h5⟩ | ⟨r,h4,h5⟩
   ·exact .inl ⟨ρ',go _ h4,h5⟩
   ·exact .inr ⟨r,go _ h4,h5⟩
  ·exact .inr ⟨r,h2.bnd ⟨[],rfl,True.intro⟩,h3⟩
theorem pF {α:Type} {step:D->Rs (Option (D×Nat))} {g:α->D} {f:α->D}:∀{l:List α},(∀x∈l,ag (step (g x)) (some (f x,0)))->ag (gm step (l.map g)) (l.map f,0)
 | [],_=>⟨[],rfl,True.intro⟩
 | x::l,h=>ag.bnd (h x List.mem_cons_self) (ag.bnd (pF fun y hy=>h y (List.mem_cons_of_mem _ hy)) ⟨[],rfl,True.intro⟩)
theorem fH {α:Type} {step:D->Rs (Option (D×Nat))} {g:α->D} {f:α->D} {c:α->Bool}:∀{l:List α},(∀x∈l,ag (step (g x)) (cond (c x) (some (f x,0)) none))->ag (gm step (l.map g)) ((l.filter c).map f,0)
 | [],_=>⟨[],rfl,True.intro⟩
 | x::l,h=>by
  have h1:=h x List.mem_cons_self
  have h2:=fH (c:=c) fun y hy=>h y (List.mem_cons_of_mem _ hy)
  cases e:c x with
  | true =>
   rw [e] at h1
   rw [List.filter_cons_of_pos e]
   exact ag.bnd h1 (ag.bnd h2 ⟨[],rfl,True.intro⟩)
  | false =>
   rw [e] at h1
   rw [List.filter_cons_of_neg (by rw [e];decide)]
   exact ag.bnd h1 (ag.bnd h2 ⟨[],rfl,True.intro⟩)
theorem CJ {a b:Int} (h:a.natAbs < 18446744073709551616):bL a b:=.inl h
theorem CI {a b:Int} (h:b.natAbs < 18446744073709551616):bL a b:=.inr (.inl h)
theorem bQ {a b:Int} (h:a.natAbs < bY) (g:b.natAbs < bY):bL a b:=.inr (.inr (.inl ⟨h,g⟩))
theorem gN {a b:Int} (h:Builtin.Int.intBits a<=2 ^ 22) (g:Builtin.Int.intBits b<=2 ^ 22):bL a b:=.inr (.inr (.inr ⟨h,g⟩))
theorem su {n:Nat} (h:n < 2 ^ 64):n < bY:=Nat.lt_of_lt_of_le h (Nat.pow_le_pow_right (by decide) (by decide))
theorem Du {b:Int} (h0:b≠0) (h:b.natAbs < 18446744073709551616):eZ b:=⟨h0,su h⟩
theorem DI {ns:List Int} {i:Int} (h0:0<=i) (h1:i < ns.length):L2.atI (ns.map D.int) i=some (.int (ns.getD i.toNat 0)):=by
 obtain ⟨j,rfl⟩:=Int.eq_ofNat_of_zero_le h0
 have hj:j < ns.length:=by omega
 have:=DH (xs:=ns.map D.int) (j:=j) (v:=.int (ns.getD j 0)) (by simp [hj])
 simpa using this
theorem zP:aG []:=True.intro
theorem v5 {l m:List Prop} (h:aG l) (g:aG m):aG (l++m):=dR.mpr ⟨h,g⟩
theorem zO {p:Prop} (h:p):aG [p]:=⟨h,True.intro⟩
theorem tE {p:Prop} {l:List Prop} (h:p) (g:aG l):aG (p::l):=⟨h,g⟩
theorem Cn {a b:Int} (h0:0<=b) (h1:b<=1000) (h2:a.natAbs < 18446744073709551616):vd a b:=⟨h0,h1,h2⟩
end Sp
namespace Sp
open PySem PySem.Spec PyProof.Rows L2
def Sub (C ρ:ak):Prop:=∀x y,C x=some y->ρ x=some y
theorem Sub.refl (ρ:ak):Sub ρ ρ:=fun _ _ h=>h
theorem Sub.trans {a b c:ak} (h:Sub a b) (g:Sub b c):Sub a c:=fun x y e=>g x y (h x y e)
theorem Sub.put {C ρ:ak} (h:Sub C ρ) (x:Str) (y:D×Bool):Sub (bI C x y) (bI ρ x y):=fun z w e=>by
 rw [dO] at e ⊢
 by_cases hz:z=x
 ·rw [if_pos hz] at e ⊢;exact e
 ·rw [if_neg hz] at e ⊢;exact h z w e
theorem Sub.flt {C ρ:ak} (h:Sub C ρ) (scope:Scope):Sub (flt scope C) (flt scope ρ):=fun z w e=>by
 obtain ⟨e1,e2⟩:=jx e
 unfold Sp.flt
 rw [if_pos e2];exact h z w e1
theorem Sub.demX {C ρ:ak} (h:Sub C ρ) (x:Str):Sub (demX x C) (demX x ρ):=by
 unfold Sp.demX
 intro z w hz
 by_cases hx:z=x
 ·simp only [if_pos hx] at hz ⊢
  cases hc:C z with
  | none=>rw [hc] at hz;cases hz
  | some q=>rw [hc] at hz;rw [h z q hc];exact hz
 ·simp only [if_neg hx] at hz ⊢;exact h z w hz
theorem Sub.demA {C ρ:ak} (h:Sub C ρ) (x:Str):Sub (demA x C) (demA x ρ):=by
 intro z w hz
 unfold Sp.demA at hz ⊢
 by_cases hx:z=x
 ·simp only [if_pos hx] at hz ⊢
  cases hc:C z with
  | none=>rw [hc] at hz;cases hz
  | some q=>rw [hc] at hz;rw [h z q hc];exact hz
 ·simp only [if_neg hx] at hz ⊢;exact h z w hz
theorem Sub.demL:∀{es:List Expr} {C ρ:ak},Sub C ρ->Sub (demL es C) (demL es ρ)
 | [],_,_,h=>h
 | e::es,C,ρ,h=>by
  cases e with
  | Name x p=>exact Sub.demL (es:=es) (h.demA x)
  | Subscript a i p =>
   cases a with
   | Name x q=>exact Sub.demL (es:=es) (h.demA x)
   | _=>exact Sub.demL (es:=es) h
  | _=>exact Sub.demL (es:=es) h
theorem Sub.demote {C ρ:ak} (h:Sub C ρ) (e:Expr):Sub (demote e C) (demote e ρ):=by
 unfold Sp.demote
 split
 ·exact h.demX _
 ·exact h.demX _
 ·exact h.demL
 ·exact h
theorem oY {sc:Scope}:∀{es:List Expr} {ds:List D} {C C' ρ:ak},aY sc es ds C=some C'->Sub C ρ->∃ρ',aY sc es ds ρ=some ρ'/\Sub C' ρ':=by
 intro es
 induction es with
 | nil =>
  intro ds C C' ρ h s
  cases ds with
  | nil=>cases h;exact ⟨ρ,rfl,s⟩
  | cons d ds=>cases h
 | cons e es ih =>
  intro ds C C' ρ h s
  cases ds with
  | nil=>cases e <;> cases h
  | cons d ds =>
   cases e with
   | Name z p =>
    rw [aY] at h ⊢
    split at h
    ·rename_i hz
     rw [if_pos hz]
     exact ih h (s.put _ _)
    ·cases h
   | _=>cases h
theorem qx {sc:Scope} {tg:Expr} {d:D} {C C' ρ:ak} (h:bR sc tg d C=some C') (s:Sub C ρ):∃ρ',bR sc tg d ρ=some ρ'/\Sub C' ρ':=by
 unfold bR at h ⊢
 split at h
 ·split at h
  ·rename_i hx;cases h;exact ⟨_,if_pos hx,s.put _ _⟩
  ·cases h
 ·split at h
  ·exact oY h s
  ·cases h
 ·cases h
theorem e9 {b:Bool} {m:List Prop} (h:b=true->aG m):aG (gd b m):=by
 cases m with
 | nil=>exact True.intro
 | cons p l=>exact ⟨h,True.intro⟩
theorem sB {b c:Bool} {r:Rs Bool} (h:b=true->ag r c) (hf:b=false->c=false):ag (v4 b r) c:=by
 cases b with
 | true =>
  obtain ⟨m,rfl,hm⟩:=h rfl
  exact ⟨_,rfl,e9 fun _=>hm⟩
 | false =>
  rw [hf rfl]
  cases r with
  | ok c' m=>exact ⟨_,rfl,e9 fun z=>(by cases z)⟩
  | st=>exact ⟨_,rfl,True.intro⟩
theorem vj {b c:Bool} {r:Rs Bool} (h:b=false->ag r c) (hf:b=true->c=true):ag (AC b r) c:=by
 cases b with
 | false =>
  obtain ⟨m,rfl,hm⟩:=h rfl
  exact ⟨_,rfl,e9 fun _=>hm⟩
 | true =>
  rw [hf rfl]
  cases r with
  | ok c' m=>exact ⟨_,rfl,e9 fun z=>(by cases z)⟩
  | st=>exact ⟨_,rfl,True.intro⟩
theorem AO {t:Bool} {r s:R1} {d:D×Nat} (h:ag (if t=true then r else s) d):ag (AQ t r s) d:=by
 cases t with
 | true =>
  rw [if_pos rfl] at h
  obtain ⟨m,rfl,hm⟩:=h
  cases s with
  | ok q n=>exact ⟨_,by show Rs.ok _ _=Rs.ok _ _;rw [qY,AK],dR.mpr ⟨e9 fun _=>hm,e9 fun z=>(by cases z)⟩⟩
  | st=>exact ⟨m,rfl,hm⟩
 | false =>
  rw [if_neg Bool.false_ne_true] at h
  obtain ⟨m,rfl,hm⟩:=h
  cases r with
  | ok q n=>exact ⟨_,by show Rs.ok _ _=Rs.ok _ _;rw [qZ,AL],dR.mpr ⟨e9 fun z=>(by cases z),e9 fun _=>hm⟩⟩
  | st=>exact ⟨m,rfl,hm⟩
theorem iN {α:Type} {p:D×Nat} {f:Bool->Rs α} {a:α} {b:Bool} (h:p.1=.bl b) (h2:ag (f b) a):ag (iE p f) a:=by
 unfold iE;rw [h];exact h2
theorem JS {p:D×Nat} {f:Int->R1} {a:D×Nat} {b:Int} (h:p.1=.int b) (h2:ag (f b) a):ag (jt p f) a:=by
 unfold jt;rw [h];exact h2
structure Mo (Φ:Fx) (n:Nat):Prop where
 e:∀(e:Expr) {it:Bool} {sc:Scope} {C ρ:ak} {p:D×Nat},sizeOf e < n->ag (aC Φ e it sc C) p->Sub C ρ->ag (aC Φ e it sc ρ) p
 es:∀(es:List Expr) {sc:Scope} {C ρ:ak} {p:List D×Nat},sizeOf es < n->ag (cf Φ es sc C) p->Sub C ρ->ag (cf Φ es sc ρ) p
 b:∀(op:BoolOp) (es:List Expr) {sc:Scope} {C ρ:ak} {b:Bool},sizeOf es < n->ag (dW Φ op es sc C) b->Sub C ρ->ag (dW Φ op es sc ρ) b
 o:∀(e:Option Expr) {sc:Scope} {C ρ:ak} {o:Option Int},sizeOf e < n->ag (pz Φ e sc C) o->Sub C ρ->ag (pz Φ e sc ρ) o
theorem ud {step step2:D->Rs (Option (D×Nat))} (h:∀d r,ag (step d) r->ag (step2 d) r):∀{ds:List D} {q:List D×Nat},ag (gm step ds) q->ag (gm step2 ds) q
 | [],q,hq=>hq
 | d::ds,q,hq=>by
  obtain ⟨r,h1,h2⟩:=av (show ag (Rs.bnd _ _) q from hq)
  obtain ⟨q1,h3,h4⟩:=av h2
  exact ag.bnd (h _ _ h1) (ag.bnd (ud h h3) h4)
section
variable {Φ:Fx} {n:Nat} {it:Bool} {sc:Scope} {C ρ:ak} {p:D×Nat}
theorem AG (I:Mo Φ n) {a i:Expr} {pos:Pos} (hs:sizeOf (Expr.Subscript a i pos) < n+1) (h:ag ((aC Φ a false sc C).bnd fun p=>(aC Φ i false sc C).bnd fun q=>lF p q) p) (s:Sub C ρ):ag ((aC Φ a false sc ρ).bnd fun p=>(aC Φ i false sc ρ).bnd fun q=>lF p q) p:=by
 obtain ⟨x,h1,h⟩:=av h
 obtain ⟨y,h2,h⟩:=av h
 exact ag.bnd (I.e a (bm (by simp <;> omega) hs) h1 s) (ag.bnd (I.e i (bm (by simp <;> omega) hs) h2 s) h)
theorem Oa (I:Mo Φ n) (e:Expr) (hs:sizeOf e < n+1) (h:ag (aC Φ e it sc C) p) (s:Sub C ρ):ag (aC Φ e it sc ρ) p:=by
 cases e with
 | Constant c k q=>exact h
 | Name x q =>
  replace h:ag (js Φ x sc C) p:=h
  show ag (js Φ x sc ρ) p
  unfold js at h ⊢
  split at h
  ·rename_i hx
   rw [if_pos hx]
   split at h
   ·rename_i hg;rw [if_pos hg];exact h
   ·rename_i hg
    rw [if_neg hg]
    split at h
    ·rename_i y hy;rw [s x y hy];exact h
    ·exact (au h).elim
  ·exact (au h).elim
 | BinOp a op b q =>
  obtain ⟨x,h1,h⟩:=av (show ag (Rs.bnd _ _) p from h)
  obtain ⟨y,h2,h⟩:=av h
  exact ag.bnd (I.e a (bm (by simp <;> omega) hs) h1 s) (ag.bnd (I.e b (bm (by simp <;> omega) hs) h2 s) h)
 | UnaryOp op a q =>
  obtain ⟨x,h1,h⟩:=av (show ag (Rs.bnd _ _) p from h)
  exact ag.bnd (I.e a (bm (by simp <;> omega) hs) h1 s) h
 | BoolOp op es q =>
  rw [oF] at h ⊢
  split at h
  ·exact (au h).elim
  ·rename_i hne
   rw [if_neg hne]
   obtain ⟨b,h1,h⟩:=av h
   exact ag.bnd (I.b op es (bm (by simp <;> omega) hs) h1 s) h
 | Compare a ops bs q =>
  match ops,bs,hs,h with
  | [op],[b],hs,h =>
   obtain ⟨x,h1,h⟩:=av (show ag (Rs.bnd _ _) p from h)
   obtain ⟨y,h2,h⟩:=av h
   exact ag.bnd (I.e a (bm (by simp <;> omega) hs) h1 s) (ag.bnd (I.e b (bm (by simp <;> omega) hs) h2 s) h)
  | [],bs,_,h=>exact (au h).elim
  | [op],[],_,h=>exact (au h).elim
  | [op],_::_::_,_,h=>exact (au h).elim
  | [op,op2],[b,c],hs,h =>
   obtain ⟨x,h1,h⟩:=av (show ag (Rs.bnd _ _) p from h)
   obtain ⟨y,h2,h⟩:=av h
   obtain ⟨z,h3,h⟩:=av h
   exact ag.bnd (I.e a (bm (by simp <;> omega) hs) h1 s) (ag.bnd (I.e b (bm (by simp <;> omega) hs) h2 s) (ag.bnd (I.e c (bm (by simp <;> omega) hs) h3 s) h))
  | [_,_],[],_,h=>exact (au h).elim
  | [_,_],[_],_,h=>exact (au h).elim
  | [_,_],_::_::_::_,_,h=>exact (au h).elim
  | _::_::_::_,bs,_,h=>exact (au h).elim
 | IfExp c a b q =>
  obtain ⟨x,h1,h⟩:=av (show ag (Rs.bnd _ _) p from h)
  obtain ⟨t,ht,h⟩:=gr h
  obtain ⟨l,h,hp⟩:=h
  obtain ⟨m,h,hm⟩:=uq h hp
  refine ag.bnd (I.e c (bm (by simp <;> omega) hs) h1 s) (iN ht (AO ?_))
  cases t with
  | true=>exact I.e a (bm (by simp <;> omega) hs) ⟨m,h,hm⟩ s
  | false=>exact I.e b (bm (by simp <;> omega) hs) ⟨m,h,hm⟩ s
 | Tuple es k q =>
  obtain ⟨x,h1,h⟩:=av (show ag (Rs.bnd _ _) p from h)
  exact ag.bnd (I.es es (bm (by simp <;> omega) hs) h1 s) h
 | List es q =>
  obtain ⟨x,h1,h⟩:=av (show ag (Rs.bnd _ _) p from h)
  exact ag.bnd (I.es es (bm (by simp <;> omega) hs) h1 s) h
 | Attribute a f q =>
  cases a with
  | Name x pn =>
   obtain ⟨y,h1,h⟩:=av (show ag (Rs.bnd _ _) p from h)
   exact ag.bnd (I.e (.Name x pn) (it:=false) (bm (by simp <;> omega) hs) h1 s) h
  | _=>exact (au h).elim
 | Dict ks vs q =>
  match ks,vs,h with
  | [],[],h=>exact h
  | _::_,_,h=>exact (au h).elim
  | [],_::_,h=>exact (au h).elim
 | Subscript a i q =>
  cases i with
  | Slice lo hi st p2 =>
   cases st with
   | none =>
    obtain ⟨x,h1,h⟩:=av (show ag (Rs.bnd _ _) p from h)
    obtain ⟨y,h2,h⟩:=av h
    obtain ⟨z,h3,h⟩:=av h
    exact ag.bnd (I.e a (bm (by simp <;> omega) hs) h1 s) (ag.bnd (I.o lo (bm (by simp <;> omega) hs) h2 s) (ag.bnd (I.o hi (bm (by simp <;> omega) hs) h3 s) h))
   | some e=>exact AG I hs h s
  | _=>exact AG I hs h s
 | Call f args kws q =>
  cases f with
  | Name f fp =>
   cases kws with
   | nil =>
    rw [jy] at h ⊢
    split at h
    ·rename_i hf
     rw [if_pos hf]
     obtain ⟨x,h1,h⟩:=av h
     exact ag.bnd (I.es args (bm (by simp <;> omega) hs) h1 s) h
    ·exact (au h).elim
   | cons _ _=>exact (au h).elim
  | Attribute a m ap =>
   cases kws with
   | nil =>
    rw [lO] at h ⊢
    split at h
    ·rename_i hf
     rw [if_pos hf]
     obtain ⟨x,h1,h⟩:=av h
     obtain ⟨y,h2,h⟩:=av h
     exact ag.bnd (I.e a (bm (by simp <;> omega) hs) h1 s) (ag.bnd (I.es args (bm (by simp <;> omega) hs) h2 s) h)
    ·exact (au h).elim
   | cons _ _=>exact (au h).elim
  | _=>exact (au h).elim
 | ListComp elt gens scope q =>
  obtain ⟨l0,h0,_⟩:=id h
  obtain ⟨tg,iter,ifs,rfl⟩:=ol h0
  rw [oE] at h ⊢
  split at h
  ·rename_i hc
   rw [if_pos hc]
   obtain ⟨x,h1,h⟩:=av h
   refine ag.bnd (I.e iter (by first|omega | (simp at *;omega)) h1 s) ?_
   split at h
   ·split at h
    ·rename_i hl
     rw [if_pos hl]
     obtain ⟨u0,h0',h⟩:=av h
     obtain ⟨y,h2,h⟩:=av h
     refine ag.bnd h0' (ag.bnd (ud (fun d r hr=>?_) h2) h)
     split at hr
     ·exact (au hr).elim
     ·rename_i C' hb
      obtain ⟨ρ',hb',s'⟩:=qx hb (s.flt scope)
      rw [hb']
      obtain ⟨b,h3,hr⟩:=av hr
      refine ag.bnd (I.b .And ifs (by first|omega | (simp at *;omega)) h3 s') ?_
      cases b with
      | false=>exact hr
      | true =>
       rw [cond_true] at hr ⊢
       obtain ⟨z,h4,hr⟩:=av hr
       exact ag.bnd (I.e elt (by first|omega | (simp at *;omega)) h4 s') hr
    ·exact (au h).elim
   ·exact (au h).elim
  ·exact (au h).elim
 | _=>exact (au h).elim
theorem JE (I:Mo Φ n) (es:List Expr) {p:List D×Nat} (hs:sizeOf es < n+1) (h:ag (cf Φ es sc C) p) (s:Sub C ρ):ag (cf Φ es sc ρ) p:=by
 cases es with
 | nil=>exact h
 | cons e es =>
  obtain ⟨x,h1,h⟩:=av (show ag (Rs.bnd _ _) p from h)
  obtain ⟨y,h2,h⟩:=av h
  exact ag.bnd (I.e e (bm (by simp <;> omega) hs) h1 s) (ag.bnd (I.es es (bm (by simp <;> omega) hs) h2 s) h)
theorem Ob (I:Mo Φ n) (op:BoolOp) (es:List Expr) {b:Bool} (hs:sizeOf es < n+1) (h:ag (dW Φ op es sc C) b) (s:Sub C ρ):ag (dW Φ op es sc ρ) b:=by
 cases es with
 | nil=>cases op <;> exact h
 | cons e es =>
  cases op with
  | And =>
   obtain ⟨x,h1,h⟩:=av (show ag (Rs.bnd _ _) b from h)
   obtain ⟨t,ht,l,h,hp⟩:=gr h
   refine ag.bnd (I.e e (bm (by simp <;> omega) hs) h1 s) (iN ht ?_)
   rcases sA h hp with ⟨rfl,m,h,pm⟩ | ⟨rfl,rfl⟩
   ·exact sB (fun _=>I.b .And es (bm (by simp <;> omega) hs) ⟨m,h,pm⟩ s) fun z=>(by cases z)
   ·exact sB (fun z=>(by cases z)) fun _=>rfl
  | Or =>
   obtain ⟨x,h1,h⟩:=av (show ag (Rs.bnd _ _) b from h)
   obtain ⟨t,ht,l,h,hp⟩:=gr h
   refine ag.bnd (I.e e (bm (by simp <;> omega) hs) h1 s) (iN ht ?_)
   rcases t5 h hp with ⟨rfl,m,h,pm⟩ | ⟨rfl,rfl⟩
   ·exact vj (fun _=>I.b .Or es (bm (by simp <;> omega) hs) ⟨m,h,pm⟩ s) fun z=>(by cases z)
   ·exact vj (fun z=>(by cases z)) fun _=>rfl
theorem N9 (I:Mo Φ n) (e:Option Expr) {o:Option Int} (hs:sizeOf e < n+1) (h:ag (pz Φ e sc C) o) (s:Sub C ρ):ag (pz Φ e sc ρ) o:=by
 cases e with
 | none=>exact h
 | some e =>
  obtain ⟨x,h1,h⟩:=av (show ag (Rs.bnd _ _) o from h)
  exact ag.bnd (I.e e (bm (by simp <;> omega) hs) h1 s) h
end
theorem iY (Φ:Fx):∀n,Mo Φ n
 | 0=>⟨fun _ _ _ _ _ _ h=>absurd h (Nat.not_lt_zero _),fun _ _ _ _ _ h=>absurd h (Nat.not_lt_zero _),fun _ _ _ _ _ _ h=>absurd h (Nat.not_lt_zero _),fun _ _ _ _ _ h=>absurd h (Nat.not_lt_zero _)⟩
 | n+1=>⟨fun e _ _ _ _ _ hs h s=>Oa (iY Φ n) e hs h s,fun e _ _ _ _ hs h s=>JE (iY Φ n) e hs h s,fun op e _ _ _ _ hs h s=>Ob (iY Φ n) op e hs h s,fun e _ _ _ _ hs h s=>N9 (iY Φ n) e hs h s⟩
theorem dF {Φ:Fx} {e:Expr} {it:Bool} {sc:Scope} {C ρ:ak} {p:D×Nat} (h:ag (aC Φ e it sc C) p) (s:Sub C ρ):ag (aC Φ e it sc ρ) p:=(iY Φ _).e e (Nat.lt_succ_self _) h s
theorem uc {Φ:Fx} {e:List Expr} {sc:Scope} {C ρ:ak} {p:List D×Nat} (h:ag (cf Φ e sc C) p) (s:Sub C ρ):ag (cf Φ e sc ρ) p:=(iY Φ _).es e (Nat.lt_succ_self _) h s
def zU:Fl->Fl->Prop
 | .nx a,.nx b=>Sub a b
 | .bk a,.bk b=>Sub a b
 | .ct a,.ct b=>Sub a b
 | .rt a,.rt b=>a=b
 | _,_=>False
theorem cY {α:Type} {a:α}:ag (.ok a []) a:=⟨[],rfl,True.intro⟩
def jG (f:ak->Rs Fl):Prop:=∀C ρ fl,ag (f C) fl->Sub C ρ->∃fl',ag (f ρ) fl'/\zU fl fl'
theorem wP {f:ak->Rs Fl} (h:jG f) {x y z:Fl} (hx:ag (gC f x) z) (s:zU x y):∃z',ag (gC f y) z'/\zU z z':=by
 cases x <;> cases y <;> first|exact s.elim|skip
 ·exact h _ _ _ hx s
 ·cases aL hx;cases s;exact ⟨_,cY,rfl⟩
 ·cases aL hx;exact ⟨_,cY,s⟩
 ·exact h _ _ _ hx s
theorem wQ {sc:Scope} {tg:Expr} {body:ak->Rs Fl} (hb:jG body):∀ds,jG (de (bR sc tg) body ds)
 | []=>fun C ρ fl h s=>by cases aL h;exact ⟨_,cY,s⟩
 | d::ds=>fun C ρ fl h s=>by
  replace h:ag (match bR sc tg d C with|none=>(.st:Rs Fl) | some ρ1=>(body ρ1).bnd (gC (de (bR sc tg) body ds))) fl:=h
  split at h
  ·exact (au h).elim
  ·rename_i C1 hC
   obtain ⟨ρ1,hρ,s1⟩:=qx hC s
   obtain ⟨x,h1,h2⟩:=av h
   obtain ⟨y,h3,s2⟩:=hb _ _ _ h1 s1
   obtain ⟨z,h4,s3⟩:=wP (wQ hb ds) h2 s2
   refine ⟨z,?_,s3⟩
   show ag (match bR sc tg d ρ with|none=>(.st:Rs Fl) | some ρ1=>(body ρ1).bnd (gC (de (bR sc tg) body ds))) z
   rw [hρ];exact ag.bnd h3 h4
theorem AF {test:ak->Rs Bool} {body:ak->Rs Fl} (ht:∀C ρ b,ag (test C) b->Sub C ρ->ag (test ρ) b) (hb:jG body):∀n,jG (ln test body n)
 | 0=>fun C ρ fl h s=>(au h).elim
 | n+1=>fun C ρ fl h s=>by
  obtain ⟨b,h1,h2⟩:=av (show ag (Rs.bnd _ _) fl from h)
  have h1':=ht _ _ _ h1 s
  cases b with
  | false=>cases aL h2;exact ⟨_,ag.bnd h1' cY,s⟩
  | true =>
   obtain ⟨x,h3,h4⟩:=av (show ag (Rs.bnd _ _) fl from h2)
   obtain ⟨y,h5,s2⟩:=hb _ _ _ h3 s
   obtain ⟨z,h6,s3⟩:=wP (AF ht hb n) h4 s2
   exact ⟨z,ag.bnd h1' (ag.bnd h5 h6),s3⟩
theorem FL {Φ:Fx} {tgs:List Expr} {e:Expr} {sc:Scope}:jG (mV Φ tgs e sc):=by
 intro C ρ fl h s
 unfold mV at h ⊢
 split at h
 ·obtain ⟨p,h1,h⟩:=av h
  unfold nU at h
  split at h
  ·rename_i hx
   split at h
   ·rename_i ho;cases aL h
    exact ⟨.nx _,ag.bnd (dF h1 s) (by unfold nU;rw [if_pos hx,ho];exact cY),s.put _ _⟩
   ·rename_i ho;cases aL h
    exact ⟨.nx _,ag.bnd (dF h1 s) (by unfold nU;rw [if_pos hx,ho];exact cY),s.put _ _⟩
   ·exact (au h).elim
  ·exact (au h).elim
 ·split at h
  ·rename_i ht
   rw [if_pos ht]
   unfold kM at h ⊢
   split at h
   ·split at h
    ·rename_i hp
     rw [if_pos hp]
     obtain ⟨q,h1,h⟩:=av h
     split at h
     ·rename_i u v hd
      split at h
      ·rename_i hf
       cases aL h
       refine ⟨.nx _,ag.bnd (uc h1 s) ?_,(s.put _ _).put _ _⟩
       rw [hd];dsimp only;rw [if_pos hf];exact cY
      ·exact (au h).elim
     ·exact (au h).elim
    ·exact (au h).elim
   ·exact (au h).elim
  ·rename_i ht
   rw [if_neg ht]
   obtain ⟨p,h1,h⟩:=av h
   split at h
   ·rename_i ho
    cases aL h
    refine ⟨.nx _,ag.bnd (dF h1 s) (by rw [if_pos ho];exact cY),?_⟩
    show Sub _ _
    unfold u8
    split
    ·exact (s.put _ _).put _ _
    ·exact s
   rename_i ho
   split at h
   ·rename_i ds hd
    split at h
    ·rename_i hf
     split at h
     ·rename_i C' hb
      cases aL h
      obtain ⟨ρ',hb',s'⟩:=oY hb s
      refine ⟨.nx _,ag.bnd (dF h1 s) ?_,s'⟩
      rw [if_neg ho,hd];dsimp only;rw [if_pos hf,hb'];exact cY
     ·exact (au h).elim
    ·exact (au h).elim
   ·exact (au h).elim
 ·split at h
  ·rename_i hc
   rw [if_pos hc]
   obtain ⟨p,h1,h⟩:=av h
   obtain ⟨q,h2,h⟩:=av h
   rcases qy h with ⟨l,j,l',a1,a2,a3,hj,hs,hf,rfl⟩ | hF
   ·refine ⟨.nx _,ag.bnd (dF h1 s) (ag.bnd (dF h2 s) ?_),s.put _ _⟩
    rw [hj];unfold uU;rw [s _ _ a1];dsimp only;rw [if_pos a3,hs]
    exact ⟨_,rfl,a2,hf,True.intro⟩
   ·exact hF.elim
  ·exact (au h).elim
 ·exact (au h).elim
theorem FK {Φ:Fx} {t e:Expr} {op:Operator} {sc:Scope}:jG (mU Φ t op e sc):=by
 intro C ρ fl h s
 unfold mU at h ⊢
 split at h
 ·split at h
  ·rename_i hx
   rw [if_pos hx]
   split at h
   ·rename_i p hp
    rw [s _ _ hp]
    obtain ⟨r,h1,h⟩:=av h
    cases aL h
    obtain ⟨a,ha,h3⟩:=n5 h1
    obtain ⟨q,h2,h4⟩:=av h3
    exact ⟨.nx _,ag.bnd (JS ha (ag.bnd (dF h2 s) h4)) cY,s.put _ _⟩
   ·exact (au h).elim
  ·exact (au h).elim
 ·exact (au h).elim
theorem FJ {Φ:Fx} {e:Expr} {sc:Scope}:jG (mT Φ e sc):=by
 intro C ρ fl h s
 unfold mT at h ⊢
 split at h
 ·split at h
  ·rename_i hln
   rw [if_pos hln]
   obtain ⟨p,h1,h⟩:=av h
   split at h
   ·rename_i M hM
    obtain ⟨l,a1,a3,h⟩:=qQ h
    obtain ⟨l',h2,h⟩:=av h
    cases aL h
    refine ⟨.nx _,ag.bnd (uc h1 s) ?_,s.put _ _⟩
    unfold vh;rw [s _ _ a1];dsimp only;rw [if_pos a3];exact ag.bnd h2 cY
   ·exact (au h).elim
  ·exact (au h).elim
 ·obtain ⟨p,h1,h⟩:=av h
  cases aL h
  exact ⟨.nx _,ag.bnd (dF h1 s) cY,s⟩
 ·exact (au h).elim
structure Ir (Φ:Fx) (n:Nat):Prop where
 s:∀(st:Stmt) (sc:Scope),sizeOf st < n->jG (dS Φ st sc)
 ss:∀(st:List Stmt) (sc:Scope),sizeOf st < n->jG (aD Φ st sc)
theorem JD {Φ:Fx} {n:Nat} (I:Ir Φ n) (st:Stmt) (sc:Scope) (hs:sizeOf st < n+1):jG (dS Φ st sc):=by
 intro C ρ fl h s
 cases st with
 | Return e p =>
  cases e with
  | none=>cases aL h;exact ⟨_,cY,rfl⟩
  | some e =>
   obtain ⟨p,h1,h⟩:=av (show ag (Rs.bnd _ _) fl from h)
   have s':Sub (qH e C) (qH e ρ):=by
    unfold qH
    cases p9 e with
    | false=>exact s
    | true =>
     intro x y hx
     have hx:(C x).map (fun p=>(p.1,false))=some y:=hx
     show (ρ x).map (fun p=>(p.1,false))=some y
     cases e:C x with
     | none=>rw [e] at hx;cases hx
     | some z=>rw [e] at hx;rw [s x z e];exact hx
   refine ⟨fl,ag.bnd (dF h1 s') h,?_⟩
   unfold u5 at h
   split at h
   ·cases aL h;rfl
   ·exact (au h).elim
 | Pass p=>cases aL h;exact ⟨_,cY,s⟩
 | Break p=>cases aL h;exact ⟨_,cY,s⟩
 | Continue p=>cases aL h;exact ⟨_,cY,s⟩
 | Assign tgs e p=>exact FL C ρ fl h s
 | AugAssign t op e p=>exact FK C ρ fl h s
 | Expr e p=>exact FJ C ρ fl h s
 | If c a b p =>
  obtain ⟨p,h1,h⟩:=av (show ag (Rs.bnd _ _) fl from h)
  obtain ⟨t,ht,h⟩:=gr h
  cases t with
  | true =>
   obtain ⟨z,h2,s2⟩:=I.ss a sc (bm (by simp <;> omega) hs) C ρ fl h s
   exact ⟨z,ag.bnd (dF h1 s) (iN ht h2),s2⟩
  | false =>
   obtain ⟨z,h2,s2⟩:=I.ss b sc (bm (by simp <;> omega) hs) C ρ fl h s
   exact ⟨z,ag.bnd (dF h1 s) (iN ht h2),s2⟩
 | For tg it body els p =>
  rw [oC] at h ⊢
  split at h
  ·rename_i he
   rw [if_pos he]
   obtain ⟨p,h1,h⟩:=av h
   split at h
   ·rename_i ds hd
    split at h
    ·rename_i hk
     obtain ⟨z,h2,s2⟩:=wQ (I.ss body sc (bm (by simp <;> omega) hs)) ds _ _ fl h (s.demote it)
     refine ⟨z,ag.bnd (dF h1 (s.demote it)) ?_,s2⟩
     rw [hd];dsimp only;rw [if_pos hk];exact h2
    ·exact (au h).elim
   ·exact (au h).elim
  ·exact (au h).elim
 | While c body els p =>
  rw [rS] at h ⊢
  split at h
  ·rename_i he
   rw [if_pos he]
   refine AF (fun C ρ b hb s=>?_) (I.ss body sc (bm (by simp <;> omega) hs)) cZ C ρ fl h s
   obtain ⟨q,h1,hb⟩:=av hb
   exact ag.bnd (dF h1 s) hb
  ·exact (au h).elim
 | _=>exact (au h).elim
theorem FI {Φ:Fx} {n:Nat} (I:Ir Φ n) (ss:List Stmt) (sc:Scope) (hs:sizeOf ss < n+1):jG (aD Φ ss sc):=by
 intro C ρ fl h s
 cases ss with
 | nil=>cases aL h;exact ⟨_,cY,s⟩
 | cons st ss =>
  rcases qz h with ⟨C',h1,h2⟩ | ⟨h1,h2⟩
  ·obtain ⟨x,h3,s2⟩:=I.s st sc (bm (by simp <;> omega) hs) C ρ _ h1 s
   cases x with
   | nx ρ' =>
    obtain ⟨z,h4,s3⟩:=I.ss ss sc (bm (by simp <;> omega) hs) C' ρ' fl h2 s2
    exact ⟨z,aJ h3 h4,s3⟩
   | rt _=>exact s2.elim
   | bk _=>exact s2.elim
   | ct _=>exact s2.elim
  ·obtain ⟨x,h3,s2⟩:=I.s st sc (bm (by simp <;> omega) hs) C ρ _ h2 s
   refine ⟨x,jN h3 fun ρ' z=>?_,s2⟩
   subst z
   cases fl <;> first|exact h1 _ rfl|exact s2
theorem kJ (Φ:Fx):∀n,Ir Φ n
 | 0=>⟨fun _ _ h=>absurd h (Nat.not_lt_zero _),fun _ _ h=>absurd h (Nat.not_lt_zero _)⟩
 | n+1=>⟨fun e sc hs=>JD (kJ Φ n) e sc hs,fun e sc hs=>FI (kJ Φ n) e sc hs⟩
theorem CL {Φ:Fx} {ss:List Stmt} {sc:Scope} {C C' ρ:ak} (h:ag (aD Φ ss sc C) (.nx C')) (s:Sub C ρ):∃ρ',ag (aD Φ ss sc ρ) (.nx ρ')/\Sub C' ρ':=by
 obtain ⟨z,h1,h2⟩:=(kJ Φ _).ss ss sc (Nat.lt_succ_self _) C ρ _ h s
 cases z with
 | nx ρ'=>exact ⟨ρ',h1,h2⟩
 | rt _=>exact h2.elim
 | bk _=>exact h2.elim
 | ct _=>exact h2.elim
theorem CK {Φ:Fx} {ss:List Stmt} {sc:Scope} {C ρ:ak} {d:D} (h:ag (aD Φ ss sc C) (.rt d)) (s:Sub C ρ):ag (aD Φ ss sc ρ) (.rt d):=by
 obtain ⟨z,h1,h2⟩:=(kJ Φ _).ss ss sc (Nat.lt_succ_self _) C ρ _ h s
 cases z with
 | rt _=>cases h2;exact h1
 | nx _=>exact h2.elim
 | bk _=>exact h2.elim
 | ct _=>exact h2.elim
def bx:List (Str×D×Bool)->ak
 | []=>fun _=>none
 | p::l=>fun z=>if z=p.1 then some p.2 else bx l z
theorem aI {ρ:ak}:Sub (bx []) ρ:=fun _ _ h=>by cases h
theorem ah {ρ:ak} {x:Str} {y:D×Bool} {l:List (Str×D×Bool)} (h:ρ x=some y) (g:Sub (bx l) ρ):Sub (bx ((x,y)::l)) ρ:=fun z w e=>by
 replace e:(if z=x then some y else bx l z)=some w:=e
 by_cases hz:z=x
 ·rw [if_pos hz] at e;cases e;rw [hz];exact h
 ·rw [if_neg hz] at e;exact g z w e
theorem Sub.get {C ρ:ak} {x:Str} {y:D×Bool} (s:Sub C ρ) (h:C x=some y:=by rfl):ρ x=some y:=s x y h
end Sp
namespace Sp
open PySem PySem.Spec PyProof.Rows L2
section
variable {Φ:Fx} {sc:Scope} {ρ ρ':ak} {fl:Fl} {ss:List Stmt}
theorem bO {C C':ak} {P:ak->Prop} (s:Sub C ρ) (h:ag (aD Φ ss sc C) (.nx C')) (k:∀ρ',Sub C' ρ'->P ρ'):∃ρ',ag (aD Φ ss sc ρ) (.nx ρ')/\P ρ' :=
 let ⟨ρ',h1,h2⟩:=CL h s;⟨ρ',h1,k ρ' h2⟩
theorem cP {C:ak} {d:D} (s:Sub C ρ) (h:ag (aD Φ ss sc C) (.rt d)):ag (aD Φ ss sc ρ) (.rt d):=CK h s
theorem bU {C:ak} {e:Expr} {it:Bool} {p:D×Nat} (s:Sub C ρ) (h:ag (aC Φ e it sc C) p):ag (aC Φ e it sc ρ) p:=dF h s
theorem tS {tg it:Expr} {body:List Stmt} {p:Pos} {d:D} {ds:List D} {k:Nat} (Inv:List D->ak->Prop) (hi:ag (aC Φ it true sc (demote it ρ)) (d,k)) (h0:Inv ds (demote it ρ))
  (step:∀d l ρ,Inv (d::l) ρ->∃ρ1,bR sc tg d ρ=some ρ1/\∃ρ2,ag (aD Φ body sc ρ1) (.nx ρ2)/\Inv l ρ2) (rest:∀ρ',Inv [] ρ'->ag (aD Φ ss sc ρ') fl) (hd:items d=some ds:=by rfl) (hk:k<=1:=by first|exact Nat.le_refl 1|exact Nat.zero_le 1) (ht:eQ it tg=true:=by rfl):ag (aD Φ (.For tg it body [] p::ss) sc ρ) fl:=by
 obtain ⟨ρ',h1,h2⟩:=rL (bind:=bR sc tg) (body:=aD Φ body sc) Inv (fun d l ρ h=>let ⟨ρ1,a,ρ2,b,c⟩:=step d l ρ h;⟨ρ1,ρ2,a,.inl b,c⟩) h0
 exact aJ (j7 hi hd hk ht h1) (rest ρ' h2)
theorem tR {tg it:Expr} {body:List Stmt} {p:Pos} {d:D} {ds:List D} {k:Nat} (Inv:List D->ak->Prop) (R:D->Prop) (hi:ag (aC Φ it true sc (demote it ρ)) (d,k)) (h0:Inv ds (demote it ρ))
  (step:∀d l ρ,Inv (d::l) ρ->∃ρ1,bR sc tg d ρ=some ρ1/\((∃ρ2,ag (aD Φ body sc ρ1) (.nx ρ2)/\Inv l ρ2)\/∃r,ag (aD Φ body sc ρ1) (.rt r)/\R r)) (rest:∀ρ',Inv [] ρ'->∃r,ag (aD Φ ss sc ρ') (.rt r)/\R r) (hd:items d=some ds:=by rfl) (hk:k<=1:=by first|exact Nat.le_refl 1|exact Nat.zero_le 1) (ht:eQ it tg=true:=by rfl):∃r,ag (aD Φ (.For tg it body [] p::ss) sc ρ) (.rt r)/\R r:=by
 rcases ur (bind:=bR sc tg) (body:=aD Φ body sc) Inv R (fun d l ρ h=>by
  obtain ⟨ρ1,a,b⟩:=step d l ρ h
  rcases b with ⟨ρ2,b,c⟩ | ⟨r,b,c⟩
  ·exact ⟨ρ1,a,.inl ⟨ρ2,.inl b,c⟩⟩
  ·exact ⟨ρ1,a,.inr ⟨r,b,c⟩⟩) h0 with ⟨ρ',h1,h2⟩ | ⟨r,h1,h2⟩
 ·obtain ⟨r,h3,h4⟩:=rest ρ' h2
  exact ⟨r,aJ (j7 hi hd hk ht h1) h3,h4⟩
 ·exact ⟨r,di (j7 hi hd hk ht h1),h2⟩
theorem eS {a b:Expr} {op:CmpOp} {p:Pos} {it:Bool} {x y:D} {k j:Nat} {r:Bool} (ha:ag (aC Φ a false sc ρ) (x,k)) (hb:ag (aC Φ b false sc ρ) (y,j)) (h:ag (iM op x y) r):ag (aC Φ (.Compare a [op] [b] p) it sc ρ) (.bl r,0) :=
 ag.bnd ha (ag.bnd hb (ag.bnd h cY))
theorem fG {op:BoolOp} {e:Expr} {es:List Expr} {p:Pos} {it:Bool} {b:Bool} (h:ag (dW Φ op (e::es) sc ρ) b):ag (aC Φ (.BoolOp op (e::es) p) it sc ρ) (.bl b,0):=by
 rw [oF,if_neg (show ¬ (List.isEmpty (e::es)=true) from Bool.false_ne_true)];exact ag.bnd h cY
theorem gR {e:Expr} {es:List Expr} {b c:Bool} {k:Nat} (h:ag (aC Φ e false sc ρ) (.bl b,k)) (h1:b=true->ag (dW Φ .And es sc ρ) c) (h2:b=false->c=false):ag (dW Φ .And (e::es) sc ρ) c:=ag.bnd h (iN rfl (sB h1 h2))
theorem rT {e:Expr} {es:List Expr} {b c:Bool} {k:Nat} (h:ag (aC Φ e false sc ρ) (.bl b,k)) (h1:b=false->ag (dW Φ .Or es sc ρ) c) (h2:b=true->c=true):ag (dW Φ .Or (e::es) sc ρ) c:=ag.bnd h (iN rfl (vj h1 h2))
theorem gj {e:Expr} {es:List Expr} {c:Bool} {k:Nat} (h:ag (aC Φ e false sc ρ) (.bl true,k)) (h1:ag (dW Φ .And es sc ρ) c):ag (dW Φ .And (e::es) sc ρ) c:=gR h (fun _=>h1) fun z=>by cases z
theorem mW {e:Expr} {es:List Expr} {c:Bool} {k:Nat} (h:ag (aC Φ e false sc ρ) (.bl false,k)) (h1:ag (dW Φ .Or es sc ρ) c):ag (dW Φ .Or (e::es) sc ρ) c:=rT h (fun _=>h1) fun z=>by cases z
theorem i8:ag (dW Φ .And [] sc ρ) true:=cY
theorem xu:ag (dW Φ .Or [] sc ρ) false:=cY
theorem ag.bl {r:R1} {b c:Bool} {k:Nat} (h:ag r (.bl b,k)) (e:b=c):ag r (.bl c,k):=e ▸ h
theorem zj {α:Type} {elt tg iter:Expr} {scope:Scope} {p:Pos} {it:Bool} {d:D} {g f:α->D} {l:List α} {k:Nat} (hi:ag (aC Φ iter true sc ρ) (d,k)) (hd:items d=some (l.map g)) (hl:l.length<=cZ) (hk:ax (l.map g)=true\/k<=1)
  (h:∀x∈l,∃ρ',bR scope tg (g x) (flt scope ρ)=some ρ'/\ag (aC Φ elt false scope ρ') (f x,0)) (hc:nl sc scope=true:=by rfl) (ht:eQ iter tg=true:=by rfl):ag (aC Φ (.ListComp elt [⟨tg,iter,[],0⟩] scope p) it sc ρ) (.lst (l.map f),0):=by
 refine kO hi hd ⟨by rw [List.length_map];exact hl,hk⟩ (pF fun x hx=>?_) (Nat.zero_le _) hc ht
 obtain ⟨ρ',h1,h2⟩:=h x hx
 rw [h1]
 refine ag.bnd (a:=true) cY ?_
 rw [cond_true]
 exact ag.bnd h2 cY
end
theorem ef {us:List Value} (h:us.length=1):∃a,us=[a]:=List.length_eq_one_iff.mp h
theorem yX {us:List Value} {n:Nat} (h:us.length=n+1):∃a r,us=a::r/\r.length=n:=by
 cases us with
 | nil=>cases h
 | cons a r=>exact ⟨a,r,rfl,by simpa using h⟩
theorem dP {us:List Value} (h:us.length=2):∃a b,us=[a,b]:=by
 obtain ⟨a,r,e1,h1⟩:=yX h;subst e1;obtain ⟨b,rfl⟩:=ef h1;exact ⟨a,b,rfl⟩
theorem FP {us:List Value} (h:us.length=3):∃a b c,us=[a,b,c]:=by
 obtain ⟨a,r,e1,h1⟩:=yX h;subst e1;obtain ⟨b,c,rfl⟩:=dP h1;exact ⟨a,b,c,rfl⟩
theorem FO {us:List Value} (h:us.length=4):∃a b c d,us=[a,b,c,d]:=by
 obtain ⟨a,r,e1,h1⟩:=yX h;subst e1;obtain ⟨b,c,d,rfl⟩:=FP h1;exact ⟨a,b,c,d,rfl⟩
end Sp
namespace Qm
end Qm
namespace K
open PySem L2 Sp
structure Dc (α:Type) where
 dec:D->Option α
 enc:α->D
 ok:∀x a,dec x=some a->x=enc a
def dI:Dc Int:=⟨fun | .int i=>some i|_=>none,.int,fun x a h=>by cases x <;> cases h;rfl⟩
def dL:Dc (List D):=⟨fun | .lst i=>some i|_=>none,.lst,fun x a h=>by cases x <;> cases h;rfl⟩
def Ef {α:Type} (A:Dc α) (f:α->Rs D):List D->Rs D
 | [x]=>(match A.dec x with|some a=>f a|none=>.st)
 | _=>.st
def tT {α β:Type} (A:Dc α) (B:Dc β) (f:α->β->Rs D):List D->Rs D
 | [x,y]=>(match A.dec x with|some a=>(match B.dec y with|some b=>f a b|none=>.st) | none=>.st)
 | _=>.st
theorem rX {α β:Type} {A:Dc α} {x:D} {f:α->Rs β} {r:β} (h:ag (match A.dec x with|some a=>f a|none=>.st) r):∃a,x=A.enc a/\ag (f a) r:=by
 split at h
 ·rename_i a e;exact ⟨a,A.ok _ _ e,h⟩
 ·exact (au h).elim
theorem BV {α:Type} {A:Dc α} {f:α->Rs D} {ds:List D} {r:D} (h:ag (Ef A f ds) r):∃a,ds=[A.enc a]/\ag (f a) r:=by
 unfold Ef at h
 split at h
 ·obtain ⟨a,e1,h1⟩:=rX h;exact ⟨a,by rw [e1],h1⟩
 ·exact (au h).elim
theorem kF {α β:Type} {A:Dc α} {B:Dc β} {f:α->β->Rs D} {ds:List D} {r:D} (h:ag (tT A B f ds) r):∃a b,ds=[A.enc a,B.enc b]/\ag (f a b) r:=by
 unfold tT at h
 split at h
 ·obtain ⟨a,e1,h1⟩:=rX h
  obtain ⟨b,e2,h2⟩:=rX h1
  exact ⟨a,b,by rw [e1,e2],h2⟩
 ·exact (au h).elim
def Rk:D->Int
 | .int i=>i
 | _=>0
def mh (l:List D):List Int:=l.map Rk
theorem jh (ns:List Int):mh (ns.map D.int)=ns:=by
 induction ns with
 | nil=>rfl
 | cons n ns ih=>show n::mh (ns.map D.int)=_;rw [ih]
def okL (l:List D):Prop:=∃ns:List Int,l=ns.map D.int
def eU (ns:List Int) (k:Int):Int:=if ns=[] then 0 else ns.getD (k.fmod ns.length).toNat 0
def nj (ns:List Int) (k:Int):Int :=
 (eU ns k).fdiv 2147483647*2147483647+((((eU ns k).fmod 2147483647+7919*k+1)*48271).fmod 2147483647*69621+k).fmod 2147483647
def bg (l:List D) (k:Int):Int:=nj (mh l) k
abbrev t4 (a b c d:Int):D:=.tup [.int a,.int b,.int c,.int d]
abbrev Qd:=Int×Int×Int×Int
def dq (q:Qd):D:=t4 q.1 q.2.1 q.2.2.1 q.2.2.2
def q4:D->Option Qd
 | .tup [.int a,.int b,.int c,.int d]=>some (a,b,c,d)
 | _=>none
theorem Jg (x:D) (q:Qd) (h:q4 x=some q):x=dq q:=by
 unfold q4 at h
 split at h
 ·cases h;rfl
 ·cases h
def dQ:Dc Qd:=⟨q4,dq,Jg⟩
abbrev iF (q:Qd):Prop:=q.1.natAbs < bY/\q.2.1.natAbs < bY/\q.2.2.1.natAbs < bY/\q.2.2.2.natAbs < bY
@[simp] theorem bZ (a b:Int):eqD (.int a) (.int b)=decide (a=b):=by
 show (a==b)=_
 rw [Bool.eq_iff_iff];simp
@[simp] theorem AT (p q:Qd):eqD (dq p) (dq q)=decide (p=q):=by
 show (p.1==q.1&&(p.2.1==q.2.1&&(p.2.2.1==q.2.2.1&&(p.2.2.2==q.2.2.2&&true))))=_
 obtain ⟨a,b,c,d⟩:=p;obtain ⟨e,f,g,h⟩:=q
 rw [Bool.eq_iff_iff];simp
end K
namespace Sp
open PySem PySem.Spec PyProof.Rows L2
variable {Φ:Fx} {sc:Scope} {ρ ρ':ak} {fl:Fl} {ss:List Stmt}
theorem mX {c a b:Expr} {p:Pos} {it:Bool} {t:Bool} {k:Nat} {r:D×Nat} (hc:ag (aC Φ c false sc ρ) (.bl t,k)) (h1:t=true->ag (aC Φ a false sc ρ) r) (h2:t=false->ag (aC Φ b false sc ρ) r):ag (aC Φ (.IfExp c a b p) it sc ρ) r:=by
 refine ag.bnd hc (iN rfl (AO ?_))
 cases t with
 | true=>exact h1 rfl
 | false=>exact h2 rfl
theorem qo {test:ak->Rs Bool} {body:ak->Rs Fl} (Inv:Nat->ak->Prop) (step:∀m ρ,Inv m ρ->∃b,ag (test ρ) b/\(b=true->∃m' ρ2,m' < m/\ag (body ρ) (.nx ρ2)/\Inv m' ρ2)):∀{n m:Nat} {ρ:ak},Inv m ρ->m < n->∃m' ρ',ag (ln test body n ρ) (.nx ρ')/\Inv m' ρ'/\ag (test ρ') false:=by
 intro n
 induction n with
 | zero=>intro m ρ _ h;omega
 | succ n ih =>
  intro m ρ hi hm
  obtain ⟨b,hb,h⟩:=step m ρ hi
  cases b with
  | false=>exact ⟨m,ρ,ag.bnd hb cY,hi,hb⟩
  | true =>
   obtain ⟨m',ρ2,h1,h2,h3⟩:=h rfl
   obtain ⟨m2,ρ3,h4,h5,h6⟩:=ih h3 (show m' < n by omega)
   exact ⟨m2,ρ3,ag.bnd hb (ag.bnd h2 h4),h5,h6⟩
theorem wx {c:Expr} {body:List Stmt} {p:Pos} {m:Nat} (Inv:Nat->ak->Prop) (h0:Inv m ρ) (hm:m < cZ)
  (step:∀m ρ,Inv m ρ->∃b k,ag (aC Φ c false sc ρ) (.bl b,k)/\(b=true->∃m' ρ2,m' < m/\ag (aD Φ body sc ρ) (.nx ρ2)/\Inv m' ρ2)) (rest:∀m ρ',Inv m ρ'->(∃k,ag (aC Φ c false sc ρ') (.bl false,k))->ag (aD Φ ss sc ρ') fl):ag (aD Φ (.While c body [] p::ss) sc ρ) fl:=by
 obtain ⟨m',ρ',h1,h2,h3⟩:=qo (test:=fun ρ=>(aC Φ c false sc ρ).bnd fun p=>iE p fun b=>.ok b []) (body:=aD Φ body sc) Inv (fun m ρ h=>by
  obtain ⟨b,k,a1,a2⟩:=step m ρ h
  exact ⟨b,a1.bnd (iN rfl cY),a2⟩) h0 hm
 obtain ⟨q,h4,h5⟩:=av h3
 obtain ⟨t,ht,h5⟩:=gr h5
 cases aL h5
 obtain ⟨q1,q2⟩:=q
 have ht:q1=.bl false:=ht
 subst ht
 exact aJ (rP h1) (rest m' ρ' h2 ⟨q2,h4⟩)
theorem nK {m m':Nat} {A:ak->Prop} {P:Nat->ak->Prop} (h:m' < m) (k:∃ρ2,A ρ2/\P m' ρ2):∃m' ρ2,m' < m/\A ρ2/\P m' ρ2:=by
 obtain ⟨ρ2,a,b⟩:=k
 exact ⟨m',ρ2,h,a,b⟩
end Sp
namespace K
open PySem L2 Sp
def bJ (p q:Qd):Qd :=
 (p.1*q.1 - p.2.1*q.2.1 - p.2.2.1*q.2.2.1 - p.2.2.2*q.2.2.2,p.1*q.2.1+p.2.1*q.1+p.2.2.1*q.2.2.2 - p.2.2.2*q.2.2.1,
  p.1*q.2.2.1 - p.2.1*q.2.2.2+p.2.2.1*q.1+p.2.2.2*q.2.1,p.1*q.2.2.2+p.2.1*q.2.2.1 - p.2.2.1*q.2.1+p.2.2.2*q.1)
theorem EB {p q:Qd} (h1:p.1=q.1) (h2:p.2.1=q.2.1) (h3:p.2.2.1=q.2.2.1) (h4:p.2.2.2=q.2.2.2):p=q:=by
 obtain ⟨a,b,c,d⟩:=p;obtain ⟨e,f,g,h⟩:=q
 simp only at h1 h2 h3 h4;subst h1 h2 h3 h4;rfl
theorem HP {p q:Qd} (h:iF p) (g:iF q):(bL p.1 q.1/\bL p.2.1 q.2.1/\bL p.2.2.1 q.2.2.1/\bL p.2.2.2 q.2.2.2)/\(bL p.1 q.2.1/\bL p.2.1 q.1/\bL p.2.2.1 q.2.2.2/\bL p.2.2.2 q.2.2.1)/\(bL p.1 q.2.2.1/\bL p.2.1 q.2.2.2/\bL p.2.2.1 q.1/\bL p.2.2.2 q.2.1)/\(bL p.1 q.2.2.2/\bL p.2.1 q.2.2.1/\bL p.2.2.1 q.2.1/\bL p.2.2.2 q.1) :=
 ⟨⟨bQ h.1 g.1,bQ h.2.1 g.2.1,bQ h.2.2.1 g.2.2.1,bQ h.2.2.2 g.2.2.2⟩,⟨bQ h.1 g.2.1,bQ h.2.1 g.1,bQ h.2.2.1 g.2.2.2,bQ h.2.2.2 g.2.2.1⟩,⟨bQ h.1 g.2.2.1,bQ h.2.1 g.2.2.2,bQ h.2.2.1 g.1,bQ h.2.2.2 g.2.1⟩,⟨bQ h.1 g.2.2.2,bQ h.2.1 g.2.2.1,bQ h.2.2.1 g.2.1,bQ h.2.2.2 g.1⟩⟩
end K
namespace K
open PySem L2 Sp
end K
namespace K
open PySem L2 Sp Qm
abbrev bd (a b c d:Int):Prop:=a.natAbs < bY/\b.natAbs < bY/\c.natAbs < bY/\d.natAbs < bY
def fh (M:Nat) (q:Qd):Prop:=q.1.natAbs<=M/\q.2.1.natAbs<=M/\q.2.2.1.natAbs<=M/\q.2.2.2.natAbs<=M
theorem HQ {M:Nat} {q:Qd} (h:fh M q) (hM:M < bY):bd q.1 q.2.1 q.2.2.1 q.2.2.2 :=
 ⟨Nat.lt_of_le_of_lt h.1 hM,Nat.lt_of_le_of_lt h.2.1 hM,Nat.lt_of_le_of_lt h.2.2.1 hM,Nat.lt_of_le_of_lt h.2.2.2 hM⟩
def QA (q:Qd):Qd:=(q.1,-q.2.1,-q.2.2.1,-q.2.2.2)
theorem KD {a b x y e f:Int} (h:a=2*x+e) (g:b=2*y+f):a+b=2*(x+y)+(e+f):=by omega
theorem pW (x:Int):0<=x*x:=by
 rcases Int.le_total 0 x with h|h
 ·exact Int.mul_nonneg h h
 ·have:=Int.mul_nonneg (show 0 <= -x by omega) (show 0 <= -x by omega);rwa [Int.neg_mul_neg] at this
end K
namespace K
open PySem L2 Sp Qm
theorem lL {M N:Nat} {q:Qd} (h:fh M q) (g:M<=N):fh N q:=⟨Nat.le_trans h.1 g,Nat.le_trans h.2.1 g,Nat.le_trans h.2.2.1 g,Nat.le_trans h.2.2.2 g⟩
theorem De (x:Int) {n:Int} (h:0 < n):(x.fdiv n).natAbs<=x.natAbs:=by
 rw [Int.fdiv_eq_ediv_of_nonneg _ (by omega)]
 exact Int.natAbs_ediv_le_natAbs x n
end K
namespace K
open PySem L2 Sp Qm
theorem K5 {a b c d:Int} {q:Qd} (h1:a=q.1) (h2:b=q.2.1) (h3:c=q.2.2.1) (h4:d=q.2.2.2):D.tup [.int a,.int b,.int c,.int d]=dq q:=by rw [h1,h2,h3,h4];rfl
theorem tV (a b c d e f g h:Int):D.tup [.int (0+1*a*e+(0 - 1)*b*f+(0 - 1)*c*g+(0 - 1)*d*h),.int (0+1*a*f+1*b*e+1*c*h+(0 - 1)*d*g),.int (0+1*a*g+(0 - 1)*b*h+1*c*e+1*d*f),.int (0+1*a*h+1*b*g+(0 - 1)*c*f+1*d*e)]=dq (bJ (a,b,c,d) (e,f,g,h)):=by
 refine K5 ?_ ?_ ?_ ?_ <;> simp only [bJ] <;> grind
end K
namespace K
open PySem L2 Sp Qm
theorem n8 {a b:Int} (h:a=b):(!eqD (.int a) (.int b))=false:=by rw [h];simp
theorem lP {a b:Int} (h:a=b):eqD (.int a) (.int b)=true:=by rw [h];simp
end K
namespace K
open PySem L2 Sp Qm
end K
namespace K
open PySem L2 Sp Qm
theorem j8 {Φ:Fx} {sc:Scope} {ρ:ak} {a b:Expr} {op:Operator} {p:Pos} {it:Bool} {x y:D} {k j:Nat} {r:D×Nat} (ha:ag (aC Φ a false sc ρ) (x,k)) (hb:ag (aC Φ b false sc ρ) (y,j)) (h:ag (sr op x y k j) r):ag (aC Φ (.BinOp a op b p) it sc ρ) r:=ag.bnd ha (ag.bnd hb h)
end K
namespace K
open PySem L2 Sp Qm
def sQ (Φ:Fx) (sc:Scope) (tg:Expr) (body ss:List Stmt) (r:D):List D->ak->Prop
 | [],ρ=>ag (aD Φ ss sc ρ) (.rt r)
 | d::l,ρ => ∃ρ1,bR sc tg d ρ=some ρ1/\((∃ρ2,ag (aD Φ body sc ρ1) (.nx ρ2)/\sQ Φ sc tg body ss r l ρ2)\/ag (aD Φ body sc ρ1) (.rt r))
theorem kE {Φ:Fx} {sc:Scope} {ρ:ak} {ss:List Stmt} {tg it:Expr} {body:List Stmt} {p:Pos} {d r:D} (ds:List D) {k:Nat} (hi:ag (aC Φ it true sc (demote it ρ)) (d,k)) (h:sQ Φ sc tg body ss r ds (demote it ρ)) (hd:items d=some ds:=by rfl) (hk:k<=1:=by first|exact Nat.le_refl 1|exact Nat.zero_le 1) (ht:eQ it tg=true:=by rfl):ag (aD Φ (.For tg it body [] p::ss) sc ρ) (.rt r):=by
 obtain ⟨r',h1,rfl⟩:=tR (ds:=ds) (fun ds ρ=>sQ Φ sc tg body ss r ds ρ) (fun r'=>r'=r) hi h (fun d l ρ ⟨ρ1,h1,h2⟩=>⟨ρ1,h1,by
  rcases h2 with h2|h2
  ·exact .inl h2
  ·exact .inr ⟨r,h2,rfl⟩⟩) (fun ρ' h=>⟨r,h,rfl⟩) hd hk ht
 exact h1
abbrev d3 (x y z:Int):D:=.tup [.int x,.int y,.int z]
theorem aQ {n m:Nat} (h:n<=2 ^ m) (hm:m < 9000):n < bY:=Nat.lt_of_le_of_lt h (Nat.pow_lt_pow_right (by decide) hm)
end K
namespace K
open PySem L2 Sp Qm
open Builtin.Int (intBits)
theorem uD {x:Int} {k:Nat} (h:intBits x<=k):x.natAbs < 2 ^ k:=by
 unfold intBits at h
 by_cases h0:x=0
 ·subst h0;exact Nat.pow_pos (by decide)
 ·rw [if_neg (by simpa using h0)] at h
  exact Nat.lt_of_lt_of_le Nat.lt_log2_self (Nat.pow_le_pow_right (by decide) h)
theorem ug {x:Int} {k:Nat} (h:x.natAbs < 2 ^ k):intBits x<=k:=by
 unfold intBits
 by_cases h0:x=0
 ·rw [if_pos (by simpa using h0)];exact Nat.zero_le _
 ·rw [if_neg (by simpa using h0)]
  exact (Nat.log2_lt (by omega)).mpr h
def lu (l:List D):Prop:=∃ns:List Int,l=ns.map D.int/\∀m∈ns,intBits m<=2 ^ 20
theorem lu.okL {l:List D} (h:lu l):okL l:=let ⟨ns,e,_⟩:=h;⟨ns,e⟩
theorem xB {ns:List Int} {n:Nat} (h:∀m∈ns,m.natAbs < 2 ^ n) (k:Int):(eU ns k).natAbs < 2 ^ n:=by
 unfold eU
 split
 ·exact Nat.pow_pos (by decide)
 ·rw [List.getD_eq_getElem?_getD]
  cases e:ns[(k.fmod ns.length).toNat]? with
  | none=>exact Nat.pow_pos (by decide)
  | some m=>exact h m (List.mem_of_getElem? e)
theorem zC {ns:List Int} {n:Nat} (h:∀m∈ns,m.natAbs < 2 ^ n) (k:Int):(nj ns k).natAbs < 2 ^ (n+33):=by
 have hx:=xB h k
 unfold nj
 have r0:=Int.fmod_nonneg_of_pos ((((eU ns k).fmod 2147483647+7919*k+1)*48271).fmod 2147483647*69621+k) (show (0:Int) < 2147483647 by decide)
 have r1:=Int.fmod_lt_of_pos ((((eU ns k).fmod 2147483647+7919*k+1)*48271).fmod 2147483647*69621+k) (show (0:Int) < 2147483647 by decide)
 generalize ((((eU ns k).fmod 2147483647+7919*k+1)*48271).fmod 2147483647*69621+k).fmod 2147483647=r at *
 generalize eU ns k=x at *
 have e:=Int.mul_fdiv_add_fmod x 2147483647
 have f0:=Int.fmod_nonneg_of_pos x (show (0:Int) < 2147483647 by decide)
 have f1:=Int.fmod_lt_of_pos x (show (0:Int) < 2147483647 by decide)
 generalize x.fdiv 2147483647=q at *
 generalize x.fmod 2147483647=f at *
 have e2:2 ^ (n+33)=2 ^ n*8589934592:=by rw [Nat.pow_add]
 have p:1<=2 ^ n:=Nat.one_le_two_pow
 rw [e2]
 generalize 2 ^ n=N at *
 omega
theorem fw {l:List D} (h:lu l) (k:Int):intBits (bg l k)<=2 ^ 21:=by
 obtain ⟨ns,rfl,hb⟩:=h
 unfold bg
 rw [jh]
 have key:∀n:Nat,(∀m∈ns,intBits m<=n)->intBits (nj ns k)<=n+33:=fun n hn=>ug (zC (fun m hm=>uD (hn m hm)) k)
 exact Nat.le_trans (key _ hb) (by decide)
theorem i5 {P:ak->Prop} {ρ C:ak} (h:Sub C ρ) (k:∀ρ,Sub C ρ->P ρ):P ρ:=k ρ h
end K
namespace K
open PySem L2 Sp Qm
def bT:Nat->List Int->Nat
 | g,[]=>g
 | g,n::r=>bT (Nat.gcd g n.natAbs) r
@[irreducible] def ou (l:List D):Int:=(bT 0 (mh l):Nat)
def okT (l:List D):Prop:=∃ns:List Int,l=ns.map D.int/\ns.length<=100/\∀n∈ns,n.natAbs < 2 ^ 1000
theorem Fs {l:List D} (h:okT l):okT l:=h
theorem rJ (ns:List Int):ou (ns.map D.int)=(bT 0 ns:Nat):=by unfold ou;rw [jh]
theorem hX:∀(ns:List Int) (g:Nat),bT g ns∣g/\∀n∈ns,bT g ns∣n.natAbs
 | [],g=>⟨Nat.dvd_refl _,fun n h=>by cases h⟩
 | n::r,g=>by
  obtain ⟨h1,h2⟩:=hX r (Nat.gcd g n.natAbs)
  refine ⟨Nat.dvd_trans h1 (Nat.gcd_dvd_left _ _),fun m hm=>?_⟩
  rcases List.mem_cons.mp hm with rfl|hm
  ·exact Nat.dvd_trans h1 (Nat.gcd_dvd_right _ _)
  ·exact h2 m hm
theorem lR {d:Nat}:∀(ns:List Int) (g:Nat),d∣g->(∀n∈ns,d∣n.natAbs)->d∣bT g ns
 | [],g,h,_=>h
 | n::r,g,h,k=>lR r _ (Nat.dvd_gcd h (k n List.mem_cons_self)) fun m hm=>k m (List.mem_cons_of_mem _ hm)
theorem pw {ns:List Int} {n:Int} (h:n∈ns):((bT 0 ns:Nat):Int)∣n:=Int.ofNat_dvd_left.mpr ((hX ns 0).2 n h)
theorem jv {ns:List Int} {n:Int} (h:n∈ns) (h0:n≠0):0 < bT 0 ns:=by
 rcases Nat.eq_zero_or_pos (bT 0 ns) with e|e
 ·have:=(hX ns 0).2 n h
  rw [e] at this
  have:=Nat.eq_zero_of_zero_dvd this
  omega
 ·exact e
theorem zw {ns:List Int} {n m:Int} (h:n∈ns) (h0:n≠0) (hm:m∈ns):m=(bT 0 ns:Nat)*m.fdiv (bT 0 ns:Nat):=by
 obtain ⟨u,e⟩:=pw hm
 have hp:=jv h h0
 generalize bT 0 ns=g at *
 rw [e,Int.mul_fdiv_cancel_left _ (by omega)]
theorem PX {ns:List Int} {n:Int} (h:n∈ns) (h0:n≠0):bT 0 (ns.map fun m=>m.fdiv (bT 0 ns:Nat))=1:=by
 have hp:=jv h h0
 have key:((bT 0 (ns.map fun m=>m.fdiv (bT 0 ns:Nat)))*bT 0 ns)∣bT 0 ns:=by
  refine lR ns 0 (Nat.dvd_zero _) fun m hm=>?_
  obtain ⟨u,e⟩:=(hX (ns.map fun m=>m.fdiv (bT 0 ns:Nat)) 0).2 _ (List.mem_map.mpr ⟨m,hm,rfl⟩)
  have e2:=congrArg Int.natAbs (zw h h0 hm)
  rw [Int.natAbs_mul,Int.natAbs_natCast,e] at e2
  exact ⟨u,by rw [e2];simp only [Nat.mul_comm,Nat.mul_left_comm,Nat.mul_assoc]⟩
 have:=Nat.le_of_dvd hp key
 have h1:bT 0 (ns.map fun m=>m.fdiv (bT 0 ns:Nat))<=1:=by
  rcases Nat.lt_or_ge 1 (bT 0 (ns.map fun m=>m.fdiv (bT 0 ns:Nat))) with q|q
  ·have:=Nat.mul_lt_mul_of_pos_right q hp
   omega
  ·exact q
 have h2:0 < bT 0 (ns.map fun m=>m.fdiv (bT 0 ns:Nat)):=jv (n:=n.fdiv (bT 0 ns:Nat)) (List.mem_map.mpr ⟨n,h,rfl⟩) fun z=>by
  have:=zw h h0 h
  rw [z,Int.mul_zero] at this
  exact h0 this
 omega
theorem rG (c:Nat):∀(ns:List Int) (g:Nat),bT (c*g) (ns.map fun m=>(c:Int)*m)=c*bT g ns
 | [],g=>rfl
 | n::r,g=>by
  show bT (Nat.gcd (c*g) ((c:Int)*n).natAbs) _=_
  rw [Int.natAbs_mul,Int.natAbs_natCast,Nat.gcd_mul_left]
  exact rG c r _
theorem Da {ns:List Int} {n:Int} (h:n∈ns) (h0:n≠0):bT 0 ns<=n.natAbs:=Nat.le_of_dvd (by omega) ((hX ns 0).2 n h)
theorem KE (d:D):kn d 1<=1:=by rcases JM (d:=d) (k:=1) with q|q <;> omega
def sS (a b m:Nat):Prop:=(b<=a/\a*b < 2 ^ m)\/(a < b/\a*b < 2 ^ (m - 1)/\1<=m)
theorem uu {a b m:Nat} (h:sS a b m) (h0:b≠0):∃m',m' < m/\sS b (a % b) m':=by
 rcases h with ⟨h1,h2⟩ | ⟨h1,h2,h3⟩
 ·have hm:1<=m:=by
   rcases Nat.eq_zero_or_pos m with e|e
   ·subst e
    have:1*1<=a*b:=Nat.mul_le_mul (by omega) (by omega)
    omega
   ·exact e
  refine ⟨m - 1,by omega,.inl ⟨Nat.le_of_lt (Nat.mod_lt _ (by omega)),?_⟩⟩
  have e:2 ^ m=2*2 ^ (m - 1):=by rw [<- Nat.pow_succ'];congr 1;omega
  rw [e] at h2
  have hk:b+a % b<=a:=by
   have:=Nat.div_add_mod a b
   have q:1<=a / b:=(Nat.one_le_div_iff (by omega)).mpr h1
   have:=Nat.mul_le_mul_left b q
   omega
  have hlt:=Nat.mod_lt a (show 0 < b by omega)
  have:b*(a % b)+b*(a % b)<=a*b:=by
   rw [<- Nat.mul_add,Nat.mul_comm a b]
   exact Nat.mul_le_mul_left b (by omega)
  omega
 ·refine ⟨m - 1,by omega,.inl ?_⟩
  rw [Nat.mod_eq_of_lt h1,Nat.mul_comm]
  exact ⟨Nat.le_of_lt h1,h2⟩
theorem Pb {a b:Nat} (ha:a < 2 ^ 1000) (hb:b < 2 ^ 1000):sS a b 2002:=by
 have h:a*b < 2 ^ 2001:=Nat.lt_of_lt_of_le (Nat.mul_lt_mul'' ha hb) (by rw [<- Nat.pow_add];exact Nat.pow_le_pow_right (by decide) (by decide))
 rcases Nat.lt_or_ge a b with q|q
 ·exact .inr ⟨q,h,by decide⟩
 ·exact .inl ⟨q,Nat.lt_trans h (Nat.pow_lt_pow_right (by decide) (by decide))⟩
theorem rN (a b:Nat):(a:Int).fmod b=((a % b:Nat):Int):=by
 rw [Int.fmod_eq_emod_of_nonneg _ (by omega)];rfl
theorem Gv (a b:Nat):(-(a:Int)).fmod (-(b:Int)) = -((a % b:Nat):Int):=by
 rw [Int.neg_fmod_neg,rN]
def jD (s:Bool) (a:Nat):Int:=cond s (-(a:Int)) a
theorem At (s:Bool) (a b:Nat):(jD s a).fmod (jD s b)=jD s (a % b):=by
 cases s
 ·exact rN a b
 ·exact Gv a b
theorem eF (s:Bool) (a:Nat):(jD s a).natAbs=a:=by
 cases s
 ·rfl
 ·exact Int.natAbs_neg _
theorem qD (x y:Int) (h:y≠0):∃(s:Bool) (a b:Nat),y=jD s a/\x.fmod y=jD s b/\Nat.gcd a b=Nat.gcd x.natAbs y.natAbs/\a=y.natAbs/\b < a:=by
 have hg:Nat.gcd y.natAbs (x.fmod y).natAbs=Nat.gcd x.natAbs y.natAbs:=by
  have e:=Int.mul_fdiv_add_fmod x y
  have:Int.gcd y (x.fmod y)=Int.gcd y x:=by
   conv=>rhs;rw [<- e]
   rw [Int.gcd_mul_left_add_right]
  rw [show Nat.gcd y.natAbs (x.fmod y).natAbs=Int.gcd y (x.fmod y) from rfl,this,Int.gcd_comm];rfl
 by_cases hy:0 < y
 ·have h0:=Int.fmod_nonneg_of_pos x hy
  have h1:=Int.fmod_lt_of_pos x hy
  refine ⟨false,y.natAbs,(x.fmod y).natAbs,?_,?_,hg,rfl,by omega⟩
  ·show y=((y.natAbs:Nat):Int);omega
  ·show x.fmod y=(((x.fmod y).natAbs:Nat):Int);omega
 ·have e:x.fmod y = -((-x).fmod (-y)):=by
   have:=Int.neg_fmod_neg (-x) (-y)
   rw [Int.neg_neg,Int.neg_neg] at this
   exact this
  have hy':0 < -y:=by omega
  have h0:=Int.fmod_nonneg_of_pos (-x) hy'
  have h1:=Int.fmod_lt_of_pos (-x) hy'
  refine ⟨true,y.natAbs,(x.fmod y).natAbs,?_,?_,hg,rfl,by omega⟩
  ·show y = -((y.natAbs:Nat):Int);omega
  ·show x.fmod y = -(((x.fmod y).natAbs:Nat):Int);omega
end K
namespace K
open PySem L2 Sp Qm
theorem rQ {Φ:Fx} {sc:Scope} {ρ ρ':ak} {es:List Expr} {e:Expr} {n:Nat} {p q:Pos} {d:D} {ds:List D} {k:Nat} (h:ag (aC Φ e false sc ρ) (d,k)) (hs:eY d=some ds) (hk:ax ds=true\/k<=1) (hb:aY sc es ds ρ=some ρ') (ht:gt e=false:=by rfl) (ho:qR sc es (d,k)=false:=by rfl):ag (dS Φ (.Assign [.Tuple es n p] e q) sc ρ) (.nx ρ'):=by
 show ag (if lr sc es e=true then kM Φ es e sc ρ else _) _
 rw [if_neg (by unfold lr;rw [ht];exact Bool.false_ne_true)]
 refine ag.bnd h ?_
 rw [if_neg (by rw [ho];exact Bool.false_ne_true)]
 dsimp only
 rw [hs];dsimp only
 rw [if_pos hk,hb]
 exact cY
theorem rR {Φ:Fx} {sc:Scope} {ρ:ak} {es:List Expr} {e:Expr} {n:Nat} {p q:Pos} {d:D×Nat} (h:ag (aC Φ e false sc ρ) d) (ho:qR sc es d=true) (ht:gt e=false:=by rfl):ag (dS Φ (.Assign [.Tuple es n p] e q) sc ρ) (.nx (u8 es d ρ)):=by
 show ag (if lr sc es e=true then kM Φ es e sc ρ else _) _
 rw [if_neg (by unfold lr;rw [ht];exact Bool.false_ne_true)]
 refine ag.bnd h ?_
 rw [if_pos ho]
 exact cY
def gI (ns:List Int):Int:=(bT 0 ns:Nat)
theorem oq (ns:List Int):ou (ns.map D.int)=gI ns:=rJ ns
theorem mO {ns:List Int} {n:Int} (h:n∈ns) (h0:n≠0):0 < gI ns:=by have:=jv h h0;unfold gI;omega
theorem i6 {ns:List Int} {n m:Int} (h:n∈ns) (h0:n≠0) (hm:m∈ns):m=gI ns*m.fdiv (gI ns):=zw h h0 hm
theorem xn {ns:List Int} {n:Int} (h:n∈ns) (h0:n≠0):gI (ns.map fun m=>m.fdiv (gI ns))=1:=by
 have:=PX h h0
 unfold gI;rw [this];rfl
theorem rK {c:Int} (hc:0 < c) (ns:List Int):gI (ns.map fun m=>c*m)=c*gI ns:=by
 obtain ⟨k,rfl⟩:=Int.eq_ofNat_of_zero_le (Int.le_of_lt hc)
 have:=rG k ns 0
 unfold gI
 rw [Nat.mul_zero] at this
 rw [this];simp
theorem JX {ns:List Int} {n:Int} (h:n∈ns) (h0:n≠0):(gI ns).natAbs<=n.natAbs:=by
 have:=Da h h0
 unfold gI;omega
theorem oA {x g:Int} (hg:0 < g):(x.fdiv g).natAbs<=x.natAbs:=De x hg
theorem zi {n g:Int} (hg:0 < g) (hn:0 < n) (e:n=g*n.fdiv g):0 < n.fdiv g:=by
 rcases Int.lt_or_le 0 (n.fdiv g) with h|h
 ·exact h
 ·have:=Int.mul_le_mul_of_nonneg_left h (Int.le_of_lt hg)
  rw [Int.mul_zero,<- e] at this
  omega
theorem vH {c x g:Int} (hc:0 < c) (hg:0 < g):(c*x).fdiv (c*g)=x.fdiv g:=Int.mul_fdiv_mul_of_pos x g hc
theorem mw {ns:List Int} {k:Nat} (hk:k<=999) (hl:ns.length<=100) (h:∀n∈ns,n.natAbs<=2 ^ k):okT (ns.map D.int) :=
 ⟨ns,rfl,hl,fun n hn=>Nat.lt_of_le_of_lt (h n hn) (Nat.pow_lt_pow_right (by decide) (by omega))⟩
abbrev be (a b c x y z:Int):Int:=a*x+(b*y+(c*z+0))
theorem QB (a b c d:Int):(([a,b,c,d]:List Int).any fun n=>n != 0) = !decide (a=0/\b=0/\c=0/\d=0):=by
 by_cases h1:a=0 <;> by_cases h2:b=0 <;> by_cases h3:c=0 <;> by_cases h4:d=0 <;> simp [h1,h2,h3,h4]
end K
namespace K
open PySem L2 Sp Qm
end K
namespace K
open PySem PySem.Spec PyProof.Rows L2 Sp Qm
theorem xg {Φ:Fx} {sc:Scope} {ps fs:List Str} {args:List Expr} {n:Str} {ds q:List D} {k:Nat} (hl:ds.length+1=ps.length) (h:ag (cf Φ args sc (eh ps (.obj n [] []::ds))) (q,k)) (hq:q.length=fs.length) (h1:ax q=true) (h2:fg q=true):ag (gH Φ sc ps args n fs ds) (.obj n fs q):=by
 unfold gH
 rw [if_pos hl]
 refine ag.bnd h ?_
 dsimp only
 rw [if_pos hq]
 exact cX rfl ⟨h1,h2,True.intro⟩
theorem fW {Φ:Fx} {sc:Scope} {ρ:ak} {a:Expr} {m n:Str} {ap cp:Pos} {args:List Expr} {it:Bool} {ns:List Str} {es ds:List D} {k j:Nat} {F:List D->Rs D} {d:D} (ha:ag (aC Φ a false sc ρ) (.obj n ns es,k)) (hs:ag (cf Φ args sc ρ) (ds,j)) (hF:Φ.omt n m=some F) (h:ag (F (.obj n ns es::ds)) d)
  (hl:(ap.endLine==cp.line)=true:=by rfl) (hn:ns.contains m=false:=by rfl) (hb:ij a=true:=by rfl) (hf:ds.length < 29:=by exact Nat.le_of_ble_eq_true rfl):ag (aC Φ (.Call (.Attribute a m ap) args [] cp) it sc ρ) (d,0):=by
 rw [lO,if_pos hl]
 refine ag.bnd ha (ag.bnd hs ?_)
 unfold vo
 dsimp only
 rw [if_pos ⟨hn,hb,hf⟩,hF]
 exact ag.bnd h cY
theorem xJ {X:Cx} (hc:X.calm=true):ek X (.builtin "any") (fun xs H Q => ∃(p:Addr) (ns:List Int),xs=[.ref p]/\cm X.K H p (ns.map V.int)/\Q (.bl (ns.any fun n=>n != 0)) H):=by
 intro pins s σ H xs us Q I r h
 obtain ⟨p,ns,rfl,hq,q⟩:=h
 obtain ⟨u,rfl,rx⟩:=eJ r
 cases rx
 obtain ⟨its,rv,pl,hz⟩:=I.tuple hq
 have hlen:its.length=ns.length:=by have:=rv.length;simpa using this.symm
 have hl:s.heap.IsTuple p its.toArray:=by obtain ⟨o,e,c,n,d⟩:=pl;exact ⟨o,e,c,n,d⟩
 have hlt:p < s.heap.objs.size:=by obtain ⟨_,e,_⟩:=hl;exact Heap.lt_size e
 refine call_any_walk (wpAny_pyIter_tuple hl ?_)
 refine ⟨_,_,_,_,_,_,fun i=>(ns.getD i 0 != 0),rfl,Walks.tuple (A:=X.A.in1) (by exact I.ok.hd hc) _ p (Nat.ne_of_lt hlt) its.toArray,⟨⟨_,Heap.get?_push_size _ rfl,rfl,rfl⟩,hl.at fun o e=>Heap.get?_push_of_some _ e⟩,?_,fun h' tk hk=>?_⟩
 ·intro i v s' Q' E' hP hQ
  have hP:(its.toArray)[i]?=some v:=hP
  simp only [List.getElem?_toArray] at hP
  have hi:i < ns.length:=by rw [<- hlen];exact (List.getElem?_eq_some_iff.mp hP).1
  obtain ⟨w,hw,rw'⟩:=rv.get (i:=i) (x:=V.int ns[i]) (by simp [hi])
  rw [hP] at hw;cases hw
  obtain ⟨t,rfl⟩:=rw'
  refine PyProof.Rows.truthy_int ?_
  have:ns.getD i 0=ns[i]:=by rw [List.getD_eq_getElem?_getD,List.getElem?_eq_getElem hi];rfl
  rw [<- this];exact hQ
 ·have:((List.range its.toArray.size).any fun i=>(ns.getD i 0 != 0))=ns.any fun n=>n != 0:=by
   simp only [List.size_toArray,hlen]
   rw [Bool.eq_iff_iff,List.any_eq_true,List.any_eq_true]
   constructor
   ·rintro ⟨i,hi,h⟩
    have hi:=List.mem_range.mp hi
    rw [List.getD_eq_getElem?_getD,List.getElem?_eq_getElem hi] at h
    exact ⟨_,List.getElem_mem hi,h⟩
   ·rintro ⟨x,hx,h⟩
    obtain ⟨i,hi,rfl⟩:=List.mem_iff_getElem.mp hx
    exact ⟨i,List.mem_range.mpr hi,by rw [List.getD_eq_getElem?_getD,List.getElem?_eq_getElem hi];exact h⟩
  rw [this]
  refine ⟨.bl _,H,I.kept (fun b o e=>hk b o (fun hm=>?_) (Heap.get?_push_of_some _ e)),rfl,q⟩
  have hb:b=s.heap.objs.size:=by simpa using hm
  subst hb
  exact absurd (Heap.lt_size e) (Nat.lt_irrefl _)
def vX (ds:List D):R1 :=
 match ds with
 | [.tup l]=>(match dG l with|some ns=>.ok (.bl (ns.any fun n=>n != 0),0) [] | none=>.st)
 | ds=>zL ds
theorem zK:fq "any" vX:=by
 refine ⟨by decide +kernel,by decide +kernel,by decide +kernel,rfl,fun X ds z l o hc h hp=>?_⟩
 unfold vX at h
 split at h
 ·split at h
  ·rename_i ns e
   refine .inl ⟨"any", by decide +kernel,?_⟩
   cases h
   cases iB e
   refine ⟨_,xJ hc,fun ow H0 H2 vs P Q o s rx q=>?_⟩
   obtain ⟨v,rfl,ry⟩:=rx.only
   rw [al] at ry
   obtain ⟨a,ws,rfl,hs,rl⟩:=ry
   exact ⟨a,ns,rfl,by rw [<- rl.mapInt];exact hs,q _ _ (aA.refl _) (by rw [al])⟩
  ·cases h
 ·exact DE.2.2.2.2 X _ z l o hc h hp
theorem rH:∀(ns ms:List Int) (g:Nat),ns.map Int.natAbs=ms.map Int.natAbs->bT g ns=bT g ms
 | [],[],g,_=>rfl
 | [],_::_,g,h=>by cases h
 | _::_,[],g,h=>by cases h
 | n::ns,m::ms,g,h=>by
  have h1:n.natAbs=m.natAbs/\ns.map Int.natAbs=ms.map Int.natAbs:=by simpa using h
  show bT (Nat.gcd g n.natAbs) ns=bT (Nat.gcd g m.natAbs) ms
  rw [h1.1]
  exact rH ns ms _ h1.2
theorem xp {ns ms:List Int} (h:ns.map Int.natAbs=ms.map Int.natAbs):gI ns=gI ms:=by unfold gI;rw [rH ns ms 0 h]
theorem i9 {d:Int} {ns:List Int} (h:∀m∈ns,d∣m):d∣gI ns:=by
 unfold gI
 have:=lR (d:=d.natAbs) ns 0 (Nat.dvd_zero _) fun n hn=>Int.natAbs_dvd_natAbs.mpr (h n hn)
 exact Int.natAbs_dvd.mp (Int.ofNat_dvd.mpr this)
theorem xo {ns:List Int} {n:Int} (h:n∈ns):gI ns∣n:=pw h
theorem oy (k a b c d:Int) (hk:k≠0):gI [k*a,k*b,k*c,k*d]=(k.natAbs:Int)*gI [a,b,c,d]:=by
 rw [<- rK (c:=(k.natAbs:Int)) (by omega) [a,b,c,d]]
 apply xp
 simp [Int.natAbs_mul]
def b9 (a b c d:Int):Int:=if a≠0 then a else if b≠0 then b else if c≠0 then c else d
theorem lM {k:Int} (a b c d:Int) (hk:k≠0):b9 (k*a) (k*b) (k*c) (k*d)=k*b9 a b c d:=by
 unfold b9
 have e:∀x:Int,(k*x≠0)=(x≠0):=fun x=>by
  apply propext
  constructor
  ·intro h z;subst z;simp at h
  ·intro h z;rcases Int.mul_eq_zero.mp z with q|q
   ·exact hk q
   ·exact h q
 simp only [e]
 by_cases ha:a≠0
 ·rw [if_pos ha,if_pos ha]
 ·rw [if_neg ha,if_neg ha]
  by_cases hb:b≠0
  ·rw [if_pos hb,if_pos hb]
  ·rw [if_neg hb,if_neg hb]
   by_cases hc:c≠0
   ·rw [if_pos hc,if_pos hc]
   ·rw [if_neg hc,if_neg hc]
theorem CT {a b c d:Int} (h:¬ (a=0/\b=0/\c=0/\d=0)):b9 a b c d≠0:=by
 unfold b9
 split
 ·assumption
 ·split
  ·assumption
  ·split
   ·assumption
   ·intro z;apply h;omega
structure Pm (a b c d:Int):Prop where
 one:gI [a,b,c,d]=1
 pos:0 < b9 a b c d
theorem Pm.ne {a b c d:Int} (h:Pm a b c d):¬ (a=0/\b=0/\c=0/\d=0):=by
 rintro ⟨rfl,rfl,rfl,rfl⟩
 have:=h.pos
 simp [b9] at this
theorem tZ {x y z w:Int} (h:¬ (x=0/\y=0/\z=0/\w=0)):∃k a b c d:Int,k≠0/\x=k*a/\y=k*b/\z=k*c/\w=k*d/\Pm a b c d/\k.natAbs=(gI [x,y,z,w]).natAbs:=by
 obtain ⟨v,hv,hv0⟩:∃v∈[x,y,z,w],v≠0:=by
  by_cases hx:x=0
  ·by_cases hy:y=0
   ·by_cases hz:z=0
    ·exact ⟨w,by simp,fun q=>h ⟨hx,hy,hz,q⟩⟩
    ·exact ⟨z,by simp,hz⟩
   ·exact ⟨y,by simp,hy⟩
  ·exact ⟨x,by simp,hx⟩
 have g0:=mO hv hv0
 have ex:=i6 (m:=x) hv hv0 (by simp)
 have ey:=i6 (m:=y) hv hv0 (by simp)
 have ez:=i6 (m:=z) hv hv0 (by simp)
 have ew:=i6 (m:=w) hv hv0 (by simp)
 have one:=xn hv hv0
 simp only [List.map_cons,List.map_nil] at one
 generalize gI [x,y,z,w]=g at *
 generalize x.fdiv g=a at *
 generalize y.fdiv g=b at *
 generalize z.fdiv g=c at *
 generalize w.fdiv g=d at *
 have hn:¬ (a=0/\b=0/\c=0/\d=0):=by
  rintro ⟨rfl,rfl,rfl,rfl⟩
  apply h
  simp at ex ey ez ew
  exact ⟨ex,ey,ez,ew⟩
 have hl:=CT hn
 rcases Int.lt_or_gt_of_ne hl with q|q
 ·refine ⟨-g,-a,-b,-c,-d,by omega,by rw [Int.neg_mul_neg];exact ex,by rw [Int.neg_mul_neg];exact ey,by rw [Int.neg_mul_neg];exact ez,by rw [Int.neg_mul_neg];exact ew,⟨?_,?_⟩,by rw [Int.natAbs_neg]⟩
  ·rw [<- one];apply xp;simp
  ·have:=lM (k:=-1) a b c d (by decide)
   simp only [Int.neg_mul,Int.one_mul] at this
   rw [this];omega
 ·exact ⟨g,a,b,c,d,by omega,ex,ey,ez,ew,⟨one,q⟩,rfl⟩
def n4 (a b c d:Int):Int:=a*a+b*b+c*c+d*d
def cQ (a b c d:Int):Int:=a*a+b*b - c*c - d*d
def cO (a b c d:Int):Int:=2*b*c - 2*a*d
def cN (a b c d:Int):Int:=2*b*d+2*a*c
def cI (a b c d:Int):Int:=2*b*c+2*a*d
def cM (a b c d:Int):Int:=a*a - b*b+c*c - d*d
def cH (a b c d:Int):Int:=2*c*d - 2*a*b
def cG (a b c d:Int):Int:=2*b*d - 2*a*c
def cF (a b c d:Int):Int:=2*c*d+2*a*b
def cK (a b c d:Int):Int:=a*a - b*b - c*c+d*d
def ck (a b c d:Int):List Int:=[n4 a b c d,cQ a b c d,cO a b c d,cN a b c d,cI a b c d,cM a b c d,cH a b c d,cG a b c d,cF a b c d,cK a b c d]
theorem mi {x:Int} (h:x≠0):0 < x*x:=by
 rcases Int.lt_or_gt_of_ne h with q|q
 ·exact Int.mul_pos_of_neg_of_neg q q
 ·exact Int.mul_pos q q
theorem qW {a b c d:Int} (h:¬ (a=0/\b=0/\c=0/\d=0)):0 < n4 a b c d:=by
 unfold n4
 have h1:=pW a;have h2:=pW b;have h3:=pW c;have h4:=pW d
 by_cases ha:a=0
 ·by_cases hb:b=0
  ·by_cases hc:c=0
   ·have:=mi (x:=d) (fun q=>h ⟨ha,hb,hc,q⟩);omega
   ·have:=mi hc;omega
  ·have:=mi hb;omega
 ·have:=mi ha;omega
theorem wL {x:Int} (h:x % 2=1):∃k,x*x=8*k+1:=by
 obtain ⟨u,rfl⟩:∃u,x=2*u+1:=⟨x / 2,by omega⟩
 have hu:u % 2=0\/u % 2=1:=by omega
 rcases hu with q|q
 ·obtain ⟨v,rfl⟩:∃v,u=2*v:=⟨u / 2,by omega⟩
  exact ⟨2*v*v+v,by grind⟩
 ·obtain ⟨v,rfl⟩:∃v,u=2*v+1:=⟨u / 2,by omega⟩
  exact ⟨2*v*v+3*v+1,by grind⟩
theorem RA {x:Int} (h:x % 2=0):∃k,x*x=4*k:=by
 obtain ⟨u,rfl⟩:∃u,x=2*u:=⟨x / 2,by omega⟩
 exact ⟨u*u,by grind⟩
theorem mv {x y:Int} (h:x % 2=1) (h':y % 2=1):∃k,x*y=2*k+1:=by
 obtain ⟨u,rfl⟩:∃u,x=2*u+1:=⟨x / 2,by omega⟩
 obtain ⟨v,rfl⟩:∃v,y=2*v+1:=⟨y / 2,by omega⟩
 exact ⟨2*u*v+u+v,by grind⟩
theorem Pc {g a b c d:Int} (h1:gI [a,b,c,d]=1) (h:∀x∈[a,b,c,d],∀y∈[a,b,c,d],g∣4*(x*y)):g∣4:=by
 have one:∀y∈[a,b,c,d],g∣4*y:=fun y hy=>by
  by_cases y0:y=0
  ·subst y0;exact ⟨0,by simp⟩
  ·have k:=i9 (d:=g) (ns:=[(4*y)*a,(4*y)*b,(4*y)*c,(4*y)*d]) (by
    intro m hm
    simp only [List.mem_cons,List.not_mem_nil,or_false] at hm
    have q:∀x∈[a,b,c,d],g∣4*y*x:=fun x hx=>by
     have:=h x hx y hy
     rwa [show 4*y*x=4*(x*y) by grind]
    rcases hm with rfl|rfl|rfl|rfl
    ·exact q a (by simp)
    ·exact q b (by simp)
    ·exact q c (by simp)
    ·exact q d (by simp))
   rw [oy _ _ _ _ _ (by omega),h1,Int.mul_one] at k
   exact Int.dvd_natAbs.mp k
 have k:=i9 (d:=g) (ns:=[4*a,4*b,4*c,4*d]) (by
  intro m hm
  simp only [List.mem_cons,List.not_mem_nil,or_false] at hm
  rcases hm with rfl|rfl|rfl|rfl
  ·exact one a (by simp)
  ·exact one b (by simp)
  ·exact one c (by simp)
  ·exact one d (by simp))
 rw [oy _ _ _ _ _ (by decide),h1] at k
 exact k
theorem Bj {a b c d:Int} (h:Pm a b c d):gI (ck a b c d)∣4:=by
 have q:∀x∈ck a b c d,gI (ck a b c d)∣x:=fun x hx=>xo hx
 generalize gI (ck a b c d)=g at *
 have e:g∣n4 a b c d:=q _ (by simp [ck])
 have e0:g∣cQ a b c d:=q _ (by simp [ck])
 have e1:g∣cO a b c d:=q _ (by simp [ck])
 have e2:g∣cN a b c d:=q _ (by simp [ck])
 have e3:g∣cI a b c d:=q _ (by simp [ck])
 have e4:g∣cM a b c d:=q _ (by simp [ck])
 have e5:g∣cH a b c d:=q _ (by simp [ck])
 have e6:g∣cG a b c d:=q _ (by simp [ck])
 have e7:g∣cF a b c d:=q _ (by simp [ck])
 have e8:g∣cK a b c d:=q _ (by simp [ck])
 obtain ⟨k,hk⟩:=e;obtain ⟨k0,h0⟩:=e0;obtain ⟨k1,h1⟩:=e1;obtain ⟨k2,h2⟩:=e2;obtain ⟨k3,h3⟩:=e3
 obtain ⟨k4,h4⟩:=e4;obtain ⟨k5,h5⟩:=e5;obtain ⟨k6,h6⟩:=e6;obtain ⟨k7,h7⟩:=e7;obtain ⟨k8,h8⟩:=e8
 simp only [n4,cQ,cO,cN,cI,cM,cH,cG,cF,cK] at hk h0 h1 h2 h3 h4 h5 h6 h7 h8
 apply Pc h.one
 have aa:g∣4*(a*a):=⟨k+k0+k4+k8,by grind⟩
 have bb:g∣4*(b*b):=⟨k+k0 - k4 - k8,by grind⟩
 have cc:g∣4*(c*c):=⟨k - k0+k4 - k8,by grind⟩
 have dd:g∣4*(d*d):=⟨k - k0 - k4+k8,by grind⟩
 have bc:g∣4*(b*c):=⟨k1+k3,by grind⟩
 have ad:g∣4*(a*d):=⟨k3 - k1,by grind⟩
 have bd:g∣4*(b*d):=⟨k2+k6,by grind⟩
 have ac:g∣4*(a*c):=⟨k2 - k6,by grind⟩
 have cd:g∣4*(c*d):=⟨k5+k7,by grind⟩
 have ab:g∣4*(a*b):=⟨k7 - k5,by grind⟩
 have ba:g∣4*(b*a):=by rw [Int.mul_comm b a];exact ab
 have ca:g∣4*(c*a):=by rw [Int.mul_comm c a];exact ac
 have da:g∣4*(d*a):=by rw [Int.mul_comm d a];exact ad
 have cb:g∣4*(c*b):=by rw [Int.mul_comm c b];exact bc
 have db:g∣4*(d*b):=by rw [Int.mul_comm d b];exact bd
 have dc:g∣4*(d*c):=by rw [Int.mul_comm d c];exact cd
 intro x hx y hy
 simp only [List.mem_cons,List.not_mem_nil,or_false] at hx hy
 rcases hx with hx|hx|hx|hx <;> rcases hy with hy|hy|hy|hy <;> rw [hx,hy] <;> assumption
theorem G6 {a b c d:Int} (h:Pm a b c d):∃g m:Int,gI (ck a b c d)=g/\(g=1\/g=2\/g=4)/\n4 a b c d=g*m/\m % 2=1/\0 < m:=by
 have hn:=qW h.ne
 have mn:n4 a b c d∈ck a b c d:=by simp [ck]
 have g0:=mO mn (by omega)
 have g4:=Bj h
 obtain ⟨m,hm⟩:=xo mn
 have hg:gI (ck a b c d)=1\/gI (ck a b c d)=2\/gI (ck a b c d)=4:=by
  have l4:=Int.le_of_dvd (by decide) g4
  obtain ⟨u,hu⟩:=g4
  generalize gI (ck a b c d)=g at *
  have:g=1\/g=2\/g=3\/g=4:=by omega
  rcases this with rfl|rfl|rfl|rfl
  ·exact .inl rfl
  ·exact .inr (.inl rfl)
  ·omega
  ·exact .inr (.inr rfl)
 have two:2∣n4 a b c d->2∣gI (ck a b c d):=fun h2=>i9 fun x hx=>by
  obtain ⟨u,hu⟩:=h2
  simp only [ck,List.mem_cons,List.not_mem_nil,or_false] at hx
  rcases hx with rfl|rfl|rfl|rfl|rfl|rfl|rfl|rfl|rfl|rfl
  ·exact ⟨u,hu⟩
  ·exact ⟨u - c*c - d*d,by unfold n4 at hu;unfold cQ;grind⟩
  ·exact ⟨b*c - a*d,by unfold cO;grind⟩
  ·exact ⟨b*d+a*c,by unfold cN;grind⟩
  ·exact ⟨b*c+a*d,by unfold cI;grind⟩
  ·exact ⟨u - b*b - d*d,by unfold n4 at hu;unfold cM;grind⟩
  ·exact ⟨c*d - a*b,by unfold cH;grind⟩
  ·exact ⟨b*d - a*c,by unfold cG;grind⟩
  ·exact ⟨c*d+a*b,by unfold cF;grind⟩
  ·exact ⟨u - b*b - c*c,by unfold n4 at hu;unfold cK;grind⟩
 have four:4∣n4 a b c d->4∣gI (ck a b c d)/\n4 a b c d % 8=4:=fun h4=>by
  have ne:¬ (a % 2=0/\b % 2=0/\c % 2=0/\d % 2=0):=fun z=>by
   have:=i9 (d:=2) (ns:=[a,b,c,d]) (by
    intro m hm
    simp only [List.mem_cons,List.not_mem_nil,or_false] at hm
    rcases hm with rfl|rfl|rfl|rfl
    ·exact Int.dvd_of_emod_eq_zero z.1
    ·exact Int.dvd_of_emod_eq_zero z.2.1
    ·exact Int.dvd_of_emod_eq_zero z.2.2.1
    ·exact Int.dvd_of_emod_eq_zero z.2.2.2)
   rw [h.one] at this
   omega
  have od:a % 2=1/\b % 2=1/\c % 2=1/\d % 2=1:=by
   unfold n4 at h4
   have sq:∀x:Int,∃k,x*x=4*k+x % 2/\(x % 2=0\/x % 2=1):=fun x=>by
    rcases (show x % 2=0\/x % 2=1 by omega) with q|q
    ·obtain ⟨k,e⟩:=RA q;exact ⟨k,by rw [q];omega,.inl q⟩
    ·obtain ⟨k,e⟩:=wL q;exact ⟨2*k,by rw [q];omega,.inr q⟩
   obtain ⟨ka,ea,pa⟩:=sq a
   obtain ⟨kb,eb,pb⟩:=sq b
   obtain ⟨kc,ec,pc⟩:=sq c
   obtain ⟨kd,ed,pd⟩:=sq d
   rw [ea,eb,ec,ed] at h4
   clear ea eb ec ed sq
   generalize a % 2=A at *;generalize b % 2=B at *;generalize c % 2=C at *;generalize d % 2=E at *
   omega
  obtain ⟨oa,ob,oc,od⟩:=od
  obtain ⟨ka,ya⟩:=wL oa;obtain ⟨kb,yb⟩:=wL ob;obtain ⟨kc,yc⟩:=wL oc;obtain ⟨kd,yd⟩:=wL od
  obtain ⟨bc,zbc⟩:=mv ob oc;obtain ⟨ad,zad⟩:=mv oa od;obtain ⟨bd,zbd⟩:=mv ob od;obtain ⟨ac,zac⟩:=mv oa oc;obtain ⟨cd,zcd⟩:=mv oc od;obtain ⟨ab,zab⟩:=mv oa ob
  refine ⟨i9 fun x hx=>?_,by unfold n4;omega⟩
  simp only [ck,List.mem_cons,List.not_mem_nil,or_false] at hx
  rcases hx with rfl|rfl|rfl|rfl|rfl|rfl|rfl|rfl|rfl|rfl
  ·exact h4
  ·exact ⟨2*ka+2*kb - 2*kc - 2*kd,by unfold cQ;omega⟩
  ·exact ⟨bc - ad,by unfold cO;rw [Int.mul_assoc,Int.mul_assoc,zbc,zad];omega⟩
  ·exact ⟨bd+ac+1,by unfold cN;rw [Int.mul_assoc,Int.mul_assoc,zbd,zac];omega⟩
  ·exact ⟨bc+ad+1,by unfold cI;rw [Int.mul_assoc,Int.mul_assoc,zbc,zad];omega⟩
  ·exact ⟨2*ka - 2*kb+2*kc - 2*kd,by unfold cM;omega⟩
  ·exact ⟨cd - ab,by unfold cH;rw [Int.mul_assoc,Int.mul_assoc,zcd,zab];omega⟩
  ·exact ⟨bd - ac,by unfold cG;rw [Int.mul_assoc,Int.mul_assoc,zbd,zac];omega⟩
  ·exact ⟨cd+ab+1,by unfold cF;rw [Int.mul_assoc,Int.mul_assoc,zcd,zab];omega⟩
  ·exact ⟨2*ka - 2*kb - 2*kc+2*kd,by unfold cK;omega⟩
 refine ⟨_,m,rfl,hg,hm,?_,?_⟩
 ·generalize gI (ck a b c d)=g at *
  generalize n4 a b c d=n at *
  rcases hg with rfl|rfl|rfl
  ·have:¬ 2∣n:=fun z=>by have:=two z;omega
   omega
  ·have:¬ 4∣n:=fun z=>by have:=(four z).1;omega
   omega
  ·have:=(four ⟨m,hm⟩).2
   omega
 ·generalize gI (ck a b c d)=g at *
  generalize n4 a b c d=n at *
  rcases hg with rfl|rfl|rfl <;> omega
theorem wY {x y z w:Int} (h:¬ (x=0/\y=0/\z=0/\w=0)):L2.atI ((([x,y,z,w]:List Int).filter fun t => !decide (t=0)).map D.int) 0=some (.int (b9 x y z w)):=by
 unfold b9
 by_cases hx:x=0
 ·subst hx
  by_cases hy:y=0
  ·subst hy
   by_cases hz:z=0
   ·subst hz
    have hw:w≠0:=fun q=>h ⟨rfl,rfl,rfl,q⟩
    simp [hw,L2.atI,L2.ixN]
   ·simp [hz,L2.atI,L2.ixN]
  ·simp [hy,L2.atI,L2.ixN]
 ·simp [hx,L2.atI,L2.ixN]
theorem CQ {f:Int->D} {x y z w:Int} (h:¬ (x=0/\y=0/\z=0/\w=0)):L2.atI ((([x,y,z,w]:List Int).filter fun t => !decide (t=0)).map f) 0=some (f (b9 x y z w)):=by
 unfold b9
 by_cases hx:x=0
 ·subst hx
  by_cases hy:y=0
  ·subst hy
   by_cases hz:z=0
   ·subst hz
    have hw:w≠0:=fun q=>h ⟨rfl,rfl,rfl,q⟩
    simp [hw,L2.atI,L2.ixN]
   ·simp [hz,L2.atI,L2.ixN]
  ·simp [hy,L2.atI,L2.ixN]
 ·simp [hx,L2.atI,L2.ixN]
theorem fI {x y:Int} {m n k:Nat} (hx:x.natAbs<=m) (hy:y.natAbs<=n) (h:m+n<=k):(x+y).natAbs<=k:=Nat.le_trans (Int.natAbs_add_le _ _) (Nat.le_trans (Nat.add_le_add hx hy) h)
theorem jf {x y:Int} {m n k:Nat} (hx:x.natAbs<=m) (hy:y.natAbs<=n) (h:m+n<=k):(x - y).natAbs<=k:=Nat.le_trans (Int.natAbs_sub_le _ _) (Nat.le_trans (Nat.add_le_add hx hy) h)
theorem nr {x:Int} {m:Nat} (hx:x.natAbs<=m):(2*x).natAbs<=2*m:=by rw [Int.natAbs_mul];exact Nat.mul_le_mul_left 2 hx
theorem JB {A B C E:Int} {M N:Nat} (h:8*M<=N) (ha:A.natAbs<=M) (hb:B.natAbs<=M) (hc:C.natAbs<=M) (he:E.natAbs<=M):(A+B+C+E).natAbs<=N/\(A+B - C - E).natAbs<=N/\(A - B+C - E).natAbs<=N/\(A - B - C+E).natAbs<=N:=by
 have h4:M+M+M+M<=N:=by omega
 have p2:=fI ha hb (Nat.le_refl _)
 have m2:=jf ha hb (Nat.le_refl _)
 exact ⟨fI (fI p2 hc (Nat.le_refl _)) he h4,jf (jf p2 hc (Nat.le_refl _)) he h4,jf (fI m2 hc (Nat.le_refl _)) he h4,fI (jf m2 hc (Nat.le_refl _)) he h4⟩
theorem vn {A B:Int} {M N:Nat} (h:8*M<=N) (ha:A.natAbs<=M) (hb:B.natAbs<=M):(2*A - 2*B).natAbs<=N/\(2*A+2*B).natAbs<=N:=by
 have h4:2*M+2*M<=N:=by omega
 exact ⟨jf (nr ha) (nr hb) h4,fI (nr ha) (nr hb) h4⟩
theorem Am {a b c d:Int} {m M N:Nat} (hM:m*m<=M) (hN:8*M<=N) (ha:a.natAbs<=m) (hb:b.natAbs<=m) (hc:c.natAbs<=m) (hd:d.natAbs<=m):∀x∈ck a b c d,x.natAbs<=N:=by
 have p:∀{x y:Int},x.natAbs<=m->y.natAbs<=m->(x*y).natAbs<=M:=fun hx hy=>by rw [Int.natAbs_mul];exact Nat.le_trans (Nat.mul_le_mul hx hy) hM
 obtain ⟨h1,h2,h3,h4⟩:=JB hN (p ha ha) (p hb hb) (p hc hc) (p hd hd)
 have bc:=vn hN (p hb hc) (p ha hd)
 have bd:=vn hN (p hb hd) (p ha hc)
 have cd:=vn hN (p hc hd) (p ha hb)
 intro x hx
 simp only [ck,List.mem_cons,List.not_mem_nil,or_false] at hx
 rcases hx with rfl|rfl|rfl|rfl|rfl|rfl|rfl|rfl|rfl|rfl
 ·exact h1
 ·exact h2
 ·unfold cO;rw [Int.mul_assoc,Int.mul_assoc];exact bc.1
 ·unfold cN;rw [Int.mul_assoc,Int.mul_assoc];exact bd.2
 ·unfold cI;rw [Int.mul_assoc,Int.mul_assoc];exact bc.2
 ·exact h3
 ·unfold cH;rw [Int.mul_assoc,Int.mul_assoc];exact cd.1
 ·unfold cG;rw [Int.mul_assoc,Int.mul_assoc];exact bd.1
 ·unfold cF;rw [Int.mul_assoc,Int.mul_assoc];exact cd.2
 ·exact h4
theorem yp {a b c d:Int} (ha:a.natAbs<=2 ^ 140) (hb:b.natAbs<=2 ^ 140) (hc:c.natAbs<=2 ^ 140) (hd:d.natAbs<=2 ^ 140):∀x∈ck a b c d,x.natAbs<=2 ^ 290 :=
 Am (M:=2 ^ 140*2 ^ 140) (Nat.le_refl _) (by rw [show (8:Nat)=2 ^ 3 from rfl,<- Nat.pow_add,<- Nat.pow_add];exact Nat.pow_le_pow_right (by decide) (by decide)) ha hb hc hd
theorem DX {a b c d:Int} (ha:a.natAbs<=2 ^ 140) (hb:b.natAbs<=2 ^ 140) (hc:c.natAbs<=2 ^ 140) (hd:d.natAbs<=2 ^ 140):okT ((ck a b c d).map D.int):=mw (k:=290) (by decide) (Nat.le_of_ble_eq_true rfl) (yp ha hb hc hd)
theorem Aw {x y z w:Int} {m:Nat} (hm:m<=999) (h:∀t∈[x,y,z,w],t.natAbs<=2 ^ m):okT (([x,y,z,w]:List Int).map D.int):=mw (k:=m) hm (Nat.le_of_ble_eq_true rfl) h
def uQ (a b c d:Int):D:=.tup [.int ((n4 a b c d).fdiv (gI (ck a b c d))),.tup [d3 ((cQ a b c d).fdiv (gI (ck a b c d))) ((cO a b c d).fdiv (gI (ck a b c d))) ((cN a b c d).fdiv (gI (ck a b c d))),d3 ((cI a b c d).fdiv (gI (ck a b c d))) ((cM a b c d).fdiv (gI (ck a b c d))) ((cH a b c d).fdiv (gI (ck a b c d))),d3 ((cG a b c d).fdiv (gI (ck a b c d))) ((cF a b c d).fdiv (gI (ck a b c d))) ((cK a b c d).fdiv (gI (ck a b c d)))]]
def nM (a b c d:Int):D:=.obj "Turn" ["word", "row", "fractions"] [.str "turn", t4 a b c d,uQ a b c d]
theorem AJ {k a b c d:Int} (hk:k≠0) (p:Pm a b c d):gI [k*a,k*b,k*c,k*d]=k.natAbs:=by rw [oy _ _ _ _ _ hk,p.one,Int.mul_one]
theorem GS {a b c x y z:Int} {k j:Nat} (ha:a.natAbs<=2 ^ k) (hb:b.natAbs<=2 ^ k) (hc:c.natAbs<=2 ^ k) (hx:x.natAbs<=2 ^ j) (hy:y.natAbs<=2 ^ j) (hz:z.natAbs<=2 ^ j):(be a b c x y z).natAbs<=2 ^ (k+j+2):=by
 have m:∀{u v:Int},u.natAbs<=2 ^ k->v.natAbs<=2 ^ j->(u*v).natAbs<=2 ^ (k+j):=fun hu hv=>by rw [Int.natAbs_mul,Nat.pow_add];exact Nat.mul_le_mul hu hv
 have h1:=m ha hx;have h2:=m hb hy;have h3:=m hc hz
 rw [show k+j+2=(k+j)+1+1 from rfl,Nat.pow_succ,Nat.pow_succ]
 exact fI h1 (fI h2 (fI h3 (Nat.le_refl 0) (Nat.le_refl _)) (Nat.le_refl _)) (by omega)
end K
namespace Sp
open PySem PySem.Spec PyProof.Rows L2
open AutoSeq1 (wpAny_loadPart')
abbrev fc (h:Heap) (n:Nat) (f0 f1:Value):Prop:=h.get? (n+5)=some { cls:=.type "zip", dict:=none,data:=.fields #[f0,f1,.bool false,.ref (n+3),.ref (n+4)],slots:=#[] }
abbrev eI (h:Heap) (T:Addr) (a b c:Value):Prop:=h.get? T=some { cls:=.type "tuple", data:=.seq #[a,b,c] }
structure Z3 (n l1 l2 l3:Nat) (xs ys ws:Array Value) (k:Nat) (h:Heap):Prop where
 b1:l1 < n
 b2:l2 < n
 b3:l3 < n
 sz:n+5 < h.objs.size
 ti:eI h (n+3) (.ref n) (.ref (n+1)) (.ref (n+2))
 to:∃a b c,eI h (n+4) a b c
 p1:h.IsTupleIter n l1 k/\h.IsTuple l1 xs
 p2:h.IsTupleIter (n+1) l2 k/\h.IsTuple l2 ys
 p3:h.IsTupleIter (n+2) l3 k/\h.IsTuple l3 ws
section
variable {prog:Program} {w:World} {A:Around} {E:Value->Shared->Prop} {s:Shared}
variable {n l1 l2 l3:Nat} {xs ys ws:Array Value} {k:Nat} {x y u:Value} {f0 f1:Value}
theorem yj {T:Addr} {a b c v:Value} {j:Nat} {Q:Unit->Shared->Prop} (hT:eI s.heap T a b c)
  (h:∀h',h'.get? T=some { cls:=.type "tuple", data:=.seq ((#[a,b,c]:Array Value).setIfInBounds j v) }->Heap.SameBut T s.heap h'->Q () { s with heap:=h' }):wpAny (model prog w) A (updateSeq T (·.setIfInBounds j v)) Q E s:=by
 refine wpAny_updateSeq hT rfl (h _ ?_ (Heap.SameBut.update ..))
 rw [Heap.get?_update_self _ hT rfl]
 simp [Obj.mapSeq]
theorem Bg {a:Addr} {Q:Option Obj->Shared->Prop} (h:Q (s.heap.get? a) s):wpAny (model prog w) A (loadIfAlive a) Q E s:=fun _ _ _=>h
def ye (n l1 l2 l3:Nat) (xs ys ws:Array Value) (k:Nat) (x y u:Value) (h h1:Heap):Prop :=
 Z3 n l1 l2 l3 xs ys ws (k+1) h1/\eI h1 h.objs.size x y u/\(∃g,fc h1 n (rawInt h.objs.size) g)/\h1.objs.size=h.objs.size+1/\∀(c:Nat) o,(c < n\/n+5 < c)->h.get? c=some o->h1.get? c=some o
theorem Z3.first {Q:Value->Shared->Prop} (S:Z3 n l1 l2 l3 xs ys ws k s.heap) (hz:fc s.heap n .none f1) (hx:xs[k]?=some x) (hy:ys[k]?=some y) (hu:ws[k]?=some u)
  (go:∀h1,ye n l1 l2 l3 xs ys ws k x y u s.heap h1->Q (.ref s.heap.objs.size) { s with heap:=h1 }) :
  wpAny (model prog w) A (Builtin.«zip.__next__» ⟨[.ref (n+5)],[]⟩) (fun fin s' => ∃v,fin=.done (.ret v)/\Q v s') E s:=by
 obtain ⟨b1,b2,b3,sz,pI,⟨a,b,c,pO⟩,⟨q1,t1⟩,⟨q2,t2⟩,⟨q3,t3⟩⟩:=S
 obtain ⟨h0,gg,dd,t0,oo⟩:=s
 show wpAny _ _ (field (.ref (n+5)) 2 >>= _) _ _ ⟨h0,gg,dd,t0,oo⟩
 refine wpAny_bind (wpAny_field hz rfl (x:=Value.bool false) rfl ?_)
 show wpAny _ _ (field (.ref (n+5)) 3 >>= _) _ _ ⟨h0,gg,dd,t0,oo⟩
 refine wpAny_bind (wpAny_field hz rfl (x:=Value.ref (n+3)) rfl (wpAny_bind (wpAny_seqItems pI rfl ?_)))
 show wpAny _ _ (Builtin.SmallTypes.ownedTupleIsFree (.ref (n+5)) >>= _) _ _ ⟨h0,gg,dd,t0,oo⟩
 unfold Builtin.SmallTypes.ownedTupleIsFree
 refine wpAny_bind (wpAny_bind (wpAny_field hz rfl (x:=Value.none) rfl (wpAny_pure ?_)))
 simp only [if_true]
 refine wpAny_bind (wpAny_rule (wpAny_bind (wpAny_field hz rfl (x:=Value.ref (n+4)) rfl (wpAny_bind (wpAny_setField_rec hz (by simp) fun r1 Z1 m1=>?_)))))
 have m1:Heap.SameBut (n+5) h0 r1:=m1
 have e1:∀(c:Nat) o,c≠n+5->h0.get? c=some o->r1.get? c=some o:=fun c o g e=>m1.extBut c o g e
 simp only [List.zipIdx_cons,List.zipIdx_nil,List.forIn_cons,List.forIn_nil]
 refine wpAny_bind (wpAny_bind (wpAny_bind (wpAny_onRaise ?_)))
 show wpAny _ _ (Builtin.SmallTypes.nextOf (.ref n) >>= _) _ _ ⟨r1,gg,dd,t0,oo⟩
 refine wpAny_bind (fy (q1.at fun o e=>e1 _ o (by omega) e) (t1.at fun o e=>e1 _ o (by omega) e) hx fun r2 q1' m2=>wpAny_pure ?_)
 have m2:Heap.SameBut n r1 r2:=m2
 have e2:∀(c:Nat) o,c≠n+5->c≠n->h0.get? c=some o->r2.get? c=some o:=fun c o g g' e=>m2.extBut c o g' (e1 c o g e)
 have O2:eI r2 (n+4) a b c:=e2 _ _ (by omega) (by omega) pO
 refine wpAny_bind (wpAny_seqItems O2 rfl (wpAny_bind (yj O2 fun r3 O3 m3=>wpAny_bind (wpAny_letGo (wpAny_pure ?_)))))
 have O3:eI r3 (n+4) x b c:=O3
 have m3:Heap.SameBut (n+4) r2 r3:=m3
 have e3:∀(c:Nat) o,c≠n+5->c≠n->c≠n+4->h0.get? c=some o->r3.get? c=some o:=fun c o g g' g2 e=>m3.extBut c o g2 (e2 c o g g' e)
 refine wpAny_bind (wpAny_bind (wpAny_onRaise ?_))
 show wpAny _ _ (Builtin.SmallTypes.nextOf (.ref (n+1)) >>= _) _ _ ⟨r3,gg,dd,t0,oo⟩
 refine wpAny_bind (fy (q2.at fun o e=>e3 _ o (by omega) (by omega) (by omega) e) (t2.at fun o e=>e3 _ o (by omega) (by omega) (by omega) e) hy fun r4 q2' m4=>wpAny_pure ?_)
 have m4:Heap.SameBut (n+1) r3 r4:=m4
 have O4:eI r4 (n+4) x b c:=m4.extBut _ _ (by show (n+4:Nat)≠n+1;omega) O3
 refine wpAny_bind (wpAny_seqItems O4 rfl (wpAny_bind (yj O4 fun r5 O5 m5=>wpAny_bind (wpAny_letGo (wpAny_pure ?_)))))
 have O5:eI r5 (n+4) x y c:=O5
 have m5:Heap.SameBut (n+4) r4 r5:=m5
 have e5:∀(c:Nat) o,c≠n+5->c≠n->c≠n+4->c≠n+1->h0.get? c=some o->r5.get? c=some o:=fun c o g g' g2 g3 e=>m5.extBut c o g2 (m4.extBut c o g3 (e3 c o g g' g2 e))
 refine wpAny_bind (wpAny_bind (wpAny_onRaise ?_))
 show wpAny _ _ (Builtin.SmallTypes.nextOf (.ref (n+2)) >>= _) _ _ ⟨r5,gg,dd,t0,oo⟩
 refine wpAny_bind (fy (q3.at fun o e=>e5 _ o (by omega) (by omega) (by omega) (by omega) e) (t3.at fun o e=>e5 _ o (by omega) (by omega) (by omega) (by omega) e) hu fun r6 q3' m6=>wpAny_pure ?_)
 have m6:Heap.SameBut (n+2) r5 r6:=m6
 have O6:eI r6 (n+4) x y c:=m6.extBut _ _ (by show (n+4:Nat)≠n+2;omega) O5
 refine wpAny_bind (wpAny_seqItems O6 rfl (wpAny_bind (yj O6 fun r7 O7 m7=>wpAny_bind (wpAny_letGo (wpAny_pure (wpAny_pure ?_))))))
 have O7:eI r7 (n+4) x y u:=O7
 have m7:Heap.SameBut (n+4) r6 r7:=m7
 have e7:∀(c:Nat) o,c≠n+5->c≠n->c≠n+4->c≠n+1->c≠n+2->h0.get? c=some o->r7.get? c=some o:=fun c o g g' g2 g3 g4 e=>m7.extBut c o g2 (m6.extBut c o g4 (e5 c o g g' g2 g3 e))
 refine wpAny_bind (wpAny_seqItems O7 rfl (wpAny_bind (wpAny_newTuple ?_)))
 have sz7:r7.objs.size=h0.objs.size:=by rw [m7.1,m6.1,m5.1,m4.1,m3.1,m2.1,m1.1]
 have Z1:fc r1 n .ellipsis f1:=Z1
 have Z7:fc r7 n .ellipsis f1:=m7.extBut _ _ (by show (n+5:Nat)≠n+4;omega) (m6.extBut _ _ (by show (n+5:Nat)≠n+2;omega) (m5.extBut _ _ (by show (n+5:Nat)≠n+4;omega) (m4.extBut _ _ (by show (n+5:Nat)≠n+1;omega) (m3.extBut _ _ (by show (n+5:Nat)≠n+4;omega) (m2.extBut _ _ (by show (n+5:Nat)≠n;omega) Z1)))))
 show wpAny _ _ (Builtin.SmallTypes.ownedTupleHandOut (.ref (n+5)) (.ref r7.objs.size) >>= _) _ _ ⟨r7.push { cls:=.type "tuple", data:=.seq #[x,y,u] },gg,dd,t0,oo⟩
 unfold Builtin.SmallTypes.ownedTupleHandOut
 have Z8:fc (r7.push { cls:=.type "tuple", data:=.seq #[x,y,u] }) n .ellipsis f1:=Heap.get?_push_of_some _ Z7
 refine wpAny_bind (wpAny_bind (wpAny_setField_rec Z8 (by simp) fun r8 Z9 m8=>?_))
 have Z9:fc r8 n (rawInt r7.objs.size) f1:=Z9
 refine wpAny_setField_rec Z9 (by simp) fun r9 Z10 m9=>?_
 have Z10:fc r9 n (rawInt r7.objs.size) (.bool false):=Z10
 have m8:Heap.SameBut (n+5) (r7.push { cls:=.type "tuple", data:=.seq #[x,y,u] }) r8:=m8
 have m9:Heap.SameBut (n+5) r8 r9:=m9
 have far:∀(c:Nat) o,c≠n+5->r7.get? c=some o->r9.get? c=some o:=fun c o g e=>m9.extBut c o g (m8.extBut c o g (Heap.get?_push_of_some _ e))
 have szn:n+5 < h0.objs.size:=sz
 have T9:eI r9 r7.objs.size x y u:=m9.extBut _ _ (by show (r7.objs.size:Nat)≠n+5;omega) (m8.extBut _ _ (by show (r7.objs.size:Nat)≠n+5;omega) (Heap.get?_push_size _ rfl))
 have s9:h0.objs.size<=r9.objs.size:=by rw [m9.1,m8.1,Heap.size_push,sz7];exact Nat.le_succ _
 refine wpAny_pure ⟨_,rfl,?_⟩
 show Q (.ref r7.objs.size) _
 rw [sz7] at Z10 T9 ⊢
 refine go r9 ⟨⟨b1,b2,b3,Nat.lt_of_lt_of_le szn s9,far _ _ (by show (n+3:Nat)≠n+5;omega) (e7 _ _ (by omega) (by omega) (by omega) (by omega) (by omega) pI),⟨x,y,u,far _ _ (by show (n+4:Nat)≠n+5;omega) O7⟩,⟨?_,?_⟩,⟨?_,?_⟩,⟨?_,?_⟩⟩,T9,⟨_,Z10⟩,by rw [m9.1,m8.1,Heap.size_push,sz7],fun c o hc e=>?_⟩
 ·exact q1'.at fun o e=>far _ o (by omega) (m7.extBut _ _ (by show (n:Nat)≠n+4;omega) (m6.extBut _ _ (by show (n:Nat)≠n+2;omega) (m5.extBut _ _ (by show (n:Nat)≠n+4;omega) (m4.extBut _ _ (by show (n:Nat)≠n+1;omega) (m3.extBut _ _ (by show (n:Nat)≠n+4;omega) e)))))
 ·exact t1.at fun o e=>far _ o (by omega) (e7 _ o (by omega) (by omega) (by omega) (by omega) (by omega) e)
 ·exact q2'.at fun o e=>far _ o (by omega) (m7.extBut _ _ (by show (n+1:Nat)≠n+4;omega) (m6.extBut _ _ (by show (n+1:Nat)≠n+2;omega) (m5.extBut _ _ (by show (n+1:Nat)≠n+4;omega) e)))
 ·exact t2.at fun o e=>far _ o (by omega) (e7 _ o (by omega) (by omega) (by omega) (by omega) (by omega) e)
 ·exact q3'.at fun o e=>far _ o (by omega) (m7.extBut _ _ (by show (n+2:Nat)≠n+4;omega) e)
 ·exact t3.at fun o e=>far _ o (by omega) (e7 _ o (by omega) (by omega) (by omega) (by omega) (by omega) e)
 ·exact far c o (by omega) (e7 c o (by omega) (by omega) (by omega) (by omega) (by omega) e)
theorem qU {T:Nat} {oT:Obj} {Q:Bool->Shared->Prop} (hz:fc s.heap n (rawInt T) f1) (hT:s.heap.get? T=some oT) (go:∀h1 g,fc h1 n (rawInt T) g->h1.objs.size=s.heap.objs.size->(∀(c:Nat) o,c≠n+5->s.heap.get? c=some o->h1.get? c=some o)->Q false { s with heap:=h1 }) :
  wpAny (model prog w) A (Builtin.SmallTypes.ownedTupleIsFree (.ref (n+5))) Q E s:=by
 obtain ⟨h0,gg,dd,t0,oo⟩:=s
 unfold Builtin.SmallTypes.ownedTupleIsFree
 refine wpAny_bind (wpAny_field hz rfl (x:=rawInt T) rfl ?_)
 show wpAny _ _ (loadIfAlive (Int.toNat (T:Int)) >>= _) _ _ ⟨h0,gg,dd,t0,oo⟩
 refine wpAny_bind (Bg ?_)
 rw [show (Shared.heap ⟨h0,gg,dd,t0,oo⟩).get? (Int.toNat (T:Int))=some oT from hT]
 simp only [Option.isNone_some,Bool.false_eq_true,if_false]
 refine wpAny_bind (wpAny_field hz rfl (x:=f1) rfl ?_)
 split
 ·refine wpAny_bind (wpAny_setField_rec hz (by simp) fun r1 Z1 m1=>wpAny_pure ?_)
  have m1:Heap.SameBut (n+5) h0 r1:=m1
  exact go r1 _ Z1 m1.1 fun c o g e=>m1.extBut c o g e
 ·exact wpAny_pure (go h0 f1 hz rfl fun c o _ e=>e)
theorem Z3.next {Q:Value->Shared->Prop} {T:Nat} {oT:Obj} (S:Z3 n l1 l2 l3 xs ys ws k s.heap) (hz:fc s.heap n (rawInt T) f1) (hT:s.heap.get? T=some oT) (hx:xs[k]?=some x) (hy:ys[k]?=some y) (hu:ws[k]?=some u)
  (go:∀h1,Z3 n l1 l2 l3 xs ys ws (k+1) h1->eI h1 s.heap.objs.size x y u->(∃g,fc h1 n (rawInt T) g)->h1.objs.size=s.heap.objs.size+1->(∀(c:Nat) o,(c < n\/n+5 < c)->s.heap.get? c=some o->h1.get? c=some o)->Q (.ref s.heap.objs.size) { s with heap:=h1 }) :
  wpAny (model prog w) A (Builtin.«zip.__next__» ⟨[.ref (n+5)],[]⟩) (fun fin s' => ∃v,fin=.done (.ret v)/\Q v s') E s:=by
 obtain ⟨b1,b2,b3,sz,pI,⟨a,b,c,pO⟩,⟨q1,t1⟩,⟨q2,t2⟩,⟨q3,t3⟩⟩:=S
 obtain ⟨h0,gg,dd,t0,oo⟩:=s
 have szn:n+5 < h0.objs.size:=sz
 show wpAny _ _ (field (.ref (n+5)) 2 >>= _) _ _ ⟨h0,gg,dd,t0,oo⟩
 refine wpAny_bind (wpAny_field hz rfl (x:=Value.bool false) rfl ?_)
 show wpAny _ _ (field (.ref (n+5)) 3 >>= _) _ _ ⟨h0,gg,dd,t0,oo⟩
 refine wpAny_bind (wpAny_field hz rfl (x:=Value.ref (n+3)) rfl (wpAny_bind (wpAny_seqItems pI rfl ?_)))
 show wpAny _ _ (Builtin.SmallTypes.ownedTupleIsFree (.ref (n+5)) >>= _) _ _ ⟨h0,gg,dd,t0,oo⟩
 refine wpAny_bind (qU hz hT fun r1 g Z1 sz1 e1=>?_)
 have sz1:r1.objs.size=h0.objs.size:=sz1
 have e1:∀(c:Nat) o,c≠n+5->h0.get? c=some o->r1.get? c=some o:=e1
 simp only [List.forIn_toArray,List.forIn_cons,List.forIn_nil,Bool.false_eq_true,if_false]
 refine wpAny_bind (wpAny_bind (wpAny_bind (wpAny_holding ?_)))
 show wpAny _ _ (Builtin.SmallTypes.nextOf (.ref n) >>= _) _ _ ⟨r1,gg,dd,t0,oo⟩
 refine wpAny_bind (fy (q1.at fun o e=>e1 _ o (by omega) e) (t1.at fun o e=>e1 _ o (by omega) e) hx fun r2 q1' m2=>wpAny_pure (wpAny_pure ?_))
 have m2:Heap.SameBut n r1 r2:=m2
 refine wpAny_bind (wpAny_bind (wpAny_holding ?_))
 show wpAny _ _ (Builtin.SmallTypes.nextOf (.ref (n+1)) >>= _) _ _ ⟨r2,gg,dd,t0,oo⟩
 have e2:∀(c:Nat) o,c≠n+5->c≠n->h0.get? c=some o->r2.get? c=some o:=fun c o g g' e=>m2.extBut c o g' (e1 c o g e)
 refine wpAny_bind (fy (q2.at fun o e=>e2 _ o (by omega) (by omega) e) (t2.at fun o e=>e2 _ o (by omega) (by omega) e) hy fun r3 q2' m3=>wpAny_pure (wpAny_pure ?_))
 have m3:Heap.SameBut (n+1) r2 r3:=m3
 refine wpAny_bind (wpAny_bind (wpAny_holding ?_))
 show wpAny _ _ (Builtin.SmallTypes.nextOf (.ref (n+2)) >>= _) _ _ ⟨r3,gg,dd,t0,oo⟩
 have e3:∀(c:Nat) o,c≠n+5->c≠n->c≠n+1->h0.get? c=some o->r3.get? c=some o:=fun c o g g' g2 e=>m3.extBut c o g2 (e2 c o g g' e)
 refine wpAny_bind (fy (q3.at fun o e=>e3 _ o (by omega) (by omega) (by omega) e) (t3.at fun o e=>e3 _ o (by omega) (by omega) (by omega) e) hu fun r4 q3' m4=>wpAny_pure (wpAny_pure (wpAny_pure ?_)))
 have m4:Heap.SameBut (n+2) r3 r4:=m4
 have e4:∀(c:Nat) o,c≠n+5->c≠n->c≠n+1->c≠n+2->h0.get? c=some o->r4.get? c=some o:=fun c o g g' g2 g3 e=>m4.extBut c o g3 (e3 c o g g' g2 e)
 have sz4:r4.objs.size=h0.objs.size:=by rw [m4.1,m3.1,m2.1,sz1]
 refine wpAny_bind (wpAny_newTuple (hsz:=show (3:Nat)<=sizeLine by decide) (wpAny_pure ⟨_,rfl,?_⟩))
 show Q (.ref r4.objs.size) ⟨r4.push { cls:=.type "tuple", data:=.seq #[x,y,u] },gg,dd,t0,oo⟩
 rw [sz4]
 have pu:∀(c:Nat) o,r4.get? c=some o->(r4.push { cls:=.type "tuple", data:=.seq #[x,y,u] }).get? c=some o:=fun c o e=>Heap.get?_push_of_some _ e
 have T5:eI (r4.push { cls:=.type "tuple", data:=.seq #[x,y,u] }) h0.objs.size x y u:=by rw [<- sz4];exact Heap.get?_push_size _ rfl
 refine go _ ⟨b1,b2,b3,?_,pu _ _ (e4 _ _ (by omega) (by omega) (by omega) (by omega) pI),⟨a,b,c,pu _ _ (e4 _ _ (by omega) (by omega) (by omega) (by omega) pO)⟩,⟨?_,?_⟩,⟨?_,?_⟩,⟨?_,?_⟩⟩ T5 ⟨g,?_⟩ (by rw [Heap.size_push,sz4]) fun c o hc e=>pu _ _ (e4 c o (by omega) (by omega) (by omega) (by omega) e)
 ·rw [Heap.size_push,sz4];exact Nat.lt_succ_of_lt szn
 ·exact q1'.at fun o e=>pu _ o (m4.extBut _ _ (by show (n:Nat)≠n+2;omega) (m3.extBut _ _ (by show (n:Nat)≠n+1;omega) e))
 ·exact t1.at fun o e=>pu _ o (e4 _ o (by omega) (by omega) (by omega) (by omega) e)
 ·exact q2'.at fun o e=>pu _ o (m4.extBut _ _ (by show (n+1:Nat)≠n+2;omega) e)
 ·exact t2.at fun o e=>pu _ o (e4 _ o (by omega) (by omega) (by omega) (by omega) e)
 ·exact q3'.at fun o e=>pu _ o e
 ·exact t3.at fun o e=>pu _ o (e4 _ o (by omega) (by omega) (by omega) (by omega) e)
 ·exact pu _ _ (m4.extBut _ _ (by show (n+5:Nat)≠n+2;omega) (m3.extBut _ _ (by show (n+5:Nat)≠n+1;omega) (m2.extBut _ _ (by show (n+5:Nat)≠n;omega) Z1)))
theorem Z3.last {Q:Fin->Shared->Prop} {T:Nat} {oT:Obj} (hh:A.handled=none) (S:Z3 n l1 l2 l3 xs ys ws k s.heap) (hz:fc s.heap n (rawInt T) f1) (hT:s.heap.get? T=some oT) (hx:xs[k]?=none)
  (go:∀h1 e,(∀(c:Nat) o,(c < n\/n+5 < c)->s.heap.get? c=some o->h1.get? c=some o)->(∃o,h1.get? e=some o/\o.cls=.type "StopIteration")->E (.ref e) { s with heap:=h1 }) :
  wpAny (model prog w) A (Builtin.«zip.__next__» ⟨[.ref (n+5)],[]⟩) Q E s:=by
 obtain ⟨b1,b2,b3,sz,pI,⟨a,b,c,pO⟩,⟨q1,t1⟩,⟨q2,t2⟩,⟨q3,t3⟩⟩:=S
 obtain ⟨h0,gg,dd,t0,oo⟩:=s
 show wpAny _ _ (field (.ref (n+5)) 2 >>= _) _ _ ⟨h0,gg,dd,t0,oo⟩
 refine wpAny_bind (wpAny_field hz rfl (x:=Value.bool false) rfl ?_)
 show wpAny _ _ (field (.ref (n+5)) 3 >>= _) _ _ ⟨h0,gg,dd,t0,oo⟩
 refine wpAny_bind (wpAny_field hz rfl (x:=Value.ref (n+3)) rfl (wpAny_bind (wpAny_seqItems pI rfl ?_)))
 show wpAny _ _ (Builtin.SmallTypes.ownedTupleIsFree (.ref (n+5)) >>= _) _ _ ⟨h0,gg,dd,t0,oo⟩
 refine wpAny_bind (qU hz hT fun r1 g Z1 sz1 e1=>?_)
 have e1:∀(c:Nat) o,c≠n+5->h0.get? c=some o->r1.get? c=some o:=e1
 simp only [List.forIn_toArray,List.forIn_cons,List.forIn_nil,Bool.false_eq_true,if_false]
 refine wpAny_bind (wpAny_bind (wpAny_bind (wpAny_holding ?_)))
 show wpAny _ _ (Builtin.SmallTypes.nextOf (.ref n) >>= _) _ _ ⟨r1,gg,dd,t0,oo⟩
 refine wpAny_bind (qt hh (q1.at fun o e=>e1 _ o (by omega) e) (t1.at fun o e=>e1 _ o (by omega) e) hx fun r2 ex m2 he=>?_)
 have m2:Heap.ExtBut n r1 r2:=m2
 exact go r2 ex (fun c o hc e=>m2 c o (by show (c:Nat)≠n;omega) (e1 c o (by omega) e)) he
theorem Z3.pyFirst {Q:Option Value->Shared->Prop} (S:Z3 n l1 l2 l3 xs ys ws k s.heap) (hz:fc s.heap n .none f1) (hx:xs[k]?=some x) (hy:ys[k]?=some y) (hu:ws[k]?=some u)
  (go:∀h1,ye n l1 l2 l3 xs ys ws k x y u s.heap h1->Q (some (.ref s.heap.objs.size)) { s with heap:=h1 }):wpAny (model prog w) A (pyNext (.ref (n+5))) Q E s:=by
 have ty:s.TypeIs (.ref (n+5)) "zip" := ⟨_,hz,rfl⟩
 unfold pyNext
 exact wpAny_bind (wpAny_attempt (wpAny_callSpecial?_slot (name:=Str.ofString "__next__") ty F.slot_zip_next (wpAny_call_entry F.slot_zip_next ty F.entry_zip_next (S.first hz hx hy hu fun h1 a=>wpAny_pure (go h1 a)) (F.args_zip_next_1 _))))
theorem Z3.pyNext {Q:Option Value->Shared->Prop} {T:Nat} {oT:Obj} (S:Z3 n l1 l2 l3 xs ys ws k s.heap) (hz:fc s.heap n (rawInt T) f1) (hT:s.heap.get? T=some oT) (hx:xs[k]?=some x) (hy:ys[k]?=some y) (hu:ws[k]?=some u)
  (go:∀h1,Z3 n l1 l2 l3 xs ys ws (k+1) h1->eI h1 s.heap.objs.size x y u->(∃g,fc h1 n (rawInt T) g)->h1.objs.size=s.heap.objs.size+1->(∀(c:Nat) o,(c < n\/n+5 < c)->s.heap.get? c=some o->h1.get? c=some o)->Q (some (.ref s.heap.objs.size)) { s with heap:=h1 }):wpAny (model prog w) A (PySem.pyNext (.ref (n+5))) Q E s:=by
 have ty:s.TypeIs (.ref (n+5)) "zip" := ⟨_,hz,rfl⟩
 unfold PySem.pyNext
 exact wpAny_bind (wpAny_attempt (wpAny_callSpecial?_slot (name:=Str.ofString "__next__") ty F.slot_zip_next (wpAny_call_entry F.slot_zip_next ty F.entry_zip_next (S.next hz hT hx hy hu fun h1 a b c d e=>wpAny_pure (go h1 a b c d e)) (F.args_zip_next_1 _))))
theorem Z3.pyLast {Q:Option Value->Shared->Prop} {T:Nat} {oT:Obj} (hh:A.handled=none) (S:Z3 n l1 l2 l3 xs ys ws k s.heap) (hz:fc s.heap n (rawInt T) f1) (hT:s.heap.get? T=some oT) (hx:xs[k]?=none)
  (go:∀h1,(∀(c:Nat) o,(c < n\/n+5 < c)->s.heap.get? c=some o->h1.get? c=some o)->Q none { s with heap:=h1 }):wpAny (model prog w) A (PySem.pyNext (.ref (n+5))) Q E s:=by
 have ty:s.TypeIs (.ref (n+5)) "zip" := ⟨_,hz,rfl⟩
 unfold PySem.pyNext
 refine wpAny_bind (wpAny_attempt (wpAny_callSpecial?_slot (name:=Str.ofString "__next__") ty F.slot_zip_next (wpAny_call_entry F.slot_zip_next ty F.entry_zip_next (S.last hh hz hT hx fun h1 e kk he=>?_) (F.args_zip_next_1 _))))
 obtain ⟨oe,ho,hc⟩:=he
 exact wpAny_bind (wpAny_isInstance (T := "StopIteration") (b:=true) ⟨oe,ho,hc⟩ isSubtype_stop (wpAny_pure (go h1 kk)))
end
end Sp
namespace Sp
open PySem PySem.Spec PyProof.Rows L2
open AutoSeq1 (wpAny_loadPart')
theorem DM (a b c:Value):checkTypeCall "zip" ⟨[a,b,c],[]⟩=pure ():=by kernel_rfl
theorem DO (a b c:Value):checkBuiltinCall "zip.__new__" ⟨[.type "zip", a,b,c],[]⟩=pure ():=by kernel_rfl
theorem DP (a b c d:Value):argsOk "object.__init__" ⟨[a,b,c,d],[]⟩:=by
 unfold argsOk
 rw [signature?_of (id := "object.__init__") (n:=['_','_','t','i','n','i','_','_']) (o:=['t','c','e','j','b','o']) (by kernel_rfl) PySem.F.owner_object]
 kernel_rfl
theorem wj:typeLookup (.type "zip") "__len__" = pure none:=by rw [typeLookup_type,builtinLookup_eq_fast];kernel_rfl
theorem uH:typeLookup (.type "zip") "__length_hint__" = pure none:=by rw [typeLookup_type,builtinLookup_eq_fast];kernel_rfl
abbrev y1 (h:Heap) (a:Addr):Heap:=h.push { cls:=.type "tuple_iterator", data:=.fields #[.ref a,.int 0 0] }
abbrev y2 (h:Heap) (a b:Addr):Heap:=(y1 h a).push { cls:=.type "tuple_iterator", data:=.fields #[.ref b,.int 0 0] }
abbrev y3 (h:Heap) (a b c:Addr):Heap:=(y2 h a b).push { cls:=.type "tuple_iterator", data:=.fields #[.ref c,.int 0 0] }
abbrev y4 (h:Heap) (a b c:Addr):Heap:=(y3 h a b c).push { cls:=.type "tuple", data:=.seq #[.ref h.objs.size,.ref (y1 h a).objs.size,.ref (y2 h a b).objs.size] }
abbrev y5 (h:Heap) (a b c:Addr):Heap:=(y4 h a b c).push { cls:=.type "tuple", data:=.seq #[.none,.none,.none] }
abbrev y6 (h:Heap) (a b c:Addr):Heap:=(y5 h a b c).push { cls:=.type "zip", data:=.fields #[.none,.bool false,.bool false,.ref (y3 h a b c).objs.size,.ref (y4 h a b c).objs.size] }
theorem Bf (a b c:Addr) (xs ys ws:Array Value) :
  Meets (Builtin.«zip.__new__» ⟨[.type "zip", .ref a,.ref b,.ref c],[]⟩) (fun _ R s=>s.heap.IsTuple a xs/\s.heap.IsTuple b ys/\s.heap.IsTuple c ws/\R (.ok (.ret (.ref (y5 s.heap a b c).objs.size))) { s with heap:=y6 s.heap a b c }) :=
 .of_wp fun pg wd AA RR st hh=>by
  obtain ⟨hp0,gg,dd,tk0,oo⟩:=st;obtain ⟨ha,hb,hc,hh⟩:=hh
  have hsub0:=sub_zip
  have T1:Heap.IsTuple (Shared.heap ⟨hp0,gg,dd,tk0,oo⟩) a xs:=ha
  have T2:Heap.IsTuple (Shared.heap ⟨hp0.push { cls:=.type "tuple_iterator", data:=.fields #[.ref a,.int 0 0] },gg,dd,tk0,oo⟩) b ys:=hb.at fun o e=>Heap.get?_push_of_some _ e
  have T3:Heap.IsTuple (Shared.heap ⟨(hp0.push { cls:=.type "tuple_iterator", data:=.fields #[.ref a,.int 0 0] }).push { cls:=.type "tuple_iterator", data:=.fields #[.ref b,.int 0 0] },gg,dd,tk0,oo⟩) c ws:=hc.at fun o e=>Heap.get?_push_of_some _ (Heap.get?_push_of_some _ e)
  wp_walk using wpAny_pyIter_tuple T1,wpAny_pyIter_tuple T2,wpAny_pyIter_tuple T3
  exact ⟨_,rfl,hh⟩
section
variable {prog:Program} {w:World} {A:Around} {E:Value->Shared->Prop} {s:Shared}
theorem yg {a b c:Addr} {xs ys ws:Array Value} {Q:Value->Shared->Prop} (ha:s.heap.IsTuple a xs) (hb:s.heap.IsTuple b ys) (hc:s.heap.IsTuple c ws)
  (go:∀h1,Z3 s.heap.objs.size a b c xs ys ws 0 h1->fc h1 s.heap.objs.size .none (.bool false)->h1.objs.size=s.heap.objs.size+6->(∀b o,s.heap.get? b=some o->h1.get? b=some o)->Q (.ref (s.heap.objs.size+5)) { s with heap:=h1 }) :
  wpAny (model prog w) A (call (.type "zip") [.ref a,.ref b,.ref c]) Q E s:=by
 refine callType_new F.called_zip (by decide) (DM _ _ _) (DO _ _ _) (fun ob=>DP ob _ _ _) F.entry_zip_new (Bf a b c xs ys ws) ⟨ha,hb,hc,?_⟩
 have s1:(y1 s.heap a).objs.size=s.heap.objs.size+1:=Heap.size_push ..
 have s2:(y2 s.heap a b).objs.size=s.heap.objs.size+2:=by rw [Heap.size_push,s1]
 have s3:(y3 s.heap a b c).objs.size=s.heap.objs.size+3:=by rw [Heap.size_push,s2]
 have s4:(y4 s.heap a b c).objs.size=s.heap.objs.size+4:=by rw [Heap.size_push,s3]
 have s5:(y5 s.heap a b c).objs.size=s.heap.objs.size+5:=by rw [Heap.size_push,s4]
 have s6:(y6 s.heap a b c).objs.size=s.heap.objs.size+6:=by rw [Heap.size_push,s5]
 have p:∀{h:Heap} {o ob:Obj} {b:Addr},h.get? b=some ob->(h.push o).get? b=some ob:=fun e=>Heap.get?_push_of_some _ e
 have r6:(y6 s.heap a b c).get? (y5 s.heap a b c).objs.size=some _:=Heap.get?_push_size _ rfl
 have r5:(y6 s.heap a b c).get? (y4 s.heap a b c).objs.size=some _:=p (Heap.get?_push_size _ rfl)
 have r4:(y6 s.heap a b c).get? (y3 s.heap a b c).objs.size=some _:=p (p (Heap.get?_push_size _ rfl))
 have r3:(y6 s.heap a b c).get? (y2 s.heap a b).objs.size=some _:=p (p (p (Heap.get?_push_size _ rfl)))
 have r2:(y6 s.heap a b c).get? (y1 s.heap a).objs.size=some _:=p (p (p (p (Heap.get?_push_size _ rfl))))
 have r1:(y6 s.heap a b c).get? s.heap.objs.size=some _:=p (p (p (p (p (Heap.get?_push_size _ rfl)))))
 have up:∀b' o,s.heap.get? b'=some o->(y6 s.heap a b c).get? b'=some o:=fun b' o e=>p (p (p (p (p (p e)))))
 have la:a < s.heap.objs.size:=by obtain ⟨_,e,_⟩:=ha;exact Heap.lt_size e
 have lb:b < s.heap.objs.size:=by obtain ⟨_,e,_⟩:=hb;exact Heap.lt_size e
 have lc:c < s.heap.objs.size:=by obtain ⟨_,e,_⟩:=hc;exact Heap.lt_size e
 rw [s3,s4,s5] at r6
 rw [s4] at r5
 rw [s1,s2,s3] at r4
 rw [s2] at r3
 rw [s1] at r2
 show _/\_
 rw [s5]
 exact ⟨⟨_,r6,rfl⟩,go _ ⟨la,lb,lc,by rw [s6];exact Nat.lt_succ_self _,r4,⟨_,_,_,r5⟩,⟨⟨_,r1,rfl,rfl⟩,ha.at fun o e=>up _ _ e⟩,⟨⟨_,r2,rfl,rfl⟩,hb.at fun o e=>up _ _ e⟩,⟨⟨_,r3,rfl,rfl⟩,hc.at fun o e=>up _ _ e⟩⟩ r6 s6 up⟩
end
end Sp
namespace Sp
open PySem PySem.Spec PyProof.Rows L2
section
variable {prog:Program} {w:World} {A:Around} {E:Value->Shared->Prop} {s:Shared}
abbrev fF (acc:Array Value) (c:Nat):Obj:={ cls:=.type "list", dict:=none,data:=.seq acc c,slots:=#[] }
theorem gO {S I:Addr} {res:Value} {R:Result->Shared->Prop} (h:wpAny (model prog w) A.in1 (pyNext (.ref I)) (fun r s'=>match r with
      | some v => ∃acc c,s'.heap.get? S=some (fF acc c)/\acc.size+1<=sizeLine/\∀h2 c2,h2.get? S=some (fF (acc.push v) c2)->Heap.SameBut S s'.heap h2->codeAny (model prog w) A (.builtin "list.extend.loop" ⟨[.ref S,.ref I,res],[]⟩) R { s' with heap:=h2 }
      | none=>R (.ok (.ret res)) s') (fun e s'=>R (.error e) s') s):codeAny (model prog w) A (.builtin "list.extend.loop" ⟨[.ref S,.ref I,res],[]⟩) R s:=by
  refine codeAny_builtin F.entry_extend_loop ?_
  rw [Around.under_plainId F.plain_extend_loop _]
  show wpAny _ A.in1 (pyNext (.ref I) >>= _) _ _ s
  refine wpAny_bind (wpAny_mono h (fun r s' hr=>?_) fun _ _ z=>z)
  cases r with
  | none=>exact wpAny_pure hr
  | some v =>
    obtain ⟨acc,c,hS,hz,k⟩:=hr
    show wpAny _ A.in1 (updateSeq S (·.push v) >>= _) _ _ _
    refine wpAny_bind (wpAny_updateSeq hS rfl (wpAny_pure ⟨plainId_quiet F.plain_extend_loop _,k _ _ (Heap.get?_update_self _ hS rfl) (Heap.SameBut.update ..)⟩) ?_ ?_)
    . omega
    . show (acc.push v).size<=sizeLine+1
      rw [Array.size_push];omega
theorem Z3.stay {n a b c:Nat} {xs ys ws:Array Value} {k:Nat} {h h':Heap} (Z:Z3 n a b c xs ys ws k h) (e:∀(d:Nat) o,d≠n+6->h.get? d=some o->h'.get? d=some o) (sz:h.objs.size<=h'.objs.size):Z3 n a b c xs ys ws k h':=by
 obtain ⟨b1,b2,b3,s0,ti,⟨p,q,r,to⟩,⟨q1,t1⟩,⟨q2,t2⟩,⟨q3,t3⟩⟩:=Z
 exact ⟨b1,b2,b3,Nat.lt_of_lt_of_le s0 sz,e _ _ (by omega) ti,⟨p,q,r,e _ _ (by omega) to⟩,⟨q1.at fun o x=>e _ o (by omega) x,t1.at fun o x=>e _ o (by omega) x⟩,⟨q2.at fun o x=>e _ o (by omega) x,t2.at fun o x=>e _ o (by omega) x⟩,⟨q3.at fun o x=>e _ o (by omega) x,t3.at fun o x=>e _ o (by omega) x⟩⟩
theorem wW {n a b c:Nat} {x0 x1 x2 y0 y1 y2 u0 u1 u2:Value} {Q:Value->Shared->Prop} (hh:A.handled=none) (Z:Z3 n a b c #[x0,x1,x2] #[y0,y1,y2] #[u0,u1,u2] 0 s.heap) (hz:fc s.heap n .none (.bool false)) (sz:s.heap.objs.size=n+6)
  (go:∀h1 m,h1.get? (n+6)=some (fF #[.ref (n+7),.ref (n+8),.ref (n+9)] m)->eI h1 (n+7) x0 y0 u0->eI h1 (n+8) x1 y1 u1->eI h1 (n+9) x2 y2 u2->(∀(d:Nat) o,d < n->s.heap.get? d=some o->h1.get? d=some o)->Q (.ref (n+6)) { s with heap:=h1 }) :
  wpAny (model prog w) A (call (.type "list") [.ref (n+5)]) Q E s:=by
 obtain ⟨h0,gg,dd,t0,oo⟩:=s
 have sz:h0.objs.size=n+6:=sz
 refine callType_codes (Q₁:=fun ob s₁=>ob=.ref (n+6)/\s₁=⟨h0.push { cls:=.type "list", data:=.seq #[] },gg,dd,t0,oo⟩) F.called_list (F.typeCall_list_1 _) F.entry_list_init (code_list_new _ ⟨by show Value.ref h0.objs.size=_;rw [sz],rfl⟩) fun ob s₁ hq=>?_
 obtain ⟨rfl,rfl⟩:=hq
 have hS:(h0.push { cls:=.type "list", data:=.seq #[] }).get? (n+6)=some (fF #[] 0):=by rw [<- sz];exact Heap.get?_push_size _ rfl
 refine ⟨⟨_,hS,rfl⟩,F.args_list_init_2 _ _,?_⟩
 show wpAny _ A.in1.in1 (Builtin.List.listItems (.ref (n+6)) >>= fun old=>Builtin.List.listUpdate (.ref (n+6)) (fun _ => #[]) >>= fun _=>letGo old.toList.reverse >>= fun _=>Builtin.List.listExtendWith (.ref (n+6)) (.ref (n+5)) .none) _ _ _
 unfold Builtin.List.listItems
 refine wpAny_bind (wpAny_bind (wpAny_seqItems hS rfl (wpAny_pure ?_)))
 show wpAny _ A.in1.in1 (updateSeq (n+6) (fun _ => #[]) >>= _) _ _ _
 refine wpAny_bind (wpAny_updateSeq hS rfl ?_)
 refine wpAny_bind (wpAny_letGo ?_)
 have S1:=Heap.get?_update_self (Obj.mapSeq (fun _=>(#[]:Array Value))) hS rfl
 generalize hr1:(h0.push { cls:=.type "list", data:=.seq #[] }).update (n+6) (Obj.mapSeq fun _=>(#[]:Array Value))=r1 at S1
 have k1:∀(d:Nat) o,d≠n+6->h0.get? d=some o->r1.get? d=some o:=fun d o g e=>by rw [<- hr1];exact (Heap.get?_update_other _ _ (Ne.symm g)).trans (Heap.get?_push_of_some _ e)
 have z1:fc r1 n .none (.bool false):=k1 _ _ (by omega) hz
 have ty:Shared.TypeIs ⟨r1,gg,dd,t0,oo⟩ (.ref (n+5)) "zip" := ⟨_,z1,rfl⟩
 unfold Builtin.List.listExtendWith
 refine wpAny_bind (wpAny_typeOf ty ?_)
 have g1:Builtin.List.listSameRef (.ref (n+6)) (.ref (n+5))=false:=by simp [Builtin.List.listSameRef]
 have g2:(Value.type "zip" == Value.type "list")=false:=by decide
 have g3:(Value.type "zip" == Value.type "tuple")=false:=by decide
 simp only [g1,g2,g3,Bool.or_false,Bool.false_eq_true,if_false]
 refine wpAny_bind (wpAny_pyIter_zip z1 (wpAny_bind (wpAny_holding ?_)))
 unfold Builtin.List.listLengthHint
 refine wpAny_bind (wpAny_specialOf ty wj ?_)
 show wpAny _ _ (specialOf (Value.ref (n+5)) (Str.ofString "__length_hint__") >>= _) _ _ _
 refine wpAny_bind (wpAny_specialOf ty uH (wpAny_pure ?_))
 show wpAny _ _ (rule "list.extend.makes-room" >>= fun _=>Builtin.List.listTouch (.ref (n+6)) >>= fun _=>again (.builtin "list.extend.loop" ⟨[.ref (n+6),.ref (n+5),.none],[]⟩)) _ _ _
 refine wpAny_bind (wpAny_rule (wpAny_bind ?_))
 show wpAny _ _ (updateSeq (n+6) (·.push .none) >>= fun _=>updateSeq (n+6) (·.pop)) _ _ _
 refine wpAny_bind (wpAny_updateSeq S1 rfl ?_)
 have S2:=Heap.get?_update_self (Obj.mapSeq (·.push Value.none)) S1 rfl
 refine wpAny_updateSeq (hz:=by seq_fits) S2 rfl ?_
 have S3:=Heap.get?_update_self (Obj.mapSeq (·.pop)) S2 rfl
 have sr1:r1.objs.size=n+7:=by rw [<- hr1];show (Heap.update _ _ _).objs.size=_;rw [(Heap.SameBut.update ..).1,Heap.size_push,sz]
 generalize hr3:(r1.update (n+6) (Obj.mapSeq (·.push Value.none))).update (n+6) (Obj.mapSeq (·.pop))=r3 at S3
 have S3:∃m,r3.get? (n+6)=some (fF #[] m):=⟨_,S3⟩
 have k3:∀(d:Nat) o,d≠n+6->r1.get? d=some o->r3.get? d=some o:=fun d o g e=>by rw [<- hr3];exact (Heap.get?_update_other _ _ (Ne.symm g)).trans ((Heap.get?_update_other _ _ (Ne.symm g)).trans e)
 have sr3:r3.objs.size=n+7:=by rw [<- hr3,(Heap.SameBut.update ..).1,(Heap.SameBut.update ..).1];exact sr1
 have kk:∀(d:Nat) o,d≠n+6->h0.get? d=some o->r3.get? d=some o:=fun d o g e=>k3 d o g (k1 d o g e)
 have Z0:Z3 n a b c #[x0,x1,x2] #[y0,y1,y2] #[u0,u1,u2] 0 r3:=Z.stay kk (by rw [sr3];show h0.objs.size<=_;omega)
 have z3:fc r3 n .none (.bool false):=kk _ _ (by omega) hz
 clear hr1 hr3 S1 S2
 refine wpAny_pure ⟨plainId_quiet F.plain_extend_loop _,?_⟩
 obtain ⟨m3,S3⟩:=S3
 refine gO (Z3.pyFirst (s:=⟨r3,gg,dd,t0,oo⟩) Z0 z3 rfl rfl rfl fun r4 af=>?_)
 obtain ⟨Z4,T4,⟨g4,z4⟩,w4,e4⟩:=af
 have T4:eI r4 r3.objs.size x0 y0 u0:=T4
 have e4:∀(d:Nat) o,(d < n\/n+5 < d)->r3.get? d=some o->r4.get? d=some o:=e4
 have z4:fc r4 n (rawInt r3.objs.size) g4:=z4
 have w4:r4.objs.size=r3.objs.size+1:=w4
 rw [sr3] at T4 z4 w4
 show ∃acc m,r4.get? (n+6)=some (fF acc m)/\_
 refine ⟨#[],m3,e4 _ _ (by omega) S3,by decide,fun r5 m5 S5 sb5=>?_⟩
 have sb5:Heap.SameBut (n+6) r4 r5:=sb5
 have k5:∀(d:Nat) o,d≠n+6->r4.get? d=some o->r5.get? d=some o:=fun d o g e=>sb5.extBut d o g e
 have w5:r5.objs.size=n+8:=by rw [sb5.1,w4]
 have S5:r5.get? (n+6)=some (fF #[.ref (n+7)] m5):=by rw [S5];show some (fF (#[].push (Value.ref r3.objs.size)) m5)=_;rw [sr3];rfl
 have T5:eI r5 (n+7) x0 y0 u0:=k5 _ _ (by omega) T4
 refine gO (Z3.pyNext (s:=⟨r5,gg,dd,t0,oo⟩) (Z4.stay k5 (by rw [sb5.1];exact Nat.le_refl _)) (k5 _ _ (by omega) z4) T5 rfl rfl rfl fun r6 Z6 T6 z6 w6 e6=>?_)
 obtain ⟨g6,z6⟩:=z6
 have T6:eI r6 r5.objs.size x1 y1 u1:=T6
 have w6:r6.objs.size=r5.objs.size+1:=w6
 have e6:∀(d:Nat) o,(d < n\/n+5 < d)->r5.get? d=some o->r6.get? d=some o:=e6
 rw [w5] at T6 w6
 show ∃acc m,r6.get? (n+6)=some (fF acc m)/\_
 refine ⟨#[.ref (n+7)],m5,e6 _ _ (by omega) S5,by show (2:Nat)<=sizeLine;decide,fun r7 m7 S7 sb7=>?_⟩
 have sb7:Heap.SameBut (n+6) r6 r7:=sb7
 have k7:∀(d:Nat) o,d≠n+6->r6.get? d=some o->r7.get? d=some o:=fun d o g e=>sb7.extBut d o g e
 have w7:r7.objs.size=n+9:=by rw [sb7.1,w6]
 have S7:r7.get? (n+6)=some (fF #[.ref (n+7),.ref (n+8)] m7):=by rw [S7];show some (fF (#[Value.ref (n+7)].push (Value.ref r5.objs.size)) m7)=_;rw [w5];rfl
 have T7:eI r7 (n+7) x0 y0 u0:=k7 _ _ (by omega) (e6 _ _ (by omega) T5)
 have T8:eI r7 (n+8) x1 y1 u1:=k7 _ _ (by omega) T6
 refine gO (Z3.pyNext (s:=⟨r7,gg,dd,t0,oo⟩) (Z6.stay k7 (by rw [sb7.1];exact Nat.le_refl _)) (k7 _ _ (by omega) z6) T7 rfl rfl rfl fun r8 Z8 T9 z8 w8 e8=>?_)
 obtain ⟨g8,z8⟩:=z8
 have T9:eI r8 r7.objs.size x2 y2 u2:=T9
 have w8:r8.objs.size=r7.objs.size+1:=w8
 have e8:∀(d:Nat) o,(d < n\/n+5 < d)->r7.get? d=some o->r8.get? d=some o:=e8
 rw [w7] at T9 w8
 show ∃acc m,r8.get? (n+6)=some (fF acc m)/\_
 refine ⟨#[.ref (n+7),.ref (n+8)],m7,e8 _ _ (by omega) S7,by show (3:Nat)<=sizeLine;decide,fun r9 m9 S9 sb9=>?_⟩
 have sb9:Heap.SameBut (n+6) r8 r9:=sb9
 have k9:∀(d:Nat) o,d≠n+6->r8.get? d=some o->r9.get? d=some o:=fun d o g e=>sb9.extBut d o g e
 have S9:r9.get? (n+6)=some (fF #[.ref (n+7),.ref (n+8),.ref (n+9)] m9):=by rw [S9];show some (fF (#[Value.ref (n+7),Value.ref (n+8)].push (Value.ref r7.objs.size)) m9)=_;rw [w7];rfl
 refine gO (Z3.pyLast (s:=⟨r9,gg,dd,t0,oo⟩) hh (Z8.stay k9 (by rw [sb9.1];exact Nat.le_refl _)) (k9 _ _ (by omega) z8) (k9 _ _ (by omega) (e8 _ _ (by omega) T7)) rfl fun r10 e10=>?_)
 have e10:∀(d:Nat) o,(d < n\/n+5 < d)->r9.get? d=some o->r10.get? d=some o:=e10
 refine ⟨rfl,go r10 m9 (e10 _ _ (by omega) S9) (e10 _ _ (by omega) (k9 _ _ (by omega) (e8 _ _ (by omega) T7))) (e10 _ _ (by omega) (k9 _ _ (by omega) (e8 _ _ (by omega) T8))) (e10 _ _ (by omega) (k9 _ _ (by omega) T9)) fun d o hd e=>?_⟩
 exact e10 _ _ (by omega) (k9 _ _ (by omega) (e8 _ _ (by omega) (k7 _ _ (by omega) (e6 _ _ (by omega) (k5 _ _ (by omega) (e4 _ _ (by omega) (kk _ _ (by omega) e)))))))
end
end Sp
namespace Sp
open PySem PySem.Spec PyProof.Rows L2
variable {X:Cx}
theorem fv {P:Program} {w:World} {H:Hp} {h:Heap} {b:Addr} {o:HO} (x:dA P w H h) (hb:H b=none) (new:cn P w (aN H b o) h b o):dA P w (aN H b o) h:=fun c u e=>by
 by_cases hc:c=b
 ·subst hc;rw [aH] at e;cases e;exact new
 ·rw [ay hc] at e
  exact (x c u e).stay (fun d v _ r=>r) (fun d r=>by rw [ay (bF r hb)];exact r) (fun d xs r=>by rw [ay (bF r hb)];exact r)
theorem kA {fs ex:List Addr} {H H':Hp} {h h':Heap} (k:∀b u,h.get? b=some u->h'.get? b=some u) (hH:∀c,c < h.objs.size->H' c=H c) (hin:∀c o,H c=some o->c < h.objs.size):Un fs ex H H' h h' where
 keep:=fun b u q _ _ _=>k b u q
 slot:=fun b u q _ _ _=>⟨u.slots,k b u q⟩
 free:=fun b u q n _=>(hH b (Heap.lt_size q)).trans n
 there:=fun b u q _=>⟨u,k b u q⟩
 tups:=fun b xs r=>(hH b (hin b _ r)).trans r
 frzs:=fun b o u r=>(hH b (hin b _ r)).trans r
 tbls:=fun b ps r=>⟨#[],by rw [Array.append_empty];exact (hH b (hin b _ r)).trans r⟩
theorem pV {a b c:V} {us:List Value} (h:aK [a,b,c] us):∃x y z,us=[x,y,z]/\aT a x/\aT b y/\aT c z:=by
 cases h with
 | cons h1 h=>cases h with
  | cons h2 h=>cases h with
   | cons h3 h=>cases h;exact ⟨_,_,_,rfl,h1,h2,h3⟩
theorem pX {K:W.Frag} {H:Hp} {P:bz} {a b c:D} {vs:List V} (h:ai K H P [a,b,c] vs):∃x y z,vs=[x,y,z]/\al K H P a x/\al K H P b y/\al K H P c z:=by
 rw [ai] at h
 obtain ⟨x,r,rfl,h1,h⟩:=h
 rw [ai] at h
 obtain ⟨y,r,rfl,h2,h⟩:=h
 rw [ai] at h
 obtain ⟨z,r,rfl,h3,h⟩:=h
 rw [ai] at h
 subst h
 exact ⟨x,y,z,rfl,h1,h2,h3⟩
theorem J5 {ρ:ak} {e1 e2 e3:Expr} {f g:Str} {p q r t:Pos} {x0 x1 x2 y0 y1 y2 u0 u1 u2:D} {k:Nat} (hc:X.calm=true) (hf:f = "list") (hg:g = "zip") (gf:Gl X f) (gg:Gl X g) (mf:X.mg f=none) (mg:X.mg g=none)
  (h:AD X ρ [e1,e2,e3] [.tup [x0,x1,x2],.tup [y0,y1,y2],.tup [u0,u1,u2]] k) (hst:∀e∈[e1,e2,e3],∀x p,e ≠ .Starred x p) (fl:ax [x0,x1,x2,y0,y1,y2,u0,u1,u2]=true) :
  ED X ρ (.Call (.Name f p) [.Call (.Name g q) [e1,e2,e3] [] r] [] t) (.lst [.tup [x0,y0,u0],.tup [x1,y1,u1],.tup [x2,y2,u2]]) 0:=by
 intro ow pins s σ H Q I ⟨E,qq⟩
 subst hf hg
 refine wpAny_Call_Name_kw (dl I gf mf (u:=.type "list") (by decide +kernel) ?_ (by decide +kernel) (by decide +kernel))
 refine PyProof.Rows.callWith_type1 (Calls.spliced_cons (wpAny_Call_Name_kw (dl I gg mg (u:=.type "zip") (by decide +kernel) ?_ (by decide +kernel) (by decide +kernel)))) rfl rfl
 have n1:=aV (env:=X.env) (es:=[e2,e3]) (hst e1 List.mem_cons_self)
 have n2:(backTo r (starEach [e2,e3] X.env)).any (·.1)=false:=bK fun x hx=>hst x (List.mem_cons_of_mem _ hx)
 refine PyProof.Rows.callWith_type1 (aR (h ow r pins s σ H _ I ⟨E,fun vs H1 s1 r1=>(show (fun vs H1=>aA H H1/\ai X.K H1 (Kp ow H k) [.tup [x0,x1,x2],.tup [y0,y1,y2],.tup [u0,u1,u2]] vs) vs H1 from ⟨s1,r1⟩)⟩) fun us s1 ⟨vs,H1,I1,rv,sm,rp⟩=>?_) n1 n2
 obtain ⟨v1,v2,v3,rfl,r1,r2,r3⟩:=pX rp
 obtain ⟨w1,w2,w3,rfl,q1,q2,q3⟩:=pV rv
 rw [al] at r1
 rw [al] at r2
 rw [al] at r3
 obtain ⟨a,va,rfl,sa,ra⟩:=r1
 obtain ⟨b,vb,rfl,sb,rb⟩:=r2
 obtain ⟨c,vc,rfl,sc,rc⟩:=r3
 cases (show w1=Value.ref a from q1)
 cases (show w2=Value.ref b from q2)
 cases (show w3=Value.ref c from q3)
 obtain ⟨a0,a1,a2,rfl,ra0,ra1,ra2⟩:=pX ra
 obtain ⟨b0,b1,b2,rfl,rb0,rb1,rb2⟩:=pX rb
 obtain ⟨c0,c1,c2,rfl,rc0,rc1,rc2⟩:=pX rc
 obtain ⟨ia,va,ta,_⟩:=I1.tuple sa
 obtain ⟨ib,vb,tb,_⟩:=I1.tuple sb
 obtain ⟨ic,vc,tc,_⟩:=I1.tuple sc
 obtain ⟨i0,i1,i2,rfl,ja0,ja1,ja2⟩:=pV va
 obtain ⟨k0,k1,k2,rfl,jb0,jb1,jb2⟩:=pV vb
 obtain ⟨m0,m1,m2,rfl,jc0,jc1,jc2⟩:=pV vc
 have isT:∀{h:Heap} {a:Addr} {xs:Array Value},IsTup h a xs->h.IsTuple a xs:=fun ⟨o,e,c,n,d⟩=>⟨o,e,c,n,d⟩
 have hh:X.A.handled=none:=I.ok.hd hc
 refine yg (isT ta) (isT tb) (isT tc) fun h2 Z z sz kp=>?_
 refine Calls.spliced_nil ?_
 refine wW (s:={ s1 with heap:=h2 }) hh Z z sz fun h3 m S3 T0 T1 T2 kp2=>?_
 have kk:∀b o,s1.heap.get? b=some o->h3.get? b=some o:=fun b o e=>kp2 b o (Heap.lt_size e) (kp b o e)
 have fr:∀j:Nat,H1 (s1.heap.objs.size+j)=none:=fun j=>I1.hok.fresh (Nat.le_add_right _ _)
 obtain ⟨hp,gs,dr,tk,os⟩:=s1
 have kk:∀b o,hp.get? b=some o->h3.get? b=some o:=kk
 generalize hn:hp.objs.size=n at *
 have ob:∀{H:Hp} {a:Addr} {v1 v2 v3:V} {w1 w2 w3:Value},aT v1 w1->aT v2 w2->aT v3 w3->eI h3 a w1 w2 w3->cn X.prog X.w H h3 a (.tup [v1,v2,v3]):=fun r1 r2 r3 e=>⟨by show (3:Nat)<=sizeLine;decide,[_,_,_],.cons r1 (.cons r2 (.cons r3 .nil)),_,e,rfl,_,rfl⟩
 have ne:∀{i j:Nat},i≠j->n+i≠n+j:=fun h=>by omega
 have hk0:dA X.prog X.w H1 h3:=I1.hok.kept kk
 have hk1:=fv hk0 (fr 7) (ob (H:=aN H1 (n+7) (.tup [a0,b0,c0])) ja0 jb0 jc0 T0)
 have hk2:=fv hk1 (b:=n+8) (by rw [ay (ne (by decide))];exact fr 8) (ob (H:=aN (aN H1 (n+7) (.tup [a0,b0,c0])) (n+8) (.tup [a1,b1,c1])) ja1 jb1 jc1 T1)
 have hk3:=fv hk2 (b:=n+9) (by rw [ay (ne (by decide)),ay (ne (by decide))];exact fr 9) (ob (H:=aN (aN (aN H1 (n+7) (.tup [a0,b0,c0])) (n+8) (.tup [a1,b1,c1])) (n+9) (.tup [a2,b2,c2])) ja2 jb2 jc2 T2)
 have hk4:=fv hk3 (b:=n+6) (o:=.lst [.ref (n+7),.ref (n+8),.ref (n+9)]) (by rw [ay (ne (by decide)),ay (ne (by decide)),ay (ne (by decide))];exact fr 6) ⟨by show (3:Nat)<=sizeLine;decide,[_,_,_],m,.cons rfl (.cons rfl (.cons rfl .nil)),S3⟩
 generalize hH:aN (aN (aN (aN H1 (n+7) (.tup [a0,b0,c0])) (n+8) (.tup [a1,b1,c1])) (n+9) (.tup [a2,b2,c2])) (n+6) (.lst [.ref (n+7),.ref (n+8),.ref (n+9)])=H4 at hk4
 have g6:H4 (n+6)=some (.lst [.ref (n+7),.ref (n+8),.ref (n+9)]):=by rw [<- hH];exact aH
 have g9:H4 (n+9)=some (.tup [a2,b2,c2]):=by rw [<- hH,ay (ne (by decide))];exact aH
 have g8:H4 (n+8)=some (.tup [a1,b1,c1]):=by rw [<- hH,ay (ne (by decide)),ay (ne (by decide))];exact aH
 have g7:H4 (n+7)=some (.tup [a0,b0,c0]):=by rw [<- hH,ay (ne (by decide)),ay (ne (by decide)),ay (ne (by decide))];exact aH
 have old:∀c:Nat,c < n->H4 c=H1 c:=fun c hc=>by rw [<- hH,ay (by show (c:Nat)≠n+6;omega),ay (by show (c:Nat)≠n+9;omega),ay (by show (c:Nat)≠n+8;omega),ay (by show (c:Nat)≠n+7;omega)]
 have inn:∀(c:Nat) o,H1 c=some o->c < n:=fun c o e=>by
  rcases Nat.lt_or_ge c n with z|z
  ·exact z
  ·have:=fr (c - n);rw [Nat.add_sub_cancel' z] at this;rw [this] at e;cases e
 have s4:aA H1 H4:=fun c o e=>(old c (inn c o e)).trans e
 have I4:Inv X pins σ H4 ⟨h3,gs,dr,tk,os⟩:=I1.un (t':=tk) (kA kk (fun c hc=>old c (by rw [<- hn];exact hc)) fun c o e=>by rw [hn];exact inn c o e) hk4
 refine ⟨.ref (n+6),H4,I4,rfl,qq _ H4 (sm.trans s4) ?_⟩
 simp only [ax,Bool.and_eq_true,Bool.true_and,and_true] at fl
 obtain ⟨fx0,fx1,fx2,fy0,fy1,fy2,fu0,fu1,fu2⟩:=fl
 have rt:∀{a:Addr} {v1 v2 v3:V} {d1 d2 d3:D} {P P':bz},H4 a=some (.tup [v1,v2,v3])->al X.K H1 P d1 v1->al X.K H1 P d2 v2->al X.K H1 P d3 v3->d1.lless=true->d2.lless=true->d3.lless=true->al X.K H4 P' (.tup [d1,d2,d3]) (.ref a):=fun e r1 r2 r3 f1 f2 f3=>by
  rw [al]
  exact ⟨_,_,rfl,cm.of e,ai.cons ((r1.same s4).flat _ f1) (ai.cons ((r2.same s4).flat _ f2) (ai.cons ((r3.same s4).flat _ f3) ai.nil))⟩
 rw [al]
 exact ⟨n+6,_,true,rfl,g6,⟨rfl,sm.free (fr 6)⟩,ai.cons (rt g7 ra0 rb0 rc0 fx0 fy0 fu0) (ai.cons (rt g8 ra1 rb1 rc1 fx1 fy1 fu1) (ai.cons (rt g9 ra2 rb2 rc2 fx2 fy2 fu2) ai.nil))⟩
theorem nQ {Φ:Fx} {sc:Scope} {H0:Hp} {fl:Fl} {rest:List Stmt} (G:aW Φ X sc) (hp:PassesOwn (model X.prog X.w) X.A X.env X.xe):∀{pre:List Stmt} {ρ ρ1:ak},ag (aD Φ pre sc ρ) (.nx ρ1)->fC X H0 ρ1 rest fl->fC X H0 ρ (pre++rest) fl
 | [],ρ,ρ1,h,k=>by cases aL h;exact k
 | st::ss,ρ,ρ1,h,k=>by
  obtain ⟨f1,h1,h2⟩:=av (show ag (Rs.bnd _ _) _ from h)
  cases f1 with
  | nx ρ'=>exact jj ((mH Φ _).s st (Nat.lt_succ_self _) h1 G hp) (nQ G hp h2 k)
  | rt d=>cases aL h2
  | bk ρ'=>cases aL h2
  | ct ρ'=>cases aL h2
def DQ (ds:List D):Rs D :=
 match ds with
 | [.tup [x0,x1,x2],.tup [y0,y1,y2],.tup [u0,u1,u2]]=>.ok (.lst [.tup [x0,y0,u0],.tup [x1,y1,u1],.tup [x2,y2,u2]]) [ax [x0,x1,x2,y0,y1,y2,u0,u1,u2]=true]
 | _=>.st
def FN:Stmt->List Expr
 | .Assign _ (.Call _ [.Call _ es _ _] _ _) _=>es
 | _=>[]
def FM:Stmt->Str
 | .Assign [.Name x _] _ _=>x
 | _ => ""
def jn (Φ:Fx) (sc:Scope) (ps:List Str) (pre:List Stmt) (es:List Expr) (x:Str) (post:List Stmt) (ds:List D):Rs D :=
 if ds.length=ps.length then (aD Φ pre sc (eh ps ds)).bnd fun
  | .nx ρ1=>(cf Φ es sc ρ1).bnd fun q=>(DQ q.1).bnd fun d=>(aD Φ post sc (bI ρ1 x (d,true))).bnd fun
   | .rt r=>.ok r []
   | _=>.st
  | _=>.st
 else .st
theorem Db {P:Program} {w:World} {K:W.Frag} {mg:Str->Option Value} {base:Heap} {k:Nat} {g qual:Str} {st:Stmt} {f:Addr} {fd:FuncData} {ps:List Str} {Φ:Fx} {pre post:List Stmt} {x n1 n2:Str} {e1 e2 e3:Expr} {p pf pg rr t q:Pos} (Fn:jg K g qual st f fd)
  (S:aF (aw (ae st)) ps (ae st)) (hΦ:lC P w K mg base k Φ) (hb:ao st=pre ++ .Assign [.Name x p] (.Call (.Name n1 pf) [.Call (.Name n2 pg) [e1,e2,e3] [] rr] [] t) q::post) (hn1:n1 = "list") (hn2:n2 = "zip")
  (gf:(ae st).names.lookup n1=some .globalImplicit) (gg:(ae st).names.lookup n2=some .globalImplicit) (hx:c9 (ae st) x=true):bS P w K mg base dM (k+1) f fd ps (jC K (jn Φ (ae st) ps pre [e1,e2,e3] x post)):=by
 refine Fn.ok S (fun vs H Q E h=>?_) (fun cdv A outer s H vs Q E hr h=>?_)
 ·obtain ⟨ds,r,l,h1,h2,hp,_⟩:=h
  unfold jn at h2
  split at h2
  ·rename_i hl;rw [<- h1.length];exact hl
  ·cases h2
 ·obtain ⟨ds,r,l,h1,h2,hp,qq⟩:=h
  have h2:ag (jn Φ (ae st) ps pre [e1,e2,e3] x post ds) r:=⟨l,h2,hp⟩
  unfold jn at h2
  split at h2
  ·rename_i hl
   have G:=iZ (outer:=outer) (H:=H) (E:=E) S hΦ hr
   obtain ⟨E0,hsl⟩:=j9 (P:=P) (w:=w) (mg:=mg) (base:=base) (qual:=qual) (f:=f) (cdv:=cdv) (A:=A) (outer:=outer) (s:=s) (E:=E) S h1 hl
   have B0:dm H (fun _=>none) H:=fun a o h=>⟨h,rfl⟩
   obtain ⟨fl,h3,h4⟩:=av h2
   cases fl with
   | nx ρ1 =>
    obtain ⟨qv,h5,h6⟩:=av h4
    obtain ⟨d,h7,h8⟩:=av h6
    obtain ⟨fl,h9,h10⟩:=av h8
    cases fl with
    | rt d' =>
     cases aL h10
     obtain ⟨qs,qk⟩:=qv
     obtain ⟨lz,h7,p7⟩:=h7
     unfold DQ at h7
     split at h7
     ·rename_i x0 x1 x2 y0 y1 y2 u0 u1 u2 heq
      cases h7
      have heq:qs=_:=heq
      subst heq
      obtain ⟨l5,h5,p5⟩:=h5
      obtain ⟨hst,_⟩:=cv h5 p5
      have ad:=gu [e1,e2,e3] h5 p5 G
      have ed:=J5 (p:=pf) (q:=pg) (r:=rr) (t:=t) G.calm hn1 hn2 (G.gl n1 gf) (G.gl n2 gg) (by subst hn1;exact G.bl _ (by decide +kernel)) (by subst hn2;exact G.bl _ (by decide +kernel)) ad hst p7.1
      have sd:=jQ (p:=p) (pos:=q) (H0:=H) G hx ed (.inl ⟨rfl,rfl⟩) (gc rfl)
      rw [hb]
      exact ⟨_,nQ G PassesOwn.never h3 (jj sd (mS post (H0:=H) h9 G PassesOwn.never)),fun _=>none,E0,hsl,B0,fun v H' sm rp=>qq v H' sm rp⟩
     ·cases h7
    | nx _=>exact (au h10).elim
    | bk _=>exact (au h10).elim
    | ct _=>exact (au h10).elim
   | rt _=>exact (au h4).elim
   | bk _=>exact (au h4).elim
   | ct _=>exact (au h4).elim
  ·exact (au h2).elim
theorem xq {P:Program} {w:World} {K:W.Frag} {mg:Str->Option Value} {base:Heap} {k:Nat} {g:Str} {f:Addr} {fd:FuncData} {ps:List Str} {F:List D->Rs D} (h:bS P w K mg base dM k f fd ps (jC K F)) (hm:mg g=some (.ref f)) (hk:W.keepIn K (.ref f)=true) (hb:cE K fd ps []) (hd:(g==("__debug__" : Str))=false):cx P w K mg base k g F :=
 ⟨f,fd,ps,h,hm,hk,hb,hd⟩
theorem Fr {Φ:Fx} {sc:Scope} {ps:List Str} {pre post:List Stmt} {es:List Expr} {x:Str} {ds qs:List D} {k:Nat} {ρ1:ak} {d r:D} (hl:ds.length=ps.length) (h1:ag (aD Φ pre sc (eh ps ds)) (.nx ρ1)) (h2:ag (cf Φ es sc ρ1) (qs,k)) (h3:ag (DQ qs) d) (h4:ag (aD Φ post sc (bI ρ1 x (d,true))) (.rt r)):ag (jn Φ sc ps pre es x post ds) r:=by
 unfold jn
 rw [if_pos hl]
 exact ag.bnd h1 (ag.bnd h2 (ag.bnd h3 (ag.bnd h4 ⟨[],rfl,True.intro⟩)))
end Sp
namespace K
open PySem PySem.Spec PyProof.Rows L2 Sp Qm
structure T9 where
 n:Int
 a:Int
 b:Int
 c:Int
 d:Int
 e:Int
 f:Int
 g:Int
 h:Int
 i:Int
def T9.l (T:T9):List Int:=[T.n,T.a,T.b,T.c,T.d,T.e,T.f,T.g,T.h,T.i]
def T9.D (T:T9):D:=.tup [.int T.n,.tup [d3 T.a T.b T.c,d3 T.d T.e T.f,d3 T.g T.h T.i]]
def T9.map (f:Int->Int) (T:T9):T9:=⟨f T.n,f T.a,f T.b,f T.c,f T.d,f T.e,f T.f,f T.g,f T.h,f T.i⟩
theorem T9.l_map (f:Int->Int) (T:T9):(T.map f).l=T.l.map f:=rfl
def T9.low (T:T9):T9:=T.map fun x=>x.fdiv (gI T.l)
def T9.bh (A B:T9):T9:=⟨A.n*B.n,be A.a A.d A.g B.a B.b B.c,be A.b A.e A.h B.a B.b B.c,be A.c A.f A.i B.a B.b B.c,be A.a A.d A.g B.d B.e B.f,be A.b A.e A.h B.d B.e B.f,be A.c A.f A.i B.d B.e B.f,be A.a A.d A.g B.g B.h B.i,be A.b A.e A.h B.g B.h B.i,be A.c A.f A.i B.g B.h B.i⟩
theorem T9.ext {A B:T9} (h:A.l=B.l):A=B:=by
 cases A;cases B
 simp only [T9.l,List.cons.injEq,and_true] at h
 obtain ⟨h0,h1,h2,h3,h4,h5,h6,h7,h8,h9⟩:=h
 subst h0 h1 h2 h3 h4 h5 h6 h7 h8 h9
 rfl
theorem T9.bh_l (c:Int) (A B:T9):(A.map (c * ·)).bh B=(A.bh B).map (c * ·):=by
 unfold T9.bh T9.map be
 congr 1 <;> grind
theorem T9.bh_r (c:Int) (A B:T9):A.bh (B.map (c * ·))=(A.bh B).map (c * ·):=by
 unfold T9.bh T9.map be
 congr 1 <;> grind
theorem T9.mem_n (T:T9):T.n∈T.l:=by simp [T9.l]
theorem T9.gpos {T:T9} (h:0 < T.n):0 < gI T.l:=mO T.mem_n (by omega)
theorem T9.cut {T:T9} (h:0 < T.n):T=T.low.map (gI T.l * ·):=by
 have k:=fun m hm=>i6 (m:=m) T.mem_n (show T.n≠0 by omega) hm
 apply T9.ext
 show T.l=(T.low.map (gI T.l * ·)).l
 rw [T9.l_map,T9.low,T9.l_map,List.map_map]
 conv=>lhs;rw [<- List.map_id T.l]
 exact List.map_congr_left fun m hm=>k m hm
theorem T9.lown {T:T9} (h:0 < T.n):0 < T.low.n:=zi (T9.gpos h) h (i6 T.mem_n (by omega) T.mem_n)
theorem T9.low_mul {c:Int} (hc:0 < c) {T:T9} (h:0 < T.n):(T.map (c * ·)).low=T.low:=by
 have g:=T9.gpos h
 unfold T9.low
 rw [T9.l_map,rK hc]
 unfold T9.map
 simp only [vH hc g]
theorem T9.bhn {A B:T9} (ha:0 < A.n) (hb:0 < B.n):0 < (A.bh B).n:=Int.mul_pos ha hb
theorem T9.low_l {A B:T9} (ha:0 < A.n) (hb:0 < B.n):(A.low.bh B).low=(A.bh B).low:=by
 have e:A.bh B=(A.low.bh B).map (gI A.l * ·):=by rw [<- T9.bh_l,<- T9.cut ha]
 rw [e,T9.low_mul (T9.gpos ha) (T9.bhn (T9.lown ha) hb)]
theorem T9.low_r {A B:T9} (ha:0 < A.n) (hb:0 < B.n):(A.bh B.low).low=(A.bh B).low:=by
 have e:A.bh B=(A.bh B.low).map (gI B.l * ·):=by rw [<- T9.bh_r,<- T9.cut hb]
 rw [e,T9.low_mul (T9.gpos hb) (T9.bhn ha (T9.lown hb))]
def T9.bd (k:Nat) (T:T9):Prop:=∀x∈T.l,x.natAbs<=2 ^ k
theorem T9.bd_low {T:T9} {k:Nat} (h:0 < T.n) (b:T.bd k):T.low.bd k:=by
 intro x hx
 rw [T9.low,T9.l_map] at hx
 obtain ⟨y,hy,rfl⟩:=List.mem_map.mp hx
 exact Nat.le_trans (oA (T9.gpos h)) (b y hy)
theorem T9.bd_bh {A B:T9} {k m:Nat} (ha:A.bd k) (hb:B.bd m):(A.bh B).bd (k+m+2):=by
 have a:=fun x (h:x∈A.l)=>ha x h
 have b:=fun x (h:x∈B.l)=>hb x h
 intro x hx
 simp only [T9.l,T9.bh,List.mem_cons,List.not_mem_nil,or_false] at hx
 rcases hx with rfl|rfl|rfl|rfl|rfl|rfl|rfl|rfl|rfl|rfl
 ·rw [Int.natAbs_mul]
  exact Nat.le_trans (Nat.mul_le_mul (a _ A.mem_n) (b _ B.mem_n)) (by rw [<- Nat.pow_add];exact Nat.pow_le_pow_right (by decide) (by omega))
 all_goals exact GS (a _ (by simp [T9.l])) (a _ (by simp [T9.l])) (a _ (by simp [T9.l])) (b _ (by simp [T9.l])) (b _ (by simp [T9.l])) (b _ (by simp [T9.l]))
theorem T9.okT {T:T9} {k:Nat} (hk:k<=999) (b:T.bd k):okT (T.l.map D.int):=mw (k:=k) hk (Nat.le_of_ble_eq_true rfl) b
theorem T9.eqD (T:T9):Sp.eqD T.D T.D=true:=by
 unfold T9.D
 show ((_==_&&(((_==_&&(_==_&&(_==_&&true)))&&((_==_&&(_==_&&(_==_&&true)))&&((_==_&&(_==_&&(_==_&&true)))&&true)))&&true)):Bool)=true
 simp
theorem oM {c x y:Int} (hc:0 < c) (h:c*x=c*y):x=y:=Int.eq_of_mul_eq_mul_left (by omega) h
end K
namespace K
open PySem L2 Sp Qm
def tq (q:Qd):T9:=⟨n4 q.1 q.2.1 q.2.2.1 q.2.2.2,cQ q.1 q.2.1 q.2.2.1 q.2.2.2,cO q.1 q.2.1 q.2.2.1 q.2.2.2,cN q.1 q.2.1 q.2.2.1 q.2.2.2,cI q.1 q.2.1 q.2.2.1 q.2.2.2,cM q.1 q.2.1 q.2.2.1 q.2.2.2,cH q.1 q.2.1 q.2.2.1 q.2.2.2,cG q.1 q.2.1 q.2.2.1 q.2.2.2,cF q.1 q.2.1 q.2.2.1 q.2.2.2,cK q.1 q.2.1 q.2.2.1 q.2.2.2⟩
theorem wt (p q:Qd):tq (bJ p q)=(tq q).bh (tq p):=by
 obtain ⟨a,b,c,d⟩:=p
 obtain ⟨e,f,g,h⟩:=q
 unfold tq T9.bh
 simp only [bJ,n4,cQ,cO,cN,cI,cM,cH,cG,cF,cK,be]
 congr 1 <;> grind
theorem kC (k:Int) (q:Qd):tq (k*q.1,k*q.2.1,k*q.2.2.1,k*q.2.2.2)=(tq q).map (k*k * ·):=by
 obtain ⟨a,b,c,d⟩:=q
 unfold tq T9.map
 simp only [n4,cQ,cO,cN,cI,cM,cH,cG,cF,cK]
 congr 1 <;> grind
def kq (k:Int) (q:Qd):Qd:=(k*q.1,k*q.2.1,k*q.2.2.1,k*q.2.2.2)
def ff (q:Qd):Prop:=¬ (q.1=0/\q.2.1=0/\q.2.2.1=0/\q.2.2.2=0)
theorem cJ {q:Qd} (h:ff q):0 < (tq q).n:=qW h
theorem qN {p q:Qd} (hp:ff p) (hq:ff q):ff (bJ p q):=fun z=>by
 have e:=congrArg T9.n (wt p q)
 have k:(tq (bJ p q)).n=0:=by
  obtain ⟨z1,z2,z3,z4⟩:=z
  show n4 (bJ p q).1 (bJ p q).2.1 (bJ p q).2.2.1 (bJ p q).2.2.2=0
  rw [z1,z2,z3,z4];rfl
 rw [k] at e
 have:0 < (tq q).n*(tq p).n:=Int.mul_pos (cJ hq) (cJ hp)
 exact absurd (show (tq q).n*(tq p).n=0 from e.symm) (by omega)
theorem Cr (q:Qd):bJ q (1,0,0,0)=q/\bJ (1,0,0,0) q=q:=by
 obtain ⟨a,b,c,d⟩:=q
 unfold bJ
 constructor <;> refine EB ?_ ?_ ?_ ?_ <;> simp only <;> grind
def T9.dx (T:T9) (x y z:Int):Int:=be T.a T.b T.c x y z
def T9.dy (T:T9) (x y z:Int):Int:=be T.d T.e T.f x y z
def T9.dz (T:T9) (x y z:Int):Int:=be T.g T.h T.i x y z
theorem JG (c:Int) (T:T9) (x y z:Int):(T.map (c * ·)).dx x y z=c*T.dx x y z/\(T.map (c * ·)).dy x y z=c*T.dy x y z/\(T.map (c * ·)).dz x y z=c*T.dz x y z:=by
 unfold T9.dx T9.dy T9.dz T9.map
 simp only [be]
 refine ⟨?_,?_,?_⟩ <;> grind
end K
namespace Sp
open PySem PySem.Spec PyProof.Rows L2
variable {X:Cx}
theorem zk {ow:Ow} {H:Hp} {σ:L2.St} {ρ:ak} (E:aO X ow H σ ρ):aO X (fun _=>none) H σ (eT ρ):=⟨fun x d o h=>by
 unfold eT at h
 cases e:ρ x with
 | none=>rw [e] at h;cases h
 | some p =>
  rw [e] at h
  obtain ⟨i,v,e1,e2,e3,e4⟩:=E.get x p.1 p.2 (by rw [e])
  cases h
  exact ⟨i,v,e1,e2,e3,e4.imp fun _ _ _ _=>rfl⟩,fun a ha=>absurd rfl ha⟩
end Sp
namespace K
open PySem L2 Sp Qm
section
variable {Φ:Fx} {sc:Scope} {ρ ρ1:ak} {ss:List Stmt}
theorem FE {s:Stmt} {P Q:ak->Prop} (h:∃ρ1,ag (dS Φ s sc ρ) (.nx ρ1)/\P ρ1) (k:∀ρ1,P ρ1->∃ρ2,ag (aD Φ ss sc ρ1) (.nx ρ2)/\Q ρ2):∃ρ2,ag (aD Φ (s::ss) sc ρ) (.nx ρ2)/\Q ρ2:=by
 obtain ⟨ρ1,h1,h2⟩:=h
 obtain ⟨ρ2,h3,h4⟩:=k ρ1 h2
 exact ⟨ρ2,aJ h1 h3,h4⟩
theorem Jq {s:Stmt} {Q:ak->Prop} (h:ag (dS Φ s sc ρ) (.nx ρ1)) (k:∃ρ2,ag (aD Φ ss sc ρ1) (.nx ρ2)/\Q ρ2):∃ρ2,ag (aD Φ (s::ss) sc ρ) (.nx ρ2)/\Q ρ2:=by
 obtain ⟨ρ2,h3,h4⟩:=k
 exact ⟨ρ2,aJ h h3,h4⟩
theorem BQ {l:List (Str×D×Bool)} {ρ:ak} (s:Sub (bx l) ρ):Sub (bx (l.map fun p=>(p.1,p.2.1,false))) (eT ρ):=by
 have key:∀(l:List (Str×D×Bool)) z,bx (l.map fun p=>(p.1,p.2.1,false)) z=(bx l z).map fun p=>(p.1,false):=by
  intro l z
  induction l with
  | nil=>rfl
  | cons p l ih =>
   show (if z=p.1 then _ else _)=((if z=p.1 then _ else _:Option (D×Bool))).map _
   by_cases h:z=p.1
   ·rw [if_pos h,if_pos h];rfl
   ·rw [if_neg h,if_neg h];exact ih
 intro z w e
 rw [key] at e
 unfold eT
 cases h:bx l z with
 | none=>rw [h] at e;cases e
 | some y=>rw [h] at e;rw [s z y h];exact e
end
end K
namespace K
open PySem L2 Sp Qm
abbrev V3:=Int×Int×Int
abbrev dv (v:V3):D:=d3 v.1 v.2.1 v.2.2
def pr (p:Nat) (v:V3):Int:=match p with
 | 0=>v.1
 | 1=>v.2.1
 | _=>v.2.2
theorem Ay {p:Nat} (hp:p < 3) (v:V3):L2.atI [.int v.1,.int v.2.1,.int v.2.2] (p:Int)=some (D.int (pr p v)):=by
 match p,hp with
 | 0,_=>rfl
 | 1,_=>rfl
 | 2,_=>rfl
def sb (u v:V3) (k:Int):V3:=(u.1 - v.1*k,u.2.1 - v.2.1*k,u.2.2 - v.2.2*k)
theorem jo (p:Nat) (u v:V3) (k:Int):pr p (sb u v k)=pr p u - pr p v*k:=by
 unfold pr sb;split <;> rfl
structure Sg (P:V3->Prop):Prop where
 zero:P (0,0,0)
 step:∀u v k,P u->P v->P (sb u v k)
theorem Sg.back {P:V3->Prop} (h:Sg P) {u v:V3} {k:Int} (h1:P (sb u v k)) (h2:P v):P u:=by
 have:=h.step _ v (-k) h1 h2
 have e:sb (sb u v k) v (-k)=u:=by
  obtain ⟨a,b,c⟩:=u
  simp only [sb,Prod.mk.injEq]
  refine ⟨by grind,by grind,by grind⟩
 rwa [e] at this
def cw (B:Nat) (v:V3):Prop:=∀p,(pr p v).natAbs<=2 ^ B
theorem cw.all {B:Nat} {v:V3} (h:cw B v):v.1.natAbs<=2 ^ B/\v.2.1.natAbs<=2 ^ B/\v.2.2.natAbs<=2 ^ B:=⟨h 0,h 1,h 2⟩
theorem cT {B:Nat} {v:V3} (h:v.1.natAbs<=2 ^ B/\v.2.1.natAbs<=2 ^ B/\v.2.2.natAbs<=2 ^ B):cw B v:=fun p=>by
 unfold pr;split
 ·exact h.1
 ·exact h.2.1
 ·exact h.2.2
theorem cw.mono {B C:Nat} {v:V3} (h:cw B v) (g:B<=C):cw C v:=fun p=>Nat.le_trans (h p) (Nat.pow_le_pow_right (by decide) g)
def nb (B b:Nat):Nat:=max B b+b+2
structure km (p:Nat) (l r:V3) (M:Nat):Prop where
 ne:pr p l≠0
 sg:∃(s:Bool) (a b:Nat),pr p l=jD s a/\pr p r=jD s b/\b < a
 pot:∀c,(pr c l).natAbs*(pr p r).natAbs+(pr c r).natAbs*(pr p l).natAbs<=M
 bl:∀c,(pr c l).natAbs<=M
 br:∀c,(pr c r).natAbs<=M
theorem IZ (s:Bool) {a b:Nat} (h:b≠0):(jD s a).fdiv (jD s b)=((a / b:Nat):Int):=by
 cases s
 ·show (a:Int).fdiv (b:Int)=_
  rw [Int.fdiv_eq_ediv_of_nonneg _ (by omega)];rfl
 ·show (-(a:Int)).fdiv (-(b:Int))=_
  rw [Int.neg_fdiv_neg,Int.fdiv_eq_ediv_of_nonneg _ (by omega)];rfl
theorem jw (x y:Int):x.fmod y=x - y*x.fdiv y:=by rw [Int.fmod_def]
theorem km.next {p:Nat} {l r:V3} {M:Nat} (h:km p l r M) (h0:pr p r≠0):km p r (sb l r ((pr p l).fdiv (pr p r))) M:=by
 obtain ⟨s,a,b,ea,eb,hlt⟩:=h.sg
 have b0:b≠0:=fun z=>h0 (by rw [eb,z];cases s <;> rfl)
 have hq:(pr p l).fdiv (pr p r)=((a / b:Nat):Int):=by rw [ea,eb];exact IZ s b0
 have hm:pr p (sb l r ((pr p l).fdiv (pr p r)))=jD s (a % b):=by
  rw [jo,<- jw,ea,eb,At]
 have hab:a=b*(a / b)+a % b:=(Nat.div_add_mod a b).symm
 have lt:=Nat.mod_lt a (Nat.pos_of_ne_zero b0)
 have key:∀c,(pr c r).natAbs*(pr p (sb l r ((pr p l).fdiv (pr p r)))).natAbs+(pr c (sb l r ((pr p l).fdiv (pr p r)))).natAbs*(pr p r).natAbs<=M:=fun c=>by
  have hp:=h.pot c
  rw [hm,jo,hq,eb,eF,eF]
  rw [ea,eb,eF,eF] at hp
  have h1:(pr c l - pr c r*((a / b:Nat):Int)).natAbs<=(pr c l).natAbs+(pr c r).natAbs*(a / b):=by
   refine Nat.le_trans (Int.natAbs_sub_le _ _) ?_
   rw [Int.natAbs_mul];exact Nat.le_refl _
  have h2:=Nat.mul_le_mul_right b h1
  generalize (pr c r).natAbs=R at *
  generalize (pr c l).natAbs=L at *
  generalize (pr c l - pr c r*((a / b:Nat):Int)).natAbs=N at *
  have h3:R*a=R*(b*(a / b))+R*(a % b):=by rw [<- Nat.mul_add,<- hab]
  have h4:(L+R*(a / b))*b=L*b+R*(b*(a / b)):=by rw [Nat.add_mul,Nat.mul_assoc,Nat.mul_comm (a / b) b]
  omega
 refine ⟨h0,⟨s,b,a % b,eb,hm,lt⟩,key,h.br,fun c=>?_⟩
 have:=key c
 have r1:1<=(pr p r).natAbs:=by omega
 exact Nat.le_trans (Nat.le_trans (Nat.le_mul_of_pos_right _ r1) (Nat.le_add_left _ _)) this
theorem ut (x y:Int) (h:y≠0):(x.fdiv y).natAbs*y.natAbs<=x.natAbs+y.natAbs:=by
 have e:=jw x y
 have h1:(y*x.fdiv y).natAbs<=x.natAbs+(x.fmod y).natAbs:=by
  rw [show y*x.fdiv y=x - x.fmod y by omega];exact Int.natAbs_sub_le _ _
 obtain ⟨s,a,b,e1,e2,_,e3,hlt⟩:=qD x y h
 rw [e2,eF] at h1
 rw [Int.natAbs_mul,Nat.mul_comm] at h1
 omega
theorem km.first {p:Nat} {L S:V3} {B b:Nat} (hL:cw B L) (hS:cw b S) (h0:pr p S≠0):km p S (sb L S ((pr p L).fdiv (pr p S))) (2 ^ nb B b):=by
 obtain ⟨s,x,y,e1,e2,_,e3,hlt⟩:=qD (pr p L) (pr p S) h0
 have hm:pr p (sb L S ((pr p L).fdiv (pr p S)))=jD s y:=by rw [jo,<- jw];exact e2
 have qb:=ut (pr p L) (pr p S) h0
 have s1:1<=(pr p S).natAbs:=by omega
 obtain ⟨m,hmx⟩:∃m,m=max B b:=⟨_,rfl⟩
 have e4:2 ^ nb B b=4*(2 ^ m*2 ^ b):=by
  unfold nb;rw [<- hmx,Nat.pow_succ,Nat.pow_succ,Nat.pow_add];omega
 have uB:2 ^ B<=2 ^ m:=Nat.pow_le_pow_right (by decide) (by omega)
 have ub:2 ^ b<=2 ^ m:=Nat.pow_le_pow_right (by decide) (by omega)
 have key:∀c,(pr c S).natAbs*(pr p (sb L S ((pr p L).fdiv (pr p S)))).natAbs+(pr c (sb L S ((pr p L).fdiv (pr p S)))).natAbs*(pr p S).natAbs<=2 ^ nb B b:=fun c=>by
  rw [hm,eF,jo,e4]
  have h1:(pr c L - pr c S*(pr p L).fdiv (pr p S)).natAbs<=(pr c L).natAbs+(pr c S).natAbs*((pr p L).fdiv (pr p S)).natAbs:=by
   refine Nat.le_trans (Int.natAbs_sub_le _ _) ?_
   rw [Int.natAbs_mul];exact Nat.le_refl _
  have h2:=Nat.mul_le_mul_right (pr p S).natAbs h1
  rw [Nat.add_mul,Nat.mul_assoc] at h2
  have h3:=Nat.mul_le_mul_left (pr c S).natAbs qb
  rw [Nat.mul_add] at h3
  have b1:(pr c S).natAbs*y<=2 ^ m*2 ^ b:=Nat.mul_le_mul (Nat.le_trans (hS c) ub) (Nat.le_trans (by omega) (hS p))
  have b2:(pr c L).natAbs*(pr p S).natAbs<=2 ^ m*2 ^ b:=Nat.mul_le_mul (Nat.le_trans (hL c) uB) (hS p)
  have b3:(pr c S).natAbs*(pr p L).natAbs<=2 ^ m*2 ^ b:=by rw [Nat.mul_comm];exact Nat.mul_le_mul (Nat.le_trans (hL p) uB) (hS c)
  have b4:(pr c S).natAbs*(pr p S).natAbs<=2 ^ m*2 ^ b:=Nat.mul_le_mul (Nat.le_trans (hS c) ub) (hS p)
  omega
 refine ⟨h0,⟨s,x,y,e1,hm,by omega⟩,key,fun c=>Nat.le_trans (hS c) (Nat.pow_le_pow_right (by decide) (by unfold nb;omega)),fun c=>?_⟩
 exact Nat.le_trans (Nat.le_trans (Nat.le_mul_of_pos_right _ s1) (Nat.le_add_left _ _)) (key c)
structure Il (p B b:Nat) (L S L' R:V3):Prop where
 z:pr p R=0
 cl:∀P,Sg P->((P L/\P S) ↔ (P L'/\P R))
 bd:cw (nb B b) L'/\cw (nb B b) R
 ps:0 < pr p S->0 < pr p L'
 nz:pr p S=0->L'=L/\R=S
def gE (p:Nat):Nat->List Nat->V3->List V3->V3->List V3->Prop
 | _,[],L,[],L',os=>L'=L/\os=[]
 | B,b::bs,L,S::l,L',os => ∃L1 R os',Il p B b L S L1 R/\gE p (nb B b) bs L1 l L' os'/\os=R::os'
 | _,_,_,_,_,_=>False
theorem gE.cl {p:Nat} {P:V3->Prop} (g:Sg P):∀{B:Nat} {bs:List Nat} {l os:List V3} {L L':V3},gE p B bs L l L' os->((P L/\∀s∈l,P s) ↔ (P L'/\∀s∈os,P s))
 | _,[],[],_,_,_,⟨rfl,rfl⟩=>Iff.rfl
 | _,_::_,[],_,_,_,h=>h.elim
 | _,[],_::_,_,_,_,h=>h.elim
 | B,b::bs,S::l,_,L,L',⟨L1,R,os',h,hl,rfl⟩=>by
  have ih:=gE.cl g hl
  have h1:=h.cl P g
  simp only [List.mem_cons,forall_eq_or_imp]
  constructor
  ·rintro ⟨a,b,c⟩
   have ⟨x,y⟩:=h1.mp ⟨a,b⟩
   have ⟨u,v⟩:=ih.mp ⟨x,c⟩
   exact ⟨u,y,v⟩
  ·rintro ⟨u,y,v⟩
   have ⟨x,c⟩:=ih.mpr ⟨u,v⟩
   have ⟨a,b⟩:=h1.mpr ⟨x,y⟩
   exact ⟨a,b,c⟩
theorem gE.z {p:Nat}:∀{B:Nat} {bs:List Nat} {l os:List V3} {L L':V3},gE p B bs L l L' os->∀s∈os,pr p s=0
 | _,[],[],_,_,_,⟨rfl,rfl⟩,s,hs=>by cases hs
 | _,_::_,[],_,_,_,h,_,_=>h.elim
 | _,[],_::_,_,_,_,h,_,_=>h.elim
 | B,b::bs,S::l,_,L,L',⟨L1,R,os',h,hl,rfl⟩,s,hs=>by
  rcases List.mem_cons.mp hs with rfl|hs
  ·exact h.z
  ·exact gE.z hl s hs
theorem uX (p:Nat):Sg fun v=>pr p v=0:=⟨by unfold pr;split <;> rfl,fun u v k hu hv=>by rw [jo,hu,hv];simp⟩
def A1:List Nat->List V3->Prop
 | b::bs,v::l=>cw b v/\A1 bs l
 | [],[]=>True
 | _,_=>False
theorem km.mod {p:Nat} {l r:V3} {M:Nat} (h:km p l r M) (h0:pr p r≠0):(pr p (sb l r ((pr p l).fdiv (pr p r)))).natAbs=(pr p l).natAbs % (pr p r).natAbs:=by
 obtain ⟨s,a,b,ea,eb,hlt⟩:=h.sg
 rw [jo,<- jw,ea,eb,At,eF,eF,eF]
def yO:Nat->List Nat->Prop
 | _,[]=>True
 | B,b::bs=>b<=1990/\nb B b<=8990/\yO (nb B b) bs
end K
namespace K
open PySem L2 Sp Qm
theorem rW {n c:Int} {ns:List Int} (h1:gI ns=1) (h:∀m∈ns,n∣c*m):n∣c:=by
 have key:∀c:Int,0 < c->(∀m∈ns,n∣c*m)->n∣c:=fun c hc h=>by
  have e:=rK hc ns
  rw [h1,Int.mul_one] at e
  rw [<- e]
  refine i9 fun m hm=>?_
  obtain ⟨x,hx,rfl⟩:=List.mem_map.mp hm
  exact h x hx
 rcases Int.lt_trichotomy c 0 with q|q|q
 ·have:=key (-c) (by omega) fun m hm=>by rw [Int.neg_mul];exact Int.dvd_neg.mpr (h m hm)
  exact Int.dvd_neg.mp this
 ·subst q;exact Int.dvd_zero n
 ·exact key c q h
def St (T:T9) (v:V3):Prop:=T.n∣T.dx v.1 v.2.1 v.2.2/\T.n∣T.dy v.1 v.2.1 v.2.2/\T.n∣T.dz v.1 v.2.1 v.2.2
theorem GR (a b c k:Int) (u v:V3):be a b c (sb u v k).1 (sb u v k).2.1 (sb u v k).2.2=be a b c u.1 u.2.1 u.2.2 - be a b c v.1 v.2.1 v.2.2*k:=by
 unfold be sb;grind
theorem uY (T:T9):Sg (St T):=by
 have z:∀a b c:Int,T.n∣be a b c 0 0 0:=fun a b c=>⟨0,by unfold be;simp⟩
 have s:∀(a b c k:Int) (u v:V3),T.n∣be a b c u.1 u.2.1 u.2.2->T.n∣be a b c v.1 v.2.1 v.2.2->T.n∣be a b c (sb u v k).1 (sb u v k).2.1 (sb u v k).2.2:=fun a b c k u v hu hv=>by
  rw [GR];exact Int.dvd_sub hu (Int.dvd_mul_of_dvd_left hv)
 exact ⟨⟨z _ _ _,z _ _ _,z _ _ _⟩,fun u v k hu hv=>⟨s _ _ _ k u v hu.1 hv.1,s _ _ _ k u v hu.2.1 hv.2.1,s _ _ _ k u v hu.2.2 hv.2.2⟩⟩
theorem nS {n u v w A B C D E F:Int} (h1:n∣be u v w A B C) (h2:n∣be u v w 0 D E) (h3:n∣be u v w 0 0 F):n∣A*D*F*u/\n∣A*D*F*v/\n∣A*D*F*w:=by
 obtain ⟨k1,e1⟩:=h1
 obtain ⟨k2,e2⟩:=h2
 obtain ⟨k3,e3⟩:=h3
 unfold be at e1 e2 e3
 have f1:u*A+v*B+w*C=n*k1:=by rw [<- e1];omega
 have f2:v*D+w*E=n*k2:=by rw [<- e2];simp
 have f3:w*F=n*k3:=by rw [<- e3];simp
 clear e1 e2 e3
 refine ⟨⟨D*F*k1 - B*F*k2+B*E*k3 - C*D*k3,?_⟩,⟨A*F*k2 - A*E*k3,?_⟩,⟨A*D*k3,?_⟩⟩
 ·calc A*D*F*u=D*F*(u*A+v*B+w*C) - B*F*(v*D+w*E)+B*E*(w*F) - C*D*(w*F):=by grind
   _=_:=by rw [f1,f2,f3];grind
 ·calc A*D*F*v=A*F*(v*D+w*E) - A*E*(w*F):=by grind
   _=_:=by rw [f2,f3];grind
 ·calc A*D*F*w=A*D*(w*F):=by grind
   _=_:=by rw [f3];grind
theorem AR {T:T9} (h1:gI T.l=1) {A B C D E F:Int} (s1:St T (A,B,C)) (s2:St T (0,D,E)) (s3:St T (0,0,F)):T.n∣A*D*F:=by
 obtain ⟨a1,a2,a3⟩:=nS s1.1 s2.1 s3.1
 obtain ⟨b1,b2,b3⟩:=nS s1.2.1 s2.2.1 s3.2.1
 obtain ⟨c1,c2,c3⟩:=nS s1.2.2 s2.2.2 s3.2.2
 refine rW h1 fun m hm=>?_
 simp only [T9.l,List.mem_cons,List.not_mem_nil,or_false] at hm
 rcases hm with rfl|rfl|rfl|rfl|rfl|rfl|rfl|rfl|rfl|rfl
 ·exact Int.dvd_mul_left _ _
 ·exact a1
 ·exact a2
 ·exact a3
 ·exact b1
 ·exact b2
 ·exact b3
 ·exact c1
 ·exact c2
 ·exact c3
def uF (A B C D E F:Int) (v:V3):Prop:=∃s t u:Int,v.1=s*A/\v.2.1=s*B+t*D/\v.2.2=s*C+t*E+u*F
theorem En (A B C D E F:Int):Sg (uF A B C D E F):=by
 refine ⟨⟨0,0,0,by simp,by simp,by simp⟩,?_⟩
 rintro u v k ⟨s,t,w,e1,e2,e3⟩ ⟨s',t',w',f1,f2,f3⟩
 refine ⟨s - s'*k,t - t'*k,w - w'*k,?_,?_,?_⟩
 ·show u.1 - v.1*k=_;rw [e1,f1];grind
 ·show u.2.1 - v.2.1*k=_;rw [e2,f2];grind
 ·show u.2.2 - v.2.2*k=_;rw [e3,f3];grind
def gy (u v w:V3):Int:=u.1*(v.2.1*w.2.2 - v.2.2*w.2.1) - u.2.1*(v.1*w.2.2 - v.2.2*w.1)+u.2.2*(v.1*w.2.1 - v.2.1*w.1)
theorem ja {A B C D E F:Int} {u v w:V3} (hu:uF A B C D E F u) (hv:uF A B C D E F v) (hw:uF A B C D E F w):A*D*F∣gy u v w:=by
 obtain ⟨a,b,c,e1,e2,e3⟩:=hu
 obtain ⟨d,e,f,f1,f2,f3⟩:=hv
 obtain ⟨g,h,i,g1,g2,g3⟩:=hw
 refine ⟨a*(e*i - f*h) - b*(d*i - f*g)+c*(d*h - e*g),?_⟩
 unfold gy
 rw [e1,e2,e3,f1,f2,f3,g1,g2,g3]
 grind
def hV (q:Qd) (n:Int):List V3:=[(-q.2.1,-q.2.2.1,-q.2.2.2),(q.1,-q.2.2.2,q.2.2.1),(q.2.2.2,q.1,-q.2.1),(-q.2.2.1,q.2.1,q.1),(n,0,0),(0,n,0),(0,0,n)]
theorem jM (q:Qd) (p:Pm q.1 q.2.1 q.2.2.1 q.2.2.2):∃g:Int,(g=1\/g=2\/g=4)/\tq q=(tq q).low.map (g * ·)/\(tq q).n=g*(tq q).low.n/\(tq q).low.n % 2=1/\0 < (tq q).low.n/\gI (tq q).low.l=1:=by
 have hp:=cJ p.ne
 obtain ⟨g,m,e,hg,en,ho,hm⟩:=G6 p
 have eg:gI (tq q).l=g:=e
 have hn:(tq q).low.n=m:=by
  show ((tq q).n).fdiv (gI (tq q).l)=m
  rw [eg,show (tq q).n=g*m from en]
  exact Int.mul_fdiv_cancel_left m (by omega)
 refine ⟨g,hg,?_,?_,by rw [hn];exact ho,by rw [hn];exact hm,?_⟩
 ·rw [<- eg];exact T9.cut hp
 ·rw [hn];exact en
 ·have:=xn (tq q).mem_n (show (tq q).n≠0 by omega)
  exact this
theorem Gu {q:Qd} (p:Pm q.1 q.2.1 q.2.2.1 q.2.2.2):∀s∈hV q (tq q).low.n,St (tq q).low s:=by
 obtain ⟨g,hg,cut,en,ho,hn,_⟩:=jM q p
 have g0:0 < g:=by omega
 have raw:∀v:V3,(∃x y z:Int,(tq q).dx v.1 v.2.1 v.2.2=(tq q).n*x/\(tq q).dy v.1 v.2.1 v.2.2=(tq q).n*y/\(tq q).dz v.1 v.2.1 v.2.2=(tq q).n*z)->St (tq q).low v:=by
  rintro v ⟨x,y,z,e1,e2,e3⟩
  obtain ⟨m1,m2,m3⟩:=JG g (tq q).low v.1 v.2.1 v.2.2
  rw [<- cut] at m1 m2 m3
  rw [m1,en,Int.mul_assoc] at e1
  rw [m2,en,Int.mul_assoc] at e2
  rw [m3,en,Int.mul_assoc] at e3
  exact ⟨⟨x,oM g0 e1⟩,⟨y,oM g0 e2⟩,⟨z,oM g0 e3⟩⟩
 obtain ⟨a,b,c,d⟩:=q
 intro s hs
 simp only [hV,List.mem_cons,List.not_mem_nil,or_false] at hs
 rcases hs with rfl|rfl|rfl|rfl|rfl|rfl|rfl
 ·exact raw _ ⟨-b,-c,-d,by simp only [T9.dx,T9.dy,T9.dz,tq,be,n4,cQ,cO,cN,cI,cM,cH,cG,cF,cK];grind,by simp only [T9.dx,T9.dy,T9.dz,tq,be,n4,cQ,cO,cN,cI,cM,cH,cG,cF,cK];grind,by simp only [T9.dx,T9.dy,T9.dz,tq,be,n4,cQ,cO,cN,cI,cM,cH,cG,cF,cK];grind⟩
 ·exact raw _ ⟨a,d,-c,by simp only [T9.dx,T9.dy,T9.dz,tq,be,n4,cQ,cO,cN,cI,cM,cH,cG,cF,cK];grind,by simp only [T9.dx,T9.dy,T9.dz,tq,be,n4,cQ,cO,cN,cI,cM,cH,cG,cF,cK];grind,by simp only [T9.dx,T9.dy,T9.dz,tq,be,n4,cQ,cO,cN,cI,cM,cH,cG,cF,cK];grind⟩
 ·exact raw _ ⟨-d,a,b,by simp only [T9.dx,T9.dy,T9.dz,tq,be,n4,cQ,cO,cN,cI,cM,cH,cG,cF,cK];grind,by simp only [T9.dx,T9.dy,T9.dz,tq,be,n4,cQ,cO,cN,cI,cM,cH,cG,cF,cK];grind,by simp only [T9.dx,T9.dy,T9.dz,tq,be,n4,cQ,cO,cN,cI,cM,cH,cG,cF,cK];grind⟩
 ·exact raw _ ⟨c,-b,a,by simp only [T9.dx,T9.dy,T9.dz,tq,be,n4,cQ,cO,cN,cI,cM,cH,cG,cF,cK];grind,by simp only [T9.dx,T9.dy,T9.dz,tq,be,n4,cQ,cO,cN,cI,cM,cH,cG,cF,cK];grind,by simp only [T9.dx,T9.dy,T9.dz,tq,be,n4,cQ,cO,cN,cI,cM,cH,cG,cF,cK];grind⟩
 ·generalize (tq (a,b,c,d)).low=T
  refine ⟨⟨T.a,?_⟩,⟨T.d,?_⟩,⟨T.g,?_⟩⟩ <;> simp only [T9.dx,T9.dy,T9.dz,be] <;> grind
 ·generalize (tq (a,b,c,d)).low=T
  refine ⟨⟨T.b,?_⟩,⟨T.e,?_⟩,⟨T.h,?_⟩⟩ <;> simp only [T9.dx,T9.dy,T9.dz,be] <;> grind
 ·generalize (tq (a,b,c,d)).low=T
  refine ⟨⟨T.c,?_⟩,⟨T.f,?_⟩,⟨T.i,?_⟩⟩ <;> simp only [T9.dx,T9.dy,T9.dz,be] <;> grind
theorem n6 {x m:Int} (hx:x % 2=1) (h:x∣2*m):x∣m:=by
 obtain ⟨k,e⟩:=h
 have hk:k % 2=0:=by
  rcases (show k % 2=0\/k % 2=1 by omega) with q|q
  ·exact q
  ·obtain ⟨j,hj⟩:=mv hx q;omega
 obtain ⟨j,rfl⟩:∃j,k=2*j:=⟨k / 2,by omega⟩
 exact ⟨j,by
  have:2*m=2*(x*j):=by rw [e];grind
  omega⟩
theorem HS {q:Qd} (p:Pm q.1 q.2.1 q.2.2.1 q.2.2.2) {A B C D E F:Int} (hA:0 < A) (hD:0 < D) (hF:0 < F) (cl:∀P,Sg P->((∀s∈hV q (tq q).low.n,P s) ↔ (P (A,B,C)/\P (0,D,E)/\P (0,0,F)))):A*D*F=(tq q).low.n/\(St (tq q).low (A,B,C)/\St (tq q).low (0,D,E)/\St (tq q).low (0,0,F))/\∀v,St (tq q).low v->uF A B C D E F v:=by
 obtain ⟨g,hg,cut,en,ho,hn,g1⟩:=jM q p
 obtain ⟨s1,s2,s3⟩:=(cl _ (uY _)).mp (Gu p)
 have d1:=AR g1 s1 s2 s3
 have sp:=(cl _ (En A B C D E F)).mpr ⟨⟨1,0,0,by simp,by simp,by simp⟩,⟨0,1,0,by simp,by simp,by simp⟩,⟨0,0,1,by simp,by simp,by simp⟩⟩
 have adf:0 < A*D*F:=Int.mul_pos (Int.mul_pos hA hD) hF
 have eqn:A*D*F=(tq q).low.n:=by
  generalize hnn:(tq q).low.n=n at *
  have v0:=sp (-q.2.1,-q.2.2.1,-q.2.2.2) (by simp [hV])
  have v1:=sp (q.1,-q.2.2.2,q.2.2.1) (by simp [hV])
  have v2:=sp (q.2.2.2,q.1,-q.2.1) (by simp [hV])
  have v3:=sp (-q.2.2.1,q.2.1,q.1) (by simp [hV])
  have e0:=sp (n,0,0) (by simp [hV])
  have e1:=sp (0,n,0) (by simp [hV])
  have e2:=sp (0,0,n) (by simp [hV])
  have k0:=ja v1 v2 v3
  have k1:=ja v0 v2 v3
  have k2:=ja v0 v1 v3
  have k3:=ja v0 v1 v2
  have kn:=ja e0 e1 e2
  have kN:A*D*F∣(tq q).n:=by
   refine rW p.one fun m hm=>?_
   obtain ⟨a,b,c,d⟩:=q
   simp only [List.mem_cons,List.not_mem_nil,or_false] at hm
   have x0:(tq (a,b,c,d)).n*a=gy (a,-d,c) (d,a,-b) (-c,b,a):=by simp only [tq,n4,gy];grind
   have x1:(tq (a,b,c,d)).n*b = -gy (-b,-c,-d) (d,a,-b) (-c,b,a):=by simp only [tq,n4,gy];grind
   have x2:(tq (a,b,c,d)).n*c=gy (-b,-c,-d) (a,-d,c) (-c,b,a):=by simp only [tq,n4,gy];grind
   have x3:(tq (a,b,c,d)).n*d = -gy (-b,-c,-d) (a,-d,c) (d,a,-b):=by simp only [tq,n4,gy];grind
   rcases hm with rfl|rfl|rfl|rfl
   ·rw [x0];exact k0
   ·rw [x1];exact Int.dvd_neg.mpr k1
   ·rw [x2];exact k2
   ·rw [x3];exact Int.dvd_neg.mpr k3
  have k3':A*D*F∣n*n*n:=by
   have e:gy (n,0,0) (0,n,0) (0,0,n)=n*n*n:=by simp only [gy];grind
   rw [<- e];exact kn
  have od:(A*D*F) % 2=1:=by
   rcases (show (A*D*F) % 2=0\/(A*D*F) % 2=1 by omega) with z|z
   ·exfalso
    obtain ⟨j,hj⟩:=k3'
    obtain ⟨i,hi⟩:=mv ho ho
    obtain ⟨l,hl⟩:=mv (show (n*n) % 2=1 by omega) ho
    obtain ⟨m,hm⟩:∃m,A*D*F=2*m:=⟨A*D*F / 2,by omega⟩
    rw [hm,Int.mul_assoc 2 m j] at hj
    generalize m*j=mj at *
    omega
   ·exact z
  have kn':A*D*F∣n:=by
   rw [en] at kN
   rcases hg with rfl|rfl|rfl
   ·rwa [Int.one_mul] at kN
   ·exact n6 od kN
   ·exact n6 od (n6 od (by rw [<- Int.mul_assoc];exact kN))
  exact Int.dvd_antisymm (by omega) (by omega) kn' d1
 refine ⟨eqn,⟨s1,s2,s3⟩,?_⟩
 rintro ⟨x,y,z⟩ hv
 have h1:=AR g1 hv s2 s3
 rw [<- eqn,Int.mul_assoc,Int.mul_assoc] at h1
 have hx:A∣x:=Int.dvd_of_mul_dvd_mul_right (by have:=Int.mul_pos hD hF;omega) h1
 obtain ⟨s,rfl⟩:=hx
 have h2:=(uY (tq q).low).step _ _ s hv s1
 have e2:sb (A*s,y,z) (A,B,C) s=(0,y - B*s,z - C*s):=by simp [sb]
 rw [e2] at h2
 have h3:=AR g1 s1 h2 s3
 rw [<- eqn] at h3
 have hy:D∣y - B*s:=by
  rw [Int.mul_assoc,Int.mul_assoc] at h3
  have h4:=Int.dvd_of_mul_dvd_mul_left (by omega) h3
  exact Int.dvd_of_mul_dvd_mul_right (by omega) h4
 obtain ⟨t,ht⟩:=hy
 have h4:=(uY (tq q).low).step _ _ t h2 s2
 have e3:sb (0,y - B*s,z - C*s) (0,D,E) t=(0,0,z - C*s - E*t):=by simp only [sb,ht];simp
 rw [e3] at h4
 have h5:=AR g1 s1 s2 h4
 rw [<- eqn] at h5
 have hz:F∣z - C*s - E*t:=Int.dvd_of_mul_dvd_mul_left (by have:=Int.mul_pos hA hD;omega) h5
 obtain ⟨u,hu⟩:=hz
 exact ⟨s,t,u,by show A*s=s*A;rw [Int.mul_comm],by show y=s*B+t*D;rw [Int.mul_comm s B,Int.mul_comm t D];omega,by show z=s*C+t*E+u*F;rw [Int.mul_comm s C,Int.mul_comm t E,Int.mul_comm u F];omega⟩
theorem uh {q:Qd} {g:Int} (cut:tq q=(tq q).low.map (g * ·)):n4 q.1 q.2.1 q.2.2.1 q.2.2.2=g*(tq q).low.n/\cQ q.1 q.2.1 q.2.2.1 q.2.2.2=g*(tq q).low.a/\cO q.1 q.2.1 q.2.2.1 q.2.2.2=g*(tq q).low.b/\cN q.1 q.2.1 q.2.2.1 q.2.2.2=g*(tq q).low.c/\cI q.1 q.2.1 q.2.2.1 q.2.2.2=g*(tq q).low.d/\cM q.1 q.2.1 q.2.2.1 q.2.2.2=g*(tq q).low.e/\cH q.1 q.2.1 q.2.2.1 q.2.2.2=g*(tq q).low.f/\cG q.1 q.2.1 q.2.2.1 q.2.2.2=g*(tq q).low.g/\cF q.1 q.2.1 q.2.2.1 q.2.2.2=g*(tq q).low.h/\cK q.1 q.2.1 q.2.2.1 q.2.2.2=g*(tq q).low.i :=
 ⟨congrArg T9.n cut,congrArg T9.a cut,congrArg T9.b cut,congrArg T9.c cut,congrArg T9.d cut,congrArg T9.e cut,congrArg T9.f cut,congrArg T9.g cut,congrArg T9.h cut,congrArg T9.i cut⟩
theorem kP (g a b c x y z:Int):be (g*a) (g*b) (g*c) (g*x) (g*y) (g*z)=g*g*be a b c x y z:=by unfold be;grind
theorem J6 (g a b c d e f h i j:Int):be (g*a) (g*b) (g*c) (g*e*(g*j) - g*f*(g*i)) (g*f*(g*h) - g*d*(g*j)) (g*d*(g*i) - g*e*(g*h))=g*g*g*be a b c (e*j - f*i) (f*h - d*j) (d*i - e*h):=by unfold be;grind
theorem yx (g n:Int):g*n*(g*n)=g*g*(n*n):=by grind
theorem PY (g n:Int):g*n*(g*n)*(g*n)=g*g*g*(n*n*n):=by grind
theorem kR {g x y:Int} (hg:0 < g) (h:g*g*x=g*g*y):x=y:=oM (Int.mul_pos hg hg) h
theorem wU {q:Qd} (p:Pm q.1 q.2.1 q.2.2.1 q.2.2.2):be (tq q).low.a (tq q).low.b (tq q).low.c (tq q).low.a (tq q).low.b (tq q).low.c=(tq q).low.n*(tq q).low.n/\be (tq q).low.a (tq q).low.b (tq q).low.c (tq q).low.d (tq q).low.e (tq q).low.f=0/\be (tq q).low.a (tq q).low.b (tq q).low.c (tq q).low.g (tq q).low.h (tq q).low.i=0/\be (tq q).low.d (tq q).low.e (tq q).low.f (tq q).low.d (tq q).low.e (tq q).low.f=(tq q).low.n*(tq q).low.n/\be (tq q).low.d (tq q).low.e (tq q).low.f (tq q).low.g (tq q).low.h (tq q).low.i=0/\be (tq q).low.g (tq q).low.h (tq q).low.i (tq q).low.g (tq q).low.h (tq q).low.i=(tq q).low.n*(tq q).low.n /\ ¬ be (tq q).low.a (tq q).low.b (tq q).low.c ((tq q).low.e*(tq q).low.i - (tq q).low.f*(tq q).low.h) ((tq q).low.f*(tq q).low.g - (tq q).low.d*(tq q).low.i) ((tq q).low.d*(tq q).low.h - (tq q).low.e*(tq q).low.g) < 0:=by
 obtain ⟨g,hg,cut,en,ho,hn,g1⟩:=jM q p
 have g0:0 < g:=by omega
 obtain ⟨f,f0,f1,f2,f3,f4,f5,f6,f7,f8⟩:=uh cut
 generalize (tq q).low=T at *
 obtain ⟨a,b,c,d⟩:=q
 simp only [] at f f0 f1 f2 f3 f4 f5 f6 f7 f8
 have o00:be (cQ a b c d) (cO a b c d) (cN a b c d) (cQ a b c d) (cO a b c d) (cN a b c d)=n4 a b c d*n4 a b c d:=by simp only [be,n4,cQ,cO,cN,cI,cM,cH,cG,cF,cK];grind
 have o01:be (cQ a b c d) (cO a b c d) (cN a b c d) (cI a b c d) (cM a b c d) (cH a b c d)=0:=by simp only [be,n4,cQ,cO,cN,cI,cM,cH,cG,cF,cK];grind
 have o02:be (cQ a b c d) (cO a b c d) (cN a b c d) (cG a b c d) (cF a b c d) (cK a b c d)=0:=by simp only [be,n4,cQ,cO,cN,cI,cM,cH,cG,cF,cK];grind
 have o11:be (cI a b c d) (cM a b c d) (cH a b c d) (cI a b c d) (cM a b c d) (cH a b c d)=n4 a b c d*n4 a b c d:=by simp only [be,n4,cQ,cO,cN,cI,cM,cH,cG,cF,cK];grind
 have o12:be (cI a b c d) (cM a b c d) (cH a b c d) (cG a b c d) (cF a b c d) (cK a b c d)=0:=by simp only [be,n4,cQ,cO,cN,cI,cM,cH,cG,cF,cK];grind
 have o22:be (cG a b c d) (cF a b c d) (cK a b c d) (cG a b c d) (cF a b c d) (cK a b c d)=n4 a b c d*n4 a b c d:=by simp only [be,n4,cQ,cO,cN,cI,cM,cH,cG,cF,cK];grind
 have od:be (cQ a b c d) (cO a b c d) (cN a b c d) ((cM a b c d)*(cK a b c d) - (cH a b c d)*(cF a b c d)) ((cH a b c d)*(cG a b c d) - (cI a b c d)*(cK a b c d)) ((cI a b c d)*(cF a b c d) - (cM a b c d)*(cG a b c d))=n4 a b c d*n4 a b c d*n4 a b c d:=by simp only [be,n4,cQ,cO,cN,cI,cM,cH,cG,cF,cK];grind
 rw [f0,f1,f2,f3,f4,f5,f6,f7,f8,f] at od
 rw [f0,f1,f2,f] at o00
 rw [f0,f1,f2,f3,f4,f5] at o01
 rw [f0,f1,f2,f6,f7,f8] at o02
 rw [f3,f4,f5,f] at o11
 rw [f3,f4,f5,f6,f7,f8] at o12
 rw [f6,f7,f8,f] at o22
 rw [kP,yx] at o00
 rw [kP] at o01
 rw [kP] at o02
 rw [kP,yx] at o11
 rw [kP] at o12
 rw [kP,yx] at o22
 rw [J6,PY] at od
 refine ⟨kR g0 o00,kR g0 (by rw [o01];simp),kR g0 (by rw [o02];simp),kR g0 o11,kR g0 (by rw [o12];simp),kR g0 o22,?_⟩
 have e':=oM (Int.mul_pos (Int.mul_pos g0 g0) g0) od
 rw [e']
 have:=Int.mul_pos (Int.mul_pos hn hn) hn
 omega
theorem yU {q:Qd} (p:Pm q.1 q.2.1 q.2.2.1 q.2.2.2):∃K:Int,(K=1\/K=2\/K=4)/\(tq q).low.n+(tq q).low.a+(tq q).low.e+(tq q).low.i=K*(q.1*q.1)/\(tq q).low.h - (tq q).low.f=K*(q.1*q.2.1)/\(tq q).low.c - (tq q).low.g=K*(q.1*q.2.2.1)/\(tq q).low.d - (tq q).low.b=K*(q.1*q.2.2.2)/\(tq q).low.n+(tq q).low.a - (tq q).low.e - (tq q).low.i=K*(q.2.1*q.2.1)/\(tq q).low.b+(tq q).low.d=K*(q.2.1*q.2.2.1)/\(tq q).low.c+(tq q).low.g=K*(q.2.1*q.2.2.2)/\(tq q).low.n - (tq q).low.a+(tq q).low.e - (tq q).low.i=K*(q.2.2.1*q.2.2.1)/\(tq q).low.f+(tq q).low.h=K*(q.2.2.1*q.2.2.2)/\(tq q).low.n - (tq q).low.a - (tq q).low.e+(tq q).low.i=K*(q.2.2.2*q.2.2.2):=by
 obtain ⟨g,hg,cut,en,ho,hn,g1⟩:=jM q p
 have g0:0 < g:=by omega
 obtain ⟨f,f0,f1,f2,f3,f4,f5,f6,f7,f8⟩:=uh cut
 obtain ⟨K,hK,gK⟩:∃K:Int,(K=1\/K=2\/K=4)/\g*K=4:=by
  rcases hg with rfl|rfl|rfl
  ·exact ⟨4,by omega,by omega⟩
  ·exact ⟨2,by omega,by omega⟩
  ·exact ⟨1,by omega,by omega⟩
 generalize (tq q).low=T at *
 obtain ⟨a,b,c,d⟩:=q
 simp only [n4,cQ,cO,cN,cI,cM,cH,cG,cF,cK] at f f0 f1 f2 f3 f4 f5 f6 f7 f8
 have k:∀{x y:Int},g*x=4*y->x=K*y:=fun h=>oM g0 (by rw [h,<- gK,Int.mul_assoc])
 clear gK
 clear cut en ho hn g1 hg
 refine ⟨K,hK,?_,?_,?_,?_,?_,?_,?_,?_,?_,?_⟩ <;> (apply k;clear k hK p;simp only [Int.mul_add,Int.mul_sub];grind)
theorem Ix {Φ:Fx} {sc:Scope} {ρ:ak} {c:Expr} {body:List Stmt} {p:Pos} {m:Nat} {P:ak->Prop} (Inv:Nat->ak->Prop) (h0:Inv m ρ) (hm:m < cZ)
  (step:∀m ρ,Inv m ρ->∃b k,ag (aC Φ c false sc ρ) (.bl b,k)/\(b=true->∃m' ρ2,m' < m/\ag (aD Φ body sc ρ) (.nx ρ2)/\Inv m' ρ2)) (rest:∀m ρ',Inv m ρ'->(∃k,ag (aC Φ c false sc ρ') (.bl false,k))->P ρ'):∃ρ',ag (dS Φ (.While c body [] p) sc ρ) (.nx ρ')/\P ρ':=by
 obtain ⟨m',ρ',h1,h2,h3⟩:=qo (test:=fun ρ=>(aC Φ c false sc ρ).bnd fun p=>iE p fun b=>.ok b []) (body:=aD Φ body sc) Inv (fun m ρ h=>by
  obtain ⟨b,k,a1,a2⟩:=step m ρ h
  exact ⟨b,a1.bnd (iN rfl cY),a2⟩) h0 hm
 obtain ⟨q,h4,h5⟩:=av h3
 obtain ⟨t,ht,h5⟩:=gr h5
 cases aL h5
 obtain ⟨q1,q2⟩:=q
 have ht:q1=.bl false:=ht
 subst ht
 exact ⟨ρ',rP h1,rest m' ρ' h2 ⟨_,h4⟩⟩
theorem I0 {Φ:Fx} {sc:Scope} {ps:List Str} {body:List Stmt} {ds:List D} {R:D->Prop} (h:∃d,ag (aD Φ body sc (eh ps ds)) (.rt d)/\R d) (hl:ds.length=ps.length:=by rfl):∃d,ag (bH Φ sc ps body ds) d/\R d:=let ⟨d,h1,h2⟩:=h;⟨d,bW h1 hl,h2⟩
theorem Kj {Φ:Fx} {sc:Scope} {ρ ρ':ak} {ss:List Stmt} {R:D->Prop} (n:Nat) (h:ag (aD Φ (ss.take n) sc ρ) (.nx ρ')) (h2:∃d,ag (aD Φ (ss.drop n) sc ρ') (.rt d)/\R d):∃d,ag (aD Φ ss sc ρ) (.rt d)/\R d:=let ⟨d,h1,h3⟩:=h2;⟨d,eB n h h1,h3⟩
theorem km.pos {p:Nat} {l r:V3} {M:Nat} (h:km p l r M) (h1:0 < pr p l) (h0:pr p r≠0):0 < pr p r:=by
 obtain ⟨s,a,b,ea,eb,hlt⟩:=h.sg
 cases s
 ·have:pr p r=(b:Int):=eb
  omega
 ·have:pr p l = -(a:Int):=ea
  omega
end K
namespace K
open PySem L2 Sp Qm
abbrev cy (q:Qd):D:=nM q.1 q.2.1 q.2.2.1 q.2.2.2
abbrev sM (q:Qd):Prop:=Pm q.1 q.2.1 q.2.2.1 q.2.2.2
theorem FX {k:Int} {q:Qd} {m:Nat} (hq:ff q) (h:fh (2 ^ m) (kq k q)):k.natAbs<=2 ^ m:=by
 obtain ⟨h1,h2,h3,h4⟩:=h
 have key:∀t:Int,t≠0->(k*t).natAbs<=2 ^ m->k.natAbs<=2 ^ m:=fun t t0 ht=>by
  rw [Int.natAbs_mul] at ht
  exact Nat.le_trans (Nat.le_mul_of_pos_right _ (by omega)) ht
 by_cases q1:q.1=0
 ·by_cases q2:q.2.1=0
  ·by_cases q3:q.2.2.1=0
   ·exact key _ (fun q4=>hq ⟨q1,q2,q3,q4⟩) h4
   ·exact key _ q3 h3
  ·exact key _ q2 h2
 ·exact key _ q1 h1
theorem yB {k:Int} {q:Qd} {m:Nat} (hk:k≠0) (h:fh (2 ^ m) (kq k q)):fh (2 ^ m) q:=by
 obtain ⟨h1,h2,h3,h4⟩:=h
 have key:∀t:Int,(k*t).natAbs<=2 ^ m->t.natAbs<=2 ^ m:=fun t ht=>by
  rw [Int.natAbs_mul] at ht
  exact Nat.le_trans (Nat.le_mul_of_pos_left _ (by omega)) ht
 exact ⟨key _ h1,key _ h2,key _ h3,key _ h4⟩
theorem wZ {k:Int} {q:Qd} {m:Nat} (hm:m<=999) (h:fh (2 ^ m) (kq k q)):okT (([k*q.1,k*q.2.1,k*q.2.2.1,k*q.2.2.2]:List Int).map D.int):=Aw (m:=m) hm (by
 obtain ⟨h1,h2,h3,h4⟩:=h
 intro t ht
 simp only [List.mem_cons,List.not_mem_nil,or_false] at ht
 rcases ht with rfl|rfl|rfl|rfl
 ·exact h1
 ·exact h2
 ·exact h3
 ·exact h4)
theorem ve {p q:Qd} {m:Nat} (hp:fh (2 ^ m) p) (hq:fh (2 ^ m) q):fh (2 ^ (m+m+2)) (bJ p q):=by
 obtain ⟨a,b,c,d⟩:=p
 obtain ⟨e,f,g,h⟩:=q
 obtain ⟨a1,b1,c1,d1⟩:=hp
 obtain ⟨e1,f1,g1,h1⟩:=hq
 have k:∀{x y:Int},x.natAbs<=2 ^ m->y.natAbs<=2 ^ m->(x*y).natAbs<=2 ^ (m+m):=fun hx hy=>by rw [Int.natAbs_mul,Nat.pow_add];exact Nat.mul_le_mul hx hy
 have e4:2 ^ (m+m+2)=4*2 ^ (m+m):=by rw [Nat.pow_succ,Nat.pow_succ];omega
 have s:∀{x y z w:Int},x.natAbs<=2 ^ (m+m)->y.natAbs<=2 ^ (m+m)->z.natAbs<=2 ^ (m+m)->w.natAbs<=2 ^ (m+m)->(x - y - z - w).natAbs<=2 ^ (m+m+2)/\(x+y+z - w).natAbs<=2 ^ (m+m+2)/\(x - y+z+w).natAbs<=2 ^ (m+m+2)/\(x+y - z+w).natAbs<=2 ^ (m+m+2):=fun hx hy hz hw=>by rw [e4];generalize 2 ^ (m+m)=M at *;omega
 exact ⟨(s (k a1 e1) (k b1 f1) (k c1 g1) (k d1 h1)).1,(s (k a1 f1) (k b1 e1) (k c1 h1) (k d1 g1)).2.1,(s (k a1 g1) (k b1 h1) (k c1 e1) (k d1 f1)).2.2.1,(s (k a1 h1) (k b1 g1) (k c1 f1) (k d1 e1)).2.2.2⟩
theorem Ak {q:Qd} {m:Nat} (h:fh (2 ^ m) q):(tq q).bd (m+m+3):=by
 obtain ⟨h1,h2,h3,h4⟩:=h
 exact Am (m:=2 ^ m) (M:=2 ^ (m+m)) (by rw [Nat.pow_add];exact Nat.le_refl _) (by rw [Nat.pow_succ,Nat.pow_succ,Nat.pow_succ];omega) h1 h2 h3 h4
end K
namespace Sp
open PySem PySem.Spec PyProof.Rows L2
variable {X:Cx}
end Sp
namespace Sp
open PySem PySem.Spec PyProof.Rows L2
def OY:Stmt->Expr
 | .Assign _ e _=>e
 | _=>.Constant .none 0 ⟨0,0,0,0⟩
def xh (s:Stmt):List Expr:=match ao s with
 | [_,.Expr (.Call _ (_::args) _ _) _]=>args
 | _=>[]
def gG (Φ:Fx) (sc:Scope) (ps:List Str) (x1 x2:Str) (e:Expr) (args:List Expr) (n:Str) (fs:List Str) (ds:List D):Rs D :=
 if ds.length+1=ps.length then (aC Φ e false sc (eh ps (.obj n [] []::ds))).bnd fun p=>(match p.1 with
  | .tup [u,v]=>if ax [u,v]=true then (cf Φ args sc (bI (bI (eh ps (.obj n [] []::ds)) x1 (u,false)) x2 (v,false))).bnd fun q=>if q.1.length=fs.length then .ok (.obj n fs q.1) [ax q.1=true,fg q.1=true] else .st else .st
  | _=>.st) else .st
theorem uC {α β:Type} {r:Rs α} {f:α->Rs β} {b:β} {l:List Prop} (h:r.bnd f=.ok b l):∃a m,f a=.ok b m:=by
 unfold Rs.bnd at h
 split at h
 ·cases h
 ·split at h
  ·cases h
  ·rename_i e;cases h;exact ⟨_,_,e⟩
theorem sZ {Φ:Fx} {sc:Scope} {ps fs:List Str} {x1 x2:Str} {e:Expr} {args:List Expr} {n:Str}:∀ds r l,gG Φ sc ps x1 x2 e args n fs ds=.ok r l->r.lless=true:=fun ds r l h=>by
 unfold gG at h
 split at h
 ·obtain ⟨a,m,h⟩:=uC h
  split at h
  ·split at h
   ·obtain ⟨b,m',h⟩:=uC h
    split at h
    ·cases h;rfl
    ·cases h
   ·cases h
  ·cases h
 ·cases h
theorem y9 {P:Program} {w:World} {K:W.Frag} {mg:Str->Option Value} {base:Heap} {k:Nat} {g qual:Str} {st:Stmt} {f f0:Addr} {fd fd0:FuncData} {ps ps0 fs:List Str} {Φ:Fx} {n b s0 x1 x2:Str} {C0:Addr} {mc:Value} {pb p0 ap cp p4 q1 q2 tp p5:Pos} {tn:Nat} {e:Expr} {args:List Expr} (Fn:jg K g qual st f fd)
  (S:aF (aw (ae st)) ps (ae st)) (hΦ:lC P w K mg base k Φ) (hF0:bS P w K mg base dM k f0 fd0 ps0 (As K fs)) (hb0:cE K fd0 ps0 []) (hk0:W.keepIn K (.ref f0)=true)
  (hgb:(ae st).names.lookup b=some .globalImplicit) (hm:mg b=some (.ref C0)) (hga:W.specialIn K (.ref C0) "__getattribute__" = some (some (.builtin "type.__getattribute__"))) (hrd:W.readsIn K C0 mc=true) (hfc:W.findCls K (.ref C0) mc "__init__" = some (.val (.ref f0)))
  (hbody:ao st=[.Assign [.Tuple [.Name x1 q1,.Name x2 q2] tn tp] e p5,.Expr (.Call (.Attribute (.Name b pb) "__init__" ap) (.Name s0 p0::args) [] cp) p4]) (hs0:ps[0]?=some s0) (hok:fe s0=true) (hdb:(b==("__debug__" : Str))=false) (hln:(ap.endLine==cp.line)=true) (hfew:args.length < 28)
  (hl1:c9 (ae st) x1=true) (hl2:c9 (ae st) x2=true) (hn1:x1≠s0) (hn2:x2≠s0) (hsw:lr (ae st) [.Name x1 q1,.Name x2 q2] e=false)
  (hna:∀C,W.nsIn K mainGlobals n=some (some (.ref C))->∀x∈fs,bE K C x):bS P w K mg base dM (k+1) f fd ps (o0 K n (gG Φ (ae st) ps x1 x2 e args n fs)):=by
 refine Fn.ok S (fun vs H Q E h=>?_) (fun cdv A outer s H vs Q E hr h=>?_)
 ·obtain ⟨x,ws,C,dx,ds,r,l,rfl,hx,hns,hc,r1,hF,_⟩:=h
  unfold gG at hF
  split at hF
  ·rename_i hl;rw [List.length_cons,<- r1.length];exact hl
  ·cases hF
 ·obtain ⟨x,ws,C,dx,ds,r,l,rfl,hx,hns,hc,r1,hF,hp,hl,q⟩:=h
  have hF:ag (gG Φ (ae st) ps x1 x2 e args n fs ds) r:=⟨l,hF,hp⟩
  unfold gG at hF
  split at hF
  ·rename_i hlen
   obtain ⟨pv,h1,hF⟩:=av hF
   split at hF
   ·rename_i u v hpv
    split at hF
    ·rename_i hll
     obtain ⟨qv,h2,hF⟩:=av hF
     split at hF
     ·rename_i hfl
      obtain ⟨l3,e3,p3⟩:=hF
      cases e3
      have G:=iZ (outer:=outer) (H:=H) (E:=E) S hΦ hr
      have r0:ai K H (fun _ _=>True) (.obj n [] []::ds) (.ref x::ws):=ai.cons (by rw [al];exact ⟨rfl,rfl,x,C,dx,[],rfl,hns,hc,hx,ai.nil⟩) r1
      obtain ⟨E0,hsl⟩:=j9 (P:=P) (w:=w) (mg:=mg) (base:=base) (qual:=qual) (f:=f) (cdv:=cdv) (A:=A) (outer:=outer) (s:=s) (E:=E) S r0 hlen
      have ed:=(cD h1 G).ed rfl
      obtain ⟨l2,h2,pp2⟩:=h2
      obtain ⟨hst,hal⟩:=cv h2 pp2
      have ad:=gu args h2 pp2 G
      have hi0:(aw (ae st))[0]?=some s0:=by
       have hp0:=(List.getElem?_eq_some_iff.mp hs0).1
       have hs1:=hs0
       rw [<- S.pre,List.getElem?_take_of_lt hp0] at hs1
       exact hs1
      have hv0:fB (ae st) s0:=by
       rcases S.par s0 (List.mem_of_getElem? hs0) with z|z
       ·exact .inl z
       ·exact .inr (.inl z)
      have hst':∀e∈Expr.Name s0 p0::args,∀y p,e ≠ .Starred y p:=fun e he=>by
       rcases List.mem_cons.mp he with rfl|he
       ·intro _ _ z;cases z
       ·exact hst e he
      obtain ⟨g1,g2,g3,i1,g4⟩:=eR G hl1
      obtain ⟨k1,k2,k3,i2,k4⟩:=eR G hl2
      have ne1:i1≠0:=fun z=>by rw [z] at g4;exact hn1 (Option.some.inj (g4.symm.trans hi0))
      have ne2:i2≠0:=fun z=>by rw [z] at k4;exact hn2 (Option.some.inj (k4.symm.trans hi0))
      rw [hbody]
      refine ⟨_,fS (iW (ed (fun _=>none)) (mq (n:=2) G.calm (gW (fT (i:=i1) G.nd g4 g1 g3) (gW (fT (i:=i2) G.nd k4 k1 k3) nX rfl) rfl) rfl rfl) gq (kD G hsw) rfl) (nV (iV (qP (G.gl b hgb) hm hga hrd hfc hk0 hF0 hr hb0 iu (nY (gX (i:=0) hi0 hv0 (dk hok).1 (dk hok).2) (ad (fun _=>none)) (aV fun _ _ z=>by cases z)) (aV fun _ _ z=>by cases z) (bK hst) hdb (vF (base_of rfl) (rO hst' (by rw [List.length_cons];omega)) hln)) rfl)),?_⟩
      refine ⟨E0,fun vv H1 s1 rv=>?_⟩
      rw [hpv] at rv
      obtain ⟨a,vs',rfl,hs,rl⟩:=eD rv
      rw [ai] at rl
      obtain ⟨va,vr,rfl,ra,rl⟩:=rl
      rw [ai] at rl
      obtain ⟨vb,vr',rfl,rb,rl⟩:=rl
      rw [ai] at rl
      subst rl
      have E1:=dX G.nd hsl (E0.same s1) g4 g2 (o:=false) (ra.imp fun _ _ _ _=>rfl)
      have E2:=dX G.nd (by rw [List.length_set];exact hsl) E1 k4 k2 (o:=false) (rb.imp fun _ _ _ _=>rfl)
      refine ⟨a,[va,vb],rfl,hs,rfl,va,[vb],rfl,vb,[],rfl,rfl,.ref x,?_,E2,fun vs H2 s2 rv=>?_⟩
      ·rw [List.getElem?_set_ne ne2,List.getElem?_set_ne ne1]
       have hn:0 < (aw (ae st)).length:=(List.getElem?_eq_some_iff.mp hi0).1
       rfl
      ·have s12:=s1.trans s2
       refine ⟨x,vs++[],C,dx,rfl,by rw [List.append_nil,<- rv.length];exact hfl,s12 _ _ hx,hc,hna C hns,q _ (fun a o ha h=>?_) ?_⟩
       ·rw [ay ha];exact s12 _ _ h
       ·rw [al,List.append_nil]
        exact ⟨p3.1,hfl.symm,x,C,dx,vs,rfl,hns,hc,aH,((rv.off (s12 _ _ hx) (fun a o ha h=>by rw [ay ha];exact h) p3.2.1).imp fun _ _ _=>True.intro)⟩
     ·exact (au hF).elim
    ·exact (au hF).elim
   ·exact (au hF).elim
  ·exact (au hF).elim
end Sp
namespace K
open PySem L2 Sp Qm
theorem Gh {Φ:Fx} {sc:Scope} {ps fs:List Str} {x1 x2:Str} {e:Expr} {args:List Expr} {n:Str} {ds q:List D} {u v:D} {k j:Nat} (hl:ds.length+1=ps.length) (h0:ag (aC Φ e false sc (eh ps (.obj n [] []::ds))) (.tup [u,v],j)) (hu:ax [u,v]=true) (h:ag (cf Φ args sc (bI (bI (eh ps (.obj n [] []::ds)) x1 (u,false)) x2 (v,false))) (q,k)) (hq:q.length=fs.length) (h1:ax q=true) (h2:fg q=true):ag (gG Φ sc ps x1 x2 e args n fs ds) (.obj n fs q):=by
 unfold gG
 rw [if_pos hl]
 refine h0.bnd ?_
 dsimp only
 rw [if_pos hu]
 refine h.bnd ?_
 dsimp only
 rw [if_pos hq]
 exact ⟨_,rfl,h1,h2,True.intro⟩
abbrev aq (u:V3):Qd:=(0,u.1,u.2.1,u.2.2)
theorem Jh {u:V3} (h:ff (aq u)):∃(k:Int) (v:V3),k≠0/\u=(k*v.1,k*v.2.1,k*v.2.2)/\sM (aq v):=by
 obtain ⟨k,a,b,c,d,hk,e0,e1,e2,e3,p,_⟩:=tZ h
 have a0:a=0:=(Int.mul_eq_zero.mp e0.symm).resolve_left hk
 subst a0
 obtain ⟨x,y,z⟩:=u
 exact ⟨k,(b,c,d),hk,by simp only [Prod.mk.injEq];exact ⟨e1,e2,e3⟩,p⟩
end K
namespace K
open PySem L2 Sp Qm
theorem Pa (b c d:Int):gI [0,b,c,d]=gI [b,c,d]:=by unfold gI;simp [bT]
theorem FY {k b c d:Int} (hk:k≠0) (p:Pm 0 b c d):gI [k*b,k*c,k*d]=k.natAbs:=by
 rw [<- Pa]
 have:=AJ hk p
 rw [Int.mul_zero] at this
 exact this
theorem CS {k b c d:Int} (hk:k≠0) (h:¬ (k*b=0/\k*c=0/\k*d=0)):L2.atI ((([k*b,k*c,k*d]:List Int).filter fun t => !decide (t=0)).map D.int) 0=some (.int (k*b9 0 b c d)):=by
 have:=wY (x:=0) (y:=k*b) (z:=k*c) (w:=k*d) (fun z=>h z.2)
 rw [show b9 0 (k*b) (k*c) (k*d)=b9 (k*0) (k*b) (k*c) (k*d) by rw [Int.mul_zero],lM _ _ _ _ hk] at this
 exact this
end K
namespace K
open PySem L2 Sp Qm
theorem rM {α:Type} {h:α->D} {bind:D->ak->Option ak} {body:ak->Rs Fl} (g:α->Bool) (Inv:ak->Prop):∀(xs:List α) (ρ:ak),(∀x∈xs,∀ρ,Inv ρ->∃ρ1,bind (h x) ρ=some ρ1/\((g x=true/\∃ρ2,ag (body ρ1) (.nx ρ2)/\Inv ρ2)\/(g x=false/\ag (body ρ1) (.rt (.bl false)))))->Inv ρ ->
  (xs.all g=true/\∃ρ',ag (de bind body (xs.map h) ρ) (.nx ρ')/\Inv ρ')\/(xs.all g=false/\ag (de bind body (xs.map h) ρ) (.rt (.bl false)))
 | [],ρ,_,i=>.inl ⟨rfl,ρ,⟨[],rfl,True.intro⟩,i⟩
 | x::xs,ρ,step,i=>by
  obtain ⟨ρ1,hb,h1⟩:=step x List.mem_cons_self ρ i
  have e:de bind body ((x::xs).map h) ρ=(body ρ1).bnd (gC (de bind body (xs.map h))):=by
   show (match bind (h x) ρ with|none=>Rs.st|some ρ1=>(body ρ1).bnd (gC (de bind body (xs.map h))))=_
   rw [hb]
  rw [e,List.all_cons]
  rcases h1 with ⟨hg,ρ2,h2,i2⟩ | ⟨hg,h2⟩
  ·rw [hg,Bool.true_and]
   rcases rM g Inv xs ρ2 (fun y hy=>step y (List.mem_cons_of_mem _ hy)) i2 with ⟨ha,ρ',h3,i3⟩ | ⟨ha,h3⟩
   ·exact .inl ⟨ha,ρ',h2.bnd h3,i3⟩
   ·exact .inr ⟨ha,h2.bnd h3⟩
  ·rw [hg,Bool.false_and]
   exact .inr ⟨rfl,h2.bnd ⟨[],rfl,True.intro⟩⟩
theorem xt {Φ:Fx} {sc:Scope} {ρ:ak} {α:Type} {h:α->D} {tg it:Expr} {body:List Stmt} {p:Pos} {d:D} {k:Nat} (g:α->Bool) (Inv:ak->Prop) (xs:List α) (hi:ag (aC Φ it true sc (demote it ρ)) (d,k)) (hd:items d=some (xs.map h)) (h0:Inv (demote it ρ))
  (step:∀x∈xs,∀ρ,Inv ρ->∃ρ1,bR sc tg (h x) ρ=some ρ1/\((g x=true/\∃ρ2,ag (aD Φ body sc ρ1) (.nx ρ2)/\Inv ρ2)\/(g x=false/\ag (aD Φ body sc ρ1) (.rt (.bl false))))) (hk:k<=1:=by first|exact Nat.le_refl 1|exact Nat.zero_le 1) (ht:eQ it tg=true:=by rfl) :
  (xs.all g=true/\∃ρ',ag (dS Φ (.For tg it body [] p) sc ρ) (.nx ρ')/\Inv ρ')\/(xs.all g=false/\ag (dS Φ (.For tg it body [] p) sc ρ) (.rt (.bl false))):=by
 rcases rM (bind:=bR sc tg) (body:=aD Φ body sc) (h:=h) g Inv xs (demote it ρ) step h0 with ⟨ha,ρ',h3,i3⟩ | ⟨ha,h3⟩
 ·exact .inl ⟨ha,ρ',j7 hi hd hk ht h3,i3⟩
 ·exact .inr ⟨ha,j7 hi hd hk ht h3⟩
theorem Ec {Φ:Fx} {sc:Scope} {ρ:ak} {s:Stmt} {ss:List Stmt} {b:Bool} {Inv:ak->Prop} (h:(b=true/\∃ρ',ag (dS Φ s sc ρ) (.nx ρ')/\Inv ρ')\/(b=false/\ag (dS Φ s sc ρ) (.rt (.bl false)))) (k:∀ρ',Inv ρ'->ag (aD Φ ss sc ρ') (.rt (.bl true))):ag (aD Φ (s::ss) sc ρ) (.rt (.bl b)):=by
 rcases h with ⟨rfl,ρ',h1,h2⟩ | ⟨rfl,h1⟩
 ·exact aJ h1 (k ρ' h2)
 ·exact di h1
theorem Gi {Φ:Fx} {sc:Scope} {ρ:ak} {s:Stmt} {b:Bool} {Inv Inv':ak->Prop} (h:(b=true/\∃ρ',ag (dS Φ s sc ρ) (.nx ρ')/\Inv ρ')\/(b=false/\ag (dS Φ s sc ρ) (.rt (.bl false)))) (k:∀ρ',Inv ρ'->Inv' ρ'):(b=true/\∃ρ',ag (aD Φ [s] sc ρ) (.nx ρ')/\Inv' ρ')\/(b=false/\ag (aD Φ [s] sc ρ) (.rt (.bl false))):=by
 rcases h with ⟨hb,ρ',h1,h2⟩ | ⟨hb,h1⟩
 ·exact .inl ⟨hb,ρ',aJ h1 cS,k ρ' h2⟩
 ·exact .inr ⟨hb,di h1⟩
theorem Gj {Φ:Fx} {sc:Scope} {ρ:ak} {c:Expr} {a b:List Stmt} {p:Pos} {k:Nat} {x y:Int} {Inv':ak->Prop} (hc:ag (aC Φ c false sc ρ) (.bl (!eqD (.int x) (.int y)),k)) (ha:ag (aD Φ a sc ρ) (.rt (.bl false))) (hb:b=[]) (i:Inv' ρ) :
  (decide (x=y)=true/\∃ρ',ag (aD Φ [.If c a b p] sc ρ) (.nx ρ')/\Inv' ρ')\/(decide (x=y)=false/\ag (aD Φ [.If c a b p] sc ρ) (.rt (.bl false))):=by
 subst hb
 rw [bZ] at hc
 cases e:decide (x=y) with
 | true=>rw [e] at hc;exact .inl ⟨rfl,ρ,aZ hc rfl cS,i⟩
 | false=>rw [e] at hc;exact .inr ⟨rfl,er hc rfl (by rw [List.append_nil];exact ha)⟩
instance eqT9:DecidableEq T9:=fun a b=>decidable_of_iff (a.l=b.l) ⟨T9.ext,fun h=>by rw [h]⟩
def qa (p:Qd):Nat->Int
 | 0=>p.1
 | 1=>p.2.1
 | 2=>p.2.2.1
 | _=>p.2.2.2
def xQ (p q:Qd):Bool:=(List.range 4).all fun i=>(List.range 4).all fun j=>decide (qa p i*qa q j=qa p j*qa q i)
theorem DK (p q:Qd):xQ p q=true ↔ ∀i j,i < 4->j < 4->qa p i*qa q j=qa p j*qa q i:=by
 unfold xQ
 simp only [List.all_eq_true,List.mem_range,decide_eq_true_eq]
 exact ⟨fun h i j hi hj=>h i hi j hj,fun h i hi j hj=>h i j hi hj⟩
theorem u6 {p:Qd} (h:ff p):∃m,m < 4/\qa p m≠0:=by
 by_cases h0:p.1=0
 ·by_cases h1:p.2.1=0
  ·by_cases h2:p.2.2.1=0
   ·exact ⟨3,by omega,fun h3=>h ⟨h0,h1,h2,h3⟩⟩
   ·exact ⟨2,by omega,h2⟩
  ·exact ⟨1,by omega,h1⟩
 ·exact ⟨0,by omega,h0⟩
theorem EC {p q:Qd} (h:∀i,i < 4->qa p i=qa q i):p=q:=by
 obtain ⟨a,b,c,d⟩:=p
 obtain ⟨e,f,g,k⟩:=q
 have h0:a=e:=h 0 (by omega)
 have h1:b=f:=h 1 (by omega)
 have h2:c=g:=h 2 (by omega)
 have h3:d=k:=h 3 (by omega)
 rw [h0,h1,h2,h3]
theorem Av (k:Int) (p:Qd):∀i,qa (kq k p) i=k*qa p i
 | 0=>rfl
 | 1=>rfl
 | 2=>rfl
 | _+3=>rfl
def tP (T:T9) (i j:Nat):Int:=match i,j with
 | 0,0=>T.n+T.a+T.e+T.i
 | 0,1=>T.h - T.f
 | 0,2=>T.c - T.g
 | 0,3=>T.d - T.b
 | 1,1=>T.n+T.a - T.e - T.i
 | 1,2=>T.b+T.d
 | 1,3=>T.c+T.g
 | 2,2=>T.n - T.a+T.e - T.i
 | 2,3=>T.f+T.h
 | 3,3=>T.n - T.a - T.e+T.i
 | _,_=>0
theorem wr (q:Qd) {i j:Nat} (hi:i<=j) (hj:j < 4):tP (tq q) i j=4*(qa q i*qa q j):=by
 obtain ⟨a,b,c,d⟩:=q
 have:(i=0\/i=1\/i=2\/i=3)/\(j=0\/j=1\/j=2\/j=3):=by omega
 rcases this with ⟨rfl|rfl|rfl|rfl,rfl|rfl|rfl|rfl⟩ <;> first|omega | (simp only [tP,tq,qa,n4,cQ,cO,cN,cI,cM,cH,cG,cF,cK];grind)
theorem tO (c:Int) (T:T9) {i j:Nat} (hi:i<=j) (hj:j < 4):tP (T.map (c * ·)) i j=c*tP T i j:=by
 have:(i=0\/i=1\/i=2\/i=3)/\(j=0\/j=1\/j=2\/j=3):=by omega
 rcases this with ⟨rfl|rfl|rfl|rfl,rfl|rfl|rfl|rfl⟩ <;> first|omega | (simp only [tP,T9.map];grind)
theorem yT {P N:Qd} (hP:ff P) (hN:ff N) (h:(tq P).low=(tq N).low):∃g g':Int,0 < g/\0 < g'/\∀i j,i < 4->j < 4->g'*(qa P i*qa P j)=g*(qa N i*qa N j):=by
 refine ⟨gI (tq P).l,gI (tq N).l,T9.gpos (cJ hP),T9.gpos (cJ hN),?_⟩
 have key:∀i j,i<=j->j < 4->gI (tq N).l*(qa P i*qa P j)=gI (tq P).l*(qa N i*qa N j):=fun i j hi hj=>by
  have e1:=wr P hi hj
  have e2:=wr N hi hj
  rw [T9.cut (cJ hP),tO _ _ hi hj] at e1
  rw [T9.cut (cJ hN),tO _ _ hi hj] at e2
  rw [h] at e1
  generalize gI (tq P).l=g at *
  generalize gI (tq N).l=g' at *
  generalize tP (tq N).low i j=t at *
  generalize qa P i*qa P j=x at *
  generalize qa N i*qa N j=y at *
  have:4*(g'*x)=4*(g*y):=by
   calc 4*(g'*x)=g'*(4*x):=by rw [Int.mul_left_comm]
    _=g'*(g*t):=by rw [e1]
    _=g*(g'*t):=by rw [Int.mul_left_comm]
    _=g*(4*y):=by rw [e2]
    _=4*(g*y):=by rw [Int.mul_left_comm]
  omega
 intro i j hi hj
 rcases Nat.le_total i j with h|h
 ·exact key i j h hj
 ·rw [Int.mul_comm (qa P i),Int.mul_comm (qa N i)];exact key j i h hi
theorem Ie {P N:Qd} (hP:ff P) (hN:ff N):xQ P N=decide ((tq P).low=(tq N).low):=by
 rw [Bool.eq_iff_iff,DK,decide_eq_true_eq]
 constructor
 ·intro h
  obtain ⟨m,hm,nm⟩:=u6 hN
  have pm:qa P m≠0:=fun z=>by
   obtain ⟨i,hi,ni⟩:=u6 hP
   have:=h i m hi hm
   rw [z,Int.zero_mul] at this
   rcases Int.mul_eq_zero.mp this with e|e
   ·exact ni e
   ·exact nm e
  have e:kq (qa N m) P=kq (qa P m) N:=EC fun i hi=>by
   rw [Av,Av,Int.mul_comm];exact h i m hi hm
  have t1:=kC (qa N m) P
  have t2:=kC (qa P m) N
  have e':tq (kq (qa N m) P)=tq (kq (qa P m) N):=by rw [e]
  unfold kq at e'
  rw [t1,t2] at e'
  have sq:∀x:Int,x≠0->0 < x*x:=fun x hx=>by
   rcases Int.lt_or_gt_of_ne hx with z|z
   ·exact Int.mul_pos_of_neg_of_neg z z
   ·exact Int.mul_pos z z
  rw [<- T9.low_mul (sq _ nm) (cJ hP),e',T9.low_mul (sq _ pm) (cJ hN)]
 ·intro h i j hi hj
  obtain ⟨g,g',hg,hg',key⟩:=yT hP hN h
  obtain ⟨m,hm,nm⟩:=u6 hP
  have k1:=key m i hm hi
  have k2:=key m j hm hj
  generalize qa P i=x at *
  generalize qa P j=y at *
  generalize qa N i=u at *
  generalize qa N j=v at *
  generalize qa P m=a at *
  generalize qa N m=b at *
  have e:(g'*a)*(x*v)=(g'*a)*(y*u):=by
   calc (g'*a)*(x*v)=g'*(a*x)*v:=by grind
    _=g*(b*u)*v:=by rw [k1]
    _=g*(b*v)*u:=by grind
    _=g'*(a*y)*u:=by rw [k2]
    _=(g'*a)*(y*u):=by grind
  exact Int.eq_of_mul_eq_mul_left (fun z=>by
   rcases Int.mul_eq_zero.mp z with z|z
   ·omega
   ·exact nm z) e
def T9.mir (T:T9):T9:=⟨T.n,-T.a,-T.b,-T.c,-T.d,-T.e,-T.f,-T.g,-T.h,-T.i⟩
theorem T9.bh_mir (A B:T9):A.mir.bh B.mir=A.bh B:=by
 unfold T9.mir T9.bh be
 simp only [Int.neg_mul_neg]
theorem T9.bd_mir {T:T9} {k:Nat} (h:T.bd k):T.mir.bd k:=by
 intro x hx
 simp only [T9.l,T9.mir,List.mem_cons,List.not_mem_nil,or_false] at hx
 rcases hx with rfl|rfl|rfl|rfl|rfl|rfl|rfl|rfl|rfl|rfl
 ·exact h _ (by simp [T9.l])
 all_goals rw [Int.natAbs_neg];exact h _ (by simp [T9.l])
theorem T9.eqDD (A B:T9):Sp.eqD A.D B.D=decide (A=B):=by
 rw [Bool.eq_iff_iff,decide_eq_true_eq]
 constructor
 ·intro h
  have h:((A.n==B.n)&&(((A.a==B.a)&&((A.b==B.b)&&((A.c==B.c)&&true)))&&(((A.d==B.d)&&((A.e==B.e)&&((A.f==B.f)&&true)))&&(((A.g==B.g)&&((A.h==B.h)&&((A.i==B.i)&&true)))&&true))&&true))=true:=h
  simp only [Bool.and_eq_true,beq_iff_eq,and_true] at h
  obtain ⟨h1,⟨h2,h3,h4⟩,⟨h5,h6,h7⟩,h8,h9,h10⟩:=h
  exact T9.ext (by simp [T9.l,h1,h2,h3,h4,h5,h6,h7,h8,h9,h10])
 ·rintro rfl;exact T9.eqD A
theorem T9.lows {A B:T9} (ha:0 < A.n) (hb:0 < B.n):(A.low.bh B.low).low=(A.bh B).low:=by
 rw [T9.low_l ha (T9.lown hb),T9.low_r ha hb]
theorem oN {c:Int} (h:Builtin.Int.intBits c<=2 ^ 21):Builtin.Int.intBits (c*2 ^ 60)<=2 ^ 22:=by
 have key:∀n:Nat,Builtin.Int.intBits c<=n->Builtin.Int.intBits (c*2 ^ 60)<=n+60:=fun n hn=>ug (by
  have:=uD hn
  rw [Int.natAbs_mul,Nat.pow_add,show ((2:Int) ^ 60).natAbs=2 ^ 60 from rfl]
  exact Nat.mul_lt_mul_of_pos_right this (by decide))
 exact Nat.le_trans (key _ h) (by decide)
end K
namespace Sp
open PySem PySem.Spec PyProof.Rows L2
variable {X:Cx}
end Sp
namespace Sp
open PySem PySem.Spec PyProof.Rows L2
variable {X:Cx}
end Sp
namespace Sp
open PySem PySem.Spec PyProof.Rows L2
section
variable {prog:Program} {w:World} {A:Around} {E:Value->Shared->Prop} {s:Shared}
theorem vz:typeLookup (.type "list_reverseiterator") "__len__" = pure none:=by rw [typeLookup_type,builtinLookup_eq_fast];kernel_rfl
theorem yR:typeLookup (.type "list_reverseiterator") "__length_hint__" = pure (some (.builtin "list_reverseiterator.__length_hint__")):=by rw [typeLookup_type,builtinLookup_eq_fast];kernel_rfl
theorem CP:isSubtype (.type "list_reverseiterator") (.type "list_reverseiterator")=pure true:=by kernel_rfl
theorem wS:splitId "list_reverseiterator.__length_hint__" = some ("list_reverseiterator", "__length_hint__"):=by decide +kernel
theorem wT {S I l:Nat} {items:Array Value} {res:Value} {R:Result->Shared->Prop} (hh:A.in1.handled=none) (n1:S≠I) (n2:S≠l) (n3:l≠I):∀(k:Nat) (s:Shared) (acc:Array Value) (c:Nat),k<=items.size->s.heap.IsRevIter I l ((k:Int) - 1)->s.heap.IsList l items->s.heap.get? S=some (fF acc c)->acc.size+k<=sizeLine ->
  (∀h' acc' c',h'.get? S=some (fF acc' c')->acc'.toList=acc.toList++(items.toList.take k).reverse->(∀(b:Nat) o,b≠S->b≠I->s.heap.get? b=some o->h'.get? b=some o)->R (.ok (.ret res)) { s with heap:=h' }) ->
  codeAny (model prog w) A (.builtin "list.extend.loop" ⟨[.ref S,.ref I,res],[]⟩) R s
 | 0,s,acc,c,_,st,pl,hS,hz,q=>by
  refine gO (wpAny_pyNext_rev_end hh (by simpa using st) fun h' eb=>?_)
  exact q h' acc c (eb _ _ n1 hS) (by simp) fun b o _ hb e=>eb b o hb e
 | k+1,s,acc,c,hk,st,pl,hS,hz,q=>by
  have e:((k+1:Nat):Int) - 1=(k:Int):=by omega
  rw [e] at st
  have hx:items[k]?=some items[k]:=Array.getElem?_eq_getElem (by omega)
  refine gO (wpAny_pyNext_rev_item st pl hx fun h' st' sb=>?_)
  refine ⟨acc,c,(sb.2 _ n1).trans hS,by omega,fun h2 c2 hS2 sb2=>?_⟩
  have sb2:Heap.SameBut S h' h2:=sb2
  obtain ⟨o,e1,e2,e3⟩:=st'
  obtain ⟨o2,f1,f2,f3⟩:=pl
  refine wT hh n1 n2 n3 k { s with heap:=h2 } (acc.push items[k]) c2 (by omega) ⟨o,(sb2.2 _ (Ne.symm n1)).trans e1,e2,e3⟩ ⟨o2,(sb2.2 _ (Ne.symm n2)).trans ((sb.2 _ n3).trans f1),f2,f3⟩ hS2 (by rw [Array.size_push];omega) fun h3 acc' c' g1 g2 g3=>?_
  refine q h3 acc' c' g1 ?_ fun b o hb1 hb2 e=>g3 b o hb1 hb2 ((sb2.2 b hb1).trans ((sb.2 b hb2).trans e))
  rw [g2,Array.toList_push,List.take_add_one,List.append_assoc]
  congr 1
  have:items.toList[k]?=some items[k]:=by rw [Array.getElem?_toList];exact hx
  rw [this]
  simp
theorem yW {n l:Nat} {items:Array Value} {Q:Value->Shared->Prop} (hh:A.handled=none) (hl:l < n) (st:s.heap.IsRevIter n l ((items.size:Int) - 1)) (pl:s.heap.IsList l items) (sz:s.heap.objs.size=n+1) (hz:items.size<=sizeLine)
  (go:∀h1 acc m,h1.get? (n+1)=some (fF acc m)->acc.toList=items.toList.reverse->(∀(d:Nat) o,d < n->s.heap.get? d=some o->h1.get? d=some o)->Q (.ref (n+1)) { s with heap:=h1 }) :
  wpAny (model prog w) A (call (.type "list") [.ref n]) Q E s:=by
 obtain ⟨h0,gg,dd,t0,oo⟩:=s
 have sz:h0.objs.size=n+1:=sz
 refine callType_codes (Q₁:=fun ob s₁=>ob=.ref (n+1)/\s₁=⟨h0.push { cls:=.type "list", data:=.seq #[] },gg,dd,t0,oo⟩) F.called_list (F.typeCall_list_1 _) F.entry_list_init (code_list_new _ ⟨by show Value.ref h0.objs.size=_;rw [sz],rfl⟩) fun ob s₁ hq=>?_
 obtain ⟨rfl,rfl⟩:=hq
 have hS:(h0.push { cls:=.type "list", data:=.seq #[] }).get? (n+1)=some (fF #[] 0):=by rw [<- sz];exact Heap.get?_push_size _ rfl
 refine ⟨⟨_,hS,rfl⟩,F.args_list_init_2 _ _,?_⟩
 show wpAny _ A.in1.in1 (Builtin.List.listItems (.ref (n+1)) >>= fun old=>Builtin.List.listUpdate (.ref (n+1)) (fun _ => #[]) >>= fun _=>letGo old.toList.reverse >>= fun _=>Builtin.List.listExtendWith (.ref (n+1)) (.ref n) .none) _ _ _
 unfold Builtin.List.listItems
 refine wpAny_bind (wpAny_bind (wpAny_seqItems hS rfl (wpAny_pure ?_)))
 show wpAny _ A.in1.in1 (updateSeq (n+1) (fun _ => #[]) >>= _) _ _ _
 refine wpAny_bind (wpAny_updateSeq hS rfl ?_)
 refine wpAny_bind (wpAny_letGo ?_)
 have S1:=Heap.get?_update_self (Obj.mapSeq (fun _=>(#[]:Array Value))) hS rfl
 generalize hr1:(h0.push { cls:=.type "list", data:=.seq #[] }).update (n+1) (Obj.mapSeq fun _=>(#[]:Array Value))=r1 at S1
 have k1:∀(d:Nat) o,d≠n+1->h0.get? d=some o->r1.get? d=some o:=fun d o g e=>by rw [<- hr1];exact (Heap.get?_update_other _ _ (Ne.symm g)).trans (Heap.get?_push_of_some _ e)
 obtain ⟨m1,S1⟩:∃m,r1.get? (n+1)=some (fF #[] m):=⟨_,S1⟩
 obtain ⟨o,e1,e2,e3⟩:=st
 obtain ⟨o2,f1,f2,f3⟩:=pl
 have z1:r1.IsRevIter n l ((items.size:Int) - 1):=⟨o,k1 _ _ (by omega) e1,e2,e3⟩
 have p1:r1.IsList l items:=⟨o2,k1 _ _ (by omega) f1,f2,f3⟩
 have ty:Shared.TypeIs ⟨r1,gg,dd,t0,oo⟩ (.ref n) "list_reverseiterator" := ⟨_,k1 _ _ (by omega) e1,e2⟩
 unfold Builtin.List.listExtendWith
 refine wpAny_bind (wpAny_typeOf ty ?_)
 have g1:Builtin.List.listSameRef (.ref (n+1)) (.ref n)=false:=by simp [Builtin.List.listSameRef]
 have g2:(Value.type "list_reverseiterator" == Value.type "list")=false:=by decide
 have g3:(Value.type "list_reverseiterator" == Value.type "tuple")=false:=by decide
 simp only [g1,g2,g3,Bool.or_false,Bool.false_eq_true,if_false]
 refine wpAny_bind (wpAny_pyIter_revIter z1 (wpAny_bind (wpAny_holding ?_)))
 unfold Builtin.List.listLengthHint
 refine wpAny_bind (wpAny_specialOf ty vz ?_)
 show wpAny _ _ (specialOf (Value.ref n) (Str.ofString "__length_hint__") >>= _) _ _ _
 refine wpAny_bind (wpAny_specialOf ty yR ?_)
 dsimp only
 rw [wS]
 refine wpAny_bind (wpAny_isInstance ty CP ?_)
 rw [if_neg (by decide)]
 rw [if_pos (by decide +kernel)]
 rw [if_neg (by decide)]
 refine wpAny_pure ?_
 rw [if_neg (by decide +kernel)]
 refine wpAny_pure ⟨plainId_quiet F.plain_extend_loop _,?_⟩
 refine wT (A:=A.in1) (S:=n+1) (I:=n) (l:=l) hh (by omega) (by omega) (by omega) items.size ⟨r1,gg,dd,t0,oo⟩ #[] m1 (Nat.le_refl _) z1 p1 S1 (by simpa using hz) fun h' acc' c' q1 q2 q3=>?_
 refine ⟨rfl,go h' acc' c' q1 (by rw [q2];simp;exact List.take_of_length_le (by simp)) fun d o hd e=>q3 d o (by omega) (by omega) (k1 _ _ (by omega) e)⟩
end
variable {X:Cx}
theorem Dp {ρ:ak} {e:Expr} {f g:Str} {p q r t:Pos} {l:List D} {k:Nat} (hc:X.calm=true) (hf:f = "list") (hg:g = "reversed") (gf:Gl X f) (gg:Gl X g) (mf:X.mg f=none) (mg:X.mg g=none)
  (h:AD X ρ [e] [.lst l] k) (hst:∀y∈[e],∀x p,y ≠ .Starred x p) (fl:ax l=true):ED X ρ (.Call (.Name f p) [.Call (.Name g q) [e] [] r] [] t) (.lst l.reverse) 0:=by
 intro ow pins s σ H Q I ⟨E,qq⟩
 subst hf hg
 refine wpAny_Call_Name_kw (dl I gf mf (u:=.type "list") (by decide +kernel) ?_ (by decide +kernel) (by decide +kernel))
 refine PyProof.Rows.callWith_type1 (Calls.spliced_cons (wpAny_Call_Name_kw (dl I gg mg (u:=.type "reversed") (by decide +kernel) ?_ (by decide +kernel) (by decide +kernel)))) rfl rfl
 have n1:=aV (env:=X.env) (es:=[]) (hst e List.mem_cons_self)
 have n2:(backTo r (starEach [] X.env)).any (·.1)=false:=bK fun x hx=>by cases hx
 refine PyProof.Rows.callWith_type1 (aR (h ow r pins s σ H _ I ⟨E,fun vs H1 s1 r1=>(show (fun vs H1=>aA H H1/\ai X.K H1 (Kp ow H k) [.lst l] vs) vs H1 from ⟨s1,r1⟩)⟩) fun us s1 ⟨vs,H1,I1,rv,sm,rp⟩=>?_) n1 n2
 obtain ⟨v,rfl,rv1⟩:=rp.only
 obtain ⟨a,xs,rfl,hq,rl,hk1⟩:=iU (κ:=false) rv1
 replace hq:cq X.K H1 a xs:=hq
 obtain ⟨u,rfl,ru⟩:=eJ rv
 cases (show u=Value.ref a from ru)
 obtain ⟨its,rvs,pt,hz⟩:=I1.list hq
 have hh:X.A.handled=none:=I.ok.hd hc
 have pl:=pt.isList
 refine call_reversed_list pl ?_
 refine Calls.spliced_nil ?_
 obtain ⟨hp,gs,dr,tk,os⟩:=s1
 have pl:hp.IsList a its.toArray:=pl
 have el:=rvs.length
 have fr:∀j:Nat,H1 (hp.objs.size+j)=none:=fun j=>I1.hok.fresh (Nat.le_add_right _ _)
 have alt:(a:Nat) < hp.objs.size:=let ⟨o,e,_⟩:=pl;Heap.lt_size e
 have KD:(hp.push (revObj a (((its.toArray.size:Nat):Int) - 1))).IsList a its.toArray:=let ⟨o,e,c⟩:=pl;⟨o,Heap.get?_push_of_some _ e,c⟩
 refine yW (n:=hp.objs.size) (l:=a) (items:=its.toArray) hh alt ⟨_,Heap.get?_push_size _ rfl,rfl,rfl⟩ KD (Heap.size_push ..) (by rw [List.size_toArray,<- el];exact hz) fun h3 acc m S3 eA kp=>?_
 have kk:∀b o,hp.get? b=some o->h3.get? b=some o:=fun b o e=>kp b o (Heap.lt_size e) (Heap.get?_push_of_some _ e)
 generalize hn:hp.objs.size=n at *
 have hk0:dA X.prog X.w H1 h3:=I1.hok.kept kk
 have ob:cn X.prog X.w (aN H1 (n+1) (.lst xs.reverse)) h3 (n+1) (.lst xs.reverse):=⟨by rw [List.length_reverse];exact hz,acc.toList,m,by rw [eA];exact rvs.reverse,by rw [Array.toArray_toList];exact S3⟩
 have hk1:=fv hk0 (fr 1) ob
 generalize hH:aN H1 (n+1) (.lst xs.reverse)=H4 at hk1
 have g6:H4 (n+1)=some (.lst xs.reverse):=by rw [<- hH];exact aH
 have old:∀c:Nat,c < n->H4 c=H1 c:=fun c hc=>by rw [<- hH,ay (by show (c:Nat)≠n+1;omega)]
 have inn:∀(c:Nat) o,H1 c=some o->c < n:=fun c o e=>by
  rcases Nat.lt_or_ge c n with z|z
  ·exact z
  ·have:=fr (c - n);rw [Nat.add_sub_cancel' z] at this;rw [this] at e;cases e
 have s4:aA H1 H4:=fun c o e=>(old c (inn c o e)).trans e
 have I4:Inv X pins σ H4 ⟨h3,gs,dr,tk,os⟩:=I1.un (t':=tk) (kA kk (fun c hc=>old c (by rw [<- hn];exact hc)) fun c o e=>by rw [hn];exact inn c o e) hk1
 refine ⟨.ref (n+1),H4,I4,rfl,qq _ H4 (sm.trans s4) ?_⟩
 rw [al]
 exact ⟨n+1,_,true,rfl,g6,⟨rfl,sm.free (fr 1)⟩,(ai.flat _ fl (rl.same s4)).rev⟩
end Sp
namespace Sp
open PySem PySem.Spec PyProof.Rows L2
variable {X:Cx}
theorem BU {H0:Hp} {ρ:ak} {ss:List Stmt} {fl:Fl} (h:fC X H0 (eT ρ) ss fl):fC X H0 ρ ss fl:=fun pins s σ H D I ⟨ow,E,hl,B,q⟩ =>
 h pins s σ H D I ⟨fun _=>none,zk E,hl,fun a o h=>⟨(B a o h).1,rfl⟩,q.keep ⟨fun a o h _=>h,fun _ _ _ _=>rfl⟩⟩
end Sp
namespace Sp
open PySem PySem.Spec PyProof.Rows L2
end Sp
namespace Sp
open PySem PySem.Spec PyProof.Rows L2
def oj (x:Int):List Int->List Int
 | []=>[x]
 | y::l=>if x<=y then x::y::l else y::oj x l
def jk:List Int->List Int
 | []=>[]
 | x::l=>oj x (jk l)
theorem j5 (x:Int):∀l:List Int,(oj x l).Perm (x::l)
 | []=>List.Perm.refl _
 | y::l=>by
  rw [oj]
  split
  ·exact List.Perm.refl _
  ·exact ((j5 x l).cons y).trans (List.Perm.swap x y l)
theorem jO:∀l:List Int,(jk l).Perm l
 | []=>List.Perm.refl _
 | x::l=>(j5 x (jk l)).trans ((jO l).cons x)
theorem rB (x:Int):∀{l:List Int},l.Pairwise (· <= ·)->(oj x l).Pairwise (· <= ·)
 | [],_=>List.pairwise_singleton _ _
 | y::l,h=>by
  rw [oj]
  have hh:=List.pairwise_cons.mp h
  split
  ·rename_i hxy
   exact List.pairwise_cons.mpr ⟨fun z hz=>by
    rcases List.mem_cons.mp hz with rfl|hz
    ·exact hxy
    ·exact Int.le_trans hxy (hh.1 z hz),h⟩
  ·rename_i hxy
   refine List.pairwise_cons.mpr ⟨fun z hz=>?_,rB x hh.2⟩
   rcases List.mem_cons.mp ((j5 x l).mem_iff.mp hz) with rfl|hz
   ·omega
   ·exact hh.1 z hz
theorem qA:∀l:List Int,(jk l).Pairwise (· <= ·)
 | []=>List.Pairwise.nil
 | x::l=>rB x (qA l)
theorem qS:∀{a b:List Int},a.Perm b->a.Pairwise (· <= ·)->b.Pairwise (· <= ·)->a=b
 | [],b,p,_,_=>by rw [List.nil_perm.mp p]
 | x::a,[],p,_,_=>by have:=p.length_eq;cases this
 | x::a,y::b,p,ha,hb=>by
  have h1:=List.pairwise_cons.mp ha
  have h2:=List.pairwise_cons.mp hb
  have e:x=y:=by
   have i1:x∈y::b:=p.mem_iff.mp List.mem_cons_self
   have i2:y∈x::a:=p.mem_iff.mpr List.mem_cons_self
   rcases List.mem_cons.mp i1 with e|i1
   ·exact e
   ·rcases List.mem_cons.mp i2 with e|i2
    ·exact e.symm
    ·have:=h1.1 y i2;have:=h2.1 x i1;omega
  subst e
  rw [qS ((List.perm_cons x).mp p) h1.2 h2.2]
theorem oZ {a ns:List Int} (p:a.Perm ns) (h:a.Pairwise (· <= ·)):a=jk ns:=qS (p.trans (jO ns).symm) h (qA ns)
theorem yw (ns:List Int):(jk ns).length=ns.length:=(jO ns).length_eq
theorem rA:∀{ns:List Int} {us:List Value},aK (ns.map V.int) us->IntsAre us ns
 | [],us,h=>by cases h;exact .nil
 | n::ns,us,h=>by
  cases h with
  | cons r1 r2=>obtain ⟨t,rfl⟩:=r1;exact .cons n t (rA r2)
theorem sy:∀{ns:List Int} {us:List Value},IntsAre us ns->aK (ns.map V.int) us
 | _,_,.nil=>.nil
 | _,_,.cons n t h=>.cons ⟨t,rfl⟩ (sy h)
theorem ip {K:W.Frag} {H:Hp} {P:bz}:∀{ns:List Int} {vs:List V},ai K H P (ns.map D.int) vs->vs=ns.map V.int
 | [],vs,h=>by rw [List.map_nil,ai] at h;exact h
 | n::ns,vs,h=>by
  rw [List.map_cons,ai] at h
  obtain ⟨v,r,rfl,h1,h2⟩:=h
  rw [al] at h1
  rw [ip h2,h1];rfl
theorem iA {K:W.Frag} {H:Hp} {P:bz}:∀ns:List Int,ai K H P (ns.map D.int) (ns.map V.int)
 | []=>ai.nil
 | n::ns=>ai.cons (by rw [al]) (iA ns)
variable {X:Cx}
def FQ (b:Bool) (n0:Nat) (p0 kp:Pos):List Keyword:=cond b [⟨some (Str.ofString "reverse"),.Constant (.bool true) n0 p0,kp⟩] []
def jl (b:Bool) (ns:List Int):List Int:=cond b (jk ns).reverse (jk ns)
theorem GK {ρ:ak} {e:Expr} {f:Str} {p t p0 kp:Pos} {n0:Nat} {ns:List Int} {k:Nat} (b:Bool) (hf:f = "sorted") (gf:Gl X f) (mf:X.mg f=none)
  (h:AD X ρ [e] [.lst (ns.map D.int)] k) (hst:∀y∈[e],∀x p,y ≠ .Starred x p) (hn:ns.length < 64):ED X ρ (.Call (.Name f p) [e] (FQ b n0 p0 kp) t) (.lst ((jl b ns).map D.int)) 0:=by
 intro ow pins s σ H Q I ⟨E,qq⟩
 subst hf
 refine wpAny_Call_Name_kw (dl I gf mf (u:=.builtin "sorted") (by decide +kernel) ?_ (by decide +kernel) (by decide +kernel))
 have n1:=aV (env:=X.env) (es:=[]) (hst e List.mem_cons_self)
 have n3:starEach [e] X.env=(false,eval e X.env)::starEach [] X.env:=n1
 have key:∀(us:List Value) (s1:Shared),(∃vs H1,Inv X pins σ H1 s1/\aK vs us/\aA H H1/\ai X.K H1 (Kp ow H k) [.lst (ns.map D.int)] vs)->wpAny (model X.prog X.w) X.A (call (.builtin "sorted") us (cond b [(Str.ofString "reverse", .bool true)] [])) (fun v s2 => ∃x H2,Inv X pins σ H2 s2/\aT x v/\Q x H2) X.xe s1:=by
  rintro us s1 ⟨vs,H1,I1,rv,sm,rp⟩
  obtain ⟨v,rfl,rv1⟩:=rp.only
  obtain ⟨a,xs,rfl,hq,rl,hk1⟩:=iU (κ:=false) rv1
  replace hq:cq X.K H1 a xs:=hq
  obtain ⟨u,rfl,ru⟩:=eJ rv
  cases (show u=Value.ref a from ru)
  obtain ⟨its,rvs,pt,hz⟩:=I1.list hq
  have pl:=pt.isList
  have ex:=ip rl
  subst ex
  have hI:=rA rvs
  have el:=rvs.length
  rw [List.length_map] at el
  obtain ⟨hp,gs,dr,tk,os⟩:=s1
  have fin:∀(out:Array Value) (ns':List Int),IntsAre out.toList ns'->ns'=jl b ns->∃x H2,Inv X pins σ H2 ⟨sortedAll hp its out,gs,dr,tk,os⟩/\aT x (.ref (hp.objs.size+1))/\Q x H2:=by
   intro out ns' a1 e1
   subst e1
   obtain ⟨m,S3⟩:=sortedAll_at hp its out
   have kk:∀b o,hp.get? b=some o->(sortedAll hp its out).get? b=some o:=fun b o e=>sortedAll_old e
   generalize sortedAll hp its out=h3 at *
   have fr:∀j:Nat,H1 (hp.objs.size+j)=none:=fun j=>I1.hok.fresh (Nat.le_add_right _ _)
   generalize hn':hp.objs.size=n at *
   have hk0:dA X.prog X.w H1 h3:=I1.hok.kept kk
   have lb:(jl b ns).length=ns.length:=by cases b <;> simp [jl,yw]
   have ob:cn X.prog X.w (aN H1 (n+1) (.lst ((jl b ns).map V.int))) h3 (n+1) (.lst ((jl b ns).map V.int)):=⟨by rw [List.length_map,lb,<- List.length_map (f:=V.int)];exact hz,out.toList,m,sy a1,by rw [Array.toArray_toList];exact S3⟩
   have hk1:=fv hk0 (fr 1) ob
   generalize hH:aN H1 (n+1) (.lst ((jl b ns).map V.int))=H4 at hk1
   have g6:H4 (n+1)=some (.lst ((jl b ns).map V.int)):=by rw [<- hH];exact aH
   have old:∀c:Nat,c < n->H4 c=H1 c:=fun c hc=>by rw [<- hH,ay (by show (c:Nat)≠n+1;omega)]
   have inn:∀(c:Nat) o,H1 c=some o->c < n:=fun c o e=>by
    rcases Nat.lt_or_ge c n with z|z
    ·exact z
    ·have:=fr (c - n);rw [Nat.add_sub_cancel' z] at this;rw [this] at e;cases e
   have s4:aA H1 H4:=fun c o e=>(old c (inn c o e)).trans e
   have I4:Inv X pins σ H4 ⟨h3,gs,dr,tk,os⟩:=I1.un (t':=tk) (kA kk (fun c hc=>old c (by rw [<- hn'];exact hc)) fun c o e=>by rw [hn'];exact inn c o e) hk1
   refine ⟨.ref (n+1),H4,I4,rfl,qq _ H4 (sm.trans s4) ?_⟩
   rw [al]
   exact ⟨n+1,_,true,rfl,g6,⟨rfl,sm.free (fr 1)⟩,iA _⟩
  cases b with
  | false=>exact sorted_ints pl hI (by omega) fun out ns' a1 a2 a3=>fin out ns' a1 (oZ a2 a3)
  | true =>
   refine sorted_ints_rev (b:=true) pl hI (by omega) fun out ns' a1 a2 a3=>fin out ns' a1 ?_
   have a3:ns'.Pairwise (· >= ·):=a3
   have:=oZ (a:=ns'.reverse) ((List.reverse_perm ns').trans a2) (List.pairwise_reverse.mpr a3)
   show ns'=(jk ns).reverse
   rw [<- this,List.reverse_reverse]
 cases b with
 | false =>
  refine callWith_kw (kws:=[]) (aR (h ow t pins s σ H _ I ⟨E,fun vs H1 s1 r1=>(show (fun vs H1=>aA H H1/\ai X.K H1 (Kp ow H k) [.lst (ns.map D.int)] vs) vs H1 from ⟨s1,r1⟩)⟩) fun us s1 ⟨vs,H1,I1,rv,sm,rp⟩=>kws_nil (key us s1 ⟨vs,H1,I1,rv,sm,rp⟩)) (by rw [n1];rfl) (bK fun x hx=>hst x hx)
 | true =>
  refine callWith_kw (kws:=[⟨some (Str.ofString "reverse"),.Constant (.bool true) n0 p0,kp⟩]) (aR (h ow t pins s σ H _ I ⟨E,fun vs H1 s1 r1=>(show (fun vs H1=>aA H H1/\ai X.K H1 (Kp ow H k) [.lst (ns.map D.int)] vs) vs H1 from ⟨s1,r1⟩)⟩) fun us s1 ⟨vs,H1,I1,rv,sm,rp⟩=>kws_cons (wpAny_pure (kws_nil (key us s1 ⟨vs,H1,I1,rv,sm,rp⟩)))) (by rw [n1];rfl) (bK fun x hx=>hst x hx)
end Sp
namespace Sp
open PySem PySem.Spec PyProof.Rows L2
theorem wk:∀{us:List Value},us.length < 2->(us.toArray.zip us.toArray).map (·.2)=us.toArray
 | [],_=>by simp
 | [_],_=>by simp
 | _::_::_,h=>absurd h (by simp)
section
variable {prog:Program} {w:World} {A:Around} {E:Value->Shared->Prop} {s:Shared}
theorem uW {b:Addr} {us:List Value} {m:Nat} {R:Fin->Shared->Prop} (hb:s.heap.get? b=some (seqObj "list" us.toArray m)) (hu:us.length < 2)
  (go:R (.done (.ret .none)) { s with heap:=sortedHeap s.heap b us us.toArray }):wpAny (model prog w) A (Builtin.«list.sort» ⟨[.ref b],[]⟩) R E s:=by
 have lb:b < s.heap.objs.size:=Heap.lt_size hb
 obtain ⟨c1,g1⟩:∃c,(s.heap.update b (Obj.mapSeq fun _ => #[])).get? b=some (seqObj "list" #[] c):=⟨_,get?_update_seq hb (fun _ => #[])⟩
 rw [list_sort_plain]
 refine wpAny_bind (listItems_at hb rfl (wpAny_bind (listUpdate_at hb rfl (wpAny_bind (seqEpoch_at g1 rfl (wpAny_bind (wpAny_newTuple (wpAny_bind (wpAny_newList (wpAny_holding ?_))))))))))
 have g6:(((s.heap.update b (Obj.mapSeq fun _ => #[])).push (seqObj "tuple" us.toArray 0)).push (seqObj "list" #[] 0)).get? b=some (seqObj "list" #[] c1):=by
  have l1:b < (s.heap.update b (Obj.mapSeq fun _ => #[])).objs.size:=by rw [Heap.size_update];exact lb
  exact Heap.get?_push_of_some _ (Heap.get?_push_of_some _ g1)
 have l2:us.toArray.size < 2:=by rw [List.size_toArray];exact hu
 change wpAny (model prog w) A _ R E { s with heap:=((s.heap.update b (Obj.mapSeq fun _ => #[])).push (seqObj "tuple" us.toArray 0)).push (seqObj "list" #[] 0) }
 dsimp only
 rw [if_pos l2,if_pos l2]
 refine wpAny_bind (wpAny_pure ?_)
 rw [StateT.run_pure]
 refine wpAny_bind (wpAny_pure ?_)
 dsimp only
 have ea:Array.map (fun x=>x.snd) (arrOf (SortSt.mk' general' (us.toArray.zip us.toArray) #[] 7 none))=us.toArray:=wk hu
 rw [ea]
 refine wpAny_bind (seqEpoch_at g6 rfl (wpAny_bind (listUpdate_at g6 rfl ?_ (hsz2:=by rw [sizeLine_eq];omega))))
 simp only [bne_self_eq_false,Bool.false_eq_true,if_false]
 exact wpAny_pure go
theorem qB {b:Addr} {us:List Value} {R:Value->Shared->Prop} (hb:s.heap.IsList b us.toArray) (hu:us.length < 2)
  (go:R (.ref (s.heap.objs.size+1)) { s with heap:=sortedAll s.heap us us.toArray }):wpAny (model prog w) A (call (.builtin "sorted") [.ref b]) R E s:=by
 have z1:((s.heap.push (seqObj "list" #[] 0)).update s.heap.objs.size (Obj.mapSeq (· ++ us.toArray))).objs.size=s.heap.objs.size+1:=(Heap.size_update ..).trans (size_push' ..)
 have z2:(((s.heap.push (seqObj "list" #[] 0)).update s.heap.objs.size (Obj.mapSeq (· ++ us.toArray))).push (seqObj "list" us.toArray 0)).get? (s.heap.objs.size+1)=some (seqObj "list" us.toArray 0):=z1 ▸ Heap.get?_push_size _ rfl
 refine Calls.call_function_entry kind_sorted plain_sorted entry_sorted (args_sorted1 _) ?_
 unfold Builtin.«sorted»
 refine wpAny_bind (m:=checkCount "sorted" 1 1 _) (wpAny_pure (wpAny_bind (collect_list hb (wpAny_bind (wpAny_newList ?_)) (by rw [sizeLine_eq];omega))))
 change wpAny _ _ _ _ _ { s with heap:=((s.heap.push (seqObj "list" #[] 0)).update s.heap.objs.size (Obj.mapSeq (· ++ us.toArray))).push (seqObj "list" us.toArray 0) }
 rw [z1]
 exact wpAny_bind (wpAny_holding (wpAny_call_entry slot_list_sort ⟨_,z2,rfl⟩ entry_list_sort (uW z2 hu ⟨_,rfl,wpAny_pure ⟨_,rfl,go⟩⟩) (args_list_sort _)))
end
variable {X:Cx}
theorem zr {ρ:ak} {e:Expr} {f:Str} {p t:Pos} {l:List D} {k:Nat} (hf:f = "sorted") (gf:Gl X f) (mf:X.mg f=none)
  (h:AD X ρ [e] [.lst l] k) (hst:∀y∈[e],∀x p,y ≠ .Starred x p) (hn:l.length < 2) (fl:ax l=true):ED X ρ (.Call (.Name f p) [e] [] t) (.lst l) 0:=by
 intro ow pins s σ H Q I ⟨E,qq⟩
 subst hf
 refine wpAny_Call_Name_kw (dl I gf mf (u:=.builtin "sorted") (by decide +kernel) ?_ (by decide +kernel) (by decide +kernel))
 have n1:=aV (env:=X.env) (es:=[]) (hst e List.mem_cons_self)
 refine callWith_kw (kws:=[]) (aR (h ow t pins s σ H _ I ⟨E,fun vs H1 s1 r1=>(show (fun vs H1=>aA H H1/\ai X.K H1 (Kp ow H k) [.lst l] vs) vs H1 from ⟨s1,r1⟩)⟩) fun us s1 ⟨vs,H1,I1,rv,sm,rp⟩=>kws_nil ?_) (by rw [n1];rfl) (bK fun x hx=>hst x hx)
 obtain ⟨v,rfl,rv1⟩:=rp.only
 obtain ⟨a,xs,rfl,hq,rl,hk1⟩:=iU (κ:=false) rv1
 replace hq:cq X.K H1 a xs:=hq
 obtain ⟨u,rfl,ru⟩:=eJ rv
 cases (show u=Value.ref a from ru)
 obtain ⟨its,rvs,pt,hz⟩:=I1.list hq
 have el:=rvs.length
 have el2:=rl.length
 obtain ⟨hp,gs,dr,tk,os⟩:=s1
 refine qB pt.isList (by omega) ?_
 obtain ⟨m,S3⟩:=sortedAll_at hp its its.toArray
 have kk:∀b o,hp.get? b=some o->(sortedAll hp its its.toArray).get? b=some o:=fun b o e=>sortedAll_old e
 show ∃x H2,Inv X pins σ H2 ⟨sortedAll hp its its.toArray,gs,dr,tk,os⟩/\aT x (.ref (hp.objs.size+1))/\Q x H2
 generalize sortedAll hp its its.toArray=h3 at *
 have fr:∀j:Nat,H1 (hp.objs.size+j)=none:=fun j=>I1.hok.fresh (Nat.le_add_right _ _)
 generalize hn':hp.objs.size=n at *
 have hk0:dA X.prog X.w H1 h3:=I1.hok.kept kk
 have ob:cn X.prog X.w (aN H1 (n+1) (.lst xs)) h3 (n+1) (.lst xs):=⟨hz,its,m,rvs,S3⟩
 have hk1:=fv hk0 (fr 1) ob
 generalize hH:aN H1 (n+1) (.lst xs)=H4 at hk1
 have g6:H4 (n+1)=some (.lst xs):=by rw [<- hH];exact aH
 have old:∀c:Nat,c < n->H4 c=H1 c:=fun c hc=>by rw [<- hH,ay (by show (c:Nat)≠n+1;omega)]
 have inn:∀(c:Nat) o,H1 c=some o->c < n:=fun c o e=>by
  rcases Nat.lt_or_ge c n with z|z
  ·exact z
  ·have:=fr (c - n);rw [Nat.add_sub_cancel' z] at this;rw [this] at e;cases e
 have s4:aA H1 H4:=fun c o e=>(old c (inn c o e)).trans e
 have I4:Inv X pins σ H4 ⟨h3,gs,dr,tk,os⟩:=I1.un (t':=tk) (kA kk (fun c hc=>old c (by rw [<- hn'];exact hc)) fun c o e=>by rw [hn'];exact inn c o e) hk1
 refine ⟨.ref (n+1),H4,I4,rfl,qq _ H4 (sm.trans s4) ?_⟩
 rw [al]
 exact ⟨n+1,_,true,rfl,g6,⟨rfl,sm.free (fr 1)⟩,ai.flat _ fl (rl.same s4)⟩
end Sp
namespace Sp
open PySem PySem.Spec PyProof.Rows L2
inductive Xd (Φ:Fx) (sc:Scope) (ρ:ak):Expr->D->Prop where
 | ev {e:Expr} {d:D} (h:ag (aC Φ e false sc ρ) (d,0)):Xd Φ sc ρ e d
 | lrev {e:Expr} {l:List D} {k:Nat} {f g:Str} {p q r t:Pos} (h:ag (cf Φ [e] sc ρ) ([.lst l],k)) (fl:ax l=true) (hf:f = "list" := by rfl) (hg:g = "reversed" := by rfl) (gf:sc.names.lookup f=some .globalImplicit:=by rfl) (gg:sc.names.lookup g=some .globalImplicit:=by rfl):Xd Φ sc ρ (.Call (.Name f p) [.Call (.Name g q) [e] [] r] [] t) (.lst l.reverse)
 | srt (b:Bool) {e:Expr} {ns:List Int} {k n0:Nat} {f:Str} {p t p0 kp:Pos} (h:ag (cf Φ [e] sc ρ) ([.lst (ns.map D.int)],k)) (hn:ns.length < 64) (hf:f = "sorted" := by rfl) (gf:sc.names.lookup f=some .globalImplicit:=by rfl):Xd Φ sc ρ (.Call (.Name f p) [e] (FQ b n0 p0 kp) t) (.lst ((jl b ns).map D.int))
 | short {e:Expr} {l:List D} {k:Nat} {f:Str} {p t:Pos} (h:ag (cf Φ [e] sc ρ) ([.lst l],k)) (hn:l.length < 2) (fl:ax l=true) (hf:f = "sorted" := by rfl) (gf:sc.names.lookup f=some .globalImplicit:=by rfl):Xd Φ sc ρ (.Call (.Name f p) [e] [] t) (.lst l)
 | pick4 {e1 e2 e3 e4 i:Expr} {d1 d2 d3 d4 d:D} {j:Int} {k:Nat} {lp p:Pos} (h1:Xd Φ sc ρ e1 d1) (h2:Xd Φ sc ρ e2 d2) (h3:Xd Φ sc ρ e3 d3) (h4:Xd Φ sc ρ e4 d4) (hi:ag (aC Φ i false sc ρ) (.int j,k)) (ha:atI [d1,d2,d3,d4] j=some d):Xd Φ sc ρ (.Subscript (.List [e1,e2,e3,e4] lp) i p) d
variable {X:Cx}
theorem io {Φ:Fx} {sc:Scope} {ρ:ak} {e:Expr} {d:D} (h:Xd Φ sc ρ e d):∀y p,e ≠ .Starred y p:=by
 cases h with
 | ev h=>intro y p z;subst z;obtain ⟨_,h,_⟩:=h;cases h
 | lrev=>intro y p z;cases z
 | srt=>intro y p z;cases z
 | short=>intro y p z;cases z
 | pick4=>intro y p z;cases z
theorem CM (d:D):mk d 0=.ok (d,0) []:=by unfold mk kn;split <;> rfl
theorem Ag {Φ:Fx} {sc:Scope} {ρ:ak} {e:Expr} {d:D} (G:aW Φ X sc) (h:Xd Φ sc ρ e d):ED X ρ e d 0:=by
 induction h with
 | ev h=>exact (cD h G).ed rfl
 | lrev h fl hf hg gf gg =>
  obtain ⟨l7,h7,p7⟩:=h
  obtain ⟨hst,_⟩:=cv h7 p7
  exact Dp G.calm hf hg (G.gl _ gf) (G.gl _ gg) (by subst hf;exact G.bl _ (by decide +kernel)) (by subst hg;exact G.bl _ (by decide +kernel)) (gu [_] h7 p7 G) hst fl
 | srt b h hn hf gf =>
  obtain ⟨l7,h7,p7⟩:=h
  obtain ⟨hst,_⟩:=cv h7 p7
  exact GK b hf (G.gl _ gf) (by subst hf;exact G.bl _ (by decide +kernel)) (gu [_] h7 p7 G) hst hn
 | short h hn fl hf gf =>
  obtain ⟨l7,h7,p7⟩:=h
  obtain ⟨hst,_⟩:=cv h7 p7
  exact zr hf (G.gl _ gf) (by subst hf;exact G.bl _ (by decide +kernel)) (gu [_] h7 p7 G) hst hn fl
 | pick4 h1 h2 h3 h4 hi ha i1 i2 i3 i4 =>
  have at4:=je i1 (je i2 (je i3 (je i4 xR (aV (io h4))) (aV (io h3))) (aV (io h2))) (aV (io h1))
  obtain ⟨l,hi',pi⟩:=hi
  refine AU (o:=[]) (ux (k:=0) at4 (Nat.zero_le _) (by show 4<=40000;decide)) ((cD ⟨l,hi',pi⟩ G).ed rfl) (mo hi') ?_
  show (match atI _ _ with|some d=>mk d 0|none=>.st)=_
  rw [ha]
  exact CM _
inductive Rn (Φ:Fx) (sc:Scope):List Stmt->ak->D->Prop where
 | fin {ss:List Stmt} {ρ:ak} {r:D} (h:ag (aD Φ ss sc ρ) (.rt r)):Rn Φ sc ss ρ r
 | cut (n:Nat) {ss:List Stmt} {ρ ρ1:ak} {r:D} (h:ag (aD Φ (ss.take n) sc ρ) (.nx ρ1)) (k:Rn Φ sc (ss.drop n) ρ1 r):Rn Φ sc ss ρ r
 | dem {ss:List Stmt} {ρ:ak} {r:D} (k:Rn Φ sc ss (eT ρ) r):Rn Φ sc ss ρ r
 | set {x:Str} {e:Expr} {px q:Pos} {ss:List Stmt} {ρ:ak} {d r:D} (h:Xd Φ sc ρ e d) (k:Rn Φ sc ss (bI ρ x (d,true)) r) (hx:c9 sc x=true:=by rfl) (hc:gZ e=false:=by rfl):Rn Φ sc (.Assign [.Name x px] e q::ss) ρ r
end Sp
namespace Sp
open PySem PySem.Spec PyProof.Rows L2
variable {X:Cx}
theorem Dq {ρ:ak} {a:Expr} {lo hi:Option Expr} {p2 pos:Pos} {m:List D} {l h:Option Int} (ha:ED X ρ a (.lst m) 1) (hl:OD X ρ lo l) (hh:OD X ρ hi h):ED X ρ (.Subscript a (.Slice lo hi none p2) pos) (.lst (ke m l h)) 1:=by
 refine fun ow=>bM (lI tU (ha ow) (hl ow) (hh ow)) fun σ H Q ⟨E,q⟩=>⟨E,fun v H1 s1 r1=>⟨E.same s1,fun H2 s2=>⟨(E.same s1).same s2,fun H3 s3=>?_⟩⟩⟩
 have s13:=s2.trans s3
 obtain ⟨p,vs,rfl,hq,rl⟩:=ge (r1.same s13)
 refine ⟨p,vs,rfl,hq,fun p' hp'=>?_⟩
 have sm:=cz (o:=HO.lst (ig vs l h)) hp'
 refine q _ _ ((s1.trans s13).trans sm) ?_
 rw [al]
 exact ⟨p',_,true,rfl,aH,fun _=>E.own.free ((s1.trans s13).free hp'),rl.cut.same sm⟩
theorem Ds {ρ:ak} {a b:Expr} {pos:Pos} {l m:List D} (ha:ED X ρ a (.lst l) 1) (hb:ED X ρ b (.lst m) 1) (hn:l.length+m.length<=cZ):ED X ρ (.BinOp a .Add b pos) (.lst (l++m)) 1:=by
 refine fun ow=>bM (AB t6 (ha ow) (hb ow)) fun σ H Q ⟨E,q⟩=>⟨E,fun v H1 s1 r1=>⟨E.same s1,fun u H2 s2 r2=>?_⟩⟩
 have r1':=r1.same s2
 have r2':=r2.imp (Kp.back s1 1)
 rw [al] at r1' r2'
 obtain ⟨pa,va,b1,rfl,ha,qa,ra⟩:=r1'
 obtain ⟨pb,vb,b2,rfl,hb,qb,rb⟩:=r2'
 have la:=ra.length
 have lb:=rb.length
 refine ⟨pa,pb,va,vb,rfl,rfl,ha.sq,hb.sq,by rw [<- la,<- lb];exact Nat.le_trans hn gY,fun p hp'=>?_⟩
 have sm:=cz (o:=HO.lst (va++vb)) hp'
 refine q _ _ ((s1.trans s2).trans sm) ?_
 rw [al]
 exact ⟨p,_,true,rfl,aH,fun _=>E.own.free ((s1.trans s2).free hp'),(ra.same sm).append (rb.same sm)⟩
def dj (l:List Int):D:=.lst (l.map D.int)
theorem re:∀{a b:List Int},a.map V.int=b.map V.int->a=b
 | [],[],_=>rfl
 | [],_::_,h=>by cases h
 | _::_,[],h=>by cases h
 | x::a,y::b,h=>by
  simp only [List.map_cons,List.cons.injEq,V.int.injEq] at h
  rw [h.1,re h.2]
theorem tY {K:W.Frag} {H:Hp} {P:bz} (hP:∀a b,P a b->b=true) {l l':List Int} {v:V} {b:Addr} (h:al K H P (dj l) v) (hb:H b=some (.lst (l'.map V.int))) (hne:l≠l') {o:HO}:al K (aN H b o) P (dj l) v:=by
 unfold dj at h ⊢
 rw [al] at h ⊢
 obtain ⟨a,vs,c,rfl,h1,h2,h3⟩:=h
 cases hP _ _ h2
 have e:=ip h3
 subst e
 have hab:a≠b:=fun z=>by
  subst z
  have:some (HO.lst (l.map V.int))=some (.lst (l'.map V.int)):=Eq.trans (Eq.symm h1) hb
  exact hne (re (HO.lst.inj (Option.some.inj this)))
 exact ⟨a,_,true,rfl,(ay hab).trans h1,h2,iA _⟩
theorem tX {K:W.Frag} {H:Hp} {P:bz} (hP:∀a b,P a b->b=true) {b:Addr} {l l':List Int} (hb:H b=some (.lst (l.map V.int))):∀{Ls:List (List Int)} {vs:List V} {n:Nat},ai K H P (Ls.map dj) vs->Ls[n]?=some l->vs[n]?=some (.ref b) ->
  (∀a m,Ls[a]?=some m->a≠n->m≠l)->ai K (aN H b (.lst (l'.map V.int))) P ((Ls.set n l').map dj) vs
 | [],vs,n,h,e,_,_=>by simp at e
 | x::Ls,vs,0,h,e,ev,hd=>by
  rw [List.map_cons,ai] at h
  obtain ⟨v,r,rfl,h1,h2⟩:=h
  cases (Option.some.inj e:x=l)
  cases (Option.some.inj ev:v=.ref b)
  rw [List.set_cons_zero,List.map_cons]
  refine ai.cons ?_ ?_
  ·unfold dj at h1 ⊢
   rw [al] at h1 ⊢
   obtain ⟨a,vs,c,e,h1,h3,h4⟩:=h1
   cases e
   exact ⟨b,_,true,rfl,aH,by cases hP _ _ h3;exact h3,iA _⟩
  ·have:∀(M:List (List Int)) (ws:List V),(∀m∈M,m≠l)->ai K H P (M.map dj) ws->ai K (aN H b (.lst (l'.map V.int))) P (M.map dj) ws:=by
    intro M
    induction M with
    | nil=>intro ws _ h;rw [List.map_nil,ai] at h;subst h;exact ai.nil
    | cons m M ih =>
     intro ws hm h
     rw [List.map_cons,ai] at h
     obtain ⟨v,r,rfl,g1,g2⟩:=h
     exact ai.cons (tY hP g1 hb (hm m List.mem_cons_self)) (ih r (fun y hy=>hm y (List.mem_cons_of_mem _ hy)) g2)
   refine this Ls r (fun m hm=>?_) h2
   obtain ⟨k,hk⟩:=List.mem_iff_getElem?.mp hm
   exact hd (k+1) m (by simpa using hk) (Nat.succ_ne_zero k)
 | x::Ls,vs,n+1,h,e,ev,hd=>by
  rw [List.map_cons,ai] at h
  obtain ⟨v,r,rfl,h1,h2⟩:=h
  rw [List.set_cons_succ,List.map_cons]
  exact ai.cons (tY hP h1 hb (hd 0 x rfl (fun z=>nomatch z))) (tX hP hb h2 (by simpa using e) (by simpa using ev) fun a m ha hn=>hd (a+1) m (by simpa using ha) (by omega))
theorem Dh {ow:Ow} {H1:Hp} {σ:L2.St} {ρ:ak} {x:Str} {l':List D} {a b:Addr} {vs us us':List V} {i:Nat} (E:aO X ow H1 σ ρ) (hi:X.N[i]?=some x) (hs:σ[i]?=some (some (.ref a)))
  (hv:fB X.env.scope x) (ha:H1 a=some (.lst vs)) (ho:ow a=some (some x)) (hb:H1 b=some (.lst us)) (hob:ow b=some (some x)) (hab:a≠b) (r':ai X.K (aN H1 b (.lst us')) (jp ow x true) l' vs) :
  aO X ow (aN H1 b (.lst us')) σ (bI ρ x (.lst l',true)):=by
 have st:∀{P:bz},(P b true->False)->dY P P H1 (aN H1 b (.lst us')):=fun {P} h=>⟨fun c o hc hn=>by rw [ay (fun z=>by subst z;rw [hb] at hc;cases hc;exact hn)];exact hc,fun c ws hc p=>by rw [ay (fun z=>by subst z;exact h p)];exact hc,fun _ _ _ p=>p,fun _ p=>p⟩
 refine ⟨fun y e o h=>?_,fun c hc=>?_⟩
 ·rw [dO] at h
  by_cases hy:y=x
  ·subst hy
   rw [if_pos rfl] at h
   cases h
   exact ⟨i,.ref a,hi,hv,hs,by rw [al];exact ⟨a,vs,true,rfl,(ay hab).trans ha,⟨rfl,ho⟩,r'⟩⟩
  ·rw [if_neg hy] at h
   obtain ⟨j,w,e1,e2,e3,e4⟩:=E.get y e o h
   refine ⟨j,w,e1,e2,e3,e4.mono (st fun p=>?_)⟩
   cases o with
   | true=>have:=p.2;rw [hob] at this;cases this;exact hy rfl
   | false=>have:=p rfl;rw [hob] at this;cases this
 ·by_cases hz:c=b
  ·subst hz;exact ⟨_,aH⟩
  ·rw [ay hz];exact E.own c hc
theorem BY {H0:Hp} {ρ:ak} {x:Str} {e i m:Expr} {p1 p2 p3 pos:Pos} {Ls:List (List Int)} {l:List Int} {j jm v:Int} {n nm k k1 k2:Nat} (hx:ρ x=some (.lst (Ls.map dj),true)) (h:ED X ρ e (.int v) k) (hi:ED X ρ i (.int j) k1) (hm:ED X ρ m (.int jm) k2) (hn:fe x=true)
  (h1:ixN Ls.length j=some n) (h2:Ls[n]?=some l) (h3:ixN l.length jm=some nm) (hd:∀a y,Ls[a]?=some y->a≠n->y≠l) (hs:gS i) (hsl:∀a b c p,m ≠ .Slice a b c p) :
  SD X H0 ρ (.Assign [.Subscript (.Subscript (.Name x p1) i p2) m p3] e pos) (.nx (bI ρ x (.lst ((Ls.set n (l.set nm v)).map dj),true))):=by
 intro pins s σ H D I ⟨ow,E,hl,B,q⟩
 obtain ⟨ix,a,vs,g1,g2,g3,g4,g5,g6⟩:=wK I E hx
 have pn:PE X (.Name x p1) (qu ix):=gX g1 g2 (dk hn).1 (dk hn).2
 obtain ⟨w,hw,rw'⟩:=g6.get (i:=n) (d:=dj l) (by rw [List.getElem?_map,h2];rfl)
 unfold dj at rw'
 rw [al] at rw'
 obtain ⟨b,us,bb,rfl,hb,pb,rl⟩:=rw'
 cases pb.1.1
 have eu:=ip rl
 subst eu
 refine iW (h ow) (wG (vg ul pn (hi ow) hs) (hm ow) qE (fun v=>by cases m <;> first|rfl|exact absurd rfl (hsl _ _ _ _))) oX (by cases e <;> rfl) rfl pins s σ H D I ⟨E,fun v' H1 s1 r1=>?_⟩
 rw [al] at r1;subst r1
 refine ⟨_,g3,E.same s1,fun u H2 s2 r2=>?_⟩
 rw [al] at r2;subst r2
 have s12:=s1.trans s2
 refine ⟨a,vs,j,.ref b,rfl,rfl,cq.of (s12 _ _ g4),?_,E.same s12,fun u H3 s3 r3=>?_⟩
 ·unfold L2.atI
  rw [<- g6.length,List.length_map,h1]
  exact hw
 rw [al] at r3;subst r3
 have s13:=s12.trans s3
 refine ⟨b,l.map V.int,jm,nm,rfl,rfl,s13 _ _ hb,by rw [List.length_map];exact h3,?_⟩
 have em:(l.map V.int).set nm (.int v)=(l.set nm v).map V.int:=by rw [List.map_set]
 rw [em]
 have hb':H3 b=some (.lst (l.map V.int)):=s13 _ _ hb
 refine q ow σ _ (Dh (E.same s13) g1 g3 g2 (s13 _ _ g4) g5 hb' pb.1.2 (Ne.symm pb.2) ?_) hl (mG s13 hb pb.1.2)
 exact (tX (fun _ _ p=>p.1) hb' ((g6.same s13).imp fun _ _ p=>p.1) h2 hw hd)
end Sp
namespace Sp
open PySem PySem.Spec PyProof.Rows L2
variable {X:Cx}
def x8 (X:Cx) (H0:Hp) (tg:Expr) (body:List Stmt):List D->ak->Fl->Prop
 | [],ρ,fl=>fl=.nx ρ
 | d::ds,ρ,fl => ∃ρ1,GD X ρ tg d ρ1/\((∃ρ2,fC X H0 ρ1 body (.nx ρ2)/\x8 X H0 tg body ds ρ2 fl)\/∃r,fl=.rt r/\fC X H0 ρ1 body (.rt r))
theorem Cd {H0:Hp} {ρ:ak} {tg iter:Expr} {body:List Stmt} {pos:Pos} {ds:List D} {k:Nat} {fl:Fl} (hp:PassesOwn (model X.prog X.w) X.A X.env X.xe) (hcalm:X.calm=true)
  (hi:IE X (demote iter ρ) tg iter ds k) (hk:k<=1) (h:x8 X H0 tg body ds (demote iter ρ) fl)
  (hs:∀x,foldedSetIterable iter X.env x=pure x):SD X H0 ρ (.For tg iter body [] pos) fl:=by
 intro pins s σ H D0 I ⟨ow0,E0,hl,B0,q0⟩
 obtain ⟨ow,E,k0⟩:=mZ (e:=iter) E0
 have B:=B0.keep k0
 have q:=q0.keep k0
 have pb:fO X body (fun D σ H => ∃ρ fl,fC X H0 ρ body fl/\wu X H0 ρ fl D σ H):=fun pins s σ H D I ⟨ρ1,fl1,h1,h2⟩=>h1 pins s σ H D I h2
 have pg:PG X tg (fun v σ H Q => ∃g:TG,PG X tg g/\g v σ H Q):=fun pins s σ H v u Q I r ⟨g,h1,h2⟩=>h1 pins s σ H v u Q I r h2
 refine qL hp hcalm (hi ow) pg pb hs pins s σ H D0 I ⟨E,fun J H1 s1 itd=>?_⟩
 refine ⟨fun i m σ' H'=>m=ds.length - i/\i<=ds.length/\∃ow' ρ',aO X ow' H' σ' ρ'/\σ'.length=X.N.length/\dm H0 ow' H'/\bi ow H1 ow' H'/\x8 X H0 tg body (ds.drop i) ρ' fl,
  ⟨ds.length,by simp,Nat.zero_le _,ow,_,E.same s1,hl,B.keep (bi.same s1),bi.refl _ _,h⟩,?_⟩
 rintro i m σ' H' ⟨rfl,hile,ow',ρ',E',hl',B',k',hf⟩
 have q':lY X H0 ow' H' fl D0:=q.keep ((bi.same s1).trans k')
 have st:dY (Kd ow H k H1) (Kd ow H k H1) H1 H':=⟨fun a o ha hn=>k'.keep a o ha (.inl hn),fun a vs ha p=>k'.keep a _ ha (.inr (fA E.own hk p.1)),fun _ _ _ p=>p,fun _ p=>p⟩
 have it:=itd i H' st
 by_cases hlt:i < ds.length
 ·obtain ⟨go,yl⟩:=it.1 ds[i] (List.getElem?_eq_getElem hlt)
  have hdrop:ds.drop i=ds[i]::ds.drop (i+1):=List.drop_eq_getElem_cons hlt
  rw [hdrop] at hf
  refine .inr ⟨go,fun σ2 H2=>i+1<=ds.length/\∃ow2 ρ2,aO X ow2 H2 σ2 ρ2/\σ2.length=X.N.length/\dm H0 ow2 H2/\bi ow H1 ow2 H2/\x8 X H0 tg body (ds.drop (i+1)) ρ2 fl,fun σ2 H2 n=>⟨ds.length - (i+1),by omega,rfl,n.1,n.2⟩,fun x H3 y3=>?_⟩
  obtain ⟨sm3,rx⟩:=yl x H3 y3
  obtain ⟨ρ1,⟨g,g1,g2⟩,hf⟩:=hf
  have rx':al X.K H3 (fun a b=>b=true->ow' a=none) ds[i] x:=rx.impH (fun a o ha p _=>by
   obtain ⟨o1,h1⟩:=p.2 rfl
   exact k'.low a o1 h1 (fA E.own hk p.1)) fun a _ z=>(by cases z)
  refine ⟨g,g1,g2 ow' x σ' H3 _ hl' (E'.same sm3) rx' fun σ2 hl2 E2=>?_⟩
  have k3:bi ow' H' ow' H3:=bi.same sm3
  rcases hf with ⟨ρ2,hb,hf⟩ | ⟨r,rfl,hb⟩
  ·exact ⟨ρ1,.nx ρ2,hb,ow',E2,hl2,B'.keep k3,fun ow2 σ3 H4 a b c=>⟨hlt,ow2,ρ2,a,b,(B'.keep k3).keep c,k'.trans (k3.trans c),hf⟩⟩
  ·exact ⟨ρ1,.rt r,hb,ow',E2,hl2,B'.keep k3,q'⟩
 ·have ei:i=ds.length:=by omega
  subst ei
  rw [List.drop_length] at hf
  cases (show fl=.nx ρ' from hf)
  exact .inl ⟨it.2 (Nat.le_refl _),q' ow' σ' H' E' hl' (bi.refl _ _)⟩
def x9 (X:Cx) (tg:Expr) (c:Expr):List D->ak->ak->Prop
 | [],ρ,ρ'=>ρ'=ρ
 | d::ds,ρ,ρ' => ∃ρ1,GD X ρ tg d ρ1/\TD X ρ1 c false/\x9 X tg c ds ρ1 ρ'
theorem Cc {H0:Hp} {ρ ρf:ak} {tg iter c:Expr} {a:List Stmt} {pos q0:Pos} {ds:List D} {k:Nat} (hp:PassesOwn (model X.prog X.w) X.A X.env X.xe) (hcalm:X.calm=true)
  (hi:IE X ρ tg iter ds k) (hll:ax ds=true) (h:x9 X tg c ds ρ ρf)
  (hs:∀x,foldedSetIterable iter X.env x=pure x):SD X H0 ρ (.For tg iter [.If c a [] q0] [] pos) (.nx ρf):=by
 intro pins s σ H D0 I ⟨ow,E,hl,B,q⟩
 have pb:fO X [.If c a [] q0] (fun D σ H => ∃ρ,TD X ρ c false/\aO X ow H σ ρ/\∀H2,aA H H2->D.nx σ H2):=fun pins s σ H D I ⟨ρ1,h1,h2,h3⟩=>fS (u9 (h1 ow) ir nW) nW pins s σ H D I ⟨h2,fun H2 s2=>by
  show if false=true then _ else _
  rw [if_neg Bool.false_ne_true]
  exact h3 H2 s2⟩
 have pg:PG X tg (fun v σ H Q => ∃g:TG,PG X tg g/\g v σ H Q):=fun pins s σ H v u Q I r ⟨g,h1,h2⟩=>h1 pins s σ H v u Q I r h2
 refine qL hp hcalm (hi ow) pg pb hs pins s σ H D0 I ⟨E,fun J H1 s1 itd=>?_⟩
 refine ⟨fun i m σ' H'=>m=ds.length - i/\i<=ds.length/\∃ρ',aO X ow H' σ' ρ'/\σ'.length=X.N.length/\aA H1 H'/\x9 X tg c (ds.drop i) ρ' ρf,
  ⟨ds.length,by simp,Nat.zero_le _,_,E.same s1,hl,aA.refl _,h⟩,?_⟩
 rintro i m σ' H' ⟨rfl,hile,ρ',E',hl',sm,hf⟩
 have st:dY (Kd ow H k H1) (Kd ow H k H1) H1 H':=⟨fun a o ha _=>sm a o ha,fun a o ha _=>sm a o ha,fun _ _ _ p=>p,fun _ p=>p⟩
 have it:=itd i H' st
 by_cases hlt:i < ds.length
 ·obtain ⟨go,yl⟩:=it.1 ds[i] (List.getElem?_eq_getElem hlt)
  have hdrop:ds.drop i=ds[i]::ds.drop (i+1):=List.drop_eq_getElem_cons hlt
  rw [hdrop] at hf
  refine .inr ⟨go,fun σ2 H2=>i+1<=ds.length/\∃ρ2,aO X ow H2 σ2 ρ2/\σ2.length=X.N.length/\aA H1 H2/\x9 X tg c (ds.drop (i+1)) ρ2 ρf,fun σ2 H2 n=>⟨ds.length - (i+1),by omega,rfl,n.1,n.2⟩,fun x H3 y3=>?_⟩
  obtain ⟨sm3,rx⟩:=yl x H3 y3
  obtain ⟨ρ1,⟨g,g1,g2⟩,ht,hf⟩:=hf
  have li:ds[i].lless=true:=ph hll (List.getElem_mem hlt)
  refine ⟨g,g1,g2 ow x σ' H3 _ hl' (E'.same sm3) (rx.flat _ li) fun σ2 hl2 E2=>?_⟩
  exact ⟨ρ1,ht,E2,fun H4 s4=>⟨hlt,ρ1,E2.same s4,hl2,sm.trans (sm3.trans s4),hf⟩⟩
 ·have ei:i=ds.length:=by omega
  subst ei
  rw [List.drop_length] at hf
  cases (show ρf=ρ' from hf)
  exact .inl ⟨it.2 (Nat.le_refl _),q ow σ' H' E' hl' (bi.same (s1.trans sm))⟩
inductive Rp (Φ:Fx) (sc:Scope) (tg c:Expr):List D->ak->ak->Prop where
 | nil {ρ:ak}:Rp Φ sc tg c [] ρ ρ
 | cons {d:D} {ds:List D} {ρ ρ1 ρ':ak} {k:Nat} (hb:bR sc tg d ρ=some ρ1) (hc:ag (aC Φ c false sc ρ1) (.bl false,k)) (h:Rp Φ sc tg c ds ρ1 ρ'):Rp Φ sc tg c (d::ds) ρ ρ'
inductive Xo (Φ:Fx) (sc:Scope) (ρ:ak):Option Expr->Option Int->Prop where
 | no:Xo Φ sc ρ none none
 | yes {e:Expr} {i:Int} {k:Nat} (h:ag (aC Φ e false sc ρ) (.int i,k)):Xo Φ sc ρ (some e) (some i)
inductive Xs (Φ:Fx) (sc:Scope) (ρ:ak):Expr->D->Prop where
 | name {x:Str} {p:Pos} {m:List D} (h:ρ x=some (.lst m,false)) (hx:fe x=true):Xs Φ sc ρ (.Name x p) (.lst m)
 | cut {e:Expr} {lo hi:Option Expr} {l h:Option Int} {m:List D} {p2 p:Pos} (he:Xs Φ sc ρ e (.lst m)) (hl:Xo Φ sc ρ lo l) (hh:Xo Φ sc ρ hi h):Xs Φ sc ρ (.Subscript e (.Slice lo hi none p2) p) (.lst (ke m l h))
 | cat {a b:Expr} {l m:List D} {p:Pos} (ha:Xs Φ sc ρ a (.lst l)) (hb:Xs Φ sc ρ b (.lst m)) (hn:l.length+m.length<=cZ):Xs Φ sc ρ (.BinOp a .Add b p) (.lst (l++m))
theorem Af {Φ:Fx} {sc:Scope} {ρ:ak} {e:Option Expr} {i:Option Int} (G:aW Φ X sc) (h:Xo Φ sc ρ e i):OD X ρ e i:=by
 cases h with
 | no=>exact t8
 | yes h=>exact t7 ((cD h G).ed rfl)
theorem FS (m:List D):kn (.lst m) 1=1:=by rfl
theorem Ae {Φ:Fx} {sc:Scope} {ρ:ak} {e:Expr} {d:D} (G:aW Φ X sc) (h:Xs Φ sc ρ e d):ED X ρ e d 1/\gZ e=false:=by
 induction h with
 | name h hx=>exact ⟨by have:=uw (X:=X) (pos:=‹Pos›) h hx;rw [show cond false 2 1=1 from rfl,FS] at this;exact this,rfl⟩
 | cut he hl hh ih=>exact ⟨Dq ih.1 (Af G hl) (Af G hh),rfl⟩
 | cat ha hb hn ia ib=>exact ⟨Ds ia.1 ib.1 hn,rfl⟩
mutual
inductive Rf (Φ:Fx) (sc:Scope):List Stmt->ak->Fl->Prop where
 | base {ss:List Stmt} {ρ:ak} {fl:Fl} (h:ag (aD Φ ss sc ρ) fl):Rf Φ sc ss ρ fl
 | cut (n:Nat) {ss:List Stmt} {ρ ρ1:ak} {fl:Fl} (h:ag (aD Φ (ss.take n) sc ρ) (.nx ρ1)) (k:Rf Φ sc (ss.drop n) ρ1 fl):Rf Φ sc ss ρ fl
 | seq {s:Stmt} {ss:List Stmt} {ρ ρ1:ak} {fl:Fl} (h:il Φ sc s ρ (.nx ρ1)) (k:Rf Φ sc ss ρ1 fl):Rf Φ sc (s::ss) ρ fl
 | stop {s:Stmt} {ss:List Stmt} {ρ:ak} {r:D} (h:il Φ sc s ρ (.rt r)):Rf Φ sc (s::ss) ρ (.rt r)
 | dem {ss:List Stmt} {ρ:ak} {fl:Fl} (k:Rf Φ sc ss (eT ρ) fl):Rf Φ sc ss ρ fl
inductive il (Φ:Fx) (sc:Scope):Stmt->ak->Fl->Prop where
 | set {x:Str} {e:Expr} {px q:Pos} {ρ:ak} {d:D} (h:Xd Φ sc ρ e d) (hx:c9 sc x=true) (hc:gZ e=false):il Φ sc (.Assign [.Name x px] e q) ρ (.nx (bI ρ x (d,true)))
 | setS {x:Str} {e:Expr} {px q:Pos} {ρ:ak} {d:D} (h:Xs Φ sc ρ e d) (hx:c9 sc x=true):il Φ sc (.Assign [.Name x px] e q) ρ (.nx (bI ρ x (d,false)))
 | sto2 {x:Str} {e i m:Expr} {p1 p2 p3 pos:Pos} {ρ:ak} {Ls:List (List Int)} {l:List Int} {j jm v:Int} {n nm k k1 k2:Nat} (hx:ρ x=some (.lst (Ls.map dj),true)) (h:ag (aC Φ e false sc ρ) (.int v,k)) (hi:ag (aC Φ i false sc ρ) (.int j,k1)) (hm:ag (aC Φ m false sc ρ) (.int jm,k2)) (hn:fe x=true)
  (h1:ixN Ls.length j=some n) (h2:Ls[n]?=some l) (h3:ixN l.length jm=some nm) (hd:∀a y,Ls[a]?=some y->a≠n->y≠l) (hs:gS i) (hsl:∀a b c p,m ≠ .Slice a b c p) :
  il Φ sc (.Assign [.Subscript (.Subscript (.Name x p1) i p2) m p3] e pos) ρ (.nx (bI ρ x (.lst ((Ls.set n (l.set nm v)).map dj),true)))
 | ret {e:Expr} {q:Pos} {ρ:ak} {d:D} (h:Xd Φ sc ρ e d):il Φ sc (.Return (some e) q) ρ (.rt d)
 | iff {c:Expr} {a b:List Stmt} {pos:Pos} {ρ:ak} {t:Bool} {k:Nat} {fl:Fl} (hc:ag (aC Φ c false sc ρ) (.bl t,k)) (h:Rf Φ sc (cond t a b) ρ fl):il Φ sc (.If c a b pos) ρ fl
 | forC {tg it:Expr} {body:List Stmt} {pos:Pos} {ρ:ak} {d:D} {ds:List D} {k:Nat} {fl:Fl} (hi:ag (aC Φ it true sc (demote it ρ)) (d,k)) (hd:items d=some ds) (hk:k<=1) (ht:eQ it tg=true) (h:Rc Φ sc tg body ds (demote it ρ) fl):il Φ sc (.For tg it body [] pos) ρ fl
 | forP {tg it c:Expr} {a:List Stmt} {pos q:Pos} {ρ ρ':ak} {d:D} {ds:List D} {k:Nat} (hi:ag (aC Φ it true sc ρ) (d,k)) (hd:items d=some ds) (hl:ax ds=true) (ht:eQ it tg=true) (h:Rp Φ sc tg c ds ρ ρ'):il Φ sc (.For tg it [.If c a [] q] [] pos) ρ (.nx ρ')
inductive Rc (Φ:Fx) (sc:Scope):Expr->List Stmt->List D->ak->Fl->Prop where
 | nil {tg:Expr} {body:List Stmt} {ρ:ak}:Rc Φ sc tg body [] ρ (.nx ρ)
 | cons {tg:Expr} {body:List Stmt} {d:D} {ds:List D} {ρ ρ1 ρ2:ak} {fl:Fl} (hb:bR sc tg d ρ=some ρ1) (h:Rf Φ sc body ρ1 (.nx ρ2)) (k:Rc Φ sc tg body ds ρ2 fl):Rc Φ sc tg body (d::ds) ρ fl
 | stop {tg:Expr} {body:List Stmt} {d:D} {ds:List D} {ρ ρ1:ak} {r:D} (hb:bR sc tg d ρ=some ρ1) (h:Rf Φ sc body ρ1 (.rt r)):Rc Φ sc tg body (d::ds) ρ (.rt r)
end
theorem Ja {Φ:Fx} {sc:Scope} {tg c:Expr} {ds:List D} {ρ ρ':ak} (G:aW Φ X sc) (h:Rp Φ sc tg c ds ρ ρ'):x9 X tg c ds ρ ρ':=by
 induction h with
 | nil=>exact rfl
 | cons hb hc h ih=>exact ⟨_,mM G hb,(cD hc G).td rfl false rfl,ih⟩
theorem Jb {Φ:Fx} {sc:Scope} {H0:Hp} {ss:List Stmt} {ρ:ak} {fl:Fl} (G:aW Φ X sc) (hp:PassesOwn (model X.prog X.w) X.A X.env X.xe) (h:Rf Φ sc ss ρ fl):fC X H0 ρ ss fl:=by
 refine Rf.rec (motive_1:=fun ss ρ fl _=>fC X H0 ρ ss fl) (motive_2:=fun s ρ fl _=>SD X H0 ρ s fl) (motive_3:=fun tg body ds ρ fl _=>x8 X H0 tg body ds ρ fl) ?_ ?_ ?_ ?_ ?_ ?_ ?_ ?_ ?_ ?_ ?_ ?_ ?_ ?_ ?_ h
 ·intro ss ρ fl h;exact mS _ h G hp
 ·intro n ss ρ ρ1 fl h k ih;rw [<- List.take_append_drop n ss];exact nQ G hp h ih
 ·intro s ss ρ ρ1 fl h k i1 i2;exact jj i1 i2
 ·intro s ss ρ r h ih;exact ji ih fun _ z=>nomatch z
 ·intro ss ρ fl k ih;exact BU ih
 ·intro x e px q ρ d h hx hc;exact jQ G hx (Ag G h) (.inl ⟨rfl,rfl⟩) (gc hc)
 ·intro x e px q ρ d h hx;exact jQ G hx (Ae G h).1 (.inr ⟨rfl,rfl⟩) (gc (Ae G h).2)
 ·intro x e i m p1 p2 p3 pos ρ Ls l j jm v n nm k k1 k2 hx h hi hm hn h1 h2 h3 hd hs hsl;exact BY hx ((cD h G).ed rfl) ((cD hi G).ed rfl) ((cD hm G).ed rfl) hn h1 h2 h3 hd hs hsl
 ·intro e q ρ d h;exact wz (Ag G h) (.inl rfl)
 ·intro c a b pos ρ t k fl hc h ih
  refine Au ((cD hc G).td rfl t rfl) ?_
  cases t with
  | true=>rw [if_pos rfl];exact ih
  | false=>rw [if_neg Bool.false_ne_true];exact ih
 ·intro tg it body pos ρ d ds k fl hi hd hk ht h ih
  obtain ⟨l,h1,h2⟩:=hi
  exact Cd hp G.calm ((cD ⟨l,h1,h2⟩ G).ie rfl _ ds hd ht) hk ih (iC h1)
 ·intro tg it c a pos q ρ ρ' d ds k hi hd hl ht h
  obtain ⟨l,h1,h2⟩:=hi
  exact Cc hp G.calm ((cD ⟨l,h1,h2⟩ G).ie rfl _ ds hd ht) hl (Ja G h) (iC h1)
 ·intro tg body ρ;exact rfl
 ·intro tg body d ds ρ ρ1 ρ2 fl hb h k i1 i2;exact ⟨_,mM G hb,.inl ⟨_,i1,i2⟩⟩
 ·intro tg body d ds ρ ρ1 r hb h ih;exact ⟨_,mM G hb,.inr ⟨_,rfl,ih⟩⟩
def A3 (Φ:Fx) (sc:Scope) (ps:List Str) (ss:List Stmt) (ds:List D) (r:D):Prop:=ds.length=ps.length/\Rf Φ sc ss (eh ps ds) (.rt r)
theorem Dd {P:Program} {w:World} {K:W.Frag} {mg:Str->Option Value} {base:Heap} {k:Nat} {g qual:Str} {st:Stmt} {f:Addr} {fd:FuncData} {ps:List Str} {Φ:Fx} {F:List D->Rs D} (Fn:jg K g qual st f fd)
  (S:aF (aw (ae st)) ps (ae st)) (hΦ:lC P w K mg base k Φ) (hrun:∀ds r,ag (F ds) r->A3 Φ (ae st) ps (ao st) ds r):bS P w K mg base dM (k+1) f fd ps (jC K F):=by
 refine Fn.ok S (fun vs H Q E h=>?_) (fun cdv A outer s H vs Q E hr h=>?_)
 ·obtain ⟨ds,r,l,h1,h2,hp,_⟩:=h
  rw [<- h1.length]
  exact (hrun ds r ⟨l,h2,hp⟩).1
 ·obtain ⟨ds,r,l,h1,h2,hp,qq⟩:=h
  obtain ⟨hl,hr'⟩:=hrun ds r ⟨l,h2,hp⟩
  have G:=iZ (outer:=outer) (H:=H) (E:=E) S hΦ hr
  obtain ⟨E0,hsl⟩:=j9 (P:=P) (w:=w) (mg:=mg) (base:=base) (qual:=qual) (f:=f) (cdv:=cdv) (A:=A) (outer:=outer) (s:=s) (E:=E) S h1 hl
  have B0:dm H (fun _=>none) H:=fun a o h=>⟨h,rfl⟩
  exact ⟨_,Jb (H0:=H) G PassesOwn.never hr',fun _=>none,E0,hsl,B0,fun v H' sm rp=>qq v H' sm rp⟩
end Sp
namespace Att
open PySem PySem.W PySem.Calls PyProof.Rows
theorem md:∀(ns:List Int) (m:Int),m∈ns->Builtin.Int.intBits m<=WData.weightAll (ns.map WData.int)
 | n::ns,m,h=>by
  rw [List.map_cons,WData.weightAll,WData.weight]
  rcases List.mem_cons.mp h with rfl|h
  ·unfold Builtin.Int.intBits;omega
  ·have:=md ns m h;omega
theorem Dy {ns:List Int} (h:WData.layableAll [WData.list (ns.map WData.int)]=true):∀m∈ns,Builtin.Int.intBits m<=2 ^ 20:=fun m hm=>by
 unfold WData.layableAll at h
 have h1:WData.layable (WData.list (ns.map WData.int))=true:=by simpa using h
 unfold WData.layable at h1
 have h2:=(Bool.and_eq_true_iff.mp h1).2
 have h3:=of_decide_eq_true h2
 rw [WData.weight] at h3
 exact Nat.le_trans (md ns m hm) h3
theorem attach_callB {l:OpenLaw} {n:Nat} {q:Program} {loose:List Str} {XP:(Str->Option Value)->Heap->Prop} {YP:World->Heap->Prop} {d:DefRec}
  (hn:l.most=some n) (hdf:d.params.defaults=[])
  (call:∀(w:World) (s₀ s₁:Shared) (mg mb:Str->Option Value) (fa:Addr) (o:Obj) (pm cd doc:Value) (a:Addr) (vs:List Value) (ns:List Int),
   Ground q loose [] XP w s₀ mg mb s₁.heap->YP w s₁.heap ->
   s₁.heap.get? fa=some o->o.data=.func (docDef d.name d.params d.body d.scope pm cd doc)->s₁.heap.CodeRec cd d.name->mg d.name=some (.ref fa) ->
   s₁.heap.get? a=some { cls:=.type "list", data:=.seq vs.toArray }->IntsAre vs ns->ns.length<=n->(∀m∈ns,Builtin.Int.intBits m<=2 ^ 20)->s₁.gens = #[] ->
   codeAny (model l.prog w) callerA (.call (.ref fa) ⟨[.ref a],[]⟩) (fun r s'=>r=.ok (.ret (.bool true))/\OldK s₁.heap s'.heap/\s'.os=s₁.os/\AllBare s'.gens) s₁) :
  WalkO q loose XP YP l.row.toRowW d [] (fun f vs=>PySem.call f vs):=by
 intro w s₀ s₁ mg mb G Y fa o pm cd doc dV kV ho hd hcd hD hmg hg args vals as hpre hlay hrd hwl hlo
 obtain rfl:dV=.none:=Dflts.none hD hdf
 obtain rfl:kV=.none:=Dflts.noKw hD
 obtain ⟨a,vs,ns,rfl,rfl,hobj,hints,hlen⟩:=o7 hn hpre hwl
 have hbits:=Dy hlay
 refine enter_call (codeAny_mono (call w s₀ s₁ mg mb fa o pm cd doc a vs ns G Y ho (fd_plain hd) hcd hmg hobj hints hlen hbits hg) fun r s' hq=>?_)
 obtain ⟨rfl,h2,h3,h4⟩:=hq
 exact ⟨.inl ⟨.bool true,.bool true,[],rfl,fun _=>rfl,.bool true,o8 l _,fun _=>⟨List.Pairwise.nil,fun _ hm=>(nomatch hm)⟩⟩,h2,h3,h4⟩
end Att
namespace L2
open PySem PySem.Spec PyProof.Rows
theorem walk_ofB {l:W.OpenLaw} {n k:Nat} {q:Program} {loose:List Str} {XP:(Str->Option Value)->Heap->Prop} {YP:World->Heap->Prop} {d:DefRec} {K:Params->W.Frag} {CX:World->iI} {sp:World->Sp} {x:Str}
  (hn:l.most=some n) (hn2:n<=sizeLine) (hdf:d.params.defaults=[]) (hr:ci k callerA)
  (hY:∀(w:World) (h:Heap),YP w h->(K w.params).In h)
  (F:∀(w:World) (mg:Str->Option Value) (fa:Addr) (h:Heap),(K w.params).In h->h.Ns mainGlobals mg->mg d.name=some (.ref fa) ->
   ∃fd:FuncData,(∀(s:Shared) (u:Value),BindsTo s fd ⟨[u],[]⟩ [(x,u)]) /\
    ∀base:Heap,(K w.params).In base->base.Ns mainGlobals mg->bS l.prog w (K w.params) mg base (CX w) k fa fd [x] (sp w))
  (hsp:∀(w:World) (H:Hp) (a:Addr) (ns:List Int),ns.length<=n->(∀m∈ns,Builtin.Int.intBits m<=2 ^ 20)->sN H->cq (K w.params) H a (ns.map V.int)->sp w [.ref a] H (fun v _=>v=.bl true) fun _ _ _=>False)
  (hCX:∀(w:World) (H:Hp) (s:Shared) (e:Value) (s':Shared),CX w [] H s (fun _ _ _=>False) e s'->False) :
  W.WalkO q loose XP YP l.row.toRowW d [] (fun f vs=>PySem.call f vs):=by
 refine Att.attach_callB hn hdf fun w s₀ s₁ mg mb fa o pm cd doc a vs ns G Y ho hd hcd hmg hobj hints hlen hbits hg=>?_
 have KX:=hY w _ Y
 obtain ⟨fd,hb,hF⟩:=F w mg fa _ KX G.T.g hmg
 exact rg KX G.T.g G.T.b G.T.builtins G.T.nolimit hg hobj hints (Nat.le_trans hlen hn2) hr hF hb (fun H hO hS=>hsp w H a ns hlen hbits hO hS) fun H e s'=>hCX w H s₁ e s'
end L2
namespace K
open PySem L2 Sp
def aj (i:Nat):Stmt:=PySem.Challenge.pw_spaceturns_k50_pairs_and_bases_looked_at.main.body.getD i (.Pass ⟨0,0,0,0⟩)
local macro_rules | `(tactic| walk_at "leaf") => `(tactic| first | ((with_reducible apply CI);decide) | ((with_reducible apply CJ);decide) | ((with_reducible apply Du) <;> decide) | ((with_reducible apply bQ) <;> (with_reducible assumption)) | ((with_reducible apply Cn) <;> decide) | ((with_reducible refine Eq.trans ?_ rfl);exact rfl) | ((with_reducible apply fw);(with_reducible assumption)) | ((with_reducible apply Fs);assumption) | exact Nat.le_of_ble_eq_true rfl|exact Or.inl rfl|exact Or.inr rfl|exact Or.inr (Nat.le_refl 1) | exact Or.inr (Nat.zero_le 1) | decide|decide +kernel)
local macro_rules | `(tactic| walk_at "ob") => `(tactic| (repeat' (first|with_reducible exact True.intro|with_reducible exact zP|with_reducible apply v5|with_reducible apply zO|with_reducible apply tE|with_reducible assumption | ((with_reducible apply e9);intro hgd) | walk_at "leaf")))
local macro_rules | `(decl_name%) => `(cX rfl (by walk_at "ob"))
def BL:List (Str×(List D->R1)):=[("len", zI),("tuple", nq),("list", vW),("abs", zM),("any", vX),("sum", zG),("isinstance", zJ)]
def IL:List (Str×(List D->Nat->R1)):=[("range", rF),("zip", ze),("enumerate", vE)]
def ML:List (Str×(D->List D->R1)):=[]
def TL:List (Str×(List D->List D->Nat->Rs (List D))):=[("append", oh)]
def zS:Fx:=Tb [] [] BL IL ML TL aU
def zV:List D->Rs D:=bH zS (ae (aj 49)) ["_law_script", "_law_k"] (ao (aj 49))
def ik:List D->Rs D:=tT dL dI fun l k=>.ok (.int (bg l k)) [okL l]
theorem tL:∀ds r,ag (ik ds) r->ag (zV ds) r:=by
 intro ds r h
 obtain ⟨l,k,rfl,h⟩:=kF h
 obtain ⟨rfl,⟨ns,rfl⟩,_⟩:=fU h
 refine bW (eB 1 (cX rfl True.intro) (uV (cX rfl True.intro) (fun ht=>?_) (fun hf=>?_)))
 ·have hl:(ns.map D.int).length=ns.length:=by simp
  have hp:(0:Int) < ((ns.map D.int).length:Nat):=by simpa using ht
  have hi:L2.atI (ns.map D.int) (k.fmod (((ns.map D.int).length:Nat):Int))=some (.int (eU ns k)):=by
   rw [hl] at hp ⊢
   have hne:ns≠[]:=by intro z;subst z;simp at hp
   unfold eU
   rw [if_neg hne]
   exact DI (Int.fmod_nonneg_of_pos _ hp) (Int.fmod_lt_of_pos _ hp)
  refine aJ (aP (d:=.int (eU ns k)) (dU (cX rfl True.intro) (cX rfl ⟨Int.ne_of_gt hp,True.intro⟩) rfl hi)) ?_
  refine decl_name%.eq ?_
  unfold bg nj;rw [jh]
 ·have hp:ns=[]:=by
   cases ns with
   | nil=>rfl
   | cons n ns=>simp at hf
  subst hp
  refine decl_name%.eq ?_
  rfl
def zQ:Fx:=Tb [("_law_cell", ik)] [] BL IL ML TL aU
def lU:List D->Rs D:=bH zQ (ae (aj 52)) ["_law_script", "_law_at"] (ao (aj 52))
def nR (c w:Int):Int:=(c*2 ^ Int.toNat 60*2 ^ Int.toNat 40).fmod (2*w+1) - w
theorem Ee (c:Int) {w:Int} (h0:0 < w):(nR c w).natAbs<=w.natAbs:=by
 unfold nR
 have h1:=Int.fmod_nonneg_of_pos (c*2 ^ Int.toNat 60*2 ^ Int.toNat 40) (show 0 < 2*w+1 by omega)
 have h2:=Int.fmod_lt_of_pos (c*2 ^ Int.toNat 60*2 ^ Int.toNat 40) (show 0 < 2*w+1 by omega)
 generalize (c*2 ^ Int.toNat 60*2 ^ Int.toNat 40).fmod (2*w+1)=r at *
 omega
theorem wy {L:List D} (hw:lu L) (k:Int):∃v:V3,ff (aq v)/\cw 64 v/\ag (lU [.lst L,.int k]) (dv v):=by
 have hl:=hw.okL
 obtain ⟨w,w0,w1,hi⟩:∃w:Int,0 < w/\w<=10 ^ 19/\L2.atI [.int 4,.int 4,.int (10 ^ Int.toNat 19)] ((bg L 14).fmod 3)=some (D.int w):=by
  have h0:=Int.fmod_nonneg_of_pos (bg L 14) (show (0:Int) < 3 by decide)
  have h1:=Int.fmod_lt_of_pos (bg L 14) (show (0:Int) < 3 by decide)
  have:(bg L 14).fmod 3=0\/(bg L 14).fmod 3=1\/(bg L 14).fmod 3=2:=by omega
  rcases this with e|e|e <;> rw [e]
  ·exact ⟨4,by decide,by decide,rfl⟩
  ·exact ⟨4,by decide,by decide,rfl⟩
  ·exact ⟨10 ^ Int.toNat 19,by decide,by decide,rfl⟩
 have wb:w.natAbs < bY:=su (by omega)
 have hn:2*w+1≠0:=by omega
 have hd:eZ (2*w+1):=⟨by omega,aQ (m:=66) (by omega) (by decide)⟩
 have b0:bL (bg L (k+0)) (2 ^ Int.toNat 60):=gN (Nat.le_trans (fw hw _) (by decide)) (by decide)
 have c0:bL (bg L (k+0)*2 ^ Int.toNat 60) (2 ^ Int.toNat 40):=gN (oN (fw hw _)) (by decide)
 have b1:bL (bg L (k+1)) (2 ^ Int.toNat 60):=gN (Nat.le_trans (fw hw _) (by decide)) (by decide)
 have c1:bL (bg L (k+1)*2 ^ Int.toNat 60) (2 ^ Int.toNat 40):=gN (oN (fw hw _)) (by decide)
 have b2:bL (bg L (k+2)) (2 ^ Int.toNat 60):=gN (Nat.le_trans (fw hw _) (by decide)) (by decide)
 have c2:bL (bg L (k+2)*2 ^ Int.toNat 60) (2 ^ Int.toNat 40):=gN (oN (fw hw _)) (by decide)
 have bb:∀c:Int,(nR c w).natAbs<=2 ^ 64:=fun c=>Nat.le_trans (Ee c w0) (by omega)
 have e0:nR (bg L (k+0)) w=(bg L (k+0)*2 ^ Int.toNat 60*2 ^ Int.toNat 40).fmod (2*w+1) - w:=rfl
 have e1:nR (bg L (k+1)) w=(bg L (k+1)*2 ^ Int.toNat 60*2 ^ Int.toNat 40).fmod (2*w+1) - w:=rfl
 have e2:nR (bg L (k+2)) w=(bg L (k+2)*2 ^ Int.toNat 60*2 ^ Int.toNat 40).fmod (2*w+1) - w:=rfl
 have g0:=bb (bg L (k+0))
 have g1:=bb (bg L (k+1))
 have g2:=bb (bg L (k+2))
 rw [e0] at g0
 rw [e1] at g1
 rw [e2] at g2
 clear e0 e1 e2 bb
 by_cases hz:(bg L (k+0)*2 ^ Int.toNat 60*2 ^ Int.toNat 40).fmod (2*w+1) - w=0/\(bg L (k+1)*2 ^ Int.toNat 60*2 ^ Int.toNat 40).fmod (2*w+1) - w=0/\(bg L (k+2)*2 ^ Int.toNat 60*2 ^ Int.toNat 40).fmod (2*w+1) - w=0
 ·refine ⟨(1,0,2),(fun z=>by cases z.2.1),cT ⟨by decide,by decide,by decide⟩,bW (aJ (aP (d:=.int w) (dU decl_name% decl_name% rfl hi)) (eB 1 decl_name% (er decl_name% ?_ decl_name%)))⟩
  show ((_==(0:Int))&&((_==(0:Int))&&((_==(0:Int))&&true)))=true
  simp only [Bool.and_eq_true,beq_iff_eq,and_true]
  exact hz
 ·refine ⟨((bg L (k+0)*2 ^ Int.toNat 60*2 ^ Int.toNat 40).fmod (2*w+1) - w,(bg L (k+1)*2 ^ Int.toNat 60*2 ^ Int.toNat 40).fmod (2*w+1) - w,(bg L (k+2)*2 ^ Int.toNat 60*2 ^ Int.toNat 40).fmod (2*w+1) - w),fun z=>hz z.2,cT ⟨g0,g1,g2⟩,bW (aJ (aP (d:=.int w) (dU decl_name% decl_name% rfl hi)) (eB 1 decl_name% (aZ decl_name% ?_ decl_name%)))⟩
  rw [Bool.eq_false_iff]
  intro z
  have z:((_==(0:Int))&&((_==(0:Int))&&((_==(0:Int))&&true)))=true:=z
  simp only [Bool.and_eq_true,beq_iff_eq,and_true] at z
  exact hz z
def zR:Fx:=Tb [] [] BL IL ML TL aU
def sL:List D->Rs D:=bH zR (ae (aj 50)) ["_law_i", "_law_j"] (ao (aj 50))
def xU:Fx:=Tb [("_law_sign", sL)] [] BL IL ML TL aU
def x5:List D->Rs D:=bH xU (ae (aj 51)) ["_law_one", "_law_other"] (ao (aj 51))
def eV:List D->Rs D:=tT dQ dQ fun p q=>.ok (dq (bJ p q)) [iF p,iF q]
theorem gB {x y:Int} (h:x.natAbs < bY) (g:y.natAbs < bY):bL (1*x) y/\bL ((0 - 1)*x) y:=⟨bQ (by rw [Int.one_mul];exact h) g,bQ (by rw [show (0 - 1:Int)*x = -x by omega,Int.natAbs_neg];exact h) g⟩
theorem sJ:∀ds r,ag (eV ds) r->ag (x5 ds) r:=by
 intro ds r h
 obtain ⟨p,q,rfl,h'⟩:=kF h
 obtain ⟨rfl,hp,hq,_⟩:=fU h'
 obtain ⟨a1,a2⟩:=gB hp.1 hq.1
 obtain ⟨a3,a4⟩:=gB hp.1 hq.2.1
 obtain ⟨a5,a6⟩:=gB hp.1 hq.2.2.1
 obtain ⟨a7,a8⟩:=gB hp.1 hq.2.2.2
 obtain ⟨b1,b2⟩:=gB hp.2.1 hq.1
 obtain ⟨b3,b4⟩:=gB hp.2.1 hq.2.1
 obtain ⟨b5,b6⟩:=gB hp.2.1 hq.2.2.1
 obtain ⟨b7,b8⟩:=gB hp.2.1 hq.2.2.2
 obtain ⟨c1,c2⟩:=gB hp.2.2.1 hq.1
 obtain ⟨c3,c4⟩:=gB hp.2.2.1 hq.2.1
 obtain ⟨c5,c6⟩:=gB hp.2.2.1 hq.2.2.1
 obtain ⟨c7,c8⟩:=gB hp.2.2.1 hq.2.2.2
 obtain ⟨d1,d2⟩:=gB hp.2.2.2 hq.1
 obtain ⟨d3,d4⟩:=gB hp.2.2.2 hq.2.1
 obtain ⟨d5,d6⟩:=gB hp.2.2.2 hq.2.2.1
 obtain ⟨d7,d8⟩:=gB hp.2.2.2 hq.2.2.2
 refine bW (eB 1 decl_name% (tS (ds:=[.tup [.int 0,.int p.1],.tup [.int 1,.int p.2.1],.tup [.int 2,.int p.2.2.1],.tup [.int 3,.int p.2.2.2]]) (fun rem ρ=>(rem=[.tup [.int 0,.int p.1],.tup [.int 1,.int p.2.1],.tup [.int 2,.int p.2.2.1],.tup [.int 3,.int p.2.2.2]]/\Sub (bx [("_law_one", dq p,false),("_law_other", dq q,false),("_law_sums", .lst [.int (0),.int (0),.int (0),.int (0)],true)]) ρ)\/(rem=[.tup [.int 1,.int p.2.1],.tup [.int 2,.int p.2.2.1],.tup [.int 3,.int p.2.2.2]]/\Sub (bx [("_law_one", dq p,false),("_law_other", dq q,false),("_law_sums", .lst [.int (0+1*p.1*q.1),.int (0+1*p.1*q.2.1),.int (0+1*p.1*q.2.2.1),.int (0+1*p.1*q.2.2.2)],true)]) ρ)\/(rem=[.tup [.int 2,.int p.2.2.1],.tup [.int 3,.int p.2.2.2]]/\Sub (bx [("_law_one", dq p,false),("_law_other", dq q,false),("_law_sums", .lst [.int (0+1*p.1*q.1+(0 - 1)*p.2.1*q.2.1),.int (0+1*p.1*q.2.1+1*p.2.1*q.1),.int (0+1*p.1*q.2.2.1+(0 - 1)*p.2.1*q.2.2.2),.int (0+1*p.1*q.2.2.2+1*p.2.1*q.2.2.1)],true)]) ρ)\/(rem=[.tup [.int 3,.int p.2.2.2]]/\Sub (bx [("_law_one", dq p,false),("_law_other", dq q,false),("_law_sums", .lst [.int (0+1*p.1*q.1+(0 - 1)*p.2.1*q.2.1+(0 - 1)*p.2.2.1*q.2.2.1),.int (0+1*p.1*q.2.1+1*p.2.1*q.1+1*p.2.2.1*q.2.2.2),.int (0+1*p.1*q.2.2.1+(0 - 1)*p.2.1*q.2.2.2+1*p.2.2.1*q.1),.int (0+1*p.1*q.2.2.2+1*p.2.1*q.2.2.1+(0 - 1)*p.2.2.1*q.2.1)],true)]) ρ)\/(rem=[]/\Sub (bx [("_law_one", dq p,false),("_law_other", dq q,false),("_law_sums", .lst [.int (0+1*p.1*q.1+(0 - 1)*p.2.1*q.2.1+(0 - 1)*p.2.2.1*q.2.2.1+(0 - 1)*p.2.2.2*q.2.2.2),.int (0+1*p.1*q.2.1+1*p.2.1*q.1+1*p.2.2.1*q.2.2.2+(0 - 1)*p.2.2.2*q.2.2.1),.int (0+1*p.1*q.2.2.1+(0 - 1)*p.2.1*q.2.2.2+1*p.2.2.1*q.1+1*p.2.2.2*q.2.1),.int (0+1*p.1*q.2.2.2+1*p.2.1*q.2.2.1+(0 - 1)*p.2.2.1*q.2.1+1*p.2.2.2*q.1)],true)]) ρ)) decl_name% (.inl ⟨rfl,ah rfl (ah rfl (ah rfl aI))⟩) ?_ ?_))
 ·rintro d rem ρ (⟨e,s⟩ | ⟨e,s⟩ | ⟨e,s⟩ | ⟨e,s⟩ | ⟨e,s⟩)
  ·cases e
   exact ⟨_,rfl,bO ((s.put _ _).put _ _) decl_name% fun ρ' s'=>.inr (.inl ⟨rfl,ah s'.get (ah s'.get (ah s'.get aI))⟩)⟩
  ·cases e
   exact ⟨_,rfl,bO ((s.put _ _).put _ _) decl_name% fun ρ' s'=>.inr (.inr (.inl ⟨rfl,ah s'.get (ah s'.get (ah s'.get aI))⟩))⟩
  ·cases e
   exact ⟨_,rfl,bO ((s.put _ _).put _ _) decl_name% fun ρ' s'=>.inr (.inr (.inr (.inl ⟨rfl,ah s'.get (ah s'.get (ah s'.get aI))⟩)))⟩
  ·cases e
   exact ⟨_,rfl,bO ((s.put _ _).put _ _) decl_name% fun ρ' s'=>.inr (.inr (.inr (.inr ⟨rfl,ah s'.get (ah s'.get (ah s'.get aI))⟩)))⟩
  ·cases e
 ·rintro ρ (⟨e,s⟩ | ⟨e,s⟩ | ⟨e,s⟩ | ⟨e,s⟩ | ⟨e,s⟩)
  ·cases e
  ·cases e
  ·cases e
  ·cases e
  ·rw [<- tV p.1 p.2.1 p.2.2.1 p.2.2.2 q.1 q.2.1 q.2.2.1 q.2.2.2]
   exact cP s decl_name%
def sG:Fx:=Tb [("_law_spot", lU),("_law_plain", eV)] [] BL IL ML TL aU
def lV:List D->Rs D:=bH sG (ae (aj 54)) ["_law_script", "_law_cell_here"] (ao (aj 54))
theorem gh {x t:Int} {m j:Nat} (hx:x.natAbs<=2 ^ m) (ht:t.natAbs<=2 ^ j):(x*t).natAbs<=2 ^ (m+j):=by
 rw [Int.natAbs_mul,Nat.pow_add];exact Nat.mul_le_mul hx ht
theorem KG (c:Int) {f s:V3} (N:Qd) (bf:cw 64 f) (bs:cw 66 s):∃f' s':V3,cw 67 f'/\cw 67 s'/\∀ρ,Sub (bx [("_law_cell_here", .int c,false),("_law_first", dv f,true),("_law_second", dv s,true),("_law_number", dq N,true)]) ρ->ag (aD sG ((ao (aj 54)).drop 4) (ae (aj 54)) ρ) (.rt (.tup [dq N,dv f',dv s'])):=by
 have m0:=Int.fmod_nonneg_of_pos c (show (0:Int) < 8 by decide)
 have m1:=Int.fmod_lt_of_pos c (show (0:Int) < 8 by decide)
 obtain ⟨f0,f1,f2⟩:=bf.all
 obtain ⟨s0,s1,s2⟩:=bs.all
 have F0:f.1.natAbs < bY:=aQ f0 (by decide)
 have F1:f.2.1.natAbs < bY:=aQ f1 (by decide)
 have F2:f.2.2.natAbs < bY:=aQ f2 (by decide)
 by_cases e1:c.fmod 8=1
 ·have t0:=Int.fmod_nonneg_of_pos (c.fdiv 8) (show (0:Int) < 5 by decide)
  have t1:=Int.fmod_lt_of_pos (c.fdiv 8) (show (0:Int) < 5 by decide)
  have tb:(2 - (c.fdiv 8).fmod 5).natAbs < bY:=su (by omega)
  have tj:(2 - (c.fdiv 8).fmod 5).natAbs<=2 ^ 1:=by omega
  exact ⟨(f.1*(2 - (c.fdiv 8).fmod 5),f.2.1*(2 - (c.fdiv 8).fmod 5),f.2.2*(2 - (c.fdiv 8).fmod 5)),s,(cT ⟨gh f0 tj,gh f1 tj,gh f2 tj⟩).mono (by decide),bs.mono (by decide),fun ρ sb=>cP sb (er decl_name% (lP e1) (eB 1 decl_name% (aZ decl_name% ((bZ _ _).trans (decide_eq_false (by omega))) (aZ decl_name% ((bZ _ _).trans (decide_eq_false (by omega))) (aZ decl_name% ((bZ _ _).trans (decide_eq_false (by omega))) decl_name%)))))⟩
 by_cases e2:c.fmod 8=2
 ·have t0:=Int.fmod_nonneg_of_pos (c.fdiv 8) (show (0:Int) < 3 by decide)
  have t1:=Int.fmod_lt_of_pos (c.fdiv 8) (show (0:Int) < 3 by decide)
  refine ⟨f,(s.1+1+(c.fdiv 8).fmod 3,s.2.1,s.2.2),bf.mono (by decide),cT ⟨?_,Nat.le_trans s1 (by decide),Nat.le_trans s2 (by decide)⟩,fun ρ sb=>cP sb (aZ decl_name% ((bZ _ _).trans (decide_eq_false (by omega))) (er decl_name% (lP e2) (eB 1 decl_name% (aZ decl_name% ((bZ _ _).trans (decide_eq_false (by omega))) (aZ decl_name% ((bZ _ _).trans (decide_eq_false (by omega))) decl_name%)))))⟩
  show (s.1+1+(c.fdiv 8).fmod 3).natAbs<=2 ^ 67
  generalize (c.fdiv 8).fmod 3=t at *
  omega
 by_cases e3:c.fmod 8=3
 ·exact ⟨s,f,bs.mono (by decide),bf.mono (by decide),fun ρ sb=>cP sb (aZ decl_name% ((bZ _ _).trans (decide_eq_false (by omega))) (aZ decl_name% ((bZ _ _).trans (decide_eq_false (by omega))) (er decl_name% (lP e3) (eB 1 decl_name% (aZ decl_name% ((bZ _ _).trans (decide_eq_false (by omega))) decl_name%)))))⟩
 by_cases e4:c.fmod 8=4
 ·exact ⟨(0,0,0),s,cT ⟨by decide,by decide,by decide⟩,bs.mono (by decide),fun ρ sb=>cP sb (aZ decl_name% ((bZ _ _).trans (decide_eq_false (by omega))) (aZ decl_name% ((bZ _ _).trans (decide_eq_false (by omega))) (aZ decl_name% ((bZ _ _).trans (decide_eq_false (by omega))) (er decl_name% (lP e4) decl_name%))))⟩
 exact ⟨f,s,bf.mono (by decide),bs.mono (by decide),fun ρ sb=>cP sb (aZ decl_name% ((bZ _ _).trans (decide_eq_false (by omega))) (aZ decl_name% ((bZ _ _).trans (decide_eq_false (by omega))) (aZ decl_name% ((bZ _ _).trans (decide_eq_false (by omega))) (aZ decl_name% ((bZ _ _).trans (decide_eq_false (by omega))) decl_name%))))⟩
theorem iw {v:V3} {m:Nat} (h:cw m v):fh (2 ^ m) (aq v):=⟨Nat.zero_le _,h 0,h 1,h 2⟩
theorem kU {v:V3} {m:Nat} (h:cw m v) (hm:m < 9000):iF (aq v):=⟨aQ (Nat.zero_le _) hm,aQ (h 0) hm,aQ (h 1) hm,aQ (h 2) hm⟩
theorem HU {L:List D} (hw:lu L) (c:Int):∃(N:Qd) (f s:V3),ff N/\fh (2 ^ 134) N/\cw 67 f/\cw 67 s/\ag (lV [.lst L,.int c]) (.tup [dq N,dv f,dv s]):=by
 obtain ⟨f,nf,bf,hF⟩:=wy hw 1
 obtain ⟨s,ns,bs,hS⟩:=wy hw 4
 obtain ⟨f0,f1,f2⟩:=bf.all
 have F0:f.1.natAbs < bY:=aQ f0 (by decide)
 have F1:f.2.1.natAbs < bY:=aQ f1 (by decide)
 have F2:f.2.2.natAbs < bY:=aQ f2 (by decide)
 by_cases h5:c.fmod 8=5
 ·obtain ⟨j,j0,jb,hj⟩:∃j:Int,j≠0/\j.natAbs<=2 ^ 2/\L2.atI [.int 1,.int (-1),.int 2,.int (-3)] ((c.fdiv 8).fmod 4)=some (D.int j):=by
   have t0:=Int.fmod_nonneg_of_pos (c.fdiv 8) (show (0:Int) < 4 by decide)
   have t1:=Int.fmod_lt_of_pos (c.fdiv 8) (show (0:Int) < 4 by decide)
   have:(c.fdiv 8).fmod 4=0\/(c.fdiv 8).fmod 4=1\/(c.fdiv 8).fmod 4=2\/(c.fdiv 8).fmod 4=3:=by omega
   rcases this with e|e|e|e <;> rw [e]
   ·exact ⟨1,by decide,by decide,rfl⟩
   ·exact ⟨-1,by decide,by decide,rfl⟩
   ·exact ⟨2,by decide,by decide,rfl⟩
   ·exact ⟨-3,by decide,by decide,rfl⟩
  have J0:j.natAbs < bY:=aQ jb (by decide)
  have bs':cw 66 (f.1*j,f.2.1*j,f.2.2*j):=cT ⟨gh f0 jb,gh f1 jb,gh f2 jb⟩
  have ns':ff (aq (f.1*j,f.2.1*j,f.2.2*j)):=fun z=>nf ⟨rfl,(Int.mul_eq_zero.mp z.2.1).resolve_right j0,(Int.mul_eq_zero.mp z.2.2.1).resolve_right j0,(Int.mul_eq_zero.mp z.2.2.2).resolve_right j0⟩
  have hN:ag (eV [dq (aq (f.1*j,f.2.1*j,f.2.2*j)),dq (aq f)]) (dq (bJ (aq (f.1*j,f.2.1*j,f.2.2*j)) (aq f))):=⟨_,rfl,kU bs' (by decide),kU bf (by decide),True.intro⟩
  obtain ⟨f',s',bf',bs2,run⟩:=KG c (bJ (aq (f.1*j,f.2.1*j,f.2.2*j)) (aq f)) bf bs'
  refine ⟨_,f',s',qN ns' nf,ve (iw bs') (iw (bf.mono (by decide))),bf',bs2,bW (aJ (aP (az decl_name% hF)) (aJ (aP (az decl_name% hS)) (er decl_name% (lP h5) (aJ (aP (d:=dv (f.1*j,f.2.1*j,f.2.2*j)) (GE (B:=nq) (bD (zj (l:=[f.1,f.2.1,f.2.2]) (g:=D.int) (f:=fun x=>D.int (x*j)) decl_name% rfl (Nat.le_of_ble_eq_true rfl) (.inl rfl) fun x hx=>⟨_,rfl,?_⟩) dD) decl_name%)) (aJ (aP (d:=dq (bJ (aq (f.1*j,f.2.1*j,f.2.2*j)) (aq f))) (az decl_name% hN)) (run _ ?_))))))⟩
  ·refine j8 decl_name% (dU decl_name% decl_name% rfl hj) ⟨_,rfl,bQ ?_ J0,True.intro⟩
   simp only [List.mem_cons,List.not_mem_nil,or_false] at hx
   rcases hx with rfl|rfl|rfl
   ·exact F0
   ·exact F1
   ·exact F2
  ·exact ah rfl (ah rfl (ah rfl (ah rfl aI)))
 ·have hN:ag (eV [dq (aq s),dq (aq f)]) (dq (bJ (aq s) (aq f))):=⟨_,rfl,kU bs (by decide),kU bf (by decide),True.intro⟩
  obtain ⟨f',s',bf',bs2,run⟩:=KG c (bJ (aq s) (aq f)) bf (bs.mono (by decide))
  exact ⟨_,f',s',qN ns nf,ve (m:=66) (iw (bs.mono (by decide))) (iw (bf.mono (by decide))),bf',bs2,bW (aJ (aP (az decl_name% hF)) (aJ (aP (az decl_name% hS)) (aZ decl_name% ((bZ _ _).trans (decide_eq_false h5)) (aJ (aP (d:=dq (bJ (aq s) (aq f))) (az decl_name% hN)) (run _ (ah rfl (ah rfl (ah rfl (ah rfl aI)))))))))⟩
def xV:Fx:=Tb [] [] BL IL ML TL aU
def x6:List D->Rs D:=bH xV (ae (aj 53)) ["_law_one", "_law_other"] (ao (aj 53))
def iG:List D->Rs D:=tT dQ dQ fun p q=>.ok (.bl (xQ p q)) [iF p,iF q]
theorem pY (p:Qd) {i:Nat} (h:i < 4):L2.atI [.int p.1,.int p.2.1,.int p.2.2.1,.int p.2.2.2] (i:Int)=some (D.int (qa p i)):=by
 have:i=0\/i=1\/i=2\/i=3:=by omega
 rcases this with rfl|rfl|rfl|rfl <;> rfl
theorem u7 {p:Qd} (h:iF p) (i:Nat):(qa p i).natAbs < bY:=by
 unfold qa
 split
 ·exact h.1
 ·exact h.2.1
 ·exact h.2.2.1
 ·exact h.2.2.2
theorem sK:∀ds r,ag (iG ds) r->ag (x6 ds) r:=by
 intro ds r h
 obtain ⟨p,q,rfl,h'⟩:=kF h
 obtain ⟨rfl,hp,hq,_⟩:=fU h'
 refine bW (Ec (Inv:=fun ρ=>Sub (bx [("_law_one", dq p,false),("_law_other", dq q,false)]) ρ) (xt (h:=fun i:Nat=>D.int (i:Nat)) (fun i=>(List.range 4).all fun j=>decide (qa p i*qa q j=qa p j*qa q i)) _ (List.range 4) decl_name% rfl (ah rfl (ah rfl aI)) fun i hi ρ s=>⟨_,rfl,?_⟩) fun ρ s=>cP s decl_name%)
 have hi:i < 4:=List.mem_range.mp hi
 have s1:=s.put (Str.ofString "_law_i") (.int (i:Nat),false)
 refine Gi (Inv:=fun ρ=>Sub (bx [("_law_one", dq p,false),("_law_other", dq q,false),("_law_i", .int (i:Nat),false)]) ρ) (xt (h:=fun i:Nat=>D.int (i:Nat)) (fun j=>decide (qa p i*qa q j=qa p j*qa q i)) _ (List.range 4) (bU (s1.demote _) decl_name%) rfl (ah (s1.demote _).get (ah (s1.demote _).get (ah (s1.demote _).get aI))) fun j hj ρ s=>⟨_,rfl,?_⟩) fun ρ s=>ah s.get (ah s.get aI)
 have hj:j < 4:=List.mem_range.mp hj
 have s2:=s.put (Str.ofString "_law_j") (.int (j:Nat),false)
 refine Gj (eS (j8 (dU (bU s2 decl_name%) (bU s2 decl_name%) rfl (pY p hi)) (dU (bU s2 decl_name%) (bU s2 decl_name%) rfl (pY q hj)) ⟨_,rfl,bQ (u7 hp i) (u7 hq j),True.intro⟩) (j8 (dU (bU s2 decl_name%) (bU s2 decl_name%) rfl (pY p hj)) (dU (bU s2 decl_name%) (bU s2 decl_name%) rfl (pY q hi)) ⟨_,rfl,bQ (u7 hp j) (u7 hq i),True.intro⟩) decl_name%) (cP s2 decl_name%) rfl (ah s2.get (ah s2.get (ah s2.get aI)))
def tG:Fx:=Tb [] [] BL IL ML TL aU
def iO:List D->Rs D:=bH tG (ae (aj 14)) ["one", "other"] (ao (aj 14))
theorem LI (a b:Nat) (ha:a < 2 ^ 1000) (hb:b < 2 ^ 1000):ag (iO [.int a,.int b]) (.int (Nat.gcd a b:Nat)):=by
 refine bW (wx (m:=2002) (fun m ρ => ∃(x y:Nat) (f g:Bool),sS x y m/\Nat.gcd x y=Nat.gcd a b/\Sub (bx [("one", .int x,f),("other", .int y,g)]) ρ) ⟨a,b,false,false,Pb ha hb,rfl,ah rfl (ah rfl aI)⟩ (by decide) ?_ ?_)
 ·rintro m ρ ⟨x,y,f,g,hm,hg,s⟩
  refine ⟨!decide ((y:Int)=0),0,bU s (decl_name%.bl (by show (!eqD (.int y) (.int 0))=_;rw [bZ])),fun ht=>?_⟩
  have h0:y≠0:=by
   intro z;subst z;exact absurd ht (by decide)
  have hn:(y:Int)≠0:=by omega
  obtain ⟨m',hm',hE⟩:=uu hm h0
  have e:=rN x y
  exact nK hm' (bO s decl_name% fun ρ' s'=>⟨y,x % y,true,true,hE,by rw [<- hg,Nat.gcd_comm x y,Nat.gcd_rec y x,Nat.gcd_comm],ah s'.get (ah (by rw [<- e];exact s'.get) aI)⟩)
 ·rintro m ρ ⟨x,y,f,g,hm,hg,s⟩ ⟨k,hk⟩
  have e:=hk.inj (bU s decl_name%)
  have h0:y=0:=by
   have e1:(!eqD (.int y) (.int 0))=false:=by injection e with e1 e2;injection e1 with e1;exact e1.symm
   rw [bZ] at e1
   have:(y:Int)=0:=by simpa using e1
   omega
  subst h0
  rw [<- hg,Nat.gcd_zero_right]
  exact cP s decl_name%
def lS:Fx:=Tb [("shared_by", iO)] [] BL IL ML TL aU
def lW:List D->Rs D:=bH lS (ae (aj 13)) ["numbers"] (ao (aj 13))
def cA:List D->Rs D
 | [.tup l]=>.ok (.int (ou l)) [okT l]
 | _=>.st
theorem jI:∀ds r,ag (cA ds) r->ag (lW ds) r:=by
 intro ds r h
 unfold cA at h
 split at h
 ·obtain ⟨rfl,⟨ns,rfl,hl,hb⟩,_⟩:=fU h
  rw [rJ]
  refine bW (eB 1 decl_name% (tS (ds:=ns.map D.int) (fun rem ρ => ∃(r:List Int) (g:Nat),rem=r.map D.int/\(∀n∈r,n.natAbs < 2 ^ 1000)/\bT g r=bT 0 ns/\g < 2 ^ 1000/\Sub (bx [("reached", .int g,true)]) ρ) decl_name% ⟨ns,0,rfl,hb,rfl,Nat.pow_pos (by decide),ah rfl aI⟩ ?_ ?_ rfl (KE (.tup (ns.map D.int)))))
  ·rintro d l ρ ⟨r,g,hr,hb',hg,hlt,s⟩
   cases r with
   | nil=>cases hr
   | cons n r =>
    cases hr
    have hn:=hb' n List.mem_cons_self
    have ea:(if n < 0 then -n else n)=((n.natAbs:Nat):Int):=by omega
    have k:=LI g n.natAbs hlt hn
    refine ⟨_,rfl,bO (s.put _ _) (aJ (aP (az (v:=.int (Nat.gcd g n.natAbs:Nat)) (decl_name%.eq (by rw [ea])) k)) cS) fun ρ' s'=>⟨r,Nat.gcd g n.natAbs,rfl,fun m hm=>hb' m (List.mem_cons_of_mem _ hm),hg,?_,ah s'.get aI⟩⟩
    rcases Nat.eq_zero_or_pos g with z|z
    ·subst z;rw [Nat.gcd_zero_left];exact hn
    ·exact Nat.lt_of_le_of_lt (Nat.le_of_dvd z (Nat.gcd_dvd_left _ _)) hlt
  ·rintro ρ ⟨r,g,hr,hb',hg,hlt,s⟩
   cases r with
   | nil =>
    rw [<- hg]
    exact cP s decl_name%
   | cons n r=>cases hr
 ·exact (au h).elim
def tF:Fx:=Tb [] [] BL IL ML TL aU
def fj:List D->Rs D:=bH tF (ae (aj 15)) ["numbers", "divisor"] (ao (aj 15))
def sF:Fx:=Tb [("common_divisor", cA),("shortened", fj)] [] BL IL ML TL aU
def jB:List D->Rs D:=bH sF (ae (aj 20)) ["table"] (ao (aj 20))
theorem yS (n a b c d e f g h i G:Int) (hG:eZ G):ag (aD sF ((ao (aj 20)).drop 2) (ae (aj 20)) (bx [("n", .int n,false),("rows", .tup [d3 a b c,d3 d e f,d3 g h i],false),("common", .int G,true)])) (.rt (.tup [.int (n.fdiv G),.tup [d3 (a.fdiv G) (b.fdiv G) (c.fdiv G),d3 (d.fdiv G) (e.fdiv G) (f.fdiv G),d3 (g.fdiv G) (h.fdiv G) (i.fdiv G)]])):=cX rfl (by walk_at "ob")
theorem AH {n a b c d e f g h i:Int} (hn:0 < n) (nb:n.natAbs < bY) (hT:okT ([n,a,b,c,d,e,f,g,h,i].map D.int)):ag (jB [.tup [.int n,.tup [d3 a b c,d3 d e f,d3 g h i]]]) (.tup [.int (n.fdiv (gI [n,a,b,c,d,e,f,g,h,i])),.tup [d3 (a.fdiv (gI [n,a,b,c,d,e,f,g,h,i])) (b.fdiv (gI [n,a,b,c,d,e,f,g,h,i])) (c.fdiv (gI [n,a,b,c,d,e,f,g,h,i])),d3 (d.fdiv (gI [n,a,b,c,d,e,f,g,h,i])) (e.fdiv (gI [n,a,b,c,d,e,f,g,h,i])) (f.fdiv (gI [n,a,b,c,d,e,f,g,h,i])),d3 (g.fdiv (gI [n,a,b,c,d,e,f,g,h,i])) (h.fdiv (gI [n,a,b,c,d,e,f,g,h,i])) (i.fdiv (gI [n,a,b,c,d,e,f,g,h,i]))]]):=by
 have h0:0 < gI [n,a,b,c,d,e,f,g,h,i]:=mO (n:=n) (by simp) (by omega)
 have hd:eZ (gI [n,a,b,c,d,e,f,g,h,i]):=⟨by omega,Nat.lt_of_le_of_lt (JX (n:=n) (by simp) (by omega)) nb⟩
 rw [<- oq] at hd ⊢
 exact bW (eB 2 decl_name% (cP (ah rfl (ah rfl (ah rfl aI))) (yS n _ _ _ _ _ _ _ _ _ _ hd)))
def lT:Fx:=Tb [] [] BL IL ML TL aU
def ej:List D->Rs D:=bH lT (ae (aj 17)) ["one", "other"] (ao (aj 17))
def tK:Fx:=Tb [("added_products", ej)] [] BL IL ML TL aU
def lB:List D->Rs D:=bH tK (ae (aj 28)) ["rows", "other"] (ao (aj 28))
def zT:Fx:=Tb [("lowest", jB),("each_with", lB)] [] BL IL ML TL aU
def lX:List D->Rs D:=jn zT (ae (aj 27)) ["first", "second"] ((ao (aj 27)).take 2) (FN ((ao (aj 27)).getD 2 (.Pass ⟨0,0,0,0⟩))) (FM ((ao (aj 27)).getD 2 (.Pass ⟨0,0,0,0⟩))) ((ao (aj 27)).drop 3)
theorem AZ {A B:T9} {k m:Nat} (ha:0 < A.n) (hb:0 < B.n) (bA:A.bd k) (bB:B.bd m) (hk:k+m<=990):ag (lX [A.D,B.D]) (A.bh B).low.D:=by
 have hkm:∀{x:Int},x.natAbs<=2 ^ k->x.natAbs < bY:=fun h=>aQ h (by omega)
 have hmm:∀{x:Int},x.natAbs<=2 ^ m->x.natAbs < bY:=fun h=>aQ h (by omega)
 have An':=hkm (bA A.n (by simp [T9.l]))
 have Bn':=hmm (bB B.n (by simp [T9.l]))
 have Aa':=hkm (bA A.a (by simp [T9.l]))
 have Ba':=hmm (bB B.a (by simp [T9.l]))
 have Ab':=hkm (bA A.b (by simp [T9.l]))
 have Bb':=hmm (bB B.b (by simp [T9.l]))
 have Ac':=hkm (bA A.c (by simp [T9.l]))
 have Bc':=hmm (bB B.c (by simp [T9.l]))
 have Ad':=hkm (bA A.d (by simp [T9.l]))
 have Bd':=hmm (bB B.d (by simp [T9.l]))
 have Ae':=hkm (bA A.e (by simp [T9.l]))
 have Be':=hmm (bB B.e (by simp [T9.l]))
 have Af':=hkm (bA A.f (by simp [T9.l]))
 have Bf':=hmm (bB B.f (by simp [T9.l]))
 have Ag':=hkm (bA A.g (by simp [T9.l]))
 have Bg':=hmm (bB B.g (by simp [T9.l]))
 have Ah':=hkm (bA A.h (by simp [T9.l]))
 have Bh':=hmm (bB B.h (by simp [T9.l]))
 have Ai':=hkm (bA A.i (by simp [T9.l]))
 have Bi':=hmm (bB B.i (by simp [T9.l]))
 have hbd:=T9.bd_bh bA bB
 have hL:=AH (T9.bhn ha hb) (aQ (hbd _ (A.bh B).mem_n) (by omega)) (T9.okT (by omega) hbd)
 exact Fr rfl decl_name% decl_name% (cX rfl ⟨rfl,True.intro⟩) (di (dg (az decl_name% hL)))
def xS:Fx:=Tb [("common_divisor", cA),("shortened", fj)] [] BL IL ML TL aU
def ee:List D->Rs D:=bH xS (ae (aj 16)) ["numbers"] (ao (aj 16))
theorem BW (x y z w K:Int) (hK:eZ K):ag (fj [t4 x y z w,.int K]) (t4 (x.fdiv K) (y.fdiv K) (z.fdiv K) (w.fdiv K)):=cX rfl (by walk_at "ob")
theorem uJ {k a b c d:Int} (hk:k≠0) (p:Pm a b c d) (hT:okT (([k*a,k*b,k*c,k*d]:List Int).map D.int)) (kb:k.natAbs < bY):ag (ee [t4 (k*a) (k*b) (k*c) (k*d)]) (t4 a b c d):=by
 have hn:¬ (k*a=0/\k*b=0/\k*c=0/\k*d=0):=fun z=>p.ne ⟨(Int.mul_eq_zero.mp z.1).resolve_left hk,(Int.mul_eq_zero.mp z.2.1).resolve_left hk,(Int.mul_eq_zero.mp z.2.2.1).resolve_left hk,(Int.mul_eq_zero.mp z.2.2.2).resolve_left hk⟩
 have hg:ou (([k*a,k*b,k*c,k*d]:List Int).map D.int)=k.natAbs:=by rw [oq];exact AJ hk p
 have hl:=wY hn
 rw [lM _ _ _ _ hk] at hl
 have pos:=p.pos
 have fd:∀x:Int,(k*x).fdiv k=x:=fun x=>Int.mul_fdiv_cancel_left x hk
 have fin:=BW (k*a) (k*b) (k*c) (k*d) k ⟨hk,kb⟩
 rw [fd,fd,fd,fd] at fin
 have hD:ag (cA [t4 (k*a) (k*b) (k*c) (k*d)]) (.int (k.natAbs:Nat)):=⟨[okT (([k*a,k*b,k*c,k*d]:List Int).map D.int)],by rw [<- hg];rfl,hT,True.intro⟩
 have k0:¬ ((k.natAbs:Nat):Int)=0:=by omega
 refine bW (aJ (aP (d:=.int (k.natAbs:Nat)) (az decl_name% hD)) (aZ decl_name% ((bZ _ _).trans (decide_eq_false k0)) (aJ (aP (d:=.int (k*b9 a b c d)) (dU (k:=0) (kO (out:=((([k*a,k*b,k*c,k*d]:List Int).filter fun t => !decide (t=0)).map D.int)) (j:=0) decl_name% (ds:=([k*a,k*b,k*c,k*d]:List Int).map D.int) rfl ⟨Nat.le_of_ble_eq_true rfl,.inl rfl⟩ (fH (g:=D.int) (f:=D.int) (c:=fun t => !decide (t=0)) (fun x _=>?_)) (Nat.zero_le 1)) decl_name% rfl hl)) ?_)))
 ·refine ag.bnd (a:=!decide (x=0)) (gR (b:=!decide (x=0)) (c:=!decide (x=0)) (decl_name%.bl (by show (!eqD (.int x) (.int 0))=_;rw [bZ])) (fun h=>by rw [h];exact i8) id) ?_
  cases decide (x=0)
  ·exact ag.bnd decl_name% cY
  ·exact cY
 ·refine di (dg (az (bD decl_name% (bD (mX (r:=(.int k,0)) decl_name% (fun ht=>?_) (fun hf=>?_)) dD)) fin))
  ·have hlt:0 < k*b9 a b c d:=of_decide_eq_true ht
   have kp:0 < k:=by
    rcases Int.lt_or_gt_of_ne hk with q|q
    ·have:=Int.mul_neg_of_neg_of_pos q pos;omega
    ·exact q
   exact ag.eq decl_name% (by rw [show ((k.natAbs:Nat):Int)=k by omega];rfl)
  ·have hge:¬ 0 < k*b9 a b c d:=of_decide_eq_false hf
   have kp:k < 0:=by
    rcases Int.lt_or_gt_of_ne hk with q|q
    ·exact q
    ·have:=Int.mul_pos q pos;omega
   exact ag.eq decl_name% (by show (D.int (-((k.natAbs:Nat):Int)),0)=_;rw [show -((k.natAbs:Nat):Int)=k by omega])
def v7:Fx:=Tb [("upright", ee),("lowest", jB)] [] BL IL ML TL aU
def gJ:List D->Rs D:=bH v7 (ae (aj 22)) ["numbers"] (ao (aj 22))
theorem Al {k a b c d:Int} (hk:k≠0) (p:Pm a b c d) (hT:okT (([k*a,k*b,k*c,k*d]:List Int).map D.int)) (kb:k.natAbs < bY) (ha:a.natAbs<=2 ^ 140) (hb:b.natAbs<=2 ^ 140) (hc:c.natAbs<=2 ^ 140) (hd:d.natAbs<=2 ^ 140):ag (gJ [t4 (k*a) (k*b) (k*c) (k*d)]) (uQ a b c d):=by
 have aB:=aQ ha (by decide)
 have bB:=aQ hb (by decide)
 have cB:=aQ hc (by decide)
 have dB:=aQ hd (by decide)
 have dbl:∀{x:Int},x.natAbs<=2 ^ 140->(2*x).natAbs < bY:=fun {x} hx=>aQ (m:=141) (by rw [Int.natAbs_mul,Nat.pow_succ,Nat.mul_comm];exact Nat.mul_le_mul_right _ hx) (by decide)
 have a2:=dbl ha
 have b2:=dbl hb
 have c2:=dbl hc
 have hL:=AH (a:=cQ a b c d) (b:=cO a b c d) (c:=cN a b c d) (d:=cI a b c d) (e:=cM a b c d) (f:=cH a b c d) (g:=cG a b c d) (h:=cF a b c d) (i:=cK a b c d) (qW p.ne) (aQ (yp ha hb hc hd _ (by simp [ck])) (by decide)) (DX ha hb hc hd)
 exact bW (aJ (rQ (az decl_name% (uJ hk p hT kb)) rfl (.inl rfl) rfl) (aJ (aP (d:=.tup [d3 (cQ a b c d) (cO a b c d) (cN a b c d),d3 (cI a b c d) (cM a b c d) (cH a b c d),d3 (cG a b c d) (cF a b c d) (cK a b c d)]) decl_name%) (di (dg (az decl_name% hL)))))
def nC:Fx:=Tb [("upright", ee),("table_of", gJ)] [] BL IL ML TL aU
def cu:List D->Rs D:=gH nC (ae (bo (aj 31) 0)) ["self", "numbers"] (rC (bo (aj 31) 0)) "Turn" ["word", "row", "fractions"]
theorem DW {k a b c d:Int} (hk:k≠0) (p:Pm a b c d) (hT:okT (([k*a,k*b,k*c,k*d]:List Int).map D.int)) (kb:k.natAbs < bY) (ha:a.natAbs<=2 ^ 140) (hb:b.natAbs<=2 ^ 140) (hc:c.natAbs<=2 ^ 140) (hd:d.natAbs<=2 ^ 140):ag (cu [t4 (k*a) (k*b) (k*c) (k*d)]) (nM a b c d) :=
 xg rfl (bD decl_name% (bD (az decl_name% (uJ hk p hT kb)) (bD (az decl_name% (Al hk p hT kb ha hb hc hd)) dD))) rfl rfl rfl
def sH:Fx:=Tb [("table_of", gJ)] [] BL IL ML TL aU
def fM:List D->Rs D:=bH sH (ae (aj 34)) ["axis"] (ao (aj 34))
theorem Go {k b c d:Int} (hk:k≠0) (p:Pm 0 b c d) (hT:okT (([k*0,k*b,k*c,k*d]:List Int).map D.int)) (kb:k.natAbs < bY) (hb:b.natAbs<=2 ^ 140) (hc:c.natAbs<=2 ^ 140) (hd:d.natAbs<=2 ^ 140):ag (fM [d3 (k*b) (k*c) (k*d)]) (uQ 0 b c d):=by
 have h:=Al hk p hT kb (show (0:Int).natAbs<=2 ^ 140 from Nat.zero_le _) hb hc hd
 rw [Int.mul_zero] at h
 exact bW (di (dg (az decl_name% h)))
theorem Em (x y z K:Int) (hK:eZ K):ag (fj [d3 x y z,.int K]) (d3 (x.fdiv K) (y.fdiv K) (z.fdiv K)):=cX rfl (by walk_at "ob")
theorem DT {k b c d:Int} (hk:k≠0) (p:Pm 0 b c d) (hT:okT (([k*b,k*c,k*d]:List Int).map D.int)) (kb:k.natAbs < bY):ag (ee [d3 (k*b) (k*c) (k*d)]) (d3 b c d):=by
 have hn:¬ (k*b=0/\k*c=0/\k*d=0):=fun z=>p.ne ⟨rfl,(Int.mul_eq_zero.mp z.1).resolve_left hk,(Int.mul_eq_zero.mp z.2.1).resolve_left hk,(Int.mul_eq_zero.mp z.2.2).resolve_left hk⟩
 have hg:ou (([k*b,k*c,k*d]:List Int).map D.int)=k.natAbs:=by rw [oq];exact FY hk p
 have hl:=CS hk hn
 have pos:=p.pos
 have fd:∀x:Int,(k*x).fdiv k=x:=fun x=>Int.mul_fdiv_cancel_left x hk
 have fin:=Em (k*b) (k*c) (k*d) k ⟨hk,kb⟩
 rw [fd,fd,fd] at fin
 have hD:ag (cA [d3 (k*b) (k*c) (k*d)]) (.int (k.natAbs:Nat)):=⟨[okT (([k*b,k*c,k*d]:List Int).map D.int)],by rw [<- hg];rfl,hT,True.intro⟩
 have k0:¬ ((k.natAbs:Nat):Int)=0:=by omega
 refine bW (aJ (aP (d:=.int (k.natAbs:Nat)) (az decl_name% hD)) (aZ decl_name% ((bZ _ _).trans (decide_eq_false k0)) (aJ (aP (d:=.int (k*b9 0 b c d)) (dU (k:=0) (kO (out:=((([k*b,k*c,k*d]:List Int).filter fun t => !decide (t=0)).map D.int)) (j:=0) decl_name% (ds:=([k*b,k*c,k*d]:List Int).map D.int) rfl ⟨Nat.le_of_ble_eq_true rfl,.inl rfl⟩ (fH (g:=D.int) (f:=D.int) (c:=fun t => !decide (t=0)) (fun x _=>?_)) (Nat.zero_le 1)) decl_name% rfl hl)) ?_)))
 ·refine ag.bnd (a:=!decide (x=0)) (gR (b:=!decide (x=0)) (c:=!decide (x=0)) (decl_name%.bl (by show (!eqD (.int x) (.int 0))=_;rw [bZ])) (fun h=>by rw [h];exact i8) id) ?_
  cases decide (x=0)
  ·exact ag.bnd decl_name% cY
  ·exact cY
 ·refine di (dg (az (bD decl_name% (bD (mX (r:=(.int k,0)) decl_name% (fun ht=>?_) (fun hf=>?_)) dD)) fin))
  ·have hlt:0 < k*b9 0 b c d:=of_decide_eq_true ht
   have kp:0 < k:=by
    rcases Int.lt_or_gt_of_ne hk with q|q
    ·have:=Int.mul_neg_of_neg_of_pos q pos;omega
    ·exact q
   exact ag.eq decl_name% (by rw [show ((k.natAbs:Nat):Int)=k by omega];rfl)
  ·have hge:¬ 0 < k*b9 0 b c d:=of_decide_eq_false hf
   have kp:k < 0:=by
    rcases Int.lt_or_gt_of_ne hk with q|q
    ·exact q
    ·have:=Int.mul_pos q pos;omega
   exact ag.eq decl_name% (by show (D.int (-((k.natAbs:Nat):Int)),0)=_;rw [show -((k.natAbs:Nat):Int)=k by omega])
def jH:Fx:=Tb [("upright", ee),("half_table", fM)] [] BL IL ML TL aU
def cU:List D->Rs D:=gH jH (ae (bo (aj 32) 0)) ["self", "axis"] (rC (bo (aj 32) 0)) "HalfTurn" ["word", "row", "fractions"]
theorem Gs {k:Int} {u:V3} (hk:k≠0) (p:sM (aq u)) (hT:okT (([k*u.1,k*u.2.1,k*u.2.2]:List Int).map D.int)) (hT4:okT (([k*0,k*u.1,k*u.2.1,k*u.2.2]:List Int).map D.int)) (kb:k.natAbs < bY) (hb:u.1.natAbs<=2 ^ 140) (hc:u.2.1.natAbs<=2 ^ 140) (hd:u.2.2.natAbs<=2 ^ 140):ag (cU [d3 (k*u.1) (k*u.2.1) (k*u.2.2)]) (.obj "HalfTurn" ["word", "row", "fractions"] [.str "half", dv u,uQ 0 u.1 u.2.1 u.2.2]) :=
 xg rfl (bD decl_name% (bD (az decl_name% (DT hk p hT kb)) (bD (az decl_name% (Go hk p hT4 kb hb hc hd)) dD))) rfl rfl rfl
def v8:Fx:=Tb [] [] BL IL ML TL aU
def nG:List D->Rs D:=bH v8 (ae (aj 7)) ["one"] (ao (aj 7))
def lh:Fx:=Tb [("half_table", fM),("upright", ee),("opposite", nG)] [] BL IL ML TL aU
def dh:List D->Rs D:=gG lh (ae (bo (aj 33) 0)) ["self", "axis"] "n" "rows" (OY ((ao (bo (aj 33) 0)).getD 0 (.Pass ⟨0,0,0,0⟩))) (xh (bo (aj 33) 0)) "Mirror" ["word", "row", "fractions"]
theorem JF {k:Int} {u:V3} (hk:k≠0) (p:sM (aq u)) (hT:okT (([k*u.1,k*u.2.1,k*u.2.2]:List Int).map D.int)) (hT4:okT (([k*0,k*u.1,k*u.2.1,k*u.2.2]:List Int).map D.int)) (kb:k.natAbs < bY) (hb:u.1.natAbs<=2 ^ 140) (hc:u.2.1.natAbs<=2 ^ 140) (hd:u.2.2.natAbs<=2 ^ 140):ag (dh [d3 (k*u.1) (k*u.2.1) (k*u.2.2)]) (.obj "Mirror" ["word", "row", "fractions"] [.str "mirror", dv u,.tup [.int (tq (aq u)).low.n,.tup [d3 (-(tq (aq u)).low.a) (-(tq (aq u)).low.b) (-(tq (aq u)).low.c),d3 (-(tq (aq u)).low.d) (-(tq (aq u)).low.e) (-(tq (aq u)).low.f),d3 (-(tq (aq u)).low.g) (-(tq (aq u)).low.h) (-(tq (aq u)).low.i)]]]) :=
 Gh rfl (az decl_name% (Go hk p hT4 kb hb hc hd)) rfl (bD decl_name% (bD (az decl_name% (DT hk p hT kb)) (bD decl_name% dD))) rfl rfl rfl
def xW:Fx:=Tb [("Turn", cu),("HalfTurn", cU),("Mirror", dh)] [] BL IL ML TL aU
def fD:List D->Rs D:=bH xW (ae (aj 35)) ["word", "numbers"] (ao (aj 35))
theorem PV {d r:D} (h:ag (cU [d]) r):ag (fD [.str "half", d]) r:=bW (aZ decl_name% rfl (di (dg (mX (t:=true) decl_name% (fun _=>az decl_name% h) (fun z=>by cases z)))))
theorem PU {d r:D} (h:ag (dh [d]) r):ag (fD [.str "mirror", d]) r:=bW (aZ decl_name% rfl (di (dg (mX (t:=false) decl_name% (fun z=>by cases z) (fun _=>az decl_name% h)))))
theorem Rl {k:Int} {u:V3} {m:Nat} (hk:k≠0) (p:sM (aq u)) (hm:m<=140) (h:cw m (k*u.1,k*u.2.1,k*u.2.2)):okT (([k*u.1,k*u.2.1,k*u.2.2]:List Int).map D.int)/\okT (([k*0,k*u.1,k*u.2.1,k*u.2.2]:List Int).map D.int)/\k.natAbs < bY/\cw m u:=by
 obtain ⟨h1,h2,h3⟩:=h.all
 have e:fh (2 ^ m) (kq k (aq u)):=⟨by show (k*0).natAbs<=_;rw [Int.mul_zero];exact Nat.zero_le _,h1,h2,h3⟩
 refine ⟨mw (k:=m) (by omega) (Nat.le_of_ble_eq_true rfl) (by
  intro t ht
  simp only [List.mem_cons,List.not_mem_nil,or_false] at ht
  rcases ht with rfl|rfl|rfl
  ·exact h1
  ·exact h2
  ·exact h3),wZ (by omega) e,aQ (FX p.ne e) (by omega),?_⟩
 have:=yB hk e
 exact cT ⟨this.2.1,this.2.2.1,this.2.2.2⟩
theorem Ed {x:Int} (hx:x≠0):0 < x*x:=by
 rcases Int.lt_or_gt_of_ne hx with z|z
 ·exact Int.mul_pos_of_neg_of_neg z z
 ·exact Int.mul_pos z z
theorem Gq {f:V3} (nf:ff (aq f)) (b:cw 67 f):∃u:V3,ag (fD [.str "half", dv f]) (.obj "HalfTurn" ["word", "row", "fractions"] [.str "half", dv u,(tq (aq f)).low.D])/\ag (fD [.str "mirror", dv f]) (.obj "Mirror" ["word", "row", "fractions"] [.str "mirror", dv u,(tq (aq f)).low.mir.D]):=by
 obtain ⟨k,u,hk,e,pu⟩:=Jh nf
 subst e
 obtain ⟨t1,t2,t3,t4⟩:=Rl hk pu (by decide) b
 obtain ⟨u1,u2,u3⟩:=(t4.mono (show 67<=140 by decide)).all
 have e:(tq (aq (k*u.1,k*u.2.1,k*u.2.2))).low=(tq (aq u)).low:=by
  have e1:tq (aq (k*u.1,k*u.2.1,k*u.2.2))=(tq (aq u)).map (k*k * ·):=by
   rw [<- kC]
   show tq (0,_,_,_)=tq (k*0,_,_,_)
   rw [Int.mul_zero]
  rw [e1,T9.low_mul (Ed hk) (cJ pu.ne)]
 rw [e]
 exact ⟨u,PV (Gs hk pu t1 t2 t3 u1 u2 u3),PU (JF hk pu t1 t2 t3 u1 u2 u3)⟩
def sI:Fx:=xZ [] [] BL IL ML TL aU [("Turn", ["fractions"]),("HalfTurn", ["fractions"]),("Mirror", ["fractions"])] []
def bV:List D->Rs D:=bH sI (ae (bo (aj 30) 1)) ["self"] (ao (bo (aj 30) 1))
def sC:Fx:=xZ [("behind", lX),("deed_by", fD)] [("NO_AXIS", .tup [.int 0,.int 0,.int 0])] BL IL ML TL aU [] [("Turn", [("table", bV)]),("HalfTurn", [("table", bV)]),("Mirror", [("table", bV)])]
def d9:List D->Rs D:=bH sC (ae (aj 46)) ["turn", "word", "first", "second"] (ao (aj 46))
theorem gk (f g:V3):eqD (dv f) (dv g)=decide (f=g):=by
 show (f.1==g.1&&(f.2.1==g.2.1&&(f.2.2==g.2.2&&true)))=_
 obtain ⟨a,b,c⟩:=f;obtain ⟨d,e,h⟩:=g
 rw [Bool.eq_iff_iff];simp
theorem vm {f:V3} (h:f≠(0,0,0)):ff (aq f):=fun z=>h (by
 obtain ⟨a,b,c⟩:=f
 obtain ⟨_,z1,z2,z3⟩:=z
 have z1:a=0:=z1
 have z2:b=0:=z2
 have z3:c=0:=z3
 rw [z1,z2,z3])
theorem CA {q:Qd} {f s:V3} (nf:ff (aq f)) (ns:ff (aq s)):((tq (aq f)).low.bh (tq (aq s)).low).low=(tq (bJ (aq s) (aq f))).low:=by
 rw [T9.lows (cJ nf) (cJ ns),wt]
theorem CO {A B:T9}:(A.mir.bh B.mir).low=(A.bh B).low:=by rw [T9.bh_mir]
theorem AY (A B:T9):ag (iM .Eq A.D B.D) (decide (A=B)):=by
 rw [<- T9.eqDD]
 exact ⟨_,rfl,rfl,True.intro⟩
theorem K7 {q:Qd} {f s:V3} (hf:f≠(0,0,0)) (hs:s≠(0,0,0)) (bf:cw 67 f) (bs:cw 67 s):ag (d9 [cy q,.str "half", dv f,dv s]) (.bl (decide ((tq (bJ (aq s) (aq f))).low=(tq q).low)))/\ag (d9 [cy q,.str "mirror", dv f,dv s]) (.bl (decide ((tq (bJ (aq s) (aq f))).low=(tq q).low))):=by
 have nf:=vm hf
 have ns:=vm hs
 obtain ⟨u,h1,h2⟩:=Gq nf bf
 obtain ⟨v,k1,k2⟩:=Gq ns bs
 have bA:=T9.bd_low (cJ nf) (Ak (iw bf))
 have bB:=T9.bd_low (cJ ns) (Ak (iw bs))
 have pA:=T9.lown (cJ nf)
 have pB:=T9.lown (cJ ns)
 have e1:=AZ pA pB bA bB (by decide)
 have e2:=AZ (A:=(tq (aq f)).low.mir) (B:=(tq (aq s)).low.mir) pA pB (T9.bd_mir bA) (T9.bd_mir bB) (by decide)
 rw [CO] at e2
 rw [CA (q:=q) nf ns] at e1 e2
 have c1:(eqD (dv f) (dv (0,0,0)) || (eqD (dv s) (dv (0,0,0)) || false))=false:=by
  rw [gk,gk,decide_eq_false hf,decide_eq_false hs];rfl
 generalize (tq (aq f)).low=A at *
 generalize (tq (aq s)).low=B at *
 generalize (tq (bJ (aq s) (aq f))).low=P at *
 refine ⟨bW (aZ (t:=false) (k:=0) (fG (mW decl_name% (mW (decl_name%.bl c1) xu))) rfl (di (dg (eS (az (bD (fW (az decl_name% h1) decl_name% rfl (d:=A.D) decl_name%) (bD (fW (az decl_name% k1) decl_name% rfl (d:=B.D) decl_name%) dD)) e1) (fW decl_name% decl_name% rfl (d:=(tq q).low.D) decl_name%) (AY _ _))))),bW (aZ (t:=false) (k:=0) (fG (mW decl_name% (mW (decl_name%.bl c1) xu))) rfl (di (dg (eS (az (bD (fW (az decl_name% h2) decl_name% rfl (d:=A.mir.D) decl_name%) (bD (fW (az decl_name% k2) decl_name% rfl (d:=B.mir.D) decl_name%) dD)) e2) (fW decl_name% decl_name% rfl (d:=(tq q).low.D) decl_name%) (AY _ _)))))⟩
def fY:Fx:=Tb [("_law_axes", lV),("_law_cell", ik),("_law_alike", iG),("shows_pair", d9),("_law_plain", eV),("Turn", cu)] [] BL IL ML TL aU
def ga:List D->Rs D:=bH fY (ae (aj 55)) ["_law_script"] (ao (aj 55))
theorem EL {q:Qd} {W:Str} {f s:V3} {b:Bool} {ρ:ak} (h:ag (d9 [cy q,.str W,dv f,dv s]) (.bl b)) (sb:Sub (bx [("_law_turn", cy q,true),("_law_word", .str W,true),("_law_first", dv f,false),("_law_second", dv s,false),("_law_due", .bl b,true)]) ρ):ag (aD fY ((ao (aj 55)).drop 6) (ae (aj 55)) ρ) (.rt (.bl true)):=by
 cases b
 ·refine cP sb (kE [.int 0,.int 1] decl_name% ?_)
  refine i5 (C:=bx [("_law_turn", cy q,true),("_law_word", .str W,true),("_law_first", dv f,false),("_law_second", dv s,false),("_law_due", .bl false,true)]) (P:=fun ρ=>sQ _ _ _ _ _ _ _ ρ) (ah rfl (ah rfl (ah rfl (ah rfl (ah rfl aI))))) fun ρ sz=>?_
  refine ⟨_,rfl,.inl (bO (sz.put _ _) (aJ (aP (az decl_name% h)) (aZ decl_name% rfl cS)) fun ρ s'=>?_)⟩
  replace sz:=(show Sub (bx [("_law_turn", cy q,true),("_law_word", .str W,true),("_law_first", dv f,false),("_law_second", dv s,false),("_law_due", .bl false,true)]) ρ from (ah s'.get (ah s'.get (ah s'.get (ah s'.get (ah s'.get aI))))))
  refine ⟨_,rfl,.inl (bO (sz.put _ _) (aJ (aP (az decl_name% h)) (aZ decl_name% rfl cS)) fun ρ s'=>?_)⟩
  exact cP (show Sub (bx [("_law_turn", cy q,true),("_law_word", .str W,true),("_law_first", dv f,false),("_law_second", dv s,false),("_law_due", .bl false,true)]) ρ from (ah s'.get (ah s'.get (ah s'.get (ah s'.get (ah s'.get aI)))))) decl_name%
 ·refine cP sb (kE [.int 0,.int 1] decl_name% ?_)
  refine i5 (C:=bx [("_law_turn", cy q,true),("_law_word", .str W,true),("_law_first", dv f,false),("_law_second", dv s,false),("_law_due", .bl true,true)]) (P:=fun ρ=>sQ _ _ _ _ _ _ _ ρ) (ah rfl (ah rfl (ah rfl (ah rfl (ah rfl aI))))) fun ρ sz=>?_
  refine ⟨_,rfl,.inl (bO (sz.put _ _) (aJ (aP (az decl_name% h)) (aZ decl_name% rfl cS)) fun ρ s'=>?_)⟩
  replace sz:=(show Sub (bx [("_law_turn", cy q,true),("_law_word", .str W,true),("_law_first", dv f,false),("_law_second", dv s,false),("_law_due", .bl true,true)]) ρ from (ah s'.get (ah s'.get (ah s'.get (ah s'.get (ah s'.get aI))))))
  refine ⟨_,rfl,.inl (bO (sz.put _ _) (aJ (aP (az decl_name% h)) (aZ decl_name% rfl cS)) fun ρ s'=>?_)⟩
  exact cP (show Sub (bx [("_law_turn", cy q,true),("_law_word", .str W,true),("_law_first", dv f,false),("_law_second", dv s,false),("_law_due", .bl true,true)]) ρ from (ah s'.get (ah s'.get (ah s'.get (ah s'.get (ah s'.get aI)))))) decl_name%
theorem EK {N q:Qd} {W:Str} {f s:V3} (nN:ff N) (bN:iF N) (eq:(tq q).low=(tq N).low) (bf:cw 67 f) (bs:cw 67 s) (hW:(W = "half" \/ W = "mirror")\/(W = "halves" \/ W = "" \/ W = "Mirror")):∃b:Bool,ag (d9 [cy q,.str W,dv f,dv s]) (.bl b)/\∀ρ,Sub (bx [("_law_number", dq N,false),("_law_first", dv f,false),("_law_second", dv s,false),("_law_turn", cy q,true),("_law_word", .str W,true)]) ρ->∃ρ',ag (aD fY (((ao (aj 55)).drop 4).take 2) (ae (aj 55)) ρ) (.nx ρ')/\Sub (bx [("_law_turn", cy q,true),("_law_word", .str W,true),("_law_first", dv f,false),("_law_second", dv s,false),("_law_due", .bl b,true)]) ρ':=by
 rcases hW with hW|hW
 ·by_cases hf:f=(0,0,0)
  ·subst hf
   refine ⟨false,?_,fun ρ s=>?_⟩
   ·rcases hW with rfl|rfl <;> exact bW (er (t:=true) (k:=0) decl_name% rfl decl_name%)
   ·rcases hW with rfl|rfl <;> exact bO s (aJ (aP (d:=.bl false) decl_name%) (aZ decl_name% rfl cS)) fun ρ' s'=>(ah s'.get (ah s'.get (ah s'.get (ah s'.get (ah s'.get aI)))))
  by_cases hs:s=(0,0,0)
  ·subst hs
   have c1:(eqD (dv f) (dv (0,0,0)) || (eqD (dv (0,0,0)) (dv (0,0,0)) || false))=true:=by rw [gk,gk];simp
   have hf':(!eqD (dv f) (dv (0,0,0)))=true:=by rw [gk,decide_eq_false hf];rfl
   refine ⟨false,?_,fun ρ s=>?_⟩
   ·rcases hW with rfl|rfl <;> exact bW (er (t:=true) (k:=0) (fG (mW decl_name% (rT (b:=true) (decl_name%.bl c1) (fun z=>by cases z) (fun _=>rfl)))) rfl decl_name%)
   ·rcases hW with rfl|rfl <;> exact bO s (aJ (aP (d:=.bl false) (fG (gj decl_name% (gj (decl_name%.bl hf') (gR (b:=false) decl_name% (fun z=>by cases z) fun _=>rfl))))) (aZ decl_name% rfl cS)) fun ρ' s'=>(ah s'.get (ah s'.get (ah s'.get (ah s'.get (ah s'.get aI)))))
  have hf':(!eqD (dv f) (dv (0,0,0)))=true:=by rw [gk,decide_eq_false hf];rfl
  have hs':(!eqD (dv s) (dv (0,0,0)))=true:=by rw [gk,decide_eq_false hs];rfl
  obtain ⟨h1,h2⟩:=K7 (q:=q) hf hs bf bs
  have nP:=qN (vm hs) (vm hf)
  have hP:ag (eV [dq (aq s),dq (aq f)]) (dq (bJ (aq s) (aq f))):=⟨_,rfl,kU bs (by decide),kU bf (by decide),True.intro⟩
  have bP:iF (bJ (aq s) (aq f)):=HQ (ve (iw bs) (iw bf)) (Nat.pow_lt_pow_right (by decide) (by decide))
  have hAl:ag (iG [dq (bJ (aq s) (aq f)),dq N]) (.bl (xQ (bJ (aq s) (aq f)) N)):=⟨_,rfl,bP,bN,True.intro⟩
  rw [Ie nP nN] at hAl
  rw [eq] at h1 h2
  generalize decide ((tq (bJ (aq s) (aq f))).low=(tq N).low)=b at *
  refine ⟨b,?_,fun ρ s=>?_⟩
  ·rcases hW with rfl|rfl
   ·exact h1
   ·exact h2
  ·rcases hW with rfl|rfl <;> exact bO s (aJ (aP (d:=.bl true) (fG (gj decl_name% (gj (decl_name%.bl hf') (gj (decl_name%.bl hs') i8))))) (er decl_name% rfl (aJ (aP (d:=.bl b) (az (bD (az decl_name% hP) (bD decl_name% dD)) hAl)) cS))) fun ρ' s'=>(ah s'.get (ah s'.get (ah s'.get (ah s'.get (ah s'.get aI)))))
 ·refine ⟨false,?_,fun ρ s=>?_⟩
  ·rcases hW with rfl|rfl|rfl <;> exact bW (er (t:=true) (k:=0) (fG (rT (b:=true) decl_name% (fun z=>by cases z) fun _=>rfl)) rfl decl_name%)
  ·rcases hW with rfl|rfl|rfl <;> exact bO s (aJ (aP (d:=.bl false) (fG (gR (b:=false) decl_name% (fun z=>by cases z) fun _=>rfl))) (aZ decl_name% rfl cS)) fun ρ' s'=>(ah s'.get (ah s'.get (ah s'.get (ah s'.get (ah s'.get aI)))))
theorem Ai {k:Int} {q:Qd} {m:Nat} (hk:k≠0) (p:sM q) (hm:m<=900) (h:fh (2 ^ m) (kq k q)) (hq:fh (2 ^ 140) q):ag (cu [dq (kq k q)]) (cy q) :=
 DW hk p (wZ (by omega) h) (aQ (FX p.ne h) (by omega)) hq.1 hq.2.1 hq.2.2.1 hq.2.2.2
theorem t9 {N:Qd} (nN:ff N):∃(k:Int) (q:Qd),k≠0/\N=kq k q/\sM q:=by
 obtain ⟨k,a,b,c,d,hk,e1,e2,e3,e4,pm,_⟩:=tZ nN
 exact ⟨k,(a,b,c,d),hk,by obtain ⟨x,y,z,w⟩:=N;exact Prod.ext e1 (Prod.ext e2 (Prod.ext e3 e4)),pm⟩
theorem FR {k:Int} {q:Qd} (hk:k≠0) (p:sM q):(tq (kq k q)).low=(tq q).low:=by
 rw [show tq (kq k q)=(tq q).map (k*k * ·) from kC k q,T9.low_mul (Ed hk) (cJ p.ne)]
theorem Fe {L:List D} (hw:lu L):ag (ga [.lst L]) (.bl true):=by
 have hl:=hw.okL
 obtain ⟨N,f,s,nN,lN,bf,bs,hA⟩:=HU hw (bg L 0)
 have t0:=Int.fmod_nonneg_of_pos (bg L 7) (show (0:Int) < 3 by decide)
 have t1:=Int.fmod_lt_of_pos (bg L 7) (show (0:Int) < 3 by decide)
 have tb:(1+(bg L 7).fmod 3).natAbs<=2 ^ 2:=by omega
 have tn:1+(bg L 7).fmod 3≠0:=by omega
 have tB:(1+(bg L 7).fmod 3).natAbs < bY:=aQ tb (by decide)
 obtain ⟨k,q,hk,eN,pq⟩:=t9 nN
 obtain ⟨n0,n1,n2,n3⟩:=lN
 have bN:iF N:=⟨aQ n0 (by decide),aQ n1 (by decide),aQ n2 (by decide),aQ n3 (by decide)⟩
 obtain ⟨B0,B1,B2,B3⟩:=bN
 have hT:ag (cu [dq (kq (1+(bg L 7).fmod 3) N)]) (cy q):=by
  have lt:fh (2 ^ (2+134)) (kq (1+(bg L 7).fmod 3) N):=⟨gh tb n0,gh tb n1,gh tb n2,gh tb n3⟩
  have e:kq (1+(bg L 7).fmod 3) N=kq ((1+(bg L 7).fmod 3)*k) q:=by
   rw [eN]
   unfold kq
   simp only [Int.mul_assoc]
  rw [e] at lt ⊢
  have nk:(1+(bg L 7).fmod 3)*k≠0:=fun z=>(Int.mul_eq_zero.mp z).elim tn hk
  exact Ai nk pq (by decide) lt (lL (yB nk lt) (Nat.pow_le_pow_right (by decide) (by decide)))
 have eL:(tq q).low=(tq N).low:=by rw [eN,FR hk pq]
 obtain ⟨W,hW,hWs⟩:∃W:Str,L2.atI [.str "half", .str "mirror", .str "half", .str "mirror", .str "halves", .str "", .str "Mirror"] ((bg L 8).fmod 7)=some (D.str W)/\((W = "half" \/ W = "mirror")\/(W = "halves" \/ W = "" \/ W = "Mirror")):=by
  have t0:=Int.fmod_nonneg_of_pos (bg L 8) (show (0:Int) < 7 by decide)
  have t1:=Int.fmod_lt_of_pos (bg L 8) (show (0:Int) < 7 by decide)
  have:(bg L 8).fmod 7=0\/(bg L 8).fmod 7=1\/(bg L 8).fmod 7=2\/(bg L 8).fmod 7=3\/(bg L 8).fmod 7=4\/(bg L 8).fmod 7=5\/(bg L 8).fmod 7=6:=by omega
  rcases this with e|e|e|e|e|e|e <;> rw [e]
  ·exact ⟨_,rfl,.inl (.inl rfl)⟩
  ·exact ⟨_,rfl,.inl (.inr rfl)⟩
  ·exact ⟨_,rfl,.inl (.inl rfl)⟩
  ·exact ⟨_,rfl,.inl (.inr rfl)⟩
  ·exact ⟨_,rfl,.inr (.inl rfl)⟩
  ·exact ⟨_,rfl,.inr (.inr (.inl rfl))⟩
  ·exact ⟨_,rfl,.inr (.inr (.inr rfl))⟩
 obtain ⟨b,hS,run⟩:=EK (q:=q) nN ⟨B0,B1,B2,B3⟩ eL bf bs hWs
 refine bW (aJ (rQ (az decl_name% hA) rfl (.inr (Nat.zero_le 1)) rfl) (aJ (aP (d:=.int (1+(bg L 7).fmod 3)) decl_name%) (aJ (aP (d:=cy q) (az (ds:=[dq (kq (1+(bg L 7).fmod 3) N)]) decl_name% hT)) (aJ (aP (d:=.str W) (dU decl_name% decl_name% rfl hW)) ?_))))
 refine i5 (C:=bx [("_law_number", dq N,false),("_law_first", dv f,false),("_law_second", dv s,false),("_law_turn", cy q,true),("_law_word", .str W,true)]) (P:=fun ρ=>ag (aD _ _ _ ρ) _) (ah rfl (ah rfl (ah rfl (ah rfl (ah rfl aI))))) fun ρ sb=>?_
 obtain ⟨ρ',h1,h2⟩:=run ρ sb
 exact eB 2 h1 (EL hS h2)
def ny:Fx:=xZ [] [] BL IL ML TL aU [] [("Turn", [("table", bV)]),("HalfTurn", [("table", bV)]),("Mirror", [("table", bV)])]
def fN:List D->Rs D:=bH ny (ae (aj 38)) ["turn"] (ao (aj 38))
theorem zx (a b c d:Int):ag (fN [nM a b c d]) (.int ((n4 a b c d).fdiv (gI (ck a b c d)))):=cX rfl (by walk_at "ob")
def oP:Fx:=Tb [] [] BL IL ML TL aU
def oR:List D->Rs D:=bH oP (ae (aj 11)) ["four"] (ao (aj 11))
def fZ:List D->Rs D:=Ef dQ fun p=>.ok (dq (QA p)) []
theorem lj:∀ds r,ag (fZ ds) r->ag (oR ds) r:=by
 intro ds r h
 obtain ⟨p,rfl,h'⟩:=BV h
 obtain ⟨rfl,_⟩:=fU h'
 exact cX rfl (by walk_at "ob")
def pU:Fx:=Tb [("added_products", ej)] [] BL IL ML TL aU
def gA:List D->Rs D:=bH pU (ae (aj 24)) ["rows"] (ao (aj 24))
def pT:Fx:=Tb [("added_products", ej),("determinant", gA)] [("PAIRS", .tup [.tup [.int 0,.int 0],.tup [.int 0,.int 1],.tup [.int 0,.int 2],.tup [.int 1,.int 1],.tup [.int 1,.int 2],.tup [.int 2,.int 2]])] BL IL ML TL aU
def fo:List D->Rs D:=bH pT (ae (aj 23)) ["table"] (ao (aj 23))
theorem vI {p q r s:Int} (hp:p.natAbs<=2 ^ 294) (hq:q.natAbs<=2 ^ 294) (hr:r.natAbs<=2 ^ 294) (hs:s.natAbs<=2 ^ 294):(p*q - r*s).natAbs < bY:=by
 have h1:(p*q).natAbs<=2 ^ 588:=by rw [Int.natAbs_mul];exact Nat.le_trans (Nat.mul_le_mul hp hq) (by rw [<- Nat.pow_add];exact Nat.le_refl _)
 have h2:(r*s).natAbs<=2 ^ 588:=by rw [Int.natAbs_mul];exact Nat.le_trans (Nat.mul_le_mul hr hs) (by rw [<- Nat.pow_add];exact Nat.le_refl _)
 have h3:(p*q - r*s).natAbs<=2 ^ 588+2 ^ 588:=Nat.le_trans (Int.natAbs_sub_le _ _) (Nat.add_le_add h1 h2)
 exact aQ (m:=589) (Nat.le_trans h3 (by rw [Nat.pow_succ];omega)) (by decide)
theorem Df {n r0 r1 r2 r3 r4 r5 r6 r7 r8:Int} (nB:n.natAbs < bY)
  (b0:r0.natAbs<=2 ^ 294)
  (b1:r1.natAbs<=2 ^ 294)
  (b2:r2.natAbs<=2 ^ 294)
  (b3:r3.natAbs<=2 ^ 294)
  (b4:r4.natAbs<=2 ^ 294)
  (b5:r5.natAbs<=2 ^ 294)
  (b6:r6.natAbs<=2 ^ 294)
  (b7:r7.natAbs<=2 ^ 294)
  (b8:r8.natAbs<=2 ^ 294)
  (o00:be r0 r1 r2 r0 r1 r2=n*n)
  (o01:be r0 r1 r2 r3 r4 r5=0)
  (o02:be r0 r1 r2 r6 r7 r8=0)
  (o11:be r3 r4 r5 r3 r4 r5=n*n)
  (o12:be r3 r4 r5 r6 r7 r8=0)
  (o22:be r6 r7 r8 r6 r7 r8=n*n)
  (hd:¬ be r0 r1 r2 (r4*r8 - r5*r7) (r5*r6 - r3*r8) (r3*r7 - r4*r6) < 0):ag (fo [.tup [.int n,.tup [d3 r0 r1 r2,d3 r3 r4 r5,d3 r6 r7 r8]]]) .non:=by
 have B0:=aQ b0 (by decide)
 have B1:=aQ b1 (by decide)
 have B2:=aQ b2 (by decide)
 have B3:=aQ b3 (by decide)
 have B4:=aQ b4 (by decide)
 have B5:=aQ b5 (by decide)
 have B6:=aQ b6 (by decide)
 have B7:=aQ b7 (by decide)
 have B8:=aQ b8 (by decide)
 have x0:=vI b4 b8 b5 b7
 have x1:=vI b5 b6 b3 b8
 have x2:=vI b3 b7 b4 b6
 refine bW (eB 1 decl_name% (kE [.tup [.int 0,.int 0],.tup [.int 0,.int 1],.tup [.int 0,.int 2],.tup [.int 1,.int 1],.tup [.int 1,.int 2],.tup [.int 2,.int 2]] decl_name% ?_))
 refine i5 (C:=bx [("n", .int n,false),("rows", .tup [d3 r0 r1 r2,d3 r3 r4 r5,d3 r6 r7 r8],false)]) (P:=fun ρ=>sQ _ _ _ _ _ _ _ ρ) (ah rfl (ah rfl aI)) fun ρ s=>?_
 refine ⟨_,rfl,.inl (bO ((s.put _ _).put _ _) (aZ decl_name% (n8 o00) decl_name%) fun ρ s'=>?_)⟩
 replace s:=(show Sub (bx [("n", .int n,false),("rows", .tup [d3 r0 r1 r2,d3 r3 r4 r5,d3 r6 r7 r8],false)]) ρ from ah s'.get (ah s'.get aI))
 clear s'
 refine ⟨_,rfl,.inl (bO ((s.put _ _).put _ _) (aZ decl_name% (n8 o01) decl_name%) fun ρ s'=>?_)⟩
 replace s:=(show Sub (bx [("n", .int n,false),("rows", .tup [d3 r0 r1 r2,d3 r3 r4 r5,d3 r6 r7 r8],false)]) ρ from ah s'.get (ah s'.get aI))
 clear s'
 refine ⟨_,rfl,.inl (bO ((s.put _ _).put _ _) (aZ decl_name% (n8 o02) decl_name%) fun ρ s'=>?_)⟩
 replace s:=(show Sub (bx [("n", .int n,false),("rows", .tup [d3 r0 r1 r2,d3 r3 r4 r5,d3 r6 r7 r8],false)]) ρ from ah s'.get (ah s'.get aI))
 clear s'
 refine ⟨_,rfl,.inl (bO ((s.put _ _).put _ _) (aZ decl_name% (n8 o11) decl_name%) fun ρ s'=>?_)⟩
 replace s:=(show Sub (bx [("n", .int n,false),("rows", .tup [d3 r0 r1 r2,d3 r3 r4 r5,d3 r6 r7 r8],false)]) ρ from ah s'.get (ah s'.get aI))
 clear s'
 refine ⟨_,rfl,.inl (bO ((s.put _ _).put _ _) (aZ decl_name% (n8 o12) decl_name%) fun ρ s'=>?_)⟩
 replace s:=(show Sub (bx [("n", .int n,false),("rows", .tup [d3 r0 r1 r2,d3 r3 r4 r5,d3 r6 r7 r8],false)]) ρ from ah s'.get (ah s'.get aI))
 clear s'
 refine ⟨_,rfl,.inl (bO ((s.put _ _).put _ _) (aZ decl_name% (n8 o22) decl_name%) fun ρ s'=>?_)⟩
 replace s:=(show Sub (bx [("n", .int n,false),("rows", .tup [d3 r0 r1 r2,d3 r3 r4 r5,d3 r6 r7 r8],false)]) ρ from ah s'.get (ah s'.get aI))
 clear s'
 have hA:ag (gA [.tup [d3 r0 r1 r2,d3 r3 r4 r5,d3 r6 r7 r8]]) (.int (be r0 r1 r2 (r4*r8 - r5*r7) (r5*r6 - r3*r8) (r3*r7 - r4*r6))):=cX rfl (by walk_at "ob")
 refine cP s (di (dg (mX (r:=(.non,0)) (eS (az decl_name% hA) decl_name% decl_name%) (fun ht=>absurd (of_decide_eq_true ht) hd) (fun _=>decl_name%))))
def tJ:Fx:=Tb [] [] BL IL ML TL aU
def iP:List D->Rs D:=bH tJ (ae (aj 26)) ["table"] (ao (aj 26))
theorem FH {n r0 r1 r2 r3 r4 r5 r6 r7 r8 a b c d K:Int} (e00:n+r0+r4+r8=K*(a*a)) (e01:r7 - r5=K*(a*b)) (e02:r2 - r6=K*(a*c)) (e03:r3 - r1=K*(a*d)) (e11:n+r0 - r4 - r8=K*(b*b)) (e12:r1+r3=K*(b*c)) (e13:r2+r6=K*(b*d)) (e22:n - r0+r4 - r8=K*(c*c)) (e23:r5+r7=K*(c*d)) (e33:n - r0 - r4+r8=K*(d*d)):ag (iP [.tup [.int n,.tup [d3 r0 r1 r2,d3 r3 r4 r5,d3 r6 r7 r8]]]) (.lst (([a,b,c,d]:List Int).map fun x=>t4 (K*x*a) (K*x*b) (K*x*c) (K*x*d))):=by
 refine ag.eq decl_name% ?_
 show D.lst [t4 (n+r0+r4+r8) (r7 - r5) (r2 - r6) (r3 - r1),t4 (r7 - r5) (n+r0 - r4 - r8) (r1+r3) (r2+r6),t4 (r2 - r6) (r1+r3) (n - r0+r4 - r8) (r5+r7),t4 (r3 - r1) (r2+r6) (r5+r7) (n - r0 - r4+r8)]=D.lst [t4 (K*a*a) (K*a*b) (K*a*c) (K*a*d),t4 (K*b*a) (K*b*b) (K*b*c) (K*b*d),t4 (K*c*a) (K*c*b) (K*c*c) (K*c*d),t4 (K*d*a) (K*d*b) (K*d*c) (K*d*d)]
 rw [e00,e01,e02,e03,e11,e12,e13,e22,e23,e33]
 have c00:K*a*a=K*(a*a):=by grind
 have c01:K*a*b=K*(a*b):=by grind
 have c02:K*a*c=K*(a*c):=by grind
 have c03:K*a*d=K*(a*d):=by grind
 have c10:K*b*a=K*(a*b):=by grind
 have c11:K*b*b=K*(b*b):=by grind
 have c12:K*b*c=K*(b*c):=by grind
 have c13:K*b*d=K*(b*d):=by grind
 have c20:K*c*a=K*(a*c):=by grind
 have c21:K*c*b=K*(b*c):=by grind
 have c22:K*c*c=K*(c*c):=by grind
 have c23:K*c*d=K*(c*d):=by grind
 have c30:K*d*a=K*(a*d):=by grind
 have c31:K*d*b=K*(b*d):=by grind
 have c32:K*d*c=K*(c*d):=by grind
 have c33:K*d*d=K*(d*d):=by grind
 rw [c00,c01,c02,c03,c10,c11,c12,c13,c20,c21,c22,c23,c30,c31,c32,c33]
def tH:Fx:=Tb [("table_fault", fo),("upright", ee),("multiples", iP)] [] BL IL ML TL aU
def gp:List D->Rs D:=bH tH (ae (aj 25)) ["table"] (ao (aj 25))
theorem CH {n r0 r1 r2 r3 r4 r5 r6 r7 r8 a b c d K:Int} (p:Pm a b c d) (hK:0 < K) (e00:n+r0+r4+r8=K*(a*a)) (e01:r7 - r5=K*(a*b)) (e02:r2 - r6=K*(a*c)) (e03:r3 - r1=K*(a*d)) (e11:n+r0 - r4 - r8=K*(b*b)) (e12:r1+r3=K*(b*c)) (e13:r2+r6=K*(b*d)) (e22:n - r0+r4 - r8=K*(c*c)) (e23:r5+r7=K*(c*d)) (e33:n - r0 - r4+r8=K*(d*d)) (hF:ag (fo [.tup [.int n,.tup [d3 r0 r1 r2,d3 r3 r4 r5,d3 r6 r7 r8]]]) .non) (hT:okT (([K*b9 a b c d*a,K*b9 a b c d*b,K*b9 a b c d*c,K*b9 a b c d*d]:List Int).map D.int)) (kb:(K*b9 a b c d).natAbs < bY):ag (gp [.tup [.int n,.tup [d3 r0 r1 r2,d3 r3 r4 r5,d3 r6 r7 r8]]]) (t4 a b c d):=by
 have pos:=p.pos
 have kp:0 < K*b9 a b c d:=Int.mul_pos (by omega) pos
 have hU:=uJ (k:=K*b9 a b c d) (by omega) p hT kb
 refine bW (aJ (aP (az decl_name% hF)) (aZ decl_name% rfl ?_))
 refine di (dg (az (bD (dU (kO (out:=(([a,b,c,d]:List Int).filter fun x => !decide (x=0)).map fun x=>t4 (K*x*a) (K*x*b) (K*x*c) (K*x*d)) (j:=0) (az decl_name% (FH e00 e01 e02 e03 e11 e12 e13 e22 e23 e33)) (ds:=([a,b,c,d]:List Int).map fun x=>t4 (K*x*a) (K*x*b) (K*x*c) (K*x*d)) rfl ⟨Nat.le_of_ble_eq_true rfl,.inl rfl⟩ (fH (g:=fun x=>t4 (K*x*a) (K*x*b) (K*x*c) (K*x*d)) (f:=fun x=>t4 (K*x*a) (K*x*b) (K*x*c) (K*x*d)) (c:=fun x => !decide (x=0)) (fun x _=>?_)) (Nat.zero_le 1)) decl_name% rfl (CQ p.ne)) dD) hU))
 have ea:(([K*x*a,K*x*b,K*x*c,K*x*d]:List Int).any fun n=>n != 0) = !decide (x=0):=by
  rw [QB]
  congr 1
  apply decide_eq_decide.mpr
  constructor
  ·rintro ⟨h1,h2,h3,h4⟩
   have q:∀y:Int,K*x*y=0->x=0\/y=0:=fun y h=>by
    rcases Int.mul_eq_zero.mp h with z|z
    ·rcases Int.mul_eq_zero.mp z with z|z
     ·omega
     ·exact .inl z
    ·exact .inr z
   rcases q _ h1 with z|z1
   ·exact z
   rcases q _ h2 with z|z2
   ·exact z
   rcases q _ h3 with z|z3
   ·exact z
   rcases q _ h4 with z|z4
   ·exact z
   exact absurd ⟨z1,z2,z3,z4⟩ p.ne
  ·intro h;subst h;simp
 refine ag.bnd (a:=!decide (x=0)) (gR (b:=!decide (x=0)) (c:=!decide (x=0)) (decl_name%.bl (by exact ea)) (fun h=>by rw [h];exact i8) id) ?_
 cases decide (x=0)
 ·exact ag.bnd decl_name% cY
 ·exact cY
theorem FF {q:Qd} (p:Pm q.1 q.2.1 q.2.2.1 q.2.2.2) (hq:fh (2 ^ 70) q):ag (gp [(tq q).low.D]) (dq q):=by
 obtain ⟨a,b,c,d⟩:=q
 obtain ⟨h1,h2,h3,h4⟩:=hq
 have nB:=cJ (q:=(a,b,c,d)) p.ne
 have up:∀{x:Int},x.natAbs<=2 ^ 70->x.natAbs<=2 ^ 140:=fun h=>Nat.le_trans h (Nat.pow_le_pow_right (by decide) (by decide))
 have tb:(tq (a,b,c,d)).bd 290:=yp (up h1) (up h2) (up h3) (up h4)
 have lb:=T9.bd_low nB tb
 have l9:∀x∈(tq (a,b,c,d)).low.l,x.natAbs<=2 ^ 294:=fun x hx=>Nat.le_trans (lb x hx) (Nat.pow_le_pow_right (by decide) (by decide))
 obtain ⟨o00,o01,o02,o11,o12,o22,od⟩:=wU (q:=(a,b,c,d)) p
 obtain ⟨K,hK,e00,e01,e02,e03,e11,e12,e13,e22,e23,e33⟩:=yU (q:=(a,b,c,d)) p
 have hF:=Df (aQ (lb _ (T9.mem_n _)) (by decide)) (l9 _ (by simp [T9.l])) (l9 _ (by simp [T9.l])) (l9 _ (by simp [T9.l])) (l9 _ (by simp [T9.l])) (l9 _ (by simp [T9.l])) (l9 _ (by simp [T9.l])) (l9 _ (by simp [T9.l])) (l9 _ (by simp [T9.l])) (l9 _ (by simp [T9.l])) o00 o01 o02 o11 o12 o22 od
 have ll:(b9 a b c d).natAbs<=2 ^ 70:=by unfold b9;split;exact h1;split;exact h2;split;exact h3;exact h4
 have kl:(K*b9 a b c d).natAbs<=2 ^ 72:=by
  rw [Int.natAbs_mul,show (2:Nat) ^ 72=4*2 ^ 70 from rfl]
  exact Nat.mul_le_mul (by omega) ll
 have kk:∀{x:Int},x.natAbs<=2 ^ 70->(K*b9 a b c d*x).natAbs<=2 ^ 142:=fun h=>by
  rw [Int.natAbs_mul,show (2:Nat) ^ 142=2 ^ 72*2 ^ 70 from rfl]
  exact Nat.mul_le_mul kl h
 have hT:okT (([K*b9 a b c d*a,K*b9 a b c d*b,K*b9 a b c d*c,K*b9 a b c d*d]:List Int).map D.int):=Aw (m:=142) (by decide) (by
  intro t ht
  simp only [List.mem_cons,List.not_mem_nil,or_false] at ht
  rcases ht with rfl|rfl|rfl|rfl
  ·exact kk h1
  ·exact kk h2
  ·exact kk h3
  ·exact kk h4)
 exact CH (a:=a) (b:=b) (c:=c) (d:=d) p (by omega) e00 e01 e02 e03 e11 e12 e13 e22 e23 e33 hF hT (aQ kl (by decide))
def nv:Fx:=Tb [] [] BL IL ML TL aU
def nF:List D->Rs D:=bH nv (ae (aj 10)) ["one", "other"] (ao (aj 10))
def fJ:List D->Rs D:=tT dQ dQ fun p q=>.ok (dq (bJ p q)) [iF p,iF q]
theorem ku:∀ds r,ag (fJ ds) r->ag (nF ds) r:=by
 intro ds r h
 obtain ⟨p,q,rfl,h⟩:=kF h
 obtain ⟨rfl,hp,hq,_⟩:=fU h
 obtain ⟨⟨a1,a2,a3,a4⟩,⟨b1,b2,b3,b4⟩,⟨c1,c2,c3,c4⟩,d1,d2,d3,d4⟩:=HP hp hq
 exact cX rfl (by walk_at "ob")
def nu:Fx:=xZ [("corner_number", fN),("other_signed", fZ),("number_of", gp),("plain_product", fJ)] [("UNITS", .tup [.tup [.int 1,.int 0,.int 0,.int 0],.tup [.int 0,.int 1,.int 0,.int 0],.tup [.int 0,.int 0,.int 1,.int 0],.tup [.int 0,.int 0,.int 0,.int 1]])] BL IL ML TL aU [] [("Turn", [("table", bV)]),("HalfTurn", [("table", bV)]),("Mirror", [("table", bV)])]
def fK:List D->Rs D:=bH nu (ae (aj 40)) ["turn"] (ao (aj 40))
theorem D5 {q:Qd} (p:Pm q.1 q.2.1 q.2.2.1 q.2.2.2) (hq:fh (2 ^ 70) q):ag (fK [nM q.1 q.2.1 q.2.2.1 q.2.2.2]) (.lst ((hV q (tq q).low.n).map dv)):=by
 have hN:=FF p hq
 obtain ⟨a,b,c,d⟩:=q
 obtain ⟨h1,h2,h3,h4⟩:=hq
 have hC:=zx a b c d
 have aB:=aQ h1 (by decide)
 have bB:=aQ h2 (by decide)
 have cB:=aQ h3 (by decide)
 have dB:=aQ h4 (by decide)
 refine bW (aJ (aP (az decl_name% hC)) (aJ (aP (d:=t4 a (-b) (-c) (-d)) (az (bD (az (bD (fW decl_name% decl_name% rfl (d:=(tq (a,b,c,d)).low.D) decl_name%) dD) hN) dD) decl_name%)) ?_))
 have hbq:iF (a,-b,-c,-d):=⟨aB,by show (-b).natAbs < _;rw [Int.natAbs_neg];exact bB,by show (-c).natAbs < _;rw [Int.natAbs_neg];exact cB,by show (-d).natAbs < _;rw [Int.natAbs_neg];exact dB⟩
 have e0:bJ (a,-b,-c,-d) (1,0,0,0)=(a,-b,-c,-d):=(Cr _).1
 have e1:bJ (a,-b,-c,-d) (0,1,0,0)=(b,a,-d,c):=by simp [bJ]
 have e2:bJ (a,-b,-c,-d) (0,0,1,0)=(c,d,a,-b):=by simp [bJ]
 have e3:bJ (a,-b,-c,-d) (0,0,0,1)=(d,-c,b,a):=by simp [bJ]
 refine di (dg (k:=0) (ag.eq decl_name% ?_))
 show (D.lst [dv (bJ (a,-b,-c,-d) (1,0,0,0)).2,dv (bJ (a,-b,-c,-d) (0,1,0,0)).2,dv (bJ (a,-b,-c,-d) (0,0,1,0)).2,dv (bJ (a,-b,-c,-d) (0,0,0,1)).2,d3 ((n4 a b c d).fdiv (gI (ck a b c d))) 0 0,d3 0 ((n4 a b c d).fdiv (gI (ck a b c d))) 0,d3 0 0 ((n4 a b c d).fdiv (gI (ck a b c d)))],0)=_
 rw [e0,e1,e2,e3]
 rfl
def Ii:Fx:=Tb [] [] BL IL ML TL aU
def x4:List D->Rs D:=bH Ii (ae (aj 6)) ["one", "other"] (ao (aj 6))
def sE:Fx:=Tb [] [] BL IL ML TL aU
def ky:List D->Rs D:=bH sE (ae (aj 8)) ["one", "number"] (ao (aj 8))
def nA:Fx:=Tb [("less", x4),("many_times", ky)] [] BL IL ML TL aU
def eM:List D->Rs D:=bH nA (ae (aj 42)) ["spot", "other", "place"] (ao (aj 42))
theorem sv {p:Nat} (hp:p < 3) {u v:V3} (h0:pr p v≠0) (hv:cw 8990 v) (hu:cw 8990 u):ag (eM [dv u,dv v,.int p]) (dv (sb u v ((pr p u).fdiv (pr p v)))):=by
 obtain ⟨v1,v2,v3⟩:=hv.all
 have v1:=aQ v1 (by decide)
 have v2:=aQ v2 (by decide)
 have v3:=aQ v3 (by decide)
 have hd:eZ (pr p v):=⟨h0,aQ (hv p) (by decide)⟩
 have hq:((pr p u).fdiv (pr p v)).natAbs < bY:=by
  have h1:=ut (pr p u) (pr p v) h0
  have h2:=hu p
  have h3:((pr p u).fdiv (pr p v)).natAbs<=(pr p u).natAbs+1:=by
   rcases Nat.lt_or_ge (pr p u).natAbs ((pr p u).fdiv (pr p v)).natAbs with q|q
   ·have h4:=Nat.mul_le_mul_left (((pr p u).fdiv (pr p v)).natAbs - 1) (show 1<=(pr p v).natAbs by omega)
    have h5:(((pr p u).fdiv (pr p v)).natAbs - 1)*(pr p v).natAbs=((pr p u).fdiv (pr p v)).natAbs*(pr p v).natAbs - (pr p v).natAbs:=by rw [Nat.sub_mul,Nat.one_mul]
    omega
   ·omega
  refine aQ (m:=8991) (Nat.le_trans h3 ?_) (by decide)
  rw [Nat.pow_succ]
  have h6:1<=2 ^ 8990:=Nat.one_le_two_pow
  generalize 2 ^ 8990=M at *
  omega
 match p,hp with
 | 0,_ =>
  have hd:eZ v.1:=hd
  have hq:(u.1.fdiv v.1).natAbs < bY:=hq
  exact cX rfl (by walk_at "ob")
 | 1,_ =>
  have hd:eZ v.2.1:=hd
  have hq:(u.2.1.fdiv v.2.1).natAbs < bY:=hq
  exact cX rfl (by walk_at "ob")
 | 2,_ =>
  have hd:eZ v.2.2:=hd
  have hq:(u.2.2.fdiv v.2.2).natAbs < bY:=hq
  exact cX rfl (by walk_at "ob")
def xT:Fx:=Tb [("brought_below", eM)] [] BL IL ML TL aU
def iH:List D->Rs D:=bH xT (ae (aj 43)) ["base"] (ao (aj 43))
theorem Jd {u v w:V3} (h1:pr 2 w≠0) (h2:pr 1 (sb v w ((pr 2 v).fdiv (pr 2 w)))≠0) (hu:cw 8990 u) (hv:cw 8990 v) (hw:cw 8990 w) (hs:cw 8990 (sb v w ((pr 2 v).fdiv (pr 2 w)))) (ht:cw 8990 (sb u (sb v w ((pr 2 v).fdiv (pr 2 w))) ((pr 1 u).fdiv (pr 1 (sb v w ((pr 2 v).fdiv (pr 2 w))))))):ag (iH [.lst [dv u,dv v,dv w]]) (.tup [dv (sb (sb u (sb v w ((pr 2 v).fdiv (pr 2 w))) ((pr 1 u).fdiv (pr 1 (sb v w ((pr 2 v).fdiv (pr 2 w)))))) w ((pr 2 (sb u (sb v w ((pr 2 v).fdiv (pr 2 w))) ((pr 1 u).fdiv (pr 1 (sb v w ((pr 2 v).fdiv (pr 2 w))))))).fdiv (pr 2 w))),dv (sb v w ((pr 2 v).fdiv (pr 2 w))),dv w]):=by
 have k1:=sv (p:=2) (by decide) h1 hw hv
 have k2:=sv (p:=1) (by decide) h2 hs hu
 have k3:=sv (p:=2) (by decide) h1 hw ht
 generalize sb v w ((pr 2 v).fdiv (pr 2 w))=s at *
 generalize sb u s ((pr 1 u).fdiv (pr 1 s))=t at *
 generalize sb t w ((pr 2 t).fdiv (pr 2 w))=z at *
 exact bW (aJ (rQ decl_name% rfl (.inr (Nat.le_refl 1)) rfl) (aJ (aP (az decl_name% k1)) (aJ (aP (az (bD (az decl_name% k2) decl_name%) k3)) decl_name%)))
def DL:Fx:=Tb [("brought_below", eM)] [] BL IL ML TL aU
def oQ:List D->Rs D:=bH DL (ae (aj 41)) ["spots", "place"] (ao (aj 41))
theorem nO {p:Nat} (hp:p < 3) {l:List V3} {bs:List Nat} (hbd:A1 bs l) (hok:yO 0 bs) (hl:l.length<=100):∃r,ag (oQ [.lst (l.map dv),.int p]) r/\∃L' os,gE p 0 bs (0,0,0) l L' os/\r=.tup [dv L',.lst (os.map dv)]:=by
 refine I0 (Kj 2 decl_name% (tR (ds:=l.map dv) (fun rem ρ => ∃(r os:List V3) (L:V3) (B:Nat) (bs':List Nat),rem=r.map dv/\cw B L/\A1 bs' r/\yO B bs'/\os.length+r.length<=100/\(∀L' os',gE p B bs' L r L' os'->gE p 0 bs (0,0,0) l L' (os++os'))/\Sub (bx [("place", .int p,false),("others", .lst (os.map dv),true),("lead", dv L,true)]) ρ) _ decl_name% ⟨l,[],(0,0,0),0,bs,rfl,cT ⟨by decide,by decide,by decide⟩,hbd,hok,by simpa using hl,fun L' os' h=>h,ah rfl (ah rfl (ah rfl aI))⟩ ?_ ?_ rfl (KE (.lst (l.map dv)))))
 ·rintro d rem ρ ⟨r,os,L,B,bs',hr,hL,hbs,hk,hn,hch,s⟩
  cases r with
  | nil=>cases hr
  | cons S r =>
   cases hr
   cases bs' with
   | nil=>exact hbs.elim
   | cons b bs' =>
   obtain ⟨hS,hbs⟩:=hbs
   obtain ⟨hb,hB,hk⟩:=hk
   have up:nb B b<=8990:=hB
   have uB:B<=8990:=by unfold nb at hB;omega
   have ub:b<=8990:=by omega
   have hol:(os.map dv).length < cZ:=by rw [List.length_map];unfold cZ;simp only [List.length_cons] at hn;omega
   refine ⟨_,rfl,.inl (Jq (aP (d:=dv S) (bU (s.put _ _) decl_name%)) (FE (P:=fun ρ => ∃L' R,Il p B b L S L' R/\Sub (bx [("place", .int p,false),("others", .lst (os.map dv),true),("lead", dv L',true),("rest", dv R,true)]) ρ) (Ix (m:=3990) (fun m ρ => ∃lv rv:V3,Sub (bx [("place", .int p,false),("others", .lst (os.map dv),true),("lead", dv lv,true),("rest", dv rv,true)]) ρ/\(∀P,Sg P->((P L/\P S) ↔ (P lv/\P rv)))/\((m=3990/\lv=L/\rv=S)\/(km p lv rv (2 ^ nb B b)/\sS (pr p lv).natAbs (pr p rv).natAbs m/\(0 < pr p S->0 < pr p lv)/\pr p S≠0))) ⟨L,S,ah ((s.put _ _).put _ _).get (ah ((s.put _ _).put _ _).get (ah ((s.put _ _).put _ _).get (ah ((s.put _ _).put _ _).get aI))),fun _ _=>Iff.rfl,.inl ⟨rfl,rfl,rfl⟩⟩ (by decide) ?_ ?_) ?_))⟩
   ·rintro m ρ ⟨lv,rv,sw,cl,hi⟩
    refine ⟨!decide (pr p rv=0),0,bU sw (eS (x:=.int (pr p rv)) (y:=.int 0) (dU decl_name% decl_name% rfl (Ay hp rv)) decl_name% (ag.eq decl_name% (by show (!eqD (.int (pr p rv)) (.int 0))=_;rw [bZ]))),fun ht=>?_⟩
    have h0:pr p rv≠0:=by simpa using ht
    have ncl:∀P,Sg P->((P L/\P S) ↔ (P rv/\P (sb lv rv ((pr p lv).fdiv (pr p rv))))):=fun P g=>(cl P g).trans ⟨fun ⟨x,y⟩=>⟨y,g.step _ _ _ x y⟩,fun ⟨y,x⟩=>⟨g.back x y,y⟩⟩
    rcases hi with ⟨rfl,rfl,rfl⟩ | ⟨hw,hE,hps,hne⟩
    ·have hbb:=sv hp h0 (hS.mono ub) (hL.mono uB)
     have hw:=km.first hL hS h0
     have hE:sS (pr p rv).natAbs (pr p (sb lv rv ((pr p lv).fdiv (pr p rv)))).natAbs 3980:=by
      obtain ⟨sg,x,y,e1,e2,hlt⟩:=hw.sg
      have hx:=hS p
      rw [e1,eF] at hx
      rw [e2,e1,eF,eF]
      have h1:x*y < x*x:=Nat.mul_lt_mul_of_pos_left hlt (by omega)
      have h2:x*x<=2 ^ 1990*2 ^ 1990:=Nat.mul_le_mul (Nat.le_trans hx (Nat.pow_le_pow_right (by decide) hb)) (Nat.le_trans hx (Nat.pow_le_pow_right (by decide) hb))
      rw [<- Nat.pow_add] at h2
      exact .inl ⟨Nat.le_of_lt hlt,Nat.lt_of_lt_of_le h1 h2⟩
     exact nK (m':=3980) (by decide) (bO sw (aJ (aP (az decl_name% hbb)) decl_name%) fun ρ' s'=>⟨_,_,ah s'.get (ah s'.get (ah s'.get (ah s'.get aI))),ncl,.inr ⟨hw,hE,id,h0⟩⟩)
    ·have hbb:=sv hp h0 (fun c=>Nat.le_trans (hw.br c) (Nat.pow_le_pow_right (by decide) up)) (fun c=>Nat.le_trans (hw.bl c) (Nat.pow_le_pow_right (by decide) up))
     obtain ⟨m',hm',hE'⟩:=uu hE (by omega)
     have hE'':sS (pr p rv).natAbs (pr p (sb lv rv ((pr p lv).fdiv (pr p rv)))).natAbs m':=by rw [hw.mod h0];exact hE'
     exact nK hm' (bO sw (aJ (aP (az decl_name% hbb)) decl_name%) fun ρ' s'=>⟨_,_,ah s'.get (ah s'.get (ah s'.get (ah s'.get aI))),ncl,.inr ⟨hw.next h0,hE'',fun q=>hw.pos (hps q) h0,hne⟩⟩)
   ·rintro m ρ ⟨lv,rv,s,cl,hi⟩ ⟨k,hk⟩
    have e:=hk.inj (bU s (eS (x:=.int (pr p rv)) (y:=.int 0) (dU decl_name% decl_name% rfl (Ay hp rv)) decl_name% (ag.eq decl_name% (by show (!eqD (.int (pr p rv)) (.int 0)) = !decide (pr p rv=0);rw [bZ]))))
    have h0:pr p rv=0:=by
     have e1:(!decide (pr p rv=0))=false:=by injection e with e1 e2;injection e1 with e1;exact e1.symm
     simpa using e1
    refine ⟨lv,rv,⟨h0,cl,?_,?_,?_⟩,s⟩
    ·rcases hi with ⟨_,rfl,rfl⟩ | ⟨hw,_⟩
     ·exact ⟨hL.mono (by unfold nb;omega),hS.mono (by unfold nb;omega)⟩
     ·exact ⟨hw.bl,hw.br⟩
    ·rcases hi with ⟨_,rfl,rfl⟩ | ⟨hw,_,q,_⟩
     ·intro q;omega
     ·exact q
    ·rcases hi with ⟨_,rfl,rfl⟩ | ⟨hw,_,_,q⟩
     ·exact fun _=>⟨rfl,rfl⟩
     ·exact fun z=>absurd z q
   ·rintro ρ ⟨L',R,hS',s⟩
    refine bO s decl_name% fun ρ' s'=>⟨r,os++[R],L',nb B b,bs',rfl,hS'.bd.1,hbs,hk,by simp only [List.length_append,List.length_cons,List.length_nil] at *;omega,fun L2 os2 h2=>?_,ah s'.get (ah (by rw [List.map_append];exact s'.get) (ah s'.get aI))⟩
    rw [List.append_assoc]
    exact hch _ _ ⟨L',R,os2,hS',h2,rfl⟩
 ·rintro ρ ⟨r,os,L,B,bs',hr,hL,hbs,hk,hn,hch,s⟩
  cases r with
  | cons n r=>cases hr
  | nil =>
   cases bs' with
   | cons _ _=>exact hbs.elim
   | nil =>
   have h:=hch L [] ⟨rfl,rfl⟩
   rw [List.append_nil] at h
   exact ⟨_,cP s decl_name%,L,os,h,rfl⟩
def xX:Fx:=Tb [("staying_spots", fK),("reduced", iH),("swept", oQ)] [] BL IL ML TL aU
def dH:List D->Rs D:=bH xX (ae (aj 39)) ["turn"] (ao (aj 39))
structure Bs (q:Qd) (A B C E F G:Int):Prop where
 a0:0 < A
 d0:0 < E
 f0:0 < G
 b1:0<=B/\B < E
 c1:0<=C/\C < G
 e1:0<=F/\F < G
 n:A*E*G=(tq q).low.n
 s1:St (tq q).low (A,B,C)
 s2:St (tq q).low (0,E,F)
 s3:St (tq q).low (0,0,G)
 all:∀v,St (tq q).low v->uF A B C E F G v
theorem HN {u v:V3} {k:Int} {B K:Nat} (hu:cw B u) (hv:cw B v) (hk:k.natAbs<=2 ^ K):cw (B+K+1) (sb u v k):=fun p=>by
 rw [jo]
 refine Nat.le_trans (Int.natAbs_sub_le _ _) ?_
 rw [Int.natAbs_mul,Nat.pow_succ,Nat.pow_add]
 have h1:=hu p
 have h2:=Nat.mul_le_mul (hv p) hk
 have h3:2 ^ B<=2 ^ B*2 ^ K:=Nat.le_mul_of_pos_right _ (Nat.pow_pos (by decide))
 omega
theorem HR {q:Qd} (p:Pm q.1 q.2.1 q.2.2.1 q.2.2.2) (hq:fh (2 ^ 70) q):∃A B C E F G:Int,Bs q A B C E F G/\ag (dH [nM q.1 q.2.1 q.2.2.1 q.2.2.2]) (.tup [d3 A B C,d3 0 E F,d3 0 0 G]):=by
 obtain ⟨g,hg,cut,en,ho,hn,g1⟩:=jM q p
 have hSt:=D5 p hq
 have lb:(tq q).low.n.natAbs<=2 ^ 142:=by
  have h2:(tq q).n.natAbs<=2 ^ 142:=by
   obtain ⟨h1,h2,h3,h4⟩:=hq
   have k:∀{x:Int},x.natAbs<=2 ^ 70->(x*x).natAbs<=2 ^ 140:=fun h=>by rw [Int.natAbs_mul,show (2:Nat) ^ 140=2 ^ 70*2 ^ 70 from rfl];exact Nat.mul_le_mul h h
   have k1:=k h1;have k2:=k h2;have k3:=k h3;have k4:=k h4
   show (n4 q.1 q.2.1 q.2.2.1 q.2.2.2).natAbs<=_
   unfold n4
   omega
  exact Nat.le_trans (oA (T9.gpos (cJ p.ne))) h2
 have bq:A1 [70,70,70,70,142,142,142] (hV q (tq q).low.n):=by
  obtain ⟨h1,h2,h3,h4⟩:=hq
  have z:∀{B:Nat},(0:Int).natAbs<=2 ^ B:=fun {B}=>Nat.zero_le _
  have ng:∀{x:Int} {B:Nat},x.natAbs<=2 ^ B->(-x).natAbs<=2 ^ B:=fun h=>by rw [Int.natAbs_neg];exact h
  exact ⟨cT ⟨ng h2,ng h3,ng h4⟩,cT ⟨h1,ng h4,h3⟩,cT ⟨h4,h1,ng h2⟩,cT ⟨ng h3,h2,h1⟩,cT ⟨lb,z,z⟩,cT ⟨z,lb,z⟩,cT ⟨z,z,lb⟩,True.intro⟩
 have clq:=fun (A B C D E F:Int) hA hD hF=>HS p (A:=A) (B:=B) (C:=C) (D:=D) (E:=E) (F:=F) hA hD hF
 have bn:cw 142 (0,(tq q).low.n,0)/\cw 142 (0,0,(tq q).low.n):=⟨cT ⟨Nat.zero_le _,lb,Nat.zero_le _⟩,cT ⟨Nat.zero_le _,Nat.zero_le _,lb⟩⟩
 generalize hnn:(tq q).low.n=n at *
 obtain ⟨_,h0,L0,os0,w0,rfl⟩:=nO (p:=0) (by decide) bq ⟨by decide,by decide,by decide,by decide,by decide,by decide,by decide,by decide,by decide,by decide,by decide,by decide,by decide,by decide,True.intro⟩ (Nat.le_of_ble_eq_true rfl)
 have cc0:=fun P (g:Sg P)=>gE.cl g w0
 have z0:=gE.z w0
 obtain ⟨al0,ar0,_,a0,⟨al1,ar1,_,a1,⟨al2,ar2,_,a2,⟨al3,ar3,_,a3,⟨al4,ar4,_,a4,⟨al5,ar5,_,a5,⟨al6,ar6,_,a6,⟨rfl,rfl⟩,rfl⟩,rfl⟩,rfl⟩,rfl⟩,rfl⟩,rfl⟩,rfl⟩:=w0
 have e5:=(a5.nz rfl).2
 have e6:=(a6.nz rfl).2
 have f0:=(a6.nz rfl).1.trans (a5.nz rfl).1
 have p0:=a4.ps hn
 have B0:=a4.bd.1
 subst e5 e6 f0
 obtain ⟨_,h1,L1,os1,w1,rfl⟩:=nO (p:=1) (by decide) (l:=[ar0,ar1,ar2,ar3,ar4,(0,n,0),(0,0,n)]) (bs:=[142,214,286,358,502,142,142]) ⟨a0.bd.2,a1.bd.2,a2.bd.2,a3.bd.2,a4.bd.2,bn.1,bn.2,True.intro⟩ ⟨by decide,by decide,by decide,by decide,by decide,by decide,by decide,by decide,by decide,by decide,by decide,by decide,by decide,by decide,True.intro⟩ (Nat.le_of_ble_eq_true rfl)
 have cc1:=fun P (g:Sg P)=>gE.cl g w1
 have z1:=gE.z w1
 obtain ⟨bl0,br0,_,b0,⟨bl1,br1,_,b1,⟨bl2,br2,_,b2,⟨bl3,br3,_,b3,⟨bl4,br4,_,b4,⟨bl5,br5,_,b5,⟨bl6,br6,_,b6,⟨rfl,rfl⟩,rfl⟩,rfl⟩,rfl⟩,rfl⟩,rfl⟩,rfl⟩,rfl⟩:=w1
 have e6:=(b6.nz rfl).2
 have f1:=(b6.nz rfl).1
 have p1:=b5.ps hn
 have B1:=b5.bd.1
 subst e6 f1
 obtain ⟨_,h2,L2,os2,w2,rfl⟩:=nO (p:=2) (by decide) (l:=[br0,br1,br2,br3,br4,br5,(0,0,n)]) (bs:=[286,502,790,1150,1654,1798,142]) ⟨b0.bd.2,b1.bd.2,b2.bd.2,b3.bd.2,b4.bd.2,b5.bd.2,bn.2,True.intro⟩ ⟨by decide,by decide,by decide,by decide,by decide,by decide,by decide,by decide,by decide,by decide,by decide,by decide,by decide,by decide,True.intro⟩ (Nat.le_of_ble_eq_true rfl)
 have cc2:=fun P (g:Sg P)=>gE.cl g w2
 have z2:=gE.z w2
 obtain ⟨cl0,cr0,_,c0,⟨cl1,cr1,_,c1,⟨cl2,cr2,_,c2,⟨cl3,cr3,_,c3,⟨cl4,cr4,_,c4,⟨cl5,cr5,_,c5,⟨cl6,cr6,_,c6,⟨rfl,rfl⟩,rfl⟩,rfl⟩,rfl⟩,rfl⟩,rfl⟩,rfl⟩,rfl⟩:=w2
 have p2:=c6.ps hn
 have B2:=c6.bd.1
 have y0:=(cc1 _ (uX 0)).mp ⟨rfl,z0⟩
 have x0:=(cc2 _ (uX 0)).mp ⟨rfl,y0.2⟩
 have x1:=(cc2 _ (uX 1)).mp ⟨rfl,z1⟩
 clear a0 a1 a2 a3 a4 a5 a6 b0 b1 b2 b3 b4 b5 b6
 have run:∀{d:D},ag (iH [.lst [dv L0,dv L1,dv L2]]) d->ag (dH [nM q.1 q.2.1 q.2.2.1 q.2.2.2]) d:=fun {d} hR=>by
  refine bW (aJ (aP (az decl_name% hSt)) (aJ (aP (d:=.lst []) decl_name%) (kE [.int 0,.int 1,.int 2] decl_name% ?_)))
  refine i5 (C:=bx [("spots", .lst ((hV q n).map dv),true),("base", .lst [],true)]) (P:=fun ρ=>sQ _ _ _ _ _ _ _ ρ) (ah rfl (ah rfl aI)) fun ρ s=>?_
  refine ⟨_,rfl,.inl (bO (s.put _ _) (aJ (rR (az decl_name% h0) rfl) decl_name%) fun ρ s'=>?_)⟩
  replace s:=(show Sub (bx [("spots", .lst ([ar0,ar1,ar2,ar3,ar4,(0,n,0),(0,0,n)].map dv),true),("base", .lst [dv L0],true)]) ρ from ah s'.get (ah s'.get aI))
  clear s'
  refine ⟨_,rfl,.inl (bO (s.put _ _) (aJ (rR (az decl_name% h1) rfl) decl_name%) fun ρ s'=>?_)⟩
  replace s:=(show Sub (bx [("spots", .lst ([br0,br1,br2,br3,br4,br5,(0,0,n)].map dv),true),("base", .lst [dv L0,dv L1],true)]) ρ from ah s'.get (ah s'.get aI))
  clear s'
  refine ⟨_,rfl,.inl (bO (s.put _ _) (aJ (rR (az decl_name% h2) rfl) decl_name%) fun ρ s'=>?_)⟩
  exact cP (show Sub (bx [("base", .lst [dv L0,dv L1,dv L2],true)]) ρ from ah s'.get aI) (di (dg (az decl_name% hR)))
 have zz:∀P,Sg P->∀s∈[cr0,cr1,cr2,cr3,cr4,cr5,cr6],P s:=fun P g s hs=>by
  have t0:s.1=0:=x0.2 s hs
  have t1:s.2.1=0:=x1.2 s hs
  have t2:s.2.2=0:=z2 s hs
  obtain ⟨u,v,w⟩:=s
  cases t0;cases t1;cases t2
  exact g.zero
 have cl:∀P,Sg P->((∀s∈hV q n,P s) ↔ (P L0/\P L1/\P L2)):=fun P g=>by
  constructor
  ·intro h
   have k0:=(cc0 P g).mp ⟨g.zero,h⟩
   have k1:=(cc1 P g).mp ⟨g.zero,k0.2⟩
   have k2:=(cc2 P g).mp ⟨g.zero,k1.2⟩
   exact ⟨k0.1,k1.1,k2.1⟩
  ·rintro ⟨k0,k1,k2⟩
   have j2:=(cc2 P g).mpr ⟨k2,zz P g⟩
   have j1:=(cc1 P g).mpr ⟨k1,j2.2⟩
   have j0:=(cc0 P g).mpr ⟨k0,j1.2⟩
   exact j0.2
 clear cc0 cc1 cc2 z0 z1 z2 zz h0 h1 h2
 obtain ⟨A,B,C⟩:=L0
 obtain ⟨x,E,F⟩:=L1
 obtain ⟨x',y',G⟩:=L2
 have q0:x=0:=y0.1
 have q1:x'=0:=x0.1
 have q2:y'=0:=x1.1
 subst q0 q1 q2
 clear y0 x0 x1
 have pA:0 < A:=p0
 have pE:0 < E:=p1
 have pG:0 < G:=p2
 have es:sb (0,E,F) (0,0,G) ((pr 2 (0,E,F)).fdiv (pr 2 (0,0,G)))=(0,E,F.fmod G):=by simp [sb,pr,jw]
 have et:sb (A,B,C) (0,E,F.fmod G) ((pr 1 (A,B,C)).fdiv (pr 1 (0,E,F.fmod G)))=(A,B.fmod E,C - F.fmod G*B.fdiv E):=by simp [sb,pr,jw B E]
 have ez:sb (A,B.fmod E,C - F.fmod G*B.fdiv E) (0,0,G) ((pr 2 (A,B.fmod E,C - F.fmod G*B.fdiv E)).fdiv (pr 2 (0,0,G)))=(A,B.fmod E,(C - F.fmod G*B.fdiv E).fmod G):=by simp [sb,pr,jw (C - F.fmod G*B.fdiv E) G]
 have f1:=Int.fmod_nonneg_of_pos F pG
 have f2:=Int.fmod_lt_of_pos F pG
 have g1:=Int.fmod_nonneg_of_pos B pE
 have g2:=Int.fmod_lt_of_pos B pE
 have i1:=Int.fmod_nonneg_of_pos (C - F.fmod G*B.fdiv E) pG
 have i2:=Int.fmod_lt_of_pos (C - F.fmod G*B.fdiv E) pG
 have bs:cw 6622 (0,E,F.fmod G):=cT ⟨Nat.zero_le _,Nat.le_trans (B1 1) (Nat.pow_le_pow_right (by decide) (by decide)),Nat.le_trans (by show (F.fmod G).natAbs<=G.natAbs;omega) (B2 2)⟩
 have bt:cw 8990 (A,B.fmod E,C - F.fmod G*B.fdiv E):=by
  have h:=HN (u:=(A,B,C)) (v:=(0,E,F.fmod G)) (k:=B.fdiv E) (B:=6622) (K:=502) (B0.mono (by decide)) bs (Nat.le_trans (oA pE) (B0 1))
  have e:sb (A,B,C) (0,E,F.fmod G) (B.fdiv E)=(A,B.fmod E,C - F.fmod G*B.fdiv E):=et
  rw [e] at h
  exact h.mono (by decide)
 have hR:=Jd (u:=(A,B,C)) (v:=(0,E,F)) (w:=(0,0,G)) (show G≠0 by omega) (by rw [es];show E≠0;omega) (B0.mono (by decide)) (B1.mono (by decide)) (B2.mono (by decide)) (by rw [es];exact bs.mono (by decide)) (by rw [es,et];exact bt)
 rw [es,et,ez] at hR
 have clr:∀P,Sg P->((∀s∈hV q n,P s) ↔ (P (A,B.fmod E,(C - F.fmod G*B.fdiv E).fmod G)/\P (0,E,F.fmod G)/\P (0,0,G))):=fun P g=>(cl P g).trans (by
  constructor
  ·rintro ⟨k0,k1,k2⟩
   have j1:=g.step _ _ ((pr 2 (0,E,F)).fdiv (pr 2 (0,0,G))) k1 k2
   rw [es] at j1
   have j2:=g.step _ _ ((pr 1 (A,B,C)).fdiv (pr 1 (0,E,F.fmod G))) k0 j1
   rw [et] at j2
   have j3:=g.step _ _ ((pr 2 (A,B.fmod E,C - F.fmod G*B.fdiv E)).fdiv (pr 2 (0,0,G))) j2 k2
   rw [ez] at j3
   exact ⟨j3,j1,k2⟩
  ·rintro ⟨k0,k1,k2⟩
   rw [<- ez] at k0
   have j0:=g.back k0 k2
   rw [<- et] at j0
   have j1:=g.back j0 k1
   rw [<- es] at k1
   exact ⟨j1,g.back k1 k2,k2⟩)
 obtain ⟨r1,⟨r2,r3,r4⟩,r5⟩:=clq A (B.fmod E) ((C - F.fmod G*B.fdiv E).fmod G) E (F.fmod G) G pA pE pG clr
 exact ⟨_,_,_,_,_,_,⟨pA,pE,pG,⟨g1,g2⟩,⟨i1,i2⟩,⟨f1,f2⟩,r1.trans hnn.symm,r2,r3,r4,r5⟩,run hR⟩
def sD:Fx:=Tb [("base_of", dH)] [] BL IL ML TL aU
def fL:List D->Rs D:=bH sD (ae (aj 47)) ["turn", "base"] (ao (aj 47))
abbrev tv (a b c:V3):D:=.tup [dv a,dv b,dv c]
theorem xA (a b c d e f:V3):ag (iM .Eq (tv a b c) (tv d e f)) (decide (a=d)&&(decide (b=e)&&(decide (c=f)&&true))):=by
 rw [<- gk,<- gk,<- gk]
 exact ⟨_,rfl,rfl,True.intro⟩
theorem Ey {q:Qd} {o B:D} {b:Bool} (hB:ag (dH [cy q]) B) (ho:ag (iM .Eq o B) b):ag (fL [cy q,o]) (.bl b):=bW (di (dg (eS decl_name% (az decl_name% hB) ho)))
def cC:Fx:=Tb [("base_of", dH),("_law_cell", ik),("shows_base", fL),("Turn", cu)] [] BL IL ML TL aU
def dZ:List D->Rs D:=fun ds=>match ds with
 | [.lst L]=>.ok (.bl true) [lu L]
 | _=>.st
def lv (v:V3):List Int:=[v.1,v.2.1,v.2.2]
theorem vy:∀{l:List Int},l.length=3->∃v,l=lv v
 | [a,b,c],_=>⟨(a,b,c),rfl⟩
theorem Rz:∀{M:List (List Int)},M.length=3->(∀l∈M,l.length=3)->∃a b c,M=[lv a,lv b,lv c]
 | [x,y,z],_,h=>by
  obtain ⟨a,rfl⟩:=vy (h x (by simp))
  obtain ⟨b,rfl⟩:=vy (h y (by simp))
  obtain ⟨c,rfl⟩:=vy (h z (by simp))
  exact ⟨a,b,c,rfl⟩
theorem uA {L:List D} (hw:lu L) {n:Qd} (nn:ff n) (bn:fh (2 ^ 2) n):∃(q:Qd) (A B C E F G:Int),0 < A/\0 < E/\0 < G/\ag (dH [cy q]) (tv (A,B,C) (0,E,F) (0,0,G))/\∀ρ,Sub (bx [("_law_script", .lst L,false),("_law_numbers", dq n,true)]) ρ->∃ρ2,ag (aD cC (((ao (aj 56)).drop 2).take 4) (ae (aj 56)) ρ) (.nx ρ2)/\Sub (bx [("_law_turn", cy q,true),("_law_base", tv (A,B,C) (0,E,F) (0,0,G),true),("_law_cell_here", .int (bg L 13),true),("_law_spots", .lst ([lv (A,B,C),lv (0,E,F),lv (0,0,G)].map dj),true)]) ρ2:=by
 have hl:=hw.okL
 obtain ⟨k,q,hk,e,pq⟩:=t9 nn
 subst e
 have lq:=yB hk bn
 have hT:=Ai hk pq (by decide) bn (lL lq (Nat.pow_le_pow_right (by decide) (by decide)))
 obtain ⟨A,B,C,E,F,G,bs,hB⟩:=HR pq (lL lq (Nat.pow_le_pow_right (by decide) (by decide)))
 refine ⟨q,A,B,C,E,F,G,bs.a0,bs.d0,bs.f0,hB,fun ρ s=>bO s (aJ (aP (d:=cy q) (az decl_name% hT)) (aJ (aP (d:=tv (A,B,C) (0,E,F) (0,0,G)) (az decl_name% hB)) (aJ (aP (d:=.int (bg L 13)) decl_name%) (aJ (aP (d:=.lst ([lv (A,B,C),lv (0,E,F),lv (0,0,G)].map dj)) decl_name%) cS)))) fun ρ' s'=>(ah s'.get (ah s'.get (ah s'.get (ah s'.get aI))))⟩
theorem HJ {L:List D} (hw:lu L):∃(q:Qd) (A B C E F G:Int),0 < A/\0 < E/\0 < G/\ag (dH [cy q]) (tv (A,B,C) (0,E,F) (0,0,G))/\∃ρ1,ag (aD cC ((ao (aj 56)).take 6) (ae (aj 56)) (eh ["_law_script"] [.lst L])) (.nx ρ1)/\Sub (bx [("_law_turn", cy q,true),("_law_base", tv (A,B,C) (0,E,F) (0,0,G),true),("_law_cell_here", .int (bg L 13),true),("_law_spots", .lst ([lv (A,B,C),lv (0,E,F),lv (0,0,G)].map dj),true)]) ρ1:=by
 have hl:=hw.okL
 have sm:∀x:Int,(x.fmod 7 - 3).natAbs<=2 ^ 2:=fun x=>by
  have t0:=Int.fmod_nonneg_of_pos x (show (0:Int) < 7 by decide)
  have t1:=Int.fmod_lt_of_pos x (show (0:Int) < 7 by decide)
  generalize x.fmod 7=t at *
  omega
 by_cases hz:((bg L (9+0)).fmod 7 - 3,(bg L (9+1)).fmod 7 - 3,(bg L (9+2)).fmod 7 - 3,(bg L (9+3)).fmod 7 - 3)=((0,0,0,0):Qd)
 ·obtain ⟨q,A,B,C,E,F,G,a0,e0,g0,hB,run⟩:=uA hw (n:=(2,1,0,0)) (fun z=>by cases z.1) ⟨by decide,by decide,by decide,by decide⟩
  obtain ⟨ρ2,h,s⟩:=run (bI (bI (eh ["_law_script"] [.lst L]) "_law_numbers" (dq ((bg L (9+0)).fmod 7 - 3,(bg L (9+1)).fmod 7 - 3,(bg L (9+2)).fmod 7 - 3,(bg L (9+3)).fmod 7 - 3),true)) "_law_numbers" (dq (2,1,0,0),true)) (ah rfl (ah rfl aI))
  exact ⟨q,A,B,C,E,F,G,a0,e0,g0,hB,ρ2,aJ (aP (d:=dq ((bg L (9+0)).fmod 7 - 3,(bg L (9+1)).fmod 7 - 3,(bg L (9+2)).fmod 7 - 3,(bg L (9+3)).fmod 7 - 3)) decl_name%) (er decl_name% ((AT _ _).trans (decide_eq_true hz)) (aJ (aP (d:=dq (2,1,0,0)) decl_name%) h)),s⟩
 ·obtain ⟨q,A,B,C,E,F,G,a0,e0,g0,hB,run⟩:=uA hw (n:=((bg L (9+0)).fmod 7 - 3,(bg L (9+1)).fmod 7 - 3,(bg L (9+2)).fmod 7 - 3,(bg L (9+3)).fmod 7 - 3)) (fun z=>hz (Prod.ext z.1 (Prod.ext z.2.1 (Prod.ext z.2.2.1 z.2.2.2)))) ⟨sm _,sm _,sm _,sm _⟩
  obtain ⟨ρ2,h,s⟩:=run (bI (eh ["_law_script"] [.lst L]) "_law_numbers" (dq ((bg L (9+0)).fmod 7 - 3,(bg L (9+1)).fmod 7 - 3,(bg L (9+2)).fmod 7 - 3,(bg L (9+3)).fmod 7 - 3),true)) (ah rfl (ah rfl aI))
  exact ⟨q,A,B,C,E,F,G,a0,e0,g0,hB,ρ2,aJ (aP (d:=dq ((bg L (9+0)).fmod 7 - 3,(bg L (9+1)).fmod 7 - 3,(bg L (9+2)).fmod 7 - 3,(bg L (9+3)).fmod 7 - 3)) decl_name%) (aZ decl_name% ((AT _ _).trans (decide_eq_false hz)) h),s⟩
theorem vA {n m:Nat} (h:n < m):ixN m (n:Int)=some n:=by
 unfold ixN
 rw [if_pos (by omega),if_pos (by omega)];rfl
theorem HW {α:Type} {l:List α} {n:Nat} {x:α} (h:l[n]?=some x):L2.atI l (n:Int)=some x:=by
 unfold L2.atI
 rw [vA (List.getElem?_eq_some_iff.mp h).1];exact h
theorem Gw (x:Int):∃n:Nat,n < 3/\x.fmod 3=(n:Int):=by
 have t0:=Int.fmod_nonneg_of_pos x (show (0:Int) < 3 by decide)
 have t1:=Int.fmod_lt_of_pos x (show (0:Int) < 3 by decide)
 exact ⟨(x.fmod 3).toNat,by omega,by omega⟩
theorem HH {q:Qd} {c A B C E F G:Int} {ρ:ak} {BB:D} {fl:Fl} (a0:0 < A) (e0:0 < E) (g0:0 < G) (s1:Sub (bx [("_law_turn", cy q,true),("_law_base", BB,true),("_law_cell_here", .int c,true),("_law_spots", .lst ([lv (A,B,C),lv (0,E,F),lv (0,0,G)].map dj),true)]) ρ) (k:∀(M:List (List Int)) ρ',M.length=3->(∀l∈M,l.length=3)->Sub (bx [("_law_turn", cy q,true),("_law_base", BB,true),("_law_cell_here", .int c,true),("_law_spots", .lst (M.map dj),true)]) ρ'->Rf cC (ae (aj 56)) ((ao (aj 56)).drop 7) ρ' fl):Rf cC (ae (aj 56)) ((ao (aj 56)).drop 6) ρ fl:=by
 by_cases c1:c.fmod 3=1
 ·obtain ⟨n,hn,en⟩:=Gw (c.fdiv 3)
  obtain ⟨m,hm,em⟩:=Gw (c.fdiv 9)
  obtain ⟨l,hl⟩:∃l,([lv (A,B,C),lv (0,E,F),lv (0,0,G)]:List (List Int))[n]?=some l:=⟨_,List.getElem?_eq_getElem (show n < 3 from hn)⟩
  have l3:l.length=3:=by
   have:n=0\/n=1\/n=2:=by omega
   rcases this with rfl|rfl|rfl <;> cases hl <;> rfl
  obtain ⟨x,hx⟩:∃x,l[m]?=some x:=⟨_,List.getElem?_eq_getElem (by omega)⟩
  have hd:∀a y,([lv (A,B,C),lv (0,E,F),lv (0,0,G)]:List (List Int))[a]?=some y->a≠n->y≠l:=by
   intro a y hy ha e
   subst e
   have a3:a < 3:=(List.getElem?_eq_some_iff.mp hy).1
   have h1:n=0\/n=1\/n=2:=by omega
   have h2:a=0\/a=1\/a=2:=by omega
   rcases h1 with rfl|rfl|rfl <;> rcases h2 with rfl|rfl|rfl <;> first|exact ha rfl | (cases hl;have hy:=Option.some.inj hy;simp only [lv,List.cons.injEq] at hy;omega)
  have s2:=s1.put (Str.ofString "_law_i") (.int (n:Int),true)
  have s3:=s2.put (Str.ofString "_law_k") (.int (m:Int),true)
  have hA1:L2.atI ([lv (A,B,C),lv (0,E,F),lv (0,0,G)].map dj) (n:Int)=some (dj l):=HW (by rw [List.getElem?_map,hl];rfl)
  have hA2:L2.atI (l.map D.int) (m:Int)=some (D.int x):=HW (by rw [List.getElem?_map,hx];rfl)
  refine Rf.seq (il.iff (t:=true) (k:=0) (bU s1 (decl_name%.bl (lP c1))) (Rf.cut 2 (aJ (aP (d:=.int (n:Int)) (bU s1 (decl_name%.eq (by rw [<- en])))) (aJ (aP (d:=.int (m:Int)) (bU s2 (decl_name%.eq (by rw [<- em])))) cS)) (Rf.seq (il.sto2 (Ls:=[lv (A,B,C),lv (0,E,F),lv (0,0,G)]) (l:=l) (j:=n) (jm:=m) (v:=x+(c.fdiv 27).fmod 5 - 2) (n:=n) (nm:=m) (k:=0) (k1:=0) (k2:=0) s3.get (bU s3 (j8 (x:=.int (x+(c.fdiv 27).fmod 5)) (k:=0) (j8 (x:=.int x) (dU (dU decl_name% decl_name% rfl hA1) decl_name% rfl hA2) decl_name% decl_name%) decl_name% decl_name%)) (bU s3 decl_name%) (bU s3 decl_name%) rfl (vA hn) hl (by rw [l3];exact vA hm) hd (fun _ _=>rfl) (by intro a b c p z;cases z)) (Rf.base cS)))) (k ([lv (A,B,C),lv (0,E,F),lv (0,0,G)].set n (l.set m (x+(c.fdiv 27).fmod 5 - 2))) _ ?_ ?_ ?_)
  ·rw [List.length_set];rfl
  ·intro y hy
   rcases List.mem_or_eq_of_mem_set hy with h|h
   ·simp only [List.mem_cons,List.not_mem_nil,or_false] at h
    rcases h with rfl|rfl|rfl <;> rfl
   ·rw [h,List.length_set];exact l3
  ·have s':=s3.put (Str.ofString "_law_spots") (.lst (([lv (A,B,C),lv (0,E,F),lv (0,0,G)].set n (l.set m (x+(c.fdiv 27).fmod 5 - 2))).map dj),true)
   exact (ah s'.get (ah s'.get (ah s'.get (ah s'.get aI))))
 ·refine Rf.seq (il.iff (t:=false) (k:=0) (bU s1 (decl_name%.bl ((bZ _ _).trans (decide_eq_false c1)))) (Rf.base cS)) (k _ _ rfl ?_ s1)
  intro y h
  simp only [List.mem_cons,List.not_mem_nil,or_false] at h
  rcases h with rfl|rfl|rfl <;> rfl
theorem HI {q:Qd} {c:Int} {a b d:V3} {ρ:ak} {BB:D} {fl:Fl} (s1:Sub (bx [("_law_turn", cy q,false),("_law_base", BB,false),("_law_cell_here", .int c,false),("_law_spots", .lst ([lv a,lv b,lv d].map dj),false)]) ρ) (k:∀(a b d:V3) ρ',Sub (bx [("_law_turn", cy q,false),("_law_base", BB,false),("_law_cell_here", .int c,false),("_law_spots", .lst ([lv a,lv b,lv d].map dj),false)]) ρ'->Rf cC (ae (aj 56)) ((ao (aj 56)).drop 8) ρ' fl):Rf cC (ae (aj 56)) ((ao (aj 56)).drop 7) ρ fl:=by
 by_cases c1:c.fmod 3=2
 ·refine Rf.seq (il.iff (t:=true) (k:=0) (bU s1 (decl_name%.bl (lP c1))) (Rf.seq (il.setS (d:=.lst ([lv b,lv d,lv a].map dj)) (Xs.cat (l:=[dj (lv b),dj (lv d)]) (m:=[dj (lv a)]) (Xs.cut (m:=[lv a,lv b,lv d].map dj) (l:=some 1) (h:=none) (Xs.name s1.get rfl) (Xo.yes (k:=0) (bU s1 decl_name%)) Xo.no) (Xs.cut (m:=[lv a,lv b,lv d].map dj) (l:=none) (h:=some 1) (Xs.name s1.get rfl) Xo.no (Xo.yes (k:=0) (bU s1 decl_name%))) (Nat.le_of_ble_eq_true rfl)) rfl) (Rf.base cS))) (k b d a _ ?_)
  have s':=s1.put (Str.ofString "_law_spots") (.lst ([lv b,lv d,lv a].map dj),false)
  exact (ah s'.get (ah s'.get (ah s'.get (ah s'.get aI))))
 ·exact Rf.seq (il.iff (t:=false) (k:=0) (bU s1 (decl_name%.bl ((bZ _ _).trans (decide_eq_false c1)))) (Rf.base cS)) (k a b d _ s1)
theorem HK {q:Qd} {c:Int} {a b d u v w:V3} {ρ:ak} (hB:ag (dH [cy q]) (tv u v w)) (s1:Sub (bx [("_law_turn", cy q,false),("_law_base", tv u v w,false),("_law_cell_here", .int c,false),("_law_spots", .lst ([lv a,lv b,lv d].map dj),false)]) ρ):ag (aD cC ((ao (aj 56)).drop 8) (ae (aj 56)) ρ) (.rt (.bl true)):=by
 have h1:=Ey hB (xA u v w u v w)
 rw [decide_eq_true rfl,decide_eq_true rfl,decide_eq_true rfl] at h1
 have h1:ag (fL [cy q,tv u v w]) (.bl true):=h1
 have h3:=xA a b d u v w
 have h2:=Ey hB h3
 generalize (decide (a=u)&&(decide (b=v)&&(decide (d=w)&&true)))=x at *
 refine cP s1 (aJ (aP (d:=tv a b d) decl_name%) (aZ (t:=false) (k:=0) (eS (az decl_name% h1) decl_name% decl_name%) rfl (aJ (aP (d:=.bl x) (az decl_name% h2)) (di (dg (fG (gj decl_name% (gj (eS decl_name% (eS decl_name% decl_name% h3) (by cases x <;> exact decl_name%)) (gj (eS (az decl_name% h1) decl_name% decl_name%) i8)))))))))
theorem lm:∀ds r,ag (dZ ds) r->A3 cC (ae (aj 56)) ["_law_script"] (ao (aj 56)) ds r:=by
 rintro ds r ⟨l,h,hp⟩
 unfold dZ at h
 split at h
 ·rename_i L
  cases h
  obtain ⟨hw,_⟩:=hp
  obtain ⟨q,A,B,C,E,F,G,a0,e0,g0,hB,ρ1,h1,s1⟩:=HJ hw
  refine ⟨rfl,Rf.cut 6 h1 (HH a0 e0 g0 s1 fun M ρ2 m1 m2 s2=>Rf.dem ?_)⟩
  obtain ⟨a,b,d,rfl⟩:=Rz m1 m2
  exact HI (BQ s2) fun a b d ρ3 s3=>Rf.base (HK hB s3)
 ·cases h
def Ku:Fx:=Tb [("_law_pair_right", ga),("_law_base_right", dZ)] [] BL IL ML TL aU
def qg:List D->Rs D:=bH Ku (ae (aj 57)) ["_law_script"] (ao (aj 57))
theorem yY (ns:List Int) (_:ns.length<=63) (hb:∀m∈ns,Builtin.Int.intBits m<=2 ^ 20):ag (qg [.lst (ns.map D.int)]) (.bl true):=by
 have hw:lu (ns.map D.int):=⟨ns,rfl,hb⟩
 generalize ns.map D.int=L at *
 have h2:ag (dZ [.lst L]) (.bl true):=⟨_,rfl,hw,True.intro⟩
 exact bW (di (dg (fG (gj (az decl_name% (Fe hw)) (gj (az decl_name% h2) i8)))))
theorem LR:aF (aw (ae (aj 49))) ["_law_script", "_law_k"] (ae (aj 49)):=⟨rfl,rfl,rfl,by decide +kernel,by decide +kernel,by decide +kernel,by decide +kernel⟩
theorem LO:aF (aw (ae (aj 52))) ["_law_script", "_law_at"] (ae (aj 52)):=⟨rfl,rfl,rfl,by decide +kernel,by decide +kernel,by decide +kernel,by decide +kernel⟩
theorem LQ:aF (aw (ae (aj 50))) ["_law_i", "_law_j"] (ae (aj 50)):=⟨rfl,rfl,rfl,by decide +kernel,by decide +kernel,by decide +kernel,by decide +kernel⟩
theorem LP:aF (aw (ae (aj 51))) ["_law_one", "_law_other"] (ae (aj 51)):=⟨rfl,rfl,rfl,by decide +kernel,by decide +kernel,by decide +kernel,by decide +kernel⟩
theorem LM:aF (aw (ae (aj 54))) ["_law_script", "_law_cell_here"] (ae (aj 54)):=⟨rfl,rfl,rfl,by decide +kernel,by decide +kernel,by decide +kernel,by decide +kernel⟩
theorem LN:aF (aw (ae (aj 53))) ["_law_one", "_law_other"] (ae (aj 53)):=⟨rfl,rfl,rfl,by decide +kernel,by decide +kernel,by decide +kernel,by decide +kernel⟩
theorem Mg:aF (aw (ae (aj 14))) ["one", "other"] (ae (aj 14)):=⟨rfl,rfl,rfl,by decide +kernel,by decide +kernel,by decide +kernel,by decide +kernel⟩
theorem Mh:aF (aw (ae (aj 13))) ["numbers"] (ae (aj 13)):=⟨rfl,rfl,rfl,by decide +kernel,by decide +kernel,by decide +kernel,by decide +kernel⟩
theorem Mf:aF (aw (ae (aj 15))) ["numbers", "divisor"] (ae (aj 15)):=⟨rfl,rfl,rfl,by decide +kernel,by decide +kernel,by decide +kernel,by decide +kernel⟩
theorem Mc:aF (aw (ae (aj 20))) ["table"] (ae (aj 20)):=⟨rfl,rfl,rfl,by decide +kernel,by decide +kernel,by decide +kernel,by decide +kernel⟩
theorem Md:aF (aw (ae (aj 17))) ["one", "other"] (ae (aj 17)):=⟨rfl,rfl,rfl,by decide +kernel,by decide +kernel,by decide +kernel,by decide +kernel⟩
theorem L5:aF (aw (ae (aj 28))) ["rows", "other"] (ae (aj 28)):=⟨rfl,rfl,rfl,by decide +kernel,by decide +kernel,by decide +kernel,by decide +kernel⟩
theorem L6:aF (aw (ae (aj 27))) ["first", "second"] (ae (aj 27)):=⟨rfl,rfl,rfl,by decide +kernel,by decide +kernel,by decide +kernel,by decide +kernel⟩
theorem Me:aF (aw (ae (aj 16))) ["numbers"] (ae (aj 16)):=⟨rfl,rfl,rfl,by decide +kernel,by decide +kernel,by decide +kernel,by decide +kernel⟩
theorem Mb:aF (aw (ae (aj 22))) ["numbers"] (ae (aj 22)):=⟨rfl,rfl,rfl,by decide +kernel,by decide +kernel,by decide +kernel,by decide +kernel⟩
theorem Ex:aF (aw (ae (bo (aj 30) 0))) ["self", "word", "row", "fractions"] (ae (bo (aj 30) 0)):=⟨rfl,rfl,rfl,by decide +kernel,by decide +kernel,by decide +kernel,by decide +kernel⟩
theorem Ew:aF (aw (ae (bo (aj 31) 0))) ["self", "numbers"] (ae (bo (aj 31) 0)):=⟨rfl,rfl,rfl,by decide +kernel,by decide +kernel,by decide +kernel,by decide +kernel⟩
theorem L4:aF (aw (ae (aj 34))) ["axis"] (ae (aj 34)):=⟨rfl,rfl,rfl,by decide +kernel,by decide +kernel,by decide +kernel,by decide +kernel⟩
theorem Ev:aF (aw (ae (bo (aj 32) 0))) ["self", "axis"] (ae (bo (aj 32) 0)):=⟨rfl,rfl,rfl,by decide +kernel,by decide +kernel,by decide +kernel,by decide +kernel⟩
theorem Rw:aF (aw (ae (aj 7))) ["one"] (ae (aj 7)):=⟨rfl,rfl,rfl,by decide +kernel,by decide +kernel,by decide +kernel,by decide +kernel⟩
theorem Eu:aF (aw (ae (bo (aj 33) 0))) ["self", "axis"] (ae (bo (aj 33) 0)):=⟨rfl,rfl,rfl,by decide +kernel,by decide +kernel,by decide +kernel,by decide +kernel⟩
theorem L3:aF (aw (ae (aj 35))) ["word", "numbers"] (ae (aj 35)):=⟨rfl,rfl,rfl,by decide +kernel,by decide +kernel,by decide +kernel,by decide +kernel⟩
theorem qF:aF (aw (ae (bo (aj 30) 1))) ["self"] (ae (bo (aj 30) 1)):=⟨rfl,rfl,rfl,by decide +kernel,by decide +kernel,by decide +kernel,by decide +kernel⟩
theorem LT:aF (aw (ae (aj 46))) ["turn", "word", "first", "second"] (ae (aj 46)):=⟨rfl,rfl,rfl,by decide +kernel,by decide +kernel,by decide +kernel,by decide +kernel⟩
theorem LL:aF (aw (ae (aj 55))) ["_law_script"] (ae (aj 55)):=⟨rfl,rfl,rfl,by decide +kernel,by decide +kernel,by decide +kernel,by decide +kernel⟩
theorem LZ:aF (aw (ae (aj 38))) ["turn"] (ae (aj 38)):=⟨rfl,rfl,rfl,by decide +kernel,by decide +kernel,by decide +kernel,by decide +kernel⟩
theorem Mi:aF (aw (ae (aj 11))) ["four"] (ae (aj 11)):=⟨rfl,rfl,rfl,by decide +kernel,by decide +kernel,by decide +kernel,by decide +kernel⟩
theorem L9:aF (aw (ae (aj 24))) ["rows"] (ae (aj 24)):=⟨rfl,rfl,rfl,by decide +kernel,by decide +kernel,by decide +kernel,by decide +kernel⟩
theorem Ma:aF (aw (ae (aj 23))) ["table"] (ae (aj 23)):=⟨rfl,rfl,rfl,by decide +kernel,by decide +kernel,by decide +kernel,by decide +kernel⟩
theorem L7:aF (aw (ae (aj 26))) ["table"] (ae (aj 26)):=⟨rfl,rfl,rfl,by decide +kernel,by decide +kernel,by decide +kernel,by decide +kernel⟩
theorem L8:aF (aw (ae (aj 25))) ["table"] (ae (aj 25)):=⟨rfl,rfl,rfl,by decide +kernel,by decide +kernel,by decide +kernel,by decide +kernel⟩
theorem Mj:aF (aw (ae (aj 10))) ["one", "other"] (ae (aj 10)):=⟨rfl,rfl,rfl,by decide +kernel,by decide +kernel,by decide +kernel,by decide +kernel⟩
theorem LX:aF (aw (ae (aj 40))) ["turn"] (ae (aj 40)):=⟨rfl,rfl,rfl,by decide +kernel,by decide +kernel,by decide +kernel,by decide +kernel⟩
theorem Rx:aF (aw (ae (aj 6))) ["one", "other"] (ae (aj 6)):=⟨rfl,rfl,rfl,by decide +kernel,by decide +kernel,by decide +kernel,by decide +kernel⟩
theorem Rv:aF (aw (ae (aj 8))) ["one", "number"] (ae (aj 8)):=⟨rfl,rfl,rfl,by decide +kernel,by decide +kernel,by decide +kernel,by decide +kernel⟩
theorem LV:aF (aw (ae (aj 42))) ["spot", "other", "place"] (ae (aj 42)):=⟨rfl,rfl,rfl,by decide +kernel,by decide +kernel,by decide +kernel,by decide +kernel⟩
theorem LU:aF (aw (ae (aj 43))) ["base"] (ae (aj 43)):=⟨rfl,rfl,rfl,by decide +kernel,by decide +kernel,by decide +kernel,by decide +kernel⟩
theorem LW:aF (aw (ae (aj 41))) ["spots", "place"] (ae (aj 41)):=⟨rfl,rfl,rfl,by decide +kernel,by decide +kernel,by decide +kernel,by decide +kernel⟩
theorem LY:aF (aw (ae (aj 39))) ["turn"] (ae (aj 39)):=⟨rfl,rfl,rfl,by decide +kernel,by decide +kernel,by decide +kernel,by decide +kernel⟩
theorem LS:aF (aw (ae (aj 47))) ["turn", "base"] (ae (aj 47)):=⟨rfl,rfl,rfl,by decide +kernel,by decide +kernel,by decide +kernel,by decide +kernel⟩
theorem LK:aF (aw (ae (aj 56))) ["_law_script"] (ae (aj 56)):=⟨rfl,rfl,rfl,by decide +kernel,by decide +kernel,by decide +kernel,by decide +kernel⟩
theorem LJ:aF (aw (ae (aj 57))) ["_law_script"] (ae (aj 57)):=⟨rfl,rfl,rfl,by decide +kernel,by decide +kernel,by decide +kernel,by decide +kernel⟩
theorem bw:∀p∈BL,iT p:=am (Pr:=iT) (DC) (am (Pr:=iT) (xO) (am (Pr:=iT) (zH) (am (Pr:=iT) (DF) (am (Pr:=iT) (zK) (am (Pr:=iT) (DB) (am (Pr:=iT) (DD) (ar)))))))
theorem bv:∀p∈IL,oU p:=am (Pr:=oU) (xj) (am (Pr:=oU) (C6) (am (Pr:=oU) (zf) (ar)))
theorem bu:∀p∈ML,zW p:=ar
theorem bp:∀p∈TL,wc p:=am (Pr:=wc) (vx) (ar)
theorem cL {P:Program} {w:World} {k0:W.Frag} {mg:Str->Option Value} {base:Heap} {j k:Nat} {g:Str} {F:List D->Rs D} {l:List (Str×(List D->Rs D))} (h:cx P w k0 mg base j g F) (t:∀p∈l,pN P w k0 mg base k p) (hj:j<=k:=by decide):∀p∈(g,F)::l,pN P w k0 mg base k p:=am (Pr:=pN P w k0 mg base k) (Or.inl (h.mono hj)) t
theorem cR {P:Program} {w:World} {k0:W.Frag} {mg:Str->Option Value} {base:Heap} {j k:Nat} {g:Str} {F:List D->Rs D} {l:List (Str×(List D->Rs D))} (h:nI P w k0 mg base j g F) (t:∀p∈l,pN P w k0 mg base k p) (hj:j<=k:=by decide):∀p∈(g,F)::l,pN P w k0 mg base k p:=am (Pr:=pN P w k0 mg base k) (Or.inr (h.mono hj)) t
theorem all_mk {l:W.OpenLaw} {w:World} {K:W.Frag} {h:Heap} {mg:Str->Option Value} {fa f49 f52 f50 f51 f54 f53 f14 f13 f15 f20 f17 f28 f27 f16 f22 qf mR f34 mQ f7 mP f35 iD f46 f55 f38 f11 f24 f23 f26 f25 f10 f40 f6 f8 f42 f43 f41 f39 f47 f56 f57 df bG cj nJ:Addr} (X:K.In h) (G:h.Ns mainGlobals mg) (hfa:mg "law" = some (.ref fa))
  {M8 QJ M5 QG M7 QI M6 QH M3 QE M4 QF Nw Q6 Nx Q7 Nv Q5 Nr Q2 Nt Q3 Nk QU Nl QV Nu Q4 Nq Q0 Fy Id Fv Ib Nj QT Fu Ia od7 an7 Ft HZ Ni QS Fw Ic Na QL M2 QD Nh QR Ny Q8 No QY Np QZ Nm QW Nn QX Nz Q9 Nf QP od6 an6 od8 an8 Nc QN Nb QM Nd QO Ng QQ M9 QK M1 QC M0 HY:Option Addr} {Lg Ld Lf Le Lb Lc LE LF LD LA LB Lr Lu LC Lz El Ej Lq Ei sl7 Eh Lp Ek Li La Lo LG Lx Ly Lv Lw LH Lm sl6 sl8 Lk Lj Ll Ln Lh K9 K8:Array (Option Value)} {NI Ox Pl Mz Hg P8 NF Ot Pi Mv Hd P5 NH Ov Pk Mx Hf P7 NG Ou Pj Mw He P6 ND Oq Pg Mt Hb P3 NE Os Ph Mu Hc P4 N5 OU PN MW HD Qw N6 OV PP MX HE Qx N3 OT PM MV HC Qv N0 OQ PJ MS Hz Qs N1 OR PK MT HA Qt NT OJ Py MK Hs Qk NU OK Pz MM Ht Ql N2 OS PL MU HB Qu NZ OP PH MR Hy Qr FD Ga GY ES xG G5 FB F5 GW EQ xE G3 NS OI Px MJ Hr Qj FA F4 GV EO xD G2 oc7 kV7 dc7 pm7 cd7 ct7 Fz F3 GU EN xC G1 NR OH Pw MI Hq Qi FC F9 GX ER xF G4 NK Oz Po MB Hi Qa NC Op Pf Ms Ha P0 NQ OG Pv MH Ho Qh N7 OW PQ MY HF Qy NX ON PD MP Hw Qp NY OO PF MQ Hx Qq NV OL PB MN Hu Qn NW OM PC MO Hv Qo N8 OX PR MZ HG Qz NO OE Pt MF Hm Qf oc6 kV6 dc6 pm6 cd6 ct6 oc8 kV8 dc8 pm8 cd8 ct8 NM OB Pq MD Hk Qc NL OA Pp MC Hj Qb NN OC Ps ME Hl Qe NP OF Pu MG Hn Qg NJ Oy Pn MA Hh P9 NB Oo Pd Mr G9 PZ NA FZ GT EM zD G0:Value}
  (jc:W.nsIn K mainGlobals "Turn" = some (some (.ref df)))
  (Ct:W.plainGet K df Str.empty=true)
  (C7:W.hasDictIn K df=true)
  (Cq:W.plainOver K df=true)
  (Cg:W.findIn K (.ref df) "__setattr__" = some (some (.builtin "object.__setattr__")))
  (CN:W.makesIn K df=true)
  (za:W.findIn K (.ref df) "__init__" = some (some (.ref mR)))
  (zb:W.isFn K (.ref mR)=true)
  (zA:W.keepIn K (.ref df)=true)
  (qV:W.findIn K (.ref df) "word" = some none)
  (sX:W.findIn K (.ref df) "row" = some none)
  (gD:W.findIn K (.ref df) "fractions" = some none)
  (fi:W.nsIn K mainGlobals "HalfTurn" = some (some (.ref bG)))
  (sW:W.plainGet K bG Str.empty=true)
  (tf:W.hasDictIn K bG=true)
  (sV:W.plainOver K bG=true)
  (sT:W.findIn K (.ref bG) "__setattr__" = some (some (.builtin "object.__setattr__")))
  (sY:W.makesIn K bG=true)
  (rD:W.findIn K (.ref bG) "__init__" = some (some (.ref mQ)))
  (rE:W.isFn K (.ref mQ)=true)
  (se:W.keepIn K (.ref bG)=true)
  (lJ:W.findIn K (.ref bG) "word" = some none)
  (my:W.findIn K (.ref bG) "row" = some none)
  (fz:W.findIn K (.ref bG) "fractions" = some none)
  (gv:W.nsIn K mainGlobals "Mirror" = some (some (.ref cj)))
  (wH:W.plainGet K cj Str.empty=true)
  (xl:W.hasDictIn K cj=true)
  (wD:W.plainOver K cj=true)
  (wA:W.findIn K (.ref cj) "__setattr__" = some (some (.builtin "object.__setattr__")))
  (wR:W.makesIn K cj=true)
  (vC:W.findIn K (.ref cj) "__init__" = some (some (.ref mP)))
  (vD:W.isFn K (.ref mP)=true)
  (vJ:W.keepIn K (.ref cj)=true)
  (n9:W.findIn K (.ref cj) "word" = some none)
  (pQ:W.findIn K (.ref cj) "row" = some none)
  (fR:W.findIn K (.ref cj) "fractions" = some none)
  (lf:W.findIn K (.ref bG) "table" = some (some (.ref iD))) (lg:W.isFn K (.ref iD)=true)
  (mz:W.findIn K (.ref cj) "table" = some (some (.ref iD))) (mB:W.isFn K (.ref iD)=true)
  (pR:W.findIn K (.ref df) "table" = some (some (.ref iD))) (pS:W.isFn K (.ref iD)=true)
  (oJ:W.nsIn K mainGlobals "Deed" = some (some (.ref nJ))) (ox:W.specialIn K (.ref nJ) "__getattribute__" = some (some (.builtin "type.__getattribute__"))) (nT:W.readsIn K nJ (.type "type")=true) (oB:W.findCls K (.ref nJ) (.type "type") "__init__" = some (.val (.ref qf)))
  (a49:W.nsIn K mainGlobals "_law_cell" = some (some (.ref f49)))    (l49:K.lookup f49=some ⟨NI,M8,.func (W.fnOf "_law_cell" "_law_cell" (aM (aj 49)) (ao (aj 49)) (ae (aj 49)) .none Ox Pl Mz QJ Hg P8),Lg⟩) (c49:W.codeIn K Hg "_law_cell" = true) (k49:W.keepIn K (.ref f49)=true)
  (a52:W.nsIn K mainGlobals "_law_spot" = some (some (.ref f52)))    (l52:K.lookup f52=some ⟨NF,M5,.func (W.fnOf "_law_spot" "_law_spot" (aM (aj 52)) (ao (aj 52)) (ae (aj 52)) .none Ot Pi Mv QG Hd P5),Ld⟩) (c52:W.codeIn K Hd "_law_spot" = true) (k52:W.keepIn K (.ref f52)=true)
  (a50:W.nsIn K mainGlobals "_law_sign" = some (some (.ref f50)))    (l50:K.lookup f50=some ⟨NH,M7,.func (W.fnOf "_law_sign" "_law_sign" (aM (aj 50)) (ao (aj 50)) (ae (aj 50)) .none Ov Pk Mx QI Hf P7),Lf⟩) (c50:W.codeIn K Hf "_law_sign" = true) (k50:W.keepIn K (.ref f50)=true)
  (a51:W.nsIn K mainGlobals "_law_plain" = some (some (.ref f51)))    (l51:K.lookup f51=some ⟨NG,M6,.func (W.fnOf "_law_plain" "_law_plain" (aM (aj 51)) (ao (aj 51)) (ae (aj 51)) .none Ou Pj Mw QH He P6),Le⟩) (c51:W.codeIn K He "_law_plain" = true) (k51:W.keepIn K (.ref f51)=true)
  (a54:W.nsIn K mainGlobals "_law_axes" = some (some (.ref f54)))    (l54:K.lookup f54=some ⟨ND,M3,.func (W.fnOf "_law_axes" "_law_axes" (aM (aj 54)) (ao (aj 54)) (ae (aj 54)) .none Oq Pg Mt QE Hb P3),Lb⟩) (c54:W.codeIn K Hb "_law_axes" = true) (k54:W.keepIn K (.ref f54)=true)
  (a53:W.nsIn K mainGlobals "_law_alike" = some (some (.ref f53)))    (l53:K.lookup f53=some ⟨NE,M4,.func (W.fnOf "_law_alike" "_law_alike" (aM (aj 53)) (ao (aj 53)) (ae (aj 53)) .none Os Ph Mu QF Hc P4),Lc⟩) (c53:W.codeIn K Hc "_law_alike" = true) (k53:W.keepIn K (.ref f53)=true)
  (a14:W.nsIn K mainGlobals "shared_by" = some (some (.ref f14)))    (l14:K.lookup f14=some ⟨N5,Nw,.func (W.fnOf "shared_by" "shared_by" (aM (aj 14)) (ao (aj 14)) (ae (aj 14)) .none OU PN MW Q6 HD Qw),LE⟩) (c14:W.codeIn K HD "shared_by" = true) (k14:W.keepIn K (.ref f14)=true)
  (a13:W.nsIn K mainGlobals "common_divisor" = some (some (.ref f13)))    (l13:K.lookup f13=some ⟨N6,Nx,.func (W.fnOf "common_divisor" "common_divisor" (aM (aj 13)) (ao (aj 13)) (ae (aj 13)) .none OV PP MX Q7 HE Qx),LF⟩) (c13:W.codeIn K HE "common_divisor" = true) (k13:W.keepIn K (.ref f13)=true)
  (a15:W.nsIn K mainGlobals "shortened" = some (some (.ref f15)))    (l15:K.lookup f15=some ⟨N3,Nv,.func (W.fnOf "shortened" "shortened" (aM (aj 15)) (ao (aj 15)) (ae (aj 15)) .none OT PM MV Q5 HC Qv),LD⟩) (c15:W.codeIn K HC "shortened" = true) (k15:W.keepIn K (.ref f15)=true)
  (a20:W.nsIn K mainGlobals "lowest" = some (some (.ref f20)))    (l20:K.lookup f20=some ⟨N0,Nr,.func (W.fnOf "lowest" "lowest" (aM (aj 20)) (ao (aj 20)) (ae (aj 20)) .none OQ PJ MS Q2 Hz Qs),LA⟩) (c20:W.codeIn K Hz "lowest" = true) (k20:W.keepIn K (.ref f20)=true)
  (a17:W.nsIn K mainGlobals "added_products" = some (some (.ref f17)))    (l17:K.lookup f17=some ⟨N1,Nt,.func (W.fnOf "added_products" "added_products" (aM (aj 17)) (ao (aj 17)) (ae (aj 17)) .none OR PK MT Q3 HA Qt),LB⟩) (c17:W.codeIn K HA "added_products" = true) (k17:W.keepIn K (.ref f17)=true)
  (a28:W.nsIn K mainGlobals "each_with" = some (some (.ref f28)))    (l28:K.lookup f28=some ⟨NT,Nk,.func (W.fnOf "each_with" "each_with" (aM (aj 28)) (ao (aj 28)) (ae (aj 28)) .none OJ Py MK QU Hs Qk),Lr⟩) (c28:W.codeIn K Hs "each_with" = true) (k28:W.keepIn K (.ref f28)=true)
  (a27:W.nsIn K mainGlobals "behind" = some (some (.ref f27)))    (l27:K.lookup f27=some ⟨NU,Nl,.func (W.fnOf "behind" "behind" (aM (aj 27)) (ao (aj 27)) (ae (aj 27)) .none OK Pz MM QV Ht Ql),Lu⟩) (c27:W.codeIn K Ht "behind" = true) (k27:W.keepIn K (.ref f27)=true)
  (a16:W.nsIn K mainGlobals "upright" = some (some (.ref f16)))    (l16:K.lookup f16=some ⟨N2,Nu,.func (W.fnOf "upright" "upright" (aM (aj 16)) (ao (aj 16)) (ae (aj 16)) .none OS PL MU Q4 HB Qu),LC⟩) (c16:W.codeIn K HB "upright" = true) (k16:W.keepIn K (.ref f16)=true)
  (a22:W.nsIn K mainGlobals "table_of" = some (some (.ref f22)))    (l22:K.lookup f22=some ⟨NZ,Nq,.func (W.fnOf "table_of" "table_of" (aM (aj 22)) (ao (aj 22)) (ae (aj 22)) .none OP PH MR Q0 Hy Qr),Lz⟩) (c22:W.codeIn K Hy "table_of" = true) (k22:W.keepIn K (.ref f22)=true)
  (JL:K.lookup qf=some ⟨FD,Fy,.func (W.fnOf "__init__" "Deed.__init__" (aM (bo (aj 30) 0)) (ao (bo (aj 30) 0)) (ae (bo (aj 30) 0)) .none Ga GY ES Id xG G5),El⟩) (Kq:W.codeIn K xG "Deed.__init__" = true) (qd:W.keepIn K (.ref qf)=true)
  (JJ:K.lookup mR=some ⟨FB,Fv,.func (W.fnOf "__init__" "Turn.__init__" (aM (bo (aj 31) 0)) (ao (bo (aj 31) 0)) (ae (bo (aj 31) 0)) .none F5 GW EQ Ib xE G3),Ej⟩) (Km:W.codeIn K xE "Turn.__init__" = true) (JQ:W.keepIn K (.ref mR)=true)
  (a34:W.nsIn K mainGlobals "half_table" = some (some (.ref f34)))    (l34:K.lookup f34=some ⟨NS,Nj,.func (W.fnOf "half_table" "half_table" (aM (aj 34)) (ao (aj 34)) (ae (aj 34)) .none OI Px MJ QT Hr Qj),Lq⟩) (c34:W.codeIn K Hr "half_table" = true) (k34:W.keepIn K (.ref f34)=true)
  (JI:K.lookup mQ=some ⟨FA,Fu,.func (W.fnOf "__init__" "HalfTurn.__init__" (aM (bo (aj 32) 0)) (ao (bo (aj 32) 0)) (ae (bo (aj 32) 0)) .none F4 GV EO Ia xD G2),Ei⟩) (Kl:W.codeIn K xD "HalfTurn.__init__" = true) (JP:W.keepIn K (.ref mQ)=true)
  (a7:W.nsIn K mainGlobals "opposite" = some (some (.ref f7)))    (l7:K.lookup f7=some ⟨oc7,od7,.func (W.fnOf "opposite" "opposite" (aM (aj 7)) (ao (aj 7)) (ae (aj 7)) .none kV7 dc7 pm7 an7 cd7 ct7),sl7⟩) (c7:W.codeIn K cd7 "opposite" = true) (k7:W.keepIn K (.ref f7)=true)
  (JH:K.lookup mP=some ⟨Fz,Ft,.func (W.fnOf "__init__" "Mirror.__init__" (aM (bo (aj 33) 0)) (ao (bo (aj 33) 0)) (ae (bo (aj 33) 0)) .none F3 GU EN HZ xC G1),Eh⟩) (Kk:W.codeIn K xC "Mirror.__init__" = true) (JO:W.keepIn K (.ref mP)=true)
  (a35:W.nsIn K mainGlobals "deed_by" = some (some (.ref f35)))    (l35:K.lookup f35=some ⟨NR,Ni,.func (W.fnOf "deed_by" "deed_by" (aM (aj 35)) (ao (aj 35)) (ae (aj 35)) .none OH Pw MI QS Hq Qi),Lp⟩) (c35:W.codeIn K Hq "deed_by" = true) (k35:W.keepIn K (.ref f35)=true)
  (JK:K.lookup iD=some ⟨FC,Fw,.func (W.fnOf "table" "Deed.table" (aM (bo (aj 30) 1)) (ao (bo (aj 30) 1)) (ae (bo (aj 30) 1)) .none F9 GX ER Ic xF G4),Ek⟩) (Ko:W.codeIn K xF "Deed.table" = true) (qc:W.keepIn K (.ref iD)=true)
  (a46:W.nsIn K mainGlobals "shows_pair" = some (some (.ref f46)))    (l46:K.lookup f46=some ⟨NK,Na,.func (W.fnOf "shows_pair" "shows_pair" (aM (aj 46)) (ao (aj 46)) (ae (aj 46)) .none Oz Po MB QL Hi Qa),Li⟩) (c46:W.codeIn K Hi "shows_pair" = true) (k46:W.keepIn K (.ref f46)=true)
  (a55:W.nsIn K mainGlobals "_law_pair_right" = some (some (.ref f55)))    (l55:K.lookup f55=some ⟨NC,M2,.func (W.fnOf "_law_pair_right" "_law_pair_right" (aM (aj 55)) (ao (aj 55)) (ae (aj 55)) .none Op Pf Ms QD Ha P0),La⟩) (c55:W.codeIn K Ha "_law_pair_right" = true) (k55:W.keepIn K (.ref f55)=true)
  (a38:W.nsIn K mainGlobals "corner_number" = some (some (.ref f38)))    (l38:K.lookup f38=some ⟨NQ,Nh,.func (W.fnOf "corner_number" "corner_number" (aM (aj 38)) (ao (aj 38)) (ae (aj 38)) .none OG Pv MH QR Ho Qh),Lo⟩) (c38:W.codeIn K Ho "corner_number" = true) (k38:W.keepIn K (.ref f38)=true)
  (a11:W.nsIn K mainGlobals "other_signed" = some (some (.ref f11)))    (l11:K.lookup f11=some ⟨N7,Ny,.func (W.fnOf "other_signed" "other_signed" (aM (aj 11)) (ao (aj 11)) (ae (aj 11)) .none OW PQ MY Q8 HF Qy),LG⟩) (c11:W.codeIn K HF "other_signed" = true) (k11:W.keepIn K (.ref f11)=true)
  (a24:W.nsIn K mainGlobals "determinant" = some (some (.ref f24)))    (l24:K.lookup f24=some ⟨NX,No,.func (W.fnOf "determinant" "determinant" (aM (aj 24)) (ao (aj 24)) (ae (aj 24)) .none ON PD MP QY Hw Qp),Lx⟩) (c24:W.codeIn K Hw "determinant" = true) (k24:W.keepIn K (.ref f24)=true)
  (a23:W.nsIn K mainGlobals "table_fault" = some (some (.ref f23)))    (l23:K.lookup f23=some ⟨NY,Np,.func (W.fnOf "table_fault" "table_fault" (aM (aj 23)) (ao (aj 23)) (ae (aj 23)) .none OO PF MQ QZ Hx Qq),Ly⟩) (c23:W.codeIn K Hx "table_fault" = true) (k23:W.keepIn K (.ref f23)=true)
  (a26:W.nsIn K mainGlobals "multiples" = some (some (.ref f26)))    (l26:K.lookup f26=some ⟨NV,Nm,.func (W.fnOf "multiples" "multiples" (aM (aj 26)) (ao (aj 26)) (ae (aj 26)) .none OL PB MN QW Hu Qn),Lv⟩) (c26:W.codeIn K Hu "multiples" = true) (k26:W.keepIn K (.ref f26)=true)
  (a25:W.nsIn K mainGlobals "number_of" = some (some (.ref f25)))    (l25:K.lookup f25=some ⟨NW,Nn,.func (W.fnOf "number_of" "number_of" (aM (aj 25)) (ao (aj 25)) (ae (aj 25)) .none OM PC MO QX Hv Qo),Lw⟩) (c25:W.codeIn K Hv "number_of" = true) (k25:W.keepIn K (.ref f25)=true)
  (a10:W.nsIn K mainGlobals "plain_product" = some (some (.ref f10)))    (l10:K.lookup f10=some ⟨N8,Nz,.func (W.fnOf "plain_product" "plain_product" (aM (aj 10)) (ao (aj 10)) (ae (aj 10)) .none OX PR MZ Q9 HG Qz),LH⟩) (c10:W.codeIn K HG "plain_product" = true) (k10:W.keepIn K (.ref f10)=true)
  (a40:W.nsIn K mainGlobals "staying_spots" = some (some (.ref f40)))    (l40:K.lookup f40=some ⟨NO,Nf,.func (W.fnOf "staying_spots" "staying_spots" (aM (aj 40)) (ao (aj 40)) (ae (aj 40)) .none OE Pt MF QP Hm Qf),Lm⟩) (c40:W.codeIn K Hm "staying_spots" = true) (k40:W.keepIn K (.ref f40)=true)
  (a6:W.nsIn K mainGlobals "less" = some (some (.ref f6)))    (l6:K.lookup f6=some ⟨oc6,od6,.func (W.fnOf "less" "less" (aM (aj 6)) (ao (aj 6)) (ae (aj 6)) .none kV6 dc6 pm6 an6 cd6 ct6),sl6⟩) (c6:W.codeIn K cd6 "less" = true) (k6:W.keepIn K (.ref f6)=true)
  (a8:W.nsIn K mainGlobals "many_times" = some (some (.ref f8)))    (l8:K.lookup f8=some ⟨oc8,od8,.func (W.fnOf "many_times" "many_times" (aM (aj 8)) (ao (aj 8)) (ae (aj 8)) .none kV8 dc8 pm8 an8 cd8 ct8),sl8⟩) (c8:W.codeIn K cd8 "many_times" = true) (k8:W.keepIn K (.ref f8)=true)
  (a42:W.nsIn K mainGlobals "brought_below" = some (some (.ref f42)))    (l42:K.lookup f42=some ⟨NM,Nc,.func (W.fnOf "brought_below" "brought_below" (aM (aj 42)) (ao (aj 42)) (ae (aj 42)) .none OB Pq MD QN Hk Qc),Lk⟩) (c42:W.codeIn K Hk "brought_below" = true) (k42:W.keepIn K (.ref f42)=true)
  (a43:W.nsIn K mainGlobals "reduced" = some (some (.ref f43)))    (l43:K.lookup f43=some ⟨NL,Nb,.func (W.fnOf "reduced" "reduced" (aM (aj 43)) (ao (aj 43)) (ae (aj 43)) .none OA Pp MC QM Hj Qb),Lj⟩) (c43:W.codeIn K Hj "reduced" = true) (k43:W.keepIn K (.ref f43)=true)
  (a41:W.nsIn K mainGlobals "swept" = some (some (.ref f41)))    (l41:K.lookup f41=some ⟨NN,Nd,.func (W.fnOf "swept" "swept" (aM (aj 41)) (ao (aj 41)) (ae (aj 41)) .none OC Ps ME QO Hl Qe),Ll⟩) (c41:W.codeIn K Hl "swept" = true) (k41:W.keepIn K (.ref f41)=true)
  (a39:W.nsIn K mainGlobals "base_of" = some (some (.ref f39)))    (l39:K.lookup f39=some ⟨NP,Ng,.func (W.fnOf "base_of" "base_of" (aM (aj 39)) (ao (aj 39)) (ae (aj 39)) .none OF Pu MG QQ Hn Qg),Ln⟩) (c39:W.codeIn K Hn "base_of" = true) (k39:W.keepIn K (.ref f39)=true)
  (a47:W.nsIn K mainGlobals "shows_base" = some (some (.ref f47)))    (l47:K.lookup f47=some ⟨NJ,M9,.func (W.fnOf "shows_base" "shows_base" (aM (aj 47)) (ao (aj 47)) (ae (aj 47)) .none Oy Pn MA QK Hh P9),Lh⟩) (c47:W.codeIn K Hh "shows_base" = true) (k47:W.keepIn K (.ref f47)=true)
  (a56:W.nsIn K mainGlobals "_law_base_right" = some (some (.ref f56)))    (l56:K.lookup f56=some ⟨NB,M1,.func (W.fnOf "_law_base_right" "_law_base_right" (aM (aj 56)) (ao (aj 56)) (ae (aj 56)) .none Oo Pd Mr QC G9 PZ),K9⟩) (c56:W.codeIn K G9 "_law_base_right" = true) (k56:W.keepIn K (.ref f56)=true)
  (a57:W.nsIn K mainGlobals "law" = some (some (.ref f57)))    (l57:K.lookup f57=some ⟨NA,M0,.func (W.fnOf "law" "law" (aM (aj 57)) (ao (aj 57)) (ae (aj 57)) .none FZ GT EM HY zD G0),K8⟩) (c57:W.codeIn K zD "law" = true) (k57:W.keepIn K (.ref f57)=true)
  {ca0:Addr} {dd0:Option Addr} {ss0:Array (Option Value)} {nn0:Nat} {IA Iz Iy:Tok} (g0:W.nsIn K mainGlobals "NO_AXIS" = some (some (.ref ca0))) (m0:K.lookup ca0=some ⟨.type "tuple", dd0,.seq #[.int (0) IA,.int (0) Iz,.int (0) Iy] nn0,ss0⟩)
  {ca1 vT vS vR vQ vP vO:Addr} {dd1:Option Addr} {ss1:Array (Option Value)} {nn1:Nat} (g1:W.nsIn K mainGlobals "PAIRS" = some (some (.ref ca1))) (m1:K.lookup ca1=some ⟨.type "tuple", dd1,.seq #[.ref vT,.ref vS,.ref vR,.ref vQ,.ref vP,.ref vO] nn1,ss1⟩)
  {Kc:Option Addr} {IS:Array (Option Value)} {Jv:Nat} {BD BC:Tok} (Og:K.lookup vO=some ⟨.type "tuple", Kc,.seq #[.int (2) BD,.int (2) BC] Jv,IS⟩)
  {Ke:Option Addr} {IT:Array (Option Value)} {Jw:Nat} {BF BE:Tok} (Oh:K.lookup vP=some ⟨.type "tuple", Ke,.seq #[.int (1) BF,.int (2) BE] Jw,IT⟩)
  {Kf:Option Addr} {IU:Array (Option Value)} {Jx:Nat} {BH BG:Tok} (Oi:K.lookup vQ=some ⟨.type "tuple", Kf,.seq #[.int (1) BH,.int (1) BG] Jx,IU⟩)
  {Kg:Option Addr} {IV:Array (Option Value)} {Jy:Nat} {BJ BI:Tok} (Oj:K.lookup vR=some ⟨.type "tuple", Kg,.seq #[.int (0) BJ,.int (2) BI] Jy,IV⟩)
  {Kh:Option Addr} {IW:Array (Option Value)} {Jz:Nat} {BM BK:Tok} (Ol:K.lookup vS=some ⟨.type "tuple", Kh,.seq #[.int (0) BM,.int (1) BK] Jz,IW⟩)
  {Ki:Option Addr} {IY:Array (Option Value)} {JA:Nat} {BO BN:Tok} (Om:K.lookup vT=some ⟨.type "tuple", Ki,.seq #[.int (0) BO,.int (0) BN] JA,IY⟩)
  {ca2 vN vM vL vK:Addr} {dd2:Option Addr} {ss2:Array (Option Value)} {nn2:Nat} (g2:W.nsIn K mainGlobals "UNITS" = some (some (.ref ca2))) (m2:K.lookup ca2=some ⟨.type "tuple", dd2,.seq #[.ref vN,.ref vM,.ref vL,.ref vK] nn2,ss2⟩)
  {J8:Option Addr} {IO:Array (Option Value)} {Jr:Nat} {Bn Bm Bl Bk:Tok} (Oc:K.lookup vK=some ⟨.type "tuple", J8,.seq #[.int (0) Bn,.int (0) Bm,.int (0) Bl,.int (1) Bk] Jr,IO⟩)
  {J9:Option Addr} {IP:Array (Option Value)} {Js:Nat} {Br Bq Bp Bo:Tok} (Od:K.lookup vL=some ⟨.type "tuple", J9,.seq #[.int (0) Br,.int (0) Bq,.int (1) Bp,.int (0) Bo] Js,IP⟩)
  {Ka:Option Addr} {IQ:Array (Option Value)} {Jt:Nat} {Bw Bv Bu Bt:Tok} (Oe:K.lookup vM=some ⟨.type "tuple", Ka,.seq #[.int (0) Bw,.int (1) Bv,.int (0) Bu,.int (0) Bt] Jt,IQ⟩)
  {Kb:Option Addr} {IR:Array (Option Value)} {Ju:Nat} {BA Bz By Bx:Tok} (Of:K.lookup vN=some ⟨.type "tuple", Kb,.seq #[.int (1) BA,.int (0) Bz,.int (0) By,.int (0) Bx] Ju,IR⟩)
  (z0:W.nsIn K mainGlobals "len" = some none)    (z1:W.nsIn K mainGlobals "tuple" = some none)    (z2:W.nsIn K mainGlobals "list" = some none)    (z3:W.nsIn K mainGlobals "abs" = some none)    (z4:W.nsIn K mainGlobals "all" = some none)    (z5:W.nsIn K mainGlobals "sum" = some none)    (z6:W.nsIn K mainGlobals "isinstance" = some none)    (z7:W.nsIn K mainGlobals "set" = some none)    (z8:W.nsIn K mainGlobals "int" = some none)    (z9:W.nsIn K mainGlobals "bool" = some none)    (z10:W.nsIn K mainGlobals "str" = some none)    (z11:W.nsIn K mainGlobals "range" = some none)    (z12:W.nsIn K mainGlobals "zip" = some none)    (z13:W.nsIn K mainGlobals "enumerate" = some none)    (z14:W.nsIn K mainGlobals "any" = some none)    (z15:W.nsIn K mainGlobals "sorted" = some none)    (z16:W.nsIn K mainGlobals "min" = some none)    (z17:W.nsIn K mainGlobals "max" = some none)    (z18:W.nsIn K mainGlobals "reversed" = some none) :
  ∃fd:FuncData,(∀(s:Shared) (v:Value),BindsTo s fd ⟨[v],[]⟩ [("_law_script", v)])/\∀base:Heap,K.In base->base.Ns mainGlobals mg->bS l.prog w K mg base dM 11 fa fd ["_law_script"] (jC K qg):=by
 have e:=hfa.symm.trans (W.mg_of X G a57)
 cases e
 have hbl:∀n∈gw,mg n=none:=am (Pr:=fun n=>mg n=none) (W.mg_none_of X G z0) (am (Pr:=fun n=>mg n=none) (W.mg_none_of X G z1) (am (Pr:=fun n=>mg n=none) (W.mg_none_of X G z2) (am (Pr:=fun n=>mg n=none) (W.mg_none_of X G z3) (am (Pr:=fun n=>mg n=none) (W.mg_none_of X G z4) (am (Pr:=fun n=>mg n=none) (W.mg_none_of X G z5) (am (Pr:=fun n=>mg n=none) (W.mg_none_of X G z6) (am (Pr:=fun n=>mg n=none) (W.mg_none_of X G z7) (am (Pr:=fun n=>mg n=none) (W.mg_none_of X G z8) (am (Pr:=fun n=>mg n=none) (W.mg_none_of X G z9) (am (Pr:=fun n=>mg n=none) (W.mg_none_of X G z10) (am (Pr:=fun n=>mg n=none) (W.mg_none_of X G z11) (am (Pr:=fun n=>mg n=none) (W.mg_none_of X G z12) (am (Pr:=fun n=>mg n=none) (W.mg_none_of X G z13) (am (Pr:=fun n=>mg n=none) (W.mg_none_of X G z14) (am (Pr:=fun n=>mg n=none) (W.mg_none_of X G z15) (am (Pr:=fun n=>mg n=none) (W.mg_none_of X G z16) (am (Pr:=fun n=>mg n=none) (W.mg_none_of X G z17) (am (Pr:=fun n=>mg n=none) (W.mg_none_of X G z18) (ar)))))))))))))))))))
 have uz:eO K df:=⟨Ct,C7,Cq,Cg⟩
 have lA:eO K bG:=⟨sW,tf,sV,sT⟩
 have pH:eO K cj:=⟨wH,xl,wD,wA⟩
 have F49:=aX (st:=(aj 49)) l49 c49 k49
 have b49:=F49.binds (ps:=["_law_script", "_law_k"]) fun _ _ _ _ _ _ us hl=>by obtain ⟨x0,x1,rfl⟩:=dP hl;rfl
 have F52:=aX (st:=(aj 52)) l52 c52 k52
 have b52:=F52.binds (ps:=["_law_script", "_law_at"]) fun _ _ _ _ _ _ us hl=>by obtain ⟨x0,x1,rfl⟩:=dP hl;rfl
 have F50:=aX (st:=(aj 50)) l50 c50 k50
 have b50:=F50.binds (ps:=["_law_i", "_law_j"]) fun _ _ _ _ _ _ us hl=>by obtain ⟨x0,x1,rfl⟩:=dP hl;rfl
 have F51:=aX (st:=(aj 51)) l51 c51 k51
 have b51:=F51.binds (ps:=["_law_one", "_law_other"]) fun _ _ _ _ _ _ us hl=>by obtain ⟨x0,x1,rfl⟩:=dP hl;rfl
 have F54:=aX (st:=(aj 54)) l54 c54 k54
 have b54:=F54.binds (ps:=["_law_script", "_law_cell_here"]) fun _ _ _ _ _ _ us hl=>by obtain ⟨x0,x1,rfl⟩:=dP hl;rfl
 have F53:=aX (st:=(aj 53)) l53 c53 k53
 have b53:=F53.binds (ps:=["_law_one", "_law_other"]) fun _ _ _ _ _ _ us hl=>by obtain ⟨x0,x1,rfl⟩:=dP hl;rfl
 have F14:=aX (st:=(aj 14)) l14 c14 k14
 have b14:=F14.binds (ps:=["one", "other"]) fun _ _ _ _ _ _ us hl=>by obtain ⟨x0,x1,rfl⟩:=dP hl;rfl
 have F13:=aX (st:=(aj 13)) l13 c13 k13
 have b13:=F13.binds (ps:=["numbers"]) fun _ _ _ _ _ _ us hl=>by obtain ⟨x0,rfl⟩:=ef hl;rfl
 have F15:=aX (st:=(aj 15)) l15 c15 k15
 have b15:=F15.binds (ps:=["numbers", "divisor"]) fun _ _ _ _ _ _ us hl=>by obtain ⟨x0,x1,rfl⟩:=dP hl;rfl
 have F20:=aX (st:=(aj 20)) l20 c20 k20
 have b20:=F20.binds (ps:=["table"]) fun _ _ _ _ _ _ us hl=>by obtain ⟨x0,rfl⟩:=ef hl;rfl
 have F17:=aX (st:=(aj 17)) l17 c17 k17
 have b17:=F17.binds (ps:=["one", "other"]) fun _ _ _ _ _ _ us hl=>by obtain ⟨x0,x1,rfl⟩:=dP hl;rfl
 have F28:=aX (st:=(aj 28)) l28 c28 k28
 have b28:=F28.binds (ps:=["rows", "other"]) fun _ _ _ _ _ _ us hl=>by obtain ⟨x0,x1,rfl⟩:=dP hl;rfl
 have F27:=aX (st:=(aj 27)) l27 c27 k27
 have b27:=F27.binds (ps:=["first", "second"]) fun _ _ _ _ _ _ us hl=>by obtain ⟨x0,x1,rfl⟩:=dP hl;rfl
 have F16:=aX (st:=(aj 16)) l16 c16 k16
 have b16:=F16.binds (ps:=["numbers"]) fun _ _ _ _ _ _ us hl=>by obtain ⟨x0,rfl⟩:=ef hl;rfl
 have F22:=aX (st:=(aj 22)) l22 c22 k22
 have b22:=F22.binds (ps:=["numbers"]) fun _ _ _ _ _ _ us hl=>by obtain ⟨x0,rfl⟩:=ef hl;rfl
 have Bd:=aX (st:=(bo (aj 30) 0)) JL Kq qd
 have vZ:=Bd.binds (ps:=["self", "word", "row", "fractions"]) fun _ _ _ _ _ _ us hl=>by obtain ⟨x0,x1,x2,x3,rfl⟩:=FO hl;rfl
 have Bc:=aX (st:=(bo (aj 31) 0)) JJ Km JQ
 have Kt:=Bc.binds (ps:=["self", "numbers"]) fun _ _ _ _ _ _ us hl=>by obtain ⟨x0,x1,rfl⟩:=dP hl;rfl
 have F34:=aX (st:=(aj 34)) l34 c34 k34
 have b34:=F34.binds (ps:=["axis"]) fun _ _ _ _ _ _ us hl=>by obtain ⟨x0,rfl⟩:=ef hl;rfl
 have Bb:=aX (st:=(bo (aj 32) 0)) JI Kl JP
 have Ks:=Bb.binds (ps:=["self", "axis"]) fun _ _ _ _ _ _ us hl=>by obtain ⟨x0,x1,rfl⟩:=dP hl;rfl
 have F7:=aX (st:=(aj 7)) l7 c7 k7
 have b7:=F7.binds (ps:=["one"]) fun _ _ _ _ _ _ us hl=>by obtain ⟨x0,rfl⟩:=ef hl;rfl
 have Ba:=aX (st:=(bo (aj 33) 0)) JH Kk JO
 have Kr:=Ba.binds (ps:=["self", "axis"]) fun _ _ _ _ _ _ us hl=>by obtain ⟨x0,x1,rfl⟩:=dP hl;rfl
 have F35:=aX (st:=(aj 35)) l35 c35 k35
 have b35:=F35.binds (ps:=["word", "numbers"]) fun _ _ _ _ _ _ us hl=>by obtain ⟨x0,x1,rfl⟩:=dP hl;rfl
 have qi:=aX (st:=(bo (aj 30) 1)) JK Ko qc
 have vY:=qi.binds (ps:=["self"]) fun _ _ _ _ _ _ us hl=>by obtain ⟨x0,rfl⟩:=ef hl;rfl
 have F46:=aX (st:=(aj 46)) l46 c46 k46
 have b46:=F46.binds (ps:=["turn", "word", "first", "second"]) fun _ _ _ _ _ _ us hl=>by obtain ⟨x0,x1,x2,x3,rfl⟩:=FO hl;rfl
 have F55:=aX (st:=(aj 55)) l55 c55 k55
 have b55:=F55.binds (ps:=["_law_script"]) fun _ _ _ _ _ _ us hl=>by obtain ⟨x0,rfl⟩:=ef hl;rfl
 have F38:=aX (st:=(aj 38)) l38 c38 k38
 have b38:=F38.binds (ps:=["turn"]) fun _ _ _ _ _ _ us hl=>by obtain ⟨x0,rfl⟩:=ef hl;rfl
 have F11:=aX (st:=(aj 11)) l11 c11 k11
 have b11:=F11.binds (ps:=["four"]) fun _ _ _ _ _ _ us hl=>by obtain ⟨x0,rfl⟩:=ef hl;rfl
 have F24:=aX (st:=(aj 24)) l24 c24 k24
 have b24:=F24.binds (ps:=["rows"]) fun _ _ _ _ _ _ us hl=>by obtain ⟨x0,rfl⟩:=ef hl;rfl
 have F23:=aX (st:=(aj 23)) l23 c23 k23
 have b23:=F23.binds (ps:=["table"]) fun _ _ _ _ _ _ us hl=>by obtain ⟨x0,rfl⟩:=ef hl;rfl
 have F26:=aX (st:=(aj 26)) l26 c26 k26
 have b26:=F26.binds (ps:=["table"]) fun _ _ _ _ _ _ us hl=>by obtain ⟨x0,rfl⟩:=ef hl;rfl
 have F25:=aX (st:=(aj 25)) l25 c25 k25
 have b25:=F25.binds (ps:=["table"]) fun _ _ _ _ _ _ us hl=>by obtain ⟨x0,rfl⟩:=ef hl;rfl
 have F10:=aX (st:=(aj 10)) l10 c10 k10
 have b10:=F10.binds (ps:=["one", "other"]) fun _ _ _ _ _ _ us hl=>by obtain ⟨x0,x1,rfl⟩:=dP hl;rfl
 have F40:=aX (st:=(aj 40)) l40 c40 k40
 have b40:=F40.binds (ps:=["turn"]) fun _ _ _ _ _ _ us hl=>by obtain ⟨x0,rfl⟩:=ef hl;rfl
 have F6:=aX (st:=(aj 6)) l6 c6 k6
 have b6:=F6.binds (ps:=["one", "other"]) fun _ _ _ _ _ _ us hl=>by obtain ⟨x0,x1,rfl⟩:=dP hl;rfl
 have F8:=aX (st:=(aj 8)) l8 c8 k8
 have b8:=F8.binds (ps:=["one", "number"]) fun _ _ _ _ _ _ us hl=>by obtain ⟨x0,x1,rfl⟩:=dP hl;rfl
 have F42:=aX (st:=(aj 42)) l42 c42 k42
 have b42:=F42.binds (ps:=["spot", "other", "place"]) fun _ _ _ _ _ _ us hl=>by obtain ⟨x0,x1,x2,rfl⟩:=FP hl;rfl
 have F43:=aX (st:=(aj 43)) l43 c43 k43
 have b43:=F43.binds (ps:=["base"]) fun _ _ _ _ _ _ us hl=>by obtain ⟨x0,rfl⟩:=ef hl;rfl
 have F41:=aX (st:=(aj 41)) l41 c41 k41
 have b41:=F41.binds (ps:=["spots", "place"]) fun _ _ _ _ _ _ us hl=>by obtain ⟨x0,x1,rfl⟩:=dP hl;rfl
 have F39:=aX (st:=(aj 39)) l39 c39 k39
 have b39:=F39.binds (ps:=["turn"]) fun _ _ _ _ _ _ us hl=>by obtain ⟨x0,rfl⟩:=ef hl;rfl
 have F47:=aX (st:=(aj 47)) l47 c47 k47
 have b47:=F47.binds (ps:=["turn", "base"]) fun _ _ _ _ _ _ us hl=>by obtain ⟨x0,x1,rfl⟩:=dP hl;rfl
 have F56:=aX (st:=(aj 56)) l56 c56 k56
 have b56:=F56.binds (ps:=["_law_script"]) fun _ _ _ _ _ _ us hl=>by obtain ⟨x0,rfl⟩:=ef hl;rfl
 have F57:=aX (st:=(aj 57)) l57 c57 k57
 refine ⟨W.fnOf "law" "law" (aM (aj 57)) (ao (aj 57)) (ae (aj 57)) .none FZ GT EM HY zD G0,fun s v=>.of_eq rfl,fun base _ _=>?_⟩
 have nA0:∀C,W.nsIn K mainGlobals "Turn" = some (some (.ref C))->∀f∈[("word" : Str),("row" : Str),("fractions" : Str)],bE K C f:=by intro C hC;cases (jc.symm.trans hC);exact am (Pr:=fun f=>bE K df f) (qV) (am (Pr:=fun f=>bE K df f) (sX) (am (Pr:=fun f=>bE K df f) (gD) (ar)))
 have nA1:∀C,W.nsIn K mainGlobals "HalfTurn" = some (some (.ref C))->∀f∈[("word" : Str),("row" : Str),("fractions" : Str)],bE K C f:=by intro C hC;cases (fi.symm.trans hC);exact am (Pr:=fun f=>bE K bG f) (lJ) (am (Pr:=fun f=>bE K bG f) (my) (am (Pr:=fun f=>bE K bG f) (fz) (ar)))
 have nA2:∀C,W.nsIn K mainGlobals "Mirror" = some (some (.ref C))->∀f∈[("word" : Str),("row" : Str),("fractions" : Str)],bE K C f:=by intro C hC;cases (gv.symm.trans hC);exact am (Pr:=fun f=>bE K cj f) (n9) (am (Pr:=fun f=>bE K cj f) (pQ) (am (Pr:=fun f=>bE K cj f) (fR) (ar)))
 have nA3:∀C,W.nsIn K mainGlobals "Turn" = some (some (.ref C))->∀f∈[("fractions" : Str)],bE K C f:=by intro C hC;cases (jc.symm.trans hC);exact am (Pr:=fun f=>bE K df f) (gD) (ar)
 have nA4:∀C,W.nsIn K mainGlobals "HalfTurn" = some (some (.ref C))->∀f∈[("fractions" : Str)],bE K C f:=by intro C hC;cases (fi.symm.trans hC);exact am (Pr:=fun f=>bE K bG f) (fz) (ar)
 have nA5:∀C,W.nsIn K mainGlobals "Mirror" = some (some (.ref C))->∀f∈[("fractions" : Str)],bE K C f:=by intro C hC;cases (gv.symm.trans hC);exact am (Pr:=fun f=>bE K cj f) (fR) (ar)
 have fL0:∀p∈([("Turn", ["fractions"]),("HalfTurn", ["fractions"]),("Mirror", ["fractions"])]:List (Str×List Str)),sR K p:=am (Pr:=sR K) ((fun f hf C hC=>nA3 C hC f hf)) (am (Pr:=sR K) ((fun f hf C hC=>nA4 C hC f hf)) (am (Pr:=sR K) ((fun f hf C hC=>nA5 C hC f hf)) (ar)))
 have D49:cx l.prog w K mg base 1 "_law_cell" ik:=bC F49 LR (W.mg_of X G a49) b49 (by decide +kernel) (bj (ar) (ar) bw bv bu bp aE hbl) tL
 have D52:cx l.prog w K mg base 2 "_law_spot" lU:=bC F52 LO (W.mg_of X G a52) b52 (by decide +kernel) (bj (cL D49 (ar)) (ar) bw bv bu bp aE hbl) bX.self
 have D50:cx l.prog w K mg base 1 "_law_sign" sL:=bC F50 LQ (W.mg_of X G a50) b50 (by decide +kernel) (bj (ar) (ar) bw bv bu bp aE hbl) bX.self
 have D51:cx l.prog w K mg base 2 "_law_plain" eV:=bC F51 LP (W.mg_of X G a51) b51 (by decide +kernel) (bj (cL D50 (ar)) (ar) bw bv bu bp aE hbl) sJ
 have D54:cx l.prog w K mg base 3 "_law_axes" lV:=bC F54 LM (W.mg_of X G a54) b54 (by decide +kernel) (bj (cL D52 (cL D51 (ar))) (ar) bw bv bu bp aE hbl) bX.self
 have D53:cx l.prog w K mg base 1 "_law_alike" iG:=bC F53 LN (W.mg_of X G a53) b53 (by decide +kernel) (bj (ar) (ar) bw bv bu bp aE hbl) sK
 have D14:cx l.prog w K mg base 1 "shared_by" iO:=bC F14 Mg (W.mg_of X G a14) b14 (by decide +kernel) (bj (ar) (ar) bw bv bu bp aE hbl) bX.self
 have D13:cx l.prog w K mg base 2 "common_divisor" cA:=bC F13 Mh (W.mg_of X G a13) b13 (by decide +kernel) (bj (cL D14 (ar)) (ar) bw bv bu bp aE hbl) jI
 have D15:cx l.prog w K mg base 1 "shortened" fj:=bC F15 Mf (W.mg_of X G a15) b15 (by decide +kernel) (bj (ar) (ar) bw bv bu bp aE hbl) bX.self
 have D20:cx l.prog w K mg base 3 "lowest" jB:=bC F20 Mc (W.mg_of X G a20) b20 (by decide +kernel) (bj (cL D13 (cL D15 (ar))) (ar) bw bv bu bp aE hbl) bX.self
 have D17:cx l.prog w K mg base 1 "added_products" ej:=bC F17 Md (W.mg_of X G a17) b17 (by decide +kernel) (bj (ar) (ar) bw bv bu bp aE hbl) bX.self
 have D28:cx l.prog w K mg base 2 "each_with" lB:=bC F28 L5 (W.mg_of X G a28) b28 (by decide +kernel) (bj (cL D17 (ar)) (ar) bw bv bu bp aE hbl) bX.self
 have D27:cx l.prog w K mg base 4 "behind" lX:=xq (Db (pre:=(ao (aj 27)).take 2) (post:=(ao (aj 27)).drop 3) F27 L6 (bj (cL D20 (cL D28 (ar))) (ar) bw bv bu bp aE hbl) rfl rfl rfl rfl rfl rfl) (W.mg_of X G a27) k27 b27 (by decide +kernel)
 have D16:cx l.prog w K mg base 3 "upright" ee:=bC F16 Me (W.mg_of X G a16) b16 (by decide +kernel) (bj (cL D13 (cL D15 (ar))) (ar) bw bv bu bp aE hbl) bX.self
 have D22:cx l.prog w K mg base 4 "table_of" gJ:=bC F22 Mb (W.mg_of X G a22) b22 (by decide +kernel) (bj (cL D16 (cL D20 (ar))) (ar) bw bv bu bp aE hbl) bX.self
 have wg:bS l.prog w K mg base dM 1 qf _ ["self", "word", "row", "fractions"] (As K ["word", "row", "fractions"]):=DA Bd rfl Ex (am (Pr:=fun x=>fB (ae (bo (aj 30) 0)) x) (Or.inl rfl) (am (Pr:=fun x=>fB (ae (bo (aj 30) 0)) x) (Or.inl rfl) (am (Pr:=fun x=>fB (ae (bo (aj 30) 0)) x) (Or.inl rfl) (am (Pr:=fun x=>fB (ae (bo (aj 30) 0)) x) (Or.inl rfl) (ar))))) (am (Pr:=fun x=>fe x=true) (rfl) (am (Pr:=fun x=>fe x=true) (rfl) (am (Pr:=fun x=>fe x=true) (rfl) (am (Pr:=fun x=>fe x=true) (rfl) (ar))))) rfl (by decide) (by decide) (by decide)
 have Kx:bS l.prog w K mg base dM 5 mR _ ["self", "numbers"] (o0 K "Turn" cu):=uo (n := "Turn") (b := "Deed") Bc Ew (bj (cL D16 (cL D22 (ar))) (ar) bw bv bu bp aE hbl) (wg.mono (by decide)) vZ qd rfl (W.mg_of X G oJ) ox nT oB rfl rfl rfl (by decide +kernel) rfl (by decide) nA0
 have wf:nI l.prog w K mg base 6 "Turn" cu:=q9 mK ⟨CN,za,zb,zA⟩ Kx (W.mg_of X G jc) jc uz Kt (by decide +kernel)
 have D34:cx l.prog w K mg base 5 "half_table" fM:=bC F34 L4 (W.mg_of X G a34) b34 (by decide +kernel) (bj (cL D22 (ar)) (ar) bw bv bu bp aE hbl) bX.self
 have Kw:bS l.prog w K mg base dM 6 mQ _ ["self", "axis"] (o0 K "HalfTurn" cU):=uo (n := "HalfTurn") (b := "Deed") Bb Ev (bj (cL D16 (cL D34 (ar))) (ar) bw bv bu bp aE hbl) (wg.mono (by decide)) vZ qd rfl (W.mg_of X G oJ) ox nT oB rfl rfl rfl (by decide +kernel) rfl (by decide) nA1
 have Kz:nI l.prog w K mg base 7 "HalfTurn" cU:=q9 mK ⟨sY,rD,rE,se⟩ Kw (W.mg_of X G fi) fi lA Ks (by decide +kernel)
 have D7:cx l.prog w K mg base 1 "opposite" nG:=bC F7 Rw (W.mg_of X G a7) b7 (by decide +kernel) (bj (ar) (ar) bw bv bu bp aE hbl) bX.self
 have Kv:bS l.prog w K mg base dM 6 mP _ ["self", "axis"] (o0 K "Mirror" dh):=y9 (n := "Mirror") (b := "Deed") Ba Eu (bj (cL D34 (cL D16 (cL D7 (ar)))) (ar) bw bv bu bp aE hbl) (wg.mono (by decide)) vZ qd rfl (W.mg_of X G oJ) ox nT oB rfl rfl rfl (by decide +kernel) rfl (by decide) rfl rfl (by decide) (by decide) rfl nA2
 have Ky:nI l.prog w K mg base 7 "Mirror" dh:=q9 sZ ⟨wR,vC,vD,vJ⟩ Kv (W.mg_of X G gv) gv pH Kr (by decide +kernel)
 have D35:cx l.prog w K mg base 8 "deed_by" fD:=bC F35 L3 (W.mg_of X G a35) b35 (by decide +kernel) (bj (cR wf (cR Kz (cR Ky (ar)))) (ar) bw bv bu bp aE hbl) bX.self
 have fx:dw l.prog w K mg base 1 "HalfTurn" "table" bV:=lK qi qF fi lA ⟨lf,lg,qc⟩ vY (gQ (ar) (ar) bw bv bu bp aE (fL0) (ar) hbl) bX.self
 have gb:dw l.prog w K mg base 1 "Mirror" "table" bV:=lK qi qF gv pH ⟨mz,mB,qc⟩ vY (gQ (ar) (ar) bw bv bu bp aE (fL0) (ar) hbl) bX.self
 have im:dw l.prog w K mg base 1 "Turn" "table" bV:=lK qi qF jc uz ⟨pR,pS,qc⟩ vY (gQ (ar) (ar) bw bv bu bp aE (fL0) (ar) hbl) bX.self
 have D46:cx l.prog w K mg base 9 "shows_pair" d9:=bC F46 LT (W.mg_of X G a46) b46 (by decide +kernel) (gQ (cL D27 (cL D35 (ar))) (am (Pr:=ma mg K) (zy (ns:=[0,0,0]) (W.mg_of X G g0) m0 (show 3<=sizeLine by decide) (.cons ⟨_,rfl⟩ (.cons ⟨_,rfl⟩ (.cons ⟨_,rfl⟩ (.nil))))) (ar)) bw bv bu bp aE (ar) (am (Pr:=iQ l.prog w K mg base 8) (am (Pr:=fun q:Str×(List D->Rs D)=>dw l.prog w K mg base 8 "Turn" q.1 q.2) (im.mono (by decide)) (ar)) (am (Pr:=iQ l.prog w K mg base 8) (am (Pr:=fun q:Str×(List D->Rs D)=>dw l.prog w K mg base 8 "HalfTurn" q.1 q.2) (fx.mono (by decide)) (ar)) (am (Pr:=iQ l.prog w K mg base 8) (am (Pr:=fun q:Str×(List D->Rs D)=>dw l.prog w K mg base 8 "Mirror" q.1 q.2) (gb.mono (by decide)) (ar)) (ar)))) hbl) bX.self
 have D55:cx l.prog w K mg base 10 "_law_pair_right" ga:=bC F55 LL (W.mg_of X G a55) b55 (by decide +kernel) (bj (cL D54 (cL D49 (cL D53 (cL D46 (cL D51 (cR wf (ar))))))) (ar) bw bv bu bp aE hbl) bX.self
 have D38:cx l.prog w K mg base 2 "corner_number" fN:=bC F38 LZ (W.mg_of X G a38) b38 (by decide +kernel) (gQ (ar) (ar) bw bv bu bp aE (ar) (am (Pr:=iQ l.prog w K mg base 1) (am (Pr:=fun q:Str×(List D->Rs D)=>dw l.prog w K mg base 1 "Turn" q.1 q.2) (im.mono (by decide)) (ar)) (am (Pr:=iQ l.prog w K mg base 1) (am (Pr:=fun q:Str×(List D->Rs D)=>dw l.prog w K mg base 1 "HalfTurn" q.1 q.2) (fx.mono (by decide)) (ar)) (am (Pr:=iQ l.prog w K mg base 1) (am (Pr:=fun q:Str×(List D->Rs D)=>dw l.prog w K mg base 1 "Mirror" q.1 q.2) (gb.mono (by decide)) (ar)) (ar)))) hbl) bX.self
 have D11:cx l.prog w K mg base 1 "other_signed" fZ:=bC F11 Mi (W.mg_of X G a11) b11 (by decide +kernel) (bj (ar) (ar) bw bv bu bp aE hbl) lj
 have D24:cx l.prog w K mg base 2 "determinant" gA:=bC F24 L9 (W.mg_of X G a24) b24 (by decide +kernel) (bj (cL D17 (ar)) (ar) bw bv bu bp aE hbl) bX.self
 have D23:cx l.prog w K mg base 3 "table_fault" fo:=bC F23 Ma (W.mg_of X G a23) b23 (by decide +kernel) (bj (cL D17 (cL D24 (ar))) (am (Pr:=ma mg K) (rY (ds:=[.tup [.int 0,.int 0],.tup [.int 0,.int 1],.tup [.int 0,.int 2],.tup [.int 1,.int 1],.tup [.int 1,.int 2],.tup [.int 2,.int 2]]) (vs:=[.ref vT,.ref vS,.ref vR,.ref vQ,.ref vP,.ref vO]) (W.mg_of X G g1) m1 (show 6<=sizeLine by decide) (.cons rfl (.cons rfl (.cons rfl (.cons rfl (.cons rfl (.cons rfl (.nil))))))) (fun H P=>ai.cons (eG (ns:=[0,0]) Om (show 2<=sizeLine by decide) (.cons ⟨_,rfl⟩ (.cons ⟨_,rfl⟩ (.nil))) H P) (ai.cons (eG (ns:=[0,1]) Ol (show 2<=sizeLine by decide) (.cons ⟨_,rfl⟩ (.cons ⟨_,rfl⟩ (.nil))) H P) (ai.cons (eG (ns:=[0,2]) Oj (show 2<=sizeLine by decide) (.cons ⟨_,rfl⟩ (.cons ⟨_,rfl⟩ (.nil))) H P) (ai.cons (eG (ns:=[1,1]) Oi (show 2<=sizeLine by decide) (.cons ⟨_,rfl⟩ (.cons ⟨_,rfl⟩ (.nil))) H P) (ai.cons (eG (ns:=[1,2]) Oh (show 2<=sizeLine by decide) (.cons ⟨_,rfl⟩ (.cons ⟨_,rfl⟩ (.nil))) H P) (ai.cons (eG (ns:=[2,2]) Og (show 2<=sizeLine by decide) (.cons ⟨_,rfl⟩ (.cons ⟨_,rfl⟩ (.nil))) H P) (ai.nil)))))))) (ar)) bw bv bu bp aE hbl) bX.self
 have D26:cx l.prog w K mg base 1 "multiples" iP:=bC F26 L7 (W.mg_of X G a26) b26 (by decide +kernel) (bj (ar) (ar) bw bv bu bp aE hbl) bX.self
 have D25:cx l.prog w K mg base 4 "number_of" gp:=bC F25 L8 (W.mg_of X G a25) b25 (by decide +kernel) (bj (cL D23 (cL D16 (cL D26 (ar)))) (ar) bw bv bu bp aE hbl) bX.self
 have D10:cx l.prog w K mg base 1 "plain_product" fJ:=bC F10 Mj (W.mg_of X G a10) b10 (by decide +kernel) (bj (ar) (ar) bw bv bu bp aE hbl) ku
 have D40:cx l.prog w K mg base 5 "staying_spots" fK:=bC F40 LX (W.mg_of X G a40) b40 (by decide +kernel) (gQ (cL D38 (cL D11 (cL D25 (cL D10 (ar))))) (am (Pr:=ma mg K) (rY (ds:=[.tup [.int 1,.int 0,.int 0,.int 0],.tup [.int 0,.int 1,.int 0,.int 0],.tup [.int 0,.int 0,.int 1,.int 0],.tup [.int 0,.int 0,.int 0,.int 1]]) (vs:=[.ref vN,.ref vM,.ref vL,.ref vK]) (W.mg_of X G g2) m2 (show 4<=sizeLine by decide) (.cons rfl (.cons rfl (.cons rfl (.cons rfl (.nil))))) (fun H P=>ai.cons (eG (ns:=[1,0,0,0]) Of (show 4<=sizeLine by decide) (.cons ⟨_,rfl⟩ (.cons ⟨_,rfl⟩ (.cons ⟨_,rfl⟩ (.cons ⟨_,rfl⟩ (.nil))))) H P) (ai.cons (eG (ns:=[0,1,0,0]) Oe (show 4<=sizeLine by decide) (.cons ⟨_,rfl⟩ (.cons ⟨_,rfl⟩ (.cons ⟨_,rfl⟩ (.cons ⟨_,rfl⟩ (.nil))))) H P) (ai.cons (eG (ns:=[0,0,1,0]) Od (show 4<=sizeLine by decide) (.cons ⟨_,rfl⟩ (.cons ⟨_,rfl⟩ (.cons ⟨_,rfl⟩ (.cons ⟨_,rfl⟩ (.nil))))) H P) (ai.cons (eG (ns:=[0,0,0,1]) Oc (show 4<=sizeLine by decide) (.cons ⟨_,rfl⟩ (.cons ⟨_,rfl⟩ (.cons ⟨_,rfl⟩ (.cons ⟨_,rfl⟩ (.nil))))) H P) (ai.nil)))))) (ar)) bw bv bu bp aE (ar) (am (Pr:=iQ l.prog w K mg base 4) (am (Pr:=fun q:Str×(List D->Rs D)=>dw l.prog w K mg base 4 "Turn" q.1 q.2) (im.mono (by decide)) (ar)) (am (Pr:=iQ l.prog w K mg base 4) (am (Pr:=fun q:Str×(List D->Rs D)=>dw l.prog w K mg base 4 "HalfTurn" q.1 q.2) (fx.mono (by decide)) (ar)) (am (Pr:=iQ l.prog w K mg base 4) (am (Pr:=fun q:Str×(List D->Rs D)=>dw l.prog w K mg base 4 "Mirror" q.1 q.2) (gb.mono (by decide)) (ar)) (ar)))) hbl) bX.self
 have D6:cx l.prog w K mg base 1 "less" x4:=bC F6 Rx (W.mg_of X G a6) b6 (by decide +kernel) (bj (ar) (ar) bw bv bu bp aE hbl) bX.self
 have D8:cx l.prog w K mg base 1 "many_times" ky:=bC F8 Rv (W.mg_of X G a8) b8 (by decide +kernel) (bj (ar) (ar) bw bv bu bp aE hbl) bX.self
 have D42:cx l.prog w K mg base 2 "brought_below" eM:=bC F42 LV (W.mg_of X G a42) b42 (by decide +kernel) (bj (cL D6 (cL D8 (ar))) (ar) bw bv bu bp aE hbl) bX.self
 have D43:cx l.prog w K mg base 3 "reduced" iH:=bC F43 LU (W.mg_of X G a43) b43 (by decide +kernel) (bj (cL D42 (ar)) (ar) bw bv bu bp aE hbl) bX.self
 have D41:cx l.prog w K mg base 3 "swept" oQ:=bC F41 LW (W.mg_of X G a41) b41 (by decide +kernel) (bj (cL D42 (ar)) (ar) bw bv bu bp aE hbl) bX.self
 have D39:cx l.prog w K mg base 6 "base_of" dH:=bC F39 LY (W.mg_of X G a39) b39 (by decide +kernel) (bj (cL D40 (cL D43 (cL D41 (ar)))) (ar) bw bv bu bp aE hbl) bX.self
 have D47:cx l.prog w K mg base 7 "shows_base" fL:=bC F47 LS (W.mg_of X G a47) b47 (by decide +kernel) (bj (cL D39 (ar)) (ar) bw bv bu bp aE hbl) bX.self
 have D56:cx l.prog w K mg base 8 "_law_base_right" dZ:=xq (Dd F56 LK (bj (cL D39 (cL D49 (cL D47 (cR wf (ar))))) (ar) bw bv bu bp aE hbl) lm) (W.mg_of X G a56) k56 b56 (by decide +kernel)
 exact oz F57 LJ (bj (cL D55 (cL D56 (ar))) (ar) bw bv bu bp aE hbl) bX.self
theorem walkX {q:Program} {loose:List Str} {XP:(Str->Option Value)->Heap->Prop} {r:W.RowW} {d:DefRec} {kwd:List (Str×Expr)} {run:Value->List Value->Sem Value} {K:Params->W.Frag} {as:List Addr} {n t:Nat}
  (e:∀P,as=(K P).map (·.1)) (h:W.WalkO q loose XP (W.InK K) r d kwd run):W.WalkX q loose XP (W.X.obsZ as) (W.X.valZ K n t) r d kwd run :=
 fun w _ _ mg mb G y a o pm cd doc dV kV h1 h2 h3 h4 h5 h6 args vals as' L =>
  h w _ _ mg mb G (W.InK.keeps w _ _ (W.X.z_facts e y).2.1 L.keeps) a o pm cd doc dV kV h1 h2 h3 h4 h5 h6 args vals as'
theorem walk {l:W.OpenLaw} {q:Program} {loose:List Str} {XP:(Str->Option Value)->Heap->Prop} {YP:World->Heap->Prop} {d:DefRec} {K:Params->W.Frag} (hn:l.most=some 63) (hdf:d.params.defaults=[])
  (hY:∀(w:World) (h:Heap),YP w h->(K w.params).In h)
  (F:∀(w:World) (mg:Str->Option Value) (fa:Addr) (h:Heap),(K w.params).In h->h.Ns mainGlobals mg->mg d.name=some (.ref fa) ->
   ∃fd:FuncData,(∀(s:Shared) (u:Value),BindsTo s fd ⟨[u],[]⟩ [("_law_script", u)])/\∀base:Heap,(K w.params).In base->base.Ns mainGlobals mg->bS l.prog w (K w.params) mg base dM 11 fa fd ["_law_script"] (jC (K w.params) qg)) :
  W.WalkO q loose XP YP l.row.toRowW d [] (fun f vs=>PySem.call f vs) :=
 L2.walk_ofB (n:=63) (k:=11) (x := "_law_script") (CX:=fun _=>dM) (sp:=fun w=>jC (K w.params) qg) hn (by decide) hdf ⟨rfl,by decide,by decide⟩ hY F (fun _ _ a ns hl hb hO hS=>Gp hO hS (yY ns hl hb)) fun _ _ _ _ _ z=>z
end K
theorem PySem.W.Fast.tw16338945581026069999:True:=True.intro
theorem PySem.W.Fast.tw3371513748068627804:True:=True.intro
theorem PySem.W.Fast.tw7794002083587197188:True:=True.intro
theorem PySem.W.Fast.tw18093291772956661863:True:=True.intro
theorem PySem.W.Fast.tw6691305471700733164:True:=True.intro
theorem PySem.W.Fast.tw13236891993321689445:True:=True.intro
theorem PySem.W.Fast.tw11630848277097506991:True:=True.intro
theorem PySem.W.Fast.tw16543383408055185313:True:=True.intro
theorem PySem.W.Fast.tw13469744893276856725:True:=True.intro
theorem PySem.W.Fast.tw8361957152702454469:True:=True.intro
theorem PySem.W.Fast.tw670069392836088479:True:=True.intro
theorem PySem.W.Fast.tw2992117674565987202:True:=True.intro
theorem PySem.W.Fast.tw6281687309914829947:True:=True.intro
theorem PySem.W.Fast.tw7478049331595356171:True:=True.intro
theorem PySem.W.Fast.tw17243662590988978403:True:=True.intro
theorem PySem.W.Fast.tw15201138709395065566:True:=True.intro
theorem PySem.W.Fast.tw72554923475837398:True:=True.intro
theorem PySem.W.Fast.tw3317230745935550110:True:=True.intro
theorem PySem.W.Fast.tw2792159777363706290:True:=True.intro
theorem PySem.W.Fast.tw14530560785241932079:True:=True.intro
theorem PySem.W.Fast.tw7663418249964873296:True:=True.intro
theorem PySem.W.Fast.tw6348608837538516688:True:=True.intro
theorem PySem.W.Fast.tw5319216717732503783:True:=True.intro
theorem PySem.W.Fast.tw14488844563340432481:True:=True.intro
theorem PySem.W.Fast.tw587927170179598116:True:=True.intro
theorem PySem.W.Fast.tw7321372271403154555:True:=True.intro
theorem PySem.W.Fast.tw12504411113872514591:True:=True.intro
theorem PySem.W.Fast.tw3106352685624079587:True:=True.intro
theorem PySem.W.Fast.tw6987025671103548544:True:=True.intro
theorem PySem.W.Fast.tw9120775437197508303:True:=True.intro
theorem PySem.W.Fast.tw25207278229747706:True:=True.intro
theorem PySem.W.Fast.tw14967988591096900075:True:=True.intro
theorem PySem.W.Fast.tw8680120907711907187:True:=True.intro
theorem PySem.W.Fast.tw2376270612043261870:True:=True.intro
theorem PySem.W.Fast.tw12021393679145203925:True:=True.intro
theorem PySem.W.Fast.tw3208697911329212364:True:=True.intro
theorem PySem.W.Fast.tw4096448147408083052:True:=True.intro
theorem PySem.W.Fast.tw17509632446524150707:True:=True.intro
theorem PySem.W.Fast.tw5262939023012326746:True:=True.intro
theorem PySem.W.Fast.tw12172905171571006946:True:=True.intro
theorem PySem.W.Fast.tw9891760140974130923:True:=True.intro
theorem PySem.W.Fast.tw1466985783153184714:True:=True.intro
theorem PySem.W.Fast.tw6116873069350330597:True:=True.intro
theorem PySem.W.Fast.tw1429381536417391340:True:=True.intro
theorem PySem.W.Fast.tw14833454329005276422:True:=True.intro
theorem PySem.W.Fast.tw12866489625713410907:True:=True.intro
theorem PySem.W.Fast.tw17897593291221393866:True:=True.intro
theorem PySem.W.Fast.tw6840598434243673408:True:=True.intro
theorem PySem.W.Fast.tw4580007219063883588:True:=True.intro
theorem PySem.W.Fast.tw6766821670509596763:True:=True.intro
theorem PySem.W.Fast.tw13760636332365763250:True:=True.intro
theorem PySem.W.Fast.tw3668953517465669358:True:=True.intro
theorem PySem.W.Fast.tw7360006009159417485:True:=True.intro
theorem PySem.W.Fast.tw6824634144039073770:True:=True.intro
theorem PySem.W.Fast.tw9424771173707440974:True:=True.intro
theorem PySem.W.Fast.tw8854880684877547130:True:=True.intro
theorem PySem.W.Fast.tw2309090442863896632:True:=True.intro
theorem PySem.W.Fast.tw13585902319033577518:True:=True.intro
theorem PySem.W.Fast.tw17810045814477841583:True:=True.intro
theorem PySem.W.Fast.tw11996603284704274302:True:=True.intro
theorem PySem.W.Fast.tw3633271278725627874:True:=True.intro
theorem PySem.W.Fast.tw11054421420710718812:True:=True.intro
theorem PySem.W.Fast.tw463433075410388950:True:=True.intro
theorem PySem.W.Fast.tw10497526634029494173:True:=True.intro
theorem PySem.W.Fast.tw18225450771122811057:True:=True.intro
theorem PySem.W.Fast.tw16386008779321799759:True:=True.intro
theorem PySem.W.Fast.tw16580820729342595844:True:=True.intro
theorem PySem.W.Fast.tw3937606254256372344:True:=True.intro
theorem PySem.W.Fast.tw982664888388238241:True:=True.intro
theorem PySem.W.Fast.tw9236151992748238122:True:=True.intro
theorem PySem.W.Fast.tw9748318480162620514:True:=True.intro
theorem PySem.W.Fast.tw7538336783505553428:True:=True.intro
theorem PySem.W.Fast.tw11311079579979164254:True:=True.intro
theorem PySem.W.Fast.tw18340704167601044162:True:=True.intro
theorem PySem.W.Fast.tw11714700579586152511:True:=True.intro
theorem PySem.W.Fast.tw5186012754277427738:True:=True.intro
theorem PySem.W.Fast.tw18141913547336634854:True:=True.intro
theorem PySem.W.Fast.tw13751608990183466644:True:=True.intro
theorem PySem.W.Fast.tw6667104568893618613:True:=True.intro
theorem PySem.W.Fast.tw17087716314714431881:True:=True.intro
theorem PySem.W.Fast.tw5475810231375585660:True:=True.intro
theorem PySem.W.Fast.tw6407521687852856456:True:=True.intro
theorem PySem.W.Fast.tw12785287312794563674:True:=True.intro
open PySem PySem.W PyProof.Rows
set_option maxRecDepth 100000 in
set_option maxHeartbeats 0 in
theorem PySem.Challenge.cw_spaceturns_k50_pairs_and_bases_looked_at_holds : PySem.Challenge.rw_spaceturns_k50_pairs_and_bases_looked_at.Holds := by
 w_on;o_law;z_head;(case hw=>w_witness2)
 k_fill
 refine K.walkX (fun _=>rfl) (K.walk (l:=PySem.Challenge.rw_spaceturns_k50_pairs_and_bases_looked_at) rfl rfl (fun w h Y=>Y) ?F)
 case F =>
  intro w mg fa h KX G hmg
  refine' K.all_mk KX G hmg ?_ ?_ ?_ ?_ ?_ ?_ ?_ ?_ ?_ ?_ ?_ ?_ ?_ ?_ ?_ ?_ ?_ ?_ ?_ ?_ ?_ ?_ ?_ ?_ ?_ ?_ ?_ ?_ ?_ ?_ ?_ ?_ ?_ ?_ ?_ ?_ ?_ ?_ ?_ ?_ ?_ ?_ ?_ ?_ ?_ ?_ ?_ ?_ ?_ ?_ ?_ ?_ ?_ ?_ ?_ ?_ ?_ ?_ ?_ ?_ ?_ ?_ ?_ ?_ ?_ ?_ ?_ ?_ ?_ ?_ ?_ ?_ ?_ ?_ ?_ ?_ ?_ ?_ ?_ ?_ ?_ ?_ ?_ ?_ ?_ ?_ ?_ ?_ ?_ ?_ ?_ ?_ ?_ ?_ ?_ ?_ ?_ ?_ ?_ ?_ ?_ ?_ ?_ ?_ ?_ ?_ ?_ ?_ ?_ ?_ ?_ ?_ ?_ ?_ ?_ ?_ ?_ ?_ ?_ ?_ ?_ ?_ ?_ ?_ ?_ ?_ ?_ ?_ ?_ ?_ ?_ ?_ ?_ ?_ ?_ ?_ ?_ ?_ ?_ ?_ ?_ ?_ ?_ ?_ ?_ ?_ ?_ ?_ ?_ ?_ ?_ ?_ ?_ ?_ ?_ ?_ ?_ ?_ ?_ ?_ ?_ ?_ ?_ ?_ ?_ ?_ ?_ ?_ ?_ ?_ ?_ ?_ ?_ ?_ ?_ ?_ ?_ ?_ ?_ ?_ ?_ ?_ ?_ ?_ ?_ ?_ ?_ ?_ ?_ ?_ ?_ ?_ ?_ ?_ ?_ ?_ ?_ ?_ ?_ ?_ ?_ ?_ ?_ ?_ ?_ ?_ ?_ ?_ ?_ ?_ ?_ ?_ ?_ ?_ ?_ ?_ ?_ ?_ ?_ ?_ ?_ ?_ ?_ ?_ ?_ ?_ ?_ ?_ ?_ ?_ ?_ ?_ ?_ ?_ ?_ ?_ ?_ ?_ ?_ ?_ ?_ ?_ ?_ ?_
  all_goals try first|k_is|kernel_rfl
